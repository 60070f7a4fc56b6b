import PyProof.Rows.All
import OpenK.KWalk
import OpenK.KCls
import OpenK.KTop
import OpenK.KLaw
import Wide.FinOn
import KE.RegKIsAll
import KE.KItem
import KE.KxBytes
import PyProof.EqAt
import PyProof.EqKinds
import PyProof.NeData
import PyProof.TupleCall
import PyProof.MinMaxWalk
import KE.KDictList
import KE.KDictOf
import KE.KEqDict
import PyProof.AttrMissHeap
import PyProof.EnumFor
import PyProof.EnumMake
import PyProof.EnumStmt
import PyProof.TupleIter
import PyProof.Seq
import KE.KPairComp
import PyProof.DictItems
import PyProof.DictRoadsH
import PyProof.ReprRoads
import PyProof.ReprLen
import PyProof.StrLawsRepr
import PyProof.ExcClass2
import PyProof.InstStoreFacts
import PyProof.Rows.FStr
import PyProof.ExcAttrAll.ValueError
import KE.KDictSum
import KE.KRevSl
import PyProof.RaisesMany
import PyProof.RulesTry
import KE.KTryMore
import PyProof.RulesAs
import PyProof.ReprStr
import PyProof.ListStr
import PyProof.StrLawsIn
import KE.KDictLaws
import PyProof.NsDelKeeps
import PyProof.FString4
import PySem.Challenge.RW_aheadword_k41_deeds_on_layers
set_option maxHeartbeats 4000000
set_option Elab.async false
set_option linter.all false
namespace L2
open PySem
noncomputable abbrev va:List Value:=[.type "ValueError",.type "Exception",.type "BaseException",.type "object"]
noncomputable def cx (K:PySem.W.Frag) (C:Addr) (r:Option Value):Bool:=match K.lookup C with
 |some ⟨.type "type",_,.cls cd,sl⟩=>(match cd.mro,sl.toList with
  |.ref C'::bm,[_,_,_,_,some (.builtin n),_]=>C'==C&&n == "ValueError.__new__" && !cd.hasDel&&PySem.W.tailIn K va bm&&PySem.W.nsOkIn K cd.ns&&PySem.W.nsIn K cd.ns "__init__" == some r
  |_,_=>false)
 |_=>false
noncomputable def eA (K:PySem.W.Frag) (C:Addr):Bool:=PySem.W.keepIn K (.ref C)&&PySem.W.findIn K (.ref C) "__getattribute__" == some (some (.builtin "BaseException.__getattribute__"))&&PySem.W.findIn K (.ref C) "__getattr__" == some none&&PySem.W.mroIn K C (.type "BaseException")==some true &&
 (PySem.W.clsIn K C).isSome&&PySem.W.findIn K (.ref C) "__class__" == some (some (.builtin "object.__class__"))&&PySem.W.specialIn K (.builtin "object.__class__") "__get__" == some (some (.builtin "getset_descriptor.__get__"))&&PySem.W.takesIn K (.builtin "object.__class__")==some true &&
 PySem.W.mroIn K C (.type "object")==some true
noncomputable def bj (s:Stmt) (j:Nat):Stmt:=match s with
 |.ClassDef _ _ _ body _ _ _ _ _ _ _=>body.getD j (.Pass ⟨0,0,0,0⟩)
 |_=>.Pass ⟨0,0,0,0⟩
noncomputable def au (s:Stmt):Arguments:=match s with
 |.FunctionDef _ a _ _ _ _ _ _ _ _=>a
 |_=>{ posonlyargs:=[],args:=[],vararg:=none,kwonlyargs:=[],kw_defaults:=[],kwarg:=none,defaults:=[] }
noncomputable def am (s:Stmt):List Stmt:=match s with
 |.FunctionDef _ _ b _ _ _ _ _ _ _=>b
 |_=>[]
noncomputable def ai (s:Stmt):Scope:=match s with
 |.FunctionDef _ _ _ _ _ _ sc _ _ _=>sc
 |_=>{ kind:=.function,names:=[],isGenerator:=false,isCoroutine:=false }
end L2
namespace My
open PySem L2
noncomputable def top (i:Nat):Stmt:=PySem.Challenge.pw_aheadword_k41_deeds_on_layers.main.body.getD i (.Pass ⟨0,0,0,0⟩)
noncomputable abbrev fM:Stmt:=top 12
noncomputable abbrev fW:Stmt:=top 13
noncomputable abbrev fF:Stmt:=top 18
noncomputable abbrev fX:Stmt:=top 19
noncomputable abbrev fY:Stmt:=top 20
noncomputable abbrev fN:Stmt:=top 21
noncomputable abbrev fG:Stmt:=top 22
noncomputable abbrev dA:Stmt:=bj (top 24) 0
noncomputable abbrev cN:Stmt:=bj (top 24) 1
noncomputable abbrev cT:Stmt:=bj (top 24) 2
noncomputable abbrev cU:Stmt:=bj (top 24) 3
noncomputable abbrev cO:Stmt:=bj (top 24) 4
noncomputable abbrev dB:Stmt:=bj (top 24) 5
noncomputable abbrev dC:Stmt:=bj (top 24) 7
noncomputable abbrev du:Stmt:=bj (top 24) 9
noncomputable abbrev dw:Stmt:=bj (top 24) 10
noncomputable abbrev fO:Stmt:=top 26
noncomputable abbrev dm:Stmt:=bj (top 27) 0
noncomputable abbrev cR:Stmt:=bj (top 27) 1
noncomputable abbrev cM:Stmt:=bj (top 27) 2
noncomputable abbrev cP:Stmt:=bj (top 27) 3
noncomputable abbrev cQ:Stmt:=bj (top 27) 4
noncomputable abbrev dn:Stmt:=bj (top 27) 5
noncomputable abbrev dj:Stmt:=bj (top 27) 6
noncomputable abbrev dh:Stmt:=bj (top 27) 7
noncomputable abbrev bY:Stmt:=bj (top 27) 8
noncomputable abbrev cc:Stmt:=bj (top 27) 9
noncomputable abbrev di:Stmt:=bj (top 27) 10
noncomputable abbrev dk:Stmt:=bj (top 27) 11
noncomputable abbrev fP:Stmt:=top 29
noncomputable abbrev fQ:Stmt:=top 30
noncomputable abbrev fR:Stmt:=top 31
noncomputable abbrev fz:Stmt:=top 32
noncomputable abbrev fS:Stmt:=top 33
noncomputable abbrev fH:Stmt:=top 34
noncomputable abbrev fI:Stmt:=top 35
noncomputable abbrev fD:Stmt:=top 36
noncomputable abbrev fT:Stmt:=top 37
noncomputable abbrev fu:Stmt:=top 38
noncomputable abbrev fJ:Stmt:=top 39
noncomputable abbrev fU:Stmt:=top 40
noncomputable abbrev fk:Stmt:=top 41
noncomputable abbrev fL:Stmt:=top 42
noncomputable abbrev fV:Stmt:=top 43
noncomputable abbrev fZ:Stmt:=top 44
noncomputable abbrev fo:Stmt:=top 45
noncomputable abbrev fq:Stmt:=top 46
noncomputable abbrev fj:Stmt:=top 47
noncomputable abbrev dI:Stmt:=top 48
noncomputable def Fx (K:W.Frag):Prop:=∀ R:Prop,(∀ {fr fb f1 f2 f3 f4 f5 fwo ffe fd fp fft fw fws fct fhv flb fit flr flt fnm fki fdn fdu fog fbw fbr flw fwi fwm fwq fwu fwz fwf fwh fwb fwv fyi fyq fyz fyh fys fyt fya fye fyu fyf fyo fyd C_Wood C_Layers C_NoWord C_Twice C_Absent C_AheadError C_Beside C_NoChoice C_NoRow C_NoSign C_NoText:Addr}
  {odr anr odb anb od1 an1 od2 an2 od3 an3 od4 an4 od5 an5 odwo anwo odfe anfe odd and odp anp odft anft odw anw odws anws odct anct odhv anhv odlb anlb odit anit odlr anlr odlt anlt odnm annm odki anki oddn andn oddu andu odog anog odbw anbw odbr anbr odlw anlw odwi anwi odwm anwm odwq anwq odwu anwu odwz anwz odwf anwf odwh anwh odwb anwb odwv anwv odyi anyi odyq anyq odyz anyz odyh anyh odys anys odyt anyt odya anya odye anye odyu anyu odyf anyf odyo anyo odyd anyd oddwu oddwf oddyu oddyf:Option Addr}{slr slb sl1 sl2 sl3 sl4 sl5 slwo slfe sld slp slft slw slws slct slhv sllb slit sllr sllt slnm slki sldn sldu slog slbw slbr sllw slwi slwm slwq slwu slwz slwf slwh slwb slwv slyi slyq slyz slyh slys slyt slya slye slyu slyf slyo slyd sldwu sldwf sldyu sldyf:Array (Option Value)}{ocr kVr dcr pmr cdr ctr ocb kVb dcb pmb cdb ctb oc1 kV1 dc1 pm1 cd1 ct1 oc2 kV2 dc2 pm2 cd2 ct2 oc3 kV3 dc3 pm3 cd3 ct3 oc4 kV4 dc4 pm4 cd4 ct4 oc5 kV5 dc5 pm5 cd5 ct5 ocwo kVwo dcwo pmwo cdwo ctwo ocfe kVfe dcfe pmfe cdfe ctfe ocd kVd dcd pmd cdd ctd ocp kVp dcp pmp cdp ctp ocft kVft dcft pmft cdft ctft ocw kVw dcw pmw cdw ctw ocws kVws dcws pmws cdws ctws occt kVct dcct pmct cdct ctct ochv kVhv dchv pmhv cdhv cthv oclb kVlb dclb pmlb cdlb ctlb ocit kVit dcit pmit cdit ctit oclr kVlr dclr pmlr cdlr ctlr oclt kVlt dclt pmlt cdlt ctlt ocnm kVnm dcnm pmnm cdnm ctnm ocki kVki dcki pmki cdki ctki ocdn kVdn dcdn pmdn cddn ctdn ocdu kVdu dcdu pmdu cddu ctdu ocog kVog dcog pmog cdog ctog ocbw kVbw dcbw pmbw cdbw ctbw ocbr kVbr dcbr pmbr cdbr ctbr oclw kVlw dclw pmlw cdlw ctlw ocwi kVwi dcwi pmwi cdwi ctwi ocwm kVwm dcwm pmwm cdwm ctwm ocwq kVwq dcwq pmwq cdwq ctwq ocwu kVwu dcwu pmwu cdwu ctwu ocwz kVwz dcwz pmwz cdwz ctwz ocwf kVwf dcwf pmwf cdwf ctwf ocwh kVwh dcwh pmwh cdwh ctwh ocwb kVwb dcwb pmwb cdwb ctwb ocwv kVwv dcwv pmwv cdwv ctwv ocyi kVyi dcyi pmyi cdyi ctyi ocyq kVyq dcyq pmyq cdyq ctyq ocyz kVyz dcyz pmyz cdyz ctyz ocyh kVyh dcyh pmyh cdyh ctyh ocys kVys dcys pmys cdys ctys ocyt kVyt dcyt pmyt cdyt ctyt ocya kVya dcya pmya cdya ctya ocye kVye dcye pmye cdye ctye ocyu kVyu dcyu pmyu cdyu ctyu ocyf kVyf dcyf pmyf cdyf ctyf ocyo kVyo dcyo pmyo cdyo ctyo ocyd kVyd dcyd pmyd cdyd ctyd ocdwu ocdwf ocdyu ocdyf:Value}
  {tk_MOST_SIGNS:Tok}
  {tk_MOST_PARTS:Tok}
  {tk_MOST_LETTERS:Tok}
  {dTwu:Addr}{tkdwu:Tok}{ndwu:Nat}
  {dTwf:Addr}{tkdwf:Tok}{ndwf:Nat}
  {dTyu:Addr}{tkdyu:Tok}{ndyu:Nat}
  {dTyf:Addr}{tkdyf:Tok}{ndyf:Nat}
  (aC_Wood:W.nsIn K mainGlobals "Wood"=some (some (.ref C_Wood)))
  (awi:W.findIn K (.ref C_Wood) "__init__"=some (some (.ref fwi))) (iwi:W.isFn K (.ref fwi)=true) (lwi:K.lookup fwi=some ⟨ocwi,odwi,.func (W.fnOf "__init__" "Wood.__init__" (au dA) (am dA) (ai dA) .none kVwi dcwi pmwi anwi cdwi ctwi),slwi⟩) (cwi:W.codeIn K cdwi "Wood.__init__"=true) (kwi:W.keepIn K (.ref fwi)=true)
  (awm:W.findIn K (.ref C_Wood) "mark_of"=some (some (.ref fwm))) (iwm:W.isFn K (.ref fwm)=true) (lwm:K.lookup fwm=some ⟨ocwm,odwm,.func (W.fnOf "mark_of" "Wood.mark_of" (au cN) (am cN) (ai cN) .none kVwm dcwm pmwm anwm cdwm ctwm),slwm⟩) (cwm:W.codeIn K cdwm "Wood.mark_of"=true) (kwm:W.keepIn K (.ref fwm)=true)
  (awq:W.findIn K (.ref C_Wood) "put"=some (some (.ref fwq))) (iwq:W.isFn K (.ref fwq)=true) (lwq:K.lookup fwq=some ⟨ocwq,odwq,.func (W.fnOf "put" "Wood.put" (au cT) (am cT) (ai cT) .none kVwq dcwq pmwq anwq cdwq ctwq),slwq⟩) (cwq:W.codeIn K cdwq "Wood.put"=true) (kwq:W.keepIn K (.ref fwq)=true)
  (awu:W.findIn K (.ref C_Wood) "use"=some (some (.ref fwu))) (iwu:W.isFn K (.ref fwu)=true) (lwu:K.lookup fwu=some ⟨ocwu,odwu,.func (W.fnOf "use" "Wood.use" (au cU) (am cU) (ai cU) (.ref dTwu) kVwu dcwu pmwu anwu cdwu ctwu),slwu⟩) (cwu:W.codeIn K cdwu "Wood.use"=true) (kwu:W.keepIn K (.ref fwu)=true)
  (ldwu:K.lookup dTwu=some ⟨ocdwu,oddwu,.seq #[.int 1 tkdwu] ndwu,sldwu⟩)
  (awz:W.findIn K (.ref C_Wood) "strike"=some (some (.ref fwz))) (iwz:W.isFn K (.ref fwz)=true) (lwz:K.lookup fwz=some ⟨ocwz,odwz,.func (W.fnOf "strike" "Wood.strike" (au cO) (am cO) (ai cO) .none kVwz dcwz pmwz anwz cdwz ctwz),slwz⟩) (cwz:W.codeIn K cdwz "Wood.strike"=true) (kwz:W.keepIn K (.ref fwz)=true)
  (awf:W.findIn K (.ref C_Wood) "fade"=some (some (.ref fwf))) (iwf:W.isFn K (.ref fwf)=true) (lwf:K.lookup fwf=some ⟨ocwf,odwf,.func (W.fnOf "fade" "Wood.fade" (au dB) (am dB) (ai dB) (.ref dTwf) kVwf dcwf pmwf anwf cdwf ctwf),slwf⟩) (cwf:W.codeIn K cdwf "Wood.fade"=true) (kwf:W.keepIn K (.ref fwf)=true)
  (ldwf:K.lookup dTwf=some ⟨ocdwf,oddwf,.seq #[.int 1 tkdwf] ndwf,sldwf⟩)
  (awh:W.findIn K (.ref C_Wood) "has"=some (some (.ref fwh))) (iwh:W.isFn K (.ref fwh)=true) (lwh:K.lookup fwh=some ⟨ocwh,odwh,.func (W.fnOf "has" "Wood.has" (au dC) (am dC) (ai dC) .none kVwh dcwh pmwh anwh cdwh ctwh),slwh⟩) (cwh:W.codeIn K cdwh "Wood.has"=true) (kwh:W.keepIn K (.ref fwh)=true)
  (awb:W.findIn K (.ref C_Wood) "begun"=some (some (.ref fwb))) (iwb:W.isFn K (.ref fwb)=true) (lwb:K.lookup fwb=some ⟨ocwb,odwb,.func (W.fnOf "begun" "Wood.begun" (au du) (am du) (ai du) .none kVwb dcwb pmwb anwb cdwb ctwb),slwb⟩) (cwb:W.codeIn K cdwb "Wood.begun"=true) (kwb:W.keepIn K (.ref fwb)=true)
  (awv:W.findIn K (.ref C_Wood) "words"=some (some (.ref fwv))) (iwv:W.isFn K (.ref fwv)=true) (lwv:K.lookup fwv=some ⟨ocwv,odwv,.func (W.fnOf "words" "Wood.words" (au dw) (am dw) (ai dw) .none kVwv dcwv pmwv anwv cdwv ctwv),slwv⟩) (cwv:W.codeIn K cdwv "Wood.words"=true) (kwv:W.keepIn K (.ref fwv)=true)
  (pg_Wood:W.plainGet K C_Wood Str.empty=true) (hd_Wood:W.hasDictIn K C_Wood=true) (po_Wood:W.plainOver K C_Wood=true) (sa_Wood:W.findIn K (.ref C_Wood) "__setattr__"=some (some (.builtin "object.__setattr__"))) (mk_Wood:W.makesIn K C_Wood=true) (kc_Wood:W.keepIn K (.ref C_Wood)=true)
  (n_Wood_marks:W.findIn K (.ref C_Wood) "marks"=some none)
  (n_Wood_now:W.findIn K (.ref C_Wood) "now"=some none)
  (aC_Layers:W.nsIn K mainGlobals "Layers"=some (some (.ref C_Layers)))
  (ayi:W.findIn K (.ref C_Layers) "__init__"=some (some (.ref fyi))) (iyi:W.isFn K (.ref fyi)=true) (lyi:K.lookup fyi=some ⟨ocyi,odyi,.func (W.fnOf "__init__" "Layers.__init__" (au dm) (am dm) (ai dm) .none kVyi dcyi pmyi anyi cdyi ctyi),slyi⟩) (cyi:W.codeIn K cdyi "Layers.__init__"=true) (kyi:W.keepIn K (.ref fyi)=true)
  (ayq:W.findIn K (.ref C_Layers) "put"=some (some (.ref fyq))) (iyq:W.isFn K (.ref fyq)=true) (lyq:K.lookup fyq=some ⟨ocyq,odyq,.func (W.fnOf "put" "Layers.put" (au cR) (am cR) (ai cR) .none kVyq dcyq pmyq anyq cdyq ctyq),slyq⟩) (cyq:W.codeIn K cdyq "Layers.put"=true) (kyq:W.keepIn K (.ref fyq)=true)
  (ayz:W.findIn K (.ref C_Layers) "strike"=some (some (.ref fyz))) (iyz:W.isFn K (.ref fyz)=true) (lyz:K.lookup fyz=some ⟨ocyz,odyz,.func (W.fnOf "strike" "Layers.strike" (au cM) (am cM) (ai cM) .none kVyz dcyz pmyz anyz cdyz ctyz),slyz⟩) (cyz:W.codeIn K cdyz "Layers.strike"=true) (kyz:W.keepIn K (.ref fyz)=true)
  (ayh:W.findIn K (.ref C_Layers) "hide"=some (some (.ref fyh))) (iyh:W.isFn K (.ref fyh)=true) (lyh:K.lookup fyh=some ⟨ocyh,odyh,.func (W.fnOf "hide" "Layers.hide" (au cP) (am cP) (ai cP) .none kVyh dcyh pmyh anyh cdyh ctyh),slyh⟩) (cyh:W.codeIn K cdyh "Layers.hide"=true) (kyh:W.keepIn K (.ref fyh)=true)
  (ays:W.findIn K (.ref C_Layers) "show"=some (some (.ref fys))) (iys:W.isFn K (.ref fys)=true) (lys:K.lookup fys=some ⟨ocys,odys,.func (W.fnOf "show" "Layers.show" (au cQ) (am cQ) (ai cQ) .none kVys dcys pmys anys cdys ctys),slys⟩) (cys:W.codeIn K cdys "Layers.show"=true) (kys:W.keepIn K (.ref fys)=true)
  (ayt:W.findIn K (.ref C_Layers) "told"=some (some (.ref fyt))) (iyt:W.isFn K (.ref fyt)=true) (lyt:K.lookup fyt=some ⟨ocyt,odyt,.func (W.fnOf "told" "Layers.told" (au dn) (am dn) (ai dn) .none kVyt dcyt pmyt anyt cdyt ctyt),slyt⟩) (cyt:W.codeIn K cdyt "Layers.told"=true) (kyt:W.keepIn K (.ref fyt)=true)
  (aya:W.findIn K (.ref C_Layers) "all_told"=some (some (.ref fya))) (iya:W.isFn K (.ref fya)=true) (lya:K.lookup fya=some ⟨ocya,odya,.func (W.fnOf "all_told" "Layers.all_told" (au dj) (am dj) (ai dj) .none kVya dcya pmya anya cdya ctya),slya⟩) (cya:W.codeIn K cdya "Layers.all_told"=true) (kya:W.keepIn K (.ref fya)=true)
  (aye:W.findIn K (.ref C_Layers) "is_seen_of_house"=some (some (.ref fye))) (iye:W.isFn K (.ref fye)=true) (lye:K.lookup fye=some ⟨ocye,odye,.func (W.fnOf "is_seen_of_house" "Layers.is_seen_of_house" (au dh) (am dh) (ai dh) .none kVye dcye pmye anye cdye ctye),slye⟩) (cye:W.codeIn K cdye "Layers.is_seen_of_house"=true) (kye:W.keepIn K (.ref fye)=true)
  (ayu:W.findIn K (.ref C_Layers) "use"=some (some (.ref fyu))) (iyu:W.isFn K (.ref fyu)=true) (lyu:K.lookup fyu=some ⟨ocyu,odyu,.func (W.fnOf "use" "Layers.use" (au bY) (am bY) (ai bY) (.ref dTyu) kVyu dcyu pmyu anyu cdyu ctyu),slyu⟩) (cyu:W.codeIn K cdyu "Layers.use"=true) (kyu:W.keepIn K (.ref fyu)=true)
  (ldyu:K.lookup dTyu=some ⟨ocdyu,oddyu,.seq #[.int 1 tkdyu] ndyu,sldyu⟩)
  (ayf:W.findIn K (.ref C_Layers) "fade"=some (some (.ref fyf))) (iyf:W.isFn K (.ref fyf)=true) (lyf:K.lookup fyf=some ⟨ocyf,odyf,.func (W.fnOf "fade" "Layers.fade" (au cc) (am cc) (ai cc) (.ref dTyf) kVyf dcyf pmyf anyf cdyf ctyf),slyf⟩) (cyf:W.codeIn K cdyf "Layers.fade"=true) (kyf:W.keepIn K (.ref fyf)=true)
  (ldyf:K.lookup dTyf=some ⟨ocdyf,oddyf,.seq #[.int 1 tkdyf] ndyf,sldyf⟩)
  (ayo:W.findIn K (.ref C_Layers) "own_words"=some (some (.ref fyo))) (iyo:W.isFn K (.ref fyo)=true) (lyo:K.lookup fyo=some ⟨ocyo,odyo,.func (W.fnOf "own_words" "Layers.own_words" (au di) (am di) (ai di) .none kVyo dcyo pmyo anyo cdyo ctyo),slyo⟩) (cyo:W.codeIn K cdyo "Layers.own_words"=true) (kyo:W.keepIn K (.ref fyo)=true)
  (ayd:W.findIn K (.ref C_Layers) "hidden"=some (some (.ref fyd))) (iyd:W.isFn K (.ref fyd)=true) (lyd:K.lookup fyd=some ⟨ocyd,odyd,.func (W.fnOf "hidden" "Layers.hidden" (au dk) (am dk) (ai dk) .none kVyd dcyd pmyd anyd cdyd ctyd),slyd⟩) (cyd:W.codeIn K cdyd "Layers.hidden"=true) (kyd:W.keepIn K (.ref fyd)=true)
  (pg_Layers:W.plainGet K C_Layers Str.empty=true) (hd_Layers:W.hasDictIn K C_Layers=true) (po_Layers:W.plainOver K C_Layers=true) (sa_Layers:W.findIn K (.ref C_Layers) "__setattr__"=some (some (.builtin "object.__setattr__"))) (mk_Layers:W.makesIn K C_Layers=true) (kc_Layers:W.keepIn K (.ref C_Layers)=true)
  (n_Layers_house:W.findIn K (.ref C_Layers) "house"=some none)
  (n_Layers_own:W.findIn K (.ref C_Layers) "own"=some none)
  (n_Layers_veiled:W.findIn K (.ref C_Layers) "veiled"=some none)
  (aC_NoWord:W.nsIn K mainGlobals "NoWord"=some (some (.ref C_NoWord)))
  (aC_Twice:W.nsIn K mainGlobals "Twice"=some (some (.ref C_Twice)))
  (aC_Absent:W.nsIn K mainGlobals "Absent"=some (some (.ref C_Absent)))
  (aC_AheadError:W.nsIn K mainGlobals "AheadError"=some (some (.ref C_AheadError)))
  (aC_Beside:W.nsIn K mainGlobals "Beside"=some (some (.ref C_Beside)))
  (aC_NoChoice:W.nsIn K mainGlobals "NoChoice"=some (some (.ref C_NoChoice)))
  (aC_NoRow:W.nsIn K mainGlobals "NoRow"=some (some (.ref C_NoRow)))
  (aC_NoSign:W.nsIn K mainGlobals "NoSign"=some (some (.ref C_NoSign)))
  (aC_NoText:W.nsIn K mainGlobals "NoText"=some (some (.ref C_NoText)))
  (ar:W.nsIn K mainGlobals "rank_key"=some (some (.ref fr))) (lr:K.lookup fr=some ⟨ocr,odr,.func (W.fnOf "rank_key" "rank_key" (au fM) (am fM) (ai fM) .none kVr dcr pmr anr cdr ctr),slr⟩) (cr:W.codeIn K cdr "rank_key"=true) (kr:W.keepIn K (.ref fr)=true)
  (ab:W.nsIn K mainGlobals "best_of"=some (some (.ref fb))) (lb:K.lookup fb=some ⟨ocb,odb,.func (W.fnOf "best_of" "best_of" (au fW) (am fW) (ai fW) .none kVb dcb pmb anb cdb ctb),slb⟩) (cb:W.codeIn K cdb "best_of"=true) (kb:W.keepIn K (.ref fb)=true)
  (a1:W.nsIn K mainGlobals "is_letter"=some (some (.ref f1))) (l1:K.lookup f1=some ⟨oc1,od1,.func (W.fnOf "is_letter" "is_letter" (au fF) (am fF) (ai fF) .none kV1 dc1 pm1 an1 cd1 ct1),sl1⟩) (c1:W.codeIn K cd1 "is_letter"=true) (k1:W.keepIn K (.ref f1)=true)
  (a2:W.nsIn K mainGlobals "is_part"=some (some (.ref f2))) (l2:K.lookup f2=some ⟨oc2,od2,.func (W.fnOf "is_part" "is_part" (au fX) (am fX) (ai fX) .none kV2 dc2 pm2 an2 cd2 ct2),sl2⟩) (c2:W.codeIn K cd2 "is_part"=true) (k2:W.keepIn K (.ref f2)=true)
  (a3:W.nsIn K mainGlobals "is_word"=some (some (.ref f3))) (l3:K.lookup f3=some ⟨oc3,od3,.func (W.fnOf "is_word" "is_word" (au fY) (am fY) (ai fY) .none kV3 dc3 pm3 an3 cd3 ct3),sl3⟩) (c3:W.codeIn K cd3 "is_word"=true) (k3:W.keepIn K (.ref f3)=true)
  (a4:W.nsIn K mainGlobals "worth_at"=some (some (.ref f4))) (l4:K.lookup f4=some ⟨oc4,od4,.func (W.fnOf "worth_at" "worth_at" (au fN) (am fN) (ai fN) .none kV4 dc4 pm4 an4 cd4 ct4),sl4⟩) (c4:W.codeIn K cd4 "worth_at"=true) (k4:W.keepIn K (.ref f4)=true)
  (a5:W.nsIn K mainGlobals "used_mark"=some (some (.ref f5))) (l5:K.lookup f5=some ⟨oc5,od5,.func (W.fnOf "used_mark" "used_mark" (au fG) (am fG) (ai fG) .none kV5 dc5 pm5 an5 cd5 ct5),sl5⟩) (c5:W.codeIn K cd5 "used_mark"=true) (k5:W.keepIn K (.ref f5)=true)
  (awo:W.nsIn K mainGlobals "with_own"=some (some (.ref fwo))) (lwo:K.lookup fwo=some ⟨ocwo,odwo,.func (W.fnOf "with_own" "with_own" (au fO) (am fO) (ai fO) .none kVwo dcwo pmwo anwo cdwo ctwo),slwo⟩) (cwo:W.codeIn K cdwo "with_own"=true) (kwo:W.keepIn K (.ref fwo)=true)
  (afe:W.nsIn K mainGlobals "_law_feed"=some (some (.ref ffe))) (lfe:K.lookup ffe=some ⟨ocfe,odfe,.func (W.fnOf "_law_feed" "_law_feed" (au fP) (am fP) (ai fP) .none kVfe dcfe pmfe anfe cdfe ctfe),slfe⟩) (cfe:W.codeIn K cdfe "_law_feed"=true) (kfe:W.keepIn K (.ref ffe)=true)
  (ad:W.nsIn K mainGlobals "_law_draw"=some (some (.ref fd))) (ld:K.lookup fd=some ⟨ocd,odd,.func (W.fnOf "_law_draw" "_law_draw" (au fQ) (am fQ) (ai fQ) .none kVd dcd pmd and cdd ctd),sld⟩) (cd:W.codeIn K cdd "_law_draw"=true) (kd:W.keepIn K (.ref fd)=true)
  (ap:W.nsIn K mainGlobals "_law_part"=some (some (.ref fp))) (lp:K.lookup fp=some ⟨ocp,odp,.func (W.fnOf "_law_part" "_law_part" (au fR) (am fR) (ai fR) .none kVp dcp pmp anp cdp ctp),slp⟩) (cp:W.codeIn K cdp "_law_part"=true) (kp:W.keepIn K (.ref fp)=true)
  (aft:W.nsIn K mainGlobals "_law_is_fit"=some (some (.ref fft))) (lft:K.lookup fft=some ⟨ocft,odft,.func (W.fnOf "_law_is_fit" "_law_is_fit" (au fz) (am fz) (ai fz) .none kVft dcft pmft anft cdft ctft),slft⟩) (cft:W.codeIn K cdft "_law_is_fit"=true) (kft:W.keepIn K (.ref fft)=true)
  (aw:W.nsIn K mainGlobals "_law_word"=some (some (.ref fw))) (lw:K.lookup fw=some ⟨ocw,odw,.func (W.fnOf "_law_word" "_law_word" (au fS) (am fS) (ai fS) .none kVw dcw pmw anw cdw ctw),slw⟩) (cw:W.codeIn K cdw "_law_word"=true) (kw:W.keepIn K (.ref fw)=true)
  (aws:W.nsIn K mainGlobals "_law_words"=some (some (.ref fws))) (lws:K.lookup fws=some ⟨ocws,odws,.func (W.fnOf "_law_words" "_law_words" (au fH) (am fH) (ai fH) .none kVws dcws pmws anws cdws ctws),slws⟩) (cws:W.codeIn K cdws "_law_words"=true) (kws:W.keepIn K (.ref fws)=true)
  (act:W.nsIn K mainGlobals "_law_count"=some (some (.ref fct))) (lct:K.lookup fct=some ⟨occt,odct,.func (W.fnOf "_law_count" "_law_count" (au fI) (am fI) (ai fI) .none kVct dcct pmct anct cdct ctct),slct⟩) (cct:W.codeIn K cdct "_law_count"=true) (kct:W.keepIn K (.ref fct)=true)
  (ahv:W.nsIn K mainGlobals "_law_halved"=some (some (.ref fhv))) (lhv:K.lookup fhv=some ⟨ochv,odhv,.func (W.fnOf "_law_halved" "_law_halved" (au fD) (am fD) (ai fD) .none kVhv dchv pmhv anhv cdhv cthv),slhv⟩) (chv:W.codeIn K cdhv "_law_halved"=true) (khv:W.keepIn K (.ref fhv)=true)
  (alb:W.nsIn K mainGlobals "_law_best"=some (some (.ref flb))) (llb:K.lookup flb=some ⟨oclb,odlb,.func (W.fnOf "_law_best" "_law_best" (au fT) (am fT) (ai fT) .none kVlb dclb pmlb anlb cdlb ctlb),sllb⟩) (clb:W.codeIn K cdlb "_law_best"=true) (klb:W.keepIn K (.ref flb)=true)
  (ait:W.nsIn K mainGlobals "_law_is_told"=some (some (.ref fit))) (lit:K.lookup fit=some ⟨ocit,odit,.func (W.fnOf "_law_is_told" "_law_is_told" (au fu) (am fu) (ai fu) .none kVit dcit pmit anit cdit ctit),slit⟩) (cit:W.codeIn K cdit "_law_is_told"=true) (kit:W.keepIn K (.ref fit)=true)
  (alr:W.nsIn K mainGlobals "_law_rated"=some (some (.ref flr))) (llr:K.lookup flr=some ⟨oclr,odlr,.func (W.fnOf "_law_rated" "_law_rated" (au fJ) (am fJ) (ai fJ) .none kVlr dclr pmlr anlr cdlr ctlr),sllr⟩) (clr:W.codeIn K cdlr "_law_rated"=true) (klr:W.keepIn K (.ref flr)=true)
  (alt:W.nsIn K mainGlobals "_law_told"=some (some (.ref flt))) (llt:K.lookup flt=some ⟨oclt,odlt,.func (W.fnOf "_law_told" "_law_told" (au fU) (am fU) (ai fU) .none kVlt dclt pmlt anlt cdlt ctlt),sllt⟩) (clt:W.codeIn K cdlt "_law_told"=true) (klt:W.keepIn K (.ref flt)=true)
  (anm:W.nsIn K mainGlobals "_law_new_models"=some (some (.ref fnm))) (lnm:K.lookup fnm=some ⟨ocnm,odnm,.func (W.fnOf "_law_new_models" "_law_new_models" (au fk) (am fk) (ai fk) .none kVnm dcnm pmnm annm cdnm ctnm),slnm⟩) (cnm:W.codeIn K cdnm "_law_new_models"=true) (knm:W.keepIn K (.ref fnm)=true)
  (aki:W.nsIn K mainGlobals "_law_kinds"=some (some (.ref fki))) (lki:K.lookup fki=some ⟨ocki,odki,.func (W.fnOf "_law_kinds" "_law_kinds" (au fL) (am fL) (ai fL) .none kVki dcki pmki anki cdki ctki),slki⟩) (cki:W.codeIn K cdki "_law_kinds"=true) (kki:W.keepIn K (.ref fki)=true)
  (adn:W.nsIn K mainGlobals "_law_done"=some (some (.ref fdn))) (ldn:K.lookup fdn=some ⟨ocdn,oddn,.func (W.fnOf "_law_done" "_law_done" (au fV) (am fV) (ai fV) .none kVdn dcdn pmdn andn cddn ctdn),sldn⟩) (cdn:W.codeIn K cddn "_law_done"=true) (kdn:W.keepIn K (.ref fdn)=true)
  (adu:W.nsIn K mainGlobals "_law_due"=some (some (.ref fdu))) (ldu:K.lookup fdu=some ⟨ocdu,oddu,.func (W.fnOf "_law_due" "_law_due" (au fZ) (am fZ) (ai fZ) .none kVdu dcdu pmdu andu cddu ctdu),sldu⟩) (cdu:W.codeIn K cddu "_law_due"=true) (kdu:W.keepIn K (.ref fdu)=true)
  (aog:W.nsIn K mainGlobals "_law_own_deed"=some (some (.ref fog))) (log:K.lookup fog=some ⟨ocog,odog,.func (W.fnOf "_law_own_deed" "_law_own_deed" (au fo) (am fo) (ai fo) .none kVog dcog pmog anog cdog ctog),slog⟩) (cog:W.codeIn K cdog "_law_own_deed"=true) (kog:W.keepIn K (.ref fog)=true)
  (abw:W.nsIn K mainGlobals "_law_bad_word"=some (some (.ref fbw))) (lbw:K.lookup fbw=some ⟨ocbw,odbw,.func (W.fnOf "_law_bad_word" "_law_bad_word" (au fq) (am fq) (ai fq) .none kVbw dcbw pmbw anbw cdbw ctbw),slbw⟩) (cbw:W.codeIn K cdbw "_law_bad_word"=true) (kbw:W.keepIn K (.ref fbw)=true)
  (abr:W.nsIn K mainGlobals "_law_bad_refused"=some (some (.ref fbr))) (lbr:K.lookup fbr=some ⟨ocbr,odbr,.func (W.fnOf "_law_bad_refused" "_law_bad_refused" (au fj) (am fj) (ai fj) .none kVbr dcbr pmbr anbr cdbr ctbr),slbr⟩) (cbr:W.codeIn K cdbr "_law_bad_refused"=true) (kbr:W.keepIn K (.ref fbr)=true)
  (alw:W.nsIn K mainGlobals "law"=some (some (.ref flw))) (llw:K.lookup flw=some ⟨oclw,odlw,.func (W.fnOf "law" "law" (au dI) (am dI) (ai dI) .none kVlw dclw pmlw anlw cdlw ctlw),sllw⟩) (clw:W.codeIn K cdlw "law"=true) (klw:W.keepIn K (.ref flw)=true)
  (z_len:W.nsIn K mainGlobals "len"=some none)
  (z_range:W.nsIn K mainGlobals "range"=some none)
  (z_all:W.nsIn K mainGlobals "all"=some none)
  (z_max:W.nsIn K mainGlobals "max"=some none)
  (z_min:W.nsIn K mainGlobals "min"=some none)
  (z_sorted:W.nsIn K mainGlobals "sorted"=some none)
  (z_isinstance:W.nsIn K mainGlobals "isinstance"=some none)
  (z_str:W.nsIn K mainGlobals "str"=some none)
  (z_list:W.nsIn K mainGlobals "list"=some none)
  (z_repr:W.nsIn K mainGlobals "repr"=some none)
  (t_ss:W.kitOne K (.type "str") (.type "str")=some true)
  (t_ll:W.kitOne K (.type "list") (.type "list")=some true)
  (t_ns:W.kitOne K (.type "NoneType") (.type "str")=some false)
  (t_bs:W.kitOne K (.type "bool") (.type "str")=some false)
  (t_is:W.kitOne K (.type "int") (.type "str")=some false)
  (t_ls:W.kitOne K (.type "list") (.type "str")=some false)
  (t_ts:W.kitOne K (.type "tuple") (.type "str")=some false)
  (q_MOST_SIGNS:W.nsIn K mainGlobals "MOST_SIGNS"=some (some (.int 24 tk_MOST_SIGNS)))
  (q_MOST_PARTS:W.nsIn K mainGlobals "MOST_PARTS"=some (some (.int 4 tk_MOST_PARTS)))
  (q_MOST_LETTERS:W.nsIn K mainGlobals "MOST_LETTERS"=some (some (.int 12 tk_MOST_LETTERS)))
  (oxNoWord:cx K C_NoWord none=true)
  (okNoWord:W.keepIn K (.ref C_NoWord)=true)
  (ocNoWord:eA K C_NoWord=true)
  (oeNoWord:W.exmOne K (.ref C_NoWord) (.ref C_AheadError)=some true)
  (oxTwice:cx K C_Twice none=true)
  (okTwice:W.keepIn K (.ref C_Twice)=true)
  (ocTwice:eA K C_Twice=true)
  (oeTwice:W.exmOne K (.ref C_Twice) (.ref C_AheadError)=some true)
  (oxAbsent:cx K C_Absent none=true)
  (okAbsent:W.keepIn K (.ref C_Absent)=true)
  (ocAbsent:eA K C_Absent=true)
  (oeAbsent:W.exmOne K (.ref C_Absent) (.ref C_AheadError)=some true)
  (otNN:W.kitOne K (.ref C_NoWord) (.ref C_NoWord)=some true)
  (otNT:W.kitOne K (.ref C_NoWord) (.ref C_Twice)=some false)
  (otNA:W.kitOne K (.ref C_NoWord) (.ref C_Absent)=some false)
  (otTN:W.kitOne K (.ref C_Twice) (.ref C_NoWord)=some false)
  (otTT:W.kitOne K (.ref C_Twice) (.ref C_Twice)=some true)
  (otTA:W.kitOne K (.ref C_Twice) (.ref C_Absent)=some false)
  (otAN:W.kitOne K (.ref C_Absent) (.ref C_NoWord)=some false)
  (otAT:W.kitOne K (.ref C_Absent) (.ref C_Twice)=some false)
  (otAA:W.kitOne K (.ref C_Absent) (.ref C_Absent)=some true)
  (oaN:W.kitAny K (.ref C_NoWord) (List.map Value.ref [C_Beside,C_NoChoice,C_NoRow,C_NoSign,C_NoText])=some false)
  (oaT:W.kitAny K (.ref C_Twice) (List.map Value.ref [C_Beside,C_NoChoice,C_NoRow,C_NoSign,C_NoText])=some false)
  (oaA:W.kitAny K (.ref C_Absent) (List.map Value.ref [C_Beside,C_NoChoice,C_NoRow,C_NoSign,C_NoText])=some false),R)->R
noncomputable def pick {α:Type}:List Nat->Nat->List α->List α
 |_,_,[]=>[]
 |[],_,l=>l
 |k::ks,i,x::l=>if i=k then pick ks (i+1) l else x::pick (k::ks) (i+1) l
noncomputable def aU:Program:={ PySem.Challenge.pw_aheadword_k41_deeds_on_layers with main:={ PySem.Challenge.pw_aheadword_k41_deeds_on_layers.main with body:=pick [1,11,14,23,25,28] 0 PySem.Challenge.pw_aheadword_k41_deeds_on_layers.main.body } }
theorem xS {S A B:Type}{x:Option S}{f:S->A}{g:S->B}{a:A}{b:B}(h1:x.map f=some a) (h2:x.map g=some b):x.map (λs=>(f s,g s))=some (a,b):=by
 cases x with
 |none=>cases h1
 |some s=>cases h1;cases h2;rfl
end My
section
open PySem PySem.W PyProof.Rows
local macro_rules|`(tactic| o_head $H)=>`(tactic| refine holds_open (q:=My.aU) (loose:=[]) (Xt:=λs=>xlAt My.aU [] s&&recOk [] s) (XP:=XL My.aU []) (Yf:=Hook.obs $H) (Ya:=Hook.val $H) (YP:=Hook.says $H) (N:=8324) ?hl (Hook.of $H) (Hook.keeps $H) (λs e=>xl_of s (Bool.and_eq_true_iff.mp e).1) XL.keeps (by rfl) (by rfl) (by rfl) (λs e=>recFacts_of (Bool.and_eq_true_iff.mp e).2) (by rfl) (by assumption) (by decide +kernel) ⟨rfl,rfl,rfl,rfl,rfl,by decide +kernel⟩ ?hw ?hc)
theorem My.left_gen {p:Program}{N:Nat}{β:Type}(w:World){F:Shared->β}{v:β}(hb:(fencedOpening treeTable p w N).map (λs=>(s.heap,s.gens,s.drawn,s.toks))=some (boot_heap w.params,Array.mk [],boot_drawn,boot_toks)) (hi:((boot_heap w.params).isNs mainGlobals&&(Array.mk []:Array GenState).size==0)=true)
  (hs:∀ os,(topRun treeTable p w (boot_heap w.params).objs.size ((boot_heap w.params).nsMap mainGlobals "__annotations__") N ⟨boot_heap w.params,Array.mk [],boot_drawn,boot_toks,os⟩ (topStub p)).map (λs=>staticsOk (importedModules p.main.body) (boot_heap w.params) s.heap&&namesBound p s.heap&&gensDone s&&laidKept (boot_heap w.params) s.heap)=some true)
  (hv:∀ os,(topRun treeTable p w (boot_heap w.params).objs.size ((boot_heap w.params).nsMap mainGlobals "__annotations__") N ⟨boot_heap w.params,Array.mk [],boot_drawn,boot_toks,os⟩ (topStub p)).map F=some v):(openEnds treeTable p w N).map F=some v:=by
 obtain ⟨⟨hh,gs,d,k,os⟩,e1,e2⟩:=Option.map_eq_some_iff.mp hb
 obtain ⟨rfl,rfl,rfl,rfl⟩:hh=boot_heap w.params/\gs=Array.mk []/\d=boot_drawn/\k=boot_toks:=by simpa only [Prod.mk.injEq] using e2
 have a:=hs os
 have b:=hv os
 unfold openEnds
 rw [e1]
 show (topFrom treeTable p w N ⟨boot_heap w.params,Array.mk [],boot_drawn,boot_toks,os⟩).map F=some v
 unfold topFrom
 dsimp only
 rw [hi]
 dsimp only
 cases hx:topRun treeTable p w (boot_heap w.params).objs.size ((boot_heap w.params).nsMap mainGlobals "__annotations__") N ⟨boot_heap w.params,Array.mk [],boot_drawn,boot_toks,os⟩ (topStub p) with
 |none=>rw [hx] at b;cases b
 |some s1 =>
  rw [hx] at a b
  have a':=Option.some.inj a
  dsimp only at a'
  show Option.map F (match _ with|true=>some s1|false=>none)=some v
  rw [a']
  exact b
noncomputable abbrev My.X (w:World) (os:OsState):Option Shared:=topRun treeTable PySem.Challenge.pw_aheadword_k41_deeds_on_layers w (boot_heap w.params).objs.size ((boot_heap w.params).nsMap mainGlobals "__annotations__") 8324 ⟨boot_heap w.params,Array.mk [],boot_drawn,boot_toks,os⟩ (topStub PySem.Challenge.pw_aheadword_k41_deeds_on_layers)
theorem My.fst_snd {S A B:Type}{x:Option S}(F:S->A×B) (v:A×B) (h1:x.map (λs=>(F s).1)=some v.1) (h2:x.map (λs=>(F s).2)=some v.2):x.map F=some v:=by
 cases x with
 |none=>cases h1
 |some s=>exact congrArg some (Prod.ext (Option.some.inj h1) (Option.some.inj h2))
set_option maxRecDepth 100000 in
set_option maxHeartbeats 0 in
theorem My.left1d (w:World) (os:OsState):(My.X w os).map (λs=>(openSeen My.aU [] (importedModules PySem.Challenge.pw_aheadword_k41_deeds_on_layers.main.body) (λs=>xlAt My.aU [] s&&recOk [] s) true s).2.2.2)=some ((openGood My.aU []).2.2.2):=by delta My.X;rw [Fast.te14082659384304107361,Fast.te14364793385576792824,Fast.te4187177175401517315];kernel_rfl
set_option maxRecDepth 100000 in
set_option maxHeartbeats 0 in
theorem My.left1c (w:World) (os:OsState):(My.X w os).map (λs=>(openSeen My.aU [] (importedModules PySem.Challenge.pw_aheadword_k41_deeds_on_layers.main.body) (λs=>xlAt My.aU [] s&&recOk [] s) true s).2.2.1)=some ((openGood My.aU []).2.2.1):=by delta My.X;rw [Fast.te14082659384304107361,Fast.te14364793385576792824,Fast.te4187177175401517315];kernel_rfl
set_option maxRecDepth 100000 in
set_option maxHeartbeats 0 in
theorem My.left1b (w:World) (os:OsState):(My.X w os).map (λs=>(openSeen My.aU [] (importedModules PySem.Challenge.pw_aheadword_k41_deeds_on_layers.main.body) (λs=>xlAt My.aU [] s&&recOk [] s) true s).2.1)=some ((openGood My.aU []).2.1):=by delta My.X;rw [Fast.te14082659384304107361,Fast.te14364793385576792824,Fast.te4187177175401517315];kernel_rfl
set_option maxRecDepth 100000 in
set_option maxHeartbeats 0 in
theorem My.left1a (w:World) (os:OsState):(My.X w os).map (λs=>(openSeen My.aU [] (importedModules PySem.Challenge.pw_aheadword_k41_deeds_on_layers.main.body) (λs=>xlAt My.aU [] s&&recOk [] s) true s).1)=some ((openGood My.aU []).1):=by delta My.X;rw [Fast.te14082659384304107361,Fast.te14364793385576792824,Fast.te4187177175401517315];kernel_rfl
set_option maxRecDepth 100000 in
set_option maxHeartbeats 0 in
theorem My.leftS (w:World) (os:OsState):(My.X w os).map (λs=>staticsOk (importedModules PySem.Challenge.pw_aheadword_k41_deeds_on_layers.main.body) (boot_heap w.params) s.heap&&namesBound PySem.Challenge.pw_aheadword_k41_deeds_on_layers s.heap&&gensDone s&&laidKept (boot_heap w.params) s.heap)=some true:=by delta My.X;rw [Fast.te14082659384304107361,Fast.te14364793385576792824];kernel_rfl
theorem My.left_boot {β:Type}(w:World){F:Shared->β}{v:β}(hv:∀ os,(My.X w os).map F=some v):(openEnds treeTable PySem.Challenge.pw_aheadword_k41_deeds_on_layers w 8324).map F=some v :=
 My.left_gen w (boot_open (p:=PySem.Challenge.pw_aheadword_k41_deeds_on_layers) (N:=8324) (by kernel_rfl) (by kernel_rfl) (λs=>by kernel_rfl) w) (by kernel_rfl) (My.leftS w) hv
theorem My.left1 (w:World) (os:OsState):(My.X w os).map (λs=>(openSeen My.aU [] (importedModules PySem.Challenge.pw_aheadword_k41_deeds_on_layers.main.body) (λs=>xlAt My.aU [] s&&recOk [] s) true s))=some (openGood My.aU []):=My.fst_snd (λs=>(openSeen My.aU [] (importedModules PySem.Challenge.pw_aheadword_k41_deeds_on_layers.main.body) (λs=>xlAt My.aU [] s&&recOk [] s) true s)) (openGood My.aU []) (My.left1a w os) (My.fst_snd (λs=>(openSeen My.aU [] (importedModules PySem.Challenge.pw_aheadword_k41_deeds_on_layers.main.body) (λs=>xlAt My.aU [] s&&recOk [] s) true s).2) (openGood My.aU []).2 (My.left1b w os) (My.fst_snd (λs=>(openSeen My.aU [] (importedModules PySem.Challenge.pw_aheadword_k41_deeds_on_layers.main.body) (λs=>xlAt My.aU [] s&&recOk [] s) true s).2.2) (openGood My.aU []).2.2 (My.left1c w os) (My.left1d w os)))
theorem My.left (w:World):(openEnds treeTable PySem.Challenge.pw_aheadword_k41_deeds_on_layers w 8324).map (λs=>(openSeen My.aU [] (importedModules PySem.Challenge.pw_aheadword_k41_deeds_on_layers.main.body) (λs=>xlAt My.aU [] s&&recOk [] s) true s))=some (openGood My.aU []):=My.left_boot w λos=>My.left1 w os
set_option maxRecDepth 100000 in
set_option maxHeartbeats 0 in
theorem My.headL (main:∀ (q:Program) (loose:List Str) (XP:(Str->Option Value)->Heap->Prop) (YP:World->Heap->Prop) (d:DefRec) (K:Params->W.Frag),PySem.Challenge.rw_aheadword_k41_deeds_on_layers.most=some 63->d.params.defaults=[]->d.name="law"->(∀ (w:World) (h:Heap),YP w h->(K w.params).In h)->(∀ w:World,My.Fx (K w.params))->W.WalkO q loose XP YP PySem.Challenge.rw_aheadword_k41_deeds_on_layers.row.toRowW d [] (λf vs=>PySem.call f vs)):PySem.Challenge.rw_aheadword_k41_deeds_on_layers.Holds:=by
 w_on;o_law;k_head;(case hl=>intro w;refine My.xS (My.left w) (My.left_boot w λos=>?_);delta My.X;rw [Fast.te14082659384304107361,Fast.te14364793385576792824];kernel_rfl);(case hw=>w_witness2)
 k_fill
 refine main _ _ _ _ _ _ rfl rfl rfl (λw h Y=>W.kIn_of Y) λw R hR=>?_
 refine' hR ?aC_Wood ?awi ?iwi ?lwi ?cwi ?kwi ?awm ?iwm ?lwm ?cwm ?kwm ?awq ?iwq ?lwq ?cwq ?kwq ?awu ?iwu ?lwu ?cwu ?kwu ?ldwu ?awz ?iwz ?lwz ?cwz ?kwz ?awf ?iwf ?lwf ?cwf ?kwf ?ldwf ?awh ?iwh ?lwh ?cwh ?kwh ?awb ?iwb ?lwb ?cwb ?kwb ?awv ?iwv ?lwv ?cwv ?kwv ?pg_Wood ?hd_Wood ?po_Wood ?sa_Wood ?mk_Wood ?kc_Wood ?n_Wood_marks ?n_Wood_now ?aC_Layers ?ayi ?iyi ?lyi ?cyi ?kyi ?ayq ?iyq ?lyq ?cyq ?kyq ?ayz ?iyz ?lyz ?cyz ?kyz ?ayh ?iyh ?lyh ?cyh ?kyh ?ays ?iys ?lys ?cys ?kys ?ayt ?iyt ?lyt ?cyt ?kyt ?aya ?iya ?lya ?cya ?kya ?aye ?iye ?lye ?cye ?kye ?ayu ?iyu ?lyu ?cyu ?kyu ?ldyu ?ayf ?iyf ?lyf ?cyf ?kyf ?ldyf ?ayo ?iyo ?lyo ?cyo ?kyo ?ayd ?iyd ?lyd ?cyd ?kyd ?pg_Layers ?hd_Layers ?po_Layers ?sa_Layers ?mk_Layers ?kc_Layers ?n_Layers_house ?n_Layers_own ?n_Layers_veiled ?aC_NoWord ?aC_Twice ?aC_Absent ?aC_AheadError ?aC_Beside ?aC_NoChoice ?aC_NoRow ?aC_NoSign ?aC_NoText ?ar ?lr ?cr ?kr ?ab ?lb ?cb ?kb ?a1 ?l1 ?c1 ?k1 ?a2 ?l2 ?c2 ?k2 ?a3 ?l3 ?c3 ?k3 ?a4 ?l4 ?c4 ?k4 ?a5 ?l5 ?c5 ?k5 ?awo ?lwo ?cwo ?kwo ?afe ?lfe ?cfe ?kfe ?ad ?ld ?cd ?kd ?ap ?lp ?cp ?kp ?aft ?lft ?cft ?kft ?aw ?lw ?cw ?kw ?aws ?lws ?cws ?kws ?act ?lct ?cct ?kct ?ahv ?lhv ?chv ?khv ?alb ?llb ?clb ?klb ?ait ?lit ?cit ?kit ?alr ?llr ?clr ?klr ?alt ?llt ?clt ?klt ?anm ?lnm ?cnm ?knm ?aki ?lki ?cki ?kki ?adn ?ldn ?cdn ?kdn ?adu ?ldu ?cdu ?kdu ?aog ?log ?cog ?kog ?abw ?lbw ?cbw ?kbw ?abr ?lbr ?cbr ?kbr ?alw ?llw ?clw ?klw ?z_len ?z_range ?z_all ?z_max ?z_min ?z_sorted ?z_isinstance ?z_str ?z_list ?z_repr ?t_ss ?t_ll ?t_ns ?t_bs ?t_is ?t_ls ?t_ts ?q_MOST_SIGNS ?q_MOST_PARTS ?q_MOST_LETTERS ?oxNoWord ?okNoWord ?ocNoWord ?oeNoWord ?oxTwice ?okTwice ?ocTwice ?oeTwice ?oxAbsent ?okAbsent ?ocAbsent ?oeAbsent ?otNN ?otNT ?otNA ?otTN ?otTT ?otTA ?otAN ?otAT ?otAA ?oaN ?oaT ?oaA
 (case aC_Wood=>k_is);(case awi=>k_is);(case iwi=>k_is);(case lwi=>k_is);(case cwi=>k_is);(case kwi=>k_is);(case awm=>k_is);(case iwm=>k_is);(case lwm=>k_is);(case cwm=>k_is);(case kwm=>k_is);(case awq=>k_is);(case iwq=>k_is);(case lwq=>k_is);(case cwq=>k_is);(case kwq=>k_is);(case awu=>k_is);(case iwu=>k_is);(case lwu=>k_is);(case cwu=>k_is);(case kwu=>k_is);(case ldwu=>k_is);(case awz=>k_is);(case iwz=>k_is);(case lwz=>k_is);(case cwz=>k_is);(case kwz=>k_is);(case awf=>k_is);(case iwf=>k_is);(case lwf=>k_is);(case cwf=>k_is);(case kwf=>k_is);(case ldwf=>k_is);(case awh=>k_is);(case iwh=>k_is);(case lwh=>k_is);(case cwh=>k_is);(case kwh=>k_is);(case awb=>k_is);(case iwb=>k_is);(case lwb=>k_is);(case cwb=>k_is);(case kwb=>k_is);(case awv=>k_is);(case iwv=>k_is);(case lwv=>k_is);(case cwv=>k_is);(case kwv=>k_is);(case pg_Wood=>k_is);(case hd_Wood=>k_is);(case po_Wood=>k_is);(case sa_Wood=>k_is);(case mk_Wood=>k_is);(case kc_Wood=>k_is);(case n_Wood_marks=>k_is);(case n_Wood_now=>k_is);(case aC_Layers=>k_is);(case ayi=>k_is);(case iyi=>k_is);(case lyi=>k_is);(case cyi=>k_is);(case kyi=>k_is);(case ayq=>k_is);(case iyq=>k_is);(case lyq=>k_is);(case cyq=>k_is);(case kyq=>k_is);(case ayz=>k_is);(case iyz=>k_is);(case lyz=>k_is);(case cyz=>k_is);(case kyz=>k_is);(case ayh=>k_is);(case iyh=>k_is);(case lyh=>k_is);(case cyh=>k_is);(case kyh=>k_is);(case ays=>k_is);(case iys=>k_is);(case lys=>k_is);(case cys=>k_is);(case kys=>k_is);(case ayt=>k_is);(case iyt=>k_is);(case lyt=>k_is);(case cyt=>k_is);(case kyt=>k_is);(case aya=>k_is);(case iya=>k_is);(case lya=>k_is);(case cya=>k_is);(case kya=>k_is);(case aye=>k_is);(case iye=>k_is);(case lye=>k_is);(case cye=>k_is);(case kye=>k_is);(case ayu=>k_is);(case iyu=>k_is);(case lyu=>k_is);(case cyu=>k_is);(case kyu=>k_is);(case ldyu=>k_is);(case ayf=>k_is);(case iyf=>k_is);(case lyf=>k_is);(case cyf=>k_is);(case kyf=>k_is);(case ldyf=>k_is);(case ayo=>k_is);(case iyo=>k_is);(case lyo=>k_is);(case cyo=>k_is);(case kyo=>k_is);(case ayd=>k_is);(case iyd=>k_is);(case lyd=>k_is);(case cyd=>k_is);(case kyd=>k_is);(case pg_Layers=>k_is);(case hd_Layers=>k_is);(case po_Layers=>k_is);(case sa_Layers=>k_is);(case mk_Layers=>k_is);(case kc_Layers=>k_is);(case n_Layers_house=>k_is);(case n_Layers_own=>k_is);(case n_Layers_veiled=>k_is);(case aC_NoWord=>k_is);(case aC_Twice=>k_is);(case aC_Absent=>k_is);(case aC_AheadError=>k_is);(case aC_Beside=>k_is);(case aC_NoChoice=>k_is);(case aC_NoRow=>k_is);(case aC_NoSign=>k_is);(case aC_NoText=>k_is);(case ar=>k_is);(case lr=>k_is);(case cr=>k_is);(case kr=>k_is);(case ab=>k_is);(case lb=>k_is);(case cb=>k_is);(case kb=>k_is);(case a1=>k_is);(case l1=>k_is);(case c1=>k_is);(case k1=>k_is);(case a2=>k_is);(case l2=>k_is);(case c2=>k_is);(case k2=>k_is);(case a3=>k_is);(case l3=>k_is);(case c3=>k_is);(case k3=>k_is);(case a4=>k_is);(case l4=>k_is);(case c4=>k_is);(case k4=>k_is);(case a5=>k_is);(case l5=>k_is);(case c5=>k_is);(case k5=>k_is);(case awo=>k_is);(case lwo=>k_is);(case cwo=>k_is);(case kwo=>k_is);(case afe=>k_is);(case lfe=>k_is);(case cfe=>k_is);(case kfe=>k_is);(case ad=>k_is);(case ld=>k_is);(case cd=>k_is);(case kd=>k_is);(case ap=>k_is);(case lp=>k_is);(case cp=>k_is);(case kp=>k_is);(case aft=>k_is);(case lft=>k_is);(case cft=>k_is);(case kft=>k_is);(case aw=>k_is);(case lw=>k_is);(case cw=>k_is);(case kw=>k_is);(case aws=>k_is);(case lws=>k_is);(case cws=>k_is);(case kws=>k_is);(case act=>k_is);(case lct=>k_is);(case cct=>k_is);(case kct=>k_is);(case ahv=>k_is);(case lhv=>k_is);(case chv=>k_is);(case khv=>k_is);(case alb=>k_is);(case llb=>k_is);(case clb=>k_is);(case klb=>k_is);(case ait=>k_is);(case lit=>k_is);(case cit=>k_is);(case kit=>k_is);(case alr=>k_is);(case llr=>k_is);(case clr=>k_is);(case klr=>k_is);(case alt=>k_is);(case llt=>k_is);(case clt=>k_is);(case klt=>k_is);(case anm=>k_is);(case lnm=>k_is);(case cnm=>k_is);(case knm=>k_is);(case aki=>k_is);(case lki=>k_is);(case cki=>k_is);(case kki=>k_is);(case adn=>k_is);(case ldn=>k_is);(case cdn=>k_is);(case kdn=>k_is);(case adu=>k_is);(case ldu=>k_is);(case cdu=>k_is);(case kdu=>k_is);(case aog=>k_is);(case log=>k_is);(case cog=>k_is);(case kog=>k_is);(case abw=>k_is);(case lbw=>k_is);(case cbw=>k_is);(case kbw=>k_is);(case abr=>k_is);(case lbr=>k_is);(case cbr=>k_is);(case kbr=>k_is);(case alw=>k_is);(case llw=>k_is);(case clw=>k_is);(case klw=>k_is);(case z_len=>k_is);(case z_range=>k_is);(case z_all=>k_is);(case z_max=>k_is);(case z_min=>k_is);(case z_sorted=>k_is);(case z_isinstance=>k_is);(case z_str=>k_is);(case z_list=>k_is);(case z_repr=>k_is);(case t_ss=>kit_is);(case t_ll=>kit_is);(case t_ns=>kit_is);(case t_bs=>kit_is);(case t_is=>kit_is);(case t_ls=>kit_is);(case t_ts=>kit_is);(case q_MOST_SIGNS=>k_is);(case q_MOST_PARTS=>k_is);(case q_MOST_LETTERS=>k_is);(case oxNoWord=>kernel_rfl);(case okNoWord=>kernel_rfl);(case ocNoWord=>kernel_rfl);(case oeNoWord=>kernel_rfl);(case oxTwice=>kernel_rfl);(case okTwice=>kernel_rfl);(case ocTwice=>kernel_rfl);(case oeTwice=>kernel_rfl);(case oxAbsent=>kernel_rfl);(case okAbsent=>kernel_rfl);(case ocAbsent=>kernel_rfl);(case oeAbsent=>kernel_rfl);(case otNN=>kernel_rfl);(case otNT=>kernel_rfl);(case otNA=>kernel_rfl);(case otTN=>kernel_rfl);(case otTT=>kernel_rfl);(case otTA=>kernel_rfl);(case otAN=>kernel_rfl);(case otAT=>kernel_rfl);(case otAA=>kernel_rfl);(case oaN=>kernel_rfl);(case oaT=>kernel_rfl);(case oaA=>kernel_rfl)
end
set_option maxRecDepth 100000
namespace L2
open PySem PySem.Spec PyProof.Rows
abbrev Key:=Sum Int Str
def gH:Key->Value->Bool
 |.inl k,v=>Value.isInt k v
 |.inr x,v=>Value.isStrOf x v
def Ge (w:World):Key->Int
 |.inl k=>hashInt k
 |.inr x=>hashStr w x
theorem cS:∀ {k:Key}{v:Value},gH k v=true->(∃ i t,k=Sum.inl i/\v=Value.int i t)\/(∃ x t,k=Sum.inr x/\v=Value.str x t)
 |.inl i,v,h=>by
  obtain ⟨t,e⟩:=Value.isInt_shape (k:=i) (v:=v) h
  exact .inl ⟨i,t,rfl,e⟩
 |.inr x,v,h=>by
  obtain ⟨t,e⟩:=Value.isStrOf_shape (x:=x) (v:=v) h
  exact .inr ⟨x,t,rfl,e⟩
theorem wR (i:Int) (t:Tok):gH (.inl i) (.int i t)=true:=by simp [gH,Value.isInt]
theorem wS (x:Str) (t:Tok):gH (.inr x) (.str x t)=true:=by simp [gH,Value.isStrOf]
theorem BC (a b:Int):decide ((Sum.inl a:Key)=Sum.inl b)=(a==b):=by
 by_cases e:a=b
 ·subst e;simp
 ·have h:¬ (Sum.inl a:Key)=Sum.inl b:=λq=>e (Sum.inl.inj q)
  rw [decide_eq_false h]
  exact (beq_eq_false_iff_ne.mpr e).symm
theorem BD (a b:Str):decide ((Sum.inr a:Key)=Sum.inr b)=decide (a=b):=by
 by_cases e:a=b
 ·subst e;simp
 ·have h:¬ (Sum.inr a:Key)=Sum.inr b:=λq=>e (Sum.inr.inj q)
  rw [decide_eq_false h,decide_eq_false e]
theorem BE (a:Int) (b:Str):decide ((Sum.inl a:Key)=Sum.inr b)=false:=decide_eq_false (λq=>nomatch q)
theorem BF (a:Str) (b:Int):decide ((Sum.inr a:Key)=Sum.inl b)=false:=decide_eq_false (λq=>nomatch q)
def aY (prog:Program) (w:World):PySem.KeyKind prog w Key where
 is:=gH
 hash:=Ge w
 inj:=λv a b ha hb=>by
  rcases cS ha with ⟨i,t,rfl,rfl⟩|⟨x,t,rfl,rfl⟩
  ·rcases cS hb with ⟨j,u,rfl,e⟩|⟨y,u,rfl,e⟩
   ·injection e with e1 _;rw [e1]
   ·exact nomatch e
  ·rcases cS hb with ⟨j,u,rfl,e⟩|⟨y,u,rfl,e⟩
   ·exact nomatch e
   ·injection e with e1 _;rw [e1]
 byValue:=λk v h=>by
  rcases cS h with ⟨i,t,rfl,rfl⟩|⟨x,t,rfl,rfl⟩<;>rfl
 pyHash:=λhv h=>by
  rcases cS hv with ⟨i,t,rfl,rfl⟩|⟨x,t,rfl,rfl⟩
  ·exact wpAny_pyHash_int h
  ·exact wpAny_pyHash_str h
 eqBool:=λhu hv h=>by
  rcases cS hu with ⟨i,t,rfl,rfl⟩|⟨x,t,rfl,rfl⟩
  ·rcases cS hv with ⟨j,u,rfl,rfl⟩|⟨y,u,rfl,rfl⟩
   ·rw [BC] at h;exact wpAny_eqBool_int h
   ·rw [BE] at h;exact SeqAt.EqAt.int_str i t y u _ _ _ _ h
  ·rcases cS hv with ⟨j,u,rfl,rfl⟩|⟨y,u,rfl,rfl⟩
   ·rw [BF] at h;exact SeqAt.EqAt.str_int x t j u _ _ _ _ h
   ·rw [BD] at h;exact wpAny_eqBool_str h
 «strs»:=λk x t v h=>by
  rcases cS h with ⟨i,u,rfl,e⟩|⟨y,u,rfl,e⟩
  ·exact nomatch e
  ·injection e with e1 _
   subst e1
   cases v<;>rfl
theorem wj (prog:Program) (w:World) (i:Int) (t:Tok):(aY prog w).is (.inl i) (.int i t)=true:=wR i t
theorem wm (prog:Program) (w:World) (x:Str) (t:Tok):(aY prog w).is (.inr x) (.str x t)=true:=wS x t
inductive V where
 |non|bl (b:Bool)|int (i:Int)|str (x:Str)|byt (b:Array UInt8)|flt (b:UInt64)|ref (a:Addr)|ty (n:String)
 deriving DecidableEq
def ao:V->Value->Prop
 |.non,u=>u=Value.none
 |.bl b,u=>u=Value.bool b
 |.int i,u=>∃ t,u=Value.int i t
 |.str x,u=>∃ t,u=Value.str x t
 |.byt b,u=>∃ t,u=Value.bytes b t
 |.flt b,u=>∃ t,u=Value.float b t
 |.ref a,u=>u=Value.ref a
 |.ty n,u=>u=Value.type n
abbrev aj:List V->List Value->Prop:=Paired ao
theorem aj.length {xs:List V}{us:List Value}(r:aj xs us):xs.length=us.length:=Paired.length r
theorem aj.get:∀ {xs:List V}{us:List Value}{i:Nat}{x:V},aj xs us->xs[i]?=some x->∃ u,us[i]?=some u/\ao x u
 |_,_,_,_,.nil,e=>by simp at e
 |_,_,0,_,.cons r _,e=>by simp at e;subst e;exact ⟨_,rfl,r⟩
 |_,_,i+1,x,.cons _ t,e=>by
  obtain ⟨u,h1,h2⟩:=aj.get (i:=i) (x:=x) t (by simpa using e)
  exact ⟨u,by simpa using h1,h2⟩
theorem aj.set {x:V}{u:Value}(r:ao x u):∀ {xs:List V}{us:List Value}(i:Nat),aj xs us->aj (xs.set i x) (us.set i u)
 |_,_,_,.nil=>.nil
 |_,_,0,.cons _ t=>.cons r t
 |_,_,i+1,.cons q t=>.cons q (aj.set r i t)
theorem aj.append:∀ {xs ys:List V}{us ws:List Value},aj xs us->aj ys ws->aj (xs++ys) (us++ws)
 |_,_,_,_,.nil,s=>s
 |_,_,_,_,.cons r t,s=>.cons r (aj.append t s)
theorem aj.take:∀ {xs:List V}{us:List Value}(n:Nat),aj xs us->aj (xs.take n) (us.take n)
 |_,_,0,_=>.nil
 |_,_,_+1,.nil=>.nil
 |_,_,n+1,.cons r t=>.cons r (aj.take n t)
theorem aj.drop:∀ {xs:List V}{us:List Value}(n:Nat),aj xs us->aj (xs.drop n) (us.drop n)
 |_,_,0,r=>r
 |_,_,_+1,.nil=>.nil
 |_,_,n+1,.cons _ t=>aj.drop n t
def bJ:Option V->Option Value->Prop
 |some v,some u=>ao v u
 |none,none=>True
 |_,_=>False
def KV {κ:Type}:List (κ×V)->List (κ×Value)->Prop:=Paired λ(p:κ×V) (q:κ×Value)=>p.1=q.1/\ao p.2 q.2
def kV:Key->V
 |.inl i=>.int i
 |.inr x=>.str x
inductive HO where
  |lst (xs:List V)
  |tup (xs:List V)
  |dK (kvs:List (Key×V))|dT (kvs:List (List Key×V))
  |set (S:Int->Bool) (n:Nat)
  |ins (C dx:Addr) (fs:List (Str×V))
  |own (x:Addr)
  |xd (fs:List (Str×V))
  |met (f x:Addr)
  |rng (lo hi:Int)
  |frz (o:Obj) (u:HO)
  |tbl (ps:Array Value)
  |ext (φ:Heap->Prop)
abbrev Hp:=Addr->Option HO
def upd (H:Hp) (a:Addr) (o:HO):Hp:=λb=>if b=a then some o else H b
theorem aF {H:Hp}{a:Addr}{o:HO}:upd H a o a=some o:=by unfold upd;rw [if_pos rfl]
theorem av {H:Hp}{a b:Addr}{o:HO}(h:b≠a):upd H a o b=H b:=by unfold upd;rw [if_neg h]
theorem gj {H:Hp}{a:Addr}{o u:HO}:upd (upd H a o) a u=upd H a u:=by
 funext b;unfold upd;split<;>rfl
theorem cZ {H:Hp}{a b:Addr}{o u:HO}(h:H a=some o) (h':H b=some u) (d:o≠u):a≠b:=by
 intro e;subst e;rw [h] at h';exact d (Option.some.inj h')
theorem br {H:Hp}{a b:Addr}{o:HO}(h:H a=some o) (h':H b=none):a≠b:=by
 intro e;subst e;rw [h] at h';cases h'
section
variable (P:Program) (w:World)
def aV (H:Hp) (h:Heap) (a:Addr):HO->Prop
 |.lst xs=>xs.length<=sizeLine/\∃ (its:List Value) (n:Nat),aj xs its/\h.get? a=some { cls:=.type "list",data:=.seq its.toArray n }
 |.tup xs=>xs.length<=sizeLine/\∃ its:List Value,aj xs its/\IsTup h a its.toArray
 |.dK kvs=>kvs.length<=sizeLine/\(a==sysModules)=false/\∃ vs,KV kvs vs/\h.DictOf (aY P w) a vs
 |.dT kvs=>kvs.length<=sizeLine/\(a==sysModules)=false/\∃ xs:List (List Key×Addr×Value),
   Paired (λ(p:List Key×V) (q:List Key×Addr×Value)=>p.1=q.1/\H q.2.1=some (.tup (p.1.map kV))/\ao p.2 q.2.2) kvs xs /\
   ∃ o es ep,h.get? a=some o/\o.ExactDict/\o.data=.dict es ep/\es.toList=xs.map (entryOfKey (tupleKind (aY P w)))/\(xs.map (·.1)).Nodup
 |.set S n=>h.SetOf (intKind P w) a S n
 |.ins C dx fs=>H dx=some (.own a)/\fs.length<=1000/\dx≠a/\h.get? a=some (PySem.W.instObj C dx) /\
   ∃ mA,h.Ns1 dx mA/\(∀ f,bJ (fs.lookup f) (mA f))/\PySem.Within mA (fs.map (·.1))
 |.own _=>∃ o,h.get? a=some o
 |.xd fs=>∃ mA,h.Ns1 a mA/\∀ f,bJ (fs.lookup f) (mA f)
 |.rng lo hi=>∃ t u v,h.get? a=some { cls:=.type "range",data:=.fields #[.int lo t,.int hi u,.int 1 v] }
 |.frz o u=>h.get? a=some o/\aV H h a u
 |.tbl ps=>h.get? a=some { cls:=.none,data:=.fields ps }
 |.met f x=>h.get? a=some (PySem.W.methodObj (.ref f) (.ref x))
 |.ext φ=>φ h/\(∃ o,h.get? a=some o)/\∀ h1 h2:Heap,φ h1->(∀ o,h1.get? a=some o->h2.get? a=some o)->φ h2
def HOk (H:Hp) (h:Heap):Prop:=∀ a o,H a=some o->aV P w H h a o
end
section
variable {P:Program}{w:World}{H H':Hp}{h h':Heap}{a:Addr}{o:HO}
theorem aV.lt (x:aV P w H h a o):a<h.objs.size:=by
 cases o with
 |lst xs=>obtain ⟨_,_,_,_,e⟩:=x;exact Heap.lt_size e
 |tup xs=>obtain ⟨_,_,_,p⟩:=x;exact p.lt
 |dK kvs=>obtain ⟨_,_,_,_,o,_,_,e,_⟩:=x;exact Heap.lt_size e
 |dT kvs=>obtain ⟨_,_,_,_,o,_,_,e,_⟩:=x;exact Heap.lt_size e
 |set S n=>obtain ⟨o,_,_,_,e,_⟩:=x;exact Heap.lt_size e
 |ins C dx fs=>obtain ⟨_,_,_,e,_⟩:=x;exact Heap.lt_size e
 |own y=>obtain ⟨_,e⟩:=x;exact Heap.lt_size e
 |xd fs=>obtain ⟨_,⟨_,_,_,e,_⟩,_⟩:=x;exact Heap.lt_size e
 |rng lo hi=>obtain ⟨_,_,_,e⟩:=x;exact Heap.lt_size e
 |frz ob u=>obtain ⟨e,_⟩:=x;exact Heap.lt_size e
 |tbl ps=>exact Heap.lt_size (show h.get? a=some _ from x)
 |met f y=>exact Heap.lt_size (show h.get? a=some _ from x)
 |ext φ=>obtain ⟨_,⟨_,e⟩,_⟩:=x;exact Heap.lt_size e
theorem Paired.mapP {α β:Type}{F G:α->β->Prop}:∀ {l₁:List α}{l₂:List β},Paired F l₁ l₂->(∀ a b,F a b->G a b)->Paired G l₁ l₂
 |_,_,.nil,_=>.nil
 |_,_,.cons r t,f=>.cons (f _ _ r) (Paired.mapP t f)
theorem aV.stay (x:aV P w H h a o) (k:∀ b u,(b=a\/H b=some (.own a))->h.get? b=some u->h'.get? b=some u)
  (ho:∀ b,H b=some (.own a)->H' b=some (.own a)) (ht:∀ b xs,H b=some (.tup xs)->H' b=some (.tup xs)):aV P w H' h' a o:=by
 induction o with
 |lst xs=>obtain ⟨z,its,n,r,e⟩:=x;exact ⟨z,its,n,r,k _ _ (.inl rfl) e⟩
 |tup xs=>obtain ⟨z,its,r,ob,e,c⟩:=x;exact ⟨z,its,r,ob,k _ _ (.inl rfl) e,c⟩
 |dK kvs=>obtain ⟨z,y,vs,r,ob,es,ep,e,c⟩:=x;exact ⟨z,y,vs,r,ob,es,ep,k _ _ (.inl rfl) e,c⟩
 |dT kvs =>
  obtain ⟨z,y,xs,r,ob,es,ep,e,c⟩:=x
  exact ⟨z,y,xs,Paired.mapP r λp q z=>⟨z.1,ht _ _ z.2.1,z.2.2⟩,ob,es,ep,k _ _ (.inl rfl) e,c⟩
 |set S n=>obtain ⟨ob,es,ep,t,e,c⟩:=x;exact ⟨ob,es,ep,t,k _ _ (.inl rfl) e,c⟩
 |ins C dx fs =>
  obtain ⟨d,z,ne,e,mA,⟨od,es,ep,e2,c⟩,r⟩:=x
  exact ⟨ho _ d,z,ne,k _ _ (.inl rfl) e,mA,⟨od,es,ep,k _ _ (.inr d) e2,c⟩,r⟩
 |own y=>obtain ⟨ob,e⟩:=x;exact ⟨ob,k _ _ (.inl rfl) e⟩
 |xd fs=>obtain ⟨mA,⟨od,es,ep,e,c⟩,r⟩:=x;exact ⟨mA,⟨od,es,ep,k _ _ (.inl rfl) e,c⟩,r⟩
 |rng lo hi=>obtain ⟨t,u,v,e⟩:=x;exact ⟨t,u,v,k _ _ (.inl rfl) e⟩
 |frz ob u ih=>obtain ⟨e,q⟩:=x;exact ⟨k _ _ (.inl rfl) e,ih q⟩
 |tbl ps =>
  have e:h.get? a=some { cls:=.none,data:=.fields ps }:=x
  show h'.get? a=some { cls:=.none,data:=.fields ps }
  exact k a _ (.inl rfl) e
 |met f y =>
  have e:h.get? a=some (PySem.W.methodObj (.ref f) (.ref y)):=x
  show h'.get? a=some (PySem.W.methodObj (.ref f) (.ref y))
  exact k a _ (.inl rfl) e
 |ext φ=>obtain ⟨p,⟨o,e⟩,st⟩:=x;exact ⟨st _ _ p λo q=>k _ _ (.inl rfl) q,⟨o,k _ _ (.inl rfl) e⟩,st⟩
theorem HOk.lt (x:HOk P w H h) (e:H a=some o):a<h.objs.size:=(x a o e).lt
theorem HOk.fresh (x:HOk P w H h) (e:h.objs.size<=a):H a=none:=by
 cases q:H a with
 |none=>rfl
 |some u=>exact absurd (Nat.lt_of_lt_of_le (x.lt q) e) (Nat.lt_irrefl _)
theorem HOk.kept (x:HOk P w H h) (k:∀ b u,h.get? b=some u->h'.get? b=some u):HOk P w H h':=λa o e =>
 (x a o e).stay (λb u _ q=>k b u q) (λ_ q=>q) λ_ _ q=>q
theorem HOk.laid (x:HOk P w H h) (k:∀ b u,h.get? b=some u->h'.get? b=some u) (hp:h.objs.size<=a) (new:aV P w (upd H a o) h' a o):HOk P w (upd H a o) h':=λb u e=>by
 have hn:=x.fresh hp
 by_cases hb:b=a
 ·subst hb;rw [aF] at e;cases e;exact new
 ·rw [av hb] at e
  exact (x b u e).stay (λc v _ q=>k c v q) (λc q=>by rw [av (br q hn)];exact q) λc xs q=>by rw [av (br q hn)];exact q
end
def Rd (H:Hp) (a:Addr) (u:HO):Prop:=H a=some u\/∃ o,H a=some (.frz o u)
theorem Rd.ok {P:Program}{w:World}{H:Hp}{h:Heap}{a:Addr}{u:HO}(r:Rd H a u) (x:HOk P w H h):aV P w H h a u:=by
 rcases r with r|⟨o,r⟩
 ·exact x a u r
 ·obtain ⟨_,q⟩:=x a _ r
  exact q
def Mut:Option HO->Prop
 |some (.lst _)=>True
 |some (.dK _)=>True
 |some (.dT _)=>True
 |some (.set _ _)=>True
 |some (.ins _ _ _)=>True
 |some (.ext _)=>True
 |_=>False
section
variable {P:Program}{w:World}{H:Hp}{h h':Heap}{x e:Addr}{o':HO}
theorem HOk.write (ok:HOk P w H h) (mu:Mut (H x)) (he:e=x\/H e=some (.own x)) (k:∀ b u,b≠e->h.get? b=some u->h'.get? b=some u) (heo:∃ u,h'.get? e=some u)
  (new:aV P w (upd H x o') h' x o'):HOk P w (upd H x o') h':=λb u q=>by
 have nown:∀ c y,H c=some (.own y)->c≠x:=λc y r z=>by subst z;rw [r] at mu;exact mu
 have ntup:∀ c xs,H c=some (.tup xs)->c≠x:=λc xs r z=>by subst z;rw [r] at mu;exact mu
 by_cases hb:b=x
 ·subst hb;rw [aF] at q;cases q;exact new
 ·rw [av hb] at q
  by_cases hbe:b=e
  ·have q':H b=some (.own x):=by
    rcases he with z|z
    ·exact absurd (hbe.trans z) hb
    ·rw [hbe];exact z
   rw [q] at q';cases q'
   obtain ⟨v,hv⟩:=heo
   exact ⟨v,by rw [hbe];exact hv⟩
  ·refine (ok b u q).stay (λc v hc r=>k c v ?_ r) (λc r=>by rw [av (nown c b r)];exact r) λc xs r=>by rw [av (ntup c xs r)];exact r
   rcases hc with rfl|hc
   ·exact hbe
   ·rintro rfl
    rcases he with z|z
    ·exact nown c b hc z
    ·rw [hc] at z;cases z;exact hb rfl
end
structure Un (fs ex:List Addr) (H H':Hp) (h h':Heap):Prop where
 keep:∀ b o,h.get? b=some o->H b=none->b∉fs->b∉ex->h'.get? b=some o
 slot:∀ b o,h.get? b=some o->H b=none->b∈fs->b∉ex->∃ sl,h'.get? b=some { o with slots:=sl }
 free:∀ b o,h.get? b=some o->H b=none->b∉ex->H' b=none
 there:∀ b o,h.get? b=some o->b∉ex->∃ o',h'.get? b=some o'
 tups:∀ b xs,H b=some (.tup xs)->H' b=some (.tup xs)
 frzs:∀ b o u,H b=some (.frz o u)->H' b=some (.frz o u)
 tbls:∀ b ps,H b=some (.tbl ps)->∃ more,H' b=some (.tbl (ps++more))
section
variable {fs fs' ex ex':List Addr}{H H1 H2:Hp}{h h1 h2 h':Heap}{a x e:Addr}{o:HO}
theorem Un.any (u:Un fs ex H H1 h h1){b:Addr}{ob:Obj}(q:h.get? b=some ob) (n:H b=none) (hx:b∉ex):∃ sl,h1.get? b=some { ob with slots:=sl }:=by
 by_cases hb:b∈fs
 ·exact u.slot b ob q n hb hx
 ·exact ⟨ob.slots,u.keep b ob q n hb hx⟩
theorem Un.kept (k:∀ b u,h.get? b=some u->h'.get? b=some u):Un fs ex H H h h' :=
 ⟨λb ob q _ _ _=>k b ob q,λb ob q _ _ _=>⟨ob.slots,k b ob q⟩,λ_ _ _ n _=>n,λb ob q _=>⟨ob,k b ob q⟩,λ_ _ q=>q,λ_ _ _ q=>q,λ_ ps q=>⟨#[],by rw [q];simp⟩⟩
theorem Un.refl:Un fs ex H H h h:=Un.kept λ_ _ q=>q
theorem Un.laid (k:∀ b u,h.get? b=some u->h'.get? b=some u) (hp:h.objs.size<=a) (hn:H a=none):Un fs ex H (upd H a o) h h' where
 keep:=λb u q _ _ _=>k b u q
 slot:=λb u q _ _ _=>⟨u.slots,k b u q⟩
 free:=λb u q n _=>by rw [av (Nat.ne_of_lt (Nat.lt_of_lt_of_le (Heap.lt_size q) hp))];exact n
 there:=λb u q _=>⟨u,k b u q⟩
 tups:=λb xs q=>by rw [av (br q hn)];exact q
 frzs:=λb u xs q=>by rw [av (br q hn)];exact q
 tbls:=λb ps q=>⟨#[],by rw [av (br q hn),q];simp⟩
theorem Un.write (mu:Mut (H x)) (he:e=x\/H e=some (.own x)) (k:∀ b u,b≠e->h.get? b=some u->h'.get? b=some u) (heo:∃ u,h'.get? e=some u):Un fs ex H (upd H x o) h h':=by
 have hx:∀ b,H b=none->b≠x:=λb n z=>by subst z;rw [n] at mu;exact mu
 have hb:∀ b,H b=none->b≠e:=λb n z=>by
  subst z
  rcases he with r|r
  ·exact hx b n r
  ·rw [n] at r;cases r
 have hm:∀ b u,H b=some u->¬ Mut (some u)->b≠x:=λb u q nm z=>by subst z;rw [q] at mu;exact nm mu
 refine ⟨λb u q n _ _=>k b u (hb b n) q,λb u q n _ _=>⟨u.slots,k b u (hb b n) q⟩,λb u q n _=>by rw [av (hx b n)];exact n,λb u q _=>?_,
  λb xs q=>by rw [av (hm b _ q λz=>z)];exact q,λb u xs q=>by rw [av (hm b _ q λz=>z)];exact q,λb ps q=>⟨#[],by rw [av (hm b _ q λz=>z),q];simp⟩⟩
 by_cases hbe:b=e
 ·subst hbe;exact heo
 ·exact ⟨u,k b u hbe q⟩
end
def trk (h:Heap) (H:Hp):List Addr:=(List.range h.objs.size).filter λa=>(H a).isSome
def dQ (h:Heap) (H:Hp):Heap:=PySem.W.hideAll h (trk h H)
theorem wT (h:Heap) (H:Hp):(dQ h H).objs.size=h.objs.size:=PySem.W.hideAll_size _ _
theorem xT {h:Heap}{H:Hp}{b:Addr}{o:Obj}(e:h.get? b=some o) (n:H b=none):(dQ h H).get? b=some o :=
 PySem.W.hideAll_get _ e λhm=>by
  have q:(H b).isSome=true:=(List.mem_filter.mp hm).2
  rw [n] at q;simp at q
theorem zq {h:Heap}{H:Hp}{b:Addr}{o:Obj}(e:(dQ h H).get? b=some o):h.get? b=some o/\H b=none:=by
 have e':h.get? b=some o:=PySem.W.of_hideAll (trk h H) e
 refine ⟨e',?_⟩
 cases q:H b with
 |none=>rfl
 |some x =>
  have hm:b∈trk h H:=List.mem_filter.mpr ⟨List.mem_range.mpr (Heap.lt_size e'),by simp [q]⟩
  have z:(dQ h H).get? b=none:=PySem.W.hideAll_none (trk h H) hm
  rw [z] at e;cases e
def zr (g h:Heap) (L:Addr):List (Addr×Obj):=(List.range h.objs.size).filterMap λa=>if a=L\/(g.get? a).isSome=true then none else (h.get? a).map λo=>(a,o)
def rest (g h:Heap) (L d:Addr):List (Addr×Obj):=(zr g h L).filter λp=>decide (p.1≠d)
structure Mod (K:PySem.W.Frag) (mg:Str->Option Value) (base:Heap):Prop where
 kin:K.In base
 glob:base.Ns mainGlobals mg
 blt:∃ mb,base.Ns builtinsNs mb/\∀ x:Str,x ≠ "__name__"->mb x=bootBuiltins x
 nolimit:base.NoLimit
structure Cx where
 prog:Program
 w:World
 K:PySem.W.Frag
 mg:Str->Option Value
 base:Heap
 A:Around
 N:List Str
 s₀:Shared
 H₀:Hp
 env:Env
 outer:List Env
 stack:List Env
 ex:List Addr
 fn:Str->Bool
 calm:Bool
 pn:List (Addr×Obj)
 xe:Value->Shared->Prop
def frs (l:List Env):List Addr:=l.filterMap (·.frame)
abbrev Cx.fs (X:Cx):List Addr:=frs X.outer
def Vis (sc:Scope) (x:Str):Prop:=sc.names.lookup x=some .local\/sc.names.lookup x=some .cell\/sc.names.lookup x=some .free
def Loc (sc:Scope) (x:Str):Prop:=sc.names.lookup x=some .local\/sc.names.lookup x=some .cell
def Gf (env:Env) (h:Heap) (m:Str->Option Value) (x:Str) (u:Value):Prop :=
 (env.kindOf x=some .local/\m x=some u)\/((env.kindOf x=some .cell\/env.kindOf x=some .free)/\∃ c,env.cells.lookup x=some c/\h.IsCell c (some u))
structure Cx.Ok (X:Cx):Prop where
 mod:Mod X.K X.mg X.base
 kind:X.env.scope.kind=.function
 glob:X.env.globals=mainGlobals
 blt:X.env.builtins=builtinsNs
 above:X.s₀.heap.objs.size<=X.env.locals
 inj:∀ x y c,X.env.cells.lookup x=some c->X.env.cells.lookup y=some c->x=y
 has:∀ x,(X.env.kindOf x=some .cell\/X.env.kindOf x=some .free)->∃ c,X.env.cells.lookup x=some c
 cab:∀ x c,X.fn x=true->X.env.cells.lookup x=some c->X.s₀.heap.objs.size<=c
 hd:X.calm=true->X.A.handled=none
 frames:X.A.frames=some X.stack
 stk:X.stack=X.outer\/(X.stack=X.env::X.outer/\X.env.frame=some X.env.locals)
 exf:∀ b∈X.ex,b≠X.env.locals/\∀ x c,X.env.cells.lookup x=some c->c≠b
 bs:∀ b o,X.base.get? b=some o->X.s₀.heap.get? b=some o/\X.H₀ b=none
 bsz:X.base.objs.size<=X.s₀.heap.objs.size
 noex:∀ b o,X.base.get? b=some o->b∉X.ex
 exfs:∀ b∈X.ex,b∉X.fs
 funs:X.s₀.heap.FunFrames X.base X.outer
 frf:∀ b∈X.fs,X.H₀ b=none
structure Inv (X:Cx) (pins:List (Addr×Obj)) (σ:List (Option V)) (H:Hp) (s:Shared):Prop where
 ok:X.Ok
 os:s.os=X.s₀.os
 bare:AllBare s.gens
 base:Un X.fs X.ex X.H₀ H X.s₀.heap s.heap
 loc:∃ m,s.heap.Ns X.env.locals m/\∀ (i:Nat) (x:Str) (v:V),X.N[i]?=some x->σ[i]?=some (some v)->Vis X.env.scope x->∃ u,ao v u/\Gf X.env s.heap m x u
 cell:∀ x c,X.env.cells.lookup x=some c->∃ v,s.heap.IsCell c v
 free:H X.env.locals=none
 freeC:∀ x c,X.env.cells.lookup x=some c->H c=none
 pin:∀ p∈X.pn++pins,s.heap.get? p.1=some p.2/\H p.1=none/\p.1≠X.env.locals/\p.1∉X.fs/\∀ v,p.2.data≠.cell v
 hok:HOk X.prog X.w H s.heap
 len:σ.length=X.N.length
section
variable {X:Cx}{pins:List (Addr×Obj)}{σ:List (Option V)}{H H':Hp}{s:Shared}{h':Heap}
theorem Cx.Ok.nofr (ok:X.Ok){b:Addr}{o:Obj}(e:X.base.get? b=some o):b∉X.fs:=λhb=>by
 have:=(ok.funs.mem hb).1
 rw [e] at this;cases this
theorem Inv.bs (I:Inv X pins σ H s):∀ b o,X.base.get? b=some o->s.heap.get? b=some o/\H b=none:=λb o e =>
 ⟨I.base.keep b o (I.ok.bs b o e).1 (I.ok.bs b o e).2 (I.ok.nofr e) (I.ok.noex b o e),I.base.free b o (I.ok.bs b o e).1 (I.ok.bs b o e).2 (I.ok.noex b o e)⟩
theorem Inv.bk (I:Inv X pins σ H s):∀ b o,X.base.get? b=some o->s.heap.get? b=some o:=λb o e=>(I.bs b o e).1
theorem Inv.mod (I:Inv X pins σ H s):Mod X.K X.mg X.base:=I.ok.mod
theorem Inv.kIn (I:Inv X pins σ H s):X.K.In s.heap:=I.ok.mod.kin.keeps I.bk
theorem Inv.lt (I:Inv X pins σ H s):X.env.locals<s.heap.objs.size:=let ⟨_,hn,_⟩:=I.loc;hn.lt
theorem Inv.sz (I:Inv X pins σ H s):X.s₀.heap.objs.size<=s.heap.objs.size:=Nat.le_trans I.ok.above (Nat.le_of_lt I.lt)
theorem Inv.nofs (I:Inv X pins σ H s){a:Addr}(h:s.heap.objs.size<=a):a∉X.fs:=λhb=>by
 obtain ⟨_,o,ho,_⟩:=I.ok.funs.mem hb
 exact absurd (Nat.lt_of_lt_of_le (Heap.lt_size ho) (Nat.le_trans I.sz h)) (Nat.lt_irrefl _)
theorem Inv.cne (I:Inv X pins σ H s):∀ x c,X.env.cells.lookup x=some c->c≠X.env.locals:=λx c e z=>by
 obtain ⟨v,o,ho,hd⟩:=I.cell x c e
 obtain ⟨m,⟨o',es,ep,ho',hd',_⟩,_⟩:=I.loc
 rw [z,ho'] at ho;cases ho;rw [hd'] at hd;cases hd
theorem Inv.funs (I:Inv X pins σ H s):s.heap.FunFrames X.base X.outer:=by
 have all:∀ (l:List Env),(∀ b∈frs l,b∈X.fs)->X.s₀.heap.FunFrames X.base l->s.heap.FunFrames X.base l:=by
  intro l
  induction l with
  |nil=>intro _ _;trivial
  |cons env r ih =>
   intro hs hl
   obtain ⟨hk,⟨L,o,hf,hn,ho,hd⟩,hr⟩:=hl
   have hL:L∈X.fs:=hs L (by unfold frs;rw [List.filterMap_cons,hf];exact List.mem_cons_self)
   obtain ⟨sl,e⟩:=I.base.slot L o ho (I.ok.frf L hL) hL λz=>I.ok.exfs L z hL
   exact ⟨hk,⟨L,_,hf,hn,e,hd⟩,ih (λb hb=>hs b (by unfold frs;rw [List.filterMap_cons,hf];exact List.mem_cons_of_mem _ hb)) hr⟩
 exact all X.outer (λ_ hb=>hb) I.ok.funs
theorem Inv.stack (I:Inv X pins σ H s):s.heap.FunFrames X.base X.stack:=by
 rcases I.ok.stk with e|⟨e,hf⟩
 ·rw [e];exact I.funs
 ·rw [e]
  obtain ⟨m,hn,_⟩:=I.loc
  refine .cons (by rw [I.ok.kind];decide) hf hn ?_ I.funs
  exact Heap.get?_none_of_le (Nat.le_trans I.ok.bsz I.ok.above)
theorem Inv.stkSub (I:Inv X pins σ H s):∀ b∈frs X.stack,b∈X.env.locals::X.fs:=λb hb=>by
 rcases I.ok.stk with e|⟨e,hf⟩
 ·rw [e] at hb;exact List.mem_cons_of_mem _ hb
 ·rw [e] at hb
  unfold frs at hb
  rw [List.filterMap_cons,hf] at hb
  exact hb
theorem Inv.stkFree (I:Inv X pins σ H s):∀ b∈frs X.stack,H b=none:=λb hb=>by
 rcases List.mem_cons.mp (I.stkSub b hb) with e|hb
 ·rw [e];exact I.free
 ·obtain ⟨_,o,ho,_⟩:=I.ok.funs.mem hb
  exact I.base.free b o ho (I.ok.frf b hb) λz=>I.ok.exfs b z hb
theorem Inv.step {g':Array GenState}{t':Nat}{d':Drawn}{ch:List Addr}(I:Inv X pins σ H s)
  (hch:∀ b∈ch,(b∈X.ex\/X.s₀.heap.objs.size<=b)/\b≠X.env.locals/\(∀ x c,X.env.cells.lookup x=some c->c≠b)/\∀ p∈X.pn++pins,p.1≠b)
  (keep:∀ b o,b≠X.env.locals->b∉X.fs->b∉ch->s.heap.get? b=some o->H b=none->h'.get? b=some o)
  (slot:∀ b o,b≠X.env.locals->b∈X.fs->b∉ch->s.heap.get? b=some o->H b=none->∃ sl,h'.get? b=some { o with slots:=sl }) (free:∀ b o,b∉ch->s.heap.get? b=some o->H b=none->H' b=none)
  (there:∀ b o,b∉ch->s.heap.get? b=some o->∃ o',h'.get? b=some o')
  (tups:∀ b xs,H b=some (.tup xs)->H' b=some (.tup xs)) (frzs:∀ b o u,H b=some (.frz o u)->H' b=some (.frz o u)) (tbls:∀ b ps,H b=some (.tbl ps)->∃ more,H' b=some (.tbl (ps++more)))
  (ns:∀ m,s.heap.Ns X.env.locals m->h'.Ns X.env.locals m) (hok:HOk X.prog X.w H' h') (hg:AllBare g') :
  Inv X pins σ H' { s with heap:=h',gens:=g',drawn:=d',toks:=t' }:=by
 have neL:∀ b o,X.s₀.heap.get? b=some o->b≠X.env.locals:=λb o e=>Nat.ne_of_lt (Nat.lt_of_lt_of_le (Heap.lt_size e) I.ok.above)
 have neC:∀ b o,X.s₀.heap.get? b=some o->b∉X.ex->b∉ch:=λb o e hx hb=>by
  rcases (hch b hb).1 with z|z
  ·exact hx z
  ·exact absurd (Nat.lt_of_lt_of_le (Heap.lt_size e) z) (Nat.lt_irrefl _)
 have cellK:∀ x c,X.env.cells.lookup x=some c->∀ v,s.heap.IsCell c v->h'.IsCell c v:=λx c e v zz1=>by
  obtain ⟨o,ho,hd⟩:=zz1
  have nch:c∉ch:=λz=>(hch c z).2.2.1 x c e rfl
  by_cases hc:c∈X.fs
  ·obtain ⟨sl,q⟩:=slot c o (I.cne x c e) hc nch ho (I.freeC x c e)
   exact ⟨_,q,hd⟩
  ·exact ⟨o,keep c o (I.cne x c e) hc nch ho (I.freeC x c e),hd⟩
 refine ⟨I.ok,I.os,hg,⟨λb o e n hb hx=>?_,λb o e n hb hx=>?_,λb o e n hx=>?_,λb o e hx=>?_,λb xs e=>tups b xs (I.base.tups b xs e),λb o xs e=>frzs b o xs (I.base.frzs b o xs e),λb ps e=>?_⟩,?_,λx c e=>?_,?_,λx c e=>?_,λp hp=>?_,hok,I.len⟩
 ·exact keep b o (neL b o e) hb (neC b o e hx) (I.base.keep b o e n hb hx) (I.base.free b o e n hx)
 ·obtain ⟨sl,e1⟩:=I.base.slot b o e n hb hx
  obtain ⟨sl',e2⟩:=slot b _ (neL b o e) hb (neC b o e hx) e1 (I.base.free b o e n hx)
  exact ⟨sl',e2⟩
 ·obtain ⟨o',e1⟩:=I.base.there b o e hx
  exact free b o' (neC b o e hx) e1 (I.base.free b o e n hx)
 ·obtain ⟨o',e1⟩:=I.base.there b o e hx
  exact there b o' (neC b o e hx) e1
 ·obtain ⟨m1,e1⟩:=I.base.tbls b ps e
  obtain ⟨m2,e2⟩:=tbls b _ e1
  exact ⟨m1++m2,by rw [e2,Array.append_assoc]⟩
 ·obtain ⟨m,hn,hl⟩:=I.loc
  refine ⟨m,ns m hn,λi x v e1 e2 e3=>?_⟩
  obtain ⟨u,r,l⟩:=hl i x v e1 e2 e3
  refine ⟨u,r,?_⟩
  rcases l with l|⟨k,c,e,z⟩
  ·exact .inl l
  ·exact .inr ⟨k,c,e,cellK x c e _ z⟩
 ·obtain ⟨v,z⟩:=I.cell x c e
  exact ⟨v,cellK x c e v z⟩
 ·obtain ⟨m,⟨o,_,_,ho,_⟩,_⟩:=I.loc
  exact free _ o (λz=>(hch _ z).2.1 rfl) ho I.free
 ·obtain ⟨v,o,ho,hd⟩:=I.cell x c e
  exact free c o (λz=>(hch c z).2.2.1 x c e rfl) ho (I.freeC x c e)
 ·obtain ⟨e,n,ne,nf,d⟩:=I.pin p hp
  have nch:p.1∉ch:=λz=>(hch p.1 z).2.2.2 p hp rfl
  exact ⟨keep p.1 p.2 ne nf nch e n,free p.1 p.2 nch e n,ne,nf,d⟩
theorem Inv.un {t':Nat}(I:Inv X pins σ H s) (u:Un X.fs [] H H' s.heap h') (hok:HOk X.prog X.w H' h'):Inv X pins σ H' { s with heap:=h',toks:=t' }:=by
 obtain ⟨m,⟨o,es,ep,ho,r⟩,_⟩:=id I.loc
 obtain ⟨sl,hL⟩:=u.any ho I.free (by simp)
 exact I.step (g':=s.gens) (d':=s.drawn) (ch:=[]) (λ_ z=>nomatch z) (λb o _ hb _ e n=>u.keep b o e n hb (by simp)) (λb o _ hb _ e n=>u.slot b o e n hb (by simp)) (λb o _ e n=>u.free b o e n (by simp)) (λb o _ e=>u.there b o e (by simp)) u.tups u.frzs u.tbls (λm' hm=>by
  obtain ⟨o',es',ep',ho',r'⟩:=hm
  rw [ho] at ho';cases ho'
  exact ⟨_,es',ep',hL,r'⟩) hok I.bare
theorem Inv.call {g':Array GenState}{t':Nat}{d':Drawn}{ch:List Addr}(I:Inv X pins σ H s) (u:Un (frs X.stack) ch H H' s.heap h') (hok:HOk X.prog X.w H' h') (hg:AllBare g')
  (hch:∀ b∈ch,(b∈X.ex\/X.s₀.heap.objs.size<=b)/\b≠X.env.locals/\(∀ x c,X.env.cells.lookup x=some c->c≠b)/\∀ p∈X.pn++pins,p.1≠b) :
  Inv X pins σ H' { s with heap:=h',gens:=g',drawn:=d',toks:=t' }:=by
 obtain ⟨m,⟨o,es,ep,ho,r⟩,_⟩:=id I.loc
 obtain ⟨sl,hL⟩:=u.any ho I.free λz=>(hch _ z).2.1 rfl
 exact I.step (ch:=ch) hch (λb o hL hb hc e n=>u.keep b o e n (λz=>(List.mem_cons.mp (I.stkSub b z)).elim hL hb) hc) (λb o _ _ hc e n=>u.any e n hc) (λb o hc e n=>u.free b o e n hc) (λb o hc e=>u.there b o e hc) u.tups u.frzs u.tbls (λm' hm=>by
  obtain ⟨o',es',ep',ho',r'⟩:=hm
  rw [ho] at ho';cases ho'
  exact ⟨_,es',ep',hL,r'⟩) hok hg
theorem Inv.turned {t':Nat}{it:Addr}(I:Inv X pins σ H s) (k:∀ b o,b≠it->s.heap.get? b=some o->h'.get? b=some o) (hn:H it=none) (hL:it≠X.env.locals)
  (h1:it∈X.ex\/X.s₀.heap.objs.size<=it) (h2:∀ x c,X.env.cells.lookup x=some c->c≠it) (h3:∀ p∈X.pn++pins,p.1≠it):Inv X pins σ H { s with heap:=h',toks:=t' }:=by
 have nit:∀ b u,H b=some u->b≠it:=λb u e z=>by rw [z,hn] at e;cases e
 refine I.step (g':=s.gens) (d':=s.drawn) (ch:=[it]) (λb hb=>?_) (λb o _ _ hc e _=>k b o (λz=>hc (by simp [z])) e) (λb o _ _ hc e _=>⟨o.slots,k b o (λz=>hc (by simp [z])) e⟩) (λ_ _ _ _ n=>n)
  (λb o hc e=>⟨o,k b o (λz=>hc (by simp [z])) e⟩) (λ_ _ e=>e) (λ_ _ _ e=>e) (λb ps e=>⟨#[],by rw [e];simp⟩) (λm hm=>?_) (λb u e=>?_) I.bare
 ·have e:b=it:=by simpa using hb
  subst e
  exact ⟨h1,hL,h2,h3⟩
 ·obtain ⟨o,es,ep,ho,r⟩:=hm
  exact ⟨o,es,ep,k _ o (Ne.symm hL) ho,r⟩
 ·refine (I.hok b u e).stay (λc v hc q=>k c v ?_ q) (λ_ q=>q) λ_ _ q=>q
  rcases hc with z|z
  ·rw [z];exact nit b u e
  ·exact nit c _ z
theorem Inv.tok (I:Inv X pins σ H s) (t:Nat):Inv X pins σ H { s with toks:=t }:=I.un (h':=s.heap) (t':=t) Un.refl I.hok
theorem Inv.kept {t':Nat}(I:Inv X pins σ H s) (k:∀ b u,s.heap.get? b=some u->h'.get? b=some u):Inv X pins σ H { s with heap:=h',toks:=t' }:=I.un (Un.kept k) (I.hok.kept k)
theorem Inv.laid {a:Addr}{o:HO}{t':Nat}(I:Inv X pins σ H s) (k:∀ b u,s.heap.get? b=some u->h'.get? b=some u) (hp:s.heap.objs.size<=a) (new:aV X.prog X.w (upd H a o) h' a o) :
  Inv X pins σ (upd H a o) { s with heap:=h',toks:=t' }:=I.un (Un.laid k hp (I.hok.fresh hp)) (I.hok.laid k hp new)
theorem Inv.write {x e:Addr}{o:HO}{t':Nat}(I:Inv X pins σ H s) (mu:Mut (H x)) (he:e=x\/H e=some (.own x)) (k:∀ b u,b≠e->s.heap.get? b=some u->h'.get? b=some u) (heo:∃ u,h'.get? e=some u)
  (new:aV X.prog X.w (upd H x o) h' x o):Inv X pins σ (upd H x o) { s with heap:=h',toks:=t' }:=I.un (Un.write mu he k heo) (I.hok.write mu he k heo new)
theorem Inv.pins_of {pins':List (Addr×Obj)}(I:Inv X pins σ H s) (h:∀ p∈pins',s.heap.get? p.1=some p.2/\H p.1=none/\p.1≠X.env.locals/\p.1∉X.fs/\∀ v,p.2.data≠.cell v):Inv X pins' σ H s :=
 ⟨I.ok,I.os,I.bare,I.base,I.loc,I.cell,I.free,I.freeC,λp hp=>(List.mem_append.mp hp).elim (λz=>I.pin p (List.mem_append_left _ z)) (h p),I.hok,I.len⟩
theorem lf {N:List Str}(hN:N.Nodup){i j:Nat}{x:Str}(a:N[i]?=some x) (b:N[j]?=some x):i=j:=by
 obtain ⟨h1,e1⟩:=List.getElem?_eq_some_iff.mp a
 obtain ⟨h2,e2⟩:=List.getElem?_eq_some_iff.mp b
 exact (List.getElem_inj hN).mp (e1.trans e2.symm)
theorem wU {M:Model}{A:Around}{E:Value->Shared->Prop}{i:Nat}{x:Str}{v:V}{u:Value}{Q:Unit->Shared->Prop}(I:Inv X pins σ H s) (hN:X.N.Nodup) (hi:X.N[i]?=some x) (hx:Loc X.env.scope x) (r:ao v u)
  (h:∀ s',Inv X pins (σ.set i (some v)) H s'->(∃ a,Heap.SameBut a s.heap s'.heap/\(a=X.env.locals\/X.env.cells.lookup x=some a))->Q () s') (hf:X.fn x=true\/X.env.scope.names.lookup x=some .local:=by first|exact .inl rfl|exact .inr rfl|assumption):wpAny M A (storeName X.env x u) Q E s:=by
 obtain ⟨m,hn,hl⟩:=id I.loc
 have hcls:(X.env.scope.kind==.class || (X.env.scope.kind==.module&&X.env.locals != X.env.globals))=false:=by rw [I.ok.kind];rfl
 have hiσ:i<σ.length:=by rw [I.len];exact (List.getElem?_eq_some_iff.mp hi).1
 have cne:=I.cne
 have tracked:∀ {a:Addr}{h':Heap},(∃ o,s.heap.get? a=some o/\H a=none)->Heap.SameBut a s.heap h'->HOk X.prog X.w H h':=fun {a h'} ha hs b ob e=>by
  obtain ⟨_,_,hfree⟩:=ha
  refine (I.hok b ob e).stay (λc w' hc q=>(hs.2 c ?_).trans q) (λ_ q=>q) λ_ _ q=>q
  rintro rfl
  rcases hc with rfl|hc
  ·rw [hfree] at e;cases e
  ·rw [hfree] at hc;cases hc
 rcases hx with hk|hk
 ·refine wpAny_storeName_local hk hn (λh' hn' hs=>?_) hcls
  obtain ⟨oL,_,_,hoL,_⟩:=id hn
  refine h _ ⟨I.ok,I.os,I.bare,⟨λb o e n hb hx=>?_,λb o e n hb hx=>?_,I.base.free,λb o e hx=>?_,I.base.tups,I.base.frzs,I.base.tbls⟩,⟨_,hn',λj y v' e1 e2 e3=>?_⟩,λy c e=>?_,I.free,I.freeC,λp hp=>?_,tracked ⟨oL,hoL,I.free⟩ hs,by simpa using I.len⟩ ⟨_,hs,.inl rfl⟩
  ·exact (hs.2 b (Nat.ne_of_lt (Nat.lt_of_lt_of_le (Heap.lt_size e) I.ok.above))).trans (I.base.keep b o e n hb hx)
  ·obtain ⟨sl,e1⟩:=I.base.slot b o e n hb hx
   exact ⟨sl,(hs.2 b (Nat.ne_of_lt (Nat.lt_of_lt_of_le (Heap.lt_size e) I.ok.above))).trans e1⟩
  ·obtain ⟨o',e1⟩:=I.base.there b o e hx
   exact ⟨o',(hs.2 b (Nat.ne_of_lt (Nat.lt_of_lt_of_le (Heap.lt_size e) I.ok.above))).trans e1⟩
  ·by_cases hj:j=i
   ·subst hj
    rw [hi] at e1;cases e1
    rw [List.getElem?_set_self hiσ] at e2
    cases e2
    exact ⟨u,r,.inl ⟨hk,by simp⟩⟩
   ·rw [List.getElem?_set_ne (Ne.symm hj)] at e2
    obtain ⟨u',r',q⟩:=hl j y v' e1 e2 e3
    refine ⟨u',r',?_⟩
    rcases q with ⟨k,e⟩|⟨k,c,e,z⟩
    ·refine .inl ⟨k,?_⟩
     have:y≠x:=λe=>hj (lf hN e1 (e ▸ hi))
     simp [this,e]
    ·exact .inr ⟨k,c,e,z.sameBut hs (cne y c e)⟩
  ·obtain ⟨w',z⟩:=I.cell y c e
   exact ⟨w',z.sameBut hs (cne y c e)⟩
  ·obtain ⟨e,n,ne,nf,d⟩:=I.pin p hp
   exact ⟨(hs.2 p.1 ne).trans e,n,ne,nf,d⟩
 ·have hfn:X.fn x=true:=by
   rcases hf with z|z
   ·exact z
   ·rw [z] at hk;cases hk
  obtain ⟨c,hc⟩:=I.ok.has x (.inl hk)
  obtain ⟨w',z⟩:=I.cell x c hc
  refine wpAny_storeName_cell I.ok.kind hk hc z (λh' hc' hs=>?_)
  obtain ⟨oc,hoc,hocd⟩:=id z
  refine h { s with heap:=h' } ⟨I.ok,I.os,I.bare,⟨λb o e n hb hx=>?_,λb o e n hb hx=>?_,I.base.free,λb o e hx=>?_,I.base.tups,I.base.frzs,I.base.tbls⟩,⟨m,hn.sameBut hs (Ne.symm (cne x c hc)),λj y v' e1 e2 e3=>?_⟩,λy c' e=>?_,I.free,I.freeC,λp hp=>?_,tracked ⟨oc,hoc,I.freeC x c hc⟩ hs,by simpa using I.len⟩ ⟨c,hs,.inr hc⟩
  ·exact (hs.2 b (Nat.ne_of_lt (Nat.lt_of_lt_of_le (Heap.lt_size e) (I.ok.cab x c hfn hc)))).trans (I.base.keep b o e n hb hx)
  ·obtain ⟨sl,e1⟩:=I.base.slot b o e n hb hx
   exact ⟨sl,(hs.2 b (Nat.ne_of_lt (Nat.lt_of_lt_of_le (Heap.lt_size e) (I.ok.cab x c hfn hc)))).trans e1⟩
  ·obtain ⟨o',e1⟩:=I.base.there b o e hx
   exact ⟨o',(hs.2 b (Nat.ne_of_lt (Nat.lt_of_lt_of_le (Heap.lt_size e) (I.ok.cab x c hfn hc)))).trans e1⟩
  ·by_cases hj:j=i
   ·subst hj
    rw [hi] at e1;cases e1
    rw [List.getElem?_set_self hiσ] at e2
    cases e2
    exact ⟨u,r,.inr ⟨.inl hk,c,hc,hc'⟩⟩
   ·rw [List.getElem?_set_ne (Ne.symm hj)] at e2
    obtain ⟨u',r',q⟩:=hl j y v' e1 e2 e3
    refine ⟨u',r',?_⟩
    rcases q with q|⟨k,c',e,z'⟩
    ·exact .inl q
    ·refine .inr ⟨k,c',e,z'.sameBut hs ?_⟩
     rintro rfl
     exact hj (lf hN e1 (I.ok.inj _ _ _ e hc ▸ hi))
  ·by_cases hcc:c'=c
   ·subst hcc;exact ⟨_,hc'⟩
   ·obtain ⟨w2,z2⟩:=I.cell y c' e
    exact ⟨w2,z2.sameBut hs hcc⟩
  ·obtain ⟨e,n,ne,nf,d⟩:=I.pin p hp
   refine ⟨(hs.2 p.1 ?_).trans e,n,ne,nf,d⟩
   intro q
   rw [q,hoc] at e
   have q':oc=p.2:=Option.some.inj e
   exact d w' (by rw [<- q'];exact hocd)
theorem h9 {M:Model}{A:Around}{E:Value->Shared->Prop}{i:Nat}{x:Str}{v:V}{u:Value}{Q:Unit->Shared->Prop}(I:Inv X pins σ H s) (hN:X.N.Nodup) (hi:X.N[i]?=some x) (hx:Loc X.env.scope x) (r:ao v u)
  (h:∀ s',Inv X pins (σ.set i (some v)) H s'->Q () s') (hf:X.fn x=true\/X.env.scope.names.lookup x=some .local:=by first|exact .inl rfl|exact .inr rfl|assumption):wpAny M A (storeName X.env x u) Q E s :=
 wU I hN hi hx r (λs' I' _=>h s' I') hf
theorem Inv.call' {s':Shared}{ch:List Addr}(I:Inv X pins σ H s) (ho:s'.os=s.os) (u:Un (frs X.stack) ch H H' s.heap s'.heap) (hok:HOk X.prog X.w H' s'.heap) (hg:AllBare s'.gens)
  (hch:∀ b∈ch,(b∈X.ex\/X.s₀.heap.objs.size<=b)/\b≠X.env.locals/\(∀ x c,X.env.cells.lookup x=some c->c≠b)/\∀ p∈X.pn++pins,p.1≠b):Inv X pins σ H' s':=by
 obtain ⟨h',g',d',t',o'⟩:=s'
 have e:o'=s.os:=ho
 subst e
 exact I.call (g':=g') (t':=t') (d':=d') u hok hg hch
end
abbrev XK:=Value->Option Addr->Hp->Prop
abbrev St:=List (Option V)
abbrev VK:=V->Hp->Prop
abbrev TE:=St->Hp->VK->Prop
abbrev TT:=St->Hp->(Bool->Hp->Prop)->Prop
abbrev TA:=St->Hp->(List V->Hp->Prop)->Prop
structure Ends where
 nx:St->Hp->Prop
 rt:VK
 bk:St->Hp->Prop:=λ_ _=>False
 ct:St->Hp->Prop:=λ_ _=>False
abbrev TS:=Ends->St->Hp->Prop
def EP (X:Cx) (pins:List (Addr×Obj)) (σ:St) (Q:VK) (u:Value) (s':Shared):Prop:=∃ v H',Inv X pins σ H' s'/\ao v u/\Q v H'
def TP (X:Cx) (pins:List (Addr×Obj)) (σ:St) (Q:Bool->Hp->Prop) (b:Bool) (s':Shared):Prop:=∃ H',Inv X pins σ H' s'/\Q b H'
def AP (X:Cx) (pins:List (Addr×Obj)) (σ:St) (Q:List V->Hp->Prop) (us:List Value) (s':Shared):Prop:=∃ vs H',Inv X pins σ H' s'/\aj vs us/\Q vs H'
def SP (X:Cx) (pins:List (Addr×Obj)) (D:Ends) (f:Flow) (s':Shared):Prop :=
 match f with
 |.next=>∃ σ' H',Inv X pins σ' H' s'/\D.nx σ' H'
 |.brk=>∃ σ' H',Inv X pins σ' H' s'/\D.bk σ' H'
 |.cont=>∃ σ' H',Inv X pins σ' H' s'/\D.ct σ' H'
 |.ret u=>∃ v σ' H',Inv X pins σ' H' s'/\ao v u/\D.rt v H'
def PE (X:Cx) (e:Expr) (t:TE):Prop :=
 ∀ (pins:List (Addr×Obj)) (s:Shared) (σ:St) (H:Hp) (Q:VK),Inv X pins σ H s->t σ H Q->wpAny (model X.prog X.w) X.A (eval e X.env) (EP X pins σ Q) X.xe s
def PT (X:Cx) (e:Expr) (t:TT):Prop :=
 ∀ (pins:List (Addr×Obj)) (s:Shared) (σ:St) (H:Hp) (Q:Bool->Hp->Prop),Inv X pins σ H s->t σ H Q->wpAny (model X.prog X.w) X.A (isTrue e X.env (eval e X.env)) (TP X pins σ Q) X.xe s
def PW (X:Cx) (e:Expr) (t:TT):Prop :=
 ∀ (whole:Sem Value) (pins:List (Addr×Obj)) (s:Shared) (σ:St) (H:Hp) (Q:Bool->Hp->Prop),Inv X pins σ H s->t σ H Q->wpAny (model X.prog X.w) X.A (isTrue e X.env whole) (TP X pins σ Q) X.xe s
def PA (X:Cx) (es:List Expr) (t:TA):Prop :=
 ∀ (pos:Pos) (pins:List (Addr×Obj)) (s:Shared) (σ:St) (H:Hp) (Q:List V->Hp->Prop),Inv X pins σ H s->t σ H Q->wpAny (model X.prog X.w) X.A (spliced (backTo pos (starEach es X.env))) (AP X pins σ Q) X.xe s
def PS (X:Cx) (st:Stmt) (t:TS):Prop :=
 ∀ (pins:List (Addr×Obj)) (s:Shared) (σ:St) (H:Hp) (D:Ends),Inv X pins σ H s->t D σ H->wpAny (model X.prog X.w) X.A (exec st X.env) (SP X pins D) X.xe s
def PSs (X:Cx) (st:List Stmt) (t:TS):Prop :=
 ∀ (pins:List (Addr×Obj)) (s:Shared) (σ:St) (H:Hp) (D:Ends),Inv X pins σ H s->t D σ H->wpAny (model X.prog X.w) X.A (execs st X.env) (SP X pins D) X.xe s
theorem thn {α:Type}{t:Sem α}{Q Q':α->Shared->Prop}{M:Model}{A:Around}{E:Value->Shared->Prop}{s:Shared}(h:wpAny M A t Q E s) (hQ:∀ a s,Q a s->Q' a s):wpAny M A t Q' E s:=wpAny_mono h hQ λ_ _ x=>x
section
variable {X:Cx}
def nP (i:Nat):TE:=λσ H Q=>∃ v,σ[i]?=some (some v)/\Q v H
def tC (v:V):TE:=λ_ H Q=>Q v H
theorem sI {i:Nat}{x:Str}{pos:Pos}(hN:X.N[i]?=some x) (hv:Vis X.env.scope x) (hd:(x==("__debug__":Str))=false:=by decide) (hcd:(x==("__classdict__":Str))=false:=by decide):PE X (.Name x pos) (nP i):=by
 intro pins s σ H Q I h
 obtain ⟨v,e,h⟩:=h
 obtain ⟨m,hn,hl⟩:=I.loc
 obtain ⟨u,r,l⟩:=hl i x v hN e hv
 have fin:EP X pins σ Q u s:=⟨v,H,I,r,h⟩
 rcases l with ⟨hk,hm⟩|⟨hk,c,hc,hcell⟩
 ·exact wpAny_Name (wpAny_loadName_local I.ok.kind hk hn hm fin) hd
 ·rcases hk with hk|hk
  ·exact wpAny_Name (wpAny_loadName_cell I.ok.kind hk hc hcell fin) hd
  ·exact wpAny_Name (wpAny_loadName_free I.ok.kind hk hc hcell fin hcd) hd
theorem BG {i j pos}:PE X (.Constant (.int i) j pos) (tC (.int i)):=λ_ _ _ H _ I h=>wpAny_Constant_int ⟨.int i,H,I.tok _,⟨_,rfl⟩,h⟩
theorem Eg {b j pos}:PE X (.Constant (.bool b) j pos) (tC (.bl b)):=λ_ _ _ H _ I h=>Constant_bool ⟨.bl b,H,I,rfl,h⟩
theorem BH {j pos}:PE X (.Constant .none j pos) (tC .non):=λ_ _ _ H _ I h=>Constant_none ⟨.non,H,I,rfl,h⟩
theorem eN {x j pos}:PE X (.Constant (.str x) j pos) (tC (.str x)):=λ_ _ _ H _ I h=>Calls.Constant_str ⟨.str x,H,I.tok _,⟨_,rfl⟩,h⟩
def Gl (X:Cx) (x:Str):Prop:=X.env.kindOf x=some .globalImplicit
theorem cV {E:Value->Shared->Prop}{pins:List (Addr×Obj)}{s:Shared}{σ:St}{H:Hp}{x:Str}{u:Value}{pos:Pos}{Q:Value->Shared->Prop}(I:Inv X pins σ H s) (hg:Gl X x) (hm:X.mg x=some u) (h:Q u s)
  (hd:(x==("__debug__":Str))=false:=by decide):wpAny (model X.prog X.w) X.A (eval (.Name x pos) X.env) Q E s :=
 Calls.Name_function_global I.ok.kind hg (Calls.loadGlobal_global (by rw [I.ok.glob];exact I.mod.glob.keeps I.bk) hm h) hd
theorem jN {E:Value->Shared->Prop}{pins:List (Addr×Obj)}{s:Shared}{σ:St}{H:Hp}{x:Str}{u:Value}{pos:Pos}{Q:Value->Shared->Prop}(I:Inv X pins σ H s) (hg:Gl X x) (hm:X.mg x=none) (hv:bootBuiltins x=some u) (h:Q u s)
  (hn:x ≠ "__name__":=by decide) (hd:(x==("__debug__":Str))=false:=by decide):wpAny (model X.prog X.w) X.A (eval (.Name x pos) X.env) Q E s:=by
 obtain ⟨mb,h1,h2⟩:=I.mod.blt
 exact Calls.Name_function_global I.ok.kind hg (Calls.loadGlobal_builtin (by rw [I.ok.glob];exact I.mod.glob.keeps I.bk) hm (by rw [I.ok.blt];exact h1.keeps I.bk) ((h2 x hn).trans hv) h) hd
theorem qJ {x:Str}{v:V}{u:Value}{pos:Pos}(hg:Gl X x) (hm:X.mg x=some u) (r:ao v u) (hd:(x==("__debug__":Str))=false:=by decide):PE X (.Name x pos) (tC v) :=
 λ_ _ _ H _ I h=>cV I hg hm ⟨v,H,I,r,h⟩ hd
theorem zt {x:Str}{v:V}{u:Value}{pos:Pos}(hg:Gl X x) (hm:X.mg x=none) (hv:bootBuiltins x=some u) (r:ao v u) (hn:x ≠ "__name__":=by decide) (hd:(x==("__debug__":Str))=false:=by decide):PE X (.Name x pos) (tC v) :=
 λ_ _ _ H _ I h=>jN I hg hm hv ⟨v,H,I,r,h⟩ hn hd
variable {a b:Expr}{ta tb:TE}{pos:Pos}
def tB (t:TE):TT:=λσ H Q=>t σ H λx H1=>∃ c,x=.bl c/\Q c H1
theorem BI {e:Expr}{t:TE}(h:PE X e t) (he:∀ whole,isTrue e X.env whole=(do let v <- whole;standAt e.pos;holding [v] (truthy v)):=by intro _;rfl):PT X e (tB t):=by
 intro pins s σ H Q I hw
 refine isTrue_plain (thn (h pins s σ H _ I hw) λv s1 ⟨x,H1,I1,r1,q1⟩=>?_) (he _)
 obtain ⟨d,rfl,q⟩:=q1
 cases r1
 exact wpAny_truthy_bool ⟨H1,I1,q⟩
variable {tA tB':TT}{rest:List Expr}
def Gg (t u:TT):TT:=λσ H Q=>t σ H λc H1=>if c=true then u σ H1 Q else Q false H1
def tOr (t u:TT):TT:=λσ H Q=>t σ H λc H1=>if c=true then Q true H1 else u σ H1 Q
def Gh (t:TT):TT:=λσ H Q=>t σ H λc H1=>Q (!c) H1
theorem zv (ha:PT X a tA):PW X (.BoolOp .And [a] pos) tA:=by
 intro wh pins s σ H Q I h
 refine isTrue_and (thn (ha pins s σ H Q I h) λc s1 e=>?_)
 cases c with
 |true=>exact isTrue_and_nil e
 |false=>exact e
theorem BJ (ha:PT X a tA):PW X (.BoolOp .Or [a] pos) tA:=by
 intro wh pins s σ H Q I h
 refine isTrue_or (thn (ha pins s σ H Q I h) λc s1 e=>?_)
 cases c with
 |false=>exact isTrue_or_nil e
 |true=>exact e
theorem BK (ha:PT X a tA) (hb:PW X (.BoolOp .And (b::rest) pos) tB'):PW X (.BoolOp .And (a::b::rest) pos) (Gg tA tB'):=by
 intro wh pins s σ H Q I h
 refine isTrue_and (thn (ha pins s σ H _ I h) λc s1 zz2=>?_)
 obtain ⟨H1,I1,q1⟩:=zz2
 cases c with
 |true=>exact hb wh pins s1 σ H1 Q I1 q1
 |false=>exact ⟨H1,I1,q1⟩
theorem Eh (ha:PT X a tA) (hb:PW X (.BoolOp .Or (b::rest) pos) tB'):PW X (.BoolOp .Or (a::b::rest) pos) (tOr tA tB'):=by
 intro wh pins s σ H Q I h
 refine isTrue_or (thn (ha pins s σ H _ I h) λc s1 zz3=>?_)
 obtain ⟨H1,I1,q1⟩:=zz3
 cases c with
 |true=>exact ⟨H1,I1,q1⟩
 |false=>exact hb wh pins s1 σ H1 Q I1 q1
theorem BL (ha:PT X a tA):PT X (.UnaryOp .Not a pos) (Gh tA):=by
 intro pins s σ H Q I h
 exact isTrue_not (ha pins s σ H (λc H1=>Q (!c) H1) I h)
def Ei (ta tb:TE):TE:=λσ H Q=>ta σ H λx H1=>∃ c,x=.bl c/\if c=true then tb σ H1 Q else Q (.bl false) H1
def Ej (ta:TE):TE:=λσ H Q=>ta σ H λx H1=>∃ c,x=.bl c/\Q (.bl (!c)) H1
theorem BM {op}{t:TE}(h:PE X a t):PE X (.BoolOp op [a] pos) t:=λpins s σ H Q I hw=>BoolOp_one (h pins s σ H Q I hw)
theorem BN (ha:PE X a ta) (hb:PE X (.BoolOp .And (b::rest) pos) tb):PE X (.BoolOp .And (a::b::rest) pos) (Ei ta tb):=by
 intro pins s σ H Q I h
 refine BoolOp_and (thn (ha pins s σ H _ I h) λv s1 zz4=>?_)
 obtain ⟨x,H1,I1,r1,q1⟩:=zz4
 obtain ⟨c,rfl,q1⟩:=q1
 cases r1
 refine wpAny_truthy_bool ?_
 cases c with
 |true=>exact hb pins s1 σ H1 Q I1 q1
 |false=>exact ⟨.bl false,H1,I1,rfl,q1⟩
theorem BO (ha:PE X a ta):PE X (.UnaryOp .Not a pos) (Ej ta):=by
 intro pins s σ H Q I h
 refine UnaryOp_ (thn (ha pins s σ H _ I h) λv s1 zz5=>?_)
 obtain ⟨x,H1,I1,r1,q1⟩:=zz5
 obtain ⟨c,rfl,q1⟩:=q1
 cases r1
 exact not_of (wpAny_truthy_bool ⟨.bl (!c),H1,I1,rfl,q1⟩)
def tIf (t:TT) (ta tb:TE):TE:=λσ H Q=>t σ H λc H1=>if c=true then ta σ H1 Q else tb σ H1 Q
theorem xU {c:Expr}(hc:PT X c tA) (ha:PE X a ta) (hb:PE X b tb):PE X (.IfExp c a b pos) (tIf tA ta tb):=by
 intro pins s σ H Q I h
 refine wpAny_IfExp (thn (hc pins s σ H _ I h) λd s1 zz6=>?_)
 obtain ⟨H1,I1,q1⟩:=zz6
 cases d with
 |true=>exact ha pins s1 σ H1 Q I1 q1
 |false=>exact hb pins s1 σ H1 Q I1 q1
end
def SqL (K:PySem.W.Frag) (H:Hp) (a:Addr) (xs:List V):Prop :=
 Rd H a (.lst xs) \/
  ∃ (o:Obj) (its:Array Value) (n:Nat),K.lookup a=some o/\o.cls=.type "list" /\ o.dict=none/\o.data=.seq its n/\its.size<=sizeLine/\aj xs its.toList
def SqT (K:PySem.W.Frag) (H:Hp) (a:Addr) (xs:List V):Prop :=
 Rd H a (.tup xs) \/
  ∃ (o:Obj) (its:Array Value) (n:Nat),K.lookup a=some o/\o.cls=.type "tuple" /\ o.data=.seq its n/\its.size<=sizeLine/\aj xs its.toList
def Gi:Value->Option V
 |.none=>some .non
 |.bool b=>some (.bl b)
 |.int i _=>some (.int i)
 |.str x _=>some (.str x)
 |.bytes b _=>some (.byt b)
 |.float b _=>some (.flt b)
 |.ref a=>some (.ref a)
 |.type n=>some (.ty n)
 |_=>none
theorem ao.abs {x:V}{u:Value}(r:ao x u):Gi u=some x:=by
 cases x with
 |non=>cases r;rfl
 |bl _=>cases r;rfl
 |int _=>obtain ⟨t,rfl⟩:=r;rfl
 |str _=>obtain ⟨t,rfl⟩:=r;rfl
 |byt _=>obtain ⟨t,rfl⟩:=r;rfl
 |flt _=>obtain ⟨t,rfl⟩:=r;rfl
 |ref _=>cases r;rfl
 |ty _=>cases r;rfl
theorem ao.inj {x y:V}{u:Value}(r:ao x u) (q:ao y u):x=y:=Option.some.inj (r.abs.symm.trans q.abs)
theorem aj.inj:∀ {xs ys:List V}{us:List Value},aj xs us->aj ys us->xs=ys
 |_,_,_,.nil,.nil=>rfl
 |_,_,_,.cons r t,.cons r' t'=>by rw [r.inj r',aj.inj t t']
section
variable {X:Cx}{pins:List (Addr×Obj)}{σ:St}{H:Hp}{s:Shared}{a:Addr}{xs ys:List V}
theorem SqL.of {K:PySem.W.Frag}(h:H a=some (.lst xs)):SqL K H a xs:=.inl (.inl h)
theorem SqT.of {K:PySem.W.Frag}(h:H a=some (.tup xs)):SqT K H a xs:=.inl (.inl h)
theorem Inv.list (I:Inv X pins σ H s) (h:SqL X.K H a xs):∃ its:List Value,aj xs its/\PlainL s.heap a its.toArray/\xs.length<=sizeLine:=by
 rcases h with h|⟨o,its,n,hk,hc,hd,hs,hz,r⟩
 ·obtain ⟨z,its,n,r,e⟩:=h.ok I.hok
  exact ⟨its,r,⟨_,n,e,rfl,rfl,rfl⟩,z⟩
 ·refine ⟨its.toList,r,⟨o,n,I.kIn a o hk,hc,hd,by simpa using hs⟩,?_⟩
  have e:=r.length
  simp only [Array.length_toList] at e
  omega
theorem Inv.tuple (I:Inv X pins σ H s) (h:SqT X.K H a xs):∃ its:List Value,aj xs its/\IsTup s.heap a its.toArray/\xs.length<=sizeLine:=by
 rcases h with h|⟨o,its,n,hk,hc,hs,hz,r⟩
 ·obtain ⟨z,its,r,p⟩:=h.ok I.hok
  exact ⟨its,r,p,z⟩
 ·refine ⟨its.toList,r,⟨o,I.kIn a o hk,hc,n,by simpa using hs⟩,?_⟩
  have e:=r.length
  simp only [Array.length_toList] at e
  omega
theorem Inv.list_inj (I:Inv X pins σ H s) (h:SqL X.K H a xs) (h':SqL X.K H a ys):xs=ys:=by
 obtain ⟨its,r,⟨o,n,e,_,_,d⟩,_⟩:=I.list h
 obtain ⟨its',r',⟨o',n',e',_,_,d'⟩,_⟩:=I.list h'
 rw [e] at e';cases e'
 rw [d] at d'
 injection d' with d1 _
 have:its=its':=by simpa using congrArg Array.toList d1
 subst this
 exact r.inj r'
end
abbrev Cx.wish (X:Cx) (E:Value->Shared->Prop):Cx:={ X with xe:=E }
abbrev Cx.nox (X:Cx):Cx:=X.wish λ_ _=>False
theorem Cx.Ok.wish {X:Cx}(ok:X.Ok) (E:Value->Shared->Prop):(X.wish E).Ok :=
 ⟨ok.mod,ok.kind,ok.glob,ok.blt,ok.above,ok.inj,ok.has,ok.cab,ok.hd,ok.frames,ok.stk,ok.exf,ok.bs,ok.bsz,ok.noex,ok.exfs,ok.funs,ok.frf⟩
theorem Cx.Ok.unwish {X:Cx}{E:Value->Shared->Prop}(ok:(X.wish E).Ok):X.Ok :=
 ⟨ok.mod,ok.kind,ok.glob,ok.blt,ok.above,ok.inj,ok.has,ok.cab,ok.hd,ok.frames,ok.stk,ok.exf,ok.bs,ok.bsz,ok.noex,ok.exfs,ok.funs,ok.frf⟩
section
variable {X:Cx}{pins:List (Addr×Obj)}{σ:St}{H:Hp}{s:Shared}{E:Value->Shared->Prop}
theorem Inv.wish (I:Inv X pins σ H s) (E:Value->Shared->Prop):Inv (X.wish E) pins σ H s:=⟨I.ok.wish E,I.os,I.bare,I.base,I.loc,I.cell,I.free,I.freeC,I.pin,I.hok,I.len⟩
theorem Inv.unwish (I:Inv (X.wish E) pins σ H s):Inv X pins σ H s:=⟨I.ok.unwish,I.os,I.bare,I.base,I.loc,I.cell,I.free,I.freeC,I.pin,I.hok,I.len⟩
theorem SP.unwish {D:Ends}{f:Flow}{s':Shared}(h:SP (X.wish E) pins D f s'):SP X pins D f s':=by
 cases f with
 |next=>obtain ⟨σ',H',I,q⟩:=h;exact ⟨σ',H',I.unwish,q⟩
 |brk=>obtain ⟨σ',H',I,q⟩:=h;exact ⟨σ',H',I.unwish,q⟩
 |cont=>obtain ⟨σ',H',I,q⟩:=h;exact ⟨σ',H',I.unwish,q⟩
 |ret u=>obtain ⟨v,σ',H',I,r,q⟩:=h;exact ⟨v,σ',H',I.unwish,r,q⟩
theorem PSs.nox {st:List Stmt}{t:TS}(h:PSs X.nox st t):PSs X st t:=λpins s σ H D I hw =>
 wpAny_mono (h pins s σ H D (I.wish _) hw) (λ_ _ q=>q.unwish) λ_ _ z=>False.elim z
end
section
variable {X:Cx}{st:Stmt}{rest:List Stmt}{t u:TS}{e:Expr}{te:TE}{pos:Pos}
def Ek:TS:=λD σ H=>D.nx σ H
def Gj (t u:TS):TS:=λD σ H=>t { D with nx:=u D } σ H
theorem zw:PSs X [] Ek:=λ_ _ σ H _ I h=>wpAny_execs_nil ⟨σ,H,I,h⟩
theorem xV (h1:PS X st t) (h2:PSs X rest u):PSs X (st::rest) (Gj t u):=by
 intro pins s σ H D I h
 refine wpAny_execs_cons (thn (h1 pins s σ H { D with nx:=u D } I h) λf s1 q=>?_)
 cases f with
 |next =>
  obtain ⟨σ',H',I',q⟩:=q
  exact h2 pins s1 σ' H' D I' q
 |ret v=>exact q
 |brk=>exact q
 |cont=>exact q
theorem zx (h1:PS X st t):PSs X [st] t:=by
 intro pins s σ H D I h
 refine wpAny_execs_cons (thn (h1 pins s σ H D I h) λf s1 q=>?_)
 cases f with
 |next=>exact wpAny_execs_nil q
 |ret v=>exact q
 |brk=>exact q
 |cont=>exact q
theorem Inv.quiet {pins:List (Addr×Obj)}{σ:St}{H:Hp}{s:Shared}(I:Inv X pins σ H s):interactive X.env=false:=by simp [interactive,I.ok.kind]
def El (te:TE):TS:=λD σ H=>te σ H λ_ H1=>D.nx σ H1
theorem zy (he:PE X e te) (hs:swapsWith e none pos.line X.env=pure false:=by rfl):PS X (.Expr e pos) (El te):=by
 intro pins s σ H D I h
 exact wpAny_Expr_any (thn (he pins s σ H _ I h) λv s1 zz9=>by obtain ⟨x,H1,I1,r1,q1⟩:=zz9;exact ⟨σ,H1,I1,q1⟩) I.quiet hs
def Gk (te:TE):TS:=λD σ H=>te σ H D.rt
theorem BP (he:PE X e te):PS X (.Return (some e) pos) (Gk te):=by
 intro pins s σ H D I h
 exact wpAny_Return_some (thn (he pins s σ H _ I h) λv s1 zz10=>by obtain ⟨x,H1,I1,r1,q1⟩:=zz10;exact ⟨x,σ,H1,I1,r1,q1⟩)
def Gm (c:TT) (t u:TS):TS:=λD σ H=>c σ H λb H1=>if b=true then t D σ H1 else u D σ H1
theorem Em {c:Expr}{a b:List Stmt}{tc:TT}(hc:PT X c tc) (ha:PSs X a t) (hb:PSs X b u):PS X (.If c a b pos) (Gm tc t u):=by
 intro pins s σ H D I h
 refine wpAny_If (thn (hc pins s σ H _ I h) λd s1 zz11=>?_)
 obtain ⟨H1,I1,q1⟩:=zz11
 cases d with
 |true=>exact ha pins s1 σ H1 D I1 q1
 |false=>exact hb pins s1 σ H1 D I1 q1
end
abbrev TG:=V->St->Hp->(St->Hp->Prop)->Prop
abbrev TGs:=List V->St->Hp->(St->Hp->Prop)->Prop
def PG (X:Cx) (target:Expr) (t:TG):Prop :=
 ∀ (pins:List (Addr×Obj)) (s:Shared) (σ:St) (H:Hp) (v:V) (u:Value) (Q:St->Hp->Prop),Inv X pins σ H s->ao v u->t v σ H Q ->
  wpAny (model X.prog X.w) X.A (assign target X.env u) (λ_ s'=>∃ σ' H',Inv X pins σ' H' s'/\Q σ' H') X.xe s
def PGs (X:Cx) (ts:List Expr) (t:TGs):Prop :=
 ∀ (pins:List (Addr×Obj)) (s:Shared) (σ:St) (H:Hp) (vs:List V) (us:List Value) (Q:St->Hp->Prop),Inv X pins σ H s->aj vs us->t vs σ H Q ->
  wpAny (model X.prog X.w) X.A (assignInOrder ((assignEach ts X.env).map (·.2)) us) (λ_ s'=>∃ σ' H',Inv X pins σ' H' s'/\Q σ' H') X.xe s
abbrev kg:=V->V->V->Hp->(Hp->Prop)->Prop
def e9 (X:Cx) (t:kg):Prop :=
 ∀ (pins:List (Addr×Obj)) (s:Shared) (σ:St) (H:Hp) (o i v:V) (ov iv u:Value) (Q:Hp->Prop),Inv X pins σ H s->ao o ov->ao i iv->ao v u->t o i v H Q ->
  wpAny (model X.prog X.w) X.A (setItem ov iv u) (λ_ s'=>∃ H',Inv X pins σ H' s'/\Q H') X.xe s
section
variable {X:Cx}{pos:Pos}
def j4 (i:Nat):TG:=λv σ H Q=>Q (σ.set i (some v)) H
theorem zA {i:Nat}{x:Str}(hN:X.N.Nodup) (hi:X.N[i]?=some x) (hx:Loc X.env.scope x) (hf:X.fn x=true\/X.env.scope.names.lookup x=some .local:=by first|exact .inl rfl|exact .inr rfl|assumption):PG X (.Name x pos) (j4 i):=by
 intro pins s σ H v u Q I r h
 exact wpAny_assign_Name (h9 I hN hi hx r (λs' I'=>⟨_,H,I',h⟩) hf)
def Gn:TGs:=λvs σ H Q=>vs=[]/\Q σ H
def uh (t:TG) (u:TGs):TGs:=λvs σ H Q=>∃ v r,vs=v::r/\t v σ H λσ' H'=>u r σ' H' Q
theorem zB:PGs X [] Gn:=by
 intro pins s σ H vs us Q I r h
 obtain ⟨e,h⟩:=h
 subst e
 cases r
 exact assignInOrder_nil ⟨σ,H,I,h⟩
theorem bG {e:Expr}{es:List Expr}{t:TG}{u:TGs}(h1:PG X e t) (h2:PGs X es u)
  (hs:(assignEach (e::es) X.env).map (·.2)=assign e X.env::(assignEach es X.env).map (·.2):=by rfl):PGs X (e::es) (uh t u):=by
 intro pins s σ H vs us Q I r h
 obtain ⟨v,vr,e1,h⟩:=h
 subst e1
 cases r with
 |cons r rr =>
  rw [hs]
  refine assignInOrder_cons (thn (h1 pins s σ H _ _ _ I r h) λ_ s1 zz12=>?_)
  obtain ⟨σ1,H1,I1,q1⟩:=zz12
  exact h2 pins s1 σ1 H1 _ _ Q I1 rr q1
def nQ (K:PySem.W.Frag) (n:Nat) (t:TGs):TG:=λv σ H Q=>∃ a xs,v=.ref a/\SqT K H a xs/\xs.length=n/\t xs σ H Q
theorem BQ {es:List Expr}{k:Nat}{t:TGs}{n:Nat}(hc:X.calm=true) (h:PGs X es t)
  (hn:(assignEach es X.env).length=n:=by rfl) (hst:(assignEach es X.env).findIdx? (·.1)=none:=by rfl):PG X (.Tuple es k pos) (nQ X.K n t):=by
 intro pins s σ H v u Q I r hw
 obtain ⟨a,xs,e1,hq,hl,hw⟩:=hw
 subst e1
 cases r
 obtain ⟨its,rv,ht,hz⟩:=I.tuple hq
 refine assign_Tuple_tuple (I.ok.hd hc) ht (by simp [hn,<- hl,rv.length]) hst λh' hx=>?_
 have I1:Inv X pins σ H { s with heap:=h' }:=I.kept (t':=s.toks) λb o e=>hx b o (Nat.ne_of_lt (Heap.lt_size e)) e
 exact h pins _ σ H xs _ Q I1 (by simpa using rv) hw
def gS (to ti:TE) (t:kg):TG:=λv σ H Q=>to σ H λo H1=>ti σ H1 λi H2=>t o i v H2 λH3=>Q σ H3
theorem cj {o i:Expr}{to ti:TE}{t:kg}(ho:PE X o to) (hi:PE X i ti) (hs:e9 X t)
  (ha:∀ v,assign (.Subscript o i pos) X.env v=(do
   let ov <- holding [v] (eval o X.env)
   let iv <- holding [v,ov] (eval i X.env)
   standAt pos
   holding [v,ov,iv] (setItem ov iv v)
   release [v,ov,iv] []):=by intro _;rfl):PG X (.Subscript o i pos) (gS to ti t):=by
 intro pins s σ H v u Q I r h
 rw [ha]
 refine wpAny_bind (wpAny_holding (thn (ho pins s σ H _ I h) λov s1 zz13=>?_))
 obtain ⟨x,H1,I1,r1,q1⟩:=zz13
 refine wpAny_bind (wpAny_holding (thn (hi pins s1 σ H1 _ I1 q1) λiv s2 zz14=>?_))
 obtain ⟨y,H2,I2,r2,q2⟩:=zz14
 refine wpAny_bind (wpAny_standAt (wpAny_bind (wpAny_holding (thn (hs pins s2 σ H2 x y v ov iv u _ I2 r1 r2 r q2) λ_ s3 zz15=>?_))))
 obtain ⟨H3,I3,q3⟩:=zz15
 exact wpAny_release ⟨σ,H3,I3,q3⟩
def iM (te:TE) (g:TG):TS:=λD σ H=>te σ H λx H1=>g x σ H1 D.nx
theorem bP {tg e:Expr}{te:TE}{g:TG}(he:PE X e te) (hg:PG X tg g) (hs:swapsWithSole [tg] e pos.line X.env=pure false:=by rfl) (hw:swappedStores [tg] e X.env=pure none:=by rfl)
  (h1:(assignEach [tg] X.env).map (·.2)=[assign tg X.env]:=by rfl):PS X (.Assign [tg] e pos) (iM te g):=by
 intro pins s σ H D I h
 refine wpAny_Assign_stores (thn (he pins s σ H _ I h) λv s1 ⟨x,H1,I1,r1,q1⟩=>?_) hs hw
 rw [h1]
 exact thn (hg pins s1 σ H1 x v _ I1 r1 q1) λ_ s2 q=>q
theorem BR {i:Nat}{x:Str}{e:Expr}{te:TE}{pos':Pos}(hN:X.N.Nodup) (hi:X.N[i]?=some x) (hx:Loc X.env.scope x) (he:PE X e te) (hs:swapsWith e (some (.Name x pos')) pos.line X.env=pure false:=by rfl) (hf:X.fn x=true\/X.env.scope.names.lookup x=some .local:=by first|exact .inl rfl|exact .inr rfl|assumption) :
  PS X (.Assign [.Name x pos'] e pos) (iM te (j4 i)):=by
 intro pins s σ H D I h
 refine wpAny_Assign_Name (thn (he pins s σ H _ I h) λv s1 ⟨y,H1,I1,r1,q1⟩=>?_) hs
 exact h9 I1 hN hi hx r1 (λs2 I2=>⟨_,H1,I2,q1⟩) hf
end
section
variable {X:Cx}{pos:Pos}
def sJ (c:TT) (tb:TS):TS:=λD σ H=>∃ W:Nat->St->Hp->Prop,(∃ m,W m σ H)/\∀ m σ H,W m σ H ->
 c σ H λb H1=>if b=true then ∃ N:St->Hp->Prop,(∀ σ' H',N σ' H'->∃ m',m'<m/\W m' σ' H')/\tb { D with nx:=N,ct:=N,bk:=D.nx } σ H1 else D.nx σ H1
theorem xW {c:Expr}{body:List Stmt}{tc:TT}{tb:TS}(hp:PassesOwn (model X.prog X.w) X.A X.env X.xe) (hc:PT X c tc) (hb:PSs X body tb):PS X (.While c body [] pos) (sJ tc tb):=by
 intro pins s σ H D I h
 obtain ⟨W,⟨m0,w0⟩,turn⟩:=h
 refine wpAny_While (codeAny_whileLoop (λn s'=>∃ σ' H',Inv X pins σ' H' s'/\W n σ' H') ?_ m0 ⟨σ,H,I,w0⟩)
 rintro n s1 ⟨σ1,H1,I1,w1⟩
 refine wpAny_passesOwn hp (thn (hc pins s1 σ1 H1 _ I1 (turn n σ1 H1 w1)) λb s2 zz16=>?_)
 obtain ⟨H2,I2,q2⟩:=zz16
 cases b with
 |true =>
  obtain ⟨N,hN,q2⟩:=q2
  rw [if_pos rfl]
  refine wpAny_passesOwn hp (thn (hb pins s2 σ1 H2 _ I2 q2) λf s3 q3=>?_)
  cases f with
  |next =>
   obtain ⟨σ3,H3,I3,n3⟩:=q3
   obtain ⟨m',hm,w3⟩:=hN σ3 H3 n3
   exact ⟨m',hm,σ3,H3,I3,w3⟩
  |cont =>
   obtain ⟨σ3,H3,I3,n3⟩:=q3
   obtain ⟨m',hm,w3⟩:=hN σ3 H3 n3
   exact ⟨m',hm,σ3,H3,I3,w3⟩
  |brk=>exact q3
  |ret v=>exact q3
 |false =>
  rw [if_neg Bool.false_ne_true]
  exact wpAny_execs_nil ⟨σ1,H2,I2,q2⟩
end
structure It where
 go:Nat->Hp->Prop
 yld:Nat->Hp->V->Hp->Prop
 stop:Nat->Hp->Prop
def bN (X:Cx) (pins:List (Addr×Obj)) (H:Hp) (b:Addr):Prop :=
 H b=none/\b≠X.env.locals/\b∉X.fs/\(b∈X.ex\/X.s₀.heap.objs.size<=b)/\(∀ x c,X.env.cells.lookup x=some c->c≠b)/\∀ p∈X.pn++pins,p.1≠b
theorem Inv.fpOk {X:Cx}{pins:List (Addr×Obj)}{σ:St}{H H':Hp}{s:Shared}{b:Addr}(I:Inv X pins σ H s) (hb:s.heap.objs.size<=b) (hn:H' b=none):bN X pins H' b:=by
 refine ⟨hn,Nat.ne_of_gt (Nat.lt_of_lt_of_le I.lt hb),I.nofs hb,.inr (Nat.le_trans I.sz hb),λx c e z=>?_,λp hp z=>?_⟩
 ·obtain ⟨v,q⟩:=I.cell x c e
  exact absurd (Nat.lt_of_lt_of_le q.lt (by rw [z];exact hb)) (Nat.lt_irrefl _)
 ·exact absurd (Nat.lt_of_lt_of_le (Heap.lt_size (I.pin p hp).1) (by rw [z];exact hb)) (Nat.lt_irrefl _)
structure Turn (P:Program) (w:World) (K:PySem.W.Frag) (tg:Expr) (J:It) (fp:List Addr) (it:Addr) (tn:Nat->Heap->Prop):Prop where
 mem:it∈fp
 obj:∀ i h,tn i h->∀ b∈fp,∃ o,h.get? b=some o/\∀ v,o.data≠.cell v
 keep:∀ i h h',tn i h->(∀ b∈fp,∀ o,h.get? b=some o->h'.get? b=some o)->tn i h'
 item:∀ (X:Cx),X.prog=P->X.w=w->X.K=K->X.calm=true->∀ (i:Nat) (pins:List (Addr×Obj)) (s:Shared) (σ:St) (H:Hp) (E:Value->Shared->Prop),Inv X pins σ H s->(∀ b∈fp,bN X pins H b)->tn i s.heap->J.go i H ->
  wpAny (model P w) X.A (pyNext (.ref it)) (λr s1=>∃ u,r=some u /\
   wpAny (model P w) X.A (letOwnedTupleGo tg (.ref it) u) (λ_ s2=>∃ x H',Inv X pins σ H' s2/\ao x u/\J.yld i H x H'/\tn (i+1) s2.heap/\∀ b∈fp,H' b=none) E s1) E s
 done:∀ (X:Cx),X.prog=P->X.w=w->X.K=K->X.calm=true->∀ (i:Nat) (pins:List (Addr×Obj)) (s:Shared) (σ:St) (H:Hp) (E:Value->Shared->Prop),Inv X pins σ H s->(∀ b∈fp,bN X pins H b)->tn i s.heap->J.stop i H ->
  wpAny (model P w) X.A (pyNext (.ref it)) (λr s1=>r=none/\Inv X pins σ H s1) E s
 self:∀ (A:Around) (i:Nat) (s:Shared) (Q:Value->Shared->Prop) (E:Value->Shared->Prop),tn i s.heap->Q (.ref it) s->wpAny (model P w) A (pyIter (.ref it)) Q E s
abbrev TI:=St->Hp->(It->Hp->Prop)->Prop
def PIE (X:Cx) (pins:List (Addr×Obj)) (σ:St) (tg:Expr) (R:It->Hp->Prop) (itv:Value) (s2:Shared):Prop :=
 ∃ (it:Addr) (fp:List Addr) (tn:Nat->Heap->Prop) (J:It) (H':Hp),itv=.ref it/\Inv X pins σ H' s2/\Turn X.prog X.w X.K tg J fp it tn/\tn 0 s2.heap/\(∀ b∈fp,bN X pins H' b)/\R J H'
def PI (X:Cx) (tg iter:Expr) (wi:TI):Prop :=
 ∀ (pins:List (Addr×Obj)) (s:Shared) (σ:St) (H:Hp) (R:It->Hp->Prop),Inv X pins σ H s->wi σ H R ->
  wpAny (model X.prog X.w) X.A (eval iter X.env) (λv s1=>wpAny (model X.prog X.w) X.A (pyIter v) (PIE X pins σ tg R) X.xe s1) X.xe s
theorem nj {M:Model}{A:Around}{E:Value->Shared->Prop}{s:Shared}{tg:Expr}{it:Addr}{u:Value}{o:Obj}{n:String}{vs:Array Value}{Q:Unit->Shared->Prop}(ho:s.heap.get? it=some o) (hc:o.cls=.type n) (hd:o.data=.fields vs)
  (hn:["enumerate","zip","dict_itemiterator","dict_reverseitemiterator","odict_iterator","itertools.zip_longest","itertools.pairwise"].contains n=false) (hQ:Q () s):wpAny M A (letOwnedTupleGo tg (.ref it) u) Q E s:=by
 unfold letOwnedTupleGo
 cases tg<;>first
  |exact wpAny_pure hQ
  |(cases u<;>first
    |exact wpAny_pure hQ
    |(refine wpAny_bind (wpAny_load ho ?_)
      rw [hc,hd]
      show wpAny M A (if (["enumerate","zip","dict_itemiterator","dict_reverseitemiterator","odict_iterator","itertools.zip_longest","itertools.pairwise"].contains n&&vs[0]?==some (rawInt _))=true then _ else _) Q E s
      rw [if_neg (by intro h;rw [hn,Bool.false_and] at h;cases h)]
      exact wpAny_pure hQ))
def Itl (K:PySem.W.Frag) (a:Addr):It :=
 ⟨λi H=>∃ xs x,SqL K H a xs/\xs[i]?=some x,λi H x H'=>H'=H/\∀ xs,SqL K H a xs->xs[i]?=some x,λi H=>∃ xs,SqL K H a xs/\xs.length<=i⟩
def Itr (lo:Int) (n:Nat):It:=⟨λi _=>i<n,λi H x H'=>H'=H/\x=.int (lo+i),λi _=>n<=i⟩
theorem wW {P:Program}{w:World}{K:PySem.W.Frag}{tg:Expr}(a it:Addr):Turn P w K tg (Itl K a) [it] it (λi h=>h.IsListIter it a i) where
 mem:=by simp
 obj:=λi h st b hb=>by
  have e:b=it:=by simpa using hb
  subst e
  obtain ⟨o,e,c,d⟩:=st
  exact ⟨o,e,λv z=>by rw [d] at z;cases z⟩
 keep:=λi h h' st k=>st.at λo e=>k it (by simp) o e
 item:=by
  intro X hP hw hK hc i pins s σ H E I hf st hg
  subst hP hw hK
  obtain ⟨xs,x,hq,hx⟩:=hg
  obtain ⟨its,rv,p,hz⟩:=I.list hq
  obtain ⟨u,hu,ru⟩:=rv.get hx
  obtain ⟨f0,f1,f2,f3,f4,f5⟩:=hf it (by simp)
  refine wpAny_pyNext_list_item st p.isList (x:=u) (by simpa using hu) λh' st' sb=>?_
  have I1:Inv X pins σ H { s with heap:=h' }:=I.turned (t':=s.toks) (λb o hb e=>(sb.2 b hb).trans e) f0 f1 f3 f4 f5
  obtain ⟨o,e,c,d⟩:=id st'
  exact ⟨u,rfl,nj (s:={ s with heap:=h' }) e c d (by decide) ⟨x,H,I1,ru,⟨rfl,λys hy=>by rw [I.list_inj hy hq];exact hx⟩,st',λb hb=>(hf b hb).1⟩⟩
 done:=by
  intro X hP hw hK hc i pins s σ H E I hf st hg
  subst hP hw hK
  obtain ⟨xs,hq,hx⟩:=hg
  obtain ⟨its,rv,p,hz⟩:=I.list hq
  obtain ⟨f0,f1,f2,f3,f4,f5⟩:=hf it (by simp)
  have hl:=rv.length
  exact wpAny_pyNext_list_end (I.ok.hd hc) st p.isList (by simp;omega) λh' eb=>⟨rfl,I.turned (t':=s.toks) (λb o hb e=>eb b o hb e) f0 f1 f3 f4 f5⟩
 self:=λ_ _ _ _ _ st h=>wpAny_pyIter_listiter st h
theorem wy {P:Program}{w:World}{K:PySem.W.Frag}{tg:Expr}(it:Addr) (lo:Int) (n:Nat):Turn P w K tg (Itr lo n) [it] it (λi h=>IsRangeIter h it (lo+(i:Nat) * 1) ((n:Int) - (i:Nat)) 1) where
 mem:=by simp
 obj:=λi h st b hb=>by
  have e:b=it:=by simpa using hb
  subst e
  exact ⟨_,st,λv z=>by
   have z':Data.fields _=Data.cell v:=z
   cases z'⟩
 keep:=λi h h' st k=>k it (by simp) _ st
 item:=by
  intro X hP hw hK hc i pins s σ H E I hf st hg
  subst hP hw hK
  obtain ⟨f0,f1,f2,f3,f4,f5⟩:=hf it (by simp)
  have W:=Walks.range (prog:=X.prog) (w:=X.w) (I.ok.hd hc) it lo 1 n
  refine W.item i s _ _ hg st λv h' tk hv st' kk=>?_
  obtain ⟨t,rfl⟩:=hv
  have I1:Inv X pins σ H { s with heap:=h',toks:=tk }:=I.turned (λb o hb e=>kk b o (by simpa using hb) e) f0 f1 f3 f4 f5
  refine ⟨_,rfl,nj (s:={ s with heap:=h',toks:=tk }) (n:="range_iterator") st' rfl rfl (by decide) ⟨.int (lo+i),H,I1,⟨t,?_⟩,⟨rfl,rfl⟩,st',λb hb=>(hf b hb).1⟩⟩
  rw [Int.mul_one]
 done:=by
  intro X hP hw hK hc i pins s σ H E I hf st hg
  subst hP hw hK
  obtain ⟨f0,f1,f2,f3,f4,f5⟩:=hf it (by simp)
  exact wpAny_pyNext_range_end (I.ok.hd hc) st (by have:n<=i:=hg;omega) λh' eb=>⟨rfl,I.turned (t':=s.toks) (λb o hb e=>eb b o hb e) f0 f1 f3 f4 f5⟩
 self:=λ_ _ _ _ _ st h=>wpAny_pyIter_rangeiter st h
section
variable {X:Cx}{tg:Expr}
def En (K:PySem.W.Frag) (tl:TE):TI:=λσ H R=>tl σ H λx H1=>∃ a,x=.ref a/\(∃ xs,SqL K H1 a xs)/\R (Itl K a) H1
theorem zC {l:Expr}{tl:TE}(hl:PE X l tl):PI X tg l (En X.K tl):=by
 intro pins s σ H R I h
 refine thn (hl pins s σ H _ I h) λv s1 zz17=>?_
 obtain ⟨x,H1,I1,r1,q1⟩:=zz17
 obtain ⟨a,e,⟨xs,hq⟩,q⟩:=q1
 subst e
 cases r1
 obtain ⟨its,rv,p,hz⟩:=I1.list hq
 refine wpAny_pyIter_list p.isList ?_
 refine ⟨s1.heap.objs.size,[s1.heap.objs.size],_,_,H1,rfl,I1.kept (t':=s1.toks) λb o e=>Heap.get?_push_of_some _ e,wW a _,⟨_,Heap.get?_push_size _ rfl,rfl,rfl⟩,λb hb=>?_,q⟩
 have e:b=s1.heap.objs.size:=by simpa using hb
 subst e
 exact I1.fpOk (Nat.le_refl _) (I1.hok.fresh (Nat.le_refl _))
theorem xX {pins:List (Addr×Obj)}{σ:St}{H:Hp}{s:Shared}{R:It->Hp->Prop}{E:Value->Shared->Prop}{lo hi:Int}{t u v:Tok}{tk:Nat}(I:Inv X pins σ H s) (h1:-(2 ^ 62)<=lo) (h2:lo<2 ^ 62) (h3:-(2 ^ 62)<=hi) (h4:hi<2 ^ 62)
  (q:R (Itr lo (hi - lo).toNat) H):wpAny (model X.prog X.w) X.A (pyIter (.ref s.heap.objs.size)) (PIE X pins σ tg R) E { s with heap:=s.heap.push { cls:=.type "range",data:=.fields #[.int lo t,.int hi u,.int 1 v] },toks:=tk }:=by
 refine wpAny_pyIter_range (IsRange.new ..) (small_one h1 h2 h3 h4) ?_
 have I1:Inv X pins σ H { s with heap:=s.heap.push { cls:=.type "range",data:=.fields #[.int lo t,.int hi u,.int 1 v] },toks:=tk }:=I.kept λb o e=>Heap.get?_push_of_some _ e
 refine ⟨(s.heap.push { cls:=.type "range",data:=.fields #[.int lo t,.int hi u,.int 1 v] }).objs.size,[(s.heap.push { cls:=.type "range",data:=.fields #[.int lo t,.int hi u,.int 1 v] }).objs.size],_,_,H,rfl,
  I1.kept (t':=tk) λb o e=>Heap.get?_push_of_some _ e,wy _ lo (hi - lo).toNat,?_,λb hb=>?_,q⟩
 ·have e1:lo+((0:Nat):Int) * 1=lo:=by simp
  have e2:(((hi - lo).toNat:Nat):Int) - ((0:Nat):Int)=Builtin.Range.rangeSize lo hi 1:=by rw [rangeSize_one];split<;>omega
  show IsRangeIter _ _ (lo+((0:Nat):Int) * 1) ((((hi - lo).toNat:Nat):Int) - ((0:Nat):Int)) 1
  rw [e1,e2]
  exact Heap.get?_push_size _ rfl
 ·have e:b=(s.heap.push { cls:=.type "range",data:=.fields #[.int lo t,.int hi u,.int 1 v] }).objs.size:=by simpa using hb
  subst e
  exact I1.fpOk (Nat.le_refl _) (I1.hok.fresh (Nat.le_refl _))
def Eo (ta:TA):TI:=λσ H R=>ta σ H λvs H1=>∃ j:Int,vs=[.int j] /\ -(2 ^ 62)<=j/\j<2 ^ 62/\R (Itr 0 j.toNat) H1
theorem wX {a:Expr}{ta:TA}{p pos:Pos}(hg:Gl X "range") (hm:X.mg "range"=none) (ha:PA X [a] ta) (hs:starEach [a] X.env=[(false,eval a X.env)]:=by rfl):PI X tg (.Call (.Name "range" p) [a] [] pos) (Eo ta):=by
 intro pins s σ H R I h
 refine Call_ (jN I hg hm boot_range (PyProof.Rows.callWith_type1 (thn (ha pos pins s σ H _ I h) λus s1 ⟨vs,H1,I1,r1,q1⟩=>?_) hs rfl))
 obtain ⟨j,e,q1,q2,q⟩:=q1
 subst e
 cases r1 with
 |cons r rr =>
  cases rr
  obtain ⟨t,rfl⟩:=r
  exact call_range_1 (xX I1 (by omega) (by omega) q1 q2 (by simpa using q))
def vb (wi:TI) (g:TG) (tb:TS):TS:=λD σ H=>wi σ H λJ H1=>∃ W:Nat->Nat->St->Hp->Prop,(∃ m,W 0 m σ H1)/\∀ i m σ H,W i m σ H ->
 (J.stop i H/\D.nx σ H)\/(J.go i H/\∃ N:St->Hp->Prop,(∀ σ' H',N σ' H'->∃ m',m'<m/\W (i+1) m' σ' H')/\∀ x H',J.yld i H x H'->g x σ H' λσ2 H2=>tb { D with nx:=N,ct:=N,bk:=D.nx } σ2 H2)
def iq (fp:List Addr) (h:Heap):List (Addr×Obj):=fp.filterMap λb=>(h.get? b).map λo=>(b,o)
theorem ji {fp:List Addr}{h:Heap}{b:Addr}{o:Obj}(hb:b∈fp) (e:h.get? b=some o):(b,o)∈iq fp h:=List.mem_filterMap.mpr ⟨b,hb,by rw [e];rfl⟩
theorem wY {fp:List Addr}{h:Heap}{p:Addr×Obj}(hp:p∈iq fp h):p.1∈fp/\h.get? p.1=some p.2:=by
 obtain ⟨b,hb,e⟩:=List.mem_filterMap.mp hp
 cases q:h.get? b with
 |none=>rw [q] at e;cases e
 |some o =>
  rw [q] at e
  have e':(b,o)=p:=Option.some.inj e
  subst e'
  exact ⟨hb,q⟩
theorem Inv.pinned {pins:List (Addr×Obj)}{σ:St}{H:Hp}{s:Shared}{fp:List Addr}(I:Inv X pins σ H s) (hf:∀ b∈fp,bN X pins H b) (ho:∀ b∈fp,∃ o,s.heap.get? b=some o/\∀ v,o.data≠.cell v):Inv X (pins++iq fp s.heap) σ H s :=
 I.pins_of λp hp=>(List.mem_append.mp hp).elim (λz=>I.pin p (List.mem_append_right _ z)) λz=>by
  obtain ⟨hb,e⟩:=wY z
  obtain ⟨f0,f1,f2,_⟩:=hf p.1 hb
  obtain ⟨o,e',d⟩:=ho p.1 hb
  rw [e] at e';cases e'
  exact ⟨e,f0,f1,f2,d⟩
theorem Inv.unpinned {pins pl:List (Addr×Obj)}{σ:St}{H:Hp}{s:Shared}(I:Inv X (pins++pl) σ H s):Inv X pins σ H s:=I.pins_of λp hp=>I.pin p (List.mem_append_right _ (List.mem_append_left _ hp))
theorem BS {iter:Expr}{body:List Stmt}{wi:TI}{g:TG}{tb:TS}{pos:Pos}(hp:PassesOwn (model X.prog X.w) X.A X.env X.xe) (hc:X.calm=true) (hi:PI X tg iter wi) (hg:PG X tg g) (hb:PSs X body tb)
  (hs:∀ x,foldedSetIterable iter X.env x=pure x:=by intro _;rfl):PS X (.For tg iter body [] pos) (vb wi g tb):=by
 intro pins s σ H D I h
 refine wpAny_For (thn (hi pins s σ H _ I h) λv s1 h1=>thn h1 λitv s2 h2=>?_) hs
 obtain ⟨it,fp,tn,J,H2,e,I2,T,st2,f2,W,⟨m0,w0⟩,turn⟩:=h2
 subst e
 -- what stays true of the iterator's objects through the loop
 have stat:∀ {H':Hp},(∀ b∈fp,H' b=none)->∀ b∈fp,bN X pins H' b:=λhn b hb=>⟨hn b hb,(f2 b hb).2⟩
 refine codeAny_forLoop_any (λn s'=>∃ i σ' H',Inv X pins σ' H' s'/\tn i s'.heap/\(∀ b∈fp,H' b=none)/\W i n σ' H') ?_ m0 ⟨0,σ,H2,I2,st2,λb hb=>(f2 b hb).1,w0⟩
 rintro n s3 ⟨i,σ3,H3,I3,st3,fr3,w3⟩
 rcases turn i n σ3 H3 w3 with ⟨stop,qn⟩|⟨go,N,hN,step⟩
 ·refine wpAny_passesOwn hp (thn (T.done X rfl rfl rfl hc i pins s3 σ3 H3 X.xe I3 (stat fr3) st3 stop) λr s4 ⟨hr,I4⟩=>?_)
  subst hr
  exact wpAny_execs_nil ⟨σ3,H3,I4,qn⟩
 ·refine wpAny_passesOwn hp (thn (T.item X rfl rfl rfl hc i pins s3 σ3 H3 X.xe I3 (stat fr3) st3 go) λr s4 ⟨u,hr,h4⟩=>?_)
  subst hr
  refine wpAny_passesOwn hp (thn h4 λ_ s5 zz18=>?_)
  obtain ⟨x,H5,I5,r5,y5,st5,fr5⟩:=zz18
  have I5':=I5.pinned (stat fr5) (T.obj _ _ st5)
  refine wpAny_passesOwn hp (thn (hg _ s5 σ3 H5 x u _ I5' r5 (step x H5 y5)) λ_ s6 zz19=>?_)
  obtain ⟨σ6,H6,I6,q6⟩:=zz19
  refine wpAny_passesOwn hp (thn (hb _ s6 σ6 H6 _ I6 q6) λf s7 q7=>?_)
  have again:∀ {σ7:St}{H7:Hp},Inv X (pins++iq fp s5.heap) σ7 H7 s7->N σ7 H7->∃ m,m<n/\∃ i σ' H',Inv X pins σ' H' s7/\tn i s7.heap/\(∀ b∈fp,H' b=none)/\W i m σ' H':=fun {σ7 H7} I7 n7=>by
   obtain ⟨m',hm,w7⟩:=hN σ7 H7 n7
   refine ⟨m',hm,i+1,σ7,H7,I7.unpinned,T.keep _ _ _ st5 λb hb o e=>(I7.pin (b,o) (List.mem_append_right _ (List.mem_append_right _ (ji hb e)))).1,λb hb=>?_,w7⟩
   obtain ⟨o,e,d⟩:=T.obj _ _ st5 b hb
   exact (I7.pin (b,o) (List.mem_append_right _ (List.mem_append_right _ (ji hb e)))).2.1
  cases f with
  |next=>obtain ⟨σ7,H7,I7,n7⟩:=q7;exact again I7 n7
  |cont=>obtain ⟨σ7,H7,I7,n7⟩:=q7;exact again I7 n7
  |brk=>obtain ⟨σ7,H7,I7,q7⟩:=q7;exact ⟨σ7,H7,I7.unpinned,q7⟩
  |ret v=>obtain ⟨x7,σ7,H7,I7,r7,q7⟩:=q7;exact ⟨x7,σ7,H7,I7.unpinned,r7,q7⟩
end
abbrev R2:=V->V->Hp->VK->Prop
def OpR (X:Cx) (f:Value->Value->Sem Value) (r:R2):Prop :=
 ∀ (pins:List (Addr×Obj)) (s:Shared) (σ:St) (H:Hp) (x y:V) (v u:Value) (Q:VK),Inv X pins σ H s->ao x v->ao y u->r x y H Q ->
  wpAny (model X.prog X.w) X.A (f v u) (EP X pins σ Q) X.xe s
def UnR (X:Cx) (f:Value->Sem Value) (r:V->Hp->VK->Prop):Prop :=
 ∀ (pins:List (Addr×Obj)) (s:Shared) (σ:St) (H:Hp) (x:V) (v:Value) (Q:VK),Inv X pins σ H s->ao x v->r x H Q ->
  wpAny (model X.prog X.w) X.A (f v) (EP X pins σ Q) X.xe s
def bw (X:Cx) (f:Value) (r:List V->Hp->VK->Prop):Prop :=
 ∀ (pins:List (Addr×Obj)) (s:Shared) (σ:St) (H:Hp) (xs:List V) (us:List Value) (Q:VK),Inv X pins σ H s->aj xs us->r xs H Q ->
  wpAny (model X.prog X.w) X.A (call f us) (EP X pins σ Q) X.xe s
def tOp (r:R2) (ta tb:TE):TE:=λσ H Q=>ta σ H λx H1=>tb σ H1 λy H2=>r x y H2 Q
def tUn (r:V->Hp->VK->Prop) (ta:TE):TE:=λσ H Q=>ta σ H λx H1=>r x H1 Q
def rI (C:Int->Int->Prop) (g:Int->Int->V):R2:=λx y H Q=>∃ i j,x=.int i/\y=.int j/\C i j/\Q (g i j) H
def rI0 (g:Int->Int->V):R2:=λx y H Q=>∃ i j,x=.int i/\y=.int j/\Q (g i j) H
def rU (g:Int->V):V->Hp->VK->Prop:=λx H Q=>∃ i,x=.int i/\Q (g i) H
section
variable {X:Cx}{a b c:Expr}{ta tb tc:TE}{pos:Pos}
theorem nR (ha:PE X a ta) (hb:PE X b tb){pins:List (Addr×Obj)}{s:Shared}{σ:St}{H:Hp}{R:V->V->Hp->Prop}(I:Inv X pins σ H s)
  (h:ta σ H λx H1=>tb σ H1 λy H2=>R x y H2){Q:Value->Shared->Prop}{f:Value->Value->Sem Value}
  (hf:∀ v u s2 x y H2,Inv X pins σ H2 s2->ao x v->ao y u->R x y H2->wpAny (model X.prog X.w) X.A (f v u) Q X.xe s2) :
  wpAny (model X.prog X.w) X.A (eval a X.env) (λv s₁=>wpAny (model X.prog X.w) X.A (eval b X.env) (λu s₂=>wpAny (model X.prog X.w) X.A (f v u) Q X.xe s₂) X.xe s₁) X.xe s:=by
 refine thn (ha pins s σ H _ I h) λv s1 zz20=>?_
 obtain ⟨x,H1,I1,r1,q1⟩:=zz20
 refine thn (hb pins s1 σ H1 _ I1 q1) λu s2 zz21=>?_
 obtain ⟨y,H2,I2,r2,q2⟩:=zz21
 exact hf v u s2 x y H2 I2 r1 r2 q2
theorem Ep {op:Operator}{r:R2}(ho:OpR X (binaryOp op) r) (ha:PE X a ta) (hb:PE X b tb):PE X (.BinOp a op b pos) (tOp r ta tb):=by
 intro pins s σ H Q I h
 exact wpAny_BinOp (nR ha hb I h λv u s2 x y H2 I2 rx ry q=>ho pins s2 σ H2 x y v u Q I2 rx ry q)
theorem Er {op:UnaryOp}{r:V->Hp->VK->Prop}(ho:UnR X (unaryOp op) r) (ha:PE X a ta):PE X (.UnaryOp op a pos) (tUn r ta):=by
 intro pins s σ H Q I h
 exact UnaryOp_ (thn (ha pins s σ H _ I h) λv s1 zz22=>by obtain ⟨x,H1,I1,r1,q1⟩:=zz22;exact ho pins s1 σ H1 x v Q I1 r1 q1)
theorem opI {f:Value->Value->Sem Value}{C:Int->Int->Prop}{g:Int->Int->Int}
  (rule:∀ (i j:Int) (t u:Tok) (s:Shared) (Q:Value->Shared->Prop) (E:Value->Shared->Prop),C i j->Q (.int (g i j) s.toks) { s with toks:=s.toks+1 }->wpAny (model X.prog X.w) X.A (f (.int i t) (.int j u)) Q E s) :
  OpR X f (rI C λi j=>.int (g i j)):=by
 intro pins s σ H x y v u Q I rx ry h
 obtain ⟨i,j,rfl,rfl,hc,q⟩:=h
 obtain ⟨t,rfl⟩:=rx
 obtain ⟨t',rfl⟩:=ry
 exact rule i j t t' s _ _ hc ⟨.int (g i j),H,I.tok _,⟨_,rfl⟩,q⟩
theorem vc {f:Value->Value->Sem Value}{g:Int->Int->Int}
  (rule:∀ (i j:Int) (t u:Tok) (s:Shared) (Q:Value->Shared->Prop) (E:Value->Shared->Prop),Q (.int (g i j) s.toks) { s with toks:=s.toks+1 }->wpAny (model X.prog X.w) X.A (f (.int i t) (.int j u)) Q E s) :
  OpR X f (rI0 λi j=>.int (g i j)):=by
 intro pins s σ H x y v u Q I rx ry h
 obtain ⟨i,j,rfl,rfl,q⟩:=h
 obtain ⟨t,rfl⟩:=rx
 obtain ⟨t',rfl⟩:=ry
 exact rule i j t t' s _ _ ⟨.int (g i j),H,I.tok _,⟨_,rfl⟩,q⟩
theorem nS {f:Value->Value->Sem Value}{g:Int->Int->Bool}
  (rule:∀ (i j:Int) (t u:Tok) (s:Shared) (Q:Value->Shared->Prop) (E:Value->Shared->Prop),Q (.bool (g i j)) s->wpAny (model X.prog X.w) X.A (f (.int i t) (.int j u)) Q E s) :
  OpR X f (rI0 λi j=>.bl (g i j)):=by
 intro pins s σ H x y v u Q I rx ry h
 obtain ⟨i,j,rfl,rfl,q⟩:=h
 obtain ⟨t,rfl⟩:=rx
 obtain ⟨t',rfl⟩:=ry
 exact rule i j t t' s _ _ ⟨.bl (g i j),H,I,rfl,q⟩
def vd (i j:Int):Prop:=0<=j/\j<=1000000/\i.natAbs<2 ^ 64
def iN (i j:Int):Prop:=(-(2 ^ 64)<i/\i<2 ^ 64)\/(-(2 ^ 64)<j/\j<2 ^ 64)
theorem iN.ok {i j:Int}(h:iN i j):IntMulOk i j:=by
 rcases h with ⟨h1,h2⟩|⟨h1,h2⟩
 ·exact .of_left (intBits_le_64 h1 h2)
 ·exact .of_right (intBits_le_64 h1 h2)
theorem wz (k:Nat):(0:Int)<=2 ^ k:=by
 rw [two_pow_cast]
 exact Int.natCast_nonneg _
theorem BT:OpR X (binaryOp .Add) (rI0 λi j=>.int (i+j)):=vc λ_ _ _ _ _ _ _ q=>add_int q
theorem BU:OpR X (binaryOp .Sub) (rI0 λi j=>.int (i - j)):=vc λ_ _ _ _ _ _ _ q=>sub_int q
theorem BV:OpR X (binaryOp .Mult) (rI iN λi j=>.int (i * j)):=opI λ_ _ _ _ _ _ _ hc q=>mul_int q hc.ok
theorem BW:OpR X (binaryOp .Mod) (rI (λ_ j=>0<j) λi j=>.int (i % j)):=opI λi j _ _ _ _ _ hc q=>by
 have h1:(0:Int)<j:=hc
 exact mod_int' (by omega) (by rw [Int.fmod_eq_emod_of_nonneg i (by omega)];exact q)
theorem BX:OpR X (binaryOp .Pow) (rI vd λi j=>.int (i ^ j.toNat)):=opI λ_ _ _ _ _ _ _ hc q=>pow_int_small hc.1 hc.2.1 hc.2.2 q
theorem BY:OpR X (binaryOp .RShift) (rI (λ_ j=>0<=j) λi j=>.int (i / 2 ^ j.toNat)):=opI λi j _ _ _ _ _ hc q =>
 rshift_int hc (by rw [Int.fdiv_eq_ediv_of_nonneg i (wz _)];exact q)
theorem unI {f:Value->Sem Value}{g:Int->Int}
  (rule:∀ (i:Int) (t:Tok) (s:Shared) (Q:Value->Shared->Prop) (E:Value->Shared->Prop),Q (.int (g i) s.toks) { s with toks:=s.toks+1 }->wpAny (model X.prog X.w) X.A (f (.int i t)) Q E s) :
  UnR X f (rU λi=>.int (g i)):=by
 intro pins s σ H x v Q I rx h
 obtain ⟨i,rfl,q⟩:=h
 obtain ⟨t,rfl⟩:=rx
 exact rule i t s _ _ ⟨.int (g i),H,I.tok _,⟨_,rfl⟩,q⟩
theorem BZ:UnR X (unaryOp .USub) (rU λi=>.int (-i)):=unI λ_ _ _ _ _ q=>neg_int q
end
def vf:V->V->Bool
 |.non,.non=>true|.non,.int _=>true|.int _,.non=>true|.non,.bl _=>true|.bl _,.non=>true|.non,.str _=>true|.str _,.non=>true
 |.int _,.int _=>true|.bl _,.bl _=>true|.str _,.str _=>true|.byt _,.byt _=>true
 |.int _,.str _=>true|.str _,.int _=>true|.bl _,.str _=>true|.str _,.bl _=>true
 |_,_=>false
def rEq:R2:=λx y H Q=>vf x y=true/\Q (.bl (decide (x=y))) H
def rNe:R2:=λx y H Q=>vf x y=true/\Q (.bl (!decide (x=y))) H
theorem qK {i j:Int}:decide (V.int i=V.int j)=(i==j):=by
 rw [Bool.eq_iff_iff]
 simp
theorem sK {i j:Bool}:decide (V.bl i=V.bl j)=(i==j):=by
 rw [Bool.eq_iff_iff]
 simp
theorem qL {i j:Str}:decide (V.str i=V.str j)=(i==j):=by
 rw [Bool.eq_iff_iff]
 simp
theorem qM {i j:Array UInt8}:decide (V.byt i=V.byt j)=(i.toList==j.toList):=by
 rw [Bool.eq_iff_iff]
 cases i
 cases j
 simp
section
variable {X:Cx}{a b c:Expr}{ta tb tc:TE}{pos:Pos}
theorem aL {pins:List (Addr×Obj)}{σ:St}{H:Hp}{s:Shared}{Q:VK}{k k':Bool}(I:Inv X pins σ H s) (q:Q (.bl k) H) (e:k=k'):EP X pins σ Q (.bool k') s:=by
 subst e
 exact ⟨.bl k,H,I,rfl,q⟩
theorem nq:OpR X (compareOp .Eq) rEq:=by
 intro pins s σ H x y v u Q I rx ry h
 obtain ⟨hs,q⟩:=h
 cases x with
 |non =>
  cases rx
  cases y with
  |non=>cases ry;exact PySem.EqNone.eq_none_none (aL I q (by simp))
  |bl j=>cases ry;exact PySem.EqNone.eq_none_bool (aL I q (by simp))
  |int j=>obtain ⟨t',rfl⟩:=ry;exact PySem.EqNone.eq_none_int (aL I q (by simp))
  |str j=>obtain ⟨t',rfl⟩:=ry;exact PySem.EqNone.eq_none_str (aL I q (by simp))
  |_=>exact absurd (show false=true from hs) Bool.false_ne_true
 |bl i =>
  cases rx
  cases y with
  |non=>cases ry;exact PySem.EqNone.eq_bool_none (aL I q (by simp))
  |bl j=>cases ry;exact eq_bool (aL I q sK)
  |str j=>obtain ⟨t',rfl⟩:=ry;exact PySem.EqMixed.eq_bool_str (aL I q (by simp))
  |_=>exact absurd (show false=true from hs) Bool.false_ne_true
 |int i =>
  obtain ⟨t,rfl⟩:=rx
  cases y with
  |non=>cases ry;exact PySem.EqNone.eq_int_none (aL I q (by simp))
  |int j=>obtain ⟨t',rfl⟩:=ry;exact eq_int (aL I q qK)
  |str j=>obtain ⟨t',rfl⟩:=ry;exact PySem.EqMixed.eq_int_str (aL I q (by simp))
  |_=>exact absurd (show false=true from hs) Bool.false_ne_true
 |str i =>
  obtain ⟨t,rfl⟩:=rx
  cases y with
  |non=>cases ry;exact PySem.EqNone.eq_str_none (aL I q (by simp))
  |bl j=>cases ry;exact PySem.EqMixed.eq_str_bool (aL I q (by simp))
  |int j=>obtain ⟨t',rfl⟩:=ry;exact PySem.EqMixed.eq_str_int (aL I q (by simp))
  |str j=>obtain ⟨t',rfl⟩:=ry;exact eq_str (aL I q qL)
  |_=>exact absurd (show false=true from hs) Bool.false_ne_true
 |byt i =>
  obtain ⟨t,rfl⟩:=rx
  cases y with
  |byt j=>obtain ⟨t',rfl⟩:=ry;exact PySem.W.eq_bytes (aL I q qM)
  |_=>exact absurd (show false=true from hs) Bool.false_ne_true
 |_=>cases y<;>exact absurd (show false=true from hs) Bool.false_ne_true
theorem nr:OpR X (compareOp .NotEq) rNe:=by
 intro pins s σ H x y v u Q I rx ry h
 obtain ⟨hs,q⟩:=h
 cases x with
 |non =>
  cases rx
  cases y with
  |non=>cases ry;exact PySem.EqNone.ne_none_none (aL I q (by simp))
  |bl j=>cases ry;exact PySem.EqNone.ne_none_bool (aL I q (by simp))
  |int j=>obtain ⟨t',rfl⟩:=ry;exact PySem.EqNone.ne_none_int (aL I q (by simp))
  |str j=>obtain ⟨t',rfl⟩:=ry;exact PySem.EqNone.ne_none_str (aL I q (by simp))
  |_=>exact absurd (show false=true from hs) Bool.false_ne_true
 |bl i =>
  cases rx
  cases y with
  |non=>cases ry;exact PySem.EqNone.ne_bool_none (aL I q (by simp))
  |bl j=>cases ry;exact ne_bool (aL I q (congrArg not sK))
  |str j=>obtain ⟨t',rfl⟩:=ry;exact PySem.EqMixed.ne_bool_str (aL I q (by simp))
  |_=>exact absurd (show false=true from hs) Bool.false_ne_true
 |int i =>
  obtain ⟨t,rfl⟩:=rx
  cases y with
  |non=>cases ry;exact PySem.EqNone.ne_int_none (aL I q (by simp))
  |int j=>obtain ⟨t',rfl⟩:=ry;exact ne_int (aL I q (congrArg not qK))
  |str j=>obtain ⟨t',rfl⟩:=ry;exact PySem.EqMixed.ne_int_str (aL I q (by simp))
  |_=>exact absurd (show false=true from hs) Bool.false_ne_true
 |str i =>
  obtain ⟨t,rfl⟩:=rx
  cases y with
  |non=>cases ry;exact PySem.EqNone.ne_str_none (aL I q (by simp))
  |bl j=>cases ry;exact PySem.EqMixed.ne_str_bool (aL I q (by simp))
  |int j=>obtain ⟨t',rfl⟩:=ry;exact PySem.EqMixed.ne_str_int (aL I q (by simp))
  |str j=>obtain ⟨t',rfl⟩:=ry;exact ne_str (aL I q (congrArg not qL))
  |_=>exact absurd (show false=true from hs) Bool.false_ne_true
 |byt i =>
  obtain ⟨t,rfl⟩:=rx
  cases y with
  |byt j=>obtain ⟨t',rfl⟩:=ry;exact PySem.W.ne_bytes (aL I q (congrArg not qM))
  |_=>exact absurd (show false=true from hs) Bool.false_ne_true
 |_=>cases y<;>exact absurd (show false=true from hs) Bool.false_ne_true
theorem Es:OpR X (compareOp .Lt) (rI0 λi j=>.bl (decide (i<j))):=nS λ_ _ _ _ _ _ _ q=>lt_int q
theorem Et:OpR X (compareOp .LtE) (rI0 λi j=>.bl (decide (i<=j))):=nS λ_ _ _ _ _ _ _ q=>le_int q
theorem Eu:OpR X (compareOp .Gt) (rI0 λi j=>.bl (decide (j<i))):=nS λ_ _ _ _ _ _ _ q=>gt_int q
theorem wZ:OpR X (compareOp .Lt) (λx y H Q=>∃ i j,x=.str i/\y=.str j/\Q (.bl (decide (i.cps.toList<j.cps.toList))) H):=by
 intro pins s σ H x y v u Q I rx ry h
 obtain ⟨i,j,rfl,rfl,q⟩:=h
 obtain ⟨t,rfl⟩:=rx
 obtain ⟨t',rfl⟩:=ry
 exact lt_str (aL I q rfl)
theorem w4:OpR X (compareOp .In) (λx y H Q=>∃ i j,x=.str i/\y=.str j/\Q (.bl (!(Builtin.Str.occurrences j i 0 j.length 1).isEmpty)) H):=by
 intro pins s σ H x y v u Q I rx ry h
 obtain ⟨i,j,rfl,rfl,q⟩:=h
 obtain ⟨t,rfl⟩:=rx
 obtain ⟨t',rfl⟩:=ry
 exact in_str (aL I q rfl)
theorem B0:OpR X (compareOp .Is) (λx y H Q=>y=.non/\Q (.bl (decide (x=.non))) H):=by
 intro pins s σ H x y v u Q I rx ry h
 obtain ⟨rfl,q⟩:=h
 cases ry
 refine is_none_gen (aL I q ?_)
 cases x<;>first
  |(cases rx;rfl)
  |(obtain ⟨t,rfl⟩:=rx;rfl)
theorem v7:OpR X (compareOp .NotIn) (λx y H Q=>∃ i j,x=.str i/\y=.str j/\Q (.bl (!(!(Builtin.Str.occurrences j i 0 j.length 1).isEmpty))) H):=by
 intro pins s σ H x y v u Q I rx ry h
 obtain ⟨i,j,rfl,rfl,q⟩:=h
 obtain ⟨t,rfl⟩:=rx
 obtain ⟨t',rfl⟩:=ry
 exact notIn_str (aL I q rfl)
theorem aI (b:Expr){op:CmpOp}(h:op≠.In:=by decide) (h2:op≠.NotIn:=by decide):behindInMarks op b=false:=by
 have e1:(op==CmpOp.In)=false:=by cases op<;>first|rfl|exact absurd rfl h
 have e2:(op==CmpOp.NotIn)=false:=by cases op<;>first|rfl|exact absurd rfl h2
 cases b<;>simp [behindInMarks,e1,e2]
theorem zD {op:CmpOp}{r:R2}(ho:OpR X (compareOp op) r) (ha:PE X a ta) (hb:PE X b tb) (hm:behindInMarks op b=false):PE X (.Compare a [op] [b] pos) (tOp r ta tb):=by
 intro pins s σ H Q I h
 exact wpAny_Compare1 (nR ha hb I h λv u s2 x y H2 I2 rx ry q=>ho pins s2 σ H2 x y v u Q I2 rx ry q) hm
def ui (t:TE):TT:=λσ H Q=>t σ H λx H'=>∃ k,x=.bl k/\Q k H'
theorem zE {op:CmpOp}{r:R2}(ho:OpR X (compareOp op) r) (ha:PE X a ta) (hb:PE X b tb) (hm:behindInMarks op b=false):PT X (.Compare a [op] [b] pos) (ui (tOp r ta tb)):=by
 intro pins s σ H Q I h
 refine wpAny_isTrue_Compare1 (thn (ha pins s σ H _ I h) λv s1 ⟨x,H1,I1,r1,q1⟩=>thn (hb pins s1 σ H1 _ I1 q1) λu s2 ⟨y,H2,I2,r2,q2⟩ =>
  thn (ho pins s2 σ H2 x y v u _ I2 r1 r2 q2) λc s3 ⟨z,H3,I3,r3,k,e,q3⟩=>?_) hm
 subst e
 cases r3
 exact wpAny_truthy_bool ⟨H3,I3,q3⟩
def sL (r r':R2) (ta tb tc:TE):TE:=λσ H Q=>ta σ H λx H1=>tb σ H1 λy H2=>r x y H2 λz H3=>∃ k,z=.bl k /\
 (if k=true then tc σ H3 λw' H4=>r' y w' H4 Q else Q (.bl false) H3)
theorem xY {op op':CmpOp}{r r':R2}(ho:OpR X (compareOp op) r) (ho':OpR X (compareOp op') r') (ha:PE X a ta) (hb:PE X b tb) (hc:PE X c tc)
  (hm:lastMarks [op,op'] [b,c]=false:=by with_unfolding_all rfl):PE X (.Compare a [op,op'] [b,c] pos) (sL r r' ta tb tc):=by
 intro pins s σ H Q I h
 refine Compare_chain (thn (ha pins s σ H _ I h) λv s1 ⟨x,H1,I1,r1,q1⟩=>chain_link (thn (hb pins s1 σ H1 _ I1 q1) λu s2 ⟨y,H2,I2,r2,q2⟩ =>
  thn (ho pins s2 σ H2 x y v u _ I2 r1 r2 q2) λd s3 ⟨z,H3,I3,r3,k,e,q3⟩=>?_)) hm
 subst e
 cases r3
 refine wpAny_truthy_bool ?_
 cases k with
 |false=>exact ite_ff ⟨.bl false,H3,I3,rfl,q3⟩
 |true=>exact ite_tt (chain_last (thn (hc pins s3 σ H3 _ I3 q3) λw' s4 ⟨z',H4,I4,r4,q4⟩=>ho' pins s4 σ H4 y z' u w' Q I4 r2 r4 q4))
theorem gz:(sizeLine:Nat)<2 ^ 63:=by rw [sizeLine_eq];decide
theorem wA:OpR X (binaryOp .Add) (λx y H Q=>∃ i j,x=.str i/\y=.str j/\i.length+j.length<=sizeLine/\Q (.str (i++j)) H):=by
 intro pins s σ H x y v u Q I rx ry h
 obtain ⟨i,j,rfl,rfl,hz,q⟩:=h
 obtain ⟨t,rfl⟩:=rx
 obtain ⟨t',rfl⟩:=ry
 exact add_str (λt' tk=>⟨.str (i++j),H,I.tok _,⟨_,rfl⟩,q⟩) hz
theorem bZ {x:V}{us:List Value}(r:aj [x] us):∃ u,us=[u]/\ao x u:=by
 cases r with
 |cons r1 r2=>cases r2;exact ⟨_,rfl,r1⟩
theorem iF {x y:V}{us:List Value}(r:aj [x,y] us):∃ u w',us=[u,w']/\ao x u/\ao y w':=by
 cases r with
 |cons r1 r2 =>
  cases r2 with
  |cons r3 r4=>cases r4;exact ⟨_,_,rfl,r1,r3⟩
theorem w6 (hc:X.calm=true):bw X (.builtin "min") (λxs H Q=>∃ i j,xs=[.int i,.int j]/\Q (.int (if j<i then j else i)) H):=by
 intro pins s σ H xs us Q I r h
 obtain ⟨i,j,rfl,q⟩:=h
 obtain ⟨u,w',rfl,⟨t,rfl⟩,⟨t',rfl⟩⟩:=iF r
 refine min_two_ints (I.ok.hd hc) λh' tk k=>⟨_,H,I.kept k,?_,q⟩
 by_cases hj:j<i
 ·rw [if_pos hj,if_pos hj];exact ⟨_,rfl⟩
 ·rw [if_neg hj,if_neg hj];exact ⟨_,rfl⟩
end
structure ObjM (h:Heap) (x dx C:Addr) (mA:Str->Option Value):Prop where
 obj:h.get? x=some (PySem.W.instObj C dx)
 ns:h.Ns1 dx mA
 ne:dx≠x
theorem w9 {h:Heap}{dx:Addr}{mA:Str->Option Value}(n:h.Ns1 dx mA):∃ od,h.get? dx=some od/\∀ name,PySem.W.lookIn name od=some (mA name):=by
 obtain ⟨o,es,ep,ho,hd,hk,_,hm⟩:=n
 refine ⟨o,ho,λname=>?_⟩
 have e:=hm name
 unfold nsFind findBy at e
 rw [<- Array.find?_toList] at e
 unfold PySem.W.lookIn
 rw [hd]
 dsimp only
 split
 ·rename_i y q
  rw [q] at e
  exact congrArg some e
 ·rename_i q
  rw [q] at e
  have a:es.toList.any (·.refKey)=false:=by
   rw [List.any_eq_false]
   intro y hy
   obtain ⟨z,t,hkey⟩:=hk y (Array.mem_toList_iff.mp hy)
   simp [DictEntry.refKey,hkey]
  have a':¬ es.toList.any (·.refKey)=true:=by rw [a];exact Bool.false_ne_true
  rw [if_neg a']
  exact congrArg some e
theorem ObjM.look {h:Heap}{x dx C:Addr}{mA:Str->Option Value}(I:ObjM h x dx C mA):∃ od,PySem.W.InstAt h x (PySem.W.instObj C dx) C (some od)/\∀ name,PySem.W.lookIn name od=some (mA name) :=
 let ⟨od,ho,hl⟩:=w9 I.ns
 ⟨od,⟨I.obj,rfl,rfl,ho⟩,hl⟩
section
variable {prog:Program}{w:World}{A:Around}{E:Value->Shared->Prop}{s:Shared}{K:PySem.W.Frag}{x dx C f:Addr}{mA:Str->Option Value}{name:Str}{v:Value}
theorem zF {expr:Bool}{Q:Value->Shared->Prop}(X:K.In s.heap) (I:ObjM s.heap x dx C mA) (hg:PySem.W.plainGet K C name=true) (hh:PySem.W.hasDictIn K C=true)
  (ha:PySem.W.findIn K (.ref C) name=some none) (hv:mA name=some v) (hv':PySem.W.handedIn v=true) (h:Q v { s with toks:=s.toks+1 }) :
  wpAny (model prog w) A (getAttr (.ref x) name expr) Q E s:=by
 obtain ⟨od,J,hl⟩:=I.look
 exact PySem.W.get_value X J (PySem.W.plainGet_of hg).1 (PySem.W.findObj_own hh ha rfl (by rw [hl,hv])) hv' h
theorem xZ {pl:Sem Bool}{Q:Value×List Value->Shared->Prop}(X:K.In s.heap) (I:ObjM s.heap x dx C mA) (hg:PySem.W.plainGet K C name=true)
  (hf:PySem.W.findIn K (.ref C) name=some (some (.ref f))) (ht:PySem.W.isFn K (.ref f)=true) (hv:mA name=none) (h:Q (.ref f,[.ref x]) s) :
  wpAny (model prog w) A (getMethod (.ref x) name pl) Q E s:=by
 obtain ⟨od,J,hl⟩:=I.look
 exact PySem.W.method_fn X J (PySem.W.plainGet_of hg).1 (PySem.W.plainGet_of hg).2 hf (beq_iff_eq.mp ht) (by show (PySem.W.lookIn name od).map (·.isSome)=some false;rw [hl,hv];rfl) h
theorem zG {ns:List Str}{Q:Unit->Shared->Prop}(X:K.In s.heap) (I:ObjM s.heap x dx C mA)
  (hs:PySem.W.findIn K (.ref C) "__setattr__"=some (some (.builtin "object.__setattr__"))) (hp:PySem.W.plainOver K C=true) (ht:PySem.W.takerIn K C name=some none) (hh:PySem.W.hasDictIn K C=true)
  (hw:PySem.Within mA ns) (hsz:ns.length<=sizeLine)
  (h:∀ h',ObjM h' x dx C (λy=>if y=name then some v else mA y)->Heap.SameBut dx s.heap h'->Q () { s with heap:=h',toks:=s.toks+2 }) :
  wpAny (model prog w) A (setAttr (.ref x) name v) Q E s:=by
 obtain ⟨od,J,hl⟩:=I.look
 refine PySem.W.set_plain X J hs (PySem.W.osa_open (s:={ s with toks:=s.toks+1 }) (r:=none) X J hp ht λb=>?_)
 obtain ⟨cd,hc,hd'⟩:=PySem.W.any_some hh
 have hx:s.heap.get? x=some ⟨.ref C,some dx,.plain,#[]⟩:=I.obj
 refine wpAny_bind (wpAny_pure (wpAny_bind (wpAny_bind (wpAny_loadPart hx (wpAny_bind (PySem.W.Looks.here (s:={ s with toks:=s.toks+1 }) (PySem.W.looks_clsIn X hc) ?_))))))
 rw [hd']
 refine wpAny_pure (a:=some dx) (wpAny_bind (wpAny_pure (wpAny_bind ?_)))
 refine wpAny_nsSet1 (s:={ s with toks:=s.toks+1 }) I.ns λh' hn2 hs2=>?_
 obtain ⟨oD,esD,epD,hoD,hdD,hcD⟩:=hn2.count (PySem.Within.cons name v hw)
 refine wpAny_bind (wpAny_lookBehind hoD (by rw [hdD];exact pastItsLine_dict (Nat.le_trans hcD (by rw [List.length_cons];omega))) ?_)
 exact wpAny_pure (h _ ⟨(hs2.2 _ (Ne.symm I.ne)).trans I.obj,hn2,I.ne⟩ hs2)
theorem x8 {R:Result->Shared->Prop}{vs:List Value}{kw:List (Str×Value)}(X:K.In s.heap) (hm:PySem.W.makesIn K C=true)
  (hi:PySem.W.findIn K (.ref C) "__init__"=some (some (.ref f))) (hf:PySem.W.typeIn K (.ref f)=some (.type "function"))
  (h:codeAny (model prog w) (A.under (.builtin "type.__call__" ⟨.ref C::vs,kw⟩)) (.call (.ref f) ⟨.ref (s.heap.objs.size+1)::vs,kw⟩) (PySem.W.InitBack (s.heap.objs.size+1) R)
   { s with heap:=(s.heap.push PySem.W.emptyDict).push (PySem.W.instObj C s.heap.objs.size) }) :
  codeAny (model prog w) A (.call (.ref C) ⟨vs,kw⟩) R s:=by
 obtain ⟨hh,g,d,t,os⟩:=s
 exact PySem.W.make_core (PySem.W.makes_of X hm) (PySem.W.looks_findIn X hi) (λself=>PySem.W.bind_fn X self hf) (.inl rfl) h
end
def bq (f:Str) (v:V):List (Str×V)->List (Str×V)
 |[]=>[(f,v)]
 |(g,x)::r=>if g=f then (g,v)::r else (g,x)::bq f v r
theorem o8 (f g:Str) (v:V):∀ fs:List (Str×V),(bq f v fs).lookup g=if g=f then some v else fs.lookup g
 |[]=>by
  show List.lookup g [(f,v)]=_
  by_cases h:g=f
  ·have hb:(g==f)=true:=beq_iff_eq.mpr h
   simp only [List.lookup,hb,if_pos h]
  ·have hb:(g==f)=false:=beq_eq_false_iff_ne.mpr h
   simp only [List.lookup,hb,if_neg h]
 |(k,x)::r=>by
  have ih:=o8 f g v r
  rw [show bq f v ((k,x)::r)=(if k=f then (k,v)::r else (k,x)::bq f v r) from rfl]
  by_cases hk:k=f
  ·rw [if_pos hk]
   by_cases h:g=k
   ·have hb:(g==k)=true:=beq_iff_eq.mpr h
    simp only [List.lookup,hb,if_pos (h.trans hk)]
   ·have hb:(g==k)=false:=beq_eq_false_iff_ne.mpr h
    simp only [List.lookup,hb,if_neg (λe:g=f=>h (e.trans hk.symm))]
  ·rw [if_neg hk]
   by_cases h:g=k
   ·have hb:(g==k)=true:=beq_iff_eq.mpr h
    simp only [List.lookup,hb,if_neg (λe:g=f=>hk (h.symm.trans e))]
   ·have hb:(g==k)=false:=beq_eq_false_iff_ne.mpr h
    simp only [List.lookup,hb]
    exact ih
theorem kY (f:Str) (v:V):∀ fs:List (Str×V),f∈(bq f v fs).map (·.1)/\∀ g,g∈fs.map (·.1)->g∈(bq f v fs).map (·.1)
 |[]=>⟨by simp [bq],λg h=>by simp at h⟩
 |(k,x)::r=>by
  obtain ⟨i1,i2⟩:=kY f v r
  rw [show bq f v ((k,x)::r)=(if k=f then (k,v)::r else (k,x)::bq f v r) from rfl]
  by_cases hk:k=f
  ·rw [if_pos hk]
   subst hk
   exact ⟨by simp,λg h=>by simpa using h⟩
  ·rw [if_neg hk]
   refine ⟨?_,λg h=>?_⟩
   ·rw [List.map_cons]
    exact List.mem_cons_of_mem _ i1
   ·rw [List.map_cons] at h ⊢
    rcases List.mem_cons.mp h with e|e
    ·exact List.mem_cons.mpr (.inl e)
    ·exact List.mem_cons_of_mem _ (i2 g e)
theorem o9 (f:Str) (v:V):∀ fs:List (Str×V),(bq f v fs).length<=fs.length+1
 |[]=>by simp [bq]
 |(k,x)::r=>by
  have ih:=o9 f v r
  rw [show bq f v ((k,x)::r)=(if k=f then (k,v)::r else (k,x)::bq f v r) from rfl]
  by_cases hk:k=f
  ·rw [if_pos hk,List.length_cons,List.length_cons];omega
  ·rw [if_neg hk,List.length_cons,List.length_cons];omega
theorem bJ.some_of {v:V}{o:Option Value}(r:bJ (some v) o):∃ u,o=some u/\ao v u:=by
 cases o with
 |none=>exact (show False from r).elim
 |some u=>exact ⟨u,rfl,r⟩
theorem bJ.none_of {o:Option Value}(r:bJ none o):o=none:=by
 cases o with
 |none=>rfl
 |some u=>exact (show False from r).elim
theorem xa {v:V}{u:Value}(r:ao v u):PySem.W.handedIn u=true:=by
 cases v with
 |non=>cases (show u=Value.none from r);rfl
 |bl b=>cases (show u=Value.bool b from r);rfl
 |int i=>obtain ⟨t,e⟩:=(show ∃ t,u=Value.int i t from r);cases e;rfl
 |str x=>obtain ⟨t,e⟩:=(show ∃ t,u=Value.str x t from r);cases e;rfl
 |byt b=>obtain ⟨t,e⟩:=(show ∃ t,u=Value.bytes b t from r);cases e;rfl
 |flt b=>obtain ⟨t,e⟩:=(show ∃ t,u=Value.float b t from r);cases e;rfl
 |ref a=>cases (show u=Value.ref a from r);rfl
 |ty n=>cases (show u=Value.type n from r);rfl
section
variable {P:Program}{w:World}{H H':Hp}{h h':Heap}{a C dx:Addr}{fs fs':List (Str×V)}
theorem jv (hok:HOk P w H h) (e:H a=some (.ins C dx fs)):∃ mA,ObjM h a dx C mA/\(∀ f,bJ (fs.lookup f) (mA f))/\PySem.Within mA (fs.map (·.1))/\fs.length<=1000/\H dx=some (.own a):=by
 obtain ⟨d,z,ne,ob,mA,n,r,q⟩:=(show aV P w H h a (.ins C dx fs) from hok a _ e)
 exact ⟨mA,⟨ob,n,ne⟩,r,q,z,d⟩
end
structure Cls (K:PySem.W.Frag) (C:Addr):Prop where
 pg:PySem.W.plainGet K C Str.empty=true
 hd:PySem.W.hasDictIn K C=true
 po:PySem.W.plainOver K C=true
 sa:PySem.W.findIn K (.ref C) "__setattr__"=some (some (.builtin "object.__setattr__"))
theorem Cls.get {K:PySem.W.Frag}{C:Addr}(c:Cls K C) (f:Str):PySem.W.plainGet K C f=true:=c.pg
def bo (K:PySem.W.Frag) (C:Addr) (f:Str):Prop:=PySem.W.findIn K (.ref C) f=some none
theorem bo.taker {K:PySem.W.Frag}{C:Addr}{f:Str}(n:bo K C f):PySem.W.takerIn K C f=some none:=by
 unfold PySem.W.takerIn
 rw [show PySem.W.findIn K (.ref C) f=some none from n]
 rfl
structure Con (K:PySem.W.Frag) (C:Addr) (f:Str) (v:V) (u:Value):Prop where
 at_:PySem.W.findIn K (.ref C) f=some (some u)
 rel:ao v u
 get:PySem.W.specialIn K u "__get__"=some none
 cp:PySem.W.copiedNames.contains f=false
structure Meth (K:PySem.W.Frag) (C:Addr) (m:Str) (f:Addr):Prop where
 at_:PySem.W.findIn K (.ref C) m=some (some (.ref f))
 fn:PySem.W.isFn K (.ref f)=true
 kp:PySem.W.keepIn K (.ref f)=true
section
variable {X:Cx}{pins:List (Addr×Obj)}{σ:St}{H:Hp}{s:Shared}{a C dx:Addr}{fs:List (Str×V)}{f:Str}{v:V}{A:Around}{E:Value->Shared->Prop}
theorem pA {b:Bool}{Q:Value->Shared->Prop}(I:Inv X pins σ H s) (e:H a=some (.ins C dx fs)) (c:Cls X.K C) (n:bo X.K C f) (l:fs.lookup f=some v)
  (h:∀ u s',Inv X pins σ H s'->ao v u->Q u s'):wpAny (model X.prog X.w) A (getAttr (.ref a) f b) Q E s:=by
 obtain ⟨mA,O,r,_,_,_⟩:=jv I.hok e
 obtain ⟨u,hu,ru⟩:=bJ.some_of (v:=v) (o:=mA f) (by rw [<- l];exact r f)
 exact zF I.kIn O (c.get f) c.hd n hu (xa ru) (h u _ (I.tok _) ru)
theorem kS {m:Str}{g:Addr}{pl:Sem Bool}{Q:Value×List Value->Shared->Prop}(I:Inv X pins σ H s) (e:H a=some (.ins C dx fs)) (c:Cls X.K C) (k:Meth X.K C m g) (l:fs.lookup m=none)
  (h:Q (.ref g,[.ref a]) s):wpAny (model X.prog X.w) A (getMethod (.ref a) m pl) Q E s:=by
 obtain ⟨mA,O,r,_,_,_⟩:=jv I.hok e
 have hn:mA m=none:=bJ.none_of (by rw [<- l];exact r m)
 exact xZ I.kIn O (c.get m) k.at_ k.fn hn h
theorem pB {y:V}{u:Value}{Q:Unit->Shared->Prop}(I:Inv X pins σ H s) (e:H a=some (.ins C dx fs)) (c:Cls X.K C) (n:bo X.K C f) (hl:fs.length<1000) (ry:ao y u)
  (h:∀ s',Inv X pins σ (upd H a (.ins C dx (bq f y fs))) s'->Q () s'):wpAny (model X.prog X.w) A (setAttr (.ref a) f u) Q E s:=by
 obtain ⟨mA,O,r,wi,_,ho⟩:=jv I.hok e
 have hz:(fs.map (·.1)).length<=sizeLine:=by rw [List.length_map,sizeLine_eq];omega
 refine zG I.kIn O c.sa c.po n.taker c.hd wi hz λh' O' sb=>h _ ?_
 have hd:∃ o,h'.get? dx=some o:=let ⟨o,_,_,e',_⟩:=O'.ns;⟨o,e'⟩
 refine I.write (x:=a) (e:=dx) (by rw [e];exact True.intro) (.inr ho) (λb q hb z=>(sb.2 b hb).trans z) hd ?_
 refine ⟨by rw [av O.ne];exact ho,?_,O.ne,O'.obj,_,O'.ns,λg=>?_,λg hg=>?_⟩
 ·have:=o9 f y fs;omega
 ·show bJ ((bq f y fs).lookup g) (if g=f then some u else mA g)
  rw [o8]
  by_cases q:g=f
  ·rw [if_pos q,if_pos q];exact ry
  ·rw [if_neg q,if_neg q];exact r g
 ·by_cases q:g=f
  ·rw [q];exact (kY f y fs).1
  ·refine (kY f y fs).2 g (wi g λz=>hg ?_)
   show (if g=f then some u else mA g)=none
   rw [if_neg q];exact z
theorem Inv.made (I:Inv X pins σ H s):Inv X pins σ (upd (upd H s.heap.objs.size (.own (s.heap.objs.size+1))) (s.heap.objs.size+1) (.ins C s.heap.objs.size []))
  { s with heap:=(s.heap.push PySem.W.emptyDict).push (PySem.W.instObj C s.heap.objs.size) }:=by
 have e1:(s.heap.push PySem.W.emptyDict).get? s.heap.objs.size=some PySem.W.emptyDict:=Heap.get?_push_size s.heap rfl
 have e2:((s.heap.push PySem.W.emptyDict).push (PySem.W.instObj C s.heap.objs.size)).get? (s.heap.objs.size+1)=some (PySem.W.instObj C s.heap.objs.size):=by
  have:=Heap.get?_push_size (s.heap.push PySem.W.emptyDict) (o:=PySem.W.instObj C s.heap.objs.size) rfl
  rwa [Heap.size_push] at this
 have e3:(s.heap.push PySem.W.emptyDict).Ns s.heap.objs.size (λ_=>none):=⟨PySem.W.emptyDict,#[],_,e1,rfl,(λe he=>absurd he (by simp)),λ_=>rfl⟩
 have I1:=I.laid (a:=s.heap.objs.size) (o:=.own (s.heap.objs.size+1)) (h':=s.heap.push PySem.W.emptyDict) (t':=s.toks) (λb u q=>Heap.get?_push_of_some _ q) (Nat.le_refl _) ⟨_,e1⟩
 refine I1.laid (a:=s.heap.objs.size+1) (o:=.ins C s.heap.objs.size []) (t':=s.toks) (λb u q=>Heap.get?_push_of_some _ q) (Nat.le_of_eq (Heap.size_push _ _)) ?_
 have ne:s.heap.objs.size≠s.heap.objs.size+1:=Nat.ne_of_lt (Nat.lt_succ_self _)
 refine ⟨by rw [av ne,aF],Nat.zero_le _,ne,e2,λ_=>none,(Heap.Ns1.of_empty e3).at λo q=>Heap.get?_push_of_some _ q,λ_=>True.intro,λy hy=>absurd rfl hy⟩
theorem zH {prog:Program}{w:World}{env:Env}{e:Expr}{f:Str}{pos:Pos}{s:Shared}{Q:Value->Shared->Prop}(hb:attributeBase e f env (eval e env)=eval e env)
  (h:wpAny (model prog w) A (eval e env) (λo s₁=>wpAny (model prog w) A (getAttr o f true) Q E s₁) E s):wpAny (model prog w) A (eval (.Attribute e f pos) env) Q E s :=
 Attribute_any_ h (by rw [arm_eval_Attribute,hb])
end
def Go (K:PySem.W.Frag) (ta:TE) (f:Str):TE:=λσ H Q=>ta σ H λx H1=>∃ a C dx fs v,x=.ref a/\H1 a=some (.ins C dx fs)/\Cls K C/\bo K C f/\fs.lookup f=some v/\Q v H1
def Gq (K:PySem.W.Frag) (ta tv:TE) (f:Str):TS:=λD σ H=>tv σ H λy H1=>ta σ H1 λx H2=>∃ a C dx fs,x=.ref a/\H2 a=some (.ins C dx fs)/\Cls K C/\bo K C f/\fs.length<1000 /\
 D.nx σ (upd H2 a (.ins C dx (bq f y fs)))
def vg (X:Cx) (op:Operator) (rd:V->V->Hp->VK->Prop):Prop :=
 ∀ (pins:List (Addr×Obj)) (s:Shared) (σ:St) (H:Hp) (x y:V) (u v:Value) (Q:VK),Inv X pins σ H s->ao x u->ao y v->rd x y H Q->wpAny (model X.prog X.w) X.A (inplaceOp op u v) (EP X pins σ Q) X.xe s
def zI (K:PySem.W.Frag) (ta tv:TE) (rd:V->V->Hp->VK->Prop) (f:Str):TS:=λD σ H=>ta σ H λx H1=>∃ a C dx fs v,x=.ref a/\H1 a=some (.ins C dx fs)/\Cls K C/\bo K C f/\fs.lookup f=some v /\
 tv σ H1 λy H2=>rd v y H2 λz H3=>∃ dx' fs',H3 a=some (.ins C dx' fs')/\fs'.length<1000/\D.nx σ (upd H3 a (.ins C dx' (bq f z fs')))
section
variable {X:Cx}{o e value:Expr}{f:Str}{pos pos' tpos:Pos}{ta tv:TE}
theorem B6 (he:PE X e ta) (hb:attributeBase e f X.env (eval e X.env)=eval e X.env):PE X (.Attribute e f pos) (Go X.K ta f):=by
 intro pins s σ H Q I h
 refine zH hb (thn (he pins s σ H _ I h) λu s1 zz23=>?_)
 obtain ⟨x,H1,I1,rx,a,C,dx,fs,v,ex,ea,c,n,l,q⟩:=zz23
 subst ex
 obtain rfl:u=Value.ref a:=rx
 exact pA I1 ea c n l λu' s2 I2 ru=>⟨v,H1,I2,ru,q⟩
theorem B7 (ha:PE X o ta) (hv:PE X value tv) (hs:swapsWith value (some (.Attribute o f pos')) pos.line X.env=pure false):PS X (.Assign [.Attribute o f pos'] value pos) (Gq X.K ta tv f):=by
 intro pins s σ H D I h
 refine plainObj_wpAny_Assign_Attribute (thn (hv pins s σ H _ I h) λu s1 ⟨y,H1,I1,ry,q⟩=>thn (ha pins s1 σ H1 _ I1 q) λov s2 ⟨x,H2,I2,rx,a,C,dx,fs,ex,ea,c,n,l,q2⟩=>?_) hs
 subst ex
 obtain rfl:ov=Value.ref a:=rx
 exact pB I2 ea c n l ry λs3 I3=>⟨σ,_,I3,q2⟩
theorem xb {op:Operator}{rd:V->V->Hp->VK->Prop}(ha:PE X o ta) (hv:PE X value tv) (hop:vg X op rd):PS X (.AugAssign (.Attribute o f tpos) op value pos) (zI X.K ta tv rd f):=by
 intro pins s σ H D I h
 refine wpAny_AugAssign_AttributeAny (thn (ha pins s σ H _ I h) λov s1 zz24=>?_)
 obtain ⟨x,H1,I1,rx,a,C,dx,fs,v,ex,ea,c,n,l,q⟩:=zz24
 subst ex
 obtain rfl:ov=Value.ref a:=rx
 refine pA I1 ea c n l λu s2 I2 ru=>thn (hv pins s2 σ H1 _ I2 q) λw3 s3 zz25=>?_
 obtain ⟨y,H2,I3,ry,q3⟩:=zz25
 refine thn (hop pins s3 σ H2 v y u w3 _ I3 ru ry q3) λw4 s4 zz26=>?_
 obtain ⟨z,H3,I4,rz,dx',fs',ea',l',q4⟩:=zz26
 exact pB I4 ea' c n l' rz λs5 I5=>⟨σ,_,I5,q4⟩
def Gs:V->V->Hp->VK->Prop:=λx y H Q=>∃ i j,x=.int i/\y=.int j/\Q (.int (i+j)) H
theorem B8:vg X .Add Gs:=by
 rintro pins s σ H x y u v Q I rx ry ⟨i,j,rfl,rfl,q⟩
 obtain ⟨t,rfl⟩:=(show ∃ t,u=Value.int i t from rx)
 obtain ⟨t',rfl⟩:=(show ∃ t',v=Value.int j t' from ry)
 exact PyProof.Rows.iadd_int ⟨.int (i+j),H,I.tok _,⟨_,rfl⟩,q⟩
end
section
variable {X:Cx}{pins:List (Addr×Obj)}{σ:St}{H:Hp}{s:Shared}{A:Around}{E:Value->Shared->Prop}{Q:Value->Shared->Prop}{c:Value}{b:Bool}
inductive TyOf (K:PySem.W.Frag) (H:Hp):V->Value->Prop where
 |non:TyOf K H .non (.type "NoneType")
 |bl (x:Bool):TyOf K H (.bl x) (.type "bool")
 |int (i:Int):TyOf K H (.int i) (.type "int")
 |str (x:Str):TyOf K H (.str x) (.type "str")
 |flt (x:UInt64):TyOf K H (.flt x) (.type "float")
 |lst {a:Addr}{xs:List V}(e:H a=some (.lst xs)):TyOf K H (.ref a) (.type "list")
 |frz {a:Addr}{o:Obj}{xs:List V}(e:H a=some (.frz o (.lst xs))):TyOf K H (.ref a) (.type "list")
 |tup {a:Addr}{xs:List V}(e:H a=some (.tup xs)):TyOf K H (.ref a) (.type "tuple")
 |dK {a:Addr}{kvs:List (Key×V)}(e:H a=some (.dK kvs)):TyOf K H (.ref a) (.type "dict")
 |dT {a:Addr}{kvs:List (List Key×V)}(e:H a=some (.dT kvs)):TyOf K H (.ref a) (.type "dict")
 |ins {a C dx:Addr}{fs:List (Str×V)}(e:H a=some (.ins C dx fs)) (cl:Cls K C) (ha:PySem.W.findIn K (.ref C) "__class__"=some (some (.builtin "object.__class__")))
   (hn:PySem.W.specialIn K (.builtin "object.__class__") "__get__"=some (some (.builtin "getset_descriptor.__get__"))) (htk:PySem.W.takesIn K (.builtin "object.__class__")=some true)
   (hm:PySem.W.mroIn K C (.type "object")=some true):TyOf K H (.ref a) (.ref C)
theorem xc {x:V}{u t:Value}(I:Inv X pins σ H s) (rx:ao x u) (ty:TyOf X.K H x t) (e:PySem.W.kitOne X.K t c=some b) (h:∀ tk,Q (.bool b) { s with toks:=tk }) :
  wpAny (model X.prog X.w) A (call (.builtin "isinstance") [u,c]) Q E s:=by
 cases ty with
 |non=>cases (show u=Value.none from rx);exact PySem.W.kia_one PySem.W.kitx_none I.kIn True.intro e (λz=>nomatch z) h
 |bl y=>cases (show u=Value.bool y from rx);exact PySem.W.kia_one PySem.W.kitx_bool I.kIn True.intro e (λz=>nomatch z) h
 |int i=>obtain ⟨t,q⟩:=(show ∃ t,u=Value.int i t from rx);cases q;exact PySem.W.kia_one PySem.W.kitx_int I.kIn True.intro e (λz=>nomatch z) h
 |str y=>obtain ⟨t,q⟩:=(show ∃ t,u=Value.str y t from rx);cases q;exact PySem.W.kia_one PySem.W.kitx_str I.kIn True.intro e (λz=>nomatch z) h
 |flt y=>obtain ⟨t,q⟩:=(show ∃ t,u=Value.float y t from rx);cases q;exact PySem.W.kia_one PySem.W.kitx_float I.kIn True.intro e (λz=>nomatch z) h
 |@lst a xs ea =>
  cases (show u=Value.ref a from rx)
  obtain ⟨_,_,n,_,h1⟩:=(show aV X.prog X.w H s.heap a (.lst xs) from I.hok a _ ea)
  exact PySem.W.kia_one PySem.W.kitx_list I.kIn ⟨_,h1,rfl⟩ e (λz=>nomatch z) h
 |@frz a ob xs ea =>
  cases (show u=Value.ref a from rx)
  obtain ⟨_,_,_,n,_,h1⟩:=(show aV X.prog X.w H s.heap a (.frz ob (.lst xs)) from I.hok a _ ea)
  exact PySem.W.kia_one PySem.W.kitx_list I.kIn ⟨_,h1,rfl⟩ e (λz=>nomatch z) h
 |@tup a xs ea =>
  cases (show u=Value.ref a from rx)
  obtain ⟨_,_,_,p⟩:=(show aV X.prog X.w H s.heap a (.tup xs) from I.hok a _ ea)
  obtain ⟨o,h1,h2,_⟩:=p
  exact PySem.W.kia_one PySem.W.kitx_tuple I.kIn ⟨o,h1,h2⟩ e (λz=>nomatch z) h
 |@dK a kvs ea =>
  cases (show u=Value.ref a from rx)
  obtain ⟨_,_,vs,_,p⟩:=(show aV X.prog X.w H s.heap a (.dK kvs) from I.hok a _ ea)
  obtain ⟨o,es,ep,h1,h2,_⟩:=p
  exact PySem.W.kia_one PySem.W.kitx_dict I.kIn ⟨o,h1,h2.1⟩ e (λz=>nomatch z) h
 |@dT a kvs ea =>
  cases (show u=Value.ref a from rx)
  obtain ⟨_,_,xs,_,o,es,ep,h1,h2,_⟩:=(show aV X.prog X.w H s.heap a (.dT kvs) from I.hok a _ ea)
  exact PySem.W.kia_one PySem.W.kitx_dict I.kIn ⟨o,h1,h2.1⟩ e (λz=>nomatch z) h
 |@ins a C dx fs ea cl ha hn htk hm =>
  cases (show u=Value.ref a from rx)
  obtain ⟨mA,O,_⟩:=jv I.hok ea
  obtain ⟨od,J,_⟩:=O.look
  exact PySem.W.kia_one (PySem.W.kitx_own (cl.get _) cl.hd ha hn htk hm) I.kIn J e (λz=>nomatch z) h
end
structure Room (k:Nat) (A:Around):Prop where
 hd:A.handled=none
 dp:A.depth+3 * k+5<recursionLimit
 un:A.units+16 * k+200<cLine
 gd:A.guards=some []
theorem Room.mono {j k:Nat}{A:Around}(r:Room k A) (h:j<=k):Room j A:=⟨r.hd,by have:=r.dp;omega,by have:=r.un;omega,r.gd⟩
theorem Room.m {j k:Nat} {A:Around} (r:Room k A) (h:j<=k:=by decide):Room j A:=r.mono h
theorem Room.deeper {k:Nat}{A:Around}(r:Room (k+1) A) (env:Env):Room k (A.deeper env) :=
 ⟨r.hd,by have:=r.dp;show A.depth+1+3 * k+5<_;omega,by have:=r.un;show A.units+3+16 * k+200<_;omega,r.gd⟩
theorem Room.in1 {k:Nat}{A:Around}(r:Room (k+1) A):Room k A.in1 :=
 ⟨r.hd,by have:=r.dp;show A.depth+3 * k+5<_;omega,by have:=r.un;show A.units+1+16 * k+200<_;omega,r.gd⟩
theorem wD {A:Around}{C:Addr}{us:List Value}{kw:List (Str×Value)}:(A.under (.builtin "type.__call__" ⟨.ref C::us,kw⟩)).depth=A.depth+1:=by
 first|rfl|simp [Around.under,Code.weight,Code.isCreation,Code.isGuard,Code.isCaller,Code.frames,Code.isFrame,guardIds]
theorem wE {A:Around}{C:Addr}{us:List Value}{kw:List (Str×Value)}:(A.under (.builtin "type.__call__" ⟨.ref C::us,kw⟩)).units=A.units+1:=by
 first|rfl|simp [Around.under,Code.cUnits,Code.frames,Code.isFrame]
theorem wq {A:Around}{C:Addr}{us:List Value}{kw:List (Str×Value)}:(A.under (.builtin "type.__call__" ⟨.ref C::us,kw⟩)).guards=A.guards:=by
 first|rfl|simp [Around.under,Code.isGuard,guardIds]
theorem Room.make {k:Nat}{A:Around}(r:Room (k+1) A) (C:Addr) (us:List Value) (kw:List (Str×Value)):Room k (A.under (.builtin "type.__call__" ⟨.ref C::us,kw⟩)) :=
 ⟨r.hd,by have:=r.dp;rw [wD];omega,by have:=r.un;rw [wE];omega,by rw [wq];exact r.gd⟩
theorem Room.depth {k:Nat}{A:Around}(r:Room k A):A.depth<recursionLimit:=by have:=r.dp;omega
theorem Room.units {k:Nat}{A:Around}(r:Room k A):A.units+64<cLine:=by have:=r.un;omega
def db:TA:=λ_ H Q=>Q [] H
def nt (ta:TE) (tr:TA):TA:=λσ H Q=>ta σ H λx H1=>tr σ H1 λxs H2=>Q (x::xs) H2
section
variable {X:Cx}{e:Expr}{es:List Expr}{te:TE}{t:TA}{pos:Pos}
theorem sM:PA X [] db:=λ_ _ _ _ H Q I h=>Calls.spliced_nil ⟨[],H,I,.nil,h⟩
theorem qN (ha:PE X e te) (hr:PA X es t) (hs:starEach (e::es) X.env=(false,eval e X.env)::starEach es X.env:=by rfl):PA X (e::es) (nt te t):=by
 intro pos pins s σ H Q I h
 rw [hs]
 show wpAny _ _ (spliced ((false,eval e X.env)::backTo pos (starEach es X.env))) _ _ s
 refine Calls.spliced_cons (thn (ha pins s σ H _ I h) λu s1 zz27=>?_)
 obtain ⟨x,H1,I1,r1,q1⟩:=zz27
 exact thn (hr pos pins s1 σ H1 _ I1 q1) λus s2 zz28=>by obtain ⟨xs,H2,I2,r2,q2⟩:=zz28;exact ⟨x::xs,H2,I2,.cons r1 r2,q2⟩
def Gu (t:TA):TE:=λσ H Q=>t σ H λxs H1=>xs.length<=sizeLine/\∀ p,H1 p=none->Q (.ref p) (upd H1 p (.tup xs))
def Gv (t:TA):TE:=λσ H Q=>t σ H λxs H1=>xs.length<=sizeLine/\∀ p,H1 p=none->Q (.ref p) (upd H1 p (.lst xs))
theorem B9 {x1}(h:PA X es t):PE X (.Tuple es x1 pos) (Gu t):=by
 intro pins s σ H Q I hq
 refine wpAny_Tuple_spliced (thn (h pos pins s σ H _ I hq) λus s1 ⟨xs,H1,I1,r,z,q⟩=>⟨by rw [<- r.length];exact z,?_⟩)
 have hf:H1 s1.heap.objs.size=none:=I1.hok.fresh (Nat.le_refl _)
 refine ⟨.ref s1.heap.objs.size,upd H1 s1.heap.objs.size (.tup xs),I1.laid (t':=s1.toks) (λb u e=>Heap.get?_push_of_some _ e) (Nat.le_refl _) ?_,rfl,q _ hf⟩
 exact ⟨z,us,r,⟨_,Heap.get?_push_size _ rfl,rfl,_,rfl⟩⟩
theorem sN (h:PA X es t):PE X (.List es pos) (Gv t):=by
 intro pins s σ H Q I hq
 refine wpAny_List_spliced (thn (h pos pins s σ H _ I hq) λus s1 ⟨xs,H1,I1,r,z,q⟩=>⟨by rw [<- r.length];exact z,?_⟩)
 have hf:H1 s1.heap.objs.size=none:=I1.hok.fresh (Nat.le_refl _)
 refine ⟨.ref s1.heap.objs.size,upd H1 s1.heap.objs.size (.lst xs),I1.laid (t':=s1.toks) (λb u e=>Heap.get?_push_of_some _ e) (Nat.le_refl _) ?_,rfl,q _ hf⟩
 exact ⟨z,us,0,r,Heap.get?_push_size _ rfl⟩
end
abbrev Sp:=List V->Hp->VK->XK->Prop
abbrev CXT:=List Env->Hp->Shared->XK->Value->Shared->Prop
structure Env0 (P:Program) (w:World) (K:PySem.W.Frag) (mg:Str->Option Value) (base:Heap) (A:Around) (outer:List Env) (s:Shared) (H:Hp):Prop where
 frames:A.frames=some outer
 mod:Mod K mg base
 bs:∀ b o,base.get? b=some o->s.heap.get? b=some o/\H b=none
 bsz:base.objs.size<=s.heap.objs.size
 funs:s.heap.FunFrames base outer
 frf:∀ b∈frs outer,H b=none
 hok:HOk P w H s.heap
 bare:AllBare s.gens
def CE (outer:List Env) (P:Program) (w:World) (H:Hp) (s:Shared) (Q:VK) (u:Value) (s':Shared):Prop :=
 ∃ v H',s'.os=s.os/\AllBare s'.gens/\Un (frs outer) [] H H' s.heap s'.heap/\HOk P w H' s'.heap/\ao v u/\Q v H'
def CR (CX:CXT) (outer:List Env) (P:Program) (w:World) (H:Hp) (s:Shared) (Q:VK) (E:XK) (r:Result) (s':Shared):Prop :=
 match r with
 |.ok (.ret u)=>CE outer P w H s Q u s'
 |.ok _=>False
 |.error e=>CX outer H s E e s'
structure FnOk (P:Program) (w:World) (K:PySem.W.Frag) (mg:Str->Option Value) (base:Heap) (CX:CXT) (k:Nat) (f:Addr) (fd:FuncData) (ps:List Str) (sp:Sp):Prop where
 len:∀ vs H Q E,sp vs H Q E->vs.length=ps.length
 run:∀ (A:Around) (outer:List Env) (s:Shared) (H:Hp) (args:Args) (us:List Value) (vs:List V) (Q:VK) (E:XK),Room k A->Env0 P w K mg base A outer s H->BindsTo s fd args (ps.zip us)->aj vs us->sp vs H Q E ->
  codeAny (model P w) A (.call (.ref f) args) (CR CX outer P w H s Q E) s
theorem FnOk.mono {P:Program}{w:World}{K:PySem.W.Frag}{mg:Str->Option Value}{base:Heap}{CX:CXT}{j k:Nat}{f:Addr}{fd:FuncData}{ps:List Str}{sp:Sp}(F:FnOk P w K mg base CX j f fd ps sp) (h:j<=k) :
  FnOk P w K mg base CX k f fd ps sp:=⟨F.len,λA outer s H args us vs Q E hr=>F.run A outer s H args us vs Q E (hr.mono h)⟩
theorem FnOk.imp {P:Program}{w:World}{K:PySem.W.Frag}{mg:Str->Option Value}{base:Heap}{CX:CXT}{k:Nat}{f:Addr}{fd:FuncData}{ps:List Str}{sp sp':Sp}(F:FnOk P w K mg base CX k f fd ps sp)
  (h:∀ vs H Q E,sp' vs H Q E->sp vs H Q E):FnOk P w K mg base CX k f fd ps sp' :=
 ⟨λvs H Q E q=>F.len vs H Q E (h _ _ _ _ q),λA outer s H args us vs Q E hr he hb hv hs=>F.run A outer s H args us vs Q E hr he hb hv (h _ _ _ _ hs)⟩
theorem Env0.make {P:Program}{w:World}{K:PySem.W.Frag}{mg:Str->Option Value}{base:Heap}{A:Around}{outer:List Env}{s:Shared}{H:Hp}(e:Env0 P w K mg base A outer s H) (C:Addr) (us:List Value) (kw:List (Str×Value)) :
  Env0 P w K mg base (A.under (.builtin "type.__call__" ⟨.ref C::us,kw⟩)) outer s H:=⟨by first|exact e.frames|(simpa [Around.under,Code.envs,Code.isFrame,pushEnvs] using e.frames),e.mod,e.bs,e.bsz,e.funs,e.frf,e.hok,e.bare⟩
theorem Env0.in1 {P:Program}{w:World}{K:PySem.W.Frag}{mg:Str->Option Value}{base:Heap}{A:Around}{outer:List Env}{s:Shared}{H:Hp}(e:Env0 P w K mg base A outer s H) :
  Env0 P w K mg base A.in1 outer s H:=⟨e.frames,e.mod,e.bs,e.bsz,e.funs,e.frf,e.hok,e.bare⟩
section
variable {X:Cx}{pins:List (Addr×Obj)}{σ:St}{H:Hp}{s s':Shared}
theorem Inv.env0 (I:Inv X pins σ H s):Env0 X.prog X.w X.K X.mg X.base X.A X.stack s H :=
 ⟨I.ok.frames,I.ok.mod,I.bs,Nat.le_trans I.ok.bsz I.sz,I.stack,I.stkFree,I.hok,I.bare⟩
theorem Inv.after {Q:VK}{u:Value}(I:Inv X pins σ H s) (h:CE X.stack X.prog X.w H s Q u s'):EP X pins σ Q u s':=by
 obtain ⟨v,H',os,bare,un,hok,r,q⟩:=h
 obtain ⟨hh,g,d,t,os'⟩:=s'
 obtain rfl:os'=s.os:=os
 exact ⟨v,H',I.call (h':=hh) (g':=g) (d':=d) (t':=t) (ch:=[]) un hok bare (λb z=>absurd z (by simp)),r,q⟩
end
def gJ (sp:Sp) (dvs:List V) (E:XK) (t:TA):TE:=λσ H Q=>t σ H λvs H1=>sp (vs++dvs) H1 Q E
def j5 (C:Addr) (sp:Sp) (dvs:List V) (E:XK) (t:TA):TE:=λσ H Q=>t σ H λvs H1=>∀ x dx,H1 x=none->H1 dx=none->dx≠x ->
 sp (.ref x::(vs++dvs)) (upd (upd H1 dx (.own x)) x (.ins C dx [])) (λv H2=>v=.non/\Q (.ref x) H2) E
def aq (K:PySem.W.Frag) (fd:FuncData) (ps:List Str) (ds:List Value):Prop :=
 ∀ (s:Shared) (us:List Value),K.In s.heap->(us++ds).length=ps.length->BindsTo s fd ⟨us,[]⟩ (ps.zip (us++ds))
theorem aq.all {K:PySem.W.Frag}{fd:FuncData}{ps:List Str}(h:∀ us:List Value,us.length=ps.length->bindArgs fd ⟨us,[]⟩=pure (ps.zip us)):aq K fd ps []:=λs us _ hl=>by
 rw [List.append_nil] at hl ⊢
 exact .of_eq (h us hl)
def cC (CX:CXT) (X:Cx) (E:XK):Prop:=∀ (pins:List (Addr×Obj)) (σ:St) (H:Hp) (s:Shared) (e:Value) (s':Shared),Inv X pins σ H s->CX X.stack H s E e s'->X.xe e s'
section
variable {X:Cx}{CX:CXT}{k:Nat}{f C:Addr}{fd:FuncData}{ps:List Str}{sp:Sp}{dvs:List V}{ds:List Value}{E:XK}{x m:Str}{p pos apos:Pos}{e o:Expr}{es:List Expr}{ta:TE}{t:TA}
theorem jO {pins:List (Addr×Obj)}{σ:St}{H:Hp}{s:Shared}{Q:VK}{us:List Value}{vs:List V}(F:FnOk X.prog X.w X.K X.mg X.base CX k f fd ps sp) (hr:Room k X.A) (hb:aq X.K fd ps ds) (hd:aj dvs ds) (hx:cC CX X E)
  (I:Inv X pins σ H s) (r:aj vs us) (h:sp (vs++dvs) H Q E):wpAny (model X.prog X.w) X.A (call (.ref f) us) (EP X pins σ Q) X.xe s:=by
 have r2:aj (vs++dvs) (us++ds):=r.append hd
 have hl:(us++ds).length=ps.length:=by rw [<- r2.length];exact F.len _ _ _ _ h
 refine wpAny_call (codeAny_mono (F.run X.A X.stack s H ⟨us,[]⟩ (us++ds) (vs++dvs) Q E hr I.env0 (hb s us I.kIn hl) r2 h) λr s' hq=>?_)
 cases r with
 |error e=>exact hx pins σ H s e s' I hq
 |ok fl =>
  cases fl with
  |ret u=>exact I.after hq
  |next=>exact False.elim hq
  |brk=>exact False.elim hq
  |cont=>exact False.elim hq
theorem zJ (F:FnOk X.prog X.w X.K X.mg X.base CX k f fd ps sp) (hr:Room k X.A) (hg:Gl X x) (hm:X.mg x=some (.ref f)) (hk:PySem.W.keepIn X.K (.ref f)=true) (hb:aq X.K fd ps ds) (hd:aj dvs ds) (hx:cC CX X E)
  (ha:PA X (e::es) t) (hdb:(x==("__debug__":Str))=false:=by decide) (he:starEach (e::es) X.env=(false,eval e X.env)::starEach es X.env:=by rfl) (hpl:(backTo pos (starEach es X.env)).any (·.1)=false:=by rfl) :
  PE X (.Call (.Name x p) (e::es) [] pos) (gJ sp dvs E t):=by
 intro pins s σ H Q I h
 refine wpAny_Call_Name_kw (cV I hg hm ?_ hdb)
 refine PySem.W.callWith_K (h₀:=X.base) I.ok.mod.kin hk (thn (ha pos pins s σ H _ I h) λus s1 ⟨vs,H1,I1,r,q⟩=>⟨I1.kIn,?_⟩) he hpl
 exact jO F hr hb hd hx I1 r q
theorem x9 (F:FnOk X.prog X.w X.K X.mg X.base CX k f fd ps sp) (hr:Room k X.A) (hg:Gl X x) (hm:X.mg x=some (.ref f)) (hk:PySem.W.keepIn X.K (.ref f)=true) (hb:aq X.K fd ps ds) (hd:aj dvs ds) (hx:cC CX X E)
  (hdb:(x==("__debug__":Str))=false:=by decide):PE X (.Call (.Name x p) [] [] pos) (gJ sp dvs E db):=by
 intro pins s σ H Q I h
 refine wpAny_Call_Name_kw (cV I hg hm ?_ hdb)
 exact PySem.W.callWith_K0 I.kIn hk (jO (us:=[]) F hr hb hd hx I .nil h)
structure Mk (K:PySem.W.Frag) (C f:Addr):Prop where
 makes:PySem.W.makesIn K C=true
 init:PySem.W.findIn K (.ref C) "__init__"=some (some (.ref f))
 fn:PySem.W.isFn K (.ref f)=true
 kp:PySem.W.keepIn K (.ref C)=true
theorem qj {pins:List (Addr×Obj)}{σ:St}{H:Hp}{s:Shared}{Q:VK}{us:List Value}{vs:List V}(M:Mk X.K C f) (F:FnOk X.prog X.w X.K X.mg X.base CX k f fd ps sp) (hr:Room (k+1) X.A) (hb:aq X.K fd ps ds) (hd:aj dvs ds)
  (hx:cC CX X E) (I:Inv X pins σ H s) (r:aj vs us)
  (h:∀ x dx,H x=none->H dx=none->dx≠x->sp (.ref x::(vs++dvs)) (upd (upd H dx (.own x)) x (.ins C dx [])) (λv H2=>v=.non/\Q (.ref x) H2) E) :
  wpAny (model X.prog X.w) X.A (call (.ref C) us) (EP X pins σ Q) X.xe s:=by
 have hq:=h (s.heap.objs.size+1) s.heap.objs.size (I.hok.fresh (Nat.le_succ _)) (I.hok.fresh (Nat.le_refl _)) (Nat.ne_of_lt (Nat.lt_succ_self _))
 have I2:=Inv.made (C:=C) I
 have r2:aj (V.ref (s.heap.objs.size+1)::(vs++dvs)) (Value.ref (s.heap.objs.size+1)::(us++ds)):=.cons rfl (r.append hd)
 have hl:(Value.ref (s.heap.objs.size+1)::us++ds).length=ps.length:=by
  have e:=r2.length
  rw [F.len _ _ _ _ hq] at e
  exact e.symm
 refine wpAny_call (x8 (f:=f) I.kIn M.makes M.init (beq_iff_eq.mp M.fn) (codeAny_mono (F.run _ X.stack _ _ ⟨Value.ref (s.heap.objs.size+1)::us,[]⟩ (Value.ref (s.heap.objs.size+1)::(us++ds)) _ _ E (hr.make C us [])
  (I2.env0.make C us []) (hb _ (Value.ref (s.heap.objs.size+1)::us) I2.kIn hl) r2 hq) λr s' hq'=>?_))
 cases r with
 |error e=>exact hx pins σ _ _ e s' I2 hq'
 |ok fl =>
  cases fl with
  |ret u =>
   obtain ⟨v,H',I3,rv,ev,q3⟩:=I2.after hq'
   subst ev
   exact ⟨rv,⟨V.ref (s.heap.objs.size+1),H',I3,rfl,q3⟩⟩
  |next=>exact False.elim hq'
  |brk=>exact False.elim hq'
  |cont=>exact False.elim hq'
theorem zK (M:Mk X.K C f) (F:FnOk X.prog X.w X.K X.mg X.base CX k f fd ps sp) (hr:Room (k+1) X.A) (hg:Gl X x) (hm:X.mg x=some (.ref C)) (hb:aq X.K fd ps ds) (hd:aj dvs ds) (hx:cC CX X E)
  (ha:PA X (e::es) t) (hdb:(x==("__debug__":Str))=false:=by decide) (he:starEach (e::es) X.env=(false,eval e X.env)::starEach es X.env:=by rfl) (hpl:(backTo pos (starEach es X.env)).any (·.1)=false:=by rfl) :
  PE X (.Call (.Name x p) (e::es) [] pos) (j5 C sp dvs E t):=by
 intro pins s σ H Q I h
 refine wpAny_Call_Name_kw (cV I hg hm ?_ hdb)
 refine PySem.W.callWith_K (h₀:=X.base) I.ok.mod.kin M.kp (thn (ha pos pins s σ H _ I h) λus s1 ⟨vs,H1,I1,r,q⟩=>⟨I1.kIn,?_⟩) he hpl
 exact qj M F hr hb hd hx I1 r q
theorem ya (M:Mk X.K C f) (F:FnOk X.prog X.w X.K X.mg X.base CX k f fd ps sp) (hr:Room (k+1) X.A) (hg:Gl X x) (hm:X.mg x=some (.ref C)) (hb:aq X.K fd ps ds) (hd:aj dvs ds) (hx:cC CX X E)
  (hdb:(x==("__debug__":Str))=false:=by decide):PE X (.Call (.Name x p) [] [] pos) (j5 C sp dvs E db):=by
 intro pins s σ H Q I h
 refine wpAny_Call_Name_kw (cV I hg hm ?_ hdb)
 exact PySem.W.callWith_K0 I.kIn M.kp (qj (us:=[]) M F hr hb hd hx I .nil h)
end
def PK (X:Cx) (kws:List Keyword) (t:TA):Prop :=
 ∀ (pos:Pos) (pins:List (Addr×Obj)) (s:Shared) (σ:St) (H:Hp) (Q:List V->Hp->Prop),Inv X pins σ H s->t σ H Q->wpAny (model X.prog X.w) X.A (evalAll ((backToKw pos (keywordEach kws X.env)).map (·.2))) (AP X pins σ Q) X.xe s
section
variable {X:Cx}{CX:CXT}{k:Nat}{f C:Addr}{fd:FuncData}{ps ks:List Str}{sp:Sp}{E:XK}{x m:Str}{p pos apos kpos:Pos}{e o:Expr}{es:List Expr}{kws:List Keyword}{te ta:TE}{t tk:TA}{nm:Option Str}
theorem B':PK X [] db:=λ_ _ _ _ H Q I h=>wpAny_evalAll_nil ⟨[],H,I,.nil,h⟩
theorem zL (ha:PE X e te) (hr:PK X kws t):PK X (⟨nm,e,kpos⟩::kws) (nt te t):=by
 intro pos pins s σ H Q I h
 show wpAny _ _ (evalAll ((do let v <- eval e X.env;standAt pos;pure v)::(backToKw pos (keywordEach kws X.env)).map (·.2))) _ _ s
 refine wpAny_evalAll_cons (wpAny_bind (thn (ha pins s σ H _ I h) λu s1 zz29=>?_))
 obtain ⟨x,H1,I1,r1,q1⟩:=zz29
 refine wpAny_bind (wpAny_standAt (wpAny_pure ?_))
 exact thn (hr pos pins s1 σ H1 _ I1 q1) λus s2 zz30=>by obtain ⟨xs,H2,I2,r2,q2⟩:=zz30;exact ⟨x::xs,H2,I2,.cons r1 r2,q2⟩
structure KBinds (K:PySem.W.Frag) (fd:FuncData) (ps ks:List Str) (g:List Value->List Value->List Value) (gV:List V->List V->List V):Prop where
 to:∀ (s:Shared) (us ws:List Value),K.In s.heap->(g us ws).length=ps.length->BindsTo s fd ⟨us,ks.zip ws⟩ (ps.zip (g us ws))
 rel:∀ {vs:List V}{us:List Value}{zs:List V}{ws:List Value},aj vs us->aj zs ws->aj (gV vs zs) (g us ws)
variable {g:List Value->List Value->List Value}{gV:List V->List V->List V}
end
structure FnScope (N P:List Str) (sc:Scope):Prop where
 kind:sc.kind=.function
 co:sc.isCoroutine=false
 gen:sc.isGenerator=false
 nd:N.Nodup
 pre:N.take P.length=P
 par:∀ x∈P,sc.names.lookup x=some .local\/sc.names.lookup x=some .cell
 nofree:∀ y∈sc.names,y.2≠.free
theorem pN {kindOf:Str->Option NameKind}{x:Str}:∀ {binds:List (Str×Value)}{m:Str->Option Value},(∀ v,(x,v)∉binds)->bindL kindOf binds m x=m x
 |[],_,_=>rfl
 |(n,v)::r,m,h=>by
  unfold bindL
  rw [pN λw hw=>h w (List.mem_cons_of_mem _ hw)]
  split
  ·have:x≠n:=by rintro rfl;exact h v List.mem_cons_self
   simp [this]
  ·rfl
theorem pO {kindOf:Str->Option NameKind}{x:Str}:∀ {binds:List (Str×Value)}{m:Str->Option Value},(∀ v,(x,v)∉binds)->bindC kindOf binds m x=m x
 |[],_,_=>rfl
 |(n,v)::r,m,h=>by
  unfold bindC
  rw [pO λw hw=>h w (List.mem_cons_of_mem _ hw)]
  split
  ·rfl
  ·have:x≠n:=by rintro rfl;exact h v List.mem_cons_self
   simp [this]
theorem kZ {kindOf:Str->Option NameKind}{x:Str}{v:Value}:∀ {P:List Str}{vs:List Value}{i:Nat}{m:Str->Option Value},P.Nodup->P[i]?=some x->vs[i]?=some v->kindOf x=some .local ->
  bindL kindOf (P.zip vs) m x=some v
 |[],_,_,_,_,h,_,_=>by simp at h
 |_::_,[],_,_,_,_,h,_=>by simp at h
 |p::P,w::vs,0,m,nd,h1,h2,hk=>by
  simp at h1 h2;subst h1;subst h2
  show bindL kindOf ((p,w)::P.zip vs) m p=_
  unfold bindL
  rw [pN λv hv=>(List.nodup_cons.mp nd).1 (List.of_mem_zip hv).1,if_pos hk]
  simp
 |p::P,w::vs,i+1,m,nd,h1,h2,hk=>by
  show bindL kindOf ((p,w)::P.zip vs) m x=_
  unfold bindL
  exact kZ (i:=i) (List.nodup_cons.mp nd).2 (by simpa using h1) (by simpa using h2) hk
theorem k6 {kindOf:Str->Option NameKind}{x:Str}{v:Value}:∀ {P:List Str}{vs:List Value}{i:Nat}{m:Str->Option Value},P.Nodup->P[i]?=some x->vs[i]?=some v->kindOf x≠some .local ->
  bindC kindOf (P.zip vs) m x=some v
 |[],_,_,_,_,h,_,_=>by simp at h
 |_::_,[],_,_,_,_,h,_=>by simp at h
 |p::P,w::vs,0,m,nd,h1,h2,hk=>by
  simp at h1 h2;subst h1;subst h2
  show bindC kindOf ((p,w)::P.zip vs) m p=_
  unfold bindC
  rw [pO λv hv=>(List.nodup_cons.mp nd).1 (List.of_mem_zip hv).1,if_neg hk]
  simp
 |p::P,w::vs,i+1,m,nd,h1,h2,hk=>by
  show bindC kindOf ((p,w)::P.zip vs) m x=_
  unfold bindC
  exact k6 (i:=i) (List.nodup_cons.mp nd).2 (by simpa using h1) (by simpa using h2) hk
def bd (N:List Str) (vs:List V):St:=vs.map some++List.replicate (N.length - vs.length) none
def cz (CX:CXT) (P:Program) (w:World) (K:PySem.W.Frag) (mg:Str->Option Value) (base:Heap) (N:List Str) (qual:Str) (scope:Scope) (f:Addr) (cd:Value) (A:Around) (outer:List Env) (s:Shared) (H:Hp) (E:XK):Cx where
 prog:=P
 w:=w
 K:=K
 mg:=mg
 base:=base
 A:=A.deeper (envOfC qual scope s.heap.objs.size f cd)
 N:=N
 s₀:=s
 H₀:=H
 env:=envOfC qual scope s.heap.objs.size f cd
 outer:=outer
 stack:=envOfC qual scope s.heap.objs.size f cd::outer
 ex:=[]
 calm:=true
 fn:=λ_=>true
 pn:=[]
 xe:=λe s'=>wpAny (model P w) (A.deeper (envOfC qual scope s.heap.objs.size f cd)) (leaving (envOfC qual scope s.heap.objs.size f cd) e) (λ_ s''=>CX outer H s E e s'') (λe' s''=>CX outer H s E e' s'') s'
theorem jq {sc:Scope}{n:Nat}{x:Str}(h:sc.names.lookup x=some .cell):∃ c,(cellsFrom n sc.names []).lookup x=some c:=by
 have q:=PySem.W.cellsFrom_some sc.names n [] (.inl h)
 exact Option.isSome_iff_exists.mp q
theorem xf {CX:CXT}{P:Program}{w:World}{K:PySem.W.Frag}{mg:Str->Option Value}{base:Heap}{N ps:List Str}{qual:Str}{scope:Scope}{f:Addr}{cd:Value}{A:Around}{outer:List Env}{s s1:Shared}{H:Hp}{E:XK}{us:List Value}{vs:List V}
  (S:FnScope N ps scope) (hd:A.handled=none) (e0:Env0 P w K mg base A outer s H) (hl:vs.length=ps.length) (r:aj vs us)
  (x:InCallC s s.heap.objs.size (bindL (envOfC qual scope s.heap.objs.size f cd).kindOf (ps.zip us) λ_=>none) (cellsFrom (s.heap.objs.size+1) scope.names []) (bindC (envOfC qual scope s.heap.objs.size f cd).kindOf (ps.zip us) λ_=>none) s1) :
  Inv (cz CX P w K mg base N qual scope f cd A outer s H E) [] (bd N vs) H s1:=by
 have hpl:ps.length<=N.length:=by have:=congrArg List.length S.pre;rw [List.length_take] at this;omega
 obtain ⟨h1,tk,rfl,hk⟩:=x.done
 have noA:∀ b:Addr,b∉(cz CX P w K mg base N qual scope f cd A outer s H E).ex:=λb z=>absurd (show b∈([]:List Addr) from z) (by simp)
 refine ⟨⟨e0.mod,S.kind,rfl,rfl,Nat.le_refl _,λy z c h1 h2=>?_,λy hy=>?_,λy c _ h=>?_,λ_=>hd,Around.frames_deeper e0.frames,.inr ⟨rfl,rfl⟩,λb z=>absurd z (noA b),e0.bs,e0.bsz,λb _ _=>noA b,λb z=>absurd z (noA b),e0.funs,e0.frf⟩,
  rfl,e0.bare,Un.kept hk,⟨_,x.toInCall.ns,λi y v h1 h2 h3=>?_⟩,λy c h=>⟨_,x.cell y c h⟩,e0.hok.fresh (Nat.le_refl _),λy c h=>?_,λp hp=>absurd (show p∈([]:List (Addr×Obj)) from hp) (by simp),e0.hok.kept hk,?_⟩
 ·exact name_of_addr x.apart (PySem.mem_of_lookup h1) (PySem.mem_of_lookup h2)
 ·have hy:scope.names.lookup y=some .cell\/scope.names.lookup y=some .free:=hy
  rcases hy with hy|hy
  ·exact jq hy
  ·exact absurd rfl (S.nofree _ (PySem.mem_of_lookup hy))
 ·exact Nat.le_of_lt (x.above y c (PySem.mem_of_lookup h))
 ·have hi:i<vs.length:=by
   unfold bd at h2
   by_cases hi:i<vs.length
   ·exact hi
   ·rw [List.getElem?_append_right (by simpa using hi)] at h2
    rw [List.getElem?_replicate] at h2
    split at h2<;>cases h2
  have ha:vs[i]?=some v:=by
   unfold bd at h2
   rw [List.getElem?_append_left (by simpa using hi),List.getElem?_map] at h2
   cases e:vs[i]? with
   |none=>rw [e] at h2;cases h2
   |some a=>rw [e] at h2;cases h2;rfl
  obtain ⟨u,hu,rv⟩:=r.get ha
  have hp:ps[i]?=some y:=by
   rw [<- S.pre,List.getElem?_take_of_lt (by omega)];exact h1
  have ndP:ps.Nodup:=by rw [<- S.pre];exact S.nd.sublist (List.take_sublist _ _)
  refine ⟨u,rv,?_⟩
  rcases S.par y (List.mem_of_getElem? hp) with k|k
  ·exact .inl ⟨k,kZ ndP hp hu k⟩
  ·obtain ⟨c,e⟩:=jq (n:=s.heap.objs.size+1) k
   refine .inr ⟨.inl k,c,e,?_⟩
   have q:=x.cell y c e
   rw [k6 ndP hp hu (by show scope.names.lookup y≠_;rw [k];decide)] at q
   exact q
 ·exact e0.hok.fresh (Nat.le_of_lt (x.above y c (PySem.mem_of_lookup h)))
 ·unfold bd
  show _=N.length
  rw [List.length_append,List.length_map,List.length_replicate]
  omega
theorem nu {CX:CXT}{P:Program}{w:World}{K:PySem.W.Frag}{mg:Str->Option Value}{base:Heap}{k:Nat}{f:Addr}{name qual:Str}{params:Arguments}{body:List Stmt}{scope:Scope}{dV kV doc pm cdv ct oc:Value}{an od:Option Addr}
  {osl:Array (Option Value)}{N ps:List Str}{sp:Sp}(lk:K.lookup f=some ⟨oc,od,.func (PySem.W.fnOf name qual params body scope dV kV doc pm an cdv ct),osl⟩) (hcd:PySem.W.codeIn K cdv qual=true) (S:FnScope N ps scope)
  (len:∀ vs H Q E,sp vs H Q E->vs.length=ps.length)
  (hbody:∀ (A:Around) (outer:List Env) (s:Shared) (H:Hp) (vs:List V) (Q:VK) (E:XK),Room k (A.deeper (envOfC qual scope s.heap.objs.size f cdv))->sp vs H Q E ->
   ∃ t,PSs (cz CX P w K mg base N qual scope f cdv A outer s H E) body t/\t { nx:=λ_ H'=>Q .non H',rt:=Q } (bd N vs) H) :
  FnOk P w K mg base CX (k+1) f (PySem.W.fnOf name qual params body scope dV kV doc pm an cdv ct) ps sp:=by
 refine ⟨len,λA outer s H args us vs Q E hr e0 hb r hsp=>?_⟩
 have hl:=len _ _ _ _ hsp
 have KX:K.In s.heap:=e0.mod.kin.keeps λb o e=>(e0.bs b o e).1
 have lim:s.heap.NoLimit:=e0.mod.nolimit.keeps λb o e=>(e0.bs b o e).1
 have hkind:∀ y∈ps.zip us,scope.names.lookup y.1=some .local\/(scope.names.lookup y.1=some .cell/\((cellsFrom (s.heap.objs.size+1) scope.names []).lookup y.1).isSome=true):=λzz31 hy=>by
  obtain ⟨n,v⟩:=zz31
  rcases S.par n (List.of_mem_zip hy).1 with q|q
  ·exact .inl q
  ·exact .inr ⟨q,PySem.W.cellsFrom_some _ _ _ (.inl q)⟩
 refine codeAny_call_function hr.depth (KX _ _ lk) rfl S.co S.gen rfl (PySem.W.codeRec_of KX hcd) (hb _ _ _ _ ?_)
 refine wpAny_newFunctionEnv_cells S.kind hkind λenv he s1 x=>?_
 subst he
 refine ⟨lim.keeps x.toInCall.keep,codeAny_func ?_⟩
 obtain ⟨t,ht,hq⟩:=hbody A outer s H vs Q E (hr.deeper _) hsp
 have I:Inv (cz CX P w K mg base N qual scope f cdv A outer s H E) [] (bd N vs) H s1:=xf S hr.hd e0 hl r x
 refine wpAny_mono (ht [] s1 (bd N vs) H _ I hq) (λfl s' hs=>?_) λe s' hs=>hs
 have fin:∀ {σ':St}{H':Hp}{v:V}{u:Value},Inv (cz CX P w K mg base N qual scope f cdv A outer s H E) [] σ' H' s'->ao v u->Q v H'->CE outer P w H s Q u s' :=
  fun {σ' H' v u} J rv q=>⟨v,H',J.os,J.bare,J.base,J.hok,rv,q⟩
 cases fl with
 |ret u =>
  obtain ⟨v,σ',H',J,rv,q⟩:=hs
  exact fin J rv q
 |next =>
  obtain ⟨σ',H',J,q⟩:=hs
  exact fin (v:=V.non) (u:=Value.none) J rfl q
 |brk =>
  obtain ⟨_,_,_,q⟩:=hs
  exact False.elim q
 |cont =>
  obtain ⟨_,_,_,q⟩:=hs
  exact False.elim q
section
variable {X:Cx}{x:Str}{p pos:Pos}{e:Expr}{es:List Expr}{t:TA}{id T:String}{r:List V->Hp->VK->Prop}
def tCB (r:List V->Hp->VK->Prop) (t:TA):TE:=λσ H Q=>t σ H λvs H1=>r vs H1 Q
theorem yb (hc:bw X (.builtin id) r) (hg:Gl X x) (hm:X.mg x=none) (hv:bootBuiltins x=some (.builtin id)) (ha:PA X (e::es) t) (hn:x ≠ "__name__":=by decide) (hdb:(x==("__debug__":Str))=false:=by decide)
  (he:starEach (e::es) X.env=(false,eval e X.env)::starEach es X.env:=by rfl) (hpl:(backTo pos (starEach es X.env)).any (·.1)=false:=by rfl):PE X (.Call (.Name x p) (e::es) [] pos) (tCB r t):=by
 intro pins s σ H Q I h
 refine wpAny_Call_Name_kw (jN I hg hm hv ?_ hn hdb)
 exact PyProof.Rows.callWith_builtin1 (thn (ha pos pins s σ H _ I h) λus s1 zz32=>by obtain ⟨vs,H1,I1,r1,q1⟩:=zz32;exact hc pins s1 σ H1 vs us Q I1 r1 q1) he hpl
end
end L2
namespace HT
open PySem PyProof.Rows
section
open PySem.SeqAt
open PySem.AutoSeq1 (wpAny_loadPart')
open PySem.MeetsSeq PySem.MeetsSeq2 PySem.MeetsSeq3
end
section
variable {prog:Program}{w:World}{A:Around}{E:Value->Shared->Prop}{s:Shared}
def sIx (n d:Nat):Option Int->Nat
 |none=>d
 |some v=>if v<0 then (v+(n:Int)).toNat else min v.toNat n
theorem sIx_none (n d:Nat):sIx n d none=d:=rfl
theorem sIx_nat (n d k:Nat):sIx n d (some (k:Int))=min k n:=by
 show (if (k:Int)<0 then ((k:Int)+(n:Int)).toNat else min (k:Int).toNat n)=min k n
 rw [if_neg (by omega),Int.toNat_natCast]
end
end HT
namespace L2
open PySem PySem.Spec PyProof.Rows
abbrev TO:=St->Hp->(Option Int->Hp->Prop)->Prop
def PO (X:Cx) (e:Option Expr) (t:TO):Prop :=
 ∀ (pins:List (Addr×Obj)) (s:Shared) (σ:St) (H:Hp) (Q:Option Int->Hp->Prop),Inv X pins σ H s->t σ H Q ->
  wpAny (model X.prog X.w) X.A (evalPart e X.env) (λu s'=>∃ o H',Inv X pins σ H' s'/\IsPart u o/\Q o H') X.xe s
def zM:TO:=λ_ H Q=>Q none H
def Ev (t:TE):TO:=λσ H Q=>t σ H λx H1=>∃ i,x=.int i/\Q (some i) H1
section
variable {X:Cx}{e:Expr}{te:TE}{lo hi:Option Expr}{tl th:TO}{pos p2:Pos}
theorem zN:PO X none zM:=by
 intro pins s σ H Q I h
 rw [evalPart_none]
 exact wpAny_pure ⟨none,H,I,.none,h⟩
theorem zO (h:PE X e te):PO X (some e) (Ev te):=by
 intro pins s σ H Q I hw
 rw [evalPart_some]
 refine thn (h pins s σ H _ I hw) λu s1 zz33=>?_
 obtain ⟨x,H1,I1,r1,q1⟩:=zz33
 obtain ⟨i,rfl,q⟩:=q1
 obtain ⟨t,rfl⟩:=r1
 exact ⟨some i,H1,I1,.int i t,q⟩
def SlR (X:Cx) (r:V->Option Int->Option Int->Hp->VK->Prop):Prop :=
 ∀ (pins:List (Addr×Obj)) (s:Shared) (σ:St) (H:Hp) (x:V) (v vl vu:Value) (lo hi:Option Int) (sl:Addr) (Q:VK),Inv X pins σ H s->ao x v->s.heap.IsSliceOf sl vl vu .none->IsPart vl lo->IsPart vu hi->r x lo hi H Q ->
  ∃ T id,typeLookup (.type T) "__getitem__"=pure (some (.builtin id))/\s.TypeIs v T/\wpAny (model X.prog X.w) X.A (getItem v (.ref sl)) (EP X pins σ Q) X.xe s
def tSl (r:V->Option Int->Option Int->Hp->VK->Prop) (te:TE) (tl th:TO):TE:=λσ H Q=>te σ H λx H1=>tl σ H1 λl H2=>th σ H2 λu H3=>r x l u H3 Q
theorem yc {r:V->Option Int->Option Int->Hp->VK->Prop}(hr:SlR X r) (he:PE X e te) (hl:PO X lo tl) (hu:PO X hi th):PE X (.Subscript e (.Slice lo hi none p2) pos) (tSl r te tl th):=by
 intro pins s σ H Q I h
 refine Subscript_ (thn (he pins s σ H _ I h) λv s1 zz34=>?_)
 obtain ⟨x,H1,I1,r1,q1⟩:=zz34
 refine wpAny_Slice (thn (hl pins s1 σ H1 _ I1 q1) λvl s2 zz35=>?_)
 obtain ⟨l,H2,I2,pl,q2⟩:=zz35
 refine thn (hu pins s2 σ H2 _ I2 q2) λvu s3 zz36=>?_
 obtain ⟨u,H3,I3,pu,q3⟩:=zz36
 rw [evalPart_none]
 refine wpAny_pure ?_
 have I4:Inv X pins σ H3 { s3 with heap:=s3.heap.push { cls:=.type "slice",data:=.fields #[vl,vu,.none] } }:=I3.kept (t':=s3.toks) λb ob q=>Heap.get?_push_of_some _ q
 obtain ⟨T,id,hT,ht,hg⟩:=hr pins { s3 with heap:=s3.heap.push { cls:=.type "slice",data:=.fields #[vl,vu,.none] } } σ H3 x v vl vu l u s3.heap.objs.size Q I4 r1 (Heap.IsSliceOf.new ..) pl pu q3
 show wpAny (model X.prog X.w) X.A (subscriptTail e (.Slice lo hi none p2) v (.ref s3.heap.objs.size)) (EP X pins σ Q) X.xe { s3 with heap:=s3.heap.push { cls:=.type "slice",data:=.fields #[vl,vu,.none] } }
 exact tail_any (ops:=[.ref s3.heap.objs.size,v]) ht hT hg (by with_unfolding_all rfl)
def gU (xs:List V) (lo hi:Option Int):List V:=(xs.drop (HT.sIx xs.length 0 lo)).take (HT.sIx xs.length xs.length hi - HT.sIx xs.length 0 lo)
theorem wt (xs:List V) (lo hi:Option Int):(gU xs lo hi).length<=xs.length:=by
 unfold gU
 rw [List.length_take,List.length_drop]
 omega
end
def ixN (n:Nat) (i:Int):Option Nat:=if 0<=i then (if i<n then some i.toNat else none) else if -(n:Int)<=i then some (i+n).toNat else none
def atI {α:Type}(xs:List α) (i:Int):Option α:=(ixN xs.length i).bind λj=>xs[j]?
theorem qO {n:Nat}{i:Int}{j:Nat}(h:ixN n i=some j):seqIndex? i n=some j/\j<n /\ -(n:Int)<=i/\i<n:=by
 unfold ixN at h
 by_cases h0:0<=i
 ·rw [if_pos h0] at h
  by_cases h1:i<n
  ·rw [if_pos h1] at h
   have e:i.toNat=j:=Option.some.inj h
   exact ⟨by rw [seqIndex_of h0 h1,e],by omega,by omega,h1⟩
  ·rw [if_neg h1] at h;cases h
 ·rw [if_neg h0] at h
  by_cases h1:-(n:Int)<=i
  ·rw [if_pos h1] at h
   have e:(i+n).toNat=j:=Option.some.inj h
   exact ⟨by rw [seqIndex_neg (by omega) h1,e],by omega,h1,by omega⟩
  ·rw [if_neg h1] at h;cases h
theorem lZ {α:Type}{xs:List α}{i:Int}{v:α}(h:atI xs i=some v):∃ j,seqIndex? i xs.length=some j/\xs[j]?=some v/\j<xs.length /\ -(xs.length:Int)<=i/\i<xs.length:=by
 unfold atI at h
 cases e:ixN xs.length i with
 |none=>rw [e] at h;cases h
 |some j =>
  rw [e] at h
  obtain ⟨h1,h2,h3,h4⟩:=qO e
  exact ⟨j,h1,h,h2,h3,h4⟩
theorem zP {α:Type}{xs:List α}{j:Nat}{v:α}(h:xs[j]?=some v):atI xs (j:Int)=some v:=by
 have hj:j<xs.length:=(List.getElem?_eq_some_iff.mp h).1
 have e:ixN xs.length (j:Int)=some j:=by
  unfold ixN
  rw [if_pos (by omega),if_pos (by omega)];simp
 unfold atI;rw [e];exact h
def qP (b:Expr):Prop:=∀ o i,subscripted b false o i=operate [o,i] (getItem o i)
def IxR (X:Cx) (r:R2):Prop :=
 ∀ (value slice:Expr) (pins:List (Addr×Obj)) (s:Shared) (σ:St) (H:Hp) (x y:V) (v u:Value) (Q:VK),Inv X pins σ H s->ao x v->ao y u->r x y H Q ->
  subscripted slice false v u=operate [v,u] (getItem v u)->wpAny (model X.prog X.w) X.A (subscriptTail value slice v u) (EP X pins σ Q) X.xe s
def MtR (X:Cx) (id:String) (r:V->List V->Hp->VK->Prop):Prop :=
 ∀ (pins:List (Addr×Obj)) (s:Shared) (σ:St) (H:Hp) (x:V) (xs:List V) (v:Value) (us:List Value) (Q:VK),Inv X pins σ H s->ao x v->aj xs us->r x xs H Q ->
  wpAny (model X.prog X.w) X.A (call (.builtin id) (v::us)) (EP X pins σ Q) X.xe s
section
variable {X:Cx}{a b:Expr}{ta tb:TE}{pos:Pos}
theorem Ew {r:R2}(hr:IxR X r) (ha:PE X a ta) (hb:PE X b tb) (hs:qP b):PE X (.Subscript a b pos) (tOp r ta tb):=by
 intro pins s σ H Q I h
 exact Subscript_ (nR ha hb I h λv u s2 x y H2 I2 rx ry q=>hr a b pins s2 σ H2 x y v u Q I2 rx ry q (hs _ _))
def Gx (K:PySem.W.Frag):R2:=λx y H Q=>∃ p xs i v,x=.ref p/\y=.int i/\SqL K H p xs/\atI xs i=some v/\Q v H
def Gy (K:PySem.W.Frag):R2:=λx y H Q=>∃ p xs i v,x=.ref p/\y=.int i/\SqT K H p xs/\atI xs i=some v/\Q v H
def Gz:R2:=λx y H Q=>∃ z i c,x=.str z/\y=.int i/\z.length<=sizeLine/\atI z.cps.toList i=some c/\Q (.str ⟨#[c]⟩) H
theorem zQ:IxR X (Gx X.K):=by
 intro value slice pins s σ H x y v u Q I rx ry h hs
 obtain ⟨p,xs,i,z,rfl,rfl,hq,he,q⟩:=h
 cases rx
 obtain ⟨t,rfl⟩:=ry
 obtain ⟨its,r,pl,hz⟩:=I.list hq
 obtain ⟨j,h1,h2,h3,h4,h5⟩:=lZ he
 obtain ⟨w,ew,rw'⟩:=r.get h2
 have hl:=r.length
 have hn:=gz
 have fin:EP X pins σ Q w s:=⟨z,H,I,rw',q⟩
 by_cases h0:0<=i
 ·have hj:i.toNat=j:=by
   rw [seqIndex_of h0 h5] at h1
   exact Option.some.inj h1
  exact item_listR pl.isList h0 (by omega) (by rw [hj];simpa using ew) fin hs
 ·have hj:(i+(its.toArray.size:Int)).toNat=j:=by
   rw [seqIndex_neg (by omega) h4] at h1
   rw [List.size_toArray,<- hl]
   exact Option.some.inj h1
  exact subscriptTail_builtinR (x:=w) pl.isList.typeIs slot_list_getitem.lookup
   (wpAny_getItem_list_neg (Q:=λr s'=>r=w/\EP X pins σ Q r s') pl.isList (by omega) (by rw [List.size_toArray]<;>omega) (by omega) (by rw [hj];simpa using ew) ⟨rfl,fin⟩) hs
theorem Ca:IxR X (Gy X.K):=by
 intro value slice pins s σ H x y v u Q I rx ry h hs
 obtain ⟨p,xs,i,z,rfl,rfl,hq,he,q⟩:=h
 cases rx
 obtain ⟨t,rfl⟩:=ry
 obtain ⟨its,r,pl,hz⟩:=I.tuple hq
 obtain ⟨j,h1,h2,h3,h4,h5⟩:=lZ he
 obtain ⟨w,ew,rw'⟩:=r.get h2
 have hl:=r.length
 have hn:=gz
 have fin:EP X pins σ Q w s:=⟨z,H,I,rw',q⟩
 exact subscriptTail_builtinR (x:=w) pl.typeIs slot_tuple_getitem.lookup
  (getItem_tuple (j:=j) (Q:=λr s'=>r=w/\EP X pins σ Q r s') pl (by omega) (by omega) (by rw [List.size_toArray,<- hl];exact h1) (by simpa using ew) ⟨rfl,fin⟩) hs
theorem Cb:IxR X Gz:=by
 intro value slice pins s σ H x y v u Q I rx ry h hs
 obtain ⟨z,i,c,rfl,rfl,hz,he,q⟩:=h
 obtain ⟨t,rfl⟩:=rx
 obtain ⟨t',rfl⟩:=ry
 obtain ⟨j,h1,h2,h3,h4,h5⟩:=lZ he
 have hl:z.cps.toList.length=z.length:=by simp [Str.length]
 rw [hl] at h1 h4 h5
 have hn:=gz
 exact tail_any (typeIs_str s z t) slot_str_getitem.lookup (getItem_str (c:=c) (by
  have e1:decide (i < -(2 ^ 63:Int))=false:=decide_eq_false (by omega)
  have e2:decide (i≥2 ^ 63)=false:=decide_eq_false (by omega)
  rw [e1,e2,Bool.or_false]) (by rw [h1];simpa using h2) ⟨.str ⟨#[c]⟩,H,I.tok _,⟨_,rfl⟩,q⟩) hs
theorem wF (its:List Value) (n j:Nat) (u:Value):Obj.mapSeq (·.setIfInBounds j u) { cls:=.type "list",data:=.seq its.toArray n }={ cls:=.type "list",data:=.seq (its.set j u).toArray n }:=by
 simp [Obj.mapSeq]
theorem Inv.lst {pins:List (Addr×Obj)}{σ:St}{H:Hp}{s:Shared}{p:Addr}{xs:List V}(I:Inv X pins σ H s) (h:H p=some (.lst xs)) :
  ∃ (its:List Value) (n:Nat),aj xs its/\s.heap.get? p=some { cls:=.type "list",data:=.seq its.toArray n }/\xs.length<=sizeLine:=by
 obtain ⟨z,its,n,r,e⟩:=I.hok p _ h
 exact ⟨its,n,r,e,z⟩
theorem Inv.lstUpd {pins:List (Addr×Obj)}{σ:St}{H:Hp}{s:Shared}{p:Addr}{xs ys:List V}{its its':List Value}{n n':Nat}{f:Obj->Obj}(I:Inv X pins σ H s) (h:H p=some (.lst xs))
  (ho:s.heap.get? p=some { cls:=.type "list",data:=.seq its.toArray n }) (hf:f { cls:=.type "list",data:=.seq its.toArray n }={ cls:=.type "list",data:=.seq its'.toArray n' }) (r:aj ys its') (hz:ys.length<=sizeLine) (t:Nat) :
  Inv X pins σ (upd H p (.lst ys)) { s with heap:=s.heap.update p f,toks:=t }:=by
 have e:(s.heap.update p f).get? p=some { cls:=.type "list",data:=.seq its'.toArray n' }:=by
  rw [Heap.get?_update_self f ho (by rw [hf]<;>rfl),hf]
 refine I.write (x:=p) (e:=p) (by rw [h];trivial) (.inl rfl) (λb u hb q=>(Heap.get?_update_other _ _ (Ne.symm hb)).trans q) ⟨_,e⟩ ?_
 exact ⟨hz,its',n',r,e⟩
def Ex:V->V->V->Hp->(Hp->Prop)->Prop:=λo i v H Q=>∃ p xs k j,o=.ref p/\i=.int k/\H p=some (.lst xs)/\ixN xs.length k=some j/\Q (upd H p (.lst (xs.set j v)))
theorem ye:e9 X Ex:=by
 intro pins s σ H o i v ov iv u Q I ro ri rv h
 obtain ⟨p,xs,k,j,rfl,rfl,hp,hj,q⟩:=h
 cases ro
 obtain ⟨t,rfl⟩:=ri
 obtain ⟨its,n,r,ho,hz⟩:=I.lst hp
 obtain ⟨h1,h2,h3,h4⟩:=qO hj
 have hl:=r.length
 have hn:=gz
 have I':Inv X pins σ (upd H p (.lst (xs.set j v))) { s with heap:=s.heap.update p (Obj.mapSeq (·.setIfInBounds j u)) } :=
  I.lstUpd hp ho (wF its n j u) (r.set rv j) (by rw [List.length_set];exact hz) s.toks
 by_cases h0:0<=k
 ·have hk:k.toNat=j:=by
   rw [seqIndex_of h0 h4] at h1
   exact Option.some.inj h1
  exact PySem.W.ki_setAt ho h0 (by omega) (by rw [List.size_toArray,<- hl];exact h4) (by rw [hk];exact ⟨_,I',q⟩)
 ·have hk:(k+(its.toArray.size:Int)).toNat=j:=by
   rw [seqIndex_neg (by omega) h3] at h1
   rw [List.size_toArray,<- hl]
   exact Option.some.inj h1
  exact PySem.W.ki_setBack ho (by omega) (by rw [List.size_toArray,<- hl];exact h3) (by omega) (by rw [hk];exact ⟨_,I',q⟩)
theorem v9 (lo hi:Option Int) (n:Nat):(sliceBounds lo hi none n).1=((HT.sIx n 0 lo:Nat):Int)/\(sliceBounds lo hi none n).2.1=((HT.sIx n n hi:Nat):Int)/\(sliceBounds lo hi none n).2.2=1:=by
 refine ⟨?_,?_,rfl⟩
 ·cases lo with
  |none=>simp [sliceBounds,HT.sIx]
  |some i =>
   simp only [sliceBounds,HT.sIx,Option.getD_none,show (1:Int)>0 by decide,if_true]
   by_cases h:i<0
   ·simp only [h,if_true]<;>omega
   ·simp only [h,if_false]<;>omega
 ·cases hi with
  |none=>simp [sliceBounds,HT.sIx]
  |some i =>
   simp only [sliceBounds,HT.sIx,Option.getD_none,show (1:Int)>0 by decide,if_true]
   by_cases h:i<0
   ·simp only [h,if_true]<;>omega
   ·simp only [h,if_false]<;>omega
theorem v4 (its:List Value) (lo hi:Option Int):slicePick its.toArray lo hi none=((its.drop (HT.sIx its.length 0 lo)).take (HT.sIx its.length its.length hi - HT.sIx its.length 0 lo)).toArray:=by
 obtain ⟨h1,h2,h3⟩:=v9 lo hi its.toArray.size
 unfold slicePick
 rw [h1,h2,h3]
 simp only [sliceRange_one,pick_run,List.size_toArray]<;>rfl
def vh (K:PySem.W.Frag):V->Option Int->Option Int->Hp->VK->Prop:=λx lo hi H Q=>∃ a xs,x=.ref a/\SqL K H a xs/\∀ p,H p=none->Q (.ref p) (upd H p (.lst (gU xs lo hi)))
theorem zR:SlR X (vh X.K):=by
 intro pins s σ H x v vl vu lo hi sl Q I rx hs pl pu h
 obtain ⟨a,xs,rfl,hx,q⟩:=h
 cases rx
 obtain ⟨its,r,ht,hz⟩:=I.list hx
 have hlen:=r.length
 refine ⟨"list",_,slot_list_getitem.lookup,ht.isList.typeIs,?_⟩
 refine wpAny_getItem_list_slice ht.isList hs pl pu .none (by simp) ?_ (by rw [List.size_toArray]<;>omega)
 rw [v4,<- hlen]
 refine ⟨.ref s.heap.objs.size,_,I.laid (t':=s.toks) (o:=.lst (gU xs lo hi)) (λb ob q=>Heap.get?_push_of_some _ q) (Nat.le_refl _) ?_,rfl,q _ (I.hok.fresh (Nat.le_refl _))⟩
 exact ⟨Nat.le_trans (wt xs lo hi) hz,_,0,(r.drop (HT.sIx xs.length 0 lo)).take (HT.sIx xs.length xs.length hi - HT.sIx xs.length 0 lo),Heap.get?_push_size _ rfl⟩
def c6:V->Bool
 |.non=>true
 |.bl _=>true
 |.int _=>true
 |.str _=>true
 |_=>false
def eqV:V->V->Bool
 |.non,.non=>true
 |.bl a,.bl b=>a==b
 |.bl a,.int b=>(if a then 1 else 0)==b
 |.int a,.bl b=>a==(if b then 1 else 0)
 |.int a,.int b=>a==b
 |.str a,.str b=>a==b
 |_,_=>false
theorem Cc {A:Around}{s:Shared}{y x:V}{u v:Value}(ry:ao y u) (rx:ao x v) (fy:c6 y=true) (fx:c6 x=true):SeqAt.EqAt A s u v (eqV y x):=by
 cases y with
 |non =>
  cases ry
  cases x with
  |non=>cases rx;exact SeqAt.EqAt.same _
  |bl b=>cases rx;exact SeqAt.EqAt.none_bool b
  |int b=>obtain ⟨t,rfl⟩:=rx;exact SeqAt.EqAt.none_int b t
  |str b=>obtain ⟨t,rfl⟩:=rx;exact SeqAt.EqAt.none_str b t
  |_=>exact absurd (show false=true from fx) Bool.false_ne_true
 |bl a =>
  cases ry
  cases x with
  |non=>cases rx;exact SeqAt.EqAt.bool_none a
  |bl b=>cases rx;exact SeqAt.EqAt.bool_bool a b
  |int b=>obtain ⟨t,rfl⟩:=rx;exact SeqAt.EqAt.bool_int a b t
  |str b=>obtain ⟨t,rfl⟩:=rx;exact SeqAt.EqAt.bool_str a b t
  |_=>exact absurd (show false=true from fx) Bool.false_ne_true
 |int a =>
  obtain ⟨t',rfl⟩:=ry
  cases x with
  |non=>cases rx;exact SeqAt.EqAt.int_none a t'
  |bl b=>cases rx;exact SeqAt.EqAt.int_bool a t' b
  |int b=>obtain ⟨t,rfl⟩:=rx;exact SeqAt.EqAt.int_int a t' b t
  |str b=>obtain ⟨t,rfl⟩:=rx;exact SeqAt.EqAt.int_str a t' b t
  |_=>exact absurd (show false=true from fx) Bool.false_ne_true
 |str a =>
  obtain ⟨t',rfl⟩:=ry
  cases x with
  |non=>cases rx;exact SeqAt.EqAt.str_none a t'
  |bl b=>cases rx;exact SeqAt.EqAt.str_bool a t' b
  |int b=>obtain ⟨t,rfl⟩:=rx;exact SeqAt.EqAt.str_int a t' b t
  |str b=>obtain ⟨t,rfl⟩:=rx;exact SeqAt.EqAt.str_str a t' b t
  |_=>exact absurd (show false=true from fx) Bool.false_ne_true
 |_=>exact absurd (show false=true from fy) Bool.false_ne_true
def eqU (x:V) (u:Value):Bool:=match u with
 |.none=>eqV .non x
 |.bool b=>eqV (.bl b) x
 |.int i _=>eqV (.int i) x
 |.str z _=>eqV (.str z) x
 |_=>false
theorem sO {x y:V}{u:Value}(r:ao y u) (f:c6 y=true):eqU x u=eqV y x:=by
 cases y with
 |non=>cases r;rfl
 |bl b=>cases r;rfl
 |int i=>obtain ⟨t,rfl⟩:=r;rfl
 |str z=>obtain ⟨t,rfl⟩:=r;rfl
 |_=>exact absurd (show false=true from f) Bool.false_ne_true
theorem ii {x:V}:∀ {xs:List V}{us:List Value},aj xs us->xs.all c6=true->us.any (eqU x)=xs.any λy=>eqV y x
 |_,_,.nil,_=>rfl
 |y::xs,u::us,.cons r t,f=>by
  rw [List.all_cons,Bool.and_eq_true] at f
  rw [List.any_cons,List.any_cons,sO r f.1,ii t f.2]
theorem ia {A:Around}{s:Shared}{x:V}{v:Value}(rx:ao x v) (fx:c6 x=true):∀ {xs:List V}{us:List Value},aj xs us->xs.all c6=true->∀ u∈us,SeqAt.EqAt A s u v (eqU x u)
 |_,_,.nil,_=>λu hu=>by cases hu
 |y::xs,u::us,.cons r t,f=>λu' hu=>by
  rw [List.all_cons,Bool.and_eq_true] at f
  rcases List.mem_cons.mp hu with rfl|hu
  ·rw [sO r f.1];exact Cc r rx f.1 fx
  ·exact ia rx fx t f.2 u' hu
def inV (x:V) (xs:List V):Bool:=xs.any λy=>eqV y x
def rIn (K:PySem.W.Frag) (neg:Bool):R2:=λx y H Q=>∃ p xs,y=.ref p/\(SqL K H p xs\/SqT K H p xs)/\c6 x=true/\xs.all c6=true/\Q (.bl (if neg then !inV x xs else inV x xs)) H
theorem pP:OpR X (compareOp .In) (rIn X.K false):=by
 intro pins s σ H x y v u Q I rx ry h
 obtain ⟨p,xs,rfl,hq,fx,fs,q⟩:=h
 cases ry
 rcases hq with hq|hq
 ·obtain ⟨its,r,pl,hz⟩:=I.list hq
  refine SeqAt.in_listAt (eqU x) pl.isList (λw hw=>ia rx fx r fs w (by simpa using hw)) ⟨.bl _,H,I,rfl,?_⟩
  rw [show its.toArray.any (eqU x)=its.any (eqU x) by simp,ii r fs]
  exact q
 ·obtain ⟨its,r,pl,hz⟩:=I.tuple hq
  refine SeqAt.in_tupleAt (eqU x) pl (λw hw=>ia rx fx r fs w (by simpa using hw)) ⟨.bl _,H,I,rfl,?_⟩
  rw [show its.toArray.any (eqU x)=its.any (eqU x) by simp,ii r fs]
  exact q
theorem oQ:OpR X (compareOp .NotIn) (rIn X.K true):=by
 intro pins s σ H x y v u Q I rx ry h
 obtain ⟨p,xs,rfl,hq,fx,fs,q⟩:=h
 cases ry
 rcases hq with hq|hq
 ·obtain ⟨its,r,pl,hz⟩:=I.list hq
  refine SeqAt.notIn_listAt (eqU x) pl.isList (λw hw=>ia rx fx r fs w (by simpa using hw)) ⟨.bl _,H,I,rfl,?_⟩
  rw [show its.toArray.any (eqU x)=its.any (eqU x) by simp,ii r fs]
  exact q
 ·obtain ⟨its,r,pl,hz⟩:=I.tuple hq
  refine SeqAt.notIn_tupleAt (eqU x) pl (λw hw=>ia rx fx r fs w (by simpa using hw)) ⟨.bl _,H,I,rfl,?_⟩
  rw [show its.toArray.any (eqU x)=its.any (eqU x) by simp,ii r fs]
  exact q
theorem oR:bw X (.builtin "len") (λxs H Q=>∃ p ys,xs=[.ref p]/\(SqL X.K H p ys\/SqT X.K H p ys)/\Q (.int ys.length) H):=by
 intro pins s σ H xs us Q I r h
 obtain ⟨p,ys,rfl,hq,q⟩:=h
 obtain ⟨u,rfl,rx⟩:=bZ r
 cases rx
 have hn:=gz
 rcases hq with hq|hq
 ·obtain ⟨its,r',pl,hz⟩:=I.list hq
  have hlen:=r'.length
  exact Calls.call_len_list pl.isList (by simp only [List.size_toArray]<;>omega) ⟨.int ys.length,H,I.tok _,⟨s.toks+1,by rw [List.size_toArray,hlen]⟩,q⟩
 ·obtain ⟨its,r',pl,hz⟩:=I.tuple hq
  have hlen:=r'.length
  exact len_tuple pl (by simp only [List.size_toArray]<;>omega) ⟨.int ys.length,H,I.tok _,⟨s.toks+1,by rw [List.size_toArray,hlen]⟩,q⟩
theorem wf:bw X (.builtin "len") (λxs H Q=>∃ z,xs=[.str z]/\z.length<=sizeLine/\Q (.int z.length) H):=by
 intro pins s σ H xs us Q I r h
 obtain ⟨z,rfl,hz,q⟩:=h
 obtain ⟨u,rfl,t,rfl⟩:=bZ r
 have hn:=gz
 exact len_str (by omega) ⟨.int z.length,H,I.tok _,⟨_,rfl⟩,q⟩
def tyV (K:PySem.W.Frag) (T:String) (x:V) (H:Hp):Prop:=match x with
 |.str _=>T="str"
 |.int _=>T="int"
 |.ref p=>(T="list" /\ ∃ xs,SqL K H p xs)\/(T="tuple" /\ ∃ o,K.lookup p=some o/\o.cls=.type "tuple" /\ o.dict=none) \/
   (T="dict" /\ ((∃ kvs,H p=some (.dK kvs))\/∃ kvs,H p=some (.dT kvs)))\/(T="set" /\ ∃ S n,H p=some (.set S n))
 |_=>False
theorem sP {pins:List (Addr×Obj)}{σ:St}{H:Hp}{s:Shared}{T:String}{x:V}{v:Value}(I:Inv X pins σ H s) (r:ao x v) (ty:tyV X.K T x H) :
  s.TypeIs v T/\∀ a,v=.ref a->∃ ob,s.heap.get? a=some ob/\ob.dict=none:=by
 cases x with
 |str z =>
  obtain ⟨t,rfl⟩:=r
  cases (show T="str" from ty)
  exact ⟨typeIs_str s z t,λ_ e=>nomatch e⟩
 |int i =>
  obtain ⟨t,rfl⟩:=r
  cases (show T="int" from ty)
  exact ⟨typeIs_int s i t,λ_ e=>nomatch e⟩
 |ref p =>
  cases r
  rcases ty with ⟨rfl,xs,hq⟩|⟨rfl,o,hk,hc,hd⟩|⟨rfl,hk⟩|⟨rfl,S,n,hk⟩
  ·obtain ⟨its,_,pl,_⟩:=I.list hq
   refine ⟨pl.isList.typeIs,λa e=>?_⟩
   cases e
   obtain ⟨o,n,e,c,hd,_⟩:=pl
   exact ⟨o,e,hd⟩
  ·refine ⟨⟨o,I.kIn p o hk,hc⟩,λa e=>?_⟩
   cases e
   exact ⟨o,I.kIn _ o hk,hd⟩
  ·have z:∃ o,s.heap.get? p=some o/\o.ExactDict:=by
    rcases hk with ⟨kvs,hk⟩|⟨kvs,hk⟩
    ·obtain ⟨_,_,_,_,o,_,_,e,ex,_⟩:=I.hok p _ hk
     exact ⟨o,e,ex⟩
    ·obtain ⟨_,_,_,_,o,_,_,e,ex,_⟩:=I.hok p _ hk
     exact ⟨o,e,ex⟩
   obtain ⟨o,e,ex⟩:=z
   refine ⟨⟨o,e,ex.1⟩,λa e2=>?_⟩
   cases e2
   exact ⟨o,e,ex.2.1⟩
  ·obtain ⟨o,_,_,_,e,ex,_⟩:=I.hok p _ hk
   refine ⟨⟨o,e,ex.1⟩,λa e2=>?_⟩
   cases e2
   exact ⟨o,e,ex.2.1⟩
 |_=>exact False.elim ty
def ki (K:PySem.W.Frag) (T:String) (r:V->List V->Hp->VK->Prop) (to:TE):TE:=λσ H Q=>to σ H λx H1=>tyV K T x H1/\r x [] H1 Q
def tBM (K:PySem.W.Frag) (T:String) (r:V->List V->Hp->VK->Prop) (to:TE) (t:TA):TE:=λσ H Q=>to σ H λx H1=>tyV K T x H1/\t σ H1 λxs H2=>r x xs H2 Q
variable {o e:Expr}{es:List Expr}{to:TE}{t:TA}{name:Str}{apos cpos:Pos}{T id:String}{r:V->List V->Hp->VK->Prop}
theorem sQ (pa:PlainAttrs T) (slot:Slot T name id) (hty:typeOf (.builtin id)=pure (.type "method_descriptor")) (hm:MtR X id r) (ho:PE X o to)
  (hbase:attributeBase o name X.env (eval o X.env)=eval o X.env:=by rfl) (hline:(apos.endLine==cpos.line)=true:=by rfl):PE X (.Call (.Attribute o name apos) [] [] cpos) (ki X.K T r to):=by
 intro pins s σ H Q I h
 refine wpAny_Call_method0_late hbase hline (thn (ho pins s σ H _ I h) λv s1 zz37=>?_)
 obtain ⟨x,H1,I1,r1,ty,q1⟩:=zz37
 obtain ⟨h1,h2⟩:=sP I1 r1 ty
 exact ⟨T,id,pa,slot,hty,h1,h2,Calls.callWith_builtin rfl (PySem.evalArgs_none (hm pins s1 σ H1 x [] v [] Q I1 r1 .nil q1))⟩
theorem bQ (pa:PlainAttrs T) (slot:Slot T name id) (hty:typeOf (.builtin id)=pure (.type "method_descriptor")) (hm:MtR X id r) (ho:PE X o to) (ha:PA X (e::es) t)
  (hbase:attributeBase o name X.env (eval o X.env)=eval o X.env:=by rfl)
  (hfew:((backTo cpos (starEach (e::es) X.env)).all (λx=>!x.1)&&(backToKw cpos (keywordEach [] X.env)).all (λx=>x.1.isSome)
   && decide ((e::es).length+([]:List Keyword).length+(if ([]:List Keyword).isEmpty then 0 else 1)<30))=true:=by rfl)
  (hline:(apos.endLine==cpos.line)=true:=by rfl) (hs:starEach (e::es) X.env=(false,eval e X.env)::starEach es X.env:=by rfl) (hplain:(backTo cpos (starEach es X.env)).any (·.1)=false:=by rfl) :
  PE X (.Call (.Attribute o name apos) (e::es) [] cpos) (tBM X.K T r to t):=by
 intro pins s σ H Q I h
 refine wpAny_Call_method_late hbase hfew hline rfl (thn (ho pins s σ H _ I h) λv s1 zz38=>?_)
 obtain ⟨x,H1,I1,r1,ty,q1⟩:=zz38
 obtain ⟨h1,h2⟩:=sP I1 r1 ty
 refine ⟨T,id,pa,slot,hty,h1,h2,?_⟩
 have hA:=ha cpos pins s1 σ H1 _ I1 q1
 rw [hs] at hA ⊢
 refine Calls.callWith_builtin (by show (false || (backTo cpos (starEach es X.env)).any (·.1))=false;rw [hplain]<;>rfl) (Calls.evalArgs_plain ?_)
 exact thn hA λus s2 zz39=>by obtain ⟨vs,H2,I2,r2,q2⟩:=zz39;exact hm pins s2 σ H2 x vs v us Q I2 r1 r2 q2
end
def MtM (X:Cx) (id:String) (r:V->List V->Hp->VK->Prop):Prop :=
 ∀ (pins:List (Addr×Obj)) (s:Shared) (σ:St) (H:Hp) (x:V) (xs:List V) (v:Value) (us:List Value) (Q:VK),Inv X pins σ H s->ao x v->aj xs us->r x xs H Q ->
  wpAny (model X.prog X.w) X.A (call (.builtin id) (v::us)) (EP X pins σ Q) X.xe s
theorem aj.one:∀ {x:V}{us:List Value},aj [x] us->∃ u,us=[u]/\ao x u
 |_,_,.cons r .nil=>⟨_,rfl,r⟩
theorem aj.zero:∀ {us:List Value},aj [] us->us=[]
 |_,.nil=>rfl
theorem aj.dropLast {xs:List V}{us:List Value}(h:aj xs us):aj xs.dropLast us.dropLast:=by
 induction h with
 |nil=>exact .nil
 |cons r t ih =>
  cases t with
  |nil=>exact .nil
  |cons q t'=>exact .cons r ih
theorem aj.rep {xs:List V}{us:List Value}(h:aj xs us):∀ k:Nat,aj (List.replicate k xs).flatten (List.replicate k us).flatten
 |0=>.nil
 |k+1=>by
  rw [List.replicate_succ,List.replicate_succ,List.flatten_cons,List.flatten_cons]
  exact aj.append h (aj.rep h k)
theorem wG {α:Type}(l:List α):l.eraseIdx (l.length - 1)=l.dropLast:=by
 induction l with
 |nil=>rfl
 |cons a r ih =>
  cases r with
  |nil=>rfl
  |cons b r =>
   have e:(a::b::r).length - 1=((b::r).length - 1)+1:=by
    have h1:(a::b::r).length=r.length+2:=rfl
    have h2:(b::r).length=r.length+1:=rfl
    omega
   rw [e,List.eraseIdx_cons_succ,ih]
   all_goals rfl
theorem pQ (its:List Value):∀ (k:Nat) (acc:List Value),
  List.foldl (λx1 x2=>x1++x2) acc.toArray (List.replicate k its.toArray)=(acc++(List.replicate k its).flatten).toArray
 |0,acc=>by simp
 |k+1,acc=>by
  have e:acc.toArray++its.toArray=(acc++its).toArray:=by simp
  have e2:(acc++its)++(List.replicate k its).flatten=acc++(List.replicate (k+1) its).flatten:=by
   rw [List.replicate_succ,List.flatten_cons,List.append_assoc]
  rw [<- e2,<- pQ its k (acc++its),<- e,List.replicate_succ,List.foldl_cons]
section
variable {X:Cx}{pins:List (Addr×Obj)}{σ:St}{H:Hp}{s:Shared}{l b:Addr}{xs ys zs:List V}
theorem Inv.lset {its its':List Value}{n:Nat}{f:Array Value->Array Value}{t':Nat}(I:Inv X pins σ H s) (hH:H l=some (.lst xs))
  (e:s.heap.get? l=some { cls:=.type "list",data:=.seq its.toArray n }) (hf:f its.toArray=its'.toArray) (hv:aj ys its') (hz:ys.length<=sizeLine) :
  Inv X pins σ (upd H l (.lst ys)) { s with heap:=s.heap.update l (Obj.mapSeq f),toks:=t' }:=by
 have q:=PySem.IsL.update e f
 rw [hf] at q
 refine I.write (x:=l) (e:=l) (by rw [hH];exact trivial) (.inl rfl) (λb' u hb hu=>(Heap.get?_update_other s.heap (Obj.mapSeq f) (Ne.symm hb)).trans hu) ⟨_,q⟩ ?_
 exact ⟨hz,its',_,hv,q⟩
theorem Inv.lnew {its:List Value}{t':Nat}(I:Inv X pins σ H s) (hv:aj ys its) (hz:ys.length<=sizeLine) :
  Inv X pins σ (upd H s.heap.objs.size (.lst ys)) { s with heap:=s.heap.push { cls:=.type "list",data:=.seq its.toArray },toks:=t' } :=
 I.laid (λ_ _ q=>Heap.get?_push_of_some _ q) (Nat.le_refl _) ⟨hz,its,0,hv,Heap.get?_push_size _ rfl⟩
theorem Inv.fresh (I:Inv X pins σ H s):H s.heap.objs.size=none:=I.hok.fresh (Nat.le_refl _)
theorem Inv.lstM (I:Inv X pins σ H s) (hH:H l=some (.lst xs)):xs.length<=sizeLine/\∃ (its:List Value) (n:Nat),aj xs its/\xs.length=its.length/\s.heap.get? l=some { cls:=.type "list",data:=.seq its.toArray n }:=by
 obtain ⟨z,its,n,r,e⟩:=I.hok l _ hH
 exact ⟨z,its,n,r,r.length,e⟩
theorem yf {n:Nat}(h:n<=sizeLine):Builtin.List.listTooLong n=false:=by
 unfold Builtin.List.listTooLong
 exact decide_eq_false (by omega)
end
section
variable {X:Cx}
def zS:V->List V->Hp->VK->Prop:=λx vs H Q=>∃ l xs y,x=.ref l/\vs=[y]/\H l=some (.lst xs)/\xs.length<sizeLine/\Q .non (upd H l (.lst (xs++[y])))
theorem pS:MtM X "list.append" zS:=by
 intro pins s σ H x vs v us Q I rx rv h
 obtain ⟨l,xs,y,rfl,rfl,hH,hz,q⟩:=h
 cases rx
 obtain ⟨u,rfl,ru⟩:=rv.one
 obtain ⟨z,its,n,r,hl,e⟩:=I.lstM hH
 refine call_meets F.slot_list_append ⟨_,e,rfl⟩ F.entry_list_append (F.args_list_append_2 _ _) (PySem.list_append l its.toArray n u (by rw [List.size_toArray];omega)) ⟨e,?_⟩
 refine ⟨.non,_,I.lset (its':=its++[u]) hH e (by simp) (r.append (.cons ru .nil)) ?_,rfl,q⟩
 rw [List.length_append,List.length_singleton]
 omega
def GA:V->List V->Hp->VK->Prop:=λx vs H Q=>∃ l xs y,x=.ref l/\vs=[]/\H l=some (.lst xs)/\xs[xs.length - 1]?=some y/\Q y (upd H l (.lst xs.dropLast))
theorem Cd:MtM X "list.pop" GA:=by
 intro pins s σ H x vs v us Q I rx rv h
 obtain ⟨l,xs,y,rfl,rfl,hH,hy,q⟩:=h
 cases rx
 have hus:=rv.zero
 subst hus
 obtain ⟨z,its,n,r,hl,e⟩:=I.lstM hH
 obtain ⟨u,hu,ru⟩:=r.get hy
 have hy':its.toArray[its.toArray.size - 1]?=some u:=by
  show its.toArray[its.length - 1]?=some u
  rw [<- Array.getElem?_toList,<- hl]
  exact hu
 refine call_meets F.slot_list_pop ⟨_,e,rfl⟩ F.entry_list_pop (F.args_list_pop_1 _) (MeetsSeq.list_pop_last l its.toArray n u hy' (by rw [List.size_toArray];omega)) ⟨e,?_⟩
 refine ⟨y,_,I.lset (its':=its.dropLast) hH e ?_ r.dropLast ?_,ru,q⟩
 ·show its.toArray.eraseIdxIfInBounds (its.toArray.size - 1)=its.dropLast.toArray
  rw [List.size_toArray,List.eraseIdxIfInBounds_toArray,wG]
 ·rw [List.length_dropLast]
  omega
def GB:R2:=λx y H Q=>∃ l b xs zs,x=.ref l/\y=.ref b/\H l=some (.lst xs)/\H b=some (.lst zs)/\xs.length+zs.length<=sizeLine/\∀ p,H p=none->Q (.ref p) (upd H p (.lst (xs++zs)))
theorem Ce:OpR X (binaryOp .Add) GB:=by
 intro pins s σ H x y v u Q I rx ry h
 obtain ⟨l,b,xs,zs,rfl,rfl,hH,hB,hz,q⟩:=h
 cases rx
 cases ry
 obtain ⟨z,its,n,r,hl,e⟩:=I.lstM hH
 obtain ⟨z2,its2,n2,r2,hl2,e2⟩:=I.lstM hB
 refine PySem.P.add_list e e2 ?_ (by rw [List.size_toArray,List.size_toArray];omega)
 have ea:its.toArray++its2.toArray=(its++its2).toArray:=by simp
 rw [ea]
 exact ⟨.ref _,_,I.lnew (t':=s.toks) (r.append r2) (by rw [List.length_append];omega),rfl,q _ I.fresh⟩
def GD:R2:=λx y H Q=>∃ l k xs,x=.ref l/\y=.int k/\H l=some (.lst xs) /\ -(2 ^ 63)<=k/\k<2 ^ 63/\xs.length * k.toNat<=sizeLine /\
 ∀ p,H p=none->Q (.ref p) (upd H p (.lst (List.replicate k.toNat xs).flatten))
theorem zT {α:Type}(xs:List α) (k:Nat):(List.replicate k xs).flatten.length=k * xs.length:=by
 induction k with
 |zero=>simp
 |succ k ih=>rw [List.replicate_succ,List.flatten_cons,List.length_append,ih,Nat.succ_mul,Nat.add_comm]
theorem Cf:OpR X (binaryOp .Mult) GD:=by
 intro pins s σ H x y v u Q I rx ry h
 obtain ⟨l,k,xs,rfl,rfl,hH,h1,h2,hz,q⟩:=h
 cases rx
 obtain ⟨t,rfl⟩:=ry
 obtain ⟨z,its,n,r,hl,e⟩:=I.lstM hH
 have hlen:its.toArray.size * k.toNat<=sizeLine:=by rw [List.size_toArray,<- hl];exact hz
 have hcap:¬ its.toArray.size * k.toNat>(2 ^ 63 - 1) / 8:=by
  have:(sizeLine:Nat)<=(2 ^ 63 - 1) / 8:=by decide
  omega
 have hfit:¬ (!Builtin.List.listFitsIndex k)=true:=by
  rw [fitsIndex_both h1 h2]
  exact Bool.false_ne_true
 have hlong:¬ Builtin.List.listTooLong (its.toArray.size * k.toNat)=true:=by
  rw [yf hlen]
  exact Bool.false_ne_true
 have hnew:List.foldl (λx1 x2=>x1++x2) #[] (List.replicate (if its.toArray.isEmpty=true then 0 else k.toNat) its.toArray)=(List.replicate k.toNat its).flatten.toArray:=by
  have f0:∀ m:Nat,List.foldl (λx1 x2=>x1++x2) #[] (List.replicate m its.toArray)=(List.replicate m its).flatten.toArray:=λm=>by
   have:=pQ its m []
   rw [List.nil_append] at this
   exact this
  rw [f0]
  cases its with
  |nil=>simp
  |cons a r'=>rw [if_neg (by simp)]
 refine wpAny_binaryOp_repeat_ref (T:="list") (U:="int") (by decide) ⟨_,e,rfl⟩ (λs'=>typeIs_int s' k t) noFill_list_mul F.fills_int_mul F.slot_int_rmul repeat_list F.slot_int_index.lookup
  (call_meets F.slot_int_rmul (typeIs_int s k t) F.entry_int_rmul (F.args_int_rmul_2 _ _) (int___rmul___int_list k t l its.toArray n)
   ⟨e,rfl,⟨_,e,rfl⟩,call_meets F.slot_list_mul ⟨_,e,rfl⟩ F.entry_list_mul (F.args_list_mul_2 _ _) (AutoListH.list___mul___list_int_3 l its.toArray n k t hfit hcap hlong) ⟨e,?_⟩⟩)
 rw [hnew]
 exact ⟨.ref _,_,I.lnew (t':=s.toks) (r.rep k.toNat) (by rw [zT,Nat.mul_comm];exact hz),rfl,q _ I.fresh⟩
end
section
variable {prog:Program}{w:World}{A:Around}{E:Value->Shared->Prop}{s:Shared}
end
section
variable {X:Cx}
end
end L2
namespace Att
open PySem PySem.W PySem.Calls PyProof.Rows
theorem vX {P:Params}{h:Heap}:∀ (ns:List Int) (vs:List Value),WellAll P h vs (ns.map WData.int)->IntsAre vs ns:=by
 intro ns
 induction ns with
 |nil =>
  intro vs w
  rw [List.map_nil] at w
  cases w
  exact .nil
 |cons n ns ih =>
  intro vs w
  rw [List.map_cons] at w
  cases w with
  |cons a b =>
   cases a
   exact .cons _ _ (ih _ b)
theorem xg {l:OpenLaw}{n:Nat}(hn:l.most=some n){P:Params}{h:Heap}{args:List WData}{vals:List Value}
  (hpre:l.row.toRowW.claim.pre args=true) (hwl:WellAll P h vals args) :
  ∃ a vs ns,vals=[Value.ref a]/\args=[WData.list (ns.map WData.int)]/\h.get? a=some { cls:=.type "list",data:=.seq vs.toArray }/\IntsAre vs ns/\ns.length<=n:=by
 have hsh:WShape.hasAll [] args [.list .int]=true:=(pre_splitW hpre).1
 have hc:l.pre.holds [] { args:=args }=true:=(pre_splitW hpre).2
 obtain ⟨d,r,rfl,h1,h2⟩:=hasAllW_cons hsh
 obtain rfl:=hasAllW_nil h2
 obtain ⟨xs,rfl,h3⟩:=hasW_list h1
 obtain ⟨ns,rfl⟩:=items_int h3
 have hlen:ns.length<=n:=by
  unfold OpenLaw.pre at hc
  have h4:(WTm.not (.lt (.lit (.int (n:Int))) (.len (.arg 0)))).holds [] { args:=[.list (ns.map .int)] }=true:=by
   have h4:=(holds_andW hc).1
   rw [hn] at h4
   exact h4
  have h5:=condW_of h4 (w_not (w_lt w_lit (w_len_list (w_arg rfl))))
  rw [List.length_map] at h5
  refine Nat.le_of_not_lt λq=>?_
  have q':(n:Int)<((ns.length:Nat):Int):=by omega
  first
   |(rw [decide_eq_true q'] at h5;exact absurd h5 (by decide))
   |(simp at h5;omega)
 cases hwl with
 |cons w1 w2 =>
  cases w2
  cases w1 with
  |list ho hall=>exact ⟨_,_,ns,rfl,rfl,ho,vX ns _ hall,hlen⟩
theorem xh (l:OpenLaw) (args:List WData):l.row.toRowW.claim.post args (.bool true) args=true :=
 postW_of (r:=l.row.toRowW) (X:=(true==true))
  (show WShape.has [] (.bool true) .bool=true by first|rfl|decide|simp [WShape.has,WShape.arms,WShape.armsAll])
  (show (WTm.eq .res (.lit (.bool true))).value [] { args:=args,res:=some (.bool true),after:=args }=some (.bool (true==true)) from w_eq_bool (w_res rfl) w_lit) rfl
theorem attach_call {l:OpenLaw}{n:Nat}{q:Program}{loose:List Str}{XP:(Str->Option Value)->Heap->Prop}{YP:World->Heap->Prop}{d:DefRec}
  (hn:l.most=some n) (hdf:d.params.defaults=[])
  (call:∀ (w:World) (s₀ s₁:Shared) (mg mb:Str->Option Value) (fa:Addr) (o:Obj) (pm cd doc:Value) (a:Addr) (vs:List Value) (ns:List Int),
   Ground q loose [] XP w s₀ mg mb s₁.heap->YP w s₁.heap ->
   s₁.heap.get? fa=some o->o.data=.func (docDef d.name d.params d.body d.scope pm cd doc)->s₁.heap.CodeRec cd d.name->mg d.name=some (.ref fa) ->
   s₁.heap.get? a=some { cls:=.type "list",data:=.seq vs.toArray }->IntsAre vs ns->ns.length<=n->s₁.gens=#[] ->
   codeAny (model l.prog w) callerA (.call (.ref fa) ⟨[.ref a],[]⟩) (λr s'=>r=.ok (.ret (.bool true))/\OldK s₁.heap s'.heap/\s'.os=s₁.os/\AllBare s'.gens) s₁) :
  WalkO q loose XP YP l.row.toRowW d [] (λf vs=>PySem.call f vs):=by
 intro w s₀ s₁ mg mb G Y fa o pm cd doc dV kV ho hd hcd hD hmg hg args vals as hpre hlay hrd hwl hlo
 obtain rfl:dV=.none:=Dflts.none hD hdf
 obtain rfl:kV=.none:=Dflts.noKw hD
 obtain ⟨a,vs,ns,rfl,rfl,hobj,hints,hlen⟩:=xg hn hpre hwl
 refine enter_call (codeAny_mono (call w s₀ s₁ mg mb fa o pm cd doc a vs ns G Y ho (fd_plain hd) hcd hmg hobj hints hlen hg) λr s' hq=>?_)
 obtain ⟨rfl,h2,h3,h4⟩:=hq
 exact ⟨.inl ⟨.bool true,.bool true,[],rfl,λ_=>rfl,.bool true,xh l _,λ_=>⟨List.Pairwise.nil,λ_ hm=>(nomatch hm)⟩⟩,h2,h3,h4⟩
section
variable {prog:Program}{w:World}{A:Around}{E:Value->Shared->Prop}{s:Shared}{K:Frag}
end
end Att
namespace L2
open PySem PySem.Spec PyProof.Rows
theorem pT:∀ {vs:List Value}{ns:List Int},IntsAre vs ns->aj (ns.map V.int) vs
 |_,_,.nil=>.nil
 |_,_,.cons n t h=>.cons ⟨t,rfl⟩ (pT h)
def kj (H:Hp):Prop:=∀ b,H b=none\/∃ o xs,H b=some (.frz o (.lst xs))
theorem yg {P:Program}{w:World}{K:PySem.W.Frag}{mg mb:Str->Option Value}{CX:CXT}{k:Nat}{fa a:Addr}{fd:FuncData}{x:Str}{sp:Sp}{s₁:Shared}{vs:List Value}{ns:List Int}
  (KX:K.In s₁.heap) (hns:s₁.heap.Ns mainGlobals mg) (hb:s₁.heap.Ns builtinsNs mb) (hbb:∀ x:Str,x ≠ "__name__"->mb x=bootBuiltins x) (hlim:s₁.heap.NoLimit) (hg:s₁.gens=#[])
  (ha:s₁.heap.get? a=some { cls:=.type "list",data:=.seq vs.toArray }) (hi:IntsAre vs ns) (hl:ns.length<=sizeLine) (hr:Room k callerA)
  (F:∀ base:Heap,K.In base->base.Ns mainGlobals mg->FnOk P w K mg base CX k fa fd [x] sp) (hbind:∀ (s:Shared) (u:Value),BindsTo s fd ⟨[u],[]⟩ [(x,u)])
  (hsp:∀ H:Hp,kj H->SqL K H a (ns.map V.int)->sp [.ref a] H (λv _=>v=.bl true) λ_ _ _=>False)
  (hCX:∀ H e s',CX [] H s₁ (λ_ _ _=>False) e s'->False) :
  codeAny (model P w) callerA (.call (.ref fa) ⟨[.ref a],[]⟩) (λr s'=>r=.ok (.ret (.bool true))/\OldK s₁.heap s'.heap/\s'.os=s₁.os/\AllBare s'.gens) s₁:=by
 have rv:=pT hi
 have lenV:=hi.length
 -- from an abstract heap in which nothing but the script may be tracked
 have core:∀ H:Hp,kj H->SqL K H a (ns.map V.int)->HOk P w H s₁.heap->(∀ b,H b≠none->b=a)->(H a≠none->K.lookup a=none) ->
   codeAny (model P w) callerA (.call (.ref fa) ⟨[.ref a],[]⟩) (λr s'=>r=.ok (.ret (.bool true))/\OldK s₁.heap s'.heap/\s'.os=s₁.os/\AllBare s'.gens) s₁:=by
  intro H hO hS hok hA hK
  have base_of:∀ {b:Addr}{o:Obj},s₁.heap.get? b=some o->H b=none->(dQ s₁.heap H).get? b=some o:=λe n=>xT e n
  have noA:∀ {b:Addr}{o:Obj}{es:Array DictEntry}{ep:Nat},s₁.heap.get? b=some o->o.data=.dict es ep->H b=none:=fun {b o es ep} e d=>by
   cases q:H b with
   |none=>rfl
   |some u =>
    have e':b=a:=hA b (by rw [q];simp)
    subst e'
    rw [ha] at e;cases e
    have d':Data.seq vs.toArray _=Data.dict es ep:=d
    cases d'
  have nsK:∀ {b:Addr}{m:Str->Option Value},s₁.heap.Ns b m->(dQ s₁.heap H).Ns b m:=fun {b m} ⟨o,es,ep,e,d,r⟩=>⟨o,es,ep,base_of e (noA e d),d,r⟩
  have hKb:K.In (dQ s₁.heap H):=λb o e=>base_of (KX b o e) (by
   cases q:H b with
   |none=>rfl
   |some u =>
    have e':b=a:=hA b (by rw [q];simp)
    subst e'
    rw [hK (by rw [q];simp)] at e;cases e)
  have hM:Mod K mg (dQ s₁.heap H):=⟨hKb,nsK hns,⟨mb,nsK hb,hbb⟩,let ⟨mc,h1,h2⟩:=hlim;⟨mc,nsK h1,h2⟩⟩
  have e0:Env0 P w K mg (dQ s₁.heap H) callerA [] s₁ H:=⟨rfl,hM,λb o e=>zq e,Nat.le_of_eq (wT _ _),trivial,λb hb=>absurd (show b∈([]:List Addr) from hb) (by simp),hok,.of_eq hg⟩
  refine codeAny_mono ((F _ hKb (nsK hns)).run callerA [] s₁ H ⟨[.ref a],[]⟩ [.ref a] [.ref a] _ _ hr e0 (hbind s₁ (.ref a)) (.cons rfl .nil) (hsp H hO hS)) λr s' h=>?_
  cases r with
  |error e=>exact (hCX H e s' h).elim
  |ok fl =>
   cases fl with
   |next=>exact False.elim h
   |brk=>exact False.elim h
   |cont=>exact False.elim h
   |ret u =>
    obtain ⟨v,H',os,bare,un,hok',r',q⟩:=h
    have q':v=.bl true:=q
    subst q'
    obtain rfl:u=Value.bool true:=r'
    refine ⟨rfl,OldK.of_keep λb o e=>?_,os,bare⟩
    cases q:H b with
    |none=>exact un.keep b o e q (by intro z;exact absurd (show b∈([]:List Addr) from z) (by simp)) (by simp)
    |some u =>
     rcases hO b with z|⟨ob,xs,z⟩
     ·rw [q] at z;cases z
     ·have z2:=un.frzs b ob _ z
      obtain ⟨e1,_⟩:=hok b _ z
      obtain ⟨e2,_⟩:=hok' b _ z2
      rw [e] at e1;cases e1
      exact e2
 cases hk:K.lookup a with
 |some o =>
  -- the script is one of the module's own objects
  have e:=KX a o hk
  rw [ha] at e
  cases e
  refine core (λ_=>none) (λ_=>.inl rfl) (.inr ⟨_,vs.toArray,_,hk,rfl,rfl,rfl,by rw [List.size_toArray,lenV];exact hl,by simpa using rv⟩) (λb u z=>by have z':(none:Option HO)=some u:=z;cases z') (λb z=>absurd rfl z) λz=>absurd rfl z
 |none =>
  refine core (λb=>if b=a then some (.frz { cls:=.type "list",data:=.seq vs.toArray } (.lst (ns.map V.int))) else none) (λb=>?_) (.inl (.inr ⟨{ cls:=.type "list",data:=.seq vs.toArray },if_pos rfl⟩)) (λb u z=>?_) (λb z=>?_) λ_=>hk
  ·by_cases hb:b=a
   ·exact .inr ⟨_,_,if_pos hb⟩
   ·exact .inl (if_neg hb)
  ·by_cases hb:b=a
   ·have z':=(if_pos hb).symm.trans z
    cases z'
    subst hb
    exact ⟨ha,by rw [List.length_map];exact hl,vs,_,rv,ha⟩
   ·have z':=(if_neg hb).symm.trans z
    cases z'
  ·by_cases hb:b=a
   ·exact hb
   ·exact absurd (if_neg hb) z
theorem zU {l:PySem.W.OpenLaw}{n k:Nat}{q:Program}{loose:List Str}{XP:(Str->Option Value)->Heap->Prop}{YP:World->Heap->Prop}{d:DefRec}{K:Params->PySem.W.Frag}{CX:World->CXT}{sp:World->Sp}{x:Str}
  (hn:l.most=some n) (hn2:n<=sizeLine) (hdf:d.params.defaults=[]) (hr:Room k callerA)
  (hY:∀ (w:World) (h:Heap),YP w h->(K w.params).In h)
  (F:∀ (w:World) (mg:Str->Option Value) (fa:Addr) (h:Heap),(K w.params).In h->h.Ns mainGlobals mg->mg d.name=some (.ref fa) ->
   ∃ fd:FuncData,(∀ (s:Shared) (u:Value),BindsTo s fd ⟨[u],[]⟩ [(x,u)]) /\
    ∀ base:Heap,(K w.params).In base->base.Ns mainGlobals mg->FnOk l.prog w (K w.params) mg base (CX w) k fa fd [x] (sp w))
  (hsp:∀ (w:World) (H:Hp) (a:Addr) (ns:List Int),ns.length<=n->kj H->SqL (K w.params) H a (ns.map V.int)->sp w [.ref a] H (λv _=>v=.bl true) λ_ _ _=>False)
  (hCX:∀ (w:World) (H:Hp) (s:Shared) (e:Value) (s':Shared),CX w [] H s (λ_ _ _=>False) e s'->False) :
  PySem.W.WalkO q loose XP YP l.row.toRowW d [] (λf vs=>PySem.call f vs):=by
 refine Att.attach_call hn hdf λw s₀ s₁ mg mb fa o pm cd doc a vs ns G Y ho hd hcd hmg hobj hints hlen hg=>?_
 have KX:=hY w _ Y
 obtain ⟨fd,hb,hF⟩:=F w mg fa _ KX G.T.g hmg
 exact yg KX G.T.g G.T.b G.T.builtins G.T.nolimit hg hobj hints (Nat.le_trans hlen hn2) hr hF hb (λH hO hS=>hsp w H a ns hlen hO hS) λH e s'=>hCX w H s₁ e s'
abbrev CX0:CXT:=λ_ _ _ _ _ _=>False
abbrev E0:XK:=λ_ _ _=>False
theorem dJ {X:Cx}:cC CX0 X E0:=λ_ _ _ _ _ _ _ h=>h.elim
structure Fun (K:PySem.W.Frag) (x qual:Str) (st:Stmt) (f:Addr) (fd:FuncData):Prop where
 ex:∃ (oc:Value) (od:Option Addr) (kV doc pm:Value) (an:Option Addr) (cdv ct:Value) (osl:Array (Option Value)),
  fd=PySem.W.fnOf x qual (au st) (am st) (ai st) .none kV doc pm an cdv ct/\K.lookup f=some ⟨oc,od,.func fd,osl⟩/\PySem.W.codeIn K cdv qual=true
 kp:PySem.W.keepIn K (.ref f)=true
section
variable {P:Program}{w:World}{K:PySem.W.Frag}{mg:Str->Option Value}{base:Heap}
theorem Fun.ok {x qual:Str}{st:Stmt}{f:Addr}{fd:FuncData}{N ps:List Str}{k:Nat}{sp:Sp}(F:Fun K x qual st f fd) (S:FnScope N ps (ai st)) (len:∀ vs H Q E,sp vs H Q E->vs.length=ps.length)
  (hbody:∀ (cdv:Value) (A:Around) (outer:List Env) (s:Shared) (H:Hp) (vs:List V) (Q:VK) (E:XK),Room k (A.deeper (envOfC qual (ai st) s.heap.objs.size f cdv))->sp vs H Q E ->
   ∃ t,PSs (cz CX0 P w K mg base N qual (ai st) f cdv A outer s H E).nox (am st) t/\t { nx:=λ_ H'=>Q .non H',rt:=Q } (bd N vs) H):FnOk P w K mg base CX0 (k+1) f fd ps sp:=by
 obtain ⟨oc,od,kV,doc,pm,an,cdv,ct,osl,rfl,lk,hcd⟩:=F.ex
 refine nu lk hcd S len λA outer s H vs Q E hr hsp=>?_
 obtain ⟨t,h,q⟩:=hbody cdv A outer s H vs Q E hr hsp
 exact ⟨t,h.nox,q⟩
theorem Fun.binds {x qual:Str}{st:Stmt}{f:Addr}{fd:FuncData}{ps:List Str}(F:Fun K x qual st f fd)
  (h:∀ (kV doc pm:Value) (an:Option Addr) (cdv ct:Value) (us:List Value),us.length=ps.length->bindArgs (PySem.W.fnOf x qual (au st) (am st) (ai st) .none kV doc pm an cdv ct) ⟨us,[]⟩=pure (ps.zip us)):aq K fd ps []:=by
 obtain ⟨oc,od,kV,doc,pm,an,cdv,ct,osl,rfl,lk,hcd⟩:=F.ex
 exact .all (h kV doc pm an cdv ct)
theorem aW {x qual:Str}{st:Stmt}{f:Addr}{oc:Value}{od an:Option Addr}{osl:Array (Option Value)}{kV doc pm cdv ct:Value}(l:K.lookup f=some ⟨oc,od,.func (PySem.W.fnOf x qual (au st) (am st) (ai st) .none kV doc pm an cdv ct),osl⟩)
  (c:PySem.W.codeIn K cdv qual=true) (k:PySem.W.keepIn K (.ref f)=true):Fun K x qual st f (PySem.W.fnOf x qual (au st) (am st) (ai st) .none kV doc pm an cdv ct):=⟨⟨oc,od,kV,doc,pm,an,cdv,ct,osl,rfl,l,c⟩,k⟩
end
theorem d8 {A:Around}{k:Nat}(hr:Room k A):A.units+1<cLine:=Nat.lt_of_le_of_lt (Nat.add_le_add_left (by decide:1<=64) _) hr.units
section
variable {X:Cx}
theorem pv (i:Nat){x:Str}{pos:Pos}(hN:X.N[i]?=some x:=by rfl) (hv:Vis X.env.scope x:=by first|exact Or.inl rfl|exact Or.inr (Or.inl rfl)|exact Or.inr (Or.inr rfl)) (hd:(x==("__debug__":Str))=false:=by decide)
  (hcd:(x==("__classdict__":Str))=false:=by decide):PE X (.Name x pos) (nP i):=sI hN hv hd hcd
end
def Hq (H H':Hp):Prop:=∀ b o,H b=some o->H' b=some o
def Cg:Expr->Bool
 |.Starred ..=>true
 |_=>false
theorem ac {e:Expr}{es:List Expr}{env:Env}(h:Cg e=false):starEach (e::es) env=(false,eval e env)::starEach es env:=by
 cases e<;>first|rfl|cases h
section
variable {X:Cx}
theorem yh:OpR X (binaryOp .FloorDiv) (rI (λ_ j=>0<j/\j<18446744073709551616) λi j=>.int (i / j)):=opI λi j _ _ _ _ _ hc q=>by
 have h1:(0:Int)<j:=hc.1
 have h2:j<18446744073709551616:=hc.2
 refine floordiv_int (by omega) (by rw [Int.fdiv_eq_ediv_of_nonneg i (by omega)];exact q) (.inl (PyProof.noPylong_of_log2 ?_))
 have h0:j.natAbs≠0:=by omega
 have h3:j.natAbs<2 ^ 64:=by
  have e:(2:Nat) ^ 64=18446744073709551616:=by decide
  omega
 have h4:j.natAbs.log2<64:=(Nat.log2_lt h0).mpr h3
 omega
def zV (K:PySem.W.Frag):List V->Hp->VK->Prop:=λxs H Q=>∃ x c t b,xs=[x,c]/\(∃ u,ao c u/\(∀ z,ao c z->z=u)/\PySem.W.kitOne K t u=some b)/\TyOf K H x t/\Q (.bl b) H
theorem wu:bw X (.builtin "isinstance") (zV X.K):=by
 intro pins s σ H xs us Q I r h
 obtain ⟨x,c,t,b,rfl,⟨u,rc,hu,e⟩,ty,q⟩:=h
 obtain ⟨u1,u2,rfl,r1,r2⟩:=iF r
 obtain rfl:=hu _ r2
 exact xc I r1 ty e λtk=>⟨.bl b,H,I.tok tk,rfl,q⟩
end
def Kp (p:Addr) (H H':Hp):Prop:=∀ b o,H b=some o->b≠p->H' b=some o
def Hn (H:Hp) (p:Addr):Prop:=∃ a b c d:Int,H p=some (.lst [.int a,.int b,.int c,.int d])
structure Df (K:PySem.W.Frag) (mg:Str->Option Value) (x:Str) (f:Addr) (fd:FuncData) (ps:List Str):Prop where
 hm:mg x=some (.ref f)
 kp:PySem.W.keepIn K (.ref f)=true
 b:aq K fd ps []
def Oth (p:Addr) (H H':Hp):Prop:=∀ b,b≠p->H' b=H b
def ib:Sp:=λvs H Q _=>∃ c t:Int,vs=[.int c,.int t]/\0<=c/\c<4611686018427387904/\0<=t/\Q (.int (c / 2 ^ t.toNat)) H
def ik:Sp:=λvs H Q _=>∃ (t:Addr) (c e f:Int),vs=[.ref t,.int f]/\H t=some (.tup [.int c,.int e])/\e<=f/\Q (.int (c / 2 ^ (f - e).toNat)) H
def jP:Sp:=λvs H Q _=>∃ (t:Addr) (c e f n:Int),vs=[.ref t,.int f,.int n]/\H t=some (.tup [.int c,.int e])/\e<=f /\
 ∀ p,H p=none->Q (.ref p) (upd H p (.tup [.int (c / 2 ^ (f - e).toNat+n),.int f]))
section
variable {prog:Program}{w:World}{A:Around}{R:Result->Shared->Prop}{s:Shared}
theorem ww {elt target iter:Expr}{ifs:List Expr}{scope:Scope}{pos:Pos}{it acc:Value}{env:Env}(I:Nat->Shared->Prop)
  (turn:∀ n s,I n s->wpAny (model prog w) A (pyNext it) (λr s₁=>match r with
   |none=>R (.ok .next) s₁
   |some v=>wpAny (model prog w) A (letOwnedTupleGo target it v) (λ_ s₁'=>wpAny (model prog w) A (assign target env v) (λ_ s₂ =>
     wpAny (model prog w) A (forIn ifs true λc r=>if r=true then do let ok <- isTrue c env (eval c env);pure (ForInStep.yield ok) else pure (ForInStep.yield r)) (λok s₃ =>
      if ok=true then wpAny (model prog w) A (eval elt env) (λx s₄ =>
       wpAny (model prog w) A (call (.builtin "list.append") [acc,x]) (λ_ s₅=>∃ m,m<n/\I m s₅) (λ_ _=>False) s₄) (λ_ _=>False) s₃
      else ∃ m,m<n/\I m s₃) (λ_ _=>False) s₂) (λ_ _=>False) s₁') (λ_ _=>False) s₁) (λ_ _=>False) s)
  (n:Nat) (h:I n s) :
  codeAny (model prog w) A (.compLoop (.ListComp elt [⟨target,iter,ifs,0⟩] scope pos) 0 it acc env) R s:=by
 refine codeAny_loop rfl I (λn s hI=>?_) n h
 show wpAny _ A ((compTurn (.ListComp elt [⟨target,iter,ifs,0⟩] scope pos) 0 it acc env).onRaise (λx=>do noteFrame x env;theTreesLotGoes x)) _ _ s
 refine wpAny_noted ?_
 rw [compTurn_list]
 refine wpAny_bind (wpAny_standAt (wpAny_bind (wpAny_mono (turn n s hI) (λr s₁ h₁=>?_) λ_ _ h'=>h'.elim)))
 cases r with
 |none=>exact wpAny_pure h₁
 |some v =>
  refine wpAny_bind (wpAny_mono h₁ (λ_ s₁' h₁'=>?_) λ_ _ h'=>h'.elim)
  refine wpAny_bind (wpAny_mono h₁' (λ_ s₂ h₂=>wpAny_bind (wpAny_mono h₂ (λok s₃ h₃=>?_) λ_ _ h'=>h'.elim)) λ_ _ h'=>h'.elim)
  cases ok with
  |false=>exact wpAny_pure ⟨rfl,h₃⟩
  |true =>
   exact wpAny_bind (wpAny_bind (wpAny_mono h₃ (λx s₄ h₄=>wpAny_bind (wpAny_mono h₄ (λ_ s₅ h₅=>wpAny_pure (wpAny_pure ⟨rfl,h₅⟩)) λ_ _ h'=>h'.elim)) λ_ _ h'=>h'.elim))
end
def eB (cells:List (Str×Addr)):List (Str×NameKind)->List (Str×Addr)->List (Str×Addr)
 |[],cs=>cs
 |(n,k)::r,cs=>eB cells r (if k==.free then (match cells.lookup n with|some a=>(n,a)::cs|none=>cs) else cs)
def cI (scope:Scope) (env:Env):List (Str×Addr):=eB env.cells scope.names []
theorem qQ (env:Env):∀ (ns:List (Str×NameKind)) (cs:List (Str×Addr)),(∀ y∈ns,y.2=.free->∃ a,env.cells.lookup y.1=some a) ->
  (forIn ns cs λ(x:Str×NameKind) (r:List (Str×Addr))=>(if (x.2==NameKind.free)=true then (do let a <- cellOf env x.1;pure (ForInStep.yield ((x.1,a)::r))) else pure (ForInStep.yield r):Sem (ForInStep (List (Str×Addr)))))=(pure (eB env.cells ns cs):Sem (List (Str×Addr)))
 |[],cs,_=>rfl
 |(n,k)::r,cs,h=>by
  rw [List.forIn_cons]
  have ih:=λcs'=>qQ env r cs' λy hy=>h y (List.mem_cons_of_mem _ hy)
  by_cases hk:(k==NameKind.free)=true
  ·obtain ⟨a,ha⟩:=h (n,k) List.mem_cons_self (by simpa using hk)
   have ha':env.cells.lookup n=some a:=ha
   have e:cellOf env n=pure a:=by unfold cellOf;rw [ha']
   simp only [hk,if_true,e,pure_bind]
   rw [ih]
   show _=pure (eB env.cells r (if k==.free then (match env.cells.lookup n with|some a=>(n,a)::cs|none=>cs) else cs))
   rw [hk,ha']
   rfl
  ·have hk':(k==NameKind.free)=false:=by simpa using hk
   simp only [hk',Bool.false_eq_true,if_false,pure_bind]
   rw [ih]
   show _=pure (eB env.cells r (if k==.free then (match env.cells.lookup n with|some a=>(n,a)::cs|none=>cs) else cs))
   rw [hk']
   rfl
theorem zW {scope:Scope}{env:Env}(h:∀ y∈scope.names,y.2=.free->∃ a,env.cells.lookup y.1=some a):closureFor scope env=pure (cI scope env):=by
 have e:=qQ env scope.names [] h
 unfold closureFor cI
 show (forIn scope.names ([]:List (Str×Addr)) _ >>= λcs=>pure cs)=_
 rw [bind_pure]
 exact e
theorem qk (cells:List (Str×Addr)){x:Str}{c:Addr}:∀ (ns:List (Str×NameKind)) (cs:List (Str×Addr)),(∀ c,cs.lookup x=some c->cells.lookup x=some c)->(eB cells ns cs).lookup x=some c->cells.lookup x=some c
 |[],cs,h,e=>h c e
 |(n,k)::r,cs,h,e=>by
  refine qk cells r _ (λc' e'=>?_) e
  by_cases hk:(k==NameKind.free)=true
  ·rw [if_pos hk] at e'
   cases ha:cells.lookup n with
   |none=>rw [ha] at e';exact h c' e'
   |some a =>
    rw [ha] at e'
    by_cases hx:x==n
    ·have hx':x=n:=by simpa using hx
     subst hx'
     simp only [List.lookup_cons,beq_self_eq_true] at e'
     rw [<- e'];exact ha
    ·have hx':(x==n)=false:=by simpa using hx
     simp only [List.lookup_cons,hx'] at e'
     exact h c' e'
  ·rw [if_neg hk] at e'
   exact h c' e'
theorem h7 (cells:List (Str×Addr)){x:Str}{a:Addr}(ha:cells.lookup x=some a):∀ (ns:List (Str×NameKind)) (cs:List (Str×Addr)),(cs.lookup x=some a\/ns.lookup x=some .free)->(∀ c,cs.lookup x=some c->c=a)->(eB cells ns cs).lookup x=some a
 |[],cs,h,_=>by
  rcases h with h|h
  ·exact h
  ·simp at h
 |(n,k)::r,cs,h,hu=>by
  have step:(if k==.free then (match cells.lookup n with|some a=>(n,a)::cs|none=>cs) else cs)=cs\/∃ b,k=.free/\cells.lookup n=some b/\(if k==.free then (match cells.lookup n with|some a=>(n,a)::cs|none=>cs) else cs)=(n,b)::cs:=by
   by_cases hk:(k==NameKind.free)=true
   ·rw [if_pos hk]
    cases hb:cells.lookup n with
    |none=>exact .inl rfl
    |some b=>exact .inr ⟨b,by simpa using hk,rfl,rfl⟩
   ·exact .inl (by rw [if_neg hk])
  show (eB cells r _).lookup x=some a
  by_cases hx:x=n
  ·subst hx
   rcases step with e|⟨b,hk,hb,e⟩
   ·rw [e]
    refine h7 cells ha r cs ?_ hu
    rcases h with h|h
    ·exact .inl h
    ·simp only [List.lookup_cons,beq_self_eq_true] at h
     injection h with h
     subst h
     rw [if_pos (by decide),ha] at e
     have:(x,a)::cs=cs:=e
     exact absurd (congrArg List.length this) (by simp)
   ·rw [e]
    rw [ha] at hb
    injection hb with hb
    subst hb
    refine h7 cells ha r _ (.inl (by simp)) λc hc=>?_
    simp at hc
    exact hc.symm
  ·have hxb:(x==n)=false:=by simpa using hx
   rcases step with e|⟨b,hk,hb,e⟩
   ·rw [e]
    refine h7 cells ha r cs ?_ hu
    rcases h with h|h
    ·exact .inl h
    ·simp only [List.lookup_cons,hxb] at h
     exact .inr h
   ·rw [e]
    refine h7 cells ha r _ ?_ λc hc=>?_
    ·rcases h with h|h
     ·exact .inl (by simp only [List.lookup_cons,hxb];exact h)
     ·simp only [List.lookup_cons,hxb] at h
      exact .inr h
    ·simp only [List.lookup_cons,hxb] at hc
     exact hu c hc
def gA (sc scope:Scope):Bool:=(scope.kind==.function)&&scope.names.all λy=>(y.2 != .cell)&&((y.2 != .local) || (scope.names.lookup y.1==some .local)) &&
 ((y.2 != .free) || ((scope.names.lookup y.1==some .free)&&((sc.names.lookup y.1==some .cell) || (sc.names.lookup y.1==some .free))))
def eT (N Nc:List Str) (scope:Scope) (n:Nat) (caps:List Nat):Bool:=(n+caps.length==Nc.length)&&(List.range caps.length).all λj=>(Nc[n+j]?==(caps[j]?).bind λi=>N[i]?)&&((Nc[n+j]?).bind (λy=>scope.names.lookup y)==some NameKind.free)
def gB (n:Nat) (caps:List Nat) (σ:St):St:=List.replicate n none++caps.map λi=>(σ[i]?).join
def Cx.comp (X:Cx) (scope:Scope) (Nc:List Str) (C:Addr) (s₀:Shared) (H₀:Hp) (ex:List Addr):Cx :=
 { X with N:=Nc,s₀:=s₀,H₀:=H₀,env:=compEnvC scope (cI scope X.env) C X.env,outer:=X.stack,ex:=ex,fn:=λ_=>false,pn:=[],xe:=λ_ _=>False }
theorem oS {env:Env}:∀ {names:List (Str×NameKind)}{x:Str},names.lookup x=some .free ->
  (names.map λ(n,k)=>if (k==NameKind.free&&env.scope.kind==.function&&env.kindOf n==some .cell) then (n,NameKind.cell) else (n,k)).lookup x=some .cell \/
  (names.map λ(n,k)=>if (k==NameKind.free&&env.scope.kind==.function&&env.kindOf n==some .cell) then (n,NameKind.cell) else (n,k)).lookup x=some .free
 |[],_,h=>by simp at h
 |(n,k)::r,x,h=>by
  have ih:=@oS env r x
  show List.lookup x ((if (k==NameKind.free&&env.scope.kind==.function&&env.kindOf n==some .cell)=true then (n,NameKind.cell) else (n,k))::_)=_\/List.lookup x ((if (k==NameKind.free&&env.scope.kind==.function&&env.kindOf n==some .cell)=true then (n,NameKind.cell) else (n,k))::_)=_
  cases hx:x==n with
  |true =>
   simp only [List.lookup_cons,hx] at h
   cases h
   by_cases hc:(NameKind.free==NameKind.free&&env.scope.kind==.function&&env.kindOf n==some .cell)=true
   ·rw [if_pos hc];simp [List.lookup_cons,hx]
   ·rw [if_neg hc];simp [List.lookup_cons,hx]
  |false =>
   simp only [List.lookup_cons,hx] at h
   by_cases hc:(k==NameKind.free&&env.scope.kind==.function&&env.kindOf n==some .cell)=true
   ·rw [if_pos hc];simp only [List.lookup_cons,hx];exact ih h
   ·rw [if_neg hc];simp only [List.lookup_cons,hx];exact ih h
theorem oU {env:Env}:∀ {names:List (Str×NameKind)}{x:Str},(∀ y∈names,y.2≠.cell) ->
  ((names.map λ(n,k)=>if (k==NameKind.free&&env.scope.kind==.function&&env.kindOf n==some .cell) then (n,NameKind.cell) else (n,k)).lookup x=some .cell \/
  (names.map λ(n,k)=>if (k==NameKind.free&&env.scope.kind==.function&&env.kindOf n==some .cell) then (n,NameKind.cell) else (n,k)).lookup x=some .free)->names.lookup x=some .free
 |[],_,_,h=>by simp at h
 |(n,k)::r,x,hc,h=>by
  have ih:=@oU env r x λy hy=>hc y (List.mem_cons_of_mem _ hy)
  have hk:k≠.cell:=hc (n,k) List.mem_cons_self
  have h':List.lookup x ((if (k==NameKind.free&&env.scope.kind==.function&&env.kindOf n==some .cell)=true then (n,NameKind.cell) else (n,k))::_)=some NameKind.cell\/List.lookup x ((if (k==NameKind.free&&env.scope.kind==.function&&env.kindOf n==some .cell)=true then (n,NameKind.cell) else (n,k))::_)=some NameKind.free:=h
  cases hx:x==n with
  |true =>
   simp only [List.lookup_cons,hx]
   by_cases hq:(k==NameKind.free&&env.scope.kind==.function&&env.kindOf n==some .cell)=true
   ·have:k=.free:=by
     simp only [Bool.and_eq_true] at hq
     simpa using hq.1.1
    rw [this]
   ·rw [if_neg hq] at h'
    simp only [List.lookup_cons,hx] at h'
    rcases h' with h'|h'
    ·injection h' with h';exact absurd h' hk
    ·exact h'
  |false =>
   simp only [List.lookup_cons,hx]
   by_cases hq:(k==NameKind.free&&env.scope.kind==.function&&env.kindOf n==some .cell)=true
   ·rw [if_pos hq] at h'
    simp only [List.lookup_cons,hx] at h'
    exact ih h'
   ·rw [if_neg hq] at h'
    simp only [List.lookup_cons,hx] at h'
    exact ih h'
structure CompSc (X:Cx) (scope:Scope):Prop where
 kind:scope.kind=.function
 nocell:∀ y∈scope.names,y.2≠.cell
 loc:∀ y∈scope.names,y.2=.local->scope.names.lookup y.1=some .local
 fr:∀ x,scope.names.lookup x=some .free->X.env.kindOf x=some .cell\/X.env.kindOf x=some .free
 fr2:∀ y∈scope.names,y.2=.free->X.env.kindOf y.1=some .cell\/X.env.kindOf y.1=some .free
theorem mem_of_lookup {α β:Type}[BEq α] [LawfulBEq α]:∀ {l:List (α×β)}{x:α}{b:β},l.lookup x=some b->(x,b)∈l
 |[],_,_,h=>by simp at h
 |(n,k)::r,x,b,h=>by
  cases hx:x==n with
  |true =>
   simp only [List.lookup_cons,hx] at h
   injection h with h
   have:x=n:=by simpa using hx
   subst this;subst h
   exact List.mem_cons_self
  |false =>
   simp only [List.lookup_cons,hx] at h
   exact List.mem_cons_of_mem _ (mem_of_lookup h)
theorem pU {X:Cx}{scope:Scope}(h:gA X.env.scope scope=true):CompSc X scope:=by
 unfold gA at h
 rw [Bool.and_eq_true] at h
 obtain ⟨h1,h2⟩:=h
 rw [List.all_eq_true] at h2
 have h3:∀ y∈scope.names,y.2=.free->X.env.kindOf y.1=some .cell\/X.env.kindOf y.1=some .free:=λy hy e=>by
  have q:=h2 y hy
  simp only [Bool.and_eq_true,e,bne_self_eq_false,Bool.false_or,Bool.or_eq_true,beq_iff_eq] at q
  exact q.2.2
 refine ⟨by simpa using h1,λy hy e=>?_,λy hy e=>?_,λx e=>h3 _ (mem_of_lookup e) rfl,h3⟩
 ·have q:=h2 y hy
  simp [e] at q
 ·have q:=h2 y hy
  simp only [Bool.and_eq_true,e,bne_self_eq_false,Bool.false_or,beq_iff_eq] at q
  exact q.1.2
section
variable {X:Cx}{pins:List (Addr×Obj)}{σ:St}{H:Hp}{s:Shared}{scope:Scope}{Nc:List Str}{fp:List Addr}{C:Addr}
theorem gC {env:Env}{x:Str}{c:Addr}(h:(cI scope env).lookup x=some c):env.cells.lookup x=some c :=
 qk env.cells scope.names [] (λc e=>by simp at e) h
theorem qR {env:Env}{x:Str}{c:Addr}(h:env.cells.lookup x=some c) (hf:scope.names.lookup x=some .free):(cI scope env).lookup x=some c :=
 h7 env.cells h scope.names [] (.inr hf) (λc e=>by simp at e)
theorem CompSc.clos (S:CompSc X scope) (ok:X.Ok):closureFor scope X.env=pure (cI scope X.env) :=
 zW λy hy e=>ok.has y.1 (S.fr2 y hy e)
theorem zX (I:Inv X pins σ H s) (S:CompSc X scope) (hf:∀ b∈fp,bN X pins H b) (hC:s.heap.objs.size<=C) (hCf:C∉fp):(X.comp scope Nc C s H fp).Ok where
 mod:=I.ok.mod
 kind:=S.kind
 glob:=I.ok.glob
 blt:=I.ok.blt
 above:=hC
 inj:=λx y c h1 h2=>I.ok.inj x y c (gC h1) (gC h2)
 has:=λx h=>by
  have e:scope.names.lookup x=some .free:=oU S.nocell h
  obtain ⟨c,hc⟩:=I.ok.has x (S.fr x e)
  exact ⟨c,qR hc e⟩
 cab:=λx c h=>by cases h
 hd:=I.ok.hd
 frames:=I.ok.frames
 stk:=.inl rfl
 exf:=λb hb=>⟨λe=>hCf ((show b=C from e) ▸ (show b∈fp from hb)),λx c h=>(hf b hb).2.2.2.2.1 x c (gC h)⟩
 bs:=I.bs
 bsz:=Nat.le_trans I.ok.bsz I.sz
 noex:=λb o e hb=>by
  rcases (hf b hb).2.2.2.1 with z|z
  ·exact I.ok.noex b o e z
  ·exact absurd (Nat.lt_of_lt_of_le (Heap.lt_size e) (Nat.le_trans I.ok.bsz z)) (Nat.lt_irrefl _)
 exfs:=λb hb hs=>by
  rcases List.mem_cons.mp (I.stkSub b hs) with z|z
  ·exact (hf b hb).2.1 z
  ·exact (hf b hb).2.2.1 z
 funs:=I.stack
 frf:=I.stkFree
theorem wH {n:Nat}{caps:List Nat}{h₁:Heap}{tk:Nat}(I:Inv X pins σ H s) (S:CompSc X scope) (hcp:eT X.N Nc scope n caps=true) (hf:∀ b∈fp,bN X pins H b) (hlt:∀ b∈fp,b<s.heap.objs.size)
  (hns:h₁.Ns (s.heap.objs.size+1) λ_=>none) (old:∀ b o,s.heap.get? b=some o->h₁.get? b=some o) (hD:h₁.get? s.heap.objs.size=some { cls:=.type "list",data:=.seq #[] 0 }) :
  Inv (X.comp scope Nc (s.heap.objs.size+1) s H fp) [] (gB n caps σ) (upd H s.heap.objs.size (.lst [])) { s with heap:=h₁,toks:=tk }:=by
 have hCf:s.heap.objs.size+1∉fp:=λz=>Nat.not_succ_lt_self (hlt _ z)
 unfold eT at hcp
 rw [Bool.and_eq_true,List.all_eq_true] at hcp
 obtain ⟨hl,hc⟩:=hcp
 have hl':n+caps.length=Nc.length:=by simpa using hl
 refine ⟨zX I S hf (Nat.le_succ _) hCf,rfl,I.bare,Un.laid old (Nat.le_refl _) I.fresh,⟨_,hns,?_⟩,?_,?_,?_,?_,I.hok.laid old (Nat.le_refl _) ⟨Nat.zero_le _,[],0,.nil,hD⟩,?_⟩
 ·intro i x v hN hv _
  have hi:n<=i:=by
   rcases Nat.lt_or_ge i n with z|z
   ·exfalso
    have hv':(List.replicate n (none:Option V)++caps.map λi=>(σ[i]?).join)[i]?=some (some v):=hv
    rw [List.getElem?_append_left (by simpa using z)] at hv'
    simp [z] at hv'
   ·exact z
  obtain ⟨j,rfl⟩:∃ j,i=n+j:=⟨i - n,by omega⟩
  have hv':(List.replicate n (none:Option V)++caps.map λi=>(σ[i]?).join)[n+j]?=some (some v):=hv
  rw [List.getElem?_append_right (by simp)] at hv'
  have e1:n+j - (List.replicate n (none:Option V)).length=j:=by simp
  rw [e1,List.getElem?_map] at hv'
  cases ec:caps[j]? with
  |none=>rw [ec] at hv';cases hv'
  |some i0 =>
   rw [ec] at hv'
   have hv2:(σ[i0]?).join=some v:=by simpa using hv'
   have hv3:σ[i0]?=some (some v):=by
    cases es:σ[i0]? with
    |none=>rw [es] at hv2;cases hv2
    |some o=>rw [es] at hv2;simp at hv2;rw [hv2]
   have hj:j<caps.length:=(List.getElem?_eq_some_iff.mp ec).1
   have q:=hc j (List.mem_range.mpr hj)
   have hN':Nc[n+j]?=some x:=hN
   rw [Bool.and_eq_true,hN',ec] at q
   obtain ⟨q1,q2⟩:=q
   have q1':X.N[i0]?=some x:=by simpa using (beq_iff_eq.mp q1).symm
   have q2':scope.names.lookup x=some .free:=by simpa using q2
   obtain ⟨m,_,hm⟩:=I.loc
   have hk:=S.fr x q2'
   obtain ⟨u,ru,lk⟩:=hm i0 x v q1' hv3 (.inr hk)
   refine ⟨u,ru,?_⟩
   rcases lk with ⟨kl,_⟩|⟨_,c,hcl,ic⟩
   ·rcases hk with z|z
    ·rw [kl] at z;cases z
    ·rw [kl] at z;cases z
   ·exact .inr ⟨oS q2',c,qR hcl q2',ic.keeps old⟩
 ·intro x c h
  obtain ⟨v,ic⟩:=I.cell x c (gC h)
  exact ⟨v,ic.keeps old⟩
 ·show upd H s.heap.objs.size (.lst []) (s.heap.objs.size+1)=none
  rw [av (Nat.succ_ne_self _)]
  exact I.hok.fresh (Nat.le_succ _)
 ·intro x c h
  obtain ⟨v,ic⟩:=I.cell x c (gC h)
  rw [av (Nat.ne_of_lt ic.lt)]
  exact I.freeC x c (gC h)
 ·intro p hp
  exact absurd (show p∈([]:List (Addr×Obj)) from hp) (by simp)
 ·show (List.replicate n (none:Option V)++caps.map λi=>(σ[i]?).join).length=Nc.length
  rw [List.length_append,List.length_replicate,List.length_map]
  exact hl'
theorem xi {pins':List (Addr×Obj)}{σ':St}{H':Hp}{s':Shared}(I:Inv X pins σ H s) (hf:∀ b∈fp,bN X pins H b) (J:Inv (X.comp scope Nc C s H fp) pins' σ' H' s'):Inv X pins σ H' s' :=
 I.call' J.os J.base J.hok J.bare λb hb=>⟨(hf b hb).2.2.2.1,(hf b hb).2.1,(hf b hb).2.2.2.2.1,(hf b hb).2.2.2.2.2⟩
theorem Inv.but {h':Heap}(I:Inv X pins σ H s) (hs:Heap.SameBut C s.heap h') (hn:H C=none) (h0:X.s₀.heap.objs.size<=C) (hl:C≠X.env.locals) (hc:∀ x c,X.env.cells.lookup x=some c->c≠C)
  (hp:∀ p∈X.pn++pins,p.1≠C):Inv X pins σ H { s with heap:=h' }:=by
 refine I.call' (s':={ s with heap:=h' }) (ch:=[C]) rfl ⟨λb o e _ _ hb=>hs.extBut b o (by simpa using hb) e,λb o e _ _ hb=>⟨o.slots,hs.extBut b o (by simpa using hb) e⟩,λb o _ n _=>n,λb o e hb=>⟨o,hs.extBut b o (by simpa using hb) e⟩,
  λ_ _ z=>z,λ_ _ _ z=>z,λb ps z=>⟨#[],by simpa using z⟩⟩ (λa o e=>?_) I.bare ?_
 ·refine (I.hok a o e).stay (λb u hb q=>hs.extBut b u ?_ q) (λ_ z=>z) λ_ _ z=>z
  rcases hb with rfl|hb
  ·exact λz=>by rw [z,hn] at e;cases e
  ·exact λz=>by rw [z,hn] at hb;cases hb
 ·intro b hb
  obtain rfl:b=C:=by simpa using hb
  exact ⟨.inr h0,hl,hc,hp⟩
def PTs (X:Cx) (ifs:List Expr) (t:TT):Prop :=
 ∀ (pins:List (Addr×Obj)) (s:Shared) (σ:St) (H:Hp) (Q:Bool->Hp->Prop),Inv X pins σ H s->t σ H Q ->
  wpAny (model X.prog X.w) X.A (forIn ifs true λc r=>if r=true then do let ok <- isTrue c X.env (eval c X.env);pure (ForInStep.yield ok) else pure (ForInStep.yield r)) (TP X pins σ Q) X.xe s
def Ey:TT:=λ_ H Q=>Q true H
theorem zY:PTs X [] Ey:=λ_ _ _ H _ I h=>wpAny_tests_nil ⟨H,I,h⟩
theorem zZ {c:Expr}{t:TT}(h:PT X c t):PTs X [c] t:=λpins s σ H Q I hw=>wpAny_tests_one (h pins s σ H Q I hw)
variable {elt iter target:Expr}{ifs:List Expr}{pos:Pos}{n:Nat}{caps:List Nat}{wi:TI}{g:TG}{tt:TT}{te:TE}
end
section
variable {X:Cx}{K:PySem.W.Frag}
theorem dX {es:List Expr}{k:Nat}{pos:Pos}{t:TGs}{n:Nat}(hK:X.K=K) (hc:X.calm=true) (h:PGs X es t)
  (hn:(assignEach es X.env).length=n:=by rfl) (hst:(assignEach es X.env).findIdx? (·.1)=none:=by rfl):PG X (.Tuple es k pos) (nQ K n t):=by subst hK;exact BQ hc h hn hst
end
section
variable {K:PySem.W.Frag}{a D:Addr}{xs:List V}{n:Nat}{caps:List Nat}{g:TG}{tt:TT}{te:TE}{σ:St}{H1:Hp}{Q:Hp->Prop}
end
mutual
inductive DatV (K:PySem.W.Frag) (H:Hp):V->PyData->Prop
 |non:DatV K H .non .none
 |bl (b:Bool):DatV K H (.bl b) (.bool b)
 |int (i:Int):DatV K H (.int i) (.int i)
 |str (x:Str):DatV K H (.str x) (.str x)
 |lst {a:Addr}{xs:List V}{ds:List PyData}:SqL K H a xs->DatVs K H xs ds->DatV K H (.ref a) (.list ds)
 |tup {a:Addr}{xs:List V}{ds:List PyData}:SqT K H a xs->DatVs K H xs ds->DatV K H (.ref a) (.tuple ds)
inductive DatVs (K:PySem.W.Frag) (H:Hp):List V->List PyData->Prop
 |nil:DatVs K H [] []
 |cons {x:V}{xs:List V}{d:PyData}{ds:List PyData}:DatV K H x d->DatVs K H xs ds->DatVs K H (x::xs) (d::ds)
end
section
variable {X:Cx}{pins:List (Addr×Obj)}{σ:St}{H:Hp}{s:Shared}
mutual
theorem dW (I:Inv X pins σ H s):∀ {v:V}{d:PyData}{u:Value},DatV X.K H v d->ao v u->∃ as,Reads s.heap u d as
 |_,_,_,.non,r=>by cases (show _=Value.none from r);exact ⟨_,.none⟩
 |_,_,_,.bl b,r=>by cases (show _=Value.bool b from r);exact ⟨_,.bool b⟩
 |_,_,_,.int i,r=>by obtain ⟨t,rfl⟩:=r;exact ⟨_,.int i t⟩
 |_,_,_,.str x,r=>by obtain ⟨t,rfl⟩:=r;exact ⟨_,.str x t⟩
 |_,_,_,.lst (a:=a) hq hs,r=>by
  cases (show _=Value.ref a from r)
  obtain ⟨its,rv,pl,_⟩:=I.list hq
  obtain ⟨o,n,e,c,_,dd⟩:=pl
  obtain ⟨as,ra⟩:=kP I hs rv
  exact ⟨_,.list e c dd (by simpa using ra)⟩
 |_,_,_,.tup (a:=a) hq hs,r=>by
  cases (show _=Value.ref a from r)
  obtain ⟨its,rv,pl,_⟩:=I.tuple hq
  obtain ⟨o,e,c,n,dd⟩:=pl
  obtain ⟨as,ra⟩:=kP I hs rv
  exact ⟨_,.tuple e c dd (by simpa using ra)⟩
theorem kP (I:Inv X pins σ H s):∀ {xs:List V}{ds:List PyData}{us:List Value},DatVs X.K H xs ds->aj xs us->∃ as,ReadsAll s.heap us ds as
 |_,_,_,.nil,.nil=>⟨_,.nil⟩
 |_,_,_,.cons h hs,.cons r rs=>by
  obtain ⟨as,ra⟩:=dW I h r
  obtain ⟨bs,rb⟩:=kP I hs rs
  exact ⟨_,.cons ra rb⟩
end
def vk (K:PySem.W.Frag) (neg:Bool):R2:=λx y H Q=>∃ dx dy,DatV K H x dx/\DatV K H y dy/\dx.canLay0=true/\dy.canLay0=true/\min dx.depth dy.depth<=64/\Q (.bl (neg ^^ PyData.eqv dx dy)) H
theorem Ch (hu:X.A.units+64<cLine):OpR X (compareOp .Eq) (vk X.K false):=by
 intro pins s σ H x y v u Q I rx ry h
 obtain ⟨dx,dy,h1,h2,c1,c2,hd,q⟩:=h
 obtain ⟨as,ra⟩:=dW I h1 rx
 obtain ⟨bs,rb⟩:=dW I h2 ry
 exact PySem.SeqAt.compareEq_reads ra rb c1 c2 (by omega) ⟨.bl (PyData.eqv dx dy),H,I,rfl,by simpa using q⟩
theorem Ci (hu:X.A.units+64<cLine):OpR X (compareOp .NotEq) (vk X.K true):=by
 intro pins s σ H x y v u Q I rx ry h
 obtain ⟨dx,dy,h1,h2,c1,c2,hd,q⟩:=h
 obtain ⟨as,ra⟩:=dW I h1 rx
 obtain ⟨bs,rb⟩:=dW I h2 ry
 exact PySem.SeqAt.compareNe_reads ra rb c1 c2 (by omega) ⟨.bl (!PyData.eqv dx dy),H,I,rfl,by simpa using q⟩
end
section
variable {prog:Program}{w:World}{A:Around}{R:Result->Shared->Prop}{I:Addr}{fp wr:List Addr}{n:Nat}{P:Nat->Value->Prop}{St:Nat->Heap->Prop}
theorem kN {E:Value->Shared->Prop}{s:Shared}{id:String}{b:Builtin}{args:List Value}{kw:List (Str×Value)}{Q:Value->Shared->Prop}(hk:builtinKind id=none) (hp:plainId id=true)
  (hb:entryFor table id=some b) (ha:argsOk id ⟨args,kw⟩)
  (hc:wpAny (model prog w) A.in1 (b ⟨args,kw⟩) (λfin s'=>match fin with
   |.done f=>(match (Except.ok f:Result) with|.ok (.ret v)=>Q v s'|.ok _=>False|.error e=>E e s')
   |.again c'=>c'.quiet=true/\codeAny (model prog w) A c' (λr s'=>match r with|.ok (.ret v)=>Q v s'|.ok _=>False|.error e=>E e s') s') E s) :
  wpAny (model prog w) A (call (.builtin id) args kw) Q E s:=by
 refine wpAny_call (codeAny_call_builtin hp hb ?_)
 simp only [checkBuiltinCall,hk]
 cases hsig:Manifest.signature? id with
 |none=>exact wpAny_pure hc
 |some sig =>
  simp only [argsOk,hsig] at ha
  have h2:Bind.checkArgs id sig ⟨args,kw⟩=pure ():=ha
  show wpAny _ A.in1 (Bind.checkArgs id sig ⟨args,kw⟩) _ _ s
  rw [h2];exact wpAny_pure hc
end
theorem jw {α:Type}{l:List α}{i:Nat}{d:α}(h:i<l.length):l.getD i d=l[i]:=by simp [h]
def iO (ns:List Int) (i j:Nat):Bool:=decide (ns.getD j 0<ns.getD i 0)
theorem kQ (ns:List Int):∀ k i,i<=k->ns.getD i 0<=ns.getD (argBest (iO ns) k) 0
 |0,i,h=>by
  obtain rfl:i=0:=by omega
  exact Int.le_refl _
 |k+1,i,h=>by
  unfold argBest
  by_cases hb:iO ns (k+1) (argBest (iO ns) k)=true
  ·rw [if_pos hb]
   have hb':=of_decide_eq_true hb
   by_cases e:i=k+1
   ·rw [e];exact Int.le_refl _
   ·have:=kQ ns k i (by omega)
    omega
  ·rw [if_neg hb]
   by_cases e:i=k+1
   ·have hb':=of_decide_eq_false (Bool.eq_false_iff.mpr hb)
    rw [e];omega
   ·exact kQ ns k i (by omega)
theorem mB {us:List Value}{ns:List Int}(r:aj (ns.map V.int) us){i:Nat}{v:Value}(h:us.toArray[i]?=some v):i<ns.length/\∃ t,v=.int (ns.getD i 0) t:=by
 have h':us[i]?=some v:=by simpa using h
 have hl:i<us.length:=(List.getElem?_eq_some_iff.mp h').1
 have hn:=r.length
 rw [List.length_map] at hn
 have hi:i<ns.length:=by omega
 obtain ⟨u,h1,h2⟩:=r.get (i:=i) (x:=.int (ns.getD i 0)) (by simp [hi])
 rw [h'] at h1
 injection h1 with h1
 subst h1
 exact ⟨hi,h2⟩
theorem qS {s:Shared}{b:Addr}{o:Obj}(e:s.heap.get? b=some o):b∉[s.heap.objs.size]:=λz=>by
 have h:=Heap.lt_size e
 rw [List.mem_singleton.mp z] at h
 exact Nat.lt_irrefl _ h
theorem yi {s:Shared}{p:Addr}{its:Array Value}{o':Obj}(il:s.heap.IsList p its):∀ b∈[s.heap.objs.size,p],b<(s.heap.push o').objs.size:=λb hb=>by
 obtain ⟨o,e,_⟩:=il
 rw [Heap.size_push]
 rcases List.mem_cons.mp hb with h|h
 ·rw [h];exact Nat.lt_succ_self _
 ·rw [List.mem_singleton.mp h];exact Nat.lt_succ_of_lt (Heap.lt_size e)
section
variable {X:Cx}
theorem yj {pins:List (Addr×Obj)}{σ:St}{H:Hp}{s:Shared}{p:Addr}{ns:List Int}(hc:X.calm=true) (I:Inv X pins σ H s) (hS:SqL X.K H p (ns.map V.int)) :
  ∃ its:List Value,aj (ns.map V.int) its/\its.length=ns.length/\s.heap.IsList p its.toArray/\CmpOf X.prog X.w X.A.in1 .Gt (λi v=>its.toArray[i]?=some v) (iO ns) /\
   Walks X.prog X.w X.A.in1 s.heap.objs.size [s.heap.objs.size,p] [s.heap.objs.size] its.toArray.size (λi v=>its.toArray[i]?=some v) (λi h=>h.IsListIter s.heap.objs.size p i/\h.IsList p its.toArray):=by
 obtain ⟨its,rv,pl,hz⟩:=I.list hS
 have hl:=rv.length
 rw [List.length_map] at hl
 refine ⟨its,rv,hl.symm,pl.isList,λi j vi vj s Q E hi hj q=>?_,Walks.list (A:=X.A.in1) (I.ok.hd hc) _ _ ?_ _⟩
 ·obtain ⟨_,t,rfl⟩:=mB rv hi
  obtain ⟨_,t',rfl⟩:=mB rv hj
  exact gt_int q
 ·obtain ⟨o,n,e,_⟩:=pl
  exact Nat.ne_of_lt (Heap.lt_size e)
theorem xj (hc:X.calm=true):bw X (.builtin "max") (λxs H Q=>∃ p ns,xs=[.ref p]/\SqL X.K H p (ns.map V.int)/\ns≠[]/\∀ m,m∈ns->(∀ x∈ns,x<=m)->Q (.int m) H):=by
 intro pins s σ H xs us Q I r h
 obtain ⟨p,ns,rfl,hS,hne,q⟩:=h
 obtain ⟨u,rfl,ru⟩:=bZ r
 cases ru
 obtain ⟨its,rv,hl,il,hcmp,W⟩:=yj hc I hS
 refine call_max_walk (wpAny_pyIter_list il ⟨_,_,_,_,_,_,iO ns,rfl,W,⟨⟨_,Heap.get?_push_size _ rfl,rfl,rfl⟩,il.push _⟩,yi il,?_,hcmp,λv h' tk hP hk=>?_⟩)
 ·have:0<ns.length:=List.length_pos_iff.mpr hne
  rw [List.size_toArray];omega
 ·obtain ⟨hi,t,rfl⟩:=mB rv hP
  refine ⟨.int _,H,I.kept λb o e=>hk b o (qS e) (Heap.get?_push_of_some _ e),⟨t,rfl⟩,q _ ?_ λx hx=>?_⟩
  ·rw [jw hi];exact List.getElem_mem hi
  ·obtain ⟨j,hj,rfl⟩:=List.mem_iff_getElem.mp hx
   have:=kQ ns (its.toArray.size - 1) j (by rw [List.size_toArray];omega)
   rw [jw hj] at this
   exact this
def sR (X:Cx) (f:Value) (ks:List Str) (r:List V->List V->Hp->VK->Prop):Prop :=
 ∀ (pins:List (Addr×Obj)) (s:Shared) (σ:St) (H:Hp) (xs zs:List V) (us ws:List Value) (Q:VK),Inv X pins σ H s->aj xs us->aj zs ws->r xs zs H Q ->
  wpAny (model X.prog X.w) X.A (call f us (ks.zip ws)) (EP X pins σ Q) X.xe s
def vm (r:List V->List V->Hp->VK->Prop) (t tk:TA):TE:=λσ H Q=>t σ H λvs H1=>tk σ H1 λzs H2=>r vs zs H2 Q
theorem xk {x:Str}{p pos:Pos}{e:Expr}{es:List Expr}{kws:List Keyword}{t tk:TA}{id:String}{ks:List Str}{r:List V->List V->Hp->VK->Prop}(hc:sR X (.builtin id) ks r) (hg:Gl X x) (hm:X.mg x=none)
  (hv:bootBuiltins x=some (.builtin id)) (ha:PA X (e::es) t) (hkw:PK X kws tk) (hks:(backToKw pos (keywordEach kws X.env)).filterMap (·.1)=ks:=by rfl) (hn:x ≠ "__name__":=by decide) (hdb:(x==("__debug__":Str))=false:=by decide)
  (he:backTo pos (starEach (e::es) X.env)=(false,eval e X.env)::backTo pos (starEach es X.env):=by rfl)
  (hplain:(backTo pos (starEach (e::es) X.env)).any (·.1)=false:=by rfl)
  (hall:(backToKw pos (keywordEach kws X.env)).all (·.1.isSome)=true:=by rfl)
  (hkw2:(backToKw pos (keywordEach kws X.env)).any (·.1.isNone)=false:=by rfl):PE X (.Call (.Name x p) (e::es) kws pos) (vm r t tk):=by
 intro pins s σ H Q I h
 refine wpAny_Call_Name_kw (jN I hg hm hv ?_ hn hdb)
 refine PyProof.Rows.callWith_kw (thn (ha pos pins s σ H _ I h) λus s1 ⟨vs,H1,I1,r1,q1⟩=>thn (hkw pos pins s1 σ H1 _ I1 q1) λws s2 ⟨zs,H2,I2,r2,q2⟩=>?_) he hplain hall hkw2
 rw [hks]
 exact hc pins s2 σ H2 vs zs us ws Q I2 r1 r2 q2
end
def Its (x:Str):It:=⟨λi _=>i<x.cps.toList.length,λi H v H'=>H'=H/\∃ c,x.cps.toList[i]?=some c/\v=.str ⟨#[c]⟩,λi _=>x.cps.toList.length<=i⟩
theorem qm {P:Program}{w:World}{K:PySem.W.Frag}{tg:Expr}(it:Addr) (x:Str) (t:Tok) (ty:String) (hty:ty="str_ascii_iterator" \/ ty="str_iterator"):Turn P w K tg (Its x) [it] it (λi h=>h.IsStrIter it ty x t i) where
 mem:=by simp
 obj:=λi h st b hb=>by
  have e:b=it:=by simpa using hb
  subst e
  obtain ⟨o,e,c,d⟩:=st
  exact ⟨o,e,λv z=>by rw [d] at z;cases z⟩
 keep:=λi h h' st k=>let ⟨o,ho,r⟩:=st;⟨o,k it (by simp) o ho,r⟩
 item:=by
  intro X hP hw hK hc i pins s σ H E I hf st hg
  subst hP hw hK
  obtain ⟨f0,f1,f2,f3,f4,f5⟩:=hf it (by simp)
  have hi:i<x.cps.size:=by simpa [Its] using hg
  have hx:x.cps[i]?=some x.cps[i]:=by simp [hi]
  have fin:∀ h',h'.IsStrIter it ty x t (i+1)->Heap.SameBut it s.heap h'->(∃ u,some (Value.str ⟨#[x.cps[i]]⟩ s.toks)=some u /\
    wpAny (model X.prog X.w) X.A (letOwnedTupleGo tg (.ref it) u) (λ_ s2=>∃ y H',Inv X pins σ H' s2/\ao y u/\(Its x).yld i H y H'/\s2.heap.IsStrIter it ty x t (i+1)/\∀ b∈[it],H' b=none) E { s with heap:=h',toks:=s.toks+1 }):=λh' st' sb=>by
   have I1:Inv X pins σ H { s with heap:=h',toks:=s.toks+1 }:=I.turned (λb o hb e=>(sb.2 b hb).trans e) f0 f1 f3 f4 f5
   obtain ⟨o,e,c,d⟩:=id st'
   refine ⟨_,rfl,nj (s:={ s with heap:=h',toks:=s.toks+1 }) (n:=ty) e c d (by rcases hty with rfl|rfl<;>decide) ⟨.str ⟨#[x.cps[i]]⟩,H,I1,⟨_,rfl⟩,⟨rfl,x.cps[i],by simp [hi],rfl⟩,st',λb hb=>(hf b hb).1⟩⟩
  rcases hty with rfl|rfl
  ·exact wpAny_pyNext_ascii_item st hx λh' st' sb=>fin h' st' sb
  ·exact wpAny_pyNext_wide_item st hx λh' st' sb=>fin h' st' sb
 done:=by
  intro X hP hw hK hc i pins s σ H E I hf st hg
  subst hP hw hK
  obtain ⟨f0,f1,f2,f3,f4,f5⟩:=hf it (by simp)
  have hi:x.cps.size<=i:=by simpa [Its] using hg
  have hx:x.cps[i]?=none:=by simp [hi]
  rcases hty with rfl|rfl
  ·exact wpAny_pyNext_ascii_end (I.ok.hd hc) st hx λh' eb=>⟨rfl,I.turned (t':=s.toks) (λb o hb e=>eb b o hb e) f0 f1 f3 f4 f5⟩
  ·exact wpAny_pyNext_wide_end (I.ok.hd hc) st hx λh' eb=>⟨rfl,I.turned (t':=s.toks) (λb o hb e=>eb b o hb e) f0 f1 f3 f4 f5⟩
 self:=λ_ _ _ _ _ st h=>by
  rcases hty with rfl|rfl
  ·exact wpAny_pyIter_striter_ascii st h
  ·exact wpAny_pyIter_striter_wide st h
section
variable {X:Cx}{tg:Expr}
def GE (tl:TE):TI:=λσ H R=>tl σ H λx H1=>∃ z,x=.str z/\R (Its z) H1
theorem Cj {l:Expr}{tl:TE}(hl:PE X l tl):PI X tg l (GE tl):=by
 intro pins s σ H R I h
 refine thn (hl pins s σ H _ I h) λv s1 zz40=>?_
 obtain ⟨x,H1,I1,r1,q1⟩:=zz40
 obtain ⟨z,e,q⟩:=q1
 subst e
 obtain ⟨t,rfl⟩:=r1
 have fp:∀ b∈[s1.heap.objs.size],bN X pins H1 b:=λb hb=>by
  have e:b=s1.heap.objs.size:=by simpa using hb
  subst e
  exact I1.fpOk (Nat.le_refl _) (I1.hok.fresh (Nat.le_refl _))
 cases ha:z.cps.all (·<128)
 ·exact wpAny_pyIter_wide ha ⟨s1.heap.objs.size,[s1.heap.objs.size],_,_,H1,rfl,I1.kept (t':=s1.toks) λb o e=>Heap.get?_push_of_some _ e,qm _ z t "str_iterator" (.inr rfl),⟨_,Heap.get?_push_size _ rfl,rfl,rfl⟩,fp,q⟩
 ·exact wpAny_pyIter_ascii ha ⟨s1.heap.objs.size,[s1.heap.objs.size],_,_,H1,rfl,I1.kept (t':=s1.toks) λb o e=>Heap.get?_push_of_some _ e,qm _ z t "str_ascii_iterator" (.inl rfl),⟨_,Heap.get?_push_size _ rfl,rfl,rfl⟩,fp,q⟩
end
section
variable {X:Cx}
theorem xl:OpR X (compareOp .LtE) (λx y H Q=>∃ i j,x=.str i/\y=.str j/\Q (.bl (!decide (j.cps.toList<i.cps.toList))) H):=by
 intro pins s σ H x y v u Q I rx ry h
 obtain ⟨i,j,rfl,rfl,q⟩:=h
 obtain ⟨t,rfl⟩:=rx
 obtain ⟨t',rfl⟩:=ry
 exact PySem.P.le_str (aL I q rfl)
def GF:V->Option Int->Option Int->Hp->VK->Prop:=λx lo hi H Q=>∃ z,x=.str z/\z.length<=sizeLine/\Q (.str (Txt.slice z lo hi)) H
theorem jx {v:Value}{o:Option Int}(p:IsPart v o):∃ q:Option (Int×Tok),v=partValue q/\q.map (·.1)=o:=by
 cases p with
 |none=>exact ⟨none,rfl,rfl⟩
 |int i t=>exact ⟨some (i,t),rfl,rfl⟩
theorem Ck:SlR X GF:=by
 intro pins s σ H x v vl vu lo hi sl Q I rx hs pl pu h
 obtain ⟨z,rfl,hz,q⟩:=h
 obtain ⟨t,rfl⟩:=rx
 obtain ⟨ql,rfl,rfl⟩:=jx pl
 obtain ⟨qu,rfl,rfl⟩:=jx pu
 obtain ⟨o,ho,hc,hd⟩:=hs
 refine ⟨"str",_,F.slot_str_getitem.lookup,typeIs_str _ _ _,wpAny_getItem_str_slice (l:=ql) (u:=qu) (st:=none) ⟨o,ho,hc,hd⟩ rfl (post_val_or_str ⟨Nat.le_trans (Txt.slice_le z _ _) hz,λt' k=>?_⟩)⟩
 exact ⟨.str (Txt.slice z (ql.map (·.1)) (qu.map (·.1))),H,I.tok k,⟨t',rfl⟩,q⟩
theorem xm (hc:X.calm=true):bw X (.builtin "all") (λxs H Q=>∃ (p:Addr) (bs:List Bool),xs=[.ref p]/\SqL X.K H p (bs.map V.bl)/\Q (.bl (bs.all id)) H):=by
 intro pins s σ H xs us Q I r h
 obtain ⟨p,bs,rfl,hS,q⟩:=h
 obtain ⟨u,rfl,ru⟩:=bZ r
 cases ru
 obtain ⟨its,rv,pl,hz⟩:=I.list hS
 have il:=pl.isList
 have hl:=rv.length
 rw [List.length_map] at hl
 have bAt:∀ {i:Nat}{v:Value},its.toArray[i]?=some v->v=.bool (bs.getD i true):=fun {i v} h=>by
  have h':its[i]?=some v:=by simpa using h
  have hi:i<its.length:=(List.getElem?_eq_some_iff.mp h').1
  have hb:i<bs.length:=by omega
  obtain ⟨u,h1,h2⟩:=rv.get (i:=i) (x:=.bl (bs.getD i true)) (by simp [hb])
  rw [h'] at h1
  injection h1 with h1
  subst h1
  exact h2
 have W:=Walks.list (prog:=X.prog) (w:=X.w) (A:=X.A.in1) (I.ok.hd hc) s.heap.objs.size p (by
  obtain ⟨o,n,e,_⟩:=pl
  exact Nat.ne_of_lt (Heap.lt_size e)) its.toArray
 refine call_all_walk (wpAny_pyIter_list il ⟨_,_,_,_,_,_,λi=>bs.getD i true,rfl,W,⟨⟨_,Heap.get?_push_size _ rfl,rfl,rfl⟩,il.push _⟩,λi v s Q E hv hq=>?_,λh' tk hk=>?_⟩)
 ·rw [bAt hv]
  exact wpAny_truthy_bool hq
 ·refine ⟨.bl _,H,I.kept λb o e=>hk b o (qS e) (Heap.get?_push_of_some _ e),?_,q⟩
  show Value.bool _=Value.bool _
  congr 1
  have e1:its.toArray.size=bs.length:=by rw [List.size_toArray];omega
  rw [e1]
  clear q hS rv bAt W hl e1
  rw [Bool.eq_iff_iff,List.all_eq_true,List.all_eq_true]
  constructor
  ·intro h b hb
   obtain ⟨i,hi,rfl⟩:=List.mem_iff_getElem.mp hb
   have:=h i (List.mem_range.mpr hi)
   rw [jw hi] at this
   exact this
  ·intro h i hi
   have hi':=List.mem_range.mp hi
   rw [jw hi']
   exact h _ (List.getElem_mem hi')
def Cl:V->List V->Hp->VK->Prop:=λx vs H Q=>∃ a b,x=.str a/\vs=[.str b]/\b.length≠0/\a.length<=1000/\∀ l,H l=none->Q (.ref l) (upd H l (.lst ((Txt.split a b).map V.str)))
theorem pV:∀ {l:List (Str×Tok)},aj (l.map λp=>V.str p.1) (strValues l)
 |[]=>.nil
 |(x,t)::r=>.cons ⟨t,rfl⟩ pV
theorem yk:MtR X "str.split" Cl:=by
 intro pins s σ H x vs v us Q I rx rv h
 obtain ⟨a,b,rfl,rfl,hb,hz,q⟩:=h
 obtain ⟨t,rfl⟩:=rx
 obtain ⟨u,rfl,t2,rfl⟩:=bZ rv
 have hlen:=PyProof.Rows.split_le a b
 have hy:(b.length==0)=false:=by simpa using hb
 have hbig:1002<=sizeLine:=by decide
 have hsz:a.length<=sizeLine:=by omega
 have fin:∀ (l:List (Str×Tok)) (k:Nat),l.map (·.1)=Txt.split a b->EP X pins σ Q (.ref s.heap.objs.size) { s with heap:=s.heap.push { cls:=.type "list",data:=.seq (strValues l).toArray },toks:=k }:=λl k e=>by
  have e1:l.length=(Txt.split a b).length:=by rw [<- e,List.length_map]
  have e2:(l.map λp=>V.str p.1)=(Txt.split a b).map V.str:=by rw [<- e,List.map_map];rfl
  refine ⟨.ref _,_,I.lnew (its:=strValues l) (ys:=l.map λp=>V.str p.1) pV (by rw [List.length_map];omega),rfl,?_⟩
  rw [e2]
  exact q _ I.fresh
 cases h1:(decide (a.length<b.length) || decide (Builtin.Str.strKind a<Builtin.Str.strKind b))
 ·cases hf:(Builtin.Str.occurrences a b 0 a.length (a.length+1)).isEmpty
  ·have e3:Txt.split a b=Builtin.Str.partsBetween a (Builtin.Str.occurrences a b 0 a.length (a.length+1)) b.length:=(if_neg (ne_true_of_eq_false h1)).trans (if_neg (ne_true_of_eq_false hf))
   have hsz2:(Builtin.Str.partsBetween a (Builtin.Str.occurrences a b 0 a.length (a.length+1)) b.length).length<=sizeLine:=by rw [<- e3];omega
   refine call_meets F.slot_str_split (typeIs_str _ _ _) F.entry_str_split (F.args_str_split_2 _ _) (meets_str_split_sep a b t t2 h1 hy hf hsz hsz2) ?_
   show wants _ _ _ { s with toks:=_,heap:=s.heap.push { cls:=.type "list",data:=.seq (strsFrom s.toks (Builtin.Str.partsBetween a (Builtin.Str.occurrences a b 0 a.length (a.length+1)) b.length)).toArray } }
   rw [strsFrom_eq]
   exact fin (numbered s.toks _) _ ((numbered_texts _ _).trans e3.symm)
  ·exact call_meets F.slot_str_split (typeIs_str _ _ _) F.entry_str_split (F.args_str_split_2 _ _) (meets_str_split_not_found a b t t2 h1 hy hf)
    (fin [(a,t)] s.toks ((if_neg (ne_true_of_eq_false h1)).trans (if_pos hf)).symm)
 ·exact call_meets F.slot_str_split (typeIs_str _ _ _) F.entry_str_split (F.args_str_split_2 _ _) (meets_str_split_cannot_occur a b t t2 h1)
   (fin [(a,t)] s.toks (if_pos h1).symm)
theorem qT:∀ {zs:List Str}{its:List Value},aj (zs.map V.str) its->∃ l:List (Str×Tok),its=strValues l/\l.map (·.1)=zs
 |[],_,r=>by
  rw [List.map_nil] at r
  cases r
  exact ⟨[],rfl,rfl⟩
 |z::zs,_,r=>by
  rw [List.map_cons] at r
  cases r with
  |cons r1 r2 =>
   obtain ⟨t,rfl⟩:=r1
   obtain ⟨l,rfl,e⟩:=qT r2
   exact ⟨(z,t)::l,rfl,by rw [List.map_cons,e]⟩
def Ez (K:PySem.W.Frag):V->List V->Hp->VK->Prop:=λx vs H Q=>∃ (a:Str) (p:Addr) (zs:List Str),x=.str a/\vs=[.ref p]/\SqL K H p (zs.map V.str)/\JoinOk a zs=true/\Q (.str (Txt.join a zs)) H
theorem z0:MtR X "str.join" (Ez X.K):=by
 intro pins s σ H x vs v us Q I rx rv h
 obtain ⟨a,p,zs,rfl,rfl,hS,hok,q⟩:=h
 obtain ⟨t,rfl⟩:=rx
 obtain ⟨u,rfl,ru⟩:=bZ rv
 cases ru
 obtain ⟨its,r,pl,hz⟩:=I.list hS
 obtain ⟨l,rfl,e⟩:=qT r
 exact SC.join pl.isList e hok λt' k=>⟨.str (Txt.join a zs),H,I.tok k,⟨t',rfl⟩,q⟩
end
def a9 (D:Addr) (zs:List V):HO:=.ext λh=>zs.length<=sizeLine/\∃ (its:List Value) (n:Nat),aj zs its/\h.get? D=some { cls:=.type "list",data:=.seq its.toArray n }
theorem Inv.toAcc {X:Cx}{pins:List (Addr×Obj)}{σ:St}{H:Hp}{s:Shared}{D:Addr}{zs:List V}(I:Inv X pins σ H s) (h:H D=some (.lst zs)):Inv X pins σ (upd H D (a9 D zs)) s:=by
 obtain ⟨z,its,n,r,e⟩:=I.hok D _ h
 obtain ⟨hh,g,d,t,os⟩:=s
 exact I.write (t':=t) (h':=hh) (x:=D) (e:=D) (by rw [h];trivial) (.inl rfl) (λb u _ q=>q) ⟨_,e⟩ ⟨⟨z,its,n,r,e⟩,⟨_,e⟩,λh1 h2 zz41 k=>by obtain ⟨z',its',n',r',e'⟩:=zz41;exact ⟨z',its',n',r',k _ e'⟩⟩
theorem Inv.ofAcc {X:Cx}{pins:List (Addr×Obj)}{σ:St}{H:Hp}{s:Shared}{D:Addr}{zs:List V}(I:Inv X pins σ H s) (h:H D=some (a9 D zs)):Inv X pins σ (upd H D (.lst zs)) s:=by
 obtain ⟨⟨z,its,n,r,e⟩,_,_⟩:=I.hok D _ h
 obtain ⟨hh,g,d,t,os⟩:=s
 exact I.write (t':=t) (h':=hh) (x:=D) (e:=D) (by rw [h];trivial) (.inl rfl) (λb u _ q=>q) ⟨_,e⟩ ⟨z,its,n,r,e⟩
section
variable {X:Cx}{pins:List (Addr×Obj)}{σ:St}{H:Hp}{s:Shared}{scope:Scope}{Nc:List Str}{fp:List Addr}{C:Addr}
def sS (J:It) (n:Nat) (caps:List Nat) (g:TG) (tt:TT) (te:TE) (σ:St) (H1:Hp) (Q:VK):Prop:=∀ D,H1 D=none->∃ W:Nat->Nat->List V->St->Hp->Prop,(∃ m,W 0 m [] (gB n caps σ) (upd H1 D (a9 D [])))/\∀ i m zs σc H,W i m zs σc H ->
 H D=some (a9 D zs)/\((J.stop i H/\Q (.ref D) (upd H D (.lst zs)))\/(J.go i H/\∃ N:List V->St->Hp->Prop,(∀ zs' σ' H',N zs' σ' H'->∃ m',m'<m/\W (i+1) m' zs' σ' H')/\∀ x H',J.yld i H x H'->g x σc H' λσ2 H2=>tt σ2 H2 λb H3 =>
  if b=true then te σ2 H3 λy H4=>H4 D=some (a9 D zs)/\zs.length<sizeLine/\N (zs++[y]) σ2 (upd H4 D (a9 D (zs++[y]))) else N zs σ2 H3))
def mC (wi:TI) (n:Nat) (caps:List Nat) (g:TG) (tt:TT) (te:TE):TE:=λσ H Q=>wi σ H λJ H1=>sS J n caps g tt te σ H1 Q
variable {elt iter target:Expr}{ifs:List Expr}{pos:Pos}{n:Nat}{caps:List Nat}{wi:TI}{g:TG}{tt:TT}{te:TE}
theorem pb {J:It}{it:Addr}{tn:Nat->Heap->Prop}{Q:VK}{E:Value->Shared->Prop}{RR:Value->Addr->Result->Shared->Prop}(hcalm:X.calm=true) (S:CompSc X scope) (hcp:eT X.N Nc scope n caps=true)
  (hg:∀ C s₀ H₀ ex,PG (X.comp scope Nc C s₀ H₀ ex) target g) (ht:∀ C s₀ H₀ ex,PTs (X.comp scope Nc C s₀ H₀ ex) ifs tt) (he:∀ C s₀ H₀ ex,PE (X.comp scope Nc C s₀ H₀ ex) elt te)
  (I:Inv X pins σ H s) (T:Turn X.prog X.w X.K target J fp it tn) (t0:tn 0 s.heap) (hf:∀ b∈fp,bN X pins H b) (hw:sS J n caps g tt te σ H Q)
  (fin:∀ (D:Addr) (s':Shared) (H':Hp) (m:Str->Option Value),Inv X pins σ H' s'->H' (s.heap.objs.size+1)=none->s'.heap.Ns (s.heap.objs.size+1) m->Q (.ref D) H'->RR (.ref D) (s.heap.objs.size+1) (.ok .next) s') :
  wpAny (model X.prog X.w) X.A (newList []) (λacc s₃=>wpAny (model X.prog X.w) X.A (newFunctionEnv scope X.env.globals (cI scope X.env) [] X.env.qual none .none (some X.env)) (λcenv s₄ =>
   codeAny (model X.prog X.w) X.A (.compStart (.ListComp elt [⟨target,iter,ifs,0⟩] scope pos) 0 (.ref it) acc { cenv with scope:=relabel scope X.env }) (RR acc cenv.locals) s₄) E s₃) E s:=by
 refine wpAny_newObj_type (wpAny_newFunctionEnv S.nocell (by intro y hy;simp at hy) (λh₁ hns₁ hsb₁=>?_) S.kind)
 dsimp only at hns₁ hsb₁ ⊢
 generalize hH2:s.heap.push { cls:=.type "list",dict:=none,data:=.seq ([]:List Value).toArray }=H2 at hns₁ hsb₁ ⊢
 have hC:H2.objs.size=s.heap.objs.size+1:=by rw [<- hH2,Heap.size_push]
 rw [hC] at hns₁ hsb₁
 have hlt:∀ b∈fp,b<s.heap.objs.size:=λb hb=>by
  obtain ⟨o,e,_⟩:=T.obj _ _ t0 b hb
  exact Heap.lt_size e
 have old:∀ b o,s.heap.get? b=some o->h₁.get? b=some o:=λb o e=>hsb₁.extBut b o (Nat.ne_of_lt (Nat.lt_succ_of_lt (Heap.lt_size e))) (Heap.get?_push_of_some _ (hH2 ▸ Heap.get?_push_of_some _ e))
 have hD:h₁.get? s.heap.objs.size=some { cls:=.type "list",data:=.seq #[] 0 }:=hsb₁.extBut _ _ (Nat.ne_of_lt (Nat.lt_succ_self _)) (Heap.get?_push_of_some _ (hH2 ▸ Heap.get?_push_size _ rfl))
 have I0:Inv (X.comp scope Nc (s.heap.objs.size+1) s H fp) [] (gB n caps σ) (upd H s.heap.objs.size (.lst [])) { s with heap:=h₁,toks:=s.toks+([]:List (Str×Value)).length } :=
  wH I S hcp hf hlt hns₁ old hD
 replace I0:=I0.toAcc (D:=s.heap.objs.size) aF
 rw [gj] at I0
 obtain ⟨W,⟨m0,w0⟩,turn⟩:=hw s.heap.objs.size I.fresh
 have fr0:∀ b∈fp,upd H s.heap.objs.size (a9 s.heap.objs.size []) b=none:=λb hb=>by
  rw [av (Nat.ne_of_lt (hlt b hb))]
  exact (hf b hb).1
 have stat:∀ {H':Hp},(∀ b∈fp,H' b=none)->∀ b∈fp,bN (X.comp scope Nc (s.heap.objs.size+1) s H fp) [] H' b:=λhn b hb =>
  ⟨hn b hb,(λe=>Nat.ne_of_lt (Nat.lt_succ_of_lt (hlt b hb)) e),I0.ok.exfs b hb,.inl hb,(I0.ok.exf b hb).2,λp hp=>absurd (show p∈([]:List (Addr×Obj)) from hp) (by simp)⟩
 have loop:codeAny (model X.prog X.w) X.A (.compLoop (.ListComp elt [⟨target,iter,ifs,0⟩] scope pos) 0 (.ref it) (.ref s.heap.objs.size) (compEnvC scope (cI scope X.env) (s.heap.objs.size+1) X.env))
   (RR (.ref s.heap.objs.size) (s.heap.objs.size+1)) { s with heap:=h₁,toks:=s.toks+([]:List (Str×Value)).length }:=by
  refine ww (λm s'=>∃ i zs σ' H',Inv (X.comp scope Nc (s.heap.objs.size+1) s H fp) [] σ' H' s'/\tn i s'.heap/\(∀ b∈fp,H' b=none)/\W i m zs σ' H') ?_ m0
   ⟨0,_,_,_,I0,T.keep _ _ _ t0 λb _ o e=>old b o e,fr0,w0⟩
  rintro m s3 ⟨i,zs,σ3,H3,I3,st3,fr3,w3⟩
  obtain ⟨hD3,w3'⟩:=turn i m zs σ3 H3 w3
  rcases w3' with ⟨stop,qn⟩|⟨go,N,hN,step⟩
  ·refine thn (T.done (X.comp scope Nc (s.heap.objs.size+1) s H fp) rfl rfl rfl hcalm i [] s3 σ3 H3 _ I3 (stat fr3) st3 stop) λr s4 ⟨hr,I4⟩=>?_
   subst hr
   obtain ⟨m4,hn4,_⟩:=I4.loc
   have I4':=I4.ofAcc hD3
   exact fin _ s4 _ m4 (xi I hf I4') I4'.free hn4 qn
  ·refine thn (T.item (X.comp scope Nc (s.heap.objs.size+1) s H fp) rfl rfl rfl hcalm i [] s3 σ3 H3 _ I3 (stat fr3) st3 go) λr s4 ⟨u,hr,h4⟩=>?_
   subst hr
   refine thn h4 λ_ s5 zz42=>?_
   obtain ⟨x,H5,I5,r5,y5,st5,fr5⟩:=zz42
   have I5':=I5.pinned (stat fr5) (T.obj _ _ st5)
   refine thn (hg _ _ _ _ _ s5 σ3 H5 x u _ I5' r5 (step x H5 y5)) λ_ s6 zz43=>?_
   obtain ⟨σ6,H6,I6,q6⟩:=zz43
   refine thn (ht _ _ _ _ _ s6 σ6 H6 _ I6 q6) λok s7 zz44=>?_
   obtain ⟨H7,I7,q7⟩:=zz44
   have again:∀ {s8:Shared}{H8:Hp}{zs8:List V},Inv (X.comp scope Nc (s.heap.objs.size+1) s H fp) ([]++iq fp s5.heap) σ6 H8 s8->N zs8 σ6 H8 ->
     ∃ m',m'<m/\∃ i zs σ' H',Inv (X.comp scope Nc (s.heap.objs.size+1) s H fp) [] σ' H' s8/\tn i s8.heap/\(∀ b∈fp,H' b=none)/\W i m' zs σ' H':=fun {s8 H8 zs8} I8 n8=>by
    obtain ⟨m',hm,w8⟩:=hN zs8 σ6 H8 n8
    refine ⟨m',hm,i+1,zs8,σ6,H8,I8.unpinned,T.keep _ _ _ st5 λb hb o e=>(I8.pin (b,o) (List.mem_append_right _ (List.mem_append_right _ (ji hb e)))).1,λb hb=>?_,w8⟩
    obtain ⟨o,e,d⟩:=T.obj _ _ st5 b hb
    exact (I8.pin (b,o) (List.mem_append_right _ (List.mem_append_right _ (ji hb e)))).2.1
   cases ok with
   |false =>
    rw [if_neg Bool.false_ne_true] at q7 ⊢
    exact again I7 q7
   |true =>
    rw [if_pos rfl] at q7 ⊢
    refine thn (he _ _ _ _ _ s7 σ6 H7 _ I7 q7) λy s8 zz45=>?_
    obtain ⟨v8,H8,I8,r8,hz,hl,q8⟩:=zz45
    refine thn (pS _ s8 σ6 _ (.ref s.heap.objs.size) [v8] (.ref s.heap.objs.size) [y] (λ_ H9=>H9=upd H8 s.heap.objs.size (.lst (zs++[v8]))) (I8.ofAcc hz) rfl (.cons r8 .nil) ⟨_,zs,v8,rfl,rfl,aF,hl,by rw [gj]⟩) λ_ s9 zz46=>?_
    obtain ⟨_,H9,I9,_,q9⟩:=zz46
    subst q9
    have I9':=I9.toAcc (D:=s.heap.objs.size) aF
    rw [gj] at I9'
    exact again I9' q8
 have e2:({ newEnv scope H2.objs.size X.env.globals (cI scope X.env) X.env.qual none .none (some X.env) builtinsNs with scope:=relabel scope X.env }:Env)=compEnvC scope (cI scope X.env) (s.heap.objs.size+1) X.env:=by
  rw [hC];rfl
 have e3:(newEnv scope H2.objs.size X.env.globals (cI scope X.env) X.env.qual none .none (some X.env) builtinsNs).locals=s.heap.objs.size+1:=hC
 rw [e2,e3]
 exact codeAny_compStart_list loop (T.self _ 0 _ _ _ (T.keep _ _ _ t0 λb _ o e=>old b o e) loop)
theorem yl (Nc:List Str) (n:Nat) (caps:List Nat) (hcalm:X.calm=true) (hi:PI X target iter wi) (hg:∀ C s₀ H₀ ex,PG (X.comp scope Nc C s₀ H₀ ex) target g) (ht:∀ C s₀ H₀ ex,PTs (X.comp scope Nc C s₀ H₀ ex) ifs tt)
  (he:∀ C s₀ H₀ ex,PE (X.comp scope Nc C s₀ H₀ ex) elt te) (hsc:gA X.env.scope scope=true:=by rfl) (hcp:eT X.N Nc scope n caps=true:=by rfl) (hs:∀ x,foldedSetIterable iter X.env x=pure x:=by intro _;rfl) :
  PE X (.ListComp elt [⟨target,iter,ifs,0⟩] scope pos) (mC wi n caps g tt te):=by
 intro pins s σ H Q I h
 have S:=pU hsc
 rw [eval_ListComp]
 refine wpAny_comprehension_free (use:=none) rfl hs (S.clos I.ok) S.kind S.loc (thn (hi pins s σ H _ I h) λv s1 h1=>thn h1 λitv s2 h2=>?_)
 obtain ⟨it,fp,tn,J,H2,e,I2,T,t2,f2,hw⟩:=h2
 subst e
 refine pb (RR:=λacc C=>compPost (model X.prog X.w) X.A X.xe none (EP X pins σ Q) acc C) hcalm S hcp hg ht he I2 T t2 f2 hw ?_
 intro D s' H' m I' hn hns q
 refine ⟨m,hns,λh' hs'=>⟨.ref D,H',?_,rfl,q⟩⟩
 refine I'.but hs' hn (Nat.le_trans I2.sz (Nat.le_succ _)) (λe=>?_) (λx c hc e=>?_) λp hp e=>?_
 ·exact Nat.ne_of_lt (Nat.lt_succ_of_lt I2.lt) e.symm
 ·obtain ⟨v,ic⟩:=I2.cell x c hc
  exact Nat.ne_of_lt (Nat.lt_succ_of_lt ic.lt) e
 ·exact Nat.ne_of_lt (Nat.lt_succ_of_lt (Heap.lt_size (I2.pin p hp).1)) e
theorem ym {i:Nat}{x:Str}{px spos:Pos}(Nc:List Str) (n:Nat) (caps:List Nat) (hcalm:X.calm=true) (hN:X.N.Nodup) (hix:X.N[i]?=some x) (hx:Loc X.env.scope x) (hi:PI X target iter wi) (hg:∀ C s₀ H₀ ex,PG (X.comp scope Nc C s₀ H₀ ex) target g)
  (ht:∀ C s₀ H₀ ex,PTs (X.comp scope Nc C s₀ H₀ ex) ifs tt) (he:∀ C s₀ H₀ ex,PE (X.comp scope Nc C s₀ H₀ ex) elt te)
  (hsw:swapsWith (.ListComp elt [⟨target,iter,ifs,0⟩] scope pos) (some (.Name x px)) spos.line X.env=pure true:=by rfl) (hsc:gA X.env.scope scope=true:=by rfl) (hcp:eT X.N Nc scope n caps=true:=by rfl)
  (hs:∀ x,foldedSetIterable iter X.env x=pure x:=by intro _;rfl) (hf:X.fn x=true\/X.env.scope.names.lookup x=some .local:=by first|exact .inl rfl|exact .inr rfl|assumption) :
  PS X (.Assign [.Name x px] (.ListComp elt [⟨target,iter,ifs,0⟩] scope pos) spos) (iM (mC wi n caps g tt te) (j4 i)):=by
 intro pins s σ H D I h
 have S:=pU hsc
 rw [exec_Assign_Name_used _ _ _ _ hsw]
 refine wpAny_bind (wpAny_standAt (wpAny_bind ?_))
 show wpAny _ X.A (do let _ <- comprehension (.ListComp elt [⟨target,iter,ifs,0⟩] scope pos) scope X.env _ (newList []) false (eval iter X.env) (some (assign (.Name x px) X.env))) _ _ s
 refine wpAny_bind (thn (wpAny_comprehension_free (use:=some (assign (.Name x px) X.env)) (Q:=λ_ s'=>SP X pins D .next s') rfl hs (S.clos I.ok) S.kind S.loc
  (thn (hi pins s σ H _ I h) λv s1 h1=>thn h1 λitv s2 h2=>?_)) λ_ s' hq=>wpAny_pure (wpAny_pure hq))
 obtain ⟨it,fp,tn,J,H2,e,I2,T,t2,f2,hw⟩:=h2
 subst e
 refine pb (RR:=λacc C=>compPost (model X.prog X.w) X.A X.xe (some (assign (.Name x px) X.env)) (λ_ s'=>SP X pins D .next s') acc C) hcalm S hcp hg ht he I2 T t2 f2 hw ?_
 intro Da s' H' m I' hn hns q
 show wpAny _ X.A (assign (.Name x px) X.env (.ref Da)) _ _ s'
 obtain ⟨oC,es,ep,eo,ed,rC⟩:=id hns
 have nl:s2.heap.objs.size+1≠X.env.locals:=λe=>Nat.ne_of_lt (Nat.lt_succ_of_lt I2.lt) e.symm
 have nc:∀ y c,X.env.cells.lookup y=some c->c≠s2.heap.objs.size+1:=λy c hc e=>by
  obtain ⟨v,ic⟩:=I2.cell y c hc
  exact Nat.ne_of_lt (Nat.lt_succ_of_lt ic.lt) e
 have np:∀ p∈X.pn++pins,p.1≠s2.heap.objs.size+1:=λp hp e=>Nat.ne_of_lt (Nat.lt_succ_of_lt (Heap.lt_size (I2.pin p hp).1)) e
 have I3:Inv X (pins++[(s2.heap.objs.size+1,oC)]) σ H' s':=I'.pins_of λp hp=>by
  rcases List.mem_append.mp hp with z|z
  ·exact I'.pin p (List.mem_append_right _ z)
  ·obtain rfl:p=(s2.heap.objs.size+1,oC):=by simpa using z
   refine ⟨eo,hn,nl,λhb=>?_,λv e=>?_⟩
   ·have h1:=I2.nofs (a:=s2.heap.objs.size+1) (Nat.le_succ _)
    exact h1 hb
   ·rw [ed] at e;cases e
 refine wpAny_assign_Name (h9 I3 hN hix hx (u:=.ref Da) (v:=.ref Da) rfl (λs4 I4=>?_) hf)
 have g4:s4.heap.get? (s2.heap.objs.size+1)=some oC:=(I4.pin (s2.heap.objs.size+1,oC) (List.mem_append_right _ (List.mem_append_right _ (by simp)))).1
 refine ⟨m,⟨oC,es,ep,g4,ed,rC⟩,λh' hs'=>?_⟩
 exact ⟨_,H',I4.unpinned.but hs' hn (Nat.le_trans I2.sz (Nat.le_succ _)) nl nc np,q⟩
end
section
variable {κ:Type}[DecidableEq κ]
def bg (kvs:List (κ×V)) (k:κ):Option V:=(kvs.find? λkv=>decide (kv.1=k)).map (·.2)
def bt (kvs:List (κ×V)) (k:κ) (v:V):List (κ×V) :=
 if (kvs.any λkv=>decide (kv.1=k))=true then kvs.map (λkv=>if kv.1=k then (kv.1,v) else kv) else kvs++[(k,v)]
def eU (kvs:List (κ×V)) (k:κ):List (κ×V):=kvs.filter λkv=>decide (kv.1≠k)
theorem lg {p:κ×V}{r:List (κ×V)}{k:κ}(e:p.1=k):bg (p::r) k=some p.2:=by simp [bg,List.find?_cons,e]
theorem li {p:κ×V}{r:List (κ×V)}{k:κ}(e:¬ p.1=k):bg (p::r) k=bg r k:=by simp [bg,List.find?_cons,e]
theorem qo (k:κ):∀ kvs:List (κ×V),(kvs.any λkv=>decide (kv.1=k))=(bg kvs k).isSome
 |[]=>rfl
 |p::r=>by
  rw [List.any_cons]
  by_cases e:p.1=k
  ·simp only [lg e,decide_eq_true e,Bool.true_or,Option.isSome_some]
  ·rw [li e,decide_eq_false e,Bool.false_or];exact qo k r
theorem kR (kvs:List (κ×V)) (k:κ) (v:V):(bt kvs k v).length<=kvs.length+1:=by
 unfold bt
 split
 ·rw [List.length_map];omega
 ·rw [List.length_append,List.length_cons,List.length_nil];omega
theorem bJ.isSome_eq {o:Option V}{u:Option Value}(r:bJ o u):o.isSome=u.isSome:=by
 cases o with
 |none=>cases u with
  |none=>rfl
  |some _=>exact (show False from r).elim
 |some _=>cases u with
  |none=>exact (show False from r).elim
  |some _=>rfl
theorem KV.val {kvs:List (κ×V)}{vs:List (κ×Value)}(r:KV kvs vs) (k:κ):bJ (bg kvs k) (valueAt vs k):=by
 unfold KV at r
 induction r with
 |nil=>exact True.intro
 |@cons p q ps qs h t ih =>
  obtain ⟨h1,h2⟩:=h
  by_cases e:p.1=k
  ·have e':q.1=k:=h1.symm.trans e
   have b:valueAt (q::qs) k=some q.2:=by simp [valueAt,List.find?_cons,e']
   rw [lg e,b];exact h2
  ·have e':¬ q.1=k:=λz=>e (h1.trans z)
   have b:valueAt (q::qs) k=valueAt qs k:=by simp [valueAt,List.find?_cons,e']
   rw [li e,b];exact ih
theorem KV.any {kvs:List (κ×V)}{vs:List (κ×Value)}(r:KV kvs vs) (k:κ):(kvs.any λkv=>decide (kv.1=k))=vs.any λkv=>decide (kv.1=k):=by
 unfold KV at r
 induction r with
 |nil=>rfl
 |cons h t ih=>rw [List.any_cons,List.any_cons,ih,h.1]
theorem KV.repl {kvs:List (κ×V)}{vs:List (κ×Value)}(r:KV kvs vs) (k:κ){y:V}{u:Value}(ry:ao y u) :
  KV (kvs.map λkv=>if kv.1=k then (kv.1,y) else kv) (vs.map λkv=>if kv.1=k then (kv.1,u) else kv):=by
 unfold KV at r ⊢
 induction r with
 |nil=>exact .nil
 |@cons p q ps qs h t ih =>
  rw [List.map_cons,List.map_cons]
  refine .cons ?_ ih
  obtain ⟨h1,h2⟩:=h
  by_cases e:p.1=k
  ·rw [if_pos e,if_pos (h1.symm.trans e)];exact ⟨h1,ry⟩
  ·rw [if_neg e,if_neg (λz=>e (h1.trans z))];exact ⟨h1,h2⟩
theorem KV.put {kvs:List (κ×V)}{vs:List (κ×Value)}(r:KV kvs vs) (k:κ){y:V}{u:Value}(ry:ao y u):KV (bt kvs k y) (stored vs k u):=by
 unfold bt stored
 rw [r.any k]
 by_cases e:(vs.any λkv=>decide (kv.1=k))=true
 ·rw [if_pos e,if_pos e];exact r.repl k ry
 ·rw [if_neg e,if_neg e];exact Paired.snoc r ⟨rfl,ry⟩
theorem KV.drop {kvs:List (κ×V)}{vs:List (κ×Value)}(r:KV kvs vs) (k:κ):KV (eU kvs k) (without vs k):=by
 unfold KV at r ⊢
 unfold eU without
 induction r with
 |nil=>exact .nil
 |@cons p q ps qs h t ih =>
  obtain ⟨h1,h2⟩:=h
  rw [List.filter_cons,List.filter_cons]
  by_cases e:p.1=k
  ·have a:¬ decide (p.1≠k)=true:=by simp [e]
   have b:¬ decide (q.1≠k)=true:=by simp [h1.symm.trans e]
   rw [if_neg a,if_neg b];exact ih
  ·have e':¬ q.1=k:=λz=>e (h1.trans z)
   have a:decide (p.1≠k)=true:=by simp [e]
   have b:decide (q.1≠k)=true:=by simp [e']
   rw [if_pos a,if_pos b];exact .cons ⟨h1,h2⟩ ih
theorem KV.length {kvs:List (κ×V)}{vs:List (κ×Value)}(r:KV kvs vs):kvs.length=vs.length:=Paired.length r
theorem yn (kvs:List (κ×V)) (k:κ):(eU kvs k).length<=kvs.length:=List.length_filter_le _ _
end
theorem eV {P:Program}{w:World}{k:Key}{u:Value}(r:ao (kV k) u):(aY P w).is k u=true:=by
 cases k with
 |inl i=>obtain ⟨t,e⟩:=(show ∃ t,u=Value.int i t from r);subst e;exact wj P w i t
 |inr x=>obtain ⟨t,e⟩:=(show ∃ t,u=Value.str x t from r);subst e;exact wm P w x t
theorem pW {P:Program}{w:World}:∀ {ks:List Key}{us:List Value},aj (ks.map kV) us->ItemsAre (aY P w) ks us
 |[],_,r=>by rw [List.map_nil] at r;cases r;exact .nil
 |k::ks,_,r=>by
  rw [List.map_cons] at r
  cases r with
  |cons h t=>exact .cons (eV h) (pW t)
abbrev KT (H:Hp):List (List Key×V)->List (List Key×Addr×Value)->Prop:=Paired λp q=>p.1=q.1/\H q.2.1=some (.tup (p.1.map kV))/\ao p.2 q.2.2
theorem KT.val {H:Hp}{kvs:List (List Key×V)}{xs:List (List Key×Addr×Value)}(r:KT H kvs xs) (k:List Key):bJ (bg kvs k) ((atKey xs k).map (·.2)):=by
 induction r with
 |nil=>exact True.intro
 |@cons p q ps qs h t ih =>
  obtain ⟨h1,_,h2⟩:=h
  by_cases e:p.1=k
  ·have e':q.1=k:=h1.symm.trans e
   have b:atKey (q::qs) k=some q.2:=by simp [atKey,List.find?_cons,e']
   rw [lg e,b];exact h2
  ·have e':¬ q.1=k:=λz=>e (h1.trans z)
   have b:atKey (q::qs) k=atKey qs k:=by simp [atKey,List.find?_cons,e']
   rw [li e,b];exact ih
theorem KT.repl {H:Hp}{kvs:List (List Key×V)}{xs:List (List Key×Addr×Value)}(r:KT H kvs xs) (k:List Key){y:V}{u:Value}(ry:ao y u) :
  KT H (kvs.map λkv=>if kv.1=k then (kv.1,y) else kv) (xs.map (putAt k u)):=by
 induction r with
 |nil=>exact .nil
 |@cons p q ps qs h t ih =>
  rw [List.map_cons,List.map_cons]
  refine .cons ?_ ih
  obtain ⟨h1,h2,h3⟩:=h
  unfold putAt
  by_cases e:p.1=k
  ·rw [if_pos e,if_pos (h1.symm.trans e)];exact ⟨h1,h2,ry⟩
  ·rw [if_neg e,if_neg (λz=>e (h1.trans z))];exact ⟨h1,h2,h3⟩
theorem KT.put {H:Hp}{kvs:List (List Key×V)}{xs:List (List Key×Addr×Value)}(r:KT H kvs xs) (k:List Key){b:Addr}{y:V}{u:Value}(hb:H b=some (.tup (k.map kV))) (ry:ao y u) :
  KT H (bt kvs k y) (storedH xs k b u):=by
 have e:(kvs.any λkv=>decide (kv.1=k))=(atKey xs k).isSome:=by
  rw [qo,(r.val k).isSome_eq,Option.isSome_map]
 unfold bt storedH
 rw [e]
 by_cases q:(atKey xs k).isSome=true
 ·rw [if_pos q,if_pos q];exact r.repl k ry
 ·rw [if_neg q,if_neg q];exact Paired.snoc r ⟨rfl,hb,ry⟩
theorem KT.keeps {H H':Hp}{kvs:List (List Key×V)}{xs:List (List Key×Addr×Value)}(r:KT H kvs xs) (ht:∀ b ys,H b=some (.tup ys)->H' b=some (.tup ys)):KT H' kvs xs :=
 Paired.mapP r λ_ _ z=>⟨z.1,ht _ _ z.2.1,z.2.2⟩
section
variable {P:Program}{w:World}{H:Hp}{h:Heap}{a:Addr}
theorem uj {u:HO}(ok:HOk P w H h) (e:Rd H a u):aV P w H h a u:=e.ok ok
theorem EA {kvs:List (Key×V)}(ok:HOk P w H h) (e:Rd H a (.dK kvs)):kvs.length<=sizeLine/\(a==sysModules)=false/\∃ vs,KV kvs vs/\h.DictOf (aY P w) a vs :=
 show aV P w H h a (.dK kvs) from uj ok e
theorem gK {kvs:List (Key×V)}(ok:HOk P w H h) (e:H a=some (.dK kvs)):kvs.length<=sizeLine/\(a==sysModules)=false/\∃ vs,KV kvs vs/\h.DictOf (aY P w) a vs:=EA ok (.inl e)
theorem sT {ks:List Key}(ok:HOk P w H h) (e:H a=some (.tup (ks.map kV))):(tupleKind (aY P w)).is h ks a:=by
 obtain ⟨_,its,r,o,h1,h2,n,h3⟩:=(show aV P w H h a (.tup (ks.map kV)) from ok a _ e)
 exact ⟨o,its.toArray,n,h1,h2,h3,by simpa using pW r⟩
theorem EB {kvs:List (List Key×V)}(ok:HOk P w H h) (e:Rd H a (.dT kvs)):kvs.length<=sizeLine/\(a==sysModules)=false /\
  ∃ xs,KT H kvs xs/\h.DictOfH (tupleKind (aY P w)) a xs:=by
 obtain ⟨z,y,xs,r,o,es,ep,h1,h2,h3,h4,h5⟩:=(show aV P w H h a (.dT kvs) from uj ok e)
 refine ⟨z,y,xs,r,o,es,ep,h1,h2,h3,h4,λx hx=>?_,h5⟩
 have all:∀ {l:List (List Key×V)}{m:List (List Key×Addr×Value)},KT H l m->∀ x∈m,(tupleKind (aY P w)).is h x.1 x.2.1:=by
  intro l m q
  induction q with
  |nil=>intro x hx;exact nomatch hx
  |@cons p q ps qs hq t ih =>
   intro x hx
   rcases List.mem_cons.mp hx with e|hx
   ·subst e
    exact sT ok (by rw [<- hq.1];exact hq.2.1)
   ·exact ih x hx
 exact all r x hx
theorem EC {kvs:List (List Key×V)}(ok:HOk P w H h) (e:H a=some (.dT kvs)):kvs.length<=sizeLine/\(a==sysModules)=false /\
  ∃ xs,KT H kvs xs/\h.DictOfH (tupleKind (aY P w)) a xs:=EB ok (.inl e)
end
def Hr (H:Hp) (a:Addr) (y:V) (r:Option V):Prop :=
 (∃ kvs k,Rd H a (.dK kvs)/\y=kV k/\r=bg kvs k)\/∃ kvs k b,Rd H a (.dT kvs)/\y=.ref b/\H b=some (.tup (k.map kV))/\r=bg kvs k
def kn (H:Hp) (a:Addr) (y v:V) (H':Hp):Prop :=
 (∃ kvs k,H a=some (.dK kvs)/\y=kV k/\kvs.length<sizeLine/\H'=upd H a (.dK (bt kvs k v))) \/
 ∃ kvs k b,H a=some (.dT kvs)/\y=.ref b/\H b=some (.tup (k.map kV))/\kvs.length<sizeLine/\H'=upd H a (.dT (bt kvs k v))
theorem kn.k {H:Hp}{a:Addr}{kvs:List (Key×V)}{k:Key}{v:V}(e:H a=some (.dK kvs)) (hl:kvs.length<sizeLine):kn H a (kV k) v (upd H a (.dK (bt kvs k v))):=.inl ⟨kvs,k,e,rfl,hl,rfl⟩
section
variable {X:Cx}{pins:List (Addr×Obj)}{σ:St}{H:Hp}{s:Shared}{a:Addr}{y v:V}{u r:Value}{o:Option V}{A:Around}{E:Value->Shared->Prop}
theorem Inv.big (I:Inv X pins σ H s):sysModules<s.heap.objs.size:=by
 have h:mainGlobals<s.heap.objs.size:=(I.mod.glob.keeps I.bk).lt
 exact Nat.lt_trans (by decide) h
theorem jy {h':Heap}{t':Nat}{ob:HO}(I:Inv X pins σ H s) (mu:Mut (H a)) (hs:Heap.SameBut a s.heap h') (he:∃ q,h'.get? a=some q) (new:aV X.prog X.w (upd H a ob) h' a ob) :
  Inv X pins σ (upd H a ob) { s with heap:=h',toks:=t' } :=
 I.write (x:=a) (e:=a) mu (.inl rfl) (λb q hb z=>(hs.2 b hb).trans z) he new
theorem mD {P:Program}{w:World}{H':Hp}{h':Heap}{kvs:List (Key×V)}{vs:List (Key×Value)}(z:kvs.length<=sizeLine) (hd:(a==sysModules)=false) (rel:KV kvs vs) (dd:h'.DictOf (aY P w) a vs) :
  aV P w H' h' a (.dK kvs):=⟨z,hd,vs,rel,dd⟩
theorem xn {H':Hp}{Q:Unit->Shared->Prop}(hu:A.units+1<cLine) (I:Inv X pins σ H s) (g:kn H a y v H') (ry:ao y u) (rv:ao v r) (h:∀ s',Inv X pins σ H' s'->Q () s') :
  wpAny (model X.prog X.w) A (setItem (.ref a) u r) Q E s:=by
 rcases g with ⟨kvs,k,e,ey,l,eH⟩|⟨kvs,k,b,e,ey,eb,l,eH⟩
 ·subst ey eH
  obtain ⟨z,hd,vs,rel,dd⟩:=gK I.hok e
  have hz:vs.length<=sizeLine:=by rw [<- rel.length];exact z
  have hl:(bt kvs k v).length<=sizeLine:=by have:=kR kvs k v;omega
  refine wpAny_setItem_pairs (hsz:=hz) (eV ry) dd λh' dd' hs=>h _ ?_
  have he:∃ q,h'.get? a=some q:=let ⟨q,_,_,hq,_⟩:=dd';⟨q,hq⟩
  exact jy I (by rw [e];exact True.intro) hs he (mD hl hd (rel.put k rv) dd')
 ·subst ey eH
  cases (show u=Value.ref b from ry)
  obtain ⟨z,hd,xs,rel,dd⟩:=EC I.hok e
  have hz:xs.length<=sizeLine:=by rw [<- Paired.length rel];exact z
  have hl:(bt kvs k v).length<=sizeLine:=by have:=kR kvs k v;omega
  refine wpAny_setItem_heap (hsz:=hz) (tupleKind_room_in1 hu) (sT I.hok eb) dd λh' dd' hs=>h _ ?_
  obtain ⟨q,es,ep,hq,h2,h3,h4,_,h5⟩:=dd'
  refine jy I (by rw [e];exact True.intro) hs ⟨q,hq⟩ ⟨hl,hd,_,(rel.put k eb rv).keeps λc ys ec=>?_,q,es,ep,hq,h2,h3,h4,h5⟩
  rw [av (cZ ec e (λz=>nomatch z))]
  exact ec
end
section
variable {X:Cx}{pins:List (Addr×Obj)}{σ:St}{H:Hp}{s:Shared}{a:Addr}{kvs:List (Key×V)}{k:Key}{u:Value}{A:Around}{E:Value->Shared->Prop}
theorem ED {v:V}{more:List Value}{Q:Value->Shared->Prop}(I:Inv X pins σ H s) (e:H a=some (.dK kvs)) (ry:ao (kV k) u) (l:bg kvs k=some v) (hm:more=[]\/∃ x,more=[x])
  (h:∀ w' s',Inv X pins σ (upd H a (.dK (eU kvs k))) s'->ao v w'->Q w' s'):wpAny (model X.prog X.w) A (call (.builtin "dict.pop") (.ref a::u::more)) Q E s:=by
 obtain ⟨z,hd,vs,rel,dd⟩:=gK I.hok e
 obtain ⟨w',hw,rw'⟩:=bJ.some_of (v:=v) (o:=valueAt vs k) (by rw [<- l];exact rel.val k)
 have hp:(keyPart u).isSome=true:=by
  cases k with
  |inl i=>obtain ⟨t,q⟩:=(show ∃ t,u=Value.int i t from ry);subst q;rfl
  |inr x=>obtain ⟨t,q⟩:=(show ∃ t,u=Value.str x t from ry);subst q;rfl
 have ha:argsOk "dict.pop" ⟨.ref a::u::more,[]⟩:=by
  rcases hm with q|⟨x,q⟩
  ·subst q;exact PySem.F.args_dict_pop_2 _ _
  ·subst q;exact PySem.F.args_dict_pop_3 _ _ _
 refine call_meetsIn PySem.F.slot_dict_pop dd.typeIs PySem.F.entry_dict_pop ha (meets_dict_pop_there (aY X.prog X.w) a (eV ry) more hm hp)
  ⟨vs,w',dd,by rw [<- rel.length];exact z,hw,λh' dd' hs=>h w' _ ?_ rw'⟩
 have he:∃ q,h'.get? a=some q:=let ⟨q,_,_,hq,_⟩:=dd';⟨q,hq⟩
 exact jy I (by rw [e];exact True.intro) hs he (mD (Nat.le_trans (yn kvs k) z) hd (rel.drop k) dd')
end
def ko (i:Expr):Prop:=∀ ov iv,subscripted i false ov iv=operate [ov,iv] (getItem ov iv)
theorem z3 {prog:Program}{w:World}{A:Around}{E:Value->Shared->Prop}{s:Shared}{env:Env}{value slice:Expr}{pos:Pos}{T id:String}{Q:Value->Shared->Prop}
  (hl:typeLookup (.type T) "__getitem__"=pure (some (.builtin id))) (hs:ko slice)
  (h:wpAny (model prog w) A (eval value env) (λo s₁=>wpAny (model prog w) A (eval slice env) (λi s₂=>s₂.TypeIs o T/\wpAny (model prog w) A (getItem o i) Q E s₂) E s₁) E s) :
  wpAny (model prog w) A (eval (.Subscript value slice pos) env) Q E s:=by
 refine Subscript_ (wpAny_mono h (λo s₁ h₁=>wpAny_mono h₁ (λi s₂ h₂=>?_) λ_ _ x=>x) λ_ _ x=>x)
 obtain ⟨hT,h₂⟩:=h₂
 unfold subscriptTail
 refine wpAny_bind ?_
 rw [getitemInPython_of_ne hT.not_modules]
 refine wpAny_bind (wpAny_specialOf hT hl ?_)
 have fin:wpAny (model prog w) A (subscripted slice false o i) (λr s₃=>wpAny (model prog w) A (letTemporaryGo value o r >>= λ_=>pure r) Q E s₃) E s₂:=by
  rw [hs o i]
  exact wpAny_operating (wpAny_mono h₂ (λr s₃ h₃=>wpAny_bind (wpAny_letTemporaryGo (wpAny_pure h₃))) λ_ _ x=>x)
 first
  |exact wpAny_pure (wpAny_bind fin)
  |exact wpAny_bind (wpAny_pure (wpAny_bind fin))
  |exact wpAny_bind fin
section
variable {X:Cx}{o i e value:Expr}{pos pos' tpos:Pos}{td ty tv:TE}
end
theorem qp {P:Program}{w:World}{H:Hp}(h:Heap) (hb:sysModules<h.objs.size):aV P w H (h.push { cls:=.type "dict",data:=.dict #[] }) h.objs.size (.dK []) :=
 ⟨Nat.zero_le _,beq_eq_false_iff_ne.mpr (Ne.symm (Nat.ne_of_lt hb)),[],.nil,Heap.DictOf.new h⟩
def Cn:TE:=λ_ H Q=>∀ p,H p=none->Q (.ref p) (upd H p (.dK []))
section
variable {X:Cx}{pos:Pos}
theorem yo:PE X (.Dict [] [] pos) Cn:=λpins s σ H Q I h =>
 wpAny_Dict_empty ⟨.ref s.heap.objs.size,_,I.laid (a:=s.heap.objs.size) (o:=.dK []) (t':=s.toks) (λ_ _ q=>Heap.get?_push_of_some _ q) (Nat.le_refl _) (qp s.heap I.big),rfl,h _ (I.hok.fresh (Nat.le_refl _))⟩
end
def mE:List (TE×TE)->St->Hp->(List (V×V)->Hp->Prop)->Prop
 |[],_,H,Q=>Q [] H
 |(tk,tv)::r,σ,H,Q=>tk σ H λx H1=>tv σ H1 λy H2=>mE r σ H2 λps H3=>Q ((x,y)::ps) H3
abbrev VV:List (V×V)->List (Value×Value)->Prop:=Paired λp q=>ao p.1 q.1/\ao p.2 q.2
def PPs (X:Cx) (pos:Pos) (keys:List (Option Expr)) (values:List Expr) (trs:List (TE×TE)):Prop :=
 ∀ (pins:List (Addr×Obj)) (s:Shared) (σ:St) (H:Hp) (Q:List (V×V)->Hp->Prop),Inv X pins σ H s->mE trs σ H Q ->
  wpAny (model X.prog X.w) X.A (evalPairs (pairTrees keys values X.env pos)) (λvs s'=>∃ ps H',Inv X pins σ H' s'/\VV ps vs/\Q ps H') X.xe s
theorem qU {X:Cx}{pos:Pos}:PPs X pos [] [] []:=λpins s σ H Q I h=>pairTrees_nil_walk ⟨[],H,I,.nil,h⟩
theorem ie {X:Cx}{pos:Pos}{k v:Expr}{ks:List (Option Expr)}{vs:List Expr}{tk tv:TE}{trs:List (TE×TE)}(hk:PE X k tk) (hv:PE X v tv) (hr:PPs X pos ks vs trs) :
  PPs X pos (some k::ks) (v::vs) ((tk,tv)::trs):=λpins s σ H Q I h =>
 pairTrees_cons_walk (thn (hk pins s σ H _ I h) λu s1 ⟨x,H1,I1,rx,q1⟩=>thn (hv pins s1 σ H1 _ I1 q1) λw2 s2 ⟨y,H2,I2,ry,q2⟩ =>
  thn (hr pins s2 σ H2 _ I2 q2) λws s3 zz47=>by obtain ⟨ps,H3,I3,rel,q3⟩:=zz47;exact ⟨(x,y)::ps,H3,I3,.cons ⟨rx,ry⟩ rel,q3⟩)
def dF (kvs more:List (Key×V)):List (Key×V):=more.foldl (λacc kv=>bt acc kv.1 kv.2) kvs
theorem KV.merge:∀ {more:List (Key×V)}{rs:List (Key×Value)}{kvs:List (Key×V)}{vs:List (Key×Value)},KV more rs->KV kvs vs->KV (dF kvs more) (merged vs rs):=by
 intro more rs kvs vs r
 unfold KV at r
 induction r generalizing kvs vs with
 |nil=>intro q;exact q
 |@cons p q ps qs h t ih =>
  intro r0
  have e:KV (bt kvs p.1 p.2) (stored vs q.1 q.2):=by
   have:=r0.put p.1 h.2
   rw [<- h.1];exact this
  exact ih e
theorem oJ:∀ (more kvs:List (Key×V)),(dF kvs more).length<=kvs.length+more.length
 |[],kvs=>by show kvs.length<=kvs.length+0;omega
 |p::r,kvs=>by
  have h1:=oJ r (bt kvs p.1 p.2)
  have h2:=kR kvs p.1 p.2
  show (dF (bt kvs p.1 p.2) r).length<=_
  rw [List.length_cons];omega
theorem pC {P:Program}{w:World}:∀ {kvs:List (Key×V)}{ws:List (Value×Value)},VV (kvs.map λkv=>(kV kv.1,kv.2)) ws->∃ rs,Carries (aY P w) ws rs/\KV kvs rs
 |[],_,r=>by rw [List.map_nil] at r;cases r;exact ⟨[],True.intro,.nil⟩
 |p::kvs,_,r=>by
  rw [List.map_cons] at r
  cases r with
  |@cons a b as bs h t =>
   obtain ⟨rs,c,q⟩:=pC (P:=P) (w:=w) t
   obtain ⟨b1,b2⟩:=b
   exact ⟨(p.1,b2)::rs,⟨eV h.1,rfl,c⟩,.cons ⟨rfl,h.2⟩ q⟩
def EE (trs:List (TE×TE)):TE:=λσ H Q=>∀ p,H p=none->mE trs σ (upd H p (.dK [])) λps H2=>H2 p=some (.dK [])/\∃ kvs:List (Key×V),ps=kvs.map (λkv=>(kV kv.1,kv.2))/\kvs.length<=15/\Q (.ref p) (upd H2 p (.dK (dF [] kvs)))
theorem qV {X:Cx}{pos:Pos}{keys:List (Option Expr)}{values:List Expr}{trs:List (TE×TE)}(h:PPs X pos keys values trs) (hall:keys.all (·.isSome)=true) (hl:keys.length=values.length) (h0:keys≠[])
  (h15:keys.length<=15):PE X (.Dict keys values pos) (EE trs):=by
 intro pins s σ H Q I q
 have hn:=I.hok.fresh (Nat.le_refl s.heap.objs.size)
 have I1:=I.laid (a:=s.heap.objs.size) (o:=.dK []) (h':=s.heap.push { cls:=.type "dict",data:=.dict #[] }) (t':=s.toks) (λ_ _ q=>Heap.get?_push_of_some _ q) (Nat.le_refl _) (qp s.heap I.big)
 refine wpAny_Dict_walk (knd:=aY X.prog X.w) hall hl h0 h15 (thn (h pins _ σ _ _ I1 (q _ hn)) λws s2 zz48=>?_)
 obtain ⟨ps,H2,I2,rel,e,kvs,ep,lk,q2⟩:=zz48
 subst ep
 obtain ⟨rs,c,rk⟩:=pC (P:=X.prog) (w:=X.w) rel
 obtain ⟨z,hd,vs0,r0,dd⟩:=gK I2.hok e
 cases r0
 refine ⟨rs,c,dd,λh' dd' hs=>⟨.ref s.heap.objs.size,_,?_,rfl,q2⟩⟩
 have hz:(dF [] kvs).length<=sizeLine:=by
  have h1:=oJ kvs []
  rw [List.length_nil] at h1
  rw [sizeLine_eq];omega
 have he:∃ q,h'.get? s.heap.objs.size=some q:=let ⟨q,_,_,hq,_⟩:=dd';⟨q,hq⟩
 exact jy I2 (by rw [e];exact True.intro) hs he (mD hz hd (rk.merge .nil) dd')
structure M1 (X:Cx) (o:Expr) (m:Str) (apos:Pos) (e:Expr) (cpos:Pos):Prop where
 base:attributeBase o m X.env (eval o X.env)=eval o X.env
 few:((backTo cpos (starEach [e] X.env)).all (λx=>!x.1)&&(backToKw cpos (keywordEach [] X.env)).all (λx=>x.1.isSome)
  && decide (([e]:List Expr).length+([]:List Keyword).length+(if ([]:List Keyword).isEmpty then 0 else 1)<30))=true
 line:(apos.endLine==cpos.line)=true
 trees:backTo cpos (starEach [e] X.env)=[(false,eval e X.env)]
structure M2 (X:Cx) (o:Expr) (m:Str) (apos:Pos) (e f:Expr) (cpos:Pos):Prop where
 base:attributeBase o m X.env (eval o X.env)=eval o X.env
 few:((backTo cpos (starEach [e,f] X.env)).all (λx=>!x.1)&&(backToKw cpos (keywordEach [] X.env)).all (λx=>x.1.isSome)
  && decide (([e,f]:List Expr).length+([]:List Keyword).length+(if ([]:List Keyword).isEmpty then 0 else 1)<30))=true
 line:(apos.endLine==cpos.line)=true
 trees:backTo cpos (starEach [e,f] X.env)=[(false,eval e X.env),(false,eval f X.env)]
section
variable {X:Cx}{pins:List (Addr×Obj)}{σ:St}{H:Hp}{s:Shared}{a:Addr}{y d:V}{u r:Value}{o:Option V}{A:Around}{E:Value->Shared->Prop}
end
section
variable {X:Cx}{o e f:Expr}{apos cpos:Pos}{td ty tx:TE}
end
section
variable {X:Cx}{pins:List (Addr×Obj)}{σ:St}{H:Hp}{s:Shared}{a:Addr}{kvs:List (Key×V)}{A:Around}{E:Value->Shared->Prop}
end
section
variable {X:Cx}{pins:List (Addr×Obj)}{σ:St}{H:Hp}{s:Shared}{a:Addr}{y:V}{u:Value}{A:Around}{E:Value->Shared->Prop}
end
section
variable {κ:Type}[DecidableEq κ]
end
def vn (w:World) (od:Obj) (kvs:List (Key×V)):Prop:=kvs.length<=sizeLine/\∀ P:Program,∃ vs,KV kvs vs/\od.IsDictOf (aY P w) vs
def fzH (w:World) (a:Addr) (od:Obj) (kvs:List (Key×V)):HO:=.ext λh=>h.get? a=some od/\vn w od kvs/\(a==sysModules)=false
theorem xo {P P':Program}{w:World}{es:List DictEntry}{vs:List (Key×Value)}(d:Pairs (aY P w) es vs):Pairs (aY P' w) es vs:=by
 induction d with
 |nil=>exact .nil
 |cons h1 h2 _ ih=>exact .cons h1 h2 ih
theorem kq {α β:Type}{F:α->β->Prop}:∀ {l:List α}{m:List β}{i:Nat}{b:β},Paired F l m->m[i]?=some b->∃ a,l[i]?=some a/\F a b
 |_,_,_,_,.nil,e=>by simp at e
 |_,_,0,_,.cons h _,e=>by simp at e;subst e;exact ⟨_,rfl,h⟩
 |_,_,i+1,_,.cons _ t,e=>by
  obtain ⟨a,h1,h2⟩:=kq (i:=i) t (by simpa using e)
  exact ⟨a,by simpa using h1,h2⟩
theorem z4 {P P':Program}{w:World}{od:Obj}{vs:List (Key×Value)}(h:od.IsDictOf (aY P w) vs):od.IsDictOf (aY P' w) vs:=by
 obtain ⟨es,ep,a,b,c,d,e⟩:=h
 exact ⟨es,ep,a,b,c,xo d,e⟩
theorem qW:∀ {xs:List V}{us:List Value},xs.length=us.length->(∀ (j:Nat) x u,xs[j]?=some x->us[j]?=some u->ao x u)->aj xs us
 |[],[],_,_=>.nil
 |[],_::_,h,_=>by simp at h
 |_::_,[],h,_=>by simp at h
 |x::xs,u::us,h,f=>.cons (f 0 x u rfl rfl) (qW (by simpa using h) λj y v e1 e2=>f (j+1) y v (by simpa using e1) (by simpa using e2))
section
variable {X:Cx}{pins:List (Addr×Obj)}{σ:St}{H:Hp}{s:Shared}{a d:Addr}{od:Obj}{kvs:List (Key×V)}{k:Key}{y v:V}{u r:Value}{A:Around}{E:Value->Shared->Prop}
theorem ul {P:Program}{w:World}{k:Key}{u:Value}(h:(aY P w).is k u=true):ao (kV k) u:=by
 rcases cS h with ⟨i,t,rfl,rfl⟩|⟨x,t,rfl,rfl⟩
 ·exact ⟨t,rfl⟩
 ·exact ⟨t,rfl⟩
theorem Inv.toFz (I:Inv X pins σ H s) (e:H a=some (.dK kvs)):∃ od,Inv X pins σ (upd H a (fzH X.w a od kvs)) s:=by
 obtain ⟨z,hd,vs,rel,dd⟩:=gK I.hok e
 obtain ⟨od,ho,hio⟩:=Heap.dictOf_iff.mp dd
 obtain ⟨hh,g,dr,t,os⟩:=s
 refine ⟨od,I.write (t':=t) (h':=hh) (x:=a) (e:=a) (by rw [e];trivial) (.inl rfl) (λb u _ q=>q) ⟨_,ho⟩ ⟨⟨ho,⟨z,λP=>⟨vs,rel,z4 hio⟩⟩,hd⟩,⟨_,ho⟩,λh1 h2 p k=>⟨k _ p.1,p.2⟩⟩⟩
theorem iG (I:Inv X pins σ H s) (e:H a=some (fzH X.w a od kvs)):s.heap.get? a=some od/\vn X.w od kvs/\(a==sysModules)=false:=(I.hok a _ e).1
theorem Inv.ofFz (I:Inv X pins σ H s) (e:H a=some (fzH X.w a od kvs)):Inv X pins σ (upd H a (.dK kvs)) s:=by
 obtain ⟨ho,⟨z,dz⟩,hd⟩:=iG I e
 obtain ⟨vs,rel,dd⟩:=dz X.prog
 obtain ⟨hh,g,dr,t,os⟩:=s
 exact I.write (t':=t) (h':=hh) (x:=a) (e:=a) (by rw [e];trivial) (.inl rfl) (λb u _ q=>q) ⟨_,ho⟩ ⟨z,hd,vs,rel,Heap.dictOf_iff.mpr ⟨od,ho,dd⟩⟩
def RdK (w:World) (H:Hp) (a:Addr) (kvs:List (Key×V)):Prop:=H a=some (.dK kvs)\/∃ od,H a=some (fzH w a od kvs)
theorem rdK (I:Inv X pins σ H s) (e:RdK X.w H a kvs):kvs.length<=sizeLine/\(a==sysModules)=false/\∃ vs,KV kvs vs/\s.heap.DictOf (aY X.prog X.w) a vs:=by
 rcases e with e|⟨od,e⟩
 ·exact gK I.hok e
 ·obtain ⟨ho,⟨z,dz⟩,hd⟩:=iG I e
  obtain ⟨vs,rel,dd⟩:=dz X.prog
  exact ⟨z,hd,vs,rel,Heap.dictOf_iff.mpr ⟨od,ho,dd⟩⟩
theorem xp {Q:Value->Shared->Prop}(I:Inv X pins σ H s) (g:RdK X.w H a kvs) (l:bg kvs k=some v) (ry:ao (kV k) u) (h:∀ w' s',Inv X pins σ H s'->ao v w'->Q w' s'):wpAny (model X.prog X.w) A (getItem (.ref a) u) Q E s:=by
 obtain ⟨z,hd,vs,rel,dd⟩:=rdK I g
 obtain ⟨w',hw,rw'⟩:=bJ.some_of (v:=v) (o:=valueAt vs k) (by rw [<- l];exact rel.val k)
 exact wpAny_getItem_of (eV ry) dd.mapOf hw (h w' _ (I.tok _) rw')
theorem GG {Q:Value->Shared->Prop}(I:Inv X pins σ H s) (g:RdK X.w H a kvs) (ry:ao (kV k) u) (h:∀ s',Inv X pins σ H s'->Q (.bool (bg kvs k).isSome) s'):wpAny (model X.prog X.w) A (compareOp .In u (.ref a)) Q E s:=by
 obtain ⟨z,hd,vs,rel,dd⟩:=rdK I g
 refine wpAny_in_of (eV ry) hd dd.mapOf ?_
 rw [<- (rel.val k).isSome_eq]
 exact h _ (I.tok _)
theorem z5 {Q:Value->Shared->Prop}(I:Inv X pins σ H s) (g:RdK X.w H a kvs) (ry:ao (kV k) u) (h:∀ s',Inv X pins σ H s'->Q (.bool (!(bg kvs k).isSome)) s'):wpAny (model X.prog X.w) A (compareOp .NotIn u (.ref a)) Q E s:=by
 obtain ⟨z,hd,vs,rel,dd⟩:=rdK I g
 refine wpAny_notIn_of (eV ry) hd dd.mapOf ?_
 rw [<- (rel.val k).isSome_eq]
 exact h _ (I.tok _)
theorem GH (I:Inv X pins σ H s) (g:RdK X.w H a kvs):s.TypeIs (.ref a) "dict" /\ ∀ b,Value.ref a=.ref b->∃ ob,s.heap.get? b=some ob/\ob.dict=none:=by
 obtain ⟨z,hd,vs,rel,dd⟩:=rdK I g
 refine ⟨dd.typeIs,λb q=>?_⟩
 cases q
 obtain ⟨ob,_,_,h1,h2,_⟩:=dd
 exact ⟨ob,h1,h2.2.1⟩
def iH (p d:Addr):HO:=.ext λh=>h.get? p=some { cls:=.type "dict_items",data:=.fields #[.ref d] }
def Co (w:World):V->List V->Hp->VK->Prop:=λx xs H Q=>∃ d kvs,x=.ref d/\xs=[]/\H d=some (.dK kvs)/\∀ p,H p=none->Q (.ref p) (upd H p (iH p d))
theorem yq:MtR X "dict.items" (Co X.w):=by
 rintro pins s σ H x xs v us Q I rx rs ⟨d,kvs,ex,exs,ed,q⟩
 subst ex exs
 cases rs
 cases (show v=Value.ref d from rx)
 obtain ⟨z,hd,vs,rel,dd⟩:=gK I.hok ed
 refine call_meetsIn PySem.F.slot_dict_items dd.typeIs PySem.F.entry_dict_items (PySem.F.args_dict_items_1 _) (meets_dict_items (aY X.prog X.w) d hd) ⟨⟨vs,dd⟩,?_⟩
 refine ⟨.ref s.heap.objs.size,_,I.laid (o:=iH s.heap.objs.size d) (t':=s.toks) (λb u e=>Heap.get?_push_of_some _ e) (Nat.le_refl _) ⟨Heap.get?_push_size _ rfl,⟨_,Heap.get?_push_size _ rfl⟩,λh1 h2 p k=>k _ p⟩,rfl,q _ (I.hok.fresh (Nat.le_refl _))⟩
def ItP (w:World) (d:Addr) (od:Obj) (kvs:List (Key×V)):It :=
 ⟨λi H=>H d=some (fzH w d od kvs)/\i<kvs.length,λi H x H'=>∃ p kv,kvs[i]?=some kv/\H p=none/\x=.ref p/\H'=upd H p (.tup [kV kv.1,kv.2]),λi H=>H d=some (fzH w d od kvs)/\kvs.length<=i⟩
theorem wI {P:Program}{w:World}{K:PySem.W.Frag}{elts:List Expr}{x1:Nat}{tpos:Pos}{vs:List (Key×Value)}{ep:Nat}(d it:Addr) (od:Obj) (kvs:List (Key×V)) (rel:KV kvs vs) (hne:d≠it) (hod:∀ h:Heap,h.get? d=some od->h.DictAt (aY P w) d vs ep) :
  Turn P w K (.Tuple elts x1 tpos) (ItP w d od kvs) [it] it (λi h=>∃ ok ov,IsItemIter h it d i vs.length ep ok ov) where
 mem:=by simp
 obj:=λi h st b hb=>by
  obtain rfl:b=it:=by simpa using hb
  obtain ⟨ok,ov,e⟩:=st
  exact ⟨_,e,λv z=>by cases z⟩
 keep:=λi h h' zz49 k=>by obtain ⟨ok,ov,e⟩:=zz49;exact ⟨ok,ov,k it (by simp) _ e⟩
 item:=by
  rintro X hP hw hK hc i pins s σ H E I hf ⟨ok,ov,st⟩ ⟨hg,hi⟩
  subst hP hw hK
  have hl:i<vs.length:=by rw [<- rel.length];exact hi
  obtain ⟨⟨k,x⟩,hx⟩:∃ p,vs[i]?=some p:=⟨vs[i],by simp [hl]⟩
  obtain ⟨f0,f1,f2,f3,f4,f5⟩:=hf it (by simp)
  refine wpAny_pyNext_items_item st (hod _ (iG I hg).1) hx λkey h' hkey st' ht hsz sb=>?_
  refine ⟨_,rfl,wpAny_letOwnedTupleGo_items st' λh2 st2 sb2=>?_⟩
  have hit:it<s.heap.objs.size:=Heap.lt_size st
  obtain ⟨kv,e1,e2,e3⟩:∃ kv,kvs[i]?=some kv/\kv.1=k/\ao kv.2 x:=by
   obtain ⟨kv,z1,z2⟩:=kq rel hx
   exact ⟨kv,z1,z2.1,z2.2⟩
  have ht2:h2.get? s.heap.objs.size=some { cls:=.type "tuple",data:=.seq #[key,x] }:=(sb2.2 _ (Nat.ne_of_gt hit)).trans ht
  have Im:Inv X pins σ (upd H s.heap.objs.size (.tup [kV kv.1,kv.2])) { s with heap:=s.heap.push { cls:=.type "tuple",data:=.seq #[key,x] },toks:=s.toks } :=
   I.laid (t':=s.toks) (λb u e=>Heap.get?_push_of_some _ e) (Nat.le_refl _) ⟨by show 2<=sizeLine;decide,[key,x],.cons (by rw [e2];exact ul hkey) (.cons e3 .nil),⟨_,Heap.get?_push_size _ rfl,rfl,_,rfl⟩⟩
  have I2:Inv X pins σ (upd H s.heap.objs.size (.tup [kV kv.1,kv.2])) { s with heap:=h2 }:=by
   refine Im.turned (t':=s.toks) (λb o hb e=>?_) (by rw [av (Nat.ne_of_lt hit)];exact f0) f1 f3 f4 f5
   by_cases hbs:b=s.heap.objs.size
   ·subst hbs
    rw [show ({ s with heap:=s.heap.push { cls:=.type "tuple",data:=.seq #[key,x] },toks:=s.toks }:Shared).heap.get? s.heap.objs.size=some { cls:=.type "tuple",data:=.seq #[key,x] } from Heap.get?_push_size _ rfl] at e
    cases e;exact ht2
   ·exact (sb2.2 b hb).trans (sb b o hb (by rw [<- Heap.get?_push_ne _ _ _ hbs];exact e))
  refine ⟨.ref s.heap.objs.size,_,I2,rfl,⟨s.heap.objs.size,kv,e1,I.hok.fresh (Nat.le_refl _),rfl,rfl⟩,⟨_,_,st2⟩,λb hb=>?_⟩
  obtain rfl:b=it:=by simpa using hb
  rw [av (Nat.ne_of_lt hit)];exact f0
 done:=by
  rintro X hP hw hK hc i pins s σ H E I hf ⟨ok,ov,st⟩ ⟨hg,hi⟩
  subst hP hw hK
  obtain ⟨f0,f1,f2,f3,f4,f5⟩:=hf it (by simp)
  refine wpAny_pyNext_items_end (I.ok.hd hc) st (hod _ (iG I hg).1) (List.getElem?_eq_none (by rw [<- rel.length];exact hi)) λh' eb=>⟨rfl,I.turned (t':=s.toks) (λb o hb e=>eb b o hb e) f0 f1 f3 f4 f5⟩
 self:=λA i s Q E zz50 h=>by obtain ⟨ok,ov,st⟩:=zz50;exact PySem.W.kcp_self st h
def tiP (w:World) (te:TE):TI:=λσ H R=>te σ H λx H1=>∃ p d kvs,x=.ref p/\H1 p=some (iH p d)/\H1 d=some (.dK kvs)/\∀ od,R (ItP w d od kvs) (upd H1 d (fzH w d od kvs))
theorem yr {e:Expr}{te:TE}{elts:List Expr}{x1:Nat}{tpos:Pos}(he:PE X e te):PI X (.Tuple elts x1 tpos) e (tiP X.w te):=by
 intro pins s σ H R I h
 refine thn (he pins s σ H _ I h) λv s1 zz51=>?_
 obtain ⟨x,H1,I1,r1,p,d,kvs,ex,ep,ed,hR⟩:=zz51
 subst ex
 cases (show v=Value.ref p from r1)
 have hv:s1.heap.get? p=some { cls:=.type "dict_items",data:=.fields #[.ref d] }:=(I1.hok p _ ep).1
 obtain ⟨od,I2⟩:=I1.toFz ed
 obtain ⟨ho,⟨z,dz⟩,hd⟩:=iG I2 aF
 obtain ⟨vs,rel,es,ep',q1,q2,q3,q4,q5⟩:=dz X.prog
 have at_:∀ h:Heap,h.get? d=some od->h.DictAt (aY X.prog X.w) d vs ep':=λh e=>⟨od,es,e,q1,q2,q3,q4,q5⟩
 refine wpAny_pyIter_items ⟨_,hv,rfl,rfl⟩ (at_ _ ho) ?_
 have hlt:d<s1.heap.objs.size:=Heap.lt_size ho
 have I3:Inv X pins σ (upd H1 d (fzH X.w d od kvs)) { s1 with heap:=s1.heap.push { cls:=.type "dict_itemiterator",data:=.fields #[.none,.bool false,.ref d,.int 0 0,.int vs.length 0,.int ep' 0,.none,.none] } }:=I2.kept (t':=s1.toks) λb u e=>Heap.get?_push_of_some _ e
 refine ⟨s1.heap.objs.size,[s1.heap.objs.size],_,_,_,rfl,I3,wI d _ od kvs rel (Nat.ne_of_lt hlt) at_,⟨.none,.none,Heap.get?_push_size _ rfl⟩,λb hb=>?_,hR od⟩
 obtain rfl:b=s1.heap.objs.size:=by simpa using hb
 exact I2.fpOk (Nat.le_refl _) (I2.hok.fresh (Nat.le_refl _))
def EF (w:World) (td ty:TE):TE:=λσ H Q=>td σ H λx H1=>ty σ H1 λy H2=>∃ a kvs k v,x=.ref a/\RdK w H2 a kvs/\y=kV k/\bg kvs k=some v/\Q v H2
theorem z6 {o i:Expr}{pos:Pos}{td ty:TE}(ho:PE X o td) (hi:PE X i ty) (hs:ko i):PE X (.Subscript o i pos) (EF X.w td ty):=by
 intro pins s σ H Q I h
 refine z3 PySem.F.slot_dict_getitem.lookup hs (thn (ho pins s σ H _ I h) λu s1 zz52=>?_)
 obtain ⟨x,H1,I1,rx,q1⟩:=zz52
 refine thn (hi pins s1 σ H1 _ I1 q1) λiv s2 zz53=>?_
 obtain ⟨y,H2,I2,ry,a,kvs,k,v,ex,g,ey,l,q2⟩:=zz53
 subst ex ey
 obtain rfl:u=Value.ref a:=rx
 exact ⟨(GH I2 g).1,xp I2 g l ry λw' s3 I3 rw'=>⟨v,H2,I3,rw',q2⟩⟩
def EG:V->List V->Hp->VK->Prop:=λx xs H Q=>∃ d kvs k v,x=.ref d/\xs=[kV k]/\H d=some (.dK kvs)/\bg kvs k=some v/\Q v (upd H d (.dK (eU kvs k)))
theorem z7:MtR X "dict.pop" EG:=by
 rintro pins s σ H x xs v us Q I rx rs ⟨d,kvs,k,v',ex,exs,ed,l,q⟩
 subst ex exs
 obtain ⟨u,rfl,ru⟩:=bZ rs
 cases (show v=Value.ref d from rx)
 exact ED I ed ru l (.inl rfl) λw' s' I' rw'=>⟨v',_,I',rw',q⟩
theorem PE.unf {e:Expr}{t:TE}(h:PE X e t):PE X e (λσ H Q=>t σ H λv H'=>∃ d od kvs,H' d=some (fzH X.w d od kvs)/\Q v (upd H' d (.dK kvs))):=λpins s σ H Q I q =>
 thn (h pins s σ H _ I q) λu s' zz54=>by obtain ⟨v,H',I',r,d,od,kvs,e,q'⟩:=zz54;exact ⟨v,_,I'.ofFz e,r,q'⟩
end
end L2
namespace T2
open PySem L2
inductive T where
 |non|bl (b:Bool)|int (i:Int)|str (x:Str)|tup (ts:List T)|lst (ts:List T)|scr (ns:List Int)|ref (a:Addr)|ty (n:String)
inductive O where
 |lst (ts:List T)|dK (kvs:List (Key×T))|dT (kvs:List (List Key×T))|ins (C:Addr) (fs:List (Str×T))
  |fK (w:World) (od:Obj) (vs:List (Key×V)) (kvs:List (Key×T))
  |exk (C:Addr)
def _root_.L2.exH (C a:Addr):HO:=.ext λh=>∃ ob,h.get? a=some ob/\ob.cls=.ref C/\ob.dict=none/\∃ vs,ob.data=.fields vs/\vs[2]?=some .none
abbrev Sto:=Addr->Option O
def put (S:Sto) (a:Addr) (o:O):Sto:=λb=>if b=a then some o else S b
theorem aC {S:Sto}{a:Addr}{o:O}:put S a o a=some o:=by unfold put;rw [if_pos rfl]
theorem aE {S:Sto}{a b:Addr}{o:O}(h:b≠a):put S a o b=S b:=by unfold put;rw [if_neg h]
theorem cg {S:Sto}{a:Addr}{o u:O}:put (put S a o) a u=put S a u:=by
 funext b;unfold put;split<;>rfl
abbrev Fg:=PySem.W.Frag
def Scr (K:Fg) (H:Hp) (S:Sto) (p:Addr) (ns:List Int):Prop:=(S p=none/\∃ o,H p=some (.frz o (.lst (ns.map V.int))))\/SqL K (λ_=>none) p (ns.map V.int)
mutual
inductive Rp (K:Fg) (H:Hp) (S:Sto):T->V->Prop
 |non:Rp K H S .non .non
 |bl {b}:Rp K H S (.bl b) (.bl b)
 |int {i}:Rp K H S (.int i) (.int i)
 |str {x}:Rp K H S (.str x) (.str x)
 |ty {n}:Rp K H S (.ty n) (.ty n)
 |ref {a}:Rp K H S (.ref a) (.ref a)
 |tup {p ts vs}:S p=none->H p=some (.tup vs)->Rps K H S ts vs->Rp K H S (.tup ts) (.ref p)
 |lst {p ts vs}:S p=none->H p=some (.lst vs)->Rps K H S ts vs->Rp K H S (.lst ts) (.ref p)
 |scr {p ns}:Scr K H S p ns->Rp K H S (.scr ns) (.ref p)
inductive Rps (K:Fg) (H:Hp) (S:Sto):List T->List V->Prop
 |nil:Rps K H S [] []
 |cons {t v ts vs}:Rp K H S t v->Rps K H S ts vs->Rps K H S (t::ts) (v::vs)
end
def Fr (H:Hp) (S:Sto) (H':Hp) (S':Sto):Prop:=∀ a o,H a=some o->S a=none->H' a=some o/\S' a=none
theorem Fr.refl {H S}:Fr H S H S:=λ_ _ h n=>⟨h,n⟩
theorem Fr.trans {H S H1 S1 H2 S2}(f:Fr H S H1 S1) (g:Fr H1 S1 H2 S2):Fr H S H2 S2:=λa o h n=>by
 obtain ⟨h1,n1⟩:=f a o h n
 exact g a o h1 n1
section
variable {K:Fg}{H H':Hp}{S S':Sto}
theorem Scr.fr {p ns}(h:Scr K H S p ns) (f:Fr H S H' S'):Scr K H' S' p ns:=by
 rcases h with ⟨n,o,e⟩|h
 ·obtain ⟨e',n'⟩:=f p _ e n
  exact .inl ⟨n',o,e'⟩
 ·exact .inr h
theorem Scr.sq {p ns}(h:Scr K H S p ns):SqL K H p (ns.map V.int):=by
 rcases h with ⟨_,o,e⟩|h
 ·exact .inl (.inr ⟨o,e⟩)
 ·rcases h with (h|⟨o,h⟩)|h
  ·cases h
  ·cases h
  ·exact .inr h
mutual
theorem Rp.fr (f:Fr H S H' S'):∀ {t v},Rp K H S t v->Rp K H' S' t v
 |_,_,.non=>.non
 |_,_,.bl=>.bl
 |_,_,.int=>.int
 |_,_,.str=>.str
 |_,_,.ty=>.ty
 |_,_,.ref=>.ref
 |_,_,.tup n h r=>.tup (f _ _ h n).2 (f _ _ h n).1 (Rps.fr f r)
 |_,_,.lst n h r=>.lst (f _ _ h n).2 (f _ _ h n).1 (Rps.fr f r)
 |_,_,.scr h=>.scr (h.fr f)
theorem Rps.fr (f:Fr H S H' S'):∀ {ts vs},Rps K H S ts vs->Rps K H' S' ts vs
 |_,_,.nil=>.nil
 |_,_,.cons a b=>.cons (Rp.fr f a) (Rps.fr f b)
end
theorem Rps.length:∀ {ts vs},Rps K H S ts vs->vs.length=ts.length
 |_,_,.nil=>rfl
 |_,_,.cons _ b=>by simp [Rps.length b]
theorem Rps.append:∀ {ts vs us ws},Rps K H S ts vs->Rps K H S us ws->Rps K H S (ts++us) (vs++ws)
 |_,_,_,_,.nil,r=>r
 |_,_,_,_,.cons a b,r=>.cons a (Rps.append b r)
theorem Rps.drop:∀ {ts vs}(n:Nat),Rps K H S ts vs->Rps K H S (ts.drop n) (vs.drop n)
 |_,_,0,r=>r
 |_,_,_+1,.nil=>.nil
 |_,_,n+1,.cons _ b=>Rps.drop n b
theorem Rps.take:∀ {ts vs}(n:Nat),Rps K H S ts vs->Rps K H S (ts.take n) (vs.take n)
 |_,_,0,_=>.nil
 |_,_,_+1,.nil=>.nil
 |_,_,n+1,.cons a b=>.cons a (Rps.take n b)
theorem Rps.set {t v}(r:Rp K H S t v):∀ {ts vs}(i:Nat),Rps K H S ts vs->Rps K H S (ts.set i t) (vs.set i v)
 |_,_,_,.nil=>.nil
 |_,_,0,.cons _ b=>.cons r b
 |_,_,i+1,.cons a b=>.cons a (Rps.set r i b)
theorem Rps.get:∀ {ts vs}{i:Nat}{t},Rps K H S ts vs->ts[i]?=some t->∃ v,vs[i]?=some v/\Rp K H S t v
 |_,_,_,_,.nil,e=>by simp at e
 |_,_,0,_,.cons a _,e=>by simp at e;subst e;exact ⟨_,rfl,a⟩
 |_,_,i+1,_,.cons _ b,e=>by
  obtain ⟨v,h1,h2⟩:=Rps.get (i:=i) b (by simpa using e)
  exact ⟨v,by simpa using h1,h2⟩
theorem Rps.getV:∀ {ts vs}{i:Nat}{v},Rps K H S ts vs->vs[i]?=some v->∃ t,ts[i]?=some t/\Rp K H S t v
 |_,_,_,_,.nil,e=>by simp at e
 |_,_,0,_,.cons a _,e=>by simp at e;subst e;exact ⟨_,rfl,a⟩
 |_,_,i+1,_,.cons _ b,e=>by
  obtain ⟨v,h1,h2⟩:=Rps.getV (i:=i) b (by simpa using e)
  exact ⟨v,by simpa using h1,h2⟩
theorem Rps.ints {ns:List Int}:Rps K H S (ns.map T.int) (ns.map V.int):=by
 induction ns with
 |nil=>exact .nil
 |cons a l ih=>exact .cons .int ih
theorem Rps.strs {ns:List Str}:Rps K H S (ns.map T.str) (ns.map V.str):=by
 induction ns with
 |nil=>exact .nil
 |cons a l ih=>exact .cons .str ih
end
inductive ORp (K:Fg) (H:Hp) (S:Sto) (a:Addr):O->Prop
 |lst {ts vs}:H a=some (.lst vs)->Rps K H S ts vs->ORp K H S a (.lst ts)
 |dK {kvs kts}:H a=some (.dK kvs)->Paired (λ(p:Key×T) (q:Key×V)=>p.1=q.1/\Rp K H S p.2 q.2) kts kvs->ORp K H S a (.dK kts)
 |dT {kvs kts}:H a=some (.dT kvs)->Paired (λ(p:List Key×T) (q:List Key×V)=>p.1=q.1/\Rp K H S p.2 q.2) kts kvs->ORp K H S a (.dT kts)
 |fK {w od kvs kts}:H a=some (fzH w a od kvs)->Paired (λ(p:Key×T) (q:Key×V)=>p.1=q.1/\Rp K H S p.2 q.2) kts kvs->ORp K H S a (.fK w od kvs kts)
 |ins {C dx fs fts}:H a=some (.ins C dx fs)->Paired (λ(p:Str×T) (q:Str×V)=>p.1=q.1/\Rp K H S p.2 q.2) fts fs->ORp K H S a (.ins C fts)
 |exk {C}:H a=some (exH C a)->ORp K H S a (.exk C)
section
variable {K:Fg}{H:Hp}{S:Sto}{v:V}{a:Addr}
theorem Rp.iint {i:Int}(r:Rp K H S (.int i) v):v=.int i:=by cases r;rfl
theorem Rp.istr {x:Str}(r:Rp K H S (.str x) v):v=.str x:=by cases r;rfl
theorem Rp.itup {ts:List T}(r:Rp K H S (.tup ts) v):∃ p vs,v=.ref p/\H p=some (.tup vs)/\Rps K H S ts vs:=by cases r with|tup n h p=>exact ⟨_,_,rfl,h,p⟩
end
def SRp (K:Fg) (H:Hp) (S:Sto):Prop:=∀ a o,S a=some o->ORp K H S a o
section
variable {K:Fg}{H H':Hp}{S S':Sto}{a:Addr}{o:O}
theorem ORp.some (r:ORp K H S a o):∃ u,H a=some u:=by cases r<;>exact ⟨_,‹_›⟩
theorem SRp.fresh (s:SRp K H S) (h:H a=none):S a=none:=by
 cases e:S a with
 |none=>rfl
 |some o=>obtain ⟨u,q⟩:=(s a o e).some;rw [h] at q;cases q
theorem ORp.fr (r:ORp K H S a o) (f:Fr H S H' S') (h:H' a=H a):ORp K H' S' a o:=by
 cases r with
 |lst e q=>exact .lst (h.trans e) (q.fr f)
 |dK e q=>exact .dK (h.trans e) (Paired.mapP q λ_ _ z=>⟨z.1,z.2.fr f⟩)
 |dT e q=>exact .dT (h.trans e) (Paired.mapP q λ_ _ z=>⟨z.1,z.2.fr f⟩)
 |fK e q=>exact .fK (h.trans e) (Paired.mapP q λ_ _ z=>⟨z.1,z.2.fr f⟩)
 |ins e q=>exact .ins (h.trans e) (Paired.mapP q λ_ _ z=>⟨z.1,z.2.fr f⟩)
 |exk e=>exact .exk (h.trans e)
theorem Fr.new {p:Addr}{u:HO}(h:H p=none):Fr H S (upd H p u) S:=λa o e n=>⟨by rw [av (br e h)];exact e,n⟩
theorem SRp.new {p:Addr}{u:HO}(s:SRp K H S) (h:H p=none):SRp K (upd H p u) S:=λa o e=>by
 obtain ⟨x,hx⟩:=(s a o e).some
 exact (s a o e).fr (Fr.new h) (av (br hx h))
theorem Fr.newT {p:Addr}{u:HO}{o:O}(h:H p=none):Fr H S (upd H p u) (put S p o):=λa _ e n =>
 ⟨by rw [av (br e h)];exact e,by rw [aE (br e h)];exact n⟩
theorem SRp.newT {p:Addr}{u:HO}{o:O}(s:SRp K H S) (h:H p=none) (n:ORp K (upd H p u) (put S p o) p o):SRp K (upd H p u) (put S p o):=λa o' e=>by
 by_cases ha:a=p
 ·subst ha;rw [aC] at e;cases e;exact n
 ·rw [aE ha] at e
  exact (s a o' e).fr (Fr.newT h) (av ha)
theorem Fr.write {p:Addr}{u:HO}{o:O}(h:S p≠none):Fr H S (upd H p u) (put S p o):=λa _ e n =>
 have ne:a≠p:=λz=>by subst z;exact h n
 ⟨by rw [av ne];exact e,by rw [aE ne];exact n⟩
theorem SRp.write {p:Addr}{u:HO}{o:O}(s:SRp K H S) (h:S p≠none) (n:ORp K (upd H p u) (put S p o) p o):SRp K (upd H p u) (put S p o):=λa o' e=>by
 by_cases ha:a=p
 ·subst ha;rw [aC] at e;cases e;exact n
 ·rw [aE ha] at e
  exact (s a o' e).fr (Fr.write h) (av ha)
def Le (S0 S:Sto):Prop:=∀ a o,S0 a=some o->S a=some o
theorem Le.refl {S}:Le S S:=λ_ _ h=>h
theorem Le.none {S0 S:Sto}(l:Le S0 S){a:Addr}(h:S a=none):S0 a=none:=by
 cases e:S0 a with
 |none=>rfl
 |some o=>rw [l a o e] at h;cases h
theorem Fr.le {S0:Sto}(l:Le S0 S):Fr H S H S0:=λ_ _ h n=>⟨h,l.none n⟩
theorem SRp.le {S0:Sto}(s:SRp K H S) (l:Le S0 S):SRp K H S0:=λa o e=>(s a o (l a o e)).fr (Fr.le l) rfl
end
abbrev StT:=List (Option T)
abbrev WE:=StT->Sto->(T->Sto->Prop)->Prop
abbrev WT:=StT->Sto->(Bool->Sto->Prop)->Prop
abbrev WA:=StT->Sto->(List T->Sto->Prop)->Prop
structure EndsT where
 nx:StT->Sto->Prop
 rt:T->Sto->Prop
 bk:StT->Sto->Prop:=λ_ _=>False
 ct:StT->Sto->Prop:=λ_ _=>False
abbrev WS:=EndsT->StT->Sto->Prop
def Cov (K:Fg) (H:Hp) (S:Sto) (σ:St) (σt:StT):Prop:=σt.length=σ.length/\∀ (i:Nat) (t:T),σt[i]?=some (some t)->∃ v:V,σ[i]?=some (some v)/\Rp K H S t v
theorem Cov.fr {K H S H' S' σ σt}(c:Cov K H S σ σt) (f:Fr H S H' S'):Cov K H' S' σ σt:=⟨c.1,λi t e=>by
 obtain ⟨v,h,r⟩:=c.2 i t e
 exact ⟨v,h,r.fr f⟩⟩
theorem Cov.set {K H S σ σt t v}(c:Cov K H S σ σt) (r:Rp K H S t v) (i:Nat):Cov K H S (σ.set i (some v)) (σt.set i (some t)):=by
 refine ⟨by simp [c.1],λj u e=>?_⟩
 by_cases h:i=j
 ·subst h
  by_cases hl:i<σt.length
  ·rw [List.getElem?_set_self hl] at e
   cases e
   exact ⟨v,List.getElem?_set_self (by rw [<- c.1];exact hl),r⟩
  ·rw [List.getElem?_eq_none (by simp;omega)] at e;cases e
 ·rw [List.getElem?_set_ne h] at e ⊢
  exact c.2 j u e
abbrev Bh (K:Fg) (H:Hp) (S:Sto) (Qt:T->Sto->Prop) (Q:VK):Prop:=∀ v H' t S',Fr H S H' S'->SRp K H' S'->Rp K H' S' t v->Qt t S'->Q v H'
def lE (K:Fg) (w:WE):TE:=λσ H Q=>∃ S σt Qt,SRp K H S/\Cov K H S σ σt/\w σt S Qt/\Bh K H S Qt Q
def lT (K:Fg) (w:WT):TT:=λσ H Q=>∃ S σt Qt,SRp K H S/\Cov K H S σ σt/\w σt S Qt/\∀ b H' S',Fr H S H' S'->SRp K H' S'->Qt b S'->Q b H'
def lA (K:Fg) (w:WA):TA:=λσ H Q=>∃ S σt Qt,SRp K H S/\Cov K H S σ σt/\w σt S Qt/\∀ vs H' ts S',Fr H S H' S'->SRp K H' S'->Rps K H' S' ts vs->Qt ts S'->Q vs H'
structure EndsOk (K:Fg) (H:Hp) (S:Sto) (Dt:EndsT) (D:Ends):Prop where
 nx:∀ σ' H' σt' S',Fr H S H' S'->SRp K H' S'->Cov K H' S' σ' σt'->Dt.nx σt' S'->D.nx σ' H'
 rt:∀ v H' t S',Fr H S H' S'->SRp K H' S'->Rp K H' S' t v->Dt.rt t S'->D.rt v H'
 bk:∀ σ' H' σt' S',Fr H S H' S'->SRp K H' S'->Cov K H' S' σ' σt'->Dt.bk σt' S'->D.bk σ' H'
 ct:∀ σ' H' σt' S',Fr H S H' S'->SRp K H' S'->Cov K H' S' σ' σt'->Dt.ct σt' S'->D.ct σ' H'
theorem EndsOk.fr {K H S H' S' Dt D}(e:EndsOk K H S Dt D) (f:Fr H S H' S'):EndsOk K H' S' Dt D :=
 ⟨λσ' H2 σt' S2 g=>e.nx σ' H2 σt' S2 (f.trans g),λv H2 t S2 g=>e.rt v H2 t S2 (f.trans g),λσ' H2 σt' S2 g=>e.bk σ' H2 σt' S2 (f.trans g),λσ' H2 σt' S2 g=>e.ct σ' H2 σt' S2 (f.trans g)⟩
def lS (K:Fg) (w:WS):TS:=λD σ H=>∃ S σt Dt,SRp K H S/\Cov K H S σ σt/\w Dt σt S/\EndsOk K H S Dt D
def QE (K:Fg) (X:Cx) (e:Expr) (w:WE):Prop:=PE X e (lE K w)
def QT (K:Fg) (X:Cx) (e:Expr) (w:WT):Prop:=PT X e (lT K w)
def QW (K:Fg) (X:Cx) (e:Expr) (w:WT):Prop:=PW X e (lT K w)
def QA (K:Fg) (X:Cx) (es:List Expr) (w:WA):Prop:=PA X es (lA K w)
def QS (K:Fg) (X:Cx) (st:Stmt) (w:WS):Prop:=PS X st (lS K w)
def QSs (K:Fg) (X:Cx) (st:List Stmt) (w:WS):Prop:=PSs X st (lS K w)
theorem PE.of {X:Cx}{e:Expr}{t t':TE}(h:PE X e t) (i:∀ σ H Q,t' σ H Q->t σ H Q):PE X e t':=λpins s σ H Q I q=>h pins s σ H Q I (i σ H Q q)
theorem PT.of {X:Cx}{e:Expr}{t t':TT}(h:PT X e t) (i:∀ σ H Q,t' σ H Q->t σ H Q):PT X e t':=λpins s σ H Q I q=>h pins s σ H Q I (i σ H Q q)
theorem PW.of {X:Cx}{e:Expr}{t t':TT}(h:PW X e t) (i:∀ σ H Q,t' σ H Q->t σ H Q):PW X e t':=λwh pins s σ H Q I q=>h wh pins s σ H Q I (i σ H Q q)
theorem PA.of {X:Cx}{e:List Expr}{t t':TA}(h:PA X e t) (i:∀ σ H Q,t' σ H Q->t σ H Q):PA X e t':=λp pins s σ H Q I q=>h p pins s σ H Q I (i σ H Q q)
theorem PS.of {X:Cx}{e:Stmt}{t t':TS}(h:PS X e t) (i:∀ D σ H,t' D σ H->t D σ H):PS X e t':=λpins s σ H D I q=>h pins s σ H D I (i D σ H q)
theorem PSs.of {X:Cx}{e:List Stmt}{t t':TS}(h:PSs X e t) (i:∀ D σ H,t' D σ H->t D σ H):PSs X e t':=λpins s σ H D I q=>h pins s σ H D I (i D σ H q)
section
variable {K:Fg}{X:Cx}{a b c e:Expr}{wa wb wc:WE}{pos:Pos}
def wV (i:Nat):WE:=λσ S Q=>∃ t,σ[i]?=some (some t)/\Q t S
def wC (t:T):WE:=λ_ S Q=>Q t S
theorem EH {i:Nat}{x:Str}(h:PE X (.Name x pos) (nP i)):QE K X (.Name x pos) (wV i):=PE.of h λσ H Q zz55=>by
 obtain ⟨S,σt,Qt,s,c,⟨t,e,q⟩,hq⟩:=zz55
 obtain ⟨v,e2,r⟩:=c.2 i t e
 exact ⟨v,e2,hq v H t S .refl s r q⟩
theorem ag {i j}:QE K X (.Constant (.int i) j pos) (wC (.int i)):=PE.of BG λσ H Q zz56=>by obtain ⟨S,σt,Qt,s,c,q,hq⟩:=zz56;exact hq _ H _ S .refl s .int q
theorem bu {i j}:QE K X (.Constant (.bool i) j pos) (wC (.bl i)):=PE.of Eg λσ H Q zz57=>by obtain ⟨S,σt,Qt,s,c,q,hq⟩:=zz57;exact hq _ H _ S .refl s .bl q
theorem nw {j}:QE K X (.Constant .none j pos) (wC .non):=PE.of BH λσ H Q zz58=>by obtain ⟨S,σt,Qt,s,c,q,hq⟩:=zz58;exact hq _ H _ S .refl s .non q
theorem aD {x j}:QE K X (.Constant (.str x) j pos) (wC (.str x)):=PE.of eN λσ H Q zz59=>by obtain ⟨S,σt,Qt,s,c,q,hq⟩:=zz59;exact hq _ H _ S .refl s .str q
theorem mF {x:Str}{t:T}{v:V}(h:PE X (.Name x pos) (tC v)) (r:∀ H S,Rp K H S t v):QE K X (.Name x pos) (wC t):=PE.of h λσ H Q zz60=>by obtain ⟨S,σt,Qt,s,c,q,hq⟩:=zz60;exact hq _ H _ S .refl s (r _ _) q
abbrev G2:=T->T->Sto->(T->Sto->Prop)->Prop
def l2 (K:Fg) (g:G2):R2:=λx y H Q=>∃ S tx ty Qt,SRp K H S/\Rp K H S tx x/\Rp K H S ty y/\g tx ty S Qt/\Bh K H S Qt Q
def w2 (g:G2) (wa wb:WE):WE:=λσ S Q=>wa σ S λx S1=>wb σ S1 λy S2=>g x y S2 Q
theorem j6 {g:G2}{σ H Q}(h:lE K (w2 g wa wb) σ H Q):tOp (l2 K g) (lE K wa) (lE K wb) σ H Q:=by
 obtain ⟨S,σt,Qt,s,c,q,hq⟩:=h
 refine ⟨S,σt,_,s,c,q,λx H1 tx S1 f1 s1 r1 q1=>?_⟩
 refine ⟨S1,σt,_,s1,c.fr f1,q1,λy H2 ty S2 f2 s2 r2 q2=>?_⟩
 exact ⟨S2,tx,ty,Qt,s2,r1.fr f2,r2,q2,λv H' t S' f=>hq v H' t S' ((f1.trans f2).trans f)⟩
theorem aA {op:Operator}{g:G2}(ho:OpR X (binaryOp op) (l2 K g)) (ha:QE K X a wa) (hb:QE K X b wb):QE K X (.BinOp a op b pos) (w2 g wa wb):=PE.of (Ep ho ha hb) λ_ _ _ h=>j6 h
theorem bB {op:CmpOp}{g:G2}(ho:OpR X (compareOp op) (l2 K g)) (ha:QE K X a wa) (hb:QE K X b wb) (hm:behindInMarks op b=false):QE K X (.Compare a [op] [b] pos) (w2 g wa wb):=PE.of (zD ho ha hb hm) λ_ _ _ h=>j6 h
def wB (w:WE):WT:=λσ S Q=>w σ S λx S1=>∃ k,x=.bl k/\Q k S1
theorem EI {w:WE}{σ H Q}(h:lT K (wB w) σ H Q):ui (lE K w) σ H Q:=by
 obtain ⟨S,σt,Qt,s,c,q,hq⟩:=h
 refine ⟨S,σt,_,s,c,q,λx H1 tx S1 f1 s1 r1 q1=>?_⟩
 obtain ⟨k,rfl,q1⟩:=q1
 cases r1
 exact ⟨k,rfl,hq k H1 S1 f1 s1 q1⟩
theorem ay {op:CmpOp}{g:G2}(ho:OpR X (compareOp op) (l2 K g)) (ha:QE K X a wa) (hb:QE K X b wb) (hm:behindInMarks op b=false):QT K X (.Compare a [op] [b] pos) (wB (w2 g wa wb)) :=
 PT.of (zE ho ha hb hm) λσ H Q h=>by
  obtain ⟨S,σt,Qt,s,c,q,hq⟩:=h
  exact j6 ⟨S,σt,_,s,c,q,λv H' t S' f s' r zz61=>by obtain ⟨k,e,q'⟩:=zz61;exact by subst e;cases r;exact ⟨k,rfl,hq k H' S' f s' q'⟩⟩
def mG (g g':G2) (wa wb wc:WE):WE:=λσ S Q=>wa σ S λx S1=>wb σ S1 λy S2=>g x y S2 λz S3=>∃ k,z=.bl k/\if k=true then wc σ S3 λu S4=>g' y u S4 Q else Q (.bl false) S3
theorem xq {g g':G2}{σ H Q}(h:lE K (mG g g' wa wb wc) σ H Q):sL (l2 K g) (l2 K g') (lE K wa) (lE K wb) (lE K wc) σ H Q:=by
 obtain ⟨S,σt,Qt,s,c,q,hq⟩:=h
 refine ⟨S,σt,_,s,c,q,λx H1 tx S1 f1 s1 r1 q1=>?_⟩
 refine ⟨S1,σt,_,s1,c.fr f1,q1,λy H2 ty S2 f2 s2 r2 q2=>?_⟩
 refine ⟨S2,tx,ty,_,s2,r1.fr f2,r2,q2,λz H3 tz S3 f3 s3 r3 q3=>?_⟩
 obtain ⟨k,rfl,q3⟩:=q3
 cases r3
 refine ⟨k,rfl,?_⟩
 cases k with
 |false=>exact hq _ _ _ _ ((f1.trans f2).trans f3) s3 .bl q3
 |true =>
  refine ⟨S3,σt,_,s3,c.fr ((f1.trans f2).trans f3),q3,λu H4 tu S4 f4 s4 r4 q4=>?_⟩
  exact ⟨S4,ty,tu,Qt,s4,(r2.fr f3).fr f4,r4,q4,λv H' t S' f=>hq v H' t S' ((((f1.trans f2).trans f3).trans f4).trans f)⟩
theorem qX {op op':CmpOp}{g g':G2}(ho:OpR X (compareOp op) (l2 K g)) (ho':OpR X (compareOp op') (l2 K g')) (ha:QE K X a wa) (hb:QE K X b wb) (hc:QE K X c wc) (hm:lastMarks [op,op'] [b,c]=false:=by with_unfolding_all rfl) :
  QE K X (.Compare a [op,op'] [b,c] pos) (mG g g' wa wb wc):=PE.of (xY ho ho' ha hb hc hm) λ_ _ _ h=>xq h
theorem bv (h:QE K X e wa) (he:∀ whole,isTrue e X.env whole=(do let v <- whole;standAt e.pos;holding [v] (truthy v)):=by intro _;rfl):QT K X e (wB wa):=PT.of (BI h he) λ_ _ _ h=>EI h
def vo (t u:WT):WT:=λσ S Q=>t σ S λc S1=>if c=true then u σ S1 Q else Q false S1
def wOr (t u:WT):WT:=λσ S Q=>t σ S λc S1=>if c=true then Q true S1 else u σ S1 Q
def vp (t:WT):WT:=λσ S Q=>t σ S λc S1=>Q (!c) S1
variable {ta tb:WT}{rest:List Expr}
theorem cD (ha:QT K X a ta):QW K X (.BoolOp .And [a] pos) ta:=zv ha
theorem uo (ha:QT K X a ta):QW K X (.BoolOp .Or [a] pos) ta:=BJ ha
theorem b0 (ha:QT K X a ta) (hb:QW K X (.BoolOp .And (b::rest) pos) tb):QW K X (.BoolOp .And (a::b::rest) pos) (vo ta tb):=PW.of (BK ha hb) λσ H Q zz62=>by
 obtain ⟨S,σt,Qt,s,c,q,hq⟩:=zz62
 refine ⟨S,σt,_,s,c,q,λk H1 S1 f1 s1 q1=>?_⟩
 cases k with
 |true=>exact ⟨S1,σt,_,s1,c.fr f1,q1,λb H' S' f=>hq b H' S' (f1.trans f)⟩
 |false=>exact hq false H1 S1 f1 s1 q1
theorem vq (ha:QT K X a ta) (hb:QW K X (.BoolOp .Or (b::rest) pos) tb):QW K X (.BoolOp .Or (a::b::rest) pos) (wOr ta tb):=PW.of (Eh ha hb) λσ H Q zz63=>by
 obtain ⟨S,σt,Qt,s,c,q,hq⟩:=zz63
 refine ⟨S,σt,_,s,c,q,λk H1 S1 f1 s1 q1=>?_⟩
 cases k with
 |false=>exact ⟨S1,σt,_,s1,c.fr f1,q1,λb H' S' f=>hq b H' S' (f1.trans f)⟩
 |true=>exact hq true H1 S1 f1 s1 q1
theorem b6 (h:QW K X e ta):QT K X e ta:=h _
theorem ck (ha:QT K X a ta):QT K X (.UnaryOp .Not a pos) (vp ta):=PT.of (BL ha) λσ H Q zz64=>by obtain ⟨S,σt,Qt,s,c,q,hq⟩:=zz64;exact ⟨S,σt,_,s,c,q,λk H1 S1 f1 s1 q1=>hq _ H1 S1 f1 s1 q1⟩
def uq (wa wb:WE):WE:=λσ S Q=>wa σ S λx S1=>∃ k,x=.bl k/\if k=true then wb σ S1 Q else Q (.bl false) S1
def ur (wa:WE):WE:=λσ S Q=>wa σ S λx S1=>∃ k,x=.bl k/\Q (.bl (!k)) S1
theorem gL {op}(h:QE K X a wa):QE K X (.BoolOp op [a] pos) wa:=BM h
theorem eO (ha:QE K X a wa) (hb:QE K X (.BoolOp .And (b::rest) pos) wb):QE K X (.BoolOp .And (a::b::rest) pos) (uq wa wb):=PE.of (BN ha hb) λσ H Q zz65=>by
 obtain ⟨S,σt,Qt,s,c,q,hq⟩:=zz65
 refine ⟨S,σt,_,s,c,q,λx H1 tx S1 f1 s1 r1 q1=>?_⟩
 obtain ⟨k,rfl,q1⟩:=q1
 cases r1
 refine ⟨k,rfl,?_⟩
 cases k with
 |true=>exact ⟨S1,σt,_,s1,c.fr f1,q1,λv H' t S' f=>hq v H' t S' (f1.trans f)⟩
 |false=>exact hq _ H1 _ S1 f1 s1 .bl q1
theorem Cq (ha:QE K X a wa):QE K X (.UnaryOp .Not a pos) (ur wa):=PE.of (BO ha) λσ H Q zz66=>by
 obtain ⟨S,σt,Qt,s,c,q,hq⟩:=zz66
 refine ⟨S,σt,_,s,c,q,λx H1 tx S1 f1 s1 r1 q1=>?_⟩
 obtain ⟨k,rfl,q1⟩:=q1
 cases r1
 exact ⟨k,rfl,hq _ H1 _ S1 f1 s1 .bl q1⟩
def wIf (t:WT) (wa wb:WE):WE:=λσ S Q=>t σ S λc S1=>if c=true then wa σ S1 Q else wb σ S1 Q
theorem EJ {c:Expr}(hc:QT K X c ta) (ha:QE K X a wa) (hb:QE K X b wb):QE K X (.IfExp c a b pos) (wIf ta wa wb):=PE.of (xU hc ha hb) λσ H Q zz67=>by
 obtain ⟨S,σt,Qt,s,c,q,hq⟩:=zz67
 refine ⟨S,σt,_,s,c,q,λk H1 S1 f1 s1 q1=>?_⟩
 cases k with
 |true=>exact ⟨S1,σt,_,s1,c.fr f1,q1,λv H' t S' f=>hq v H' t S' (f1.trans f)⟩
 |false=>exact ⟨S1,σt,_,s1,c.fr f1,q1,λv H' t S' f=>hq v H' t S' (f1.trans f)⟩
def b7:WA:=λ_ S Q=>Q [] S
def ut (wa:WE) (wr:WA):WA:=λσ S Q=>wa σ S λx S1=>wr σ S1 λxs S2=>Q (x::xs) S2
variable {es:List Expr}{wr:WA}
theorem af:QA K X [] b7:=PA.of sM λσ H Q zz68=>by obtain ⟨S,σt,Qt,s,c,q,hq⟩:=zz68;exact hq [] H [] S .refl s .nil q
theorem ae (ha:QE K X e wa) (hr:QA K X es wr) (hs:starEach (e::es) X.env=(false,eval e X.env)::starEach es X.env:=by rfl):QA K X (e::es) (ut wa wr):=PA.of (qN ha hr hs) λσ H Q zz69=>by
 obtain ⟨S,σt,Qt,s,c,q,hq⟩:=zz69
 refine ⟨S,σt,_,s,c,q,λx H1 tx S1 f1 s1 r1 q1=>?_⟩
 exact ⟨S1,σt,_,s1,c.fr f1,q1,λvs H2 ts S2 f2 s2 r2 q2=>hq _ H2 _ S2 (f1.trans f2) s2 (.cons (r1.fr f2) r2) q2⟩
def vt (wr:WA):WE:=λσ S Q=>wr σ S λts S1=>ts.length<=sizeLine/\Q (.tup ts) S1
theorem aN {x1}(h:QA K X es wr):QE K X (.Tuple es x1 pos) (vt wr):=PE.of (B9 h) λσ H Q zz70=>by
 obtain ⟨S,σt,Qt,s,c,q,hq⟩:=zz70
 refine ⟨S,σt,_,s,c,q,λvs H1 ts S1 f1 s1 r1 q1=>?_⟩
 refine ⟨by rw [r1.length];exact q1.1,λp hp=>hq _ _ (.tup ts) S1 (f1.trans (Fr.new hp)) (s1.new hp) (.tup (s1.fresh hp) aF (r1.fr (Fr.new hp))) q1.2⟩
def vw (wr:WA):WE:=λσ S Q=>wr σ S λts S1=>ts.length<=sizeLine/\Q (.lst ts) S1
def uu (wr:WA):WE:=λσ S Q=>wr σ S λts S1=>ts.length<=sizeLine/\∀ p,S1 p=none->Q (.ref p) (put S1 p (.lst ts))
theorem cF (h:QA K X es wr):QE K X (.List es pos) (vw wr):=PE.of (sN h) λσ H Q zz71=>by
 obtain ⟨S,σt,Qt,s,c,q,hq⟩:=zz71
 refine ⟨S,σt,_,s,c,q,λvs H1 ts S1 f1 s1 r1 q1=>?_⟩
 refine ⟨by rw [r1.length];exact q1.1,λp hp=>hq _ _ (.lst ts) S1 (f1.trans (Fr.new hp)) (s1.new hp) (.lst (s1.fresh hp) aF (r1.fr (Fr.new hp))) q1.2⟩
theorem jQ (h:QA K X es wr):QE K X (.List es pos) (uu wr):=PE.of (sN h) λσ H Q zz72=>by
 obtain ⟨S,σt,Qt,s,c,q,hq⟩:=zz72
 refine ⟨S,σt,_,s,c,q,λvs H1 ts S1 f1 s1 r1 q1=>?_⟩
 refine ⟨by rw [r1.length];exact q1.1,λp hp=>hq _ _ (.ref p) _ (f1.trans (Fr.newT hp)) (s1.newT hp (.lst aF (r1.fr (Fr.newT hp)))) .ref (q1.2 p (s1.fresh hp))⟩
end
section
variable {K:Fg}{X:Cx}{e:Expr}{we:WE}{st:Stmt}{rest:List Stmt}{w u:WS}{pos:Pos}
def uv:WS:=λD σ S=>D.nx σ S
def nU (w u:WS):WS:=λD σ S=>w { D with nx:=u D } σ S
theorem aQ:QSs K X [] uv:=PSs.of zw λD σ H zz73=>by obtain ⟨S,σt,Dt,s,c,q,he⟩:=zz73;exact he.nx σ H σt S .refl s c q
theorem al (h1:QS K X st w) (h2:QSs K X rest u):QSs K X (st::rest) (nU w u):=PSs.of (xV h1 h2) λD σ H ⟨S,σt,Dt,s,c,q,he⟩ =>
 ⟨S,σt,{ Dt with nx:=u Dt },s,c,q,⟨λ_ _ σt' S' f s' c' q'=>⟨S',σt',Dt,s',c',q',he.fr f⟩,he.rt,he.bk,he.ct⟩⟩
theorem ak (h1:QS K X st w):QSs K X [st] w:=zx h1
def uw (we:WE):WS:=λD σ S=>we σ S λ_ S1=>D.nx σ S1
theorem bI (he:QE K X e we) (hs:swapsWith e none pos.line X.env=pure false:=by rfl):QS K X (.Expr e pos) (uw we):=PS.of (zy he hs) λD σ H ⟨S,σt,Dt,s,c,q,he⟩ =>
 ⟨S,σt,_,s,c,q,λ_ H1 _ S1 f1 s1 _ q1=>he.nx σ H1 σt S1 f1 s1 (c.fr f1) q1⟩
def vx (we:WE):WS:=λD σ S=>we σ S D.rt
theorem az (he:QE K X e we):QS K X (.Return (some e) pos) (vx we):=PS.of (BP he) λD σ H zz74=>by obtain ⟨S,σt,Dt,s,c,q,he⟩:=zz74;exact ⟨S,σt,_,s,c,q,he.rt⟩
def vy (t:WT) (w u:WS):WS:=λD σ S=>t σ S λb S1=>if b=true then w D σ S1 else u D σ S1
theorem aK {c:Expr}{a b:List Stmt}{t:WT}(hc:QT K X c t) (ha:QSs K X a w) (hb:QSs K X b u):QS K X (.If c a b pos) (vy t w u):=PS.of (Em hc ha hb) λD σ H zz75=>by
 obtain ⟨S,σt,Dt,s,c,q,he⟩:=zz75
 refine ⟨S,σt,_,s,c,q,λk H1 S1 f1 s1 q1=>?_⟩
 cases k with
 |true=>exact ⟨S1,σt,Dt,s1,c.fr f1,q1,he.fr f1⟩
 |false=>exact ⟨S1,σt,Dt,s1,c.fr f1,q1,he.fr f1⟩
def Cr:WS:=λ_ _ _=>False
theorem cW:QS K X st Cr:=λ_ _ _ _ _ _ zz76=>by obtain ⟨_,_,_,_,_,q,_⟩:=zz76;exact q.elim
abbrev WG:=T->StT->Sto->(StT->Sto->Prop)->Prop
abbrev WGs:=List T->StT->Sto->(StT->Sto->Prop)->Prop
def lG (K:Fg) (g:WG):TG:=λv σ H Q=>∃ S t σt Qt,SRp K H S/\Rp K H S t v/\Cov K H S σ σt/\g t σt S Qt/\∀ σ' H' σt' S',Fr H S H' S'->SRp K H' S'->Cov K H' S' σ' σt'->Qt σt' S'->Q σ' H'
def lGs (K:Fg) (g:WGs):TGs:=λvs σ H Q=>∃ S ts σt Qt,SRp K H S/\Rps K H S ts vs/\Cov K H S σ σt/\g ts σt S Qt/\∀ σ' H' σt' S',Fr H S H' S'->SRp K H' S'->Cov K H' S' σ' σt'->Qt σt' S'->Q σ' H'
def QG (K:Fg) (X:Cx) (tg:Expr) (g:WG):Prop:=PG X tg (lG K g)
def QGs (K:Fg) (X:Cx) (tg:List Expr) (g:WGs):Prop:=PGs X tg (lGs K g)
theorem PG.of {X:Cx}{e:Expr}{t t':TG}(h:PG X e t) (i:∀ v σ H Q,t' v σ H Q->t v σ H Q):PG X e t':=λpins s σ H v u Q I r q=>h pins s σ H v u Q I r (i v σ H Q q)
theorem PGs.of {X:Cx}{e:List Expr}{t t':TGs}(h:PGs X e t) (i:∀ v σ H Q,t' v σ H Q->t v σ H Q):PGs X e t':=λpins s σ H v u Q I r q=>h pins s σ H v u Q I r (i v σ H Q q)
def wgN (i:Nat):WG:=λt σ S Q=>Q (σ.set i (some t)) S
theorem z8 {i:Nat}{x:Str}(h:PG X (.Name x pos) (j4 i)):QG K X (.Name x pos) (wgN i):=PG.of h λv σ H Q zz77=>by obtain ⟨S,t,σt,Qt,s,r,c,q,hq⟩:=zz77;exact hq _ H _ S .refl s (c.set r i) q
def uA:WGs:=λts σ S Q=>ts=[]/\Q σ S
def sU (g:WG) (h:WGs):WGs:=λts σ S Q=>∃ t r,ts=t::r/\g t σ S λσ' S'=>h r σ' S' Q
variable {tg:Expr}{tgs:List Expr}{g:WG}{gs:WGs}
theorem dY:QGs K X [] uA:=PGs.of zB λv σ H Q zz78=>by
 obtain ⟨S,t,σt,Qt,s,r,c,⟨e,q⟩,hq⟩:=zz78
 subst e;cases r
 exact ⟨rfl,hq _ H _ S .refl s c q⟩
theorem bH (h1:QG K X tg g) (h2:QGs K X tgs gs) (h:∀ {t u},PG X tg t->PGs X tgs u->PGs X (tg::tgs) (uh t u)):QGs K X (tg::tgs) (sU g gs):=PGs.of (h h1 h2) λv σ H Q zz79=>by
 obtain ⟨S,t,σt,Qt,s,r,c,⟨y,ys,e,q⟩,hq⟩:=zz79
 subst e
 cases r with
 |cons r rs =>
  refine ⟨_,_,rfl,S,y,σt,_,s,r,c,q,λσ' H' σt' S' f s' c' q'=>?_⟩
  exact ⟨S',ys,σt',Qt,s',rs.fr f,c',q',λσ2 H2 σt2 S2 f2=>hq σ2 H2 σt2 S2 (f.trans f2)⟩
def uB (n:Nat) (g:WGs):WG:=λt σ S Q=>∃ ts,t=.tup ts/\ts.length=n/\g ts σ S Q
theorem d4 {es:List Expr}{k n:Nat}(h:∀ {t},PGs X es t->PG X (.Tuple es k pos) (nQ K n t)) (h1:QGs K X es gs):QG K X (.Tuple es k pos) (uB n gs):=PG.of (h h1) λv σ H Q zz80=>by
 obtain ⟨S,t,σt,Qt,s,r,c,⟨ts,e,l,q⟩,hq⟩:=zz80
 subst e
 cases r with
 |tup n' hp rs=>exact ⟨_,_,rfl,SqT.of hp,by rw [rs.length];exact l,S,ts,σt,Qt,s,rs,c,q,hq⟩
def iP (we:WE) (g:WG):WS:=λD σ S=>we σ S λt S1=>g t σ S1 D.nx
theorem z9 {D σ H}(h:lS K (iP we g) D σ H):iM (lE K we) (lG K g) D σ H:=by
 obtain ⟨S,σt,Dt,s,c,q,he⟩:=h
 refine ⟨S,σt,_,s,c,q,λv H1 t S1 f1 s1 r1 q1=>?_⟩
 exact ⟨S1,t,σt,_,s1,r1,c.fr f1,q1,λσ' H' σt' S' f=>he.nx σ' H' σt' S' (f1.trans f)⟩
theorem bR (h:∀ {t g},PE X e t->PG X tg g->PS X (.Assign [tg] e pos) (iM t g)) (he:QE K X e we) (hg:QG K X tg g):QS K X (.Assign [tg] e pos) (iP we g):=PS.of (h he hg) λ_ _ _ h=>z9 h
theorem aG {i:Nat}{x:Str}{pos':Pos}(hN:X.N.Nodup) (hi:X.N[i]?=some x) (hx:Loc X.env.scope x) (he:QE K X e we) (hs:swapsWith e (some (.Name x pos')) pos.line X.env=pure false:=by rfl)
  (hf:X.fn x=true\/X.env.scope.names.lookup x=some .local:=by first|exact .inl rfl|exact .inr rfl|assumption):QS K X (.Assign [.Name x pos'] e pos) (iP we (wgN i)):=PS.of (BR hN hi hx he hs hf) λD σ H h=>by
 obtain ⟨S,σt,Dt,s,c,q,he⟩:=h
 exact ⟨S,σt,_,s,c,q,λv H1 t S1 f1 s1 r1 q1=>he.nx _ H1 _ S1 f1 s1 ((c.fr f1).set r1 i) q1⟩
end
end T2
namespace T2
open PySem PySem.Spec PyProof.Rows L2
abbrev WSp:=List T->Sto->(T->Sto->Prop)->Prop
def lSp (K:Fg) (w:WSp):Sp:=λvs H Q _=>∃ S ts Qt,SRp K H S/\Rps K H S ts vs/\w ts S Qt/\Bh K H S Qt Q
def cq (N:List Str) (ts:List T):StT:=ts.map some++List.replicate (N.length - ts.length) none
theorem jo {K:Fg}{H:Hp}{S:Sto}{N:List Str}{ts:List T}{vs:List V}(r:Rps K H S ts vs):Cov K H S (L2.bd N vs) (cq N ts):=by
 have l:=r.length
 refine ⟨by unfold L2.bd cq;simp [l],λi t e=>?_⟩
 unfold cq at e
 by_cases hi:i<ts.length
 ·rw [List.getElem?_append_left (by simpa using hi),List.getElem?_map] at e
  cases q:ts[i]? with
  |none=>rw [q] at e;cases e
  |some a =>
   rw [q] at e;cases e
   obtain ⟨v,hv,rv⟩:=r.get q
   refine ⟨v,?_,rv⟩
   unfold L2.bd
   rw [List.getElem?_append_left (by simp;omega),List.getElem?_map,hv];rfl
 ·rw [List.getElem?_append_right (by simpa using hi),List.getElem?_replicate] at e
  split at e<;>cases e
def Fin (Q:T->Sto->Prop) (t:T) (S:Sto):Prop:=(∃ S0,Le S0 S/\Q t S0)\/∃ p ts S0,t=.ref p/\S p=some (.lst ts)/\Le S0 S/\S0 p=none/\Q (.lst ts) S0
theorem Fin.mk {Q:T->Sto->Prop}{t:T}{S:Sto}(h:Q t S):Fin Q t S:=.inl ⟨S,.refl,h⟩
theorem Fin.le {Q:T->Sto->Prop}{t:T}{S S0:Sto}(l:Le S0 S) (h:Q t S0):Fin Q t S:=.inl ⟨S0,l,h⟩
theorem Fin.frz {Q:T->Sto->Prop}{p:Addr}{ts:List T}{S S0:Sto}(e:S p=some (.lst ts)) (l:Le S0 S) (n:S0 p=none) (h:Q (.lst ts) S0):Fin Q (.ref p) S:=.inr ⟨p,ts,S0,rfl,e,l,n,h⟩
theorem Fin.ends {K:Fg}{H H':Hp}{S S':Sto}{Qt:T->Sto->Prop}{Q:VK}(b:Bh K H S Qt Q){v:V}{t:T}(f:Fr H S H' S') (s:SRp K H' S') (r:Rp K H' S' t v) (q:Fin Qt t S'):Q v H':=by
 rcases q with ⟨S0,l,q⟩|⟨p,ts,S0,rfl,e,l,n,q⟩
 ·exact b v H' t S0 (f.trans (Fr.le l)) (s.le l) (r.fr (Fr.le l)) q
 ·cases r
  cases s p _ e with
  |lst hp rs=>exact b _ H' (.lst ts) S0 (f.trans (Fr.le l)) (s.le l) (.lst n hp (rs.fr (Fr.le l))) q
section
variable {P:Program}{w:World}{K:Fg}{mg:Str->Option Value}{base:Heap}
theorem aZ {x qual:Str}{st:Stmt}{f:Addr}{fd:FuncData}{N ps:List Str}{k:Nat}{wsp:WSp}(F:Fun K x qual st f fd) (Sc:FnScope N ps (ai st)) (len:∀ ts S Q,wsp ts S Q->ts.length=ps.length)
  (hbody:∀ (cdv:Value) (A:Around) (outer:List Env) (s:Shared) (H:Hp) (E:XK),Room k (A.deeper (envOfC qual (ai st) s.heap.objs.size f cdv)) ->
   ∃ u,QSs K (cz CX0 P w K mg base N qual (ai st) f cdv A outer s H E).nox (am st) u/\∀ ts S Q,wsp ts S Q->u { nx:=λ_ S'=>Fin Q .non S',rt:=Fin Q } (cq N ts) S):FnOk P w K mg base CX0 (k+1) f fd ps (lSp K wsp):=by
 refine Fun.ok F Sc (λvs H Q E ⟨S,ts,Qt,s,r,q,_⟩=>by rw [r.length];exact len _ _ _ q) λcdv A outer s H vs Q E hr ⟨S,ts,Qt,sr,r,q,b⟩=>?_
 obtain ⟨u,hu,hq⟩:=hbody cdv A outer s H E hr
 refine ⟨_,hu,S,cq N ts,_,sr,jo r,hq ts S Qt q,⟨λ_ H' _ S' f s' _ q'=>Fin.ends b f s' .non q',λv H' t S' f s' r' q'=>Fin.ends b f s' r' q',λ_ _ _ _ _ _ _ q'=>q'.elim,λ_ _ _ _ _ _ _ q'=>q'.elim⟩⟩
end
section
variable {K:Fg}{X:Cx}{k:Nat}{f C:Addr}{fd:FuncData}{ps:List Str}{wsp:WSp}{dts:List T}{dvs:List V}{ds:List Value}{x m:Str}{p pos apos:Pos}{e o:Expr}{es:List Expr}{wa:WE}{wr:WA}
def eW (wsp:WSp) (dts:List T) (wr:WA):WE:=λσ S Q=>wr σ S λts S1=>wsp (ts++dts) S1 Q
theorem yt {σ H Q}(hd:∀ H S,Rps K H S dts dvs) (h:lE K (eW wsp dts wr) σ H Q):gJ (lSp K wsp) dvs E0 (lA K wr) σ H Q:=by
 obtain ⟨S,σt,Qt,s,c,q,hq⟩:=h
 refine ⟨S,σt,_,s,c,q,λvs H1 ts S1 f1 s1 r1 q1=>?_⟩
 exact ⟨S1,_,Qt,s1,r1.append (hd _ _),q1,λv H' t S' f=>hq v H' t S' (f1.trans f)⟩
theorem sV (hd:∀ H S,Rps K H S dts dvs) (hp:PE X e (gJ (lSp K wsp) dvs E0 (lA K wr))):QE K X e (eW wsp dts wr):=PE.of hp λ_ _ _ h=>yt hd h
def dL (G:Addr->Prop) (m:Str) (wsp:WSp) (dts:List T) (wa:WE) (wr:WA):WE:=λσ S Q=>wa σ S λx S1=>∃ a C fs,x=.ref a/\S1 a=some (.ins C fs)/\G C/\fs.lookup m=none/\wr σ S1 λts S2=>wsp (x::(ts++dts)) S2 Q
end
theorem bO {K:Fg}{H:Hp}{S:Sto}{m:Str}:∀ {fts:List (Str×T)}{fs:List (Str×V)},Paired (λ(p:Str×T) (q:Str×V)=>p.1=q.1/\Rp K H S p.2 q.2) fts fs->fts.lookup m=none->fs.lookup m=none
 |_,_,.nil,_=>rfl
 |(a,b)::l,(c,d)::l',.cons ⟨e,r⟩ t,h=>by
  simp only at e;subst e
  rw [List.lookup_cons] at h ⊢
  by_cases z:(m==a)=true
  ·rw [z] at h;cases h
  ·simp only [Bool.not_eq_true] at z
   rw [z] at h ⊢
   exact bO t h
theorem k7 {K:Fg}{H:Hp}{S:Sto}{m:Str}{t:T}:∀ {fts:List (Str×T)}{fs:List (Str×V)},Paired (λ(p:Str×T) (q:Str×V)=>p.1=q.1/\Rp K H S p.2 q.2) fts fs->fts.lookup m=some t->∃ v,fs.lookup m=some v/\Rp K H S t v
 |_,_,.nil,h=>by cases h
 |(a,b)::l,(c,d)::l',.cons ⟨e,r⟩ ps,h=>by
  simp only at e;subst e
  rw [List.lookup_cons] at h ⊢
  by_cases z:(m==a)=true
  ·rw [z] at h ⊢;cases h;exact ⟨d,rfl,r⟩
  ·simp only [Bool.not_eq_true] at z
   rw [z] at h ⊢
   exact k7 ps h
def dc (f:Str) (v:T):List (Str×T)->List (Str×T)
 |[]=>[(f,v)]
 |(g,u)::r=>if g=f then (g,v)::r else (g,u)::dc f v r
theorem pD {K:Fg}{H:Hp}{S:Sto}{f:Str}{t:T}{v:V}(r:Rp K H S t v):∀ {fts:List (Str×T)}{fs:List (Str×V)},Paired (λ(p:Str×T) (q:Str×V)=>p.1=q.1/\Rp K H S p.2 q.2) fts fs ->
  Paired (λ(p:Str×T) (q:Str×V)=>p.1=q.1/\Rp K H S p.2 q.2) (dc f t fts) (bq f v fs)
 |_,_,.nil=>.cons ⟨rfl,r⟩ .nil
 |(a,b)::l,(c,d)::l',.cons ⟨e,q⟩ ps=>by
  simp only at e;subst e
  unfold dc bq
  by_cases z:a=f
  ·rw [if_pos z,if_pos z];exact .cons ⟨rfl,r⟩ ps
  ·rw [if_neg z,if_neg z];exact .cons ⟨rfl,q⟩ (pD r ps)
theorem Paired.len {α β:Type}{F:α->β->Prop}:∀ {l:List α}{l':List β},Paired F l l'->l'.length=l.length
 |_,_,.nil=>rfl
 |_,_,.cons _ t=>by simp [Paired.len t]
section
variable {K:Fg}{X:Cx}{CX:CXT}{k:Nat}{f:Addr}{fd:FuncData}{ps:List Str}{sp:Sp}{wsp:WSp}{dts:List T}{dvs:List V}{ds:List Value}{E:XK}{x m:Str}{p pos apos:Pos}{e o:Expr}{es:List Expr}{wa:WE}{wr:WA}{ta:TE}{t:TA}{G:Addr->Prop}
def gD (G:Addr->Prop) (m:Str) (sp:Sp) (dvs:List V) (E:XK) (ta:TE) (t:TA):TE:=λσ H Q=>ta σ H λx H1=>∃ a C dx fs,x=.ref a/\H1 a=some (.ins C dx fs)/\G C/\fs.lookup m=none /\
 t σ H1 λvs H2=>sp (x::(vs++dvs)) H2 Q E
theorem qq {pl:Sem Bool}(he:PE X o ta) (hG:∀ C,G C->Cls X.K C/\Meth X.K C m f) (F:FnOk X.prog X.w X.K X.mg X.base CX k f fd ps sp) (hr:Room k X.A) (hb:aq X.K fd ps ds) (hd:aj dvs ds) (hx:cC CX X E) (ha:PA X (e::es) t)
  (hst:starEach (e::es) X.env=(false,eval e X.env)::starEach es X.env:=by rfl) (hpl:(backTo pos (starEach es X.env)).any (·.1)=false:=by rfl)
  (ht:eval (.Call (.Attribute o m apos) (e::es) [] pos) X.env=(do
   let ov <- eval o X.env
   standAt apos.atName
   let (f,first) <- holding [ov] (getMethod ov m pl)
   callWith pos f first (backTo pos (starEach (e::es) X.env)) (backToKw pos (keywordEach [] X.env))):=by rfl) :
  PE X (.Call (.Attribute o m apos) (e::es) [] pos) (gD G m sp dvs E ta t):=by
 intro pins s σ H Q I h
 refine PySem.W.methodCall_KW (pl:=pl) (thn (he pins s σ H _ I h) λu s1 ⟨x,H1,I1,rx,a,C,dx,fs,ex,ea,g,l,q⟩=>?_) ht
 subst ex
 obtain rfl:u=Value.ref a:=rx
 obtain ⟨c,hm⟩:=hG C g
 refine kS I1 ea c hm l ?_
 refine PySem.W.callWith_K (first:=[.ref a]) (h₀:=X.base) I.ok.mod.kin hm.kp (thn (ha pos pins s1 σ H1 _ I1 q) λus s2 ⟨vs,H2,I2,r,q2⟩=>⟨I2.kIn,?_⟩) hst hpl
 exact jO (us:=.ref a::us) (vs:=.ref a::vs) F hr hb hd hx I2 (.cons rfl r) q2
theorem pX {pl:Sem Bool}(he:PE X o ta) (hG:∀ C,G C->Cls X.K C/\Meth X.K C m f) (F:FnOk X.prog X.w X.K X.mg X.base CX k f fd ps sp) (hr:Room k X.A) (hb:aq X.K fd ps ds) (hd:aj dvs ds) (hx:cC CX X E)
  (ht:eval (.Call (.Attribute o m apos) [] [] pos) X.env=(do
   let ov <- eval o X.env
   standAt apos.atName
   let (f,first) <- holding [ov] (getMethod ov m pl)
   callWith pos f first (backTo pos (starEach [] X.env)) (backToKw pos (keywordEach [] X.env))):=by rfl) :
  PE X (.Call (.Attribute o m apos) [] [] pos) (gD G m sp dvs E ta db):=by
 intro pins s σ H Q I h
 refine PySem.W.methodCall_KW (pl:=pl) (thn (he pins s σ H _ I h) λu s1 ⟨x,H1,I1,rx,a,C,dx,fs,ex,ea,g,l,q⟩=>?_) ht
 subst ex
 obtain rfl:u=Value.ref a:=rx
 obtain ⟨c,hm⟩:=hG C g
 refine kS I1 ea c hm l ?_
 exact PySem.W.callWith_K0 (first:=[.ref a]) I1.kIn hm.kp (jO (us:=[.ref a]) (vs:=[.ref a]) F hr hb hd hx I1 (.cons rfl .nil) q)
theorem yu {σ H Q}(hd:∀ H S,Rps K H S dts dvs) (h:lE K (dL G m wsp dts wa wr) σ H Q):gD G m (lSp K wsp) dvs E0 (lE K wa) (lA K wr) σ H Q:=by
 obtain ⟨S,σt,Qt,s,c,q,hq⟩:=h
 refine ⟨S,σt,_,s,c,q,λx H1 tx S1 f1 s1 r1 q1=>?_⟩
 obtain ⟨a,C,fs,rfl,ea,g,l,q1⟩:=q1
 cases r1
 cases s1 a _ ea with
 |ins eh pr =>
  refine ⟨a,C,_,_,rfl,eh,g,bO pr l,S1,σt,_,s1,c.fr f1,q1,λvs H2 ts S2 f2 s2 r2 q2=>?_⟩
  exact ⟨S2,_,Qt,s2,.cons .ref (r2.append (hd _ _)),q2,λv H' t S' f=>hq v H' t S' ((f1.trans f2).trans f)⟩
theorem sW (hd:∀ H S,Rps K H S dts dvs) (hp:PE X e (gD G m (lSp K wsp) dvs E0 (lE K wa) (lA K wr))):QE K X e (dL G m wsp dts wa wr):=PE.of hp λ_ _ _ h=>yu hd h
theorem xr {σ H Q}(hd:∀ H S,Rps K H S dts dvs) (h:lE K (dL G m wsp dts wa b7) σ H Q):gD G m (lSp K wsp) dvs E0 (lE K wa) db σ H Q:=by
 obtain ⟨S,σt,Qt,s,c,q,hq⟩:=h
 refine ⟨S,σt,_,s,c,q,λx H1 tx S1 f1 s1 r1 q1=>?_⟩
 obtain ⟨a,C,fs,rfl,ea,g,l,q1⟩:=q1
 cases r1
 cases s1 a _ ea with
 |ins eh pr =>
  refine ⟨a,C,_,_,rfl,eh,g,bO pr l,?_⟩
  exact ⟨S1,_,Qt,s1,.cons .ref (Rps.append .nil (hd _ _)),q1,λv H' t S' f=>hq v H' t S' (f1.trans f)⟩
theorem qY (hd:∀ H S,Rps K H S dts dvs) (hp:PE X e (gD G m (lSp K wsp) dvs E0 (lE K wa) db)):QE K X e (dL G m wsp dts wa b7):=PE.of hp λ_ _ _ h=>xr hd h
theorem Aa (hd:∀ H S,Rps K H S dts dvs) (hp:PE X e (gJ (lSp K wsp) dvs E0 db)):QE K X e (eW wsp dts b7):=PE.of hp λσ H Q ⟨S,σt,Qt,s,c,q,hq⟩ =>
 ⟨S,_,Qt,s,Rps.append .nil (hd _ _),q,hq⟩
def iI (C:Addr) (wsp:WSp) (dts:List T) (wr:WA):WE:=λσ S Q=>wr σ S λts S1=>∀ x,S1 x=none->wsp (.ref x::(ts++dts)) (put S1 x (.ins C [])) (λt S2=>t=.non/\Q (.ref x) S2)
theorem l7 {H:Hp}{S:Sto}{C x dx:Addr}(hx:H x=none) (hd:H dx=none):Fr H S (upd (upd H dx (.own x)) x (.ins C dx [])) (put S x (.ins C [])):=λa o e n =>
 ⟨by rw [av (br e hx),av (br e hd)];exact e,by rw [aE (br e hx)];exact n⟩
theorem yw {H:Hp}{S:Sto}{C x dx:Addr}(s:SRp K H S) (hx:H x=none) (hd:H dx=none):SRp K (upd (upd H dx (.own x)) x (.ins C dx [])) (put S x (.ins C [])):=λa o e=>by
 by_cases ha:a=x
 ·subst ha;rw [aC] at e;cases e;exact .ins aF .nil
 ·rw [aE ha] at e
  obtain ⟨u,hu⟩:=(s a o e).some
  exact (s a o e).fr (l7 hx hd) (by rw [av ha,av (br hu hd)])
theorem qZ {C:Addr}{S:Sto}{H:Hp}{ts:List T}{vs:List V}{Qt:T->Sto->Prop}{Q:VK}(hd:∀ H S,Rps K H S dts dvs) (s:SRp K H S) (r:Rps K H S ts vs) (b:Bh K H S Qt Q)
  (q:∀ x,S x=none->wsp (.ref x::(ts++dts)) (put S x (.ins C [])) (λt S2=>t=.non/\Qt (.ref x) S2)) (x dx:Addr) (hx:H x=none) (hdx:H dx=none) :
  lSp K wsp (.ref x::(vs++dvs)) (upd (upd H dx (.own x)) x (.ins C dx [])) (λv H2=>v=.non/\Q (.ref x) H2) E0:=by
 refine ⟨_,_,_,yw s hx hdx,.cons .ref ((r.fr (l7 hx hdx)).append (hd _ _)),q x (s.fresh hx),λv H' t S' f s' r' q'=>?_⟩
 obtain ⟨rfl,q'⟩:=q'
 cases r'
 exact ⟨rfl,b _ H' _ S' ((l7 hx hdx).trans f) s' .ref q'⟩
theorem Cs {C:Addr}(hd:∀ H S,Rps K H S dts dvs) (hp:PE X e (j5 C (lSp K wsp) dvs E0 (lA K wr))):QE K X e (iI C wsp dts wr):=PE.of hp λσ H Q zz81=>by
 obtain ⟨S,σt,Qt,s,c,q,hq⟩:=zz81
 refine ⟨S,σt,_,s,c,q,λvs H1 ts S1 f1 s1 r1 q1 x dx hx hdx _=>?_⟩
 exact qZ hd s1 r1 (λv H' t S' f=>hq v H' t S' (f1.trans f)) q1 x dx hx hdx
theorem Ab {C:Addr}(hd:∀ H S,Rps K H S dts dvs) (hp:PE X e (j5 C (lSp K wsp) dvs E0 db)):QE K X e (iI C wsp dts b7):=PE.of hp λσ H Q ⟨S,σt,Qt,s,c,q,hq⟩=>λx dx hx hdx _ =>
 qZ hd s .nil hq q x dx hx hdx
def nV (G:Addr->Prop) (wa:WE) (f:Str):WE:=λσ S Q=>wa σ S λx S1=>∃ a C fs v,x=.ref a/\S1 a=some (.ins C fs)/\G C/\fs.lookup f=some v/\Q v S1
theorem EK {f:Str}(hK:X.K=K) (hG:∀ C,G C->Cls K C/\bo K C f) (he:QE K X o wa) (hb:attributeBase o f X.env (eval o X.env)=eval o X.env):QE K X (.Attribute o f pos) (nV G wa f):=by
 subst hK
 refine PE.of (B6 he hb) λσ H Q zz82=>?_
 obtain ⟨S,σt,Qt,s,c,q,hq⟩:=zz82
 refine ⟨S,σt,_,s,c,q,λx H1 tx S1 f1 s1 r1 q1=>?_⟩
 obtain ⟨a,C,fs,v,rfl,ea,g,l,q1⟩:=q1
 cases r1
 cases s1 a _ ea with
 |ins eh pr =>
  obtain ⟨u,lu,ru⟩:=k7 pr l
  exact ⟨a,C,_,_,u,rfl,eh,(hG C g).1,(hG C g).2,lu,hq u H1 v S1 f1 s1 ru q1⟩
def uC (G:Addr->Prop) (wa wv:WE) (f:Str):WS:=λD σ S=>wv σ S λy S1=>wa σ S1 λx S2=>∃ a C fs,x=.ref a/\S2 a=some (.ins C fs)/\G C/\fs.length<1000/\D.nx σ (put S2 a (.ins C (dc f y fs)))
theorem pY {H:Hp}{S:Sto}{a C dx:Addr}{fts:List (Str×T)}{fs:List (Str×V)}{f:Str}{t:T}{v:V}(s:SRp K H S) (ea:S a=some (.ins C fts)) (eh:H a=some (.ins C dx fs))
  (pr:Paired (λ(p:Str×T) (q:Str×V)=>p.1=q.1/\Rp K H S p.2 q.2) fts fs) (r:Rp K H S t v):Fr H S (upd H a (.ins C dx (bq f v fs))) (put S a (.ins C (dc f t fts)))/\SRp K (upd H a (.ins C dx (bq f v fs))) (put S a (.ins C (dc f t fts))):=by
 have hn:S a≠none:=by rw [ea];simp
 refine ⟨Fr.write hn,s.write hn (.ins aF ?_)⟩
 exact Paired.mapP (pD r pr) λ_ _ z=>⟨z.1,z.2.fr (Fr.write hn)⟩
theorem ir {f:Str}{wv:WE}{value:Expr}{pos':Pos}(hK:X.K=K) (hG:∀ C,G C->Cls K C/\bo K C f) (ha:QE K X o wa) (hv:QE K X value wv) (hs:swapsWith value (some (.Attribute o f pos')) pos.line X.env=pure false:=by rfl) :
  QS K X (.Assign [.Attribute o f pos'] value pos) (uC G wa wv f):=by
 subst hK
 refine PS.of (B7 ha hv hs) λD σ H zz83=>?_
 obtain ⟨S,σt,Dt,s,c,q,he⟩:=zz83
 refine ⟨S,σt,_,s,c,q,λy H1 ty S1 f1 s1 r1 q1=>?_⟩
 refine ⟨S1,σt,_,s1,c.fr f1,q1,λx H2 tx S2 f2 s2 r2 q2=>?_⟩
 obtain ⟨a,C,fs,rfl,ea,g,l,q2⟩:=q2
 cases r2
 cases s2 a _ ea with
 |ins eh pr =>
  obtain ⟨fw,sw⟩:=pY (f:=f) s2 ea eh pr (r1.fr f2)
  exact ⟨a,C,_,_,rfl,eh,(hG C g).1,(hG C g).2,by rw [Paired.len pr];exact l,he.nx _ _ σt _ ((f1.trans f2).trans fw) sw (c.fr ((f1.trans f2).trans fw)) q2⟩
def qr (G:Addr->Prop) (wa wv:WE) (f:Str):WS:=λD σ S=>wa σ S λx S1=>∃ a C fs i,x=.ref a/\S1 a=some (.ins C fs)/\G C/\fs.lookup f=some (.int i) /\
 wv σ S1 λy S2=>∃ j fs',y=.int j/\S2 a=some (.ins C fs')/\fs'.length<1000/\D.nx σ (put S2 a (.ins C (dc f (.int (i+j)) fs')))
theorem xt {f:Str}{wv:WE}{value:Expr}{tpos:Pos}(hK:X.K=K) (hG:∀ C,G C->Cls K C/\bo K C f) (ha:QE K X o wa) (hv:QE K X value wv):QS K X (.AugAssign (.Attribute o f tpos) .Add value pos) (qr G wa wv f):=by
 subst hK
 refine PS.of (xb ha hv B8) λD σ H zz84=>?_
 obtain ⟨S,σt,Dt,s,c,q,he⟩:=zz84
 refine ⟨S,σt,_,s,c,q,λx H1 tx S1 f1 s1 r1 q1=>?_⟩
 obtain ⟨a,C,fs,i,rfl,ea,g,l,q1⟩:=q1
 cases r1
 cases s1 a _ ea with
 |ins eh pr =>
  obtain ⟨u,lu,ru⟩:=k7 pr l
  cases ru
  refine ⟨a,C,_,_,_,rfl,eh,(hG C g).1,(hG C g).2,lu,S1,σt,_,s1,c.fr f1,q1,λy H2 ty S2 f2 s2 r2 q2=>?_⟩
  obtain ⟨j,fs',rfl,ea2,l2,q2⟩:=q2
  cases r2
  cases s2 a _ ea2 with
  |ins eh2 pr2 =>
   obtain ⟨fw,sw⟩:=pY (f:=f) (t:=.int (i+j)) (v:=.int (i+j)) s2 ea2 eh2 pr2 .int
   exact ⟨i,j,rfl,rfl,_,_,eh2,by rw [Paired.len pr2];exact l2,he.nx _ _ σt _ ((f1.trans f2).trans fw) sw (c.fr ((f1.trans f2).trans fw)) q2⟩
end
def aS (S:Sto):T->Option (List T)
 |.lst ts=>some ts
 |.scr ns=>some (ns.map T.int)
 |.ref a=>match S a with
  |some (.lst ts)=>some ts
  |_=>none
 |_=>none
theorem iw {S:Sto}{p:Addr}{ts:List T}(e:S p=some (.lst ts)):aS S (.ref p)=some ts:=by delta aS;dsimp only;rw [e]
def cG (S:Sto):T->Option (List T)
 |.lst ts=>some ts
 |.ref a=>match S a with
  |some (.lst ts)=>some ts
  |_=>none
 |_=>none
theorem jz {K H S t v ts}(s:SRp K H S) (r:Rp K H S t v) (e:cG S t=some ts):∃ p vs,v=.ref p/\H p=some (.lst vs)/\Rps K H S ts vs:=by
 cases r with
 |lst n h q=>cases e;exact ⟨_,_,rfl,h,q⟩
 |ref =>
  rename_i a
  delta cG at e
  dsimp only at e
  cases q:S a with
  |none=>rw [q] at e;cases e
  |some o =>
   rw [q] at e
   cases o with
   |lst us=>cases e;cases s a _ q with
    |lst h rs=>exact ⟨a,_,rfl,h,rs⟩
   |_=>cases e
 |_=>cases e
theorem ce {K H S t v ts}(s:SRp K H S) (r:Rp K H S t v) (e:aS S t=some ts):∃ p vs,v=.ref p/\SqL K H p vs/\Rps K H S ts vs:=by
 cases r with
 |scr h=>cases e;exact ⟨_,_,rfl,h.sq,Rps.ints⟩
 |lst n h q=>cases e;exact ⟨_,_,rfl,SqL.of h,q⟩
 |ref =>
  obtain ⟨p,vs,e1,e2,e3⟩:=jz s (Rp.ref (K:=K) (H:=H) (S:=S)) (show cG S (.ref _)=some ts from e)
  exact ⟨p,vs,e1,SqL.of e2,e3⟩
 |_=>cases e
def bi (tr:Bool) (ts:List T) (S:Sto) (Q:T->Sto->Prop):Prop:=match tr with
 |false=>Q (.lst ts) S
 |true=>∀ p,S p=none->Q (.ref p) (put S p (.lst ts))
theorem jR {K H S ts vs tr Qt}{Q:VK}(s:SRp K H S) (r:Rps K H S ts vs) (n:bi tr ts S Qt) (b:Bh K H S Qt Q):∀ p,H p=none->Q (.ref p) (upd H p (.lst vs)):=λp hp=>by
 cases tr with
 |false=>exact b _ _ (.lst ts) S (Fr.new hp) (s.new hp) (.lst (s.fresh hp) aF (r.fr (Fr.new hp))) n
 |true=>exact b _ _ (.ref p) _ (Fr.newT hp) (s.newT hp (.lst aF (r.fr (Fr.newT hp)))) .ref (n p (s.fresh hp))
section
variable {K:Fg}{X:Cx}
def gI (C:Int->Int->Prop) (f:Int->Int->T):G2:=λx y S Q=>match x,y with
 |.int i,.int j=>C i j/\Q (f i j) S
 |_,_=>False
theorem j7 {f:Value->Value->Sem Value}{C:Int->Int->Prop}{g:Int->Int->Int}(h:OpR X f (rI C λi j=>.int (g i j))):OpR X f (l2 K (gI C λi j=>.int (g i j))):=by
 rintro pins s σ H x y v u Q I rx ry ⟨S,tx,ty,Qt,sr,hx,hy,hg,b⟩
 cases hx<;>first|exact hg.elim|skip
 cases hy<;>first|exact hg.elim|skip
 exact h pins s σ H _ _ v u Q I rx ry ⟨_,_,rfl,rfl,hg.1,b _ H _ S .refl sr .int hg.2⟩
theorem Ct {f:Value->Value->Sem Value}{g:Int->Int->Int}(h:OpR X f (rI0 λi j=>.int (g i j))):OpR X f (l2 K (gI (λ_ _=>True) λi j=>.int (g i j))):=by
 rintro pins s σ H x y v u Q I rx ry ⟨S,tx,ty,Qt,sr,hx,hy,hg,b⟩
 cases hx<;>first|exact hg.elim|skip
 cases hy<;>first|exact hg.elim|skip
 exact h pins s σ H _ _ v u Q I rx ry ⟨_,_,rfl,rfl,b _ H _ S .refl sr .int hg.2⟩
def gS:G2:=gI (λ_ _=>True) λi j=>.int (i - j)
def vA:G2:=gI (λ_ j=>0<j/\j<18446744073709551616) λi j=>.int (i / j)
def vB:G2:=gI (λ_ j=>0<j) λi j=>.int (i % j)
def vC:G2:=gI vd λi j=>.int (i ^ j.toNat)
def vD:G2:=gI (λ_ j=>0<=j) λi j=>.int (i / 2 ^ j.toNat)
theorem gN:OpR X (binaryOp .Sub) (l2 K gS):=Ct BU
theorem ny:OpR X (binaryOp .FloorDiv) (l2 K vA):=j7 yh
theorem c7:OpR X (binaryOp .Mod) (l2 K vB):=j7 BW
theorem j8:OpR X (binaryOp .Pow) (l2 K vC):=j7 BX
theorem EL:OpR X (binaryOp .RShift) (l2 K vD):=j7 BY
def kx (tr:Bool):G2:=λx y S Q=>match x,y with
 |.int i,.int j=>Q (.int (i+j)) S
 |.str a,.str c=>a.length+c.length<=sizeLine/\Q (.str (a++c)) S
 |x,y=>∃ ts us,cG S x=some ts/\cG S y=some us/\ts.length+us.length<=sizeLine/\bi tr (ts++us) S Q
theorem bp (tr:Bool):OpR X (binaryOp .Add) (l2 K (kx tr)):=by
 rintro pins s σ H x y v u Q I rx ry ⟨S,tx,ty,Qt,sr,hx,hy,hg,b⟩
 have lists:(∃ ts us,cG S tx=some ts/\cG S ty=some us/\ts.length+us.length<=sizeLine/\bi tr (ts++us) S Qt)->wpAny (model X.prog X.w) X.A (binaryOp .Add v u) (EP X pins σ Q) X.xe s:=by
  rintro ⟨ts,us,e1,e2,hz,n⟩
  obtain ⟨p,vs,rfl,h1,r1⟩:=jz sr hx e1
  obtain ⟨q,ws,rfl,h2,r2⟩:=jz sr hy e2
  exact Ce pins s σ H _ _ v u Q I rx ry ⟨p,q,vs,ws,rfl,rfl,h1,h2,by rw [r1.length,r2.length];exact hz,jR sr (r1.append r2) n b⟩
 cases tx with
 |int i =>
  cases ty with
  |int j=>cases hx;cases hy;exact BT pins s σ H _ _ v u Q I rx ry ⟨i,j,rfl,rfl,b _ H _ S .refl sr .int hg⟩
  |_=>exact lists hg
 |str a =>
  cases ty with
  |str c=>cases hx;cases hy;exact wA pins s σ H _ _ v u Q I rx ry ⟨a,c,rfl,rfl,hg.1,b _ H _ S .refl sr .str hg.2⟩
  |_=>exact lists hg
 |_=>exact lists hg
def vE (tr:Bool):G2:=λx y S Q=>match x,y with
 |.int i,.int j=>iN i j/\Q (.int (i * j)) S
 |x,.int k=>∃ ts,cG S x=some ts /\ -(2 ^ 63)<=k/\k<2 ^ 63/\ts.length * k.toNat<=sizeLine/\bi tr (List.replicate k.toNat ts).flatten S Q
 |_,_=>False
theorem Rps.rep {H S ts vs}(r:Rps K H S ts vs):∀ n:Nat,Rps K H S (List.replicate n ts).flatten (List.replicate n vs).flatten
 |0=>.nil
 |n+1=>by simp only [List.replicate_succ,List.flatten_cons];exact r.append (Rps.rep r n)
theorem gO (tr:Bool):OpR X (binaryOp .Mult) (l2 K (vE tr)):=by
 rintro pins s σ H x y v u Q I rx ry ⟨S,tx,ty,Qt,sr,hx,hy,hg,b⟩
 have lists:∀ k,ty=.int k->(∃ ts,cG S tx=some ts /\ -(2 ^ 63)<=k/\k<2 ^ 63/\ts.length * k.toNat<=sizeLine/\bi tr (List.replicate k.toNat ts).flatten S Qt)->wpAny (model X.prog X.w) X.A (binaryOp .Mult v u) (EP X pins σ Q) X.xe s:=by
  rintro k rfl ⟨ts,e1,k1,k2,hz,n⟩
  obtain ⟨p,vs,rfl,h1,r1⟩:=jz sr hx e1
  cases hy
  exact Cf pins s σ H _ _ v u Q I rx ry ⟨p,k,vs,rfl,rfl,h1,k1,k2,by rw [r1.length];exact hz,jR sr (r1.rep _) n b⟩
 cases ty with
 |int k =>
  cases tx with
  |int i=>cases hx;cases hy;exact BV pins s σ H _ _ v u Q I rx ry ⟨i,k,rfl,rfl,hg.1,b _ H _ S .refl sr .int hg.2⟩
  |_=>exact lists k rfl hg
 |_=>cases tx<;>exact hg.elim
mutual
def bK:T->Option PyData
 |.non=>some .none
 |.bl b=>some (.bool b)
 |.int i=>some (.int i)
 |.str x=>some (.str x)
 |.tup ts=>(bf ts).map .tuple
 |.lst ts=>(bf ts).map .list
 |.scr ns=>some (.list (ns.map .int))
 |_=>none
def bf:List T->Option (List PyData)
 |[]=>some []
 |t::ts=>match bK t,bf ts with
  |some d,some ds=>some (d::ds)
  |_,_=>none
end
def a7 (S:Sto) (t:T):Option PyData:=match t with
 |.ref a=>match S a with
  |some (.lst ts)=>(bf ts).map .list
  |_=>none
 |t=>bK t
theorem qt {ts:List T}:bK (.tup ts)=(bf ts).map .tuple:=rfl
theorem qv {ts:List T}:bK (.lst ts)=(bf ts).map .list:=rfl
theorem re {t:T}{ts:List T}:bf (t::ts)=(match bK t,bf ts with|some d,some ds=>some (d::ds)|_,_=>none):=rfl
theorem rg {t:T}{ts:List T}{d:PyData}{ds:List PyData}(h1:bK t=some d) (h2:bf ts=some ds):bf (t::ts)=some (d::ds):=by rw [re,h1,h2]
theorem Ac {t:T}{ts:List T}{es:List PyData}(e:bf (t::ts)=some es):∃ d ds,bK t=some d/\bf ts=some ds/\es=d::ds:=by
 rw [re] at e
 cases h1:bK t with
 |none=>rw [h1] at e;cases e
 |some d =>
  cases h2:bf ts with
  |none=>rw [h1,h2] at e;cases e
  |some dl=>rw [h1,h2] at e;cases e;exact ⟨d,dl,rfl,rfl,rfl⟩
theorem yx {H:Hp}{ns:List Int}:DatVs K H (ns.map V.int) (ns.map PyData.int):=by
 induction ns with
 |nil=>exact .nil
 |cons a l ih=>exact .cons (.int a) ih
mutual
theorem l8 {H S}:∀ {t v d},Rp K H S t v->bK t=some d->DatV K H v d
 |_,_,_,.non,e=>by cases e;exact .non
 |_,_,_,.bl,e=>by cases e;exact .bl _
 |_,_,_,.int,e=>by cases e;exact .int _
 |_,_,_,.str,e=>by cases e;exact .str _
 |_,_,_,.ty,e=>by cases e
 |_,_,_,.ref,e=>by cases e
 |_,_,_,.tup n h r,e=>by
  simp only [qt,qv,Option.map_eq_some_iff] at e
  obtain ⟨ds,e,rfl⟩:=e
  exact .tup (SqT.of h) (jr r e)
 |_,_,_,.lst n h r,e=>by
  simp only [qt,qv,Option.map_eq_some_iff] at e
  obtain ⟨ds,e,rfl⟩:=e
  exact .lst (SqL.of h) (jr r e)
 |_,_,_,.scr h,e=>by cases e;exact .lst h.sq yx
theorem jr {H S}:∀ {ts vs ds},Rps K H S ts vs->bf ts=some ds->DatVs K H vs ds
 |_,_,_,.nil,e=>by cases e;exact .nil
 |_,_,_,.cons (t:=t) (ts:=ts) a r,e=>by
  obtain ⟨d,dl,h1,h2,rfl⟩:=Ac e
  exact .cons (l8 a h1) (jr r h2)
end
theorem gq {H S t v d}(s:SRp K H S) (r:Rp K H S t v) (e:a7 S t=some d):DatV K H v d:=by
 cases t with
 |ref a =>
  cases r
  delta a7 at e
  dsimp only at e
  cases q:S a with
  |none=>rw [q] at e;cases e
  |some o =>
   rw [q] at e
   cases o with
   |lst us =>
    simp only [Option.map_eq_some_iff] at e
    obtain ⟨ds,e,rfl⟩:=e
    cases s a _ q with
    |lst h rs=>exact .lst (SqL.of h) (jr rs e)
   |_=>cases e
 |_=>exact l8 r e
def gEq (neg:Bool):G2:=λx y S Q=>match x,y with
 |.int i,.int j=>Q (.bl (neg ^^ decide (i=j))) S
 |.str i,.str j=>Q (.bl (neg ^^ decide (i=j))) S
 |.bl i,.bl j=>Q (.bl (neg ^^ decide (i=j))) S
 |x,y=>∃ dx dy,a7 S x=some dx/\a7 S y=some dy/\dx.canLay0=true/\dy.canLay0=true/\min dx.depth dy.depth<=64/\Q (.bl (neg ^^ PyData.eqv dx dy)) S
theorem aX (hK:X.K=K) (hu:X.A.units+64<cLine):OpR X (compareOp .Eq) (l2 K (gEq false)):=by
 subst hK
 rintro pins s σ H x y v u Q I rx ry ⟨S,tx,ty,Qt,sr,hx,hy,hg,b⟩
 have deep:(∃ dx dy,a7 S tx=some dx/\a7 S ty=some dy/\dx.canLay0=true/\dy.canLay0=true/\min dx.depth dy.depth<=64/\Qt (.bl (false ^^ PyData.eqv dx dy)) S)->wpAny (model X.prog X.w) X.A (compareOp .Eq v u) (EP X pins σ Q) X.xe s:=by
  rintro ⟨dx,dy,e1,e2,c1,c2,hd,q⟩
  exact Ch hu pins s σ H _ _ v u Q I rx ry ⟨dx,dy,gq sr hx e1,gq sr hy e2,c1,c2,hd,b _ H _ S .refl sr .bl q⟩
 cases tx with
 |int i =>
  cases ty with
  |int j=>cases hx;cases hy;exact nq pins s σ H _ _ v u Q I rx ry ⟨rfl,b _ H _ S .refl sr .bl (by have hg:Qt (.bl (false ^^ decide (i=j))) S:=hg;simpa using hg)⟩
  |_=>exact deep hg
 |str i =>
  cases ty with
  |str j=>cases hx;cases hy;exact nq pins s σ H _ _ v u Q I rx ry ⟨rfl,b _ H _ S .refl sr .bl (by have hg:Qt (.bl (false ^^ decide (i=j))) S:=hg;simpa using hg)⟩
  |_=>exact deep hg
 |bl i =>
  cases ty with
  |bl j=>cases hx;cases hy;exact nq pins s σ H _ _ v u Q I rx ry ⟨rfl,b _ H _ S .refl sr .bl (by have hg:Qt (.bl (false ^^ decide (i=j))) S:=hg;simpa using hg)⟩
  |_=>exact deep hg
 |_=>exact deep hg
theorem GI (hK:X.K=K) (hu:X.A.units+64<cLine):OpR X (compareOp .NotEq) (l2 K (gEq true)):=by
 subst hK
 rintro pins s σ H x y v u Q I rx ry ⟨S,tx,ty,Qt,sr,hx,hy,hg,b⟩
 have deep:(∃ dx dy,a7 S tx=some dx/\a7 S ty=some dy/\dx.canLay0=true/\dy.canLay0=true/\min dx.depth dy.depth<=64/\Qt (.bl (true ^^ PyData.eqv dx dy)) S)->wpAny (model X.prog X.w) X.A (compareOp .NotEq v u) (EP X pins σ Q) X.xe s:=by
  rintro ⟨dx,dy,e1,e2,c1,c2,hd,q⟩
  exact Ci hu pins s σ H _ _ v u Q I rx ry ⟨dx,dy,gq sr hx e1,gq sr hy e2,c1,c2,hd,b _ H _ S .refl sr .bl q⟩
 cases tx with
 |int i =>
  cases ty with
  |int j=>cases hx;cases hy;exact nr pins s σ H _ _ v u Q I rx ry ⟨rfl,b _ H _ S .refl sr .bl (by have hg:Qt (.bl (true ^^ decide (i=j))) S:=hg;simpa using hg)⟩
  |_=>exact deep hg
 |str i =>
  cases ty with
  |str j=>cases hx;cases hy;exact nr pins s σ H _ _ v u Q I rx ry ⟨rfl,b _ H _ S .refl sr .bl (by have hg:Qt (.bl (true ^^ decide (i=j))) S:=hg;simpa using hg)⟩
  |_=>exact deep hg
 |bl i =>
  cases ty with
  |bl j=>cases hx;cases hy;exact nr pins s σ H _ _ v u Q I rx ry ⟨rfl,b _ H _ S .refl sr .bl (by have hg:Qt (.bl (true ^^ decide (i=j))) S:=hg;simpa using hg)⟩
  |_=>exact deep hg
 |_=>exact deep hg
def ltS (a c:Str):Bool:=decide (a.cps.toList<c.cps.toList)
def gLt:G2:=λx y S Q=>match x,y with
 |.int i,.int j=>Q (.bl (decide (i<j))) S
 |.str a,.str c=>Q (.bl (ltS a c)) S
 |_,_=>False
def gLe:G2:=λx y S Q=>match x,y with
 |.int i,.int j=>Q (.bl (decide (i<=j))) S
 |.str a,.str c=>Q (.bl (!ltS c a)) S
 |_,_=>False
def gGt:G2:=λx y S Q=>match x,y with
 |.int i,.int j=>Q (.bl (decide (j<i))) S
 |_,_=>False
theorem GJ:OpR X (compareOp .Lt) (l2 K gLt):=by
 rintro pins s σ H x y v u Q I rx ry ⟨S,tx,ty,Qt,sr,hx,hy,hg,b⟩
 cases hx<;>first|exact hg.elim|skip
 ·cases hy<;>first|exact hg.elim|skip
  exact Es pins s σ H _ _ v u Q I rx ry ⟨_,_,rfl,rfl,b _ H _ S .refl sr .bl hg⟩
 ·cases hy<;>first|exact hg.elim|skip
  exact wZ pins s σ H _ _ v u Q I rx ry ⟨_,_,rfl,rfl,b _ H _ S .refl sr .bl hg⟩
theorem eC:OpR X (compareOp .LtE) (l2 K gLe):=by
 rintro pins s σ H x y v u Q I rx ry ⟨S,tx,ty,Qt,sr,hx,hy,hg,b⟩
 cases hx<;>first|exact hg.elim|skip
 ·cases hy<;>first|exact hg.elim|skip
  exact Et pins s σ H _ _ v u Q I rx ry ⟨_,_,rfl,rfl,b _ H _ S .refl sr .bl hg⟩
 ·cases hy<;>first|exact hg.elim|skip
  exact xl pins s σ H _ _ v u Q I rx ry ⟨_,_,rfl,rfl,b _ H _ S .refl sr .bl hg⟩
theorem nW:OpR X (compareOp .Gt) (l2 K gGt):=by
 rintro pins s σ H x y v u Q I rx ry ⟨S,tx,ty,Qt,sr,hx,hy,hg,b⟩
 cases hx<;>first|exact hg.elim|skip
 cases hy<;>first|exact hg.elim|skip
 exact Eu pins s σ H _ _ v u Q I rx ry ⟨_,_,rfl,rfl,b _ H _ S .refl sr .bl hg⟩
def isN:T->Bool
 |.non=>true
 |_=>false
def gIs (neg:Bool):G2:=λx y S Q=>match y with
 |.non=>Q (.bl (neg ^^ isN x)) S
 |_=>False
theorem EM {H S t v}(r:Rp K H S t v):decide (v=V.non)=isN t:=by cases r<;>simp [isN]
theorem vF:OpR X (compareOp .Is) (l2 K (gIs false)):=by
 rintro pins s σ H x y v u Q I rx ry ⟨S,tx,ty,Qt,sr,hx,hy,hg,b⟩
 cases hy<;>first|exact hg.elim|skip
 refine B0 pins s σ H _ _ v u Q I rx ry ⟨rfl,b _ H _ S .refl sr .bl ?_⟩
 rw [EM hx];simpa [gIs] using hg
def vG (wa:WE):WE:=λσ S Q=>wa σ S λx S1=>match x with
 |.int i=>Q (.int (-i)) S1
 |_=>False
theorem nz {a:Expr}{wa:WE}{pos:Pos}(ha:QE K X a wa):QE K X (.UnaryOp .USub a pos) (vG wa):=PE.of (Er BZ ha) λσ H Q zz85=>by
 obtain ⟨S,σt,Qt,s,c,q,hq⟩:=zz85
 refine ⟨S,σt,_,s,c,q,λx H1 tx S1 f1 s1 r1 q1=>?_⟩
 cases r1<;>first|exact q1.elim|skip
 exact ⟨_,rfl,hq _ H1 _ S1 f1 s1 .int q1⟩
def ixT (S:Sto) (x y:T):Option T:=match x,y with
 |.tup ts,.int i=>atI ts i
 |.str z,.int i=>if z.length<=sizeLine then (atI z.cps.toList i).map λc=>.str ⟨#[c]⟩ else none
 |x,.int i=>(aS S x).bind λts=>atI ts i
 |_,_=>none
theorem sX {S:Sto}{p:Addr}{ts:List T}{i:Int}(e:S p=some (.lst ts)):ixT S (.ref p) (.int i)=atI ts i:=by
 show (aS S (.ref p)).bind (λts=>atI ts i)=_
 rw [iw e];rfl
theorem sY {S:Sto}{ts:List T}{i:Int}:ixT S (.lst ts) (.int i)=atI ts i:=rfl
def gIx:G2:=λx y S Q=>∃ r,ixT S x y=some r/\Q r S
theorem sZ {H S ts vs i t}(r:Rps K H S ts vs) (e:atI ts i=some t):∃ v,atI vs i=some v/\Rp K H S t v:=by
 unfold atI at e ⊢
 rw [r.length]
 cases q:ixN ts.length i with
 |none=>rw [q] at e;cases e
 |some j =>
  rw [q] at e
  simp only [Option.bind_some] at e ⊢
  exact r.get e
theorem GK (hK:X.K=K):IxR X (l2 K gIx):=by
 subst hK
 rintro value slice pins s σ H x y v u Q I rx ry ⟨S,tx,ty,Qt,sr,hx,hy,⟨r,e,q⟩,b⟩ hs
 have lists:∀ i,ty=.int i->(aS S tx).bind (λts=>atI ts i)=some r->wpAny (model X.prog X.w) X.A (subscriptTail value slice v u) (EP X pins σ Q) X.xe s:=by
  rintro i rfl e
  cases hy
  cases h1:aS S tx with
  |none=>rw [h1] at e;cases e
  |some ts =>
   rw [h1] at e
   obtain ⟨p,vs,rfl,hq,rs⟩:=ce sr hx h1
   obtain ⟨w',e2,r2⟩:=sZ rs e
   exact zQ value slice pins s σ H _ _ v u Q I rx ry ⟨p,vs,i,w',rfl,rfl,hq,e2,b _ H _ S .refl sr r2 q⟩ hs
 cases ty with
 |int i =>
  cases tx with
  |tup ts =>
   cases hy
   cases hx with
   |tup n hp rs =>
    obtain ⟨w',e2,r2⟩:=sZ rs (show atI ts i=some r from e)
    exact Ca value slice pins s σ H _ _ v u Q I rx ry ⟨_,_,i,w',rfl,rfl,SqT.of hp,e2,b _ H _ S .refl sr r2 q⟩ hs
  |str z =>
   cases hy
   cases hx
   delta ixT at e
   dsimp only at e
   split at e
   ·next hz =>
    simp only [Option.map_eq_some_iff] at e
    obtain ⟨c,e,rfl⟩:=e
    exact Cb value slice pins s σ H _ _ v u Q I rx ry ⟨z,i,c,rfl,rfl,hz,e,b _ H _ S .refl sr .str q⟩ hs
   ·cases e
  |_=>exact lists i rfl e
 |_=>cases tx<;>cases e
theorem aB {a c:Expr}{wa wc:WE}{pos:Pos}(hK:X.K=K) (ha:QE K X a wa) (hc:QE K X c wc) (hs:qP c):QE K X (.Subscript a c pos) (w2 gIx wa wc):=PE.of (Ew (GK hK) ha hc hs) λ_ _ _ h=>j6 h
abbrev WO:=StT->Sto->(Option Int->Sto->Prop)->Prop
def lO (K:Fg) (w:WO):TO:=λσ H Q=>∃ S σt Qt,SRp K H S/\Cov K H S σ σt/\w σt S Qt/\∀ b H' S',Fr H S H' S'->SRp K H' S'->Qt b S'->Q b H'
def QO (K:Fg) (X:Cx) (e:Option Expr) (w:WO):Prop:=PO X e (lO K w)
theorem PO.of {e:Option Expr}{t t':TO}(h:PO X e t) (i:∀ σ H Q,t' σ H Q->t σ H Q):PO X e t':=λpins s σ H Q I q=>h pins s σ H Q I (i σ H Q q)
def woN:WO:=λ_ S Q=>Q none S
def woS (wa:WE):WO:=λσ S Q=>wa σ S λx S1=>match x with
 |.int i=>Q (some i) S1
 |_=>False
theorem gr:QO K X none woN:=PO.of zN λσ H Q zz86=>by obtain ⟨S,σt,Qt,s,c,q,hq⟩:=zz86;exact hq none H S .refl s q
theorem dZ {e:Expr}{wa:WE}(h:QE K X e wa):QO K X (some e) (woS wa):=PO.of (zO h) λσ H Q zz87=>by
 obtain ⟨S,σt,Qt,s,c,q,hq⟩:=zz87
 refine ⟨S,σt,_,s,c,q,λx H1 tx S1 f1 s1 r1 q1=>?_⟩
 cases r1<;>first|exact q1.elim|skip
 exact ⟨_,rfl,hq _ H1 S1 f1 s1 q1⟩
def eD (ts:List T) (lo hi:Option Int):List T:=(ts.drop (HT.sIx ts.length 0 lo)).take (HT.sIx ts.length ts.length hi - HT.sIx ts.length 0 lo)
theorem Cu {H S ts vs lo hi}(r:Rps K H S ts vs):Rps K H S (eD ts lo hi) (gU vs lo hi):=by
 unfold eD gU
 rw [r.length]
 exact (r.drop _).take _
def gSl (tr:Bool) (x:T) (lo hi:Option Int) (S:Sto) (Q:T->Sto->Prop):Prop:=match x with
 |.str z=>z.length<=sizeLine/\Q (.str (Txt.slice z lo hi)) S
 |x=>∃ ts,aS S x=some ts/\bi tr (eD ts lo hi) S Q
def l3 (K:Fg) (g:T->Option Int->Option Int->Sto->(T->Sto->Prop)->Prop):V->Option Int->Option Int->Hp->VK->Prop:=λx lo hi H Q=>∃ S tx Qt,SRp K H S/\Rp K H S tx x/\g tx lo hi S Qt/\Bh K H S Qt Q
theorem GL (tr:Bool) (hK:X.K=K):SlR X (l3 K (gSl tr)):=by
 subst hK
 rintro pins s σ H x v vl vu lo hi sl Q I rx hs pl pu ⟨S,tx,Qt,sr,hx,hg,b⟩
 have lists:(∃ ts,aS S tx=some ts/\bi tr (eD ts lo hi) S Qt)->vh X.K x lo hi H Q:=by
  rintro ⟨ts,e,n⟩
  obtain ⟨p,vs,rfl,hq,rs⟩:=ce sr hx e
  exact ⟨p,vs,rfl,hq,jR sr (Cu rs) n b⟩
 cases tx with
 |str z=>cases hx;exact Ck pins s σ H _ v vl vu lo hi sl Q I rx hs pl pu ⟨z,rfl,hg.1,b _ H _ S .refl sr .str hg.2⟩
 |_=>exact zR pins s σ H _ v vl vu lo hi sl Q I rx hs pl pu (lists hg)
def wSl (tr:Bool) (wa:WE) (wl wh:WO):WE:=λσ S Q=>wa σ S λx S1=>wl σ S1 λl S2=>wh σ S2 λh S3=>gSl tr x l h S3 Q
theorem eK (tr:Bool){e:Expr}{lo hi:Option Expr}{wa:WE}{wl wh:WO}{p2 pos:Pos}(hK:X.K=K) (he:QE K X e wa) (hl:QO K X lo wl) (hu:QO K X hi wh):QE K X (.Subscript e (.Slice lo hi none p2) pos) (wSl tr wa wl wh) :=
 PE.of (yc (GL tr hK) he hl hu) λσ H Q zz88=>by
  obtain ⟨S,σt,Qt,s,c,q,hq⟩:=zz88
  refine ⟨S,σt,_,s,c,q,λx H1 tx S1 f1 s1 r1 q1=>?_⟩
  refine ⟨S1,σt,_,s1,c.fr f1,q1,λl H2 S2 f2 s2 q2=>?_⟩
  refine ⟨S2,σt,_,s2,c.fr (f1.trans f2),q2,λh H3 S3 f3 s3 q3=>?_⟩
  exact ⟨S3,tx,Qt,s3,(r1.fr f2).fr f3,q3,λv H' t S' f=>hq v H' t S' (((f1.trans f2).trans f3).trans f)⟩
end
structure Src where
 items:List T
 grd:Sto->Prop
abbrev WI:=StT->Sto->(Src->Sto->Prop)->Prop
structure Iter (K:Fg) (J:It) (src:Src) (H1:Hp) (S1:Sto):Prop where
 go:∀ H S i,Fr H1 S1 H S->SRp K H S->src.grd S->i<src.items.length->J.go i H
 yld:∀ H S i x H',Fr H1 S1 H S->SRp K H S->src.grd S->i<src.items.length->J.yld i H x H'->∃ t,src.items[i]?=some t/\Fr H S H' S/\SRp K H' S/\Rp K H' S t x
 stop:∀ H S,Fr H1 S1 H S->SRp K H S->src.grd S->J.stop src.items.length H
def lI (K:Fg) (w:WI):TI:=λσ H R=>∃ S σt Rt,SRp K H S/\Cov K H S σ σt/\w σt S Rt/\∀ J H1 src S1,Fr H S H1 S1->SRp K H1 S1->Iter K J src H1 S1->Rt src S1->R J H1
def QI (K:Fg) (X:Cx) (tg iter:Expr) (w:WI):Prop:=PI X tg iter (lI K w)
section
variable {K:Fg}{X:Cx}{tg:Expr}
theorem PI.of {e:Expr}{t t':TI}(h:PI X tg e t) (i:∀ σ H Q,t' σ H Q->t σ H Q):PI X tg e t':=λpins s σ H Q I q=>h pins s σ H Q I (i σ H Q q)
theorem jA {α:Type}{l:List α}{i:Nat}{t:α}(h:l[i]?=some t):l.drop i=t::l.drop (i+1):=by
 obtain ⟨hl,e⟩:=List.getElem?_eq_some_iff.mp h
 rw [<- e];exact List.drop_eq_getElem_cons hl
def df (grd:Sto->Prop) (g:WG) (wb:WS) (D:EndsT):List T->StT->Sto->Prop
 |[],σ,S=>grd S/\D.nx σ S
 |t::ts,σ,S=>grd S/\g t σ S λσ2 S2=>wb { nx:=df grd g wb D ts,rt:=D.rt,bk:=D.nx,ct:=df grd g wb D ts } σ2 S2
def nX (wi:WI) (g:WG) (wb:WS):WS:=λD σ S=>wi σ S λsrc S1=>df src.grd g wb D src.items σ S1
theorem Ad {wi:WI}{g:WG}{wb:WS}{D σ H}(h:lS K (nX wi g wb) D σ H):vb (lI K wi) (lG K g) (lS K wb) D σ H:=by
 obtain ⟨S,σt,Dt,s,c,q,he⟩:=h
 refine ⟨S,σt,_,s,c,q,λJ H1 src S1 f1 s1 it q1=>?_⟩
 refine ⟨λi m σ H=>m=src.items.length - i/\i<=src.items.length/\∃ S σt,Fr H1 S1 H S/\SRp K H S/\Cov K H S σ σt/\df src.grd g wb Dt (src.items.drop i) σt S,
  ⟨_,rfl,Nat.zero_le _,S1,σt,.refl,s1,c.fr f1,by simpa using q1⟩,?_⟩
 rintro i m σ H ⟨rfl,hi,S2,σt2,f2,s2,c2,q2⟩
 by_cases hl:i<src.items.length
 ·have e1:src.items[i]?=some src.items[i]:=by simp [hl]
  rw [jA e1] at q2
  obtain ⟨hg,q2⟩:=q2
  refine .inr ⟨it.go H S2 i f2 s2 hg hl,λσ' H'=>∃ S σt,Fr H1 S1 H' S/\SRp K H' S/\Cov K H' S σ' σt/\df src.grd g wb Dt (src.items.drop (i+1)) σt S,λσ' H' n=>⟨src.items.length - (i+1),by omega,rfl,hl,n⟩,λx H' y=>?_⟩
  obtain ⟨t,et,f3,s3,r3⟩:=it.yld H S2 i x H' f2 s2 hg hl y
  rw [e1] at et;cases et
  refine ⟨S2,_,σt2,_,s3,r3,c2.fr f3,q2,λσ4 H4 σt4 S4 f4 s4 c4 q4=>?_⟩
  have fA:=(f2.trans f3).trans f4
  refine ⟨S4,σt4,_,s4,c4,q4,⟨λσ' H' σt' S' f s' c' q'=>⟨S',σt',fA.trans f,s',c',q'⟩,λv H' t S' f=>he.rt v H' t S' ((f1.trans fA).trans f),λσ' H' σt' S' f=>he.nx σ' H' σt' S' ((f1.trans fA).trans f),λσ' H' σt' S' f s' c' q'=>⟨S',σt',fA.trans f,s',c',q'⟩⟩⟩
 ·have e:i=src.items.length:=by omega
  subst e
  rw [List.drop_eq_nil_of_le (Nat.le_refl _)] at q2
  exact .inl ⟨it.stop H S2 f2 s2 q2.1,he.nx σ H σt2 S2 (f1.trans f2) s2 c2 q2.2⟩
theorem d9 {iter:Expr}{body:List Stmt}{wi:WI}{g:WG}{wb:WS}{pos:Pos}(hp:PassesOwn (model X.prog X.w) X.A X.env X.xe) (hc:X.calm=true) (hi:QI K X tg iter wi) (hg:QG K X tg g) (hb:QSs K X body wb)
  (hs:∀ x,foldedSetIterable iter X.env x=pure x:=by intro _;rfl):QS K X (.For tg iter body [] pos) (nX wi g wb):=PS.of (BS hp hc hi hg hb hs) λ_ _ _ h=>Ad h
def eP (t:T) (ts:List T) (S:Sto):Prop:=match t with
 |.ref a=>S a=some (.lst ts)
 |_=>True
def wiL (wa:WE):WI:=λσ S R=>wa σ S λx S1=>∃ ts,aS S1 x=some ts/\R ⟨ts,eP x ts⟩ S1
theorem xu {S S':Sto}{x:T}{ts:List T}(e:aS S x=some ts) (h:eP x ts S'):aS S' x=some ts:=by
 cases x with
 |ref a=>exact iw h
 |lst us=>exact e
 |scr us=>exact e
 |_=>cases e
theorem xv {H1:Hp}{S1:Sto}{x:T}{a:Addr}{ts:List T}(r:Rp K H1 S1 x (.ref a)) (e:aS S1 x=some ts):Iter K (Itl K a) ⟨ts,eP x ts⟩ H1 S1:=by
 have main:∀ H S,Fr H1 S1 H S->SRp K H S->eP x ts S->∃ vs,SqL K H a vs/\Rps K H S ts vs:=λH S f s g=>by
  obtain ⟨p,vs,ep,hq,rs⟩:=ce s (r.fr f) (xu e g)
  cases ep
  exact ⟨vs,hq,rs⟩
 refine ⟨λH S i f s g hl=>?_,λH S i y H' f s g hl hy=>?_,λH S f s g=>?_⟩
 ·obtain ⟨vs,hq,rs⟩:=main H S f s g
  obtain ⟨v,hv,_⟩:=rs.get (i:=i) (t:=ts[i]) (by simp [show i<ts.length from hl])
  exact ⟨vs,v,hq,hv⟩
 ·obtain ⟨vs,hq,rs⟩:=main H S f s g
  obtain ⟨rfl,hy⟩:=hy
  obtain ⟨t,et,rt⟩:=rs.getV (hy vs hq)
  exact ⟨t,et,.refl,s,rt⟩
 ·obtain ⟨vs,hq,rs⟩:=main H S f s g
  exact ⟨vs,hq,by rw [rs.length];exact Nat.le_refl _⟩
theorem ci {l:Expr}{wa:WE}(hK:X.K=K) (hl:QE K X l wa):QI K X tg l (wiL wa):=by
 subst hK
 refine PI.of (zC hl) λσ H R zz89=>?_
 obtain ⟨S,σt,Rt,s,c,q,hq⟩:=zz89
 refine ⟨S,σt,_,s,c,q,λv H1 t S1 f1 s1 r1 q1=>?_⟩
 obtain ⟨ts,e,q1⟩:=q1
 obtain ⟨p,vs,rfl,hS,rs⟩:=ce s1 r1 e
 exact ⟨p,rfl,⟨vs,hS⟩,hq _ H1 _ S1 f1 s1 (xv r1 e) q1⟩
def bM (lo:Int) (n:Nat):List T:=(List.range n).map λ(i:Nat)=>T.int (lo+i)
theorem wJ {lo:Int}{n:Nat}{H1 S1}:Iter K (Itr lo n) ⟨bM lo n,λ_=>True⟩ H1 S1:=by
 refine ⟨λH S i f s g hl=>by simpa [bM,Itr] using hl,λH S i y H' f s g hl hy=>?_,λH S f s g=>by simp [bM,Itr]⟩
 obtain ⟨rfl,rfl⟩:=hy
 have hl':i<n:=by simpa [bM] using hl
 exact ⟨.int (lo+i),by simp [bM,hl'],.refl,s,.int⟩
def vH (wa:WE):WI:=λσ S R=>wa σ S λx S1=>match x with
 |.int j=>-(2 ^ 62)<=j/\j<2 ^ 62/\R ⟨bM 0 j.toNat,λ_=>True⟩ S1
 |_=>False
theorem gb {a:Expr}{wa:WE}{p pos:Pos}(hg:Gl X "range") (hm:X.mg "range"=none) (ha:QE K X a wa) (hs:starEach [a] X.env=[(false,eval a X.env)]:=by rfl) (hs':starEach [a] X.env=(false,eval a X.env)::starEach [] X.env:=by rfl) :
  QI K X tg (.Call (.Name "range" p) [a] [] pos) (vH wa) :=
 PI.of (wX hg hm (qN ha sM hs') hs) λσ H R zz90=>by
  obtain ⟨S,σt,Rt,s,c,q,hq⟩:=zz90
  refine ⟨S,σt,_,s,c,q,λx H1 tx S1 f1 s1 r1 q1=>?_⟩
  cases r1<;>first|exact q1.elim|skip
  exact ⟨_,rfl,q1.1,q1.2.1,hq _ H1 _ S1 f1 s1 wJ q1.2.2⟩
def ix (z:Str):List T:=z.cps.toList.map λc=>T.str ⟨#[c]⟩
def wiS (wa:WE):WI:=λσ S R=>wa σ S λx S1=>match x with
 |.str z=>R ⟨ix z,λ_=>True⟩ S1
 |_=>False
theorem Cv {l:Expr}{wa:WE}(hl:QE K X l wa):QI K X tg l (wiS wa):=PI.of (Cj hl) λσ H R zz91=>by
 obtain ⟨S,σt,Rt,s,c,q,hq⟩:=zz91
 refine ⟨S,σt,_,s,c,q,λx H1 tx S1 f1 s1 r1 q1=>?_⟩
 cases r1<;>first|exact q1.elim|skip
 refine ⟨_,rfl,hq _ H1 _ S1 f1 s1 ⟨λH S i f s g hl=>by simpa [ix,Its] using hl,λH S i y H' f s g hl hy=>?_,λH S f s g=>by simp [ix,Its]⟩ q1⟩
 obtain ⟨rfl,c,ec,rfl⟩:=hy
 exact ⟨.str ⟨#[c]⟩,by simp [ix,ec],.refl,s,.str⟩
def whT (t:WT) (wb:WS) (D:EndsT):Nat->StT->Sto->Prop
 |0,_,_=>False
 |n+1,σ,S=>t σ S λb S1=>if b=true then wb { nx:=whT t wb D n,rt:=D.rt,bk:=D.nx,ct:=whT t wb D n } σ S1 else D.nx σ S1
def mH (t:WT) (wb:WS):WS:=λD σ S=>∃ n,whT t wb D n σ S
theorem xw {t:WT}{wb:WS}{D σ H}(h:lS K (mH t wb) D σ H):sJ (lT K t) (lS K wb) D σ H:=by
 obtain ⟨S0,σt0,Dt,s0,c0,⟨n0,q0⟩,he⟩:=h
 refine ⟨λm σ H=>∃ S σt,Fr _ S0 H S/\SRp K H S/\Cov K H S σ σt/\whT t wb Dt m σt S,⟨n0,S0,σt0,.refl,s0,c0,q0⟩,?_⟩
 rintro m σ H ⟨S,σt,f,s,c,q⟩
 cases m with
 |zero=>exact q.elim
 |succ m =>
  refine ⟨S,σt,_,s,c,q,λb H1 S1 f1 s1 q1=>?_⟩
  cases b with
  |true =>
   refine ⟨λσ' H'=>∃ S σt,Fr _ S0 H' S/\SRp K H' S/\Cov K H' S σ' σt/\whT t wb Dt m σt S,λσ' H' n=>⟨m,by omega,n⟩,?_⟩
   have fA:=f.trans f1
   exact ⟨S1,σt,_,s1,c.fr f1,q1,⟨λσ' H' σt' S' g s' c' q'=>⟨S',σt',fA.trans g,s',c',q'⟩,λv H' t S' g=>he.rt v H' t S' (fA.trans g),λσ' H' σt' S' g=>he.nx σ' H' σt' S' (fA.trans g),λσ' H' σt' S' g s' c' q'=>⟨S',σt',fA.trans g,s',c',q'⟩⟩⟩
  |false=>exact he.nx σ H1 σt S1 (f.trans f1) s1 (c.fr f1) q1
theorem rh {c:Expr}{body:List Stmt}{t:WT}{wb:WS}{pos:Pos}(hp:PassesOwn (model X.prog X.w) X.A X.env X.xe) (hc:QT K X c t) (hb:QSs K X body wb):QS K X (.While c body [] pos) (mH t wb):=PS.of (xW hp hc hb) λ_ _ _ h=>xw h
def QTs (K:Fg) (X:Cx) (ifs:List Expr) (w:WT):Prop:=PTs X ifs (lT K w)
def uD:WT:=λ_ S Q=>Q true S
theorem dD:QTs K X [] uD:=λpins s σ H Q I zz92=>by obtain ⟨S,σt,Qt,sr,c,q,hq⟩:=zz92;exact zY pins s σ H Q I (hq true H S .refl sr q)
theorem l9 {c:Expr}{w:WT}(h:QT K X c w):QTs K X [c] w:=zZ h
def gu (n:Nat) (caps:List Nat) (σ:StT):StT:=List.replicate n none++caps.map λi=>(σ[i]?).join
def dM (grd:Sto->Prop) (g:WG) (tt:WT) (te:WE) (Q:List T->Sto->Prop):List T->List T->StT->Sto->Prop
 |[],acc,_,S=>grd S/\Q acc S
 |x::xs,acc,σ,S=>grd S/\g x σ S λσ2 S2=>tt σ2 S2 λb S3=>if b=true then te σ2 S3 λy S4=>acc.length<sizeLine/\dM grd g tt te Q xs (acc++[y]) σ2 S4 else dM grd g tt te Q xs acc σ2 S3
def j9 (tr:Bool) (wi:WI) (n:Nat) (caps:List Nat) (g:WG) (tt:WT) (te:WE):WE:=λσ S Q=>wi σ S λsrc S1=>dM src.grd g tt te (λts S2=>bi tr ts S2 Q) src.items [] (gu n caps σ) S1
theorem yy {H S σ σt n caps}(c:Cov K H S σ σt):Cov K H S (gB n caps σ) (gu n caps σt):=by
 refine ⟨by simp [gB,gu],λi t e=>?_⟩
 unfold gu at e
 unfold gB
 by_cases hi:i<n
 ·rw [List.getElem?_append_left (by simpa using hi),List.getElem?_replicate] at e
  rw [if_pos hi] at e;cases e
 ·rw [List.getElem?_append_right (by simpa using hi)] at e ⊢
  simp only [List.length_replicate,List.getElem?_map] at e ⊢
  cases q:caps[i - n]? with
  |none=>rw [q] at e;cases e
  |some j =>
   rw [q] at e
   simp only [Option.map_some,Option.some.injEq] at e ⊢
   cases z:σt[j]? with
   |none=>rw [z] at e;cases e
   |some o =>
    rw [z] at e
    simp only [Option.join_some] at e
    subst e
    obtain ⟨v,hv,rv⟩:=c.2 j t z
    exact ⟨v,by rw [hv];rfl,rv⟩
mutual
theorem Rp.chg {H S D φ o}(e:H D=some (.ext φ)):∀ {t v},Rp K H S t v->Rp K (upd H D o) S t v
 |_,_,.non=>.non
 |_,_,.bl=>.bl
 |_,_,.int=>.int
 |_,_,.str=>.str
 |_,_,.ty=>.ty
 |_,_,.ref=>.ref
 |_,_,.tup n h r=>.tup n (by rw [av (cZ h e (by intro z;cases z))];exact h) (Rps.chg e r)
 |_,_,.lst n h r=>.lst n (by rw [av (cZ h e (by intro z;cases z))];exact h) (Rps.chg e r)
 |_,_,.scr h=>.scr (by
   rcases h with ⟨n,o',h⟩|h
   ·exact .inl ⟨n,o',by rw [av (cZ h e (by intro z;cases z))];exact h⟩
   ·exact .inr h)
theorem Rps.chg {H S D φ o}(e:H D=some (.ext φ)):∀ {ts vs},Rps K H S ts vs->Rps K (upd H D o) S ts vs
 |_,_,.nil=>.nil
 |_,_,.cons a b=>.cons (Rp.chg e a) (Rps.chg e b)
end
theorem SRp.chg {H S D φ o}(e:H D=some (.ext φ)) (n:S D=none) (s:SRp K H S):SRp K (upd H D o) S:=λa o' h=>by
 have ha:a≠D:=λz=>by rw [z,n] at h;cases h
 cases s a o' h with
 |lst h' r=>exact .lst (by rw [av ha];exact h') (Rps.chg e r)
 |dK h' r=>exact .dK (by rw [av ha];exact h') (Paired.mapP r λ_ _ z=>⟨z.1,Rp.chg e z.2⟩)
 |dT h' r=>exact .dT (by rw [av ha];exact h') (Paired.mapP r λ_ _ z=>⟨z.1,Rp.chg e z.2⟩)
 |fK h' r=>exact .fK (by rw [av ha];exact h') (Paired.mapP r λ_ _ z=>⟨z.1,Rp.chg e z.2⟩)
 |ins h' r=>exact .ins (by rw [av ha];exact h') (Paired.mapP r λ_ _ z=>⟨z.1,Rp.chg e z.2⟩)
 |exk h'=>exact .exk (by rw [av ha];exact h')
theorem Cov.chg {H S D φ o σ σt}(e:H D=some (.ext φ)) (c:Cov K H S σ σt):Cov K (upd H D o) S σ σt:=⟨c.1,λi t h=>by
 obtain ⟨v,h1,r⟩:=c.2 i t h
 exact ⟨v,h1,Rp.chg e r⟩⟩
theorem Fr.at {H S H1 S1 D o}(f:Fr H1 S1 H S) (hD:H1 D=none):Fr H1 S1 (upd H D o) S:=λa u h n=>by
 rw [av (br h hD)];exact f a u h n
mutual
theorem Rp.trk {H S D φ o p}(e:H D=some (.ext φ)):∀ {t v},Rp K H S t v->Rp K (upd H D o) (put S D p) t v
 |_,_,.non=>.non
 |_,_,.bl=>.bl
 |_,_,.int=>.int
 |_,_,.str=>.str
 |_,_,.ty=>.ty
 |_,_,.ref=>.ref
 |_,_,.tup n h r=>.tup (by rw [aE (cZ h e (by intro z;cases z))];exact n) (by rw [av (cZ h e (by intro z;cases z))];exact h) (Rps.trk e r)
 |_,_,.lst n h r=>.lst (by rw [aE (cZ h e (by intro z;cases z))];exact n) (by rw [av (cZ h e (by intro z;cases z))];exact h) (Rps.trk e r)
 |_,_,.scr h=>.scr (by
   rcases h with ⟨n,o',h⟩|h
   ·exact .inl ⟨by rw [aE (cZ h e (by intro z;cases z))];exact n,o',by rw [av (cZ h e (by intro z;cases z))];exact h⟩
   ·exact .inr h)
theorem Rps.trk {H S D φ o p}(e:H D=some (.ext φ)):∀ {ts vs},Rps K H S ts vs->Rps K (upd H D o) (put S D p) ts vs
 |_,_,.nil=>.nil
 |_,_,.cons a b=>.cons (Rp.trk e a) (Rps.trk e b)
end
theorem SRp.trk {H S D φ zs acc}(e:H D=some (.ext φ)) (s:SRp K H S) (r:Rps K H S acc zs):SRp K (upd H D (.lst zs)) (put S D (.lst acc)):=λa o' h=>by
 by_cases ha:a=D
 ·subst ha;rw [aC] at h;cases h;exact .lst aF (Rps.trk e r)
 ·rw [aE ha] at h
  cases s a o' h with
  |lst h' r=>exact .lst (by rw [av ha];exact h') (Rps.trk e r)
  |dK h' r=>exact .dK (by rw [av ha];exact h') (Paired.mapP r λ_ _ z=>⟨z.1,Rp.trk e z.2⟩)
  |dT h' r=>exact .dT (by rw [av ha];exact h') (Paired.mapP r λ_ _ z=>⟨z.1,Rp.trk e z.2⟩)
  |fK h' r=>exact .fK (by rw [av ha];exact h') (Paired.mapP r λ_ _ z=>⟨z.1,Rp.trk e z.2⟩)
  |ins h' r=>exact .ins (by rw [av ha];exact h') (Paired.mapP r λ_ _ z=>⟨z.1,Rp.trk e z.2⟩)
  |exk h'=>exact .exk (by rw [av ha];exact h')
theorem qw {tr:Bool}{wi:WI}{n:Nat}{caps:List Nat}{g:WG}{tt:WT}{te:WE}{σ H Q}(h:lE K (j9 tr wi n caps g tt te) σ H Q):mC (lI K wi) n caps (lG K g) (lT K tt) (lE K te) σ H Q:=by
 obtain ⟨S,σt,Qt,s,c,q,hq⟩:=h
 refine ⟨S,σt,_,s,c,q,λJ H1 src S1 f1 s1 it q1=>?_⟩
 intro D hD
 refine ⟨λi m zs σc H=>m=src.items.length - i/\i<=src.items.length/\H D=some (a9 D zs)/\∃ S σt acc,S D=none/\Fr H1 S1 H S/\Rps K H S acc zs/\SRp K H S/\Cov K H S σc σt/\dM src.grd g tt te (λts S2=>bi tr ts S2 Qt) (src.items.drop i) acc σt S,
  ⟨_,rfl,Nat.zero_le _,aF,S1,gu n caps σt,[],s1.fresh hD,Fr.new hD,.nil,s1.new hD,yy ((c.fr f1).fr (Fr.new hD)),by simpa using q1⟩,?_⟩
 rintro i m zs σc H ⟨rfl,hi,e2,S2,σt2,acc,n2,f2,r2,s2,c2,q2⟩
 refine ⟨e2,?_⟩
 by_cases hl:i<src.items.length
 ·have e1:src.items[i]?=some src.items[i]:=by simp [hl]
  rw [jA e1] at q2
  obtain ⟨hg,q2⟩:=q2
  refine .inr ⟨it.go H S2 i f2 s2 hg hl,λzs' σ' H'=>H' D=some (a9 D zs')/\∃ S σt acc,S D=none/\Fr H1 S1 H' S/\Rps K H' S acc zs'/\SRp K H' S/\Cov K H' S σ' σt/\dM src.grd g tt te (λts S2=>bi tr ts S2 Qt) (src.items.drop (i+1)) acc σt S,
   λzs' σ' H' n=>⟨src.items.length - (i+1),by omega,rfl,hl,n⟩,λx H' y=>?_⟩
  obtain ⟨t,et,f3,s3,r3⟩:=it.yld H S2 i x H' f2 s2 hg hl y
  rw [e1] at et;cases et
  have e3:=f3 D _ e2 n2
  refine ⟨S2,_,σt2,_,s3,r3,c2.fr f3,q2,λσ4 H4 σt4 S4 f4 s4 c4 q4=>?_⟩
  have e4:=f4 D _ e3.1 e3.2
  refine ⟨S4,σt4,_,s4,c4,q4,λb H5 S5 f5 s5 q5=>?_⟩
  have e5:=f5 D _ e4.1 e4.2
  have fB:=((f3.trans f4).trans f5)
  cases b with
  |false=>exact ⟨e5.1,S5,σt4,acc,e5.2,f2.trans fB,r2.fr fB,s5,c4.fr f5,q5⟩
  |true =>
   refine ⟨S5,σt4,_,s5,c4.fr f5,q5,λy H6 ty S6 f6 s6 r6 q6=>?_⟩
   have e6:=f6 D _ e5.1 e5.2
   have fC:=fB.trans f6
   exact ⟨e6.1,by rw [r2.length];exact q6.1,aF,S6,σt4,acc++[ty],e6.2,Fr.at (f2.trans fC) hD,Rps.chg e6.1 ((r2.fr fC).append (.cons r6 .nil)),s6.chg e6.1 e6.2,((c4.fr f5).fr f6).chg e6.1,q6.2⟩
 ·have e:i=src.items.length:=by omega
  subst e
  rw [List.drop_eq_nil_of_le (Nat.le_refl _)] at q2
  refine .inl ⟨it.stop H S2 f2 s2 q2.1,?_⟩
  have fE:Fr H1 S1 (upd H D (.lst zs)) S2:=Fr.at f2 hD
  cases tr with
  |false=>exact hq _ _ (.lst acc) S2 (f1.trans fE) (s2.chg e2 n2) (.lst n2 aF (Rps.chg e2 r2)) q2.2
  |true =>
   have fr1:Fr H1 S1 (upd H D (.lst zs)) (put S2 D (.lst acc)):=λa o h nn=>by
    have ha:a≠D:=br h hD
    rw [aE ha];exact fE a o h nn
   exact hq _ _ (.ref D) _ (f1.trans fr1) (SRp.trk e2 s2 r2) .ref (q2.2 D n2)
theorem dG (tr:Bool){elt iter target:Expr}{ifs:List Expr}{scope:Scope}{pos:Pos}{wi:WI}{g:WG}{tt:WT}{te:WE}(Nc:List Str) (n:Nat) (caps:List Nat) (hcalm:X.calm=true) (hi:QI K X target iter wi) (hg:∀ C s₀ H₀ ex,QG K (X.comp scope Nc C s₀ H₀ ex) target g)
  (ht:∀ C s₀ H₀ ex,QTs K (X.comp scope Nc C s₀ H₀ ex) ifs tt) (he:∀ C s₀ H₀ ex,QE K (X.comp scope Nc C s₀ H₀ ex) elt te) (hsc:gA X.env.scope scope=true:=by rfl) (hcp:eT X.N Nc scope n caps=true:=by rfl) (hs:∀ x,foldedSetIterable iter X.env x=pure x:=by intro _;rfl) :
  QE K X (.ListComp elt [⟨target,iter,ifs,0⟩] scope pos) (j9 tr wi n caps g tt te):=PE.of (yl Nc n caps hcalm hi hg ht he hsc hcp hs) λ_ _ _ h=>qw h
theorem k8 (tr:Bool){elt iter target:Expr}{ifs:List Expr}{scope:Scope}{pos:Pos}{wi:WI}{g:WG}{tt:WT}{te:WE}{i:Nat}{x:Str}{px spos:Pos}(Nc:List Str) (n:Nat) (caps:List Nat) (hcalm:X.calm=true) (hN:X.N.Nodup) (hix:X.N[i]?=some x) (hx:Loc X.env.scope x)
  (hi:QI K X target iter wi) (hg:∀ C s₀ H₀ ex,QG K (X.comp scope Nc C s₀ H₀ ex) target g)
  (ht:∀ C s₀ H₀ ex,QTs K (X.comp scope Nc C s₀ H₀ ex) ifs tt) (he:∀ C s₀ H₀ ex,QE K (X.comp scope Nc C s₀ H₀ ex) elt te)
  (hsw:swapsWith (.ListComp elt [⟨target,iter,ifs,0⟩] scope pos) (some (.Name x px)) spos.line X.env=pure true:=by rfl) (hsc:gA X.env.scope scope=true:=by rfl) (hcp:eT X.N Nc scope n caps=true:=by rfl) (hs:∀ x,foldedSetIterable iter X.env x=pure x:=by intro _;rfl)
  (hf:X.fn x=true\/X.env.scope.names.lookup x=some .local:=by first|exact .inl rfl|exact .inr rfl|assumption) :
  QS K X (.Assign [.Name x px] (.ListComp elt [⟨target,iter,ifs,0⟩] scope pos) spos) (iP (j9 tr wi n caps g tt te) (wgN i)):=PS.of (ym Nc n caps hcalm hN hix hx hi hg ht he hsw hsc hcp hs hf) λD σ H h=>by
 obtain ⟨S,σt,Dt,s,c,q,he⟩:=h
 exact qw ⟨S,σt,_,s,c,q,λv H1 t S1 f1 s1 r1 q1=>he.nx _ H1 _ S1 f1 s1 ((c.fr f1).set r1 i) q1⟩
end
end T2
namespace L2
open PySem PySem.Spec PyProof.Rows
section
variable {X:Cx}
def Ae:V->List V->Hp->VK->Prop:=λx vs H Q=>∃ a b,x=.str a/\vs=[.str b]/\Q (.bl (Txt.startswith a b)) H
theorem v5:MtR X "str.startswith" Ae:=by
 intro pins s σ H x vs v us Q I rx rv h
 obtain ⟨a,b,rfl,rfl,q⟩:=h
 obtain ⟨t,rfl⟩:=rx
 obtain ⟨u,rfl,t2,rfl⟩:=bZ rv
 exact SC.startswith ⟨.bl _,H,I,rfl,q⟩
def Af:V->List V->Hp->VK->Prop:=λx vs H Q=>∃ l xs i y,x=.ref l/\vs=[.int i,y]/\H l=some (.lst xs)/\xs.length<sizeLine/\0<=i/\i<2 ^ 62/\Q .non (upd H l (.lst (xs.take i.toNat++y::xs.drop i.toNat)))
theorem wK (its:List Value) (u:Value) (k:Nat) (hk:k<=its.length):(its.toArray.extract 0 k).push u++its.toArray.extract k=(its.take k++u::its.drop k).toArray:=by
 apply Array.ext'
 simp [List.take_of_length_le]
theorem xx:MtM X "list.insert" Af:=by
 intro pins s σ H x vs v us Q I rx rv h
 obtain ⟨l,xs,i,y,rfl,rfl,hH,hz,h0,h1,q⟩:=h
 cases rx
 obtain ⟨u1,u2,rfl,⟨t,rfl⟩,ru⟩:=iF rv
 obtain ⟨z,its,n,r,hl,e⟩:=I.lstM hH
 have hf:Builtin.List.listFitsIndex i=true:=by
  unfold Builtin.List.listFitsIndex
  simp only [Bool.and_eq_true,decide_eq_true_eq]
  omega
 refine call_meets F.slot_list_insert ⟨_,e,rfl⟩ F.entry_list_insert (F.args_list_insert_3 _ _ _) (PySem.AutoSeq1.list_insert_list_int_val_1 l its.toArray n i t u2 (by simp [hf]) (by rw [List.size_toArray];omega)) ⟨e,?_⟩
 have hm:(its.take i.toNat++u2::its.drop i.toNat)=(its.take (min i.toNat its.length)++u2::its.drop (min i.toNat its.length)):=by
  by_cases hi:i.toNat<=its.length
  ·rw [Nat.min_eq_left hi]
  ·rw [Nat.min_eq_right (by omega),List.take_of_length_le (by omega),List.take_of_length_le (Nat.le_refl _),List.drop_eq_nil_of_le (by omega),List.drop_eq_nil_of_le (Nat.le_refl _)]
 refine ⟨.non,_,I.lset (its':=its.take i.toNat++u2::its.drop i.toNat) hH e ?_ ((r.take _).append (.cons ru (r.drop _))) ?_,rfl,q⟩
 ·show (its.toArray.extract 0 (if i<0 then _ else min i.toNat its.toArray.size)).push u2++its.toArray.extract (if i<0 then _ else min i.toNat its.toArray.size)=_
  rw [if_neg (by omega),hm,List.size_toArray]
  exact wK its u2 _ (Nat.min_le_right _ _)
 ·simp only [List.length_append,List.length_take,List.length_cons,List.length_drop]
  omega
end
end L2
namespace T2
open PySem PySem.Spec PyProof.Rows L2
section
variable {K:Fg}{X:Cx}
def bS:T->Bool
 |.non=>true
 |.bl _=>true
 |.int _=>true
 |.str _=>true
 |_=>false
def eqF:T->T->Bool
 |.non,.non=>true
 |.bl a,.bl b=>a==b
 |.bl a,.int b=>(if a then 1 else 0)==b
 |.int a,.bl b=>a==(if b then 1 else 0)
 |.int a,.int b=>a==b
 |.str a,.str b=>a==b
 |_,_=>false
theorem EN {a b:Str}:eqF (.str a) (.str b)=(a==b):=rfl
theorem iy {H S t v}(r:Rp K H S t v) (f:bS t=true):c6 v=true:=by cases r<;>first|rfl|cases f
theorem EO {H S t v t' v'}(r:Rp K H S t v) (r':Rp K H S t' v') (f:bS t=true) (f':bS t'=true):eqV v v'=eqF t t':=by
 cases r<;>first|(cases f;done)|(cases r'<;>first|(cases f';done)|rfl)
theorem iQ {H S t v}(r:Rp K H S t v) (f:bS t=true):∀ {ts vs},Rps K H S ts vs->ts.all bS=true->vs.all c6=true/\inV v vs=ts.any λy=>eqF y t
 |_,_,.nil,_=>⟨rfl,rfl⟩
 |_,_,.cons a b,h=>by
  rw [List.all_cons,Bool.and_eq_true] at h
  obtain ⟨h1,h2⟩:=iQ r f b h.2
  refine ⟨by rw [List.all_cons,iy a h.1,h1];rfl,?_⟩
  unfold inV at h2 ⊢
  rw [List.any_cons,List.any_cons,h2,EO a r h.1 f]
def c8:T->Option Key
 |.int i=>some (.inl i)
 |.str x=>some (.inr x)
 |_=>none
def gIn (neg:Bool):G2:=λx y S Q=>(∃ i j,x=.str i/\y=.str j/\Q (.bl (neg ^^ !(Builtin.Str.occurrences j i 0 j.length 1).isEmpty)) S) \/
 (∃ ts,y=.tup ts/\bS x=true/\ts.all bS=true/\Q (.bl (neg ^^ ts.any λy=>eqF y x)) S) \/
 ∃ ts,aS S y=some ts/\bS x=true/\ts.all bS=true/\Q (.bl (neg ^^ ts.any λy=>eqF y x)) S
theorem gW (hK:X.K=K):OpR X (compareOp .In) (l2 K (gIn false)):=by
 subst hK
 rintro pins s σ H x y v u Q I rx ry ⟨S,tx,ty,Qt,sr,hx,hy,hg,b⟩
 rcases hg with ⟨i,j,rfl,rfl,q⟩|⟨ts,rfl,fx,ft,q⟩|⟨ts,e,fx,ft,q⟩
 ·obtain rfl:=hx.istr
  obtain rfl:=hy.istr
  exact w4 pins s σ H _ _ v u Q I rx ry ⟨i,j,rfl,rfl,b _ H _ S .refl sr .bl (by simpa using q)⟩
 ·obtain ⟨p,vs,rfl,hp,rs⟩:=hy.itup
  obtain ⟨h1,h2⟩:=iQ hx fx rs ft
  refine pP pins s σ H _ _ v u Q I rx ry ⟨_,_,rfl,.inr (SqT.of hp),iy hx fx,h1,?_⟩
  rw [h2]
  exact b _ H _ S .refl sr .bl (by simpa using q)
 ·obtain ⟨p,vs,rfl,hq,rs⟩:=ce sr hy e
  obtain ⟨h1,h2⟩:=iQ hx fx rs ft
  refine pP pins s σ H _ _ v u Q I rx ry ⟨p,vs,rfl,.inl hq,iy hx fx,h1,?_⟩
  rw [h2]
  exact b _ H _ S .refl sr .bl (by simpa using q)
theorem rj (hK:X.K=K):OpR X (compareOp .NotIn) (l2 K (gIn true)):=by
 subst hK
 rintro pins s σ H x y v u Q I rx ry ⟨S,tx,ty,Qt,sr,hx,hy,hg,b⟩
 rcases hg with ⟨i,j,rfl,rfl,q⟩|⟨ts,rfl,fx,ft,q⟩|⟨ts,e,fx,ft,q⟩
 ·obtain rfl:=hx.istr
  obtain rfl:=hy.istr
  exact v7 pins s σ H _ _ v u Q I rx ry ⟨i,j,rfl,rfl,b _ H _ S .refl sr .bl (by simpa using q)⟩
 ·obtain ⟨p,vs,rfl,hp,rs⟩:=hy.itup
  obtain ⟨h1,h2⟩:=iQ hx fx rs ft
  refine oQ pins s σ H _ _ v u Q I rx ry ⟨_,_,rfl,.inr (SqT.of hp),iy hx fx,h1,?_⟩
  rw [h2]
  exact b _ H _ S .refl sr .bl (by simpa using q)
 ·obtain ⟨p,vs,rfl,hq,rs⟩:=ce sr hy e
  obtain ⟨h1,h2⟩:=iQ hx fx rs ft
  refine oQ pins s σ H _ _ v u Q I rx ry ⟨p,vs,rfl,.inl hq,iy hx fx,h1,?_⟩
  rw [h2]
  exact b _ H _ S .refl sr .bl (by simpa using q)
abbrev GC:=List T->Sto->(T->Sto->Prop)->Prop
def lC (K:Fg) (g:GC):List V->Hp->VK->Prop:=λxs H Q=>∃ S ts Qt,SRp K H S/\Rps K H S ts xs/\g ts S Qt/\Bh K H S Qt Q
def wCB (g:GC) (wr:WA):WE:=λσ S Q=>wr σ S λts S1=>g ts S1 Q
theorem Cw {g:GC}{wr:WA}{σ H Q}(h:lE K (wCB g wr) σ H Q):tCB (lC K g) (lA K wr) σ H Q:=by
 obtain ⟨S,σt,Qt,s,c,q,hq⟩:=h
 refine ⟨S,σt,_,s,c,q,λvs H1 ts S1 f1 s1 r1 q1=>?_⟩
 exact ⟨S1,ts,Qt,s1,r1,q1,λv H' t S' f=>hq v H' t S' (f1.trans f)⟩
theorem GN {g:GC}{wr:WA}{e:Expr}(hp:PE X e (tCB (lC K g) (lA K wr))):QE K X e (wCB g wr):=PE.of hp λ_ _ _ h=>Cw h
def kA (S:Sto):T->Option Int
 |.str z=>if z.length<=sizeLine then some z.length else none
 |.tup ts=>some ts.length
 |t=>(aS S t).map λts=>ts.length
def iR:GC:=λts S Q=>match ts with
 |[x]=>∃ n,kA S x=some n/\Q (.int n) S
 |_=>False
theorem bC (hK:X.K=K):bw X (.builtin "len") (lC K iR):=by
 subst hK
 rintro pins s σ H xs us Q I r ⟨S,ts,Qt,sr,rs,hg,b⟩
 cases rs with
 |nil=>exact hg.elim
 |cons a l =>
  cases l with
  |cons _ _=>exact hg.elim
  |nil =>
   obtain ⟨n,e,q⟩:=hg
   rename_i t v
   have lists:(aS S t).map (λts=>(ts.length:Int))=some n->wpAny (model X.prog X.w) X.A (call (.builtin "len") us) (EP X pins σ Q) X.xe s:=by
    intro e3
    rw [Option.map_eq_some_iff] at e3
    obtain ⟨ts,e3,rfl⟩:=e3
    obtain ⟨p,vs,rfl,hq,rs⟩:=ce sr a e3
    exact oR pins s σ H _ us Q I r ⟨p,vs,rfl,.inl hq,by rw [rs.length];exact b _ H _ S .refl sr .int q⟩
   cases t with
   |str z =>
    cases a
    delta kA at e
    dsimp only at e
    split at e
    ·next hz=>cases e;exact wf pins s σ H _ us Q I r ⟨z,rfl,hz,b _ H _ S .refl sr .int q⟩
    ·cases e
   |tup ts =>
    cases a with
    |tup n' hp rs=>cases e;exact oR pins s σ H _ us Q I r ⟨_,_,rfl,.inr (SqT.of hp),by rw [rs.length];exact b _ H _ S .refl sr .int q⟩
   |_=>exact lists e
def tyT (S:Sto):T->Option Value
 |.non=>some (.type "NoneType")
 |.bl _=>some (.type "bool")
 |.int _=>some (.type "int")
 |.str _=>some (.type "str")
 |.tup _=>some (.type "tuple")
 |.lst _=>some (.type "list")
 |.ref a=>match S a with
  |some (.lst _)=>some (.type "list")
  |some (.dK _)=>some (.type "dict")
  |some (.dT _)=>some (.type "dict")
  |_=>none
 |_=>none
def vI (K:Fg):GC:=λts S Q=>match ts with
 |[x,.ty n]=>∃ t b,tyT S x=some t/\PySem.W.kitOne K t (.type n)=some b/\Q (.bl b) S
 |_=>False
theorem Cy {H S t v ty}(s:SRp K H S) (r:Rp K H S t v) (e:tyT S t=some ty):TyOf K H v ty:=by
 cases r with
 |non=>cases e;exact .non
 |bl=>cases e;exact .bl _
 |int=>cases e;exact .int _
 |str=>cases e;exact .str _
 |tup n h _=>cases e;exact .tup h
 |lst n h _=>cases e;exact .lst h
 |ty=>cases e
 |scr _=>cases e
 |ref =>
  rename_i a
  delta tyT at e
  dsimp only at e
  cases q:S a with
  |none=>rw [q] at e;cases e
  |some o =>
   rw [q] at e
   cases o with
   |lst us=>cases e;cases s a _ q with
    |lst h rs=>exact .lst h
   |dK us=>cases e;cases s a _ q with
    |dK h rs=>exact .dK h
   |dT us=>cases e;cases s a _ q with
    |dT h rs=>exact .dT h
   |fK _ _ _ _=>cases e
   |ins _ _=>cases e
   |exk _=>cases e
theorem nA (hK:X.K=K):bw X (.builtin "isinstance") (lC K (vI K)):=by
 subst hK
 rintro pins s σ H xs us Q I r ⟨S,ts,Qt,sr,rs,hg,b⟩
 cases rs with
 |nil=>exact hg.elim
 |cons a l =>
  cases l with
  |nil=>exact hg.elim
  |cons a2 l2 =>
   cases l2 with
   |cons _ _=>cases a2<;>exact hg.elim
   |nil =>
    cases a2<;>first|exact hg.elim|skip
    obtain ⟨t,k,e,hk,q⟩:=hg
    exact wu pins s σ H _ us Q I r ⟨_,_,t,k,rfl,⟨_,rfl,λz h=>h,hk⟩,Cy sr a e,b _ H _ S .refl sr .bl q⟩
def eX:List T->Option (List Int)
 |[]=>some []
 |.int i::ts=>(eX ts).map (i::·)
 |_=>none
theorem rl {i:Int}{ts:List T}:eX (.int i::ts)=(eX ts).map (i::·):=rfl
theorem rm {H S}:∀ {ts vs ns},Rps K H S ts vs->eX ts=some ns->vs=ns.map V.int
 |_,_,_,.nil,e=>by cases e;rfl
 |_,_,_,.cons a b,e=>by
  cases a<;>first|(cases e;done)|skip
  simp only [rl,Option.map_eq_some_iff] at e
  obtain ⟨ns,e,rfl⟩:=e
  rw [List.map_cons,<- rm b e]
def eE:List T->Option (List Bool)
 |[]=>some []
 |.bl i::ts=>(eE ts).map (i::·)
 |_=>none
theorem Cz {i:Bool}{ts:List T}:eE (.bl i::ts)=(eE ts).map (i::·):=rfl
theorem tf {H S}:∀ {ts vs ns},Rps K H S ts vs->eE ts=some ns->vs=ns.map V.bl
 |_,_,_,.nil,e=>by cases e;rfl
 |_,_,_,.cons a b,e=>by
  cases a<;>first|(cases e;done)|skip
  simp only [Cz,Option.map_eq_some_iff] at e
  obtain ⟨ns,e,rfl⟩:=e
  rw [List.map_cons,<- tf b e]
def eg:List T->Option (List Str)
 |[]=>some []
 |.str i::ts=>(eg ts).map (i::·)
 |_=>none
theorem rp {i:Str}{ts:List T}:eg (.str i::ts)=(eg ts).map (i::·):=rfl
theorem rq {H S}:∀ {ts vs ns},Rps K H S ts vs->eg ts=some ns->vs=ns.map V.str
 |_,_,_,.nil,e=>by cases e;rfl
 |_,_,_,.cons a b,e=>by
  cases a<;>first|(cases e;done)|skip
  simp only [rp,Option.map_eq_some_iff] at e
  obtain ⟨ns,e,rfl⟩:=e
  rw [List.map_cons,<- rq b e]
def vJ:GC:=λts S Q=>match ts with
 |[x]=>∃ us ns,aS S x=some us/\eX us=some ns/\ns≠[]/\∀ m,m∈ns->(∀ i∈ns,i<=m)->Q (.int m) S
 |_=>False
theorem EQ (hK:X.K=K) (hc:X.calm=true):bw X (.builtin "max") (lC K vJ):=by
 subst hK
 rintro pins s σ H xs us Q I r ⟨S,ts,Qt,sr,rs,hg,b⟩
 cases rs with
 |nil=>exact hg.elim
 |cons a l =>
  cases l with
  |cons _ _=>exact hg.elim
  |nil =>
   obtain ⟨ws,ns,e,en,h0,q⟩:=hg
   obtain ⟨p,vs,rfl,hq,rs⟩:=ce sr a e
   exact xj hc pins s σ H _ us Q I r ⟨p,ns,rfl,by rw [<- rm rs en];exact hq,h0,λm h1 h2=>b _ H _ S .refl sr .int (q m h1 h2)⟩
def vK:GC:=λts S Q=>match ts with
 |[x]=>∃ us bs,aS S x=some us/\eE us=some bs/\Q (.bl (bs.all id)) S
 |_=>False
theorem uE (hK:X.K=K) (hc:X.calm=true):bw X (.builtin "all") (lC K vK):=by
 subst hK
 rintro pins s σ H xs us Q I r ⟨S,ts,Qt,sr,rs,hg,b⟩
 cases rs with
 |nil=>exact hg.elim
 |cons a l =>
  cases l with
  |cons _ _=>exact hg.elim
  |nil =>
   obtain ⟨ws,ns,e,en,q⟩:=hg
   obtain ⟨p,vs,rfl,hq,rs⟩:=ce sr a e
   exact xm hc pins s σ H _ us Q I r ⟨p,ns,rfl,by rw [<- tf rs en];exact hq,b _ H _ S .refl sr .bl q⟩
def vL:GC:=λts S Q=>∃ i j,ts=[.int i,.int j]/\Q (.int (if j<i then j else i)) S
theorem ER (hc:X.calm=true):bw X (.builtin "min") (lC K vL):=by
 rintro pins s σ H xs us Q I r ⟨S,ts,Qt,sr,rs,⟨i,j,rfl,q⟩,b⟩
 cases rs with
 |cons a l =>
  cases l with
  |cons a2 l2 =>
   cases l2
   obtain rfl:=a.iint
   obtain rfl:=a2.iint
   exact w6 hc pins s σ H _ us Q I r ⟨_,_,rfl,b _ H _ S .refl sr .int q⟩
abbrev GM:=T->List T->Sto->(T->Sto->Prop)->Prop
def lM (K:Fg) (g:GM):V->List V->Hp->VK->Prop:=λx xs H Q=>∃ S t ts Qt,SRp K H S/\Rp K H S t x/\Rps K H S ts xs/\g t ts S Qt/\Bh K H S Qt Q
def tyM (ty:String) (S:Sto) (x:T):Prop:=match x with
 |.str _=>ty="str"
 |.lst _=>ty="list"
 |.ref a=>match S a with
  |some (.lst _)=>ty="list"
  |some (.dK _)=>ty="dict"
  |some (.dT _)=>ty="dict"
  |_=>False
 |_=>False
def wBM (ty:String) (g:GM) (wa:WE) (wr:WA):WE:=λσ S Q=>wa σ S λx S1=>tyM ty S1 x/\wr σ S1 λts S2=>g x ts S2 Q
theorem uF {H S t v ty}(s:SRp K H S) (r:Rp K H S t v) (h:tyM ty S t):tyV K ty v H:=by
 cases r with
 |str=>exact h
 |lst n hp _=>exact .inl ⟨h,_,SqL.of hp⟩
 |ref =>
  rename_i a
  delta tyM at h
  dsimp only at h
  cases q:S a with
  |none=>rw [q] at h;exact h.elim
  |some o =>
   rw [q] at h
   cases o with
   |lst us=>cases s a _ q with
    |lst hp _=>exact .inl ⟨h,_,SqL.of hp⟩
   |dK us=>cases s a _ q with
    |dK hp _=>exact .inr (.inr (.inl ⟨h,.inl ⟨_,hp⟩⟩))
   |dT us=>cases s a _ q with
    |dT hp _=>exact .inr (.inr (.inl ⟨h,.inr ⟨_,hp⟩⟩))
   |fK _ _ _ _=>exact h.elim
   |ins _ _=>exact h.elim
   |exk _=>exact h.elim
 |_=>exact h.elim
theorem CA {ty:String}{g:GM}{wa:WE}{wr:WA}{σ H Q}(h:lE K (wBM ty g wa wr) σ H Q):tBM K ty (lM K g) (lE K wa) (lA K wr) σ H Q:=by
 obtain ⟨S,σt,Qt,s,c,q,hq⟩:=h
 refine ⟨S,σt,_,s,c,q,λx H1 tx S1 f1 s1 r1 q1=>?_⟩
 refine ⟨uF s1 r1 q1.1,S1,σt,_,s1,c.fr f1,q1.2,λvs H2 ts S2 f2 s2 r2 q2=>?_⟩
 exact ⟨S2,tx,ts,Qt,s2,r1.fr f2,r2,q2,λv H' t S' f=>hq v H' t S' ((f1.trans f2).trans f)⟩
theorem Ag {ty:String}{g:GM}{wa:WE}{σ H Q}(h:lE K (wBM ty g wa b7) σ H Q):ki K ty (lM K g) (lE K wa) σ H Q:=by
 obtain ⟨S,σt,Qt,s,c,q,hq⟩:=h
 refine ⟨S,σt,_,s,c,q,λx H1 tx S1 f1 s1 r1 q1=>?_⟩
 exact ⟨uF s1 r1 q1.1,S1,tx,[],Qt,s1,r1,.nil,q1.2,λv H' t S' f=>hq v H' t S' (f1.trans f)⟩
theorem GO {ty:String}{g:GM}{wa:WE}{wr:WA}{e:Expr}(hp:PE X e (tBM K ty (lM K g) (lE K wa) (lA K wr))):QE K X e (wBM ty g wa wr):=PE.of hp λ_ _ _ h=>CA h
theorem ES {ty:String}{g:GM}{wa:WE}{e:Expr}(hp:PE X e (ki K ty (lM K g) (lE K wa))):QE K X e (wBM ty g wa b7):=PE.of hp λ_ _ _ h=>Ag h
def tj (tr:Bool):GM:=λx ts S Q=>match x,ts with
 |.str a,[.str c]=>c.length≠0/\a.length<=1000/\bi tr ((Txt.split a c).map T.str) S Q
 |_,_=>False
theorem rA (tr:Bool):MtR X "str.split" (lM K (tj tr)):=by
 rintro pins s σ H x vs v us Q I rx rv ⟨S,t,ts,Qt,sr,hx,rs,hg,b⟩
 cases hx<;>first|exact hg.elim|skip
 cases rs with
 |nil=>exact hg.elim
 |cons a l =>
  cases l with
  |cons _ _=>cases a<;>exact hg.elim
  |nil =>
   cases a<;>first|exact hg.elim|skip
   exact yk pins s σ H _ _ v us Q I rx rv ⟨_,_,rfl,rfl,hg.1,hg.2.1,jR sr Rps.strs hg.2.2 b⟩
def nB:GM:=λx ts S Q=>match x,ts with
 |.str a,[y]=>∃ us zs,aS S y=some us/\eg us=some zs/\JoinOk a zs=true/\Q (.str (Txt.join a zs)) S
 |_,_=>False
theorem mI (hK:X.K=K):MtR X "str.join" (lM K nB):=by
 subst hK
 rintro pins s σ H x vs v us Q I rx rv ⟨S,t,ts,Qt,sr,hx,rs,hg,b⟩
 cases hx<;>first|exact hg.elim|skip
 cases rs with
 |nil=>exact hg.elim
 |cons a l =>
  cases l with
  |cons _ _=>exact hg.elim
  |nil =>
   obtain ⟨ws,zs,e,en,hj,q⟩:=hg
   obtain ⟨p,ys,rfl,hq,rs⟩:=ce sr a e
   exact z0 pins s σ H _ _ v us Q I rx rv ⟨_,p,zs,rfl,rfl,by rw [<- rq rs en];exact hq,hj,b _ H _ S .refl sr .str q⟩
def rB:GM:=λx ts S Q=>match x,ts with
 |.str a,[.str c]=>Q (.bl (Txt.startswith a c)) S
 |_,_=>False
theorem yz:MtR X "str.startswith" (lM K rB):=by
 rintro pins s σ H x vs v us Q I rx rv ⟨S,t,ts,Qt,sr,hx,rs,hg,b⟩
 cases hx<;>first|exact hg.elim|skip
 cases rs with
 |nil=>exact hg.elim
 |cons a l =>
  cases l with
  |cons _ _=>cases a<;>exact hg.elim
  |nil =>
   cases a<;>first|exact hg.elim|skip
   exact v5 pins s σ H _ _ v us Q I rx rv ⟨_,_,rfl,rfl,b _ H _ S .refl sr .bl hg⟩
theorem jS {H S}{a:Addr}{ts:List T}(s:SRp K H S) (e:S a=some (.lst ts)):∃ vs,H a=some (.lst vs)/\Rps K H S ts vs:=by
 cases s a _ e with
 |lst h r=>exact ⟨_,h,r⟩
theorem k9 {H S}{a:Addr}{ts us:List T}{ws:List V}{Qt:T->Sto->Prop}{Q:VK}{t:T}{v:V}(s:SRp K H S) (e:S a=some (.lst ts)) (r:Rps K H S us ws) (b:Bh K H S Qt Q) (rt:Rp K H S t v) (q:Qt t (put S a (.lst us))):Q v (upd H a (.lst ws)):=by
 have hn:S a≠none:=by rw [e];simp
 exact b _ _ t _ (Fr.write hn) (s.write hn (.lst aF (r.fr (Fr.write hn)))) (rt.fr (Fr.write hn)) q
def rD:GM:=λx ts S Q=>match x,ts with
 |.ref a,[y]=>∃ us,S a=some (.lst us)/\us.length<sizeLine/\Q .non (put S a (.lst (us++[y])))
 |_,_=>False
theorem lj:MtR X "list.append" (lM K rD):=by
 rintro pins s σ H x vs v us Q I rx rv ⟨S,t,ts,Qt,sr,hx,rs,hg,b⟩
 cases hx<;>first|exact hg.elim|skip
 cases rs with
 |nil=>exact hg.elim
 |cons a l =>
  cases l with
  |cons _ _=>exact hg.elim
  |nil =>
   obtain ⟨ws,e,hl,q⟩:=hg
   obtain ⟨ys,hy,ry⟩:=jS sr e
   exact pS pins s σ H _ _ v us Q I rx rv ⟨_,ys,_,rfl,rfl,hy,by rw [ry.length];exact hl,k9 sr e (ry.append (.cons a .nil)) b .non q⟩
def vM:GM:=λx ts S Q=>match x,ts with
 |.ref a,[]=>∃ us y,S a=some (.lst us)/\us[us.length - 1]?=some y/\Q y (put S a (.lst us.dropLast))
 |_,_=>False
theorem Rps.dropLast {H S}{ts vs}(r:Rps K H S ts vs):Rps K H S ts.dropLast vs.dropLast:=by
 rw [List.dropLast_eq_take,List.dropLast_eq_take,r.length];exact r.take _
theorem ET:MtR X "list.pop" (lM K vM):=by
 rintro pins s σ H x vs v us Q I rx rv ⟨S,t,ts,Qt,sr,hx,rs,hg,b⟩
 cases hx<;>first|exact hg.elim|skip
 cases rs with
 |cons a l=>exact hg.elim
 |nil =>
  obtain ⟨ws,y,e,hl,q⟩:=hg
  obtain ⟨ys,hy,ry⟩:=jS sr e
  obtain ⟨z,hz,rz⟩:=ry.get hl
  exact Cd pins s σ H _ _ v us Q I rx rv ⟨_,ys,z,rfl,rfl,hy,by rw [ry.length];exact hz,k9 sr e ry.dropLast b rz q⟩
def rE:GM:=λx ts S Q=>match x,ts with
 |.ref a,[.int i,y]=>∃ us,S a=some (.lst us)/\us.length<sizeLine/\0<=i/\i<2 ^ 62/\Q .non (put S a (.lst (us.take i.toNat++y::us.drop i.toNat)))
 |_,_=>False
theorem yA:MtR X "list.insert" (lM K rE):=by
 rintro pins s σ H x vs v us Q I rx rv ⟨S,t,ts,Qt,sr,hx,rs,hg,b⟩
 cases hx<;>first|exact hg.elim|skip
 cases rs with
 |nil=>exact hg.elim
 |cons a l =>
  cases l with
  |nil=>cases a<;>exact hg.elim
  |cons a2 l2 =>
   cases l2 with
   |cons _ _=>cases a<;>exact hg.elim
   |nil =>
    cases a<;>first|exact hg.elim|skip
    obtain ⟨ws,e,hl,h0,h1,q⟩:=hg
    obtain ⟨ys,hy,ry⟩:=jS sr e
    exact xx pins s σ H _ _ v us Q I rx rv ⟨_,ys,_,_,rfl,rfl,hy,by rw [ry.length];exact hl,h0,h1,k9 sr e ((ry.take _).append (.cons a2 (ry.drop _))) b .non q⟩
abbrev GS:=T->T->T->Sto->(Sto->Prop)->Prop
def iS (K:Fg) (g:GS):kg:=λo i v H Q=>∃ S to ti tv Qt,SRp K H S/\Rp K H S to o/\Rp K H S ti i/\Rp K H S tv v/\g to ti tv S Qt/\∀ H' S',Fr H S H' S'->SRp K H' S'->Qt S'->Q H'
def EU:GS:=λo i v S Q=>match o,i with
 |.ref a,.int k=>∃ us j,S a=some (.lst us)/\ixN us.length k=some j/\Q (put S a (.lst (us.set j v)))
 |_,_=>False
theorem CB:e9 X (iS K EU):=by
 rintro pins s σ H o i v ov iv u Q I ro ri rv ⟨S,to,ti,tv,Qt,sr,hO,hI,hV,hg,b⟩
 cases hO<;>first|exact hg.elim|skip
 cases hI<;>first|exact hg.elim|skip
 rename_i a k
 obtain ⟨us,j,e,hj,q⟩:=hg
 obtain ⟨ys,hy,ry⟩:=jS sr e
 have hn:S a≠none:=by rw [e];simp
 exact ye pins s σ H _ _ _ ov iv u Q I ro ri rv ⟨_,ys,_,j,rfl,rfl,hy,by rw [ry.length];exact hj,b _ _ (Fr.write hn) (sr.write hn (.lst aF ((Rps.set hV j ry).fr (Fr.write hn)))) q⟩
def nC (k:Nat):GS:=λo i v S Q=>match o,i with
 |.ref a,.int j=>j=k/\∃ us,S a=some (.lst us)/\k<us.length/\Q (put S a (.lst (us.set k v)))
 |_,_=>False
theorem jT (k:Nat):e9 X (iS K (nC k)):=by
 rintro pins s σ H o i v ov iv u Q I ro ri rv ⟨S,to,ti,tv,Qt,sr,hO,hI,hV,hg,b⟩
 refine CB pins s σ H o i v ov iv u Q I ro ri rv ⟨S,to,ti,tv,Qt,sr,hO,hI,hV,?_,b⟩
 cases hO<;>first|exact hg.elim|skip
 cases hI<;>first|exact hg.elim|skip
 obtain ⟨rfl,us,e,hk,q⟩:=hg
 refine ⟨us,k,e,?_,q⟩
 unfold ixN
 rw [if_pos (by omega),if_pos (by omega)]
 rfl
def wgS (wo wi:WE) (g:GS):WG:=λt σ S Q=>wo σ S λo S1=>wi σ S1 λi S2=>g o i t S2 λS3=>Q σ S3
theorem CC {o i:Expr}{wo wi:WE}{g:GS}{pos:Pos}(h:PG X (.Subscript o i pos) (L2.gS (lE K wo) (lE K wi) (iS K g))):QG K X (.Subscript o i pos) (wgS wo wi g):=PG.of h λv σ H Q zz93=>by
 obtain ⟨S,t,σt,Qt,s,r,c,q,hq⟩:=zz93
 refine ⟨S,σt,_,s,c,q,λx H1 tx S1 f1 s1 r1 q1=>?_⟩
 refine ⟨S1,σt,_,s1,c.fr f1,q1,λy H2 ty S2 f2 s2 r2 q2=>?_⟩
 exact ⟨S2,tx,ty,t,_,s2,r1.fr f2,r2,(r.fr f1).fr f2,q2,λH' S' f s' q'=>hq σ H' σt S' ((f1.trans f2).trans f) s' (c.fr ((f1.trans f2).trans f)) q'⟩
end
theorem pE {t:WT}{wb:WS}{D:EndsT}{σ:StT}{S:Sto}(Iv Po:StT->Sto->Prop) (μ:StT->Sto->Nat) (h0:Iv σ S)
  (step:∀ σ S (N X:StT->Sto->Prop),Iv σ S->(∀ σ' S',Iv σ' S'->μ σ' S'<μ σ S->N σ' S')->(∀ σ' S',Po σ' S'->X σ' S')->t σ S λb S1=>if b=true then wb { nx:=N,rt:=D.rt,bk:=X,ct:=N } σ S1 else X σ S1)
  (out:∀ σ S,Po σ S->D.nx σ S):mH t wb D σ S:=by
 have main:∀ n σ S,Iv σ S->μ σ S<n->whT t wb D n σ S:=by
  intro n
  induction n with
  |zero=>intro σ S _ h;omega
  |succ n ih=>intro σ S iv h;exact step σ S _ _ iv (λσ' S' iv' lt=>ih σ' S' iv' (by omega)) out
 exact ⟨_,main _ σ S h0 (Nat.lt_succ_self _)⟩
theorem c9 {w u:WS}{D:EndsT}{σ:StT}{S:Sto}(M:StT->Sto->Prop) (h1:∀ X:StT->Sto->Prop,(∀ σ S,M σ S->X σ S)->w { D with nx:=X } σ S) (h2:∀ σ S,M σ S->u D σ S):nU w u D σ S:=h1 _ h2
theorem qy {grd:Sto->Prop}{g:WG}{wb:WS}{D:EndsT}{items:List T}{σ:StT}{S:Sto}(Iv:List T->StT->Sto->Prop) (h0:Iv items σ S)
  (step:∀ t ts σ S (N:StT->Sto->Prop),Iv (t::ts) σ S->(∀ σ' S',Iv ts σ' S'->N σ' S')->grd S/\g t σ S λσ2 S2=>wb { nx:=N,rt:=D.rt,bk:=D.nx,ct:=N } σ2 S2)
  (done:∀ σ S,Iv [] σ S->grd S/\D.nx σ S):df grd g wb D items σ S:=by
 induction items generalizing σ S with
 |nil=>exact done σ S h0
 |cons t ts ih=>exact step t ts σ S _ h0 λσ' S' iv=>ih iv
theorem ma {α:Type}{grd:Sto->Prop}{g:WG}{wb:WS}{D:EndsT}{f:α->T}{ls:List α}{σ:StT}{S:Sto}(Iv:List α->StT->Sto->Prop) (h0:Iv ls σ S)
  (step:∀ a r σ S (N:StT->Sto->Prop),Iv (a::r) σ S->(∀ σ' S',Iv r σ' S'->N σ' S')->grd S/\g (f a) σ S λσ2 S2=>wb { nx:=N,rt:=D.rt,bk:=D.nx,ct:=N } σ2 S2)
  (done:∀ σ S,Iv [] σ S->grd S/\D.nx σ S):df grd g wb D (ls.map f) σ S:=by
 induction ls generalizing σ S with
 |nil=>exact done σ S h0
 |cons a r ih=>exact step a r σ S _ h0 λσ' S' iv=>ih iv
theorem kT {grd:Sto->Prop}{g:WG}{wb:WS}{D:EndsT}{lo:Int}{n:Nat}{σ:StT}{S:Sto}(Iv:Nat->StT->Sto->Prop) (h0:Iv 0 σ S)
  (step:∀ k σ S (N:StT->Sto->Prop),k<n->Iv k σ S->(∀ σ' S',Iv (k+1) σ' S'->N σ' S')->grd S/\g (.int (lo+k)) σ S λσ2 S2=>wb { nx:=N,rt:=D.rt,bk:=D.nx,ct:=N } σ2 S2)
  (done:∀ σ S,Iv n σ S->grd S/\D.nx σ S):df grd g wb D (bM lo n) σ S:=by
 unfold bM
 have main:∀ (m k:Nat) σ S,k+m=n->Iv k σ S->df grd g wb D ((List.range' k m).map λ(i:Nat)=>T.int (lo+i)) σ S:=by
  intro m
  induction m with
  |zero=>intro k σ S e iv;rw [show k=n by omega] at iv;exact done σ S iv
  |succ m ih =>
   intro k σ S e iv
   rw [List.range'_succ,List.map_cons]
   exact step k σ S _ (by omega) iv λσ' S' iv'=>ih (k+1) σ' S' (by omega) iv'
 rw [List.range_eq_range']
 exact main n 0 σ S (by omega) h0
theorem jp {grd:Sto->Prop}{g:WG}{tt:WT}{te:WE}{Q:List T->Sto->Prop}{items acc:List T}{σ:StT}{S:Sto}(Iv:List T->List T->StT->Sto->Prop) (h0:Iv items acc σ S)
  (step:∀ t ts acc σ S (N:List T->StT->Sto->Prop),Iv (t::ts) acc σ S->(∀ acc' σ' S',Iv ts acc' σ' S'->N acc' σ' S') ->
   grd S/\g t σ S λσ2 S2=>tt σ2 S2 λb S3=>if b=true then te σ2 S3 λy S4=>acc.length<sizeLine/\N (acc++[y]) σ2 S4 else N acc σ2 S3)
  (done:∀ acc σ S,Iv [] acc σ S->grd S/\Q acc S):dM grd g tt te Q items acc σ S:=by
 induction items generalizing acc σ S with
 |nil=>exact done acc σ S h0
 |cons t ts ih=>exact step t ts acc σ S _ h0 λacc' σ' S' iv=>ih iv
theorem gc {α:Type}{grd:Sto->Prop}{g:WG}{tt:WT}{te:WE}{Q:List T->Sto->Prop}(f:α->T) (φ:α->Option T) (cs:StT){ls:List α}{S:Sto}(hg:grd S) (hz:ls.length<=sizeLine)
  (step:∀ a∈ls,∀ (u:Option T) (acc:List T) (N:List T->StT->Sto->Prop),acc.length<sizeLine->(∀ u',N (acc++(φ a).toList) (u'::cs) S) ->
   g (f a) (u::cs) S λσ2 S2=>tt σ2 S2 λb S3=>if b=true then te σ2 S3 λy S4=>acc.length<sizeLine/\N (acc++[y]) σ2 S4 else N acc σ2 S3)
  (done:Q (ls.filterMap φ) S):dM grd g tt te Q (ls.map f) [] (none::cs) S:=by
 refine jp (λitems acc σ' S'=>∃ pre suf u,ls=pre++suf/\items=suf.map f/\acc=pre.filterMap φ/\σ'=u::cs/\S'=S) ⟨[],ls,none,rfl,rfl,rfl,rfl,rfl⟩ ?_ ?_
 ·rintro t ts acc σ' S' N ⟨pre,suf,u,e,e2,rfl,rfl,rfl⟩ hN
  cases suf with
  |nil=>cases e2
  |cons a r =>
   simp only [List.map_cons,List.cons.injEq] at e2
   obtain ⟨rfl,rfl⟩:=e2
   refine ⟨hg,step a (by rw [e];simp) u _ N ?_ λu'=>hN _ _ _ ⟨pre++[a],r,u',by rw [e];simp,rfl,?_,rfl,rfl⟩⟩
   ·have h1:=List.length_filterMap_le φ pre
    have h2:=congrArg List.length e
    simp only [List.length_append,List.length_cons] at h2
    omega
   ·rw [List.filterMap_append];cases h:φ a<;>simp [h]
 ·rintro acc σ' S' ⟨pre,suf,u,e,e2,rfl,rfl,rfl⟩
  cases suf with
  |nil=>rw [List.append_nil] at e;subst e;exact ⟨hg,done⟩
  |cons a r=>cases e2
section
variable {σ:StT}{S S0:Sto}{D:EndsT}{Q:T->Sto->Prop}{B:Bool->Sto->Prop}{L:List T->Sto->Prop}{t x y z:T}{p:Addr}
theorem EV {w u:WS}(h:w { D with nx:=u D } σ S):nU w u D σ S:=h
theorem CD (h:D.nx σ S):uv D σ S:=h
theorem CF {w:WE}(h:w σ S λ_ S1=>D.nx σ S1):uw w D σ S:=h
theorem EW {w:WE}(h:w σ S D.rt):vx w D σ S:=h
theorem EX {t:WT}{w u:WS}(h:t σ S λb S1=>if b=true then w D σ S1 else u D σ S1):vy t w u D σ S:=h
theorem EY {w:WE}{g:WG}(h:w σ S λt S1=>g t σ S1 D.nx):iP w g D σ S:=h
theorem nD {i:Nat}{σ2:StT}{Q:StT->Sto->Prop}(e:σ.set i (some t)=σ2) (h:Q σ2 S):wgN i t σ S Q:=by subst e;exact h
theorem GP {wo wi:WE}{g:GS}{Q:StT->Sto->Prop}(h:wo σ S λo S1=>wi σ S1 λi S2=>g o i t S2 λS3=>Q σ S3):wgS wo wi g t σ S Q:=h
theorem GQ {n:Nat}{g:WGs}{ts:List T}{Q:StT->Sto->Prop}(l:ts.length=n) (h:g ts σ S Q):uB n g (.tup ts) σ S Q:=⟨ts,rfl,l,h⟩
theorem Ah {g:WG}{h:WGs}{ts:List T}{Q:StT->Sto->Prop}(q:g t σ S λσ' S'=>h ts σ' S' Q):sU g h (t::ts) σ S Q:=⟨t,ts,rfl,q⟩
theorem CG {Q:StT->Sto->Prop}(q:Q σ S):uA [] σ S Q:=⟨rfl,q⟩
theorem EZ {wi:WI}{g:WG}{wb:WS}(h:wi σ S λsrc S1=>df src.grd g wb D src.items σ S1):nX wi g wb D σ S:=h
theorem i_V {i:Nat}(e:σ[i]?=some (some t)) (h:Q t S):wV i σ S Q:=⟨t,e,h⟩
theorem i_C (h:Q t S):wC t σ S Q:=h
theorem i_2 {g:G2}{wa wb:WE}(h:wa σ S λx S1=>wb σ S1 λy S2=>g x y S2 Q):w2 g wa wb σ S Q:=h
theorem i_B {w:WE}(h:w σ S λx S1=>∃ k,x=.bl k/\B k S1):wB w σ S B:=h
theorem GR {k:Bool}{C:Bool->Prop}(h:C k):∃ k',T.bl k=.bl k'/\C k':=⟨k,rfl,h⟩
theorem Ai {g g':G2}{wa wb wc:WE}(h:wa σ S λx S1=>wb σ S1 λy S2=>g x y S2 λz S3=>∃ k,z=.bl k/\if k=true then wc σ S3 λu S4=>g' y u S4 Q else Q (.bl false) S3):mG g g' wa wb wc σ S Q:=h
theorem E1 {t u:WT}(h:t σ S λc S1=>if c=true then u σ S1 B else B false S1):vo t u σ S B:=h
theorem GT {t u:WT}(h:t σ S λc S1=>if c=true then B true S1 else u σ S1 B):wOr t u σ S B:=h
theorem E2 {t:WT}(h:t σ S λc S1=>B (!c) S1):vp t σ S B:=h
theorem CH (h:B true S):uD σ S B:=h
theorem CI {wa wb:WE}(h:wa σ S λx S1=>∃ k,x=.bl k/\if k=true then wb σ S1 Q else Q (.bl false) S1):uq wa wb σ S Q:=h
theorem CJ {wa:WE}(h:wa σ S λx S1=>∃ k,x=.bl k/\Q (.bl (!k)) S1):ur wa σ S Q:=h
theorem GU {t:WT}{wa wb:WE}(h:t σ S λc S1=>if c=true then wa σ S1 Q else wb σ S1 Q):wIf t wa wb σ S Q:=h
theorem E3 (h:L [] S):b7 σ S L:=h
theorem CK {wa:WE}{wr:WA}(h:wa σ S λx S1=>wr σ S1 λxs S2=>L (x::xs) S2):ut wa wr σ S L:=h
theorem E4 {wr:WA}(h:wr σ S λts S1=>ts.length<=sizeLine/\Q (.tup ts) S1):vt wr σ S Q:=h
theorem E5 {wr:WA}(h:wr σ S λts S1=>ts.length<=sizeLine/\Q (.lst ts) S1):vw wr σ S Q:=h
theorem CL {wr:WA}(h:wr σ S λts S1=>ts.length<=sizeLine/\∀ p,S1 p=none->Q (.ref p) (put S1 p (.lst ts))):uu wr σ S Q:=h
theorem CM {w:WSp}{dts:List T}{wr:WA}(h:wr σ S λts S1=>w (ts++dts) S1 Q):eW w dts wr σ S Q:=h
theorem GV {g:GC}{wr:WA}(h:wr σ S λts S1=>g ts S1 Q):wCB g wr σ S Q:=h
theorem GW {ty:String}{g:GM}{wa:WE}{wr:WA}(h:wa σ S λx S1=>tyM ty S1 x/\wr σ S1 λts S2=>g x ts S2 Q):wBM ty g wa wr σ S Q:=h
theorem E6 {wa:WE}(h:wa σ S λx S1=>match x with|.int i=>Q (.int (-i)) S1|_=>False):vG wa σ S Q:=h
theorem GY {tr:Bool}{wa:WE}{wl wh:WO}(h:wa σ S λx S1=>wl σ S1 λl S2=>wh σ S2 λh S3=>gSl tr x l h S3 Q):wSl tr wa wl wh σ S Q:=h
theorem GZ {O':Option Int->Sto->Prop}(h:O' none S):woN σ S O':=h
theorem G0 {wa:WE}{O':Option Int->Sto->Prop}(h:wa σ S λx S1=>match x with|.int i=>O' (some i) S1|_=>False):woS wa σ S O':=h
theorem CN {tr:Bool}{wi:WI}{n:Nat}{caps:List Nat}{g:WG}{tt:WT}{te:WE}(h:wi σ S λsrc S1=>dM src.grd g tt te (λts S2=>bi tr ts S2 Q) src.items [] (gu n caps σ) S1):j9 tr wi n caps g tt te σ S Q:=h
theorem CO {ts:List T}(h:Q (.lst ts) S):bi false ts S Q:=h
variable {R:Src->Sto->Prop}
theorem G6 {wa:WE}(h:wa σ S λx S1=>∃ ts,aS S1 x=some ts/\R ⟨ts,eP x ts⟩ S1):wiL wa σ S R:=h
theorem E7 {wa:WE}(h:wa σ S λx S1=>match x with|.int j=>-(2 ^ 62)<=j/\j<2 ^ 62/\R ⟨bM 0 j.toNat,λ_=>True⟩ S1|_=>False):vH wa σ S R:=h
theorem G7 {wa:WE}(h:wa σ S λx S1=>match x with|.str z=>R ⟨ix z,λ_=>True⟩ S1|_=>False):wiS wa σ S R:=h
variable {i j:Int}{a c:Str}{ts us:List T}
theorem E8 (h:Q (.int (i - j)) S):gS (.int i) (.int j) S Q:=⟨trivial,h⟩
theorem E9 (h0:0<j) (h1:j<18446744073709551616) (h:Q (.int (i / j)) S):vA (.int i) (.int j) S Q:=⟨⟨h0,h1⟩,h⟩
theorem Fa (h0:0<j) (h:Q (.int (i % j)) S):vB (.int i) (.int j) S Q:=⟨h0,h⟩
theorem Fc (h0:0<=j) (h1:j<=1000000) (h2:i.natAbs<2 ^ 64) (h:Q (.int (i ^ j.toNat)) S):vC (.int i) (.int j) S Q:=⟨⟨h0,h1,h2⟩,h⟩
theorem Fe (h0:0<=j) (h:Q (.int (i / 2 ^ j.toNat)) S):vD (.int i) (.int j) S Q:=⟨h0,h⟩
theorem CP {tr:Bool}(h:Q (.int (i+j)) S):kx tr (.int i) (.int j) S Q:=h
theorem CQ {tr:Bool}(h0:a.length+c.length<=sizeLine) (h:Q (.str (a++c)) S):kx tr (.str a) (.str c) S Q:=⟨h0,h⟩
theorem tm {tr:Bool}(e1:cG S x=some ts) (e2:cG S y=some us) (hz:ts.length+us.length<=sizeLine) (h:bi tr (ts++us) S Q):kx tr x y S Q:=by
 cases x<;>first|(cases e1;done)|exact ⟨ts,us,e1,e2,hz,h⟩
theorem CS {tr:Bool}(h0:iN i j) (h:Q (.int (i * j)) S):vE tr (.int i) (.int j) S Q:=⟨h0,h⟩
theorem Ff {n:Bool}(h:Q (.bl (n ^^ decide (i=j))) S):gEq n (.int i) (.int j) S Q:=h
theorem Fh {n:Bool}(h:Q (.bl (n ^^ decide (a=c))) S):gEq n (.str a) (.str c) S Q:=h
theorem Fi {n k l:Bool}(h:Q (.bl (n ^^ decide (k=l))) S):gEq n (.bl k) (.bl l) S Q:=h
theorem Fj (h:Q (.bl (decide (i<j))) S):gLt (.int i) (.int j) S Q:=h
theorem Fk (h:Q (.bl (decide (i<=j))) S):gLe (.int i) (.int j) S Q:=h
theorem Fl (h:Q (.bl (decide (j<i))) S):gGt (.int i) (.int j) S Q:=h
theorem Fm (h:Q (.bl (!ltS c a)) S):gLe (.str a) (.str c) S Q:=h
theorem G8 {n:Bool}(h:Q (.bl (n ^^ isN x)) S):gIs n x .non S Q:=h
theorem uG (e:atI ts i=some t) (h:Q t S):gIx (.tup ts) (.int i) S Q:=⟨t,e,h⟩
theorem uH (e:atI ts i=some t) (h:Q t S):gIx (.lst ts) (.int i) S Q:=⟨t,e,h⟩
theorem uI (e:S p=some (.lst ts)) (e2:atI ts i=some t) (h:Q t S):gIx (.ref p) (.int i) S Q:=⟨t,(sX e).trans e2,h⟩
theorem Fn {d:Nat}(hz:a.length<=sizeLine) (e:atI a.cps.toList i=some d) (h:Q (.str ⟨#[d]⟩) S):gIx (.str a) (.int i) S Q:=⟨_,by show (if _ then _ else _)=_;rw [if_pos hz,e];rfl,h⟩
theorem Fo {tr:Bool}{lo hi:Option Int}(hz:a.length<=sizeLine) (h:Q (.str (Txt.slice a lo hi)) S):gSl tr (.str a) lo hi S Q:=⟨hz,h⟩
theorem uJ {tr:Bool}{lo hi:Option Int}(h:bi tr (eD ts lo hi) S Q):gSl tr (.lst ts) lo hi S Q:=⟨ts,rfl,h⟩
theorem Fq {tr:Bool}{lo hi:Option Int}{ns:List Int}(h:bi tr (eD (ns.map T.int) lo hi) S Q):gSl tr (.scr ns) lo hi S Q:=⟨_,rfl,h⟩
theorem iz {α:Type}{ls:List α}(h0:0<=i) (h1:i<ls.length):∃ z,atI ls i=some z/\z∈ls:=by
 have hj:i.toNat<ls.length:=by omega
 refine ⟨ls[i.toNat],?_,List.getElem_mem hj⟩
 have e:((i.toNat:Nat):Int)=i:=by omega
 have:=zP (xs:=ls) (j:=i.toNat) (v:=ls[i.toNat]) (by simp [hj])
 rw [e] at this
 exact this
theorem rF {α β:Type}{ls:List α}(f:α->β):atI (ls.map f) i=(atI ls i).map f:=by
 unfold atI
 rw [List.length_map]
 cases ixN ls.length i with
 |none=>rfl
 |some j=>simp [List.getElem?_map]
theorem yB {α:Type}{a:α}{l:List α}:atI (a::l) 0=some a:=by
 unfold atI ixN
 rw [if_pos (Int.le_refl 0),if_pos (by simp only [List.length_cons];omega)]
 rfl
theorem CT (h:Q x S):gIx (.lst (x::ts)) (.int 0) S Q:=⟨x,yB,h⟩
theorem eY (P:T->Prop) (h0:0<=i) (h1:i<ts.length) (hp:∀ t∈ts,P t) (h:∀ t,P t->Q t S):gIx (.lst ts) (.int i) S Q:=by
 obtain ⟨z,e,hz⟩:=iz h0 h1
 exact ⟨z,by simp only [sY,e],h z (hp z hz)⟩
theorem Fs {α:Type}{f:α->T}{ls:List α}(h0:0<=i) (h1:i<ls.length) (h:∀ z,z∈ls->atI ls i=some z->Q (f z) S):gIx (.lst (ls.map f)) (.int i) S Q:=by
 obtain ⟨z,e,hz⟩:=iz h0 h1
 exact ⟨f z,by simp only [sY,rF,e,Option.map_some],h z hz e⟩
theorem CU {α:Type}{f:α->T}{ls:List α}(e:S p=some (.lst (ls.map f))) (h0:0<=i) (h1:i<ls.length) (h:∀ z,z∈ls->atI ls i=some z->Q (f z) S):gIx (.ref p) (.int i) S Q:=by
 obtain ⟨z,e',hz⟩:=iz h0 h1
 exact ⟨f z,by simp only [sX e,rF,e',Option.map_some],h z hz e'⟩
theorem Aj {Q:Sto->Prop}{k:Nat}(e0:i=k) (hk:k<ts.length) (e:ts.set k t=us) (h:Q (put S p (.lst us))):nC k (.ref p) (.int i) t (put S p (.lst ts)) Q:=⟨e0,ts,aC,hk,by rw [cg,e];exact h⟩
theorem CV {Q:Sto->Prop}{k:Nat}(e1:S p=some (.lst ts)) (e0:i=k) (hk:k<ts.length) (e:ts.set k t=us) (h:Q (put S p (.lst us))):nC k (.ref p) (.int i) t S Q:=⟨e0,ts,e1,hk,by rw [e];exact h⟩
theorem Ft {n:Bool}(f:bS x=true) (f2:ts.all bS=true) (h:Q (.bl (n ^^ ts.any λy=>eqF y x)) S):gIn n x (.tup ts) S Q:=.inr (.inl ⟨ts,rfl,f,f2,h⟩)
theorem Fu {n:Bool}(e:S p=some (.lst ts)) (f:bS x=true) (f2:ts.all bS=true) (h:Q (.bl (n ^^ ts.any λy=>eqF y x)) S):gIn n x (.ref p) S Q:=.inr (.inr ⟨ts,iw e,f,f2,h⟩)
theorem tq (hz:a.length<=sizeLine) (h:Q (.int a.length) S):iR [.str a] S Q:=⟨_,if_pos hz,h⟩
theorem rG (e:S p=some (.lst ts)):kA S (.ref p)=some (ts.length:Int):=by
 show (aS S (.ref p)).map (λts=>(ts.length:Int))=_
 rw [iw e];rfl
theorem Ak:kA S (.lst ts)=some (ts.length:Int):=rfl
theorem CW {α:Type}{f:α->T}{ls:List α}(h:Q (.int ls.length) S):iR [.lst (ls.map f)] S Q:=⟨_,by rw [Ak,List.length_map],h⟩
theorem CY (e:S p=some (.lst ts)) (h:Q (.int ts.length) S):iR [.ref p] S Q:=⟨_,by simp only [rG e],h⟩
theorem dN {K:Fg}{n:String}{v:Value}{b:Bool}(e:tyT S x=some v) (k:PySem.W.kitOne K v (.type n)=some b) (h:Q (.bl b) S):vI K [x,.ty n] S Q:=⟨v,b,e,k,h⟩
theorem Fv (h:Q (.int (if j<i then j else i)) S):vL [.int i,.int j] S Q:=⟨_,_,rfl,h⟩
theorem CZ {ns:List Int}(e:eX ts=some ns) (h0:ns≠[]) (h:∀ m,m∈ns->(∀ i∈ns,i<=m)->Q (.int m) S):vJ [.lst ts] S Q:=⟨ts,ns,rfl,e,h0,h⟩
theorem tw {bs:List Bool}(e:eE ts=some bs) (h:Q (.bl (bs.all id)) S):vK [.lst ts] S Q:=⟨ts,bs,rfl,e,h⟩
theorem Al {tr:Bool}(h0:c.length≠0) (h1:a.length<=1000) (h:bi tr ((Txt.split a c).map T.str) S Q):tj tr (.str a) [.str c] S Q:=⟨h0,h1,h⟩
theorem Am {zs:List Str}(e:eg ts=some zs) (h0:JoinOk a zs=true) (h:Q (.str (Txt.join a zs)) S):nB (.str a) [.lst ts] S Q:=⟨ts,zs,rfl,e,h0,h⟩
theorem rH {zs:List Str}(e0:S p=some (.lst ts)) (e:eg ts=some zs) (h0:JoinOk a zs=true) (h:Q (.str (Txt.join a zs)) S):nB (.str a) [.ref p] S Q:=⟨ts,zs,iw e0,e,h0,h⟩
theorem yC (h:Q (.bl (Txt.startswith a c)) S):rB (.str a) [.str c] S Q:=h
theorem ln (e:S p=some (.lst ts)) (h0:ts.length<sizeLine) (h:Q .non (put S p (.lst (ts++[y])))):rD (.ref p) [y] S Q:=⟨ts,e,h0,h⟩
theorem yD (e:S p=some (.lst ts)) (h0:ts.length<sizeLine) (h1:0<=i) (h2:i<2 ^ 62) (h:Q .non (put S p (.lst (ts.take i.toNat++y::ts.drop i.toNat)))):rE (.ref p) [.int i,y] S Q:=⟨ts,e,h0,h1,h2,h⟩
theorem Fy (e:S p=some (.lst ts)) (h1:ts[ts.length - 1]?=some y) (h:Q y (put S p (.lst ts.dropLast))):vM (.ref p) [] S Q:=⟨ts,y,e,h1,h⟩
theorem Fz {Q:Prop}(h:Q):tyM "str" S (.str a)/\Q:=⟨rfl,h⟩
theorem FA {Q:Prop}(e:S p=some (.lst ts)) (h:Q):tyM "list" S (.ref p)/\Q:=⟨by delta tyM;dsimp only;rw [e],h⟩
theorem FB {A:List T->Prop}(h:A ts):∃ us,aS S (.lst ts)=some us/\A us:=⟨ts,rfl,h⟩
theorem G9 {ts:List T}{n:Nat}{Q:Prop}(e:ts.length<=sizeLine) (h:Q):ts.length<=sizeLine/\Q:=⟨e,h⟩
theorem C0 (hz:a.length<=sizeLine) (h0:0<=i) (h1:i<a.length) (h:∀ d,d∈a.cps.toList->atI a.cps.toList i=some d->Q (.str ⟨#[d]⟩) S):gIx (.str a) (.int i) S Q:=by
 obtain ⟨d,e,hd⟩:=iz (ls:=a.cps.toList) h0 (by simpa [Str.length] using h1)
 exact Fn hz e (h d hd e)
theorem An {α:Type}{f:α->T}{ls:List α}(e:S p=some (.lst (ls.map f))) (h:Q (.int ls.length) S):iR [.ref p] S Q:=⟨_,by simp only [rG e,List.length_map],h⟩
theorem yE {o:O}(h:S p=some o):put S p o=S:=by
 funext b
 unfold put
 split
 ·next e=>rw [e,h]
 ·rfl
theorem Le.put {o:O}(h:S p=Option.none):Le S (T2.put S p o):=λa u e=>by
 have:a≠p:=λz=>by rw [z,h] at e;cases e
 rw [aE this];exact e
theorem qz {a b:Addr}{x y:O}(h:a≠b):T2.put (T2.put S a x) b y=T2.put (T2.put S b y) a x:=by
 funext c
 unfold T2.put
 by_cases h1:c=b
 ·by_cases h2:c=a
  ·exact absurd (h2.symm.trans h1) h
  ·simp [h1,h2,Ne.symm h]
 ·by_cases h2:c=a
  ·simp [h1,h2,h]
  ·simp [h1,h2]
theorem C1 {a b:Addr}{x y z:O}(h:a≠b):T2.put (T2.put (T2.put S a x) b y) a z=T2.put (T2.put S a z) b y:=by
 rw [qz (S:=T2.put S a x) (a:=b) (b:=a) (Ne.symm h),cg]
theorem cA {a b:Addr}{o:O}(h:T2.put S a o b=Option.none):b≠a/\S b=Option.none:=by
 have ne:b≠a:=λz=>by rw [z,aC] at h;cases h
 exact ⟨ne,by rw [aE ne] at h;exact h⟩
theorem Ao (z:Str) (ws:List Str):((ws.map T.str).any λy=>eqF y (.str z))=decide (z∈ws):=by
 induction ws with
 |nil=>rfl
 |cons a l ih =>
  rw [List.map_cons,List.any_cons,ih,Bool.eq_iff_iff]
  simp only [EN,Bool.or_eq_true,beq_iff_eq,decide_eq_true_eq,List.mem_cons]
  constructor
  ·rintro (h|h)
   ·exact .inl h.symm
   ·exact .inr h
  ·rintro (h|h)
   ·exact .inl h.symm
   ·exact .inr h
theorem xy (ws:List Str):(ws.map T.str).all bS=true:=by
 induction ws with
 |nil=>rfl
 |cons a l ih=>rw [List.map_cons,List.all_cons,ih];rfl
theorem C2 {n:Bool}{ws:List Str}{zz:Str}(e:S p=some (.lst (ws.map T.str))) (h:Q (.bl (n ^^ decide (zz∈ws))) S):gIn n (.str zz) (.ref p) S Q:=Fu e rfl (xy ws) (by rw [Ao];exact h)
theorem Le.put2 {S1 S2:Sto}{o:O}(l:Le S1 S2):Le (T2.put S1 p o) (T2.put S2 p o):=λa u e=>by
 by_cases h:a=p
 ·subst h;rw [aC] at e ⊢;exact e
 ·rw [aE h] at e ⊢;exact l a u e
def iT {α:Type}(ls:List α) (lo hi:Option Int):List α:=(ls.drop (HT.sIx ls.length 0 lo)).take (HT.sIx ls.length ls.length hi - HT.sIx ls.length 0 lo)
theorem qA {α:Type}{f:α->T}{ls:List α}{lo hi:Option Int}:eD (ls.map f) lo hi=(iT ls lo hi).map f:=by
 unfold eD iT
 rw [List.length_map,List.map_take,List.map_drop]
theorem jB {α:Type}{ls:List α}{k:Int}(h:0<=k):iT ls none (some k)=ls.take k.toNat:=by
 unfold iT
 have e:((k.toNat:Nat):Int)=k:=by omega
 rw [<- e,HT.sIx_nat,HT.sIx_none,Int.toNat_natCast,List.drop_zero,Nat.sub_zero,Nat.min_comm,<- List.take_take]
 exact List.take_of_length_le (by rw [List.length_take];omega)
theorem FC {tr:Bool}{α:Type}{f:α->T}{ls:List α}{lo hi:Option Int}(h:bi tr ((iT ls lo hi).map f) S Q):gSl tr (.lst (ls.map f)) lo hi S Q:=uJ (by rw [qA];exact h)
theorem FD {A:Prop}(h0:-(2 ^ 62)<=j) (h1:j<2 ^ 62) (h:A):-(2 ^ 62)<=j/\j<2 ^ 62/\A:=⟨h0,h1,h⟩
theorem ifT {A C:Prop}(h:A):if true=true then A else C:=by rw [if_pos rfl];exact h
theorem ifF {A C:Prop}(h:C):if false=true then A else C:=by rw [if_neg Bool.false_ne_true];exact h
theorem G' {A C:Prop}(h:C):if (!true)=true then A else C:=ifF h
theorem Ha {A C:Prop}(h:A):if (!false)=true then A else C:=ifT h
theorem ifB {b:Bool}{A C:Prop}(h1:b=true->A) (h2:b=false->C):if b=true then A else C:=by
 cases b with
 |true=>exact ifT (h1 rfl)
 |false=>exact ifF (h2 rfl)
end
end T2
namespace S6
open PySem PyProof.Rows
def rk (ρ:Keyed->Nat) (xs:Array Keyed) (i:Nat):Nat:=((xs[i]?).map ρ).getD 0
theorem uK {ρ:Keyed->Nat}{xs ys:Array Keyed}{i j:Nat}(h:xs[i]?=ys[j]?):rk ρ xs i=rk ρ ys j:=by unfold rk;rw [h]
theorem iA {ρ:Keyed->Nat}{xs:Array Keyed}{i j:Nat}(hj:j<=xs.size) (k:Nat) :
  rk ρ (mirror xs i j ((j - i) / 2)) k=rk ρ xs (if i<=k/\k<j then i+j - 1 - k else k):=by
 refine uK ?_
 rw [getElem?_mirror_all hj]
 split<;>rfl
theorem rJ {ρ:Keyed->Nat}{xs:Array Keyed}{n d:Nat}(hn:n<xs.size) (hd:d<=n) (k:Nat) :
  rk ρ (bubble xs n d) k=rk ρ xs (if k=n - d then n else if n - d<k/\k<=n then k - 1 else k):=by
 refine uK ?_
 rw [getElem?_bubble hn d hd]
 split
 ·rfl
 ·split<;>rfl
def Up (ρ:Keyed->Nat) (xs:Array Keyed) (n:Nat):Prop:=∀ i j,i<=j->j<n->rk ρ xs i<=rk ρ xs j
def Dn (ρ:Keyed->Nat) (xs:Array Keyed) (n:Nat):Prop:=∀ i j,i<=j->j<n->rk ρ xs j<=rk ρ xs i
structure Ok (kd:SortKind) (a₀:Array Keyed) (st:SortSt):Prop where
 perm:(arrOf st).Perm a₀
 kind:kindOf st=kd
 well:failedOf st=none
 runs:pendingOf st=#[]
theorem Ok.sz {kd a₀ st}(o:Ok kd a₀ st):(arrOf st).size=a₀.size:=o.perm.size_eq
theorem Ok.arr {kd a₀ st xs}(o:Ok kd a₀ st) (h:xs.Perm (arrOf st)):Ok kd a₀ (setArr st xs):=⟨h.trans o.perm,o.kind,o.well,o.runs⟩
def Cm (prog:Program) (w:World) (A:Around) (s:Shared) (kd:SortKind) (a₀:Array Keyed) (ρ:Keyed->Nat):Prop :=
 ∀ x y,x∈a₀.toList->y∈a₀.toList->∀ (E:Value->Shared->Prop) (Q:Bool->Shared->Prop),Q (decide (ρ x<ρ y)) s->wpAny (model prog w) A (keyLt' kd x.1 y.1) Q E s
section
variable {prog:Program}{w:World}{A:Around}{E:Value->Shared->Prop}{s:Shared}{a₀:Array Keyed}{kd:SortKind}{ρ:Keyed->Nat}{st:SortSt}
theorem iB {i j:Nat}{Q:Option Bool->SortSt->Prop}(C:Cm prog w A s kd a₀ ρ) (o:Ok kd a₀ st) (hi:i<a₀.size) (hj:j<a₀.size) (h:Q (some (decide (rk ρ (arrOf st) i<rk ρ (arrOf st) j))) st) :
  wpS (model prog w) A E s (ltAt' i j) Q st:=by
 have get:∀ k,k<a₀.size->∃ p,(arrOf st)[k]?=some p/\p∈a₀.toList:=λk hk=>by
  have hk':k<(arrOf st).size:=by rw [o.sz];exact hk
  exact ⟨_,getElem?_pos _ k hk',(Array.perm_iff_toList_perm.mp o.perm).mem_iff.mp (by simp)⟩
 obtain ⟨p,ep,mp⟩:=get i hi
 obtain ⟨q,eq,mq⟩:=get j hj
 have h':Q (some (decide (ρ p<ρ q))) st:=by unfold rk at h;rw [ep,eq] at h;exact h
 rw [ltAt'_eq]
 refine wpS_bind (wpS_get ?_)
 dsimp only
 rw [elem'_eq,ep]
 refine wpS_bind (wpS_pure ?_)
 rw [elem'_eq,eq]
 refine wpS_bind (wpS_pure ?_)
 rw [lt'_eq]
 refine wpS_bind (wpS_get (wpS_bind ?_))
 rw [o.kind]
 exact wpS_lift (wpAny_attempt (C p q mp mq _ _ ⟨rfl,wpS_pure h'⟩))
theorem uL {a n:Nat}{Q:AscSt->SortSt->Prop}(C:Cm prog w A s kd a₀ ρ) (o:Ok kd a₀ st) (hn:n<=a₀.size) (h1:1<=a) (ha:a<=n) (u:Up ρ (arrOf st) a)
  (h:∀ m,a<=m->m<=n->Up ρ (arrOf st) m->(m<n->rk ρ (arrOf st) m<rk ρ (arrOf st) (m - 1))->Q (none,m) st):wpS (model prog w) A E s (ascLoop a n) Q st:=by
 unfold ascLoop
 refine wpS_forRange (λk c z=>z=st/\c=(none,k)/\Up ρ (arrOf st) k) ?_ ?_ ⟨rfl,rfl,u⟩
 ·rintro k c z l1 l2 ⟨rfl,rfl,uk⟩
  refine wpS_bind (iB C o (by dsimp only;omega) (by dsimp only;omega) ?_)
  dsimp only
  by_cases g:rk ρ (arrOf z) k<rk ρ (arrOf z) (k - 1)
  ·rw [decide_eq_true g]
   exact wpS_pure (h k l1 (by omega) uk λ_=>g)
  ·rw [decide_eq_false g]
   refine wpS_pure ⟨rfl,rfl,λi j ij jk=>?_⟩
   rcases Nat.lt_or_ge j k with q|q
   ·exact uk i j ij q
   ·obtain rfl:j=k:=by omega
    rcases Nat.lt_or_ge i j with q|q
    ·have:=uk i (j - 1) (by omega) (by omega)
     omega
    ·obtain rfl:i=j:=by omega
     exact Nat.le_refl _
 ·rintro c z ⟨rfl,rfl,uk⟩
  rw [Nat.max_eq_right ha] at uk ⊢
  exact h n ha (Nat.le_refl _) uk λq=>absurd q (Nat.lt_irrefl _)
theorem tD {m n:Nat}{Q:Option Nat->SortSt->Prop}(C:Cm prog w A s kd a₀ ρ) (o:Ok kd a₀ st) (hn:n<=a₀.size) (h1:1<=m) (hm:m<=n) (d:Dn ρ (arrOf st) m)
  (h:∀ k z,Ok kd a₀ z->1<=k->k<=n->Up ρ (arrOf z) k->Q (some k) z):wpS (model prog w) A E s (tail3 m n) Q st:=by
 unfold tail3
 refine wpS_bind (wpS_reverse ?_)
 have o':Ok kd a₀ (setArr st (mirror (arrOf st) 0 m ((m - 0) / 2))):=o.arr (mirror_perm _ _ _ _)
 refine wpS_bind (uL C o' hn h1 hm (λi j ij jm=>?_) λk k1 k2 uk _=>wpS_pure (h k _ o' (by omega) k2 uk))
 show rk ρ (mirror (arrOf st) 0 m ((m - 0) / 2)) i<=rk ρ (mirror (arrOf st) 0 m ((m - 0) / 2)) j
 rw [iA (by rw [o.sz];omega),iA (by rw [o.sz];omega),if_pos (by omega),if_pos (by omega)]
 exact d _ _ (by omega) (by omega)
def Lk (ρ:Keyed->Nat) (xs:Array Keyed) (m e:Nat):Prop:=e+1<=m/\∀ i,m - (e+1)<=i->i<m->rk ρ xs i=rk ρ xs (m - 1)
theorem Lk.rev {xs:Array Keyed}{m e:Nat}(l:Lk ρ xs m e) (hm:m<=xs.size) (k:Nat):rk ρ (mirror xs (m - (e+1)) m ((m - (m - (e+1))) / 2)) k=rk ρ xs k:=by
 rw [iA hm]
 split
 ·rename_i q
  rw [l.2 _ (by have:=l.1;omega) (by omega),l.2 k q.1 q.2]
 ·rfl
theorem C3 {m n:Nat}{Q:DescSt->SortSt->Prop}(C:Cm prog w A s kd a₀ ρ) (o:Ok kd a₀ st) (hn:n<=a₀.size) (h1:1<=m) (hm:m<=n) (d:Dn ρ (arrOf st) m)
  (h:∀ k e z,Ok kd a₀ z->m<=k->k<=n->Dn ρ (arrOf z) k->Lk ρ (arrOf z) k e->Q (none,k,e) z):wpS (model prog w) A E s (descLoop m n) Q st:=by
 unfold descLoop
 refine wpS_forRange (λk c z=>∃ e,c=(none,k,e)/\Ok kd a₀ z/\Dn ρ (arrOf z) k/\Lk ρ (arrOf z) k e) ?_ ?_ ⟨0,rfl,o,d,h1,λi i1 i2=>by rw [show i=m - 1 by omega]⟩
 ·rintro k c z l1 l2 ⟨e,rfl,oz,dz,lz⟩
  refine wpS_bind (iB C oz (by dsimp only;omega) (by dsimp only;omega) ?_)
  dsimp only
  have more:∀ xs:Array Keyed,(∀ i,rk ρ xs i=rk ρ (arrOf z) i)->rk ρ (arrOf z) k<=rk ρ (arrOf z) (k - 1)->Dn ρ xs (k+1):=λxs hx le i j ij jk=>by
   rw [hx,hx]
   rcases Nat.lt_or_ge j k with q|q
   ·exact dz i j ij q
   ·obtain rfl:j=k:=by omega
    rcases Nat.lt_or_ge i j with q|q
    ·have:=dz i (j - 1) (by omega) (by omega)
     omega
    ·obtain rfl:i=j:=by omega
     exact Nat.le_refl _
  by_cases g:rk ρ (arrOf z) k<rk ρ (arrOf z) (k - 1)
  ·rw [decide_eq_true g]
   simp only [if_true]
   split
   ·refine wpS_bind (wpS_reverse (wpS_pure ⟨0,rfl,oz.arr (mirror_perm _ _ _ _),more _ (lz.rev (by rw [oz.sz];omega)) (by omega),by omega,λi i1 i2=>by rw [show i=k+1 - 1 by omega]⟩))
   ·exact wpS_pure ⟨0,rfl,oz,more _ (λ_=>rfl) (by omega),by omega,λi i1 i2=>by rw [show i=k+1 - 1 by omega]⟩
  ·rw [decide_eq_false g]
   simp only [Bool.false_eq_true,if_false]
   refine wpS_bind (iB C oz (by omega) (by omega) ?_)
   by_cases g2:rk ρ (arrOf z) (k - 1)<rk ρ (arrOf z) k
   ·rw [decide_eq_true g2]
    simp only [if_true]
    exact wpS_pure (h k e z oz l1 (by omega) dz lz)
   ·rw [decide_eq_false g2]
    simp only [Bool.false_eq_true,if_false]
    refine wpS_pure ⟨e+1,rfl,oz,more _ (λ_=>rfl) (by omega),by have:=lz.1;omega,λi i1 i2=>?_⟩
    rw [show k+1 - 1=k by omega]
    rcases Nat.lt_or_ge i k with q|q
    ·rw [lz.2 i (by omega) q];omega
    ·rw [show i=k by omega]
 ·rintro c z ⟨e,rfl,oz,dz,lz⟩
  rw [Nat.max_eq_right hm] at dz lz ⊢
  exact h n e z oz hm (Nat.le_refl _) dz lz
theorem pF {m n:Nat}{Q:Option Nat->SortSt->Prop}(C:Cm prog w A s kd a₀ ρ) (o:Ok kd a₀ st) (hn:n<=a₀.size) (hm:m+1<=n) (d:Dn ρ (arrOf st) (m+1))
  (h:∀ k z,Ok kd a₀ z->1<=k->k<=n->Up ρ (arrOf z) k->Q (some k) z):wpS (model prog w) A E s (descPart m n) Q st:=by
 unfold descPart
 refine wpS_bind (wpS_lift (wpAny_rule ⟨rfl,wpS_bind (C3 C o hn (by omega) hm d λk e z oz k1 k2 dz lz=>?_)⟩))
 dsimp only
 split
 ·refine wpS_bind (wpS_reverse (tD C (oz.arr (mirror_perm _ _ _ _)) hn (by omega) k2 (λi j ij jk=>?_) h))
  have e:=lz.rev (by rw [oz.sz];omega)
  show rk ρ (mirror _ _ _ _) j<=rk ρ (mirror _ _ _ _) i
  rw [e,e]
  exact dz i j ij jk
 ·exact tD C oz hn (by omega) k2 dz h
theorem Ap {n:Nat}{Q:Option Nat->SortSt->Prop}(C:Cm prog w A s kd a₀ ρ) (o:Ok kd a₀ st) (hn:n<=a₀.size) (h1:1<=n)
  (h:∀ k z,Ok kd a₀ z->1<=k->k<=n->Up ρ (arrOf z) k->Q (some k) z):wpS (model prog w) A E s (countRun' 0 n) Q st:=by
 rw [countRun0_eq]
 refine wpS_bind (uL C o hn (Nat.le_refl _) h1 (λi j ij j1=>by rw [show i=j by omega];exact Nat.le_refl _) λm m1 m2 um lm=>?_)
 dsimp only
 split
 ·rename_i q
  exact wpS_pure (h m st o m1 m2 um)
 ·rename_i q
  have mn:m<n:=by
   rcases Nat.lt_or_ge m n with z|z
   ·exact z
   ·exact (q (beq_iff_eq.mpr (by omega))).elim
  have gm:=lm mn
  split
  ·refine wpS_bind (iB C o (by omega) (by omega) ?_)
   dsimp only
   by_cases g:rk ρ (arrOf st) 0<rk ρ (arrOf st) (m - 1)
   ·rw [decide_eq_true g]
    exact wpS_pure (h m st o m1 m2 um)
   ·rw [decide_eq_false g]
    refine wpS_bind (wpS_reverse (pF C (o.arr (mirror_perm _ _ _ _)) hn mn (λi j ij jm=>?_) h))
    have all:∀ i,i<m->rk ρ (arrOf st) i=rk ρ (arrOf st) (m - 1):=λi im=>by
     have a1:=um 0 i (by omega) im
     have a2:=um i (m - 1) (by omega) (by omega)
     omega
    show rk ρ (mirror _ _ _ _) j<=rk ρ (mirror _ _ _ _) i
    rw [iA (by rw [o.sz];omega),iA (by rw [o.sz];omega)]
    rcases Nat.lt_or_ge j m with q1|q1
    ·rw [if_pos (by omega),if_pos (by omega),all _ (by omega),all (0+m - 1 - i) (by omega)]
     exact Nat.le_refl _
    ·obtain rfl:j=m:=by omega
     rw [if_neg (by omega)]
     split
     ·rw [all (0+j - 1 - i) (by omega)];omega
     ·rw [show i=j by omega];exact Nat.le_refl _
  ·refine pF C o hn mn (λi j ij jm=>?_) h
   obtain rfl:m=1:=by omega
   rcases Nat.lt_or_ge i j with q1|q1
   ·obtain ⟨rfl,rfl⟩:i=0/\j=1:=by omega
    exact Nat.le_of_lt gm
   ·rw [show i=j by omega];exact Nat.le_refl _
theorem FE {n ok:Nat}{Q:Bool->SortSt->Prop}(C:Cm prog w A s kd a₀ ρ) (o:Ok kd a₀ st) (hn:n<=a₀.size) (hk:ok<=n) (u:Up ρ (arrOf st) ok)
  (h:∀ z,Ok kd a₀ z->Up ρ (arrOf z) n->Q true z):wpS (model prog w) A E s (binarySort' 0 n ok) Q st:=by
 rw [binarySort'_eq]
 simp only [Nat.zero_add]
 have first:∀ {k:Nat},k<=max ok 1->Up ρ (arrOf st) k:=fun {k} hk1 i j ij jk=>by
  rcases Nat.lt_or_ge j ok with q|q
  ·exact u i j ij q
  ·rw [show i=j by omega];exact Nat.le_refl _
 refine wpS_bind (wpS_mono (wpS_forRange (λk c z=>c=(none,())/\Ok kd a₀ z/\∀ i,i<=k->i<=n->Up ρ (arrOf z) i) (Q:=λc z=>c=(none,())/\Ok kd a₀ z/\Up ρ (arrOf z) n) ?_ ?_ ⟨rfl,o,λi i1 _=>first i1⟩) ?_)
 ·rintro k c z l1 l2 ⟨rfl,oz,uz⟩
  have uk:=uz k (Nat.le_refl _) (by omega)
  have kz:k<(arrOf z).size:=by rw [oz.sz];omega
  refine wpS_bind (wpS_mono (wpS_forRange
   (λi c y=>y=z/\∃ l r,c=(none,l,r)/\l<=r/\r<=k/\r+i<=l+k/\(∀ j,j<l->rk ρ (arrOf z) j<=rk ρ (arrOf z) k)/\∀ j,r<=j->j<k->rk ρ (arrOf z) k<rk ρ (arrOf z) j)
   (Q:=λc y=>y=z/\∃ l r,c=(none,l,r)/\l<=k/\(∀ j,j<l->rk ρ (arrOf z) j<=rk ρ (arrOf z) k)/\∀ j,l<=j->j<k->rk ρ (arrOf z) k<rk ρ (arrOf z) j) ?_ ?_
   ⟨rfl,0,k,rfl,Nat.zero_le _,Nat.le_refl _,by omega,λj j0=>absurd j0 (Nat.not_lt_zero _),λj j1 j2=>by omega⟩) ?_)
  ·rintro i c y i1 i2 ⟨rfl,l,r,rfl,lr,rk',lk,lo,hi⟩
   dsimp only
   split
   ·obtain rfl:l=r:=by omega
    exact wpS_pure ⟨rfl,l,l,rfl,rk',lo,hi⟩
   ·refine wpS_bind (iB C oz (by omega) (by omega) ?_)
    by_cases g:rk ρ (arrOf y) k<rk ρ (arrOf y) ((l+r) / 2)
    ·rw [decide_eq_true g]
     refine wpS_pure ⟨rfl,l,(l+r) / 2,rfl,by omega,by omega,by omega,lo,λj j1 j2=>?_⟩
     exact Nat.lt_of_lt_of_le g (uk _ _ j1 j2)
    ·rw [decide_eq_false g]
     refine wpS_pure ⟨rfl,(l+r) / 2+1,r,rfl,by omega,rk',by omega,λj j1=>?_,hi⟩
     exact Nat.le_trans (uk _ _ (by omega) (by omega)) (Nat.le_of_not_lt g)
  ·rintro c y ⟨rfl,l,r,rfl,lr,rk',lk,lo,hi⟩
   obtain rfl:l=r:=by omega
   exact ⟨rfl,l,l,rfl,rk',lo,hi⟩
  ·rintro c y ⟨rfl,l,r,rfl,lk,lo,hi⟩
   dsimp only
   rw [moveDown'_eq]
   refine wpS_bind (wpS_modify (wpS_pure ⟨rfl,oz.arr (bubble_perm _ _ _),λm m1 m2 i j ij jm=>?_⟩))
   show rk ρ (bubble (arrOf y) k (k - l)) i<=rk ρ (bubble (arrOf y) k (k - l)) j
   rw [rJ kz (by omega),rJ kz (by omega),show k - (k - l)=l by omega]
   rcases Nat.lt_trichotomy j l with q|q|q
   ·rw [if_neg (by omega),if_neg (by omega),if_neg (by omega),if_neg (by omega)]
    exact uk _ _ ij (by omega)
   ·rw [if_pos q]
    split
    ·exact Nat.le_refl _
    ·rw [if_neg (by omega)]
     exact lo _ (by omega)
   ·rw [if_neg (show ¬ j=l by omega),if_pos (show l<j/\j<=k by omega)]
    split
    ·exact Nat.le_of_lt (hi _ (by omega) (by omega))
    ·split
     ·exact uk _ _ (by omega) (by omega)
     ·exact uk _ _ (by omega) (by omega)
 ·rintro c z ⟨e,oz,uz⟩
  exact ⟨e,oz,uz n (by omega) (Nat.le_refl _)⟩
 ·rintro c z ⟨rfl,oz,uz⟩
  exact wpS_pure (h z oz uz)
theorem C4 {Q:Unit->SortSt->Prop}(C:Cm prog w A s kd a₀ ρ) (o:Ok kd a₀ st) (h2:2<=a₀.size) (h64:a₀.size<64)
  (h:∀ z,(arrOf z).Perm a₀->failedOf z=none->Up ρ (arrOf z) a₀.size->Q () z):wpS (model prog w) A E s sortRuns' Q st:=by
 rw [sortRuns'_eq]
 refine wpS_bind (wpS_get ?_)
 dsimp only
 have run:minRun' a₀.size a₀.size 0=a₀.size:=by
  have:∀ f,0<f->minRun' f a₀.size 0=a₀.size:=λf hf=>by
   cases f with
   |zero=>omega
   |succ f=>rw [minRun'_succ,if_pos h64];rfl
  exact this _ (by omega)
 simp only [o.sz,run]
 let D:SortSt->Prop:=λz=>(arrOf z).Perm a₀/\failedOf z=none/\(pendingOf z).size=1/\Up ρ (arrOf z) a₀.size
 have fin:∀ z,Ok kd a₀ z->Up ρ (arrOf z) a₀.size->D (setPending z ((pendingOf z).push (0,a₀.size,0))):=λz oz uz=>⟨oz.perm,oz.well,by rw [show pendingOf (setPending z ((pendingOf z).push (0,a₀.size,0)))=(pendingOf z).push (0,a₀.size,0) from rfl,oz.runs];rfl,uz⟩
 refine wpS_bind (wpS_mono (wpS_forRange (λk c z=>(k=0/\c=(none,0)/\Ok kd a₀ z)\/(0<k/\c=(none,a₀.size)/\D z)) (Q:=λc z=>c=(none,a₀.size)/\D z) ?_ ?_ (.inl ⟨rfl,rfl,o⟩)) ?_)
 ·rintro k c z l1 l2 (⟨rfl,rfl,oz⟩|⟨k0,rfl,dz⟩)
  ·dsimp only
   rw [if_neg (by omega)]
   simp only [Nat.sub_zero,Nat.min_self,Nat.zero_add]
   refine wpS_bind (Ap C oz (Nat.le_refl _) (by omega) λm y oy m1 m2 uy=>?_)
   have none':∀ {x:SortSt},Ok kd a₀ x->(pendingOf x).back?=none:=λox=>by rw [ox.runs];rfl
   dsimp only
   split
   ·refine wpS_bind (wpS_lift (wpAny_rule ⟨rfl,wpS_bind (FE C oy (Nat.le_refl _) m2 uy λx ox ux=>?_)⟩))
    simp only [Bool.not_true,Bool.false_eq_true,if_false]
    refine wpS_bind (wpS_get ?_)
    rw [none' ox]
    exact wpS_bind (wpS_modify (wpS_pure (.inr ⟨Nat.one_pos,rfl,fin x ox ux⟩)))
   ·obtain rfl:m=a₀.size:=by omega
    refine wpS_bind (wpS_get ?_)
    rw [none' oy]
    exact wpS_bind (wpS_modify (wpS_pure (.inr ⟨Nat.one_pos,rfl,fin y oy uy⟩)))
  ·dsimp only
   rw [if_pos (Nat.le_refl _)]
   exact wpS_pure ⟨rfl,dz⟩
 ·rintro c z (⟨e,_⟩|⟨_,e,dz⟩)
  ·omega
  ·exact ⟨e,dz⟩
 ·rintro c z ⟨rfl,dz⟩
  dsimp only
  refine wpS_bind (wpS_mono (wpS_forRange (λ_ c y=>y=z/\c=(none,())) (Q:=λc y=>y=z/\c=(none,())) ?_ (λ_ _ e=>e) ⟨rfl,rfl⟩) ?_)
  ·rintro k c y _ _ ⟨rfl,rfl⟩
   refine wpS_bind (wpS_get ?_)
   rw [if_pos (by rw [dz.2.2.1];exact Nat.le_refl 1)]
   exact wpS_pure ⟨rfl,rfl⟩
  ·rintro c y ⟨rfl,rfl⟩
   exact wpS_pure (h _ dz.1 dz.2.1 dz.2.2.2)
end
end S6
namespace S6
open PySem PyProof.Rows PySem.SeqAt
inductive Ky where
 |i (n:Int)|s (x:Str)|tt (v:Bool)|nil|cons (h t:Ky)
 deriving DecidableEq
namespace Ky
mutual
def dat:Ky->PyData
 |.i n=>.int n
 |.s x=>.str x
 |.tt v=>.bool v
 |.nil=>.tuple []
 |.cons h t=>.tuple (dat h::row t)
def row:Ky->List PyData
 |.cons h t=>dat h::row t
 |_=>[]
end
def shp:Ky->Ky->Bool
 |.i _,.i _=>true
 |.s _,.s _=>true
 |.tt _,.tt _=>true
 |.nil,.nil=>true
 |.cons h t,.cons h' t'=>shp h h'&&shp t t'
 |_,_=>false
def lt:Ky->Ky->Bool
 |.i a,.i b=>decide (a<b)
 |.s a,.s b=>decide (a.cps.toList<b.cps.toList)
 |.tt a,.tt b=>!a&&b
 |.cons h t,.cons h' t'=>if h=h' then lt t t' else lt h h'
 |_,_=>false
def ok:Ky->Bool
 |.tt _=>false
 |.cons h t=>ok h&&ok t&&isRow t
 |_=>true
where isRow:Ky->Bool
 |.nil=>true
 |.cons _ _=>true
 |_=>false
def dep:Ky->Nat
 |.nil=>1
 |.cons h t=>max (dep h+1) (dep t)
 |_=>0
theorem bT {h t h' t':Ky}:shp (.cons h t) (.cons h' t')=(shp h h'&&shp t t'):=rfl
theorem bU {a b:Int}:lt (.i a) (.i b)=decide (a<b):=rfl
theorem bV {a b:Str}:lt (.s a) (.s b)=decide (a.cps.toList<b.cps.toList):=rfl
theorem bW {a b:Bool}:lt (.tt a) (.tt b)=(!a&&b):=rfl
theorem bx {h t h' t':Ky}:lt (.cons h t) (.cons h' t')=if h=h' then lt t t' else lt h h':=rfl
theorem fg {h t:Ky}:ok (.cons h t)=(ok h&&ok t&&ok.isRow t):=rfl
theorem ka {h t:Ky}:dep (.cons h t)=max (dep h+1) (dep t):=rfl
theorem C5 {a b:Str}(h:a≠b):a.cps.toList≠b.cps.toList:=λe=>h (by
 cases a;cases b
 simp only [Str.mk.injEq] at h ⊢
 exact Array.toList_inj.mp e)
theorem tri:∀ {x y:Ky},shp x y=true->lt x y=true\/x=y\/lt y x=true
 |.i a,.i b,_=>by
  simp only [bU,bV,bW,bx,decide_eq_true_eq,Ky.i.injEq];omega
 |.s a,.s b,_=>by
  simp only [bU,bV,bW,bx,decide_eq_true_eq,Ky.s.injEq]
  by_cases e:a=b
  ·exact .inr (.inl e)
  ·by_cases l:a.cps.toList<b.cps.toList
   ·exact .inl l
   ·refine .inr (.inr ?_)
    rcases List.le_iff_lt_or_eq.mp (List.not_lt.mp l) with z|z
    ·exact z
    ·exact (C5 e z.symm).elim
 |.tt a,.tt b,_=>by cases a<;>cases b<;>simp [bU,bV,bW,bx]
 |.nil,.nil,_=>.inr (.inl rfl)
 |.cons h t,.cons h' t',e=>by
  simp only [bT,Bool.and_eq_true] at e
  by_cases q:h=h'
  ·subst q
   rcases tri e.2 with z|z|z
   ·exact .inl (by simp [bU,bV,bW,bx,z])
   ·exact .inr (.inl (by rw [z]))
   ·exact .inr (.inr (by simp [bU,bV,bW,bx,z]))
  ·rcases tri e.1 with z|z|z
   ·exact .inl (by simp [bU,bV,bW,bx,q,z])
   ·exact (q z).elim
   ·exact .inr (.inr (by simp [bU,bV,bW,bx,Ne.symm q,z]))
theorem irr:∀ x:Ky,lt x x=false
 |.i _=>by simp [bU,bV,bW,bx]
 |.s x=>by simp only [bU,bV,bW,bx,decide_eq_false_iff_not];exact List.lt_irrefl _
 |.tt v=>by cases v<;>rfl
 |.nil=>rfl
 |.cons h t=>by simp [bU,bV,bW,bx,irr t]
theorem trans:∀ {x y z:Ky},shp x y=true->shp y z=true->lt x y=true->lt y z=true->lt x z=true
 |.i a,.i b,.i c,_,_,p,q=>by simp only [bU,bV,bW,bx,decide_eq_true_eq] at *;omega
 |.s a,.s b,.s c,_,_,p,q=>by simp only [bU,bV,bW,bx,decide_eq_true_eq] at *;exact List.lt_trans p q
 |.tt a,.tt b,.tt c,_,_,p,q=>by cases a<;>cases b<;>cases c<;>simp [bU,bV,bW,bx] at *
 |.cons h t,.cons h' t',.cons h2 t2,e,f,p,q=>by
  simp only [bT,Bool.and_eq_true] at e f
  simp only [bU,bV,bW,bx] at p q ⊢
  by_cases a:h=h'
  ·subst a
   rw [if_pos rfl] at p
   by_cases b:h=h2
   ·subst b
    rw [if_pos rfl] at q ⊢
    exact trans e.2 f.2 p q
   ·rw [if_neg b] at q ⊢;exact q
  ·rw [if_neg a] at p
   by_cases b:h'=h2
   ·subst b
    rw [if_neg a];exact p
   ·rw [if_neg b] at q
    have:=trans e.1 f.1 p q
    rw [if_neg (λz=>by rw [z,irr] at this;cases this)]
    exact this
theorem Hb {x y:Ky}(h:shp x y=true) (p:lt x y=true):lt y x=false:=by
 cases q:lt y x with
 |false=>rfl
 |true =>
  have h':shp y x=true:=by
   have:∀ {a b:Ky},shp a b=true->shp b a=true:=by
    intro a
    induction a with
    |cons u v iu iv =>
     intro b e
     cases b with
     |cons=>simp only [bT,Bool.and_eq_true] at e ⊢;exact ⟨iu e.1,iv e.2⟩
     |_=>cases e
    |_=>intro b e;cases b<;>first|rfl|cases e
   exact this h
  have:=trans h h' p q
  rw [irr] at this;cases this
theorem yF:∀ {a b:Ky},shp a b=true->shp b a=true:=by
 intro a
 induction a with
 |cons u v iu iv =>
  intro b e
  cases b with
  |cons=>simp only [bT,Bool.and_eq_true] at e ⊢;exact ⟨iu e.1,iv e.2⟩
  |_=>cases e
 |_=>intro b e;cases b<;>first|rfl|cases e
theorem jC:∀ {x y:Ky},shp x y=true->ok x=true->PyData.eqv (dat x) (dat y)=decide (x=y)/\(ok.isRow x=true->PyData.eqvAll (row x) (row y)=decide (x=y))
 |.i a,.i b,_,_=>⟨by simp only [dat,PyData.eqv,Ky.i.injEq];rfl,λh=>by cases h⟩
 |.s a,.s b,_,_=>⟨by simp only [dat,PyData.eqv,Ky.s.injEq];rfl,λh=>by cases h⟩
 |.tt a,.tt b,_,_=>⟨by cases a<;>cases b<;>rfl,λh=>by cases h⟩
 |.nil,.nil,_,_=>⟨rfl,λ_=>rfl⟩
 |.cons h t,.cons h' t',e,o=>by
  simp only [bT,Bool.and_eq_true] at e
  simp only [fg,Bool.and_eq_true] at o
  have h1:=(jC e.1 o.1.1).1
  have h2:=(jC e.2 o.1.2).2 o.2
  have z:PyData.eqvAll (dat h::row t) (dat h'::row t')=decide (Ky.cons h t=Ky.cons h' t'):=by
   simp only [PyData.eqvAll,h1,h2,Ky.cons.injEq,Bool.decide_and]
  exact ⟨by simp only [dat,PyData.eqv];exact z,λ_=>by simp only [row];exact z⟩
end Ky
end S6
namespace S6
open PySem PyProof.Rows PySem.SeqAt
theorem tE {α:Type}{p q:α->Bool}{x:α}:∀ {l:List α},(∀ z∈l,p z=true->q z=true)->x∈l->p x=false->q x=true->l.countP p<l.countP q
 |[],_,h,_,_=>by cases h
 |y::l,m,h,px,qx=>by
  have ml:∀ z∈l,p z=true->q z=true:=λz hz=>m z (List.mem_cons_of_mem _ hz)
  have le:=List.countP_mono_left ml
  rw [List.countP_cons,List.countP_cons]
  rcases List.mem_cons.mp h with rfl|h
  ·simp only [px,qx,Bool.false_eq_true,if_false,if_true];omega
  ·have ih:=tE ml h px qx
   have:(if p y=true then 1 else 0)<=if q y=true then 1 else 0:=by
    split
    ·rw [if_pos (m y (List.mem_cons_self ..) ‹_›)];exact Nat.le_refl _
    ·exact Nat.zero_le _
   omega
def rnk (ks:List Ky) (x:Ky):Nat:=ks.countP λz=>Ky.lt z x
theorem tF {ks:List Ky}(hs:∀ x∈ks,∀ y∈ks,Ky.shp x y=true){x y:Ky}(hx:x∈ks) (hy:y∈ks):decide (rnk ks x<rnk ks y)=Ky.lt x y:=by
 cases e:Ky.lt x y with
 |true=>exact decide_eq_true (tE (λz hz l=>Ky.trans (hs z hz x hx) (hs x hx y hy) l e) hx (Ky.irr x) e)
 |false =>
  refine decide_eq_false (Nat.not_lt.mpr (List.countP_mono_left λz hz l=>?_))
  rcases Ky.tri (hs x hx y hy) with q|q|q
  ·rw [e] at q;cases q
  ·rw [q];exact l
  ·exact Ky.trans (hs z hz y hy) (hs y hy x hx) l q
inductive Cp where
 |lt|gt|ge
def cop:Cp->CmpOp
 |.lt=>.Lt
 |.gt=>.Gt
 |.ge=>.GtE
def gl (g:Cp) (x y:Ky):Bool:=match g with
 |.lt=>Ky.lt x y
 |.gt=>Ky.lt y x
 |.ge=>!Ky.lt x y
def kB:CmpOp->Bool
 |.GtE=>true
 |_=>false
def dO (A:Around) (s:Shared) (op:CmpOp) (x y:Value) (c:Bool):Prop :=
 ∀ (prog:Program) (w:World) (E:Value->Shared->Prop) (Q:Value->Shared->Prop),Q (.bool c) s->wpAny (model prog w) A (richCompare op x y) Q E s
inductive LexAt (A:Around) (s:Shared) (op:CmpOp):List Value->List Value->Bool->Prop
 |nil:LexAt A s op [] [] (kB op)
 |same {x y xs ys c}:EqAt A s x y true->LexAt A s op xs ys c->LexAt A s op (x::xs) (y::ys) c
 |diff {x y xs ys c}:EqAt A s x y false->dO A s op x y c->LexAt A s op (x::xs) (y::ys) c
def io (op:CmpOp) (us vs:List Value) (n m:Nat):Sem Fin:=do
 for (x,y) in us.zip vs do
  if !(<- eqBool x y) then
   rule "tuple.compare.by-the-first-pair-that-differs";return <- ret (<- richCompare op x y)
 ret (Builtin.Tuple.tupleCompareSizes op n m)
theorem xz (a b:Value):Builtin.«tuple.__lt__» ⟨[a,b],[]⟩=(do
  if !(<- isInstance b (.type "tuple")) then return <- ret .notImplemented
  let xs <- Builtin.Tuple.tupleItemsOf a
  let ys <- Builtin.Tuple.tupleItemsOf b
  io .Lt xs.toList ys.toList xs.size ys.size):=rfl
theorem xA (a b:Value):Builtin.«tuple.__ge__» ⟨[a,b],[]⟩=(do
  if !(<- isInstance b (.type "tuple")) then return <- ret .notImplemented
  let xs <- Builtin.Tuple.tupleItemsOf a
  let ys <- Builtin.Tuple.tupleItemsOf b
  io .GtE xs.toList ys.toList xs.size ys.size):=rfl
theorem xB (a b:Value):Builtin.«tuple.__gt__» ⟨[a,b],[]⟩=(do
  if !(<- isInstance b (.type "tuple")) then return <- ret .notImplemented
  let xs <- Builtin.Tuple.tupleItemsOf a
  let ys <- Builtin.Tuple.tupleItemsOf b
  io .Gt xs.toList ys.toList xs.size ys.size):=rfl
section
variable {A:Around}{s:Shared}
theorem mJ {g:Cp}{prog:Program}{w:World}{E:Value->Shared->Prop}{P:Fin->Shared->Prop}{us vs:List Value}{c:Bool}(L:LexAt A s (cop g) us vs c){n m:Nat}(hnm:n=m)
  (h:P (.done (.ret (.bool c))) s):wpAny (model prog w) A (io (cop g) us vs n m) P E s:=by
 unfold io
 refine wpAny_bind ?_
 refine wpAny_forIn_list _ (λrest r z=>r.1=none/\z=s/\∃ us' vs',rest=us'.zip vs'/\LexAt A s (cop g) us' vs' c) _ ?_ ?_ _ _ ⟨rfl,rfl,us,vs,rfl,L⟩
 ·rintro ⟨x,y⟩ rest r z ⟨hr,rfl,us',vs',hz,L'⟩
  cases L' with
  |nil=>simp at hz
  |same e L2 =>
   simp only [List.zip_cons_cons,List.cons.injEq,Prod.mk.injEq] at hz
   obtain ⟨⟨rfl,rfl⟩,rfl⟩:=hz
   refine wpAny_bind (e prog w _ _ ?_)
   exact wpAny_pure ⟨rfl,rfl,_,_,rfl,L2⟩
  |diff e cm =>
   simp only [List.zip_cons_cons,List.cons.injEq,Prod.mk.injEq] at hz
   obtain ⟨⟨rfl,rfl⟩,rfl⟩:=hz
   refine wpAny_bind (e prog w _ _ ?_)
   refine wpAny_bind (wpAny_rule (wpAny_bind (cm prog w _ _ ?_)))
   exact wpAny_bind (wpAny_pure (wpAny_pure (wpAny_pure h)))
 ·rintro ⟨r1,r2⟩ z ⟨hr,rfl,us',vs',hz,L'⟩
  simp only at hr
  subst hr
  have hc:c=kB (cop g):=by
   cases L' with
   |nil=>rfl
   |same _ _=>simp at hz
   |diff _ _=>simp at hz
  subst hc hnm
  have e:Builtin.Tuple.tupleCompareSizes (cop g) n n=.bool (kB (cop g)):=by cases g<;>simp [cop,kB,Builtin.Tuple.tupleCompareSizes]
  show wpAny _ _ (ret (Builtin.Tuple.tupleCompareSizes (cop g) n n)) P E _
  rw [e]
  exact wpAny_pure h
theorem wL {g:Cp}{l m:Addr}{o u:Obj}{xs ys:Array Value}{n k:Nat}{c:Bool}(h1:s.heap.get? l=some o) (c1:o.cls=.type "tuple") (d1:o.data=.seq xs n)
  (h2:s.heap.get? m=some u) (c2:u.cls=.type "tuple") (d2:u.data=.seq ys k) (hu:A.units<cLine) (L:LexAt A.in1 s (cop g) xs.toList ys.toList c) (hs:xs.size=ys.size):dO A s (cop g) (.ref l) (.ref m) c:=by
 intro prog w E Q q
 have t1:s.TypeIs (.ref l) "tuple":=⟨o,h1,c1⟩
 have t2:s.TypeIs (.ref m) "tuple":=⟨u,h2,c2⟩
 cases g with
 |lt =>
  refine wpAny_richCompare_same_room (op:=.Lt) t1 t2 F.slot_tuple_lt (wpAny_call_entry F.slot_tuple_lt t1 F.entry_tuple_lt ?_ (F.args_tuple_lt_2 _ _)) hu
  rw [xz]
  refine wpAny_bind (wpAny_isInstance t2 isSubtype_tuple_tuple ?_)
  simp only [Bool.not_true,Bool.false_eq_true,if_false]
  refine wpAny_bind (wpAny_tupleItemsOf h1 d1 (wpAny_bind (wpAny_tupleItemsOf h2 d2 ?_)))
  exact mJ (g:=.lt) L hs ⟨_,rfl,by simp,q⟩
 |gt =>
  refine wpAny_richCompare_same_room (op:=.Gt) t1 t2 F.slot_tuple_gt (wpAny_call_entry F.slot_tuple_gt t1 F.entry_tuple_gt ?_ (F.args_tuple_gt_2 _ _)) hu
  rw [xB]
  refine wpAny_bind (wpAny_isInstance t2 isSubtype_tuple_tuple ?_)
  simp only [Bool.not_true,Bool.false_eq_true,if_false]
  refine wpAny_bind (wpAny_tupleItemsOf h1 d1 (wpAny_bind (wpAny_tupleItemsOf h2 d2 ?_)))
  exact mJ (g:=.gt) L hs ⟨_,rfl,by simp,q⟩
 |ge =>
  refine wpAny_richCompare_same_room (op:=.GtE) t1 t2 F.slot_tuple_ge (wpAny_call_entry F.slot_tuple_ge t1 F.entry_tuple_ge ?_ (F.args_tuple_ge_2 _ _)) hu
  rw [xA]
  refine wpAny_bind (wpAny_isInstance t2 isSubtype_tuple_tuple ?_)
  simp only [Bool.not_true,Bool.false_eq_true,if_false]
  refine wpAny_bind (wpAny_tupleItemsOf h1 d1 (wpAny_bind (wpAny_tupleItemsOf h2 d2 ?_)))
  exact mJ (g:=.ge) L hs ⟨_,rfl,by simp,q⟩
theorem yG {g:Cp}(a b:Int) (t u:Tok):dO A s (cop g) (.int a t) (.int b u) (gl g (.i a) (.i b)):=by
 intro prog w E Q q
 cases g with
 |lt=>exact lt_int (A:=A) q
 |gt=>exact gt_int (A:=A) q
 |ge =>
  have e:gl .ge (.i a) (.i b)=decide (b<=a):=by
   show (!decide (a<b))=_
   rw [Bool.eq_iff_iff]
   simp only [Bool.not_eq_true',decide_eq_false_iff_not,decide_eq_true_eq,Int.not_lt]
  rw [e] at q
  exact PySem.P.ge_int (A:=A) q
theorem yH {g:Cp}(a b:Str) (t u:Tok):dO A s (cop g) (.str a t) (.str b u) (gl g (.s a) (.s b)):=by
 intro prog w E Q q
 cases g with
 |lt=>exact lt_str (A:=A) q
 |gt=>exact PySem.P.gt_str (A:=A) q
 |ge=>exact PySem.P.ge_str (A:=A) q
theorem Aq {g:Cp}{h t h' t':Ky}:gl g (.cons h t) (.cons h' t')=if h=h' then gl g t t' else gl g h h':=by
 cases g with
 |lt=>show Ky.lt _ _=if h=h' then Ky.lt t t' else Ky.lt h h';rw [Ky.bx]
 |gt =>
  show Ky.lt _ _=if h=h' then Ky.lt t' t else Ky.lt h' h
  rw [Ky.bx]
  by_cases e:h=h'
  ·rw [if_pos e,if_pos e.symm]
  ·rw [if_neg e,if_neg (Ne.symm e)]
 |ge =>
  show (!Ky.lt _ _)=if h=h' then !Ky.lt t t' else !Ky.lt h h'
  rw [Ky.bx]
  by_cases e:h=h'
  ·rw [if_pos e,if_pos e]
  ·rw [if_neg e,if_neg e]
end
theorem b8 {h:Heap}{a:Value}{n:Int}{as:List Addr}(r:Reads h a (.int n) as):∃ t,a=.int n t:=by cases r;exact ⟨_,rfl⟩
theorem b9 {h:Heap}{a:Value}{n:Str}{as:List Addr}(r:Reads h a (.str n) as):∃ t,a=.str n t:=by cases r;exact ⟨_,rfl⟩
theorem bz {h:Heap}{a:Value}{ds:List PyData}{as:List Addr}(r:Reads h a (.tuple ds) as):∃ (l:Addr) (o:Obj) (vs:Array Value) (n:Nat),a=.ref l/\h.get? l=some o/\o.cls=.type "tuple" /\ o.data=.seq vs n/\ReadsAll h vs.toList ds as:=by
 cases r with
 |tuple a1 a2 a3 a4=>exact ⟨_,_,_,_,rfl,a1,a2,a3,a4⟩
theorem eF {h:Heap}{us:List Value}{d:PyData}{ds:List PyData}{as:List Addr}(r:ReadsAll h us (d::ds) as):∃ u vs a1 a2,us=u::vs/\Reads h u d a1/\ReadsAll h vs ds a2:=by
 cases r with
 |cons r1 r2=>exact ⟨_,_,_,_,rfl,r1,r2⟩
theorem pZ:∀ {x y:Ky}{h:Heap},Ky.ok x=true->Ky.ok y=true->(∀ {a:Value}{as bs:List Addr},Reads h a x.dat as->Reads h a y.dat bs->x=y) /\
  (∀ {us:List Value}{as bs:List Addr},Ky.ok.isRow x=true->Ky.ok.isRow y=true->ReadsAll h us x.row as->ReadsAll h us y.row bs->x=y):=by
 intro x
 induction x with
 |i n =>
  intro y h _ oy
  refine ⟨fun {a as bs} r q=>?_,fun {us as bs} z=>by cases z⟩
  obtain ⟨t,rfl⟩:=b8 r
  cases y with
  |i m=>obtain ⟨_,e⟩:=b8 q;cases e;rfl
  |s m=>obtain ⟨_,e⟩:=b9 q;cases e
  |tt m=>cases oy
  |nil=>obtain ⟨_,_,_,_,e,_⟩:=bz q;cases e
  |cons u v=>obtain ⟨_,_,_,_,e,_⟩:=bz q;cases e
 |s n =>
  intro y h _ oy
  refine ⟨fun {a as bs} r q=>?_,fun {us as bs} z=>by cases z⟩
  obtain ⟨t,rfl⟩:=b9 r
  cases y with
  |i m=>obtain ⟨_,e⟩:=b8 q;cases e
  |s m=>obtain ⟨_,e⟩:=b9 q;cases e;rfl
  |tt m=>cases oy
  |nil=>obtain ⟨_,_,_,_,e,_⟩:=bz q;cases e
  |cons u v=>obtain ⟨_,_,_,_,e,_⟩:=bz q;cases e
 |tt n=>intro y h z;cases z
 |nil =>
  intro y h _ oy
  have go:∀ {us:List Value}{as bs:List Addr},Ky.ok.isRow y=true->ReadsAll h us [] as->ReadsAll h us y.row bs->Ky.nil=y:=fun {us as bs} z r q=>by
   cases r
   cases y with
   |nil=>rfl
   |cons u v=>simp only [Ky.row] at q;cases q
   |_=>cases z
  refine ⟨fun {a as bs} r q=>?_,fun {us as bs} _ z r q=>go z (by simpa only [Ky.row] using r) q⟩
  obtain ⟨l,o,vs,n,rfl,a1,a2,a3,a4⟩:=bz r
  cases y with
  |nil=>rfl
  |cons u v =>
   obtain ⟨l',o',vs',n',e,b1,b2,b3,b4⟩:=bz q
   cases e
   rw [a1] at b1;cases b1
   rw [a3] at b3;cases b3
   exact go rfl a4 b4
  |i n=>obtain ⟨_,e⟩:=b8 q;cases e
  |s n=>obtain ⟨_,e⟩:=b9 q;cases e
  |tt n=>cases oy
 |cons u v iu iv =>
  intro y h ox oy
  simp only [Ky.fg,Bool.and_eq_true] at ox
  have go:∀ {us:List Value}{as bs:List Addr},Ky.ok.isRow y=true->ReadsAll h us (u.dat::v.row) as->ReadsAll h us y.row bs->Ky.cons u v=y:=fun {us as bs} z r q=>by
   cases y with
   |nil=>simp only [Ky.row] at q;cases q;cases r
   |cons u' v' =>
    simp only [Ky.fg,Bool.and_eq_true] at oy
    simp only [Ky.row] at q
    obtain ⟨_,_,_,_,rfl,r1,r2⟩:=eF r
    obtain ⟨_,_,_,_,e,q1,q2⟩:=eF q
    cases e
    rw [(iu ox.1.1 oy.1.1).1 r1 q1,(iv ox.1.2 oy.1.2).2 ox.2 oy.2 r2 q2]
   |_=>cases z
  refine ⟨fun {a as bs} r q=>?_,fun {us as bs} _ z r q=>go z (by simpa only [Ky.row] using r) q⟩
  obtain ⟨l,o,vs,n,rfl,a1,a2,a3,a4⟩:=bz r
  have tup:∀ {ds:List PyData}{bs:List Addr},Reads h (.ref l) (.tuple ds) bs->ReadsAll h vs.toList ds bs:=fun {ds bs} q=>by
   obtain ⟨l',o',vs',n',e,b1,b2,b3,b4⟩:=bz q
   cases e
   rw [a1] at b1;cases b1
   rw [a3] at b3;cases b3
   exact b4
  cases y with
  |nil=>exact go rfl a4 (tup q)
  |cons u' v'=>exact go rfl a4 (tup q)
  |i n=>obtain ⟨_,e⟩:=b8 q;cases e
  |s n=>obtain ⟨_,e⟩:=b9 q;cases e
  |tt n=>cases oy
theorem Ar:∀ (x:Ky),
  (∀ {y:Ky}{A:Around}{s:Shared}{a b:Value}{as bs:List Addr},Ky.shp x y=true->Ky.ok x=true->Ky.ok y=true->Reads s.heap a x.dat as->Reads s.heap b y.dat bs->A.units+x.dep<cLine->EqAt A s a b (decide (x=y))) /\
  (∀ {y:Ky}{A:Around}{s:Shared}{us vs:List Value}{as bs:List Addr},Ky.ok.isRow x=true->Ky.shp x y=true->Ky.ok x=true->Ky.ok y=true->ReadsAll s.heap us x.row as->ReadsAll s.heap vs y.row bs->A.units+x.dep<=cLine ->
   ∀ j (h1:j<us.length) (h2:j<vs.length),EqAt A s us[j] vs[j] (pairEq x.row y.row j)):=by
 have tup:∀ {x y:Ky}{A:Around}{s:Shared}{l m:Addr}{o u:Obj}{xs ys:Array Value}{n k:Nat}{as bs:List Addr},
   (∀ {y:Ky}{A:Around}{s:Shared}{us vs:List Value}{as bs:List Addr},Ky.ok.isRow x=true->Ky.shp x y=true->Ky.ok x=true->Ky.ok y=true->ReadsAll s.heap us x.row as->ReadsAll s.heap vs y.row bs->A.units+x.dep<=cLine ->
    ∀ j (h1:j<us.length) (h2:j<vs.length),EqAt A s us[j] vs[j] (pairEq x.row y.row j)) ->
   Ky.ok.isRow x=true->Ky.ok.isRow y=true->Ky.shp x y=true->Ky.ok x=true->Ky.ok y=true->s.heap.get? l=some o->o.cls=.type "tuple"->o.data=.seq xs n->ReadsAll s.heap xs.toList x.row as ->
   s.heap.get? m=some u->u.cls=.type "tuple"->u.data=.seq ys k->ReadsAll s.heap ys.toList y.row bs->A.units+x.dep<cLine->EqAt A s (.ref l) (.ref m) (decide (x=y)):=by
  intro x y A s l m o u xs ys n k as bs lp hr hr' hs ox oy a1 a2 a3 a4 b1 b2 b3 b4 hu
  by_cases hll:l=m
  ·subst hll
   rw [a1] at b1;cases b1
   rw [a3] at b3;cases b3
   rw [decide_eq_true ((pZ ox oy).2 hr hr' a4 b4)]
   exact EqAt.same _
  ·have n1:xs.size=x.row.length:=by simpa using ReadsAll.length _ _ _ a4
   have n2:ys.size=y.row.length:=by simpa using ReadsAll.length _ _ _ b4
   rw [<- (Ky.jC hs ox).2 hr,<- eqvAll_eq,<- n1,<- n2]
   refine EqAt.of_refs hll (RcAt.tuples ⟨_,a1,a2,_,a3⟩ ⟨_,b1,b2,_,b3⟩ (by omega) λj j1 j2=>?_)
   have:=lp (A:=A.in1) hr hs ox oy a4 b4 (by show A.units+1+x.dep<=cLine;omega) j (by simpa using j1) (by simpa using j2)
   simpa using this
 intro x
 induction x with
 |i a =>
  refine ⟨fun {y A s a' b' as bs} hs ox oy ra rb hu=>?_,fun {y A s us vs as bs} h=>by cases h⟩
  cases y<;>first|cases hs|skip
  obtain ⟨t,rfl⟩:=b8 ra
  obtain ⟨u,rfl⟩:=b8 rb
  rename_i b
  rw [show decide (Ky.i a=Ky.i b)=(a==b) by rw [Bool.eq_iff_iff];simp]
  exact EqAt.int_int a t b u
 |s a =>
  refine ⟨fun {y A s a' b' as bs} hs ox oy ra rb hu=>?_,fun {y A s us vs as bs} h=>by cases h⟩
  cases y<;>first|cases hs|skip
  obtain ⟨t,rfl⟩:=b9 ra
  obtain ⟨u,rfl⟩:=b9 rb
  rename_i b
  rw [show decide (Ky.s a=Ky.s b)=(a==b) by rw [Bool.eq_iff_iff];simp]
  exact EqAt.str_str a t b u
 |tt a=>exact ⟨fun {y A s a' b' as bs} hs ox=>(by cases ox),fun {y A s us vs as bs} h=>by cases h⟩
 |nil =>
  have lp:∀ {y:Ky}{A:Around}{s:Shared}{us vs:List Value}{as bs:List Addr},Ky.ok.isRow .nil=true->Ky.shp .nil y=true->Ky.ok .nil=true->Ky.ok y=true->ReadsAll s.heap us Ky.nil.row as->ReadsAll s.heap vs y.row bs->A.units+Ky.nil.dep<=cLine ->
    ∀ j (h1:j<us.length) (h2:j<vs.length),EqAt A s us[j] vs[j] (pairEq Ky.nil.row y.row j):=by
   intro y A s us vs as bs _ hs _ _ ra rb _ j h1
   simp only [Ky.row] at ra
   cases ra
   exact absurd h1 (Nat.not_lt_zero _)
  refine ⟨fun {y A s a' b' as bs} hs ox oy ra rb hu=>?_,lp⟩
  cases y<;>first|cases hs|skip
  obtain ⟨_,_,_,_,rfl,a1,a2,a3,a4⟩:=bz ra
  obtain ⟨_,_,_,_,rfl,b1,b2,b3,b4⟩:=bz rb
  exact tup lp rfl rfl rfl rfl rfl a1 a2 a3 a4 b1 b2 b3 b4 hu
 |cons h t ih it =>
  have lp:∀ {y:Ky}{A:Around}{s:Shared}{us vs:List Value}{as bs:List Addr},Ky.ok.isRow (.cons h t)=true->Ky.shp (.cons h t) y=true->Ky.ok (.cons h t)=true->Ky.ok y=true->ReadsAll s.heap us (Ky.cons h t).row as->ReadsAll s.heap vs y.row bs->A.units+(Ky.cons h t).dep<=cLine ->
    ∀ j (h1:j<us.length) (h2:j<vs.length),EqAt A s us[j] vs[j] (pairEq (Ky.cons h t).row y.row j):=by
   intro y A s us vs as bs _ hs ox oy ra rb hu j h1 h2
   cases y with
   |cons h' t' =>
    simp only [Ky.bT,Bool.and_eq_true] at hs
    simp only [Ky.fg,Bool.and_eq_true] at ox oy
    simp only [Ky.ka] at hu
    simp only [Ky.row] at ra rb ⊢
    ·obtain ⟨_,_,_,_,rfl,r,rs⟩:=eF ra
     ·obtain ⟨_,_,_,_,rfl,r',rs'⟩:=eF rb
      cases j with
      |zero =>
       have:=ih.1 (A:=A) hs.1 ox.1.1 oy.1.1 r r' (by omega)
       rw [<- (Ky.jC hs.1 ox.1.1).1] at this
       exact this
      |succ j=>exact it.2 (A:=A) ox.2 hs.2 ox.1.2 oy.1.2 rs rs' (by omega) j (Nat.lt_of_succ_lt_succ h1) (Nat.lt_of_succ_lt_succ h2)
   |_=>cases hs
  refine ⟨fun {y A s a' b' as bs} hs ox oy ra rb hu=>?_,lp⟩
  cases y with
  |cons h' t' =>
   obtain ⟨_,_,_,_,rfl,a1,a2,a3,a4⟩:=bz ra
   obtain ⟨_,_,_,_,rfl,b1,b2,b3,b4⟩:=bz rb
   exact tup lp rfl rfl hs ox oy a1 a2 a3 a4 b1 b2 b3 b4 hu
  |_=>cases hs
theorem pc {x y:Ky}{A:Around}{s:Shared}{a b:Value}{as bs:List Addr}(h:Ky.shp x y=true) (ox:Ky.ok x=true) (oy:Ky.ok y=true) (ra:Reads s.heap a x.dat as) (rb:Reads s.heap b y.dat bs) (hu:A.units+x.dep<cLine) :
  EqAt A s a b (decide (x=y)):=(Ar x).1 h ox oy ra rb hu
theorem mf (g:Cp):∀ (x:Ky),
  (∀ {y:Ky}{A:Around}{s:Shared}{a b:Value}{as bs:List Addr},Ky.shp x y=true->Ky.ok x=true->Ky.ok y=true->Reads s.heap a x.dat as->Reads s.heap b y.dat bs->A.units+x.dep+1<cLine->dO A s (cop g) a b (gl g x y)) /\
  (∀ {y:Ky}{A:Around}{s:Shared}{us vs:List Value}{as bs:List Addr},Ky.ok.isRow x=true->Ky.shp x y=true->Ky.ok x=true->Ky.ok y=true->ReadsAll s.heap us x.row as->ReadsAll s.heap vs y.row bs->A.units+x.dep<cLine ->
   LexAt A s (cop g) us vs (gl g x y)/\us.length=vs.length):=by
 have tup:∀ {x y:Ky}{A:Around}{s:Shared}{l m:Addr}{o u:Obj}{xs ys:Array Value}{n k:Nat}{as bs:List Addr},
   (∀ {y:Ky}{A:Around}{s:Shared}{us vs:List Value}{as bs:List Addr},Ky.ok.isRow x=true->Ky.shp x y=true->Ky.ok x=true->Ky.ok y=true->ReadsAll s.heap us x.row as->ReadsAll s.heap vs y.row bs->A.units+x.dep<cLine->LexAt A s (cop g) us vs (gl g x y)/\us.length=vs.length) ->
   Ky.ok.isRow x=true->Ky.shp x y=true->Ky.ok x=true->Ky.ok y=true->s.heap.get? l=some o->o.cls=.type "tuple"->o.data=.seq xs n->ReadsAll s.heap xs.toList x.row as ->
   s.heap.get? m=some u->u.cls=.type "tuple"->u.data=.seq ys k->ReadsAll s.heap ys.toList y.row bs->A.units+x.dep+1<cLine->dO A s (cop g) (.ref l) (.ref m) (gl g x y):=by
  intro x y A s l m o u xs ys n k as bs lp hr hs ox oy a1 a2 a3 a4 b1 b2 b3 b4 hu
  obtain ⟨L,hl⟩:=lp (A:=A.in1) hr hs ox oy a4 b4 (by show A.units+1+x.dep<cLine;omega)
  exact wL a1 a2 a3 b1 b2 b3 (by omega) L (by simpa using hl)
 intro x
 induction x with
 |i a =>
  refine ⟨fun {y A s a' b' as bs} hs ox oy ra rb hu=>?_,fun {y A s us vs as bs} h=>by cases h⟩
  cases y<;>first|cases hs|skip
  obtain ⟨t,rfl⟩:=b8 ra
  obtain ⟨u,rfl⟩:=b8 rb
  exact yG _ _ _ _
 |s a =>
  refine ⟨fun {y A s a' b' as bs} hs ox oy ra rb hu=>?_,fun {y A s us vs as bs} h=>by cases h⟩
  cases y<;>first|cases hs|skip
  obtain ⟨t,rfl⟩:=b9 ra
  obtain ⟨u,rfl⟩:=b9 rb
  exact yH _ _ _ _
 |tt a=>exact ⟨fun {y A s a' b' as bs} hs ox=>(by cases ox),fun {y A s us vs as bs} h=>by cases h⟩
 |nil =>
  have lp:∀ {y:Ky}{A:Around}{s:Shared}{us vs:List Value}{as bs:List Addr},Ky.ok.isRow .nil=true->Ky.shp .nil y=true->Ky.ok .nil=true->Ky.ok y=true->ReadsAll s.heap us Ky.nil.row as->ReadsAll s.heap vs y.row bs->A.units+Ky.nil.dep<cLine ->
    LexAt A s (cop g) us vs (gl g .nil y)/\us.length=vs.length:=by
   intro y A s us vs as bs _ hs _ _ ra rb _
   cases y<;>first|cases hs|skip
   simp only [Ky.row] at ra rb
   cases ra;cases rb
   exact ⟨by cases g<;>exact .nil,rfl⟩
  refine ⟨fun {y A s a' b' as bs} hs ox oy ra rb hu=>?_,lp⟩
  cases y<;>first|cases hs|skip
  obtain ⟨_,_,_,_,rfl,a1,a2,a3,a4⟩:=bz ra
  obtain ⟨_,_,_,_,rfl,b1,b2,b3,b4⟩:=bz rb
  exact tup lp rfl rfl rfl rfl a1 a2 a3 a4 b1 b2 b3 b4 hu
 |cons h t ih it =>
  have lp:∀ {y:Ky}{A:Around}{s:Shared}{us vs:List Value}{as bs:List Addr},Ky.ok.isRow (.cons h t)=true->Ky.shp (.cons h t) y=true->Ky.ok (.cons h t)=true->Ky.ok y=true->ReadsAll s.heap us (Ky.cons h t).row as->ReadsAll s.heap vs y.row bs->A.units+(Ky.cons h t).dep<cLine ->
    LexAt A s (cop g) us vs (gl g (.cons h t) y)/\us.length=vs.length:=by
   intro y A s us vs as bs _ hs ox oy ra rb hu
   cases y with
   |cons h' t' =>
    simp only [Ky.bT,Bool.and_eq_true] at hs
    simp only [Ky.fg,Bool.and_eq_true] at ox oy
    simp only [Ky.ka] at hu
    simp only [Ky.row] at ra rb
    ·obtain ⟨_,_,_,_,rfl,r,rs⟩:=eF ra
     ·obtain ⟨_,_,_,_,rfl,r',rs'⟩:=eF rb
      have eq:=pc (A:=A) hs.1 ox.1.1 oy.1.1 r r' (by omega)
      rw [Aq]
      by_cases e:h=h'
      ·rw [decide_eq_true e] at eq
       rw [if_pos e]
       obtain ⟨L,l⟩:=it.2 (A:=A) ox.2 hs.2 ox.1.2 oy.1.2 rs rs' (by omega)
       exact ⟨.same eq L,by simp [l]⟩
      ·rw [decide_eq_false e] at eq
       rw [if_neg e]
       refine ⟨.diff eq (ih.1 hs.1 ox.1.1 oy.1.1 r r' (by omega)),?_⟩
       have l1:=ReadsAll.length _ _ _ rs
       have l2:=ReadsAll.length _ _ _ rs'
       have rowlen:∀ {a b:Ky},Ky.shp a b=true->a.row.length=b.row.length:=by
        intro a
        induction a with
        |cons u v iu iv =>
         intro b e
         cases b with
         |cons u' v' =>
          simp only [Ky.bT,Bool.and_eq_true] at e
          simp only [Ky.row,List.length_cons,iv e.2]
         |_=>cases e
        |_=>intro b e;cases b<;>first|rfl|cases e
       simp [l1,l2,rowlen hs.2]
   |_=>cases hs
  refine ⟨fun {y A s a' b' as bs} hs ox oy ra rb hu=>?_,lp⟩
  cases y with
  |cons h' t' =>
   obtain ⟨_,_,_,_,rfl,a1,a2,a3,a4⟩:=bz ra
   obtain ⟨_,_,_,_,rfl,b1,b2,b3,b4⟩:=bz rb
   exact tup lp rfl hs ox oy a1 a2 a3 a4 b1 b2 b3 b4 hu
  |_=>cases hs
def KR (s:Shared) (v:Value) (k:Ky):Prop:=Ky.ok k=true/\∃ as,Reads s.heap v k.dat as
theorem KR.inj {s:Shared}{v:Value}{k k':Ky}(h:KR s v k) (h':KR s v k'):k=k':=by
 obtain ⟨o,as,r⟩:=h
 obtain ⟨o',as',r'⟩:=h'
 exact (pZ o o').1 r r'
open Classical in
noncomputable def cy (s:Shared) (v:Value):Ky:=if h:∃ k,KR s v k then h.choose else .nil
theorem eI {s:Shared}{v:Value}{k:Ky}(h:KR s v k):cy s v=k:=by
 unfold cy
 have e:∃ k,KR s v k:=⟨k,h⟩
 rw [dif_pos e]
 exact e.choose_spec.inj h
def uM (A:Around) (s:Shared) (one:Bool) (x y:Value) (c:Bool):Prop :=
 ∀ (prog:Program) (w:World) (E:Value->Shared->Prop) (Q:Bool->Shared->Prop),Q c s->wpAny (model prog w) A (oneLt' one x y) Q E s
theorem dO.one {A:Around}{s:Shared}{x y:Value}{c:Bool}(h:dO A s .Lt x y c):uM A s false x y c:=λprog w E Q q=>by
 rw [oneLt'_eq]
 simp only [Bool.false_eq_true,if_false]
 exact wpAny_bind (h prog w _ _ (wpAny_truthy_bool q))
inductive LexO (A:Around) (s:Shared):Bool->List Value->List Value->Bool->Prop
 |nil {one}:LexO A s one [] [] false
 |same {one x y xs ys c}:EqAt A s x y true->LexO A s false xs ys c->LexO A s one (x::xs) (y::ys) c
 |diff {one x y xs ys c}:EqAt A s x y false->uM A s one x y c->LexO A s one (x::xs) (y::ys) c
theorem LexAt.o {A:Around}{s:Shared}{xs ys:List Value}{c:Bool}(h:LexAt A s .Lt xs ys c):LexO A s false xs ys c:=by
 induction h with
 |nil=>exact .nil
 |same e _ ih=>exact .same e ih
 |diff e c=>exact .diff e c.one
theorem v6 (fb:Bool) (x y:Value):keyLt' (tuples' fb) x y=(do
  let xs <- Builtin.List.listItems x;let ys <- Builtin.List.listItems y
  for ((p,q),i) in (xs.toList.zip ys.toList).zipIdx do
   if !(<- eqBool p q) then return <- oneLt' (fb&&i==0) p q
  return xs.size<ys.size):=rfl
theorem Au {A:Around}{s:Shared}{fb:Bool}{l m:Addr}{o u:Obj}{xs ys:Array Value}{n k:Nat}{c:Bool}(h1:s.heap.get? l=some o) (d1:o.data=.seq xs n) (h2:s.heap.get? m=some u) (d2:u.data=.seq ys k)
  (L:LexO A s fb xs.toList ys.toList c) (hs:xs.size=ys.size){prog:Program}{w:World}{E:Value->Shared->Prop}{Q:Bool->Shared->Prop}(q:Q c s):wpAny (model prog w) A (keyLt' (tuples' fb) (.ref l) (.ref m)) Q E s:=by
 rw [v6]
 refine wpAny_bind (listItems_at h1 d1 (wpAny_bind (listItems_at h2 d2 (wpAny_bind ?_))))
 refine wpAny_forIn_list _ (λrest r z=>r.1=none/\z=s/\∃ us' vs' i one,rest=(us'.zip vs').zipIdx i/\(fb&&i==0)=one/\LexO A s one us' vs' c) _ ?_ ?_ _ _ ⟨rfl,rfl,xs.toList,ys.toList,0,fb,rfl,by simp,L⟩
 ·rintro ⟨⟨x,y⟩,i'⟩ rest r z ⟨hr,rfl,us',vs',i,one,hz,ho,L'⟩
  cases L' with
  |nil=>simp at hz
  |same e L2 =>
   simp only [List.zip_cons_cons,List.zipIdx_cons,List.cons.injEq,Prod.mk.injEq] at hz
   obtain ⟨⟨⟨rfl,rfl⟩,rfl⟩,rfl⟩:=hz
   refine wpAny_bind (e prog w _ _ ?_)
   exact wpAny_pure ⟨rfl,rfl,_,_,_,false,rfl,by simp,L2⟩
  |diff e cm =>
   simp only [List.zip_cons_cons,List.zipIdx_cons,List.cons.injEq,Prod.mk.injEq] at hz
   obtain ⟨⟨⟨rfl,rfl⟩,rfl⟩,rfl⟩:=hz
   refine wpAny_bind (e prog w _ _ ?_)
   rw [<- ho] at cm
   exact wpAny_bind (cm prog w _ _ (wpAny_pure (wpAny_pure q)))
 ·rintro ⟨r1,r2⟩ z ⟨hr,rfl,us',vs',i,one,hz,ho,L'⟩
  simp only at hr
  subst hr
  have hc:c=false:=by
   cases L' with
   |nil=>rfl
   |same _ _=>simp at hz
   |diff _ _=>simp at hz
  subst hc
  refine wpAny_pure ?_
  rw [hs]
  simpa using q
def tyK:Ky->String
 |.i _=>"int"
 |.s _=>"str"
 |.tt _=>"bool"
 |_=>"tuple"
def eG:Ky->SortKind
 |.cons h _=>tuples' (Value.type (tyK h) != Value.type "tuple")
 |_=>oneType'
def fit:Ky->Bool
 |.i _=>true
 |.s _=>true
 |.cons h _=>match h with|.i _|.s _|.cons _ _=>true|_=>false
 |_=>false
theorem FF {x y:Ky}{A:Around}{s:Shared}{a b:Value}(hx:KR s a x) (hy:KR s b y) (hs:Ky.shp x y=true) (hf:fit x=true) (hu:A.units+x.dep+1<cLine){prog:Program}{w:World}{E:Value->Shared->Prop}{Q:Bool->Shared->Prop}
  (q:Q (Ky.lt x y) s):wpAny (model prog w) A (keyLt' (eG x) a b) Q E s:=by
 obtain ⟨ox,as,ra⟩:=hx
 obtain ⟨oy,bs,rb⟩:=hy
 cases x with
 |i n =>
  cases y<;>first|cases hs|skip
  obtain ⟨t,rfl⟩:=b8 ra
  obtain ⟨u,rfl⟩:=b8 rb
  exact oneLt_int q
 |s n =>
  cases y<;>first|cases hs|skip
  obtain ⟨t,rfl⟩:=b9 ra
  obtain ⟨u,rfl⟩:=b9 rb
  exact oneLt_str q
 |tt v=>cases hf
 |nil=>cases hf
 |cons h t =>
  cases y with
  |cons h' t' =>
   ·obtain ⟨_,_,_,_,rfl,a1,a2,a3,a4⟩:=bz ra
    ·obtain ⟨_,_,_,_,rfl,b1,b2,b3,b4⟩:=bz rb
     have L:=(mf .lt (.cons h t)).2 (A:=A) rfl hs ox oy a4 b4 (by omega)
     refine Au a1 a3 b1 b3 ?_ (by simpa using L.2) q
     simp only [Ky.bT,Bool.and_eq_true] at hs
     simp only [Ky.fg,Bool.and_eq_true] at ox oy
     simp only [Ky.ka] at hu
     clear L
     generalize Array.toList _=us0 at a4 ⊢
     generalize Array.toList _=vs0 at b4 ⊢
     ·obtain ⟨_,_,_,_,rfl,r,rs⟩:=eF a4
      ·obtain ⟨_,_,_,_,rfl,r',rs'⟩:=eF b4
       have eq:=pc (A:=A) hs.1 ox.1.1 oy.1.1 r r' (by omega)
       have rest:=(mf .lt t).2 (A:=A) ox.2 hs.2 ox.1.2 oy.1.2 rs rs' (by omega)
       show LexO A s _ _ _ (Ky.lt (.cons h t) (.cons h' t'))
       simp only [Ky.bx]
       by_cases e:h=h'
       ·rw [decide_eq_true e] at eq
        rw [if_pos e]
        exact .same eq rest.1.o
       ·rw [decide_eq_false e] at eq
        rw [if_neg e]
        refine .diff eq ?_
        cases h with
        |i n =>
         cases h'<;>first|cases hs.1|skip
         obtain ⟨t,rfl⟩:=b8 r
         obtain ⟨u,rfl⟩:=b8 r'
         exact λprog w E Q q=>oneLt_int q
        |s n =>
         cases h'<;>first|cases hs.1|skip
         obtain ⟨t,rfl⟩:=b9 r
         obtain ⟨u,rfl⟩:=b9 r'
         exact λprog w E Q q=>oneLt_str q
        |tt v=>cases hf
        |nil=>cases hf
        |cons h2 t2=>exact dO.one ((mf .lt (.cons h2 t2)).1 (A:=A) hs.1 ox.1.1 oy.1.1 r r' (by omega))
  |_=>cases hs
end S6
namespace S6
open PySem PyProof.Rows PySem.SeqAt
theorem Ky.shp_trans:∀ {a b c:Ky},Ky.shp a b=true->Ky.shp b c=true->Ky.shp a c=true:=by
 intro a
 induction a with
 |cons u v iu iv =>
  intro b c e f
  cases b<;>first|cases e|skip
  cases c<;>first|cases f|skip
  simp only [Ky.bT,Bool.and_eq_true] at *
  exact ⟨iu e.1 f.1,iv e.2 f.2⟩
 |_ =>
     intro b c e f;cases b<;>first|cases e|skip
     all_goals (cases c<;>first|cases f|skip)
     all_goals rfl
theorem Ky.shp_dep:∀ {a b:Ky},Ky.shp a b=true->a.dep=b.dep:=by
 intro a
 induction a with
 |cons u v iu iv =>
  intro b e
  cases b<;>first|cases e|skip
  simp only [Ky.bT,Bool.and_eq_true] at e
  simp only [Ky.ka,iu e.1,iv e.2]
 |_=>intro b e;cases b<;>first|rfl|cases e
theorem tG {a b:Ky}(e:Ky.shp a b=true):tyK b=tyK a:=by
 cases a<;>cases b<;>first|rfl|cases e
theorem C6 {a b:Ky}(e:Ky.shp a b=true):eG b=eG a:=by
 cases a with
 |cons h t =>
  cases b with
  |cons h' t' =>
   simp only [Ky.bT,Bool.and_eq_true] at e
   simp only [eG,tG e.1]
  |_=>cases e
 |_=>cases b<;>first|rfl|cases e
theorem Av {a b:Ky}(e:Ky.shp a b=true) (hf:fit a=true):fit b=true:=by
 cases a with
 |cons h t =>
  cases b with
  |cons h' t' =>
   simp only [Ky.bT,Bool.and_eq_true] at e
   have e1:=e.1
   cases h<;>cases h'<;>first|rfl|(cases hf;done)|(cases e1;done)
  |_=>cases e
 |_=>cases b<;>first|rfl|(cases hf;done)|(cases e;done)
section
variable {M:Model}{A:Around}{E:Value->Shared->Prop}{s:Shared}
theorem jD {α β:Type}{f:α->Sem β}{g:α->β}:∀ {l:List α}{Q:List β->Shared->Prop},(∀ v∈l,∀ Q':β->Shared->Prop,Q' (g v) s->wpAny M A (f v) Q' E s)->Q (l.map g) s->wpAny M A (l.mapM f) Q E s
 |[],Q,_,q=>by rw [List.mapM_nil];exact wpAny_pure q
 |v::l,Q,h,q=>by
  rw [List.mapM_cons]
  refine wpAny_bind (h v (List.mem_cons_self ..) _ (wpAny_bind (jD (λu hu=>h u (List.mem_cons_of_mem _ hu)) (wpAny_pure ?_))))
  exact q
theorem KR.ty {v:Value}{k:Ky}(h:KR s v k):s.TypeIs v (tyK k):=by
 obtain ⟨_,as,r⟩:=h
 cases k<;>simp only [Ky.dat] at r<;>cases r
 ·exact typeIs_int s _ _
 ·exact typeIs_str s _ _
 ·exact PySem.typeIs_bool s _
 ·exact ⟨_,‹_›,‹_›⟩
 ·exact ⟨_,‹_›,‹_›⟩
theorem pG {l:List Value}{T:String}{Q:Option Value->Shared->Prop}(h0:l≠[]) (h:∀ u∈l,s.TypeIs u T) (q:Q (some (.type T)) s):wpAny M A (oneTypeOnly' l.toArray) Q E s:=by
 rw [oneTypeOnly'_eq,List.mapM_toArray,map_eq_pure_bind]
 refine wpAny_bind (wpAny_bind (jD (g:=λ_=>Value.type T) (λu hu Q' q'=>wpAny_typeOf (h u hu) q') (wpAny_pure ?_)))
 cases l with
 |nil=>exact (h0 rfl).elim
 |cons v l =>
  have e0:(List.map (λ_:Value=>Value.type T) (v::l)).toArray[0]?=some (Value.type T):=by simp
  have ea:((List.map (λ_:Value=>Value.type T) (v::l)).toArray.all λx=>x==Value.type T)=true:=by
   simp only [List.all_toArray,List.all_map,List.all_eq_true]
   intro _ _
   show (Value.type T==Value.type T)=true
   exact beq_self_eq_true _
  rw [e0]
  simp only [ea,if_true]
  exact wpAny_pure q
theorem ou (v:Value):firstOfTuple' v=(do
  if (<- typeOf v) != .type "tuple" then return none
  return (<- Builtin.List.listItems v)[0]?):=rfl
def hd1 (s:Shared):Value->Option Value
 |.ref a=>match s.heap.get? a with
  |some o=>match o.data with
   |.seq xs _=>xs[0]?
   |_=>none
  |none=>none
 |_=>none
theorem wM {vs:List Value}{k0:Ky}{Q:SortKind->Shared->Prop}(h0:vs≠[]) (hf:fit k0=true) (hk:∀ v∈vs,∃ k,KR s v k/\Ky.shp k0 k=true) (q:Q (eG k0) s):wpAny M A (keyKind' vs.toArray) Q E s:=by
 rw [keyKind'_eq,List.mapM_toArray,map_eq_pure_bind]
 have flat:∀ T:String,(Value.type T != Value.type "tuple")=true->(∀ v∈vs,s.TypeIs v T)->eG k0=oneType'->wpAny M A (do
   let firsts <- vs.mapM firstOfTuple' >>= λx=>pure x.toArray
   if firsts.all (·.isSome) then
    rule "list.sort.keys-are-tuples"
    return tuples' ((<- oneTypeOnly' (firsts.filterMap id)).any (· != .type "tuple"))
   if (firsts[0]?.bind id).isSome then return general'
   return if (<- oneTypeOnly' vs.toArray).isSome then oneType' else general') Q E s:=by
  intro T hT ht hkd
  refine wpAny_bind (wpAny_bind (jD (g:=λ_=>none) (λv hv Q' q'=>?_) (wpAny_pure ?_)))
  ·rw [ou]
   refine wpAny_bind (wpAny_typeOf (ht v hv) ?_)
   rw [if_pos hT]
   exact wpAny_pure q'
  ·cases vs with
   |nil=>exact (h0 rfl).elim
   |cons v l =>
    rw [if_neg (by simp),if_neg (by simp)]
    refine wpAny_bind (pG (by simp) ht ?_)
    rw [hkd] at q
    exact wpAny_pure q
 cases k0 with
 |tt v=>cases hf
 |nil=>cases hf
 |i n =>
  refine flat "int" (by decide) (λv hv=>?_) rfl
  obtain ⟨k,r,e⟩:=hk v hv
  cases k<;>first|exact r.ty|cases e
 |s n =>
  refine flat "str" (by decide) (λv hv=>?_) rfl
  obtain ⟨k,r,e⟩:=hk v hv
  cases k<;>first|exact r.ty|cases e
 |cons h t =>
  have each:∀ v∈vs,∃ a o xs n u,v=.ref a/\s.heap.get? a=some o/\o.cls=.type "tuple" /\ o.data=.seq xs n/\xs[0]?=some u/\s.TypeIs u (tyK h):=by
   intro v hv
   obtain ⟨k,⟨ok,as,r⟩,e⟩:=hk v hv
   cases k with
   |cons h' t' =>
    simp only [Ky.dat] at r
    cases r with
    |tuple a1 a2 a3 a4 =>
     rename_i xs n
     generalize hl:xs.toList=l at a4
     cases a4 with
     |cons r rs =>
      rename_i u us _ _
      simp only [Ky.fg,Bool.and_eq_true] at ok
      simp only [Ky.bT,Bool.and_eq_true] at e
      have ty:s.TypeIs u (tyK h'):=KR.ty ⟨ok.1.1,_,r⟩
      have et:tyK h'=tyK h:=tG e.1
      refine ⟨_,_,xs,_,u,rfl,a1,a2,a3,?_,et ▸ ty⟩
      rw [<- Array.getElem?_toList,hl];rfl
   |_=>cases e
  have gh:∀ v∈vs,∃ u,hd1 s v=some u/\s.TypeIs u (tyK h):=by
   intro v hv
   obtain ⟨a,o,xs,n,u,rfl,h1,_,h3,h4,h5⟩:=each v hv
   exact ⟨u,by simp only [hd1,h1,h3,h4],h5⟩
  refine wpAny_bind (wpAny_bind (jD (g:=hd1 s) (λv hv Q' q'=>?_) (wpAny_pure ?_)))
  ·obtain ⟨a,o,xs,n,u,rfl,h1,h2,h3,h4,h5⟩:=each v hv
   rw [ou]
   refine wpAny_bind (wpAny_typeOf (T:="tuple") ⟨o,h1,h2⟩ ?_)
   rw [if_neg (by decide)]
   refine wpAny_bind (listItems_at h1 h3 (wpAny_pure ?_))
   simpa only [hd1,h1,h3] using q'
  ·have all:(List.map (hd1 s) vs).toArray.all (·.isSome)=true:=by
    simp only [List.all_toArray,List.all_map,List.all_eq_true]
    intro v hv
    obtain ⟨u,e,_⟩:=gh v hv
    show (hd1 s v).isSome=true
    rw [e];rfl
   rw [if_pos all]
   refine wpAny_bind (wpAny_rule ?_)
   have fm:(List.map (hd1 s) vs).toArray.filterMap id=((List.map (hd1 s) vs).filterMap id).toArray:=by simp
   rw [fm]
   refine wpAny_bind (pG (T:=tyK h) ?_ (λu hu=>?_) (wpAny_pure q))
   ·cases vs with
    |nil=>exact (h0 rfl).elim
    |cons v l =>
     obtain ⟨u,e,_⟩:=gh v (List.mem_cons_self ..)
     simp [e]
   ·rw [List.mem_filterMap] at hu
    obtain ⟨x,hx,ex⟩:=hu
    rw [List.mem_map] at hx
    obtain ⟨v,hv,rfl⟩:=hx
    obtain ⟨u',e,ht⟩:=gh v hv
    rw [show id (hd1 s v)=hd1 s v from rfl,e] at ex
    cases ex;exact ht
end
theorem la {α:Type}{prog:Program}{w:World}{A:Around}{E:Value->Shared->Prop}{s:Shared}{ks us:List Value}{k0:Ky}{rest:Unit×SortSt->Sem α}{Q:α->Shared->Prop}(hl:ks.length=us.length) (h64:us.length<64) (hf:fit k0=true)
  (hk:∀ v∈ks,∃ k,KR s v k/\Ky.shp k0 k=true) (hu:A.units+k0.dep+1<cLine)
  (h:∀ st:SortSt,(arrOf st).Perm (ks.toArray.zip us.toArray)->failedOf st=none->(∀ i j (hj:j<(arrOf st).size) (hi:i<(arrOf st).size),i<=j->Ky.lt (cy s (arrOf st)[j].1) (cy s (arrOf st)[i].1)=false)->wpAny (model prog w) A (rest ((),st)) Q E s) :
  wpAny (model prog w) A (do
   let kind <- if us.toArray.size<2 then pure general' else keyKind' ks.toArray
   let r <- (if us.toArray.size<2 then pure () else sortRuns').run (SortSt.mk' kind (ks.toArray.zip us.toArray) #[] 7 none)
   rest r) Q E s:=by
 have sz:(ks.toArray.zip us.toArray).size=us.length:=by simp [hl]
 by_cases h2:us.toArray.size<2
 ·rw [if_pos h2,if_pos h2]
  refine wpAny_bind (wpAny_pure ?_)
  dsimp only
  rw [StateT.run_pure]
  refine wpAny_bind (wpAny_pure (h _ (Array.Perm.refl _) rfl λi j hj hi ij=>?_))
  have e:i=j:=by
   have:j<(ks.toArray.zip us.toArray).size:=hj
   rw [sz] at this
   simp only [List.size_toArray] at h2
   omega
  subst e
  exact Ky.irr _
 ·rw [if_neg h2,if_neg h2]
  simp only [List.size_toArray] at h2
  refine wpAny_bind (wM (k0:=k0) (by intro e;rw [e] at hl;simp at hl;omega) hf hk ?_)
  have key:∀ v∈ks,KR s v (cy s v)/\Ky.shp k0 (cy s v)=true:=λv hv=>by
   obtain ⟨k,r,e⟩:=hk v hv
   rw [eI r];exact ⟨r,e⟩
  have mem:∀ p∈(ks.toArray.zip us.toArray).toList,p.1∈ks:=λp hp=>by
   rw [show (ks.toArray.zip us.toArray).toList=ks.zip us by simp] at hp
   exact (List.of_mem_zip hp).1
  have shp2:∀ x∈ks.map (cy s),∀ y∈ks.map (cy s),Ky.shp x y=true:=λx hx y hy=>by
   rw [List.mem_map] at hx hy
   obtain ⟨v,hv,rfl⟩:=hx
   obtain ⟨v',hv',rfl⟩:=hy
   exact Ky.shp_trans (Ky.yF (key v hv).2) (key v' hv').2
  let ρ:Keyed->Nat:=λp=>rnk (ks.map (cy s)) (cy s p.1)
  have C:Cm prog w A s (eG k0) (ks.toArray.zip us.toArray) ρ:=λx y hx hy E' Q' q'=>by
   have mx:=mem x hx
   have my:=mem y hy
   have q2:Q' (Ky.lt (cy s x.1) (cy s y.1)) s:=by
    rw [<- tF shp2 (List.mem_map_of_mem mx) (List.mem_map_of_mem my)];exact q'
   rw [<- C6 (key x.1 mx).2]
   refine FF (key x.1 mx).1 (key y.1 my).1 (shp2 _ (List.mem_map_of_mem mx) _ (List.mem_map_of_mem my)) (Av (key x.1 mx).2 hf) ?_ q2
   rw [<- Ky.shp_dep (key x.1 mx).2];exact hu
  refine wpAny_bind (wpAny_mono (C4 (E:=E) (st:=SortSt.mk' (eG k0) (ks.toArray.zip us.toArray) #[] 7 none) (Q:=λ_ z=>(arrOf z).Perm (ks.toArray.zip us.toArray)/\failedOf z=none/\Up ρ (arrOf z) (ks.toArray.zip us.toArray).size) C ⟨Array.Perm.refl _,rfl,rfl,rfl⟩ (by rw [sz];omega) (by rw [sz];exact h64)
   λz a1 a2 a3=>⟨a1,a2,a3⟩) ?_ λ_ _ e=>e)
  rintro ⟨⟨⟩,z⟩ s' ⟨rfl,zp,zf,zu⟩
  refine h z zp zf λi j hj hi ij=>?_
  have up:=zu i j ij (by rw [<- zp.size_eq];exact hj)
  have mz:∀ k (hk:k<(arrOf z).size),(arrOf z)[k].1∈ks:=λk hk=>mem _ ((Array.perm_iff_toList_perm.mp zp).mem_iff.mp (by simp))
  have e1:∀ k (hk:k<(arrOf z).size),rk ρ (arrOf z) k=ρ (arrOf z)[k]:=λk hk=>by unfold rk;rw [getElem?_pos _ k hk];rfl
  rw [e1 i hi,e1 j hj] at up
  rw [<- tF shp2 (List.mem_map_of_mem (mz j hj)) (List.mem_map_of_mem (mz i hi))]
  exact decide_eq_false (Nat.not_lt.mpr up)
end S6
namespace T2
open PySem PySem.Spec PyProof.Rows L2 S6
mutual
def tre:Ky->T
 |.i n=>.int n
 |.s x=>.str x
 |.tt v=>.bl v
 |.nil=>.tup []
 |.cons h t=>.tup (tre h::iU t)
def iU:Ky->List T
 |.cons h t=>tre h::iU t
 |_=>[]
end
theorem lq:∀ k:Ky,bK (tre k)=some k.dat/\bf (iU k)=some k.row
 |.i n=>⟨rfl,rfl⟩
 |.s n=>⟨rfl,rfl⟩
 |.tt n=>⟨rfl,rfl⟩
 |.nil=>⟨rfl,rfl⟩
 |.cons h t=>by
  have h1:=(lq h).1
  have h2:=(lq t).2
  exact ⟨by show (bf (tre h::iU t)).map PyData.tuple=_;rw [rg h1 h2];rfl,rg h1 h2⟩
theorem nE {X:Cx}{K:Fg}{pins:List (Addr×Obj)}{σ:L2.St}{H:Hp}{S:Sto}{s:Shared}{k:Ky}{v:V}{u:Value}(hK:X.K=K) (I:Inv X pins σ H s) (r:Rp K H S (tre k) v) (rv:ao v u) (ok:Ky.ok k=true):KR s u k:=by
 subst hK
 exact ⟨ok,dW I (l8 r (lq k).1) rv⟩
theorem gg {α β:Type}(f:α->β){m n:List β}(h:m.Perm n):∀ {l:List α},n=l.map f->∃ l':List α,l'.Perm l/\m=l'.map f:=by
 induction h with
 |nil =>
  intro l e
  exact ⟨[],by rw [List.map_eq_nil_iff.mp e.symm],rfl⟩
 |cons x _ ih =>
  intro l e
  cases l with
  |nil=>cases e
  |cons a l =>
   simp only [List.map_cons,List.cons.injEq] at e
   obtain ⟨l',p,q⟩:=ih e.2
   exact ⟨a::l',p.cons a,by rw [List.map_cons,q,e.1]⟩
 |swap x y z =>
  intro l e
  cases l with
  |nil=>cases e
  |cons a l =>
   cases l with
   |nil=>simp at e
   |cons b l =>
    simp only [List.map_cons,List.cons.injEq] at e
    exact ⟨b::a::l,List.Perm.swap a b l,by rw [List.map_cons,List.map_cons,e.1,e.2.1,e.2.2]⟩
 |trans _ _ ih1 ih2 =>
  intro l e
  obtain ⟨l',p,q⟩:=ih2 e
  obtain ⟨l2,p2,q2⟩:=ih1 q
  exact ⟨l2,p2.trans p,q2⟩
structure Rec where
 t:T
 v:V
 u:Value
 ku:Value
section
variable {X:Cx}{K:Fg}{pins:List (Addr×Obj)}{σ:L2.St}{H H':Hp}{S:Sto}{s:Shared}
theorem jE:∀ {ts:List T}{vs:List V}{us ks:List Value},Rps K H S ts vs->aj vs us->ks.length=us.length->∃ R:List Rec,R.map (·.t)=ts/\R.map (·.v)=vs/\R.map (·.u)=us/\R.map (·.ku)=ks/\∀ r∈R,Rp K H S r.t r.v/\ao r.v r.u
 |_,_,_,[],.nil,.nil,_=>⟨[],rfl,rfl,rfl,rfl,λ_ h=>by cases h⟩
 |_,_,_,_::_,.nil,.nil,h=>by simp at h
 |_,_,_,[],.cons _ _,.cons _ _,h=>by simp at h
 |t::ts,v::vs,u::us,k::ks,.cons a b,.cons c d,h=>by
  obtain ⟨R,e1,e2,e3,e4,e5⟩:=jE b d (by simpa using h)
  refine ⟨⟨t,v,u,k⟩::R,by simp [e1],by simp [e2],by simp [e3],by simp [e4],λr hr=>?_⟩
  rcases List.mem_cons.mp hr with rfl|hr
  ·exact ⟨a,c⟩
  ·exact e5 r hr
theorem js:∀ {R:List Rec},(∀ r∈R,Rp K H S r.t r.v/\ao r.v r.u)->Rps K H S (R.map (·.t)) (R.map (·.v))/\aj (R.map (·.v)) (R.map (·.u))
 |[],_=>⟨.nil,.nil⟩
 |r::R,h=>by
  obtain ⟨a,b⟩:=h r (List.mem_cons_self ..)
  obtain ⟨c,d⟩:=js λx hx=>h x (List.mem_cons_of_mem _ hx)
  exact ⟨.cons a c,.cons b d⟩
end
theorem wg (a f:Value):argsOk "sorted" ⟨[a],[(Str.ofString "key",f)]⟩:=by unfold argsOk;kernel_rfl
theorem vY (a f:Value):argsOk "list.sort" ⟨[a],[(Str.ofString "key",f)]⟩:=by unfold argsOk;kernel_rfl
theorem kM {prog:Program}{w:World}{A:Around}{E:Value->Shared->Prop}{s:Shared}{Ty:String}{name:Str}{id:String}{b:Builtin}{self:Value}{rest:List Value}{kw:List (Str×Value)}{Q:Value->Shared->Prop}(h:Slot Ty name id) (hT:s.TypeIs self Ty)
  (hb:entryFor table id=some b) (hc:wpAny (model prog w) A.in1 (b ⟨self::rest,kw⟩) (λfin s'=>∃ v,fin=.done (.ret v)/\Q v s') E s) (ha:argsOk id ⟨self::rest,kw⟩):wpAny (model prog w) A (call (.builtin id) (self::rest) kw) Q E s:=by
 refine wpAny_call (codeAny_call_builtin h.plain hb (h.check _ _ _ _ _ _ _ _ hT ha (wpAny_mono hc (λfin s' h'=>?_) λ_ _ h'=>h')))
 obtain ⟨v,rfl,hv⟩:=h';exact hv
theorem wx (a fa:Addr):Builtin.«list.sort» ⟨[.ref a],[(Str.ofString "key",.ref fa)]⟩=(do
  let items <- Builtin.List.listItems (.ref a)
  Builtin.List.listUpdate (.ref a) λ_=>#[]
  let before <- seqEpoch a
  let held <- newTuple items.toList
  let keyStore <- newList []
  holding [held,keyStore] do
   rule "list.sort.key"
   for x in items do
    match <- (call (.ref fa) [x]).attempt with
    |.ok k=>Builtin.List.listUpdate keyStore (·.push k)
    |.error e =>
     rule "list.sort.key-raised"
     let made <- Builtin.List.listItems keyStore
     Builtin.List.listUpdate keyStore λ_=>#[]
     letGo made.toList.reverse [e]
     Builtin.List.listUpdate (.ref a) λ_=>items;throw e
   let keys <- Builtin.List.listItems keyStore
   let kind <- if items.size<2 then pure general' else keyKind' keys
   let ((),s) <- (if items.size<2 then pure () else sortRuns').run (SortSt.mk' kind (keys.zip items) #[] 7 none)
   let sorted:=(arrOf s).map (·.2)
   Builtin.List.listUpdate keyStore λ_=>#[]
   letGo ((arrOf s).map (·.1)).toList (failedOf s).toList
   let touched:=(<- seqEpoch a) != before
   Builtin.List.listUpdate (.ref a) λ_=>sorted
   if let some e:=failedOf s then rule "list.sort.comparison-raised";throw e
   if touched then rule "list.sort.modified";raiseError "ValueError" "list modified during sort"
   ret .none):=by rfl
section
variable {X:Cx}{K:Fg}{pins:List (Addr×Obj)}{σ:L2.St}{H H':Hp}{S:Sto}{s:Shared}
theorem iC {D:Addr}{φ:Heap->Prop}{ws:List V}{its its':List Value}{n:Nat}{f:Array Value->Array Value}(I:Inv X pins σ H s) (h:H D=some (.ext φ)) (e:s.heap.get? D=some (seqObj "list" its.toArray n)) (hf:f its.toArray=its'.toArray) (r:aj ws its') (hz:ws.length<=sizeLine) :
  Inv X pins σ (upd H D (a9 D ws)) { s with heap:=s.heap.update D (Obj.mapSeq f) }:=by
 obtain ⟨hh,g,d,t,os⟩:=s
 have e2:=get?_update_seq e f
 rw [hf] at e2
 refine I.write (t':=t) (h':=hh.update D (Obj.mapSeq f)) (x:=D) (e:=D) (by rw [h];trivial) (.inl rfl) (λb u hb q=>(Heap.get?_update_other _ _ (Ne.symm hb)).trans q) ⟨_,e2⟩ ⟨⟨hz,its',_,r,e2⟩,⟨_,e2⟩,λh1 h2 ⟨z',i',n',r',q'⟩ k=>⟨z',i',n',r',k _ q'⟩⟩
theorem uN {D:Addr}{zs:List V}(I:Inv X pins σ H s) (h:H D=some (a9 D zs)):zs.length<=sizeLine/\∃ its n,aj zs its/\s.heap.get? D=some (seqObj "list" its.toArray n):=by
 obtain ⟨⟨z,its,n,r,e⟩,_,_⟩:=I.hok D _ h
 exact ⟨z,its,n,r,e⟩
theorem mK {D:Addr}{zs:List V}{its:List Value}{n t':Nat}{h':Heap}(I:Inv X pins σ H s) (k:∀ b u,s.heap.get? b=some u->h'.get? b=some u) (hp:s.heap.objs.size<=D) (r:aj zs its) (hz:zs.length<=sizeLine)
  (e:h'.get? D=some (seqObj "list" its.toArray n)):Inv X pins σ (upd H D (a9 D zs)) { s with heap:=h',toks:=t' } :=
 I.laid k hp ⟨⟨hz,its,n,r,e⟩,⟨_,e⟩,λh1 h2 zz94 k=>by obtain ⟨z',i',n',r',q'⟩:=zz94;exact ⟨z',i',n',r',k _ q'⟩⟩
end
def bD (D:Addr) (o:Obj):HO:=.ext λh=>h.get? D=some o
theorem mL {X:Cx}{pins:List (Addr×Obj)}{σ:L2.St}{H:Hp}{s:Shared}{D:Addr}{o:Obj}{t':Nat}{h':Heap}(I:Inv X pins σ H s) (k:∀ b u,s.heap.get? b=some u->h'.get? b=some u) (hp:s.heap.objs.size<=D) (e:h'.get? D=some o):Inv X pins σ (upd H D (bD D o)) { s with heap:=h',toks:=t' } :=
 I.laid k hp ⟨e,⟨_,e⟩,λh1 h2 p k=>k _ p⟩
theorem nF {X:Cx}{pins:List (Addr×Obj)}{σ:L2.St}{H:Hp}{s:Shared}{D:Addr}{o:Obj}(I:Inv X pins σ H s) (h:H D=some (bD D o)):s.heap.get? D=some o:=(I.hok D _ h).1
def kC (tr:Bool) (xs:List T) (κ:T->Ky) (S:Sto) (Q:T->Sto->Prop):Prop:=∀ zs:List T,zs.Perm xs->zs.Pairwise (λa b=>Ky.lt (κ b) (κ a)=false)->bi tr zs S Q
def mM (tr:Bool) (f:Addr) (wsp:WSp):List T->List T->Sto->(T->Sto->Prop)->Prop:=λts us S Q=>∃ x xs κ k0,ts=[x]/\us=[.ref f]/\aS S x=some xs/\xs.length<64/\fit k0=true/\k0.dep<=30 /\
 (∀ t∈xs,Ky.ok (κ t)=true/\Ky.shp k0 (κ t)=true/\∀ S' Q',Q' (tre (κ t)) S'->wsp [t] S' Q')/\kC tr xs κ S Q
def lCK (K:Fg) (g:List T->List T->Sto->(T->Sto->Prop)->Prop):List V->List V->Hp->VK->Prop:=λxs zs H Q=>∃ S ts us Qt,SRp K H S/\Rps K H S ts xs/\Rps K H S us zs/\g ts us S Qt/\Bh K H S Qt Q
theorem Aw {X:Cx}{K:Fg}(tr:Bool){k:Nat}{f:Addr}{fd:FuncData}{x p:Str}{wsp:WSp}(hK:X.K=K) (F:FnOk X.prog X.w X.K X.mg X.base CX0 k f fd [p] (lSp K wsp)) (D:Df X.K X.mg x f fd [p]) (hr:Room (k+2) X.A) :
  sR X (.builtin "sorted") [Str.ofString "key"] (lCK K (mM tr f wsp)):=by
 rintro pins s σ H xs zs us ws Q I rv rz ⟨S,ts,us',Qt,sr,r1,r2,⟨x,ls,κ,k0,e1,e2,ev,h64,hf,hd,hk,hq⟩,b⟩
 subst e1 e2
 cases r1 with
 |cons rx rnil =>
 cases rnil
 cases r2 with
 |cons rf rnil =>
 cases rnil
 cases rf
 obtain ⟨u,rfl,ru⟩:=bZ rv
 obtain ⟨u',rfl,ru'⟩:=bZ rz
 obtain ⟨pl,vs,rfl,hS,rs⟩:=ce sr rx ev
 cases ru
 cases ru'
 have hS':SqL X.K H pl vs:=by rw [hK];exact hS
 obtain ⟨its,rvs,hpl,hz⟩:=I.list hS'
 obtain ⟨o,n,eo,ec,_,ed⟩:=hpl
 have hlen:its.length=ls.length:=by rw [<- rvs.length,rs.length]
 have hsl:its.length<=sizeLine:=by rw [<- rvs.length];exact hz
 show wpAny _ X.A (call (.builtin "sorted") [.ref pl] [(Str.ofString "key",.ref f)]) _ _ s
 refine kN kind_sorted plain_sorted entry_sorted (wg _ _) ?_
 unfold Builtin.«sorted»
 refine wpAny_bind (m:=checkCount "sorted" 1 1 _) (wpAny_pure ?_)
 refine wpAny_bind (collect_list (l:=pl) (vs:=its) ⟨o,eo,ec,n,ed⟩ ?_ hsl)
 refine wpAny_bind (wpAny_newList ?_ hsl)
 generalize hh1:(s.heap.push (seqObj "list" #[] 0)).update s.heap.objs.size (Obj.mapSeq (·++its.toArray))=h1
 have old1:∀ b u,s.heap.get? b=some u->h1.get? b=some u:=λb u e=>by
  rw [<- hh1]
  exact (Heap.get?_update_other _ _ (Ne.symm (Nat.ne_of_lt (Heap.lt_size e)))).trans (Heap.get?_push_of_some _ e)
 have sz1:s.heap.objs.size<=h1.objs.size:=by rw [<- hh1,Heap.size_update,size_push'];omega
 dsimp only
 have hoL:(h1.push (seqObj "list" its.toArray 0)).get? h1.objs.size=some (seqObj "list" its.toArray 0):=Heap.get?_push_size _ rfl
 refine wpAny_bind (wpAny_holding (kM slot_list_sort (Ty:="list") ⟨_,hoL,rfl⟩ entry_list_sort ?_ (vY _ _)))
 rw [wx]
 refine wpAny_bind (listItems_at hoL rfl ?_)
 refine wpAny_bind (listUpdate_at hoL rfl ?_ (by simpa using hsl) (by simp))
 obtain ⟨ep,ho1⟩:∃ ep,((h1.push (seqObj "list" its.toArray 0)).update h1.objs.size (Obj.mapSeq λ_=>#[])).get? h1.objs.size=some (seqObj "list" #[] ep):=⟨_,get?_update_seq hoL (λ_=>#[])⟩
 refine wpAny_bind (seqEpoch_at ho1 rfl ?_)
 generalize hL:h1.objs.size=L at *
 generalize hh2:(h1.push (seqObj "list" its.toArray 0)).update L (Obj.mapSeq λ_=>#[])=h2 at *
 have szh2:h2.objs.size=L+1:=by rw [<- hh2,Heap.size_update,size_push',hL]
 have I2:Inv X pins σ (upd H L (bD L (seqObj "list" #[] ep))) { s with heap:=h2,toks:=s.toks } :=
  mL I (λb u e=>by rw [<- hh2];exact (Heap.get?_update_other _ _ (Ne.symm (Nat.ne_of_lt (Nat.lt_of_lt_of_le (Heap.lt_size e) sz1)))).trans (Heap.get?_push_of_some _ (old1 b u e))) sz1 ho1
 refine wpAny_bind (wpAny_newTuple ?_ (by simpa using hsl))
 refine wpAny_bind (wpAny_newList ?_)
 dsimp only
 generalize hh3:h2.push { cls:=.type "tuple",data:=.seq its.toArray.toList.toArray }=h3
 have szh3:h3.objs.size=L+2:=by rw [<- hh3,size_push',szh2]
 generalize hh4:h3.push { cls:=.type "list",data:=.seq ([]:List Value).toArray }=h4
 rw [szh3]
 have I4:Inv X pins σ (upd (upd H L (bD L (seqObj "list" #[] ep))) (L+2) (a9 (L+2) [])) { s with heap:=h4,toks:=s.toks } :=
  mK (s:={ s with heap:=h2,toks:=s.toks }) I2 (λb u e=>by rw [<- hh4,<- hh3];exact Heap.get?_push_of_some _ (Heap.get?_push_of_some _ e)) (by show h2.objs.size<=_;omega) .nil (Nat.zero_le _) (by rw [<- hh4,<- szh3];exact Heap.get?_push_size _ rfl)
 have ne1:L+2≠L:=Nat.ne_of_gt (Nat.lt_add_of_pos_right (by decide))
 have ne2:L≠L+2:=Ne.symm ne1
 have nL:H L=none:=I.hok.fresh sz1
 have nk:H (L+2)=none:=I.hok.fresh (by omega)
 have nk2:upd H L (bD L (seqObj "list" #[] ep)) (L+2)=none:=by rw [av ne1];exact nk
 refine wpAny_holding (wpAny_bind (wpAny_rule (wpAny_bind ?_)))
 refine PySem.MeetsSeq2.wpAny_forIn_array _ (λrest _ s'=>∃ i kvs Hc,rest=its.drop i/\i<=its.length/\Inv X pins σ Hc s'/\Hc L=some (bD L (seqObj "list" #[] ep))/\Hc (L+2)=some (a9 (L+2) kvs)/\S L=none/\S (L+2)=none/\Fr H S Hc S/\SRp K Hc S/\Rps K Hc S ((ls.take i).map λt=>tre (κ t)) kvs) _ ?_ ?_ _ _
  ⟨0,[],_,by simp,Nat.zero_le _,I4,by rw [av ne2];exact aF,aF,sr.fresh nL,sr.fresh nk,(Fr.new nL).trans (Fr.new nk2),(sr.new nL).new nk2,.nil⟩
 ·rintro u0 rest ⟨⟩ s' ⟨i,kvs,Hc,hrest,hi,Ic,eL,ek,nSL,nSk,fc,sc,rk⟩
  have il:i<its.length:=by
   rcases Nat.lt_or_ge i its.length with z|z
   ·exact z
   ·rw [List.drop_eq_nil_of_le z] at hrest;cases hrest
  have hi1:its[i]?=some its[i]:=by simp [il]
  rw [jA hi1] at hrest
  obtain ⟨rfl,rfl⟩:=List.cons.inj hrest
  have il2:i<ls.length:=by rw [<- hlen];exact il
  have hi2:ls[i]?=some ls[i]:=by simp [il2]
  obtain ⟨v,ev,rv0⟩:=rs.get hi2
  obtain ⟨u1,eu,ru1⟩:=rvs.get ev
  rw [hi1] at eu;cases eu
  have hkt:=hk ls[i] (by simp)
  refine wpAny_bind (wpAny_attempt (wpAny_call (codeAny_mono (F.run X.A.in1.in1 X.stack s' Hc ⟨[its[i]],[]⟩ [its[i]] [v] (λv' H'=>Fr Hc S H' S/\SRp K H' S/\Rp K H' S (tre (κ ls[i])) v') E0 hr.in1.in1 Ic.env0.in1.in1 (D.b s' [its[i]] Ic.kIn rfl) (.cons ru1 .nil)
   ⟨S,[ls[i]],λk' S'=>S'=S/\k'=tre (κ ls[i]),sc,.cons (rv0.fr fc) .nil,hkt.2.2 S _ ⟨rfl,rfl⟩,λv' H' t' S' f' s' r' q'=>by obtain ⟨rfl,rfl⟩:=q';exact ⟨f',s',r'⟩⟩) λr s2 hr2=>?_)))
  cases r with
  |error e=>exact False.elim hr2
  |ok fl =>
   cases fl with
   |next=>exact False.elim hr2
   |brk=>exact False.elim hr2
   |cont=>exact False.elim hr2
   |ret ku =>
    obtain ⟨v',H',I',r',f',s'',rp'⟩:=Ic.after hr2
    have ek':=(f' (L+2) _ ek nSk).1
    have eL':=(f' L _ eL nSL).1
    obtain ⟨zz,kus,nn,rku,eku⟩:=uN I' ek'
    have lk:kvs.length=i:=by rw [rk.length];simp;omega
    have lk2:kus.length=i:=by rw [<- rku.length];exact lk
    dsimp only
    refine wpAny_bind (listUpdate_at eku rfl ?_ (by simp;omega) (by simp;omega))
    refine wpAny_pure ⟨i+1,kvs++[v'],_,rfl,il,iC I' ek' eku (its':=kus++[ku]) (by simp) (rku.append (.cons r' .nil)) (by simp;omega),?_,aF,nSL,nSk,?_,s''.chg ek' nSk,?_⟩
    ·rw [av ne2];exact eL'
    ·exact Fr.at (fc.trans f') nk
    ·rw [List.take_add_one,hi2]
     simp only [Option.toList_some,List.map_append,List.map_cons,List.map_nil]
     exact Rps.chg ek' ((rk.fr f').append (.cons rp' .nil))
 ·rintro ⟨⟩ s5 ⟨i,kvs,Hc,hrest,hi,I5,eL,ek,nSL,nSk,fc,sc,rk⟩
  have hi':i=ls.length:=by
   rcases Nat.lt_or_ge i its.length with z|z
   ·have hi1:its[i]?=some its[i]:=by simp [z]
    rw [jA hi1] at hrest;cases hrest
   ·omega
  subst hi'
  rw [List.take_length] at rk
  obtain ⟨zz,kus,nn,rku,eku⟩:=uN I5 ek
  have lk2:kus.length=its.length:=by rw [<- rku.length,rk.length,List.length_map,hlen]
  have rs5:=rs.fr fc
  obtain ⟨R,q1,q2,q3,q4,q5⟩:=jE rs5 rvs lk2
  have key:∀ r∈R,KR s5 r.ku (κ r.t)/\Ky.shp k0 (κ r.t)=true:=by
   have rkk:Rps K Hc S (R.map λr=>tre (κ r.t)) kvs:=by
    have:R.map (λr=>tre (κ r.t))=ls.map λt=>tre (κ t):=by rw [<- q1,List.map_map];rfl
    rw [this];exact rk
   have go:∀ {R:List Rec}{kvs:List V},Rps K Hc S (R.map λr=>tre (κ r.t)) kvs->aj kvs (R.map (·.ku))->(∀ r∈R,r.t∈ls)->∀ r∈R,KR s5 r.ku (κ r.t)/\Ky.shp k0 (κ r.t)=true:=by
    intro R
    induction R with
    |nil=>intro _ _ _ _ r hr;cases hr
    |cons r0 R ih =>
     intro kvs a b m r hr
     cases a with
     |cons a1 a2 =>
      cases b with
      |cons b1 b2 =>
       rcases List.mem_cons.mp hr with rfl|hr
       ·have:=hk r.t (m r (List.mem_cons_self ..))
        exact ⟨nE hK I5 a1 b1 this.1,this.2.1⟩
       ·exact ih a2 b2 (λx hx=>m x (List.mem_cons_of_mem _ hx)) r hr
   exact go rkk (by rw [q4];exact rku) λr hr=>by rw [<- q1];exact List.mem_map_of_mem hr
  refine wpAny_bind (listItems_at eku rfl ?_)
  refine la (k0:=k0) lk2 (by rw [hlen];exact h64) hf (λv hv=>?_) (by have:=hr.in1.in1.units;omega) λst hp hfail hsrt=>?_
  ·rw [<- q4] at hv
   obtain ⟨r,hr,rfl⟩:=List.mem_map.mp hv
   exact ⟨_,key r hr⟩
  ·obtain ⟨R',pR,eR⟩:=gg (λr:Rec=>((r.ku,r.u):Keyed)) (Array.perm_iff_toList_perm.mp hp) (l:=R) (by
    have:(kus.toArray.zip its.toArray).toList=kus.zip its:=by simp
    rw [this,<- q3,<- q4]
    exact List.zip_map')
   have memR:∀ r∈R',r∈R:=λr hr=>pR.mem_iff.mp hr
   obtain ⟨rz,vz⟩:=js λr hr=>q5 r (memR r hr)
   have lR:R'.length=its.length:=by rw [pR.length_eq,<- q3,List.length_map]
   have szR:(arrOf st).size=R'.length:=by rw [<- Array.length_toList,eR,List.length_map]
   have at_:∀ k (h:k<(arrOf st).size) (h':k<R'.length),(arrOf st)[k].1=R'[k].ku:=λk h h'=>by
    have e1:(arrOf st)[k]=(arrOf st).toList[k]'(by simpa using h):=by simp
    rw [e1,List.getElem_of_eq eR,List.getElem_map]
   have srt:(R'.map (·.t)).Pairwise (λa b=>Ky.lt (κ b) (κ a)=false):=by
    rw [List.pairwise_map,List.pairwise_iff_getElem]
    intro i j hi hj ij
    have:=hsrt i j (by rw [szR];exact hj) (by rw [szR];exact hi) (Nat.le_of_lt ij)
    rw [at_ i (by rw [szR];exact hi) hi,at_ j (by rw [szR];exact hj) hj,eI (key _ (memR _ (List.getElem_mem hi))).1,eI (key _ (memR _ (List.getElem_mem hj))).1] at this
    exact this
   have fin:=hq (R'.map (·.t)) (by rw [<- q1];exact pR.map _) srt
   have eL5:=nF I5 eL
   have out:(arrOf st).map (·.2)=(R'.map (·.u)).toArray:=by
    apply Array.toList_inj.mp
    rw [Array.toList_map,eR,List.map_map]
    rfl
   dsimp only
   refine wpAny_bind (listUpdate_at eku rfl ?_ (by simp;omega) (by simp))
   refine wpAny_bind (wpAny_letGo ?_)
   have I6:=iC I5 ek eku (f:=λ_=>#[]) (its':=[]) (ws:=[]) rfl .nil (Nat.zero_le _)
   have eL6:(s5.heap.update (L+2) (Obj.mapSeq λ_=>#[])).get? L=some (seqObj "list" #[] ep):=(Heap.get?_update_other _ _ ne1).trans eL5
   have hL6:upd Hc (L+2) (a9 (L+2) []) L=some (bD L (seqObj "list" #[] ep)):=by rw [av ne2];exact eL
   refine wpAny_bind (seqEpoch_at eL6 rfl ?_)
   refine wpAny_bind (listUpdate_at eL6 rfl ?_ (by simp) (by rw [out];simp;omega))
   rw [hfail]
   simp only [bne_self_eq_false,Bool.false_eq_true,if_false]
   have I7:=iC I6 hL6 (its:=[]) eL6 (f:=λ_=>(arrOf st).map (·.2)) (its':=R'.map (·.u)) out vz (by rw [List.length_map,lR];exact hsl)
   have I8:=I7.ofAcc (D:=L) aF
   rw [gj] at I8
   refine wpAny_pure ⟨_,rfl,wpAny_pure ⟨.ref L,_,I8,rfl,?_⟩⟩
   have s6:=sc.chg (o:=a9 (L+2) []) ek nSk
   have r6:=Rps.chg (o:=a9 (L+2) []) ek rz
   have f6:Fr H S (upd Hc (L+2) (a9 (L+2) [])) S:=Fr.at fc nk
   cases tr with
   |false=>exact b _ _ (.lst _) S (Fr.at f6 nL) (s6.chg hL6 nSL) (.lst nSL aF (Rps.chg hL6 r6)) fin
   |true =>
    refine b _ _ (.ref L) _ (λa o h nn=>?_) (SRp.trk hL6 s6 r6) .ref (fin L nSL)
    have ha:a≠L:=br h nL
    rw [aE ha]
    exact Fr.at f6 nL a o h nn
def wSK (g:List T->List T->Sto->(T->Sto->Prop)->Prop) (wr:WA) (wk:WE):WE:=λσ S Q=>wr σ S λts S1=>wk σ S1 λy S2=>g ts [y] S2 Q
theorem C7 {K:Fg}{g:List T->List T->Sto->(T->Sto->Prop)->Prop}{wr:WA}{wk:WE}{σ H Q}(h:lE K (wSK g wr wk) σ H Q):vm (lCK K g) (lA K wr) (nt (lE K wk) db) σ H Q:=by
 obtain ⟨S,σt,Qt,s,c,q,hq⟩:=h
 refine ⟨S,σt,_,s,c,q,λvs H1 ts S1 f1 s1 r1 q1=>?_⟩
 refine ⟨S1,σt,_,s1,c.fr f1,q1,λy H2 ty S2 f2 s2 r2 q2=>?_⟩
 exact ⟨S2,ts,[ty],Qt,s2,r1.fr f2,.cons r2 .nil,q2,λv H' t S' f=>hq v H' t S' ((f1.trans f2).trans f)⟩
theorem Ax {X:Cx}{K:Fg}(tr:Bool){k:Nat}{f:Addr}{fd:FuncData}{fx pn:Str}{wsp:WSp}{p pos kp kpos:Pos}{e:Expr}{wr:WA}(hK:X.K=K) (F:FnOk X.prog X.w X.K X.mg X.base CX0 k f fd [pn] (lSp K wsp)) (D:Df X.K X.mg fx f fd [pn]) (hr:Room (k+2) X.A)
  (hg:Gl X "sorted") (hm:X.mg "sorted"=none) (hgf:Gl X fx) (ha:QA K X [e] wr) (hdb:(fx==("__debug__":Str))=false:=by decide)
  (hks:(backToKw pos (keywordEach [⟨some (Str.ofString "key"),.Name fx kp,kpos⟩] X.env)).filterMap (·.1)=[Str.ofString "key"]:=by rfl)
  (he:backTo pos (starEach [e] X.env)=(false,eval e X.env)::backTo pos (starEach [] X.env):=by rfl)
  (hplain:(backTo pos (starEach [e] X.env)).any (·.1)=false:=by rfl)
  (hall:(backToKw pos (keywordEach [⟨some (Str.ofString "key"),.Name fx kp,kpos⟩] X.env)).all (·.1.isSome)=true:=by rfl)
  (hkw2:(backToKw pos (keywordEach [⟨some (Str.ofString "key"),.Name fx kp,kpos⟩] X.env)).any (·.1.isNone)=false:=by rfl) :
  QE K X (.Call (.Name "sorted" p) [e] [⟨some (Str.ofString "key"),.Name fx kp,kpos⟩] pos) (wSK (mM tr f wsp) wr (wC (.ref f))):=by
 have hk:QE K X (.Name fx kp) (wC (.ref f)):=mF (qJ (v:=.ref f) hgf D.hm rfl hdb) λ_ _=>.ref
 exact PE.of (xk (Aw tr hK F D hr) hg hm PyProof.Rows.boot_sorted ha (zL hk B') hks (by decide) (by decide) he hplain hall hkw2) λ_ _ _ h=>C7 h
theorem Hd {σ:StT}{S:Sto}{Q:T->Sto->Prop}{g:List T->List T->Sto->(T->Sto->Prop)->Prop}{wr:WA}{wk:WE}(h:wr σ S λts S1=>wk σ S1 λy S2=>g ts [y] S2 Q):wSK g wr wk σ S Q:=h
theorem Ay {α:Type}{S:Sto}{Q:T->Sto->Prop}{tr:Bool}{f:Addr}{wsp:WSp}{ft:α->T}{ls:List α}{x:T}(κT:T->Ky) (k0:Ky) (e:aS S x=some (ls.map ft)) (h64:ls.length<64) (hf:fit k0=true) (hd:k0.dep<=30)
  (hk:∀ a∈ls,Ky.ok (κT (ft a))=true/\Ky.shp k0 (κT (ft a))=true/\∀ S' Q',Q' (tre (κT (ft a))) S'->wsp [ft a] S' Q')
  (h:∀ l':List α,l'.Perm ls->l'.Pairwise (λa b=>Ky.lt (κT (ft b)) (κT (ft a))=false)->bi tr (l'.map ft) S Q):mM tr f wsp [x] [.ref f] S Q:=by
 refine ⟨x,ls.map ft,κT,k0,rfl,rfl,e,by rw [List.length_map];exact h64,hf,hd,λt ht=>?_,λzs hp hs=>?_⟩
 ·obtain ⟨a,ha,rfl⟩:=List.mem_map.mp ht
  exact hk a ha
 ·obtain ⟨l',p,rfl⟩:=gg ft hp rfl
  rw [List.pairwise_map] at hs
  exact h l' p hs
end T2
namespace Tm
open PySem PySem.Spec PyProof.Rows
abbrev tl (x:Str):List Nat:=x.cps.toList
theorem ext {x y:Str}(h:tl x=tl y):x=y:=by cases x;cases y;simp only [tl] at h;rw [Array.toList_inj.mp h]
theorem len (x:Str):(tl x).length=x.length:=by simp [tl,Str.length]
theorem gF (x y:Str):tl (x++y)=tl x++tl y:=by show (x.cps++y.cps).toList=_;simp [tl]
theorem FG (l:List Nat):tl ⟨l.toArray⟩=l:=by simp [tl]
def aH (g:List Nat):List (List Nat)->List Nat
 |[]=>[]
 |[p]=>p
 |p::q::r=>p++g++aH g (q::r)
theorem lx (g:Str):∀ ps:List Str,tl (Str.join g ps)=aH (tl g) (ps.map tl)
 |[]=>rfl
 |[p]=>rfl
 |p::q::r=>by
  have ih:=lx g (q::r)
  show tl ((p++g++Str.join g (q::r)):Str)=tl p++tl g++aH (tl g) ((q::r).map tl)
  rw [<- ih,gF,gF]
theorem mh (g:Str) (ps:List Str):tl (Txt.join g ps)=aH (tl g) (ps.map tl):=by
 rw [show Txt.join g ps=Str.join g ps from StrLaws.glued_eq_join g ps,lx]
theorem uO:tl (" ":Str)=[32]:=by decide +kernel
theorem empty:tl ("":Str)=[]:=by decide +kernel
theorem jj (x:Str):aH [32] ((Txt.split x " ").map tl)=tl x:=by
 have:=lx " " (Txt.split x " ")
 rw [StrLaws.join_split,uO] at this
 exact this.symm
theorem split_free (x:Str):∀ p∈(Txt.split x " ").map tl,32∉p:=λp hp=>by
 obtain ⟨q,hq,rfl⟩:=List.mem_map.mp hp
 exact StrLaws.split_free x 32 q hq
theorem jt (x:Str):(Txt.split x " ")≠[]:=λh=>by
 have:=split_pos x " "
 rw [h] at this;simp at this
theorem tH (n d:Nat) (h:d<=n) (o:Option Int):HT.sIx n d o<=n:=by
 cases o with
 |none=>exact h
 |some v=>simp only [HT.sIx];split<;>omega
theorem yI (lo hi:Option Int) (n:Nat):Builtin.Str.strSliceIndices lo hi 1 n=(List.range (HT.sIx n n hi - HT.sIx n 0 lo)).map λk=>HT.sIx n 0 lo+k:=by
 have c:∀ i:Int,max 0 (min (if i<0 then i+(n:Int) else i) (n:Int))=(((if i<0 then (i+(n:Int)).toNat else min i.toNat n):Nat):Int):=λi=>by split<;>omega
 have key:Builtin.Str.strSliceIndices lo hi 1 n=sliceRange ((HT.sIx n 0 lo:Nat):Int) ((HT.sIx n n hi:Nat):Int) 1:=by
  unfold Builtin.Str.strSliceIndices
  cases lo with
  |none =>
   cases hi with
   |none=>rfl
   |some j=>simp only [show (1:Int)>0 by decide,if_true,c,HT.sIx];rfl
  |some i =>
   cases hi with
   |none=>simp only [show (1:Int)>0 by decide,if_true,c,HT.sIx]
   |some j=>simp only [show (1:Int)>0 by decide,if_true,c,HT.sIx]
 rw [key]
 unfold sliceRange
 simp only [show (1:Int)>0 by decide,if_true,Int.one_mul]
 have hc:(if ((HT.sIx n 0 lo:Nat):Int)<((HT.sIx n n hi:Nat):Int) then (((HT.sIx n n hi:Nat):Int) - ((HT.sIx n 0 lo:Nat):Int)+1 - 1) / 1 else 0).toNat=HT.sIx n n hi - HT.sIx n 0 lo:=by
  split
  ·rw [Int.ediv_one];omega
  ·simp;omega
 rw [hc]
 apply List.map_congr_left
 intro k _
 omega
theorem yJ (x:Str) (lo hi:Option Int):tl (Txt.slice x lo hi)=((tl x).drop (HT.sIx x.length 0 lo)).take (HT.sIx x.length x.length hi - HT.sIx x.length 0 lo):=by
 have hA:=tH x.length 0 (Nat.zero_le _) lo
 have hB:=tH x.length x.length (Nat.le_refl _) hi
 have hl:=len x
 unfold Txt.slice
 rw [yI]
 split
 ·next h =>
  simp only [beq_self_eq_true,Bool.true_and,List.length_map,List.length_range,beq_iff_eq] at h
  have h0:HT.sIx x.length 0 lo=0\/x.length=0:=by omega
  rcases h0 with h0|h0
  ·rw [h0,List.drop_zero,List.take_of_length_le (by omega)]
  ·have:tl x=[]:=List.length_eq_zero_iff.mp (by omega)
   rw [this];simp
 ·rw [FG]
  have:=StrLaws.picks (tl x) (HT.sIx x.length x.length hi - HT.sIx x.length 0 lo) (HT.sIx x.length 0 lo)
  by_cases hle:HT.sIx x.length 0 lo<=HT.sIx x.length x.length hi
  ·rw [<- this (by rw [hl];omega)]
   simp [tl]
  ·rw [show HT.sIx x.length x.length hi - HT.sIx x.length 0 lo=0 by omega];simp
theorem lB (x:Str) (k:Nat):tl (Txt.slice x none (some k))=(tl x).take k:=by
 rw [yJ,HT.sIx_none,HT.sIx_nat,List.drop_zero,Nat.sub_zero,<- len x,<- List.take_take,List.take_of_length_le (Nat.le_refl _)]
theorem C8 (x y:Str):Txt.startswith x y=decide ((tl x).take (tl y).length=tl y):=by
 unfold Txt.startswith
 rw [StrLaws.subAt_eq,List.drop_zero,Nat.zero_add,len]
 by_cases h:y.length<=x.length
 ·simp only [h,decide_true,Bool.true_and]
  rw [Bool.eq_iff_iff];simp
 ·simp only [h,decide_false,Bool.false_and]
  symm
  rw [decide_eq_false_iff_not]
  intro e
  have:=congrArg List.length e
  rw [List.length_take,len,len] at this
  omega
theorem mO {g:Str}{ps:List Str}{b:Nat}(h:∀ p∈ps,p.length<=b) (h2:ps.length * (b+g.length)<=10000):JoinOk g ps=true:=by
 have main:∀ (ps:List Str) (acc:Nat),(∀ p∈ps,p.length<=b)->ps.foldl (λa p=>a+p.length+g.length) acc<=acc+ps.length * (b+g.length):=by
  intro ps
  induction ps with
  |nil=>intro acc _;simp
  |cons p r ih =>
   intro acc h
   have:=ih (acc+p.length+g.length) λq hq=>h q (List.mem_cons_of_mem _ hq)
   have hp:=h p List.mem_cons_self
   simp only [List.foldl_cons,List.length_cons,Nat.add_mul,Nat.one_mul] at this ⊢
   omega
 have:=main ps 0 h
 unfold JoinOk Builtin.Str.tooLong
 rw [List.foldl_toArray]
 have hs:sizeLine=16777216:=sizeLine_eq
 simp only [Bool.not_eq_true',decide_eq_false_iff_not]
 omega
theorem lD (zs:List Str):T2.eg (zs.map T2.T.str)=some zs:=by
 induction zs with
 |nil=>rfl
 |cons a l ih=>simp [T2.rp,ih]
theorem yK (zs:List Int):T2.eX (zs.map T2.T.int)=some zs:=by
 induction zs with
 |nil=>rfl
 |cons a l ih=>simp [T2.rl,ih]
theorem rK (d:Nat):Str.length ⟨#[d]⟩=1:=rfl
theorem h8:Str.length (Str.ofString " ")=1:=by decide +kernel
theorem xC:Str.length (Str.ofString "")=0:=by decide +kernel
theorem rL (g:Str){b:Nat}:∀ zs:List Str,(∀ y∈zs,y.length<=b)->(Txt.join g zs).length<=zs.length * (b+g.length):=by
 intro zs h
 rw [<- len,mh,<- len g]
 induction zs with
 |nil=>simp [aH]
 |cons y r ih =>
  have hy:=h y List.mem_cons_self
  rw [<- len] at hy
  have h3:=ih λq hq=>h q (List.mem_cons_of_mem _ hq)
  cases r with
  |nil=>simp only [List.map_cons,List.map_nil,aH,List.length_cons,List.length_nil];omega
  |cons y2 r2 =>
   simp only [List.map_cons,aH,List.length_append,List.length_cons,Nat.add_mul,Nat.one_mul] at h3 ⊢
   omega
theorem p5 (g:List Nat):∀ (ps:List (List Nat)) (p:List Nat),p∈ps->p.length<=(aH g ps).length
 |[],_,h=>by cases h
 |[q],p,h=>by rw [List.mem_singleton.mp h];simp [aH]
 |q::q2::r,p,h=>by
  simp only [aH,List.length_append]
  rcases List.mem_cons.mp h with rfl|h
  ·omega
  ·have:=p5 g (q2::r) p h
   omega
theorem p6 {a x:Str}(h:x∈Txt.split a " "):x.length<=a.length:=by
 have:=p5 [32] _ _ (List.mem_map_of_mem (f:=tl) h)
 rw [jj,len,len] at this
 exact this
theorem jl (p:List Nat) (r:List (List Nat)) (h:r≠[]):aH [32] (p::r)=p++32::aH [32] r:=by
 cases r with
 |nil=>exact absurd rfl h
 |cons q r=>simp [aH]
theorem kO (x y:Str):Txt.startswith x y=decide (Txt.slice x none (some (y.length:Int))=y):=by
 rw [C8,len,Bool.eq_iff_iff]
 simp only [decide_eq_true_eq]
 constructor
 ·intro h;exact ext (by rw [lB];exact h)
 ·intro h;rw [<- lB,h]
end Tm
namespace T2
open PySem PySem.Spec PyProof.Rows L2
section
variable {K:Fg}{X:Cx}{k:Nat}{f:Addr}{fd:FuncData}{ps:List Str}{wsp:WSp}{x m:Str}{p pos apos cpos:Pos}{e o:Expr}{es:List Expr}{wa wb:WE}{wr:WA}{id ty:String}{g:GC}{gm:GM}{i:Nat}
theorem aa (i:Nat) (hN:X.N[i]?=some x:=by rfl) (hv:Vis X.env.scope x:=by first|exact Or.inl rfl|exact Or.inr (Or.inl rfl)|exact Or.inr (Or.inr rfl)) (hd:(x==("__debug__":Str))=false:=by decide)
  (hcd:(x==("__classdict__":Str))=false:=by decide):QE K X (.Name x pos) (wV i):=EH (sI hN hv hd hcd)
theorem nY {n:String}(hg:Gl X x) (hm:X.mg x=none) (hv:bootBuiltins x=some (.type n)) (hn:x ≠ "__name__":=by decide) (hd:(x==("__debug__":Str))=false:=by decide):QE K X (.Name x pos) (wC (.ty n)) :=
 mF (zt (v:=.ty n) hg hm hv rfl hn hd) λ_ _=>.ty
theorem mP {n:Int}(hg:Gl X x) (hm:∃ tk,X.mg x=some (.int n tk)) (hd:(x==("__debug__":Str))=false:=by decide):QE K X (.Name x pos) (wC (.int n)):=by
 obtain ⟨tk,hm⟩:=hm
 exact mF (qJ (v:=.int n) hg hm ⟨tk,rfl⟩ hd) λ_ _=>.int
theorem ax (F:FnOk X.prog X.w X.K X.mg X.base CX0 k f fd ps (lSp K wsp)) (D:Df X.K X.mg x f fd ps) (hr:Room k X.A) (hg:Gl X x) (ha:QA K X (e::es) wr)
  (hdb:(x==("__debug__":Str))=false:=by decide) (he:starEach (e::es) X.env=(false,eval e X.env)::starEach es X.env:=by rfl) (hpl:(backTo pos (starEach es X.env)).any (·.1)=false:=by rfl) :
  QE K X (.Call (.Name x p) (e::es) [] pos) (eW wsp [] wr):=sV (dvs:=[]) (λ_ _=>.nil) (zJ F hr hg D.hm D.kp D.b .nil dJ ha hdb he hpl)
theorem Az (F:FnOk X.prog X.w X.K X.mg X.base CX0 k f fd ps (lSp K wsp)) (D:Df X.K X.mg x f fd ps) (hr:Room k X.A) (hg:Gl X x)
  (hdb:(x==("__debug__":Str))=false:=by decide):QE K X (.Call (.Name x p) [] [] pos) (eW wsp [] b7):=Aa (dvs:=[]) (λ_ _=>.nil) (x9 F hr hg D.hm D.kp D.b .nil dJ hdb)
theorem aM (hc:bw X (.builtin id) (lC K g)) (hg:Gl X x) (hm:X.mg x=none) (hv:bootBuiltins x=some (.builtin id)) (ha:QA K X (e::es) wr) (hn:x ≠ "__name__":=by decide) (hdb:(x==("__debug__":Str))=false:=by decide)
  (he:starEach (e::es) X.env=(false,eval e X.env)::starEach es X.env:=by rfl) (hpl:(backTo pos (starEach es X.env)).any (·.1)=false:=by rfl):QE K X (.Call (.Name x p) (e::es) [] pos) (wCB g wr):=GN (yb hc hg hm hv ha hn hdb he hpl)
theorem bX (hK:X.K=K) (pa:PlainAttrs ty) (slot:Slot ty m id) (hty:typeOf (.builtin id)=pure (.type "method_descriptor")) (hm:MtR X id (lM K gm)) (ho:QE K X o wa) (ha:QA K X (e::es) wr)
  (h:∀ {to t r},PE X o to->MtR X id r->PA X (e::es) t->PE X (.Call (.Attribute o m apos) (e::es) [] cpos) (tBM X.K ty r to t)):QE K X (.Call (.Attribute o m apos) (e::es) [] cpos) (wBM ty gm wa wr):=by
 subst hK
 exact GO (h ho hm ha)
theorem FH (hK:X.K=K) (pa:PlainAttrs ty) (slot:Slot ty m id) (hty:typeOf (.builtin id)=pure (.type "method_descriptor")) (hm:MtR X id (lM K gm)) (ho:QE K X o wa)
  (h:∀ {to r},PE X o to->MtR X id r->PE X (.Call (.Attribute o m apos) [] [] cpos) (ki X.K ty r to)):QE K X (.Call (.Attribute o m apos) [] [] cpos) (wBM ty gm wa b7):=by
 subst hK
 exact ES (h ho hm)
theorem aT {y:Str}{i:Nat}(hN:X.N.Nodup) (hi:X.N[i]?=some y) (hx:Loc X.env.scope y) (hf:X.fn y=true\/X.env.scope.names.lookup y=some .local:=by first|exact .inl rfl|exact .inr rfl|assumption):QG K X (.Name y pos) (wgN i):=z8 (zA hN hi hx hf)
theorem cu {i:Expr}{wo wi:WE}{g:GS}(ho:QE K X o wo) (hi:QE K X i wi) (hs:e9 X (iS K g))
  (h:∀ {to ti t},PE X o to->PE X i ti->e9 X t->PG X (.Subscript o i pos) (L2.gS to ti t)):QG K X (.Subscript o i pos) (wgS wo wi g):=CC (h ho hi hs)
end
end T2
open PySem
namespace Sc
def isL (c:Nat):Bool:=decide (97<=c)&&decide (c<=122)
def isP (p:List Nat):Bool:=decide (1<=p.length)&&decide (p.length<=12)&&p.all isL
def bE:List Nat->Nat->Nat->Option (Nat×Nat)
 |[],z,n=>some (z,n)
 |c::r,z,n=>if c=32 then (if z=0 then none else bE r 0 (n+1)) else if isL c=true then (if z+1>12 then none else bE r (z+1) n) else none
def fin:Option (Nat×Nat)->Bool
 |none=>false
 |some (z,n)=>decide (0<z)&&decide (n<5)
theorem lc:∀ (p rest:List Nat) (z n:Nat),32∉p->z<=12->bE (p++rest) z n=if (p.all isL&&decide (z+p.length<=12))=true then bE rest (z+p.length) n else none
 |[],rest,z,n,_,hz=>by simp [hz]
 |c::p,rest,z,n,h,hz=>by
  have hc:c≠32:=λe=>h (by simp [e])
  have hp:32∉p:=λe=>h (by simp [e])
  have ih:=lc p rest (z+1) n hp
  show bE (c::(p++rest)) z n=_
  rw [bE,if_neg hc]
  cases hl:isL c with
  |false=>simp [hl]
  |true =>
   rw [if_pos rfl]
   by_cases hz2:z+1>12
   ·rw [if_pos hz2]
    have:¬ (z+(c::p).length<=12):=by simp;omega
    simp [this]
    omega
   ·rw [if_neg hz2,ih (by omega)]
    have e:z+1+p.length=z+(c::p).length:=by simp;omega
    rw [e]
    simp [hl]
def aH (g:List Nat):List (List Nat)->List Nat
 |[]=>[]
 |[p]=>p
 |p::q::r=>p++g++aH g (q::r)
theorem lF:∀ (ps:List (List Nat)) (n:Nat),ps≠[]->(∀ p∈ps,32∉p)->fin (bE (aH [32] ps) 0 n)=(decide (ps.length+n<=5)&&ps.all isP)
 |[],_,h,_=>absurd rfl h
 |[p],n,_,hf=>by
  have h:=lc p [] 0 n (hf p (by simp)) (by omega)
  rw [List.append_nil] at h
  show fin (bE p 0 n)=_
  rw [h]
  simp only [Nat.zero_add,List.length_singleton,List.all_cons,List.all_nil,Bool.and_true]
  by_cases hc:(p.all isL&&decide (p.length<=12))=true
  ·rw [if_pos hc]
   simp only [Bool.and_eq_true,decide_eq_true_eq] at hc
   simp only [bE,fin,isP,hc.1,hc.2,decide_true,Bool.and_true]
   rw [Bool.eq_iff_iff]
   simp only [Bool.and_eq_true,decide_eq_true_eq]
   omega
  ·rw [if_neg hc]
   have:isP p=false:=by
    simp only [isP]
    rw [Bool.eq_false_iff]
    intro z
    simp only [Bool.and_eq_true,decide_eq_true_eq] at z hc
    exact hc ⟨z.2,z.1.2⟩
   simp [fin,this]
 |p::q::r,n,_,hf=>by
  have h:=lc p (32::aH [32] (q::r)) 0 n (hf p (by simp)) (by omega)
  have ih:=lF (q::r) (n+1) (by simp) λx hx=>hf x (List.mem_cons_of_mem _ hx)
  have e:aH [32] (p::q::r)=p++32::aH [32] (q::r):=by simp [aH]
  rw [e,h]
  simp only [Nat.zero_add]
  by_cases hc:(p.all isL&&decide (p.length<=12))=true
  ·rw [if_pos hc]
   simp only [Bool.and_eq_true,decide_eq_true_eq] at hc
   rw [bE,if_pos rfl]
   by_cases hz:p.length=0
   ·rw [if_pos hz]
    have:isP p=false:=by simp [isP,hz]
    simp [fin,this]
   ·rw [if_neg hz,ih]
    have:isP p=true:=by
     simp only [isP,hc.1,hc.2,decide_true,Bool.and_true,decide_eq_true_eq]
     omega
    have ea:(p::q::r).all isP=(q::r).all isP:=by rw [List.all_cons,this,Bool.true_and]
    rw [ea]
    have e2:(q::r).length+(n+1)=(p::q::r).length+n:=by simp;omega
    rw [e2]
  ·rw [if_neg hc]
   have:isP p=false:=by
    simp only [isP]
    rw [Bool.eq_false_iff]
    intro z
    simp only [Bool.and_eq_true,decide_eq_true_eq] at z hc
    exact hc ⟨z.2,z.1.2⟩
   simp [fin,this]
theorem C9 (a b:Nat):decide ([a]<[b])=decide (a<b):=by
 rw [Bool.eq_iff_iff]
 simp [List.cons_lt_cons_iff]
end Sc
namespace Wm
open PySem
theorem kU (g:List Nat):∀ ps:List (List Nat),Sc.aH g ps=Tm.aH g ps
 |[]=>rfl
 |[p]=>rfl
 |p::q::r=>by
  show p++g++Sc.aH g (q::r)=p++g++Tm.aH g (q::r)
  rw [kU g (q::r)]
def Wd (z:Str):Bool:=decide (z.length<=24)&&Sc.fin (Sc.bE (Tm.tl z) 0 1)
theorem kW (z:Str):Sc.fin (Sc.bE (Tm.tl z) 0 1)=(decide ((Txt.split z " ").length<=4)&&(Txt.split z " ").all λp=>Sc.isP (Tm.tl p)):=by
 have hn:=PyProof.Rows.split_pos z " "
 rw [<- Tm.jj z,<- kU,Sc.lF _ 1 (by simp [Tm.jt]) (Tm.split_free z),List.length_map,List.all_map]
 congr 1
 rw [Bool.eq_iff_iff]
 simp only [decide_eq_true_eq]
 omega
theorem tI (c d:Nat):T2.ltS ⟨#[c]⟩ ⟨#[d]⟩=decide (c<d):=by
 unfold T2.ltS
 exact Sc.C9 c d
theorem Dc (c:Nat):(!T2.ltS ⟨#[c]⟩ "a" && !T2.ltS "z" ⟨#[c]⟩)=Sc.isL c:=by
 rw [show ("a":Str)=⟨#[97]⟩ by decide +kernel,show ("z":Str)=⟨#[122]⟩ by decide +kernel,tI,tI,Bool.eq_iff_iff]
 simp only [Sc.isL,Bool.and_eq_true,Bool.not_eq_true',decide_eq_false_iff_not,decide_eq_true_eq]
 omega
theorem all_map (l:List Bool):T2.eE (l.map T2.T.bl)=some l:=by
 induction l with
 |nil=>rfl
 |cons a l ih=>simp [T2.eE,ih]
theorem rM {α β:Type}(f:α->β) (l:List α):l.filterMap (λx=>some (f x))=l.map f:=by
 induction l with
 |nil=>rfl
 |cons a l ih=>simp [ih]
end Wm
namespace Wm
open PySem
theorem p7:∀ (ls:List (List Nat)),Tm.aH [] ls=ls.flatten
 |[]=>rfl
 |[p]=>by simp [Tm.aH]
 |p::q::r=>by
  show p++[]++Tm.aH [] (q::r)=_
  rw [p7 (q::r)];simp
theorem jx {ys:List Str}(h1:∀ y∈ys,∃ c,y=⟨#[c]⟩/\Sc.isL c=true) (h2:1<=ys.length) (h3:ys.length<=12):Sc.isP (Tm.tl (Txt.join "" ys))=true:=by
 rw [Tm.mh,Tm.empty,p7]
 have len:((ys.map Tm.tl).flatten).length=ys.length:=by
  clear h2 h3
  induction ys with
  |nil=>rfl
  |cons y l ih =>
   obtain ⟨c,rfl,_⟩:=h1 y (by simp)
   simp only [List.map_cons,List.flatten_cons,List.length_append,ih λz hz=>h1 z (by simp [hz]),List.length_cons]
   simp [Tm.tl];omega
 unfold Sc.isP
 rw [len]
 simp only [Bool.and_eq_true,decide_eq_true_eq]
 refine ⟨⟨h2,h3⟩,?_⟩
 rw [List.all_eq_true]
 intro c hc
 rw [List.mem_flatten] at hc
 obtain ⟨l,hl,hc⟩:=hc
 rw [List.mem_map] at hl
 obtain ⟨y,hy,rfl⟩:=hl
 obtain ⟨d,rfl,hd⟩:=h1 y hy
 simp [Tm.tl] at hc
 rw [hc];exact hd
theorem yL {p:List Nat}(h:Sc.isP p=true):32∉p:=λhm=>by
 unfold Sc.isP at h
 simp only [Bool.and_eq_true,List.all_eq_true] at h
 have:=h.2 32 hm
 simp [Sc.isL] at this
theorem AA {ps:List Str}(h1:∀ p∈ps,Sc.isP (Tm.tl p)=true) (h2:ps≠[]) (h3:ps.length<=4):Sc.fin (Sc.bE (Tm.tl (Txt.join " " ps)) 0 1)=true:=by
 rw [Tm.mh,Tm.uO,<- kU]
 rw [Sc.lF (ps.map Tm.tl) 1 (by simpa using h2) (λp hp=>by
  rw [List.mem_map] at hp
  obtain ⟨y,hy,rfl⟩:=hp
  exact yL (h1 y hy))]
 simp only [List.length_map,Bool.and_eq_true,decide_eq_true_eq,List.all_map,List.all_eq_true]
 exact ⟨by omega,λp hp=>h1 p hp⟩
theorem eQ {z:Str}(h:Wd z=true):1<=z.length/\z.length<=24:=by
 unfold Wd at h
 simp only [Bool.and_eq_true,decide_eq_true_eq] at h
 refine ⟨?_,h.1⟩
 rcases Nat.eq_zero_or_pos z.length with e|e
 ·have:Tm.tl z=[]:=List.length_eq_zero_iff.mp (by rw [Tm.len];exact e)
  rw [this] at h
  simp [Sc.bE,Sc.fin] at h
 ·exact e
theorem mi:∀ (l:List Nat) (z n:Nat){p:Nat×Nat},Sc.bE l z n=some p->∀ c∈l,c=32\/Sc.isL c=true
 |[],_,_,_,_,c,hc=>by cases hc
 |d::l,z,n,p,h,c,hc=>by
  rw [Sc.bE] at h
  rcases List.mem_cons.mp hc with rfl|hc
  ·by_cases e:c=32
   ·exact .inl e
   ·rw [if_neg e] at h
    split at h
    ·exact .inr ‹_›
    ·cases h
  ·split at h
   ·split at h
    ·cases h
    ·exact mi l _ _ h c hc
   ·split at h
    ·split at h
     ·cases h
     ·exact mi l _ _ h c hc
    ·cases h
theorem qB {z:Str}(h:Wd z=true):∀ c∈Tm.tl z,c=32\/Sc.isL c=true:=by
 unfold Wd at h
 simp only [Bool.and_eq_true] at h
 cases q:Sc.bE (Tm.tl z) 0 1 with
 |none=>rw [q] at h;simp [Sc.fin] at h
 |some p=>exact mi _ _ _ q
theorem nG {z:Str}(h:Wd z=true):PyData.strOk z=true:=by
 unfold PyData.strOk
 rw [Array.all_eq_true_iff_forall_mem]
 intro c hc
 have:=qB h c (by simpa [Tm.tl] using hc)
 rw [decide_eq_true_eq]
 rcases this with e|e
 ·omega
 ·simp only [Sc.isL,Bool.and_eq_true,decide_eq_true_eq] at e;omega
end Wm
open PySem
namespace Wm
theorem rN:∀ (p q r s:List Nat),32∉p->32∉q->p++32::r=q++32::s->p=q/\r=s
 |[],[],r,s,_,_,h=>⟨rfl,(List.cons.inj h).2⟩
 |[],c::q,r,s,_,h2,h=>absurd (List.cons.inj h).1 λe=>h2 (by rw [<- e];exact List.mem_cons_self)
 |c::p,[],r,s,h1,_,h=>absurd (List.cons.inj h).1 λe=>h1 (by rw [e];exact List.mem_cons_self)
 |c::p,d::q,r,s,h1,h2,h=>by
  obtain ⟨e1,e2⟩:=List.cons.inj h
  obtain ⟨e3,e4⟩:=rN p q r s (λz=>h1 (List.mem_cons_of_mem _ z)) (λz=>h2 (List.mem_cons_of_mem _ z)) e2
  exact ⟨by rw [e1,e3],e4⟩
theorem qC:∀ (ps qs:List (List Nat)),ps≠[]->qs≠[]->(∀ p∈ps,32∉p)->(∀ p∈qs,32∉p)->Tm.aH [32] ps=Tm.aH [32] qs->ps=qs
 |[],_,h,_,_,_,_=>absurd rfl h
 |_::_,[],_,h,_,_,_=>absurd rfl h
 |[p],[q],_,_,_,_,h=>by rw [show p=q from h]
 |[p],q::q2::s,_,_,h3,_,h=>by
  rw [Tm.jl q (q2::s) (by simp)] at h
  refine absurd ?_ (h3 p List.mem_cons_self)
  rw [show p=q++32::Tm.aH [32] (q2::s) from h]
  exact List.mem_append_right _ List.mem_cons_self
 |p::p2::r,[q],_,_,_,h4,h=>by
  rw [Tm.jl p (p2::r) (by simp)] at h
  refine absurd ?_ (h4 q List.mem_cons_self)
  rw [<- show p++32::Tm.aH [32] (p2::r)=q from h]
  exact List.mem_append_right _ List.mem_cons_self
 |p::p2::r,q::q2::s,_,_,h3,h4,h=>by
  rw [Tm.jl p (p2::r) (by simp),Tm.jl q (q2::s) (by simp)] at h
  obtain ⟨e1,e2⟩:=rN _ _ _ _ (h3 p List.mem_cons_self) (h4 q List.mem_cons_self) h
  rw [e1,qC (p2::r) (q2::s) (by simp) (by simp) (λx hx=>h3 x (List.mem_cons_of_mem _ hx)) (λx hx=>h4 x (List.mem_cons_of_mem _ hx)) e2]
theorem p8 (l y:List Nat):∀ i:List (List Nat),Tm.aH [32] (i++[l++y])=Tm.aH [32] (i++[l])++y
 |[]=>rfl
 |[a]=>by
  show a++[32]++(l++y)=a++[32]++l++y
  rw [List.append_assoc,List.append_assoc,List.append_assoc]
 |a::b::i=>by
  have ih:=p8 l y (b::i)
  show a++[32]++Tm.aH [32] (b::i++[l++y])=a++[32]++Tm.aH [32] (b::i++[l])++y
  rw [ih,List.append_assoc (a++[32])]
theorem p9 (y:List Nat):∀ i:List (List Nat),i≠[]->Tm.aH [32] (i++[y])=Tm.aH [32] i++32::y
 |[],h=>absurd rfl h
 |[a],_=>by
  show a++[32]++y=a++32::y
  rw [List.append_assoc];rfl
 |a::b::i,_=>by
  have ih:=p9 y (b::i) (by simp)
  show a++[32]++Tm.aH [32] (b::i++[y])=a++[32]++Tm.aH [32] (b::i)++32::y
  rw [ih,List.append_assoc (a++[32])]
def Fit (a:Str):Prop:=a.length<=24/\(Txt.split a " ").length<=4/\∀ p∈Txt.split a " ",p.length<=12
theorem tJ {a:Str}{ps:List (List Nat)}(h:Fit a) (h1:ps≠[]) (h2:∀ p∈ps,1<=p.length/\p.all Sc.isL=true) (e:Tm.tl a=Tm.aH [32] ps):Wd a=true:=by
 have hf:∀ p∈ps,32∉p:=λp hp hm=>by
  have:=List.all_eq_true.mp (h2 p hp).2 32 hm
  simp [Sc.isL] at this
 have e2:(Txt.split a " ").map Tm.tl=ps:=qC _ _ (by simp [Tm.jt]) h1 (Tm.split_free a) hf (by rw [Tm.jj];exact e)
 unfold Wd
 rw [kW,decide_eq_true h.1,decide_eq_true h.2.1,Bool.true_and,Bool.true_and,List.all_eq_true]
 intro p hp
 have hq:Tm.tl p∈ps:=by rw [<- e2];exact List.mem_map_of_mem hp
 obtain ⟨h3,h4⟩:=h2 _ hq
 have h5:=h.2.2 p hp
 unfold Sc.isP
 rw [h4,Bool.and_true,Bool.and_eq_true,decide_eq_true_eq,decide_eq_true_eq]
 exact ⟨h3,by rw [Tm.len];exact h5⟩
theorem yM {z:Str}(h:Wd z=true):∀ p∈(Txt.split z " ").map Tm.tl,1<=p.length/\p.all Sc.isL=true:=by
 unfold Wd at h
 rw [kW] at h
 simp only [Bool.and_eq_true,List.all_eq_true] at h
 intro p hp
 obtain ⟨q,hq,rfl⟩:=List.mem_map.mp hp
 have:=h.2.2 q hq
 unfold Sc.isP at this
 simp only [Bool.and_eq_true,decide_eq_true_eq] at this
 exact ⟨this.1.1,this.2⟩
theorem AB {z y:Str}(h:Wd z=true) (hy:(∃ c,Sc.isL c=true/\(Tm.tl y=[c]\/Tm.tl y=[32,c]))) (hf:Fit (z++y)):Wd (z++y)=true:=by
 obtain ⟨c,hc,hy⟩:=hy
 have hp:=yM h
 have hne:(Txt.split z " ").map Tm.tl≠[]:=by simp [Tm.jt]
 have hj:=Tm.jj z
 rcases hy with hy|hy
 ·obtain ⟨i,l,e⟩:∃ i l,(Txt.split z " ").map Tm.tl=i++[l]:=⟨_,_,(List.dropLast_concat_getLast hne).symm⟩
  rw [e] at hp hj
  refine tJ (ps:=i++[l++[c]]) hf (by simp) (λp hm=>?_) ?_
  ·rcases List.mem_append.mp hm with hm|hm
   ·exact hp p (List.mem_append_left _ hm)
   ·rw [List.mem_singleton.mp hm]
    obtain ⟨h1,h2⟩:=hp l (by simp)
    refine ⟨by simp,?_⟩
    rw [List.all_append,h2]
    simp [hc]
  ·rw [Tm.gF,hy,p8,hj]
 ·refine tJ (ps:=(Txt.split z " ").map Tm.tl++[[c]]) hf (by simp) (λp hm=>?_) ?_
  ·rcases List.mem_append.mp hm with hm|hm
   ·exact hp p hm
   ·rw [List.mem_singleton.mp hm]
    exact ⟨by simp,by simp [hc]⟩
  ·rw [Tm.gF,hy,p9 _ _ hne,hj]
end Wm
namespace Rk
open PySem T2 S6
abbrev Rt:=Str×Int
def rt (a:Rt):T:=.tup [.str a.1,.int a.2]
def ky (a:Rt):Ky:=.cons (.i (-a.2)) (.cons (.s a.1) .nil)
theorem jU (a:Rt):tre (ky a)=.tup [.int (-a.2),.str a.1]:=by simp [ky,tre,iU]
def ah (a b:Rt):Bool:=Ky.lt (ky a) (ky b)
theorem jV (a b:Rt):Ky.shp (ky a) (ky b)=true:=rfl
theorem De {a b:Rt}(h:ky a=ky b):a=b:=by
 simp only [ky,Ky.cons.injEq,Ky.i.injEq,Ky.s.injEq,and_true] at h
 exact Prod.ext h.2 (by omega)
theorem yN {a b c:Rt}(h1:ah a b=true) (h2:ah b c=true):ah a c=true:=Ky.trans (jV _ _) (jV _ _) h1 h2
theorem tK (a b:Rt):ah a b=true\/a=b\/ah b a=true:=by
 rcases Ky.tri (jV a b) with h|h|h
 ·exact .inl h
 ·exact .inr (.inl (De h))
 ·exact .inr (.inr h)
theorem AC {a b:Rt}(h:ah a b=true):ah b a=false:=Ky.Hb (jV _ _) h
def kyT:T->Ky
 |.tup [.str w,.int n]=>ky (w,n)
 |_=>.nil
theorem tL (a:Rt):kyT (rt a)=ky a:=rfl
def ins (acc:List Rt) (a:Rt):List Rt:=acc.takeWhile (λx=>ah x a)++a::acc.dropWhile (λx=>ah x a)
def bst (l:List Rt):List Rt:=l.foldl ins []
theorem lJ (acc:List Rt) (a:Rt):(ins acc a).Perm (a::acc):=by
 unfold ins
 refine (List.perm_middle).trans ?_
 rw [List.takeWhile_append_dropWhile]
theorem qa:∀ (l acc:List Rt),(l.foldl ins acc).Perm (l++acc)
 |[],acc=>by simp
 |a::l,acc=>by
  rw [List.foldl_cons]
  refine (qa l (ins acc a)).trans ?_
  refine ((lJ acc a).append_left l).trans ?_
  exact List.perm_middle
theorem cB (l:List Rt):(bst l).Perm l:=by
 have:=qa l []
 rwa [List.append_nil] at this
theorem wN {acc:List Rt}{a:Rt}(h:acc.Pairwise λx y=>ah x y=true) (hn:a∉acc):(ins acc a).Pairwise λx y=>ah x y=true:=by
 induction acc with
 |nil=>simp [ins]
 |cons b l ih =>
  have hb:b≠a:=λe=>hn (by simp [e])
  obtain ⟨h1,h2⟩:=List.pairwise_cons.mp h
  have hn2:a∉l:=λe=>hn (by simp [e])
  unfold ins
  by_cases q:ah b a=true
  ·rw [List.takeWhile_cons,if_pos q,List.dropWhile_cons,if_pos q,List.cons_append]
   refine List.pairwise_cons.mpr ⟨λx hx=>?_,ih h2 hn2⟩
   have:=(lJ l a).mem_iff.mp (show x∈ins l a from hx)
   rcases List.mem_cons.mp this with rfl|hx
   ·exact q
   ·exact h1 x hx
  ·rw [List.takeWhile_cons,if_neg q,List.dropWhile_cons,if_neg q,List.nil_append]
   have ab:ah a b=true:=by
    rcases tK a b with z|z|z
    ·exact z
    ·exact (hb z.symm).elim
    ·exact (q z).elim
   refine List.pairwise_cons.mpr ⟨λx hx=>?_,h⟩
   rcases List.mem_cons.mp hx with rfl|hx
   ·exact ab
   ·exact yN ab (h1 x hx)
theorem pd:∀ (l acc:List Rt),(l++acc).Nodup->(acc.Pairwise λx y=>ah x y=true)->((l.foldl ins acc).Pairwise λx y=>ah x y=true)
 |[],acc,_,h=>h
 |a::l,acc,hn,h=>by
  rw [List.foldl_cons]
  have hm:a∉acc:=λe=>by
   rw [List.cons_append,List.nodup_cons] at hn
   exact hn.1 (List.mem_append_right _ e)
  refine pd l (ins acc a) ?_ (wN h hm)
  have p:(l++ins acc a).Perm (a::l++acc):=((lJ acc a).append_left l).trans List.perm_middle
  exact p.nodup_iff.mpr hn
theorem h6 {l:List Rt}(h:l.Nodup):(bst l).Pairwise λx y=>ah x y=true:=pd l [] (by simpa using h) .nil
theorem kD:∀ {l m:List Rt},(l.Pairwise λx y=>ah x y=true)->(m.Pairwise λx y=>ah x y=true)->l.Perm m->l=m
 |[],m,_,_,p=>(List.perm_nil.mp p.symm).symm
 |a::l,[],_,_,p=>absurd p.length_eq (by simp)
 |a::l,b::m,h1,h2,p=>by
  obtain ⟨a1,a2⟩:=List.pairwise_cons.mp h1
  obtain ⟨b1,b2⟩:=List.pairwise_cons.mp h2
  have e:a=b:=by
   rcases List.mem_cons.mp (p.mem_iff.mp (List.mem_cons_self ..):a∈b::m) with e|e
   ·exact e
   ·rcases List.mem_cons.mp (p.mem_iff.mpr (List.mem_cons_self ..):b∈a::l) with q|q
    ·exact q.symm
    ·have x1:=a1 b q
     have x2:=b1 a e
     rw [AC x1] at x2;cases x2
  subst e
  rw [kD a2 b2 (List.perm_cons a |>.mp p)]
theorem qD {l:List Rt}(h:(l.map (·.1)).Nodup):l.Nodup:=by
 unfold List.Nodup at h ⊢
 rw [List.pairwise_map] at h
 exact h.imp fun {a b} hne e=>hne (by rw [e])
theorem qb {l l':List Rt}(hn:l.Nodup) (p:l'.Perm l) (h:l'.Pairwise λa b=>Ky.lt (kyT (rt b)) (kyT (rt a))=false):l'=bst l:=by
 refine kD ?_ (h6 hn) (p.trans (cB l).symm)
 have n':l'.Nodup:=p.nodup_iff.mpr hn
 refine (h.and n').imp fun {a b} hab=>?_
 rcases tK a b with z|z|z
 ·exact z
 ·exact (hab.2 z).elim
 ·have:=hab.1
  rw [tL,tL] at this
  rw [show Ky.lt (ky b) (ky a)=true from z] at this;cases this
theorem mQ:∀ {l:List Rt},(∀ a∈l,PyData.strOk a.1=true)->PyData.canLayAll0 (l.map λa=>PyData.tuple [.str a.1,.int a.2])=true
 |[],_=>rfl
 |a::l,h=>by
  have ih:PyData.canLayAll0 (l.map λa=>PyData.tuple [.str a.1,.int a.2])=true:=mQ λx hx=>h x (List.mem_cons_of_mem _ hx)
  simp only [List.map_cons,PyData.canLayAll0,PyData.canLay0,h a (List.mem_cons_self ..),ih,Bool.and_self]
theorem tM:∀ l:List Rt,PyData.depthAll (l.map λa=>PyData.tuple [.str a.1,.int a.2])<=1
 |[]=>by simp [PyData.depthAll]
 |a::l=>by
  have:=tM l
  simp only [List.map_cons,PyData.depthAll,PyData.depth,Nat.max_le]
  exact ⟨by decide,this⟩
theorem tN:∀ l m:List Rt,PyData.eqvAll (l.map λa=>PyData.tuple [.str a.1,.int a.2]) (m.map λa=>PyData.tuple [.str a.1,.int a.2])=decide (l=m)
 |[],[]=>rfl
 |[],_::_=>by simp [PyData.eqvAll]
 |_::_,[]=>by simp [PyData.eqvAll]
 |a::l,b::m=>by
  simp only [List.map_cons,PyData.eqvAll,PyData.eqv,tN l m,Bool.and_true]
  rw [Bool.eq_iff_iff]
  simp only [Bool.and_eq_true,beq_iff_eq,decide_eq_true_eq,List.cons.injEq,Prod.ext_iff]
theorem Dg {S:Sto}{Q:T->Sto->Prop}{n:Bool}{x y:T}{l m:List Rt}(e1:a7 S x=some (.list (l.map λa=>PyData.tuple [.str a.1,.int a.2]))) (e2:a7 S y=some (.list (m.map λa=>PyData.tuple [.str a.1,.int a.2])))
  (h1:∀ a∈l,PyData.strOk a.1=true) (h2:∀ a∈m,PyData.strOk a.1=true) (hx:∀ i,x≠.int i:=by intro i e;cases e) (hx2:∀ i,x≠.str i:=by intro i e;cases e) (hx3:∀ i,x≠.bl i:=by intro i e;cases e)
  (h:Q (.bl (n ^^ decide (l=m))) S):gEq n x y S Q:=by
 have z:∃ dx dy,a7 S x=some dx/\a7 S y=some dy/\dx.canLay0=true/\dy.canLay0=true/\min dx.depth dy.depth<=64/\Q (.bl (n ^^ PyData.eqv dx dy)) S:=by
  refine ⟨_,_,e1,e2,by simp only [PyData.canLay0];exact mQ h1,by simp only [PyData.canLay0];exact mQ h2,?_,?_⟩
  ·have:=tM l
   simp only [PyData.depth];omega
  ·simp only [PyData.eqv,tN];exact h
 cases x with
 |int i=>exact (hx i rfl).elim
 |str i=>exact (hx2 i rfl).elim
 |bl i=>exact (hx3 i rfl).elim
 |_=>exact z
theorem FI {S:Sto}{Q:T->Sto->Prop}{a:Rt}(h:Q (.str a.1) S):gIx (rt a) (.int 0) S Q:=uG (t:=.str a.1) rfl h
theorem AD {S:Sto}{x:T}{ts:List T}(h:aS S x=some ts):eP x ts S:=by
 unfold eP
 cases x<;>first|trivial|skip
 rename_i a
 simp only [aS] at h
 cases e:S a with
 |none=>rw [e] at h;cases h
 |some o =>
  rw [e] at h
  cases o<;>first|(cases h;done)|skip
  cases h;exact e
end Rk
namespace T2
open PySem PySem.Spec PyProof.Rows L2
section
variable {κ:Type}[DecidableEq κ]
def aO (kts:List (κ×T)) (k:κ):Option T:=(kts.find? λkv=>decide (kv.1=k)).map (·.2)
def eZ (kts:List (κ×T)) (k:κ) (t:T):List (κ×T) :=
 if (kts.any λkv=>decide (kv.1=k))=true then kts.map (λkv=>if kv.1=k then (kv.1,t) else kv) else kts++[(k,t)]
def gP (kts:List (κ×T)) (k:κ):List (κ×T):=kts.filter λkv=>decide (kv.1≠k)
abbrev PrT (K:Fg) (H:Hp) (S:Sto):List (κ×T)->List (κ×V)->Prop:=Paired λ(p:κ×T) (q:κ×V)=>p.1=q.1/\Rp K H S p.2 q.2
variable {K:Fg}{H:Hp}{S:Sto}
theorem lK {k:κ}{t:T}:∀ {kts:List (κ×T)}{kvs:List (κ×V)},PrT K H S kts kvs->aO kts k=some t->∃ v,bg kvs k=some v/\Rp K H S t v
 |_,_,.nil,e=>by cases e
 |(a,b)::l,(c,d)::l',.cons ⟨e,r⟩ ps,h=>by
  simp only at e;subst e
  unfold aO bg at *
  rw [List.find?_cons] at h ⊢
  by_cases z:a=k
  ·simp only [z,decide_true,Option.map_some,Option.some.injEq] at h ⊢
   subst h;exact ⟨d,rfl,r⟩
  ·simp only [z,decide_false] at h ⊢
   exact lK ps h
theorem lL {k:κ}:∀ {kts:List (κ×T)}{kvs:List (κ×V)},PrT K H S kts kvs->(bg kvs k).isSome=(aO kts k).isSome
 |_,_,.nil=>rfl
 |(a,b)::l,(c,d)::l',.cons ⟨e,r⟩ ps=>by
  simp only at e;subst e
  unfold aO bg
  rw [List.find?_cons,List.find?_cons]
  by_cases z:a=k
  ·simp [z]
  ·simp only [z,decide_false]
   exact lL ps
theorem tO {k:κ}:∀ {kts:List (κ×T)}{kvs:List (κ×V)},PrT K H S kts kvs->(kvs.any λkv=>decide (kv.1=k))=kts.any λkv=>decide (kv.1=k)
 |_,_,.nil=>rfl
 |(a,b)::l,(c,d)::l',.cons ⟨e,r⟩ ps=>by
  simp only at e;subst e
  rw [List.any_cons,List.any_cons,tO ps]
theorem Paired.app {α β:Type}{F:α->β->Prop}:∀ {a:List α}{b:List β}{c:List α}{d:List β},Paired F a b->Paired F c d->Paired F (a++c) (b++d)
 |_,_,_,_,.nil,r=>r
 |_,_,_,_,.cons h t,r=>.cons h (Paired.app t r)
theorem rO {k:κ}{t:T}{v:V}(r:Rp K H S t v):∀ {kts:List (κ×T)}{kvs:List (κ×V)},PrT K H S kts kvs->PrT K H S (kts.map λkv=>if kv.1=k then (kv.1,t) else kv) (kvs.map λkv=>if kv.1=k then (kv.1,v) else kv)
 |_,_,.nil=>.nil
 |(a,b)::l,(c,d)::l',.cons ⟨e,q⟩ ps=>by
  simp only at e;subst e
  refine .cons ?_ (rO r ps)
  dsimp only
  by_cases z:a=k
  ·rw [if_pos z,if_pos z];exact ⟨rfl,r⟩
  ·rw [if_neg z,if_neg z];exact ⟨rfl,q⟩
theorem Dh {k:κ}{t:T}{v:V}(r:Rp K H S t v){kts:List (κ×T)}{kvs:List (κ×V)}(p:PrT K H S kts kvs):PrT K H S (eZ kts k t) (bt kvs k v):=by
 unfold eZ bt
 rw [tO p]
 split
 ·exact rO r p
 ·exact Paired.app p (.cons ⟨rfl,r⟩ .nil)
theorem mj {k:κ}:∀ {kts:List (κ×T)}{kvs:List (κ×V)},PrT K H S kts kvs->PrT K H S (gP kts k) (eU kvs k)
 |_,_,.nil=>.nil
 |(a,b)::l,(c,d)::l',.cons ⟨e,q⟩ ps=>by
  simp only at e;subst e
  unfold gP eU
  rw [List.filter_cons,List.filter_cons]
  by_cases z:a=k
  ·simp only [z,ne_eq,not_true,decide_false,Bool.false_eq_true,if_false];exact mj ps
  ·simp only [z,ne_eq,not_false_eq_true,decide_true,if_true];exact .cons ⟨rfl,q⟩ (mj ps)
end
def dg:Key->T
 |.inl i=>.int i
 |.inr x=>.str x
section
variable {K:Fg}{X:Cx}{H:Hp}{S:Sto}
theorem iJ {t:T}{v:V}{k:Key}(r:Rp K H S t v) (e:c8 t=some k):v=kV k:=by
 cases r<;>simp only [c8,Option.some.injEq,reduceCtorEq] at e<;>subst e<;>rfl
theorem rP (k:Key):Rp K H S (dg k) (kV k):=by cases k<;>constructor
def RdT (w:World) (S:Sto) (a:Addr) (kts:List (Key×T)):Prop:=S a=some (.dK kts)\/∃ od kvs,S a=some (.fK w od kvs kts)
theorem kc {w:World}{a:Addr}{kts:List (Key×T)}(s:SRp K H S) (g:RdT w S a kts):∃ kvs,RdK w H a kvs/\PrT K H S kts kvs:=by
 rcases g with e|⟨od,kvs,e⟩
 ·cases s a _ e with
  |dK h p=>exact ⟨_,.inl h,p⟩
 ·cases s a _ e with
  |fK h p=>exact ⟨_,.inr ⟨_,h⟩,p⟩
theorem iK {a:Addr}{kts:List (Key×T)}(s:SRp K H S) (e:S a=some (.dK kts)):∃ kvs,H a=some (.dK kvs)/\PrT K H S kts kvs:=by
 cases s a _ e with
 |dK h p=>exact ⟨_,h,p⟩
theorem yO {a:Addr}{kts us:List (Key×T)}{ws:List (Key×V)}{Qt:T->Sto->Prop}{Q:VK}{t:T}{v:V}(s:SRp K H S) (e:S a=some (.dK kts)) (p:PrT K H S us ws) (b:Bh K H S Qt Q) (r:Rp K H S t v) (q:Qt t (put S a (.dK us))):Q v (upd H a (.dK ws)):=by
 have hn:S a≠none:=by rw [e];simp
 have f:Fr H S (upd H a (.dK ws)) (put S a (.dK us)):=Fr.write hn
 exact b _ _ _ _ f (s.write hn (.dK aF (Paired.mapP p λ_ _ z=>⟨z.1,z.2.fr f⟩))) (r.fr f) q
def nZ (w:World):G2:=λx y S Q=>∃ a kts k t,x=.ref a/\RdT w S a kts/\c8 y=some k/\aO kts k=some t/\Q t S
theorem FJ {o i:Expr}{wo wi:WE}{pos:Pos}(ho:QE K X o wo) (hi:QE K X i wi) (hs:ko i):QE K X (.Subscript o i pos) (w2 (nZ X.w) wo wi):=PE.of (z6 ho hi hs) λσ H Q zz95=>by
 obtain ⟨S,σt,Qt,s,c,q,hq⟩:=zz95
 refine ⟨S,σt,_,s,c,q,λx H1 tx S1 f1 s1 r1 q1=>?_⟩
 refine ⟨S1,σt,_,s1,c.fr f1,q1,λy H2 ty S2 f2 s2 r2 q2=>?_⟩
 obtain ⟨a,kts,k,t,rfl,g,ek,l,q2⟩:=q2
 cases r1
 obtain ⟨kvs,hg,p⟩:=kc s2 g
 obtain ⟨v,lv,rv⟩:=lK p l
 exact ⟨a,kvs,k,v,rfl,hg,iJ r2 ek,lv,hq v H2 t S2 (f1.trans f2) s2 rv q2⟩
def iV (w:World) (neg:Bool):G2:=λx y S Q=>∃ a kts k,y=.ref a/\RdT w S a kts/\c8 x=some k/\Q (.bl (neg ^^ (aO kts k).isSome)) S
theorem FK:OpR X (compareOp .In) (l2 K (iV X.w false)):=by
 rintro pins s σ H x y v u Q I rx ry ⟨S,tx,ty,Qt,sr,hx,hy,⟨a,kts,k,e,g,ek,q⟩,b⟩
 subst e
 cases hy
 cases (show u=Value.ref a from ry)
 obtain ⟨kvs,hg,p⟩:=kc sr g
 have:=iJ hx ek
 subst this
 refine GG I hg rx λs' I'=>⟨.bl (bg kvs k).isSome,H,I',rfl,b _ H _ S .refl sr .bl ?_⟩
 rw [lL p];simpa using q
theorem yP:OpR X (compareOp .NotIn) (l2 K (iV X.w true)):=by
 rintro pins s σ H x y v u Q I rx ry ⟨S,tx,ty,Qt,sr,hx,hy,⟨a,kts,k,e,g,ek,q⟩,b⟩
 subst e
 cases hy
 cases (show u=Value.ref a from ry)
 obtain ⟨kvs,hg,p⟩:=kc sr g
 have:=iJ hx ek
 subst this
 refine z5 I hg rx λs' I'=>⟨.bl (!(bg kvs k).isSome),H,I',rfl,b _ H _ S .refl sr .bl ?_⟩
 rw [lL p];simpa using q
def uP:GS:=λo i v S Q=>∃ a kts k,o=.ref a/\S a=some (.dK kts)/\c8 i=some k/\kts.length<sizeLine/\Q (put S a (.dK (eZ kts k v)))
theorem d5 (hu:X.A.units+1<cLine):e9 X (iS K uP):=by
 rintro pins s σ H o i v ov iv u Q I ro ri rv ⟨S,to,ti,tv,Qt,sr,hO,hI,hV,⟨a,kts,k,e,ea,ek,hl,q⟩,b⟩
 subst e
 cases hO
 cases (show ov=Value.ref a from ro)
 obtain ⟨kvs,hk,p⟩:=iK sr ea
 have:=iJ hI ek
 subst this
 have hn:S a≠none:=by rw [ea];simp
 refine xn hu I (kn.k hk (by rw [Paired.len p];exact hl)) ri rv λs' I'=>⟨_,I',?_⟩
 exact b _ _ (Fr.write hn) (sr.write hn (.dK aF (Paired.mapP (Dh hV p) λ_ _ z=>⟨z.1,z.2.fr (Fr.write hn)⟩))) q
def uQ:GM:=λx ts S Q=>∃ a kts y k t,x=.ref a/\ts=[y]/\S a=some (.dK kts)/\c8 y=some k/\aO kts k=some t/\Q t (put S a (.dK (gP kts k)))
theorem jW:MtR X "dict.pop" (lM K uQ):=by
 rintro pins s σ H x xs v us Q I rx rv ⟨S,t,ts,Qt,sr,hx,rs,⟨a,kts,y,k,t',e,e2,ea,ek,l,q⟩,b⟩
 subst e e2
 cases hx
 cases rs with
 |cons ry rn =>
  cases rn
  obtain ⟨kvs,hk,p⟩:=iK sr ea
  obtain ⟨w',lw,rw'⟩:=lK p l
  have:=iJ ry ek
  subst this
  exact z7 pins s σ H _ _ v us Q I rx rv ⟨a,kvs,k,w',rfl,rfl,hk,lw,yO sr ea (mj p) b rw' q⟩
def uR:WE:=λ_ S Q=>∀ p,S p=none->Q (.ref p) (put S p (.dK []))
theorem eS {pos:Pos}:QE K X (.Dict [] [] pos) uR:=PE.of yo λσ H Q ⟨S,σt,Qt,s,c,q,hq⟩=>λp hp =>
 hq _ _ (.ref p) _ (Fr.newT hp) (s.newT hp (.dK aF .nil)) .ref (q p (s.fresh hp))
theorem rQ:∀ {kts:List (Key×T)}{kvs:List (Key×V)},PrT K H S kts kvs->Rps K H S (kts.map λkv=>dg kv.1) (kvs.map λkv=>kV kv.1)
 |_,_,.nil=>.nil
 |(a,b)::l,(c,d)::l',.cons ⟨e,r⟩ ps=>by
  simp only at e;subst e
  exact .cons (rP a) (rQ ps)
def ke (kv:Key×T):T:=.tup [dg kv.1,kv.2]
def wiP (w:World) (wa:WE):WI:=λσ S R=>wa σ S λx S1=>∃ d kts,x=.ref d/\S1 d=some (.dK kts)/\∀ od kvs,R ⟨kts.map ke,λS'=>S' d=some (.fK w od kvs kts)⟩ (put S1 d (.fK w od kvs kts))
theorem AE {w:World}{d:Addr}{od:Obj}{kts:List (Key×T)}{kvs:List (Key×V)}(s:SRp K H S) (e:S d=some (.dK kts)) (p:PrT K H S kts kvs) :
  Fr H S (upd H d (fzH w d od kvs)) (put S d (.fK w od kvs kts))/\SRp K (upd H d (fzH w d od kvs)) (put S d (.fK w od kvs kts)):=by
 have hn:S d≠none:=by rw [e];simp
 exact ⟨Fr.write hn,s.write hn (.fK aF (Paired.mapP p λ_ _ z=>⟨z.1,z.2.fr (Fr.write hn)⟩))⟩
theorem yQ {o:Expr}{wa:WE}{elts:List Expr}{x1:Nat}{tpos apos cpos:Pos}(ho:QE K X o wa) (hK:X.K=K)
  (hbase:attributeBase o "items" X.env (eval o X.env)=eval o X.env:=by rfl) (hline:(apos.endLine==cpos.line)=true:=by rfl):QI K X (.Tuple elts x1 tpos) (.Call (.Attribute o "items" apos) [] [] cpos) (wiP X.w wa):=by
 subst hK
 refine PI.of (yr (sQ PySem.F.plainAttrs_dict PySem.F.slot_dict_items PySem.F.type_dict_items yq ho hbase hline)) λσ H R zz96=>?_
 obtain ⟨S,σt,Rt,s,c,q,hq⟩:=zz96
 refine ⟨S,σt,_,s,c,q,λx H1 tx S1 f1 s1 r1 q1=>?_⟩
 obtain ⟨d,kts,rfl,ed,q1⟩:=q1
 cases r1
 obtain ⟨kvs,hk,p⟩:=iK s1 ed
 refine ⟨.inr (.inr (.inl ⟨rfl,.inl ⟨_,hk⟩⟩)),d,kvs,rfl,rfl,hk,λv hv=>?_⟩
 have nd:d≠v:=br hk hv
 refine ⟨v,d,kvs,rfl,aF,by rw [av nd];exact hk,λod=>?_⟩
 have fv:Fr H1 S1 (upd H1 v (iH v d)) S1:=Fr.new hv
 obtain ⟨f2,s2⟩:=AE (w:=X.w) (od:=od) (s1.new (u:=iH v d) hv) ed (Paired.mapP p λ_ _ z=>⟨z.1,z.2.fr fv⟩)
 refine hq _ _ _ _ ((f1.trans fv).trans f2) s2 ⟨?_,?_,?_⟩ (q1 od kvs)
 ·intro H' S' i f' s' g hi
  cases s' d _ g with
  |fK h p' =>
   dsimp only at hi
   rw [List.length_map] at hi
   exact ⟨h,by rw [Paired.len p'];exact hi⟩
 ·rintro H' S' i x H'' f' s' g hi ⟨pp,kv,ek,hp,ex,eH⟩
  subst eH ex
  cases s' d _ g with
  |fK h p' =>
   obtain ⟨kt,e1,e2⟩:=kq p' ek
   refine ⟨ke kt,by rw [List.getElem?_map,e1];rfl,Fr.new hp,s'.new hp,?_⟩
   refine .tup (s'.fresh hp) aF (.cons ?_ (.cons (e2.2.fr (Fr.new hp)) .nil))
   rw [e2.1];exact rP _
 ·intro H' S' f' s' g
  cases s' d _ g with
  |fK h p'=>exact ⟨h,by rw [Paired.len p',List.length_map];exact Nat.le_refl _⟩
def n4 (w:World) (we:WE):WE:=λσ S Q=>we σ S λt S'=>∃ d od kvs kts,S' d=some (.fK w od kvs kts)/\Q t (put S' d (.dK kts))
theorem AF {w:World}{d:Addr}{od:Obj}{kts:List (Key×T)}{kvs:List (Key×V)}(s:SRp K H S) (e:S d=some (.fK w od kvs kts)) :
  H d=some (fzH w d od kvs)/\Fr H S (upd H d (.dK kvs)) (put S d (.dK kts))/\SRp K (upd H d (.dK kvs)) (put S d (.dK kts)):=by
 have hn:S d≠none:=by rw [e];simp
 cases s d _ e with
 |fK h p=>exact ⟨h,Fr.write hn,s.write hn (.dK aF (Paired.mapP p λ_ _ z=>⟨z.1,z.2.fr (Fr.write hn)⟩))⟩
theorem FL {e:Expr}{we:WE}(h:QE K X e we):QE K X e (n4 X.w we):=PE.of (PE.unf h) λσ H Q zz97=>by
 obtain ⟨S,σt,Qt,s,c,q,hq⟩:=zz97
 refine ⟨S,σt,_,s,c,q,λv H1 t S1 f1 s1 r1 q1=>?_⟩
 obtain ⟨d,od,kvs,kts,e,q1⟩:=q1
 obtain ⟨h1,f2,s2⟩:=AF s1 e
 exact ⟨d,od,kvs,h1,hq v _ t _ (f1.trans f2) s2 (r1.fr f2) q1⟩
end
section
variable {K:Fg}{X:Cx}{k:Nat}{f C:Addr}{fd:FuncData}{ps:List Str}{wsp:WSp}{x m fl:Str}{p pos apos cpos pos':Pos}{e o value:Expr}{es:List Expr}{wa wv:WE}{wr:WA}{G:Addr->Prop}
theorem rR (M:Mk X.K C f) (F:FnOk X.prog X.w X.K X.mg X.base CX0 k f fd ["self"] (lSp K wsp)) (hb:aq X.K fd ["self"] []) (hr:Room (k+1) X.A) (hg:Gl X x) (hm:X.mg x=some (.ref C)) (hdb:(x==("__debug__":Str))=false:=by decide) :
  QE K X (.Call (.Name x p) [] [] pos) (iI C wsp [] b7):=Ab (dvs:=[]) (λ_ _=>.nil) (ya M F hr hg hm hb .nil dJ hdb)
theorem ba {pl:Sem Bool}(hG:∀ C,G C->Cls X.K C/\Meth X.K C m f) (F:FnOk X.prog X.w X.K X.mg X.base CX0 k f fd ps (lSp K wsp)) (hb:aq X.K fd ps []) (hr:Room k X.A) (ho:QE K X o wa) (ha:QA K X (e::es) wr)
  (hst:starEach (e::es) X.env=(false,eval e X.env)::starEach es X.env:=by rfl) (hpl:(backTo pos (starEach es X.env)).any (·.1)=false:=by rfl)
  (ht:eval (.Call (.Attribute o m apos) (e::es) [] pos) X.env=(do
   let ov <- eval o X.env
   standAt apos.atName
   let (f,first) <- holding [ov] (getMethod ov m pl)
   callWith pos f first (backTo pos (starEach (e::es) X.env)) (backToKw pos (keywordEach [] X.env))):=by rfl) :
  QE K X (.Call (.Attribute o m apos) (e::es) [] pos) (dL G m wsp [] wa wr):=sW (dvs:=[]) (λ_ _=>.nil) (qq (pl:=pl) ho hG F hr hb .nil dJ ha hst hpl ht)
theorem jF {pl:Sem Bool}(hG:∀ C,G C->Cls X.K C/\Meth X.K C m f) (F:FnOk X.prog X.w X.K X.mg X.base CX0 k f fd ps (lSp K wsp)) (hb:aq X.K fd ps []) (hr:Room k X.A) (ho:QE K X o wa)
  (ht:eval (.Call (.Attribute o m apos) [] [] pos) X.env=(do
   let ov <- eval o X.env
   standAt apos.atName
   let (f,first) <- holding [ov] (getMethod ov m pl)
   callWith pos f first (backTo pos (starEach [] X.env)) (backToKw pos (keywordEach [] X.env))):=by rfl) :
  QE K X (.Call (.Attribute o m apos) [] [] pos) (dL G m wsp [] wa b7):=qY (dvs:=[]) (λ_ _=>.nil) (pX (pl:=pl) ho hG F hr hb .nil dJ ht)
theorem aJ (hK:X.K=K) (hG:∀ C,G C->Cls K C/\bo K C fl) (he:QE K X o wa) (hb:attributeBase o fl X.env (eval o X.env)=eval o X.env:=by rfl):QE K X (.Attribute o fl pos) (nV G wa fl):=EK hK hG he hb
theorem a6 (w:World){i:Expr}{wi:WE}(hw:X.w=w) (ho:QE K X o wa) (hi:QE K X i wi) (hs:ko i):QE K X (.Subscript o i pos) (w2 (nZ w) wa wi):=by subst hw;exact FJ ho hi hs
theorem cH (w:World) (hw:X.w=w):OpR X (compareOp .In) (l2 K (iV w false)):=by subst hw;exact FK
theorem cf (w:World) (hw:X.w=w):OpR X (compareOp .NotIn) (l2 K (iV w true)):=by subst hw;exact yP
theorem AG (w:World){elts:List Expr}{x1:Nat}{tpos:Pos}(hw:X.w=w) (hK:X.K=K) (ho:QE K X o wa)
  (hbase:attributeBase o "items" X.env (eval o X.env)=eval o X.env:=by rfl) (hline:(apos.endLine==cpos.line)=true:=by rfl):QI K X (.Tuple elts x1 tpos) (.Call (.Attribute o "items" apos) [] [] cpos) (wiP w wa):=by subst hw;exact yQ ho hK hbase hline
theorem FM (w:World) (hw:X.w=w) (h:QE K X e wa):QE K X e (n4 w wa):=by subst hw;exact FL h
structure FunD (K:Fg) (x qual:Str) (st:Stmt) (f:Addr) (fd:FuncData):Prop where
 ex:∃ (oc:Value) (od:Option Addr) (dV kV doc pm:Value) (an:Option Addr) (cdv ct:Value) (osl:Array (Option Value)),
  fd=PySem.W.fnOf x qual (au st) (am st) (ai st) dV kV doc pm an cdv ct/\K.lookup f=some ⟨oc,od,.func fd,osl⟩/\PySem.W.codeIn K cdv qual=true
theorem bn {P:Program}{w:World}{mg:Str->Option Value}{base:Heap}{x qual:Str}{st:Stmt}{N:List Str}(F:FunD K x qual st f fd) (Sc:FnScope N ps (ai st)) (len:∀ ts S Q,wsp ts S Q->ts.length=ps.length)
  (hbody:∀ (cdv:Value) (A:Around) (outer:List Env) (s:Shared) (H:Hp) (E:XK),Room k (A.deeper (envOfC qual (ai st) s.heap.objs.size f cdv)) ->
   ∃ u,QSs K (cz CX0 P w K mg base N qual (ai st) f cdv A outer s H E).nox (am st) u/\∀ ts S Q,wsp ts S Q->u { nx:=λ_ S'=>Fin Q .non S',rt:=Fin Q } (cq N ts) S):FnOk P w K mg base CX0 (k+1) f fd ps (lSp K wsp):=by
 obtain ⟨oc,od,dV,kV,doc,pm,an,cdv,ct,osl,rfl,lk,hcd⟩:=F.ex
 refine nu lk hcd Sc (λvs H Q E ⟨S,ts,Qt,s,r,q,_⟩=>by rw [r.length];exact len _ _ _ q) λA outer s H vs Q E hr ⟨S,ts,Qt,sr,r,q,b⟩=>?_
 obtain ⟨u,hu,hq⟩:=hbody cdv A outer s H E hr
 exact ⟨_,L2.PSs.nox hu,S,cq N ts,_,sr,jo r,hq ts S Qt q,⟨λ_ H' _ S' f s' _ q'=>Fin.ends b f s' .non q',λv H' t S' f s' r' q'=>Fin.ends b f s' r' q',λ_ _ _ _ _ _ _ q'=>q'.elim,λ_ _ _ _ _ _ _ q'=>q'.elim⟩⟩
end
section
variable {σ:StT}{S:Sto}{D:EndsT}{Q:T->Sto->Prop}{R:Prop}{w:World}{a d C:Addr}{G:Addr->Prop}{fs:List (Str×T)}{m fl:Str}{t:T}{x y:T}{kts:List (Key×T)}{k:Key}{i:Int}
theorem Di {wsp:WSp}{wr:WA}(h:wr σ S λts S1=>∀ x,S1 x=none->wsp (.ref x::(ts++[])) (put S1 x (.ins C [])) (λt S2=>t=.non/\Q (.ref x) S2)):iI C wsp [] wr σ S Q:=h
theorem Dj {wsp:WSp}{dts:List T}{wa:WE}{wr:WA}(h:wa σ S λx S1=>∃ a C fs,x=.ref a/\S1 a=some (.ins C fs)/\G C/\fs.lookup m=none/\wr σ S1 λts S2=>wsp (x::(ts++dts)) S2 Q):dL G m wsp dts wa wr σ S Q:=h
theorem Dk (e:S a=some (.ins C fs)) (g:G C) (l:fs.lookup m=none) (h:R):∃ a' C' fs',T.ref a=.ref a'/\S a'=some (.ins C' fs')/\G C'/\fs'.lookup m=none/\R:=⟨a,C,fs,rfl,e,g,l,h⟩
theorem FN {wa:WE}(h:wa σ S λx S1=>∃ a C fs v,x=.ref a/\S1 a=some (.ins C fs)/\G C/\fs.lookup fl=some v/\Q v S1):nV G wa fl σ S Q:=h
theorem FO {P:T->Prop}(e:S a=some (.ins C fs)) (g:G C) (l:fs.lookup fl=some t) (h:P t):∃ a' C' fs' v,T.ref a=.ref a'/\S a'=some (.ins C' fs')/\G C'/\fs'.lookup fl=some v/\P v:=⟨a,C,fs,t,rfl,e,g,l,h⟩
theorem Dl {wa wv:WE}(h:wv σ S λy S1=>wa σ S1 λx S2=>∃ a C fs,x=.ref a/\S2 a=some (.ins C fs)/\G C/\fs.length<1000/\D.nx σ (put S2 a (.ins C (dc fl y fs)))):uC G wa wv fl D σ S:=h
theorem mR {P:Addr->Addr->List (Str×T)->Prop}(e:S a=some (.ins C fs)) (g:G C) (l:fs.length<1000) (h:P a C fs):∃ a' C' fs',T.ref a=.ref a'/\S a'=some (.ins C' fs')/\G C'/\fs'.length<1000/\P a' C' fs':=⟨a,C,fs,rfl,e,g,l,h⟩
theorem AH {wa wv:WE}(h:wa σ S λx S1=>∃ a C fs i,x=.ref a/\S1 a=some (.ins C fs)/\G C/\fs.lookup fl=some (.int i) /\
 wv σ S1 λy S2=>∃ j fs',y=.int j/\S2 a=some (.ins C fs')/\fs'.length<1000/\D.nx σ (put S2 a (.ins C (dc fl (.int (i+j)) fs')))):qr G wa wv fl D σ S:=h
theorem AI {P:Addr->Addr->Int->Prop}(e:S a=some (.ins C fs)) (g:G C) (l:fs.lookup fl=some (.int i)) (h:P a C i):∃ a' C' fs' i',T.ref a=.ref a'/\S a'=some (.ins C' fs')/\G C'/\fs'.lookup fl=some (.int i')/\P a' C' i':=⟨a,C,fs,i,rfl,e,g,l,h⟩
theorem yR {P:Int->List (Str×T)->Prop}{j:Int}(e:S a=some (.ins C fs)) (l:fs.length<1000) (h:P j fs):∃ j' fs',T.int j=.int j'/\S a=some (.ins C fs')/\fs'.length<1000/\P j' fs':=⟨j,fs,rfl,e,l,h⟩
theorem FP {we:WE}(h:we σ S λt S'=>∃ d od kvs kts,S' d=some (.fK w od kvs kts)/\Q t (put S' d (.dK kts))):n4 w we σ S Q:=h
theorem Dm (h:∀ p,S p=none->Q (.ref p) (put S p (.dK []))):uR σ S Q:=h
theorem gQ (e:S a=some (.dK kts)) (ek:c8 y=some k) (l:aO kts k=some t) (h:Q t S):nZ w (.ref a) y S Q:=⟨a,kts,k,t,rfl,.inl e,ek,l,h⟩
theorem a8 {n:Bool}(e:S a=some (.dK kts)) (ek:c8 x=some k) (h:Q (.bl (n ^^ (aO kts k).isSome)) S):iV w n x (.ref a) S Q:=⟨a,kts,k,rfl,.inl e,ek,h⟩
theorem dH {v:T}{Q:Sto->Prop}(e:S a=some (.dK kts)) (ek:c8 y=some k) (l:kts.length<sizeLine) (h:Q (put S a (.dK (eZ kts k v)))):uP (.ref a) y v S Q:=⟨a,kts,k,rfl,e,ek,l,h⟩
theorem jX (e:S a=some (.dK kts)) (ek:c8 y=some k) (l:aO kts k=some t) (h:Q t (put S a (.dK (gP kts k)))):uQ (.ref a) [y] S Q:=⟨a,kts,y,k,t,rfl,rfl,e,ek,l,h⟩
theorem FQ {R:Prop}(e:S a=some (.dK kts)) (h:R):tyM "dict" S (.ref a)/\R:=⟨by delta tyM;dsimp only;rw [e],h⟩
theorem He {wa:WE}{R:Src->Sto->Prop}(h:wa σ S λx S1=>∃ d kts,x=.ref d/\S1 d=some (.dK kts)/\∀ od kvs,R ⟨kts.map ke,λS'=>S' d=some (.fK w od kvs kts)⟩ (put S1 d (.fK w od kvs kts))):wiP w wa σ S R:=h
theorem Hf {P:Addr->List (Key×T)->Prop}(e:S d=some (.dK kts)) (h:P d kts):∃ d' kts',T.ref d=.ref d'/\S d'=some (.dK kts')/\P d' kts':=⟨d,kts,rfl,e,h⟩
theorem Hg {P:Addr->List (Key×T)->Prop}{od:Obj}{kvs:List (Key×V)}(e:S d=some (.fK w od kvs kts)) (h:P d kts):∃ d' od' kvs' kts',S d'=some (.fK w od' kvs' kts')/\P d' kts':=⟨d,od,kvs,kts,e,h⟩
end
end T2
namespace T2
open PySem PySem.Spec PyProof.Rows L2 S6
theorem oV (a:Value):argsOk "sorted" ⟨[a],[]⟩:=by unfold argsOk;kernel_rfl
theorem oA (a:Value):argsOk "list.sort" ⟨[a],[]⟩:=by unfold argsOk;kernel_rfl
theorem oK (a:Addr):Builtin.«list.sort» ⟨[.ref a],[]⟩=(do
  let items <- Builtin.List.listItems (.ref a)
  Builtin.List.listUpdate (.ref a) λ_=>#[]
  let before <- seqEpoch a
  let held <- newTuple items.toList
  let keyStore <- newList []
  holding [held,keyStore] do
   let keys <- pure items
   let kind <- if items.size<2 then pure general' else keyKind' keys
   let ((),s) <- (if items.size<2 then pure () else sortRuns').run (SortSt.mk' kind (keys.zip items) #[] 7 none)
   let sorted:=(arrOf s).map (·.2)
   let touched:=(<- seqEpoch a) != before
   Builtin.List.listUpdate (.ref a) λ_=>sorted
   if let some e:=failedOf s then rule "list.sort.comparison-raised";throw e
   if touched then rule "list.sort.modified";raiseError "ValueError" "list modified during sort"
   ret .none):=by rfl
def uS (tr:Bool):List T->Sto->(T->Sto->Prop)->Prop:=λts S Q=>∃ x xs κ k0,ts=[x]/\aS S x=some xs/\xs.length<64/\fit k0=true/\k0.dep<=30 /\
 (∀ t∈xs,Ky.ok (κ t)=true/\Ky.shp k0 (κ t)=true/\tre (κ t)=t)/\kC tr xs κ S Q
theorem tP {X:Cx}{K:Fg}(tr:Bool) (hK:X.K=K) (hr:Room 2 X.A) :
  bw X (.builtin "sorted") (lC K (uS tr)):=by
 rintro pins s σ H xs us Q I rv ⟨S,ts,Qt,sr,r1,⟨x,ls,κ,k0,e1,ev,h64,hf,hd,hk,hq⟩,b⟩
 subst e1
 cases r1 with
 |cons rx rnil =>
 cases rnil
 obtain ⟨u,rfl,ru⟩:=bZ rv
 obtain ⟨pl,vs,rfl,hS,rs⟩:=ce sr rx ev
 cases ru
 have hS':SqL X.K H pl vs:=by rw [hK];exact hS
 obtain ⟨its,rvs,hpl,hz⟩:=I.list hS'
 obtain ⟨o,n,eo,ec,_,ed⟩:=hpl
 have hlen:its.length=ls.length:=by rw [<- rvs.length,rs.length]
 have hsl:its.length<=sizeLine:=by rw [<- rvs.length];exact hz
 show wpAny _ X.A (call (.builtin "sorted") [.ref pl] []) _ _ s
 refine kN kind_sorted plain_sorted entry_sorted (oV _) ?_
 unfold Builtin.«sorted»
 refine wpAny_bind (m:=checkCount "sorted" 1 1 _) (wpAny_pure ?_)
 refine wpAny_bind (collect_list (l:=pl) (vs:=its) ⟨o,eo,ec,n,ed⟩ ?_ hsl)
 refine wpAny_bind (wpAny_newList ?_ hsl)
 generalize hh1:(s.heap.push (seqObj "list" #[] 0)).update s.heap.objs.size (Obj.mapSeq (·++its.toArray))=h1
 have old1:∀ b u,s.heap.get? b=some u->h1.get? b=some u:=λb u e=>by
  rw [<- hh1]
  exact (Heap.get?_update_other _ _ (Ne.symm (Nat.ne_of_lt (Heap.lt_size e)))).trans (Heap.get?_push_of_some _ e)
 have sz1:s.heap.objs.size<=h1.objs.size:=by rw [<- hh1,Heap.size_update,size_push'];omega
 dsimp only
 have hoL:(h1.push (seqObj "list" its.toArray 0)).get? h1.objs.size=some (seqObj "list" its.toArray 0):=Heap.get?_push_size _ rfl
 refine wpAny_bind (wpAny_holding (kM slot_list_sort (Ty:="list") ⟨_,hoL,rfl⟩ entry_list_sort ?_ (oA _)))
 rw [oK]
 refine wpAny_bind (listItems_at hoL rfl ?_)
 refine wpAny_bind (listUpdate_at hoL rfl ?_ (by simpa using hsl) (by simp))
 obtain ⟨ep,ho1⟩:∃ ep,((h1.push (seqObj "list" its.toArray 0)).update h1.objs.size (Obj.mapSeq λ_=>#[])).get? h1.objs.size=some (seqObj "list" #[] ep):=⟨_,get?_update_seq hoL (λ_=>#[])⟩
 refine wpAny_bind (seqEpoch_at ho1 rfl ?_)
 generalize hL:h1.objs.size=L at *
 generalize hh2:(h1.push (seqObj "list" its.toArray 0)).update L (Obj.mapSeq λ_=>#[])=h2 at *
 have szh2:h2.objs.size=L+1:=by rw [<- hh2,Heap.size_update,size_push',hL]
 have I2:Inv X pins σ (upd H L (bD L (seqObj "list" #[] ep))) { s with heap:=h2,toks:=s.toks } :=
  mL I (λb u e=>by rw [<- hh2];exact (Heap.get?_update_other _ _ (Ne.symm (Nat.ne_of_lt (Nat.lt_of_lt_of_le (Heap.lt_size e) sz1)))).trans (Heap.get?_push_of_some _ (old1 b u e))) sz1 ho1
 refine wpAny_bind (wpAny_newTuple ?_ (by simpa using hsl))
 refine wpAny_bind (wpAny_newList ?_)
 dsimp only
 generalize hh3:h2.push { cls:=.type "tuple",data:=.seq its.toArray.toList.toArray }=h3
 have szh3:h3.objs.size=L+2:=by rw [<- hh3,size_push',szh2]
 generalize hh4:h3.push { cls:=.type "list",data:=.seq ([]:List Value).toArray }=h4
 rw [szh3]
 have I4:Inv X pins σ (upd (upd H L (bD L (seqObj "list" #[] ep))) (L+2) (a9 (L+2) [])) { s with heap:=h4,toks:=s.toks } :=
  mK (s:={ s with heap:=h2,toks:=s.toks }) I2 (λb u e=>by rw [<- hh4,<- hh3];exact Heap.get?_push_of_some _ (Heap.get?_push_of_some _ e)) (by show h2.objs.size<=_;omega) .nil (Nat.zero_le _) (by rw [<- hh4,<- szh3];exact Heap.get?_push_size _ rfl)
 have ne1:L+2≠L:=Nat.ne_of_gt (Nat.lt_add_of_pos_right (by decide))
 have ne2:L≠L+2:=Ne.symm ne1
 have nL:H L=none:=I.hok.fresh sz1
 have nk:H (L+2)=none:=I.hok.fresh (by omega)
 have nk2:upd H L (bD L (seqObj "list" #[] ep)) (L+2)=none:=by rw [av ne1];exact nk
 have nSL:S L=none:=sr.fresh nL
 have nSk:S (L+2)=none:=sr.fresh nk
 generalize hHc:upd (upd H L (bD L (seqObj "list" #[] ep))) (L+2) (a9 (L+2) [])=Hc at *
 have eL:Hc L=some (bD L (seqObj "list" #[] ep)):=by rw [<- hHc,av ne2];exact aF
 have ek:Hc (L+2)=some (a9 (L+2) []):=by rw [<- hHc];exact aF
 have fc:Fr H S Hc S:=by rw [<- hHc];exact (Fr.new nL).trans (Fr.new nk2)
 have sc:SRp K Hc S:=by rw [<- hHc];exact (sr.new nL).new nk2
 refine wpAny_holding (wpAny_bind (wpAny_pure ?_))
 generalize hs5:({ s with heap:=h4,toks:=s.toks }:Shared)=s5 at *
 have rs5:=rs.fr fc
 obtain ⟨R,q1,q2,q3,q4,q5⟩:=jE rs5 rvs (rfl:its.length=its.length)
 have key:∀ r∈R,KR s5 r.ku (κ r.t)/\Ky.shp k0 (κ r.t)=true:=by
  have go:∀ {R:List Rec}{vs:List V},Rps K Hc S (R.map (·.t)) vs->aj vs (R.map (·.ku))->(∀ r∈R,r.t∈ls)->∀ r∈R,KR s5 r.ku (κ r.t)/\Ky.shp k0 (κ r.t)=true:=by
   intro R
   induction R with
   |nil=>intro _ _ _ _ r hr;cases hr
   |cons r0 R ih =>
    intro kvs a b m r hr
    cases a with
    |cons a1 a2 =>
     cases b with
     |cons b1 b2 =>
      rcases List.mem_cons.mp hr with rfl|hr
      ·have:=hk r.t (m r (List.mem_cons_self ..))
       exact ⟨nE hK I4 (by rw [this.2.2];exact a1) b1 this.1,this.2.1⟩
      ·exact ih a2 b2 (λx hx=>m x (List.mem_cons_of_mem _ hx)) r hr
  exact go (by rw [q1];exact rs5) (by rw [q4];exact rvs) λr hr=>by rw [<- q1];exact List.mem_map_of_mem hr
 refine la (k0:=k0) rfl (by rw [hlen];exact h64) hf (λv hv=>?_) (by have:=hr.in1.in1.units;omega) λst hp hfail hsrt=>?_
 ·rw [<- q4] at hv
  obtain ⟨r,hr,rfl⟩:=List.mem_map.mp hv
  exact ⟨_,key r hr⟩
 ·obtain ⟨R',pR,eR⟩:=gg (λr:Rec=>((r.ku,r.u):Keyed)) (Array.perm_iff_toList_perm.mp hp) (l:=R) (by
   have:(its.toArray.zip its.toArray).toList=its.zip its:=by simp
   rw [this]
   conv=>lhs;arg 1;rw [<- q4]
   conv=>lhs;arg 2;rw [<- q3]
   exact List.zip_map')
  have memR:∀ r∈R',r∈R:=λr hr=>pR.mem_iff.mp hr
  obtain ⟨rz,vz⟩:=js λr hr=>q5 r (memR r hr)
  have lR:R'.length=its.length:=by rw [pR.length_eq,<- q3,List.length_map]
  have szR:(arrOf st).size=R'.length:=by rw [<- Array.length_toList,eR,List.length_map]
  have at_:∀ k (h:k<(arrOf st).size) (h':k<R'.length),(arrOf st)[k].1=R'[k].ku:=λk h h'=>by
   have e1:(arrOf st)[k]=(arrOf st).toList[k]'(by simpa using h):=by simp
   rw [e1,List.getElem_of_eq eR,List.getElem_map]
  have srt:(R'.map (·.t)).Pairwise (λa b=>Ky.lt (κ b) (κ a)=false):=by
   rw [List.pairwise_map,List.pairwise_iff_getElem]
   intro i j hi hj ij
   have:=hsrt i j (by rw [szR];exact hj) (by rw [szR];exact hi) (Nat.le_of_lt ij)
   rw [at_ i (by rw [szR];exact hi) hi,at_ j (by rw [szR];exact hj) hj,eI (key _ (memR _ (List.getElem_mem hi))).1,eI (key _ (memR _ (List.getElem_mem hj))).1] at this
   exact this
  have fin:=hq (R'.map (·.t)) (by rw [<- q1];exact pR.map _) srt
  have eL5:=nF I4 eL
  have out:(arrOf st).map (·.2)=(R'.map (·.u)).toArray:=by
   apply Array.toList_inj.mp
   rw [Array.toList_map,eR,List.map_map]
   rfl
  dsimp only
  refine wpAny_bind (seqEpoch_at eL5 rfl ?_)
  refine wpAny_bind (listUpdate_at eL5 rfl ?_ (by simp) (by rw [out];simp;omega))
  rw [hfail]
  simp only [bne_self_eq_false,Bool.false_eq_true,if_false]
  have I7:=iC I4 eL (its:=[]) eL5 (f:=λ_=>(arrOf st).map (·.2)) (its':=R'.map (·.u)) out vz (by rw [List.length_map,lR];exact hsl)
  have I8:=I7.ofAcc (D:=L) aF
  rw [gj] at I8
  refine wpAny_pure ⟨_,rfl,wpAny_pure ⟨.ref L,_,I8,rfl,?_⟩⟩
  cases tr with
  |false=>exact b _ _ (.lst _) S (Fr.at fc nL) (sc.chg eL nSL) (.lst nSL aF (Rps.chg eL rz)) fin
  |true =>
   refine b _ _ (.ref L) _ (λa o h nn=>?_) (SRp.trk eL sc rz) .ref (fin L nSL)
   have ha:a≠L:=br h nL
   rw [aE ha]
   exact Fr.at fc nL a o h nn
theorem tQ {α:Type}{S:Sto}{Q:T->Sto->Prop}{tr:Bool}{ls:List α}{x:T}(κ:α->Ky) (κT:T->Ky) (k0:Ky) (e:aS S x=some (ls.map λa=>tre (κ a))) (hT:∀ a∈ls,κT (tre (κ a))=κ a) (h64:ls.length<64) (hf:fit k0=true) (hd:k0.dep<=30)
  (hk:∀ a∈ls,Ky.ok (κ a)=true/\Ky.shp k0 (κ a)=true)
  (h:∀ l':List α,l'.Perm ls->l'.Pairwise (λa b=>Ky.lt (κ b) (κ a)=false)->bi tr (l'.map λa=>tre (κ a)) S Q):uS tr [x] S Q:=by
 refine ⟨x,ls.map λa=>tre (κ a),κT,k0,rfl,e,by rw [List.length_map];exact h64,hf,hd,λt ht=>?_,λzs hp hs=>?_⟩
 ·obtain ⟨a,ha,rfl⟩:=List.mem_map.mp ht
  have:=hk a ha
  rw [hT a ha]
  exact ⟨this.1,this.2,rfl⟩
 ·obtain ⟨l',p,rfl⟩:=gg (λa=>tre (κ a)) hp rfl
  rw [List.pairwise_map] at hs
  refine h l' p (hs.imp_of_mem fun {a b} ha hb q=>?_)
  rw [hT a (p.mem_iff.mp ha),hT b (p.mem_iff.mp hb)] at q
  exact q
end T2
namespace L2
open PySem PySem.Spec PyProof.Rows
theorem Do {X:Cx}{pins:List (Addr×Obj)}{σ:St}{H:Hp}{s:Shared}{v:V}{u:Value}{A:Around}{E:Value->Shared->Prop}{D:List PyData}{Q:Value->Shared->Prop}(hg:A.guards=some []) (hu:A.units+64<cLine) (I:Inv X pins σ H s) (hd:DatV X.K H v (.list D)) (ru:ao v u) (hs:PyData.showable (.list D)=true) (hn:PyData.hasDict (.list D)=false)
  (hdep:PyData.depth (.list D)<=60) (hsz:(PyData.shown (.list D)).length<=sizeLine) (h:∀ t s',Inv X pins σ H s'->Q (.str (PyData.shown (.list D)) t) s'):wpAny (model X.prog X.w) A (call (.builtin "repr") [u]) Q E s:=by
 obtain ⟨as,ra⟩:=dW I hd ru
 cases hd with
 |lst hq hss =>
  obtain rfl:=(show u=Value.ref _ from ru)
  exact repr_of_reads' ra hs (PyData.noDict_hsm hn) hg (by omega) (λ_ _ e=>e) (λh' t tk hk=>h t _ (I.kept (t':=tk) hk)) hsz
end L2
namespace T2
open PySem PySem.Spec PyProof.Rows L2
section
variable {K:Fg}{X:Cx}{H:Hp}{S:Sto}
def FR:GC:=λts S Q=>∃ x D,ts=[x]/\a7 S x=some (.list D)/\PyData.showable (.list D)=true/\PyData.hasDict (.list D)=false/\PyData.depth (.list D)<=60/\(PyData.shown (.list D)).length<=sizeLine/\Q (.str (PyData.shown (.list D))) S
theorem tR (hK:X.K=K) (hg:X.A.guards=some []) (hu:X.A.units+64<cLine):bw X (.builtin "repr") (lC K FR):=by
 subst hK
 rintro pins s σ H xs us Q I r ⟨S,ts,Qt,sr,rs,⟨x,D,e,ed,hs,hn,hdep,hsz,q⟩,b⟩
 subst e
 cases rs with
 |cons h rn =>
  cases rn
  obtain ⟨u,rfl,ru⟩:=bZ r
  exact Do hg hu I (gq sr h ed) ru hs hn hdep hsz λt s' I'=>⟨.str _,H,I',⟨t,rfl⟩,b _ H _ S .refl sr .str q⟩
theorem Dq {k:Nat}{f C:Addr}{fd:FuncData}{ps:List Str}{wsp:WSp}{x:Str}{p pos:Pos}{e:Expr}{es:List Expr}{wr:WA}(M:Mk X.K C f) (F:FnOk X.prog X.w X.K X.mg X.base CX0 k f fd ps (lSp K wsp)) (hb:aq X.K fd ps []) (hr:Room (k+1) X.A) (hg:Gl X x) (hm:X.mg x=some (.ref C))
  (ha:QA K X (e::es) wr) (hdb:(x==("__debug__":Str))=false:=by decide) (he:starEach (e::es) X.env=(false,eval e X.env)::starEach es X.env:=by rfl) (hpl:(backTo pos (starEach es X.env)).any (·.1)=false:=by rfl) :
  QE K X (.Call (.Name x p) (e::es) [] pos) (iI C wsp [] wr):=Cs (dvs:=[]) (λ_ _=>.nil) (zK M F hr hg hm hb .nil dJ ha hdb he hpl)
end
end T2
namespace T2
open PySem PySem.Spec PyProof.Rows L2 S6
theorem yS {prog:Program}{w:World}{A:Around}{E:Value->Shared->Prop}{s:Shared}{Ty:String}{r d:Addr}{n:Nat}{P:Nat->Value->Prop}{OK:Heap->Prop}{R:List Value->Shared->Prop}
  (src:PySem.W.KdlSrc prog w Ty r d n P OK) (hA:A.handled=none) (ok:OK s.heap) (le:n<=sizeLine)
  (h:∀ (h1:Heap) (tk:Nat) (acc:Array Value),(∀ b o,s.heap.get? b=some o->h1.get? b=some o)->s.heap.objs.size<=h1.objs.size->ItemsOf P acc n->R acc.toList { s with heap:=h1,toks:=tk }) :
  wpAny (model prog w) A (collect (.ref r)) R E s:=by
 have lt:=src.there _ ok
 unfold collect
 refine wpAny_bind (wpAny_runValue (codeAny_builtin entry_proto_collect' ?_))
 rw [Around.under_plainId PySem.F.plain_proto_collect _]
 show wpAny _ A.in1 (newList [] >>= λl=>again (.builtin "list.__iadd__" ⟨[l,.ref r],[]⟩)) _ _ s
 refine wpAny_bind (wpAny_newObj_type (wpAny_pure ⟨plainId_quiet PySem.F.plain_list_iadd _,codeAny_builtin entry_list_iadd' ?_⟩))
 rw [Around.under_plainId PySem.F.plain_list_iadd _]
 have new:(s.heap.push { cls:=.type "list",data:=.seq ([]:List Value).toArray }).get? s.heap.objs.size=some { cls:=.type "list",data:=.seq #[] }:=Heap.get?_push_size _ rfl
 show wpAny _ A.in1 (Builtin.List.listExtendWith (.ref s.heap.objs.size) (.ref r) (.ref s.heap.objs.size)) _ _ _
 have main:=PySem.W.kdl_extend (A:=A) (s:={ s with heap:=s.heap.push { cls:=.type "list",data:=.seq ([]:List Value).toArray } })
  (R:=λ(q:Result) (s':Shared)=>∃ (h1:Heap) (tk:Nat) (acc:Array Value) (c:Nat),q=.ok (.ret (.ref s.heap.objs.size))/\s'={ s with heap:=h1,toks:=tk } /\
   (∀ b o,s.heap.get? b=some o->h1.get? b=some o)/\h1.get? s.heap.objs.size=some { cls:=.type "list",dict:=none,data:=.seq acc c,slots:=#[] }/\ItemsOf P acc n)
  src hA (src.keep _ _ ok λb _ o e=>Heap.get?_push_of_some _ e) s.heap.objs.size (Nat.ne_of_gt lt.1) (Nat.ne_of_gt lt.2) (.ref s.heap.objs.size) 0 new
  (λh1 tk acc c hk hS ha=>⟨h1,tk,acc,c,rfl,rfl,λb o e=>hk b o (Nat.ne_of_lt (Heap.lt_size e)) (Heap.get?_push_of_some _ e),hS,ha⟩) le
 refine wpAny_mono main (λfin s' x=>?_) λe s' x=>?_
 ·cases fin with
  |done f =>
   obtain ⟨h1,tk,acc,c,e,rfl,hk,hS,ha⟩:=x
   cases e
   show wpAny _ A (load s.heap.objs.size >>= _) _ _ _
   exact wpAny_bind (wpAny_load hS (wpAny_pure (h h1 tk acc hk (Nat.le_of_lt (Heap.lt_size hS)) ha)))
  |again c₁ =>
   refine ⟨x.1,codeAny_mono x.2 λq s₂ y=>?_⟩
   obtain ⟨h1,tk,acc,c,rfl,rfl,hk,hS,ha⟩:=y
   show wpAny _ A (load s.heap.objs.size >>= _) _ _ _
   exact wpAny_bind (wpAny_load hS (wpAny_pure (h h1 tk acc hk (Nat.le_of_lt (Heap.lt_size hS)) ha)))
 ·obtain ⟨_,_,_,_,e',_⟩:=x
  cases e'
theorem AJ {X:Cx}{K:Fg}(tr:Bool) (hK:X.K=K) (hr:Room 2 X.A){pins:List (Addr×Obj)}{s:Shared}{σ:L2.St}{H:Hp}{S:Sto}{pl:Addr}{ls:List T}{vs:List V}{κ:T->Ky}{k0:Ky}{Qt:T->Sto->Prop}{Q:VK}
  (I:Inv X pins σ H s) (sr:SRp K H S) (rs:Rps K H S ls vs) (h64:ls.length<64) (hz:vs.length<=sizeLine) (hf:fit k0=true) (hd:k0.dep<=30)
  (hk:∀ t∈ls,Ky.ok (κ t)=true/\Ky.shp k0 (κ t)=true/\tre (κ t)=t) (hq:kC tr ls κ S Qt) (b:Bh K H S Qt Q)
  (hcol:∀ (A:Around) (E:Value->Shared->Prop) (R:List Value->Shared->Prop),A.handled=X.A.handled->(∀ (its:List Value) (h1:Heap) (tk:Nat),aj vs its->(∀ b u,s.heap.get? b=some u->h1.get? b=some u)->s.heap.objs.size<=h1.objs.size->R its { s with heap:=h1,toks:=tk })->wpAny (model X.prog X.w) A (collect (.ref pl)) R E s) :
  wpAny (model X.prog X.w) X.A (call (.builtin "sorted") [.ref pl]) (EP X pins σ Q) X.xe s:=by
 show wpAny _ X.A (call (.builtin "sorted") [.ref pl] []) _ _ s
 refine kN kind_sorted plain_sorted entry_sorted (oV _) ?_
 unfold Builtin.«sorted»
 refine wpAny_bind (m:=checkCount "sorted" 1 1 _) (wpAny_pure ?_)
 refine wpAny_bind (hcol _ _ _ rfl λits h1 tk rvs old1 sz1=>?_)
 have hlen:its.length=ls.length:=by rw [<- rvs.length,rs.length]
 have hsl:its.length<=sizeLine:=by rw [<- rvs.length];exact hz
 refine wpAny_bind (wpAny_newList ?_ hsl)
 dsimp only
 have hoL:(h1.push (seqObj "list" its.toArray 0)).get? h1.objs.size=some (seqObj "list" its.toArray 0):=Heap.get?_push_size _ rfl
 refine wpAny_bind (wpAny_holding (kM slot_list_sort (Ty:="list") ⟨_,hoL,rfl⟩ entry_list_sort ?_ (oA _)))
 rw [oK]
 refine wpAny_bind (listItems_at hoL rfl ?_)
 refine wpAny_bind (listUpdate_at hoL rfl ?_ (by simpa using hsl) (by simp))
 obtain ⟨ep,ho1⟩:∃ ep,((h1.push (seqObj "list" its.toArray 0)).update h1.objs.size (Obj.mapSeq λ_=>#[])).get? h1.objs.size=some (seqObj "list" #[] ep):=⟨_,get?_update_seq hoL (λ_=>#[])⟩
 refine wpAny_bind (seqEpoch_at ho1 rfl ?_)
 generalize hL:h1.objs.size=L at *
 generalize hh2:(h1.push (seqObj "list" its.toArray 0)).update L (Obj.mapSeq λ_=>#[])=h2 at *
 have szh2:h2.objs.size=L+1:=by rw [<- hh2,Heap.size_update,size_push',hL]
 have I2:Inv X pins σ (upd H L (bD L (seqObj "list" #[] ep))) { s with heap:=h2,toks:=tk } :=
  mL I (λb u e=>by rw [<- hh2];exact (Heap.get?_update_other _ _ (Ne.symm (Nat.ne_of_lt (Nat.lt_of_lt_of_le (Heap.lt_size e) sz1)))).trans (Heap.get?_push_of_some _ (old1 b u e))) sz1 ho1
 refine wpAny_bind (wpAny_newTuple ?_ (by simpa using hsl))
 refine wpAny_bind (wpAny_newList ?_)
 dsimp only
 generalize hh3:h2.push { cls:=.type "tuple",data:=.seq its.toArray.toList.toArray }=h3
 have szh3:h3.objs.size=L+2:=by rw [<- hh3,size_push',szh2]
 generalize hh4:h3.push { cls:=.type "list",data:=.seq ([]:List Value).toArray }=h4
 rw [szh3]
 have I4:Inv X pins σ (upd (upd H L (bD L (seqObj "list" #[] ep))) (L+2) (a9 (L+2) [])) { s with heap:=h4,toks:=tk } :=
  mK (s:={ s with heap:=h2,toks:=tk }) I2 (λb u e=>by rw [<- hh4,<- hh3];exact Heap.get?_push_of_some _ (Heap.get?_push_of_some _ e)) (by show h2.objs.size<=_;omega) .nil (Nat.zero_le _) (by rw [<- hh4,<- szh3];exact Heap.get?_push_size _ rfl)
 have ne1:L+2≠L:=Nat.ne_of_gt (Nat.lt_add_of_pos_right (by decide))
 have ne2:L≠L+2:=Ne.symm ne1
 have nL:H L=none:=I.hok.fresh sz1
 have nk:H (L+2)=none:=I.hok.fresh (by omega)
 have nk2:upd H L (bD L (seqObj "list" #[] ep)) (L+2)=none:=by rw [av ne1];exact nk
 have nSL:S L=none:=sr.fresh nL
 have nSk:S (L+2)=none:=sr.fresh nk
 generalize hHc:upd (upd H L (bD L (seqObj "list" #[] ep))) (L+2) (a9 (L+2) [])=Hc at *
 have eL:Hc L=some (bD L (seqObj "list" #[] ep)):=by rw [<- hHc,av ne2];exact aF
 have ek:Hc (L+2)=some (a9 (L+2) []):=by rw [<- hHc];exact aF
 have fc:Fr H S Hc S:=by rw [<- hHc];exact (Fr.new nL).trans (Fr.new nk2)
 have sc:SRp K Hc S:=by rw [<- hHc];exact (sr.new nL).new nk2
 refine wpAny_holding (wpAny_bind (wpAny_pure ?_))
 generalize hs5:({ s with heap:=h4,toks:=tk }:Shared)=s5 at *
 have rs5:=rs.fr fc
 obtain ⟨R,q1,q2,q3,q4,q5⟩:=jE rs5 rvs (rfl:its.length=its.length)
 have key:∀ r∈R,KR s5 r.ku (κ r.t)/\Ky.shp k0 (κ r.t)=true:=by
  have go:∀ {R:List Rec}{vs:List V},Rps K Hc S (R.map (·.t)) vs->aj vs (R.map (·.ku))->(∀ r∈R,r.t∈ls)->∀ r∈R,KR s5 r.ku (κ r.t)/\Ky.shp k0 (κ r.t)=true:=by
   intro R
   induction R with
   |nil=>intro _ _ _ _ r hr;cases hr
   |cons r0 R ih =>
    intro kvs a b m r hr
    cases a with
    |cons a1 a2 =>
     cases b with
     |cons b1 b2 =>
      rcases List.mem_cons.mp hr with rfl|hr
      ·have:=hk r.t (m r (List.mem_cons_self ..))
       exact ⟨nE hK I4 (by rw [this.2.2];exact a1) b1 this.1,this.2.1⟩
      ·exact ih a2 b2 (λx hx=>m x (List.mem_cons_of_mem _ hx)) r hr
  exact go (by rw [q1];exact rs5) (by rw [q4];exact rvs) λr hr=>by rw [<- q1];exact List.mem_map_of_mem hr
 refine la (k0:=k0) rfl (by rw [hlen];exact h64) hf (λv hv=>?_) (by have:=hr.in1.in1.units;omega) λst hp hfail hsrt=>?_
 ·rw [<- q4] at hv
  obtain ⟨r,hr,rfl⟩:=List.mem_map.mp hv
  exact ⟨_,key r hr⟩
 ·obtain ⟨R',pR,eR⟩:=gg (λr:Rec=>((r.ku,r.u):Keyed)) (Array.perm_iff_toList_perm.mp hp) (l:=R) (by
   have:(its.toArray.zip its.toArray).toList=its.zip its:=by simp
   rw [this]
   conv=>lhs;arg 1;rw [<- q4]
   conv=>lhs;arg 2;rw [<- q3]
   exact List.zip_map')
  have memR:∀ r∈R',r∈R:=λr hr=>pR.mem_iff.mp hr
  obtain ⟨rz,vz⟩:=js λr hr=>q5 r (memR r hr)
  have lR:R'.length=its.length:=by rw [pR.length_eq,<- q3,List.length_map]
  have szR:(arrOf st).size=R'.length:=by rw [<- Array.length_toList,eR,List.length_map]
  have at_:∀ k (h:k<(arrOf st).size) (h':k<R'.length),(arrOf st)[k].1=R'[k].ku:=λk h h'=>by
   have e1:(arrOf st)[k]=(arrOf st).toList[k]'(by simpa using h):=by simp
   rw [e1,List.getElem_of_eq eR,List.getElem_map]
  have srt:(R'.map (·.t)).Pairwise (λa b=>Ky.lt (κ b) (κ a)=false):=by
   rw [List.pairwise_map,List.pairwise_iff_getElem]
   intro i j hi hj ij
   have:=hsrt i j (by rw [szR];exact hj) (by rw [szR];exact hi) (Nat.le_of_lt ij)
   rw [at_ i (by rw [szR];exact hi) hi,at_ j (by rw [szR];exact hj) hj,eI (key _ (memR _ (List.getElem_mem hi))).1,eI (key _ (memR _ (List.getElem_mem hj))).1] at this
   exact this
  have fin:=hq (R'.map (·.t)) (by rw [<- q1];exact pR.map _) srt
  have eL5:=nF I4 eL
  have out:(arrOf st).map (·.2)=(R'.map (·.u)).toArray:=by
   apply Array.toList_inj.mp
   rw [Array.toList_map,eR,List.map_map]
   rfl
  dsimp only
  refine wpAny_bind (seqEpoch_at eL5 rfl ?_)
  refine wpAny_bind (listUpdate_at eL5 rfl ?_ (by simp) (by rw [out];simp;omega))
  rw [hfail]
  simp only [bne_self_eq_false,Bool.false_eq_true,if_false]
  have I7:=iC I4 eL (its:=[]) eL5 (f:=λ_=>(arrOf st).map (·.2)) (its':=R'.map (·.u)) out vz (by rw [List.length_map,lR];exact hsl)
  have I8:=I7.ofAcc (D:=L) aF
  rw [gj] at I8
  refine wpAny_pure ⟨_,rfl,wpAny_pure ⟨.ref L,_,I8,rfl,?_⟩⟩
  cases tr with
  |false=>exact b _ _ (.lst _) S (Fr.at fc nL) (sc.chg eL nSL) (.lst nSL aF (Rps.chg eL rz)) fin
  |true =>
   refine b _ _ (.ref L) _ (λa o h nn=>?_) (SRp.trk eL sc rz) .ref (fin L nSL)
   have ha:a≠L:=br h nL
   rw [aE ha]
   exact Fr.at fc nL a o h nn
def tS (w:World) (tr:Bool):GC:=λts S Q=>∃ a kts κ k0,ts=[.ref a]/\RdT w S a kts/\kts.length<64/\fit k0=true/\k0.dep<=30 /\
 (∀ kv∈kts,Ky.ok (κ (dg kv.1))=true/\Ky.shp k0 (κ (dg kv.1))=true/\tre (κ (dg kv.1))=dg kv.1)/\kC tr (kts.map λkv=>dg kv.1) κ S Q
theorem mm {X:Cx}{K:Fg}(w:World) (tr:Bool) (hw:X.w=w) (hK:X.K=K) (hc:X.calm=true) (hr:Room 2 X.A):bw X (.builtin "sorted") (lC K (tS w tr)):=by
 subst hw
 rintro pins s σ H xs us Q I r ⟨S,ts,Qt,sr,rs,⟨a,kts,κ,k0,e,g,h64,hf,hd,hk,hq⟩,b⟩
 subst e
 cases rs with
 |cons h rn =>
 cases rn
 cases h
 obtain ⟨u,rfl,ru⟩:=bZ r
 cases (show u=Value.ref a from ru)
 obtain ⟨kvs,hg,p⟩:=kc sr g
 obtain ⟨z,hs,vs,rel,dd⟩:=rdK I hg
 obtain ⟨ep,da⟩:=dd.dictAt
 have hl:=rel.length
 refine AJ tr hK hr I sr (rQ p) (by rw [List.length_map];exact h64) (by rw [List.length_map];exact z) hf hd (λt ht=>?_) hq b λA E R hA q=>?_
 ·obtain ⟨kv,hkv,rfl⟩:=List.mem_map.mp ht
  exact hk kv hkv
 ·refine yS (PySem.W.kdl_dict (knd:=aY X.prog X.w) (kvs:=vs) (ep:=ep) hs) (hA.trans (I.ok.hd hc)) da (by omega) λh1 tk acc kp sz hi=>q acc.toList h1 tk ?_ kp sz
  refine qW (by rw [List.length_map,hl];have:=hi.1;simpa using this.symm) λj x u e1 e2=>?_
  obtain ⟨k,y,q1,q2⟩:=hi.2 j u (by rw [<- Array.getElem?_toList];exact e2)
  obtain ⟨kv,z1,z2⟩:=kq rel q1
  rw [List.getElem?_map,z1] at e1
  cases e1
  show ao (kV kv.1) u
  rw [z2.1];exact ul q2
def kyS:T->Ky
 |.str z=>.s z
 |_=>.nil
theorem lN {w:World}{tr:Bool}{S:Sto}{Q:T->Sto->Prop}{a:Addr}{kts:List (Key×T)}{ns:List Str}(g:RdT w S a kts) (h64:kts.length<64) (e:kts.map (·.1)=ns.map Sum.inr)
  (h:∀ zs:List Str,zs.Perm ns->zs.Pairwise (λx y=>Ky.lt (.s y) (.s x)=false)->bi tr (zs.map T.str) S Q):tS w tr [.ref a] S Q:=by
 have ek:kts.map (λkv=>dg kv.1)=ns.map T.str:=by
  have:=congrArg (List.map dg) e
  rw [List.map_map,List.map_map] at this
  exact this
 refine ⟨a,kts,kyS,.s "",rfl,g,h64,rfl,Nat.zero_le _,λkv hkv=>?_,?_⟩
 ·have:kv.1∈ns.map (Sum.inr:Str->Key):=by rw [<- e];exact List.mem_map_of_mem hkv
  obtain ⟨i,_,hi⟩:=List.mem_map.mp this
  rw [<- hi]
  exact ⟨rfl,rfl,rfl⟩
 ·rw [ek]
  intro zs hp hs
  obtain ⟨l,p,rfl⟩:=gg T.str hp rfl
  refine h l p ?_
  rw [List.pairwise_map] at hs
  exact hs
section
variable {K:Fg}{X:Cx}{H:Hp}{S:Sto}
def tT (k1 k2:Str) (w1 w2:WE):WE:=λσ S Q=>∀ p,S p=none->w1 σ (put S p (.dK [])) λt1 S1=>w2 σ S1 λt2 S2=>S2 p=some (.dK [])/\Q (.ref p) (put S2 p (.dK [(.inr k1,t1),(.inr k2,t2)]))
theorem AK {k1 k2:Str}{v1 v2:Expr}{j1 j2:Nat}{p1 p2 pos:Pos}{w1 w2:WE}(hne:k1≠k2) (h1:QE K X v1 w1) (h2:QE K X v2 w2):QE K X (.Dict [some (.Constant (.str k1) j1 p1),some (.Constant (.str k2) j2 p2)] [v1,v2] pos) (tT k1 k2 w1 w2):=by
 refine PE.of (qV (ie eN h1 (ie eN h2 qU)) rfl rfl (by simp) (Nat.le_of_ble_eq_true rfl)) λσ H Q zz98=>?_
 obtain ⟨S,σt,Qt,s,c,q,hq⟩:=zz98
 intro p hp
 have f0:Fr H S (upd H p (.dK [])) (put S p (.dK [])):=Fr.newT hp
 have s0:=s.newT hp (u:=.dK []) (o:=.dK []) (.dK aF .nil)
 refine ⟨put S p (.dK []),σt,_,s0,c.fr f0,q p (s.fresh hp),λx1 H1 t1 S1 f1 sr1 r1 q1=>?_⟩
 refine ⟨S1,σt,_,sr1,(c.fr f0).fr f1,q1,λx2 H2 t2 S2 f2 sr2 r2 q2=>?_⟩
 obtain ⟨e2,q2⟩:=q2
 obtain ⟨kvs,hk,pr⟩:=iK sr2 e2
 cases pr
 refine ⟨hk,[(.inr k1,x1),(.inr k2,x2)],rfl,Nat.le_of_ble_eq_true rfl,?_⟩
 have em:dF [] [((.inr k1:Key),x1),(.inr k2,x2)]=[(.inr k1,x1),(.inr k2,x2)]:=by
  simp [dF,bt,hne]
 rw [em]
 have hn:S2 p≠none:=by rw [e2];simp
 have fw:Fr H2 S2 (upd H2 p (.dK [(.inr k1,x1),(.inr k2,x2)])) (put S2 p (.dK [(.inr k1,t1),(.inr k2,t2)])):=Fr.write hn
 exact hq _ _ _ _ (((f0.trans f1).trans f2).trans fw) (sr2.write hn (.dK aF (.cons ⟨rfl,(r1.fr f2).fr fw⟩ (.cons ⟨rfl,r2.fr fw⟩ .nil)))) .ref q2
def tU (k1 k2 k3:Str) (w1 w2 w3:WE):WE:=λσ S Q=>∀ p,S p=none->w1 σ (put S p (.dK [])) λt1 S1=>w2 σ S1 λt2 S2=>w3 σ S2 λt3 S3=>S3 p=some (.dK [])/\Q (.ref p) (put S3 p (.dK [(.inr k1,t1),(.inr k2,t2),(.inr k3,t3)]))
theorem rS {k1 k2 k3:Str}{v1 v2 v3:Expr}{j1 j2 j3:Nat}{p1 p2 p3 pos:Pos}{w1 w2 w3:WE}(hne:k1≠k2/\k1≠k3/\k2≠k3) (h1:QE K X v1 w1) (h2:QE K X v2 w2) (h3:QE K X v3 w3):QE K X (.Dict [some (.Constant (.str k1) j1 p1),some (.Constant (.str k2) j2 p2),some (.Constant (.str k3) j3 p3)] [v1,v2,v3] pos) (tU k1 k2 k3 w1 w2 w3):=by
 refine PE.of (qV (ie eN h1 (ie eN h2 (ie eN h3 qU))) rfl rfl (by simp) (Nat.le_of_ble_eq_true rfl)) λσ H Q zz99=>?_
 obtain ⟨S,σt,Qt,s,c,q,hq⟩:=zz99
 intro p hp
 have f0:Fr H S (upd H p (.dK [])) (put S p (.dK [])):=Fr.newT hp
 have s0:=s.newT hp (u:=.dK []) (o:=.dK []) (.dK aF .nil)
 refine ⟨put S p (.dK []),σt,_,s0,c.fr f0,q p (s.fresh hp),λx1 H1 t1 S1 f1 sr1 r1 q1=>?_⟩
 refine ⟨S1,σt,_,sr1,(c.fr f0).fr f1,q1,λx2 H2 t2 S2 f2 sr2 r2 q2=>?_⟩
 refine ⟨S2,σt,_,sr2,((c.fr f0).fr f1).fr f2,q2,λx3 H3 t3 S3 f3 sr3 r3 q3=>?_⟩
 obtain ⟨e3,q3⟩:=q3
 obtain ⟨kvs,hk,pr⟩:=iK sr3 e3
 cases pr
 refine ⟨hk,[(.inr k1,x1),(.inr k2,x2),(.inr k3,x3)],rfl,Nat.le_of_ble_eq_true rfl,?_⟩
 have em:dF [] [((.inr k1:Key),x1),(.inr k2,x2),(.inr k3,x3)]=[(.inr k1,x1),(.inr k2,x2),(.inr k3,x3)]:=by
  simp [dF,bt,hne.1,hne.2.1,hne.2.2]
 rw [em]
 have hn:S3 p≠none:=by rw [e3];simp
 have fw:Fr H3 S3 (upd H3 p (.dK [(.inr k1,x1),(.inr k2,x2),(.inr k3,x3)])) (put S3 p (.dK [(.inr k1,t1),(.inr k2,t2),(.inr k3,t3)])):=Fr.write hn
 exact hq _ _ _ _ ((((f0.trans f1).trans f2).trans f3).trans fw) (sr3.write hn (.dK aF (.cons ⟨rfl,((r1.fr f2).fr f3).fr fw⟩ (.cons ⟨rfl,(r2.fr f3).fr fw⟩ (.cons ⟨rfl,r3.fr fw⟩ .nil))))) .ref q3
theorem AL {σ:StT}{Q:T->Sto->Prop}{k1 k2:Str}{w1 w2:WE}(h:∀ p,S p=none->w1 σ (put S p (.dK [])) λt1 S1=>w2 σ S1 λt2 S2=>S2 p=some (.dK [])/\Q (.ref p) (put S2 p (.dK [(.inr k1,t1),(.inr k2,t2)]))):tT k1 k2 w1 w2 σ S Q:=h
theorem AM {σ:StT}{Q:T->Sto->Prop}{k1 k2 k3:Str}{w1 w2 w3:WE}(h:∀ p,S p=none->w1 σ (put S p (.dK [])) λt1 S1=>w2 σ S1 λt2 S2=>w3 σ S2 λt3 S3=>S3 p=some (.dK [])/\Q (.ref p) (put S3 p (.dK [(.inr k1,t1),(.inr k2,t2),(.inr k3,t3)]))):tU k1 k2 k3 w1 w2 w3 σ S Q:=h
end
end T2
namespace L2
open PySem PySem.Spec PyProof.Rows
end L2
namespace T2
open PySem PySem.Spec PyProof.Rows L2
section
variable {K:Fg}{X:Cx}
end
section
variable {K:Fg}{X:Cx}{e:Expr}{wa:WE}
end
end T2
namespace Xc
open PySem
structure Ent (fr:List Addr) (e:Addr) (oe:Obj) (h h':Heap):Prop where
 it:∃ T o ts,h.objs.size<=T/\h'.get? e=some (oe.mapFields (·.setIfInBounds 1 (.ref T)))/\h'.get? T=some o/\o.data=.fields ts/\ts[3]?=some .none
 keep:∀ b o,h.get? b=some o->b≠e->b∉fr->h'.get? b=some o
 slot:∀ b o,h.get? b=some o->b≠e->∃ sl,h'.get? b=some { o with slots:=sl }
section
variable {M:Model}{A:Around}{E:Value->Shared->Prop}{s:Shared}
theorem qE {base:Heap}{env:Env}{outer:List Env}{L e:Addr}{oe:Obj}{vs:Array Value}{hd:Value}{nx:Bool}{Q:Unit->Shared->Prop}
  (fr:A.frames=some (env::outer)) (ff:s.heap.FunFrames base (env::outer)) (ef:env.frame=some L) (ge:s.heap.get? e=some oe) (de:oe.data=.fields vs) (sz:1<vs.size)
  (k:∀ h',Ent ((env::outer).filterMap (·.frame)) e oe s.heap h'->Q () { s with heap:=h' }) :
  wpAny M A (do let a <- frameOf env;let pl <- entryPlaceOf L nx;let b <- EntryCells.newEntry hd a .none (rawInt L) .none pl;setField (.ref e) 1 b) (λ_ s'=>wpAny M A (setFlight (.ref e) none) Q E s') E s:=by
 have nfr:e∉(env::outer).filterMap (·.frame):=λz=>by
  obtain ⟨_,o,q,nf⟩:=ff.mem z
  rw [ge] at q;cases q;exact nf vs de
 refine wpAny_bind (wpAny_frameOf_fun fr ff ef λh1 so=>wpAny_bind (wpAny_entryPlaceOf λpl ip=>?_))
 unfold EntryCells.newEntry newFields
 refine wpAny_bind (wpAny_newObj_type ?_ (ip.sizeOk5 _ _ _ _ _))
 have ge1:h1.get? e=some oe:=(so.2.1 e nfr).trans ge
 generalize hob:({ cls:=.type "traceback",dict:=none,data:=.fields ([hd,.ref L,.none,rawInt L,.none]++(if pl.isEmpty then List.replicate 6 Value.none else pl)).toArray }:Obj)=ot
 have dt:ot.data=.fields ([hd,.ref L,.none,rawInt L,.none]++(if pl.isEmpty then List.replicate 6 Value.none else pl)).toArray:=by rw [<- hob]
 have ot0:ot.isFreed=false:=Obj.isFreed_of_fields dt
 have ge2:(h1.push ot).get? e=some oe:=Heap.get?_push_of_some ot ge1
 have neT:h1.objs.size≠e:=Nat.ne_of_gt (Heap.lt_size ge1)
 have de3:=Obj.data_mapFields de (·.setIfInBounds 1 (Value.ref h1.objs.size))
 refine wpAny_setField ge2 de sz ?_
 have ge3:=Heap.get?_update_self (Obj.mapFields (·.setIfInBounds 1 (Value.ref h1.objs.size))) ge2 (Obj.isFreed_of_fields de3)
 have gT3:((h1.push ot).update e (Obj.mapFields (·.setIfInBounds 1 (Value.ref h1.objs.size)))).get? h1.objs.size=some ot:=(Heap.get?_update_other _ _ (Ne.symm neT)).trans (Heap.get?_push_size h1 ot0)
 unfold setFlight
 refine wpAny_bind (wpAny_field ge3 de3 (x:=.ref h1.objs.size) (by simp [sz]) ?_)
 rw [if_pos (show (Value.ref h1.objs.size != Value.none)=true from by simp)]
 have sz3:3<([hd,Value.ref L,.none,rawInt L,.none]++(if pl.isEmpty then List.replicate 6 Value.none else pl)).toArray.size:=by simp
 refine wpAny_setField gT3 dt sz3 (k _ ?_)
 have kp:∀ b o,b≠e->h1.get? b=some o->(((h1.push ot).update e (Obj.mapFields (·.setIfInBounds 1 (Value.ref h1.objs.size)))).update h1.objs.size (Obj.mapFields (·.setIfInBounds 3 ((none:Option Addr).elim Value.none λf=>rawInt f)))).get? b=some o:=λb o nb hb=>by
  rw [Heap.get?_update_other _ _ (Nat.ne_of_gt (Heap.lt_size hb)),Heap.get?_update_other _ _ (Ne.symm nb)]
  exact Heap.get?_push_of_some ot hb
 refine ⟨⟨h1.objs.size,_,_,Nat.le_of_eq so.1.symm,?_,Heap.get?_update_self _ gT3 (Obj.isFreed_of_fields (Obj.data_mapFields dt _)),Obj.data_mapFields dt _,?_⟩,λb o hb nb nf=>kp b o nb ((so.2.1 b nf).trans hb),λb o hb nb=>?_⟩
 ·rw [Heap.get?_update_other _ _ neT];exact ge3
 ·rw [Array.getElem?_setIfInBounds]
  rw [if_pos rfl,if_pos sz3]
  rfl
 ·obtain ⟨sl,q⟩:=so.2.2 b o hb
  exact ⟨sl,kp b _ nb q⟩
def Exc (h:Heap) (lo:Nat) (N:Addr->Prop) (e:Addr) (cls:Value) (dct:Option Addr):Prop :=
 ∃ oe vs hd,h.get? e=some oe/\oe.cls=cls/\oe.dict=dct/\oe.data=.fields vs/\(vs[1]?=some hd/\vs[2]?=some .none)/\lo<=e/\N e /\
  (hd=.none\/∃ T oT ts,hd=.ref T/\lo<=T/\N T/\T≠e/\h.get? T=some oT/\oT.data=.fields ts/\ts[3]?=some .none)
structure Past (fr ch:List Addr) (h h':Heap):Prop where
 keep:∀ b o,h.get? b=some o->b∉ch->b∉fr->h'.get? b=some o
 slot:∀ b o,h.get? b=some o->b∈fr->∃ sl,h'.get? b=some { o with slots:=sl }
 there:∀ b o,h.get? b=some o->∃ o',h'.get? b=some o'
theorem yT (o:Obj) (f:Array Value->Array Value):(o.mapFields f).dict=o.dict:=by
 obtain ⟨c,d,dt,sl⟩:=o
 cases dt<;>rfl
theorem Exc.mono {h:Heap}{lo lo':Nat}{N:Addr->Prop}{e:Addr}{cls:Value}{dct:Option Addr}(x:Exc h lo N e cls dct) (l:lo'<=lo):Exc h lo' N e cls dct:=by
 obtain ⟨oe,vs,hd,ge,c,d,de,e1,le,ne,hh⟩:=x
 refine ⟨oe,vs,hd,ge,c,d,de,e1,Nat.le_trans l le,ne,hh.imp id λzz100=>by obtain ⟨T,oT,ts,r,lT,q⟩:=zz100;exact ⟨T,oT,ts,r,Nat.le_trans l lT,q⟩⟩
theorem Exc.there {h:Heap}{lo:Nat}{N:Addr->Prop}{e:Addr}{cls:Value}{dct:Option Addr}(x:Exc h lo N e cls dct):∃ oe,h.get? e=some oe/\oe.cls=cls/\oe.dict=dct:=by
 obtain ⟨oe,vs,hd,ge,c,d,_⟩:=x
 exact ⟨oe,ge,c,d⟩
theorem note_it {base:Heap}{env:Env}{outer:List Env}{L e:Addr}{lo:Nat}{N:Addr->Prop}{cls:Value}{dct:Option Addr}{Q:Unit->Shared->Prop}
  (fr:A.frames=some (env::outer)) (ff:s.heap.FunFrames base (env::outer)) (ef:env.frame=some L) (hN:∀ b,s.heap.objs.size<=b->N b) (hlo:lo<=s.heap.objs.size) (x:Exc s.heap lo N e cls dct)
  (k:∀ h' ch,(∀ b∈ch,lo<=b/\N b/\b∉(env::outer).filterMap (·.frame)/\∃ o vs,s.heap.get? b=some o/\o.data=.fields vs)->Past ((env::outer).filterMap (·.frame)) ch s.heap h'->Exc h' lo N e cls dct->Q () { s with heap:=h' }) :
  wpAny M A (noteFrame (.ref e) env) (λ_ s'=>wpAny M A (setFlight (.ref e) none) Q E s') E s:=by
 obtain ⟨oe,vs,hd,ge,rfl,rfl,de,e1,le,ne,hh⟩:=x
 have sz:1<vs.size:=(Array.getElem?_eq_some_iff.mp e1.1).1
 have nofld:∀ b∈(env::outer).filterMap (·.frame),∀ o,s.heap.get? b=some o->∀ vs,o.data≠.fields vs:=λb hb o q=>by
  obtain ⟨_,o',q',nf⟩:=ff.mem hb
  rw [q] at q';cases q';exact nf
 have nfe:e∉(env::outer).filterMap (·.frame):=λz=>nofld e z _ ge vs de
 have fin:∀ (g h':Heap),g.objs.size=s.heap.objs.size->Ent ((env::outer).filterMap (·.frame)) e oe g h'->Exc h' lo N e oe.cls oe.dict:=by
  rintro g h' sg ⟨⟨T,o,ts,hT,gE,gT,dT,e3⟩,_,_⟩
  have hT':s.heap.objs.size<=T:=by omega
  refine ⟨_,_,.ref T,gE,Obj.cls_mapFields _ _,yT _ _,Obj.data_mapFields de _,⟨by simp [sz],by rw [Array.getElem?_setIfInBounds,if_neg (by decide)];exact e1.2⟩,le,ne,.inr ⟨T,o,ts,rfl,Nat.le_trans hlo hT',hN T hT',λz=>?_,gT,dT,e3⟩⟩
  have q:e<s.heap.objs.size:=Heap.lt_size ge
  rw [z] at hT'
  exact absurd (Nat.lt_of_lt_of_le q hT') (Nat.lt_irrefl _)
 unfold noteFrame
 simp only [ef]
 refine wpAny_bind (wpAny_field ge de e1.1 ?_)
 rcases hh with rfl|⟨T,oT,ts,rfl,lT,nT,neT,gT,dT,e3⟩
 ·rw [if_neg (by decide)]
  refine qE fr ff ef ge de sz λh' en=>k h' [e] (λb hb=>by rw [List.mem_singleton.mp hb];exact ⟨le,ne,nfe,_,_,ge,de⟩) ⟨λb o hb hk nf=>en.keep b o hb (λz=>hk (List.mem_singleton.mpr z)) nf,λb o hb hf=>en.slot b o hb λz=>nfe (z ▸ hf),λb o hb=>?_⟩ (fin s.heap h' rfl en)
  by_cases z:b=e
  ·subst z
   obtain ⟨T,_,_,_,q,_⟩:=en.it
   exact ⟨_,q⟩
  ·obtain ⟨sl,q⟩:=en.slot b o hb z
   exact ⟨_,q⟩
 ·rw [if_pos (show (Value.ref T != Value.none)=true from by simp)]
  refine wpAny_bind (wpAny_field gT dT e3 ?_)
  rw [if_neg (show ¬ ((Value.none==rawInt L)=true) from by simp [rawInt])]
  refine wpAny_bind (wpAny_setField gT dT (Array.getElem?_eq_some_iff.mp e3).1 ?_)
  generalize hg:s.heap.update T (Obj.mapFields (·.setIfInBounds 3 Value.none))=g
  have ot:∀ b,b≠T->g.get? b=s.heap.get? b:=λb nb=>by rw [<- hg];exact Heap.get?_update_other _ _ (Ne.symm nb)
  have sg:g.objs.size=s.heap.objs.size:=by rw [<- hg];exact Heap.size_after_update ..
  have nfT:T∉(env::outer).filterMap (·.frame):=λz=>nofld T z _ gT ts dT
  have ff':g.FunFrames base (env::outer):=ff.of_keeps λb o hb nf=>⟨o,(ot b λz=>by subst z;rw [gT] at hb;cases hb;exact nf ts dT).trans hb,rfl⟩
  refine qE (s:={ s with heap:=g }) fr ff' ef ((ot e (Ne.symm neT)).trans ge) de sz λh' en=>k h' [e,T] (λb hb=>?_) ⟨λb o hb hk nf=>en.keep b o ((ot b λz=>hk (by rw [z];simp)).trans hb) (λz=>hk (by rw [z];simp)) nf,λb o hb hf=>en.slot b o ((ot b λz=>nfT (z ▸ hf)).trans hb) λz=>nfe (z ▸ hf),λb o hb=>?_⟩ (fin g h' sg en)
  ·rcases List.mem_cons.mp hb with z|z
   ·rw [z];exact ⟨le,ne,nfe,_,_,ge,de⟩
   ·rw [List.mem_singleton.mp z];exact ⟨lT,nT,nfT,_,_,gT,dT⟩
  ·by_cases z:b=e
   ·subst z
    obtain ⟨T,_,_,_,q,_⟩:=en.it
    exact ⟨_,q⟩
   ·by_cases z2:b=T
    ·subst z2
     have gT':g.get? b=some (oT.mapFields (·.setIfInBounds 3 Value.none)):=by rw [<- hg];exact Heap.get?_update_self _ gT (Obj.isFreed_of_fields (Obj.data_mapFields dT _))
     obtain ⟨sl,q⟩:=en.slot b _ gT' z
     exact ⟨_,q⟩
    ·obtain ⟨sl,q⟩:=en.slot b o ((ot b z2).trans hb) z
     exact ⟨_,q⟩
end
end Xc
namespace L2
open PySem PySem.Spec PyProof.Rows
def CX1 (P:Program) (w:World):CXT:=λouter H s E e s'=>∃ a C dct H',e=.ref a/\s'.os=s.os/\AllBare s'.gens/\Un (frs outer) [] H H' s.heap s'.heap/\HOk P w H' s'.heap /\
 Xc.Exc s'.heap s.heap.objs.size (λb=>H' b=none) a (.ref C) dct/\E (.ref C) dct H'
abbrev XS:=Addr->Option Addr->St->Hp->Prop
structure Low (X:Cx) (pins:List (Addr×Obj)) (lo:Nat):Prop where
 s0:X.s₀.heap.objs.size<=lo
 loc:X.env.locals<lo
 cell:∀ x c,X.env.cells.lookup x=some c->c<lo
 pin:∀ p∈X.pn++pins,p.1<lo
def XP (X:Cx) (pins:List (Addr×Obj)) (R:XS) (e:Value) (s':Shared):Prop:=∃ a C dct σ' H' lo,e=.ref a/\Inv X pins σ' H' s'/\Low X pins lo/\Xc.Exc s'.heap lo (λb=>H' b=none) a (.ref C) dct/\R C dct σ' H'
abbrev TR:=St->Hp->XS->Prop
def PR (X:Cx) (st:Stmt) (t:TR):Prop:=∀ (pins:List (Addr×Obj)) (s:Shared) (σ:St) (H:Hp) (R:XS),Inv X pins σ H s->t σ H R->wpAny (model X.prog X.w) X.A (exec st X.env) (λ_ _=>False) (XP X pins R) s
def PRs (X:Cx) (st:List Stmt) (t:TR):Prop:=∀ (pins:List (Addr×Obj)) (s:Shared) (σ:St) (H:Hp) (R:XS),Inv X pins σ H s->t σ H R->wpAny (model X.prog X.w) X.A (execs st X.env) (λ_ _=>False) (XP X pins R) s
def PRE (X:Cx) (e:Expr) (t:TR):Prop:=∀ (pins:List (Addr×Obj)) (s:Shared) (σ:St) (H:Hp) (R:XS),Inv X pins σ H s->t σ H R->wpAny (model X.prog X.w) X.A (eval e X.env) (λ_ _=>False) (XP X pins R) s
def PRA (X:Cx) (es:List Expr) (t:TR):Prop:=∀ (pos:Pos) (pins:List (Addr×Obj)) (s:Shared) (σ:St) (H:Hp) (R:XS),Inv X pins σ H s->t σ H R->wpAny (model X.prog X.w) X.A (spliced (backTo pos (starEach es X.env))) (λ_ _=>False) (XP X pins R) s
section
variable {X:Cx}{pins:List (Addr×Obj)}{σ:St}{H:Hp}{s:Shared}
theorem Inv.low (I:Inv X pins σ H s):Low X pins s.heap.objs.size :=
 ⟨I.sz,I.lt,λx c e=>by obtain ⟨v,o,ho,_⟩:=I.cell x c e;exact Heap.lt_size ho,λp hp=>Heap.lt_size (I.pin p hp).1⟩
theorem iD {α:Type}{t:Sem α}{Q Q':α->Shared->Prop}{E:Value->Shared->Prop}(h:wpAny (model X.prog X.w) X.A t Q (λ_ _=>False) s) (q:∀ a s,Q a s->Q' a s):wpAny (model X.prog X.w) X.A t Q' E s:=wpAny_mono h q λ_ _ z=>z.elim
variable {st:Stmt}{rest:List Stmt}{t u:TS}{r r2:TR}{e:Expr}{es:List Expr}{te:TE}{ta:TA}{pos:Pos}
theorem yU (h:PR X st r):PRs X (st::rest) r:=λpins s σ H R I q=>wpAny_execs_cons (wpAny_mono (h pins s σ H R I q) (λ_ _ z=>z.elim) λ_ _ z=>z)
def FS (t:TS) (r:TR):TR:=λσ H R=>t { nx:=λσ' H'=>r σ' H' R,rt:=λ_ _=>False } σ H
theorem yV (h1:PS X.nox st t) (h2:PRs X rest r):PRs X (st::rest) (FS t r):=by
 intro pins s σ H R I q
 refine wpAny_execs_cons (iD (h1 pins s σ H _ (I.wish _) q) λf s1 q=>?_)
 cases f with
 |next=>obtain ⟨σ',H',I',q⟩:=q;exact h2 pins s1 σ' H' R I'.unwish q
 |ret v=>obtain ⟨_,_,_,_,_,q⟩:=q;exact q.elim
 |brk=>obtain ⟨_,_,_,q⟩:=q;exact q.elim
 |cont=>obtain ⟨_,_,_,q⟩:=q;exact q.elim
def rIf (c:TT) (r r2:TR):TR:=λσ H R=>c σ H λb H1=>if b=true then r σ H1 R else r2 σ H1 R
theorem FT {c:Expr}{a b:List Stmt}{tc:TT}(hc:PT X.nox c tc) (ha:PRs X a r) (hb:PRs X b r2):PR X (.If c a b pos) (rIf tc r r2):=by
 intro pins s σ H R I h
 refine wpAny_If (iD (hc pins s σ H _ (I.wish _) h) λd s1 zz101=>?_)
 obtain ⟨H1,I1,q1⟩:=zz101
 cases d with
 |true=>exact ha pins s1 σ H1 R I1.unwish q1
 |false=>exact hb pins s1 σ H1 R I1.unwish q1
theorem AN (h:PRE X e r) (hs:swapsWith e none pos.line X.env=pure false:=by rfl):PR X (.Expr e pos) r:=λpins s σ H R I q=>wpAny_Expr_any (wpAny_mono (h pins s σ H R I q) (λ_ _ z=>z.elim) λ_ _ z=>z) I.quiet hs
theorem Ds {x:Str}{pos':Pos}(h:PRE X e r) (hs:swapsWith e (some (.Name x pos')) pos.line X.env=pure false:=by rfl):PR X (.Assign [.Name x pos'] e pos) r:=λpins s σ H R I q=>wpAny_Assign_Name (wpAny_mono (h pins s σ H R I q) (λ_ _ z=>z.elim) λ_ _ z=>z) hs
theorem yW (h:PRE X e r) (hs:starEach (e::es) X.env=(false,eval e X.env)::starEach es X.env:=by rfl):PRA X (e::es) r:=by
 intro pos pins s σ H R I q
 rw [hs]
 exact Calls.spliced_cons (wpAny_mono (h pins s σ H R I q) (λ_ _ z=>z.elim) λ_ _ z=>z)
end
section
variable {X:Cx}{k:Nat}{f C:Addr}{fd:FuncData}{ps:List Str}{sp:Sp}{dvs:List V}{ds:List Value}{x m:Str}{p pos apos:Pos}{e o:Expr}{es:List Expr}{ta:TE}{t:TA}{r:TR}{G:Addr->Prop}
def toE (R:XS) (σ:St):XK:=λc dct H'=>∃ C,c=.ref C/\R C dct σ H'
theorem AO {pins:List (Addr×Obj)}{σ:St}{H:Hp}{s:Shared}{R:XS}{us:List Value}{vs:List V}(F:FnOk X.prog X.w X.K X.mg X.base (CX1 X.prog X.w) k f fd ps sp) (hr:Room k X.A) (hb:aq X.K fd ps ds) (hd:aj dvs ds)
  (I:Inv X pins σ H s) (r:aj vs us) (h:sp (vs++dvs) H (λ_ _=>False) (toE R σ)):wpAny (model X.prog X.w) X.A (call (.ref f) us) (λ_ _=>False) (XP X pins R) s:=by
 have r2:aj (vs++dvs) (us++ds):=r.append hd
 have hl:(us++ds).length=ps.length:=by rw [<- r2.length];exact F.len _ _ _ _ h
 refine wpAny_call (codeAny_mono (F.run X.A X.stack s H ⟨us,[]⟩ (us++ds) (vs++dvs) _ _ hr I.env0 (hb s us I.kIn hl) r2 h) λq s' hq=>?_)
 cases q with
 |error z =>
  obtain ⟨a,C,dct,H',rfl,os,bare,un,hok,x,C',ec,q⟩:=hq
  cases ec
  exact ⟨a,C,dct,σ,H',_,rfl,I.call' (ch:=[]) os un hok bare (λ_ z=>nomatch z),I.low,x,q⟩
 |ok fl =>
  cases fl with
  |ret u=>obtain ⟨_,_,_,_,_,_,_,q⟩:=hq;exact q.elim
  |next=>exact False.elim hq
  |brk=>exact False.elim hq
  |cont=>exact False.elim hq
theorem xD {g:Value}(hg:Gl X x) (hm:X.mg x=some (.ref f)) (hk:PySem.W.keepIn X.K (.ref f)=true) (ha:PRA X (e::es) r) (hdb:(x==("__debug__":Str))=false:=by decide)
  (he:starEach (e::es) X.env=(false,eval e X.env)::starEach es X.env:=by rfl) (hpl:(backTo pos (starEach es X.env)).any (·.1)=false:=by rfl):PRE X (.Call (.Name x p) (e::es) [] pos) r:=by
 intro pins s σ H R I h
 refine wpAny_Call_Name_kw (cV I hg hm ?_ hdb)
 exact PySem.W.callWith_K (h₀:=X.base) I.ok.mod.kin hk (wpAny_mono (ha pos pins s σ H R I h) (λ_ _ z=>z.elim) λ_ _ z=>z) he hpl
def uT (G:Addr->Prop) (m:Str) (sp:Sp) (dvs:List V) (ta:TE) (t:TA):TR:=λσ H R=>ta σ H λx H1=>∃ a C dx fs,x=.ref a/\H1 a=some (.ins C dx fs)/\G C/\fs.lookup m=none/\t σ H1 λvs H2=>sp (x::(vs++dvs)) H2 (λ_ _=>False) (toE R σ)
theorem qF {pl:Sem Bool}(he:PE X.nox o ta) (hG:∀ C,G C->Cls X.K C/\Meth X.K C m f) (F:FnOk X.prog X.w X.K X.mg X.base (CX1 X.prog X.w) k f fd ps sp) (hr:Room k X.A) (hb:aq X.K fd ps ds) (hd:aj dvs ds) (ha:PA X.nox (e::es) t)
  (hst:starEach (e::es) X.env=(false,eval e X.env)::starEach es X.env:=by rfl) (hpl:(backTo pos (starEach es X.env)).any (·.1)=false:=by rfl)
  (ht:eval (.Call (.Attribute o m apos) (e::es) [] pos) X.env=(do
   let ov <- eval o X.env
   standAt apos.atName
   let (f,first) <- holding [ov] (getMethod ov m pl)
   callWith pos f first (backTo pos (starEach (e::es) X.env)) (backToKw pos (keywordEach [] X.env))):=by rfl) :
  PRE X (.Call (.Attribute o m apos) (e::es) [] pos) (uT G m sp dvs ta t):=by
 intro pins s σ H R I h
 refine PySem.W.methodCall_KW (pl:=pl) (iD (he pins s σ H _ (I.wish _) h) λu s1 ⟨x,H1,I1,rx,a,C,dx,fs,ex,ea,g,l,q⟩=>?_) ht
 subst ex
 obtain rfl:u=Value.ref a:=rx
 obtain ⟨c,hm⟩:=hG C g
 refine kS I1.unwish ea c hm l ?_
 refine PySem.W.callWith_K (first:=[.ref a]) (h₀:=X.base) I.ok.mod.kin hm.kp (iD (ha pos pins s1 σ H1 _ I1 q) λus s2 ⟨vs,H2,I2,r,q2⟩=>⟨I2.unwish.kIn,?_⟩) hst hpl
 exact AO (us:=.ref a::us) (vs:=.ref a::vs) F hr hb hd I2.unwish (.cons rfl r) q2
end
section
variable {X:Cx}{pins:List (Addr×Obj)}{σ:St}{H:Hp}{s:Shared}
theorem Inv.past {h':Heap}{ch:List Addr}(I:Inv X pins σ H s){lo:Nat}(lw:Low X pins lo) (hch:∀ b∈ch,lo<=b/\H b=none/\b∉frs X.stack/\∃ o vs,s.heap.get? b=some o/\o.data=.fields vs) (p:Xc.Past (frs X.stack) ch s.heap h') :
  Inv X pins σ H { s with heap:=h' }:=by
 have nfr:∀ b u,H b=some u->b∉frs X.stack:=λb u e z=>by rw [I.stkFree b z] at e;cases e
 have nch:∀ b u,H b=some u->b∉ch:=λb u e z=>by rw [(hch b z).2.1] at e;cases e
 have kp:∀ b u o,H b=some u->s.heap.get? b=some o->h'.get? b=some o:=λb u o e g=>p.keep b o g (nch b u e) (nfr b u e)
 refine I.call (g':=s.gens) (d':=s.drawn) (t':=s.toks) (ch:=ch) ⟨λb o e _ nf nc=>p.keep b o e nc nf,λb o e _ hf _=>p.slot b o e hf,λb o _ n _=>n,λb o e _=>p.there b o e,λ_ _ e=>e,λ_ _ _ e=>e,λb ps e=>⟨#[],by rw [Array.append_empty];exact e⟩⟩ ?_ I.bare λb hb=>?_
 ·intro b u e
  refine (I.hok b u e).stay (λc v hc g=>?_) (λ_ z=>z) λ_ _ z=>z
  rcases hc with rfl|hc
  ·exact kp c u v e g
  ·exact kp c _ v hc g
 ·have hl:=(hch b hb).1
  exact ⟨.inr (Nat.le_trans lw.s0 hl),λz=>absurd (Nat.lt_of_lt_of_le lw.loc hl) (by rw [z];exact Nat.lt_irrefl _),λx c e z=>absurd (Nat.lt_of_lt_of_le (lw.cell x c e) hl) (by rw [z];exact Nat.lt_irrefl _),λq hq z=>absurd (Nat.lt_of_lt_of_le (lw.pin q hq) hl) (by rw [z];exact Nat.lt_irrefl _)⟩
theorem rT {Q:Unit->Shared->Prop}{E:Value->Shared->Prop}{a C:Addr}{dct:Option Addr}{lo:Nat}(I:Inv X pins σ H s) (st:X.stack=X.env::X.outer/\X.env.frame=some X.env.locals) (lw:Low X pins lo) (hlo:lo<=s.heap.objs.size) (x:Xc.Exc s.heap lo (λb=>H b=none) a (.ref C) dct)
  (k:∀ s',Inv X pins σ H s'->s'.os=s.os->s'.gens=s.gens->Xc.Exc s'.heap lo (λb=>H b=none) a (.ref C) dct->Q () s'):wpAny (model X.prog X.w) X.A (noteFrame (.ref a) X.env) (λ_ s'=>wpAny (model X.prog X.w) X.A (setFlight (.ref a) none) Q E s') E s:=by
 have fs:s.heap.FunFrames X.base (X.env::X.outer):=by rw [<- st.1];exact I.stack
 refine Xc.note_it (base:=X.base) (L:=X.env.locals) (by rw [I.ok.frames,st.1]) fs st.2 (λb hb=>I.hok.fresh hb) hlo x λh' ch hch p x'=>?_
 have e:(X.env::X.outer).filterMap (·.frame)=frs X.stack:=by rw [st.1];rfl
 rw [e] at hch p
 exact k _ (I.past lw hch p) rfl rfl x'
end
section
variable {P:Program}{w:World}{K:PySem.W.Frag}{mg:Str->Option Value}{base:Heap}
theorem yX {k:Nat}{f:Addr}{name qual:Str}{params:Arguments}{body:List Stmt}{scope:Scope}{dV kV doc pm cdv ct oc:Value}{an od:Option Addr}{osl:Array (Option Value)}{N ps:List Str}{sp:Sp}
  (lk:K.lookup f=some ⟨oc,od,.func (PySem.W.fnOf name qual params body scope dV kV doc pm an cdv ct),osl⟩) (hcd:PySem.W.codeIn K cdv qual=true) (S:FnScope N ps scope) (len:∀ vs H Q E,sp vs H Q E->vs.length=ps.length)
  (hbody:∀ (A:Around) (outer:List Env) (s:Shared) (H:Hp) (vs:List V) (E:XK) (Q:VK),Room k (A.deeper (envOfC qual scope s.heap.objs.size f cdv))->sp vs H Q E ->
   ∃ r,PRs (cz CX0 P w K mg base N qual scope f cdv A outer s H E) body r/\r (bd N vs) H λC dct _ H'=>E (.ref C) dct H') :
  FnOk P w K mg base (CX1 P w) (k+1) f (PySem.W.fnOf name qual params body scope dV kV doc pm an cdv ct) ps sp:=by
 refine nu lk hcd S len λA outer s H vs Q E hr hsp=>?_
 obtain ⟨r,hr1,hr2⟩:=hbody A outer s H vs E Q hr hsp
 refine ⟨λ_ σ H'=>σ=bd N vs/\H'=H,?_,rfl,rfl⟩
 rintro pins s1 σ H1 D I ⟨rfl,rfl⟩
 have I0:Inv (cz CX0 P w K mg base N qual scope f cdv A outer s H1 E) pins (bd N vs) H1 s1:=⟨⟨I.ok.mod,I.ok.kind,I.ok.glob,I.ok.blt,I.ok.above,I.ok.inj,I.ok.has,I.ok.cab,I.ok.hd,I.ok.frames,I.ok.stk,I.ok.exf,I.ok.bs,I.ok.bsz,I.ok.noex,I.ok.exfs,I.ok.funs,I.ok.frf⟩,I.os,I.bare,I.base,I.loc,I.cell,I.free,I.freeC,I.pin,I.hok,I.len⟩
 refine wpAny_mono (hr1 pins s1 _ _ _ I0 hr2) (λ_ _ z=>z.elim) λe s2 zz102=>?_
 obtain ⟨a,C,dct,σ',H',lo,ee,J,lw,x,q⟩:=zz102
 subst ee
 show wpAny (model P w) (A.deeper _) (leaving _ (.ref a)) _ _ s2
 unfold leaving
 have hlo:lo<=s2.heap.objs.size:=Nat.le_of_lt (Nat.lt_of_le_of_lt (by obtain ⟨_,_,_,_,_,_,_,_,l,_⟩:=x;exact l) (by obtain ⟨oe,_,_,ge,_⟩:=x;exact Heap.lt_size ge))
 refine wpAny_bind (rT J ⟨rfl,rfl⟩ lw hlo x λs3 J3 _ _ x3=>?_)
 exact ⟨a,C,dct,H',rfl,J3.os,J3.bare,J3.base,J3.hok,x3.mono lw.s0,q⟩
end
end L2
namespace Xc
open PySem
section
variable {M:Model}{A:Around}{E:Value->Shared->Prop}{s:Shared}
theorem flight_it {e:Addr}{lo:Nat}{N:Addr->Prop}{cls:Value}{dct:Option Addr}{Q:Unit->Shared->Prop}(x:Exc s.heap lo N e cls dct)
  (k:∀ h' ch,(∀ b∈ch,lo<=b/\N b/\∃ o vs,s.heap.get? b=some o/\o.data=.fields vs)->Past [] ch s.heap h'->Exc h' lo N e cls dct->Q () { s with heap:=h' }):wpAny M A (setFlight (.ref e) none) Q E s:=by
 have x0:=x
 obtain ⟨oe,vs,hd,ge,hc,hdc,de,e1,le,ne,hh⟩:=x
 unfold setFlight
 refine wpAny_bind (wpAny_field ge de e1.1 ?_)
 rcases hh with rfl|⟨T,oT,ts,rfl,lT,nT,neT,gT,dT,e3⟩
 ·rw [if_neg (by decide)]
  exact wpAny_pure (k s.heap [] (λ_ z=>(nomatch z)) ⟨λb o hb _ _=>hb,λb o hb z=>(nomatch z),λb o hb=>⟨o,hb⟩⟩ x0)
 ·rw [if_pos (show (Value.ref T != Value.none)=true from by simp)]
  have s3:=(Array.getElem?_eq_some_iff.mp e3).1
  refine wpAny_setField gT dT s3 (k _ [T] (λb hb=>by rw [List.mem_singleton.mp hb];exact ⟨lT,nT,_,_,gT,dT⟩) ⟨λb o hb nb _=>?_,λb o hb z=>(nomatch z),λb o hb=>?_⟩ ?_)
  ·rw [Heap.get?_update_other _ _ (λz=>nb (List.mem_singleton.mpr z.symm))];exact hb
  ·by_cases z:b=T
   ·subst z
    exact ⟨_,Heap.get?_update_self _ gT (Obj.isFreed_of_fields (Obj.data_mapFields dT _))⟩
   ·exact ⟨o,by rw [Heap.get?_update_other _ _ (Ne.symm z)];exact hb⟩
  ·refine ⟨oe,vs,.ref T,(Heap.get?_update_other _ _ neT).trans ge,hc,hdc,de,e1,le,ne,.inr ⟨T,_,_,rfl,lT,nT,neT,Heap.get?_update_self _ gT (Obj.isFreed_of_fields (Obj.data_mapFields dT _)),Obj.data_mapFields dT _,?_⟩⟩
   rw [Array.getElem?_setIfInBounds,if_pos rfl,if_pos s3]
   rfl
end
end Xc
namespace L2
open PySem PySem.Spec PyProof.Rows
abbrev Cx.inx (X:Cx) (a:Addr):Cx:={ X with A:=X.A.mark (some (.ref a)),calm:=false,xe:=λ_ _=>False }
theorem Cx.Ok.inx {X:Cx}(ok:X.Ok) (a:Addr):(X.inx a).Ok :=
 ⟨ok.mod,ok.kind,ok.glob,ok.blt,ok.above,ok.inj,ok.has,ok.cab,λz=>(nomatch z),ok.frames,ok.stk,ok.exf,ok.bs,ok.bsz,ok.noex,ok.exfs,ok.funs,ok.frf⟩
section
variable {X:Cx}{pins:List (Addr×Obj)}{σ:St}{H:Hp}{s:Shared}{a:Addr}
theorem Inv.inx (I:Inv X pins σ H s) (a:Addr):Inv (X.inx a) pins σ H s:=⟨I.ok.inx a,I.os,I.bare,I.base,I.loc,I.cell,I.free,I.freeC,I.pin,I.hok,I.len⟩
theorem Inv.outx (I:Inv (X.inx a) pins σ H s) (ok:X.Ok):Inv X pins σ H s:=⟨ok,I.os,I.bare,I.base,I.loc,I.cell,I.free,I.freeC,I.pin,I.hok,I.len⟩
theorem SP.outx {D:Ends}{f:Flow}{s':Shared}(ok:X.Ok) (h:SP (X.inx a) pins D f s'):SP X pins D f s':=by
 cases f with
 |next=>obtain ⟨σ',H',I,q⟩:=h;exact ⟨σ',H',I.outx ok,q⟩
 |brk=>obtain ⟨σ',H',I,q⟩:=h;exact ⟨σ',H',I.outx ok,q⟩
 |cont=>obtain ⟨σ',H',I,q⟩:=h;exact ⟨σ',H',I.outx ok,q⟩
 |ret u=>obtain ⟨v,σ',H',I,r,q⟩:=h;exact ⟨v,σ',H',I.outx ok,r,q⟩
theorem yY {fr ch:List Addr}{h h':Heap}(p:Xc.Past [] ch h h') (hf:∀ b∈fr,b∉ch):Xc.Past fr ch h h' :=
 ⟨λb o hb nc _=>p.keep b o hb nc (by simp),λb o hb hfr=>⟨o.slots,p.keep b o hb (hf b hfr) (by simp)⟩,p.there⟩
theorem xE {A:Around}{Q:Unit->Shared->Prop}{E:Value->Shared->Prop}{C:Addr}{dct:Option Addr}{lo:Nat}(I:Inv X pins σ H s) (lw:Low X pins lo) (x:Xc.Exc s.heap lo (λb=>H b=none) a (.ref C) dct)
  (k:∀ s',Inv X pins σ H s'->Xc.Exc s'.heap lo (λb=>H b=none) a (.ref C) dct->Q () s'):wpAny (model X.prog X.w) A (setFlight (.ref a) none) Q E s:=by
 refine Xc.flight_it x λh' ch hch p x'=>?_
 have hf:∀ b∈frs X.stack,b∉ch:=λb hb hc=>by
  obtain ⟨_,o',g',nf⟩:=I.stack.mem hb
  obtain ⟨_,_,o,vs,g,d⟩:=hch b hc
  rw [g] at g';cases g'
  exact nf vs d
 exact k _ (I.past lw (λb hb=>⟨(hch b hb).1,(hch b hb).2.1,λz=>hf b z hb,(hch b hb).2.2⟩) (yY p hf)) x'
abbrev TH:=Addr->TS
def PH (X:Cx) (hs:List ExceptHandler) (t:TH):Prop:=∀ (pins:List (Addr×Obj)) (s:Shared) (σ:St) (H:Hp) (a C:Addr) (dct:Option Addr) (lo:Nat) (D:Ends),Inv X pins σ H s->Low X pins lo->Xc.Exc s.heap lo (λb=>H b=none) a (.ref C) dct->t C D σ H ->
 wpAny (model X.prog X.w) X.A (handleBy (.ref a) X.env hs) (SP X pins D) X.xe s
def FU:TH:=λ_ _ _ _=>False
theorem Du:PH X [] FU:=λ_ _ _ _ _ _ _ _ _ _ _ _ h=>h.elim
end
end L2
set_option maxRecDepth 100000
namespace PySem
section
variable {prog:Program}{w:World}{A:Around}{E:Value->Shared->Prop}{h:Heap}{g:Array GenState}{d:Drawn}{t:Nat}{os:OsState}
variable {nm q:Str}{C N:Addr}{bs bm bmB:List Value}{hdct:Bool}{sn:List Str}{sub:List Value}{ab:Bool}{col:Option Bool}{dd:Option Addr}{k0 k1 k2 k3 k5:Option Value}{B newId initId:String}
theorem vZ (F:ExcBaseFacts B newId initId bmB) (T:OwnTail h bmB bm){mN:Str->Option Value}{rest:List Value}{Q:Fin->Shared->Prop}
  (hC:h.get? C=some (excClassObj nm q C N bs bm hdct sn sub ab col dd k0 k1 k2 k3 k5 newId)) (hn:h.Ns N mN) (hni:mN "__init__"=none)
  (hq:∀ h' e,Heap.MadeExcOf h h' e (.ref C) rest->h.objs.size<=e->Q (.done (.ret (.ref e))) ⟨h',g,d,t,os⟩) (hrest:rest.length<=sizeLine:=by size_fits) :
  wpAny (model prog w) A (Builtin.«type.__call__» ⟨.ref C::rest,[]⟩) Q E ⟨h,g,d,t,os⟩:=by
 repeat (first|with_reducible refine wpAny_loadPart_at hC ?_|with_reducible refine wpAny_madeBy_exc hC ?_|wp_step)
 refine codeAny_call_builtin_code (Code.quiet_builtin _ F.quiet) (wpAny_check_new_subT F T hC ?_)
 refine codeAny_exc_new_subT F T hC ?_ hrest
 show wpAny _ _ _ _ _ _
 have hC₁:=Heap.get?_push_of_some { cls:=.ref C,data:=.fields #[.ref h.objs.size,.none,.none,.none,.bool false,.none] }
  (Heap.get?_push_of_some { cls:=.type "tuple",data:=.seq rest.toArray } hC)
 have hn₁:((h.push { cls:=.type "tuple",data:=.seq rest.toArray }).push { cls:=.ref C,data:=.fields #[.ref h.objs.size,.none,.none,.none,.bool false,.none] }).Ns N mN :=
  let ⟨o,es,ep,e,r⟩:=hn;⟨o,es,ep,Heap.get?_push_of_some _ (Heap.get?_push_of_some _ e),r⟩
 have hget:((h.push { cls:=.type "tuple",data:=.seq rest.toArray }).push
   { cls:=.ref C,data:=.fields #[.ref h.objs.size,.none,.none,.none,.bool false,.none] }).get? (h.objs.size+1)=some
   { cls:=.ref C,data:=.fields #[.ref h.objs.size,.none,.none,.none,.bool false,.none] }:=by heap_get
 have hcC:(Value.ref C::bm).contains (.ref C)=true:=by simp
 have T₁:=T.keeps (h':=(h.push { cls:=.type "tuple",data:=.seq rest.toArray }).push { cls:=.ref C,data:=.fields #[.ref h.objs.size,.none,.none,.none,.bool false,.none] })
  λb o e=>Heap.get?_push_of_some _ (Heap.get?_push_of_some _ e)
 unfold isInstance
 repeat (first|with_reducible refine wpAny_loadPart_at hget ?_|(with_reducible refine wpAny_isSubtype_exc hC₁ ?_;rw [hcC])|wp_step)
 show wpAny _ _ (typeLookup (.ref C) _) _ _ _
 refine wpAny_typeLookup_tail hC₁ hn₁ T₁ F.mroIs F.init.lookup ?_
 rw [hni]
 refine wpAny_holding (wpAny_bind (wpAny_of_eq (F.init.bind _) ?_))
 refine wpAny_bind (wpAny_call (codeAny_call_builtin F.init.plain F.initEntry (wpAny_check_init_subT F T₁ hC₁ hget rfl ?_)))
 wp_walk
 refine hq _ _ ⟨λb o hb=>?_,Heap.get?_none_of_le (Nat.le_succ _),h.objs.size+2,?_,Heap.get?_none_of_le (by omega),?_⟩ (Nat.le_succ _)
 ·rw [Heap.get?_update_other _ _ (Nat.ne_of_gt (Nat.lt_succ_of_lt (Heap.lt_size hb)))]
  exact Heap.get?_push_of_some _ (Heap.get?_push_of_some _ (Heap.get?_push_of_some _ hb))
 ·rw [Heap.get?_update_self _ (Heap.get?_push_of_some _ hget) rfl]
  simp only [Heap.size_push]
  rfl
 ·rw [Heap.get?_update_other _ _ (show h.objs.size+1≠h.objs.size+2 by omega)]
  exact Heap.get?_push_at (by simp only [Heap.size_push]) rfl
theorem xF (F:ExcBaseFacts B newId initId bmB) (T:OwnTail h bmB bm){mN:Str->Option Value}{rest:List Value}{Q:Value->Shared->Prop}
  (hC:h.get? C=some (excClassObj nm q C N bs bm hdct sn sub ab col dd k0 k1 k2 k3 k5 newId)) (hn:h.Ns N mN) (hni:mN "__init__"=none)
  (hq:∀ h' e,Heap.MadeExcOf h h' e (.ref C) rest->h.objs.size<=e->Q (.ref e) ⟨h',g,d,t,os⟩) (hrest:rest.length<=sizeLine:=by size_fits) :
  wpAny (model prog w) A (call (.ref C) rest) Q E ⟨h,g,d,t,os⟩:=by
 have f1:=tc_lookup
 have f2:=tc_bind (.ref C)
 have hT:(⟨h,g,d,t,os⟩:Shared).TypeIs (.ref C) "type":=⟨_,hC,rfl⟩
 refine wpAny_call (codeAny_of_tree ?_)
 show wpAny _ _ (callAny (.ref C) _) _ _ _
 repeat (any_goals (first|assumption|with_reducible refine wpAny_loadPart_at hC ?_|wp_step))
 refine ⟨rfl,?_⟩
 refine codeAny_call_builtin_at (Code.quiet_builtin _ (by decide +kernel)) entry_typeCall (wpAny_check_type_call_sub hC (vZ (hrest:=hrest) F T hC hn hni λh' e hm hz=>?_))
 exact hq h' e hm hz
end
end PySem
namespace L2
open PySem PySem.Spec PyProof.Rows
theorem FV {K:PySem.W.Frag}{h:Heap}{N:Addr}{mg:Str->Option Value}{n:Str}{r:Option Value}(X:K.In h) (G:h.Ns N mg) (e:PySem.W.nsIn K N n=some r):mg n=r:=by
 obtain ⟨o,es,ep,ho,hd,_,hf⟩:=G
 unfold PySem.W.nsIn at e
 split at e
 ·rename_i c d es' n' sl q
  have:=X _ _ q
  rw [ho] at this
  cases this
  cases hd
  rw [<- hf]
  unfold nsFind findBy
  rw [<- Array.find?_toList]
  split at e
  ·rename_i y he;cases e;rw [he];rfl
  ·rename_i he
   split at e
   ·cases e
   ·cases e;rw [he];rfl
 ·cases e
theorem qc {K:PySem.W.Frag}{h:Heap}{C:Addr}{r:Option Value}(X:K.In h) (q:cx K C r=true) :
  ∃ bm N nm qn bs hdct sn sub ab col dd k0 k1 k2 k3 k5 mN,h.get? C=some (excClassObj nm qn C N bs bm hdct sn sub ab col dd k0 k1 k2 k3 k5 "ValueError.__new__")/\h.Ns N mN/\mN "__init__"=r/\OwnTail h va bm:=by
 unfold cx at q
 split at q
 ·rename_i dd cd sl ho
  split at q
  ·rename_i C' bm k0 k1 k2 k3 n k5 hm hs
   simp only [Bool.and_eq_true,beq_iff_eq,Bool.not_eq_true'] at q
   obtain ⟨⟨⟨⟨⟨rfl,rfl⟩,hdel⟩,ht⟩,hok⟩,hni⟩:=q
   obtain ⟨nm,bs,mro,ns,qn,hd,sn,sub,ab,col,del⟩:=cd
   dsimp only at hm hdel hok hni
   subst hm hdel
   have hsl:sl=#[k0,k1,k2,k3,some (.builtin "ValueError.__new__"),k5]:=by
    obtain ⟨l⟩:=sl
    simp only at hs
    rw [hs]
   subst hsl
   have N:=Heap.Ns.of_isNs (PySem.W.isNs_of_in X hok)
   exact ⟨bm,ns,nm,qn,bs,hd,sn,sub,ab,col,dd,k0,k1,k2,k3,k5,_,X _ _ ho,N,FV X N hni,PySem.W.tail_of_in X ht⟩
  ·cases q
 ·cases q
theorem xG {K:PySem.W.Frag}{h h2:Heap}{C:Addr}{r:Option Value}(X:K.In h) (X2:K.In h2) (q:cx K C r=true):h.get? C=h2.get? C:=by
 unfold cx at q
 split at q
 ·rename_i dd cd sl ho
  rw [X _ _ ho,X2 _ _ ho]
 ·cases q
section
variable {X:Cx}{C:Addr}{x:Str}{p pos pos2:Pos}{e:Expr}{es:List Expr}{t:TA}
def Dv (C:Addr) (t:TA):TR:=λσ H R=>t σ H λvs H1=>vs.length<=2/\R C none σ H1
theorem yZ (hx:cx X.K C none=true) (hk:PySem.W.keepIn X.K (.ref C)=true) (hc:X.calm=true) (hg:Gl X x) (hm:X.mg x=some (.ref C)) (ha:PA X.nox (e::es) t) (hdb:(x==("__debug__":Str))=false:=by decide)
  (he:starEach (e::es) X.env=(false,eval e X.env)::starEach es X.env:=by rfl) (hpl:(backTo pos (starEach es X.env)).any (·.1)=false:=by rfl):PR X (.Raise (some (.Call (.Name x p) (e::es) [] pos)) none pos2) (Dv C t):=by
 intro pins s σ H R I h
 obtain ⟨bm,N,nm,q,bs,hd,sn,sub,ab,col,dd,k0,k1,k2,k3,k5,mN,hC,hN,hi,T⟩:=qc I.kIn hx
 have hbase:bm.contains (.type "BaseException")=true:=T.hasType (by decide)
 rw [arm_exec_Raise]
 have go:wpAny (model X.prog X.w) X.A (eval (.Call (.Name x p) (e::es) [] pos) X.env) (λv s1=>∃ en t0,v=.ref en/\s1.heap.get? C=some (excClassObj nm q C N bs bm hd sn sub ab col dd k0 k1 k2 k3 k5 "ValueError.__new__") /\
   s1.heap.get? en=some { cls:=.ref C,data:=.fields #[.ref t0,.none,.none,.none,.bool false,.none] }/\XP X pins R (.ref en) s1) (XP X pins R) s:=by
  refine wpAny_Call_Name_kw (cV I hg hm ?_ hdb)
  refine PySem.W.callWith_K (h₀:=X.base) I.ok.mod.kin hk (iD (ha pos pins s σ H _ (I.wish _) h) λus s1 ⟨vs,H1,I1,r,hl,q1⟩=>⟨I1.unwish.kIn,?_⟩) he hpl
  have J:=I1.unwish
  obtain ⟨bm',N',nm',q',bs',hd',sn',sub',ab',col',dd',k0',k1',k2',k3',k5',mN',hC',hN',hi',T'⟩:=qc J.kIn hx
  have same:s1.heap.get? C=some (excClassObj nm q C N bs bm hd sn sub ab col dd k0 k1 k2 k3 k5 "ValueError.__new__"):=by
   have z:=xG I.kIn J.kIn hx
   rw [<- z];exact hC
  obtain ⟨hp,g,d,tk,os⟩:=s1
  refine xF PySem.F.excBase_ValueError T' hC' hN' hi' (λh' en m hz=>?_) (by have:=r.length;rw [sizeLine_eq,List.nil_append];omega)
  obtain ⟨t0,g1,g2,g3⟩:=m.there
  refine ⟨en,t0,rfl,m.keeps _ _ same,g1,?_⟩
  refine ⟨en,C,none,σ,H1,hp.objs.size,rfl,J.kept (t':=tk) m.keeps,J.low,⟨_,_,.none,g1,rfl,rfl,rfl,⟨rfl,rfl⟩,hz,J.hok.fresh hz,.inl rfl⟩,q1⟩
 exact wpAny_bind (wpAny_standAt (wpAny_raiseStmt_made_sub (C:=C) (nm:=nm) (q:=q) (N:=N) (bs:=bs) (bm:=bm) (hdct:=hd) (sn:=sn) (sub:=sub) (ab:=ab) (col:=col) (dd:=dd) (k0:=k0) (k1:=k1) (k2:=k2) (k3:=k3) (k5:=k5) (newId:="ValueError.__new__") hbase (I.ok.hd hc)
  (wpAny_bind (wpAny_mono go (λv s3 h3=>wpAny_bind (wpAny_standAt (wpAny_pure h3))) λ_ _ z=>z))))
end
end L2
namespace T2
open PySem PySem.Spec PyProof.Rows L2
abbrev WX:=Addr->StT->Sto->Prop
abbrev WR:=StT->Sto->WX->Prop
def lR (K:Fg) (w:WR):TR:=λσ H R=>∃ S σt Rt,SRp K H S/\Cov K H S σ σt/\w σt S Rt/\∀ C σ' H' σt' S',Fr H S H' S'->SRp K H' S'->Cov K H' S' σ' σt'->Rt C σt' S'->R C none σ' H'
def QR (K:Fg) (X:Cx) (st:Stmt) (w:WR):Prop:=PR X st (lR K w)
def QRs (K:Fg) (X:Cx) (st:List Stmt) (w:WR):Prop:=PRs X st (lR K w)
def QRE (K:Fg) (X:Cx) (e:Expr) (w:WR):Prop:=PRE X e (lR K w)
def QRA (K:Fg) (X:Cx) (es:List Expr) (w:WR):Prop:=PRA X es (lR K w)
theorem PR.of {X:Cx}{e:Stmt}{t t':TR}(h:PR X e t) (i:∀ σ H Q,t' σ H Q->t σ H Q):PR X e t':=λpins s σ H Q I q=>h pins s σ H Q I (i σ H Q q)
theorem PRs.of {X:Cx}{e:List Stmt}{t t':TR}(h:PRs X e t) (i:∀ σ H Q,t' σ H Q->t σ H Q):PRs X e t':=λpins s σ H Q I q=>h pins s σ H Q I (i σ H Q q)
theorem PRE.of {X:Cx}{e:Expr}{t t':TR}(h:PRE X e t) (i:∀ σ H Q,t' σ H Q->t σ H Q):PRE X e t':=λpins s σ H Q I q=>h pins s σ H Q I (i σ H Q q)
abbrev bL:=List T->Sto->(Addr->Sto->Prop)->Prop
def bb (K:Fg) (w:bL):Sp:=λvs H _ E=>∃ S ts Rt,SRp K H S/\Rps K H S ts vs/\w ts S Rt/\∀ C H' S',Fr H S H' S'->SRp K H' S'->Rt C S'->E (.ref C) none H'
section
variable {K:Fg}{X:Cx}{st:Stmt}{rest:List Stmt}{w u:WS}{r r2:WR}{e:Expr}{es:List Expr}{we:WE}{pos:Pos}{t:WT}
theorem aP (h:QR K X st r):QRs K X (st::rest) r:=yU h
def tV (w:WS) (r:WR):WR:=λσ S R=>w { nx:=λσ' S'=>r σ' S' R,rt:=λ_ _=>False } σ S
theorem lP (h1:QS K X.nox st w) (h2:QRs K X rest r):QRs K X (st::rest) (tV w r):=PRs.of (yV h1 h2) λσ H R ⟨S,σt,Rt,s,c,q,hr⟩ =>
 ⟨S,σt,_,s,c,q,⟨λσ' H' σt' S' f s' c' q'=>⟨S',σt',Rt,s',c',q',λC σ2 H2 σt2 S2 f2=>hr C σ2 H2 σt2 S2 (f.trans f2)⟩,λ_ _ _ _ _ _ _ q'=>q'.elim,λ_ _ _ _ _ _ _ q'=>q'.elim,λ_ _ _ _ _ _ _ q'=>q'.elim⟩⟩
def vN (t:WT) (r r2:WR):WR:=λσ S R=>t σ S λb S1=>if b=true then r σ S1 R else r2 σ S1 R
theorem b5 {c:Expr}{a b:List Stmt}(hc:QT K X.nox c t) (ha:QRs K X a r) (hb:QRs K X b r2):QR K X (.If c a b pos) (vN t r r2):=PR.of (FT hc ha hb) λσ H R zz103=>by
 obtain ⟨S,σt,Rt,s,c,q,hr⟩:=zz103
 refine ⟨S,σt,_,s,c,q,λk H1 S1 f1 s1 q1=>?_⟩
 cases k with
 |true=>exact ⟨S1,σt,Rt,s1,c.fr f1,q1,λC σ2 H2 σt2 S2 f2=>hr C σ2 H2 σt2 S2 (f1.trans f2)⟩
 |false=>exact ⟨S1,σt,Rt,s1,c.fr f1,q1,λC σ2 H2 σt2 S2 f2=>hr C σ2 H2 σt2 S2 (f1.trans f2)⟩
def AQ:WR:=λ_ _ _=>False
theorem dU {sts:List Stmt}:QRs K X sts AQ:=λ_ _ _ _ _ _ zz104=>by obtain ⟨_,_,_,_,_,q,_⟩:=zz104;exact q.elim
theorem jG (h:QRE K X e r) (hs:swapsWith e none pos.line X.env=pure false:=by rfl):QR K X (.Expr e pos) r:=AN h hs
theorem gG {x:Str}{pos':Pos}(h:QRE K X e r) (hs:swapsWith e (some (.Name x pos')) pos.line X.env=pure false:=by rfl):QR K X (.Assign [.Name x pos'] e pos) r:=Ds h hs
theorem y1 (h:QRE K X e r) (hs:starEach (e::es) X.env=(false,eval e X.env)::starEach es X.env:=by rfl):QRA K X (e::es) r:=yW h hs
end
section
variable {K:Fg}{X:Cx}{k:Nat}{f C:Addr}{fd:FuncData}{ps:List Str}{wsp:bL}{x m:Str}{p pos pos2 apos:Pos}{e o:Expr}{es:List Expr}{wa:WE}{wr:WA}{r:WR}{G:Addr->Prop}
theorem y3 (D:Df X.K X.mg x f fd ps) (hg:Gl X x) (ha:QRA K X (e::es) r) (hdb:(x==("__debug__":Str))=false:=by decide) (he:starEach (e::es) X.env=(false,eval e X.env)::starEach es X.env:=by rfl) (hpl:(backTo pos (starEach es X.env)).any (·.1)=false:=by rfl) :
  QRE K X (.Call (.Name x p) (e::es) [] pos) r:=xD (g:=.none) hg D.hm D.kp ha hdb he hpl
def mS (G:Addr->Prop) (m:Str) (wsp:bL) (wa:WE) (wr:WA):WR:=λσ S R=>wa σ S λx S1=>∃ a C fs,x=.ref a/\S1 a=some (.ins C fs)/\G C/\fs.lookup m=none/\wr σ S1 λts S2=>wsp (x::(ts++[])) S2 λC S'=>R C σ S'
theorem xH {σ H R}(h:lR K (mS G m wsp wa wr) σ H R):uT G m (bb K wsp) [] (lE K wa) (lA K wr) σ H R:=by
 obtain ⟨S,σt,Rt,s,c,q,hq⟩:=h
 refine ⟨S,σt,_,s,c,q,λx H1 tx S1 f1 s1 r1 q1=>?_⟩
 obtain ⟨a,C,fs,rfl,ea,g,l,q1⟩:=q1
 cases r1
 cases s1 a _ ea with
 |ins eh pr =>
  refine ⟨a,C,_,_,rfl,eh,g,bO pr l,S1,σt,_,s1,c.fr f1,q1,λvs H2 ts S2 f2 s2 r2 q2=>?_⟩
  exact ⟨S2,_,_,s2,.cons .ref (r2.append .nil),q2,λC H' S' f s' q'=>⟨C,rfl,hq C σ H' σt S' ((f1.trans f2).trans f) s' (c.fr ((f1.trans f2).trans f)) q'⟩⟩
theorem cX {pl:Sem Bool}(hG:∀ C,G C->Cls X.K C/\Meth X.K C m f) (F:FnOk X.prog X.w X.K X.mg X.base (CX1 X.prog X.w) k f fd ps (bb K wsp)) (hb:aq X.K fd ps []) (hr:Room k X.A) (ho:QE K X.nox o wa) (ha:QA K X.nox (e::es) wr)
  (hst:starEach (e::es) X.env=(false,eval e X.env)::starEach es X.env:=by rfl) (hpl:(backTo pos (starEach es X.env)).any (·.1)=false:=by rfl)
  (ht:eval (.Call (.Attribute o m apos) (e::es) [] pos) X.env=(do
   let ov <- eval o X.env
   standAt apos.atName
   let (f,first) <- holding [ov] (getMethod ov m pl)
   callWith pos f first (backTo pos (starEach (e::es) X.env)) (backToKw pos (keywordEach [] X.env))):=by rfl) :
  QRE K X (.Call (.Attribute o m apos) (e::es) [] pos) (mS G m wsp wa wr):=PRE.of (qF (pl:=pl) (dvs:=[]) ho hG F hr hb .nil ha hst hpl ht) λ_ _ _ h=>xH h
def rV (C:Addr) (wr:WA):WR:=λσ S R=>wr σ S λts S1=>ts.length<=2/\R C σ S1
theorem eJ (hx:cx X.K C none=true) (hk:PySem.W.keepIn X.K (.ref C)=true) (hc:X.calm=true) (hg:Gl X x) (hm:X.mg x=some (.ref C)) (ha:QA K X.nox (e::es) wr) (hdb:(x==("__debug__":Str))=false:=by decide)
  (he:starEach (e::es) X.env=(false,eval e X.env)::starEach es X.env:=by rfl) (hpl:(backTo pos (starEach es X.env)).any (·.1)=false:=by rfl):QR K X (.Raise (some (.Call (.Name x p) (e::es) [] pos)) none pos2) (rV C wr) :=
 PR.of (yZ hx hk hc hg hm ha hdb he hpl) λσ H R ⟨S,σt,Rt,s,c,q,hq⟩ =>
  ⟨S,σt,_,s,c,q,λvs H1 ts S1 f1 s1 r1 zz105=>by obtain ⟨hl,q1⟩:=zz105;exact ⟨by rw [r1.length];exact hl,hq C σ H1 σt S1 f1 s1 (c.fr f1) q1⟩⟩
end
def n5 (R:Addr->Sto->Prop):WX:=λC _ S=>∃ S0,Le S0 S/\R C S0
theorem n5.mk {R:Addr->Sto->Prop}{C:Addr}{σ:StT}{S:Sto}(h:R C S):n5 R C σ S:=⟨S,.refl,h⟩
theorem dE {P:Program}{w:World}{K:Fg}{mg:Str->Option Value}{base:Heap}{x qual:Str}{st:Stmt}{f:Addr}{fd:FuncData}{N ps:List Str}{k:Nat}{wsp:bL}(F:FunD K x qual st f fd) (Sc:FnScope N ps (ai st)) (len:∀ ts S Q,wsp ts S Q->ts.length=ps.length)
  (hbody:∀ (cdv:Value) (A:Around) (outer:List Env) (s:Shared) (H:Hp) (E:XK),Room k (A.deeper (envOfC qual (ai st) s.heap.objs.size f cdv)) ->
   ∃ u,QRs K (cz CX0 P w K mg base N qual (ai st) f cdv A outer s H E) (am st) u/\∀ ts S R,wsp ts S R->u (cq N ts) S (n5 R)):FnOk P w K mg base (CX1 P w) (k+1) f fd ps (bb K wsp):=by
 obtain ⟨oc,od,dV,kV,doc,pm,an,cdv,ct,osl,rfl,lk,hcd⟩:=F.ex
 refine yX lk hcd Sc (λvs H Q E ⟨S,ts,Qt,s,r,q,_⟩=>by rw [r.length];exact len _ _ _ q) λA outer s H vs E Q hr ⟨S,ts,Rt,sr,r,q,b⟩=>?_
 obtain ⟨u,hu,hq⟩:=hbody cdv A outer s H E hr
 refine ⟨_,hu,S,cq N ts,_,sr,jo r,hq ts S Rt q,λC σ' H' σt' S' f s' _ zz106=>?_⟩
 obtain ⟨S0,l,q0⟩:=zz106
 exact b C H' S0 (f.trans (Fr.le l)) (s'.le l) q0
section
variable {K:Fg}{X:Cx}{pos p:Pos}{x:Str}{B:Addr}
abbrev WH:=Addr->WS
def lH (K:Fg) (w:WH):TH:=λC D σ H=>∃ S σt Dt,SRp K H S/\Cov K H S σ σt/\w C Dt σt S/\EndsOk K H S Dt D
def QH (K:Fg) (X:Cx) (hs:List ExceptHandler) (w:WH):Prop:=PH X hs (lH K w)
theorem PH.of {hs:List ExceptHandler}{t t':TH}(h:PH X hs t) (i:∀ C D σ H,t' C D σ H->t C D σ H):PH X hs t':=λpins s σ H a C dct lo D I lw x q=>h pins s σ H a C dct lo D I lw x (i C D σ H q)
def FW:WH:=λ_ _ _ _=>False
theorem Dx:QH K X [] FW:=PH.of Du λ_ _ _ _ zz107=>by obtain ⟨_,_,_,_,_,q,_⟩:=zz107;exact q
def n6 (wn:WS) (wr:WR) (wh:WH):WS:=λD σ S=>wn D σ S\/wr σ S λC σ' S'=>wh C D σ' S'
end
section
variable {K:Fg}{σ:StT}{S:Sto}{R:WX}{D:EndsT}{w:WS}{r r2:WR}{t:WT}{we wa:WE}{wr:WA}{wsp:bL}{C B:Addr}{G:Addr->Prop}{m:Str}{wh:WH}
theorem jY (h:w { nx:=λσ' S'=>r σ' S' R,rt:=λ_ _=>False } σ S):tV w r σ S R:=h
theorem kE (h:t σ S λb S1=>if b=true then r σ S1 R else r2 σ S1 R):vN t r r2 σ S R:=h
theorem Dy (h:wa σ S λx S1=>∃ a C fs,x=.ref a/\S1 a=some (.ins C fs)/\G C/\fs.lookup m=none/\wr σ S1 λts S2=>wsp (x::(ts++[])) S2 λC S'=>R C σ S'):mS G m wsp wa wr σ S R:=h
theorem AR (h:wr σ S λts S1=>ts.length<=2/\R C σ S1):rV C wr σ S R:=h
theorem Dz (h:w D σ S):n6 w r wh D σ S:=.inl h
theorem tW (h:r σ S λC σ' S'=>wh C D σ' S'):n6 w r wh D σ S:=.inr h
end
end T2
namespace L2
open PySem PySem.Spec PyProof.Rows
section
variable {X:Cx}
variable {pos p2 p3:Pos}{value:Expr}{tv:TE}{s2:Str}{k3:Nat}
end
end L2
namespace T2
open PySem PySem.Spec PyProof.Rows L2
section
variable {K:Fg}{X:Cx}{pos p2 p3:Pos}{value o:Expr}{wv wa:WE}{s2:Str}{k3:Nat}{G:Addr->Prop}
end
end T2
namespace L2
open PySem PySem.Spec PyProof.Rows
end L2
namespace T2
open PySem PySem.Spec PyProof.Rows L2
section
variable {K:Fg}{X:Cx}
end
section
variable {K:Fg}{X:Cx}{sts:List Stmt}{r1 r2:WR}
def n9 (r1 r2:WR):WR:=λσ S R=>r1 σ S R\/r2 σ S R
theorem mT (h1:QRs K X sts r1) (h2:QRs K X sts r2):QRs K X sts (n9 r1 r2):=λpins s σ H Q I zz108=>by
 obtain ⟨S,σt,Rt,sr,c,q,hr⟩:=zz108
 rcases q with q|q
 ·exact h1 pins s σ H Q I ⟨S,σt,Rt,sr,c,q,hr⟩
 ·exact h2 pins s σ H Q I ⟨S,σt,Rt,sr,c,q,hr⟩
theorem nH {σ:StT}{S:Sto}{R:WX}(h:r1 σ S R):n9 r1 r2 σ S R:=.inl h
theorem nI {σ:StT}{S:Sto}{R:WX}(h:r2 σ S R):n9 r1 r2 σ S R:=.inr h
end
end T2
namespace L2
open PySem PySem.Spec PyProof.Rows
section
variable {X:Cx}
end
end L2
namespace T2
open PySem PySem.Spec PyProof.Rows L2
section
variable {K:Fg}{X:Cx}
end
end T2
namespace L2
open PySem PySem.Spec PyProof.Rows
section
variable {X:Cx}{pos p2 p3 p4:Pos}{value value2:Expr}{tv tv2:TE}{s2:Str}{k3:Nat}
variable {elt iter target:Expr}{ifs:List Expr}{scope:Scope}{r:TR}
end
end L2
namespace T2
open PySem PySem.Spec PyProof.Rows L2
section
variable {K:Fg}{X:Cx}{pos p2 p3 p4:Pos}{value value2:Expr}{wv wv2:WE}{s2:Str}{k3:Nat}{r:WR}
variable {elt iter target:Expr}{ifs:List Expr}{scope:Scope}
end
end T2
namespace T2
open PySem L2
end T2
namespace L2
open PySem PySem.Spec PyProof.Rows
section
variable {X:Cx}
end
end L2
namespace T2
open PySem PySem.Spec PyProof.Rows L2
section
variable {K:Fg}{X:Cx}
end
end T2
namespace L2
open PySem PySem.Spec PyProof.Rows
end L2
namespace T2
open PySem PySem.Spec PyProof.Rows L2
section
variable {K:Fg}{X:Cx}
end
end T2
set_option maxRecDepth 100000
namespace PySem.W
open PySem PySem.Spec PySem.Calls PyProof.Rows
section
variable {prog:Program}{w:World}{A:Around}{E:Value->Shared->Prop}{s:Shared}{K:Frag}{x C:Addr}{ox:Obj}{od:Option Obj}{name:Str}{expr fill:Bool}
structure XGet (K:Frag) (C:Addr):Prop where
 ga:findIn K (.ref C) "__getattribute__"=some (some (.builtin "BaseException.__getattribute__"))
 gk:findIn K (.ref C) "__getattr__"=some none
 sub:mroIn K C (.type "BaseException")=some true
theorem AS {tk:Tok}{Q:Value->Shared->Prop}(G:XGet K C) (X:K.In s.heap) (I:InstAt s.heap x ox C od)
  (h:wpAny (model prog w) A.in1 (Builtin.«object.__getattribute__» ⟨[.ref x,.str name tk],[]⟩) (λfin s'=>match fin with|.done (.ret v)=>wpAny (model prog w) A (handedOut v) Q E s'|_=>False) (λ_ _=>False) s) :
  wpAny (model prog w) A (getAttrBy (.ref x) (.str name tk) fill expr) Q E s:=by
 have hb:Looks (model prog w) s.heap (hookBefore (.ref C)) none:=by
  unfold hookBefore;rw [if_pos (show onTheHeap (.ref C)=true from rfl)];exact looks_findIn X G.gk
 have sub:Looks (model prog w) s.heap (isInstance (.ref x) (.type "BaseException")) true:=I.type.andThen (looks_mroIn X G.sub)
 unfold getAttrBy
 refine wpAny_holding (wpAny_bind (I.type.here (wpAny_bind ((looks_findIn X G.ga).here ?_))))
 dsimp only
 rw [show (onTheHeap (.ref C)&&Value.builtin "BaseException.__getattribute__" == Value.builtin "object.__getattribute__")=false from by rw [show (Value.builtin "BaseException.__getattribute__" == Value.builtin "object.__getattribute__")=false from by decide +kernel,Bool.and_false],if_neg (by decide)]
 unfold getAttrByItsOwn
 refine wpAny_bind (hb.here (wpAny_bind (wpAny_attempt (wpAny_holding ?_))))
 unfold callGetattribute
 rw [show (expr&&onTheHeap (Value.builtin "BaseException.__getattribute__"))=false from Bool.and_false _,if_neg (by decide)]
 unfold boundAndCalled
 rw [PySem.F.attr_ValueError.ga.bind]
 refine wpAny_bind (wpAny_pure ?_)
 show wpAny _ _ (call (.builtin "BaseException.__getattribute__") [.ref x,.str name tk]) _ _ _
 refine wpAny_call ?_
 refine codeAny_call_builtin PySem.F.attr_ValueError.ga.plain PySem.F.entry_bexc_ga ?_
 refine @check_slot (model prog w) _ _ s "BaseException.__getattribute__" "BaseException" "__getattribute__" (.ref x) [.str name tk] [] _ (by decide +kernel) (by decide +kernel) sub (PySem.F.args_bexc_ga (.ref x) (.str name tk)) ?_
 refine wpAny_mono h (λfin s' z=>?_) λ_ _ z=>z.elim
 rcases fin with (_|_|_|_)|_<;>first|exact z|exact z.elim
theorem xget_class {Q:Option Value->Shared->Prop}(G:XGet K C) (X:K.In s.heap) (I:InstAt s.heap x ox C od) (hf:findObj K C od "__class__"=some (.bind (.builtin "getset_descriptor.__get__") (.builtin "object.__class__")))
  (hm:mroIn K C (.type "object")=some true) (h:Q (some (.ref C)) { s with toks:=s.toks+1 }) :
  wpAny (model prog w) A (getAttr? (.ref x) "__class__") Q E s:=by
 unfold getAttr? getAttrBy?
 refine wpAny_bind (wpAny_mkText (wpAny_bind (wpAny_attempt (AS (s:={ s with toks:=s.toks+1 }) G X I ?_))))
 obtain ⟨hh',g,d,t,os⟩:=s
 have L0:=I.type (M:=model prog w)
 have L1:=looks_find (M:=model prog w) X I hf
 refine wpAny_bind (wpAny_pure (wpAny_bind (wpAny_pure (wpAny_bind (L0.at (wpAny_bind (L1.at ?_)))))))
 show wpAny _ _ (holding [_] (call (.builtin "getset_descriptor.__get__") [.builtin "object.__class__",.ref x,.ref C]) >>= ret) _ _ _
 refine wpAny_bind (wpAny_holding (wpAny_call (class_get (ox:=ox) (od:=od) X I hm (wpAny_pure ?_))))
 show wpAny _ _ (handedOut (.ref C)) _ _ _
 rw [handedOut_of rfl]
 exact wpAny_pure (wpAny_pure h)
theorem findObj_class (hc:(clsIn K C).isSome=true) (ha:findIn K (.ref C) "__class__"=some (some (.builtin "object.__class__"))) (hn:specialIn K (.builtin "object.__class__") "__get__"=some (some (.builtin "getset_descriptor.__get__"))) (htk:takesIn K (.builtin "object.__class__")=some true) :
  findObj K C od "__class__"=some (.bind (.builtin "getset_descriptor.__get__") (.builtin "object.__class__")):=by
 obtain ⟨cd,hc⟩:=Option.isSome_iff_exists.mp hc
 unfold findObj
 rw [hc,Option.bind_some,ha,Option.bind_some]
 simp [hn,htk]
end
end PySem.W
namespace L2
open PySem PySem.Spec PyProof.Rows
section
variable {X:Cx}{pins:List (Addr×Obj)}{σ:St}{H:Hp}{s:Shared}
theorem jH {M:Model}{A:Around}{E:Value->Shared->Prop}{i:Nat}{x:Str}{pos:Pos}{Q:Unit->Shared->Prop}(I:Inv X pins σ H s) (hN:X.N.Nodup) (hi:X.N[i]?=some x) (hx:X.env.scope.names.lookup x=some .local)
  (h:∀ s',Inv X pins (σ.set i none) H s'->Q () s'):wpAny M A (do bindName X.env x .none;unbindBehindTheSuite X.env x pos) Q E s:=by
 refine wpAny_bind (wpAny_bindName (h9 (v:=.non) I hN hi (.inl hx) rfl (λs1 I1=>?_) (.inr hx)))
 have hcls:(X.env.scope.kind==.class || (X.env.scope.kind==.module&&X.env.locals != X.env.globals))=false:=by rw [I.ok.kind];rfl
 have hk:X.env.kindOf x=some .local:=hx
 obtain ⟨m,hn,hl⟩:=id I1.loc
 have cne:=I1.cne
 unfold unbindBehindTheSuite
 refine wpAny_onRaise ?_
 unfold unbindName
 refine wpAny_bind (wpAny_point (wpAny_bind ?_))
 unfold deleteName
 simp only [hk,hcls]
 rw [if_neg (by decide)]
 refine wpAny_bind (wpAny_nsDel_keeps hn λh' v hn' hs=>?_)
 have hsome:(m x).isSome=true:=by
  have hiσ:i<σ.length:=by rw [I.len];exact (List.getElem?_eq_some_iff.mp hi).1
  obtain ⟨u,_,q⟩:=hl i x .non hi (by rw [List.getElem?_set_self hiσ]) (.inl hx)
  rcases q with ⟨_,e⟩|⟨k,_⟩
  ·rw [e];rfl
  ·rw [hk] at k;rcases k with k|k<;>cases k
 rw [hsome]
 simp only [if_true,Option.isSome_some,Bool.not_true,Bool.false_eq_true,if_false]
 refine wpAny_pure (wpAny_point (h _ ?_))
 obtain ⟨oL,_,_,hoL,_⟩:=id hn
 refine ⟨I.ok,I1.os,I1.bare,⟨λb o e n hb hx=>?_,λb o e n hb hx=>?_,I1.base.free,λb o e hx=>?_,I1.base.tups,I1.base.frzs,I1.base.tbls⟩,⟨_,hn',λj y v' e1 e2 e3=>?_⟩,λy c e=>?_,I1.free,I1.freeC,λp hp=>?_,λb ob e=>?_,by simpa using I.len⟩
 ·exact (hs.2 b (Nat.ne_of_lt (Nat.lt_of_lt_of_le (Heap.lt_size e) I.ok.above))).trans (I1.base.keep b o e n hb hx)
 ·obtain ⟨sl,e1⟩:=I1.base.slot b o e n hb hx
  exact ⟨sl,(hs.2 b (Nat.ne_of_lt (Nat.lt_of_lt_of_le (Heap.lt_size e) I.ok.above))).trans e1⟩
 ·obtain ⟨o',e1⟩:=I1.base.there b o e hx
  exact ⟨o',(hs.2 b (Nat.ne_of_lt (Nat.lt_of_lt_of_le (Heap.lt_size e) I.ok.above))).trans e1⟩
 ·have hiσ:i<σ.length:=by rw [I.len];exact (List.getElem?_eq_some_iff.mp hi).1
  by_cases hj:j=i
  ·subst hj
   rw [List.getElem?_set_self hiσ] at e2
   cases e2
  ·rw [List.getElem?_set_ne (Ne.symm hj)] at e2
   obtain ⟨u',r',q⟩:=hl j y v' e1 (by rw [List.getElem?_set_ne (Ne.symm hj)];exact e2) e3
   refine ⟨u',r',?_⟩
   rcases q with ⟨k,e⟩|⟨k,c,e,z⟩
   ·refine .inl ⟨k,?_⟩
    have:y≠x:=λe=>hj (lf hN e1 (e ▸ hi))
    simp [this,e]
   ·exact .inr ⟨k,c,e,z.sameBut hs (cne y c e)⟩
 ·obtain ⟨w',z⟩:=I1.cell y c e
  exact ⟨w',z.sameBut hs (cne y c e)⟩
 ·obtain ⟨e,n,ne,nf,d⟩:=I1.pin p hp
  exact ⟨(hs.2 p.1 ne).trans e,n,ne,nf,d⟩
 ·refine (I1.hok b ob e).stay (λc w' hc q=>(hs.2 c ?_).trans q) (λ_ q=>q) λ_ _ q=>q
  rintro rfl
  rcases hc with rfl|hc
  ·rw [I1.free] at e;cases e
  ·rw [I1.free] at hc;cases hc
theorem Inv.add {a:Addr}{o:HO}{lo:Nat}(I:Inv X pins σ H s) (lw:Low X pins lo) (hl:lo<=a) (h0:H a=none) (new:aV X.prog X.w (upd H a o) s.heap a o):Inv X pins σ (upd H a o) s:=by
 have ne:∀ b u,H b=some u->b≠a:=λb u e z=>by rw [z,h0] at e;cases e
 have up:∀ b u,H b=some u->upd H a o b=some u:=λb u e=>by unfold upd;rw [if_neg (ne b u e)];exact e
 have no:∀ b,b<lo->H b=none->upd H a o b=none:=λb hb e=>by unfold upd;rw [if_neg (λz=>absurd (Nat.lt_of_lt_of_le hb hl) (by rw [z];exact Nat.lt_irrefl _))];exact e
 refine ⟨I.ok,I.os,I.bare,⟨I.base.keep,I.base.slot,λb u e n hx=>?_,I.base.there,λb xs e=>?_,λb u v e=>?_,λb ps e=>?_⟩,I.loc,I.cell,no _ lw.loc I.free,λx c e=>no _ (lw.cell x c e) (I.freeC x c e),λp hp=>?_,λb ob e=>?_,I.len⟩
 ·exact no b (Nat.lt_of_lt_of_le (Heap.lt_size e) lw.s0) (I.base.free b u e n hx)
 ·exact up _ _ (I.base.tups b xs e)
 ·exact up _ _ (I.base.frzs b u v e)
 ·obtain ⟨m,q⟩:=I.base.tbls b ps e
  exact ⟨m,up _ _ q⟩
 ·obtain ⟨e,n,r⟩:=I.pin p hp
  exact ⟨e,no _ (lw.pin p hp) n,r⟩
 ·by_cases hb:b=a
  ·subst hb
   have:ob=o:=by unfold upd at e;rw [if_pos rfl] at e;exact (Option.some.inj e).symm
   subst this
   exact new
  ·have e':H b=some ob:=by unfold upd at e;rw [if_neg hb] at e;exact e
   exact (I.hok b ob e').stay (λc w' hc q=>q) (λc q=>up _ _ q) λc xs q=>up _ _ q
theorem DA {P:Program}{w:World}{h:Heap}{C a:Addr}(x:∃ ob,h.get? a=some ob/\ob.cls=.ref C/\ob.dict=none/\∃ vs,ob.data=.fields vs/\vs[2]?=some .none):aV P w H h a (exH C a) :=
 ⟨x,let ⟨ob,e,_⟩:=x;⟨ob,e⟩,λ_ _ zz109 k=>by obtain ⟨ob,e,r⟩:=zz109;exact ⟨ob,k _ e,r⟩⟩
end
section
variable {X:Cx}
def PHn (X:Cx) (hs:List ExceptHandler) (t:TH):Prop:=∀ (pins:List (Addr×Obj)) (s:Shared) (σ:St) (H:Hp) (a C:Addr) (lo:Nat) (D:Ends),Inv X pins σ H s->Low X pins lo->Xc.Exc s.heap lo (λb=>H b=none) a (.ref C) none->t C D σ H ->
 wpAny (model X.prog X.w) X.A (handleBy (.ref a) X.env hs) (SP X pins D) X.xe s
theorem PH.n {hs:List ExceptHandler}{t:TH}(h:PH X hs t):PHn X hs t:=λpins s σ H a C lo D I lw x q=>h pins s σ H a C none lo D I lw x q
def mU (i:Nat) (D:Ends):Ends:={ D with nx:=λσ H=>D.nx (σ.set i none) H,bk:=λσ H=>D.bk (σ.set i none) H,ct:=λσ H=>D.ct (σ.set i none) H }
def Hh (K:PySem.W.Frag) (B:Addr) (i:Nat) (t:Addr->TS) (r:TH):TH:=λC D σ H=>∃ b,PySem.W.exmOne K (.ref C) (.ref B)=some b/\if b=true then ∀ a,H a=none->t a (mU i D) (σ.set i (some (.ref a))) (upd H a (exH C a)) else r C D σ H
theorem FX {x n:Str}{B:Addr}{i:Nat}{p pos:Pos}{st:Stmt}{suite:List Stmt}{hs:List ExceptHandler}{t:Addr->TS}{r:TH}(hN:X.N.Nodup) (hi:X.N[i]?=some n) (hn:X.env.scope.names.lookup n=some .local) (hg:Gl X x) (hm:X.mg x=some (.ref B)) (h1:∀ a,PSs (X.inx a) (st::suite) (t a)) (h2:PHn X hs r) (hdb:(x==("__debug__":Str))=false:=by decide) :
  PHn X (.ExceptHandler (some (.Name x p)) (some n) (st::suite) pos::hs) (Hh X.K B i t r):=by
 intro pins s σ H a C lo D I lw x h
 obtain ⟨b,hb,q⟩:=h
 refine wpAny_handleBy_cons (codeAny_handlers_test (cV (X:=X.inx a) (I.inx a) hg hm ?_ hdb)) (by intro z;cases z)
 obtain ⟨oe,ge,hc,_⟩:=x.there
 have lt:PySem.W.Looks (model X.prog X.w) s.heap (typeOf (.ref a)) (.ref C):=hc ▸ (PySem.W.Looks.ld ge).andThen .now
 refine (PySem.W.exm_one (M:=model X.prog X.w) I.kIn lt hb).here ?_
 cases b with
 |true =>
  rw [if_pos rfl] at q
  refine codeAny_handlers_suite_as ?_
  refine xE I lw x λs' I' x'=>?_
  obtain ⟨oe',_,_,ge',hc',hd',de',e2',hlo,h0,_⟩:=x'
  have J:=(I'.add lw hlo h0 (DA (C:=C) ⟨oe',ge',hc',hd',_,de',e2'.2⟩)).inx a
  refine h9 (X:=X.inx a) (v:=.ref a) J hN hi (.inl hn) rfl (λs2 J2=>?_) (.inr hn)
  refine wpAny_mono (h1 a pins s2 _ _ (mU i D) J2 (q a h0)) (λf s3 z=>?_) λ_ _ z=>z.elim
  have z:=SP.outx I.ok z
  cases f with
  |next=>obtain ⟨σ',H',I3,q3⟩:=z;exact jH I3 hN hi hn λs4 I4=>⟨_,_,I4,q3⟩
  |brk=>obtain ⟨σ',H',I3,q3⟩:=z;exact jH I3 hN hi hn λs4 I4=>⟨_,_,I4,q3⟩
  |cont=>obtain ⟨σ',H',I3,q3⟩:=z;exact jH I3 hN hi hn λs4 I4=>⟨_,_,I4,q3⟩
  |ret u=>obtain ⟨v,σ',H',I3,rv,q3⟩:=z;exact jH I3 hN hi hn λs4 I4=>⟨v,_,_,I4,rv,q3⟩
 |false =>
  rw [if_neg (by decide)] at q
  exact h2 pins s σ H a C lo D I lw x q
def FY (tn:TS) (tr:TR) (th:TH):TS:=λD σ H=>tn D σ H\/tr σ H λC dct σ' H'=>dct=none/\th C D σ' H'
theorem AT {body:List Stmt}{hd:ExceptHandler}{hs:List ExceptHandler}{tn:TS}{tr:TR}{th:TH}{pos:Pos}(st:X.stack=X.env::X.outer/\X.env.frame=some X.env.locals) (hn:PSs X.nox body tn) (hr:PRs X body tr) (hh:PHn X (hd::hs) th) :
  PS X (.Try body (hd::hs) [] [] pos) (FY tn tr th):=by
 intro pins s σ H D I h
 rcases h with h|h
 ·refine wpAny_Try_except (wpAny_mono (hn pins s σ H D (I.wish _) h) (λf s1 q=>?_) λ_ _ z=>z.elim)
  cases f with
  |next=>exact wpAny_execs_nil q.unwish
  |brk=>exact q.unwish
  |cont=>exact q.unwish
  |ret u=>exact q.unwish
 ·refine wpAny_Try_except (wpAny_mono (hr pins s σ H _ I h) (λf s1 q=>q.elim) λe s1 ⟨a,C,dct,σ',H',lo,ee,J,lw,x,hdn,q⟩=>?_)
  subst ee hdn
  have hlo:lo<=s1.heap.objs.size:=Nat.le_of_lt (Nat.lt_of_le_of_lt (by obtain ⟨_,_,_,_,_,_,_,_,l,_⟩:=x;exact l) (by obtain ⟨oe,_,_,ge,_⟩:=x;exact Heap.lt_size ge))
  exact rT J st lw hlo x λs2 J2 _ _ x2=>hh pins s2 σ' H' a C lo D J2 lw x2 q
end
end L2
namespace T2
open PySem PySem.Spec PyProof.Rows L2
section
variable {K:Fg}{X:Cx}{pos p:Pos}{x:Str}{B:Addr}
theorem Cov.none {H:Hp}{S:Sto}{σ:L2.St}{σt:StT}(c:Cov K H S σ σt) (i:Nat):Cov K H S (σ.set i none) (σt.set i none):=by
 refine ⟨by rw [List.length_set,List.length_set];exact c.1,λj t e=>?_⟩
 rw [List.getElem?_set] at e
 split at e
 ·split at e<;>cases e
 ·rename_i h
  obtain ⟨v,e1,e2⟩:=c.2 j t e
  exact ⟨v,by rw [List.getElem?_set_ne h];exact e1,e2⟩
def asE (i:Nat) (D:EndsT):EndsT:={ D with nx:=λσ S=>D.nx (σ.set i none) S,bk:=λσ S=>D.bk (σ.set i none) S,ct:=λσ S=>D.ct (σ.set i none) S }
theorem EndsOk.as {H:Hp}{S:Sto}{Dt:EndsT}{D:Ends}(e:EndsOk K H S Dt D) (i:Nat):EndsOk K H S (asE i Dt) (mU i D) :=
 ⟨λσ' H' σt' S' f s c q=>e.nx _ H' _ S' f s (c.none i) q,λv H' t S' f s r q=>e.rt v H' t S' f s r q,λσ' H' σt' S' f s c q=>e.bk _ H' _ S' f s (c.none i) q,λσ' H' σt' S' f s c q=>e.ct _ H' _ S' f s (c.none i) q⟩
def QHn (K:Fg) (X:Cx) (hs:List ExceptHandler) (w:WH):Prop:=PHn X hs (lH K w)
theorem PHn.of {hs:List ExceptHandler}{t t':TH}(h:PHn X hs t) (i:∀ C D σ H,t' C D σ H->t C D σ H):PHn X hs t':=λpins s σ H a C lo D I lw x q=>h pins s σ H a C lo D I lw x (i C D σ H q)
theorem DB {hs:List ExceptHandler}{w:WH}(h:QH K X hs w):QHn K X hs w:=PH.n h
def vO (K:Fg) (B:Addr) (i:Nat) (w:Addr->WS) (r:WH):WH:=λC D σ S=>∃ b,PySem.W.exmOne K (.ref C) (.ref B)=some b/\if b=true then ∀ a,S a=none->w a (asE i D) (σ.set i (some (.ref a))) (put S a (.exk C)) else r C D σ S
theorem FZ {n:Str}{i:Nat}{st:Stmt}{suite:List Stmt}{hs:List ExceptHandler}{w:Addr->WS}{r:WH}(hK:X.K=K) (hN:X.N.Nodup) (hi:X.N[i]?=some n) (hn:X.env.scope.names.lookup n=some .local) (hg:Gl X x) (hm:X.mg x=some (.ref B)) (h1:∀ a,QSs K (X.inx a) (st::suite) (w a)) (h2:QHn K X hs r) (hdb:(x==("__debug__":Str))=false:=by decide) :
  QHn K X (.ExceptHandler (some (.Name x p)) (some n) (st::suite) pos::hs) (vO K B i w r):=by
 subst hK
 refine PHn.of (FX hN hi hn hg hm h1 h2 hdb) λC D σ H zz110=>?_
 obtain ⟨S,σt,Dt,s,c,⟨b,hb,q⟩,he⟩:=zz110
 refine ⟨b,hb,?_⟩
 cases b with
 |true =>
  intro a h0
  have q:=q a (s.fresh h0)
  have f:=Fr.newT (S:=S) (u:=exH C a) (o:=.exk C) h0
  exact ⟨_,_,_,s.newT h0 (.exk aF),(c.fr f).set .ref i,q,(he.fr f).as i⟩
 |false=>exact ⟨S,σt,Dt,s,c,q,he⟩
theorem DC {body:List Stmt}{hd:ExceptHandler}{hs:List ExceptHandler}{wn:WS}{wr:WR}{wh:WH}(st:X.stack=X.env::X.outer/\X.env.frame=some X.env.locals) (hn:QSs K X.nox body wn) (hr:QRs K X body wr) (hh:QHn K X (hd::hs) wh) :
  QS K X (.Try body (hd::hs) [] [] pos) (n6 wn wr wh):=PS.of (AT st hn hr hh) λD σ H zz111=>by
 obtain ⟨S,σt,Dt,s,c,q,he⟩:=zz111
 rcases q with q|q
 ·exact .inl ⟨S,σt,Dt,s,c,q,he⟩
 ·exact .inr ⟨S,σt,_,s,c,q,λC σ' H' σt' S' f s' c' q'=>⟨rfl,S',σt',Dt,s',c',q',he.fr f⟩⟩
theorem d6 {σ:StT}{S:Sto}{D:EndsT}{C:Addr}{i:Nat}{w:Addr->WS}{r:WH}(e:PySem.W.exmOne K (.ref C) (.ref B)=some true) (h:∀ a,S a=none->w a (asE i D) (σ.set i (some (.ref a))) (put S a (.exk C))):vO K B i w r C D σ S:=⟨true,e,h⟩
end
structure XC (K:Fg) (C:Addr):Prop where
 kp:PySem.W.keepIn K (.ref C)=true
 get:PySem.W.XGet K C
 cl:(PySem.W.clsIn K C).isSome=true
 ca:PySem.W.findIn K (.ref C) "__class__"=some (some (.builtin "object.__class__"))
 cn:PySem.W.specialIn K (.builtin "object.__class__") "__get__"=some (some (.builtin "getset_descriptor.__get__"))
 ct:PySem.W.takesIn K (.builtin "object.__class__")=some true
 ob:PySem.W.mroIn K C (.type "object")=some true
theorem XC.of {K:Fg}{C:Addr}(h:eA K C=true):XC K C:=by
 simp only [eA,Bool.and_eq_true,beq_iff_eq] at h
 obtain ⟨⟨⟨⟨⟨⟨⟨⟨a,b⟩,c⟩,d⟩,e⟩,f⟩,g⟩,i⟩,j⟩:=h
 exact ⟨a,⟨b,c,d⟩,e,f,g,i,j⟩
section
variable {K:Fg}{X:Cx}{x:Str}{p:Pos}
theorem qG {x D:Addr}{ox:Obj}{od:Option Obj}(c:XC K D):PySem.W.KitX K (.ref x) (.ref D) (λh=>PySem.W.InstAt h x ox D od) where
 ty:=λ_ _ _ I=>I.type
 it:=λ_ _ X _=>by
  obtain ⟨cdD,hcD⟩:=Option.isSome_iff_exists.mp c.cl
  unfold PySem.W.clsIn at hcD
  split at hcD
  ·rename_i c' d' cd' sl' ho
   intro A' Q' E' s' k q
   unfold isType loadHead
   exact wpAny_bind (wpAny_loadPart (k _ _ (X _ _ ho)) (wpAny_pure q))
  ·cases hcD
 ne:=λh tp dd its n sl X htp=>by
  obtain ⟨cdD,hcD⟩:=Option.isSome_iff_exists.mp c.cl
  refine Bool.eq_false_iff.mpr λq=>?_
  have e:D=tp:=Value.ref.inj (beq_iff_eq.mp q)
  subst e
  unfold PySem.W.clsIn at hcD
  split at hcD
  ·rename_i c' d' cd' sl' ho
   have z:=(X _ _ ho).symm.trans htp
   cases z
  ·cases hcD
 ca:=λX I k=>PySem.W.xget_class c.get X I (PySem.W.findObj_class c.cl c.ca c.cn c.ct) c.ob k
def vP:T->Option Value
 |.ty n=>some (.type n)
 |.ref C=>some (.ref C)
 |_=>none
def vQ (K:Fg) (G:Addr->Prop):GC:=λts S Q=>∃ a C y c b,ts=[.ref a,y]/\S a=some (.exk C)/\G C/\vP y=some c/\PySem.W.kitOne K (.ref C) c=some b/\Q (.bl b) S
theorem nJ {G:Addr->Prop}(hK:X.K=K) (hG:∀ C,G C->XC K C):bw X (.builtin "isinstance") (lC K (vQ K G)):=by
 subst hK
 rintro pins s σ H xs us Q I r ⟨S,ts,Qt,sr,rs,hg,bh⟩
 obtain ⟨a,C,y,cv,b,rfl,ea,g,ey,ek,q⟩:=hg
 cases rs with
 |cons r1 l =>
  cases l with
  |cons r2 l2 =>
   cases l2
   cases r1
   obtain ⟨u1,u2,rfl,rr1,rr2⟩:=iF r
   obtain rfl:u1=Value.ref a:=rr1
   have eu:u2=cv:=by
    cases r2<;>first|cases ey|skip
    ·exact rr2
    ·exact rr2
   subst eu
   have fin:∀ tk,EP X pins σ Q (.bool b) { s with toks:=tk }:=λtk=>⟨.bl b,H,I.tok tk,rfl,bh _ H _ S .refl sr .bl q⟩
   cases sr a _ ea with
   |exk eh =>
    obtain ⟨oe,g0,hc,hd,vs,dv,_⟩:=(show aV X.prog X.w H s.heap a (exH C a) from I.hok a _ eh).1
    exact PySem.W.kia_one (qG (od:=none) (ox:=oe) (hG C g)) I.kIn ⟨g0,hc,by unfold PySem.W.notCls;rw [dv],by rw [hd];trivial⟩ ek (λz=>nomatch z) fin
theorem dP {G:Addr->Prop}{S:Sto}{Q:T->Sto->Prop}{a C:Addr}{y:T}{c:Value}{b:Bool}(h1:S a=some (.exk C)) (h2:G C) (h3:vP y=some c) (h4:PySem.W.kitOne K (.ref C) c=some b) (h:Q (.bl b) S):vQ K G [.ref a,y] S Q:=⟨a,C,y,c,b,rfl,h1,h2,h3,h4,h⟩
theorem DD {C:Addr}(hg:Gl X x) (hm:X.mg x=some (.ref C)) (hdb:(x==("__debug__":Str))=false:=by decide):PE X (.Name x p) (λ_ H Q=>Q (.ref C) H):=by
 intro pins s σ H Q I h
 exact cV I hg hm ⟨.ref C,H,I,rfl,h⟩ hdb
def vR (C:Addr):WE:=λ_ S Q=>Q (.ref C) S
theorem el {C:Addr}(hg:Gl X x) (hm:X.mg x=some (.ref C)) (hdb:(x==("__debug__":Str))=false:=by decide):QE K X (.Name x p) (vR C) :=
 PE.of (DD hg hm hdb) λσ H Q zz112=>by obtain ⟨S,σt,Qt,s,c,q,hq⟩:=zz112;exact hq _ H _ S .refl s .ref q
theorem F0 {C:Addr}{σ:StT}{S:Sto}{Q:T->Sto->Prop}(h:Q (.ref C) S):vR C σ S Q:=h
end
end T2
namespace L2
open PySem PySem.Spec PyProof.Rows
theorem DE {X:Cx}{tg e:Expr}{r:TR}{pos:Pos}(h:PRE X e r) (hs:swapsWithSole [tg] e pos.line X.env=pure false:=by rfl) (hw:swappedStores [tg] e X.env=pure none:=by rfl):PR X (.Assign [tg] e pos) r :=
 λpins s σ H R I q=>wpAny_Assign_stores (wpAny_mono (h pins s σ H R I q) (λ_ _ z=>z.elim) λ_ _ z=>z) hs hw
end L2
namespace T2
open PySem PySem.Spec PyProof.Rows L2
theorem DF {K:Fg}{X:Cx}{tg e:Expr}{r:WR}{pos:Pos}(h:QRE K X e r) (hs:swapsWithSole [tg] e pos.line X.env=pure false:=by rfl) (hw:swappedStores [tg] e X.env=pure none:=by rfl):QR K X (.Assign [tg] e pos) r:=DE h hs hw
end T2
set_option maxRecDepth 100000
namespace Xh
open PySem PyProof.Rows
def Hnd (A:Around) (h:Heap):Prop:=∃ a o vs,A.handled=some (.ref a)/\h.get? a=some o/\o.data=.fields vs/\vs[2]?=some .none
section
variable {prog:Program}{w:World}{A:Around}{E:Value->Shared->Prop}{s:Shared}{α:Type}{Q:α->Shared->Prop}
end
end Xh
namespace L2
open PySem PySem.Spec PyProof.Rows
section
variable {X:Cx}{a0:Addr}
end
structure TurnH (a0:Addr) (P:Program) (w:World) (K:PySem.W.Frag) (tg:Expr) (J:It) (fp:List Addr) (it:Addr) (tn:Nat->Heap->Prop):Prop where
 mem:it∈fp
 obj:∀ i h,tn i h->∀ b∈fp,∃ o,h.get? b=some o/\∀ v,o.data≠.cell v
 keep:∀ i h h',tn i h->(∀ b∈fp,∀ o,h.get? b=some o->h'.get? b=some o)->tn i h'
 item:∀ (X:Cx),X.prog=P->X.w=w->X.K=K->X.A.handled=some (.ref a0)->∀ (i:Nat) (pins:List (Addr×Obj)) (s:Shared) (σ:St) (H:Hp) (E:Value->Shared->Prop),Inv X pins σ H s->(∀ b∈fp,bN X pins H b)->tn i s.heap->J.go i H ->
  wpAny (model P w) X.A (pyNext (.ref it)) (λr s1=>∃ u,r=some u /\
   wpAny (model P w) X.A (letOwnedTupleGo tg (.ref it) u) (λ_ s2=>∃ x H',Inv X pins σ H' s2/\ao x u/\J.yld i H x H'/\tn (i+1) s2.heap/\∀ b∈fp,H' b=none) E s1) E s
 done:∀ (X:Cx),X.prog=P->X.w=w->X.K=K->X.A.handled=some (.ref a0)->∀ (i:Nat) (pins:List (Addr×Obj)) (s:Shared) (σ:St) (H:Hp) (E:Value->Shared->Prop),Inv X pins σ H s->(∀ b∈fp,bN X pins H b)->tn i s.heap->J.stop i H ->
  wpAny (model P w) X.A (pyNext (.ref it)) (λr s1=>r=none/\Inv X pins σ H s1) E s
 self:∀ (A:Around) (i:Nat) (s:Shared) (Q:Value->Shared->Prop) (E:Value->Shared->Prop),tn i s.heap->Q (.ref it) s->wpAny (model P w) A (pyIter (.ref it)) Q E s
def Hi (a0:Addr) (X:Cx) (pins:List (Addr×Obj)) (σ:St) (tg:Expr) (R:It->Hp->Prop) (itv:Value) (s2:Shared):Prop :=
 ∃ (it:Addr) (fp:List Addr) (tn:Nat->Heap->Prop) (J:It) (H':Hp),itv=.ref it/\Inv X pins σ H' s2/\TurnH a0 X.prog X.w X.K tg J fp it tn/\tn 0 s2.heap/\(∀ b∈fp,bN X pins H' b)/\R J H'
def PIH (a0:Addr) (X:Cx) (tg iter:Expr) (wi:TI):Prop :=
 ∀ (pins:List (Addr×Obj)) (s:Shared) (σ:St) (H:Hp) (R:It->Hp->Prop),Inv X pins σ H s->wi σ H R ->
  wpAny (model X.prog X.w) X.A (eval iter X.env) (λv s1=>wpAny (model X.prog X.w) X.A (pyIter v) (Hi a0 X pins σ tg R) X.xe s1) X.xe s
section
variable {X:Cx}{tg:Expr}{a0:Addr}
end
section
variable {a0:Addr}{X:Cx}{pins:List (Addr×Obj)}{σ:St}{H:Hp}{s:Shared}{scope:Scope}{Nc:List Str}{fp:List Addr}{C:Addr}
variable {elt iter target:Expr}{ifs:List Expr}{pos:Pos}{n:Nat}{caps:List Nat}{wi:TI}{g:TG}{tt:TT}{te:TE}
end
end L2
namespace T2
open PySem PySem.Spec PyProof.Rows L2
section
variable {K:Fg}{X:Cx}{tg:Expr}{a0:Addr}
end
end T2
namespace L2
open PySem PySem.Spec PyProof.Rows
structure RoomH (k:Nat) (A:Around):Prop where
 dp:A.depth+3 * k+5<recursionLimit
 un:A.units+16 * k+200<cLine
 gd:A.guards=some []
theorem Room.h {k:Nat}{A:Around}(r:Room k A):RoomH k A:=⟨r.dp,r.un,r.gd⟩
theorem RoomH.mark {k:Nat}{A:Around}{h:Option Value}(r:RoomH k A):RoomH k (A.mark h):=⟨r.dp,r.un,r.gd⟩
theorem RoomH.deeper {k:Nat}{A:Around}(r:RoomH (k+1) A) (env:Env):RoomH k (A.deeper env) :=
 ⟨by have:=r.dp;show A.depth+1+3 * k+5<_;omega,by have:=r.un;show A.units+3+16 * k+200<_;omega,r.gd⟩
theorem RoomH.depth {k:Nat}{A:Around}(r:RoomH k A):A.depth<recursionLimit:=by have:=r.dp;omega
abbrev e7 (CX:CXT) (P:Program) (w:World) (K:PySem.W.Frag) (mg:Str->Option Value) (base:Heap) (N:List Str) (qual:Str) (scope:Scope) (f:Addr) (cd:Value) (A:Around) (outer:List Env) (s:Shared) (H:Hp) (E:XK):Cx:={ cz CX P w K mg base N qual scope f cd A outer s H E with calm:=false }
structure FnOkH (P:Program) (w:World) (K:PySem.W.Frag) (mg:Str->Option Value) (base:Heap) (CX:CXT) (k:Nat) (f:Addr) (fd:FuncData) (ps:List Str) (sp:Sp):Prop where
 len:∀ vs H Q E,sp vs H Q E->vs.length=ps.length
 run:∀ (A:Around) (outer:List Env) (s:Shared) (H:Hp) (args:Args) (us:List Value) (vs:List V) (Q:VK) (E:XK),RoomH k A->Env0 P w K mg base A outer s H->BindsTo s fd args (ps.zip us)->aj vs us->sp vs H Q E ->
  codeAny (model P w) A (.call (.ref f) args) (CR CX outer P w H s Q E) s
section
variable {X:Cx}{CX:CXT}{k:Nat}{f C:Addr}{fd:FuncData}{ps:List Str}{sp:Sp}{dvs:List V}{ds:List Value}{E:XK}{x m:Str}{p pos apos:Pos}{e o:Expr}{es:List Expr}{ta:TE}{t:TA}
theorem AU {pins:List (Addr×Obj)}{σ:St}{H:Hp}{s:Shared}{Q:VK}{us:List Value}{vs:List V}(F:FnOkH X.prog X.w X.K X.mg X.base CX k f fd ps sp) (hr:RoomH k X.A) (hb:aq X.K fd ps ds) (hd:aj dvs ds) (hx:cC CX X E)
  (I:Inv X pins σ H s) (r:aj vs us) (h:sp (vs++dvs) H Q E):wpAny (model X.prog X.w) X.A (call (.ref f) us) (EP X pins σ Q) X.xe s:=by
 have r2:aj (vs++dvs) (us++ds):=r.append hd
 have hl:(us++ds).length=ps.length:=by rw [<- r2.length];exact F.len _ _ _ _ h
 refine wpAny_call (codeAny_mono (F.run X.A X.stack s H ⟨us,[]⟩ (us++ds) (vs++dvs) Q E hr I.env0 (hb s us I.kIn hl) r2 h) λr s' hq=>?_)
 cases r with
 |error e=>exact hx pins σ H s e s' I hq
 |ok fl =>
  cases fl with
  |ret u=>exact I.after hq
  |next=>exact False.elim hq
  |brk=>exact False.elim hq
  |cont=>exact False.elim hq
theorem y4 (F:FnOkH X.prog X.w X.K X.mg X.base CX k f fd ps sp) (hr:RoomH k X.A) (hg:Gl X x) (hm:X.mg x=some (.ref f)) (hk:PySem.W.keepIn X.K (.ref f)=true) (hb:aq X.K fd ps ds) (hd:aj dvs ds) (hx:cC CX X E)
  (ha:PA X (e::es) t) (hdb:(x==("__debug__":Str))=false:=by decide) (he:starEach (e::es) X.env=(false,eval e X.env)::starEach es X.env:=by rfl) (hpl:(backTo pos (starEach es X.env)).any (·.1)=false:=by rfl) :
  PE X (.Call (.Name x p) (e::es) [] pos) (gJ sp dvs E t):=by
 intro pins s σ H Q I h
 refine wpAny_Call_Name_kw (cV I hg hm ?_ hdb)
 refine PySem.W.callWith_K (h₀:=X.base) I.ok.mod.kin hk (thn (ha pos pins s σ H _ I h) λus s1 ⟨vs,H1,I1,r,q⟩=>⟨I1.kIn,?_⟩) he hpl
 exact AU F hr hb hd hx I1 r q
end
theorem wO {CX:CXT}{P:Program}{w:World}{K:PySem.W.Frag}{mg:Str->Option Value}{base:Heap}{N ps:List Str}{qual:Str}{scope:Scope}{f:Addr}{cd:Value}{A:Around}{outer:List Env}{s s1:Shared}{H:Hp}{E:XK}{us:List Value}{vs:List V}
  (S:FnScope N ps scope) (e0:Env0 P w K mg base A outer s H) (hl:vs.length=ps.length) (r:aj vs us)
  (x:InCallC s s.heap.objs.size (bindL (envOfC qual scope s.heap.objs.size f cd).kindOf (ps.zip us) λ_=>none) (cellsFrom (s.heap.objs.size+1) scope.names []) (bindC (envOfC qual scope s.heap.objs.size f cd).kindOf (ps.zip us) λ_=>none) s1) :
  Inv (e7 CX P w K mg base N qual scope f cd A outer s H E) [] (bd N vs) H s1:=by
 have hpl:ps.length<=N.length:=by have:=congrArg List.length S.pre;rw [List.length_take] at this;omega
 obtain ⟨h1,tk,rfl,hk⟩:=x.done
 have noA:∀ b:Addr,b∉(e7 CX P w K mg base N qual scope f cd A outer s H E).ex:=λb z=>absurd (show b∈([]:List Addr) from z) (by simp)
 refine ⟨⟨e0.mod,S.kind,rfl,rfl,Nat.le_refl _,λy z c h1 h2=>?_,λy hy=>?_,λy c _ h=>?_,(λz=>(nomatch z)),Around.frames_deeper e0.frames,.inr ⟨rfl,rfl⟩,λb z=>absurd z (noA b),e0.bs,e0.bsz,λb _ _=>noA b,λb z=>absurd z (noA b),e0.funs,e0.frf⟩,
  rfl,e0.bare,Un.kept hk,⟨_,x.toInCall.ns,λi y v h1 h2 h3=>?_⟩,λy c h=>⟨_,x.cell y c h⟩,e0.hok.fresh (Nat.le_refl _),λy c h=>?_,λp hp=>absurd (show p∈([]:List (Addr×Obj)) from hp) (by simp),e0.hok.kept hk,?_⟩
 ·exact name_of_addr x.apart (PySem.mem_of_lookup h1) (PySem.mem_of_lookup h2)
 ·have hy:scope.names.lookup y=some .cell\/scope.names.lookup y=some .free:=hy
  rcases hy with hy|hy
  ·exact jq hy
  ·exact absurd rfl (S.nofree _ (PySem.mem_of_lookup hy))
 ·exact Nat.le_of_lt (x.above y c (PySem.mem_of_lookup h))
 ·have hi:i<vs.length:=by
   unfold bd at h2
   by_cases hi:i<vs.length
   ·exact hi
   ·rw [List.getElem?_append_right (by simpa using hi)] at h2
    rw [List.getElem?_replicate] at h2
    split at h2<;>cases h2
  have ha:vs[i]?=some v:=by
   unfold bd at h2
   rw [List.getElem?_append_left (by simpa using hi),List.getElem?_map] at h2
   cases e:vs[i]? with
   |none=>rw [e] at h2;cases h2
   |some a=>rw [e] at h2;cases h2;rfl
  obtain ⟨u,hu,rv⟩:=r.get ha
  have hp:ps[i]?=some y:=by
   rw [<- S.pre,List.getElem?_take_of_lt (by omega)];exact h1
  have ndP:ps.Nodup:=by rw [<- S.pre];exact S.nd.sublist (List.take_sublist _ _)
  refine ⟨u,rv,?_⟩
  rcases S.par y (List.mem_of_getElem? hp) with k|k
  ·exact .inl ⟨k,kZ ndP hp hu k⟩
  ·obtain ⟨c,e⟩:=jq (n:=s.heap.objs.size+1) k
   refine .inr ⟨.inl k,c,e,?_⟩
   have q:=x.cell y c e
   rw [k6 ndP hp hu (by show scope.names.lookup y≠_;rw [k];decide)] at q
   exact q
 ·exact e0.hok.fresh (Nat.le_of_lt (x.above y c (PySem.mem_of_lookup h)))
 ·unfold bd
  show _=N.length
  rw [List.length_append,List.length_map,List.length_replicate]
  omega
theorem DG {CX:CXT}{P:Program}{w:World}{K:PySem.W.Frag}{mg:Str->Option Value}{base:Heap}{k:Nat}{f:Addr}{name qual:Str}{params:Arguments}{body:List Stmt}{scope:Scope}{dV kV doc pm cdv ct oc:Value}{an od:Option Addr}
  {osl:Array (Option Value)}{N ps:List Str}{sp:Sp}(lk:K.lookup f=some ⟨oc,od,.func (PySem.W.fnOf name qual params body scope dV kV doc pm an cdv ct),osl⟩) (hcd:PySem.W.codeIn K cdv qual=true) (S:FnScope N ps scope)
  (len:∀ vs H Q E,sp vs H Q E->vs.length=ps.length)
  (hbody:∀ (A:Around) (outer:List Env) (s:Shared) (H:Hp) (vs:List V) (Q:VK) (E:XK),RoomH k (A.deeper (envOfC qual scope s.heap.objs.size f cdv))->sp vs H Q E ->
   ∃ t,PSs (e7 CX P w K mg base N qual scope f cdv A outer s H E) body t/\t { nx:=λ_ H'=>Q .non H',rt:=Q } (bd N vs) H) :
  FnOkH P w K mg base CX (k+1) f (PySem.W.fnOf name qual params body scope dV kV doc pm an cdv ct) ps sp:=by
 refine ⟨len,λA outer s H args us vs Q E hr e0 hb r hsp=>?_⟩
 have hl:=len _ _ _ _ hsp
 have KX:K.In s.heap:=e0.mod.kin.keeps λb o e=>(e0.bs b o e).1
 have lim:s.heap.NoLimit:=e0.mod.nolimit.keeps λb o e=>(e0.bs b o e).1
 have hkind:∀ y∈ps.zip us,scope.names.lookup y.1=some .local\/(scope.names.lookup y.1=some .cell/\((cellsFrom (s.heap.objs.size+1) scope.names []).lookup y.1).isSome=true):=λzz113 hy=>by
  obtain ⟨n,v⟩:=zz113
  rcases S.par n (List.of_mem_zip hy).1 with q|q
  ·exact .inl q
  ·exact .inr ⟨q,PySem.W.cellsFrom_some _ _ _ (.inl q)⟩
 refine codeAny_call_function hr.depth (KX _ _ lk) rfl S.co S.gen rfl (PySem.W.codeRec_of KX hcd) (hb _ _ _ _ ?_)
 refine wpAny_newFunctionEnv_cells S.kind hkind λenv he s1 x=>?_
 subst he
 refine ⟨lim.keeps x.toInCall.keep,codeAny_func ?_⟩
 obtain ⟨t,ht,hq⟩:=hbody A outer s H vs Q E (hr.deeper _) hsp
 have I:Inv (e7 CX P w K mg base N qual scope f cdv A outer s H E) [] (bd N vs) H s1:=wO S e0 hl r x
 refine wpAny_mono (ht [] s1 (bd N vs) H _ I hq) (λfl s' hs=>?_) λe s' hs=>hs
 have fin:∀ {σ':St}{H':Hp}{v:V}{u:Value},Inv (e7 CX P w K mg base N qual scope f cdv A outer s H E) [] σ' H' s'->ao v u->Q v H'->CE outer P w H s Q u s' :=
  fun {σ' H' v u} J rv q=>⟨v,H',J.os,J.bare,J.base,J.hok,rv,q⟩
 cases fl with
 |ret u =>
  obtain ⟨v,σ',H',J,rv,q⟩:=hs
  exact fin J rv q
 |next =>
  obtain ⟨σ',H',J,q⟩:=hs
  exact fin (v:=V.non) (u:=Value.none) J rfl q
 |brk =>
  obtain ⟨_,_,_,q⟩:=hs
  exact False.elim q
 |cont =>
  obtain ⟨_,_,_,q⟩:=hs
  exact False.elim q
section
variable {P:Program}{w:World}{K:PySem.W.Frag}{mg:Str->Option Value}{base:Heap}
theorem Fun.okH {x qual:Str}{st:Stmt}{f:Addr}{fd:FuncData}{N ps:List Str}{k:Nat}{sp:Sp}(F:Fun K x qual st f fd) (S:FnScope N ps (ai st)) (len:∀ vs H Q E,sp vs H Q E->vs.length=ps.length)
  (hbody:∀ (cdv:Value) (A:Around) (outer:List Env) (s:Shared) (H:Hp) (vs:List V) (Q:VK) (E:XK),RoomH k (A.deeper (envOfC qual (ai st) s.heap.objs.size f cdv))->sp vs H Q E ->
   ∃ t,PSs (e7 CX0 P w K mg base N qual (ai st) f cdv A outer s H E).nox (am st) t/\t { nx:=λ_ H'=>Q .non H',rt:=Q } (bd N vs) H):FnOkH P w K mg base CX0 (k+1) f fd ps sp:=by
 obtain ⟨oc,od,kV,doc,pm,an,cdv,ct,osl,rfl,lk,hcd⟩:=F.ex
 refine DG lk hcd S len λA outer s H vs Q E hr hsp=>?_
 obtain ⟨t,h,q⟩:=hbody cdv A outer s H vs Q E hr hsp
 exact ⟨t,h.nox,q⟩
end
end L2
namespace T2
open PySem PySem.Spec PyProof.Rows L2
section
variable {P:Program}{w:World}{K:Fg}{mg:Str->Option Value}{base:Heap}
theorem AV {x qual:Str}{st:Stmt}{f:Addr}{fd:FuncData}{N ps:List Str}{k:Nat}{wsp:WSp}(F:Fun K x qual st f fd) (Sc:FnScope N ps (ai st)) (len:∀ ts S Q,wsp ts S Q->ts.length=ps.length)
  (hbody:∀ (cdv:Value) (A:Around) (outer:List Env) (s:Shared) (H:Hp) (E:XK),RoomH k (A.deeper (envOfC qual (ai st) s.heap.objs.size f cdv)) ->
   ∃ u,QSs K (e7 CX0 P w K mg base N qual (ai st) f cdv A outer s H E).nox (am st) u/\∀ ts S Q,wsp ts S Q->u { nx:=λ_ S'=>Fin Q .non S',rt:=Fin Q } (cq N ts) S):FnOkH P w K mg base CX0 (k+1) f fd ps (lSp K wsp):=by
 refine Fun.okH F Sc (λvs H Q E ⟨S,ts,Qt,s,r,q,_⟩=>by rw [r.length];exact len _ _ _ q) λcdv A outer s H vs Q E hr ⟨S,ts,Qt,sr,r,q,b⟩=>?_
 obtain ⟨u,hu,hq⟩:=hbody cdv A outer s H E hr
 refine ⟨_,hu,S,cq N ts,_,sr,jo r,hq ts S Qt q,⟨λ_ H' _ S' f s' _ q'=>Fin.ends b f s' .non q',λv H' t S' f s' r' q'=>Fin.ends b f s' r' q',λ_ _ _ _ _ _ _ q'=>q'.elim,λ_ _ _ _ _ _ _ q'=>q'.elim⟩⟩
end
section
variable {K:Fg}{X:Cx}{k:Nat}{f:Addr}{fd:FuncData}{ps:List Str}{wsp:WSp}{x m:Str}{p pos apos cpos:Pos}{e o:Expr}{es:List Expr}{wa wb:WE}{wr:WA}{id ty:String}{g:GC}{gm:GM}{i:Nat}
theorem AW (F:FnOkH X.prog X.w X.K X.mg X.base CX0 k f fd ps (lSp K wsp)) (D:Df X.K X.mg x f fd ps) (hr:RoomH k X.A) (hg:Gl X x) (ha:QA K X (e::es) wr)
  (hdb:(x==("__debug__":Str))=false:=by decide) (he:starEach (e::es) X.env=(false,eval e X.env)::starEach es X.env:=by rfl) (hpl:(backTo pos (starEach es X.env)).any (·.1)=false:=by rfl) :
  QE K X (.Call (.Name x p) (e::es) [] pos) (eW wsp [] wr):=sV (dvs:=[]) (λ_ _=>.nil) (y4 F hr hg D.hm D.kp D.b .nil dJ ha hdb he hpl)
end
section
variable {K:Fg}{X:Cx}
theorem rW {H:Hp}{S:Sto}:∀ {ys:List Addr}{vs:List V},Rps K H S (ys.map T.ref) vs->vs=ys.map V.ref
 |[],_,.nil=>rfl
 |_::_,_,.cons .ref r=>by rw [rW r];rfl
theorem qd:∀ {ys:List Addr}{us:List Value},aj (ys.map V.ref) us->us=ys.map Value.ref
 |[],_,.nil=>rfl
 |y::_,_,.cons h r=>by rw [qd r,show _=Value.ref y from h];rfl
def uU (K:Fg) (G:Addr->Prop):GC:=λts S Q=>∃ (a C:Addr) (ys:List Addr) (b:Bool),ts=[.ref a,.tup (ys.map T.ref)]/\S a=some (.exk C)/\G C/\PySem.W.kitAny K (.ref C) (ys.map Value.ref)=some b/\Q (.bl b) S
theorem DH {G:Addr->Prop}(hK:X.K=K) (hG:∀ C,G C->XC K C):bw X (.builtin "isinstance") (lC K (uU K G)):=by
 subst hK
 rintro pins s σ H xs us Q I r ⟨S,ts,Qt,sr,rs,hg,bh⟩
 obtain ⟨a,C,ys,b,rfl,ea,g,ek,q⟩:=hg
 cases rs with
 |cons r1 l =>
  cases l with
  |cons r2 l2 =>
   cases l2
   cases r1
   cases r2 with
   |tup hn hp rr =>
    obtain ⟨u1,u2,rfl,rr1,rr2⟩:=iF r
    obtain rfl:u1=Value.ref a:=rr1
    cases rr2
    obtain ⟨its,rv,ht,hz⟩:=I.tuple (SqT.of hp)
    rw [rW rr] at rv
    obtain rfl:=qd rv
    obtain ⟨⟨oc,dd,od,sl⟩,htp,hc,n,hd⟩:=ht
    simp only at hc hd
    subst hc hd
    have fin:∀ tk,EP X pins σ Q (.bool b) { s with toks:=tk }:=λtk=>⟨.bl b,H,I.tok tk,rfl,bh _ H _ S .refl sr .bl q⟩
    cases sr a _ ea with
    |exk eh =>
     obtain ⟨oe,g0,hc,hd,vs,dv,_⟩:=(show aV X.prog X.w H s.heap a (exH C a) from I.hok a _ eh).1
     exact PySem.W.kia_tup (qG (od:=none) (ox:=oe) (hG C g)) I.kIn ⟨g0,hc,by unfold PySem.W.notCls;rw [dv],by rw [hd];trivial⟩ htp ek (λz=>nomatch z) fin
theorem mV {G:Addr->Prop}{S:Sto}{Q:T->Sto->Prop}{a C:Addr}{ys:List Addr}{b:Bool}(h1:S a=some (.exk C)) (h2:G C) (h4:PySem.W.kitAny K (.ref C) (ys.map Value.ref)=some b) (h:Q (.bl b) S):uU K G [.ref a,.tup (ys.map T.ref)] S Q:=⟨a,C,ys,b,rfl,h1,h2,h4,h⟩
end
section
variable {K:Fg}{X:Cx}{k:Nat}{f C:Addr}{fd:FuncData}{ps:List Str}{wsp:WSp}{wsr:bL}{x m fl:Str}{p pos apos cpos pos':Pos}{e o value:Expr}{es:List Expr}{wa wv:WE}{wr:WA}{G:Addr->Prop}{i:Int}{tk:Tok}
theorem y6 {pl:Sem Bool}(hG:∀ C,G C->Cls X.K C/\Meth X.K C m f) (F:FnOk X.prog X.w X.K X.mg X.base CX0 k f fd ps (lSp K wsp)) (hb:aq X.K fd ps [.int i tk]) (hr:Room k X.A) (ho:QE K X o wa)
  (ht:eval (.Call (.Attribute o m apos) [] [] pos) X.env=(do
   let ov <- eval o X.env
   standAt apos.atName
   let (f,first) <- holding [ov] (getMethod ov m pl)
   callWith pos f first (backTo pos (starEach [] X.env)) (backToKw pos (keywordEach [] X.env))):=by rfl) :
  QE K X (.Call (.Attribute o m apos) [] [] pos) (dL G m wsp [.int i] wa b7):=qY (dvs:=[.int i]) (λ_ _=>.cons .int .nil) (pX (pl:=pl) ho hG F hr hb (.cons ⟨tk,rfl⟩ .nil) dJ ht)
theorem AX {pl:Sem Bool}(hG:∀ C,G C->Cls X.K C/\Meth X.K C m f) (F:FnOk X.prog X.w X.K X.mg X.base CX0 k f fd ps (lSp K wsp)) (hb:aq X.K fd ps [.int i tk]) (hr:Room k X.A) (ho:QE K X o wa) (ha:QA K X (e::es) wr)
  (hst:starEach (e::es) X.env=(false,eval e X.env)::starEach es X.env:=by rfl) (hpl:(backTo pos (starEach es X.env)).any (·.1)=false:=by rfl)
  (ht:eval (.Call (.Attribute o m apos) (e::es) [] pos) X.env=(do
   let ov <- eval o X.env
   standAt apos.atName
   let (f,first) <- holding [ov] (getMethod ov m pl)
   callWith pos f first (backTo pos (starEach (e::es) X.env)) (backToKw pos (keywordEach [] X.env))):=by rfl) :
  QE K X (.Call (.Attribute o m apos) (e::es) [] pos) (dL G m wsp [.int i] wa wr):=sW (dvs:=[.int i]) (λ_ _=>.cons .int .nil) (qq (pl:=pl) ho hG F hr hb (.cons ⟨tk,rfl⟩ .nil) dJ ha hst hpl ht)
def rX (G:Addr->Prop) (m:Str) (i:Int) (wsp:bL) (wa:WE) (wr:WA):WR:=λσ S R=>wa σ S λx S1=>∃ a C fs,x=.ref a/\S1 a=some (.ins C fs)/\G C/\fs.lookup m=none/\wr σ S1 λts S2=>wsp (x::(ts++[.int i])) S2 λC S'=>R C σ S'
theorem y7 {pl:Sem Bool}(hG:∀ C,G C->Cls X.K C/\Meth X.K C m f) (F:FnOk X.prog X.w X.K X.mg X.base (CX1 X.prog X.w) k f fd ps (bb K wsr)) (hb:aq X.K fd ps [.int i tk]) (hr:Room k X.A) (ho:QE K X.nox o wa) (ha:QA K X.nox (e::es) wr)
  (hst:starEach (e::es) X.env=(false,eval e X.env)::starEach es X.env:=by rfl) (hpl:(backTo pos (starEach es X.env)).any (·.1)=false:=by rfl)
  (ht:eval (.Call (.Attribute o m apos) (e::es) [] pos) X.env=(do
   let ov <- eval o X.env
   standAt apos.atName
   let (f,first) <- holding [ov] (getMethod ov m pl)
   callWith pos f first (backTo pos (starEach (e::es) X.env)) (backToKw pos (keywordEach [] X.env))):=by rfl) :
  QRE K X (.Call (.Attribute o m apos) (e::es) [] pos) (rX G m i wsr wa wr):=PRE.of (qF (pl:=pl) (dvs:=[.int i]) ho hG F hr hb (.cons ⟨tk,rfl⟩ .nil) ha hst hpl ht) λσ H R h=>by
 obtain ⟨S,σt,Rt,s,c,q,hq⟩:=h
 refine ⟨S,σt,_,s,c,q,λx H1 tx S1 f1 s1 r1 q1=>?_⟩
 obtain ⟨a,C,fs,rfl,ea,g,l,q1⟩:=q1
 cases r1
 cases s1 a _ ea with
 |ins eh pr =>
  refine ⟨a,C,_,_,rfl,eh,g,bO pr l,S1,σt,_,s1,c.fr f1,q1,λvs H2 ts S2 f2 s2 r2 q2=>?_⟩
  exact ⟨S2,_,_,s2,.cons .ref (r2.append (.cons .int .nil)),q2,λC H' S' f s' q'=>⟨C,rfl,hq C σ H' σt S' ((f1.trans f2).trans f) s' (c.fr ((f1.trans f2).trans f)) q'⟩⟩
theorem AY {σ:StT}{S:Sto}{R:WX}(h:wa σ S λx S1=>∃ a C fs,x=.ref a/\S1 a=some (.ins C fs)/\G C/\fs.lookup m=none/\wr σ S1 λts S2=>wsr (x::(ts++[.int i])) S2 λC S'=>R C σ S'):rX G m i wsr wa wr σ S R:=h
end
end T2
namespace L2
open PySem PySem.Spec PyProof.Rows
section
variable {X:Cx}{pos p2 p3:Pos}{value:Expr}{tv:TE}{s2:Str}{k3:Nat}
structure Tng (d:PyData):Prop where
 sh:PyData.showable d=true
 nd:PyData.hasDict d=false
 dp:PyData.depth d<=60
 sz:(PyData.shown d).length<=10002
theorem AZ {pins:List (Addr×Obj)}{σ:St}{H:Hp}{s:Shared}{v:V}{u:Value}{A:Around}{E:Value->Shared->Prop}{d:PyData}{Q:Value->Shared->Prop}(hg:A.guards=some []) (hu:A.units+64<cLine) (I:Inv X pins σ H s) (hd:DatV X.K H v d) (ru:ao v u) (t:Tng d)
  (h:∀ y t s',Str.length y<=10002->Inv X pins σ H s'->Q (.str y t) s'):wpAny (model X.prog X.w) A (pyReprObj u) Q E s:=by
 obtain ⟨as,ra⟩:=dW I hd ru
 have hsz:=t.sz
 have hdp:=t.dp
 have hz:(PyData.shown d).length<=sizeLine:=by rw [sizeLine_eq];omega
 cases hd with
 |non=>obtain rfl:=(show u=Value.none from ru);exact pyReprObj_none (h _ _ _ (by decide) (I.tok _))
 |bl b=>obtain rfl:=(show u=Value.bool b from ru);exact pyReprObj_bool (h _ _ _ (by cases b<;>decide) (I.tok _))
 |int i =>
  obtain ⟨t',rfl⟩:=(show ∃ t,u=Value.int i t from ru)
  exact pyReprObj_int (by have:=t.sh;simpa [PyData.showable] using this) (h _ _ _ hsz (I.tok _))
 |str z =>
  obtain ⟨t',rfl⟩:=(show ∃ t,u=Value.str z t from ru)
  exact pyReprObj_str (h _ _ _ hsz (I.tok _)) hz
 |lst hq hss =>
  obtain rfl:=(show u=Value.ref _ from ru)
  exact pyReprObj_of_reads ra t.sh (PyData.noDict_hsm t.nd) hg (by omega) (λ_ _ e=>e) (λh' u tk hk=>h _ _ _ hsz (I.kept (t':=tk) hk)) hz
 |tup hq hss =>
  obtain rfl:=(show u=Value.ref _ from ru)
  exact pyReprObj_of_reads ra t.sh (PyData.noDict_hsm t.nd) hg (by omega) (λ_ _ e=>e) (λh' u tk hk=>h _ _ _ hsz (I.kept (t':=tk) hk)) hz
def Hj (K:PySem.W.Frag) (tv:TE):TE:=λσ H Q=>tv σ H λx H1=>(∃ d,DatV K H1 x d/\Tng d)/\∀ y,Q (.str y) H1
theorem DI (hg:X.A.guards=some []) (hu:X.A.units+64<cLine) (hv:PE X value tv) (h2:s2.length<=1000):PE X (.JoinedStr [.FormattedValue value 114 none p2,.Constant (.str s2) k3 p3] pos) (Hj X.K tv):=by
 intro pins s σ H Q I h
 refine JoinedStr_many (joinParts_cons ?_)
 show wpAny (model X.prog X.w) X.A (do let v <- eval value X.env;standAt p2;formatted p2 (<- holding [v] (converted 114 v)) none) _ _ s
 refine wpAny_bind (thn (hv pins s σ H _ I h) λu sa zz114=>?_)
 obtain ⟨x,H1,I1,rx,⟨d,hd,ht⟩,q⟩:=zz114
 refine wpAny_bind (wpAny_standAt (wpAny_bind (wpAny_holding ?_)))
 show wpAny _ _ (pyReprObj u) _ _ _
 refine AZ hg hu I1 hd rx ht λz t1 sb hz I2=>formatField_str (λt' tk=>?_) (by rw [sizeLine_eq];omega)
 have l0:(Str.empty++z).length<=10002:=by rw [PySem.Str.length_append];exact (by simpa [Str.empty,PySem.Str.length] using hz)
 refine ⟨by rw [sizeLine_eq];omega,?_⟩
 refine joinParts_cons (thn (eN pins _ σ H1 (λv H2=>v=.str s2/\H2=H1) (I2.tok _) ⟨rfl,rfl⟩) λu3 sc zz115=>?_)
 obtain ⟨v,H3,I3,ru3,ev,eH⟩:=zz115
 subst ev eH
 obtain ⟨t3,rfl⟩:=(show ∃ t,u3=Value.str s2 t from ru3)
 have lz:(Str.empty++z++s2).length<=sizeLine:=by rw [PySem.Str.length_append,sizeLine_eq];omega
 exact ⟨lz,joinParts_nil (show EP X pins σ Q _ _ from ⟨.str (Str.empty++z++s2),_,I3.tok _,⟨_,rfl⟩,q _⟩) lz⟩
end
end L2
namespace T2
open PySem PySem.Spec PyProof.Rows L2
section
variable {K:Fg}{X:Cx}{pos p2 p3:Pos}{value:Expr}{wv:WE}{s2:Str}{k3:Nat}
def vS (wv:WE):WE:=λσ S Q=>wv σ S λx S1=>(∃ d,a7 S1 x=some d/\Tng d)/\∀ y,Q (.str y) S1
theorem e8 (hK:X.K=K) (hg:X.A.guards=some []) (hu:X.A.units+64<cLine) (hv:QE K X value wv) (h2:s2.length<=1000:=by decide):QE K X (.JoinedStr [.FormattedValue value 114 none p2,.Constant (.str s2) k3 p3] pos) (vS wv):=by
 subst hK
 exact PE.of (DI hg hu hv h2) λσ H Q zz116=>by
  obtain ⟨S,σt,Qt,s,c,q,hq⟩:=zz116
  refine ⟨S,σt,_,s,c,q,λx H1 tx S1 f1 s1 r1 q1=>?_⟩
  obtain ⟨⟨d,hd,ht⟩,q1⟩:=q1
  exact ⟨⟨d,gq s1 r1 hd,ht⟩,λy=>hq _ H1 _ S1 f1 s1 .str (q1 y)⟩
theorem F6 {σ:StT}{S:Sto}{Q:T->Sto->Prop}(h:wv σ S λx S1=>(∃ d,a7 S1 x=some d/\Tng d)/\∀ y,Q (.str y) S1):vS wv σ S Q:=h
end
end T2
namespace As
open PySem T2
variable {α β:Type}
def kt (f:α->T) (l:List (Str×α)):List (L2.Key×T):=l.map λa=>(Sum.inr a.1,f a.2)
def look (l:List (Str×α)) (z:Str):Option α:=(l.find? λa=>decide (a.1=z)).map (·.2)
def pu (l:List (Str×α)) (z:Str) (x:α):List (Str×α):=if (l.any λa=>decide (a.1=z))=true then l.map (λa=>if a.1=z then (a.1,x) else a) else l++[(z,x)]
def dr (l:List (Str×α)) (z:Str):List (Str×α):=l.filter λa=>decide (a.1≠z)
theorem aR (f:α->T) (z:Str):∀ l:List (Str×α),aO (kt f l) (Sum.inr z)=(look l z).map f
 |[]=>rfl
 |a::l=>by
  have ih:=aR f z l
  unfold aO kt look at *
  rw [List.map_cons,List.find?_cons,List.find?_cons]
  by_cases e:a.1=z
  ·simp [e]
  ·have e2:¬ (Sum.inr a.1:L2.Key)=Sum.inr z:=λq=>e (Sum.inr.inj q)
   simp only [e,e2,decide_false]
   exact ih
theorem tX (f:α->T) (z:Str):∀ l:List (Str×α),((kt f l).any λkv=>decide (kv.1=Sum.inr z))=l.any λa=>decide (a.1=z)
 |[]=>rfl
 |a::l=>by
  have ih:=tX f z l
  unfold kt at *
  rw [List.map_cons,List.any_cons,List.any_cons,ih]
  congr 1
  rw [Bool.eq_iff_iff]
  simp
theorem d7 (f:α->T) (l:List (Str×α)) (z:Str) (x:α):eZ (kt f l) (Sum.inr z) (f x)=kt f (pu l z x):=by
 unfold eZ pu
 rw [tX]
 split
 ·unfold kt
  rw [List.map_map,List.map_map]
  refine List.map_congr_left λa _=>?_
  by_cases e:a.1=z
  ·simp [e]
  ·have e2:¬ (Sum.inr a.1:L2.Key)=Sum.inr z:=λq=>e (Sum.inr.inj q)
   simp [e]
 ·unfold kt;simp
theorem jI (f:α->T) (l:List (Str×α)) (z:Str):gP (kt f l) (Sum.inr z)=kt f (dr l z):=by
 unfold gP dr kt
 rw [List.filter_map]
 congr 1
 refine List.filter_congr λa _=>?_
 rw [Bool.eq_iff_iff]
 simp
theorem ig {l:List (Str×α)}{z:Str}{x:α}(h:look l z=some x):(z,x)∈l:=by
 unfold look at h
 rw [Option.map_eq_some_iff] at h
 obtain ⟨a,h1,h2⟩:=h
 have h3:=List.find?_some h1
 have h4:=List.mem_of_find?_eq_some h1
 simp only [decide_eq_true_eq] at h3
 rw [<- h3,<- h2];exact h4
theorem rY {l:List (Str×α)}(hn:(l.map (·.1)).Nodup){a:Str×α}(h:a∈l):look l a.1=some a.2:=by
 induction l with
 |nil=>cases h
 |cons b l ih =>
  rw [List.map_cons,List.nodup_cons] at hn
  unfold look
  rw [List.find?_cons]
  rcases List.mem_cons.mp h with rfl|h
  ·simp
  ·rw [decide_eq_false (λe=>hn.1 (by rw [e];exact List.mem_map_of_mem h))]
   exact ih hn.2 h
theorem bO {l:List (Str×α)}{z:Str}:look l z=none ↔ z∉l.map (·.1):=by
 unfold look
 rw [Option.map_eq_none_iff,List.find?_eq_none]
 constructor
 ·intro h hm
  obtain ⟨a,ha,e⟩:=List.mem_map.mp hm
  exact h a ha (by simp [e])
 ·intro h a ha e
  exact h (by rw [<- of_decide_eq_true e];exact List.mem_map_of_mem ha)
theorem iE {l:List (Str×α)}{z:Str}(x:α) (h:z∉l.map (·.1)):pu l z x=l++[(z,x)]:=by
 unfold pu
 rw [if_neg]
 intro e
 rw [List.any_eq_true] at e
 obtain ⟨a,ha,e⟩:=e
 exact h (by rw [<- of_decide_eq_true e];exact List.mem_map_of_mem ha)
theorem rZ {l:List (Str×α)}{z:Str}(x:α) (h:z∈l.map (·.1)):(pu l z x).map (·.1)=l.map (·.1):=by
 unfold pu
 rw [if_pos (by
  obtain ⟨a,ha,e⟩:=List.mem_map.mp h
  exact List.any_eq_true.mpr ⟨a,ha,by simp [e]⟩),List.map_map]
 refine List.map_congr_left λa _=>?_
 by_cases e:a.1=z<;>simp [e]
theorem A1 (l:List (Str×α)) (z:Str):(dr l z).map (·.1)=(l.map (·.1)).filter λy=>decide (y≠z):=by
 unfold dr
 rw [List.filter_map];rfl
theorem mW {l:List (Str×α)}{z:Str}{x:α}{a:Str×α}(h:a∈pu l z x):a∈l\/a=(z,x):=by
 unfold pu at h
 split at h
 ·obtain ⟨b,hb,e⟩:=List.mem_map.mp h
  by_cases q:b.1=z
  ·rw [if_pos q] at e;exact .inr (by rw [<- e,q])
  ·rw [if_neg q] at e;exact .inl (e ▸ hb)
 ·rcases List.mem_append.mp h with h|h
  ·exact .inl h
  ·exact .inr (List.mem_singleton.mp h)
theorem cE (f:α->T) (l:List (Str×α)):(kt f l).length=l.length:=by unfold kt;rw [List.length_map]
def wrt (m:Int×Int) (now:Int):Int:=m.1 / 2 ^ (now - m.2).toNat
def mkT (m:Int×Int):T:=.tup [.int m.1,.int m.2]
end As
set_option maxRecDepth 100000
seal T2.QE T2.QT T2.QW T2.QA T2.QS T2.QSs T2.QG T2.QGs T2.QI T2.QTs T2.QO L2.PE L2.PT L2.PA L2.PS L2.PSs L2.PG L2.PGs L2.PI L2.PTs L2.PO L2.PW
namespace My
open PySem L2 T2
set_option hygiene false
local macro_rules
 | `(tactic|nofun)=>`(tactic|exact ⟨rfl,rfl,rfl,by decide +kernel,rfl,by decide +kernel,by decide +kernel⟩)
local macro_rules
 | `(tactic|subst_eqs)=>`(tactic|simp only [Option.isSome_none,Option.isSome_some,Bool.true_xor,Bool.false_xor,Bool.not_false,Bool.not_true])
local macro_rules
 | `(tactic|and_intros)=>`(tactic|simp only [List.set_cons_zero,List.set_cons_succ])
local macro_rules
 |`(tactic| ac_nf)=>`(tactic| simp only [cq,List.map_cons,List.map_nil,List.length_cons,List.length_nil,List.replicate,List.cons_append,List.nil_append,Nat.zero_add,Nat.reduceAdd,Nat.reduceSub])
local macro_rules
 |`(tactic| ac_rfl)=>`(tactic| (first|(with_reducible assumption)|with_reducible exact aC|exact (aE (by assumption)).trans (by assumption)|exact (aE (by assumption)).trans aC|exact (aE (Ne.symm (by assumption))).trans aC|exact (aE (Ne.symm (by assumption))).trans (by assumption)))
local macro_rules
 |`(tactic| infer_instance)=>`(tactic| (first|omega|(with_reducible assumption)|((with_reducible apply Int.emod_nonneg);omega)|((with_reducible apply Int.emod_lt_of_pos);omega)|(simp only [Int.reduceToNat,Int.reducePow];omega)|(simp only [PySem.Str.length_append];omega)|(simp only [List.length_range,List.length_map];omega)))
local macro_rules
 |`(tactic| contradiction)=>`(tactic| (first|(simp only [PySem.sizeLine_eq,PySem.Str.length_append,Tm.rK,Tm.h8,Tm.xC];omega)|(rw [PySem.sizeLine_eq];omega)|(rw [PySem.sizeLine_eq];decide)))
local macro_rules
 |`(tactic| bv_omega)=>`(tactic| (repeat (first
   |(with_reducible first|apply EV|apply CD|apply CF|apply EW|apply EX|apply EY|apply GP|apply Ah|apply CG|apply EZ|apply i_C|apply i_2|apply i_B|apply GR|apply Ai|apply E1|apply GT|apply E2|apply CH|apply CI|apply CJ|apply GU|apply E3|apply CK|apply E4|apply E5|apply CL|apply CM|apply GV|apply GW|apply E6|apply GY|apply GZ|apply G0|apply CN|apply CO|apply G6|apply E7|apply G7|apply E8|apply CP|apply Ff|apply Fh|apply Fi|apply Fj|apply Fk|apply Fl|apply Fm|apply G8|apply FC|apply uJ|apply Fq|apply CW|apply Fv|apply yC|apply Fz|apply FB|apply ifT|apply ifF|apply G'|apply Ha|apply CT)
   |((with_reducible apply uH);((with_reducible assumption)))
   |((with_reducible apply gQ);(ac_rfl;rfl;first|exact F7|exact F8|exact F9))
   |((with_reducible apply y8);(infer_instance;infer_instance;infer_instance))
   |((with_reducible apply FI);(skip))
   |((with_reducible apply A2);(infer_instance;infer_instance;assumption;infer_instance;intro r o' hr0 hr1 hfd))
   |((with_reducible apply DJ);(infer_instance;infer_instance;ac_rfl;assumption;infer_instance;intro r o' hr0 hr1 hfd))
   |((with_reducible apply A3);((with_reducible assumption);infer_instance;assumption;(with_reducible assumption);infer_instance;ac_rfl;assumption;infer_instance;intro z o' hzw hfd))
   |((with_reducible apply A4);(infer_instance;assumption;assumption;infer_instance;intro z o' hzp hfd))
   |((with_reducible apply F');(infer_instance;intro b hfit))
   |((with_reducible apply DK);(infer_instance;intro fe o hp0 hf0))
   |((with_reducible apply dN);(rfl;first|exact T.ss|exact T.ll))
   |((with_reducible apply DL);(infer_instance))
   |((with_reducible apply A5);(infer_instance))
   |((with_reducible apply y9);(infer_instance))
   |((with_reducible apply y');(skip))
   |((with_reducible apply FQ);(ac_rfl))
   |((with_reducible apply Hf);(ac_rfl))
   |((with_reducible apply yR);(ac_rfl;(simp only [List.length_cons,List.length_nil];decide)))
   |((with_reducible apply AI);(ac_rfl;rfl;rfl))
   |((with_reducible apply mR);(ac_rfl;rfl;(simp only [List.length_cons,List.length_nil];decide)))
   |((with_reducible apply FO);(ac_rfl;rfl;rfl))
   |((with_reducible apply Dk);(ac_rfl;rfl;rfl))
   |((with_reducible apply F0);(skip))
   |((with_reducible apply AR);(skip))
   |((with_reducible apply AY);(skip))
   |((with_reducible apply Dy);(skip))
   |((with_reducible apply kE);(skip))
   |((with_reducible apply jY);(skip))
   |((with_reducible apply F6);(skip))
   |((with_reducible apply AM);(skip))
   |((with_reducible apply AL);(skip))
   |((with_reducible apply Hd);(skip))
   |((with_reducible apply He);(skip))
   |((with_reducible apply Dm);(skip))
   |((with_reducible apply FP);(skip))
   |((with_reducible apply AH);(skip))
   |((with_reducible apply Dl);(skip))
   |((with_reducible apply FN);(skip))
   |((with_reducible apply Dj);(skip))
   |((with_reducible apply Di);(skip))
   |((with_reducible apply i_V);(rfl))
   |((with_reducible apply nD);(((try and_intros);rfl)))
   |((with_reducible apply GQ);(rfl))
   |((with_reducible apply uG);(rfl))
   |((with_reducible apply uH);(rfl))
   |((with_reducible apply uI);(ac_rfl;rfl))
   |((with_reducible apply Aj);(rfl;(simp only [List.length_cons,List.length_nil];decide);((try and_intros);rfl)))
   |((with_reducible apply CV);(ac_rfl;rfl;(simp only [List.length_cons,List.length_nil];decide);((try and_intros);rfl)))
   |((with_reducible apply Fa);(infer_instance))
   |((with_reducible apply E9);(infer_instance;infer_instance))
   |((with_reducible apply Fc);(decide;decide;decide))
   |((with_reducible apply CS);(first|exact .inl ⟨by first|omega|decide,by first|omega|decide⟩|exact .inr ⟨by first|omega|decide,by first|omega|decide⟩))
   |((with_reducible apply Fs);(infer_instance;infer_instance;intro z hz ez))
   |((with_reducible apply Fe);(infer_instance))
   |((with_reducible apply CQ);(contradiction))
   |((with_reducible apply Fo);(contradiction))
   |((with_reducible apply tq);(contradiction))
   |((with_reducible apply Al);(decide;infer_instance))
   |((with_reducible apply FD);(infer_instance;infer_instance))
   |((with_reducible apply C2);(ac_rfl))
   |((with_reducible apply An);(ac_rfl))
   |((with_reducible apply CY);(ac_rfl))
   |((with_reducible apply CU);(ac_rfl;infer_instance;infer_instance;intro z hz ez))
   |((with_reducible apply C0);(contradiction;infer_instance;infer_instance;intro d hd ed))
   |((with_reducible apply FA);(ac_rfl))
   |((with_reducible apply Ft);(rfl;rfl))
   |((with_reducible apply G9 (n:=0));((first|decide|(simp only [List.length_cons,List.length_nil];decide)))))))
set_option hygiene true
open Rk S6 As
structure Zs where
 (N T A E B1 B2 B3 B4 B5:Addr)
abbrev vv0:List Str:=["self","word"]
abbrev vv1:List Str:=["_law_feed_here","_law_many"]
abbrev vv2:List Str:=["self","word","count"]
abbrev vv3:List Str:=["self","word","times"]
abbrev vv4:List Str:=["_law_layers","_law_way","_law_word_here","_law_number"]
abbrev vv5:List Str:=["_law_feed_here","_law_layers","_law_models","_law_which","_law_words_here"]
abbrev vv6:List Str:=["_law_models","_law_which","_law_way","_law_word_here","_law_number"]
abbrev vv7:List Str:=["self","beginning"]
abbrev vv8:List Str:=["_law_feed_here","_law_words_here","_law_letters"]
abbrev vv9:List Str:=["self"]
abbrev gX:List Str:=["_law_count_here","_law_times"]
abbrev cJ:List Str:=["self","times"]
abbrev dR:List Str:=["_law_feed_here"]
abbrev kF:List Str:=["_law_models","_law_which","_law_text"]
abbrev iW:List Str:=["_law_found","_law_due_here"]
abbrev iX:List Str:=["self","beginning","many"]
abbrev kG:List Str:=["_law_feed_here","_law_letters"]
abbrev gY:List Str:=["mark","era","times"]
abbrev kH:List Str:=["_law_layers","_law_word_here"]
abbrev vv19:List Str:=["word","mark","self","beginning"]
abbrev fh:List Str:=["mark","era"]
abbrev vv21:List Str:=["_law_word_here","_law_worth"]
abbrev vv22:List Str:=["_law_worth","_law_word_here"]
abbrev gZ:List Str:=["_law_script"]
abbrev g5:List Str:=["_law_model"]
abbrev iY:List Str:=["rated","many"]
abbrev iZ:List Str:=["self","house"]
abbrev kI:List Str:=["_law_rated_here"]
structure Txt (K:PySem.W.Frag) (mg:Str->Option Value) (C L:Addr) (Z:Zs):Prop where
 len:mg "len"=none
 range:mg "range"=none
 all:mg "all"=none
 max:mg "max"=none
 min:mg "min"=none
 sorted:mg "sorted"=none
 isinstance:mg "isinstance"=none
 str:mg "str"=none
 list:mg "list"=none
 repr:mg "repr"=none
 ss:PySem.W.kitOne K (.type "str") (.type "str")=some true
 ll:PySem.W.kitOne K (.type "list") (.type "list")=some true
 ns:PySem.W.kitOne K (.type "NoneType") (.type "str")=some false
 bs:PySem.W.kitOne K (.type "bool") (.type "str")=some false
 is:PySem.W.kitOne K (.type "int") (.type "str")=some false
 ls:PySem.W.kitOne K (.type "list") (.type "str")=some false
 ts:PySem.W.kitOne K (.type "tuple") (.type "str")=some false
 c_MOST_SIGNS:∃ tk,mg "MOST_SIGNS"=some (.int 24 tk)
 c_MOST_PARTS:∃ tk,mg "MOST_PARTS"=some (.int 4 tk)
 c_MOST_LETTERS:∃ tk,mg "MOST_LETTERS"=some (.int 12 tk)
 mg_Wood:mg "Wood"=some (.ref C)
 cl:Cls K C
 nm:bo K C "marks"
 nn:bo K C "now"
 mg_Layers:mg "Layers"=some (.ref L)
 cL:Cls K L
 nh:bo K L "house"
 no:bo K L "own"
 nv:bo K L "veiled"
 mg_NoWord:mg "NoWord"=some (.ref Z.N)
 mg_Twice:mg "Twice"=some (.ref Z.T)
 mg_Absent:mg "Absent"=some (.ref Z.A)
 mg_AheadError:mg "AheadError"=some (.ref Z.E)
 mg_Beside:mg "Beside"=some (.ref Z.B1)
 mg_NoChoice:mg "NoChoice"=some (.ref Z.B2)
 mg_NoRow:mg "NoRow"=some (.ref Z.B3)
 mg_NoSign:mg "NoSign"=some (.ref Z.B4)
 mg_NoText:mg "NoText"=some (.ref Z.B5)
 x_NoWord:cx K Z.N none=true
 k_NoWord:PySem.W.keepIn K (.ref Z.N)=true
 c_NoWord:eA K Z.N=true
 e_NoWord:PySem.W.exmOne K (.ref Z.N) (.ref Z.E)=some true
 x_Twice:cx K Z.T none=true
 k_Twice:PySem.W.keepIn K (.ref Z.T)=true
 c_Twice:eA K Z.T=true
 e_Twice:PySem.W.exmOne K (.ref Z.T) (.ref Z.E)=some true
 x_Absent:cx K Z.A none=true
 k_Absent:PySem.W.keepIn K (.ref Z.A)=true
 c_Absent:eA K Z.A=true
 e_Absent:PySem.W.exmOne K (.ref Z.A) (.ref Z.E)=some true
 knn:PySem.W.kitOne K (.ref Z.N) (.ref Z.N)=some true
 knt:PySem.W.kitOne K (.ref Z.N) (.ref Z.T)=some false
 kna:PySem.W.kitOne K (.ref Z.N) (.ref Z.A)=some false
 ktn:PySem.W.kitOne K (.ref Z.T) (.ref Z.N)=some false
 ktt:PySem.W.kitOne K (.ref Z.T) (.ref Z.T)=some true
 kta:PySem.W.kitOne K (.ref Z.T) (.ref Z.A)=some false
 kan:PySem.W.kitOne K (.ref Z.A) (.ref Z.N)=some false
 kat:PySem.W.kitOne K (.ref Z.A) (.ref Z.T)=some false
 kaa:PySem.W.kitOne K (.ref Z.A) (.ref Z.A)=some true
 on:PySem.W.kitAny K (.ref Z.N) (List.map Value.ref [Z.B1,Z.B2,Z.B3,Z.B4,Z.B5])=some false
 ot:PySem.W.kitAny K (.ref Z.T) (List.map Value.ref [Z.B1,Z.B2,Z.B3,Z.B4,Z.B5])=some false
 oa:PySem.W.kitAny K (.ref Z.A) (List.map Value.ref [Z.B1,Z.B2,Z.B3,Z.B4,Z.B5])=some false
section
variable {P:Program}{w:World}{K:PySem.W.Frag}{mg:Str->Option Value}{base:Heap}{C L:Addr}{Z:Zs}
theorem Txt.gm (T:Txt K mg C L Z):∀ c,c=C->Cls K c/\bo K c "marks":=λc e=>by subst e;exact ⟨T.cl,T.nm⟩
theorem Txt.gn (T:Txt K mg C L Z):∀ c,c=C->Cls K c/\bo K c "now":=λc e=>by subst e;exact ⟨T.cl,T.nn⟩
theorem Txt.gf (T:Txt K mg C L Z){m:Str}{f:Addr}(h:Meth K C m f):∀ c,c=C->Cls K c/\Meth K c m f:=λc e=>by subst e;exact ⟨T.cl,h⟩
theorem Txt.gh (T:Txt K mg C L Z):∀ c,c=L->Cls K c/\bo K c "house":=λc e=>by subst e;exact ⟨T.cL,T.nh⟩
theorem Txt.go (T:Txt K mg C L Z):∀ c,c=L->Cls K c/\bo K c "own":=λc e=>by subst e;exact ⟨T.cL,T.no⟩
theorem Txt.gv (T:Txt K mg C L Z):∀ c,c=L->Cls K c/\bo K c "veiled":=λc e=>by subst e;exact ⟨T.cL,T.nv⟩
theorem Txt.gl (T:Txt K mg C L Z){m:Str}{f:Addr}(h:Meth K L m f):∀ c,c=L->Cls K c/\Meth K c m f:=λc e=>by subst e;exact ⟨T.cL,h⟩
def GX (Z:Zs) (c:Addr):Prop:=c=Z.N\/c=Z.T\/c=Z.A
theorem Txt.gx (T:Txt K mg C L Z):∀ c,GX Z c->XC K c:=λc e=>by
 rcases e with rfl|rfl|rfl
 ·exact .of T.c_NoWord
 ·exact .of T.c_Twice
 ·exact .of T.c_Absent
def Fd (n:Int) (o:O):Prop:=∃ (cells:List Int) (i x k:Int),o=.lst [.lst (cells.map T.int),.int i,.int x,.int k]/\0<=i/\0<=k/\k<=n/\cells≠[]
theorem Fd.mono {n m:Int}{o:O}(h:Fd n o) (l:n<=m):Fd m o:=by
 obtain ⟨c,i,x,k,e,h1,h2,h3,h4⟩:=h
 exact ⟨c,i,x,k,e,h1,h2,by omega,h4⟩
def cY:WSp:=λts S Q=>∃ p m n o,ts=[.ref p,.int m]/\0<m/\m<18446744073709551616/\S p=some o/\Fd n o/\n<1000000000/\∀ r o',0<=r->r<m->Fd (n+1) o'->Q (.int r) (put S p o')
theorem DJ {S:Sto}{Q:T->Sto->Prop}{p:Addr}{m n:Int}{o:O}(h1:0<m) (h2:m<18446744073709551616) (e:S p=some o) (f:Fd n o) (hn:n<1000000000) (h:∀ r o',0<=r->r<m->Fd (n+1) o'->Q (.int r) (put S p o')) :
  cY ([.ref p,.int m]++[]) S Q:=⟨p,m,n,o,rfl,h1,h2,e,f,hn,h⟩
theorem A2 {S:Sto}{Q:T->Sto->Prop}{p:Addr}{m n:Int}{o:O}(h1:0<m) (h2:m<18446744073709551616) (f:Fd n o) (hn:n<1000000000) (h:∀ r o',0<=r->r<m->Fd (n+1) o'->Q (.int r) (put S p o')) :
  cY ([.ref p,.int m]++[]) (put S p o) Q:=⟨p,m,n,o,rfl,h1,h2,aC,f,hn,λr o' a b c=>by rw [cg];exact h r o' a b c⟩
theorem pe:FnScope ["_law_feed_here","_law_many","_law_cells","_law_found","_law_at","_law_number"] vv1 (ai fQ):=by nofun
theorem A6 {f:Addr}{fd:FuncData}(F:Fun K "_law_draw" "_law_draw" fQ f fd) (T:Txt K mg C L Z):FnOk P w K mg base CX0 1 f fd vv1 (lSp K cY):=by
 refine aZ F pe (λts S Q h=>?_) λcdv A outer s H E hr=>?_
 ·obtain ⟨p,m,n,o,rfl,_⟩:=h;rfl
 have nd:=pe.nd
 refine ⟨_,((al (aG (i:=2) nd rfl (Or.inl rfl) (aB rfl (aa 0) ag (λ_ _=>rfl)))
   (al (bR (λh g=>bP h g) (aA (bp false) (aB rfl (aa 0) ag (λ_ _=>rfl)) ag) (cu (aa 0) ag (jT 3) (λh1 h2 h3=>cj h1 h2 h3)))
   (al (rh PassesOwn.never (b6 (b0 (ay (aX rfl hr.units) (aA c7 (aB rfl (aa 2) ag (λ_ _=>rfl)) ag) ag (aI _)) (b0 (ay (gW rfl) (aB rfl (aa 0) ag (λ_ _=>rfl)) (aN (ae ag (ae (nz ag) af (ac rfl)) (ac rfl))) (by with_unfolding_all rfl)) (cD (ay GJ (aA (bp false) (aB rfl (aa 0) ag (λ_ _=>rfl)) ag) (aM (bC rfl) (by rfl) T.len PySem.boot_len (ae (aa 2) af (ac rfl))) (aI _))))))
    (al (bR (λh g=>bP h g) (aA (bp false) (aB rfl (aa 0) ag (λ_ _=>rfl)) ag) (cu (aa 0) ag (jT 1) (λh1 h2 h3=>cj h1 h2 h3)))
   (ak (bR (λh g=>bP h g) (aB rfl (aa 2) (aB rfl (aa 0) ag (λ_ _=>rfl)) (λ_ _=>rfl)) (cu (aa 0) ag (jT 2) (λh1 h2 h3=>cj h1 h2 h3))))))
   (al (aK (ay (rj rfl) (aB rfl (aa 0) ag (λ_ _=>rfl)) (aN (ae ag (ae (nz ag) af (ac rfl)) (ac rfl))) (by with_unfolding_all rfl))
    (al (aG (i:=3) nd rfl (Or.inl rfl) (aA c7 (aB rfl (aa 0) ag (λ_ _=>rfl)) (aa 1)))
   (al (bR (λh g=>bP h g) (aA ny (aB rfl (aa 0) ag (λ_ _=>rfl)) (aa 1)) (cu (aa 0) ag (jT 2) (λh1 h2 h3=>cj h1 h2 h3)))
   (ak (az (aa 3)))))
    aQ)
   (al (aG (i:=4) nd rfl (Or.inl rfl) (aB rfl (aa 0) ag (λ_ _=>rfl)))
   (al (aG (i:=5) nd rfl (Or.inl rfl) (aA c7 (aA (bp false) (aA (bp false) (aA (gO false) (aA c7 (aB rfl (aa 2) (aA c7 (aa 4) (aM (bC rfl) (by rfl) T.len PySem.boot_len (ae (aa 2) af (ac rfl)))) (λ_ _=>rfl)) (aA j8 ag ag)) ag) (aA (gO false) (aA (gO false) ag (aa 4)) (aa 4))) ag) ag))
   (ak (az (aA c7 (aA c7 (aA c7 (aA (gO false) (aA c7 (aA (bp false) (aA (gO false) (aa 5) ag) (aa 4)) ag) ag) ag) ag) (aa 1))))))))))),λts S Q h=>?_⟩
 obtain ⟨p,m,n,o,rfl,h1,h2,hp,⟨cells,i,x,k,rfl,hi,hk,hkn,hne⟩,hn,hq⟩:=h
 ac_nf
 bv_omega
 have hl:0<cells.length:=List.length_pos_iff.mpr hne
 refine pE (λσ' S'=>∃ i x:Int,0<=i/\σ'=[some (T2.T.ref p),some (T2.T.int m),some (T2.T.lst (List.map T2.T.int cells)),none,none,none]/\S'=put S p (O.lst [T2.T.lst (List.map T2.T.int cells),T2.T.int i,T2.T.int x,T2.T.int (k+1)]))
  (λσ' S'=>∃ i x:Int,0<=i/\σ'=[some (T2.T.ref p),some (T2.T.int m),some (T2.T.lst (List.map T2.T.int cells)),none,none,none]/\S'=put S p (O.lst [T2.T.lst (List.map T2.T.int cells),T2.T.int i,T2.T.int x,T2.T.int (k+1)]))
  (λσ' S'=>match S' p with|some (.lst [_,.int i,_,_])=>(cells.length - i).toNat|_=>0) ⟨i,x,hi,rfl,rfl⟩ ?_ ?_
 ·rintro σ' S' N X ⟨i,x,hi,rfl,rfl⟩ hN hX
  (bv_omega;repeat' ((with_reducible refine ifB ?_ ?_)<;>(intro hb;(try simp only [Bool.false_xor,Bool.true_xor,Bool.not_eq_true',Bool.not_eq_false',Bool.not_eq_true,Bool.not_eq_false,Bool.not_not,decide_eq_true_eq,decide_eq_false_iff_not,Int.not_lt,Int.not_le,Bool.not_true,Bool.not_false] at hb);bv_omega)))
  ·refine hN _ _ ⟨_,_,?_,rfl,rfl⟩ ?_
   ·omega
   ·simp only [aC];omega
  all_goals exact hX _ _ ⟨_,_,hi,rfl,rfl⟩
 ·rintro σ' S' ⟨i,x,hi,rfl,rfl⟩
  (bv_omega;repeat' ((with_reducible refine ifB ?_ ?_)<;>(intro hb;(try simp only [Bool.false_xor,Bool.true_xor,Bool.not_eq_true',Bool.not_eq_false',Bool.not_eq_true,Bool.not_eq_false,Bool.not_not,decide_eq_true_eq,decide_eq_false_iff_not,Int.not_lt,Int.not_le,Bool.not_true,Bool.not_false] at hb);bv_omega)))
  ·exact .mk (hq _ _ (Int.emod_nonneg _ (by omega)) (Int.emod_lt_of_pos _ h1) ⟨cells,_,_,_,rfl,hi,by omega,by omega,hne⟩)
  ·bv_omega
   exact .mk (hq _ _ (Int.emod_nonneg _ (by omega)) (Int.emod_lt_of_pos _ h1) ⟨cells,_,_,_,rfl,hi,by omega,by omega,hne⟩)
def Lt (z:Str):Prop:=∀ c∈Tm.tl z,Sc.isL c=true
theorem Lt.of {a:Str}{d:Nat}(h:Lt a) (hd:d∈a.cps.toList):Sc.isL d=true:=h d hd
def mX:WSp:=λts S Q=>∃ p a n o,ts=[.ref p,.str a]/\a.length=4/\Lt a/\S p=some o/\Fd n o/\n+13<1000000000/\∀ z o',Sc.isP (Tm.tl z)=true->Fd (n+13) o'->Q (.str z) (put S p o')
theorem A4 {S:Sto}{Q:T->Sto->Prop}{p:Addr}{a:Str}{n:Int}{o:O}(h1:a.length=4) (h2:Lt a) (f:Fd n o) (hn:n+13<1000000000) (h:∀ z o',Sc.isP (Tm.tl z)=true->Fd (n+13) o'->Q (.str z) (put S p o')) :
  mX ([.ref p,.str a]++[]) (put S p o) Q:=⟨p,a,n,o,rfl,h1,h2,aC,f,hn,λz o' a b=>by rw [cg];exact h z o' a b⟩
theorem pf:FnScope ["_law_feed_here","_law_letters","_law_size"] kG (ai fR):=by nofun
theorem A7 {f f1:Addr}{fd fd1:FuncData}(F:Fun K "_law_part" "_law_part" fR f fd) (T:Txt K mg C L Z) (G__law_draw:FnOk P w K mg base CX0 1 f1 fd1 vv1 (lSp K cY)) (D__law_draw:Df K mg "_law_draw" f1 fd1 vv1) :
  FnOk P w K mg base CX0 2 f fd kG (lSp K mX):=by
 refine aZ F pf (λts S Q h=>?_) λcdv A outer s H E hr=>?_
 ·obtain ⟨p,m,n,o,rfl,_⟩:=h;rfl
 have nd:=pf.nd
 refine ⟨_,((al (aG (i:=2) nd rfl (Or.inl rfl) (aB rfl (cF (ae ag (ae ag (ae ag (ae ag (ae ag (ae ag af (ac rfl)) (ac rfl)) (ac rfl)) (ac rfl)) (ac rfl)) (ac rfl))) (ax G__law_draw D__law_draw hr.m (by rfl) (ae (aa 0) (ae ag af (ac rfl)) (ac rfl))) (λ_ _=>rfl)))
   (ak (az (bX rfl PySem.F.plainAttrs_str PySem.F.slot_str_join PySem.F.type_str_join (mI rfl) aD (ae (dG false ["_law_k","_law_letters","_law_feed_here"] 1 [1,0] rfl (gb (by rfl) T.range (aa 2)) (λ_ _ _ _=>(aT (i:=0) (show List.Nodup (["_law_k","_law_letters","_law_feed_here"]:List Str) from by decide +kernel) rfl (Or.inl rfl))) (λ_ _ _ _=>dD) (λ_ _ _ _=>(aB rfl (aa 1) (ax G__law_draw D__law_draw hr.m (by rfl) (ae (aa 2) (ae ag af (ac rfl)) (ac rfl))) (λ_ _=>rfl)))) af (ac rfl)) (λh1 h2 h3=>bQ PySem.F.plainAttrs_str PySem.F.slot_str_join PySem.F.type_str_join h2 h1 h3)))))),λts S Q h=>?_⟩
 obtain ⟨p,a,n,o,rfl,ha,hAs,hp,hf,hn,hq⟩:=h
 ac_nf
 bv_omega
 refine eY (λt=>∃ z:Int,t=.int z/\1<=z/\z<=12) hr0 (by simpa using hr1) (by simp) ?_
 rintro _ ⟨z,rfl,hz1,hz2⟩
 bv_omega
 refine jp (λitems acc σ' S'=>∃ (zs:List Str) (u:Option T2.T) (o2:O),acc=zs.map T2.T.str/\(∀ y∈zs,∃ c,y=⟨#[c]⟩/\Sc.isL c=true)/\zs.length+items.length=z.toNat/\σ'=[u,some (.str a),some (.ref p)]/\S'=put S p o2/\Fd (n+1+zs.length) o2)
  ⟨[],none,o',rfl,by simp,by simp [bM],rfl,rfl,by simpa using hfd⟩ ?_ ?_
 ·rintro t ts acc σ' S' N ⟨zs,u,o2,rfl,hza,hl,rfl,rfl,hf2⟩ hN
  simp only [List.length_cons] at hl
  refine ⟨trivial,?_⟩
  bv_omega
  refine ⟨by rw [List.length_map,sizeLine_eq];omega,hN _ _ _ ⟨zs++[⟨#[d]⟩],_,_,by simp,?_,by simp;omega,rfl,rfl,?_⟩⟩
  ·intro y hy
   rcases List.mem_append.mp hy with h|h
   ·exact hza y h
   ·rw [List.mem_singleton.mp h];exact ⟨d,rfl,hAs.of hd⟩
  ·rw [List.length_append,List.length_singleton];exact hfd.mono (by omega)
 ·rintro acc σ' S' ⟨zs,u,o2,rfl,hza,hl,rfl,rfl,hf2⟩
  have hl2:zs.length=z.toNat:=by simpa using hl
  refine ⟨trivial,?_⟩
  bv_omega
  refine Am (Tm.lD zs) (Tm.mO (b:=1) (λy hy=>by obtain ⟨c,rfl,_⟩:=hza y hy;exact Nat.le_refl _) (by simp only [show (Str.ofString "").length=0 from rfl];omega)) ?_
  exact .mk (hq _ _ (Wm.jx hza (by omega) (by omega)) (hf2.mono (by omega)))
def nK:WSp:=λts S Q=>∃ a,ts=[.str a]/\a.length<=1000/\∀ b,(b=true->Wm.Fit a)->Q (.bl b) S
theorem F' {S:Sto}{Q:T->Sto->Prop}{a:Str}(h1:a.length<=1000) (h:∀ b,(b=true->Wm.Fit a)->Q (.bl b) S):nK ([.str a]++[]) S Q:=⟨a,rfl,h1,h⟩
theorem oM:FnScope ["_law_text","_law_parts"] ["_law_text"] (ai fz):=by nofun
theorem DM {f:Addr}{fd:FuncData}(F:Fun K "_law_is_fit" "_law_is_fit" fz f fd) (T:Txt K mg C L Z):FnOk P w K mg base CX0 1 f fd ["_law_text"] (lSp K nK):=by
 refine aZ F oM (λts S Q h=>?_) λcdv A outer s H E hr=>?_
 ·obtain ⟨a,rfl,_⟩:=h;rfl
 have nd:=oM.nd
 refine ⟨_,((al (aG (i:=1) nd rfl (Or.inl rfl) (bX rfl PySem.F.plainAttrs_str PySem.F.slot_str_split PySem.F.type_str_split (rA false) (aa 0) (ae aD af (ac rfl)) (λh1 h2 h3=>bQ PySem.F.plainAttrs_str PySem.F.slot_str_split PySem.F.type_str_split h2 h1 h3)))
   (ak (az (eO (bB eC (aM (bC rfl) (by rfl) T.len PySem.boot_len (ae (aa 0) af (ac rfl))) ag (aI _)) (eO (bB eC (aM (bC rfl) (by rfl) T.len PySem.boot_len (ae (aa 1) af (ac rfl))) ag (aI _)) (gL (bB eC (aM (EQ rfl rfl) (by rfl) T.max PyProof.Rows.boot_max (ae (dG false ["_law_part_here"] 1 [] rfl (ci rfl (aa 1)) (λ_ _ _ _=>(aT (i:=0) (show List.Nodup (["_law_part_here"]:List Str) from by decide +kernel) rfl (Or.inl rfl))) (λ_ _ _ _=>dD) (λ_ _ _ _=>(aM (bC rfl) (by rfl) T.len PySem.boot_len (ae (aa 0) af (ac rfl))))) af (ac rfl))) ag (aI _))))))))),λts S Q h=>?_⟩
 obtain ⟨a,rfl,ha,hq⟩:=h
 ac_nf
 bv_omega
 refine ifB (λhb=>?_) λhb=>.mk (hq _ (by simp))
 have h24:a.length<=24:=by have:=of_decide_eq_true hb;omega
 bv_omega
 refine ifB (λh4=>?_) λhb=>.mk (hq _ (by simp))
 bv_omega
 refine gc (ls:=Txt.split a " ") T2.T.str (λx=>some (.int x.length)) [] ?_ ?_ (λx hx u acc N hacc hN=>?_) ?_
 ·trivial
 ·have:=PyProof.Rows.split_le a " ";rw [sizeLine_eq];omega
 ·bv_omega
  have hxl:x.length<=a.length:=Tm.p6 hx
  refine tq (by rw [sizeLine_eq];omega) ⟨hacc,?_⟩
  exact hN _
 ·bv_omega
  refine CZ (ns:=(Txt.split a " ").map λx:Str=>(x.length:Int)) (by rw [show (λx:Str=>some (T2.T.int x.length))=some ∘ (λx:Str=>T2.T.int x.length) from rfl,List.filterMap_eq_map,<- Tm.yK,List.map_map];rfl) (by simp [Tm.jt]) λm hm1 hm2=>?_
  bv_omega
  refine .mk (hq _ λhb12=>⟨h24,?_,λp hp=>?_⟩)
  ·have:=of_decide_eq_true h4;omega
  ·have h3:=of_decide_eq_true hb12
   have h5:=hm2 p.length (List.mem_map_of_mem (f:=λx:Str=>(x.length:Int)) hp)
   omega
def mY:WSp:=λts S Q=>∃ p q a n o,∃ ws:List Str,ts=[.ref p,.ref q,.str a]/\q≠p/\a.length=4/\Lt a/\S p=some o/\Fd n o/\n+60<1000000000/\S q=some (.lst (ws.map T.str))/\(∀ x∈ws,Wm.Wd x=true)/\ws.length<=1000 /\
 ∀ z o',Wm.Wd z=true->Fd (n+60) o'->Q (.str z) (put S p o')
theorem A3 {S:Sto}{Q:T->Sto->Prop}{p q:Addr}{a:Str}{n:Int}{o:O}{ws:List Str}(hqp:q≠p) (h1:a.length=4) (h2:Lt a) (f:Fd n o) (hn:n+60<1000000000) (e:put S p o q=some (.lst (ws.map T.str))) (hws:∀ x∈ws,Wm.Wd x=true) (hwl:ws.length<=1000)
  (h:∀ z o',Wm.Wd z=true->Fd (n+60) o'->Q (.str z) (put S p o')):mY ([.ref p,.ref q,.str a]++[]) (put S p o) Q :=
 ⟨p,q,a,n,o,ws,rfl,hqp,h1,h2,aC,f,hn,e,hws,hwl,λz o' a b=>by rw [cg];exact h z o' a b⟩
theorem r9 {y:Str}(h:Sc.isP (Tm.tl y)=true):y.length<=12:=by
 unfold Sc.isP at h
 simp only [Bool.and_eq_true,decide_eq_true_eq] at h
 rw [<- Tm.len];omega
theorem ph:FnScope ["_law_feed_here","_law_words_here","_law_letters","_law_more","_law_longer","_law_parts"] vv8 (ai fS):=by nofun
theorem A8 {f f1 f2 f3:Addr}{fd fd1 fd2 fd3:FuncData}(F:Fun K "_law_word" "_law_word" fS f fd) (T:Txt K mg C L Z) (G__law_draw:FnOk P w K mg base CX0 1 f1 fd1 vv1 (lSp K cY)) (D__law_draw:Df K mg "_law_draw" f1 fd1 vv1)
  (G__law_part:FnOk P w K mg base CX0 2 f2 fd2 kG (lSp K mX)) (D__law_part:Df K mg "_law_part" f2 fd2 kG)
  (G__law_is_fit:FnOk P w K mg base CX0 1 f3 fd3 ["_law_text"] (lSp K nK)) (D__law_is_fit:Df K mg "_law_is_fit" f3 fd3 ["_law_text"]) :
  FnOk P w K mg base CX0 3 f fd vv8 (lSp K mY):=by
 refine aZ F ph (λts S Q h=>?_) λcdv A outer s H E hr=>?_
 ·obtain ⟨p,q,m,n,o,ws,rfl,_⟩:=h;rfl
 have nd:=ph.nd
 refine ⟨_,((al (aK (b6 (b0 (ay nW (aM (bC rfl) (by rfl) T.len PySem.boot_len (ae (aa 1) af (ac rfl))) ag (aI _)) (cD (ay (aX rfl hr.units) (ax G__law_draw D__law_draw hr.m (by rfl) (ae (aa 0) (ae ag af (ac rfl)) (ac rfl))) ag (aI _)))))
    (al (aG (i:=3) nd rfl (Or.inl rfl) (aB rfl (cF (ae (aB rfl (aa 2) ag (λ_ _=>rfl)) (ae (aB rfl (aa 2) ag (λ_ _=>rfl)) (ae (aA (bp false) aD (aB rfl (aa 2) ag (λ_ _=>rfl))) af (ac rfl)) (ac rfl)) (ac rfl))) (ax G__law_draw D__law_draw hr.m (by rfl) (ae (aa 0) (ae ag af (ac rfl)) (ac rfl))) (λ_ _=>rfl)))
   (al (aG (i:=4) nd rfl (Or.inl rfl) (aA (bp false) (aB rfl (aa 1) (ax G__law_draw D__law_draw hr.m (by rfl) (ae (aa 0) (ae (aM (bC rfl) (by rfl) T.len PySem.boot_len (ae (aa 1) af (ac rfl))) af (ac rfl)) (ac rfl))) (λ_ _=>rfl)) (aa 3)))
   (ak (aK (bv (ax G__law_is_fit D__law_is_fit hr.m (by rfl) (ae (aa 4) af (ac rfl))))
    (ak (az (aa 4)))
    aQ))))
    aQ)
   (al (k8 true (i:=5) ["_law_k","_law_feed_here","_law_letters"] 1 [0,2] rfl nd rfl (Or.inl rfl) (gb (by rfl) T.range (aB rfl (cF (ae ag (ae ag (ae ag (ae ag (ae ag af (ac rfl)) (ac rfl)) (ac rfl)) (ac rfl)) (ac rfl))) (ax G__law_draw D__law_draw hr.m (by rfl) (ae (aa 0) (ae ag af (ac rfl)) (ac rfl))) (λ_ _=>rfl))) (λ_ _ _ _=>(aT (i:=0) (show List.Nodup (["_law_k","_law_feed_here","_law_letters"]:List Str) from by decide +kernel) rfl (Or.inl rfl))) (λ_ _ _ _=>dD) (λ_ _ _ _=>(ax G__law_part D__law_part hr.m (by rfl) (ae (aa 1) (ae (aa 2) af (ac rfl)) (ac rfl)))))
   (al (rh PassesOwn.never (ay nW (aM (bC rfl) (by rfl) T.len PySem.boot_len (ae (bX rfl PySem.F.plainAttrs_str PySem.F.slot_str_join PySem.F.type_str_join (mI rfl) aD (ae (aa 5) af (ac rfl)) (λh1 h2 h3=>bQ PySem.F.plainAttrs_str PySem.F.slot_str_join PySem.F.type_str_join h2 h1 h3)) af (ac rfl))) ag (aI _))
    (ak (bI (FH rfl PySem.F.plainAttrs_list PySem.F.slot_list_pop PySem.F.type_list_pop ET (aa 5) (λh1 h2=>sQ PySem.F.plainAttrs_list PySem.F.slot_list_pop PySem.F.type_list_pop h2 h1)))))
   (ak (az (bX rfl PySem.F.plainAttrs_str PySem.F.slot_str_join PySem.F.type_str_join (mI rfl) aD (ae (aa 5) af (ac rfl)) (λh1 h2 h3=>bQ PySem.F.plainAttrs_str PySem.F.slot_str_join PySem.F.type_str_join h2 h1 h3)))))))),λts S Q h=>?_⟩
 obtain ⟨p,q,a,n,o,ws,rfl,hqp,ha,hAs,hp,hf,hn,hw,hws,hwl,hq⟩:=h
 ac_nf
 refine c9 (λσ' S'=>∃ u v o',σ'=[some (.ref p),some (.ref q),some (.str a),u,v,none]/\S'=put S p o'/\Fd (n+3) o') ?_ ?_
 ·intro X hX
  have h0:X [some (.ref p),some (.ref q),some (.str a),none,none,none] S:=hX _ _ ⟨_,_,o,rfl,(yE hp).symm,hf.mono (by omega)⟩
  bv_omega
  refine ifB (λhb=>?_) λhb=>ifF h0
  have hwp:0<(ws.length:Int):=by simpa using hb
  bv_omega
  refine ifB (λhb=>?_) λhb=>?_
  ·bv_omega
   refine eY (λt=>∃ z:Str,t=.str z/\z.length<=2/\∃ c,Sc.isL c=true/\(Tm.tl z=[c]\/Tm.tl z=[32,c])) hr0 ?_ ?_ ?_
   ·simpa using hr1
   ·intro t ht
    simp only [List.mem_cons,List.not_mem_nil,or_false] at ht
    rcases ht with rfl|rfl|rfl
    ·exact ⟨_,rfl,by simp [Str.length],_,hAs.of (by assumption),.inl rfl⟩
    ·exact ⟨_,rfl,by simp [Str.length],_,hAs.of (by assumption),.inl rfl⟩
    ·exact ⟨_,rfl,Nat.le_refl _,_,hAs.of (by assumption),.inr (by rw [Tm.gF];rfl)⟩
   rintro _ ⟨y,rfl,hy,hyA⟩
   bv_omega
   have hzw:=hws _ hz
   have hzl:=Wm.eQ hzw
   bv_omega
   refine ifB (λhb=>?_) λhb=>?_
   ·bv_omega
    exact .mk (hq _ _ (Wm.AB hzw hyA (hfit hb)) (hfd.mono (by omega)))
   exact hX _ _ ⟨_,_,_,rfl,rfl,hfd.mono (by omega)⟩
  ·exact hX _ _ ⟨_,_,_,rfl,rfl,hfd.mono (by omega)⟩
 ·rintro σ' S' ⟨u1,v1,o1,rfl,rfl,hf1⟩
  bv_omega
  refine eY (λt=>∃ z:Int,t=.int z/\1<=z/\z<=4) hr0 ?_ ?_ ?_
  ·simpa using hr1
  ·simp
  rintro _ ⟨z,rfl,hz1,hz2⟩
  bv_omega
  refine jp (λitems acc σ' S'=>∃ (zs:List Str) (u:Option T2.T) (o2:O),acc=zs.map T2.T.str/\(∀ y∈zs,Sc.isP (Tm.tl y)=true)/\zs.length+items.length=z.toNat/\σ'=[u,some (.ref p),some (.str a)]/\S'=put S p o2/\Fd (n+4+13 * zs.length) o2)
   ⟨[],none,_,rfl,by simp,by simp [bM],rfl,rfl,hfd.mono (by simp;omega)⟩ ?_ ?_
  ·rintro t ts acc σ' S' N ⟨zs,u,o2,rfl,hza',hl,rfl,rfl,hf2⟩ hN
   simp only [List.length_cons] at hl
   refine ⟨trivial,?_⟩
   bv_omega
   refine ⟨by rw [List.length_map,sizeLine_eq];omega,hN _ _ _ ⟨zs++[z],_,_,by simp,?_,by simp;omega,rfl,rfl,?_⟩⟩
   ·intro y hy
    rcases List.mem_append.mp hy with h|h
    ·exact hza' y h
    ·rw [List.mem_singleton.mp h];assumption
   ·rw [List.length_append,List.length_singleton];exact hfd.mono (by omega)
  ·rintro acc σ' S' ⟨zs,u,o2,rfl,hza',hl,rfl,rfl,hf2⟩
   have hl2:zs.length=z.toNat:=by simpa using hl
   refine ⟨trivial,λl hl0=>?_⟩
   bv_omega
   refine pE (λσ' S'=>∃ zs:List Str,zs≠[]/\(∀ y∈zs,Sc.isP (Tm.tl y)=true)/\zs.length<=4/\σ'=[some (.ref p),some (.ref q),some (.str a),u1,v1,some (.ref l)]/\S'=put (put S p o2) l (O.lst (zs.map T2.T.str)))
    (λσ' S'=>∃ zs:List Str,zs≠[]/\(∀ y∈zs,Sc.isP (Tm.tl y)=true)/\zs.length<=4/\(Txt.join " " zs).length<=24/\σ'=[some (.ref p),some (.ref q),some (.str a),u1,v1,some (.ref l)]/\S'=put (put S p o2) l (O.lst (zs.map T2.T.str)))
    (λσ' S'=>match S' l with|some (.lst ts)=>ts.length|_=>0) ⟨zs,by rintro rfl;simp at hl2;omega,hza',by omega,rfl,rfl⟩ ?_ ?_
   ·rintro σ' S' N X ⟨zs,hne,hzA2,hl4,rfl,rfl⟩ hN hX
    have hzs:∀ y∈zs,y.length<=12:=λy hy=>r9 (hzA2 y hy)
    bv_omega
    refine rH aC (Tm.lD zs) (Tm.mO (b:=12) hzs (by rw [Tm.h8];omega)) ?_
    have hjl:(Txt.join " " zs).length<=60:=by
     have h1:=Tm.rL " " zs hzs
     rw [Tm.h8] at h1
     omega
    bv_omega
    refine ifB (λhb=>?_) λhb=>?_
    ·bv_omega
     have h2:2<=zs.length:=by
      have hb:=of_decide_eq_true hb
      have h1:=Tm.rL " " zs hzs
      rw [Tm.h8] at h1
      have hp:=List.length_pos_iff.mpr hne
      omega
     have hlast:(zs.map T2.T.str)[(zs.map T2.T.str).length - 1]?=some (T2.T.str (zs.getLast hne)):=by
      rw [List.getElem?_map,List.length_map,<- List.getLast?_eq_getElem?,List.getLast?_eq_getLast hne];rfl
     refine Fy aC hlast ?_
     rw [cg,<- List.map_dropLast]
     refine hN _ _ ⟨zs.dropLast,λe=>?_,λy hy=>hzA2 y ((List.dropLast_subset zs) hy),by rw [List.length_dropLast];omega,rfl,rfl⟩ ?_
     ·have:=congrArg List.length e
      rw [List.length_dropLast,List.length_nil] at this
      omega
     simp only [aC,List.length_map,List.length_dropLast]
     omega
    ·exact hX _ _ ⟨zs,hne,hzA2,hl4,by have:=of_decide_eq_false hb;omega,rfl,rfl⟩
   ·rintro σ' S' ⟨zs,hne,hzA2,hl4,h24,rfl,rfl⟩
    have hzs:∀ y∈zs,y.length<=12:=λy hy=>r9 (hzA2 y hy)
    bv_omega
    refine rH aC (Tm.lD zs) (Tm.mO (b:=12) hzs (by rw [Tm.h8];omega)) ?_
    refine .le (.put hl0) (hq _ _ ?_ (hf2.mono (by omega)))
    unfold Wm.Wd
    rw [decide_eq_true h24,Bool.true_and]
    exact Wm.AA hzA2 hne hl4
def mr:WSp:=λts S Q=>∃ p m n o,ts=[.ref p,.int m]/\1<=m/\m<=20/\S p=some o/\Fd n o/\n+2000<1000000000 /\
 ∀ (ws:List Str) o',ws≠[]->ws.length<=20->ws.Nodup->(∀ x∈ws,Wm.Wd x=true)->Fd (n+2000) o'->Q (.lst (ws.map T.str)) (put S p o')
theorem oW:FnScope ["_law_feed_here","_law_many","_law_first","_law_some","_law_letters","_law_words_here","_law_k","_law_word_here"] vv1 (ai fH):=by nofun
theorem za {f f1 f2:Addr}{fd fd1 fd2:FuncData}(F:Fun K "_law_words" "_law_words" fH f fd) (T:Txt K mg C L Z) (G__law_draw:FnOk P w K mg base CX0 1 f1 fd1 vv1 (lSp K cY)) (D__law_draw:Df K mg "_law_draw" f1 fd1 vv1)
  (G__law_word:FnOk P w K mg base CX0 3 f2 fd2 vv8 (lSp K mY)) (D__law_word:Df K mg "_law_word" f2 fd2 vv8) :
  FnOk P w K mg base CX0 4 f fd vv1 (lSp K mr):=by
 refine aZ F oW (λts S Q h=>?_) λcdv A outer s H E hr=>?_
 ·obtain ⟨p,m,n,o,rfl,_⟩:=h;rfl
 have nd:=oW.nd
 refine ⟨_,((al (aG (i:=2) nd rfl (Or.inl rfl) (ax G__law_draw D__law_draw hr.m (by rfl) (ae (aa 0) (ae ag af (ac rfl)) (ac rfl))))
   (al (aG (i:=3) nd rfl (Or.inl rfl) (eK false rfl aD (dZ (aa 2)) (dZ (aA (bp false) (aa 2) ag))))
   (al (aG (i:=4) nd rfl (Or.inl rfl) (aA (bp false) (aA (bp false) (aA (bp false) (aB rfl (aa 3) ag (λ_ _=>rfl)) (aB rfl (aa 3) ag (λ_ _=>rfl))) (aB rfl (aa 3) ag (λ_ _=>rfl))) (aB rfl (aa 3) ag (λ_ _=>rfl))))
   (al (aG (i:=5) nd rfl (Or.inl rfl) (jQ af))
   (al (d9 PassesOwn.never rfl (gb (by rfl) T.range (aa 1)) (aT (i:=6) nd rfl (Or.inl rfl))
    (al (aG (i:=7) nd rfl (Or.inl rfl) (ax G__law_word D__law_word hr.m (by rfl) (ae (aa 0) (ae (aa 5) (ae (aa 4) af (ac rfl)) (ac rfl)) (ac rfl))))
   (ak (aK (ay (rj rfl) (aa 7) (aa 5) (by with_unfolding_all rfl))
    (ak (bI (bX rfl PySem.F.plainAttrs_list PySem.F.slot_list_insert PySem.F.type_list_insert yA (aa 5) (ae (ax G__law_draw D__law_draw hr.m (by rfl) (ae (aa 0) (ae (aA (bp false) (aM (bC rfl) (by rfl) T.len PySem.boot_len (ae (aa 5) af (ac rfl))) ag) af (ac rfl)) (ac rfl))) (ae (aa 7) af (ac rfl)) (ac rfl)) (λh1 h2 h3=>bQ PySem.F.plainAttrs_list PySem.F.slot_list_insert PySem.F.type_list_insert h2 h1 h3))))
    aQ))))
   (ak (az (aa 5))))))))),λts S Q h=>?_⟩
 obtain ⟨p,m,n,o,rfl,hm1,hm2,hp,hf,hn,hq⟩:=h
 ac_nf
 bv_omega
 have hs:∀ k:Nat,k<26->(Txt.slice (Str.ofString "zabcdefghijklmnopqrstuvwxyza") (some (k:Int)) (some ((k:Int)+3))).length=3:=by decide +kernel
 have hsl:=hs r.toNat (by omega)
 rw [show ((r.toNat:Nat):Int)=r by omega] at hsl
 have hs2:∀ k:Nat,k<26->((Tm.tl (Txt.slice (Str.ofString "zabcdefghijklmnopqrstuvwxyza") (some (k:Int)) (some ((k:Int)+3)))).all Sc.isL)=true:=by decide +kernel
 have hsa:=hs2 r.toNat (by omega)
 rw [show ((r.toNat:Nat):Int)=r by omega] at hsa
 have hsA:Lt (Txt.slice (Str.ofString "zabcdefghijklmnopqrstuvwxyza") (some r) (some (r+3))):=λc hc=>List.all_eq_true.mp hsa c hc
 generalize Txt.slice (Str.ofString "zabcdefghijklmnopqrstuvwxyza") (some r) (some (r+3))=some3 at hsl hsA ⊢
 bv_omega
 rename_i d1 hm1 _ d2 hm2 _ d3 hm3 _
 have hA4:Lt (({ cps:=#[d1] }++{ cps:=#[d2] }++{ cps:=#[d3] }++{ cps:=#[d] }:Str)):=by
  intro c hc
  simp only [Tm.gF,List.mem_append] at hc
  rcases hc with ((hc|hc)|hc)|hc
  ·rw [show c=d1 by simpa [Tm.tl] using hc];exact hsA.of hm1
  ·rw [show c=d2 by simpa [Tm.tl] using hc];exact hsA.of hm2
  ·rw [show c=d3 by simpa [Tm.tl] using hc];exact hsA.of hm3
  ·rw [show c=d by simpa [Tm.tl] using hc];exact hsA.of hd
 have hl4:(({ cps:=#[d1] }++{ cps:=#[d2] }++{ cps:=#[d3] }++{ cps:=#[d] }:Str)).length=4:=by simp only [PySem.Str.length_append,Tm.rK]
 generalize ({ cps:=#[d1] }++{ cps:=#[d2] }++{ cps:=#[d3] }++{ cps:=#[d] }:Str)=le4 at hl4 hA4 ⊢
 intro l hl0
 obtain ⟨hlp,hl1⟩:=cA hl0
 rw [qz (Ne.symm hlp)]
 bv_omega
 refine qy (λitems σ' S'=>∃ (ws:List Str) (o2:O) (u v:Option T2.T),(items.length:Int)<=m/\ws.length+items.length<=m/\((items.length:Int)<m->ws≠[])/\ws.Nodup/\(∀ x∈ws,Wm.Wd x=true)/\σ'=[some (.ref p),some (.int m),some (.int r),some (.str some3),some (.str le4),some (.ref l),u,v] /\
   S'=put (put S l (.lst (ws.map T2.T.str))) p o2/\Fd (n+1+61 * (m - items.length)) o2) ⟨[],_,none,none,?_,?_,?_,by simp,by simp,rfl,rfl,hfd.mono ?_⟩ ?_ ?_
 ·simp [bM];omega
 ·simp [bM];omega
 ·simp [bM];omega
 ·simp [bM];omega
 ·rintro t ts σ' S' N ⟨ws,o2,u,v,hi1,hi2,hi3,hnd,hws,rfl,rfl,hf2⟩ hN
  simp only [List.length_cons,Int.natCast_add,Int.natCast_one] at hi1 hi2 hi3 hf2
  refine ⟨trivial,?_⟩
  bv_omega
  refine ifB (λhb=>?_) λhb=>?_
  ·bv_omega
   refine yD ((aE hlp).trans aC) (by rw [List.length_map,sizeLine_eq];omega) hr0 (by omega) ?_
   rw [C1 hlp]
   refine hN _ _ ⟨ws.take r.toNat++z::ws.drop r.toNat,_,_,_,by omega,?_,λ_=>by simp,?_,?_,rfl,?_,hfd.mono (by omega)⟩
   ·simp only [List.length_append,List.length_take,List.length_cons,List.length_drop];omega
   ·have hp:(ws.take r.toNat++z::ws.drop r.toNat).Perm (z::ws):=by
     refine List.perm_middle.trans (List.Perm.cons _ ?_)
     rw [List.take_append_drop]
    refine hp.nodup_iff.mpr (List.nodup_cons.mpr ⟨λhm=>?_,hnd⟩)
    simp [hm] at hb
   ·intro x hx
    simp only [List.mem_append,List.mem_cons] at hx
    rcases hx with h|rfl|h
    ·exact hws x (List.mem_of_mem_take h)
    ·exact hzw
    ·exact hws x (List.mem_of_mem_drop h)
   ·simp [List.map_take,List.map_drop]
  ·bv_omega
   refine hN _ _ ⟨ws,_,_,_,by omega,by omega,λ_=>?_,hnd,hws,rfl,rfl,hfd.mono (by omega)⟩
   rintro rfl
   simp at hb
 ·rintro σ' S' ⟨ws,o2,u,v,hi1,hi2,hi3,hnd,hws,rfl,rfl,hf2⟩
  refine ⟨trivial,?_⟩
  bv_omega
  simp only [List.length_nil,Int.natCast_zero,Int.add_zero,Int.sub_zero] at hi2 hi3 hf2
  exact .frz ((aE hlp).trans aC) (.put2 (.put hl1)) (by rw [aE hlp];exact hl1) (hq ws o2 (hi3 (by omega)) (by omega) hnd hws (hf2.mono (by omega)))
def mZ:WSp:=λts S Q=>∃ ns:List Int,ts=[.scr ns]/\ns.length<=63/\∀ p o,S p=none->Fd 0 o->Q (.ref p) (put S p o)
theorem DK {S:Sto}{Q:T->Sto->Prop}{ns:List Int}(h1:ns.length<=63) (h:∀ p o,S p=none->Fd 0 o->Q (.ref p) (put S p o)):mZ ([.scr ns]++[]) S Q:=⟨ns,rfl,h1,h⟩
theorem pi:FnScope ["_law_script","_law_cells"] gZ (ai fP):=by nofun
theorem A9 {f:Addr}{fd:FuncData}(F:Fun K "_law_feed" "_law_feed" fP f fd) (T:Txt K mg C L Z):FnOk P w K mg base CX0 1 f fd gZ (lSp K mZ):=by
 refine aZ F pi (λts S Q h=>?_) λcdv A outer s H E hr=>?_
 ·obtain ⟨ns,rfl,_⟩:=h;rfl
 have nd:=pi.nd
 refine ⟨_,((al (aG (i:=1) nd rfl (Or.inl rfl) (aA (bp false) (eK false rfl (aa 0) gr (dZ ag)) (cF (ae ag af (ac rfl)))))
   (ak (az (jQ (ae (aa 1) (ae ag (ae (aA (gO false) (aA ny (aB rfl (aa 1) ag (λ_ _=>rfl)) ag) (aA c7 (aB rfl (aa 1) ag (λ_ _=>rfl)) ag)) (ae ag af (ac rfl)) (ac rfl)) (ac rfl)) (ac rfl))))))),λts S Q h=>?_⟩
 obtain ⟨ns,rfl,hns,hq⟩:=h
 ac_nf
 bv_omega
 rw [qA,jB (by omega)]
 have hcl:(ns.take (63:Int).toNat).length<=63:=by rw [List.length_take];omega
 generalize ns.take (63:Int).toNat=cs at hcl ⊢
 refine tm rfl rfl (by simp only [List.length_map,List.length_singleton,sizeLine_eq];omega) ?_
 rw [show cs.map T2.T.int++[T2.T.int 0]=(cs++[0]).map T2.T.int by simp]
 have hpos:0<(cs++[0]).length:=by simp
 bv_omega
 intro p hp
 exact .mk (hq p _ hp ⟨cs++[0],_,_,_,rfl,Int.le_refl _,Int.le_refl _,Int.le_refl _,by simp⟩)
theorem Ba {S:Sto}{Q:T->Sto->Prop}{p:Addr}{m n:Int}{o:O}(h1:1<=m) (h2:m<=20) (f:Fd n o) (hn:n+2000<1000000000)
  (h:∀ (ws:List Str) o',ws≠[]->ws.length<=20->ws.Nodup->(∀ x∈ws,Wm.Wd x=true)->Fd (n+2000) o'->Q (.lst (ws.map T.str)) (put S p o')):mr ([.ref p,.int m]++[]) (put S p o) Q :=
 ⟨p,m,n,o,rfl,h1,h2,aC,f,hn,λws o' a b c d e=>by rw [cg];exact h ws o' a b c d e⟩
def lQ:WSp:=λts S Q=>∃ c:Nat,ts=[.str ⟨#[c]⟩]/\Q (.bl (Sc.isL c)) S
theorem y' {S:Sto}{Q:T->Sto->Prop}{c:Nat}(h:Q (.bl (Sc.isL c)) S):lQ ([.str ⟨#[c]⟩]++[]) S Q:=⟨c,rfl,h⟩
theorem oX:FnScope ["sign"] ["sign"] (ai fF):=by nofun
theorem xI {f:Addr}{fd:FuncData}(F:Fun K "is_letter" "is_letter" fF f fd):FnOk P w K mg base CX0 1 f fd ["sign"] (lSp K lQ):=by
 refine aZ F oX (λts S Q h=>?_) λcdv A outer s H E hr=>?_
 ·obtain ⟨c,rfl,_⟩:=h;rfl
 have nd:=oX.nd
 refine ⟨_,((ak (az (qX eC eC aD (aa 0) aD)))),λts S Q h=>?_⟩
 obtain ⟨c,rfl,hq⟩:=h
 rw [<- Wm.Dc] at hq
 ac_nf
 bv_omega
 refine ifB (λhb=>?_) λhb=>?_
 ·bv_omega
  rw [hb,Bool.true_and] at hq
  exact .mk hq
 ·rw [hb,Bool.false_and] at hq
  exact .mk hq
def lU:WSp:=λts S Q=>∃ z:Str,ts=[.str z]/\z.length<=1000/\Q (.bl (Sc.isP (Tm.tl z))) S
theorem y9 {S:Sto}{Q:T->Sto->Prop}{z:Str}(h0:z.length<=1000) (h:Q (.bl (Sc.isP (Tm.tl z))) S):lU ([.str z]++[]) S Q:=⟨z,rfl,h0,h⟩
theorem pH:FnScope ["text"] ["text"] (ai fX):=by nofun
theorem xJ {f f1:Addr}{fd fd1:FuncData}(F:Fun K "is_part" "is_part" fX f fd) (T:Txt K mg C L Z) (G_is_letter:FnOk P w K mg base CX0 1 f1 fd1 ["sign"] (lSp K lQ)) (D_is_letter:Df K mg "is_letter" f1 fd1 ["sign"]) :
  FnOk P w K mg base CX0 2 f fd ["text"] (lSp K lU):=by
 refine aZ F pH (λts S Q h=>?_) λcdv A outer s H E hr=>?_
 ·obtain ⟨c,rfl,_⟩:=h;rfl
 have nd:=pH.nd
 refine ⟨_,((ak (az (eO (qX eC eC ag (aM (bC rfl) (by rfl) T.len PySem.boot_len (ae (aa 0) af (ac rfl))) (mP (n:=12) (by rfl) T.c_MOST_LETTERS)) (gL (aM (uE rfl rfl) (by rfl) T.all PyProof.Rows.boot_all (ae (dG false ["sign"] 1 [] rfl (Cv (aa 0)) (λ_ _ _ _=>(aT (i:=0) (show List.Nodup (["sign"]:List Str) from by decide +kernel) rfl (Or.inl rfl))) (λ_ _ _ _=>dD) (λ_ _ _ _=>(ax G_is_letter D_is_letter hr.m (by rfl) (ae (aa 0) af (ac rfl))))) af (ac rfl)))))))),λts S Q h=>?_⟩
 obtain ⟨z,rfl,hz,hq⟩:=h
 have e:Sc.isP (Tm.tl z)=(decide (1<=(z.length:Int))&&decide ((z.length:Int)<=12)&&(Tm.tl z).all Sc.isL):=by
  unfold Sc.isP
  rw [Tm.len]
  congr 1
  congr 1
  ·rw [Bool.eq_iff_iff];simp only [decide_eq_true_eq];omega
  ·rw [Bool.eq_iff_iff];simp only [decide_eq_true_eq];omega
 rw [e] at hq
 ac_nf
 bv_omega
 refine ifB (λhb=>?_) λhb=>?_
 ·rw [hb,Bool.true_and] at hq
  bv_omega
  refine ifB (λhb=>?_) λhb=>?_
  ·rw [hb,Bool.true_and] at hq
   bv_omega
   refine gc (ls:=Tm.tl z) (λc=>T2.T.str ⟨#[c]⟩) (λc=>some (.bl (Sc.isL c))) [] ?_ ?_ (λx hx u acc N hacc hN=>?_) ?_
   ·trivial
   ·rw [Tm.len,sizeLine_eq];omega
   ·bv_omega
    exact ⟨hacc,hN _⟩
   ·bv_omega
    refine tw (bs:=(Tm.tl z).map Sc.isL) (by rw [<- Wm.all_map,List.map_map];rw [Wm.rM];rfl) ?_
    rw [List.all_map]
    exact .mk hq
  ·rw [hb,Bool.false_and] at hq
   exact .mk hq
 ·rw [hb,Bool.false_and,Bool.false_and] at hq
  bv_omega
  exact .mk hq
def nM (t:T2.T):Prop:=t=.non\/(∃ b,t=.bl b)\/(∃ i,t=.int i)\/(∃ l,t=.lst l)\/∃ l,t=.tup l
def gi:WSp:=λts S Q=>∃ t,ts=[t]/\((∃ z:Str,t=.str z/\z.length<=1000/\Q (.bl (Wm.Wd z)) S)\/nM t/\Q (.bl false) S)
theorem ju {t:T2.T}{S:Sto}(T:Txt K mg C L Z) (h:nM t):∃ v,tyT S t=some v/\PySem.W.kitOne K v (.type "str")=some false:=by
 rcases h with rfl|⟨b,rfl⟩|⟨i,rfl⟩|⟨l,rfl⟩|⟨l,rfl⟩
 ·exact ⟨_,rfl,T.ns⟩
 ·exact ⟨_,rfl,T.bs⟩
 ·exact ⟨_,rfl,T.is⟩
 ·exact ⟨_,rfl,T.ls⟩
 ·exact ⟨_,rfl,T.ts⟩
theorem pI:FnScope ["thing","parts"] ["thing"] (ai fY):=by nofun
theorem xK {f f1:Addr}{fd fd1:FuncData}(F:Fun K "is_word" "is_word" fY f fd) (T:Txt K mg C L Z) (G_is_part:FnOk P w K mg base CX0 2 f1 fd1 ["text"] (lSp K lU)) (D_is_part:Df K mg "is_part" f1 fd1 ["text"]) :
  FnOk P w K mg base CX0 3 f fd ["thing"] (lSp K gi):=by
 refine aZ F pI (λts S Q h=>?_) λcdv A outer s H E hr=>?_
 ·obtain ⟨c,rfl,_⟩:=h;rfl
 have nd:=pI.nd
 refine ⟨_,((al (aK (b6 (vq (ck (bv (aM (nA rfl) (by rfl) T.isinstance PyProof.Rows.boot_isinstance (ae (aa 0) (ae (nY (n:="str") (by rfl) T.str PyProof.Rows.boot_str) af (ac rfl)) (ac rfl))))) (uo (ay nW (aM (bC rfl) (by rfl) T.len PySem.boot_len (ae (aa 0) af (ac rfl))) (mP (n:=24) (by rfl) T.c_MOST_SIGNS) (aI _)))))
    (ak (az bu))
    aQ)
   (al (aG (i:=1) nd rfl (Or.inl rfl) (bX rfl PySem.F.plainAttrs_str PySem.F.slot_str_split PySem.F.type_str_split (rA false) (aa 0) (ae aD af (ac rfl)) (λh1 h2 h3=>bQ PySem.F.plainAttrs_str PySem.F.slot_str_split PySem.F.type_str_split h2 h1 h3)))
   (ak (az (eO (bB eC (aM (bC rfl) (by rfl) T.len PySem.boot_len (ae (aa 1) af (ac rfl))) (mP (n:=4) (by rfl) T.c_MOST_PARTS) (aI _)) (gL (aM (uE rfl rfl) (by rfl) T.all PyProof.Rows.boot_all (ae (dG false ["part"] 1 [] rfl (ci rfl (aa 1)) (λ_ _ _ _=>(aT (i:=0) (show List.Nodup (["part"]:List Str) from by decide +kernel) rfl (Or.inl rfl))) (λ_ _ _ _=>dD) (λ_ _ _ _=>(ax G_is_part D_is_part hr.m (by rfl) (ae (aa 0) af (ac rfl))))) af (ac rfl)))))))))),λts S Q h=>?_⟩
 obtain ⟨t,rfl,h⟩:=h
 ac_nf
 rcases h with ⟨z,rfl,hz,hq⟩|⟨hn,hq⟩
 ·unfold Wm.Wd at hq
  bv_omega
  refine ifB (λhb=>?_) λhb=>?_
  ·bv_omega
   have hb:=of_decide_eq_true hb
   rw [decide_eq_false (by omega),Bool.false_and] at hq
   exact .mk hq
  ·have hb:=of_decide_eq_false hb
   rw [decide_eq_true (by omega),Bool.true_and,Wm.kW] at hq
   have hsl:=PyProof.Rows.split_le z " "
   bv_omega
   refine ifB (λhb=>?_) λhb=>?_
   ·have hb:=of_decide_eq_true hb
    rw [decide_eq_true (by omega),Bool.true_and] at hq
    bv_omega
    refine gc (ls:=Txt.split z " ") T2.T.str (λp=>some (.bl (Sc.isP (Tm.tl p)))) [] ?_ ?_ (λx hx u acc N hacc hN=>?_) ?_
    ·trivial
    ·rw [sizeLine_eq];omega
    ·have hxl:=Tm.p6 hx
     bv_omega
     exact ⟨hacc,hN _⟩
    ·bv_omega
     refine tw (bs:=(Txt.split z " ").map λp=>Sc.isP (Tm.tl p)) (by rw [<- Wm.all_map,List.map_map];rw [Wm.rM];rfl) ?_
     rw [List.all_map]
     exact .mk hq
   ·have hb:=of_decide_eq_false hb
    rw [decide_eq_false (by omega),Bool.false_and] at hq
    exact .mk hq
 ·obtain ⟨v,hv1,hv2⟩:=ju (S:=S) T hn
  bv_omega
  refine dN hv1 hv2 ?_
  bv_omega
  exact .mk hq
def Bad (t:T2.T):Prop:=(∃ z:Str,t=.str z/\z.length<=1000/\PyData.strOk z=true/\Wm.Wd z=false)\/nM t/\∃ d,(∀ S,a7 S t=some d)/\Tng d
theorem Bad.isw {S:Sto}{Q:T2.T->Sto->Prop}{t:T2.T}(h:Bad t) (q:Q (.bl false) S):gi ([t]++[]) S Q:=by
 rcases h with ⟨z,rfl,hz,_,hw⟩|⟨h,_⟩
 ·exact ⟨_,rfl,.inl ⟨z,rfl,hz,by rw [hw];exact q⟩⟩
 ·exact ⟨_,rfl,.inr ⟨h,q⟩⟩
theorem gw {z:Str}(hz:z.length<=1000) (ho:PyData.strOk z=true):Tng (.str z):=by
 refine ⟨rfl,rfl,by simp [PyData.depth],?_⟩
 have:=StrLaws.reprText_len z λc hc=>by
  unfold PyData.strOk at ho
  rw [Array.all_eq_true_iff_forall_mem] at ho
  have:=of_decide_eq_true (ho c (by simpa using hc))
  omega
 show (reprText z).length<=10002
 omega
theorem Bad.fr {S:Sto}{t:T2.T}(h:Bad t):∃ d,a7 S t=some d/\Tng d:=by
 rcases h with ⟨z,rfl,hz,ho,_⟩|⟨_,d,hd,ht⟩
 ·exact ⟨_,rfl,gw hz ho⟩
 ·exact ⟨d,hd S,ht⟩
def ik:WSp:=λts S Q=>∃ (m:Int×Int) (era:Int),ts=[mkT m,.int era]/\m.2<=era/\Q (.int (wrt m era)) S
theorem A5 {S:Sto}{Q:T->Sto->Prop}{m:Int×Int}{era:Int}(h0:m.2<=era) (h:Q (.int (wrt m era)) S):ik ([mkT m,.int era]++[]) S Q:=⟨m,era,rfl,h0,h⟩
theorem pj:FnScope fh fh (ai fN):=by nofun
theorem zb {f:Addr}{fd:FuncData}(F:Fun K "worth_at" "worth_at" fN f fd):FnOk P w K mg base CX0 1 f fd fh (lSp K ik):=by
 refine aZ F pj (λts S Q h=>?_) λcdv A outer s H E hr=>?_
 ·obtain ⟨m,era,rfl,_⟩:=h;rfl
 have nd:=pj.nd
 refine ⟨_,((ak (az (aA EL (aB rfl (aa 0) ag (λ_ _=>rfl)) (aA gN (aa 1) (aB rfl (aa 0) ag (λ_ _=>rfl))))))),λts S Q h=>?_⟩
 obtain ⟨m,era,rfl,h0,hq⟩:=h
 ac_nf
 unfold mkT
 bv_omega
 exact .mk hq
def jP:WSp:=λts S Q=>∃ (m:Int×Int) (era n:Int),ts=[mkT m,.int era,.int n]/\m.2<=era/\Q (mkT (wrt m era+n,era)) S
theorem DL {S:Sto}{Q:T->Sto->Prop}{m:Int×Int}{era n:Int}(h0:m.2<=era) (h:Q (mkT (wrt m era+n,era)) S):jP ([mkT m,.int era,.int n]++[]) S Q:=⟨m,era,n,rfl,h0,h⟩
theorem oY:FnScope gY gY (ai fG):=by nofun
theorem Bb {f f1:Addr}{fd fd1:FuncData}(F:Fun K "used_mark" "used_mark" fG f fd) (G_worth_at:FnOk P w K mg base CX0 1 f1 fd1 fh (lSp K ik)) (D_worth_at:Df K mg "worth_at" f1 fd1 fh):FnOk P w K mg base CX0 2 f fd gY (lSp K jP):=by
 refine aZ F oY (λts S Q h=>?_) λcdv A outer s H E hr=>?_
 ·obtain ⟨m,era,n,rfl,_⟩:=h;rfl
 have nd:=oY.nd
 refine ⟨_,((ak (az (aN (ae (aA (bp false) (ax G_worth_at D_worth_at hr.m (by rfl) (ae (aa 0) (ae (aa 1) af (ac rfl)) (ac rfl))) (aa 2)) (ae (aa 1) af (ac rfl)) (ac rfl)))))),λts S Q h=>?_⟩
 obtain ⟨m,era,n,rfl,h0,hq⟩:=h
 ac_nf
 bv_omega
 exact .mk hq
abbrev Ms:=List (Str×Int×Int)
structure Wo (C:Addr) (S:Sto) (p d:Addr) (n:Int) (ms:Ms):Prop where
 ins:S p=some (.ins C [("marks",.ref d),("now",.int n)])
 dct:S d=some (.dK (kt mkT ms))
theorem Wo.ne {S:Sto}{p d:Addr}{n:Int}{ms:Ms}(h:Wo C S p d n ms):p≠d:=λe=>by
 have:=h.ins
 rw [e,h.dct] at this;cases this
def m5 (C:Addr):WSp:=λts S Q=>∃ p,ts=[.ref p]/\S p=some (.ins C [])/\∀ d,S d=none->Q .non (put (put S d (.dK [])) p (.ins C [("marks",.ref d),("now",.int 0)]))
theorem oZ:FnScope vv9 vv9 (ai dA):=by nofun
theorem Bc {f:Addr}{fd:FuncData}(F:FunD K "__init__" "Wood.__init__" dA f fd) (T:Txt K mg C L Z):FnOk P w K mg base CX0 1 f fd vv9 (lSp K (m5 C)):=by
 refine bn F oZ (λts S Q h=>?_) λcdv A outer s H E hr=>?_
 ·obtain ⟨p,rfl,_⟩:=h;rfl
 have nd:=oZ.nd
 refine ⟨_,((al (ir rfl T.gm (aa 0) eS)
   (ak (ir rfl T.gn (aa 0) ag)))),λts S Q h=>?_⟩
 obtain ⟨p,rfl,hp,hq⟩:=h
 ac_nf
 bv_omega
 intro d hd
 have hne:p≠d:=λe=>by rw [e,hd] at hp;cases hp
 bv_omega
 refine mR aC rfl (Nat.le_of_ble_eq_true rfl) ?_
 rw [cg]
 exact .mk (hq d hd)
def jZ (C:Addr):WSp:=λts S Q=>∃ p d n ms z m,ts=[.ref p,.str z]/\Wo C S p d n ms/\look ms z=some m/\Q (mkT m) S
theorem tY {S:Sto}{Q:T->Sto->Prop}{p d:Addr}{n:Int}{ms:Ms}{z:Str}{m:Int×Int}(h1:Wo C S p d n ms) (h2:look ms z=some m) (h:Q (mkT m) S):jZ C ([.ref p,.str z]++[]) S Q:=⟨p,d,n,ms,z,m,rfl,h1,h2,h⟩
theorem ja:FnScope vv0 vv0 (ai cN):=by nofun
theorem Bd {f:Addr}{fd:FuncData}(F:FunD K "mark_of" "Wood.mark_of" cN f fd) (T:Txt K mg C L Z):FnOk P w K mg base CX0 1 f fd vv0 (lSp K (jZ C)):=by
 refine bn F ja (λts S Q h=>?_) λcdv A outer s H E hr=>?_
 ·obtain ⟨p,d,n,ms,z,m,rfl,_⟩:=h;rfl
 have nd:=ja.nd
 refine ⟨_,((al (aK (ay (cf w rfl) (aa 1) (aJ rfl T.gm (aa 0)) (by with_unfolding_all rfl))
    (ak cW)
    aQ)
   (ak (az (a6 w rfl (aJ rfl T.gm (aa 0)) (aa 1) (λ_ _=>rfl)))))),λts S Q h=>?_⟩
 obtain ⟨p,d,n,ms,z,m,rfl,⟨hw,hd⟩,hm,hq⟩:=h
 have hv:aO (kt mkT ms) (Sum.inr z)=some (mkT m):=by rw [aR,hm];rfl
 ac_nf
 bv_omega
 refine a8 hd rfl ?_
 rw [hv]
 subst_eqs
 bv_omega
 refine gQ hd rfl hv ?_
 exact .mk hq
def nN (C:Addr):WSp:=λts S Q=>∃ p d n ms z c,ts=[.ref p,.str z,.int c]/\Wo C S p d n ms/\ms.length<=100/\Wm.Wd z=true/\look ms z=none/\Q .non (put S d (.dK (kt mkT (ms++[(z,c,n)]))))
theorem jg:FnScope vv2 vv2 (ai cT):=by nofun
theorem DN {f f1:Addr}{fd fd1:FuncData}(F:FunD K "put" "Wood.put" cT f fd) (T:Txt K mg C L Z) (G_is_word:FnOk P w K mg base CX0 3 f1 fd1 ["thing"] (lSp K gi)) (D_is_word:Df K mg "is_word" f1 fd1 ["thing"]):FnOk P w K mg base CX0 4 f fd vv2 (lSp K (nN C)):=by
 refine bn F jg (λts S Q h=>?_) λcdv A outer s H E hr=>?_
 ·obtain ⟨p,d,n,ms,z,m,rfl,_⟩:=h;rfl
 have nd:=jg.nd
 refine ⟨_,((al (aK (ck (bv (ax G_is_word D_is_word hr.m (by rfl) (ae (aa 1) af (ac rfl)))))
    (ak cW)
    aQ)
   (al (aK (ay (cH w rfl) (aa 1) (aJ rfl T.gm (aa 0)) (by with_unfolding_all rfl))
    (ak cW)
    aQ)
   (ak (bR (λh g=>bP h g) (aN (ae (aa 2) (ae (aJ rfl T.gn (aa 0)) af (ac rfl)) (ac rfl))) (cu (aJ rfl T.gm (aa 0)) (aa 1) (d5 (d8 hr)) (λh1 h2 h3=>cj h1 h2 h3))))))),λts S Q h=>?_⟩
 obtain ⟨p,d,n,ms,z,c,rfl,⟨hw,hd⟩,hl,hz,hm,hq⟩:=h
 have hv:aO (kt mkT ms) (Sum.inr z)=none:=by rw [aR,hm];rfl
 have hzl:=Wm.eQ hz
 ac_nf
 bv_omega
 refine ⟨_,rfl,.inl ⟨z,rfl,by omega,?_⟩⟩
 rw [hz]
 bv_omega
 refine a8 hd rfl ?_
 rw [hv]
 subst_eqs
 bv_omega
 refine dH hd rfl (by rw [cE,sizeLine_eq];omega) ?_
 rw [show (T2.T.tup [.int c,.int n])=mkT (c,n) from rfl,d7,iE _ (bO.mp hm)]
 exact .mk hq
def uV (C:Addr):WSp:=λts S Q=>∃ p d n ms z c m,ts=[.ref p,.str z,.int c]/\Wo C S p d n ms/\ms.length<=100/\look ms z=some m/\m.2<=n/\Q .non (put S d (.dK (kt mkT (pu ms z (wrt m n+c,n)))))
theorem jh:FnScope vv3 vv3 (ai cU):=by nofun
theorem DO {f f1 f2:Addr}{fd fd1 fd2:FuncData}(F:FunD K "use" "Wood.use" cU f fd) (T:Txt K mg C L Z) (G_used_mark:FnOk P w K mg base CX0 2 f1 fd1 gY (lSp K jP)) (D_used_mark:Df K mg "used_mark" f1 fd1 gY)
  (G_Wood_mark_of:FnOk P w K mg base CX0 1 f2 fd2 vv0 (lSp K (jZ C))) (M_Wood_mark_of:Meth K C "mark_of" f2) (B_Wood_mark_of:aq K fd2 vv0 []):FnOk P w K mg base CX0 3 f fd vv3 (lSp K (uV C)):=by
 refine bn F jh (λts S Q h=>?_) λcdv A outer s H E hr=>?_
 ·obtain ⟨p,d,n,ms,z,c,m,rfl,_⟩:=h;rfl
 have nd:=jh.nd
 refine ⟨_,((ak (bR (λh g=>bP h g) (ax G_used_mark D_used_mark hr.m (by rfl) (ae (ba (T.gf M_Wood_mark_of) G_Wood_mark_of B_Wood_mark_of hr.m (aa 0) (ae (aa 1) af (ac rfl))) (ae (aJ rfl T.gn (aa 0)) (ae (aa 2) af (ac rfl)) (ac rfl)) (ac rfl))) (cu (aJ rfl T.gm (aa 0)) (aa 1) (d5 (d8 hr)) (λh1 h2 h3=>cj h1 h2 h3))))),λts S Q h=>?_⟩
 obtain ⟨p,d,n,ms,z,c,m,rfl,⟨hw,hd⟩,hl,hm,hn,hq⟩:=h
 ac_nf
 bv_omega
 refine tY ⟨hw,hd⟩ hm ?_
 bv_omega
 refine dH hd rfl (by rw [cE,sizeLine_eq];omega) ?_
 rw [d7]
 exact .mk hq
def qH (C:Addr):WSp:=λts S Q=>∃ p d n ms z m,ts=[.ref p,.str z]/\Wo C S p d n ms/\look ms z=some m/\Q .non (put S d (.dK (kt mkT (dr ms z))))
theorem jb:FnScope vv0 vv0 (ai cO):=by nofun
theorem xL {f f2:Addr}{fd fd2:FuncData}(F:FunD K "strike" "Wood.strike" cO f fd) (T:Txt K mg C L Z)
  (G_Wood_mark_of:FnOk P w K mg base CX0 1 f2 fd2 vv0 (lSp K (jZ C))) (M_Wood_mark_of:Meth K C "mark_of" f2) (B_Wood_mark_of:aq K fd2 vv0 []):FnOk P w K mg base CX0 2 f fd vv0 (lSp K (qH C)):=by
 refine bn F jb (λts S Q h=>?_) λcdv A outer s H E hr=>?_
 ·obtain ⟨p,d,n,ms,z,m,rfl,_⟩:=h;rfl
 have nd:=jb.nd
 refine ⟨_,((al (bI (ba (T.gf M_Wood_mark_of) G_Wood_mark_of B_Wood_mark_of hr.m (aa 0) (ae (aa 1) af (ac rfl))))
   (ak (bI (bX rfl PySem.F.plainAttrs_dict PySem.F.slot_dict_pop PySem.F.type_dict_pop jW (aJ rfl T.gm (aa 0)) (ae (aa 1) af (ac rfl)) (λh1 h2 h3=>bQ PySem.F.plainAttrs_dict PySem.F.slot_dict_pop PySem.F.type_dict_pop h2 h1 h3)))))),λts S Q h=>?_⟩
 obtain ⟨p,d,n,ms,z,m,rfl,⟨hw,hd⟩,hm,hq⟩:=h
 have hv:aO (kt mkT ms) (Sum.inr z)=some (mkT m):=by rw [aR,hm];rfl
 ac_nf
 bv_omega
 refine tY ⟨hw,hd⟩ hm ?_
 bv_omega
 refine jX hd rfl hv ?_
 rw [jI]
 exact .mk hq
def tZ (C:Addr):WSp:=λts S Q=>∃ p d n ms c,ts=[.ref p,.int c]/\Wo C S p d n ms/\Q .non (put S p (.ins C [("marks",.ref d),("now",.int (n+c))]))
theorem o0:FnScope cJ cJ (ai dB):=by nofun
theorem Be {f:Addr}{fd:FuncData}(F:FunD K "fade" "Wood.fade" dB f fd) (T:Txt K mg C L Z):FnOk P w K mg base CX0 1 f fd cJ (lSp K (tZ C)):=by
 refine bn F o0 (λts S Q h=>?_) λcdv A outer s H E hr=>?_
 ·obtain ⟨p,d,n,ms,c,rfl,_⟩:=h;rfl
 have nd:=o0.nd
 refine ⟨_,((ak (xt rfl T.gn (aa 0) (aa 1)))),λts S Q h=>?_⟩
 obtain ⟨p,d,n,ms,c,rfl,⟨hw,hd⟩,hq⟩:=h
 ac_nf
 bv_omega
 exact .mk hq
theorem zc {S:Sto}{a:Addr}{o:O}(h:S a=some o):put S a o=S:=by
 funext b
 by_cases e:b=a
 ·subst e;rw [aC,h]
 ·rw [aE e]
theorem jn {α:Type}{grd:Sto->Prop}{g:WG}{tt:WT}{te:WE}{Q:List T2.T->Sto->Prop}(f:α->T2.T) (φ:α->Option T2.T) (cs:StT){ls:List α}{S:Sto}(hg:grd S) (hz:ls.length<=sizeLine)
  (step:∀ a∈ls,∀ (u v:Option T2.T) (acc:List T2.T) (N:List T2.T->StT->Sto->Prop),acc.length<sizeLine->(∀ u' v',N (acc++(φ a).toList) (u'::v'::cs) S) ->
   g (f a) (u::v::cs) S λσ2 S2=>tt σ2 S2 λb S3=>if b=true then te σ2 S3 λy S4=>acc.length<sizeLine/\N (acc++[y]) σ2 S4 else N acc σ2 S3)
  (done:Q (ls.filterMap φ) S):dM grd g tt te Q (ls.map f) [] (none::none::cs) S:=by
 refine jp (λitems acc σ' S'=>∃ pre suf u v,ls=pre++suf/\items=suf.map f/\acc=pre.filterMap φ/\σ'=u::v::cs/\S'=S) ⟨[],ls,none,none,rfl,rfl,rfl,rfl,rfl⟩ ?_ ?_
 ·rintro t ts acc σ' S' N ⟨pre,suf,u,v,e,e2,rfl,rfl,rfl⟩ hN
  cases suf with
  |nil=>cases e2
  |cons a r =>
   simp only [List.map_cons,List.cons.injEq] at e2
   obtain ⟨rfl,rfl⟩:=e2
   refine ⟨hg,step a (by rw [e];simp) u v _ N ?_ λu' v'=>hN _ _ _ ⟨pre++[a],r,u',v',by rw [e];simp,rfl,?_,rfl,rfl⟩⟩
   ·have h1:=List.length_filterMap_le φ pre
    have h2:ls.length=pre.length+(r.length+1):=by rw [e];simp
    omega
   ·rw [List.filterMap_append];cases h:φ a<;>simp [h]
 ·rintro acc σ' S' ⟨pre,suf,u,v,e,e2,rfl,rfl,rfl⟩
  have:suf=[]:=by cases suf with|nil=>rfl|cons _ _=>cases e2
  subst this
  rw [List.append_nil] at e
  subst e
  exact ⟨hg,done⟩
def g6 (ms:Ms) (b:Str):Ms:=ms.filter λa=>PySem.Txt.startswith a.1 b
def rtd (ms:Ms) (n:Int) (b:Str):List Rt:=(g6 ms b).map λa=>(a.1,wrt a.2 n)
theorem t4 {ms:Ms}{n:Int}{b:Str}(h:(ms.map (·.1)).Nodup):(rtd ms n b).Nodup:=by
 refine qD ?_
 unfold rtd g6
 rw [List.map_map]
 exact (List.Sublist.map _ (List.filter_sublist)).nodup h
theorem jJ (ms:Ms) (n:Int) (b:Str):(rtd ms n b).length<=ms.length:=by
 unfold rtd g6
 rw [List.length_map];exact List.length_filter_le _ _
def mt (C:Addr):WSp:=λts S Q=>∃ p d n ms b,ts=[.ref p,.str b]/\Wo C S p d n ms/\ms.length<=100/\(∀ a∈ms,a.2.2<=n)/\Q (.lst ((rtd ms n b).map rt)) S
theorem oN:FnScope vv7 vv7 (ai du):=by nofun
theorem zd {f f1:Addr}{fd fd1:FuncData}(F:FunD K "begun" "Wood.begun" du f fd) (T:Txt K mg C L Z) (G_worth_at:FnOk P w K mg base CX0 1 f1 fd1 fh (lSp K ik)) (D_worth_at:Df K mg "worth_at" f1 fd1 fh):FnOk P w K mg base CX0 2 f fd vv7 (lSp K (mt C)):=by
 refine bn F oN (λts S Q h=>?_) λcdv A outer s H E hr=>?_
 ·obtain ⟨p,d,n,ms,b,rfl,_⟩:=h;rfl
 have nd:=oN.nd
 refine ⟨_,((ak (az (FM w rfl (dG false vv19 2 [0,1] rfl (AG w rfl rfl (aJ rfl T.gm (aa 0))) (λ_ _ _ _=>(d4 (λh=>dX (n:=2) rfl rfl h) (bH (aT (i:=0) (show List.Nodup (vv19:List Str) from by decide +kernel) rfl (Or.inl rfl)) (bH (aT (i:=1) (show List.Nodup (vv19:List Str) from by decide +kernel) rfl (Or.inl rfl)) dY (λh1 h2=>bG h1 h2)) (λh1 h2=>bG h1 h2)))) (λ_ _ _ _=>(l9 (bv (bX rfl PySem.F.plainAttrs_str PySem.F.slot_str_startswith PySem.F.type_str_startswith yz (aa 0) (ae (aa 3) af (ac rfl)) (λh1 h2 h3=>bQ PySem.F.plainAttrs_str PySem.F.slot_str_startswith PySem.F.type_str_startswith h2 h1 h3))))) (λ_ _ _ _=>(aN (ae (aa 0) (ae (ax G_worth_at D_worth_at hr.m (by rfl) (ae (aa 1) (ae (aJ rfl T.gn (aa 2)) af (ac rfl)) (ac rfl))) af (ac rfl)) (ac rfl))))))))),λts S Q h=>?_⟩
 obtain ⟨p,d,n,ms,b,rfl,W,hl,hn,hq⟩:=h
 have hw:=W.ins
 have hd:=W.dct
 have hpd:=W.ne
 ac_nf
 bv_omega
 intro od kvs
 rw [show (kt mkT ms).map ke=ms.map (λa=>T2.T.tup [.str a.1,mkT a.2]) by unfold kt;rw [List.map_map];rfl]
 refine jn (λa:Str×Int×Int=>T2.T.tup [.str a.1,mkT a.2]) (λa=>if PySem.Txt.startswith a.1 b=true then some (rt (a.1,wrt a.2 n)) else none) [some (.ref p),some (.str b)] aC (by rw [sizeLine_eq];omega) (λa ha u v acc N hacc hN=>?_) ?_
 ·have hn1:=hn a ha
  bv_omega
  refine ifB (λhb=>?_) λhb=>?_
  ·bv_omega
   rw [if_pos hb] at hN
   exact ⟨hacc,hN _ _⟩
  ·rw [hb] at hN
   have:=hN (some (.str a.1)) (some (mkT a.2))
   rw [if_neg (by decide),Option.toList_none,List.append_nil] at this
   exact this
 rw [show (ms.filterMap λa=>if PySem.Txt.startswith a.1 b=true then some (rt (a.1,wrt a.2 n)) else none)=(rtd ms n b).map rt by
  unfold rtd g6
  clear hd hl hn hq W
  induction ms with
  |nil=>rfl
  |cons a l ih =>
   rw [List.filterMap_cons,List.filter_cons]
   by_cases e:PySem.Txt.startswith a.1 b=true
   ·rw [if_pos e,if_pos e];simp only [List.map_cons,ih]
   ·rw [if_neg e,if_neg e];exact ih]
 bv_omega
 refine Hg aC ?_
 rw [cg,zc hd]
 exact .mk hq
def kf (C:Addr):WSp:=λts S Q=>∃ p d n ms z,ts=[.ref p,.str z]/\Wo C S p d n ms/\Q (.bl (look ms z).isSome) S
theorem pk:FnScope vv0 vv0 (ai dC):=by nofun
theorem DP {f:Addr}{fd:FuncData}(F:FunD K "has" "Wood.has" dC f fd) (T:Txt K mg C L Z):FnOk P w K mg base CX0 1 f fd vv0 (lSp K (kf C)):=by
 refine bn F pk (λts S Q h=>?_) λcdv A outer s H E hr=>?_
 ·obtain ⟨p,d,n,ms,z,rfl,_⟩:=h;rfl
 have nd:=pk.nd
 refine ⟨_,((ak (az (bB (cH w rfl) (aa 1) (aJ rfl T.gm (aa 0)) (by with_unfolding_all rfl))))),λts S Q h=>?_⟩
 obtain ⟨p,d,n,ms,z,rfl,⟨hw,hd⟩,hq⟩:=h
 ac_nf
 bv_omega
 refine a8 hd rfl ?_
 rw [aR,Option.isSome_map,Bool.false_xor]
 exact .mk hq
def kyW (a:Rt):Ky:=.cons (.s a.1) (.cons (.i a.2) .nil)
def unW:T2.T->Ky
 |.tup [.str z,.int i]=>.cons (.s z) (.cons (.i i) .nil)
 |_=>.nil
def cK (l:List Rt):Prop:=(l.map (·.1)).Pairwise λx y=>Ky.lt (.s y) (.s x)=false
theorem ze (ms:Ms) (n:Int):rtd ms n ""=ms.map λa=>(a.1,wrt a.2 n):=by
 unfold rtd g6
 rw [List.filter_eq_self.mpr λa _=>?_]
 rw [Tm.kO]
 refine decide_eq_true ?_
 have e:=Tm.lB a.1 0
 have:Tm.tl (PySem.Txt.slice a.1 none (some 0))=Tm.tl (Str.ofString ""):=by
  rw [show (some (0:Int))=some ((0:Nat):Int) from rfl,e];rfl
 cases h:PySem.Txt.slice a.1 none (some (((Str.ofString "").length:Nat):Int)) with
 |mk cps =>
  have h2:PySem.Txt.slice a.1 none (some 0)=⟨cps⟩:=h
  rw [h2] at this
  show (⟨cps⟩:Str)=⟨#[]⟩
  congr 1
  exact Array.toList_inj.mp this
def lV (C:Addr):WSp:=λts S Q=>∃ p d n ms,ts=[.ref p]/\Wo C S p d n ms/\ms.length<=60/\(∀ a∈ms,a.2.2<=n)/\(ms.map (·.1)).Nodup/\(∀ a∈ms,Wm.Wd a.1=true)/\∀ l:List Rt,l.Perm (ms.map λa=>(a.1,wrt a.2 n))->cK l->Q (.lst (l.map rt)) S
theorem oO:FnScope vv9 vv9 (ai dw):=by nofun
theorem xM {f f2:Addr}{fd fd2:FuncData}(F:FunD K "words" "Wood.words" dw f fd) (T:Txt K mg C L Z)
  (G_Wood_begun:FnOk P w K mg base CX0 2 f2 fd2 vv7 (lSp K (mt C))) (M_Wood_begun:Meth K C "begun" f2) (B_Wood_begun:aq K fd2 vv7 []):FnOk P w K mg base CX0 4 f fd vv9 (lSp K (lV C)):=by
 refine bn F oO (λts S Q h=>?_) λcdv A outer s H E hr=>?_
 ·obtain ⟨p,d,n,ms,rfl,_⟩:=h;rfl
 have nd:=oO.nd
 refine ⟨_,((ak (az (aM (tP false rfl hr.m) (by rfl) T.sorted PyProof.Rows.boot_sorted (ae (ba (T.gf M_Wood_begun) G_Wood_begun B_Wood_begun hr.m (aa 0) (ae aD af (ac rfl))) af (ac rfl)))))),λts S Q h=>?_⟩
 obtain ⟨p,d,n,ms,rfl,W,hl,hn,hnd,hwd,hq⟩:=h
 have hw:=W.ins
 ac_nf
 bv_omega
 refine ⟨p,d,n,ms,_,rfl,W,by omega,hn,?_⟩
 rw [ze]
 bv_omega
 refine tQ (ls:=ms.map λa=>(a.1,wrt a.2 n)) kyW unW (.cons (.s ⟨#[]⟩) (.cons (.i 0) .nil)) rfl (λa _=>rfl) (by rw [List.length_map];omega) rfl (by decide) (λa ha=>⟨?_,rfl⟩) λl' hp hs=>?_
 ·obtain ⟨x,hx,rfl⟩:=List.mem_map.mp ha
  have:=Wm.nG (hwd x hx)
  simp [kyW,S6.Ky.ok,S6.Ky.ok.isRow,this]
 ·refine .mk (hq l' hp ?_)
  have hnd2:(l'.map (·.1)).Nodup:=(hp.map _).nodup_iff.mpr (by rw [List.map_map];exact hnd)
  unfold cK
  unfold List.Nodup at hnd2
  rw [List.pairwise_map] at hnd2 ⊢
  refine (hs.and hnd2).imp fun {x y} q=>?_
  have q1:Ky.lt (kyW y) (kyW x)=false:=q.1
  unfold kyW Ky.lt at q1
  rw [if_neg (λe=>q.2 (Ky.s.inj e).symm)] at q1
  exact q1
def t5:WSp:=λts S Q=>∃ a:Rt,ts=[rt a]/\Q (tre (ky a)) S
theorem pq:FnScope ["pair"] ["pair"] (ai fM):=by nofun
theorem Bf {f:Addr}{fd:FuncData}(F:Fun K "rank_key" "rank_key" fM f fd):FnOk P w K mg base CX0 1 f fd ["pair"] (lSp K t5):=by
 refine aZ F pq (λts S Q h=>?_) λcdv A outer s H E hr=>?_
 ·obtain ⟨a,rfl,_⟩:=h;rfl
 have nd:=pq.nd
 refine ⟨_,((ak (az (aN (ae (nz (aB rfl (aa 0) ag (λ_ _=>rfl))) (ae (aB rfl (aa 0) ag (λ_ _=>rfl)) af (ac rfl)) (ac rfl)))))),λts S Q h=>?_⟩
 obtain ⟨a,rfl,hq⟩:=h
 rw [jU] at hq
 ac_nf
 unfold rt
 bv_omega
 exact .mk hq
def m6:WSp:=λts S Q=>∃ (x:T2.T) (l:List Rt) (m:Int),ts=[x,.int m]/\aS S x=some (l.map rt)/\l.length<64/\l.Nodup/\0<=m/\Q (.lst (((bst l).take m.toNat).map rt)) S
theorem pJ:FnScope iY iY (ai fW):=by nofun
theorem Bg {f f1:Addr}{fd fd1:FuncData}(F:Fun K "best_of" "best_of" fW f fd) (T:Txt K mg C L Z) (G_rank_key:FnOk P w K mg base CX0 1 f1 fd1 ["pair"] (lSp K t5)) (D_rank_key:Df K mg "rank_key" f1 fd1 ["pair"]):FnOk P w K mg base CX0 4 f fd iY (lSp K m6):=by
 refine aZ F pJ (λts S Q h=>?_) λcdv A outer s H E hr=>?_
 ·obtain ⟨x,l,m,rfl,_⟩:=h;rfl
 have nd:=pJ.nd
 refine ⟨_,((ak (az (eK false rfl (Ax false rfl G_rank_key D_rank_key hr.m (by rfl) T.sorted (by rfl) (ae (aa 0) af (ac rfl))) gr (dZ (aa 1)))))),λts S Q h=>?_⟩
 obtain ⟨x,l,m,rfl,hv,h64,hn,hm,hq⟩:=h
 ac_nf
 bv_omega
 refine Ay kyT (ky ("",0)) hv h64 rfl (by decide) (λa ha=>⟨rfl,rfl,λS' Q' q=>⟨a,rfl,q⟩⟩) λl' p hs=>?_
 rw [qb hn p hs]
 bv_omega
 rw [jB hm]
 exact .mk hq
def mv (C XA:Addr):bL:=λts S R=>∃ p d n ms z,ts=[.ref p,.str z]/\Wo C S p d n ms/\look ms z=none/\z.length<=1000/\PyData.strOk z=true/\R XA S
theorem Bi {f:Addr}{fd:FuncData}(F:FunD K "mark_of" "Wood.mark_of" cN f fd) (T:Txt K mg C L Z):FnOk P w K mg base (CX1 P w) 1 f fd vv0 (bb K (mv C Z.A)):=by
 refine dE F ja (λts S Q h=>?_) λcdv A outer s H E hr=>?_
 ·obtain ⟨p,d,n,ms,z,rfl,_⟩:=h;rfl
 have nd:=ja.nd
 refine ⟨_,((aP (b5 (ay (cf w rfl) (aa 1) (aJ rfl T.gm (aa 0)) (by with_unfolding_all rfl)) (aP (eJ T.x_Absent T.k_Absent rfl (by rfl) T.mg_Absent (ae (e8 rfl hr.gd hr.units (aa 1)) af (ac rfl))))
    dU))),λts S Q h=>?_⟩
 obtain ⟨p,d,n,ms,z,rfl,⟨hw,hd⟩,hm,hz,hzo,hq⟩:=h
 have hv:aO (kt mkT ms) (Sum.inr z)=none:=by rw [aR,hm];rfl
 ac_nf
 bv_omega
 refine a8 hd rfl ?_
 rw [hv]
 subst_eqs
 bv_omega
 refine ⟨⟨_,rfl,gw hz hzo⟩,λe=>?_⟩
 bv_omega
 exact ⟨Nat.le_of_ble_eq_true rfl,.mk hq⟩
def t6 (C XN XT:Addr):bL:=λts S R=>∃ p d n ms t c,ts=[.ref p,t,.int c]/\Wo C S p d n ms/\(Bad t/\R XN S\/∃ z m,t=.str z/\z.length<=1000/\PyData.strOk z=true/\Wm.Wd z=true/\look ms z=some m/\R XT S)
theorem DQ {f f1:Addr}{fd fd1:FuncData}(F:FunD K "put" "Wood.put" cT f fd) (T:Txt K mg C L Z) (G_is_word:FnOk P w K mg base CX0 3 f1 fd1 ["thing"] (lSp K gi)) (D_is_word:Df K mg "is_word" f1 fd1 ["thing"]):FnOk P w K mg base (CX1 P w) 4 f fd vv2 (bb K (t6 C Z.N Z.T)):=by
 refine dE F jg (λts S Q h=>?_) λcdv A outer s H E hr=>?_
 ·obtain ⟨p,d,n,ms,t,c,rfl,_⟩:=h;rfl
 have nd:=jg.nd
 refine ⟨_,((mT (aP (b5 (ck (bv (ax G_is_word D_is_word hr.m (by rfl) (ae (aa 1) af (ac rfl))))) (aP (eJ T.x_NoWord T.k_NoWord rfl (by rfl) T.mg_NoWord (ae (e8 rfl hr.gd hr.units (aa 1)) af (ac rfl))))
    dU))
   (lP (aK (ck (bv (ax G_is_word D_is_word hr.m (by rfl) (ae (aa 1) af (ac rfl)))))
    (ak cW)
    aQ)
   (aP (b5 (ay (cH w rfl) (aa 1) (aJ rfl T.gm (aa 0)) (by with_unfolding_all rfl)) (aP (eJ T.x_Twice T.k_Twice rfl (by rfl) T.mg_Twice (ae (e8 rfl hr.gd hr.units (aa 1)) af (ac rfl))))
    dU))))),λts S Q h=>?_⟩
 obtain ⟨p,d,n,ms,t,c,rfl,⟨hw,hd⟩,h⟩:=h
 ac_nf
 rcases h with ⟨hm,hq⟩|⟨z,m,rfl,hz,hzo,hm,hl,hq⟩
 ·refine nH (kE ?_)
  bv_omega
  refine hm.isw ?_
  bv_omega
  refine ⟨hm.fr,λe=>?_⟩
  bv_omega
  exact ⟨Nat.le_of_ble_eq_true rfl,.mk hq⟩
 ·have hv:aO (kt mkT ms) (Sum.inr z)=some (mkT m):=by rw [aR,hl];rfl
  refine nI (jY ?_)
  bv_omega
  refine ⟨_,rfl,.inl ⟨z,rfl,hz,?_⟩⟩
  rw [hm]
  bv_omega
  refine a8 hd rfl ?_
  rw [hv]
  subst_eqs
  bv_omega
  refine ⟨⟨_,rfl,gw hz hzo⟩,λe=>?_⟩
  bv_omega
  exact ⟨Nat.le_of_ble_eq_true rfl,.mk hq⟩
def t7 (C XA:Addr):bL:=λts S R=>∃ p d n ms z c,ts=[.ref p,.str z,.int c]/\Wo C S p d n ms/\look ms z=none/\z.length<=1000/\PyData.strOk z=true/\R XA S
theorem DR {f f1 f2:Addr}{fd fd1 fd2:FuncData}(F:FunD K "use" "Wood.use" cU f fd) (T:Txt K mg C L Z) (D_used_mark:Df K mg "used_mark" f1 fd1 gY)
  (R_Wood_mark_of:FnOk P w K mg base (CX1 P w) 1 f2 fd2 vv0 (bb K (mv C Z.A))) (M_Wood_mark_of:Meth K C "mark_of" f2) (B_Wood_mark_of:aq K fd2 vv0 []):FnOk P w K mg base (CX1 P w) 3 f fd vv3 (bb K (t7 C Z.A)):=by
 refine dE F jh (λts S Q h=>?_) λcdv A outer s H E hr=>?_
 ·obtain ⟨p,d,n,ms,z,c,rfl,_⟩:=h;rfl
 have nd:=jh.nd
 refine ⟨_,((aP (DF (y3 D_used_mark (by rfl) (y1 (cX (T.gf M_Wood_mark_of) R_Wood_mark_of B_Wood_mark_of hr.m (aa 0) (ae (aa 1) af (ac rfl)))))))),λts S Q h=>?_⟩
 obtain ⟨p,d,n,ms,z,c,rfl,W,hm,hz,hzo,hq⟩:=h
 have hw:=W.ins
 ac_nf
 bv_omega
 exact ⟨p,d,n,ms,z,rfl,W,hm,hz,hzo,.mk hq⟩
def qf (C XA:Addr):bL:=λts S R=>∃ p d n ms z,ts=[.ref p,.str z]/\Wo C S p d n ms/\look ms z=none/\z.length<=1000/\PyData.strOk z=true/\R XA S
theorem xN {f f2:Addr}{fd fd2:FuncData}(F:FunD K "strike" "Wood.strike" cO f fd) (T:Txt K mg C L Z)
  (R_Wood_mark_of:FnOk P w K mg base (CX1 P w) 1 f2 fd2 vv0 (bb K (mv C Z.A))) (M_Wood_mark_of:Meth K C "mark_of" f2) (B_Wood_mark_of:aq K fd2 vv0 []):FnOk P w K mg base (CX1 P w) 3 f fd vv0 (bb K (qf C Z.A)):=by
 refine dE F jb (λts S Q h=>?_) λcdv A outer s H E hr=>?_
 ·obtain ⟨p,d,n,ms,z,rfl,_⟩:=h;rfl
 have nd:=jb.nd
 refine ⟨_,((aP (jG (cX (T.gf M_Wood_mark_of) R_Wood_mark_of B_Wood_mark_of hr.m (aa 0) (ae (aa 1) af (ac rfl)))))),λts S Q h=>?_⟩
 obtain ⟨p,d,n,ms,z,rfl,W,hm,hz,hzo,hq⟩:=h
 have hw:=W.ins
 ac_nf
 bv_omega
 exact ⟨p,d,n,ms,z,rfl,W,hm,hz,hzo,.mk hq⟩
structure Shw (D:List PyData):Prop where
 sh:PyData.showable (.list D)=true
 nd:PyData.hasDict (.list D)=false
 dp:PyData.depth (.list D)<=60
 sz:(PyData.shown (.list D)).length<=sizeLine
def One (e:PyData):Prop:=(PyData.shown e).length<=5000/\PyData.showable e=true/\PyData.hasDict e=false/\PyData.depth e<=5
theorem vT:∀ {D:List PyData},(∀ e∈D,One e)->((PyData.shownAll D).map (·.length)).sum<=5000 * D.length/\(PyData.shownAll D).length=D.length/\PyData.showableAll D=true/\PyData.hasDictAll D=false/\PyData.depthAll D<=5
 |[],_=>⟨Nat.le_refl _,rfl,rfl,rfl,by simp [PyData.depthAll]⟩
 |a::l,h=>by
  obtain ⟨r1,r2,r3,r4⟩:=h a List.mem_cons_self
  obtain ⟨i1,i2,i3,i4,i5⟩:=vT (D:=l) λb hb=>h b (List.mem_cons_of_mem _ hb)
  refine ⟨?_,?_,?_,?_,?_⟩
  ·simp only [List.map_cons,PyData.shownAll,List.sum_cons,List.length_cons]
   omega
  ·simp only [PyData.shownAll,List.length_cons,i2]
  ·simp only [PyData.showableAll,r2,i3,Bool.and_self]
  ·simp only [PyData.hasDictAll,r3,i4,Bool.or_self]
  ·simp only [PyData.depthAll,Nat.max_le];exact ⟨r4,i5⟩
theorem m7 {D:List PyData}(hl:D.length<64) (h:∀ e∈D,One e):Shw D:=by
 obtain ⟨i1,i2,i3,i4,i5⟩:=vT h
 refine ⟨by simp only [PyData.showable];exact i3,by simp only [PyData.hasDict];exact i4,by simp only [PyData.depth];omega,?_⟩
 have e1:=listText_len_le (PyData.shownAll D)
 show (listText (PyData.shownAll D)).length<=sizeLine
 rw [sizeLine_eq]
 omega
theorem t8 {z:Int}(h3:0<=z) (h4:z<=1000000000000):z.natAbs.log2<1920:=by
 by_cases hz:z.natAbs=0
 ·rw [hz];decide
 ·exact (Nat.log2_lt hz).mpr (Nat.lt_of_lt_of_le (show z.natAbs<2 ^ 40 by omega) (Nat.pow_le_pow_right (by decide) (by decide)))
theorem lW {a:Str}(h:Wm.Wd a=true):(reprText a).length<=300:=by
 have hl:=Wm.eQ h
 have e2:=StrLaws.reprText_len a λc hc=>by
  rcases Wm.qB h c hc with e|e
  ·rw [e];decide
  ·simp only [Sc.isL,Bool.and_eq_true,decide_eq_true_eq] at e;omega
 omega
abbrev Rw:=Str×Int×Bool
def rw3 (a:Rw):T2.T:=.tup [.str a.1,.int a.2.1,.bl a.2.2]
def rd (a:Rw):PyData:=.tuple [.str a.1,.int a.2.1,.bool a.2.2]
def Row (a:Rw):Prop:=Wm.Wd a.1=true/\0<=a.2.1/\a.2.1<=1000000000000
theorem sd:∀ l:List Rw,bf (l.map rw3)=some (l.map rd)
 |[]=>rfl
 |a::l=>by simp [bf,rw3,rd,bK,sd l]
theorem DS {a:Rw}(h:Row a):One (rd a):=by
 obtain ⟨h1,h3,h4⟩:=h
 have hlog:=t8 h3 h4
 refine ⟨?_,?_,by simp only [rd,PyData.hasDict,PyData.hasDictAll,Bool.or_self],by simp [rd,PyData.depth,PyData.depthAll]⟩
 ·have e1:=tupleText_len_le [reprText a.1,Str.ofString (toString a.2.1),PyData.shown (.bool a.2.2)]
  have e2:=lW h1
  have e3:(Str.ofString (toString a.2.1)).length<=1921:=by rw [PySem.ofString_length];exact int_text_length_le (by decide) hlog
  have e4:(PyData.shown (.bool a.2.2)).length<=5:=by cases a.2.2<;>decide +kernel
  simp only [List.map_cons,List.map_nil,List.sum_cons,List.sum_nil,List.length_cons,List.length_nil] at e1
  show (tupleText [reprText a.1,Str.ofString (toString a.2.1),PyData.shown (.bool a.2.2)]).length<=5000
  omega
 ·simp only [rd,PyData.showable,PyData.showableAll,Bool.and_true,Bool.true_and,decide_eq_true_eq]
  exact hlog
theorem DT {a:Rt}(h:Wm.Wd a.1=true) (h3:0<=a.2) (h4:a.2<=1000000000000):One (.tuple [.str a.1,.int a.2]):=by
 have hlog:=t8 h3 h4
 refine ⟨?_,?_,by simp only [PyData.hasDict,PyData.hasDictAll,Bool.or_self],by simp [PyData.depth,PyData.depthAll]⟩
 ·have e1:=tupleText_len_le [reprText a.1,Str.ofString (toString a.2)]
  have e2:=lW h
  have e3:(Str.ofString (toString a.2)).length<=1921:=by rw [PySem.ofString_length];exact int_text_length_le (by decide) hlog
  simp only [List.map_cons,List.map_nil,List.sum_cons,List.sum_nil,List.length_cons,List.length_nil] at e1
  show (tupleText [reprText a.1,Str.ofString (toString a.2)]).length<=5000
  omega
 ·simp only [PyData.showable,PyData.showableAll,Bool.and_true,Bool.true_and,decide_eq_true_eq]
  exact hlog
theorem Bj {a:Str}(h:Wm.Wd a=true):One (.str a):=by
 refine ⟨?_,rfl,rfl,by simp [PyData.depth]⟩
 have:=lW h
 show (reprText a).length<=5000
 omega
def lX:WSp:=λts S Q=>∃ x y D,ts=[x,y]/\tyT S x=some (.type "list")/\a7 S x=some (.list D)/\a7 S y=some (.list D)/\Shw D/\Q (.bl true) S
theorem m8 {S:Sto}{Q:T->Sto->Prop}{x y:T2.T}{D:List PyData}(h0:tyT S x=some (.type "list")) (h1:a7 S x=some (.list D)) (h2:a7 S y=some (.list D)) (h3:Shw D) (h:Q (.bl true) S):lX ([x,y]++[]) S Q:=⟨x,y,D,rfl,h0,h1,h2,h3,h⟩
theorem oF:FnScope iW iW (ai fu):=by nofun
theorem xO {f:Addr}{fd:FuncData}(F:Fun K "_law_is_told" "_law_is_told" fu f fd) (T:Txt K mg C L Z):FnOk P w K mg base CX0 2 f fd iW (lSp K lX):=by
 refine aZ F oF (λts S Q h=>?_) λcdv A outer s H E hr=>?_
 ·obtain ⟨x,y,D,rfl,_⟩:=h;rfl
 have nd:=oF.nd
 refine ⟨_,((ak (az (eO (aM (nA rfl) (by rfl) T.isinstance PyProof.Rows.boot_isinstance (ae (aa 0) (ae (nY (n:="list") (by rfl) T.list PyProof.Rows.boot_list) af (ac rfl)) (ac rfl))) (gL (bB (aX rfl hr.units) (aM (tR rfl hr.gd hr.units) (by rfl) T.repr PyProof.Rows.boot_repr (ae (aa 0) af (ac rfl))) (aM (tR rfl hr.gd hr.units) (by rfl) T.repr PyProof.Rows.boot_repr (ae (aa 1) af (ac rfl))) (aI _))))))),λts S Q h=>?_⟩
 obtain ⟨x,y,D,rfl,h0,h1,h2,h3,hq⟩:=h
 ac_nf
 bv_omega
 refine dN h0 T.ll ?_
 bv_omega
 refine ⟨x,D,rfl,h1,h3.sh,h3.nd,h3.dp,h3.sz,?_⟩
 bv_omega
 refine ⟨y,D,rfl,h2,h3.sh,h3.nd,h3.dp,h3.sz,?_⟩
 bv_omega
 rw [decide_eq_true rfl]
 exact .mk hq
def ib:WSp:=λts S Q=>∃ c t:Int,ts=[.int c,.int t]/\0<=c/\c<18446744073709551616/\0<=t/\Q (.int (c / 2 ^ t.toNat)) S
theorem y8 {S:Sto}{Q:T->Sto->Prop}{c t:Int}(h1:0<=c) (h2:c<18446744073709551616) (h3:0<=t) (h:Q (.int (c / 2 ^ t.toNat)) S):ib ([.int c,.int t]++[]) S Q:=⟨c,t,rfl,h1,h2,h3,h⟩
theorem oP:FnScope ["_law_count_here","_law_times","_law_k"] gX (ai fD):=by nofun
theorem xP {f:Addr}{fd:FuncData}(F:Fun K "_law_halved" "_law_halved" fD f fd) (T:Txt K mg C L Z):FnOk P w K mg base CX0 1 f fd gX (lSp K ib):=by
 refine aZ F oP (λts S Q h=>?_) λcdv A outer s H E hr=>?_
 ·obtain ⟨c,t,rfl,_⟩:=h;rfl
 have nd:=oP.nd
 refine ⟨_,((al (d9 PassesOwn.never rfl (gb (by rfl) T.range (aM (ER rfl) (by rfl) T.min PyProof.Rows.boot_min (ae ag (ae (aa 1) af (ac rfl)) (ac rfl)))) (aT (i:=2) nd rfl (Or.inl rfl))
    (ak (aG (i:=0) nd rfl (Or.inl rfl) (aA ny (aa 0) ag))))
   (ak (az (aa 0))))),λts S Q h=>?_⟩
 obtain ⟨c,t,rfl,h1,h2,h3,hq⟩:=h
 ac_nf
 bv_omega
 refine kT (λk σ' S'=>(∃ u,σ'=[some (.int (c / 2 ^ k)),some (.int t),u])/\S'=S) ⟨⟨none,by simp⟩,rfl⟩ ?_ ?_
 ·rintro k σ' S' N hk ⟨⟨u,rfl⟩,rfl⟩ hN
  refine ⟨trivial,?_⟩
  bv_omega
  refine hN _ _ ⟨⟨some (.int (0+(k:Int))),?_⟩,rfl⟩
  rw [Int.pow_succ,<- Int.ediv_ediv_of_nonneg (Int.le_of_lt (Int.pow_pos (by decide)))]
 ·rintro σ' S' ⟨⟨u,rfl⟩,rfl⟩
  refine ⟨trivial,?_⟩
  bv_omega
  refine .mk ?_
  split
  ·exact hq
  ·have e1:c / 2 ^ (64:Int).toNat=0:=Int.ediv_eq_zero_of_lt h1 (by simpa using h2)
   have e2:c / 2 ^ t.toNat=0:=by
    refine Int.ediv_eq_zero_of_lt h1 ?_
    have h4:(2:Int) ^ 64<=2 ^ t.toNat:=by
     have:=Nat.pow_le_pow_right (n:=2) (by decide) (show 64<=t.toNat by omega)
     exact_mod_cast this
    have:(2:Int) ^ 64=18446744073709551616:=by decide
    omega
   rw [e1];rw [e2] at hq;exact hq
def un2:T2.T->Ky
 |.tup [.int i,.str z]=>.cons (.i i) (.cons (.s z) .nil)
 |_=>.nil
theorem DU (a:Rt):un2 (tre (ky a))=ky a:=by rw [jU];rfl
def mw:WSp:=λts S Q=>∃ (x:T2.T) (l:List Rt),ts=[x]/\aS S x=some (l.map rt)/\l.length<64/\l.Nodup/\Q (.lst ((bst l).map rt)) S
theorem pt:FnScope ["_law_rated_here","_law_turned"] kI (ai fT):=by nofun
theorem zg {f:Addr}{fd:FuncData}(F:Fun K "_law_best" "_law_best" fT f fd) (T:Txt K mg C L Z):FnOk P w K mg base CX0 3 f fd kI (lSp K mw):=by
 refine aZ F pt (λts S Q h=>?_) λcdv A outer s H E hr=>?_
 ·obtain ⟨x,l,rfl,_⟩:=h;rfl
 have nd:=pt.nd
 refine ⟨_,((al (aG (i:=1) nd rfl (Or.inl rfl) (aM (tP false rfl hr.m) (by rfl) T.sorted PyProof.Rows.boot_sorted (ae (dG false vv21 2 [] rfl (ci rfl (aa 0)) (λ_ _ _ _=>(d4 (λh=>dX (n:=2) rfl rfl h) (bH (aT (i:=0) (show List.Nodup (vv21:List Str) from by decide +kernel) rfl (Or.inl rfl)) (bH (aT (i:=1) (show List.Nodup (vv21:List Str) from by decide +kernel) rfl (Or.inl rfl)) dY (λh1 h2=>bG h1 h2)) (λh1 h2=>bG h1 h2)))) (λ_ _ _ _=>dD) (λ_ _ _ _=>(aN (ae (aA gN ag (aa 1)) (ae (aa 0) af (ac rfl)) (ac rfl))))) af (ac rfl))))
   (ak (az (dG false vv22 2 [] rfl (ci rfl (aa 1)) (λ_ _ _ _=>(d4 (λh=>dX (n:=2) rfl rfl h) (bH (aT (i:=0) (show List.Nodup (vv22:List Str) from by decide +kernel) rfl (Or.inl rfl)) (bH (aT (i:=1) (show List.Nodup (vv22:List Str) from by decide +kernel) rfl (Or.inl rfl)) dY (λh1 h2=>bG h1 h2)) (λh1 h2=>bG h1 h2)))) (λ_ _ _ _=>dD) (λ_ _ _ _=>(aN (ae (aa 1) (ae (aA gN ag (aa 0)) af (ac rfl)) (ac rfl))))))))),λts S Q h=>?_⟩
 obtain ⟨x,l,rfl,hv,h64,hn,hq⟩:=h
 ac_nf
 bv_omega
 refine ⟨_,hv,?_⟩
 dsimp only
 refine jn (ls:=l) rt (λa=>some (tre (ky a))) [] ?_ (by rw [sizeLine_eq];omega) (λa ha u v acc N hacc hN=>?_) ?_
 ·exact AD hv
 ·unfold rt
  bv_omega
  refine ⟨hacc,?_⟩
  have:=hN (some (.str a.1)) (some (.int a.2))
  rw [jU] at this
  rw [show (0:Int) - a.2=-a.2 by omega]
  exact this
 ·rw [show l.filterMap (λa=>some (tre (ky a)))=l.map λa=>tre (ky a) by rw [<- List.filterMap_eq_map];rfl]
  bv_omega
  refine tQ (ls:=l) ky un2 (ky ("",0)) (by simp only [aS]) (λa _=>?_) h64 rfl (by decide) (λa ha=>⟨rfl,rfl⟩) λl' hp hs=>?_
  ·exact DU a
  rw [show l'=bst l from qb hn hp hs]
  have hbl:(bst l).length<64:=by rw [(cB l).length_eq];exact h64
  bv_omega
  refine jn (ls:=bst l) (λa=>tre (ky a)) (λa=>some (rt a)) [] trivial (by rw [sizeLine_eq];omega) (λa ha u v acc N hacc hN=>?_) ?_
  ·rw [jU]
   bv_omega
   refine ⟨hacc,?_⟩
   have:=hN (some (.int (-a.2))) (some (.str a.1))
   unfold rt at this
   rw [show (0:Int) - -a.2=a.2 by omega]
   exact this
  ·rw [show (bst l).filterMap (λa=>some (rt a))=(bst l).map rt by rw [<- List.filterMap_eq_map];rfl]
   bv_omega
   exact .mk hq
def se:WSp:=λts S Q=>∃ p n o,ts=[.ref p]/\S p=some o/\Fd n o/\n+4<1000000000/\∀ (z:Int) o',0<=z->z<=1000000000->Fd (n+4) o'->Q (.int z) (put S p o')
theorem o4:FnScope dR dR (ai fI):=by nofun
theorem zh {f f1:Addr}{fd fd1:FuncData}(F:Fun K "_law_count" "_law_count" fI f fd) (T:Txt K mg C L Z) (G__law_draw:FnOk P w K mg base CX0 1 f1 fd1 vv1 (lSp K cY)) (D__law_draw:Df K mg "_law_draw" f1 fd1 vv1):FnOk P w K mg base CX0 2 f fd dR (lSp K se):=by
 refine aZ F o4 (λts S Q h=>?_) λcdv A outer s H E hr=>?_
 ·obtain ⟨p,n,o,rfl,_⟩:=h;rfl
 have nd:=o4.nd
 refine ⟨_,((ak (az (aB rfl (cF (ae (ax G__law_draw D__law_draw hr.m (by rfl) (ae (aa 0) (ae ag af (ac rfl)) (ac rfl))) (ae (ax G__law_draw D__law_draw hr.m (by rfl) (ae (aa 0) (ae ag af (ac rfl)) (ac rfl))) (ae (aA gN (aA j8 ag ag) (ax G__law_draw D__law_draw hr.m (by rfl) (ae (aa 0) (ae ag af (ac rfl)) (ac rfl)))) af (ac rfl)) (ac rfl)) (ac rfl))) (ax G__law_draw D__law_draw hr.m (by rfl) (ae (aa 0) (ae ag af (ac rfl)) (ac rfl))) (λ_ _=>rfl))))),λts S Q h=>?_⟩
 obtain ⟨p,n,o,rfl,hp,hf,hn,hq⟩:=h
 ac_nf
 bv_omega
 try simp only [Int.reduceToNat,Int.reducePow] at *
 refine eY (λt=>∃ z:Int,t=.int z/\0<=z/\z<=1000000000) hr0 ?_ ?_ ?_
 ·simpa using hr1
 ·intro t ht
  simp only [List.mem_cons,List.not_mem_nil,or_false] at ht
  rcases ht with rfl|rfl|rfl<;>exact ⟨_,rfl,by omega,by omega⟩
 rintro _ ⟨m,rfl,hm1,hm2⟩
 exact .mk (hq _ _ hm1 hm2 (hfd.mono (by omega)))
theorem F7 {x:T2.T}{r:List (Key×T2.T)}:aO ((.inr "marks",x)::r) (.inr "marks")=some x:=rfl
theorem F9 {x y z:T2.T}{r:List (Key×T2.T)}:aO ((.inr "marks",x)::(.inr "era",y)::(.inr "hidden",z)::r) (.inr "hidden")=some z:=rfl
theorem F8 {x y:T2.T}{r:List (Key×T2.T)}:aO ((.inr "marks",x)::(.inr "era",y)::r) (.inr "era")=some y:=rfl
structure Mk2 (n:Int) (ms:Ms):Prop where
 len:ms.length<=60
 old:∀ a∈ms,a.2.2<=n
 nd:(ms.map (·.1)).Nodup
 wd:∀ a∈ms,Wm.Wd a.1=true
 rng:∀ a∈ms,0<=a.2.1/\a.2.1<=1000000000000
theorem qg {l m:List Rt}(hn:l.Nodup) (p:l.Perm m):bst l=bst m:=kD (h6 hn) (h6 (p.nodup_iff.mp hn)) ((cB l).trans (p.trans (cB m).symm))
def jK (w:World):WSp:=λts S Q=>∃ q e n ms r,ts=[.ref q]/\S q=some (.dK ((.inr "marks",.ref e)::(.inr "era",.int n)::r))/\S e=some (.dK (kt mkT ms))/\Mk2 n ms/\∀ l:List Rt,l.Perm (ms.map λa=>(a.1,wrt a.2 n))->cK l->Q (.lst (l.map rt)) S
theorem o6:FnScope ["_law_model","_law_marks"] g5 (ai fJ):=by nofun
theorem zi {f f1:Addr}{fd fd1:FuncData}(F:Fun K "_law_rated" "_law_rated" fJ f fd) (T:Txt K mg C L Z) (G__law_halved:FnOk P w K mg base CX0 1 f1 fd1 gX (lSp K ib)) (D__law_halved:Df K mg "_law_halved" f1 fd1 gX) :
  FnOk P w K mg base CX0 4 f fd g5 (lSp K (jK w)):=by
 refine aZ F o6 (λts S Q h=>?_) λcdv A outer s H E hr=>?_
 ·obtain ⟨q,e,n,ms,r,rfl,_⟩:=h;rfl
 have nd:=o6.nd
 refine ⟨_,((al (aG (i:=1) nd rfl (Or.inr rfl) (a6 w rfl (aa 0) aD (λ_ _=>rfl)))
   (ak (az (dG false ["_law_word_here","_law_marks","_law_model"] 1 [1,0] rfl (ci rfl (aM (mm w false rfl rfl rfl hr.m) (by rfl) T.sorted PyProof.Rows.boot_sorted (ae (aa 1) af (ac rfl)))) (λ_ _ _ _=>(aT (i:=0) (show List.Nodup (["_law_word_here","_law_marks","_law_model"]:List Str) from by decide +kernel) rfl (Or.inl rfl))) (λ_ _ _ _=>dD) (λ_ _ _ _=>(aN (ae (aa 0) (ae (ax G__law_halved D__law_halved hr.m (by rfl) (ae (aB rfl (a6 w rfl (aa 1) (aa 0) (λ_ _=>rfl)) ag (λ_ _=>rfl)) (ae (aA gN (a6 w rfl (aa 2) aD (λ_ _=>rfl)) (aB rfl (a6 w rfl (aa 1) (aa 0) (λ_ _=>rfl)) ag (λ_ _=>rfl))) af (ac rfl)) (ac rfl))) af (ac rfl)) (ac rfl))))))))),λts S Q h=>?_⟩
 obtain ⟨q,e,n,ms,r,rfl,hqq,he,hM,hq⟩:=h
 have hlen:=hM.len
 ac_nf
 bv_omega
 refine lN (ns:=ms.map (·.1)) (.inl he) (by rw [cE];omega) (by unfold kt;rw [List.map_map,List.map_map];rfl) λzs hp hs=>?_
 have hzl:zs.length<=60:=by rw [hp.length_eq,List.length_map];exact hlen
 have hlk:∀ z∈zs,∃ m,look ms z=some m/\(z,m)∈ms:=λz hz=>by
  obtain ⟨a,ha,rfl⟩:=List.mem_map.mp (hp.mem_iff.mp hz)
  exact ⟨a.2,rY hM.nd ha,ha⟩
 bv_omega
 refine gc (ls:=zs) T2.T.str (λz=>some (rt (z,wrt ((look ms z).getD (0,0)) n))) [some (.ref e),some (.ref q)] trivial (by rw [sizeLine_eq];omega) (λz hz u acc N hacc hN=>?_) ?_
 ·obtain ⟨m,hm,hmm⟩:=hlk z hz
  have hv:aO (kt mkT ms) (Sum.inr z)=some (mkT m):=by rw [aR,hm];rfl
  have h0:=hN (some (.str z))
  rw [hm] at h0
  have r1:0<=m.1:=(hM.rng _ hmm).1
  have r2:m.1<=1000000000000:=(hM.rng _ hmm).2
  have r3:m.2<=n:=hM.old _ hmm
  bv_omega
  refine gQ he rfl hv ?_
  unfold mkT at hv ⊢
  bv_omega
  refine gQ he rfl hv ?_
  bv_omega
  exact ⟨hacc,h0⟩
 rw [show zs.filterMap (λz=>some (rt (z,wrt ((look ms z).getD (0,0)) n)))=(zs.map λz=>(z,wrt ((look ms z).getD (0,0)) n)).map rt by rw [List.map_map,<- List.filterMap_eq_map];rfl]
 bv_omega
 refine .mk (hq _ ?_ ?_)
 ·refine (hp.map _).trans (.of_eq ?_)
  rw [List.map_map]
  refine List.map_congr_left λa ha=>?_
  show (a.1,wrt ((look ms a.1).getD (0,0)) n)=(a.1,wrt a.2 n)
  rw [rY hM.nd ha]
  rfl
 ·unfold cK
  rw [List.map_map]
  exact (show (List.map _ zs).Pairwise _ from by rw [show (List.map ((λx:Rt=>x.1) ∘ λz=>(z,wrt ((look ms z).getD (0,0)) n)) zs)=zs from List.map_id' zs];exact hs)
def wo (b:Bool) (l:List Rt):List Rw:=l.map λa=>(a.1,a.2,b)
theorem eM (l:List Rt):(bst l).length=l.length:=(cB l).length_eq
theorem DV {S:Sto}{Q:T->Sto->Prop}{l:List Rt}{m:Int}(h1:l.length<64) (h2:l.Nodup) (h3:0<=m) (h:Q (.lst (((bst l).take m.toNat).map rt)) S):m6 ([.lst (l.map rt),.int m]++[]) S Q:=⟨_,l,m,rfl,rfl,h1,h2,h3,h⟩
def m9:WSp:=λts S Q=>∃ (l:List Rt) (b:Bool),ts=[.lst (l.map rt),.bl b]/\l.length<64/\l.Nodup/\Q (.lst ((wo b (bst l)).map rw3)) S
theorem pw:FnScope ["rated","own"] ["rated","own"] (ai fO):=by nofun
theorem Bk {f f2:Addr}{fd fd2:FuncData}(F:Fun K "with_own" "with_own" fO f fd) (T:Txt K mg C L Z)
  (G_best_of:FnOk P w K mg base CX0 4 f2 fd2 iY (lSp K m6)) (D_best_of:Df K mg "best_of" f2 fd2 iY):FnOk P w K mg base CX0 5 f fd ["rated","own"] (lSp K m9):=by
 refine aZ F pw (λts S Q h=>?_) λcdv A outer s H E hr=>?_
 ·obtain ⟨l,b,rfl,_⟩:=h;rfl
 have nd:=pw.nd
 refine ⟨_,((ak (az (dG false ["word","worth","own"] 2 [1] rfl (ci rfl (ax G_best_of D_best_of hr.m (by rfl) (ae (aa 0) (ae (aM (bC rfl) (by rfl) T.len PySem.boot_len (ae (aa 0) af (ac rfl))) af (ac rfl)) (ac rfl)))) (λ_ _ _ _=>(d4 (λh=>dX (n:=2) rfl rfl h) (bH (aT (i:=0) (show List.Nodup (["word","worth","own"]:List Str) from by decide +kernel) rfl (Or.inl rfl)) (bH (aT (i:=1) (show List.Nodup (["word","worth","own"]:List Str) from by decide +kernel) rfl (Or.inl rfl)) dY (λh1 h2=>bG h1 h2)) (λh1 h2=>bG h1 h2)))) (λ_ _ _ _=>dD) (λ_ _ _ _=>(aN (ae (aa 0) (ae (aa 1) (ae (aa 2) af (ac rfl)) (ac rfl)) (ac rfl)))))))),λts S Q h=>?_⟩
 obtain ⟨l,b,rfl,h64,hn,hq⟩:=h
 have hbl:=eM l
 ac_nf
 bv_omega
 refine DV h64 hn (by omega) ?_
 rw [show ((l.length:Int)).toNat=(bst l).length by rw [hbl];omega,List.take_length]
 bv_omega
 refine jn (ls:=bst l) rt (λa=>some (rw3 (a.1,a.2,b))) [some (.bl b)] trivial (by rw [sizeLine_eq];omega) (λa ha u v acc N hacc hN=>?_) ?_
 ·unfold rt
  bv_omega
  exact ⟨hacc,hN _ _⟩
 ·rw [show (bst l).filterMap (λa=>some (rw3 (a.1,a.2,b)))=(wo b (bst l)).map rw3 by unfold wo;rw [List.map_map,<- List.filterMap_eq_map];rfl]
  bv_omega
  exact .mk hq
structure Ly (C L:Addr) (S:Sto) (y h e p d v:Addr) (k n:Int) (hs ms:Ms) (vs:List (Str×Bool)):Prop where
 ins:S y=some (.ins L [("house",.ref h),("own",.ref p),("veiled",.ref v)])
 wh:Wo C S h e k hs
 wp:Wo C S p d n ms
 ve:S v=some (.dK (kt T2.T.bl vs))
structure Mo (n:Int) (ms:Ms):Prop where
 len:ms.length<=60
 old:∀ a∈ms,a.2.2<=n
 nd:(ms.map (·.1)).Nodup
 wd:∀ a∈ms,Wm.Wd a.1=true
theorem uW {S:Sto}{a b:Addr}{o:O}(h1:S a=none) (h2:S b=some o):a≠b:=λe=>by rw [e,h2] at h1;cases h1
theorem Ga {S:Sto}{x y:Addr}{o1 o2 o3:O}(hx:S x=none) (hy:put S x o1 y=none) :
  put (put (put S x o1) y o2) x o3 x=some o3/\put (put (put S x o1) y o2) x o3 y=some o2/\(∀ a o,S a=some o->put (put (put S x o1) y o2) x o3 a=some o)/\S y=none:=by
 obtain ⟨h1,h2⟩:=cA hy
 refine ⟨aC,(aE h1).trans aC,λa o e=>?_,h2⟩
 have e1:=uW hx e
 have e2:=uW h2 e
 rw [aE (Ne.symm e1),aE (Ne.symm e2),aE (Ne.symm e1)];exact e
def sf (C L:Addr):WSp:=λts S Q=>∃ y h,ts=[.ref y,.ref h]/\S y=some (.ins L [])/\∀ S' p d v,S' y=some (.ins L [("house",.ref h),("own",.ref p),("veiled",.ref v)])->Wo C S' p d 0 []->S' v=some (.dK [])->d≠v->S p=none->S d=none->S v=none ->
 (∀ a o,S a=some o->a≠y->S' a=some o)->Q .non S'
theorem oG:FnScope iZ iZ (ai dm):=by nofun
theorem zj {f f1:Addr}{fd fd1:FuncData}(F:FunD K "__init__" "Layers.__init__" dm f fd) (T:Txt K mg C L Z)
  (G_Wood___init__:FnOk P w K mg base CX0 1 f1 fd1 vv9 (lSp K (m5 C))) (M_Wood:Mk K C f1) (B_Wood___init__:aq K fd1 vv9 []):FnOk P w K mg base CX0 3 f fd iZ (lSp K (sf C L)):=by
 refine bn F oG (λts S Q h=>?_) λcdv A outer s H E hr=>?_
 ·obtain ⟨y,h,rfl,_⟩:=h;rfl
 have nd:=oG.nd
 refine ⟨_,((al (ir rfl T.gh (aa 0) (aa 1))
   (al (ir rfl T.go (aa 0) (rR M_Wood G_Wood___init__ B_Wood___init__ hr.m (by rfl) T.mg_Wood))
   (ak (ir rfl T.gv (aa 0) eS))))),λts S Q hh=>?_⟩
 obtain ⟨y,h,rfl,hy,hq⟩:=hh
 ac_nf
 bv_omega
 rw [show dc (Str.ofString "house") (T2.T.ref h) []=[(Str.ofString "house",T2.T.ref h)] from rfl]
 intro p hp
 refine ⟨p,rfl,aC,λd hd=>⟨rfl,?_⟩⟩
 obtain ⟨x1,x2,kp,hd1⟩:=Ga (o2:=.dK []) (o3:=.ins C [("marks",.ref d),("now",.int 0)]) hp hd
 have hpy:=(cA hp).1
 have hp0:=(cA hp).2
 have hdy:=(cA hd1).1
 have hd0:=(cA hd1).2
 have k1:=kp y _ aC
 have k2:∀ a o,S a=some o->a≠y->put (put (put (put S y (.ins L [("house",.ref h)])) p (.ins C [])) d (.dK [])) p (.ins C [("marks",.ref d),("now",.int 0)]) a=some o:=λa o ha hay=>kp a o ((aE hay).trans ha)
 generalize put (put (put (put S y (.ins L [("house",.ref h)])) p (.ins C [])) d (.dK [])) p (.ins C [("marks",.ref d),("now",.int 0)])=S1 at x1 x2 k1 k2 ⊢
 clear kp
 bv_omega
 intro v hv
 have hvy:=(cA hv).1
 have hv0:=(cA hv).2
 have hvd:d≠v:=λe=>by rw [e,hv0] at x2;cases x2
 have hvp:p≠v:=λe=>by rw [e,hv0] at x1;cases x1
 bv_omega
 refine mR (fs:=[(Str.ofString "house",T2.T.ref h),(Str.ofString "own",T2.T.ref p)]) ((aE (Ne.symm hvy)).trans aC) rfl (by simp) ?_
 refine .mk (hq _ p d v aC ⟨?_,?_⟩ ?_ hvd hp0 hd0 ?_ λa o ha hay=>?_)
 ·rw [aE hpy,aE hvp,aE hpy];exact x1
 ·rw [aE hdy,aE hvd,aE hdy];exact x2
 ·rw [aE hvy];exact aC
 ·cases hsv:S v with
  |none=>rfl
  |some o=>rw [k2 v o hsv hvy] at hv0;cases hv0
 ·have h1:=k2 a o ha hay
  rw [aE hay,aE (λe=>by rw [e,hv0] at h1;cases h1),aE hay];exact h1
def t9 (C L:Addr):WSp:=λts S Q=>∃ y h e p d v k n hs ms vs z c,ts=[.ref y,.str z,.int c]/\Ly C L S y h e p d v k n hs ms vs/\ms.length<=60/\Wm.Wd z=true/\look ms z=none/\Q .non (put S d (.dK (kt mkT (ms++[(z,c,n)]))))
theorem je:FnScope vv2 vv2 (ai cR):=by nofun
theorem Bl {f f1:Addr}{fd fd1:FuncData}(F:FunD K "put" "Layers.put" cR f fd) (T:Txt K mg C L Z)
  (G_Wood_put:FnOk P w K mg base CX0 4 f1 fd1 vv2 (lSp K (nN C))) (M_Wood_put:Meth K C "put" f1) (B_Wood_put:aq K fd1 vv2 []):FnOk P w K mg base CX0 5 f fd vv2 (lSp K (t9 C L)):=by
 refine bn F je (λts S Q h=>?_) λcdv A outer s H E hr=>?_
 ·obtain ⟨y,h,e,p,d,v,k,n,hs,ms,vs,z,c,rfl,_⟩:=h;rfl
 have nd:=je.nd
 refine ⟨_,((ak (bI (ba (T.gf M_Wood_put) G_Wood_put B_Wood_put hr.m (aJ rfl T.go (aa 0)) (ae (aa 1) (ae (aa 2) af (ac rfl)) (ac rfl)))))),λts S Q hh=>?_⟩
 obtain ⟨y,h,e,p,d,v,k,n,hs,ms,vs,z,c,rfl,hL,hl,hz,hm,hq⟩:=hh
 have hy:=hL.ins
 have hp:=hL.wp.ins
 ac_nf
 bv_omega
 refine ⟨p,d,n,ms,z,c,rfl,hL.wp,by omega,hz,hm,?_⟩
 bv_omega
 exact .mk hq
def qh (C L:Addr):WSp:=λts S Q=>∃ y h e p d v k n hs ms vs z m,ts=[.ref y,.str z]/\Ly C L S y h e p d v k n hs ms vs/\look ms z=some m/\Q .non (put S d (.dK (kt mkT (dr ms z))))
theorem i9:FnScope vv0 vv0 (ai cM):=by nofun
theorem wP {f f1:Addr}{fd fd1:FuncData}(F:FunD K "strike" "Layers.strike" cM f fd) (T:Txt K mg C L Z)
  (G_Wood_strike:FnOk P w K mg base CX0 2 f1 fd1 vv0 (lSp K (qH C))) (M_Wood_strike:Meth K C "strike" f1) (B_Wood_strike:aq K fd1 vv0 []):FnOk P w K mg base CX0 3 f fd vv0 (lSp K (qh C L)):=by
 refine bn F i9 (λts S Q h=>?_) λcdv A outer s H E hr=>?_
 ·obtain ⟨y,h,e,p,d,v,k,n,hs,ms,vs,z,m,rfl,_⟩:=h;rfl
 have nd:=i9.nd
 refine ⟨_,((ak (bI (ba (T.gf M_Wood_strike) G_Wood_strike B_Wood_strike hr.m (aJ rfl T.go (aa 0)) (ae (aa 1) af (ac rfl)))))),λts S Q hh=>?_⟩
 obtain ⟨y,h,e,p,d,v,k,n,hs,ms,vs,z,m,rfl,hL,hm,hq⟩:=hh
 have hy:=hL.ins
 have hp:=hL.wp.ins
 ac_nf
 bv_omega
 refine ⟨p,d,n,ms,z,m,rfl,hL.wp,hm,?_⟩
 bv_omega
 exact .mk hq
def ua (C L:Addr):WSp:=λts S Q=>∃ y h e p d v k n hs ms vs z,ts=[.ref y,.str z]/\Ly C L S y h e p d v k n hs ms vs/\vs.length<=60/\Wm.Wd z=true/\look vs z=none/\Q .non (put S v (.dK (kt T2.T.bl (vs++[(z,true)]))))
theorem jc:FnScope vv0 vv0 (ai cP):=by nofun
theorem Bm {f f1:Addr}{fd fd1:FuncData}(F:FunD K "hide" "Layers.hide" cP f fd) (T:Txt K mg C L Z) (G_is_word:FnOk P w K mg base CX0 3 f1 fd1 ["thing"] (lSp K gi)) (D_is_word:Df K mg "is_word" f1 fd1 ["thing"]):FnOk P w K mg base CX0 4 f fd vv0 (lSp K (ua C L)):=by
 refine bn F jc (λts S Q h=>?_) λcdv A outer s H E hr=>?_
 ·obtain ⟨y,h,e,p,d,v,k,n,hs,ms,vs,z,rfl,_⟩:=h;rfl
 have nd:=jc.nd
 refine ⟨_,((al (aK (ck (bv (ax G_is_word D_is_word hr.m (by rfl) (ae (aa 1) af (ac rfl)))))
    (ak cW)
    aQ)
   (al (aK (ay (cH w rfl) (aa 1) (aJ rfl T.gv (aa 0)) (by with_unfolding_all rfl))
    (ak cW)
    aQ)
   (ak (bR (λh g=>bP h g) bu (cu (aJ rfl T.gv (aa 0)) (aa 1) (d5 (d8 hr)) (λh1 h2 h3=>cj h1 h2 h3))))))),λts S Q hh=>?_⟩
 obtain ⟨y,h,e,p,d,v,k,n,hs,ms,vs,z,rfl,hL,hl,hz,hm,hq⟩:=hh
 have hy:=hL.ins
 have hd:=hL.ve
 have hv:aO (kt T2.T.bl vs) (Sum.inr z)=none:=by rw [aR,hm];rfl
 have hzl:=Wm.eQ hz
 ac_nf
 bv_omega
 refine ⟨_,rfl,.inl ⟨z,rfl,by omega,?_⟩⟩
 rw [hz]
 bv_omega
 refine a8 hd rfl ?_
 rw [hv]
 subst_eqs
 bv_omega
 refine dH hd rfl (by rw [cE,sizeLine_eq];omega) ?_
 rw [d7,iE _ (bO.mp hm)]
 exact .mk hq
def ub (C L:Addr):WSp:=λts S Q=>∃ y h e p d v k n hs ms vs z x,ts=[.ref y,.str z]/\Ly C L S y h e p d v k n hs ms vs/\look vs z=some x/\Q .non (put S v (.dK (kt T2.T.bl (dr vs z))))
theorem jd:FnScope vv0 vv0 (ai cQ):=by nofun
theorem Bn {f:Addr}{fd:FuncData}(F:FunD K "show" "Layers.show" cQ f fd) (T:Txt K mg C L Z):FnOk P w K mg base CX0 1 f fd vv0 (lSp K (ub C L)):=by
 refine bn F jd (λts S Q h=>?_) λcdv A outer s H E hr=>?_
 ·obtain ⟨y,h,e,p,d,v,k,n,hs,ms,vs,z,x,rfl,_⟩:=h;rfl
 have nd:=jd.nd
 refine ⟨_,((al (aK (ay (cf w rfl) (aa 1) (aJ rfl T.gv (aa 0)) (by with_unfolding_all rfl))
    (ak cW)
    aQ)
   (ak (bI (bX rfl PySem.F.plainAttrs_dict PySem.F.slot_dict_pop PySem.F.type_dict_pop jW (aJ rfl T.gv (aa 0)) (ae (aa 1) af (ac rfl)) (λh1 h2 h3=>bQ PySem.F.plainAttrs_dict PySem.F.slot_dict_pop PySem.F.type_dict_pop h2 h1 h3)))))),λts S Q hh=>?_⟩
 obtain ⟨y,h,e,p,d,v,k,n,hs,ms,vs,z,x,rfl,hL,hm,hq⟩:=hh
 have hy:=hL.ins
 have hd:=hL.ve
 have hv:aO (kt T2.T.bl vs) (Sum.inr z)=some (.bl x):=by rw [aR,hm];rfl
 ac_nf
 bv_omega
 refine a8 hd rfl ?_
 rw [hv]
 subst_eqs
 bv_omega
 refine jX hd rfl hv ?_
 rw [jI]
 bv_omega
 exact .mk hq
def na (C L:Addr):WSp:=λts S Q=>∃ y h e p d v k n hs ms vs z,ts=[.ref y,.str z]/\Ly C L S y h e p d v k n hs ms vs/\Q (.bl ((look vs z).isNone&&(look ms z).isNone)) S
theorem og:FnScope vv0 vv0 (ai dh):=by nofun
theorem Bp {f f1:Addr}{fd fd1:FuncData}(F:FunD K "is_seen_of_house" "Layers.is_seen_of_house" dh f fd) (T:Txt K mg C L Z)
  (G_Wood_has:FnOk P w K mg base CX0 1 f1 fd1 vv0 (lSp K (kf C))) (M_Wood_has:Meth K C "has" f1) (B_Wood_has:aq K fd1 vv0 []):FnOk P w K mg base CX0 2 f fd vv0 (lSp K (na C L)):=by
 refine bn F og (λts S Q h=>?_) λcdv A outer s H E hr=>?_
 ·obtain ⟨y,h,e,p,d,v,k,n,hs,ms,vs,z,rfl,_⟩:=h;rfl
 have nd:=og.nd
 refine ⟨_,((ak (az (eO (bB (cf w rfl) (aa 1) (aJ rfl T.gv (aa 0)) (by with_unfolding_all rfl)) (gL (Cq (ba (T.gf M_Wood_has) G_Wood_has B_Wood_has hr.m (aJ rfl T.go (aa 0)) (ae (aa 1) af (ac rfl))))))))),λts S Q hh=>?_⟩
 obtain ⟨y,h,e,p,d,v,k,n,hs,ms,vs,z,rfl,hL,hq⟩:=hh
 have hy:=hL.ins
 have hp:=hL.wp.ins
 have hd:=hL.ve
 ac_nf
 bv_omega
 refine a8 hd rfl ?_
 rw [aR,Option.isSome_map]
 bv_omega
 refine ifB (λhb=>?_) λhb=>?_
 ·have e1:(look vs z).isNone=true:=by cases q:look vs z with|none=>rfl|some x=>rw [q] at hb;cases hb
  rw [e1,Bool.true_and] at hq
  bv_omega
  refine ⟨p,d,n,ms,z,rfl,hL.wp,?_⟩
  bv_omega
  rw [show (!(look ms z).isSome)=(look ms z).isNone by cases look ms z<;>rfl]
  exact .mk hq
 ·have e1:(look vs z).isNone=false:=by cases q:look vs z with|none=>rw [q] at hb;cases hb|some x=>rfl
  rw [e1,Bool.false_and] at hq
  exact .mk hq
def kJ (ms:Ms) (vs:List (Str×Bool)) (n:Int) (b:Str):List Rt:=(rtd ms n b).filter λa=>(look vs a.1).isNone
def kK (hs ms:Ms) (vs:List (Str×Bool)) (k:Int) (b:Str):List Rt:=(rtd hs k b).filter λa=>(look vs a.1).isNone&&(look ms a.1).isNone
def fi (hs ms:Ms) (vs:List (Str×Bool)) (k n:Int) (b:Str):List Rw:=wo true (bst (kJ ms vs n b))++wo false (bst (kK hs ms vs k b))
theorem nO {α β:Type}(p:α->Bool) (f:α->β):∀ l:List α,(l.filterMap λa=>if p a=true then some (f a) else none)=(l.filter p).map f
 |[]=>rfl
 |a::l=>by
  have ih:=nO p f l
  rw [List.filterMap_cons,List.filter_cons]
  by_cases e:p a=true
  ·rw [if_pos e,if_pos e];simp only [List.map_cons,ih]
  ·rw [if_neg e,if_neg e];exact ih
theorem uc {S:Sto}{Q:T->Sto->Prop}{l:List Rt}{b:Bool}(h1:l.length<64) (h2:l.Nodup) (h:Q (.lst ((wo b (bst l)).map rw3)) S):m9 ([.lst (l.map rt),.bl b]++[]) S Q:=⟨l,b,rfl,h1,h2,h⟩
theorem DW {S:Sto}{Q:T->Sto->Prop}{y h e p d v:Addr}{k n:Int}{hs ms:Ms}{vs:List (Str×Bool)}{z:Str}(h1:Ly C L S y h e p d v k n hs ms vs) (h:Q (.bl ((look vs z).isNone&&(look ms z).isNone)) S):na C L (.ref y::([.str z]++[])) S Q:=⟨_,_,_,_,_,_,_,_,_,_,_,_,rfl,h1,h⟩
def uX (C L:Addr):WSp:=λts S Q=>∃ y h e p d v k n hs ms vs b,ts=[.ref y,.str b]/\Ly C L S y h e p d v k n hs ms vs/\Mo k hs/\Mo n ms/\Q (.lst ((fi hs ms vs k n b).map rw3)) S
theorem oj:FnScope ["self","beginning","own","house"] vv7 (ai dj):=by nofun
theorem DX {f f1 f2 f3:Addr}{fd fd1 fd2 fd3:FuncData}(F:FunD K "all_told" "Layers.all_told" dj f fd) (T:Txt K mg C L Z)
  (G_Wood_begun:FnOk P w K mg base CX0 2 f1 fd1 vv7 (lSp K (mt C))) (M_Wood_begun:Meth K C "begun" f1) (B_Wood_begun:aq K fd1 vv7 [])
  (G_Layers_is_seen_of_house:FnOk P w K mg base CX0 2 f2 fd2 vv0 (lSp K (na C L))) (M_Layers_is_seen_of_house:Meth K L "is_seen_of_house" f2) (B_Layers_is_seen_of_house:aq K fd2 vv0 [])
  (G_with_own:FnOk P w K mg base CX0 5 f3 fd3 ["rated","own"] (lSp K m9)) (D_with_own:Df K mg "with_own" f3 fd3 ["rated","own"]):FnOk P w K mg base CX0 6 f fd vv7 (lSp K (uX C L)):=by
 refine bn F oj (λts S Q h=>?_) λcdv A outer s H E hr=>?_
 ·obtain ⟨y,h,e,p,d,v,k,n,hs,ms,vs,b,rfl,_⟩:=h;rfl
 have nd:=oj.nd
 refine ⟨_,((al (k8 false (i:=2) ["pair","self"] 1 [0] rfl nd rfl (Or.inl rfl) (ci rfl (ba (T.gf M_Wood_begun) G_Wood_begun B_Wood_begun hr.m (aJ rfl T.go (aa 0)) (ae (aa 1) af (ac rfl)))) (λ_ _ _ _=>(aT (i:=0) (show List.Nodup (["pair","self"]:List Str) from by decide +kernel) rfl (Or.inl rfl))) (λ_ _ _ _=>(l9 (ay (cf w rfl) (aB rfl (aa 0) ag (λ_ _=>rfl)) (aJ rfl T.gv (aa 1)) (by with_unfolding_all rfl)))) (λ_ _ _ _=>(aa 0)))
   (al (k8 false (i:=3) ["pair","self"] 1 [0] rfl nd rfl (Or.inl rfl) (ci rfl (ba (T.gf M_Wood_begun) G_Wood_begun B_Wood_begun hr.m (aJ rfl T.gh (aa 0)) (ae (aa 1) af (ac rfl)))) (λ_ _ _ _=>(aT (i:=0) (show List.Nodup (["pair","self"]:List Str) from by decide +kernel) rfl (Or.inl rfl))) (λ_ _ _ _=>(l9 (bv (ba (T.gl M_Layers_is_seen_of_house) G_Layers_is_seen_of_house B_Layers_is_seen_of_house hr.m (aa 1) (ae (aB rfl (aa 0) ag (λ_ _=>rfl)) af (ac rfl)))))) (λ_ _ _ _=>(aa 0)))
   (ak (az (aA (bp false) (ax G_with_own D_with_own hr.m (by rfl) (ae (aa 2) (ae bu af (ac rfl)) (ac rfl))) (ax G_with_own D_with_own hr.m (by rfl) (ae (aa 3) (ae bu af (ac rfl)) (ac rfl))))))))),λts S Q hh=>?_⟩
 obtain ⟨y,h,e,p,d,v,k,n,hs,ms,vs,b,rfl,hL,hH,hM,hq⟩:=hh
 have hy:=hL.ins
 have hp:=hL.wp.ins
 have hhh:=hL.wh.ins
 have hd:=hL.ve
 have l1:=jJ ms n b
 have l2:=jJ hs k b
 have l3:=hM.len
 have l4:=hH.len
 ac_nf
 bv_omega
 refine ⟨p,d,n,ms,b,rfl,hL.wp,by omega,hM.old,?_⟩
 bv_omega
 refine gc (ls:=rtd ms n b) rt (λa=>if (look vs a.1).isNone=true then some (rt a) else none) [some (.ref y)] trivial (by rw [sizeLine_eq];omega) (λa ha u acc N hacc hN=>?_) ?_
 ·have h0:=hN (some (rt a))
  bv_omega
  refine a8 hd rfl ?_
  rw [aR,Option.isSome_map]
  refine ⟨_,rfl,?_⟩
  refine ifB (λhb=>?_) λhb=>?_
  ·have e1:(look vs a.1).isNone=true:=by cases q:look vs a.1 with|none=>rfl|some x=>rw [q] at hb;cases hb
   rw [if_pos e1] at h0
   bv_omega
   exact ⟨hacc,h0⟩
  ·have e1:¬ (look vs a.1).isNone=true:=by cases q:look vs a.1 with|none=>rw [q] at hb;cases hb|some x=>simp
   rw [if_neg e1,Option.toList_none,List.append_nil] at h0
   exact h0
 rw [nO]
 bv_omega
 refine ⟨h,e,k,hs,b,rfl,hL.wh,by omega,hH.old,?_⟩
 bv_omega
 refine gc (ls:=rtd hs k b) rt (λa=>if ((look vs a.1).isNone&&(look ms a.1).isNone)=true then some (rt a) else none) [some (.ref y)] trivial (by rw [sizeLine_eq];omega) (λa ha u acc N hacc hN=>?_) ?_
 ·have h0:=hN (some (rt a))
  bv_omega
  refine DW hL ?_
  refine ⟨_,rfl,?_⟩
  refine ifB (λhb=>?_) λhb=>?_
  ·rw [if_pos hb] at h0
   bv_omega
   exact ⟨hacc,h0⟩
  ·rw [if_neg (by rw [hb];decide),Option.toList_none,List.append_nil] at h0
   exact h0
 rw [nO]
 have l5:=List.length_filter_le (λa:Rt=>(look vs a.1).isNone) (rtd ms n b)
 have l6:=List.length_filter_le (λa:Rt=>(look vs a.1).isNone&&(look ms a.1).isNone) (rtd hs k b)
 bv_omega
 refine uc (by omega) (List.filter_sublist.nodup (t4 hM.nd)) ?_
 bv_omega
 refine uc (by omega) (List.filter_sublist.nodup (t4 hH.nd)) ?_
 bv_omega
 refine tm rfl rfl ?_ ?_
 ·unfold wo
  rw [List.length_map,List.length_map,List.length_map,List.length_map,eM,eM,sizeLine_eq];omega
 rw [<- List.map_append]
 bv_omega
 exact .mk hq
def si (C L:Addr):WSp:=λts S Q=>∃ y h e p d v k n hs ms vs b m,ts=[.ref y,.str b,.int m]/\Ly C L S y h e p d v k n hs ms vs/\Mo k hs/\Mo n ms/\0<=m/\Q (.lst (((fi hs ms vs k n b).take m.toNat).map rw3)) S
theorem oH:FnScope iX iX (ai dn):=by nofun
theorem zk {f f1:Addr}{fd fd1:FuncData}(F:FunD K "told" "Layers.told" dn f fd) (T:Txt K mg C L Z)
  (G_Layers_all_told:FnOk P w K mg base CX0 6 f1 fd1 vv7 (lSp K (uX C L))) (M_Layers_all_told:Meth K L "all_told" f1) (B_Layers_all_told:aq K fd1 vv7 []):FnOk P w K mg base CX0 7 f fd iX (lSp K (si C L)):=by
 refine bn F oH (λts S Q h=>?_) λcdv A outer s H E hr=>?_
 ·obtain ⟨y,h,e,p,d,v,k,n,hs,ms,vs,b,m,rfl,_⟩:=h;rfl
 have nd:=oH.nd
 refine ⟨_,((ak (az (eK false rfl (ba (T.gl M_Layers_all_told) G_Layers_all_told B_Layers_all_told hr.m (aa 0) (ae (aa 1) af (ac rfl))) gr (dZ (aa 2)))))),λts S Q hh=>?_⟩
 obtain ⟨y,h,e,p,d,v,k,n,hs,ms,vs,b,m,rfl,hL,hH,hM,hm,hq⟩:=hh
 have hy:=hL.ins
 ac_nf
 bv_omega
 refine ⟨y,h,e,p,d,v,k,n,hs,ms,vs,b,rfl,hL,hH,hM,?_⟩
 bv_omega
 rw [jB hm]
 exact .mk hq
def uY (C L:Addr):WSp:=λts S Q=>∃ y h e p d v k n hs ms vs,ts=[.ref y]/\Ly C L S y h e p d v k n hs ms vs/\Mo n ms/\∀ l:List Rt,l.Perm (ms.map λa=>(a.1,wrt a.2 n))->cK l->Q (.lst (l.map rt)) S
theorem oi:FnScope vv9 vv9 (ai di):=by nofun
theorem DY {f f1:Addr}{fd fd1:FuncData}(F:FunD K "own_words" "Layers.own_words" di f fd) (T:Txt K mg C L Z)
  (G_Wood_words:FnOk P w K mg base CX0 4 f1 fd1 vv9 (lSp K (lV C))) (M_Wood_words:Meth K C "words" f1) (B_Wood_words:aq K fd1 vv9 []):FnOk P w K mg base CX0 5 f fd vv9 (lSp K (uY C L)):=by
 refine bn F oi (λts S Q h=>?_) λcdv A outer s H E hr=>?_
 ·obtain ⟨y,h,e,p,d,v,k,n,hs,ms,vs,rfl,_⟩:=h;rfl
 have nd:=oi.nd
 refine ⟨_,((ak (az (jF (T.gf M_Wood_words) G_Wood_words B_Wood_words hr.m (aJ rfl T.go (aa 0)))))),λts S Q hh=>?_⟩
 obtain ⟨y,h,e,p,d,v,k,n,hs,ms,vs,rfl,hL,hM,hq⟩:=hh
 have hy:=hL.ins
 have hp:=hL.wp.ins
 ac_nf
 bv_omega
 refine ⟨p,d,n,ms,rfl,hL.wp,hM.len,hM.old,hM.nd,hM.wd,λl hlp hlr=>?_⟩
 bv_omega
 exact .mk (hq l hlp hlr)
def qI (C L:Addr):WSp:=λts S Q=>∃ y h e p d v k n hs ms vs,ts=[.ref y]/\Ly C L S y h e p d v k n hs ms vs/\vs.length<64/\∀ zs:List Str,zs.Perm (vs.map (·.1))->zs.Pairwise (λx y=>Ky.lt (.s y) (.s x)=false)->Q (.lst (zs.map T2.T.str)) S
theorem ow:FnScope vv9 vv9 (ai dk):=by nofun
theorem xQ {f:Addr}{fd:FuncData}(F:FunD K "hidden" "Layers.hidden" dk f fd) (T:Txt K mg C L Z):FnOk P w K mg base CX0 4 f fd vv9 (lSp K (qI C L)):=by
 refine bn F ow (λts S Q h=>?_) λcdv A outer s H E hr=>?_
 ·obtain ⟨y,h,e,p,d,v,k,n,hs,ms,vs,rfl,_⟩:=h;rfl
 have nd:=ow.nd
 refine ⟨_,((ak (az (aM (mm w false rfl rfl rfl hr.m) (by rfl) T.sorted PyProof.Rows.boot_sorted (ae (aJ rfl T.gv (aa 0)) af (ac rfl)))))),λts S Q hh=>?_⟩
 obtain ⟨y,h,e,p,d,v,k,n,hs,ms,vs,rfl,hL,hl,hq⟩:=hh
 have hy:=hL.ins
 ac_nf
 bv_omega
 refine lN (ns:=vs.map (·.1)) (.inl hL.ve) (by rw [cE];exact hl) (by unfold kt;rw [List.map_map,List.map_map];rfl) λzs hp hs=>?_
 exact .mk (hq zs hp hs)
def ud (C L:Addr):WSp:=λts S Q=>∃ y h e p d v k n hs ms vs z c,ts=[.ref y,.str z,.int c]/\Ly C L S y h e p d v k n hs ms vs/\hs.length<=100/\ms.length<=100/\look vs z=none/\((∃ m,look ms z=some m/\m.2<=n/\Q .non (put S d (.dK (kt mkT (pu ms z (wrt m n+c,n))))))\/(look ms z=none/\∃ m,look hs z=some m/\m.2<=k/\Q .non (put S e (.dK (kt mkT (pu hs z (wrt m k+c,k)))))))
theorem jf:FnScope vv3 vv3 (ai bY):=by nofun
theorem Bq {f f1 f2:Addr}{fd fd1 fd2:FuncData}(F:FunD K "use" "Layers.use" bY f fd) (T:Txt K mg C L Z)
  (G_Wood_has:FnOk P w K mg base CX0 1 f1 fd1 vv0 (lSp K (kf C))) (M_Wood_has:Meth K C "has" f1) (B_Wood_has:aq K fd1 vv0 [])
  (G_Wood_use:FnOk P w K mg base CX0 3 f2 fd2 vv3 (lSp K (uV C))) (M_Wood_use:Meth K C "use" f2) (B_Wood_use:aq K fd2 vv3 []):FnOk P w K mg base CX0 4 f fd vv3 (lSp K (ud C L)):=by
 refine bn F jf (λts S Q h=>?_) λcdv A outer s H E hr=>?_
 ·obtain ⟨y,h,e,p,d,v,k,n,hs,ms,vs,z,c,rfl,_⟩:=h;rfl
 have nd:=jf.nd
 refine ⟨_,((al (aK (ay (cH w rfl) (aa 1) (aJ rfl T.gv (aa 0)) (by with_unfolding_all rfl))
    (ak cW)
    aQ)
   (ak (aK (bv (ba (T.gf M_Wood_has) G_Wood_has B_Wood_has hr.m (aJ rfl T.go (aa 0)) (ae (aa 1) af (ac rfl))))
    (ak (bI (ba (T.gf M_Wood_use) G_Wood_use B_Wood_use hr.m (aJ rfl T.go (aa 0)) (ae (aa 1) (ae (aa 2) af (ac rfl)) (ac rfl)))))
    (ak (bI (ba (T.gf M_Wood_use) G_Wood_use B_Wood_use hr.m (aJ rfl T.gh (aa 0)) (ae (aa 1) (ae (aa 2) af (ac rfl)) (ac rfl))))))))),λts S Q hh=>?_⟩
 obtain ⟨y,h,e,p,d,v,k,n,hs,ms,vs,z,c,rfl,hL,hl1,hl2,hm,hq⟩:=hh
 have hy:=hL.ins
 have hp:=hL.wp.ins
 have hh:=hL.wh.ins
 have hd:=hL.ve
 have hv:aO (kt T2.T.bl vs) (Sum.inr z)=none:=by rw [aR,hm];rfl
 ac_nf
 bv_omega
 refine a8 hd rfl ?_
 rw [hv]
 subst_eqs
 bv_omega
 refine ⟨p,d,n,ms,z,rfl,hL.wp,?_⟩
 rcases hq with ⟨m,h1,h2,hq⟩|⟨h0,m,h1,h2,hq⟩
 ·rw [h1]
  simp only [Option.isSome_some,Option.isSome_none]
  bv_omega
  refine ⟨p,d,n,ms,z,c,m,rfl,hL.wp,hl2,h1,h2,?_⟩
  exact .mk hq
 ·rw [h0]
  simp only [Option.isSome_some,Option.isSome_none]
  bv_omega
  refine ⟨h,e,k,hs,z,c,m,rfl,hL.wh,hl1,h1,h2,?_⟩
  exact .mk hq
def sj (C L:Addr):WSp:=λts S Q=>∃ y h e p d v k n hs ms vs c,ts=[.ref y,.int c]/\Ly C L S y h e p d v k n hs ms vs/\Q .non (put S p (.ins C [("marks",.ref d),("now",.int (n+c))]))
theorem oI:FnScope cJ cJ (ai cc):=by nofun
theorem zl {f f1:Addr}{fd fd1:FuncData}(F:FunD K "fade" "Layers.fade" cc f fd) (T:Txt K mg C L Z)
  (G_Wood_fade:FnOk P w K mg base CX0 1 f1 fd1 cJ (lSp K (tZ C))) (M_Wood_fade:Meth K C "fade" f1) (B_Wood_fade:aq K fd1 cJ []):FnOk P w K mg base CX0 2 f fd cJ (lSp K (sj C L)):=by
 refine bn F oI (λts S Q h=>?_) λcdv A outer s H E hr=>?_
 ·obtain ⟨y,h,e,p,d,v,k,n,hs,ms,vs,c,rfl,_⟩:=h;rfl
 have nd:=oI.nd
 refine ⟨_,((ak (bI (ba (T.gf M_Wood_fade) G_Wood_fade B_Wood_fade hr.m (aJ rfl T.go (aa 0)) (ae (aa 1) af (ac rfl)))))),λts S Q hh=>?_⟩
 obtain ⟨y,h,e,p,d,v,k,n,hs,ms,vs,c,rfl,hL,hq⟩:=hh
 have hy:=hL.ins
 have hp:=hL.wp.ins
 have hh:=hL.wh.ins
 have hd:=hL.ve
 ac_nf
 bv_omega
 refine ⟨p,d,n,ms,c,rfl,hL.wp,?_⟩
 bv_omega
 exact .mk hq
def sk (C L:Addr) (Z:Zs):bL:=λts S R=>∃ y h e p d v k n hs ms vs t c,ts=[.ref y,t,.int c]/\Ly C L S y h e p d v k n hs ms vs/\(Bad t/\R Z.N S\/∃ z m,t=.str z/\z.length<=1000/\PyData.strOk z=true/\Wm.Wd z=true/\look ms z=some m/\R Z.T S)
theorem Br {f f1:Addr}{fd fd1:FuncData}(F:FunD K "put" "Layers.put" cR f fd) (T:Txt K mg C L Z)
  (R_Wood_put:FnOk P w K mg base (CX1 P w) 4 f1 fd1 vv2 (bb K (t6 C Z.N Z.T))) (M_Wood_put:Meth K C "put" f1) (B_Wood_put:aq K fd1 vv2 []):FnOk P w K mg base (CX1 P w) 5 f fd vv2 (bb K (sk C L Z)):=by
 refine dE F je (λts S Q h=>?_) λcdv A outer s H E hr=>?_
 ·obtain ⟨y,h,e,p,d,v,k,n,hs,ms,vs,t,c,rfl,_⟩:=h;rfl
 have nd:=je.nd
 refine ⟨_,((aP (jG (cX (T.gf M_Wood_put) R_Wood_put B_Wood_put hr.m (aJ rfl T.go (aa 0)) (ae (aa 1) (ae (aa 2) af (ac rfl)) (ac rfl)))))),λts S Q hh=>?_⟩
 obtain ⟨y,h,e,p,d,v,k,n,hs,ms,vs,t,c,rfl,hL,hq⟩:=hh
 have hy:=hL.ins
 have hp:=hL.wp.ins
 have hh:=hL.wh.ins
 have hd:=hL.ve
 ac_nf
 bv_omega
 exact ⟨p,d,n,ms,t,c,rfl,hL.wp,hq.imp (λx=>⟨x.1,.mk x.2⟩) λzz117=>by obtain ⟨z,m,x1,x2,x3,x4,x5,x6⟩:=zz117;exact ⟨z,m,x1,x2,x3,x4,x5,.mk x6⟩⟩
def pK (C L:Addr) (Z:Zs):bL:=λts S R=>∃ y h e p d v k n hs ms vs z,ts=[.ref y,.str z]/\Ly C L S y h e p d v k n hs ms vs/\z.length<=1000/\PyData.strOk z=true/\look ms z=none/\R Z.A S
theorem wQ {f f1:Addr}{fd fd1:FuncData}(F:FunD K "strike" "Layers.strike" cM f fd) (T:Txt K mg C L Z)
  (R_Wood_strike:FnOk P w K mg base (CX1 P w) 3 f1 fd1 vv0 (bb K (qf C Z.A))) (M_Wood_strike:Meth K C "strike" f1) (B_Wood_strike:aq K fd1 vv0 []):FnOk P w K mg base (CX1 P w) 4 f fd vv0 (bb K (pK C L Z)):=by
 refine dE F i9 (λts S Q h=>?_) λcdv A outer s H E hr=>?_
 ·obtain ⟨y,h,e,p,d,v,k,n,hs,ms,vs,z,rfl,_⟩:=h;rfl
 have nd:=i9.nd
 refine ⟨_,((aP (jG (cX (T.gf M_Wood_strike) R_Wood_strike B_Wood_strike hr.m (aJ rfl T.go (aa 0)) (ae (aa 1) af (ac rfl)))))),λts S Q hh=>?_⟩
 obtain ⟨y,h,e,p,d,v,k,n,hs,ms,vs,z,rfl,hL,hz,hzo,hm,hq⟩:=hh
 have hy:=hL.ins
 have hp:=hL.wp.ins
 have hh:=hL.wh.ins
 have hd:=hL.ve
 ac_nf
 bv_omega
 exact ⟨p,d,n,ms,z,rfl,hL.wp,hm,hz,hzo,.mk hq⟩
def sm (C L:Addr) (Z:Zs):bL:=λts S R=>∃ y h e p d v k n hs ms vs t,ts=[.ref y,t]/\Ly C L S y h e p d v k n hs ms vs/\(Bad t/\R Z.N S\/∃ z m,t=.str z/\z.length<=1000/\PyData.strOk z=true/\Wm.Wd z=true/\look vs z=some m/\R Z.T S)
theorem Bs {f f1:Addr}{fd fd1:FuncData}(F:FunD K "hide" "Layers.hide" cP f fd) (T:Txt K mg C L Z)
  (G_is_word:FnOk P w K mg base CX0 3 f1 fd1 ["thing"] (lSp K gi)) (D_is_word:Df K mg "is_word" f1 fd1 ["thing"]):FnOk P w K mg base (CX1 P w) 4 f fd vv0 (bb K (sm C L Z)):=by
 refine dE F jc (λts S Q h=>?_) λcdv A outer s H E hr=>?_
 ·obtain ⟨y,h,e,p,d,v,k,n,hs,ms,vs,t,rfl,_⟩:=h;rfl
 have nd:=jc.nd
 refine ⟨_,((mT (aP (b5 (ck (bv (ax G_is_word D_is_word hr.m (by rfl) (ae (aa 1) af (ac rfl))))) (aP (eJ T.x_NoWord T.k_NoWord rfl (by rfl) T.mg_NoWord (ae (e8 rfl hr.gd hr.units (aa 1)) af (ac rfl))))
    dU))
   (lP (aK (ck (bv (ax G_is_word D_is_word hr.m (by rfl) (ae (aa 1) af (ac rfl)))))
    (ak cW)
    aQ)
   (aP (b5 (ay (cH w rfl) (aa 1) (aJ rfl T.gv (aa 0)) (by with_unfolding_all rfl)) (aP (eJ T.x_Twice T.k_Twice rfl (by rfl) T.mg_Twice (ae (e8 rfl hr.gd hr.units (aa 1)) af (ac rfl))))
    dU))))),λts S Q hh=>?_⟩
 obtain ⟨y,h,e,p,d,v,k,n,hs,ms,vs,t,rfl,hL,hq⟩:=hh
 have hy:=hL.ins
 have hp:=hL.wp.ins
 have hh:=hL.wh.ins
 have hd:=hL.ve
 ac_nf
 rcases hq with ⟨hm,hq⟩|⟨z,m,rfl,hz,hzo,hm,hl,hq⟩
 ·refine nH (kE ?_)
  bv_omega
  refine hm.isw ?_
  bv_omega
  refine ⟨hm.fr,λe=>?_⟩
  bv_omega
  exact ⟨Nat.le_of_ble_eq_true rfl,.mk hq⟩
 ·have hv:aO (kt T2.T.bl vs) (Sum.inr z)=some (.bl m):=by rw [aR,hl];rfl
  refine nI (jY ?_)
  bv_omega
  refine ⟨_,rfl,.inl ⟨z,rfl,hz,?_⟩⟩
  rw [hm]
  bv_omega
  refine a8 hd rfl ?_
  rw [hv]
  subst_eqs
  bv_omega
  refine ⟨⟨_,rfl,gw hz hzo⟩,λe=>?_⟩
  bv_omega
  exact ⟨Nat.le_of_ble_eq_true rfl,.mk hq⟩
def su (C L:Addr) (Z:Zs):bL:=λts S R=>∃ y h e p d v k n hs ms vs z,ts=[.ref y,.str z]/\Ly C L S y h e p d v k n hs ms vs/\z.length<=1000/\PyData.strOk z=true/\look vs z=none/\R Z.A S
theorem Bt {f :Addr}{fd :FuncData}(F:FunD K "show" "Layers.show" cQ f fd) (T:Txt K mg C L Z):FnOk P w K mg base (CX1 P w) 1 f fd vv0 (bb K (su C L Z)):=by
 refine dE F jd (λts S Q h=>?_) λcdv A outer s H E hr=>?_
 ·obtain ⟨y,h,e,p,d,v,k,n,hs,ms,vs,z,rfl,_⟩:=h;rfl
 have nd:=jd.nd
 refine ⟨_,((aP (b5 (ay (cf w rfl) (aa 1) (aJ rfl T.gv (aa 0)) (by with_unfolding_all rfl)) (aP (eJ T.x_Absent T.k_Absent rfl (by rfl) T.mg_Absent (ae (e8 rfl hr.gd hr.units (aa 1)) af (ac rfl))))
    dU))),λts S Q hh=>?_⟩
 obtain ⟨y,h,e,p,d,v,k,n,hs,ms,vs,z,rfl,hL,hz,hzo,hm,hq⟩:=hh
 have hy:=hL.ins
 have hp:=hL.wp.ins
 have hh:=hL.wh.ins
 have hd:=hL.ve
 have hv:aO (kt T2.T.bl vs) (Sum.inr z)=none:=by rw [aR,hm];rfl
 ac_nf
 bv_omega
 refine a8 hd rfl ?_
 rw [hv]
 subst_eqs
 bv_omega
 refine ⟨⟨_,rfl,gw hz hzo⟩,λe=>?_⟩
 bv_omega
 exact ⟨Nat.le_of_ble_eq_true rfl,.mk hq⟩
def sv (C L:Addr) (Z:Zs):bL:=λts S R=>∃ y h e p d v k n hs ms vs z c,ts=[.ref y,.str z,.int c]/\Ly C L S y h e p d v k n hs ms vs/\z.length<=1000/\PyData.strOk z=true/\((∃ x,look vs z=some x)\/look vs z=none/\look ms z=none/\look hs z=none)/\R Z.A S
theorem Bu {f f1 f2:Addr}{fd fd1 fd2:FuncData}(F:FunD K "use" "Layers.use" bY f fd) (T:Txt K mg C L Z)
  (G_Wood_has:FnOk P w K mg base CX0 1 f1 fd1 vv0 (lSp K (kf C))) (M_Wood_has:Meth K C "has" f1) (B_Wood_has:aq K fd1 vv0 [])
  (R_Wood_use:FnOk P w K mg base (CX1 P w) 3 f2 fd2 vv3 (bb K (t7 C Z.A))) (M_Wood_use:Meth K C "use" f2) (B_Wood_use:aq K fd2 vv3 []):FnOk P w K mg base (CX1 P w) 4 f fd vv3 (bb K (sv C L Z)):=by
 refine dE F jf (λts S Q h=>?_) λcdv A outer s H E hr=>?_
 ·obtain ⟨y,h,e,p,d,v,k,n,hs,ms,vs,z,c,rfl,_⟩:=h;rfl
 have nd:=jf.nd
 refine ⟨_,((mT (aP (b5 (ay (cH w rfl) (aa 1) (aJ rfl T.gv (aa 0)) (by with_unfolding_all rfl)) (aP (eJ T.x_Absent T.k_Absent rfl (by rfl) T.mg_Absent (ae (e8 rfl hr.gd hr.units (aa 1)) af (ac rfl))))
    dU))
   (lP (aK (ay (cH w rfl) (aa 1) (aJ rfl T.gv (aa 0)) (by with_unfolding_all rfl))
    (ak cW)
    aQ)
   (aP (b5 (bv (ba (T.gf M_Wood_has) G_Wood_has B_Wood_has hr.m (aJ rfl T.go (aa 0)) (ae (aa 1) af (ac rfl)))) dU
    (aP (jG (cX (T.gf M_Wood_use) R_Wood_use B_Wood_use hr.m (aJ rfl T.gh (aa 0)) (ae (aa 1) (ae (aa 2) af (ac rfl)) (ac rfl)))))))))),λts S Q hh=>?_⟩
 obtain ⟨y,h,e,p,d,v,k,n,hs,ms,vs,z,c,rfl,hL,hz,hzo,hm,hq⟩:=hh
 have hy:=hL.ins
 have hp:=hL.wp.ins
 have hh:=hL.wh.ins
 have hd:=hL.ve
 ac_nf
 rcases hm with ⟨x,hm⟩|⟨hm,h0,h1⟩
 ·have hv:aO (kt T2.T.bl vs) (Sum.inr z)=some (.bl x):=by rw [aR,hm];rfl
  refine nH (kE ?_)
  bv_omega
  refine a8 hd rfl ?_
  rw [hv]
  subst_eqs
  bv_omega
  refine ⟨⟨_,rfl,gw hz hzo⟩,λe=>?_⟩
  bv_omega
  exact ⟨Nat.le_of_ble_eq_true rfl,.mk hq⟩
 ·have hv:aO (kt T2.T.bl vs) (Sum.inr z)=none:=by rw [aR,hm];rfl
  refine nI (jY ?_)
  bv_omega
  refine a8 hd rfl ?_
  rw [hv]
  subst_eqs
  bv_omega
  refine ⟨p,d,n,ms,z,rfl,hL.wp,?_⟩
  rw [h0]
  simp only [Option.isSome_some,Option.isSome_none]
  bv_omega
  exact ⟨h,e,k,hs,z,c,rfl,hL.wh,h1,hz,hzo,.mk hq⟩
theorem Gc {S:Sto}{a b:Addr}{o u:O}(h1:S a=some o) (h2:S b=some u) (h:o≠u):a≠b:=λe=>by rw [e,h2] at h1;exact h (Option.some.inj h1).symm
theorem gR {S:Sto}{a b:Addr}{o:O}(h1:S a=some o) (h2:S b=none):a≠b:=λe=>by rw [e,h2] at h1;cases h1
theorem kX {m:Int×Int}{n:Int}(h:0<=m.1):0<=wrt m n:=Int.ediv_nonneg h (Int.le_of_lt (Int.pow_pos (by decide)))
theorem ng {m:Int×Int}{n:Int}(h:0<=m.1):wrt m n<=m.1:=Int.ediv_le_self _ h
structure Wk (ws:List Str) (k:Nat) (n:Int) (ms:Ms):Prop where
 len:ms.length<=k
 key:∀ a∈ms,a.1∈ws
 nd:(ms.map (·.1)).Nodup
 old:∀ a∈ms,a.2.2<=n
 rng:∀ a∈ms,0<=a.2.1/\a.2.1<=1000000000+1000000 * (k:Int)
section
variable {ws:List Str}{k:Nat}{n c:Int}{ms:Ms}{z:Str}
theorem Wk.nil:Wk ws 0 n []:=⟨Nat.le_refl _,by simp,by simp,by simp,by simp⟩
theorem Wk.up (h:Wk ws k n ms):Wk ws (k+1) n ms:=⟨by have:=h.len;omega,h.key,h.nd,h.old,λa ha=>by have:=h.rng a ha;omega⟩
theorem Wk.put (h:Wk ws k n ms) (hz:z∈ws) (hm:look ms z=none) (h0:0<=c) (h1:c<=1000000000):Wk ws (k+1) n (ms++[(z,c,n)]):=by
 refine ⟨by have:=h.len;simp;omega,λa ha=>?_,?_,λa ha=>?_,λa ha=>?_⟩
 ·rcases List.mem_append.mp ha with ha|ha
  ·exact h.key a ha
  ·rw [List.mem_singleton.mp ha];exact hz
 ·rw [List.map_append,List.map_singleton,List.nodup_append]
  refine ⟨h.nd,by simp,λx hx y hy e=>?_⟩
  rw [List.mem_singleton] at hy
  exact bO.mp hm (by rw [e,hy] at hx;exact hx)
 ·rcases List.mem_append.mp ha with ha|ha
  ·exact h.old a ha
  ·rw [List.mem_singleton.mp ha];exact Int.le_refl _
 ·rcases List.mem_append.mp ha with ha|ha
  ·have:=h.rng a ha;omega
  ·rw [List.mem_singleton.mp ha];dsimp only;omega
theorem Wk.fade (h:Wk ws k n ms) (h0:0<=c):Wk ws (k+1) (n+c) ms:=⟨h.up.len,h.key,h.nd,λa ha=>by have:=h.old a ha;omega,h.up.rng⟩
theorem Wk.strike (h:Wk ws k n ms):Wk ws (k+1) n (dr ms z):=by
 have hs:∀ a∈dr ms z,a∈ms:=λa ha=>(List.mem_filter.mp ha).1
 refine ⟨?_,λa ha=>h.key a (hs a ha),?_,λa ha=>h.old a (hs a ha),λa ha=>h.up.rng a (hs a ha)⟩
 ·have:=h.len
  have h2:=List.length_filter_le (λa:Str×Int×Int=>decide (a.1≠z)) ms
  unfold dr
  omega
 ·rw [A1];exact List.filter_sublist.nodup h.nd
theorem Wk.use {m:Int×Int}(h:Wk ws k n ms) (hm:look ms z=some m) (h0:0<=c) (h1:c<=1000000):Wk ws (k+1) n (pu ms z (wrt m n+c,n)):=by
 have hmm:=ig hm
 have hk:z∈ms.map (·.1):=List.mem_map.mpr ⟨_,hmm,rfl⟩
 have hr:0<=m.1/\m.1<=1000000000+1000000 * (k:Int):=h.rng _ hmm
 have w0:=kX (m:=m) (n:=n) hr.1
 have w1:=ng (m:=m) (n:=n) hr.1
 refine ⟨?_,λa ha=>?_,by rw [rZ _ hk];exact h.nd,λa ha=>?_,λa ha=>?_⟩
 ·have e:=congrArg List.length (rZ (wrt m n+c,n) hk)
  rw [List.length_map,List.length_map] at e
  have:=h.len
  omega
 ·rcases mW ha with ha|rfl
  ·exact h.key a ha
  ·exact h.key (z,m) hmm
 ·rcases mW ha with ha|rfl
  ·exact h.old a ha
  ·exact Int.le_refl _
 ·rcases mW ha with ha|rfl
  ·have:=h.rng a ha;omega
  ·dsimp only;omega
theorem Wk.mk2 (h:Wk ws k n ms) (hk:k<=60) (hw:∀ x∈ws,Wm.Wd x=true):Mk2 n ms:=⟨by have:=h.len;omega,h.old,h.nd,λa ha=>hw _ (h.key a ha),λa ha=>by have:=h.rng a ha;omega⟩
end
structure Bo (C:Addr) (S:Sto) (ws:List Str) (k:Nat) (p d q e:Addr) (n:Int) (ms:Ms):Prop where
 wo:Wo C S p d n ms
 md:S q=some (.dK [(.inr "marks",.ref e),(.inr "era",.int n)])
 me:S e=some (.dK (kt mkT ms))
 dq:d≠q
 de:d≠e
 qe:q≠e
 ok:Wk ws k n ms
section
variable {C:Addr}{S S':Sto}{ws:List Str}{k:Nat}{p d q e a:Addr}{n:Int}{ms:Ms}{o:O}{us:List T2.T}
end
theorem pL {l:List Rt}(hn:l.Nodup) (q:Rt->Bool):bst (l.filter q)=(bst l).filter q :=
 kD (h6 (List.filter_sublist.nodup hn)) (List.Pairwise.sublist List.filter_sublist (h6 hn)) ((cB _).trans ((cB l).filter q).symm)
theorem uZ:∀ {l m:List Rt},cK l->cK m->(l.map (·.1)).Nodup->l.Perm m->l=m
 |[],m,_,_,_,p=>(List.nil_perm.mp p).symm
 |a::l,[],_,_,_,p=>absurd p.length_eq (by simp)
 |a::l,b::m,h1,h2,hn,p=>by
  unfold cK at h1 h2
  rw [List.map_cons,List.pairwise_cons] at h1 h2
  rw [List.map_cons,List.nodup_cons] at hn
  by_cases e:a=b
  ·subst e
   rw [uZ (l:=l) (m:=m) h1.2 h2.2 hn.2 (List.Perm.cons_inv p)]
  ·have ha:a∈m:=by
    rcases List.mem_cons.mp (p.mem_iff.mp List.mem_cons_self) with h|h
    ·exact absurd h e
    ·exact h
   have hb:b∈l:=by
    rcases List.mem_cons.mp (p.mem_iff.mpr List.mem_cons_self) with h|h
    ·exact absurd h.symm e
    ·exact h
   have q1:=h1.1 b.1 (List.mem_map_of_mem hb)
   have q2:=h2.1 a.1 (List.mem_map_of_mem ha)
   rcases Ky.tri (show Ky.shp (.s a.1) (.s b.1)=true from rfl) with q|q|q
   ·rw [q] at q2;cases q2
   ·have:=Ky.s.inj q
    exact absurd (by rw [this];exact List.mem_map_of_mem hb) hn.1
   ·rw [q] at q1;cases q1
theorem sx {ms:Ms}{n:Int}{b:Str}:rtd ms n b=(ms.map λa=>(a.1,wrt a.2 n)).filter λa:Rt=>PySem.Txt.startswith a.1 b:=by
 unfold rtd g6
 rw [List.filter_map]
 rfl
structure Vk (ws:List Str) (k:Nat) (vs:List (Str×Bool)):Prop where
 len:vs.length<=k
 key:∀ a∈vs,a.1∈ws
theorem Vk.up {ws:List Str}{k:Nat}{vs:List (Str×Bool)}(h:Vk ws k vs):Vk ws (k+1) vs:=⟨by have:=h.len;omega,h.key⟩
theorem Vk.put {ws:List Str}{k:Nat}{vs:List (Str×Bool)}{z:Str}(h:Vk ws k vs) (hz:z∈ws):Vk ws (k+1) (vs++[(z,true)]):=⟨by have:=h.len;simp;omega,λa ha=>by
 rcases List.mem_append.mp ha with ha|ha
 ·exact h.key a ha
 ·rw [List.mem_singleton.mp ha];exact hz⟩
theorem Vk.drop {ws:List Str}{k:Nat}{vs:List (Str×Bool)}{z:Str}(h:Vk ws k vs):Vk ws (k+1) (dr vs z):=⟨by
 have:=h.len
 have h2:=List.length_filter_le (λa:Str×Bool=>decide (a.1≠z)) vs
 unfold dr
 omega,λa ha=>h.key a (List.mem_filter.mp ha).1⟩
inductive Ef where
 |own (m:Ms)
 |vei (v:List (Str×Bool))
 |hou (m:Ms)
 |no
def ef (w:Int) (z:Str) (c k n:Int) (hs ms:Ms) (vs:List (Str×Bool)):Ef :=
 if w=0 then (match look ms z with|none=>.own (ms++[(z,c,n)])|some _=>.no)
 else if w=1 then (match look ms z with|none=>.no|some _=>.own (dr ms z))
 else if w=2 then (match look vs z with|none=>.vei (vs++[(z,true)])|some _=>.no)
 else if w=3 then (match look vs z with|none=>.no|some _=>.vei (dr vs z))
 else match look vs z with
  |some _=>.no
  |none=>match look ms z with
   |some m=>.own (pu ms z (wrt m n+c,n))
   |none=>match look hs z with
    |some m=>.hou (pu hs z (wrt m k+c,k))
    |none=>.no
def kd (w:Int):T2.T:=.tup [.bl false,.bl (decide (w=0\/w=2)),.bl (decide (w=1\/w=3\/w=4)),.bl false]
def Ef.to (d v e:Addr) (S:Sto):Ef->Sto
 |.own m=>put S d (.dK (kt mkT m))
 |.vei x=>put S v (.dK (kt T2.T.bl x))
 |.hou m=>put S e (.dK (kt mkT m))
 |.no=>S
def Ef.r1 (w:Int):Ef->T2.T
 |.no=>.tup [.int 0,kd w]
 |_=>.tup [.non,.tup []]
def Ef.r2 (w:Int):Ef->T2.T
 |.no=>kd w
 |_=>.tup []
structure At (S:Sto) (l:List (Addr×O)):Prop where
 nd:(l.map (·.1)).Nodup
 is:∀ x∈l,S x.1=some x.2
section
variable {S S' S0:Sto}{l l' l0 l1 l2 l3:List (Addr×O)}{a:Addr}{o o':O}
theorem At.get (h:At S l) (i:Nat) (e:l[i]?=some (a,o)):S a=some o:=h.is _ (List.mem_of_getElem? e)
theorem sy {i:Nat}(e:l[i]?=some (a,o)):(l.set i (a,o')).map (·.1)=l.map (·.1):=by
 rw [List.map_set]
 refine List.ext_getElem? λj=>?_
 rw [List.getElem?_set]
 by_cases h:i=j
 ·subst h;rw [if_pos rfl,if_pos (by rw [List.length_map];exact (List.getElem?_eq_some_iff.mp e).1),List.getElem?_map,e];rfl
 ·rw [if_neg h]
theorem At.put (h:At S l) (i:Nat) (e:l[i]?=some (a,o)):At (T2.put S a o') (l.set i (a,o')):=by
 obtain ⟨hi,e2⟩:=List.getElem?_eq_some_iff.mp e
 refine ⟨sy e ▸ h.nd,λx hx=>?_⟩
 obtain ⟨j,hj,ej⟩:=List.mem_iff_getElem.mp hx
 rw [List.length_set] at hj
 rw [List.getElem_set] at ej
 split at ej
 ·subst ej;exact aC
 ·rename_i hij
  have hne:x.1≠a:=λq=>by
   have h1:=(List.getElem_inj (i:=i) (j:=j) (h₀:=by rw [List.length_map];exact hi) (h₁:=by rw [List.length_map];exact hj) h.nd).mp (by rw [List.getElem_map,List.getElem_map,e2,ej,q])
   exact hij h1
  rw [aE hne]
  exact h.is x (by rw [<- ej];exact List.getElem_mem hj)
structure Up (S0:Sto) (l0:List (Addr×O)) (S:Sto) (l:List (Addr×O)):Prop where
 at_:At S l
 ks:l.map (·.1)=l0.map (·.1)
 fr:∀ a,a∉l0.map (·.1)->S a=S0 a
theorem Up.refl (h:At S l):Up S l S l:=⟨h,rfl,λ_ _=>rfl⟩
theorem Up.put (h:Up S0 l0 S l) (i:Nat) (e:l[i]?=some (a,o)):Up S0 l0 (T2.put S a o') (l.set i (a,o')):=by
 refine ⟨h.at_.put i e,?_,λb hb=>?_⟩
 ·rw [<- h.ks];exact sy e
 ·have:b≠a:=λq=>hb (by rw [<- h.ks,q];exact List.mem_map_of_mem (List.mem_of_getElem? e))
  rw [aE this];exact h.fr b hb
end
structure Md (S:Sto) (q e g q2 e2:Addr) (k n:Int) (hs ms:Ms) (vs:List (Str×Bool)):Prop where
 m0:S q=some (.dK [(.inr "marks",.ref e),(.inr "era",.int n),(.inr "hidden",.ref g)])
 k0:S e=some (.dK (kt mkT ms))
 h0:S g=some (.dK (kt T2.T.bl vs))
 m2:S q2=some (.dK [(.inr "marks",.ref e2),(.inr "era",.int k)])
 k2:S e2=some (.dK (kt mkT hs))
theorem Md.fr {S S':Sto}{q e g q2 e2:Addr}{k n:Int}{hs ms:Ms}{vs:List (Str×Bool)}(m:Md S q e g q2 e2 k n hs ms vs) (h:∀ a u,S a=some u->S' a=some u):Md S' q e g q2 e2 k n hs ms vs:=⟨h _ _ m.m0,h _ _ m.k0,h _ _ m.h0,h _ _ m.m2,h _ _ m.k2⟩
theorem Md.new {S:Sto}{a:Addr}{o:O}{q e g q2 e2:Addr}{k n:Int}{hs ms:Ms}{vs:List (Str×Bool)}(m:Md S q e g q2 e2 k n hs ms vs) (h:S a=none):Md (T2.put S a o) q e g q2 e2 k n hs ms vs:=m.fr λx u hx=>(aE (gR hx h)).trans hx
def bA (ms:Ms) (n:Int):List Rt:=ms.map λa=>(a.1,wrt a.2 n)
def p1 (vs:List (Str×Bool)) (b:Str) (a:Rt):Bool:=decide (PySem.Txt.slice a.1 none (some (b.length:Int))=b)&&(look vs a.1).isNone
def p2 (ms:Ms) (vs:List (Str×Bool)) (b:Str) (a:Rt):Bool:=p1 vs b a&&(look ms a.1).isNone
theorem jL {ms:Ms}{n:Int}(h:(ms.map (·.1)).Nodup):(bA ms n).Nodup:=qD (by unfold bA;rw [List.map_map];exact h)
theorem Bv {ms:Ms}{n:Int}{vs:List (Str×Bool)}{b:Str}(h:(ms.map (·.1)).Nodup):bst (kJ ms vs n b)=(bst (bA ms n)).filter (p1 vs b):=by
 rw [<- pL (jL h)]
 congr 1
 unfold kJ
 rw [sx,List.filter_filter]
 unfold bA
 congr 1
 funext a
 unfold p1
 rw [Tm.kO,Bool.and_comm]
theorem Bw {hs ms:Ms}{k:Int}{vs:List (Str×Bool)}{b:Str}(h:(hs.map (·.1)).Nodup):bst (kK hs ms vs k b)=(bst (bA hs k)).filter (p2 ms vs b):=by
 rw [<- pL (jL h)]
 congr 1
 unfold kK
 rw [sx,List.filter_filter]
 unfold bA
 congr 1
 funext a
 unfold p2 p1
 rw [Tm.kO,Bool.and_comm,Bool.and_assoc]
theorem jM {w:World}{S:Sto}{Q:T->Sto->Prop}{q e:Addr}{n:Int}{ms:Ms}{r:List (Key×T2.T)}(h1:S q=some (.dK ((.inr "marks",.ref e)::(.inr "era",.int n)::r))) (h2:S e=some (.dK (kt mkT ms))) (h3:Mk2 n ms) (h:∀ l:List Rt,l.Perm (ms.map λa=>(a.1,wrt a.2 n))->cK l->Q (.lst (l.map rt)) S):jK w ([.ref q]++[]) S Q:=⟨q,e,n,ms,r,rfl,h1,h2,h3,h⟩
theorem sA {S:Sto}{Q:T->Sto->Prop}{l:List Rt}(h1:l.length<64) (h2:l.Nodup) (h:Q (.lst ((bst l).map rt)) S):mw ([.lst (l.map rt)]++[]) S Q:=⟨_,l,rfl,rfl,h1,h2,h⟩
def sB:WSp:=λts S Q=>∃ mo wh q0 q2 e0 g0 e2 k n hs ms vs b,ts=[.lst mo,.int wh,.str b]/\atI mo wh=some (.ref q0)/\atI mo 2=some (.ref q2)/\Md S q0 e0 g0 q2 e2 k n hs ms vs/\Mk2 k hs/\Mk2 n ms/\b.length<=24/\Q (.lst ((fi hs ms vs k n b).map rw3)) S
theorem py:FnScope ["_law_models","_law_which","_law_text","_law_mine","_law_rows","_law_word_here","_law_worth"] kF (ai fU):=by nofun
theorem zm {f f1 f2:Addr}{fd fd1 fd2:FuncData}(F:Fun K "_law_told" "_law_told" fU f fd) (T:Txt K mg C L Z) (G__law_rated:FnOk P w K mg base CX0 4 f1 fd1 g5 (lSp K (jK w))) (D__law_rated:Df K mg "_law_rated" f1 fd1 g5)
  (G__law_best:FnOk P w K mg base CX0 3 f2 fd2 kI (lSp K mw)) (D__law_best:Df K mg "_law_best" f2 fd2 kI):FnOk P w K mg base CX0 5 f fd kF (lSp K sB):=by
 refine aZ F py (λts S Q h=>?_) λcdv A outer s H E hr=>?_
 ·obtain ⟨mo,wh,q0,q2,e0,g0,e2,k,n,hs,ms,vs,b,rfl,_⟩:=h;rfl
 have nd:=py.nd
 refine ⟨_,((al (aG (i:=3) nd rfl (Or.inl rfl) (aB rfl (aa 0) (aa 1) (λ_ _=>rfl)))
   (al (aG (i:=4) nd rfl (Or.inl rfl) (jQ af))
   (al (d9 PassesOwn.never rfl (ci rfl (ax G__law_best D__law_best hr.m (by rfl) (ae (ax G__law_rated D__law_rated hr.m (by rfl) (ae (aa 3) af (ac rfl))) af (ac rfl)))) (d4 (λh=>dX (n:=2) rfl rfl h) (bH (aT (i:=5) nd rfl (Or.inl rfl)) (bH (aT (i:=6) nd rfl (Or.inl rfl)) dY (λh1 h2=>bG h1 h2)) (λh1 h2=>bG h1 h2)))
    (ak (aK (b6 (b0 (ay (aX rfl hr.units) (eK false rfl (aa 5) gr (dZ (aM (bC rfl) (by rfl) T.len PySem.boot_len (ae (aa 2) af (ac rfl))))) (aa 2) (aI _)) (cD (ay (cf w rfl) (aa 5) (a6 w rfl (aa 3) aD (λ_ _=>rfl)) (by with_unfolding_all rfl)))))
    (ak (bI (bX rfl PySem.F.plainAttrs_list PySem.F.slot_list_append PySem.F.type_list_append lj (aa 4) (ae (aN (ae (aa 5) (ae (aa 6) (ae bu af (ac rfl)) (ac rfl)) (ac rfl))) af (ac rfl)) (λh1 h2 h3=>bQ PySem.F.plainAttrs_list PySem.F.slot_list_append PySem.F.type_list_append h2 h1 h3))))
    aQ)))
   (al (d9 PassesOwn.never rfl (ci rfl (ax G__law_best D__law_best hr.m (by rfl) (ae (ax G__law_rated D__law_rated hr.m (by rfl) (ae (aB rfl (aa 0) ag (λ_ _=>rfl)) af (ac rfl))) af (ac rfl)))) (d4 (λh=>dX (n:=2) rfl rfl h) (bH (aT (i:=5) nd rfl (Or.inl rfl)) (bH (aT (i:=6) nd rfl (Or.inl rfl)) dY (λh1 h2=>bG h1 h2)) (λh1 h2=>bG h1 h2)))
    (ak (aK (b6 (b0 (ay (aX rfl hr.units) (eK false rfl (aa 5) gr (dZ (aM (bC rfl) (by rfl) T.len PySem.boot_len (ae (aa 2) af (ac rfl))))) (aa 2) (aI _)) (b0 (ay (cf w rfl) (aa 5) (a6 w rfl (aa 3) aD (λ_ _=>rfl)) (by with_unfolding_all rfl)) (cD (ay (cf w rfl) (aa 5) (a6 w rfl (aa 3) aD (λ_ _=>rfl)) (by with_unfolding_all rfl))))))
    (ak (bI (bX rfl PySem.F.plainAttrs_list PySem.F.slot_list_append PySem.F.type_list_append lj (aa 4) (ae (aN (ae (aa 5) (ae (aa 6) (ae bu af (ac rfl)) (ac rfl)) (ac rfl))) af (ac rfl)) (λh1 h2 h3=>bQ PySem.F.plainAttrs_list PySem.F.slot_list_append PySem.F.type_list_append h2 h1 h3))))
    aQ)))
   (ak (az (aa 4)))))))),λts S Q h=>?_⟩
 obtain ⟨mo,wh,q0,q2,e0,g0,e2,k,n,hs,ms,vs,b,rfl,hx0,hx2,hMd,hH,hM,hb24,hq⟩:=h
 ac_nf
 bv_omega
 intro r hr0
 have gM:∀ o:O,Md (put S r o) q0 e0 g0 q2 e2 k n hs ms vs:=λo=>hMd.new hr0
 have lh:=hH.len
 have lm:=hM.len
 bv_omega
 refine jM (gM _).m0 (gM _).k0 hM λl hlp hlr=>?_
 have hl1:l.length<64:=by rw [hlp.length_eq,List.length_map];omega
 have hl2:l.Nodup:=hlp.nodup_iff.mpr (jL hM.nd)
 bv_omega
 refine sA hl1 hl2 ?_
 rw [show bst l=bst (bA ms n) from qg hl2 hlp]
 have hB1:(bst (bA ms n)).length<=60:=by rw [eM];unfold bA;rw [List.length_map];exact lm
 have hW1:∀ a∈bst (bA ms n),a.1.length<=24:=λa ha=>by
  obtain ⟨x,hx,rfl⟩:=List.mem_map.mp ((cB _).mem_iff.mp ha)
  exact (Wm.eQ (hM.wd x hx)).2
 bv_omega
 refine ma (λrest σ' S'=>∃ pre u5 u6,bst (bA ms n)=pre++rest/\σ'=[some (.lst mo),some (.int wh),some (.str b),some (.ref q0),some (.ref r),u5,u6]/\S'=put S r (.lst ((wo true (pre.filter (p1 vs b))).map rw3))) ⟨[],_,_,rfl,rfl,rfl⟩ ?_ ?_
 ·rintro a rest σ' S' N ⟨pre,u5,u6,hpre,rfl,rfl⟩ hN
  have ha24:=hW1 a (by rw [hpre];simp)
  have hm0:=(gM (.lst ((wo true (pre.filter (p1 vs b))).map rw3))).m0
  have hg0:=(gM (.lst ((wo true (pre.filter (p1 vs b))).map rw3))).h0
  have hpl:(pre.filter (p1 vs b)).length<64:=by
   have h1:=List.length_filter_le (p1 vs b) pre
   have h2:=congrArg List.length hpre
   rw [List.length_append,List.length_cons] at h2
   omega
  have key:∀ x,p1 vs b a=x->N [some (.lst mo),some (.int wh),some (.str b),some (.ref q0),some (.ref r),some (.str a.1),some (.int a.2)] (put S r (.lst ((wo true (pre.filter (p1 vs b)++if x=true then [a] else [])).map rw3))):=λx hx=>by
   refine hN _ _ ⟨pre++[a],_,_,by rw [hpre,List.append_assoc];rfl,rfl,?_⟩
   rw [List.filter_append,List.filter_cons,List.filter_nil,hx]
  refine ⟨trivial,?_⟩
  unfold rt
  bv_omega
  rw [Bool.false_xor]
  refine ifB (λhb=>?_) λhb=>?_
  ·bv_omega
   refine a8 hg0 rfl ?_
   rw [aR,Option.isSome_map]
   bv_omega
   refine ifB (λhb2=>?_) λhb2=>?_
   ·have k0:=key true (by unfold p1;rw [hb,Bool.true_and];cases q:look vs a.1 with|none=>rfl|some x=>rw [q] at hb2;cases hb2)
    bv_omega
    refine ln aC (by rw [List.length_map];unfold wo;rw [List.length_map,sizeLine_eq];omega) ?_
    rw [cg]
    rw [if_pos rfl] at k0
    unfold wo at k0 ⊢
    rw [List.map_append,List.map_append] at k0
    exact k0
   ·have k0:=key false (by unfold p1;rw [hb,Bool.true_and];cases q:look vs a.1 with|none=>rw [q] at hb2;cases hb2|some x=>rfl)
    rw [if_neg (by decide),List.append_nil] at k0
    bv_omega
    exact k0
  ·have k0:=key false (by unfold p1;rw [hb,Bool.false_and])
   rw [if_neg (by decide),List.append_nil] at k0
   bv_omega
   exact k0
 rintro σ' S' ⟨pre,u5,u6,hpre,rfl,rfl⟩
 rw [List.append_nil] at hpre
 subst hpre
 refine ⟨trivial,?_⟩
 bv_omega
 refine jM (gM _).m2 (gM _).k2 hH λl hlp hlr=>?_
 have hl1:l.length<64:=by rw [hlp.length_eq,List.length_map];omega
 have hl2:l.Nodup:=hlp.nodup_iff.mpr (jL hH.nd)
 bv_omega
 refine sA hl1 hl2 ?_
 rw [show bst l=bst (bA hs k) from qg hl2 hlp]
 have hB2:(bst (bA hs k)).length<=60:=by rw [eM];unfold bA;rw [List.length_map];exact lh
 have hW2:∀ a∈bst (bA hs k),a.1.length<=24:=λa ha=>by
  obtain ⟨x,hx,rfl⟩:=List.mem_map.mp ((cB _).mem_iff.mp ha)
  exact (Wm.eQ (hH.wd x hx)).2
 have hF1:((bst (bA ms n)).filter (p1 vs b)).length<=60:=Nat.le_trans (List.length_filter_le _ _) hB1
 generalize hFe:(bst (bA ms n)).filter (p1 vs b)=F1 at hF1 ⊢
 bv_omega
 refine ma (λrest σ' S'=>∃ pre u5 u6,bst (bA hs k)=pre++rest/\σ'=[some (.lst mo),some (.int wh),some (.str b),some (.ref q0),some (.ref r),u5,u6]/\S'=put S r (.lst ((wo true F1++wo false (pre.filter (p2 ms vs b))).map rw3))) ⟨[],_,_,rfl,rfl,by rw [show wo false (List.filter (p2 ms vs b) [])=[] from rfl,List.append_nil]⟩ ?_ ?_
 ·rintro a rest σ' S' N ⟨pre,u5,u6,hpre,rfl,rfl⟩ hN
  have ha24:=hW2 a (by rw [hpre];simp)
  have hm0:=(gM (.lst ((wo true F1++wo false (pre.filter (p2 ms vs b))).map rw3))).m0
  have hg0:=(gM (.lst ((wo true F1++wo false (pre.filter (p2 ms vs b))).map rw3))).h0
  have hk0:=(gM (.lst ((wo true F1++wo false (pre.filter (p2 ms vs b))).map rw3))).k0
  have hpl:(pre.filter (p2 ms vs b)).length<64:=by
   have h1:=List.length_filter_le (p2 ms vs b) pre
   have h2:=congrArg List.length hpre
   rw [List.length_append,List.length_cons] at h2
   omega
  have key:∀ x,p2 ms vs b a=x->N [some (.lst mo),some (.int wh),some (.str b),some (.ref q0),some (.ref r),some (.str a.1),some (.int a.2)] (put S r (.lst ((wo true F1++wo false (pre.filter (p2 ms vs b)++if x=true then [a] else [])).map rw3))):=λx hx=>by
   refine hN _ _ ⟨pre++[a],_,_,by rw [hpre,List.append_assoc];rfl,rfl,?_⟩
   rw [List.filter_append,List.filter_cons,List.filter_nil,hx]
  refine ⟨trivial,?_⟩
  unfold rt
  bv_omega
  rw [Bool.false_xor]
  refine ifB (λhb=>?_) λhb=>?_
  ·bv_omega
   refine a8 hg0 rfl ?_
   rw [aR,Option.isSome_map]
   bv_omega
   refine ifB (λhb2=>?_) λhb2=>?_
   ·have e2:(look vs a.1).isNone=true:=by cases q:look vs a.1 with|none=>rfl|some x=>rw [q] at hb2;cases hb2
    bv_omega
    refine a8 hk0 rfl ?_
    rw [aR,Option.isSome_map]
    bv_omega
    refine ifB (λhb3=>?_) λhb3=>?_
    ·have k0:=key true (by unfold p2 p1;rw [hb,e2,Bool.true_and,Bool.true_and];cases q:look ms a.1 with|none=>rfl|some x=>rw [q] at hb3;cases hb3)
     bv_omega
     refine ln aC (by rw [List.length_map,List.length_append];unfold wo;rw [List.length_map,List.length_map,sizeLine_eq];omega) ?_
     rw [cg]
     rw [if_pos rfl] at k0
     unfold wo at k0 ⊢
     rw [List.map_append (f:=λa:Rt=>(a.1,a.2,false)),<- List.append_assoc,List.map_append] at k0
     exact k0
    ·have k0:=key false (by unfold p2 p1;rw [hb,e2,Bool.true_and,Bool.true_and];cases q:look ms a.1 with|none=>rw [q] at hb3;cases hb3|some x=>rfl)
     rw [if_neg (by decide),List.append_nil] at k0
     bv_omega
     exact k0
   ·have k0:=key false (by unfold p2 p1;rw [hb,Bool.true_and];cases q:look vs a.1 with|none=>rw [q] at hb2;cases hb2|some x=>rfl)
    rw [if_neg (by decide),List.append_nil] at k0
    bv_omega
    exact k0
  ·have k0:=key false (by unfold p2 p1;rw [hb,Bool.false_and,Bool.false_and])
   rw [if_neg (by decide),List.append_nil] at k0
   bv_omega
   exact k0
 rintro σ' S' ⟨pre,u5,u6,hpre,rfl,rfl⟩
 rw [List.append_nil] at hpre
 subst hpre
 refine ⟨trivial,?_⟩
 bv_omega
 rw [<- hFe,<- Bv hM.nd,<- Bw hH.nd]
 exact .frz aC (.put hr0) hr0 hq
section
variable {w c k n:Int}{z:Str}{hs ms m':Ms}{vs v':List (Str×Bool)}{ws:List Str}{j:Nat}
theorem ef0 (h:look ms z=none):ef 0 z c k n hs ms vs=.own (ms++[(z,c,n)]):=by unfold ef;rw [if_pos rfl,h]
theorem i6 {m:Int×Int}(h:look ms z=some m):ef 0 z c k n hs ms vs=.no:=by unfold ef;rw [if_pos rfl,h]
theorem ef1 {m:Int×Int}(h:look ms z=some m):ef 1 z c k n hs ms vs=.own (dr ms z):=by unfold ef;rw [if_neg (by decide),if_pos rfl,h]
theorem g7 (h:look ms z=none):ef 1 z c k n hs ms vs=.no:=by unfold ef;rw [if_neg (by decide),if_pos rfl,h]
theorem ef2 (h:look vs z=none):ef 2 z c k n hs ms vs=.vei (vs++[(z,true)]):=by unfold ef;rw [if_neg (by decide),if_neg (by decide),if_pos rfl,h]
theorem i7 {m:Bool}(h:look vs z=some m):ef 2 z c k n hs ms vs=.no:=by unfold ef;rw [if_neg (by decide),if_neg (by decide),if_pos rfl,h]
theorem ef3 {m:Bool}(h:look vs z=some m):ef 3 z c k n hs ms vs=.vei (dr vs z):=by unfold ef;rw [if_neg (by decide),if_neg (by decide),if_neg (by decide),if_pos rfl,h]
theorem g8 (h:look vs z=none):ef 3 z c k n hs ms vs=.no:=by unfold ef;rw [if_neg (by decide),if_neg (by decide),if_neg (by decide),if_pos rfl,h]
theorem i8 {m:Bool}(h:look vs z=some m):ef 4 z c k n hs ms vs=.no:=by unfold ef;rw [if_neg (by decide),if_neg (by decide),if_neg (by decide),if_neg (by decide),h]
theorem g9 {m:Int×Int}(h:look vs z=none) (h1:look ms z=some m):ef 4 z c k n hs ms vs=.own (pu ms z (wrt m n+c,n)):=by unfold ef;rw [if_neg (by decide),if_neg (by decide),if_neg (by decide),if_neg (by decide),h];dsimp only;rw [h1]
theorem hJ {m:Int×Int}(h:look vs z=none) (h1:look ms z=none) (h2:look hs z=some m):ef 4 z c k n hs ms vs=.hou (pu hs z (wrt m k+c,k)):=by unfold ef;rw [if_neg (by decide),if_neg (by decide),if_neg (by decide),if_neg (by decide),h];dsimp only;rw [h1];dsimp only;rw [h2]
theorem hZ (h:look vs z=none) (h1:look ms z=none) (h2:look hs z=none):ef 4 z c k n hs ms vs=.no:=by unfold ef;rw [if_neg (by decide),if_neg (by decide),if_neg (by decide),if_neg (by decide),h];dsimp only;rw [h1];dsimp only;rw [h2]
theorem w5 (h0:0<=w) (h4:w<=4):w=0\/w=1\/w=2\/w=3\/w=4:=by omega
theorem DZ (e:ef w z c k n hs ms vs=.own m') (h:Wk ws j n ms) (hz:z∈ws) (h0:0<=w) (h4:w<=4) (c0:0<=c) (c1:c<=1000000000) (c2:w≠0->c<=1000000):Wk ws (j+1) n m':=by
 rcases w5 h0 h4 with rfl|rfl|rfl|rfl|rfl
 ·cases hm:look ms z with
  |none=>rw [ef0 hm] at e;cases e;exact h.put hz hm c0 c1
  |some m=>rw [i6 hm] at e;cases e
 ·cases hm:look ms z with
  |none=>rw [g7 hm] at e;cases e
  |some m=>rw [ef1 hm] at e;cases e;exact h.strike
 ·cases hm:look vs z with
  |none=>rw [ef2 hm] at e;cases e
  |some m=>rw [i7 hm] at e;cases e
 ·cases hm:look vs z with
  |none=>rw [g8 hm] at e;cases e
  |some m=>rw [ef3 hm] at e;cases e
 ·cases hm:look vs z with
  |some m=>rw [i8 hm] at e;cases e
  |none =>
   cases h1:look ms z with
   |some m=>rw [g9 hm h1] at e;cases e;exact h.use h1 c0 (c2 (by decide))
   |none =>
    cases h2:look hs z with
    |some m=>rw [hJ hm h1 h2] at e;cases e
    |none=>rw [hZ hm h1 h2] at e;cases e
theorem D0 (e:ef w z c k n hs ms vs=.vei v') (h:Vk ws j vs) (hz:z∈ws) (h0:0<=w) (h4:w<=4):Vk ws (j+1) v':=by
 rcases w5 h0 h4 with rfl|rfl|rfl|rfl|rfl
 ·cases hm:look ms z with
  |none=>rw [ef0 hm] at e;cases e
  |some m=>rw [i6 hm] at e;cases e
 ·cases hm:look ms z with
  |none=>rw [g7 hm] at e;cases e
  |some m=>rw [ef1 hm] at e;cases e
 ·cases hm:look vs z with
  |none=>rw [ef2 hm] at e;cases e;exact h.put hz
  |some m=>rw [i7 hm] at e;cases e
 ·cases hm:look vs z with
  |none=>rw [g8 hm] at e;cases e
  |some m=>rw [ef3 hm] at e;cases e;exact h.drop
 ·cases hm:look vs z with
  |some m=>rw [i8 hm] at e;cases e
  |none =>
   cases h1:look ms z with
   |some m=>rw [g9 hm h1] at e;cases e
   |none =>
    cases h2:look hs z with
    |some m=>rw [hJ hm h1 h2] at e;cases e
    |none=>rw [hZ hm h1 h2] at e;cases e
theorem D6 (e:ef w z c k n hs ms vs=.hou m') (h:Wk ws j k hs) (h0:0<=w) (h4:w<=4) (c0:0<=c) (c2:w≠0->c<=1000000):Wk ws (j+1) k m':=by
 rcases w5 h0 h4 with rfl|rfl|rfl|rfl|rfl
 ·cases hm:look ms z with
  |none=>rw [ef0 hm] at e;cases e
  |some m=>rw [i6 hm] at e;cases e
 ·cases hm:look ms z with
  |none=>rw [g7 hm] at e;cases e
  |some m=>rw [ef1 hm] at e;cases e
 ·cases hm:look vs z with
  |none=>rw [ef2 hm] at e;cases e
  |some m=>rw [i7 hm] at e;cases e
 ·cases hm:look vs z with
  |none=>rw [g8 hm] at e;cases e
  |some m=>rw [ef3 hm] at e;cases e
 ·cases hm:look vs z with
  |some m=>rw [i8 hm] at e;cases e
  |none =>
   cases h1:look ms z with
   |some m=>rw [g9 hm h1] at e;cases e
   |none =>
    cases h2:look hs z with
    |some m=>rw [hJ hm h1 h2] at e;cases e;exact h.use h2 c0 (c2 (by decide))
    |none=>rw [hZ hm h1 h2] at e;cases e
theorem kdT (h:w=0\/w=2):kd w=.tup [.bl false,.bl true,.bl false,.bl false]:=by rcases h with rfl|rfl<;>simp [kd]
theorem kdA (h:w=1\/w=3\/w=4):kd w=.tup [.bl false,.bl false,.bl true,.bl false]:=by rcases h with rfl|rfl|rfl<;>simp [kd]
end
theorem er {i:Nat}{D:EndsT}{σ:StT}{S:Sto}(h:D.nx (σ.set i none) S):(asE i D).nx σ S:=h
def sC (Z:Zs):WSp:=λts S Q=>∃ a c,ts=[.ref a]/\S a=some (.exk c)/\((c=Z.N/\Q (.tup [.bl true,.bl false,.bl false,.bl false]) S)\/(c=Z.T/\Q (.tup [.bl false,.bl true,.bl false,.bl false]) S)\/(c=Z.A/\Q (.tup [.bl false,.bl false,.bl true,.bl false]) S))
theorem o7:FnScope ["_law_e","_law_others"] ["_law_e"] (ai fL):=by nofun
theorem zn {f:Addr}{fd:FuncData}(F:Fun K "_law_kinds" "_law_kinds" fL f fd) (T:Txt K mg C L Z):FnOkH P w K mg base CX0 1 f fd ["_law_e"] (lSp K (sC Z)):=by
 refine AV F o7 (λts S Q h=>?_) λcdv A outer s H E hr=>?_
 ·obtain ⟨a,c,rfl,_⟩:=h;rfl
 have nd:=o7.nd
 refine ⟨_,((al (aG (i:=1) nd rfl (Or.inl rfl) (aM (DH rfl T.gx) (by rfl) T.isinstance PyProof.Rows.boot_isinstance (ae (aa 0) (ae (aN (ae (el (by rfl) T.mg_Beside) (ae (el (by rfl) T.mg_NoChoice) (ae (el (by rfl) T.mg_NoRow) (ae (el (by rfl) T.mg_NoSign) (ae (el (by rfl) T.mg_NoText) af (ac rfl)) (ac rfl)) (ac rfl)) (ac rfl)) (ac rfl))) af (ac rfl)) (ac rfl))))
   (ak (az (aN (ae (aM (nJ rfl T.gx) (by rfl) T.isinstance PyProof.Rows.boot_isinstance (ae (aa 0) (ae (el (by rfl) T.mg_NoWord) af (ac rfl)) (ac rfl))) (ae (aM (nJ rfl T.gx) (by rfl) T.isinstance PyProof.Rows.boot_isinstance (ae (aa 0) (ae (el (by rfl) T.mg_Twice) af (ac rfl)) (ac rfl))) (ae (aM (nJ rfl T.gx) (by rfl) T.isinstance PyProof.Rows.boot_isinstance (ae (aa 0) (ae (el (by rfl) T.mg_Absent) af (ac rfl)) (ac rfl))) (ae (aa 1) af (ac rfl)) (ac rfl)) (ac rfl)) (ac rfl))))))),λts S Q h=>?_⟩
 obtain ⟨a,c,rfl,ha,h⟩:=h
 ac_nf
 rcases h with ⟨rfl,hq⟩|⟨rfl,hq⟩|⟨rfl,hq⟩
 ·bv_omega
  refine mV (ys:=[Z.B1,Z.B2,Z.B3,Z.B4,Z.B5]) ha (.inl rfl) T.on ?_
  bv_omega
  refine dP ha (.inl rfl) rfl T.knn ?_
  bv_omega
  refine dP ha (.inl rfl) rfl T.knt ?_
  bv_omega
  refine dP ha (.inl rfl) rfl T.kna ?_
  bv_omega
  exact .mk hq
 ·bv_omega
  refine mV (ys:=[Z.B1,Z.B2,Z.B3,Z.B4,Z.B5]) ha (.inr (.inl rfl)) T.ot ?_
  bv_omega
  refine dP ha (.inr (.inl rfl)) rfl T.ktn ?_
  bv_omega
  refine dP ha (.inr (.inl rfl)) rfl T.ktt ?_
  bv_omega
  refine dP ha (.inr (.inl rfl)) rfl T.kta ?_
  bv_omega
  exact .mk hq
 ·bv_omega
  refine mV (ys:=[Z.B1,Z.B2,Z.B3,Z.B4,Z.B5]) ha (.inr (.inr rfl)) T.oa ?_
  bv_omega
  refine dP ha (.inr (.inr rfl)) rfl T.kan ?_
  bv_omega
  refine dP ha (.inr (.inr rfl)) rfl T.kat ?_
  bv_omega
  refine dP ha (.inr (.inr rfl)) rfl T.kaa ?_
  bv_omega
  exact .mk hq
def ni (C L:Addr):WSp:=λts S Q=>∃ y h e p d v k n hs ms vs w t c,ts=[.ref y,.int w,t,.int c]/\Ly C L S y h e p d v k n hs ms vs/\((∃ z,t=.str z/\hs.length<=60/\ms.length<=60/\vs.length<=60/\(∀ a∈ms,a.2.2<=n)/\(∀ a∈hs,a.2.2<=k)/\0<=w/\w<=4/\(w=0\/w=2->Wm.Wd z=true)/\z.length<=1000/\PyData.strOk z=true /\
 Q ((ef w z c k n hs ms vs).r1 w) ((ef w z c k n hs ms vs).to d v e S))\/(w=0\/w=2)/\Bad t/\Q (.tup [.int 0,.tup [.bl true,.bl false,.bl false,.bl false]]) S)
theorem pz:FnScope ["_law_layers","_law_way","_law_word_here","_law_number","_law_told_here","_law_kinds_here","_law_e"] vv4 (ai fV):=by nofun
theorem Bx {f f1 f2 f3 f4 f5 f6:Addr}{fd fd1 fd2 fd3 fd4 fd5 fd6:FuncData}{tk:Tok}(F:Fun K "_law_done" "_law_done" fV f fd) (T:Txt K mg C L Z)
  (H__law_kinds:FnOkH P w K mg base CX0 1 f1 fd1 ["_law_e"] (lSp K (sC Z))) (D__law_kinds:Df K mg "_law_kinds" f1 fd1 ["_law_e"])
  (G_Layers_put:FnOk P w K mg base CX0 5 f2 fd2 vv2 (lSp K (t9 C L))) (R_Layers_put:FnOk P w K mg base (CX1 P w) 5 f2 fd2 vv2 (bb K (sk C L Z))) (M_Layers_put:Meth K L "put" f2) (B_Layers_put:aq K fd2 vv2 [])
  (G_Layers_strike:FnOk P w K mg base CX0 3 f3 fd3 vv0 (lSp K (qh C L))) (R_Layers_strike:FnOk P w K mg base (CX1 P w) 4 f3 fd3 vv0 (bb K (pK C L Z))) (M_Layers_strike:Meth K L "strike" f3) (B_Layers_strike:aq K fd3 vv0 [])
  (G_Layers_hide:FnOk P w K mg base CX0 4 f4 fd4 vv0 (lSp K (ua C L))) (R_Layers_hide:FnOk P w K mg base (CX1 P w) 4 f4 fd4 vv0 (bb K (sm C L Z))) (M_Layers_hide:Meth K L "hide" f4) (B_Layers_hide:aq K fd4 vv0 [])
  (G_Layers_show:FnOk P w K mg base CX0 1 f5 fd5 vv0 (lSp K (ub C L))) (R_Layers_show:FnOk P w K mg base (CX1 P w) 1 f5 fd5 vv0 (bb K (su C L Z))) (M_Layers_show:Meth K L "show" f5) (B_Layers_show:aq K fd5 vv0 [])
  (G_Layers_use:FnOk P w K mg base CX0 4 f6 fd6 vv3 (lSp K (ud C L))) (R_Layers_use:FnOk P w K mg base (CX1 P w) 4 f6 fd6 vv3 (bb K (sv C L Z))) (M_Layers_use:Meth K L "use" f6) (B_Layers_use:aq K fd6 vv3 []) (B0_Layers_use:aq K fd6 vv3 [.int 1 tk]) :
  FnOk P w K mg base CX0 6 f fd vv4 (lSp K (ni C L)):=by
 refine aZ F pz (λts S Q h=>?_) λcdv A outer s H E hr=>?_
 ·obtain ⟨y,h,e,p,d,v,k,n,hs,ms,vs,w,t,c,rfl,_⟩:=h;rfl
 have nd:=pz.nd
 refine ⟨_,((al (aG (i:=4) nd rfl (Or.inl rfl) ag)
   (al (aG (i:=5) nd rfl (Or.inl rfl) (aN af))
   (al (DC ⟨rfl,rfl⟩ (ak (aK (ay (aX rfl hr.units) (aa 1) ag (aI _))
    (ak (aG (i:=4) nd rfl (Or.inl rfl) (ba (T.gl M_Layers_put) G_Layers_put B_Layers_put hr.m (aa 0) (ae (aa 2) (ae (aa 3) af (ac rfl)) (ac rfl)))))
    (ak (aK (ay (aX rfl hr.units) (aa 1) ag (aI _))
    (ak (aG (i:=4) nd rfl (Or.inl rfl) (ba (T.gl M_Layers_strike) G_Layers_strike B_Layers_strike hr.m (aa 0) (ae (aa 2) af (ac rfl)))))
    (ak (aK (ay (aX rfl hr.units) (aa 1) ag (aI _))
    (ak (aG (i:=4) nd rfl (Or.inl rfl) (ba (T.gl M_Layers_hide) G_Layers_hide B_Layers_hide hr.m (aa 0) (ae (aa 2) af (ac rfl)))))
    (ak (aK (ay (aX rfl hr.units) (aa 1) ag (aI _))
    (ak (aG (i:=4) nd rfl (Or.inl rfl) (ba (T.gl M_Layers_show) G_Layers_show B_Layers_show hr.m (aa 0) (ae (aa 2) af (ac rfl)))))
    (ak (aK (ay (aX rfl hr.units) (aa 3) ag (aI _))
    (ak (aG (i:=4) nd rfl (Or.inl rfl) (AX (T.gl M_Layers_use) G_Layers_use B0_Layers_use hr.m (aa 0) (ae (aa 2) af (ac rfl)))))
    (ak (aG (i:=4) nd rfl (Or.inl rfl) (ba (T.gl M_Layers_use) G_Layers_use B_Layers_use hr.m (aa 0) (ae (aa 2) (ae (aa 3) af (ac rfl)) (ac rfl)))))))))))))))
    (aP (b5 (ay (aX rfl hr.units) (aa 1) ag (aI _)) (aP (gG (cX (T.gl M_Layers_put) R_Layers_put B_Layers_put hr.m (aa 0) (ae (aa 2) (ae (aa 3) af (ac rfl)) (ac rfl)))))
    (aP (b5 (ay (aX rfl hr.units) (aa 1) ag (aI _)) (aP (gG (cX (T.gl M_Layers_strike) R_Layers_strike B_Layers_strike hr.m (aa 0) (ae (aa 2) af (ac rfl)))))
    (aP (b5 (ay (aX rfl hr.units) (aa 1) ag (aI _)) (aP (gG (cX (T.gl M_Layers_hide) R_Layers_hide B_Layers_hide hr.m (aa 0) (ae (aa 2) af (ac rfl)))))
    (aP (b5 (ay (aX rfl hr.units) (aa 1) ag (aI _)) (aP (gG (cX (T.gl M_Layers_show) R_Layers_show B_Layers_show hr.m (aa 0) (ae (aa 2) af (ac rfl)))))
    (aP (b5 (ay (aX rfl hr.units) (aa 3) ag (aI _)) (aP (gG (y7 (T.gl M_Layers_use) R_Layers_use B0_Layers_use hr.m (aa 0) (ae (aa 2) af (ac rfl)))))
    (aP (gG (cX (T.gl M_Layers_use) R_Layers_use B_Layers_use hr.m (aa 0) (ae (aa 2) (ae (aa 3) af (ac rfl)) (ac rfl)))))))))))))))
    (FZ (i:=6) rfl nd rfl rfl (by rfl) T.mg_AheadError (λ_=>(ak (aG (i:=5) nd rfl (Or.inl rfl) (AW H__law_kinds D__law_kinds (hr.m.h.mark) (by rfl) (ae (aa 6) af (ac rfl)))))) (DB Dx)))
   (ak (az (aN (ae (aa 4) (ae (aa 5) af (ac rfl)) (ac rfl))))))))),λts S Q hh=>?_⟩
 obtain ⟨y,h,e,p,d,v,k,n,hs,ms,vs,w,t,c,rfl,hL,hh⟩:=hh
 have hy:=hL.ins
 ac_nf
 bv_omega
 rcases hh with ⟨z,rfl,l1,l2,l3,om,oh,h0,h4,hwd,hzl,hzo,hq⟩|⟨hw,hB,hq⟩
 rotate_left
 ·refine tW ?_
  bv_omega
  rcases hw with rfl|rfl
  ·rw [Bool.false_xor,decide_eq_true rfl]
   bv_omega
   refine ⟨y,h,e,p,d,v,k,n,hs,ms,vs,t,c,rfl,hL,.inl ⟨hB,?_⟩⟩
   refine d6 T.e_NoWord λa ha=>?_
   and_intros
   bv_omega
   refine ⟨a,_,rfl,aC,.inl ⟨rfl,?_⟩⟩
   bv_omega
   refine er ?_
   and_intros
   bv_omega
   exact .le (.put ha) hq
  ·rw [Bool.false_xor,decide_eq_false (by decide)]
   bv_omega
   rw [Bool.false_xor,decide_eq_false (by decide)]
   bv_omega
   rw [Bool.false_xor,decide_eq_true rfl]
   bv_omega
   refine ⟨y,h,e,p,d,v,k,n,hs,ms,vs,t,rfl,hL,.inl ⟨hB,?_⟩⟩
   refine d6 T.e_NoWord λa ha=>?_
   and_intros
   bv_omega
   refine ⟨a,_,rfl,aC,.inl ⟨rfl,?_⟩⟩
   bv_omega
   refine er ?_
   and_intros
   bv_omega
   exact .le (.put ha) hq
 by_cases hno:ef w z c k n hs ms vs=.no
 ·rw [hno] at hq
  have hq:Q (.tup [.int 0,kd w]) S:=hq
  refine tW ?_
  bv_omega
  refine ifB (λhb=>?_) λhb=>?_
  ·obtain rfl:w=0:=by simpa using hb
   cases hm:look ms z with
   |none=>rw [ef0 hm] at hno;cases hno
   |some m =>
    bv_omega
    refine ⟨y,h,e,p,d,v,k,n,hs,ms,vs,_,c,rfl,hL,.inr ⟨z,m,rfl,hzl,hzo,hwd (.inl rfl),hm,?_⟩⟩
    refine d6 T.e_Twice λa ha=>?_
    and_intros
    bv_omega
    refine ⟨a,_,rfl,aC,.inr <| .inl ⟨rfl,?_⟩⟩
    bv_omega
    refine er ?_
    and_intros
    bv_omega
    rw [kdT (.inl rfl)] at hq
    exact .le (.put ha) hq
  have w0:w≠0:=by simpa using hb
  bv_omega
  refine ifB (λhb=>?_) λhb=>?_
  ·obtain rfl:w=1:=by simpa using hb
   cases hm:look ms z with
   |some m=>rw [ef1 hm] at hno;cases hno
   |none =>
    bv_omega
    refine ⟨y,h,e,p,d,v,k,n,hs,ms,vs,z,rfl,hL,hzl,hzo,hm,?_⟩
    refine d6 T.e_Absent λa ha=>?_
    and_intros
    bv_omega
    refine ⟨a,_,rfl,aC,.inr <| .inr ⟨rfl,?_⟩⟩
    bv_omega
    refine er ?_
    and_intros
    bv_omega
    rw [kdA (.inl rfl)] at hq
    exact .le (.put ha) hq
  have w1:w≠1:=by simpa using hb
  bv_omega
  refine ifB (λhb=>?_) λhb=>?_
  ·obtain rfl:w=2:=by simpa using hb
   cases hm:look vs z with
   |none=>rw [ef2 hm] at hno;cases hno
   |some m =>
    bv_omega
    refine ⟨y,h,e,p,d,v,k,n,hs,ms,vs,_,rfl,hL,.inr ⟨z,m,rfl,hzl,hzo,hwd (.inr rfl),hm,?_⟩⟩
    refine d6 T.e_Twice λa ha=>?_
    and_intros
    bv_omega
    refine ⟨a,_,rfl,aC,.inr <| .inl ⟨rfl,?_⟩⟩
    bv_omega
    refine er ?_
    and_intros
    bv_omega
    rw [kdT (.inr rfl)] at hq
    exact .le (.put ha) hq
  have w2:w≠2:=by simpa using hb
  bv_omega
  refine ifB (λhb=>?_) λhb=>?_
  ·obtain rfl:w=3:=by simpa using hb
   cases hm:look vs z with
   |some m=>rw [ef3 hm] at hno;cases hno
   |none =>
    bv_omega
    refine ⟨y,h,e,p,d,v,k,n,hs,ms,vs,z,rfl,hL,hzl,hzo,hm,?_⟩
    refine d6 T.e_Absent λa ha=>?_
    and_intros
    bv_omega
    refine ⟨a,_,rfl,aC,.inr <| .inr ⟨rfl,?_⟩⟩
    bv_omega
    refine er ?_
    and_intros
    bv_omega
    rw [kdA (.inr (.inl rfl))] at hq
    exact .le (.put ha) hq
  have w3:w≠3:=by simpa using hb
  obtain rfl:w=4:=by omega
  have hA:(∃ x,look vs z=some x)\/look vs z=none/\look ms z=none/\look hs z=none:=by
   cases hm:look vs z with
   |some x=>exact .inl ⟨x,rfl⟩
   |none =>
    cases h1:look ms z with
    |some m=>rw [g9 hm h1] at hno;cases hno
    |none =>
     cases h2:look hs z with
     |some m=>rw [hJ hm h1 h2] at hno;cases hno
     |none=>exact .inr ⟨rfl,rfl,rfl⟩
  bv_omega
  refine ifB (λhb=>?_) λhb=>?_
  ·bv_omega
   refine ⟨y,h,e,p,d,v,k,n,hs,ms,vs,z,1,rfl,hL,hzl,hzo,hA,?_⟩
   refine d6 T.e_Absent λa ha=>?_
   and_intros
   bv_omega
   refine ⟨a,_,rfl,aC,.inr <| .inr ⟨rfl,?_⟩⟩
   bv_omega
   refine er ?_
   and_intros
   bv_omega
   rw [kdA (.inr (.inr rfl))] at hq
   exact .le (.put ha) hq
  ·bv_omega
   refine ⟨y,h,e,p,d,v,k,n,hs,ms,vs,z,c,rfl,hL,hzl,hzo,hA,?_⟩
   refine d6 T.e_Absent λa ha=>?_
   and_intros
   bv_omega
   refine ⟨a,_,rfl,aC,.inr <| .inr ⟨rfl,?_⟩⟩
   bv_omega
   refine er ?_
   and_intros
   bv_omega
   rw [kdA (.inr (.inr rfl))] at hq
   exact .le (.put ha) hq
 ·refine Dz ?_
  bv_omega
  refine ifB (λhb=>?_) λhb=>?_
  ·obtain rfl:w=0:=by simpa using hb
   cases hm:look ms z with
   |some m=>exact absurd (i6 hm) hno
   |none =>
    rw [ef0 hm] at hq
    bv_omega
    refine ⟨y,h,e,p,d,v,k,n,hs,ms,vs,z,c,rfl,hL,l2,hwd (.inl rfl),hm,?_⟩
    bv_omega
    exact .mk hq
  have w0:w≠0:=by simpa using hb
  bv_omega
  refine ifB (λhb=>?_) λhb=>?_
  ·obtain rfl:w=1:=by simpa using hb
   cases hm:look ms z with
   |none=>exact absurd (g7 hm) hno
   |some m =>
    rw [ef1 hm] at hq
    bv_omega
    refine ⟨y,h,e,p,d,v,k,n,hs,ms,vs,z,m,rfl,hL,hm,?_⟩
    bv_omega
    exact .mk hq
  have w1:w≠1:=by simpa using hb
  bv_omega
  refine ifB (λhb=>?_) λhb=>?_
  ·obtain rfl:w=2:=by simpa using hb
   cases hm:look vs z with
   |some m=>exact absurd (i7 hm) hno
   |none =>
    rw [ef2 hm] at hq
    bv_omega
    refine ⟨y,h,e,p,d,v,k,n,hs,ms,vs,z,rfl,hL,l3,hwd (.inr rfl),hm,?_⟩
    bv_omega
    exact .mk hq
  have w2:w≠2:=by simpa using hb
  bv_omega
  refine ifB (λhb=>?_) λhb=>?_
  ·obtain rfl:w=3:=by simpa using hb
   cases hm:look vs z with
   |none=>exact absurd (g8 hm) hno
   |some m =>
    rw [ef3 hm] at hq
    bv_omega
    refine ⟨y,h,e,p,d,v,k,n,hs,ms,vs,z,m,rfl,hL,hm,?_⟩
    bv_omega
    exact .mk hq
  have w3:w≠3:=by simpa using hb
  obtain rfl:w=4:=by omega
  cases hm:look vs z with
  |some x=>exact absurd (i8 hm) hno
  |none =>
   have hA:(∃ m,look ms z=some m/\m.2<=n/\Q (.tup [.non,.tup []]) (put S d (.dK (kt mkT (pu ms z (wrt m n+c,n))))))\/(look ms z=none/\∃ m,look hs z=some m/\m.2<=k/\Q (.tup [.non,.tup []]) (put S e (.dK (kt mkT (pu hs z (wrt m k+c,k)))))):=by
    cases h1:look ms z with
    |some m=>rw [g9 hm h1] at hq;exact .inl ⟨m,rfl,om _ (ig h1),hq⟩
    |none =>
     cases h2:look hs z with
     |some m=>rw [hJ hm h1 h2] at hq;exact .inr ⟨rfl,m,rfl,oh _ (ig h2),hq⟩
     |none=>exact absurd (hZ hm h1 h2) hno
   bv_omega
   refine ifB (λhb=>?_) λhb=>?_
   ·obtain rfl:c=1:=by simpa using hb
    bv_omega
    refine ⟨y,h,e,p,d,v,k,n,hs,ms,vs,z,1,rfl,hL,by omega,by omega,hm,?_⟩
    rcases hA with ⟨m,a1,a2,a3⟩|⟨a0,m,a1,a2,a3⟩
    ·refine .inl ⟨m,a1,a2,?_⟩
     bv_omega
     exact .mk a3
    ·refine .inr ⟨a0,m,a1,a2,?_⟩
     bv_omega
     exact .mk a3
   ·bv_omega
    refine ⟨y,h,e,p,d,v,k,n,hs,ms,vs,z,c,rfl,hL,by omega,by omega,hm,?_⟩
    rcases hA with ⟨m,a1,a2,a3⟩|⟨a0,m,a1,a2,a3⟩
    ·refine .inl ⟨m,a1,a2,?_⟩
     bv_omega
     exact .mk a3
    ·refine .inr ⟨a0,m,a1,a2,?_⟩
     bv_omega
     exact .mk a3
def u4:WSp:=λts S Q=>∃ mo wh w z c q e g q2 e2 k n hs ms vs,ts=[.lst mo,.int wh,.int w,.str z,.int c]/\atI mo wh=some (.ref q)/\atI mo 2=some (.ref q2)/\Md S q e g q2 e2 k n hs ms vs/\Mk2 k hs/\Mk2 n ms/\vs.length<=60/\0<=w/\w<=4 /\
 Q ((ef w z c k n hs ms vs).r2 w) ((ef w z c k n hs ms vs).to e g e2 S)
theorem pM:FnScope ["_law_models","_law_which","_law_way","_law_word_here","_law_number","_law_mine","_law_some","_law_count_here","_law_at"] vv6 (ai fZ):=by nofun
theorem D7 {f f1:Addr}{fd fd1:FuncData}(F:Fun K "_law_due" "_law_due" fZ f fd) (T:Txt K mg C L Z)
  (G__law_halved:FnOk P w K mg base CX0 1 f1 fd1 gX (lSp K ib)) (D__law_halved:Df K mg "_law_halved" f1 fd1 gX) :
  FnOk P w K mg base CX0 2 f fd vv6 (lSp K u4):=by
 refine aZ F pM (λts S Q h=>?_) λcdv A outer s H E hr=>?_
 ·obtain ⟨mo,wh,w,z,c,q,e,g,q2,e2,k,n,hs,ms,vs,rfl,_⟩:=h;rfl
 have nd:=pM.nd
 refine ⟨_,((al (aG (i:=5) nd rfl (Or.inl rfl) (aB rfl (aa 0) (aa 1) (λ_ _=>rfl)))
   (al (aK (b6 (b0 (ay (aX rfl hr.units) (aa 2) ag (aI _)) (cD (ay (cf w rfl) (aa 3) (a6 w rfl (aa 5) aD (λ_ _=>rfl)) (by with_unfolding_all rfl)))))
    (al (bR (λh g=>bP h g) (aN (ae (aa 4) (ae (a6 w rfl (aa 5) aD (λ_ _=>rfl)) af (ac rfl)) (ac rfl))) (cu (a6 w rfl (aa 5) aD (λ_ _=>rfl)) (aa 3) (d5 (d8 hr)) (λh1 h2 h3=>cj h1 h2 h3)))
   (ak (az (aN af))))
    aQ)
   (al (aK (b6 (b0 (ay (aX rfl hr.units) (aa 2) ag (aI _)) (cD (ay (cH w rfl) (aa 3) (a6 w rfl (aa 5) aD (λ_ _=>rfl)) (by with_unfolding_all rfl)))))
    (al (bI (bX rfl PySem.F.plainAttrs_dict PySem.F.slot_dict_pop PySem.F.type_dict_pop jW (a6 w rfl (aa 5) aD (λ_ _=>rfl)) (ae (aa 3) af (ac rfl)) (λh1 h2 h3=>bQ PySem.F.plainAttrs_dict PySem.F.slot_dict_pop PySem.F.type_dict_pop h2 h1 h3)))
   (ak (az (aN af))))
    aQ)
   (al (aK (b6 (b0 (ay (aX rfl hr.units) (aa 2) ag (aI _)) (cD (ay (cf w rfl) (aa 3) (a6 w rfl (aa 5) aD (λ_ _=>rfl)) (by with_unfolding_all rfl)))))
    (al (bR (λh g=>bP h g) bu (cu (a6 w rfl (aa 5) aD (λ_ _=>rfl)) (aa 3) (d5 (d8 hr)) (λh1 h2 h3=>cj h1 h2 h3)))
   (ak (az (aN af))))
    aQ)
   (al (aK (b6 (b0 (ay (aX rfl hr.units) (aa 2) ag (aI _)) (cD (ay (cH w rfl) (aa 3) (a6 w rfl (aa 5) aD (λ_ _=>rfl)) (by with_unfolding_all rfl)))))
    (al (bI (bX rfl PySem.F.plainAttrs_dict PySem.F.slot_dict_pop PySem.F.type_dict_pop jW (a6 w rfl (aa 5) aD (λ_ _=>rfl)) (ae (aa 3) af (ac rfl)) (λh1 h2 h3=>bQ PySem.F.plainAttrs_dict PySem.F.slot_dict_pop PySem.F.type_dict_pop h2 h1 h3)))
   (ak (az (aN af))))
    aQ)
   (al (aK (b6 (b0 (ay (aX rfl hr.units) (aa 2) ag (aI _)) (cD (ay (cf w rfl) (aa 3) (a6 w rfl (aa 5) aD (λ_ _=>rfl)) (by with_unfolding_all rfl)))))
    (ak (d9 PassesOwn.never rfl (ci rfl (cF (ae (aa 5) (ae (aB rfl (aa 0) ag (λ_ _=>rfl)) af (ac rfl)) (ac rfl)))) (aT (i:=6) nd rfl (Or.inl rfl))
    (ak (aK (ay (cH w rfl) (aa 3) (a6 w rfl (aa 6) aD (λ_ _=>rfl)) (by with_unfolding_all rfl))
    (al (bR (λh g=>bP h g) (a6 w rfl (a6 w rfl (aa 6) aD (λ_ _=>rfl)) (aa 3) (λ_ _=>rfl)) (d4 (λh=>dX (n:=2) rfl rfl h) (bH (aT (i:=7) nd rfl (Or.inl rfl)) (bH (aT (i:=8) nd rfl (Or.inl rfl)) dY (λh1 h2=>bG h1 h2)) (λh1 h2=>bG h1 h2))))
   (al (bR (λh g=>bP h g) (aN (ae (aA (bp false) (ax G__law_halved D__law_halved hr.m (by rfl) (ae (aa 7) (ae (aA gN (a6 w rfl (aa 6) aD (λ_ _=>rfl)) (aa 8)) af (ac rfl)) (ac rfl))) (aa 4)) (ae (a6 w rfl (aa 6) aD (λ_ _=>rfl)) af (ac rfl)) (ac rfl))) (cu (a6 w rfl (aa 6) aD (λ_ _=>rfl)) (aa 3) (d5 (d8 hr)) (λh1 h2 h3=>cj h1 h2 h3)))
   (ak (az (aN af)))))
    aQ))))
    aQ)
   (ak (az (aN (ae bu (ae (bB (gW rfl) (aa 2) (aN (ae ag (ae ag af (ac rfl)) (ac rfl))) (by with_unfolding_all rfl)) (ae (bB (gW rfl) (aa 2) (aN (ae ag (ae ag (ae ag af (ac rfl)) (ac rfl)) (ac rfl))) (by with_unfolding_all rfl)) (ae bu af (ac rfl)) (ac rfl)) (ac rfl)) (ac rfl)))))))))))),λts S Q h=>?_⟩
 obtain ⟨mo,wh,w,z,c,q,e,g,q2,e2,k,n,hs,ms,vs,rfl,hx0,hx2,hM,hH,hm,l3,h0,h4,hq⟩:=h
 obtain ⟨m0,k0,g0,m2,k2⟩:=hM
 have l1:=hH.len
 have l2:=hm.len
 ac_nf
 refine c9 (λσ' S'=>σ'=[some (.lst mo),some (.int wh),some (.int w),some (.str z),some (.int c),some (.ref q),none,none,none]/\S=S') (λX hX=>?_) ?_
 ·bv_omega
  exact hX _ _ ⟨rfl,rfl⟩
 rintro σ' S' ⟨rfl,rfl⟩
 refine c9 (λσ' S'=>σ'=[some (.lst mo),some (.int wh),some (.int w),some (.str z),some (.int c),some (.ref q),none,none,none]  /\ S=S'/\(w=0->∃ m,look ms z=some m)) (λX hX=>?_) ?_
 ·bv_omega
  refine ifB (λhb=>?_) λhb=>ifF (hX _ _ ⟨rfl,rfl,λq=>?_⟩)
  ·obtain rfl:w=0:=by simpa using hb
   bv_omega
   refine a8 k0 rfl ?_
   rw [aR,Option.isSome_map]
   cases hl:look ms z with
   |none =>
    subst_eqs
    rw [ef0 hl] at hq
    bv_omega
    refine dH k0 rfl (by rw [cE,sizeLine_eq];omega) ?_
    rw [show (T2.T.tup [.int c,.int n])=mkT (c,n) from rfl,d7,iE _ (bO.mp hl)]
    bv_omega
    exact .mk hq
   |some m =>
    subst_eqs
    bv_omega
    exact hX _ _ ⟨rfl,rfl,λ_=>⟨m,hl⟩⟩
  ·simp [q] at hb
 rintro σ' S' ⟨rfl,rfl,c0⟩
 refine c9 (λσ' S'=>σ'=[some (.lst mo),some (.int wh),some (.int w),some (.str z),some (.int c),some (.ref q),none,none,none]  /\ S=S'/\(w=1->look ms z=none)) (λX hX=>?_) ?_
 ·bv_omega
  refine ifB (λhb=>?_) λhb=>ifF (hX _ _ ⟨rfl,rfl,λq=>?_⟩)
  ·obtain rfl:w=1:=by simpa using hb
   bv_omega
   refine a8 k0 rfl ?_
   rw [aR,Option.isSome_map]
   cases hl:look ms z with
   |none =>
    subst_eqs
    bv_omega
    exact hX _ _ ⟨rfl,rfl,λ_=>hl⟩
   |some m =>
    subst_eqs
    have hv:aO (kt mkT ms) (Sum.inr z)=some (mkT m):=by rw [aR,hl];rfl
    rw [ef1 hl] at hq
    bv_omega
    refine jX k0 rfl hv ?_
    rw [jI]
    bv_omega
    exact .mk hq
  ·simp [q] at hb
 rintro σ' S' ⟨rfl,rfl,c1⟩
 refine c9 (λσ' S'=>σ'=[some (.lst mo),some (.int wh),some (.int w),some (.str z),some (.int c),some (.ref q),none,none,none]  /\ S=S'/\(w=2->∃ m,look vs z=some m)) (λX hX=>?_) ?_
 ·bv_omega
  refine ifB (λhb=>?_) λhb=>ifF (hX _ _ ⟨rfl,rfl,λq=>?_⟩)
  ·obtain rfl:w=2:=by simpa using hb
   bv_omega
   refine a8 g0 rfl ?_
   rw [aR,Option.isSome_map]
   cases hl:look vs z with
   |none =>
    subst_eqs
    rw [ef2 hl] at hq
    bv_omega
    refine dH g0 rfl (by rw [cE,sizeLine_eq];omega) ?_
    rw [d7,iE _ (bO.mp hl)]
    bv_omega
    exact .mk hq
   |some m =>
    subst_eqs
    bv_omega
    exact hX _ _ ⟨rfl,rfl,λ_=>⟨m,hl⟩⟩
  ·simp [q] at hb
 rintro σ' S' ⟨rfl,rfl,c2⟩
 refine c9 (λσ' S'=>σ'=[some (.lst mo),some (.int wh),some (.int w),some (.str z),some (.int c),some (.ref q),none,none,none]  /\ S=S'/\(w=3->look vs z=none)) (λX hX=>?_) ?_
 ·bv_omega
  refine ifB (λhb=>?_) λhb=>ifF (hX _ _ ⟨rfl,rfl,λq=>?_⟩)
  ·obtain rfl:w=3:=by simpa using hb
   bv_omega
   refine a8 g0 rfl ?_
   rw [aR,Option.isSome_map]
   cases hl:look vs z with
   |none =>
    subst_eqs
    bv_omega
    exact hX _ _ ⟨rfl,rfl,λ_=>hl⟩
   |some m =>
    subst_eqs
    have hv:aO (kt T2.T.bl vs) (Sum.inr z)=some (.bl m):=by rw [aR,hl];rfl
    rw [ef3 hl] at hq
    bv_omega
    refine jX g0 rfl hv ?_
    rw [jI]
    bv_omega
    exact .mk hq
  ·simp [q] at hb
 rintro σ' S' ⟨rfl,rfl,c3⟩
 refine c9 (λσ' S'=>(∃ u1 u2 u3,σ'=[some (.lst mo),some (.int wh),some (.int w),some (.str z),some (.int c),some (.ref q),u1,u2,u3])  /\ S=S'/\(w=4->(∃ m,look vs z=some m)\/look vs z=none/\look ms z=none/\look hs z=none)) (λX hX=>?_) ?_
 ·bv_omega
  refine ifB (λhb=>?_) λhb=>ifF (hX _ _ ⟨⟨_,_,_,rfl⟩,rfl,λq=>?_⟩)
  ·obtain rfl:w=4:=by simpa using hb
   bv_omega
   refine a8 g0 rfl ?_
   rw [aR,Option.isSome_map]
   cases hl:look vs z with
   |some m =>
    subst_eqs
    bv_omega
    exact hX _ _ ⟨⟨_,_,_,rfl⟩,rfl,λ_=>.inl ⟨m,hl⟩⟩
   |none =>
    subst_eqs
    bv_omega
    refine qy (λitems σ' S'=>∃ u1 u2 u3,σ'=[some (.lst mo),some (.int wh),some (.int 4),some (.str z),some (.int c),some (.ref q),u1,u2,u3]  /\ S=S'/\(items=[.ref q,.ref q2]\/items=[.ref q2]/\look ms z=none\/items=[]/\look ms z=none/\look hs z=none)) ⟨_,_,_,rfl,rfl,.inl rfl⟩ ?_ ?_
    ·rintro t ts σ' S' N ⟨u1,u2,u3,rfl,rfl,hi⟩ hN
     refine ⟨trivial,?_⟩
     rcases hi with hi|⟨hi,hn1⟩|⟨hi,_⟩
     ·cases hi
      bv_omega
      refine a8 k0 rfl ?_
      rw [aR,Option.isSome_map]
      cases hs1:look ms z with
      |none =>
       subst_eqs
       bv_omega
       exact hN _ _ ⟨_,_,_,rfl,rfl,.inr (.inl ⟨rfl,hs1⟩)⟩
      |some m =>
       subst_eqs
       have hv:aO (kt mkT ms) (Sum.inr z)=some (mkT m):=by rw [aR,hs1];rfl
       have hmm:=ig hs1
       have r1:0<=m.1:=(hm.rng _ hmm).1
       have r2:m.1<=1000000000000:=(hm.rng _ hmm).2
       have r3:m.2<=n:=hm.old _ hmm
       rw [g9 hl hs1] at hq
       bv_omega
       refine gQ k0 rfl hv ?_
       unfold mkT at hv ⊢
       bv_omega
       refine dH k0 rfl (by rw [cE,sizeLine_eq];omega) ?_
       rw [show T2.T.tup [T2.T.int (m.1 / 2 ^ (n - m.2).toNat+c),T2.T.int n]=mkT (wrt m n+c,n) from rfl,d7]
       bv_omega
       exact .mk hq
     ·cases hi
      bv_omega
      refine a8 k2 rfl ?_
      rw [aR,Option.isSome_map]
      cases hs1:look hs z with
      |none =>
       subst_eqs
       bv_omega
       exact hN _ _ ⟨_,_,_,rfl,rfl,.inr (.inr ⟨rfl,hn1,hs1⟩)⟩
      |some m =>
       subst_eqs
       have hv:aO (kt mkT hs) (Sum.inr z)=some (mkT m):=by rw [aR,hs1];rfl
       have hmm:=ig hs1
       have r1:0<=m.1:=(hH.rng _ hmm).1
       have r2:m.1<=1000000000000:=(hH.rng _ hmm).2
       have r3:m.2<=k:=hH.old _ hmm
       rw [hJ hl hn1 hs1] at hq
       bv_omega
       refine gQ k2 rfl hv ?_
       unfold mkT at hv ⊢
       bv_omega
       refine dH k2 rfl (by rw [cE,sizeLine_eq];omega) ?_
       rw [show T2.T.tup [T2.T.int (m.1 / 2 ^ (k - m.2).toNat+c),T2.T.int k]=mkT (wrt m k+c,k) from rfl,d7]
       bv_omega
       exact .mk hq
     ·cases hi
    ·rintro σ' S' ⟨u1,u2,u3,rfl,rfl,hi⟩
     refine ⟨trivial,hX _ _ ⟨⟨_,_,_,rfl⟩,rfl,λ_=>.inr ?_⟩⟩
     rcases hi with hi|⟨hi,_⟩|⟨_,a1,a2⟩
     ·cases hi
     ·cases hi
     ·exact ⟨hl,a1,a2⟩
  ·simp [q] at hb
 rintro σ' S' ⟨⟨u1,u2,u3,rfl⟩,rfl,c4⟩
 have hno:ef w z c k n hs ms vs=.no:=by
  rcases w5 h0 h4 with rfl|rfl|rfl|rfl|rfl
  ·exact i6 (c0 rfl).choose_spec
  ·exact g7 (c1 rfl)
  ·exact i7 (c2 rfl).choose_spec
  ·exact g8 (c3 rfl)
  ·rcases c4 rfl with ⟨m,h⟩|⟨h1,h2,h3⟩
   ·exact i8 h
   ·exact hZ h1 h2 h3
 rw [hno] at hq
 have hq:Q (kd w) S:=hq
 bv_omega
 refine .mk ?_
 rcases w5 h0 h4 with rfl|rfl|rfl|rfl|rfl<;>exact hq
theorem tms {r:Int}(h0:0<=r) (h1:r<10):∀ t∈[T2.T.int 1,T2.T.int (1+r),T2.T.int (10 ^ (6:Int).toNat)],∃ z:Int,t=.int z/\1<=z/\z<=1000000:=λt ht=>by
 simp only [List.mem_cons,List.not_mem_nil,or_false] at ht
 rcases ht with rfl|rfl|rfl
 ·exact ⟨_,rfl,by omega,by omega⟩
 ·exact ⟨_,rfl,by omega,by omega⟩
 ·exact ⟨_,rfl,by decide,by decide⟩
structure Ho where
 (h e q f:Addr)
structure La where
 (y p d v q e g:Addr)
structure Lv where
 n:Int
 ms:Ms
 vs:List (Str×Bool)
def Hk (C fe:Addr) (o:O) (H:Ho) (k:Int) (hs:Ms):List (Addr×O):=[(fe,o),(H.h,.ins C [("marks",.ref H.e),("now",.int k)]),(H.e,.dK (kt mkT hs)),(H.q,.dK [(.inr "marks",.ref H.f),(.inr "era",.int k)]),(H.f,.dK (kt mkT hs))]
def Hl (C L h:Addr) (A:La) (v:Lv):List (Addr×O):=[(A.y,.ins L [("house",.ref h),("own",.ref A.p),("veiled",.ref A.v)]),(A.p,.ins C [("marks",.ref A.d),("now",.int v.n)]),(A.d,.dK (kt mkT v.ms)),(A.v,.dK (kt T2.T.bl v.vs)),(A.q,.dK [(.inr "marks",.ref A.e),(.inr "era",.int v.n),(.inr "hidden",.ref A.g)]),(A.e,.dK (kt mkT v.ms)),(A.g,.dK (kt T2.T.bl v.vs))]
abbrev st (C L fe:Addr) (o:O) (H:Ho) (k:Int) (hs:Ms) (A:La) (v:Lv):List (Addr×O):=Hk C fe o H k hs++Hl C L H.h A v
structure Oks (ws:List Str) (j:Nat) (k:Int) (hs:Ms) (v:Lv):Prop where
 hh:Wk ws j k hs
 oo:Wk ws j v.n v.ms
 vv:Vk ws j v.vs
theorem At.ly {S:Sto}{fe:Addr}{o:O}{H:Ho}{k:Int}{hs:Ms}{A:La}{v:Lv}(h:At S (st C L fe o H k hs A v)):Ly C L S A.y H.h H.e A.p A.d A.v k v.n hs v.ms v.vs:=⟨h.get 5 rfl,⟨h.get 1 rfl,h.get 2 rfl⟩,⟨h.get 6 rfl,h.get 7 rfl⟩,h.get 8 rfl⟩
theorem At.md {S:Sto}{fe:Addr}{o:O}{H:Ho}{k:Int}{hs:Ms}{A:La}{v:Lv}(h:At S (st C L fe o H k hs A v)):Md S A.q A.e A.g H.q H.f k v.n hs v.ms v.vs:=⟨h.get 9 rfl,h.get 10 rfl,h.get 11 rfl,h.get 3 rfl,h.get 4 rfl⟩
theorem D8 {x y z u:T2.T}:eZ [((Sum.inr ("marks":Str):Key),x),(Sum.inr ("era":Str),y),(Sum.inr ("hidden":Str),u)] (Sum.inr ("era":Str)) z=[(Sum.inr ("marks":Str),x),(Sum.inr ("era":Str),z),(Sum.inr ("hidden":Str),u)]:=rfl
def sD (C L:Addr):WSp:=λts S Q=>∃ fe H A o wh mo ws j k hs v n0,ts=[.ref fe,.ref A.y,.lst mo,.int wh,.lst (ws.map T2.T.str)]/\At S (st C L fe o H k hs A v)/\Fd n0 o/\n0+20<1000000000/\atI mo wh=some (.ref A.q)/\atI mo 2=some (.ref H.q)/\ws≠[]/\ws.length<=20/\(∀ x∈ws,Wm.Wd x=true)/\Oks ws j k hs v/\j<=40 /\
 ∀ S' o' hs' v',Up S (st C L fe o H k hs A v) S' (st C L fe o' H k hs' A v')->Fd (n0+20) o'->Oks ws (j+1) k hs' v'->Q (.bl true) S'
theorem oB:FnScope ["_law_feed_here","_law_layers","_law_models","_law_which","_law_words_here","_law_way","_law_word_here","_law_times","_law_number","_law_told_here","_law_kinds_here","_law_due_here"] vv5 (ai fo):=by nofun
theorem zo {f f1 f2 f3 f4 f5:Addr}{fd fd1 fd2 fd3 fd4 fd5:FuncData}{tk:Tok}(F:Fun K "_law_own_deed" "_law_own_deed" fo f fd) (T:Txt K mg C L Z)
  (G__law_draw:FnOk P w K mg base CX0 1 f1 fd1 vv1 (lSp K cY)) (D__law_draw:Df K mg "_law_draw" f1 fd1 vv1)
  (G__law_count:FnOk P w K mg base CX0 2 f2 fd2 dR (lSp K se)) (D__law_count:Df K mg "_law_count" f2 fd2 dR)
  (G__law_done:FnOk P w K mg base CX0 6 f3 fd3 vv4 (lSp K (ni C L))) (D__law_done:Df K mg "_law_done" f3 fd3 vv4)
  (G__law_due:FnOk P w K mg base CX0 2 f4 fd4 vv6 (lSp K u4)) (D__law_due:Df K mg "_law_due" f4 fd4 vv6)
  (G_Layers_fade:FnOk P w K mg base CX0 2 f5 fd5 cJ (lSp K (sj C L))) (M_Layers_fade:Meth K L "fade" f5) (B_Layers_fade:aq K fd5 cJ []) (B0_Layers_fade:aq K fd5 cJ [.int 1 tk]) :
  FnOk P w K mg base CX0 7 f fd vv5 (lSp K (sD C L)):=by
 refine aZ F oB (λts S Q h=>?_) λcdv A outer s H E hr=>?_
 ·obtain ⟨fe,H,A,o,wh,mo,ws,j,k,hs,v,n0,rfl,_⟩:=h;rfl
 have nd:=oB.nd
 refine ⟨_,((al (aG (i:=5) nd rfl (Or.inl rfl) (aB rfl (cF (ae ag (ae ag (ae ag (ae ag (ae ag (ae ag (ae ag (ae ag (ae ag (ae ag af (ac rfl)) (ac rfl)) (ac rfl)) (ac rfl)) (ac rfl)) (ac rfl)) (ac rfl)) (ac rfl)) (ac rfl)) (ac rfl))) (ax G__law_draw D__law_draw hr.m (by rfl) (ae (aa 0) (ae ag af (ac rfl)) (ac rfl))) (λ_ _=>rfl)))
   (al (aG (i:=6) nd rfl (Or.inl rfl) (aB rfl (aa 4) (ax G__law_draw D__law_draw hr.m (by rfl) (ae (aa 0) (ae (aM (bC rfl) (by rfl) T.len PySem.boot_len (ae (aa 4) af (ac rfl))) af (ac rfl)) (ac rfl))) (λ_ _=>rfl)))
   (al (aK (ay (aX rfl hr.units) (aa 5) ag (aI _))
    (al (aG (i:=7) nd rfl (Or.inl rfl) (aB rfl (cF (ae ag (ae (aA (bp false) ag (ax G__law_draw D__law_draw hr.m (by rfl) (ae (aa 0) (ae ag af (ac rfl)) (ac rfl)))) (ae (aA j8 ag ag) af (ac rfl)) (ac rfl)) (ac rfl))) (ax G__law_draw D__law_draw hr.m (by rfl) (ae (aa 0) (ae ag af (ac rfl)) (ac rfl))) (λ_ _=>rfl)))
   (al (bR (λh g=>bP h g) (aA (bp false) (a6 w rfl (aB rfl (aa 2) (aa 3) (λ_ _=>rfl)) aD (λ_ _=>rfl)) (aa 7)) (cu (aB rfl (aa 2) (aa 3) (λ_ _=>rfl)) aD (d5 (d8 hr)) (λh1 h2 h3=>cj h1 h2 h3)))
   (ak (az (bB vF (EJ (ay (aX rfl hr.units) (aa 7) ag (aI _)) (y6 (T.gl M_Layers_fade) G_Layers_fade B0_Layers_fade hr.m (aa 1)) (ba (T.gl M_Layers_fade) G_Layers_fade B_Layers_fade hr.m (aa 1) (ae (aa 7) af (ac rfl)))) nw (aI _))))))
    aQ)
   (al (aG (i:=8) nd rfl (Or.inl rfl) (aB rfl (cF (ae ag (ae (aA (bp false) ag (ax G__law_draw D__law_draw hr.m (by rfl) (ae (aa 0) (ae ag af (ac rfl)) (ac rfl)))) (ae (aA j8 ag ag) af (ac rfl)) (ac rfl)) (ac rfl))) (ax G__law_draw D__law_draw hr.m (by rfl) (ae (aa 0) (ae ag af (ac rfl)) (ac rfl))) (λ_ _=>rfl)))
   (al (aK (ay (aX rfl hr.units) (aa 5) ag (aI _))
    (ak (aG (i:=8) nd rfl (Or.inl rfl) (ax G__law_count D__law_count hr.m (by rfl) (ae (aa 0) af (ac rfl)))))
    aQ)
   (al (bR (λh g=>bP h g) (ax G__law_done D__law_done hr.m (by rfl) (ae (aa 1) (ae (aa 5) (ae (aa 6) (ae (aa 8) af (ac rfl)) (ac rfl)) (ac rfl)) (ac rfl))) (d4 (λh=>dX (n:=2) rfl rfl h) (bH (aT (i:=9) nd rfl (Or.inl rfl)) (bH (aT (i:=10) nd rfl (Or.inl rfl)) dY (λh1 h2=>bG h1 h2)) (λh1 h2=>bG h1 h2))))
   (al (aG (i:=11) nd rfl (Or.inl rfl) (ax G__law_due D__law_due hr.m (by rfl) (ae (aa 2) (ae (aa 3) (ae (aa 5) (ae (aa 6) (ae (aa 8) af (ac rfl)) (ac rfl)) (ac rfl)) (ac rfl)) (ac rfl))))
   (ak (az (eO (bB (aX rfl hr.units) (aa 10) (aa 11) (aI _)) (gL (bB (aX rfl hr.units) (bB vF (aa 9) nw (aI _)) (bB (aX rfl hr.units) (aa 11) (aN af) (aI _)) (aI _)))))))))))))),λts S Q h=>?_⟩
 obtain ⟨fe,H,A,o,wh,mo,ws,j,k,hs,⟨n,ms,vs⟩,n0,rfl,hA,hFd,hn0,hx0,hx2,hne,hwl,hwd,hO,hj,hq⟩:=h
 have hpos:=List.length_pos_iff.mpr hne
 have hfe:S fe=some o:=hA.get 0 rfl
 have U0:∀ o',Up S (st C L fe o H k hs A ⟨n,ms,vs⟩) (put S fe o') (st C L fe o' H k hs A ⟨n,ms,vs⟩):=λo'=>(Up.refl hA).put 0 rfl
 ac_nf
 bv_omega
 refine eY (λt=>∃ x:Int,t=.int x/\0<=x/\x<=5) hr0 (by simpa using hr1) (λt ht=>?_) ?_
 ·simp only [List.mem_cons,List.not_mem_nil,or_false] at ht
  rcases ht with rfl|rfl|rfl|rfl|rfl|rfl|rfl|rfl|rfl|rfl<;>exact ⟨_,rfl,by decide,by decide⟩
 rintro _ ⟨w,rfl,hw0,hw5⟩
 bv_omega
 refine ifB (λhb=>?_) λhb=>?_
 ·obtain rfl:w=5:=by simpa using hb
  bv_omega
  refine eY (λt=>∃ z:Int,t=.int z/\1<=z/\z<=1000000) hr0 (by simpa using hr1) (tms (by omega) (by omega)) ?_
  rintro _ ⟨t,rfl,ht0,ht1⟩
  have U1:=U0 o'
  generalize put S fe o'=S1 at U1 ⊢
  have mq:=U1.at_.md.m0
  bv_omega
  refine dH mq rfl (by simp only [List.length_cons,List.length_nil];rw [sizeLine_eq];decide) ?_
  rw [D8]
  have U2:=U1.put (o':=.dK [(.inr "marks",.ref A.e),(.inr "era",.int (n+t)),(.inr "hidden",.ref A.g)]) 9 rfl
  generalize put S1 A.q _=S2 at U2 ⊢
  have hL:Ly C L S2 A.y H.h H.e A.p A.d A.v k n hs ms vs:=⟨U2.at_.get 5 rfl,⟨U2.at_.get 1 rfl,U2.at_.get 2 rfl⟩,⟨U2.at_.get 6 rfl,U2.at_.get 7 rfl⟩,U2.at_.get 8 rfl⟩
  have hy:=hL.ins
  have fin:∀ x,x=t->T2.Fin Q (.bl true) (put S2 A.p (.ins C [("marks",.ref A.d),("now",.int (n+x))])):=λx hx=>by
   subst hx
   exact .mk (hq _ o' hs ⟨n+x,ms,vs⟩ (U2.put 6 rfl) (hfd.mono (by omega)) ⟨hO.hh.up,hO.oo.fade (by omega),hO.vv.up⟩)
  bv_omega
  refine ifB (λhb=>?_) λhb=>?_
  ·have ht:t=1:=by simpa using hb
   bv_omega
   refine ⟨_,_,_,_,_,_,_,_,_,_,_,1,rfl,hL,?_⟩
   bv_omega
   exact fin 1 ht.symm
  ·bv_omega
   refine ⟨_,_,_,_,_,_,_,_,_,_,_,t,rfl,hL,?_⟩
   bv_omega
   exact fin t rfl
 ·have hw4:w<=4:=by
   have:w≠5:=by simpa using hb
   omega
  bv_omega
  refine eY (λt=>∃ z:Int,t=.int z/\1<=z/\z<=1000000) hr0 (by simpa using hr1) (tms (by omega) (by omega)) ?_
  rintro _ ⟨t,rfl,ht0,ht1⟩
  refine T2.nD (by and_intros;rfl) ?_
  dsimp only
  have U1:=U0 o'
  generalize put S fe o'=S1 at U1 ⊢
  refine c9 (λσ' S'=>∃ c o2,σ'=[some (.ref fe),some (.ref A.y),some (.lst mo),some (.int wh),some (.lst (ws.map T2.T.str)),some (.int w),some (.str z),none,some (.int c),none,none,none]/\Up S (st C L fe o H k hs A ⟨n,ms,vs⟩) S' (st C L fe o2 H k hs A ⟨n,ms,vs⟩)/\Fd (n0+20) o2/\0<=c/\c<=1000000000/\(w≠0->c<=1000000)) (λX hX=>?_) ?_
  ·bv_omega
   refine ifB (λhb=>?_) λhb=>?_
   ·obtain rfl:w=0:=by simpa using hb
    bv_omega
    refine ⟨fe,_,_,rfl,U1.at_.get 0 rfl,hfd,by omega,λc o2 hc0 hc1 hf2=>?_⟩
    bv_omega
    exact hX _ _ ⟨c,o2,rfl,U1.put 0 rfl,hf2.mono (by omega),hc0,hc1,λq=>absurd rfl q⟩
   ·exact hX _ _ ⟨t,_,rfl,U1,hfd.mono (by omega),by omega,by omega,λ_=>ht1⟩
  clear hfd U1
  rintro σ' S1 ⟨c,o2,rfl,U1,hf2,c0,c1,c2⟩
  have hzw:=hwd z hz
  have hz24:=Wm.eQ hzw
  have hk1:=hO.hh.mk2 (by omega) hwd
  have hk2:=hO.oo.mk2 (by omega) hwd
  have l1:=hk1.len
  have l2:=hk2.len
  have l3:=hO.vv.len
  dsimp only at l2 l3
  bv_omega
  refine ⟨A.y,H.h,H.e,A.p,A.d,A.v,k,n,hs,ms,vs,w,_,c,rfl,U1.at_.ly,.inl ⟨z,rfl,l1,l2,by omega,hk2.old,hk1.old,hw0,hw4,λ_=>hzw,by omega,Wm.nG hzw,?_⟩⟩
  generalize hE:ef w z c k n hs ms vs=E
  cases E with
  |own m' =>
   dsimp only [Ef.r1,Ef.to]
   have U2:=U1.put (o':=.dK (kt mkT m')) 7 rfl
   generalize put S1 _ _=S2 at U2 ⊢
   bv_omega
   refine ⟨mo,wh,w,z,c,A.q,A.e,A.g,H.q,H.f,k,n,hs,ms,vs,rfl,hx0,hx2,⟨U2.at_.get 9 rfl,U2.at_.get 10 rfl,U2.at_.get 11 rfl,U2.at_.get 3 rfl,U2.at_.get 4 rfl⟩,hk1,hk2,by omega,hw0,hw4,?_⟩
   rw [hE]
   dsimp only [Ef.r2,Ef.to]
   bv_omega
   refine ⟨.tuple [],.tuple [],rfl,rfl,rfl,rfl,by decide,?_⟩
   rw [show (false ^^ PyData.eqv (.tuple []) (.tuple []))=true from by decide +kernel]
   bv_omega
   refine ⟨.tuple [],.tuple [],rfl,rfl,rfl,rfl,by decide,?_⟩
   rw [show (false ^^ PyData.eqv (.tuple []) (.tuple []))=true from by decide +kernel]
   bv_omega
   exact .mk (hq _ o2 hs ⟨n,m',vs⟩ (U2.put 10 rfl) hf2 ⟨hO.hh.up,DZ hE hO.oo hz hw0 hw4 c0 c1 c2,hO.vv.up⟩)
  |vei v' =>
   dsimp only [Ef.r1,Ef.to]
   have U2:=U1.put (o':=.dK (kt T2.T.bl v')) 8 rfl
   generalize put S1 _ _=S2 at U2 ⊢
   bv_omega
   refine ⟨mo,wh,w,z,c,A.q,A.e,A.g,H.q,H.f,k,n,hs,ms,vs,rfl,hx0,hx2,⟨U2.at_.get 9 rfl,U2.at_.get 10 rfl,U2.at_.get 11 rfl,U2.at_.get 3 rfl,U2.at_.get 4 rfl⟩,hk1,hk2,by omega,hw0,hw4,?_⟩
   rw [hE]
   dsimp only [Ef.r2,Ef.to]
   bv_omega
   refine ⟨.tuple [],.tuple [],rfl,rfl,rfl,rfl,by decide,?_⟩
   rw [show (false ^^ PyData.eqv (.tuple []) (.tuple []))=true from by decide +kernel]
   bv_omega
   refine ⟨.tuple [],.tuple [],rfl,rfl,rfl,rfl,by decide,?_⟩
   rw [show (false ^^ PyData.eqv (.tuple []) (.tuple []))=true from by decide +kernel]
   bv_omega
   exact .mk (hq _ o2 hs ⟨n,ms,v'⟩ (U2.put 11 rfl) hf2 ⟨hO.hh.up,hO.oo.up,D0 hE hO.vv hz hw0 hw4⟩)
  |hou m' =>
   dsimp only [Ef.r1,Ef.to]
   have U2:=U1.put (o':=.dK (kt mkT m')) 2 rfl
   generalize put S1 _ _=S2 at U2 ⊢
   bv_omega
   refine ⟨mo,wh,w,z,c,A.q,A.e,A.g,H.q,H.f,k,n,hs,ms,vs,rfl,hx0,hx2,⟨U2.at_.get 9 rfl,U2.at_.get 10 rfl,U2.at_.get 11 rfl,U2.at_.get 3 rfl,U2.at_.get 4 rfl⟩,hk1,hk2,by omega,hw0,hw4,?_⟩
   rw [hE]
   dsimp only [Ef.r2,Ef.to]
   bv_omega
   refine ⟨.tuple [],.tuple [],rfl,rfl,rfl,rfl,by decide,?_⟩
   rw [show (false ^^ PyData.eqv (.tuple []) (.tuple []))=true from by decide +kernel]
   bv_omega
   refine ⟨.tuple [],.tuple [],rfl,rfl,rfl,rfl,by decide,?_⟩
   rw [show (false ^^ PyData.eqv (.tuple []) (.tuple []))=true from by decide +kernel]
   bv_omega
   exact .mk (hq _ o2 m' ⟨n,ms,vs⟩ (U2.put 4 rfl) hf2 ⟨D6 hE hO.hh hw0 hw4 c0 c2,hO.oo.up,hO.vv.up⟩)
  |no =>
   dsimp only [Ef.r1,Ef.to]
   bv_omega
   refine ⟨mo,wh,w,z,c,A.q,A.e,A.g,H.q,H.f,k,n,hs,ms,vs,rfl,hx0,hx2,U1.at_.md,hk1,hk2,by omega,hw0,hw4,?_⟩
   rw [hE]
   dsimp only [Ef.r2,Ef.to]
   have kk:∃ b1 b2,kd w=.tup [.bl false,.bl b1,.bl b2,.bl false]:=⟨_,_,rfl⟩
   obtain ⟨b1,b2,kk⟩:=kk
   rw [kk]
   bv_omega
   refine ⟨.tuple [.bool false,.bool b1,.bool b2,.bool false],.tuple [.bool false,.bool b1,.bool b2,.bool false],rfl,rfl,rfl,rfl,by cases b1<;>cases b2<;>decide,?_⟩
   rw [show (false ^^ PyData.eqv (.tuple [.bool false,.bool b1,.bool b2,.bool false]) (.tuple [.bool false,.bool b1,.bool b2,.bool false]))=true from by cases b1<;>cases b2<;>decide +kernel]
   bv_omega
   refine ⟨.tuple [.bool false,.bool b1,.bool b2,.bool false],.tuple [],rfl,rfl,rfl,rfl,by cases b1<;>cases b2<;>decide,?_⟩
   rw [show (false ^^ PyData.eqv (.tuple [.bool false,.bool b1,.bool b2,.bool false]) (.tuple []))=false from by cases b1<;>cases b2<;>decide +kernel]
   bv_omega
   exact .mk (hq _ o2 hs ⟨n,ms,vs⟩ U1 hf2 ⟨hO.hh.up,hO.oo.up,hO.vv.up⟩)
section
variable {C:Addr}{S S':Sto}{l l':List (Addr×O)}{a b y p d v h:Addr}{o u:O}
theorem At.ne (h:At S l) (i j:Nat) (hij:i≠j) (ei:l[i]?=some (a,o)) (ej:l[j]?=some (b,u)):a≠b:=λq=>by
 obtain ⟨hi,e2⟩:=List.getElem?_eq_some_iff.mp ei
 obtain ⟨hj,e3⟩:=List.getElem?_eq_some_iff.mp ej
 exact hij ((List.getElem_inj (i:=i) (j:=j) (h₀:=by rw [List.length_map];exact hi) (h₁:=by rw [List.length_map];exact hj) h.nd).mp (by rw [List.getElem_map,List.getElem_map,e2,e3];exact q))
theorem At.pick (h:At S l) (is:List Nat) (hn:is.Nodup) (e:is.map (l[·]?)=l'.map some):At S l':=by
 induction is generalizing l' with
 |nil=>cases l' with
  |nil=>exact ⟨List.nodup_nil,λx hx=>nomatch hx⟩
  |cons _ _=>cases e
 |cons i is ih =>
  cases l' with
  |nil=>cases e
  |cons x r =>
   rw [List.map_cons,List.map_cons,List.cons.injEq] at e
   have q:=ih (List.nodup_cons.mp hn).2 e.2
   refine ⟨List.nodup_cons.mpr ⟨λhm=>?_,q.nd⟩,λz hz=>?_⟩
   ·obtain ⟨z,hz,hzx⟩:=List.mem_map.mp hm
    have hz2:some z∈is.map (l[·]?):=by rw [e.2];exact List.mem_map_of_mem hz
    obtain ⟨j,hj,ej⟩:=List.mem_map.mp hz2
    exact h.ne i j (λq=>(List.nodup_cons.mp hn).1 (by rw [q];exact hj)) (a:=x.1) (o:=x.2) (b:=z.1) (u:=z.2) e.1 ej hzx.symm
   ·rcases List.mem_cons.mp hz with rfl|hz
    ·exact h.is _ (List.mem_of_getElem? e.1)
    ·exact q.is z hz
theorem At.cons (h:At S l) (ha:S a=none):At (T2.put S a o) ((a,o)::l):=by
 refine ⟨List.nodup_cons.mpr ⟨λhm=>?_,h.nd⟩,λx hx=>?_⟩
 ·obtain ⟨x,hx,e⟩:=List.mem_map.mp hm
  exact gR (h.is x hx) ha e
 ·rcases List.mem_cons.mp hx with rfl|hx
  ·exact aC
  ·exact (aE (gR (h.is x hx) ha)).trans (h.is x hx)
theorem At.wood (hA:At S l) (h1:S p=none) (h2:T2.put S p (.ins C []) d=none):At (T2.put (T2.put (T2.put S p (.ins C [])) d (.dK [])) p o) ((d,.dK [])::(p,o)::l):=((hA.cons h1).cons h2).put 1 rfl
theorem At.lay (hA:At S l) (hy:S y=none) (gy:S' y=some o) (gp:Wo C S' p d 0 []) (gv:S' v=some (.dK [])) (dv:d≠v) (np:T2.put S y u p=none) (nd:T2.put S y u d=none) (nv:T2.put S y u v=none) (kp:∀ a o,T2.put S y u a=some o->a≠y->S' a=some o):At S' ((y,o)::(p,.ins C [("marks",.ref d),("now",.int 0)])::(d,.dK [])::(v,.dK [])::l):=by
 obtain ⟨yp,np⟩:=cA np
 obtain ⟨yd,nd⟩:=cA nd
 obtain ⟨yv,nv⟩:=cA nv
 have nl:∀ a,S a=none->a∉l.map (·.1):=λa ha hm=>by
  obtain ⟨x,hx,e⟩:=List.mem_map.mp hm
  exact gR (hA.is x hx) ha e
 have pv:p≠v:=Gc gp.ins gv (by simp)
 refine ⟨?_,λx hx=>?_⟩
 ·simp only [List.map_cons,List.nodup_cons,List.mem_cons,not_or]
  exact ⟨⟨Ne.symm yp,Ne.symm yd,Ne.symm yv,nl _ hy⟩,⟨gp.ne,pv,nl _ np⟩,⟨dv,nl _ nd⟩,nl _ nv,hA.nd⟩
 ·simp only [List.mem_cons] at hx
  rcases hx with rfl|rfl|rfl|rfl|hx
  ·exact gy
  ·exact gp.ins
  ·exact gp.dct
  ·exact gv
  ·have e:=hA.is x hx
   have ne:=gR e hy
   exact kp _ _ ((aE ne).trans e) ne
end
theorem u8:∀ {l m:List Str},(l.Pairwise λx y=>Ky.lt (.s y) (.s x)=false)->(m.Pairwise λx y=>Ky.lt (.s y) (.s x)=false)->l.Perm m->l=m
 |[],m,_,_,p=>(List.nil_perm.mp p).symm
 |a::l,[],_,_,p=>absurd p.length_eq (by simp)
 |a::l,b::m,h1,h2,p=>by
  rw [List.pairwise_cons] at h1 h2
  have e:a=b:=by
   by_cases e:a=b
   ·exact e
   have ha:a∈m:=by
    rcases List.mem_cons.mp (p.mem_iff.mp List.mem_cons_self) with h|h
    ·exact absurd h e
    ·exact h
   have hb:b∈l:=by
    rcases List.mem_cons.mp (p.mem_iff.mpr List.mem_cons_self) with h|h
    ·exact absurd h.symm e
    ·exact h
   have q1:=h1.1 b hb
   have q2:=h2.1 a ha
   rcases Ky.tri (show Ky.shp (.s a) (.s b)=true from rfl) with q|q|q
   ·rw [q] at q2;cases q2
   ·exact Ky.s.inj q
   ·rw [q] at q1;cases q1
  subst e
  rw [u8 h1.2 h2.2 (List.Perm.cons_inv p)]
theorem sE {S:Sto}{l:List Rw}:a7 S (.lst (l.map rw3))=some (.list (l.map rd)):=by simp [a7,bK,sd]
theorem qi:∀ (ws:List Str),bf (ws.map T2.T.str)=some (ws.map PyData.str)
 |[]=>rfl
 |a::l=>by simp only [List.map_cons,bf,bK,qi l]
theorem sF {S:Sto}{l:List Str}:a7 S (.lst (l.map T2.T.str))=some (.list (l.map PyData.str)):=by simp [a7,bK,qi]
theorem D9 {l:List Rw}(h:∀ a∈l,Row a) (hl:l.length<64):Shw (l.map rd):=m7 (by rw [List.length_map];exact hl) λe he=>by
 obtain ⟨a,ha,rfl⟩:=List.mem_map.mp he
 exact DS (h a ha)
theorem D' {n:Int}{ms:Ms}{l:List Rt}(h:Mk2 n ms) (p:l.Perm (ms.map λa=>(a.1,wrt a.2 n))):Shw (l.map λa=>PyData.tuple [.str a.1,.int a.2]):=by
 refine m7 (by rw [List.length_map,p.length_eq,List.length_map];have:=h.len;omega) λe he=>?_
 obtain ⟨a,ha,rfl⟩:=List.mem_map.mp he
 obtain ⟨x,hx,rfl⟩:=List.mem_map.mp (p.mem_iff.mp ha)
 have hr:=h.rng x hx
 exact DT (h.wd x hx) (kX hr.1) (Int.le_trans (ng hr.1) hr.2)
theorem Ea {ws:List Str}{k:Nat}{vs:List (Str×Bool)}{l:List Str}(h:Vk ws k vs) (hw:k<=60) (hd:∀ x∈ws,Wm.Wd x=true) (p:l.Perm (vs.map (·.1))):Shw (l.map PyData.str):=by
 refine m7 (by rw [List.length_map,p.length_eq,List.length_map];have:=h.len;omega) λe he=>?_
 obtain ⟨a,ha,rfl⟩:=List.mem_map.mp he
 obtain ⟨x,hx,rfl⟩:=List.mem_map.mp (p.mem_iff.mp ha)
 exact Bj (hd _ (h.key x hx))
theorem sG {n:Int}{ms:Ms}{l m:List Rt}(h:Mk2 n ms) (p:l.Perm (ms.map λa=>(a.1,wrt a.2 n))) (q:m.Perm (ms.map λa=>(a.1,wrt a.2 n))) (r1:cK l) (r2:cK m):m=l:=by
 refine uZ r2 r1 ((q.map _).nodup_iff.mpr ?_) (q.trans p.symm)
 rw [List.map_map]
 exact h.nd
theorem sH {n:Int}{ms:Ms}{b:Str}{a:Rt}(h:Mk2 n ms) (ha:a∈rtd ms n b):Wm.Wd a.1=true/\0<=a.2/\a.2<=1000000000000:=by
 obtain ⟨x,hx,rfl⟩:=List.mem_map.mp ha
 have hx:=(List.mem_filter.mp hx).1
 have hr:=h.rng x hx
 exact ⟨h.wd x hx,kX hr.1,Int.le_trans (ng hr.1) hr.2⟩
theorem By {k n:Int}{hs ms:Ms}{vs:List (Str×Bool)}{b:Str}(h1:Mk2 k hs) (h2:Mk2 n ms):∀ a∈fi hs ms vs k n b,Row a:=λa ha=>by
 rcases List.mem_append.mp ha with ha|ha
 ·obtain ⟨x,hx,rfl⟩:=List.mem_map.mp ha
  exact sH h2 (List.mem_filter.mp ((cB _).mem_iff.mp hx)).1
 ·obtain ⟨x,hx,rfl⟩:=List.mem_map.mp ha
  exact sH h1 (List.mem_filter.mp ((cB _).mem_iff.mp hx)).1
theorem Bz {k n:Int}{hs ms:Ms}{vs:List (Str×Bool)}{b:Str}:(fi hs ms vs k n b).length<=ms.length+hs.length:=by
 unfold fi wo
 rw [List.length_append,List.length_map,List.length_map,eM,eM]
 have l1:=jJ ms n b
 have l2:=jJ hs k b
 have l3:=List.length_filter_le (λa:Rt=>(look vs a.1).isNone) (rtd ms n b)
 have l4:=List.length_filter_le (λa:Rt=>(look vs a.1).isNone&&(look ms a.1).isNone) (rtd hs k b)
 unfold kJ kK
 omega
theorem kL {S:Sto}{l:List Rt}:a7 S (.lst (l.map rt))=some (.list (l.map λa=>PyData.tuple [.str a.1,.int a.2])):=by
 have:∀ l:List Rt,bf (l.map rt)=some (l.map λa=>PyData.tuple [.str a.1,.int a.2]):=λl=>by
  induction l with
  |nil=>rfl
  |cons a l ih=>simp [bf,rt,bK,ih]
 simp [a7,bK,this]
def m3 (e g:Addr):O:=.dK [(.inr "marks",.ref e),(.inr "era",.int 0),(.inr "hidden",.ref g)]
def u9:WSp:=λts S Q=>ts=[]/\∀ S' q0 e0 g0 q1 e1 g1 q2 e2,(∀ l,At S l->At S' ((e2,.dK [])::(q2,.dK [(.inr "marks",.ref e2),(.inr "era",.int 0)])::(g1,.dK [])::(e1,.dK [])::(q1,m3 e1 g1)::(g0,.dK [])::(e0,.dK [])::(q0,m3 e0 g0)::l))->Q (.lst [.ref q0,.ref q1,.ref q2]) S'
theorem oq:FnScope [] [] (ai fk):=by nofun
theorem Eb {f:Addr}{fd:FuncData}(F:Fun K "_law_new_models" "_law_new_models" fk f fd) (T:Txt K mg C L Z):FnOk P w K mg base CX0 1 f fd [] (lSp K u9):=by
 refine aZ F oq (λts S Q h=>?_) λcdv A outer s H E hr=>?_
 ·obtain ⟨rfl,_⟩:=h;rfl
 have nd:=oq.nd
 refine ⟨_,((ak (az (cF (ae (rS ⟨by decide +kernel,by decide +kernel,by decide +kernel⟩ eS ag eS) (ae (rS ⟨by decide +kernel,by decide +kernel,by decide +kernel⟩ eS ag eS) (ae (AK (by decide +kernel) eS ag) af (ac rfl)) (ac rfl)) (ac rfl)))))),λts S Q h=>?_⟩
 obtain ⟨rfl,hq⟩:=h
 ac_nf
 bv_omega
 intro q0 hq0
 bv_omega
 intro e0 he0
 bv_omega
 intro g0 hg0
 bv_omega
 have a1:∀ l,At S l->At _ ((g0,.dK [])::(e0,.dK [])::(q0,.dK [])::l):=λl h=>((h.cons hq0).cons he0).cons hg0
 refine ⟨(a1 [] ⟨List.nodup_nil,λx hx=>nomatch hx⟩).get 2 rfl,?_⟩
 have a2:∀ l,At S l->At _ ((g0,.dK [])::(e0,.dK [])::(q0,m3 e0 g0)::l):=λl h=>(a1 l h).put 2 rfl
 clear a1
 unfold m3 at a2
 generalize put (put (put (put S q0 (.dK [])) e0 (.dK [])) g0 (.dK [])) q0 (.dK [(.inr "marks",.ref e0),(.inr "era",.int 0),(.inr "hidden",.ref g0)])=S1 at a2 ⊢
 bv_omega
 intro q1 hq1
 bv_omega
 intro e1 he1
 bv_omega
 intro g1 hg1
 bv_omega
 have b1:∀ l,At S1 l->At _ ((g1,.dK [])::(e1,.dK [])::(q1,.dK [])::l):=λl h=>((h.cons hq1).cons he1).cons hg1
 refine ⟨(b1 [] ⟨List.nodup_nil,λx hx=>nomatch hx⟩).get 2 rfl,?_⟩
 have b2:∀ l,At S1 l->At _ ((g1,.dK [])::(e1,.dK [])::(q1,m3 e1 g1)::l):=λl h=>(b1 l h).put 2 rfl
 clear b1
 unfold m3 at b2
 generalize put (put (put (put S1 q1 (.dK [])) e1 (.dK [])) g1 (.dK [])) q1 (.dK [(.inr "marks",.ref e1),(.inr "era",.int 0),(.inr "hidden",.ref g1)])=S2 at b2 ⊢
 bv_omega
 intro q2 hq2
 bv_omega
 intro e2 he2
 bv_omega
 have c1:∀ l,At S2 l->At _ ((e2,.dK [])::(q2,.dK [])::l):=λl h=>(h.cons hq2).cons he2
 refine ⟨(c1 [] ⟨List.nodup_nil,λx hx=>nomatch hx⟩).get 1 rfl,?_⟩
 bv_omega
 exact .mk (hq _ q0 e0 g0 q1 e1 g1 q2 e2 λl h=>(c1 _ (b2 _ (a2 l h))).put 1 rfl)
def ue:WSp:=λts S Q=>∃ p n o,ts=[.ref p]/\S p=some o/\Fd n o/\n+1<1000000000/\∀ t o',Bad t->Fd (n+1) o'->Q t (put S p o')
theorem oE:FnScope ["_law_feed_here","_law_some"] dR (ai fq):=by nofun
theorem BA {f f1:Addr}{fd fd1:FuncData}(F:Fun K "_law_bad_word" "_law_bad_word" fq f fd) (T:Txt K mg C L Z) (G__law_draw:FnOk P w K mg base CX0 1 f1 fd1 vv1 (lSp K cY)) (D__law_draw:Df K mg "_law_draw" f1 fd1 vv1):FnOk P w K mg base CX0 2 f fd dR (lSp K ue):=by
 refine aZ F oE (λts S Q h=>?_) λcdv A outer s H E hr=>?_
 ·obtain ⟨p,n,o,rfl,_⟩:=h;rfl
 have nd:=oE.nd
 refine ⟨_,((al (aG (i:=1) nd rfl (Or.inl rfl) (jQ (ae aD (ae aD (ae aD (ae aD (ae aD (ae aD (ae aD (ae aD (ae nw (ae ag (ae bu (ae (cF (ae aD af (ac rfl))) (ae (aN (ae aD af (ac rfl))) (ae aD (ae aD af (ac rfl)) (ac rfl)) (ac rfl)) (ac rfl)) (ac rfl)) (ac rfl)) (ac rfl)) (ac rfl)) (ac rfl)) (ac rfl)) (ac rfl)) (ac rfl)) (ac rfl)) (ac rfl)) (ac rfl))))
   (al (bI (bX rfl PySem.F.plainAttrs_list PySem.F.slot_list_append PySem.F.type_list_append lj (aa 1) (ae aD af (ac rfl)) (λh1 h2 h3=>bQ PySem.F.plainAttrs_list PySem.F.slot_list_append PySem.F.type_list_append h2 h1 h3)))
   (ak (az (aB rfl (aa 1) (ax G__law_draw D__law_draw hr.m (by rfl) (ae (aa 0) (ae (aM (bC rfl) (by rfl) T.len PySem.boot_len (ae (aa 1) af (ac rfl))) af (ac rfl)) (ac rfl))) (λ_ _=>rfl))))))),λts S Q h=>?_⟩
 obtain ⟨p,n,o,rfl,hp,hf,hn,hq⟩:=h
 ac_nf
 bv_omega
 intro l hl0
 have hpl:p≠l:=gR hp hl0
 bv_omega
 refine ln aC (by simp only [List.length_cons,List.length_nil];rw [sizeLine_eq];decide) ?_
 rw [cg]
 have hB:∀ t∈([T2.T.str (Str.ofString ""),T2.T.str (Str.ofString " "),T2.T.str (Str.ofString "A"),T2.T.str (Str.ofString "a  b"),T2.T.str (Str.ofString " a"),T2.T.str (Str.ofString "a "),T2.T.str (Str.ofString "a1"),T2.T.str (Str.ofString "abcdefghijklm"),T2.T.non,T2.T.int 7,T2.T.bl true,T2.T.lst [T2.T.str (Str.ofString "a")],T2.T.tup [T2.T.str (Str.ofString "a")],T2.T.str (Str.ofString "a b c d e"),T2.T.str (Str.ofString "-")]++[T2.T.str (Str.ofString "abcdefgh abcdefgh abcdefgh")]),Bad t:=λt ht=>by
  simp only [List.cons_append,List.nil_append,List.mem_cons,List.not_mem_nil,or_false] at ht
  rcases ht with rfl|rfl|rfl|rfl|rfl|rfl|rfl|rfl|rfl|rfl|rfl|rfl|rfl|rfl|rfl|rfl
  ·exact .inl ⟨_,rfl,by decide +kernel,by decide +kernel,by decide +kernel⟩
  ·exact .inl ⟨_,rfl,by decide +kernel,by decide +kernel,by decide +kernel⟩
  ·exact .inl ⟨_,rfl,by decide +kernel,by decide +kernel,by decide +kernel⟩
  ·exact .inl ⟨_,rfl,by decide +kernel,by decide +kernel,by decide +kernel⟩
  ·exact .inl ⟨_,rfl,by decide +kernel,by decide +kernel,by decide +kernel⟩
  ·exact .inl ⟨_,rfl,by decide +kernel,by decide +kernel,by decide +kernel⟩
  ·exact .inl ⟨_,rfl,by decide +kernel,by decide +kernel,by decide +kernel⟩
  ·exact .inl ⟨_,rfl,by decide +kernel,by decide +kernel,by decide +kernel⟩
  ·exact .inr ⟨.inl rfl,_,λS=>rfl,by decide +kernel,by decide +kernel,by decide +kernel,by decide +kernel⟩
  ·exact .inr ⟨.inr (.inr (.inl ⟨_,rfl⟩)),_,λS=>rfl,by decide +kernel,by decide +kernel,by decide +kernel,by decide +kernel⟩
  ·exact .inr ⟨.inr (.inl ⟨_,rfl⟩),_,λS=>rfl,by decide +kernel,by decide +kernel,by decide +kernel,by decide +kernel⟩
  ·exact .inr ⟨.inr (.inr (.inr (.inl ⟨_,rfl⟩))),_,λS=>rfl,by decide +kernel,by decide +kernel,by decide +kernel,by decide +kernel⟩
  ·exact .inr ⟨.inr (.inr (.inr (.inr ⟨_,rfl⟩))),_,λS=>rfl,by decide +kernel,by decide +kernel,by decide +kernel,by decide +kernel⟩
  ·exact .inl ⟨_,rfl,by decide +kernel,by decide +kernel,by decide +kernel⟩
  ·exact .inl ⟨_,rfl,by decide +kernel,by decide +kernel,by decide +kernel⟩
  ·exact .inl ⟨_,rfl,by decide +kernel,by decide +kernel,by decide +kernel⟩
 have hlen:(([T2.T.str (Str.ofString ""),T2.T.str (Str.ofString " "),T2.T.str (Str.ofString "A"),T2.T.str (Str.ofString "a  b"),T2.T.str (Str.ofString " a"),T2.T.str (Str.ofString "a "),T2.T.str (Str.ofString "a1"),T2.T.str (Str.ofString "abcdefghijklm"),T2.T.non,T2.T.int 7,T2.T.bl true,T2.T.lst [T2.T.str (Str.ofString "a")],T2.T.tup [T2.T.str (Str.ofString "a")],T2.T.str (Str.ofString "a b c d e"),T2.T.str (Str.ofString "-")]++[T2.T.str (Str.ofString "abcdefgh abcdefgh abcdefgh")])).length=16:=rfl
 generalize ([T2.T.str (Str.ofString ""),T2.T.str (Str.ofString " "),T2.T.str (Str.ofString "A"),T2.T.str (Str.ofString "a  b"),T2.T.str (Str.ofString " a"),T2.T.str (Str.ofString "a "),T2.T.str (Str.ofString "a1"),T2.T.str (Str.ofString "abcdefghijklm"),T2.T.non,T2.T.int 7,T2.T.bl true,T2.T.lst [T2.T.str (Str.ofString "a")],T2.T.tup [T2.T.str (Str.ofString "a")],T2.T.str (Str.ofString "a b c d e"),T2.T.str (Str.ofString "-")]++[T2.T.str (Str.ofString "abcdefgh abcdefgh abcdefgh")])=us at hB hlen ⊢
 bv_omega
 obtain ⟨t,et,ht⟩:=iz hr0 hr1
 refine uI ((aE (Ne.symm hpl)).trans aC) et ?_
 exact .le (.put2 (.put hl0)) (hq t o' (hB t ht) hfd)
def uf (C L:Addr):WSp:=λts S Q=>∃ y h e p d v k n hs ms vs t,ts=[.ref y,t]/\Ly C L S y h e p d v k n hs ms vs/\hs.length<=60/\ms.length<=60/\vs.length<=60/\(∀ a∈ms,a.2.2<=n)/\(∀ a∈hs,a.2.2<=k)/\Bad t/\(∀ z,t=.str z->look ms z=none/\look vs z=none/\look hs z=none)/\Q (.bl true) S
theorem ol:FnScope ["_law_layers","_law_word_here","_law_way","_law_due_here"] kH (ai fj):=by nofun
theorem BB {f f1:Addr}{fd fd1:FuncData}(F:Fun K "_law_bad_refused" "_law_bad_refused" fj f fd) (T:Txt K mg C L Z)
  (G__law_done:FnOk P w K mg base CX0 6 f1 fd1 vv4 (lSp K (ni C L))) (D__law_done:Df K mg "_law_done" f1 fd1 vv4) :
  FnOk P w K mg base CX0 7 f fd kH (lSp K (uf C L)):=by
 refine aZ F ol (λts S Q h=>?_) λcdv A outer s H E hr=>?_
 ·obtain ⟨y,h,e,p,d,v,k,n,hs,ms,vs,t,rfl,_⟩:=h;rfl
 have nd:=ol.nd
 refine ⟨_,((al (d9 PassesOwn.never rfl (gb (by rfl) T.range ag) (aT (i:=2) nd rfl (Or.inl rfl))
    (al (aG (i:=3) nd rfl (Or.inl rfl) (aN (ae (bB (gW rfl) (aa 2) (aN (ae ag (ae ag af (ac rfl)) (ac rfl))) (by with_unfolding_all rfl)) (ae bu (ae (bB (gW rfl) (aa 2) (aN (ae ag (ae ag (ae ag af (ac rfl)) (ac rfl)) (ac rfl))) (by with_unfolding_all rfl)) (ae bu af (ac rfl)) (ac rfl)) (ac rfl)) (ac rfl))))
   (ak (aK (b6 (b0 (b6 (vq (ay (gW rfl) (aa 2) (aN (ae ag (ae ag af (ac rfl)) (ac rfl))) (by with_unfolding_all rfl)) (uo (bv (aM (nA rfl) (by rfl) T.isinstance PyProof.Rows.boot_isinstance (ae (aa 1) (ae (nY (n:="str") (by rfl) T.str PyProof.Rows.boot_str) af (ac rfl)) (ac rfl))))))) (cD (ay (GI rfl hr.units) (ax G__law_done D__law_done hr.m (by rfl) (ae (aa 0) (ae (aa 2) (ae (aa 1) (ae ag af (ac rfl)) (ac rfl)) (ac rfl)) (ac rfl))) (aN (ae ag (ae (aa 3) af (ac rfl)) (ac rfl))) (aI _)))))
    (ak (az bu))
    aQ))))
   (ak (az bu)))),λts S Q h=>?_⟩
 obtain ⟨y,h,e,p,d,v,k,n,hs,ms,vs,t,rfl,hL,l1,l2,l3,om,oh,hB,hz,hq⟩:=h
 ac_nf
 bv_omega
 refine kT (λi σ' S'=>S=S'/\∃ u2 u3,σ'=[some (.ref y),some t,u2,u3]) ⟨rfl,_,_,rfl⟩ ?_ ?_
 ·rintro i σ' S' N hi ⟨rfl,u2,u3,rfl⟩ hN
  refine ⟨trivial,?_⟩
  have h0:∀ u,N [some (.ref y),some t,some (.int (0+(i:Int))),u] S:=λu=>hN _ _ ⟨rfl,_,_,rfl⟩
  rcases (show i=0\/i=1\/i=2\/i=3\/i=4 by omega) with rfl|rfl|rfl|rfl|rfl
  ·bv_omega
   rw [show (false ^^ [T2.T.int 0,T2.T.int 2].any λy=>eqF y (T2.T.int (0+((0:Nat):Int))))=true from rfl,show (false ^^ [T2.T.int 1,T2.T.int 3,T2.T.int 4].any λy=>eqF y (T2.T.int (0+((0:Nat):Int))))=false from rfl]
   bv_omega
   refine ⟨y,h,e,p,d,v,k,n,hs,ms,vs,0,t,1,rfl,hL,.inr ⟨.inl rfl,hB,?_⟩⟩
   bv_omega
   refine ⟨.tuple [.int 0,.tuple [.bool true,.bool false,.bool false,.bool false]],.tuple [.int 0,.tuple [.bool true,.bool false,.bool false,.bool false]],rfl,rfl,rfl,rfl,by decide,?_⟩
   rw [show (true ^^ PyData.eqv (.tuple [.int 0,.tuple [.bool true,.bool false,.bool false,.bool false]]) (.tuple [.int 0,.tuple [.bool true,.bool false,.bool false,.bool false]]))=false from by decide +kernel]
   bv_omega
   exact h0 _
  ·bv_omega
   rw [show (false ^^ [T2.T.int 0,T2.T.int 2].any λy=>eqF y (T2.T.int (0+((1:Nat):Int))))=false from rfl,show (false ^^ [T2.T.int 1,T2.T.int 3,T2.T.int 4].any λy=>eqF y (T2.T.int (0+((1:Nat):Int))))=true from rfl]
   bv_omega
   rcases hB with ⟨z,rfl,hzl,hzo,hzw⟩|⟨hn,_⟩
   ·refine dN rfl T.ss ?_
    obtain ⟨a1,a2,a3⟩:=hz z rfl
    bv_omega
    refine ⟨y,h,e,p,d,v,k,n,hs,ms,vs,1,_,1,rfl,hL,.inl ⟨z,rfl,l1,l2,l3,om,oh,by decide,by decide,λq=>absurd q (by decide),hzl,hzo,?_⟩⟩
    rw [g7 a1]
    dsimp only [Ef.r1,Ef.to]
    rw [kdA (.inl rfl)]
    bv_omega
    refine ⟨.tuple [.int 0,.tuple [.bool false,.bool false,.bool true,.bool false]],.tuple [.int 0,.tuple [.bool false,.bool false,.bool true,.bool false]],rfl,rfl,rfl,rfl,by decide,?_⟩
    rw [show (true ^^ PyData.eqv (.tuple [.int 0,.tuple [.bool false,.bool false,.bool true,.bool false]]) (.tuple [.int 0,.tuple [.bool false,.bool false,.bool true,.bool false]]))=false from by decide +kernel]
    bv_omega
    exact h0 _
   ·obtain ⟨v',hv1,hv2⟩:=ju (S:=S) T hn
    refine dN hv1 hv2 ?_
    bv_omega
    exact h0 _
  ·bv_omega
   rw [show (false ^^ [T2.T.int 0,T2.T.int 2].any λy=>eqF y (T2.T.int (0+((2:Nat):Int))))=true from rfl,show (false ^^ [T2.T.int 1,T2.T.int 3,T2.T.int 4].any λy=>eqF y (T2.T.int (0+((2:Nat):Int))))=false from rfl]
   bv_omega
   refine ⟨y,h,e,p,d,v,k,n,hs,ms,vs,2,t,1,rfl,hL,.inr ⟨.inr rfl,hB,?_⟩⟩
   bv_omega
   refine ⟨.tuple [.int 0,.tuple [.bool true,.bool false,.bool false,.bool false]],.tuple [.int 0,.tuple [.bool true,.bool false,.bool false,.bool false]],rfl,rfl,rfl,rfl,by decide,?_⟩
   rw [show (true ^^ PyData.eqv (.tuple [.int 0,.tuple [.bool true,.bool false,.bool false,.bool false]]) (.tuple [.int 0,.tuple [.bool true,.bool false,.bool false,.bool false]]))=false from by decide +kernel]
   bv_omega
   exact h0 _
  ·bv_omega
   rw [show (false ^^ [T2.T.int 0,T2.T.int 2].any λy=>eqF y (T2.T.int (0+((3:Nat):Int))))=false from rfl,show (false ^^ [T2.T.int 1,T2.T.int 3,T2.T.int 4].any λy=>eqF y (T2.T.int (0+((3:Nat):Int))))=true from rfl]
   bv_omega
   rcases hB with ⟨z,rfl,hzl,hzo,hzw⟩|⟨hn,_⟩
   ·refine dN rfl T.ss ?_
    obtain ⟨a1,a2,a3⟩:=hz z rfl
    bv_omega
    refine ⟨y,h,e,p,d,v,k,n,hs,ms,vs,3,_,1,rfl,hL,.inl ⟨z,rfl,l1,l2,l3,om,oh,by decide,by decide,λq=>absurd q (by decide),hzl,hzo,?_⟩⟩
    rw [g8 a2]
    dsimp only [Ef.r1,Ef.to]
    rw [kdA (.inr (.inl rfl))]
    bv_omega
    refine ⟨.tuple [.int 0,.tuple [.bool false,.bool false,.bool true,.bool false]],.tuple [.int 0,.tuple [.bool false,.bool false,.bool true,.bool false]],rfl,rfl,rfl,rfl,by decide,?_⟩
    rw [show (true ^^ PyData.eqv (.tuple [.int 0,.tuple [.bool false,.bool false,.bool true,.bool false]]) (.tuple [.int 0,.tuple [.bool false,.bool false,.bool true,.bool false]]))=false from by decide +kernel]
    bv_omega
    exact h0 _
   ·obtain ⟨v',hv1,hv2⟩:=ju (S:=S) T hn
    refine dN hv1 hv2 ?_
    bv_omega
    exact h0 _
  ·bv_omega
   rw [show (false ^^ [T2.T.int 0,T2.T.int 2].any λy=>eqF y (T2.T.int (0+((4:Nat):Int))))=false from rfl,show (false ^^ [T2.T.int 1,T2.T.int 3,T2.T.int 4].any λy=>eqF y (T2.T.int (0+((4:Nat):Int))))=true from rfl]
   bv_omega
   rcases hB with ⟨z,rfl,hzl,hzo,hzw⟩|⟨hn,_⟩
   ·refine dN rfl T.ss ?_
    obtain ⟨a1,a2,a3⟩:=hz z rfl
    bv_omega
    refine ⟨y,h,e,p,d,v,k,n,hs,ms,vs,4,_,1,rfl,hL,.inl ⟨z,rfl,l1,l2,l3,om,oh,by decide,by decide,λq=>absurd q (by decide),hzl,hzo,?_⟩⟩
    rw [hZ a2 a1 a3]
    dsimp only [Ef.r1,Ef.to]
    rw [kdA (.inr (.inr rfl))]
    bv_omega
    refine ⟨.tuple [.int 0,.tuple [.bool false,.bool false,.bool true,.bool false]],.tuple [.int 0,.tuple [.bool false,.bool false,.bool true,.bool false]],rfl,rfl,rfl,rfl,by decide,?_⟩
    rw [show (true ^^ PyData.eqv (.tuple [.int 0,.tuple [.bool false,.bool false,.bool true,.bool false]]) (.tuple [.int 0,.tuple [.bool false,.bool false,.bool true,.bool false]]))=false from by decide +kernel]
    bv_omega
    exact h0 _
   ·obtain ⟨v',hv1,hv2⟩:=ju (S:=S) T hn
    refine dN hv1 hv2 ?_
    bv_omega
    exact h0 _
 rintro σ' S' ⟨rfl,u2,u3,rfl⟩
 refine ⟨trivial,?_⟩
 bv_omega
 exact .mk hq
def iL:WSp:=λts S Q=>∃ ns:List Int,ts=[.scr ns]/\ns.length<=63/\∀ S',Q (.bl true) S'
theorem Mk2.mo {n:Int}{ms:Ms}(h:Mk2 n ms):Mo n ms:=⟨h.len,h.old,h.nd,h.wd⟩
theorem Ec {z:Str}(h:Bad (.str z)):Wm.Wd z=false:=by
 rcases h with ⟨z',e,_,_,h⟩|⟨h,_⟩
 ·cases e;exact h
 ·rcases h with h|⟨_,h⟩|⟨_,h⟩|⟨_,h⟩|⟨_,h⟩<;>cases h
theorem lY {α:Type}{l:List (Str×α)}{z:Str}(h:Wm.Wd z=false) (k:∀ a∈l,Wm.Wd a.1=true):look l z=none:=bO.mpr λhm=>by
 obtain ⟨a,ha,e⟩:=List.mem_map.mp hm
 have:=k a ha
 rw [e,h] at this;cases this
theorem ug:FnScope ["_law_script","_law_feed_here","_law_words_here","_law_house","_law_layers","_law_models","_law_word_here","_law_k"] gZ (ai dI):=by nofun
theorem Ed {f f1 f2 f3 f4 f5 f6 f7 f8 f9 f10 f11 f12 f13 f14 f15 f16 f17:Addr}{fd fd1 fd2 fd3 fd4 fd5 fd6 fd7 fd8 fd9 fd10 fd11 fd12 fd13 fd14 fd15 fd16 fd17:FuncData}(F:Fun K "law" "law" dI f fd) (T:Txt K mg C L Z)
  (G_Wood___init__:FnOk P w K mg base CX0 1 f1 fd1 vv9 (lSp K (m5 C))) (M_Wood:Mk K C f1) (B_Wood___init__:aq K fd1 vv9 [])
  (G_Layers___init__:FnOk P w K mg base CX0 3 f2 fd2 iZ (lSp K (sf C L))) (M_Layers:Mk K L f2) (B_Layers___init__:aq K fd2 iZ [])
  (G__law_feed:FnOk P w K mg base CX0 1 f3 fd3 gZ (lSp K mZ)) (D__law_feed:Df K mg "_law_feed" f3 fd3 gZ)
  (G__law_draw:FnOk P w K mg base CX0 1 f4 fd4 vv1 (lSp K cY)) (D__law_draw:Df K mg "_law_draw" f4 fd4 vv1)
  (G__law_words:FnOk P w K mg base CX0 4 f5 fd5 vv1 (lSp K mr)) (D__law_words:Df K mg "_law_words" f5 fd5 vv1)
  (G__law_new_models:FnOk P w K mg base CX0 1 f6 fd6 [] (lSp K u9)) (D__law_new_models:Df K mg "_law_new_models" f6 fd6 [])
  (G__law_own_deed:FnOk P w K mg base CX0 7 f7 fd7 vv5 (lSp K (sD C L))) (D__law_own_deed:Df K mg "_law_own_deed" f7 fd7 vv5)
  (G__law_bad_word:FnOk P w K mg base CX0 2 f8 fd8 dR (lSp K ue)) (D__law_bad_word:Df K mg "_law_bad_word" f8 fd8 dR)
  (G__law_bad_refused:FnOk P w K mg base CX0 7 f9 fd9 kH (lSp K (uf C L))) (D__law_bad_refused:Df K mg "_law_bad_refused" f9 fd9 kH)
  (G__law_told:FnOk P w K mg base CX0 5 f10 fd10 kF (lSp K sB)) (D__law_told:Df K mg "_law_told" f10 fd10 kF)
  (G__law_is_told:FnOk P w K mg base CX0 2 f11 fd11 iW (lSp K lX)) (D__law_is_told:Df K mg "_law_is_told" f11 fd11 iW)
  (G__law_rated:FnOk P w K mg base CX0 4 f12 fd12 g5 (lSp K (jK w))) (D__law_rated:Df K mg "_law_rated" f12 fd12 g5)
  (G_Wood_words:FnOk P w K mg base CX0 4 f13 fd13 vv9 (lSp K (lV C))) (M_Wood_words:Meth K C "words" f13) (B_Wood_words:aq K fd13 vv9 [])
  (G_Layers_told:FnOk P w K mg base CX0 7 f14 fd14 iX (lSp K (si C L))) (M_Layers_told:Meth K L "told" f14) (B_Layers_told:aq K fd14 iX [])
  (G_Layers_own_words:FnOk P w K mg base CX0 5 f15 fd15 vv9 (lSp K (uY C L))) (M_Layers_own_words:Meth K L "own_words" f15) (B_Layers_own_words:aq K fd15 vv9 [])
  (G_Layers_hidden:FnOk P w K mg base CX0 4 f16 fd16 vv9 (lSp K (qI C L))) (M_Layers_hidden:Meth K L "hidden" f16) (B_Layers_hidden:aq K fd16 vv9 [])
  (G_Wood_put:FnOk P w K mg base CX0 4 f17 fd17 vv2 (lSp K (nN C))) (M_Wood_put:Meth K C "put" f17) (B_Wood_put:aq K fd17 vv2 []) :
  FnOk P w K mg base CX0 8 f fd gZ (lSp K iL):=by
 refine aZ F ug (λts S Q h=>?_) λcdv A outer s H E hr=>?_
 ·obtain ⟨ns,rfl,_⟩:=h;rfl
 have nd:=ug.nd
 refine ⟨_,((al (aG (i:=1) nd rfl (Or.inl rfl) (ax G__law_feed D__law_feed hr.m (by rfl) (ae (aa 0) af (ac rfl))))
   (al (aG (i:=2) nd rfl (Or.inl rfl) (ax G__law_words D__law_words hr.m (by rfl) (ae (aa 1) (ae ag af (ac rfl)) (ac rfl))))
   (al (aG (i:=3) nd rfl (Or.inl rfl) (rR M_Wood G_Wood___init__ B_Wood___init__ hr.m (by rfl) T.mg_Wood))
   (al (aG (i:=4) nd rfl (Or.inl rfl) (Dq M_Layers G_Layers___init__ B_Layers___init__ hr.m (by rfl) T.mg_Layers (ae (aa 3) af (ac rfl))))
   (al (aG (i:=5) nd rfl (Or.inl rfl) (Az G__law_new_models D__law_new_models hr.m (by rfl)))
   (al (d9 PassesOwn.never rfl (ci rfl (eK false rfl (aa 2) gr (dZ ag))) (aT (i:=6) nd rfl (Or.inl rfl))
    (al (bI (ba (T.gf M_Wood_put) G_Wood_put B_Wood_put hr.m (aa 3) (ae (aa 6) (ae ag af (ac rfl)) (ac rfl))))
   (ak (bR (λh g=>bP h g) (aN (ae ag (ae ag af (ac rfl)) (ac rfl))) (cu (a6 w rfl (aB rfl (aa 5) ag (λ_ _=>rfl)) aD (λ_ _=>rfl)) (aa 6) (d5 (d8 hr)) (λh1 h2 h3=>cj h1 h2 h3))))))
   (al (d9 PassesOwn.never rfl (gb (by rfl) T.range (aA (bp false) ag (ax G__law_draw D__law_draw hr.m (by rfl) (ae (aa 1) (ae ag af (ac rfl)) (ac rfl))))) (aT (i:=7) nd rfl (Or.inl rfl))
    (al (aK (ck (bv (ax G__law_own_deed D__law_own_deed hr.m (by rfl) (ae (aa 1) (ae (aa 4) (ae (aa 5) (ae ag (ae (aa 2) af (ac rfl)) (ac rfl)) (ac rfl)) (ac rfl)) (ac rfl)))))
    (ak (az bu))
    aQ)
   (al (aK (b6 (b0 (ay (aX rfl hr.units) (ax G__law_draw D__law_draw hr.m (by rfl) (ae (aa 1) (ae ag af (ac rfl)) (ac rfl))) ag (aI _)) (cD (ck (bv (ax G__law_bad_refused D__law_bad_refused hr.m (by rfl) (ae (aa 4) (ae (ax G__law_bad_word D__law_bad_word hr.m (by rfl) (ae (aa 1) af (ac rfl))) af (ac rfl)) (ac rfl))))))))
    (ak (az bu))
    aQ)
   (al (aK (ck (bv (ax G__law_is_told D__law_is_told hr.m (by rfl) (ae (ba (T.gl M_Layers_told) G_Layers_told B_Layers_told hr.m (aa 4) (ae aD (ae ag af (ac rfl)) (ac rfl))) (ae (ax G__law_told D__law_told hr.m (by rfl) (ae (aa 5) (ae ag (ae aD af (ac rfl)) (ac rfl)) (ac rfl))) af (ac rfl)) (ac rfl)))))
    (ak (az bu))
    aQ)
   (al (aK (ck (bv (ax G__law_is_told D__law_is_told hr.m (by rfl) (ae (jF (T.gl M_Layers_own_words) G_Layers_own_words B_Layers_own_words hr.m (aa 4)) (ae (ax G__law_rated D__law_rated hr.m (by rfl) (ae (aB rfl (aa 5) ag (λ_ _=>rfl)) af (ac rfl))) af (ac rfl)) (ac rfl)))))
    (ak (az bu))
    aQ)
   (ak (aK (ck (bv (ax G__law_is_told D__law_is_told hr.m (by rfl) (ae (jF (T.gl M_Layers_hidden) G_Layers_hidden B_Layers_hidden hr.m (aa 4)) (ae (aM (mm w false rfl rfl rfl hr.m) (by rfl) T.sorted PyProof.Rows.boot_sorted (ae (a6 w rfl (aB rfl (aa 5) ag (λ_ _=>rfl)) aD (λ_ _=>rfl)) af (ac rfl))) af (ac rfl)) (ac rfl)))))
    (ak (az bu))
    aQ)))))))
   (ak (az (bB (aX rfl hr.units) (jF (T.gf M_Wood_words) G_Wood_words B_Wood_words hr.m (aa 3)) (ax G__law_rated D__law_rated hr.m (by rfl) (ae (aB rfl (aa 5) ag (λ_ _=>rfl)) af (ac rfl))) (aI _)))))))))))),λts S Q h=>?_⟩
 obtain ⟨ns,rfl,hns,hq⟩:=h
 ac_nf
 bv_omega
 refine Ba (by omega) (by omega) hf0 (by omega) λws o2 hne hwl hnd hwd hf1=>?_
 have hA:At (put S fe o2) [(fe,o2)]:=At.cons ⟨List.nodup_nil,λx hx=>nomatch hx⟩ hp0
 generalize put S fe o2=S0 at hA ⊢
 bv_omega
 intro h1 hh1
 refine ⟨h1,rfl,aC,λe1 he1=>⟨rfl,?_⟩⟩
 have hB:=hA.wood (o:=.ins C [("marks",.ref e1),("now",.int 0)]) hh1 he1
 generalize put (put (put S0 h1 _) e1 _) h1 _=S1 at hB ⊢
 clear hA hh1 he1
 bv_omega
 intro y0 hy0
 refine ⟨y0,h1,rfl,aC,λS2 p0 d0 v0 gy gp gv dv np nd1 nv kp=>⟨rfl,?_⟩⟩
 have hD:=hB.lay hy0 gy gp gv dv np nd1 nv kp
 clear hB hy0 gy gp gv dv np nd1 nv kp
 bv_omega
 refine ⟨rfl,λS4 q0 e0 g0 q1 e1' g1 q2 e2 hE=>?_⟩
 have hA:=(hE _ hD).pick (l':=st C L fe o2 ⟨h1,e1,q2,e2⟩ 0 [] ⟨y0,p0,d0,v0,q0,e0,g0⟩ ⟨0,[],[]⟩) [14,13,12,1,0,8,9,10,11,7,6,5] (by decide) rfl
 clear hE hD
 generalize hHe:Ho.mk h1 e1 q2 e2=H at hA
 generalize hA0:La.mk y0 p0 d0 v0 q0 e0 g0=A0 at hA
 rw [show h1=H.h by rw [<- hHe],show y0=A0.y by rw [<- hA0],show q0=A0.q by rw [<- hA0],show q2=H.q by rw [<- hHe]]
 clear hHe hA0
 bv_omega
 rw [jB (by omega)]
 have hnd2:(ws.take (2:Int).toNat).Nodup:=(List.take_sublist _ _).nodup hnd
 have hsub:∀ z∈ws.take (2:Int).toNat,z∈ws:=λz hz=>List.mem_of_mem_take hz
 have hl2:(ws.take (2:Int).toNat).length<=2:=by rw [List.length_take];exact Nat.min_le_left _ _
 generalize ws.take (2:Int).toNat=w2 at hnd2 hsub hl2 ⊢
 refine ma (λrest σ' S'=>∃ pre u6 hs,w2=pre++rest/\σ'=[some (.scr ns),some (.ref fe),some (.lst (ws.map T2.T.str)),some (.ref H.h),some (.ref A0.y),some (.lst [.ref A0.q,.ref q1,.ref H.q]),u6,none]/\At S' (st C L fe o2 H 0 hs A0 ⟨0,[],[]⟩)/\Wk ws pre.length 0 hs/\∀ a∈hs,a.1∈pre) ⟨[],_,[],rfl,rfl,hA,.nil,by simp⟩ ?_ ?_
 ·clear hA
  rintro z rest σ' S' N ⟨pre,u6,hs,hpre,rfl,hA,hW,hk⟩ hN
  have hzp:z∉pre:=λhm=>by
   rw [hpre,List.nodup_append] at hnd2
   exact hnd2.2.2 z hm z List.mem_cons_self rfl
  have hzs:z∈ws:=hsub z (by rw [hpre];simp)
  have hlk:look hs z=none:=bO.mpr λhm=>by
   obtain ⟨a,ha,rfl⟩:=List.mem_map.mp hm
   exact hzp (hk a ha)
  have hlen:=hW.len
  have hpl:pre.length<=2:=by
   have:=congrArg List.length hpre
   rw [List.length_append] at this
   omega
  have hh:=hA.ly.wh.ins
  refine ⟨trivial,?_⟩
  bv_omega
  refine ⟨H.h,H.e,0,hs,z,5,rfl,hA.ly.wh,by omega,hwd z hzs,hlk,?_⟩
  have hA2:=hA.put (o':=.dK (kt mkT (hs++[(z,5,0)]))) 2 rfl
  generalize put S' H.e _=S2 at hA2 ⊢
  have m2:S2 H.q=some (.dK [(.inr "marks",.ref H.f),(.inr "era",.int 0)]):=hA2.get 3 rfl
  have k2:S2 H.f=some (.dK (kt mkT hs)):=hA2.get 4 rfl
  bv_omega
  refine dH k2 rfl (by rw [cE,sizeLine_eq];omega) ?_
  rw [show (T2.T.tup [.int 5,.int 0])=mkT (5,0) from rfl,d7,iE _ (bO.mp hlk)]
  exact hN _ _ ⟨pre++[z],_,hs++[(z,5,0)],by rw [hpre,List.append_assoc];rfl,rfl,hA2.put 4 rfl,by rw [List.length_append];exact hW.put hzs hlk (by decide) (by decide),λa ha=>by
   rcases List.mem_append.mp ha with ha|ha
   ·exact List.mem_append_left _ (hk a ha)
   ·rw [List.mem_singleton.mp ha];exact List.mem_append_right _ (List.mem_singleton.mpr rfl)⟩
 clear hA
 rintro σ' S5 ⟨pre,u6,hs,hpre,rfl,hA,hW,hk⟩
 rw [List.append_nil] at hpre
 subst hpre
 refine ⟨trivial,?_⟩
 generalize hj0:w2.length=j0 at hW hl2
 have hfe:S5 fe=some o2:=hA.get 0 rfl
 have hO:Oks ws j0 0 hs ⟨0,[],[]⟩:=⟨hW,⟨by simp,by simp,by simp,by simp,by simp⟩,⟨by simp,by simp⟩⟩
 clear hk hW hj0 hnd2 hsub
 bv_omega
 have hA6:At (put S5 fe o') (st C L fe o' H 0 hs A0 ⟨0,[],[]⟩):=hA.put 0 rfl
 generalize put S5 fe o'=S6 at hA6 ⊢
 clear hA hfe
 refine kT (λi σ' S'=>∃ u6 u7 o hs v,σ'=[some (.scr ns),some (.ref fe),some (.lst (ws.map T2.T.str)),some (.ref H.h),some (.ref A0.y),some (.lst [.ref A0.q,.ref q1,.ref H.q]),u6,u7]/\At S' (st C L fe o H 0 hs A0 v)/\Fd (2020+40 * (i:Int)) o/\Oks ws (j0+i) 0 hs v) ⟨_,_,_,_,_,rfl,hA6,hfd.mono (by omega),hO⟩ ?_ ?_
 ·clear hA6 hO hf1 hfd
  rintro i σ' S' N hi ⟨u6,u7,o,hs,v,rfl,hA,hFd,hO⟩ hN
  have hi:i<18:=by omega
  refine ⟨trivial,?_⟩
  refine T2.nD (by and_intros;rfl) ?_
  dsimp only
  refine c9 (λσ2 S2=>∃ o hs v,σ2=[some (.scr ns),some (.ref fe),some (.lst (ws.map T2.T.str)),some (.ref H.h),some (.ref A0.y),some (.lst [.ref A0.q,.ref q1,.ref H.q]),u6,some (.int (0+(i:Int)))]/\At S2 (st C L fe o H 0 hs A0 v)/\Fd (2040+40 * (i:Int)) o/\Oks ws (j0+i+1) 0 hs v) (λX hX=>?_) ?_
  ·bv_omega
   refine ⟨fe,H,A0,o,0,[.ref A0.q,.ref q1,.ref H.q],ws,_,0,hs,v,_,rfl,hA,hFd,by omega,rfl,rfl,hne,hwl,hwd,hO,by omega,λS3 o' hs' v' hU hFd' hO'=>?_⟩
   bv_omega
   exact hX _ _ ⟨o',hs',v',rfl,hU.at_,hFd'.mono (by omega),hO'⟩
  clear hA hFd hO
  rintro σ2 S2 ⟨o,hs,v,rfl,hA,hFd,hO⟩
  have kh:=hO.hh.mk2 (by omega) hwd
  have km:=hO.oo.mk2 (by omega) hwd
  have hvl:=hO.vv.len
  refine c9 (λσ3 S3=>∃ o,σ3=[some (.scr ns),some (.ref fe),some (.lst (ws.map T2.T.str)),some (.ref H.h),some (.ref A0.y),some (.lst [.ref A0.q,.ref q1,.ref H.q]),u6,some (.int (0+(i:Int)))]/\At S3 (st C L fe o H 0 hs A0 v)/\Fd (2045+40 * (i:Int)) o) (λX hX=>?_) ?_
  ·have hfe:S2 fe=some o:=hA.get 0 rfl
   bv_omega
   have hA3:At (put S2 fe o') (st C L fe o' H 0 hs A0 v):=hA.put 0 rfl
   generalize put S2 fe o'=S3 at hA3 ⊢
   refine ifB (λhb=>?_) λhb=>?_
   ·bv_omega
    refine ⟨fe,_,_,rfl,hA3.get 0 rfl,hfd,by omega,λt o5 hBt hf5=>?_⟩
    have hA4:At (put S3 fe o5) (st C L fe o5 H 0 hs A0 v):=hA3.put 0 rfl
    generalize put S3 fe o5=S4 at hA4 ⊢
    bv_omega
    refine ⟨_,_,_,_,_,_,_,_,_,_,_,t,rfl,hA4.ly,kh.len,km.len,by omega,km.old,kh.old,hBt,λz hz=>?_,?_⟩
    ·subst hz
     have hw:=Ec hBt
     exact ⟨lY hw km.wd,lY hw λa ha=>hwd _ (hO.vv.key a ha),lY hw kh.wd⟩
    bv_omega
    exact hX _ _ ⟨o5,rfl,hA4,hf5.mono (by omega)⟩
   ·bv_omega
    exact hX _ _ ⟨o',rfl,hA3,hfd.mono (by omega)⟩
  clear hA hFd
  rintro σ3 S3 ⟨o,rfl,hA,hFd⟩
  have hy:=hA.ly.ins
  have hm0:=hA.md.m0
  bv_omega
  refine ⟨_,_,_,_,_,_,_,_,_,_,_,_,1000,rfl,hA.ly,kh.mo,km.mo,by omega,?_⟩
  have hlen:(fi hs v.ms v.vs 0 v.n (Str.ofString "")).length<=60:=by
   have h1:=Bz (k:=0) (n:=v.n) (hs:=hs) (ms:=v.ms) (vs:=v.vs) (b:=Str.ofString "")
   have h2:=hO.oo.len
   have h3:=hO.hh.len
   omega
  rw [List.take_of_length_le (by rw [show (1000:Int).toNat=1000 from rfl];omega)]
  bv_omega
  refine ⟨_,_,_,_,_,_,_,_,_,_,_,_,_,rfl,rfl,rfl,hA.md,kh,km,by decide,?_⟩
  bv_omega
  refine m8 rfl sE sE (D9 (λa ha=>By kh km a ha) (by omega)) ?_
  bv_omega
  refine ⟨_,_,_,_,_,_,_,_,_,_,_,rfl,hA.ly,km.mo,λl hlp hlr=>?_⟩
  bv_omega
  refine jM hA.md.m0 hA.md.k0 km λl2 hp2 hq2=>?_
  obtain rfl:=sG km hlp hp2 hlr hq2
  bv_omega
  refine m8 rfl kL kL (D' km hlp) ?_
  bv_omega
  refine ⟨_,_,_,_,_,_,_,_,_,_,_,rfl,hA.ly,by omega,λzs hzp hzs=>?_⟩
  bv_omega
  refine lN (ns:=v.vs.map (·.1)) (.inl hA.md.h0) (by rw [cE];omega) (by unfold kt;rw [List.map_map,List.map_map];rfl) λzs2 hp3 hs3=>?_
  obtain rfl:=u8 hs3 hzs (hp3.trans hzp.symm)
  bv_omega
  refine m8 rfl sF sF (Ea hO.vv (by omega) hwd hzp) ?_
  bv_omega
  exact hN _ _ ⟨_,_,_,_,_,rfl,hA,hFd.mono (by omega),hO⟩
 clear hA6 hO hf1 hfd
 rintro σ' S' ⟨u6,u7,o,hs,v,rfl,hA,hFd,hO⟩
 refine ⟨trivial,?_⟩
 have kh:=hO.hh.mk2 (by omega) hwd
 have hh:=hA.ly.wh.ins
 bv_omega
 refine ⟨H.h,H.e,0,hs,rfl,hA.ly.wh,kh.len,kh.old,kh.nd,kh.wd,λl hlp hlr=>?_⟩
 bv_omega
 refine jM hA.md.m2 hA.md.k2 kh λl2 hp2 hq2=>?_
 obtain rfl:=sG kh hlp hp2 hlr hq2
 have hok:∀ a∈l2,PyData.strOk a.1=true:=λa ha=>by
  obtain ⟨x,hx,rfl⟩:=List.mem_map.mp (hlp.mem_iff.mp ha)
  exact Wm.nG (kh.wd x hx)
 bv_omega
 refine Dg (l:=l2) (m:=l2) kL kL hok hok (h:=?_)
 rw [decide_eq_true rfl,Bool.false_xor]
 exact .mk (hq _)
theorem xR {K:PySem.W.Frag}{H:Hp}{a:Addr}{ns:List Int}{E:XK}(h:ns.length<=63) (hO:kj H) (hS:SqL K H a (ns.map V.int)):lSp K iL [.ref a] H (λv _=>v=.bl true) E:=by
 refine ⟨λ_=>none,[.scr ns],λt _=>t=.bl true,?_,.cons (.scr ?_) .nil,⟨ns,rfl,h,λ_=>rfl⟩,?_⟩
 ·intro b o e;cases e
 rotate_left
 ·intro v H' t S' _ _ r e
  subst e;cases r;rfl
 rcases hS with (e|⟨o,e⟩)|e
 ·rcases hO a with z|⟨ob,xs,z⟩
  ·rw [e] at z;cases z
  ·rw [e] at z;cases z
 ·exact .inl ⟨rfl,o,e⟩
 ·exact .inr (.inr e)
end
end My
set_option maxRecDepth 100000
namespace My
open PySem L2 T2
theorem vU {α:Type}(us:List α) (h:us.length=0):us=[]:=List.length_eq_zero_iff.mp h
theorem bF {α:Type}(us:List α) (h:us.length=1):∃ a0,us=[a0]:=by
 cases us with
 |nil=>cases h
 |cons a l=>cases vU l (Nat.succ.inj h);exact ⟨a,rfl⟩
theorem bc {α:Type}(us:List α) (h:us.length=2):∃ a0 a1,us=[a0,a1]:=by
 cases us with
 |nil=>cases h
 |cons a l=>obtain ⟨a1,rfl⟩:=bF l (Nat.succ.inj h);exact ⟨a,a1,rfl⟩
theorem dS {α:Type}(us:List α) (h:us.length=3):∃ a0 a1 a2,us=[a0,a1,a2]:=by
 cases us with
 |nil=>cases h
 |cons a l=>obtain ⟨a1,a2,rfl⟩:=bc l (Nat.succ.inj h);exact ⟨a,a1,a2,rfl⟩
theorem vV {α:Type}(us:List α) (h:us.length=4):∃ a0 a1 a2 a3,us=[a0,a1,a2,a3]:=by
 cases us with
 |nil=>cases h
 |cons a l=>obtain ⟨a1,a2,a3,rfl⟩:=dS l (Nat.succ.inj h);exact ⟨a,a1,a2,a3,rfl⟩
theorem vW {α:Type}(us:List α) (h:us.length=5):∃ a0 a1 a2 a3 a4,us=[a0,a1,a2,a3,a4]:=by
 cases us with
 |nil=>cases h
 |cons a l=>obtain ⟨a1,a2,a3,a4,rfl⟩:=vV l (Nat.succ.inj h);exact ⟨a,a1,a2,a3,a4,rfl⟩
theorem Ee {l:PySem.W.OpenLaw}{w:World}{K:PySem.W.Frag}{h:Heap}{mg:Str->Option Value}{fa:Addr}(X:K.In h) (G:h.Ns mainGlobals mg) (hfa:mg "law"=some (.ref fa)) (hF:Fx K) :
  ∃ fd:FuncData,(∀ (s:Shared) (v:Value),BindsTo s fd ⟨[v],[]⟩ [("_law_script",v)])/\∀ base:Heap,K.In base->base.Ns mainGlobals mg->FnOk l.prog w K mg base CX0 8 fa fd ["_law_script"] (lSp K iL):=by
 refine hF _ ?_
 intro fr fb f1 f2 f3 f4 f5 fwo ffe fd fp fft fw fws fct fhv flb fit flr flt fnm fki fdn fdu fog fbw fbr flw fwi fwm fwq fwu fwz fwf fwh fwb fwv fyi fyq fyz fyh fys fyt fya fye fyu fyf fyo fyd C_Wood C_Layers C_NoWord C_Twice C_Absent C_AheadError C_Beside C_NoChoice C_NoRow C_NoSign C_NoText odr anr odb anb od1 an1 od2 an2 od3 an3 od4 an4 od5 an5 odwo anwo odfe anfe odd and odp anp odft anft odw anw odws anws odct anct odhv anhv odlb anlb odit anit odlr anlr odlt anlt odnm annm odki anki oddn andn oddu andu odog anog odbw anbw odbr anbr odlw anlw odwi anwi odwm anwm odwq anwq odwu anwu odwz anwz odwf anwf odwh anwh odwb anwb odwv anwv odyi anyi odyq anyq odyz anyz odyh anyh odys anys odyt anyt odya anya odye anye odyu anyu odyf anyf odyo anyo odyd anyd oddwu oddwf oddyu oddyf slr slb sl1 sl2 sl3 sl4 sl5 slwo slfe sld slp slft slw slws slct slhv sllb slit sllr sllt slnm slki sldn sldu slog slbw slbr sllw slwi slwm slwq slwu slwz slwf slwh slwb slwv slyi slyq slyz slyh slys slyt slya slye slyu slyf slyo slyd sldwu sldwf sldyu sldyf ocr kVr dcr pmr cdr ctr ocb kVb dcb pmb cdb ctb oc1 kV1 dc1 pm1 cd1 ct1 oc2 kV2 dc2 pm2 cd2 ct2 oc3 kV3 dc3 pm3 cd3 ct3 oc4 kV4 dc4 pm4 cd4 ct4 oc5 kV5 dc5 pm5 cd5 ct5 ocwo kVwo dcwo pmwo cdwo ctwo ocfe kVfe dcfe pmfe cdfe ctfe ocd kVd dcd pmd cdd ctd ocp kVp dcp pmp cdp ctp ocft kVft dcft pmft cdft ctft ocw kVw dcw pmw cdw ctw ocws kVws dcws pmws cdws ctws occt kVct dcct pmct cdct ctct ochv kVhv dchv pmhv cdhv cthv oclb kVlb dclb pmlb cdlb ctlb ocit kVit dcit pmit cdit ctit oclr kVlr dclr pmlr cdlr ctlr oclt kVlt dclt pmlt cdlt ctlt ocnm kVnm dcnm pmnm cdnm ctnm ocki kVki dcki pmki cdki ctki ocdn kVdn dcdn pmdn cddn ctdn ocdu kVdu dcdu pmdu cddu ctdu ocog kVog dcog pmog cdog ctog ocbw kVbw dcbw pmbw cdbw ctbw ocbr kVbr dcbr pmbr cdbr ctbr oclw kVlw dclw pmlw cdlw ctlw ocwi kVwi dcwi pmwi cdwi ctwi ocwm kVwm dcwm pmwm cdwm ctwm ocwq kVwq dcwq pmwq cdwq ctwq ocwu kVwu dcwu pmwu cdwu ctwu ocwz kVwz dcwz pmwz cdwz ctwz ocwf kVwf dcwf pmwf cdwf ctwf ocwh kVwh dcwh pmwh cdwh ctwh ocwb kVwb dcwb pmwb cdwb ctwb ocwv kVwv dcwv pmwv cdwv ctwv ocyi kVyi dcyi pmyi cdyi ctyi ocyq kVyq dcyq pmyq cdyq ctyq ocyz kVyz dcyz pmyz cdyz ctyz ocyh kVyh dcyh pmyh cdyh ctyh ocys kVys dcys pmys cdys ctys ocyt kVyt dcyt pmyt cdyt ctyt ocya kVya dcya pmya cdya ctya ocye kVye dcye pmye cdye ctye ocyu kVyu dcyu pmyu cdyu ctyu ocyf kVyf dcyf pmyf cdyf ctyf ocyo kVyo dcyo pmyo cdyo ctyo ocyd kVyd dcyd pmyd cdyd ctyd ocdwu ocdwf ocdyu ocdyf tk_MOST_SIGNS tk_MOST_PARTS tk_MOST_LETTERS dTwu tkdwu ndwu dTwf tkdwf ndwf dTyu tkdyu ndyu dTyf tkdyf ndyf aC_Wood awi iwi lwi cwi kwi awm iwm lwm cwm kwm awq iwq lwq cwq kwq awu iwu lwu cwu kwu ldwu awz iwz lwz cwz kwz awf iwf lwf cwf kwf ldwf awh iwh lwh cwh kwh awb iwb lwb cwb kwb awv iwv lwv cwv kwv pg_Wood hd_Wood po_Wood sa_Wood mk_Wood kc_Wood n_Wood_marks n_Wood_now aC_Layers ayi iyi lyi cyi kyi ayq iyq lyq cyq kyq ayz iyz lyz cyz kyz ayh iyh lyh cyh kyh ays iys lys cys kys ayt iyt lyt cyt kyt aya iya lya
 intro cya kya aye iye lye cye kye ayu iyu lyu cyu kyu ldyu ayf iyf lyf cyf kyf ldyf ayo iyo lyo cyo kyo ayd iyd lyd cyd kyd pg_Layers hd_Layers po_Layers sa_Layers mk_Layers kc_Layers n_Layers_house n_Layers_own n_Layers_veiled aC_NoWord aC_Twice aC_Absent aC_AheadError aC_Beside aC_NoChoice aC_NoRow aC_NoSign aC_NoText ar lr cr kr ab lb cb kb a1 l1 c1 k1 a2 l2 c2 k2 a3 l3 c3 k3 a4 l4 c4 k4 a5 l5 c5 k5 awo lwo cwo kwo afe lfe cfe kfe ad ld cd kd ap lp cp kp aft lft cft kft aw lw cw kw aws lws cws kws act lct cct kct ahv lhv chv khv alb llb clb klb ait lit cit kit alr llr clr klr alt llt clt klt anm lnm cnm knm aki lki cki kki adn ldn cdn kdn adu ldu cdu kdu aog log cog kog abw lbw cbw kbw abr lbr cbr kbr alw llw clw klw z_len z_range z_all z_max z_min z_sorted z_isinstance z_str z_list z_repr t_ss t_ll t_ns t_bs t_is t_ls t_ts q_MOST_SIGNS q_MOST_PARTS q_MOST_LETTERS oxNoWord okNoWord ocNoWord oeNoWord oxTwice okTwice ocTwice oeTwice oxAbsent okAbsent ocAbsent oeAbsent otNN otNT otNA otTN otTT otTA otAN otAT otAA oaN oaT oaA
 have e:=hfa.symm.trans (PySem.W.mg_of X G alw)
 cases e
 have T:Txt K mg C_Wood C_Layers ⟨C_NoWord,C_Twice,C_Absent,C_AheadError,C_Beside,C_NoChoice,C_NoRow,C_NoSign,C_NoText⟩:=⟨PySem.W.mg_none_of X G z_len,PySem.W.mg_none_of X G z_range,PySem.W.mg_none_of X G z_all,PySem.W.mg_none_of X G z_max,PySem.W.mg_none_of X G z_min,PySem.W.mg_none_of X G z_sorted,PySem.W.mg_none_of X G z_isinstance,PySem.W.mg_none_of X G z_str,PySem.W.mg_none_of X G z_list,PySem.W.mg_none_of X G z_repr,t_ss,t_ll,t_ns,t_bs,t_is,t_ls,t_ts,⟨_,PySem.W.mg_of X G q_MOST_SIGNS⟩,⟨_,PySem.W.mg_of X G q_MOST_PARTS⟩,⟨_,PySem.W.mg_of X G q_MOST_LETTERS⟩,PySem.W.mg_of X G aC_Wood,⟨pg_Wood,hd_Wood,po_Wood,sa_Wood⟩,n_Wood_marks,n_Wood_now,PySem.W.mg_of X G aC_Layers,⟨pg_Layers,hd_Layers,po_Layers,sa_Layers⟩,n_Layers_house,n_Layers_own,n_Layers_veiled,PySem.W.mg_of X G aC_NoWord,PySem.W.mg_of X G aC_Twice,PySem.W.mg_of X G aC_Absent,PySem.W.mg_of X G aC_AheadError,PySem.W.mg_of X G aC_Beside,PySem.W.mg_of X G aC_NoChoice,PySem.W.mg_of X G aC_NoRow,PySem.W.mg_of X G aC_NoSign,PySem.W.mg_of X G aC_NoText,oxNoWord,okNoWord,ocNoWord,oeNoWord,oxTwice,okTwice,ocTwice,oeTwice,oxAbsent,okAbsent,ocAbsent,oeAbsent,otNN,otNT,otNA,otTN,otTT,otTA,otAN,otAT,otAA,oaN,oaT,oaA⟩
 have Fwi:FunD K "__init__" "Wood.__init__" dA fwi _:=⟨⟨_,_,_,_,_,_,_,_,_,_,rfl,lwi,cwi⟩⟩
 have Bwi:aq K (PySem.W.fnOf "__init__" "Wood.__init__" (au dA) (am dA) (ai dA) .none kVwi dcwi pmwi anwi cdwi ctwi) ["self"] []:=.all λus hl=>by obtain ⟨a0,rfl⟩:=bF us hl;rfl
 have Mwi:Meth K C_Wood "__init__" fwi:=⟨awi,iwi,kwi⟩
 have Mk_Wood:Mk K C_Wood fwi:=⟨mk_Wood,awi,iwi,kc_Wood⟩
 have Fwm:FunD K "mark_of" "Wood.mark_of" cN fwm _:=⟨⟨_,_,_,_,_,_,_,_,_,_,rfl,lwm,cwm⟩⟩
 have Bwm:aq K (PySem.W.fnOf "mark_of" "Wood.mark_of" (au cN) (am cN) (ai cN) .none kVwm dcwm pmwm anwm cdwm ctwm) ["self","word"] []:=.all λus hl=>by obtain ⟨a0,a1,rfl⟩:=bc us hl;rfl
 have Mwm:Meth K C_Wood "mark_of" fwm:=⟨awm,iwm,kwm⟩
 have Fwq:FunD K "put" "Wood.put" cT fwq _:=⟨⟨_,_,_,_,_,_,_,_,_,_,rfl,lwq,cwq⟩⟩
 have Bwq:aq K (PySem.W.fnOf "put" "Wood.put" (au cT) (am cT) (ai cT) .none kVwq dcwq pmwq anwq cdwq ctwq) ["self","word","count"] []:=.all λus hl=>by obtain ⟨a0,a1,a2,rfl⟩:=dS us hl;rfl
 have Mwq:Meth K C_Wood "put" fwq:=⟨awq,iwq,kwq⟩
 have Fwu:FunD K "use" "Wood.use" cU fwu _:=⟨⟨_,_,_,_,_,_,_,_,_,_,rfl,lwu,cwu⟩⟩
 have Bwu:aq K (PySem.W.fnOf "use" "Wood.use" (au cU) (am cU) (ai cU) (.ref dTwu) kVwu dcwu pmwu anwu cdwu ctwu) ["self","word","times"] []:=λs us X hl=>by rw [List.append_nil] at hl;obtain ⟨a0,a1,a2,rfl⟩:=dS us hl;exact BindsTo.of_defaults rfl (X _ _ ldwu) rfl rfl rfl
 have Mwu:Meth K C_Wood "use" fwu:=⟨awu,iwu,kwu⟩
 have Fwz:FunD K "strike" "Wood.strike" cO fwz _:=⟨⟨_,_,_,_,_,_,_,_,_,_,rfl,lwz,cwz⟩⟩
 have Bwz:aq K (PySem.W.fnOf "strike" "Wood.strike" (au cO) (am cO) (ai cO) .none kVwz dcwz pmwz anwz cdwz ctwz) ["self","word"] []:=.all λus hl=>by obtain ⟨a0,a1,rfl⟩:=bc us hl;rfl
 have Mwz:Meth K C_Wood "strike" fwz:=⟨awz,iwz,kwz⟩
 have Fwf:FunD K "fade" "Wood.fade" dB fwf _:=⟨⟨_,_,_,_,_,_,_,_,_,_,rfl,lwf,cwf⟩⟩
 have Bwf:aq K (PySem.W.fnOf "fade" "Wood.fade" (au dB) (am dB) (ai dB) (.ref dTwf) kVwf dcwf pmwf anwf cdwf ctwf) ["self","times"] []:=λs us X hl=>by rw [List.append_nil] at hl;obtain ⟨a0,a1,rfl⟩:=bc us hl;exact BindsTo.of_defaults rfl (X _ _ ldwf) rfl rfl rfl
 have Mwf:Meth K C_Wood "fade" fwf:=⟨awf,iwf,kwf⟩
 have Fwh:FunD K "has" "Wood.has" dC fwh _:=⟨⟨_,_,_,_,_,_,_,_,_,_,rfl,lwh,cwh⟩⟩
 have Bwh:aq K (PySem.W.fnOf "has" "Wood.has" (au dC) (am dC) (ai dC) .none kVwh dcwh pmwh anwh cdwh ctwh) ["self","word"] []:=.all λus hl=>by obtain ⟨a0,a1,rfl⟩:=bc us hl;rfl
 have Mwh:Meth K C_Wood "has" fwh:=⟨awh,iwh,kwh⟩
 have Fwb:FunD K "begun" "Wood.begun" du fwb _:=⟨⟨_,_,_,_,_,_,_,_,_,_,rfl,lwb,cwb⟩⟩
 have Bwb:aq K (PySem.W.fnOf "begun" "Wood.begun" (au du) (am du) (ai du) .none kVwb dcwb pmwb anwb cdwb ctwb) ["self","beginning"] []:=.all λus hl=>by obtain ⟨a0,a1,rfl⟩:=bc us hl;rfl
 have Mwb:Meth K C_Wood "begun" fwb:=⟨awb,iwb,kwb⟩
 have Fwv:FunD K "words" "Wood.words" dw fwv _:=⟨⟨_,_,_,_,_,_,_,_,_,_,rfl,lwv,cwv⟩⟩
 have Bwv:aq K (PySem.W.fnOf "words" "Wood.words" (au dw) (am dw) (ai dw) .none kVwv dcwv pmwv anwv cdwv ctwv) ["self"] []:=.all λus hl=>by obtain ⟨a0,rfl⟩:=bF us hl;rfl
 have Mwv:Meth K C_Wood "words" fwv:=⟨awv,iwv,kwv⟩
 have Fyi:FunD K "__init__" "Layers.__init__" dm fyi _:=⟨⟨_,_,_,_,_,_,_,_,_,_,rfl,lyi,cyi⟩⟩
 have Byi:aq K (PySem.W.fnOf "__init__" "Layers.__init__" (au dm) (am dm) (ai dm) .none kVyi dcyi pmyi anyi cdyi ctyi) ["self","house"] []:=.all λus hl=>by obtain ⟨a0,a1,rfl⟩:=bc us hl;rfl
 have Myi:Meth K C_Layers "__init__" fyi:=⟨ayi,iyi,kyi⟩
 have Mk_Layers:Mk K C_Layers fyi:=⟨mk_Layers,ayi,iyi,kc_Layers⟩
 have Fyq:FunD K "put" "Layers.put" cR fyq _:=⟨⟨_,_,_,_,_,_,_,_,_,_,rfl,lyq,cyq⟩⟩
 have Byq:aq K (PySem.W.fnOf "put" "Layers.put" (au cR) (am cR) (ai cR) .none kVyq dcyq pmyq anyq cdyq ctyq) ["self","word","count"] []:=.all λus hl=>by obtain ⟨a0,a1,a2,rfl⟩:=dS us hl;rfl
 have Myq:Meth K C_Layers "put" fyq:=⟨ayq,iyq,kyq⟩
 have Fyz:FunD K "strike" "Layers.strike" cM fyz _:=⟨⟨_,_,_,_,_,_,_,_,_,_,rfl,lyz,cyz⟩⟩
 have Byz:aq K (PySem.W.fnOf "strike" "Layers.strike" (au cM) (am cM) (ai cM) .none kVyz dcyz pmyz anyz cdyz ctyz) ["self","word"] []:=.all λus hl=>by obtain ⟨a0,a1,rfl⟩:=bc us hl;rfl
 have Myz:Meth K C_Layers "strike" fyz:=⟨ayz,iyz,kyz⟩
 have Fyh:FunD K "hide" "Layers.hide" cP fyh _:=⟨⟨_,_,_,_,_,_,_,_,_,_,rfl,lyh,cyh⟩⟩
 have Byh:aq K (PySem.W.fnOf "hide" "Layers.hide" (au cP) (am cP) (ai cP) .none kVyh dcyh pmyh anyh cdyh ctyh) ["self","word"] []:=.all λus hl=>by obtain ⟨a0,a1,rfl⟩:=bc us hl;rfl
 have Myh:Meth K C_Layers "hide" fyh:=⟨ayh,iyh,kyh⟩
 have Fys:FunD K "show" "Layers.show" cQ fys _:=⟨⟨_,_,_,_,_,_,_,_,_,_,rfl,lys,cys⟩⟩
 have Bys:aq K (PySem.W.fnOf "show" "Layers.show" (au cQ) (am cQ) (ai cQ) .none kVys dcys pmys anys cdys ctys) ["self","word"] []:=.all λus hl=>by obtain ⟨a0,a1,rfl⟩:=bc us hl;rfl
 have Mys:Meth K C_Layers "show" fys:=⟨ays,iys,kys⟩
 have Fyt:FunD K "told" "Layers.told" dn fyt _:=⟨⟨_,_,_,_,_,_,_,_,_,_,rfl,lyt,cyt⟩⟩
 have Byt:aq K (PySem.W.fnOf "told" "Layers.told" (au dn) (am dn) (ai dn) .none kVyt dcyt pmyt anyt cdyt ctyt) ["self","beginning","many"] []:=.all λus hl=>by obtain ⟨a0,a1,a2,rfl⟩:=dS us hl;rfl
 have Myt:Meth K C_Layers "told" fyt:=⟨ayt,iyt,kyt⟩
 have Fya:FunD K "all_told" "Layers.all_told" dj fya _:=⟨⟨_,_,_,_,_,_,_,_,_,_,rfl,lya,cya⟩⟩
 have Bya:aq K (PySem.W.fnOf "all_told" "Layers.all_told" (au dj) (am dj) (ai dj) .none kVya dcya pmya anya cdya ctya) ["self","beginning"] []:=.all λus hl=>by obtain ⟨a0,a1,rfl⟩:=bc us hl;rfl
 have Mya:Meth K C_Layers "all_told" fya:=⟨aya,iya,kya⟩
 have Fye:FunD K "is_seen_of_house" "Layers.is_seen_of_house" dh fye _:=⟨⟨_,_,_,_,_,_,_,_,_,_,rfl,lye,cye⟩⟩
 have Bye:aq K (PySem.W.fnOf "is_seen_of_house" "Layers.is_seen_of_house" (au dh) (am dh) (ai dh) .none kVye dcye pmye anye cdye ctye) ["self","word"] []:=.all λus hl=>by obtain ⟨a0,a1,rfl⟩:=bc us hl;rfl
 have Mye:Meth K C_Layers "is_seen_of_house" fye:=⟨aye,iye,kye⟩
 have Fyu:FunD K "use" "Layers.use" bY fyu _:=⟨⟨_,_,_,_,_,_,_,_,_,_,rfl,lyu,cyu⟩⟩
 have Byu:aq K (PySem.W.fnOf "use" "Layers.use" (au bY) (am bY) (ai bY) (.ref dTyu) kVyu dcyu pmyu anyu cdyu ctyu) ["self","word","times"] []:=λs us X hl=>by rw [List.append_nil] at hl;obtain ⟨a0,a1,a2,rfl⟩:=dS us hl;exact BindsTo.of_defaults rfl (X _ _ ldyu) rfl rfl rfl
 have B0yu:aq K (PySem.W.fnOf "use" "Layers.use" (au bY) (am bY) (ai bY) (.ref dTyu) kVyu dcyu pmyu anyu cdyu ctyu) ["self","word","times"] [.int 1 tkdyu]:=λs us X hl=>by have hl1:us.length=2:=(by simpa using hl);obtain ⟨a0,a1,rfl⟩:=bc us hl1;exact BindsTo.of_defaults rfl (X _ _ ldyu) rfl rfl rfl
 have Myu:Meth K C_Layers "use" fyu:=⟨ayu,iyu,kyu⟩
 have Fyf:FunD K "fade" "Layers.fade" cc fyf _:=⟨⟨_,_,_,_,_,_,_,_,_,_,rfl,lyf,cyf⟩⟩
 have Byf:aq K (PySem.W.fnOf "fade" "Layers.fade" (au cc) (am cc) (ai cc) (.ref dTyf) kVyf dcyf pmyf anyf cdyf ctyf) ["self","times"] []:=λs us X hl=>by rw [List.append_nil] at hl;obtain ⟨a0,a1,rfl⟩:=bc us hl;exact BindsTo.of_defaults rfl (X _ _ ldyf) rfl rfl rfl
 have B0yf:aq K (PySem.W.fnOf "fade" "Layers.fade" (au cc) (am cc) (ai cc) (.ref dTyf) kVyf dcyf pmyf anyf cdyf ctyf) ["self","times"] [.int 1 tkdyf]:=λs us X hl=>by have hl1:us.length=1:=(by simpa using hl);obtain ⟨a0,rfl⟩:=bF us hl1;exact BindsTo.of_defaults rfl (X _ _ ldyf) rfl rfl rfl
 have Myf:Meth K C_Layers "fade" fyf:=⟨ayf,iyf,kyf⟩
 have Fyo:FunD K "own_words" "Layers.own_words" di fyo _:=⟨⟨_,_,_,_,_,_,_,_,_,_,rfl,lyo,cyo⟩⟩
 have Byo:aq K (PySem.W.fnOf "own_words" "Layers.own_words" (au di) (am di) (ai di) .none kVyo dcyo pmyo anyo cdyo ctyo) ["self"] []:=.all λus hl=>by obtain ⟨a0,rfl⟩:=bF us hl;rfl
 have Myo:Meth K C_Layers "own_words" fyo:=⟨ayo,iyo,kyo⟩
 have Fyd:FunD K "hidden" "Layers.hidden" dk fyd _:=⟨⟨_,_,_,_,_,_,_,_,_,_,rfl,lyd,cyd⟩⟩
 have Byd:aq K (PySem.W.fnOf "hidden" "Layers.hidden" (au dk) (am dk) (ai dk) .none kVyd dcyd pmyd anyd cdyd ctyd) ["self"] []:=.all λus hl=>by obtain ⟨a0,rfl⟩:=bF us hl;rfl
 have Myd:Meth K C_Layers "hidden" fyd:=⟨ayd,iyd,kyd⟩
 have Fr:=aW (st:=fM) lr cr kr
 have Dr:Df K mg "rank_key" fr _ ["pair"]:=⟨PySem.W.mg_of X G ar,kr,Fr.binds (ps:=["pair"]) λ_ _ _ _ _ _ us hl=>by obtain ⟨a0,rfl⟩:=bF us hl;rfl⟩
 have Fb:=aW (st:=fW) lb cb kb
 have Db:Df K mg "best_of" fb _ ["rated","many"]:=⟨PySem.W.mg_of X G ab,kb,Fb.binds (ps:=["rated","many"]) λ_ _ _ _ _ _ us hl=>by obtain ⟨a0,a1,rfl⟩:=bc us hl;rfl⟩
 have F1:=aW (st:=fF) l1 c1 k1
 have D1:Df K mg "is_letter" f1 _ ["sign"]:=⟨PySem.W.mg_of X G a1,k1,F1.binds (ps:=["sign"]) λ_ _ _ _ _ _ us hl=>by obtain ⟨a0,rfl⟩:=bF us hl;rfl⟩
 have F2:=aW (st:=fX) l2 c2 k2
 have D2:Df K mg "is_part" f2 _ ["text"]:=⟨PySem.W.mg_of X G a2,k2,F2.binds (ps:=["text"]) λ_ _ _ _ _ _ us hl=>by obtain ⟨a0,rfl⟩:=bF us hl;rfl⟩
 have F3:=aW (st:=fY) l3 c3 k3
 have D3:Df K mg "is_word" f3 _ ["thing"]:=⟨PySem.W.mg_of X G a3,k3,F3.binds (ps:=["thing"]) λ_ _ _ _ _ _ us hl=>by obtain ⟨a0,rfl⟩:=bF us hl;rfl⟩
 have F4:=aW (st:=fN) l4 c4 k4
 have D4:Df K mg "worth_at" f4 _ ["mark","era"]:=⟨PySem.W.mg_of X G a4,k4,F4.binds (ps:=["mark","era"]) λ_ _ _ _ _ _ us hl=>by obtain ⟨a0,a1,rfl⟩:=bc us hl;rfl⟩
 have F5:=aW (st:=fG) l5 c5 k5
 have D5:Df K mg "used_mark" f5 _ ["mark","era","times"]:=⟨PySem.W.mg_of X G a5,k5,F5.binds (ps:=["mark","era","times"]) λ_ _ _ _ _ _ us hl=>by obtain ⟨a0,a1,a2,rfl⟩:=dS us hl;rfl⟩
 have Fwo:=aW (st:=fO) lwo cwo kwo
 have Dwo:Df K mg "with_own" fwo _ ["rated","own"]:=⟨PySem.W.mg_of X G awo,kwo,Fwo.binds (ps:=["rated","own"]) λ_ _ _ _ _ _ us hl=>by obtain ⟨a0,a1,rfl⟩:=bc us hl;rfl⟩
 have Ffe:=aW (st:=fP) lfe cfe kfe
 have Dfe:Df K mg "_law_feed" ffe _ ["_law_script"]:=⟨PySem.W.mg_of X G afe,kfe,Ffe.binds (ps:=["_law_script"]) λ_ _ _ _ _ _ us hl=>by obtain ⟨a0,rfl⟩:=bF us hl;rfl⟩
 have Fd:=aW (st:=fQ) ld cd kd
 have Dd:Df K mg "_law_draw" fd _ ["_law_feed_here","_law_many"]:=⟨PySem.W.mg_of X G ad,kd,Fd.binds (ps:=["_law_feed_here","_law_many"]) λ_ _ _ _ _ _ us hl=>by obtain ⟨a0,a1,rfl⟩:=bc us hl;rfl⟩
 have Fp:=aW (st:=fR) lp cp kp
 have Dp:Df K mg "_law_part" fp _ ["_law_feed_here","_law_letters"]:=⟨PySem.W.mg_of X G ap,kp,Fp.binds (ps:=["_law_feed_here","_law_letters"]) λ_ _ _ _ _ _ us hl=>by obtain ⟨a0,a1,rfl⟩:=bc us hl;rfl⟩
 have Fft:=aW (st:=fz) lft cft kft
 have Dft:Df K mg "_law_is_fit" fft _ ["_law_text"]:=⟨PySem.W.mg_of X G aft,kft,Fft.binds (ps:=["_law_text"]) λ_ _ _ _ _ _ us hl=>by obtain ⟨a0,rfl⟩:=bF us hl;rfl⟩
 have Fw:=aW (st:=fS) lw cw kw
 have Dw:Df K mg "_law_word" fw _ ["_law_feed_here","_law_words_here","_law_letters"]:=⟨PySem.W.mg_of X G aw,kw,Fw.binds (ps:=["_law_feed_here","_law_words_here","_law_letters"]) λ_ _ _ _ _ _ us hl=>by obtain ⟨a0,a1,a2,rfl⟩:=dS us hl;rfl⟩
 have Fws:=aW (st:=fH) lws cws kws
 have Dws:Df K mg "_law_words" fws _ ["_law_feed_here","_law_many"]:=⟨PySem.W.mg_of X G aws,kws,Fws.binds (ps:=["_law_feed_here","_law_many"]) λ_ _ _ _ _ _ us hl=>by obtain ⟨a0,a1,rfl⟩:=bc us hl;rfl⟩
 have Fct:=aW (st:=fI) lct cct kct
 have Dct:Df K mg "_law_count" fct _ ["_law_feed_here"]:=⟨PySem.W.mg_of X G act,kct,Fct.binds (ps:=["_law_feed_here"]) λ_ _ _ _ _ _ us hl=>by obtain ⟨a0,rfl⟩:=bF us hl;rfl⟩
 have Fhv:=aW (st:=fD) lhv chv khv
 have Dhv:Df K mg "_law_halved" fhv _ ["_law_count_here","_law_times"]:=⟨PySem.W.mg_of X G ahv,khv,Fhv.binds (ps:=["_law_count_here","_law_times"]) λ_ _ _ _ _ _ us hl=>by obtain ⟨a0,a1,rfl⟩:=bc us hl;rfl⟩
 have Flb:=aW (st:=fT) llb clb klb
 have Dlb:Df K mg "_law_best" flb _ ["_law_rated_here"]:=⟨PySem.W.mg_of X G alb,klb,Flb.binds (ps:=["_law_rated_here"]) λ_ _ _ _ _ _ us hl=>by obtain ⟨a0,rfl⟩:=bF us hl;rfl⟩
 have Fit:=aW (st:=fu) lit cit kit
 have Dit:Df K mg "_law_is_told" fit _ ["_law_found","_law_due_here"]:=⟨PySem.W.mg_of X G ait,kit,Fit.binds (ps:=["_law_found","_law_due_here"]) λ_ _ _ _ _ _ us hl=>by obtain ⟨a0,a1,rfl⟩:=bc us hl;rfl⟩
 have Flr:=aW (st:=fJ) llr clr klr
 have Dlr:Df K mg "_law_rated" flr _ ["_law_model"]:=⟨PySem.W.mg_of X G alr,klr,Flr.binds (ps:=["_law_model"]) λ_ _ _ _ _ _ us hl=>by obtain ⟨a0,rfl⟩:=bF us hl;rfl⟩
 have Flt:=aW (st:=fU) llt clt klt
 have Dlt:Df K mg "_law_told" flt _ ["_law_models","_law_which","_law_text"]:=⟨PySem.W.mg_of X G alt,klt,Flt.binds (ps:=["_law_models","_law_which","_law_text"]) λ_ _ _ _ _ _ us hl=>by obtain ⟨a0,a1,a2,rfl⟩:=dS us hl;rfl⟩
 have Fnm:=aW (st:=fk) lnm cnm knm
 have Dnm:Df K mg "_law_new_models" fnm _ []:=⟨PySem.W.mg_of X G anm,knm,Fnm.binds (ps:=[]) λ_ _ _ _ _ _ us hl=>by cases vU us hl;rfl⟩
 have Fki:=aW (st:=fL) lki cki kki
 have Dki:Df K mg "_law_kinds" fki _ ["_law_e"]:=⟨PySem.W.mg_of X G aki,kki,Fki.binds (ps:=["_law_e"]) λ_ _ _ _ _ _ us hl=>by obtain ⟨a0,rfl⟩:=bF us hl;rfl⟩
 have Fdn:=aW (st:=fV) ldn cdn kdn
 have Ddn:Df K mg "_law_done" fdn _ ["_law_layers","_law_way","_law_word_here","_law_number"]:=⟨PySem.W.mg_of X G adn,kdn,Fdn.binds (ps:=["_law_layers","_law_way","_law_word_here","_law_number"]) λ_ _ _ _ _ _ us hl=>by obtain ⟨a0,a1,a2,a3,rfl⟩:=vV us hl;rfl⟩
 have Fdu:=aW (st:=fZ) ldu cdu kdu
 have Ddu:Df K mg "_law_due" fdu _ ["_law_models","_law_which","_law_way","_law_word_here","_law_number"]:=⟨PySem.W.mg_of X G adu,kdu,Fdu.binds (ps:=["_law_models","_law_which","_law_way","_law_word_here","_law_number"]) λ_ _ _ _ _ _ us hl=>by obtain ⟨a0,a1,a2,a3,a4,rfl⟩:=vW us hl;rfl⟩
 have Fog:=aW (st:=fo) log cog kog
 have Dog:Df K mg "_law_own_deed" fog _ ["_law_feed_here","_law_layers","_law_models","_law_which","_law_words_here"]:=⟨PySem.W.mg_of X G aog,kog,Fog.binds (ps:=["_law_feed_here","_law_layers","_law_models","_law_which","_law_words_here"]) λ_ _ _ _ _ _ us hl=>by obtain ⟨a0,a1,a2,a3,a4,rfl⟩:=vW us hl;rfl⟩
 have Fbw:=aW (st:=fq) lbw cbw kbw
 have Dbw:Df K mg "_law_bad_word" fbw _ ["_law_feed_here"]:=⟨PySem.W.mg_of X G abw,kbw,Fbw.binds (ps:=["_law_feed_here"]) λ_ _ _ _ _ _ us hl=>by obtain ⟨a0,rfl⟩:=bF us hl;rfl⟩
 have Fbr:=aW (st:=fj) lbr cbr kbr
 have Dbr:Df K mg "_law_bad_refused" fbr _ ["_law_layers","_law_word_here"]:=⟨PySem.W.mg_of X G abr,kbr,Fbr.binds (ps:=["_law_layers","_law_word_here"]) λ_ _ _ _ _ _ us hl=>by obtain ⟨a0,a1,rfl⟩:=bc us hl;rfl⟩
 have Flw:=aW (st:=dI) llw clw klw
 refine ⟨PySem.W.fnOf "law" "law" (au dI) (am dI) (ai dI) .none kVlw dclw pmlw anlw cdlw ctlw,λs v=>.of_eq rfl,λbase _ _=>?_⟩
 have Gd:=A6 (P:=l.prog) (w:=w) (mg:=mg) (base:=base) Fd T
 have Gp:=A7 (P:=l.prog) (w:=w) (mg:=mg) (base:=base) Fp T Gd Dd
 have Gft:=DM (P:=l.prog) (w:=w) (mg:=mg) (base:=base) Fft T
 have Gw:=A8 (P:=l.prog) (w:=w) (mg:=mg) (base:=base) Fw T Gd Dd Gp Dp Gft Dft
 have Gws:=za (P:=l.prog) (w:=w) (mg:=mg) (base:=base) Fws T Gd Dd Gw Dw
 have Gfe:=A9 (P:=l.prog) (w:=w) (mg:=mg) (base:=base) Ffe T
 have G1:=xI (P:=l.prog) (w:=w) (mg:=mg) (base:=base) F1
 have G2:=xJ (P:=l.prog) (w:=w) (mg:=mg) (base:=base) F2 T G1 D1
 have G3:=xK (P:=l.prog) (w:=w) (mg:=mg) (base:=base) F3 T G2 D2
 have G4:=zb (P:=l.prog) (w:=w) (mg:=mg) (base:=base) F4
 have G5:=Bb (P:=l.prog) (w:=w) (mg:=mg) (base:=base) F5 G4 D4
 have Gwi:=Bc (P:=l.prog) (w:=w) (mg:=mg) (base:=base) Fwi T
 have Gwm:=Bd (P:=l.prog) (w:=w) (mg:=mg) (base:=base) Fwm T
 have Gwq:=DN (P:=l.prog) (w:=w) (mg:=mg) (base:=base) Fwq T G3 D3
 have Gwu:=DO (P:=l.prog) (w:=w) (mg:=mg) (base:=base) Fwu T G5 D5 Gwm Mwm Bwm
 have Gwz:=xL (P:=l.prog) (w:=w) (mg:=mg) (base:=base) Fwz T Gwm Mwm Bwm
 have Gwf:=Be (P:=l.prog) (w:=w) (mg:=mg) (base:=base) Fwf T
 have Gwb:=zd (P:=l.prog) (w:=w) (mg:=mg) (base:=base) Fwb T G4 D4
 have Gwh:=DP (P:=l.prog) (w:=w) (mg:=mg) (base:=base) Fwh T
 have Gwv:=xM (P:=l.prog) (w:=w) (mg:=mg) (base:=base) Fwv T Gwb Mwb Bwb
 have Gr:=Bf (P:=l.prog) (w:=w) (mg:=mg) (base:=base) Fr
 have Gb:=Bg (P:=l.prog) (w:=w) (mg:=mg) (base:=base) Fb T Gr Dr
 have Rwm:=Bi (P:=l.prog) (w:=w) (mg:=mg) (base:=base) Fwm T
 have Rwq:=DQ (P:=l.prog) (w:=w) (mg:=mg) (base:=base) Fwq T G3 D3
 have Rwu:=DR (P:=l.prog) (w:=w) (mg:=mg) (base:=base) Fwu T D5 Rwm Mwm Bwm
 have Rwz:=xN (P:=l.prog) (w:=w) (mg:=mg) (base:=base) Fwz T Rwm Mwm Bwm
 have Git:=xO (P:=l.prog) (w:=w) (mg:=mg) (base:=base) Fit T
 have Ghv:=xP (P:=l.prog) (w:=w) (mg:=mg) (base:=base) Fhv T
 have Glb:=zg (P:=l.prog) (w:=w) (mg:=mg) (base:=base) Flb T
 have Gct:=zh (P:=l.prog) (w:=w) (mg:=mg) (base:=base) Fct T Gd Dd
 have Glr:=zi (P:=l.prog) (w:=w) (mg:=mg) (base:=base) Flr T Ghv Dhv
 have Gwo:=Bk (P:=l.prog) (w:=w) (mg:=mg) (base:=base) Fwo T Gb Db
 have Gyi:=zj (P:=l.prog) (w:=w) (mg:=mg) (base:=base) Fyi T Gwi Mk_Wood Bwi
 have Gyq:=Bl (P:=l.prog) (w:=w) (mg:=mg) (base:=base) Fyq T Gwq Mwq Bwq
 have Gyz:=wP (P:=l.prog) (w:=w) (mg:=mg) (base:=base) Fyz T Gwz Mwz Bwz
 have Gyh:=Bm (P:=l.prog) (w:=w) (mg:=mg) (base:=base) Fyh T G3 D3
 have Gys:=Bn (P:=l.prog) (w:=w) (mg:=mg) (base:=base) Fys T
 have Gye:=Bp (P:=l.prog) (w:=w) (mg:=mg) (base:=base) Fye T Gwh Mwh Bwh
 have Gya:=DX (P:=l.prog) (w:=w) (mg:=mg) (base:=base) Fya T Gwb Mwb Bwb Gye Mye Bye Gwo Dwo
 have Gyt:=zk (P:=l.prog) (w:=w) (mg:=mg) (base:=base) Fyt T Gya Mya Bya
 have Gyo:=DY (P:=l.prog) (w:=w) (mg:=mg) (base:=base) Fyo T Gwv Mwv Bwv
 have Gyd:=xQ (P:=l.prog) (w:=w) (mg:=mg) (base:=base) Fyd T
 have Gyu:=Bq (P:=l.prog) (w:=w) (mg:=mg) (base:=base) Fyu T Gwh Mwh Bwh Gwu Mwu Bwu
 have Gyf:=zl (P:=l.prog) (w:=w) (mg:=mg) (base:=base) Fyf T Gwf Mwf Bwf
 have Ryq:=Br (P:=l.prog) (w:=w) (mg:=mg) (base:=base) Fyq T Rwq Mwq Bwq
 have Ryz:=wQ (P:=l.prog) (w:=w) (mg:=mg) (base:=base) Fyz T Rwz Mwz Bwz
 have Ryh:=Bs (P:=l.prog) (w:=w) (mg:=mg) (base:=base) Fyh T G3 D3
 have Rys:=Bt (P:=l.prog) (w:=w) (mg:=mg) (base:=base) Fys T
 have Ryu:=Bu (P:=l.prog) (w:=w) (mg:=mg) (base:=base) Fyu T Gwh Mwh Bwh Rwu Mwu Bwu
 have Glt:=zm (P:=l.prog) (w:=w) (mg:=mg) (base:=base) Flt T Glr Dlr Glb Dlb
 have Hki:=zn (P:=l.prog) (w:=w) (mg:=mg) (base:=base) Fki T
 have Gdn:=Bx (P:=l.prog) (w:=w) (mg:=mg) (base:=base) Fdn T Hki Dki Gyq Ryq Myq Byq Gyz Ryz Myz Byz Gyh Ryh Myh Byh Gys Rys Mys Bys Gyu Ryu Myu Byu B0yu
 have Gdu:=D7 (P:=l.prog) (w:=w) (mg:=mg) (base:=base) Fdu T Ghv Dhv
 have Gog:=zo (P:=l.prog) (w:=w) (mg:=mg) (base:=base) Fog T Gd Dd Gct Dct Gdn Ddn Gdu Ddu Gyf Myf Byf B0yf
 have Gnm:=Eb (P:=l.prog) (w:=w) (mg:=mg) (base:=base) Fnm T
 have Gbw:=BA (P:=l.prog) (w:=w) (mg:=mg) (base:=base) Fbw T Gd Dd
 have Gbr:=BB (P:=l.prog) (w:=w) (mg:=mg) (base:=base) Fbr T Gdn Ddn
 exact Ed Flw T Gwi Mk_Wood Bwi Gyi Mk_Layers Byi Gfe Dfe Gd Dd Gws Dws Gnm Dnm Gog Dog Gbw Dbw Gbr Dbr Glt Dlt Git Dit Glr Dlr Gwv Mwv Bwv Gyt Myt Byt Gyo Myo Byo Gyd Myd Byd Gwq Mwq Bwq
theorem Hm {l:PySem.W.OpenLaw}{q:Program}{loose:List Str}{XP:(Str->Option Value)->Heap->Prop}{YP:World->Heap->Prop}{d:DefRec}{K:Params->PySem.W.Frag}(hn:l.most=some 63) (hdf:d.params.defaults=[])
  (hY:∀ (w:World) (h:Heap),YP w h->(K w.params).In h)
  (F:∀ (w:World) (mg:Str->Option Value) (fa:Addr) (h:Heap),(K w.params).In h->h.Ns mainGlobals mg->mg d.name=some (.ref fa) ->
   ∃ fd:FuncData,(∀ (s:Shared) (u:Value),BindsTo s fd ⟨[u],[]⟩ [("_law_script",u)])/\∀ base:Heap,(K w.params).In base->base.Ns mainGlobals mg->FnOk l.prog w (K w.params) mg base CX0 8 fa fd ["_law_script"] (T2.lSp (K w.params) iL)) :
  PySem.W.WalkO q loose XP YP l.row.toRowW d [] (λf vs=>PySem.call f vs) :=
 L2.zU (n:=63) (k:=8) (x:="_law_script") (CX:=λ_=>CX0) (sp:=λw=>T2.lSp (K w.params) iL) hn (by decide) hdf ⟨rfl,by decide,by decide,rfl⟩ hY F (λ_ _ a ns hl hO hS=>xR hl hO hS) λ_ _ _ _ _ z=>z
end My
theorem PySem.Challenge.cw_aheadword_k41_deeds_on_layers_holds : PySem.Challenge.rw_aheadword_k41_deeds_on_layers.Holds :=
 My.headL λ_ _ _ _ d K h1 h2 hd hK hF=>My.Hm (l:=PySem.Challenge.rw_aheadword_k41_deeds_on_layers) h1 h2 hK λw mg fa h KX G hmg=>My.Ee KX G (by rw [hd] at hmg;exact hmg) (hF w)

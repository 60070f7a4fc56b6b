import PyProof.Rows.All
import OpenK.KWalk
import OpenK.KCls
import OpenK.KTop
import OpenK.KLaw
import Wide.FinOn
import KE.RegKIsAll
import KE.KItem
import KE.KxBytes
import PyProof.EqAt
import PyProof.EqKinds
import PyProof.NeData
import PyProof.TupleCall
import PyProof.MinMaxWalk
import KE.KDictList
import KE.KDictOf
import KE.KEqDict
import PyProof.AttrMissHeap
import PyProof.EnumFor
import PyProof.EnumMake
import PyProof.EnumStmt
import PyProof.TupleIter
import PyProof.Seq
import KE.KPairComp
import PyProof.DictItems
import PyProof.DictRoadsH
import PyProof.ReprRoads
import PyProof.ReprLen
import PyProof.StrLawsRepr
import PyProof.ExcClass2
import PyProof.InstStoreFacts
import PyProof.Rows.FStr
import PyProof.ExcAttrAll.ValueError
import KE.KDictSum
import KE.KRevSl
import PyProof.RaisesMany
import PyProof.RulesTry
import KE.KTryMore
import PyProof.RulesAs
import PyProof.ReprStr
import PyProof.ListStr
import PyProof.StrLawsIn
import KE.KDictLaws
import PyProof.NsDelKeeps
import PyProof.FString4
import PyProof.FString5
import PyProof.P3In
import PyProof.P3Eq
import PyProof.PureStr
import PyProof.Rows.RuleB_bool
import PySem.Challenge.RW_aheadword_k64_whole_fading_in_steps
set_option maxHeartbeats 4000000
set_option Elab.async false
set_option linter.all false
namespace L2
open PySem
noncomputable abbrev uL:List Value:=[.type "ValueError",.type "Exception",.type "BaseException",.type "object"]
noncomputable def bK (K:PySem.W.Frag) (C:Addr) (r:Option Value):Bool:=match K.lookup C with
 |some o=>o.cls==.type "type" && match o.data with
  |.cls cd=>(match cd.mro with
   |v::bm=>v==.ref C&&o.slots.toList.length==6&&o.slots.toList[4]?==some (some (.builtin "ValueError.__new__"))&&!cd.hasDel&&PySem.W.tailIn K uL bm&&PySem.W.nsOkIn K cd.ns&&PySem.W.nsIn K cd.ns "__init__" == some r
   |[]=>false)
  |_=>false
 |none=>false
noncomputable def aQ (s:Stmt) (j:Nat):Stmt:=match s with
 |.ClassDef _ _ _ body _ _ _ _ _ _ _=>body.getD j (.Pass ⟨0,0,0,0⟩)
 |_=>.Pass ⟨0,0,0,0⟩
noncomputable def ao (s:Stmt):Arguments:=match s with
 |.FunctionDef _ a _ _ _ _ _ _ _ _=>a
 |_=>{ posonlyargs:=[],args:=[],vararg:=none,kwonlyargs:=[],kw_defaults:=[],kwarg:=none,defaults:=[] }
noncomputable def am (s:Stmt):List Stmt:=match s with
 |.FunctionDef _ _ b _ _ _ _ _ _ _=>b
 |_=>[]
noncomputable def ag (s:Stmt):Scope:=match s with
 |.FunctionDef _ _ _ _ _ _ sc _ _ _=>sc
 |_=>{ kind:=.function,names:=[],isGenerator:=false,isCoroutine:=false }
end L2
namespace My
open PySem L2
noncomputable def top (i:Nat):Stmt:=PySem.Challenge.pw_aheadword_k64_whole_fading_in_steps.main.body.getD i (.Pass ⟨0,0,0,0⟩)
noncomputable abbrev fS:Stmt:=top 9
noncomputable abbrev gj:Stmt:=top 10
noncomputable abbrev fL:Stmt:=top 15
noncomputable abbrev gk:Stmt:=top 16
noncomputable abbrev gr:Stmt:=top 17
noncomputable abbrev fT:Stmt:=top 18
noncomputable abbrev fM:Stmt:=top 19
noncomputable abbrev dG:Stmt:=aQ (top 21) 0
noncomputable abbrev dq:Stmt:=aQ (top 21) 1
noncomputable abbrev dH:Stmt:=aQ (top 21) 2
noncomputable abbrev dm:Stmt:=aQ (top 21) 4
noncomputable abbrev fJ:Stmt:=top 22
noncomputable abbrev gw:Stmt:=top 24
noncomputable abbrev fU:Stmt:=top 25
noncomputable abbrev dA:Stmt:=aQ (top 26) 0
noncomputable abbrev cO:Stmt:=aQ (top 26) 1
noncomputable abbrev cI:Stmt:=aQ (top 26) 2
noncomputable abbrev du:Stmt:=aQ (top 26) 3
noncomputable abbrev dw:Stmt:=aQ (top 26) 4
noncomputable abbrev dB:Stmt:=aQ (top 26) 5
noncomputable abbrev di:Stmt:=aQ (top 26) 6
noncomputable abbrev dC:Stmt:=aQ (top 26) 7
noncomputable abbrev cJ:Stmt:=aQ (top 26) 8
noncomputable abbrev dD:Stmt:=aQ (top 26) 9
noncomputable abbrev dL:Stmt:=aQ (top 28) 0
noncomputable abbrev cH:Stmt:=aQ (top 28) 1
noncomputable abbrev cS:Stmt:=aQ (top 28) 2
noncomputable abbrev cT:Stmt:=aQ (top 28) 3
noncomputable abbrev cK:Stmt:=aQ (top 28) 4
noncomputable abbrev dM:Stmt:=aQ (top 28) 5
noncomputable abbrev dN:Stmt:=aQ (top 28) 7
noncomputable abbrev dI:Stmt:=aQ (top 28) 9
noncomputable abbrev dJ:Stmt:=aQ (top 28) 10
noncomputable abbrev fV:Stmt:=top 30
noncomputable abbrev dE:Stmt:=aQ (top 31) 0
noncomputable abbrev cP:Stmt:=aQ (top 31) 1
noncomputable abbrev cG:Stmt:=aQ (top 31) 2
noncomputable abbrev cM:Stmt:=aQ (top 31) 3
noncomputable abbrev cN:Stmt:=aQ (top 31) 4
noncomputable abbrev dk:Stmt:=aQ (top 31) 6
noncomputable abbrev dh:Stmt:=aQ (top 31) 7
noncomputable abbrev b9:Stmt:=aQ (top 31) 8
noncomputable abbrev dF:Stmt:=aQ (top 31) 9
noncomputable abbrev dj:Stmt:=aQ (top 31) 10
noncomputable abbrev dn:Stmt:=aQ (top 31) 11
noncomputable abbrev fI:Stmt:=top 33
noncomputable abbrev gx:Stmt:=top 34
noncomputable abbrev fW:Stmt:=top 35
noncomputable abbrev fX:Stmt:=top 36
noncomputable abbrev fY:Stmt:=top 37
noncomputable abbrev fN:Stmt:=top 38
noncomputable abbrev fO:Stmt:=top 39
noncomputable abbrev eU:Stmt:=top 40
noncomputable abbrev fZ:Stmt:=top 41
noncomputable abbrev gi:Stmt:=top 42
noncomputable abbrev fP:Stmt:=top 43
noncomputable abbrev eV:Stmt:=top 44
noncomputable abbrev fQ:Stmt:=top 45
noncomputable abbrev fR:Stmt:=top 46
noncomputable abbrev gz:Stmt:=top 47
noncomputable abbrev dR:Stmt:=top 48
noncomputable def Fx (K:W.Frag):Prop:=∀ R:Prop,(∀ {fr fb f1 f2 f3 f4 f5 frk fig ftk fwo fca fbx fta fwd fpo fco fti fsa ftx fke fde fcl ftr fst fal flw fwi fwm fwq fwu fwz fwf fwh fwb fwv fyi fyq fyz fyh fys fya fye fyu fyf fyo fyd fpi fpc fpf fpw fui fuk fub fuc fud ful fuh fut fuz fuf C_Wood C_Layers C_Pairs C_Typist C_NoWord C_Twice C_Absent C_NoSign C_NoChoice:Addr}
  {odr anr odb anb od1 an1 od2 an2 od3 an3 od4 an4 od5 an5 odrk anrk odig anig odtk antk odwo anwo odca anca odbx anbx odta anta odwd anwd odpo anpo odco anco odti anti odsa ansa odtx antx odke anke odde ande odcl ancl odtr antr odst anst odal anal odlw anlw odwi anwi odwm anwm odwq anwq odwu anwu odwz anwz odwf anwf odwh anwh odwb anwb odwv anwv odyi anyi odyq anyq odyz anyz odyh anyh odys anys odya anya odye anye odyu anyu odyf anyf odyo anyo odyd anyd odpi anpi odpc anpc odpf anpf odpw anpw odui anui oduk anuk odub anub oduc anuc odud anud odul anul oduh anuh odut anut oduz anuz oduf anuf oddwu oddwf oddyu oddyf oddpf odduf:Option Addr}{slr slb sl1 sl2 sl3 sl4 sl5 slrk slig sltk slwo slca slbx slta slwd slpo slco slti slsa sltx slke slde slcl sltr slst slal sllw slwi slwm slwq slwu slwz slwf slwh slwb slwv slyi slyq slyz slyh slys slya slye slyu slyf slyo slyd slpi slpc slpf slpw slui sluk slub sluc slud slul sluh slut sluz sluf sldwu sldwf sldyu sldyf sldpf slduf:Array (Option Value)}{ocr kVr dcr pmr cdr ctr ocb kVb dcb pmb cdb ctb oc1 kV1 dc1 pm1 cd1 ct1 oc2 kV2 dc2 pm2 cd2 ct2 oc3 kV3 dc3 pm3 cd3 ct3 oc4 kV4 dc4 pm4 cd4 ct4 oc5 kV5 dc5 pm5 cd5 ct5 ocrk kVrk dcrk pmrk cdrk ctrk ocig kVig dcig pmig cdig ctig octk kVtk dctk pmtk cdtk cttk ocwo kVwo dcwo pmwo cdwo ctwo occa kVca dcca pmca cdca ctca ocbx kVbx dcbx pmbx cdbx ctbx octa kVta dcta pmta cdta ctta ocwd kVwd dcwd pmwd cdwd ctwd ocpo kVpo dcpo pmpo cdpo ctpo occo kVco dcco pmco cdco ctco octi kVti dcti pmti cdti ctti ocsa kVsa dcsa pmsa cdsa ctsa octx kVtx dctx pmtx cdtx cttx ocke kVke dcke pmke cdke ctke ocde kVde dcde pmde cdde ctde occl kVcl dccl pmcl cdcl ctcl octr kVtr dctr pmtr cdtr cttr ocst kVst dcst pmst cdst ctst ocal kVal dcal pmal cdal ctal oclw kVlw dclw pmlw cdlw ctlw ocwi kVwi dcwi pmwi cdwi ctwi ocwm kVwm dcwm pmwm cdwm ctwm ocwq kVwq dcwq pmwq cdwq ctwq ocwu kVwu dcwu pmwu cdwu ctwu ocwz kVwz dcwz pmwz cdwz ctwz ocwf kVwf dcwf pmwf cdwf ctwf ocwh kVwh dcwh pmwh cdwh ctwh ocwb kVwb dcwb pmwb cdwb ctwb ocwv kVwv dcwv pmwv cdwv ctwv ocyi kVyi dcyi pmyi cdyi ctyi ocyq kVyq dcyq pmyq cdyq ctyq ocyz kVyz dcyz pmyz cdyz ctyz ocyh kVyh dcyh pmyh cdyh ctyh ocys kVys dcys pmys cdys ctys ocya kVya dcya pmya cdya ctya ocye kVye dcye pmye cdye ctye ocyu kVyu dcyu pmyu cdyu ctyu ocyf kVyf dcyf pmyf cdyf ctyf ocyo kVyo dcyo pmyo cdyo ctyo ocyd kVyd dcyd pmyd cdyd ctyd ocpi kVpi dcpi pmpi cdpi ctpi ocpc kVpc dcpc pmpc cdpc ctpc ocpf kVpf dcpf pmpf cdpf ctpf ocpw kVpw dcpw pmpw cdpw ctpw ocui kVui dcui pmui cdui ctui ocuk kVuk dcuk pmuk cduk ctuk ocub kVub dcub pmub cdub ctub ocuc kVuc dcuc pmuc cduc ctuc ocud kVud dcud pmud cdud ctud ocul kVul dcul pmul cdul ctul ocuh kVuh dcuh pmuh cduh ctuh ocut kVut dcut pmut cdut ctut ocuz kVuz dcuz pmuz cduz ctuz ocuf kVuf dcuf pmuf cduf ctuf ocdwu ocdwf ocdyu ocdyf ocdpf ocduf:Value}
  {tk_MOST_SIGNS:Tok}
  {tk_MOST_PARTS:Tok}
  {tk_MOST_LETTERS:Tok}
  {dTwu:Addr}{tkdwu:Tok}{ndwu:Nat}
  {dTwf:Addr}{tkdwf:Tok}{ndwf:Nat}
  {dTyu:Addr}{tkdyu:Tok}{ndyu:Nat}
  {dTyf:Addr}{tkdyf:Tok}{ndyf:Nat}
  {dTpf:Addr}{tkdpf:Tok}{ndpf:Nat}
  {dTuf:Addr}{tkduf:Tok}{nduf:Nat}
  (aC_Wood:W.nsIn K mainGlobals "Wood"=some (some (.ref C_Wood)))
  (awi:W.findIn K (.ref C_Wood) "__init__"=some (some (.ref fwi))) (iwi:W.isFn K (.ref fwi)=true) (lwi:K.lookup fwi=some ⟨ocwi,odwi,.func (W.fnOf "__init__" "Wood.__init__" (ao dL) (am dL) (ag dL) .none kVwi dcwi pmwi anwi cdwi ctwi),slwi⟩) (cwi:W.codeIn K cdwi "Wood.__init__"=true) (kwi:W.keepIn K (.ref fwi)=true)
  (awm:W.findIn K (.ref C_Wood) "mark_of"=some (some (.ref fwm))) (iwm:W.isFn K (.ref fwm)=true) (lwm:K.lookup fwm=some ⟨ocwm,odwm,.func (W.fnOf "mark_of" "Wood.mark_of" (ao cH) (am cH) (ag cH) .none kVwm dcwm pmwm anwm cdwm ctwm),slwm⟩) (cwm:W.codeIn K cdwm "Wood.mark_of"=true) (kwm:W.keepIn K (.ref fwm)=true)
  (awq:W.findIn K (.ref C_Wood) "put"=some (some (.ref fwq))) (iwq:W.isFn K (.ref fwq)=true) (lwq:K.lookup fwq=some ⟨ocwq,odwq,.func (W.fnOf "put" "Wood.put" (ao cS) (am cS) (ag cS) .none kVwq dcwq pmwq anwq cdwq ctwq),slwq⟩) (cwq:W.codeIn K cdwq "Wood.put"=true) (kwq:W.keepIn K (.ref fwq)=true)
  (awu:W.findIn K (.ref C_Wood) "use"=some (some (.ref fwu))) (iwu:W.isFn K (.ref fwu)=true) (lwu:K.lookup fwu=some ⟨ocwu,odwu,.func (W.fnOf "use" "Wood.use" (ao cT) (am cT) (ag cT) (.ref dTwu) kVwu dcwu pmwu anwu cdwu ctwu),slwu⟩) (cwu:W.codeIn K cdwu "Wood.use"=true) (kwu:W.keepIn K (.ref fwu)=true)
  (ldwu:K.lookup dTwu=some ⟨ocdwu,oddwu,.seq #[.int 1 tkdwu] ndwu,sldwu⟩)
  (awz:W.findIn K (.ref C_Wood) "strike"=some (some (.ref fwz))) (iwz:W.isFn K (.ref fwz)=true) (lwz:K.lookup fwz=some ⟨ocwz,odwz,.func (W.fnOf "strike" "Wood.strike" (ao cK) (am cK) (ag cK) .none kVwz dcwz pmwz anwz cdwz ctwz),slwz⟩) (cwz:W.codeIn K cdwz "Wood.strike"=true) (kwz:W.keepIn K (.ref fwz)=true)
  (awf:W.findIn K (.ref C_Wood) "fade"=some (some (.ref fwf))) (iwf:W.isFn K (.ref fwf)=true) (lwf:K.lookup fwf=some ⟨ocwf,odwf,.func (W.fnOf "fade" "Wood.fade" (ao dM) (am dM) (ag dM) (.ref dTwf) kVwf dcwf pmwf anwf cdwf ctwf),slwf⟩) (cwf:W.codeIn K cdwf "Wood.fade"=true) (kwf:W.keepIn K (.ref fwf)=true)
  (ldwf:K.lookup dTwf=some ⟨ocdwf,oddwf,.seq #[.int 1 tkdwf] ndwf,sldwf⟩)
  (awh:W.findIn K (.ref C_Wood) "has"=some (some (.ref fwh))) (iwh:W.isFn K (.ref fwh)=true) (lwh:K.lookup fwh=some ⟨ocwh,odwh,.func (W.fnOf "has" "Wood.has" (ao dN) (am dN) (ag dN) .none kVwh dcwh pmwh anwh cdwh ctwh),slwh⟩) (cwh:W.codeIn K cdwh "Wood.has"=true) (kwh:W.keepIn K (.ref fwh)=true)
  (awb:W.findIn K (.ref C_Wood) "begun"=some (some (.ref fwb))) (iwb:W.isFn K (.ref fwb)=true) (lwb:K.lookup fwb=some ⟨ocwb,odwb,.func (W.fnOf "begun" "Wood.begun" (ao dI) (am dI) (ag dI) .none kVwb dcwb pmwb anwb cdwb ctwb),slwb⟩) (cwb:W.codeIn K cdwb "Wood.begun"=true) (kwb:W.keepIn K (.ref fwb)=true)
  (awv:W.findIn K (.ref C_Wood) "words"=some (some (.ref fwv))) (iwv:W.isFn K (.ref fwv)=true) (lwv:K.lookup fwv=some ⟨ocwv,odwv,.func (W.fnOf "words" "Wood.words" (ao dJ) (am dJ) (ag dJ) .none kVwv dcwv pmwv anwv cdwv ctwv),slwv⟩) (cwv:W.codeIn K cdwv "Wood.words"=true) (kwv:W.keepIn K (.ref fwv)=true)
  (pg_Wood:W.plainGet K C_Wood Str.empty=true) (hd_Wood:W.hasDictIn K C_Wood=true) (po_Wood:W.plainOver K C_Wood=true) (sa_Wood:W.findIn K (.ref C_Wood) "__setattr__"=some (some (.builtin "object.__setattr__"))) (mk_Wood:W.makesIn K C_Wood=true) (kc_Wood:W.keepIn K (.ref C_Wood)=true)
  (n_Wood_marks:W.findIn K (.ref C_Wood) "marks"=some none)
  (n_Wood_now:W.findIn K (.ref C_Wood) "now"=some none)
  (aC_Layers:W.nsIn K mainGlobals "Layers"=some (some (.ref C_Layers)))
  (ayi:W.findIn K (.ref C_Layers) "__init__"=some (some (.ref fyi))) (iyi:W.isFn K (.ref fyi)=true) (lyi:K.lookup fyi=some ⟨ocyi,odyi,.func (W.fnOf "__init__" "Layers.__init__" (ao dE) (am dE) (ag dE) .none kVyi dcyi pmyi anyi cdyi ctyi),slyi⟩) (cyi:W.codeIn K cdyi "Layers.__init__"=true) (kyi:W.keepIn K (.ref fyi)=true)
  (ayq:W.findIn K (.ref C_Layers) "put"=some (some (.ref fyq))) (iyq:W.isFn K (.ref fyq)=true) (lyq:K.lookup fyq=some ⟨ocyq,odyq,.func (W.fnOf "put" "Layers.put" (ao cP) (am cP) (ag cP) .none kVyq dcyq pmyq anyq cdyq ctyq),slyq⟩) (cyq:W.codeIn K cdyq "Layers.put"=true) (kyq:W.keepIn K (.ref fyq)=true)
  (ayz:W.findIn K (.ref C_Layers) "strike"=some (some (.ref fyz))) (iyz:W.isFn K (.ref fyz)=true) (lyz:K.lookup fyz=some ⟨ocyz,odyz,.func (W.fnOf "strike" "Layers.strike" (ao cG) (am cG) (ag cG) .none kVyz dcyz pmyz anyz cdyz ctyz),slyz⟩) (cyz:W.codeIn K cdyz "Layers.strike"=true) (kyz:W.keepIn K (.ref fyz)=true)
  (ayh:W.findIn K (.ref C_Layers) "hide"=some (some (.ref fyh))) (iyh:W.isFn K (.ref fyh)=true) (lyh:K.lookup fyh=some ⟨ocyh,odyh,.func (W.fnOf "hide" "Layers.hide" (ao cM) (am cM) (ag cM) .none kVyh dcyh pmyh anyh cdyh ctyh),slyh⟩) (cyh:W.codeIn K cdyh "Layers.hide"=true) (kyh:W.keepIn K (.ref fyh)=true)
  (ays:W.findIn K (.ref C_Layers) "show"=some (some (.ref fys))) (iys:W.isFn K (.ref fys)=true) (lys:K.lookup fys=some ⟨ocys,odys,.func (W.fnOf "show" "Layers.show" (ao cN) (am cN) (ag cN) .none kVys dcys pmys anys cdys ctys),slys⟩) (cys:W.codeIn K cdys "Layers.show"=true) (kys:W.keepIn K (.ref fys)=true)
  (aya:W.findIn K (.ref C_Layers) "all_told"=some (some (.ref fya))) (iya:W.isFn K (.ref fya)=true) (lya:K.lookup fya=some ⟨ocya,odya,.func (W.fnOf "all_told" "Layers.all_told" (ao dk) (am dk) (ag dk) .none kVya dcya pmya anya cdya ctya),slya⟩) (cya:W.codeIn K cdya "Layers.all_told"=true) (kya:W.keepIn K (.ref fya)=true)
  (aye:W.findIn K (.ref C_Layers) "is_seen_of_house"=some (some (.ref fye))) (iye:W.isFn K (.ref fye)=true) (lye:K.lookup fye=some ⟨ocye,odye,.func (W.fnOf "is_seen_of_house" "Layers.is_seen_of_house" (ao dh) (am dh) (ag dh) .none kVye dcye pmye anye cdye ctye),slye⟩) (cye:W.codeIn K cdye "Layers.is_seen_of_house"=true) (kye:W.keepIn K (.ref fye)=true)
  (ayu:W.findIn K (.ref C_Layers) "use"=some (some (.ref fyu))) (iyu:W.isFn K (.ref fyu)=true) (lyu:K.lookup fyu=some ⟨ocyu,odyu,.func (W.fnOf "use" "Layers.use" (ao b9) (am b9) (ag b9) (.ref dTyu) kVyu dcyu pmyu anyu cdyu ctyu),slyu⟩) (cyu:W.codeIn K cdyu "Layers.use"=true) (kyu:W.keepIn K (.ref fyu)=true)
  (ldyu:K.lookup dTyu=some ⟨ocdyu,oddyu,.seq #[.int 1 tkdyu] ndyu,sldyu⟩)
  (ayf:W.findIn K (.ref C_Layers) "fade"=some (some (.ref fyf))) (iyf:W.isFn K (.ref fyf)=true) (lyf:K.lookup fyf=some ⟨ocyf,odyf,.func (W.fnOf "fade" "Layers.fade" (ao dF) (am dF) (ag dF) (.ref dTyf) kVyf dcyf pmyf anyf cdyf ctyf),slyf⟩) (cyf:W.codeIn K cdyf "Layers.fade"=true) (kyf:W.keepIn K (.ref fyf)=true)
  (ldyf:K.lookup dTyf=some ⟨ocdyf,oddyf,.seq #[.int 1 tkdyf] ndyf,sldyf⟩)
  (ayo:W.findIn K (.ref C_Layers) "own_words"=some (some (.ref fyo))) (iyo:W.isFn K (.ref fyo)=true) (lyo:K.lookup fyo=some ⟨ocyo,odyo,.func (W.fnOf "own_words" "Layers.own_words" (ao dj) (am dj) (ag dj) .none kVyo dcyo pmyo anyo cdyo ctyo),slyo⟩) (cyo:W.codeIn K cdyo "Layers.own_words"=true) (kyo:W.keepIn K (.ref fyo)=true)
  (ayd:W.findIn K (.ref C_Layers) "hidden"=some (some (.ref fyd))) (iyd:W.isFn K (.ref fyd)=true) (lyd:K.lookup fyd=some ⟨ocyd,odyd,.func (W.fnOf "hidden" "Layers.hidden" (ao dn) (am dn) (ag dn) .none kVyd dcyd pmyd anyd cdyd ctyd),slyd⟩) (cyd:W.codeIn K cdyd "Layers.hidden"=true) (kyd:W.keepIn K (.ref fyd)=true)
  (pg_Layers:W.plainGet K C_Layers Str.empty=true) (hd_Layers:W.hasDictIn K C_Layers=true) (po_Layers:W.plainOver K C_Layers=true) (sa_Layers:W.findIn K (.ref C_Layers) "__setattr__"=some (some (.builtin "object.__setattr__"))) (mk_Layers:W.makesIn K C_Layers=true) (kc_Layers:W.keepIn K (.ref C_Layers)=true)
  (n_Layers_house:W.findIn K (.ref C_Layers) "house"=some none)
  (n_Layers_own:W.findIn K (.ref C_Layers) "own"=some none)
  (n_Layers_veiled:W.findIn K (.ref C_Layers) "veiled"=some none)
  (aC_Pairs:W.nsIn K mainGlobals "Pairs"=some (some (.ref C_Pairs)))
  (api:W.findIn K (.ref C_Pairs) "__init__"=some (some (.ref fpi))) (ipi:W.isFn K (.ref fpi)=true) (lpi:K.lookup fpi=some ⟨ocpi,odpi,.func (W.fnOf "__init__" "Pairs.__init__" (ao dG) (am dG) (ag dG) .none kVpi dcpi pmpi anpi cdpi ctpi),slpi⟩) (cpi:W.codeIn K cdpi "Pairs.__init__"=true) (kpi:W.keepIn K (.ref fpi)=true)
  (apc:W.findIn K (.ref C_Pairs) "choose"=some (some (.ref fpc))) (ipc:W.isFn K (.ref fpc)=true) (lpc:K.lookup fpc=some ⟨ocpc,odpc,.func (W.fnOf "choose" "Pairs.choose" (ao dq) (am dq) (ag dq) .none kVpc dcpc pmpc anpc cdpc ctpc),slpc⟩) (cpc:W.codeIn K cdpc "Pairs.choose"=true) (kpc:W.keepIn K (.ref fpc)=true)
  (apf:W.findIn K (.ref C_Pairs) "fade"=some (some (.ref fpf))) (ipf:W.isFn K (.ref fpf)=true) (lpf:K.lookup fpf=some ⟨ocpf,odpf,.func (W.fnOf "fade" "Pairs.fade" (ao dH) (am dH) (ag dH) (.ref dTpf) kVpf dcpf pmpf anpf cdpf ctpf),slpf⟩) (cpf:W.codeIn K cdpf "Pairs.fade"=true) (kpf:W.keepIn K (.ref fpf)=true)
  (ldpf:K.lookup dTpf=some ⟨ocdpf,oddpf,.seq #[.int 1 tkdpf] ndpf,sldpf⟩)
  (apw:W.findIn K (.ref C_Pairs) "worth_of"=some (some (.ref fpw))) (ipw:W.isFn K (.ref fpw)=true) (lpw:K.lookup fpw=some ⟨ocpw,odpw,.func (W.fnOf "worth_of" "Pairs.worth_of" (ao dm) (am dm) (ag dm) .none kVpw dcpw pmpw anpw cdpw ctpw),slpw⟩) (cpw:W.codeIn K cdpw "Pairs.worth_of"=true) (kpw:W.keepIn K (.ref fpw)=true)
  (pg_Pairs:W.plainGet K C_Pairs Str.empty=true) (hd_Pairs:W.hasDictIn K C_Pairs=true) (po_Pairs:W.plainOver K C_Pairs=true) (sa_Pairs:W.findIn K (.ref C_Pairs) "__setattr__"=some (some (.builtin "object.__setattr__"))) (mk_Pairs:W.makesIn K C_Pairs=true) (kc_Pairs:W.keepIn K (.ref C_Pairs)=true)
  (n_Pairs_marks:W.findIn K (.ref C_Pairs) "marks"=some none)
  (n_Pairs_now:W.findIn K (.ref C_Pairs) "now"=some none)
  (aC_Typist:W.nsIn K mainGlobals "Typist"=some (some (.ref C_Typist)))
  (aui:W.findIn K (.ref C_Typist) "__init__"=some (some (.ref fui))) (iui:W.isFn K (.ref fui)=true) (lui:K.lookup fui=some ⟨ocui,odui,.func (W.fnOf "__init__" "Typist.__init__" (ao dA) (am dA) (ag dA) .none kVui dcui pmui anui cdui ctui),slui⟩) (cui:W.codeIn K cdui "Typist.__init__"=true) (kui:W.keepIn K (.ref fui)=true)
  (auk:W.findIn K (.ref C_Typist) "key"=some (some (.ref fuk))) (iuk:W.isFn K (.ref fuk)=true) (luk:K.lookup fuk=some ⟨ocuk,oduk,.func (W.fnOf "key" "Typist.key" (ao cO) (am cO) (ag cO) .none kVuk dcuk pmuk anuk cduk ctuk),sluk⟩) (cuk:W.codeIn K cduk "Typist.key"=true) (kuk:W.keepIn K (.ref fuk)=true)
  (aub:W.findIn K (.ref C_Typist) "back"=some (some (.ref fub))) (iub:W.isFn K (.ref fub)=true) (lub:K.lookup fub=some ⟨ocub,odub,.func (W.fnOf "back" "Typist.back" (ao cI) (am cI) (ag cI) .none kVub dcub pmub anub cdub ctub),slub⟩) (cub:W.codeIn K cdub "Typist.back"=true) (kub:W.keepIn K (.ref fub)=true)
  (auc:W.findIn K (.ref C_Typist) "clear"=some (some (.ref fuc))) (iuc:W.isFn K (.ref fuc)=true) (luc:K.lookup fuc=some ⟨ocuc,oduc,.func (W.fnOf "clear" "Typist.clear" (ao du) (am du) (ag du) .none kVuc dcuc pmuc anuc cduc ctuc),sluc⟩) (cuc:W.codeIn K cduc "Typist.clear"=true) (kuc:W.keepIn K (.ref fuc)=true)
  (aud:W.findIn K (.ref C_Typist) "typed"=some (some (.ref fud))) (iud:W.isFn K (.ref fud)=true) (lud:K.lookup fud=some ⟨ocud,odud,.func (W.fnOf "typed" "Typist.typed" (ao dw) (am dw) (ag dw) .none kVud dcud pmud anud cdud ctud),slud⟩) (cud:W.codeIn K cdud "Typist.typed"=true) (kud:W.keepIn K (.ref fud)=true)
  (aul:W.findIn K (.ref C_Typist) "line"=some (some (.ref ful))) (iul:W.isFn K (.ref ful)=true) (lul:K.lookup ful=some ⟨ocul,odul,.func (W.fnOf "line" "Typist.line" (ao dB) (am dB) (ag dB) .none kVul dcul pmul anul cdul ctul),slul⟩) (cul:W.codeIn K cdul "Typist.line"=true) (kul:W.keepIn K (.ref ful)=true)
  (auh:W.findIn K (.ref C_Typist) "last_chosen"=some (some (.ref fuh))) (iuh:W.isFn K (.ref fuh)=true) (luh:K.lookup fuh=some ⟨ocuh,oduh,.func (W.fnOf "last_chosen" "Typist.last_chosen" (ao di) (am di) (ag di) .none kVuh dcuh pmuh anuh cduh ctuh),sluh⟩) (cuh:W.codeIn K cduh "Typist.last_chosen"=true) (kuh:W.keepIn K (.ref fuh)=true)
  (aut:W.findIn K (.ref C_Typist) "told"=some (some (.ref fut))) (iut:W.isFn K (.ref fut)=true) (lut:K.lookup fut=some ⟨ocut,odut,.func (W.fnOf "told" "Typist.told" (ao dC) (am dC) (ag dC) .none kVut dcut pmut anut cdut ctut),slut⟩) (cut:W.codeIn K cdut "Typist.told"=true) (kut:W.keepIn K (.ref fut)=true)
  (auz:W.findIn K (.ref C_Typist) "take"=some (some (.ref fuz))) (iuz:W.isFn K (.ref fuz)=true) (luz:K.lookup fuz=some ⟨ocuz,oduz,.func (W.fnOf "take" "Typist.take" (ao cJ) (am cJ) (ag cJ) .none kVuz dcuz pmuz anuz cduz ctuz),sluz⟩) (cuz:W.codeIn K cduz "Typist.take"=true) (kuz:W.keepIn K (.ref fuz)=true)
  (auf:W.findIn K (.ref C_Typist) "fade"=some (some (.ref fuf))) (iuf:W.isFn K (.ref fuf)=true) (luf:K.lookup fuf=some ⟨ocuf,oduf,.func (W.fnOf "fade" "Typist.fade" (ao dD) (am dD) (ag dD) (.ref dTuf) kVuf dcuf pmuf anuf cduf ctuf),sluf⟩) (cuf:W.codeIn K cduf "Typist.fade"=true) (kuf:W.keepIn K (.ref fuf)=true)
  (lduf:K.lookup dTuf=some ⟨ocduf,odduf,.seq #[.int 1 tkduf] nduf,slduf⟩)
  (pg_Typist:W.plainGet K C_Typist Str.empty=true) (hd_Typist:W.hasDictIn K C_Typist=true) (po_Typist:W.plainOver K C_Typist=true) (sa_Typist:W.findIn K (.ref C_Typist) "__setattr__"=some (some (.builtin "object.__setattr__"))) (mk_Typist:W.makesIn K C_Typist=true) (kc_Typist:W.keepIn K (.ref C_Typist)=true)
  (n_Typist_layers:W.findIn K (.ref C_Typist) "layers"=some none)
  (n_Typist_many:W.findIn K (.ref C_Typist) "many"=some none)
  (n_Typist_pairs:W.findIn K (.ref C_Typist) "pairs"=some none)
  (n_Typist_text:W.findIn K (.ref C_Typist) "text"=some none)
  (n_Typist_chosen:W.findIn K (.ref C_Typist) "chosen"=some none)
  (aC_NoWord:W.nsIn K mainGlobals "NoWord"=some (some (.ref C_NoWord)))
  (aC_Twice:W.nsIn K mainGlobals "Twice"=some (some (.ref C_Twice)))
  (aC_Absent:W.nsIn K mainGlobals "Absent"=some (some (.ref C_Absent)))
  (aC_NoSign:W.nsIn K mainGlobals "NoSign"=some (some (.ref C_NoSign)))
  (aC_NoChoice:W.nsIn K mainGlobals "NoChoice"=some (some (.ref C_NoChoice)))
  (ar:W.nsIn K mainGlobals "rank_key"=some (some (.ref fr))) (lr:K.lookup fr=some ⟨ocr,odr,.func (W.fnOf "rank_key" "rank_key" (ao fS) (am fS) (ag fS) .none kVr dcr pmr anr cdr ctr),slr⟩) (cr:W.codeIn K cdr "rank_key"=true) (kr:W.keepIn K (.ref fr)=true)
  (ab:W.nsIn K mainGlobals "best_of"=some (some (.ref fb))) (lb:K.lookup fb=some ⟨ocb,odb,.func (W.fnOf "best_of" "best_of" (ao gj) (am gj) (ag gj) .none kVb dcb pmb anb cdb ctb),slb⟩) (cb:W.codeIn K cdb "best_of"=true) (kb:W.keepIn K (.ref fb)=true)
  (a1:W.nsIn K mainGlobals "is_letter"=some (some (.ref f1))) (l1:K.lookup f1=some ⟨oc1,od1,.func (W.fnOf "is_letter" "is_letter" (ao fL) (am fL) (ag fL) .none kV1 dc1 pm1 an1 cd1 ct1),sl1⟩) (c1:W.codeIn K cd1 "is_letter"=true) (k1:W.keepIn K (.ref f1)=true)
  (a2:W.nsIn K mainGlobals "is_part"=some (some (.ref f2))) (l2:K.lookup f2=some ⟨oc2,od2,.func (W.fnOf "is_part" "is_part" (ao gk) (am gk) (ag gk) .none kV2 dc2 pm2 an2 cd2 ct2),sl2⟩) (c2:W.codeIn K cd2 "is_part"=true) (k2:W.keepIn K (.ref f2)=true)
  (a3:W.nsIn K mainGlobals "is_word"=some (some (.ref f3))) (l3:K.lookup f3=some ⟨oc3,od3,.func (W.fnOf "is_word" "is_word" (ao gr) (am gr) (ag gr) .none kV3 dc3 pm3 an3 cd3 ct3),sl3⟩) (c3:W.codeIn K cd3 "is_word"=true) (k3:W.keepIn K (.ref f3)=true)
  (a4:W.nsIn K mainGlobals "worth_at"=some (some (.ref f4))) (l4:K.lookup f4=some ⟨oc4,od4,.func (W.fnOf "worth_at" "worth_at" (ao fT) (am fT) (ag fT) .none kV4 dc4 pm4 an4 cd4 ct4),sl4⟩) (c4:W.codeIn K cd4 "worth_at"=true) (k4:W.keepIn K (.ref f4)=true)
  (a5:W.nsIn K mainGlobals "used_mark"=some (some (.ref f5))) (l5:K.lookup f5=some ⟨oc5,od5,.func (W.fnOf "used_mark" "used_mark" (ao fM) (am fM) (ag fM) .none kV5 dc5 pm5 an5 cd5 ct5),sl5⟩) (c5:W.codeIn K cd5 "used_mark"=true) (k5:W.keepIn K (.ref f5)=true)
  (ark:W.nsIn K mainGlobals "ranked_key"=some (some (.ref frk))) (lrk:K.lookup frk=some ⟨ocrk,odrk,.func (W.fnOf "ranked_key" "ranked_key" (ao fJ) (am fJ) (ag fJ) .none kVrk dcrk pmrk anrk cdrk ctrk),slrk⟩) (crk:W.codeIn K cdrk "ranked_key"=true) (krk:W.keepIn K (.ref frk)=true)
  (aig:W.nsIn K mainGlobals "is_sign"=some (some (.ref fig))) (lig:K.lookup fig=some ⟨ocig,odig,.func (W.fnOf "is_sign" "is_sign" (ao gw) (am gw) (ag gw) .none kVig dcig pmig anig cdig ctig),slig⟩) (cig:W.codeIn K cdig "is_sign"=true) (kig:W.keepIn K (.ref fig)=true)
  (atk:W.nsIn K mainGlobals "told_key"=some (some (.ref ftk))) (ltk:K.lookup ftk=some ⟨octk,odtk,.func (W.fnOf "told_key" "told_key" (ao fU) (am fU) (ag fU) .none kVtk dctk pmtk antk cdtk cttk),sltk⟩) (ctk:W.codeIn K cdtk "told_key"=true) (ktk:W.keepIn K (.ref ftk)=true)
  (awo:W.nsIn K mainGlobals "with_own"=some (some (.ref fwo))) (lwo:K.lookup fwo=some ⟨ocwo,odwo,.func (W.fnOf "with_own" "with_own" (ao fV) (am fV) (ag fV) .none kVwo dcwo pmwo anwo cdwo ctwo),slwo⟩) (cwo:W.codeIn K cdwo "with_own"=true) (kwo:W.keepIn K (.ref fwo)=true)
  (aca:W.nsIn K mainGlobals "_law_cell_at"=some (some (.ref fca))) (lca:K.lookup fca=some ⟨occa,odca,.func (W.fnOf "_law_cell_at" "_law_cell_at" (ao fI) (am fI) (ag fI) .none kVca dcca pmca anca cdca ctca),slca⟩) (cca:W.codeIn K cdca "_law_cell_at"=true) (kca:W.keepIn K (.ref fca)=true)
  (abx:W.nsIn K mainGlobals "_law_box"=some (some (.ref fbx))) (lbx:K.lookup fbx=some ⟨ocbx,odbx,.func (W.fnOf "_law_box" "_law_box" (ao gx) (am gx) (ag gx) .none kVbx dcbx pmbx anbx cdbx ctbx),slbx⟩) (cbx:W.codeIn K cdbx "_law_box"=true) (kbx:W.keepIn K (.ref fbx)=true)
  (ata:W.nsIn K mainGlobals "_law_take"=some (some (.ref fta))) (lta:K.lookup fta=some ⟨octa,odta,.func (W.fnOf "_law_take" "_law_take" (ao fW) (am fW) (ag fW) .none kVta dcta pmta anta cdta ctta),slta⟩) (cta:W.codeIn K cdta "_law_take"=true) (kta:W.keepIn K (.ref fta)=true)
  (awd:W.nsIn K mainGlobals "_law_word"=some (some (.ref fwd))) (lwd:K.lookup fwd=some ⟨ocwd,odwd,.func (W.fnOf "_law_word" "_law_word" (ao fX) (am fX) (ag fX) .none kVwd dcwd pmwd anwd cdwd ctwd),slwd⟩) (cwd:W.codeIn K cdwd "_law_word"=true) (kwd:W.keepIn K (.ref fwd)=true)
  (apo:W.nsIn K mainGlobals "_law_pool"=some (some (.ref fpo))) (lpo:K.lookup fpo=some ⟨ocpo,odpo,.func (W.fnOf "_law_pool" "_law_pool" (ao fY) (am fY) (ag fY) .none kVpo dcpo pmpo anpo cdpo ctpo),slpo⟩) (cpo:W.codeIn K cdpo "_law_pool"=true) (kpo:W.keepIn K (.ref fpo)=true)
  (aco:W.nsIn K mainGlobals "_law_count"=some (some (.ref fco))) (lco:K.lookup fco=some ⟨occo,odco,.func (W.fnOf "_law_count" "_law_count" (ao fN) (am fN) (ag fN) .none kVco dcco pmco anco cdco ctco),slco⟩) (cco:W.codeIn K cdco "_law_count"=true) (kco:W.keepIn K (.ref fco)=true)
  (ati:W.nsIn K mainGlobals "_law_times"=some (some (.ref fti))) (lti:K.lookup fti=some ⟨octi,odti,.func (W.fnOf "_law_times" "_law_times" (ao fO) (am fO) (ag fO) .none kVti dcti pmti anti cdti ctti),slti⟩) (cti:W.codeIn K cdti "_law_times"=true) (kti:W.keepIn K (.ref fti)=true)
  (asa:W.nsIn K mainGlobals "_law_same"=some (some (.ref fsa))) (lsa:K.lookup fsa=some ⟨ocsa,odsa,.func (W.fnOf "_law_same" "_law_same" (ao eU) (am eU) (ag eU) .none kVsa dcsa pmsa ansa cdsa ctsa),slsa⟩) (csa:W.codeIn K cdsa "_law_same"=true) (ksa:W.keepIn K (.ref fsa)=true)
  (atx:W.nsIn K mainGlobals "_law_text"=some (some (.ref ftx))) (ltx:K.lookup ftx=some ⟨octx,odtx,.func (W.fnOf "_law_text" "_law_text" (ao fZ) (am fZ) (ag fZ) .none kVtx dctx pmtx antx cdtx cttx),sltx⟩) (ctx:W.codeIn K cdtx "_law_text"=true) (ktx:W.keepIn K (.ref ftx)=true)
  (ake:W.nsIn K mainGlobals "_law_keys"=some (some (.ref fke))) (lke:K.lookup fke=some ⟨ocke,odke,.func (W.fnOf "_law_keys" "_law_keys" (ao gi) (am gi) (ag gi) .none kVke dcke pmke anke cdke ctke),slke⟩) (cke:W.codeIn K cdke "_law_keys"=true) (kke:W.keepIn K (.ref fke)=true)
  (ade:W.nsIn K mainGlobals "_law_deeds"=some (some (.ref fde))) (lde:K.lookup fde=some ⟨ocde,odde,.func (W.fnOf "_law_deeds" "_law_deeds" (ao fP) (am fP) (ag fP) .none kVde dcde pmde ande cdde ctde),slde⟩) (cde:W.codeIn K cdde "_law_deeds"=true) (kde:W.keepIn K (.ref fde)=true)
  (acl:W.nsIn K mainGlobals "_law_call"=some (some (.ref fcl))) (lcl:K.lookup fcl=some ⟨occl,odcl,.func (W.fnOf "_law_call" "_law_call" (ao eV) (am eV) (ag eV) .none kVcl dccl pmcl ancl cdcl ctcl),slcl⟩) (ccl:W.codeIn K cdcl "_law_call"=true) (kcl:W.keepIn K (.ref fcl)=true)
  (atr:W.nsIn K mainGlobals "_law_tried"=some (some (.ref ftr))) (ltr:K.lookup ftr=some ⟨octr,odtr,.func (W.fnOf "_law_tried" "_law_tried" (ao fQ) (am fQ) (ag fQ) .none kVtr dctr pmtr antr cdtr cttr),sltr⟩) (ctr:W.codeIn K cdtr "_law_tried"=true) (ktr:W.keepIn K (.ref ftr)=true)
  (ast:W.nsIn K mainGlobals "_law_steps"=some (some (.ref fst))) (lst:K.lookup fst=some ⟨ocst,odst,.func (W.fnOf "_law_steps" "_law_steps" (ao fR) (am fR) (ag fR) .none kVst dcst pmst anst cdst ctst),slst⟩) (cst:W.codeIn K cdst "_law_steps"=true) (kst:W.keepIn K (.ref fst)=true)
  (aal:W.nsIn K mainGlobals "_law_all"=some (some (.ref fal))) (lal:K.lookup fal=some ⟨ocal,odal,.func (W.fnOf "_law_all" "_law_all" (ao gz) (am gz) (ag gz) .none kVal dcal pmal anal cdal ctal),slal⟩) (cal:W.codeIn K cdal "_law_all"=true) (kal:W.keepIn K (.ref fal)=true)
  (alw:W.nsIn K mainGlobals "law"=some (some (.ref flw))) (llw:K.lookup flw=some ⟨oclw,odlw,.func (W.fnOf "law" "law" (ao dR) (am dR) (ag dR) .none kVlw dclw pmlw anlw cdlw ctlw),sllw⟩) (clw:W.codeIn K cdlw "law"=true) (klw:W.keepIn K (.ref flw)=true)
  (z_len:W.nsIn K mainGlobals "len"=some none)
  (z_range:W.nsIn K mainGlobals "range"=some none)
  (z_all:W.nsIn K mainGlobals "all"=some none)
  (z_max:W.nsIn K mainGlobals "max"=some none)
  (z_min:W.nsIn K mainGlobals "min"=some none)
  (z_sorted:W.nsIn K mainGlobals "sorted"=some none)
  (z_isinstance:W.nsIn K mainGlobals "isinstance"=some none)
  (z_bool:W.nsIn K mainGlobals "bool"=some none)
  (z_int:W.nsIn K mainGlobals "int"=some none)
  (z_str:W.nsIn K mainGlobals "str"=some none)
  (z_list:W.nsIn K mainGlobals "list"=some none)
  (z_tuple:W.nsIn K mainGlobals "tuple"=some none)
  (t_ss:W.kitOne K (.type "str") (.type "str")=some true)
  (t_ii:W.kitOne K (.type "int") (.type "int")=some true)
  (t_ib:W.kitOne K (.type "int") (.type "bool")=some false)
  (t_tt:W.kitOne K (.type "tuple") (.type "tuple")=some true)
  (t_ll:W.kitOne K (.type "list") (.type "list")=some true)
  (t_lt:W.kitOne K (.type "list") (.type "tuple")=some false)
  (t_st:W.kitOne K (.type "str") (.type "tuple")=some false)
  (t_it:W.kitOne K (.type "int") (.type "tuple")=some false)
  (t_sl:W.kitOne K (.type "str") (.type "list")=some false)
  (t_il:W.kitOne K (.type "int") (.type "list")=some false)
  (t_bb:W.kitOne K (.type "bool") (.type "bool")=some true)
  (t_is:W.kitOne K (.type "int") (.type "str")=some false)
  (t_nt:W.kitOne K (.type "NoneType") (.type "tuple")=some false)
  (t_nl:W.kitOne K (.type "NoneType") (.type "list")=some false)
  (t_bt:W.kitOne K (.type "bool") (.type "tuple")=some false)
  (t_bl:W.kitOne K (.type "bool") (.type "list")=some false)
  (t_bs:W.kitOne K (.type "bool") (.type "str")=some false)
  (q_MOST_SIGNS:W.nsIn K mainGlobals "MOST_SIGNS"=some (some (.int 24 tk_MOST_SIGNS)))
  (q_MOST_PARTS:W.nsIn K mainGlobals "MOST_PARTS"=some (some (.int 4 tk_MOST_PARTS)))
  (q_MOST_LETTERS:W.nsIn K mainGlobals "MOST_LETTERS"=some (some (.int 12 tk_MOST_LETTERS)))
  (oxNoWord:bK K C_NoWord none=true)
  (okNoWord:W.keepIn K (.ref C_NoWord)=true)
  (oxTwice:bK K C_Twice none=true)
  (okTwice:W.keepIn K (.ref C_Twice)=true)
  (oxAbsent:bK K C_Absent none=true)
  (okAbsent:W.keepIn K (.ref C_Absent)=true)
  (oxNoSign:bK K C_NoSign none=true)
  (okNoSign:W.keepIn K (.ref C_NoSign)=true)
  (oxNoChoice:bK K C_NoChoice none=true)
  (okNoChoice:W.keepIn K (.ref C_NoChoice)=true)
  (oeNoWordNoWord:W.exmOne K (.ref C_NoWord) (.ref C_NoWord)=some true)
  (oeNoWordTwice:W.exmOne K (.ref C_NoWord) (.ref C_Twice)=some false)
  (oeNoWordAbsent:W.exmOne K (.ref C_NoWord) (.ref C_Absent)=some false)
  (oeNoWordNoSign:W.exmOne K (.ref C_NoWord) (.ref C_NoSign)=some false)
  (oeNoWordNoChoice:W.exmOne K (.ref C_NoWord) (.ref C_NoChoice)=some false)
  (oeTwiceNoWord:W.exmOne K (.ref C_Twice) (.ref C_NoWord)=some false)
  (oeTwiceTwice:W.exmOne K (.ref C_Twice) (.ref C_Twice)=some true)
  (oeTwiceAbsent:W.exmOne K (.ref C_Twice) (.ref C_Absent)=some false)
  (oeTwiceNoSign:W.exmOne K (.ref C_Twice) (.ref C_NoSign)=some false)
  (oeTwiceNoChoice:W.exmOne K (.ref C_Twice) (.ref C_NoChoice)=some false)
  (oeAbsentNoWord:W.exmOne K (.ref C_Absent) (.ref C_NoWord)=some false)
  (oeAbsentTwice:W.exmOne K (.ref C_Absent) (.ref C_Twice)=some false)
  (oeAbsentAbsent:W.exmOne K (.ref C_Absent) (.ref C_Absent)=some true)
  (oeAbsentNoSign:W.exmOne K (.ref C_Absent) (.ref C_NoSign)=some false)
  (oeAbsentNoChoice:W.exmOne K (.ref C_Absent) (.ref C_NoChoice)=some false)
  (oeNoSignNoWord:W.exmOne K (.ref C_NoSign) (.ref C_NoWord)=some false)
  (oeNoSignTwice:W.exmOne K (.ref C_NoSign) (.ref C_Twice)=some false)
  (oeNoSignAbsent:W.exmOne K (.ref C_NoSign) (.ref C_Absent)=some false)
  (oeNoSignNoSign:W.exmOne K (.ref C_NoSign) (.ref C_NoSign)=some true)
  (oeNoSignNoChoice:W.exmOne K (.ref C_NoSign) (.ref C_NoChoice)=some false)
  (oeNoChoiceNoWord:W.exmOne K (.ref C_NoChoice) (.ref C_NoWord)=some false)
  (oeNoChoiceTwice:W.exmOne K (.ref C_NoChoice) (.ref C_Twice)=some false)
  (oeNoChoiceAbsent:W.exmOne K (.ref C_NoChoice) (.ref C_Absent)=some false)
  (oeNoChoiceNoSign:W.exmOne K (.ref C_NoChoice) (.ref C_NoSign)=some false)
  (oeNoChoiceNoChoice:W.exmOne K (.ref C_NoChoice) (.ref C_NoChoice)=some true),R)->R
noncomputable def pick {α:Type}:List Nat->Nat->List α->List α
 |_,_,[]=>[]
 |[],_,l=>l
 |k::ks,i,x::l=>if i=k then pick ks (i+1) l else x::pick (k::ks) (i+1) l
noncomputable def aF:Program:={ PySem.Challenge.pw_aheadword_k64_whole_fading_in_steps with main:={ PySem.Challenge.pw_aheadword_k64_whole_fading_in_steps.main with body:=pick [1,8,11,20,23,27,29,32] 0 PySem.Challenge.pw_aheadword_k64_whole_fading_in_steps.main.body } }
theorem xD {S A B:Type}{x:Option S}{f:S->A}{g:S->B}{a:A}{b:B}(h1:x.map f=some a) (h2:x.map g=some b):x.map (λs=>(f s,g s))=some (a,b):=by
 cases x with
 |none=>cases h1
 |some s=>cases h1;cases h2;rfl
end My
section
open PySem PySem.W PyProof.Rows
local macro_rules|`(tactic| o_head $H)=>`(tactic| refine holds_open (q:=My.aF) (loose:=[]) (Xt:=λs=>xlAt My.aF [] s&&recOk [] s) (XP:=XL My.aF []) (Yf:=Hook.obs $H) (Ya:=Hook.val $H) (YP:=Hook.says $H) (N:=8692) ?hl (Hook.of $H) (Hook.keeps $H) (λs e=>xl_of s (Bool.and_eq_true_iff.mp e).1) XL.keeps (by rfl) (by rfl) (by rfl) (λs e=>recFacts_of (Bool.and_eq_true_iff.mp e).2) (by rfl) (by assumption) (by decide +kernel) ⟨rfl,rfl,rfl,rfl,rfl,by decide +kernel⟩ ?hw ?hc)
set_option maxRecDepth 100000 in
set_option maxHeartbeats 0 in
theorem My.pre (h:∀ P:Prop,P):PySem.Challenge.rw_aheadword_k64_whole_fading_in_steps.Holds:=by w_on;o_law;k_head;all_goals exact h _
noncomputable def My.as:List Addr:=[2,3,15,17,18,20,21,22,29,30,31,32,35,42,43,44,47,54,55,56,59,66,67,68,71,78,79,80,83,90,91,92,95,97,98,100,101,102,104,105,107,108,109,111,112,114,115,116,119,120,121,124,125,126,128,129,131,132,133,135,136,138,139,147,149,150,152,153,154,156,157,159,160,161,162,164,165,167,168,169,171,172,174,175,176,178,179,181,182,183,185,186,188,189,190,191,192,193,194,197,199,200,202,203,204,206,207,209,210,211,213,214,216,217,225,227,228,230,231,232,234,235,237,238,239,241,242,244,245,246,248,249,251,252,253,255,256,258,259,260,262,263,265,266,267,269,270,272,273,274,277,278,279,281,282,284,285,286,287,289,290,292,293,294,295,296,297,298,308,310,311,313,314,315,317,318,320,321,322,324,325,327,328,329,330,332,333,335,336,337,339,340,342,343,344,345,347,348,350,351,352,354,355,357,358,359,361,362,364,365,366,368,369,371,372,373,376,377,378,380,381,383,384,385,387,388,390,391,392,394,395,397,398,399,401,402,404,405,406,407,408,409,410,413,416,417,425,427,428,430,431,432,434,435,437,438,439,441,442,444,445,446,448,449,451,452,453,455,456,458,459,460,462,463,465,466,467,470,471,472,474,475,477,478,479,480,482,483,485,486,487,488,490,491,493,494,495,497,498,500,501,502,504,505,507,508,509,510,511,512,513,516,518,519,521,522,523,525,526,528,529,530,532,533,535,536,537,540,541,542,544,545,547,548,549,551,552,554,555,556,558,559,561,562,563,566,567,568,570,571,573,574,575,578,579,580,583,584,585,587,588,590,591,592,594,595,597,598,599,601,602,604,605,606,608,609,611,612,613,616,617]
theorem My.left_gen {p:Program}{N:Nat}{β:Type}(w:World){F:Shared->β}{v:β}(hb:(fencedOpening treeTable p w N).map (λs=>(s.heap,s.gens,s.drawn,s.toks))=some (boot_heap w.params,Array.mk [],boot_drawn,boot_toks)) (hi:((boot_heap w.params).isNs mainGlobals&&(Array.mk []:Array GenState).size==0)=true)
  (hs:∀ os,(topRun treeTable p w (boot_heap w.params).objs.size ((boot_heap w.params).nsMap mainGlobals "__annotations__") N ⟨boot_heap w.params,Array.mk [],boot_drawn,boot_toks,os⟩ (topStub p)).map (λs=>staticsOk (importedModules p.main.body) (boot_heap w.params) s.heap&&namesBound p s.heap&&gensDone s&&laidKept (boot_heap w.params) s.heap)=some true)
  (hv:∀ os,(topRun treeTable p w (boot_heap w.params).objs.size ((boot_heap w.params).nsMap mainGlobals "__annotations__") N ⟨boot_heap w.params,Array.mk [],boot_drawn,boot_toks,os⟩ (topStub p)).map F=some v):(openEnds treeTable p w N).map F=some v:=by
 obtain ⟨⟨hh,gs,d,k,os⟩,e1,e2⟩:=Option.map_eq_some_iff.mp hb
 obtain ⟨rfl,rfl,rfl,rfl⟩:hh=boot_heap w.params/\gs=Array.mk []/\d=boot_drawn/\k=boot_toks:=by simpa only [Prod.mk.injEq] using e2
 have a:=hs os
 have b:=hv os
 unfold openEnds
 rw [e1]
 show (topFrom treeTable p w N ⟨boot_heap w.params,Array.mk [],boot_drawn,boot_toks,os⟩).map F=some v
 unfold topFrom
 dsimp only
 rw [hi]
 dsimp only
 cases hx:topRun treeTable p w (boot_heap w.params).objs.size ((boot_heap w.params).nsMap mainGlobals "__annotations__") N ⟨boot_heap w.params,Array.mk [],boot_drawn,boot_toks,os⟩ (topStub p) with
 |none=>rw [hx] at b;cases b
 |some s1 =>
  rw [hx] at a b
  have a':=Option.some.inj a
  dsimp only at a'
  show Option.map F (match _ with|true=>some s1|false=>none)=some v
  rw [a']
  exact b
noncomputable abbrev My.X (w:World) (os:OsState):Option Shared:=topRun treeTable PySem.Challenge.pw_aheadword_k64_whole_fading_in_steps w (boot_heap w.params).objs.size ((boot_heap w.params).nsMap mainGlobals "__annotations__") 8692 ⟨boot_heap w.params,Array.mk [],boot_drawn,boot_toks,os⟩ (topStub PySem.Challenge.pw_aheadword_k64_whole_fading_in_steps)
theorem My.fst_snd {S A B:Type}{x:Option S}(F:S->A×B) (v:A×B) (h1:x.map (λs=>(F s).1)=some v.1) (h2:x.map (λs=>(F s).2)=some v.2):x.map F=some v:=by
 cases x with
 |none=>cases h1
 |some s=>exact congrArg some (Prod.ext (Option.some.inj h1) (Option.some.inj h2))
theorem My.and_map {S A B:Type}{x:Option S}{f:S->A}{g:S->B}{a:A}{b:B}(h:x.map (λs=>(f s,g s))=some (a,b)):x.map f=some a/\x.map g=some b:=by
 cases x with
 |none=>cases h
 |some s=>exact ⟨congrArg (λy=>some (Prod.fst y)) (Option.some.inj h),congrArg (λy=>some (Prod.snd y)) (Option.some.inj h)⟩
theorem My.blt {x:Option Shared}{h:Heap}(e:x.map (λs=>s.heap.get? builtinsNs)=some (h.get? builtinsNs)) (b:h.bltView=bltViewBooted):x.map (λs=>s.heap.bltView)=some bltViewBooted:=by
 cases x with
 |none=>cases e
 |some s =>
  have q:s.heap.get? builtinsNs=h.get? builtinsNs:=Option.some.inj e
  rw [<- b]
  refine congrArg some ?_
  show s.heap.bltView=h.bltView
  unfold Heap.bltView Heap.nsPairs
  rw [q]
theorem My.cut_map {α β:Type}{x:Option Shared}{f:Shared->α->β}{l:List α}{r:List β}(n:Nat) (h1:x.map (λs=>(l.take n).map (f s))=some (r.take n)) (h2:x.map (λs=>(l.drop n).map (f s))=some (r.drop n)):x.map (λs=>l.map (f s))=some r:=by
 cases x with
 |none=>cases h1
 |some s =>
  have a:=Option.some.inj h1
  have b:=Option.some.inj h2
  refine congrArg some ?_
  show l.map (f s)=r
  rw [<- List.take_append_drop n l,<- List.take_append_drop n r,List.map_append]
  exact congr (congrArg (·++·) a) b
set_option maxRecDepth 100000 in
set_option maxHeartbeats 0 in
theorem My.e1 (w:World) (os:OsState):(My.X w os).map (λs=>seen ((recsOf My.aF).map (·.name)) (ownsOf My.aF) [] { s with gens:=#[] })=some (expectedOf My.aF):=by delta My.X;rw [Fast.te14082659384304107361,Fast.te14364793385576792824];kernel_rfl
set_option maxRecDepth 100000 in
set_option maxHeartbeats 0 in
theorem My.e2 (w:World) (os:OsState):(My.X w os).map (λs=>s.heap.keysOk (looseW My.aF []) ((recsOf My.aF).map (·.name)) ((litsOf My.aF).map (·.1)) ((clssOf My.aF (looseW My.aF [])).map (·.name))&&s.heap.accountedOkI (importedModules PySem.Challenge.pw_aheadword_k64_whole_fading_in_steps.main.body)&&s.heap.isNs mainGlobals&&s.heap.isNs builtinsNs&&tablesOk My.aF s.heap&&(xlAt My.aF [] s&&recOk [] s)&&(if true then s.gens.size==0 else !leftWithCleanup s.gens))=some (true):=by delta My.X;rw [Fast.te14082659384304107361,Fast.te14364793385576792824];kernel_rfl
set_option maxRecDepth 100000 in
set_option maxHeartbeats 0 in
theorem My.e3 (w:World) (os:OsState):(My.X w os).map (λs=>tabsOk My.aF s)=some (true):=by delta My.X;rw [Fast.te14082659384304107361,Fast.te14364793385576792824];kernel_rfl
set_option maxRecDepth 100000 in
set_option maxHeartbeats 0 in
theorem My.e6 (w:World) (os:OsState):(My.X w os).map (λs=>plainSeenD My.aF [] s)=some (plainGoodD My.aF []):=by delta My.X;rw [Fast.te14082659384304107361,Fast.te14364793385576792824];kernel_rfl
set_option maxRecDepth 100000 in
set_option maxHeartbeats 0 in
theorem My.c2 (w:World) (os:OsState):(My.X w os).map (λs=>(plainSeenE My.aF (looseW My.aF []) s,wideSeen My.aF s))=some ((plainGoodE My.aF (looseW My.aF []),wideGood My.aF)):=by delta My.X;rw [Fast.te14082659384304107361,Fast.te14364793385576792824];kernel_rfl
set_option maxRecDepth 100000 in
set_option maxHeartbeats 0 in
theorem My.c1 (w:World) (os:OsState):(My.X w os).map (λs=>(staticsOk (importedModules PySem.Challenge.pw_aheadword_k64_whole_fading_in_steps.main.body) (boot_heap w.params) s.heap&&namesBound PySem.Challenge.pw_aheadword_k64_whole_fading_in_steps s.heap&&gensDone s&&laidKept (boot_heap w.params) s.heap,s.heap.get? builtinsNs,pinSeenD My.aF (drecsOf My.aF) s,clsSeenW My.aF [] s))=some ((true,(boot_heap w.params).get? builtinsNs,pinGoodD (drecsOf My.aF),clsGoodW My.aF [])):=by delta My.X;rw [Fast.te14082659384304107361,Fast.te14364793385576792824];kernel_rfl
theorem My.leftS (w:World) (os:OsState):(My.X w os).map (λs=>staticsOk (importedModules PySem.Challenge.pw_aheadword_k64_whole_fading_in_steps.main.body) (boot_heap w.params) s.heap&&namesBound PySem.Challenge.pw_aheadword_k64_whole_fading_in_steps s.heap&&gensDone s&&laidKept (boot_heap w.params) s.heap)=some true:=(My.and_map (My.c1 w os)).1
set_option maxRecDepth 100000 in
set_option maxHeartbeats 0 in
theorem My.booted (w:World):(boot_heap w.params).bltView=bltViewBooted:=by kernel_rfl
theorem My.left_boot {β:Type}(w:World){F:Shared->β}{v:β}(hv:∀ os,(My.X w os).map F=some v):(openEnds treeTable PySem.Challenge.pw_aheadword_k64_whole_fading_in_steps w 8692).map F=some v :=
 My.left_gen w (boot_open (p:=PySem.Challenge.pw_aheadword_k64_whole_fading_in_steps) (N:=8692) (by kernel_rfl) (by kernel_rfl) (λs=>by kernel_rfl) w) (by kernel_rfl) (My.leftS w) hv
theorem My.left1 (w:World) (os:OsState):(My.X w os).map (λs=>(openSeen My.aF [] (importedModules PySem.Challenge.pw_aheadword_k64_whole_fading_in_steps.main.body) (λs=>xlAt My.aF [] s&&recOk [] s) true s))=some (openGood My.aF []):=(My.fst_snd (λs=>(openSeen My.aF [] (importedModules PySem.Challenge.pw_aheadword_k64_whole_fading_in_steps.main.body) (λs=>xlAt My.aF [] s&&recOk [] s) true s)) (openGood My.aF []) (My.e1 w os) (My.fst_snd (λs=>(openSeen My.aF [] (importedModules PySem.Challenge.pw_aheadword_k64_whole_fading_in_steps.main.body) (λs=>xlAt My.aF [] s&&recOk [] s) true s).2) (openGood My.aF []).2 (My.blt (My.and_map (My.and_map (My.c1 w os)).2).1 (My.booted w)) (My.fst_snd (λs=>(openSeen My.aF [] (importedModules PySem.Challenge.pw_aheadword_k64_whole_fading_in_steps.main.body) (λs=>xlAt My.aF [] s&&recOk [] s) true s).2.2) (openGood My.aF []).2.2 (My.e2 w os) (My.fst_snd (λs=>(openSeen My.aF [] (importedModules PySem.Challenge.pw_aheadword_k64_whole_fading_in_steps.main.body) (λs=>xlAt My.aF [] s&&recOk [] s) true s).2.2.2) (openGood My.aF []).2.2.2 (My.e3 w os) (My.fst_snd (λs=>(openSeen My.aF [] (importedModules PySem.Challenge.pw_aheadword_k64_whole_fading_in_steps.main.body) (λs=>xlAt My.aF [] s&&recOk [] s) true s).2.2.2.2) (openGood My.aF []).2.2.2.2 ((My.and_map (My.and_map (My.and_map (My.c1 w os)).2).2).1) (My.fst_snd (λs=>(openSeen My.aF [] (importedModules PySem.Challenge.pw_aheadword_k64_whole_fading_in_steps.main.body) (λs=>xlAt My.aF [] s&&recOk [] s) true s).2.2.2.2.2) (openGood My.aF []).2.2.2.2.2 ((My.and_map (My.c2 w os)).1) (My.fst_snd (λs=>(openSeen My.aF [] (importedModules PySem.Challenge.pw_aheadword_k64_whole_fading_in_steps.main.body) (λs=>xlAt My.aF [] s&&recOk [] s) true s).2.2.2.2.2.2) (openGood My.aF []).2.2.2.2.2.2 (My.e6 w os) (My.fst_snd (λs=>(openSeen My.aF [] (importedModules PySem.Challenge.pw_aheadword_k64_whole_fading_in_steps.main.body) (λs=>xlAt My.aF [] s&&recOk [] s) true s).2.2.2.2.2.2.2) (openGood My.aF []).2.2.2.2.2.2.2 ((My.and_map (My.c2 w os)).2) ((My.and_map (My.and_map (My.and_map (My.c1 w os)).2).2).2)))))))))
theorem My.left (w:World):(openEnds treeTable PySem.Challenge.pw_aheadword_k64_whole_fading_in_steps w 8692).map (λs=>(openSeen My.aF [] (importedModules PySem.Challenge.pw_aheadword_k64_whole_fading_in_steps.main.body) (λs=>xlAt My.aF [] s&&recOk [] s) true s))=some (openGood My.aF []):=My.left_boot w λos=>My.left1 w os
set_option maxRecDepth 100000 in
set_option maxHeartbeats 0 in
theorem My.obsA (w:World) (os:OsState):(My.X w os).map (λs=>(My.as.take 270).map s.heap.get?)=some (((My.pre.heap_39 w.params).map λp=>some p.2).take 270):=by delta My.X;rw [Fast.te14082659384304107361,Fast.te14364793385576792824];kernel_rfl
set_option maxRecDepth 100000 in
set_option maxHeartbeats 0 in
theorem My.obsB (w:World) (os:OsState):(My.X w os).map (λs=>(My.as.drop 270).map s.heap.get?)=some (((My.pre.heap_39 w.params).map λp=>some p.2).drop 270):=by delta My.X;rw [Fast.te14082659384304107361,Fast.te14364793385576792824];kernel_rfl
theorem My.obs (w:World) (os:OsState):(My.X w os).map (λs=>My.as.map s.heap.get?)=some ((My.pre.heap_39 w.params).map λp=>some p.2):=My.cut_map (f:=λs=>s.heap.get?) 270 (My.obsA w os) (My.obsB w os)
set_option maxRecDepth 100000 in
set_option maxHeartbeats 0 in
theorem My.headL (main:∀ (q:Program) (loose:List Str) (XP:(Str->Option Value)->Heap->Prop) (YP:World->Heap->Prop) (d:DefRec) (K:Params->W.Frag),PySem.Challenge.rw_aheadword_k64_whole_fading_in_steps.most=some 63->d.params.defaults=[]->d.name="law"->(∀ (w:World) (h:Heap),YP w h->(K w.params).In h)->(∀ w:World,My.Fx (K w.params))->W.WalkO q loose XP YP PySem.Challenge.rw_aheadword_k64_whole_fading_in_steps.row.toRowW d [] (λf vs=>PySem.call f vs)):PySem.Challenge.rw_aheadword_k64_whole_fading_in_steps.Holds:=by
 w_on;o_law;o_head (kHook My.pre.heap_39 My.as (λ_=>by kernel_rfl));(case hl=>intro w;exact My.xD (My.left w) (My.left_boot w λos=>My.obs w os));(case hw=>w_witness2)
 k_fill
 refine main _ _ _ _ _ _ rfl rfl rfl (λw h Y=>W.kIn_of Y) λw R hR=>?_
 refine' hR ?aC_Wood ?awi ?iwi ?lwi ?cwi ?kwi ?awm ?iwm ?lwm ?cwm ?kwm ?awq ?iwq ?lwq ?cwq ?kwq ?awu ?iwu ?lwu ?cwu ?kwu ?ldwu ?awz ?iwz ?lwz ?cwz ?kwz ?awf ?iwf ?lwf ?cwf ?kwf ?ldwf ?awh ?iwh ?lwh ?cwh ?kwh ?awb ?iwb ?lwb ?cwb ?kwb ?awv ?iwv ?lwv ?cwv ?kwv ?pg_Wood ?hd_Wood ?po_Wood ?sa_Wood ?mk_Wood ?kc_Wood ?n_Wood_marks ?n_Wood_now ?aC_Layers ?ayi ?iyi ?lyi ?cyi ?kyi ?ayq ?iyq ?lyq ?cyq ?kyq ?ayz ?iyz ?lyz ?cyz ?kyz ?ayh ?iyh ?lyh ?cyh ?kyh ?ays ?iys ?lys ?cys ?kys ?aya ?iya ?lya ?cya ?kya ?aye ?iye ?lye ?cye ?kye ?ayu ?iyu ?lyu ?cyu ?kyu ?ldyu ?ayf ?iyf ?lyf ?cyf ?kyf ?ldyf ?ayo ?iyo ?lyo ?cyo ?kyo ?ayd ?iyd ?lyd ?cyd ?kyd ?pg_Layers ?hd_Layers ?po_Layers ?sa_Layers ?mk_Layers ?kc_Layers ?n_Layers_house ?n_Layers_own ?n_Layers_veiled ?aC_Pairs ?api ?ipi ?lpi ?cpi ?kpi ?apc ?ipc ?lpc ?cpc ?kpc ?apf ?ipf ?lpf ?cpf ?kpf ?ldpf ?apw ?ipw ?lpw ?cpw ?kpw ?pg_Pairs ?hd_Pairs ?po_Pairs ?sa_Pairs ?mk_Pairs ?kc_Pairs ?n_Pairs_marks ?n_Pairs_now ?aC_Typist ?aui ?iui ?lui ?cui ?kui ?auk ?iuk ?luk ?cuk ?kuk ?aub ?iub ?lub ?cub ?kub ?auc ?iuc ?luc ?cuc ?kuc ?aud ?iud ?lud ?cud ?kud ?aul ?iul ?lul ?cul ?kul ?auh ?iuh ?luh ?cuh ?kuh ?aut ?iut ?lut ?cut ?kut ?auz ?iuz ?luz ?cuz ?kuz ?auf ?iuf ?luf ?cuf ?kuf ?lduf ?pg_Typist ?hd_Typist ?po_Typist ?sa_Typist ?mk_Typist ?kc_Typist ?n_Typist_layers ?n_Typist_many ?n_Typist_pairs ?n_Typist_text ?n_Typist_chosen ?aC_NoWord ?aC_Twice ?aC_Absent ?aC_NoSign ?aC_NoChoice ?ar ?lr ?cr ?kr ?ab ?lb ?cb ?kb ?a1 ?l1 ?c1 ?k1 ?a2 ?l2 ?c2 ?k2 ?a3 ?l3 ?c3 ?k3 ?a4 ?l4 ?c4 ?k4 ?a5 ?l5 ?c5 ?k5 ?ark ?lrk ?crk ?krk ?aig ?lig ?cig ?kig ?atk ?ltk ?ctk ?ktk ?awo ?lwo ?cwo ?kwo ?aca ?lca ?cca ?kca ?abx ?lbx ?cbx ?kbx ?ata ?lta ?cta ?kta ?awd ?lwd ?cwd ?kwd ?apo ?lpo ?cpo ?kpo ?aco ?lco ?cco ?kco ?ati ?lti ?cti ?kti ?asa ?lsa ?csa ?ksa ?atx ?ltx ?ctx ?ktx ?ake ?lke ?cke ?kke ?ade ?lde ?cde ?kde ?acl ?lcl ?ccl ?kcl ?atr ?ltr ?ctr ?ktr ?ast ?lst ?cst ?kst ?aal ?lal ?cal ?kal ?alw ?llw ?clw ?klw ?z_len ?z_range ?z_all ?z_max ?z_min ?z_sorted ?z_isinstance ?z_bool ?z_int ?z_str ?z_list ?z_tuple ?t_ss ?t_ii ?t_ib ?t_tt ?t_ll ?t_lt ?t_st ?t_it ?t_sl ?t_il ?t_bb ?t_is ?t_nt ?t_nl ?t_bt ?t_bl ?t_bs ?q_MOST_SIGNS ?q_MOST_PARTS ?q_MOST_LETTERS ?oxNoWord ?okNoWord ?oxTwice ?okTwice ?oxAbsent ?okAbsent ?oxNoSign ?okNoSign ?oxNoChoice ?okNoChoice ?oeNoWordNoWord ?oeNoWordTwice ?oeNoWordAbsent ?oeNoWordNoSign ?oeNoWordNoChoice ?oeTwiceNoWord ?oeTwiceTwice ?oeTwiceAbsent ?oeTwiceNoSign ?oeTwiceNoChoice ?oeAbsentNoWord ?oeAbsentTwice ?oeAbsentAbsent ?oeAbsentNoSign ?oeAbsentNoChoice ?oeNoSignNoWord ?oeNoSignTwice ?oeNoSignAbsent ?oeNoSignNoSign ?oeNoSignNoChoice ?oeNoChoiceNoWord ?oeNoChoiceTwice ?oeNoChoiceAbsent ?oeNoChoiceNoSign ?oeNoChoiceNoChoice
 (case aC_Wood=>k_is);(case awi=>k_is);(case iwi=>k_is);(case lwi=>k_is);(case cwi=>k_is);(case kwi=>k_is);(case awm=>k_is);(case iwm=>k_is);(case lwm=>k_is);(case cwm=>k_is);(case kwm=>k_is);(case awq=>k_is);(case iwq=>k_is);(case lwq=>k_is);(case cwq=>k_is);(case kwq=>k_is);(case awu=>k_is);(case iwu=>k_is);(case lwu=>k_is);(case cwu=>k_is);(case kwu=>k_is);(case ldwu=>k_is);(case awz=>k_is);(case iwz=>k_is);(case lwz=>k_is);(case cwz=>k_is);(case kwz=>k_is);(case awf=>k_is);(case iwf=>k_is);(case lwf=>k_is);(case cwf=>k_is);(case kwf=>k_is);(case ldwf=>k_is);(case awh=>k_is);(case iwh=>k_is);(case lwh=>k_is);(case cwh=>k_is);(case kwh=>k_is);(case awb=>k_is);(case iwb=>k_is);(case lwb=>k_is);(case cwb=>k_is);(case kwb=>k_is);(case awv=>k_is);(case iwv=>k_is);(case lwv=>k_is);(case cwv=>k_is);(case kwv=>k_is);(case pg_Wood=>k_is);(case hd_Wood=>k_is);(case po_Wood=>k_is);(case sa_Wood=>k_is);(case mk_Wood=>k_is);(case kc_Wood=>k_is);(case n_Wood_marks=>k_is);(case n_Wood_now=>k_is);(case aC_Layers=>k_is);(case ayi=>k_is);(case iyi=>k_is);(case lyi=>k_is);(case cyi=>k_is);(case kyi=>k_is);(case ayq=>k_is);(case iyq=>k_is);(case lyq=>k_is);(case cyq=>k_is);(case kyq=>k_is);(case ayz=>k_is);(case iyz=>k_is);(case lyz=>k_is);(case cyz=>k_is);(case kyz=>k_is);(case ayh=>k_is);(case iyh=>k_is);(case lyh=>k_is);(case cyh=>k_is);(case kyh=>k_is);(case ays=>k_is);(case iys=>k_is);(case lys=>k_is);(case cys=>k_is);(case kys=>k_is);(case aya=>k_is);(case iya=>k_is);(case lya=>k_is);(case cya=>k_is);(case kya=>k_is);(case aye=>k_is);(case iye=>k_is);(case lye=>k_is);(case cye=>k_is);(case kye=>k_is);(case ayu=>k_is);(case iyu=>k_is);(case lyu=>k_is);(case cyu=>k_is);(case kyu=>k_is);(case ldyu=>k_is);(case ayf=>k_is);(case iyf=>k_is);(case lyf=>k_is);(case cyf=>k_is);(case kyf=>k_is);(case ldyf=>k_is);(case ayo=>k_is);(case iyo=>k_is);(case lyo=>k_is);(case cyo=>k_is);(case kyo=>k_is);(case ayd=>k_is);(case iyd=>k_is);(case lyd=>k_is);(case cyd=>k_is);(case kyd=>k_is);(case pg_Layers=>k_is);(case hd_Layers=>k_is);(case po_Layers=>k_is);(case sa_Layers=>k_is);(case mk_Layers=>k_is);(case kc_Layers=>k_is);(case n_Layers_house=>k_is);(case n_Layers_own=>k_is);(case n_Layers_veiled=>k_is);(case aC_Pairs=>k_is);(case api=>k_is);(case ipi=>k_is);(case lpi=>k_is);(case cpi=>k_is);(case kpi=>k_is);(case apc=>k_is);(case ipc=>k_is);(case lpc=>k_is);(case cpc=>k_is);(case kpc=>k_is);(case apf=>k_is);(case ipf=>k_is);(case lpf=>k_is);(case cpf=>k_is);(case kpf=>k_is);(case ldpf=>k_is);(case apw=>k_is);(case ipw=>k_is);(case lpw=>k_is);(case cpw=>k_is);(case kpw=>k_is);(case pg_Pairs=>k_is);(case hd_Pairs=>k_is);(case po_Pairs=>k_is);(case sa_Pairs=>k_is);(case mk_Pairs=>k_is);(case kc_Pairs=>k_is);(case n_Pairs_marks=>k_is);(case n_Pairs_now=>k_is);(case aC_Typist=>k_is);(case aui=>k_is);(case iui=>k_is);(case lui=>k_is);(case cui=>k_is);(case kui=>k_is);(case auk=>k_is);(case iuk=>k_is);(case luk=>k_is);(case cuk=>k_is);(case kuk=>k_is);(case aub=>k_is);(case iub=>k_is);(case lub=>k_is);(case cub=>k_is);(case kub=>k_is);(case auc=>k_is);(case iuc=>k_is);(case luc=>k_is);(case cuc=>k_is);(case kuc=>k_is);(case aud=>k_is);(case iud=>k_is);(case lud=>k_is);(case cud=>k_is);(case kud=>k_is);(case aul=>k_is);(case iul=>k_is);(case lul=>k_is);(case cul=>k_is);(case kul=>k_is);(case auh=>k_is);(case iuh=>k_is);(case luh=>k_is);(case cuh=>k_is);(case kuh=>k_is);(case aut=>k_is);(case iut=>k_is);(case lut=>k_is);(case cut=>k_is);(case kut=>k_is);(case auz=>k_is);(case iuz=>k_is);(case luz=>k_is);(case cuz=>k_is);(case kuz=>k_is);(case auf=>k_is);(case iuf=>k_is);(case luf=>k_is);(case cuf=>k_is);(case kuf=>k_is);(case lduf=>k_is);(case pg_Typist=>k_is);(case hd_Typist=>k_is);(case po_Typist=>k_is);(case sa_Typist=>k_is);(case mk_Typist=>k_is);(case kc_Typist=>k_is);(case n_Typist_layers=>k_is);(case n_Typist_many=>k_is);(case n_Typist_pairs=>k_is);(case n_Typist_text=>k_is);(case n_Typist_chosen=>k_is);(case aC_NoWord=>k_is);(case aC_Twice=>k_is);(case aC_Absent=>k_is);(case aC_NoSign=>k_is);(case aC_NoChoice=>k_is);(case ar=>k_is);(case lr=>k_is);(case cr=>k_is);(case kr=>k_is);(case ab=>k_is);(case lb=>k_is);(case cb=>k_is);(case kb=>k_is);(case a1=>k_is);(case l1=>k_is);(case c1=>k_is);(case k1=>k_is);(case a2=>k_is);(case l2=>k_is);(case c2=>k_is);(case k2=>k_is);(case a3=>k_is);(case l3=>k_is);(case c3=>k_is);(case k3=>k_is);(case a4=>k_is);(case l4=>k_is);(case c4=>k_is);(case k4=>k_is);(case a5=>k_is);(case l5=>k_is);(case c5=>k_is);(case k5=>k_is);(case ark=>k_is);(case lrk=>k_is);(case crk=>k_is);(case krk=>k_is);(case aig=>k_is);(case lig=>k_is);(case cig=>k_is);(case kig=>k_is);(case atk=>k_is);(case ltk=>k_is);(case ctk=>k_is);(case ktk=>k_is);(case awo=>k_is);(case lwo=>k_is);(case cwo=>k_is);(case kwo=>k_is);(case aca=>k_is);(case lca=>k_is);(case cca=>k_is);(case kca=>k_is);(case abx=>k_is);(case lbx=>k_is);(case cbx=>k_is);(case kbx=>k_is);(case ata=>k_is);(case lta=>k_is);(case cta=>k_is);(case kta=>k_is);(case awd=>k_is);(case lwd=>k_is);(case cwd=>k_is);(case kwd=>k_is);(case apo=>k_is);(case lpo=>k_is);(case cpo=>k_is);(case kpo=>k_is);(case aco=>k_is);(case lco=>k_is);(case cco=>k_is);(case kco=>k_is);(case ati=>k_is);(case lti=>k_is);(case cti=>k_is);(case kti=>k_is);(case asa=>k_is);(case lsa=>k_is);(case csa=>k_is);(case ksa=>k_is);(case atx=>k_is);(case ltx=>k_is);(case ctx=>k_is);(case ktx=>k_is);(case ake=>k_is);(case lke=>k_is);(case cke=>k_is);(case kke=>k_is);(case ade=>k_is);(case lde=>k_is);(case cde=>k_is);(case kde=>k_is);(case acl=>k_is);(case lcl=>k_is);(case ccl=>k_is);(case kcl=>k_is);(case atr=>k_is);(case ltr=>k_is);(case ctr=>k_is);(case ktr=>k_is);(case ast=>k_is);(case lst=>k_is);(case cst=>k_is);(case kst=>k_is);(case aal=>k_is);(case lal=>k_is);(case cal=>k_is);(case kal=>k_is);(case alw=>k_is);(case llw=>k_is);(case clw=>k_is);(case klw=>k_is);(case z_len=>k_is);(case z_range=>k_is);(case z_all=>k_is);(case z_max=>k_is);(case z_min=>k_is);(case z_sorted=>k_is);(case z_isinstance=>k_is);(case z_bool=>k_is);(case z_int=>k_is);(case z_str=>k_is);(case z_list=>k_is);(case z_tuple=>k_is);(case t_ss=>kit_is);(case t_ii=>kit_is);(case t_ib=>kit_is);(case t_tt=>kit_is);(case t_ll=>kit_is);(case t_lt=>kit_is);(case t_st=>kit_is);(case t_it=>kit_is);(case t_sl=>kit_is);(case t_il=>kit_is);(case t_bb=>kit_is);(case t_is=>kit_is);(case t_nt=>kit_is);(case t_nl=>kit_is);(case t_bt=>kit_is);(case t_bl=>kit_is);(case t_bs=>kit_is);(case q_MOST_SIGNS=>k_is);(case q_MOST_PARTS=>k_is);(case q_MOST_LETTERS=>k_is);(case oxNoWord=>kernel_rfl);(case okNoWord=>kernel_rfl);(case oxTwice=>kernel_rfl);(case okTwice=>kernel_rfl);(case oxAbsent=>kernel_rfl);(case okAbsent=>kernel_rfl);(case oxNoSign=>kernel_rfl);(case okNoSign=>kernel_rfl);(case oxNoChoice=>kernel_rfl);(case okNoChoice=>kernel_rfl);(case oeNoWordNoWord=>kernel_rfl);(case oeNoWordTwice=>kernel_rfl);(case oeNoWordAbsent=>kernel_rfl);(case oeNoWordNoSign=>kernel_rfl);(case oeNoWordNoChoice=>kernel_rfl);(case oeTwiceNoWord=>kernel_rfl);(case oeTwiceTwice=>kernel_rfl);(case oeTwiceAbsent=>kernel_rfl);(case oeTwiceNoSign=>kernel_rfl);(case oeTwiceNoChoice=>kernel_rfl);(case oeAbsentNoWord=>kernel_rfl);(case oeAbsentTwice=>kernel_rfl);(case oeAbsentAbsent=>kernel_rfl);(case oeAbsentNoSign=>kernel_rfl);(case oeAbsentNoChoice=>kernel_rfl);(case oeNoSignNoWord=>kernel_rfl);(case oeNoSignTwice=>kernel_rfl);(case oeNoSignAbsent=>kernel_rfl);(case oeNoSignNoSign=>kernel_rfl);(case oeNoSignNoChoice=>kernel_rfl);(case oeNoChoiceNoWord=>kernel_rfl);(case oeNoChoiceTwice=>kernel_rfl);(case oeNoChoiceAbsent=>kernel_rfl);(case oeNoChoiceNoSign=>kernel_rfl);(case oeNoChoiceNoChoice=>kernel_rfl)
end
noncomputable section
set_option maxRecDepth 100000
namespace L2
open PySem PySem.Spec PyProof.Rows
abbrev Key:=Sum Int Str
def gQ:Key->Value->Bool
 |.inl k,v=>Value.isInt k v
 |.inr x,v=>Value.isStrOf x v
def Gm (w:World):Key->Int
 |.inl k=>hashInt k
 |.inr x=>hashStr w x
theorem cQ:∀ {k:Key}{v:Value},gQ k v=true->(∃ i t,k=Sum.inl i/\v=Value.int i t)\/(∃ x t,k=Sum.inr x/\v=Value.str x t)
 |.inl i,v,h=>by
  obtain ⟨t,e⟩:=Value.isInt_shape (k:=i) (v:=v) h
  exact .inl ⟨i,t,rfl,e⟩
 |.inr x,v,h=>by
  obtain ⟨t,e⟩:=Value.isStrOf_shape (x:=x) (v:=v) h
  exact .inr ⟨x,t,rfl,e⟩
theorem wD (i:Int) (t:Tok):gQ (.inl i) (.int i t)=true:=by simp [gQ,Value.isInt]
theorem wE (x:Str) (t:Tok):gQ (.inr x) (.str x t)=true:=by simp [gQ,Value.isStrOf]
theorem BC (a b:Int):decide ((Sum.inl a:Key)=Sum.inl b)=(a==b):=by
 by_cases e:a=b
 ·subst e;simp
 ·have h:¬ (Sum.inl a:Key)=Sum.inl b:=λq=>e (Sum.inl.inj q)
  rw [decide_eq_false h]
  exact (beq_eq_false_iff_ne.mpr e).symm
theorem BD (a b:Str):decide ((Sum.inr a:Key)=Sum.inr b)=decide (a=b):=by
 by_cases e:a=b
 ·subst e;simp
 ·have h:¬ (Sum.inr a:Key)=Sum.inr b:=λq=>e (Sum.inr.inj q)
  rw [decide_eq_false h,decide_eq_false e]
theorem BE (a:Int) (b:Str):decide ((Sum.inl a:Key)=Sum.inr b)=false:=decide_eq_false (λq=>nomatch q)
theorem BF (a:Str) (b:Int):decide ((Sum.inr a:Key)=Sum.inl b)=false:=decide_eq_false (λq=>nomatch q)
def a6 (prog:Program) (w:World):PySem.KeyKind prog w Key where
 is:=gQ
 hash:=Gm w
 inj:=λv a b ha hb=>by
  rcases cQ ha with ⟨i,t,rfl,rfl⟩|⟨x,t,rfl,rfl⟩
  ·rcases cQ hb with ⟨j,u,rfl,e⟩|⟨y,u,rfl,e⟩
   ·injection e with e1 _;rw [e1]
   ·exact nomatch e
  ·rcases cQ hb with ⟨j,u,rfl,e⟩|⟨y,u,rfl,e⟩
   ·exact nomatch e
   ·injection e with e1 _;rw [e1]
 byValue:=λk v h=>by
  rcases cQ h with ⟨i,t,rfl,rfl⟩|⟨x,t,rfl,rfl⟩<;>rfl
 pyHash:=λhv h=>by
  rcases cQ hv with ⟨i,t,rfl,rfl⟩|⟨x,t,rfl,rfl⟩
  ·exact wpAny_pyHash_int h
  ·exact wpAny_pyHash_str h
 eqBool:=λhu hv h=>by
  rcases cQ hu with ⟨i,t,rfl,rfl⟩|⟨x,t,rfl,rfl⟩
  ·rcases cQ hv with ⟨j,u,rfl,rfl⟩|⟨y,u,rfl,rfl⟩
   ·rw [BC] at h;exact wpAny_eqBool_int h
   ·rw [BE] at h;exact SeqAt.EqAt.int_str i t y u _ _ _ _ h
  ·rcases cQ hv with ⟨j,u,rfl,rfl⟩|⟨y,u,rfl,rfl⟩
   ·rw [BF] at h;exact SeqAt.EqAt.str_int x t j u _ _ _ _ h
   ·rw [BD] at h;exact wpAny_eqBool_str h
 «strs»:=λk x t v h=>by
  rcases cQ h with ⟨i,u,rfl,e⟩|⟨y,u,rfl,e⟩
  ·exact nomatch e
  ·injection e with e1 _
   subst e1
   cases v<;>rfl
theorem vP (prog:Program) (w:World) (i:Int) (t:Tok):(a6 prog w).is (.inl i) (.int i t)=true:=wD i t
theorem vQ (prog:Program) (w:World) (x:Str) (t:Tok):(a6 prog w).is (.inr x) (.str x t)=true:=wE x t
inductive V where
 |non|bl (b:Bool)|int (i:Int)|str (x:Str)|byt (b:Array UInt8)|flt (b:UInt64)|ref (a:Addr)|ty (n:String)
 deriving DecidableEq
def av:V->Value->Prop
 |.non,u=>u=Value.none
 |.bl b,u=>u=Value.bool b
 |.int i,u=>∃ t,u=Value.int i t
 |.str x,u=>∃ t,u=Value.str x t
 |.byt b,u=>∃ t,u=Value.bytes b t
 |.flt b,u=>∃ t,u=Value.float b t
 |.ref a,u=>u=Value.ref a
 |.ty n,u=>u=Value.type n
abbrev ap:List V->List Value->Prop:=Paired av
theorem ap.length {xs:List V}{us:List Value}(r:ap xs us):xs.length=us.length:=Paired.length r
theorem ap.get:∀ {xs:List V}{us:List Value}{i:Nat}{x:V},ap xs us->xs[i]?=some x->∃ u,us[i]?=some u/\av x u
 |_,_,_,_,.nil,e=>by simp at e
 |_,_,0,_,.cons r _,e=>by simp at e;subst e;exact ⟨_,rfl,r⟩
 |_,_,i+1,x,.cons _ t,e=>by
  obtain ⟨u,h1,h2⟩:=ap.get (i:=i) (x:=x) t (by simpa using e)
  exact ⟨u,by simpa using h1,h2⟩
theorem ap.set {x:V}{u:Value}(r:av x u):∀ {xs:List V}{us:List Value}(i:Nat),ap xs us->ap (xs.set i x) (us.set i u)
 |_,_,_,.nil=>.nil
 |_,_,0,.cons _ t=>.cons r t
 |_,_,i+1,.cons q t=>.cons q (ap.set r i t)
theorem ap.append:∀ {xs ys:List V}{us ws:List Value},ap xs us->ap ys ws->ap (xs++ys) (us++ws)
 |_,_,_,_,.nil,s=>s
 |_,_,_,_,.cons r t,s=>.cons r (ap.append t s)
theorem ap.take:∀ {xs:List V}{us:List Value}(n:Nat),ap xs us->ap (xs.take n) (us.take n)
 |_,_,0,_=>.nil
 |_,_,_+1,.nil=>.nil
 |_,_,n+1,.cons r t=>.cons r (ap.take n t)
theorem ap.drop:∀ {xs:List V}{us:List Value}(n:Nat),ap xs us->ap (xs.drop n) (us.drop n)
 |_,_,0,r=>r
 |_,_,_+1,.nil=>.nil
 |_,_,n+1,.cons _ t=>ap.drop n t
def bA:Option V->Option Value->Prop
 |some v,some u=>av v u
 |none,none=>True
 |_,_=>False
def KV {κ:Type}:List (κ×V)->List (κ×Value)->Prop:=Paired λ(p:κ×V) (q:κ×Value)=>p.1=q.1/\av p.2 q.2
def kV:Key->V
 |.inl i=>.int i
 |.inr x=>.str x
inductive HO where
  |lst (xs:List V)
  |tup (xs:List V)
  |dK (kvs:List (Key×V))|dT (kvs:List (List Key×V))
  |set (S:Int->Bool) (n:Nat)
  |ins (C dx:Addr) (fs:List (Str×V))
  |own (x:Addr)
  |xd (fs:List (Str×V))
  |met (f x:Addr)
  |rng (lo hi:Int)
  |frz (o:Obj) (u:HO)
  |tbl (ps:Array Value)
  |ext (φ:Heap->Prop)
abbrev Hp:=Addr->Option HO
def upd (H:Hp) (a:Addr) (o:HO):Hp:=λb=>if b=a then some o else H b
theorem aL {H:Hp}{a:Addr}{o:HO}:upd H a o a=some o:=by unfold upd;rw [if_pos rfl]
theorem aE {H:Hp}{a b:Addr}{o:HO}(h:b≠a):upd H a o b=H b:=by unfold upd;rw [if_neg h]
theorem gF {H:Hp}{a:Addr}{o u:HO}:upd (upd H a o) a u=upd H a u:=by
 funext b;unfold upd;split<;>rfl
theorem cZ {H:Hp}{a b:Addr}{o u:HO}(h:H a=some o) (h':H b=some u) (d:o≠u):a≠b:=by
 intro e;subst e;rw [h] at h';exact d (Option.some.inj h')
theorem bv {H:Hp}{a b:Addr}{o:HO}(h:H a=some o) (h':H b=none):a≠b:=by
 intro e;subst e;rw [h] at h';cases h'
section
variable (P:Program) (w:World)
def aT (H:Hp) (h:Heap) (a:Addr):HO->Prop
 |.lst xs=>xs.length<=sizeLine/\∃ (its:List Value) (n:Nat),ap xs its/\h.get? a=some { cls:=.type "list",data:=.seq its.toArray n }
 |.tup xs=>xs.length<=sizeLine/\∃ its:List Value,ap xs its/\IsTup h a its.toArray
 |.dK kvs=>kvs.length<=sizeLine/\(a==sysModules)=false/\∃ vs,KV kvs vs/\h.DictOf (a6 P w) a vs
 |.dT kvs=>kvs.length<=sizeLine/\(a==sysModules)=false/\∃ xs:List (List Key×Addr×Value),
   Paired (λ(p:List Key×V) (q:List Key×Addr×Value)=>p.1=q.1/\H q.2.1=some (.tup (p.1.map kV))/\av p.2 q.2.2) kvs xs /\
   ∃ o es ep,h.get? a=some o/\o.ExactDict/\o.data=.dict es ep/\es.toList=xs.map (entryOfKey (tupleKind (a6 P w)))/\(xs.map (·.1)).Nodup
 |.set S n=>h.SetOf (intKind P w) a S n
 |.ins C dx fs=>H dx=some (.own a)/\fs.length<=1000/\dx≠a/\h.get? a=some (PySem.W.instObj C dx) /\
   ∃ mA,h.Ns1 dx mA/\(∀ f,bA (fs.lookup f) (mA f))/\PySem.Within mA (fs.map (·.1))
 |.own _=>∃ o,h.get? a=some o
 |.xd fs=>∃ mA,h.Ns1 a mA/\∀ f,bA (fs.lookup f) (mA f)
 |.rng lo hi=>∃ t u v,h.get? a=some { cls:=.type "range",data:=.fields #[.int lo t,.int hi u,.int 1 v] }
 |.frz o u=>h.get? a=some o/\aT H h a u
 |.tbl ps=>h.get? a=some { cls:=.none,data:=.fields ps }
 |.met f x=>h.get? a=some (PySem.W.methodObj (.ref f) (.ref x))
 |.ext φ=>φ h/\(∃ o,h.get? a=some o)/\∀ h1 h2:Heap,φ h1->(∀ o,h1.get? a=some o->h2.get? a=some o)->φ h2
def HOk (H:Hp) (h:Heap):Prop:=∀ a o,H a=some o->aT P w H h a o
end
section
variable {P:Program}{w:World}{H H':Hp}{h h':Heap}{a:Addr}{o:HO}
theorem aT.lt (x:aT P w H h a o):a<h.objs.size:=by
 cases o with
 |lst xs=>obtain ⟨_,_,_,_,e⟩:=x;exact Heap.lt_size e
 |tup xs=>obtain ⟨_,_,_,p⟩:=x;exact p.lt
 |dK kvs=>obtain ⟨_,_,_,_,o,_,_,e,_⟩:=x;exact Heap.lt_size e
 |dT kvs=>obtain ⟨_,_,_,_,o,_,_,e,_⟩:=x;exact Heap.lt_size e
 |set S n=>obtain ⟨o,_,_,_,e,_⟩:=x;exact Heap.lt_size e
 |ins C dx fs=>obtain ⟨_,_,_,e,_⟩:=x;exact Heap.lt_size e
 |own y=>obtain ⟨_,e⟩:=x;exact Heap.lt_size e
 |xd fs=>obtain ⟨_,⟨_,_,_,e,_⟩,_⟩:=x;exact Heap.lt_size e
 |rng lo hi=>obtain ⟨_,_,_,e⟩:=x;exact Heap.lt_size e
 |frz ob u=>obtain ⟨e,_⟩:=x;exact Heap.lt_size e
 |tbl ps=>exact Heap.lt_size (show h.get? a=some _ from x)
 |met f y=>exact Heap.lt_size (show h.get? a=some _ from x)
 |ext φ=>obtain ⟨_,⟨_,e⟩,_⟩:=x;exact Heap.lt_size e
theorem Paired.mapP {α β:Type}{F G:α->β->Prop}:∀ {l₁:List α}{l₂:List β},Paired F l₁ l₂->(∀ a b,F a b->G a b)->Paired G l₁ l₂
 |_,_,.nil,_=>.nil
 |_,_,.cons r t,f=>.cons (f _ _ r) (Paired.mapP t f)
theorem aT.stay (x:aT P w H h a o) (k:∀ b u,(b=a\/H b=some (.own a))->h.get? b=some u->h'.get? b=some u)
  (ho:∀ b,H b=some (.own a)->H' b=some (.own a)) (ht:∀ b xs,H b=some (.tup xs)->H' b=some (.tup xs)):aT P w H' h' a o:=by
 induction o with
 |lst xs=>obtain ⟨z,its,n,r,e⟩:=x;exact ⟨z,its,n,r,k _ _ (.inl rfl) e⟩
 |tup xs=>obtain ⟨z,its,r,ob,e,c⟩:=x;exact ⟨z,its,r,ob,k _ _ (.inl rfl) e,c⟩
 |dK kvs=>obtain ⟨z,y,vs,r,ob,es,ep,e,c⟩:=x;exact ⟨z,y,vs,r,ob,es,ep,k _ _ (.inl rfl) e,c⟩
 |dT kvs =>
  obtain ⟨z,y,xs,r,ob,es,ep,e,c⟩:=x
  exact ⟨z,y,xs,Paired.mapP r λp q z=>⟨z.1,ht _ _ z.2.1,z.2.2⟩,ob,es,ep,k _ _ (.inl rfl) e,c⟩
 |set S n=>obtain ⟨ob,es,ep,t,e,c⟩:=x;exact ⟨ob,es,ep,t,k _ _ (.inl rfl) e,c⟩
 |ins C dx fs =>
  obtain ⟨d,z,ne,e,mA,⟨od,es,ep,e2,c⟩,r⟩:=x
  exact ⟨ho _ d,z,ne,k _ _ (.inl rfl) e,mA,⟨od,es,ep,k _ _ (.inr d) e2,c⟩,r⟩
 |own y=>obtain ⟨ob,e⟩:=x;exact ⟨ob,k _ _ (.inl rfl) e⟩
 |xd fs=>obtain ⟨mA,⟨od,es,ep,e,c⟩,r⟩:=x;exact ⟨mA,⟨od,es,ep,k _ _ (.inl rfl) e,c⟩,r⟩
 |rng lo hi=>obtain ⟨t,u,v,e⟩:=x;exact ⟨t,u,v,k _ _ (.inl rfl) e⟩
 |frz ob u ih=>obtain ⟨e,q⟩:=x;exact ⟨k _ _ (.inl rfl) e,ih q⟩
 |tbl ps =>
  have e:h.get? a=some { cls:=.none,data:=.fields ps }:=x
  show h'.get? a=some { cls:=.none,data:=.fields ps }
  exact k a _ (.inl rfl) e
 |met f y =>
  have e:h.get? a=some (PySem.W.methodObj (.ref f) (.ref y)):=x
  show h'.get? a=some (PySem.W.methodObj (.ref f) (.ref y))
  exact k a _ (.inl rfl) e
 |ext φ=>obtain ⟨p,⟨o,e⟩,st⟩:=x;exact ⟨st _ _ p λo q=>k _ _ (.inl rfl) q,⟨o,k _ _ (.inl rfl) e⟩,st⟩
theorem HOk.lt (x:HOk P w H h) (e:H a=some o):a<h.objs.size:=(x a o e).lt
theorem HOk.fresh (x:HOk P w H h) (e:h.objs.size<=a):H a=none:=by
 cases q:H a with
 |none=>rfl
 |some u=>exact absurd (Nat.lt_of_lt_of_le (x.lt q) e) (Nat.lt_irrefl _)
theorem HOk.kept (x:HOk P w H h) (k:∀ b u,h.get? b=some u->h'.get? b=some u):HOk P w H h':=λa o e =>
 (x a o e).stay (λb u _ q=>k b u q) (λ_ q=>q) λ_ _ q=>q
theorem HOk.laid (x:HOk P w H h) (k:∀ b u,h.get? b=some u->h'.get? b=some u) (hp:h.objs.size<=a) (new:aT P w (upd H a o) h' a o):HOk P w (upd H a o) h':=λb u e=>by
 have hn:=x.fresh hp
 by_cases hb:b=a
 ·subst hb;rw [aL] at e;cases e;exact new
 ·rw [aE hb] at e
  exact (x b u e).stay (λc v _ q=>k c v q) (λc q=>by rw [aE (bv q hn)];exact q) λc xs q=>by rw [aE (bv q hn)];exact q
end
def Rd (H:Hp) (a:Addr) (u:HO):Prop:=H a=some u\/∃ o,H a=some (.frz o u)
theorem Rd.ok {P:Program}{w:World}{H:Hp}{h:Heap}{a:Addr}{u:HO}(r:Rd H a u) (x:HOk P w H h):aT P w H h a u:=by
 rcases r with r|⟨o,r⟩
 ·exact x a u r
 ·obtain ⟨_,q⟩:=x a _ r
  exact q
def Mut:Option HO->Prop
 |some (.lst _)=>True
 |some (.dK _)=>True
 |some (.dT _)=>True
 |some (.set _ _)=>True
 |some (.ins _ _ _)=>True
 |some (.ext _)=>True
 |_=>False
section
variable {P:Program}{w:World}{H:Hp}{h h':Heap}{x e:Addr}{o':HO}
theorem HOk.write (ok:HOk P w H h) (mu:Mut (H x)) (he:e=x\/H e=some (.own x)) (k:∀ b u,b≠e->h.get? b=some u->h'.get? b=some u) (heo:∃ u,h'.get? e=some u)
  (new:aT P w (upd H x o') h' x o'):HOk P w (upd H x o') h':=λb u q=>by
 have nown:∀ c y,H c=some (.own y)->c≠x:=λc y r z=>by subst z;rw [r] at mu;exact mu
 have ntup:∀ c xs,H c=some (.tup xs)->c≠x:=λc xs r z=>by subst z;rw [r] at mu;exact mu
 by_cases hb:b=x
 ·subst hb;rw [aL] at q;cases q;exact new
 ·rw [aE hb] at q
  by_cases hbe:b=e
  ·have q':H b=some (.own x):=by
    rcases he with z|z
    ·exact absurd (hbe.trans z) hb
    ·rw [hbe];exact z
   rw [q] at q';cases q'
   obtain ⟨v,hv⟩:=heo
   exact ⟨v,by rw [hbe];exact hv⟩
  ·refine (ok b u q).stay (λc v hc r=>k c v ?_ r) (λc r=>by rw [aE (nown c b r)];exact r) λc xs r=>by rw [aE (ntup c xs r)];exact r
   rcases hc with rfl|hc
   ·exact hbe
   ·rintro rfl
    rcases he with z|z
    ·exact nown c b hc z
    ·rw [hc] at z;cases z;exact hb rfl
end
structure Un (fs ex:List Addr) (H H':Hp) (h h':Heap):Prop where
 keep:∀ b o,h.get? b=some o->H b=none->b∉fs->b∉ex->h'.get? b=some o
 slot:∀ b o,h.get? b=some o->H b=none->b∈fs->b∉ex->∃ sl,h'.get? b=some { o with slots:=sl }
 free:∀ b o,h.get? b=some o->H b=none->b∉ex->H' b=none
 there:∀ b o,h.get? b=some o->b∉ex->∃ o',h'.get? b=some o'
 tups:∀ b xs,H b=some (.tup xs)->H' b=some (.tup xs)
 frzs:∀ b o u,H b=some (.frz o u)->H' b=some (.frz o u)
 tbls:∀ b ps,H b=some (.tbl ps)->∃ more,H' b=some (.tbl (ps++more))
section
variable {fs fs' ex ex':List Addr}{H H1 H2:Hp}{h h1 h2 h':Heap}{a x e:Addr}{o:HO}
theorem Un.any (u:Un fs ex H H1 h h1){b:Addr}{ob:Obj}(q:h.get? b=some ob) (n:H b=none) (hx:b∉ex):∃ sl,h1.get? b=some { ob with slots:=sl }:=by
 by_cases hb:b∈fs
 ·exact u.slot b ob q n hb hx
 ·exact ⟨ob.slots,u.keep b ob q n hb hx⟩
theorem Un.kept (k:∀ b u,h.get? b=some u->h'.get? b=some u):Un fs ex H H h h' :=
 ⟨λb ob q _ _ _=>k b ob q,λb ob q _ _ _=>⟨ob.slots,k b ob q⟩,λ_ _ _ n _=>n,λb ob q _=>⟨ob,k b ob q⟩,λ_ _ q=>q,λ_ _ _ q=>q,λ_ ps q=>⟨#[],by rw [q];simp⟩⟩
theorem Un.refl:Un fs ex H H h h:=Un.kept λ_ _ q=>q
theorem Un.laid (k:∀ b u,h.get? b=some u->h'.get? b=some u) (hp:h.objs.size<=a) (hn:H a=none):Un fs ex H (upd H a o) h h' where
 keep:=λb u q _ _ _=>k b u q
 slot:=λb u q _ _ _=>⟨u.slots,k b u q⟩
 free:=λb u q n _=>by rw [aE (Nat.ne_of_lt (Nat.lt_of_lt_of_le (Heap.lt_size q) hp))];exact n
 there:=λb u q _=>⟨u,k b u q⟩
 tups:=λb xs q=>by rw [aE (bv q hn)];exact q
 frzs:=λb u xs q=>by rw [aE (bv q hn)];exact q
 tbls:=λb ps q=>⟨#[],by rw [aE (bv q hn),q];simp⟩
theorem Un.write (mu:Mut (H x)) (he:e=x\/H e=some (.own x)) (k:∀ b u,b≠e->h.get? b=some u->h'.get? b=some u) (heo:∃ u,h'.get? e=some u):Un fs ex H (upd H x o) h h':=by
 have hx:∀ b,H b=none->b≠x:=λb n z=>by subst z;rw [n] at mu;exact mu
 have hb:∀ b,H b=none->b≠e:=λb n z=>by
  subst z
  rcases he with r|r
  ·exact hx b n r
  ·rw [n] at r;cases r
 have hm:∀ b u,H b=some u->¬ Mut (some u)->b≠x:=λb u q nm z=>by subst z;rw [q] at mu;exact nm mu
 refine ⟨λb u q n _ _=>k b u (hb b n) q,λb u q n _ _=>⟨u.slots,k b u (hb b n) q⟩,λb u q n _=>by rw [aE (hx b n)];exact n,λb u q _=>?_,
  λb xs q=>by rw [aE (hm b _ q λz=>z)];exact q,λb u xs q=>by rw [aE (hm b _ q λz=>z)];exact q,λb ps q=>⟨#[],by rw [aE (hm b _ q λz=>z),q];simp⟩⟩
 by_cases hbe:b=e
 ·subst hbe;exact heo
 ·exact ⟨u,k b u hbe q⟩
end
def trk (h:Heap) (H:Hp):List Addr:=(List.range h.objs.size).filter λa=>(H a).isSome
def dX (h:Heap) (H:Hp):Heap:=PySem.W.hideAll h (trk h H)
theorem wF (h:Heap) (H:Hp):(dX h H).objs.size=h.objs.size:=PySem.W.hideAll_size _ _
theorem xE {h:Heap}{H:Hp}{b:Addr}{o:Obj}(e:h.get? b=some o) (n:H b=none):(dX h H).get? b=some o :=
 PySem.W.hideAll_get _ e λhm=>by
  have q:(H b).isSome=true:=(List.mem_filter.mp hm).2
  rw [n] at q;simp at q
theorem zl {h:Heap}{H:Hp}{b:Addr}{o:Obj}(e:(dX h H).get? b=some o):h.get? b=some o/\H b=none:=by
 have e':h.get? b=some o:=PySem.W.of_hideAll (trk h H) e
 refine ⟨e',?_⟩
 cases q:H b with
 |none=>rfl
 |some x =>
  have hm:b∈trk h H:=List.mem_filter.mpr ⟨List.mem_range.mpr (Heap.lt_size e'),by simp [q]⟩
  have z:(dX h H).get? b=none:=PySem.W.hideAll_none (trk h H) hm
  rw [z] at e;cases e
def zm (g h:Heap) (L:Addr):List (Addr×Obj):=(List.range h.objs.size).filterMap λa=>if a=L\/(g.get? a).isSome=true then none else (h.get? a).map λo=>(a,o)
def rest (g h:Heap) (L d:Addr):List (Addr×Obj):=(zm g h L).filter λp=>decide (p.1≠d)
structure Mod (K:PySem.W.Frag) (mg:Str->Option Value) (base:Heap):Prop where
 kin:K.In base
 glob:base.Ns mainGlobals mg
 blt:∃ mb,base.Ns builtinsNs mb/\∀ x:Str,x ≠ "__name__"->mb x=bootBuiltins x
 nolimit:base.NoLimit
structure Cx where
 prog:Program
 w:World
 K:PySem.W.Frag
 mg:Str->Option Value
 base:Heap
 A:Around
 N:List Str
 s₀:Shared
 H₀:Hp
 env:Env
 outer:List Env
 stack:List Env
 ex:List Addr
 fn:Str->Bool
 calm:Bool
 pn:List (Addr×Obj)
 xe:Value->Shared->Prop
def frs (l:List Env):List Addr:=l.filterMap (·.frame)
abbrev Cx.fs (X:Cx):List Addr:=frs X.outer
def Vis (sc:Scope) (x:Str):Prop:=sc.names.lookup x=some .local\/sc.names.lookup x=some .cell\/sc.names.lookup x=some .free
def Loc (sc:Scope) (x:Str):Prop:=sc.names.lookup x=some .local\/sc.names.lookup x=some .cell
def Gn (env:Env) (h:Heap) (m:Str->Option Value) (x:Str) (u:Value):Prop :=
 (env.kindOf x=some .local/\m x=some u)\/((env.kindOf x=some .cell\/env.kindOf x=some .free)/\∃ c,env.cells.lookup x=some c/\h.IsCell c (some u))
structure Cx.Ok (X:Cx):Prop where
 mod:Mod X.K X.mg X.base
 kind:X.env.scope.kind=.function
 glob:X.env.globals=mainGlobals
 blt:X.env.builtins=builtinsNs
 above:X.s₀.heap.objs.size<=X.env.locals
 inj:∀ x y c,X.env.cells.lookup x=some c->X.env.cells.lookup y=some c->x=y
 has:∀ x,(X.env.kindOf x=some .cell\/X.env.kindOf x=some .free)->∃ c,X.env.cells.lookup x=some c
 cab:∀ x c,X.fn x=true->X.env.cells.lookup x=some c->X.s₀.heap.objs.size<=c
 hd:X.calm=true->X.A.handled=none
 frames:X.A.frames=some X.stack
 stk:X.stack=X.outer\/(X.stack=X.env::X.outer/\X.env.frame=some X.env.locals)
 exf:∀ b∈X.ex,b≠X.env.locals/\∀ x c,X.env.cells.lookup x=some c->c≠b
 bs:∀ b o,X.base.get? b=some o->X.s₀.heap.get? b=some o/\X.H₀ b=none
 bsz:X.base.objs.size<=X.s₀.heap.objs.size
 noex:∀ b o,X.base.get? b=some o->b∉X.ex
 exfs:∀ b∈X.ex,b∉X.fs
 funs:X.s₀.heap.FunFrames X.base X.outer
 frf:∀ b∈X.fs,X.H₀ b=none
structure Inv (X:Cx) (pins:List (Addr×Obj)) (σ:List (Option V)) (H:Hp) (s:Shared):Prop where
 ok:X.Ok
 os:s.os=X.s₀.os
 bare:AllBare s.gens
 base:Un X.fs X.ex X.H₀ H X.s₀.heap s.heap
 loc:∃ m,s.heap.Ns X.env.locals m/\∀ (i:Nat) (x:Str) (v:V),X.N[i]?=some x->σ[i]?=some (some v)->Vis X.env.scope x->∃ u,av v u/\Gn X.env s.heap m x u
 cell:∀ x c,X.env.cells.lookup x=some c->∃ v,s.heap.IsCell c v
 free:H X.env.locals=none
 freeC:∀ x c,X.env.cells.lookup x=some c->H c=none
 pin:∀ p∈X.pn++pins,s.heap.get? p.1=some p.2/\H p.1=none/\p.1≠X.env.locals/\p.1∉X.fs/\∀ v,p.2.data≠.cell v
 hok:HOk X.prog X.w H s.heap
 len:σ.length=X.N.length
section
variable {X:Cx}{pins:List (Addr×Obj)}{σ:List (Option V)}{H H':Hp}{s:Shared}{h':Heap}
theorem Cx.Ok.nofr (ok:X.Ok){b:Addr}{o:Obj}(e:X.base.get? b=some o):b∉X.fs:=λhb=>by
 have:=(ok.funs.mem hb).1
 rw [e] at this;cases this
theorem Inv.bs (I:Inv X pins σ H s):∀ b o,X.base.get? b=some o->s.heap.get? b=some o/\H b=none:=λb o e =>
 ⟨I.base.keep b o (I.ok.bs b o e).1 (I.ok.bs b o e).2 (I.ok.nofr e) (I.ok.noex b o e),I.base.free b o (I.ok.bs b o e).1 (I.ok.bs b o e).2 (I.ok.noex b o e)⟩
theorem Inv.bk (I:Inv X pins σ H s):∀ b o,X.base.get? b=some o->s.heap.get? b=some o:=λb o e=>(I.bs b o e).1
theorem Inv.mod (I:Inv X pins σ H s):Mod X.K X.mg X.base:=I.ok.mod
theorem Inv.kIn (I:Inv X pins σ H s):X.K.In s.heap:=I.ok.mod.kin.keeps I.bk
theorem Inv.lt (I:Inv X pins σ H s):X.env.locals<s.heap.objs.size:=let ⟨_,hn,_⟩:=I.loc;hn.lt
theorem Inv.sz (I:Inv X pins σ H s):X.s₀.heap.objs.size<=s.heap.objs.size:=Nat.le_trans I.ok.above (Nat.le_of_lt I.lt)
theorem Inv.nofs (I:Inv X pins σ H s){a:Addr}(h:s.heap.objs.size<=a):a∉X.fs:=λhb=>by
 obtain ⟨_,o,ho,_⟩:=I.ok.funs.mem hb
 exact absurd (Nat.lt_of_lt_of_le (Heap.lt_size ho) (Nat.le_trans I.sz h)) (Nat.lt_irrefl _)
theorem Inv.cne (I:Inv X pins σ H s):∀ x c,X.env.cells.lookup x=some c->c≠X.env.locals:=λx c e z=>by
 obtain ⟨v,o,ho,hd⟩:=I.cell x c e
 obtain ⟨m,⟨o',es,ep,ho',hd',_⟩,_⟩:=I.loc
 rw [z,ho'] at ho;cases ho;rw [hd'] at hd;cases hd
theorem Inv.funs (I:Inv X pins σ H s):s.heap.FunFrames X.base X.outer:=by
 have all:∀ (l:List Env),(∀ b∈frs l,b∈X.fs)->X.s₀.heap.FunFrames X.base l->s.heap.FunFrames X.base l:=by
  intro l
  induction l with
  |nil=>intro _ _;trivial
  |cons env r ih =>
   intro hs hl
   obtain ⟨hk,⟨L,o,hf,hn,ho,hd⟩,hr⟩:=hl
   have hL:L∈X.fs:=hs L (by unfold frs;rw [List.filterMap_cons,hf];exact List.mem_cons_self)
   obtain ⟨sl,e⟩:=I.base.slot L o ho (I.ok.frf L hL) hL λz=>I.ok.exfs L z hL
   exact ⟨hk,⟨L,_,hf,hn,e,hd⟩,ih (λb hb=>hs b (by unfold frs;rw [List.filterMap_cons,hf];exact List.mem_cons_of_mem _ hb)) hr⟩
 exact all X.outer (λ_ hb=>hb) I.ok.funs
theorem Inv.stack (I:Inv X pins σ H s):s.heap.FunFrames X.base X.stack:=by
 rcases I.ok.stk with e|⟨e,hf⟩
 ·rw [e];exact I.funs
 ·rw [e]
  obtain ⟨m,hn,_⟩:=I.loc
  refine .cons (by rw [I.ok.kind];decide) hf hn ?_ I.funs
  exact Heap.get?_none_of_le (Nat.le_trans I.ok.bsz I.ok.above)
theorem Inv.stkSub (I:Inv X pins σ H s):∀ b∈frs X.stack,b∈X.env.locals::X.fs:=λb hb=>by
 rcases I.ok.stk with e|⟨e,hf⟩
 ·rw [e] at hb;exact List.mem_cons_of_mem _ hb
 ·rw [e] at hb
  unfold frs at hb
  rw [List.filterMap_cons,hf] at hb
  exact hb
theorem Inv.stkFree (I:Inv X pins σ H s):∀ b∈frs X.stack,H b=none:=λb hb=>by
 rcases List.mem_cons.mp (I.stkSub b hb) with e|hb
 ·rw [e];exact I.free
 ·obtain ⟨_,o,ho,_⟩:=I.ok.funs.mem hb
  exact I.base.free b o ho (I.ok.frf b hb) λz=>I.ok.exfs b z hb
theorem Inv.step {g':Array GenState}{t':Nat}{d':Drawn}{ch:List Addr}(I:Inv X pins σ H s)
  (hch:∀ b∈ch,(b∈X.ex\/X.s₀.heap.objs.size<=b)/\b≠X.env.locals/\(∀ x c,X.env.cells.lookup x=some c->c≠b)/\∀ p∈X.pn++pins,p.1≠b)
  (keep:∀ b o,b≠X.env.locals->b∉X.fs->b∉ch->s.heap.get? b=some o->H b=none->h'.get? b=some o)
  (slot:∀ b o,b≠X.env.locals->b∈X.fs->b∉ch->s.heap.get? b=some o->H b=none->∃ sl,h'.get? b=some { o with slots:=sl }) (free:∀ b o,b∉ch->s.heap.get? b=some o->H b=none->H' b=none)
  (there:∀ b o,b∉ch->s.heap.get? b=some o->∃ o',h'.get? b=some o')
  (tups:∀ b xs,H b=some (.tup xs)->H' b=some (.tup xs)) (frzs:∀ b o u,H b=some (.frz o u)->H' b=some (.frz o u)) (tbls:∀ b ps,H b=some (.tbl ps)->∃ more,H' b=some (.tbl (ps++more)))
  (ns:∀ m,s.heap.Ns X.env.locals m->h'.Ns X.env.locals m) (hok:HOk X.prog X.w H' h') (hg:AllBare g') :
  Inv X pins σ H' { s with heap:=h',gens:=g',drawn:=d',toks:=t' }:=by
 have neL:∀ b o,X.s₀.heap.get? b=some o->b≠X.env.locals:=λb o e=>Nat.ne_of_lt (Nat.lt_of_lt_of_le (Heap.lt_size e) I.ok.above)
 have neC:∀ b o,X.s₀.heap.get? b=some o->b∉X.ex->b∉ch:=λb o e hx hb=>by
  rcases (hch b hb).1 with z|z
  ·exact hx z
  ·exact absurd (Nat.lt_of_lt_of_le (Heap.lt_size e) z) (Nat.lt_irrefl _)
 have cellK:∀ x c,X.env.cells.lookup x=some c->∀ v,s.heap.IsCell c v->h'.IsCell c v:=λx c e v zz1=>by
  obtain ⟨o,ho,hd⟩:=zz1
  have nch:c∉ch:=λz=>(hch c z).2.2.1 x c e rfl
  by_cases hc:c∈X.fs
  ·obtain ⟨sl,q⟩:=slot c o (I.cne x c e) hc nch ho (I.freeC x c e)
   exact ⟨_,q,hd⟩
  ·exact ⟨o,keep c o (I.cne x c e) hc nch ho (I.freeC x c e),hd⟩
 refine ⟨I.ok,I.os,hg,⟨λb o e n hb hx=>?_,λb o e n hb hx=>?_,λb o e n hx=>?_,λb o e hx=>?_,λb xs e=>tups b xs (I.base.tups b xs e),λb o xs e=>frzs b o xs (I.base.frzs b o xs e),λb ps e=>?_⟩,?_,λx c e=>?_,?_,λx c e=>?_,λp hp=>?_,hok,I.len⟩
 ·exact keep b o (neL b o e) hb (neC b o e hx) (I.base.keep b o e n hb hx) (I.base.free b o e n hx)
 ·obtain ⟨sl,e1⟩:=I.base.slot b o e n hb hx
  obtain ⟨sl',e2⟩:=slot b _ (neL b o e) hb (neC b o e hx) e1 (I.base.free b o e n hx)
  exact ⟨sl',e2⟩
 ·obtain ⟨o',e1⟩:=I.base.there b o e hx
  exact free b o' (neC b o e hx) e1 (I.base.free b o e n hx)
 ·obtain ⟨o',e1⟩:=I.base.there b o e hx
  exact there b o' (neC b o e hx) e1
 ·obtain ⟨m1,e1⟩:=I.base.tbls b ps e
  obtain ⟨m2,e2⟩:=tbls b _ e1
  exact ⟨m1++m2,by rw [e2,Array.append_assoc]⟩
 ·obtain ⟨m,hn,hl⟩:=I.loc
  refine ⟨m,ns m hn,λi x v e1 e2 e3=>?_⟩
  obtain ⟨u,r,l⟩:=hl i x v e1 e2 e3
  refine ⟨u,r,?_⟩
  rcases l with l|⟨k,c,e,z⟩
  ·exact .inl l
  ·exact .inr ⟨k,c,e,cellK x c e _ z⟩
 ·obtain ⟨v,z⟩:=I.cell x c e
  exact ⟨v,cellK x c e v z⟩
 ·obtain ⟨m,⟨o,_,_,ho,_⟩,_⟩:=I.loc
  exact free _ o (λz=>(hch _ z).2.1 rfl) ho I.free
 ·obtain ⟨v,o,ho,hd⟩:=I.cell x c e
  exact free c o (λz=>(hch c z).2.2.1 x c e rfl) ho (I.freeC x c e)
 ·obtain ⟨e,n,ne,nf,d⟩:=I.pin p hp
  have nch:p.1∉ch:=λz=>(hch p.1 z).2.2.2 p hp rfl
  exact ⟨keep p.1 p.2 ne nf nch e n,free p.1 p.2 nch e n,ne,nf,d⟩
theorem Inv.un {t':Nat}(I:Inv X pins σ H s) (u:Un X.fs [] H H' s.heap h') (hok:HOk X.prog X.w H' h'):Inv X pins σ H' { s with heap:=h',toks:=t' }:=by
 obtain ⟨m,⟨o,es,ep,ho,r⟩,_⟩:=id I.loc
 obtain ⟨sl,hL⟩:=u.any ho I.free (by simp)
 exact I.step (g':=s.gens) (d':=s.drawn) (ch:=[]) (λ_ z=>nomatch z) (λb o _ hb _ e n=>u.keep b o e n hb (by simp)) (λb o _ hb _ e n=>u.slot b o e n hb (by simp)) (λb o _ e n=>u.free b o e n (by simp)) (λb o _ e=>u.there b o e (by simp)) u.tups u.frzs u.tbls (λm' hm=>by
  obtain ⟨o',es',ep',ho',r'⟩:=hm
  rw [ho] at ho';cases ho'
  exact ⟨_,es',ep',hL,r'⟩) hok I.bare
theorem Inv.call {g':Array GenState}{t':Nat}{d':Drawn}{ch:List Addr}(I:Inv X pins σ H s) (u:Un (frs X.stack) ch H H' s.heap h') (hok:HOk X.prog X.w H' h') (hg:AllBare g')
  (hch:∀ b∈ch,(b∈X.ex\/X.s₀.heap.objs.size<=b)/\b≠X.env.locals/\(∀ x c,X.env.cells.lookup x=some c->c≠b)/\∀ p∈X.pn++pins,p.1≠b) :
  Inv X pins σ H' { s with heap:=h',gens:=g',drawn:=d',toks:=t' }:=by
 obtain ⟨m,⟨o,es,ep,ho,r⟩,_⟩:=id I.loc
 obtain ⟨sl,hL⟩:=u.any ho I.free λz=>(hch _ z).2.1 rfl
 exact I.step (ch:=ch) hch (λb o hL hb hc e n=>u.keep b o e n (λz=>(List.mem_cons.mp (I.stkSub b z)).elim hL hb) hc) (λb o _ _ hc e n=>u.any e n hc) (λb o hc e n=>u.free b o e n hc) (λb o hc e=>u.there b o e hc) u.tups u.frzs u.tbls (λm' hm=>by
  obtain ⟨o',es',ep',ho',r'⟩:=hm
  rw [ho] at ho';cases ho'
  exact ⟨_,es',ep',hL,r'⟩) hok hg
theorem Inv.turned {t':Nat}{it:Addr}(I:Inv X pins σ H s) (k:∀ b o,b≠it->s.heap.get? b=some o->h'.get? b=some o) (hn:H it=none) (hL:it≠X.env.locals)
  (h1:it∈X.ex\/X.s₀.heap.objs.size<=it) (h2:∀ x c,X.env.cells.lookup x=some c->c≠it) (h3:∀ p∈X.pn++pins,p.1≠it):Inv X pins σ H { s with heap:=h',toks:=t' }:=by
 have nit:∀ b u,H b=some u->b≠it:=λb u e z=>by rw [z,hn] at e;cases e
 refine I.step (g':=s.gens) (d':=s.drawn) (ch:=[it]) (λb hb=>?_) (λb o _ _ hc e _=>k b o (λz=>hc (by simp [z])) e) (λb o _ _ hc e _=>⟨o.slots,k b o (λz=>hc (by simp [z])) e⟩) (λ_ _ _ _ n=>n)
  (λb o hc e=>⟨o,k b o (λz=>hc (by simp [z])) e⟩) (λ_ _ e=>e) (λ_ _ _ e=>e) (λb ps e=>⟨#[],by rw [e];simp⟩) (λm hm=>?_) (λb u e=>?_) I.bare
 ·have e:b=it:=by simpa using hb
  subst e
  exact ⟨h1,hL,h2,h3⟩
 ·obtain ⟨o,es,ep,ho,r⟩:=hm
  exact ⟨o,es,ep,k _ o (Ne.symm hL) ho,r⟩
 ·refine (I.hok b u e).stay (λc v hc q=>k c v ?_ q) (λ_ q=>q) λ_ _ q=>q
  rcases hc with z|z
  ·rw [z];exact nit b u e
  ·exact nit c _ z
theorem Inv.tok (I:Inv X pins σ H s) (t:Nat):Inv X pins σ H { s with toks:=t }:=I.un (h':=s.heap) (t':=t) Un.refl I.hok
theorem Inv.kept {t':Nat}(I:Inv X pins σ H s) (k:∀ b u,s.heap.get? b=some u->h'.get? b=some u):Inv X pins σ H { s with heap:=h',toks:=t' }:=I.un (Un.kept k) (I.hok.kept k)
theorem Inv.laid {a:Addr}{o:HO}{t':Nat}(I:Inv X pins σ H s) (k:∀ b u,s.heap.get? b=some u->h'.get? b=some u) (hp:s.heap.objs.size<=a) (new:aT X.prog X.w (upd H a o) h' a o) :
  Inv X pins σ (upd H a o) { s with heap:=h',toks:=t' }:=I.un (Un.laid k hp (I.hok.fresh hp)) (I.hok.laid k hp new)
theorem Inv.write {x e:Addr}{o:HO}{t':Nat}(I:Inv X pins σ H s) (mu:Mut (H x)) (he:e=x\/H e=some (.own x)) (k:∀ b u,b≠e->s.heap.get? b=some u->h'.get? b=some u) (heo:∃ u,h'.get? e=some u)
  (new:aT X.prog X.w (upd H x o) h' x o):Inv X pins σ (upd H x o) { s with heap:=h',toks:=t' }:=I.un (Un.write mu he k heo) (I.hok.write mu he k heo new)
theorem Inv.pins_of {pins':List (Addr×Obj)}(I:Inv X pins σ H s) (h:∀ p∈pins',s.heap.get? p.1=some p.2/\H p.1=none/\p.1≠X.env.locals/\p.1∉X.fs/\∀ v,p.2.data≠.cell v):Inv X pins' σ H s :=
 ⟨I.ok,I.os,I.bare,I.base,I.loc,I.cell,I.free,I.freeC,λp hp=>(List.mem_append.mp hp).elim (λz=>I.pin p (List.mem_append_left _ z)) (h p),I.hok,I.len⟩
theorem qi {N:List Str}(hN:N.Nodup){i j:Nat}{x:Str}(a:N[i]?=some x) (b:N[j]?=some x):i=j:=by
 obtain ⟨h1,e1⟩:=List.getElem?_eq_some_iff.mp a
 obtain ⟨h2,e2⟩:=List.getElem?_eq_some_iff.mp b
 exact (List.getElem_inj hN).mp (e1.trans e2.symm)
theorem wG {M:Model}{A:Around}{E:Value->Shared->Prop}{i:Nat}{x:Str}{v:V}{u:Value}{Q:Unit->Shared->Prop}(I:Inv X pins σ H s) (hN:X.N.Nodup) (hi:X.N[i]?=some x) (hx:Loc X.env.scope x) (r:av v u)
  (h:∀ s',Inv X pins (σ.set i (some v)) H s'->(∃ a,Heap.SameBut a s.heap s'.heap/\(a=X.env.locals\/X.env.cells.lookup x=some a))->Q () s') (hf:X.fn x=true\/X.env.scope.names.lookup x=some .local:=by first|exact .inl rfl|exact .inr rfl|assumption):wpAny M A (storeName X.env x u) Q E s:=by
 obtain ⟨m,hn,hl⟩:=id I.loc
 have hcls:(X.env.scope.kind==.class || (X.env.scope.kind==.module&&X.env.locals != X.env.globals))=false:=by rw [I.ok.kind];rfl
 have hiσ:i<σ.length:=by rw [I.len];exact (List.getElem?_eq_some_iff.mp hi).1
 have cne:=I.cne
 have tracked:∀ {a:Addr}{h':Heap},(∃ o,s.heap.get? a=some o/\H a=none)->Heap.SameBut a s.heap h'->HOk X.prog X.w H h':=fun {a h'} ha hs b ob e=>by
  obtain ⟨_,_,hfree⟩:=ha
  refine (I.hok b ob e).stay (λc w' hc q=>(hs.2 c ?_).trans q) (λ_ q=>q) λ_ _ q=>q
  rintro rfl
  rcases hc with rfl|hc
  ·rw [hfree] at e;cases e
  ·rw [hfree] at hc;cases hc
 rcases hx with hk|hk
 ·refine wpAny_storeName_local hk hn (λh' hn' hs=>?_) hcls
  obtain ⟨oL,_,_,hoL,_⟩:=id hn
  refine h _ ⟨I.ok,I.os,I.bare,⟨λb o e n hb hx=>?_,λb o e n hb hx=>?_,I.base.free,λb o e hx=>?_,I.base.tups,I.base.frzs,I.base.tbls⟩,⟨_,hn',λj y v' e1 e2 e3=>?_⟩,λy c e=>?_,I.free,I.freeC,λp hp=>?_,tracked ⟨oL,hoL,I.free⟩ hs,by simpa using I.len⟩ ⟨_,hs,.inl rfl⟩
  ·exact (hs.2 b (Nat.ne_of_lt (Nat.lt_of_lt_of_le (Heap.lt_size e) I.ok.above))).trans (I.base.keep b o e n hb hx)
  ·obtain ⟨sl,e1⟩:=I.base.slot b o e n hb hx
   exact ⟨sl,(hs.2 b (Nat.ne_of_lt (Nat.lt_of_lt_of_le (Heap.lt_size e) I.ok.above))).trans e1⟩
  ·obtain ⟨o',e1⟩:=I.base.there b o e hx
   exact ⟨o',(hs.2 b (Nat.ne_of_lt (Nat.lt_of_lt_of_le (Heap.lt_size e) I.ok.above))).trans e1⟩
  ·by_cases hj:j=i
   ·subst hj
    rw [hi] at e1;cases e1
    rw [List.getElem?_set_self hiσ] at e2
    cases e2
    exact ⟨u,r,.inl ⟨hk,by simp⟩⟩
   ·rw [List.getElem?_set_ne (Ne.symm hj)] at e2
    obtain ⟨u',r',q⟩:=hl j y v' e1 e2 e3
    refine ⟨u',r',?_⟩
    rcases q with ⟨k,e⟩|⟨k,c,e,z⟩
    ·refine .inl ⟨k,?_⟩
     have:y≠x:=λe=>hj (qi hN e1 (e ▸ hi))
     simp [this,e]
    ·exact .inr ⟨k,c,e,z.sameBut hs (cne y c e)⟩
  ·obtain ⟨w',z⟩:=I.cell y c e
   exact ⟨w',z.sameBut hs (cne y c e)⟩
  ·obtain ⟨e,n,ne,nf,d⟩:=I.pin p hp
   exact ⟨(hs.2 p.1 ne).trans e,n,ne,nf,d⟩
 ·have hfn:X.fn x=true:=by
   rcases hf with z|z
   ·exact z
   ·rw [z] at hk;cases hk
  obtain ⟨c,hc⟩:=I.ok.has x (.inl hk)
  obtain ⟨w',z⟩:=I.cell x c hc
  refine wpAny_storeName_cell I.ok.kind hk hc z (λh' hc' hs=>?_)
  obtain ⟨oc,hoc,hocd⟩:=id z
  refine h { s with heap:=h' } ⟨I.ok,I.os,I.bare,⟨λb o e n hb hx=>?_,λb o e n hb hx=>?_,I.base.free,λb o e hx=>?_,I.base.tups,I.base.frzs,I.base.tbls⟩,⟨m,hn.sameBut hs (Ne.symm (cne x c hc)),λj y v' e1 e2 e3=>?_⟩,λy c' e=>?_,I.free,I.freeC,λp hp=>?_,tracked ⟨oc,hoc,I.freeC x c hc⟩ hs,by simpa using I.len⟩ ⟨c,hs,.inr hc⟩
  ·exact (hs.2 b (Nat.ne_of_lt (Nat.lt_of_lt_of_le (Heap.lt_size e) (I.ok.cab x c hfn hc)))).trans (I.base.keep b o e n hb hx)
  ·obtain ⟨sl,e1⟩:=I.base.slot b o e n hb hx
   exact ⟨sl,(hs.2 b (Nat.ne_of_lt (Nat.lt_of_lt_of_le (Heap.lt_size e) (I.ok.cab x c hfn hc)))).trans e1⟩
  ·obtain ⟨o',e1⟩:=I.base.there b o e hx
   exact ⟨o',(hs.2 b (Nat.ne_of_lt (Nat.lt_of_lt_of_le (Heap.lt_size e) (I.ok.cab x c hfn hc)))).trans e1⟩
  ·by_cases hj:j=i
   ·subst hj
    rw [hi] at e1;cases e1
    rw [List.getElem?_set_self hiσ] at e2
    cases e2
    exact ⟨u,r,.inr ⟨.inl hk,c,hc,hc'⟩⟩
   ·rw [List.getElem?_set_ne (Ne.symm hj)] at e2
    obtain ⟨u',r',q⟩:=hl j y v' e1 e2 e3
    refine ⟨u',r',?_⟩
    rcases q with q|⟨k,c',e,z'⟩
    ·exact .inl q
    ·refine .inr ⟨k,c',e,z'.sameBut hs ?_⟩
     rintro rfl
     exact hj (qi hN e1 (I.ok.inj _ _ _ e hc ▸ hi))
  ·by_cases hcc:c'=c
   ·subst hcc;exact ⟨_,hc'⟩
   ·obtain ⟨w2,z2⟩:=I.cell y c' e
    exact ⟨w2,z2.sameBut hs hcc⟩
  ·obtain ⟨e,n,ne,nf,d⟩:=I.pin p hp
   refine ⟨(hs.2 p.1 ?_).trans e,n,ne,nf,d⟩
   intro q
   rw [q,hoc] at e
   have q':oc=p.2:=Option.some.inj e
   exact d w' (by rw [<- q'];exact hocd)
theorem kS {M:Model}{A:Around}{E:Value->Shared->Prop}{i:Nat}{x:Str}{v:V}{u:Value}{Q:Unit->Shared->Prop}(I:Inv X pins σ H s) (hN:X.N.Nodup) (hi:X.N[i]?=some x) (hx:Loc X.env.scope x) (r:av v u)
  (h:∀ s',Inv X pins (σ.set i (some v)) H s'->Q () s') (hf:X.fn x=true\/X.env.scope.names.lookup x=some .local:=by first|exact .inl rfl|exact .inr rfl|assumption):wpAny M A (storeName X.env x u) Q E s :=
 wG I hN hi hx r (λs' I' _=>h s' I') hf
theorem Inv.call' {s':Shared}{ch:List Addr}(I:Inv X pins σ H s) (ho:s'.os=s.os) (u:Un (frs X.stack) ch H H' s.heap s'.heap) (hok:HOk X.prog X.w H' s'.heap) (hg:AllBare s'.gens)
  (hch:∀ b∈ch,(b∈X.ex\/X.s₀.heap.objs.size<=b)/\b≠X.env.locals/\(∀ x c,X.env.cells.lookup x=some c->c≠b)/\∀ p∈X.pn++pins,p.1≠b):Inv X pins σ H' s':=by
 obtain ⟨h',g',d',t',o'⟩:=s'
 have e:o'=s.os:=ho
 subst e
 exact I.call (g':=g') (t':=t') (d':=d') u hok hg hch
end
abbrev XK:=Value->Option Addr->Hp->Prop
abbrev St:=List (Option V)
abbrev VK:=V->Hp->Prop
abbrev TE:=St->Hp->VK->Prop
abbrev TT:=St->Hp->(Bool->Hp->Prop)->Prop
abbrev TA:=St->Hp->(List V->Hp->Prop)->Prop
structure Ends where
 nx:St->Hp->Prop
 rt:VK
 bk:St->Hp->Prop:=λ_ _=>False
 ct:St->Hp->Prop:=λ_ _=>False
abbrev TS:=Ends->St->Hp->Prop
def EP (X:Cx) (pins:List (Addr×Obj)) (σ:St) (Q:VK) (u:Value) (s':Shared):Prop:=∃ v H',Inv X pins σ H' s'/\av v u/\Q v H'
def TP (X:Cx) (pins:List (Addr×Obj)) (σ:St) (Q:Bool->Hp->Prop) (b:Bool) (s':Shared):Prop:=∃ H',Inv X pins σ H' s'/\Q b H'
def AP (X:Cx) (pins:List (Addr×Obj)) (σ:St) (Q:List V->Hp->Prop) (us:List Value) (s':Shared):Prop:=∃ vs H',Inv X pins σ H' s'/\ap vs us/\Q vs H'
def SP (X:Cx) (pins:List (Addr×Obj)) (D:Ends) (f:Flow) (s':Shared):Prop :=
 match f with
 |.next=>∃ σ' H',Inv X pins σ' H' s'/\D.nx σ' H'
 |.brk=>∃ σ' H',Inv X pins σ' H' s'/\D.bk σ' H'
 |.cont=>∃ σ' H',Inv X pins σ' H' s'/\D.ct σ' H'
 |.ret u=>∃ v σ' H',Inv X pins σ' H' s'/\av v u/\D.rt v H'
def PE (X:Cx) (e:Expr) (t:TE):Prop :=
 ∀ (pins:List (Addr×Obj)) (s:Shared) (σ:St) (H:Hp) (Q:VK),Inv X pins σ H s->t σ H Q->wpAny (model X.prog X.w) X.A (eval e X.env) (EP X pins σ Q) X.xe s
def PT (X:Cx) (e:Expr) (t:TT):Prop :=
 ∀ (pins:List (Addr×Obj)) (s:Shared) (σ:St) (H:Hp) (Q:Bool->Hp->Prop),Inv X pins σ H s->t σ H Q->wpAny (model X.prog X.w) X.A (isTrue e X.env (eval e X.env)) (TP X pins σ Q) X.xe s
def PW (X:Cx) (e:Expr) (t:TT):Prop :=
 ∀ (whole:Sem Value) (pins:List (Addr×Obj)) (s:Shared) (σ:St) (H:Hp) (Q:Bool->Hp->Prop),Inv X pins σ H s->t σ H Q->wpAny (model X.prog X.w) X.A (isTrue e X.env whole) (TP X pins σ Q) X.xe s
def PA (X:Cx) (es:List Expr) (t:TA):Prop :=
 ∀ (pos:Pos) (pins:List (Addr×Obj)) (s:Shared) (σ:St) (H:Hp) (Q:List V->Hp->Prop),Inv X pins σ H s->t σ H Q->wpAny (model X.prog X.w) X.A (spliced (backTo pos (starEach es X.env))) (AP X pins σ Q) X.xe s
def PS (X:Cx) (st:Stmt) (t:TS):Prop :=
 ∀ (pins:List (Addr×Obj)) (s:Shared) (σ:St) (H:Hp) (D:Ends),Inv X pins σ H s->t D σ H->wpAny (model X.prog X.w) X.A (exec st X.env) (SP X pins D) X.xe s
def PSs (X:Cx) (st:List Stmt) (t:TS):Prop :=
 ∀ (pins:List (Addr×Obj)) (s:Shared) (σ:St) (H:Hp) (D:Ends),Inv X pins σ H s->t D σ H->wpAny (model X.prog X.w) X.A (execs st X.env) (SP X pins D) X.xe s
theorem thn {α:Type}{t:Sem α}{Q Q':α->Shared->Prop}{M:Model}{A:Around}{E:Value->Shared->Prop}{s:Shared}(h:wpAny M A t Q E s) (hQ:∀ a s,Q a s->Q' a s):wpAny M A t Q' E s:=wpAny_mono h hQ λ_ _ x=>x
section
variable {X:Cx}
def uM (i:Nat):TE:=λσ H Q=>∃ v,σ[i]?=some (some v)/\Q v H
def tC (v:V):TE:=λ_ H Q=>Q v H
theorem BG {i:Nat}{x:Str}{pos:Pos}(hN:X.N[i]?=some x) (hv:Vis X.env.scope x) (hd:(x==("__debug__":Str))=false:=by decide) (hcd:(x==("__classdict__":Str))=false:=by decide):PE X (.Name x pos) (uM i):=by
 intro pins s σ H Q I h
 obtain ⟨v,e,h⟩:=h
 obtain ⟨m,hn,hl⟩:=I.loc
 obtain ⟨u,r,l⟩:=hl i x v hN e hv
 have fin:EP X pins σ Q u s:=⟨v,H,I,r,h⟩
 rcases l with ⟨hk,hm⟩|⟨hk,c,hc,hcell⟩
 ·exact wpAny_Name (wpAny_loadName_local I.ok.kind hk hn hm fin) hd
 ·rcases hk with hk|hk
  ·exact wpAny_Name (wpAny_loadName_cell I.ok.kind hk hc hcell fin) hd
  ·exact wpAny_Name (wpAny_loadName_free I.ok.kind hk hc hcell fin hcd) hd
theorem BH {i j pos}:PE X (.Constant (.int i) j pos) (tC (.int i)):=λ_ _ _ H _ I h=>wpAny_Constant_int ⟨.int i,H,I.tok _,⟨_,rfl⟩,h⟩
theorem El {b j pos}:PE X (.Constant (.bool b) j pos) (tC (.bl b)):=λ_ _ _ H _ I h=>Constant_bool ⟨.bl b,H,I,rfl,h⟩
theorem BI {j pos}:PE X (.Constant .none j pos) (tC .non):=λ_ _ _ H _ I h=>Constant_none ⟨.non,H,I,rfl,h⟩
theorem md {x j pos}:PE X (.Constant (.str x) j pos) (tC (.str x)):=λ_ _ _ H _ I h=>Calls.Constant_str ⟨.str x,H,I.tok _,⟨_,rfl⟩,h⟩
def Gl (X:Cx) (x:Str):Prop:=X.env.kindOf x=some .globalImplicit
theorem d9 {E:Value->Shared->Prop}{pins:List (Addr×Obj)}{s:Shared}{σ:St}{H:Hp}{x:Str}{u:Value}{pos:Pos}{Q:Value->Shared->Prop}(I:Inv X pins σ H s) (hg:Gl X x) (hm:X.mg x=some u) (h:Q u s)
  (hd:(x==("__debug__":Str))=false:=by decide):wpAny (model X.prog X.w) X.A (eval (.Name x pos) X.env) Q E s :=
 Calls.Name_function_global I.ok.kind hg (Calls.loadGlobal_global (by rw [I.ok.glob];exact I.mod.glob.keeps I.bk) hm h) hd
theorem gK {E:Value->Shared->Prop}{pins:List (Addr×Obj)}{s:Shared}{σ:St}{H:Hp}{x:Str}{u:Value}{pos:Pos}{Q:Value->Shared->Prop}(I:Inv X pins σ H s) (hg:Gl X x) (hm:X.mg x=none) (hv:bootBuiltins x=some u) (h:Q u s)
  (hn:x ≠ "__name__":=by decide) (hd:(x==("__debug__":Str))=false:=by decide):wpAny (model X.prog X.w) X.A (eval (.Name x pos) X.env) Q E s:=by
 obtain ⟨mb,h1,h2⟩:=I.mod.blt
 exact Calls.Name_function_global I.ok.kind hg (Calls.loadGlobal_builtin (by rw [I.ok.glob];exact I.mod.glob.keeps I.bk) hm (by rw [I.ok.blt];exact h1.keeps I.bk) ((h2 x hn).trans hv) h) hd
theorem qJ {x:Str}{v:V}{u:Value}{pos:Pos}(hg:Gl X x) (hm:X.mg x=some u) (r:av v u) (hd:(x==("__debug__":Str))=false:=by decide):PE X (.Name x pos) (tC v) :=
 λ_ _ _ H _ I h=>d9 I hg hm ⟨v,H,I,r,h⟩ hd
theorem zn {x:Str}{v:V}{u:Value}{pos:Pos}(hg:Gl X x) (hm:X.mg x=none) (hv:bootBuiltins x=some u) (r:av v u) (hn:x ≠ "__name__":=by decide) (hd:(x==("__debug__":Str))=false:=by decide):PE X (.Name x pos) (tC v) :=
 λ_ _ _ H _ I h=>gK I hg hm hv ⟨v,H,I,r,h⟩ hn hd
variable {a b:Expr}{ta tb:TE}{pos:Pos}
def tB (t:TE):TT:=λσ H Q=>t σ H λx H1=>∃ c,x=.bl c/\Q c H1
theorem BJ {e:Expr}{t:TE}(h:PE X e t) (he:∀ whole,isTrue e X.env whole=(do let v <- whole;standAt e.pos;holding [v] (truthy v)):=by intro _;rfl):PT X e (tB t):=by
 intro pins s σ H Q I hw
 refine isTrue_plain (thn (h pins s σ H _ I hw) λv s1 ⟨x,H1,I1,r1,q1⟩=>?_) (he _)
 obtain ⟨d,rfl,q⟩:=q1
 cases r1
 exact wpAny_truthy_bool ⟨H1,I1,q⟩
variable {tA tB':TT}{rest:List Expr}
def Go (t u:TT):TT:=λσ H Q=>t σ H λc H1=>if c=true then u σ H1 Q else Q false H1
def tOr (t u:TT):TT:=λσ H Q=>t σ H λc H1=>if c=true then Q true H1 else u σ H1 Q
def Gp (t:TT):TT:=λσ H Q=>t σ H λc H1=>Q (!c) H1
theorem zo (ha:PT X a tA):PW X (.BoolOp .And [a] pos) tA:=by
 intro wh pins s σ H Q I h
 refine isTrue_and (thn (ha pins s σ H Q I h) λc s1 e=>?_)
 cases c with
 |true=>exact isTrue_and_nil e
 |false=>exact e
theorem BK (ha:PT X a tA):PW X (.BoolOp .Or [a] pos) tA:=by
 intro wh pins s σ H Q I h
 refine isTrue_or (thn (ha pins s σ H Q I h) λc s1 e=>?_)
 cases c with
 |false=>exact isTrue_or_nil e
 |true=>exact e
theorem BL (ha:PT X a tA) (hb:PW X (.BoolOp .And (b::rest) pos) tB'):PW X (.BoolOp .And (a::b::rest) pos) (Go tA tB'):=by
 intro wh pins s σ H Q I h
 refine isTrue_and (thn (ha pins s σ H _ I h) λc s1 zz2=>?_)
 obtain ⟨H1,I1,q1⟩:=zz2
 cases c with
 |true=>exact hb wh pins s1 σ H1 Q I1 q1
 |false=>exact ⟨H1,I1,q1⟩
theorem Em (ha:PT X a tA) (hb:PW X (.BoolOp .Or (b::rest) pos) tB'):PW X (.BoolOp .Or (a::b::rest) pos) (tOr tA tB'):=by
 intro wh pins s σ H Q I h
 refine isTrue_or (thn (ha pins s σ H _ I h) λc s1 zz3=>?_)
 obtain ⟨H1,I1,q1⟩:=zz3
 cases c with
 |true=>exact ⟨H1,I1,q1⟩
 |false=>exact hb wh pins s1 σ H1 Q I1 q1
theorem BM (ha:PT X a tA):PT X (.UnaryOp .Not a pos) (Gp tA):=by
 intro pins s σ H Q I h
 exact isTrue_not (ha pins s σ H (λc H1=>Q (!c) H1) I h)
def En (ta tb:TE):TE:=λσ H Q=>ta σ H λx H1=>∃ c,x=.bl c/\if c=true then tb σ H1 Q else Q (.bl false) H1
def Gq (ta tb:TE):TE:=λσ H Q=>ta σ H λx H1=>∃ c,x=.bl c/\if c=true then Q (.bl true) H1 else tb σ H1 Q
def Eo (ta:TE):TE:=λσ H Q=>ta σ H λx H1=>∃ c,x=.bl c/\Q (.bl (!c)) H1
theorem BN {op}{t:TE}(h:PE X a t):PE X (.BoolOp op [a] pos) t:=λpins s σ H Q I hw=>BoolOp_one (h pins s σ H Q I hw)
theorem BO (ha:PE X a ta) (hb:PE X (.BoolOp .And (b::rest) pos) tb):PE X (.BoolOp .And (a::b::rest) pos) (En ta tb):=by
 intro pins s σ H Q I h
 refine BoolOp_and (thn (ha pins s σ H _ I h) λv s1 zz4=>?_)
 obtain ⟨x,H1,I1,r1,q1⟩:=zz4
 obtain ⟨c,rfl,q1⟩:=q1
 cases r1
 refine wpAny_truthy_bool ?_
 cases c with
 |true=>exact hb pins s1 σ H1 Q I1 q1
 |false=>exact ⟨.bl false,H1,I1,rfl,q1⟩
theorem Ep (ha:PE X a ta) (hb:PE X (.BoolOp .Or (b::rest) pos) tb):PE X (.BoolOp .Or (a::b::rest) pos) (Gq ta tb):=by
 intro pins s σ H Q I h
 refine BoolOp_or (thn (ha pins s σ H _ I h) λv s1 zz5=>?_)
 obtain ⟨x,H1,I1,r1,q1⟩:=zz5
 obtain ⟨c,rfl,q1⟩:=q1
 cases r1
 refine wpAny_truthy_bool ?_
 cases c with
 |false=>exact hb pins s1 σ H1 Q I1 q1
 |true=>exact ⟨.bl true,H1,I1,rfl,q1⟩
theorem BP (ha:PE X a ta):PE X (.UnaryOp .Not a pos) (Eo ta):=by
 intro pins s σ H Q I h
 refine UnaryOp_ (thn (ha pins s σ H _ I h) λv s1 zz6=>?_)
 obtain ⟨x,H1,I1,r1,q1⟩:=zz6
 obtain ⟨c,rfl,q1⟩:=q1
 cases r1
 exact not_of (wpAny_truthy_bool ⟨.bl (!c),H1,I1,rfl,q1⟩)
def tIf (t:TT) (ta tb:TE):TE:=λσ H Q=>t σ H λc H1=>if c=true then ta σ H1 Q else tb σ H1 Q
theorem xF {c:Expr}(hc:PT X c tA) (ha:PE X a ta) (hb:PE X b tb):PE X (.IfExp c a b pos) (tIf tA ta tb):=by
 intro pins s σ H Q I h
 refine wpAny_IfExp (thn (hc pins s σ H _ I h) λd s1 zz7=>?_)
 obtain ⟨H1,I1,q1⟩:=zz7
 cases d with
 |true=>exact ha pins s1 σ H1 Q I1 q1
 |false=>exact hb pins s1 σ H1 Q I1 q1
end
def SqL (K:PySem.W.Frag) (H:Hp) (a:Addr) (xs:List V):Prop :=
 Rd H a (.lst xs) \/
  ∃ (o:Obj) (its:Array Value) (n:Nat),K.lookup a=some o/\o.cls=.type "list" /\ o.dict=none/\o.data=.seq its n/\its.size<=sizeLine/\ap xs its.toList
def SqT (K:PySem.W.Frag) (H:Hp) (a:Addr) (xs:List V):Prop :=
 Rd H a (.tup xs) \/
  ∃ (o:Obj) (its:Array Value) (n:Nat),K.lookup a=some o/\o.cls=.type "tuple" /\ o.data=.seq its n/\its.size<=sizeLine/\ap xs its.toList
def Gs:Value->Option V
 |.none=>some .non
 |.bool b=>some (.bl b)
 |.int i _=>some (.int i)
 |.str x _=>some (.str x)
 |.bytes b _=>some (.byt b)
 |.float b _=>some (.flt b)
 |.ref a=>some (.ref a)
 |.type n=>some (.ty n)
 |_=>none
theorem av.abs {x:V}{u:Value}(r:av x u):Gs u=some x:=by
 cases x with
 |non=>cases r;rfl
 |bl _=>cases r;rfl
 |int _=>obtain ⟨t,rfl⟩:=r;rfl
 |str _=>obtain ⟨t,rfl⟩:=r;rfl
 |byt _=>obtain ⟨t,rfl⟩:=r;rfl
 |flt _=>obtain ⟨t,rfl⟩:=r;rfl
 |ref _=>cases r;rfl
 |ty _=>cases r;rfl
theorem av.inj {x y:V}{u:Value}(r:av x u) (q:av y u):x=y:=Option.some.inj (r.abs.symm.trans q.abs)
theorem ap.inj:∀ {xs ys:List V}{us:List Value},ap xs us->ap ys us->xs=ys
 |_,_,_,.nil,.nil=>rfl
 |_,_,_,.cons r t,.cons r' t'=>by rw [r.inj r',ap.inj t t']
section
variable {X:Cx}{pins:List (Addr×Obj)}{σ:St}{H:Hp}{s:Shared}{a:Addr}{xs ys:List V}
theorem SqL.of {K:PySem.W.Frag}(h:H a=some (.lst xs)):SqL K H a xs:=.inl (.inl h)
theorem SqT.of {K:PySem.W.Frag}(h:H a=some (.tup xs)):SqT K H a xs:=.inl (.inl h)
theorem Inv.list (I:Inv X pins σ H s) (h:SqL X.K H a xs):∃ its:List Value,ap xs its/\PlainL s.heap a its.toArray/\xs.length<=sizeLine:=by
 rcases h with h|⟨o,its,n,hk,hc,hd,hs,hz,r⟩
 ·obtain ⟨z,its,n,r,e⟩:=h.ok I.hok
  exact ⟨its,r,⟨_,n,e,rfl,rfl,rfl⟩,z⟩
 ·refine ⟨its.toList,r,⟨o,n,I.kIn a o hk,hc,hd,by simpa using hs⟩,?_⟩
  have e:=r.length
  simp only [Array.length_toList] at e
  omega
theorem Inv.tuple (I:Inv X pins σ H s) (h:SqT X.K H a xs):∃ its:List Value,ap xs its/\IsTup s.heap a its.toArray/\xs.length<=sizeLine:=by
 rcases h with h|⟨o,its,n,hk,hc,hs,hz,r⟩
 ·obtain ⟨z,its,r,p⟩:=h.ok I.hok
  exact ⟨its,r,p,z⟩
 ·refine ⟨its.toList,r,⟨o,I.kIn a o hk,hc,n,by simpa using hs⟩,?_⟩
  have e:=r.length
  simp only [Array.length_toList] at e
  omega
theorem Inv.list_inj (I:Inv X pins σ H s) (h:SqL X.K H a xs) (h':SqL X.K H a ys):xs=ys:=by
 obtain ⟨its,r,⟨o,n,e,_,_,d⟩,_⟩:=I.list h
 obtain ⟨its',r',⟨o',n',e',_,_,d'⟩,_⟩:=I.list h'
 rw [e] at e';cases e'
 rw [d] at d'
 injection d' with d1 _
 have:its=its':=by simpa using congrArg Array.toList d1
 subst this
 exact r.inj r'
end
abbrev Cx.wish (X:Cx) (E:Value->Shared->Prop):Cx:={ X with xe:=E }
abbrev Cx.nox (X:Cx):Cx:=X.wish λ_ _=>False
theorem Cx.Ok.wish {X:Cx}(ok:X.Ok) (E:Value->Shared->Prop):(X.wish E).Ok :=
 ⟨ok.mod,ok.kind,ok.glob,ok.blt,ok.above,ok.inj,ok.has,ok.cab,ok.hd,ok.frames,ok.stk,ok.exf,ok.bs,ok.bsz,ok.noex,ok.exfs,ok.funs,ok.frf⟩
theorem Cx.Ok.unwish {X:Cx}{E:Value->Shared->Prop}(ok:(X.wish E).Ok):X.Ok :=
 ⟨ok.mod,ok.kind,ok.glob,ok.blt,ok.above,ok.inj,ok.has,ok.cab,ok.hd,ok.frames,ok.stk,ok.exf,ok.bs,ok.bsz,ok.noex,ok.exfs,ok.funs,ok.frf⟩
section
variable {X:Cx}{pins:List (Addr×Obj)}{σ:St}{H:Hp}{s:Shared}{E:Value->Shared->Prop}
theorem Inv.wish (I:Inv X pins σ H s) (E:Value->Shared->Prop):Inv (X.wish E) pins σ H s:=⟨I.ok.wish E,I.os,I.bare,I.base,I.loc,I.cell,I.free,I.freeC,I.pin,I.hok,I.len⟩
theorem Inv.unwish (I:Inv (X.wish E) pins σ H s):Inv X pins σ H s:=⟨I.ok.unwish,I.os,I.bare,I.base,I.loc,I.cell,I.free,I.freeC,I.pin,I.hok,I.len⟩
theorem SP.unwish {D:Ends}{f:Flow}{s':Shared}(h:SP (X.wish E) pins D f s'):SP X pins D f s':=by
 cases f with
 |next=>obtain ⟨σ',H',I,q⟩:=h;exact ⟨σ',H',I.unwish,q⟩
 |brk=>obtain ⟨σ',H',I,q⟩:=h;exact ⟨σ',H',I.unwish,q⟩
 |cont=>obtain ⟨σ',H',I,q⟩:=h;exact ⟨σ',H',I.unwish,q⟩
 |ret u=>obtain ⟨v,σ',H',I,r,q⟩:=h;exact ⟨v,σ',H',I.unwish,r,q⟩
theorem PSs.nox {st:List Stmt}{t:TS}(h:PSs X.nox st t):PSs X st t:=λpins s σ H D I hw =>
 wpAny_mono (h pins s σ H D (I.wish _) hw) (λ_ _ q=>q.unwish) λ_ _ z=>False.elim z
end
section
variable {X:Cx}{st:Stmt}{rest:List Stmt}{t u:TS}{e:Expr}{te:TE}{pos:Pos}
def Er:TS:=λD σ H=>D.nx σ H
def Gu (t u:TS):TS:=λD σ H=>t { D with nx:=u D } σ H
theorem zq:PSs X [] Er:=λ_ _ σ H _ I h=>wpAny_execs_nil ⟨σ,H,I,h⟩
theorem xG (h1:PS X st t) (h2:PSs X rest u):PSs X (st::rest) (Gu t u):=by
 intro pins s σ H D I h
 refine wpAny_execs_cons (thn (h1 pins s σ H { D with nx:=u D } I h) λf s1 q=>?_)
 cases f with
 |next =>
  obtain ⟨σ',H',I',q⟩:=q
  exact h2 pins s1 σ' H' D I' q
 |ret v=>exact q
 |brk=>exact q
 |cont=>exact q
theorem zr (h1:PS X st t):PSs X [st] t:=by
 intro pins s σ H D I h
 refine wpAny_execs_cons (thn (h1 pins s σ H D I h) λf s1 q=>?_)
 cases f with
 |next=>exact wpAny_execs_nil q
 |ret v=>exact q
 |brk=>exact q
 |cont=>exact q
theorem Inv.quiet {pins:List (Addr×Obj)}{σ:St}{H:Hp}{s:Shared}(I:Inv X pins σ H s):interactive X.env=false:=by simp [interactive,I.ok.kind]
def Es (te:TE):TS:=λD σ H=>te σ H λ_ H1=>D.nx σ H1
theorem zt (he:PE X e te) (hs:swapsWith e none pos.line X.env=pure false:=by rfl):PS X (.Expr e pos) (Es te):=by
 intro pins s σ H D I h
 exact wpAny_Expr_any (thn (he pins s σ H _ I h) λv s1 zz10=>by obtain ⟨x,H1,I1,r1,q1⟩:=zz10;exact ⟨σ,H1,I1,q1⟩) I.quiet hs
def Gv (te:TE):TS:=λD σ H=>te σ H D.rt
theorem BQ (he:PE X e te):PS X (.Return (some e) pos) (Gv te):=by
 intro pins s σ H D I h
 exact wpAny_Return_some (thn (he pins s σ H _ I h) λv s1 zz11=>by obtain ⟨x,H1,I1,r1,q1⟩:=zz11;exact ⟨x,σ,H1,I1,r1,q1⟩)
def Gw (c:TT) (t u:TS):TS:=λD σ H=>c σ H λb H1=>if b=true then t D σ H1 else u D σ H1
theorem Et {c:Expr}{a b:List Stmt}{tc:TT}(hc:PT X c tc) (ha:PSs X a t) (hb:PSs X b u):PS X (.If c a b pos) (Gw tc t u):=by
 intro pins s σ H D I h
 refine wpAny_If (thn (hc pins s σ H _ I h) λd s1 zz12=>?_)
 obtain ⟨H1,I1,q1⟩:=zz12
 cases d with
 |true=>exact ha pins s1 σ H1 D I1 q1
 |false=>exact hb pins s1 σ H1 D I1 q1
end
abbrev TG:=V->St->Hp->(St->Hp->Prop)->Prop
abbrev TGs:=List V->St->Hp->(St->Hp->Prop)->Prop
def PG (X:Cx) (target:Expr) (t:TG):Prop :=
 ∀ (pins:List (Addr×Obj)) (s:Shared) (σ:St) (H:Hp) (v:V) (u:Value) (Q:St->Hp->Prop),Inv X pins σ H s->av v u->t v σ H Q ->
  wpAny (model X.prog X.w) X.A (assign target X.env u) (λ_ s'=>∃ σ' H',Inv X pins σ' H' s'/\Q σ' H') X.xe s
def PGs (X:Cx) (ts:List Expr) (t:TGs):Prop :=
 ∀ (pins:List (Addr×Obj)) (s:Shared) (σ:St) (H:Hp) (vs:List V) (us:List Value) (Q:St->Hp->Prop),Inv X pins σ H s->ap vs us->t vs σ H Q ->
  wpAny (model X.prog X.w) X.A (assignInOrder ((assignEach ts X.env).map (·.2)) us) (λ_ s'=>∃ σ' H',Inv X pins σ' H' s'/\Q σ' H') X.xe s
abbrev kc:=V->V->V->Hp->(Hp->Prop)->Prop
def eI (X:Cx) (t:kc):Prop :=
 ∀ (pins:List (Addr×Obj)) (s:Shared) (σ:St) (H:Hp) (o i v:V) (ov iv u:Value) (Q:Hp->Prop),Inv X pins σ H s->av o ov->av i iv->av v u->t o i v H Q ->
  wpAny (model X.prog X.w) X.A (setItem ov iv u) (λ_ s'=>∃ H',Inv X pins σ H' s'/\Q H') X.xe s
section
variable {X:Cx}{pos:Pos}
def jS (i:Nat):TG:=λv σ H Q=>Q (σ.set i (some v)) H
theorem zv {i:Nat}{x:Str}(hN:X.N.Nodup) (hi:X.N[i]?=some x) (hx:Loc X.env.scope x) (hf:X.fn x=true\/X.env.scope.names.lookup x=some .local:=by first|exact .inl rfl|exact .inr rfl|assumption):PG X (.Name x pos) (jS i):=by
 intro pins s σ H v u Q I r h
 exact wpAny_assign_Name (kS I hN hi hx r (λs' I'=>⟨_,H,I',h⟩) hf)
def Gx:TGs:=λvs σ H Q=>vs=[]/\Q σ H
def tT (t:TG) (u:TGs):TGs:=λvs σ H Q=>∃ v r,vs=v::r/\t v σ H λσ' H'=>u r σ' H' Q
theorem zw:PGs X [] Gx:=by
 intro pins s σ H vs us Q I r h
 obtain ⟨e,h⟩:=h
 subst e
 cases r
 exact assignInOrder_nil ⟨σ,H,I,h⟩
theorem eX {e:Expr}{es:List Expr}{t:TG}{u:TGs}(h1:PG X e t) (h2:PGs X es u)
  (hs:(assignEach (e::es) X.env).map (·.2)=assign e X.env::(assignEach es X.env).map (·.2):=by rfl):PGs X (e::es) (tT t u):=by
 intro pins s σ H vs us Q I r h
 obtain ⟨v,vr,e1,h⟩:=h
 subst e1
 cases r with
 |cons r rr =>
  rw [hs]
  refine assignInOrder_cons (thn (h1 pins s σ H _ _ _ I r h) λ_ s1 zz13=>?_)
  obtain ⟨σ1,H1,I1,q1⟩:=zz13
  exact h2 pins s1 σ1 H1 _ _ Q I1 rr q1
def nG (K:PySem.W.Frag) (n:Nat) (t:TGs):TG:=λv σ H Q=>∃ a xs,v=.ref a/\SqT K H a xs/\xs.length=n/\t xs σ H Q
theorem BR {es:List Expr}{k:Nat}{t:TGs}{n:Nat}(hc:X.calm=true) (h:PGs X es t)
  (hn:(assignEach es X.env).length=n:=by rfl) (hst:(assignEach es X.env).findIdx? (·.1)=none:=by rfl):PG X (.Tuple es k pos) (nG X.K n t):=by
 intro pins s σ H v u Q I r hw
 obtain ⟨a,xs,e1,hq,hl,hw⟩:=hw
 subst e1
 cases r
 obtain ⟨its,rv,ht,hz⟩:=I.tuple hq
 refine assign_Tuple_tuple (I.ok.hd hc) ht (by simp [hn,<- hl,rv.length]) hst λh' hx=>?_
 have I1:Inv X pins σ H { s with heap:=h' }:=I.kept (t':=s.toks) λb o e=>hx b o (Nat.ne_of_lt (Heap.lt_size e)) e
 exact h pins _ σ H xs _ Q I1 (by simpa using rv) hw
def gY (to ti:TE) (t:kc):TG:=λv σ H Q=>to σ H λo H1=>ti σ H1 λi H2=>t o i v H2 λH3=>Q σ H3
theorem dO {o i:Expr}{to ti:TE}{t:kc}(ho:PE X o to) (hi:PE X i ti) (hs:eI X t)
  (ha:∀ v,assign (.Subscript o i pos) X.env v=(do
   let ov <- holding [v] (eval o X.env)
   let iv <- holding [v,ov] (eval i X.env)
   standAt pos
   holding [v,ov,iv] (setItem ov iv v)
   release [v,ov,iv] []):=by intro _;rfl):PG X (.Subscript o i pos) (gY to ti t):=by
 intro pins s σ H v u Q I r h
 rw [ha]
 refine wpAny_bind (wpAny_holding (thn (ho pins s σ H _ I h) λov s1 zz14=>?_))
 obtain ⟨x,H1,I1,r1,q1⟩:=zz14
 refine wpAny_bind (wpAny_holding (thn (hi pins s1 σ H1 _ I1 q1) λiv s2 zz15=>?_))
 obtain ⟨y,H2,I2,r2,q2⟩:=zz15
 refine wpAny_bind (wpAny_standAt (wpAny_bind (wpAny_holding (thn (hs pins s2 σ H2 x y v ov iv u _ I2 r1 r2 r q2) λ_ s3 zz16=>?_))))
 obtain ⟨H3,I3,q3⟩:=zz16
 exact wpAny_release ⟨σ,H3,I3,q3⟩
def iS (te:TE) (g:TG):TS:=λD σ H=>te σ H λx H1=>g x σ H1 D.nx
theorem dP {tg e:Expr}{te:TE}{g:TG}(he:PE X e te) (hg:PG X tg g) (hs:swapsWithSole [tg] e pos.line X.env=pure false:=by rfl) (hw:swappedStores [tg] e X.env=pure none:=by rfl)
  (h1:(assignEach [tg] X.env).map (·.2)=[assign tg X.env]:=by rfl):PS X (.Assign [tg] e pos) (iS te g):=by
 intro pins s σ H D I h
 refine wpAny_Assign_stores (thn (he pins s σ H _ I h) λv s1 ⟨x,H1,I1,r1,q1⟩=>?_) hs hw
 rw [h1]
 exact thn (hg pins s1 σ H1 x v _ I1 r1 q1) λ_ s2 q=>q
theorem BS {i:Nat}{x:Str}{e:Expr}{te:TE}{pos':Pos}(hN:X.N.Nodup) (hi:X.N[i]?=some x) (hx:Loc X.env.scope x) (he:PE X e te) (hs:swapsWith e (some (.Name x pos')) pos.line X.env=pure false:=by rfl) (hf:X.fn x=true\/X.env.scope.names.lookup x=some .local:=by first|exact .inl rfl|exact .inr rfl|assumption) :
  PS X (.Assign [.Name x pos'] e pos) (iS te (jS i)):=by
 intro pins s σ H D I h
 refine wpAny_Assign_Name (thn (he pins s σ H _ I h) λv s1 ⟨y,H1,I1,r1,q1⟩=>?_) hs
 exact kS I1 hN hi hx r1 (λs2 I2=>⟨_,H1,I2,q1⟩) hf
end
section
variable {X:Cx}{pos:Pos}
end
structure It where
 go:Nat->Hp->Prop
 yld:Nat->Hp->V->Hp->Prop
 stop:Nat->Hp->Prop
def cq (X:Cx) (pins:List (Addr×Obj)) (H:Hp) (b:Addr):Prop :=
 H b=none/\b≠X.env.locals/\b∉X.fs/\(b∈X.ex\/X.s₀.heap.objs.size<=b)/\(∀ x c,X.env.cells.lookup x=some c->c≠b)/\∀ p∈X.pn++pins,p.1≠b
theorem Inv.fpOk {X:Cx}{pins:List (Addr×Obj)}{σ:St}{H H':Hp}{s:Shared}{b:Addr}(I:Inv X pins σ H s) (hb:s.heap.objs.size<=b) (hn:H' b=none):cq X pins H' b:=by
 refine ⟨hn,Nat.ne_of_gt (Nat.lt_of_lt_of_le I.lt hb),I.nofs hb,.inr (Nat.le_trans I.sz hb),λx c e z=>?_,λp hp z=>?_⟩
 ·obtain ⟨v,q⟩:=I.cell x c e
  exact absurd (Nat.lt_of_lt_of_le q.lt (by rw [z];exact hb)) (Nat.lt_irrefl _)
 ·exact absurd (Nat.lt_of_lt_of_le (Heap.lt_size (I.pin p hp).1) (by rw [z];exact hb)) (Nat.lt_irrefl _)
structure Turn (P:Program) (w:World) (K:PySem.W.Frag) (tg:Expr) (J:It) (fp:List Addr) (it:Addr) (tn:Nat->Heap->Prop):Prop where
 mem:it∈fp
 obj:∀ i h,tn i h->∀ b∈fp,∃ o,h.get? b=some o/\∀ v,o.data≠.cell v
 keep:∀ i h h',tn i h->(∀ b∈fp,∀ o,h.get? b=some o->h'.get? b=some o)->tn i h'
 item:∀ (X:Cx),X.prog=P->X.w=w->X.K=K->X.calm=true->∀ (i:Nat) (pins:List (Addr×Obj)) (s:Shared) (σ:St) (H:Hp) (E:Value->Shared->Prop),Inv X pins σ H s->(∀ b∈fp,cq X pins H b)->tn i s.heap->J.go i H ->
  wpAny (model P w) X.A (pyNext (.ref it)) (λr s1=>∃ u,r=some u /\
   wpAny (model P w) X.A (letOwnedTupleGo tg (.ref it) u) (λ_ s2=>∃ x H',Inv X pins σ H' s2/\av x u/\J.yld i H x H'/\tn (i+1) s2.heap/\∀ b∈fp,H' b=none) E s1) E s
 done:∀ (X:Cx),X.prog=P->X.w=w->X.K=K->X.calm=true->∀ (i:Nat) (pins:List (Addr×Obj)) (s:Shared) (σ:St) (H:Hp) (E:Value->Shared->Prop),Inv X pins σ H s->(∀ b∈fp,cq X pins H b)->tn i s.heap->J.stop i H ->
  wpAny (model P w) X.A (pyNext (.ref it)) (λr s1=>r=none/\Inv X pins σ H s1) E s
 self:∀ (A:Around) (i:Nat) (s:Shared) (Q:Value->Shared->Prop) (E:Value->Shared->Prop),tn i s.heap->Q (.ref it) s->wpAny (model P w) A (pyIter (.ref it)) Q E s
abbrev TI:=St->Hp->(It->Hp->Prop)->Prop
def PIE (X:Cx) (pins:List (Addr×Obj)) (σ:St) (tg:Expr) (R:It->Hp->Prop) (itv:Value) (s2:Shared):Prop :=
 ∃ (it:Addr) (fp:List Addr) (tn:Nat->Heap->Prop) (J:It) (H':Hp),itv=.ref it/\Inv X pins σ H' s2/\Turn X.prog X.w X.K tg J fp it tn/\tn 0 s2.heap/\(∀ b∈fp,cq X pins H' b)/\R J H'
def PI (X:Cx) (tg iter:Expr) (wi:TI):Prop :=
 ∀ (pins:List (Addr×Obj)) (s:Shared) (σ:St) (H:Hp) (R:It->Hp->Prop),Inv X pins σ H s->wi σ H R ->
  wpAny (model X.prog X.w) X.A (eval iter X.env) (λv s1=>wpAny (model X.prog X.w) X.A (pyIter v) (PIE X pins σ tg R) X.xe s1) X.xe s
theorem mY {M:Model}{A:Around}{E:Value->Shared->Prop}{s:Shared}{tg:Expr}{it:Addr}{u:Value}{o:Obj}{n:String}{vs:Array Value}{Q:Unit->Shared->Prop}(ho:s.heap.get? it=some o) (hc:o.cls=.type n) (hd:o.data=.fields vs)
  (hn:["enumerate","zip","dict_itemiterator","dict_reverseitemiterator","odict_iterator","itertools.zip_longest","itertools.pairwise"].contains n=false) (hQ:Q () s):wpAny M A (letOwnedTupleGo tg (.ref it) u) Q E s:=by
 unfold letOwnedTupleGo
 cases tg<;>first
  |exact wpAny_pure hQ
  |(cases u<;>first
    |exact wpAny_pure hQ
    |(refine wpAny_bind (wpAny_load ho ?_)
      rw [hc,hd]
      show wpAny M A (if (["enumerate","zip","dict_itemiterator","dict_reverseitemiterator","odict_iterator","itertools.zip_longest","itertools.pairwise"].contains n&&vs[0]?==some (rawInt _))=true then _ else _) Q E s
      rw [if_neg (by intro h;rw [hn,Bool.false_and] at h;cases h)]
      exact wpAny_pure hQ))
def Itl (K:PySem.W.Frag) (a:Addr):It :=
 ⟨λi H=>∃ xs x,SqL K H a xs/\xs[i]?=some x,λi H x H'=>H'=H/\∀ xs,SqL K H a xs->xs[i]?=some x,λi H=>∃ xs,SqL K H a xs/\xs.length<=i⟩
def Itr (lo:Int) (n:Nat):It:=⟨λi _=>i<n,λi H x H'=>H'=H/\x=.int (lo+i),λi _=>n<=i⟩
theorem wH {P:Program}{w:World}{K:PySem.W.Frag}{tg:Expr}(a it:Addr):Turn P w K tg (Itl K a) [it] it (λi h=>h.IsListIter it a i) where
 mem:=by simp
 obj:=λi h st b hb=>by
  have e:b=it:=by simpa using hb
  subst e
  obtain ⟨o,e,c,d⟩:=st
  exact ⟨o,e,λv z=>by rw [d] at z;cases z⟩
 keep:=λi h h' st k=>st.at λo e=>k it (by simp) o e
 item:=by
  intro X hP hw hK hc i pins s σ H E I hf st hg
  subst hP hw hK
  obtain ⟨xs,x,hq,hx⟩:=hg
  obtain ⟨its,rv,p,hz⟩:=I.list hq
  obtain ⟨u,hu,ru⟩:=rv.get hx
  obtain ⟨f0,f1,f2,f3,f4,f5⟩:=hf it (by simp)
  refine wpAny_pyNext_list_item st p.isList (x:=u) (by simpa using hu) λh' st' sb=>?_
  have I1:Inv X pins σ H { s with heap:=h' }:=I.turned (t':=s.toks) (λb o hb e=>(sb.2 b hb).trans e) f0 f1 f3 f4 f5
  obtain ⟨o,e,c,d⟩:=id st'
  exact ⟨u,rfl,mY (s:={ s with heap:=h' }) e c d (by decide) ⟨x,H,I1,ru,⟨rfl,λys hy=>by rw [I.list_inj hy hq];exact hx⟩,st',λb hb=>(hf b hb).1⟩⟩
 done:=by
  intro X hP hw hK hc i pins s σ H E I hf st hg
  subst hP hw hK
  obtain ⟨xs,hq,hx⟩:=hg
  obtain ⟨its,rv,p,hz⟩:=I.list hq
  obtain ⟨f0,f1,f2,f3,f4,f5⟩:=hf it (by simp)
  have hl:=rv.length
  exact wpAny_pyNext_list_end (I.ok.hd hc) st p.isList (by simp;omega) λh' eb=>⟨rfl,I.turned (t':=s.toks) (λb o hb e=>eb b o hb e) f0 f1 f3 f4 f5⟩
 self:=λ_ _ _ _ _ st h=>wpAny_pyIter_listiter st h
theorem vX {P:Program}{w:World}{K:PySem.W.Frag}{tg:Expr}(it:Addr) (lo:Int) (n:Nat):Turn P w K tg (Itr lo n) [it] it (λi h=>IsRangeIter h it (lo+(i:Nat) * 1) ((n:Int) - (i:Nat)) 1) where
 mem:=by simp
 obj:=λi h st b hb=>by
  have e:b=it:=by simpa using hb
  subst e
  exact ⟨_,st,λv z=>by
   have z':Data.fields _=Data.cell v:=z
   cases z'⟩
 keep:=λi h h' st k=>k it (by simp) _ st
 item:=by
  intro X hP hw hK hc i pins s σ H E I hf st hg
  subst hP hw hK
  obtain ⟨f0,f1,f2,f3,f4,f5⟩:=hf it (by simp)
  have W:=Walks.range (prog:=X.prog) (w:=X.w) (I.ok.hd hc) it lo 1 n
  refine W.item i s _ _ hg st λv h' tk hv st' kk=>?_
  obtain ⟨t,rfl⟩:=hv
  have I1:Inv X pins σ H { s with heap:=h',toks:=tk }:=I.turned (λb o hb e=>kk b o (by simpa using hb) e) f0 f1 f3 f4 f5
  refine ⟨_,rfl,mY (s:={ s with heap:=h',toks:=tk }) (n:="range_iterator") st' rfl rfl (by decide) ⟨.int (lo+i),H,I1,⟨t,?_⟩,⟨rfl,rfl⟩,st',λb hb=>(hf b hb).1⟩⟩
  rw [Int.mul_one]
 done:=by
  intro X hP hw hK hc i pins s σ H E I hf st hg
  subst hP hw hK
  obtain ⟨f0,f1,f2,f3,f4,f5⟩:=hf it (by simp)
  exact wpAny_pyNext_range_end (I.ok.hd hc) st (by have:n<=i:=hg;omega) λh' eb=>⟨rfl,I.turned (t':=s.toks) (λb o hb e=>eb b o hb e) f0 f1 f3 f4 f5⟩
 self:=λ_ _ _ _ _ st h=>wpAny_pyIter_rangeiter st h
section
variable {X:Cx}{tg:Expr}
def Eu (K:PySem.W.Frag) (tl:TE):TI:=λσ H R=>tl σ H λx H1=>∃ a,x=.ref a/\(∃ xs,SqL K H1 a xs)/\R (Itl K a) H1
theorem zx {l:Expr}{tl:TE}(hl:PE X l tl):PI X tg l (Eu X.K tl):=by
 intro pins s σ H R I h
 refine thn (hl pins s σ H _ I h) λv s1 zz17=>?_
 obtain ⟨x,H1,I1,r1,q1⟩:=zz17
 obtain ⟨a,e,⟨xs,hq⟩,q⟩:=q1
 subst e
 cases r1
 obtain ⟨its,rv,p,hz⟩:=I1.list hq
 refine wpAny_pyIter_list p.isList ?_
 refine ⟨s1.heap.objs.size,[s1.heap.objs.size],_,_,H1,rfl,I1.kept (t':=s1.toks) λb o e=>Heap.get?_push_of_some _ e,wH a _,⟨_,Heap.get?_push_size _ rfl,rfl,rfl⟩,λb hb=>?_,q⟩
 have e:b=s1.heap.objs.size:=by simpa using hb
 subst e
 exact I1.fpOk (Nat.le_refl _) (I1.hok.fresh (Nat.le_refl _))
theorem qj {pins:List (Addr×Obj)}{σ:St}{H:Hp}{s:Shared}{R:It->Hp->Prop}{E:Value->Shared->Prop}{lo hi:Int}{t u v:Tok}{tk:Nat}(I:Inv X pins σ H s) (h1:-(2 ^ 62)<=lo) (h2:lo<2 ^ 62) (h3:-(2 ^ 62)<=hi) (h4:hi<2 ^ 62)
  (q:R (Itr lo (hi - lo).toNat) H):wpAny (model X.prog X.w) X.A (pyIter (.ref s.heap.objs.size)) (PIE X pins σ tg R) E { s with heap:=s.heap.push { cls:=.type "range",data:=.fields #[.int lo t,.int hi u,.int 1 v] },toks:=tk }:=by
 refine wpAny_pyIter_range (IsRange.new ..) (small_one h1 h2 h3 h4) ?_
 have I1:Inv X pins σ H { s with heap:=s.heap.push { cls:=.type "range",data:=.fields #[.int lo t,.int hi u,.int 1 v] },toks:=tk }:=I.kept λb o e=>Heap.get?_push_of_some _ e
 refine ⟨(s.heap.push { cls:=.type "range",data:=.fields #[.int lo t,.int hi u,.int 1 v] }).objs.size,[(s.heap.push { cls:=.type "range",data:=.fields #[.int lo t,.int hi u,.int 1 v] }).objs.size],_,_,H,rfl,
  I1.kept (t':=tk) λb o e=>Heap.get?_push_of_some _ e,vX _ lo (hi - lo).toNat,?_,λb hb=>?_,q⟩
 ·have e1:lo+((0:Nat):Int) * 1=lo:=by simp
  have e2:(((hi - lo).toNat:Nat):Int) - ((0:Nat):Int)=Builtin.Range.rangeSize lo hi 1:=by rw [rangeSize_one];split<;>omega
  show IsRangeIter _ _ (lo+((0:Nat):Int) * 1) ((((hi - lo).toNat:Nat):Int) - ((0:Nat):Int)) 1
  rw [e1,e2]
  exact Heap.get?_push_size _ rfl
 ·have e:b=(s.heap.push { cls:=.type "range",data:=.fields #[.int lo t,.int hi u,.int 1 v] }).objs.size:=by simpa using hb
  subst e
  exact I1.fpOk (Nat.le_refl _) (I1.hok.fresh (Nat.le_refl _))
def Ev (ta:TA):TI:=λσ H R=>ta σ H λvs H1=>∃ j:Int,vs=[.int j] /\ -(2 ^ 62)<=j/\j<2 ^ 62/\R (Itr 0 j.toNat) H1
def Ew (ta:TA):TI:=λσ H R=>ta σ H λvs H1=>∃ i j:Int,vs=[.int i,.int j]/\(-(2 ^ 62)<=i/\i<2 ^ 62 /\ -(2 ^ 62)<=j/\j<2 ^ 62)/\R (Itr i (j - i).toNat) H1
theorem wI {a:Expr}{ta:TA}{p pos:Pos}(hg:Gl X "range") (hm:X.mg "range"=none) (ha:PA X [a] ta) (hs:starEach [a] X.env=[(false,eval a X.env)]:=by rfl):PI X tg (.Call (.Name "range" p) [a] [] pos) (Ev ta):=by
 intro pins s σ H R I h
 refine Call_ (gK I hg hm boot_range (PyProof.Rows.callWith_type1 (thn (ha pos pins s σ H _ I h) λus s1 ⟨vs,H1,I1,r1,q1⟩=>?_) hs rfl))
 obtain ⟨j,e,q1,q2,q⟩:=q1
 subst e
 cases r1 with
 |cons r rr =>
  cases rr
  obtain ⟨t,rfl⟩:=r
  exact call_range_1 (qj I1 (by omega) (by omega) q1 q2 (by simpa using q))
theorem wJ {a b:Expr}{ta:TA}{p pos:Pos}(hg:Gl X "range") (hm:X.mg "range"=none) (ha:PA X [a,b] ta) (hs:starEach [a,b] X.env=[(false,eval a X.env),(false,eval b X.env)]:=by rfl) (hs2:starEach [b] X.env=[(false,eval b X.env)]:=by rfl) :
  PI X tg (.Call (.Name "range" p) [a,b] [] pos) (Ew ta):=by
 intro pins s σ H R I h
 refine Call_ (gK I hg hm boot_range (PyProof.Rows.callWith_type1 (thn (ha pos pins s σ H _ I h) λus s1 ⟨vs,H1,I1,r1,q1⟩=>?_) (by rw [hs,hs2]) (by rw [hs2];rfl)))
 obtain ⟨i,j,e,⟨q1,q2,q3,q4⟩,q⟩:=q1
 subst e
 cases r1 with
 |cons r rr =>
  cases rr with
  |cons r' rr =>
   cases rr
   obtain ⟨t,rfl⟩:=r
   obtain ⟨t',rfl⟩:=r'
   exact call_range_2 (qj I1 q1 q2 q3 q4 q)
def uN (wi:TI) (g:TG) (tb:TS):TS:=λD σ H=>wi σ H λJ H1=>∃ W:Nat->Nat->St->Hp->Prop,(∃ m,W 0 m σ H1)/\∀ i m σ H,W i m σ H ->
 (J.stop i H/\D.nx σ H)\/(J.go i H/\∃ N:St->Hp->Prop,(∀ σ' H',N σ' H'->∃ m',m'<m/\W (i+1) m' σ' H')/\∀ x H',J.yld i H x H'->g x σ H' λσ2 H2=>tb { D with nx:=N,ct:=N,bk:=D.nx } σ2 H2)
def ie (fp:List Addr) (h:Heap):List (Addr×Obj):=fp.filterMap λb=>(h.get? b).map λo=>(b,o)
theorem jl {fp:List Addr}{h:Heap}{b:Addr}{o:Obj}(hb:b∈fp) (e:h.get? b=some o):(b,o)∈ie fp h:=List.mem_filterMap.mpr ⟨b,hb,by rw [e];rfl⟩
theorem wK {fp:List Addr}{h:Heap}{p:Addr×Obj}(hp:p∈ie fp h):p.1∈fp/\h.get? p.1=some p.2:=by
 obtain ⟨b,hb,e⟩:=List.mem_filterMap.mp hp
 cases q:h.get? b with
 |none=>rw [q] at e;cases e
 |some o =>
  rw [q] at e
  have e':(b,o)=p:=Option.some.inj e
  subst e'
  exact ⟨hb,q⟩
theorem Inv.pinned {pins:List (Addr×Obj)}{σ:St}{H:Hp}{s:Shared}{fp:List Addr}(I:Inv X pins σ H s) (hf:∀ b∈fp,cq X pins H b) (ho:∀ b∈fp,∃ o,s.heap.get? b=some o/\∀ v,o.data≠.cell v):Inv X (pins++ie fp s.heap) σ H s :=
 I.pins_of λp hp=>(List.mem_append.mp hp).elim (λz=>I.pin p (List.mem_append_right _ z)) λz=>by
  obtain ⟨hb,e⟩:=wK z
  obtain ⟨f0,f1,f2,_⟩:=hf p.1 hb
  obtain ⟨o,e',d⟩:=ho p.1 hb
  rw [e] at e';cases e'
  exact ⟨e,f0,f1,f2,d⟩
theorem Inv.unpinned {pins pl:List (Addr×Obj)}{σ:St}{H:Hp}{s:Shared}(I:Inv X (pins++pl) σ H s):Inv X pins σ H s:=I.pins_of λp hp=>I.pin p (List.mem_append_right _ (List.mem_append_left _ hp))
theorem BT {iter:Expr}{body:List Stmt}{wi:TI}{g:TG}{tb:TS}{pos:Pos}(hp:PassesOwn (model X.prog X.w) X.A X.env X.xe) (hc:X.calm=true) (hi:PI X tg iter wi) (hg:PG X tg g) (hb:PSs X body tb)
  (hs:∀ x,foldedSetIterable iter X.env x=pure x:=by intro _;rfl):PS X (.For tg iter body [] pos) (uN wi g tb):=by
 intro pins s σ H D I h
 refine wpAny_For (thn (hi pins s σ H _ I h) λv s1 h1=>thn h1 λitv s2 h2=>?_) hs
 obtain ⟨it,fp,tn,J,H2,e,I2,T,st2,f2,W,⟨m0,w0⟩,turn⟩:=h2
 subst e
 -- what stays true of the iterator's objects through the loop
 have stat:∀ {H':Hp},(∀ b∈fp,H' b=none)->∀ b∈fp,cq X pins H' b:=λhn b hb=>⟨hn b hb,(f2 b hb).2⟩
 refine codeAny_forLoop_any (λn s'=>∃ i σ' H',Inv X pins σ' H' s'/\tn i s'.heap/\(∀ b∈fp,H' b=none)/\W i n σ' H') ?_ m0 ⟨0,σ,H2,I2,st2,λb hb=>(f2 b hb).1,w0⟩
 rintro n s3 ⟨i,σ3,H3,I3,st3,fr3,w3⟩
 rcases turn i n σ3 H3 w3 with ⟨stop,qn⟩|⟨go,N,hN,step⟩
 ·refine wpAny_passesOwn hp (thn (T.done X rfl rfl rfl hc i pins s3 σ3 H3 X.xe I3 (stat fr3) st3 stop) λr s4 ⟨hr,I4⟩=>?_)
  subst hr
  exact wpAny_execs_nil ⟨σ3,H3,I4,qn⟩
 ·refine wpAny_passesOwn hp (thn (T.item X rfl rfl rfl hc i pins s3 σ3 H3 X.xe I3 (stat fr3) st3 go) λr s4 ⟨u,hr,h4⟩=>?_)
  subst hr
  refine wpAny_passesOwn hp (thn h4 λ_ s5 zz18=>?_)
  obtain ⟨x,H5,I5,r5,y5,st5,fr5⟩:=zz18
  have I5':=I5.pinned (stat fr5) (T.obj _ _ st5)
  refine wpAny_passesOwn hp (thn (hg _ s5 σ3 H5 x u _ I5' r5 (step x H5 y5)) λ_ s6 zz19=>?_)
  obtain ⟨σ6,H6,I6,q6⟩:=zz19
  refine wpAny_passesOwn hp (thn (hb _ s6 σ6 H6 _ I6 q6) λf s7 q7=>?_)
  have again:∀ {σ7:St}{H7:Hp},Inv X (pins++ie fp s5.heap) σ7 H7 s7->N σ7 H7->∃ m,m<n/\∃ i σ' H',Inv X pins σ' H' s7/\tn i s7.heap/\(∀ b∈fp,H' b=none)/\W i m σ' H':=fun {σ7 H7} I7 n7=>by
   obtain ⟨m',hm,w7⟩:=hN σ7 H7 n7
   refine ⟨m',hm,i+1,σ7,H7,I7.unpinned,T.keep _ _ _ st5 λb hb o e=>(I7.pin (b,o) (List.mem_append_right _ (List.mem_append_right _ (jl hb e)))).1,λb hb=>?_,w7⟩
   obtain ⟨o,e,d⟩:=T.obj _ _ st5 b hb
   exact (I7.pin (b,o) (List.mem_append_right _ (List.mem_append_right _ (jl hb e)))).2.1
  cases f with
  |next=>obtain ⟨σ7,H7,I7,n7⟩:=q7;exact again I7 n7
  |cont=>obtain ⟨σ7,H7,I7,n7⟩:=q7;exact again I7 n7
  |brk=>obtain ⟨σ7,H7,I7,q7⟩:=q7;exact ⟨σ7,H7,I7.unpinned,q7⟩
  |ret v=>obtain ⟨x7,σ7,H7,I7,r7,q7⟩:=q7;exact ⟨x7,σ7,H7,I7.unpinned,r7,q7⟩
end
abbrev R2:=V->V->Hp->VK->Prop
def OpR (X:Cx) (f:Value->Value->Sem Value) (r:R2):Prop :=
 ∀ (pins:List (Addr×Obj)) (s:Shared) (σ:St) (H:Hp) (x y:V) (v u:Value) (Q:VK),Inv X pins σ H s->av x v->av y u->r x y H Q ->
  wpAny (model X.prog X.w) X.A (f v u) (EP X pins σ Q) X.xe s
def UnR (X:Cx) (f:Value->Sem Value) (r:V->Hp->VK->Prop):Prop :=
 ∀ (pins:List (Addr×Obj)) (s:Shared) (σ:St) (H:Hp) (x:V) (v:Value) (Q:VK),Inv X pins σ H s->av x v->r x H Q ->
  wpAny (model X.prog X.w) X.A (f v) (EP X pins σ Q) X.xe s
def bz (X:Cx) (f:Value) (r:List V->Hp->VK->Prop):Prop :=
 ∀ (pins:List (Addr×Obj)) (s:Shared) (σ:St) (H:Hp) (xs:List V) (us:List Value) (Q:VK),Inv X pins σ H s->ap xs us->r xs H Q ->
  wpAny (model X.prog X.w) X.A (call f us) (EP X pins σ Q) X.xe s
def Gy (X:Cx) (r:V->Hp->(Bool->Hp->Prop)->Prop):Prop :=
 ∀ (pins:List (Addr×Obj)) (s:Shared) (σ:St) (H:Hp) (x:V) (v:Value) (Q:Bool->Hp->Prop),Inv X pins σ H s->av x v->r x H Q ->
  wpAny (model X.prog X.w) X.A (truthy v) (TP X pins σ Q) X.xe s
def tOp (r:R2) (ta tb:TE):TE:=λσ H Q=>ta σ H λx H1=>tb σ H1 λy H2=>r x y H2 Q
def tUn (r:V->Hp->VK->Prop) (ta:TE):TE:=λσ H Q=>ta σ H λx H1=>r x H1 Q
def rI (C:Int->Int->Prop) (g:Int->Int->V):R2:=λx y H Q=>∃ i j,x=.int i/\y=.int j/\C i j/\Q (g i j) H
def rI0 (g:Int->Int->V):R2:=λx y H Q=>∃ i j,x=.int i/\y=.int j/\Q (g i j) H
def rU (g:Int->V):V->Hp->VK->Prop:=λx H Q=>∃ i,x=.int i/\Q (g i) H
section
variable {X:Cx}{a b c:Expr}{ta tb tc:TE}{pos:Pos}
theorem nH (ha:PE X a ta) (hb:PE X b tb){pins:List (Addr×Obj)}{s:Shared}{σ:St}{H:Hp}{R:V->V->Hp->Prop}(I:Inv X pins σ H s)
  (h:ta σ H λx H1=>tb σ H1 λy H2=>R x y H2){Q:Value->Shared->Prop}{f:Value->Value->Sem Value}
  (hf:∀ v u s2 x y H2,Inv X pins σ H2 s2->av x v->av y u->R x y H2->wpAny (model X.prog X.w) X.A (f v u) Q X.xe s2) :
  wpAny (model X.prog X.w) X.A (eval a X.env) (λv s₁=>wpAny (model X.prog X.w) X.A (eval b X.env) (λu s₂=>wpAny (model X.prog X.w) X.A (f v u) Q X.xe s₂) X.xe s₁) X.xe s:=by
 refine thn (ha pins s σ H _ I h) λv s1 zz20=>?_
 obtain ⟨x,H1,I1,r1,q1⟩:=zz20
 refine thn (hb pins s1 σ H1 _ I1 q1) λu s2 zz21=>?_
 obtain ⟨y,H2,I2,r2,q2⟩:=zz21
 exact hf v u s2 x y H2 I2 r1 r2 q2
theorem Ex {op:Operator}{r:R2}(ho:OpR X (binaryOp op) r) (ha:PE X a ta) (hb:PE X b tb):PE X (.BinOp a op b pos) (tOp r ta tb):=by
 intro pins s σ H Q I h
 exact wpAny_BinOp (nH ha hb I h λv u s2 x y H2 I2 rx ry q=>ho pins s2 σ H2 x y v u Q I2 rx ry q)
theorem Ey {op:UnaryOp}{r:V->Hp->VK->Prop}(ho:UnR X (unaryOp op) r) (ha:PE X a ta):PE X (.UnaryOp op a pos) (tUn r ta):=by
 intro pins s σ H Q I h
 exact UnaryOp_ (thn (ha pins s σ H _ I h) λv s1 zz22=>by obtain ⟨x,H1,I1,r1,q1⟩:=zz22;exact ho pins s1 σ H1 x v Q I1 r1 q1)
theorem opI {f:Value->Value->Sem Value}{C:Int->Int->Prop}{g:Int->Int->Int}
  (rule:∀ (i j:Int) (t u:Tok) (s:Shared) (Q:Value->Shared->Prop) (E:Value->Shared->Prop),C i j->Q (.int (g i j) s.toks) { s with toks:=s.toks+1 }->wpAny (model X.prog X.w) X.A (f (.int i t) (.int j u)) Q E s) :
  OpR X f (rI C λi j=>.int (g i j)):=by
 intro pins s σ H x y v u Q I rx ry h
 obtain ⟨i,j,rfl,rfl,hc,q⟩:=h
 obtain ⟨t,rfl⟩:=rx
 obtain ⟨t',rfl⟩:=ry
 exact rule i j t t' s _ _ hc ⟨.int (g i j),H,I.tok _,⟨_,rfl⟩,q⟩
theorem uO {f:Value->Value->Sem Value}{g:Int->Int->Int}
  (rule:∀ (i j:Int) (t u:Tok) (s:Shared) (Q:Value->Shared->Prop) (E:Value->Shared->Prop),Q (.int (g i j) s.toks) { s with toks:=s.toks+1 }->wpAny (model X.prog X.w) X.A (f (.int i t) (.int j u)) Q E s) :
  OpR X f (rI0 λi j=>.int (g i j)):=by
 intro pins s σ H x y v u Q I rx ry h
 obtain ⟨i,j,rfl,rfl,q⟩:=h
 obtain ⟨t,rfl⟩:=rx
 obtain ⟨t',rfl⟩:=ry
 exact rule i j t t' s _ _ ⟨.int (g i j),H,I.tok _,⟨_,rfl⟩,q⟩
theorem ke {f:Value->Value->Sem Value}{g:Int->Int->Bool}
  (rule:∀ (i j:Int) (t u:Tok) (s:Shared) (Q:Value->Shared->Prop) (E:Value->Shared->Prop),Q (.bool (g i j)) s->wpAny (model X.prog X.w) X.A (f (.int i t) (.int j u)) Q E s) :
  OpR X f (rI0 λi j=>.bl (g i j)):=by
 intro pins s σ H x y v u Q I rx ry h
 obtain ⟨i,j,rfl,rfl,q⟩:=h
 obtain ⟨t,rfl⟩:=rx
 obtain ⟨t',rfl⟩:=ry
 exact rule i j t t' s _ _ ⟨.bl (g i j),H,I,rfl,q⟩
def uP (i j:Int):Prop:=0<=j/\j<=1000000/\i.natAbs<2 ^ 64
def iT (i j:Int):Prop:=(-(2 ^ 64)<i/\i<2 ^ 64)\/(-(2 ^ 64)<j/\j<2 ^ 64)
theorem iT.ok {i j:Int}(h:iT i j):IntMulOk i j:=by
 rcases h with ⟨h1,h2⟩|⟨h1,h2⟩
 ·exact .of_left (intBits_le_64 h1 h2)
 ·exact .of_right (intBits_le_64 h1 h2)
theorem vY (k:Nat):(0:Int)<=2 ^ k:=by
 rw [two_pow_cast]
 exact Int.natCast_nonneg _
theorem BU:OpR X (binaryOp .Add) (rI0 λi j=>.int (i+j)):=uO λ_ _ _ _ _ _ _ q=>add_int q
theorem BV:OpR X (binaryOp .Sub) (rI0 λi j=>.int (i - j)):=uO λ_ _ _ _ _ _ _ q=>sub_int q
theorem BW:OpR X (binaryOp .Mult) (rI iT λi j=>.int (i * j)):=opI λ_ _ _ _ _ _ _ hc q=>mul_int q hc.ok
theorem BX:OpR X (binaryOp .Mod) (rI (λ_ j=>0<j) λi j=>.int (i % j)):=opI λi j _ _ _ _ _ hc q=>by
 have h1:(0:Int)<j:=hc
 exact mod_int' (by omega) (by rw [Int.fmod_eq_emod_of_nonneg i (by omega)];exact q)
theorem BY:OpR X (binaryOp .Pow) (rI uP λi j=>.int (i ^ j.toNat)):=opI λ_ _ _ _ _ _ _ hc q=>pow_int_small hc.1 hc.2.1 hc.2.2 q
theorem BZ:OpR X (binaryOp .RShift) (rI (λ_ j=>0<=j) λi j=>.int (i / 2 ^ j.toNat)):=opI λi j _ _ _ _ _ hc q =>
 rshift_int hc (by rw [Int.fdiv_eq_ediv_of_nonneg i (vY _)];exact q)
theorem unI {f:Value->Sem Value}{g:Int->Int}
  (rule:∀ (i:Int) (t:Tok) (s:Shared) (Q:Value->Shared->Prop) (E:Value->Shared->Prop),Q (.int (g i) s.toks) { s with toks:=s.toks+1 }->wpAny (model X.prog X.w) X.A (f (.int i t)) Q E s) :
  UnR X f (rU λi=>.int (g i)):=by
 intro pins s σ H x v Q I rx h
 obtain ⟨i,rfl,q⟩:=h
 obtain ⟨t,rfl⟩:=rx
 exact rule i t s _ _ ⟨.int (g i),H,I.tok _,⟨_,rfl⟩,q⟩
theorem B0:UnR X (unaryOp .USub) (rU λi=>.int (-i)):=unI λ_ _ _ _ _ q=>neg_int q
end
def uQ:V->V->Bool
 |.non,.non=>true|.non,.int _=>true|.int _,.non=>true|.non,.bl _=>true|.bl _,.non=>true|.non,.str _=>true|.str _,.non=>true
 |.int _,.int _=>true|.bl _,.bl _=>true|.str _,.str _=>true|.byt _,.byt _=>true
 |.int _,.str _=>true|.str _,.int _=>true|.bl _,.str _=>true|.str _,.bl _=>true
 |_,_=>false
def rEq:R2:=λx y H Q=>uQ x y=true/\Q (.bl (decide (x=y))) H
def rNe:R2:=λx y H Q=>uQ x y=true/\Q (.bl (!decide (x=y))) H
theorem qK {i j:Int}:decide (V.int i=V.int j)=(i==j):=by
 rw [Bool.eq_iff_iff]
 simp
theorem sf {i j:Bool}:decide (V.bl i=V.bl j)=(i==j):=by
 rw [Bool.eq_iff_iff]
 simp
theorem qL {i j:Str}:decide (V.str i=V.str j)=(i==j):=by
 rw [Bool.eq_iff_iff]
 simp
theorem qM {i j:Array UInt8}:decide (V.byt i=V.byt j)=(i.toList==j.toList):=by
 rw [Bool.eq_iff_iff]
 cases i
 cases j
 simp
section
variable {X:Cx}{a b c:Expr}{ta tb tc:TE}{pos:Pos}
theorem aS {pins:List (Addr×Obj)}{σ:St}{H:Hp}{s:Shared}{Q:VK}{k k':Bool}(I:Inv X pins σ H s) (q:Q (.bl k) H) (e:k=k'):EP X pins σ Q (.bool k') s:=by
 subst e
 exact ⟨.bl k,H,I,rfl,q⟩
theorem mZ:OpR X (compareOp .Eq) rEq:=by
 intro pins s σ H x y v u Q I rx ry h
 obtain ⟨hs,q⟩:=h
 cases x with
 |non =>
  cases rx
  cases y with
  |non=>cases ry;exact PySem.EqNone.eq_none_none (aS I q (by simp))
  |bl j=>cases ry;exact PySem.EqNone.eq_none_bool (aS I q (by simp))
  |int j=>obtain ⟨t',rfl⟩:=ry;exact PySem.EqNone.eq_none_int (aS I q (by simp))
  |str j=>obtain ⟨t',rfl⟩:=ry;exact PySem.EqNone.eq_none_str (aS I q (by simp))
  |_=>exact absurd (show false=true from hs) Bool.false_ne_true
 |bl i =>
  cases rx
  cases y with
  |non=>cases ry;exact PySem.EqNone.eq_bool_none (aS I q (by simp))
  |bl j=>cases ry;exact eq_bool (aS I q sf)
  |str j=>obtain ⟨t',rfl⟩:=ry;exact PySem.EqMixed.eq_bool_str (aS I q (by simp))
  |_=>exact absurd (show false=true from hs) Bool.false_ne_true
 |int i =>
  obtain ⟨t,rfl⟩:=rx
  cases y with
  |non=>cases ry;exact PySem.EqNone.eq_int_none (aS I q (by simp))
  |int j=>obtain ⟨t',rfl⟩:=ry;exact eq_int (aS I q qK)
  |str j=>obtain ⟨t',rfl⟩:=ry;exact PySem.EqMixed.eq_int_str (aS I q (by simp))
  |_=>exact absurd (show false=true from hs) Bool.false_ne_true
 |str i =>
  obtain ⟨t,rfl⟩:=rx
  cases y with
  |non=>cases ry;exact PySem.EqNone.eq_str_none (aS I q (by simp))
  |bl j=>cases ry;exact PySem.EqMixed.eq_str_bool (aS I q (by simp))
  |int j=>obtain ⟨t',rfl⟩:=ry;exact PySem.EqMixed.eq_str_int (aS I q (by simp))
  |str j=>obtain ⟨t',rfl⟩:=ry;exact eq_str (aS I q qL)
  |_=>exact absurd (show false=true from hs) Bool.false_ne_true
 |byt i =>
  obtain ⟨t,rfl⟩:=rx
  cases y with
  |byt j=>obtain ⟨t',rfl⟩:=ry;exact PySem.W.eq_bytes (aS I q qM)
  |_=>exact absurd (show false=true from hs) Bool.false_ne_true
 |_=>cases y<;>exact absurd (show false=true from hs) Bool.false_ne_true
theorem m3:OpR X (compareOp .NotEq) rNe:=by
 intro pins s σ H x y v u Q I rx ry h
 obtain ⟨hs,q⟩:=h
 cases x with
 |non =>
  cases rx
  cases y with
  |non=>cases ry;exact PySem.EqNone.ne_none_none (aS I q (by simp))
  |bl j=>cases ry;exact PySem.EqNone.ne_none_bool (aS I q (by simp))
  |int j=>obtain ⟨t',rfl⟩:=ry;exact PySem.EqNone.ne_none_int (aS I q (by simp))
  |str j=>obtain ⟨t',rfl⟩:=ry;exact PySem.EqNone.ne_none_str (aS I q (by simp))
  |_=>exact absurd (show false=true from hs) Bool.false_ne_true
 |bl i =>
  cases rx
  cases y with
  |non=>cases ry;exact PySem.EqNone.ne_bool_none (aS I q (by simp))
  |bl j=>cases ry;exact ne_bool (aS I q (congrArg not sf))
  |str j=>obtain ⟨t',rfl⟩:=ry;exact PySem.EqMixed.ne_bool_str (aS I q (by simp))
  |_=>exact absurd (show false=true from hs) Bool.false_ne_true
 |int i =>
  obtain ⟨t,rfl⟩:=rx
  cases y with
  |non=>cases ry;exact PySem.EqNone.ne_int_none (aS I q (by simp))
  |int j=>obtain ⟨t',rfl⟩:=ry;exact ne_int (aS I q (congrArg not qK))
  |str j=>obtain ⟨t',rfl⟩:=ry;exact PySem.EqMixed.ne_int_str (aS I q (by simp))
  |_=>exact absurd (show false=true from hs) Bool.false_ne_true
 |str i =>
  obtain ⟨t,rfl⟩:=rx
  cases y with
  |non=>cases ry;exact PySem.EqNone.ne_str_none (aS I q (by simp))
  |bl j=>cases ry;exact PySem.EqMixed.ne_str_bool (aS I q (by simp))
  |int j=>obtain ⟨t',rfl⟩:=ry;exact PySem.EqMixed.ne_str_int (aS I q (by simp))
  |str j=>obtain ⟨t',rfl⟩:=ry;exact ne_str (aS I q (congrArg not qL))
  |_=>exact absurd (show false=true from hs) Bool.false_ne_true
 |byt i =>
  obtain ⟨t,rfl⟩:=rx
  cases y with
  |byt j=>obtain ⟨t',rfl⟩:=ry;exact PySem.W.ne_bytes (aS I q (congrArg not qM))
  |_=>exact absurd (show false=true from hs) Bool.false_ne_true
 |_=>cases y<;>exact absurd (show false=true from hs) Bool.false_ne_true
theorem Ez:OpR X (compareOp .Lt) (rI0 λi j=>.bl (decide (i<j))):=ke λ_ _ _ _ _ _ _ q=>lt_int q
theorem EA:OpR X (compareOp .LtE) (rI0 λi j=>.bl (decide (i<=j))):=ke λ_ _ _ _ _ _ _ q=>le_int q
theorem EB:OpR X (compareOp .Gt) (rI0 λi j=>.bl (decide (j<i))):=ke λ_ _ _ _ _ _ _ q=>gt_int q
theorem EC:OpR X (compareOp .GtE) (rI0 λi j=>.bl (decide (j<=i))):=ke λ_ _ _ _ _ _ _ q=>ge_int q
theorem wL:OpR X (compareOp .Lt) (λx y H Q=>∃ i j,x=.str i/\y=.str j/\Q (.bl (decide (i.cps.toList<j.cps.toList))) H):=by
 intro pins s σ H x y v u Q I rx ry h
 obtain ⟨i,j,rfl,rfl,q⟩:=h
 obtain ⟨t,rfl⟩:=rx
 obtain ⟨t',rfl⟩:=ry
 exact lt_str (aS I q rfl)
theorem B1:OpR X (compareOp .Is) (λx y H Q=>y=.non/\Q (.bl (decide (x=.non))) H):=by
 intro pins s σ H x y v u Q I rx ry h
 obtain ⟨rfl,q⟩:=h
 cases ry
 refine is_none_gen (aS I q ?_)
 cases x<;>first
  |(cases rx;rfl)
  |(obtain ⟨t,rfl⟩:=rx;rfl)
theorem vJ:OpR X (compareOp .NotIn) (λx y H Q=>∃ i j,x=.str i/\y=.str j/\Q (.bl (!(!(Builtin.Str.occurrences j i 0 j.length 1).isEmpty))) H):=by
 intro pins s σ H x y v u Q I rx ry h
 obtain ⟨i,j,rfl,rfl,q⟩:=h
 obtain ⟨t,rfl⟩:=rx
 obtain ⟨t',rfl⟩:=ry
 exact notIn_str (aS I q rfl)
theorem ay (b:Expr){op:CmpOp}(h:op≠.In:=by decide) (h2:op≠.NotIn:=by decide):behindInMarks op b=false:=by
 have e1:(op==CmpOp.In)=false:=by cases op<;>first|rfl|exact absurd rfl h
 have e2:(op==CmpOp.NotIn)=false:=by cases op<;>first|rfl|exact absurd rfl h2
 cases b<;>simp [behindInMarks,e1,e2]
theorem zy {op:CmpOp}{r:R2}(ho:OpR X (compareOp op) r) (ha:PE X a ta) (hb:PE X b tb) (hm:behindInMarks op b=false):PE X (.Compare a [op] [b] pos) (tOp r ta tb):=by
 intro pins s σ H Q I h
 exact wpAny_Compare1 (nH ha hb I h λv u s2 x y H2 I2 rx ry q=>ho pins s2 σ H2 x y v u Q I2 rx ry q) hm
def m5 (t:TE):TT:=λσ H Q=>t σ H λx H'=>∃ k,x=.bl k/\Q k H'
theorem zA {op:CmpOp}{r:R2}(ho:OpR X (compareOp op) r) (ha:PE X a ta) (hb:PE X b tb) (hm:behindInMarks op b=false):PT X (.Compare a [op] [b] pos) (m5 (tOp r ta tb)):=by
 intro pins s σ H Q I h
 refine wpAny_isTrue_Compare1 (thn (ha pins s σ H _ I h) λv s1 ⟨x,H1,I1,r1,q1⟩=>thn (hb pins s1 σ H1 _ I1 q1) λu s2 ⟨y,H2,I2,r2,q2⟩ =>
  thn (ho pins s2 σ H2 x y v u _ I2 r1 r2 q2) λc s3 ⟨z,H3,I3,r3,k,e,q3⟩=>?_) hm
 subst e
 cases r3
 exact wpAny_truthy_bool ⟨H3,I3,q3⟩
def me (r r':R2) (ta tb tc:TE):TE:=λσ H Q=>ta σ H λx H1=>tb σ H1 λy H2=>r x y H2 λz H3=>∃ k,z=.bl k /\
 (if k=true then tc σ H3 λw' H4=>r' y w' H4 Q else Q (.bl false) H3)
theorem xH {op op':CmpOp}{r r':R2}(ho:OpR X (compareOp op) r) (ho':OpR X (compareOp op') r') (ha:PE X a ta) (hb:PE X b tb) (hc:PE X c tc)
  (hm:lastMarks [op,op'] [b,c]=false:=by with_unfolding_all rfl):PE X (.Compare a [op,op'] [b,c] pos) (me r r' ta tb tc):=by
 intro pins s σ H Q I h
 refine Compare_chain (thn (ha pins s σ H _ I h) λv s1 ⟨x,H1,I1,r1,q1⟩=>chain_link (thn (hb pins s1 σ H1 _ I1 q1) λu s2 ⟨y,H2,I2,r2,q2⟩ =>
  thn (ho pins s2 σ H2 x y v u _ I2 r1 r2 q2) λd s3 ⟨z,H3,I3,r3,k,e,q3⟩=>?_)) hm
 subst e
 cases r3
 refine wpAny_truthy_bool ?_
 cases k with
 |false=>exact ite_ff ⟨.bl false,H3,I3,rfl,q3⟩
 |true=>exact ite_tt (chain_last (thn (hc pins s3 σ H3 _ I3 q3) λw' s4 ⟨z',H4,I4,r4,q4⟩=>ho' pins s4 σ H4 y z' u w' Q I4 r2 r4 q4))
theorem xI {op op':CmpOp}{r r':R2}(ho:OpR X (compareOp op) r) (ho':OpR X (compareOp op') r') (ha:PE X a ta) (hb:PE X b tb) (hc:PE X c tc)
  (hm:lastMarks [op,op'] [b,c]=false:=by with_unfolding_all rfl):PT X (.Compare a [op,op'] [b,c] pos) (m5 (me r r' ta tb tc)):=by
 intro pins s σ H Q I h
 refine isTrue_chain (thn (ha pins s σ H _ I h) λv s1 ⟨x,H1,I1,r1,q1⟩=>test_link (thn (hb pins s1 σ H1 _ I1 q1) λu s2 ⟨y,H2,I2,r2,q2⟩ =>
  thn (ho pins s2 σ H2 x y v u _ I2 r1 r2 q2) λd s3 ⟨z,H3,I3,r3,k,e,q3⟩=>?_)) hm
 subst e
 cases r3
 refine wpAny_truthy_bool ?_
 cases k with
 |false =>
  obtain ⟨k',e',q'⟩:=q3
  cases e'
  exact ite_ff ⟨H3,I3,q'⟩
 |true =>
  refine ite_tt (test_last (thn (hc pins s3 σ H3 _ I3 q3) λw' s4 zz23=>?_))
  obtain ⟨z',H4,I4,r4,q4⟩:=zz23
  refine thn (ho' pins s4 σ H4 y z' u w' _ I4 r2 r4 q4) λd' s5 zz24=>?_
  obtain ⟨z2,H5,I5,r5,k2,e2,q5⟩:=zz24
  subst e2
  cases r5
  exact wpAny_truthy_bool ⟨H5,I5,q5⟩
def uR (K:PySem.W.Frag) (x:V) (H:Hp) (k:Bool):Prop :=
 match x with
 |.non=>k=false
 |.bl b=>k=b
 |.int i=>k=(i != 0)
 |.str y=>y.length<=sizeLine/\k=((y.length:Int) != 0)
 |.byt y=>y.size<=sizeLine/\k=((y.size:Int) != 0)
 |.ref p=>(∃ xs,SqL K H p xs/\k=!xs.isEmpty)\/(∃ xs,SqT K H p xs/\k=!xs.isEmpty)\/∃ kvs,H p=some (.dK kvs)/\k=!kvs.isEmpty
 |_=>False
theorem vZ {κ:Type}{kvs:List (κ×V)}{vs:List (κ×Value)}(r:KV kvs vs):(!vs.isEmpty)=!kvs.isEmpty:=by
 cases r<;>rfl
theorem py {xs:List V}{its:List Value}(r:ap xs its):(!its.toArray.isEmpty)=!xs.isEmpty:=by
 cases r<;>simp
theorem e9:(sizeLine:Nat)<2 ^ 63:=by rw [sizeLine_eq];decide
theorem B2:Gy X (λx H Q=>∃ k,uR X.K x H k/\Q k H):=by
 intro pins s σ H x v Q I rx h
 obtain ⟨k,e,q⟩:=h
 have hl:=e9
 have hs:sizeLine=16777216:=sizeLine_eq
 cases x with
 |non =>
  cases rx
  have e':k=false:=e
  subst e'
  exact truthy_none ⟨H,I,q⟩
 |bl b =>
  cases rx
  have e':k=b:=e
  subst e'
  exact wpAny_truthy_bool ⟨H,I,q⟩
 |int i =>
  obtain ⟨t,rfl⟩:=rx
  have e':k=(i != 0):=e
  subst e'
  exact PySem.P.truthy_int ⟨H,I,q⟩
 |str y =>
  obtain ⟨t,rfl⟩:=rx
  obtain ⟨hy,e'⟩:y.length<=sizeLine/\k=((y.length:Int) != 0):=e
  subst e'
  exact PySem.P.truthy_str (by omega) ⟨H,I.tok _,q⟩
 |byt y =>
  obtain ⟨t,rfl⟩:=rx
  obtain ⟨hy,e'⟩:y.size<=sizeLine/\k=((y.size:Int) != 0):=e
  subst e'
  exact PySem.W.truthy_bytes (by omega) ⟨H,I.tok _,q⟩
 |ref p =>
  cases rx
  have e':(∃ xs,SqL X.K H p xs/\k=!xs.isEmpty)\/(∃ xs,SqT X.K H p xs/\k=!xs.isEmpty)\/∃ kvs,H p=some (.dK kvs)/\k=!kvs.isEmpty:=e
  rcases e' with ⟨xs,hx,e'⟩|⟨xs,hx,e'⟩|⟨kvs,hx,e'⟩
  ·subst e'
   obtain ⟨its,r,pl,hz⟩:=I.list hx
   have hlen:=r.length
   exact wpAny_truthy_list pl.isList (by simp only [List.size_toArray];omega) ⟨H,I.tok _,by rw [py r];exact q⟩
  ·subst e'
   obtain ⟨its,r,pl,hz⟩:=I.tuple hx
   have hlen:=r.length
   exact truthy_tuple pl (by simp only [List.size_toArray];omega) ⟨H,I.tok _,by rw [py r];exact q⟩
  ·subst e'
   obtain ⟨hz,hS,vs,r,m⟩:kvs.length<=sizeLine/\(p==sysModules)=false/\∃ vs,KV kvs vs/\s.heap.DictOf (a6 X.prog X.w) p vs:=I.hok p _ hx
   have hlen:kvs.length=vs.length:=Paired.length r
   exact wpAny_truthy_dict hS m (by omega) ⟨H,I.tok _,by rw [vZ r];exact q⟩
 |_=>exact (show False from e).elim
theorem xJ (ha:PE X a ta) (he:∀ whole,isTrue a X.env whole=(do let v <- whole;standAt a.pos;holding [v] (truthy v))) :
  PT X a (λσ H Q=>ta σ H λx H'=>∃ k,uR X.K x H' k/\Q k H'):=by
 intro pins s σ H Q I h
 exact isTrue_plain (thn (ha pins s σ H _ I h) λv s1 zz25=>by obtain ⟨x,H1,I1,r1,q1⟩:=zz25;exact B2 pins s1 σ H1 x v Q I1 r1 q1) (he _)
theorem v3:OpR X (binaryOp .Add) (λx y H Q=>∃ i j,x=.str i/\y=.str j/\i.length+j.length<=sizeLine/\Q (.str (i++j)) H):=by
 intro pins s σ H x y v u Q I rx ry h
 obtain ⟨i,j,rfl,rfl,hz,q⟩:=h
 obtain ⟨t,rfl⟩:=rx
 obtain ⟨t',rfl⟩:=ry
 exact add_str (λt' tk=>⟨.str (i++j),H,I.tok _,⟨_,rfl⟩,q⟩) hz
theorem vR:OpR X (inplaceOp .Add) (λx y H Q=>∃ i j,x=.str i/\y=.str j/\i.length+j.length<=sizeLine/\Q (.str (i++j)) H):=by
 intro pins s σ H x y v u Q I rx ry h
 obtain ⟨i,j,rfl,rfl,hz,q⟩:=h
 obtain ⟨t,rfl⟩:=rx
 obtain ⟨t',rfl⟩:=ry
 exact iadd_str (λt' tk=>⟨.str (i++j),H,I.tok _,⟨_,rfl⟩,q⟩) hz
theorem cg {x:V}{us:List Value}(r:ap [x] us):∃ u,us=[u]/\av x u:=by
 cases r with
 |cons r1 r2=>cases r2;exact ⟨_,rfl,r1⟩
theorem jT {x y:V}{us:List Value}(r:ap [x,y] us):∃ u w',us=[u,w']/\av x u/\av y w':=by
 cases r with
 |cons r1 r2 =>
  cases r2 with
  |cons r3 r4=>cases r4;exact ⟨_,_,rfl,r1,r3⟩
end
structure ObjM (h:Heap) (x dx C:Addr) (mA:Str->Option Value):Prop where
 obj:h.get? x=some (PySem.W.instObj C dx)
 ns:h.Ns1 dx mA
 ne:dx≠x
theorem wM {h:Heap}{dx:Addr}{mA:Str->Option Value}(n:h.Ns1 dx mA):∃ od,h.get? dx=some od/\∀ name,PySem.W.lookIn name od=some (mA name):=by
 obtain ⟨o,es,ep,ho,hd,hk,_,hm⟩:=n
 refine ⟨o,ho,λname=>?_⟩
 have e:=hm name
 unfold nsFind findBy at e
 rw [<- Array.find?_toList] at e
 unfold PySem.W.lookIn
 rw [hd]
 dsimp only
 split
 ·rename_i y q
  rw [q] at e
  exact congrArg some e
 ·rename_i q
  rw [q] at e
  have a:es.toList.any (·.refKey)=false:=by
   rw [List.any_eq_false]
   intro y hy
   obtain ⟨z,t,hkey⟩:=hk y (Array.mem_toList_iff.mp hy)
   simp [DictEntry.refKey,hkey]
  have a':¬ es.toList.any (·.refKey)=true:=by rw [a];exact Bool.false_ne_true
  rw [if_neg a']
  exact congrArg some e
theorem ObjM.look {h:Heap}{x dx C:Addr}{mA:Str->Option Value}(I:ObjM h x dx C mA):∃ od,PySem.W.InstAt h x (PySem.W.instObj C dx) C (some od)/\∀ name,PySem.W.lookIn name od=some (mA name) :=
 let ⟨od,ho,hl⟩:=wM I.ns
 ⟨od,⟨I.obj,rfl,rfl,ho⟩,hl⟩
section
variable {prog:Program}{w:World}{A:Around}{E:Value->Shared->Prop}{s:Shared}{K:PySem.W.Frag}{x dx C f:Addr}{mA:Str->Option Value}{name:Str}{v:Value}
theorem zB {expr:Bool}{Q:Value->Shared->Prop}(X:K.In s.heap) (I:ObjM s.heap x dx C mA) (hg:PySem.W.plainGet K C name=true) (hh:PySem.W.hasDictIn K C=true)
  (ha:PySem.W.findIn K (.ref C) name=some none) (hv:mA name=some v) (hv':PySem.W.handedIn v=true) (h:Q v { s with toks:=s.toks+1 }) :
  wpAny (model prog w) A (getAttr (.ref x) name expr) Q E s:=by
 obtain ⟨od,J,hl⟩:=I.look
 exact PySem.W.get_value X J (PySem.W.plainGet_of hg).1 (PySem.W.findObj_own hh ha rfl (by rw [hl,hv])) hv' h
theorem xK {pl:Sem Bool}{Q:Value×List Value->Shared->Prop}(X:K.In s.heap) (I:ObjM s.heap x dx C mA) (hg:PySem.W.plainGet K C name=true)
  (hf:PySem.W.findIn K (.ref C) name=some (some (.ref f))) (ht:PySem.W.isFn K (.ref f)=true) (hv:mA name=none) (h:Q (.ref f,[.ref x]) s) :
  wpAny (model prog w) A (getMethod (.ref x) name pl) Q E s:=by
 obtain ⟨od,J,hl⟩:=I.look
 exact PySem.W.method_fn X J (PySem.W.plainGet_of hg).1 (PySem.W.plainGet_of hg).2 hf (beq_iff_eq.mp ht) (by show (PySem.W.lookIn name od).map (·.isSome)=some false;rw [hl,hv];rfl) h
theorem zC {ns:List Str}{Q:Unit->Shared->Prop}(X:K.In s.heap) (I:ObjM s.heap x dx C mA)
  (hs:PySem.W.findIn K (.ref C) "__setattr__"=some (some (.builtin "object.__setattr__"))) (hp:PySem.W.plainOver K C=true) (ht:PySem.W.takerIn K C name=some none) (hh:PySem.W.hasDictIn K C=true)
  (hw:PySem.Within mA ns) (hsz:ns.length<=sizeLine)
  (h:∀ h',ObjM h' x dx C (λy=>if y=name then some v else mA y)->Heap.SameBut dx s.heap h'->Q () { s with heap:=h',toks:=s.toks+2 }) :
  wpAny (model prog w) A (setAttr (.ref x) name v) Q E s:=by
 obtain ⟨od,J,hl⟩:=I.look
 refine PySem.W.set_plain X J hs (PySem.W.osa_open (s:={ s with toks:=s.toks+1 }) (r:=none) X J hp ht λb=>?_)
 obtain ⟨cd,hc,hd'⟩:=PySem.W.any_some hh
 have hx:s.heap.get? x=some ⟨.ref C,some dx,.plain,#[]⟩:=I.obj
 refine wpAny_bind (wpAny_pure (wpAny_bind (wpAny_bind (wpAny_loadPart hx (wpAny_bind (PySem.W.Looks.here (s:={ s with toks:=s.toks+1 }) (PySem.W.looks_clsIn X hc) ?_))))))
 rw [hd']
 refine wpAny_pure (a:=some dx) (wpAny_bind (wpAny_pure (wpAny_bind ?_)))
 refine wpAny_nsSet1 (s:={ s with toks:=s.toks+1 }) I.ns λh' hn2 hs2=>?_
 obtain ⟨oD,esD,epD,hoD,hdD,hcD⟩:=hn2.count (PySem.Within.cons name v hw)
 refine wpAny_bind (wpAny_lookBehind hoD (by rw [hdD];exact pastItsLine_dict (Nat.le_trans hcD (by rw [List.length_cons];omega))) ?_)
 exact wpAny_pure (h _ ⟨(hs2.2 _ (Ne.symm I.ne)).trans I.obj,hn2,I.ne⟩ hs2)
theorem xL {R:Result->Shared->Prop}{vs:List Value}{kw:List (Str×Value)}(X:K.In s.heap) (hm:PySem.W.makesIn K C=true)
  (hi:PySem.W.findIn K (.ref C) "__init__"=some (some (.ref f))) (hf:PySem.W.typeIn K (.ref f)=some (.type "function"))
  (h:codeAny (model prog w) (A.under (.builtin "type.__call__" ⟨.ref C::vs,kw⟩)) (.call (.ref f) ⟨.ref (s.heap.objs.size+1)::vs,kw⟩) (PySem.W.InitBack (s.heap.objs.size+1) R)
   { s with heap:=(s.heap.push PySem.W.emptyDict).push (PySem.W.instObj C s.heap.objs.size) }) :
  codeAny (model prog w) A (.call (.ref C) ⟨vs,kw⟩) R s:=by
 obtain ⟨hh,g,d,t,os⟩:=s
 exact PySem.W.make_core (PySem.W.makes_of X hm) (PySem.W.looks_findIn X hi) (λself=>PySem.W.bind_fn X self hf) (.inl rfl) h
end
def bo (f:Str) (v:V):List (Str×V)->List (Str×V)
 |[]=>[(f,v)]
 |(g,x)::r=>if g=f then (g,v)::r else (g,x)::bo f v r
theorem oX (f g:Str) (v:V):∀ fs:List (Str×V),(bo f v fs).lookup g=if g=f then some v else fs.lookup g
 |[]=>by
  show List.lookup g [(f,v)]=_
  by_cases h:g=f
  ·have hb:(g==f)=true:=beq_iff_eq.mpr h
   simp only [List.lookup,hb,if_pos h]
  ·have hb:(g==f)=false:=beq_eq_false_iff_ne.mpr h
   simp only [List.lookup,hb,if_neg h]
 |(k,x)::r=>by
  have ih:=oX f g v r
  rw [show bo f v ((k,x)::r)=(if k=f then (k,v)::r else (k,x)::bo f v r) from rfl]
  by_cases hk:k=f
  ·rw [if_pos hk]
   by_cases h:g=k
   ·have hb:(g==k)=true:=beq_iff_eq.mpr h
    simp only [List.lookup,hb,if_pos (h.trans hk)]
   ·have hb:(g==k)=false:=beq_eq_false_iff_ne.mpr h
    simp only [List.lookup,hb,if_neg (λe:g=f=>h (e.trans hk.symm))]
  ·rw [if_neg hk]
   by_cases h:g=k
   ·have hb:(g==k)=true:=beq_iff_eq.mpr h
    simp only [List.lookup,hb,if_neg (λe:g=f=>hk (h.symm.trans e))]
   ·have hb:(g==k)=false:=beq_eq_false_iff_ne.mpr h
    simp only [List.lookup,hb]
    exact ih
theorem kK (f:Str) (v:V):∀ fs:List (Str×V),f∈(bo f v fs).map (·.1)/\∀ g,g∈fs.map (·.1)->g∈(bo f v fs).map (·.1)
 |[]=>⟨by simp [bo],λg h=>by simp at h⟩
 |(k,x)::r=>by
  obtain ⟨i1,i2⟩:=kK f v r
  rw [show bo f v ((k,x)::r)=(if k=f then (k,v)::r else (k,x)::bo f v r) from rfl]
  by_cases hk:k=f
  ·rw [if_pos hk]
   subst hk
   exact ⟨by simp,λg h=>by simpa using h⟩
  ·rw [if_neg hk]
   refine ⟨?_,λg h=>?_⟩
   ·rw [List.map_cons]
    exact List.mem_cons_of_mem _ i1
   ·rw [List.map_cons] at h ⊢
    rcases List.mem_cons.mp h with e|e
    ·exact List.mem_cons.mpr (.inl e)
    ·exact List.mem_cons_of_mem _ (i2 g e)
theorem oY (f:Str) (v:V):∀ fs:List (Str×V),(bo f v fs).length<=fs.length+1
 |[]=>by simp [bo]
 |(k,x)::r=>by
  have ih:=oY f v r
  rw [show bo f v ((k,x)::r)=(if k=f then (k,v)::r else (k,x)::bo f v r) from rfl]
  by_cases hk:k=f
  ·rw [if_pos hk,List.length_cons,List.length_cons];omega
  ·rw [if_neg hk,List.length_cons,List.length_cons];omega
theorem bA.some_of {v:V}{o:Option Value}(r:bA (some v) o):∃ u,o=some u/\av v u:=by
 cases o with
 |none=>exact (show False from r).elim
 |some u=>exact ⟨u,rfl,r⟩
theorem bA.none_of {o:Option Value}(r:bA none o):o=none:=by
 cases o with
 |none=>rfl
 |some u=>exact (show False from r).elim
theorem wN {v:V}{u:Value}(r:av v u):PySem.W.handedIn u=true:=by
 cases v with
 |non=>cases (show u=Value.none from r);rfl
 |bl b=>cases (show u=Value.bool b from r);rfl
 |int i=>obtain ⟨t,e⟩:=(show ∃ t,u=Value.int i t from r);cases e;rfl
 |str x=>obtain ⟨t,e⟩:=(show ∃ t,u=Value.str x t from r);cases e;rfl
 |byt b=>obtain ⟨t,e⟩:=(show ∃ t,u=Value.bytes b t from r);cases e;rfl
 |flt b=>obtain ⟨t,e⟩:=(show ∃ t,u=Value.float b t from r);cases e;rfl
 |ref a=>cases (show u=Value.ref a from r);rfl
 |ty n=>cases (show u=Value.type n from r);rfl
section
variable {P:Program}{w:World}{H H':Hp}{h h':Heap}{a C dx:Addr}{fs fs':List (Str×V)}
theorem hW (hok:HOk P w H h) (e:H a=some (.ins C dx fs)):∃ mA,ObjM h a dx C mA/\(∀ f,bA (fs.lookup f) (mA f))/\PySem.Within mA (fs.map (·.1))/\fs.length<=1000/\H dx=some (.own a):=by
 obtain ⟨d,z,ne,ob,mA,n,r,q⟩:=(show aT P w H h a (.ins C dx fs) from hok a _ e)
 exact ⟨mA,⟨ob,n,ne⟩,r,q,z,d⟩
end
structure Cls (K:PySem.W.Frag) (C:Addr):Prop where
 pg:PySem.W.plainGet K C Str.empty=true
 hd:PySem.W.hasDictIn K C=true
 po:PySem.W.plainOver K C=true
 sa:PySem.W.findIn K (.ref C) "__setattr__"=some (some (.builtin "object.__setattr__"))
theorem Cls.get {K:PySem.W.Frag}{C:Addr}(c:Cls K C) (f:Str):PySem.W.plainGet K C f=true:=c.pg
def aN (K:PySem.W.Frag) (C:Addr) (f:Str):Prop:=PySem.W.findIn K (.ref C) f=some none
theorem aN.taker {K:PySem.W.Frag}{C:Addr}{f:Str}(n:aN K C f):PySem.W.takerIn K C f=some none:=by
 unfold PySem.W.takerIn
 rw [show PySem.W.findIn K (.ref C) f=some none from n]
 rfl
structure Con (K:PySem.W.Frag) (C:Addr) (f:Str) (v:V) (u:Value):Prop where
 at_:PySem.W.findIn K (.ref C) f=some (some u)
 rel:av v u
 get:PySem.W.specialIn K u "__get__"=some none
 cp:PySem.W.copiedNames.contains f=false
structure Meth (K:PySem.W.Frag) (C:Addr) (m:Str) (f:Addr):Prop where
 at_:PySem.W.findIn K (.ref C) m=some (some (.ref f))
 fn:PySem.W.isFn K (.ref f)=true
 kp:PySem.W.keepIn K (.ref f)=true
section
variable {X:Cx}{pins:List (Addr×Obj)}{σ:St}{H:Hp}{s:Shared}{a C dx:Addr}{fs:List (Str×V)}{f:Str}{v:V}{A:Around}{E:Value->Shared->Prop}
theorem pA {b:Bool}{Q:Value->Shared->Prop}(I:Inv X pins σ H s) (e:H a=some (.ins C dx fs)) (c:Cls X.K C) (n:aN X.K C f) (l:fs.lookup f=some v)
  (h:∀ u s',Inv X pins σ H s'->av v u->Q u s'):wpAny (model X.prog X.w) A (getAttr (.ref a) f b) Q E s:=by
 obtain ⟨mA,O,r,_,_,_⟩:=hW I.hok e
 obtain ⟨u,hu,ru⟩:=bA.some_of (v:=v) (o:=mA f) (by rw [<- l];exact r f)
 exact zB I.kIn O (c.get f) c.hd n hu (wN ru) (h u _ (I.tok _) ru)
theorem jn {m:Str}{g:Addr}{pl:Sem Bool}{Q:Value×List Value->Shared->Prop}(I:Inv X pins σ H s) (e:H a=some (.ins C dx fs)) (c:Cls X.K C) (k:Meth X.K C m g) (l:fs.lookup m=none)
  (h:Q (.ref g,[.ref a]) s):wpAny (model X.prog X.w) A (getMethod (.ref a) m pl) Q E s:=by
 obtain ⟨mA,O,r,_,_,_⟩:=hW I.hok e
 have hn:mA m=none:=bA.none_of (by rw [<- l];exact r m)
 exact xK I.kIn O (c.get m) k.at_ k.fn hn h
theorem pB {y:V}{u:Value}{Q:Unit->Shared->Prop}(I:Inv X pins σ H s) (e:H a=some (.ins C dx fs)) (c:Cls X.K C) (n:aN X.K C f) (hl:fs.length<1000) (ry:av y u)
  (h:∀ s',Inv X pins σ (upd H a (.ins C dx (bo f y fs))) s'->Q () s'):wpAny (model X.prog X.w) A (setAttr (.ref a) f u) Q E s:=by
 obtain ⟨mA,O,r,wi,_,ho⟩:=hW I.hok e
 have hz:(fs.map (·.1)).length<=sizeLine:=by rw [List.length_map,sizeLine_eq];omega
 refine zC I.kIn O c.sa c.po n.taker c.hd wi hz λh' O' sb=>h _ ?_
 have hd:∃ o,h'.get? dx=some o:=let ⟨o,_,_,e',_⟩:=O'.ns;⟨o,e'⟩
 refine I.write (x:=a) (e:=dx) (by rw [e];exact True.intro) (.inr ho) (λb q hb z=>(sb.2 b hb).trans z) hd ?_
 refine ⟨by rw [aE O.ne];exact ho,?_,O.ne,O'.obj,_,O'.ns,λg=>?_,λg hg=>?_⟩
 ·have:=oY f y fs;omega
 ·show bA ((bo f y fs).lookup g) (if g=f then some u else mA g)
  rw [oX]
  by_cases q:g=f
  ·rw [if_pos q,if_pos q];exact ry
  ·rw [if_neg q,if_neg q];exact r g
 ·by_cases q:g=f
  ·rw [q];exact (kK f y fs).1
  ·refine (kK f y fs).2 g (wi g λz=>hg ?_)
   show (if g=f then some u else mA g)=none
   rw [if_neg q];exact z
theorem Inv.made (I:Inv X pins σ H s):Inv X pins σ (upd (upd H s.heap.objs.size (.own (s.heap.objs.size+1))) (s.heap.objs.size+1) (.ins C s.heap.objs.size []))
  { s with heap:=(s.heap.push PySem.W.emptyDict).push (PySem.W.instObj C s.heap.objs.size) }:=by
 have e1:(s.heap.push PySem.W.emptyDict).get? s.heap.objs.size=some PySem.W.emptyDict:=Heap.get?_push_size s.heap rfl
 have e2:((s.heap.push PySem.W.emptyDict).push (PySem.W.instObj C s.heap.objs.size)).get? (s.heap.objs.size+1)=some (PySem.W.instObj C s.heap.objs.size):=by
  have:=Heap.get?_push_size (s.heap.push PySem.W.emptyDict) (o:=PySem.W.instObj C s.heap.objs.size) rfl
  rwa [Heap.size_push] at this
 have e3:(s.heap.push PySem.W.emptyDict).Ns s.heap.objs.size (λ_=>none):=⟨PySem.W.emptyDict,#[],_,e1,rfl,(λe he=>absurd he (by simp)),λ_=>rfl⟩
 have I1:=I.laid (a:=s.heap.objs.size) (o:=.own (s.heap.objs.size+1)) (h':=s.heap.push PySem.W.emptyDict) (t':=s.toks) (λb u q=>Heap.get?_push_of_some _ q) (Nat.le_refl _) ⟨_,e1⟩
 refine I1.laid (a:=s.heap.objs.size+1) (o:=.ins C s.heap.objs.size []) (t':=s.toks) (λb u q=>Heap.get?_push_of_some _ q) (Nat.le_of_eq (Heap.size_push _ _)) ?_
 have ne:s.heap.objs.size≠s.heap.objs.size+1:=Nat.ne_of_lt (Nat.lt_succ_self _)
 refine ⟨by rw [aE ne,aL],Nat.zero_le _,ne,e2,λ_=>none,(Heap.Ns1.of_empty e3).at λo q=>Heap.get?_push_of_some _ q,λ_=>True.intro,λy hy=>absurd rfl hy⟩
theorem zD {prog:Program}{w:World}{env:Env}{e:Expr}{f:Str}{pos:Pos}{s:Shared}{Q:Value->Shared->Prop}(hb:attributeBase e f env (eval e env)=eval e env)
  (h:wpAny (model prog w) A (eval e env) (λo s₁=>wpAny (model prog w) A (getAttr o f true) Q E s₁) E s):wpAny (model prog w) A (eval (.Attribute e f pos) env) Q E s :=
 Attribute_any_ h (by rw [arm_eval_Attribute,hb])
end
def Gz (K:PySem.W.Frag) (ta:TE) (f:Str):TE:=λσ H Q=>ta σ H λx H1=>∃ a C dx fs v,x=.ref a/\H1 a=some (.ins C dx fs)/\Cls K C/\aN K C f/\fs.lookup f=some v/\Q v H1
def GA (K:PySem.W.Frag) (ta tv:TE) (f:Str):TS:=λD σ H=>tv σ H λy H1=>ta σ H1 λx H2=>∃ a C dx fs,x=.ref a/\H2 a=some (.ins C dx fs)/\Cls K C/\aN K C f/\fs.length<1000 /\
 D.nx σ (upd H2 a (.ins C dx (bo f y fs)))
def nI (X:Cx) (op:Operator) (rd:V->V->Hp->VK->Prop):Prop :=
 ∀ (pins:List (Addr×Obj)) (s:Shared) (σ:St) (H:Hp) (x y:V) (u v:Value) (Q:VK),Inv X pins σ H s->av x u->av y v->rd x y H Q->wpAny (model X.prog X.w) X.A (inplaceOp op u v) (EP X pins σ Q) X.xe s
def zE (K:PySem.W.Frag) (ta tv:TE) (rd:V->V->Hp->VK->Prop) (f:Str):TS:=λD σ H=>ta σ H λx H1=>∃ a C dx fs v,x=.ref a/\H1 a=some (.ins C dx fs)/\Cls K C/\aN K C f/\fs.lookup f=some v /\
 tv σ H1 λy H2=>rd v y H2 λz H3=>∃ dx' fs',H3 a=some (.ins C dx' fs')/\fs'.length<1000/\D.nx σ (upd H3 a (.ins C dx' (bo f z fs')))
section
variable {X:Cx}{o e value:Expr}{f:Str}{pos pos' tpos:Pos}{ta tv:TE}
theorem B3 (he:PE X e ta) (hb:attributeBase e f X.env (eval e X.env)=eval e X.env):PE X (.Attribute e f pos) (Gz X.K ta f):=by
 intro pins s σ H Q I h
 refine zD hb (thn (he pins s σ H _ I h) λu s1 zz26=>?_)
 obtain ⟨x,H1,I1,rx,a,C,dx,fs,v,ex,ea,c,n,l,q⟩:=zz26
 subst ex
 obtain rfl:u=Value.ref a:=rx
 exact pA I1 ea c n l λu' s2 I2 ru=>⟨v,H1,I2,ru,q⟩
theorem B4 (ha:PE X o ta) (hv:PE X value tv) (hs:swapsWith value (some (.Attribute o f pos')) pos.line X.env=pure false):PS X (.Assign [.Attribute o f pos'] value pos) (GA X.K ta tv f):=by
 intro pins s σ H D I h
 refine plainObj_wpAny_Assign_Attribute (thn (hv pins s σ H _ I h) λu s1 ⟨y,H1,I1,ry,q⟩=>thn (ha pins s1 σ H1 _ I1 q) λov s2 ⟨x,H2,I2,rx,a,C,dx,fs,ex,ea,c,n,l,q2⟩=>?_) hs
 subst ex
 obtain rfl:ov=Value.ref a:=rx
 exact pB I2 ea c n l ry λs3 I3=>⟨σ,_,I3,q2⟩
theorem pO {op:Operator}{rd:V->V->Hp->VK->Prop}(ha:PE X o ta) (hv:PE X value tv) (hop:nI X op rd):PS X (.AugAssign (.Attribute o f tpos) op value pos) (zE X.K ta tv rd f):=by
 intro pins s σ H D I h
 refine wpAny_AugAssign_AttributeAny (thn (ha pins s σ H _ I h) λov s1 zz27=>?_)
 obtain ⟨x,H1,I1,rx,a,C,dx,fs,v,ex,ea,c,n,l,q⟩:=zz27
 subst ex
 obtain rfl:ov=Value.ref a:=rx
 refine pA I1 ea c n l λu s2 I2 ru=>thn (hv pins s2 σ H1 _ I2 q) λw3 s3 zz28=>?_
 obtain ⟨y,H2,I3,ry,q3⟩:=zz28
 refine thn (hop pins s3 σ H2 v y u w3 _ I3 ru ry q3) λw4 s4 zz29=>?_
 obtain ⟨z,H3,I4,rz,dx',fs',ea',l',q4⟩:=zz29
 exact pB I4 ea' c n l' rz λs5 I5=>⟨σ,_,I5,q4⟩
def GB:V->V->Hp->VK->Prop:=λx y H Q=>∃ i j,x=.int i/\y=.int j/\Q (.int (i+j)) H
theorem B5:nI X .Add GB:=by
 rintro pins s σ H x y u v Q I rx ry ⟨i,j,rfl,rfl,q⟩
 obtain ⟨t,rfl⟩:=(show ∃ t,u=Value.int i t from rx)
 obtain ⟨t',rfl⟩:=(show ∃ t',v=Value.int j t' from ry)
 exact PyProof.Rows.iadd_int ⟨.int (i+j),H,I.tok _,⟨_,rfl⟩,q⟩
end
section
variable {X:Cx}{pins:List (Addr×Obj)}{σ:St}{H:Hp}{s:Shared}{A:Around}{E:Value->Shared->Prop}{Q:Value->Shared->Prop}{c:Value}{b:Bool}
inductive TyOf (K:PySem.W.Frag) (H:Hp):V->Value->Prop where
 |non:TyOf K H .non (.type "NoneType")
 |bl (x:Bool):TyOf K H (.bl x) (.type "bool")
 |int (i:Int):TyOf K H (.int i) (.type "int")
 |str (x:Str):TyOf K H (.str x) (.type "str")
 |flt (x:UInt64):TyOf K H (.flt x) (.type "float")
 |lst {a:Addr}{xs:List V}(e:H a=some (.lst xs)):TyOf K H (.ref a) (.type "list")
 |frz {a:Addr}{o:Obj}{xs:List V}(e:H a=some (.frz o (.lst xs))):TyOf K H (.ref a) (.type "list")
 |tup {a:Addr}{xs:List V}(e:H a=some (.tup xs)):TyOf K H (.ref a) (.type "tuple")
 |dK {a:Addr}{kvs:List (Key×V)}(e:H a=some (.dK kvs)):TyOf K H (.ref a) (.type "dict")
 |dT {a:Addr}{kvs:List (List Key×V)}(e:H a=some (.dT kvs)):TyOf K H (.ref a) (.type "dict")
 |ins {a C dx:Addr}{fs:List (Str×V)}(e:H a=some (.ins C dx fs)) (cl:Cls K C) (ha:PySem.W.findIn K (.ref C) "__class__"=some (some (.builtin "object.__class__")))
   (hn:PySem.W.specialIn K (.builtin "object.__class__") "__get__"=some (some (.builtin "getset_descriptor.__get__"))) (htk:PySem.W.takesIn K (.builtin "object.__class__")=some true)
   (hm:PySem.W.mroIn K C (.type "object")=some true):TyOf K H (.ref a) (.ref C)
theorem wO {x:V}{u t:Value}(I:Inv X pins σ H s) (rx:av x u) (ty:TyOf X.K H x t) (e:PySem.W.kitOne X.K t c=some b) (h:∀ tk,Q (.bool b) { s with toks:=tk }) :
  wpAny (model X.prog X.w) A (call (.builtin "isinstance") [u,c]) Q E s:=by
 cases ty with
 |non=>cases (show u=Value.none from rx);exact PySem.W.kia_one PySem.W.kitx_none I.kIn True.intro e (λz=>nomatch z) h
 |bl y=>cases (show u=Value.bool y from rx);exact PySem.W.kia_one PySem.W.kitx_bool I.kIn True.intro e (λz=>nomatch z) h
 |int i=>obtain ⟨t,q⟩:=(show ∃ t,u=Value.int i t from rx);cases q;exact PySem.W.kia_one PySem.W.kitx_int I.kIn True.intro e (λz=>nomatch z) h
 |str y=>obtain ⟨t,q⟩:=(show ∃ t,u=Value.str y t from rx);cases q;exact PySem.W.kia_one PySem.W.kitx_str I.kIn True.intro e (λz=>nomatch z) h
 |flt y=>obtain ⟨t,q⟩:=(show ∃ t,u=Value.float y t from rx);cases q;exact PySem.W.kia_one PySem.W.kitx_float I.kIn True.intro e (λz=>nomatch z) h
 |@lst a xs ea =>
  cases (show u=Value.ref a from rx)
  obtain ⟨_,_,n,_,h1⟩:=(show aT X.prog X.w H s.heap a (.lst xs) from I.hok a _ ea)
  exact PySem.W.kia_one PySem.W.kitx_list I.kIn ⟨_,h1,rfl⟩ e (λz=>nomatch z) h
 |@frz a ob xs ea =>
  cases (show u=Value.ref a from rx)
  obtain ⟨_,_,_,n,_,h1⟩:=(show aT X.prog X.w H s.heap a (.frz ob (.lst xs)) from I.hok a _ ea)
  exact PySem.W.kia_one PySem.W.kitx_list I.kIn ⟨_,h1,rfl⟩ e (λz=>nomatch z) h
 |@tup a xs ea =>
  cases (show u=Value.ref a from rx)
  obtain ⟨_,_,_,p⟩:=(show aT X.prog X.w H s.heap a (.tup xs) from I.hok a _ ea)
  obtain ⟨o,h1,h2,_⟩:=p
  exact PySem.W.kia_one PySem.W.kitx_tuple I.kIn ⟨o,h1,h2⟩ e (λz=>nomatch z) h
 |@dK a kvs ea =>
  cases (show u=Value.ref a from rx)
  obtain ⟨_,_,vs,_,p⟩:=(show aT X.prog X.w H s.heap a (.dK kvs) from I.hok a _ ea)
  obtain ⟨o,es,ep,h1,h2,_⟩:=p
  exact PySem.W.kia_one PySem.W.kitx_dict I.kIn ⟨o,h1,h2.1⟩ e (λz=>nomatch z) h
 |@dT a kvs ea =>
  cases (show u=Value.ref a from rx)
  obtain ⟨_,_,xs,_,o,es,ep,h1,h2,_⟩:=(show aT X.prog X.w H s.heap a (.dT kvs) from I.hok a _ ea)
  exact PySem.W.kia_one PySem.W.kitx_dict I.kIn ⟨o,h1,h2.1⟩ e (λz=>nomatch z) h
 |@ins a C dx fs ea cl ha hn htk hm =>
  cases (show u=Value.ref a from rx)
  obtain ⟨mA,O,_⟩:=hW I.hok ea
  obtain ⟨od,J,_⟩:=O.look
  exact PySem.W.kia_one (PySem.W.kitx_own (cl.get _) cl.hd ha hn htk hm) I.kIn J e (λz=>nomatch z) h
end
structure Room (k:Nat) (A:Around):Prop where
 hd:A.handled=none
 dp:A.depth+3 * k+5<recursionLimit
 un:A.units+16 * k+200<cLine
 gd:A.guards=some []
theorem Room.mono {j k:Nat}{A:Around}(r:Room k A) (h:j<=k):Room j A:=⟨r.hd,by have:=r.dp;omega,by have:=r.un;omega,r.gd⟩
theorem Room.m {j k:Nat} {A:Around} (r:Room k A) (h:j<=k:=by decide):Room j A:=r.mono h
theorem Room.deeper {k:Nat}{A:Around}(r:Room (k+1) A) (env:Env):Room k (A.deeper env) :=
 ⟨r.hd,by have:=r.dp;show A.depth+1+3 * k+5<_;omega,by have:=r.un;show A.units+3+16 * k+200<_;omega,r.gd⟩
theorem Room.in1 {k:Nat}{A:Around}(r:Room (k+1) A):Room k A.in1 :=
 ⟨r.hd,by have:=r.dp;show A.depth+3 * k+5<_;omega,by have:=r.un;show A.units+1+16 * k+200<_;omega,r.gd⟩
theorem v4 {A:Around}{C:Addr}{us:List Value}{kw:List (Str×Value)}:(A.under (.builtin "type.__call__" ⟨.ref C::us,kw⟩)).depth=A.depth+1:=by
 first|rfl|simp [Around.under,Code.weight,Code.isCreation,Code.isGuard,Code.isCaller,Code.frames,Code.isFrame,guardIds]
theorem v5 {A:Around}{C:Addr}{us:List Value}{kw:List (Str×Value)}:(A.under (.builtin "type.__call__" ⟨.ref C::us,kw⟩)).units=A.units+1:=by
 first|rfl|simp [Around.under,Code.cUnits,Code.frames,Code.isFrame]
theorem vS {A:Around}{C:Addr}{us:List Value}{kw:List (Str×Value)}:(A.under (.builtin "type.__call__" ⟨.ref C::us,kw⟩)).guards=A.guards:=by
 first|rfl|simp [Around.under,Code.isGuard,guardIds]
theorem Room.make {k:Nat}{A:Around}(r:Room (k+1) A) (C:Addr) (us:List Value) (kw:List (Str×Value)):Room k (A.under (.builtin "type.__call__" ⟨.ref C::us,kw⟩)) :=
 ⟨r.hd,by have:=r.dp;rw [v4];omega,by have:=r.un;rw [v5];omega,by rw [vS];exact r.gd⟩
theorem Room.depth {k:Nat}{A:Around}(r:Room k A):A.depth<recursionLimit:=by have:=r.dp;omega
theorem Room.units {k:Nat}{A:Around}(r:Room k A):A.units+64<cLine:=by have:=r.un;omega
def dY:TA:=λ_ H Q=>Q [] H
def m6 (ta:TE) (tr:TA):TA:=λσ H Q=>ta σ H λx H1=>tr σ H1 λxs H2=>Q (x::xs) H2
section
variable {X:Cx}{e:Expr}{es:List Expr}{te:TE}{t:TA}{pos:Pos}
theorem mf:PA X [] dY:=λ_ _ _ _ H Q I h=>Calls.spliced_nil ⟨[],H,I,.nil,h⟩
theorem js (ha:PE X e te) (hr:PA X es t) (hs:starEach (e::es) X.env=(false,eval e X.env)::starEach es X.env:=by rfl):PA X (e::es) (m6 te t):=by
 intro pos pins s σ H Q I h
 rw [hs]
 show wpAny _ _ (spliced ((false,eval e X.env)::backTo pos (starEach es X.env))) _ _ s
 refine Calls.spliced_cons (thn (ha pins s σ H _ I h) λu s1 zz30=>?_)
 obtain ⟨x,H1,I1,r1,q1⟩:=zz30
 exact thn (hr pos pins s1 σ H1 _ I1 q1) λus s2 zz31=>by obtain ⟨xs,H2,I2,r2,q2⟩:=zz31;exact ⟨x::xs,H2,I2,.cons r1 r2,q2⟩
def GD (t:TA):TE:=λσ H Q=>t σ H λxs H1=>xs.length<=sizeLine/\∀ p,H1 p=none->Q (.ref p) (upd H1 p (.tup xs))
def GE (t:TA):TE:=λσ H Q=>t σ H λxs H1=>xs.length<=sizeLine/\∀ p,H1 p=none->Q (.ref p) (upd H1 p (.lst xs))
theorem B6 {x1}(h:PA X es t):PE X (.Tuple es x1 pos) (GD t):=by
 intro pins s σ H Q I hq
 refine wpAny_Tuple_spliced (thn (h pos pins s σ H _ I hq) λus s1 ⟨xs,H1,I1,r,z,q⟩=>⟨by rw [<- r.length];exact z,?_⟩)
 have hf:H1 s1.heap.objs.size=none:=I1.hok.fresh (Nat.le_refl _)
 refine ⟨.ref s1.heap.objs.size,upd H1 s1.heap.objs.size (.tup xs),I1.laid (t':=s1.toks) (λb u e=>Heap.get?_push_of_some _ e) (Nat.le_refl _) ?_,rfl,q _ hf⟩
 exact ⟨z,us,r,⟨_,Heap.get?_push_size _ rfl,rfl,_,rfl⟩⟩
theorem sh (h:PA X es t):PE X (.List es pos) (GE t):=by
 intro pins s σ H Q I hq
 refine wpAny_List_spliced (thn (h pos pins s σ H _ I hq) λus s1 ⟨xs,H1,I1,r,z,q⟩=>⟨by rw [<- r.length];exact z,?_⟩)
 have hf:H1 s1.heap.objs.size=none:=I1.hok.fresh (Nat.le_refl _)
 refine ⟨.ref s1.heap.objs.size,upd H1 s1.heap.objs.size (.lst xs),I1.laid (t':=s1.toks) (λb u e=>Heap.get?_push_of_some _ e) (Nat.le_refl _) ?_,rfl,q _ hf⟩
 exact ⟨z,us,0,r,Heap.get?_push_size _ rfl⟩
end
abbrev Sp:=List V->Hp->VK->XK->Prop
abbrev CXT:=List Env->Hp->Shared->XK->Value->Shared->Prop
structure Env0 (P:Program) (w:World) (K:PySem.W.Frag) (mg:Str->Option Value) (base:Heap) (A:Around) (outer:List Env) (s:Shared) (H:Hp):Prop where
 frames:A.frames=some outer
 mod:Mod K mg base
 bs:∀ b o,base.get? b=some o->s.heap.get? b=some o/\H b=none
 bsz:base.objs.size<=s.heap.objs.size
 funs:s.heap.FunFrames base outer
 frf:∀ b∈frs outer,H b=none
 hok:HOk P w H s.heap
 bare:AllBare s.gens
def CE (outer:List Env) (P:Program) (w:World) (H:Hp) (s:Shared) (Q:VK) (u:Value) (s':Shared):Prop :=
 ∃ v H',s'.os=s.os/\AllBare s'.gens/\Un (frs outer) [] H H' s.heap s'.heap/\HOk P w H' s'.heap/\av v u/\Q v H'
def CR (CX:CXT) (outer:List Env) (P:Program) (w:World) (H:Hp) (s:Shared) (Q:VK) (E:XK) (r:Result) (s':Shared):Prop :=
 match r with
 |.ok (.ret u)=>CE outer P w H s Q u s'
 |.ok _=>False
 |.error e=>CX outer H s E e s'
structure FnOk (P:Program) (w:World) (K:PySem.W.Frag) (mg:Str->Option Value) (base:Heap) (CX:CXT) (k:Nat) (f:Addr) (fd:FuncData) (ps:List Str) (sp:Sp):Prop where
 len:∀ vs H Q E,sp vs H Q E->vs.length=ps.length
 run:∀ (A:Around) (outer:List Env) (s:Shared) (H:Hp) (args:Args) (us:List Value) (vs:List V) (Q:VK) (E:XK),Room k A->Env0 P w K mg base A outer s H->BindsTo s fd args (ps.zip us)->ap vs us->sp vs H Q E ->
  codeAny (model P w) A (.call (.ref f) args) (CR CX outer P w H s Q E) s
theorem FnOk.mono {P:Program}{w:World}{K:PySem.W.Frag}{mg:Str->Option Value}{base:Heap}{CX:CXT}{j k:Nat}{f:Addr}{fd:FuncData}{ps:List Str}{sp:Sp}(F:FnOk P w K mg base CX j f fd ps sp) (h:j<=k) :
  FnOk P w K mg base CX k f fd ps sp:=⟨F.len,λA outer s H args us vs Q E hr=>F.run A outer s H args us vs Q E (hr.mono h)⟩
theorem FnOk.imp {P:Program}{w:World}{K:PySem.W.Frag}{mg:Str->Option Value}{base:Heap}{CX:CXT}{k:Nat}{f:Addr}{fd:FuncData}{ps:List Str}{sp sp':Sp}(F:FnOk P w K mg base CX k f fd ps sp)
  (h:∀ vs H Q E,sp' vs H Q E->sp vs H Q E):FnOk P w K mg base CX k f fd ps sp' :=
 ⟨λvs H Q E q=>F.len vs H Q E (h _ _ _ _ q),λA outer s H args us vs Q E hr he hb hv hs=>F.run A outer s H args us vs Q E hr he hb hv (h _ _ _ _ hs)⟩
theorem Env0.make {P:Program}{w:World}{K:PySem.W.Frag}{mg:Str->Option Value}{base:Heap}{A:Around}{outer:List Env}{s:Shared}{H:Hp}(e:Env0 P w K mg base A outer s H) (C:Addr) (us:List Value) (kw:List (Str×Value)) :
  Env0 P w K mg base (A.under (.builtin "type.__call__" ⟨.ref C::us,kw⟩)) outer s H:=⟨by first|exact e.frames|(simpa [Around.under,Code.envs,Code.isFrame,pushEnvs] using e.frames),e.mod,e.bs,e.bsz,e.funs,e.frf,e.hok,e.bare⟩
theorem Env0.in1 {P:Program}{w:World}{K:PySem.W.Frag}{mg:Str->Option Value}{base:Heap}{A:Around}{outer:List Env}{s:Shared}{H:Hp}(e:Env0 P w K mg base A outer s H) :
  Env0 P w K mg base A.in1 outer s H:=⟨e.frames,e.mod,e.bs,e.bsz,e.funs,e.frf,e.hok,e.bare⟩
section
variable {X:Cx}{pins:List (Addr×Obj)}{σ:St}{H:Hp}{s s':Shared}
theorem Inv.env0 (I:Inv X pins σ H s):Env0 X.prog X.w X.K X.mg X.base X.A X.stack s H :=
 ⟨I.ok.frames,I.ok.mod,I.bs,Nat.le_trans I.ok.bsz I.sz,I.stack,I.stkFree,I.hok,I.bare⟩
theorem Inv.after {Q:VK}{u:Value}(I:Inv X pins σ H s) (h:CE X.stack X.prog X.w H s Q u s'):EP X pins σ Q u s':=by
 obtain ⟨v,H',os,bare,un,hok,r,q⟩:=h
 obtain ⟨hh,g,d,t,os'⟩:=s'
 obtain rfl:os'=s.os:=os
 exact ⟨v,H',I.call (h':=hh) (g':=g) (d':=d) (t':=t) (ch:=[]) un hok bare (λb z=>absurd z (by simp)),r,q⟩
end
def m7 (sp:Sp) (dvs:List V) (E:XK) (t:TA):TE:=λσ H Q=>t σ H λvs H1=>sp (vs++dvs) H1 Q E
def jU (C:Addr) (sp:Sp) (dvs:List V) (E:XK) (t:TA):TE:=λσ H Q=>t σ H λvs H1=>∀ x dx,H1 x=none->H1 dx=none->dx≠x ->
 sp (.ref x::(vs++dvs)) (upd (upd H1 dx (.own x)) x (.ins C dx [])) (λv H2=>v=.non/\Q (.ref x) H2) E
def aj (K:PySem.W.Frag) (fd:FuncData) (ps:List Str) (ds:List Value):Prop :=
 ∀ (s:Shared) (us:List Value),K.In s.heap->(us++ds).length=ps.length->BindsTo s fd ⟨us,[]⟩ (ps.zip (us++ds))
theorem aj.all {K:PySem.W.Frag}{fd:FuncData}{ps:List Str}(h:∀ us:List Value,us.length=ps.length->bindArgs fd ⟨us,[]⟩=pure (ps.zip us)):aj K fd ps []:=λs us _ hl=>by
 rw [List.append_nil] at hl ⊢
 exact .of_eq (h us hl)
def eg (CX:CXT) (X:Cx) (E:XK):Prop:=∀ (pins:List (Addr×Obj)) (σ:St) (H:Hp) (s:Shared) (e:Value) (s':Shared),Inv X pins σ H s->CX X.stack H s E e s'->X.xe e s'
section
variable {X:Cx}{CX:CXT}{k:Nat}{f C:Addr}{fd:FuncData}{ps:List Str}{sp:Sp}{dvs:List V}{ds:List Value}{E:XK}{x m:Str}{p pos apos:Pos}{e o:Expr}{es:List Expr}{ta:TE}{t:TA}
theorem mh {pins:List (Addr×Obj)}{σ:St}{H:Hp}{s:Shared}{Q:VK}{us:List Value}{vs:List V}(F:FnOk X.prog X.w X.K X.mg X.base CX k f fd ps sp) (hr:Room k X.A) (hb:aj X.K fd ps ds) (hd:ap dvs ds) (hx:eg CX X E)
  (I:Inv X pins σ H s) (r:ap vs us) (h:sp (vs++dvs) H Q E):wpAny (model X.prog X.w) X.A (call (.ref f) us) (EP X pins σ Q) X.xe s:=by
 have r2:ap (vs++dvs) (us++ds):=r.append hd
 have hl:(us++ds).length=ps.length:=by rw [<- r2.length];exact F.len _ _ _ _ h
 refine wpAny_call (codeAny_mono (F.run X.A X.stack s H ⟨us,[]⟩ (us++ds) (vs++dvs) Q E hr I.env0 (hb s us I.kIn hl) r2 h) λr s' hq=>?_)
 cases r with
 |error e=>exact hx pins σ H s e s' I hq
 |ok fl =>
  cases fl with
  |ret u=>exact I.after hq
  |next=>exact False.elim hq
  |brk=>exact False.elim hq
  |cont=>exact False.elim hq
theorem zF (F:FnOk X.prog X.w X.K X.mg X.base CX k f fd ps sp) (hr:Room k X.A) (hg:Gl X x) (hm:X.mg x=some (.ref f)) (hk:PySem.W.keepIn X.K (.ref f)=true) (hb:aj X.K fd ps ds) (hd:ap dvs ds) (hx:eg CX X E)
  (ha:PA X (e::es) t) (hdb:(x==("__debug__":Str))=false:=by decide) (he:starEach (e::es) X.env=(false,eval e X.env)::starEach es X.env:=by rfl) (hpl:(backTo pos (starEach es X.env)).any (·.1)=false:=by rfl) :
  PE X (.Call (.Name x p) (e::es) [] pos) (m7 sp dvs E t):=by
 intro pins s σ H Q I h
 refine wpAny_Call_Name_kw (d9 I hg hm ?_ hdb)
 refine PySem.W.callWith_K (h₀:=X.base) I.ok.mod.kin hk (thn (ha pos pins s σ H _ I h) λus s1 ⟨vs,H1,I1,r,q⟩=>⟨I1.kIn,?_⟩) he hpl
 exact mh F hr hb hd hx I1 r q
structure Mk (K:PySem.W.Frag) (C f:Addr):Prop where
 makes:PySem.W.makesIn K C=true
 init:PySem.W.findIn K (.ref C) "__init__"=some (some (.ref f))
 fn:PySem.W.isFn K (.ref f)=true
 kp:PySem.W.keepIn K (.ref C)=true
theorem qk {pins:List (Addr×Obj)}{σ:St}{H:Hp}{s:Shared}{Q:VK}{us:List Value}{vs:List V}(M:Mk X.K C f) (F:FnOk X.prog X.w X.K X.mg X.base CX k f fd ps sp) (hr:Room (k+1) X.A) (hb:aj X.K fd ps ds) (hd:ap dvs ds)
  (hx:eg CX X E) (I:Inv X pins σ H s) (r:ap vs us)
  (h:∀ x dx,H x=none->H dx=none->dx≠x->sp (.ref x::(vs++dvs)) (upd (upd H dx (.own x)) x (.ins C dx [])) (λv H2=>v=.non/\Q (.ref x) H2) E) :
  wpAny (model X.prog X.w) X.A (call (.ref C) us) (EP X pins σ Q) X.xe s:=by
 have hq:=h (s.heap.objs.size+1) s.heap.objs.size (I.hok.fresh (Nat.le_succ _)) (I.hok.fresh (Nat.le_refl _)) (Nat.ne_of_lt (Nat.lt_succ_self _))
 have I2:=Inv.made (C:=C) I
 have r2:ap (V.ref (s.heap.objs.size+1)::(vs++dvs)) (Value.ref (s.heap.objs.size+1)::(us++ds)):=.cons rfl (r.append hd)
 have hl:(Value.ref (s.heap.objs.size+1)::us++ds).length=ps.length:=by
  have e:=r2.length
  rw [F.len _ _ _ _ hq] at e
  exact e.symm
 refine wpAny_call (xL (f:=f) I.kIn M.makes M.init (beq_iff_eq.mp M.fn) (codeAny_mono (F.run _ X.stack _ _ ⟨Value.ref (s.heap.objs.size+1)::us,[]⟩ (Value.ref (s.heap.objs.size+1)::(us++ds)) _ _ E (hr.make C us [])
  (I2.env0.make C us []) (hb _ (Value.ref (s.heap.objs.size+1)::us) I2.kIn hl) r2 hq) λr s' hq'=>?_))
 cases r with
 |error e=>exact hx pins σ _ _ e s' I2 hq'
 |ok fl =>
  cases fl with
  |ret u =>
   obtain ⟨v,H',I3,rv,ev,q3⟩:=I2.after hq'
   subst ev
   exact ⟨rv,⟨V.ref (s.heap.objs.size+1),H',I3,rfl,q3⟩⟩
  |next=>exact False.elim hq'
  |brk=>exact False.elim hq'
  |cont=>exact False.elim hq'
theorem zG (M:Mk X.K C f) (F:FnOk X.prog X.w X.K X.mg X.base CX k f fd ps sp) (hr:Room (k+1) X.A) (hg:Gl X x) (hm:X.mg x=some (.ref C)) (hb:aj X.K fd ps ds) (hd:ap dvs ds) (hx:eg CX X E)
  (ha:PA X (e::es) t) (hdb:(x==("__debug__":Str))=false:=by decide) (he:starEach (e::es) X.env=(false,eval e X.env)::starEach es X.env:=by rfl) (hpl:(backTo pos (starEach es X.env)).any (·.1)=false:=by rfl) :
  PE X (.Call (.Name x p) (e::es) [] pos) (jU C sp dvs E t):=by
 intro pins s σ H Q I h
 refine wpAny_Call_Name_kw (d9 I hg hm ?_ hdb)
 refine PySem.W.callWith_K (h₀:=X.base) I.ok.mod.kin M.kp (thn (ha pos pins s σ H _ I h) λus s1 ⟨vs,H1,I1,r,q⟩=>⟨I1.kIn,?_⟩) he hpl
 exact qk M F hr hb hd hx I1 r q
theorem xM (M:Mk X.K C f) (F:FnOk X.prog X.w X.K X.mg X.base CX k f fd ps sp) (hr:Room (k+1) X.A) (hg:Gl X x) (hm:X.mg x=some (.ref C)) (hb:aj X.K fd ps ds) (hd:ap dvs ds) (hx:eg CX X E)
  (hdb:(x==("__debug__":Str))=false:=by decide):PE X (.Call (.Name x p) [] [] pos) (jU C sp dvs E dY):=by
 intro pins s σ H Q I h
 refine wpAny_Call_Name_kw (d9 I hg hm ?_ hdb)
 exact PySem.W.callWith_K0 I.kIn M.kp (qk (us:=[]) M F hr hb hd hx I .nil h)
end
def PK (X:Cx) (kws:List Keyword) (t:TA):Prop :=
 ∀ (pos:Pos) (pins:List (Addr×Obj)) (s:Shared) (σ:St) (H:Hp) (Q:List V->Hp->Prop),Inv X pins σ H s->t σ H Q->wpAny (model X.prog X.w) X.A (evalAll ((backToKw pos (keywordEach kws X.env)).map (·.2))) (AP X pins σ Q) X.xe s
section
variable {X:Cx}{CX:CXT}{k:Nat}{f C:Addr}{fd:FuncData}{ps ks:List Str}{sp:Sp}{E:XK}{x m:Str}{p pos apos kpos:Pos}{e o:Expr}{es:List Expr}{kws:List Keyword}{te ta:TE}{t tk:TA}{nm:Option Str}
theorem B7:PK X [] dY:=λ_ _ _ _ H Q I h=>wpAny_evalAll_nil ⟨[],H,I,.nil,h⟩
theorem zH (ha:PE X e te) (hr:PK X kws t):PK X (⟨nm,e,kpos⟩::kws) (m6 te t):=by
 intro pos pins s σ H Q I h
 show wpAny _ _ (evalAll ((do let v <- eval e X.env;standAt pos;pure v)::(backToKw pos (keywordEach kws X.env)).map (·.2))) _ _ s
 refine wpAny_evalAll_cons (wpAny_bind (thn (ha pins s σ H _ I h) λu s1 zz32=>?_))
 obtain ⟨x,H1,I1,r1,q1⟩:=zz32
 refine wpAny_bind (wpAny_standAt (wpAny_pure ?_))
 exact thn (hr pos pins s1 σ H1 _ I1 q1) λus s2 zz33=>by obtain ⟨xs,H2,I2,r2,q2⟩:=zz33;exact ⟨x::xs,H2,I2,.cons r1 r2,q2⟩
structure KBinds (K:PySem.W.Frag) (fd:FuncData) (ps ks:List Str) (g:List Value->List Value->List Value) (gV:List V->List V->List V):Prop where
 to:∀ (s:Shared) (us ws:List Value),K.In s.heap->(g us ws).length=ps.length->BindsTo s fd ⟨us,ks.zip ws⟩ (ps.zip (g us ws))
 rel:∀ {vs:List V}{us:List Value}{zs:List V}{ws:List Value},ap vs us->ap zs ws->ap (gV vs zs) (g us ws)
variable {g:List Value->List Value->List Value}{gV:List V->List V->List V}
end
structure FnScope (N P:List Str) (sc:Scope):Prop where
 kind:sc.kind=.function
 co:sc.isCoroutine=false
 gen:sc.isGenerator=false
 nd:N.Nodup
 pre:N.take P.length=P
 par:∀ x∈P,sc.names.lookup x=some .local\/sc.names.lookup x=some .cell
 nofree:∀ y∈sc.names,y.2≠.free
theorem pP {kindOf:Str->Option NameKind}{x:Str}:∀ {binds:List (Str×Value)}{m:Str->Option Value},(∀ v,(x,v)∉binds)->bindL kindOf binds m x=m x
 |[],_,_=>rfl
 |(n,v)::r,m,h=>by
  unfold bindL
  rw [pP λw hw=>h w (List.mem_cons_of_mem _ hw)]
  split
  ·have:x≠n:=by rintro rfl;exact h v List.mem_cons_self
   simp [this]
  ·rfl
theorem pQ {kindOf:Str->Option NameKind}{x:Str}:∀ {binds:List (Str×Value)}{m:Str->Option Value},(∀ v,(x,v)∉binds)->bindC kindOf binds m x=m x
 |[],_,_=>rfl
 |(n,v)::r,m,h=>by
  unfold bindC
  rw [pQ λw hw=>h w (List.mem_cons_of_mem _ hw)]
  split
  ·rfl
  ·have:x≠n:=by rintro rfl;exact h v List.mem_cons_self
   simp [this]
theorem pS {kindOf:Str->Option NameKind}{x:Str}{v:Value}:∀ {P:List Str}{vs:List Value}{i:Nat}{m:Str->Option Value},P.Nodup->P[i]?=some x->vs[i]?=some v->kindOf x=some .local ->
  bindL kindOf (P.zip vs) m x=some v
 |[],_,_,_,_,h,_,_=>by simp at h
 |_::_,[],_,_,_,_,h,_=>by simp at h
 |p::P,w::vs,0,m,nd,h1,h2,hk=>by
  simp at h1 h2;subst h1;subst h2
  show bindL kindOf ((p,w)::P.zip vs) m p=_
  unfold bindL
  rw [pP λv hv=>(List.nodup_cons.mp nd).1 (List.of_mem_zip hv).1,if_pos hk]
  simp
 |p::P,w::vs,i+1,m,nd,h1,h2,hk=>by
  show bindL kindOf ((p,w)::P.zip vs) m x=_
  unfold bindL
  exact pS (i:=i) (List.nodup_cons.mp nd).2 (by simpa using h1) (by simpa using h2) hk
theorem pT {kindOf:Str->Option NameKind}{x:Str}{v:Value}:∀ {P:List Str}{vs:List Value}{i:Nat}{m:Str->Option Value},P.Nodup->P[i]?=some x->vs[i]?=some v->kindOf x≠some .local ->
  bindC kindOf (P.zip vs) m x=some v
 |[],_,_,_,_,h,_,_=>by simp at h
 |_::_,[],_,_,_,_,h,_=>by simp at h
 |p::P,w::vs,0,m,nd,h1,h2,hk=>by
  simp at h1 h2;subst h1;subst h2
  show bindC kindOf ((p,w)::P.zip vs) m p=_
  unfold bindC
  rw [pQ λv hv=>(List.nodup_cons.mp nd).1 (List.of_mem_zip hv).1,if_neg hk]
  simp
 |p::P,w::vs,i+1,m,nd,h1,h2,hk=>by
  show bindC kindOf ((p,w)::P.zip vs) m x=_
  unfold bindC
  exact pT (i:=i) (List.nodup_cons.mp nd).2 (by simpa using h1) (by simpa using h2) hk
def bT (N:List Str) (vs:List V):St:=vs.map some++List.replicate (N.length - vs.length) none
def cA (CX:CXT) (P:Program) (w:World) (K:PySem.W.Frag) (mg:Str->Option Value) (base:Heap) (N:List Str) (qual:Str) (scope:Scope) (f:Addr) (cd:Value) (A:Around) (outer:List Env) (s:Shared) (H:Hp) (E:XK):Cx where
 prog:=P
 w:=w
 K:=K
 mg:=mg
 base:=base
 A:=A.deeper (envOfC qual scope s.heap.objs.size f cd)
 N:=N
 s₀:=s
 H₀:=H
 env:=envOfC qual scope s.heap.objs.size f cd
 outer:=outer
 stack:=envOfC qual scope s.heap.objs.size f cd::outer
 ex:=[]
 calm:=true
 fn:=λ_=>true
 pn:=[]
 xe:=λe s'=>wpAny (model P w) (A.deeper (envOfC qual scope s.heap.objs.size f cd)) (leaving (envOfC qual scope s.heap.objs.size f cd) e) (λ_ s''=>CX outer H s E e s'') (λe' s''=>CX outer H s E e' s'') s'
theorem qm {sc:Scope}{n:Nat}{x:Str}(h:sc.names.lookup x=some .cell):∃ c,(cellsFrom n sc.names []).lookup x=some c:=by
 have q:=PySem.W.cellsFrom_some sc.names n [] (.inl h)
 exact Option.isSome_iff_exists.mp q
theorem wP {CX:CXT}{P:Program}{w:World}{K:PySem.W.Frag}{mg:Str->Option Value}{base:Heap}{N ps:List Str}{qual:Str}{scope:Scope}{f:Addr}{cd:Value}{A:Around}{outer:List Env}{s s1:Shared}{H:Hp}{E:XK}{us:List Value}{vs:List V}
  (S:FnScope N ps scope) (hd:A.handled=none) (e0:Env0 P w K mg base A outer s H) (hl:vs.length=ps.length) (r:ap vs us)
  (x:InCallC s s.heap.objs.size (bindL (envOfC qual scope s.heap.objs.size f cd).kindOf (ps.zip us) λ_=>none) (cellsFrom (s.heap.objs.size+1) scope.names []) (bindC (envOfC qual scope s.heap.objs.size f cd).kindOf (ps.zip us) λ_=>none) s1) :
  Inv (cA CX P w K mg base N qual scope f cd A outer s H E) [] (bT N vs) H s1:=by
 have hpl:ps.length<=N.length:=by have:=congrArg List.length S.pre;rw [List.length_take] at this;omega
 obtain ⟨h1,tk,rfl,hk⟩:=x.done
 have noA:∀ b:Addr,b∉(cA CX P w K mg base N qual scope f cd A outer s H E).ex:=λb z=>absurd (show b∈([]:List Addr) from z) (by simp)
 refine ⟨⟨e0.mod,S.kind,rfl,rfl,Nat.le_refl _,λy z c h1 h2=>?_,λy hy=>?_,λy c _ h=>?_,λ_=>hd,Around.frames_deeper e0.frames,.inr ⟨rfl,rfl⟩,λb z=>absurd z (noA b),e0.bs,e0.bsz,λb _ _=>noA b,λb z=>absurd z (noA b),e0.funs,e0.frf⟩,
  rfl,e0.bare,Un.kept hk,⟨_,x.toInCall.ns,λi y v h1 h2 h3=>?_⟩,λy c h=>⟨_,x.cell y c h⟩,e0.hok.fresh (Nat.le_refl _),λy c h=>?_,λp hp=>absurd (show p∈([]:List (Addr×Obj)) from hp) (by simp),e0.hok.kept hk,?_⟩
 ·exact name_of_addr x.apart (PySem.mem_of_lookup h1) (PySem.mem_of_lookup h2)
 ·have hy:scope.names.lookup y=some .cell\/scope.names.lookup y=some .free:=hy
  rcases hy with hy|hy
  ·exact qm hy
  ·exact absurd rfl (S.nofree _ (PySem.mem_of_lookup hy))
 ·exact Nat.le_of_lt (x.above y c (PySem.mem_of_lookup h))
 ·have hi:i<vs.length:=by
   unfold bT at h2
   by_cases hi:i<vs.length
   ·exact hi
   ·rw [List.getElem?_append_right (by simpa using hi)] at h2
    rw [List.getElem?_replicate] at h2
    split at h2<;>cases h2
  have ha:vs[i]?=some v:=by
   unfold bT at h2
   rw [List.getElem?_append_left (by simpa using hi),List.getElem?_map] at h2
   cases e:vs[i]? with
   |none=>rw [e] at h2;cases h2
   |some a=>rw [e] at h2;cases h2;rfl
  obtain ⟨u,hu,rv⟩:=r.get ha
  have hp:ps[i]?=some y:=by
   rw [<- S.pre,List.getElem?_take_of_lt (by omega)];exact h1
  have ndP:ps.Nodup:=by rw [<- S.pre];exact S.nd.sublist (List.take_sublist _ _)
  refine ⟨u,rv,?_⟩
  rcases S.par y (List.mem_of_getElem? hp) with k|k
  ·exact .inl ⟨k,pS ndP hp hu k⟩
  ·obtain ⟨c,e⟩:=qm (n:=s.heap.objs.size+1) k
   refine .inr ⟨.inl k,c,e,?_⟩
   have q:=x.cell y c e
   rw [pT ndP hp hu (by show scope.names.lookup y≠_;rw [k];decide)] at q
   exact q
 ·exact e0.hok.fresh (Nat.le_of_lt (x.above y c (PySem.mem_of_lookup h)))
 ·unfold bT
  show _=N.length
  rw [List.length_append,List.length_map,List.length_replicate]
  omega
theorem m8 {CX:CXT}{P:Program}{w:World}{K:PySem.W.Frag}{mg:Str->Option Value}{base:Heap}{k:Nat}{f:Addr}{name qual:Str}{params:Arguments}{body:List Stmt}{scope:Scope}{dV kV doc pm cdv ct oc:Value}{an od:Option Addr}
  {osl:Array (Option Value)}{N ps:List Str}{sp:Sp}(lk:K.lookup f=some ⟨oc,od,.func (PySem.W.fnOf name qual params body scope dV kV doc pm an cdv ct),osl⟩) (hcd:PySem.W.codeIn K cdv qual=true) (S:FnScope N ps scope)
  (len:∀ vs H Q E,sp vs H Q E->vs.length=ps.length)
  (hbody:∀ (A:Around) (outer:List Env) (s:Shared) (H:Hp) (vs:List V) (Q:VK) (E:XK),Room k (A.deeper (envOfC qual scope s.heap.objs.size f cdv))->sp vs H Q E ->
   ∃ t,PSs (cA CX P w K mg base N qual scope f cdv A outer s H E) body t/\t { nx:=λ_ H'=>Q .non H',rt:=Q } (bT N vs) H) :
  FnOk P w K mg base CX (k+1) f (PySem.W.fnOf name qual params body scope dV kV doc pm an cdv ct) ps sp:=by
 refine ⟨len,λA outer s H args us vs Q E hr e0 hb r hsp=>?_⟩
 have hl:=len _ _ _ _ hsp
 have KX:K.In s.heap:=e0.mod.kin.keeps λb o e=>(e0.bs b o e).1
 have lim:s.heap.NoLimit:=e0.mod.nolimit.keeps λb o e=>(e0.bs b o e).1
 have hkind:∀ y∈ps.zip us,scope.names.lookup y.1=some .local\/(scope.names.lookup y.1=some .cell/\((cellsFrom (s.heap.objs.size+1) scope.names []).lookup y.1).isSome=true):=λzz34 hy=>by
  obtain ⟨n,v⟩:=zz34
  rcases S.par n (List.of_mem_zip hy).1 with q|q
  ·exact .inl q
  ·exact .inr ⟨q,PySem.W.cellsFrom_some _ _ _ (.inl q)⟩
 refine codeAny_call_function hr.depth (KX _ _ lk) rfl S.co S.gen rfl (PySem.W.codeRec_of KX hcd) (hb _ _ _ _ ?_)
 refine wpAny_newFunctionEnv_cells S.kind hkind λenv he s1 x=>?_
 subst he
 refine ⟨lim.keeps x.toInCall.keep,codeAny_func ?_⟩
 obtain ⟨t,ht,hq⟩:=hbody A outer s H vs Q E (hr.deeper _) hsp
 have I:Inv (cA CX P w K mg base N qual scope f cdv A outer s H E) [] (bT N vs) H s1:=wP S hr.hd e0 hl r x
 refine wpAny_mono (ht [] s1 (bT N vs) H _ I hq) (λfl s' hs=>?_) λe s' hs=>hs
 have fin:∀ {σ':St}{H':Hp}{v:V}{u:Value},Inv (cA CX P w K mg base N qual scope f cdv A outer s H E) [] σ' H' s'->av v u->Q v H'->CE outer P w H s Q u s' :=
  fun {σ' H' v u} J rv q=>⟨v,H',J.os,J.bare,J.base,J.hok,rv,q⟩
 cases fl with
 |ret u =>
  obtain ⟨v,σ',H',J,rv,q⟩:=hs
  exact fin J rv q
 |next =>
  obtain ⟨σ',H',J,q⟩:=hs
  exact fin (v:=V.non) (u:=Value.none) J rfl q
 |brk =>
  obtain ⟨_,_,_,q⟩:=hs
  exact False.elim q
 |cont =>
  obtain ⟨_,_,_,q⟩:=hs
  exact False.elim q
section
variable {X:Cx}{x:Str}{p pos:Pos}{e:Expr}{es:List Expr}{t:TA}{id T:String}{r:List V->Hp->VK->Prop}
def tCB (r:List V->Hp->VK->Prop) (t:TA):TE:=λσ H Q=>t σ H λvs H1=>r vs H1 Q
theorem xN (hc:bz X (.builtin id) r) (hg:Gl X x) (hm:X.mg x=none) (hv:bootBuiltins x=some (.builtin id)) (ha:PA X (e::es) t) (hn:x ≠ "__name__":=by decide) (hdb:(x==("__debug__":Str))=false:=by decide)
  (he:starEach (e::es) X.env=(false,eval e X.env)::starEach es X.env:=by rfl) (hpl:(backTo pos (starEach es X.env)).any (·.1)=false:=by rfl):PE X (.Call (.Name x p) (e::es) [] pos) (tCB r t):=by
 intro pins s σ H Q I h
 refine wpAny_Call_Name_kw (gK I hg hm hv ?_ hn hdb)
 exact PyProof.Rows.callWith_builtin1 (thn (ha pos pins s σ H _ I h) λus s1 zz35=>by obtain ⟨vs,H1,I1,r1,q1⟩:=zz35;exact hc pins s1 σ H1 vs us Q I1 r1 q1) he hpl
theorem wQ (hc:bz X (.type T) r) (hg:Gl X x) (hm:X.mg x=none) (hv:bootBuiltins x=some (.type T)) (ha:PA X (e::es) t) (hn:x ≠ "__name__":=by decide) (hdb:(x==("__debug__":Str))=false:=by decide)
  (he:starEach (e::es) X.env=(false,eval e X.env)::starEach es X.env:=by rfl) (hpl:(backTo pos (starEach es X.env)).any (·.1)=false:=by rfl):PE X (.Call (.Name x p) (e::es) [] pos) (tCB r t):=by
 intro pins s σ H Q I h
 refine wpAny_Call_Name_kw (gK I hg hm hv ?_ hn hdb)
 exact PyProof.Rows.callWith_type1 (thn (ha pos pins s σ H _ I h) λus s1 zz36=>by obtain ⟨vs,H1,I1,r1,q1⟩:=zz36;exact hc pins s1 σ H1 vs us Q I1 r1 q1) he hpl
end
end L2
namespace HT
open PySem PyProof.Rows
section
open PySem.SeqAt
open PySem.AutoSeq1 (wpAny_loadPart')
open PySem.MeetsSeq PySem.MeetsSeq2 PySem.MeetsSeq3
end
section
variable {prog:Program}{w:World}{A:Around}{E:Value->Shared->Prop}{s:Shared}
def sIx (n d:Nat):Option Int->Nat
 |none=>d
 |some v=>if v<0 then (v+(n:Int)).toNat else min v.toNat n
theorem sIx_none (n d:Nat):sIx n d none=d:=rfl
theorem sIx_nat (n d k:Nat):sIx n d (some (k:Int))=min k n:=by
 show (if (k:Int)<0 then ((k:Int)+(n:Int)).toNat else min (k:Int).toNat n)=min k n
 rw [if_neg (by omega),Int.toNat_natCast]
end
end HT
namespace L2
open PySem PySem.Spec PyProof.Rows
abbrev TO:=St->Hp->(Option Int->Hp->Prop)->Prop
def PO (X:Cx) (e:Option Expr) (t:TO):Prop :=
 ∀ (pins:List (Addr×Obj)) (s:Shared) (σ:St) (H:Hp) (Q:Option Int->Hp->Prop),Inv X pins σ H s->t σ H Q ->
  wpAny (model X.prog X.w) X.A (evalPart e X.env) (λu s'=>∃ o H',Inv X pins σ H' s'/\IsPart u o/\Q o H') X.xe s
def zI:TO:=λ_ H Q=>Q none H
def ED (t:TE):TO:=λσ H Q=>t σ H λx H1=>∃ i,x=.int i/\Q (some i) H1
section
variable {X:Cx}{e:Expr}{te:TE}{lo hi:Option Expr}{tl th:TO}{pos p2:Pos}
theorem zJ:PO X none zI:=by
 intro pins s σ H Q I h
 rw [evalPart_none]
 exact wpAny_pure ⟨none,H,I,.none,h⟩
theorem zK (h:PE X e te):PO X (some e) (ED te):=by
 intro pins s σ H Q I hw
 rw [evalPart_some]
 refine thn (h pins s σ H _ I hw) λu s1 zz37=>?_
 obtain ⟨x,H1,I1,r1,q1⟩:=zz37
 obtain ⟨i,rfl,q⟩:=q1
 obtain ⟨t,rfl⟩:=r1
 exact ⟨some i,H1,I1,.int i t,q⟩
def SlR (X:Cx) (r:V->Option Int->Option Int->Hp->VK->Prop):Prop :=
 ∀ (pins:List (Addr×Obj)) (s:Shared) (σ:St) (H:Hp) (x:V) (v vl vu:Value) (lo hi:Option Int) (sl:Addr) (Q:VK),Inv X pins σ H s->av x v->s.heap.IsSliceOf sl vl vu .none->IsPart vl lo->IsPart vu hi->r x lo hi H Q ->
  ∃ T id,typeLookup (.type T) "__getitem__"=pure (some (.builtin id))/\s.TypeIs v T/\wpAny (model X.prog X.w) X.A (getItem v (.ref sl)) (EP X pins σ Q) X.xe s
def tSl (r:V->Option Int->Option Int->Hp->VK->Prop) (te:TE) (tl th:TO):TE:=λσ H Q=>te σ H λx H1=>tl σ H1 λl H2=>th σ H2 λu H3=>r x l u H3 Q
theorem xO {r:V->Option Int->Option Int->Hp->VK->Prop}(hr:SlR X r) (he:PE X e te) (hl:PO X lo tl) (hu:PO X hi th):PE X (.Subscript e (.Slice lo hi none p2) pos) (tSl r te tl th):=by
 intro pins s σ H Q I h
 refine Subscript_ (thn (he pins s σ H _ I h) λv s1 zz38=>?_)
 obtain ⟨x,H1,I1,r1,q1⟩:=zz38
 refine wpAny_Slice (thn (hl pins s1 σ H1 _ I1 q1) λvl s2 zz39=>?_)
 obtain ⟨l,H2,I2,pl,q2⟩:=zz39
 refine thn (hu pins s2 σ H2 _ I2 q2) λvu s3 zz40=>?_
 obtain ⟨u,H3,I3,pu,q3⟩:=zz40
 rw [evalPart_none]
 refine wpAny_pure ?_
 have I4:Inv X pins σ H3 { s3 with heap:=s3.heap.push { cls:=.type "slice",data:=.fields #[vl,vu,.none] } }:=I3.kept (t':=s3.toks) λb ob q=>Heap.get?_push_of_some _ q
 obtain ⟨T,id,hT,ht,hg⟩:=hr pins { s3 with heap:=s3.heap.push { cls:=.type "slice",data:=.fields #[vl,vu,.none] } } σ H3 x v vl vu l u s3.heap.objs.size Q I4 r1 (Heap.IsSliceOf.new ..) pl pu q3
 show wpAny (model X.prog X.w) X.A (subscriptTail e (.Slice lo hi none p2) v (.ref s3.heap.objs.size)) (EP X pins σ Q) X.xe { s3 with heap:=s3.heap.push { cls:=.type "slice",data:=.fields #[vl,vu,.none] } }
 exact tail_any (ops:=[.ref s3.heap.objs.size,v]) ht hT hg (by with_unfolding_all rfl)
def gZ (xs:List V) (lo hi:Option Int):List V:=(xs.drop (HT.sIx xs.length 0 lo)).take (HT.sIx xs.length xs.length hi - HT.sIx xs.length 0 lo)
theorem vT (xs:List V) (lo hi:Option Int):(gZ xs lo hi).length<=xs.length:=by
 unfold gZ
 rw [List.length_take,List.length_drop]
 omega
end
def ixN (n:Nat) (i:Int):Option Nat:=if 0<=i then (if i<n then some i.toNat else none) else if -(n:Int)<=i then some (i+n).toNat else none
def atI {α:Type}(xs:List α) (i:Int):Option α:=(ixN xs.length i).bind λj=>xs[j]?
theorem qN {n:Nat}{i:Int}{j:Nat}(h:ixN n i=some j):seqIndex? i n=some j/\j<n /\ -(n:Int)<=i/\i<n:=by
 unfold ixN at h
 by_cases h0:0<=i
 ·rw [if_pos h0] at h
  by_cases h1:i<n
  ·rw [if_pos h1] at h
   have e:i.toNat=j:=Option.some.inj h
   exact ⟨by rw [seqIndex_of h0 h1,e],by omega,by omega,h1⟩
  ·rw [if_neg h1] at h;cases h
 ·rw [if_neg h0] at h
  by_cases h1:-(n:Int)<=i
  ·rw [if_pos h1] at h
   have e:(i+n).toNat=j:=Option.some.inj h
   exact ⟨by rw [seqIndex_neg (by omega) h1,e],by omega,h1,by omega⟩
  ·rw [if_neg h1] at h;cases h
theorem lx {α:Type}{xs:List α}{i:Int}{v:α}(h:atI xs i=some v):∃ j,seqIndex? i xs.length=some j/\xs[j]?=some v/\j<xs.length /\ -(xs.length:Int)<=i/\i<xs.length:=by
 unfold atI at h
 cases e:ixN xs.length i with
 |none=>rw [e] at h;cases h
 |some j =>
  rw [e] at h
  obtain ⟨h1,h2,h3,h4⟩:=qN e
  exact ⟨j,h1,h,h2,h3,h4⟩
theorem jt {α:Type}{xs:List α}{j:Nat}{v:α}(h:xs[j]?=some v):atI xs (j:Int)=some v:=by
 have hj:j<xs.length:=(List.getElem?_eq_some_iff.mp h).1
 have e:ixN xs.length (j:Int)=some j:=by
  unfold ixN
  rw [if_pos (by omega),if_pos (by omega)];simp
 unfold atI;rw [e];exact h
def qO (b:Expr):Prop:=∀ o i,subscripted b false o i=operate [o,i] (getItem o i)
def IxR (X:Cx) (r:R2):Prop :=
 ∀ (value slice:Expr) (pins:List (Addr×Obj)) (s:Shared) (σ:St) (H:Hp) (x y:V) (v u:Value) (Q:VK),Inv X pins σ H s->av x v->av y u->r x y H Q ->
  subscripted slice false v u=operate [v,u] (getItem v u)->wpAny (model X.prog X.w) X.A (subscriptTail value slice v u) (EP X pins σ Q) X.xe s
def MtR (X:Cx) (id:String) (r:V->List V->Hp->VK->Prop):Prop :=
 ∀ (pins:List (Addr×Obj)) (s:Shared) (σ:St) (H:Hp) (x:V) (xs:List V) (v:Value) (us:List Value) (Q:VK),Inv X pins σ H s->av x v->ap xs us->r x xs H Q ->
  wpAny (model X.prog X.w) X.A (call (.builtin id) (v::us)) (EP X pins σ Q) X.xe s
section
variable {X:Cx}{a b:Expr}{ta tb:TE}{pos:Pos}
theorem EE {r:R2}(hr:IxR X r) (ha:PE X a ta) (hb:PE X b tb) (hs:qO b):PE X (.Subscript a b pos) (tOp r ta tb):=by
 intro pins s σ H Q I h
 exact Subscript_ (nH ha hb I h λv u s2 x y H2 I2 rx ry q=>hr a b pins s2 σ H2 x y v u Q I2 rx ry q (hs _ _))
def GF (K:PySem.W.Frag):R2:=λx y H Q=>∃ p xs i v,x=.ref p/\y=.int i/\SqL K H p xs/\atI xs i=some v/\Q v H
def GG (K:PySem.W.Frag):R2:=λx y H Q=>∃ p xs i v,x=.ref p/\y=.int i/\SqT K H p xs/\atI xs i=some v/\Q v H
def GH:R2:=λx y H Q=>∃ z i c,x=.str z/\y=.int i/\z.length<=sizeLine/\atI z.cps.toList i=some c/\Q (.str ⟨#[c]⟩) H
theorem zL:IxR X (GF X.K):=by
 intro value slice pins s σ H x y v u Q I rx ry h hs
 obtain ⟨p,xs,i,z,rfl,rfl,hq,he,q⟩:=h
 cases rx
 obtain ⟨t,rfl⟩:=ry
 obtain ⟨its,r,pl,hz⟩:=I.list hq
 obtain ⟨j,h1,h2,h3,h4,h5⟩:=lx he
 obtain ⟨w,ew,rw'⟩:=r.get h2
 have hl:=r.length
 have hn:=e9
 have fin:EP X pins σ Q w s:=⟨z,H,I,rw',q⟩
 by_cases h0:0<=i
 ·have hj:i.toNat=j:=by
   rw [seqIndex_of h0 h5] at h1
   exact Option.some.inj h1
  exact item_listR pl.isList h0 (by omega) (by rw [hj];simpa using ew) fin hs
 ·have hj:(i+(its.toArray.size:Int)).toNat=j:=by
   rw [seqIndex_neg (by omega) h4] at h1
   rw [List.size_toArray,<- hl]
   exact Option.some.inj h1
  exact subscriptTail_builtinR (x:=w) pl.isList.typeIs slot_list_getitem.lookup
   (wpAny_getItem_list_neg (Q:=λr s'=>r=w/\EP X pins σ Q r s') pl.isList (by omega) (by rw [List.size_toArray]<;>omega) (by omega) (by rw [hj];simpa using ew) ⟨rfl,fin⟩) hs
theorem B8:IxR X (GG X.K):=by
 intro value slice pins s σ H x y v u Q I rx ry h hs
 obtain ⟨p,xs,i,z,rfl,rfl,hq,he,q⟩:=h
 cases rx
 obtain ⟨t,rfl⟩:=ry
 obtain ⟨its,r,pl,hz⟩:=I.tuple hq
 obtain ⟨j,h1,h2,h3,h4,h5⟩:=lx he
 obtain ⟨w,ew,rw'⟩:=r.get h2
 have hl:=r.length
 have hn:=e9
 have fin:EP X pins σ Q w s:=⟨z,H,I,rw',q⟩
 exact subscriptTail_builtinR (x:=w) pl.typeIs slot_tuple_getitem.lookup
  (getItem_tuple (j:=j) (Q:=λr s'=>r=w/\EP X pins σ Q r s') pl (by omega) (by omega) (by rw [List.size_toArray,<- hl];exact h1) (by simpa using ew) ⟨rfl,fin⟩) hs
theorem B9:IxR X GH:=by
 intro value slice pins s σ H x y v u Q I rx ry h hs
 obtain ⟨z,i,c,rfl,rfl,hz,he,q⟩:=h
 obtain ⟨t,rfl⟩:=rx
 obtain ⟨t',rfl⟩:=ry
 obtain ⟨j,h1,h2,h3,h4,h5⟩:=lx he
 have hl:z.cps.toList.length=z.length:=by simp [Str.length]
 rw [hl] at h1 h4 h5
 have hn:=e9
 exact tail_any (typeIs_str s z t) slot_str_getitem.lookup (getItem_str (c:=c) (by
  have e1:decide (i < -(2 ^ 63:Int))=false:=decide_eq_false (by omega)
  have e2:decide (i≥2 ^ 63)=false:=decide_eq_false (by omega)
  rw [e1,e2,Bool.or_false]) (by rw [h1];simpa using h2) ⟨.str ⟨#[c]⟩,H,I.tok _,⟨_,rfl⟩,q⟩) hs
theorem v6 (its:List Value) (n j:Nat) (u:Value):Obj.mapSeq (·.setIfInBounds j u) { cls:=.type "list",data:=.seq its.toArray n }={ cls:=.type "list",data:=.seq (its.set j u).toArray n }:=by
 simp [Obj.mapSeq]
theorem Inv.lst {pins:List (Addr×Obj)}{σ:St}{H:Hp}{s:Shared}{p:Addr}{xs:List V}(I:Inv X pins σ H s) (h:H p=some (.lst xs)) :
  ∃ (its:List Value) (n:Nat),ap xs its/\s.heap.get? p=some { cls:=.type "list",data:=.seq its.toArray n }/\xs.length<=sizeLine:=by
 obtain ⟨z,its,n,r,e⟩:=I.hok p _ h
 exact ⟨its,n,r,e,z⟩
theorem Inv.lstUpd {pins:List (Addr×Obj)}{σ:St}{H:Hp}{s:Shared}{p:Addr}{xs ys:List V}{its its':List Value}{n n':Nat}{f:Obj->Obj}(I:Inv X pins σ H s) (h:H p=some (.lst xs))
  (ho:s.heap.get? p=some { cls:=.type "list",data:=.seq its.toArray n }) (hf:f { cls:=.type "list",data:=.seq its.toArray n }={ cls:=.type "list",data:=.seq its'.toArray n' }) (r:ap ys its') (hz:ys.length<=sizeLine) (t:Nat) :
  Inv X pins σ (upd H p (.lst ys)) { s with heap:=s.heap.update p f,toks:=t }:=by
 have e:(s.heap.update p f).get? p=some { cls:=.type "list",data:=.seq its'.toArray n' }:=by
  rw [Heap.get?_update_self f ho (by rw [hf]<;>rfl),hf]
 refine I.write (x:=p) (e:=p) (by rw [h];trivial) (.inl rfl) (λb u hb q=>(Heap.get?_update_other _ _ (Ne.symm hb)).trans q) ⟨_,e⟩ ?_
 exact ⟨hz,its',n',r,e⟩
def EF:V->V->V->Hp->(Hp->Prop)->Prop:=λo i v H Q=>∃ p xs k j,o=.ref p/\i=.int k/\H p=some (.lst xs)/\ixN xs.length k=some j/\Q (upd H p (.lst (xs.set j v)))
theorem xP:eI X EF:=by
 intro pins s σ H o i v ov iv u Q I ro ri rv h
 obtain ⟨p,xs,k,j,rfl,rfl,hp,hj,q⟩:=h
 cases ro
 obtain ⟨t,rfl⟩:=ri
 obtain ⟨its,n,r,ho,hz⟩:=I.lst hp
 obtain ⟨h1,h2,h3,h4⟩:=qN hj
 have hl:=r.length
 have hn:=e9
 have I':Inv X pins σ (upd H p (.lst (xs.set j v))) { s with heap:=s.heap.update p (Obj.mapSeq (·.setIfInBounds j u)) } :=
  I.lstUpd hp ho (v6 its n j u) (r.set rv j) (by rw [List.length_set];exact hz) s.toks
 by_cases h0:0<=k
 ·have hk:k.toNat=j:=by
   rw [seqIndex_of h0 h4] at h1
   exact Option.some.inj h1
  exact PySem.W.ki_setAt ho h0 (by omega) (by rw [List.size_toArray,<- hl];exact h4) (by rw [hk];exact ⟨_,I',q⟩)
 ·have hk:(k+(its.toArray.size:Int)).toNat=j:=by
   rw [seqIndex_neg (by omega) h3] at h1
   rw [List.size_toArray,<- hl]
   exact Option.some.inj h1
  exact PySem.W.ki_setBack ho (by omega) (by rw [List.size_toArray,<- hl];exact h3) (by omega) (by rw [hk];exact ⟨_,I',q⟩)
theorem vK (lo hi:Option Int) (n:Nat):(sliceBounds lo hi none n).1=((HT.sIx n 0 lo:Nat):Int)/\(sliceBounds lo hi none n).2.1=((HT.sIx n n hi:Nat):Int)/\(sliceBounds lo hi none n).2.2=1:=by
 refine ⟨?_,?_,rfl⟩
 ·cases lo with
  |none=>simp [sliceBounds,HT.sIx]
  |some i =>
   simp only [sliceBounds,HT.sIx,Option.getD_none,show (1:Int)>0 by decide,if_true]
   by_cases h:i<0
   ·simp only [h,if_true]<;>omega
   ·simp only [h,if_false]<;>omega
 ·cases hi with
  |none=>simp [sliceBounds,HT.sIx]
  |some i =>
   simp only [sliceBounds,HT.sIx,Option.getD_none,show (1:Int)>0 by decide,if_true]
   by_cases h:i<0
   ·simp only [h,if_true]<;>omega
   ·simp only [h,if_false]<;>omega
theorem vG (its:List Value) (lo hi:Option Int):slicePick its.toArray lo hi none=((its.drop (HT.sIx its.length 0 lo)).take (HT.sIx its.length its.length hi - HT.sIx its.length 0 lo)).toArray:=by
 obtain ⟨h1,h2,h3⟩:=vK lo hi its.toArray.size
 unfold slicePick
 rw [h1,h2,h3]
 simp only [sliceRange_one,pick_run,List.size_toArray]<;>rfl
def uS (K:PySem.W.Frag):V->Option Int->Option Int->Hp->VK->Prop:=λx lo hi H Q=>∃ a xs,x=.ref a/\SqL K H a xs/\∀ p,H p=none->Q (.ref p) (upd H p (.lst (gZ xs lo hi)))
theorem zM:SlR X (uS X.K):=by
 intro pins s σ H x v vl vu lo hi sl Q I rx hs pl pu h
 obtain ⟨a,xs,rfl,hx,q⟩:=h
 cases rx
 obtain ⟨its,r,ht,hz⟩:=I.list hx
 have hlen:=r.length
 refine ⟨"list",_,slot_list_getitem.lookup,ht.isList.typeIs,?_⟩
 refine wpAny_getItem_list_slice ht.isList hs pl pu .none (by simp) ?_ (by rw [List.size_toArray]<;>omega)
 rw [vG,<- hlen]
 refine ⟨.ref s.heap.objs.size,_,I.laid (t':=s.toks) (o:=.lst (gZ xs lo hi)) (λb ob q=>Heap.get?_push_of_some _ q) (Nat.le_refl _) ?_,rfl,q _ (I.hok.fresh (Nat.le_refl _))⟩
 exact ⟨Nat.le_trans (vT xs lo hi) hz,_,0,(r.drop (HT.sIx xs.length 0 lo)).take (HT.sIx xs.length xs.length hi - HT.sIx xs.length 0 lo),Heap.get?_push_size _ rfl⟩
def c6:V->Bool
 |.non=>true
 |.bl _=>true
 |.int _=>true
 |.str _=>true
 |_=>false
def eqV:V->V->Bool
 |.non,.non=>true
 |.bl a,.bl b=>a==b
 |.bl a,.int b=>(if a then 1 else 0)==b
 |.int a,.bl b=>a==(if b then 1 else 0)
 |.int a,.int b=>a==b
 |.str a,.str b=>a==b
 |_,_=>false
theorem B' {A:Around}{s:Shared}{y x:V}{u v:Value}(ry:av y u) (rx:av x v) (fy:c6 y=true) (fx:c6 x=true):SeqAt.EqAt A s u v (eqV y x):=by
 cases y with
 |non =>
  cases ry
  cases x with
  |non=>cases rx;exact SeqAt.EqAt.same _
  |bl b=>cases rx;exact SeqAt.EqAt.none_bool b
  |int b=>obtain ⟨t,rfl⟩:=rx;exact SeqAt.EqAt.none_int b t
  |str b=>obtain ⟨t,rfl⟩:=rx;exact SeqAt.EqAt.none_str b t
  |_=>exact absurd (show false=true from fx) Bool.false_ne_true
 |bl a =>
  cases ry
  cases x with
  |non=>cases rx;exact SeqAt.EqAt.bool_none a
  |bl b=>cases rx;exact SeqAt.EqAt.bool_bool a b
  |int b=>obtain ⟨t,rfl⟩:=rx;exact SeqAt.EqAt.bool_int a b t
  |str b=>obtain ⟨t,rfl⟩:=rx;exact SeqAt.EqAt.bool_str a b t
  |_=>exact absurd (show false=true from fx) Bool.false_ne_true
 |int a =>
  obtain ⟨t',rfl⟩:=ry
  cases x with
  |non=>cases rx;exact SeqAt.EqAt.int_none a t'
  |bl b=>cases rx;exact SeqAt.EqAt.int_bool a t' b
  |int b=>obtain ⟨t,rfl⟩:=rx;exact SeqAt.EqAt.int_int a t' b t
  |str b=>obtain ⟨t,rfl⟩:=rx;exact SeqAt.EqAt.int_str a t' b t
  |_=>exact absurd (show false=true from fx) Bool.false_ne_true
 |str a =>
  obtain ⟨t',rfl⟩:=ry
  cases x with
  |non=>cases rx;exact SeqAt.EqAt.str_none a t'
  |bl b=>cases rx;exact SeqAt.EqAt.str_bool a t' b
  |int b=>obtain ⟨t,rfl⟩:=rx;exact SeqAt.EqAt.str_int a t' b t
  |str b=>obtain ⟨t,rfl⟩:=rx;exact SeqAt.EqAt.str_str a t' b t
  |_=>exact absurd (show false=true from fx) Bool.false_ne_true
 |_=>exact absurd (show false=true from fy) Bool.false_ne_true
def eqU (x:V) (u:Value):Bool:=match u with
 |.none=>eqV .non x
 |.bool b=>eqV (.bl b) x
 |.int i _=>eqV (.int i) x
 |.str z _=>eqV (.str z) x
 |_=>false
theorem si {x y:V}{u:Value}(r:av y u) (f:c6 y=true):eqU x u=eqV y x:=by
 cases y with
 |non=>cases r;rfl
 |bl b=>cases r;rfl
 |int i=>obtain ⟨t,rfl⟩:=r;rfl
 |str z=>obtain ⟨t,rfl⟩:=r;rfl
 |_=>exact absurd (show false=true from f) Bool.false_ne_true
theorem lB {x:V}:∀ {xs:List V}{us:List Value},ap xs us->xs.all c6=true->us.any (eqU x)=xs.any λy=>eqV y x
 |_,_,.nil,_=>rfl
 |y::xs,u::us,.cons r t,f=>by
  rw [List.all_cons,Bool.and_eq_true] at f
  rw [List.any_cons,List.any_cons,si r f.1,lB t f.2]
theorem kT {A:Around}{s:Shared}{x:V}{v:Value}(rx:av x v) (fx:c6 x=true):∀ {xs:List V}{us:List Value},ap xs us->xs.all c6=true->∀ u∈us,SeqAt.EqAt A s u v (eqU x u)
 |_,_,.nil,_=>λu hu=>by cases hu
 |y::xs,u::us,.cons r t,f=>λu' hu=>by
  rw [List.all_cons,Bool.and_eq_true] at f
  rcases List.mem_cons.mp hu with rfl|hu
  ·rw [si r f.1];exact B' r rx f.1 fx
  ·exact kT rx fx t f.2 u' hu
def inV (x:V) (xs:List V):Bool:=xs.any λy=>eqV y x
def rIn (K:PySem.W.Frag) (neg:Bool):R2:=λx y H Q=>∃ p xs,y=.ref p/\(SqL K H p xs\/SqT K H p xs)/\c6 x=true/\xs.all c6=true/\Q (.bl (if neg then !inV x xs else inV x xs)) H
theorem oG:OpR X (compareOp .NotIn) (rIn X.K true):=by
 intro pins s σ H x y v u Q I rx ry h
 obtain ⟨p,xs,rfl,hq,fx,fs,q⟩:=h
 cases ry
 rcases hq with hq|hq
 ·obtain ⟨its,r,pl,hz⟩:=I.list hq
  refine SeqAt.notIn_listAt (eqU x) pl.isList (λw hw=>kT rx fx r fs w (by simpa using hw)) ⟨.bl _,H,I,rfl,?_⟩
  rw [show its.toArray.any (eqU x)=its.any (eqU x) by simp,lB r fs]
  exact q
 ·obtain ⟨its,r,pl,hz⟩:=I.tuple hq
  refine SeqAt.notIn_tupleAt (eqU x) pl (λw hw=>kT rx fx r fs w (by simpa using hw)) ⟨.bl _,H,I,rfl,?_⟩
  rw [show its.toArray.any (eqU x)=its.any (eqU x) by simp,lB r fs]
  exact q
theorem oH:bz X (.builtin "len") (λxs H Q=>∃ p ys,xs=[.ref p]/\(SqL X.K H p ys\/SqT X.K H p ys)/\Q (.int ys.length) H):=by
 intro pins s σ H xs us Q I r h
 obtain ⟨p,ys,rfl,hq,q⟩:=h
 obtain ⟨u,rfl,rx⟩:=cg r
 cases rx
 have hn:=e9
 rcases hq with hq|hq
 ·obtain ⟨its,r',pl,hz⟩:=I.list hq
  have hlen:=r'.length
  exact Calls.call_len_list pl.isList (by simp only [List.size_toArray]<;>omega) ⟨.int ys.length,H,I.tok _,⟨s.toks+1,by rw [List.size_toArray,hlen]⟩,q⟩
 ·obtain ⟨its,r',pl,hz⟩:=I.tuple hq
  have hlen:=r'.length
  exact len_tuple pl (by simp only [List.size_toArray]<;>omega) ⟨.int ys.length,H,I.tok _,⟨s.toks+1,by rw [List.size_toArray,hlen]⟩,q⟩
theorem vL:bz X (.builtin "len") (λxs H Q=>∃ z,xs=[.str z]/\z.length<=sizeLine/\Q (.int z.length) H):=by
 intro pins s σ H xs us Q I r h
 obtain ⟨z,rfl,hz,q⟩:=h
 obtain ⟨u,rfl,t,rfl⟩:=cg r
 have hn:=e9
 exact len_str (by omega) ⟨.int z.length,H,I.tok _,⟨_,rfl⟩,q⟩
theorem oI:bz X (.type "list") (λxs H Q=>∃ p ys,xs=[.ref p]/\(SqL X.K H p ys\/SqT X.K H p ys)/\∀ l,H l=none->Q (.ref l) (upd H l (.lst ys))):=by
 intro pins s σ H xs us Q I r h
 obtain ⟨p,ys,rfl,hq,q⟩:=h
 obtain ⟨u,rfl,rx⟩:=cg r
 cases rx
 have fin:∀ (its:List Value),ap ys its->ys.length<=sizeLine->∀ (h':Heap) (c':Nat),(∀ b o',s.heap.get? b=some o'->h'.get? b=some o') ->
   h'.get? s.heap.objs.size=some { cls:=.type "list",dict:=none,data:=.seq its.toArray c',slots:=#[] }->EP X pins σ Q (.ref s.heap.objs.size) { s with heap:=h' }:=λits r' hz h' c' kp e =>
  ⟨.ref s.heap.objs.size,_,I.laid (t':=s.toks) kp (Nat.le_refl _) (show aT X.prog X.w _ h' _ (.lst ys) from ⟨hz,its,c',r',e⟩),rfl,q _ (I.hok.fresh (Nat.le_refl _))⟩
 rcases hq with hq|hq
 ·obtain ⟨its,r',pl,hz⟩:=I.list hq
  have hlen:=r'.length
  obtain ⟨o,ho,hc,n,hd⟩:=pl.isList
  exact call_list_seq p (.inl rfl) ho hc hd (λh' c' kp e=>fin its r' hz h' c' kp e) (by simp only [List.size_toArray]<;>omega)
 ·obtain ⟨its,r',pl,hz⟩:=I.tuple hq
  have hlen:=r'.length
  obtain ⟨o,ho,hc,n,hd⟩:=pl
  exact call_list_seq p (.inr rfl) ho hc hd (λh' c' kp e=>fin its r' hz h' c' kp e) (by simp only [List.size_toArray]<;>omega)
def tyV (K:PySem.W.Frag) (T:String) (x:V) (H:Hp):Prop:=match x with
 |.str _=>T="str"
 |.int _=>T="int"
 |.ref p=>(T="list" /\ ∃ xs,SqL K H p xs)\/(T="tuple" /\ ∃ o,K.lookup p=some o/\o.cls=.type "tuple" /\ o.dict=none) \/
   (T="dict" /\ ((∃ kvs,H p=some (.dK kvs))\/∃ kvs,H p=some (.dT kvs)))\/(T="set" /\ ∃ S n,H p=some (.set S n))
 |_=>False
theorem sj {pins:List (Addr×Obj)}{σ:St}{H:Hp}{s:Shared}{T:String}{x:V}{v:Value}(I:Inv X pins σ H s) (r:av x v) (ty:tyV X.K T x H) :
  s.TypeIs v T/\∀ a,v=.ref a->∃ ob,s.heap.get? a=some ob/\ob.dict=none:=by
 cases x with
 |str z =>
  obtain ⟨t,rfl⟩:=r
  cases (show T="str" from ty)
  exact ⟨typeIs_str s z t,λ_ e=>nomatch e⟩
 |int i =>
  obtain ⟨t,rfl⟩:=r
  cases (show T="int" from ty)
  exact ⟨typeIs_int s i t,λ_ e=>nomatch e⟩
 |ref p =>
  cases r
  rcases ty with ⟨rfl,xs,hq⟩|⟨rfl,o,hk,hc,hd⟩|⟨rfl,hk⟩|⟨rfl,S,n,hk⟩
  ·obtain ⟨its,_,pl,_⟩:=I.list hq
   refine ⟨pl.isList.typeIs,λa e=>?_⟩
   cases e
   obtain ⟨o,n,e,c,hd,_⟩:=pl
   exact ⟨o,e,hd⟩
  ·refine ⟨⟨o,I.kIn p o hk,hc⟩,λa e=>?_⟩
   cases e
   exact ⟨o,I.kIn _ o hk,hd⟩
  ·have z:∃ o,s.heap.get? p=some o/\o.ExactDict:=by
    rcases hk with ⟨kvs,hk⟩|⟨kvs,hk⟩
    ·obtain ⟨_,_,_,_,o,_,_,e,ex,_⟩:=I.hok p _ hk
     exact ⟨o,e,ex⟩
    ·obtain ⟨_,_,_,_,o,_,_,e,ex,_⟩:=I.hok p _ hk
     exact ⟨o,e,ex⟩
   obtain ⟨o,e,ex⟩:=z
   refine ⟨⟨o,e,ex.1⟩,λa e2=>?_⟩
   cases e2
   exact ⟨o,e,ex.2.1⟩
  ·obtain ⟨o,_,_,_,e,ex,_⟩:=I.hok p _ hk
   refine ⟨⟨o,e,ex.1⟩,λa e2=>?_⟩
   cases e2
   exact ⟨o,e,ex.2.1⟩
 |_=>exact False.elim ty
def GI (K:PySem.W.Frag) (T:String) (r:V->List V->Hp->VK->Prop) (to:TE):TE:=λσ H Q=>to σ H λx H1=>tyV K T x H1/\r x [] H1 Q
def tBM (K:PySem.W.Frag) (T:String) (r:V->List V->Hp->VK->Prop) (to:TE) (t:TA):TE:=λσ H Q=>to σ H λx H1=>tyV K T x H1/\t σ H1 λxs H2=>r x xs H2 Q
variable {o e:Expr}{es:List Expr}{to:TE}{t:TA}{name:Str}{apos cpos:Pos}{T id:String}{r:V->List V->Hp->VK->Prop}
theorem Ca (pa:PlainAttrs T) (slot:Slot T name id) (hty:typeOf (.builtin id)=pure (.type "method_descriptor")) (hm:MtR X id r) (ho:PE X o to)
  (hbase:attributeBase o name X.env (eval o X.env)=eval o X.env:=by rfl) (hline:(apos.endLine==cpos.line)=true:=by rfl):PE X (.Call (.Attribute o name apos) [] [] cpos) (GI X.K T r to):=by
 intro pins s σ H Q I h
 refine wpAny_Call_method0_late hbase hline (thn (ho pins s σ H _ I h) λv s1 zz41=>?_)
 obtain ⟨x,H1,I1,r1,ty,q1⟩:=zz41
 obtain ⟨h1,h2⟩:=sj I1 r1 ty
 exact ⟨T,id,pa,slot,hty,h1,h2,Calls.callWith_builtin rfl (PySem.evalArgs_none (hm pins s1 σ H1 x [] v [] Q I1 r1 .nil q1))⟩
theorem dS (pa:PlainAttrs T) (slot:Slot T name id) (hty:typeOf (.builtin id)=pure (.type "method_descriptor")) (hm:MtR X id r) (ho:PE X o to) (ha:PA X (e::es) t)
  (hbase:attributeBase o name X.env (eval o X.env)=eval o X.env:=by rfl)
  (hfew:((backTo cpos (starEach (e::es) X.env)).all (λx=>!x.1)&&(backToKw cpos (keywordEach [] X.env)).all (λx=>x.1.isSome)
   && decide ((e::es).length+([]:List Keyword).length+(if ([]:List Keyword).isEmpty then 0 else 1)<30))=true:=by rfl)
  (hline:(apos.endLine==cpos.line)=true:=by rfl) (hs:starEach (e::es) X.env=(false,eval e X.env)::starEach es X.env:=by rfl) (hplain:(backTo cpos (starEach es X.env)).any (·.1)=false:=by rfl) :
  PE X (.Call (.Attribute o name apos) (e::es) [] cpos) (tBM X.K T r to t):=by
 intro pins s σ H Q I h
 refine wpAny_Call_method_late hbase hfew hline rfl (thn (ho pins s σ H _ I h) λv s1 zz42=>?_)
 obtain ⟨x,H1,I1,r1,ty,q1⟩:=zz42
 obtain ⟨h1,h2⟩:=sj I1 r1 ty
 refine ⟨T,id,pa,slot,hty,h1,h2,?_⟩
 have hA:=ha cpos pins s1 σ H1 _ I1 q1
 rw [hs] at hA ⊢
 refine Calls.callWith_builtin (by show (false || (backTo cpos (starEach es X.env)).any (·.1))=false;rw [hplain]<;>rfl) (Calls.evalArgs_plain ?_)
 exact thn hA λus s2 zz43=>by obtain ⟨vs,H2,I2,r2,q2⟩:=zz43;exact hm pins s2 σ H2 x vs v us Q I2 r1 r2 q2
end
def MtM (X:Cx) (id:String) (r:V->List V->Hp->VK->Prop):Prop :=
 ∀ (pins:List (Addr×Obj)) (s:Shared) (σ:St) (H:Hp) (x:V) (xs:List V) (v:Value) (us:List Value) (Q:VK),Inv X pins σ H s->av x v->ap xs us->r x xs H Q ->
  wpAny (model X.prog X.w) X.A (call (.builtin id) (v::us)) (EP X pins σ Q) X.xe s
theorem ap.one:∀ {x:V}{us:List Value},ap [x] us->∃ u,us=[u]/\av x u
 |_,_,.cons r .nil=>⟨_,rfl,r⟩
theorem ap.rep {xs:List V}{us:List Value}(h:ap xs us):∀ k:Nat,ap (List.replicate k xs).flatten (List.replicate k us).flatten
 |0=>.nil
 |k+1=>by
  rw [List.replicate_succ,List.replicate_succ,List.flatten_cons,List.flatten_cons]
  exact ap.append h (ap.rep h k)
theorem pU (its:List Value):∀ (k:Nat) (acc:List Value),
  List.foldl (λx1 x2=>x1++x2) acc.toArray (List.replicate k its.toArray)=(acc++(List.replicate k its).flatten).toArray
 |0,acc=>by simp
 |k+1,acc=>by
  have e:acc.toArray++its.toArray=(acc++its).toArray:=by simp
  have e2:(acc++its)++(List.replicate k its).flatten=acc++(List.replicate (k+1) its).flatten:=by
   rw [List.replicate_succ,List.flatten_cons,List.append_assoc]
  rw [<- e2,<- pU its k (acc++its),<- e,List.replicate_succ,List.foldl_cons]
section
variable {X:Cx}{pins:List (Addr×Obj)}{σ:St}{H:Hp}{s:Shared}{l b:Addr}{xs ys zs:List V}
theorem Inv.lset {its its':List Value}{n:Nat}{f:Array Value->Array Value}{t':Nat}(I:Inv X pins σ H s) (hH:H l=some (.lst xs))
  (e:s.heap.get? l=some { cls:=.type "list",data:=.seq its.toArray n }) (hf:f its.toArray=its'.toArray) (hv:ap ys its') (hz:ys.length<=sizeLine) :
  Inv X pins σ (upd H l (.lst ys)) { s with heap:=s.heap.update l (Obj.mapSeq f),toks:=t' }:=by
 have q:=PySem.IsL.update e f
 rw [hf] at q
 refine I.write (x:=l) (e:=l) (by rw [hH];exact trivial) (.inl rfl) (λb' u hb hu=>(Heap.get?_update_other s.heap (Obj.mapSeq f) (Ne.symm hb)).trans hu) ⟨_,q⟩ ?_
 exact ⟨hz,its',_,hv,q⟩
theorem Inv.lnew {its:List Value}{t':Nat}(I:Inv X pins σ H s) (hv:ap ys its) (hz:ys.length<=sizeLine) :
  Inv X pins σ (upd H s.heap.objs.size (.lst ys)) { s with heap:=s.heap.push { cls:=.type "list",data:=.seq its.toArray },toks:=t' } :=
 I.laid (λ_ _ q=>Heap.get?_push_of_some _ q) (Nat.le_refl _) ⟨hz,its,0,hv,Heap.get?_push_size _ rfl⟩
theorem Inv.fresh (I:Inv X pins σ H s):H s.heap.objs.size=none:=I.hok.fresh (Nat.le_refl _)
theorem Inv.lstM (I:Inv X pins σ H s) (hH:H l=some (.lst xs)):xs.length<=sizeLine/\∃ (its:List Value) (n:Nat),ap xs its/\xs.length=its.length/\s.heap.get? l=some { cls:=.type "list",data:=.seq its.toArray n }:=by
 obtain ⟨z,its,n,r,e⟩:=I.hok l _ hH
 exact ⟨z,its,n,r,r.length,e⟩
theorem xQ {n:Nat}(h:n<=sizeLine):Builtin.List.listTooLong n=false:=by
 unfold Builtin.List.listTooLong
 exact decide_eq_false (by omega)
end
section
variable {X:Cx}
def zN:V->List V->Hp->VK->Prop:=λx vs H Q=>∃ l xs y,x=.ref l/\vs=[y]/\H l=some (.lst xs)/\xs.length<sizeLine/\Q .non (upd H l (.lst (xs++[y])))
theorem pV:MtM X "list.append" zN:=by
 intro pins s σ H x vs v us Q I rx rv h
 obtain ⟨l,xs,y,rfl,rfl,hH,hz,q⟩:=h
 cases rx
 obtain ⟨u,rfl,ru⟩:=rv.one
 obtain ⟨z,its,n,r,hl,e⟩:=I.lstM hH
 refine call_meets F.slot_list_append ⟨_,e,rfl⟩ F.entry_list_append (F.args_list_append_2 _ _) (PySem.list_append l its.toArray n u (by rw [List.size_toArray];omega)) ⟨e,?_⟩
 refine ⟨.non,_,I.lset (its':=its++[u]) hH e (by simp) (r.append (.cons ru .nil)) ?_,rfl,q⟩
 rw [List.length_append,List.length_singleton]
 omega
def GJ:R2:=λx y H Q=>∃ l b xs zs,x=.ref l/\y=.ref b/\H l=some (.lst xs)/\H b=some (.lst zs)/\xs.length+zs.length<=sizeLine/\∀ p,H p=none->Q (.ref p) (upd H p (.lst (xs++zs)))
theorem Cb:OpR X (binaryOp .Add) GJ:=by
 intro pins s σ H x y v u Q I rx ry h
 obtain ⟨l,b,xs,zs,rfl,rfl,hH,hB,hz,q⟩:=h
 cases rx
 cases ry
 obtain ⟨z,its,n,r,hl,e⟩:=I.lstM hH
 obtain ⟨z2,its2,n2,r2,hl2,e2⟩:=I.lstM hB
 refine PySem.P.add_list e e2 ?_ (by rw [List.size_toArray,List.size_toArray];omega)
 have ea:its.toArray++its2.toArray=(its++its2).toArray:=by simp
 rw [ea]
 exact ⟨.ref _,_,I.lnew (t':=s.toks) (r.append r2) (by rw [List.length_append];omega),rfl,q _ I.fresh⟩
def GK:R2:=λx y H Q=>∃ l k xs,x=.ref l/\y=.int k/\H l=some (.lst xs) /\ -(2 ^ 63)<=k/\k<2 ^ 63/\xs.length * k.toNat<=sizeLine /\
 ∀ p,H p=none->Q (.ref p) (upd H p (.lst (List.replicate k.toNat xs).flatten))
theorem zO {α:Type}(xs:List α) (k:Nat):(List.replicate k xs).flatten.length=k * xs.length:=by
 induction k with
 |zero=>simp
 |succ k ih=>rw [List.replicate_succ,List.flatten_cons,List.length_append,ih,Nat.succ_mul,Nat.add_comm]
theorem Cc:OpR X (binaryOp .Mult) GK:=by
 intro pins s σ H x y v u Q I rx ry h
 obtain ⟨l,k,xs,rfl,rfl,hH,h1,h2,hz,q⟩:=h
 cases rx
 obtain ⟨t,rfl⟩:=ry
 obtain ⟨z,its,n,r,hl,e⟩:=I.lstM hH
 have hlen:its.toArray.size * k.toNat<=sizeLine:=by rw [List.size_toArray,<- hl];exact hz
 have hcap:¬ its.toArray.size * k.toNat>(2 ^ 63 - 1) / 8:=by
  have:(sizeLine:Nat)<=(2 ^ 63 - 1) / 8:=by decide
  omega
 have hfit:¬ (!Builtin.List.listFitsIndex k)=true:=by
  rw [fitsIndex_both h1 h2]
  exact Bool.false_ne_true
 have hlong:¬ Builtin.List.listTooLong (its.toArray.size * k.toNat)=true:=by
  rw [xQ hlen]
  exact Bool.false_ne_true
 have hnew:List.foldl (λx1 x2=>x1++x2) #[] (List.replicate (if its.toArray.isEmpty=true then 0 else k.toNat) its.toArray)=(List.replicate k.toNat its).flatten.toArray:=by
  have f0:∀ m:Nat,List.foldl (λx1 x2=>x1++x2) #[] (List.replicate m its.toArray)=(List.replicate m its).flatten.toArray:=λm=>by
   have:=pU its m []
   rw [List.nil_append] at this
   exact this
  rw [f0]
  cases its with
  |nil=>simp
  |cons a r'=>rw [if_neg (by simp)]
 refine wpAny_binaryOp_repeat_ref (T:="list") (U:="int") (by decide) ⟨_,e,rfl⟩ (λs'=>typeIs_int s' k t) noFill_list_mul F.fills_int_mul F.slot_int_rmul repeat_list F.slot_int_index.lookup
  (call_meets F.slot_int_rmul (typeIs_int s k t) F.entry_int_rmul (F.args_int_rmul_2 _ _) (int___rmul___int_list k t l its.toArray n)
   ⟨e,rfl,⟨_,e,rfl⟩,call_meets F.slot_list_mul ⟨_,e,rfl⟩ F.entry_list_mul (F.args_list_mul_2 _ _) (AutoListH.list___mul___list_int_3 l its.toArray n k t hfit hcap hlong) ⟨e,?_⟩⟩)
 rw [hnew]
 exact ⟨.ref _,_,I.lnew (t':=s.toks) (r.rep k.toNat) (by rw [zO,Nat.mul_comm];exact hz),rfl,q _ I.fresh⟩
end
section
variable {prog:Program}{w:World}{A:Around}{E:Value->Shared->Prop}{s:Shared}
end
section
variable {X:Cx}
end
end L2
namespace Att
open PySem PySem.W PySem.Calls PyProof.Rows
theorem vD {P:Params}{h:Heap}:∀ (ns:List Int) (vs:List Value),WellAll P h vs (ns.map WData.int)->IntsAre vs ns:=by
 intro ns
 induction ns with
 |nil =>
  intro vs w
  rw [List.map_nil] at w
  cases w
  exact .nil
 |cons n ns ih =>
  intro vs w
  rw [List.map_cons] at w
  cases w with
  |cons a b =>
   cases a
   exact .cons _ _ (ih _ b)
theorem wR {l:OpenLaw}{n:Nat}(hn:l.most=some n){P:Params}{h:Heap}{args:List WData}{vals:List Value}
  (hpre:l.row.toRowW.claim.pre args=true) (hwl:WellAll P h vals args) :
  ∃ a vs ns,vals=[Value.ref a]/\args=[WData.list (ns.map WData.int)]/\h.get? a=some { cls:=.type "list",data:=.seq vs.toArray }/\IntsAre vs ns/\ns.length<=n:=by
 have hsh:WShape.hasAll [] args [.list .int]=true:=(pre_splitW hpre).1
 have hc:l.pre.holds [] { args:=args }=true:=(pre_splitW hpre).2
 obtain ⟨d,r,rfl,h1,h2⟩:=hasAllW_cons hsh
 obtain rfl:=hasAllW_nil h2
 obtain ⟨xs,rfl,h3⟩:=hasW_list h1
 obtain ⟨ns,rfl⟩:=items_int h3
 have hlen:ns.length<=n:=by
  unfold OpenLaw.pre at hc
  have h4:(WTm.not (.lt (.lit (.int (n:Int))) (.len (.arg 0)))).holds [] { args:=[.list (ns.map .int)] }=true:=by
   have h4:=(holds_andW hc).1
   rw [hn] at h4
   exact h4
  have h5:=condW_of h4 (w_not (w_lt w_lit (w_len_list (w_arg rfl))))
  rw [List.length_map] at h5
  refine Nat.le_of_not_lt λq=>?_
  have q':(n:Int)<((ns.length:Nat):Int):=by omega
  first
   |(rw [decide_eq_true q'] at h5;exact absurd h5 (by decide))
   |(simp at h5;omega)
 cases hwl with
 |cons w1 w2 =>
  cases w2
  cases w1 with
  |list ho hall=>exact ⟨_,_,ns,rfl,rfl,ho,vD ns _ hall,hlen⟩
theorem wS (l:OpenLaw) (args:List WData):l.row.toRowW.claim.post args (.bool true) args=true :=
 postW_of (r:=l.row.toRowW) (X:=(true==true))
  (show WShape.has [] (.bool true) .bool=true by first|rfl|decide|simp [WShape.has,WShape.arms,WShape.armsAll])
  (show (WTm.eq .res (.lit (.bool true))).value [] { args:=args,res:=some (.bool true),after:=args }=some (.bool (true==true)) from w_eq_bool (w_res rfl) w_lit) rfl
theorem attach_call {l:OpenLaw}{n:Nat}{q:Program}{loose:List Str}{XP:(Str->Option Value)->Heap->Prop}{YP:World->Heap->Prop}{d:DefRec}
  (hn:l.most=some n) (hdf:d.params.defaults=[])
  (call:∀ (w:World) (s₀ s₁:Shared) (mg mb:Str->Option Value) (fa:Addr) (o:Obj) (pm cd doc:Value) (a:Addr) (vs:List Value) (ns:List Int),
   Ground q loose [] XP w s₀ mg mb s₁.heap->YP w s₁.heap ->
   s₁.heap.get? fa=some o->o.data=.func (docDef d.name d.params d.body d.scope pm cd doc)->s₁.heap.CodeRec cd d.name->mg d.name=some (.ref fa) ->
   s₁.heap.get? a=some { cls:=.type "list",data:=.seq vs.toArray }->IntsAre vs ns->ns.length<=n->s₁.gens=#[] ->
   codeAny (model l.prog w) callerA (.call (.ref fa) ⟨[.ref a],[]⟩) (λr s'=>r=.ok (.ret (.bool true))/\OldK s₁.heap s'.heap/\s'.os=s₁.os/\AllBare s'.gens) s₁) :
  WalkO q loose XP YP l.row.toRowW d [] (λf vs=>PySem.call f vs):=by
 intro w s₀ s₁ mg mb G Y fa o pm cd doc dV kV ho hd hcd hD hmg hg args vals as hpre hlay hrd hwl hlo
 obtain rfl:dV=.none:=Dflts.none hD hdf
 obtain rfl:kV=.none:=Dflts.noKw hD
 obtain ⟨a,vs,ns,rfl,rfl,hobj,hints,hlen⟩:=wR hn hpre hwl
 refine enter_call (codeAny_mono (call w s₀ s₁ mg mb fa o pm cd doc a vs ns G Y ho (fd_plain hd) hcd hmg hobj hints hlen hg) λr s' hq=>?_)
 obtain ⟨rfl,h2,h3,h4⟩:=hq
 exact ⟨.inl ⟨.bool true,.bool true,[],rfl,λ_=>rfl,.bool true,wS l _,λ_=>⟨List.Pairwise.nil,λ_ hm=>(nomatch hm)⟩⟩,h2,h3,h4⟩
section
variable {prog:Program}{w:World}{A:Around}{E:Value->Shared->Prop}{s:Shared}{K:Frag}
end
end Att
namespace L2
open PySem PySem.Spec PyProof.Rows
theorem pW:∀ {vs:List Value}{ns:List Int},IntsAre vs ns->ap (ns.map V.int) vs
 |_,_,.nil=>.nil
 |_,_,.cons n t h=>.cons ⟨t,rfl⟩ (pW h)
def kf (H:Hp):Prop:=∀ b,H b=none\/∃ o xs,H b=some (.frz o (.lst xs))
theorem xR {P:Program}{w:World}{K:PySem.W.Frag}{mg mb:Str->Option Value}{CX:CXT}{k:Nat}{fa a:Addr}{fd:FuncData}{x:Str}{sp:Sp}{s₁:Shared}{vs:List Value}{ns:List Int}
  (KX:K.In s₁.heap) (hns:s₁.heap.Ns mainGlobals mg) (hb:s₁.heap.Ns builtinsNs mb) (hbb:∀ x:Str,x ≠ "__name__"->mb x=bootBuiltins x) (hlim:s₁.heap.NoLimit) (hg:s₁.gens=#[])
  (ha:s₁.heap.get? a=some { cls:=.type "list",data:=.seq vs.toArray }) (hi:IntsAre vs ns) (hl:ns.length<=sizeLine) (hr:Room k callerA)
  (F:∀ base:Heap,K.In base->base.Ns mainGlobals mg->FnOk P w K mg base CX k fa fd [x] sp) (hbind:∀ (s:Shared) (u:Value),BindsTo s fd ⟨[u],[]⟩ [(x,u)])
  (hsp:∀ H:Hp,kf H->SqL K H a (ns.map V.int)->sp [.ref a] H (λv _=>v=.bl true) λ_ _ _=>False)
  (hCX:∀ H e s',CX [] H s₁ (λ_ _ _=>False) e s'->False) :
  codeAny (model P w) callerA (.call (.ref fa) ⟨[.ref a],[]⟩) (λr s'=>r=.ok (.ret (.bool true))/\OldK s₁.heap s'.heap/\s'.os=s₁.os/\AllBare s'.gens) s₁:=by
 have rv:=pW hi
 have lenV:=hi.length
 -- from an abstract heap in which nothing but the script may be tracked
 have core:∀ H:Hp,kf H->SqL K H a (ns.map V.int)->HOk P w H s₁.heap->(∀ b,H b≠none->b=a)->(H a≠none->K.lookup a=none) ->
   codeAny (model P w) callerA (.call (.ref fa) ⟨[.ref a],[]⟩) (λr s'=>r=.ok (.ret (.bool true))/\OldK s₁.heap s'.heap/\s'.os=s₁.os/\AllBare s'.gens) s₁:=by
  intro H hO hS hok hA hK
  have base_of:∀ {b:Addr}{o:Obj},s₁.heap.get? b=some o->H b=none->(dX s₁.heap H).get? b=some o:=λe n=>xE e n
  have noA:∀ {b:Addr}{o:Obj}{es:Array DictEntry}{ep:Nat},s₁.heap.get? b=some o->o.data=.dict es ep->H b=none:=fun {b o es ep} e d=>by
   cases q:H b with
   |none=>rfl
   |some u =>
    have e':b=a:=hA b (by rw [q];simp)
    subst e'
    rw [ha] at e;cases e
    have d':Data.seq vs.toArray _=Data.dict es ep:=d
    cases d'
  have nsK:∀ {b:Addr}{m:Str->Option Value},s₁.heap.Ns b m->(dX s₁.heap H).Ns b m:=fun {b m} ⟨o,es,ep,e,d,r⟩=>⟨o,es,ep,base_of e (noA e d),d,r⟩
  have hKb:K.In (dX s₁.heap H):=λb o e=>base_of (KX b o e) (by
   cases q:H b with
   |none=>rfl
   |some u =>
    have e':b=a:=hA b (by rw [q];simp)
    subst e'
    rw [hK (by rw [q];simp)] at e;cases e)
  have hM:Mod K mg (dX s₁.heap H):=⟨hKb,nsK hns,⟨mb,nsK hb,hbb⟩,let ⟨mc,h1,h2⟩:=hlim;⟨mc,nsK h1,h2⟩⟩
  have e0:Env0 P w K mg (dX s₁.heap H) callerA [] s₁ H:=⟨rfl,hM,λb o e=>zl e,Nat.le_of_eq (wF _ _),trivial,λb hb=>absurd (show b∈([]:List Addr) from hb) (by simp),hok,.of_eq hg⟩
  refine codeAny_mono ((F _ hKb (nsK hns)).run callerA [] s₁ H ⟨[.ref a],[]⟩ [.ref a] [.ref a] _ _ hr e0 (hbind s₁ (.ref a)) (.cons rfl .nil) (hsp H hO hS)) λr s' h=>?_
  cases r with
  |error e=>exact (hCX H e s' h).elim
  |ok fl =>
   cases fl with
   |next=>exact False.elim h
   |brk=>exact False.elim h
   |cont=>exact False.elim h
   |ret u =>
    obtain ⟨v,H',os,bare,un,hok',r',q⟩:=h
    have q':v=.bl true:=q
    subst q'
    obtain rfl:u=Value.bool true:=r'
    refine ⟨rfl,OldK.of_keep λb o e=>?_,os,bare⟩
    cases q:H b with
    |none=>exact un.keep b o e q (by intro z;exact absurd (show b∈([]:List Addr) from z) (by simp)) (by simp)
    |some u =>
     rcases hO b with z|⟨ob,xs,z⟩
     ·rw [q] at z;cases z
     ·have z2:=un.frzs b ob _ z
      obtain ⟨e1,_⟩:=hok b _ z
      obtain ⟨e2,_⟩:=hok' b _ z2
      rw [e] at e1;cases e1
      exact e2
 cases hk:K.lookup a with
 |some o =>
  -- the script is one of the module's own objects
  have e:=KX a o hk
  rw [ha] at e
  cases e
  refine core (λ_=>none) (λ_=>.inl rfl) (.inr ⟨_,vs.toArray,_,hk,rfl,rfl,rfl,by rw [List.size_toArray,lenV];exact hl,by simpa using rv⟩) (λb u z=>by have z':(none:Option HO)=some u:=z;cases z') (λb z=>absurd rfl z) λz=>absurd rfl z
 |none =>
  refine core (λb=>if b=a then some (.frz { cls:=.type "list",data:=.seq vs.toArray } (.lst (ns.map V.int))) else none) (λb=>?_) (.inl (.inr ⟨{ cls:=.type "list",data:=.seq vs.toArray },if_pos rfl⟩)) (λb u z=>?_) (λb z=>?_) λ_=>hk
  ·by_cases hb:b=a
   ·exact .inr ⟨_,_,if_pos hb⟩
   ·exact .inl (if_neg hb)
  ·by_cases hb:b=a
   ·have z':=(if_pos hb).symm.trans z
    cases z'
    subst hb
    exact ⟨ha,by rw [List.length_map];exact hl,vs,_,rv,ha⟩
   ·have z':=(if_neg hb).symm.trans z
    cases z'
  ·by_cases hb:b=a
   ·exact hb
   ·exact absurd (if_neg hb) z
theorem zP {l:PySem.W.OpenLaw}{n k:Nat}{q:Program}{loose:List Str}{XP:(Str->Option Value)->Heap->Prop}{YP:World->Heap->Prop}{d:DefRec}{K:Params->PySem.W.Frag}{CX:World->CXT}{sp:World->Sp}{x:Str}
  (hn:l.most=some n) (hn2:n<=sizeLine) (hdf:d.params.defaults=[]) (hr:Room k callerA)
  (hY:∀ (w:World) (h:Heap),YP w h->(K w.params).In h)
  (F:∀ (w:World) (mg:Str->Option Value) (fa:Addr) (h:Heap),(K w.params).In h->h.Ns mainGlobals mg->mg d.name=some (.ref fa) ->
   ∃ fd:FuncData,(∀ (s:Shared) (u:Value),BindsTo s fd ⟨[u],[]⟩ [(x,u)]) /\
    ∀ base:Heap,(K w.params).In base->base.Ns mainGlobals mg->FnOk l.prog w (K w.params) mg base (CX w) k fa fd [x] (sp w))
  (hsp:∀ (w:World) (H:Hp) (a:Addr) (ns:List Int),ns.length<=n->kf H->SqL (K w.params) H a (ns.map V.int)->sp w [.ref a] H (λv _=>v=.bl true) λ_ _ _=>False)
  (hCX:∀ (w:World) (H:Hp) (s:Shared) (e:Value) (s':Shared),CX w [] H s (λ_ _ _=>False) e s'->False) :
  PySem.W.WalkO q loose XP YP l.row.toRowW d [] (λf vs=>PySem.call f vs):=by
 refine Att.attach_call hn hdf λw s₀ s₁ mg mb fa o pm cd doc a vs ns G Y ho hd hcd hmg hobj hints hlen hg=>?_
 have KX:=hY w _ Y
 obtain ⟨fd,hb,hF⟩:=F w mg fa _ KX G.T.g hmg
 exact xR KX G.T.g G.T.b G.T.builtins G.T.nolimit hg hobj hints (Nat.le_trans hlen hn2) hr hF hb (λH hO hS=>hsp w H a ns hlen hO hS) λH e s'=>hCX w H s₁ e s'
abbrev CX0:CXT:=λ_ _ _ _ _ _=>False
abbrev E0:XK:=λ_ _ _=>False
theorem gR {X:Cx}:eg CX0 X E0:=λ_ _ _ _ _ _ _ h=>h.elim
structure Fun (K:PySem.W.Frag) (x qual:Str) (st:Stmt) (f:Addr) (fd:FuncData):Prop where
 ex:∃ (oc:Value) (od:Option Addr) (kV doc pm:Value) (an:Option Addr) (cdv ct:Value) (osl:Array (Option Value)),
  fd=PySem.W.fnOf x qual (ao st) (am st) (ag st) .none kV doc pm an cdv ct/\K.lookup f=some ⟨oc,od,.func fd,osl⟩/\PySem.W.codeIn K cdv qual=true
 kp:PySem.W.keepIn K (.ref f)=true
section
variable {P:Program}{w:World}{K:PySem.W.Frag}{mg:Str->Option Value}{base:Heap}
theorem Fun.ok {x qual:Str}{st:Stmt}{f:Addr}{fd:FuncData}{N ps:List Str}{k:Nat}{sp:Sp}(F:Fun K x qual st f fd) (S:FnScope N ps (ag st)) (len:∀ vs H Q E,sp vs H Q E->vs.length=ps.length)
  (hbody:∀ (cdv:Value) (A:Around) (outer:List Env) (s:Shared) (H:Hp) (vs:List V) (Q:VK) (E:XK),Room k (A.deeper (envOfC qual (ag st) s.heap.objs.size f cdv))->sp vs H Q E ->
   ∃ t,PSs (cA CX0 P w K mg base N qual (ag st) f cdv A outer s H E).nox (am st) t/\t { nx:=λ_ H'=>Q .non H',rt:=Q } (bT N vs) H):FnOk P w K mg base CX0 (k+1) f fd ps sp:=by
 obtain ⟨oc,od,kV,doc,pm,an,cdv,ct,osl,rfl,lk,hcd⟩:=F.ex
 refine m8 lk hcd S len λA outer s H vs Q E hr hsp=>?_
 obtain ⟨t,h,q⟩:=hbody cdv A outer s H vs Q E hr hsp
 exact ⟨t,h.nox,q⟩
theorem Fun.binds {x qual:Str}{st:Stmt}{f:Addr}{fd:FuncData}{ps:List Str}(F:Fun K x qual st f fd)
  (h:∀ (kV doc pm:Value) (an:Option Addr) (cdv ct:Value) (us:List Value),us.length=ps.length->bindArgs (PySem.W.fnOf x qual (ao st) (am st) (ag st) .none kV doc pm an cdv ct) ⟨us,[]⟩=pure (ps.zip us)):aj K fd ps []:=by
 obtain ⟨oc,od,kV,doc,pm,an,cdv,ct,osl,rfl,lk,hcd⟩:=F.ex
 exact .all (h kV doc pm an cdv ct)
theorem a7 {x qual:Str}{st:Stmt}{f:Addr}{oc:Value}{od an:Option Addr}{osl:Array (Option Value)}{kV doc pm cdv ct:Value}(l:K.lookup f=some ⟨oc,od,.func (PySem.W.fnOf x qual (ao st) (am st) (ag st) .none kV doc pm an cdv ct),osl⟩)
  (c:PySem.W.codeIn K cdv qual=true) (k:PySem.W.keepIn K (.ref f)=true):Fun K x qual st f (PySem.W.fnOf x qual (ao st) (am st) (ag st) .none kV doc pm an cdv ct):=⟨⟨oc,od,kV,doc,pm,an,cdv,ct,osl,rfl,l,c⟩,k⟩
end
theorem fj {A:Around}{k:Nat}(hr:Room k A):A.units+1<cLine:=Nat.lt_of_le_of_lt (Nat.add_le_add_left (by decide:1<=64) _) hr.units
section
variable {X:Cx}
end
def Hw (H H':Hp):Prop:=∀ b o,H b=some o->H' b=some o
def Cd:Expr->Bool
 |.Starred ..=>true
 |_=>false
theorem ac {e:Expr}{es:List Expr}{env:Env}(h:Cd e=false):starEach (e::es) env=(false,eval e env)::starEach es env:=by
 cases e<;>first|rfl|cases h
section
variable {X:Cx}
theorem xS:OpR X (binaryOp .FloorDiv) (rI (λ_ j=>0<j/\j<18446744073709551616) λi j=>.int (i / j)):=opI λi j _ _ _ _ _ hc q=>by
 have h1:(0:Int)<j:=hc.1
 have h2:j<18446744073709551616:=hc.2
 refine floordiv_int (by omega) (by rw [Int.fdiv_eq_ediv_of_nonneg i (by omega)];exact q) (.inl (PyProof.noPylong_of_log2 ?_))
 have h0:j.natAbs≠0:=by omega
 have h3:j.natAbs<2 ^ 64:=by
  have e:(2:Nat) ^ 64=18446744073709551616:=by decide
  omega
 have h4:j.natAbs.log2<64:=(Nat.log2_lt h0).mpr h3
 omega
def zQ (K:PySem.W.Frag):List V->Hp->VK->Prop:=λxs H Q=>∃ x c t b,xs=[x,c]/\(∃ u,av c u/\(∀ z,av c z->z=u)/\PySem.W.kitOne K t u=some b)/\TyOf K H x t/\Q (.bl b) H
theorem vU:bz X (.builtin "isinstance") (zQ X.K):=by
 intro pins s σ H xs us Q I r h
 obtain ⟨x,c,t,b,rfl,⟨u,rc,hu,e⟩,ty,q⟩:=h
 obtain ⟨u1,u2,rfl,r1,r2⟩:=jT r
 obtain rfl:=hu _ r2
 exact wO I r1 ty e λtk=>⟨.bl b,H,I.tok tk,rfl,q⟩
end
def Kp (p:Addr) (H H':Hp):Prop:=∀ b o,H b=some o->b≠p->H' b=some o
def m9 (H:Hp) (p:Addr):Prop:=∃ a b c d:Int,H p=some (.lst [.int a,.int b,.int c,.int d])
structure Df (K:PySem.W.Frag) (mg:Str->Option Value) (x:Str) (f:Addr) (fd:FuncData) (ps:List Str):Prop where
 hm:mg x=some (.ref f)
 kp:PySem.W.keepIn K (.ref f)=true
 b:aj K fd ps []
def Oth (p:Addr) (H H':Hp):Prop:=∀ b,b≠p->H' b=H b
def cj:Sp:=λvs H Q _=>∃ (p:Addr) (m:Int),vs=[.ref p,.int m]/\0<m/\m<18446744073709551616/\m9 H p /\
 ∀ (r:Int) (H':Hp),0<=r->r<m->m9 H' p->Oth p H H'->Q (.int r) H'
def iE:Sp:=λvs H Q _=>∃ c:Int,vs=[.int c]/\∀ p H',H p=none->m9 H' p->Oth p H H'->Q (.ref p) H'
def jG (K:PySem.W.Frag):Sp:=λvs H Q _=>∃ (a:Addr) (k:Int) (ns:List Int),vs=[.ref a,.int k]/\SqL K H a (ns.map V.int)/\0<=k/\∀ z:Int,Q (.int z) H
def gG:Sp:=λvs H Q _=>∃ (t:Addr) (c e f:Int),vs=[.ref t,.int f]/\H t=some (.tup [.int c,.int e])/\e<=f/\Q (.int (c / 2 ^ (f - e).toNat)) H
def ig:Sp:=λvs H Q _=>∃ (t:Addr) (c e f n:Int),vs=[.ref t,.int f,.int n]/\H t=some (.tup [.int c,.int e])/\e<=f /\
 ∀ p,H p=none->Q (.ref p) (upd H p (.tup [.int (c / 2 ^ (f - e).toNat+n),.int f]))
section
variable {prog:Program}{w:World}{A:Around}{R:Result->Shared->Prop}{s:Shared}
theorem vV {elt target iter:Expr}{ifs:List Expr}{scope:Scope}{pos:Pos}{it acc:Value}{env:Env}(I:Nat->Shared->Prop)
  (turn:∀ n s,I n s->wpAny (model prog w) A (pyNext it) (λr s₁=>match r with
   |none=>R (.ok .next) s₁
   |some v=>wpAny (model prog w) A (letOwnedTupleGo target it v) (λ_ s₁'=>wpAny (model prog w) A (assign target env v) (λ_ s₂ =>
     wpAny (model prog w) A (forIn ifs true λc r=>if r=true then do let ok <- isTrue c env (eval c env);pure (ForInStep.yield ok) else pure (ForInStep.yield r)) (λok s₃ =>
      if ok=true then wpAny (model prog w) A (eval elt env) (λx s₄ =>
       wpAny (model prog w) A (call (.builtin "list.append") [acc,x]) (λ_ s₅=>∃ m,m<n/\I m s₅) (λ_ _=>False) s₄) (λ_ _=>False) s₃
      else ∃ m,m<n/\I m s₃) (λ_ _=>False) s₂) (λ_ _=>False) s₁') (λ_ _=>False) s₁) (λ_ _=>False) s)
  (n:Nat) (h:I n s) :
  codeAny (model prog w) A (.compLoop (.ListComp elt [⟨target,iter,ifs,0⟩] scope pos) 0 it acc env) R s:=by
 refine codeAny_loop rfl I (λn s hI=>?_) n h
 show wpAny _ A ((compTurn (.ListComp elt [⟨target,iter,ifs,0⟩] scope pos) 0 it acc env).onRaise (λx=>do noteFrame x env;theTreesLotGoes x)) _ _ s
 refine wpAny_noted ?_
 rw [compTurn_list]
 refine wpAny_bind (wpAny_standAt (wpAny_bind (wpAny_mono (turn n s hI) (λr s₁ h₁=>?_) λ_ _ h'=>h'.elim)))
 cases r with
 |none=>exact wpAny_pure h₁
 |some v =>
  refine wpAny_bind (wpAny_mono h₁ (λ_ s₁' h₁'=>?_) λ_ _ h'=>h'.elim)
  refine wpAny_bind (wpAny_mono h₁' (λ_ s₂ h₂=>wpAny_bind (wpAny_mono h₂ (λok s₃ h₃=>?_) λ_ _ h'=>h'.elim)) λ_ _ h'=>h'.elim)
  cases ok with
  |false=>exact wpAny_pure ⟨rfl,h₃⟩
  |true =>
   exact wpAny_bind (wpAny_bind (wpAny_mono h₃ (λx s₄ h₄=>wpAny_bind (wpAny_mono h₄ (λ_ s₅ h₅=>wpAny_pure (wpAny_pure ⟨rfl,h₅⟩)) λ_ _ h'=>h'.elim)) λ_ _ h'=>h'.elim))
end
def eJ (cells:List (Str×Addr)):List (Str×NameKind)->List (Str×Addr)->List (Str×Addr)
 |[],cs=>cs
 |(n,k)::r,cs=>eJ cells r (if k==.free then (match cells.lookup n with|some a=>(n,a)::cs|none=>cs) else cs)
def cB (scope:Scope) (env:Env):List (Str×Addr):=eJ env.cells scope.names []
theorem qP (env:Env):∀ (ns:List (Str×NameKind)) (cs:List (Str×Addr)),(∀ y∈ns,y.2=.free->∃ a,env.cells.lookup y.1=some a) ->
  (forIn ns cs λ(x:Str×NameKind) (r:List (Str×Addr))=>(if (x.2==NameKind.free)=true then (do let a <- cellOf env x.1;pure (ForInStep.yield ((x.1,a)::r))) else pure (ForInStep.yield r):Sem (ForInStep (List (Str×Addr)))))=(pure (eJ env.cells ns cs):Sem (List (Str×Addr)))
 |[],cs,_=>rfl
 |(n,k)::r,cs,h=>by
  rw [List.forIn_cons]
  have ih:=λcs'=>qP env r cs' λy hy=>h y (List.mem_cons_of_mem _ hy)
  by_cases hk:(k==NameKind.free)=true
  ·obtain ⟨a,ha⟩:=h (n,k) List.mem_cons_self (by simpa using hk)
   have ha':env.cells.lookup n=some a:=ha
   have e:cellOf env n=pure a:=by unfold cellOf;rw [ha']
   simp only [hk,if_true,e,pure_bind]
   rw [ih]
   show _=pure (eJ env.cells r (if k==.free then (match env.cells.lookup n with|some a=>(n,a)::cs|none=>cs) else cs))
   rw [hk,ha']
   rfl
  ·have hk':(k==NameKind.free)=false:=by simpa using hk
   simp only [hk',Bool.false_eq_true,if_false,pure_bind]
   rw [ih]
   show _=pure (eJ env.cells r (if k==.free then (match env.cells.lookup n with|some a=>(n,a)::cs|none=>cs) else cs))
   rw [hk']
   rfl
theorem zR {scope:Scope}{env:Env}(h:∀ y∈scope.names,y.2=.free->∃ a,env.cells.lookup y.1=some a):closureFor scope env=pure (cB scope env):=by
 have e:=qP env scope.names [] h
 unfold closureFor cB
 show (forIn scope.names ([]:List (Str×Addr)) _ >>= λcs=>pure cs)=_
 rw [bind_pure]
 exact e
theorem qo (cells:List (Str×Addr)){x:Str}{c:Addr}:∀ (ns:List (Str×NameKind)) (cs:List (Str×Addr)),(∀ c,cs.lookup x=some c->cells.lookup x=some c)->(eJ cells ns cs).lookup x=some c->cells.lookup x=some c
 |[],cs,h,e=>h c e
 |(n,k)::r,cs,h,e=>by
  refine qo cells r _ (λc' e'=>?_) e
  by_cases hk:(k==NameKind.free)=true
  ·rw [if_pos hk] at e'
   cases ha:cells.lookup n with
   |none=>rw [ha] at e';exact h c' e'
   |some a =>
    rw [ha] at e'
    by_cases hx:x==n
    ·have hx':x=n:=by simpa using hx
     subst hx'
     simp only [List.lookup_cons,beq_self_eq_true] at e'
     rw [<- e'];exact ha
    ·have hx':(x==n)=false:=by simpa using hx
     simp only [List.lookup_cons,hx'] at e'
     exact h c' e'
  ·rw [if_neg hk] at e'
   exact h c' e'
theorem g9 (cells:List (Str×Addr)){x:Str}{a:Addr}(ha:cells.lookup x=some a):∀ (ns:List (Str×NameKind)) (cs:List (Str×Addr)),(cs.lookup x=some a\/ns.lookup x=some .free)->(∀ c,cs.lookup x=some c->c=a)->(eJ cells ns cs).lookup x=some a
 |[],cs,h,_=>by
  rcases h with h|h
  ·exact h
  ·simp at h
 |(n,k)::r,cs,h,hu=>by
  have step:(if k==.free then (match cells.lookup n with|some a=>(n,a)::cs|none=>cs) else cs)=cs\/∃ b,k=.free/\cells.lookup n=some b/\(if k==.free then (match cells.lookup n with|some a=>(n,a)::cs|none=>cs) else cs)=(n,b)::cs:=by
   by_cases hk:(k==NameKind.free)=true
   ·rw [if_pos hk]
    cases hb:cells.lookup n with
    |none=>exact .inl rfl
    |some b=>exact .inr ⟨b,by simpa using hk,rfl,rfl⟩
   ·exact .inl (by rw [if_neg hk])
  show (eJ cells r _).lookup x=some a
  by_cases hx:x=n
  ·subst hx
   rcases step with e|⟨b,hk,hb,e⟩
   ·rw [e]
    refine g9 cells ha r cs ?_ hu
    rcases h with h|h
    ·exact .inl h
    ·simp only [List.lookup_cons,beq_self_eq_true] at h
     injection h with h
     subst h
     rw [if_pos (by decide),ha] at e
     have:(x,a)::cs=cs:=e
     exact absurd (congrArg List.length this) (by simp)
   ·rw [e]
    rw [ha] at hb
    injection hb with hb
    subst hb
    refine g9 cells ha r _ (.inl (by simp)) λc hc=>?_
    simp at hc
    exact hc.symm
  ·have hxb:(x==n)=false:=by simpa using hx
   rcases step with e|⟨b,hk,hb,e⟩
   ·rw [e]
    refine g9 cells ha r cs ?_ hu
    rcases h with h|h
    ·exact .inl h
    ·simp only [List.lookup_cons,hxb] at h
     exact .inr h
   ·rw [e]
    refine g9 cells ha r _ ?_ λc hc=>?_
    ·rcases h with h|h
     ·exact .inl (by simp only [List.lookup_cons,hxb];exact h)
     ·simp only [List.lookup_cons,hxb] at h
      exact .inr h
    ·simp only [List.lookup_cons,hxb] at hc
     exact hu c hc
def gL (sc scope:Scope):Bool:=(scope.kind==.function)&&scope.names.all λy=>(y.2 != .cell)&&((y.2 != .local) || (scope.names.lookup y.1==some .local)) &&
 ((y.2 != .free) || ((scope.names.lookup y.1==some .free)&&((sc.names.lookup y.1==some .cell) || (sc.names.lookup y.1==some .free))))
def fk (N Nc:List Str) (scope:Scope) (n:Nat) (caps:List Nat):Bool:=(n+caps.length==Nc.length)&&(List.range caps.length).all λj=>(Nc[n+j]?==(caps[j]?).bind λi=>N[i]?)&&((Nc[n+j]?).bind (λy=>scope.names.lookup y)==some NameKind.free)
def gM (n:Nat) (caps:List Nat) (σ:St):St:=List.replicate n none++caps.map λi=>(σ[i]?).join
def Cx.comp (X:Cx) (scope:Scope) (Nc:List Str) (C:Addr) (s₀:Shared) (H₀:Hp) (ex:List Addr):Cx :=
 { X with N:=Nc,s₀:=s₀,H₀:=H₀,env:=compEnvC scope (cB scope X.env) C X.env,outer:=X.stack,ex:=ex,fn:=λ_=>false,pn:=[],xe:=λ_ _=>False }
theorem oJ {env:Env}:∀ {names:List (Str×NameKind)}{x:Str},names.lookup x=some .free ->
  (names.map λ(n,k)=>if (k==NameKind.free&&env.scope.kind==.function&&env.kindOf n==some .cell) then (n,NameKind.cell) else (n,k)).lookup x=some .cell \/
  (names.map λ(n,k)=>if (k==NameKind.free&&env.scope.kind==.function&&env.kindOf n==some .cell) then (n,NameKind.cell) else (n,k)).lookup x=some .free
 |[],_,h=>by simp at h
 |(n,k)::r,x,h=>by
  have ih:=@oJ env r x
  show List.lookup x ((if (k==NameKind.free&&env.scope.kind==.function&&env.kindOf n==some .cell)=true then (n,NameKind.cell) else (n,k))::_)=_\/List.lookup x ((if (k==NameKind.free&&env.scope.kind==.function&&env.kindOf n==some .cell)=true then (n,NameKind.cell) else (n,k))::_)=_
  cases hx:x==n with
  |true =>
   simp only [List.lookup_cons,hx] at h
   cases h
   by_cases hc:(NameKind.free==NameKind.free&&env.scope.kind==.function&&env.kindOf n==some .cell)=true
   ·rw [if_pos hc];simp [List.lookup_cons,hx]
   ·rw [if_neg hc];simp [List.lookup_cons,hx]
  |false =>
   simp only [List.lookup_cons,hx] at h
   by_cases hc:(k==NameKind.free&&env.scope.kind==.function&&env.kindOf n==some .cell)=true
   ·rw [if_pos hc];simp only [List.lookup_cons,hx];exact ih h
   ·rw [if_neg hc];simp only [List.lookup_cons,hx];exact ih h
theorem oK {env:Env}:∀ {names:List (Str×NameKind)}{x:Str},(∀ y∈names,y.2≠.cell) ->
  ((names.map λ(n,k)=>if (k==NameKind.free&&env.scope.kind==.function&&env.kindOf n==some .cell) then (n,NameKind.cell) else (n,k)).lookup x=some .cell \/
  (names.map λ(n,k)=>if (k==NameKind.free&&env.scope.kind==.function&&env.kindOf n==some .cell) then (n,NameKind.cell) else (n,k)).lookup x=some .free)->names.lookup x=some .free
 |[],_,_,h=>by simp at h
 |(n,k)::r,x,hc,h=>by
  have ih:=@oK env r x λy hy=>hc y (List.mem_cons_of_mem _ hy)
  have hk:k≠.cell:=hc (n,k) List.mem_cons_self
  have h':List.lookup x ((if (k==NameKind.free&&env.scope.kind==.function&&env.kindOf n==some .cell)=true then (n,NameKind.cell) else (n,k))::_)=some NameKind.cell\/List.lookup x ((if (k==NameKind.free&&env.scope.kind==.function&&env.kindOf n==some .cell)=true then (n,NameKind.cell) else (n,k))::_)=some NameKind.free:=h
  cases hx:x==n with
  |true =>
   simp only [List.lookup_cons,hx]
   by_cases hq:(k==NameKind.free&&env.scope.kind==.function&&env.kindOf n==some .cell)=true
   ·have:k=.free:=by
     simp only [Bool.and_eq_true] at hq
     simpa using hq.1.1
    rw [this]
   ·rw [if_neg hq] at h'
    simp only [List.lookup_cons,hx] at h'
    rcases h' with h'|h'
    ·injection h' with h';exact absurd h' hk
    ·exact h'
  |false =>
   simp only [List.lookup_cons,hx]
   by_cases hq:(k==NameKind.free&&env.scope.kind==.function&&env.kindOf n==some .cell)=true
   ·rw [if_pos hq] at h'
    simp only [List.lookup_cons,hx] at h'
    exact ih h'
   ·rw [if_neg hq] at h'
    simp only [List.lookup_cons,hx] at h'
    exact ih h'
structure CompSc (X:Cx) (scope:Scope):Prop where
 kind:scope.kind=.function
 nocell:∀ y∈scope.names,y.2≠.cell
 loc:∀ y∈scope.names,y.2=.local->scope.names.lookup y.1=some .local
 fr:∀ x,scope.names.lookup x=some .free->X.env.kindOf x=some .cell\/X.env.kindOf x=some .free
 fr2:∀ y∈scope.names,y.2=.free->X.env.kindOf y.1=some .cell\/X.env.kindOf y.1=some .free
theorem mem_of_lookup {α β:Type}[BEq α] [LawfulBEq α]:∀ {l:List (α×β)}{x:α}{b:β},l.lookup x=some b->(x,b)∈l
 |[],_,_,h=>by simp at h
 |(n,k)::r,x,b,h=>by
  cases hx:x==n with
  |true =>
   simp only [List.lookup_cons,hx] at h
   injection h with h
   have:x=n:=by simpa using hx
   subst this;subst h
   exact List.mem_cons_self
  |false =>
   simp only [List.lookup_cons,hx] at h
   exact List.mem_cons_of_mem _ (mem_of_lookup h)
theorem pX {X:Cx}{scope:Scope}(h:gL X.env.scope scope=true):CompSc X scope:=by
 unfold gL at h
 rw [Bool.and_eq_true] at h
 obtain ⟨h1,h2⟩:=h
 rw [List.all_eq_true] at h2
 have h3:∀ y∈scope.names,y.2=.free->X.env.kindOf y.1=some .cell\/X.env.kindOf y.1=some .free:=λy hy e=>by
  have q:=h2 y hy
  simp only [Bool.and_eq_true,e,bne_self_eq_false,Bool.false_or,Bool.or_eq_true,beq_iff_eq] at q
  exact q.2.2
 refine ⟨by simpa using h1,λy hy e=>?_,λy hy e=>?_,λx e=>h3 _ (mem_of_lookup e) rfl,h3⟩
 ·have q:=h2 y hy
  simp [e] at q
 ·have q:=h2 y hy
  simp only [Bool.and_eq_true,e,bne_self_eq_false,Bool.false_or,beq_iff_eq] at q
  exact q.1.2
section
variable {X:Cx}{pins:List (Addr×Obj)}{σ:St}{H:Hp}{s:Shared}{scope:Scope}{Nc:List Str}{fp:List Addr}{C:Addr}
theorem gN {env:Env}{x:Str}{c:Addr}(h:(cB scope env).lookup x=some c):env.cells.lookup x=some c :=
 qo env.cells scope.names [] (λc e=>by simp at e) h
theorem qQ {env:Env}{x:Str}{c:Addr}(h:env.cells.lookup x=some c) (hf:scope.names.lookup x=some .free):(cB scope env).lookup x=some c :=
 g9 env.cells h scope.names [] (.inr hf) (λc e=>by simp at e)
theorem CompSc.clos (S:CompSc X scope) (ok:X.Ok):closureFor scope X.env=pure (cB scope X.env) :=
 zR λy hy e=>ok.has y.1 (S.fr2 y hy e)
theorem zS (I:Inv X pins σ H s) (S:CompSc X scope) (hf:∀ b∈fp,cq X pins H b) (hC:s.heap.objs.size<=C) (hCf:C∉fp):(X.comp scope Nc C s H fp).Ok where
 mod:=I.ok.mod
 kind:=S.kind
 glob:=I.ok.glob
 blt:=I.ok.blt
 above:=hC
 inj:=λx y c h1 h2=>I.ok.inj x y c (gN h1) (gN h2)
 has:=λx h=>by
  have e:scope.names.lookup x=some .free:=oK S.nocell h
  obtain ⟨c,hc⟩:=I.ok.has x (S.fr x e)
  exact ⟨c,qQ hc e⟩
 cab:=λx c h=>by cases h
 hd:=I.ok.hd
 frames:=I.ok.frames
 stk:=.inl rfl
 exf:=λb hb=>⟨λe=>hCf ((show b=C from e) ▸ (show b∈fp from hb)),λx c h=>(hf b hb).2.2.2.2.1 x c (gN h)⟩
 bs:=I.bs
 bsz:=Nat.le_trans I.ok.bsz I.sz
 noex:=λb o e hb=>by
  rcases (hf b hb).2.2.2.1 with z|z
  ·exact I.ok.noex b o e z
  ·exact absurd (Nat.lt_of_lt_of_le (Heap.lt_size e) (Nat.le_trans I.ok.bsz z)) (Nat.lt_irrefl _)
 exfs:=λb hb hs=>by
  rcases List.mem_cons.mp (I.stkSub b hs) with z|z
  ·exact (hf b hb).2.1 z
  ·exact (hf b hb).2.2.1 z
 funs:=I.stack
 frf:=I.stkFree
theorem v7 {n:Nat}{caps:List Nat}{h₁:Heap}{tk:Nat}(I:Inv X pins σ H s) (S:CompSc X scope) (hcp:fk X.N Nc scope n caps=true) (hf:∀ b∈fp,cq X pins H b) (hlt:∀ b∈fp,b<s.heap.objs.size)
  (hns:h₁.Ns (s.heap.objs.size+1) λ_=>none) (old:∀ b o,s.heap.get? b=some o->h₁.get? b=some o) (hD:h₁.get? s.heap.objs.size=some { cls:=.type "list",data:=.seq #[] 0 }) :
  Inv (X.comp scope Nc (s.heap.objs.size+1) s H fp) [] (gM n caps σ) (upd H s.heap.objs.size (.lst [])) { s with heap:=h₁,toks:=tk }:=by
 have hCf:s.heap.objs.size+1∉fp:=λz=>Nat.not_succ_lt_self (hlt _ z)
 unfold fk at hcp
 rw [Bool.and_eq_true,List.all_eq_true] at hcp
 obtain ⟨hl,hc⟩:=hcp
 have hl':n+caps.length=Nc.length:=by simpa using hl
 refine ⟨zS I S hf (Nat.le_succ _) hCf,rfl,I.bare,Un.laid old (Nat.le_refl _) I.fresh,⟨_,hns,?_⟩,?_,?_,?_,?_,I.hok.laid old (Nat.le_refl _) ⟨Nat.zero_le _,[],0,.nil,hD⟩,?_⟩
 ·intro i x v hN hv _
  have hi:n<=i:=by
   rcases Nat.lt_or_ge i n with z|z
   ·exfalso
    have hv':(List.replicate n (none:Option V)++caps.map λi=>(σ[i]?).join)[i]?=some (some v):=hv
    rw [List.getElem?_append_left (by simpa using z)] at hv'
    simp [z] at hv'
   ·exact z
  obtain ⟨j,rfl⟩:∃ j,i=n+j:=⟨i - n,by omega⟩
  have hv':(List.replicate n (none:Option V)++caps.map λi=>(σ[i]?).join)[n+j]?=some (some v):=hv
  rw [List.getElem?_append_right (by simp)] at hv'
  have e1:n+j - (List.replicate n (none:Option V)).length=j:=by simp
  rw [e1,List.getElem?_map] at hv'
  cases ec:caps[j]? with
  |none=>rw [ec] at hv';cases hv'
  |some i0 =>
   rw [ec] at hv'
   have hv2:(σ[i0]?).join=some v:=by simpa using hv'
   have hv3:σ[i0]?=some (some v):=by
    cases es:σ[i0]? with
    |none=>rw [es] at hv2;cases hv2
    |some o=>rw [es] at hv2;simp at hv2;rw [hv2]
   have hj:j<caps.length:=(List.getElem?_eq_some_iff.mp ec).1
   have q:=hc j (List.mem_range.mpr hj)
   have hN':Nc[n+j]?=some x:=hN
   rw [Bool.and_eq_true,hN',ec] at q
   obtain ⟨q1,q2⟩:=q
   have q1':X.N[i0]?=some x:=by simpa using (beq_iff_eq.mp q1).symm
   have q2':scope.names.lookup x=some .free:=by simpa using q2
   obtain ⟨m,_,hm⟩:=I.loc
   have hk:=S.fr x q2'
   obtain ⟨u,ru,lk⟩:=hm i0 x v q1' hv3 (.inr hk)
   refine ⟨u,ru,?_⟩
   rcases lk with ⟨kl,_⟩|⟨_,c,hcl,ic⟩
   ·rcases hk with z|z
    ·rw [kl] at z;cases z
    ·rw [kl] at z;cases z
   ·exact .inr ⟨oJ q2',c,qQ hcl q2',ic.keeps old⟩
 ·intro x c h
  obtain ⟨v,ic⟩:=I.cell x c (gN h)
  exact ⟨v,ic.keeps old⟩
 ·show upd H s.heap.objs.size (.lst []) (s.heap.objs.size+1)=none
  rw [aE (Nat.succ_ne_self _)]
  exact I.hok.fresh (Nat.le_succ _)
 ·intro x c h
  obtain ⟨v,ic⟩:=I.cell x c (gN h)
  rw [aE (Nat.ne_of_lt ic.lt)]
  exact I.freeC x c (gN h)
 ·intro p hp
  exact absurd (show p∈([]:List (Addr×Obj)) from hp) (by simp)
 ·show (List.replicate n (none:Option V)++caps.map λi=>(σ[i]?).join).length=Nc.length
  rw [List.length_append,List.length_replicate,List.length_map]
  exact hl'
theorem wT {pins':List (Addr×Obj)}{σ':St}{H':Hp}{s':Shared}(I:Inv X pins σ H s) (hf:∀ b∈fp,cq X pins H b) (J:Inv (X.comp scope Nc C s H fp) pins' σ' H' s'):Inv X pins σ H' s' :=
 I.call' J.os J.base J.hok J.bare λb hb=>⟨(hf b hb).2.2.2.1,(hf b hb).2.1,(hf b hb).2.2.2.2.1,(hf b hb).2.2.2.2.2⟩
theorem Inv.but {h':Heap}(I:Inv X pins σ H s) (hs:Heap.SameBut C s.heap h') (hn:H C=none) (h0:X.s₀.heap.objs.size<=C) (hl:C≠X.env.locals) (hc:∀ x c,X.env.cells.lookup x=some c->c≠C)
  (hp:∀ p∈X.pn++pins,p.1≠C):Inv X pins σ H { s with heap:=h' }:=by
 refine I.call' (s':={ s with heap:=h' }) (ch:=[C]) rfl ⟨λb o e _ _ hb=>hs.extBut b o (by simpa using hb) e,λb o e _ _ hb=>⟨o.slots,hs.extBut b o (by simpa using hb) e⟩,λb o _ n _=>n,λb o e hb=>⟨o,hs.extBut b o (by simpa using hb) e⟩,
  λ_ _ z=>z,λ_ _ _ z=>z,λb ps z=>⟨#[],by simpa using z⟩⟩ (λa o e=>?_) I.bare ?_
 ·refine (I.hok a o e).stay (λb u hb q=>hs.extBut b u ?_ q) (λ_ z=>z) λ_ _ z=>z
  rcases hb with rfl|hb
  ·exact λz=>by rw [z,hn] at e;cases e
  ·exact λz=>by rw [z,hn] at hb;cases hb
 ·intro b hb
  obtain rfl:b=C:=by simpa using hb
  exact ⟨.inr h0,hl,hc,hp⟩
def PTs (X:Cx) (ifs:List Expr) (t:TT):Prop :=
 ∀ (pins:List (Addr×Obj)) (s:Shared) (σ:St) (H:Hp) (Q:Bool->Hp->Prop),Inv X pins σ H s->t σ H Q ->
  wpAny (model X.prog X.w) X.A (forIn ifs true λc r=>if r=true then do let ok <- isTrue c X.env (eval c X.env);pure (ForInStep.yield ok) else pure (ForInStep.yield r)) (TP X pins σ Q) X.xe s
def EG:TT:=λ_ H Q=>Q true H
theorem zT:PTs X [] EG:=λ_ _ _ H _ I h=>wpAny_tests_nil ⟨H,I,h⟩
theorem zU {c:Expr}{t:TT}(h:PT X c t):PTs X [c] t:=λpins s σ H Q I hw=>wpAny_tests_one (h pins s σ H Q I hw)
variable {elt iter target:Expr}{ifs:List Expr}{pos:Pos}{n:Nat}{caps:List Nat}{wi:TI}{g:TG}{tt:TT}{te:TE}
end
section
variable {X:Cx}{K:PySem.W.Frag}
theorem lD {es:List Expr}{k:Nat}{pos:Pos}{t:TGs}{n:Nat}(hK:X.K=K) (hc:X.calm=true) (h:PGs X es t)
  (hn:(assignEach es X.env).length=n:=by rfl) (hst:(assignEach es X.env).findIdx? (·.1)=none:=by rfl):PG X (.Tuple es k pos) (nG K n t):=by subst hK;exact BR hc h hn hst
end
section
variable {K:PySem.W.Frag}{a D:Addr}{xs:List V}{n:Nat}{caps:List Nat}{g:TG}{tt:TT}{te:TE}{σ:St}{H1:Hp}{Q:Hp->Prop}
end
mutual
inductive DatV (K:PySem.W.Frag) (H:Hp):V->PyData->Prop
 |non:DatV K H .non .none
 |bl (b:Bool):DatV K H (.bl b) (.bool b)
 |int (i:Int):DatV K H (.int i) (.int i)
 |str (x:Str):DatV K H (.str x) (.str x)
 |lst {a:Addr}{xs:List V}{ds:List PyData}:SqL K H a xs->DatVs K H xs ds->DatV K H (.ref a) (.list ds)
 |tup {a:Addr}{xs:List V}{ds:List PyData}:SqT K H a xs->DatVs K H xs ds->DatV K H (.ref a) (.tuple ds)
inductive DatVs (K:PySem.W.Frag) (H:Hp):List V->List PyData->Prop
 |nil:DatVs K H [] []
 |cons {x:V}{xs:List V}{d:PyData}{ds:List PyData}:DatV K H x d->DatVs K H xs ds->DatVs K H (x::xs) (d::ds)
end
section
variable {X:Cx}{pins:List (Addr×Obj)}{σ:St}{H:Hp}{s:Shared}
mutual
theorem gA (I:Inv X pins σ H s):∀ {v:V}{d:PyData}{u:Value},DatV X.K H v d->av v u->∃ as,Reads s.heap u d as
 |_,_,_,.non,r=>by cases (show _=Value.none from r);exact ⟨_,.none⟩
 |_,_,_,.bl b,r=>by cases (show _=Value.bool b from r);exact ⟨_,.bool b⟩
 |_,_,_,.int i,r=>by obtain ⟨t,rfl⟩:=r;exact ⟨_,.int i t⟩
 |_,_,_,.str x,r=>by obtain ⟨t,rfl⟩:=r;exact ⟨_,.str x t⟩
 |_,_,_,.lst (a:=a) hq hs,r=>by
  cases (show _=Value.ref a from r)
  obtain ⟨its,rv,pl,_⟩:=I.list hq
  obtain ⟨o,n,e,c,_,dd⟩:=pl
  obtain ⟨as,ra⟩:=kH I hs rv
  exact ⟨_,.list e c dd (by simpa using ra)⟩
 |_,_,_,.tup (a:=a) hq hs,r=>by
  cases (show _=Value.ref a from r)
  obtain ⟨its,rv,pl,_⟩:=I.tuple hq
  obtain ⟨o,e,c,n,dd⟩:=pl
  obtain ⟨as,ra⟩:=kH I hs rv
  exact ⟨_,.tuple e c dd (by simpa using ra)⟩
theorem kH (I:Inv X pins σ H s):∀ {xs:List V}{ds:List PyData}{us:List Value},DatVs X.K H xs ds->ap xs us->∃ as,ReadsAll s.heap us ds as
 |_,_,_,.nil,.nil=>⟨_,.nil⟩
 |_,_,_,.cons h hs,.cons r rs=>by
  obtain ⟨as,ra⟩:=gA I h r
  obtain ⟨bs,rb⟩:=kH I hs rs
  exact ⟨_,.cons ra rb⟩
end
def uT (K:PySem.W.Frag) (neg:Bool):R2:=λx y H Q=>∃ dx dy,DatV K H x dx/\DatV K H y dy/\dx.canLay0=true/\dy.canLay0=true/\min dx.depth dy.depth<=64/\Q (.bl (neg ^^ PyData.eqv dx dy)) H
theorem Ce (hu:X.A.units+64<cLine):OpR X (compareOp .Eq) (uT X.K false):=by
 intro pins s σ H x y v u Q I rx ry h
 obtain ⟨dx,dy,h1,h2,c1,c2,hd,q⟩:=h
 obtain ⟨as,ra⟩:=gA I h1 rx
 obtain ⟨bs,rb⟩:=gA I h2 ry
 exact PySem.SeqAt.compareEq_reads ra rb c1 c2 (by omega) ⟨.bl (PyData.eqv dx dy),H,I,rfl,by simpa using q⟩
theorem Cf (hu:X.A.units+64<cLine):OpR X (compareOp .NotEq) (uT X.K true):=by
 intro pins s σ H x y v u Q I rx ry h
 obtain ⟨dx,dy,h1,h2,c1,c2,hd,q⟩:=h
 obtain ⟨as,ra⟩:=gA I h1 rx
 obtain ⟨bs,rb⟩:=gA I h2 ry
 exact PySem.SeqAt.compareNe_reads ra rb c1 c2 (by omega) ⟨.bl (!PyData.eqv dx dy),H,I,rfl,by simpa using q⟩
end
section
variable {prog:Program}{w:World}{A:Around}{R:Result->Shared->Prop}{I:Addr}{fp wr:List Addr}{n:Nat}{P:Nat->Value->Prop}{St:Nat->Heap->Prop}
theorem kG {E:Value->Shared->Prop}{s:Shared}{id:String}{b:Builtin}{args:List Value}{kw:List (Str×Value)}{Q:Value->Shared->Prop}(hk:builtinKind id=none) (hp:plainId id=true)
  (hb:entryFor table id=some b) (ha:argsOk id ⟨args,kw⟩)
  (hc:wpAny (model prog w) A.in1 (b ⟨args,kw⟩) (λfin s'=>match fin with
   |.done f=>(match (Except.ok f:Result) with|.ok (.ret v)=>Q v s'|.ok _=>False|.error e=>E e s')
   |.again c'=>c'.quiet=true/\codeAny (model prog w) A c' (λr s'=>match r with|.ok (.ret v)=>Q v s'|.ok _=>False|.error e=>E e s') s') E s) :
  wpAny (model prog w) A (call (.builtin id) args kw) Q E s:=by
 refine wpAny_call (codeAny_call_builtin hp hb ?_)
 simp only [checkBuiltinCall,hk]
 cases hsig:Manifest.signature? id with
 |none=>exact wpAny_pure hc
 |some sig =>
  simp only [argsOk,hsig] at ha
  have h2:Bind.checkArgs id sig ⟨args,kw⟩=pure ():=ha
  show wpAny _ A.in1 (Bind.checkArgs id sig ⟨args,kw⟩) _ _ s
  rw [h2];exact wpAny_pure hc
end
theorem qR {α:Type}{l:List α}{i:Nat}{d:α}(h:i<l.length):l.getD i d=l[i]:=by simp [h]
theorem zV {s:Shared}{b:Addr}{o:Obj}(e:s.heap.get? b=some o):b∉[s.heap.objs.size]:=λz=>by
 have h:=Heap.lt_size e
 rw [List.mem_singleton.mp z] at h
 exact Nat.lt_irrefl _ h
section
variable {X:Cx}
def sk (X:Cx) (f:Value) (ks:List Str) (r:List V->List V->Hp->VK->Prop):Prop :=
 ∀ (pins:List (Addr×Obj)) (s:Shared) (σ:St) (H:Hp) (xs zs:List V) (us ws:List Value) (Q:VK),Inv X pins σ H s->ap xs us->ap zs ws->r xs zs H Q ->
  wpAny (model X.prog X.w) X.A (call f us (ks.zip ws)) (EP X pins σ Q) X.xe s
def uU (r:List V->List V->Hp->VK->Prop) (t tk:TA):TE:=λσ H Q=>t σ H λvs H1=>tk σ H1 λzs H2=>r vs zs H2 Q
theorem wU {x:Str}{p pos:Pos}{e:Expr}{es:List Expr}{kws:List Keyword}{t tk:TA}{id:String}{ks:List Str}{r:List V->List V->Hp->VK->Prop}(hc:sk X (.builtin id) ks r) (hg:Gl X x) (hm:X.mg x=none)
  (hv:bootBuiltins x=some (.builtin id)) (ha:PA X (e::es) t) (hkw:PK X kws tk) (hks:(backToKw pos (keywordEach kws X.env)).filterMap (·.1)=ks:=by rfl) (hn:x ≠ "__name__":=by decide) (hdb:(x==("__debug__":Str))=false:=by decide)
  (he:backTo pos (starEach (e::es) X.env)=(false,eval e X.env)::backTo pos (starEach es X.env):=by rfl)
  (hplain:(backTo pos (starEach (e::es) X.env)).any (·.1)=false:=by rfl)
  (hall:(backToKw pos (keywordEach kws X.env)).all (·.1.isSome)=true:=by rfl)
  (hkw2:(backToKw pos (keywordEach kws X.env)).any (·.1.isNone)=false:=by rfl):PE X (.Call (.Name x p) (e::es) kws pos) (uU r t tk):=by
 intro pins s σ H Q I h
 refine wpAny_Call_Name_kw (gK I hg hm hv ?_ hn hdb)
 refine PyProof.Rows.callWith_kw (thn (ha pos pins s σ H _ I h) λus s1 ⟨vs,H1,I1,r1,q1⟩=>thn (hkw pos pins s1 σ H1 _ I1 q1) λws s2 ⟨zs,H2,I2,r2,q2⟩=>?_) he hplain hall hkw2
 rw [hks]
 exact hc pins s2 σ H2 vs zs us ws Q I2 r1 r2 q2
end
def Its (x:Str):It:=⟨λi _=>i<x.cps.toList.length,λi H v H'=>H'=H/\∃ c,x.cps.toList[i]?=some c/\v=.str ⟨#[c]⟩,λi _=>x.cps.toList.length<=i⟩
theorem qp {P:Program}{w:World}{K:PySem.W.Frag}{tg:Expr}(it:Addr) (x:Str) (t:Tok) (ty:String) (hty:ty="str_ascii_iterator" \/ ty="str_iterator"):Turn P w K tg (Its x) [it] it (λi h=>h.IsStrIter it ty x t i) where
 mem:=by simp
 obj:=λi h st b hb=>by
  have e:b=it:=by simpa using hb
  subst e
  obtain ⟨o,e,c,d⟩:=st
  exact ⟨o,e,λv z=>by rw [d] at z;cases z⟩
 keep:=λi h h' st k=>let ⟨o,ho,r⟩:=st;⟨o,k it (by simp) o ho,r⟩
 item:=by
  intro X hP hw hK hc i pins s σ H E I hf st hg
  subst hP hw hK
  obtain ⟨f0,f1,f2,f3,f4,f5⟩:=hf it (by simp)
  have hi:i<x.cps.size:=by simpa [Its] using hg
  have hx:x.cps[i]?=some x.cps[i]:=by simp [hi]
  have fin:∀ h',h'.IsStrIter it ty x t (i+1)->Heap.SameBut it s.heap h'->(∃ u,some (Value.str ⟨#[x.cps[i]]⟩ s.toks)=some u /\
    wpAny (model X.prog X.w) X.A (letOwnedTupleGo tg (.ref it) u) (λ_ s2=>∃ y H',Inv X pins σ H' s2/\av y u/\(Its x).yld i H y H'/\s2.heap.IsStrIter it ty x t (i+1)/\∀ b∈[it],H' b=none) E { s with heap:=h',toks:=s.toks+1 }):=λh' st' sb=>by
   have I1:Inv X pins σ H { s with heap:=h',toks:=s.toks+1 }:=I.turned (λb o hb e=>(sb.2 b hb).trans e) f0 f1 f3 f4 f5
   obtain ⟨o,e,c,d⟩:=id st'
   refine ⟨_,rfl,mY (s:={ s with heap:=h',toks:=s.toks+1 }) (n:=ty) e c d (by rcases hty with rfl|rfl<;>decide) ⟨.str ⟨#[x.cps[i]]⟩,H,I1,⟨_,rfl⟩,⟨rfl,x.cps[i],by simp [hi],rfl⟩,st',λb hb=>(hf b hb).1⟩⟩
  rcases hty with rfl|rfl
  ·exact wpAny_pyNext_ascii_item st hx λh' st' sb=>fin h' st' sb
  ·exact wpAny_pyNext_wide_item st hx λh' st' sb=>fin h' st' sb
 done:=by
  intro X hP hw hK hc i pins s σ H E I hf st hg
  subst hP hw hK
  obtain ⟨f0,f1,f2,f3,f4,f5⟩:=hf it (by simp)
  have hi:x.cps.size<=i:=by simpa [Its] using hg
  have hx:x.cps[i]?=none:=by simp [hi]
  rcases hty with rfl|rfl
  ·exact wpAny_pyNext_ascii_end (I.ok.hd hc) st hx λh' eb=>⟨rfl,I.turned (t':=s.toks) (λb o hb e=>eb b o hb e) f0 f1 f3 f4 f5⟩
  ·exact wpAny_pyNext_wide_end (I.ok.hd hc) st hx λh' eb=>⟨rfl,I.turned (t':=s.toks) (λb o hb e=>eb b o hb e) f0 f1 f3 f4 f5⟩
 self:=λ_ _ _ _ _ st h=>by
  rcases hty with rfl|rfl
  ·exact wpAny_pyIter_striter_ascii st h
  ·exact wpAny_pyIter_striter_wide st h
section
variable {X:Cx}{tg:Expr}
def GL (tl:TE):TI:=λσ H R=>tl σ H λx H1=>∃ z,x=.str z/\R (Its z) H1
theorem Cg {l:Expr}{tl:TE}(hl:PE X l tl):PI X tg l (GL tl):=by
 intro pins s σ H R I h
 refine thn (hl pins s σ H _ I h) λv s1 zz44=>?_
 obtain ⟨x,H1,I1,r1,q1⟩:=zz44
 obtain ⟨z,e,q⟩:=q1
 subst e
 obtain ⟨t,rfl⟩:=r1
 have fp:∀ b∈[s1.heap.objs.size],cq X pins H1 b:=λb hb=>by
  have e:b=s1.heap.objs.size:=by simpa using hb
  subst e
  exact I1.fpOk (Nat.le_refl _) (I1.hok.fresh (Nat.le_refl _))
 cases ha:z.cps.all (·<128)
 ·exact wpAny_pyIter_wide ha ⟨s1.heap.objs.size,[s1.heap.objs.size],_,_,H1,rfl,I1.kept (t':=s1.toks) λb o e=>Heap.get?_push_of_some _ e,qp _ z t "str_iterator" (.inr rfl),⟨_,Heap.get?_push_size _ rfl,rfl,rfl⟩,fp,q⟩
 ·exact wpAny_pyIter_ascii ha ⟨s1.heap.objs.size,[s1.heap.objs.size],_,_,H1,rfl,I1.kept (t':=s1.toks) λb o e=>Heap.get?_push_of_some _ e,qp _ z t "str_ascii_iterator" (.inl rfl),⟨_,Heap.get?_push_size _ rfl,rfl,rfl⟩,fp,q⟩
end
section
variable {X:Cx}
theorem wW:OpR X (compareOp .LtE) (λx y H Q=>∃ i j,x=.str i/\y=.str j/\Q (.bl (!decide (j.cps.toList<i.cps.toList))) H):=by
 intro pins s σ H x y v u Q I rx ry h
 obtain ⟨i,j,rfl,rfl,q⟩:=h
 obtain ⟨t,rfl⟩:=rx
 obtain ⟨t',rfl⟩:=ry
 exact PySem.P.le_str (aS I q rfl)
def GN:V->Option Int->Option Int->Hp->VK->Prop:=λx lo hi H Q=>∃ z,x=.str z/\z.length<=sizeLine/\Q (.str (Txt.slice z lo hi)) H
theorem ju {v:Value}{o:Option Int}(p:IsPart v o):∃ q:Option (Int×Tok),v=partValue q/\q.map (·.1)=o:=by
 cases p with
 |none=>exact ⟨none,rfl,rfl⟩
 |int i t=>exact ⟨some (i,t),rfl,rfl⟩
theorem Ch:SlR X GN:=by
 intro pins s σ H x v vl vu lo hi sl Q I rx hs pl pu h
 obtain ⟨z,rfl,hz,q⟩:=h
 obtain ⟨t,rfl⟩:=rx
 obtain ⟨ql,rfl,rfl⟩:=ju pl
 obtain ⟨qu,rfl,rfl⟩:=ju pu
 obtain ⟨o,ho,hc,hd⟩:=hs
 refine ⟨"str",_,F.slot_str_getitem.lookup,typeIs_str _ _ _,wpAny_getItem_str_slice (l:=ql) (u:=qu) (st:=none) ⟨o,ho,hc,hd⟩ rfl (post_val_or_str ⟨Nat.le_trans (Txt.slice_le z _ _) hz,λt' k=>?_⟩)⟩
 exact ⟨.str (Txt.slice z (ql.map (·.1)) (qu.map (·.1))),H,I.tok k,⟨t',rfl⟩,q⟩
theorem wX (hc:X.calm=true):bz X (.builtin "all") (λxs H Q=>∃ (p:Addr) (bs:List Bool),xs=[.ref p]/\SqL X.K H p (bs.map V.bl)/\Q (.bl (bs.all id)) H):=by
 intro pins s σ H xs us Q I r h
 obtain ⟨p,bs,rfl,hS,q⟩:=h
 obtain ⟨u,rfl,ru⟩:=cg r
 cases ru
 obtain ⟨its,rv,pl,hz⟩:=I.list hS
 have il:=pl.isList
 have hl:=rv.length
 rw [List.length_map] at hl
 have bAt:∀ {i:Nat}{v:Value},its.toArray[i]?=some v->v=.bool (bs.getD i true):=fun {i v} h=>by
  have h':its[i]?=some v:=by simpa using h
  have hi:i<its.length:=(List.getElem?_eq_some_iff.mp h').1
  have hb:i<bs.length:=by omega
  obtain ⟨u,h1,h2⟩:=rv.get (i:=i) (x:=.bl (bs.getD i true)) (by simp [hb])
  rw [h'] at h1
  injection h1 with h1
  subst h1
  exact h2
 have W:=Walks.list (prog:=X.prog) (w:=X.w) (A:=X.A.in1) (I.ok.hd hc) s.heap.objs.size p (by
  obtain ⟨o,n,e,_⟩:=pl
  exact Nat.ne_of_lt (Heap.lt_size e)) its.toArray
 refine call_all_walk (wpAny_pyIter_list il ⟨_,_,_,_,_,_,λi=>bs.getD i true,rfl,W,⟨⟨_,Heap.get?_push_size _ rfl,rfl,rfl⟩,il.push _⟩,λi v s Q E hv hq=>?_,λh' tk hk=>?_⟩)
 ·rw [bAt hv]
  exact wpAny_truthy_bool hq
 ·refine ⟨.bl _,H,I.kept λb o e=>hk b o (zV e) (Heap.get?_push_of_some _ e),?_,q⟩
  show Value.bool _=Value.bool _
  congr 1
  have e1:its.toArray.size=bs.length:=by rw [List.size_toArray];omega
  rw [e1]
  clear q hS rv bAt W hl e1
  rw [Bool.eq_iff_iff,List.all_eq_true,List.all_eq_true]
  constructor
  ·intro h b hb
   obtain ⟨i,hi,rfl⟩:=List.mem_iff_getElem.mp hb
   have:=h i (List.mem_range.mpr hi)
   rw [qR hi] at this
   exact this
  ·intro h i hi
   have hi':=List.mem_range.mp hi
   rw [qR hi']
   exact h _ (List.getElem_mem hi')
def Ci:V->List V->Hp->VK->Prop:=λx vs H Q=>∃ a b,x=.str a/\vs=[.str b]/\b.length≠0/\a.length<=1000/\∀ l,H l=none->Q (.ref l) (upd H l (.lst ((Txt.split a b).map V.str)))
theorem pY:∀ {l:List (Str×Tok)},ap (l.map λp=>V.str p.1) (strValues l)
 |[]=>.nil
 |(x,t)::r=>.cons ⟨t,rfl⟩ pY
theorem xT:MtR X "str.split" Ci:=by
 intro pins s σ H x vs v us Q I rx rv h
 obtain ⟨a,b,rfl,rfl,hb,hz,q⟩:=h
 obtain ⟨t,rfl⟩:=rx
 obtain ⟨u,rfl,t2,rfl⟩:=cg rv
 have hlen:=PyProof.Rows.split_le a b
 have hy:(b.length==0)=false:=by simpa using hb
 have hbig:1002<=sizeLine:=by decide
 have hsz:a.length<=sizeLine:=by omega
 have fin:∀ (l:List (Str×Tok)) (k:Nat),l.map (·.1)=Txt.split a b->EP X pins σ Q (.ref s.heap.objs.size) { s with heap:=s.heap.push { cls:=.type "list",data:=.seq (strValues l).toArray },toks:=k }:=λl k e=>by
  have e1:l.length=(Txt.split a b).length:=by rw [<- e,List.length_map]
  have e2:(l.map λp=>V.str p.1)=(Txt.split a b).map V.str:=by rw [<- e,List.map_map];rfl
  refine ⟨.ref _,_,I.lnew (its:=strValues l) (ys:=l.map λp=>V.str p.1) pY (by rw [List.length_map];omega),rfl,?_⟩
  rw [e2]
  exact q _ I.fresh
 cases h1:(decide (a.length<b.length) || decide (Builtin.Str.strKind a<Builtin.Str.strKind b))
 ·cases hf:(Builtin.Str.occurrences a b 0 a.length (a.length+1)).isEmpty
  ·have e3:Txt.split a b=Builtin.Str.partsBetween a (Builtin.Str.occurrences a b 0 a.length (a.length+1)) b.length:=(if_neg (ne_true_of_eq_false h1)).trans (if_neg (ne_true_of_eq_false hf))
   have hsz2:(Builtin.Str.partsBetween a (Builtin.Str.occurrences a b 0 a.length (a.length+1)) b.length).length<=sizeLine:=by rw [<- e3];omega
   refine call_meets F.slot_str_split (typeIs_str _ _ _) F.entry_str_split (F.args_str_split_2 _ _) (meets_str_split_sep a b t t2 h1 hy hf hsz hsz2) ?_
   show wants _ _ _ { s with toks:=_,heap:=s.heap.push { cls:=.type "list",data:=.seq (strsFrom s.toks (Builtin.Str.partsBetween a (Builtin.Str.occurrences a b 0 a.length (a.length+1)) b.length)).toArray } }
   rw [strsFrom_eq]
   exact fin (numbered s.toks _) _ ((numbered_texts _ _).trans e3.symm)
  ·exact call_meets F.slot_str_split (typeIs_str _ _ _) F.entry_str_split (F.args_str_split_2 _ _) (meets_str_split_not_found a b t t2 h1 hy hf)
    (fin [(a,t)] s.toks ((if_neg (ne_true_of_eq_false h1)).trans (if_pos hf)).symm)
 ·exact call_meets F.slot_str_split (typeIs_str _ _ _) F.entry_str_split (F.args_str_split_2 _ _) (meets_str_split_cannot_occur a b t t2 h1)
   (fin [(a,t)] s.toks (if_pos h1).symm)
theorem qS:∀ {zs:List Str}{its:List Value},ap (zs.map V.str) its->∃ l:List (Str×Tok),its=strValues l/\l.map (·.1)=zs
 |[],_,r=>by
  rw [List.map_nil] at r
  cases r
  exact ⟨[],rfl,rfl⟩
 |z::zs,_,r=>by
  rw [List.map_cons] at r
  cases r with
  |cons r1 r2 =>
   obtain ⟨t,rfl⟩:=r1
   obtain ⟨l,rfl,e⟩:=qS r2
   exact ⟨(z,t)::l,rfl,by rw [List.map_cons,e]⟩
def EH (K:PySem.W.Frag):V->List V->Hp->VK->Prop:=λx vs H Q=>∃ (a:Str) (p:Addr) (zs:List Str),x=.str a/\vs=[.ref p]/\SqL K H p (zs.map V.str)/\JoinOk a zs=true/\Q (.str (Txt.join a zs)) H
theorem zW:MtR X "str.join" (EH X.K):=by
 intro pins s σ H x vs v us Q I rx rv h
 obtain ⟨a,p,zs,rfl,rfl,hS,hok,q⟩:=h
 obtain ⟨t,rfl⟩:=rx
 obtain ⟨u,rfl,ru⟩:=cg rv
 cases ru
 obtain ⟨its,r,pl,hz⟩:=I.list hS
 obtain ⟨l,rfl,e⟩:=qS r
 exact SC.join pl.isList e hok λt' k=>⟨.str (Txt.join a zs),H,I.tok k,⟨t',rfl⟩,q⟩
end
section
variable {κ:Type}[DecidableEq κ]
def ba (kvs:List (κ×V)) (k:κ):Option V:=(kvs.find? λkv=>decide (kv.1=k)).map (·.2)
def bY (kvs:List (κ×V)) (k:κ) (v:V):List (κ×V) :=
 if (kvs.any λkv=>decide (kv.1=k))=true then kvs.map (λkv=>if kv.1=k then (kv.1,v) else kv) else kvs++[(k,v)]
def fo (kvs:List (κ×V)) (k:κ):List (κ×V):=kvs.filter λkv=>decide (kv.1≠k)
theorem kU {p:κ×V}{r:List (κ×V)}{k:κ}(e:p.1=k):ba (p::r) k=some p.2:=by simp [ba,List.find?_cons,e]
theorem kW {p:κ×V}{r:List (κ×V)}{k:κ}(e:¬ p.1=k):ba (p::r) k=ba r k:=by simp [ba,List.find?_cons,e]
theorem qq (k:κ):∀ kvs:List (κ×V),(kvs.any λkv=>decide (kv.1=k))=(ba kvs k).isSome
 |[]=>rfl
 |p::r=>by
  rw [List.any_cons]
  by_cases e:p.1=k
  ·simp only [kU e,decide_eq_true e,Bool.true_or,Option.isSome_some]
  ·rw [kW e,decide_eq_false e,Bool.false_or];exact qq k r
theorem oZ (kvs:List (κ×V)) (k:κ) (v:V):(bY kvs k v).length<=kvs.length+1:=by
 unfold bY
 split
 ·rw [List.length_map];omega
 ·rw [List.length_append,List.length_cons,List.length_nil];omega
theorem bA.isSome_eq {o:Option V}{u:Option Value}(r:bA o u):o.isSome=u.isSome:=by
 cases o with
 |none=>cases u with
  |none=>rfl
  |some _=>exact (show False from r).elim
 |some _=>cases u with
  |none=>exact (show False from r).elim
  |some _=>rfl
theorem bA.getD {o:Option V}{u:Option Value}{d:V}{d':Value}(r:bA o u) (rd:av d d'):av (o.getD d) (u.getD d'):=by
 cases o with
 |none=>cases u with
  |none=>exact rd
  |some _=>exact (show False from r).elim
 |some _=>cases u with
  |none=>exact (show False from r).elim
  |some _=>exact r
theorem KV.val {kvs:List (κ×V)}{vs:List (κ×Value)}(r:KV kvs vs) (k:κ):bA (ba kvs k) (valueAt vs k):=by
 unfold KV at r
 induction r with
 |nil=>exact True.intro
 |@cons p q ps qs h t ih =>
  obtain ⟨h1,h2⟩:=h
  by_cases e:p.1=k
  ·have e':q.1=k:=h1.symm.trans e
   have b:valueAt (q::qs) k=some q.2:=by simp [valueAt,List.find?_cons,e']
   rw [kU e,b];exact h2
  ·have e':¬ q.1=k:=λz=>e (h1.trans z)
   have b:valueAt (q::qs) k=valueAt qs k:=by simp [valueAt,List.find?_cons,e']
   rw [kW e,b];exact ih
theorem KV.any {kvs:List (κ×V)}{vs:List (κ×Value)}(r:KV kvs vs) (k:κ):(kvs.any λkv=>decide (kv.1=k))=vs.any λkv=>decide (kv.1=k):=by
 unfold KV at r
 induction r with
 |nil=>rfl
 |cons h t ih=>rw [List.any_cons,List.any_cons,ih,h.1]
theorem KV.repl {kvs:List (κ×V)}{vs:List (κ×Value)}(r:KV kvs vs) (k:κ){y:V}{u:Value}(ry:av y u) :
  KV (kvs.map λkv=>if kv.1=k then (kv.1,y) else kv) (vs.map λkv=>if kv.1=k then (kv.1,u) else kv):=by
 unfold KV at r ⊢
 induction r with
 |nil=>exact .nil
 |@cons p q ps qs h t ih =>
  rw [List.map_cons,List.map_cons]
  refine .cons ?_ ih
  obtain ⟨h1,h2⟩:=h
  by_cases e:p.1=k
  ·rw [if_pos e,if_pos (h1.symm.trans e)];exact ⟨h1,ry⟩
  ·rw [if_neg e,if_neg (λz=>e (h1.trans z))];exact ⟨h1,h2⟩
theorem KV.put {kvs:List (κ×V)}{vs:List (κ×Value)}(r:KV kvs vs) (k:κ){y:V}{u:Value}(ry:av y u):KV (bY kvs k y) (stored vs k u):=by
 unfold bY stored
 rw [r.any k]
 by_cases e:(vs.any λkv=>decide (kv.1=k))=true
 ·rw [if_pos e,if_pos e];exact r.repl k ry
 ·rw [if_neg e,if_neg e];exact Paired.snoc r ⟨rfl,ry⟩
theorem KV.drop {kvs:List (κ×V)}{vs:List (κ×Value)}(r:KV kvs vs) (k:κ):KV (fo kvs k) (without vs k):=by
 unfold KV at r ⊢
 unfold fo without
 induction r with
 |nil=>exact .nil
 |@cons p q ps qs h t ih =>
  obtain ⟨h1,h2⟩:=h
  rw [List.filter_cons,List.filter_cons]
  by_cases e:p.1=k
  ·have a:¬ decide (p.1≠k)=true:=by simp [e]
   have b:¬ decide (q.1≠k)=true:=by simp [h1.symm.trans e]
   rw [if_neg a,if_neg b];exact ih
  ·have e':¬ q.1=k:=λz=>e (h1.trans z)
   have a:decide (p.1≠k)=true:=by simp [e]
   have b:decide (q.1≠k)=true:=by simp [e']
   rw [if_pos a,if_pos b];exact .cons ⟨h1,h2⟩ ih
theorem KV.length {kvs:List (κ×V)}{vs:List (κ×Value)}(r:KV kvs vs):kvs.length=vs.length:=Paired.length r
theorem xU (kvs:List (κ×V)) (k:κ):(fo kvs k).length<=kvs.length:=List.length_filter_le _ _
end
theorem fq {P:Program}{w:World}{k:Key}{u:Value}(r:av (kV k) u):(a6 P w).is k u=true:=by
 cases k with
 |inl i=>obtain ⟨t,e⟩:=(show ∃ t,u=Value.int i t from r);subst e;exact vP P w i t
 |inr x=>obtain ⟨t,e⟩:=(show ∃ t,u=Value.str x t from r);subst e;exact vQ P w x t
theorem pZ {P:Program}{w:World}:∀ {ks:List Key}{us:List Value},ap (ks.map kV) us->ItemsAre (a6 P w) ks us
 |[],_,r=>by rw [List.map_nil] at r;cases r;exact .nil
 |k::ks,_,r=>by
  rw [List.map_cons] at r
  cases r with
  |cons h t=>exact .cons (fq h) (pZ t)
abbrev KT (H:Hp):List (List Key×V)->List (List Key×Addr×Value)->Prop:=Paired λp q=>p.1=q.1/\H q.2.1=some (.tup (p.1.map kV))/\av p.2 q.2.2
theorem KT.val {H:Hp}{kvs:List (List Key×V)}{xs:List (List Key×Addr×Value)}(r:KT H kvs xs) (k:List Key):bA (ba kvs k) ((atKey xs k).map (·.2)):=by
 induction r with
 |nil=>exact True.intro
 |@cons p q ps qs h t ih =>
  obtain ⟨h1,_,h2⟩:=h
  by_cases e:p.1=k
  ·have e':q.1=k:=h1.symm.trans e
   have b:atKey (q::qs) k=some q.2:=by simp [atKey,List.find?_cons,e']
   rw [kU e,b];exact h2
  ·have e':¬ q.1=k:=λz=>e (h1.trans z)
   have b:atKey (q::qs) k=atKey qs k:=by simp [atKey,List.find?_cons,e']
   rw [kW e,b];exact ih
theorem KT.repl {H:Hp}{kvs:List (List Key×V)}{xs:List (List Key×Addr×Value)}(r:KT H kvs xs) (k:List Key){y:V}{u:Value}(ry:av y u) :
  KT H (kvs.map λkv=>if kv.1=k then (kv.1,y) else kv) (xs.map (putAt k u)):=by
 induction r with
 |nil=>exact .nil
 |@cons p q ps qs h t ih =>
  rw [List.map_cons,List.map_cons]
  refine .cons ?_ ih
  obtain ⟨h1,h2,h3⟩:=h
  unfold putAt
  by_cases e:p.1=k
  ·rw [if_pos e,if_pos (h1.symm.trans e)];exact ⟨h1,h2,ry⟩
  ·rw [if_neg e,if_neg (λz=>e (h1.trans z))];exact ⟨h1,h2,h3⟩
theorem KT.put {H:Hp}{kvs:List (List Key×V)}{xs:List (List Key×Addr×Value)}(r:KT H kvs xs) (k:List Key){b:Addr}{y:V}{u:Value}(hb:H b=some (.tup (k.map kV))) (ry:av y u) :
  KT H (bY kvs k y) (storedH xs k b u):=by
 have e:(kvs.any λkv=>decide (kv.1=k))=(atKey xs k).isSome:=by
  rw [qq,(r.val k).isSome_eq,Option.isSome_map]
 unfold bY storedH
 rw [e]
 by_cases q:(atKey xs k).isSome=true
 ·rw [if_pos q,if_pos q];exact r.repl k ry
 ·rw [if_neg q,if_neg q];exact Paired.snoc r ⟨rfl,hb,ry⟩
theorem KT.keeps {H H':Hp}{kvs:List (List Key×V)}{xs:List (List Key×Addr×Value)}(r:KT H kvs xs) (ht:∀ b ys,H b=some (.tup ys)->H' b=some (.tup ys)):KT H' kvs xs :=
 Paired.mapP r λ_ _ z=>⟨z.1,ht _ _ z.2.1,z.2.2⟩
section
variable {P:Program}{w:World}{H:Hp}{h:Heap}{a:Addr}
theorem tU {u:HO}(ok:HOk P w H h) (e:Rd H a u):aT P w H h a u:=e.ok ok
theorem tV {kvs:List (Key×V)}(ok:HOk P w H h) (e:Rd H a (.dK kvs)):kvs.length<=sizeLine/\(a==sysModules)=false/\∃ vs,KV kvs vs/\h.DictOf (a6 P w) a vs :=
 show aT P w H h a (.dK kvs) from tU ok e
theorem iF {kvs:List (Key×V)}(ok:HOk P w H h) (e:H a=some (.dK kvs)):kvs.length<=sizeLine/\(a==sysModules)=false/\∃ vs,KV kvs vs/\h.DictOf (a6 P w) a vs:=tV ok (.inl e)
theorem mi {ks:List Key}(ok:HOk P w H h) (e:H a=some (.tup (ks.map kV))):(tupleKind (a6 P w)).is h ks a:=by
 obtain ⟨_,its,r,o,h1,h2,n,h3⟩:=(show aT P w H h a (.tup (ks.map kV)) from ok a _ e)
 exact ⟨o,its.toArray,n,h1,h2,h3,by simpa using pZ r⟩
theorem tW {kvs:List (List Key×V)}(ok:HOk P w H h) (e:Rd H a (.dT kvs)):kvs.length<=sizeLine/\(a==sysModules)=false /\
  ∃ xs,KT H kvs xs/\h.DictOfH (tupleKind (a6 P w)) a xs:=by
 obtain ⟨z,y,xs,r,o,es,ep,h1,h2,h3,h4,h5⟩:=(show aT P w H h a (.dT kvs) from tU ok e)
 refine ⟨z,y,xs,r,o,es,ep,h1,h2,h3,h4,λx hx=>?_,h5⟩
 have all:∀ {l:List (List Key×V)}{m:List (List Key×Addr×Value)},KT H l m->∀ x∈m,(tupleKind (a6 P w)).is h x.1 x.2.1:=by
  intro l m q
  induction q with
  |nil=>intro x hx;exact nomatch hx
  |@cons p q ps qs hq t ih =>
   intro x hx
   rcases List.mem_cons.mp hx with e|hx
   ·subst e
    exact mi ok (by rw [<- hq.1];exact hq.2.1)
   ·exact ih x hx
 exact all r x hx
theorem EI {kvs:List (List Key×V)}(ok:HOk P w H h) (e:H a=some (.dT kvs)):kvs.length<=sizeLine/\(a==sysModules)=false /\
  ∃ xs,KT H kvs xs/\h.DictOfH (tupleKind (a6 P w)) a xs:=tW ok (.inl e)
end
def kg (H:Hp) (a:Addr) (y:V) (r:Option V):Prop :=
 (∃ kvs k,Rd H a (.dK kvs)/\y=kV k/\r=ba kvs k)\/∃ kvs k b,Rd H a (.dT kvs)/\y=.ref b/\H b=some (.tup (k.map kV))/\r=ba kvs k
def fD (H:Hp) (a:Addr) (y v:V) (H':Hp):Prop :=
 (∃ kvs k,H a=some (.dK kvs)/\y=kV k/\kvs.length<sizeLine/\H'=upd H a (.dK (bY kvs k v))) \/
 ∃ kvs k b,H a=some (.dT kvs)/\y=.ref b/\H b=some (.tup (k.map kV))/\kvs.length<sizeLine/\H'=upd H a (.dT (bY kvs k v))
theorem kg.t {H:Hp}{a b:Addr}{kvs:List (List Key×V)}{k:List Key}(e:H a=some (.dT kvs)) (eb:H b=some (.tup (k.map kV))):kg H a (.ref b) (ba kvs k):=.inr ⟨kvs,k,b,.inl e,rfl,eb,rfl⟩
theorem fD.k {H:Hp}{a:Addr}{kvs:List (Key×V)}{k:Key}{v:V}(e:H a=some (.dK kvs)) (hl:kvs.length<sizeLine):fD H a (kV k) v (upd H a (.dK (bY kvs k v))):=.inl ⟨kvs,k,e,rfl,hl,rfl⟩
theorem fD.t {H:Hp}{a b:Addr}{kvs:List (List Key×V)}{k:List Key}{v:V}(e:H a=some (.dT kvs)) (eb:H b=some (.tup (k.map kV))) (hl:kvs.length<sizeLine) :
  fD H a (.ref b) v (upd H a (.dT (bY kvs k v))):=.inr ⟨kvs,k,b,e,rfl,eb,hl,rfl⟩
section
variable {X:Cx}{pins:List (Addr×Obj)}{σ:St}{H:Hp}{s:Shared}{a:Addr}{y v:V}{u r:Value}{o:Option V}{A:Around}{E:Value->Shared->Prop}
theorem Inv.big (I:Inv X pins σ H s):sysModules<s.heap.objs.size:=by
 have h:mainGlobals<s.heap.objs.size:=(I.mod.glob.keeps I.bk).lt
 exact Nat.lt_trans (by decide) h
theorem lF {h':Heap}{t':Nat}{ob:HO}(I:Inv X pins σ H s) (mu:Mut (H a)) (hs:Heap.SameBut a s.heap h') (he:∃ q,h'.get? a=some q) (new:aT X.prog X.w (upd H a ob) h' a ob) :
  Inv X pins σ (upd H a ob) { s with heap:=h',toks:=t' } :=
 I.write (x:=a) (e:=a) mu (.inl rfl) (λb q hb z=>(hs.2 b hb).trans z) he new
theorem sm {P:Program}{w:World}{H':Hp}{h':Heap}{kvs:List (Key×V)}{vs:List (Key×Value)}(z:kvs.length<=sizeLine) (hd:(a==sysModules)=false) (rel:KV kvs vs) (dd:h'.DictOf (a6 P w) a vs) :
  aT P w H' h' a (.dK kvs):=⟨z,hd,vs,rel,dd⟩
theorem p5 {H':Hp}{Q:Unit->Shared->Prop}(hu:A.units+1<cLine) (I:Inv X pins σ H s) (g:fD H a y v H') (ry:av y u) (rv:av v r) (h:∀ s',Inv X pins σ H' s'->Q () s') :
  wpAny (model X.prog X.w) A (setItem (.ref a) u r) Q E s:=by
 rcases g with ⟨kvs,k,e,ey,l,eH⟩|⟨kvs,k,b,e,ey,eb,l,eH⟩
 ·subst ey eH
  obtain ⟨z,hd,vs,rel,dd⟩:=iF I.hok e
  have hz:vs.length<=sizeLine:=by rw [<- rel.length];exact z
  have hl:(bY kvs k v).length<=sizeLine:=by have:=oZ kvs k v;omega
  refine wpAny_setItem_pairs (hsz:=hz) (fq ry) dd λh' dd' hs=>h _ ?_
  have he:∃ q,h'.get? a=some q:=let ⟨q,_,_,hq,_⟩:=dd';⟨q,hq⟩
  exact lF I (by rw [e];exact True.intro) hs he (sm hl hd (rel.put k rv) dd')
 ·subst ey eH
  cases (show u=Value.ref b from ry)
  obtain ⟨z,hd,xs,rel,dd⟩:=EI I.hok e
  have hz:xs.length<=sizeLine:=by rw [<- Paired.length rel];exact z
  have hl:(bY kvs k v).length<=sizeLine:=by have:=oZ kvs k v;omega
  refine wpAny_setItem_heap (hsz:=hz) (tupleKind_room_in1 hu) (mi I.hok eb) dd λh' dd' hs=>h _ ?_
  obtain ⟨q,es,ep,hq,h2,h3,h4,_,h5⟩:=dd'
  refine lF I (by rw [e];exact True.intro) hs ⟨q,hq⟩ ⟨hl,hd,_,(rel.put k eb rv).keeps λc ys ec=>?_,q,es,ep,hq,h2,h3,h4,h5⟩
  rw [aE (cZ ec e (λz=>nomatch z))]
  exact ec
end
section
variable {X:Cx}{pins:List (Addr×Obj)}{σ:St}{H:Hp}{s:Shared}{a:Addr}{kvs:List (Key×V)}{k:Key}{u:Value}{A:Around}{E:Value->Shared->Prop}
theorem EJ {v:V}{more:List Value}{Q:Value->Shared->Prop}(I:Inv X pins σ H s) (e:H a=some (.dK kvs)) (ry:av (kV k) u) (l:ba kvs k=some v) (hm:more=[]\/∃ x,more=[x])
  (h:∀ w' s',Inv X pins σ (upd H a (.dK (fo kvs k))) s'->av v w'->Q w' s'):wpAny (model X.prog X.w) A (call (.builtin "dict.pop") (.ref a::u::more)) Q E s:=by
 obtain ⟨z,hd,vs,rel,dd⟩:=iF I.hok e
 obtain ⟨w',hw,rw'⟩:=bA.some_of (v:=v) (o:=valueAt vs k) (by rw [<- l];exact rel.val k)
 have hp:(keyPart u).isSome=true:=by
  cases k with
  |inl i=>obtain ⟨t,q⟩:=(show ∃ t,u=Value.int i t from ry);subst q;rfl
  |inr x=>obtain ⟨t,q⟩:=(show ∃ t,u=Value.str x t from ry);subst q;rfl
 have ha:argsOk "dict.pop" ⟨.ref a::u::more,[]⟩:=by
  rcases hm with q|⟨x,q⟩
  ·subst q;exact PySem.F.args_dict_pop_2 _ _
  ·subst q;exact PySem.F.args_dict_pop_3 _ _ _
 refine call_meetsIn PySem.F.slot_dict_pop dd.typeIs PySem.F.entry_dict_pop ha (meets_dict_pop_there (a6 X.prog X.w) a (fq ry) more hm hp)
  ⟨vs,w',dd,by rw [<- rel.length];exact z,hw,λh' dd' hs=>h w' _ ?_ rw'⟩
 have he:∃ q,h'.get? a=some q:=let ⟨q,_,_,hq,_⟩:=dd';⟨q,hq⟩
 exact lF I (by rw [e];exact True.intro) hs he (sm (Nat.le_trans (xU kvs k) z) hd (rel.drop k) dd')
end
def kh (i:Expr):Prop:=∀ ov iv,subscripted i false ov iv=operate [ov,iv] (getItem ov iv)
theorem zX {prog:Program}{w:World}{A:Around}{E:Value->Shared->Prop}{s:Shared}{env:Env}{value slice:Expr}{pos:Pos}{T id:String}{Q:Value->Shared->Prop}
  (hl:typeLookup (.type T) "__getitem__"=pure (some (.builtin id))) (hs:kh slice)
  (h:wpAny (model prog w) A (eval value env) (λo s₁=>wpAny (model prog w) A (eval slice env) (λi s₂=>s₂.TypeIs o T/\wpAny (model prog w) A (getItem o i) Q E s₂) E s₁) E s) :
  wpAny (model prog w) A (eval (.Subscript value slice pos) env) Q E s:=by
 refine Subscript_ (wpAny_mono h (λo s₁ h₁=>wpAny_mono h₁ (λi s₂ h₂=>?_) λ_ _ x=>x) λ_ _ x=>x)
 obtain ⟨hT,h₂⟩:=h₂
 unfold subscriptTail
 refine wpAny_bind ?_
 rw [getitemInPython_of_ne hT.not_modules]
 refine wpAny_bind (wpAny_specialOf hT hl ?_)
 have fin:wpAny (model prog w) A (subscripted slice false o i) (λr s₃=>wpAny (model prog w) A (letTemporaryGo value o r >>= λ_=>pure r) Q E s₃) E s₂:=by
  rw [hs o i]
  exact wpAny_operating (wpAny_mono h₂ (λr s₃ h₃=>wpAny_bind (wpAny_letTemporaryGo (wpAny_pure h₃))) λ_ _ x=>x)
 first
  |exact wpAny_pure (wpAny_bind fin)
  |exact wpAny_bind (wpAny_pure (wpAny_bind fin))
  |exact wpAny_bind fin
section
variable {X:Cx}{o i e value:Expr}{pos pos' tpos:Pos}{td ty tv:TE}
end
theorem xV {P:Program}{w:World}{H:Hp}(h:Heap) (hb:sysModules<h.objs.size):aT P w H (h.push { cls:=.type "dict",data:=.dict #[] }) h.objs.size (.dK []) :=
 ⟨Nat.zero_le _,beq_eq_false_iff_ne.mpr (Ne.symm (Nat.ne_of_lt hb)),[],.nil,Heap.DictOf.new h⟩
theorem xW {P:Program}{w:World}{H:Hp}(h:Heap) (hb:sysModules<h.objs.size):aT P w H (h.push { cls:=.type "dict",data:=.dict #[] }) h.objs.size (.dT []) :=
 ⟨Nat.zero_le _,beq_eq_false_iff_ne.mpr (Ne.symm (Nat.ne_of_lt hb)),[],.nil,_,#[],0,Heap.get?_push_size _ rfl,⟨rfl,rfl,rfl⟩,rfl,rfl,List.nodup_nil⟩
def Cj:TE:=λ_ H Q=>∀ p,H p=none->Q (.ref p) (upd H p (.dK []))
def Ck:TE:=λ_ H Q=>∀ p,H p=none->Q (.ref p) (upd H p (.dT []))
section
variable {X:Cx}{pos:Pos}
theorem xX:PE X (.Dict [] [] pos) Cj:=λpins s σ H Q I h =>
 wpAny_Dict_empty ⟨.ref s.heap.objs.size,_,I.laid (a:=s.heap.objs.size) (o:=.dK []) (t':=s.toks) (λ_ _ q=>Heap.get?_push_of_some _ q) (Nat.le_refl _) (xV s.heap I.big),rfl,h _ (I.hok.fresh (Nat.le_refl _))⟩
theorem xY:PE X (.Dict [] [] pos) Ck:=λpins s σ H Q I h =>
 wpAny_Dict_empty ⟨.ref s.heap.objs.size,_,I.laid (a:=s.heap.objs.size) (o:=.dT []) (t':=s.toks) (λ_ _ q=>Heap.get?_push_of_some _ q) (Nat.le_refl _) (xW s.heap I.big),rfl,h _ (I.hok.fresh (Nat.le_refl _))⟩
end
structure M1 (X:Cx) (o:Expr) (m:Str) (apos:Pos) (e:Expr) (cpos:Pos):Prop where
 base:attributeBase o m X.env (eval o X.env)=eval o X.env
 few:((backTo cpos (starEach [e] X.env)).all (λx=>!x.1)&&(backToKw cpos (keywordEach [] X.env)).all (λx=>x.1.isSome)
  && decide (([e]:List Expr).length+([]:List Keyword).length+(if ([]:List Keyword).isEmpty then 0 else 1)<30))=true
 line:(apos.endLine==cpos.line)=true
 trees:backTo cpos (starEach [e] X.env)=[(false,eval e X.env)]
structure M2 (X:Cx) (o:Expr) (m:Str) (apos:Pos) (e f:Expr) (cpos:Pos):Prop where
 base:attributeBase o m X.env (eval o X.env)=eval o X.env
 few:((backTo cpos (starEach [e,f] X.env)).all (λx=>!x.1)&&(backToKw cpos (keywordEach [] X.env)).all (λx=>x.1.isSome)
  && decide (([e,f]:List Expr).length+([]:List Keyword).length+(if ([]:List Keyword).isEmpty then 0 else 1)<30))=true
 line:(apos.endLine==cpos.line)=true
 trees:backTo cpos (starEach [e,f] X.env)=[(false,eval e X.env),(false,eval f X.env)]
section
variable {X:Cx}{pins:List (Addr×Obj)}{σ:St}{H:Hp}{s:Shared}{a:Addr}{y d:V}{u r:Value}{o:Option V}{A:Around}{E:Value->Shared->Prop}
theorem Cl {Q:Value->Shared->Prop}(hu:A.units+1<cLine) (I:Inv X pins σ H s) (g:kg H a y o) (ry:av y u) (rd:av d r) (h:∀ w' s',Inv X pins σ H s'->av (o.getD d) w'->Q w' s') :
  wpAny (model X.prog X.w) A (call (.builtin "dict.get") [.ref a,u,r]) Q E s:=by
 rcases g with ⟨kvs,k,e,ey,l⟩|⟨kvs,k,b,e,ey,eb,l⟩
 ·subst ey
  obtain ⟨z,hd,vs,rel,dd⟩:=tV I.hok e
  refine call_meetsIn PySem.F.slot_dict_get dd.typeIs PySem.F.entry_dict_get (PySem.F.args_dict_get_3 _ _ _) (meets_dict_get_default (a6 X.prog X.w) a (fq ry) hd r) ⟨_,dd.mapOf,h _ _ (I.tok _) ?_⟩
  rw [l]
  exact (rel.val k).getD rd
 ·subst ey
  cases (show u=Value.ref b from ry)
  obtain ⟨z,hd,xs,rel,dd⟩:=tW I.hok e
  refine call_meetsIn PySem.F.slot_dict_get dd.typeIs PySem.F.entry_dict_get (PySem.F.args_dict_get_3 _ _ _) (meetsH_dict_get_default (tupleKind (a6 X.prog X.w)) a b hd r) ⟨tupleKind_room_in1 hu,k,xs,mi I.hok eb,dd,h _ _ (I.tok _) ?_⟩
  rw [l]
  exact (rel.val k).getD rd
end
section
variable {X:Cx}{o e f:Expr}{apos cpos:Pos}{td ty tx:TE}
end
section
variable {X:Cx}{pins:List (Addr×Obj)}{σ:St}{H:Hp}{s:Shared}{a:Addr}{kvs:List (Key×V)}{A:Around}{E:Value->Shared->Prop}
end
section
variable {X:Cx}{pins:List (Addr×Obj)}{σ:St}{H:Hp}{s:Shared}{a:Addr}{y:V}{u:Value}{A:Around}{E:Value->Shared->Prop}
end
section
variable {κ:Type}[DecidableEq κ]
end
def bf (D:Addr) (zs:List V):HO:=.ext λh=>zs.length<=sizeLine/\∃ (its:List Value) (n:Nat),ap zs its/\h.get? D=some { cls:=.type "list",data:=.seq its.toArray n }
theorem Inv.toAcc {X:Cx}{pins:List (Addr×Obj)}{σ:St}{H:Hp}{s:Shared}{D:Addr}{zs:List V}(I:Inv X pins σ H s) (h:H D=some (.lst zs)):Inv X pins σ (upd H D (bf D zs)) s:=by
 obtain ⟨z,its,n,r,e⟩:=I.hok D _ h
 obtain ⟨hh,g,d,t,os⟩:=s
 exact I.write (t':=t) (h':=hh) (x:=D) (e:=D) (by rw [h];trivial) (.inl rfl) (λb u _ q=>q) ⟨_,e⟩ ⟨⟨z,its,n,r,e⟩,⟨_,e⟩,λh1 h2 zz45 k=>by obtain ⟨z',its',n',r',e'⟩:=zz45;exact ⟨z',its',n',r',k _ e'⟩⟩
theorem Inv.ofAcc {X:Cx}{pins:List (Addr×Obj)}{σ:St}{H:Hp}{s:Shared}{D:Addr}{zs:List V}(I:Inv X pins σ H s) (h:H D=some (bf D zs)):Inv X pins σ (upd H D (.lst zs)) s:=by
 obtain ⟨⟨z,its,n,r,e⟩,_,_⟩:=I.hok D _ h
 obtain ⟨hh,g,d,t,os⟩:=s
 exact I.write (t':=t) (h':=hh) (x:=D) (e:=D) (by rw [h];trivial) (.inl rfl) (λb u _ q=>q) ⟨_,e⟩ ⟨z,its,n,r,e⟩
section
variable {X:Cx}{pins:List (Addr×Obj)}{σ:St}{H:Hp}{s:Shared}{scope:Scope}{Nc:List Str}{fp:List Addr}{C:Addr}
def su (J:It) (n:Nat) (caps:List Nat) (g:TG) (tt:TT) (te:TE) (σ:St) (H1:Hp) (Q:VK):Prop:=∀ D,H1 D=none->∃ W:Nat->Nat->List V->St->Hp->Prop,(∃ m,W 0 m [] (gM n caps σ) (upd H1 D (bf D [])))/\∀ i m zs σc H,W i m zs σc H ->
 H D=some (bf D zs)/\((J.stop i H/\Q (.ref D) (upd H D (.lst zs)))\/(J.go i H/\∃ N:List V->St->Hp->Prop,(∀ zs' σ' H',N zs' σ' H'->∃ m',m'<m/\W (i+1) m' zs' σ' H')/\∀ x H',J.yld i H x H'->g x σc H' λσ2 H2=>tt σ2 H2 λb H3 =>
  if b=true then te σ2 H3 λy H4=>H4 D=some (bf D zs)/\zs.length<sizeLine/\N (zs++[y]) σ2 (upd H4 D (bf D (zs++[y]))) else N zs σ2 H3))
def mj (wi:TI) (n:Nat) (caps:List Nat) (g:TG) (tt:TT) (te:TE):TE:=λσ H Q=>wi σ H λJ H1=>su J n caps g tt te σ H1 Q
variable {elt iter target:Expr}{ifs:List Expr}{pos:Pos}{n:Nat}{caps:List Nat}{wi:TI}{g:TG}{tt:TT}{te:TE}
theorem o0 {J:It}{it:Addr}{tn:Nat->Heap->Prop}{Q:VK}{E:Value->Shared->Prop}{RR:Value->Addr->Result->Shared->Prop}(hcalm:X.calm=true) (S:CompSc X scope) (hcp:fk X.N Nc scope n caps=true)
  (hg:∀ C s₀ H₀ ex,PG (X.comp scope Nc C s₀ H₀ ex) target g) (ht:∀ C s₀ H₀ ex,PTs (X.comp scope Nc C s₀ H₀ ex) ifs tt) (he:∀ C s₀ H₀ ex,PE (X.comp scope Nc C s₀ H₀ ex) elt te)
  (I:Inv X pins σ H s) (T:Turn X.prog X.w X.K target J fp it tn) (t0:tn 0 s.heap) (hf:∀ b∈fp,cq X pins H b) (hw:su J n caps g tt te σ H Q)
  (fin:∀ (D:Addr) (s':Shared) (H':Hp) (m:Str->Option Value),Inv X pins σ H' s'->H' (s.heap.objs.size+1)=none->s'.heap.Ns (s.heap.objs.size+1) m->Q (.ref D) H'->RR (.ref D) (s.heap.objs.size+1) (.ok .next) s') :
  wpAny (model X.prog X.w) X.A (newList []) (λacc s₃=>wpAny (model X.prog X.w) X.A (newFunctionEnv scope X.env.globals (cB scope X.env) [] X.env.qual none .none (some X.env)) (λcenv s₄ =>
   codeAny (model X.prog X.w) X.A (.compStart (.ListComp elt [⟨target,iter,ifs,0⟩] scope pos) 0 (.ref it) acc { cenv with scope:=relabel scope X.env }) (RR acc cenv.locals) s₄) E s₃) E s:=by
 refine wpAny_newObj_type (wpAny_newFunctionEnv S.nocell (by intro y hy;simp at hy) (λh₁ hns₁ hsb₁=>?_) S.kind)
 dsimp only at hns₁ hsb₁ ⊢
 generalize hH2:s.heap.push { cls:=.type "list",dict:=none,data:=.seq ([]:List Value).toArray }=H2 at hns₁ hsb₁ ⊢
 have hC:H2.objs.size=s.heap.objs.size+1:=by rw [<- hH2,Heap.size_push]
 rw [hC] at hns₁ hsb₁
 have hlt:∀ b∈fp,b<s.heap.objs.size:=λb hb=>by
  obtain ⟨o,e,_⟩:=T.obj _ _ t0 b hb
  exact Heap.lt_size e
 have old:∀ b o,s.heap.get? b=some o->h₁.get? b=some o:=λb o e=>hsb₁.extBut b o (Nat.ne_of_lt (Nat.lt_succ_of_lt (Heap.lt_size e))) (Heap.get?_push_of_some _ (hH2 ▸ Heap.get?_push_of_some _ e))
 have hD:h₁.get? s.heap.objs.size=some { cls:=.type "list",data:=.seq #[] 0 }:=hsb₁.extBut _ _ (Nat.ne_of_lt (Nat.lt_succ_self _)) (Heap.get?_push_of_some _ (hH2 ▸ Heap.get?_push_size _ rfl))
 have I0:Inv (X.comp scope Nc (s.heap.objs.size+1) s H fp) [] (gM n caps σ) (upd H s.heap.objs.size (.lst [])) { s with heap:=h₁,toks:=s.toks+([]:List (Str×Value)).length } :=
  v7 I S hcp hf hlt hns₁ old hD
 replace I0:=I0.toAcc (D:=s.heap.objs.size) aL
 rw [gF] at I0
 obtain ⟨W,⟨m0,w0⟩,turn⟩:=hw s.heap.objs.size I.fresh
 have fr0:∀ b∈fp,upd H s.heap.objs.size (bf s.heap.objs.size []) b=none:=λb hb=>by
  rw [aE (Nat.ne_of_lt (hlt b hb))]
  exact (hf b hb).1
 have stat:∀ {H':Hp},(∀ b∈fp,H' b=none)->∀ b∈fp,cq (X.comp scope Nc (s.heap.objs.size+1) s H fp) [] H' b:=λhn b hb =>
  ⟨hn b hb,(λe=>Nat.ne_of_lt (Nat.lt_succ_of_lt (hlt b hb)) e),I0.ok.exfs b hb,.inl hb,(I0.ok.exf b hb).2,λp hp=>absurd (show p∈([]:List (Addr×Obj)) from hp) (by simp)⟩
 have loop:codeAny (model X.prog X.w) X.A (.compLoop (.ListComp elt [⟨target,iter,ifs,0⟩] scope pos) 0 (.ref it) (.ref s.heap.objs.size) (compEnvC scope (cB scope X.env) (s.heap.objs.size+1) X.env))
   (RR (.ref s.heap.objs.size) (s.heap.objs.size+1)) { s with heap:=h₁,toks:=s.toks+([]:List (Str×Value)).length }:=by
  refine vV (λm s'=>∃ i zs σ' H',Inv (X.comp scope Nc (s.heap.objs.size+1) s H fp) [] σ' H' s'/\tn i s'.heap/\(∀ b∈fp,H' b=none)/\W i m zs σ' H') ?_ m0
   ⟨0,_,_,_,I0,T.keep _ _ _ t0 λb _ o e=>old b o e,fr0,w0⟩
  rintro m s3 ⟨i,zs,σ3,H3,I3,st3,fr3,w3⟩
  obtain ⟨hD3,w3'⟩:=turn i m zs σ3 H3 w3
  rcases w3' with ⟨stop,qn⟩|⟨go,N,hN,step⟩
  ·refine thn (T.done (X.comp scope Nc (s.heap.objs.size+1) s H fp) rfl rfl rfl hcalm i [] s3 σ3 H3 _ I3 (stat fr3) st3 stop) λr s4 ⟨hr,I4⟩=>?_
   subst hr
   obtain ⟨m4,hn4,_⟩:=I4.loc
   have I4':=I4.ofAcc hD3
   exact fin _ s4 _ m4 (wT I hf I4') I4'.free hn4 qn
  ·refine thn (T.item (X.comp scope Nc (s.heap.objs.size+1) s H fp) rfl rfl rfl hcalm i [] s3 σ3 H3 _ I3 (stat fr3) st3 go) λr s4 ⟨u,hr,h4⟩=>?_
   subst hr
   refine thn h4 λ_ s5 zz46=>?_
   obtain ⟨x,H5,I5,r5,y5,st5,fr5⟩:=zz46
   have I5':=I5.pinned (stat fr5) (T.obj _ _ st5)
   refine thn (hg _ _ _ _ _ s5 σ3 H5 x u _ I5' r5 (step x H5 y5)) λ_ s6 zz47=>?_
   obtain ⟨σ6,H6,I6,q6⟩:=zz47
   refine thn (ht _ _ _ _ _ s6 σ6 H6 _ I6 q6) λok s7 zz48=>?_
   obtain ⟨H7,I7,q7⟩:=zz48
   have again:∀ {s8:Shared}{H8:Hp}{zs8:List V},Inv (X.comp scope Nc (s.heap.objs.size+1) s H fp) ([]++ie fp s5.heap) σ6 H8 s8->N zs8 σ6 H8 ->
     ∃ m',m'<m/\∃ i zs σ' H',Inv (X.comp scope Nc (s.heap.objs.size+1) s H fp) [] σ' H' s8/\tn i s8.heap/\(∀ b∈fp,H' b=none)/\W i m' zs σ' H':=fun {s8 H8 zs8} I8 n8=>by
    obtain ⟨m',hm,w8⟩:=hN zs8 σ6 H8 n8
    refine ⟨m',hm,i+1,zs8,σ6,H8,I8.unpinned,T.keep _ _ _ st5 λb hb o e=>(I8.pin (b,o) (List.mem_append_right _ (List.mem_append_right _ (jl hb e)))).1,λb hb=>?_,w8⟩
    obtain ⟨o,e,d⟩:=T.obj _ _ st5 b hb
    exact (I8.pin (b,o) (List.mem_append_right _ (List.mem_append_right _ (jl hb e)))).2.1
   cases ok with
   |false =>
    rw [if_neg Bool.false_ne_true] at q7 ⊢
    exact again I7 q7
   |true =>
    rw [if_pos rfl] at q7 ⊢
    refine thn (he _ _ _ _ _ s7 σ6 H7 _ I7 q7) λy s8 zz49=>?_
    obtain ⟨v8,H8,I8,r8,hz,hl,q8⟩:=zz49
    refine thn (pV _ s8 σ6 _ (.ref s.heap.objs.size) [v8] (.ref s.heap.objs.size) [y] (λ_ H9=>H9=upd H8 s.heap.objs.size (.lst (zs++[v8]))) (I8.ofAcc hz) rfl (.cons r8 .nil) ⟨_,zs,v8,rfl,rfl,aL,hl,by rw [gF]⟩) λ_ s9 zz50=>?_
    obtain ⟨_,H9,I9,_,q9⟩:=zz50
    subst q9
    have I9':=I9.toAcc (D:=s.heap.objs.size) aL
    rw [gF] at I9'
    exact again I9' q8
 have e2:({ newEnv scope H2.objs.size X.env.globals (cB scope X.env) X.env.qual none .none (some X.env) builtinsNs with scope:=relabel scope X.env }:Env)=compEnvC scope (cB scope X.env) (s.heap.objs.size+1) X.env:=by
  rw [hC];rfl
 have e3:(newEnv scope H2.objs.size X.env.globals (cB scope X.env) X.env.qual none .none (some X.env) builtinsNs).locals=s.heap.objs.size+1:=hC
 rw [e2,e3]
 exact codeAny_compStart_list loop (T.self _ 0 _ _ _ (T.keep _ _ _ t0 λb _ o e=>old b o e) loop)
theorem xZ (Nc:List Str) (n:Nat) (caps:List Nat) (hcalm:X.calm=true) (hi:PI X target iter wi) (hg:∀ C s₀ H₀ ex,PG (X.comp scope Nc C s₀ H₀ ex) target g) (ht:∀ C s₀ H₀ ex,PTs (X.comp scope Nc C s₀ H₀ ex) ifs tt)
  (he:∀ C s₀ H₀ ex,PE (X.comp scope Nc C s₀ H₀ ex) elt te) (hsc:gL X.env.scope scope=true:=by rfl) (hcp:fk X.N Nc scope n caps=true:=by rfl) (hs:∀ x,foldedSetIterable iter X.env x=pure x:=by intro _;rfl) :
  PE X (.ListComp elt [⟨target,iter,ifs,0⟩] scope pos) (mj wi n caps g tt te):=by
 intro pins s σ H Q I h
 have S:=pX hsc
 rw [eval_ListComp]
 refine wpAny_comprehension_free (use:=none) rfl hs (S.clos I.ok) S.kind S.loc (thn (hi pins s σ H _ I h) λv s1 h1=>thn h1 λitv s2 h2=>?_)
 obtain ⟨it,fp,tn,J,H2,e,I2,T,t2,f2,hw⟩:=h2
 subst e
 refine o0 (RR:=λacc C=>compPost (model X.prog X.w) X.A X.xe none (EP X pins σ Q) acc C) hcalm S hcp hg ht he I2 T t2 f2 hw ?_
 intro D s' H' m I' hn hns q
 refine ⟨m,hns,λh' hs'=>⟨.ref D,H',?_,rfl,q⟩⟩
 refine I'.but hs' hn (Nat.le_trans I2.sz (Nat.le_succ _)) (λe=>?_) (λx c hc e=>?_) λp hp e=>?_
 ·exact Nat.ne_of_lt (Nat.lt_succ_of_lt I2.lt) e.symm
 ·obtain ⟨v,ic⟩:=I2.cell x c hc
  exact Nat.ne_of_lt (Nat.lt_succ_of_lt ic.lt) e
 ·exact Nat.ne_of_lt (Nat.lt_succ_of_lt (Heap.lt_size (I2.pin p hp).1)) e
theorem x4 {i:Nat}{x:Str}{px spos:Pos}(Nc:List Str) (n:Nat) (caps:List Nat) (hcalm:X.calm=true) (hN:X.N.Nodup) (hix:X.N[i]?=some x) (hx:Loc X.env.scope x) (hi:PI X target iter wi) (hg:∀ C s₀ H₀ ex,PG (X.comp scope Nc C s₀ H₀ ex) target g)
  (ht:∀ C s₀ H₀ ex,PTs (X.comp scope Nc C s₀ H₀ ex) ifs tt) (he:∀ C s₀ H₀ ex,PE (X.comp scope Nc C s₀ H₀ ex) elt te)
  (hsw:swapsWith (.ListComp elt [⟨target,iter,ifs,0⟩] scope pos) (some (.Name x px)) spos.line X.env=pure true:=by rfl) (hsc:gL X.env.scope scope=true:=by rfl) (hcp:fk X.N Nc scope n caps=true:=by rfl)
  (hs:∀ x,foldedSetIterable iter X.env x=pure x:=by intro _;rfl) (hf:X.fn x=true\/X.env.scope.names.lookup x=some .local:=by first|exact .inl rfl|exact .inr rfl|assumption) :
  PS X (.Assign [.Name x px] (.ListComp elt [⟨target,iter,ifs,0⟩] scope pos) spos) (iS (mj wi n caps g tt te) (jS i)):=by
 intro pins s σ H D I h
 have S:=pX hsc
 rw [exec_Assign_Name_used _ _ _ _ hsw]
 refine wpAny_bind (wpAny_standAt (wpAny_bind ?_))
 show wpAny _ X.A (do let _ <- comprehension (.ListComp elt [⟨target,iter,ifs,0⟩] scope pos) scope X.env _ (newList []) false (eval iter X.env) (some (assign (.Name x px) X.env))) _ _ s
 refine wpAny_bind (thn (wpAny_comprehension_free (use:=some (assign (.Name x px) X.env)) (Q:=λ_ s'=>SP X pins D .next s') rfl hs (S.clos I.ok) S.kind S.loc
  (thn (hi pins s σ H _ I h) λv s1 h1=>thn h1 λitv s2 h2=>?_)) λ_ s' hq=>wpAny_pure (wpAny_pure hq))
 obtain ⟨it,fp,tn,J,H2,e,I2,T,t2,f2,hw⟩:=h2
 subst e
 refine o0 (RR:=λacc C=>compPost (model X.prog X.w) X.A X.xe (some (assign (.Name x px) X.env)) (λ_ s'=>SP X pins D .next s') acc C) hcalm S hcp hg ht he I2 T t2 f2 hw ?_
 intro Da s' H' m I' hn hns q
 show wpAny _ X.A (assign (.Name x px) X.env (.ref Da)) _ _ s'
 obtain ⟨oC,es,ep,eo,ed,rC⟩:=id hns
 have nl:s2.heap.objs.size+1≠X.env.locals:=λe=>Nat.ne_of_lt (Nat.lt_succ_of_lt I2.lt) e.symm
 have nc:∀ y c,X.env.cells.lookup y=some c->c≠s2.heap.objs.size+1:=λy c hc e=>by
  obtain ⟨v,ic⟩:=I2.cell y c hc
  exact Nat.ne_of_lt (Nat.lt_succ_of_lt ic.lt) e
 have np:∀ p∈X.pn++pins,p.1≠s2.heap.objs.size+1:=λp hp e=>Nat.ne_of_lt (Nat.lt_succ_of_lt (Heap.lt_size (I2.pin p hp).1)) e
 have I3:Inv X (pins++[(s2.heap.objs.size+1,oC)]) σ H' s':=I'.pins_of λp hp=>by
  rcases List.mem_append.mp hp with z|z
  ·exact I'.pin p (List.mem_append_right _ z)
  ·obtain rfl:p=(s2.heap.objs.size+1,oC):=by simpa using z
   refine ⟨eo,hn,nl,λhb=>?_,λv e=>?_⟩
   ·have h1:=I2.nofs (a:=s2.heap.objs.size+1) (Nat.le_succ _)
    exact h1 hb
   ·rw [ed] at e;cases e
 refine wpAny_assign_Name (kS I3 hN hix hx (u:=.ref Da) (v:=.ref Da) rfl (λs4 I4=>?_) hf)
 have g4:s4.heap.get? (s2.heap.objs.size+1)=some oC:=(I4.pin (s2.heap.objs.size+1,oC) (List.mem_append_right _ (List.mem_append_right _ (by simp)))).1
 refine ⟨m,⟨oC,es,ep,g4,ed,rC⟩,λh' hs'=>?_⟩
 exact ⟨_,H',I4.unpinned.but hs' hn (Nat.le_trans I2.sz (Nat.le_succ _)) nl nc np,q⟩
end
def uV (w:World) (od:Obj) (kvs:List (Key×V)):Prop:=kvs.length<=sizeLine/\∀ P:Program,∃ vs,KV kvs vs/\od.IsDictOf (a6 P w) vs
def fzH (w:World) (a:Addr) (od:Obj) (kvs:List (Key×V)):HO:=.ext λh=>h.get? a=some od/\uV w od kvs/\(a==sysModules)=false
theorem wY {P P':Program}{w:World}{es:List DictEntry}{vs:List (Key×Value)}(d:Pairs (a6 P w) es vs):Pairs (a6 P' w) es vs:=by
 induction d with
 |nil=>exact .nil
 |cons h1 h2 _ ih=>exact .cons h1 h2 ih
theorem ki {α β:Type}{F:α->β->Prop}:∀ {l:List α}{m:List β}{i:Nat}{b:β},Paired F l m->m[i]?=some b->∃ a,l[i]?=some a/\F a b
 |_,_,_,_,.nil,e=>by simp at e
 |_,_,0,_,.cons h _,e=>by simp at e;subst e;exact ⟨_,rfl,h⟩
 |_,_,i+1,_,.cons _ t,e=>by
  obtain ⟨a,h1,h2⟩:=ki (i:=i) t (by simpa using e)
  exact ⟨a,by simpa using h1,h2⟩
theorem zY {P P':Program}{w:World}{od:Obj}{vs:List (Key×Value)}(h:od.IsDictOf (a6 P w) vs):od.IsDictOf (a6 P' w) vs:=by
 obtain ⟨es,ep,a,b,c,d,e⟩:=h
 exact ⟨es,ep,a,b,c,wY d,e⟩
theorem qT:∀ {xs:List V}{us:List Value},xs.length=us.length->(∀ (j:Nat) x u,xs[j]?=some x->us[j]?=some u->av x u)->ap xs us
 |[],[],_,_=>.nil
 |[],_::_,h,_=>by simp at h
 |_::_,[],h,_=>by simp at h
 |x::xs,u::us,h,f=>.cons (f 0 x u rfl rfl) (qT (by simpa using h) λj y v e1 e2=>f (j+1) y v (by simpa using e1) (by simpa using e2))
section
variable {X:Cx}{pins:List (Addr×Obj)}{σ:St}{H:Hp}{s:Shared}{a d:Addr}{od:Obj}{kvs:List (Key×V)}{k:Key}{y v:V}{u r:Value}{A:Around}{E:Value->Shared->Prop}
theorem tX {P:Program}{w:World}{k:Key}{u:Value}(h:(a6 P w).is k u=true):av (kV k) u:=by
 rcases cQ h with ⟨i,t,rfl,rfl⟩|⟨x,t,rfl,rfl⟩
 ·exact ⟨t,rfl⟩
 ·exact ⟨t,rfl⟩
theorem Inv.toFz (I:Inv X pins σ H s) (e:H a=some (.dK kvs)):∃ od,Inv X pins σ (upd H a (fzH X.w a od kvs)) s:=by
 obtain ⟨z,hd,vs,rel,dd⟩:=iF I.hok e
 obtain ⟨od,ho,hio⟩:=Heap.dictOf_iff.mp dd
 obtain ⟨hh,g,dr,t,os⟩:=s
 refine ⟨od,I.write (t':=t) (h':=hh) (x:=a) (e:=a) (by rw [e];trivial) (.inl rfl) (λb u _ q=>q) ⟨_,ho⟩ ⟨⟨ho,⟨z,λP=>⟨vs,rel,zY hio⟩⟩,hd⟩,⟨_,ho⟩,λh1 h2 p k=>⟨k _ p.1,p.2⟩⟩⟩
theorem iG (I:Inv X pins σ H s) (e:H a=some (fzH X.w a od kvs)):s.heap.get? a=some od/\uV X.w od kvs/\(a==sysModules)=false:=(I.hok a _ e).1
theorem Inv.ofFz (I:Inv X pins σ H s) (e:H a=some (fzH X.w a od kvs)):Inv X pins σ (upd H a (.dK kvs)) s:=by
 obtain ⟨ho,⟨z,dz⟩,hd⟩:=iG I e
 obtain ⟨vs,rel,dd⟩:=dz X.prog
 obtain ⟨hh,g,dr,t,os⟩:=s
 exact I.write (t':=t) (h':=hh) (x:=a) (e:=a) (by rw [e];trivial) (.inl rfl) (λb u _ q=>q) ⟨_,ho⟩ ⟨z,hd,vs,rel,Heap.dictOf_iff.mpr ⟨od,ho,dd⟩⟩
def RdK (w:World) (H:Hp) (a:Addr) (kvs:List (Key×V)):Prop:=H a=some (.dK kvs)\/∃ od,H a=some (fzH w a od kvs)
theorem rdK (I:Inv X pins σ H s) (e:RdK X.w H a kvs):kvs.length<=sizeLine/\(a==sysModules)=false/\∃ vs,KV kvs vs/\s.heap.DictOf (a6 X.prog X.w) a vs:=by
 rcases e with e|⟨od,e⟩
 ·exact iF I.hok e
 ·obtain ⟨ho,⟨z,dz⟩,hd⟩:=iG I e
  obtain ⟨vs,rel,dd⟩:=dz X.prog
  exact ⟨z,hd,vs,rel,Heap.dictOf_iff.mpr ⟨od,ho,dd⟩⟩
theorem wZ {Q:Value->Shared->Prop}(I:Inv X pins σ H s) (g:RdK X.w H a kvs) (l:ba kvs k=some v) (ry:av (kV k) u) (h:∀ w' s',Inv X pins σ H s'->av v w'->Q w' s'):wpAny (model X.prog X.w) A (getItem (.ref a) u) Q E s:=by
 obtain ⟨z,hd,vs,rel,dd⟩:=rdK I g
 obtain ⟨w',hw,rw'⟩:=bA.some_of (v:=v) (o:=valueAt vs k) (by rw [<- l];exact rel.val k)
 exact wpAny_getItem_of (fq ry) dd.mapOf hw (h w' _ (I.tok _) rw')
theorem GO {Q:Value->Shared->Prop}(I:Inv X pins σ H s) (g:RdK X.w H a kvs) (ry:av (kV k) u) (h:∀ s',Inv X pins σ H s'->Q (.bool (ba kvs k).isSome) s'):wpAny (model X.prog X.w) A (compareOp .In u (.ref a)) Q E s:=by
 obtain ⟨z,hd,vs,rel,dd⟩:=rdK I g
 refine wpAny_in_of (fq ry) hd dd.mapOf ?_
 rw [<- (rel.val k).isSome_eq]
 exact h _ (I.tok _)
theorem zZ {Q:Value->Shared->Prop}(I:Inv X pins σ H s) (g:RdK X.w H a kvs) (ry:av (kV k) u) (h:∀ s',Inv X pins σ H s'->Q (.bool (!(ba kvs k).isSome)) s'):wpAny (model X.prog X.w) A (compareOp .NotIn u (.ref a)) Q E s:=by
 obtain ⟨z,hd,vs,rel,dd⟩:=rdK I g
 refine wpAny_notIn_of (fq ry) hd dd.mapOf ?_
 rw [<- (rel.val k).isSome_eq]
 exact h _ (I.tok _)
theorem GP (I:Inv X pins σ H s) (g:RdK X.w H a kvs):s.TypeIs (.ref a) "dict" /\ ∀ b,Value.ref a=.ref b->∃ ob,s.heap.get? b=some ob/\ob.dict=none:=by
 obtain ⟨z,hd,vs,rel,dd⟩:=rdK I g
 refine ⟨dd.typeIs,λb q=>?_⟩
 cases q
 obtain ⟨ob,_,_,h1,h2,_⟩:=dd
 exact ⟨ob,h1,h2.2.1⟩
def iH (p d:Addr):HO:=.ext λh=>h.get? p=some { cls:=.type "dict_items",data:=.fields #[.ref d] }
def Cn (w:World):V->List V->Hp->VK->Prop:=λx xs H Q=>∃ d kvs,x=.ref d/\xs=[]/\H d=some (.dK kvs)/\∀ p,H p=none->Q (.ref p) (upd H p (iH p d))
theorem x5:MtR X "dict.items" (Cn X.w):=by
 rintro pins s σ H x xs v us Q I rx rs ⟨d,kvs,ex,exs,ed,q⟩
 subst ex exs
 cases rs
 cases (show v=Value.ref d from rx)
 obtain ⟨z,hd,vs,rel,dd⟩:=iF I.hok ed
 refine call_meetsIn PySem.F.slot_dict_items dd.typeIs PySem.F.entry_dict_items (PySem.F.args_dict_items_1 _) (meets_dict_items (a6 X.prog X.w) d hd) ⟨⟨vs,dd⟩,?_⟩
 refine ⟨.ref s.heap.objs.size,_,I.laid (o:=iH s.heap.objs.size d) (t':=s.toks) (λb u e=>Heap.get?_push_of_some _ e) (Nat.le_refl _) ⟨Heap.get?_push_size _ rfl,⟨_,Heap.get?_push_size _ rfl⟩,λh1 h2 p k=>k _ p⟩,rfl,q _ (I.hok.fresh (Nat.le_refl _))⟩
def ItP (w:World) (d:Addr) (od:Obj) (kvs:List (Key×V)):It :=
 ⟨λi H=>H d=some (fzH w d od kvs)/\i<kvs.length,λi H x H'=>∃ p kv,kvs[i]?=some kv/\H p=none/\x=.ref p/\H'=upd H p (.tup [kV kv.1,kv.2]),λi H=>H d=some (fzH w d od kvs)/\kvs.length<=i⟩
theorem v9 {P:Program}{w:World}{K:PySem.W.Frag}{elts:List Expr}{x1:Nat}{tpos:Pos}{vs:List (Key×Value)}{ep:Nat}(d it:Addr) (od:Obj) (kvs:List (Key×V)) (rel:KV kvs vs) (hne:d≠it) (hod:∀ h:Heap,h.get? d=some od->h.DictAt (a6 P w) d vs ep) :
  Turn P w K (.Tuple elts x1 tpos) (ItP w d od kvs) [it] it (λi h=>∃ ok ov,IsItemIter h it d i vs.length ep ok ov) where
 mem:=by simp
 obj:=λi h st b hb=>by
  obtain rfl:b=it:=by simpa using hb
  obtain ⟨ok,ov,e⟩:=st
  exact ⟨_,e,λv z=>by cases z⟩
 keep:=λi h h' zz51 k=>by obtain ⟨ok,ov,e⟩:=zz51;exact ⟨ok,ov,k it (by simp) _ e⟩
 item:=by
  rintro X hP hw hK hc i pins s σ H E I hf ⟨ok,ov,st⟩ ⟨hg,hi⟩
  subst hP hw hK
  have hl:i<vs.length:=by rw [<- rel.length];exact hi
  obtain ⟨⟨k,x⟩,hx⟩:∃ p,vs[i]?=some p:=⟨vs[i],by simp [hl]⟩
  obtain ⟨f0,f1,f2,f3,f4,f5⟩:=hf it (by simp)
  refine wpAny_pyNext_items_item st (hod _ (iG I hg).1) hx λkey h' hkey st' ht hsz sb=>?_
  refine ⟨_,rfl,wpAny_letOwnedTupleGo_items st' λh2 st2 sb2=>?_⟩
  have hit:it<s.heap.objs.size:=Heap.lt_size st
  obtain ⟨kv,e1,e2,e3⟩:∃ kv,kvs[i]?=some kv/\kv.1=k/\av kv.2 x:=by
   obtain ⟨kv,z1,z2⟩:=ki rel hx
   exact ⟨kv,z1,z2.1,z2.2⟩
  have ht2:h2.get? s.heap.objs.size=some { cls:=.type "tuple",data:=.seq #[key,x] }:=(sb2.2 _ (Nat.ne_of_gt hit)).trans ht
  have Im:Inv X pins σ (upd H s.heap.objs.size (.tup [kV kv.1,kv.2])) { s with heap:=s.heap.push { cls:=.type "tuple",data:=.seq #[key,x] },toks:=s.toks } :=
   I.laid (t':=s.toks) (λb u e=>Heap.get?_push_of_some _ e) (Nat.le_refl _) ⟨by show 2<=sizeLine;decide,[key,x],.cons (by rw [e2];exact tX hkey) (.cons e3 .nil),⟨_,Heap.get?_push_size _ rfl,rfl,_,rfl⟩⟩
  have I2:Inv X pins σ (upd H s.heap.objs.size (.tup [kV kv.1,kv.2])) { s with heap:=h2 }:=by
   refine Im.turned (t':=s.toks) (λb o hb e=>?_) (by rw [aE (Nat.ne_of_lt hit)];exact f0) f1 f3 f4 f5
   by_cases hbs:b=s.heap.objs.size
   ·subst hbs
    rw [show ({ s with heap:=s.heap.push { cls:=.type "tuple",data:=.seq #[key,x] },toks:=s.toks }:Shared).heap.get? s.heap.objs.size=some { cls:=.type "tuple",data:=.seq #[key,x] } from Heap.get?_push_size _ rfl] at e
    cases e;exact ht2
   ·exact (sb2.2 b hb).trans (sb b o hb (by rw [<- Heap.get?_push_ne _ _ _ hbs];exact e))
  refine ⟨.ref s.heap.objs.size,_,I2,rfl,⟨s.heap.objs.size,kv,e1,I.hok.fresh (Nat.le_refl _),rfl,rfl⟩,⟨_,_,st2⟩,λb hb=>?_⟩
  obtain rfl:b=it:=by simpa using hb
  rw [aE (Nat.ne_of_lt hit)];exact f0
 done:=by
  rintro X hP hw hK hc i pins s σ H E I hf ⟨ok,ov,st⟩ ⟨hg,hi⟩
  subst hP hw hK
  obtain ⟨f0,f1,f2,f3,f4,f5⟩:=hf it (by simp)
  refine wpAny_pyNext_items_end (I.ok.hd hc) st (hod _ (iG I hg).1) (List.getElem?_eq_none (by rw [<- rel.length];exact hi)) λh' eb=>⟨rfl,I.turned (t':=s.toks) (λb o hb e=>eb b o hb e) f0 f1 f3 f4 f5⟩
 self:=λA i s Q E zz52 h=>by obtain ⟨ok,ov,st⟩:=zz52;exact PySem.W.kcp_self st h
def tiP (w:World) (te:TE):TI:=λσ H R=>te σ H λx H1=>∃ p d kvs,x=.ref p/\H1 p=some (iH p d)/\H1 d=some (.dK kvs)/\∀ od,R (ItP w d od kvs) (upd H1 d (fzH w d od kvs))
theorem x6 {e:Expr}{te:TE}{elts:List Expr}{x1:Nat}{tpos:Pos}(he:PE X e te):PI X (.Tuple elts x1 tpos) e (tiP X.w te):=by
 intro pins s σ H R I h
 refine thn (he pins s σ H _ I h) λv s1 zz53=>?_
 obtain ⟨x,H1,I1,r1,p,d,kvs,ex,ep,ed,hR⟩:=zz53
 subst ex
 cases (show v=Value.ref p from r1)
 have hv:s1.heap.get? p=some { cls:=.type "dict_items",data:=.fields #[.ref d] }:=(I1.hok p _ ep).1
 obtain ⟨od,I2⟩:=I1.toFz ed
 obtain ⟨ho,⟨z,dz⟩,hd⟩:=iG I2 aL
 obtain ⟨vs,rel,es,ep',q1,q2,q3,q4,q5⟩:=dz X.prog
 have at_:∀ h:Heap,h.get? d=some od->h.DictAt (a6 X.prog X.w) d vs ep':=λh e=>⟨od,es,e,q1,q2,q3,q4,q5⟩
 refine wpAny_pyIter_items ⟨_,hv,rfl,rfl⟩ (at_ _ ho) ?_
 have hlt:d<s1.heap.objs.size:=Heap.lt_size ho
 have I3:Inv X pins σ (upd H1 d (fzH X.w d od kvs)) { s1 with heap:=s1.heap.push { cls:=.type "dict_itemiterator",data:=.fields #[.none,.bool false,.ref d,.int 0 0,.int vs.length 0,.int ep' 0,.none,.none] } }:=I2.kept (t':=s1.toks) λb u e=>Heap.get?_push_of_some _ e
 refine ⟨s1.heap.objs.size,[s1.heap.objs.size],_,_,_,rfl,I3,v9 d _ od kvs rel (Nat.ne_of_lt hlt) at_,⟨.none,.none,Heap.get?_push_size _ rfl⟩,λb hb=>?_,hR od⟩
 obtain rfl:b=s1.heap.objs.size:=by simpa using hb
 exact I2.fpOk (Nat.le_refl _) (I2.hok.fresh (Nat.le_refl _))
def EK (w:World) (td ty:TE):TE:=λσ H Q=>td σ H λx H1=>ty σ H1 λy H2=>∃ a kvs k v,x=.ref a/\RdK w H2 a kvs/\y=kV k/\ba kvs k=some v/\Q v H2
theorem z0 {o i:Expr}{pos:Pos}{td ty:TE}(ho:PE X o td) (hi:PE X i ty) (hs:kh i):PE X (.Subscript o i pos) (EK X.w td ty):=by
 intro pins s σ H Q I h
 refine zX PySem.F.slot_dict_getitem.lookup hs (thn (ho pins s σ H _ I h) λu s1 zz54=>?_)
 obtain ⟨x,H1,I1,rx,q1⟩:=zz54
 refine thn (hi pins s1 σ H1 _ I1 q1) λiv s2 zz55=>?_
 obtain ⟨y,H2,I2,ry,a,kvs,k,v,ex,g,ey,l,q2⟩:=zz55
 subst ex ey
 obtain rfl:u=Value.ref a:=rx
 exact ⟨(GP I2 g).1,wZ I2 g l ry λw' s3 I3 rw'=>⟨v,H2,I3,rw',q2⟩⟩
def EL:V->List V->Hp->VK->Prop:=λx xs H Q=>∃ d kvs k v,x=.ref d/\xs=[kV k]/\H d=some (.dK kvs)/\ba kvs k=some v/\Q v (upd H d (.dK (fo kvs k)))
theorem z3:MtR X "dict.pop" EL:=by
 rintro pins s σ H x xs v us Q I rx rs ⟨d,kvs,k,v',ex,exs,ed,l,q⟩
 subst ex exs
 obtain ⟨u,rfl,ru⟩:=cg rs
 cases (show v=Value.ref d from rx)
 exact EJ I ed ru l (.inl rfl) λw' s' I' rw'=>⟨v',_,I',rw',q⟩
theorem PE.unf {e:Expr}{t:TE}(h:PE X e t):PE X e (λσ H Q=>t σ H λv H'=>∃ d od kvs,H' d=some (fzH X.w d od kvs)/\Q v (upd H' d (.dK kvs))):=λpins s σ H Q I q =>
 thn (h pins s σ H _ I q) λu s' zz56=>by obtain ⟨v,H',I',r,d,od,kvs,e,q'⟩:=zz56;exact ⟨v,_,I'.ofFz e,r,q'⟩
end
end L2
namespace T2
open PySem L2
inductive T where
 |non|bl (b:Bool)|int (i:Int)|str (x:Str)|tup (ts:List T)|lst (ts:List T)|scr (ns:List Int)|ref (a:Addr)|ty (n:String)
inductive O where
 |lst (ts:List T)|dK (kvs:List (Key×T))|dT (kvs:List (List Key×T))|ins (C:Addr) (fs:List (Str×T))
  |fK (w:World) (od:Obj) (vs:List (Key×V)) (kvs:List (Key×T))
abbrev Sto:=Addr->Option O
def put (S:Sto) (a:Addr) (o:O):Sto:=λb=>if b=a then some o else S b
theorem aJ {S:Sto}{a:Addr}{o:O}:put S a o a=some o:=by unfold put;rw [if_pos rfl]
theorem aD {S:Sto}{a b:Addr}{o:O}(h:b≠a):put S a o b=S b:=by unfold put;rw [if_neg h]
theorem cc {S:Sto}{a:Addr}{o u:O}:put (put S a o) a u=put S a u:=by
 funext b;unfold put;split<;>rfl
abbrev Fg:=PySem.W.Frag
def Scr (K:Fg) (H:Hp) (S:Sto) (p:Addr) (ns:List Int):Prop:=(S p=none/\∃ o,H p=some (.frz o (.lst (ns.map V.int))))\/SqL K (λ_=>none) p (ns.map V.int)
mutual
inductive Rp (K:Fg) (H:Hp) (S:Sto):T->V->Prop
 |non:Rp K H S .non .non
 |bl {b}:Rp K H S (.bl b) (.bl b)
 |int {i}:Rp K H S (.int i) (.int i)
 |str {x}:Rp K H S (.str x) (.str x)
 |ty {n}:Rp K H S (.ty n) (.ty n)
 |ref {a}:Rp K H S (.ref a) (.ref a)
 |tup {p ts vs}:S p=none->H p=some (.tup vs)->Rps K H S ts vs->Rp K H S (.tup ts) (.ref p)
 |lst {p ts vs}:S p=none->H p=some (.lst vs)->Rps K H S ts vs->Rp K H S (.lst ts) (.ref p)
 |scr {p ns}:Scr K H S p ns->Rp K H S (.scr ns) (.ref p)
inductive Rps (K:Fg) (H:Hp) (S:Sto):List T->List V->Prop
 |nil:Rps K H S [] []
 |cons {t v ts vs}:Rp K H S t v->Rps K H S ts vs->Rps K H S (t::ts) (v::vs)
end
def Fr (H:Hp) (S:Sto) (H':Hp) (S':Sto):Prop:=∀ a o,H a=some o->S a=none->H' a=some o/\S' a=none
theorem Fr.refl {H S}:Fr H S H S:=λ_ _ h n=>⟨h,n⟩
theorem Fr.trans {H S H1 S1 H2 S2}(f:Fr H S H1 S1) (g:Fr H1 S1 H2 S2):Fr H S H2 S2:=λa o h n=>by
 obtain ⟨h1,n1⟩:=f a o h n
 exact g a o h1 n1
section
variable {K:Fg}{H H':Hp}{S S':Sto}
theorem Scr.fr {p ns}(h:Scr K H S p ns) (f:Fr H S H' S'):Scr K H' S' p ns:=by
 rcases h with ⟨n,o,e⟩|h
 ·obtain ⟨e',n'⟩:=f p _ e n
  exact .inl ⟨n',o,e'⟩
 ·exact .inr h
theorem Scr.sq {p ns}(h:Scr K H S p ns):SqL K H p (ns.map V.int):=by
 rcases h with ⟨_,o,e⟩|h
 ·exact .inl (.inr ⟨o,e⟩)
 ·rcases h with (h|⟨o,h⟩)|h
  ·cases h
  ·cases h
  ·exact .inr h
mutual
theorem Rp.fr (f:Fr H S H' S'):∀ {t v},Rp K H S t v->Rp K H' S' t v
 |_,_,.non=>.non
 |_,_,.bl=>.bl
 |_,_,.int=>.int
 |_,_,.str=>.str
 |_,_,.ty=>.ty
 |_,_,.ref=>.ref
 |_,_,.tup n h r=>.tup (f _ _ h n).2 (f _ _ h n).1 (Rps.fr f r)
 |_,_,.lst n h r=>.lst (f _ _ h n).2 (f _ _ h n).1 (Rps.fr f r)
 |_,_,.scr h=>.scr (h.fr f)
theorem Rps.fr (f:Fr H S H' S'):∀ {ts vs},Rps K H S ts vs->Rps K H' S' ts vs
 |_,_,.nil=>.nil
 |_,_,.cons a b=>.cons (Rp.fr f a) (Rps.fr f b)
end
theorem Rps.length:∀ {ts vs},Rps K H S ts vs->vs.length=ts.length
 |_,_,.nil=>rfl
 |_,_,.cons _ b=>by simp [Rps.length b]
theorem Rps.append:∀ {ts vs us ws},Rps K H S ts vs->Rps K H S us ws->Rps K H S (ts++us) (vs++ws)
 |_,_,_,_,.nil,r=>r
 |_,_,_,_,.cons a b,r=>.cons a (Rps.append b r)
theorem Rps.drop:∀ {ts vs}(n:Nat),Rps K H S ts vs->Rps K H S (ts.drop n) (vs.drop n)
 |_,_,0,r=>r
 |_,_,_+1,.nil=>.nil
 |_,_,n+1,.cons _ b=>Rps.drop n b
theorem Rps.take:∀ {ts vs}(n:Nat),Rps K H S ts vs->Rps K H S (ts.take n) (vs.take n)
 |_,_,0,_=>.nil
 |_,_,_+1,.nil=>.nil
 |_,_,n+1,.cons a b=>.cons a (Rps.take n b)
theorem Rps.set {t v}(r:Rp K H S t v):∀ {ts vs}(i:Nat),Rps K H S ts vs->Rps K H S (ts.set i t) (vs.set i v)
 |_,_,_,.nil=>.nil
 |_,_,0,.cons _ b=>.cons r b
 |_,_,i+1,.cons a b=>.cons a (Rps.set r i b)
theorem Rps.get:∀ {ts vs}{i:Nat}{t},Rps K H S ts vs->ts[i]?=some t->∃ v,vs[i]?=some v/\Rp K H S t v
 |_,_,_,_,.nil,e=>by simp at e
 |_,_,0,_,.cons a _,e=>by simp at e;subst e;exact ⟨_,rfl,a⟩
 |_,_,i+1,_,.cons _ b,e=>by
  obtain ⟨v,h1,h2⟩:=Rps.get (i:=i) b (by simpa using e)
  exact ⟨v,by simpa using h1,h2⟩
theorem Rps.getV:∀ {ts vs}{i:Nat}{v},Rps K H S ts vs->vs[i]?=some v->∃ t,ts[i]?=some t/\Rp K H S t v
 |_,_,_,_,.nil,e=>by simp at e
 |_,_,0,_,.cons a _,e=>by simp at e;subst e;exact ⟨_,rfl,a⟩
 |_,_,i+1,_,.cons _ b,e=>by
  obtain ⟨v,h1,h2⟩:=Rps.getV (i:=i) b (by simpa using e)
  exact ⟨v,by simpa using h1,h2⟩
theorem Rps.ints {ns:List Int}:Rps K H S (ns.map T.int) (ns.map V.int):=by
 induction ns with
 |nil=>exact .nil
 |cons a l ih=>exact .cons .int ih
theorem Rps.strs {ns:List Str}:Rps K H S (ns.map T.str) (ns.map V.str):=by
 induction ns with
 |nil=>exact .nil
 |cons a l ih=>exact .cons .str ih
end
inductive ORp (K:Fg) (H:Hp) (S:Sto) (a:Addr):O->Prop
 |lst {ts vs}:H a=some (.lst vs)->Rps K H S ts vs->ORp K H S a (.lst ts)
 |dK {kvs kts}:H a=some (.dK kvs)->Paired (λ(p:Key×T) (q:Key×V)=>p.1=q.1/\Rp K H S p.2 q.2) kts kvs->ORp K H S a (.dK kts)
 |dT {kvs kts}:H a=some (.dT kvs)->Paired (λ(p:List Key×T) (q:List Key×V)=>p.1=q.1/\Rp K H S p.2 q.2) kts kvs->ORp K H S a (.dT kts)
 |fK {w od kvs kts}:H a=some (fzH w a od kvs)->Paired (λ(p:Key×T) (q:Key×V)=>p.1=q.1/\Rp K H S p.2 q.2) kts kvs->ORp K H S a (.fK w od kvs kts)
 |ins {C dx fs fts}:H a=some (.ins C dx fs)->Paired (λ(p:Str×T) (q:Str×V)=>p.1=q.1/\Rp K H S p.2 q.2) fts fs->ORp K H S a (.ins C fts)
section
variable {K:Fg}{H:Hp}{S:Sto}{v:V}{a:Addr}
theorem Rp.istr {x:Str}(r:Rp K H S (.str x) v):v=.str x:=by cases r;rfl
theorem Rp.itup {ts:List T}(r:Rp K H S (.tup ts) v):∃ p vs,v=.ref p/\H p=some (.tup vs)/\Rps K H S ts vs:=by cases r with|tup n h p=>exact ⟨_,_,rfl,h,p⟩
end
def SRp (K:Fg) (H:Hp) (S:Sto):Prop:=∀ a o,S a=some o->ORp K H S a o
section
variable {K:Fg}{H H':Hp}{S S':Sto}{a:Addr}{o:O}
theorem ORp.some (r:ORp K H S a o):∃ u,H a=some u:=by cases r<;>exact ⟨_,‹_›⟩
theorem SRp.fresh (s:SRp K H S) (h:H a=none):S a=none:=by
 cases e:S a with
 |none=>rfl
 |some o=>obtain ⟨u,q⟩:=(s a o e).some;rw [h] at q;cases q
theorem ORp.fr (r:ORp K H S a o) (f:Fr H S H' S') (h:H' a=H a):ORp K H' S' a o:=by
 cases r with
 |lst e q=>exact .lst (h.trans e) (q.fr f)
 |dK e q=>exact .dK (h.trans e) (Paired.mapP q λ_ _ z=>⟨z.1,z.2.fr f⟩)
 |dT e q=>exact .dT (h.trans e) (Paired.mapP q λ_ _ z=>⟨z.1,z.2.fr f⟩)
 |fK e q=>exact .fK (h.trans e) (Paired.mapP q λ_ _ z=>⟨z.1,z.2.fr f⟩)
 |ins e q=>exact .ins (h.trans e) (Paired.mapP q λ_ _ z=>⟨z.1,z.2.fr f⟩)
theorem Fr.new {p:Addr}{u:HO}(h:H p=none):Fr H S (upd H p u) S:=λa o e n=>⟨by rw [aE (bv e h)];exact e,n⟩
theorem SRp.new {p:Addr}{u:HO}(s:SRp K H S) (h:H p=none):SRp K (upd H p u) S:=λa o e=>by
 obtain ⟨x,hx⟩:=(s a o e).some
 exact (s a o e).fr (Fr.new h) (aE (bv hx h))
theorem Fr.newT {p:Addr}{u:HO}{o:O}(h:H p=none):Fr H S (upd H p u) (put S p o):=λa _ e n =>
 ⟨by rw [aE (bv e h)];exact e,by rw [aD (bv e h)];exact n⟩
theorem SRp.newT {p:Addr}{u:HO}{o:O}(s:SRp K H S) (h:H p=none) (n:ORp K (upd H p u) (put S p o) p o):SRp K (upd H p u) (put S p o):=λa o' e=>by
 by_cases ha:a=p
 ·subst ha;rw [aJ] at e;cases e;exact n
 ·rw [aD ha] at e
  exact (s a o' e).fr (Fr.newT h) (aE ha)
theorem Fr.write {p:Addr}{u:HO}{o:O}(h:S p≠none):Fr H S (upd H p u) (put S p o):=λa _ e n =>
 have ne:a≠p:=λz=>by subst z;exact h n
 ⟨by rw [aE ne];exact e,by rw [aD ne];exact n⟩
theorem SRp.write {p:Addr}{u:HO}{o:O}(s:SRp K H S) (h:S p≠none) (n:ORp K (upd H p u) (put S p o) p o):SRp K (upd H p u) (put S p o):=λa o' e=>by
 by_cases ha:a=p
 ·subst ha;rw [aJ] at e;cases e;exact n
 ·rw [aD ha] at e
  exact (s a o' e).fr (Fr.write h) (aE ha)
def Le (S0 S:Sto):Prop:=∀ a o,S0 a=some o->S a=some o
theorem Le.refl {S}:Le S S:=λ_ _ h=>h
theorem Le.none {S0 S:Sto}(l:Le S0 S){a:Addr}(h:S a=none):S0 a=none:=by
 cases e:S0 a with
 |none=>rfl
 |some o=>rw [l a o e] at h;cases h
theorem Fr.le {S0:Sto}(l:Le S0 S):Fr H S H S0:=λ_ _ h n=>⟨h,l.none n⟩
theorem SRp.le {S0:Sto}(s:SRp K H S) (l:Le S0 S):SRp K H S0:=λa o e=>(s a o (l a o e)).fr (Fr.le l) rfl
end
abbrev StT:=List (Option T)
abbrev WE:=StT->Sto->(T->Sto->Prop)->Prop
abbrev WT:=StT->Sto->(Bool->Sto->Prop)->Prop
abbrev WA:=StT->Sto->(List T->Sto->Prop)->Prop
structure EndsT where
 nx:StT->Sto->Prop
 rt:T->Sto->Prop
 bk:StT->Sto->Prop:=λ_ _=>False
 ct:StT->Sto->Prop:=λ_ _=>False
abbrev WS:=EndsT->StT->Sto->Prop
def Cov (K:Fg) (H:Hp) (S:Sto) (σ:St) (σt:StT):Prop:=σt.length=σ.length/\∀ (i:Nat) (t:T),σt[i]?=some (some t)->∃ v:V,σ[i]?=some (some v)/\Rp K H S t v
theorem Cov.fr {K H S H' S' σ σt}(c:Cov K H S σ σt) (f:Fr H S H' S'):Cov K H' S' σ σt:=⟨c.1,λi t e=>by
 obtain ⟨v,h,r⟩:=c.2 i t e
 exact ⟨v,h,r.fr f⟩⟩
theorem Cov.set {K H S σ σt t v}(c:Cov K H S σ σt) (r:Rp K H S t v) (i:Nat):Cov K H S (σ.set i (some v)) (σt.set i (some t)):=by
 refine ⟨by simp [c.1],λj u e=>?_⟩
 by_cases h:i=j
 ·subst h
  by_cases hl:i<σt.length
  ·rw [List.getElem?_set_self hl] at e
   cases e
   exact ⟨v,List.getElem?_set_self (by rw [<- c.1];exact hl),r⟩
  ·rw [List.getElem?_eq_none (by simp;omega)] at e;cases e
 ·rw [List.getElem?_set_ne h] at e ⊢
  exact c.2 j u e
abbrev Bh (K:Fg) (H:Hp) (S:Sto) (Qt:T->Sto->Prop) (Q:VK):Prop:=∀ v H' t S',Fr H S H' S'->SRp K H' S'->Rp K H' S' t v->Qt t S'->Q v H'
def lE (K:Fg) (w:WE):TE:=λσ H Q=>∃ S σt Qt,SRp K H S/\Cov K H S σ σt/\w σt S Qt/\Bh K H S Qt Q
def lT (K:Fg) (w:WT):TT:=λσ H Q=>∃ S σt Qt,SRp K H S/\Cov K H S σ σt/\w σt S Qt/\∀ b H' S',Fr H S H' S'->SRp K H' S'->Qt b S'->Q b H'
def lA (K:Fg) (w:WA):TA:=λσ H Q=>∃ S σt Qt,SRp K H S/\Cov K H S σ σt/\w σt S Qt/\∀ vs H' ts S',Fr H S H' S'->SRp K H' S'->Rps K H' S' ts vs->Qt ts S'->Q vs H'
structure EndsOk (K:Fg) (H:Hp) (S:Sto) (Dt:EndsT) (D:Ends):Prop where
 nx:∀ σ' H' σt' S',Fr H S H' S'->SRp K H' S'->Cov K H' S' σ' σt'->Dt.nx σt' S'->D.nx σ' H'
 rt:∀ v H' t S',Fr H S H' S'->SRp K H' S'->Rp K H' S' t v->Dt.rt t S'->D.rt v H'
 bk:∀ σ' H' σt' S',Fr H S H' S'->SRp K H' S'->Cov K H' S' σ' σt'->Dt.bk σt' S'->D.bk σ' H'
 ct:∀ σ' H' σt' S',Fr H S H' S'->SRp K H' S'->Cov K H' S' σ' σt'->Dt.ct σt' S'->D.ct σ' H'
theorem EndsOk.fr {K H S H' S' Dt D}(e:EndsOk K H S Dt D) (f:Fr H S H' S'):EndsOk K H' S' Dt D :=
 ⟨λσ' H2 σt' S2 g=>e.nx σ' H2 σt' S2 (f.trans g),λv H2 t S2 g=>e.rt v H2 t S2 (f.trans g),λσ' H2 σt' S2 g=>e.bk σ' H2 σt' S2 (f.trans g),λσ' H2 σt' S2 g=>e.ct σ' H2 σt' S2 (f.trans g)⟩
def lS (K:Fg) (w:WS):TS:=λD σ H=>∃ S σt Dt,SRp K H S/\Cov K H S σ σt/\w Dt σt S/\EndsOk K H S Dt D
def QE (K:Fg) (X:Cx) (e:Expr) (w:WE):Prop:=PE X e (lE K w)
def QT (K:Fg) (X:Cx) (e:Expr) (w:WT):Prop:=PT X e (lT K w)
def QW (K:Fg) (X:Cx) (e:Expr) (w:WT):Prop:=PW X e (lT K w)
def QA (K:Fg) (X:Cx) (es:List Expr) (w:WA):Prop:=PA X es (lA K w)
def QS (K:Fg) (X:Cx) (st:Stmt) (w:WS):Prop:=PS X st (lS K w)
def QSs (K:Fg) (X:Cx) (st:List Stmt) (w:WS):Prop:=PSs X st (lS K w)
theorem PE.of {X:Cx}{e:Expr}{t t':TE}(h:PE X e t) (i:∀ σ H Q,t' σ H Q->t σ H Q):PE X e t':=λpins s σ H Q I q=>h pins s σ H Q I (i σ H Q q)
theorem PT.of {X:Cx}{e:Expr}{t t':TT}(h:PT X e t) (i:∀ σ H Q,t' σ H Q->t σ H Q):PT X e t':=λpins s σ H Q I q=>h pins s σ H Q I (i σ H Q q)
theorem PW.of {X:Cx}{e:Expr}{t t':TT}(h:PW X e t) (i:∀ σ H Q,t' σ H Q->t σ H Q):PW X e t':=λwh pins s σ H Q I q=>h wh pins s σ H Q I (i σ H Q q)
theorem PA.of {X:Cx}{e:List Expr}{t t':TA}(h:PA X e t) (i:∀ σ H Q,t' σ H Q->t σ H Q):PA X e t':=λp pins s σ H Q I q=>h p pins s σ H Q I (i σ H Q q)
theorem PS.of {X:Cx}{e:Stmt}{t t':TS}(h:PS X e t) (i:∀ D σ H,t' D σ H->t D σ H):PS X e t':=λpins s σ H D I q=>h pins s σ H D I (i D σ H q)
theorem PSs.of {X:Cx}{e:List Stmt}{t t':TS}(h:PSs X e t) (i:∀ D σ H,t' D σ H->t D σ H):PSs X e t':=λpins s σ H D I q=>h pins s σ H D I (i D σ H q)
section
variable {K:Fg}{X:Cx}{a b c e:Expr}{wa wb wc:WE}{pos:Pos}
def wV (i:Nat):WE:=λσ S Q=>∃ t,σ[i]?=some (some t)/\Q t S
def wC (t:T):WE:=λ_ S Q=>Q t S
theorem EM {i:Nat}{x:Str}(h:PE X (.Name x pos) (uM i)):QE K X (.Name x pos) (wV i):=PE.of h λσ H Q zz57=>by
 obtain ⟨S,σt,Qt,s,c,⟨t,e,q⟩,hq⟩:=zz57
 obtain ⟨v,e2,r⟩:=c.2 i t e
 exact ⟨v,e2,hq v H t S .refl s r q⟩
theorem af {i j}:QE K X (.Constant (.int i) j pos) (wC (.int i)):=PE.of BH λσ H Q zz58=>by obtain ⟨S,σt,Qt,s,c,q,hq⟩:=zz58;exact hq _ H _ S .refl s .int q
theorem dZ {i j}:QE K X (.Constant (.bool i) j pos) (wC (.bl i)):=PE.of El λσ H Q zz59=>by obtain ⟨S,σt,Qt,s,c,q,hq⟩:=zz59;exact hq _ H _ S .refl s .bl q
theorem na {j}:QE K X (.Constant .none j pos) (wC .non):=PE.of BI λσ H Q zz60=>by obtain ⟨S,σt,Qt,s,c,q,hq⟩:=zz60;exact hq _ H _ S .refl s .non q
theorem au {x j}:QE K X (.Constant (.str x) j pos) (wC (.str x)):=PE.of md λσ H Q zz61=>by obtain ⟨S,σt,Qt,s,c,q,hq⟩:=zz61;exact hq _ H _ S .refl s .str q
theorem mo {x:Str}{t:T}{v:V}(h:PE X (.Name x pos) (tC v)) (r:∀ H S,Rp K H S t v):QE K X (.Name x pos) (wC t):=PE.of h λσ H Q zz62=>by obtain ⟨S,σt,Qt,s,c,q,hq⟩:=zz62;exact hq _ H _ S .refl s (r _ _) q
abbrev G2:=T->T->Sto->(T->Sto->Prop)->Prop
def l2 (K:Fg) (g:G2):R2:=λx y H Q=>∃ S tx ty Qt,SRp K H S/\Rp K H S tx x/\Rp K H S ty y/\g tx ty S Qt/\Bh K H S Qt Q
def w2 (g:G2) (wa wb:WE):WE:=λσ S Q=>wa σ S λx S1=>wb σ S1 λy S2=>g x y S2 Q
theorem jV {g:G2}{σ H Q}(h:lE K (w2 g wa wb) σ H Q):tOp (l2 K g) (lE K wa) (lE K wb) σ H Q:=by
 obtain ⟨S,σt,Qt,s,c,q,hq⟩:=h
 refine ⟨S,σt,_,s,c,q,λx H1 tx S1 f1 s1 r1 q1=>?_⟩
 refine ⟨S1,σt,_,s1,c.fr f1,q1,λy H2 ty S2 f2 s2 r2 q2=>?_⟩
 exact ⟨S2,tx,ty,Qt,s2,r1.fr f2,r2,q2,λv H' t S' f=>hq v H' t S' ((f1.trans f2).trans f)⟩
theorem aI {op:Operator}{g:G2}(ho:OpR X (binaryOp op) (l2 K g)) (ha:QE K X a wa) (hb:QE K X b wb):QE K X (.BinOp a op b pos) (w2 g wa wb):=PE.of (Ex ho ha hb) λ_ _ _ h=>jV h
theorem c7 {op:CmpOp}{g:G2}(ho:OpR X (compareOp op) (l2 K g)) (ha:QE K X a wa) (hb:QE K X b wb) (hm:behindInMarks op b=false):QE K X (.Compare a [op] [b] pos) (w2 g wa wb):=PE.of (zy ho ha hb hm) λ_ _ _ h=>jV h
def wB (w:WE):WT:=λσ S Q=>w σ S λx S1=>∃ k,x=.bl k/\Q k S1
theorem EN {w:WE}{σ H Q}(h:lT K (wB w) σ H Q):m5 (lE K w) σ H Q:=by
 obtain ⟨S,σt,Qt,s,c,q,hq⟩:=h
 refine ⟨S,σt,_,s,c,q,λx H1 tx S1 f1 s1 r1 q1=>?_⟩
 obtain ⟨k,rfl,q1⟩:=q1
 cases r1
 exact ⟨k,rfl,hq k H1 S1 f1 s1 q1⟩
theorem aw {op:CmpOp}{g:G2}(ho:OpR X (compareOp op) (l2 K g)) (ha:QE K X a wa) (hb:QE K X b wb) (hm:behindInMarks op b=false):QT K X (.Compare a [op] [b] pos) (wB (w2 g wa wb)) :=
 PT.of (zA ho ha hb hm) λσ H Q h=>by
  obtain ⟨S,σt,Qt,s,c,q,hq⟩:=h
  exact jV ⟨S,σt,_,s,c,q,λv H' t S' f s' r zz63=>by obtain ⟨k,e,q'⟩:=zz63;exact by subst e;cases r;exact ⟨k,rfl,hq k H' S' f s' q'⟩⟩
def jH (g g':G2) (wa wb wc:WE):WE:=λσ S Q=>wa σ S λx S1=>wb σ S1 λy S2=>g x y S2 λz S3=>∃ k,z=.bl k/\if k=true then wc σ S3 λu S4=>g' y u S4 Q else Q (.bl false) S3
theorem p6 {g g':G2}{σ H Q}(h:lE K (jH g g' wa wb wc) σ H Q):me (l2 K g) (l2 K g') (lE K wa) (lE K wb) (lE K wc) σ H Q:=by
 obtain ⟨S,σt,Qt,s,c,q,hq⟩:=h
 refine ⟨S,σt,_,s,c,q,λx H1 tx S1 f1 s1 r1 q1=>?_⟩
 refine ⟨S1,σt,_,s1,c.fr f1,q1,λy H2 ty S2 f2 s2 r2 q2=>?_⟩
 refine ⟨S2,tx,ty,_,s2,r1.fr f2,r2,q2,λz H3 tz S3 f3 s3 r3 q3=>?_⟩
 obtain ⟨k,rfl,q3⟩:=q3
 cases r3
 refine ⟨k,rfl,?_⟩
 cases k with
 |false=>exact hq _ _ _ _ ((f1.trans f2).trans f3) s3 .bl q3
 |true =>
  refine ⟨S3,σt,_,s3,c.fr ((f1.trans f2).trans f3),q3,λu H4 tu S4 f4 s4 r4 q4=>?_⟩
  exact ⟨S4,ty,tu,Qt,s4,(r2.fr f3).fr f4,r4,q4,λv H' t S' f=>hq v H' t S' ((((f1.trans f2).trans f3).trans f4).trans f)⟩
theorem qU {op op':CmpOp}{g g':G2}(ho:OpR X (compareOp op) (l2 K g)) (ho':OpR X (compareOp op') (l2 K g')) (ha:QE K X a wa) (hb:QE K X b wb) (hc:QE K X c wc) (hm:lastMarks [op,op'] [b,c]=false:=by with_unfolding_all rfl) :
  QE K X (.Compare a [op,op'] [b,c] pos) (jH g g' wa wb wc):=PE.of (xH ho ho' ha hb hc hm) λ_ _ _ h=>p6 h
theorem kX {op op':CmpOp}{g g':G2}(ho:OpR X (compareOp op) (l2 K g)) (ho':OpR X (compareOp op') (l2 K g')) (ha:QE K X a wa) (hb:QE K X b wb) (hc:QE K X c wc) (hm:lastMarks [op,op'] [b,c]=false:=by with_unfolding_all rfl) :
  QT K X (.Compare a [op,op'] [b,c] pos) (wB (jH g g' wa wb wc)):=PT.of (xI ho ho' ha hb hc hm) λσ H Q h=>by
  obtain ⟨S,σt,Qt,s,c,q,hq⟩:=h
  exact p6 ⟨S,σt,_,s,c,q,λv H' t S' f s' r zz64=>by obtain ⟨k,e,q'⟩:=zz64;exact by subst e;cases r;exact ⟨k,rfl,hq k H' S' f s' q'⟩⟩
theorem bp (h:QE K X e wa) (he:∀ whole,isTrue e X.env whole=(do let v <- whole;standAt e.pos;holding [v] (truthy v)):=by intro _;rfl):QT K X e (wB wa):=PT.of (BJ h he) λ_ _ _ h=>EN h
def uW (t u:WT):WT:=λσ S Q=>t σ S λc S1=>if c=true then u σ S1 Q else Q false S1
def wOr (t u:WT):WT:=λσ S Q=>t σ S λc S1=>if c=true then Q true S1 else u σ S1 Q
def uX (t:WT):WT:=λσ S Q=>t σ S λc S1=>Q (!c) S1
variable {ta tb:WT}{rest:List Expr}
theorem Co (ha:QT K X a ta):QW K X (.BoolOp .And [a] pos) ta:=zo ha
theorem ni (ha:QT K X a ta):QW K X (.BoolOp .Or [a] pos) ta:=BK ha
theorem EO (ha:QT K X a ta) (hb:QW K X (.BoolOp .And (b::rest) pos) tb):QW K X (.BoolOp .And (a::b::rest) pos) (uW ta tb):=PW.of (BL ha hb) λσ H Q zz65=>by
 obtain ⟨S,σt,Qt,s,c,q,hq⟩:=zz65
 refine ⟨S,σt,_,s,c,q,λk H1 S1 f1 s1 q1=>?_⟩
 cases k with
 |true=>exact ⟨S1,σt,_,s1,c.fr f1,q1,λb H' S' f=>hq b H' S' (f1.trans f)⟩
 |false=>exact hq false H1 S1 f1 s1 q1
theorem nJ (ha:QT K X a ta) (hb:QW K X (.BoolOp .Or (b::rest) pos) tb):QW K X (.BoolOp .Or (a::b::rest) pos) (wOr ta tb):=PW.of (Em ha hb) λσ H Q zz66=>by
 obtain ⟨S,σt,Qt,s,c,q,hq⟩:=zz66
 refine ⟨S,σt,_,s,c,q,λk H1 S1 f1 s1 q1=>?_⟩
 cases k with
 |false=>exact ⟨S1,σt,_,s1,c.fr f1,q1,λb H' S' f=>hq b H' S' (f1.trans f)⟩
 |true=>exact hq true H1 S1 f1 s1 q1
theorem kj (h:QW K X e ta):QT K X e ta:=h _
theorem bP (ha:QT K X a ta):QT K X (.UnaryOp .Not a pos) (uX ta):=PT.of (BM ha) λσ H Q zz67=>by obtain ⟨S,σt,Qt,s,c,q,hq⟩:=zz67;exact ⟨S,σt,_,s,c,q,λk H1 S1 f1 s1 q1=>hq _ H1 S1 f1 s1 q1⟩
def tY (wa wb:WE):WE:=λσ S Q=>wa σ S λx S1=>∃ k,x=.bl k/\if k=true then wb σ S1 Q else Q (.bl false) S1
def uY (wa wb:WE):WE:=λσ S Q=>wa σ S λx S1=>∃ k,x=.bl k/\if k=true then Q (.bl true) S1 else wb σ S1 Q
def tZ (wa:WE):WE:=λσ S Q=>wa σ S λx S1=>∃ k,x=.bl k/\Q (.bl (!k)) S1
theorem eA {op}(h:QE K X a wa):QE K X (.BoolOp op [a] pos) wa:=BN h
theorem el (ha:QE K X a wa) (hb:QE K X (.BoolOp .And (b::rest) pos) wb):QE K X (.BoolOp .And (a::b::rest) pos) (tY wa wb):=PE.of (BO ha hb) λσ H Q zz68=>by
 obtain ⟨S,σt,Qt,s,c,q,hq⟩:=zz68
 refine ⟨S,σt,_,s,c,q,λx H1 tx S1 f1 s1 r1 q1=>?_⟩
 obtain ⟨k,rfl,q1⟩:=q1
 cases r1
 refine ⟨k,rfl,?_⟩
 cases k with
 |true=>exact ⟨S1,σt,_,s1,c.fr f1,q1,λv H' t S' f=>hq v H' t S' (f1.trans f)⟩
 |false=>exact hq _ H1 _ S1 f1 s1 .bl q1
theorem EQ (ha:QE K X a wa) (hb:QE K X (.BoolOp .Or (b::rest) pos) wb):QE K X (.BoolOp .Or (a::b::rest) pos) (uY wa wb):=PE.of (Ep ha hb) λσ H Q zz69=>by
 obtain ⟨S,σt,Qt,s,c,q,hq⟩:=zz69
 refine ⟨S,σt,_,s,c,q,λx H1 tx S1 f1 s1 r1 q1=>?_⟩
 obtain ⟨k,rfl,q1⟩:=q1
 cases r1
 refine ⟨k,rfl,?_⟩
 cases k with
 |false=>exact ⟨S1,σt,_,s1,c.fr f1,q1,λv H' t S' f=>hq v H' t S' (f1.trans f)⟩
 |true=>exact hq _ H1 _ S1 f1 s1 .bl q1
theorem mr (ha:QE K X a wa):QE K X (.UnaryOp .Not a pos) (tZ wa):=PE.of (BP ha) λσ H Q zz70=>by
 obtain ⟨S,σt,Qt,s,c,q,hq⟩:=zz70
 refine ⟨S,σt,_,s,c,q,λx H1 tx S1 f1 s1 r1 q1=>?_⟩
 obtain ⟨k,rfl,q1⟩:=q1
 cases r1
 exact ⟨k,rfl,hq _ H1 _ S1 f1 s1 .bl q1⟩
def wIf (t:WT) (wa wb:WE):WE:=λσ S Q=>t σ S λc S1=>if c=true then wa σ S1 Q else wb σ S1 Q
theorem t4 {c:Expr}(hc:QT K X c ta) (ha:QE K X a wa) (hb:QE K X b wb):QE K X (.IfExp c a b pos) (wIf ta wa wb):=PE.of (xF hc ha hb) λσ H Q zz71=>by
 obtain ⟨S,σt,Qt,s,c,q,hq⟩:=zz71
 refine ⟨S,σt,_,s,c,q,λk H1 S1 f1 s1 q1=>?_⟩
 cases k with
 |true=>exact ⟨S1,σt,_,s1,c.fr f1,q1,λv H' t S' f=>hq v H' t S' (f1.trans f)⟩
 |false=>exact ⟨S1,σt,_,s1,c.fr f1,q1,λv H' t S' f=>hq v H' t S' (f1.trans f)⟩
def eK:WA:=λ_ S Q=>Q [] S
def t5 (wa:WE) (wr:WA):WA:=λσ S Q=>wa σ S λx S1=>wr σ S1 λxs S2=>Q (x::xs) S2
variable {es:List Expr}{wr:WA}
theorem ae:QA K X [] eK:=PA.of mf λσ H Q zz72=>by obtain ⟨S,σt,Qt,s,c,q,hq⟩:=zz72;exact hq [] H [] S .refl s .nil q
theorem ad (ha:QE K X e wa) (hr:QA K X es wr) (hs:starEach (e::es) X.env=(false,eval e X.env)::starEach es X.env:=by rfl):QA K X (e::es) (t5 wa wr):=PA.of (js ha hr hs) λσ H Q zz73=>by
 obtain ⟨S,σt,Qt,s,c,q,hq⟩:=zz73
 refine ⟨S,σt,_,s,c,q,λx H1 tx S1 f1 s1 r1 q1=>?_⟩
 exact ⟨S1,σt,_,s1,c.fr f1,q1,λvs H2 ts S2 f2 s2 r2 q2=>hq _ H2 _ S2 (f1.trans f2) s2 (.cons (r1.fr f2) r2) q2⟩
def uZ (wr:WA):WE:=λσ S Q=>wr σ S λts S1=>ts.length<=sizeLine/\Q (.tup ts) S1
theorem aU {x1}(h:QA K X es wr):QE K X (.Tuple es x1 pos) (uZ wr):=PE.of (B6 h) λσ H Q zz74=>by
 obtain ⟨S,σt,Qt,s,c,q,hq⟩:=zz74
 refine ⟨S,σt,_,s,c,q,λvs H1 ts S1 f1 s1 r1 q1=>?_⟩
 refine ⟨by rw [r1.length];exact q1.1,λp hp=>hq _ _ (.tup ts) S1 (f1.trans (Fr.new hp)) (s1.new hp) (.tup (s1.fresh hp) aL (r1.fr (Fr.new hp))) q1.2⟩
def u5 (wr:WA):WE:=λσ S Q=>wr σ S λts S1=>ts.length<=sizeLine/\Q (.lst ts) S1
def t6 (wr:WA):WE:=λσ S Q=>wr σ S λts S1=>ts.length<=sizeLine/\∀ p,S1 p=none->Q (.ref p) (put S1 p (.lst ts))
theorem bd (h:QA K X es wr):QE K X (.List es pos) (u5 wr):=PE.of (sh h) λσ H Q zz75=>by
 obtain ⟨S,σt,Qt,s,c,q,hq⟩:=zz75
 refine ⟨S,σt,_,s,c,q,λvs H1 ts S1 f1 s1 r1 q1=>?_⟩
 refine ⟨by rw [r1.length];exact q1.1,λp hp=>hq _ _ (.lst ts) S1 (f1.trans (Fr.new hp)) (s1.new hp) (.lst (s1.fresh hp) aL (r1.fr (Fr.new hp))) q1.2⟩
theorem mt (h:QA K X es wr):QE K X (.List es pos) (t6 wr):=PE.of (sh h) λσ H Q zz76=>by
 obtain ⟨S,σt,Qt,s,c,q,hq⟩:=zz76
 refine ⟨S,σt,_,s,c,q,λvs H1 ts S1 f1 s1 r1 q1=>?_⟩
 refine ⟨by rw [r1.length];exact q1.1,λp hp=>hq _ _ (.ref p) _ (f1.trans (Fr.newT hp)) (s1.newT hp (.lst aL (r1.fr (Fr.newT hp)))) .ref (q1.2 p (s1.fresh hp))⟩
end
section
variable {K:Fg}{X:Cx}{e:Expr}{we:WE}{st:Stmt}{rest:List Stmt}{w u:WS}{pos:Pos}
def t7:WS:=λD σ S=>D.nx σ S
def nK (w u:WS):WS:=λD σ S=>w { D with nx:=u D } σ S
theorem aB:QSs K X [] t7:=PSs.of zq λD σ H zz77=>by obtain ⟨S,σt,Dt,s,c,q,he⟩:=zz77;exact he.nx σ H σt S .refl s c q
theorem ak (h1:QS K X st w) (h2:QSs K X rest u):QSs K X (st::rest) (nK w u):=PSs.of (xG h1 h2) λD σ H ⟨S,σt,Dt,s,c,q,he⟩ =>
 ⟨S,σt,{ Dt with nx:=u Dt },s,c,q,⟨λ_ _ σt' S' f s' c' q'=>⟨S',σt',Dt,s',c',q',he.fr f⟩,he.rt,he.bk,he.ct⟩⟩
theorem ai (h1:QS K X st w):QSs K X [st] w:=zr h1
def t8 (we:WE):WS:=λD σ S=>we σ S λ_ S1=>D.nx σ S1
theorem bH (he:QE K X e we) (hs:swapsWith e none pos.line X.env=pure false:=by rfl):QS K X (.Expr e pos) (t8 we):=PS.of (zt he hs) λD σ H ⟨S,σt,Dt,s,c,q,he⟩ =>
 ⟨S,σt,_,s,c,q,λ_ H1 _ S1 f1 s1 _ q1=>he.nx σ H1 σt S1 f1 s1 (c.fr f1) q1⟩
def u6 (we:WE):WS:=λD σ S=>we σ S D.rt
theorem ax (he:QE K X e we):QS K X (.Return (some e) pos) (u6 we):=PS.of (BQ he) λD σ H zz78=>by obtain ⟨S,σt,Dt,s,c,q,he⟩:=zz78;exact ⟨S,σt,_,s,c,q,he.rt⟩
def va (t:WT) (w u:WS):WS:=λD σ S=>t σ S λb S1=>if b=true then w D σ S1 else u D σ S1
theorem aA {c:Expr}{a b:List Stmt}{t:WT}(hc:QT K X c t) (ha:QSs K X a w) (hb:QSs K X b u):QS K X (.If c a b pos) (va t w u):=PS.of (Et hc ha hb) λD σ H zz79=>by
 obtain ⟨S,σt,Dt,s,c,q,he⟩:=zz79
 refine ⟨S,σt,_,s,c,q,λk H1 S1 f1 s1 q1=>?_⟩
 cases k with
 |true=>exact ⟨S1,σt,Dt,s1,c.fr f1,q1,he.fr f1⟩
 |false=>exact ⟨S1,σt,Dt,s1,c.fr f1,q1,he.fr f1⟩
def sv:WS:=λ_ _ _=>False
theorem bL:QS K X st sv:=λ_ _ _ _ _ _ zz80=>by obtain ⟨_,_,_,_,_,q,_⟩:=zz80;exact q.elim
theorem ca {sts:List Stmt}:QSs K X sts sv:=λ_ _ _ _ _ _ zz81=>by obtain ⟨_,_,_,_,_,q,_⟩:=zz81;exact q.elim
abbrev WG:=T->StT->Sto->(StT->Sto->Prop)->Prop
abbrev WGs:=List T->StT->Sto->(StT->Sto->Prop)->Prop
def lG (K:Fg) (g:WG):TG:=λv σ H Q=>∃ S t σt Qt,SRp K H S/\Rp K H S t v/\Cov K H S σ σt/\g t σt S Qt/\∀ σ' H' σt' S',Fr H S H' S'->SRp K H' S'->Cov K H' S' σ' σt'->Qt σt' S'->Q σ' H'
def lGs (K:Fg) (g:WGs):TGs:=λvs σ H Q=>∃ S ts σt Qt,SRp K H S/\Rps K H S ts vs/\Cov K H S σ σt/\g ts σt S Qt/\∀ σ' H' σt' S',Fr H S H' S'->SRp K H' S'->Cov K H' S' σ' σt'->Qt σt' S'->Q σ' H'
def QG (K:Fg) (X:Cx) (tg:Expr) (g:WG):Prop:=PG X tg (lG K g)
def QGs (K:Fg) (X:Cx) (tg:List Expr) (g:WGs):Prop:=PGs X tg (lGs K g)
theorem PG.of {X:Cx}{e:Expr}{t t':TG}(h:PG X e t) (i:∀ v σ H Q,t' v σ H Q->t v σ H Q):PG X e t':=λpins s σ H v u Q I r q=>h pins s σ H v u Q I r (i v σ H Q q)
theorem PGs.of {X:Cx}{e:List Expr}{t t':TGs}(h:PGs X e t) (i:∀ v σ H Q,t' v σ H Q->t v σ H Q):PGs X e t':=λpins s σ H v u Q I r q=>h pins s σ H v u Q I r (i v σ H Q q)
def wgN (i:Nat):WG:=λt σ S Q=>Q (σ.set i (some t)) S
theorem z4 {i:Nat}{x:Str}(h:PG X (.Name x pos) (jS i)):QG K X (.Name x pos) (wgN i):=PG.of h λv σ H Q zz82=>by obtain ⟨S,t,σt,Qt,s,r,c,q,hq⟩:=zz82;exact hq _ H _ S .refl s (c.set r i) q
def t9:WGs:=λts σ S Q=>ts=[]/\Q σ S
def sx (g:WG) (h:WGs):WGs:=λts σ S Q=>∃ t r,ts=t::r/\g t σ S λσ' S'=>h r σ' S' Q
variable {tg:Expr}{tgs:List Expr}{g:WG}{gs:WGs}
theorem lJ:QGs K X [] t9:=PGs.of zw λv σ H Q zz83=>by
 obtain ⟨S,t,σt,Qt,s,r,c,⟨e,q⟩,hq⟩:=zz83
 subst e;cases r
 exact ⟨rfl,hq _ H _ S .refl s c q⟩
theorem eY (h1:QG K X tg g) (h2:QGs K X tgs gs) (h:∀ {t u},PG X tg t->PGs X tgs u->PGs X (tg::tgs) (tT t u)):QGs K X (tg::tgs) (sx g gs):=PGs.of (h h1 h2) λv σ H Q zz84=>by
 obtain ⟨S,t,σt,Qt,s,r,c,⟨y,ys,e,q⟩,hq⟩:=zz84
 subst e
 cases r with
 |cons r rs =>
  refine ⟨_,_,rfl,S,y,σt,_,s,r,c,q,λσ' H' σt' S' f s' c' q'=>?_⟩
  exact ⟨S',ys,σt',Qt,s',rs.fr f,c',q',λσ2 H2 σt2 S2 f2=>hq σ2 H2 σt2 S2 (f.trans f2)⟩
def ua (n:Nat) (g:WGs):WG:=λt σ S Q=>∃ ts,t=.tup ts/\ts.length=n/\g ts σ S Q
theorem mv {es:List Expr}{k n:Nat}(h:∀ {t},PGs X es t->PG X (.Tuple es k pos) (nG K n t)) (h1:QGs K X es gs):QG K X (.Tuple es k pos) (ua n gs):=PG.of (h h1) λv σ H Q zz85=>by
 obtain ⟨S,t,σt,Qt,s,r,c,⟨ts,e,l,q⟩,hq⟩:=zz85
 subst e
 cases r with
 |tup n' hp rs=>exact ⟨_,_,rfl,SqT.of hp,by rw [rs.length];exact l,S,ts,σt,Qt,s,rs,c,q,hq⟩
def iU (we:WE) (g:WG):WS:=λD σ S=>we σ S λt S1=>g t σ S1 D.nx
theorem z5 {D σ H}(h:lS K (iU we g) D σ H):iS (lE K we) (lG K g) D σ H:=by
 obtain ⟨S,σt,Dt,s,c,q,he⟩:=h
 refine ⟨S,σt,_,s,c,q,λv H1 t S1 f1 s1 r1 q1=>?_⟩
 exact ⟨S1,t,σt,_,s1,r1,c.fr f1,q1,λσ' H' σt' S' f=>he.nx σ' H' σt' S' (f1.trans f)⟩
theorem dU (h:∀ {t g},PE X e t->PG X tg g->PS X (.Assign [tg] e pos) (iS t g)) (he:QE K X e we) (hg:QG K X tg g):QS K X (.Assign [tg] e pos) (iU we g):=PS.of (h he hg) λ_ _ _ h=>z5 h
theorem aK {i:Nat}{x:Str}{pos':Pos}(hN:X.N.Nodup) (hi:X.N[i]?=some x) (hx:Loc X.env.scope x) (he:QE K X e we) (hs:swapsWith e (some (.Name x pos')) pos.line X.env=pure false:=by rfl)
  (hf:X.fn x=true\/X.env.scope.names.lookup x=some .local:=by first|exact .inl rfl|exact .inr rfl|assumption):QS K X (.Assign [.Name x pos'] e pos) (iU we (wgN i)):=PS.of (BS hN hi hx he hs hf) λD σ H h=>by
 obtain ⟨S,σt,Dt,s,c,q,he⟩:=h
 exact ⟨S,σt,_,s,c,q,λv H1 t S1 f1 s1 r1 q1=>he.nx _ H1 _ S1 f1 s1 ((c.fr f1).set r1 i) q1⟩
end
end T2
namespace T2
open PySem PySem.Spec PyProof.Rows L2
abbrev WSp:=List T->Sto->(T->Sto->Prop)->Prop
def lSp (K:Fg) (w:WSp):Sp:=λvs H Q _=>∃ S ts Qt,SRp K H S/\Rps K H S ts vs/\w ts S Qt/\Bh K H S Qt Q
def bI (N:List Str) (ts:List T):StT:=ts.map some++List.replicate (N.length - ts.length) none
theorem kL {K:Fg}{H:Hp}{S:Sto}{N:List Str}{ts:List T}{vs:List V}(r:Rps K H S ts vs):Cov K H S (L2.bT N vs) (bI N ts):=by
 have l:=r.length
 refine ⟨by unfold L2.bT bI;simp [l],λi t e=>?_⟩
 unfold bI at e
 by_cases hi:i<ts.length
 ·rw [List.getElem?_append_left (by simpa using hi),List.getElem?_map] at e
  cases q:ts[i]? with
  |none=>rw [q] at e;cases e
  |some a =>
   rw [q] at e;cases e
   obtain ⟨v,hv,rv⟩:=r.get q
   refine ⟨v,?_,rv⟩
   unfold L2.bT
   rw [List.getElem?_append_left (by simp;omega),List.getElem?_map,hv];rfl
 ·rw [List.getElem?_append_right (by simpa using hi),List.getElem?_replicate] at e
  split at e<;>cases e
def Fin (Q:T->Sto->Prop) (t:T) (S:Sto):Prop:=(∃ S0,Le S0 S/\Q t S0)\/∃ p ts S0,t=.ref p/\S p=some (.lst ts)/\Le S0 S/\S0 p=none/\Q (.lst ts) S0
theorem Fin.mk {Q:T->Sto->Prop}{t:T}{S:Sto}(h:Q t S):Fin Q t S:=.inl ⟨S,.refl,h⟩
theorem Fin.frz {Q:T->Sto->Prop}{p:Addr}{ts:List T}{S S0:Sto}(e:S p=some (.lst ts)) (l:Le S0 S) (n:S0 p=none) (h:Q (.lst ts) S0):Fin Q (.ref p) S:=.inr ⟨p,ts,S0,rfl,e,l,n,h⟩
theorem Fin.ends {K:Fg}{H H':Hp}{S S':Sto}{Qt:T->Sto->Prop}{Q:VK}(b:Bh K H S Qt Q){v:V}{t:T}(f:Fr H S H' S') (s:SRp K H' S') (r:Rp K H' S' t v) (q:Fin Qt t S'):Q v H':=by
 rcases q with ⟨S0,l,q⟩|⟨p,ts,S0,rfl,e,l,n,q⟩
 ·exact b v H' t S0 (f.trans (Fr.le l)) (s.le l) (r.fr (Fr.le l)) q
 ·cases r
  cases s p _ e with
  |lst hp rs=>exact b _ H' (.lst ts) S0 (f.trans (Fr.le l)) (s.le l) (.lst n hp (rs.fr (Fr.le l))) q
section
variable {P:Program}{w:World}{K:Fg}{mg:Str->Option Value}{base:Heap}
theorem a8 {x qual:Str}{st:Stmt}{f:Addr}{fd:FuncData}{N ps:List Str}{k:Nat}{wsp:WSp}(F:Fun K x qual st f fd) (Sc:FnScope N ps (ag st)) (len:∀ ts S Q,wsp ts S Q->ts.length=ps.length)
  (hbody:∀ (cdv:Value) (A:Around) (outer:List Env) (s:Shared) (H:Hp) (E:XK),Room k (A.deeper (envOfC qual (ag st) s.heap.objs.size f cdv)) ->
   ∃ u,QSs K (cA CX0 P w K mg base N qual (ag st) f cdv A outer s H E).nox (am st) u/\∀ ts S Q,wsp ts S Q->u { nx:=λ_ S'=>Fin Q .non S',rt:=Fin Q } (bI N ts) S):FnOk P w K mg base CX0 (k+1) f fd ps (lSp K wsp):=by
 refine Fun.ok F Sc (λvs H Q E ⟨S,ts,Qt,s,r,q,_⟩=>by rw [r.length];exact len _ _ _ q) λcdv A outer s H vs Q E hr ⟨S,ts,Qt,sr,r,q,b⟩=>?_
 obtain ⟨u,hu,hq⟩:=hbody cdv A outer s H E hr
 refine ⟨_,hu,S,bI N ts,_,sr,kL r,hq ts S Qt q,⟨λ_ H' _ S' f s' _ q'=>Fin.ends b f s' .non q',λv H' t S' f s' r' q'=>Fin.ends b f s' r' q',λ_ _ _ _ _ _ _ q'=>q'.elim,λ_ _ _ _ _ _ _ q'=>q'.elim⟩⟩
end
section
variable {K:Fg}{X:Cx}{k:Nat}{f C:Addr}{fd:FuncData}{ps:List Str}{wsp:WSp}{dts:List T}{dvs:List V}{ds:List Value}{x m:Str}{p pos apos:Pos}{e o:Expr}{es:List Expr}{wa:WE}{wr:WA}
def jW (wsp:WSp) (dts:List T) (wr:WA):WE:=λσ S Q=>wr σ S λts S1=>wsp (ts++dts) S1 Q
theorem x8 {σ H Q}(hd:∀ H S,Rps K H S dts dvs) (h:lE K (jW wsp dts wr) σ H Q):m7 (lSp K wsp) dvs E0 (lA K wr) σ H Q:=by
 obtain ⟨S,σt,Qt,s,c,q,hq⟩:=h
 refine ⟨S,σt,_,s,c,q,λvs H1 ts S1 f1 s1 r1 q1=>?_⟩
 exact ⟨S1,_,Qt,s1,r1.append (hd _ _),q1,λv H' t S' f=>hq v H' t S' (f1.trans f)⟩
theorem Cq (hd:∀ H S,Rps K H S dts dvs) (hp:PE X e (m7 (lSp K wsp) dvs E0 (lA K wr))):QE K X e (jW wsp dts wr):=PE.of hp λ_ _ _ h=>x8 hd h
def eB (G:Addr->Prop) (m:Str) (wsp:WSp) (dts:List T) (wa:WE) (wr:WA):WE:=λσ S Q=>wa σ S λx S1=>∃ a C fs,x=.ref a/\S1 a=some (.ins C fs)/\G C/\fs.lookup m=none/\wr σ S1 λts S2=>wsp (x::(ts++dts)) S2 Q
end
theorem cU {K:Fg}{H:Hp}{S:Sto}{m:Str}:∀ {fts:List (Str×T)}{fs:List (Str×V)},Paired (λ(p:Str×T) (q:Str×V)=>p.1=q.1/\Rp K H S p.2 q.2) fts fs->fts.lookup m=none->fs.lookup m=none:=by
 intro kts kvs pr
 induction pr with
 |nil=>intro _;exact rfl
 |@cons p q2 l l' er t ih =>
  intro h
  obtain ⟨a,b⟩:=p;obtain ⟨c,d⟩:=q2;obtain ⟨e,r⟩:=er
  simp only at e;subst e
  rw [List.lookup_cons] at h ⊢
  by_cases z:(m==a)=true
  ·rw [z] at h;cases h
  ·simp only [Bool.not_eq_true] at z
   rw [z] at h ⊢
   exact ih h
theorem kM {K:Fg}{H:Hp}{S:Sto}{m:Str}{t:T}:∀ {fts:List (Str×T)}{fs:List (Str×V)},Paired (λ(p:Str×T) (q:Str×V)=>p.1=q.1/\Rp K H S p.2 q.2) fts fs->fts.lookup m=some t->∃ v,fs.lookup m=some v/\Rp K H S t v:=by
 intro kts kvs pr
 induction pr with
 |nil=>intro h;cases h
 |@cons p q2 l l' er ps ih =>
  intro h
  obtain ⟨a,b⟩:=p;obtain ⟨c,d⟩:=q2;obtain ⟨e,r⟩:=er
  simp only at e;subst e
  rw [List.lookup_cons] at h ⊢
  by_cases z:(m==a)=true
  ·rw [z] at h ⊢;cases h;exact ⟨d,rfl,r⟩
  ·simp only [Bool.not_eq_true] at z
   rw [z] at h ⊢
   exact ih h
def bZ (f:Str) (v:T):List (Str×T)->List (Str×T)
 |[]=>[(f,v)]
 |(g,u)::r=>if g=f then (g,v)::r else (g,u)::bZ f v r
theorem wf {K:Fg}{H:Hp}{S:Sto}{f:Str}{t:T}{v:V}(r:Rp K H S t v):∀ {fts:List (Str×T)}{fs:List (Str×V)},Paired (λ(p:Str×T) (q:Str×V)=>p.1=q.1/\Rp K H S p.2 q.2) fts fs ->
  Paired (λ(p:Str×T) (q:Str×V)=>p.1=q.1/\Rp K H S p.2 q.2) (bZ f t fts) (bo f v fs):=by
 intro kts kvs pr
 induction pr with
 |nil=>exact .cons ⟨rfl,r⟩ .nil
 |@cons p q2 l l' er ps ih =>
  obtain ⟨a,b⟩:=p;obtain ⟨c,d⟩:=q2;obtain ⟨e,q⟩:=er
  simp only at e;subst e
  unfold bZ bo
  by_cases z:a=f
  ·rw [if_pos z,if_pos z];exact .cons ⟨rfl,r⟩ ps
  ·rw [if_neg z,if_neg z];exact .cons ⟨rfl,q⟩ (ih)
theorem Paired.len {α β:Type}{F:α->β->Prop}:∀ {l:List α}{l':List β},Paired F l l'->l'.length=l.length
 |_,_,.nil=>rfl
 |_,_,.cons _ t=>by simp [Paired.len t]
section
variable {K:Fg}{X:Cx}{CX:CXT}{k:Nat}{f:Addr}{fd:FuncData}{ps:List Str}{sp:Sp}{wsp:WSp}{dts:List T}{dvs:List V}{ds:List Value}{E:XK}{x m:Str}{p pos apos:Pos}{e o:Expr}{es:List Expr}{wa:WE}{wr:WA}{ta:TE}{t:TA}{G:Addr->Prop}
def gO (G:Addr->Prop) (m:Str) (sp:Sp) (dvs:List V) (E:XK) (ta:TE) (t:TA):TE:=λσ H Q=>ta σ H λx H1=>∃ a C dx fs,x=.ref a/\H1 a=some (.ins C dx fs)/\G C/\fs.lookup m=none /\
 t σ H1 λvs H2=>sp (x::(vs++dvs)) H2 Q E
theorem qr {pl:Sem Bool}(he:PE X o ta) (hG:∀ C,G C->Cls X.K C/\Meth X.K C m f) (F:FnOk X.prog X.w X.K X.mg X.base CX k f fd ps sp) (hr:Room k X.A) (hb:aj X.K fd ps ds) (hd:ap dvs ds) (hx:eg CX X E) (ha:PA X (e::es) t)
  (hst:starEach (e::es) X.env=(false,eval e X.env)::starEach es X.env:=by rfl) (hpl:(backTo pos (starEach es X.env)).any (·.1)=false:=by rfl)
  (ht:eval (.Call (.Attribute o m apos) (e::es) [] pos) X.env=(do
   let ov <- eval o X.env
   standAt apos.atName
   let (f,first) <- holding [ov] (getMethod ov m pl)
   callWith pos f first (backTo pos (starEach (e::es) X.env)) (backToKw pos (keywordEach [] X.env))):=by rfl) :
  PE X (.Call (.Attribute o m apos) (e::es) [] pos) (gO G m sp dvs E ta t):=by
 intro pins s σ H Q I h
 refine PySem.W.methodCall_KW (pl:=pl) (thn (he pins s σ H _ I h) λu s1 ⟨x,H1,I1,rx,a,C,dx,fs,ex,ea,g,l,q⟩=>?_) ht
 subst ex
 obtain rfl:u=Value.ref a:=rx
 obtain ⟨c,hm⟩:=hG C g
 refine jn I1 ea c hm l ?_
 refine PySem.W.callWith_K (first:=[.ref a]) (h₀:=X.base) I.ok.mod.kin hm.kp (thn (ha pos pins s1 σ H1 _ I1 q) λus s2 ⟨vs,H2,I2,r,q2⟩=>⟨I2.kIn,?_⟩) hst hpl
 exact mh (us:=.ref a::us) (vs:=.ref a::vs) F hr hb hd hx I2 (.cons rfl r) q2
theorem w4 {pl:Sem Bool}(he:PE X o ta) (hG:∀ C,G C->Cls X.K C/\Meth X.K C m f) (F:FnOk X.prog X.w X.K X.mg X.base CX k f fd ps sp) (hr:Room k X.A) (hb:aj X.K fd ps ds) (hd:ap dvs ds) (hx:eg CX X E)
  (ht:eval (.Call (.Attribute o m apos) [] [] pos) X.env=(do
   let ov <- eval o X.env
   standAt apos.atName
   let (f,first) <- holding [ov] (getMethod ov m pl)
   callWith pos f first (backTo pos (starEach [] X.env)) (backToKw pos (keywordEach [] X.env))):=by rfl) :
  PE X (.Call (.Attribute o m apos) [] [] pos) (gO G m sp dvs E ta dY):=by
 intro pins s σ H Q I h
 refine PySem.W.methodCall_KW (pl:=pl) (thn (he pins s σ H _ I h) λu s1 ⟨x,H1,I1,rx,a,C,dx,fs,ex,ea,g,l,q⟩=>?_) ht
 subst ex
 obtain rfl:u=Value.ref a:=rx
 obtain ⟨c,hm⟩:=hG C g
 refine jn I1 ea c hm l ?_
 exact PySem.W.callWith_K0 (first:=[.ref a]) I1.kIn hm.kp (mh (us:=[.ref a]) (vs:=[.ref a]) F hr hb hd hx I1 (.cons rfl .nil) q)
theorem x9 {σ H Q}(hd:∀ H S,Rps K H S dts dvs) (h:lE K (eB G m wsp dts wa wr) σ H Q):gO G m (lSp K wsp) dvs E0 (lE K wa) (lA K wr) σ H Q:=by
 obtain ⟨S,σt,Qt,s,c,q,hq⟩:=h
 refine ⟨S,σt,_,s,c,q,λx H1 tx S1 f1 s1 r1 q1=>?_⟩
 obtain ⟨a,C,fs,rfl,ea,g,l,q1⟩:=q1
 cases r1
 cases s1 a _ ea with
 |ins eh pr =>
  refine ⟨a,C,_,_,rfl,eh,g,cU pr l,S1,σt,_,s1,c.fr f1,q1,λvs H2 ts S2 f2 s2 r2 q2=>?_⟩
  exact ⟨S2,_,Qt,s2,.cons .ref (r2.append (hd _ _)),q2,λv H' t S' f=>hq v H' t S' ((f1.trans f2).trans f)⟩
theorem sy (hd:∀ H S,Rps K H S dts dvs) (hp:PE X e (gO G m (lSp K wsp) dvs E0 (lE K wa) (lA K wr))):QE K X e (eB G m wsp dts wa wr):=PE.of hp λ_ _ _ h=>x9 hd h
theorem w5 {σ H Q}(hd:∀ H S,Rps K H S dts dvs) (h:lE K (eB G m wsp dts wa eK) σ H Q):gO G m (lSp K wsp) dvs E0 (lE K wa) dY σ H Q:=by
 obtain ⟨S,σt,Qt,s,c,q,hq⟩:=h
 refine ⟨S,σt,_,s,c,q,λx H1 tx S1 f1 s1 r1 q1=>?_⟩
 obtain ⟨a,C,fs,rfl,ea,g,l,q1⟩:=q1
 cases r1
 cases s1 a _ ea with
 |ins eh pr =>
  refine ⟨a,C,_,_,rfl,eh,g,cU pr l,?_⟩
  exact ⟨S1,_,Qt,s1,.cons .ref (Rps.append .nil (hd _ _)),q1,λv H' t S' f=>hq v H' t S' (f1.trans f)⟩
theorem z6 (hd:∀ H S,Rps K H S dts dvs) (hp:PE X e (gO G m (lSp K wsp) dvs E0 (lE K wa) dY)):QE K X e (eB G m wsp dts wa eK):=PE.of hp λ_ _ _ h=>w5 hd h
def iI (C:Addr) (wsp:WSp) (dts:List T) (wr:WA):WE:=λσ S Q=>wr σ S λts S1=>∀ x,S1 x=none->wsp (.ref x::(ts++dts)) (put S1 x (.ins C [])) (λt S2=>t=.non/\Q (.ref x) S2)
theorem lK {H:Hp}{S:Sto}{C x dx:Addr}(hx:H x=none) (hd:H dx=none):Fr H S (upd (upd H dx (.own x)) x (.ins C dx [])) (put S x (.ins C [])):=λa o e n =>
 ⟨by rw [aE (bv e hx),aE (bv e hd)];exact e,by rw [aD (bv e hx)];exact n⟩
theorem ya {H:Hp}{S:Sto}{C x dx:Addr}(s:SRp K H S) (hx:H x=none) (hd:H dx=none):SRp K (upd (upd H dx (.own x)) x (.ins C dx [])) (put S x (.ins C [])):=λa o e=>by
 by_cases ha:a=x
 ·subst ha;rw [aJ] at e;cases e;exact .ins aL .nil
 ·rw [aD ha] at e
  obtain ⟨u,hu⟩:=(s a o e).some
  exact (s a o e).fr (lK hx hd) (by rw [aE ha,aE (bv hu hd)])
theorem qV {C:Addr}{S:Sto}{H:Hp}{ts:List T}{vs:List V}{Qt:T->Sto->Prop}{Q:VK}(hd:∀ H S,Rps K H S dts dvs) (s:SRp K H S) (r:Rps K H S ts vs) (b:Bh K H S Qt Q)
  (q:∀ x,S x=none->wsp (.ref x::(ts++dts)) (put S x (.ins C [])) (λt S2=>t=.non/\Qt (.ref x) S2)) (x dx:Addr) (hx:H x=none) (hdx:H dx=none) :
  lSp K wsp (.ref x::(vs++dvs)) (upd (upd H dx (.own x)) x (.ins C dx [])) (λv H2=>v=.non/\Q (.ref x) H2) E0:=by
 refine ⟨_,_,_,ya s hx hdx,.cons .ref ((r.fr (lK hx hdx)).append (hd _ _)),q x (s.fresh hx),λv H' t S' f s' r' q'=>?_⟩
 obtain ⟨rfl,q'⟩:=q'
 cases r'
 exact ⟨rfl,b _ H' _ S' ((lK hx hdx).trans f) s' .ref q'⟩
theorem Cr {C:Addr}(hd:∀ H S,Rps K H S dts dvs) (hp:PE X e (jU C (lSp K wsp) dvs E0 (lA K wr))):QE K X e (iI C wsp dts wr):=PE.of hp λσ H Q zz86=>by
 obtain ⟨S,σt,Qt,s,c,q,hq⟩:=zz86
 refine ⟨S,σt,_,s,c,q,λvs H1 ts S1 f1 s1 r1 q1 x dx hx hdx _=>?_⟩
 exact qV hd s1 r1 (λv H' t S' f=>hq v H' t S' (f1.trans f)) q1 x dx hx hdx
theorem z7 {C:Addr}(hd:∀ H S,Rps K H S dts dvs) (hp:PE X e (jU C (lSp K wsp) dvs E0 dY)):QE K X e (iI C wsp dts eK):=PE.of hp λσ H Q ⟨S,σt,Qt,s,c,q,hq⟩=>λx dx hx hdx _ =>
 qV hd s .nil hq q x dx hx hdx
def nM (G:Addr->Prop) (wa:WE) (f:Str):WE:=λσ S Q=>wa σ S λx S1=>∃ a C fs v,x=.ref a/\S1 a=some (.ins C fs)/\G C/\fs.lookup f=some v/\Q v S1
theorem ER {f:Str}(hK:X.K=K) (hG:∀ C,G C->Cls K C/\aN K C f) (he:QE K X o wa) (hb:attributeBase o f X.env (eval o X.env)=eval o X.env):QE K X (.Attribute o f pos) (nM G wa f):=by
 subst hK
 refine PE.of (B3 he hb) λσ H Q zz87=>?_
 obtain ⟨S,σt,Qt,s,c,q,hq⟩:=zz87
 refine ⟨S,σt,_,s,c,q,λx H1 tx S1 f1 s1 r1 q1=>?_⟩
 obtain ⟨a,C,fs,v,rfl,ea,g,l,q1⟩:=q1
 cases r1
 cases s1 a _ ea with
 |ins eh pr =>
  obtain ⟨u,lu,ru⟩:=kM pr l
  exact ⟨a,C,_,_,u,rfl,eh,(hG C g).1,(hG C g).2,lu,hq u H1 v S1 f1 s1 ru q1⟩
def ub (G:Addr->Prop) (wa wv:WE) (f:Str):WS:=λD σ S=>wv σ S λy S1=>wa σ S1 λx S2=>∃ a C fs,x=.ref a/\S2 a=some (.ins C fs)/\G C/\fs.length<1000/\D.nx σ (put S2 a (.ins C (bZ f y fs)))
theorem kN {H:Hp}{S:Sto}{a C dx:Addr}{fts:List (Str×T)}{fs:List (Str×V)}{f:Str}{t:T}{v:V}(s:SRp K H S) (ea:S a=some (.ins C fts)) (eh:H a=some (.ins C dx fs))
  (pr:Paired (λ(p:Str×T) (q:Str×V)=>p.1=q.1/\Rp K H S p.2 q.2) fts fs) (r:Rp K H S t v):Fr H S (upd H a (.ins C dx (bo f v fs))) (put S a (.ins C (bZ f t fts)))/\SRp K (upd H a (.ins C dx (bo f v fs))) (put S a (.ins C (bZ f t fts))):=by
 have hn:S a≠none:=by rw [ea];simp
 refine ⟨Fr.write hn,s.write hn (.ins aL ?_)⟩
 exact Paired.mapP (wf r pr) λ_ _ z=>⟨z.1,z.2.fr (Fr.write hn)⟩
theorem bQ {f:Str}{wv:WE}{value:Expr}{pos':Pos}(hK:X.K=K) (hG:∀ C,G C->Cls K C/\aN K C f) (ha:QE K X o wa) (hv:QE K X value wv) (hs:swapsWith value (some (.Attribute o f pos')) pos.line X.env=pure false:=by rfl) :
  QS K X (.Assign [.Attribute o f pos'] value pos) (ub G wa wv f):=by
 subst hK
 refine PS.of (B4 ha hv hs) λD σ H zz88=>?_
 obtain ⟨S,σt,Dt,s,c,q,he⟩:=zz88
 refine ⟨S,σt,_,s,c,q,λy H1 ty S1 f1 s1 r1 q1=>?_⟩
 refine ⟨S1,σt,_,s1,c.fr f1,q1,λx H2 tx S2 f2 s2 r2 q2=>?_⟩
 obtain ⟨a,C,fs,rfl,ea,g,l,q2⟩:=q2
 cases r2
 cases s2 a _ ea with
 |ins eh pr =>
  obtain ⟨fw,sw⟩:=kN (f:=f) s2 ea eh pr (r1.fr f2)
  exact ⟨a,C,_,_,rfl,eh,(hG C g).1,(hG C g).2,by rw [Paired.len pr];exact l,he.nx _ _ σt _ ((f1.trans f2).trans fw) sw (c.fr ((f1.trans f2).trans fw)) q2⟩
def qt (G:Addr->Prop) (wa wv:WE) (f:Str):WS:=λD σ S=>wa σ S λx S1=>∃ a C fs i,x=.ref a/\S1 a=some (.ins C fs)/\G C/\fs.lookup f=some (.int i) /\
 wv σ S1 λy S2=>∃ j fs',y=.int j/\S2 a=some (.ins C fs')/\fs'.length<1000/\D.nx σ (put S2 a (.ins C (bZ f (.int (i+j)) fs')))
theorem p7 {f:Str}{wv:WE}{value:Expr}{tpos:Pos}(hK:X.K=K) (hG:∀ C,G C->Cls K C/\aN K C f) (ha:QE K X o wa) (hv:QE K X value wv):QS K X (.AugAssign (.Attribute o f tpos) .Add value pos) (qt G wa wv f):=by
 subst hK
 refine PS.of (pO ha hv B5) λD σ H zz89=>?_
 obtain ⟨S,σt,Dt,s,c,q,he⟩:=zz89
 refine ⟨S,σt,_,s,c,q,λx H1 tx S1 f1 s1 r1 q1=>?_⟩
 obtain ⟨a,C,fs,i,rfl,ea,g,l,q1⟩:=q1
 cases r1
 cases s1 a _ ea with
 |ins eh pr =>
  obtain ⟨u,lu,ru⟩:=kM pr l
  cases ru
  refine ⟨a,C,_,_,_,rfl,eh,(hG C g).1,(hG C g).2,lu,S1,σt,_,s1,c.fr f1,q1,λy H2 ty S2 f2 s2 r2 q2=>?_⟩
  obtain ⟨j,fs',rfl,ea2,l2,q2⟩:=q2
  cases r2
  cases s2 a _ ea2 with
  |ins eh2 pr2 =>
   obtain ⟨fw,sw⟩:=kN (f:=f) (t:=.int (i+j)) (v:=.int (i+j)) s2 ea2 eh2 pr2 .int
   exact ⟨i,j,rfl,rfl,_,_,eh2,by rw [Paired.len pr2];exact l2,he.nx _ _ σt _ ((f1.trans f2).trans fw) sw (c.fr ((f1.trans f2).trans fw)) q2⟩
end
def aX (S:Sto):T->Option (List T)
 |.lst ts=>some ts
 |.scr ns=>some (ns.map T.int)
 |.ref a=>match S a with
  |some (.lst ts)=>some ts
  |_=>none
 |_=>none
theorem ik {S:Sto}{p:Addr}{ts:List T}(e:S p=some (.lst ts)):aX S (.ref p)=some ts:=by delta aX;dsimp only;rw [e]
def cz (S:Sto):T->Option (List T)
 |.lst ts=>some ts
 |.ref a=>match S a with
  |some (.lst ts)=>some ts
  |_=>none
 |_=>none
theorem jv {K H S t v ts}(s:SRp K H S) (r:Rp K H S t v) (e:cz S t=some ts):∃ p vs,v=.ref p/\H p=some (.lst vs)/\Rps K H S ts vs:=by
 cases r with
 |lst n h q=>cases e;exact ⟨_,_,rfl,h,q⟩
 |ref =>
  rename_i a
  delta cz at e
  dsimp only at e
  cases q:S a with
  |none=>rw [q] at e;cases e
  |some o =>
   rw [q] at e
   cases o with
   |lst us=>cases e;cases s a _ q with
    |lst h rs=>exact ⟨a,_,rfl,h,rs⟩
   |_=>cases e
 |_=>cases e
theorem ci {K H S t v ts}(s:SRp K H S) (r:Rp K H S t v) (e:aX S t=some ts):∃ p vs,v=.ref p/\SqL K H p vs/\Rps K H S ts vs:=by
 cases r with
 |scr h=>cases e;exact ⟨_,_,rfl,h.sq,Rps.ints⟩
 |lst n h q=>cases e;exact ⟨_,_,rfl,SqL.of h,q⟩
 |ref =>
  obtain ⟨p,vs,e1,e2,e3⟩:=jv s (Rp.ref (K:=K) (H:=H) (S:=S)) (show cz S (.ref _)=some ts from e)
  exact ⟨p,vs,e1,SqL.of e2,e3⟩
 |_=>cases e
def a9 (tr:Bool) (ts:List T) (S:Sto) (Q:T->Sto->Prop):Prop:=match tr with
 |false=>Q (.lst ts) S
 |true=>∀ p,S p=none->Q (.ref p) (put S p (.lst ts))
theorem fe {K H S ts vs tr Qt}{Q:VK}(s:SRp K H S) (r:Rps K H S ts vs) (n:a9 tr ts S Qt) (b:Bh K H S Qt Q):∀ p,H p=none->Q (.ref p) (upd H p (.lst vs)):=λp hp=>by
 cases tr with
 |false=>exact b _ _ (.lst ts) S (Fr.new hp) (s.new hp) (.lst (s.fresh hp) aL (r.fr (Fr.new hp))) n
 |true=>exact b _ _ (.ref p) _ (Fr.newT hp) (s.newT hp (.lst aL (r.fr (Fr.newT hp)))) .ref (n p (s.fresh hp))
section
variable {K:Fg}{X:Cx}
def gI (C:Int->Int->Prop) (f:Int->Int->T):G2:=λx y S Q=>match x,y with
 |.int i,.int j=>C i j/\Q (f i j) S
 |_,_=>False
theorem jX {f:Value->Value->Sem Value}{C:Int->Int->Prop}{g:Int->Int->Int}(h:OpR X f (rI C λi j=>.int (g i j))):OpR X f (l2 K (gI C λi j=>.int (g i j))):=by
 rintro pins s σ H x y v u Q I rx ry ⟨S,tx,ty,Qt,sr,hx,hy,hg,b⟩
 cases hx<;>first|exact hg.elim|skip
 cases hy<;>first|exact hg.elim|skip
 exact h pins s σ H _ _ v u Q I rx ry ⟨_,_,rfl,rfl,hg.1,b _ H _ S .refl sr .int hg.2⟩
theorem Ct {f:Value->Value->Sem Value}{g:Int->Int->Int}(h:OpR X f (rI0 λi j=>.int (g i j))):OpR X f (l2 K (gI (λ_ _=>True) λi j=>.int (g i j))):=by
 rintro pins s σ H x y v u Q I rx ry ⟨S,tx,ty,Qt,sr,hx,hy,hg,b⟩
 cases hx<;>first|exact hg.elim|skip
 cases hy<;>first|exact hg.elim|skip
 exact h pins s σ H _ _ v u Q I rx ry ⟨_,_,rfl,rfl,b _ H _ S .refl sr .int hg.2⟩
def gY:G2:=gI (λ_ _=>True) λi j=>.int (i - j)
def vb:G2:=gI (λ_ j=>0<j/\j<18446744073709551616) λi j=>.int (i / j)
def vc:G2:=gI (λ_ j=>0<j) λi j=>.int (i % j)
def vd:G2:=gI uP λi j=>.int (i ^ j.toNat)
def vf:G2:=gI (λ_ j=>0<=j) λi j=>.int (i / 2 ^ j.toNat)
theorem gS:OpR X (binaryOp .Sub) (l2 K gY):=Ct BV
theorem nj:OpR X (binaryOp .FloorDiv) (l2 K vb):=jX xS
theorem dW:OpR X (binaryOp .Mod) (l2 K vc):=jX BX
theorem nr:OpR X (binaryOp .Pow) (l2 K vd):=jX BY
theorem ES:OpR X (binaryOp .RShift) (l2 K vf):=jX BZ
def km (tr:Bool):G2:=λx y S Q=>match x,y with
 |.int i,.int j=>Q (.int (i+j)) S
 |.str a,.str c=>a.length+c.length<=sizeLine/\Q (.str (a++c)) S
 |x,y=>∃ ts us,cz S x=some ts/\cz S y=some us/\ts.length+us.length<=sizeLine/\a9 tr (ts++us) S Q
theorem bn (tr:Bool):OpR X (binaryOp .Add) (l2 K (km tr)):=by
 rintro pins s σ H x y v u Q I rx ry ⟨S,tx,ty,Qt,sr,hx,hy,hg,b⟩
 have lists:(∃ ts us,cz S tx=some ts/\cz S ty=some us/\ts.length+us.length<=sizeLine/\a9 tr (ts++us) S Qt)->wpAny (model X.prog X.w) X.A (binaryOp .Add v u) (EP X pins σ Q) X.xe s:=by
  rintro ⟨ts,us,e1,e2,hz,n⟩
  obtain ⟨p,vs,rfl,h1,r1⟩:=jv sr hx e1
  obtain ⟨q,ws,rfl,h2,r2⟩:=jv sr hy e2
  exact Cb pins s σ H _ _ v u Q I rx ry ⟨p,q,vs,ws,rfl,rfl,h1,h2,by rw [r1.length,r2.length];exact hz,fe sr (r1.append r2) n b⟩
 cases tx with
 |int i =>
  cases ty with
  |int j=>cases hx;cases hy;exact BU pins s σ H _ _ v u Q I rx ry ⟨i,j,rfl,rfl,b _ H _ S .refl sr .int hg⟩
  |_=>exact lists hg
 |str a =>
  cases ty with
  |str c=>cases hx;cases hy;exact v3 pins s σ H _ _ v u Q I rx ry ⟨a,c,rfl,rfl,hg.1,b _ H _ S .refl sr .str hg.2⟩
  |_=>exact lists hg
 |_=>exact lists hg
def vg (tr:Bool):G2:=λx y S Q=>match x,y with
 |.int i,.int j=>iT i j/\Q (.int (i * j)) S
 |x,.int k=>∃ ts,cz S x=some ts /\ -(2 ^ 63)<=k/\k<2 ^ 63/\ts.length * k.toNat<=sizeLine/\a9 tr (List.replicate k.toNat ts).flatten S Q
 |_,_=>False
theorem Rps.rep {H S ts vs}(r:Rps K H S ts vs):∀ n:Nat,Rps K H S (List.replicate n ts).flatten (List.replicate n vs).flatten
 |0=>.nil
 |n+1=>by simp only [List.replicate_succ,List.flatten_cons];exact r.append (Rps.rep r n)
theorem gU (tr:Bool):OpR X (binaryOp .Mult) (l2 K (vg tr)):=by
 rintro pins s σ H x y v u Q I rx ry ⟨S,tx,ty,Qt,sr,hx,hy,hg,b⟩
 have lists:∀ k,ty=.int k->(∃ ts,cz S tx=some ts /\ -(2 ^ 63)<=k/\k<2 ^ 63/\ts.length * k.toNat<=sizeLine/\a9 tr (List.replicate k.toNat ts).flatten S Qt)->wpAny (model X.prog X.w) X.A (binaryOp .Mult v u) (EP X pins σ Q) X.xe s:=by
  rintro k rfl ⟨ts,e1,k1,k2,hz,n⟩
  obtain ⟨p,vs,rfl,h1,r1⟩:=jv sr hx e1
  cases hy
  exact Cc pins s σ H _ _ v u Q I rx ry ⟨p,k,vs,rfl,rfl,h1,k1,k2,by rw [r1.length];exact hz,fe sr (r1.rep _) n b⟩
 cases ty with
 |int k =>
  cases tx with
  |int i=>cases hx;cases hy;exact BW pins s σ H _ _ v u Q I rx ry ⟨i,k,rfl,rfl,hg.1,b _ H _ S .refl sr .int hg.2⟩
  |_=>exact lists k rfl hg
 |_=>cases tx<;>exact hg.elim
mutual
def cC:T->Option PyData
 |.non=>some .none
 |.bl b=>some (.bool b)
 |.int i=>some (.int i)
 |.str x=>some (.str x)
 |.tup ts=>(bC ts).map .tuple
 |.lst ts=>(bC ts).map .list
 |.scr ns=>some (.list (ns.map .int))
 |_=>none
def bC:List T->Option (List PyData)
 |[]=>some []
 |t::ts=>match cC t,bC ts with
  |some d,some ds=>some (d::ds)
  |_,_=>none
end
def d3 (S:Sto) (t:T):Option PyData:=match t with
 |.ref a=>match S a with
  |some (.lst ts)=>(bC ts).map .list
  |_=>none
 |t=>cC t
theorem qv {ts:List T}:cC (.tup ts)=(bC ts).map .tuple:=rfl
theorem qw {ts:List T}:cC (.lst ts)=(bC ts).map .list:=rfl
theorem qW {t:T}{ts:List T}:bC (t::ts)=(match cC t,bC ts with|some d,some ds=>some (d::ds)|_,_=>none):=rfl
theorem jw {t:T}{ts:List T}{d:PyData}{ds:List PyData}(h1:cC t=some d) (h2:bC ts=some ds):bC (t::ts)=some (d::ds):=by rw [qW,h1,h2]
theorem z8 {t:T}{ts:List T}{es:List PyData}(e:bC (t::ts)=some es):∃ d ds,cC t=some d/\bC ts=some ds/\es=d::ds:=by
 rw [qW] at e
 cases h1:cC t with
 |none=>rw [h1] at e;cases e
 |some d =>
  cases h2:bC ts with
  |none=>rw [h1,h2] at e;cases e
  |some dl=>rw [h1,h2] at e;cases e;exact ⟨d,dl,rfl,rfl,rfl⟩
theorem yb {H:Hp}{ns:List Int}:DatVs K H (ns.map V.int) (ns.map PyData.int):=by
 induction ns with
 |nil=>exact .nil
 |cons a l ih=>exact .cons (.int a) ih
mutual
theorem lL {H S}:∀ {t v d},Rp K H S t v->cC t=some d->DatV K H v d
 |_,_,_,.non,e=>by cases e;exact .non
 |_,_,_,.bl,e=>by cases e;exact .bl _
 |_,_,_,.int,e=>by cases e;exact .int _
 |_,_,_,.str,e=>by cases e;exact .str _
 |_,_,_,.ty,e=>by cases e
 |_,_,_,.ref,e=>by cases e
 |_,_,_,.tup n h r,e=>by
  simp only [qv,qw,Option.map_eq_some_iff] at e
  obtain ⟨ds,e,rfl⟩:=e
  exact .tup (SqT.of h) (jp r e)
 |_,_,_,.lst n h r,e=>by
  simp only [qv,qw,Option.map_eq_some_iff] at e
  obtain ⟨ds,e,rfl⟩:=e
  exact .lst (SqL.of h) (jp r e)
 |_,_,_,.scr h,e=>by cases e;exact .lst h.sq yb
theorem jp {H S}:∀ {ts vs ds},Rps K H S ts vs->bC ts=some ds->DatVs K H vs ds
 |_,_,_,.nil,e=>by cases e;exact .nil
 |_,_,_,.cons (t:=t) (ts:=ts) a r,e=>by
  obtain ⟨d,dl,h1,h2,rfl⟩:=z8 e
  exact .cons (lL a h1) (jp r h2)
end
theorem jx {H S t v d}(s:SRp K H S) (r:Rp K H S t v) (e:d3 S t=some d):DatV K H v d:=by
 cases t with
 |ref a =>
  cases r
  delta d3 at e
  dsimp only at e
  cases q:S a with
  |none=>rw [q] at e;cases e
  |some o =>
   rw [q] at e
   cases o with
   |lst us =>
    simp only [Option.map_eq_some_iff] at e
    obtain ⟨ds,e,rfl⟩:=e
    cases s a _ q with
    |lst h rs=>exact .lst (SqL.of h) (jp rs e)
   |_=>cases e
 |_=>exact lL r e
def gEq (neg:Bool):G2:=λx y S Q=>match x,y with
 |.int i,.int j=>Q (.bl (neg ^^ decide (i=j))) S
 |.str i,.str j=>Q (.bl (neg ^^ decide (i=j))) S
 |.bl i,.bl j=>Q (.bl (neg ^^ decide (i=j))) S
 |x,y=>∃ dx dy,d3 S x=some dx/\d3 S y=some dy/\dx.canLay0=true/\dy.canLay0=true/\min dx.depth dy.depth<=64/\Q (.bl (neg ^^ PyData.eqv dx dy)) S
theorem aG (hK:X.K=K) (hu:X.A.units+64<cLine):OpR X (compareOp .Eq) (l2 K (gEq false)):=by
 subst hK
 rintro pins s σ H x y v u Q I rx ry ⟨S,tx,ty,Qt,sr,hx,hy,hg,b⟩
 have deep:(∃ dx dy,d3 S tx=some dx/\d3 S ty=some dy/\dx.canLay0=true/\dy.canLay0=true/\min dx.depth dy.depth<=64/\Qt (.bl (false ^^ PyData.eqv dx dy)) S)->wpAny (model X.prog X.w) X.A (compareOp .Eq v u) (EP X pins σ Q) X.xe s:=by
  rintro ⟨dx,dy,e1,e2,c1,c2,hd,q⟩
  exact Ce hu pins s σ H _ _ v u Q I rx ry ⟨dx,dy,jx sr hx e1,jx sr hy e2,c1,c2,hd,b _ H _ S .refl sr .bl q⟩
 cases tx with
 |int i =>
  cases ty with
  |int j=>cases hx;cases hy;exact mZ pins s σ H _ _ v u Q I rx ry ⟨rfl,b _ H _ S .refl sr .bl (by have hg:Qt (.bl (false ^^ decide (i=j))) S:=hg;simpa using hg)⟩
  |_=>exact deep hg
 |str i =>
  cases ty with
  |str j=>cases hx;cases hy;exact mZ pins s σ H _ _ v u Q I rx ry ⟨rfl,b _ H _ S .refl sr .bl (by have hg:Qt (.bl (false ^^ decide (i=j))) S:=hg;simpa using hg)⟩
  |_=>exact deep hg
 |bl i =>
  cases ty with
  |bl j=>cases hx;cases hy;exact mZ pins s σ H _ _ v u Q I rx ry ⟨rfl,b _ H _ S .refl sr .bl (by have hg:Qt (.bl (false ^^ decide (i=j))) S:=hg;simpa using hg)⟩
  |_=>exact deep hg
 |_=>exact deep hg
theorem vh (hK:X.K=K) (hu:X.A.units+64<cLine):OpR X (compareOp .NotEq) (l2 K (gEq true)):=by
 subst hK
 rintro pins s σ H x y v u Q I rx ry ⟨S,tx,ty,Qt,sr,hx,hy,hg,b⟩
 have deep:(∃ dx dy,d3 S tx=some dx/\d3 S ty=some dy/\dx.canLay0=true/\dy.canLay0=true/\min dx.depth dy.depth<=64/\Qt (.bl (true ^^ PyData.eqv dx dy)) S)->wpAny (model X.prog X.w) X.A (compareOp .NotEq v u) (EP X pins σ Q) X.xe s:=by
  rintro ⟨dx,dy,e1,e2,c1,c2,hd,q⟩
  exact Cf hu pins s σ H _ _ v u Q I rx ry ⟨dx,dy,jx sr hx e1,jx sr hy e2,c1,c2,hd,b _ H _ S .refl sr .bl q⟩
 cases tx with
 |int i =>
  cases ty with
  |int j=>cases hx;cases hy;exact m3 pins s σ H _ _ v u Q I rx ry ⟨rfl,b _ H _ S .refl sr .bl (by have hg:Qt (.bl (true ^^ decide (i=j))) S:=hg;simpa using hg)⟩
  |_=>exact deep hg
 |str i =>
  cases ty with
  |str j=>cases hx;cases hy;exact m3 pins s σ H _ _ v u Q I rx ry ⟨rfl,b _ H _ S .refl sr .bl (by have hg:Qt (.bl (true ^^ decide (i=j))) S:=hg;simpa using hg)⟩
  |_=>exact deep hg
 |bl i =>
  cases ty with
  |bl j=>cases hx;cases hy;exact m3 pins s σ H _ _ v u Q I rx ry ⟨rfl,b _ H _ S .refl sr .bl (by have hg:Qt (.bl (true ^^ decide (i=j))) S:=hg;simpa using hg)⟩
  |_=>exact deep hg
 |_=>exact deep hg
def ltS (a c:Str):Bool:=decide (a.cps.toList<c.cps.toList)
def gLt:G2:=λx y S Q=>match x,y with
 |.int i,.int j=>Q (.bl (decide (i<j))) S
 |.str a,.str c=>Q (.bl (ltS a c)) S
 |_,_=>False
def gLe:G2:=λx y S Q=>match x,y with
 |.int i,.int j=>Q (.bl (decide (i<=j))) S
 |.str a,.str c=>Q (.bl (!ltS c a)) S
 |_,_=>False
def gGt:G2:=λx y S Q=>match x,y with
 |.int i,.int j=>Q (.bl (decide (j<i))) S
 |_,_=>False
def gGe:G2:=λx y S Q=>match x,y with
 |.int i,.int j=>Q (.bl (decide (j<=i))) S
 |_,_=>False
theorem cD:OpR X (compareOp .Lt) (l2 K gLt):=by
 rintro pins s σ H x y v u Q I rx ry ⟨S,tx,ty,Qt,sr,hx,hy,hg,b⟩
 cases hx<;>first|exact hg.elim|skip
 ·cases hy<;>first|exact hg.elim|skip
  exact Ez pins s σ H _ _ v u Q I rx ry ⟨_,_,rfl,rfl,b _ H _ S .refl sr .bl hg⟩
 ·cases hy<;>first|exact hg.elim|skip
  exact wL pins s σ H _ _ v u Q I rx ry ⟨_,_,rfl,rfl,b _ H _ S .refl sr .bl hg⟩
theorem df:OpR X (compareOp .LtE) (l2 K gLe):=by
 rintro pins s σ H x y v u Q I rx ry ⟨S,tx,ty,Qt,sr,hx,hy,hg,b⟩
 cases hx<;>first|exact hg.elim|skip
 ·cases hy<;>first|exact hg.elim|skip
  exact EA pins s σ H _ _ v u Q I rx ry ⟨_,_,rfl,rfl,b _ H _ S .refl sr .bl hg⟩
 ·cases hy<;>first|exact hg.elim|skip
  exact wW pins s σ H _ _ v u Q I rx ry ⟨_,_,rfl,rfl,b _ H _ S .refl sr .bl hg⟩
theorem vi:OpR X (compareOp .Gt) (l2 K gGt):=by
 rintro pins s σ H x y v u Q I rx ry ⟨S,tx,ty,Qt,sr,hx,hy,hg,b⟩
 cases hx<;>first|exact hg.elim|skip
 cases hy<;>first|exact hg.elim|skip
 exact EB pins s σ H _ _ v u Q I rx ry ⟨_,_,rfl,rfl,b _ H _ S .refl sr .bl hg⟩
theorem vj:OpR X (compareOp .GtE) (l2 K gGe):=by
 rintro pins s σ H x y v u Q I rx ry ⟨S,tx,ty,Qt,sr,hx,hy,hg,b⟩
 cases hx<;>first|exact hg.elim|skip
 cases hy<;>first|exact hg.elim|skip
 exact EC pins s σ H _ _ v u Q I rx ry ⟨_,_,rfl,rfl,b _ H _ S .refl sr .bl hg⟩
def isN:T->Bool
 |.non=>true
 |_=>false
def gIs (neg:Bool):G2:=λx y S Q=>match y with
 |.non=>Q (.bl (neg ^^ isN x)) S
 |_=>False
theorem ET {H S t v}(r:Rp K H S t v):decide (v=V.non)=isN t:=by cases r<;>simp [isN]
theorem vk:OpR X (compareOp .Is) (l2 K (gIs false)):=by
 rintro pins s σ H x y v u Q I rx ry ⟨S,tx,ty,Qt,sr,hx,hy,hg,b⟩
 cases hy<;>first|exact hg.elim|skip
 refine B1 pins s σ H _ _ v u Q I rx ry ⟨rfl,b _ H _ S .refl sr .bl ?_⟩
 rw [ET hx];simpa [gIs] using hg
def vm (wa:WE):WE:=λσ S Q=>wa σ S λx S1=>match x with
 |.int i=>Q (.int (-i)) S1
 |_=>False
theorem eC {a:Expr}{wa:WE}{pos:Pos}(ha:QE K X a wa):QE K X (.UnaryOp .USub a pos) (vm wa):=PE.of (Ey B0 ha) λσ H Q zz90=>by
 obtain ⟨S,σt,Qt,s,c,q,hq⟩:=zz90
 refine ⟨S,σt,_,s,c,q,λx H1 tx S1 f1 s1 r1 q1=>?_⟩
 cases r1<;>first|exact q1.elim|skip
 exact ⟨_,rfl,hq _ H1 _ S1 f1 s1 .int q1⟩
def ixT (S:Sto) (x y:T):Option T:=match x,y with
 |.tup ts,.int i=>atI ts i
 |.str z,.int i=>if z.length<=sizeLine then (atI z.cps.toList i).map λc=>.str ⟨#[c]⟩ else none
 |x,.int i=>(aX S x).bind λts=>atI ts i
 |_,_=>none
theorem Cu {S:Sto}{p:Addr}{ts:List T}{i:Int}(e:S p=some (.lst ts)):ixT S (.ref p) (.int i)=atI ts i:=by
 show (aX S (.ref p)).bind (λts=>atI ts i)=_
 rw [ik e];rfl
theorem sA {S:Sto}{ts:List T}{i:Int}:ixT S (.lst ts) (.int i)=atI ts i:=rfl
def gIx:G2:=λx y S Q=>∃ r,ixT S x y=some r/\Q r S
theorem sB {H S ts vs i t}(r:Rps K H S ts vs) (e:atI ts i=some t):∃ v,atI vs i=some v/\Rp K H S t v:=by
 unfold atI at e ⊢
 rw [r.length]
 cases q:ixN ts.length i with
 |none=>rw [q] at e;cases e
 |some j =>
  rw [q] at e
  simp only [Option.bind_some] at e ⊢
  exact r.get e
theorem GQ (hK:X.K=K):IxR X (l2 K gIx):=by
 subst hK
 rintro value slice pins s σ H x y v u Q I rx ry ⟨S,tx,ty,Qt,sr,hx,hy,⟨r,e,q⟩,b⟩ hs
 have lists:∀ i,ty=.int i->(aX S tx).bind (λts=>atI ts i)=some r->wpAny (model X.prog X.w) X.A (subscriptTail value slice v u) (EP X pins σ Q) X.xe s:=by
  rintro i rfl e
  cases hy
  cases h1:aX S tx with
  |none=>rw [h1] at e;cases e
  |some ts =>
   rw [h1] at e
   obtain ⟨p,vs,rfl,hq,rs⟩:=ci sr hx h1
   obtain ⟨w',e2,r2⟩:=sB rs e
   exact zL value slice pins s σ H _ _ v u Q I rx ry ⟨p,vs,i,w',rfl,rfl,hq,e2,b _ H _ S .refl sr r2 q⟩ hs
 cases ty with
 |int i =>
  cases tx with
  |tup ts =>
   cases hy
   cases hx with
   |tup n hp rs =>
    obtain ⟨w',e2,r2⟩:=sB rs (show atI ts i=some r from e)
    exact B8 value slice pins s σ H _ _ v u Q I rx ry ⟨_,_,i,w',rfl,rfl,SqT.of hp,e2,b _ H _ S .refl sr r2 q⟩ hs
  |str z =>
   cases hy
   cases hx
   delta ixT at e
   dsimp only at e
   split at e
   ·next hz =>
    simp only [Option.map_eq_some_iff] at e
    obtain ⟨c,e,rfl⟩:=e
    exact B9 value slice pins s σ H _ _ v u Q I rx ry ⟨z,i,c,rfl,rfl,hz,e,b _ H _ S .refl sr .str q⟩ hs
   ·cases e
  |_=>exact lists i rfl e
 |_=>cases tx<;>cases e
theorem aq {a c:Expr}{wa wc:WE}{pos:Pos}(hK:X.K=K) (ha:QE K X a wa) (hc:QE K X c wc) (hs:qO c):QE K X (.Subscript a c pos) (w2 gIx wa wc):=PE.of (EE (GQ hK) ha hc hs) λ_ _ _ h=>jV h
abbrev WO:=StT->Sto->(Option Int->Sto->Prop)->Prop
def lO (K:Fg) (w:WO):TO:=λσ H Q=>∃ S σt Qt,SRp K H S/\Cov K H S σ σt/\w σt S Qt/\∀ b H' S',Fr H S H' S'->SRp K H' S'->Qt b S'->Q b H'
def QO (K:Fg) (X:Cx) (e:Option Expr) (w:WO):Prop:=PO X e (lO K w)
theorem PO.of {e:Option Expr}{t t':TO}(h:PO X e t) (i:∀ σ H Q,t' σ H Q->t σ H Q):PO X e t':=λpins s σ H Q I q=>h pins s σ H Q I (i σ H Q q)
def woN:WO:=λ_ S Q=>Q none S
def woS (wa:WE):WO:=λσ S Q=>wa σ S λx S1=>match x with
 |.int i=>Q (some i) S1
 |_=>False
theorem hZ:QO K X none woN:=PO.of zJ λσ H Q zz91=>by obtain ⟨S,σt,Qt,s,c,q,hq⟩:=zz91;exact hq none H S .refl s q
theorem e8 {e:Expr}{wa:WE}(h:QE K X e wa):QO K X (some e) (woS wa):=PO.of (zK h) λσ H Q zz92=>by
 obtain ⟨S,σt,Qt,s,c,q,hq⟩:=zz92
 refine ⟨S,σt,_,s,c,q,λx H1 tx S1 f1 s1 r1 q1=>?_⟩
 cases r1<;>first|exact q1.elim|skip
 exact ⟨_,rfl,hq _ H1 S1 f1 s1 q1⟩
def fF (ts:List T) (lo hi:Option Int):List T:=(ts.drop (HT.sIx ts.length 0 lo)).take (HT.sIx ts.length ts.length hi - HT.sIx ts.length 0 lo)
theorem Cv {H S ts vs lo hi}(r:Rps K H S ts vs):Rps K H S (fF ts lo hi) (gZ vs lo hi):=by
 unfold fF gZ
 rw [r.length]
 exact (r.drop _).take _
def gSl (tr:Bool) (x:T) (lo hi:Option Int) (S:Sto) (Q:T->Sto->Prop):Prop:=match x with
 |.str z=>z.length<=sizeLine/\Q (.str (Txt.slice z lo hi)) S
 |x=>∃ ts,aX S x=some ts/\a9 tr (fF ts lo hi) S Q
def l3 (K:Fg) (g:T->Option Int->Option Int->Sto->(T->Sto->Prop)->Prop):V->Option Int->Option Int->Hp->VK->Prop:=λx lo hi H Q=>∃ S tx Qt,SRp K H S/\Rp K H S tx x/\g tx lo hi S Qt/\Bh K H S Qt Q
theorem GR (tr:Bool) (hK:X.K=K):SlR X (l3 K (gSl tr)):=by
 subst hK
 rintro pins s σ H x v vl vu lo hi sl Q I rx hs pl pu ⟨S,tx,Qt,sr,hx,hg,b⟩
 have lists:(∃ ts,aX S tx=some ts/\a9 tr (fF ts lo hi) S Qt)->uS X.K x lo hi H Q:=by
  rintro ⟨ts,e,n⟩
  obtain ⟨p,vs,rfl,hq,rs⟩:=ci sr hx e
  exact ⟨p,vs,rfl,hq,fe sr (Cv rs) n b⟩
 cases tx with
 |str z=>cases hx;exact Ch pins s σ H _ v vl vu lo hi sl Q I rx hs pl pu ⟨z,rfl,hg.1,b _ H _ S .refl sr .str hg.2⟩
 |_=>exact zM pins s σ H _ v vl vu lo hi sl Q I rx hs pl pu (lists hg)
def wSl (tr:Bool) (wa:WE) (wl wh:WO):WE:=λσ S Q=>wa σ S λx S1=>wl σ S1 λl S2=>wh σ S2 λh S3=>gSl tr x l h S3 Q
theorem gH (tr:Bool){e:Expr}{lo hi:Option Expr}{wa:WE}{wl wh:WO}{p2 pos:Pos}(hK:X.K=K) (he:QE K X e wa) (hl:QO K X lo wl) (hu:QO K X hi wh):QE K X (.Subscript e (.Slice lo hi none p2) pos) (wSl tr wa wl wh) :=
 PE.of (xO (GR tr hK) he hl hu) λσ H Q zz93=>by
  obtain ⟨S,σt,Qt,s,c,q,hq⟩:=zz93
  refine ⟨S,σt,_,s,c,q,λx H1 tx S1 f1 s1 r1 q1=>?_⟩
  refine ⟨S1,σt,_,s1,c.fr f1,q1,λl H2 S2 f2 s2 q2=>?_⟩
  refine ⟨S2,σt,_,s2,c.fr (f1.trans f2),q2,λh H3 S3 f3 s3 q3=>?_⟩
  exact ⟨S3,tx,Qt,s3,(r1.fr f2).fr f3,q3,λv H' t S' f=>hq v H' t S' (((f1.trans f2).trans f3).trans f)⟩
end
structure Src where
 items:List T
 grd:Sto->Prop
abbrev WI:=StT->Sto->(Src->Sto->Prop)->Prop
structure Iter (K:Fg) (J:It) (src:Src) (H1:Hp) (S1:Sto):Prop where
 go:∀ H S i,Fr H1 S1 H S->SRp K H S->src.grd S->i<src.items.length->J.go i H
 yld:∀ H S i x H',Fr H1 S1 H S->SRp K H S->src.grd S->i<src.items.length->J.yld i H x H'->∃ t,src.items[i]?=some t/\Fr H S H' S/\SRp K H' S/\Rp K H' S t x
 stop:∀ H S,Fr H1 S1 H S->SRp K H S->src.grd S->J.stop src.items.length H
def lI (K:Fg) (w:WI):TI:=λσ H R=>∃ S σt Rt,SRp K H S/\Cov K H S σ σt/\w σt S Rt/\∀ J H1 src S1,Fr H S H1 S1->SRp K H1 S1->Iter K J src H1 S1->Rt src S1->R J H1
def QI (K:Fg) (X:Cx) (tg iter:Expr) (w:WI):Prop:=PI X tg iter (lI K w)
section
variable {K:Fg}{X:Cx}{tg:Expr}
theorem PI.of {e:Expr}{t t':TI}(h:PI X tg e t) (i:∀ σ H Q,t' σ H Q->t σ H Q):PI X tg e t':=λpins s σ H Q I q=>h pins s σ H Q I (i σ H Q q)
theorem jy {α:Type}{l:List α}{i:Nat}{t:α}(h:l[i]?=some t):l.drop i=t::l.drop (i+1):=by
 obtain ⟨hl,e⟩:=List.getElem?_eq_some_iff.mp h
 rw [<- e];exact List.drop_eq_getElem_cons hl
def d4 (grd:Sto->Prop) (g:WG) (wb:WS) (D:EndsT):List T->StT->Sto->Prop
 |[],σ,S=>grd S/\D.nx σ S
 |t::ts,σ,S=>grd S/\g t σ S λσ2 S2=>wb { nx:=d4 grd g wb D ts,rt:=D.rt,bk:=D.nx,ct:=d4 grd g wb D ts } σ2 S2
def nN (wi:WI) (g:WG) (wb:WS):WS:=λD σ S=>wi σ S λsrc S1=>d4 src.grd g wb D src.items σ S1
theorem z9 {wi:WI}{g:WG}{wb:WS}{D σ H}(h:lS K (nN wi g wb) D σ H):uN (lI K wi) (lG K g) (lS K wb) D σ H:=by
 obtain ⟨S,σt,Dt,s,c,q,he⟩:=h
 refine ⟨S,σt,_,s,c,q,λJ H1 src S1 f1 s1 it q1=>?_⟩
 refine ⟨λi m σ H=>m=src.items.length - i/\i<=src.items.length/\∃ S σt,Fr H1 S1 H S/\SRp K H S/\Cov K H S σ σt/\d4 src.grd g wb Dt (src.items.drop i) σt S,
  ⟨_,rfl,Nat.zero_le _,S1,σt,.refl,s1,c.fr f1,by simpa using q1⟩,?_⟩
 rintro i m σ H ⟨rfl,hi,S2,σt2,f2,s2,c2,q2⟩
 by_cases hl:i<src.items.length
 ·have e1:src.items[i]?=some src.items[i]:=by simp [hl]
  rw [jy e1] at q2
  obtain ⟨hg,q2⟩:=q2
  refine .inr ⟨it.go H S2 i f2 s2 hg hl,λσ' H'=>∃ S σt,Fr H1 S1 H' S/\SRp K H' S/\Cov K H' S σ' σt/\d4 src.grd g wb Dt (src.items.drop (i+1)) σt S,λσ' H' n=>⟨src.items.length - (i+1),by omega,rfl,hl,n⟩,λx H' y=>?_⟩
  obtain ⟨t,et,f3,s3,r3⟩:=it.yld H S2 i x H' f2 s2 hg hl y
  rw [e1] at et;cases et
  refine ⟨S2,_,σt2,_,s3,r3,c2.fr f3,q2,λσ4 H4 σt4 S4 f4 s4 c4 q4=>?_⟩
  have fA:=(f2.trans f3).trans f4
  refine ⟨S4,σt4,_,s4,c4,q4,⟨λσ' H' σt' S' f s' c' q'=>⟨S',σt',fA.trans f,s',c',q'⟩,λv H' t S' f=>he.rt v H' t S' ((f1.trans fA).trans f),λσ' H' σt' S' f=>he.nx σ' H' σt' S' ((f1.trans fA).trans f),λσ' H' σt' S' f s' c' q'=>⟨S',σt',fA.trans f,s',c',q'⟩⟩⟩
 ·have e:i=src.items.length:=by omega
  subst e
  rw [List.drop_eq_nil_of_le (Nat.le_refl _)] at q2
  exact .inl ⟨it.stop H S2 f2 s2 q2.1,he.nx σ H σt2 S2 (f1.trans f2) s2 c2 q2.2⟩
theorem iJ {iter:Expr}{body:List Stmt}{wi:WI}{g:WG}{wb:WS}{pos:Pos}(hp:PassesOwn (model X.prog X.w) X.A X.env X.xe) (hc:X.calm=true) (hi:QI K X tg iter wi) (hg:QG K X tg g) (hb:QSs K X body wb)
  (hs:∀ x,foldedSetIterable iter X.env x=pure x:=by intro _;rfl):QS K X (.For tg iter body [] pos) (nN wi g wb):=PS.of (BT hp hc hi hg hb hs) λ_ _ _ h=>z9 h
def io (t:T) (ts:List T) (S:Sto):Prop:=match t with
 |.ref a=>S a=some (.lst ts)
 |_=>True
def wiL (wa:WE):WI:=λσ S R=>wa σ S λx S1=>∃ ts,aX S1 x=some ts/\R ⟨ts,io x ts⟩ S1
theorem w6 {S S':Sto}{x:T}{ts:List T}(e:aX S x=some ts) (h:io x ts S'):aX S' x=some ts:=by
 cases x with
 |ref a=>exact ik h
 |lst us=>exact e
 |scr us=>exact e
 |_=>cases e
theorem w9 {H1:Hp}{S1:Sto}{x:T}{a:Addr}{ts:List T}(r:Rp K H1 S1 x (.ref a)) (e:aX S1 x=some ts):Iter K (Itl K a) ⟨ts,io x ts⟩ H1 S1:=by
 have main:∀ H S,Fr H1 S1 H S->SRp K H S->io x ts S->∃ vs,SqL K H a vs/\Rps K H S ts vs:=λH S f s g=>by
  obtain ⟨p,vs,ep,hq,rs⟩:=ci s (r.fr f) (w6 e g)
  cases ep
  exact ⟨vs,hq,rs⟩
 refine ⟨λH S i f s g hl=>?_,λH S i y H' f s g hl hy=>?_,λH S f s g=>?_⟩
 ·obtain ⟨vs,hq,rs⟩:=main H S f s g
  obtain ⟨v,hv,_⟩:=rs.get (i:=i) (t:=ts[i]) (by simp [show i<ts.length from hl])
  exact ⟨vs,v,hq,hv⟩
 ·obtain ⟨vs,hq,rs⟩:=main H S f s g
  obtain ⟨rfl,hy⟩:=hy
  obtain ⟨t,et,rt⟩:=rs.getV (hy vs hq)
  exact ⟨t,et,.refl,s,rt⟩
 ·obtain ⟨vs,hq,rs⟩:=main H S f s g
  exact ⟨vs,hq,by rw [rs.length];exact Nat.le_refl _⟩
theorem cV {l:Expr}{wa:WE}(hK:X.K=K) (hl:QE K X l wa):QI K X tg l (wiL wa):=by
 subst hK
 refine PI.of (zx hl) λσ H R zz94=>?_
 obtain ⟨S,σt,Rt,s,c,q,hq⟩:=zz94
 refine ⟨S,σt,_,s,c,q,λv H1 t S1 f1 s1 r1 q1=>?_⟩
 obtain ⟨ts,e,q1⟩:=q1
 obtain ⟨p,vs,rfl,hS,rs⟩:=ci s1 r1 e
 exact ⟨p,rfl,⟨vs,hS⟩,hq _ H1 _ S1 f1 s1 (w9 r1 e) q1⟩
def bR (lo:Int) (n:Nat):List T:=(List.range n).map λ(i:Nat)=>T.int (lo+i)
theorem pC {lo:Int}{n:Nat}{H1 S1}:Iter K (Itr lo n) ⟨bR lo n,λ_=>True⟩ H1 S1:=by
 refine ⟨λH S i f s g hl=>by simpa [bR,Itr] using hl,λH S i y H' f s g hl hy=>?_,λH S f s g=>by simp [bR,Itr]⟩
 obtain ⟨rfl,rfl⟩:=hy
 have hl':i<n:=by simpa [bR] using hl
 exact ⟨.int (lo+i),by simp [bR,hl'],.refl,s,.int⟩
def vo (wa:WE):WI:=λσ S R=>wa σ S λx S1=>match x with
 |.int j=>-(2 ^ 62)<=j/\j<2 ^ 62/\R ⟨bR 0 j.toNat,λ_=>True⟩ S1
 |_=>False
def vp (wa wb:WE):WI:=λσ S R=>wa σ S λx S1=>wb σ S1 λy S2=>match x,y with
 |.int i,.int j=>(-(2 ^ 62)<=i/\i<2 ^ 62 /\ -(2 ^ 62)<=j/\j<2 ^ 62)/\R ⟨bR i (j - i).toNat,λ_=>True⟩ S2
 |_,_=>False
theorem jo {a:Expr}{wa:WE}{p pos:Pos}(hg:Gl X "range") (hm:X.mg "range"=none) (ha:QE K X a wa) (hs:starEach [a] X.env=[(false,eval a X.env)]:=by rfl) (hs':starEach [a] X.env=(false,eval a X.env)::starEach [] X.env:=by rfl) :
  QI K X tg (.Call (.Name "range" p) [a] [] pos) (vo wa) :=
 PI.of (wI hg hm (js ha mf hs') hs) λσ H R zz95=>by
  obtain ⟨S,σt,Rt,s,c,q,hq⟩:=zz95
  refine ⟨S,σt,_,s,c,q,λx H1 tx S1 f1 s1 r1 q1=>?_⟩
  cases r1<;>first|exact q1.elim|skip
  exact ⟨_,rfl,q1.1,q1.2.1,hq _ H1 _ S1 f1 s1 pC q1.2.2⟩
theorem p8 {a b:Expr}{wa wb:WE}{p pos:Pos}(hg:Gl X "range") (hm:X.mg "range"=none) (ha:QE K X a wa) (hb:QE K X b wb) (hs:starEach [a,b] X.env=[(false,eval a X.env),(false,eval b X.env)]:=by rfl)
  (hs2:starEach [b] X.env=[(false,eval b X.env)]:=by rfl) (hs':starEach [a,b] X.env=(false,eval a X.env)::starEach [b] X.env:=by rfl) (hs3:starEach [b] X.env=(false,eval b X.env)::starEach [] X.env:=by rfl):QI K X tg (.Call (.Name "range" p) [a,b] [] pos) (vp wa wb) :=
 PI.of (wJ hg hm (js ha (js hb mf hs3) hs') hs hs2) λσ H R zz96=>by
  obtain ⟨S,σt,Rt,s,c,q,hq⟩:=zz96
  refine ⟨S,σt,_,s,c,q,λx H1 tx S1 f1 s1 r1 q1=>?_⟩
  refine ⟨S1,σt,_,s1,c.fr f1,q1,λy H2 ty S2 f2 s2 r2 q2=>?_⟩
  cases r1<;>first|exact q2.elim|skip
  cases r2<;>first|exact q2.elim|skip
  exact ⟨_,_,rfl,q2.1,hq _ H2 _ S2 (f1.trans f2) s2 pC q2.2⟩
def cx (z:Str):List T:=z.cps.toList.map λc=>T.str ⟨#[c]⟩
def wiS (wa:WE):WI:=λσ S R=>wa σ S λx S1=>match x with
 |.str z=>R ⟨cx z,λ_=>True⟩ S1
 |_=>False
theorem Cw {l:Expr}{wa:WE}(hl:QE K X l wa):QI K X tg l (wiS wa):=PI.of (Cg hl) λσ H R zz97=>by
 obtain ⟨S,σt,Rt,s,c,q,hq⟩:=zz97
 refine ⟨S,σt,_,s,c,q,λx H1 tx S1 f1 s1 r1 q1=>?_⟩
 cases r1<;>first|exact q1.elim|skip
 refine ⟨_,rfl,hq _ H1 _ S1 f1 s1 ⟨λH S i f s g hl=>by simpa [cx,Its] using hl,λH S i y H' f s g hl hy=>?_,λH S f s g=>by simp [cx,Its]⟩ q1⟩
 obtain ⟨rfl,c,ec,rfl⟩:=hy
 exact ⟨.str ⟨#[c]⟩,by simp [cx,ec],.refl,s,.str⟩
def QTs (K:Fg) (X:Cx) (ifs:List Expr) (w:WT):Prop:=PTs X ifs (lT K w)
def jY:WT:=λ_ S Q=>Q true S
theorem cW:QTs K X [] jY:=λpins s σ H Q I zz98=>by obtain ⟨S,σt,Qt,sr,c,q,hq⟩:=zz98;exact zT pins s σ H Q I (hq true H S .refl sr q)
theorem lN {c:Expr}{w:WT}(h:QT K X c w):QTs K X [c] w:=zU h
def gJ (n:Nat) (caps:List Nat) (σ:StT):StT:=List.replicate n none++caps.map λi=>(σ[i]?).join
def c8 (grd:Sto->Prop) (g:WG) (tt:WT) (te:WE) (Q:List T->Sto->Prop):List T->List T->StT->Sto->Prop
 |[],acc,_,S=>grd S/\Q acc S
 |x::xs,acc,σ,S=>grd S/\g x σ S λσ2 S2=>tt σ2 S2 λb S3=>if b=true then te σ2 S3 λy S4=>acc.length<sizeLine/\c8 grd g tt te Q xs (acc++[y]) σ2 S4 else c8 grd g tt te Q xs acc σ2 S3
def jZ (tr:Bool) (wi:WI) (n:Nat) (caps:List Nat) (g:WG) (tt:WT) (te:WE):WE:=λσ S Q=>wi σ S λsrc S1=>c8 src.grd g tt te (λts S2=>a9 tr ts S2 Q) src.items [] (gJ n caps σ) S1
theorem yd {H S σ σt n caps}(c:Cov K H S σ σt):Cov K H S (gM n caps σ) (gJ n caps σt):=by
 refine ⟨by simp [gM,gJ],λi t e=>?_⟩
 unfold gJ at e
 unfold gM
 by_cases hi:i<n
 ·rw [List.getElem?_append_left (by simpa using hi),List.getElem?_replicate] at e
  rw [if_pos hi] at e;cases e
 ·rw [List.getElem?_append_right (by simpa using hi)] at e ⊢
  simp only [List.length_replicate,List.getElem?_map] at e ⊢
  cases q:caps[i - n]? with
  |none=>rw [q] at e;cases e
  |some j =>
   rw [q] at e
   simp only [Option.map_some,Option.some.injEq] at e ⊢
   cases z:σt[j]? with
   |none=>rw [z] at e;cases e
   |some o =>
    rw [z] at e
    simp only [Option.join_some] at e
    subst e
    obtain ⟨v,hv,rv⟩:=c.2 j t z
    exact ⟨v,by rw [hv];rfl,rv⟩
mutual
theorem Rp.chg {H S D φ o}(e:H D=some (.ext φ)):∀ {t v},Rp K H S t v->Rp K (upd H D o) S t v
 |_,_,.non=>.non
 |_,_,.bl=>.bl
 |_,_,.int=>.int
 |_,_,.str=>.str
 |_,_,.ty=>.ty
 |_,_,.ref=>.ref
 |_,_,.tup n h r=>.tup n (by rw [aE (cZ h e (by intro z;cases z))];exact h) (Rps.chg e r)
 |_,_,.lst n h r=>.lst n (by rw [aE (cZ h e (by intro z;cases z))];exact h) (Rps.chg e r)
 |_,_,.scr h=>.scr (by
   rcases h with ⟨n,o',h⟩|h
   ·exact .inl ⟨n,o',by rw [aE (cZ h e (by intro z;cases z))];exact h⟩
   ·exact .inr h)
theorem Rps.chg {H S D φ o}(e:H D=some (.ext φ)):∀ {ts vs},Rps K H S ts vs->Rps K (upd H D o) S ts vs
 |_,_,.nil=>.nil
 |_,_,.cons a b=>.cons (Rp.chg e a) (Rps.chg e b)
end
theorem SRp.chg {H S D φ o}(e:H D=some (.ext φ)) (n:S D=none) (s:SRp K H S):SRp K (upd H D o) S:=λa o' h=>by
 have ha:a≠D:=λz=>by rw [z,n] at h;cases h
 cases s a o' h with
 |lst h' r=>exact .lst (by rw [aE ha];exact h') (Rps.chg e r)
 |dK h' r=>exact .dK (by rw [aE ha];exact h') (Paired.mapP r λ_ _ z=>⟨z.1,Rp.chg e z.2⟩)
 |dT h' r=>exact .dT (by rw [aE ha];exact h') (Paired.mapP r λ_ _ z=>⟨z.1,Rp.chg e z.2⟩)
 |fK h' r=>exact .fK (by rw [aE ha];exact h') (Paired.mapP r λ_ _ z=>⟨z.1,Rp.chg e z.2⟩)
 |ins h' r=>exact .ins (by rw [aE ha];exact h') (Paired.mapP r λ_ _ z=>⟨z.1,Rp.chg e z.2⟩)
theorem Cov.chg {H S D φ o σ σt}(e:H D=some (.ext φ)) (c:Cov K H S σ σt):Cov K (upd H D o) S σ σt:=⟨c.1,λi t h=>by
 obtain ⟨v,h1,r⟩:=c.2 i t h
 exact ⟨v,h1,Rp.chg e r⟩⟩
theorem Fr.at {H S H1 S1 D o}(f:Fr H1 S1 H S) (hD:H1 D=none):Fr H1 S1 (upd H D o) S:=λa u h n=>by
 rw [aE (bv h hD)];exact f a u h n
mutual
theorem Rp.trk {H S D φ o p}(e:H D=some (.ext φ)):∀ {t v},Rp K H S t v->Rp K (upd H D o) (put S D p) t v
 |_,_,.non=>.non
 |_,_,.bl=>.bl
 |_,_,.int=>.int
 |_,_,.str=>.str
 |_,_,.ty=>.ty
 |_,_,.ref=>.ref
 |_,_,.tup n h r=>.tup (by rw [aD (cZ h e (by intro z;cases z))];exact n) (by rw [aE (cZ h e (by intro z;cases z))];exact h) (Rps.trk e r)
 |_,_,.lst n h r=>.lst (by rw [aD (cZ h e (by intro z;cases z))];exact n) (by rw [aE (cZ h e (by intro z;cases z))];exact h) (Rps.trk e r)
 |_,_,.scr h=>.scr (by
   rcases h with ⟨n,o',h⟩|h
   ·exact .inl ⟨by rw [aD (cZ h e (by intro z;cases z))];exact n,o',by rw [aE (cZ h e (by intro z;cases z))];exact h⟩
   ·exact .inr h)
theorem Rps.trk {H S D φ o p}(e:H D=some (.ext φ)):∀ {ts vs},Rps K H S ts vs->Rps K (upd H D o) (put S D p) ts vs
 |_,_,.nil=>.nil
 |_,_,.cons a b=>.cons (Rp.trk e a) (Rps.trk e b)
end
theorem SRp.trk {H S D φ zs acc}(e:H D=some (.ext φ)) (s:SRp K H S) (r:Rps K H S acc zs):SRp K (upd H D (.lst zs)) (put S D (.lst acc)):=λa o' h=>by
 by_cases ha:a=D
 ·subst ha;rw [aJ] at h;cases h;exact .lst aL (Rps.trk e r)
 ·rw [aD ha] at h
  cases s a o' h with
  |lst h' r=>exact .lst (by rw [aE ha];exact h') (Rps.trk e r)
  |dK h' r=>exact .dK (by rw [aE ha];exact h') (Paired.mapP r λ_ _ z=>⟨z.1,Rp.trk e z.2⟩)
  |dT h' r=>exact .dT (by rw [aE ha];exact h') (Paired.mapP r λ_ _ z=>⟨z.1,Rp.trk e z.2⟩)
  |fK h' r=>exact .fK (by rw [aE ha];exact h') (Paired.mapP r λ_ _ z=>⟨z.1,Rp.trk e z.2⟩)
  |ins h' r=>exact .ins (by rw [aE ha];exact h') (Paired.mapP r λ_ _ z=>⟨z.1,Rp.trk e z.2⟩)
theorem qy {tr:Bool}{wi:WI}{n:Nat}{caps:List Nat}{g:WG}{tt:WT}{te:WE}{σ H Q}(h:lE K (jZ tr wi n caps g tt te) σ H Q):mj (lI K wi) n caps (lG K g) (lT K tt) (lE K te) σ H Q:=by
 obtain ⟨S,σt,Qt,s,c,q,hq⟩:=h
 refine ⟨S,σt,_,s,c,q,λJ H1 src S1 f1 s1 it q1=>?_⟩
 intro D hD
 refine ⟨λi m zs σc H=>m=src.items.length - i/\i<=src.items.length/\H D=some (bf D zs)/\∃ S σt acc,S D=none/\Fr H1 S1 H S/\Rps K H S acc zs/\SRp K H S/\Cov K H S σc σt/\c8 src.grd g tt te (λts S2=>a9 tr ts S2 Qt) (src.items.drop i) acc σt S,
  ⟨_,rfl,Nat.zero_le _,aL,S1,gJ n caps σt,[],s1.fresh hD,Fr.new hD,.nil,s1.new hD,yd ((c.fr f1).fr (Fr.new hD)),by simpa using q1⟩,?_⟩
 rintro i m zs σc H ⟨rfl,hi,e2,S2,σt2,acc,n2,f2,r2,s2,c2,q2⟩
 refine ⟨e2,?_⟩
 by_cases hl:i<src.items.length
 ·have e1:src.items[i]?=some src.items[i]:=by simp [hl]
  rw [jy e1] at q2
  obtain ⟨hg,q2⟩:=q2
  refine .inr ⟨it.go H S2 i f2 s2 hg hl,λzs' σ' H'=>H' D=some (bf D zs')/\∃ S σt acc,S D=none/\Fr H1 S1 H' S/\Rps K H' S acc zs'/\SRp K H' S/\Cov K H' S σ' σt/\c8 src.grd g tt te (λts S2=>a9 tr ts S2 Qt) (src.items.drop (i+1)) acc σt S,
   λzs' σ' H' n=>⟨src.items.length - (i+1),by omega,rfl,hl,n⟩,λx H' y=>?_⟩
  obtain ⟨t,et,f3,s3,r3⟩:=it.yld H S2 i x H' f2 s2 hg hl y
  rw [e1] at et;cases et
  have e3:=f3 D _ e2 n2
  refine ⟨S2,_,σt2,_,s3,r3,c2.fr f3,q2,λσ4 H4 σt4 S4 f4 s4 c4 q4=>?_⟩
  have e4:=f4 D _ e3.1 e3.2
  refine ⟨S4,σt4,_,s4,c4,q4,λb H5 S5 f5 s5 q5=>?_⟩
  have e5:=f5 D _ e4.1 e4.2
  have fB:=((f3.trans f4).trans f5)
  cases b with
  |false=>exact ⟨e5.1,S5,σt4,acc,e5.2,f2.trans fB,r2.fr fB,s5,c4.fr f5,q5⟩
  |true =>
   refine ⟨S5,σt4,_,s5,c4.fr f5,q5,λy H6 ty S6 f6 s6 r6 q6=>?_⟩
   have e6:=f6 D _ e5.1 e5.2
   have fC:=fB.trans f6
   exact ⟨e6.1,by rw [r2.length];exact q6.1,aL,S6,σt4,acc++[ty],e6.2,Fr.at (f2.trans fC) hD,Rps.chg e6.1 ((r2.fr fC).append (.cons r6 .nil)),s6.chg e6.1 e6.2,((c4.fr f5).fr f6).chg e6.1,q6.2⟩
 ·have e:i=src.items.length:=by omega
  subst e
  rw [List.drop_eq_nil_of_le (Nat.le_refl _)] at q2
  refine .inl ⟨it.stop H S2 f2 s2 q2.1,?_⟩
  have fE:Fr H1 S1 (upd H D (.lst zs)) S2:=Fr.at f2 hD
  cases tr with
  |false=>exact hq _ _ (.lst acc) S2 (f1.trans fE) (s2.chg e2 n2) (.lst n2 aL (Rps.chg e2 r2)) q2.2
  |true =>
   have fr1:Fr H1 S1 (upd H D (.lst zs)) (put S2 D (.lst acc)):=λa o h nn=>by
    have ha:a≠D:=bv h hD
    rw [aD ha];exact fE a o h nn
   exact hq _ _ (.ref D) _ (f1.trans fr1) (SRp.trk e2 s2 r2) .ref (q2.2 D n2)
theorem em (tr:Bool){elt iter target:Expr}{ifs:List Expr}{scope:Scope}{pos:Pos}{wi:WI}{g:WG}{tt:WT}{te:WE}(Nc:List Str) (n:Nat) (caps:List Nat) (hcalm:X.calm=true) (hi:QI K X target iter wi) (hg:∀ C s₀ H₀ ex,QG K (X.comp scope Nc C s₀ H₀ ex) target g)
  (ht:∀ C s₀ H₀ ex,QTs K (X.comp scope Nc C s₀ H₀ ex) ifs tt) (he:∀ C s₀ H₀ ex,QE K (X.comp scope Nc C s₀ H₀ ex) elt te) (hsc:gL X.env.scope scope=true:=by rfl) (hcp:fk X.N Nc scope n caps=true:=by rfl) (hs:∀ x,foldedSetIterable iter X.env x=pure x:=by intro _;rfl) :
  QE K X (.ListComp elt [⟨target,iter,ifs,0⟩] scope pos) (jZ tr wi n caps g tt te):=PE.of (xZ Nc n caps hcalm hi hg ht he hsc hcp hs) λ_ _ _ h=>qy h
theorem hE (tr:Bool){elt iter target:Expr}{ifs:List Expr}{scope:Scope}{pos:Pos}{wi:WI}{g:WG}{tt:WT}{te:WE}{i:Nat}{x:Str}{px spos:Pos}(Nc:List Str) (n:Nat) (caps:List Nat) (hcalm:X.calm=true) (hN:X.N.Nodup) (hix:X.N[i]?=some x) (hx:Loc X.env.scope x)
  (hi:QI K X target iter wi) (hg:∀ C s₀ H₀ ex,QG K (X.comp scope Nc C s₀ H₀ ex) target g)
  (ht:∀ C s₀ H₀ ex,QTs K (X.comp scope Nc C s₀ H₀ ex) ifs tt) (he:∀ C s₀ H₀ ex,QE K (X.comp scope Nc C s₀ H₀ ex) elt te)
  (hsw:swapsWith (.ListComp elt [⟨target,iter,ifs,0⟩] scope pos) (some (.Name x px)) spos.line X.env=pure true:=by rfl) (hsc:gL X.env.scope scope=true:=by rfl) (hcp:fk X.N Nc scope n caps=true:=by rfl) (hs:∀ x,foldedSetIterable iter X.env x=pure x:=by intro _;rfl)
  (hf:X.fn x=true\/X.env.scope.names.lookup x=some .local:=by first|exact .inl rfl|exact .inr rfl|assumption) :
  QS K X (.Assign [.Name x px] (.ListComp elt [⟨target,iter,ifs,0⟩] scope pos) spos) (iU (jZ tr wi n caps g tt te) (wgN i)):=PS.of (x4 Nc n caps hcalm hN hix hx hi hg ht he hsw hsc hcp hs hf) λD σ H h=>by
 obtain ⟨S,σt,Dt,s,c,q,he⟩:=h
 exact qy ⟨S,σt,_,s,c,q,λv H1 t S1 f1 s1 r1 q1=>he.nx _ H1 _ S1 f1 s1 ((c.fr f1).set r1 i) q1⟩
end
end T2
namespace L2
open PySem PySem.Spec PyProof.Rows
section
variable {X:Cx}
def Aa:V->List V->Hp->VK->Prop:=λx vs H Q=>∃ a b,x=.str a/\vs=[.str b]/\Q (.bl (Txt.startswith a b)) H
theorem vH:MtR X "str.startswith" Aa:=by
 intro pins s σ H x vs v us Q I rx rv h
 obtain ⟨a,b,rfl,rfl,q⟩:=h
 obtain ⟨t,rfl⟩:=rx
 obtain ⟨u,rfl,t2,rfl⟩:=cg rv
 exact SC.startswith ⟨.bl _,H,I,rfl,q⟩
end
end L2
namespace T2
open PySem PySem.Spec PyProof.Rows L2
section
variable {K:Fg}{X:Cx}
def bD:T->Bool
 |.non=>true
 |.bl _=>true
 |.int _=>true
 |.str _=>true
 |_=>false
def eqF:T->T->Bool
 |.non,.non=>true
 |.bl a,.bl b=>a==b
 |.bl a,.int b=>(if a then 1 else 0)==b
 |.int a,.bl b=>a==(if b then 1 else 0)
 |.int a,.int b=>a==b
 |.str a,.str b=>a==b
 |_,_=>false
theorem EU {a b:Str}:eqF (.str a) (.str b)=(a==b):=rfl
theorem mw {H S t v}(r:Rp K H S t v) (f:bD t=true):c6 v=true:=by cases r<;>first|rfl|cases f
theorem EV {H S t v t' v'}(r:Rp K H S t v) (r':Rp K H S t' v') (f:bD t=true) (f':bD t'=true):eqV v v'=eqF t t':=by
 cases r<;>first|(cases f;done)|(cases r'<;>first|(cases f';done)|rfl)
theorem nO {H S t v}(r:Rp K H S t v) (f:bD t=true):∀ {ts vs},Rps K H S ts vs->ts.all bD=true->vs.all c6=true/\inV v vs=ts.any λy=>eqF y t
 |_,_,.nil,_=>⟨rfl,rfl⟩
 |_,_,.cons a b,h=>by
  rw [List.all_cons,Bool.and_eq_true] at h
  obtain ⟨h1,h2⟩:=nO r f b h.2
  refine ⟨by rw [List.all_cons,mw a h.1,h1];rfl,?_⟩
  unfold inV at h2 ⊢
  rw [List.any_cons,List.any_cons,h2,EV a r h.1 f]
def ck:T->Option Key
 |.int i=>some (.inl i)
 |.str x=>some (.inr x)
 |_=>none
def gIn (neg:Bool):G2:=λx y S Q=>(∃ i j,x=.str i/\y=.str j/\Q (.bl (neg ^^ !(Builtin.Str.occurrences j i 0 j.length 1).isEmpty)) S) \/
 (∃ ts,y=.tup ts/\bD x=true/\ts.all bD=true/\Q (.bl (neg ^^ ts.any λy=>eqF y x)) S) \/
 ∃ ts,aX S y=some ts/\bD x=true/\ts.all bD=true/\Q (.bl (neg ^^ ts.any λy=>eqF y x)) S
theorem lP (hK:X.K=K):OpR X (compareOp .NotIn) (l2 K (gIn true)):=by
 subst hK
 rintro pins s σ H x y v u Q I rx ry ⟨S,tx,ty,Qt,sr,hx,hy,hg,b⟩
 rcases hg with ⟨i,j,rfl,rfl,q⟩|⟨ts,rfl,fx,ft,q⟩|⟨ts,e,fx,ft,q⟩
 ·obtain rfl:=hx.istr
  obtain rfl:=hy.istr
  exact vJ pins s σ H _ _ v u Q I rx ry ⟨i,j,rfl,rfl,b _ H _ S .refl sr .bl (by simpa using q)⟩
 ·obtain ⟨p,vs,rfl,hp,rs⟩:=hy.itup
  obtain ⟨h1,h2⟩:=nO hx fx rs ft
  refine oG pins s σ H _ _ v u Q I rx ry ⟨_,_,rfl,.inr (SqT.of hp),mw hx fx,h1,?_⟩
  rw [h2]
  exact b _ H _ S .refl sr .bl (by simpa using q)
 ·obtain ⟨p,vs,rfl,hq,rs⟩:=ci sr hy e
  obtain ⟨h1,h2⟩:=nO hx fx rs ft
  refine oG pins s σ H _ _ v u Q I rx ry ⟨p,vs,rfl,.inl hq,mw hx fx,h1,?_⟩
  rw [h2]
  exact b _ H _ S .refl sr .bl (by simpa using q)
abbrev GC:=List T->Sto->(T->Sto->Prop)->Prop
def lC (K:Fg) (g:GC):List V->Hp->VK->Prop:=λxs H Q=>∃ S ts Qt,SRp K H S/\Rps K H S ts xs/\g ts S Qt/\Bh K H S Qt Q
def wCB (g:GC) (wr:WA):WE:=λσ S Q=>wr σ S λts S1=>g ts S1 Q
theorem Cy {g:GC}{wr:WA}{σ H Q}(h:lE K (wCB g wr) σ H Q):tCB (lC K g) (lA K wr) σ H Q:=by
 obtain ⟨S,σt,Qt,s,c,q,hq⟩:=h
 refine ⟨S,σt,_,s,c,q,λvs H1 ts S1 f1 s1 r1 q1=>?_⟩
 exact ⟨S1,ts,Qt,s1,r1,q1,λv H' t S' f=>hq v H' t S' (f1.trans f)⟩
theorem vq {g:GC}{wr:WA}{e:Expr}(hp:PE X e (tCB (lC K g) (lA K wr))):QE K X e (wCB g wr):=PE.of hp λ_ _ _ h=>Cy h
def kn (S:Sto):T->Option Int
 |.str z=>if z.length<=sizeLine then some z.length else none
 |.tup ts=>some ts.length
 |t=>(aX S t).map λts=>ts.length
def g5:GC:=λts S Q=>match ts with
 |[x]=>∃ n,kn S x=some n/\Q (.int n) S
 |_=>False
theorem bq (hK:X.K=K):bz X (.builtin "len") (lC K g5):=by
 subst hK
 rintro pins s σ H xs us Q I r ⟨S,ts,Qt,sr,rs,hg,b⟩
 cases rs with
 |nil=>exact hg.elim
 |cons a l =>
  cases l with
  |cons _ _=>exact hg.elim
  |nil =>
   obtain ⟨n,e,q⟩:=hg
   rename_i t v
   have lists:(aX S t).map (λts=>(ts.length:Int))=some n->wpAny (model X.prog X.w) X.A (call (.builtin "len") us) (EP X pins σ Q) X.xe s:=by
    intro e3
    rw [Option.map_eq_some_iff] at e3
    obtain ⟨ts,e3,rfl⟩:=e3
    obtain ⟨p,vs,rfl,hq,rs⟩:=ci sr a e3
    exact oH pins s σ H _ us Q I r ⟨p,vs,rfl,.inl hq,by rw [rs.length];exact b _ H _ S .refl sr .int q⟩
   cases t with
   |str z =>
    cases a
    delta kn at e
    dsimp only at e
    split at e
    ·next hz=>cases e;exact vL pins s σ H _ us Q I r ⟨z,rfl,hz,b _ H _ S .refl sr .int q⟩
    ·cases e
   |tup ts =>
    cases a with
    |tup n' hp rs=>cases e;exact oH pins s σ H _ us Q I r ⟨_,_,rfl,.inr (SqT.of hp),by rw [rs.length];exact b _ H _ S .refl sr .int q⟩
   |_=>exact lists e
def tyT (S:Sto):T->Option Value
 |.non=>some (.type "NoneType")
 |.bl _=>some (.type "bool")
 |.int _=>some (.type "int")
 |.str _=>some (.type "str")
 |.tup _=>some (.type "tuple")
 |.lst _=>some (.type "list")
 |.ref a=>match S a with
  |some (.lst _)=>some (.type "list")
  |some (.dK _)=>some (.type "dict")
  |some (.dT _)=>some (.type "dict")
  |_=>none
 |_=>none
def vt (K:Fg):GC:=λts S Q=>match ts with
 |[x,.ty n]=>∃ t b,tyT S x=some t/\PySem.W.kitOne K t (.type n)=some b/\Q (.bl b) S
 |_=>False
theorem sC {H S t v ty}(s:SRp K H S) (r:Rp K H S t v) (e:tyT S t=some ty):TyOf K H v ty:=by
 cases r with
 |non=>cases e;exact .non
 |bl=>cases e;exact .bl _
 |int=>cases e;exact .int _
 |str=>cases e;exact .str _
 |tup n h _=>cases e;exact .tup h
 |lst n h _=>cases e;exact .lst h
 |ty=>cases e
 |scr _=>cases e
 |ref =>
  rename_i a
  delta tyT at e
  dsimp only at e
  cases q:S a with
  |none=>rw [q] at e;cases e
  |some o =>
   rw [q] at e
   cases o with
   |lst us=>cases e;cases s a _ q with
    |lst h rs=>exact .lst h
   |dK us=>cases e;cases s a _ q with
    |dK h rs=>exact .dK h
   |dT us=>cases e;cases s a _ q with
    |dT h rs=>exact .dT h
   |fK _ _ _ _=>cases e
   |ins _ _=>cases e
theorem c9 (hK:X.K=K):bz X (.builtin "isinstance") (lC K (vt K)):=by
 subst hK
 rintro pins s σ H xs us Q I r ⟨S,ts,Qt,sr,rs,hg,b⟩
 cases rs with
 |nil=>exact hg.elim
 |cons a l =>
  cases l with
  |nil=>exact hg.elim
  |cons a2 l2 =>
   cases l2 with
   |cons _ _=>cases a2<;>exact hg.elim
   |nil =>
    cases a2<;>first|exact hg.elim|skip
    obtain ⟨t,k,e,hk,q⟩:=hg
    exact vU pins s σ H _ us Q I r ⟨_,_,t,k,rfl,⟨_,rfl,λz h=>h,hk⟩,sC sr a e,b _ H _ S .refl sr .bl q⟩
def uc (tr:Bool):GC:=λts S Q=>match ts with
 |[.tup us]=>a9 tr us S Q
 |[x]=>∃ us,aX S x=some us/\a9 tr us S Q
 |_=>False
theorem Cz (tr:Bool) (hK:X.K=K):bz X (.type "list") (lC K (uc tr)):=by
 subst hK
 rintro pins s σ H xs us Q I r ⟨S,ts,Qt,sr,rs,hg,b⟩
 cases rs with
 |nil=>exact hg.elim
 |cons a l =>
  cases l with
  |cons _ _=>cases a<;>exact hg.elim
  |nil =>
   rename_i t v
   have lists:(∃ us,aX S t=some us/\a9 tr us S Qt)->wpAny (model X.prog X.w) X.A (call (.type "list") us) (EP X pins σ Q) X.xe s:=by
    rintro ⟨ws,e,n⟩
    obtain ⟨p,vs,rfl,hq,rs⟩:=ci sr a e
    exact oI pins s σ H _ us Q I r ⟨p,vs,rfl,.inl hq,fe sr rs n b⟩
   cases t with
   |tup ws =>
    cases a with
    |tup n' hp rs=>exact oI pins s σ H _ us Q I r ⟨_,_,rfl,.inr (SqT.of hp),fe sr rs hg b⟩
   |_=>exact lists hg
def eM:List T->Option (List Bool)
 |[]=>some []
 |.bl i::ts=>(eM ts).map (i::·)
 |_=>none
theorem CA {i:Bool}{ts:List T}:eM (.bl i::ts)=(eM ts).map (i::·):=rfl
theorem sD {H S}:∀ {ts vs ns},Rps K H S ts vs->eM ts=some ns->vs=ns.map V.bl
 |_,_,_,.nil,e=>by cases e;rfl
 |_,_,_,.cons a b,e=>by
  cases a<;>first|(cases e;done)|skip
  simp only [CA,Option.map_eq_some_iff] at e
  obtain ⟨ns,e,rfl⟩:=e
  rw [List.map_cons,<- sD b e]
def fu:List T->Option (List Str)
 |[]=>some []
 |.str i::ts=>(fu ts).map (i::·)
 |_=>none
theorem qX {i:Str}{ts:List T}:fu (.str i::ts)=(fu ts).map (i::·):=rfl
theorem qY {H S}:∀ {ts vs ns},Rps K H S ts vs->fu ts=some ns->vs=ns.map V.str
 |_,_,_,.nil,e=>by cases e;rfl
 |_,_,_,.cons a b,e=>by
  cases a<;>first|(cases e;done)|skip
  simp only [qX,Option.map_eq_some_iff] at e
  obtain ⟨ns,e,rfl⟩:=e
  rw [List.map_cons,<- qY b e]
def vv:GC:=λts S Q=>match ts with
 |[x]=>∃ us bs,aX S x=some us/\eM us=some bs/\Q (.bl (bs.all id)) S
 |_=>False
theorem ud (hK:X.K=K) (hc:X.calm=true):bz X (.builtin "all") (lC K vv):=by
 subst hK
 rintro pins s σ H xs us Q I r ⟨S,ts,Qt,sr,rs,hg,b⟩
 cases rs with
 |nil=>exact hg.elim
 |cons a l =>
  cases l with
  |cons _ _=>exact hg.elim
  |nil =>
   obtain ⟨ws,ns,e,en,q⟩:=hg
   obtain ⟨p,vs,rfl,hq,rs⟩:=ci sr a e
   exact wX hc pins s σ H _ us Q I r ⟨p,ns,rfl,by rw [<- sD rs en];exact hq,b _ H _ S .refl sr .bl q⟩
abbrev GM:=T->List T->Sto->(T->Sto->Prop)->Prop
def lM (K:Fg) (g:GM):V->List V->Hp->VK->Prop:=λx xs H Q=>∃ S t ts Qt,SRp K H S/\Rp K H S t x/\Rps K H S ts xs/\g t ts S Qt/\Bh K H S Qt Q
def tyM (ty:String) (S:Sto) (x:T):Prop:=match x with
 |.str _=>ty="str"
 |.lst _=>ty="list"
 |.ref a=>match S a with
  |some (.lst _)=>ty="list"
  |some (.dK _)=>ty="dict"
  |some (.dT _)=>ty="dict"
  |_=>False
 |_=>False
def wBM (ty:String) (g:GM) (wa:WE) (wr:WA):WE:=λσ S Q=>wa σ S λx S1=>tyM ty S1 x/\wr σ S1 λts S2=>g x ts S2 Q
theorem EW {H S t v ty}(s:SRp K H S) (r:Rp K H S t v) (h:tyM ty S t):tyV K ty v H:=by
 cases r with
 |str=>exact h
 |lst n hp _=>exact .inl ⟨h,_,SqL.of hp⟩
 |ref =>
  rename_i a
  delta tyM at h
  dsimp only at h
  cases q:S a with
  |none=>rw [q] at h;exact h.elim
  |some o =>
   rw [q] at h
   cases o with
   |lst us=>cases s a _ q with
    |lst hp _=>exact .inl ⟨h,_,SqL.of hp⟩
   |dK us=>cases s a _ q with
    |dK hp _=>exact .inr (.inr (.inl ⟨h,.inl ⟨_,hp⟩⟩))
   |dT us=>cases s a _ q with
    |dT hp _=>exact .inr (.inr (.inl ⟨h,.inr ⟨_,hp⟩⟩))
   |fK _ _ _ _=>exact h.elim
   |ins _ _=>exact h.elim
 |_=>exact h.elim
theorem CB {ty:String}{g:GM}{wa:WE}{wr:WA}{σ H Q}(h:lE K (wBM ty g wa wr) σ H Q):tBM K ty (lM K g) (lE K wa) (lA K wr) σ H Q:=by
 obtain ⟨S,σt,Qt,s,c,q,hq⟩:=h
 refine ⟨S,σt,_,s,c,q,λx H1 tx S1 f1 s1 r1 q1=>?_⟩
 refine ⟨EW s1 r1 q1.1,S1,σt,_,s1,c.fr f1,q1.2,λvs H2 ts S2 f2 s2 r2 q2=>?_⟩
 exact ⟨S2,tx,ts,Qt,s2,r1.fr f2,r2,q2,λv H' t S' f=>hq v H' t S' ((f1.trans f2).trans f)⟩
theorem GT {ty:String}{g:GM}{wa:WE}{wr:WA}{e:Expr}(hp:PE X e (tBM K ty (lM K g) (lE K wa) (lA K wr))):QE K X e (wBM ty g wa wr):=PE.of hp λ_ _ _ h=>CB h
def sE (tr:Bool):GM:=λx ts S Q=>match x,ts with
 |.str a,[.str c]=>c.length≠0/\a.length<=1000/\a9 tr ((Txt.split a c).map T.str) S Q
 |_,_=>False
theorem Ac (tr:Bool):MtR X "str.split" (lM K (sE tr)):=by
 rintro pins s σ H x vs v us Q I rx rv ⟨S,t,ts,Qt,sr,hx,rs,hg,b⟩
 cases hx<;>first|exact hg.elim|skip
 cases rs with
 |nil=>exact hg.elim
 |cons a l =>
  cases l with
  |cons _ _=>cases a<;>exact hg.elim
  |nil =>
   cases a<;>first|exact hg.elim|skip
   exact xT pins s σ H _ _ v us Q I rx rv ⟨_,_,rfl,rfl,hg.1,hg.2.1,fe sr Rps.strs hg.2.2 b⟩
def ue:GM:=λx ts S Q=>match x,ts with
 |.str a,[y]=>∃ us zs,aX S y=some us/\fu us=some zs/\JoinOk a zs=true/\Q (.str (Txt.join a zs)) S
 |_,_=>False
theorem CC (hK:X.K=K):MtR X "str.join" (lM K ue):=by
 subst hK
 rintro pins s σ H x vs v us Q I rx rv ⟨S,t,ts,Qt,sr,hx,rs,hg,b⟩
 cases hx<;>first|exact hg.elim|skip
 cases rs with
 |nil=>exact hg.elim
 |cons a l =>
  cases l with
  |cons _ _=>exact hg.elim
  |nil =>
   obtain ⟨ws,zs,e,en,hj,q⟩:=hg
   obtain ⟨p,ys,rfl,hq,rs⟩:=ci sr a e
   exact zW pins s σ H _ _ v us Q I rx rv ⟨_,p,zs,rfl,rfl,by rw [<- qY rs en];exact hq,hj,b _ H _ S .refl sr .str q⟩
def qZ:GM:=λx ts S Q=>match x,ts with
 |.str a,[.str c]=>Q (.bl (Txt.startswith a c)) S
 |_,_=>False
theorem ye:MtR X "str.startswith" (lM K qZ):=by
 rintro pins s σ H x vs v us Q I rx rv ⟨S,t,ts,Qt,sr,hx,rs,hg,b⟩
 cases hx<;>first|exact hg.elim|skip
 cases rs with
 |nil=>exact hg.elim
 |cons a l =>
  cases l with
  |cons _ _=>cases a<;>exact hg.elim
  |nil =>
   cases a<;>first|exact hg.elim|skip
   exact vH pins s σ H _ _ v us Q I rx rv ⟨_,_,rfl,rfl,b _ H _ S .refl sr .bl hg⟩
theorem sF {H S}{a:Addr}{ts:List T}(s:SRp K H S) (e:S a=some (.lst ts)):∃ vs,H a=some (.lst vs)/\Rps K H S ts vs:=by
 cases s a _ e with
 |lst h r=>exact ⟨_,h,r⟩
theorem xa {H S}{a:Addr}{ts us:List T}{ws:List V}{Qt:T->Sto->Prop}{Q:VK}{t:T}{v:V}(s:SRp K H S) (e:S a=some (.lst ts)) (r:Rps K H S us ws) (b:Bh K H S Qt Q) (rt:Rp K H S t v) (q:Qt t (put S a (.lst us))):Q v (upd H a (.lst ws)):=by
 have hn:S a≠none:=by rw [e];simp
 exact b _ _ t _ (Fr.write hn) (s.write hn (.lst aL (r.fr (Fr.write hn)))) (rt.fr (Fr.write hn)) q
def re:GM:=λx ts S Q=>match x,ts with
 |.ref a,[y]=>∃ us,S a=some (.lst us)/\us.length<sizeLine/\Q .non (put S a (.lst (us++[y])))
 |_,_=>False
theorem qz:MtR X "list.append" (lM K re):=by
 rintro pins s σ H x vs v us Q I rx rv ⟨S,t,ts,Qt,sr,hx,rs,hg,b⟩
 cases hx<;>first|exact hg.elim|skip
 cases rs with
 |nil=>exact hg.elim
 |cons a l =>
  cases l with
  |cons _ _=>exact hg.elim
  |nil =>
   obtain ⟨ws,e,hl,q⟩:=hg
   obtain ⟨ys,hy,ry⟩:=sF sr e
   exact pV pins s σ H _ _ v us Q I rx rv ⟨_,ys,_,rfl,rfl,hy,by rw [ry.length];exact hl,xa sr e (ry.append (.cons a .nil)) b .non q⟩
abbrev GS:=T->T->T->Sto->(Sto->Prop)->Prop
def g6 (K:Fg) (g:GS):kc:=λo i v H Q=>∃ S to ti tv Qt,SRp K H S/\Rp K H S to o/\Rp K H S ti i/\Rp K H S tv v/\g to ti tv S Qt/\∀ H' S',Fr H S H' S'->SRp K H' S'->Qt S'->Q H'
def EX:GS:=λo i v S Q=>match o,i with
 |.ref a,.int k=>∃ us j,S a=some (.lst us)/\ixN us.length k=some j/\Q (put S a (.lst (us.set j v)))
 |_,_=>False
theorem CD:eI X (g6 K EX):=by
 rintro pins s σ H o i v ov iv u Q I ro ri rv ⟨S,to,ti,tv,Qt,sr,hO,hI,hV,hg,b⟩
 cases hO<;>first|exact hg.elim|skip
 cases hI<;>first|exact hg.elim|skip
 rename_i a k
 obtain ⟨us,j,e,hj,q⟩:=hg
 obtain ⟨ys,hy,ry⟩:=sF sr e
 have hn:S a≠none:=by rw [e];simp
 exact xP pins s σ H _ _ _ ov iv u Q I ro ri rv ⟨_,ys,_,j,rfl,rfl,hy,by rw [ry.length];exact hj,b _ _ (Fr.write hn) (sr.write hn (.lst aL ((Rps.set hV j ry).fr (Fr.write hn)))) q⟩
def nu (k:Nat):GS:=λo i v S Q=>match o,i with
 |.ref a,.int j=>j=k/\∃ us,S a=some (.lst us)/\k<us.length/\Q (put S a (.lst (us.set k v)))
 |_,_=>False
theorem iq (k:Nat):eI X (g6 K (nu k)):=by
 rintro pins s σ H o i v ov iv u Q I ro ri rv ⟨S,to,ti,tv,Qt,sr,hO,hI,hV,hg,b⟩
 refine CD pins s σ H o i v ov iv u Q I ro ri rv ⟨S,to,ti,tv,Qt,sr,hO,hI,hV,?_,b⟩
 cases hO<;>first|exact hg.elim|skip
 cases hI<;>first|exact hg.elim|skip
 obtain ⟨rfl,us,e,hk,q⟩:=hg
 refine ⟨us,k,e,?_,q⟩
 unfold ixN
 rw [if_pos (by omega),if_pos (by omega)]
 rfl
def wgS (wo wi:WE) (g:GS):WG:=λt σ S Q=>wo σ S λo S1=>wi σ S1 λi S2=>g o i t S2 λS3=>Q σ S3
theorem CF {o i:Expr}{wo wi:WE}{g:GS}{pos:Pos}(h:PG X (.Subscript o i pos) (L2.gY (lE K wo) (lE K wi) (g6 K g))):QG K X (.Subscript o i pos) (wgS wo wi g):=PG.of h λv σ H Q zz99=>by
 obtain ⟨S,t,σt,Qt,s,r,c,q,hq⟩:=zz99
 refine ⟨S,σt,_,s,c,q,λx H1 tx S1 f1 s1 r1 q1=>?_⟩
 refine ⟨S1,σt,_,s1,c.fr f1,q1,λy H2 ty S2 f2 s2 r2 q2=>?_⟩
 exact ⟨S2,tx,ty,t,_,s2,r1.fr f2,r2,(r.fr f1).fr f2,q2,λH' S' f s' q'=>hq σ H' σt S' ((f1.trans f2).trans f) s' (c.fr ((f1.trans f2).trans f)) q'⟩
end
theorem eD {w u:WS}{D:EndsT}{σ:StT}{S:Sto}(M:StT->Sto->Prop) (h1:∀ X:StT->Sto->Prop,(∀ σ S,M σ S->X σ S)->w { D with nx:=X } σ S) (h2:∀ σ S,M σ S->u D σ S):nK w u D σ S:=h1 _ h2
theorem rg {α:Type}{grd:Sto->Prop}{g:WG}{wb:WS}{D:EndsT}{f:α->T}{ls:List α}{σ:StT}{S:Sto}(Iv:List α->StT->Sto->Prop) (h0:Iv ls σ S)
  (step:∀ a r σ S (N:StT->Sto->Prop),Iv (a::r) σ S->(∀ σ' S',Iv r σ' S'->N σ' S')->grd S/\g (f a) σ S λσ2 S2=>wb { nx:=N,rt:=D.rt,bk:=D.nx,ct:=N } σ2 S2)
  (done:∀ σ S,Iv [] σ S->grd S/\D.nx σ S):d4 grd g wb D (ls.map f) σ S:=by
 induction ls generalizing σ S with
 |nil=>exact done σ S h0
 |cons a r ih=>exact step a r σ S _ h0 λσ' S' iv=>ih iv
theorem kI {grd:Sto->Prop}{g:WG}{wb:WS}{D:EndsT}{lo:Int}{n:Nat}{σ:StT}{S:Sto}(Iv:Nat->StT->Sto->Prop) (h0:Iv 0 σ S)
  (step:∀ k σ S (N:StT->Sto->Prop),k<n->Iv k σ S->(∀ σ' S',Iv (k+1) σ' S'->N σ' S')->grd S/\g (.int (lo+k)) σ S λσ2 S2=>wb { nx:=N,rt:=D.rt,bk:=D.nx,ct:=N } σ2 S2)
  (done:∀ σ S,Iv n σ S->grd S/\D.nx σ S):d4 grd g wb D (bR lo n) σ S:=by
 unfold bR
 have main:∀ (m k:Nat) σ S,k+m=n->Iv k σ S->d4 grd g wb D ((List.range' k m).map λ(i:Nat)=>T.int (lo+i)) σ S:=by
  intro m
  induction m with
  |zero=>intro k σ S e iv;rw [show k=n by omega] at iv;exact done σ S iv
  |succ m ih =>
   intro k σ S e iv
   rw [List.range'_succ,List.map_cons]
   exact step k σ S _ (by omega) iv λσ' S' iv'=>ih (k+1) σ' S' (by omega) iv'
 rw [List.range_eq_range']
 exact main n 0 σ S (by omega) h0
theorem hJ {grd:Sto->Prop}{g:WG}{tt:WT}{te:WE}{Q:List T->Sto->Prop}{items acc:List T}{σ:StT}{S:Sto}(Iv:List T->List T->StT->Sto->Prop) (h0:Iv items acc σ S)
  (step:∀ t ts acc σ S (N:List T->StT->Sto->Prop),Iv (t::ts) acc σ S->(∀ acc' σ' S',Iv ts acc' σ' S'->N acc' σ' S') ->
   grd S/\g t σ S λσ2 S2=>tt σ2 S2 λb S3=>if b=true then te σ2 S3 λy S4=>acc.length<sizeLine/\N (acc++[y]) σ2 S4 else N acc σ2 S3)
  (done:∀ acc σ S,Iv [] acc σ S->grd S/\Q acc S):c8 grd g tt te Q items acc σ S:=by
 induction items generalizing acc σ S with
 |nil=>exact done acc σ S h0
 |cons t ts ih=>exact step t ts acc σ S _ h0 λacc' σ' S' iv=>ih iv
theorem eW {α:Type}{grd:Sto->Prop}{g:WG}{tt:WT}{te:WE}{Q:List T->Sto->Prop}(f:α->T) (φ:α->Option T) (cs:StT){ls:List α}{S:Sto}(hg:grd S) (hz:ls.length<=sizeLine)
  (step:∀ a∈ls,∀ (u:Option T) (acc:List T) (N:List T->StT->Sto->Prop),acc.length<sizeLine->(∀ u',N (acc++(φ a).toList) (u'::cs) S) ->
   g (f a) (u::cs) S λσ2 S2=>tt σ2 S2 λb S3=>if b=true then te σ2 S3 λy S4=>acc.length<sizeLine/\N (acc++[y]) σ2 S4 else N acc σ2 S3)
  (done:Q (ls.filterMap φ) S):c8 grd g tt te Q (ls.map f) [] (none::cs) S:=by
 refine hJ (λitems acc σ' S'=>∃ pre suf u,ls=pre++suf/\items=suf.map f/\acc=pre.filterMap φ/\σ'=u::cs/\S'=S) ⟨[],ls,none,rfl,rfl,rfl,rfl,rfl⟩ ?_ ?_
 ·rintro t ts acc σ' S' N ⟨pre,suf,u,e,e2,rfl,rfl,rfl⟩ hN
  cases suf with
  |nil=>cases e2
  |cons a r =>
   simp only [List.map_cons,List.cons.injEq] at e2
   obtain ⟨rfl,rfl⟩:=e2
   refine ⟨hg,step a (by rw [e];simp) u _ N ?_ λu'=>hN _ _ _ ⟨pre++[a],r,u',by rw [e];simp,rfl,?_,rfl,rfl⟩⟩
   ·have h1:=List.length_filterMap_le φ pre
    have h2:=congrArg List.length e
    simp only [List.length_append,List.length_cons] at h2
    omega
   ·rw [List.filterMap_append];cases h:φ a<;>simp [h]
 ·rintro acc σ' S' ⟨pre,suf,u,e,e2,rfl,rfl,rfl⟩
  cases suf with
  |nil=>rw [List.append_nil] at e;subst e;exact ⟨hg,done⟩
  |cons a r=>cases e2
section
variable {σ:StT}{S S0:Sto}{D:EndsT}{Q:T->Sto->Prop}{B:Bool->Sto->Prop}{L:List T->Sto->Prop}{t x y z:T}{p:Addr}
theorem EY {w u:WS}(h:w { D with nx:=u D } σ S):nK w u D σ S:=h
theorem CG (h:D.nx σ S):t7 D σ S:=h
theorem CH {w:WE}(h:w σ S λ_ S1=>D.nx σ S1):t8 w D σ S:=h
theorem EZ {w:WE}(h:w σ S D.rt):u6 w D σ S:=h
theorem E1 {t:WT}{w u:WS}(h:t σ S λb S1=>if b=true then w D σ S1 else u D σ S1):va t w u D σ S:=h
theorem E2 {w:WE}{g:WG}(h:w σ S λt S1=>g t σ S1 D.nx):iU w g D σ S:=h
theorem uf {i:Nat}{σ2:StT}{Q:StT->Sto->Prop}(e:σ.set i (some t)=σ2) (h:Q σ2 S):wgN i t σ S Q:=by subst e;exact h
theorem GU {wo wi:WE}{g:GS}{Q:StT->Sto->Prop}(h:wo σ S λo S1=>wi σ S1 λi S2=>g o i t S2 λS3=>Q σ S3):wgS wo wi g t σ S Q:=h
theorem GV {n:Nat}{g:WGs}{ts:List T}{Q:StT->Sto->Prop}(l:ts.length=n) (h:g ts σ S Q):ua n g (.tup ts) σ S Q:=⟨ts,rfl,l,h⟩
theorem Ae {g:WG}{h:WGs}{ts:List T}{Q:StT->Sto->Prop}(q:g t σ S λσ' S'=>h ts σ' S' Q):sx g h (t::ts) σ S Q:=⟨t,ts,rfl,q⟩
theorem CI {Q:StT->Sto->Prop}(q:Q σ S):t9 [] σ S Q:=⟨rfl,q⟩
theorem E3 {wi:WI}{g:WG}{wb:WS}(h:wi σ S λsrc S1=>d4 src.grd g wb D src.items σ S1):nN wi g wb D σ S:=h
theorem i_V {i:Nat}(e:σ[i]?=some (some t)) (h:Q t S):wV i σ S Q:=⟨t,e,h⟩
theorem i_C (h:Q t S):wC t σ S Q:=h
theorem i_2 {g:G2}{wa wb:WE}(h:wa σ S λx S1=>wb σ S1 λy S2=>g x y S2 Q):w2 g wa wb σ S Q:=h
theorem i_B {w:WE}(h:w σ S λx S1=>∃ k,x=.bl k/\B k S1):wB w σ S B:=h
theorem GW {k:Bool}{C:Bool->Prop}(h:C k):∃ k',T.bl k=.bl k'/\C k':=⟨k,rfl,h⟩
theorem Af {g g':G2}{wa wb wc:WE}(h:wa σ S λx S1=>wb σ S1 λy S2=>g x y S2 λz S3=>∃ k,z=.bl k/\if k=true then wc σ S3 λu S4=>g' y u S4 Q else Q (.bl false) S3):jH g g' wa wb wc σ S Q:=h
theorem E4 {t u:WT}(h:t σ S λc S1=>if c=true then u σ S1 B else B false S1):uW t u σ S B:=h
theorem GX {t u:WT}(h:t σ S λc S1=>if c=true then B true S1 else u σ S1 B):wOr t u σ S B:=h
theorem E5 {t:WT}(h:t σ S λc S1=>B (!c) S1):uX t σ S B:=h
theorem CJ (h:B true S):jY σ S B:=h
theorem CK {wa wb:WE}(h:wa σ S λx S1=>∃ k,x=.bl k/\if k=true then wb σ S1 Q else Q (.bl false) S1):tY wa wb σ S Q:=h
theorem E6 {wa wb:WE}(h:wa σ S λx S1=>∃ k,x=.bl k/\if k=true then Q (.bl true) S1 else wb σ S1 Q):uY wa wb σ S Q:=h
theorem CL {wa:WE}(h:wa σ S λx S1=>∃ k,x=.bl k/\Q (.bl (!k)) S1):tZ wa σ S Q:=h
theorem GY {t:WT}{wa wb:WE}(h:t σ S λc S1=>if c=true then wa σ S1 Q else wb σ S1 Q):wIf t wa wb σ S Q:=h
theorem E7 (h:L [] S):eK σ S L:=h
theorem CM {wa:WE}{wr:WA}(h:wa σ S λx S1=>wr σ S1 λxs S2=>L (x::xs) S2):t5 wa wr σ S L:=h
theorem E8 {wr:WA}(h:wr σ S λts S1=>ts.length<=sizeLine/\Q (.tup ts) S1):uZ wr σ S Q:=h
theorem E9 {wr:WA}(h:wr σ S λts S1=>ts.length<=sizeLine/\Q (.lst ts) S1):u5 wr σ S Q:=h
theorem CN {wr:WA}(h:wr σ S λts S1=>ts.length<=sizeLine/\∀ p,S1 p=none->Q (.ref p) (put S1 p (.lst ts))):t6 wr σ S Q:=h
theorem CO {w:WSp}{dts:List T}{wr:WA}(h:wr σ S λts S1=>w (ts++dts) S1 Q):jW w dts wr σ S Q:=h
theorem GZ {g:GC}{wr:WA}(h:wr σ S λts S1=>g ts S1 Q):wCB g wr σ S Q:=h
theorem G0 {ty:String}{g:GM}{wa:WE}{wr:WA}(h:wa σ S λx S1=>tyM ty S1 x/\wr σ S1 λts S2=>g x ts S2 Q):wBM ty g wa wr σ S Q:=h
theorem Fa {wa:WE}(h:wa σ S λx S1=>match x with|.int i=>Q (.int (-i)) S1|_=>False):vm wa σ S Q:=h
theorem G6 {tr:Bool}{wa:WE}{wl wh:WO}(h:wa σ S λx S1=>wl σ S1 λl S2=>wh σ S2 λh S3=>gSl tr x l h S3 Q):wSl tr wa wl wh σ S Q:=h
theorem G7 {O':Option Int->Sto->Prop}(h:O' none S):woN σ S O':=h
theorem G8 {wa:WE}{O':Option Int->Sto->Prop}(h:wa σ S λx S1=>match x with|.int i=>O' (some i) S1|_=>False):woS wa σ S O':=h
theorem CP {tr:Bool}{wi:WI}{n:Nat}{caps:List Nat}{g:WG}{tt:WT}{te:WE}(h:wi σ S λsrc S1=>c8 src.grd g tt te (λts S2=>a9 tr ts S2 Q) src.items [] (gJ n caps σ) S1):jZ tr wi n caps g tt te σ S Q:=h
theorem CQ {ts:List T}(h:Q (.lst ts) S):a9 false ts S Q:=h
variable {R:Src->Sto->Prop}
theorem G9 {wa:WE}(h:wa σ S λx S1=>∃ ts,aX S1 x=some ts/\R ⟨ts,io x ts⟩ S1):wiL wa σ S R:=h
theorem Fc {wa:WE}(h:wa σ S λx S1=>match x with|.int j=>-(2 ^ 62)<=j/\j<2 ^ 62/\R ⟨bR 0 j.toNat,λ_=>True⟩ S1|_=>False):vo wa σ S R:=h
theorem G' {wa:WE}(h:wa σ S λx S1=>match x with|.str z=>R ⟨cx z,λ_=>True⟩ S1|_=>False):wiS wa σ S R:=h
variable {i j:Int}{a c:Str}{ts us:List T}
theorem Fd (h:Q (.int (i - j)) S):gY (.int i) (.int j) S Q:=⟨trivial,h⟩
theorem Fe (h0:0<j) (h1:j<18446744073709551616) (h:Q (.int (i / j)) S):vb (.int i) (.int j) S Q:=⟨⟨h0,h1⟩,h⟩
theorem Ff (h0:0<j) (h:Q (.int (i % j)) S):vc (.int i) (.int j) S Q:=⟨h0,h⟩
theorem Fh (h0:0<=j) (h1:j<=1000000) (h2:i.natAbs<2 ^ 64) (h:Q (.int (i ^ j.toNat)) S):vd (.int i) (.int j) S Q:=⟨⟨h0,h1,h2⟩,h⟩
theorem Fi (h0:0<=j) (h:Q (.int (i / 2 ^ j.toNat)) S):vf (.int i) (.int j) S Q:=⟨h0,h⟩
theorem CS {tr:Bool}(h:Q (.int (i+j)) S):km tr (.int i) (.int j) S Q:=h
theorem CT {tr:Bool}(h0:a.length+c.length<=sizeLine) (h:Q (.str (a++c)) S):km tr (.str a) (.str c) S Q:=⟨h0,h⟩
theorem CU {tr:Bool}(e1:cz S x=some ts) (e2:cz S y=some us) (hz:ts.length+us.length<=sizeLine) (h:a9 tr (ts++us) S Q):km tr x y S Q:=by
 cases x<;>first|(cases e1;done)|exact ⟨ts,us,e1,e2,hz,h⟩
theorem CV {tr:Bool}(h0:iT i j) (h:Q (.int (i * j)) S):vg tr (.int i) (.int j) S Q:=⟨h0,h⟩
theorem Fj {n:Bool}(h:Q (.bl (n ^^ decide (i=j))) S):gEq n (.int i) (.int j) S Q:=h
theorem Fk {n:Bool}(h:Q (.bl (n ^^ decide (a=c))) S):gEq n (.str a) (.str c) S Q:=h
theorem Fl {n k l:Bool}(h:Q (.bl (n ^^ decide (k=l))) S):gEq n (.bl k) (.bl l) S Q:=h
theorem Fm (h:Q (.bl (decide (i<j))) S):gLt (.int i) (.int j) S Q:=h
theorem Fn (h:Q (.bl (decide (i<=j))) S):gLe (.int i) (.int j) S Q:=h
theorem Fo (h:Q (.bl (decide (j<i))) S):gGt (.int i) (.int j) S Q:=h
theorem Fp (h:Q (.bl (decide (j<=i))) S):gGe (.int i) (.int j) S Q:=h
theorem Fq (h:Q (.bl (!ltS c a)) S):gLe (.str a) (.str c) S Q:=h
theorem Ha {n:Bool}(h:Q (.bl (n ^^ isN x)) S):gIs n x .non S Q:=h
theorem iK (e:atI ts i=some t) (h:Q t S):gIx (.tup ts) (.int i) S Q:=⟨t,e,h⟩
theorem fz (e:atI ts i=some t) (h:Q t S):gIx (.lst ts) (.int i) S Q:=⟨t,e,h⟩
theorem ug (e:S p=some (.lst ts)) (e2:atI ts i=some t) (h:Q t S):gIx (.ref p) (.int i) S Q:=⟨t,(Cu e).trans e2,h⟩
theorem Fs {d:Nat}(hz:a.length<=sizeLine) (e:atI a.cps.toList i=some d) (h:Q (.str ⟨#[d]⟩) S):gIx (.str a) (.int i) S Q:=⟨_,by show (if _ then _ else _)=_;rw [if_pos hz,e];rfl,h⟩
theorem Ft {tr:Bool}{lo hi:Option Int}(hz:a.length<=sizeLine) (h:Q (.str (Txt.slice a lo hi)) S):gSl tr (.str a) lo hi S Q:=⟨hz,h⟩
theorem uh {tr:Bool}{lo hi:Option Int}(h:a9 tr (fF ts lo hi) S Q):gSl tr (.lst ts) lo hi S Q:=⟨ts,rfl,h⟩
theorem jI {α:Type}{ls:List α}(h0:0<=i) (h1:i<ls.length):∃ z,atI ls i=some z/\z∈ls:=by
 have hj:i.toNat<ls.length:=by omega
 refine ⟨ls[i.toNat],?_,List.getElem_mem hj⟩
 have e:((i.toNat:Nat):Int)=i:=by omega
 have:=jt (xs:=ls) (j:=i.toNat) (v:=ls[i.toNat]) (by simp [hj])
 rw [e] at this
 exact this
theorem lQ {α β:Type}{ls:List α}(f:α->β):atI (ls.map f) i=(atI ls i).map f:=by
 unfold atI
 rw [List.length_map]
 cases ixN ls.length i with
 |none=>rfl
 |some j=>simp [List.getElem?_map]
theorem yf {α:Type}{a:α}{l:List α}:atI (a::l) 0=some a:=by
 unfold atI ixN
 rw [if_pos (Int.le_refl 0),if_pos (by simp only [List.length_cons];omega)]
 rfl
theorem CW (h:Q x S):gIx (.lst (x::ts)) (.int 0) S Q:=⟨x,yf,h⟩
theorem eE (P:T->Prop) (h0:0<=i) (h1:i<ts.length) (hp:∀ t∈ts,P t) (h:∀ t,P t->Q t S):gIx (.lst ts) (.int i) S Q:=by
 obtain ⟨z,e,hz⟩:=jI h0 h1
 exact ⟨z,by simp only [sA,e],h z (hp z hz)⟩
theorem Fu {α:Type}{f:α->T}{ls:List α}(h0:0<=i) (h1:i<ls.length) (h:∀ z,z∈ls->atI ls i=some z->Q (f z) S):gIx (.lst (ls.map f)) (.int i) S Q:=by
 obtain ⟨z,e,hz⟩:=jI h0 h1
 exact ⟨f z,by simp only [sA,lQ,e,Option.map_some],h z hz e⟩
theorem ui {ns:List Int}(h0:0<=i) (h1:i<ns.length) (h:∀ z,z∈ns->atI ns i=some z->Q (.int z) S):gIx (.scr ns) (.int i) S Q:=by
 obtain ⟨z,e,hz⟩:=jI h0 h1
 exact ⟨.int z,by show atI (ns.map T.int) i=_;simp only [lQ,e,Option.map_some],h z hz e⟩
theorem Ag {Q:Sto->Prop}{k:Nat}(e0:i=k) (hk:k<ts.length) (e:ts.set k t=us) (h:Q (put S p (.lst us))):nu k (.ref p) (.int i) t (put S p (.lst ts)) Q:=⟨e0,ts,aJ,hk,by rw [cc,e];exact h⟩
theorem CY {Q:Sto->Prop}{k:Nat}(e1:S p=some (.lst ts)) (e0:i=k) (hk:k<ts.length) (e:ts.set k t=us) (h:Q (put S p (.lst us))):nu k (.ref p) (.int i) t S Q:=⟨e0,ts,e1,hk,by rw [e];exact h⟩
theorem Fv {n:Bool}(f:bD x=true) (f2:ts.all bD=true) (h:Q (.bl (n ^^ ts.any λy=>eqF y x)) S):gIn n x (.tup ts) S Q:=.inr (.inl ⟨ts,rfl,f,f2,h⟩)
theorem uj {n:Bool}(f:bD x=true) (f2:ts.all bD=true) (h:Q (.bl (n ^^ ts.any λy=>eqF y x)) S):gIn n x (.lst ts) S Q:=.inr (.inr ⟨ts,rfl,f,f2,h⟩)
theorem Fw {n:Bool}(e:S p=some (.lst ts)) (f:bD x=true) (f2:ts.all bD=true) (h:Q (.bl (n ^^ ts.any λy=>eqF y x)) S):gIn n x (.ref p) S Q:=.inr (.inr ⟨ts,ik e,f,f2,h⟩)
theorem CZ (hz:a.length<=sizeLine) (h:Q (.int a.length) S):g5 [.str a] S Q:=⟨_,if_pos hz,h⟩
theorem C0 (h:Q (.int ts.length) S):g5 [.tup ts] S Q:=⟨_,rfl,h⟩
theorem C1 (h:Q (.int ts.length) S):g5 [.lst ts] S Q:=⟨_,rfl,h⟩
theorem Ah:kn S (.lst ts)=some (ts.length:Int):=rfl
theorem Ai {ns:List Int}:kn S (.scr ns)=some ((ns.map T.int).length:Int):=rfl
theorem C2 {α:Type}{f:α->T}{ls:List α}(h:Q (.int ls.length) S):g5 [.lst (ls.map f)] S Q:=⟨_,by rw [Ah,List.length_map],h⟩
theorem C3 {ns:List Int}(h:Q (.int ns.length) S):g5 [.scr ns] S Q:=⟨_,by rw [Ai,List.length_map],h⟩
theorem Fy {K:Fg}{n:String}{v:Value}{b:Bool}(e:tyT S x=some v) (k:PySem.W.kitOne K v (.type n)=some b) (h:Q (.bl b) S):vt K [x,.ty n] S Q:=⟨v,b,e,k,h⟩
theorem sG {bs:List Bool}(e:eM ts=some bs) (h:Q (.bl (bs.all id)) S):vv [.lst ts] S Q:=⟨ts,bs,rfl,e,h⟩
theorem Aj {tr:Bool}(e:S p=some (.lst ts)) (h:a9 tr ts S Q):uc tr [.ref p] S Q:=⟨ts,ik e,h⟩
theorem Ak {tr:Bool}(h0:c.length≠0) (h1:a.length<=1000) (h:a9 tr ((Txt.split a c).map T.str) S Q):sE tr (.str a) [.str c] S Q:=⟨h0,h1,h⟩
theorem Al {zs:List Str}(e:fu ts=some zs) (h0:JoinOk a zs=true) (h:Q (.str (Txt.join a zs)) S):ue (.str a) [.lst ts] S Q:=⟨ts,zs,rfl,e,h0,h⟩
theorem yg (h:Q (.bl (Txt.startswith a c)) S):qZ (.str a) [.str c] S Q:=h
theorem qA (e:S p=some (.lst ts)) (h0:ts.length<sizeLine) (h:Q .non (put S p (.lst (ts++[y])))):re (.ref p) [y] S Q:=⟨ts,e,h0,h⟩
theorem Fz {Q:Prop}(h:Q):tyM "str" S (.str a)/\Q:=⟨rfl,h⟩
theorem FA {Q:Prop}(e:S p=some (.lst ts)) (h:Q):tyM "list" S (.ref p)/\Q:=⟨by delta tyM;dsimp only;rw [e],h⟩
theorem FB {A:List T->Prop}(h:A ts):∃ us,aX S (.lst ts)=some us/\A us:=⟨ts,rfl,h⟩
theorem FC {A:List T->Prop}(e:S p=some (.lst ts)) (h:A ts):∃ us,aX S (.ref p)=some us/\A us:=⟨ts,ik e,h⟩
theorem Hb {ts:List T}{n:Nat}{Q:Prop}(e:ts.length<=sizeLine) (h:Q):ts.length<=sizeLine/\Q:=⟨e,h⟩
theorem C4 (hz:a.length<=sizeLine) (h0:0<=i) (h1:i<a.length) (h:∀ d,d∈a.cps.toList->atI a.cps.toList i=some d->Q (.str ⟨#[d]⟩) S):gIx (.str a) (.int i) S Q:=by
 obtain ⟨d,e,hd⟩:=jI (ls:=a.cps.toList) h0 (by simpa [Str.length] using h1)
 exact Fs hz e (h d hd e)
theorem Le.put {o:O}(h:S p=Option.none):Le S (T2.put S p o):=λa u e=>by
 have:a≠p:=λz=>by rw [z,h] at e;cases e
 rw [aD this];exact e
theorem Le.trans {S1 S2 S3:Sto}(a:Le S1 S2) (b:Le S2 S3):Le S1 S3:=λc o h=>b c o (a c o h)
theorem bN {a b:Addr}{o:O}(h:T2.put S a o b=Option.none):b≠a/\S b=Option.none:=by
 have ne:b≠a:=λz=>by rw [z,aJ] at h;cases h
 exact ⟨ne,by rw [aD ne] at h;exact h⟩
theorem Am (z:Str) (ws:List Str):((ws.map T.str).any λy=>eqF y (.str z))=decide (z∈ws):=by
 induction ws with
 |nil=>rfl
 |cons a l ih =>
  rw [List.map_cons,List.any_cons,ih,Bool.eq_iff_iff]
  simp only [EU,Bool.or_eq_true,beq_iff_eq,decide_eq_true_eq,List.mem_cons]
  constructor
  ·rintro (h|h)
   ·exact .inl h.symm
   ·exact .inr h
  ·rintro (h|h)
   ·exact .inl h.symm
   ·exact .inr h
theorem xb (ws:List Str):(ws.map T.str).all bD=true:=by
 induction ws with
 |nil=>rfl
 |cons a l ih=>rw [List.map_cons,List.all_cons,ih];rfl
theorem C5 {n:Bool}{ws:List Str}{zz:Str}(e:S p=some (.lst (ws.map T.str))) (h:Q (.bl (n ^^ decide (zz∈ws))) S):gIn n (.str zz) (.ref p) S Q:=Fw e rfl (xb ws) (by rw [Am];exact h)
theorem Le.put2 {S1 S2:Sto}{o:O}(l:Le S1 S2):Le (T2.put S1 p o) (T2.put S2 p o):=λa u e=>by
 by_cases h:a=p
 ·subst h;rw [aJ] at e ⊢;exact e
 ·rw [aD h] at e ⊢;exact l a u e
def iV {α:Type}(ls:List α) (lo hi:Option Int):List α:=(ls.drop (HT.sIx ls.length 0 lo)).take (HT.sIx ls.length ls.length hi - HT.sIx ls.length 0 lo)
theorem yh {α:Type}{f:α->T}{ls:List α}{lo hi:Option Int}:fF (ls.map f) lo hi=(iV ls lo hi).map f:=by
 unfold fF iV
 rw [List.length_map,List.map_take,List.map_drop]
theorem rh {α:Type}{ls:List α}{k:Int}(h:0<=k):iV ls none (some k)=ls.take k.toNat:=by
 unfold iV
 have e:((k.toNat:Nat):Int)=k:=by omega
 rw [<- e,HT.sIx_nat,HT.sIx_none,Int.toNat_natCast,List.drop_zero,Nat.sub_zero,Nat.min_comm,<- List.take_take]
 exact List.take_of_length_le (by rw [List.length_take];omega)
theorem FD {tr:Bool}{α:Type}{f:α->T}{ls:List α}{lo hi:Option Int}(h:a9 tr ((iV ls lo hi).map f) S Q):gSl tr (.lst (ls.map f)) lo hi S Q:=uh (by rw [yh];exact h)
theorem FE {A:Prop}(h0:-(2 ^ 62)<=j) (h1:j<2 ^ 62) (h:A):-(2 ^ 62)<=j/\j<2 ^ 62/\A:=⟨h0,h1,h⟩
theorem ifT {A C:Prop}(h:A):if true=true then A else C:=by rw [if_pos rfl];exact h
theorem ifF {A C:Prop}(h:C):if false=true then A else C:=by rw [if_neg Bool.false_ne_true];exact h
theorem Hd {A C:Prop}(h:C):if (!true)=true then A else C:=ifF h
theorem He {A C:Prop}(h:A):if (!false)=true then A else C:=ifT h
theorem ifB {b:Bool}{A C:Prop}(h1:b=true->A) (h2:b=false->C):if b=true then A else C:=by
 cases b with
 |true=>exact ifT (h1 rfl)
 |false=>exact ifF (h2 rfl)
end
end T2
namespace S6
open PySem PyProof.Rows
def rk (ρ:Keyed->Nat) (xs:Array Keyed) (i:Nat):Nat:=((xs[i]?).map ρ).getD 0
theorem ul {ρ:Keyed->Nat}{xs ys:Array Keyed}{i j:Nat}(h:xs[i]?=ys[j]?):rk ρ xs i=rk ρ ys j:=by unfold rk;rw [h]
theorem ir {ρ:Keyed->Nat}{xs:Array Keyed}{i j:Nat}(hj:j<=xs.size) (k:Nat) :
  rk ρ (mirror xs i j ((j - i) / 2)) k=rk ρ xs (if i<=k/\k<j then i+j - 1 - k else k):=by
 refine ul ?_
 rw [getElem?_mirror_all hj]
 split<;>rfl
theorem rj {ρ:Keyed->Nat}{xs:Array Keyed}{n d:Nat}(hn:n<xs.size) (hd:d<=n) (k:Nat) :
  rk ρ (bubble xs n d) k=rk ρ xs (if k=n - d then n else if n - d<k/\k<=n then k - 1 else k):=by
 refine ul ?_
 rw [getElem?_bubble hn d hd]
 split
 ·rfl
 ·split<;>rfl
def Up (ρ:Keyed->Nat) (xs:Array Keyed) (n:Nat):Prop:=∀ i j,i<=j->j<n->rk ρ xs i<=rk ρ xs j
def Dn (ρ:Keyed->Nat) (xs:Array Keyed) (n:Nat):Prop:=∀ i j,i<=j->j<n->rk ρ xs j<=rk ρ xs i
structure Ok (kd:SortKind) (a₀:Array Keyed) (st:SortSt):Prop where
 perm:(arrOf st).Perm a₀
 kind:kindOf st=kd
 well:failedOf st=none
 runs:pendingOf st=#[]
theorem Ok.sz {kd a₀ st}(o:Ok kd a₀ st):(arrOf st).size=a₀.size:=o.perm.size_eq
theorem Ok.arr {kd a₀ st xs}(o:Ok kd a₀ st) (h:xs.Perm (arrOf st)):Ok kd a₀ (setArr st xs):=⟨h.trans o.perm,o.kind,o.well,o.runs⟩
def Cm (prog:Program) (w:World) (A:Around) (s:Shared) (kd:SortKind) (a₀:Array Keyed) (ρ:Keyed->Nat):Prop :=
 ∀ x y,x∈a₀.toList->y∈a₀.toList->∀ (E:Value->Shared->Prop) (Q:Bool->Shared->Prop),Q (decide (ρ x<ρ y)) s->wpAny (model prog w) A (keyLt' kd x.1 y.1) Q E s
section
variable {prog:Program}{w:World}{A:Around}{E:Value->Shared->Prop}{s:Shared}{a₀:Array Keyed}{kd:SortKind}{ρ:Keyed->Nat}{st:SortSt}
theorem ix {i j:Nat}{Q:Option Bool->SortSt->Prop}(C:Cm prog w A s kd a₀ ρ) (o:Ok kd a₀ st) (hi:i<a₀.size) (hj:j<a₀.size) (h:Q (some (decide (rk ρ (arrOf st) i<rk ρ (arrOf st) j))) st) :
  wpS (model prog w) A E s (ltAt' i j) Q st:=by
 have get:∀ k,k<a₀.size->∃ p,(arrOf st)[k]?=some p/\p∈a₀.toList:=λk hk=>by
  have hk':k<(arrOf st).size:=by rw [o.sz];exact hk
  exact ⟨_,getElem?_pos _ k hk',(Array.perm_iff_toList_perm.mp o.perm).mem_iff.mp (by simp)⟩
 obtain ⟨p,ep,mp⟩:=get i hi
 obtain ⟨q,eq,mq⟩:=get j hj
 have h':Q (some (decide (ρ p<ρ q))) st:=by unfold rk at h;rw [ep,eq] at h;exact h
 rw [ltAt'_eq]
 refine wpS_bind (wpS_get ?_)
 dsimp only
 rw [elem'_eq,ep]
 refine wpS_bind (wpS_pure ?_)
 rw [elem'_eq,eq]
 refine wpS_bind (wpS_pure ?_)
 rw [lt'_eq]
 refine wpS_bind (wpS_get (wpS_bind ?_))
 rw [o.kind]
 exact wpS_lift (wpAny_attempt (C p q mp mq _ _ ⟨rfl,wpS_pure h'⟩))
theorem uo {a n:Nat}{Q:AscSt->SortSt->Prop}(C:Cm prog w A s kd a₀ ρ) (o:Ok kd a₀ st) (hn:n<=a₀.size) (h1:1<=a) (ha:a<=n) (u:Up ρ (arrOf st) a)
  (h:∀ m,a<=m->m<=n->Up ρ (arrOf st) m->(m<n->rk ρ (arrOf st) m<rk ρ (arrOf st) (m - 1))->Q (none,m) st):wpS (model prog w) A E s (ascLoop a n) Q st:=by
 unfold ascLoop
 refine wpS_forRange (λk c z=>z=st/\c=(none,k)/\Up ρ (arrOf st) k) ?_ ?_ ⟨rfl,rfl,u⟩
 ·rintro k c z l1 l2 ⟨rfl,rfl,uk⟩
  refine wpS_bind (ix C o (by dsimp only;omega) (by dsimp only;omega) ?_)
  dsimp only
  by_cases g:rk ρ (arrOf z) k<rk ρ (arrOf z) (k - 1)
  ·rw [decide_eq_true g]
   exact wpS_pure (h k l1 (by omega) uk λ_=>g)
  ·rw [decide_eq_false g]
   refine wpS_pure ⟨rfl,rfl,λi j ij jk=>?_⟩
   rcases Nat.lt_or_ge j k with q|q
   ·exact uk i j ij q
   ·obtain rfl:j=k:=by omega
    rcases Nat.lt_or_ge i j with q|q
    ·have:=uk i (j - 1) (by omega) (by omega)
     omega
    ·obtain rfl:i=j:=by omega
     exact Nat.le_refl _
 ·rintro c z ⟨rfl,rfl,uk⟩
  rw [Nat.max_eq_right ha] at uk ⊢
  exact h n ha (Nat.le_refl _) uk λq=>absurd q (Nat.lt_irrefl _)
theorem sH {m n:Nat}{Q:Option Nat->SortSt->Prop}(C:Cm prog w A s kd a₀ ρ) (o:Ok kd a₀ st) (hn:n<=a₀.size) (h1:1<=m) (hm:m<=n) (d:Dn ρ (arrOf st) m)
  (h:∀ k z,Ok kd a₀ z->1<=k->k<=n->Up ρ (arrOf z) k->Q (some k) z):wpS (model prog w) A E s (tail3 m n) Q st:=by
 unfold tail3
 refine wpS_bind (wpS_reverse ?_)
 have o':Ok kd a₀ (setArr st (mirror (arrOf st) 0 m ((m - 0) / 2))):=o.arr (mirror_perm _ _ _ _)
 refine wpS_bind (uo C o' hn h1 hm (λi j ij jm=>?_) λk k1 k2 uk _=>wpS_pure (h k _ o' (by omega) k2 uk))
 show rk ρ (mirror (arrOf st) 0 m ((m - 0) / 2)) i<=rk ρ (mirror (arrOf st) 0 m ((m - 0) / 2)) j
 rw [ir (by rw [o.sz];omega),ir (by rw [o.sz];omega),if_pos (by omega),if_pos (by omega)]
 exact d _ _ (by omega) (by omega)
def Lk (ρ:Keyed->Nat) (xs:Array Keyed) (m e:Nat):Prop:=e+1<=m/\∀ i,m - (e+1)<=i->i<m->rk ρ xs i=rk ρ xs (m - 1)
theorem Lk.rev {xs:Array Keyed}{m e:Nat}(l:Lk ρ xs m e) (hm:m<=xs.size) (k:Nat):rk ρ (mirror xs (m - (e+1)) m ((m - (m - (e+1))) / 2)) k=rk ρ xs k:=by
 rw [ir hm]
 split
 ·rename_i q
  rw [l.2 _ (by have:=l.1;omega) (by omega),l.2 k q.1 q.2]
 ·rfl
theorem C6 {m n:Nat}{Q:DescSt->SortSt->Prop}(C:Cm prog w A s kd a₀ ρ) (o:Ok kd a₀ st) (hn:n<=a₀.size) (h1:1<=m) (hm:m<=n) (d:Dn ρ (arrOf st) m)
  (h:∀ k e z,Ok kd a₀ z->m<=k->k<=n->Dn ρ (arrOf z) k->Lk ρ (arrOf z) k e->Q (none,k,e) z):wpS (model prog w) A E s (descLoop m n) Q st:=by
 unfold descLoop
 refine wpS_forRange (λk c z=>∃ e,c=(none,k,e)/\Ok kd a₀ z/\Dn ρ (arrOf z) k/\Lk ρ (arrOf z) k e) ?_ ?_ ⟨0,rfl,o,d,h1,λi i1 i2=>by rw [show i=m - 1 by omega]⟩
 ·rintro k c z l1 l2 ⟨e,rfl,oz,dz,lz⟩
  refine wpS_bind (ix C oz (by dsimp only;omega) (by dsimp only;omega) ?_)
  dsimp only
  have more:∀ xs:Array Keyed,(∀ i,rk ρ xs i=rk ρ (arrOf z) i)->rk ρ (arrOf z) k<=rk ρ (arrOf z) (k - 1)->Dn ρ xs (k+1):=λxs hx le i j ij jk=>by
   rw [hx,hx]
   rcases Nat.lt_or_ge j k with q|q
   ·exact dz i j ij q
   ·obtain rfl:j=k:=by omega
    rcases Nat.lt_or_ge i j with q|q
    ·have:=dz i (j - 1) (by omega) (by omega)
     omega
    ·obtain rfl:i=j:=by omega
     exact Nat.le_refl _
  by_cases g:rk ρ (arrOf z) k<rk ρ (arrOf z) (k - 1)
  ·rw [decide_eq_true g]
   simp only [if_true]
   split
   ·refine wpS_bind (wpS_reverse (wpS_pure ⟨0,rfl,oz.arr (mirror_perm _ _ _ _),more _ (lz.rev (by rw [oz.sz];omega)) (by omega),by omega,λi i1 i2=>by rw [show i=k+1 - 1 by omega]⟩))
   ·exact wpS_pure ⟨0,rfl,oz,more _ (λ_=>rfl) (by omega),by omega,λi i1 i2=>by rw [show i=k+1 - 1 by omega]⟩
  ·rw [decide_eq_false g]
   simp only [Bool.false_eq_true,if_false]
   refine wpS_bind (ix C oz (by omega) (by omega) ?_)
   by_cases g2:rk ρ (arrOf z) (k - 1)<rk ρ (arrOf z) k
   ·rw [decide_eq_true g2]
    simp only [if_true]
    exact wpS_pure (h k e z oz l1 (by omega) dz lz)
   ·rw [decide_eq_false g2]
    simp only [Bool.false_eq_true,if_false]
    refine wpS_pure ⟨e+1,rfl,oz,more _ (λ_=>rfl) (by omega),by have:=lz.1;omega,λi i1 i2=>?_⟩
    rw [show k+1 - 1=k by omega]
    rcases Nat.lt_or_ge i k with q|q
    ·rw [lz.2 i (by omega) q];omega
    ·rw [show i=k by omega]
 ·rintro c z ⟨e,rfl,oz,dz,lz⟩
  rw [Nat.max_eq_right hm] at dz lz ⊢
  exact h n e z oz hm (Nat.le_refl _) dz lz
theorem pD {m n:Nat}{Q:Option Nat->SortSt->Prop}(C:Cm prog w A s kd a₀ ρ) (o:Ok kd a₀ st) (hn:n<=a₀.size) (hm:m+1<=n) (d:Dn ρ (arrOf st) (m+1))
  (h:∀ k z,Ok kd a₀ z->1<=k->k<=n->Up ρ (arrOf z) k->Q (some k) z):wpS (model prog w) A E s (descPart m n) Q st:=by
 unfold descPart
 refine wpS_bind (wpS_lift (wpAny_rule ⟨rfl,wpS_bind (C6 C o hn (by omega) hm d λk e z oz k1 k2 dz lz=>?_)⟩))
 dsimp only
 split
 ·refine wpS_bind (wpS_reverse (sH C (oz.arr (mirror_perm _ _ _ _)) hn (by omega) k2 (λi j ij jk=>?_) h))
  have e:=lz.rev (by rw [oz.sz];omega)
  show rk ρ (mirror _ _ _ _) j<=rk ρ (mirror _ _ _ _) i
  rw [e,e]
  exact dz i j ij jk
 ·exact sH C oz hn (by omega) k2 dz h
theorem An {n:Nat}{Q:Option Nat->SortSt->Prop}(C:Cm prog w A s kd a₀ ρ) (o:Ok kd a₀ st) (hn:n<=a₀.size) (h1:1<=n)
  (h:∀ k z,Ok kd a₀ z->1<=k->k<=n->Up ρ (arrOf z) k->Q (some k) z):wpS (model prog w) A E s (countRun' 0 n) Q st:=by
 rw [countRun0_eq]
 refine wpS_bind (uo C o hn (Nat.le_refl _) h1 (λi j ij j1=>by rw [show i=j by omega];exact Nat.le_refl _) λm m1 m2 um lm=>?_)
 dsimp only
 split
 ·rename_i q
  exact wpS_pure (h m st o m1 m2 um)
 ·rename_i q
  have mn:m<n:=by
   rcases Nat.lt_or_ge m n with z|z
   ·exact z
   ·exact (q (beq_iff_eq.mpr (by omega))).elim
  have gm:=lm mn
  split
  ·refine wpS_bind (ix C o (by omega) (by omega) ?_)
   dsimp only
   by_cases g:rk ρ (arrOf st) 0<rk ρ (arrOf st) (m - 1)
   ·rw [decide_eq_true g]
    exact wpS_pure (h m st o m1 m2 um)
   ·rw [decide_eq_false g]
    refine wpS_bind (wpS_reverse (pD C (o.arr (mirror_perm _ _ _ _)) hn mn (λi j ij jm=>?_) h))
    have all:∀ i,i<m->rk ρ (arrOf st) i=rk ρ (arrOf st) (m - 1):=λi im=>by
     have a1:=um 0 i (by omega) im
     have a2:=um i (m - 1) (by omega) (by omega)
     omega
    show rk ρ (mirror _ _ _ _) j<=rk ρ (mirror _ _ _ _) i
    rw [ir (by rw [o.sz];omega),ir (by rw [o.sz];omega)]
    rcases Nat.lt_or_ge j m with q1|q1
    ·rw [if_pos (by omega),if_pos (by omega),all _ (by omega),all (0+m - 1 - i) (by omega)]
     exact Nat.le_refl _
    ·obtain rfl:j=m:=by omega
     rw [if_neg (by omega)]
     split
     ·rw [all (0+j - 1 - i) (by omega)];omega
     ·rw [show i=j by omega];exact Nat.le_refl _
  ·refine pD C o hn mn (λi j ij jm=>?_) h
   obtain rfl:m=1:=by omega
   rcases Nat.lt_or_ge i j with q1|q1
   ·obtain ⟨rfl,rfl⟩:i=0/\j=1:=by omega
    exact Nat.le_of_lt gm
   ·rw [show i=j by omega];exact Nat.le_refl _
theorem FF {n ok:Nat}{Q:Bool->SortSt->Prop}(C:Cm prog w A s kd a₀ ρ) (o:Ok kd a₀ st) (hn:n<=a₀.size) (hk:ok<=n) (u:Up ρ (arrOf st) ok)
  (h:∀ z,Ok kd a₀ z->Up ρ (arrOf z) n->Q true z):wpS (model prog w) A E s (binarySort' 0 n ok) Q st:=by
 rw [binarySort'_eq]
 simp only [Nat.zero_add]
 have first:∀ {k:Nat},k<=max ok 1->Up ρ (arrOf st) k:=fun {k} hk1 i j ij jk=>by
  rcases Nat.lt_or_ge j ok with q|q
  ·exact u i j ij q
  ·rw [show i=j by omega];exact Nat.le_refl _
 refine wpS_bind (wpS_mono (wpS_forRange (λk c z=>c=(none,())/\Ok kd a₀ z/\∀ i,i<=k->i<=n->Up ρ (arrOf z) i) (Q:=λc z=>c=(none,())/\Ok kd a₀ z/\Up ρ (arrOf z) n) ?_ ?_ ⟨rfl,o,λi i1 _=>first i1⟩) ?_)
 ·rintro k c z l1 l2 ⟨rfl,oz,uz⟩
  have uk:=uz k (Nat.le_refl _) (by omega)
  have kz:k<(arrOf z).size:=by rw [oz.sz];omega
  refine wpS_bind (wpS_mono (wpS_forRange
   (λi c y=>y=z/\∃ l r,c=(none,l,r)/\l<=r/\r<=k/\r+i<=l+k/\(∀ j,j<l->rk ρ (arrOf z) j<=rk ρ (arrOf z) k)/\∀ j,r<=j->j<k->rk ρ (arrOf z) k<rk ρ (arrOf z) j)
   (Q:=λc y=>y=z/\∃ l r,c=(none,l,r)/\l<=k/\(∀ j,j<l->rk ρ (arrOf z) j<=rk ρ (arrOf z) k)/\∀ j,l<=j->j<k->rk ρ (arrOf z) k<rk ρ (arrOf z) j) ?_ ?_
   ⟨rfl,0,k,rfl,Nat.zero_le _,Nat.le_refl _,by omega,λj j0=>absurd j0 (Nat.not_lt_zero _),λj j1 j2=>by omega⟩) ?_)
  ·rintro i c y i1 i2 ⟨rfl,l,r,rfl,lr,rk',lk,lo,hi⟩
   dsimp only
   split
   ·obtain rfl:l=r:=by omega
    exact wpS_pure ⟨rfl,l,l,rfl,rk',lo,hi⟩
   ·refine wpS_bind (ix C oz (by omega) (by omega) ?_)
    by_cases g:rk ρ (arrOf y) k<rk ρ (arrOf y) ((l+r) / 2)
    ·rw [decide_eq_true g]
     refine wpS_pure ⟨rfl,l,(l+r) / 2,rfl,by omega,by omega,by omega,lo,λj j1 j2=>?_⟩
     exact Nat.lt_of_lt_of_le g (uk _ _ j1 j2)
    ·rw [decide_eq_false g]
     refine wpS_pure ⟨rfl,(l+r) / 2+1,r,rfl,by omega,rk',by omega,λj j1=>?_,hi⟩
     exact Nat.le_trans (uk _ _ (by omega) (by omega)) (Nat.le_of_not_lt g)
  ·rintro c y ⟨rfl,l,r,rfl,lr,rk',lk,lo,hi⟩
   obtain rfl:l=r:=by omega
   exact ⟨rfl,l,l,rfl,rk',lo,hi⟩
  ·rintro c y ⟨rfl,l,r,rfl,lk,lo,hi⟩
   dsimp only
   rw [moveDown'_eq]
   refine wpS_bind (wpS_modify (wpS_pure ⟨rfl,oz.arr (bubble_perm _ _ _),λm m1 m2 i j ij jm=>?_⟩))
   show rk ρ (bubble (arrOf y) k (k - l)) i<=rk ρ (bubble (arrOf y) k (k - l)) j
   rw [rj kz (by omega),rj kz (by omega),show k - (k - l)=l by omega]
   rcases Nat.lt_trichotomy j l with q|q|q
   ·rw [if_neg (by omega),if_neg (by omega),if_neg (by omega),if_neg (by omega)]
    exact uk _ _ ij (by omega)
   ·rw [if_pos q]
    split
    ·exact Nat.le_refl _
    ·rw [if_neg (by omega)]
     exact lo _ (by omega)
   ·rw [if_neg (show ¬ j=l by omega),if_pos (show l<j/\j<=k by omega)]
    split
    ·exact Nat.le_of_lt (hi _ (by omega) (by omega))
    ·split
     ·exact uk _ _ (by omega) (by omega)
     ·exact uk _ _ (by omega) (by omega)
 ·rintro c z ⟨e,oz,uz⟩
  exact ⟨e,oz,uz n (by omega) (Nat.le_refl _)⟩
 ·rintro c z ⟨rfl,oz,uz⟩
  exact wpS_pure (h z oz uz)
theorem C7 {Q:Unit->SortSt->Prop}(C:Cm prog w A s kd a₀ ρ) (o:Ok kd a₀ st) (h2:2<=a₀.size) (h64:a₀.size<64)
  (h:∀ z,(arrOf z).Perm a₀->failedOf z=none->Up ρ (arrOf z) a₀.size->Q () z):wpS (model prog w) A E s sortRuns' Q st:=by
 rw [sortRuns'_eq]
 refine wpS_bind (wpS_get ?_)
 dsimp only
 have run:minRun' a₀.size a₀.size 0=a₀.size:=by
  have:∀ f,0<f->minRun' f a₀.size 0=a₀.size:=λf hf=>by
   cases f with
   |zero=>omega
   |succ f=>rw [minRun'_succ,if_pos h64];rfl
  exact this _ (by omega)
 simp only [o.sz,run]
 let D:SortSt->Prop:=λz=>(arrOf z).Perm a₀/\failedOf z=none/\(pendingOf z).size=1/\Up ρ (arrOf z) a₀.size
 have fin:∀ z,Ok kd a₀ z->Up ρ (arrOf z) a₀.size->D (setPending z ((pendingOf z).push (0,a₀.size,0))):=λz oz uz=>⟨oz.perm,oz.well,by rw [show pendingOf (setPending z ((pendingOf z).push (0,a₀.size,0)))=(pendingOf z).push (0,a₀.size,0) from rfl,oz.runs];rfl,uz⟩
 refine wpS_bind (wpS_mono (wpS_forRange (λk c z=>(k=0/\c=(none,0)/\Ok kd a₀ z)\/(0<k/\c=(none,a₀.size)/\D z)) (Q:=λc z=>c=(none,a₀.size)/\D z) ?_ ?_ (.inl ⟨rfl,rfl,o⟩)) ?_)
 ·rintro k c z l1 l2 (⟨rfl,rfl,oz⟩|⟨k0,rfl,dz⟩)
  ·dsimp only
   rw [if_neg (by omega)]
   simp only [Nat.sub_zero,Nat.min_self,Nat.zero_add]
   refine wpS_bind (An C oz (Nat.le_refl _) (by omega) λm y oy m1 m2 uy=>?_)
   have none':∀ {x:SortSt},Ok kd a₀ x->(pendingOf x).back?=none:=λox=>by rw [ox.runs];rfl
   dsimp only
   split
   ·refine wpS_bind (wpS_lift (wpAny_rule ⟨rfl,wpS_bind (FF C oy (Nat.le_refl _) m2 uy λx ox ux=>?_)⟩))
    simp only [Bool.not_true,Bool.false_eq_true,if_false]
    refine wpS_bind (wpS_get ?_)
    rw [none' ox]
    exact wpS_bind (wpS_modify (wpS_pure (.inr ⟨Nat.one_pos,rfl,fin x ox ux⟩)))
   ·obtain rfl:m=a₀.size:=by omega
    refine wpS_bind (wpS_get ?_)
    rw [none' oy]
    exact wpS_bind (wpS_modify (wpS_pure (.inr ⟨Nat.one_pos,rfl,fin y oy uy⟩)))
  ·dsimp only
   rw [if_pos (Nat.le_refl _)]
   exact wpS_pure ⟨rfl,dz⟩
 ·rintro c z (⟨e,_⟩|⟨_,e,dz⟩)
  ·omega
  ·exact ⟨e,dz⟩
 ·rintro c z ⟨rfl,dz⟩
  dsimp only
  refine wpS_bind (wpS_mono (wpS_forRange (λ_ c y=>y=z/\c=(none,())) (Q:=λc y=>y=z/\c=(none,())) ?_ (λ_ _ e=>e) ⟨rfl,rfl⟩) ?_)
  ·rintro k c y _ _ ⟨rfl,rfl⟩
   refine wpS_bind (wpS_get ?_)
   rw [if_pos (by rw [dz.2.2.1];exact Nat.le_refl 1)]
   exact wpS_pure ⟨rfl,rfl⟩
  ·rintro c y ⟨rfl,rfl⟩
   exact wpS_pure (h _ dz.1 dz.2.1 dz.2.2.2)
end
end S6
namespace S6
open PySem PyProof.Rows PySem.SeqAt
inductive Ky where
 |i (n:Int)|s (x:Str)|tt (v:Bool)|nil|cons (h t:Ky)
 deriving DecidableEq
namespace Ky
mutual
def dat:Ky->PyData
 |.i n=>.int n
 |.s x=>.str x
 |.tt v=>.bool v
 |.nil=>.tuple []
 |.cons h t=>.tuple (dat h::row t)
def row:Ky->List PyData
 |.cons h t=>dat h::row t
 |_=>[]
end
def shp:Ky->Ky->Bool
 |.i _,.i _=>true
 |.s _,.s _=>true
 |.tt _,.tt _=>true
 |.nil,.nil=>true
 |.cons h t,.cons h' t'=>shp h h'&&shp t t'
 |_,_=>false
def lt:Ky->Ky->Bool
 |.i a,.i b=>decide (a<b)
 |.s a,.s b=>decide (a.cps.toList<b.cps.toList)
 |.tt a,.tt b=>!a&&b
 |.cons h t,.cons h' t'=>if h=h' then lt t t' else lt h h'
 |_,_=>false
def ok:Ky->Bool
 |.cons h t=>ok h&&ok t&&isRow t
 |_=>true
where isRow:Ky->Bool
 |.nil=>true
 |.cons _ _=>true
 |_=>false
def dep:Ky->Nat
 |.nil=>1
 |.cons h t=>max (dep h+1) (dep t)
 |_=>0
theorem bU {h t h' t':Ky}:shp (.cons h t) (.cons h' t')=(shp h h'&&shp t t'):=rfl
theorem b0 {a b:Int}:lt (.i a) (.i b)=decide (a<b):=rfl
theorem b5 {a b:Str}:lt (.s a) (.s b)=decide (a.cps.toList<b.cps.toList):=rfl
theorem b6 {a b:Bool}:lt (.tt a) (.tt b)=(!a&&b):=rfl
theorem bB {h t h' t':Ky}:lt (.cons h t) (.cons h' t')=if h=h' then lt t t' else lt h h':=rfl
theorem fG {h t:Ky}:ok (.cons h t)=(ok h&&ok t&&ok.isRow t):=rfl
theorem j3 {h t:Ky}:dep (.cons h t)=max (dep h+1) (dep t):=rfl
theorem C8 {a b:Str}(h:a≠b):a.cps.toList≠b.cps.toList:=λe=>h (by
 cases a;cases b
 simp only [Str.mk.injEq] at h ⊢
 exact Array.toList_inj.mp e)
theorem tri:∀ {x y:Ky},shp x y=true->lt x y=true\/x=y\/lt y x=true
 |.i a,.i b,_=>by
  simp only [b0,b5,b6,bB,decide_eq_true_eq,Ky.i.injEq];omega
 |.s a,.s b,_=>by
  simp only [b0,b5,b6,bB,decide_eq_true_eq,Ky.s.injEq]
  by_cases e:a=b
  ·exact .inr (.inl e)
  ·by_cases l:a.cps.toList<b.cps.toList
   ·exact .inl l
   ·refine .inr (.inr ?_)
    rcases List.le_iff_lt_or_eq.mp (List.not_lt.mp l) with z|z
    ·exact z
    ·exact (C8 e z.symm).elim
 |.tt a,.tt b,_=>by cases a<;>cases b<;>simp [b0,b5,b6,bB]
 |.nil,.nil,_=>.inr (.inl rfl)
 |.cons h t,.cons h' t',e=>by
  simp only [bU,Bool.and_eq_true] at e
  by_cases q:h=h'
  ·subst q
   rcases tri e.2 with z|z|z
   ·exact .inl (by simp [b0,b5,b6,bB,z])
   ·exact .inr (.inl (by rw [z]))
   ·exact .inr (.inr (by simp [b0,b5,b6,bB,z]))
  ·rcases tri e.1 with z|z|z
   ·exact .inl (by simp [b0,b5,b6,bB,q,z])
   ·exact (q z).elim
   ·exact .inr (.inr (by simp [b0,b5,b6,bB,Ne.symm q,z]))
theorem irr:∀ x:Ky,lt x x=false
 |.i _=>by simp [b0,b5,b6,bB]
 |.s x=>by simp only [b0,b5,b6,bB,decide_eq_false_iff_not];exact List.lt_irrefl _
 |.tt v=>by cases v<;>rfl
 |.nil=>rfl
 |.cons h t=>by simp [b0,b5,b6,bB,irr t]
theorem trans:∀ {x y z:Ky},shp x y=true->shp y z=true->lt x y=true->lt y z=true->lt x z=true
 |.i a,.i b,.i c,_,_,p,q=>by simp only [b0,b5,b6,bB,decide_eq_true_eq] at *;omega
 |.s a,.s b,.s c,_,_,p,q=>by simp only [b0,b5,b6,bB,decide_eq_true_eq] at *;exact List.lt_trans p q
 |.tt a,.tt b,.tt c,_,_,p,q=>by cases a<;>cases b<;>cases c<;>simp [b0,b5,b6,bB] at *
 |.cons h t,.cons h' t',.cons h2 t2,e,f,p,q=>by
  simp only [bU,Bool.and_eq_true] at e f
  simp only [b0,b5,b6,bB] at p q ⊢
  by_cases a:h=h'
  ·subst a
   rw [if_pos rfl] at p
   by_cases b:h=h2
   ·subst b
    rw [if_pos rfl] at q ⊢
    exact trans e.2 f.2 p q
   ·rw [if_neg b] at q ⊢;exact q
  ·rw [if_neg a] at p
   by_cases b:h'=h2
   ·subst b
    rw [if_neg a];exact p
   ·rw [if_neg b] at q
    have:=trans e.1 f.1 p q
    rw [if_neg (λz=>by rw [z,irr] at this;cases this)]
    exact this
theorem Hf {x y:Ky}(h:shp x y=true) (p:lt x y=true):lt y x=false:=by
 cases q:lt y x with
 |false=>rfl
 |true =>
  have h':shp y x=true:=by
   have:∀ {a b:Ky},shp a b=true->shp b a=true:=by
    intro a
    induction a with
    |cons u v iu iv =>
     intro b e
     cases b with
     |cons=>simp only [bU,Bool.and_eq_true] at e ⊢;exact ⟨iu e.1,iv e.2⟩
     |_=>cases e
    |_=>intro b e;cases b<;>first|rfl|cases e
   exact this h
  have:=trans h h' p q
  rw [irr] at this;cases this
theorem qB:∀ {a b:Ky},shp a b=true->shp b a=true:=by
 intro a
 induction a with
 |cons u v iu iv =>
  intro b e
  cases b with
  |cons=>simp only [bU,Bool.and_eq_true] at e ⊢;exact ⟨iu e.1,iv e.2⟩
  |_=>cases e
 |_=>intro b e;cases b<;>first|rfl|cases e
theorem jz:∀ {x y:Ky},shp x y=true->ok x=true->PyData.eqv (dat x) (dat y)=decide (x=y)/\(ok.isRow x=true->PyData.eqvAll (row x) (row y)=decide (x=y))
 |.i a,.i b,_,_=>⟨by simp only [dat,PyData.eqv,Ky.i.injEq];rfl,λh=>by cases h⟩
 |.s a,.s b,_,_=>⟨by simp only [dat,PyData.eqv,Ky.s.injEq];rfl,λh=>by cases h⟩
 |.tt a,.tt b,_,_=>⟨by cases a<;>cases b<;>rfl,λh=>by cases h⟩
 |.nil,.nil,_,_=>⟨rfl,λ_=>rfl⟩
 |.cons h t,.cons h' t',e,o=>by
  simp only [bU,Bool.and_eq_true] at e
  simp only [fG,Bool.and_eq_true] at o
  have h1:=(jz e.1 o.1.1).1
  have h2:=(jz e.2 o.1.2).2 o.2
  have z:PyData.eqvAll (dat h::row t) (dat h'::row t')=decide (Ky.cons h t=Ky.cons h' t'):=by
   simp only [PyData.eqvAll,h1,h2,Ky.cons.injEq,Bool.decide_and]
  exact ⟨by simp only [dat,PyData.eqv];exact z,λ_=>by simp only [row];exact z⟩
end Ky
end S6
namespace S6
open PySem PyProof.Rows PySem.SeqAt
theorem sI {α:Type}{p q:α->Bool}{x:α}:∀ {l:List α},(∀ z∈l,p z=true->q z=true)->x∈l->p x=false->q x=true->l.countP p<l.countP q
 |[],_,h,_,_=>by cases h
 |y::l,m,h,px,qx=>by
  have ml:∀ z∈l,p z=true->q z=true:=λz hz=>m z (List.mem_cons_of_mem _ hz)
  have le:=List.countP_mono_left ml
  rw [List.countP_cons,List.countP_cons]
  rcases List.mem_cons.mp h with rfl|h
  ·simp only [px,qx,Bool.false_eq_true,if_false,if_true];omega
  ·have ih:=sI ml h px qx
   have:(if p y=true then 1 else 0)<=if q y=true then 1 else 0:=by
    split
    ·rw [if_pos (m y (List.mem_cons_self ..) ‹_›)];exact Nat.le_refl _
    ·exact Nat.zero_le _
   omega
def rnk (ks:List Ky) (x:Ky):Nat:=ks.countP λz=>Ky.lt z x
theorem sJ {ks:List Ky}(hs:∀ x∈ks,∀ y∈ks,Ky.shp x y=true){x y:Ky}(hx:x∈ks) (hy:y∈ks):decide (rnk ks x<rnk ks y)=Ky.lt x y:=by
 cases e:Ky.lt x y with
 |true=>exact decide_eq_true (sI (λz hz l=>Ky.trans (hs z hz x hx) (hs x hx y hy) l e) hx (Ky.irr x) e)
 |false =>
  refine decide_eq_false (Nat.not_lt.mpr (List.countP_mono_left λz hz l=>?_))
  rcases Ky.tri (hs x hx y hy) with q|q|q
  ·rw [e] at q;cases q
  ·rw [q];exact l
  ·exact Ky.trans (hs z hz y hy) (hs y hy x hx) l q
inductive Cp where
 |lt|gt|ge
def cop:Cp->CmpOp
 |.lt=>.Lt
 |.gt=>.Gt
 |.ge=>.GtE
def gl (g:Cp) (x y:Ky):Bool:=match g with
 |.lt=>Ky.lt x y
 |.gt=>Ky.lt y x
 |.ge=>!Ky.lt x y
def ko:CmpOp->Bool
 |.GtE=>true
 |_=>false
def db (A:Around) (s:Shared) (op:CmpOp) (x y:Value) (c:Bool):Prop :=
 ∀ (prog:Program) (w:World) (E:Value->Shared->Prop) (Q:Value->Shared->Prop),Q (.bool c) s->wpAny (model prog w) A (richCompare op x y) Q E s
inductive LexAt (A:Around) (s:Shared) (op:CmpOp):List Value->List Value->Bool->Prop
 |nil:LexAt A s op [] [] (ko op)
 |same {x y xs ys c}:EqAt A s x y true->LexAt A s op xs ys c->LexAt A s op (x::xs) (y::ys) c
 |diff {x y xs ys c}:EqAt A s x y false->db A s op x y c->LexAt A s op (x::xs) (y::ys) c
def h7 (op:CmpOp) (us vs:List Value) (n m:Nat):Sem Fin:=do
 for (x,y) in us.zip vs do
  if !(<- eqBool x y) then
   rule "tuple.compare.by-the-first-pair-that-differs";return <- ret (<- richCompare op x y)
 ret (Builtin.Tuple.tupleCompareSizes op n m)
theorem xc (a b:Value):Builtin.«tuple.__lt__» ⟨[a,b],[]⟩=(do
  if !(<- isInstance b (.type "tuple")) then return <- ret .notImplemented
  let xs <- Builtin.Tuple.tupleItemsOf a
  let ys <- Builtin.Tuple.tupleItemsOf b
  h7 .Lt xs.toList ys.toList xs.size ys.size):=rfl
theorem xf (a b:Value):Builtin.«tuple.__ge__» ⟨[a,b],[]⟩=(do
  if !(<- isInstance b (.type "tuple")) then return <- ret .notImplemented
  let xs <- Builtin.Tuple.tupleItemsOf a
  let ys <- Builtin.Tuple.tupleItemsOf b
  h7 .GtE xs.toList ys.toList xs.size ys.size):=rfl
theorem xg (a b:Value):Builtin.«tuple.__gt__» ⟨[a,b],[]⟩=(do
  if !(<- isInstance b (.type "tuple")) then return <- ret .notImplemented
  let xs <- Builtin.Tuple.tupleItemsOf a
  let ys <- Builtin.Tuple.tupleItemsOf b
  h7 .Gt xs.toList ys.toList xs.size ys.size):=rfl
section
variable {A:Around}{s:Shared}
theorem mB {g:Cp}{prog:Program}{w:World}{E:Value->Shared->Prop}{P:Fin->Shared->Prop}{us vs:List Value}{c:Bool}(L:LexAt A s (cop g) us vs c){n m:Nat}(hnm:n=m)
  (h:P (.done (.ret (.bool c))) s):wpAny (model prog w) A (h7 (cop g) us vs n m) P E s:=by
 unfold h7
 refine wpAny_bind ?_
 refine wpAny_forIn_list _ (λrest r z=>r.1=none/\z=s/\∃ us' vs',rest=us'.zip vs'/\LexAt A s (cop g) us' vs' c) _ ?_ ?_ _ _ ⟨rfl,rfl,us,vs,rfl,L⟩
 ·rintro ⟨x,y⟩ rest r z ⟨hr,rfl,us',vs',hz,L'⟩
  cases L' with
  |nil=>simp at hz
  |same e L2 =>
   simp only [List.zip_cons_cons,List.cons.injEq,Prod.mk.injEq] at hz
   obtain ⟨⟨rfl,rfl⟩,rfl⟩:=hz
   refine wpAny_bind (e prog w _ _ ?_)
   exact wpAny_pure ⟨rfl,rfl,_,_,rfl,L2⟩
  |diff e cm =>
   simp only [List.zip_cons_cons,List.cons.injEq,Prod.mk.injEq] at hz
   obtain ⟨⟨rfl,rfl⟩,rfl⟩:=hz
   refine wpAny_bind (e prog w _ _ ?_)
   refine wpAny_bind (wpAny_rule (wpAny_bind (cm prog w _ _ ?_)))
   exact wpAny_bind (wpAny_pure (wpAny_pure (wpAny_pure h)))
 ·rintro ⟨r1,r2⟩ z ⟨hr,rfl,us',vs',hz,L'⟩
  simp only at hr
  subst hr
  have hc:c=ko (cop g):=by
   cases L' with
   |nil=>rfl
   |same _ _=>simp at hz
   |diff _ _=>simp at hz
  subst hc hnm
  have e:Builtin.Tuple.tupleCompareSizes (cop g) n n=.bool (ko (cop g)):=by cases g<;>simp [cop,ko,Builtin.Tuple.tupleCompareSizes]
  show wpAny _ _ (ret (Builtin.Tuple.tupleCompareSizes (cop g) n n)) P E _
  rw [e]
  exact wpAny_pure h
theorem wg {g:Cp}{l m:Addr}{o u:Obj}{xs ys:Array Value}{n k:Nat}{c:Bool}(h1:s.heap.get? l=some o) (c1:o.cls=.type "tuple") (d1:o.data=.seq xs n)
  (h2:s.heap.get? m=some u) (c2:u.cls=.type "tuple") (d2:u.data=.seq ys k) (hu:A.units<cLine) (L:LexAt A.in1 s (cop g) xs.toList ys.toList c) (hs:xs.size=ys.size):db A s (cop g) (.ref l) (.ref m) c:=by
 intro prog w E Q q
 have t1:s.TypeIs (.ref l) "tuple":=⟨o,h1,c1⟩
 have t2:s.TypeIs (.ref m) "tuple":=⟨u,h2,c2⟩
 cases g with
 |lt =>
  refine wpAny_richCompare_same_room (op:=.Lt) t1 t2 F.slot_tuple_lt (wpAny_call_entry F.slot_tuple_lt t1 F.entry_tuple_lt ?_ (F.args_tuple_lt_2 _ _)) hu
  rw [xc]
  refine wpAny_bind (wpAny_isInstance t2 isSubtype_tuple_tuple ?_)
  simp only [Bool.not_true,Bool.false_eq_true,if_false]
  refine wpAny_bind (wpAny_tupleItemsOf h1 d1 (wpAny_bind (wpAny_tupleItemsOf h2 d2 ?_)))
  exact mB (g:=.lt) L hs ⟨_,rfl,by simp,q⟩
 |gt =>
  refine wpAny_richCompare_same_room (op:=.Gt) t1 t2 F.slot_tuple_gt (wpAny_call_entry F.slot_tuple_gt t1 F.entry_tuple_gt ?_ (F.args_tuple_gt_2 _ _)) hu
  rw [xg]
  refine wpAny_bind (wpAny_isInstance t2 isSubtype_tuple_tuple ?_)
  simp only [Bool.not_true,Bool.false_eq_true,if_false]
  refine wpAny_bind (wpAny_tupleItemsOf h1 d1 (wpAny_bind (wpAny_tupleItemsOf h2 d2 ?_)))
  exact mB (g:=.gt) L hs ⟨_,rfl,by simp,q⟩
 |ge =>
  refine wpAny_richCompare_same_room (op:=.GtE) t1 t2 F.slot_tuple_ge (wpAny_call_entry F.slot_tuple_ge t1 F.entry_tuple_ge ?_ (F.args_tuple_ge_2 _ _)) hu
  rw [xf]
  refine wpAny_bind (wpAny_isInstance t2 isSubtype_tuple_tuple ?_)
  simp only [Bool.not_true,Bool.false_eq_true,if_false]
  refine wpAny_bind (wpAny_tupleItemsOf h1 d1 (wpAny_bind (wpAny_tupleItemsOf h2 d2 ?_)))
  exact mB (g:=.ge) L hs ⟨_,rfl,by simp,q⟩
theorem yi {g:Cp}(a b:Int) (t u:Tok):db A s (cop g) (.int a t) (.int b u) (gl g (.i a) (.i b)):=by
 intro prog w E Q q
 cases g with
 |lt=>exact lt_int (A:=A) q
 |gt=>exact gt_int (A:=A) q
 |ge =>
  have e:gl .ge (.i a) (.i b)=decide (b<=a):=by
   show (!decide (a<b))=_
   rw [Bool.eq_iff_iff]
   simp only [Bool.not_eq_true',decide_eq_false_iff_not,decide_eq_true_eq,Int.not_lt]
  rw [e] at q
  exact PySem.P.ge_int (A:=A) q
theorem xh {g:Cp}(a b:Bool):db A s (cop g) (.bool a) (.bool b) (gl g (.tt a) (.tt b)):=by
 intro prog w E Q q
 cases g with
 |lt =>
  have q':Q (.bool (decide (b2i a<b2i b))) s:=by
   rw [show decide (b2i a<b2i b)=gl .lt (.tt a) (.tt b) by cases a<;>cases b<;>rfl];exact q
  exact lt_bool (A:=A) q'
 |gt =>
  have q':Q (.bool (decide (b2i a>b2i b))) s:=by
   rw [show decide (b2i a>b2i b)=gl .gt (.tt a) (.tt b) by cases a<;>cases b<;>rfl];exact q
  exact gt_bool (A:=A) q'
 |ge =>
  have q':Q (.bool (decide (b2i a≥b2i b))) s:=by
   rw [show decide (b2i a≥b2i b)=gl .ge (.tt a) (.tt b) by cases a<;>cases b<;>rfl];exact q
  exact ge_bool (A:=A) q'
theorem yj {g:Cp}(a b:Str) (t u:Tok):db A s (cop g) (.str a t) (.str b u) (gl g (.s a) (.s b)):=by
 intro prog w E Q q
 cases g with
 |lt=>exact lt_str (A:=A) q
 |gt=>exact PySem.P.gt_str (A:=A) q
 |ge=>exact PySem.P.ge_str (A:=A) q
theorem Ao {g:Cp}{h t h' t':Ky}:gl g (.cons h t) (.cons h' t')=if h=h' then gl g t t' else gl g h h':=by
 cases g with
 |lt=>show Ky.lt _ _=if h=h' then Ky.lt t t' else Ky.lt h h';rw [Ky.bB]
 |gt =>
  show Ky.lt _ _=if h=h' then Ky.lt t' t else Ky.lt h' h
  rw [Ky.bB]
  by_cases e:h=h'
  ·rw [if_pos e,if_pos e.symm]
  ·rw [if_neg e,if_neg (Ne.symm e)]
 |ge =>
  show (!Ky.lt _ _)=if h=h' then !Ky.lt t t' else !Ky.lt h h'
  rw [Ky.bB]
  by_cases e:h=h'
  ·rw [if_pos e,if_pos e]
  ·rw [if_neg e,if_neg e]
end
theorem b7 {h:Heap}{a:Value}{n:Int}{as:List Addr}(r:Reads h a (.int n) as):∃ t,a=.int n t:=by cases r;exact ⟨_,rfl⟩
theorem b8 {h:Heap}{a:Value}{n:Str}{as:List Addr}(r:Reads h a (.str n) as):∃ t,a=.str n t:=by cases r;exact ⟨_,rfl⟩
theorem cu {h:Heap}{a:Value}{n:Bool}{as:List Addr}(r:Reads h a (.bool n) as):a=.bool n:=by cases r;rfl
theorem br {h:Heap}{a:Value}{ds:List PyData}{as:List Addr}(r:Reads h a (.tuple ds) as):∃ (l:Addr) (o:Obj) (vs:Array Value) (n:Nat),a=.ref l/\h.get? l=some o/\o.cls=.type "tuple" /\ o.data=.seq vs n/\ReadsAll h vs.toList ds as:=by
 cases r with
 |tuple a1 a2 a3 a4=>exact ⟨_,_,_,_,rfl,a1,a2,a3,a4⟩
theorem eN {h:Heap}{us:List Value}{d:PyData}{ds:List PyData}{as:List Addr}(r:ReadsAll h us (d::ds) as):∃ u vs a1 a2,us=u::vs/\Reads h u d a1/\ReadsAll h vs ds a2:=by
 cases r with
 |cons r1 r2=>exact ⟨_,_,_,_,rfl,r1,r2⟩
theorem p9:∀ {x y:Ky}{h:Heap},Ky.ok x=true->Ky.ok y=true->(∀ {a:Value}{as bs:List Addr},Reads h a x.dat as->Reads h a y.dat bs->x=y) /\
  (∀ {us:List Value}{as bs:List Addr},Ky.ok.isRow x=true->Ky.ok.isRow y=true->ReadsAll h us x.row as->ReadsAll h us y.row bs->x=y):=by
 intro x
 induction x with
 |i n =>
  intro y h _ oy
  refine ⟨fun {a as bs} r q=>?_,fun {us as bs} z=>by cases z⟩
  obtain ⟨t,rfl⟩:=b7 r
  cases y with
  |i m=>obtain ⟨_,e⟩:=b7 q;cases e;rfl
  |s m=>obtain ⟨_,e⟩:=b8 q;cases e
  |tt m=>have e:=cu q;cases e
  |nil=>obtain ⟨_,_,_,_,e,_⟩:=br q;cases e
  |cons u v=>obtain ⟨_,_,_,_,e,_⟩:=br q;cases e
 |s n =>
  intro y h _ oy
  refine ⟨fun {a as bs} r q=>?_,fun {us as bs} z=>by cases z⟩
  obtain ⟨t,rfl⟩:=b8 r
  cases y with
  |i m=>obtain ⟨_,e⟩:=b7 q;cases e
  |s m=>obtain ⟨_,e⟩:=b8 q;cases e;rfl
  |tt m=>have e:=cu q;cases e
  |nil=>obtain ⟨_,_,_,_,e,_⟩:=br q;cases e
  |cons u v=>obtain ⟨_,_,_,_,e,_⟩:=br q;cases e
 |tt n =>
  intro y h _ oy
  refine ⟨fun {a as bs} r q=>?_,fun {us as bs} z=>by cases z⟩
  obtain rfl:=cu r
  cases y with
  |i m=>obtain ⟨_,e⟩:=b7 q;cases e
  |s m=>obtain ⟨_,e⟩:=b8 q;cases e
  |tt m=>have e:=cu q;cases e;rfl
  |nil=>obtain ⟨_,_,_,_,e,_⟩:=br q;cases e
  |cons u v=>obtain ⟨_,_,_,_,e,_⟩:=br q;cases e
 |nil =>
  intro y h _ oy
  have go:∀ {us:List Value}{as bs:List Addr},Ky.ok.isRow y=true->ReadsAll h us [] as->ReadsAll h us y.row bs->Ky.nil=y:=fun {us as bs} z r q=>by
   cases r
   cases y with
   |nil=>rfl
   |cons u v=>simp only [Ky.row] at q;cases q
   |_=>cases z
  refine ⟨fun {a as bs} r q=>?_,fun {us as bs} _ z r q=>go z (by simpa only [Ky.row] using r) q⟩
  obtain ⟨l,o,vs,n,rfl,a1,a2,a3,a4⟩:=br r
  cases y with
  |nil=>rfl
  |cons u v =>
   obtain ⟨l',o',vs',n',e,b1,b2,b3,b4⟩:=br q
   cases e
   rw [a1] at b1;cases b1
   rw [a3] at b3;cases b3
   exact go rfl a4 b4
  |i n=>obtain ⟨_,e⟩:=b7 q;cases e
  |s n=>obtain ⟨_,e⟩:=b8 q;cases e
  |tt n=>have e:=cu q;cases e
 |cons u v iu iv =>
  intro y h ox oy
  simp only [Ky.fG,Bool.and_eq_true] at ox
  have go:∀ {us:List Value}{as bs:List Addr},Ky.ok.isRow y=true->ReadsAll h us (u.dat::v.row) as->ReadsAll h us y.row bs->Ky.cons u v=y:=fun {us as bs} z r q=>by
   cases y with
   |nil=>simp only [Ky.row] at q;cases q;cases r
   |cons u' v' =>
    simp only [Ky.fG,Bool.and_eq_true] at oy
    simp only [Ky.row] at q
    obtain ⟨_,_,_,_,rfl,r1,r2⟩:=eN r
    obtain ⟨_,_,_,_,e,q1,q2⟩:=eN q
    cases e
    rw [(iu ox.1.1 oy.1.1).1 r1 q1,(iv ox.1.2 oy.1.2).2 ox.2 oy.2 r2 q2]
   |_=>cases z
  refine ⟨fun {a as bs} r q=>?_,fun {us as bs} _ z r q=>go z (by simpa only [Ky.row] using r) q⟩
  obtain ⟨l,o,vs,n,rfl,a1,a2,a3,a4⟩:=br r
  have tup:∀ {ds:List PyData}{bs:List Addr},Reads h (.ref l) (.tuple ds) bs->ReadsAll h vs.toList ds bs:=fun {ds bs} q=>by
   obtain ⟨l',o',vs',n',e,b1,b2,b3,b4⟩:=br q
   cases e
   rw [a1] at b1;cases b1
   rw [a3] at b3;cases b3
   exact b4
  cases y with
  |nil=>exact go rfl a4 (tup q)
  |cons u' v'=>exact go rfl a4 (tup q)
  |i n=>obtain ⟨_,e⟩:=b7 q;cases e
  |s n=>obtain ⟨_,e⟩:=b8 q;cases e
  |tt n=>have e:=cu q;cases e
theorem Ap:∀ (x:Ky),
  (∀ {y:Ky}{A:Around}{s:Shared}{a b:Value}{as bs:List Addr},Ky.shp x y=true->Ky.ok x=true->Ky.ok y=true->Reads s.heap a x.dat as->Reads s.heap b y.dat bs->A.units+x.dep<cLine->EqAt A s a b (decide (x=y))) /\
  (∀ {y:Ky}{A:Around}{s:Shared}{us vs:List Value}{as bs:List Addr},Ky.ok.isRow x=true->Ky.shp x y=true->Ky.ok x=true->Ky.ok y=true->ReadsAll s.heap us x.row as->ReadsAll s.heap vs y.row bs->A.units+x.dep<=cLine ->
   ∀ j (h1:j<us.length) (h2:j<vs.length),EqAt A s us[j] vs[j] (pairEq x.row y.row j)):=by
 have tup:∀ {x y:Ky}{A:Around}{s:Shared}{l m:Addr}{o u:Obj}{xs ys:Array Value}{n k:Nat}{as bs:List Addr},
   (∀ {y:Ky}{A:Around}{s:Shared}{us vs:List Value}{as bs:List Addr},Ky.ok.isRow x=true->Ky.shp x y=true->Ky.ok x=true->Ky.ok y=true->ReadsAll s.heap us x.row as->ReadsAll s.heap vs y.row bs->A.units+x.dep<=cLine ->
    ∀ j (h1:j<us.length) (h2:j<vs.length),EqAt A s us[j] vs[j] (pairEq x.row y.row j)) ->
   Ky.ok.isRow x=true->Ky.ok.isRow y=true->Ky.shp x y=true->Ky.ok x=true->Ky.ok y=true->s.heap.get? l=some o->o.cls=.type "tuple"->o.data=.seq xs n->ReadsAll s.heap xs.toList x.row as ->
   s.heap.get? m=some u->u.cls=.type "tuple"->u.data=.seq ys k->ReadsAll s.heap ys.toList y.row bs->A.units+x.dep<cLine->EqAt A s (.ref l) (.ref m) (decide (x=y)):=by
  intro x y A s l m o u xs ys n k as bs lp hr hr' hs ox oy a1 a2 a3 a4 b1 b2 b3 b4 hu
  by_cases hll:l=m
  ·subst hll
   rw [a1] at b1;cases b1
   rw [a3] at b3;cases b3
   rw [decide_eq_true ((p9 ox oy).2 hr hr' a4 b4)]
   exact EqAt.same _
  ·have n1:xs.size=x.row.length:=by simpa using ReadsAll.length _ _ _ a4
   have n2:ys.size=y.row.length:=by simpa using ReadsAll.length _ _ _ b4
   rw [<- (Ky.jz hs ox).2 hr,<- eqvAll_eq,<- n1,<- n2]
   refine EqAt.of_refs hll (RcAt.tuples ⟨_,a1,a2,_,a3⟩ ⟨_,b1,b2,_,b3⟩ (by omega) λj j1 j2=>?_)
   have:=lp (A:=A.in1) hr hs ox oy a4 b4 (by show A.units+1+x.dep<=cLine;omega) j (by simpa using j1) (by simpa using j2)
   simpa using this
 intro x
 induction x with
 |i a =>
  refine ⟨fun {y A s a' b' as bs} hs ox oy ra rb hu=>?_,fun {y A s us vs as bs} h=>by cases h⟩
  cases y<;>first|cases hs|skip
  obtain ⟨t,rfl⟩:=b7 ra
  obtain ⟨u,rfl⟩:=b7 rb
  rename_i b
  rw [show decide (Ky.i a=Ky.i b)=(a==b) by rw [Bool.eq_iff_iff];simp]
  exact EqAt.int_int a t b u
 |s a =>
  refine ⟨fun {y A s a' b' as bs} hs ox oy ra rb hu=>?_,fun {y A s us vs as bs} h=>by cases h⟩
  cases y<;>first|cases hs|skip
  obtain ⟨t,rfl⟩:=b8 ra
  obtain ⟨u,rfl⟩:=b8 rb
  rename_i b
  rw [show decide (Ky.s a=Ky.s b)=(a==b) by rw [Bool.eq_iff_iff];simp]
  exact EqAt.str_str a t b u
 |tt a =>
  refine ⟨fun {y A s a' b' as bs} hs ox oy ra rb hu=>?_,fun {y A s us vs as bs} h=>by cases h⟩
  cases y<;>first|cases hs|skip
  obtain rfl:=cu ra
  obtain rfl:=cu rb
  rename_i b
  rw [show decide (Ky.tt a=Ky.tt b)=(a==b) by rw [Bool.eq_iff_iff];simp]
  exact EqAt.bool_bool a b
 |nil =>
  have lp:∀ {y:Ky}{A:Around}{s:Shared}{us vs:List Value}{as bs:List Addr},Ky.ok.isRow .nil=true->Ky.shp .nil y=true->Ky.ok .nil=true->Ky.ok y=true->ReadsAll s.heap us Ky.nil.row as->ReadsAll s.heap vs y.row bs->A.units+Ky.nil.dep<=cLine ->
    ∀ j (h1:j<us.length) (h2:j<vs.length),EqAt A s us[j] vs[j] (pairEq Ky.nil.row y.row j):=by
   intro y A s us vs as bs _ hs _ _ ra rb _ j h1
   simp only [Ky.row] at ra
   cases ra
   exact absurd h1 (Nat.not_lt_zero _)
  refine ⟨fun {y A s a' b' as bs} hs ox oy ra rb hu=>?_,lp⟩
  cases y<;>first|cases hs|skip
  obtain ⟨_,_,_,_,rfl,a1,a2,a3,a4⟩:=br ra
  obtain ⟨_,_,_,_,rfl,b1,b2,b3,b4⟩:=br rb
  exact tup lp rfl rfl rfl rfl rfl a1 a2 a3 a4 b1 b2 b3 b4 hu
 |cons h t ih it =>
  have lp:∀ {y:Ky}{A:Around}{s:Shared}{us vs:List Value}{as bs:List Addr},Ky.ok.isRow (.cons h t)=true->Ky.shp (.cons h t) y=true->Ky.ok (.cons h t)=true->Ky.ok y=true->ReadsAll s.heap us (Ky.cons h t).row as->ReadsAll s.heap vs y.row bs->A.units+(Ky.cons h t).dep<=cLine ->
    ∀ j (h1:j<us.length) (h2:j<vs.length),EqAt A s us[j] vs[j] (pairEq (Ky.cons h t).row y.row j):=by
   intro y A s us vs as bs _ hs ox oy ra rb hu j h1 h2
   cases y with
   |cons h' t' =>
    simp only [Ky.bU,Bool.and_eq_true] at hs
    simp only [Ky.fG,Bool.and_eq_true] at ox oy
    simp only [Ky.j3] at hu
    simp only [Ky.row] at ra rb ⊢
    ·obtain ⟨_,_,_,_,rfl,r,rs⟩:=eN ra
     ·obtain ⟨_,_,_,_,rfl,r',rs'⟩:=eN rb
      cases j with
      |zero =>
       have:=ih.1 (A:=A) hs.1 ox.1.1 oy.1.1 r r' (by omega)
       rw [<- (Ky.jz hs.1 ox.1.1).1] at this
       exact this
      |succ j=>exact it.2 (A:=A) ox.2 hs.2 ox.1.2 oy.1.2 rs rs' (by omega) j (Nat.lt_of_succ_lt_succ h1) (Nat.lt_of_succ_lt_succ h2)
   |_=>cases hs
  refine ⟨fun {y A s a' b' as bs} hs ox oy ra rb hu=>?_,lp⟩
  cases y with
  |cons h' t' =>
   obtain ⟨_,_,_,_,rfl,a1,a2,a3,a4⟩:=br ra
   obtain ⟨_,_,_,_,rfl,b1,b2,b3,b4⟩:=br rb
   exact tup lp rfl rfl hs ox oy a1 a2 a3 a4 b1 b2 b3 b4 hu
  |_=>cases hs
theorem o5 {x y:Ky}{A:Around}{s:Shared}{a b:Value}{as bs:List Addr}(h:Ky.shp x y=true) (ox:Ky.ok x=true) (oy:Ky.ok y=true) (ra:Reads s.heap a x.dat as) (rb:Reads s.heap b y.dat bs) (hu:A.units+x.dep<cLine) :
  EqAt A s a b (decide (x=y)):=(Ap x).1 h ox oy ra rb hu
theorem lU (g:Cp):∀ (x:Ky),
  (∀ {y:Ky}{A:Around}{s:Shared}{a b:Value}{as bs:List Addr},Ky.shp x y=true->Ky.ok x=true->Ky.ok y=true->Reads s.heap a x.dat as->Reads s.heap b y.dat bs->A.units+x.dep+1<cLine->db A s (cop g) a b (gl g x y)) /\
  (∀ {y:Ky}{A:Around}{s:Shared}{us vs:List Value}{as bs:List Addr},Ky.ok.isRow x=true->Ky.shp x y=true->Ky.ok x=true->Ky.ok y=true->ReadsAll s.heap us x.row as->ReadsAll s.heap vs y.row bs->A.units+x.dep<cLine ->
   LexAt A s (cop g) us vs (gl g x y)/\us.length=vs.length):=by
 have tup:∀ {x y:Ky}{A:Around}{s:Shared}{l m:Addr}{o u:Obj}{xs ys:Array Value}{n k:Nat}{as bs:List Addr},
   (∀ {y:Ky}{A:Around}{s:Shared}{us vs:List Value}{as bs:List Addr},Ky.ok.isRow x=true->Ky.shp x y=true->Ky.ok x=true->Ky.ok y=true->ReadsAll s.heap us x.row as->ReadsAll s.heap vs y.row bs->A.units+x.dep<cLine->LexAt A s (cop g) us vs (gl g x y)/\us.length=vs.length) ->
   Ky.ok.isRow x=true->Ky.shp x y=true->Ky.ok x=true->Ky.ok y=true->s.heap.get? l=some o->o.cls=.type "tuple"->o.data=.seq xs n->ReadsAll s.heap xs.toList x.row as ->
   s.heap.get? m=some u->u.cls=.type "tuple"->u.data=.seq ys k->ReadsAll s.heap ys.toList y.row bs->A.units+x.dep+1<cLine->db A s (cop g) (.ref l) (.ref m) (gl g x y):=by
  intro x y A s l m o u xs ys n k as bs lp hr hs ox oy a1 a2 a3 a4 b1 b2 b3 b4 hu
  obtain ⟨L,hl⟩:=lp (A:=A.in1) hr hs ox oy a4 b4 (by show A.units+1+x.dep<cLine;omega)
  exact wg a1 a2 a3 b1 b2 b3 (by omega) L (by simpa using hl)
 intro x
 induction x with
 |i a =>
  refine ⟨fun {y A s a' b' as bs} hs ox oy ra rb hu=>?_,fun {y A s us vs as bs} h=>by cases h⟩
  cases y<;>first|cases hs|skip
  obtain ⟨t,rfl⟩:=b7 ra
  obtain ⟨u,rfl⟩:=b7 rb
  exact yi _ _ _ _
 |s a =>
  refine ⟨fun {y A s a' b' as bs} hs ox oy ra rb hu=>?_,fun {y A s us vs as bs} h=>by cases h⟩
  cases y<;>first|cases hs|skip
  obtain ⟨t,rfl⟩:=b8 ra
  obtain ⟨u,rfl⟩:=b8 rb
  exact yj _ _ _ _
 |tt a =>
  refine ⟨fun {y A s a' b' as bs} hs ox oy ra rb hu=>?_,fun {y A s us vs as bs} h=>by cases h⟩
  cases y<;>first|cases hs|skip
  obtain rfl:=cu ra
  obtain rfl:=cu rb
  exact xh _ _
 |nil =>
  have lp:∀ {y:Ky}{A:Around}{s:Shared}{us vs:List Value}{as bs:List Addr},Ky.ok.isRow .nil=true->Ky.shp .nil y=true->Ky.ok .nil=true->Ky.ok y=true->ReadsAll s.heap us Ky.nil.row as->ReadsAll s.heap vs y.row bs->A.units+Ky.nil.dep<cLine ->
    LexAt A s (cop g) us vs (gl g .nil y)/\us.length=vs.length:=by
   intro y A s us vs as bs _ hs _ _ ra rb _
   cases y<;>first|cases hs|skip
   simp only [Ky.row] at ra rb
   cases ra;cases rb
   exact ⟨by cases g<;>exact .nil,rfl⟩
  refine ⟨fun {y A s a' b' as bs} hs ox oy ra rb hu=>?_,lp⟩
  cases y<;>first|cases hs|skip
  obtain ⟨_,_,_,_,rfl,a1,a2,a3,a4⟩:=br ra
  obtain ⟨_,_,_,_,rfl,b1,b2,b3,b4⟩:=br rb
  exact tup lp rfl rfl rfl rfl a1 a2 a3 a4 b1 b2 b3 b4 hu
 |cons h t ih it =>
  have lp:∀ {y:Ky}{A:Around}{s:Shared}{us vs:List Value}{as bs:List Addr},Ky.ok.isRow (.cons h t)=true->Ky.shp (.cons h t) y=true->Ky.ok (.cons h t)=true->Ky.ok y=true->ReadsAll s.heap us (Ky.cons h t).row as->ReadsAll s.heap vs y.row bs->A.units+(Ky.cons h t).dep<cLine ->
    LexAt A s (cop g) us vs (gl g (.cons h t) y)/\us.length=vs.length:=by
   intro y A s us vs as bs _ hs ox oy ra rb hu
   cases y with
   |cons h' t' =>
    simp only [Ky.bU,Bool.and_eq_true] at hs
    simp only [Ky.fG,Bool.and_eq_true] at ox oy
    simp only [Ky.j3] at hu
    simp only [Ky.row] at ra rb
    ·obtain ⟨_,_,_,_,rfl,r,rs⟩:=eN ra
     ·obtain ⟨_,_,_,_,rfl,r',rs'⟩:=eN rb
      have eq:=o5 (A:=A) hs.1 ox.1.1 oy.1.1 r r' (by omega)
      rw [Ao]
      by_cases e:h=h'
      ·rw [decide_eq_true e] at eq
       rw [if_pos e]
       obtain ⟨L,l⟩:=it.2 (A:=A) ox.2 hs.2 ox.1.2 oy.1.2 rs rs' (by omega)
       exact ⟨.same eq L,by simp [l]⟩
      ·rw [decide_eq_false e] at eq
       rw [if_neg e]
       refine ⟨.diff eq (ih.1 hs.1 ox.1.1 oy.1.1 r r' (by omega)),?_⟩
       have l1:=ReadsAll.length _ _ _ rs
       have l2:=ReadsAll.length _ _ _ rs'
       have rowlen:∀ {a b:Ky},Ky.shp a b=true->a.row.length=b.row.length:=by
        intro a
        induction a with
        |cons u v iu iv =>
         intro b e
         cases b with
         |cons u' v' =>
          simp only [Ky.bU,Bool.and_eq_true] at e
          simp only [Ky.row,List.length_cons,iv e.2]
         |_=>cases e
        |_=>intro b e;cases b<;>first|rfl|cases e
       simp [l1,l2,rowlen hs.2]
   |_=>cases hs
  refine ⟨fun {y A s a' b' as bs} hs ox oy ra rb hu=>?_,lp⟩
  cases y with
  |cons h' t' =>
   obtain ⟨_,_,_,_,rfl,a1,a2,a3,a4⟩:=br ra
   obtain ⟨_,_,_,_,rfl,b1,b2,b3,b4⟩:=br rb
   exact tup lp rfl hs ox oy a1 a2 a3 a4 b1 b2 b3 b4 hu
  |_=>cases hs
def KR (s:Shared) (v:Value) (k:Ky):Prop:=Ky.ok k=true/\∃ as,Reads s.heap v k.dat as
theorem KR.inj {s:Shared}{v:Value}{k k':Ky}(h:KR s v k) (h':KR s v k'):k=k':=by
 obtain ⟨o,as,r⟩:=h
 obtain ⟨o',as',r'⟩:=h'
 exact (p9 o o').1 r r'
open Classical in
noncomputable def cn (s:Shared) (v:Value):Ky:=if h:∃ k,KR s v k then h.choose else .nil
theorem eZ {s:Shared}{v:Value}{k:Ky}(h:KR s v k):cn s v=k:=by
 unfold cn
 have e:∃ k,KR s v k:=⟨k,h⟩
 rw [dif_pos e]
 exact e.choose_spec.inj h
def uq (A:Around) (s:Shared) (one:Bool) (x y:Value) (c:Bool):Prop :=
 ∀ (prog:Program) (w:World) (E:Value->Shared->Prop) (Q:Bool->Shared->Prop),Q c s->wpAny (model prog w) A (oneLt' one x y) Q E s
theorem wj {prog:Program}{w:World}{A:Around}{E:Value->Shared->Prop}{s:Shared}{a b:Bool}{Q:Bool->Shared->Prop}(h:Q (!a&&b) s):wpAny (model prog w) A (oneLt' true (.bool a) (.bool b)) Q E s:=by
 rw [oneLt'_eq]
 simp only [if_true]
 refine wpAny_bind (wpAny_cRoomFor_byValue rfl ?_)
 refine wpAny_bind (wpAny_callSpecialIfBound?_slot (typeIs_bool' s a) F.slot_bool_lt (call_gives F.slot_bool_lt (typeIs_bool' s a) F.entry_int_lt (F.args_int_lt_2 _ _) (gives_int_lt_bools a b) ?_))
 have e:((λx1 x2:Int=>decide (x1<x2)) (if a=true then 1 else 0) (if b=true then 1 else 0))=(!a&&b):=by cases a<;>cases b<;>rfl
 show wpAny _ _ _ _ _ _
 rw [e]
 exact wpAny_truthy_bool h
theorem db.one {A:Around}{s:Shared}{x y:Value}{c:Bool}(h:db A s .Lt x y c):uq A s false x y c:=λprog w E Q q=>by
 rw [oneLt'_eq]
 simp only [Bool.false_eq_true,if_false]
 exact wpAny_bind (h prog w _ _ (wpAny_truthy_bool q))
inductive LexO (A:Around) (s:Shared):Bool->List Value->List Value->Bool->Prop
 |nil {one}:LexO A s one [] [] false
 |same {one x y xs ys c}:EqAt A s x y true->LexO A s false xs ys c->LexO A s one (x::xs) (y::ys) c
 |diff {one x y xs ys c}:EqAt A s x y false->uq A s one x y c->LexO A s one (x::xs) (y::ys) c
theorem LexAt.o {A:Around}{s:Shared}{xs ys:List Value}{c:Bool}(h:LexAt A s .Lt xs ys c):LexO A s false xs ys c:=by
 induction h with
 |nil=>exact .nil
 |same e _ ih=>exact .same e ih
 |diff e c=>exact .diff e c.one
theorem vI (fb:Bool) (x y:Value):keyLt' (tuples' fb) x y=(do
  let xs <- Builtin.List.listItems x;let ys <- Builtin.List.listItems y
  for ((p,q),i) in (xs.toList.zip ys.toList).zipIdx do
   if !(<- eqBool p q) then return <- oneLt' (fb&&i==0) p q
  return xs.size<ys.size):=rfl
theorem Aq {A:Around}{s:Shared}{fb:Bool}{l m:Addr}{o u:Obj}{xs ys:Array Value}{n k:Nat}{c:Bool}(h1:s.heap.get? l=some o) (d1:o.data=.seq xs n) (h2:s.heap.get? m=some u) (d2:u.data=.seq ys k)
  (L:LexO A s fb xs.toList ys.toList c) (hs:xs.size=ys.size){prog:Program}{w:World}{E:Value->Shared->Prop}{Q:Bool->Shared->Prop}(q:Q c s):wpAny (model prog w) A (keyLt' (tuples' fb) (.ref l) (.ref m)) Q E s:=by
 rw [vI]
 refine wpAny_bind (listItems_at h1 d1 (wpAny_bind (listItems_at h2 d2 (wpAny_bind ?_))))
 refine wpAny_forIn_list _ (λrest r z=>r.1=none/\z=s/\∃ us' vs' i one,rest=(us'.zip vs').zipIdx i/\(fb&&i==0)=one/\LexO A s one us' vs' c) _ ?_ ?_ _ _ ⟨rfl,rfl,xs.toList,ys.toList,0,fb,rfl,by simp,L⟩
 ·rintro ⟨⟨x,y⟩,i'⟩ rest r z ⟨hr,rfl,us',vs',i,one,hz,ho,L'⟩
  cases L' with
  |nil=>simp at hz
  |same e L2 =>
   simp only [List.zip_cons_cons,List.zipIdx_cons,List.cons.injEq,Prod.mk.injEq] at hz
   obtain ⟨⟨⟨rfl,rfl⟩,rfl⟩,rfl⟩:=hz
   refine wpAny_bind (e prog w _ _ ?_)
   exact wpAny_pure ⟨rfl,rfl,_,_,_,false,rfl,by simp,L2⟩
  |diff e cm =>
   simp only [List.zip_cons_cons,List.zipIdx_cons,List.cons.injEq,Prod.mk.injEq] at hz
   obtain ⟨⟨⟨rfl,rfl⟩,rfl⟩,rfl⟩:=hz
   refine wpAny_bind (e prog w _ _ ?_)
   rw [<- ho] at cm
   exact wpAny_bind (cm prog w _ _ (wpAny_pure (wpAny_pure q)))
 ·rintro ⟨r1,r2⟩ z ⟨hr,rfl,us',vs',i,one,hz,ho,L'⟩
  simp only at hr
  subst hr
  have hc:c=false:=by
   cases L' with
   |nil=>rfl
   |same _ _=>simp at hz
   |diff _ _=>simp at hz
  subst hc
  refine wpAny_pure ?_
  rw [hs]
  simpa using q
def tyK:Ky->String
 |.i _=>"int"
 |.s _=>"str"
 |.tt _=>"bool"
 |_=>"tuple"
def eO:Ky->SortKind
 |.cons h _=>tuples' (Value.type (tyK h) != Value.type "tuple")
 |_=>oneType'
def fit:Ky->Bool
 |.i _=>true
 |.s _=>true
 |.cons h _=>match h with|.nil=>false|_=>true
 |_=>false
theorem FG {x y:Ky}{A:Around}{s:Shared}{a b:Value}(hx:KR s a x) (hy:KR s b y) (hs:Ky.shp x y=true) (hf:fit x=true) (hu:A.units+x.dep+1<cLine){prog:Program}{w:World}{E:Value->Shared->Prop}{Q:Bool->Shared->Prop}
  (q:Q (Ky.lt x y) s):wpAny (model prog w) A (keyLt' (eO x) a b) Q E s:=by
 obtain ⟨ox,as,ra⟩:=hx
 obtain ⟨oy,bs,rb⟩:=hy
 cases x with
 |i n =>
  cases y<;>first|cases hs|skip
  obtain ⟨t,rfl⟩:=b7 ra
  obtain ⟨u,rfl⟩:=b7 rb
  exact oneLt_int q
 |s n =>
  cases y<;>first|cases hs|skip
  obtain ⟨t,rfl⟩:=b8 ra
  obtain ⟨u,rfl⟩:=b8 rb
  exact oneLt_str q
 |tt v=>cases hf
 |nil=>cases hf
 |cons h t =>
  cases y with
  |cons h' t' =>
   ·obtain ⟨_,_,_,_,rfl,a1,a2,a3,a4⟩:=br ra
    ·obtain ⟨_,_,_,_,rfl,b1,b2,b3,b4⟩:=br rb
     have L:=(lU .lt (.cons h t)).2 (A:=A) rfl hs ox oy a4 b4 (by omega)
     refine Aq a1 a3 b1 b3 ?_ (by simpa using L.2) q
     simp only [Ky.bU,Bool.and_eq_true] at hs
     simp only [Ky.fG,Bool.and_eq_true] at ox oy
     simp only [Ky.j3] at hu
     clear L
     generalize Array.toList _=us0 at a4 ⊢
     generalize Array.toList _=vs0 at b4 ⊢
     ·obtain ⟨_,_,_,_,rfl,r,rs⟩:=eN a4
      ·obtain ⟨_,_,_,_,rfl,r',rs'⟩:=eN b4
       have eq:=o5 (A:=A) hs.1 ox.1.1 oy.1.1 r r' (by omega)
       have rest:=(lU .lt t).2 (A:=A) ox.2 hs.2 ox.1.2 oy.1.2 rs rs' (by omega)
       show LexO A s _ _ _ (Ky.lt (.cons h t) (.cons h' t'))
       simp only [Ky.bB]
       by_cases e:h=h'
       ·rw [decide_eq_true e] at eq
        rw [if_pos e]
        exact .same eq rest.1.o
       ·rw [decide_eq_false e] at eq
        rw [if_neg e]
        refine .diff eq ?_
        cases h with
        |i n =>
         cases h'<;>first|cases hs.1|skip
         obtain ⟨t,rfl⟩:=b7 r
         obtain ⟨u,rfl⟩:=b7 r'
         exact λprog w E Q q=>oneLt_int q
        |s n =>
         cases h'<;>first|cases hs.1|skip
         obtain ⟨t,rfl⟩:=b8 r
         obtain ⟨u,rfl⟩:=b8 r'
         exact λprog w E Q q=>oneLt_str q
        |tt v =>
         cases h'<;>first|cases hs.1|skip
         obtain rfl:=cu r
         obtain rfl:=cu r'
         exact λprog w E Q q=>wj q
        |nil=>cases hf
        |cons h2 t2=>exact db.one ((lU .lt (.cons h2 t2)).1 (A:=A) hs.1 ox.1.1 oy.1.1 r r' (by omega))
  |_=>cases hs
end S6
namespace S6
open PySem PyProof.Rows PySem.SeqAt
theorem Ky.shp_trans:∀ {a b c:Ky},Ky.shp a b=true->Ky.shp b c=true->Ky.shp a c=true:=by
 intro a
 induction a with
 |cons u v iu iv =>
  intro b c e f
  cases b<;>first|cases e|skip
  cases c<;>first|cases f|skip
  simp only [Ky.bU,Bool.and_eq_true] at *
  exact ⟨iu e.1 f.1,iv e.2 f.2⟩
 |_ =>
     intro b c e f;cases b<;>first|cases e|skip
     all_goals (cases c<;>first|cases f|skip)
     all_goals rfl
theorem Ky.shp_dep:∀ {a b:Ky},Ky.shp a b=true->a.dep=b.dep:=by
 intro a
 induction a with
 |cons u v iu iv =>
  intro b e
  cases b<;>first|cases e|skip
  simp only [Ky.bU,Bool.and_eq_true] at e
  simp only [Ky.j3,iu e.1,iv e.2]
 |_=>intro b e;cases b<;>first|rfl|cases e
theorem sK {a b:Ky}(e:Ky.shp a b=true):tyK b=tyK a:=by
 cases a<;>cases b<;>first|rfl|cases e
theorem C9 {a b:Ky}(e:Ky.shp a b=true):eO b=eO a:=by
 cases a with
 |cons h t =>
  cases b with
  |cons h' t' =>
   simp only [Ky.bU,Bool.and_eq_true] at e
   simp only [eO,sK e.1]
  |_=>cases e
 |_=>cases b<;>first|rfl|cases e
theorem Ar {a b:Ky}(e:Ky.shp a b=true) (hf:fit a=true):fit b=true:=by
 cases a with
 |cons h t =>
  cases b with
  |cons h' t' =>
   simp only [Ky.bU,Bool.and_eq_true] at e
   have e1:=e.1
   cases h<;>cases h'<;>first|rfl|(cases hf;done)|(cases e1;done)
  |_=>cases e
 |_=>cases b<;>first|rfl|(cases hf;done)|(cases e;done)
section
variable {M:Model}{A:Around}{E:Value->Shared->Prop}{s:Shared}
theorem jA {α β:Type}{f:α->Sem β}{g:α->β}:∀ {l:List α}{Q:List β->Shared->Prop},(∀ v∈l,∀ Q':β->Shared->Prop,Q' (g v) s->wpAny M A (f v) Q' E s)->Q (l.map g) s->wpAny M A (l.mapM f) Q E s
 |[],Q,_,q=>by rw [List.mapM_nil];exact wpAny_pure q
 |v::l,Q,h,q=>by
  rw [List.mapM_cons]
  refine wpAny_bind (h v (List.mem_cons_self ..) _ (wpAny_bind (jA (λu hu=>h u (List.mem_cons_of_mem _ hu)) (wpAny_pure ?_))))
  exact q
theorem KR.ty {v:Value}{k:Ky}(h:KR s v k):s.TypeIs v (tyK k):=by
 obtain ⟨_,as,r⟩:=h
 cases k<;>simp only [Ky.dat] at r<;>cases r
 ·exact typeIs_int s _ _
 ·exact typeIs_str s _ _
 ·exact PySem.typeIs_bool s _
 ·exact ⟨_,‹_›,‹_›⟩
 ·exact ⟨_,‹_›,‹_›⟩
theorem pE {l:List Value}{T:String}{Q:Option Value->Shared->Prop}(h0:l≠[]) (h:∀ u∈l,s.TypeIs u T) (q:Q (some (.type T)) s):wpAny M A (oneTypeOnly' l.toArray) Q E s:=by
 rw [oneTypeOnly'_eq,List.mapM_toArray,map_eq_pure_bind]
 refine wpAny_bind (wpAny_bind (jA (g:=λ_=>Value.type T) (λu hu Q' q'=>wpAny_typeOf (h u hu) q') (wpAny_pure ?_)))
 cases l with
 |nil=>exact (h0 rfl).elim
 |cons v l =>
  have e0:(List.map (λ_:Value=>Value.type T) (v::l)).toArray[0]?=some (Value.type T):=by simp
  have ea:((List.map (λ_:Value=>Value.type T) (v::l)).toArray.all λx=>x==Value.type T)=true:=by
   simp only [List.all_toArray,List.all_map,List.all_eq_true]
   intro _ _
   show (Value.type T==Value.type T)=true
   exact beq_self_eq_true _
  rw [e0]
  simp only [ea,if_true]
  exact wpAny_pure q
theorem n4 (v:Value):firstOfTuple' v=(do
  if (<- typeOf v) != .type "tuple" then return none
  return (<- Builtin.List.listItems v)[0]?):=rfl
def hd1 (s:Shared):Value->Option Value
 |.ref a=>match s.heap.get? a with
  |some o=>match o.data with
   |.seq xs _=>xs[0]?
   |_=>none
  |none=>none
 |_=>none
theorem wm {vs:List Value}{k0:Ky}{Q:SortKind->Shared->Prop}(h0:vs≠[]) (hf:fit k0=true) (hk:∀ v∈vs,∃ k,KR s v k/\Ky.shp k0 k=true) (q:Q (eO k0) s):wpAny M A (keyKind' vs.toArray) Q E s:=by
 rw [keyKind'_eq,List.mapM_toArray,map_eq_pure_bind]
 have flat:∀ T:String,(Value.type T != Value.type "tuple")=true->(∀ v∈vs,s.TypeIs v T)->eO k0=oneType'->wpAny M A (do
   let firsts <- vs.mapM firstOfTuple' >>= λx=>pure x.toArray
   if firsts.all (·.isSome) then
    rule "list.sort.keys-are-tuples"
    return tuples' ((<- oneTypeOnly' (firsts.filterMap id)).any (· != .type "tuple"))
   if (firsts[0]?.bind id).isSome then return general'
   return if (<- oneTypeOnly' vs.toArray).isSome then oneType' else general') Q E s:=by
  intro T hT ht hkd
  refine wpAny_bind (wpAny_bind (jA (g:=λ_=>none) (λv hv Q' q'=>?_) (wpAny_pure ?_)))
  ·rw [n4]
   refine wpAny_bind (wpAny_typeOf (ht v hv) ?_)
   rw [if_pos hT]
   exact wpAny_pure q'
  ·cases vs with
   |nil=>exact (h0 rfl).elim
   |cons v l =>
    rw [if_neg (by simp),if_neg (by simp)]
    refine wpAny_bind (pE (by simp) ht ?_)
    rw [hkd] at q
    exact wpAny_pure q
 cases k0 with
 |tt v=>cases hf
 |nil=>cases hf
 |i n =>
  refine flat "int" (by decide) (λv hv=>?_) rfl
  obtain ⟨k,r,e⟩:=hk v hv
  cases k<;>first|exact r.ty|cases e
 |s n =>
  refine flat "str" (by decide) (λv hv=>?_) rfl
  obtain ⟨k,r,e⟩:=hk v hv
  cases k<;>first|exact r.ty|cases e
 |cons h t =>
  have each:∀ v∈vs,∃ a o xs n u,v=.ref a/\s.heap.get? a=some o/\o.cls=.type "tuple" /\ o.data=.seq xs n/\xs[0]?=some u/\s.TypeIs u (tyK h):=by
   intro v hv
   obtain ⟨k,⟨ok,as,r⟩,e⟩:=hk v hv
   cases k with
   |cons h' t' =>
    simp only [Ky.dat] at r
    cases r with
    |tuple a1 a2 a3 a4 =>
     rename_i xs n
     generalize hl:xs.toList=l at a4
     cases a4 with
     |cons r rs =>
      rename_i u us _ _
      simp only [Ky.fG,Bool.and_eq_true] at ok
      simp only [Ky.bU,Bool.and_eq_true] at e
      have ty:s.TypeIs u (tyK h'):=KR.ty ⟨ok.1.1,_,r⟩
      have et:tyK h'=tyK h:=sK e.1
      refine ⟨_,_,xs,_,u,rfl,a1,a2,a3,?_,et ▸ ty⟩
      rw [<- Array.getElem?_toList,hl];rfl
   |_=>cases e
  have gh:∀ v∈vs,∃ u,hd1 s v=some u/\s.TypeIs u (tyK h):=by
   intro v hv
   obtain ⟨a,o,xs,n,u,rfl,h1,_,h3,h4,h5⟩:=each v hv
   exact ⟨u,by simp only [hd1,h1,h3,h4],h5⟩
  refine wpAny_bind (wpAny_bind (jA (g:=hd1 s) (λv hv Q' q'=>?_) (wpAny_pure ?_)))
  ·obtain ⟨a,o,xs,n,u,rfl,h1,h2,h3,h4,h5⟩:=each v hv
   rw [n4]
   refine wpAny_bind (wpAny_typeOf (T:="tuple") ⟨o,h1,h2⟩ ?_)
   rw [if_neg (by decide)]
   refine wpAny_bind (listItems_at h1 h3 (wpAny_pure ?_))
   simpa only [hd1,h1,h3] using q'
  ·have all:(List.map (hd1 s) vs).toArray.all (·.isSome)=true:=by
    simp only [List.all_toArray,List.all_map,List.all_eq_true]
    intro v hv
    obtain ⟨u,e,_⟩:=gh v hv
    show (hd1 s v).isSome=true
    rw [e];rfl
   rw [if_pos all]
   refine wpAny_bind (wpAny_rule ?_)
   have fm:(List.map (hd1 s) vs).toArray.filterMap id=((List.map (hd1 s) vs).filterMap id).toArray:=by simp
   rw [fm]
   refine wpAny_bind (pE (T:=tyK h) ?_ (λu hu=>?_) (wpAny_pure q))
   ·cases vs with
    |nil=>exact (h0 rfl).elim
    |cons v l =>
     obtain ⟨u,e,_⟩:=gh v (List.mem_cons_self ..)
     simp [e]
   ·rw [List.mem_filterMap] at hu
    obtain ⟨x,hx,ex⟩:=hu
    rw [List.mem_map] at hx
    obtain ⟨v,hv,rfl⟩:=hx
    obtain ⟨u',e,ht⟩:=gh v hv
    rw [show id (hd1 s v)=hd1 s v from rfl,e] at ex
    cases ex;exact ht
end
theorem kO {α:Type}{prog:Program}{w:World}{A:Around}{E:Value->Shared->Prop}{s:Shared}{ks us:List Value}{k0:Ky}{rest:Unit×SortSt->Sem α}{Q:α->Shared->Prop}(hl:ks.length=us.length) (h64:us.length<64) (hf:fit k0=true)
  (hk:∀ v∈ks,∃ k,KR s v k/\Ky.shp k0 k=true) (hu:A.units+k0.dep+1<cLine)
  (h:∀ st:SortSt,(arrOf st).Perm (ks.toArray.zip us.toArray)->failedOf st=none->(∀ i j (hj:j<(arrOf st).size) (hi:i<(arrOf st).size),i<=j->Ky.lt (cn s (arrOf st)[j].1) (cn s (arrOf st)[i].1)=false)->wpAny (model prog w) A (rest ((),st)) Q E s) :
  wpAny (model prog w) A (do
   let kind <- if us.toArray.size<2 then pure general' else keyKind' ks.toArray
   let r <- (if us.toArray.size<2 then pure () else sortRuns').run (SortSt.mk' kind (ks.toArray.zip us.toArray) #[] 7 none)
   rest r) Q E s:=by
 have sz:(ks.toArray.zip us.toArray).size=us.length:=by simp [hl]
 by_cases h2:us.toArray.size<2
 ·rw [if_pos h2,if_pos h2]
  refine wpAny_bind (wpAny_pure ?_)
  dsimp only
  rw [StateT.run_pure]
  refine wpAny_bind (wpAny_pure (h _ (Array.Perm.refl _) rfl λi j hj hi ij=>?_))
  have e:i=j:=by
   have:j<(ks.toArray.zip us.toArray).size:=hj
   rw [sz] at this
   simp only [List.size_toArray] at h2
   omega
  subst e
  exact Ky.irr _
 ·rw [if_neg h2,if_neg h2]
  simp only [List.size_toArray] at h2
  refine wpAny_bind (wm (k0:=k0) (by intro e;rw [e] at hl;simp at hl;omega) hf hk ?_)
  have key:∀ v∈ks,KR s v (cn s v)/\Ky.shp k0 (cn s v)=true:=λv hv=>by
   obtain ⟨k,r,e⟩:=hk v hv
   rw [eZ r];exact ⟨r,e⟩
  have mem:∀ p∈(ks.toArray.zip us.toArray).toList,p.1∈ks:=λp hp=>by
   rw [show (ks.toArray.zip us.toArray).toList=ks.zip us by simp] at hp
   exact (List.of_mem_zip hp).1
  have shp2:∀ x∈ks.map (cn s),∀ y∈ks.map (cn s),Ky.shp x y=true:=λx hx y hy=>by
   rw [List.mem_map] at hx hy
   obtain ⟨v,hv,rfl⟩:=hx
   obtain ⟨v',hv',rfl⟩:=hy
   exact Ky.shp_trans (Ky.qB (key v hv).2) (key v' hv').2
  let ρ:Keyed->Nat:=λp=>rnk (ks.map (cn s)) (cn s p.1)
  have C:Cm prog w A s (eO k0) (ks.toArray.zip us.toArray) ρ:=λx y hx hy E' Q' q'=>by
   have mx:=mem x hx
   have my:=mem y hy
   have q2:Q' (Ky.lt (cn s x.1) (cn s y.1)) s:=by
    rw [<- sJ shp2 (List.mem_map_of_mem mx) (List.mem_map_of_mem my)];exact q'
   rw [<- C9 (key x.1 mx).2]
   refine FG (key x.1 mx).1 (key y.1 my).1 (shp2 _ (List.mem_map_of_mem mx) _ (List.mem_map_of_mem my)) (Ar (key x.1 mx).2 hf) ?_ q2
   rw [<- Ky.shp_dep (key x.1 mx).2];exact hu
  refine wpAny_bind (wpAny_mono (C7 (E:=E) (st:=SortSt.mk' (eO k0) (ks.toArray.zip us.toArray) #[] 7 none) (Q:=λ_ z=>(arrOf z).Perm (ks.toArray.zip us.toArray)/\failedOf z=none/\Up ρ (arrOf z) (ks.toArray.zip us.toArray).size) C ⟨Array.Perm.refl _,rfl,rfl,rfl⟩ (by rw [sz];omega) (by rw [sz];exact h64)
   λz a1 a2 a3=>⟨a1,a2,a3⟩) ?_ λ_ _ e=>e)
  rintro ⟨⟨⟩,z⟩ s' ⟨rfl,zp,zf,zu⟩
  refine h z zp zf λi j hj hi ij=>?_
  have up:=zu i j ij (by rw [<- zp.size_eq];exact hj)
  have mz:∀ k (hk:k<(arrOf z).size),(arrOf z)[k].1∈ks:=λk hk=>mem _ ((Array.perm_iff_toList_perm.mp zp).mem_iff.mp (by simp))
  have e1:∀ k (hk:k<(arrOf z).size),rk ρ (arrOf z) k=ρ (arrOf z)[k]:=λk hk=>by unfold rk;rw [getElem?_pos _ k hk];rfl
  rw [e1 i hi,e1 j hj] at up
  rw [<- sJ shp2 (List.mem_map_of_mem (mz j hj)) (List.mem_map_of_mem (mz i hi))]
  exact decide_eq_false (Nat.not_lt.mpr up)
end S6
namespace T2
open PySem PySem.Spec PyProof.Rows L2 S6
mutual
def tre:Ky->T
 |.i n=>.int n
 |.s x=>.str x
 |.tt v=>.bl v
 |.nil=>.tup []
 |.cons h t=>.tup (tre h::iW t)
def iW:Ky->List T
 |.cons h t=>tre h::iW t
 |_=>[]
end
theorem kY:∀ k:Ky,cC (tre k)=some k.dat/\bC (iW k)=some k.row
 |.i n=>⟨rfl,rfl⟩
 |.s n=>⟨rfl,rfl⟩
 |.tt n=>⟨rfl,rfl⟩
 |.nil=>⟨rfl,rfl⟩
 |.cons h t=>by
  have h1:=(kY h).1
  have h2:=(kY t).2
  exact ⟨by show (bC (tre h::iW t)).map PyData.tuple=_;rw [jw h1 h2];rfl,jw h1 h2⟩
theorem ny {X:Cx}{K:Fg}{pins:List (Addr×Obj)}{σ:L2.St}{H:Hp}{S:Sto}{s:Shared}{k:Ky}{v:V}{u:Value}(hK:X.K=K) (I:Inv X pins σ H s) (r:Rp K H S (tre k) v) (rv:av v u) (ok:Ky.ok k=true):KR s u k:=by
 subst hK
 exact ⟨ok,gA I (lL r (kY k).1) rv⟩
theorem gB {α β:Type}(f:α->β){m n:List β}(h:m.Perm n):∀ {l:List α},n=l.map f->∃ l':List α,l'.Perm l/\m=l'.map f:=by
 induction h with
 |nil =>
  intro l e
  exact ⟨[],by rw [List.map_eq_nil_iff.mp e.symm],rfl⟩
 |cons x _ ih =>
  intro l e
  cases l with
  |nil=>cases e
  |cons a l =>
   simp only [List.map_cons,List.cons.injEq] at e
   obtain ⟨l',p,q⟩:=ih e.2
   exact ⟨a::l',p.cons a,by rw [List.map_cons,q,e.1]⟩
 |swap x y z =>
  intro l e
  cases l with
  |nil=>cases e
  |cons a l =>
   cases l with
   |nil=>simp at e
   |cons b l =>
    simp only [List.map_cons,List.cons.injEq] at e
    exact ⟨b::a::l,List.Perm.swap a b l,by rw [List.map_cons,List.map_cons,e.1,e.2.1,e.2.2]⟩
 |trans _ _ ih1 ih2 =>
  intro l e
  obtain ⟨l',p,q⟩:=ih2 e
  obtain ⟨l2,p2,q2⟩:=ih1 q
  exact ⟨l2,p2.trans p,q2⟩
structure Rec where
 t:T
 v:V
 u:Value
 ku:Value
section
variable {X:Cx}{K:Fg}{pins:List (Addr×Obj)}{σ:L2.St}{H H':Hp}{S:Sto}{s:Shared}
theorem jB:∀ {ts:List T}{vs:List V}{us ks:List Value},Rps K H S ts vs->ap vs us->ks.length=us.length->∃ R:List Rec,R.map (·.t)=ts/\R.map (·.v)=vs/\R.map (·.u)=us/\R.map (·.ku)=ks/\∀ r∈R,Rp K H S r.t r.v/\av r.v r.u
 |_,_,_,[],.nil,.nil,_=>⟨[],rfl,rfl,rfl,rfl,λ_ h=>by cases h⟩
 |_,_,_,_::_,.nil,.nil,h=>by simp at h
 |_,_,_,[],.cons _ _,.cons _ _,h=>by simp at h
 |t::ts,v::vs,u::us,k::ks,.cons a b,.cons c d,h=>by
  obtain ⟨R,e1,e2,e3,e4,e5⟩:=jB b d (by simpa using h)
  refine ⟨⟨t,v,u,k⟩::R,by simp [e1],by simp [e2],by simp [e3],by simp [e4],λr hr=>?_⟩
  rcases List.mem_cons.mp hr with rfl|hr
  ·exact ⟨a,c⟩
  ·exact e5 r hr
theorem jq:∀ {R:List Rec},(∀ r∈R,Rp K H S r.t r.v/\av r.v r.u)->Rps K H S (R.map (·.t)) (R.map (·.v))/\ap (R.map (·.v)) (R.map (·.u))
 |[],_=>⟨.nil,.nil⟩
 |r::R,h=>by
  obtain ⟨a,b⟩:=h r (List.mem_cons_self ..)
  obtain ⟨c,d⟩:=jq λx hx=>h x (List.mem_cons_of_mem _ hx)
  exact ⟨.cons a c,.cons b d⟩
end
theorem vM (a f:Value):argsOk "sorted" ⟨[a],[(Str.ofString "key",f)]⟩:=by unfold argsOk;kernel_rfl
theorem vE (a f:Value):argsOk "list.sort" ⟨[a],[(Str.ofString "key",f)]⟩:=by unfold argsOk;kernel_rfl
theorem kF {prog:Program}{w:World}{A:Around}{E:Value->Shared->Prop}{s:Shared}{Ty:String}{name:Str}{id:String}{b:Builtin}{self:Value}{rest:List Value}{kw:List (Str×Value)}{Q:Value->Shared->Prop}(h:Slot Ty name id) (hT:s.TypeIs self Ty)
  (hb:entryFor table id=some b) (hc:wpAny (model prog w) A.in1 (b ⟨self::rest,kw⟩) (λfin s'=>∃ v,fin=.done (.ret v)/\Q v s') E s) (ha:argsOk id ⟨self::rest,kw⟩):wpAny (model prog w) A (call (.builtin id) (self::rest) kw) Q E s:=by
 refine wpAny_call (codeAny_call_builtin h.plain hb (h.check _ _ _ _ _ _ _ _ hT ha (wpAny_mono hc (λfin s' h'=>?_) λ_ _ h'=>h')))
 obtain ⟨v,rfl,hv⟩:=h';exact hv
theorem vW (a fa:Addr):Builtin.«list.sort» ⟨[.ref a],[(Str.ofString "key",.ref fa)]⟩=(do
  let items <- Builtin.List.listItems (.ref a)
  Builtin.List.listUpdate (.ref a) λ_=>#[]
  let before <- seqEpoch a
  let held <- newTuple items.toList
  let keyStore <- newList []
  holding [held,keyStore] do
   rule "list.sort.key"
   for x in items do
    match <- (call (.ref fa) [x]).attempt with
    |.ok k=>Builtin.List.listUpdate keyStore (·.push k)
    |.error e =>
     rule "list.sort.key-raised"
     let made <- Builtin.List.listItems keyStore
     Builtin.List.listUpdate keyStore λ_=>#[]
     letGo made.toList.reverse [e]
     Builtin.List.listUpdate (.ref a) λ_=>items;throw e
   let keys <- Builtin.List.listItems keyStore
   let kind <- if items.size<2 then pure general' else keyKind' keys
   let ((),s) <- (if items.size<2 then pure () else sortRuns').run (SortSt.mk' kind (keys.zip items) #[] 7 none)
   let sorted:=(arrOf s).map (·.2)
   Builtin.List.listUpdate keyStore λ_=>#[]
   letGo ((arrOf s).map (·.1)).toList (failedOf s).toList
   let touched:=(<- seqEpoch a) != before
   Builtin.List.listUpdate (.ref a) λ_=>sorted
   if let some e:=failedOf s then rule "list.sort.comparison-raised";throw e
   if touched then rule "list.sort.modified";raiseError "ValueError" "list modified during sort"
   ret .none):=by rfl
section
variable {X:Cx}{K:Fg}{pins:List (Addr×Obj)}{σ:L2.St}{H H':Hp}{S:Sto}{s:Shared}
theorem iz {D:Addr}{φ:Heap->Prop}{ws:List V}{its its':List Value}{n:Nat}{f:Array Value->Array Value}(I:Inv X pins σ H s) (h:H D=some (.ext φ)) (e:s.heap.get? D=some (seqObj "list" its.toArray n)) (hf:f its.toArray=its'.toArray) (r:ap ws its') (hz:ws.length<=sizeLine) :
  Inv X pins σ (upd H D (bf D ws)) { s with heap:=s.heap.update D (Obj.mapSeq f) }:=by
 obtain ⟨hh,g,d,t,os⟩:=s
 have e2:=get?_update_seq e f
 rw [hf] at e2
 refine I.write (t':=t) (h':=hh.update D (Obj.mapSeq f)) (x:=D) (e:=D) (by rw [h];trivial) (.inl rfl) (λb u hb q=>(Heap.get?_update_other _ _ (Ne.symm hb)).trans q) ⟨_,e2⟩ ⟨⟨hz,its',_,r,e2⟩,⟨_,e2⟩,λh1 h2 ⟨z',i',n',r',q'⟩ k=>⟨z',i',n',r',k _ q'⟩⟩
theorem ur {D:Addr}{zs:List V}(I:Inv X pins σ H s) (h:H D=some (bf D zs)):zs.length<=sizeLine/\∃ its n,ap zs its/\s.heap.get? D=some (seqObj "list" its.toArray n):=by
 obtain ⟨⟨z,its,n,r,e⟩,_,_⟩:=I.hok D _ h
 exact ⟨z,its,n,r,e⟩
theorem mC {D:Addr}{zs:List V}{its:List Value}{n t':Nat}{h':Heap}(I:Inv X pins σ H s) (k:∀ b u,s.heap.get? b=some u->h'.get? b=some u) (hp:s.heap.objs.size<=D) (r:ap zs its) (hz:zs.length<=sizeLine)
  (e:h'.get? D=some (seqObj "list" its.toArray n)):Inv X pins σ (upd H D (bf D zs)) { s with heap:=h',toks:=t' } :=
 I.laid k hp ⟨⟨hz,its,n,r,e⟩,⟨_,e⟩,λh1 h2 zz100 k=>by obtain ⟨z',i',n',r',q'⟩:=zz100;exact ⟨z',i',n',r',k _ q'⟩⟩
end
def bE (D:Addr) (o:Obj):HO:=.ext λh=>h.get? D=some o
theorem mD {X:Cx}{pins:List (Addr×Obj)}{σ:L2.St}{H:Hp}{s:Shared}{D:Addr}{o:Obj}{t':Nat}{h':Heap}(I:Inv X pins σ H s) (k:∀ b u,s.heap.get? b=some u->h'.get? b=some u) (hp:s.heap.objs.size<=D) (e:h'.get? D=some o):Inv X pins σ (upd H D (bE D o)) { s with heap:=h',toks:=t' } :=
 I.laid k hp ⟨e,⟨_,e⟩,λh1 h2 p k=>k _ p⟩
theorem nz {X:Cx}{pins:List (Addr×Obj)}{σ:L2.St}{H:Hp}{s:Shared}{D:Addr}{o:Obj}(I:Inv X pins σ H s) (h:H D=some (bE D o)):s.heap.get? D=some o:=(I.hok D _ h).1
def kq (tr:Bool) (xs:List T) (κ:T->Ky) (S:Sto) (Q:T->Sto->Prop):Prop:=∀ zs:List T,zs.Perm xs->zs.Pairwise (λa b=>Ky.lt (κ b) (κ a)=false)->a9 tr zs S Q
def mE (tr:Bool) (f:Addr) (wsp:WSp):List T->List T->Sto->(T->Sto->Prop)->Prop:=λts us S Q=>∃ x xs κ k0,ts=[x]/\us=[.ref f]/\aX S x=some xs/\xs.length<64/\fit k0=true/\k0.dep<=30 /\
 (∀ t∈xs,Ky.ok (κ t)=true/\Ky.shp k0 (κ t)=true/\∀ S' Q',Q' (tre (κ t)) S'->wsp [t] S' Q')/\kq tr xs κ S Q
def lCK (K:Fg) (g:List T->List T->Sto->(T->Sto->Prop)->Prop):List V->List V->Hp->VK->Prop:=λxs zs H Q=>∃ S ts us Qt,SRp K H S/\Rps K H S ts xs/\Rps K H S us zs/\g ts us S Qt/\Bh K H S Qt Q
theorem Au {X:Cx}{K:Fg}(tr:Bool){k:Nat}{f:Addr}{fd:FuncData}{x p:Str}{wsp:WSp}(hK:X.K=K) (F:FnOk X.prog X.w X.K X.mg X.base CX0 k f fd [p] (lSp K wsp)) (D:Df X.K X.mg x f fd [p]) (hr:Room (k+2) X.A) :
  sk X (.builtin "sorted") [Str.ofString "key"] (lCK K (mE tr f wsp)):=by
 rintro pins s σ H xs zs us ws Q I rv rz ⟨S,ts,us',Qt,sr,r1,r2,⟨x,ls,κ,k0,e1,e2,ev,h64,hf,hd,hk,hq⟩,b⟩
 subst e1 e2
 cases r1 with
 |cons rx rnil =>
 cases rnil
 cases r2 with
 |cons rf rnil =>
 cases rnil
 cases rf
 obtain ⟨u,rfl,ru⟩:=cg rv
 obtain ⟨u',rfl,ru'⟩:=cg rz
 obtain ⟨pl,vs,rfl,hS,rs⟩:=ci sr rx ev
 cases ru
 cases ru'
 have hS':SqL X.K H pl vs:=by rw [hK];exact hS
 obtain ⟨its,rvs,hpl,hz⟩:=I.list hS'
 obtain ⟨o,n,eo,ec,_,ed⟩:=hpl
 have hlen:its.length=ls.length:=by rw [<- rvs.length,rs.length]
 have hsl:its.length<=sizeLine:=by rw [<- rvs.length];exact hz
 show wpAny _ X.A (call (.builtin "sorted") [.ref pl] [(Str.ofString "key",.ref f)]) _ _ s
 refine kG kind_sorted plain_sorted entry_sorted (vM _ _) ?_
 unfold Builtin.«sorted»
 refine wpAny_bind (m:=checkCount "sorted" 1 1 _) (wpAny_pure ?_)
 refine wpAny_bind (collect_list (l:=pl) (vs:=its) ⟨o,eo,ec,n,ed⟩ ?_ hsl)
 refine wpAny_bind (wpAny_newList ?_ hsl)
 generalize hh1:(s.heap.push (seqObj "list" #[] 0)).update s.heap.objs.size (Obj.mapSeq (·++its.toArray))=h1
 have old1:∀ b u,s.heap.get? b=some u->h1.get? b=some u:=λb u e=>by
  rw [<- hh1]
  exact (Heap.get?_update_other _ _ (Ne.symm (Nat.ne_of_lt (Heap.lt_size e)))).trans (Heap.get?_push_of_some _ e)
 have sz1:s.heap.objs.size<=h1.objs.size:=by rw [<- hh1,Heap.size_update,size_push'];omega
 dsimp only
 have hoL:(h1.push (seqObj "list" its.toArray 0)).get? h1.objs.size=some (seqObj "list" its.toArray 0):=Heap.get?_push_size _ rfl
 refine wpAny_bind (wpAny_holding (kF slot_list_sort (Ty:="list") ⟨_,hoL,rfl⟩ entry_list_sort ?_ (vE _ _)))
 rw [vW]
 refine wpAny_bind (listItems_at hoL rfl ?_)
 refine wpAny_bind (listUpdate_at hoL rfl ?_ (by simpa using hsl) (by simp))
 obtain ⟨ep,ho1⟩:∃ ep,((h1.push (seqObj "list" its.toArray 0)).update h1.objs.size (Obj.mapSeq λ_=>#[])).get? h1.objs.size=some (seqObj "list" #[] ep):=⟨_,get?_update_seq hoL (λ_=>#[])⟩
 refine wpAny_bind (seqEpoch_at ho1 rfl ?_)
 generalize hL:h1.objs.size=L at *
 generalize hh2:(h1.push (seqObj "list" its.toArray 0)).update L (Obj.mapSeq λ_=>#[])=h2 at *
 have szh2:h2.objs.size=L+1:=by rw [<- hh2,Heap.size_update,size_push',hL]
 have I2:Inv X pins σ (upd H L (bE L (seqObj "list" #[] ep))) { s with heap:=h2,toks:=s.toks } :=
  mD I (λb u e=>by rw [<- hh2];exact (Heap.get?_update_other _ _ (Ne.symm (Nat.ne_of_lt (Nat.lt_of_lt_of_le (Heap.lt_size e) sz1)))).trans (Heap.get?_push_of_some _ (old1 b u e))) sz1 ho1
 refine wpAny_bind (wpAny_newTuple ?_ (by simpa using hsl))
 refine wpAny_bind (wpAny_newList ?_)
 dsimp only
 generalize hh3:h2.push { cls:=.type "tuple",data:=.seq its.toArray.toList.toArray }=h3
 have szh3:h3.objs.size=L+2:=by rw [<- hh3,size_push',szh2]
 generalize hh4:h3.push { cls:=.type "list",data:=.seq ([]:List Value).toArray }=h4
 rw [szh3]
 have I4:Inv X pins σ (upd (upd H L (bE L (seqObj "list" #[] ep))) (L+2) (bf (L+2) [])) { s with heap:=h4,toks:=s.toks } :=
  mC (s:={ s with heap:=h2,toks:=s.toks }) I2 (λb u e=>by rw [<- hh4,<- hh3];exact Heap.get?_push_of_some _ (Heap.get?_push_of_some _ e)) (by show h2.objs.size<=_;omega) .nil (Nat.zero_le _) (by rw [<- hh4,<- szh3];exact Heap.get?_push_size _ rfl)
 have ne1:L+2≠L:=Nat.ne_of_gt (Nat.lt_add_of_pos_right (by decide))
 have ne2:L≠L+2:=Ne.symm ne1
 have nL:H L=none:=I.hok.fresh sz1
 have nk:H (L+2)=none:=I.hok.fresh (by omega)
 have nk2:upd H L (bE L (seqObj "list" #[] ep)) (L+2)=none:=by rw [aE ne1];exact nk
 refine wpAny_holding (wpAny_bind (wpAny_rule (wpAny_bind ?_)))
 refine PySem.MeetsSeq2.wpAny_forIn_array _ (λrest _ s'=>∃ i kvs Hc,rest=its.drop i/\i<=its.length/\Inv X pins σ Hc s'/\Hc L=some (bE L (seqObj "list" #[] ep))/\Hc (L+2)=some (bf (L+2) kvs)/\S L=none/\S (L+2)=none/\Fr H S Hc S/\SRp K Hc S/\Rps K Hc S ((ls.take i).map λt=>tre (κ t)) kvs) _ ?_ ?_ _ _
  ⟨0,[],_,by simp,Nat.zero_le _,I4,by rw [aE ne2];exact aL,aL,sr.fresh nL,sr.fresh nk,(Fr.new nL).trans (Fr.new nk2),(sr.new nL).new nk2,.nil⟩
 ·rintro u0 rest ⟨⟩ s' ⟨i,kvs,Hc,hrest,hi,Ic,eL,ek,nSL,nSk,fc,sc,rk⟩
  have il:i<its.length:=by
   rcases Nat.lt_or_ge i its.length with z|z
   ·exact z
   ·rw [List.drop_eq_nil_of_le z] at hrest;cases hrest
  have hi1:its[i]?=some its[i]:=by simp [il]
  rw [jy hi1] at hrest
  obtain ⟨rfl,rfl⟩:=List.cons.inj hrest
  have il2:i<ls.length:=by rw [<- hlen];exact il
  have hi2:ls[i]?=some ls[i]:=by simp [il2]
  obtain ⟨v,ev,rv0⟩:=rs.get hi2
  obtain ⟨u1,eu,ru1⟩:=rvs.get ev
  rw [hi1] at eu;cases eu
  have hkt:=hk ls[i] (by simp)
  refine wpAny_bind (wpAny_attempt (wpAny_call (codeAny_mono (F.run X.A.in1.in1 X.stack s' Hc ⟨[its[i]],[]⟩ [its[i]] [v] (λv' H'=>Fr Hc S H' S/\SRp K H' S/\Rp K H' S (tre (κ ls[i])) v') E0 hr.in1.in1 Ic.env0.in1.in1 (D.b s' [its[i]] Ic.kIn rfl) (.cons ru1 .nil)
   ⟨S,[ls[i]],λk' S'=>S'=S/\k'=tre (κ ls[i]),sc,.cons (rv0.fr fc) .nil,hkt.2.2 S _ ⟨rfl,rfl⟩,λv' H' t' S' f' s' r' q'=>by obtain ⟨rfl,rfl⟩:=q';exact ⟨f',s',r'⟩⟩) λr s2 hr2=>?_)))
  cases r with
  |error e=>exact False.elim hr2
  |ok fl =>
   cases fl with
   |next=>exact False.elim hr2
   |brk=>exact False.elim hr2
   |cont=>exact False.elim hr2
   |ret ku =>
    obtain ⟨v',H',I',r',f',s'',rp'⟩:=Ic.after hr2
    have ek':=(f' (L+2) _ ek nSk).1
    have eL':=(f' L _ eL nSL).1
    obtain ⟨zz,kus,nn,rku,eku⟩:=ur I' ek'
    have lk:kvs.length=i:=by rw [rk.length];simp;omega
    have lk2:kus.length=i:=by rw [<- rku.length];exact lk
    dsimp only
    refine wpAny_bind (listUpdate_at eku rfl ?_ (by simp;omega) (by simp;omega))
    refine wpAny_pure ⟨i+1,kvs++[v'],_,rfl,il,iz I' ek' eku (its':=kus++[ku]) (by simp) (rku.append (.cons r' .nil)) (by simp;omega),?_,aL,nSL,nSk,?_,s''.chg ek' nSk,?_⟩
    ·rw [aE ne2];exact eL'
    ·exact Fr.at (fc.trans f') nk
    ·rw [List.take_add_one,hi2]
     simp only [Option.toList_some,List.map_append,List.map_cons,List.map_nil]
     exact Rps.chg ek' ((rk.fr f').append (.cons rp' .nil))
 ·rintro ⟨⟩ s5 ⟨i,kvs,Hc,hrest,hi,I5,eL,ek,nSL,nSk,fc,sc,rk⟩
  have hi':i=ls.length:=by
   rcases Nat.lt_or_ge i its.length with z|z
   ·have hi1:its[i]?=some its[i]:=by simp [z]
    rw [jy hi1] at hrest;cases hrest
   ·omega
  subst hi'
  rw [List.take_length] at rk
  obtain ⟨zz,kus,nn,rku,eku⟩:=ur I5 ek
  have lk2:kus.length=its.length:=by rw [<- rku.length,rk.length,List.length_map,hlen]
  have rs5:=rs.fr fc
  obtain ⟨R,q1,q2,q3,q4,q5⟩:=jB rs5 rvs lk2
  have key:∀ r∈R,KR s5 r.ku (κ r.t)/\Ky.shp k0 (κ r.t)=true:=by
   have rkk:Rps K Hc S (R.map λr=>tre (κ r.t)) kvs:=by
    have:R.map (λr=>tre (κ r.t))=ls.map λt=>tre (κ t):=by rw [<- q1,List.map_map];rfl
    rw [this];exact rk
   have go:∀ {R:List Rec}{kvs:List V},Rps K Hc S (R.map λr=>tre (κ r.t)) kvs->ap kvs (R.map (·.ku))->(∀ r∈R,r.t∈ls)->∀ r∈R,KR s5 r.ku (κ r.t)/\Ky.shp k0 (κ r.t)=true:=by
    intro R
    induction R with
    |nil=>intro _ _ _ _ r hr;cases hr
    |cons r0 R ih =>
     intro kvs a b m r hr
     cases a with
     |cons a1 a2 =>
      cases b with
      |cons b1 b2 =>
       rcases List.mem_cons.mp hr with rfl|hr
       ·have:=hk r.t (m r (List.mem_cons_self ..))
        exact ⟨ny hK I5 a1 b1 this.1,this.2.1⟩
       ·exact ih a2 b2 (λx hx=>m x (List.mem_cons_of_mem _ hx)) r hr
   exact go rkk (by rw [q4];exact rku) λr hr=>by rw [<- q1];exact List.mem_map_of_mem hr
  refine wpAny_bind (listItems_at eku rfl ?_)
  refine kO (k0:=k0) lk2 (by rw [hlen];exact h64) hf (λv hv=>?_) (by have:=hr.in1.in1.units;omega) λst hp hfail hsrt=>?_
  ·rw [<- q4] at hv
   obtain ⟨r,hr,rfl⟩:=List.mem_map.mp hv
   exact ⟨_,key r hr⟩
  ·obtain ⟨R',pR,eR⟩:=gB (λr:Rec=>((r.ku,r.u):Keyed)) (Array.perm_iff_toList_perm.mp hp) (l:=R) (by
    have:(kus.toArray.zip its.toArray).toList=kus.zip its:=by simp
    rw [this,<- q3,<- q4]
    exact List.zip_map')
   have memR:∀ r∈R',r∈R:=λr hr=>pR.mem_iff.mp hr
   obtain ⟨rz,vz⟩:=jq λr hr=>q5 r (memR r hr)
   have lR:R'.length=its.length:=by rw [pR.length_eq,<- q3,List.length_map]
   have szR:(arrOf st).size=R'.length:=by rw [<- Array.length_toList,eR,List.length_map]
   have at_:∀ k (h:k<(arrOf st).size) (h':k<R'.length),(arrOf st)[k].1=R'[k].ku:=λk h h'=>by
    have e1:(arrOf st)[k]=(arrOf st).toList[k]'(by simpa using h):=by simp
    rw [e1,List.getElem_of_eq eR,List.getElem_map]
   have srt:(R'.map (·.t)).Pairwise (λa b=>Ky.lt (κ b) (κ a)=false):=by
    rw [List.pairwise_map,List.pairwise_iff_getElem]
    intro i j hi hj ij
    have:=hsrt i j (by rw [szR];exact hj) (by rw [szR];exact hi) (Nat.le_of_lt ij)
    rw [at_ i (by rw [szR];exact hi) hi,at_ j (by rw [szR];exact hj) hj,eZ (key _ (memR _ (List.getElem_mem hi))).1,eZ (key _ (memR _ (List.getElem_mem hj))).1] at this
    exact this
   have fin:=hq (R'.map (·.t)) (by rw [<- q1];exact pR.map _) srt
   have eL5:=nz I5 eL
   have out:(arrOf st).map (·.2)=(R'.map (·.u)).toArray:=by
    apply Array.toList_inj.mp
    rw [Array.toList_map,eR,List.map_map]
    rfl
   dsimp only
   refine wpAny_bind (listUpdate_at eku rfl ?_ (by simp;omega) (by simp))
   refine wpAny_bind (wpAny_letGo ?_)
   have I6:=iz I5 ek eku (f:=λ_=>#[]) (its':=[]) (ws:=[]) rfl .nil (Nat.zero_le _)
   have eL6:(s5.heap.update (L+2) (Obj.mapSeq λ_=>#[])).get? L=some (seqObj "list" #[] ep):=(Heap.get?_update_other _ _ ne1).trans eL5
   have hL6:upd Hc (L+2) (bf (L+2) []) L=some (bE L (seqObj "list" #[] ep)):=by rw [aE ne2];exact eL
   refine wpAny_bind (seqEpoch_at eL6 rfl ?_)
   refine wpAny_bind (listUpdate_at eL6 rfl ?_ (by simp) (by rw [out];simp;omega))
   rw [hfail]
   simp only [bne_self_eq_false,Bool.false_eq_true,if_false]
   have I7:=iz I6 hL6 (its:=[]) eL6 (f:=λ_=>(arrOf st).map (·.2)) (its':=R'.map (·.u)) out vz (by rw [List.length_map,lR];exact hsl)
   have I8:=I7.ofAcc (D:=L) aL
   rw [gF] at I8
   refine wpAny_pure ⟨_,rfl,wpAny_pure ⟨.ref L,_,I8,rfl,?_⟩⟩
   have s6:=sc.chg (o:=bf (L+2) []) ek nSk
   have r6:=Rps.chg (o:=bf (L+2) []) ek rz
   have f6:Fr H S (upd Hc (L+2) (bf (L+2) [])) S:=Fr.at fc nk
   cases tr with
   |false=>exact b _ _ (.lst _) S (Fr.at f6 nL) (s6.chg hL6 nSL) (.lst nSL aL (Rps.chg hL6 r6)) fin
   |true =>
    refine b _ _ (.ref L) _ (λa o h nn=>?_) (SRp.trk hL6 s6 r6) .ref (fin L nSL)
    have ha:a≠L:=bv h nL
    rw [aD ha]
    exact Fr.at f6 nL a o h nn
def wSK (g:List T->List T->Sto->(T->Sto->Prop)->Prop) (wr:WA) (wk:WE):WE:=λσ S Q=>wr σ S λts S1=>wk σ S1 λy S2=>g ts [y] S2 Q
theorem Dc {K:Fg}{g:List T->List T->Sto->(T->Sto->Prop)->Prop}{wr:WA}{wk:WE}{σ H Q}(h:lE K (wSK g wr wk) σ H Q):uU (lCK K g) (lA K wr) (m6 (lE K wk) dY) σ H Q:=by
 obtain ⟨S,σt,Qt,s,c,q,hq⟩:=h
 refine ⟨S,σt,_,s,c,q,λvs H1 ts S1 f1 s1 r1 q1=>?_⟩
 refine ⟨S1,σt,_,s1,c.fr f1,q1,λy H2 ty S2 f2 s2 r2 q2=>?_⟩
 exact ⟨S2,ts,[ty],Qt,s2,r1.fr f2,.cons r2 .nil,q2,λv H' t S' f=>hq v H' t S' ((f1.trans f2).trans f)⟩
theorem rl {X:Cx}{K:Fg}(tr:Bool){k:Nat}{f:Addr}{fd:FuncData}{fx pn:Str}{wsp:WSp}{p pos kp kpos:Pos}{e:Expr}{wr:WA}(hK:X.K=K) (F:FnOk X.prog X.w X.K X.mg X.base CX0 k f fd [pn] (lSp K wsp)) (D:Df X.K X.mg fx f fd [pn]) (hr:Room (k+2) X.A)
  (hg:Gl X "sorted") (hm:X.mg "sorted"=none) (hgf:Gl X fx) (ha:QA K X [e] wr) (hdb:(fx==("__debug__":Str))=false:=by decide)
  (hks:(backToKw pos (keywordEach [⟨some (Str.ofString "key"),.Name fx kp,kpos⟩] X.env)).filterMap (·.1)=[Str.ofString "key"]:=by rfl)
  (he:backTo pos (starEach [e] X.env)=(false,eval e X.env)::backTo pos (starEach [] X.env):=by rfl)
  (hplain:(backTo pos (starEach [e] X.env)).any (·.1)=false:=by rfl)
  (hall:(backToKw pos (keywordEach [⟨some (Str.ofString "key"),.Name fx kp,kpos⟩] X.env)).all (·.1.isSome)=true:=by rfl)
  (hkw2:(backToKw pos (keywordEach [⟨some (Str.ofString "key"),.Name fx kp,kpos⟩] X.env)).any (·.1.isNone)=false:=by rfl) :
  QE K X (.Call (.Name "sorted" p) [e] [⟨some (Str.ofString "key"),.Name fx kp,kpos⟩] pos) (wSK (mE tr f wsp) wr (wC (.ref f))):=by
 have hk:QE K X (.Name fx kp) (wC (.ref f)):=mo (qJ (v:=.ref f) hgf D.hm rfl hdb) λ_ _=>.ref
 exact PE.of (wU (Au tr hK F D hr) hg hm PyProof.Rows.boot_sorted ha (zH hk B7) hks (by decide) (by decide) he hplain hall hkw2) λ_ _ _ h=>Dc h
theorem Hg {σ:StT}{S:Sto}{Q:T->Sto->Prop}{g:List T->List T->Sto->(T->Sto->Prop)->Prop}{wr:WA}{wk:WE}(h:wr σ S λts S1=>wk σ S1 λy S2=>g ts [y] S2 Q):wSK g wr wk σ S Q:=h
theorem rp {α:Type}{S:Sto}{Q:T->Sto->Prop}{tr:Bool}{f:Addr}{wsp:WSp}{ft:α->T}{ls:List α}{x:T}(κT:T->Ky) (k0:Ky) (e:aX S x=some (ls.map ft)) (h64:ls.length<64) (hf:fit k0=true) (hd:k0.dep<=30)
  (hk:∀ a∈ls,Ky.ok (κT (ft a))=true/\Ky.shp k0 (κT (ft a))=true/\∀ S' Q',Q' (tre (κT (ft a))) S'->wsp [ft a] S' Q')
  (h:∀ l':List α,l'.Perm ls->l'.Pairwise (λa b=>Ky.lt (κT (ft b)) (κT (ft a))=false)->a9 tr (l'.map ft) S Q):mE tr f wsp [x] [.ref f] S Q:=by
 refine ⟨x,ls.map ft,κT,k0,rfl,rfl,e,by rw [List.length_map];exact h64,hf,hd,λt ht=>?_,λzs hp hs=>?_⟩
 ·obtain ⟨a,ha,rfl⟩:=List.mem_map.mp ht
  exact hk a ha
 ·obtain ⟨l',p,rfl⟩:=gB ft hp rfl
  rw [List.pairwise_map] at hs
  exact h l' p hs
end T2
namespace Tm
open PySem PySem.Spec PyProof.Rows
abbrev tl (x:Str):List Nat:=x.cps.toList
theorem ext {x y:Str}(h:tl x=tl y):x=y:=by cases x;cases y;simp only [tl] at h;rw [Array.toList_inj.mp h]
theorem len (x:Str):(tl x).length=x.length:=by simp [tl,Str.length]
theorem gP (x y:Str):tl (x++y)=tl x++tl y:=by show (x.cps++y.cps).toList=_;simp [tl]
theorem FH (l:List Nat):tl ⟨l.toArray⟩=l:=by simp [tl]
def aY (g:List Nat):List (List Nat)->List Nat
 |[]=>[]
 |[p]=>p
 |p::q::r=>p++g++aY g (q::r)
theorem kZ (g:Str):∀ ps:List Str,tl (Str.join g ps)=aY (tl g) (ps.map tl)
 |[]=>rfl
 |[p]=>rfl
 |p::q::r=>by
  have ih:=kZ g (q::r)
  show tl ((p++g++Str.join g (q::r)):Str)=tl p++tl g++aY (tl g) ((q::r).map tl)
  rw [<- ih,gP,gP]
theorem jC (g:Str) (ps:List Str):tl (Txt.join g ps)=aY (tl g) (ps.map tl):=by
 rw [show Txt.join g ps=Str.join g ps from StrLaws.glued_eq_join g ps,kZ]
theorem j4:tl (" ":Str)=[32]:=by decide +kernel
theorem empty:tl ("":Str)=[]:=by decide +kernel
theorem pF (x:Str):aY [32] ((Txt.split x " ").map tl)=tl x:=by
 have:=kZ " " (Txt.split x " ")
 rw [StrLaws.join_split,j4] at this
 exact this.symm
theorem split_free (x:Str):∀ p∈(Txt.split x " ").map tl,32∉p:=λp hp=>by
 obtain ⟨q,hq,rfl⟩:=List.mem_map.mp hp
 exact StrLaws.split_free x 32 q hq
theorem yk (x:Str):(Txt.split x " ")≠[]:=λh=>by
 have:=split_pos x " "
 rw [h] at this;simp at this
theorem sL (n d:Nat) (h:d<=n) (o:Option Int):HT.sIx n d o<=n:=by
 cases o with
 |none=>exact h
 |some v=>simp only [HT.sIx];split<;>omega
theorem yn (lo hi:Option Int) (n:Nat):Builtin.Str.strSliceIndices lo hi 1 n=(List.range (HT.sIx n n hi - HT.sIx n 0 lo)).map λk=>HT.sIx n 0 lo+k:=by
 have c:∀ i:Int,max 0 (min (if i<0 then i+(n:Int) else i) (n:Int))=(((if i<0 then (i+(n:Int)).toNat else min i.toNat n):Nat):Int):=λi=>by split<;>omega
 have key:Builtin.Str.strSliceIndices lo hi 1 n=sliceRange ((HT.sIx n 0 lo:Nat):Int) ((HT.sIx n n hi:Nat):Int) 1:=by
  unfold Builtin.Str.strSliceIndices
  cases lo with
  |none =>
   cases hi with
   |none=>rfl
   |some j=>simp only [show (1:Int)>0 by decide,if_true,c,HT.sIx];rfl
  |some i =>
   cases hi with
   |none=>simp only [show (1:Int)>0 by decide,if_true,c,HT.sIx]
   |some j=>simp only [show (1:Int)>0 by decide,if_true,c,HT.sIx]
 rw [key]
 unfold sliceRange
 simp only [show (1:Int)>0 by decide,if_true,Int.one_mul]
 have hc:(if ((HT.sIx n 0 lo:Nat):Int)<((HT.sIx n n hi:Nat):Int) then (((HT.sIx n n hi:Nat):Int) - ((HT.sIx n 0 lo:Nat):Int)+1 - 1) / 1 else 0).toNat=HT.sIx n n hi - HT.sIx n 0 lo:=by
  split
  ·rw [Int.ediv_one];omega
  ·simp;omega
 rw [hc]
 apply List.map_congr_left
 intro k _
 omega
theorem k6 (x:Str) (lo hi:Option Int):tl (Txt.slice x lo hi)=((tl x).drop (HT.sIx x.length 0 lo)).take (HT.sIx x.length x.length hi - HT.sIx x.length 0 lo):=by
 have hA:=sL x.length 0 (Nat.zero_le _) lo
 have hB:=sL x.length x.length (Nat.le_refl _) hi
 have hl:=len x
 unfold Txt.slice
 rw [yn]
 split
 ·next h =>
  simp only [beq_self_eq_true,Bool.true_and,List.length_map,List.length_range,beq_iff_eq] at h
  have h0:HT.sIx x.length 0 lo=0\/x.length=0:=by omega
  rcases h0 with h0|h0
  ·rw [h0,List.drop_zero,List.take_of_length_le (by omega)]
  ·have:tl x=[]:=List.length_eq_zero_iff.mp (by omega)
   rw [this];simp
 ·rw [FH]
  have:=StrLaws.picks (tl x) (HT.sIx x.length x.length hi - HT.sIx x.length 0 lo) (HT.sIx x.length 0 lo)
  by_cases hle:HT.sIx x.length 0 lo<=HT.sIx x.length x.length hi
  ·rw [<- this (by rw [hl];omega)]
   simp [tl]
  ·rw [show HT.sIx x.length x.length hi - HT.sIx x.length 0 lo=0 by omega];simp
theorem k7 (x:Str) (k:Nat):tl (Txt.slice x none (some k))=(tl x).take k:=by
 rw [k6,HT.sIx_none,HT.sIx_nat,List.drop_zero,Nat.sub_zero,<- len x,<- List.take_take,List.take_of_length_le (Nat.le_refl _)]
theorem De (x y:Str):Txt.startswith x y=decide ((tl x).take (tl y).length=tl y):=by
 unfold Txt.startswith
 rw [StrLaws.subAt_eq,List.drop_zero,Nat.zero_add,len]
 by_cases h:y.length<=x.length
 ·simp only [h,decide_true,Bool.true_and]
  rw [Bool.eq_iff_iff];simp
 ·simp only [h,decide_false,Bool.false_and]
  symm
  rw [decide_eq_false_iff_not]
  intro e
  have:=congrArg List.length e
  rw [List.length_take,len,len] at this
  omega
theorem Dg {g:Str}{ps:List Str}{b:Nat}(h:∀ p∈ps,p.length<=b) (h2:ps.length * (b+g.length)<=10000):JoinOk g ps=true:=by
 have main:∀ (ps:List Str) (acc:Nat),(∀ p∈ps,p.length<=b)->ps.foldl (λa p=>a+p.length+g.length) acc<=acc+ps.length * (b+g.length):=by
  intro ps
  induction ps with
  |nil=>intro acc _;simp
  |cons p r ih =>
   intro acc h
   have:=ih (acc+p.length+g.length) λq hq=>h q (List.mem_cons_of_mem _ hq)
   have hp:=h p List.mem_cons_self
   simp only [List.foldl_cons,List.length_cons,Nat.add_mul,Nat.one_mul] at this ⊢
   omega
 have:=main ps 0 h
 unfold JoinOk Builtin.Str.tooLong
 rw [List.foldl_toArray]
 have hs:sizeLine=16777216:=sizeLine_eq
 simp only [Bool.not_eq_true',decide_eq_false_iff_not]
 omega
theorem yo (zs:List Str):T2.fu (zs.map T2.T.str)=some zs:=by
 induction zs with
 |nil=>rfl
 |cons a l ih=>simp [T2.qX,ih]
theorem Av (d:Nat):Str.length ⟨#[d]⟩=1:=rfl
theorem qa:Str.length (Str.ofString " ")=1:=by decide +kernel
theorem kP:Str.length (Str.ofString "")=0:=by decide +kernel
theorem Aw (g:Str){b:Nat}:∀ zs:List Str,(∀ y∈zs,y.length<=b)->(Txt.join g zs).length<=zs.length * (b+g.length):=by
 intro zs h
 rw [<- len,jC,<- len g]
 induction zs with
 |nil=>simp [aY]
 |cons y r ih =>
  have hy:=h y List.mem_cons_self
  rw [<- len] at hy
  have h3:=ih λq hq=>h q (List.mem_cons_of_mem _ hq)
  cases r with
  |nil=>simp only [List.map_cons,List.map_nil,aY,List.length_cons,List.length_nil];omega
  |cons y2 r2 =>
   simp only [List.map_cons,aY,List.length_append,List.length_cons,Nat.add_mul,Nat.one_mul] at h3 ⊢
   omega
theorem qb (g:List Nat):∀ (ps:List (List Nat)) (p:List Nat),p∈ps->p.length<=(aY g ps).length
 |[],_,h=>by cases h
 |[q],p,h=>by rw [List.mem_singleton.mp h];simp [aY]
 |q::q2::r,p,h=>by
  simp only [aY,List.length_append]
  rcases List.mem_cons.mp h with rfl|h
  ·omega
  ·have:=qb g (q2::r) p h
   omega
theorem xi {a x:Str}(h:x∈Txt.split a " "):x.length<=a.length:=by
 have:=qb [32] _ _ (List.mem_map_of_mem (f:=tl) h)
 rw [pF,len,len] at this
 exact this
theorem vN (x y:Str):Txt.startswith x y=decide (Txt.slice x none (some (y.length:Int))=y):=by
 rw [De,len,Bool.eq_iff_iff]
 simp only [decide_eq_true_eq]
 constructor
 ·intro h;exact ext (by rw [k7];exact h)
 ·intro h;rw [<- k7,h]
end Tm
namespace T2
open PySem PySem.Spec PyProof.Rows L2
section
variable {K:Fg}{X:Cx}{k:Nat}{f:Addr}{fd:FuncData}{ps:List Str}{wsp:WSp}{x m:Str}{p pos apos cpos:Pos}{e o:Expr}{es:List Expr}{wa wb:WE}{wr:WA}{id ty:String}{g:GC}{gm:GM}{i:Nat}
theorem aa (i:Nat) (hN:X.N[i]?=some x:=by rfl) (hv:Vis X.env.scope x:=by first|exact Or.inl rfl|exact Or.inr (Or.inl rfl)|exact Or.inr (Or.inr rfl)) (hd:(x==("__debug__":Str))=false:=by decide)
  (hcd:(x==("__classdict__":Str))=false:=by decide):QE K X (.Name x pos) (wV i):=EM (BG hN hv hd hcd)
theorem cv {n:String}(hg:Gl X x) (hm:X.mg x=none) (hv:bootBuiltins x=some (.type n)) (hn:x ≠ "__name__":=by decide) (hd:(x==("__debug__":Str))=false:=by decide):QE K X (.Name x pos) (wC (.ty n)) :=
 mo (zn (v:=.ty n) hg hm hv rfl hn hd) λ_ _=>.ty
theorem iA {n:Int}(hg:Gl X x) (hm:∃ tk,X.mg x=some (.int n tk)) (hd:(x==("__debug__":Str))=false:=by decide):QE K X (.Name x pos) (wC (.int n)):=by
 obtain ⟨tk,hm⟩:=hm
 exact mo (qJ (v:=.int n) hg hm ⟨tk,rfl⟩ hd) λ_ _=>.int
theorem az (F:FnOk X.prog X.w X.K X.mg X.base CX0 k f fd ps (lSp K wsp)) (D:Df X.K X.mg x f fd ps) (hr:Room k X.A) (hg:Gl X x) (ha:QA K X (e::es) wr)
  (hdb:(x==("__debug__":Str))=false:=by decide) (he:starEach (e::es) X.env=(false,eval e X.env)::starEach es X.env:=by rfl) (hpl:(backTo pos (starEach es X.env)).any (·.1)=false:=by rfl) :
  QE K X (.Call (.Name x p) (e::es) [] pos) (jW wsp [] wr):=Cq (dvs:=[]) (λ_ _=>.nil) (zF F hr hg D.hm D.kp D.b .nil gR ha hdb he hpl)
theorem aO (hc:bz X (.builtin id) (lC K g)) (hg:Gl X x) (hm:X.mg x=none) (hv:bootBuiltins x=some (.builtin id)) (ha:QA K X (e::es) wr) (hn:x ≠ "__name__":=by decide) (hdb:(x==("__debug__":Str))=false:=by decide)
  (he:starEach (e::es) X.env=(false,eval e X.env)::starEach es X.env:=by rfl) (hpl:(backTo pos (starEach es X.env)).any (·.1)=false:=by rfl):QE K X (.Call (.Name x p) (e::es) [] pos) (wCB g wr):=vq (xN hc hg hm hv ha hn hdb he hpl)
theorem ut (hc:bz X (.type id) (lC K g)) (hg:Gl X x) (hm:X.mg x=none) (hv:bootBuiltins x=some (.type id)) (ha:QA K X (e::es) wr) (hn:x ≠ "__name__":=by decide) (hdb:(x==("__debug__":Str))=false:=by decide)
  (he:starEach (e::es) X.env=(false,eval e X.env)::starEach es X.env:=by rfl) (hpl:(backTo pos (starEach es X.env)).any (·.1)=false:=by rfl):QE K X (.Call (.Name x p) (e::es) [] pos) (wCB g wr):=vq (wQ hc hg hm hv ha hn hdb he hpl)
theorem d5 (hK:X.K=K) (pa:PlainAttrs ty) (slot:Slot ty m id) (hty:typeOf (.builtin id)=pure (.type "method_descriptor")) (hm:MtR X id (lM K gm)) (ho:QE K X o wa) (ha:QA K X (e::es) wr)
  (h:∀ {to t r},PE X o to->MtR X id r->PA X (e::es) t->PE X (.Call (.Attribute o m apos) (e::es) [] cpos) (tBM X.K ty r to t)):QE K X (.Call (.Attribute o m apos) (e::es) [] cpos) (wBM ty gm wa wr):=by
 subst hK
 exact GT (h ho hm ha)
theorem bi {y:Str}{i:Nat}(hN:X.N.Nodup) (hi:X.N[i]?=some y) (hx:Loc X.env.scope y) (hf:X.fn y=true\/X.env.scope.names.lookup y=some .local:=by first|exact .inl rfl|exact .inr rfl|assumption):QG K X (.Name y pos) (wgN i):=z4 (zv hN hi hx hf)
theorem dQ {i:Expr}{wo wi:WE}{g:GS}(ho:QE K X o wo) (hi:QE K X i wi) (hs:eI X (g6 K g))
  (h:∀ {to ti t},PE X o to->PE X i ti->eI X t->PG X (.Subscript o i pos) (L2.gY to ti t)):QG K X (.Subscript o i pos) (wgS wo wi g):=CF (h ho hi hs)
end
end T2
namespace T2
open PySem PySem.Spec PyProof.Rows L2 S6
theorem oM (a:Value):argsOk "sorted" ⟨[a],[]⟩:=by unfold argsOk;kernel_rfl
theorem n6 (a:Value):argsOk "list.sort" ⟨[a],[]⟩:=by unfold argsOk;kernel_rfl
theorem ou (a:Addr):Builtin.«list.sort» ⟨[.ref a],[]⟩=(do
  let items <- Builtin.List.listItems (.ref a)
  Builtin.List.listUpdate (.ref a) λ_=>#[]
  let before <- seqEpoch a
  let held <- newTuple items.toList
  let keyStore <- newList []
  holding [held,keyStore] do
   let keys <- pure items
   let kind <- if items.size<2 then pure general' else keyKind' keys
   let ((),s) <- (if items.size<2 then pure () else sortRuns').run (SortSt.mk' kind (keys.zip items) #[] 7 none)
   let sorted:=(arrOf s).map (·.2)
   let touched:=(<- seqEpoch a) != before
   Builtin.List.listUpdate (.ref a) λ_=>sorted
   if let some e:=failedOf s then rule "list.sort.comparison-raised";throw e
   if touched then rule "list.sort.modified";raiseError "ValueError" "list modified during sort"
   ret .none):=by rfl
def uu (tr:Bool):List T->Sto->(T->Sto->Prop)->Prop:=λts S Q=>∃ x xs κ k0,ts=[x]/\aX S x=some xs/\xs.length<64/\fit k0=true/\k0.dep<=30 /\
 (∀ t∈xs,Ky.ok (κ t)=true/\Ky.shp k0 (κ t)=true/\tre (κ t)=t)/\kq tr xs κ S Q
theorem Dh {X:Cx}{K:Fg}(tr:Bool) (hK:X.K=K) (hr:Room 2 X.A) :
  bz X (.builtin "sorted") (lC K (uu tr)):=by
 rintro pins s σ H xs us Q I rv ⟨S,ts,Qt,sr,r1,⟨x,ls,κ,k0,e1,ev,h64,hf,hd,hk,hq⟩,b⟩
 subst e1
 cases r1 with
 |cons rx rnil =>
 cases rnil
 obtain ⟨u,rfl,ru⟩:=cg rv
 obtain ⟨pl,vs,rfl,hS,rs⟩:=ci sr rx ev
 cases ru
 have hS':SqL X.K H pl vs:=by rw [hK];exact hS
 obtain ⟨its,rvs,hpl,hz⟩:=I.list hS'
 obtain ⟨o,n,eo,ec,_,ed⟩:=hpl
 have hlen:its.length=ls.length:=by rw [<- rvs.length,rs.length]
 have hsl:its.length<=sizeLine:=by rw [<- rvs.length];exact hz
 show wpAny _ X.A (call (.builtin "sorted") [.ref pl] []) _ _ s
 refine kG kind_sorted plain_sorted entry_sorted (oM _) ?_
 unfold Builtin.«sorted»
 refine wpAny_bind (m:=checkCount "sorted" 1 1 _) (wpAny_pure ?_)
 refine wpAny_bind (collect_list (l:=pl) (vs:=its) ⟨o,eo,ec,n,ed⟩ ?_ hsl)
 refine wpAny_bind (wpAny_newList ?_ hsl)
 generalize hh1:(s.heap.push (seqObj "list" #[] 0)).update s.heap.objs.size (Obj.mapSeq (·++its.toArray))=h1
 have old1:∀ b u,s.heap.get? b=some u->h1.get? b=some u:=λb u e=>by
  rw [<- hh1]
  exact (Heap.get?_update_other _ _ (Ne.symm (Nat.ne_of_lt (Heap.lt_size e)))).trans (Heap.get?_push_of_some _ e)
 have sz1:s.heap.objs.size<=h1.objs.size:=by rw [<- hh1,Heap.size_update,size_push'];omega
 dsimp only
 have hoL:(h1.push (seqObj "list" its.toArray 0)).get? h1.objs.size=some (seqObj "list" its.toArray 0):=Heap.get?_push_size _ rfl
 refine wpAny_bind (wpAny_holding (kF slot_list_sort (Ty:="list") ⟨_,hoL,rfl⟩ entry_list_sort ?_ (n6 _)))
 rw [ou]
 refine wpAny_bind (listItems_at hoL rfl ?_)
 refine wpAny_bind (listUpdate_at hoL rfl ?_ (by simpa using hsl) (by simp))
 obtain ⟨ep,ho1⟩:∃ ep,((h1.push (seqObj "list" its.toArray 0)).update h1.objs.size (Obj.mapSeq λ_=>#[])).get? h1.objs.size=some (seqObj "list" #[] ep):=⟨_,get?_update_seq hoL (λ_=>#[])⟩
 refine wpAny_bind (seqEpoch_at ho1 rfl ?_)
 generalize hL:h1.objs.size=L at *
 generalize hh2:(h1.push (seqObj "list" its.toArray 0)).update L (Obj.mapSeq λ_=>#[])=h2 at *
 have szh2:h2.objs.size=L+1:=by rw [<- hh2,Heap.size_update,size_push',hL]
 have I2:Inv X pins σ (upd H L (bE L (seqObj "list" #[] ep))) { s with heap:=h2,toks:=s.toks } :=
  mD I (λb u e=>by rw [<- hh2];exact (Heap.get?_update_other _ _ (Ne.symm (Nat.ne_of_lt (Nat.lt_of_lt_of_le (Heap.lt_size e) sz1)))).trans (Heap.get?_push_of_some _ (old1 b u e))) sz1 ho1
 refine wpAny_bind (wpAny_newTuple ?_ (by simpa using hsl))
 refine wpAny_bind (wpAny_newList ?_)
 dsimp only
 generalize hh3:h2.push { cls:=.type "tuple",data:=.seq its.toArray.toList.toArray }=h3
 have szh3:h3.objs.size=L+2:=by rw [<- hh3,size_push',szh2]
 generalize hh4:h3.push { cls:=.type "list",data:=.seq ([]:List Value).toArray }=h4
 rw [szh3]
 have I4:Inv X pins σ (upd (upd H L (bE L (seqObj "list" #[] ep))) (L+2) (bf (L+2) [])) { s with heap:=h4,toks:=s.toks } :=
  mC (s:={ s with heap:=h2,toks:=s.toks }) I2 (λb u e=>by rw [<- hh4,<- hh3];exact Heap.get?_push_of_some _ (Heap.get?_push_of_some _ e)) (by show h2.objs.size<=_;omega) .nil (Nat.zero_le _) (by rw [<- hh4,<- szh3];exact Heap.get?_push_size _ rfl)
 have ne1:L+2≠L:=Nat.ne_of_gt (Nat.lt_add_of_pos_right (by decide))
 have ne2:L≠L+2:=Ne.symm ne1
 have nL:H L=none:=I.hok.fresh sz1
 have nk:H (L+2)=none:=I.hok.fresh (by omega)
 have nk2:upd H L (bE L (seqObj "list" #[] ep)) (L+2)=none:=by rw [aE ne1];exact nk
 have nSL:S L=none:=sr.fresh nL
 have nSk:S (L+2)=none:=sr.fresh nk
 generalize hHc:upd (upd H L (bE L (seqObj "list" #[] ep))) (L+2) (bf (L+2) [])=Hc at *
 have eL:Hc L=some (bE L (seqObj "list" #[] ep)):=by rw [<- hHc,aE ne2];exact aL
 have ek:Hc (L+2)=some (bf (L+2) []):=by rw [<- hHc];exact aL
 have fc:Fr H S Hc S:=by rw [<- hHc];exact (Fr.new nL).trans (Fr.new nk2)
 have sc:SRp K Hc S:=by rw [<- hHc];exact (sr.new nL).new nk2
 refine wpAny_holding (wpAny_bind (wpAny_pure ?_))
 generalize hs5:({ s with heap:=h4,toks:=s.toks }:Shared)=s5 at *
 have rs5:=rs.fr fc
 obtain ⟨R,q1,q2,q3,q4,q5⟩:=jB rs5 rvs (rfl:its.length=its.length)
 have key:∀ r∈R,KR s5 r.ku (κ r.t)/\Ky.shp k0 (κ r.t)=true:=by
  have go:∀ {R:List Rec}{vs:List V},Rps K Hc S (R.map (·.t)) vs->ap vs (R.map (·.ku))->(∀ r∈R,r.t∈ls)->∀ r∈R,KR s5 r.ku (κ r.t)/\Ky.shp k0 (κ r.t)=true:=by
   intro R
   induction R with
   |nil=>intro _ _ _ _ r hr;cases hr
   |cons r0 R ih =>
    intro kvs a b m r hr
    cases a with
    |cons a1 a2 =>
     cases b with
     |cons b1 b2 =>
      rcases List.mem_cons.mp hr with rfl|hr
      ·have:=hk r.t (m r (List.mem_cons_self ..))
       exact ⟨ny hK I4 (by rw [this.2.2];exact a1) b1 this.1,this.2.1⟩
      ·exact ih a2 b2 (λx hx=>m x (List.mem_cons_of_mem _ hx)) r hr
  exact go (by rw [q1];exact rs5) (by rw [q4];exact rvs) λr hr=>by rw [<- q1];exact List.mem_map_of_mem hr
 refine kO (k0:=k0) rfl (by rw [hlen];exact h64) hf (λv hv=>?_) (by have:=hr.in1.in1.units;omega) λst hp hfail hsrt=>?_
 ·rw [<- q4] at hv
  obtain ⟨r,hr,rfl⟩:=List.mem_map.mp hv
  exact ⟨_,key r hr⟩
 ·obtain ⟨R',pR,eR⟩:=gB (λr:Rec=>((r.ku,r.u):Keyed)) (Array.perm_iff_toList_perm.mp hp) (l:=R) (by
   have:(its.toArray.zip its.toArray).toList=its.zip its:=by simp
   rw [this]
   conv=>lhs;arg 1;rw [<- q4]
   conv=>lhs;arg 2;rw [<- q3]
   exact List.zip_map')
  have memR:∀ r∈R',r∈R:=λr hr=>pR.mem_iff.mp hr
  obtain ⟨rz,vz⟩:=jq λr hr=>q5 r (memR r hr)
  have lR:R'.length=its.length:=by rw [pR.length_eq,<- q3,List.length_map]
  have szR:(arrOf st).size=R'.length:=by rw [<- Array.length_toList,eR,List.length_map]
  have at_:∀ k (h:k<(arrOf st).size) (h':k<R'.length),(arrOf st)[k].1=R'[k].ku:=λk h h'=>by
   have e1:(arrOf st)[k]=(arrOf st).toList[k]'(by simpa using h):=by simp
   rw [e1,List.getElem_of_eq eR,List.getElem_map]
  have srt:(R'.map (·.t)).Pairwise (λa b=>Ky.lt (κ b) (κ a)=false):=by
   rw [List.pairwise_map,List.pairwise_iff_getElem]
   intro i j hi hj ij
   have:=hsrt i j (by rw [szR];exact hj) (by rw [szR];exact hi) (Nat.le_of_lt ij)
   rw [at_ i (by rw [szR];exact hi) hi,at_ j (by rw [szR];exact hj) hj,eZ (key _ (memR _ (List.getElem_mem hi))).1,eZ (key _ (memR _ (List.getElem_mem hj))).1] at this
   exact this
  have fin:=hq (R'.map (·.t)) (by rw [<- q1];exact pR.map _) srt
  have eL5:=nz I4 eL
  have out:(arrOf st).map (·.2)=(R'.map (·.u)).toArray:=by
   apply Array.toList_inj.mp
   rw [Array.toList_map,eR,List.map_map]
   rfl
  dsimp only
  refine wpAny_bind (seqEpoch_at eL5 rfl ?_)
  refine wpAny_bind (listUpdate_at eL5 rfl ?_ (by simp) (by rw [out];simp;omega))
  rw [hfail]
  simp only [bne_self_eq_false,Bool.false_eq_true,if_false]
  have I7:=iz I4 eL (its:=[]) eL5 (f:=λ_=>(arrOf st).map (·.2)) (its':=R'.map (·.u)) out vz (by rw [List.length_map,lR];exact hsl)
  have I8:=I7.ofAcc (D:=L) aL
  rw [gF] at I8
  refine wpAny_pure ⟨_,rfl,wpAny_pure ⟨.ref L,_,I8,rfl,?_⟩⟩
  cases tr with
  |false=>exact b _ _ (.lst _) S (Fr.at fc nL) (sc.chg eL nSL) (.lst nSL aL (Rps.chg eL rz)) fin
  |true =>
   refine b _ _ (.ref L) _ (λa o h nn=>?_) (SRp.trk eL sc rz) .ref (fin L nSL)
   have ha:a≠L:=bv h nL
   rw [aD ha]
   exact Fr.at fc nL a o h nn
theorem Di {α:Type}{S:Sto}{Q:T->Sto->Prop}{tr:Bool}{ls:List α}{x:T}(κ:α->Ky) (κT:T->Ky) (k0:Ky) (e:aX S x=some (ls.map λa=>tre (κ a))) (hT:∀ a∈ls,κT (tre (κ a))=κ a) (h64:ls.length<64) (hf:fit k0=true) (hd:k0.dep<=30)
  (hk:∀ a∈ls,Ky.ok (κ a)=true/\Ky.shp k0 (κ a)=true)
  (h:∀ l':List α,l'.Perm ls->l'.Pairwise (λa b=>Ky.lt (κ b) (κ a)=false)->a9 tr (l'.map λa=>tre (κ a)) S Q):uu tr [x] S Q:=by
 refine ⟨x,ls.map λa=>tre (κ a),κT,k0,rfl,e,by rw [List.length_map];exact h64,hf,hd,λt ht=>?_,λzs hp hs=>?_⟩
 ·obtain ⟨a,ha,rfl⟩:=List.mem_map.mp ht
  have:=hk a ha
  rw [hT a ha]
  exact ⟨this.1,this.2,rfl⟩
 ·obtain ⟨l',p,rfl⟩:=gB (λa=>tre (κ a)) hp rfl
  rw [List.pairwise_map] at hs
  refine h l' p (hs.imp_of_mem fun {a b} ha hb q=>?_)
  rw [hT a (p.mem_iff.mp ha),hT b (p.mem_iff.mp hb)] at q
  exact q
end T2
namespace T2
open PySem PySem.Spec PyProof.Rows L2
section
variable {κ:Type}[DecidableEq κ]
def aW (kts:List (κ×T)) (k:κ):Option T:=(kts.find? λkv=>decide (kv.1=k)).map (·.2)
def dc (kts:List (κ×T)) (k:κ) (t:T):List (κ×T) :=
 if (kts.any λkv=>decide (kv.1=k))=true then kts.map (λkv=>if kv.1=k then (kv.1,t) else kv) else kts++[(k,t)]
def gW (kts:List (κ×T)) (k:κ):List (κ×T):=kts.filter λkv=>decide (kv.1≠k)
abbrev PrT (K:Fg) (H:Hp) (S:Sto):List (κ×T)->List (κ×V)->Prop:=Paired λ(p:κ×T) (q:κ×V)=>p.1=q.1/\Rp K H S p.2 q.2
variable {K:Fg}{H:Hp}{S:Sto}
theorem k8 {k:κ}{t:T}:∀ {kts:List (κ×T)}{kvs:List (κ×V)},PrT K H S kts kvs->aW kts k=some t->∃ v,ba kvs k=some v/\Rp K H S t v:=by
 intro kts kvs pr
 induction pr with
 |nil=>intro e;cases e
 |@cons p q2 l l' er ps ih =>
  intro h
  obtain ⟨a,b⟩:=p;obtain ⟨c,d⟩:=q2;obtain ⟨e,r⟩:=er
  simp only at e;subst e
  unfold aW ba at *
  rw [List.find?_cons] at h ⊢
  by_cases z:a=k
  ·simp only [z,decide_true,Option.map_some,Option.some.injEq] at h ⊢
   subst h;exact ⟨d,rfl,r⟩
  ·simp only [z,decide_false] at h ⊢
   exact ih h
theorem k9 {k:κ}:∀ {kts:List (κ×T)}{kvs:List (κ×V)},PrT K H S kts kvs->(ba kvs k).isSome=(aW kts k).isSome:=by
 intro kts kvs pr
 induction pr with
 |nil=>exact rfl
 |@cons p q2 l l' er ps ih =>
  obtain ⟨a,b⟩:=p;obtain ⟨c,d⟩:=q2;obtain ⟨e,r⟩:=er
  simp only at e;subst e
  unfold aW ba
  rw [List.find?_cons,List.find?_cons]
  by_cases z:a=k
  ·simp [z]
  ·simp only [z,decide_false]
   exact ih
theorem Dj {k:κ}:∀ {kts:List (κ×T)}{kvs:List (κ×V)},PrT K H S kts kvs->(kvs.any λkv=>decide (kv.1=k))=kts.any λkv=>decide (kv.1=k):=by
 intro kts kvs pr
 induction pr with
 |nil=>exact rfl
 |@cons p q2 l l' er ps ih =>
  obtain ⟨a,b⟩:=p;obtain ⟨c,d⟩:=q2;obtain ⟨e,r⟩:=er
  simp only at e;subst e
  rw [List.any_cons,List.any_cons,ih]
theorem Paired.app {α β:Type}{F:α->β->Prop}:∀ {a:List α}{b:List β}{c:List α}{d:List β},Paired F a b->Paired F c d->Paired F (a++c) (b++d)
 |_,_,_,_,.nil,r=>r
 |_,_,_,_,.cons h t,r=>.cons h (Paired.app t r)
theorem Ax {k:κ}{t:T}{v:V}(r:Rp K H S t v):∀ {kts:List (κ×T)}{kvs:List (κ×V)},PrT K H S kts kvs->PrT K H S (kts.map λkv=>if kv.1=k then (kv.1,t) else kv) (kvs.map λkv=>if kv.1=k then (kv.1,v) else kv):=by
 intro kts kvs pr
 induction pr with
 |nil=>exact .nil
 |@cons p q2 l l' er ps ih =>
  obtain ⟨a,b⟩:=p;obtain ⟨c,d⟩:=q2;obtain ⟨e,q⟩:=er
  simp only at e;subst e
  refine .cons ?_ (ih)
  dsimp only
  by_cases z:a=k
  ·rw [if_pos z,if_pos z];exact ⟨rfl,r⟩
  ·rw [if_neg z,if_neg z];exact ⟨rfl,q⟩
theorem sM {k:κ}{t:T}{v:V}(r:Rp K H S t v){kts:List (κ×T)}{kvs:List (κ×V)}(p:PrT K H S kts kvs):PrT K H S (dc kts k t) (bY kvs k v):=by
 unfold dc bY
 rw [Dj p]
 split
 ·exact Ax r p
 ·exact Paired.app p (.cons ⟨rfl,r⟩ .nil)
theorem Ay {k:κ}:∀ {kts:List (κ×T)}{kvs:List (κ×V)},PrT K H S kts kvs->PrT K H S (gW kts k) (fo kvs k):=by
 intro kts kvs pr
 induction pr with
 |nil=>exact .nil
 |@cons p q2 l l' er ps ih =>
  obtain ⟨a,b⟩:=p;obtain ⟨c,d⟩:=q2;obtain ⟨e,q⟩:=er
  simp only at e;subst e
  unfold gW fo
  rw [List.filter_cons,List.filter_cons]
  by_cases z:a=k
  ·simp only [z,ne_eq,not_true,decide_false,Bool.false_eq_true,if_false];exact ih
  ·simp only [z,ne_eq,not_false_eq_true,decide_true,if_true];exact .cons ⟨rfl,q⟩ (ih)
end
def dg:Key->T
 |.inl i=>.int i
 |.inr x=>.str x
section
variable {K:Fg}{X:Cx}{H:Hp}{S:Sto}
theorem gX {t:T}{v:V}{k:Key}(r:Rp K H S t v) (e:ck t=some k):v=kV k:=by
 cases r<;>simp only [ck,Option.some.injEq,reduceCtorEq] at e<;>subst e<;>rfl
theorem rq (k:Key):Rp K H S (dg k) (kV k):=by cases k<;>constructor
def RdT (w:World) (S:Sto) (a:Addr) (kts:List (Key×T)):Prop:=S a=some (.dK kts)\/∃ od kvs,S a=some (.fK w od kvs kts)
theorem j5 {w:World}{a:Addr}{kts:List (Key×T)}(s:SRp K H S) (g:RdT w S a kts):∃ kvs,RdK w H a kvs/\PrT K H S kts kvs:=by
 rcases g with e|⟨od,kvs,e⟩
 ·cases s a _ e with
  |dK h p=>exact ⟨_,.inl h,p⟩
 ·cases s a _ e with
  |fK h p=>exact ⟨_,.inr ⟨_,h⟩,p⟩
theorem nA {a:Addr}{kts:List (Key×T)}(s:SRp K H S) (e:S a=some (.dK kts)):∃ kvs,H a=some (.dK kvs)/\PrT K H S kts kvs:=by
 cases s a _ e with
 |dK h p=>exact ⟨_,h,p⟩
theorem yq {a:Addr}{kts us:List (Key×T)}{ws:List (Key×V)}{Qt:T->Sto->Prop}{Q:VK}{t:T}{v:V}(s:SRp K H S) (e:S a=some (.dK kts)) (p:PrT K H S us ws) (b:Bh K H S Qt Q) (r:Rp K H S t v) (q:Qt t (put S a (.dK us))):Q v (upd H a (.dK ws)):=by
 have hn:S a≠none:=by rw [e];simp
 have f:Fr H S (upd H a (.dK ws)) (put S a (.dK us)):=Fr.write hn
 exact b _ _ _ _ f (s.write hn (.dK aL (Paired.mapP p λ_ _ z=>⟨z.1,z.2.fr f⟩))) (r.fr f) q
def nP (w:World):G2:=λx y S Q=>∃ a kts k t,x=.ref a/\RdT w S a kts/\ck y=some k/\aW kts k=some t/\Q t S
theorem FI {o i:Expr}{wo wi:WE}{pos:Pos}(ho:QE K X o wo) (hi:QE K X i wi) (hs:kh i):QE K X (.Subscript o i pos) (w2 (nP X.w) wo wi):=PE.of (z0 ho hi hs) λσ H Q zz101=>by
 obtain ⟨S,σt,Qt,s,c,q,hq⟩:=zz101
 refine ⟨S,σt,_,s,c,q,λx H1 tx S1 f1 s1 r1 q1=>?_⟩
 refine ⟨S1,σt,_,s1,c.fr f1,q1,λy H2 ty S2 f2 s2 r2 q2=>?_⟩
 obtain ⟨a,kts,k,t,rfl,g,ek,l,q2⟩:=q2
 cases r1
 obtain ⟨kvs,hg,p⟩:=j5 s2 g
 obtain ⟨v,lv,rv⟩:=k8 p l
 exact ⟨a,kvs,k,v,rfl,hg,gX r2 ek,lv,hq v H2 t S2 (f1.trans f2) s2 rv q2⟩
def iX (w:World) (neg:Bool):G2:=λx y S Q=>∃ a kts k,y=.ref a/\RdT w S a kts/\ck x=some k/\Q (.bl (neg ^^ (aW kts k).isSome)) S
theorem FJ:OpR X (compareOp .In) (l2 K (iX X.w false)):=by
 rintro pins s σ H x y v u Q I rx ry ⟨S,tx,ty,Qt,sr,hx,hy,⟨a,kts,k,e,g,ek,q⟩,b⟩
 subst e
 cases hy
 cases (show u=Value.ref a from ry)
 obtain ⟨kvs,hg,p⟩:=j5 sr g
 have:=gX hx ek
 subst this
 refine GO I hg rx λs' I'=>⟨.bl (ba kvs k).isSome,H,I',rfl,b _ H _ S .refl sr .bl ?_⟩
 rw [k9 p];simpa using q
theorem yr:OpR X (compareOp .NotIn) (l2 K (iX X.w true)):=by
 rintro pins s σ H x y v u Q I rx ry ⟨S,tx,ty,Qt,sr,hx,hy,⟨a,kts,k,e,g,ek,q⟩,b⟩
 subst e
 cases hy
 cases (show u=Value.ref a from ry)
 obtain ⟨kvs,hg,p⟩:=j5 sr g
 have:=gX hx ek
 subst this
 refine zZ I hg rx λs' I'=>⟨.bl (!(ba kvs k).isSome),H,I',rfl,b _ H _ S .refl sr .bl ?_⟩
 rw [k9 p];simpa using q
def uv:GS:=λo i v S Q=>∃ a kts k,o=.ref a/\S a=some (.dK kts)/\ck i=some k/\kts.length<sizeLine/\Q (put S a (.dK (dc kts k v)))
theorem mF (hu:X.A.units+1<cLine):eI X (g6 K uv):=by
 rintro pins s σ H o i v ov iv u Q I ro ri rv ⟨S,to,ti,tv,Qt,sr,hO,hI,hV,⟨a,kts,k,e,ea,ek,hl,q⟩,b⟩
 subst e
 cases hO
 cases (show ov=Value.ref a from ro)
 obtain ⟨kvs,hk,p⟩:=nA sr ea
 have:=gX hI ek
 subst this
 have hn:S a≠none:=by rw [ea];simp
 refine p5 hu I (fD.k hk (by rw [Paired.len p];exact hl)) ri rv λs' I'=>⟨_,I',?_⟩
 exact b _ _ (Fr.write hn) (sr.write hn (.dK aL (Paired.mapP (sM hV p) λ_ _ z=>⟨z.1,z.2.fr (Fr.write hn)⟩))) q
def uw:GM:=λx ts S Q=>∃ a kts y k t,x=.ref a/\ts=[y]/\S a=some (.dK kts)/\ck y=some k/\aW kts k=some t/\Q t (put S a (.dK (gW kts k)))
theorem sN:MtR X "dict.pop" (lM K uw):=by
 rintro pins s σ H x xs v us Q I rx rv ⟨S,t,ts,Qt,sr,hx,rs,⟨a,kts,y,k,t',e,e2,ea,ek,l,q⟩,b⟩
 subst e e2
 cases hx
 cases rs with
 |cons ry rn =>
  cases rn
  obtain ⟨kvs,hk,p⟩:=nA sr ea
  obtain ⟨w',lw,rw'⟩:=k8 p l
  have:=gX ry ek
  subst this
  exact z3 pins s σ H _ _ v us Q I rx rv ⟨a,kvs,k,w',rfl,rfl,hk,lw,yq sr ea (Ay p) b rw' q⟩
def uA:WE:=λ_ S Q=>∀ p,S p=none->Q (.ref p) (put S p (.dK []))
theorem sO {pos:Pos}:QE K X (.Dict [] [] pos) uA:=PE.of xX λσ H Q ⟨S,σt,Qt,s,c,q,hq⟩=>λp hp =>
 hq _ _ (.ref p) _ (Fr.newT hp) (s.newT hp (.dK aL .nil)) .ref (q p (s.fresh hp))
theorem Az:∀ {kts:List (Key×T)}{kvs:List (Key×V)},PrT K H S kts kvs->Rps K H S (kts.map λkv=>dg kv.1) (kvs.map λkv=>kV kv.1):=by
 intro kts kvs pr
 induction pr with
 |nil=>exact .nil
 |@cons p q2 l l' er ps ih =>
  obtain ⟨a,b⟩:=p;obtain ⟨c,d⟩:=q2;obtain ⟨e,r⟩:=er
  simp only at e;subst e
  exact .cons (rq a) (ih)
def j6 (kv:Key×T):T:=.tup [dg kv.1,kv.2]
def wiP (w:World) (wa:WE):WI:=λσ S R=>wa σ S λx S1=>∃ d kts,x=.ref d/\S1 d=some (.dK kts)/\∀ od kvs,R ⟨kts.map j6,λS'=>S' d=some (.fK w od kvs kts)⟩ (put S1 d (.fK w od kvs kts))
theorem AA {w:World}{d:Addr}{od:Obj}{kts:List (Key×T)}{kvs:List (Key×V)}(s:SRp K H S) (e:S d=some (.dK kts)) (p:PrT K H S kts kvs) :
  Fr H S (upd H d (fzH w d od kvs)) (put S d (.fK w od kvs kts))/\SRp K (upd H d (fzH w d od kvs)) (put S d (.fK w od kvs kts)):=by
 have hn:S d≠none:=by rw [e];simp
 exact ⟨Fr.write hn,s.write hn (.fK aL (Paired.mapP p λ_ _ z=>⟨z.1,z.2.fr (Fr.write hn)⟩))⟩
theorem yu {o:Expr}{wa:WE}{elts:List Expr}{x1:Nat}{tpos apos cpos:Pos}(ho:QE K X o wa) (hK:X.K=K)
  (hbase:attributeBase o "items" X.env (eval o X.env)=eval o X.env:=by rfl) (hline:(apos.endLine==cpos.line)=true:=by rfl):QI K X (.Tuple elts x1 tpos) (.Call (.Attribute o "items" apos) [] [] cpos) (wiP X.w wa):=by
 subst hK
 refine PI.of (x6 (Ca PySem.F.plainAttrs_dict PySem.F.slot_dict_items PySem.F.type_dict_items x5 ho hbase hline)) λσ H R zz102=>?_
 obtain ⟨S,σt,Rt,s,c,q,hq⟩:=zz102
 refine ⟨S,σt,_,s,c,q,λx H1 tx S1 f1 s1 r1 q1=>?_⟩
 obtain ⟨d,kts,rfl,ed,q1⟩:=q1
 cases r1
 obtain ⟨kvs,hk,p⟩:=nA s1 ed
 refine ⟨.inr (.inr (.inl ⟨rfl,.inl ⟨_,hk⟩⟩)),d,kvs,rfl,rfl,hk,λv hv=>?_⟩
 have nd:d≠v:=bv hk hv
 refine ⟨v,d,kvs,rfl,aL,by rw [aE nd];exact hk,λod=>?_⟩
 have fv:Fr H1 S1 (upd H1 v (iH v d)) S1:=Fr.new hv
 obtain ⟨f2,s2⟩:=AA (w:=X.w) (od:=od) (s1.new (u:=iH v d) hv) ed (Paired.mapP p λ_ _ z=>⟨z.1,z.2.fr fv⟩)
 refine hq _ _ _ _ ((f1.trans fv).trans f2) s2 ⟨?_,?_,?_⟩ (q1 od kvs)
 ·intro H' S' i f' s' g hi
  cases s' d _ g with
  |fK h p' =>
   dsimp only at hi
   rw [List.length_map] at hi
   exact ⟨h,by rw [Paired.len p'];exact hi⟩
 ·rintro H' S' i x H'' f' s' g hi ⟨pp,kv,ek,hp,ex,eH⟩
  subst eH ex
  cases s' d _ g with
  |fK h p' =>
   obtain ⟨kt,e1,e2⟩:=ki p' ek
   refine ⟨j6 kt,by rw [List.getElem?_map,e1];rfl,Fr.new hp,s'.new hp,?_⟩
   refine .tup (s'.fresh hp) aL (.cons ?_ (.cons (e2.2.fr (Fr.new hp)) .nil))
   rw [e2.1];exact rq _
 ·intro H' S' f' s' g
  cases s' d _ g with
  |fK h p'=>exact ⟨h,by rw [Paired.len p',List.length_map];exact Nat.le_refl _⟩
def nQ (w:World) (we:WE):WE:=λσ S Q=>we σ S λt S'=>∃ d od kvs kts,S' d=some (.fK w od kvs kts)/\Q t (put S' d (.dK kts))
theorem AB {w:World}{d:Addr}{od:Obj}{kts:List (Key×T)}{kvs:List (Key×V)}(s:SRp K H S) (e:S d=some (.fK w od kvs kts)) :
  H d=some (fzH w d od kvs)/\Fr H S (upd H d (.dK kvs)) (put S d (.dK kts))/\SRp K (upd H d (.dK kvs)) (put S d (.dK kts)):=by
 have hn:S d≠none:=by rw [e];simp
 cases s d _ e with
 |fK h p=>exact ⟨h,Fr.write hn,s.write hn (.dK aL (Paired.mapP p λ_ _ z=>⟨z.1,z.2.fr (Fr.write hn)⟩))⟩
theorem FK {e:Expr}{we:WE}(h:QE K X e we):QE K X e (nQ X.w we):=PE.of (PE.unf h) λσ H Q zz103=>by
 obtain ⟨S,σt,Qt,s,c,q,hq⟩:=zz103
 refine ⟨S,σt,_,s,c,q,λv H1 t S1 f1 s1 r1 q1=>?_⟩
 obtain ⟨d,od,kvs,kts,e,q1⟩:=q1
 obtain ⟨h1,f2,s2⟩:=AB s1 e
 exact ⟨d,od,kvs,h1,hq v _ t _ (f1.trans f2) s2 (r1.fr f2) q1⟩
end
section
variable {K:Fg}{X:Cx}{k:Nat}{f C:Addr}{fd:FuncData}{ps:List Str}{wsp:WSp}{x m fl:Str}{p pos apos cpos pos':Pos}{e o value:Expr}{es:List Expr}{wa wv:WE}{wr:WA}{G:Addr->Prop}
theorem jD (M:Mk X.K C f) (F:FnOk X.prog X.w X.K X.mg X.base CX0 k f fd ["self"] (lSp K wsp)) (hb:aj X.K fd ["self"] []) (hr:Room (k+1) X.A) (hg:Gl X x) (hm:X.mg x=some (.ref C)) (hdb:(x==("__debug__":Str))=false:=by decide) :
  QE K X (.Call (.Name x p) [] [] pos) (iI C wsp [] eK):=z7 (dvs:=[]) (λ_ _=>.nil) (xM M F hr hg hm hb .nil gR hdb)
theorem aV {pl:Sem Bool}(hG:∀ C,G C->Cls X.K C/\Meth X.K C m f) (F:FnOk X.prog X.w X.K X.mg X.base CX0 k f fd ps (lSp K wsp)) (hb:aj X.K fd ps []) (hr:Room k X.A) (ho:QE K X o wa) (ha:QA K X (e::es) wr)
  (hst:starEach (e::es) X.env=(false,eval e X.env)::starEach es X.env:=by rfl) (hpl:(backTo pos (starEach es X.env)).any (·.1)=false:=by rfl)
  (ht:eval (.Call (.Attribute o m apos) (e::es) [] pos) X.env=(do
   let ov <- eval o X.env
   standAt apos.atName
   let (f,first) <- holding [ov] (getMethod ov m pl)
   callWith pos f first (backTo pos (starEach (e::es) X.env)) (backToKw pos (keywordEach [] X.env))):=by rfl) :
  QE K X (.Call (.Attribute o m apos) (e::es) [] pos) (eB G m wsp [] wa wr):=sy (dvs:=[]) (λ_ _=>.nil) (qr (pl:=pl) ho hG F hr hb .nil gR ha hst hpl ht)
theorem bO {pl:Sem Bool}(hG:∀ C,G C->Cls X.K C/\Meth X.K C m f) (F:FnOk X.prog X.w X.K X.mg X.base CX0 k f fd ps (lSp K wsp)) (hb:aj X.K fd ps []) (hr:Room k X.A) (ho:QE K X o wa)
  (ht:eval (.Call (.Attribute o m apos) [] [] pos) X.env=(do
   let ov <- eval o X.env
   standAt apos.atName
   let (f,first) <- holding [ov] (getMethod ov m pl)
   callWith pos f first (backTo pos (starEach [] X.env)) (backToKw pos (keywordEach [] X.env))):=by rfl) :
  QE K X (.Call (.Attribute o m apos) [] [] pos) (eB G m wsp [] wa eK):=z6 (dvs:=[]) (λ_ _=>.nil) (w4 (pl:=pl) ho hG F hr hb .nil gR ht)
theorem aC (hK:X.K=K) (hG:∀ C,G C->Cls K C/\aN K C fl) (he:QE K X o wa) (hb:attributeBase o fl X.env (eval o X.env)=eval o X.env:=by rfl):QE K X (.Attribute o fl pos) (nM G wa fl):=ER hK hG he hb
theorem FL (w:World){i:Expr}{wi:WE}(hw:X.w=w) (ho:QE K X o wa) (hi:QE K X i wi) (hs:kh i):QE K X (.Subscript o i pos) (w2 (nP w) wa wi):=by subst hw;exact FI ho hi hs
theorem eF (w:World) (hw:X.w=w):OpR X (compareOp .In) (l2 K (iX w false)):=by subst hw;exact FJ
theorem gC (w:World) (hw:X.w=w):OpR X (compareOp .NotIn) (l2 K (iX w true)):=by subst hw;exact yr
theorem AC (w:World){elts:List Expr}{x1:Nat}{tpos:Pos}(hw:X.w=w) (hK:X.K=K) (ho:QE K X o wa)
  (hbase:attributeBase o "items" X.env (eval o X.env)=eval o X.env:=by rfl) (hline:(apos.endLine==cpos.line)=true:=by rfl):QI K X (.Tuple elts x1 tpos) (.Call (.Attribute o "items" apos) [] [] cpos) (wiP w wa):=by subst hw;exact yu ho hK hbase hline
theorem FM (w:World) (hw:X.w=w) (h:QE K X e wa):QE K X e (nQ w wa):=by subst hw;exact FK h
structure FunD (K:Fg) (x qual:Str) (st:Stmt) (f:Addr) (fd:FuncData):Prop where
 ex:∃ (oc:Value) (od:Option Addr) (dV kV doc pm:Value) (an:Option Addr) (cdv ct:Value) (osl:Array (Option Value)),
  fd=PySem.W.fnOf x qual (ao st) (am st) (ag st) dV kV doc pm an cdv ct/\K.lookup f=some ⟨oc,od,.func fd,osl⟩/\PySem.W.codeIn K cdv qual=true
theorem Fun.toD {x qual:Str}{st:Stmt}(F:Fun K x qual st f fd):FunD K x qual st f fd:=by
 obtain ⟨oc,od,kV,doc,pm,an,cdv,ct,osl,h⟩:=F.ex
 exact ⟨⟨oc,od,.none,kV,doc,pm,an,cdv,ct,osl,h⟩⟩
theorem aR {P:Program}{w:World}{mg:Str->Option Value}{base:Heap}{x qual:Str}{st:Stmt}{N:List Str}(F:FunD K x qual st f fd) (Sc:FnScope N ps (ag st)) (len:∀ ts S Q,wsp ts S Q->ts.length=ps.length)
  (hbody:∀ (cdv:Value) (A:Around) (outer:List Env) (s:Shared) (H:Hp) (E:XK),Room k (A.deeper (envOfC qual (ag st) s.heap.objs.size f cdv)) ->
   ∃ u,QSs K (cA CX0 P w K mg base N qual (ag st) f cdv A outer s H E).nox (am st) u/\∀ ts S Q,wsp ts S Q->u { nx:=λ_ S'=>Fin Q .non S',rt:=Fin Q } (bI N ts) S):FnOk P w K mg base CX0 (k+1) f fd ps (lSp K wsp):=by
 obtain ⟨oc,od,dV,kV,doc,pm,an,cdv,ct,osl,rfl,lk,hcd⟩:=F.ex
 refine m8 lk hcd Sc (λvs H Q E ⟨S,ts,Qt,s,r,q,_⟩=>by rw [r.length];exact len _ _ _ q) λA outer s H vs Q E hr ⟨S,ts,Qt,sr,r,q,b⟩=>?_
 obtain ⟨u,hu,hq⟩:=hbody cdv A outer s H E hr
 exact ⟨_,L2.PSs.nox hu,S,bI N ts,_,sr,kL r,hq ts S Qt q,⟨λ_ H' _ S' f s' _ q'=>Fin.ends b f s' .non q',λv H' t S' f s' r' q'=>Fin.ends b f s' r' q',λ_ _ _ _ _ _ _ q'=>q'.elim,λ_ _ _ _ _ _ _ q'=>q'.elim⟩⟩
end
section
variable {σ:StT}{S:Sto}{D:EndsT}{Q:T->Sto->Prop}{R:Prop}{w:World}{a d C:Addr}{G:Addr->Prop}{fs:List (Str×T)}{m fl:Str}{t:T}{x y:T}{kts:List (Key×T)}{k:Key}{i:Int}
theorem Dk {wsp:WSp}{wr:WA}(h:wr σ S λts S1=>∀ x,S1 x=none->wsp (.ref x::(ts++[])) (put S1 x (.ins C [])) (λt S2=>t=.non/\Q (.ref x) S2)):iI C wsp [] wr σ S Q:=h
theorem Dl {wsp:WSp}{dts:List T}{wa:WE}{wr:WA}(h:wa σ S λx S1=>∃ a C fs,x=.ref a/\S1 a=some (.ins C fs)/\G C/\fs.lookup m=none/\wr σ S1 λts S2=>wsp (x::(ts++dts)) S2 Q):eB G m wsp dts wa wr σ S Q:=h
theorem Dm (e:S a=some (.ins C fs)) (g:G C) (l:fs.lookup m=none) (h:R):∃ a' C' fs',T.ref a=.ref a'/\S a'=some (.ins C' fs')/\G C'/\fs'.lookup m=none/\R:=⟨a,C,fs,rfl,e,g,l,h⟩
theorem FN {wa:WE}(h:wa σ S λx S1=>∃ a C fs v,x=.ref a/\S1 a=some (.ins C fs)/\G C/\fs.lookup fl=some v/\Q v S1):nM G wa fl σ S Q:=h
theorem FO {P:T->Prop}(e:S a=some (.ins C fs)) (g:G C) (l:fs.lookup fl=some t) (h:P t):∃ a' C' fs' v,T.ref a=.ref a'/\S a'=some (.ins C' fs')/\G C'/\fs'.lookup fl=some v/\P v:=⟨a,C,fs,t,rfl,e,g,l,h⟩
theorem Do {wa wv:WE}(h:wv σ S λy S1=>wa σ S1 λx S2=>∃ a C fs,x=.ref a/\S2 a=some (.ins C fs)/\G C/\fs.length<1000/\D.nx σ (put S2 a (.ins C (bZ fl y fs)))):ub G wa wv fl D σ S:=h
theorem fg {P:Addr->Addr->List (Str×T)->Prop}(e:S a=some (.ins C fs)) (g:G C) (l:fs.length<1000) (h:P a C fs):∃ a' C' fs',T.ref a=.ref a'/\S a'=some (.ins C' fs')/\G C'/\fs'.length<1000/\P a' C' fs':=⟨a,C,fs,rfl,e,g,l,h⟩
theorem AD {wa wv:WE}(h:wa σ S λx S1=>∃ a C fs i,x=.ref a/\S1 a=some (.ins C fs)/\G C/\fs.lookup fl=some (.int i) /\
 wv σ S1 λy S2=>∃ j fs',y=.int j/\S2 a=some (.ins C fs')/\fs'.length<1000/\D.nx σ (put S2 a (.ins C (bZ fl (.int (i+j)) fs')))):qt G wa wv fl D σ S:=h
theorem AE {P:Addr->Addr->Int->Prop}(e:S a=some (.ins C fs)) (g:G C) (l:fs.lookup fl=some (.int i)) (h:P a C i):∃ a' C' fs' i',T.ref a=.ref a'/\S a'=some (.ins C' fs')/\G C'/\fs'.lookup fl=some (.int i')/\P a' C' i':=⟨a,C,fs,i,rfl,e,g,l,h⟩
theorem yv {P:Int->List (Str×T)->Prop}{j:Int}(e:S a=some (.ins C fs)) (l:fs.length<1000) (h:P j fs):∃ j' fs',T.int j=.int j'/\S a=some (.ins C fs')/\fs'.length<1000/\P j' fs':=⟨j,fs,rfl,e,l,h⟩
theorem FP {we:WE}(h:we σ S λt S'=>∃ d od kvs kts,S' d=some (.fK w od kvs kts)/\Q t (put S' d (.dK kts))):nQ w we σ S Q:=h
theorem Dp (h:∀ p,S p=none->Q (.ref p) (put S p (.dK []))):uA σ S Q:=h
theorem FQ (e:S a=some (.dK kts)) (ek:ck y=some k) (l:aW kts k=some t) (h:Q t S):nP w (.ref a) y S Q:=⟨a,kts,k,t,rfl,.inl e,ek,l,h⟩
theorem bV {n:Bool}(e:S a=some (.dK kts)) (ek:ck x=some k) (h:Q (.bl (n ^^ (aW kts k).isSome)) S):iX w n x (.ref a) S Q:=⟨a,kts,k,rfl,.inl e,ek,h⟩
theorem mG {v:T}{Q:Sto->Prop}(e:S a=some (.dK kts)) (ek:ck y=some k) (l:kts.length<sizeLine) (h:Q (put S a (.dK (dc kts k v)))):uv (.ref a) y v S Q:=⟨a,kts,k,rfl,e,ek,l,h⟩
theorem sP (e:S a=some (.dK kts)) (ek:ck y=some k) (l:aW kts k=some t) (h:Q t (put S a (.dK (gW kts k)))):uw (.ref a) [y] S Q:=⟨a,kts,y,k,t,rfl,rfl,e,ek,l,h⟩
theorem FR {R:Prop}(e:S a=some (.dK kts)) (h:R):tyM "dict" S (.ref a)/\R:=⟨by delta tyM;dsimp only;rw [e],h⟩
theorem Hh {wa:WE}{R:Src->Sto->Prop}(h:wa σ S λx S1=>∃ d kts,x=.ref d/\S1 d=some (.dK kts)/\∀ od kvs,R ⟨kts.map j6,λS'=>S' d=some (.fK w od kvs kts)⟩ (put S1 d (.fK w od kvs kts))):wiP w wa σ S R:=h
theorem Hi {P:Addr->List (Key×T)->Prop}(e:S d=some (.dK kts)) (h:P d kts):∃ d' kts',T.ref d=.ref d'/\S d'=some (.dK kts')/\P d' kts':=⟨d,kts,rfl,e,h⟩
theorem Hj {P:Addr->List (Key×T)->Prop}{od:Obj}{kvs:List (Key×V)}(e:S d=some (.fK w od kvs kts)) (h:P d kts):∃ d' od' kvs' kts',S d'=some (.fK w od' kvs' kts')/\P d' kts':=⟨d,od,kvs,kts,e,h⟩
end
end T2
namespace L2
open PySem PySem.Spec PyProof.Rows
end L2
namespace T2
open PySem PySem.Spec PyProof.Rows L2
section
variable {K:Fg}{X:Cx}{H:Hp}{S:Sto}
theorem FS {σ:StT}{wa wb:WE}{R:Src->Sto->Prop}(h:wa σ S λx S1=>wb σ S1 λy S2=>match x,y with
 |.int i,.int j=>(-(2 ^ 62)<=i/\i<2 ^ 62 /\ -(2 ^ 62)<=j/\j<2 ^ 62)/\R ⟨bR i (j - i).toNat,λ_=>True⟩ S2
 |_,_=>False):vp wa wb σ S R:=h
theorem Dq {i j:Int}{A:Prop}(h0:-(2 ^ 62)<=i) (h1:i<2 ^ 62) (h2:-(2 ^ 62)<=j) (h3:j<2 ^ 62) (h:A):(-(2 ^ 62)<=i/\i<2 ^ 62 /\ -(2 ^ 62)<=j/\j<2 ^ 62)/\A:=⟨⟨h0,h1,h2,h3⟩,h⟩
theorem sQ {k:Nat}{f C:Addr}{fd:FuncData}{ps:List Str}{wsp:WSp}{x:Str}{p pos:Pos}{e:Expr}{es:List Expr}{wr:WA}(M:Mk X.K C f) (F:FnOk X.prog X.w X.K X.mg X.base CX0 k f fd ps (lSp K wsp)) (hb:aj X.K fd ps []) (hr:Room (k+1) X.A) (hg:Gl X x) (hm:X.mg x=some (.ref C))
  (ha:QA K X (e::es) wr) (hdb:(x==("__debug__":Str))=false:=by decide) (he:starEach (e::es) X.env=(false,eval e X.env)::starEach es X.env:=by rfl) (hpl:(backTo pos (starEach es X.env)).any (·.1)=false:=by rfl) :
  QE K X (.Call (.Name x p) (e::es) [] pos) (iI C wsp [] wr):=Cr (dvs:=[]) (λ_ _=>.nil) (zG M F hr hg hm hb .nil gR ha hdb he hpl)
end
end T2
namespace T2
open PySem PySem.Spec PyProof.Rows L2 S6
theorem yw {prog:Program}{w:World}{A:Around}{E:Value->Shared->Prop}{s:Shared}{Ty:String}{r d:Addr}{n:Nat}{P:Nat->Value->Prop}{OK:Heap->Prop}{R:List Value->Shared->Prop}
  (src:PySem.W.KdlSrc prog w Ty r d n P OK) (hA:A.handled=none) (ok:OK s.heap) (le:n<=sizeLine)
  (h:∀ (h1:Heap) (tk:Nat) (acc:Array Value),(∀ b o,s.heap.get? b=some o->h1.get? b=some o)->s.heap.objs.size<=h1.objs.size->ItemsOf P acc n->R acc.toList { s with heap:=h1,toks:=tk }) :
  wpAny (model prog w) A (collect (.ref r)) R E s:=by
 have lt:=src.there _ ok
 unfold collect
 refine wpAny_bind (wpAny_runValue (codeAny_builtin entry_proto_collect' ?_))
 rw [Around.under_plainId PySem.F.plain_proto_collect _]
 show wpAny _ A.in1 (newList [] >>= λl=>again (.builtin "list.__iadd__" ⟨[l,.ref r],[]⟩)) _ _ s
 refine wpAny_bind (wpAny_newObj_type (wpAny_pure ⟨plainId_quiet PySem.F.plain_list_iadd _,codeAny_builtin entry_list_iadd' ?_⟩))
 rw [Around.under_plainId PySem.F.plain_list_iadd _]
 have new:(s.heap.push { cls:=.type "list",data:=.seq ([]:List Value).toArray }).get? s.heap.objs.size=some { cls:=.type "list",data:=.seq #[] }:=Heap.get?_push_size _ rfl
 show wpAny _ A.in1 (Builtin.List.listExtendWith (.ref s.heap.objs.size) (.ref r) (.ref s.heap.objs.size)) _ _ _
 have main:=PySem.W.kdl_extend (A:=A) (s:={ s with heap:=s.heap.push { cls:=.type "list",data:=.seq ([]:List Value).toArray } })
  (R:=λ(q:Result) (s':Shared)=>∃ (h1:Heap) (tk:Nat) (acc:Array Value) (c:Nat),q=.ok (.ret (.ref s.heap.objs.size))/\s'={ s with heap:=h1,toks:=tk } /\
   (∀ b o,s.heap.get? b=some o->h1.get? b=some o)/\h1.get? s.heap.objs.size=some { cls:=.type "list",dict:=none,data:=.seq acc c,slots:=#[] }/\ItemsOf P acc n)
  src hA (src.keep _ _ ok λb _ o e=>Heap.get?_push_of_some _ e) s.heap.objs.size (Nat.ne_of_gt lt.1) (Nat.ne_of_gt lt.2) (.ref s.heap.objs.size) 0 new
  (λh1 tk acc c hk hS ha=>⟨h1,tk,acc,c,rfl,rfl,λb o e=>hk b o (Nat.ne_of_lt (Heap.lt_size e)) (Heap.get?_push_of_some _ e),hS,ha⟩) le
 refine wpAny_mono main (λfin s' x=>?_) λe s' x=>?_
 ·cases fin with
  |done f =>
   obtain ⟨h1,tk,acc,c,e,rfl,hk,hS,ha⟩:=x
   cases e
   show wpAny _ A (load s.heap.objs.size >>= _) _ _ _
   exact wpAny_bind (wpAny_load hS (wpAny_pure (h h1 tk acc hk (Nat.le_of_lt (Heap.lt_size hS)) ha)))
  |again c₁ =>
   refine ⟨x.1,codeAny_mono x.2 λq s₂ y=>?_⟩
   obtain ⟨h1,tk,acc,c,rfl,rfl,hk,hS,ha⟩:=y
   show wpAny _ A (load s.heap.objs.size >>= _) _ _ _
   exact wpAny_bind (wpAny_load hS (wpAny_pure (h h1 tk acc hk (Nat.le_of_lt (Heap.lt_size hS)) ha)))
 ·obtain ⟨_,_,_,_,e',_⟩:=x
  cases e'
theorem AF {X:Cx}{K:Fg}(tr:Bool) (hK:X.K=K) (hr:Room 2 X.A){pins:List (Addr×Obj)}{s:Shared}{σ:L2.St}{H:Hp}{S:Sto}{pl:Addr}{ls:List T}{vs:List V}{κ:T->Ky}{k0:Ky}{Qt:T->Sto->Prop}{Q:VK}
  (I:Inv X pins σ H s) (sr:SRp K H S) (rs:Rps K H S ls vs) (h64:ls.length<64) (hz:vs.length<=sizeLine) (hf:fit k0=true) (hd:k0.dep<=30)
  (hk:∀ t∈ls,Ky.ok (κ t)=true/\Ky.shp k0 (κ t)=true/\tre (κ t)=t) (hq:kq tr ls κ S Qt) (b:Bh K H S Qt Q)
  (hcol:∀ (A:Around) (E:Value->Shared->Prop) (R:List Value->Shared->Prop),A.handled=X.A.handled->(∀ (its:List Value) (h1:Heap) (tk:Nat),ap vs its->(∀ b u,s.heap.get? b=some u->h1.get? b=some u)->s.heap.objs.size<=h1.objs.size->R its { s with heap:=h1,toks:=tk })->wpAny (model X.prog X.w) A (collect (.ref pl)) R E s) :
  wpAny (model X.prog X.w) X.A (call (.builtin "sorted") [.ref pl]) (EP X pins σ Q) X.xe s:=by
 show wpAny _ X.A (call (.builtin "sorted") [.ref pl] []) _ _ s
 refine kG kind_sorted plain_sorted entry_sorted (oM _) ?_
 unfold Builtin.«sorted»
 refine wpAny_bind (m:=checkCount "sorted" 1 1 _) (wpAny_pure ?_)
 refine wpAny_bind (hcol _ _ _ rfl λits h1 tk rvs old1 sz1=>?_)
 have hlen:its.length=ls.length:=by rw [<- rvs.length,rs.length]
 have hsl:its.length<=sizeLine:=by rw [<- rvs.length];exact hz
 refine wpAny_bind (wpAny_newList ?_ hsl)
 dsimp only
 have hoL:(h1.push (seqObj "list" its.toArray 0)).get? h1.objs.size=some (seqObj "list" its.toArray 0):=Heap.get?_push_size _ rfl
 refine wpAny_bind (wpAny_holding (kF slot_list_sort (Ty:="list") ⟨_,hoL,rfl⟩ entry_list_sort ?_ (n6 _)))
 rw [ou]
 refine wpAny_bind (listItems_at hoL rfl ?_)
 refine wpAny_bind (listUpdate_at hoL rfl ?_ (by simpa using hsl) (by simp))
 obtain ⟨ep,ho1⟩:∃ ep,((h1.push (seqObj "list" its.toArray 0)).update h1.objs.size (Obj.mapSeq λ_=>#[])).get? h1.objs.size=some (seqObj "list" #[] ep):=⟨_,get?_update_seq hoL (λ_=>#[])⟩
 refine wpAny_bind (seqEpoch_at ho1 rfl ?_)
 generalize hL:h1.objs.size=L at *
 generalize hh2:(h1.push (seqObj "list" its.toArray 0)).update L (Obj.mapSeq λ_=>#[])=h2 at *
 have szh2:h2.objs.size=L+1:=by rw [<- hh2,Heap.size_update,size_push',hL]
 have I2:Inv X pins σ (upd H L (bE L (seqObj "list" #[] ep))) { s with heap:=h2,toks:=tk } :=
  mD I (λb u e=>by rw [<- hh2];exact (Heap.get?_update_other _ _ (Ne.symm (Nat.ne_of_lt (Nat.lt_of_lt_of_le (Heap.lt_size e) sz1)))).trans (Heap.get?_push_of_some _ (old1 b u e))) sz1 ho1
 refine wpAny_bind (wpAny_newTuple ?_ (by simpa using hsl))
 refine wpAny_bind (wpAny_newList ?_)
 dsimp only
 generalize hh3:h2.push { cls:=.type "tuple",data:=.seq its.toArray.toList.toArray }=h3
 have szh3:h3.objs.size=L+2:=by rw [<- hh3,size_push',szh2]
 generalize hh4:h3.push { cls:=.type "list",data:=.seq ([]:List Value).toArray }=h4
 rw [szh3]
 have I4:Inv X pins σ (upd (upd H L (bE L (seqObj "list" #[] ep))) (L+2) (bf (L+2) [])) { s with heap:=h4,toks:=tk } :=
  mC (s:={ s with heap:=h2,toks:=tk }) I2 (λb u e=>by rw [<- hh4,<- hh3];exact Heap.get?_push_of_some _ (Heap.get?_push_of_some _ e)) (by show h2.objs.size<=_;omega) .nil (Nat.zero_le _) (by rw [<- hh4,<- szh3];exact Heap.get?_push_size _ rfl)
 have ne1:L+2≠L:=Nat.ne_of_gt (Nat.lt_add_of_pos_right (by decide))
 have ne2:L≠L+2:=Ne.symm ne1
 have nL:H L=none:=I.hok.fresh sz1
 have nk:H (L+2)=none:=I.hok.fresh (by omega)
 have nk2:upd H L (bE L (seqObj "list" #[] ep)) (L+2)=none:=by rw [aE ne1];exact nk
 have nSL:S L=none:=sr.fresh nL
 have nSk:S (L+2)=none:=sr.fresh nk
 generalize hHc:upd (upd H L (bE L (seqObj "list" #[] ep))) (L+2) (bf (L+2) [])=Hc at *
 have eL:Hc L=some (bE L (seqObj "list" #[] ep)):=by rw [<- hHc,aE ne2];exact aL
 have ek:Hc (L+2)=some (bf (L+2) []):=by rw [<- hHc];exact aL
 have fc:Fr H S Hc S:=by rw [<- hHc];exact (Fr.new nL).trans (Fr.new nk2)
 have sc:SRp K Hc S:=by rw [<- hHc];exact (sr.new nL).new nk2
 refine wpAny_holding (wpAny_bind (wpAny_pure ?_))
 generalize hs5:({ s with heap:=h4,toks:=tk }:Shared)=s5 at *
 have rs5:=rs.fr fc
 obtain ⟨R,q1,q2,q3,q4,q5⟩:=jB rs5 rvs (rfl:its.length=its.length)
 have key:∀ r∈R,KR s5 r.ku (κ r.t)/\Ky.shp k0 (κ r.t)=true:=by
  have go:∀ {R:List Rec}{vs:List V},Rps K Hc S (R.map (·.t)) vs->ap vs (R.map (·.ku))->(∀ r∈R,r.t∈ls)->∀ r∈R,KR s5 r.ku (κ r.t)/\Ky.shp k0 (κ r.t)=true:=by
   intro R
   induction R with
   |nil=>intro _ _ _ _ r hr;cases hr
   |cons r0 R ih =>
    intro kvs a b m r hr
    cases a with
    |cons a1 a2 =>
     cases b with
     |cons b1 b2 =>
      rcases List.mem_cons.mp hr with rfl|hr
      ·have:=hk r.t (m r (List.mem_cons_self ..))
       exact ⟨ny hK I4 (by rw [this.2.2];exact a1) b1 this.1,this.2.1⟩
      ·exact ih a2 b2 (λx hx=>m x (List.mem_cons_of_mem _ hx)) r hr
  exact go (by rw [q1];exact rs5) (by rw [q4];exact rvs) λr hr=>by rw [<- q1];exact List.mem_map_of_mem hr
 refine kO (k0:=k0) rfl (by rw [hlen];exact h64) hf (λv hv=>?_) (by have:=hr.in1.in1.units;omega) λst hp hfail hsrt=>?_
 ·rw [<- q4] at hv
  obtain ⟨r,hr,rfl⟩:=List.mem_map.mp hv
  exact ⟨_,key r hr⟩
 ·obtain ⟨R',pR,eR⟩:=gB (λr:Rec=>((r.ku,r.u):Keyed)) (Array.perm_iff_toList_perm.mp hp) (l:=R) (by
   have:(its.toArray.zip its.toArray).toList=its.zip its:=by simp
   rw [this]
   conv=>lhs;arg 1;rw [<- q4]
   conv=>lhs;arg 2;rw [<- q3]
   exact List.zip_map')
  have memR:∀ r∈R',r∈R:=λr hr=>pR.mem_iff.mp hr
  obtain ⟨rz,vz⟩:=jq λr hr=>q5 r (memR r hr)
  have lR:R'.length=its.length:=by rw [pR.length_eq,<- q3,List.length_map]
  have szR:(arrOf st).size=R'.length:=by rw [<- Array.length_toList,eR,List.length_map]
  have at_:∀ k (h:k<(arrOf st).size) (h':k<R'.length),(arrOf st)[k].1=R'[k].ku:=λk h h'=>by
   have e1:(arrOf st)[k]=(arrOf st).toList[k]'(by simpa using h):=by simp
   rw [e1,List.getElem_of_eq eR,List.getElem_map]
  have srt:(R'.map (·.t)).Pairwise (λa b=>Ky.lt (κ b) (κ a)=false):=by
   rw [List.pairwise_map,List.pairwise_iff_getElem]
   intro i j hi hj ij
   have:=hsrt i j (by rw [szR];exact hj) (by rw [szR];exact hi) (Nat.le_of_lt ij)
   rw [at_ i (by rw [szR];exact hi) hi,at_ j (by rw [szR];exact hj) hj,eZ (key _ (memR _ (List.getElem_mem hi))).1,eZ (key _ (memR _ (List.getElem_mem hj))).1] at this
   exact this
  have fin:=hq (R'.map (·.t)) (by rw [<- q1];exact pR.map _) srt
  have eL5:=nz I4 eL
  have out:(arrOf st).map (·.2)=(R'.map (·.u)).toArray:=by
   apply Array.toList_inj.mp
   rw [Array.toList_map,eR,List.map_map]
   rfl
  dsimp only
  refine wpAny_bind (seqEpoch_at eL5 rfl ?_)
  refine wpAny_bind (listUpdate_at eL5 rfl ?_ (by simp) (by rw [out];simp;omega))
  rw [hfail]
  simp only [bne_self_eq_false,Bool.false_eq_true,if_false]
  have I7:=iz I4 eL (its:=[]) eL5 (f:=λ_=>(arrOf st).map (·.2)) (its':=R'.map (·.u)) out vz (by rw [List.length_map,lR];exact hsl)
  have I8:=I7.ofAcc (D:=L) aL
  rw [gF] at I8
  refine wpAny_pure ⟨_,rfl,wpAny_pure ⟨.ref L,_,I8,rfl,?_⟩⟩
  cases tr with
  |false=>exact b _ _ (.lst _) S (Fr.at fc nL) (sc.chg eL nSL) (.lst nSL aL (Rps.chg eL rz)) fin
  |true =>
   refine b _ _ (.ref L) _ (λa o h nn=>?_) (SRp.trk eL sc rz) .ref (fin L nSL)
   have ha:a≠L:=bv h nL
   rw [aD ha]
   exact Fr.at fc nL a o h nn
def sR (w:World) (tr:Bool):GC:=λts S Q=>∃ a kts κ k0,ts=[.ref a]/\RdT w S a kts/\kts.length<64/\fit k0=true/\k0.dep<=30 /\
 (∀ kv∈kts,Ky.ok (κ (dg kv.1))=true/\Ky.shp k0 (κ (dg kv.1))=true/\tre (κ (dg kv.1))=dg kv.1)/\kq tr (kts.map λkv=>dg kv.1) κ S Q
theorem AG {X:Cx}{K:Fg}(w:World) (tr:Bool) (hw:X.w=w) (hK:X.K=K) (hc:X.calm=true) (hr:Room 2 X.A):bz X (.builtin "sorted") (lC K (sR w tr)):=by
 subst hw
 rintro pins s σ H xs us Q I r ⟨S,ts,Qt,sr,rs,⟨a,kts,κ,k0,e,g,h64,hf,hd,hk,hq⟩,b⟩
 subst e
 cases rs with
 |cons h rn =>
 cases rn
 cases h
 obtain ⟨u,rfl,ru⟩:=cg r
 cases (show u=Value.ref a from ru)
 obtain ⟨kvs,hg,p⟩:=j5 sr g
 obtain ⟨z,hs,vs,rel,dd⟩:=rdK I hg
 obtain ⟨ep,da⟩:=dd.dictAt
 have hl:=rel.length
 refine AF tr hK hr I sr (Az p) (by rw [List.length_map];exact h64) (by rw [List.length_map];exact z) hf hd (λt ht=>?_) hq b λA E R hA q=>?_
 ·obtain ⟨kv,hkv,rfl⟩:=List.mem_map.mp ht
  exact hk kv hkv
 ·refine yw (PySem.W.kdl_dict (knd:=a6 X.prog X.w) (kvs:=vs) (ep:=ep) hs) (hA.trans (I.ok.hd hc)) da (by omega) λh1 tk acc kp sz hi=>q acc.toList h1 tk ?_ kp sz
  refine qT (by rw [List.length_map,hl];have:=hi.1;simpa using this.symm) λj x u e1 e2=>?_
  obtain ⟨k,y,q1,q2⟩:=hi.2 j u (by rw [<- Array.getElem?_toList];exact e2)
  obtain ⟨kv,z1,z2⟩:=ki rel q1
  rw [List.getElem?_map,z1] at e1
  cases e1
  show av (kV kv.1) u
  rw [z2.1];exact tX q2
def kyS:T->Ky
 |.str z=>.s z
 |_=>.nil
theorem yx {w:World}{tr:Bool}{S:Sto}{Q:T->Sto->Prop}{a:Addr}{kts:List (Key×T)}{ns:List Str}(g:RdT w S a kts) (h64:kts.length<64) (e:kts.map (·.1)=ns.map Sum.inr)
  (h:∀ zs:List Str,zs.Perm ns->zs.Pairwise (λx y=>Ky.lt (.s y) (.s x)=false)->a9 tr (zs.map T.str) S Q):sR w tr [.ref a] S Q:=by
 have ek:kts.map (λkv=>dg kv.1)=ns.map T.str:=by
  have:=congrArg (List.map dg) e
  rw [List.map_map,List.map_map] at this
  exact this
 refine ⟨a,kts,kyS,.s "",rfl,g,h64,rfl,Nat.zero_le _,λkv hkv=>?_,?_⟩
 ·have:kv.1∈ns.map (Sum.inr:Str->Key):=by rw [<- e];exact List.mem_map_of_mem hkv
  obtain ⟨i,_,hi⟩:=List.mem_map.mp this
  rw [<- hi]
  exact ⟨rfl,rfl,rfl⟩
 ·rw [ek]
  intro zs hp hs
  obtain ⟨l,p,rfl⟩:=gB T.str hp rfl
  refine h l p ?_
  rw [List.pairwise_map] at hs
  exact hs
section
variable {K:Fg}{X:Cx}{H:Hp}{S:Sto}
end
end T2
namespace L2
open PySem PySem.Spec PyProof.Rows
end L2
namespace T2
open PySem PySem.Spec PyProof.Rows L2
section
variable {K:Fg}{X:Cx}
end
section
variable {K:Fg}{X:Cx}{e:Expr}{wa:WE}
def vw (wa:WE):WT:=λσ S B=>wa σ S λx S1=>∃ ts,aX S1 x=some ts/\B (!ts.isEmpty) S1
theorem xj {H:Hp}{S:Sto}{ts:List T}{vs:List V}(r:Rps K H S ts vs):vs.isEmpty=ts.isEmpty:=by cases r<;>rfl
theorem yy (hK:X.K=K) (h:QE K X e wa) (he:∀ whole,isTrue e X.env whole=(do let v <- whole;standAt e.pos;holding [v] (truthy v)):=by intro _;rfl):QT K X e (vw wa):=PT.of (xJ h he) λσ H Q zz104=>by
 obtain ⟨S,σt,Qt,s,c,q,hq⟩:=zz104
 subst hK
 refine ⟨S,σt,_,s,c,q,λv H1 t S1 f1 s1 r1 zz105=>?_⟩
 obtain ⟨ts,ev,q1⟩:=zz105
 obtain ⟨p,vs,rfl,hS,rs⟩:=ci s1 r1 ev
 exact ⟨!vs.isEmpty,.inl ⟨vs,hS,rfl⟩,hq _ H1 S1 f1 s1 (by rw [xj rs];exact q1)⟩
theorem FT {σ:StT}{S:Sto}{B:Bool->Sto->Prop}(h:wa σ S λx S1=>∃ ts,aX S1 x=some ts/\B (!ts.isEmpty) S1):vw wa σ S B:=h
end
end T2
namespace Xc
open PySem
structure Ent (fr:List Addr) (e:Addr) (oe:Obj) (h h':Heap):Prop where
 it:∃ T o ts,h.objs.size<=T/\h'.get? e=some (oe.mapFields (·.setIfInBounds 1 (.ref T)))/\h'.get? T=some o/\o.data=.fields ts/\ts[3]?=some .none
 keep:∀ b o,h.get? b=some o->b≠e->b∉fr->h'.get? b=some o
 slot:∀ b o,h.get? b=some o->b≠e->∃ sl,h'.get? b=some { o with slots:=sl }
section
variable {M:Model}{A:Around}{E:Value->Shared->Prop}{s:Shared}
theorem qC {base:Heap}{env:Env}{outer:List Env}{L e:Addr}{oe:Obj}{vs:Array Value}{hd:Value}{nx:Bool}{Q:Unit->Shared->Prop}
  (fr:A.frames=some (env::outer)) (ff:s.heap.FunFrames base (env::outer)) (ef:env.frame=some L) (ge:s.heap.get? e=some oe) (de:oe.data=.fields vs) (sz:1<vs.size)
  (k:∀ h',Ent ((env::outer).filterMap (·.frame)) e oe s.heap h'->Q () { s with heap:=h' }) :
  wpAny M A (do let a <- frameOf env;let pl <- entryPlaceOf L nx;let b <- EntryCells.newEntry hd a .none (rawInt L) .none pl;setField (.ref e) 1 b) (λ_ s'=>wpAny M A (setFlight (.ref e) none) Q E s') E s:=by
 have nfr:e∉(env::outer).filterMap (·.frame):=λz=>by
  obtain ⟨_,o,q,nf⟩:=ff.mem z
  rw [ge] at q;cases q;exact nf vs de
 refine wpAny_bind (wpAny_frameOf_fun fr ff ef λh1 so=>wpAny_bind (wpAny_entryPlaceOf λpl ip=>?_))
 unfold EntryCells.newEntry newFields
 refine wpAny_bind (wpAny_newObj_type ?_ (ip.sizeOk5 _ _ _ _ _))
 have ge1:h1.get? e=some oe:=(so.2.1 e nfr).trans ge
 generalize hob:({ cls:=.type "traceback",dict:=none,data:=.fields ([hd,.ref L,.none,rawInt L,.none]++(if pl.isEmpty then List.replicate 6 Value.none else pl)).toArray }:Obj)=ot
 have dt:ot.data=.fields ([hd,.ref L,.none,rawInt L,.none]++(if pl.isEmpty then List.replicate 6 Value.none else pl)).toArray:=by rw [<- hob]
 have ot0:ot.isFreed=false:=Obj.isFreed_of_fields dt
 have ge2:(h1.push ot).get? e=some oe:=Heap.get?_push_of_some ot ge1
 have neT:h1.objs.size≠e:=Nat.ne_of_gt (Heap.lt_size ge1)
 have de3:=Obj.data_mapFields de (·.setIfInBounds 1 (Value.ref h1.objs.size))
 refine wpAny_setField ge2 de sz ?_
 have ge3:=Heap.get?_update_self (Obj.mapFields (·.setIfInBounds 1 (Value.ref h1.objs.size))) ge2 (Obj.isFreed_of_fields de3)
 have gT3:((h1.push ot).update e (Obj.mapFields (·.setIfInBounds 1 (Value.ref h1.objs.size)))).get? h1.objs.size=some ot:=(Heap.get?_update_other _ _ (Ne.symm neT)).trans (Heap.get?_push_size h1 ot0)
 unfold setFlight
 refine wpAny_bind (wpAny_field ge3 de3 (x:=.ref h1.objs.size) (by simp [sz]) ?_)
 rw [if_pos (show (Value.ref h1.objs.size != Value.none)=true from by simp)]
 have sz3:3<([hd,Value.ref L,.none,rawInt L,.none]++(if pl.isEmpty then List.replicate 6 Value.none else pl)).toArray.size:=by simp
 refine wpAny_setField gT3 dt sz3 (k _ ?_)
 have kp:∀ b o,b≠e->h1.get? b=some o->(((h1.push ot).update e (Obj.mapFields (·.setIfInBounds 1 (Value.ref h1.objs.size)))).update h1.objs.size (Obj.mapFields (·.setIfInBounds 3 ((none:Option Addr).elim Value.none λf=>rawInt f)))).get? b=some o:=λb o nb hb=>by
  rw [Heap.get?_update_other _ _ (Nat.ne_of_gt (Heap.lt_size hb)),Heap.get?_update_other _ _ (Ne.symm nb)]
  exact Heap.get?_push_of_some ot hb
 refine ⟨⟨h1.objs.size,_,_,Nat.le_of_eq so.1.symm,?_,Heap.get?_update_self _ gT3 (Obj.isFreed_of_fields (Obj.data_mapFields dt _)),Obj.data_mapFields dt _,?_⟩,λb o hb nb nf=>kp b o nb ((so.2.1 b nf).trans hb),λb o hb nb=>?_⟩
 ·rw [Heap.get?_update_other _ _ neT];exact ge3
 ·rw [Array.getElem?_setIfInBounds]
  rw [if_pos rfl,if_pos sz3]
  rfl
 ·obtain ⟨sl,q⟩:=so.2.2 b o hb
  exact ⟨sl,kp b _ nb q⟩
def Exc (h:Heap) (lo:Nat) (N:Addr->Prop) (e:Addr) (cls:Value) (dct:Option Addr):Prop :=
 ∃ oe vs hd,h.get? e=some oe/\oe.cls=cls/\oe.dict=dct/\oe.data=.fields vs/\(vs[1]?=some hd/\vs[2]?=some .none)/\lo<=e/\N e /\
  (hd=.none\/∃ T oT ts,hd=.ref T/\lo<=T/\N T/\T≠e/\h.get? T=some oT/\oT.data=.fields ts/\ts[3]?=some .none)
structure Past (fr ch:List Addr) (h h':Heap):Prop where
 keep:∀ b o,h.get? b=some o->b∉ch->b∉fr->h'.get? b=some o
 slot:∀ b o,h.get? b=some o->b∈fr->∃ sl,h'.get? b=some { o with slots:=sl }
 there:∀ b o,h.get? b=some o->∃ o',h'.get? b=some o'
theorem yz (o:Obj) (f:Array Value->Array Value):(o.mapFields f).dict=o.dict:=by
 obtain ⟨c,d,dt,sl⟩:=o
 cases dt<;>rfl
theorem Exc.mono {h:Heap}{lo lo':Nat}{N:Addr->Prop}{e:Addr}{cls:Value}{dct:Option Addr}(x:Exc h lo N e cls dct) (l:lo'<=lo):Exc h lo' N e cls dct:=by
 obtain ⟨oe,vs,hd,ge,c,d,de,e1,le,ne,hh⟩:=x
 refine ⟨oe,vs,hd,ge,c,d,de,e1,Nat.le_trans l le,ne,hh.imp id λzz106=>by obtain ⟨T,oT,ts,r,lT,q⟩:=zz106;exact ⟨T,oT,ts,r,Nat.le_trans l lT,q⟩⟩
theorem Exc.there {h:Heap}{lo:Nat}{N:Addr->Prop}{e:Addr}{cls:Value}{dct:Option Addr}(x:Exc h lo N e cls dct):∃ oe,h.get? e=some oe/\oe.cls=cls/\oe.dict=dct:=by
 obtain ⟨oe,vs,hd,ge,c,d,_⟩:=x
 exact ⟨oe,ge,c,d⟩
theorem note_it {base:Heap}{env:Env}{outer:List Env}{L e:Addr}{lo:Nat}{N:Addr->Prop}{cls:Value}{dct:Option Addr}{Q:Unit->Shared->Prop}
  (fr:A.frames=some (env::outer)) (ff:s.heap.FunFrames base (env::outer)) (ef:env.frame=some L) (hN:∀ b,s.heap.objs.size<=b->N b) (hlo:lo<=s.heap.objs.size) (x:Exc s.heap lo N e cls dct)
  (k:∀ h' ch,(∀ b∈ch,lo<=b/\N b/\b∉(env::outer).filterMap (·.frame)/\∃ o vs,s.heap.get? b=some o/\o.data=.fields vs)->Past ((env::outer).filterMap (·.frame)) ch s.heap h'->Exc h' lo N e cls dct->Q () { s with heap:=h' }) :
  wpAny M A (noteFrame (.ref e) env) (λ_ s'=>wpAny M A (setFlight (.ref e) none) Q E s') E s:=by
 obtain ⟨oe,vs,hd,ge,rfl,rfl,de,e1,le,ne,hh⟩:=x
 have sz:1<vs.size:=(Array.getElem?_eq_some_iff.mp e1.1).1
 have nofld:∀ b∈(env::outer).filterMap (·.frame),∀ o,s.heap.get? b=some o->∀ vs,o.data≠.fields vs:=λb hb o q=>by
  obtain ⟨_,o',q',nf⟩:=ff.mem hb
  rw [q] at q';cases q';exact nf
 have nfe:e∉(env::outer).filterMap (·.frame):=λz=>nofld e z _ ge vs de
 have fin:∀ (g h':Heap),g.objs.size=s.heap.objs.size->Ent ((env::outer).filterMap (·.frame)) e oe g h'->Exc h' lo N e oe.cls oe.dict:=by
  rintro g h' sg ⟨⟨T,o,ts,hT,gE,gT,dT,e3⟩,_,_⟩
  have hT':s.heap.objs.size<=T:=by omega
  refine ⟨_,_,.ref T,gE,Obj.cls_mapFields _ _,yz _ _,Obj.data_mapFields de _,⟨by simp [sz],by rw [Array.getElem?_setIfInBounds,if_neg (by decide)];exact e1.2⟩,le,ne,.inr ⟨T,o,ts,rfl,Nat.le_trans hlo hT',hN T hT',λz=>?_,gT,dT,e3⟩⟩
  have q:e<s.heap.objs.size:=Heap.lt_size ge
  rw [z] at hT'
  exact absurd (Nat.lt_of_lt_of_le q hT') (Nat.lt_irrefl _)
 unfold noteFrame
 simp only [ef]
 refine wpAny_bind (wpAny_field ge de e1.1 ?_)
 rcases hh with rfl|⟨T,oT,ts,rfl,lT,nT,neT,gT,dT,e3⟩
 ·rw [if_neg (by decide)]
  refine qC fr ff ef ge de sz λh' en=>k h' [e] (λb hb=>by rw [List.mem_singleton.mp hb];exact ⟨le,ne,nfe,_,_,ge,de⟩) ⟨λb o hb hk nf=>en.keep b o hb (λz=>hk (List.mem_singleton.mpr z)) nf,λb o hb hf=>en.slot b o hb λz=>nfe (z ▸ hf),λb o hb=>?_⟩ (fin s.heap h' rfl en)
  by_cases z:b=e
  ·subst z
   obtain ⟨T,_,_,_,q,_⟩:=en.it
   exact ⟨_,q⟩
  ·obtain ⟨sl,q⟩:=en.slot b o hb z
   exact ⟨_,q⟩
 ·rw [if_pos (show (Value.ref T != Value.none)=true from by simp)]
  refine wpAny_bind (wpAny_field gT dT e3 ?_)
  rw [if_neg (show ¬ ((Value.none==rawInt L)=true) from by simp [rawInt])]
  refine wpAny_bind (wpAny_setField gT dT (Array.getElem?_eq_some_iff.mp e3).1 ?_)
  generalize hg:s.heap.update T (Obj.mapFields (·.setIfInBounds 3 Value.none))=g
  have ot:∀ b,b≠T->g.get? b=s.heap.get? b:=λb nb=>by rw [<- hg];exact Heap.get?_update_other _ _ (Ne.symm nb)
  have sg:g.objs.size=s.heap.objs.size:=by rw [<- hg];exact Heap.size_after_update ..
  have nfT:T∉(env::outer).filterMap (·.frame):=λz=>nofld T z _ gT ts dT
  have ff':g.FunFrames base (env::outer):=ff.of_keeps λb o hb nf=>⟨o,(ot b λz=>by subst z;rw [gT] at hb;cases hb;exact nf ts dT).trans hb,rfl⟩
  refine qC (s:={ s with heap:=g }) fr ff' ef ((ot e (Ne.symm neT)).trans ge) de sz λh' en=>k h' [e,T] (λb hb=>?_) ⟨λb o hb hk nf=>en.keep b o ((ot b λz=>hk (by rw [z];simp)).trans hb) (λz=>hk (by rw [z];simp)) nf,λb o hb hf=>en.slot b o ((ot b λz=>nfT (z ▸ hf)).trans hb) λz=>nfe (z ▸ hf),λb o hb=>?_⟩ (fin g h' sg en)
  ·rcases List.mem_cons.mp hb with z|z
   ·rw [z];exact ⟨le,ne,nfe,_,_,ge,de⟩
   ·rw [List.mem_singleton.mp z];exact ⟨lT,nT,nfT,_,_,gT,dT⟩
  ·by_cases z:b=e
   ·subst z
    obtain ⟨T,_,_,_,q,_⟩:=en.it
    exact ⟨_,q⟩
   ·by_cases z2:b=T
    ·subst z2
     have gT':g.get? b=some (oT.mapFields (·.setIfInBounds 3 Value.none)):=by rw [<- hg];exact Heap.get?_update_self _ gT (Obj.isFreed_of_fields (Obj.data_mapFields dT _))
     obtain ⟨sl,q⟩:=en.slot b _ gT' z
     exact ⟨_,q⟩
    ·obtain ⟨sl,q⟩:=en.slot b o ((ot b z2).trans hb) z
     exact ⟨_,q⟩
end
end Xc
namespace L2
open PySem PySem.Spec PyProof.Rows
def CX1 (P:Program) (w:World):CXT:=λouter H s E e s'=>∃ a C dct H',e=.ref a/\s'.os=s.os/\AllBare s'.gens/\Un (frs outer) [] H H' s.heap s'.heap/\HOk P w H' s'.heap /\
 Xc.Exc s'.heap s.heap.objs.size (λb=>H' b=none) a (.ref C) dct/\E (.ref C) dct H'
abbrev XS:=Addr->Option Addr->St->Hp->Prop
structure Low (X:Cx) (pins:List (Addr×Obj)) (lo:Nat):Prop where
 s0:X.s₀.heap.objs.size<=lo
 loc:X.env.locals<lo
 cell:∀ x c,X.env.cells.lookup x=some c->c<lo
 pin:∀ p∈X.pn++pins,p.1<lo
def XP (X:Cx) (pins:List (Addr×Obj)) (R:XS) (e:Value) (s':Shared):Prop:=∃ a C dct σ' H' lo,e=.ref a/\Inv X pins σ' H' s'/\Low X pins lo/\Xc.Exc s'.heap lo (λb=>H' b=none) a (.ref C) dct/\R C dct σ' H'
abbrev TR:=St->Hp->XS->Prop
def PR (X:Cx) (st:Stmt) (t:TR):Prop:=∀ (pins:List (Addr×Obj)) (s:Shared) (σ:St) (H:Hp) (R:XS),Inv X pins σ H s->t σ H R->wpAny (model X.prog X.w) X.A (exec st X.env) (λ_ _=>False) (XP X pins R) s
def PRs (X:Cx) (st:List Stmt) (t:TR):Prop:=∀ (pins:List (Addr×Obj)) (s:Shared) (σ:St) (H:Hp) (R:XS),Inv X pins σ H s->t σ H R->wpAny (model X.prog X.w) X.A (execs st X.env) (λ_ _=>False) (XP X pins R) s
def PRE (X:Cx) (e:Expr) (t:TR):Prop:=∀ (pins:List (Addr×Obj)) (s:Shared) (σ:St) (H:Hp) (R:XS),Inv X pins σ H s->t σ H R->wpAny (model X.prog X.w) X.A (eval e X.env) (λ_ _=>False) (XP X pins R) s
def PRA (X:Cx) (es:List Expr) (t:TR):Prop:=∀ (pos:Pos) (pins:List (Addr×Obj)) (s:Shared) (σ:St) (H:Hp) (R:XS),Inv X pins σ H s->t σ H R->wpAny (model X.prog X.w) X.A (spliced (backTo pos (starEach es X.env))) (λ_ _=>False) (XP X pins R) s
section
variable {X:Cx}{pins:List (Addr×Obj)}{σ:St}{H:Hp}{s:Shared}
theorem Inv.low (I:Inv X pins σ H s):Low X pins s.heap.objs.size :=
 ⟨I.sz,I.lt,λx c e=>by obtain ⟨v,o,ho,_⟩:=I.cell x c e;exact Heap.lt_size ho,λp hp=>Heap.lt_size (I.pin p hp).1⟩
theorem fh {α:Type}{t:Sem α}{Q Q':α->Shared->Prop}{E:Value->Shared->Prop}(h:wpAny (model X.prog X.w) X.A t Q (λ_ _=>False) s) (q:∀ a s,Q a s->Q' a s):wpAny (model X.prog X.w) X.A t Q' E s:=wpAny_mono h q λ_ _ z=>z.elim
variable {st:Stmt}{rest:List Stmt}{t u:TS}{r r2:TR}{e:Expr}{es:List Expr}{te:TE}{ta:TA}{pos:Pos}
theorem yA (h:PR X st r):PRs X (st::rest) r:=λpins s σ H R I q=>wpAny_execs_cons (wpAny_mono (h pins s σ H R I q) (λ_ _ z=>z.elim) λ_ _ z=>z)
def FU (t:TS) (r:TR):TR:=λσ H R=>t { nx:=λσ' H'=>r σ' H' R,rt:=λ_ _=>False } σ H
theorem yB (h1:PS X.nox st t) (h2:PRs X rest r):PRs X (st::rest) (FU t r):=by
 intro pins s σ H R I q
 refine wpAny_execs_cons (fh (h1 pins s σ H _ (I.wish _) q) λf s1 q=>?_)
 cases f with
 |next=>obtain ⟨σ',H',I',q⟩:=q;exact h2 pins s1 σ' H' R I'.unwish q
 |ret v=>obtain ⟨_,_,_,_,_,q⟩:=q;exact q.elim
 |brk=>obtain ⟨_,_,_,q⟩:=q;exact q.elim
 |cont=>obtain ⟨_,_,_,q⟩:=q;exact q.elim
def rIf (c:TT) (r r2:TR):TR:=λσ H R=>c σ H λb H1=>if b=true then r σ H1 R else r2 σ H1 R
theorem FV {c:Expr}{a b:List Stmt}{tc:TT}(hc:PT X.nox c tc) (ha:PRs X a r) (hb:PRs X b r2):PR X (.If c a b pos) (rIf tc r r2):=by
 intro pins s σ H R I h
 refine wpAny_If (fh (hc pins s σ H _ (I.wish _) h) λd s1 zz107=>?_)
 obtain ⟨H1,I1,q1⟩:=zz107
 cases d with
 |true=>exact ha pins s1 σ H1 R I1.unwish q1
 |false=>exact hb pins s1 σ H1 R I1.unwish q1
theorem AH (h:PRE X e r) (hs:swapsWith e none pos.line X.env=pure false:=by rfl):PR X (.Expr e pos) r:=λpins s σ H R I q=>wpAny_Expr_any (wpAny_mono (h pins s σ H R I q) (λ_ _ z=>z.elim) λ_ _ z=>z) I.quiet hs
theorem Ds (h:PRE X e r):PR X (.Return (some e) pos) r:=λpins s σ H R I q=>wpAny_Return_some (wpAny_mono (h pins s σ H R I q) (λ_ _ z=>z.elim) λ_ _ z=>z)
theorem Du {x:Str}{pos':Pos}(h:PRE X e r) (hs:swapsWith e (some (.Name x pos')) pos.line X.env=pure false:=by rfl):PR X (.Assign [.Name x pos'] e pos) r:=λpins s σ H R I q=>wpAny_Assign_Name (wpAny_mono (h pins s σ H R I q) (λ_ _ z=>z.elim) λ_ _ z=>z) hs
theorem yC (h:PRE X e r) (hs:starEach (e::es) X.env=(false,eval e X.env)::starEach es X.env:=by rfl):PRA X (e::es) r:=by
 intro pos pins s σ H R I q
 rw [hs]
 exact Calls.spliced_cons (wpAny_mono (h pins s σ H R I q) (λ_ _ z=>z.elim) λ_ _ z=>z)
end
section
variable {X:Cx}{k:Nat}{f C:Addr}{fd:FuncData}{ps:List Str}{sp:Sp}{dvs:List V}{ds:List Value}{x m:Str}{p pos apos:Pos}{e o:Expr}{es:List Expr}{ta:TE}{t:TA}{r:TR}{G:Addr->Prop}
def toE (R:XS) (σ:St):XK:=λc dct H'=>∃ C,c=.ref C/\R C dct σ H'
theorem lV {pins:List (Addr×Obj)}{σ:St}{H:Hp}{s:Shared}{R:XS}{us:List Value}{vs:List V}(F:FnOk X.prog X.w X.K X.mg X.base (CX1 X.prog X.w) k f fd ps sp) (hr:Room k X.A) (hb:aj X.K fd ps ds) (hd:ap dvs ds)
  (I:Inv X pins σ H s) (r:ap vs us) (h:sp (vs++dvs) H (λ_ _=>False) (toE R σ)):wpAny (model X.prog X.w) X.A (call (.ref f) us) (λ_ _=>False) (XP X pins R) s:=by
 have r2:ap (vs++dvs) (us++ds):=r.append hd
 have hl:(us++ds).length=ps.length:=by rw [<- r2.length];exact F.len _ _ _ _ h
 refine wpAny_call (codeAny_mono (F.run X.A X.stack s H ⟨us,[]⟩ (us++ds) (vs++dvs) _ _ hr I.env0 (hb s us I.kIn hl) r2 h) λq s' hq=>?_)
 cases q with
 |error z =>
  obtain ⟨a,C,dct,H',rfl,os,bare,un,hok,x,C',ec,q⟩:=hq
  cases ec
  exact ⟨a,C,dct,σ,H',_,rfl,I.call' (ch:=[]) os un hok bare (λ_ z=>nomatch z),I.low,x,q⟩
 |ok fl =>
  cases fl with
  |ret u=>obtain ⟨_,_,_,_,_,_,_,q⟩:=hq;exact q.elim
  |next=>exact False.elim hq
  |brk=>exact False.elim hq
  |cont=>exact False.elim hq
def FW (sp:Sp) (dvs:List V) (t:TA):TR:=λσ H R=>t σ H λvs H1=>sp (vs++dvs) H1 (λ_ _=>False) (toE R σ)
theorem yD (F:FnOk X.prog X.w X.K X.mg X.base (CX1 X.prog X.w) k f fd ps sp) (hr:Room k X.A) (hg:Gl X x) (hm:X.mg x=some (.ref f)) (hk:PySem.W.keepIn X.K (.ref f)=true) (hb:aj X.K fd ps ds) (hd:ap dvs ds)
  (ha:PA X.nox (e::es) t) (hdb:(x==("__debug__":Str))=false:=by decide) (he:starEach (e::es) X.env=(false,eval e X.env)::starEach es X.env:=by rfl) (hpl:(backTo pos (starEach es X.env)).any (·.1)=false:=by rfl) :
  PRE X (.Call (.Name x p) (e::es) [] pos) (FW sp dvs t):=by
 intro pins s σ H R I h
 refine wpAny_Call_Name_kw (d9 I hg hm ?_ hdb)
 refine PySem.W.callWith_K (h₀:=X.base) I.ok.mod.kin hk (fh (ha pos pins s σ H _ (I.wish _) h) λus s1 ⟨vs,H1,I1,r,q⟩=>⟨I1.unwish.kIn,?_⟩) he hpl
 exact lV F hr hb hd I1.unwish r q
theorem xk {g:Value}(hg:Gl X x) (hm:X.mg x=some (.ref f)) (hk:PySem.W.keepIn X.K (.ref f)=true) (ha:PRA X (e::es) r) (hdb:(x==("__debug__":Str))=false:=by decide)
  (he:starEach (e::es) X.env=(false,eval e X.env)::starEach es X.env:=by rfl) (hpl:(backTo pos (starEach es X.env)).any (·.1)=false:=by rfl):PRE X (.Call (.Name x p) (e::es) [] pos) r:=by
 intro pins s σ H R I h
 refine wpAny_Call_Name_kw (d9 I hg hm ?_ hdb)
 exact PySem.W.callWith_K (h₀:=X.base) I.ok.mod.kin hk (wpAny_mono (ha pos pins s σ H R I h) (λ_ _ z=>z.elim) λ_ _ z=>z) he hpl
def nB (G:Addr->Prop) (m:Str) (sp:Sp) (dvs:List V) (ta:TE) (t:TA):TR:=λσ H R=>ta σ H λx H1=>∃ a C dx fs,x=.ref a/\H1 a=some (.ins C dx fs)/\G C/\fs.lookup m=none/\t σ H1 λvs H2=>sp (x::(vs++dvs)) H2 (λ_ _=>False) (toE R σ)
theorem yE {pl:Sem Bool}(he:PE X.nox o ta) (hG:∀ C,G C->Cls X.K C/\Meth X.K C m f) (F:FnOk X.prog X.w X.K X.mg X.base (CX1 X.prog X.w) k f fd ps sp) (hr:Room k X.A) (hb:aj X.K fd ps ds) (hd:ap dvs ds) (ha:PA X.nox (e::es) t)
  (hst:starEach (e::es) X.env=(false,eval e X.env)::starEach es X.env:=by rfl) (hpl:(backTo pos (starEach es X.env)).any (·.1)=false:=by rfl)
  (ht:eval (.Call (.Attribute o m apos) (e::es) [] pos) X.env=(do
   let ov <- eval o X.env
   standAt apos.atName
   let (f,first) <- holding [ov] (getMethod ov m pl)
   callWith pos f first (backTo pos (starEach (e::es) X.env)) (backToKw pos (keywordEach [] X.env))):=by rfl) :
  PRE X (.Call (.Attribute o m apos) (e::es) [] pos) (nB G m sp dvs ta t):=by
 intro pins s σ H R I h
 refine PySem.W.methodCall_KW (pl:=pl) (fh (he pins s σ H _ (I.wish _) h) λu s1 ⟨x,H1,I1,rx,a,C,dx,fs,ex,ea,g,l,q⟩=>?_) ht
 subst ex
 obtain rfl:u=Value.ref a:=rx
 obtain ⟨c,hm⟩:=hG C g
 refine jn I1.unwish ea c hm l ?_
 refine PySem.W.callWith_K (first:=[.ref a]) (h₀:=X.base) I.ok.mod.kin hm.kp (fh (ha pos pins s1 σ H1 _ I1 q) λus s2 ⟨vs,H2,I2,r,q2⟩=>⟨I2.unwish.kIn,?_⟩) hst hpl
 exact lV (us:=.ref a::us) (vs:=.ref a::vs) F hr hb hd I2.unwish (.cons rfl r) q2
theorem xm {pl:Sem Bool}(he:PE X.nox o ta) (hG:∀ C,G C->Cls X.K C/\Meth X.K C m f) (F:FnOk X.prog X.w X.K X.mg X.base (CX1 X.prog X.w) k f fd ps sp) (hr:Room k X.A) (hb:aj X.K fd ps ds) (hd:ap dvs ds)
  (ht:eval (.Call (.Attribute o m apos) [] [] pos) X.env=(do
   let ov <- eval o X.env
   standAt apos.atName
   let (f,first) <- holding [ov] (getMethod ov m pl)
   callWith pos f first (backTo pos (starEach [] X.env)) (backToKw pos (keywordEach [] X.env))):=by rfl) :
  PRE X (.Call (.Attribute o m apos) [] [] pos) (nB G m sp dvs ta dY):=by
 intro pins s σ H R I h
 refine PySem.W.methodCall_KW (pl:=pl) (fh (he pins s σ H _ (I.wish _) h) λu s1 ⟨x,H1,I1,rx,a,C,dx,fs,ex,ea,g,l,q⟩=>?_) ht
 subst ex
 obtain rfl:u=Value.ref a:=rx
 obtain ⟨c,hm⟩:=hG C g
 refine jn I1.unwish ea c hm l ?_
 exact PySem.W.callWith_K0 (first:=[.ref a]) I1.unwish.kIn hm.kp (lV (us:=[.ref a]) (vs:=[.ref a]) F hr hb hd I1.unwish (.cons rfl .nil) q)
end
section
variable {X:Cx}{pins:List (Addr×Obj)}{σ:St}{H:Hp}{s:Shared}
theorem Inv.past {h':Heap}{ch:List Addr}(I:Inv X pins σ H s){lo:Nat}(lw:Low X pins lo) (hch:∀ b∈ch,lo<=b/\H b=none/\b∉frs X.stack/\∃ o vs,s.heap.get? b=some o/\o.data=.fields vs) (p:Xc.Past (frs X.stack) ch s.heap h') :
  Inv X pins σ H { s with heap:=h' }:=by
 have nfr:∀ b u,H b=some u->b∉frs X.stack:=λb u e z=>by rw [I.stkFree b z] at e;cases e
 have nch:∀ b u,H b=some u->b∉ch:=λb u e z=>by rw [(hch b z).2.1] at e;cases e
 have kp:∀ b u o,H b=some u->s.heap.get? b=some o->h'.get? b=some o:=λb u o e g=>p.keep b o g (nch b u e) (nfr b u e)
 refine I.call (g':=s.gens) (d':=s.drawn) (t':=s.toks) (ch:=ch) ⟨λb o e _ nf nc=>p.keep b o e nc nf,λb o e _ hf _=>p.slot b o e hf,λb o _ n _=>n,λb o e _=>p.there b o e,λ_ _ e=>e,λ_ _ _ e=>e,λb ps e=>⟨#[],by rw [Array.append_empty];exact e⟩⟩ ?_ I.bare λb hb=>?_
 ·intro b u e
  refine (I.hok b u e).stay (λc v hc g=>?_) (λ_ z=>z) λ_ _ z=>z
  rcases hc with rfl|hc
  ·exact kp c u v e g
  ·exact kp c _ v hc g
 ·have hl:=(hch b hb).1
  exact ⟨.inr (Nat.le_trans lw.s0 hl),λz=>absurd (Nat.lt_of_lt_of_le lw.loc hl) (by rw [z];exact Nat.lt_irrefl _),λx c e z=>absurd (Nat.lt_of_lt_of_le (lw.cell x c e) hl) (by rw [z];exact Nat.lt_irrefl _),λq hq z=>absurd (Nat.lt_of_lt_of_le (lw.pin q hq) hl) (by rw [z];exact Nat.lt_irrefl _)⟩
theorem rA {Q:Unit->Shared->Prop}{E:Value->Shared->Prop}{a C:Addr}{dct:Option Addr}{lo:Nat}(I:Inv X pins σ H s) (st:X.stack=X.env::X.outer/\X.env.frame=some X.env.locals) (lw:Low X pins lo) (hlo:lo<=s.heap.objs.size) (x:Xc.Exc s.heap lo (λb=>H b=none) a (.ref C) dct)
  (k:∀ s',Inv X pins σ H s'->s'.os=s.os->s'.gens=s.gens->Xc.Exc s'.heap lo (λb=>H b=none) a (.ref C) dct->Q () s'):wpAny (model X.prog X.w) X.A (noteFrame (.ref a) X.env) (λ_ s'=>wpAny (model X.prog X.w) X.A (setFlight (.ref a) none) Q E s') E s:=by
 have fs:s.heap.FunFrames X.base (X.env::X.outer):=by rw [<- st.1];exact I.stack
 refine Xc.note_it (base:=X.base) (L:=X.env.locals) (by rw [I.ok.frames,st.1]) fs st.2 (λb hb=>I.hok.fresh hb) hlo x λh' ch hch p x'=>?_
 have e:(X.env::X.outer).filterMap (·.frame)=frs X.stack:=by rw [st.1];rfl
 rw [e] at hch p
 exact k _ (I.past lw hch p) rfl rfl x'
end
section
variable {P:Program}{w:World}{K:PySem.W.Frag}{mg:Str->Option Value}{base:Heap}
theorem yF {k:Nat}{f:Addr}{name qual:Str}{params:Arguments}{body:List Stmt}{scope:Scope}{dV kV doc pm cdv ct oc:Value}{an od:Option Addr}{osl:Array (Option Value)}{N ps:List Str}{sp:Sp}
  (lk:K.lookup f=some ⟨oc,od,.func (PySem.W.fnOf name qual params body scope dV kV doc pm an cdv ct),osl⟩) (hcd:PySem.W.codeIn K cdv qual=true) (S:FnScope N ps scope) (len:∀ vs H Q E,sp vs H Q E->vs.length=ps.length)
  (hbody:∀ (A:Around) (outer:List Env) (s:Shared) (H:Hp) (vs:List V) (E:XK) (Q:VK),Room k (A.deeper (envOfC qual scope s.heap.objs.size f cdv))->sp vs H Q E ->
   ∃ r,PRs (cA CX0 P w K mg base N qual scope f cdv A outer s H E) body r/\r (bT N vs) H λC dct _ H'=>E (.ref C) dct H') :
  FnOk P w K mg base (CX1 P w) (k+1) f (PySem.W.fnOf name qual params body scope dV kV doc pm an cdv ct) ps sp:=by
 refine m8 lk hcd S len λA outer s H vs Q E hr hsp=>?_
 obtain ⟨r,hr1,hr2⟩:=hbody A outer s H vs E Q hr hsp
 refine ⟨λ_ σ H'=>σ=bT N vs/\H'=H,?_,rfl,rfl⟩
 rintro pins s1 σ H1 D I ⟨rfl,rfl⟩
 have I0:Inv (cA CX0 P w K mg base N qual scope f cdv A outer s H1 E) pins (bT N vs) H1 s1:=⟨⟨I.ok.mod,I.ok.kind,I.ok.glob,I.ok.blt,I.ok.above,I.ok.inj,I.ok.has,I.ok.cab,I.ok.hd,I.ok.frames,I.ok.stk,I.ok.exf,I.ok.bs,I.ok.bsz,I.ok.noex,I.ok.exfs,I.ok.funs,I.ok.frf⟩,I.os,I.bare,I.base,I.loc,I.cell,I.free,I.freeC,I.pin,I.hok,I.len⟩
 refine wpAny_mono (hr1 pins s1 _ _ _ I0 hr2) (λ_ _ z=>z.elim) λe s2 zz108=>?_
 obtain ⟨a,C,dct,σ',H',lo,ee,J,lw,x,q⟩:=zz108
 subst ee
 show wpAny (model P w) (A.deeper _) (leaving _ (.ref a)) _ _ s2
 unfold leaving
 have hlo:lo<=s2.heap.objs.size:=Nat.le_of_lt (Nat.lt_of_le_of_lt (by obtain ⟨_,_,_,_,_,_,_,_,l,_⟩:=x;exact l) (by obtain ⟨oe,_,_,ge,_⟩:=x;exact Heap.lt_size ge))
 refine wpAny_bind (rA J ⟨rfl,rfl⟩ lw hlo x λs3 J3 _ _ x3=>?_)
 exact ⟨a,C,dct,H',rfl,J3.os,J3.bare,J3.base,J3.hok,x3.mono lw.s0,q⟩
end
end L2
namespace Xc
open PySem
section
variable {M:Model}{A:Around}{E:Value->Shared->Prop}{s:Shared}
theorem flight_it {e:Addr}{lo:Nat}{N:Addr->Prop}{cls:Value}{dct:Option Addr}{Q:Unit->Shared->Prop}(x:Exc s.heap lo N e cls dct)
  (k:∀ h' ch,(∀ b∈ch,lo<=b/\N b/\∃ o vs,s.heap.get? b=some o/\o.data=.fields vs)->Past [] ch s.heap h'->Exc h' lo N e cls dct->Q () { s with heap:=h' }):wpAny M A (setFlight (.ref e) none) Q E s:=by
 have x0:=x
 obtain ⟨oe,vs,hd,ge,hc,hdc,de,e1,le,ne,hh⟩:=x
 unfold setFlight
 refine wpAny_bind (wpAny_field ge de e1.1 ?_)
 rcases hh with rfl|⟨T,oT,ts,rfl,lT,nT,neT,gT,dT,e3⟩
 ·rw [if_neg (by decide)]
  exact wpAny_pure (k s.heap [] (λ_ z=>(nomatch z)) ⟨λb o hb _ _=>hb,λb o hb z=>(nomatch z),λb o hb=>⟨o,hb⟩⟩ x0)
 ·rw [if_pos (show (Value.ref T != Value.none)=true from by simp)]
  have s3:=(Array.getElem?_eq_some_iff.mp e3).1
  refine wpAny_setField gT dT s3 (k _ [T] (λb hb=>by rw [List.mem_singleton.mp hb];exact ⟨lT,nT,_,_,gT,dT⟩) ⟨λb o hb nb _=>?_,λb o hb z=>(nomatch z),λb o hb=>?_⟩ ?_)
  ·rw [Heap.get?_update_other _ _ (λz=>nb (List.mem_singleton.mpr z.symm))];exact hb
  ·by_cases z:b=T
   ·subst z
    exact ⟨_,Heap.get?_update_self _ gT (Obj.isFreed_of_fields (Obj.data_mapFields dT _))⟩
   ·exact ⟨o,by rw [Heap.get?_update_other _ _ (Ne.symm z)];exact hb⟩
  ·refine ⟨oe,vs,.ref T,(Heap.get?_update_other _ _ neT).trans ge,hc,hdc,de,e1,le,ne,.inr ⟨T,_,_,rfl,lT,nT,neT,Heap.get?_update_self _ gT (Obj.isFreed_of_fields (Obj.data_mapFields dT _)),Obj.data_mapFields dT _,?_⟩⟩
   rw [Array.getElem?_setIfInBounds,if_pos rfl,if_pos s3]
   rfl
end
end Xc
namespace L2
open PySem PySem.Spec PyProof.Rows
abbrev Cx.inx (X:Cx) (a:Addr):Cx:={ X with A:=X.A.mark (some (.ref a)),calm:=false,xe:=λ_ _=>False }
theorem Cx.Ok.inx {X:Cx}(ok:X.Ok) (a:Addr):(X.inx a).Ok :=
 ⟨ok.mod,ok.kind,ok.glob,ok.blt,ok.above,ok.inj,ok.has,ok.cab,λz=>(nomatch z),ok.frames,ok.stk,ok.exf,ok.bs,ok.bsz,ok.noex,ok.exfs,ok.funs,ok.frf⟩
section
variable {X:Cx}{pins:List (Addr×Obj)}{σ:St}{H:Hp}{s:Shared}{a:Addr}
theorem Inv.inx (I:Inv X pins σ H s) (a:Addr):Inv (X.inx a) pins σ H s:=⟨I.ok.inx a,I.os,I.bare,I.base,I.loc,I.cell,I.free,I.freeC,I.pin,I.hok,I.len⟩
theorem Inv.outx (I:Inv (X.inx a) pins σ H s) (ok:X.Ok):Inv X pins σ H s:=⟨ok,I.os,I.bare,I.base,I.loc,I.cell,I.free,I.freeC,I.pin,I.hok,I.len⟩
theorem SP.outx {D:Ends}{f:Flow}{s':Shared}(ok:X.Ok) (h:SP (X.inx a) pins D f s'):SP X pins D f s':=by
 cases f with
 |next=>obtain ⟨σ',H',I,q⟩:=h;exact ⟨σ',H',I.outx ok,q⟩
 |brk=>obtain ⟨σ',H',I,q⟩:=h;exact ⟨σ',H',I.outx ok,q⟩
 |cont=>obtain ⟨σ',H',I,q⟩:=h;exact ⟨σ',H',I.outx ok,q⟩
 |ret u=>obtain ⟨v,σ',H',I,r,q⟩:=h;exact ⟨v,σ',H',I.outx ok,r,q⟩
theorem yG {fr ch:List Addr}{h h':Heap}(p:Xc.Past [] ch h h') (hf:∀ b∈fr,b∉ch):Xc.Past fr ch h h' :=
 ⟨λb o hb nc _=>p.keep b o hb nc (by simp),λb o hb hfr=>⟨o.slots,p.keep b o hb (hf b hfr) (by simp)⟩,p.there⟩
theorem xn {A:Around}{Q:Unit->Shared->Prop}{E:Value->Shared->Prop}{C:Addr}{dct:Option Addr}{lo:Nat}(I:Inv X pins σ H s) (lw:Low X pins lo) (x:Xc.Exc s.heap lo (λb=>H b=none) a (.ref C) dct)
  (k:∀ s',Inv X pins σ H s'->Xc.Exc s'.heap lo (λb=>H b=none) a (.ref C) dct->Q () s'):wpAny (model X.prog X.w) A (setFlight (.ref a) none) Q E s:=by
 refine Xc.flight_it x λh' ch hch p x'=>?_
 have hf:∀ b∈frs X.stack,b∉ch:=λb hb hc=>by
  obtain ⟨_,o',g',nf⟩:=I.stack.mem hb
  obtain ⟨_,_,o,vs,g,d⟩:=hch b hc
  rw [g] at g';cases g'
  exact nf vs d
 exact k _ (I.past lw (λb hb=>⟨(hch b hb).1,(hch b hb).2.1,λz=>hf b z hb,(hch b hb).2.2⟩) (yG p hf)) x'
abbrev TH:=Addr->TS
def PH (X:Cx) (hs:List ExceptHandler) (t:TH):Prop:=∀ (pins:List (Addr×Obj)) (s:Shared) (σ:St) (H:Hp) (a C:Addr) (dct:Option Addr) (lo:Nat) (D:Ends),Inv X pins σ H s->Low X pins lo->Xc.Exc s.heap lo (λb=>H b=none) a (.ref C) dct->t C D σ H ->
 wpAny (model X.prog X.w) X.A (handleBy (.ref a) X.env hs) (SP X pins D) X.xe s
def FX:TH:=λ_ _ _ _=>False
theorem Dv:PH X [] FX:=λ_ _ _ _ _ _ _ _ _ _ _ _ h=>h.elim
def Dw (K:PySem.W.Frag) (B:Addr) (t:TS) (r:TH):TH:=λC D σ H=>∃ b,PySem.W.exmOne K (.ref C) (.ref B)=some b/\if b=true then t D σ H else r C D σ H
theorem AI {x:Str}{B:Addr}{p pos:Pos}{st:Stmt}{suite:List Stmt}{hs:List ExceptHandler}{t:TS}{r:TH}(hg:Gl X x) (hm:X.mg x=some (.ref B)) (h1:∀ a,PSs (X.inx a) (st::suite) t) (h2:PH X hs r) (hdb:(x==("__debug__":Str))=false:=by decide) :
  PH X (.ExceptHandler (some (.Name x p)) none (st::suite) pos::hs) (Dw X.K B t r):=by
 intro pins s σ H a C dct lo D I lw x h
 obtain ⟨b,hb,q⟩:=h
 refine wpAny_handleBy_cons (codeAny_handlers_test (d9 (X:=X.inx a) (I.inx a) hg hm ?_ hdb)) (by intro z;cases z)
 obtain ⟨oe,ge,hc,_⟩:=x.there
 have lt:PySem.W.Looks (model X.prog X.w) s.heap (typeOf (.ref a)) (.ref C):=hc ▸ (PySem.W.Looks.ld ge).andThen .now
 refine (PySem.W.exm_one (M:=model X.prog X.w) I.kIn lt hb).here ?_
 cases b with
 |true =>
  rw [if_pos rfl] at q
  refine codeAny_handlers_suite ?_
  refine xn I lw x λs' I' x'=>?_
  exact wpAny_mono (h1 a pins s' σ H D (I'.inx a) q) (λf s2 z=>z.outx I.ok) λ_ _ z=>z.elim
 |false =>
  rw [if_neg (by decide)] at q
  exact h2 pins s σ H a C dct lo D I lw x q
def Hk (tn:TS) (tr:TR) (th:TH):TS:=λD σ H=>tn D σ H\/tr σ H λC _ σ' H'=>th C D σ' H'
theorem Dx {body:List Stmt}{hd:ExceptHandler}{hs:List ExceptHandler}{tn:TS}{tr:TR}{th:TH}{pos:Pos}(st:X.stack=X.env::X.outer/\X.env.frame=some X.env.locals) (hn:PSs X.nox body tn) (hr:PRs X body tr) (hh:PH X (hd::hs) th) :
  PS X (.Try body (hd::hs) [] [] pos) (Hk tn tr th):=by
 intro pins s σ H D I h
 rcases h with h|h
 ·refine wpAny_Try_except (wpAny_mono (hn pins s σ H D (I.wish _) h) (λf s1 q=>?_) λ_ _ z=>z.elim)
  cases f with
  |next=>exact wpAny_execs_nil q.unwish
  |brk=>exact q.unwish
  |cont=>exact q.unwish
  |ret u=>exact q.unwish
 ·refine wpAny_Try_except (wpAny_mono (hr pins s σ H _ I h) (λf s1 q=>q.elim) λe s1 ⟨a,C,dct,σ',H',lo,ee,J,lw,x,q⟩=>?_)
  subst ee
  have hlo:lo<=s1.heap.objs.size:=Nat.le_of_lt (Nat.lt_of_le_of_lt (by obtain ⟨_,_,_,_,_,_,_,_,l,_⟩:=x;exact l) (by obtain ⟨oe,_,_,ge,_⟩:=x;exact Heap.lt_size ge))
  exact rA J st lw hlo x λs2 J2 _ _ x2=>hh pins s2 σ' H' a C dct lo D J2 lw x2 q
end
end L2
set_option maxRecDepth 100000
namespace PySem
section
variable {prog:Program}{w:World}{A:Around}{E:Value->Shared->Prop}{h:Heap}{g:Array GenState}{d:Drawn}{t:Nat}{os:OsState}
variable {nm q:Str}{C N:Addr}{bs bm bmB:List Value}{hdct:Bool}{sn:List Str}{sub:List Value}{ab:Bool}{col:Option Bool}{dd:Option Addr}{k0 k1 k2 k3 k5:Option Value}{B newId initId:String}
theorem vF (F:ExcBaseFacts B newId initId bmB) (T:OwnTail h bmB bm){mN:Str->Option Value}{rest:List Value}{Q:Fin->Shared->Prop}
  (hC:h.get? C=some (excClassObj nm q C N bs bm hdct sn sub ab col dd k0 k1 k2 k3 k5 newId)) (hn:h.Ns N mN) (hni:mN "__init__"=none)
  (hq:∀ h' e,Heap.MadeExcOf h h' e (.ref C) rest->h.objs.size<=e->Q (.done (.ret (.ref e))) ⟨h',g,d,t,os⟩) (hrest:rest.length<=sizeLine:=by size_fits) :
  wpAny (model prog w) A (Builtin.«type.__call__» ⟨.ref C::rest,[]⟩) Q E ⟨h,g,d,t,os⟩:=by
 repeat (first|with_reducible refine wpAny_loadPart_at hC ?_|with_reducible refine wpAny_madeBy_exc hC ?_|wp_step)
 refine codeAny_call_builtin_code (Code.quiet_builtin _ F.quiet) (wpAny_check_new_subT F T hC ?_)
 refine codeAny_exc_new_subT F T hC ?_ hrest
 show wpAny _ _ _ _ _ _
 have hC₁:=Heap.get?_push_of_some { cls:=.ref C,data:=.fields #[.ref h.objs.size,.none,.none,.none,.bool false,.none] }
  (Heap.get?_push_of_some { cls:=.type "tuple",data:=.seq rest.toArray } hC)
 have hn₁:((h.push { cls:=.type "tuple",data:=.seq rest.toArray }).push { cls:=.ref C,data:=.fields #[.ref h.objs.size,.none,.none,.none,.bool false,.none] }).Ns N mN :=
  let ⟨o,es,ep,e,r⟩:=hn;⟨o,es,ep,Heap.get?_push_of_some _ (Heap.get?_push_of_some _ e),r⟩
 have hget:((h.push { cls:=.type "tuple",data:=.seq rest.toArray }).push
   { cls:=.ref C,data:=.fields #[.ref h.objs.size,.none,.none,.none,.bool false,.none] }).get? (h.objs.size+1)=some
   { cls:=.ref C,data:=.fields #[.ref h.objs.size,.none,.none,.none,.bool false,.none] }:=by heap_get
 have hcC:(Value.ref C::bm).contains (.ref C)=true:=by simp
 have T₁:=T.keeps (h':=(h.push { cls:=.type "tuple",data:=.seq rest.toArray }).push { cls:=.ref C,data:=.fields #[.ref h.objs.size,.none,.none,.none,.bool false,.none] })
  λb o e=>Heap.get?_push_of_some _ (Heap.get?_push_of_some _ e)
 unfold isInstance
 repeat (first|with_reducible refine wpAny_loadPart_at hget ?_|(with_reducible refine wpAny_isSubtype_exc hC₁ ?_;rw [hcC])|wp_step)
 show wpAny _ _ (typeLookup (.ref C) _) _ _ _
 refine wpAny_typeLookup_tail hC₁ hn₁ T₁ F.mroIs F.init.lookup ?_
 rw [hni]
 refine wpAny_holding (wpAny_bind (wpAny_of_eq (F.init.bind _) ?_))
 refine wpAny_bind (wpAny_call (codeAny_call_builtin F.init.plain F.initEntry (wpAny_check_init_subT F T₁ hC₁ hget rfl ?_)))
 wp_walk
 refine hq _ _ ⟨λb o hb=>?_,Heap.get?_none_of_le (Nat.le_succ _),h.objs.size+2,?_,Heap.get?_none_of_le (by omega),?_⟩ (Nat.le_succ _)
 ·rw [Heap.get?_update_other _ _ (Nat.ne_of_gt (Nat.lt_succ_of_lt (Heap.lt_size hb)))]
  exact Heap.get?_push_of_some _ (Heap.get?_push_of_some _ (Heap.get?_push_of_some _ hb))
 ·rw [Heap.get?_update_self _ (Heap.get?_push_of_some _ hget) rfl]
  simp only [Heap.size_push]
  rfl
 ·rw [Heap.get?_update_other _ _ (show h.objs.size+1≠h.objs.size+2 by omega)]
  exact Heap.get?_push_at (by simp only [Heap.size_push]) rfl
theorem xo (F:ExcBaseFacts B newId initId bmB) (T:OwnTail h bmB bm){mN:Str->Option Value}{rest:List Value}{Q:Value->Shared->Prop}
  (hC:h.get? C=some (excClassObj nm q C N bs bm hdct sn sub ab col dd k0 k1 k2 k3 k5 newId)) (hn:h.Ns N mN) (hni:mN "__init__"=none)
  (hq:∀ h' e,Heap.MadeExcOf h h' e (.ref C) rest->h.objs.size<=e->Q (.ref e) ⟨h',g,d,t,os⟩) (hrest:rest.length<=sizeLine:=by size_fits) :
  wpAny (model prog w) A (call (.ref C) rest) Q E ⟨h,g,d,t,os⟩:=by
 have f1:=tc_lookup
 have f2:=tc_bind (.ref C)
 have hT:(⟨h,g,d,t,os⟩:Shared).TypeIs (.ref C) "type":=⟨_,hC,rfl⟩
 refine wpAny_call (codeAny_of_tree ?_)
 show wpAny _ _ (callAny (.ref C) _) _ _ _
 repeat (any_goals (first|assumption|with_reducible refine wpAny_loadPart_at hC ?_|wp_step))
 refine ⟨rfl,?_⟩
 refine codeAny_call_builtin_at (Code.quiet_builtin _ (by decide +kernel)) entry_typeCall (wpAny_check_type_call_sub hC (vF (hrest:=hrest) F T hC hn hni λh' e hm hz=>?_))
 exact hq h' e hm hz
end
end PySem
namespace L2
open PySem PySem.Spec PyProof.Rows
theorem FY {K:PySem.W.Frag}{h:Heap}{N:Addr}{mg:Str->Option Value}{n:Str}{r:Option Value}(X:K.In h) (G:h.Ns N mg) (e:PySem.W.nsIn K N n=some r):mg n=r:=by
 obtain ⟨o,es,ep,ho,hd,_,hf⟩:=G
 unfold PySem.W.nsIn at e
 split at e
 ·rename_i c d es' n' sl q
  have:=X _ _ q
  rw [ho] at this
  cases this
  cases hd
  rw [<- hf]
  unfold nsFind findBy
  rw [<- Array.find?_toList]
  split at e
  ·rename_i y he;cases e;rw [he];rfl
  ·rename_i he
   split at e
   ·cases e
   ·cases e;rw [he];rfl
 ·cases e
theorem qc {K:PySem.W.Frag}{h:Heap}{C:Addr}{r:Option Value}(X:K.In h) (q:bK K C r=true) :
  ∃ bm N nm qn bs hdct sn sub ab col dd k0 k1 k2 k3 k5 mN,h.get? C=some (excClassObj nm qn C N bs bm hdct sn sub ab col dd k0 k1 k2 k3 k5 "ValueError.__new__")/\h.Ns N mN/\mN "__init__"=r/\OwnTail h uL bm:=by
 unfold bK at q
 cases ho:K.lookup C with
 |none=>rw [ho] at q;cases q
 |some o =>
  rw [ho] at q
  obtain ⟨cls,dd,dat,sl⟩:=o
  dsimp only at q
  rw [Bool.and_eq_true,beq_iff_eq] at q
  obtain ⟨rfl,q⟩:=q
  cases dat<;>try (cases q;done)
  rename_i cd
  dsimp only at q
  obtain ⟨nm,bs,mro,ns,qn,hd,sn,sub,ab,col,del⟩:=cd
  cases mro with
  |nil=>cases q
  |cons v bm =>
   simp only [Bool.and_eq_true,beq_iff_eq,Bool.not_eq_true'] at q
   obtain ⟨⟨⟨⟨⟨⟨rfl,h6⟩,h4⟩,hdel⟩,ht⟩,hok⟩,hni⟩:=q
   subst hdel
   obtain ⟨l⟩:=sl
   have h6:l.length=6:=h6
   have h4:l[4]?=some (some (.builtin "ValueError.__new__")):=h4
   obtain ⟨k0,k1,k2,k3,k4,k5,rfl⟩:∃ a b c d e f,l=[a,b,c,d,e,f]:=⟨l[0],l[1],l[2],l[3],l[4],l[5],List.ext_getElem h6 λi h1 h2=>by
    rcases i with _|_|_|_|_|_|i
    ·rfl
    ·rfl
    ·rfl
    ·rfl
    ·rfl
    ·rfl
    ·exact absurd h2 (by simp only [List.length_cons,List.length_nil];omega)⟩
   obtain rfl:k4=some (.builtin "ValueError.__new__"):=Option.some.inj h4
   have N:=Heap.Ns.of_isNs (PySem.W.isNs_of_in X hok)
   exact ⟨bm,ns,nm,qn,bs,hd,sn,sub,ab,col,dd,k0,k1,k2,k3,k5,_,X _ _ ho,N,FY X N hni,PySem.W.tail_of_in X ht⟩
theorem xp {K:PySem.W.Frag}{h h2:Heap}{C:Addr}{r:Option Value}(X:K.In h) (X2:K.In h2) (q:bK K C r=true):h.get? C=h2.get? C:=by
 unfold bK at q
 cases ho:K.lookup C with
 |none=>rw [ho] at q;cases q
 |some o=>rw [X _ _ ho,X2 _ _ ho]
section
variable {X:Cx}{C:Addr}{x:Str}{p pos pos2:Pos}{e:Expr}{es:List Expr}{t:TA}
def Dy (C:Addr) (t:TA):TR:=λσ H R=>t σ H λvs H1=>vs.length<=2/\R C none σ H1
theorem yH (hx:bK X.K C none=true) (hk:PySem.W.keepIn X.K (.ref C)=true) (hc:X.calm=true) (hg:Gl X x) (hm:X.mg x=some (.ref C)) (ha:PA X.nox (e::es) t) (hdb:(x==("__debug__":Str))=false:=by decide)
  (he:starEach (e::es) X.env=(false,eval e X.env)::starEach es X.env:=by rfl) (hpl:(backTo pos (starEach es X.env)).any (·.1)=false:=by rfl):PR X (.Raise (some (.Call (.Name x p) (e::es) [] pos)) none pos2) (Dy C t):=by
 intro pins s σ H R I h
 obtain ⟨bm,N,nm,q,bs,hd,sn,sub,ab,col,dd,k0,k1,k2,k3,k5,mN,hC,hN,hi,T⟩:=qc I.kIn hx
 have hbase:bm.contains (.type "BaseException")=true:=T.hasType (by decide)
 rw [arm_exec_Raise]
 have go:wpAny (model X.prog X.w) X.A (eval (.Call (.Name x p) (e::es) [] pos) X.env) (λv s1=>∃ en t0,v=.ref en/\s1.heap.get? C=some (excClassObj nm q C N bs bm hd sn sub ab col dd k0 k1 k2 k3 k5 "ValueError.__new__") /\
   s1.heap.get? en=some { cls:=.ref C,data:=.fields #[.ref t0,.none,.none,.none,.bool false,.none] }/\XP X pins R (.ref en) s1) (XP X pins R) s:=by
  refine wpAny_Call_Name_kw (d9 I hg hm ?_ hdb)
  refine PySem.W.callWith_K (h₀:=X.base) I.ok.mod.kin hk (fh (ha pos pins s σ H _ (I.wish _) h) λus s1 ⟨vs,H1,I1,r,hl,q1⟩=>⟨I1.unwish.kIn,?_⟩) he hpl
  have J:=I1.unwish
  obtain ⟨bm',N',nm',q',bs',hd',sn',sub',ab',col',dd',k0',k1',k2',k3',k5',mN',hC',hN',hi',T'⟩:=qc J.kIn hx
  have same:s1.heap.get? C=some (excClassObj nm q C N bs bm hd sn sub ab col dd k0 k1 k2 k3 k5 "ValueError.__new__"):=by
   have z:=xp I.kIn J.kIn hx
   rw [<- z];exact hC
  obtain ⟨hp,g,d,tk,os⟩:=s1
  refine xo PySem.F.excBase_ValueError T' hC' hN' hi' (λh' en m hz=>?_) (by have:=r.length;rw [sizeLine_eq,List.nil_append];omega)
  obtain ⟨t0,g1,g2,g3⟩:=m.there
  refine ⟨en,t0,rfl,m.keeps _ _ same,g1,?_⟩
  refine ⟨en,C,none,σ,H1,hp.objs.size,rfl,J.kept (t':=tk) m.keeps,J.low,⟨_,_,.none,g1,rfl,rfl,rfl,⟨rfl,rfl⟩,hz,J.hok.fresh hz,.inl rfl⟩,q1⟩
 exact wpAny_bind (wpAny_standAt (wpAny_raiseStmt_made_sub (C:=C) (nm:=nm) (q:=q) (N:=N) (bs:=bs) (bm:=bm) (hdct:=hd) (sn:=sn) (sub:=sub) (ab:=ab) (col:=col) (dd:=dd) (k0:=k0) (k1:=k1) (k2:=k2) (k3:=k3) (k5:=k5) (newId:="ValueError.__new__") hbase (I.ok.hd hc)
  (wpAny_bind (wpAny_mono go (λv s3 h3=>wpAny_bind (wpAny_standAt (wpAny_pure h3))) λ_ _ z=>z))))
end
end L2
namespace T2
open PySem PySem.Spec PyProof.Rows L2
abbrev WX:=Addr->StT->Sto->Prop
abbrev WR:=StT->Sto->WX->Prop
def lR (K:Fg) (w:WR):TR:=λσ H R=>∃ S σt Rt,SRp K H S/\Cov K H S σ σt/\w σt S Rt/\∀ C σ' H' σt' S',Fr H S H' S'->SRp K H' S'->Cov K H' S' σ' σt'->Rt C σt' S'->R C none σ' H'
def QR (K:Fg) (X:Cx) (st:Stmt) (w:WR):Prop:=PR X st (lR K w)
def QRs (K:Fg) (X:Cx) (st:List Stmt) (w:WR):Prop:=PRs X st (lR K w)
def QRE (K:Fg) (X:Cx) (e:Expr) (w:WR):Prop:=PRE X e (lR K w)
def QRA (K:Fg) (X:Cx) (es:List Expr) (w:WR):Prop:=PRA X es (lR K w)
theorem PR.of {X:Cx}{e:Stmt}{t t':TR}(h:PR X e t) (i:∀ σ H Q,t' σ H Q->t σ H Q):PR X e t':=λpins s σ H Q I q=>h pins s σ H Q I (i σ H Q q)
theorem PRs.of {X:Cx}{e:List Stmt}{t t':TR}(h:PRs X e t) (i:∀ σ H Q,t' σ H Q->t σ H Q):PRs X e t':=λpins s σ H Q I q=>h pins s σ H Q I (i σ H Q q)
theorem PRE.of {X:Cx}{e:Expr}{t t':TR}(h:PRE X e t) (i:∀ σ H Q,t' σ H Q->t σ H Q):PRE X e t':=λpins s σ H Q I q=>h pins s σ H Q I (i σ H Q q)
abbrev bu:=List T->Sto->(Addr->Sto->Prop)->Prop
def aP (K:Fg) (w:bu):Sp:=λvs H _ E=>∃ S ts Rt,SRp K H S/\Rps K H S ts vs/\w ts S Rt/\∀ C H' S',Fr H S H' S'->SRp K H' S'->Rt C S'->E (.ref C) none H'
section
variable {K:Fg}{X:Cx}{st:Stmt}{rest:List Stmt}{w u:WS}{r r2:WR}{e:Expr}{es:List Expr}{we:WE}{pos:Pos}{t:WT}
theorem aH (h:QR K X st r):QRs K X (st::rest) r:=yA h
def sS (w:WS) (r:WR):WR:=λσ S R=>w { nx:=λσ' S'=>r σ' S' R,rt:=λ_ _=>False } σ S
theorem bw (h1:QS K X.nox st w) (h2:QRs K X rest r):QRs K X (st::rest) (sS w r):=PRs.of (yB h1 h2) λσ H R ⟨S,σt,Rt,s,c,q,hr⟩ =>
 ⟨S,σt,_,s,c,q,⟨λσ' H' σt' S' f s' c' q'=>⟨S',σt',Rt,s',c',q',λC σ2 H2 σt2 S2 f2=>hr C σ2 H2 σt2 S2 (f.trans f2)⟩,λ_ _ _ _ _ _ _ q'=>q'.elim,λ_ _ _ _ _ _ _ q'=>q'.elim,λ_ _ _ _ _ _ _ q'=>q'.elim⟩⟩
def vx (t:WT) (r r2:WR):WR:=λσ S R=>t σ S λb S1=>if b=true then r σ S1 R else r2 σ S1 R
theorem bg {c:Expr}{a b:List Stmt}(hc:QT K X.nox c t) (ha:QRs K X a r) (hb:QRs K X b r2):QR K X (.If c a b pos) (vx t r r2):=PR.of (FV hc ha hb) λσ H R zz109=>by
 obtain ⟨S,σt,Rt,s,c,q,hr⟩:=zz109
 refine ⟨S,σt,_,s,c,q,λk H1 S1 f1 s1 q1=>?_⟩
 cases k with
 |true=>exact ⟨S1,σt,Rt,s1,c.fr f1,q1,λC σ2 H2 σt2 S2 f2=>hr C σ2 H2 σt2 S2 (f1.trans f2)⟩
 |false=>exact ⟨S1,σt,Rt,s1,c.fr f1,q1,λC σ2 H2 σt2 S2 f2=>hr C σ2 H2 σt2 S2 (f1.trans f2)⟩
def AJ:WR:=λ_ _ _=>False
theorem bh {sts:List Stmt}:QRs K X sts AJ:=λ_ _ _ _ _ _ zz110=>by obtain ⟨_,_,_,_,_,q,_⟩:=zz110;exact q.elim
theorem h8 (h:QRE K X e r) (hs:swapsWith e none pos.line X.env=pure false:=by rfl):QR K X (.Expr e pos) r:=AH h hs
theorem cy (h:QRE K X e r):QR K X (.Return (some e) pos) r:=Ds h
theorem Dz {x:Str}{pos':Pos}(h:QRE K X e r) (hs:swapsWith e (some (.Name x pos')) pos.line X.env=pure false:=by rfl):QR K X (.Assign [.Name x pos'] e pos) r:=Du h hs
theorem yI (h:QRE K X e r) (hs:starEach (e::es) X.env=(false,eval e X.env)::starEach es X.env:=by rfl):QRA K X (e::es) r:=yC h hs
end
section
variable {K:Fg}{X:Cx}{k:Nat}{f C:Addr}{fd:FuncData}{ps:List Str}{wsp:bu}{x m:Str}{p pos pos2 apos:Pos}{e o:Expr}{es:List Expr}{wa:WE}{wr:WA}{r:WR}{G:Addr->Prop}
def sT (wsp:bu) (wr:WA):WR:=λσ S R=>wr σ S λts S1=>wsp (ts++[]) S1 λC S'=>R C σ S'
theorem AK (F:FnOk X.prog X.w X.K X.mg X.base (CX1 X.prog X.w) k f fd ps (aP K wsp)) (D:Df X.K X.mg x f fd ps) (hr:Room k X.A) (hg:Gl X x) (ha:QA K X.nox (e::es) wr)
  (hdb:(x==("__debug__":Str))=false:=by decide) (he:starEach (e::es) X.env=(false,eval e X.env)::starEach es X.env:=by rfl) (hpl:(backTo pos (starEach es X.env)).any (·.1)=false:=by rfl) :
  QRE K X (.Call (.Name x p) (e::es) [] pos) (sT wsp wr):=PRE.of (yD (dvs:=[]) F hr hg D.hm D.kp D.b .nil ha hdb he hpl) λσ H R zz111=>by
 obtain ⟨S,σt,Rt,s,c,q,hq⟩:=zz111
 refine ⟨S,σt,_,s,c,q,λvs H1 ts S1 f1 s1 r1 q1=>?_⟩
 exact ⟨S1,_,_,s1,r1.append .nil,q1,λC H' S' f s' q'=>⟨C,rfl,hq C σ H' σt S' (f1.trans f) s' (c.fr (f1.trans f)) q'⟩⟩
theorem yJ (D:Df X.K X.mg x f fd ps) (hg:Gl X x) (ha:QRA K X (e::es) r) (hdb:(x==("__debug__":Str))=false:=by decide) (he:starEach (e::es) X.env=(false,eval e X.env)::starEach es X.env:=by rfl) (hpl:(backTo pos (starEach es X.env)).any (·.1)=false:=by rfl) :
  QRE K X (.Call (.Name x p) (e::es) [] pos) r:=xk (g:=.none) hg D.hm D.kp ha hdb he hpl
def jJ (G:Addr->Prop) (m:Str) (wsp:bu) (wa:WE) (wr:WA):WR:=λσ S R=>wa σ S λx S1=>∃ a C fs,x=.ref a/\S1 a=some (.ins C fs)/\G C/\fs.lookup m=none/\wr σ S1 λts S2=>wsp (x::(ts++[])) S2 λC S'=>R C σ S'
theorem xq {σ H R}(h:lR K (jJ G m wsp wa wr) σ H R):nB G m (aP K wsp) [] (lE K wa) (lA K wr) σ H R:=by
 obtain ⟨S,σt,Rt,s,c,q,hq⟩:=h
 refine ⟨S,σt,_,s,c,q,λx H1 tx S1 f1 s1 r1 q1=>?_⟩
 obtain ⟨a,C,fs,rfl,ea,g,l,q1⟩:=q1
 cases r1
 cases s1 a _ ea with
 |ins eh pr =>
  refine ⟨a,C,_,_,rfl,eh,g,cU pr l,S1,σt,_,s1,c.fr f1,q1,λvs H2 ts S2 f2 s2 r2 q2=>?_⟩
  exact ⟨S2,_,_,s2,.cons .ref (r2.append .nil),q2,λC H' S' f s' q'=>⟨C,rfl,hq C σ H' σt S' ((f1.trans f2).trans f) s' (c.fr ((f1.trans f2).trans f)) q'⟩⟩
theorem bG {pl:Sem Bool}(hG:∀ C,G C->Cls X.K C/\Meth X.K C m f) (F:FnOk X.prog X.w X.K X.mg X.base (CX1 X.prog X.w) k f fd ps (aP K wsp)) (hb:aj X.K fd ps []) (hr:Room k X.A) (ho:QE K X.nox o wa) (ha:QA K X.nox (e::es) wr)
  (hst:starEach (e::es) X.env=(false,eval e X.env)::starEach es X.env:=by rfl) (hpl:(backTo pos (starEach es X.env)).any (·.1)=false:=by rfl)
  (ht:eval (.Call (.Attribute o m apos) (e::es) [] pos) X.env=(do
   let ov <- eval o X.env
   standAt apos.atName
   let (f,first) <- holding [ov] (getMethod ov m pl)
   callWith pos f first (backTo pos (starEach (e::es) X.env)) (backToKw pos (keywordEach [] X.env))):=by rfl) :
  QRE K X (.Call (.Attribute o m apos) (e::es) [] pos) (jJ G m wsp wa wr):=PRE.of (yE (pl:=pl) (dvs:=[]) ho hG F hr hb .nil ha hst hpl ht) λ_ _ _ h=>xq h
theorem yK {pl:Sem Bool}(hG:∀ C,G C->Cls X.K C/\Meth X.K C m f) (F:FnOk X.prog X.w X.K X.mg X.base (CX1 X.prog X.w) k f fd ps (aP K wsp)) (hb:aj X.K fd ps []) (hr:Room k X.A) (ho:QE K X.nox o wa)
  (ht:eval (.Call (.Attribute o m apos) [] [] pos) X.env=(do
   let ov <- eval o X.env
   standAt apos.atName
   let (f,first) <- holding [ov] (getMethod ov m pl)
   callWith pos f first (backTo pos (starEach [] X.env)) (backToKw pos (keywordEach [] X.env))):=by rfl) :
  QRE K X (.Call (.Attribute o m apos) [] [] pos) (jJ G m wsp wa eK):=PRE.of (xm (pl:=pl) (dvs:=[]) ho hG F hr hb .nil ht) λσ H R h=>by
 obtain ⟨S,σt,Rt,s,c,q,hq⟩:=h
 refine ⟨S,σt,_,s,c,q,λx H1 tx S1 f1 s1 r1 q1=>?_⟩
 obtain ⟨a,C,fs,rfl,ea,g,l,q1⟩:=q1
 cases r1
 cases s1 a _ ea with
 |ins eh pr =>
  exact ⟨a,C,_,_,rfl,eh,g,cU pr l,S1,_,_,s1,.cons .ref .nil,q1,λC H' S' f s' q'=>⟨C,rfl,hq C σ H' σt S' (f1.trans f) s' (c.fr (f1.trans f)) q'⟩⟩
def rB (C:Addr) (wr:WA):WR:=λσ S R=>wr σ S λts S1=>ts.length<=2/\R C σ S1
theorem cw (hx:bK X.K C none=true) (hk:PySem.W.keepIn X.K (.ref C)=true) (hc:X.calm=true) (hg:Gl X x) (hm:X.mg x=some (.ref C)) (ha:QA K X.nox (e::es) wr) (hdb:(x==("__debug__":Str))=false:=by decide)
  (he:starEach (e::es) X.env=(false,eval e X.env)::starEach es X.env:=by rfl) (hpl:(backTo pos (starEach es X.env)).any (·.1)=false:=by rfl):QR K X (.Raise (some (.Call (.Name x p) (e::es) [] pos)) none pos2) (rB C wr) :=
 PR.of (yH hx hk hc hg hm ha hdb he hpl) λσ H R ⟨S,σt,Rt,s,c,q,hq⟩ =>
  ⟨S,σt,_,s,c,q,λvs H1 ts S1 f1 s1 r1 zz112=>by obtain ⟨hl,q1⟩:=zz112;exact ⟨by rw [r1.length];exact hl,hq C σ H1 σt S1 f1 s1 (c.fr f1) q1⟩⟩
end
def nR (R:Addr->Sto->Prop):WX:=λC _ S=>∃ S0,Le S0 S/\R C S0
theorem nR.mk {R:Addr->Sto->Prop}{C:Addr}{σ:StT}{S:Sto}(h:R C S):nR R C σ S:=⟨S,.refl,h⟩
theorem cf {P:Program}{w:World}{K:Fg}{mg:Str->Option Value}{base:Heap}{x qual:Str}{st:Stmt}{f:Addr}{fd:FuncData}{N ps:List Str}{k:Nat}{wsp:bu}(F:FunD K x qual st f fd) (Sc:FnScope N ps (ag st)) (len:∀ ts S Q,wsp ts S Q->ts.length=ps.length)
  (hbody:∀ (cdv:Value) (A:Around) (outer:List Env) (s:Shared) (H:Hp) (E:XK),Room k (A.deeper (envOfC qual (ag st) s.heap.objs.size f cdv)) ->
   ∃ u,QRs K (cA CX0 P w K mg base N qual (ag st) f cdv A outer s H E) (am st) u/\∀ ts S R,wsp ts S R->u (bI N ts) S (nR R)):FnOk P w K mg base (CX1 P w) (k+1) f fd ps (aP K wsp):=by
 obtain ⟨oc,od,dV,kV,doc,pm,an,cdv,ct,osl,rfl,lk,hcd⟩:=F.ex
 refine yF lk hcd Sc (λvs H Q E ⟨S,ts,Qt,s,r,q,_⟩=>by rw [r.length];exact len _ _ _ q) λA outer s H vs E Q hr ⟨S,ts,Rt,sr,r,q,b⟩=>?_
 obtain ⟨u,hu,hq⟩:=hbody cdv A outer s H E hr
 refine ⟨_,hu,S,bI N ts,_,sr,kL r,hq ts S Rt q,λC σ' H' σt' S' f s' _ zz113=>?_⟩
 obtain ⟨S0,l,q0⟩:=zz113
 exact b C H' S0 (f.trans (Fr.le l)) (s'.le l) q0
section
variable {K:Fg}{X:Cx}{pos p:Pos}{x:Str}{B:Addr}
abbrev WH:=Addr->WS
def lH (K:Fg) (w:WH):TH:=λC D σ H=>∃ S σt Dt,SRp K H S/\Cov K H S σ σt/\w C Dt σt S/\EndsOk K H S Dt D
def QH (K:Fg) (X:Cx) (hs:List ExceptHandler) (w:WH):Prop:=PH X hs (lH K w)
theorem PH.of {hs:List ExceptHandler}{t t':TH}(h:PH X hs t) (i:∀ C D σ H,t' C D σ H->t C D σ H):PH X hs t':=λpins s σ H a C dct lo D I lw x q=>h pins s σ H a C dct lo D I lw x (i C D σ H q)
def FZ:WH:=λ_ _ _ _=>False
theorem DA:QH K X [] FZ:=PH.of Dv λ_ _ _ _ zz114=>by obtain ⟨_,_,_,_,_,q,_⟩:=zz114;exact q
def mH (K:Fg) (B:Addr) (w:WS) (r:WH):WH:=λC D σ S=>∃ b,PySem.W.exmOne K (.ref C) (.ref B)=some b/\if b=true then w D σ S else r C D σ S
theorem h9 {st:Stmt}{suite:List Stmt}{hs:List ExceptHandler}{w:WS}{r:WH}(hK:X.K=K) (hg:Gl X x) (hm:X.mg x=some (.ref B)) (h1:∀ a,QSs K (X.inx a) (st::suite) w) (h2:QH K X hs r) (hdb:(x==("__debug__":Str))=false:=by decide) :
  QH K X (.ExceptHandler (some (.Name x p)) none (st::suite) pos::hs) (mH K B w r):=by
 subst hK
 refine PH.of (AI hg hm h1 h2 hdb) λC D σ H zz115=>?_
 obtain ⟨S,σt,Dt,s,c,⟨b,hb,q⟩,he⟩:=zz115
 refine ⟨b,hb,?_⟩
 cases b with
 |true=>exact ⟨S,σt,Dt,s,c,q,he⟩
 |false=>exact ⟨S,σt,Dt,s,c,q,he⟩
def nS (wn:WS) (wr:WR) (wh:WH):WS:=λD σ S=>wn D σ S\/wr σ S λC σ' S'=>wh C D σ' S'
theorem F0 {body:List Stmt}{hd:ExceptHandler}{hs:List ExceptHandler}{wn:WS}{wr:WR}{wh:WH}(st:X.stack=X.env::X.outer/\X.env.frame=some X.env.locals) (hn:QSs K X.nox body wn) (hr:QRs K X body wr) (hh:QH K X (hd::hs) wh) :
  QS K X (.Try body (hd::hs) [] [] pos) (nS wn wr wh):=PS.of (Dx st hn hr hh) λD σ H zz116=>by
 obtain ⟨S,σt,Dt,s,c,q,he⟩:=zz116
 rcases q with q|q
 ·exact .inl ⟨S,σt,Dt,s,c,q,he⟩
 ·exact .inr ⟨S,σt,_,s,c,q,λC σ' H' σt' S' f s' c' q'=>⟨S',σt',Dt,s',c',q',he.fr f⟩⟩
end
section
variable {K:Fg}{σ:StT}{S:Sto}{R:WX}{D:EndsT}{w:WS}{r r2:WR}{t:WT}{we wa:WE}{wr:WA}{wsp:bu}{C B:Addr}{G:Addr->Prop}{m:Str}{wh:WH}
theorem iB (h:w { nx:=λσ' S'=>r σ' S' R,rt:=λ_ _=>False } σ S):sS w r σ S R:=h
theorem iY (h:t σ S λb S1=>if b=true then r σ S1 R else r2 σ S1 R):vx t r r2 σ S R:=h
theorem DB (h:wr σ S λts S1=>wsp (ts++[]) S1 λC S'=>R C σ S'):sT wsp wr σ S R:=h
theorem DC (h:wa σ S λx S1=>∃ a C fs,x=.ref a/\S1 a=some (.ins C fs)/\G C/\fs.lookup m=none/\wr σ S1 λts S2=>wsp (x::(ts++[])) S2 λC S'=>R C σ S'):jJ G m wsp wa wr σ S R:=h
theorem AL (h:wr σ S λts S1=>ts.length<=2/\R C σ S1):rB C wr σ S R:=h
theorem DD (h:w D σ S):nS w r wh D σ S:=.inl h
theorem DE (h:r σ S λC σ' S'=>wh C D σ' S'):nS w r wh D σ S:=.inr h
theorem iL {w:WS}{r:WH}(e:PySem.W.exmOne K (.ref C) (.ref B)=some true) (h:w D σ S):mH K B w r C D σ S:=⟨true,e,h⟩
theorem cX {w:WS}{r:WH}(e:PySem.W.exmOne K (.ref C) (.ref B)=some false) (h:r C D σ S):mH K B w r C D σ S:=⟨false,e,h⟩
end
end T2
namespace L2
open PySem PySem.Spec PyProof.Rows
section
variable {X:Cx}
def F6:V->V->Hp->VK->Prop:=λx y H Q=>∃ i j,x=.str i/\y=.str j/\i.length+j.length<=sizeLine/\Q (.str (i++j)) H
theorem AM:nI X .Add F6:=λpins s σ H x y u v Q I rx ry h=>vR pins s σ H x y u v Q I rx ry h
variable {pos p2 p3:Pos}{value:Expr}{tv:TE}{s2:Str}{k3:Nat}
def tFr (tv:TE):TE:=λσ H Q=>tv σ H λx H1=>∃ z:Str,x=.str z/\z.length<=1000/\PyData.strOk z=true/\∀ y,Q (.str y) H1
theorem F7 (hv:PE X value tv) (h2:s2.length<=1000):PE X (.JoinedStr [.FormattedValue value 114 none p2,.Constant (.str s2) k3 p3] pos) (tFr tv):=by
 intro pins s σ H Q I h
 refine JoinedStr_many (joinParts_cons ?_)
 show wpAny (model X.prog X.w) X.A (do let v <- eval value X.env;standAt p2;formatted p2 (<- holding [v] (converted 114 v)) none) _ _ s
 refine wpAny_bind (thn (hv pins s σ H _ I h) λu sa zz117=>?_)
 obtain ⟨x,H1,I1,rx,z,ex,hz,hok,q⟩:=zz117
 subst ex
 obtain ⟨t1,rfl⟩:=(show ∃ t,u=Value.str z t from rx)
 have hr:(reprText z).length<=10002:=by
  have:=StrLaws.reprText_len z λc hc=>by
   unfold PyData.strOk at hok
   rw [Array.all_eq_true_iff_forall_mem] at hok
   have:=of_decide_eq_true (hok c (by simpa using hc))
   omega
  omega
 refine wpAny_bind (wpAny_standAt (wpAny_bind (wpAny_holding ?_)))
 show wpAny _ _ (pyReprObj (.str z t1)) _ _ _
 refine wpAny_pyReprObj_str (formatField_str (λt' tk=>?_) (by rw [sizeLine_eq];omega)) (by rw [sizeLine_eq];omega)
 have l0:(Str.empty++reprText z).length<=10002:=by rw [PySem.Str.length_append];exact (by simpa [Str.empty,PySem.Str.length] using hr)
 refine ⟨by rw [sizeLine_eq];omega,?_⟩
 refine joinParts_cons (thn (md pins _ σ H1 (λv H2=>v=.str s2/\H2=H1) (I1.tok _) ⟨rfl,rfl⟩) λu3 sc zz118=>?_)
 obtain ⟨v,H3,I3,ru3,ev,eH⟩:=zz118
 subst ev eH
 obtain ⟨t3,rfl⟩:=(show ∃ t,u3=Value.str s2 t from ru3)
 have lz:(Str.empty++reprText z++s2).length<=sizeLine:=by rw [PySem.Str.length_append,sizeLine_eq];omega
 exact ⟨lz,joinParts_nil (show EP X pins σ Q _ _ from ⟨.str (Str.empty++reprText z++s2),_,I3.tok _,⟨_,rfl⟩,q _⟩) lz⟩
end
end L2
namespace T2
open PySem PySem.Spec PyProof.Rows L2
section
variable {K:Fg}{X:Cx}{pos p2 p3:Pos}{value o:Expr}{wv wa:WE}{s2:Str}{k3:Nat}{G:Addr->Prop}
def wFr (wv:WE):WE:=λσ S Q=>wv σ S λx S1=>∃ z:Str,x=.str z/\z.length<=1000/\PyData.strOk z=true/\∀ y,Q (.str y) S1
theorem eP (hv:QE K X value wv) (h2:s2.length<=1000:=by decide):QE K X (.JoinedStr [.FormattedValue value 114 none p2,.Constant (.str s2) k3 p3] pos) (wFr wv) :=
 PE.of (F7 hv h2) λσ H Q zz119=>by
  obtain ⟨S,σt,Qt,s,c,q,hq⟩:=zz119
  refine ⟨S,σt,_,s,c,q,λx H1 tx S1 f1 s1 r1 q1=>?_⟩
  obtain ⟨z,rfl,hz,hok,q1⟩:=q1
  cases r1
  exact ⟨z,rfl,hz,hok,λy=>hq _ H1 _ S1 f1 s1 .str (q1 y)⟩
theorem Hl {σ:StT}{S:Sto}{Q:T->Sto->Prop}(h:wv σ S λx S1=>∃ z:Str,x=.str z/\z.length<=1000/\PyData.strOk z=true/\∀ y,Q (.str y) S1):wFr wv σ S Q:=h
def qd (G:Addr->Prop) (wa wv:WE) (f:Str):WS:=λD σ S=>wa σ S λx S1=>∃ a C fs i,x=.ref a/\S1 a=some (.ins C fs)/\G C/\fs.lookup f=some (.str i) /\
 wv σ S1 λy S2=>∃ j fs',y=.str j/\i.length+j.length<=sizeLine/\S2 a=some (.ins C fs')/\fs'.length<1000/\D.nx σ (put S2 a (.ins C (bZ f (.str (i++j)) fs')))
theorem wq {f:Str}{tpos:Pos}(hK:X.K=K) (hG:∀ C,G C->Cls K C/\aN K C f) (ha:QE K X o wa) (hv:QE K X value wv):QS K X (.AugAssign (.Attribute o f tpos) .Add value pos) (qd G wa wv f):=by
 subst hK
 refine PS.of (pO ha hv AM) λD σ H zz120=>?_
 obtain ⟨S,σt,Dt,s,c,q,he⟩:=zz120
 refine ⟨S,σt,_,s,c,q,λx H1 tx S1 f1 s1 r1 q1=>?_⟩
 obtain ⟨a,C,fs,i,rfl,ea,g,l,q1⟩:=q1
 cases r1
 cases s1 a _ ea with
 |ins eh pr =>
  obtain ⟨u,lu,ru⟩:=kM pr l
  cases ru
  refine ⟨a,C,_,_,_,rfl,eh,(hG C g).1,(hG C g).2,lu,S1,σt,_,s1,c.fr f1,q1,λy H2 ty S2 f2 s2 r2 q2=>?_⟩
  obtain ⟨j,fs',rfl,hz,ea2,l2,q2⟩:=q2
  cases r2
  cases s2 a _ ea2 with
  |ins eh2 pr2 =>
   obtain ⟨fw,sw⟩:=kN (f:=f) (t:=.str (i++j)) (v:=.str (i++j)) s2 ea2 eh2 pr2 .str
   exact ⟨i,j,rfl,rfl,hz,_,_,eh2,by rw [Paired.len pr2];exact l2,he.nx _ _ σt _ ((f1.trans f2).trans fw) sw (c.fr ((f1.trans f2).trans fw)) q2⟩
theorem yL {σ:StT}{S:Sto}{D:EndsT}{f:Str}(h:wa σ S λx S1=>∃ a C fs i,x=.ref a/\S1 a=some (.ins C fs)/\G C/\fs.lookup f=some (.str i) /\
 wv σ S1 λy S2=>∃ j fs',y=.str j/\i.length+j.length<=sizeLine/\S2 a=some (.ins C fs')/\fs'.length<1000/\D.nx σ (put S2 a (.ins C (bZ f (.str (i++j)) fs')))):qd G wa wv f D σ S:=h
end
end T2
namespace L2
open PySem PySem.Spec PyProof.Rows
theorem qD:∀ {xs:List V}{us:List Value},xs.length=us.length->(∀ (i:Nat) x u,xs[i]?=some x->us[i]?=some u->av x u)->ap xs us
 |[],[],_,_=>.nil
 |[],u::us,h,_=>by cases h
 |x::xs,[],h,_=>by cases h
 |x::xs,u::us,h,k=>.cons (k 0 x u rfl rfl) (qD (by simpa using h) λi y v e1 e2=>k (i+1) y v (by simpa using e1) (by simpa using e2))
def fi (z:Str):List V:=z.cps.toList.map λc=>V.str ⟨#[c]⟩
theorem vO {X:Cx}(hc:X.calm=true):bz X (.type "list") (λxs H Q=>∃ z:Str,xs=[.str z]/\z.length<=sizeLine/\∀ l,H l=none->Q (.ref l) (upd H l (.lst (fi z)))):=by
 intro pins s σ H xs us Q I r h
 obtain ⟨z,rfl,hz,q⟩:=h
 obtain ⟨u,rfl,rx⟩:=cg r
 obtain ⟨t,rfl⟩:=(show ∃ t,u=Value.str z t from rx)
 refine call_list_str (I.ok.hd hc) z t (λh' tk acc' c' kp e hacc=>?_) hz
 have hl:acc'.size=z.cps.size:=hacc.1
 refine ⟨.ref s.heap.objs.size,_,I.laid (t':=tk) kp (Nat.le_refl _) (show aT X.prog X.w _ h' _ (.lst (fi z)) from ⟨by unfold fi;rw [List.length_map];exact (by simpa [Str.length] using hz),acc'.toList,c',qD (by unfold fi;rw [List.length_map];simp [hl]) λi x v e1 e2=>?_,by simpa using e⟩),rfl,q _ (I.hok.fresh (Nat.le_refl _))⟩
 obtain ⟨c,u,hcc,rfl⟩:=hacc.2 i v (by simpa using e2)
 unfold fi at e1
 rw [List.getElem?_map] at e1
 have:z.cps.toList[i]?=some c:=by simpa using hcc
 rw [this] at e1
 cases e1
 exact ⟨u,rfl⟩
end L2
namespace T2
open PySem PySem.Spec PyProof.Rows L2
section
variable {K:Fg}{X:Cx}
def sU (tr:Bool):GC:=λts S Q=>∃ z:Str,ts=[.str z]/\z.length<=sizeLine/\a9 tr (cx z) S Q
theorem yM {H:Hp}{S:Sto}(z:Str):Rps K H S (cx z) (fi z):=by
 unfold cx fi
 induction z.cps.toList with
 |nil=>exact .nil
 |cons c l ih=>exact .cons .str ih
theorem AN (tr:Bool) (hK:X.K=K) (hc:X.calm=true):bz X (.type "list") (lC K (sU tr)):=by
 subst hK
 rintro pins s σ H xs us Q I r ⟨S,ts,Qt,sr,rs,⟨z,rfl,hz,n⟩,b⟩
 cases rs with
 |cons h rn =>
  cases rn
  cases h
  exact vO hc pins s σ H _ us Q I r ⟨z,rfl,hz,fe sr (yM z) n b⟩
theorem AO {tr:Bool}{S:Sto}{Q:T->Sto->Prop}{z:Str}(hz:z.length<=sizeLine) (h:a9 tr (cx z) S Q):sU tr [.str z] S Q:=⟨z,rfl,hz,h⟩
end
section
variable {K:Fg}{X:Cx}{sts:List Stmt}{r1 r2:WR}
def nU (r1 r2:WR):WR:=λσ S R=>r1 σ S R\/r2 σ S R
theorem bS (h1:QRs K X sts r1) (h2:QRs K X sts r2):QRs K X sts (nU r1 r2):=λpins s σ H Q I zz121=>by
 obtain ⟨S,σt,Rt,sr,c,q,hr⟩:=zz121
 rcases q with q|q
 ·exact h1 pins s σ H Q I ⟨S,σt,Rt,sr,c,q,hr⟩
 ·exact h2 pins s σ H Q I ⟨S,σt,Rt,sr,c,q,hr⟩
theorem bW {σ:StT}{S:Sto}{R:WX}(h:r1 σ S R):nU r1 r2 σ S R:=.inl h
theorem bX {σ:StT}{S:Sto}{R:WX}(h:r2 σ S R):nU r1 r2 σ S R:=.inr h
end
end T2
namespace L2
open PySem PySem.Spec PyProof.Rows
section
variable {X:Cx}
theorem wu {A:Around}{pins:List (Addr×Obj)}{s:Shared}{σ:St}{H:Hp}{E:Value->Shared->Prop}{Q:Value->Shared->Prop}{x:V}{u t:Value}{tp:Addr}{its:List Value}{b:Bool}(I:Inv X pins σ H s) (rx:av x u) (ty:TyOf X.K H x t)
  (ht:s.heap.IsTuple tp its.toArray) (e:PySem.W.kitAny X.K t its=some b) (h:∀ tk,Q (.bool b) { s with toks:=tk }) :
  wpAny (model X.prog X.w) A (call (.builtin "isinstance") [u,.ref tp]) Q E s:=by
 obtain ⟨⟨oc,dd,od,sl⟩,htp,hc,n,hd⟩:=ht
 simp only at hc hd
 subst hc hd
 cases ty with
 |non=>cases (show u=Value.none from rx);exact PySem.W.kia_tup PySem.W.kitx_none I.kIn True.intro htp e (λz=>nomatch z) h
 |bl y=>cases (show u=Value.bool y from rx);exact PySem.W.kia_tup PySem.W.kitx_bool I.kIn True.intro htp e (λz=>nomatch z) h
 |int i=>obtain ⟨t,q⟩:=(show ∃ t,u=Value.int i t from rx);cases q;exact PySem.W.kia_tup PySem.W.kitx_int I.kIn True.intro htp e (λz=>nomatch z) h
 |str y=>obtain ⟨t,q⟩:=(show ∃ t,u=Value.str y t from rx);cases q;exact PySem.W.kia_tup PySem.W.kitx_str I.kIn True.intro htp e (λz=>nomatch z) h
 |flt y=>obtain ⟨t,q⟩:=(show ∃ t,u=Value.float y t from rx);cases q;exact PySem.W.kia_tup PySem.W.kitx_float I.kIn True.intro htp e (λz=>nomatch z) h
 |@lst a xs ea =>
  cases (show u=Value.ref a from rx)
  obtain ⟨_,_,n,_,h1⟩:=(show aT X.prog X.w H s.heap a (.lst xs) from I.hok a _ ea)
  exact PySem.W.kia_tup PySem.W.kitx_list I.kIn ⟨_,h1,rfl⟩ htp e (λz=>nomatch z) h
 |@frz a ob xs ea =>
  cases (show u=Value.ref a from rx)
  obtain ⟨_,_,_,n,_,h1⟩:=(show aT X.prog X.w H s.heap a (.frz ob (.lst xs)) from I.hok a _ ea)
  exact PySem.W.kia_tup PySem.W.kitx_list I.kIn ⟨_,h1,rfl⟩ htp e (λz=>nomatch z) h
 |@tup a xs ea =>
  cases (show u=Value.ref a from rx)
  obtain ⟨_,_,_,p⟩:=(show aT X.prog X.w H s.heap a (.tup xs) from I.hok a _ ea)
  obtain ⟨o,h1,h2,_⟩:=p
  exact PySem.W.kia_tup PySem.W.kitx_tuple I.kIn ⟨o,h1,h2⟩ htp e (λz=>nomatch z) h
 |@dK a kvs ea =>
  cases (show u=Value.ref a from rx)
  obtain ⟨_,_,vs,_,p⟩:=(show aT X.prog X.w H s.heap a (.dK kvs) from I.hok a _ ea)
  obtain ⟨o,es,ep,h1,h2,_⟩:=p
  exact PySem.W.kia_tup PySem.W.kitx_dict I.kIn ⟨o,h1,h2.1⟩ htp e (λz=>nomatch z) h
 |@dT a kvs ea =>
  cases (show u=Value.ref a from rx)
  obtain ⟨_,_,xs,_,o,es,ep,h1,h2,_⟩:=(show aT X.prog X.w H s.heap a (.dT kvs) from I.hok a _ ea)
  exact PySem.W.kia_tup PySem.W.kitx_dict I.kIn ⟨o,h1,h2.1⟩ htp e (λz=>nomatch z) h
 |@ins a C dx fs ea cl ha hn htk hm =>
  cases (show u=Value.ref a from rx)
  obtain ⟨mA,O,_⟩:=hW I.hok ea
  obtain ⟨od,J,_⟩:=O.look
  exact PySem.W.kia_tup (PySem.W.kitx_own (cl.get _) cl.hd ha hn htk hm) I.kIn J htp e (λz=>nomatch z) h
end
end L2
namespace T2
open PySem PySem.Spec PyProof.Rows L2
section
variable {K:Fg}{X:Cx}
def uB (K:Fg):GC:=λts S Q=>∃ x n m t b,ts=[x,.tup [.ty n,.ty m]]/\tyT S x=some t/\PySem.W.kitAny K t [.type n,.type m]=some b/\Q (.bl b) S
theorem DF (hK:X.K=K):bz X (.builtin "isinstance") (lC K (uB K)):=by
 subst hK
 rintro pins s σ H xs us Q I r ⟨S,ts,Qt,sr,rs,⟨x,n,m,t,k,e1,e,hk,q⟩,b⟩
 subst e1
 cases rs with
 |cons rx rs =>
  cases rs with
  |cons rt rn =>
   cases rn
   cases rt with
   |tup hn hp rr =>
    cases rr with
    |cons r1 rr =>
     cases rr with
     |cons r2 rr =>
      cases rr
      cases r1
      cases r2
      obtain ⟨u1,u2,rfl,v1,v2⟩:=jT r
      cases v2
      obtain ⟨its,rv,ht,hz⟩:=I.tuple (SqT.of hp)
      obtain ⟨w1,w2,rfl,rw1,rw2⟩:=jT rv
      cases rw1
      cases rw2
      exact wu I v1 (sC sr rx e) ht hk λtk=>⟨.bl k,H,I.tok tk,rfl,b _ H _ S .refl sr .bl q⟩
theorem DG {S:Sto}{Q:T->Sto->Prop}{n m:String}{x:T}{t:Value}{b:Bool}(e:tyT S x=some t) (hk:PySem.W.kitAny K t [.type n,.type m]=some b) (h:Q (.bl b) S):uB K [x,.tup [.ty n,.ty m]] S Q:=⟨x,n,m,t,b,rfl,e,hk,h⟩
theorem DH {t c d:Value}(h:PySem.W.kitOne K t c=some true):PySem.W.kitAny K t [c,d]=some true:=by unfold PySem.W.kitAny;rw [h]
theorem iC {t c d:Value}{b:Bool}(h:PySem.W.kitOne K t c=some false) (h2:PySem.W.kitOne K t d=some b):PySem.W.kitAny K t [c,d]=some b:=by
 unfold PySem.W.kitAny PySem.W.kitAny PySem.W.kitAny
 rw [h,h2]
 cases b<;>rfl
end
end T2
namespace L2
open PySem PySem.Spec PyProof.Rows
section
variable {X:Cx}{pos p2 p3 p4:Pos}{value value2:Expr}{tv tv2:TE}{s2:Str}{k3:Nat}
variable {elt iter target:Expr}{ifs:List Expr}{scope:Scope}{r:TR}
end
end L2
namespace T2
open PySem PySem.Spec PyProof.Rows L2
section
variable {K:Fg}{X:Cx}{pos p2 p3 p4:Pos}{value value2:Expr}{wv wv2:WE}{s2:Str}{k3:Nat}{r:WR}
variable {elt iter target:Expr}{ifs:List Expr}{scope:Scope}
end
end T2
namespace T2
open PySem L2
end T2
namespace L2
open PySem PySem.Spec PyProof.Rows
section
variable {X:Cx}
end
end L2
namespace T2
open PySem PySem.Spec PyProof.Rows L2
section
variable {K:Fg}{X:Cx}
end
end T2
namespace L2
open PySem PySem.Spec PyProof.Rows
end L2
namespace T2
open PySem PySem.Spec PyProof.Rows L2
section
variable {K:Fg}{X:Cx}
end
end T2
namespace L2
open PySem PySem.Spec PyProof.Rows
theorem DI {X:Cx}{tg e:Expr}{r:TR}{pos:Pos}(h:PRE X e r) (hs:swapsWithSole [tg] e pos.line X.env=pure false:=by rfl) (hw:swappedStores [tg] e X.env=pure none:=by rfl):PR X (.Assign [tg] e pos) r :=
 λpins s σ H R I q=>wpAny_Assign_stores (wpAny_mono (h pins s σ H R I q) (λ_ _ z=>z.elim) λ_ _ z=>z) hs hw
end L2
namespace T2
open PySem PySem.Spec PyProof.Rows L2
theorem DJ {K:Fg}{X:Cx}{tg e:Expr}{r:WR}{pos:Pos}(h:QRE K X e r) (hs:swapsWithSole [tg] e pos.line X.env=pure false:=by rfl) (hw:swappedStores [tg] e X.env=pure none:=by rfl):QR K X (.Assign [tg] e pos) r:=DI h hs hw
section
variable {K:Fg}{X:Cx}{k:Nat}{f C:Addr}{fd:FuncData}{ps:List Str}{wsp:WSp}{wsr:bu}{x m fl:Str}{p pos apos cpos pos':Pos}{e o value:Expr}{es:List Expr}{wa wv:WE}{wr:WA}{G:Addr->Prop}{i:Int}{tk:Tok}
theorem AQ {pl:Sem Bool}(hG:∀ C,G C->Cls X.K C/\Meth X.K C m f) (F:FnOk X.prog X.w X.K X.mg X.base CX0 k f fd ps (lSp K wsp)) (hb:aj X.K fd ps [.int i tk]) (hr:Room k X.A) (ho:QE K X o wa) (ha:QA K X (e::es) wr)
  (hst:starEach (e::es) X.env=(false,eval e X.env)::starEach es X.env:=by rfl) (hpl:(backTo pos (starEach es X.env)).any (·.1)=false:=by rfl)
  (ht:eval (.Call (.Attribute o m apos) (e::es) [] pos) X.env=(do
   let ov <- eval o X.env
   standAt apos.atName
   let (f,first) <- holding [ov] (getMethod ov m pl)
   callWith pos f first (backTo pos (starEach (e::es) X.env)) (backToKw pos (keywordEach [] X.env))):=by rfl) :
  QE K X (.Call (.Attribute o m apos) (e::es) [] pos) (eB G m wsp [.int i] wa wr):=sy (dvs:=[.int i]) (λ_ _=>.cons .int .nil) (qr (pl:=pl) ho hG F hr hb (.cons ⟨tk,rfl⟩ .nil) gR ha hst hpl ht)
end
section
variable {K:Fg}{X:Cx}{pos p2 p3:Pos}{value:Expr}{tv:TE}{wv:WE}{s2:Str}{k3:Nat}
def tF2 (tv:TE):TE:=λσ H Q=>tv σ H λx H1=>∃ i:Int,x=.int i/\i.natAbs.log2<1920/\∀ y,Q (.str y) H1
theorem F8 (hv:PE X value tv) (h2:s2.length<=1000):PE X (.JoinedStr [.FormattedValue value (-1) none p2,.Constant (.str s2) k3 p3] pos) (tF2 tv):=by
 intro pins s σ H Q I h
 refine JoinedStr_many (joinParts_cons (FormattedValue_plain (thn (hv pins s σ H _ I h) λu2 sb zz122=>?_)))
 obtain ⟨x,H2,I2,rx,i,ex,hi,q⟩:=zz122
 subst ex
 obtain ⟨t2,rfl⟩:=(show ∃ t,u2=Value.int i t from rx)
 have li:(Str.ofString (toString i)).length<=1921:=by rw [PySem.ofString_length];exact int_text_length_le (by decide) hi
 have l0:(Str.empty++Str.ofString (toString i)).length<=1921:=by rw [PySem.Str.length_append];exact (by simpa [Str.empty,PySem.Str.length] using li)
 refine formatField_int_small hi ⟨by rw [sizeLine_eq];omega,?_⟩
 refine joinParts_cons (thn (md pins _ σ H2 (λv H1=>v=.str s2/\H1=H2) (I2.tok _) ⟨rfl,rfl⟩) λu3 sc zz123=>?_)
 obtain ⟨v,H3,I3,ru3,ev,eH⟩:=zz123
 subst ev eH
 obtain ⟨t3,rfl⟩:=(show ∃ t,u3=Value.str s2 t from ru3)
 have lz:(Str.empty++Str.ofString (toString i)++s2).length<=sizeLine:=by rw [PySem.Str.length_append,sizeLine_eq];omega
 exact ⟨lz,joinParts_nil (show EP X pins σ Q _ _ from ⟨.str (Str.empty++Str.ofString (toString i)++s2),_,I3.tok _,⟨_,rfl⟩,q _⟩) lz⟩
def wF2 (wv:WE):WE:=λσ S Q=>wv σ S λx S1=>∃ i:Int,x=.int i/\i.natAbs.log2<1920/\∀ y,Q (.str y) S1
theorem Hm (hv:QE K X value wv) (h2:s2.length<=1000:=by decide):QE K X (.JoinedStr [.FormattedValue value (-1) none p2,.Constant (.str s2) k3 p3] pos) (wF2 wv) :=
 PE.of (F8 hv h2) λσ H Q zz124=>by
  obtain ⟨S,σt,Qt,s,c,q,hq⟩:=zz124
  refine ⟨S,σt,_,s,c,q,λx H1 tx S1 f1 s1 r1 q1=>?_⟩
  obtain ⟨i,rfl,hi,q1⟩:=q1
  cases r1
  exact ⟨i,rfl,hi,λy=>hq _ H1 _ S1 f1 s1 .str (q1 y)⟩
theorem Hn {σ:StT}{S:Sto}{Q:T->Sto->Prop}(h:wv σ S λx S1=>∃ i:Int,x=.int i/\i.natAbs.log2<1920/\∀ y,Q (.str y) S1):wF2 wv σ S Q:=h
end
def iM:List T->Option (List Key)
 |[]=>some []
 |t::ts=>match ck t,iM ts with
  |some k,some ks=>some (k::ks)
  |_,_=>none
def iN:T->Option (List Key)
 |.tup ts=>iM ts
 |_=>none
section
variable {K:Fg}{X:Cx}{H:Hp}{S:Sto}
theorem rD:∀ {ts:List T}{vs:List V}{ks:List Key},Rps K H S ts vs->iM ts=some ks->vs=ks.map kV
 |_,_,_,.nil,e=>by cases e;rfl
 |t::ts,v::vs,ks,.cons r rs,e=>by
  unfold iM at e
  cases e1:ck t with
  |none=>rw [e1] at e;cases e
  |some k =>
   cases e2:iM ts with
   |none=>rw [e1,e2] at e;cases e
   |some ks' =>
    rw [e1,e2] at e
    cases e
    rw [List.map_cons,gX r e1,rD rs e2]
theorem sV {t:T}{v:V}{ks:List Key}(r:Rp K H S t v) (e:iN t=some ks):∃ p,v=.ref p/\H p=some (.tup (ks.map kV)):=by
 cases r with
 |tup n h rs=>exact ⟨_,rfl,by rw [h,rD rs e]⟩
 |_=>cases e
theorem uC {a:Addr}{kts:List (List Key×T)}(s:SRp K H S) (e:S a=some (.dT kts)):∃ kvs,H a=some (.dT kvs)/\PrT K H S kts kvs:=by
 cases s a _ e with
 |dT h p=>exact ⟨_,h,p⟩
def uD:GM:=λx ts S Q=>∃ a kts y z ks,x=.ref a/\ts=[y,z]/\S a=some (.dT kts)/\iN y=some ks/\Q ((aW kts ks).getD z) S
theorem yN {κ:Type}[DecidableEq κ] {kts:List (κ×T)}{kvs:List (κ×V)}{k:κ}{z:T}{v:V}(p:PrT K H S kts kvs) (r:Rp K H S z v):Rp K H S ((aW kts k).getD z) ((ba kvs k).getD v):=by
 cases e:aW kts k with
 |none =>
  have:=k9 (k:=k) p
  rw [e] at this
  cases e2:ba kvs k with
  |none=>exact r
  |some _=>rw [e2] at this;cases this
 |some t =>
  obtain ⟨u,h1,h2⟩:=k8 p e
  rw [h1];exact h2
theorem sW (hu:X.A.units+1<cLine):MtR X "dict.get" (lM K uD):=by
 rintro pins s σ H x xs v us Q I rx rv ⟨S,t,ts,Qt,sr,hx,rs,⟨a,kts,y,z,ks,e,e2,ea,ek,q⟩,b⟩
 subst e e2
 cases hx
 cases rs with
 |cons ry rn =>
  cases rn with
  |cons rz rn2 =>
   cases rn2
   obtain ⟨kvs,hk,p⟩:=uC sr ea
   obtain ⟨pb,rfl,hb⟩:=sV ry ek
   obtain ⟨u1,u2,rfl,rr1,rr2⟩:=jT rv
   cases (show v=Value.ref a from rx)
   exact Cl hu I (kg.t hk hb) rr1 rr2 λw' s' I' rw'=>⟨_,H,I',rw',b _ H _ S .refl sr (yN p rz) q⟩
def uE:GS:=λo i v S Q=>∃ a kts ks,o=.ref a/\S a=some (.dT kts)/\iN i=some ks/\kts.length<sizeLine/\Q (put S a (.dT (dc kts ks v)))
theorem DK (hu:X.A.units+1<cLine):eI X (g6 K uE):=by
 rintro pins s σ H o i v ov iv u Q I ro ri rv ⟨S,to,ti,tv,Qt,sr,hO,hI,hV,⟨a,kts,ks,e,ea,ek,hl,q⟩,b⟩
 subst e
 cases hO
 cases (show ov=Value.ref a from ro)
 obtain ⟨kvs,hk,p⟩:=uC sr ea
 obtain ⟨pb,rfl,hb⟩:=sV hI ek
 have hn:S a≠none:=by rw [ea];simp
 refine p5 hu I (fD.t hk hb (by rw [Paired.len p];exact hl)) ri rv λs' I'=>⟨_,I',?_⟩
 exact b _ _ (Fr.write hn) (sr.write hn (.dT aL (Paired.mapP (sM hV p) λ_ _ z=>⟨z.1,z.2.fr (Fr.write hn)⟩))) q
def sX:WE:=λ_ S Q=>∀ p,S p=none->Q (.ref p) (put S p (.dT []))
theorem AR {pos:Pos}:QE K X (.Dict [] [] pos) sX:=PE.of xY λσ H Q ⟨S,σt,Qt,s,c,q,hq⟩=>λp hp =>
 hq _ _ (.ref p) _ (Fr.newT hp) (s.newT hp (.dT aL .nil)) .ref (q p (s.fresh hp))
end
section
variable {K:Fg}{X:Cx}{σ:StT}{S:Sto}{D:EndsT}{Q:T->Sto->Prop}{R:Prop}{w:World}{a d:Addr}{t x y z:T}{kts:List (List Key×T)}{ks:List Key}{wa:WE}{o:Expr}{pos apos cpos:Pos}
theorem AS (h:∀ p,S p=none->Q (.ref p) (put S p (.dT []))):sX σ S Q:=h
theorem sY (e:S a=some (.dT kts)) (ek:iN y=some ks) (h:Q ((aW kts ks).getD z) S):uD (.ref a) [y,z] S Q:=⟨a,kts,y,z,ks,rfl,rfl,e,ek,h⟩
theorem DL {Q:Sto->Prop}(e:S a=some (.dT kts)) (ek:iN y=some ks) (l:kts.length<sizeLine) (h:Q (put S a (.dT (dc kts ks t)))):uE (.ref a) y t S Q:=⟨a,kts,ks,rfl,e,ek,l,h⟩
theorem DM (e:S a=some (.dT kts)) (h:R):tyM "dict" S (.ref a)/\R:=⟨by simp only [tyM,e],h⟩
end
end T2
open PySem
namespace Sc
def isL (c:Nat):Bool:=decide (97<=c)&&decide (c<=122)
def isP (p:List Nat):Bool:=decide (1<=p.length)&&decide (p.length<=12)&&p.all isL
def bF:List Nat->Nat->Nat->Option (Nat×Nat)
 |[],z,n=>some (z,n)
 |c::r,z,n=>if c=32 then (if z=0 then none else bF r 0 (n+1)) else if isL c=true then (if z+1>12 then none else bF r (z+1) n) else none
def fin:Option (Nat×Nat)->Bool
 |none=>false
 |some (z,n)=>decide (0<z)&&decide (n<5)
theorem kQ:∀ (p rest:List Nat) (z n:Nat),32∉p->z<=12->bF (p++rest) z n=if (p.all isL&&decide (z+p.length<=12))=true then bF rest (z+p.length) n else none
 |[],rest,z,n,_,hz=>by simp [hz]
 |c::p,rest,z,n,h,hz=>by
  have hc:c≠32:=λe=>h (by simp [e])
  have hp:32∉p:=λe=>h (by simp [e])
  have ih:=kQ p rest (z+1) n hp
  show bF (c::(p++rest)) z n=_
  rw [bF,if_neg hc]
  cases hl:isL c with
  |false=>simp [hl]
  |true =>
   rw [if_pos rfl]
   by_cases hz2:z+1>12
   ·rw [if_pos hz2]
    have:¬ (z+(c::p).length<=12):=by simp;omega
    simp [this]
    omega
   ·rw [if_neg hz2,ih (by omega)]
    have e:z+1+p.length=z+(c::p).length:=by simp;omega
    rw [e]
    simp [hl]
def aY (g:List Nat):List (List Nat)->List Nat
 |[]=>[]
 |[p]=>p
 |p::q::r=>p++g++aY g (q::r)
theorem la:∀ (ps:List (List Nat)) (n:Nat),ps≠[]->(∀ p∈ps,32∉p)->fin (bF (aY [32] ps) 0 n)=(decide (ps.length+n<=5)&&ps.all isP)
 |[],_,h,_=>absurd rfl h
 |[p],n,_,hf=>by
  have h:=kQ p [] 0 n (hf p (by simp)) (by omega)
  rw [List.append_nil] at h
  show fin (bF p 0 n)=_
  rw [h]
  simp only [Nat.zero_add,List.length_singleton,List.all_cons,List.all_nil,Bool.and_true]
  by_cases hc:(p.all isL&&decide (p.length<=12))=true
  ·rw [if_pos hc]
   simp only [Bool.and_eq_true,decide_eq_true_eq] at hc
   simp only [bF,fin,isP,hc.1,hc.2,decide_true,Bool.and_true]
   rw [Bool.eq_iff_iff]
   simp only [Bool.and_eq_true,decide_eq_true_eq]
   omega
  ·rw [if_neg hc]
   have:isP p=false:=by
    simp only [isP]
    rw [Bool.eq_false_iff]
    intro z
    simp only [Bool.and_eq_true,decide_eq_true_eq] at z hc
    exact hc ⟨z.2,z.1.2⟩
   simp [fin,this]
 |p::q::r,n,_,hf=>by
  have h:=kQ p (32::aY [32] (q::r)) 0 n (hf p (by simp)) (by omega)
  have ih:=la (q::r) (n+1) (by simp) λx hx=>hf x (List.mem_cons_of_mem _ hx)
  have e:aY [32] (p::q::r)=p++32::aY [32] (q::r):=by simp [aY]
  rw [e,h]
  simp only [Nat.zero_add]
  by_cases hc:(p.all isL&&decide (p.length<=12))=true
  ·rw [if_pos hc]
   simp only [Bool.and_eq_true,decide_eq_true_eq] at hc
   rw [bF,if_pos rfl]
   by_cases hz:p.length=0
   ·rw [if_pos hz]
    have:isP p=false:=by simp [isP,hz]
    simp [fin,this]
   ·rw [if_neg hz,ih]
    have:isP p=true:=by
     simp only [isP,hc.1,hc.2,decide_true,Bool.and_true,decide_eq_true_eq]
     omega
    have ea:(p::q::r).all isP=(q::r).all isP:=by rw [List.all_cons,this,Bool.true_and]
    rw [ea]
    have e2:(q::r).length+(n+1)=(p::q::r).length+n:=by simp;omega
    rw [e2]
  ·rw [if_neg hc]
   have:isP p=false:=by
    simp only [isP]
    rw [Bool.eq_false_iff]
    intro z
    simp only [Bool.and_eq_true,decide_eq_true_eq] at z hc
    exact hc ⟨z.2,z.1.2⟩
   simp [fin,this]
theorem DN (a b:Nat):decide ([a]<[b])=decide (a<b):=by
 rw [Bool.eq_iff_iff]
 simp [List.cons_lt_cons_iff]
end Sc
namespace Wm
open PySem
theorem kJ (g:List Nat):∀ ps:List (List Nat),Sc.aY g ps=Tm.aY g ps
 |[]=>rfl
 |[p]=>rfl
 |p::q::r=>by
  show p++g++Sc.aY g (q::r)=p++g++Tm.aY g (q::r)
  rw [kJ g (q::r)]
def Wd (z:Str):Bool:=decide (z.length<=24)&&Sc.fin (Sc.bF (Tm.tl z) 0 1)
theorem ww (z:Str):Sc.fin (Sc.bF (Tm.tl z) 0 1)=(decide ((Txt.split z " ").length<=4)&&(Txt.split z " ").all λp=>Sc.isP (Tm.tl p)):=by
 have hn:=PyProof.Rows.split_pos z " "
 rw [<- Tm.pF z,<- kJ,Sc.la _ 1 (by simp [Tm.yk]) (Tm.split_free z),List.length_map,List.all_map]
 congr 1
 rw [Bool.eq_iff_iff]
 simp only [decide_eq_true_eq]
 omega
theorem sZ (c d:Nat):T2.ltS ⟨#[c]⟩ ⟨#[d]⟩=decide (c<d):=by
 unfold T2.ltS
 exact Sc.DN c d
theorem DO (c:Nat):(!T2.ltS ⟨#[c]⟩ "a" && !T2.ltS "z" ⟨#[c]⟩)=Sc.isL c:=by
 rw [show ("a":Str)=⟨#[97]⟩ by decide +kernel,show ("z":Str)=⟨#[122]⟩ by decide +kernel,sZ,sZ,Bool.eq_iff_iff]
 simp only [Sc.isL,Bool.and_eq_true,Bool.not_eq_true',decide_eq_false_iff_not,decide_eq_true_eq]
 omega
theorem all_map (l:List Bool):T2.eM (l.map T2.T.bl)=some l:=by
 induction l with
 |nil=>rfl
 |cons a l ih=>simp [T2.eM,ih]
theorem rE {α β:Type}(f:α->β) (l:List α):l.filterMap (λx=>some (f x))=l.map f:=by
 induction l with
 |nil=>rfl
 |cons a l ih=>simp [ih]
end Wm
namespace Wm
open PySem
theorem qe:∀ (ls:List (List Nat)),Tm.aY [] ls=ls.flatten
 |[]=>rfl
 |[p]=>by simp [Tm.aY]
 |p::q::r=>by
  show p++[]++Tm.aY [] (q::r)=_
  rw [qe (q::r)];simp
theorem ju {ys:List Str}(h1:∀ y∈ys,∃ c,y=⟨#[c]⟩/\Sc.isL c=true) (h2:1<=ys.length) (h3:ys.length<=12):Sc.isP (Tm.tl (Txt.join "" ys))=true:=by
 rw [Tm.jC,Tm.empty,qe]
 have len:((ys.map Tm.tl).flatten).length=ys.length:=by
  clear h2 h3
  induction ys with
  |nil=>rfl
  |cons y l ih =>
   obtain ⟨c,rfl,_⟩:=h1 y (by simp)
   simp only [List.map_cons,List.flatten_cons,List.length_append,ih λz hz=>h1 z (by simp [hz]),List.length_cons]
   simp [Tm.tl];omega
 unfold Sc.isP
 rw [len]
 simp only [Bool.and_eq_true,decide_eq_true_eq]
 refine ⟨⟨h2,h3⟩,?_⟩
 rw [List.all_eq_true]
 intro c hc
 rw [List.mem_flatten] at hc
 obtain ⟨l,hl,hc⟩:=hc
 rw [List.mem_map] at hl
 obtain ⟨y,hy,rfl⟩:=hl
 obtain ⟨d,rfl,hd⟩:=h1 y hy
 simp [Tm.tl] at hc
 rw [hc];exact hd
theorem yO {p:List Nat}(h:Sc.isP p=true):32∉p:=λhm=>by
 unfold Sc.isP at h
 simp only [Bool.and_eq_true,List.all_eq_true] at h
 have:=h.2 32 hm
 simp [Sc.isL] at this
theorem AT {ps:List Str}(h1:∀ p∈ps,Sc.isP (Tm.tl p)=true) (h2:ps≠[]) (h3:ps.length<=4):Sc.fin (Sc.bF (Tm.tl (Txt.join " " ps)) 0 1)=true:=by
 rw [Tm.jC,Tm.j4,<- kJ]
 rw [Sc.la (ps.map Tm.tl) 1 (by simpa using h2) (λp hp=>by
  rw [List.mem_map] at hp
  obtain ⟨y,hy,rfl⟩:=hp
  exact yO (h1 y hy))]
 simp only [List.length_map,Bool.and_eq_true,decide_eq_true_eq,List.all_map,List.all_eq_true]
 exact ⟨by omega,λp hp=>h1 p hp⟩
theorem iD {z:Str}(h:Wd z=true):1<=z.length/\z.length<=24:=by
 unfold Wd at h
 simp only [Bool.and_eq_true,decide_eq_true_eq] at h
 refine ⟨?_,h.1⟩
 rcases Nat.eq_zero_or_pos z.length with e|e
 ·have:Tm.tl z=[]:=List.length_eq_zero_iff.mp (by rw [Tm.len];exact e)
  rw [this] at h
  simp [Sc.bF,Sc.fin] at h
 ·exact e
theorem lW:∀ (l:List Nat) (z n:Nat){p:Nat×Nat},Sc.bF l z n=some p->∀ c∈l,c=32\/Sc.isL c=true
 |[],_,_,_,_,c,hc=>by cases hc
 |d::l,z,n,p,h,c,hc=>by
  rw [Sc.bF] at h
  rcases List.mem_cons.mp hc with rfl|hc
  ·by_cases e:c=32
   ·exact .inl e
   ·rw [if_neg e] at h
    split at h
    ·exact .inr ‹_›
    ·cases h
  ·split at h
   ·split at h
    ·cases h
    ·exact lW l _ _ h c hc
   ·split at h
    ·split at h
     ·cases h
     ·exact lW l _ _ h c hc
    ·cases h
theorem yP {z:Str}(h:Wd z=true):∀ c∈Tm.tl z,c=32\/Sc.isL c=true:=by
 unfold Wd at h
 simp only [Bool.and_eq_true] at h
 cases q:Sc.bF (Tm.tl z) 0 1 with
 |none=>rw [q] at h;simp [Sc.fin] at h
 |some p=>exact lW _ _ _ q
theorem j7 {z:Str}(h:Wd z=true):PyData.strOk z=true:=by
 unfold PyData.strOk
 rw [Array.all_eq_true_iff_forall_mem]
 intro c hc
 have:=yP h c (by simpa [Tm.tl] using hc)
 rw [decide_eq_true_eq]
 rcases this with e|e
 ·omega
 ·simp only [Sc.isL,Bool.and_eq_true,decide_eq_true_eq] at e;omega
end Wm
namespace Rk
open PySem T2 S6
abbrev Rt:=Str×Int
def rt (a:Rt):T:=.tup [.str a.1,.int a.2]
def ky (a:Rt):Ky:=.cons (.i (-a.2)) (.cons (.s a.1) .nil)
theorem mI (a:Rt):tre (ky a)=.tup [.int (-a.2),.str a.1]:=by simp [ky,tre,iW]
def ah (a b:Rt):Bool:=Ky.lt (ky a) (ky b)
theorem jK (a b:Rt):Ky.shp (ky a) (ky b)=true:=rfl
theorem DP {a b:Rt}(h:ky a=ky b):a=b:=by
 simp only [ky,Ky.cons.injEq,Ky.i.injEq,Ky.s.injEq,and_true] at h
 exact Prod.ext h.2 (by omega)
theorem yQ {a b c:Rt}(h1:ah a b=true) (h2:ah b c=true):ah a c=true:=Ky.trans (jK _ _) (jK _ _) h1 h2
theorem tf (a b:Rt):ah a b=true\/a=b\/ah b a=true:=by
 rcases Ky.tri (jK a b) with h|h|h
 ·exact .inl h
 ·exact .inr (.inl (DP h))
 ·exact .inr (.inr h)
theorem AU {a b:Rt}(h:ah a b=true):ah b a=false:=Ky.Hf (jK _ _) h
def kyT:T->Ky
 |.tup [.str w,.int n]=>ky (w,n)
 |_=>.nil
theorem tj (a:Rt):kyT (rt a)=ky a:=rfl
def ins (acc:List Rt) (a:Rt):List Rt:=acc.takeWhile (λx=>ah x a)++a::acc.dropWhile (λx=>ah x a)
def bst (l:List Rt):List Rt:=l.foldl ins []
theorem lc (acc:List Rt) (a:Rt):(ins acc a).Perm (a::acc):=by
 unfold ins
 refine (List.perm_middle).trans ?_
 rw [List.takeWhile_append_dropWhile]
theorem qf:∀ (l acc:List Rt),(l.foldl ins acc).Perm (l++acc)
 |[],acc=>by simp
 |a::l,acc=>by
  rw [List.foldl_cons]
  refine (qf l (ins acc a)).trans ?_
  refine ((lc acc a).append_left l).trans ?_
  exact List.perm_middle
theorem gD (l:List Rt):(bst l).Perm l:=by
 have:=qf l []
 rwa [List.append_nil] at this
theorem wx {acc:List Rt}{a:Rt}(h:acc.Pairwise λx y=>ah x y=true) (hn:a∉acc):(ins acc a).Pairwise λx y=>ah x y=true:=by
 induction acc with
 |nil=>simp [ins]
 |cons b l ih =>
  have hb:b≠a:=λe=>hn (by simp [e])
  obtain ⟨h1,h2⟩:=List.pairwise_cons.mp h
  have hn2:a∉l:=λe=>hn (by simp [e])
  unfold ins
  by_cases q:ah b a=true
  ·rw [List.takeWhile_cons,if_pos q,List.dropWhile_cons,if_pos q,List.cons_append]
   refine List.pairwise_cons.mpr ⟨λx hx=>?_,ih h2 hn2⟩
   have:=(lc l a).mem_iff.mp (show x∈ins l a from hx)
   rcases List.mem_cons.mp this with rfl|hx
   ·exact q
   ·exact h1 x hx
  ·rw [List.takeWhile_cons,if_neg q,List.dropWhile_cons,if_neg q,List.nil_append]
   have ab:ah a b=true:=by
    rcases tf a b with z|z|z
    ·exact z
    ·exact (hb z.symm).elim
    ·exact (q z).elim
   refine List.pairwise_cons.mpr ⟨λx hx=>?_,h⟩
   rcases List.mem_cons.mp hx with rfl|hx
   ·exact ab
   ·exact yQ ab (h1 x hx)
theorem o6:∀ (l acc:List Rt),(l++acc).Nodup->(acc.Pairwise λx y=>ah x y=true)->((l.foldl ins acc).Pairwise λx y=>ah x y=true)
 |[],acc,_,h=>h
 |a::l,acc,hn,h=>by
  rw [List.foldl_cons]
  have hm:a∉acc:=λe=>by
   rw [List.cons_append,List.nodup_cons] at hn
   exact hn.1 (List.mem_append_right _ e)
  refine o6 l (ins acc a) ?_ (wx h hm)
  have p:(l++ins acc a).Perm (a::l++acc):=((lc acc a).append_left l).trans List.perm_middle
  exact p.nodup_iff.mpr hn
theorem wy {l:List Rt}(h:l.Nodup):(bst l).Pairwise λx y=>ah x y=true:=o6 l [] (by simpa using h) .nil
theorem vy:∀ {l m:List Rt},(l.Pairwise λx y=>ah x y=true)->(m.Pairwise λx y=>ah x y=true)->l.Perm m->l=m
 |[],m,_,_,p=>(List.perm_nil.mp p.symm).symm
 |a::l,[],_,_,p=>absurd p.length_eq (by simp)
 |a::l,b::m,h1,h2,p=>by
  obtain ⟨a1,a2⟩:=List.pairwise_cons.mp h1
  obtain ⟨b1,b2⟩:=List.pairwise_cons.mp h2
  have e:a=b:=by
   rcases List.mem_cons.mp (p.mem_iff.mp (List.mem_cons_self ..):a∈b::m) with e|e
   ·exact e
   ·rcases List.mem_cons.mp (p.mem_iff.mpr (List.mem_cons_self ..):b∈a::l) with q|q
    ·exact q.symm
    ·have x1:=a1 b q
     have x2:=b1 a e
     rw [AU x1] at x2;cases x2
  subst e
  rw [vy a2 b2 (List.perm_cons a |>.mp p)]
theorem yR {l:List Rt}(h:(l.map (·.1)).Nodup):l.Nodup:=by
 unfold List.Nodup at h ⊢
 rw [List.pairwise_map] at h
 exact h.imp fun {a b} hne e=>hne (by rw [e])
theorem xr {l l':List Rt}(hn:l.Nodup) (p:l'.Perm l) (h:l'.Pairwise λa b=>Ky.lt (kyT (rt b)) (kyT (rt a))=false):l'=bst l:=by
 refine vy ?_ (wy hn) (p.trans (gD l).symm)
 have n':l'.Nodup:=p.nodup_iff.mpr hn
 refine (h.and n').imp fun {a b} hab=>?_
 rcases tf a b with z|z|z
 ·exact z
 ·exact (hab.2 z).elim
 ·have:=hab.1
  rw [tj,tj] at this
  rw [show Ky.lt (ky b) (ky a)=true from z] at this;cases this
theorem F9 {S:Sto}{Q:T->Sto->Prop}{a:Rt}(h:Q (.str a.1) S):gIx (rt a) (.int 0) S Q:=iK (t:=.str a.1) rfl h
end Rk
namespace As
open PySem T2
variable {α β:Type}
def kt (f:α->T) (l:List (Str×α)):List (L2.Key×T):=l.map λa=>(Sum.inr a.1,f a.2)
def look (l:List (Str×α)) (z:Str):Option α:=(l.find? λa=>decide (a.1=z)).map (·.2)
def pu (l:List (Str×α)) (z:Str) (x:α):List (Str×α):=if (l.any λa=>decide (a.1=z))=true then l.map (λa=>if a.1=z then (a.1,x) else a) else l++[(z,x)]
def dr (l:List (Str×α)) (z:Str):List (Str×α):=l.filter λa=>decide (a.1≠z)
theorem bJ (f:α->T) (z:Str):∀ l:List (Str×α),aW (kt f l) (Sum.inr z)=(look l z).map f
 |[]=>rfl
 |a::l=>by
  have ih:=bJ f z l
  unfold aW kt look at *
  rw [List.map_cons,List.find?_cons,List.find?_cons]
  by_cases e:a.1=z
  ·simp [e]
  ·have e2:¬ (Sum.inr a.1:L2.Key)=Sum.inr z:=λq=>e (Sum.inr.inj q)
   simp only [e,e2,decide_false]
   exact ih
theorem tm (f:α->T) (z:Str):∀ l:List (Str×α),((kt f l).any λkv=>decide (kv.1=Sum.inr z))=l.any λa=>decide (a.1=z)
 |[]=>rfl
 |a::l=>by
  have ih:=tm f z l
  unfold kt at *
  rw [List.map_cons,List.any_cons,List.any_cons,ih]
  congr 1
  rw [Bool.eq_iff_iff]
  simp
theorem mJ (f:α->T) (l:List (Str×α)) (z:Str) (x:α):dc (kt f l) (Sum.inr z) (f x)=kt f (pu l z x):=by
 unfold dc pu
 rw [tm]
 split
 ·unfold kt
  rw [List.map_map,List.map_map]
  refine List.map_congr_left λa _=>?_
  by_cases e:a.1=z
  ·simp [e]
  ·have e2:¬ (Sum.inr a.1:L2.Key)=Sum.inr z:=λq=>e (Sum.inr.inj q)
   simp [e]
 ·unfold kt;simp
theorem rF (f:α->T) (l:List (Str×α)) (z:Str):gW (kt f l) (Sum.inr z)=kt f (dr l z):=by
 unfold gW dr kt
 rw [List.filter_map]
 congr 1
 refine List.filter_congr λa _=>?_
 rw [Bool.eq_iff_iff]
 simp
theorem d8 {l:List (Str×α)}{z:Str}{x:α}(h:look l z=some x):(z,x)∈l:=by
 unfold look at h
 rw [Option.map_eq_some_iff] at h
 obtain ⟨a,h1,h2⟩:=h
 have h3:=List.find?_some h1
 have h4:=List.mem_of_find?_eq_some h1
 simp only [decide_eq_true_eq] at h3
 rw [<- h3,<- h2];exact h4
theorem AV {l:List (Str×α)}(hn:(l.map (·.1)).Nodup){a:Str×α}(h:a∈l):look l a.1=some a.2:=by
 induction l with
 |nil=>cases h
 |cons b l ih =>
  rw [List.map_cons,List.nodup_cons] at hn
  unfold look
  rw [List.find?_cons]
  rcases List.mem_cons.mp h with rfl|h
  ·simp
  ·rw [decide_eq_false (λe=>hn.1 (by rw [e];exact List.mem_map_of_mem h))]
   exact ih hn.2 h
theorem cU {l:List (Str×α)}{z:Str}:look l z=none ↔ z∉l.map (·.1):=by
 unfold look
 rw [Option.map_eq_none_iff,List.find?_eq_none]
 constructor
 ·intro h hm
  obtain ⟨a,ha,e⟩:=List.mem_map.mp hm
  exact h a ha (by simp [e])
 ·intro h a ha e
  exact h (by rw [<- of_decide_eq_true e];exact List.mem_map_of_mem ha)
theorem tq {l:List (Str×α)}{z:Str}(x:α) (h:z∉l.map (·.1)):pu l z x=l++[(z,x)]:=by
 unfold pu
 rw [if_neg]
 intro e
 rw [List.any_eq_true] at e
 obtain ⟨a,ha,e⟩:=e
 exact h (by rw [<- of_decide_eq_true e];exact List.mem_map_of_mem ha)
theorem AW {l:List (Str×α)}{z:Str}(x:α) (h:z∈l.map (·.1)):(pu l z x).map (·.1)=l.map (·.1):=by
 unfold pu
 rw [if_pos (by
  obtain ⟨a,ha,e⟩:=List.mem_map.mp h
  exact List.any_eq_true.mpr ⟨a,ha,by simp [e]⟩),List.map_map]
 refine List.map_congr_left λa _=>?_
 by_cases e:a.1=z<;>simp [e]
theorem rG (l:List (Str×α)) (z:Str):(dr l z).map (·.1)=(l.map (·.1)).filter λy=>decide (y≠z):=by
 unfold dr
 rw [List.filter_map];rfl
theorem DQ {l:List (Str×α)}{z:Str}{x:α}{a:Str×α}(h:a∈pu l z x):a∈l\/a=(z,x):=by
 unfold pu at h
 split at h
 ·obtain ⟨b,hb,e⟩:=List.mem_map.mp h
  by_cases q:b.1=z
  ·rw [if_pos q] at e;exact .inr (by rw [<- e,q])
  ·rw [if_neg q] at e;exact .inl (e ▸ hb)
 ·rcases List.mem_append.mp h with h|h
  ·exact .inl h
  ·exact .inr (List.mem_singleton.mp h)
theorem jL (f:α->T) (l:List (Str×α)):(kt f l).length=l.length:=by unfold kt;rw [List.length_map]
def wrt (m:Int×Int) (now:Int):Int:=m.1 / 2 ^ (now - m.2).toNat
def mkT (m:Int×Int):T:=.tup [.int m.1,.int m.2]
end As
open PySem
namespace Wm
theorem qg (y:List Nat):∀ i:List (List Nat),i≠[]->Tm.aY [32] (i++[y])=Tm.aY [32] i++32::y
 |[],h=>absurd rfl h
 |[a],_=>by
  show a++[32]++y=a++32::y
  rw [List.append_assoc];rfl
 |a::b::i,_=>by
  have ih:=qg y (b::i) (by simp)
  show a++[32]++Tm.aY [32] (b::i++[y])=a++[32]++Tm.aY [32] (b::i)++32::y
  rw [ih,List.append_assoc (a++[32])]
end Wm
set_option maxRecDepth 100000
seal T2.QE T2.QT T2.QW T2.QA T2.QS T2.QSs T2.QG T2.QGs T2.QI T2.QTs T2.QO L2.PE L2.PT L2.PA L2.PS L2.PSs L2.PG L2.PGs L2.PI L2.PTs L2.PO L2.PW
namespace My
open PySem L2 T2
set_option hygiene false
local macro_rules
 | `(tactic|nofun)=>`(tactic|exact ⟨rfl,rfl,rfl,by decide +kernel,rfl,by decide +kernel,by decide +kernel⟩)
local macro_rules
 | `(tactic|subst_eqs)=>`(tactic|simp only [Option.isSome_none,Option.isSome_some,Bool.true_xor,Bool.false_xor,Bool.not_false,Bool.not_true])
local macro_rules
 | `(tactic|and_intros)=>`(tactic|simp only [List.set_cons_zero,List.set_cons_succ])
local macro_rules
 |`(tactic| ac_nf)=>`(tactic| simp only [bI,List.map_cons,List.map_nil,List.length_cons,List.length_nil,List.replicate,List.cons_append,List.nil_append,Nat.zero_add,Nat.reduceAdd,Nat.reduceSub])
local macro_rules
 |`(tactic| ac_rfl)=>`(tactic| (first|(with_reducible assumption)|with_reducible exact aJ|exact (aD (by assumption)).trans (by assumption)|exact (aD (by assumption)).trans aJ|exact (aD (Ne.symm (by assumption))).trans aJ|exact (aD (Ne.symm (by assumption))).trans (by assumption)))
local macro_rules
 |`(tactic| infer_instance)=>`(tactic| (first|omega|(with_reducible assumption)|((with_reducible apply Int.emod_nonneg);omega)|((with_reducible apply Int.emod_lt_of_pos);omega)|(simp only [Int.reduceToNat,Int.reducePow];omega)|(simp only [PySem.Str.length_append];omega)|(simp only [List.length_range,List.length_map];omega)))
local macro_rules
 |`(tactic| contradiction)=>`(tactic| (first|(simp only [PySem.sizeLine_eq,PySem.Str.length_append,Tm.Av,Tm.qa,Tm.kP];omega)|(rw [PySem.sizeLine_eq];omega)|(rw [PySem.sizeLine_eq];decide)))
local macro_rules
 |`(tactic| bv_omega)=>`(tactic| (repeat (first
   |(with_reducible first|apply EY|apply CG|apply CH|apply EZ|apply E1|apply E2|apply GU|apply Ae|apply CI|apply E3|apply i_C|apply i_2|apply i_B|apply GW|apply Af|apply E4|apply GX|apply E5|apply CJ|apply CK|apply E6|apply CL|apply GY|apply E7|apply CM|apply E8|apply E9|apply CN|apply CO|apply GZ|apply G0|apply Fa|apply G6|apply G7|apply G8|apply CP|apply CQ|apply G9|apply Fc|apply G'|apply Fd|apply CS|apply Fj|apply Fk|apply Fl|apply Fm|apply Fn|apply Fo|apply Fp|apply Fq|apply Ha|apply FD|apply uh|apply C0|apply C2|apply C1|apply C3|apply yg|apply Fz|apply FB|apply ifT|apply ifF|apply Hd|apply He|apply CW)
   |((with_reducible apply Ho);((decide +kernel)))
   |((with_reducible apply Hq);((decide +kernel)))
   |((with_reducible apply Hr);(skip))
   |((with_reducible apply F9);(skip))
   |((with_reducible apply F');((with_reducible assumption)))
   |((with_reducible apply yS);((with_reducible assumption);intro r o' hr0 hr1 hbx))
   |((with_reducible apply yT);((with_reducible assumption);intro r o' hr0 hr1 hbx))
   |((with_reducible apply AX);((with_reducible assumption);intro z o' hzw hbx))
   |((with_reducible apply tw);(skip))
   |((with_reducible apply Fy);(rfl;first|exact T.ss|exact T.is|exact T.ii|exact T.ib|exact T.tt|exact T.lt|exact T.ll|exact T.bs|exact T.bb))
   |((with_reducible apply DG);(rfl;first|exact iC T.nt T.nl|exact DH T.tt|exact iC T.lt T.ll|exact iC T.st T.sl|exact iC T.it T.il|exact iC T.bt T.bl))
   |((with_reducible apply AY);(infer_instance;infer_instance;(with_reducible assumption);intro r o' hr0 hr1 hbx))
   |((with_reducible apply DR);(infer_instance;infer_instance;ac_rfl;(with_reducible assumption);intro r o' hr0 hr1 hbx))
   |((with_reducible apply Ga);(infer_instance;intro q ob hq0 hbx))
   |((with_reducible apply DS);(infer_instance;intro z))
   |((with_reducible apply DT);(infer_instance))
   |((with_reducible apply AZ);(infer_instance))
   |((with_reducible apply i_part);(infer_instance))
   |((with_reducible apply yU);(infer_instance))
   |((with_reducible apply yV);(skip))
   |((with_reducible apply DM);(ac_rfl))
   |((with_reducible apply FR);(ac_rfl))
   |((with_reducible apply Hi);(ac_rfl))
   |((with_reducible apply yv);(ac_rfl;(simp only [List.length_cons,List.length_nil];decide)))
   |((with_reducible apply AE);(ac_rfl;rfl;rfl))
   |((with_reducible apply fg);(ac_rfl;rfl;(simp only [List.length_cons,List.length_nil];decide)))
   |((with_reducible apply FO);(ac_rfl;rfl;rfl))
   |((with_reducible apply Dm);(ac_rfl;rfl;rfl))
   |((with_reducible apply AL);(skip))
   |((with_reducible apply DC);(skip))
   |((with_reducible apply DB);(skip))
   |((with_reducible apply iY);(skip))
   |((with_reducible apply iB);(skip))
   |((with_reducible apply FT);(skip))
   |((with_reducible apply yL);(skip))
   |((with_reducible apply Hn);(skip))
   |((with_reducible apply Hl);(skip))
   |((with_reducible apply Dq);(infer_instance;infer_instance;infer_instance;infer_instance))
   |((with_reducible apply FS);(skip))
   |((with_reducible apply Hg);(skip))
   |((with_reducible apply Hh);(skip))
   |((with_reducible apply AS);(skip))
   |((with_reducible apply Dp);(skip))
   |((with_reducible apply FP);(skip))
   |((with_reducible apply AD);(skip))
   |((with_reducible apply Do);(skip))
   |((with_reducible apply FN);(skip))
   |((with_reducible apply Dl);(skip))
   |((with_reducible apply Dk);(skip))
   |((with_reducible apply i_V);(rfl))
   |((with_reducible apply uf);(((try and_intros);rfl)))
   |((with_reducible apply GV);(rfl))
   |((with_reducible apply iK);(rfl))
   |((with_reducible apply fz);(rfl))
   |((with_reducible apply ug);(ac_rfl;rfl))
   |((with_reducible apply Ag);(rfl;(simp only [List.length_cons,List.length_nil];decide);((try and_intros);rfl)))
   |((with_reducible apply CY);(ac_rfl;rfl;(simp only [List.length_cons,List.length_nil];decide);((try and_intros);rfl)))
   |((with_reducible apply Ff);(infer_instance))
   |((with_reducible apply Fe);(infer_instance;infer_instance))
   |((with_reducible apply Fh);(decide;decide;decide))
   |((with_reducible apply CV);(first|exact .inl ⟨by first|omega|decide,by first|omega|decide⟩|exact .inr ⟨by first|omega|decide,by first|omega|decide⟩))
   |((with_reducible apply Fu);(infer_instance;infer_instance;intro z hz ez))
   |((with_reducible apply Fi);(infer_instance))
   |((with_reducible apply CT);(contradiction))
   |((with_reducible apply Ft);(contradiction))
   |((with_reducible apply CZ);(contradiction))
   |((with_reducible apply Ak);(decide;infer_instance))
   |((with_reducible apply FE);(infer_instance;infer_instance))
   |((with_reducible apply C5);(ac_rfl))
   |((with_reducible apply C4);(contradiction;infer_instance;infer_instance;intro d hd ed))
   |((with_reducible apply FA);(ac_rfl))
   |((with_reducible apply FC);(ac_rfl))
   |((with_reducible apply Aj);(ac_rfl))
   |((with_reducible apply Fv);(rfl;rfl))
   |((with_reducible apply Hb (n:=0));((first|decide|(simp only [List.length_cons,List.length_nil];decide)))))))
set_option hygiene true
open Rk S6 As
structure Zs where
 (N T A S H:Addr)
abbrev vv0:List Str:=["self","word"]
abbrev vv1:List Str:=["self"]
abbrev vv2:List Str:=["_law_house","_law_layers","_law_typist","_law_deed"]
abbrev vv3:List Str:=["_law_box_here","_law_many"]
abbrev vv4:List Str:=["self","word","times"]
abbrev vv5:List Str:=["self","word","count"]
abbrev vv6:List Str:=["_law_box_here","_law_pool_here"]
abbrev vv7:List Str:=["self","times"]
abbrev vv8:List Str:=["_law_script","_law_k"]
abbrev vv9:List Str:=["_law_box_here"]
abbrev cE:List Str:=["self","beginning"]
abbrev d6:List Str:=["self","before","word"]
abbrev iZ:List Str:=["_law_house","_law_layers","_law_typist"]
abbrev eQ:List Str:=["_law_found","_law_due"]
abbrev eS:List Str:=["mark","era","times"]
abbrev kx:List Str:=["_law_script","_law_first","_law_most"]
abbrev vv16:List Str:=["word","worth","own","before","self"]
abbrev d7:List Str:=["mark","era"]
abbrev i3:List Str:=["self","layers","many"]
abbrev eT:List Str:=["self","sign"]
abbrev fH:List Str:=["self","number"]
abbrev kA:List Str:=["_law_box_here","_law_deed"]
abbrev vv22:List Str:=["word","mark","self","beginning"]
abbrev i4:List Str:=["rated","many"]
abbrev i5:List Str:=["self","house"]
structure Txt (K:PySem.W.Frag) (mg:Str->Option Value) (C L R Y:Addr) (Z:Zs):Prop where
 len:mg "len"=none
 range:mg "range"=none
 all:mg "all"=none
 max:mg "max"=none
 min:mg "min"=none
 sorted:mg "sorted"=none
 isinstance:mg "isinstance"=none
 bool:mg "bool"=none
 int:mg "int"=none
 str:mg "str"=none
 list:mg "list"=none
 tuple:mg "tuple"=none
 ss:PySem.W.kitOne K (.type "str") (.type "str")=some true
 ii:PySem.W.kitOne K (.type "int") (.type "int")=some true
 ib:PySem.W.kitOne K (.type "int") (.type "bool")=some false
 tt:PySem.W.kitOne K (.type "tuple") (.type "tuple")=some true
 ll:PySem.W.kitOne K (.type "list") (.type "list")=some true
 lt:PySem.W.kitOne K (.type "list") (.type "tuple")=some false
 st:PySem.W.kitOne K (.type "str") (.type "tuple")=some false
 it:PySem.W.kitOne K (.type "int") (.type "tuple")=some false
 sl:PySem.W.kitOne K (.type "str") (.type "list")=some false
 il:PySem.W.kitOne K (.type "int") (.type "list")=some false
 bb:PySem.W.kitOne K (.type "bool") (.type "bool")=some true
 is:PySem.W.kitOne K (.type "int") (.type "str")=some false
 nt:PySem.W.kitOne K (.type "NoneType") (.type "tuple")=some false
 nl:PySem.W.kitOne K (.type "NoneType") (.type "list")=some false
 bt:PySem.W.kitOne K (.type "bool") (.type "tuple")=some false
 bl:PySem.W.kitOne K (.type "bool") (.type "list")=some false
 bs:PySem.W.kitOne K (.type "bool") (.type "str")=some false
 c_MOST_SIGNS:∃ tk,mg "MOST_SIGNS"=some (.int 24 tk)
 c_MOST_PARTS:∃ tk,mg "MOST_PARTS"=some (.int 4 tk)
 c_MOST_LETTERS:∃ tk,mg "MOST_LETTERS"=some (.int 12 tk)
 mg_Wood:mg "Wood"=some (.ref C)
 cl:Cls K C
 nm:aN K C "marks"
 nn:aN K C "now"
 mg_Layers:mg "Layers"=some (.ref L)
 cL:Cls K L
 nh:aN K L "house"
 no:aN K L "own"
 nv:aN K L "veiled"
 mg_Pairs:mg "Pairs"=some (.ref R)
 cR:Cls K R
 rm:aN K R "marks"
 rn:aN K R "now"
 mg_Typist:mg "Typist"=some (.ref Y)
 cY:Cls K Y
 yl:aN K Y "layers"
 ym:aN K Y "many"
 yp:aN K Y "pairs"
 yt:aN K Y "text"
 yc:aN K Y "chosen"
 mg_NoWord:mg "NoWord"=some (.ref Z.N)
 mg_Twice:mg "Twice"=some (.ref Z.T)
 mg_Absent:mg "Absent"=some (.ref Z.A)
 mg_NoSign:mg "NoSign"=some (.ref Z.S)
 mg_NoChoice:mg "NoChoice"=some (.ref Z.H)
 x_NoWord:bK K Z.N none=true
 k_NoWord:PySem.W.keepIn K (.ref Z.N)=true
 x_Twice:bK K Z.T none=true
 k_Twice:PySem.W.keepIn K (.ref Z.T)=true
 x_Absent:bK K Z.A none=true
 k_Absent:PySem.W.keepIn K (.ref Z.A)=true
 x_NoSign:bK K Z.S none=true
 k_NoSign:PySem.W.keepIn K (.ref Z.S)=true
 x_NoChoice:bK K Z.H none=true
 k_NoChoice:PySem.W.keepIn K (.ref Z.H)=true
 eNN:PySem.W.exmOne K (.ref Z.N) (.ref Z.N)=some true
 eNT:PySem.W.exmOne K (.ref Z.N) (.ref Z.T)=some false
 eNA:PySem.W.exmOne K (.ref Z.N) (.ref Z.A)=some false
 eNS:PySem.W.exmOne K (.ref Z.N) (.ref Z.S)=some false
 eNH:PySem.W.exmOne K (.ref Z.N) (.ref Z.H)=some false
 eTN:PySem.W.exmOne K (.ref Z.T) (.ref Z.N)=some false
 eTT:PySem.W.exmOne K (.ref Z.T) (.ref Z.T)=some true
 eTA:PySem.W.exmOne K (.ref Z.T) (.ref Z.A)=some false
 eTS:PySem.W.exmOne K (.ref Z.T) (.ref Z.S)=some false
 eTH:PySem.W.exmOne K (.ref Z.T) (.ref Z.H)=some false
 eAN:PySem.W.exmOne K (.ref Z.A) (.ref Z.N)=some false
 eAT:PySem.W.exmOne K (.ref Z.A) (.ref Z.T)=some false
 eAA:PySem.W.exmOne K (.ref Z.A) (.ref Z.A)=some true
 eAS:PySem.W.exmOne K (.ref Z.A) (.ref Z.S)=some false
 eAH:PySem.W.exmOne K (.ref Z.A) (.ref Z.H)=some false
 eSN:PySem.W.exmOne K (.ref Z.S) (.ref Z.N)=some false
 eST:PySem.W.exmOne K (.ref Z.S) (.ref Z.T)=some false
 eSA:PySem.W.exmOne K (.ref Z.S) (.ref Z.A)=some false
 eSS:PySem.W.exmOne K (.ref Z.S) (.ref Z.S)=some true
 eSH:PySem.W.exmOne K (.ref Z.S) (.ref Z.H)=some false
 eHN:PySem.W.exmOne K (.ref Z.H) (.ref Z.N)=some false
 eHT:PySem.W.exmOne K (.ref Z.H) (.ref Z.T)=some false
 eHA:PySem.W.exmOne K (.ref Z.H) (.ref Z.A)=some false
 eHS:PySem.W.exmOne K (.ref Z.H) (.ref Z.S)=some false
 eHH:PySem.W.exmOne K (.ref Z.H) (.ref Z.H)=some true
section
variable {P:Program}{w:World}{K:PySem.W.Frag}{mg:Str->Option Value}{base:Heap}{C L R Y:Addr}{Z:Zs}
theorem Txt.gm (T:Txt K mg C L R Y Z):∀ c,c=C->Cls K c/\aN K c "marks":=λc e=>by subst e;exact ⟨T.cl,T.nm⟩
theorem Txt.gn (T:Txt K mg C L R Y Z):∀ c,c=C->Cls K c/\aN K c "now":=λc e=>by subst e;exact ⟨T.cl,T.nn⟩
theorem Txt.gh (T:Txt K mg C L R Y Z):∀ c,c=L->Cls K c/\aN K c "house":=λc e=>by subst e;exact ⟨T.cL,T.nh⟩
theorem Txt.go (T:Txt K mg C L R Y Z):∀ c,c=L->Cls K c/\aN K c "own":=λc e=>by subst e;exact ⟨T.cL,T.no⟩
theorem Txt.gv (T:Txt K mg C L R Y Z):∀ c,c=L->Cls K c/\aN K c "veiled":=λc e=>by subst e;exact ⟨T.cL,T.nv⟩
theorem Txt.gpm (T:Txt K mg C L R Y Z):∀ c,c=R->Cls K c/\aN K c "marks":=λc e=>by subst e;exact ⟨T.cR,T.rm⟩
theorem Txt.gpn (T:Txt K mg C L R Y Z):∀ c,c=R->Cls K c/\aN K c "now":=λc e=>by subst e;exact ⟨T.cR,T.rn⟩
theorem Txt.gul (T:Txt K mg C L R Y Z):∀ c,c=Y->Cls K c/\aN K c "layers":=λc e=>by subst e;exact ⟨T.cY,T.yl⟩
theorem Txt.gum (T:Txt K mg C L R Y Z):∀ c,c=Y->Cls K c/\aN K c "many":=λc e=>by subst e;exact ⟨T.cY,T.ym⟩
theorem Txt.gup (T:Txt K mg C L R Y Z):∀ c,c=Y->Cls K c/\aN K c "pairs":=λc e=>by subst e;exact ⟨T.cY,T.yp⟩
theorem Txt.gut (T:Txt K mg C L R Y Z):∀ c,c=Y->Cls K c/\aN K c "text":=λc e=>by subst e;exact ⟨T.cY,T.yt⟩
theorem Txt.guc (T:Txt K mg C L R Y Z):∀ c,c=Y->Cls K c/\aN K c "chosen":=λc e=>by subst e;exact ⟨T.cY,T.yc⟩
theorem Txt.gf (T:Txt K mg C L R Y Z){m:Str}{f:Addr}(h:Meth K C m f):∀ c,c=C->Cls K c/\Meth K c m f:=λc e=>by subst e;exact ⟨T.cl,h⟩
theorem Txt.gl (T:Txt K mg C L R Y Z){m:Str}{f:Addr}(h:Meth K L m f):∀ c,c=L->Cls K c/\Meth K c m f:=λc e=>by subst e;exact ⟨T.cL,h⟩
theorem Txt.gp (T:Txt K mg C L R Y Z){m:Str}{f:Addr}(h:Meth K R m f):∀ c,c=R->Cls K c/\Meth K c m f:=λc e=>by subst e;exact ⟨T.cR,h⟩
theorem Txt.gu (T:Txt K mg C L R Y Z){m:Str}{f:Addr}(h:Meth K Y m f):∀ c,c=Y->Cls K c/\Meth K c m f:=λc e=>by subst e;exact ⟨T.cY,h⟩
def aM (o:O):Prop:=∃ a b c d:Int,o=.lst [.int a,.int b,.int c,.int d]
def cj:WSp:=λts S Q=>∃ p m o,ts=[.ref p,.int m]/\0<m/\m<18446744073709551616/\S p=some o/\aM o/\∀ r o',0<=r->r<m->aM o'->Q (.int r) (put S p o')
theorem DR {S:Sto}{Q:T->Sto->Prop}{p:Addr}{m:Int}{o:O}(h1:0<m) (h2:m<18446744073709551616) (e:S p=some o) (f:aM o) (h:∀ r o',0<=r->r<m->aM o'->Q (.int r) (put S p o')) :
  cj ([.ref p,.int m]++[]) S Q:=⟨p,m,o,rfl,h1,h2,e,f,h⟩
theorem AY {S:Sto}{Q:T->Sto->Prop}{p:Addr}{m:Int}{o:O}(h1:0<m) (h2:m<18446744073709551616) (f:aM o) (h:∀ r o',0<=r->r<m->aM o'->Q (.int r) (put S p o')) :
  cj ([.ref p,.int m]++[]) (put S p o) Q:=⟨p,m,o,rfl,h1,h2,aJ,f,λr o' a b c=>by rw [cc];exact h r o' a b c⟩
theorem o7:FnScope ["_law_box_here","_law_many","_law_found"] vv3 (ag fW):=by nofun
theorem A0 {f:Addr}{fd:FuncData}(F:Fun K "_law_take" "_law_take" fW f fd):FnOk P w K mg base CX0 1 f fd vv3 (lSp K cj):=by
 refine a8 F o7 (λts S Q h=>?_) λcdv A outer s H E hr=>?_
 ·obtain ⟨p,m,o,rfl,_⟩:=h;rfl
 have nd:=o7.nd
 refine ⟨_,((ak (dU (λh g=>dP h g) (aI (bn false) (aq rfl (aa 0) af (λ_ _=>rfl)) af) (dQ (aa 0) af (iq 2) (λh1 h2 h3=>dO h1 h2 h3)))
   (ak (aA (kj (EO (aw (aG rfl hr.units) (aq rfl (aa 0) af (λ_ _=>rfl)) af (ay _)) (Co (kX df df (eC af) (aq rfl (aa 0) af (λ_ _=>rfl)) af))))
    (ak (dU (λh g=>dP h g) (aq rfl (aa 0) af (λ_ _=>rfl)) (dQ (aa 0) af (iq 0) (λh1 h2 h3=>dO h1 h2 h3)))
   (ai (dU (λh g=>dP h g) af (dQ (aa 0) af (iq 1) (λh1 h2 h3=>dO h1 h2 h3)))))
    aB)
   (ak (aA (aw (aG rfl hr.units) (aq rfl (aa 0) af (λ_ _=>rfl)) af (ay _))
    (ak (aK (i:=2) nd rfl (Or.inl rfl) (aI dW (aq rfl (aa 0) af (λ_ _=>rfl)) (aa 1)))
   (ak (dU (λh g=>dP h g) (aI nj (aq rfl (aa 0) af (λ_ _=>rfl)) (aa 1)) (dQ (aa 0) af (iq 0) (λh1 h2 h3=>dO h1 h2 h3)))
   (ai (ax (aa 2)))))
    aB)
   (ak (dU (λh g=>dP h g) (aI dW (aI (bn false) (aI (bn false) (aI (gU false) (aI dW (aq rfl (aa 0) af (λ_ _=>rfl)) af) af) (aI (gU false) af (aq rfl (aa 0) af (λ_ _=>rfl)))) af) af) (dQ (aa 0) af (iq 0) (λh1 h2 h3=>dO h1 h2 h3)))
   (ai (ax (aI dW (aI nj (aI dW (aI (gU false) (aq rfl (aa 0) af (λ_ _=>rfl)) af) af) af) (aa 1))))))))),λts S Q h=>?_⟩
 obtain ⟨p,m,o,rfl,h1,h2,hp,⟨a,b,c,d,rfl⟩,hq⟩:=h
 ac_nf
 refine eD (λσ' S'=>σ'=[some (.ref p),some (.int m),none]/\S'=put S p (.lst [.int a,.int b,.int (c+1),.int d])) ?_ ?_
 ·intro X hX
  bv_omega
  exact hX _ _ ⟨rfl,rfl⟩
 rintro σ' S' ⟨rfl,rfl⟩
 refine eD (λσ' S'=>σ'=[some (.ref p),some (.int m),none]/\∃ o',aM o'/\S'=put S p o') ?_ ?_
 ·intro X hX
  (bv_omega;repeat' ((with_reducible refine ifB ?_ ?_)<;>(intro hb;(try simp only [Bool.false_xor,Bool.true_xor,Bool.not_eq_true',Bool.not_eq_false',Bool.not_eq_true,Bool.not_eq_false,Bool.not_not,decide_eq_true_eq,decide_eq_false_iff_not,Int.not_lt,Int.not_le,Bool.not_true,Bool.not_false] at hb);bv_omega)))
  all_goals exact hX _ _ ⟨rfl,_,⟨_,_,_,_,rfl⟩,rfl⟩
 ·rintro σ' S' ⟨rfl,o',⟨a,b,c,d,rfl⟩,rfl⟩
  (bv_omega;repeat' ((with_reducible refine ifB ?_ ?_)<;>(intro hb;(try simp only [Bool.false_xor,Bool.true_xor,Bool.not_eq_true',Bool.not_eq_false',Bool.not_eq_true,Bool.not_eq_false,Bool.not_not,decide_eq_true_eq,decide_eq_false_iff_not,Int.not_lt,Int.not_le,Bool.not_true,Bool.not_false] at hb);bv_omega)))
  all_goals exact .mk (hq _ _ (Int.emod_nonneg _ (by omega)) (Int.emod_lt_of_pos _ h1) ⟨_,_,_,_,rfl⟩)
def jG:WSp:=λts S Q=>∃ (ns:List Int) (k:Int),ts=[.scr ns,.int k]/\0<=k/\∀ z:Int,Q (.int z) S
theorem DS {S:Sto}{Q:T->Sto->Prop}{ns:List Int}{k:Int}(h0:0<=k) (h:∀ z:Int,Q (.int z) S):jG ([.scr ns,.int k]++[]) S Q:=⟨ns,k,rfl,h0,h⟩
theorem oi:FnScope ["_law_script","_law_k","_law_seed"] vv8 (ag fI):=by nofun
theorem A1 {f:Addr}{fd:FuncData}(F:Fun K "_law_cell_at" "_law_cell_at" fI f fd) (T:Txt K mg C L R Y Z):FnOk P w K mg base CX0 1 f fd vv8 (lSp K jG):=by
 refine a8 F oi (λts S Q h=>?_) λcdv A outer s H E hr=>?_
 ·obtain ⟨ns,k,rfl,_⟩:=h;rfl
 have nd:=oi.nd
 refine ⟨_,((ak (aA (aw cD (aa 1) (aO (bq rfl) (by rfl) T.len PySem.boot_len (ad (aa 0) ae (ac rfl))) (ay _))
    (ai (ax (aq rfl (aa 0) (aa 1) (λ_ _=>rfl))))
    aB)
   (ak (aK (i:=2) nd rfl (Or.inl rfl) af)
   (ak (aA (aw vi (aO (bq rfl) (by rfl) T.len PySem.boot_len (ad (aa 0) ae (ac rfl))) af (ay _))
    (ai (aK (i:=2) nd rfl (Or.inl rfl) (aq rfl (aa 0) (aI dW (aa 1) (aO (bq rfl) (by rfl) T.len PySem.boot_len (ad (aa 0) ae (ac rfl)))) (λ_ _=>rfl))))
    aB)
   (ai (ax (aI (bn false) (aI (gU false) (aI dW (aI (bn false) (aI (bn false) (aI (gU false) (aI dW (aa 2) af) af) (aI (gU false) (aa 1) af)) af) af) af) af))))))),λts S Q h=>?_⟩
 obtain ⟨ns,k,rfl,h0,hq⟩:=h
 ac_nf
 refine eD (λσ' S'=>σ'=[some (.scr ns),some (.int k),none]/\S=S') ?_ ?_
 ·intro X hX
  (bv_omega;repeat' ((with_reducible refine ifB ?_ ?_)<;>(intro hb;(try simp only [Bool.false_xor,Bool.true_xor,Bool.not_eq_true',Bool.not_eq_false',Bool.not_eq_true,Bool.not_eq_false,Bool.not_not,decide_eq_true_eq,decide_eq_false_iff_not,Int.not_lt,Int.not_le,Bool.not_true,Bool.not_false] at hb);bv_omega)))
  ·refine ui h0 hb λz _ _=>?_
   bv_omega
   exact .mk (hq _)
  ·exact hX _ _ ⟨rfl,rfl⟩
 rintro σ' S' ⟨rfl,rfl⟩
 refine eD (λσ' S'=>∃ z:Int,σ'=[some (.scr ns),some (.int k),some (.int z)]/\S=S') ?_ ?_
 ·intro X hX
  bv_omega
  exact hX _ _ ⟨_,rfl,rfl⟩
 rintro σ' S' ⟨z,rfl,rfl⟩
 refine eD (λσ' S'=>∃ z:Int,σ'=[some (.scr ns),some (.int k),some (.int z)]/\S=S') ?_ ?_
 ·intro X hX
  (bv_omega;repeat' ((with_reducible refine ifB ?_ ?_)<;>(intro hb;(try simp only [Bool.false_xor,Bool.true_xor,Bool.not_eq_true',Bool.not_eq_false',Bool.not_eq_true,Bool.not_eq_false,Bool.not_not,decide_eq_true_eq,decide_eq_false_iff_not,Int.not_lt,Int.not_le,Bool.not_true,Bool.not_false] at hb);bv_omega)))
  ·refine ui (Int.emod_nonneg _ (by omega)) (Int.emod_lt_of_pos _ hb) λz _ _=>?_
   bv_omega
   exact hX _ _ ⟨_,rfl,rfl⟩
  ·exact hX _ _ ⟨_,rfl,rfl⟩
 rintro σ' S' ⟨z,rfl,rfl⟩
 bv_omega
 exact .mk (hq _)
def iE:WSp:=λts S Q=>∃ (ns:List Int) (k:Int),ts=[.scr ns,.int k]/\0<=k/\∀ p o,S p=none->aM o->Q (.ref p) (put S p o)
theorem Ga {S:Sto}{Q:T->Sto->Prop}{ns:List Int}{k:Int}(h0:0<=k) (h:∀ p o,S p=none->aM o->Q (.ref p) (put S p o)):iE ([.scr ns,.int k]++[]) S Q:=⟨ns,k,rfl,h0,h⟩
theorem pG:FnScope ["_law_script","_law_k","_law_cell"] vv8 (ag gx):=by nofun
theorem DU {f f1:Addr}{fd fd1:FuncData}(F:Fun K "_law_box" "_law_box" gx f fd) (G__law_cell_at:FnOk P w K mg base CX0 1 f1 fd1 vv8 (lSp K jG)) (D__law_cell_at:Df K mg "_law_cell_at" f1 fd1 vv8) :
  FnOk P w K mg base CX0 2 f fd vv8 (lSp K iE):=by
 refine a8 F pG (λts S Q h=>?_) λcdv A outer s H E hr=>?_
 ·obtain ⟨ns,k,rfl,_⟩:=h;rfl
 have nd:=pG.nd
 refine ⟨_,((ak (aK (i:=2) nd rfl (Or.inl rfl) (az G__law_cell_at D__law_cell_at hr.m (by rfl) (ad (aa 0) (ad (aa 1) ae (ac rfl)) (ac rfl))))
   (ai (ax (mt (ad (aI nj (aa 2) af) (ad (aI dW (aa 2) af) (ad af (ad (aa 2) ae (ac rfl)) (ac rfl)) (ac rfl)) (ac rfl))))))),λts S Q h=>?_⟩
 obtain ⟨ns,k,rfl,h0,hq⟩:=h
 ac_nf
 bv_omega
 exact λp hp=>.mk (hq p _ hp ⟨_,_,_,_,rfl⟩)
def mK:WSp:=λts S Q=>∃ p o,ts=[.ref p]/\S p=some o/\aM o/\∀ z o',Wm.Wd z=true->aM o'->Q (.str z) (put S p o')
theorem AX {S:Sto}{Q:T->Sto->Prop}{p:Addr}{o:O}(f:aM o) (h:∀ z o',Wm.Wd z=true->aM o'->Q (.str z) (put S p o')):mK ([.ref p]++[]) (put S p o) Q :=
 ⟨p,o,rfl,aJ,f,λz o' a b=>by rw [cc];exact h z o' a b⟩
theorem A2 {z:Str}(h:Tm.tl z=[]):z="":=by
 obtain ⟨a⟩:=z
 have:a=#[]:=Array.toList_inj.mp h
 rw [this];rfl
structure Mkw (z:Str) (zs:List Str):Prop where
 pt:∀ y∈zs,Sc.isP (Tm.tl y)=true
 eq:Tm.tl z=Tm.aY [32] (zs.map Tm.tl)
 le:z.length<=24
theorem Mkw.ne {z:Str}{zs:List Str}(h:Mkw z zs) (hz:z ≠ ""):zs≠[]:=λe=>hz (A2 (by rw [h.eq,e];rfl))
theorem Mkw.one {y:Str}(h:Sc.isP (Tm.tl y)=true) (hl:y.length<=24):Mkw y [y]:=⟨by simpa using h,rfl,hl⟩
theorem Mkw.more {z y:Str}{zs:List Str}(h:Mkw z zs) (hz:z ≠ "") (hy:Sc.isP (Tm.tl y)=true) (hl:(z ++ " " ++ y).length<=24):Mkw (z ++ " " ++ y) (zs++[y]):=by
 refine ⟨λx hx=>?_,?_,hl⟩
 ·rcases List.mem_append.mp hx with q|q
  ·exact h.pt x q
  ·rw [List.mem_singleton.mp q];exact hy
 ·rw [Tm.gP,Tm.gP,h.eq,List.map_append,List.map_cons,List.map_nil,Wm.qg _ _ (by simpa using h.ne hz),Tm.j4,List.append_assoc]
  rfl
theorem Mkw.wd {z:Str}{zs:List Str}(h:Mkw z zs) (hn:zs≠[]) (h4:zs.length<=4):Wm.Wd z=true:=by
 have:=Wm.AT h.pt hn h4
 rw [Tm.jC,Tm.j4,<- h.eq] at this
 unfold Wm.Wd
 rw [this,decide_eq_true h.le];rfl
theorem o8:FnScope ["_law_box_here","_law_letters","_law_word_here","_law_k","_law_size","_law_part"] vv9 (ag fX):=by nofun
theorem A3 {f f1:Addr}{fd fd1:FuncData}(F:Fun K "_law_word" "_law_word" fX f fd) (T:Txt K mg C L R Y Z) (G__law_take:FnOk P w K mg base CX0 1 f1 fd1 vv3 (lSp K cj)) (D__law_take:Df K mg "_law_take" f1 fd1 vv3) :
  FnOk P w K mg base CX0 2 f fd vv9 (lSp K mK):=by
 refine a8 F o8 (λts S Q h=>?_) λcdv A outer s H E hr=>?_
 ·obtain ⟨p,o,rfl,_⟩:=h;rfl
 have nd:=o8.nd
 refine ⟨_,((ak (aK (i:=1) nd rfl (Or.inr rfl) (aq rfl (bd (ad au (ad au (ad au ae (ac rfl)) (ac rfl)) (ac rfl))) (az G__law_take D__law_take hr.m (by rfl) (ad (aa 0) (ad af ae (ac rfl)) (ac rfl))) (λ_ _=>rfl)))
   (ak (aK (i:=2) nd rfl (Or.inl rfl) au)
   (ak (iJ PassesOwn.never rfl (jo (by rfl) T.range (aq rfl (bd (ad af (ad af (ad af (ad af (ad af (ad af (ad af ae (ac rfl)) (ac rfl)) (ac rfl)) (ac rfl)) (ac rfl)) (ac rfl)) (ac rfl))) (az G__law_take D__law_take hr.m (by rfl) (ad (aa 0) (ad af ae (ac rfl)) (ac rfl))) (λ_ _=>rfl))) (bi (i:=3) nd rfl (Or.inl rfl))
    (ak (aK (i:=4) nd rfl (Or.inl rfl) (aq rfl (bd (ad af (ad af (ad af (ad af (ad af (ad af (ad af ae (ac rfl)) (ac rfl)) (ac rfl)) (ac rfl)) (ac rfl)) (ac rfl)) (ac rfl))) (az G__law_take D__law_take hr.m (by rfl) (ad (aa 0) (ad af ae (ac rfl)) (ac rfl))) (λ_ _=>rfl)))
   (ak (aK (i:=5) nd rfl (Or.inl rfl) (d5 rfl PySem.F.plainAttrs_str PySem.F.slot_str_join PySem.F.type_str_join (CC rfl) au (ad (em false ["_law_j","_law_letters","_law_box_here"] 1 [1,0] rfl (jo (by rfl) T.range (aa 4)) (λ_ _ _ _=>(bi (i:=0) (show List.Nodup (["_law_j","_law_letters","_law_box_here"]:List Str) from by decide +kernel) rfl (Or.inl rfl))) (λ_ _ _ _=>cW) (λ_ _ _ _=>(aq rfl (aa 1) (az G__law_take D__law_take hr.m (by rfl) (ad (aa 2) (ad (aO (bq rfl) (by rfl) T.len PySem.boot_len (ad (aa 1) ae (ac rfl))) ae (ac rfl)) (ac rfl))) (λ_ _=>rfl)))) ae (ac rfl)) (λh1 h2 h3=>dS PySem.F.plainAttrs_str PySem.F.slot_str_join PySem.F.type_str_join h2 h1 h3)))
   (ai (aA (aw (aG rfl hr.units) (aa 2) au (ay _))
    (ai (aK (i:=2) nd rfl (Or.inl rfl) (aa 5)))
    (ai (aA (aw df (aI (bn false) (aI (bn false) (aO (bq rfl) (by rfl) T.len PySem.boot_len (ad (aa 2) ae (ac rfl))) af) (aa 4)) af (ay _))
    (ai (aK (i:=2) nd rfl (Or.inl rfl) (aI (bn false) (aI (bn false) (aa 2) au) (aa 5))))
    aB)))))))
   (ai (ax (aa 2))))))),λts S Q h=>?_⟩
 obtain ⟨p,o,rfl,hp,hf,hq⟩:=h
 ac_nf
 bv_omega
 refine eE (λt=>∃ z:Str,t=.str z/\1<=z.length/\z.length<=26/\(Tm.tl z).all Sc.isL=true) hr0 ?_ ?_ ?_
 ·simpa using hr1
 ·intro t ht
  simp only [List.mem_cons,List.not_mem_nil,or_false] at ht
  rcases ht with rfl|rfl|rfl<;>exact ⟨_,rfl,by decide +kernel,by decide +kernel,by decide +kernel⟩
 rintro _ ⟨le,rfl,hle1,hle2,hle3⟩
 bv_omega
 refine eE (λt=>∃ z:Int,t=.int z/\1<=z/\z<=4) hr0 ?_ ?_ ?_
 ·simpa using hr1
 ·simp
 rintro _ ⟨m,rfl,hm1,hm2⟩
 bv_omega
 refine kI (λk σ' S'=>∃ (z:Str) (zs:List Str) (o2:O) (u v q:Option T2.T),Mkw z zs/\zs.length<=k/\(1<=k->zs≠[])/\σ'=[some (.ref p),some (.str le),some (.str z),u,v,q]/\S'=put S p o2/\aM o2)
  ⟨"",[],_,none,none,none,⟨by simp,rfl,by decide⟩,Nat.zero_le _,λh=>absurd h (by decide),rfl,rfl,hbx⟩ ?_ ?_
 ·rintro k σ' S' N hk ⟨z,zs,o2,u,v,q,hmk,hzk,hz1,rfl,rfl,hb2⟩ hN
  have hz24:=hmk.le
  refine ⟨trivial,?_⟩
  have hk4:k<4:=by omega
  bv_omega
  refine eE (λt=>∃ z:Int,t=.int z/\1<=z/\z<=12) hr0 ?_ ?_ ?_
  ·simpa using hr1
  ·simp
  rintro _ ⟨n,rfl,hn1,hn2⟩
  bv_omega
  refine hJ (λitems acc σ' S'=>∃ (ys:List Str) (u:Option T2.T) (o4:O),acc=ys.map T2.T.str/\(∀ y∈ys,∃ c,y=⟨#[c]⟩/\Sc.isL c=true)/\ys.length+items.length=n.toNat/\σ'=[u,some (.str le),some (.ref p)]/\S'=put S p o4/\aM o4)
   ⟨[],none,_,rfl,by simp,by simp [bR],rfl,rfl,by assumption⟩ ?_ ?_
  ·rintro t ts acc σ' S' N2 ⟨ys,u,o4,rfl,hys,hl,rfl,rfl,hb4⟩ hN2
   simp only [List.length_cons] at hl
   refine ⟨trivial,?_⟩
   bv_omega
   refine ⟨by rw [List.length_map,sizeLine_eq];omega,hN2 _ _ _ ⟨ys++[⟨#[d]⟩],_,_,by simp,?_,by simp;omega,rfl,rfl,by assumption⟩⟩
   intro y hy
   rcases List.mem_append.mp hy with h|h
   ·exact hys y h
   ·exact ⟨d,List.mem_singleton.mp h,List.all_eq_true.mp hle3 d hd⟩
  ·rintro acc σ' S' ⟨ys,u,o4,rfl,hys,hl,rfl,rfl,hb4⟩
   have hl2:ys.length=n.toNat:=by simpa using hl
   have hy1:∀ y∈ys,y.length<=1:=λy hy=>by obtain ⟨c,rfl,_⟩:=hys y hy;exact Nat.le_refl _
   refine ⟨trivial,?_⟩
   bv_omega
   refine Al (Tm.yo ys) (Tm.Dg (b:=1) hy1 (by rw [Tm.kP];omega)) ?_
   have hj:=Tm.Aw "" (b:=1) ys hy1
   rw [Tm.kP] at hj
   have hpt:Sc.isP (Tm.tl (Txt.join "" ys))=true:=Wm.ju hys (by omega) (by omega)
   have hj12:(Txt.join "" ys).length<=n.toNat:=by omega
   generalize Txt.join "" ys=pt at hj12 hpt
   (bv_omega;repeat' ((with_reducible refine ifB ?_ ?_)<;>(intro hb;(try simp only [Bool.false_xor,Bool.true_xor,Bool.not_eq_true',Bool.not_eq_false',Bool.not_eq_true,Bool.not_eq_false,Bool.not_not,decide_eq_true_eq,decide_eq_false_iff_not,Int.not_lt,Int.not_le,Bool.not_true,Bool.not_false] at hb);bv_omega)))
   ·exact hN _ _ ⟨pt,[pt],_,_,_,_,Mkw.one hpt (by omega),by simp,by simp,rfl,rfl,hb4⟩
   ·refine hN _ _ ⟨z ++ " " ++ pt,zs++[pt],_,_,_,_,Mkw.more hmk (by first|assumption|simpa using hb_1|simpa using hb) hpt ?_,by simp;omega,by simp,rfl,rfl,hb4⟩
    simp only [PySem.Str.length_append,Tm.qa];omega
   ·exact hN _ _ ⟨z,zs,_,_,_,_,hmk,by omega,λ_=>hmk.ne (by first|assumption|simpa using hb_1|simpa using hb),rfl,rfl,hb4⟩
 ·rintro σ' S' ⟨z,zs,o2,u,v,q,hmk,hzk,hz1,rfl,rfl,hb2⟩
  refine ⟨trivial,?_⟩
  bv_omega
  exact .mk (hq _ _ (hmk.wd (hz1 (by omega)) (by omega)) hb2)
def Wds (ws:List Str):Prop:=ws.Nodup/\(∀ z∈ws,Wm.Wd z=true)
theorem _root_.T2.Le.of_put {S S':Sto}{l:Addr}{o:O}(h:S l=none) (le:Le (put S l o) S'):Le S S':=(Le.put h).trans le
theorem _root_.T2.Le.at {S S':Sto}{l:Addr}{o:O}(le:Le (put S l o) S'):S' l=some o:=le l o aJ
theorem _root_.T2.Le.new {S S':Sto}{l:Addr}{o:O}(le:Le S S') (h:S' l=none):Le S (put S' l o):=le.trans (Le.put h)
theorem _root_.T2.Le.chg {S S':Sto}{l:Addr}{o:O}(le:Le S S') (h:S l=none):Le S (put S' l o):=λa u e=>by
 have:a≠l:=λz=>by rw [z,h] at e;cases e
 rw [aD this];exact le a u e
def tD:WSp:=λts S Q=>∃ (ns:List Int) (a m:Int),ts=[.scr ns,.int a,.int m]/\0<=a/\a<1000/\1<=m/\m<=10/\∀ ws:List Str,Wds ws->1<=ws.length->ws.length<=10->Q (.lst (ws.map T.str)) S
theorem o9:FnScope ["_law_script","_law_first","_law_most","_law_pool_here","_law_k","_law_word_here"] kx (ag fY):=by nofun
theorem A4 {f f1 f2:Addr}{fd fd1 fd2:FuncData}(F:Fun K "_law_pool" "_law_pool" fY f fd) (T:Txt K mg C L R Y Z) (G__law_box:FnOk P w K mg base CX0 2 f1 fd1 vv8 (lSp K iE)) (D__law_box:Df K mg "_law_box" f1 fd1 vv8)
  (G__law_word:FnOk P w K mg base CX0 2 f2 fd2 vv9 (lSp K mK)) (D__law_word:Df K mg "_law_word" f2 fd2 vv9) :
  FnOk P w K mg base CX0 3 f fd kx (lSp K tD):=by
 refine a8 F o9 (λts S Q h=>?_) λcdv A outer s H E hr=>?_
 ·obtain ⟨ns,a,m,rfl,_⟩:=h;rfl
 have nd:=o9.nd
 refine ⟨_,((ak (aK (i:=3) nd rfl (Or.inl rfl) (mt ae))
   (ak (iJ PassesOwn.never rfl (p8 (by rfl) T.range (aa 1) (aI (bn false) (aa 1) (aa 2))) (bi (i:=4) nd rfl (Or.inl rfl))
    (ak (aK (i:=5) nd rfl (Or.inl rfl) (az G__law_word D__law_word hr.m (by rfl) (ad (az G__law_box D__law_box hr.m (by rfl) (ad (aa 0) (ad (aa 4) ae (ac rfl)) (ac rfl))) ae (ac rfl))))
   (ai (aA (aw (lP rfl) (aa 5) (aa 3) (by with_unfolding_all rfl))
    (ai (bH (d5 rfl PySem.F.plainAttrs_list PySem.F.slot_list_append PySem.F.type_list_append qz (aa 3) (ad (aa 5) ae (ac rfl)) (λh1 h2 h3=>dS PySem.F.plainAttrs_list PySem.F.slot_list_append PySem.F.type_list_append h2 h1 h3))))
    aB))))
   (ai (ax (aa 3)))))),λts S Q h=>?_⟩
 obtain ⟨ns,a,m,rfl,ha0,ha1,hm0,hm1,hq⟩:=h
 ac_nf
 bv_omega
 intro l hl0
 bv_omega
 refine kI (λk σ' S'=>∃ (ws:List Str) (u v:Option T2.T),Wds ws/\ws.length<=k/\(1<=k->1<=ws.length)/\σ'=[some (.scr ns),some (.int a),some (.int m),some (.ref l),u,v]/\Le (put S l (.lst (ws.map T2.T.str))) S')
  ⟨[],none,none,⟨List.nodup_nil,by simp⟩,Nat.le_refl _,λh=>absurd h (by decide),rfl,Le.refl⟩ ?_ ?_
 ·rintro k σ' S' N hk ⟨ws,u,v,hws,hlen,hne,rfl,le⟩ hN
  refine ⟨trivial,?_⟩
  have hl:=Le.at le
  have hk10:k<10:=by omega
  bv_omega
  have hlq:l≠q:=λe=>by rw [e,hq0] at hl;cases hl
  bv_omega
  have le2:Le (put S l (.lst (ws.map T2.T.str))) (put S' q o'):=le.new hq0
  refine ifB (λhb=>?_) λhb=>?_
  ·have hn:z∉ws:=by simpa using hb
   bv_omega
   refine qA ((aD hlq).trans hl) (by rw [List.length_map,sizeLine_eq];omega) ?_
   refine hN _ _ ⟨ws++[z],_,_,⟨?_,?_⟩,?_,λ_=>by rw [List.length_append,List.length_singleton];omega,rfl,?_⟩
   ·rw [List.nodup_append]
    exact ⟨hws.1,by simp,λx hx y hy e=>by rw [List.mem_singleton] at hy;subst hy;subst e;exact hn hx⟩
   ·intro y hy
    rcases List.mem_append.mp hy with h|h
    ·exact hws.2 y h
    ·rw [List.mem_singleton.mp h];exact hzw
   ·rw [List.length_append,List.length_singleton];omega
   ·rw [List.map_append]
    exact Le.put2 (Le.of_put hl0 le2)
  ·bv_omega
   exact hN _ _ ⟨ws,_,_,hws,by omega,λ_=>List.length_pos_of_mem (show z∈ws by simpa using hb),rfl,le2⟩
 ·rintro σ' S' ⟨ws,u,v,hws,hlen,hne,rfl,le⟩
  refine ⟨trivial,?_⟩
  bv_omega
  exact .frz (Le.at le) (Le.of_put hl0 le) hl0 (hq ws hws (hne (by omega)) (by omega))
def lX:WSp:=λts S Q=>∃ p o,ts=[.ref p]/\S p=some o/\aM o/\∀ (z:Int) o',0<=z->z<=1000000000->aM o'->Q (.int z) (put S p o')
theorem yT {S:Sto}{Q:T->Sto->Prop}{p:Addr}{o:O}(f:aM o) (h:∀ (z:Int) o',0<=z->z<=1000000000->aM o'->Q (.int z) (put S p o')):lX ([.ref p]++[]) (put S p o) Q:=⟨p,o,rfl,aJ,f,λz o' a b c=>by rw [cc];exact h z o' a b c⟩
theorem oN:FnScope vv9 vv9 (ag fN):=by nofun
theorem yW {f f1:Addr}{fd fd1:FuncData}(F:Fun K "_law_count" "_law_count" fN f fd) (G__law_take:FnOk P w K mg base CX0 1 f1 fd1 vv3 (lSp K cj)) (D__law_take:Df K mg "_law_take" f1 fd1 vv3) :
  FnOk P w K mg base CX0 2 f fd vv9 (lSp K lX):=by
 refine a8 F oN (λts S Q h=>?_) λcdv A outer s H E hr=>?_
 ·obtain ⟨p,o,rfl,_⟩:=h;rfl
 have nd:=oN.nd
 refine ⟨_,((ai (ax (aq rfl (bd (ad (az G__law_take D__law_take hr.m (by rfl) (ad (aa 0) (ad af ae (ac rfl)) (ac rfl))) (ad (az G__law_take D__law_take hr.m (by rfl) (ad (aa 0) (ad af ae (ac rfl)) (ac rfl))) (ad (az G__law_take D__law_take hr.m (by rfl) (ad (aa 0) (ad (aI (bn false) (aI nr af af) af) ae (ac rfl)) (ac rfl))) ae (ac rfl)) (ac rfl)) (ac rfl))) (az G__law_take D__law_take hr.m (by rfl) (ad (aa 0) (ad af ae (ac rfl)) (ac rfl))) (λ_ _=>rfl))))),λts S Q h=>?_⟩
 obtain ⟨p,o,rfl,hp,hf,hq⟩:=h
 ac_nf
 bv_omega
 try simp only [Int.reduceToNat,Int.reducePow] at *
 refine eE (λt=>∃ z:Int,t=.int z/\0<=z/\z<=1000000000) hr0 ?_ ?_ ?_
 ·simp only [List.length_cons,List.length_nil];omega
 ·intro t ht
  simp only [List.mem_cons,List.not_mem_nil,or_false] at ht
  rcases ht with rfl|rfl|rfl<;>exact ⟨_,rfl,by omega,by omega⟩
 rintro _ ⟨m,rfl,hm1,hm2⟩
 bv_omega
 exact .mk (hq _ _ (by omega) (by omega) hbx)
def lY:WSp:=λts S Q=>∃ p o,ts=[.ref p]/\S p=some o/\aM o/\∀ (z:Int) o',1<=z->z<=1000000->aM o'->Q (.int z) (put S p o')
theorem yS {S:Sto}{Q:T->Sto->Prop}{p:Addr}{o:O}(f:aM o) (h:∀ (z:Int) o',1<=z->z<=1000000->aM o'->Q (.int z) (put S p o')):lY ([.ref p]++[]) (put S p o) Q:=⟨p,o,rfl,aJ,f,λz o' a b c=>by rw [cc];exact h z o' a b c⟩
theorem oO:FnScope vv9 vv9 (ag fO):=by nofun
theorem yX {f f1:Addr}{fd fd1:FuncData}(F:Fun K "_law_times" "_law_times" fO f fd) (G__law_take:FnOk P w K mg base CX0 1 f1 fd1 vv3 (lSp K cj)) (D__law_take:Df K mg "_law_take" f1 fd1 vv3) :
  FnOk P w K mg base CX0 2 f fd vv9 (lSp K lY):=by
 refine a8 F oO (λts S Q h=>?_) λcdv A outer s H E hr=>?_
 ·obtain ⟨p,o,rfl,_⟩:=h;rfl
 have nd:=oO.nd
 refine ⟨_,((ai (ax (aI (bn false) af (aq rfl (bd (ad (az G__law_take D__law_take hr.m (by rfl) (ad (aa 0) (ad af ae (ac rfl)) (ac rfl))) (ad (az G__law_take D__law_take hr.m (by rfl) (ad (aa 0) (ad af ae (ac rfl)) (ac rfl))) (ad (az G__law_take D__law_take hr.m (by rfl) (ad (aa 0) (ad (aI nr af af) ae (ac rfl)) (ac rfl))) ae (ac rfl)) (ac rfl)) (ac rfl))) (az G__law_take D__law_take hr.m (by rfl) (ad (aa 0) (ad af ae (ac rfl)) (ac rfl))) (λ_ _=>rfl)))))),λts S Q h=>?_⟩
 obtain ⟨p,o,rfl,hp,hf,hq⟩:=h
 ac_nf
 bv_omega
 try simp only [Int.reduceToNat,Int.reducePow] at *
 refine eE (λt=>∃ z:Int,t=.int z/\0<=z/\z<=999999) hr0 ?_ ?_ ?_
 ·simp only [List.length_cons,List.length_nil];omega
 ·intro t ht
  simp only [List.mem_cons,List.not_mem_nil,or_false] at ht
  rcases ht with rfl|rfl|rfl<;>exact ⟨_,rfl,by omega,by omega⟩
 rintro _ ⟨m,rfl,hm1,hm2⟩
 bv_omega
 exact .mk (hq _ _ (by omega) (by omega) hbx)
end
section
variable {P:Program}{w:World}{K:PySem.W.Frag}{mg:Str->Option Value}{base:Heap}{C L R Y:Addr}{Z:Zs}
def jr:WSp:=λts S Q=>∃ c:Nat,ts=[.str ⟨#[c]⟩]/\Q (.bl (Sc.isL c)) S
theorem yV {S:Sto}{Q:T->Sto->Prop}{c:Nat}(h:Q (.bl (Sc.isL c)) S):jr ([.str ⟨#[c]⟩]++[]) S Q:=⟨c,rfl,h⟩
theorem oP:FnScope ["sign"] ["sign"] (ag fL):=by nofun
theorem xt {f:Addr}{fd:FuncData}(F:Fun K "is_letter" "is_letter" fL f fd):FnOk P w K mg base CX0 1 f fd ["sign"] (lSp K jr):=by
 refine a8 F oP (λts S Q h=>?_) λcdv A outer s H E hr=>?_
 ·obtain ⟨c,rfl,_⟩:=h;rfl
 have nd:=oP.nd
 refine ⟨_,((ai (ax (qU df df au (aa 0) au)))),λts S Q h=>?_⟩
 obtain ⟨c,rfl,hq⟩:=h
 rw [<- Wm.DO] at hq
 ac_nf
 bv_omega
 refine ifB (λhb=>?_) λhb=>?_
 ·bv_omega
  rw [hb,Bool.true_and] at hq
  exact .mk hq
 ·rw [hb,Bool.false_and] at hq
  exact .mk hq
def lf:WSp:=λts S Q=>∃ z:Str,ts=[.str z]/\z.length<=1000/\Q (.bl (Sc.isP (Tm.tl z))) S
theorem yU {S:Sto}{Q:T->Sto->Prop}{z:Str}(h0:z.length<=1000) (h:Q (.bl (Sc.isP (Tm.tl z))) S):lf ([.str z]++[]) S Q:=⟨z,rfl,h0,h⟩
theorem pH:FnScope ["text"] ["text"] (ag gk):=by nofun
theorem xu {f f1:Addr}{fd fd1:FuncData}(F:Fun K "is_part" "is_part" gk f fd) (T:Txt K mg C L R Y Z) (G_is_letter:FnOk P w K mg base CX0 1 f1 fd1 ["sign"] (lSp K jr)) (D_is_letter:Df K mg "is_letter" f1 fd1 ["sign"]) :
  FnOk P w K mg base CX0 2 f fd ["text"] (lSp K lf):=by
 refine a8 F pH (λts S Q h=>?_) λcdv A outer s H E hr=>?_
 ·obtain ⟨c,rfl,_⟩:=h;rfl
 have nd:=pH.nd
 refine ⟨_,((ai (ax (el (qU df df af (aO (bq rfl) (by rfl) T.len PySem.boot_len (ad (aa 0) ae (ac rfl))) (iA (n:=12) (by rfl) T.c_MOST_LETTERS)) (eA (aO (ud rfl rfl) (by rfl) T.all PyProof.Rows.boot_all (ad (em false ["sign"] 1 [] rfl (Cw (aa 0)) (λ_ _ _ _=>(bi (i:=0) (show List.Nodup (["sign"]:List Str) from by decide +kernel) rfl (Or.inl rfl))) (λ_ _ _ _=>cW) (λ_ _ _ _=>(az G_is_letter D_is_letter hr.m (by rfl) (ad (aa 0) ae (ac rfl))))) ae (ac rfl)))))))),λts S Q h=>?_⟩
 obtain ⟨z,rfl,hz,hq⟩:=h
 have e:Sc.isP (Tm.tl z)=(decide (1<=(z.length:Int))&&decide ((z.length:Int)<=12)&&(Tm.tl z).all Sc.isL):=by
  unfold Sc.isP
  rw [Tm.len]
  congr 1
  congr 1
  ·rw [Bool.eq_iff_iff];simp only [decide_eq_true_eq];omega
  ·rw [Bool.eq_iff_iff];simp only [decide_eq_true_eq];omega
 rw [e] at hq
 ac_nf
 bv_omega
 refine ifB (λhb=>?_) λhb=>?_
 ·rw [hb,Bool.true_and] at hq
  bv_omega
  refine ifB (λhb=>?_) λhb=>?_
  ·rw [hb,Bool.true_and] at hq
   bv_omega
   refine eW (ls:=Tm.tl z) (λc=>T2.T.str ⟨#[c]⟩) (λc=>some (.bl (Sc.isL c))) [] ?_ ?_ (λx hx u acc N hacc hN=>?_) ?_
   ·trivial
   ·rw [Tm.len,sizeLine_eq];omega
   ·bv_omega
    exact ⟨hacc,hN _⟩
   ·bv_omega
    refine sG (bs:=(Tm.tl z).map Sc.isL) (by rw [<- Wm.all_map,List.map_map];rw [Wm.rE];rfl) ?_
    rw [List.all_map]
    exact .mk hq
  ·rw [hb,Bool.false_and] at hq
   exact .mk hq
 ·rw [hb,Bool.false_and,Bool.false_and] at hq
  bv_omega
  exact .mk hq
def hU:WSp:=λts S Q=>∃ z:Str,ts=[.str z]/\z.length<=1000/\Q (.bl (Wm.Wd z)) S
theorem pI:FnScope ["thing","parts"] ["thing"] (ag gr):=by nofun
theorem xv {f f1:Addr}{fd fd1:FuncData}(F:Fun K "is_word" "is_word" gr f fd) (T:Txt K mg C L R Y Z) (G_is_part:FnOk P w K mg base CX0 2 f1 fd1 ["text"] (lSp K lf)) (D_is_part:Df K mg "is_part" f1 fd1 ["text"]) :
  FnOk P w K mg base CX0 3 f fd ["thing"] (lSp K hU):=by
 refine a8 F pI (λts S Q h=>?_) λcdv A outer s H E hr=>?_
 ·obtain ⟨c,rfl,_⟩:=h;rfl
 have nd:=pI.nd
 refine ⟨_,((ak (aA (kj (nJ (bP (bp (aO (c9 rfl) (by rfl) T.isinstance PyProof.Rows.boot_isinstance (ad (aa 0) (ad (cv (n:="str") (by rfl) T.str PyProof.Rows.boot_str) ae (ac rfl)) (ac rfl))))) (ni (aw vi (aO (bq rfl) (by rfl) T.len PySem.boot_len (ad (aa 0) ae (ac rfl))) (iA (n:=24) (by rfl) T.c_MOST_SIGNS) (ay _)))))
    (ai (ax dZ))
    aB)
   (ak (aK (i:=1) nd rfl (Or.inl rfl) (d5 rfl PySem.F.plainAttrs_str PySem.F.slot_str_split PySem.F.type_str_split (Ac false) (aa 0) (ad au ae (ac rfl)) (λh1 h2 h3=>dS PySem.F.plainAttrs_str PySem.F.slot_str_split PySem.F.type_str_split h2 h1 h3)))
   (ai (ax (el (c7 df (aO (bq rfl) (by rfl) T.len PySem.boot_len (ad (aa 1) ae (ac rfl))) (iA (n:=4) (by rfl) T.c_MOST_PARTS) (ay _)) (eA (aO (ud rfl rfl) (by rfl) T.all PyProof.Rows.boot_all (ad (em false ["part"] 1 [] rfl (cV rfl (aa 1)) (λ_ _ _ _=>(bi (i:=0) (show List.Nodup (["part"]:List Str) from by decide +kernel) rfl (Or.inl rfl))) (λ_ _ _ _=>cW) (λ_ _ _ _=>(az G_is_part D_is_part hr.m (by rfl) (ad (aa 0) ae (ac rfl))))) ae (ac rfl)))))))))),λts S Q h=>?_⟩
 obtain ⟨z,rfl,hz,hq⟩:=h
 ac_nf
 ·unfold Wm.Wd at hq
  bv_omega
  refine ifB (λhb=>?_) λhb=>?_
  ·bv_omega
   have hb:=of_decide_eq_true hb
   rw [decide_eq_false (by omega),Bool.false_and] at hq
   exact .mk hq
  ·have hb:=of_decide_eq_false hb
   rw [decide_eq_true (by omega),Bool.true_and,Wm.ww] at hq
   have hsl:=PyProof.Rows.split_le z " "
   bv_omega
   refine ifB (λhb=>?_) λhb=>?_
   ·have hb:=of_decide_eq_true hb
    rw [decide_eq_true (by omega),Bool.true_and] at hq
    bv_omega
    refine eW (ls:=Txt.split z " ") T2.T.str (λp=>some (.bl (Sc.isP (Tm.tl p)))) [] ?_ ?_ (λx hx u acc N hacc hN=>?_) ?_
    ·trivial
    ·rw [sizeLine_eq];omega
    ·have hxl:=Tm.xi hx
     bv_omega
     exact ⟨hacc,hN _⟩
    ·bv_omega
     refine sG (bs:=(Txt.split z " ").map λp=>Sc.isP (Tm.tl p)) (by rw [<- Wm.all_map,List.map_map];rw [Wm.rE];rfl) ?_
     rw [List.all_map]
     exact .mk hq
   ·have hb:=of_decide_eq_false hb
    rw [decide_eq_false (by omega),Bool.false_and] at hq
    exact .mk hq
def gG:WSp:=λts S Q=>∃ (m:Int×Int) (era:Int),ts=[mkT m,.int era]/\m.2<=era/\Q (.int (wrt m era)) S
theorem AZ {S:Sto}{Q:T->Sto->Prop}{m:Int×Int}{era:Int}(h0:m.2<=era) (h:Q (.int (wrt m era)) S):gG ([mkT m,.int era]++[]) S Q:=⟨m,era,rfl,h0,h⟩
theorem pc:FnScope d7 d7 (ag fT):=by nofun
theorem yY {f:Addr}{fd:FuncData}(F:Fun K "worth_at" "worth_at" fT f fd):FnOk P w K mg base CX0 1 f fd d7 (lSp K gG):=by
 refine a8 F pc (λts S Q h=>?_) λcdv A outer s H E hr=>?_
 ·obtain ⟨m,era,rfl,_⟩:=h;rfl
 have nd:=pc.nd
 refine ⟨_,((ai (ax (aI ES (aq rfl (aa 0) af (λ_ _=>rfl)) (aI gS (aa 1) (aq rfl (aa 0) af (λ_ _=>rfl))))))),λts S Q h=>?_⟩
 obtain ⟨m,era,rfl,h0,hq⟩:=h
 ac_nf
 unfold mkT
 bv_omega
 exact .mk hq
def ig:WSp:=λts S Q=>∃ (m:Int×Int) (era n:Int),ts=[mkT m,.int era,.int n]/\m.2<=era/\Q (mkT (wrt m era+n,era)) S
theorem DT {S:Sto}{Q:T->Sto->Prop}{m:Int×Int}{era n:Int}(h0:m.2<=era) (h:Q (mkT (wrt m era+n,era)) S):ig ([mkT m,.int era,.int n]++[]) S Q:=⟨m,era,n,rfl,h0,h⟩
theorem oQ:FnScope eS eS (ag fM):=by nofun
theorem A5 {f f1:Addr}{fd fd1:FuncData}(F:Fun K "used_mark" "used_mark" fM f fd) (G_worth_at:FnOk P w K mg base CX0 1 f1 fd1 d7 (lSp K gG)) (D_worth_at:Df K mg "worth_at" f1 fd1 d7):FnOk P w K mg base CX0 2 f fd eS (lSp K ig):=by
 refine a8 F oQ (λts S Q h=>?_) λcdv A outer s H E hr=>?_
 ·obtain ⟨m,era,n,rfl,_⟩:=h;rfl
 have nd:=oQ.nd
 refine ⟨_,((ai (ax (aU (ad (aI (bn false) (az G_worth_at D_worth_at hr.m (by rfl) (ad (aa 0) (ad (aa 1) ae (ac rfl)) (ac rfl))) (aa 2)) (ad (aa 1) ae (ac rfl)) (ac rfl)))))),λts S Q h=>?_⟩
 obtain ⟨m,era,n,rfl,h0,hq⟩:=h
 ac_nf
 bv_omega
 exact .mk hq
abbrev Ms:=List (Str×Int×Int)
structure Wo (C:Addr) (S:Sto) (p d:Addr) (n:Int) (ms:Ms):Prop where
 ins:S p=some (.ins C [("marks",.ref d),("now",.int n)])
 dct:S d=some (.dK (kt mkT ms))
theorem Wo.ne {S:Sto}{p d:Addr}{n:Int}{ms:Ms}(h:Wo C S p d n ms):p≠d:=λe=>by
 have:=h.ins
 rw [e,h.dct] at this;cases this
def mL (C:Addr):WSp:=λts S Q=>∃ p,ts=[.ref p]/\S p=some (.ins C [])/\∀ d,S d=none->Q .non (put (put S d (.dK [])) p (.ins C [("marks",.ref d),("now",.int 0)]))
theorem oR:FnScope vv1 vv1 (ag dL):=by nofun
theorem A6 {f:Addr}{fd:FuncData}(F:FunD K "__init__" "Wood.__init__" dL f fd) (T:Txt K mg C L R Y Z):FnOk P w K mg base CX0 1 f fd vv1 (lSp K (mL C)):=by
 refine aR F oR (λts S Q h=>?_) λcdv A outer s H E hr=>?_
 ·obtain ⟨p,rfl,_⟩:=h;rfl
 have nd:=oR.nd
 refine ⟨_,((ak (bQ rfl T.gm (aa 0) sO)
   (ai (bQ rfl T.gn (aa 0) af)))),λts S Q h=>?_⟩
 obtain ⟨p,rfl,hp,hq⟩:=h
 ac_nf
 bv_omega
 intro d hd
 have hne:p≠d:=λe=>by rw [e,hd] at hp;cases hp
 bv_omega
 refine fg aJ rfl (Nat.le_of_ble_eq_true rfl) ?_
 rw [cc]
 exact .mk (hq d hd)
def jM (C:Addr):WSp:=λts S Q=>∃ p d n ms z m,ts=[.ref p,.str z]/\Wo C S p d n ms/\look ms z=some m/\Q (mkT m) S
theorem tE {S:Sto}{Q:T->Sto->Prop}{p d:Addr}{n:Int}{ms:Ms}{z:Str}{m:Int×Int}(h1:Wo C S p d n ms) (h2:look ms z=some m) (h:Q (mkT m) S):jM C ([.ref p,.str z]++[]) S Q:=⟨p,d,n,ms,z,m,rfl,h1,h2,h⟩
theorem i7:FnScope vv0 vv0 (ag cH):=by nofun
theorem A7 {f:Addr}{fd:FuncData}(F:FunD K "mark_of" "Wood.mark_of" cH f fd) (T:Txt K mg C L R Y Z):FnOk P w K mg base CX0 1 f fd vv0 (lSp K (jM C)):=by
 refine aR F i7 (λts S Q h=>?_) λcdv A outer s H E hr=>?_
 ·obtain ⟨p,d,n,ms,z,m,rfl,_⟩:=h;rfl
 have nd:=i7.nd
 refine ⟨_,((ak (aA (aw (gC w rfl) (aa 1) (aC rfl T.gm (aa 0)) (by with_unfolding_all rfl))
    (ai bL)
    aB)
   (ai (ax (FL w rfl (aC rfl T.gm (aa 0)) (aa 1) (λ_ _=>rfl)))))),λts S Q h=>?_⟩
 obtain ⟨p,d,n,ms,z,m,rfl,⟨hw,hd⟩,hm,hq⟩:=h
 have hv:aW (kt mkT ms) (Sum.inr z)=some (mkT m):=by rw [bJ,hm];rfl
 ac_nf
 bv_omega
 refine bV hd rfl ?_
 rw [hv]
 subst_eqs
 bv_omega
 refine FQ hd rfl hv ?_
 exact .mk hq
def nC (C:Addr):WSp:=λts S Q=>∃ p d n ms z c,ts=[.ref p,.str z,.int c]/\Wo C S p d n ms/\ms.length<=100/\Wm.Wd z=true/\look ms z=none/\Q .non (put S d (.dK (kt mkT (ms++[(z,c,n)]))))
theorem jg:FnScope vv5 vv5 (ag cS):=by nofun
theorem DV {f f1:Addr}{fd fd1:FuncData}(F:FunD K "put" "Wood.put" cS f fd) (T:Txt K mg C L R Y Z) (G_is_word:FnOk P w K mg base CX0 3 f1 fd1 ["thing"] (lSp K hU)) (D_is_word:Df K mg "is_word" f1 fd1 ["thing"]):FnOk P w K mg base CX0 4 f fd vv5 (lSp K (nC C)):=by
 refine aR F jg (λts S Q h=>?_) λcdv A outer s H E hr=>?_
 ·obtain ⟨p,d,n,ms,z,m,rfl,_⟩:=h;rfl
 have nd:=jg.nd
 refine ⟨_,((ak (aA (bP (bp (az G_is_word D_is_word hr.m (by rfl) (ad (aa 1) ae (ac rfl)))))
    (ai bL)
    aB)
   (ak (aA (aw (eF w rfl) (aa 1) (aC rfl T.gm (aa 0)) (by with_unfolding_all rfl))
    (ai bL)
    aB)
   (ai (dU (λh g=>dP h g) (aU (ad (aa 2) (ad (aC rfl T.gn (aa 0)) ae (ac rfl)) (ac rfl))) (dQ (aC rfl T.gm (aa 0)) (aa 1) (mF (fj hr)) (λh1 h2 h3=>dO h1 h2 h3))))))),λts S Q h=>?_⟩
 obtain ⟨p,d,n,ms,z,c,rfl,⟨hw,hd⟩,hl,hz,hm,hq⟩:=h
 have hv:aW (kt mkT ms) (Sum.inr z)=none:=by rw [bJ,hm];rfl
 have hzl:=Wm.iD hz
 ac_nf
 bv_omega
 refine ⟨z,rfl,by omega,?_⟩
 rw [hz]
 bv_omega
 refine bV hd rfl ?_
 rw [hv]
 subst_eqs
 bv_omega
 refine mG hd rfl (by rw [jL,sizeLine_eq];omega) ?_
 rw [show (T2.T.tup [.int c,.int n])=mkT (c,n) from rfl,mJ,tq _ (cU.mp hm)]
 exact .mk hq
def nD (C:Addr):WSp:=λts S Q=>∃ p d n ms z c m,ts=[.ref p,.str z,.int c]/\Wo C S p d n ms/\ms.length<=100/\look ms z=some m/\m.2<=n/\Q .non (put S d (.dK (kt mkT (pu ms z (wrt m n+c,n)))))
theorem jh:FnScope vv4 vv4 (ag cT):=by nofun
theorem DW {f f1 f2:Addr}{fd fd1 fd2:FuncData}(F:FunD K "use" "Wood.use" cT f fd) (T:Txt K mg C L R Y Z) (G_used_mark:FnOk P w K mg base CX0 2 f1 fd1 eS (lSp K ig)) (D_used_mark:Df K mg "used_mark" f1 fd1 eS)
  (G_Wood_mark_of:FnOk P w K mg base CX0 1 f2 fd2 vv0 (lSp K (jM C))) (M_Wood_mark_of:Meth K C "mark_of" f2) (B_Wood_mark_of:aj K fd2 vv0 []):FnOk P w K mg base CX0 3 f fd vv4 (lSp K (nD C)):=by
 refine aR F jh (λts S Q h=>?_) λcdv A outer s H E hr=>?_
 ·obtain ⟨p,d,n,ms,z,c,m,rfl,_⟩:=h;rfl
 have nd:=jh.nd
 refine ⟨_,((ai (dU (λh g=>dP h g) (az G_used_mark D_used_mark hr.m (by rfl) (ad (aV (T.gf M_Wood_mark_of) G_Wood_mark_of B_Wood_mark_of hr.m (aa 0) (ad (aa 1) ae (ac rfl))) (ad (aC rfl T.gn (aa 0)) (ad (aa 2) ae (ac rfl)) (ac rfl)) (ac rfl))) (dQ (aC rfl T.gm (aa 0)) (aa 1) (mF (fj hr)) (λh1 h2 h3=>dO h1 h2 h3))))),λts S Q h=>?_⟩
 obtain ⟨p,d,n,ms,z,c,m,rfl,⟨hw,hd⟩,hl,hm,hn,hq⟩:=h
 ac_nf
 bv_omega
 refine tE ⟨hw,hd⟩ hm ?_
 bv_omega
 refine mG hd rfl (by rw [jL,sizeLine_eq];omega) ?_
 rw [mJ]
 exact .mk hq
def lg (C:Addr):WSp:=λts S Q=>∃ p d n ms z m,ts=[.ref p,.str z]/\Wo C S p d n ms/\look ms z=some m/\Q .non (put S d (.dK (kt mkT (dr ms z))))
theorem i8:FnScope vv0 vv0 (ag cK):=by nofun
theorem xw {f f2:Addr}{fd fd2:FuncData}(F:FunD K "strike" "Wood.strike" cK f fd) (T:Txt K mg C L R Y Z)
  (G_Wood_mark_of:FnOk P w K mg base CX0 1 f2 fd2 vv0 (lSp K (jM C))) (M_Wood_mark_of:Meth K C "mark_of" f2) (B_Wood_mark_of:aj K fd2 vv0 []):FnOk P w K mg base CX0 2 f fd vv0 (lSp K (lg C)):=by
 refine aR F i8 (λts S Q h=>?_) λcdv A outer s H E hr=>?_
 ·obtain ⟨p,d,n,ms,z,m,rfl,_⟩:=h;rfl
 have nd:=i8.nd
 refine ⟨_,((ak (bH (aV (T.gf M_Wood_mark_of) G_Wood_mark_of B_Wood_mark_of hr.m (aa 0) (ad (aa 1) ae (ac rfl))))
   (ai (bH (d5 rfl PySem.F.plainAttrs_dict PySem.F.slot_dict_pop PySem.F.type_dict_pop sN (aC rfl T.gm (aa 0)) (ad (aa 1) ae (ac rfl)) (λh1 h2 h3=>dS PySem.F.plainAttrs_dict PySem.F.slot_dict_pop PySem.F.type_dict_pop h2 h1 h3)))))),λts S Q h=>?_⟩
 obtain ⟨p,d,n,ms,z,m,rfl,⟨hw,hd⟩,hm,hq⟩:=h
 have hv:aW (kt mkT ms) (Sum.inr z)=some (mkT m):=by rw [bJ,hm];rfl
 ac_nf
 bv_omega
 refine tE ⟨hw,hd⟩ hm ?_
 bv_omega
 refine sP hd rfl hv ?_
 rw [rF]
 exact .mk hq
def mM (C:Addr):WSp:=λts S Q=>∃ p d n ms c,ts=[.ref p,.int c]/\Wo C S p d n ms/\Q .non (put S p (.ins C [("marks",.ref d),("now",.int (n+c))]))
theorem oS:FnScope vv7 vv7 (ag dM):=by nofun
theorem A8 {f:Addr}{fd:FuncData}(F:FunD K "fade" "Wood.fade" dM f fd) (T:Txt K mg C L R Y Z):FnOk P w K mg base CX0 1 f fd vv7 (lSp K (mM C)):=by
 refine aR F oS (λts S Q h=>?_) λcdv A outer s H E hr=>?_
 ·obtain ⟨p,d,n,ms,c,rfl,_⟩:=h;rfl
 have nd:=oS.nd
 refine ⟨_,((ai (p7 rfl T.gn (aa 0) (aa 1)))),λts S Q h=>?_⟩
 obtain ⟨p,d,n,ms,c,rfl,⟨hw,hd⟩,hq⟩:=h
 ac_nf
 bv_omega
 exact .mk hq
theorem qE {S:Sto}{a:Addr}{o:O}(h:S a=some o):put S a o=S:=by
 funext b
 by_cases e:b=a
 ·subst e;rw [aJ,h]
 ·rw [aD e]
theorem pJ {α:Type}{grd:Sto->Prop}{g:WG}{tt:WT}{te:WE}{Q:List T2.T->Sto->Prop}(f:α->T2.T) (φ:α->Option T2.T) (cs:StT){ls:List α}{S:Sto}(hg:grd S) (hz:ls.length<=sizeLine)
  (step:∀ a∈ls,∀ (u v:Option T2.T) (acc:List T2.T) (N:List T2.T->StT->Sto->Prop),acc.length<sizeLine->(∀ u' v',N (acc++(φ a).toList) (u'::v'::cs) S) ->
   g (f a) (u::v::cs) S λσ2 S2=>tt σ2 S2 λb S3=>if b=true then te σ2 S3 λy S4=>acc.length<sizeLine/\N (acc++[y]) σ2 S4 else N acc σ2 S3)
  (done:Q (ls.filterMap φ) S):c8 grd g tt te Q (ls.map f) [] (none::none::cs) S:=by
 refine hJ (λitems acc σ' S'=>∃ pre suf u v,ls=pre++suf/\items=suf.map f/\acc=pre.filterMap φ/\σ'=u::v::cs/\S'=S) ⟨[],ls,none,none,rfl,rfl,rfl,rfl,rfl⟩ ?_ ?_
 ·rintro t ts acc σ' S' N ⟨pre,suf,u,v,e,e2,rfl,rfl,rfl⟩ hN
  cases suf with
  |nil=>cases e2
  |cons a r =>
   simp only [List.map_cons,List.cons.injEq] at e2
   obtain ⟨rfl,rfl⟩:=e2
   refine ⟨hg,step a (by rw [e];simp) u v _ N ?_ λu' v'=>hN _ _ _ ⟨pre++[a],r,u',v',by rw [e];simp,rfl,?_,rfl,rfl⟩⟩
   ·have h1:=List.length_filterMap_le φ pre
    have h2:ls.length=pre.length+(r.length+1):=by rw [e];simp
    omega
   ·rw [List.filterMap_append];cases h:φ a<;>simp [h]
 ·rintro acc σ' S' ⟨pre,suf,u,v,e,e2,rfl,rfl,rfl⟩
  have:suf=[]:=by cases suf with|nil=>rfl|cons _ _=>cases e2
  subst this
  rw [List.append_nil] at e
  subst e
  exact ⟨hg,done⟩
def g7 (ms:Ms) (b:Str):Ms:=ms.filter λa=>PySem.Txt.startswith a.1 b
def rtd (ms:Ms) (n:Int) (b:Str):List Rt:=(g7 ms b).map λa=>(a.1,wrt a.2 n)
theorem jN {ms:Ms}{n:Int}{b:Str}(h:(ms.map (·.1)).Nodup):(rtd ms n b).Nodup:=by
 refine yR ?_
 unfold rtd g7
 rw [List.map_map]
 exact (List.Sublist.map _ (List.filter_sublist)).nodup h
theorem jE (ms:Ms) (n:Int) (b:Str):(rtd ms n b).length<=ms.length:=by
 unfold rtd g7
 rw [List.length_map];exact List.length_filter_le _ _
def lZ (C:Addr):WSp:=λts S Q=>∃ p d n ms b,ts=[.ref p,.str b]/\Wo C S p d n ms/\ms.length<=100/\(∀ a∈ms,a.2.2<=n)/\Q (.lst ((rtd ms n b).map rt)) S
theorem ow:FnScope cE cE (ag dI):=by nofun
theorem yZ {f f1:Addr}{fd fd1:FuncData}(F:FunD K "begun" "Wood.begun" dI f fd) (T:Txt K mg C L R Y Z) (G_worth_at:FnOk P w K mg base CX0 1 f1 fd1 d7 (lSp K gG)) (D_worth_at:Df K mg "worth_at" f1 fd1 d7):FnOk P w K mg base CX0 2 f fd cE (lSp K (lZ C)):=by
 refine aR F ow (λts S Q h=>?_) λcdv A outer s H E hr=>?_
 ·obtain ⟨p,d,n,ms,b,rfl,_⟩:=h;rfl
 have nd:=ow.nd
 refine ⟨_,((ai (ax (FM w rfl (em false vv22 2 [0,1] rfl (AC w rfl rfl (aC rfl T.gm (aa 0))) (λ_ _ _ _=>(mv (λh=>lD (n:=2) rfl rfl h) (eY (bi (i:=0) (show List.Nodup (vv22:List Str) from by decide +kernel) rfl (Or.inl rfl)) (eY (bi (i:=1) (show List.Nodup (vv22:List Str) from by decide +kernel) rfl (Or.inl rfl)) lJ (λh1 h2=>eX h1 h2)) (λh1 h2=>eX h1 h2)))) (λ_ _ _ _=>(lN (bp (d5 rfl PySem.F.plainAttrs_str PySem.F.slot_str_startswith PySem.F.type_str_startswith ye (aa 0) (ad (aa 3) ae (ac rfl)) (λh1 h2 h3=>dS PySem.F.plainAttrs_str PySem.F.slot_str_startswith PySem.F.type_str_startswith h2 h1 h3))))) (λ_ _ _ _=>(aU (ad (aa 0) (ad (az G_worth_at D_worth_at hr.m (by rfl) (ad (aa 1) (ad (aC rfl T.gn (aa 2)) ae (ac rfl)) (ac rfl))) ae (ac rfl)) (ac rfl))))))))),λts S Q h=>?_⟩
 obtain ⟨p,d,n,ms,b,rfl,W,hl,hn,hq⟩:=h
 have hw:=W.ins
 have hd:=W.dct
 have hpd:=W.ne
 ac_nf
 bv_omega
 intro od kvs
 rw [show (kt mkT ms).map j6=ms.map (λa=>T2.T.tup [.str a.1,mkT a.2]) by unfold kt;rw [List.map_map];rfl]
 refine pJ (λa:Str×Int×Int=>T2.T.tup [.str a.1,mkT a.2]) (λa=>if PySem.Txt.startswith a.1 b=true then some (rt (a.1,wrt a.2 n)) else none) [some (.ref p),some (.str b)] aJ (by rw [sizeLine_eq];omega) (λa ha u v acc N hacc hN=>?_) ?_
 ·have hn1:=hn a ha
  bv_omega
  refine ifB (λhb=>?_) λhb=>?_
  ·bv_omega
   rw [if_pos hb] at hN
   exact ⟨hacc,hN _ _⟩
  ·rw [hb] at hN
   have:=hN (some (.str a.1)) (some (mkT a.2))
   rw [if_neg (by decide),Option.toList_none,List.append_nil] at this
   exact this
 rw [show (ms.filterMap λa=>if PySem.Txt.startswith a.1 b=true then some (rt (a.1,wrt a.2 n)) else none)=(rtd ms n b).map rt by
  unfold rtd g7
  clear hd hl hn hq W
  induction ms with
  |nil=>rfl
  |cons a l ih =>
   rw [List.filterMap_cons,List.filter_cons]
   by_cases e:PySem.Txt.startswith a.1 b=true
   ·rw [if_pos e,if_pos e];simp only [List.map_cons,ih]
   ·rw [if_neg e,if_neg e];exact ih]
 bv_omega
 refine Hj aJ ?_
 rw [cc,qE hd]
 exact .mk hq
def j8 (C:Addr):WSp:=λts S Q=>∃ p d n ms z,ts=[.ref p,.str z]/\Wo C S p d n ms/\Q (.bl (look ms z).isSome) S
theorem pe:FnScope vv0 vv0 (ag dN):=by nofun
theorem DX {f:Addr}{fd:FuncData}(F:FunD K "has" "Wood.has" dN f fd) (T:Txt K mg C L R Y Z):FnOk P w K mg base CX0 1 f fd vv0 (lSp K (j8 C)):=by
 refine aR F pe (λts S Q h=>?_) λcdv A outer s H E hr=>?_
 ·obtain ⟨p,d,n,ms,z,rfl,_⟩:=h;rfl
 have nd:=pe.nd
 refine ⟨_,((ai (ax (c7 (eF w rfl) (aa 1) (aC rfl T.gm (aa 0)) (by with_unfolding_all rfl))))),λts S Q h=>?_⟩
 obtain ⟨p,d,n,ms,z,rfl,⟨hw,hd⟩,hq⟩:=h
 ac_nf
 bv_omega
 refine bV hd rfl ?_
 rw [bJ,Option.isSome_map,Bool.false_xor]
 exact .mk hq
def kyW (a:Rt):Ky:=.cons (.s a.1) (.cons (.i a.2) .nil)
def unW:T2.T->Ky
 |.tup [.str z,.int i]=>.cons (.s z) (.cons (.i i) .nil)
 |_=>.nil
def kB (l:List Rt):Prop:=(l.map (·.1)).Pairwise λx y=>Ky.lt (.s y) (.s x)=false
theorem y3 (ms:Ms) (n:Int):rtd ms n ""=ms.map λa=>(a.1,wrt a.2 n):=by
 unfold rtd g7
 rw [List.filter_eq_self.mpr λa _=>?_]
 rw [Tm.vN]
 refine decide_eq_true ?_
 have e:=Tm.k7 a.1 0
 have:Tm.tl (PySem.Txt.slice a.1 none (some 0))=Tm.tl (Str.ofString ""):=by
  rw [show (some (0:Int))=some ((0:Nat):Int) from rfl,e];rfl
 cases h:PySem.Txt.slice a.1 none (some (((Str.ofString "").length:Nat):Int)) with
 |mk cps =>
  have h2:PySem.Txt.slice a.1 none (some 0)=⟨cps⟩:=h
  rw [h2] at this
  show (⟨cps⟩:Str)=⟨#[]⟩
  congr 1
  exact Array.toList_inj.mp this
def lh (C:Addr):WSp:=λts S Q=>∃ p d n ms,ts=[.ref p]/\Wo C S p d n ms/\ms.length<=60/\(∀ a∈ms,a.2.2<=n)/\(ms.map (·.1)).Nodup/\(∀ a∈ms,Wm.Wd a.1=true)/\∀ l:List Rt,l.Perm (ms.map λa=>(a.1,wrt a.2 n))->kB l->Q (.lst (l.map rt)) S
theorem oA:FnScope vv1 vv1 (ag dJ):=by nofun
theorem xx {f f2:Addr}{fd fd2:FuncData}(F:FunD K "words" "Wood.words" dJ f fd) (T:Txt K mg C L R Y Z)
  (G_Wood_begun:FnOk P w K mg base CX0 2 f2 fd2 cE (lSp K (lZ C))) (M_Wood_begun:Meth K C "begun" f2) (B_Wood_begun:aj K fd2 cE []):FnOk P w K mg base CX0 4 f fd vv1 (lSp K (lh C)):=by
 refine aR F oA (λts S Q h=>?_) λcdv A outer s H E hr=>?_
 ·obtain ⟨p,d,n,ms,rfl,_⟩:=h;rfl
 have nd:=oA.nd
 refine ⟨_,((ai (ax (aO (Dh false rfl hr.m) (by rfl) T.sorted PyProof.Rows.boot_sorted (ad (aV (T.gf M_Wood_begun) G_Wood_begun B_Wood_begun hr.m (aa 0) (ad au ae (ac rfl))) ae (ac rfl)))))),λts S Q h=>?_⟩
 obtain ⟨p,d,n,ms,rfl,W,hl,hn,hnd,hwd,hq⟩:=h
 have hw:=W.ins
 ac_nf
 bv_omega
 refine ⟨p,d,n,ms,_,rfl,W,by omega,hn,?_⟩
 rw [y3]
 bv_omega
 refine Di (ls:=ms.map λa=>(a.1,wrt a.2 n)) kyW unW (.cons (.s ⟨#[]⟩) (.cons (.i 0) .nil)) rfl (λa _=>rfl) (by rw [List.length_map];omega) rfl (by decide) (λa ha=>⟨?_,rfl⟩) λl' hp hs=>?_
 ·obtain ⟨x,hx,rfl⟩:=List.mem_map.mp ha
  have:=Wm.j7 (hwd x hx)
  simp [kyW,S6.Ky.ok,S6.Ky.ok.isRow,this]
 ·refine .mk (hq l' hp ?_)
  have hnd2:(l'.map (·.1)).Nodup:=(hp.map _).nodup_iff.mpr (by rw [List.map_map];exact hnd)
  unfold kB
  unfold List.Nodup at hnd2
  rw [List.pairwise_map] at hnd2 ⊢
  refine (hs.and hnd2).imp fun {x y} q=>?_
  have q1:Ky.lt (kyW y) (kyW x)=false:=q.1
  unfold kyW Ky.lt at q1
  rw [if_neg (λe=>q.2 (Ky.s.inj e).symm)] at q1
  exact q1
def jO:WSp:=λts S Q=>∃ a:Rt,ts=[rt a]/\Q (tre (ky a)) S
theorem tw {S:Sto}{Q:T->Sto->Prop}{a:Rt}(h:Q (tre (ky a)) S):jO ([rt a]++[]) S Q:=⟨a,rfl,h⟩
theorem pf:FnScope ["pair"] ["pair"] (ag fS):=by nofun
theorem A9 {f:Addr}{fd:FuncData}(F:Fun K "rank_key" "rank_key" fS f fd):FnOk P w K mg base CX0 1 f fd ["pair"] (lSp K jO):=by
 refine a8 F pf (λts S Q h=>?_) λcdv A outer s H E hr=>?_
 ·obtain ⟨a,rfl,_⟩:=h;rfl
 have nd:=pf.nd
 refine ⟨_,((ai (ax (aU (ad (eC (aq rfl (aa 0) af (λ_ _=>rfl))) (ad (aq rfl (aa 0) af (λ_ _=>rfl)) ae (ac rfl)) (ac rfl)))))),λts S Q h=>?_⟩
 obtain ⟨a,rfl,hq⟩:=h
 rw [mI] at hq
 ac_nf
 unfold rt
 bv_omega
 exact .mk hq
def mO:WSp:=λts S Q=>∃ (x:T2.T) (l:List Rt) (m:Int),ts=[x,.int m]/\aX S x=some (l.map rt)/\l.length<64/\l.Nodup/\0<=m/\Q (.lst (((bst l).take m.toNat).map rt)) S
theorem pK:FnScope i4 i4 (ag gj):=by nofun
theorem A' {f f1:Addr}{fd fd1:FuncData}(F:Fun K "best_of" "best_of" gj f fd) (T:Txt K mg C L R Y Z) (G_rank_key:FnOk P w K mg base CX0 1 f1 fd1 ["pair"] (lSp K jO)) (D_rank_key:Df K mg "rank_key" f1 fd1 ["pair"]):FnOk P w K mg base CX0 4 f fd i4 (lSp K mO):=by
 refine a8 F pK (λts S Q h=>?_) λcdv A outer s H E hr=>?_
 ·obtain ⟨x,l,m,rfl,_⟩:=h;rfl
 have nd:=pK.nd
 refine ⟨_,((ai (ax (gH false rfl (rl false rfl G_rank_key D_rank_key hr.m (by rfl) T.sorted (by rfl) (ad (aa 0) ae (ac rfl))) hZ (e8 (aa 1)))))),λts S Q h=>?_⟩
 obtain ⟨x,l,m,rfl,hv,h64,hn,hm,hq⟩:=h
 ac_nf
 bv_omega
 refine rp kyT (ky ("",0)) hv h64 rfl (by decide) (λa ha=>⟨rfl,rfl,λS' Q' q=>⟨a,rfl,q⟩⟩) λl' p hs=>?_
 rw [xr hn p hs]
 bv_omega
 rw [rh hm]
 exact .mk hq
end
section
variable {P:Program}{w:World}{K:PySem.W.Frag}{mg:Str->Option Value}{base:Heap}{C L R Y:Addr}{Z:Zs}
def l7 (C XA:Addr):bu:=λts S R=>∃ p d n ms z,ts=[.ref p,.str z]/\Wo C S p d n ms/\look ms z=none/\z.length<=1000/\PyData.strOk z=true/\R XA S
theorem Ba {f:Addr}{fd:FuncData}(F:FunD K "mark_of" "Wood.mark_of" cH f fd) (T:Txt K mg C L R Y Z):FnOk P w K mg base (CX1 P w) 1 f fd vv0 (aP K (l7 C Z.A)):=by
 refine cf F i7 (λts S Q h=>?_) λcdv A outer s H E hr=>?_
 ·obtain ⟨p,d,n,ms,z,rfl,_⟩:=h;rfl
 have nd:=i7.nd
 refine ⟨_,((aH (bg (aw (gC w rfl) (aa 1) (aC rfl T.gm (aa 0)) (by with_unfolding_all rfl)) (aH (cw T.x_Absent T.k_Absent rfl (by rfl) T.mg_Absent (ad (eP (aa 1)) ae (ac rfl))))
    bh))),λts S Q h=>?_⟩
 obtain ⟨p,d,n,ms,z,rfl,⟨hw,hd⟩,hm,hz,hzo,hq⟩:=h
 have hv:aW (kt mkT ms) (Sum.inr z)=none:=by rw [bJ,hm];rfl
 ac_nf
 bv_omega
 refine bV hd rfl ?_
 rw [hv]
 subst_eqs
 bv_omega
 refine ⟨z,rfl,hz,hzo,λe=>?_⟩
 bv_omega
 exact ⟨Nat.le_of_ble_eq_true rfl,.mk hq⟩
def mP (C XN XT:Addr):bu:=λts S R=>∃ p d n ms z c,ts=[.ref p,.str z,.int c]/\Wo C S p d n ms/\z.length<=1000/\PyData.strOk z=true/\(Wm.Wd z=false/\R XN S\/Wm.Wd z=true/\(∃ m,look ms z=some m)/\R XT S)
theorem DY {f f1:Addr}{fd fd1:FuncData}(F:FunD K "put" "Wood.put" cS f fd) (T:Txt K mg C L R Y Z) (G_is_word:FnOk P w K mg base CX0 3 f1 fd1 ["thing"] (lSp K hU)) (D_is_word:Df K mg "is_word" f1 fd1 ["thing"]):FnOk P w K mg base (CX1 P w) 4 f fd vv5 (aP K (mP C Z.N Z.T)):=by
 refine cf F jg (λts S Q h=>?_) λcdv A outer s H E hr=>?_
 ·obtain ⟨p,d,n,ms,z,c,rfl,_⟩:=h;rfl
 have nd:=jg.nd
 refine ⟨_,((bS (aH (bg (bP (bp (az G_is_word D_is_word hr.m (by rfl) (ad (aa 1) ae (ac rfl))))) (aH (cw T.x_NoWord T.k_NoWord rfl (by rfl) T.mg_NoWord (ad (eP (aa 1)) ae (ac rfl))))
    bh))
   (bw (aA (bP (bp (az G_is_word D_is_word hr.m (by rfl) (ad (aa 1) ae (ac rfl)))))
    (ai bL)
    aB)
   (aH (bg (aw (eF w rfl) (aa 1) (aC rfl T.gm (aa 0)) (by with_unfolding_all rfl)) (aH (cw T.x_Twice T.k_Twice rfl (by rfl) T.mg_Twice (ad (eP (aa 1)) ae (ac rfl))))
    bh))))),λts S Q h=>?_⟩
 obtain ⟨p,d,n,ms,z,c,rfl,⟨hw,hd⟩,hz,hzo,h⟩:=h
 ac_nf
 rcases h with ⟨hm,hq⟩|⟨hm,⟨m,hl⟩,hq⟩
 ·refine bW (iY ?_)
  bv_omega
  refine ⟨z,rfl,hz,?_⟩
  rw [hm]
  bv_omega
  refine ⟨z,rfl,hz,hzo,λe=>?_⟩
  bv_omega
  exact ⟨Nat.le_of_ble_eq_true rfl,.mk hq⟩
 ·have hv:aW (kt mkT ms) (Sum.inr z)=some (mkT m):=by rw [bJ,hl];rfl
  refine bX (iB ?_)
  bv_omega
  refine ⟨z,rfl,hz,?_⟩
  rw [hm]
  bv_omega
  refine bV hd rfl ?_
  rw [hv]
  subst_eqs
  bv_omega
  refine ⟨z,rfl,hz,hzo,λe=>?_⟩
  bv_omega
  exact ⟨Nat.le_of_ble_eq_true rfl,.mk hq⟩
def mQ (C XA:Addr):bu:=λts S R=>∃ p d n ms z c,ts=[.ref p,.str z,.int c]/\Wo C S p d n ms/\look ms z=none/\z.length<=1000/\PyData.strOk z=true/\R XA S
theorem DZ {f f1 f2:Addr}{fd fd1 fd2:FuncData}(F:FunD K "use" "Wood.use" cT f fd) (T:Txt K mg C L R Y Z) (D_used_mark:Df K mg "used_mark" f1 fd1 eS)
  (R_Wood_mark_of:FnOk P w K mg base (CX1 P w) 1 f2 fd2 vv0 (aP K (l7 C Z.A))) (M_Wood_mark_of:Meth K C "mark_of" f2) (B_Wood_mark_of:aj K fd2 vv0 []):FnOk P w K mg base (CX1 P w) 3 f fd vv4 (aP K (mQ C Z.A)):=by
 refine cf F jh (λts S Q h=>?_) λcdv A outer s H E hr=>?_
 ·obtain ⟨p,d,n,ms,z,c,rfl,_⟩:=h;rfl
 have nd:=jh.nd
 refine ⟨_,((aH (DJ (yJ D_used_mark (by rfl) (yI (bG (T.gf M_Wood_mark_of) R_Wood_mark_of B_Wood_mark_of hr.m (aa 0) (ad (aa 1) ae (ac rfl)))))))),λts S Q h=>?_⟩
 obtain ⟨p,d,n,ms,z,c,rfl,W,hm,hz,hzo,hq⟩:=h
 have hw:=W.ins
 ac_nf
 bv_omega
 exact ⟨p,d,n,ms,z,rfl,W,hm,hz,hzo,.mk hq⟩
def kR (C XA:Addr):bu:=λts S R=>∃ p d n ms z,ts=[.ref p,.str z]/\Wo C S p d n ms/\look ms z=none/\z.length<=1000/\PyData.strOk z=true/\R XA S
theorem xy {f f2:Addr}{fd fd2:FuncData}(F:FunD K "strike" "Wood.strike" cK f fd) (T:Txt K mg C L R Y Z)
  (R_Wood_mark_of:FnOk P w K mg base (CX1 P w) 1 f2 fd2 vv0 (aP K (l7 C Z.A))) (M_Wood_mark_of:Meth K C "mark_of" f2) (B_Wood_mark_of:aj K fd2 vv0 []):FnOk P w K mg base (CX1 P w) 3 f fd vv0 (aP K (kR C Z.A)):=by
 refine cf F i8 (λts S Q h=>?_) λcdv A outer s H E hr=>?_
 ·obtain ⟨p,d,n,ms,z,rfl,_⟩:=h;rfl
 have nd:=i8.nd
 refine ⟨_,((aH (h8 (bG (T.gf M_Wood_mark_of) R_Wood_mark_of B_Wood_mark_of hr.m (aa 0) (ad (aa 1) ae (ac rfl)))))),λts S Q h=>?_⟩
 obtain ⟨p,d,n,ms,z,rfl,W,hm,hz,hzo,hq⟩:=h
 have hw:=W.ins
 ac_nf
 bv_omega
 exact ⟨p,d,n,ms,z,rfl,W,hm,hz,hzo,.mk hq⟩
end
section
variable {P:Program}{w:World}{K:PySem.W.Frag}{mg:Str->Option Value}{base:Heap}{C L R Y:Addr}{Z:Zs}
abbrev Rw:=Str×Int×Bool
def rw3 (a:Rw):T2.T:=.tup [.str a.1,.int a.2.1,.bl a.2.2]
def wo (b:Bool) (l:List Rt):List Rw:=l.map λa=>(a.1,a.2,b)
theorem ia (l:List Rt):(bst l).length=l.length:=(gD l).length_eq
theorem D0 {S:Sto}{Q:T->Sto->Prop}{l:List Rt}{m:Int}(h1:l.length<64) (h2:l.Nodup) (h3:0<=m) (h:Q (.lst (((bst l).take m.toNat).map rt)) S):mO ([.lst (l.map rt),.int m]++[]) S Q:=⟨_,l,m,rfl,rfl,h1,h2,h3,h⟩
def mR:WSp:=λts S Q=>∃ (l:List Rt) (b:Bool),ts=[.lst (l.map rt),.bl b]/\l.length<64/\l.Nodup/\Q (.lst ((wo b (bst l)).map rw3)) S
theorem ph:FnScope ["rated","own"] ["rated","own"] (ag fV):=by nofun
theorem Bb {f f2:Addr}{fd fd2:FuncData}(F:Fun K "with_own" "with_own" fV f fd) (T:Txt K mg C L R Y Z)
  (G_best_of:FnOk P w K mg base CX0 4 f2 fd2 i4 (lSp K mO)) (D_best_of:Df K mg "best_of" f2 fd2 i4):FnOk P w K mg base CX0 5 f fd ["rated","own"] (lSp K mR):=by
 refine a8 F ph (λts S Q h=>?_) λcdv A outer s H E hr=>?_
 ·obtain ⟨l,b,rfl,_⟩:=h;rfl
 have nd:=ph.nd
 refine ⟨_,((ai (ax (em false ["word","worth","own"] 2 [1] rfl (cV rfl (az G_best_of D_best_of hr.m (by rfl) (ad (aa 0) (ad (aO (bq rfl) (by rfl) T.len PySem.boot_len (ad (aa 0) ae (ac rfl))) ae (ac rfl)) (ac rfl)))) (λ_ _ _ _=>(mv (λh=>lD (n:=2) rfl rfl h) (eY (bi (i:=0) (show List.Nodup (["word","worth","own"]:List Str) from by decide +kernel) rfl (Or.inl rfl)) (eY (bi (i:=1) (show List.Nodup (["word","worth","own"]:List Str) from by decide +kernel) rfl (Or.inl rfl)) lJ (λh1 h2=>eX h1 h2)) (λh1 h2=>eX h1 h2)))) (λ_ _ _ _=>cW) (λ_ _ _ _=>(aU (ad (aa 0) (ad (aa 1) (ad (aa 2) ae (ac rfl)) (ac rfl)) (ac rfl)))))))),λts S Q h=>?_⟩
 obtain ⟨l,b,rfl,h64,hn,hq⟩:=h
 have hbl:=ia l
 ac_nf
 bv_omega
 refine D0 h64 hn (by omega) ?_
 rw [show ((l.length:Int)).toNat=(bst l).length by rw [hbl];omega,List.take_length]
 bv_omega
 refine pJ (ls:=bst l) rt (λa=>some (rw3 (a.1,a.2,b))) [some (.bl b)] trivial (by rw [sizeLine_eq];omega) (λa ha u v acc N hacc hN=>?_) ?_
 ·unfold rt
  bv_omega
  exact ⟨hacc,hN _ _⟩
 ·rw [show (bst l).filterMap (λa=>some (rw3 (a.1,a.2,b)))=(wo b (bst l)).map rw3 by unfold wo;rw [List.map_map,<- List.filterMap_eq_map];rfl]
  bv_omega
  exact .mk hq
structure Ly (C L:Addr) (S:Sto) (y h e p d v:Addr) (k n:Int) (hs ms:Ms) (vs:List (Str×Bool)):Prop where
 ins:S y=some (.ins L [("house",.ref h),("own",.ref p),("veiled",.ref v)])
 wh:Wo C S h e k hs
 wp:Wo C S p d n ms
 ve:S v=some (.dK (kt T2.T.bl vs))
structure Mo (n:Int) (ms:Ms):Prop where
 len:ms.length<=60
 old:∀ a∈ms,a.2.2<=n
 nd:(ms.map (·.1)).Nodup
 wd:∀ a∈ms,Wm.Wd a.1=true
theorem iO {S:Sto}{a b:Addr}{o:O}(h1:S a=none) (h2:S b=some o):a≠b:=λe=>by rw [e,h2] at h1;cases h1
theorem Gc {S:Sto}{x y:Addr}{o1 o2 o3:O}(hx:S x=none) (hy:put S x o1 y=none) :
  put (put (put S x o1) y o2) x o3 x=some o3/\put (put (put S x o1) y o2) x o3 y=some o2/\(∀ a o,S a=some o->put (put (put S x o1) y o2) x o3 a=some o)/\S y=none:=by
 obtain ⟨h1,h2⟩:=bN hy
 refine ⟨aJ,(aD h1).trans aJ,λa o e=>?_,h2⟩
 have e1:=iO hx e
 have e2:=iO h2 e
 rw [aD (Ne.symm e1),aD (Ne.symm e2),aD (Ne.symm e1)];exact e
def rH (C L:Addr):WSp:=λts S Q=>∃ y h,ts=[.ref y,.ref h]/\S y=some (.ins L [])/\∀ S' p d v,S' y=some (.ins L [("house",.ref h),("own",.ref p),("veiled",.ref v)])->Wo C S' p d 0 []->S' v=some (.dK [])->d≠v->S p=none->S d=none->S v=none ->
 (∀ a o,S a=some o->a≠y->S' a=some o)->Q .non S'
theorem oj:FnScope i5 i5 (ag dE):=by nofun
theorem y4 {f f1:Addr}{fd fd1:FuncData}(F:FunD K "__init__" "Layers.__init__" dE f fd) (T:Txt K mg C L R Y Z)
  (G_Wood___init__:FnOk P w K mg base CX0 1 f1 fd1 vv1 (lSp K (mL C))) (M_Wood:Mk K C f1) (B_Wood___init__:aj K fd1 vv1 []):FnOk P w K mg base CX0 3 f fd i5 (lSp K (rH C L)):=by
 refine aR F oj (λts S Q h=>?_) λcdv A outer s H E hr=>?_
 ·obtain ⟨y,h,rfl,_⟩:=h;rfl
 have nd:=oj.nd
 refine ⟨_,((ak (bQ rfl T.gh (aa 0) (aa 1))
   (ak (bQ rfl T.go (aa 0) (jD M_Wood G_Wood___init__ B_Wood___init__ hr.m (by rfl) T.mg_Wood))
   (ai (bQ rfl T.gv (aa 0) sO))))),λts S Q hh=>?_⟩
 obtain ⟨y,h,rfl,hy,hq⟩:=hh
 ac_nf
 bv_omega
 rw [show bZ (Str.ofString "house") (T2.T.ref h) []=[(Str.ofString "house",T2.T.ref h)] from rfl]
 intro p hp
 refine ⟨p,rfl,aJ,λd hd=>⟨rfl,?_⟩⟩
 obtain ⟨x1,x2,kp,hd1⟩:=Gc (o2:=.dK []) (o3:=.ins C [("marks",.ref d),("now",.int 0)]) hp hd
 have hpy:=(bN hp).1
 have hp0:=(bN hp).2
 have hdy:=(bN hd1).1
 have hd0:=(bN hd1).2
 have k1:=kp y _ aJ
 have k2:∀ a o,S a=some o->a≠y->put (put (put (put S y (.ins L [("house",.ref h)])) p (.ins C [])) d (.dK [])) p (.ins C [("marks",.ref d),("now",.int 0)]) a=some o:=λa o ha hay=>kp a o ((aD hay).trans ha)
 generalize put (put (put (put S y (.ins L [("house",.ref h)])) p (.ins C [])) d (.dK [])) p (.ins C [("marks",.ref d),("now",.int 0)])=S1 at x1 x2 k1 k2 ⊢
 clear kp
 bv_omega
 intro v hv
 have hvy:=(bN hv).1
 have hv0:=(bN hv).2
 have hvd:d≠v:=λe=>by rw [e,hv0] at x2;cases x2
 have hvp:p≠v:=λe=>by rw [e,hv0] at x1;cases x1
 bv_omega
 refine fg (fs:=[(Str.ofString "house",T2.T.ref h),(Str.ofString "own",T2.T.ref p)]) ((aD (Ne.symm hvy)).trans aJ) rfl (by simp) ?_
 refine .mk (hq _ p d v aJ ⟨?_,?_⟩ ?_ hvd hp0 hd0 ?_ λa o ha hay=>?_)
 ·rw [aD hpy,aD hvp,aD hpy];exact x1
 ·rw [aD hdy,aD hvd,aD hdy];exact x2
 ·rw [aD hvy];exact aJ
 ·cases hsv:S v with
  |none=>rfl
  |some o=>rw [k2 v o hsv hvy] at hv0;cases hv0
 ·have h1:=k2 a o ha hay
  rw [aD hay,aD (λe=>by rw [e,hv0] at h1;cases h1),aD hay];exact h1
def tF (C L:Addr):WSp:=λts S Q=>∃ y h e p d v k n hs ms vs z c,ts=[.ref y,.str z,.int c]/\Ly C L S y h e p d v k n hs ms vs/\ms.length<=60/\Wm.Wd z=true/\look ms z=none/\Q .non (put S d (.dK (kt mkT (ms++[(z,c,n)]))))
theorem jd:FnScope vv5 vv5 (ag cP):=by nofun
theorem Bc {f f1:Addr}{fd fd1:FuncData}(F:FunD K "put" "Layers.put" cP f fd) (T:Txt K mg C L R Y Z)
  (G_Wood_put:FnOk P w K mg base CX0 4 f1 fd1 vv5 (lSp K (nC C))) (M_Wood_put:Meth K C "put" f1) (B_Wood_put:aj K fd1 vv5 []):FnOk P w K mg base CX0 5 f fd vv5 (lSp K (tF C L)):=by
 refine aR F jd (λts S Q h=>?_) λcdv A outer s H E hr=>?_
 ·obtain ⟨y,h,e,p,d,v,k,n,hs,ms,vs,z,c,rfl,_⟩:=h;rfl
 have nd:=jd.nd
 refine ⟨_,((ai (bH (aV (T.gf M_Wood_put) G_Wood_put B_Wood_put hr.m (aC rfl T.go (aa 0)) (ad (aa 1) (ad (aa 2) ae (ac rfl)) (ac rfl)))))),λts S Q hh=>?_⟩
 obtain ⟨y,h,e,p,d,v,k,n,hs,ms,vs,z,c,rfl,hL,hl,hz,hm,hq⟩:=hh
 have hy:=hL.ins
 have hp:=hL.wp.ins
 ac_nf
 bv_omega
 refine ⟨p,d,n,ms,z,c,rfl,hL.wp,by omega,hz,hm,?_⟩
 bv_omega
 exact .mk hq
def qh (C L:Addr):WSp:=λts S Q=>∃ y h e p d v k n hs ms vs z m,ts=[.ref y,.str z]/\Ly C L S y h e p d v k n hs ms vs/\look ms z=some m/\Q .non (put S d (.dK (kt mkT (dr ms z))))
theorem i6:FnScope vv0 vv0 (ag cG):=by nofun
theorem wz {f f1:Addr}{fd fd1:FuncData}(F:FunD K "strike" "Layers.strike" cG f fd) (T:Txt K mg C L R Y Z)
  (G_Wood_strike:FnOk P w K mg base CX0 2 f1 fd1 vv0 (lSp K (lg C))) (M_Wood_strike:Meth K C "strike" f1) (B_Wood_strike:aj K fd1 vv0 []):FnOk P w K mg base CX0 3 f fd vv0 (lSp K (qh C L)):=by
 refine aR F i6 (λts S Q h=>?_) λcdv A outer s H E hr=>?_
 ·obtain ⟨y,h,e,p,d,v,k,n,hs,ms,vs,z,m,rfl,_⟩:=h;rfl
 have nd:=i6.nd
 refine ⟨_,((ai (bH (aV (T.gf M_Wood_strike) G_Wood_strike B_Wood_strike hr.m (aC rfl T.go (aa 0)) (ad (aa 1) ae (ac rfl)))))),λts S Q hh=>?_⟩
 obtain ⟨y,h,e,p,d,v,k,n,hs,ms,vs,z,m,rfl,hL,hm,hq⟩:=hh
 have hy:=hL.ins
 have hp:=hL.wp.ins
 ac_nf
 bv_omega
 refine ⟨p,d,n,ms,z,m,rfl,hL.wp,hm,?_⟩
 bv_omega
 exact .mk hq
def tG (C L:Addr):WSp:=λts S Q=>∃ y h e p d v k n hs ms vs z,ts=[.ref y,.str z]/\Ly C L S y h e p d v k n hs ms vs/\vs.length<=60/\Wm.Wd z=true/\look vs z=none/\Q .non (put S v (.dK (kt T2.T.bl (vs++[(z,true)]))))
theorem i9:FnScope vv0 vv0 (ag cM):=by nofun
theorem Bd {f f1:Addr}{fd fd1:FuncData}(F:FunD K "hide" "Layers.hide" cM f fd) (T:Txt K mg C L R Y Z) (G_is_word:FnOk P w K mg base CX0 3 f1 fd1 ["thing"] (lSp K hU)) (D_is_word:Df K mg "is_word" f1 fd1 ["thing"]):FnOk P w K mg base CX0 4 f fd vv0 (lSp K (tG C L)):=by
 refine aR F i9 (λts S Q h=>?_) λcdv A outer s H E hr=>?_
 ·obtain ⟨y,h,e,p,d,v,k,n,hs,ms,vs,z,rfl,_⟩:=h;rfl
 have nd:=i9.nd
 refine ⟨_,((ak (aA (bP (bp (az G_is_word D_is_word hr.m (by rfl) (ad (aa 1) ae (ac rfl)))))
    (ai bL)
    aB)
   (ak (aA (aw (eF w rfl) (aa 1) (aC rfl T.gv (aa 0)) (by with_unfolding_all rfl))
    (ai bL)
    aB)
   (ai (dU (λh g=>dP h g) dZ (dQ (aC rfl T.gv (aa 0)) (aa 1) (mF (fj hr)) (λh1 h2 h3=>dO h1 h2 h3))))))),λts S Q hh=>?_⟩
 obtain ⟨y,h,e,p,d,v,k,n,hs,ms,vs,z,rfl,hL,hl,hz,hm,hq⟩:=hh
 have hy:=hL.ins
 have hd:=hL.ve
 have hv:aW (kt T2.T.bl vs) (Sum.inr z)=none:=by rw [bJ,hm];rfl
 have hzl:=Wm.iD hz
 ac_nf
 bv_omega
 refine ⟨z,rfl,by omega,?_⟩
 rw [hz]
 bv_omega
 refine bV hd rfl ?_
 rw [hv]
 subst_eqs
 bv_omega
 refine mG hd rfl (by rw [jL,sizeLine_eq];omega) ?_
 rw [mJ,tq _ (cU.mp hm)]
 exact .mk hq
def tH (C L:Addr):WSp:=λts S Q=>∃ y h e p d v k n hs ms vs z x,ts=[.ref y,.str z]/\Ly C L S y h e p d v k n hs ms vs/\look vs z=some x/\Q .non (put S v (.dK (kt T2.T.bl (dr vs z))))
theorem ja:FnScope vv0 vv0 (ag cN):=by nofun
theorem Be {f:Addr}{fd:FuncData}(F:FunD K "show" "Layers.show" cN f fd) (T:Txt K mg C L R Y Z):FnOk P w K mg base CX0 1 f fd vv0 (lSp K (tH C L)):=by
 refine aR F ja (λts S Q h=>?_) λcdv A outer s H E hr=>?_
 ·obtain ⟨y,h,e,p,d,v,k,n,hs,ms,vs,z,x,rfl,_⟩:=h;rfl
 have nd:=ja.nd
 refine ⟨_,((ak (aA (aw (gC w rfl) (aa 1) (aC rfl T.gv (aa 0)) (by with_unfolding_all rfl))
    (ai bL)
    aB)
   (ai (bH (d5 rfl PySem.F.plainAttrs_dict PySem.F.slot_dict_pop PySem.F.type_dict_pop sN (aC rfl T.gv (aa 0)) (ad (aa 1) ae (ac rfl)) (λh1 h2 h3=>dS PySem.F.plainAttrs_dict PySem.F.slot_dict_pop PySem.F.type_dict_pop h2 h1 h3)))))),λts S Q hh=>?_⟩
 obtain ⟨y,h,e,p,d,v,k,n,hs,ms,vs,z,x,rfl,hL,hm,hq⟩:=hh
 have hy:=hL.ins
 have hd:=hL.ve
 have hv:aW (kt T2.T.bl vs) (Sum.inr z)=some (.bl x):=by rw [bJ,hm];rfl
 ac_nf
 bv_omega
 refine bV hd rfl ?_
 rw [hv]
 subst_eqs
 bv_omega
 refine sP hd rfl hv ?_
 rw [rF]
 bv_omega
 exact .mk hq
def mS (C L:Addr):WSp:=λts S Q=>∃ y h e p d v k n hs ms vs z,ts=[.ref y,.str z]/\Ly C L S y h e p d v k n hs ms vs/\Q (.bl ((look vs z).isNone&&(look ms z).isNone)) S
theorem nX:FnScope vv0 vv0 (ag dh):=by nofun
theorem Bf {f f1:Addr}{fd fd1:FuncData}(F:FunD K "is_seen_of_house" "Layers.is_seen_of_house" dh f fd) (T:Txt K mg C L R Y Z)
  (G_Wood_has:FnOk P w K mg base CX0 1 f1 fd1 vv0 (lSp K (j8 C))) (M_Wood_has:Meth K C "has" f1) (B_Wood_has:aj K fd1 vv0 []):FnOk P w K mg base CX0 2 f fd vv0 (lSp K (mS C L)):=by
 refine aR F nX (λts S Q h=>?_) λcdv A outer s H E hr=>?_
 ·obtain ⟨y,h,e,p,d,v,k,n,hs,ms,vs,z,rfl,_⟩:=h;rfl
 have nd:=nX.nd
 refine ⟨_,((ai (ax (el (c7 (gC w rfl) (aa 1) (aC rfl T.gv (aa 0)) (by with_unfolding_all rfl)) (eA (mr (aV (T.gf M_Wood_has) G_Wood_has B_Wood_has hr.m (aC rfl T.go (aa 0)) (ad (aa 1) ae (ac rfl))))))))),λts S Q hh=>?_⟩
 obtain ⟨y,h,e,p,d,v,k,n,hs,ms,vs,z,rfl,hL,hq⟩:=hh
 have hy:=hL.ins
 have hp:=hL.wp.ins
 have hd:=hL.ve
 ac_nf
 bv_omega
 refine bV hd rfl ?_
 rw [bJ,Option.isSome_map]
 bv_omega
 refine ifB (λhb=>?_) λhb=>?_
 ·have e1:(look vs z).isNone=true:=by cases q:look vs z with|none=>rfl|some x=>rw [q] at hb;cases hb
  rw [e1,Bool.true_and] at hq
  bv_omega
  refine ⟨p,d,n,ms,z,rfl,hL.wp,?_⟩
  bv_omega
  rw [show (!(look ms z).isSome)=(look ms z).isNone by cases look ms z<;>rfl]
  exact .mk hq
 ·have e1:(look vs z).isNone=false:=by cases q:look vs z with|none=>rw [q] at hb;cases hb|some x=>rfl
  rw [e1,Bool.false_and] at hq
  exact .mk hq
def kC (ms:Ms) (vs:List (Str×Bool)) (n:Int) (b:Str):List Rt:=(rtd ms n b).filter λa=>(look vs a.1).isNone
def kD (hs ms:Ms) (vs:List (Str×Bool)) (k:Int) (b:Str):List Rt:=(rtd hs k b).filter λa=>(look vs a.1).isNone&&(look ms a.1).isNone
def bM (hs ms:Ms) (vs:List (Str×Bool)) (k n:Int) (b:Str):List Rw:=wo true (bst (kC ms vs n b))++wo false (bst (kD hs ms vs k b))
theorem nE {α β:Type}(p:α->Bool) (f:α->β):∀ l:List α,(l.filterMap λa=>if p a=true then some (f a) else none)=(l.filter p).map f
 |[]=>rfl
 |a::l=>by
  have ih:=nE p f l
  rw [List.filterMap_cons,List.filter_cons]
  by_cases e:p a=true
  ·rw [if_pos e,if_pos e];simp only [List.map_cons,ih]
  ·rw [if_neg e,if_neg e];exact ih
theorem tI {S:Sto}{Q:T->Sto->Prop}{l:List Rt}{b:Bool}(h1:l.length<64) (h2:l.Nodup) (h:Q (.lst ((wo b (bst l)).map rw3)) S):mR ([.lst (l.map rt),.bl b]++[]) S Q:=⟨l,b,rfl,h1,h2,h⟩
theorem D6 {S:Sto}{Q:T->Sto->Prop}{y h e p d v:Addr}{k n:Int}{hs ms:Ms}{vs:List (Str×Bool)}{z:Str}(h1:Ly C L S y h e p d v k n hs ms vs) (h:Q (.bl ((look vs z).isNone&&(look ms z).isNone)) S):mS C L (.ref y::([.str z]++[])) S Q:=⟨_,_,_,_,_,_,_,_,_,_,_,_,rfl,h1,h⟩
def nF (C L:Addr):WSp:=λts S Q=>∃ y h e p d v k n hs ms vs b,ts=[.ref y,.str b]/\Ly C L S y h e p d v k n hs ms vs/\Mo k hs/\Mo n ms/\Q (.lst ((bM hs ms vs k n b).map rw3)) S
theorem n0:FnScope ["self","beginning","own","house"] cE (ag dk):=by nofun
theorem D7 {f f1 f2 f3:Addr}{fd fd1 fd2 fd3:FuncData}(F:FunD K "all_told" "Layers.all_told" dk f fd) (T:Txt K mg C L R Y Z)
  (G_Wood_begun:FnOk P w K mg base CX0 2 f1 fd1 cE (lSp K (lZ C))) (M_Wood_begun:Meth K C "begun" f1) (B_Wood_begun:aj K fd1 cE [])
  (G_Layers_is_seen_of_house:FnOk P w K mg base CX0 2 f2 fd2 vv0 (lSp K (mS C L))) (M_Layers_is_seen_of_house:Meth K L "is_seen_of_house" f2) (B_Layers_is_seen_of_house:aj K fd2 vv0 [])
  (G_with_own:FnOk P w K mg base CX0 5 f3 fd3 ["rated","own"] (lSp K mR)) (D_with_own:Df K mg "with_own" f3 fd3 ["rated","own"]):FnOk P w K mg base CX0 6 f fd cE (lSp K (nF C L)):=by
 refine aR F n0 (λts S Q h=>?_) λcdv A outer s H E hr=>?_
 ·obtain ⟨y,h,e,p,d,v,k,n,hs,ms,vs,b,rfl,_⟩:=h;rfl
 have nd:=n0.nd
 refine ⟨_,((ak (hE false (i:=2) ["pair","self"] 1 [0] rfl nd rfl (Or.inl rfl) (cV rfl (aV (T.gf M_Wood_begun) G_Wood_begun B_Wood_begun hr.m (aC rfl T.go (aa 0)) (ad (aa 1) ae (ac rfl)))) (λ_ _ _ _=>(bi (i:=0) (show List.Nodup (["pair","self"]:List Str) from by decide +kernel) rfl (Or.inl rfl))) (λ_ _ _ _=>(lN (aw (gC w rfl) (aq rfl (aa 0) af (λ_ _=>rfl)) (aC rfl T.gv (aa 1)) (by with_unfolding_all rfl)))) (λ_ _ _ _=>(aa 0)))
   (ak (hE false (i:=3) ["pair","self"] 1 [0] rfl nd rfl (Or.inl rfl) (cV rfl (aV (T.gf M_Wood_begun) G_Wood_begun B_Wood_begun hr.m (aC rfl T.gh (aa 0)) (ad (aa 1) ae (ac rfl)))) (λ_ _ _ _=>(bi (i:=0) (show List.Nodup (["pair","self"]:List Str) from by decide +kernel) rfl (Or.inl rfl))) (λ_ _ _ _=>(lN (bp (aV (T.gl M_Layers_is_seen_of_house) G_Layers_is_seen_of_house B_Layers_is_seen_of_house hr.m (aa 1) (ad (aq rfl (aa 0) af (λ_ _=>rfl)) ae (ac rfl)))))) (λ_ _ _ _=>(aa 0)))
   (ai (ax (aI (bn false) (az G_with_own D_with_own hr.m (by rfl) (ad (aa 2) (ad dZ ae (ac rfl)) (ac rfl))) (az G_with_own D_with_own hr.m (by rfl) (ad (aa 3) (ad dZ ae (ac rfl)) (ac rfl))))))))),λts S Q hh=>?_⟩
 obtain ⟨y,h,e,p,d,v,k,n,hs,ms,vs,b,rfl,hL,hH,hM,hq⟩:=hh
 have hy:=hL.ins
 have hp:=hL.wp.ins
 have hhh:=hL.wh.ins
 have hd:=hL.ve
 have l1:=jE ms n b
 have l2:=jE hs k b
 have l3:=hM.len
 have l4:=hH.len
 ac_nf
 bv_omega
 refine ⟨p,d,n,ms,b,rfl,hL.wp,by omega,hM.old,?_⟩
 bv_omega
 refine eW (ls:=rtd ms n b) rt (λa=>if (look vs a.1).isNone=true then some (rt a) else none) [some (.ref y)] trivial (by rw [sizeLine_eq];omega) (λa ha u acc N hacc hN=>?_) ?_
 ·have h0:=hN (some (rt a))
  bv_omega
  refine bV hd rfl ?_
  rw [bJ,Option.isSome_map]
  refine ⟨_,rfl,?_⟩
  refine ifB (λhb=>?_) λhb=>?_
  ·have e1:(look vs a.1).isNone=true:=by cases q:look vs a.1 with|none=>rfl|some x=>rw [q] at hb;cases hb
   rw [if_pos e1] at h0
   bv_omega
   exact ⟨hacc,h0⟩
  ·have e1:¬ (look vs a.1).isNone=true:=by cases q:look vs a.1 with|none=>rw [q] at hb;cases hb|some x=>simp
   rw [if_neg e1,Option.toList_none,List.append_nil] at h0
   exact h0
 rw [nE]
 bv_omega
 refine ⟨h,e,k,hs,b,rfl,hL.wh,by omega,hH.old,?_⟩
 bv_omega
 refine eW (ls:=rtd hs k b) rt (λa=>if ((look vs a.1).isNone&&(look ms a.1).isNone)=true then some (rt a) else none) [some (.ref y)] trivial (by rw [sizeLine_eq];omega) (λa ha u acc N hacc hN=>?_) ?_
 ·have h0:=hN (some (rt a))
  bv_omega
  refine D6 hL ?_
  refine ⟨_,rfl,?_⟩
  refine ifB (λhb=>?_) λhb=>?_
  ·rw [if_pos hb] at h0
   bv_omega
   exact ⟨hacc,h0⟩
  ·rw [if_neg (by rw [hb];decide),Option.toList_none,List.append_nil] at h0
   exact h0
 rw [nE]
 have l5:=List.length_filter_le (λa:Rt=>(look vs a.1).isNone) (rtd ms n b)
 have l6:=List.length_filter_le (λa:Rt=>(look vs a.1).isNone&&(look ms a.1).isNone) (rtd hs k b)
 bv_omega
 refine tI (by omega) (List.filter_sublist.nodup (jN hM.nd)) ?_
 bv_omega
 refine tI (by omega) (List.filter_sublist.nodup (jN hH.nd)) ?_
 bv_omega
 refine CU rfl rfl ?_ ?_
 ·unfold wo
  rw [List.length_map,List.length_map,List.length_map,List.length_map,ia,ia,sizeLine_eq];omega
 rw [<- List.map_append]
 bv_omega
 exact .mk hq
def uF (C L:Addr):WSp:=λts S Q=>∃ y h e p d v k n hs ms vs,ts=[.ref y]/\Ly C L S y h e p d v k n hs ms vs/\Mo n ms/\∀ l:List Rt,l.Perm (ms.map λa=>(a.1,wrt a.2 n))->kB l->Q (.lst (l.map rt)) S
theorem nZ:FnScope vv1 vv1 (ag dj):=by nofun
theorem D8 {f f1:Addr}{fd fd1:FuncData}(F:FunD K "own_words" "Layers.own_words" dj f fd) (T:Txt K mg C L R Y Z)
  (G_Wood_words:FnOk P w K mg base CX0 4 f1 fd1 vv1 (lSp K (lh C))) (M_Wood_words:Meth K C "words" f1) (B_Wood_words:aj K fd1 vv1 []):FnOk P w K mg base CX0 5 f fd vv1 (lSp K (uF C L)):=by
 refine aR F nZ (λts S Q h=>?_) λcdv A outer s H E hr=>?_
 ·obtain ⟨y,h,e,p,d,v,k,n,hs,ms,vs,rfl,_⟩:=h;rfl
 have nd:=nZ.nd
 refine ⟨_,((ai (ax (bO (T.gf M_Wood_words) G_Wood_words B_Wood_words hr.m (aC rfl T.go (aa 0)))))),λts S Q hh=>?_⟩
 obtain ⟨y,h,e,p,d,v,k,n,hs,ms,vs,rfl,hL,hM,hq⟩:=hh
 have hy:=hL.ins
 have hp:=hL.wp.ins
 ac_nf
 bv_omega
 refine ⟨p,d,n,ms,rfl,hL.wp,hM.len,hM.old,hM.nd,hM.wd,λl hlp hlr=>?_⟩
 bv_omega
 exact .mk (hq l hlp hlr)
def qF (C L:Addr):WSp:=λts S Q=>∃ y h e p d v k n hs ms vs,ts=[.ref y]/\Ly C L S y h e p d v k n hs ms vs/\vs.length<64/\∀ zs:List Str,zs.Perm (vs.map (·.1))->zs.Pairwise (λx y=>Ky.lt (.s y) (.s x)=false)->Q (.lst (zs.map T2.T.str)) S
theorem n5:FnScope vv1 vv1 (ag dn):=by nofun
theorem xz {f:Addr}{fd:FuncData}(F:FunD K "hidden" "Layers.hidden" dn f fd) (T:Txt K mg C L R Y Z):FnOk P w K mg base CX0 4 f fd vv1 (lSp K (qF C L)):=by
 refine aR F n5 (λts S Q h=>?_) λcdv A outer s H E hr=>?_
 ·obtain ⟨y,h,e,p,d,v,k,n,hs,ms,vs,rfl,_⟩:=h;rfl
 have nd:=n5.nd
 refine ⟨_,((ai (ax (aO (AG w false rfl rfl rfl hr.m) (by rfl) T.sorted PyProof.Rows.boot_sorted (ad (aC rfl T.gv (aa 0)) ae (ac rfl)))))),λts S Q hh=>?_⟩
 obtain ⟨y,h,e,p,d,v,k,n,hs,ms,vs,rfl,hL,hl,hq⟩:=hh
 have hy:=hL.ins
 ac_nf
 bv_omega
 refine yx (ns:=vs.map (·.1)) (.inl hL.ve) (by rw [jL];exact hl) (by unfold kt;rw [List.map_map,List.map_map];rfl) λzs hp hs=>?_
 exact .mk (hq zs hp hs)
def mT (C L:Addr):WSp:=λts S Q=>∃ y h e p d v k n hs ms vs z c,ts=[.ref y,.str z,.int c]/\Ly C L S y h e p d v k n hs ms vs/\hs.length<=100/\ms.length<=100/\look vs z=none/\((∃ m,look ms z=some m/\m.2<=n/\Q .non (put S d (.dK (kt mkT (pu ms z (wrt m n+c,n))))))\/(look ms z=none/\∃ m,look hs z=some m/\m.2<=k/\Q .non (put S e (.dK (kt mkT (pu hs z (wrt m k+c,k)))))))
theorem je:FnScope vv4 vv4 (ag b9):=by nofun
theorem Bg {f f1 f2:Addr}{fd fd1 fd2:FuncData}(F:FunD K "use" "Layers.use" b9 f fd) (T:Txt K mg C L R Y Z)
  (G_Wood_has:FnOk P w K mg base CX0 1 f1 fd1 vv0 (lSp K (j8 C))) (M_Wood_has:Meth K C "has" f1) (B_Wood_has:aj K fd1 vv0 [])
  (G_Wood_use:FnOk P w K mg base CX0 3 f2 fd2 vv4 (lSp K (nD C))) (M_Wood_use:Meth K C "use" f2) (B_Wood_use:aj K fd2 vv4 []):FnOk P w K mg base CX0 4 f fd vv4 (lSp K (mT C L)):=by
 refine aR F je (λts S Q h=>?_) λcdv A outer s H E hr=>?_
 ·obtain ⟨y,h,e,p,d,v,k,n,hs,ms,vs,z,c,rfl,_⟩:=h;rfl
 have nd:=je.nd
 refine ⟨_,((ak (aA (aw (eF w rfl) (aa 1) (aC rfl T.gv (aa 0)) (by with_unfolding_all rfl))
    (ai bL)
    aB)
   (ai (aA (bp (aV (T.gf M_Wood_has) G_Wood_has B_Wood_has hr.m (aC rfl T.go (aa 0)) (ad (aa 1) ae (ac rfl))))
    (ai (bH (aV (T.gf M_Wood_use) G_Wood_use B_Wood_use hr.m (aC rfl T.go (aa 0)) (ad (aa 1) (ad (aa 2) ae (ac rfl)) (ac rfl)))))
    (ai (bH (aV (T.gf M_Wood_use) G_Wood_use B_Wood_use hr.m (aC rfl T.gh (aa 0)) (ad (aa 1) (ad (aa 2) ae (ac rfl)) (ac rfl))))))))),λts S Q hh=>?_⟩
 obtain ⟨y,h,e,p,d,v,k,n,hs,ms,vs,z,c,rfl,hL,hl1,hl2,hm,hq⟩:=hh
 have hy:=hL.ins
 have hp:=hL.wp.ins
 have hh:=hL.wh.ins
 have hd:=hL.ve
 have hv:aW (kt T2.T.bl vs) (Sum.inr z)=none:=by rw [bJ,hm];rfl
 ac_nf
 bv_omega
 refine bV hd rfl ?_
 rw [hv]
 subst_eqs
 bv_omega
 refine ⟨p,d,n,ms,z,rfl,hL.wp,?_⟩
 rcases hq with ⟨m,h1,h2,hq⟩|⟨h0,m,h1,h2,hq⟩
 ·rw [h1]
  simp only [Option.isSome_some,Option.isSome_none]
  bv_omega
  refine ⟨p,d,n,ms,z,c,m,rfl,hL.wp,hl2,h1,h2,?_⟩
  exact .mk hq
 ·rw [h0]
  simp only [Option.isSome_some,Option.isSome_none]
  bv_omega
  refine ⟨h,e,k,hs,z,c,m,rfl,hL.wh,hl1,h1,h2,?_⟩
  exact .mk hq
def l8 (C L:Addr):WSp:=λts S Q=>∃ y h e p d v k n hs ms vs c,ts=[.ref y,.int c]/\Ly C L S y h e p d v k n hs ms vs/\Q .non (put S p (.ins C [("marks",.ref d),("now",.int (n+c))]))
theorem ol:FnScope vv7 vv7 (ag dF):=by nofun
theorem y6 {f f1:Addr}{fd fd1:FuncData}(F:FunD K "fade" "Layers.fade" dF f fd) (T:Txt K mg C L R Y Z)
  (G_Wood_fade:FnOk P w K mg base CX0 1 f1 fd1 vv7 (lSp K (mM C))) (M_Wood_fade:Meth K C "fade" f1) (B_Wood_fade:aj K fd1 vv7 []):FnOk P w K mg base CX0 2 f fd vv7 (lSp K (l8 C L)):=by
 refine aR F ol (λts S Q h=>?_) λcdv A outer s H E hr=>?_
 ·obtain ⟨y,h,e,p,d,v,k,n,hs,ms,vs,c,rfl,_⟩:=h;rfl
 have nd:=ol.nd
 refine ⟨_,((ai (bH (aV (T.gf M_Wood_fade) G_Wood_fade B_Wood_fade hr.m (aC rfl T.go (aa 0)) (ad (aa 1) ae (ac rfl)))))),λts S Q hh=>?_⟩
 obtain ⟨y,h,e,p,d,v,k,n,hs,ms,vs,c,rfl,hL,hq⟩:=hh
 have hy:=hL.ins
 have hp:=hL.wp.ins
 have hh:=hL.wh.ins
 have hd:=hL.ve
 ac_nf
 bv_omega
 refine ⟨p,d,n,ms,c,rfl,hL.wp,?_⟩
 bv_omega
 exact .mk hq
def rJ (C L:Addr) (Z:Zs):bu:=λts S R=>∃ y h e p d v k n hs ms vs z c,ts=[.ref y,.str z,.int c]/\Ly C L S y h e p d v k n hs ms vs/\z.length<=1000/\PyData.strOk z=true/\(Wm.Wd z=false/\R Z.N S\/Wm.Wd z=true/\(∃ m,look ms z=some m)/\R Z.T S)
theorem Bi {f f1:Addr}{fd fd1:FuncData}(F:FunD K "put" "Layers.put" cP f fd) (T:Txt K mg C L R Y Z)
  (R_Wood_put:FnOk P w K mg base (CX1 P w) 4 f1 fd1 vv5 (aP K (mP C Z.N Z.T))) (M_Wood_put:Meth K C "put" f1) (B_Wood_put:aj K fd1 vv5 []):FnOk P w K mg base (CX1 P w) 5 f fd vv5 (aP K (rJ C L Z)):=by
 refine cf F jd (λts S Q h=>?_) λcdv A outer s H E hr=>?_
 ·obtain ⟨y,h,e,p,d,v,k,n,hs,ms,vs,z,c,rfl,_⟩:=h;rfl
 have nd:=jd.nd
 refine ⟨_,((aH (h8 (bG (T.gf M_Wood_put) R_Wood_put B_Wood_put hr.m (aC rfl T.go (aa 0)) (ad (aa 1) (ad (aa 2) ae (ac rfl)) (ac rfl)))))),λts S Q hh=>?_⟩
 obtain ⟨y,h,e,p,d,v,k,n,hs,ms,vs,z,c,rfl,hL,hz,hzo,hq⟩:=hh
 have hy:=hL.ins
 have hp:=hL.wp.ins
 have hh:=hL.wh.ins
 have hd:=hL.ve
 ac_nf
 bv_omega
 exact ⟨p,d,n,ms,z,c,rfl,hL.wp,hz,hzo,hq.imp (λx=>⟨x.1,.mk x.2⟩) λx=>⟨x.1,x.2.1,.mk x.2.2⟩⟩
def pL (C L:Addr) (Z:Zs):bu:=λts S R=>∃ y h e p d v k n hs ms vs z,ts=[.ref y,.str z]/\Ly C L S y h e p d v k n hs ms vs/\z.length<=1000/\PyData.strOk z=true/\look ms z=none/\R Z.A S
theorem wA {f f1:Addr}{fd fd1:FuncData}(F:FunD K "strike" "Layers.strike" cG f fd) (T:Txt K mg C L R Y Z)
  (R_Wood_strike:FnOk P w K mg base (CX1 P w) 3 f1 fd1 vv0 (aP K (kR C Z.A))) (M_Wood_strike:Meth K C "strike" f1) (B_Wood_strike:aj K fd1 vv0 []):FnOk P w K mg base (CX1 P w) 4 f fd vv0 (aP K (pL C L Z)):=by
 refine cf F i6 (λts S Q h=>?_) λcdv A outer s H E hr=>?_
 ·obtain ⟨y,h,e,p,d,v,k,n,hs,ms,vs,z,rfl,_⟩:=h;rfl
 have nd:=i6.nd
 refine ⟨_,((aH (h8 (bG (T.gf M_Wood_strike) R_Wood_strike B_Wood_strike hr.m (aC rfl T.go (aa 0)) (ad (aa 1) ae (ac rfl)))))),λts S Q hh=>?_⟩
 obtain ⟨y,h,e,p,d,v,k,n,hs,ms,vs,z,rfl,hL,hz,hzo,hm,hq⟩:=hh
 have hy:=hL.ins
 have hp:=hL.wp.ins
 have hh:=hL.wh.ins
 have hd:=hL.ve
 ac_nf
 bv_omega
 exact ⟨p,d,n,ms,z,rfl,hL.wp,hm,hz,hzo,.mk hq⟩
def rK (C L:Addr) (Z:Zs):bu:=λts S R=>∃ y h e p d v k n hs ms vs z,ts=[.ref y,.str z]/\Ly C L S y h e p d v k n hs ms vs/\z.length<=1000/\PyData.strOk z=true/\(Wm.Wd z=false/\R Z.N S\/Wm.Wd z=true/\(∃ m,look vs z=some m)/\R Z.T S)
theorem Bj {f f1:Addr}{fd fd1:FuncData}(F:FunD K "hide" "Layers.hide" cM f fd) (T:Txt K mg C L R Y Z)
  (G_is_word:FnOk P w K mg base CX0 3 f1 fd1 ["thing"] (lSp K hU)) (D_is_word:Df K mg "is_word" f1 fd1 ["thing"]):FnOk P w K mg base (CX1 P w) 4 f fd vv0 (aP K (rK C L Z)):=by
 refine cf F i9 (λts S Q h=>?_) λcdv A outer s H E hr=>?_
 ·obtain ⟨y,h,e,p,d,v,k,n,hs,ms,vs,z,rfl,_⟩:=h;rfl
 have nd:=i9.nd
 refine ⟨_,((bS (aH (bg (bP (bp (az G_is_word D_is_word hr.m (by rfl) (ad (aa 1) ae (ac rfl))))) (aH (cw T.x_NoWord T.k_NoWord rfl (by rfl) T.mg_NoWord (ad (eP (aa 1)) ae (ac rfl))))
    bh))
   (bw (aA (bP (bp (az G_is_word D_is_word hr.m (by rfl) (ad (aa 1) ae (ac rfl)))))
    (ai bL)
    aB)
   (aH (bg (aw (eF w rfl) (aa 1) (aC rfl T.gv (aa 0)) (by with_unfolding_all rfl)) (aH (cw T.x_Twice T.k_Twice rfl (by rfl) T.mg_Twice (ad (eP (aa 1)) ae (ac rfl))))
    bh))))),λts S Q hh=>?_⟩
 obtain ⟨y,h,e,p,d,v,k,n,hs,ms,vs,z,rfl,hL,hz,hzo,hq⟩:=hh
 have hy:=hL.ins
 have hp:=hL.wp.ins
 have hh:=hL.wh.ins
 have hd:=hL.ve
 ac_nf
 rcases hq with ⟨hm,hq⟩|⟨hm,⟨m,hl⟩,hq⟩
 ·refine bW (iY ?_)
  bv_omega
  refine ⟨z,rfl,hz,?_⟩
  rw [hm]
  bv_omega
  refine ⟨z,rfl,hz,hzo,λe=>?_⟩
  bv_omega
  exact ⟨Nat.le_of_ble_eq_true rfl,.mk hq⟩
 ·have hv:aW (kt T2.T.bl vs) (Sum.inr z)=some (.bl m):=by rw [bJ,hl];rfl
  refine bX (iB ?_)
  bv_omega
  refine ⟨z,rfl,hz,?_⟩
  rw [hm]
  bv_omega
  refine bV hd rfl ?_
  rw [hv]
  subst_eqs
  bv_omega
  refine ⟨z,rfl,hz,hzo,λe=>?_⟩
  bv_omega
  exact ⟨Nat.le_of_ble_eq_true rfl,.mk hq⟩
def rL (C L:Addr) (Z:Zs):bu:=λts S R=>∃ y h e p d v k n hs ms vs z,ts=[.ref y,.str z]/\Ly C L S y h e p d v k n hs ms vs/\z.length<=1000/\PyData.strOk z=true/\look vs z=none/\R Z.A S
theorem Bk {f :Addr}{fd :FuncData}(F:FunD K "show" "Layers.show" cN f fd) (T:Txt K mg C L R Y Z):FnOk P w K mg base (CX1 P w) 1 f fd vv0 (aP K (rL C L Z)):=by
 refine cf F ja (λts S Q h=>?_) λcdv A outer s H E hr=>?_
 ·obtain ⟨y,h,e,p,d,v,k,n,hs,ms,vs,z,rfl,_⟩:=h;rfl
 have nd:=ja.nd
 refine ⟨_,((aH (bg (aw (gC w rfl) (aa 1) (aC rfl T.gv (aa 0)) (by with_unfolding_all rfl)) (aH (cw T.x_Absent T.k_Absent rfl (by rfl) T.mg_Absent (ad (eP (aa 1)) ae (ac rfl))))
    bh))),λts S Q hh=>?_⟩
 obtain ⟨y,h,e,p,d,v,k,n,hs,ms,vs,z,rfl,hL,hz,hzo,hm,hq⟩:=hh
 have hy:=hL.ins
 have hp:=hL.wp.ins
 have hh:=hL.wh.ins
 have hd:=hL.ve
 have hv:aW (kt T2.T.bl vs) (Sum.inr z)=none:=by rw [bJ,hm];rfl
 ac_nf
 bv_omega
 refine bV hd rfl ?_
 rw [hv]
 subst_eqs
 bv_omega
 refine ⟨z,rfl,hz,hzo,λe=>?_⟩
 bv_omega
 exact ⟨Nat.le_of_ble_eq_true rfl,.mk hq⟩
def rM (C L:Addr) (Z:Zs):bu:=λts S R=>∃ y h e p d v k n hs ms vs z c,ts=[.ref y,.str z,.int c]/\Ly C L S y h e p d v k n hs ms vs/\z.length<=1000/\PyData.strOk z=true/\((∃ x,look vs z=some x)\/look vs z=none/\look ms z=none/\look hs z=none)/\R Z.A S
theorem Bl {f f1 f2:Addr}{fd fd1 fd2:FuncData}(F:FunD K "use" "Layers.use" b9 f fd) (T:Txt K mg C L R Y Z)
  (G_Wood_has:FnOk P w K mg base CX0 1 f1 fd1 vv0 (lSp K (j8 C))) (M_Wood_has:Meth K C "has" f1) (B_Wood_has:aj K fd1 vv0 [])
  (R_Wood_use:FnOk P w K mg base (CX1 P w) 3 f2 fd2 vv4 (aP K (mQ C Z.A))) (M_Wood_use:Meth K C "use" f2) (B_Wood_use:aj K fd2 vv4 []):FnOk P w K mg base (CX1 P w) 4 f fd vv4 (aP K (rM C L Z)):=by
 refine cf F je (λts S Q h=>?_) λcdv A outer s H E hr=>?_
 ·obtain ⟨y,h,e,p,d,v,k,n,hs,ms,vs,z,c,rfl,_⟩:=h;rfl
 have nd:=je.nd
 refine ⟨_,((bS (aH (bg (aw (eF w rfl) (aa 1) (aC rfl T.gv (aa 0)) (by with_unfolding_all rfl)) (aH (cw T.x_Absent T.k_Absent rfl (by rfl) T.mg_Absent (ad (eP (aa 1)) ae (ac rfl))))
    bh))
   (bw (aA (aw (eF w rfl) (aa 1) (aC rfl T.gv (aa 0)) (by with_unfolding_all rfl))
    (ai bL)
    aB)
   (aH (bg (bp (aV (T.gf M_Wood_has) G_Wood_has B_Wood_has hr.m (aC rfl T.go (aa 0)) (ad (aa 1) ae (ac rfl)))) (aH (h8 (bG (T.gf M_Wood_use) R_Wood_use B_Wood_use hr.m (aC rfl T.go (aa 0)) (ad (aa 1) (ad (aa 2) ae (ac rfl)) (ac rfl)))))
    (aH (h8 (bG (T.gf M_Wood_use) R_Wood_use B_Wood_use hr.m (aC rfl T.gh (aa 0)) (ad (aa 1) (ad (aa 2) ae (ac rfl)) (ac rfl)))))))))),λts S Q hh=>?_⟩
 obtain ⟨y,h,e,p,d,v,k,n,hs,ms,vs,z,c,rfl,hL,hz,hzo,hm,hq⟩:=hh
 have hy:=hL.ins
 have hp:=hL.wp.ins
 have hh:=hL.wh.ins
 have hd:=hL.ve
 ac_nf
 rcases hm with ⟨x,hm⟩|⟨hm,h0,h1⟩
 ·have hv:aW (kt T2.T.bl vs) (Sum.inr z)=some (.bl x):=by rw [bJ,hm];rfl
  refine bW (iY ?_)
  bv_omega
  refine bV hd rfl ?_
  rw [hv]
  subst_eqs
  bv_omega
  refine ⟨z,rfl,hz,hzo,λe=>?_⟩
  bv_omega
  exact ⟨Nat.le_of_ble_eq_true rfl,.mk hq⟩
 ·have hv:aW (kt T2.T.bl vs) (Sum.inr z)=none:=by rw [bJ,hm];rfl
  refine bX (iB ?_)
  bv_omega
  refine bV hd rfl ?_
  rw [hv]
  subst_eqs
  bv_omega
  refine ⟨p,d,n,ms,z,rfl,hL.wp,?_⟩
  rw [h0]
  simp only [Option.isSome_some,Option.isSome_none]
  bv_omega
  exact ⟨h,e,k,hs,z,c,rfl,hL.wh,h1,hz,hzo,.mk hq⟩
end
section
variable {P:Program}{w:World}{K:PySem.W.Frag}{mg:Str->Option Value}{base:Heap}{C L R Y:Addr}{Z:Zs}
abbrev Pm:=List (List Key×(Int×Int))
def toT (ms:Pm):List (List Key×T2.T):=ms.map λp=>(p.1,mkT p.2)
abbrev pk (b z:Str):List Key:=[.inr b,.inr z]
def lkP (ms:Pm) (k:List Key):Option (Int×Int):=(ms.find? λp=>decide (p.1=k)).map (·.2)
def lkD (ms:Pm) (k:List Key) (n:Int):Int×Int:=(lkP ms k).getD (0,n)
def kE (ms:Pm) (k:List Key) (m:Int×Int):Pm:=if (ms.any λp=>decide (p.1=k))=true then ms.map (λp=>if p.1=k then (p.1,m) else p) else ms++[(k,m)]
theorem D9 {ms:Pm}{k:List Key}:aW (toT ms) k=(lkP ms k).map mkT:=by
 unfold aW toT lkP
 rw [List.find?_map]
 simp only [Function.comp_def,Option.map_map]
theorem tJ {ms:Pm}{k:List Key}{n:Int}:(aW (toT ms) k).getD (.tup [.int 0,.int n])=mkT (lkD ms k n):=by
 rw [D9];unfold lkD
 cases lkP ms k<;>rfl
theorem D' {ms:Pm}{k:List Key}{m:Int×Int}:dc (toT ms) k (mkT m)=toT (kE ms k m):=by
 unfold dc toT kE
 rw [List.any_map]
 simp only [Function.comp_def]
 split
 ·rw [List.map_map,List.map_map]
  refine List.map_congr_left λx _=>?_
  simp only [Function.comp_def]
  split<;>rfl
 ·rw [List.map_append];rfl
theorem fj {k:Nat}{A:Around}(hr:Room k A):A.units+1<cLine:=by have:=hr.units;omega
structure Wf (k:Nat) (n:Int) (ms:Pm):Prop where
 len:ms.length<=k
 old:∀ x∈ms,x.2.2<=n
theorem Ea {ms:Pm}{k:List Key}{m:Int×Int}(h:lkP ms k=some m):∃ x∈ms,x.2=m:=by
 unfold lkP at h
 obtain ⟨x,hx,rfl⟩:=Option.map_eq_some_iff.mp h
 exact ⟨x,List.mem_of_find?_eq_some hx,rfl⟩
theorem Wf.lk {c:Nat}{n:Int}{ms:Pm}(h:Wf c n ms) (k:List Key):(lkD ms k n).2<=n:=by
 unfold lkD
 cases q:lkP ms k with
 |none=>exact Int.le_refl _
 |some m =>
  obtain ⟨x,hx,rfl⟩:=Ea q
  exact h.old x hx
def chosen (ms:Pm) (n:Int) (b z:Str):Pm:=kE ms (pk b z) (wrt (lkD ms (pk b z) n) n+1,n)
theorem Wf.choose {c:Nat}{n:Int}{ms:Pm}(h:Wf c n ms) (b z:Str):Wf (c+1) n (chosen ms n b z):=by
 unfold chosen kE
 split
 ·refine ⟨by rw [List.length_map];have:=h.len;omega,λx hx=>?_⟩
  obtain ⟨y,hy,rfl⟩:=List.mem_map.mp hx
  split
  ·exact Int.le_refl _
  ·exact h.old y hy
 ·refine ⟨by rw [List.length_append];have:=h.len;simp;omega,λx hx=>?_⟩
  rcases List.mem_append.mp hx with q|q
  ·exact h.old x q
  ·rw [List.mem_singleton.mp q];exact Int.le_refl _
theorem Wf.more {c c':Nat}{n n':Int}{ms:Pm}(h:Wf c n ms) (hc:c<=c') (hn:n<=n'):Wf c' n' ms:=⟨Nat.le_trans h.len hc,λx hx=>Int.le_trans (h.old x hx) hn⟩
def prO (R d:Addr) (n:Int):O:=.ins R [("marks",.ref d),("now",.int n)]
def rN (R:Addr):WSp:=λts S Q=>∃ p,ts=[.ref p]/\S p=some (.ins R [])/\∀ d,S d=none->Q .non (put (put S d (.dT [])) p (prO R d 0))
theorem oB:FnScope vv1 vv1 (ag dG):=by nofun
theorem y7 {f:Addr}{fd:FuncData}(F:FunD K "__init__" "Pairs.__init__" dG f fd) (T:Txt K mg C L R Y Z):FnOk P w K mg base CX0 1 f fd vv1 (lSp K (rN R)):=by
 refine aR F oB (λts S Q h=>?_) λcdv A outer s H E hr=>?_
 ·obtain ⟨p,rfl,_⟩:=h;rfl
 have nd:=oB.nd
 refine ⟨_,((ak (bQ rfl T.gpm (aa 0) AR)
   (ai (bQ rfl T.gpn (aa 0) af)))),λts S Q h=>?_⟩
 obtain ⟨p,rfl,hp,hq⟩:=h
 ac_nf
 bv_omega
 intro d hd
 have hne:p≠d:=λe=>by rw [e,hd] at hp;cases hp
 bv_omega
 refine fg aJ rfl (Nat.le_of_ble_eq_true rfl) ?_
 rw [cc]
 exact .mk (hq d hd)
def qG (R:Addr):WSp:=λts S Q=>∃ p d n ms b z c,ts=[.ref p,.str b,.str z]/\S p=some (prO R d n)/\S d=some (.dT (toT ms))/\Wf c n ms/\c<=1000/\Q .non (put S d (.dT (toT (chosen ms n b z))))
theorem n9:FnScope ["self","before","word","mark"] d6 (ag dq):=by nofun
theorem xA {f f1:Addr}{fd fd1:FuncData}(F:FunD K "choose" "Pairs.choose" dq f fd) (T:Txt K mg C L R Y Z) (G_used_mark:FnOk P w K mg base CX0 2 f1 fd1 eS (lSp K ig)) (D_used_mark:Df K mg "used_mark" f1 fd1 eS) :
  FnOk P w K mg base CX0 3 f fd d6 (lSp K (qG R)):=by
 refine aR F n9 (λts S Q h=>?_) λcdv A outer s H E hr=>?_
 ·obtain ⟨p,d,n,ms,b,z,c,rfl,_⟩:=h;rfl
 have nd:=n9.nd
 refine ⟨_,((ak (aK (i:=3) nd rfl (Or.inl rfl) (d5 rfl PySem.F.plainAttrs_dict PySem.F.slot_dict_get PySem.F.type_dict_get (sW (fj hr)) (aC rfl T.gpm (aa 0)) (ad (aU (ad (aa 1) (ad (aa 2) ae (ac rfl)) (ac rfl))) (ad (aU (ad af (ad (aC rfl T.gpn (aa 0)) ae (ac rfl)) (ac rfl))) ae (ac rfl)) (ac rfl)) (λh1 h2 h3=>dS PySem.F.plainAttrs_dict PySem.F.slot_dict_get PySem.F.type_dict_get h2 h1 h3)))
   (ai (dU (λh g=>dP h g) (az G_used_mark D_used_mark hr.m (by rfl) (ad (aa 3) (ad (aC rfl T.gpn (aa 0)) (ad af ae (ac rfl)) (ac rfl)) (ac rfl))) (dQ (aC rfl T.gpm (aa 0)) (aU (ad (aa 1) (ad (aa 2) ae (ac rfl)) (ac rfl))) (DK (fj hr)) (λh1 h2 h3=>dO h1 h2 h3)))))),λts S Q h=>?_⟩
 obtain ⟨p,d,n,ms,b,z,c,rfl,hp,hd,hw,hc,hq⟩:=h
 unfold prO at hp
 have l3:=hw.lk (pk b z)
 have hlen:=hw.len
 ac_nf
 bv_omega
 refine sY (ks:=pk b z) hd rfl ?_
 rw [tJ]
 bv_omega
 refine DL (ks:=pk b z) hd rfl (by unfold toT;rw [List.length_map,sizeLine_eq];omega) ?_
 rw [D']
 exact .mk hq
def rO (R:Addr):WSp:=λts S Q=>∃ p d n c,ts=[.ref p,.int c]/\S p=some (prO R d n)/\Q .non (put S p (prO R d (n+c)))
theorem oE:FnScope vv7 vv7 (ag dH):=by nofun
theorem y8 {f:Addr}{fd:FuncData}(F:FunD K "fade" "Pairs.fade" dH f fd) (T:Txt K mg C L R Y Z):FnOk P w K mg base CX0 1 f fd vv7 (lSp K (rO R)):=by
 refine aR F oE (λts S Q h=>?_) λcdv A outer s H E hr=>?_
 ·obtain ⟨p,d,n,c,rfl,_⟩:=h;rfl
 have nd:=oE.nd
 refine ⟨_,((ai (p7 rfl T.gpn (aa 0) (aa 1)))),λts S Q h=>?_⟩
 obtain ⟨p,d,n,c,rfl,hp,hq⟩:=h
 unfold prO at hp
 ac_nf
 bv_omega
 exact .mk hq
def pw (ms:Pm) (n:Int) (b z:Str):Int:=wrt (lkD ms (pk b z) n) n
def nV (R:Addr):WSp:=λts S Q=>∃ p d n ms b z c,ts=[.ref p,.str b,.str z]/\S p=some (prO R d n)/\S d=some (.dT (toT ms))/\Wf c n ms/\Q (.int (pw ms n b z)) S
theorem Hs {S:Sto}{Q:T->Sto->Prop}{p d:Addr}{n:Int}{c:Nat}{b z:Str}{ms:Pm}(h1:S p=some (prO R d n)) (h1':S d=some (.dT (toT ms))) (h2:Wf c n ms) (h:Q (.int (pw ms n b z)) S):nV R (.ref p::([.str b,.str z]++[])) S Q:=⟨p,d,n,ms,b,z,c,rfl,h1,h1',h2,h⟩
theorem n3:FnScope d6 d6 (ag dm):=by nofun
theorem Gd {f f1:Addr}{fd fd1:FuncData}(F:FunD K "worth_of" "Pairs.worth_of" dm f fd) (T:Txt K mg C L R Y Z) (G_worth_at:FnOk P w K mg base CX0 1 f1 fd1 d7 (lSp K gG)) (D_worth_at:Df K mg "worth_at" f1 fd1 d7) :
  FnOk P w K mg base CX0 2 f fd d6 (lSp K (nV R)):=by
 refine aR F n3 (λts S Q h=>?_) λcdv A outer s H E hr=>?_
 ·obtain ⟨p,d,n,ms,b,z,c,rfl,_⟩:=h;rfl
 have nd:=n3.nd
 refine ⟨_,((ai (ax (az G_worth_at D_worth_at hr.m (by rfl) (ad (d5 rfl PySem.F.plainAttrs_dict PySem.F.slot_dict_get PySem.F.type_dict_get (sW (fj hr)) (aC rfl T.gpm (aa 0)) (ad (aU (ad (aa 1) (ad (aa 2) ae (ac rfl)) (ac rfl))) (ad (aU (ad af (ad (aC rfl T.gpn (aa 0)) ae (ac rfl)) (ac rfl))) ae (ac rfl)) (ac rfl)) (λh1 h2 h3=>dS PySem.F.plainAttrs_dict PySem.F.slot_dict_get PySem.F.type_dict_get h2 h1 h3)) (ad (aC rfl T.gpn (aa 0)) ae (ac rfl)) (ac rfl)))))),λts S Q h=>?_⟩
 obtain ⟨p,d,n,ms,b,z,c,rfl,hp,hd,hw,hq⟩:=h
 unfold prO at hp
 have l3:=hw.lk (pk b z)
 ac_nf
 bv_omega
 refine sY (ks:=pk b z) hd rfl ?_
 rw [tJ]
 bv_omega
 exact .mk hq
end
section
variable {P:Program}{w:World}{K:PySem.W.Frag}{mg:Str->Option Value}{base:Heap}{C L R Y:Addr}{Z:Zs}
def sgn (z:Str):Bool:=decide ((z.length:Int)=1)&&!(Builtin.Str.occurrences (Str.ofString "abcdefghijklmnopqrstuvwxyz ") z 0 (Str.ofString "abcdefghijklmnopqrstuvwxyz ").length 1).isEmpty
theorem Eb {z:Str}(h:(z.length:Int)=1):∃ c,z=⟨#[c]⟩:=by
 obtain ⟨⟨l⟩⟩:=z
 have:l.length=1:=by simp [Str.length] at h;omega
 match l,this with
 |[c],_=>exact ⟨c,rfl⟩
theorem Bm (c:Nat):sgn ⟨#[c]⟩=(decide ((⟨#[c]⟩:Str)=Str.ofString " ") || Sc.isL c):=by
 unfold sgn
 rw [show decide (((⟨#[c]⟩:Str).length:Int)=1)=true from rfl,Bool.true_and,StrLaws.found_one,show (Str.ofString "abcdefghijklmnopqrstuvwxyz ").cps.toList=[97,98,99,100,101,102,103,104,105,106,107,108,109,110,111,112,113,114,115,116,117,118,119,120,121,122,32] by decide +kernel]
 have e:((⟨#[c]⟩:Str)=Str.ofString " ") ↔ c=32:=by
  rw [show Str.ofString " "=⟨#[32]⟩ by decide +kernel]
  simp
 unfold Sc.isL
 rw [Bool.eq_iff_iff]
 simp only [decide_eq_true_eq,Bool.or_eq_true,Bool.and_eq_true,e,List.mem_cons,List.not_mem_nil,or_false]
 omega
def mU:WSp:=λts S Q=>∃ z:Str,ts=[.str z]/\z.length<=1000/\Q (.bl (sgn z)) S
theorem pM:FnScope ["text"] ["text"] (ag gw):=by nofun
theorem Bn {f f1:Addr}{fd fd1:FuncData}(F:Fun K "is_sign" "is_sign" gw f fd) (T:Txt K mg C L Y R N) (G_is_letter:FnOk P w K mg base CX0 1 f1 fd1 ["sign"] (lSp K jr)) (D_is_letter:Df K mg "is_letter" f1 fd1 ["sign"]) :
  FnOk P w K mg base CX0 2 f fd ["text"] (lSp K mU):=by
 refine a8 F pM (λts S Q h=>?_) λcdv A outer s H E hr=>?_
 ·obtain ⟨z,rfl,_⟩:=h;rfl
 have nd:=pM.nd
 refine ⟨_,((ai (ax (el (c7 (aG rfl hr.units) (aO (bq rfl) (by rfl) T.len PySem.boot_len (ad (aa 0) ae (ac rfl))) af (ay _)) (eA (EQ (c7 (aG rfl hr.units) (aa 0) au (ay _)) (eA (az G_is_letter D_is_letter hr.m (by rfl) (ad (aa 0) ae (ac rfl)))))))))),λts S Q h=>?_⟩
 obtain ⟨z,rfl,hz,hq⟩:=h
 ac_nf
 bv_omega
 refine ifB (λhb=>?_) λhb=>?_
 ·obtain ⟨c,rfl⟩:=Eb (of_decide_eq_true (by simpa using hb))
  rw [Bm] at hq
  bv_omega
  rw [Bool.false_xor]
  refine ifB (λhb2=>?_) λhb2=>?_
  ·rw [hb2,Bool.true_or] at hq
   exact .mk hq
  ·rw [hb2,Bool.false_or] at hq
   bv_omega
   exact .mk hq
 ·unfold sgn at hq
  rw [Bool.false_xor] at hb
  rw [hb,Bool.false_and] at hq
  exact .mk hq
def tyO (Y y q c:Addr) (m:Int) (x:Str):O:=.ins Y [("layers",.ref y),("many",.int m),("pairs",.ref q),("text",.str x),("chosen",.ref c)]
def rP (Y R:Addr):WSp:=λts S Q=>∃ t y m,ts=[.ref t,.ref y,.int m]/\S t=some (.ins Y [])/\∀ S' q g c,S' t=some (tyO Y y q c m "")->S' q=some (prO R g 0)->S' g=some (.dT [])->S' c=some (.lst [])->(∀ a o,S a=some o->a≠t->S' a=some o)->S q=none->S g=none->S c=none->Q .non S'
theorem om:FnScope i3 i3 (ag dA):=by nofun
theorem y9 {f f1:Addr}{fd fd1:FuncData}(F:FunD K "__init__" "Typist.__init__" dA f fd) (T:Txt K mg C L R Y Z)
  (G_Pairs___init__:FnOk P w K mg base CX0 1 f1 fd1 vv1 (lSp K (rN R))) (M_Pairs:Mk K R f1) (B_Pairs___init__:aj K fd1 vv1 []):FnOk P w K mg base CX0 3 f fd i3 (lSp K (rP Y R)):=by
 refine aR F om (λts S Q h=>?_) λcdv A outer s H E hr=>?_
 ·obtain ⟨t,y,m,rfl,_⟩:=h;rfl
 have nd:=om.nd
 refine ⟨_,((ak (bQ rfl T.gul (aa 0) (aa 1))
   (ak (bQ rfl T.gum (aa 0) (aa 2))
   (ak (bQ rfl T.gup (aa 0) (jD M_Pairs G_Pairs___init__ B_Pairs___init__ hr.m (by rfl) T.mg_Pairs))
   (ak (bQ rfl T.gut (aa 0) au)
   (ai (bQ rfl T.guc (aa 0) (mt ae)))))))),λts S Q hh=>?_⟩
 obtain ⟨t,y,m,rfl,ht,hq⟩:=hh
 ac_nf
 bv_omega
 rw [show bZ (Str.ofString "layers") (T2.T.ref y) []=[(Str.ofString "layers",T2.T.ref y)] from rfl]
 refine fg aJ rfl (Nat.le_of_ble_eq_true rfl) ?_
 rw [cc,show bZ (Str.ofString "many") (T2.T.int m) [(Str.ofString "layers",T2.T.ref y)]=[(Str.ofString "layers",T2.T.ref y),(Str.ofString "many",T2.T.int m)] from rfl]
 bv_omega
 intro q hq1
 refine ⟨q,rfl,aJ,λd hd=>⟨rfl,?_⟩⟩
 obtain ⟨hqt,hq0⟩:=bN hq1
 obtain ⟨hdq,hd1⟩:=bN hd
 obtain ⟨hdt,hd0⟩:=bN hd1
 generalize hS1:put (put (put (put S t (.ins Y [("layers",.ref y),("many",.int m)])) q (.ins R [])) d (.dT [])) q (prO R d 0)=S1
 have k1:S1 t=some (.ins Y [("layers",.ref y),("many",.int m)]):=by
  rw [<- hS1,aD (Ne.symm hqt),aD (Ne.symm hdt),aD (Ne.symm hqt)];exact aJ
 have k2:∀ a o,S a=some o->a≠t->S1 a=some o:=λa o ha hat=>by
  have e1:=iO hq0 ha
  have e2:=iO hd0 ha
  rw [<- hS1,aD (Ne.symm e1),aD (Ne.symm e2),aD (Ne.symm e1),aD hat];exact ha
 have k3:S1 q=some (prO R d 0):=by rw [<- hS1];exact aJ
 have k4:S1 d=some (.dT []):=by rw [<- hS1,aD hdq];exact aJ
 clear hS1
 bv_omega
 refine fg aJ rfl (Nat.le_of_ble_eq_true rfl) ?_
 rw [cc]
 bv_omega
 intro c hc
 obtain ⟨hct,hc0⟩:=bN hc
 have hSc:S c=none:=by
  cases z:S c with
  |none=>rfl
  |some o=>rw [k2 c o z hct] at hc0;cases hc0
 bv_omega
 refine fg ((aD (Ne.symm hct)).trans aJ) rfl (Nat.le_of_ble_eq_true rfl) ?_
 refine .mk (hq _ q d c aJ ?_ ?_ ?_ ?_ hq0 hd0 hSc)
 ·rw [aD hqt,aD (λz=>by rw [<- z,k3] at hc0;cases hc0),aD hqt];exact k3
 ·rw [aD hdt,aD (λz=>by rw [<- z,k4] at hc0;cases hc0),aD hdt];exact k4
 ·rw [aD hct];exact aJ
 ·intro a o ha hat
  rw [aD hat,aD (iO hSc ha).symm,aD hat];exact k2 a o ha hat
def uG (Y:Addr):WSp:=λts S Q=>∃ t y q c m x z,ts=[.ref t,.str z]/\S t=some (tyO Y y q c m x)/\z.length<=1000/\sgn z=true/\x.length<24/\Q .non (put S t (tyO Y y q c m (x++z)))
theorem jf:FnScope eT eT (ag cO):=by nofun
theorem Ec {f f1:Addr}{fd fd1:FuncData}(F:FunD K "key" "Typist.key" cO f fd) (T:Txt K mg C L R Y Z) (G_is_sign:FnOk P w K mg base CX0 2 f1 fd1 ["text"] (lSp K mU)) (D_is_sign:Df K mg "is_sign" f1 fd1 ["text"]) :
  FnOk P w K mg base CX0 3 f fd eT (lSp K (uG Y)):=by
 refine aR F jf (λts S Q h=>?_) λcdv A outer s H E hr=>?_
 ·obtain ⟨t,y,q,c,m,x,z,rfl,_⟩:=h;rfl
 have nd:=jf.nd
 refine ⟨_,((ak (aA (bP (bp (az G_is_sign D_is_sign hr.m (by rfl) (ad (aa 1) ae (ac rfl)))))
    (ai bL)
    aB)
   (ak (aA (aw vj (aO (bq rfl) (by rfl) T.len PySem.boot_len (ad (aC rfl T.gut (aa 0)) ae (ac rfl))) (iA (n:=24) (by rfl) T.c_MOST_SIGNS) (ay _))
    (ai bL)
    aB)
   (ai (wq rfl T.gut (aa 0) (aa 1)))))),λts S Q h=>?_⟩
 obtain ⟨t,y,q,c,m,x,z,rfl,ht,hz,hs,hx,hq⟩:=h
 unfold tyO at ht
 ac_nf
 bv_omega
 refine ⟨z,rfl,hz,?_⟩
 rw [hs]
 bv_omega
 refine ifB (λhb=>?_) λhb=>?_
 ·exact absurd (of_decide_eq_true hb) (by omega)
 bv_omega
 refine ⟨t,Y,_,x,rfl,ht,rfl,rfl,?_⟩
 bv_omega
 refine ⟨z,_,rfl,by rw [sizeLine_eq];omega,ht,Nat.le_of_ble_eq_true rfl,?_⟩
 exact .mk hq
def tK (Y N:Addr):bu:=λts S R=>∃ t y q c m x z,ts=[.ref t,.str z]/\S t=some (tyO Y y q c m x)/\z.length<=1000/\PyData.strOk z=true/\x.length<=24/\(sgn z=false\/sgn z=true/\x.length=24)/\R N S
theorem Ed {f f1:Addr}{fd fd1:FuncData}(F:FunD K "key" "Typist.key" cO f fd) (T:Txt K mg C L R Y Z) (G_is_sign:FnOk P w K mg base CX0 2 f1 fd1 ["text"] (lSp K mU)) (D_is_sign:Df K mg "is_sign" f1 fd1 ["text"]) :
  FnOk P w K mg base (CX1 P w) 3 f fd eT (aP K (tK Y Z.S)):=by
 refine cf F jf (λts S Q h=>?_) λcdv A outer s H E hr=>?_
 ·obtain ⟨t,y,q,c,m,x,z,rfl,_⟩:=h;rfl
 have nd:=jf.nd
 refine ⟨_,((bS (aH (bg (bP (bp (az G_is_sign D_is_sign hr.m (by rfl) (ad (aa 1) ae (ac rfl))))) (aH (cw T.x_NoSign T.k_NoSign rfl (by rfl) T.mg_NoSign (ad (eP (aa 1)) ae (ac rfl))))
    bh))
   (bw (aA (bP (bp (az G_is_sign D_is_sign hr.m (by rfl) (ad (aa 1) ae (ac rfl)))))
    (ai bL)
    aB)
   (aH (bg (aw vj (aO (bq rfl) (by rfl) T.len PySem.boot_len (ad (aC rfl T.gut (aa 0)) ae (ac rfl))) (iA (n:=24) (by rfl) T.c_MOST_SIGNS) (ay _)) (aH (cw T.x_NoSign T.k_NoSign rfl (by rfl) T.mg_NoSign (ad au ae (ac rfl))))
    bh))))),λts S Q h=>?_⟩
 obtain ⟨t,y,q,c,m,x,z,rfl,ht,hz,hok,hx,hs,hq⟩:=h
 unfold tyO at ht
 ac_nf
 rcases hs with hs|⟨hs,hx2⟩
 ·refine bW (iY ?_)
  bv_omega
  refine ⟨z,rfl,hz,?_⟩
  rw [hs]
  bv_omega
  refine ⟨z,rfl,hz,hok,λe=>?_⟩
  bv_omega
  exact ⟨Nat.le_of_ble_eq_true rfl,.mk hq⟩
 ·refine bX (iB ?_)
  bv_omega
  refine ⟨z,rfl,hz,?_⟩
  rw [hs]
  bv_omega
  refine ifB (λhb=>?_) λhb=>?_
  ·bv_omega
   exact ⟨by decide,.mk hq⟩
  ·exact absurd (of_decide_eq_false hb) (by omega)
def tL (Y:Addr):WSp:=λts S Q=>∃ t y q c m x,ts=[.ref t]/\S t=some (tyO Y y q c m x)/\x.length<=24/\x ≠ "" /\ Q .non (put S t (tyO Y y q c m (PySem.Txt.slice x none (some (-1)))))
theorem jb:FnScope vv1 vv1 (ag cI):=by nofun
theorem Bo {f:Addr}{fd:FuncData}(F:FunD K "back" "Typist.back" cI f fd) (T:Txt K mg C L R Y Z):FnOk P w K mg base CX0 1 f fd vv1 (lSp K (tL Y)):=by
 refine aR F jb (λts S Q h=>?_) λcdv A outer s H E hr=>?_
 ·obtain ⟨t,y,q,c,m,x,rfl,_⟩:=h;rfl
 have nd:=jb.nd
 refine ⟨_,((ak (aA (aw (aG rfl hr.units) (aC rfl T.gut (aa 0)) au (ay _))
    (ai bL)
    aB)
   (ai (bQ rfl T.gut (aa 0) (gH false rfl (aC rfl T.gut (aa 0)) hZ (e8 (eC af))))))),λts S Q h=>?_⟩
 obtain ⟨t,y,q,c,m,x,rfl,ht,hx,hne,hq⟩:=h
 unfold tyO at ht
 ac_nf
 bv_omega
 rw [decide_eq_false hne,Bool.false_xor]
 bv_omega
 exact .mk hq
def rQ (Y N:Addr):bu:=λts S R=>∃ t y q c m,ts=[.ref t]/\S t=some (tyO Y y q c m "")/\R N S
theorem Bp {f:Addr}{fd:FuncData}(F:FunD K "back" "Typist.back" cI f fd) (T:Txt K mg C L R Y Z):FnOk P w K mg base (CX1 P w) 1 f fd vv1 (aP K (rQ Y Z.S)):=by
 refine cf F jb (λts S Q h=>?_) λcdv A outer s H E hr=>?_
 ·obtain ⟨t,y,q,c,m,rfl,_⟩:=h;rfl
 have nd:=jb.nd
 refine ⟨_,((aH (bg (aw (aG rfl hr.units) (aC rfl T.gut (aa 0)) au (ay _)) (aH (cw T.x_NoSign T.k_NoSign rfl (by rfl) T.mg_NoSign (ad au ae (ac rfl))))
    bh))),λts S Q h=>?_⟩
 obtain ⟨t,y,q,c,m,rfl,ht,hq⟩:=h
 unfold tyO at ht
 ac_nf
 bv_omega
 rw [decide_eq_true rfl,Bool.false_xor]
 bv_omega
 exact ⟨by decide,.mk hq⟩
def l9 (Y:Addr):WSp:=λts S Q=>∃ t y q c m x,ts=[.ref t]/\S t=some (tyO Y y q c m x)/\Q .non (put S t (tyO Y y q c m ""))
theorem og:FnScope vv1 vv1 (ag du):=by nofun
theorem y' {f:Addr}{fd:FuncData}(F:FunD K "clear" "Typist.clear" du f fd) (T:Txt K mg C L R Y Z):FnOk P w K mg base CX0 1 f fd vv1 (lSp K (l9 Y)):=by
 refine aR F og (λts S Q h=>?_) λcdv A outer s H E hr=>?_
 ·obtain ⟨t,y,q,c,m,x,rfl,_⟩:=h;rfl
 have nd:=og.nd
 refine ⟨_,((ai (bQ rfl T.gut (aa 0) au))),λts S Q h=>?_⟩
 obtain ⟨t,y,q,c,m,x,rfl,ht,hq⟩:=h
 unfold tyO at ht
 ac_nf
 bv_omega
 exact .mk hq
def rR (Y:Addr):WSp:=λts S Q=>∃ t y q c m x,ts=[.ref t]/\S t=some (tyO Y y q c m x)/\Q (.str x) S
theorem oh:FnScope vv1 vv1 (ag dw):=by nofun
theorem za {f:Addr}{fd:FuncData}(F:FunD K "typed" "Typist.typed" dw f fd) (T:Txt K mg C L R Y Z):FnOk P w K mg base CX0 1 f fd vv1 (lSp K (rR Y)):=by
 refine aR F oh (λts S Q h=>?_) λcdv A outer s H E hr=>?_
 ·obtain ⟨t,y,q,c,m,x,rfl,_⟩:=h;rfl
 have nd:=oh.nd
 refine ⟨_,((ai (ax (aC rfl T.gut (aa 0))))),λts S Q h=>?_⟩
 obtain ⟨t,y,q,c,m,x,rfl,ht,hq⟩:=h
 unfold tyO at ht
 ac_nf
 bv_omega
 exact .mk hq
def tM (Y:Addr):WSp:=λts S Q=>∃ t y q c m x ln,ts=[.ref t]/\S t=some (tyO Y y q c m x)/\S c=some (.lst (List.map T2.T.str ln))/\Q (.lst (ln.map T2.T.str)) S
theorem on:FnScope vv1 vv1 (ag dB):=by nofun
theorem Bq {f:Addr}{fd:FuncData}(F:FunD K "line" "Typist.line" dB f fd) (T:Txt K mg C L R Y Z):FnOk P w K mg base CX0 1 f fd vv1 (lSp K (tM Y)):=by
 refine aR F on (λts S Q h=>?_) λcdv A outer s H E hr=>?_
 ·obtain ⟨t,y,q,c,m,x,ln,rfl,_⟩:=h;rfl
 have nd:=on.nd
 refine ⟨_,((ai (ax (ut (Cz false rfl) (by rfl) T.list PyProof.Rows.boot_list (ad (aC rfl T.guc (aa 0)) ae (ac rfl)))))),λts S Q h=>?_⟩
 obtain ⟨t,y,q,c,m,x,ln,rfl,ht,hc,hq⟩:=h
 unfold tyO at ht
 ac_nf
 bv_omega
 exact .mk hq
theorem zb {α:Type}(l:List α) (a:α):atI (l++[a]) (-1)=some a:=by
 simp [atI,ixN]
 rw [if_pos (by omega),Option.bind_some,show (-1+((l.length:Int)+1)).toNat=l.length by omega]
 simp
def lst (ln:List Str):Str:=ln.getLastD ""
def mV (Y:Addr):WSp:=λts S Q=>∃ t y q c m x ln,ts=[.ref t]/\S t=some (tyO Y y q c m x)/\S c=some (.lst (List.map T2.T.str ln))/\Q (.str (lst ln)) S
theorem nY:FnScope vv1 vv1 (ag di):=by nofun
theorem Br {f:Addr}{fd:FuncData}(F:FunD K "last_chosen" "Typist.last_chosen" di f fd) (T:Txt K mg C L R Y Z):FnOk P w K mg base CX0 1 f fd vv1 (lSp K (mV Y)):=by
 refine aR F nY (λts S Q h=>?_) λcdv A outer s H E hr=>?_
 ·obtain ⟨t,y,q,c,m,x,ln,rfl,_⟩:=h;rfl
 have nd:=nY.nd
 refine ⟨_,((ai (ax (t4 (yy rfl (aC rfl T.guc (aa 0))) (aq rfl (aC rfl T.guc (aa 0)) (eC af) (λ_ _=>rfl)) au)))),λts S Q h=>?_⟩
 obtain ⟨t,y,q,c,m,x,ln,rfl,ht,hc,hq⟩:=h
 unfold tyO at ht
 ac_nf
 bv_omega
 rcases List.eq_nil_or_concat ln with rfl|⟨l0,z,rfl⟩
 ·bv_omega
  exact .mk hq
 ·rw [List.concat_eq_append] at *
  rw [show lst (l0++[z])=z by unfold lst;simp] at hq
  rw [show (!(List.map T2.T.str (l0++[z])).isEmpty)=true by simp]
  bv_omega
  refine ug hc (t:=.str z) (by rw [List.map_append];exact zb _ _) ?_
  exact .mk hq
abbrev R4:=Str×Int×Int×Bool
def r4 (a:R4):T2.T:=.tup [.str a.1,.int a.2.1,.int a.2.2.1,.bl a.2.2.2]
def rk (a:R4):Ky:=.cons (.i (-a.2.1)) (.cons (ky (a.1,a.2.2.1)) .nil)
def k4 (a:R4):Ky:=.cons (.tt (!a.2.2.2)) (.cons (rk a) .nil)
def u4:T2.T->Ky
 |.tup [.str z,.int p,.int w,.bl o]=>k4 (z,p,w,o)
 |_=>.nil
theorem Ee {a b:R4}(h:k4 a=k4 b):a=b:=by
 obtain ⟨z,p,w,o⟩:=a
 obtain ⟨z',p',w',o'⟩:=b
 unfold k4 rk ky at h
 simp only [Ky.cons.injEq,Ky.tt.injEq,Ky.i.injEq,Ky.s.injEq,and_true] at h
 obtain ⟨h1,h2,h3,h4⟩:=h
 have:o=o':=by cases o<;>cases o'<;>simp_all
 have:p=p':=by omega
 have:w=w':=by omega
 subst_vars;rfl
def vA:WSp:=λts S Q=>∃ a:R4,ts=[r4 a]/\Q (tre (rk a)) S
theorem oF:FnScope ["one"] ["one"] (ag fJ):=by nofun
theorem Ge {f f1:Addr}{fd fd1:FuncData}(F:Fun K "ranked_key" "ranked_key" fJ f fd) (G_rank_key:FnOk P w K mg base CX0 1 f1 fd1 ["pair"] (lSp K jO)) (D_rank_key:Df K mg "rank_key" f1 fd1 ["pair"]):FnOk P w K mg base CX0 2 f fd ["one"] (lSp K vA):=by
 refine a8 F oF (λts S Q h=>?_) λcdv A outer s H E hr=>?_
 ·obtain ⟨a,rfl,_⟩:=h;rfl
 have nd:=oF.nd
 refine ⟨_,((ai (ax (aU (ad (eC (aq rfl (aa 0) af (λ_ _=>rfl))) (ad (az G_rank_key D_rank_key hr.m (by rfl) (ad (aU (ad (aq rfl (aa 0) af (λ_ _=>rfl)) (ad (aq rfl (aa 0) af (λ_ _=>rfl)) ae (ac rfl)) (ac rfl))) ae (ac rfl))) ae (ac rfl)) (ac rfl)))))),λts S Q h=>?_⟩
 obtain ⟨a,rfl,hq⟩:=h
 ac_nf
 unfold r4
 bv_omega
 refine tw (a:=(a.1,a.2.2.1)) ?_
 bv_omega
 refine .mk ?_
 rw [mI]
 rw [show tre (rk a)=.tup [.int (-a.2.1),tre (ky (a.1,a.2.2.1))] from rfl,mI] at hq
 exact hq
def vB:WSp:=λts S Q=>∃ a:R4,ts=[r4 a]/\Q (tre (k4 a)) S
theorem pi:FnScope ["one"] ["one"] (ag fU):=by nofun
theorem Gf {f f1:Addr}{fd fd1:FuncData}(F:Fun K "told_key" "told_key" fU f fd) (G_ranked_key:FnOk P w K mg base CX0 2 f1 fd1 ["one"] (lSp K vA)) (D_ranked_key:Df K mg "ranked_key" f1 fd1 ["one"]):FnOk P w K mg base CX0 3 f fd ["one"] (lSp K vB):=by
 refine a8 F pi (λts S Q h=>?_) λcdv A outer s H E hr=>?_
 ·obtain ⟨a,rfl,_⟩:=h;rfl
 have nd:=pi.nd
 refine ⟨_,((ai (ax (aU (ad (mr (aq rfl (aa 0) af (λ_ _=>rfl))) (ad (az G_ranked_key D_ranked_key hr.m (by rfl) (ad (aa 0) ae (ac rfl))) ae (ac rfl)) (ac rfl)))))),λts S Q h=>?_⟩
 obtain ⟨a,rfl,hq⟩:=h
 ac_nf
 unfold r4
 bv_omega
 refine ⟨a,rfl,?_⟩
 bv_omega
 refine .mk ?_
 exact hq
def srt {α:Type}(κ:α->Ky) (l:List α):List α:=Classical.epsilon λm=>m.Perm l/\m.Pairwise λa b=>Ky.lt (κ b) (κ a)=false
theorem xB {α:Type}{κ:α->Ky}{k0:Ky}(hs:∀ a,Ky.shp k0 (κ a)=true) (hi:∀ a b,κ a=κ b->a=b):∀ {l m:List α},(l.Pairwise λa b=>Ky.lt (κ b) (κ a)=false)->(m.Pairwise λa b=>Ky.lt (κ b) (κ a)=false)->l.Nodup->l.Perm m->l=m:=by
 intro l
 induction l with
 |nil=>intro m _ _ _ p;exact (List.nil_perm.mp p).symm
 |cons a l ih =>
  intro m h1 h2 hn p
  cases m with
  |nil=>exact absurd p.length_eq (by simp)
  |cons b m =>
   rw [List.pairwise_cons] at h1 h2
   rw [List.nodup_cons] at hn
   by_cases e:a=b
   ·subst e
    rw [ih h1.2 h2.2 hn.2 (List.Perm.cons_inv p)]
   ·have ha:a∈m:=(List.mem_cons.mp (p.mem_iff.mp List.mem_cons_self)).resolve_left e
    have hb:b∈l:=(List.mem_cons.mp (p.mem_iff.mpr List.mem_cons_self)).resolve_left (Ne.symm e)
    have q1:=h1.1 b hb
    have q2:=h2.1 a ha
    rcases Ky.tri (Ky.shp_trans (Ky.qB (hs a)) (hs b)) with q|q|q
    ·rw [q] at q2;cases q2
    ·exact absurd (hi _ _ q) e
    ·rw [q] at q1;cases q1
theorem tN {α:Type}{κ:α->Ky}{k0:Ky}(hs:∀ a,Ky.shp k0 (κ a)=true) (hi:∀ a b,κ a=κ b->a=b) {l l':List α}(hn:l.Nodup) (p:l'.Perm l) (h:l'.Pairwise λa b=>Ky.lt (κ b) (κ a)=false):l'=srt κ l:=by
 have z:=Classical.epsilon_spec (p:=λm:List α=>m.Perm l/\m.Pairwise λa b=>Ky.lt (κ b) (κ a)=false) ⟨l',p,h⟩
 exact xB hs hi h z.2 (p.nodup_iff.mpr hn) (p.trans z.1.symm)
def rows (ps:Pm) (i:Int) (b:Str) (l:List Rw):List R4:=l.map λa=>(a.1,pw ps i b a.1,a.2.1,a.2.2)
def tld (ps:Pm) (i:Int) (b:Str) (l:List Rw) (m:Int):List R4:=(srt k4 (rows ps i b l)).take m.toNat
theorem Bs {ps:Pm}{i:Int}{b:Str}{l:List Rw}(h:l.Nodup):(rows ps i b l).Nodup:=by
 unfold rows
 refine List.Pairwise.map _ (λa c hne=>?_) h
 intro e
 obtain ⟨z,w,o⟩:=a
 obtain ⟨z',w',o'⟩:=c
 simp only [Prod.mk.injEq] at e
 exact hne (by obtain ⟨e1,_,e2,e3⟩:=e;rw [e1,e2,e3])
theorem Gg {α:Type}{grd:Sto->Prop}{g:WG}{te:WE}{Q:List T2.T->Sto->Prop}(f:α->T2.T) (φ:α->T2.T) (cs:StT){ls:List α}{S:Sto}(hg:grd S) (hz:ls.length<=sizeLine)
  (step:∀ a∈ls,∀ (u v w:Option T2.T) (acc:List T2.T) (N:List T2.T->StT->Sto->Prop),acc.length<sizeLine->(∀ u' v' w',N (acc++[φ a]) (u'::v'::w'::cs) S) ->
   g (f a) (u::v::w::cs) S λσ2 S2=>jY σ2 S2 λb S3=>if b=true then te σ2 S3 λy S4=>acc.length<sizeLine/\N (acc++[y]) σ2 S4 else N acc σ2 S3)
  (done:Q (ls.map φ) S):c8 grd g jY te Q (ls.map f) [] (none::none::none::cs) S:=by
 refine hJ (λitems acc σ' S'=>∃ pre suf u v w,ls=pre++suf/\items=suf.map f/\acc=pre.map φ/\σ'=u::v::w::cs/\S'=S) ⟨[],ls,none,none,none,rfl,rfl,rfl,rfl,rfl⟩ ?_ ?_
 ·rintro t ts acc σ' S' N ⟨pre,suf,u,v,w,e,e2,rfl,rfl,rfl⟩ hN
  cases suf with
  |nil=>cases e2
  |cons a r =>
   simp only [List.map_cons,List.cons.injEq] at e2
   obtain ⟨rfl,rfl⟩:=e2
   refine ⟨hg,step a (by rw [e];simp) u v w _ N ?_ λu' v' w'=>hN _ _ _ ⟨pre++[a],r,u',v',w',by rw [e];simp,rfl,by simp,rfl,rfl⟩⟩
   have h2:ls.length=pre.length+(r.length+1):=by rw [e];simp
   rw [List.length_map]
   omega
 ·rintro acc σ' S' ⟨pre,suf,u,v,w,e,e2,rfl,rfl,rfl⟩
  have:suf=[]:=by cases suf with|nil=>rfl|cons _ _=>cases e2
  subst this
  rw [List.append_nil] at e
  subst e
  exact ⟨hg,done⟩
structure Tp (C L R Y:Addr) (S:Sto) (u y q g c h e p d v:Addr) (m k n i:Int) (hs ms:Ms) (vs:List (Str×Bool)) (ps:Pm) (x:Str) (ln:List Str):Prop where
 ty:S u=some (tyO Y y q c m x)
 ly:Ly C L S y h e p d v k n hs ms vs
 pr:S q=some (prO R g i)
 pd:S g=some (.dT (toT ps))
 li:S c=some (.lst (ln.map T2.T.str))
structure Ok (k n i:Int) (hs ms:Ms) (ps:Pm):Prop where
 h:Mo k hs
 o:Mo n ms
 le:hs.length+ms.length<60
 p:Wf 1000 i ps
theorem Gh {S:Sto}{Q:T->Sto->Prop}{y h e p d v:Addr}{k n:Int}{hs ms:Ms}{vs:List (Str×Bool)}{b:Str}(hL:Ly C L S y h e p d v k n hs ms vs) (h1:Mo k hs) (h2:Mo n ms) (q:Q (.lst ((bM hs ms vs k n b).map rw3)) S):nF C L (.ref y::([.str b]++[])) S Q:=⟨y,h,e,p,d,v,k,n,hs,ms,vs,b,rfl,hL,h1,h2,q⟩
theorem Bt {k n:Int}{hs ms:Ms}{vs:List (Str×Bool)}{b:Str}:(bM hs ms vs k n b).length<=ms.length+hs.length:=by
 unfold bM wo kC kD
 rw [List.length_append,List.length_map,List.length_map,ia,ia]
 have a1:=List.length_filter_le (λa:Rt=>(look vs a.1).isNone) (rtd ms n b)
 have a2:=jE ms n b
 have b2:=jE hs k b
 have b1:=List.length_filter_le (λa:Rt=>(look vs a.1).isNone&&(look ms a.1).isNone) (rtd hs k b)
 omega
theorem Ef {k n:Int}{hs ms:Ms}{vs:List (Str×Bool)}{b:Str}(h1:Mo k hs) (h2:Mo n ms):(bM hs ms vs k n b).Nodup:=by
 unfold bM wo kC kD
 rw [List.nodup_append]
 refine ⟨?_,?_,λx hx y hy e=>?_⟩
 ·refine List.Pairwise.map _ (λa c hne=>?_) ((gD _).nodup_iff.mpr ((jN h2.nd).filter _))
  intro e
  exact hne (Prod.ext (congrArg (λz:Rw=>z.1) e) (congrArg (λz:Rw=>z.2.1) e))
 ·refine List.Pairwise.map _ (λa c hne=>?_) ((gD _).nodup_iff.mpr ((jN h1.nd).filter _))
  intro e
  exact hne (Prod.ext (congrArg (λz:Rw=>z.1) e) (congrArg (λz:Rw=>z.2.1) e))
 ·obtain ⟨a,_,rfl⟩:=List.mem_map.mp hx
  obtain ⟨c,_,rfl⟩:=List.mem_map.mp hy
  have:=congrArg (λz:Rw=>z.2.2) e
  cases this
def jP (C L R Y:Addr):WSp:=λts S Q=>∃ u y q g c h e p d v m k n i hs ms vs ps x ln,ts=[.ref u]/\Tp C L R Y S u y q g c h e p d v m k n i hs ms vs ps x ln/\Ok k n i hs ms ps/\0<=m/\((srt k4 (rows ps i (lst ln) (bM hs ms vs k n x))).Perm (rows ps i (lst ln) (bM hs ms vs k n x))->Q (.lst ((tld ps i (lst ln) (bM hs ms vs k n x) m).map r4)) S)
theorem oo:FnScope ["self","before","rows"] vv1 (ag dC):=by nofun
theorem Bu {f f1 f2 f3 f4:Addr}{fd fd1 fd2 fd3 fd4:FuncData}(F:FunD K "told" "Typist.told" dC f fd) (T:Txt K mg C L R Y Z)
  (G_Typist_last_chosen:FnOk P w K mg base CX0 1 f1 fd1 vv1 (lSp K (mV Y))) (M_Typist_last_chosen:Meth K Y "last_chosen" f1) (B_Typist_last_chosen:aj K fd1 vv1 [])
  (G_Layers_all_told:FnOk P w K mg base CX0 6 f2 fd2 cE (lSp K (nF C L))) (M_Layers_all_told:Meth K L "all_told" f2) (B_Layers_all_told:aj K fd2 cE [])
  (G_Pairs_worth_of:FnOk P w K mg base CX0 2 f3 fd3 d6 (lSp K (nV R))) (M_Pairs_worth_of:Meth K R "worth_of" f3) (B_Pairs_worth_of:aj K fd3 d6 [])
  (G_told_key:FnOk P w K mg base CX0 3 f4 fd4 ["one"] (lSp K vB)) (D_told_key:Df K mg "told_key" f4 fd4 ["one"]):FnOk P w K mg base CX0 7 f fd vv1 (lSp K (jP C L R Y)):=by
 refine aR F oo (λts S Q h=>?_) λcdv A outer s H E hr=>?_
 ·obtain ⟨u,y,q,g,c,h,e,p,d,v,m,k,n,i,hs,ms,vs,ps,x,ln,rfl,_⟩:=h;rfl
 have nd:=oo.nd
 refine ⟨_,((ak (aK (i:=1) nd rfl (Or.inr rfl) (bO (T.gu M_Typist_last_chosen) G_Typist_last_chosen B_Typist_last_chosen hr.m (aa 0)))
   (ak (hE false (i:=2) vv16 3 [1,0] rfl nd rfl (Or.inl rfl) (cV rfl (aV (T.gl M_Layers_all_told) G_Layers_all_told B_Layers_all_told hr.m (aC rfl T.gul (aa 0)) (ad (aC rfl T.gut (aa 0)) ae (ac rfl)))) (λ_ _ _ _=>(mv (λh=>lD (n:=3) rfl rfl h) (eY (bi (i:=0) (show List.Nodup (vv16:List Str) from by decide +kernel) rfl (Or.inl rfl)) (eY (bi (i:=1) (show List.Nodup (vv16:List Str) from by decide +kernel) rfl (Or.inl rfl)) (eY (bi (i:=2) (show List.Nodup (vv16:List Str) from by decide +kernel) rfl (Or.inl rfl)) lJ (λh1 h2=>eX h1 h2)) (λh1 h2=>eX h1 h2)) (λh1 h2=>eX h1 h2)))) (λ_ _ _ _=>cW) (λ_ _ _ _=>(aU (ad (aa 0) (ad (aV (T.gp M_Pairs_worth_of) G_Pairs_worth_of B_Pairs_worth_of hr.m (aC rfl T.gup (aa 4)) (ad (aa 3) (ad (aa 0) ae (ac rfl)) (ac rfl))) (ad (aa 1) (ad (aa 2) ae (ac rfl)) (ac rfl)) (ac rfl)) (ac rfl)))))
   (ai (ax (gH false rfl (rl false rfl G_told_key D_told_key hr.m (by rfl) T.sorted (by rfl) (ad (aa 2) ae (ac rfl))) hZ (e8 (aC rfl T.gum (aa 0))))))))),λts S Q hh=>?_⟩
 obtain ⟨u,y,q,g,c,h,e,p,d,v,m,k,n,i,hs,ms,vs,ps,x,ln,rfl,tp,ok,hm,hq⟩:=hh
 have ht:=tp.ty
 have hy:=tp.ly.ins
 have hp:=tp.pr
 unfold tyO at ht
 unfold prO at hp
 ac_nf
 bv_omega
 refine ⟨u,y,q,c,m,x,ln,rfl,tp.ty,tp.li,?_⟩
 bv_omega
 refine Gh tp.ly ok.h ok.o ?_
 have hlen:=Bt (k:=k) (n:=n) (hs:=hs) (ms:=ms) (vs:=vs) (b:=x)
 have hnd:=Ef (vs:=vs) (b:=x) ok.h ok.o
 have h60:=ok.le
 generalize bM hs ms vs k n x=al at hlen hnd hq ⊢
 bv_omega
 refine Gg (ls:=al) rw3 (λa=>r4 (a.1,pw ps i (lst ln) a.1,a.2.1,a.2.2)) [some (.str (lst ln)),some (.ref u)] trivial (by rw [sizeLine_eq];omega) (λa ha _ _ _ acc N hacc hN=>?_) ?_
 ·unfold rw3
  bv_omega
  refine Hs tp.pr tp.pd ok.p ?_
  bv_omega
  exact ⟨hacc,hN _ _ _⟩
 ·rw [show al.map (λa=>r4 (a.1,pw ps i (lst ln) a.1,a.2.1,a.2.2))=(rows ps i (lst ln) al).map r4 by unfold rows;rw [List.map_map];rfl]
  bv_omega
  refine rp u4 (k4 ("",0,0,true)) rfl (by unfold rows;rw [List.length_map];omega) rfl (by decide) (λa ha=>⟨rfl,rfl,λS' Q' q=>⟨a,rfl,q⟩⟩) λl' p hs=>?_
  have es:=tN (κ:=k4) (k0:=k4 ("",0,0,true)) (λ_=>rfl) (λa b=>Ee) (Bs hnd) p hs
  rw [es] at p ⊢
  bv_omega
  rw [rh hm]
  exact .mk (hq p)
end
theorem eG {S:Sto}{a b:Addr}{o u:O}(h1:S a=some o) (h2:S b=some u) (h:o≠u):a≠b:=λe=>by rw [e,h2] at h1;exact h (Option.some.inj h1).symm
theorem iP {S:Sto}{a b:Addr}{o:O}(h1:S a=some o) (h2:S b=none):a≠b:=λe=>by rw [e,h2] at h1;cases h1
structure At (S:Sto) (l:List (Addr×O)):Prop where
 nd:(l.map (·.1)).Nodup
 is:∀ x∈l,S x.1=some x.2
section
variable {S S' S0:Sto}{l l' l0 l1 l2 l3:List (Addr×O)}{a:Addr}{o o':O}
theorem At.get (h:At S l) (i:Nat) (e:l[i]?=some (a,o)):S a=some o:=h.is _ (List.mem_of_getElem? e)
theorem rS {i:Nat}(e:l[i]?=some (a,o)):(l.set i (a,o')).map (·.1)=l.map (·.1):=by
 rw [List.map_set]
 refine List.ext_getElem? λj=>?_
 rw [List.getElem?_set]
 by_cases h:i=j
 ·subst h;rw [if_pos rfl,if_pos (by rw [List.length_map];exact (List.getElem?_eq_some_iff.mp e).1),List.getElem?_map,e];rfl
 ·rw [if_neg h]
theorem At.put (h:At S l) (i:Nat) (e:l[i]?=some (a,o)):At (T2.put S a o') (l.set i (a,o')):=by
 obtain ⟨hi,e2⟩:=List.getElem?_eq_some_iff.mp e
 refine ⟨rS e ▸ h.nd,λx hx=>?_⟩
 obtain ⟨j,hj,ej⟩:=List.mem_iff_getElem.mp hx
 rw [List.length_set] at hj
 rw [List.getElem_set] at ej
 split at ej
 ·subst ej;exact aJ
 ·rename_i hij
  have hne:x.1≠a:=λq=>by
   have h1:=(List.getElem_inj (i:=i) (j:=j) (h₀:=by rw [List.length_map];exact hi) (h₁:=by rw [List.length_map];exact hj) h.nd).mp (by rw [List.getElem_map,List.getElem_map,e2,ej,q])
   exact hij h1
  rw [aD hne]
  exact h.is x (by rw [<- ej];exact List.getElem_mem hj)
theorem At.left (h:At S (l1++l2)):At S l1:=⟨by have n:=h.nd;rw [List.map_append] at n;exact (List.nodup_append.mp n).1,λx hx=>h.is x (List.mem_append_left _ hx)⟩
structure Up (S0:Sto) (l0:List (Addr×O)) (S:Sto) (l:List (Addr×O)):Prop where
 at_:At S l
 ks:l.map (·.1)=l0.map (·.1)
 fr:∀ a,a∉l0.map (·.1)->S a=S0 a
theorem Up.refl (h:At S l):Up S l S l:=⟨h,rfl,λ_ _=>rfl⟩
theorem Up.put (h:Up S0 l0 S l) (i:Nat) (e:l[i]?=some (a,o)):Up S0 l0 (T2.put S a o') (l.set i (a,o')):=by
 refine ⟨h.at_.put i e,?_,λb hb=>?_⟩
 ·rw [<- h.ks];exact rS e
 ·have:b≠a:=λq=>hb (by rw [<- h.ks,q];exact List.mem_map_of_mem (List.mem_of_getElem? e))
  rw [aD this];exact h.fr b hb
theorem At.up {l1':List (Addr×O)}(h:At S (l1++l2)) (u:Up S l1 S' l1'):At S' (l1'++l2):=by
 have n:=h.nd
 rw [List.map_append] at n
 refine ⟨by rw [List.map_append,u.ks];exact n,λx hx=>?_⟩
 rcases List.mem_append.mp hx with hx|hx
 ·exact u.at_.is x hx
 ·rw [u.fr x.1 λq=>(List.nodup_append.mp n).2.2 _ q _ (List.mem_map_of_mem hx) rfl]
  exact h.is x (List.mem_append_right _ hx)
end
section
variable {C:Addr}{S S':Sto}{l l':List (Addr×O)}{a b y p d v h:Addr}{o u:O}
theorem At.ne (h:At S l) (i j:Nat) (hij:i≠j) (ei:l[i]?=some (a,o)) (ej:l[j]?=some (b,u)):a≠b:=λq=>by
 obtain ⟨hi,e2⟩:=List.getElem?_eq_some_iff.mp ei
 obtain ⟨hj,e3⟩:=List.getElem?_eq_some_iff.mp ej
 exact hij ((List.getElem_inj (i:=i) (j:=j) (h₀:=by rw [List.length_map];exact hi) (h₁:=by rw [List.length_map];exact hj) h.nd).mp (by rw [List.getElem_map,List.getElem_map,e2,e3];exact q))
theorem At.pick (h:At S l) (is:List Nat) (hn:is.Nodup) (e:is.map (l[·]?)=l'.map some):At S l':=by
 induction is generalizing l' with
 |nil=>cases l' with
  |nil=>exact ⟨List.nodup_nil,λx hx=>nomatch hx⟩
  |cons _ _=>cases e
 |cons i is ih =>
  cases l' with
  |nil=>cases e
  |cons x r =>
   rw [List.map_cons,List.map_cons,List.cons.injEq] at e
   have q:=ih (List.nodup_cons.mp hn).2 e.2
   refine ⟨List.nodup_cons.mpr ⟨λhm=>?_,q.nd⟩,λz hz=>?_⟩
   ·obtain ⟨z,hz,hzx⟩:=List.mem_map.mp hm
    have hz2:some z∈is.map (l[·]?):=by rw [e.2];exact List.mem_map_of_mem hz
    obtain ⟨j,hj,ej⟩:=List.mem_map.mp hz2
    exact h.ne i j (λq=>(List.nodup_cons.mp hn).1 (by rw [q];exact hj)) (a:=x.1) (o:=x.2) (b:=z.1) (u:=z.2) e.1 ej hzx.symm
   ·rcases List.mem_cons.mp hz with rfl|hz
    ·exact h.is _ (List.mem_of_getElem? e.1)
    ·exact q.is z hz
theorem At.cons (h:At S l) (ha:S a=none):At (T2.put S a o) ((a,o)::l):=by
 refine ⟨List.nodup_cons.mpr ⟨λhm=>?_,h.nd⟩,λx hx=>?_⟩
 ·obtain ⟨x,hx,e⟩:=List.mem_map.mp hm
  exact iP (h.is x hx) ha e
 ·rcases List.mem_cons.mp hx with rfl|hx
  ·exact aJ
  ·exact (aD (iP (h.is x hx) ha)).trans (h.is x hx)
end
theorem F' {S:Sto}{Q:T2.T->Sto->Prop}{α:Type}{f:α->T2.T}{ls:List α}{z:α}{i:Int}(e:atI ls i=some z) (h:Q (f z) S):gIx (.lst (ls.map f)) (.int i) S Q :=
 fz (by rw [lQ,e];rfl) h
theorem jt {α:Type}(l:List α) (k:Nat):atI l (k:Int)=l[k]?:=by
 by_cases h:k<l.length
 ·simp [atI,ixN,h]
 ·simp [atI,ixN,h]
theorem Hr {S:Sto}{Q:T2.T->Sto->Prop}{a:R4}(h:Q (.str a.1) S):gIx (r4 a) (.int 0) S Q:=iK (t:=.str a.1) rfl h
structure Ad where
 (h e y p d v u q g c:Addr)
structure Ab where
 (k n i:Int) (hs ms:Ms) (vs:List (Str×Bool)) (ps:Pm) (x:Str) (ln:List Str)
def woO (C d:Addr) (n:Int):O:=.ins C [("marks",.ref d),("now",.int n)]
def lyO (L h p v:Addr):O:=.ins L [("house",.ref h),("own",.ref p),("veiled",.ref v)]
structure Cs where
 (C L R Y:Addr)
def lay (D:Cs) (A:Ad) (m:Int) (a:Ab):List (Addr×O) :=
 [(A.h,woO D.C A.e a.k),(A.e,.dK (kt mkT a.hs)),(A.y,lyO D.L A.h A.p A.v),(A.p,woO D.C A.d a.n),(A.d,.dK (kt mkT a.ms)),(A.v,.dK (kt T2.T.bl a.vs)),(A.u,tyO D.Y A.y A.q A.c m a.x),(A.q,prO D.R A.g a.i),(A.g,.dT (toT a.ps)),(A.c,.lst (a.ln.map T2.T.str))]
section
variable {D:Cs}{A:Ad}{m:Int}{a:Ab}{S S0:Sto}{l0:List (Addr×O)}
theorem At.wh (h:At S (lay D A m a)):Wo D.C S A.h A.e a.k a.hs:=⟨h.get 0 rfl,h.get 1 rfl⟩
theorem At.wo (h:At S (lay D A m a)):Wo D.C S A.p A.d a.n a.ms:=⟨h.get 3 rfl,h.get 4 rfl⟩
theorem At.ly (h:At S (lay D A m a)):Ly D.C D.L S A.y A.h A.e A.p A.d A.v a.k a.n a.hs a.ms a.vs:=⟨h.get 2 rfl,h.wh,h.wo,h.get 5 rfl⟩
theorem At.tp (h:At S (lay D A m a)):Tp D.C D.L D.R D.Y S A.u A.y A.q A.g A.c A.h A.e A.p A.d A.v m a.k a.n a.i a.hs a.ms a.vs a.ps a.x a.ln:=⟨h.get 6 rfl,h.ly,h.get 7 rfl,h.get 8 rfl,h.get 9 rfl⟩
theorem Up.hou {hs:Ms}(h:Up S0 l0 S (lay D A m a)):Up S0 l0 (T2.put S A.e (.dK (kt mkT hs))) (lay D A m { a with hs:=hs }):=h.put 1 rfl
theorem Up.own {ms:Ms}(h:Up S0 l0 S (lay D A m a)):Up S0 l0 (T2.put S A.d (.dK (kt mkT ms))) (lay D A m { a with ms:=ms }):=h.put 4 rfl
theorem Up.vei {vs:List (Str×Bool)}(h:Up S0 l0 S (lay D A m a)):Up S0 l0 (T2.put S A.v (.dK (kt T2.T.bl vs))) (lay D A m { a with vs:=vs }):=h.put 5 rfl
theorem Up.eraH {k:Int}(h:Up S0 l0 S (lay D A m a)):Up S0 l0 (T2.put S A.h (woO D.C A.e k)) (lay D A m { a with k:=k }):=h.put 0 rfl
theorem Up.eraO {n:Int}(h:Up S0 l0 S (lay D A m a)):Up S0 l0 (T2.put S A.p (woO D.C A.d n)) (lay D A m { a with n:=n }):=h.put 3 rfl
theorem Up.eraP {i:Int}(h:Up S0 l0 S (lay D A m a)):Up S0 l0 (T2.put S A.q (prO D.R A.g i)) (lay D A m { a with i:=i }):=h.put 7 rfl
theorem Up.prs {ps:Pm}(h:Up S0 l0 S (lay D A m a)):Up S0 l0 (T2.put S A.g (.dT (toT ps))) (lay D A m { a with ps:=ps }):=h.put 8 rfl
theorem Up.txt {x:Str}(h:Up S0 l0 S (lay D A m a)):Up S0 l0 (T2.put S A.u (tyO D.Y A.y A.q A.c m x)) (lay D A m { a with x:=x }):=h.put 6 rfl
theorem Up.lin {ln:List Str}(h:Up S0 l0 S (lay D A m a)):Up S0 l0 (T2.put S A.c (.lst (ln.map T2.T.str))) (lay D A m { a with ln:=ln }):=h.put 9 rfl
end
structure Okk (a:Ab):Prop where
 ok:Ok a.k a.n a.i a.hs a.ms a.ps
 vl:a.vs.length<60
 xl:a.x.length<=24
 ll:a.ln.length<=2000
def Ab.told (a:Ab) (m:Int):List R4:=tld a.ps a.i (lst a.ln) (bM a.hs a.ms a.vs a.k a.n a.x) m
def usd (ms:Ms) (n:Int) (z:Str) (c:Int):Ms:=match look ms z with
 |some m=>pu ms z (wrt m n+c,n)
 |none=>ms
theorem iQ {ms:Ms}{n c:Int}{z:Str}{m:Int×Int}(h:look ms z=some m):usd ms n z c=pu ms z (wrt m n+c,n):=by unfold usd;rw [h]
def Ab.use (a:Ab) (z:Str) (c:Int):Ab:=if (look a.ms z).isSome then { a with ms:=usd a.ms a.n z c } else { a with hs:=usd a.hs a.k z c }
theorem uH {a:Ab}{z:Str}{c:Int}{m:Int×Int}(h:look a.ms z=some m):a.use z c={ a with ms:=pu a.ms z (wrt m a.n+c,a.n) }:=by unfold Ab.use;rw [h,Option.isSome_some,if_pos rfl,iQ h]
theorem uI {a:Ab}{z:Str}{c:Int}{m:Int×Int}(h:look a.ms z=none) (h2:look a.hs z=some m):a.use z c={ a with hs:=pu a.hs z (wrt m a.k+c,a.k) }:=by unfold Ab.use;rw [h,Option.isSome_none,if_neg (by decide),iQ h2]
theorem tO {a:Ab}{z:Str}{c:Int}:(a.use z c).ps=a.ps/\(a.use z c).i=a.i/\(a.use z c).ln=a.ln/\(a.use z c).x=a.x/\(a.use z c).vs=a.vs/\(a.use z c).k=a.k/\(a.use z c).n=a.n:=by unfold Ab.use;split<;>exact ⟨rfl,rfl,rfl,rfl,rfl,rfl,rfl⟩
def Ab.tak (a:Ab) (z:Str):Ab:={ a.use z 1 with ps:=chosen a.ps a.i (lst a.ln) z,ln:=a.ln++[z],x:="" }
def Can (a:Ab) (z:Str):Prop:=look a.vs z=none/\((∃ m,look a.ms z=some m)\/look a.ms z=none/\∃ m,look a.hs z=some m)
theorem qH {ms:Ms}{n:Int}{b:Str}{r:Rt}(h:r∈rtd ms n b):∃ m,look ms r.1=some m:=by
 unfold rtd g7 at h
 obtain ⟨x,hx,rfl⟩:=List.mem_map.mp h
 have hm:x.1∈ms.map (·.1):=List.mem_map_of_mem (List.mem_filter.mp hx).1
 cases q:look ms x.1 with
 |none=>exact absurd hm (As.cU.mp q)
 |some m=>exact ⟨m,rfl⟩
theorem Bv {a:Ab}{b:Str}{r:Rw}(h:r∈bM a.hs a.ms a.vs a.k a.n b):Can a r.1:=by
 unfold bM wo at h
 rcases List.mem_append.mp h with h|h
 ·obtain ⟨s,hs,rfl⟩:=List.mem_map.mp h
  have hs:=(gD _).mem_iff.mp hs
  unfold kC at hs
  obtain ⟨h1,h2⟩:=List.mem_filter.mp hs
  exact ⟨Option.isNone_iff_eq_none.mp h2,.inl (qH h1)⟩
 ·obtain ⟨s,hs,rfl⟩:=List.mem_map.mp h
  have hs:=(gD _).mem_iff.mp hs
  unfold kD at hs
  obtain ⟨h1,h2⟩:=List.mem_filter.mp hs
  simp only [Bool.and_eq_true,Option.isNone_iff_eq_none] at h2
  exact ⟨h2.1,.inr ⟨h2.2,qH h1⟩⟩
theorem zc {a:Ab}{m:Int}{r:R4}(p:(srt k4 (rows a.ps a.i (lst a.ln) (bM a.hs a.ms a.vs a.k a.n a.x))).Perm (rows a.ps a.i (lst a.ln) (bM a.hs a.ms a.vs a.k a.n a.x))) (h:r∈a.told m):Can a r.1:=by
 unfold Ab.told tld at h
 have h:=p.mem_iff.mp (List.mem_of_mem_take h)
 unfold rows at h
 obtain ⟨s,hs,rfl⟩:=List.mem_map.mp h
 exact Bv hs
section
variable {P:Program}{w:World}{K:PySem.W.Frag}{mg:Str->Option Value}{base:Heap}{C L R Y:Addr}{Z:Zs}
def rT (D:Cs):WSp:=λts S Q=>∃ A m a i r,ts=[.ref A.u,.int i]/\At S (lay D A m a)/\Okk a/\0<=m/\0<=i/\(a.told m)[i.toNat]?=some r/\∀ S',Up S (lay D A m a) S' (lay D A m (a.tak r.1))->PyData.strOk r.1=true->Q (.str r.1) S'
theorem jc:FnScope ["self","number","told","word"] fH (ag cJ):=by nofun
theorem zd {f f1 f2 f3 f4 f5:Addr}{fd fd1 fd2 fd3 fd4 fd5:FuncData}(F:FunD K "take" "Typist.take" cJ f fd) (T:Txt K mg C L R Y Z)
  (G_Typist_told:FnOk P w K mg base CX0 7 f1 fd1 vv1 (lSp K (jP C L R Y))) (M_Typist_told:Meth K Y "told" f1) (B_Typist_told:aj K fd1 vv1 [])
  (G_Layers_use:FnOk P w K mg base CX0 4 f2 fd2 vv4 (lSp K (mT C L))) (M_Layers_use:Meth K L "use" f2){tk:Tok}(B0_Layers_use:aj K fd2 vv4 [.int 1 tk])
  (G_Pairs_choose:FnOk P w K mg base CX0 3 f3 fd3 d6 (lSp K (qG R))) (M_Pairs_choose:Meth K R "choose" f3) (B_Pairs_choose:aj K fd3 d6 [])
  (G_Typist_last_chosen:FnOk P w K mg base CX0 1 f4 fd4 vv1 (lSp K (mV Y))) (M_Typist_last_chosen:Meth K Y "last_chosen" f4) (B_Typist_last_chosen:aj K fd4 vv1 [])
  (G_Typist_clear:FnOk P w K mg base CX0 1 f5 fd5 vv1 (lSp K (l9 Y))) (M_Typist_clear:Meth K Y "clear" f5) (B_Typist_clear:aj K fd5 vv1 []):FnOk P w K mg base CX0 8 f fd fH (lSp K (rT ⟨C,L,R,Y⟩)):=by
 refine aR F jc (λts S Q h=>?_) λcdv A outer s H E hr=>?_
 ·obtain ⟨A,m,a,i,r,rfl,_⟩:=h;rfl
 have nd:=jc.nd
 refine ⟨_,((ak (aK (i:=2) nd rfl (Or.inl rfl) (bO (T.gu M_Typist_told) G_Typist_told B_Typist_told hr.m (aa 0)))
   (ak (aA (bP (kX df cD af (aa 1) (aO (bq rfl) (by rfl) T.len PySem.boot_len (ad (aa 2) ae (ac rfl)))))
    (ai bL)
    aB)
   (ak (aK (i:=3) nd rfl (Or.inl rfl) (aq rfl (aq rfl (aa 2) (aa 1) (λ_ _=>rfl)) af (λ_ _=>rfl)))
   (ak (bH (AQ (T.gl M_Layers_use) G_Layers_use B0_Layers_use hr.m (aC rfl T.gul (aa 0)) (ad (aa 3) ae (ac rfl))))
   (ak (bH (aV (T.gp M_Pairs_choose) G_Pairs_choose B_Pairs_choose hr.m (aC rfl T.gup (aa 0)) (ad (bO (T.gu M_Typist_last_chosen) G_Typist_last_chosen B_Typist_last_chosen hr.m (aa 0)) (ad (aa 3) ae (ac rfl)) (ac rfl))))
   (ak (bH (d5 rfl PySem.F.plainAttrs_list PySem.F.slot_list_append PySem.F.type_list_append qz (aC rfl T.guc (aa 0)) (ad (aa 3) ae (ac rfl)) (λh1 h2 h3=>dS PySem.F.plainAttrs_list PySem.F.slot_list_append PySem.F.type_list_append h2 h1 h3)))
   (ak (bH (bO (T.gu M_Typist_clear) G_Typist_clear B_Typist_clear hr.m (aa 0)))
   (ai (ax (aa 3))))))))))),λts S Q h=>?_⟩
 obtain ⟨A,m,a,i,r,rfl,hA,ok,hm,hi,hr4,hq⟩:=h
 have tp:=hA.tp
 have ht:=tp.ty
 unfold tyO at ht
 ac_nf
 bv_omega
 refine ⟨_,_,_,_,_,_,_,_,_,_,_,_,_,_,_,_,_,_,_,_,rfl,tp,ok.ok,hm,λp=>?_⟩
 have hcan:=zc (m:=m) p (List.mem_of_getElem? hr4)
 have hil:i.toNat<(a.told m).length:=(List.getElem?_eq_some_iff.mp hr4).1
 change wgN _ (.lst ((a.told m).map r4)) _ _ _
 generalize a.told m=tl at hr4 hil ⊢
 have hat:atI tl i=some r:=by rw [<- hr4,<- jt,Int.toNat_of_nonneg hi]
 refine uf rfl ?_
 dsimp only
 refine eD (λσ' S'=>σ'=[some (.ref A.u),some (.int i),some (.lst (tl.map r4)),none]/\S'=S) ?_ ?_
 ·intro X hX
  bv_omega
  rw [decide_eq_true hi]
  bv_omega
  rw [decide_eq_true (show i<(tl.length:Int) by omega)]
  bv_omega
  exact hX _ _ ⟨rfl,rfl⟩
 rintro σ' S' ⟨rfl,rfl⟩
 refine eD (λσ' S2=>σ'=[some (.ref A.u),some (.int i),some (.lst (tl.map r4)),some (.str r.1)]/\S2=S') ?_ ?_
 ·intro X hX
  bv_omega
  exact hX _ _ ⟨rfl,rfl⟩
 rintro σ' S2 ⟨rfl,rfl⟩
 have hly:=tp.ly.ins
 have h1l:=ok.ok.h.len
 have h2l:=ok.ok.o.len
 have hi1:=ok.ok.p
 refine eD (λσ' S3=>σ'=[some (.ref A.u),some (.int i),some (.lst (tl.map r4)),some (.str r.1)]/\Up S2 (lay ⟨C,L,R,Y⟩ A m a) S3 (lay ⟨C,L,R,Y⟩ A m (a.use r.1 1))) ?_ ?_
 ·intro X hX
  bv_omega
  refine ⟨A.y,_,_,_,_,_,_,_,_,_,_,r.1,1,rfl,tp.ly,by omega,by omega,hcan.1,?_⟩
  rcases hcan.2 with ⟨mm,e⟩|⟨e0,mm,e⟩
  ·refine .inl ⟨mm,e,ok.ok.o.old _ (As.d8 e),?_⟩
   refine hX _ _ ⟨rfl,?_⟩
   rw [uH e]
   exact (Up.refl hA).own
  ·refine .inr ⟨e0,mm,e,ok.ok.h.old _ (As.d8 e),?_⟩
   refine hX _ _ ⟨rfl,?_⟩
   rw [uI e0 e]
   exact (Up.refl hA).hou
 rintro σ' S3 ⟨rfl,U⟩
 obtain ⟨e1,e2,e3,e4,e5,e6,e7⟩:=tO (a:=a) (z:=r.1) (c:=1)
 have tp3:=U.at_.tp
 have ht3:=tp3.ty
 have hp3:=tp3.pr
 have hpd3:=tp3.pd
 have hli3:=tp3.li
 rw [e1] at hpd3
 rw [e2] at hp3
 rw [e3] at hli3
 unfold tyO at ht3
 unfold prO at hp3
 bv_omega
 refine ⟨A.u,_,_,_,_,_,_,rfl,tp3.ty,tp3.li,?_⟩
 rw [e3]
 bv_omega
 refine ⟨A.q,A.g,a.i,a.ps,lst a.ln,r.1,1000,rfl,hp3,hpd3,hi1,by decide,?_⟩
 have U4:=U.prs (ps:=chosen a.ps a.i (lst a.ln) r.1)
 generalize put S3 A.g (.dT (toT (chosen a.ps a.i (lst a.ln) r.1)))=S4 at U4 ⊢
 have tp4:=U4.at_.tp
 have ht4:=tp4.ty
 have hli4:S4 A.c=some (.lst (a.ln.map T2.T.str)):=by have:=tp4.li;dsimp only at this;rw [e3] at this;exact this
 unfold tyO at ht4
 bv_omega
 have hl4:=ok.ll
 refine qA hli4 (by rw [List.length_map,sizeLine_eq];omega) ?_
 have U5:=U4.lin (ln:=a.ln++[r.1])
 rw [show (a.ln++[r.1]).map T2.T.str=a.ln.map T2.T.str++[T2.T.str r.1] by rw [List.map_append];rfl] at U5
 generalize put S4 A.c (.lst (a.ln.map T2.T.str++[T2.T.str r.1]))=S5 at U5 ⊢
 have ht5:=U5.at_.tp.ty
 have ht5':=ht5
 unfold tyO at ht5'
 bv_omega
 refine ⟨A.u,_,_,_,_,_,rfl,ht5,?_⟩
 have U6:=U5.txt (x:="")
 bv_omega
 refine .mk (hq _ U6 (Wm.j7 ?_))
 rcases hcan.2 with ⟨mm,e⟩|⟨_,mm,e⟩
 ·exact ok.ok.o.wd _ (As.d8 e)
 ·exact ok.ok.h.wd _ (As.d8 e)
def rV (D:Cs) (X:Addr):bu:=λts S R=>∃ A m a i,ts=[.ref A.u,.int i]/\At S (lay D A m a)/\Okk a/\0<=m/\i.natAbs.log2<1920/\(i<0\/((a.told m).length:Int)<=i)/\R X S
theorem ze {f f1:Addr}{fd fd1:FuncData}(F:FunD K "take" "Typist.take" cJ f fd) (T:Txt K mg C L R Y Z)
  (G_Typist_told:FnOk P w K mg base CX0 7 f1 fd1 vv1 (lSp K (jP C L R Y))) (M_Typist_told:Meth K Y "told" f1) (B_Typist_told:aj K fd1 vv1 []):FnOk P w K mg base (CX1 P w) 8 f fd fH (aP K (rV ⟨C,L,R,Y⟩ Z.H)):=by
 refine cf F jc (λts S Q h=>?_) λcdv A outer s H E hr=>?_
 ·obtain ⟨A,m,a,i,rfl,_⟩:=h;rfl
 have nd:=jc.nd
 refine ⟨_,((bw (aK (i:=2) nd rfl (Or.inl rfl) (bO (T.gu M_Typist_told) G_Typist_told B_Typist_told hr.m (aa 0)))
   (aH (bg (bP (kX df cD af (aa 1) (aO (bq rfl) (by rfl) T.len PySem.boot_len (ad (aa 2) ae (ac rfl))))) (aH (cw T.x_NoChoice T.k_NoChoice rfl (by rfl) T.mg_NoChoice (ad (Hm (aa 1)) ae (ac rfl))))
    bh)))),λts S Q h=>?_⟩
 obtain ⟨A,m,a,i,rfl,hA,ok,hm,hi,hr4,hq⟩:=h
 have tp:=hA.tp
 have ht:=tp.ty
 unfold tyO at ht
 ac_nf
 bv_omega
 refine ⟨_,_,_,_,_,_,_,_,_,_,_,_,_,_,_,_,_,_,_,_,rfl,tp,ok.ok,hm,λp=>?_⟩
 change wgN _ (.lst ((a.told m).map r4)) _ _ _
 generalize a.told m=tl at hr4 ⊢
 bv_omega
 by_cases h0:0<=i
 ·rw [decide_eq_true h0]
  bv_omega
  rw [decide_eq_false (show ¬ i<(tl.length:Int) by omega)]
  bv_omega
  refine ⟨i,rfl,hi,λe=>?_⟩
  bv_omega
  exact ⟨Nat.le_of_ble_eq_true rfl,.mk hq⟩
 ·rw [decide_eq_false h0]
  bv_omega
  refine ⟨i,rfl,hi,λe=>?_⟩
  bv_omega
  exact ⟨Nat.le_of_ble_eq_true rfl,.mk hq⟩
def rW (D:Cs):WSp:=λts S Q=>∃ A m a c,ts=[.ref A.u,.int c]/\At S (lay D A m a)/\∀ S',Up S (lay D A m a) S' (lay D A m { a with n:=a.n+c,i:=a.i+c })->Q .non S'
theorem oq:FnScope vv7 vv7 (ag dD):=by nofun
theorem zg {f f1 f2:Addr}{fd fd1 fd2:FuncData}(F:FunD K "fade" "Typist.fade" dD f fd) (T:Txt K mg C L R Y Z)
  (G_Layers_fade:FnOk P w K mg base CX0 2 f1 fd1 vv7 (lSp K (l8 C L))) (M_Layers_fade:Meth K L "fade" f1) (B_Layers_fade:aj K fd1 vv7 [])
  (G_Pairs_fade:FnOk P w K mg base CX0 1 f2 fd2 vv7 (lSp K (rO R))) (M_Pairs_fade:Meth K R "fade" f2) (B_Pairs_fade:aj K fd2 vv7 []):FnOk P w K mg base CX0 3 f fd vv7 (lSp K (rW ⟨C,L,R,Y⟩)):=by
 refine aR F oq (λts S Q h=>?_) λcdv A outer s H E hr=>?_
 ·obtain ⟨A,m,a,c,rfl,_⟩:=h;rfl
 have nd:=oq.nd
 refine ⟨_,((ak (bH (aV (T.gl M_Layers_fade) G_Layers_fade B_Layers_fade hr.m (aC rfl T.gul (aa 0)) (ad (aa 1) ae (ac rfl))))
   (ai (bH (aV (T.gp M_Pairs_fade) G_Pairs_fade B_Pairs_fade hr.m (aC rfl T.gup (aa 0)) (ad (aa 1) ae (ac rfl))))))),λts S Q h=>?_⟩
 obtain ⟨A,m,a,c,rfl,hA,hq⟩:=h
 have tp:=hA.tp
 have ht:=tp.ty
 have hy:=tp.ly.ins
 unfold tyO at ht
 ac_nf
 bv_omega
 refine ⟨A.y,_,_,_,_,_,_,_,_,_,_,c,rfl,tp.ly,?_⟩
 have U1:=(Up.refl hA).eraO (n:=a.n+c)
 unfold woO at U1
 dsimp only at U1
 generalize put S A.p (.ins C [("marks",.ref A.d),("now",.int (a.n+c))])=S1 at U1 ⊢
 have tp1:=U1.at_.tp
 have ht1:=tp1.ty
 have hp1:=tp1.pr
 unfold tyO at ht1
 have hp1':=hp1
 unfold prO at hp1'
 bv_omega
 refine ⟨A.q,A.g,a.i,c,rfl,hp1,?_⟩
 exact .mk (hq _ (U1.eraP (i:=a.i+c)))
end
def Pln:Nat->T2.T->Prop
 |0,_=>False
 |n+1,d=>d=.non\/(∃ x,d=.str x)\/(∃ b,d=.bl b)\/(∃ i,d=.int i)\/∃ us,(d=.tup us\/d=.lst us)/\us.length<=1000/\∀ u∈us,Pln n u
def jQ (n:Nat):WSp:=λts S Q=>∃ d,ts=[d,d]/\Pln n d/\Q (.bl true) S
section
variable {P:Program}{w:World}{K:PySem.W.Frag}{mg:Str->Option Value}{base:Heap}{C L R Y:Addr}{Z:Zs}
theorem pj:FnScope ["_law_found","_law_due","_law_kind"] eQ (ag eU):=by nofun
theorem zh {f:Addr}{fd:FuncData}{n:Nat}(F:Fun K "_law_same" "_law_same" eU f fd) (T:Txt K mg C L R Y Z) (G__law_same:FnOk P w K mg base CX0 (n+1) f fd eQ (lSp K (jQ n))) (D__law_same:Df K mg "_law_same" f fd eQ) :
  FnOk P w K mg base CX0 (n+2) f fd eQ (lSp K (jQ (n+1))):=by
 refine a8 F pj (λts S Q h=>?_) λcdv A outer s H E hr=>?_
 ·obtain ⟨x,rfl,_⟩:=h;rfl
 have nd:=pj.nd
 refine ⟨_,((ak (aA (bp (aO (DF rfl) (by rfl) T.isinstance PyProof.Rows.boot_isinstance (ad (aa 1) (ad (aU (ad (cv (n:="tuple") (by rfl) T.tuple PyProof.Rows.boot_tuple) (ad (cv (n:="list") (by rfl) T.list PyProof.Rows.boot_list) ae (ac rfl)) (ac rfl))) ae (ac rfl)) (ac rfl))))
    (ak (aK (i:=2) nd rfl (Or.inl rfl) (t4 (bp (aO (c9 rfl) (by rfl) T.isinstance PyProof.Rows.boot_isinstance (ad (aa 1) (ad (cv (n:="tuple") (by rfl) T.tuple PyProof.Rows.boot_tuple) ae (ac rfl)) (ac rfl)))) (aO (c9 rfl) (by rfl) T.isinstance PyProof.Rows.boot_isinstance (ad (aa 0) (ad (cv (n:="tuple") (by rfl) T.tuple PyProof.Rows.boot_tuple) ae (ac rfl)) (ac rfl))) (aO (c9 rfl) (by rfl) T.isinstance PyProof.Rows.boot_isinstance (ad (aa 0) (ad (cv (n:="list") (by rfl) T.list PyProof.Rows.boot_list) ae (ac rfl)) (ac rfl)))))
   (ak (aA (kj (nJ (bP (bp (aa 2))) (ni (aw (vh rfl hr.units) (aO (bq rfl) (by rfl) T.len PySem.boot_len (ad (aa 0) ae (ac rfl))) (aO (bq rfl) (by rfl) T.len PySem.boot_len (ad (aa 1) ae (ac rfl))) (ay _)))))
    (ai (ax dZ))
    aB)
   (ai (ax (c7 (lP rfl) dZ (em false ["_law_k","_law_found","_law_due"] 1 [0,1] rfl (jo (by rfl) T.range (aO (bq rfl) (by rfl) T.len PySem.boot_len (ad (aa 1) ae (ac rfl)))) (λ_ _ _ _=>(bi (i:=0) (show List.Nodup (["_law_k","_law_found","_law_due"]:List Str) from by decide +kernel) rfl (Or.inl rfl))) (λ_ _ _ _=>cW) (λ_ _ _ _=>(az G__law_same D__law_same (hr.mono (by omega)) (by rfl) (ad (aq rfl (aa 1) (aa 0) (λ_ _=>rfl)) (ad (aq rfl (aa 2) (aa 0) (λ_ _=>rfl)) ae (ac rfl)) (ac rfl))))) (by with_unfolding_all rfl))))))
    aB)
   (ak (aA (aw vk (aa 1) na (ay _))
    (ai (ax (c7 vk (aa 0) na (ay _))))
    aB)
   (ak (aA (bp (aO (c9 rfl) (by rfl) T.isinstance PyProof.Rows.boot_isinstance (ad (aa 1) (ad (cv (n:="str") (by rfl) T.str PyProof.Rows.boot_str) ae (ac rfl)) (ac rfl))))
    (ai (ax (el (aO (c9 rfl) (by rfl) T.isinstance PyProof.Rows.boot_isinstance (ad (aa 0) (ad (cv (n:="str") (by rfl) T.str PyProof.Rows.boot_str) ae (ac rfl)) (ac rfl))) (eA (c7 (aG rfl hr.units) (aa 0) (aa 1) (ay _))))))
    aB)
   (ak (aA (bp (aO (c9 rfl) (by rfl) T.isinstance PyProof.Rows.boot_isinstance (ad (aa 1) (ad (cv (n:="bool") (by rfl) T.bool PyProof.Rows.boot_bool) ae (ac rfl)) (ac rfl))))
    (ai (ax (el (aO (c9 rfl) (by rfl) T.isinstance PyProof.Rows.boot_isinstance (ad (aa 0) (ad (cv (n:="bool") (by rfl) T.bool PyProof.Rows.boot_bool) ae (ac rfl)) (ac rfl))) (eA (c7 (aG rfl hr.units) (aa 0) (aa 1) (ay _))))))
    aB)
   (ai (ax (el (aO (c9 rfl) (by rfl) T.isinstance PyProof.Rows.boot_isinstance (ad (aa 0) (ad (cv (n:="int") (by rfl) T.int PyProof.Rows.boot_int) ae (ac rfl)) (ac rfl))) (el (mr (aO (c9 rfl) (by rfl) T.isinstance PyProof.Rows.boot_isinstance (ad (aa 0) (ad (cv (n:="bool") (by rfl) T.bool PyProof.Rows.boot_bool) ae (ac rfl)) (ac rfl)))) (eA (c7 (aG rfl hr.units) (aa 0) (aa 1) (ay _)))))))))))),λts S Q h=>?_⟩
 obtain ⟨x,rfl,he,hq⟩:=h
 rcases he with rfl|⟨z,rfl⟩|⟨b,rfl⟩|⟨i,rfl⟩|⟨us,hd,h1000,hs⟩
 ·simp only [bI,List.map_cons,List.map_nil,List.length_cons,List.length_nil,List.replicate,List.cons_append,List.nil_append,Nat.zero_add,Nat.reduceAdd,Nat.reduceSub]
  bv_omega
  refine ifT ?_
  bv_omega
  exact .mk hq
 ·simp only [bI,List.map_cons,List.map_nil,List.length_cons,List.length_nil,List.replicate,List.cons_append,List.nil_append,Nat.zero_add,Nat.reduceAdd,Nat.reduceSub]
  bv_omega
  refine ifF ?_
  bv_omega
  rw [decide_eq_true rfl]
  exact .mk hq
 ·simp only [bI,List.map_cons,List.map_nil,List.length_cons,List.length_nil,List.replicate,List.cons_append,List.nil_append,Nat.zero_add,Nat.reduceAdd,Nat.reduceSub]
  bv_omega
  refine ifF ?_
  bv_omega
  rw [decide_eq_true rfl]
  exact .mk hq
 ·simp only [bI,List.map_cons,List.map_nil,List.length_cons,List.length_nil,List.replicate,List.cons_append,List.nil_append,Nat.zero_add,Nat.reduceAdd,Nat.reduceSub]
  bv_omega
  refine ifF ?_
  bv_omega
  rw [decide_eq_true rfl]
  exact .mk hq
 have any_:((List.range us.length).filterMap λ_=>some (T2.T.bl true)).any (λy=>eqF y (.bl false))=false:=by
  rw [List.any_eq_false];intro t ht;obtain ⟨_,_,e⟩:=List.mem_filterMap.mp ht;cases e;simp [eqF]
 have all_:((List.range us.length).filterMap λ_=>some (T2.T.bl true)).all bD=true:=by rw [List.all_eq_true];intro t ht;obtain ⟨_,_,e⟩:=List.mem_filterMap.mp ht;cases e;rfl
 have at_:∀ k:Nat,(h:k<us.length)->atI us (0+(k:Int))=some us[k]:=λk h=>by rw [Int.zero_add,jt];exact List.getElem?_eq_getElem h
 rcases hd with rfl|rfl
 ·simp only [bI,List.map_cons,List.map_nil,List.length_cons,List.length_nil,List.replicate,List.cons_append,List.nil_append,Nat.zero_add,Nat.reduceAdd,Nat.reduceSub]
  bv_omega
  rw [decide_eq_true rfl]
  refine ifF ?_
  bv_omega
  refine eW (ls:=List.range us.length) (λ(k:Nat)=>T2.T.int (0+k)) (λ_=>some (.bl true)) [some (.tup us),some (.tup us)] trivial (by rw [List.length_range,sizeLine_eq];omega) (λk hk u acc N hacc hN=>?_) ?_
  ·have hk:=List.mem_range.mp hk
   bv_omega
   refine iK (at_ k hk) ?_
   bv_omega
   refine iK (at_ k hk) ?_
   bv_omega
   exact ⟨_,rfl,hs _ (List.getElem_mem hk),hacc,hN _⟩
  ·bv_omega
   refine uj rfl all_ ?_
   rw [any_]
   exact .mk hq
 ·simp only [bI,List.map_cons,List.map_nil,List.length_cons,List.length_nil,List.replicate,List.cons_append,List.nil_append,Nat.zero_add,Nat.reduceAdd,Nat.reduceSub]
  bv_omega
  rw [decide_eq_true rfl]
  refine ifF ?_
  bv_omega
  refine eW (ls:=List.range us.length) (λ(k:Nat)=>T2.T.int (0+k)) (λ_=>some (.bl true)) [some (.lst us),some (.lst us)] trivial (by rw [List.length_range,sizeLine_eq];omega) (λk hk u acc N hacc hN=>?_) ?_
  ·have hk:=List.mem_range.mp hk
   bv_omega
   refine fz (at_ k hk) ?_
   bv_omega
   refine fz (at_ k hk) ?_
   bv_omega
   exact ⟨_,rfl,hs _ (List.getElem_mem hk),hacc,hN _⟩
  ·bv_omega
   refine uj rfl all_ ?_
   rw [any_]
   exact .mk hq
theorem rX {f:Addr}{fd:FuncData}(F:Fun K "_law_same" "_law_same" eU f fd) (T:Txt K mg C L R Y Z) (D:Df K mg "_law_same" f fd eQ):∀ n,FnOk P w K mg base CX0 (n+1) f fd eQ (lSp K (jQ n))
 |0=>⟨λvs H Q E h=>by obtain ⟨_,_,_,_,_,⟨_,_,h,_⟩,_⟩:=h;exact h.elim,λA o s H args us vs Q E _ _ _ _ h=>by obtain ⟨_,_,_,_,_,⟨_,_,h,_⟩,_⟩:=h;exact h.elim⟩
 |n+1=>zh F T (rX F T D n) D
end
def Tx (z:Str):Prop:=z.length<=1000/\PyData.strOk z=true
theorem j9 (z:Str):PyData.strOk z=(Tm.tl z).all λc=>decide (c<1114112):=by unfold PyData.strOk Tm.tl;rw [Array.all_toList]
theorem tP {x y:Str}(h1:PyData.strOk x=true) (h2:PyData.strOk y=true):PyData.strOk (x++y)=true:=by rw [j9] at *;rw [Tm.gP,List.all_append,h1,h2];rfl
theorem qI {x:Str}{lo hi:Option Int}(h:PyData.strOk x=true):PyData.strOk (PySem.Txt.slice x lo hi)=true:=by
 rw [j9,List.all_eq_true] at *
 intro c hc
 rw [Tm.k6] at hc
 exact h c (List.mem_of_mem_drop (List.mem_of_mem_take hc))
theorem ka (x:Str) (lo hi:Option Int):(PySem.Txt.slice x lo hi).length<=x.length:=by
 rw [<- Tm.len,Tm.k6,<- Tm.len x,List.length_take,List.length_drop]
 omega
theorem ma (x y:Str):(x++y).length=x.length+y.length:=by rw [<- Tm.len,Tm.gP,List.length_append,Tm.len,Tm.len]
theorem rY {z:Str}{c:Nat}(h:PyData.strOk z=true) (hc:c∈z.cps.toList):Tx ⟨#[c]⟩:=by
 rw [j9,List.all_eq_true] at h
 have:=h c hc
 exact ⟨Nat.le_of_ble_eq_true rfl,by rw [j9];simpa [Tm.tl] using this⟩
section
variable {P:Program}{w:World}{K:PySem.W.Frag}{mg:Str->Option Value}{base:Heap}{C L R Y:Addr}{Z:Zs}
def g8 (ws:List Str):Prop:=(∀ z∈ws,Wm.Wd z=true)/\1<=ws.length/\ws.length<=10
def mW:WSp:=λts S Q=>∃ p o ws,ts=[.ref p,.lst (ws.map T2.T.str)]/\S p=some o/\aM o/\g8 ws/\∀ z o',Tx z->aM o'->Q (.str z) (put S p o')
theorem pq:FnScope ["_law_box_here","_law_pool_here","_law_word_here","_law_some"] vv6 (ag fZ):=by nofun
theorem Bw {f f1:Addr}{fd fd1:FuncData}(F:Fun K "_law_text" "_law_text" fZ f fd) (T:Txt K mg C L R Y Z) (G__law_take:FnOk P w K mg base CX0 1 f1 fd1 vv3 (lSp K cj)) (D__law_take:Df K mg "_law_take" f1 fd1 vv3) :
  FnOk P w K mg base CX0 2 f fd vv6 (lSp K mW):=by
 refine a8 F pq (λts S Q h=>?_) λcdv A outer s H E hr=>?_
 ·obtain ⟨p,o,ws,rfl,_⟩:=h;rfl
 have nd:=pq.nd
 refine ⟨_,((ak (aK (i:=2) nd rfl (Or.inl rfl) (aq rfl (aa 1) (az G__law_take D__law_take hr.m (by rfl) (ad (aa 0) (ad (aO (bq rfl) (by rfl) T.len PySem.boot_len (ad (aa 1) ae (ac rfl))) ae (ac rfl)) (ac rfl))) (λ_ _=>rfl)))
   (ak (aK (i:=3) nd rfl (Or.inl rfl) (bd (ad (aa 2) (ad (aa 2) (ad (aa 2) (ad (aa 2) (ad (aa 2) (ad (aa 2) (ad (aI (bn false) (aa 2) au) (ad au (ad au (ad au (ad (gH false rfl (aa 2) hZ (e8 (eC af))) (ad (aI (bn false) au (aa 2)) ae (ac rfl)) (ac rfl)) (ac rfl)) (ac rfl)) (ac rfl)) (ac rfl)) (ac rfl)) (ac rfl)) (ac rfl)) (ac rfl)) (ac rfl)) (ac rfl))))
   (ai (ax (aq rfl (aa 3) (az G__law_take D__law_take hr.m (by rfl) (ad (aa 0) (ad af ae (ac rfl)) (ac rfl))) (λ_ _=>rfl))))))),λts S Q h=>?_⟩
 obtain ⟨p,o,ws,rfl,hp,hb,hw,hq⟩:=h
 have hw1:=hw.2.1
 have hw2:=hw.2.2
 have h2:(PySem.Str.ofString " a").length=2:=by decide +kernel
 have h3:(PySem.Str.ofString " ").length=1:=by decide +kernel
 ac_nf
 bv_omega
 have hz:=hw.1 z hz
 have hz24:=(Wm.iD hz).2
 have hzo:=Wm.j7 hz
 bv_omega
 refine eE (λt=>∃ y,t=.str y/\Tx y) (by assumption) (by assumption) (λt ht=>?_) ?_
 ·simp only [List.mem_cons,List.not_mem_nil,or_false] at ht
  rcases ht with rfl|rfl|rfl|rfl|rfl|rfl|rfl|rfl|rfl|rfl|rfl|rfl
  iterate 6 exact ⟨_,rfl,by omega,hzo⟩
  ·exact ⟨_,rfl,by rw [ma];omega,tP hzo (by decide +kernel)⟩
  iterate 3 exact ⟨_,rfl,by decide +kernel,by decide +kernel⟩
  ·exact ⟨_,rfl,Nat.le_trans (ka ..) (by omega),qI hzo⟩
  ·exact ⟨_,rfl,by rw [ma];omega,tP (by decide +kernel) hzo⟩
 rintro _ ⟨y,rfl,hy⟩
 bv_omega
 exact .mk (hq _ _ hy (by assumption))
def mX:WSp:=λts S Q=>∃ p o ws,ts=[.ref p,.lst (ws.map T2.T.str)]/\S p=some o/\aM o/\g8 ws/\∀ (zs:List Str) o',zs.length<=30->(∀ z∈zs,Tx z)->aM o'->Q (.lst (zs.map T2.T.str)) (put S p o')
theorem pv:FnScope ["_law_box_here","_law_pool_here","_law_word_here","_law_kind"] vv6 (ag gi):=by nofun
theorem Bx {f f1:Addr}{fd fd1:FuncData}(F:Fun K "_law_keys" "_law_keys" gi f fd) (T:Txt K mg C L R Y Z) (G__law_take:FnOk P w K mg base CX0 1 f1 fd1 vv3 (lSp K cj)) (D__law_take:Df K mg "_law_take" f1 fd1 vv3) :
  FnOk P w K mg base CX0 2 f fd vv6 (lSp K mX):=by
 refine a8 F pv (λts S Q h=>?_) λcdv A outer s H E hr=>?_
 ·obtain ⟨p,o,ws,rfl,_⟩:=h;rfl
 have nd:=pv.nd
 refine ⟨_,((ak (aK (i:=2) nd rfl (Or.inl rfl) (aq rfl (aa 1) (az G__law_take D__law_take hr.m (by rfl) (ad (aa 0) (ad (aO (bq rfl) (by rfl) T.len PySem.boot_len (ad (aa 1) ae (ac rfl))) ae (ac rfl)) (ac rfl))) (λ_ _=>rfl)))
   (ak (aK (i:=3) nd rfl (Or.inl rfl) (az G__law_take D__law_take hr.m (by rfl) (ad (aa 0) (ad af ae (ac rfl)) (ac rfl))))
   (ak (aA (aw cD (aa 3) af (ay _))
    (ai (ax (ut (AN false rfl rfl) (by rfl) T.list PyProof.Rows.boot_list (ad (gH false rfl (aa 2) hZ (e8 (aI (bn false) af (az G__law_take D__law_take hr.m (by rfl) (ad (aa 0) (ad (aO (bq rfl) (by rfl) T.len PySem.boot_len (ad (aa 2) ae (ac rfl))) ae (ac rfl)) (ac rfl)))))) ae (ac rfl)))))
    aB)
   (ak (aA (aw (aG rfl hr.units) (aa 3) af (ay _))
    (ai (ax (bd (ad (aq rfl (bd (ad au (ad au (ad au (ad au (ad au (ad au ae (ac rfl)) (ac rfl)) (ac rfl)) (ac rfl)) (ac rfl)) (ac rfl))) (az G__law_take D__law_take hr.m (by rfl) (ad (aa 0) (ad af ae (ac rfl)) (ac rfl))) (λ_ _=>rfl)) ae (ac rfl)))))
    aB)
   (ai (ax (em false ["_law_k","_law_box_here"] 1 [0] rfl (jo (by rfl) T.range (az G__law_take D__law_take hr.m (by rfl) (ad (aa 0) (ad af ae (ac rfl)) (ac rfl)))) (λ_ _ _ _=>(bi (i:=0) (show List.Nodup (["_law_k","_law_box_here"]:List Str) from by decide +kernel) rfl (Or.inl rfl))) (λ_ _ _ _=>cW) (λ_ _ _ _=>(aq rfl au (az G__law_take D__law_take hr.m (by rfl) (ad (aa 1) (ad af ae (ac rfl)) (ac rfl))) (λ_ _=>rfl))))))))))),λts S Q h=>?_⟩
 obtain ⟨p,o,ws,rfl,hp,hb,hw,hq⟩:=h
 have hw1:=hw.2.1
 have hw2:=hw.2.2
 have h4:(PySem.Str.ofString "ab c").length=4:=by decide +kernel
 ac_nf
 bv_omega
 have hz:=hw.1 z hz
 have hz24:=(Wm.iD hz).2
 have hz1:=(Wm.iD hz).1
 have hzo:=Wm.j7 hz
 refine ifB (λhb=>?_) λhb=>?_
 ·bv_omega
  refine AO (Nat.le_trans (ka ..) (by rw [sizeLine_eq];omega)) ?_
  bv_omega
  have hle:=ka z none (some (1+r))
  generalize hy:PySem.Txt.slice z none (some (1+r))=y at hle ⊢
  have hyo:PyData.strOk y=true:=by rw [<- hy];exact qI hzo
  rw [show cx y=(y.cps.toList.map λc=>(⟨#[c]⟩:Str)).map T2.T.str by unfold cx;rw [List.map_map];rfl]
  refine .mk (hq _ _ ?_ (λx hx=>?_) (by assumption))
  ·rw [List.length_map]
   have:y.cps.toList.length=y.length:=Tm.len y
   omega
  ·obtain ⟨c,hc,rfl⟩:=List.mem_map.mp hx
   exact rY hyo hc
 ·bv_omega
  refine ifB (λhb2=>?_) λhb2=>?_
  ·bv_omega
   refine eE (λt=>∃ y,t=.str y/\Tx y) hr0 hr1 (λt ht=>?_) ?_
   ·simp only [List.mem_cons,List.not_mem_nil,or_false] at ht
    rcases ht with rfl|rfl|rfl|rfl|rfl|rfl
    all_goals exact ⟨_,rfl,by decide +kernel,by decide +kernel⟩
   rintro _ ⟨y,rfl,hy⟩
   bv_omega
   exact .mk (hq [y] _ (Nat.le_of_ble_eq_true rfl) (by simpa using hy) hbx)
  ·bv_omega
   refine hJ (λitems acc σ' S'=>∃ (zs:List Str) (u:Option T2.T) (o2:O),acc=zs.map T2.T.str/\zs.length+items.length<=28/\(∀ z∈zs,Tx z)/\aM o2/\σ'=[u,some (.ref p)]/\S'=put S p o2) ⟨[],none,_,rfl,by rw [show (bR 0 r.toNat).length=r.toNat by simp [bR]];exact by simp;omega,by simp,hbx,rfl,rfl⟩ ?_ ?_
   ·rintro t ts acc σ' S' N ⟨zs,u,o2,rfl,hl,htx,hb2,rfl,rfl⟩ hN
    refine ⟨trivial,?_⟩
    rw [List.length_cons] at hl
    bv_omega
    have hmem:(zs.map T2.T.str).length<sizeLine:=by rw [List.length_map,sizeLine_eq];omega
    refine ⟨hmem,hN _ _ _ ⟨zs++[⟨#[d]⟩],_,_,by rw [List.map_append];rfl,by rw [List.length_append];simp;omega,λx hx=>?_,hbx,rfl,rfl⟩⟩
    rcases List.mem_append.mp hx with h|h
    ·exact htx x h
    ·rw [List.mem_singleton.mp h];exact rY (by decide +kernel) hd
   ·rintro acc σ' S' ⟨zs,u,o2,rfl,hl,htx,hb2,rfl,rfl⟩
    rw [List.length_nil] at hl
    refine ⟨trivial,?_⟩
    bv_omega
    exact .mk (hq zs _ (by omega) htx hb2)
end
inductive Dd
 |puts (z:Str) (c:Int)|use (z:Str) (c:Int)|strike (z:Str)|fade (c:Int)|own (z:Str) (c:Int)|disown (z:Str)|hide (z:Str)|show_ (z:Str)|above (z:Str) (c:Int)|fadeO (c:Int)
 |key (z:Str)|back|clear|take (i:Int)|fadeA (c:Int)
open Dd
@[reducible] noncomputable def dT:Dd->T2.T
 |puts z c=>.tup [.str "put",.str z,.int c]
 |use z c=>.tup [.str "use",.str z,.int c]
 |strike z=>.tup [.str "strike",.str z]
 |fade c=>.tup [.str "fade",.int c]
 |own z c=>.tup [.str "own",.str z,.int c]
 |disown z=>.tup [.str "disown",.str z]
 |hide z=>.tup [.str "hide",.str z]
 |show_ z=>.tup [.str "show",.str z]
 |above z c=>.tup [.str "above",.str z,.int c]
 |fadeO c=>.tup [.str "fade own",.int c]
 |key z=>.tup [.str "key",.str z]
 |back=>.tup [.str "back"]
 |clear=>.tup [.str "clear"]
 |take i=>.tup [.str "take",.int i]
 |fadeA c=>.tup [.str "fade all",.int c]
def OkD:Dd->Prop
 |fade c|fadeO c|fadeA c=>1<=c/\c<=1000000
 |puts z _|use z _|strike z|own z _|disown z|hide z|show_ z|above z _|key z=>Tx z
 |take i=>i.natAbs.log2<1920
 |back|clear=>True
def wt:Dd->Nat
 |key _=>0
 |_=>1
structure Dds (ds:List Dd):Prop where
 ok:∀ d∈ds,OkD d
 wt:(ds.map wt).sum<=1
 len:ds.length<=30
theorem nx {p:Prop}[Decidable p] (h:(false ^^ decide p)=false):¬p:=by rw [Bool.false_xor] at h;exact of_decide_eq_false h
theorem Dds.one {d:Dd}(h:OkD d):Dds [d]:=⟨by simpa using h,by cases d<;>first|exact Nat.le_refl 1|exact Nat.zero_le 1,Nat.le_of_ble_eq_true rfl⟩
section
variable {P:Program}{w:World}{K:PySem.W.Frag}{mg:Str->Option Value}{base:Heap}{C L R Y:Addr}{Z:Zs}
def rZ:WSp:=λts S Q=>∃ p o ws,ts=[.ref p,.lst (ws.map T2.T.str)]/\S p=some o/\aM o/\g8 ws/\∀ ds o',Dds ds->aM o'->Q (.lst (ds.map dT)) (T2.put S p o')
theorem Eg {S:Sto}{Q:T2.T->Sto->Prop}{p:Addr}{o:O}{ws:List Str}(hb:aM o) (hw:g8 ws) (h:∀ z o',Tx z->aM o'->Q (.str z) (T2.put S p o')):mW ([.ref p,.lst (ws.map T2.T.str)]++[]) (T2.put S p o) Q :=
 ⟨p,o,ws,rfl,aJ,hb,hw,λz o' a b=>by rw [cc];exact h z o' a b⟩
theorem Eh {S:Sto}{Q:T2.T->Sto->Prop}{p:Addr}{o:O}{ws:List Str}(hb:aM o) (hw:g8 ws) (h:∀ (zs:List Str) o',zs.length<=30->(∀ z∈zs,Tx z)->aM o'->Q (.lst (zs.map T2.T.str)) (T2.put S p o')):mX ([.ref p,.lst (ws.map T2.T.str)]++[]) (T2.put S p o) Q :=
 ⟨p,o,ws,rfl,aJ,hb,hw,λz o' c a b=>by rw [cc];exact h z o' c a b⟩
theorem oU:FnScope ["_law_box_here","_law_pool_here","_law_kind","_law_word_here"] vv6 (ag fP):=by nofun
theorem zi {f f1 f2 f3 f4 f5:Addr}{fd fd1 fd2 fd3 fd4 fd5:FuncData}(F:Fun K "_law_deeds" "_law_deeds" fP f fd) (T:Txt K mg C L R Y Z)
  (G__law_take:FnOk P w K mg base CX0 1 f1 fd1 vv3 (lSp K cj)) (D__law_take:Df K mg "_law_take" f1 fd1 vv3)
  (G__law_text:FnOk P w K mg base CX0 2 f2 fd2 vv6 (lSp K mW)) (D__law_text:Df K mg "_law_text" f2 fd2 vv6)
  (G__law_keys:FnOk P w K mg base CX0 2 f3 fd3 vv6 (lSp K mX)) (D__law_keys:Df K mg "_law_keys" f3 fd3 vv6)
  (G__law_count:FnOk P w K mg base CX0 2 f4 fd4 vv9 (lSp K lX)) (D__law_count:Df K mg "_law_count" f4 fd4 vv9)
  (G__law_times:FnOk P w K mg base CX0 2 f5 fd5 vv9 (lSp K lY)) (D__law_times:Df K mg "_law_times" f5 fd5 vv9) :
  FnOk P w K mg base CX0 3 f fd vv6 (lSp K rZ):=by
 refine a8 F oU (λts S Q h=>?_) λcdv A outer s H E hr=>?_
 ·obtain ⟨p,o,ws,rfl,_⟩:=h;rfl
 have nd:=oU.nd
 refine ⟨_,((ak (aK (i:=2) nd rfl (Or.inl rfl) (az G__law_take D__law_take hr.m (by rfl) (ad (aa 0) (ad af ae (ac rfl)) (ac rfl))))
   (ak (aK (i:=3) nd rfl (Or.inl rfl) (az G__law_text D__law_text hr.m (by rfl) (ad (aa 0) (ad (aa 1) ae (ac rfl)) (ac rfl))))
   (ak (aA (aw cD (aa 2) af (ay _))
    (ai (ax (bd (ad (aU (ad au (ad (aa 3) (ad (az G__law_count D__law_count hr.m (by rfl) (ad (aa 0) ae (ac rfl))) ae (ac rfl)) (ac rfl)) (ac rfl))) ae (ac rfl)))))
    aB)
   (ak (aA (aw (aG rfl hr.units) (aa 2) af (ay _))
    (ai (ax (bd (ad (aU (ad au (ad (aa 3) (ad (az G__law_times D__law_times hr.m (by rfl) (ad (aa 0) ae (ac rfl))) ae (ac rfl)) (ac rfl)) (ac rfl))) ae (ac rfl)))))
    aB)
   (ak (aA (aw (aG rfl hr.units) (aa 2) af (ay _))
    (ai (ax (bd (ad (aU (ad au (ad (aa 3) ae (ac rfl)) (ac rfl))) ae (ac rfl)))))
    aB)
   (ak (aA (aw (aG rfl hr.units) (aa 2) af (ay _))
    (ai (ax (bd (ad (aU (ad au (ad (az G__law_times D__law_times hr.m (by rfl) (ad (aa 0) ae (ac rfl))) ae (ac rfl)) (ac rfl))) ae (ac rfl)))))
    aB)
   (ak (aA (aw cD (aa 2) af (ay _))
    (ai (ax (bd (ad (aU (ad au (ad (aa 3) (ad (az G__law_count D__law_count hr.m (by rfl) (ad (aa 0) ae (ac rfl))) ae (ac rfl)) (ac rfl)) (ac rfl))) ae (ac rfl)))))
    aB)
   (ak (aA (aw cD (aa 2) af (ay _))
    (ai (ax (bd (ad (aU (ad (aq rfl (bd (ad au (ad au (ad au ae (ac rfl)) (ac rfl)) (ac rfl))) (aI gS (aa 2) af) (λ_ _=>rfl)) (ad (aa 3) ae (ac rfl)) (ac rfl))) ae (ac rfl)))))
    aB)
   (ak (aA (aw (aG rfl hr.units) (aa 2) af (ay _))
    (ai (ax (bd (ad (aU (ad au (ad (aa 3) (ad (az G__law_times D__law_times hr.m (by rfl) (ad (aa 0) ae (ac rfl))) ae (ac rfl)) (ac rfl)) (ac rfl))) ae (ac rfl)))))
    aB)
   (ak (aA (aw (aG rfl hr.units) (aa 2) af (ay _))
    (ai (ax (bd (ad (aU (ad au (ad (az G__law_times D__law_times hr.m (by rfl) (ad (aa 0) ae (ac rfl))) ae (ac rfl)) (ac rfl))) ae (ac rfl)))))
    aB)
   (ak (aA (aw cD (aa 2) af (ay _))
    (ai (ax (em false ["_law_sign"] 1 [] rfl (cV rfl (az G__law_keys D__law_keys hr.m (by rfl) (ad (aa 0) (ad (aa 1) ae (ac rfl)) (ac rfl)))) (λ_ _ _ _=>(bi (i:=0) (show List.Nodup (["_law_sign"]:List Str) from by decide +kernel) rfl (Or.inl rfl))) (λ_ _ _ _=>cW) (λ_ _ _ _=>(aU (ad au (ad (aa 0) ae (ac rfl)) (ac rfl)))))))
    aB)
   (ak (aA (aw cD (aa 2) af (ay _))
    (ai (ax (gH false rfl (bd (ad (aU (ad au ae (ac rfl))) (ad (aU (ad au ae (ac rfl))) ae (ac rfl)) (ac rfl))) (e8 (aI gS (aa 2) af)) (e8 (aI gS (aa 2) af)))))
    aB)
   (ak (aA (aw cD (aa 2) af (ay _))
    (ai (ax (bd (ad (aU (ad au (ad (aq rfl (bd (ad af (ad af (ad af (ad af (ad af (ad af (ad af (ad (eC af) (ad (eC af) (ad (aI nr af af) ae (ac rfl)) (ac rfl)) (ac rfl)) (ac rfl)) (ac rfl)) (ac rfl)) (ac rfl)) (ac rfl)) (ac rfl)) (ac rfl))) (az G__law_take D__law_take hr.m (by rfl) (ad (aa 0) (ad af ae (ac rfl)) (ac rfl))) (λ_ _=>rfl)) ae (ac rfl)) (ac rfl))) ae (ac rfl)))))
    aB)
   (ai (ax (bd (ad (aU (ad au (ad (az G__law_times D__law_times hr.m (by rfl) (ad (aa 0) ae (ac rfl))) ae (ac rfl)) (ac rfl))) ae (ac rfl))))))))))))))))))),λts S Q h=>?_⟩
 obtain ⟨p,o,ws,rfl,hp,hb,hw,hq⟩:=h
 ac_nf
 bv_omega
 refine Eg hbx hw λz o1 hz hbx1=>?_
 bv_omega
 refine ifB (λhb1=>?_) λhb1=>?_
 ·bv_omega
  exact .mk (hq [puts z r] _ (.one hz) hbx)
 have hb1:=of_decide_eq_false hb1
 bv_omega
 refine ifB (λhb2=>?_) λhb2=>?_
 ·bv_omega
  exact .mk (hq [use z r] _ (.one hz) hbx)
 have hb2:=nx hb2
 bv_omega
 refine ifB (λhb3=>?_) λhb3=>?_
 ·bv_omega
  exact .mk (hq [strike z] _ (.one hz) hbx1)
 have hb3:=nx hb3
 bv_omega
 refine ifB (λhb4=>?_) λhb4=>?_
 ·bv_omega
  exact .mk (hq [fade r] _ (.one ⟨hr0,hr1⟩) hbx)
 have hb4:=nx hb4
 bv_omega
 refine ifB (λhb5=>?_) λhb5=>?_
 ·bv_omega
  exact .mk (hq [own z r] _ (.one hz) hbx)
 have hb5:=of_decide_eq_false hb5
 bv_omega
 refine ifB (λhb6=>?_) λhb6=>?_
 ·have hb6:=of_decide_eq_true hb6
  bv_omega
  have h3:r=8\/r=9\/r=10:=by omega
  rcases h3 with rfl|rfl|rfl
  ·refine fz rfl ?_
   bv_omega
   exact .mk (hq [disown z] _ (.one hz) hbx1)
  ·refine fz rfl ?_
   bv_omega
   exact .mk (hq [hide z] _ (.one hz) hbx1)
  ·refine fz rfl ?_
   bv_omega
   exact .mk (hq [show_ z] _ (.one hz) hbx1)
 have hb6:=of_decide_eq_false hb6
 bv_omega
 refine ifB (λhb7=>?_) λhb7=>?_
 ·bv_omega
  exact .mk (hq [above z r] _ (.one hz) hbx)
 have hb7:=nx hb7
 bv_omega
 refine ifB (λhb8=>?_) λhb8=>?_
 ·bv_omega
  exact .mk (hq [fadeO r] _ (.one ⟨hr0,hr1⟩) hbx)
 have hb8:=nx hb8
 bv_omega
 refine ifB (λhb9=>?_) λhb9=>?_
 ·bv_omega
  refine Eh hbx1 hw λzs o2 h30 hzs hbx2=>?_
  bv_omega
  refine eW T2.T.str (λz=>some (dT (key z))) [] trivial (by rw [sizeLine_eq];omega) (λx hx u acc N hacc hN=>?_) ?_
  ·bv_omega
   exact ⟨hacc,hN _⟩
  bv_omega
  rw [show zs.filterMap (λz=>some (dT (key z)))=(zs.map key).map dT by rw [List.map_map,<- List.filterMap_eq_map];rfl]
  refine .mk (hq _ _ ⟨λd hd=>?_,?_,by rw [List.length_map];exact h30⟩ hbx2)
  ·obtain ⟨x,hx,rfl⟩:=List.mem_map.mp hd
   exact hzs x hx
  ·rw [List.map_map]
   clear hzs h30
   induction zs with
   |nil=>exact Nat.zero_le 1
   |cons x zs ih=>exact Nat.le_trans (Nat.le_of_eq (by simp [wt])) ih
 have hb9:=of_decide_eq_false hb9
 bv_omega
 refine ifB (λhb10=>?_) λhb10=>?_
 ·have h2:r=15\/r=16:=by have:=of_decide_eq_true hb10;omega
  rcases h2 with rfl|rfl
  ·bv_omega
   exact .mk (hq [back] _ (.one trivial) hbx1)
  ·bv_omega
   exact .mk (hq [clear] _ (.one trivial) hbx1)
 have hb10:=of_decide_eq_false hb10
 bv_omega
 refine ifB (λhb11=>?_) λhb11=>?_
 ·bv_omega
  refine eE (λt=>∃ i:Int,t=.int i/\i.natAbs.log2<1920) hr0 hr1 (λt ht=>?_) ?_
  ·simp only [List.mem_cons,List.not_mem_nil,or_false] at ht
   rcases ht with rfl|rfl|rfl|rfl|rfl|rfl|rfl|rfl|rfl|rfl
   all_goals exact ⟨_,rfl,by decide +kernel⟩
  rintro _ ⟨i,rfl,hi⟩
  bv_omega
  exact .mk (hq [take i] _ (.one hi) hbx)
 bv_omega
 exact .mk (hq [fadeA r] _ (.one ⟨hr0,hr1⟩) hbx)
end
theorem Hq {p A C:Prop}[Decidable p] (e:¬p) (h:C):if (false ^^ decide p)=true then A else C:=by rw [decide_eq_false e];exact ifF h
theorem Ho {p A C:Prop}[Decidable p] (e:p) (h:A):if (false ^^ decide p)=true then A else C:=by rw [decide_eq_true e];exact ifT h
def rf (m:Int) (a:Ab):Dd->Nat
 |puts z _=>if Wm.Wd z=false then 1 else if (look a.hs z).isSome then 2 else 0
 |own z _=>if Wm.Wd z=false then 1 else if (look a.ms z).isSome then 2 else 0
 |hide z=>if Wm.Wd z=false then 1 else if (look a.vs z).isSome then 2 else 0
 |use z _|strike z=>if (look a.hs z).isSome then 0 else 3
 |disown z=>if (look a.ms z).isSome then 0 else 3
 |show_ z=>if (look a.vs z).isSome then 0 else 3
 |above z _=>if (look a.vs z).isSome then 3 else if (look a.ms z).isSome\/(look a.hs z).isSome then 0 else 3
 |key z=>if sgn z=false then 4 else if a.x.length<24 then 0 else 4
 |back=>if a.x="" then 4 else 0
 |take i=>if 0<=i/\i<(a.told m).length then 0 else 5
 |_=>0
def nxt (m:Int) (a:Ab):Dd->Ab
 |puts z c=>{ a with hs:=a.hs++[(z,c,a.k)] }
 |own z c=>{ a with ms:=a.ms++[(z,c,a.n)] }
 |hide z=>{ a with vs:=a.vs++[(z,true)] }
 |use z c=>{ a with hs:=usd a.hs a.k z c }
 |strike z=>{ a with hs:=dr a.hs z }
 |disown z=>{ a with ms:=dr a.ms z }
 |show_ z=>{ a with vs:=dr a.vs z }
 |above z c=>a.use z c
 |key z=>{ a with x:=a.x++z }
 |back=>{ a with x:=PySem.Txt.slice a.x none (some (-1)) }
 |clear=>{ a with x:="" }
 |take i=>((a.told m)[i.toNat]?).elim a λr=>a.tak r.1
 |fade c=>{ a with k:=a.k+c }
 |fadeO c=>{ a with n:=a.n+c }
 |fadeA c=>{ a with n:=a.n+c,i:=a.i+c }
def rs (m:Int) (a:Ab):Dd->T2.T
 |take i=>((a.told m)[i.toNat]?).elim .non λr=>.str r.1
 |_=>.non
def Sd (t:T2.T):Prop:=t=.non\/∃ z,t=.str z/\PyData.strOk z=true
def cls (Z:Zs):Nat->Addr
 |1=>Z.N
 |2=>Z.T
 |3=>Z.A
 |4=>Z.S
 |_=>Z.H
theorem if3 {p q:Prop}[Decidable p] [Decidable q] {x y z n:Nat}(h:(if p then x else if q then y else z)=n):(p/\x=n)\/(¬p/\q/\y=n)\/(¬p/\¬q/\z=n):=by
 by_cases hp:p
 ·rw [if_pos hp] at h;exact .inl ⟨hp,h⟩
 ·rw [if_neg hp] at h
  by_cases hq:q
  ·rw [if_pos hq] at h;exact .inr (.inl ⟨hp,hq,h⟩)
  ·rw [if_neg hq] at h;exact .inr (.inr ⟨hp,hq,h⟩)
theorem if2 {p:Prop}[Decidable p] {x y n:Nat}(h:(if p then x else y)=n):(p/\x=n)\/(¬p/\y=n):=by
 by_cases hp:p
 ·rw [if_pos hp] at h;exact .inl ⟨hp,h⟩
 ·rw [if_neg hp] at h;exact .inr ⟨hp,h⟩
section
variable {P:Program}{w:World}{K:PySem.W.Frag}{mg:Str->Option Value}{base:Heap}{C L R Y:Addr}{Z:Zs}
def tQ (D:Cs):WSp:=λts S Q=>∃ A m a d,ts=[.ref A.h,.ref A.y,.ref A.u,dT d]/\At S (lay D A m a)/\Okk a/\0<=m/\OkD d/\rf m a d=0/\∀ S',Up S (lay D A m a) S' (lay D A m (nxt m a d))->Sd (rs m a d)->Q (rs m a d) S'
theorem ji:FnScope ["_law_house","_law_layers","_law_typist","_law_deed","_law_kind"] vv2 (ag eV):=by nofun
theorem By {f f1 f2 f3 f4 f5 f6 f7 f8 f9 f10 f11 f12 f13 f14 f15:Addr}{fd fd1 fd2 fd3 fd4 fd5 fd6 fd7 fd8 fd9 fd10 fd11 fd12 fd13 fd14 fd15:FuncData}(F:Fun K "_law_call" "_law_call" eV f fd) (T:Txt K mg C L R Y Z)
  (G_Wood_put:FnOk P w K mg base CX0 4 f1 fd1 vv5 (lSp K (nC C))) (M_Wood_put:Meth K C "put" f1) (B_Wood_put:aj K fd1 vv5 [])
  (G_Wood_use:FnOk P w K mg base CX0 3 f2 fd2 vv4 (lSp K (nD C))) (M_Wood_use:Meth K C "use" f2) (B_Wood_use:aj K fd2 vv4 [])
  (G_Wood_strike:FnOk P w K mg base CX0 2 f3 fd3 vv0 (lSp K (lg C))) (M_Wood_strike:Meth K C "strike" f3) (B_Wood_strike:aj K fd3 vv0 [])
  (G_Wood_fade:FnOk P w K mg base CX0 1 f4 fd4 vv7 (lSp K (mM C))) (M_Wood_fade:Meth K C "fade" f4) (B_Wood_fade:aj K fd4 vv7 [])
  (G_Layers_put:FnOk P w K mg base CX0 5 f5 fd5 vv5 (lSp K (tF C L))) (M_Layers_put:Meth K L "put" f5) (B_Layers_put:aj K fd5 vv5 [])
  (G_Layers_strike:FnOk P w K mg base CX0 3 f6 fd6 vv0 (lSp K (qh C L))) (M_Layers_strike:Meth K L "strike" f6) (B_Layers_strike:aj K fd6 vv0 [])
  (G_Layers_hide:FnOk P w K mg base CX0 4 f7 fd7 vv0 (lSp K (tG C L))) (M_Layers_hide:Meth K L "hide" f7) (B_Layers_hide:aj K fd7 vv0 [])
  (G_Layers_show:FnOk P w K mg base CX0 1 f8 fd8 vv0 (lSp K (tH C L))) (M_Layers_show:Meth K L "show" f8) (B_Layers_show:aj K fd8 vv0 [])
  (G_Layers_use:FnOk P w K mg base CX0 4 f9 fd9 vv4 (lSp K (mT C L))) (M_Layers_use:Meth K L "use" f9) (B_Layers_use:aj K fd9 vv4 [])
  (G_Layers_fade:FnOk P w K mg base CX0 2 f10 fd10 vv7 (lSp K (l8 C L))) (M_Layers_fade:Meth K L "fade" f10) (B_Layers_fade:aj K fd10 vv7 [])
  (G_Typist_key:FnOk P w K mg base CX0 3 f11 fd11 eT (lSp K (uG Y))) (M_Typist_key:Meth K Y "key" f11) (B_Typist_key:aj K fd11 eT [])
  (G_Typist_back:FnOk P w K mg base CX0 1 f12 fd12 vv1 (lSp K (tL Y))) (M_Typist_back:Meth K Y "back" f12) (B_Typist_back:aj K fd12 vv1 [])
  (G_Typist_clear:FnOk P w K mg base CX0 1 f13 fd13 vv1 (lSp K (l9 Y))) (M_Typist_clear:Meth K Y "clear" f13) (B_Typist_clear:aj K fd13 vv1 [])
  (G_Typist_take:FnOk P w K mg base CX0 8 f14 fd14 fH (lSp K (rT ⟨C,L,R,Y⟩))) (M_Typist_take:Meth K Y "take" f14) (B_Typist_take:aj K fd14 fH [])
  (G_Typist_fade:FnOk P w K mg base CX0 3 f15 fd15 vv7 (lSp K (rW ⟨C,L,R,Y⟩))) (M_Typist_fade:Meth K Y "fade" f15) (B_Typist_fade:aj K fd15 vv7 []) :
  FnOk P w K mg base CX0 9 f fd vv2 (lSp K (tQ ⟨C,L,R,Y⟩)):=by
 refine a8 F ji (λts S Q h=>?_) λcdv A outer s H E hr=>?_
 ·obtain ⟨A,m,a,d,rfl,_⟩:=h;rfl
 have nd:=ji.nd
 refine ⟨_,((ak (aK (i:=4) nd rfl (Or.inl rfl) (aq rfl (aa 3) af (λ_ _=>rfl)))
   (ak (aA (aw (aG rfl hr.units) (aa 4) au (ay _))
    (ai (ax (aV (T.gf M_Wood_put) G_Wood_put B_Wood_put hr.m (aa 0) (ad (aq rfl (aa 3) af (λ_ _=>rfl)) (ad (aq rfl (aa 3) af (λ_ _=>rfl)) ae (ac rfl)) (ac rfl)))))
    aB)
   (ak (aA (aw (aG rfl hr.units) (aa 4) au (ay _))
    (ai (ax (aV (T.gf M_Wood_use) G_Wood_use B_Wood_use hr.m (aa 0) (ad (aq rfl (aa 3) af (λ_ _=>rfl)) (ad (aq rfl (aa 3) af (λ_ _=>rfl)) ae (ac rfl)) (ac rfl)))))
    aB)
   (ak (aA (aw (aG rfl hr.units) (aa 4) au (ay _))
    (ai (ax (aV (T.gf M_Wood_strike) G_Wood_strike B_Wood_strike hr.m (aa 0) (ad (aq rfl (aa 3) af (λ_ _=>rfl)) ae (ac rfl)))))
    aB)
   (ak (aA (aw (aG rfl hr.units) (aa 4) au (ay _))
    (ai (ax (aV (T.gf M_Wood_fade) G_Wood_fade B_Wood_fade hr.m (aa 0) (ad (aq rfl (aa 3) af (λ_ _=>rfl)) ae (ac rfl)))))
    aB)
   (ak (aA (aw (aG rfl hr.units) (aa 4) au (ay _))
    (ai (ax (aV (T.gl M_Layers_put) G_Layers_put B_Layers_put hr.m (aa 1) (ad (aq rfl (aa 3) af (λ_ _=>rfl)) (ad (aq rfl (aa 3) af (λ_ _=>rfl)) ae (ac rfl)) (ac rfl)))))
    aB)
   (ak (aA (aw (aG rfl hr.units) (aa 4) au (ay _))
    (ai (ax (aV (T.gl M_Layers_strike) G_Layers_strike B_Layers_strike hr.m (aa 1) (ad (aq rfl (aa 3) af (λ_ _=>rfl)) ae (ac rfl)))))
    aB)
   (ak (aA (aw (aG rfl hr.units) (aa 4) au (ay _))
    (ai (ax (aV (T.gl M_Layers_hide) G_Layers_hide B_Layers_hide hr.m (aa 1) (ad (aq rfl (aa 3) af (λ_ _=>rfl)) ae (ac rfl)))))
    aB)
   (ak (aA (aw (aG rfl hr.units) (aa 4) au (ay _))
    (ai (ax (aV (T.gl M_Layers_show) G_Layers_show B_Layers_show hr.m (aa 1) (ad (aq rfl (aa 3) af (λ_ _=>rfl)) ae (ac rfl)))))
    aB)
   (ak (aA (aw (aG rfl hr.units) (aa 4) au (ay _))
    (ai (ax (aV (T.gl M_Layers_use) G_Layers_use B_Layers_use hr.m (aa 1) (ad (aq rfl (aa 3) af (λ_ _=>rfl)) (ad (aq rfl (aa 3) af (λ_ _=>rfl)) ae (ac rfl)) (ac rfl)))))
    aB)
   (ak (aA (aw (aG rfl hr.units) (aa 4) au (ay _))
    (ai (ax (aV (T.gl M_Layers_fade) G_Layers_fade B_Layers_fade hr.m (aa 1) (ad (aq rfl (aa 3) af (λ_ _=>rfl)) ae (ac rfl)))))
    aB)
   (ak (aA (aw (aG rfl hr.units) (aa 4) au (ay _))
    (ai (ax (aV (T.gu M_Typist_key) G_Typist_key B_Typist_key hr.m (aa 2) (ad (aq rfl (aa 3) af (λ_ _=>rfl)) ae (ac rfl)))))
    aB)
   (ak (aA (aw (aG rfl hr.units) (aa 4) au (ay _))
    (ai (ax (bO (T.gu M_Typist_back) G_Typist_back B_Typist_back hr.m (aa 2))))
    aB)
   (ak (aA (aw (aG rfl hr.units) (aa 4) au (ay _))
    (ai (ax (bO (T.gu M_Typist_clear) G_Typist_clear B_Typist_clear hr.m (aa 2))))
    aB)
   (ak (aA (aw (aG rfl hr.units) (aa 4) au (ay _))
    (ai (ax (aV (T.gu M_Typist_take) G_Typist_take B_Typist_take hr.m (aa 2) (ad (aq rfl (aa 3) af (λ_ _=>rfl)) ae (ac rfl)))))
    aB)
   (ai (ax (aV (T.gu M_Typist_fade) G_Typist_fade B_Typist_fade hr.m (aa 2) (ad (aq rfl (aa 3) af (λ_ _=>rfl)) ae (ac rfl))))))))))))))))))))),λts S Q h=>?_⟩
 obtain ⟨A,m,a,d,rfl,hA,ok,hm,hd,h0,hq⟩:=h
 have l1:=ok.ok.h.len
 have l2:=ok.ok.o.len
 have l3:=ok.ok.le
 have l4:=ok.vl
 have l5:=ok.xl
 have iw:=hA.wh.ins
 have iy:=hA.ly.ins
 have iu:=hA.tp.ty
 have iu':=iu
 unfold tyO at iu'
 have U:=Up.refl hA
 cases d
 all_goals
  ac_nf
  bv_omega
 ·rename_i z c
  rcases if3 h0 with ⟨_,e⟩|⟨_,_,e⟩|⟨h1,h2,_⟩
  iterate 2 cases e
  exact ⟨_,_,_,_,z,c,rfl,hA.wh,by omega,by simpa using h1,by simpa using h2,.mk (hq _ U.hou (.inl rfl))⟩
 ·rename_i z c
  rcases if2 h0 with ⟨h1,_⟩|⟨_,e⟩
  ·obtain ⟨mm,e⟩:=Option.isSome_iff_exists.mp h1
   refine ⟨_,_,_,_,z,c,mm,rfl,hA.wh,by omega,e,ok.ok.h.old _ (As.d8 e),?_⟩
   rw [<- iQ e]
   exact .mk (hq _ U.hou (.inl rfl))
  ·cases e
 ·rename_i z
  rcases if2 h0 with ⟨h1,_⟩|⟨_,e⟩
  ·obtain ⟨mm,e⟩:=Option.isSome_iff_exists.mp h1
   exact ⟨_,_,_,_,z,mm,rfl,hA.wh,e,.mk (hq _ U.hou (.inl rfl))⟩
  ·cases e
 ·rename_i c
  exact ⟨_,_,_,_,c,rfl,hA.wh,.mk (hq _ U.eraH (.inl rfl))⟩
 ·rename_i z c
  rcases if3 h0 with ⟨_,e⟩|⟨_,_,e⟩|⟨h1,h2,_⟩
  iterate 2 cases e
  exact ⟨A.y,_,_,_,_,_,_,_,_,_,_,z,c,rfl,hA.ly,by omega,by simpa using h1,by simpa using h2,.mk (hq _ U.own (.inl rfl))⟩
 ·rename_i z
  rcases if2 h0 with ⟨h1,_⟩|⟨_,e⟩
  ·obtain ⟨mm,e⟩:=Option.isSome_iff_exists.mp h1
   exact ⟨A.y,_,_,_,_,_,_,_,_,_,_,z,mm,rfl,hA.ly,e,.mk (hq _ U.own (.inl rfl))⟩
  ·cases e
 ·rename_i z
  rcases if3 h0 with ⟨_,e⟩|⟨_,_,e⟩|⟨h1,h2,_⟩
  iterate 2 cases e
  exact ⟨A.y,_,_,_,_,_,_,_,_,_,_,z,rfl,hA.ly,by omega,by simpa using h1,by simpa using h2,.mk (hq _ U.vei (.inl rfl))⟩
 ·rename_i z
  rcases if2 h0 with ⟨h1,_⟩|⟨_,e⟩
  ·obtain ⟨mm,e⟩:=Option.isSome_iff_exists.mp h1
   exact ⟨A.y,_,_,_,_,_,_,_,_,_,_,z,mm,rfl,hA.ly,e,.mk (hq _ U.vei (.inl rfl))⟩
  ·cases e
 ·rename_i z c
  rcases if3 h0 with ⟨_,e⟩|⟨h1,h2,_⟩|⟨_,_,e⟩
  ·cases e
  ·refine ⟨A.y,_,_,_,_,_,_,_,_,_,_,z,c,rfl,hA.ly,by omega,by omega,by simpa using h1,?_⟩
   cases e:look a.ms z with
   |some mm =>
    refine .inl ⟨mm,rfl,ok.ok.o.old _ (As.d8 e),.mk (hq _ ?_ (.inl rfl))⟩
    show Up _ _ _ (lay _ A m (a.use z c))
    rw [uH e]
    exact U.own
   |none =>
    rw [e] at h2
    obtain ⟨mm,e2⟩:=Option.isSome_iff_exists.mp (h2.resolve_left (by decide))
    refine .inr ⟨rfl,mm,e2,ok.ok.h.old _ (As.d8 e2),.mk (hq _ ?_ (.inl rfl))⟩
    show Up _ _ _ (lay _ A m (a.use z c))
    rw [uI e e2]
    exact U.hou
  ·cases e
 ·rename_i c
  exact ⟨A.y,_,_,_,_,_,_,_,_,_,_,c,rfl,hA.ly,.mk (hq _ U.eraO (.inl rfl))⟩
 ·rename_i z
  rcases if3 h0 with ⟨_,e⟩|⟨h1,h2,_⟩|⟨_,_,e⟩
  ·cases e
  ·exact ⟨A.u,_,_,_,_,_,z,rfl,iu,hd.1,by simpa using h1,h2,.mk (hq _ U.txt (.inl rfl))⟩
  ·cases e
 ·rcases if2 h0 with ⟨_,e⟩|⟨h1,_⟩
  ·cases e
  ·exact ⟨A.u,_,_,_,_,_,rfl,iu,l5,h1,.mk (hq _ U.txt (.inl rfl))⟩
 ·exact ⟨A.u,_,_,_,_,_,rfl,iu,.mk (hq _ U.txt (.inl rfl))⟩
 ·rename_i i
  rcases if2 h0 with ⟨⟨h1,h2⟩,_⟩|⟨_,e⟩
  ·obtain ⟨r,e⟩:∃ r,(a.told m)[i.toNat]?=some r:=⟨_,List.getElem?_eq_getElem (by omega)⟩
   refine ⟨A,m,a,i,r,rfl,hA,ok,hm,h1,e,λS' u so=>.mk ?_⟩
   have q:Up _ _ _ (lay _ A m (((a.told m)[i.toNat]?).elim a λr=>a.tak r.1))->Sd (((a.told m)[i.toNat]?).elim .non λr=>.str r.1)->Q (((a.told m)[i.toNat]?).elim .non λr=>.str r.1) S':=hq S'
   rw [e] at q
   exact q u (.inr ⟨_,rfl,so⟩)
  ·cases e
 ·rename_i c
  exact ⟨A,m,a,c,rfl,hA,λS' u=>.mk (hq S' u (.inl rfl))⟩
def r9 (D:Cs) (Z:Zs):bu:=λts S R=>∃ A m a d,ts=[.ref A.h,.ref A.y,.ref A.u,dT d]/\At S (lay D A m a)/\Okk a/\0<=m/\OkD d/\rf m a d≠0/\R (cls Z (rf m a d)) S
theorem Bz {f f1 f2 f3 f4 f5 f6 f7 f8 f9 f10 f11:Addr}{fd fd1 fd2 fd3 fd4 fd5 fd6 fd7 fd8 fd9 fd10 fd11:FuncData}(F:Fun K "_law_call" "_law_call" eV f fd) (T:Txt K mg C L R Y Z)
  (R_Wood_put:FnOk P w K mg base (CX1 P w) 4 f1 fd1 vv5 (aP K (mP C Z.N Z.T))) (M_Wood_put:Meth K C "put" f1) (B_Wood_put:aj K fd1 vv5 [])
  (R_Wood_use:FnOk P w K mg base (CX1 P w) 3 f2 fd2 vv4 (aP K (mQ C Z.A))) (M_Wood_use:Meth K C "use" f2) (B_Wood_use:aj K fd2 vv4 [])
  (R_Wood_strike:FnOk P w K mg base (CX1 P w) 3 f3 fd3 vv0 (aP K (kR C Z.A))) (M_Wood_strike:Meth K C "strike" f3) (B_Wood_strike:aj K fd3 vv0 [])
  (R_Layers_put:FnOk P w K mg base (CX1 P w) 5 f4 fd4 vv5 (aP K (rJ C L Z))) (M_Layers_put:Meth K L "put" f4) (B_Layers_put:aj K fd4 vv5 [])
  (R_Layers_strike:FnOk P w K mg base (CX1 P w) 4 f5 fd5 vv0 (aP K (pL C L Z))) (M_Layers_strike:Meth K L "strike" f5) (B_Layers_strike:aj K fd5 vv0 [])
  (R_Layers_hide:FnOk P w K mg base (CX1 P w) 4 f6 fd6 vv0 (aP K (rK C L Z))) (M_Layers_hide:Meth K L "hide" f6) (B_Layers_hide:aj K fd6 vv0 [])
  (R_Layers_show:FnOk P w K mg base (CX1 P w) 1 f7 fd7 vv0 (aP K (rL C L Z))) (M_Layers_show:Meth K L "show" f7) (B_Layers_show:aj K fd7 vv0 [])
  (R_Layers_use:FnOk P w K mg base (CX1 P w) 4 f8 fd8 vv4 (aP K (rM C L Z))) (M_Layers_use:Meth K L "use" f8) (B_Layers_use:aj K fd8 vv4 [])
  (R_Typist_key:FnOk P w K mg base (CX1 P w) 3 f9 fd9 eT (aP K (tK Y Z.S))) (M_Typist_key:Meth K Y "key" f9) (B_Typist_key:aj K fd9 eT [])
  (R_Typist_back:FnOk P w K mg base (CX1 P w) 1 f10 fd10 vv1 (aP K (rQ Y Z.S))) (M_Typist_back:Meth K Y "back" f10) (B_Typist_back:aj K fd10 vv1 [])
  (R_Typist_take:FnOk P w K mg base (CX1 P w) 8 f11 fd11 fH (aP K (rV ⟨C,L,R,Y⟩ Z.H))) (M_Typist_take:Meth K Y "take" f11) (B_Typist_take:aj K fd11 fH []) :
  FnOk P w K mg base (CX1 P w) 9 f fd vv2 (aP K (r9 ⟨C,L,R,Y⟩ Z)):=by
 refine cf (T2.Fun.toD F) ji (λts S Q h=>?_) λcdv A outer s H E hr=>?_
 ·obtain ⟨A,m,a,d,rfl,_⟩:=h;rfl
 have nd:=ji.nd
 refine ⟨_,((bw (aK (i:=4) nd rfl (Or.inl rfl) (aq rfl (aa 3) af (λ_ _=>rfl)))
   (bS (aH (bg (aw (aG rfl hr.units) (aa 4) au (ay _)) (aH (cy (bG (T.gf M_Wood_put) R_Wood_put B_Wood_put hr.m (aa 0) (ad (aq rfl (aa 3) af (λ_ _=>rfl)) (ad (aq rfl (aa 3) af (λ_ _=>rfl)) ae (ac rfl)) (ac rfl)))))
    bh))
   (bw (aA (aw (aG rfl hr.units) (aa 4) au (ay _))
    ca
    aB)
   (bS (aH (bg (aw (aG rfl hr.units) (aa 4) au (ay _)) (aH (cy (bG (T.gf M_Wood_use) R_Wood_use B_Wood_use hr.m (aa 0) (ad (aq rfl (aa 3) af (λ_ _=>rfl)) (ad (aq rfl (aa 3) af (λ_ _=>rfl)) ae (ac rfl)) (ac rfl)))))
    bh))
   (bw (aA (aw (aG rfl hr.units) (aa 4) au (ay _))
    ca
    aB)
   (bS (aH (bg (aw (aG rfl hr.units) (aa 4) au (ay _)) (aH (cy (bG (T.gf M_Wood_strike) R_Wood_strike B_Wood_strike hr.m (aa 0) (ad (aq rfl (aa 3) af (λ_ _=>rfl)) ae (ac rfl)))))
    bh))
   (bw (aA (aw (aG rfl hr.units) (aa 4) au (ay _))
    ca
    aB)
   (bw (aA (aw (aG rfl hr.units) (aa 4) au (ay _))
    ca
    aB)
   (bS (aH (bg (aw (aG rfl hr.units) (aa 4) au (ay _)) (aH (cy (bG (T.gl M_Layers_put) R_Layers_put B_Layers_put hr.m (aa 1) (ad (aq rfl (aa 3) af (λ_ _=>rfl)) (ad (aq rfl (aa 3) af (λ_ _=>rfl)) ae (ac rfl)) (ac rfl)))))
    bh))
   (bw (aA (aw (aG rfl hr.units) (aa 4) au (ay _))
    ca
    aB)
   (bS (aH (bg (aw (aG rfl hr.units) (aa 4) au (ay _)) (aH (cy (bG (T.gl M_Layers_strike) R_Layers_strike B_Layers_strike hr.m (aa 1) (ad (aq rfl (aa 3) af (λ_ _=>rfl)) ae (ac rfl)))))
    bh))
   (bw (aA (aw (aG rfl hr.units) (aa 4) au (ay _))
    ca
    aB)
   (bS (aH (bg (aw (aG rfl hr.units) (aa 4) au (ay _)) (aH (cy (bG (T.gl M_Layers_hide) R_Layers_hide B_Layers_hide hr.m (aa 1) (ad (aq rfl (aa 3) af (λ_ _=>rfl)) ae (ac rfl)))))
    bh))
   (bw (aA (aw (aG rfl hr.units) (aa 4) au (ay _))
    ca
    aB)
   (bS (aH (bg (aw (aG rfl hr.units) (aa 4) au (ay _)) (aH (cy (bG (T.gl M_Layers_show) R_Layers_show B_Layers_show hr.m (aa 1) (ad (aq rfl (aa 3) af (λ_ _=>rfl)) ae (ac rfl)))))
    bh))
   (bw (aA (aw (aG rfl hr.units) (aa 4) au (ay _))
    ca
    aB)
   (bS (aH (bg (aw (aG rfl hr.units) (aa 4) au (ay _)) (aH (cy (bG (T.gl M_Layers_use) R_Layers_use B_Layers_use hr.m (aa 1) (ad (aq rfl (aa 3) af (λ_ _=>rfl)) (ad (aq rfl (aa 3) af (λ_ _=>rfl)) ae (ac rfl)) (ac rfl)))))
    bh))
   (bw (aA (aw (aG rfl hr.units) (aa 4) au (ay _))
    ca
    aB)
   (bw (aA (aw (aG rfl hr.units) (aa 4) au (ay _))
    ca
    aB)
   (bS (aH (bg (aw (aG rfl hr.units) (aa 4) au (ay _)) (aH (cy (bG (T.gu M_Typist_key) R_Typist_key B_Typist_key hr.m (aa 2) (ad (aq rfl (aa 3) af (λ_ _=>rfl)) ae (ac rfl)))))
    bh))
   (bw (aA (aw (aG rfl hr.units) (aa 4) au (ay _))
    ca
    aB)
   (bS (aH (bg (aw (aG rfl hr.units) (aa 4) au (ay _)) (aH (cy (yK (T.gu M_Typist_back) R_Typist_back B_Typist_back hr.m (aa 2))))
    bh))
   (bw (aA (aw (aG rfl hr.units) (aa 4) au (ay _))
    ca
    aB)
   (bw (aA (aw (aG rfl hr.units) (aa 4) au (ay _))
    ca
    aB)
   (aH (bg (aw (aG rfl hr.units) (aa 4) au (ay _)) (aH (cy (bG (T.gu M_Typist_take) R_Typist_take B_Typist_take hr.m (aa 2) (ad (aq rfl (aa 3) af (λ_ _=>rfl)) ae (ac rfl)))))
    bh))))))))))))))))))))))))))),λts S Q h=>?_⟩
 obtain ⟨A,m,a,d,rfl,hA,ok,hm,hd,h0,hq⟩:=h
 obtain ⟨j,hj⟩:∃ j,rf m a d=j:=⟨_,rfl⟩
 rw [hj] at h0 hq
 have l5:=ok.xl
 have iw:=hA.wh.ins
 have iy:=hA.ly.ins
 have iu:=hA.tp.ty
 have iu':=iu
 unfold tyO at iu'
 cases d
 all_goals
  ac_nf
  bv_omega
 ·rename_i z c
  refine bW ?_
  bv_omega
  refine ⟨_,_,_,_,z,c,rfl,hA.wh,hd.1,hd.2,?_⟩
  rcases if3 hj with ⟨h1,rfl⟩|⟨h1,h2,rfl⟩|⟨_,_,rfl⟩
  ·exact .inl ⟨h1,.mk hq⟩
  ·exact .inr ⟨by simpa using h1,Option.isSome_iff_exists.mp h2,.mk hq⟩
  ·exact absurd rfl h0
 ·rename_i z c
  refine bX ?_
  bv_omega
  refine bW ?_
  bv_omega
  rcases if2 hj with ⟨_,rfl⟩|⟨h1,rfl⟩
  ·exact absurd rfl h0
  ·exact ⟨_,_,_,_,z,c,rfl,hA.wh,by simpa using h1,hd.1,hd.2,.mk hq⟩
 ·rename_i z
  iterate 2 (refine bX ?_;bv_omega)
  refine bW ?_
  bv_omega
  rcases if2 hj with ⟨_,rfl⟩|⟨h1,rfl⟩
  ·exact absurd rfl h0
  ·exact ⟨_,_,_,_,z,rfl,hA.wh,by simpa using h1,hd.1,hd.2,.mk hq⟩
 ·exact absurd hj.symm h0
 ·rename_i z c
  iterate 3 (refine bX ?_;bv_omega)
  refine bW ?_
  bv_omega
  refine ⟨A.y,_,_,_,_,_,_,_,_,_,_,z,c,rfl,hA.ly,hd.1,hd.2,?_⟩
  rcases if3 hj with ⟨h1,rfl⟩|⟨h1,h2,rfl⟩|⟨_,_,rfl⟩
  ·exact .inl ⟨h1,.mk hq⟩
  ·exact .inr ⟨by simpa using h1,Option.isSome_iff_exists.mp h2,.mk hq⟩
  ·exact absurd rfl h0
 ·rename_i z
  iterate 4 (refine bX ?_;bv_omega)
  refine bW ?_
  bv_omega
  rcases if2 hj with ⟨_,rfl⟩|⟨h1,rfl⟩
  ·exact absurd rfl h0
  ·exact ⟨A.y,_,_,_,_,_,_,_,_,_,_,z,rfl,hA.ly,hd.1,hd.2,by simpa using h1,.mk hq⟩
 ·rename_i z
  iterate 5 (refine bX ?_;bv_omega)
  refine bW ?_
  bv_omega
  refine ⟨A.y,_,_,_,_,_,_,_,_,_,_,z,rfl,hA.ly,hd.1,hd.2,?_⟩
  rcases if3 hj with ⟨h1,rfl⟩|⟨h1,h2,rfl⟩|⟨_,_,rfl⟩
  ·exact .inl ⟨h1,.mk hq⟩
  ·exact .inr ⟨by simpa using h1,Option.isSome_iff_exists.mp h2,.mk hq⟩
  ·exact absurd rfl h0
 ·rename_i z
  iterate 6 (refine bX ?_;bv_omega)
  refine bW ?_
  bv_omega
  rcases if2 hj with ⟨_,rfl⟩|⟨h1,rfl⟩
  ·exact absurd rfl h0
  ·exact ⟨A.y,_,_,_,_,_,_,_,_,_,_,z,rfl,hA.ly,hd.1,hd.2,by simpa using h1,.mk hq⟩
 ·rename_i z c
  iterate 7 (refine bX ?_;bv_omega)
  refine bW ?_
  bv_omega
  rcases if3 hj with ⟨h1,rfl⟩|⟨_,_,rfl⟩|⟨h1,h2,rfl⟩
  ·exact ⟨A.y,_,_,_,_,_,_,_,_,_,_,z,c,rfl,hA.ly,hd.1,hd.2,.inl (Option.isSome_iff_exists.mp h1),.mk hq⟩
  ·exact absurd rfl h0
  ·exact ⟨A.y,_,_,_,_,_,_,_,_,_,_,z,c,rfl,hA.ly,hd.1,hd.2,.inr ⟨by simpa using h1,by simpa using λh=>h2 (.inl h),by simpa using λh=>h2 (.inr h)⟩,.mk hq⟩
 ·exact absurd hj.symm h0
 ·rename_i z
  iterate 8 (refine bX ?_;bv_omega)
  refine bW ?_
  bv_omega
  refine ⟨A.u,_,_,_,_,_,z,rfl,iu,hd.1,hd.2,l5,?_⟩
  rcases if3 hj with ⟨h1,rfl⟩|⟨_,_,rfl⟩|⟨h1,h2,rfl⟩
  ·exact ⟨.inl h1,.mk hq⟩
  ·exact absurd rfl h0
  ·exact ⟨.inr ⟨by simpa using h1,by omega⟩,.mk hq⟩
 ·iterate 9 (refine bX ?_;bv_omega)
  refine bW ?_
  bv_omega
  rcases if2 hj with ⟨h1,rfl⟩|⟨_,rfl⟩
  ·rw [h1] at iu
   exact ⟨A.u,_,_,_,_,rfl,iu,.mk hq⟩
  ·exact absurd rfl h0
 ·exact absurd hj.symm h0
 ·rename_i i
  iterate 10 (refine bX ?_;bv_omega)
  rcases if2 hj with ⟨_,rfl⟩|⟨h1,rfl⟩
  ·exact absurd rfl h0
  ·exact ⟨A,m,a,i,rfl,hA,ok,hm,hd,by omega,.mk hq⟩
 ·exact absurd hj.symm h0
end
theorem Ht {b:Bool}{A C:Prop}(e:b=true) (h:A):if b=true then A else C:=by rw [e];exact ifT h
theorem nW {b:Bool}{A C:Prop}(e:b=false) (h:C):if b=true then A else C:=by rw [e];exact ifF h
def nmR:Nat->Str
 |0=>""
 |1=>"word"
 |2=>"twice"
 |3=>"absent"
 |4=>"sign"
 |_=>"choice"
def aft (m:Int) (a:Ab) (d:Dd):Ab:=if rf m a d=0 then nxt m a d else a
def out (m:Int) (a:Ab) (d:Dd):T2.T:=.tup [.str (nmR (rf m a d)),if rf m a d=0 then rs m a d else .non]
section
variable {P:Program}{w:World}{K:PySem.W.Frag}{mg:Str->Option Value}{base:Heap}{C L R Y:Addr}{Z:Zs}
def sd (D:Cs):WSp:=λts S Q=>∃ A m a d,ts=[.ref A.h,.ref A.y,.ref A.u,dT d]/\At S (lay D A m a)/\Okk a/\0<=m/\OkD d/\∀ S',Up S (lay D A m a) S' (lay D A m (aft m a d))->Sd (if rf m a d=0 then rs m a d else .non)->Q (out m a d) S'
theorem oV:FnScope ["_law_house","_law_layers","_law_typist","_law_deed","_law_word_here","_law_told"] vv2 (ag fQ):=by nofun
theorem zj {f f1:Addr}{fd fd1:FuncData}(F:Fun K "_law_tried" "_law_tried" fQ f fd) (T:Txt K mg C L R Y Z) (G__law_call:FnOk P w K mg base CX0 9 f1 fd1 vv2 (lSp K (tQ ⟨C,L,R,Y⟩)))
  (R__law_call:FnOk P w K mg base (CX1 P w) 9 f1 fd1 vv2 (aP K (r9 ⟨C,L,R,Y⟩ Z))) (D__law_call:Df K mg "_law_call" f1 fd1 vv2):FnOk P w K mg base CX0 10 f fd vv2 (lSp K (sd ⟨C,L,R,Y⟩)):=by
 refine a8 F oV (λts S Q h=>?_) λcdv A outer s H E hr=>?_
 ·obtain ⟨A,m,a,d,rfl,_⟩:=h;rfl
 have nd:=oV.nd
 refine ⟨_,((ak (aK (i:=4) nd rfl (Or.inl rfl) au)
   (ak (aK (i:=5) nd rfl (Or.inl rfl) na)
   (ak (F0 ⟨rfl,rfl⟩ (ai (aK (i:=5) nd rfl (Or.inl rfl) (az G__law_call D__law_call hr.m (by rfl) (ad (aa 0) (ad (aa 1) (ad (aa 2) (ad (aa 3) ae (ac rfl)) (ac rfl)) (ac rfl)) (ac rfl)))))
    (aH (Dz (AK R__law_call D__law_call hr.m (by rfl) (ad (aa 0) (ad (aa 1) (ad (aa 2) (ad (aa 3) ae (ac rfl)) (ac rfl)) (ac rfl)) (ac rfl)))))
    (h9 rfl (by rfl) T.mg_NoWord (λ_=>(ai (aK (i:=4) nd rfl (Or.inl rfl) au))) (h9 rfl (by rfl) T.mg_Twice (λ_=>(ai (aK (i:=4) nd rfl (Or.inl rfl) au))) (h9 rfl (by rfl) T.mg_Absent (λ_=>(ai (aK (i:=4) nd rfl (Or.inl rfl) au))) (h9 rfl (by rfl) T.mg_NoSign (λ_=>(ai (aK (i:=4) nd rfl (Or.inl rfl) au))) (h9 rfl (by rfl) T.mg_NoChoice (λ_=>(ai (aK (i:=4) nd rfl (Or.inl rfl) au))) DA))))))
   (ai (ax (aU (ad (aa 4) (ad (aa 5) ae (ac rfl)) (ac rfl))))))))),λts S Q h=>?_⟩
 obtain ⟨A,m,a,d,rfl,hA,ok,hm,hd,hq⟩:=h
 ac_nf
 bv_omega
 obtain ⟨j,hj⟩:∃ j,rf m a d=j:=⟨_,rfl⟩
 unfold aft out at hq
 rw [hj] at hq
 by_cases h0:j=0
 ·subst h0
  rw [if_pos rfl,if_pos rfl] at hq
  refine DD ?_
  bv_omega
  refine ⟨A,m,a,d,rfl,hA,ok,hm,hd,hj,λS' u so=>?_⟩
  bv_omega
  exact .mk (hq _ u so)
 ·rw [if_neg h0,if_neg h0] at hq
  have fin:=hq S (Up.refl hA) (.inl rfl)
  refine DE ?_
  bv_omega
  refine ⟨A,m,a,d,rfl,hA,ok,hm,hd,by rw [hj];exact h0,?_⟩
  rw [hj]
  rcases j with _|_|_|_|_|j
  ·exact absurd rfl h0
  ·refine iL T.eNN ?_
   bv_omega
   exact .mk fin
  ·refine cX T.eTN ?_
   refine iL T.eTT ?_
   bv_omega
   exact .mk fin
  ·refine cX T.eAN ?_
   refine cX T.eAT ?_
   refine iL T.eAA ?_
   bv_omega
   exact .mk fin
  ·refine cX T.eSN ?_
   refine cX T.eST ?_
   refine cX T.eSA ?_
   refine iL T.eSS ?_
   bv_omega
   exact .mk fin
  ·refine cX T.eHN ?_
   refine cX T.eHT ?_
   refine cX T.eHA ?_
   refine cX T.eHS ?_
   refine iL T.eHH ?_
   bv_omega
   exact .mk fin
def Stp (d:Dd) (ds:List Dd):Prop:=ds=[d]\/∃ b c,1<=b/\1<=c/\(d=fade (b+c)/\ds=[fade b,fade c]\/d=fadeO (b+c)/\ds=[fadeO b,fadeO c]\/d=fadeA (b+c)/\ds=[fadeA b,fadeA c])
def se:WSp:=λts S Q=>∃ p o d,ts=[.ref p,dT d]/\S p=some o/\aM o/\OkD d/\∀ ds o',Stp d ds->aM o'->Q (.lst (ds.map dT)) (T2.put S p o')
theorem oW:FnScope ["_law_box_here","_law_deed","_law_first"] kA (ag fR):=by nofun
theorem zk {f f1:Addr}{fd fd1:FuncData}(F:Fun K "_law_steps" "_law_steps" fR f fd) (T:Txt K mg C L R Y Z) (G__law_take:FnOk P w K mg base CX0 1 f1 fd1 vv3 (lSp K cj)) (D__law_take:Df K mg "_law_take" f1 fd1 vv3) :
  FnOk P w K mg base CX0 2 f fd kA (lSp K se):=by
 refine a8 F oW (λts S Q h=>?_) λcdv A outer s H E hr=>?_
 ·obtain ⟨p,o,d,rfl,_⟩:=h;rfl
 have nd:=oW.nd
 refine ⟨_,((ak (aA (kj (nJ (aw (lP rfl) (aq rfl (aa 1) af (λ_ _=>rfl)) (aU (ad au (ad au (ad au ae (ac rfl)) (ac rfl)) (ac rfl))) (by with_unfolding_all rfl)) (ni (aw cD (aq rfl (aa 1) af (λ_ _=>rfl)) af (ay _)))))
    (ai (ax (bd (ad (aa 1) ae (ac rfl)))))
    aB)
   (ak (aK (i:=2) nd rfl (Or.inl rfl) (aI (bn false) af (az G__law_take D__law_take hr.m (by rfl) (ad (aa 0) (ad (aI gS (aq rfl (aa 1) af (λ_ _=>rfl)) af) ae (ac rfl)) (ac rfl)))))
   (ai (ax (bd (ad (aU (ad (aq rfl (aa 1) af (λ_ _=>rfl)) (ad (aa 2) ae (ac rfl)) (ac rfl))) (ad (aU (ad (aq rfl (aa 1) af (λ_ _=>rfl)) (ad (aI gS (aq rfl (aa 1) af (λ_ _=>rfl)) (aa 2)) ae (ac rfl)) (ac rfl))) ae (ac rfl)) (ac rfl)))))))),λts S Q h=>?_⟩
 obtain ⟨p,o,d,rfl,hp,hb,hd,hq⟩:=h
 have q0:=hq [d] o (.inl rfl) hb
 rw [qE hp] at q0
 cases d
 all_goals
  ac_nf
  bv_omega
 all_goals first
  |(refine Ht (by decide +kernel) ?_
    bv_omega
    exact .mk q0)
  |skip
 ·refine nW (by decide +kernel) ?_
  rename_i c
  obtain ⟨c1,c2⟩:1<=c/\c<=1000000:=hd
  bv_omega
  refine ifB (λhb=>?_) (λhb=>?_)
  ·bv_omega
   exact .mk q0
  ·have hb:=of_decide_eq_false hb
   bv_omega
   exact .mk (hq [fade (1+r),fade (c - (1+r))] _ (.inr ⟨1+r,c - (1+r),by omega,by omega,.inl ⟨congrArg fade (by omega),rfl⟩⟩) hbx)
 ·refine nW (by decide +kernel) ?_
  rename_i c
  obtain ⟨c1,c2⟩:1<=c/\c<=1000000:=hd
  bv_omega
  refine ifB (λhb=>?_) (λhb=>?_)
  ·bv_omega
   exact .mk q0
  ·have hb:=of_decide_eq_false hb
   bv_omega
   exact .mk (hq [fadeO (1+r),fadeO (c - (1+r))] _ (.inr ⟨1+r,c - (1+r),by omega,by omega,.inr (.inl ⟨congrArg fadeO (by omega),rfl⟩)⟩) hbx)
 ·refine nW (by decide +kernel) ?_
  rename_i c
  obtain ⟨c1,c2⟩:1<=c/\c<=1000000:=hd
  bv_omega
  refine ifB (λhb=>?_) (λhb=>?_)
  ·bv_omega
   exact .mk q0
  ·have hb:=of_decide_eq_false hb
   bv_omega
   exact .mk (hq [fadeA (1+r),fadeA (c - (1+r))] _ (.inr ⟨1+r,c - (1+r),by omega,by omega,.inr (.inr ⟨congrArg fadeA (by omega),rfl⟩)⟩) hbx)
end
def wl (ms:Ms) (n:Int):List Rt:=(srt Ky.s (ms.map (·.1))).map λz=>(z,wrt ((look ms z).getD (0,0)) n)
theorem uJ {l l':List Str}(hn:l.Nodup) (p:l'.Perm l) (h:l'.Pairwise λa b=>Ky.lt (.s b) (.s a)=false):l'=srt Ky.s l:=tN (k0:=.s "") (λ_=>rfl) (λa b h=>by cases h;rfl) hn p h
theorem uK {ms:Ms}{n:Int}{l:List Rt}(nd:(ms.map (·.1)).Nodup) (p:l.Perm (ms.map λa=>(a.1,wrt a.2 n))) (r:kB l):l=wl ms n:=by
 have e:l.map (·.1)=srt Ky.s (ms.map (·.1)):=uJ nd (by have:=p.map (·.1);rw [List.map_map] at this;exact this) r
 unfold wl
 rw [<- e,List.map_map]
 refine (List.map_id l).symm.trans (List.map_congr_left λa ha=>?_)
 obtain ⟨x,hx,rfl⟩:=List.mem_map.mp (p.mem_iff.mp ha)
 show (x.1,wrt x.2 n)=(x.1,wrt ((look ms x.1).getD (0,0)) n)
 rw [AV nd hx]
 rfl
def al (m:Int) (a:Ab):T2.T:=.tup [.lst ((a.told m).map r4),.str a.x,.lst (a.ln.map T2.T.str),.lst ((wl a.hs a.k).map rt),.lst ((wl a.ms a.n).map rt),.lst ((srt Ky.s (a.vs.map (·.1))).map T2.T.str)]
theorem Pln.str {n:Nat}{x:Str}:Pln (n+1) (.str x):=.inr (.inl ⟨x,rfl⟩)
theorem Pln.int {n:Nat}{x:Int}:Pln (n+1) (.int x):=.inr (.inr (.inr (.inl ⟨x,rfl⟩)))
theorem Pln.tup {n:Nat}{us:List T2.T}(h:us.length<=1000) (k:∀ u∈us,Pln n u):Pln (n+1) (.tup us):=.inr (.inr (.inr (.inr ⟨us,.inl rfl,h,k⟩)))
theorem Pln.lst {α:Type}{n:Nat}{f:α->T2.T}{l:List α}(h:l.length<=1000) (k:∀ a,Pln n (f a)):Pln (n+1) (.lst (l.map f)):=.inr (.inr (.inr (.inr ⟨_,.inr rfl,by rw [List.length_map];exact h,λu hu=>by obtain ⟨a,_,rfl⟩:=List.mem_map.mp hu;exact k a⟩)))
theorem Pln.rt {n:Nat}{a:Rt}:Pln (n+2) (rt a):=.tup (Nat.le_of_ble_eq_true rfl) λu hu=>by
 rcases List.mem_cons.mp hu with rfl|hu
 ·exact .str
 ·rw [List.mem_singleton.mp hu];exact .int
theorem Pln.r4 {n:Nat}{a:R4}:Pln (n+2) (r4 a):=.tup (Nat.le_of_ble_eq_true rfl) λu hu=>by
 simp only [List.mem_cons,List.not_mem_nil,or_false] at hu
 rcases hu with rfl|rfl|rfl|rfl
 ·exact .str
 ·exact .int
 ·exact .int
 ·exact .inr (.inr (.inl ⟨_,rfl⟩))
section
variable {P:Program}{w:World}{K:PySem.W.Frag}{mg:Str->Option Value}{base:Heap}{C L R Y:Addr}{Z:Zs}
def tR (D:Cs):WSp:=λts S Q=>∃ A m a,ts=[.ref A.h,.ref A.y,.ref A.u]/\At S (lay D A m a)/\Okk a/\(a.vs.map (·.1)).Nodup/\a.ln.length<=100/\0<=m/\m<=10/\(Pln 4 (al m a)->Q (al m a) S)
theorem pN:FnScope iZ iZ (ag gz):=by nofun
theorem BA {f f1 f2 f3 f4 f5 f6:Addr}{fd fd1 fd2 fd3 fd4 fd5 fd6:FuncData}(F:Fun K "_law_all" "_law_all" gz f fd) (T:Txt K mg C L R Y Z)
  (G_Typist_told:FnOk P w K mg base CX0 7 f1 fd1 vv1 (lSp K (jP C L R Y))) (M_Typist_told:Meth K Y "told" f1) (B_Typist_told:aj K fd1 vv1 [])
  (G_Typist_typed:FnOk P w K mg base CX0 1 f2 fd2 vv1 (lSp K (rR Y))) (M_Typist_typed:Meth K Y "typed" f2) (B_Typist_typed:aj K fd2 vv1 [])
  (G_Typist_line:FnOk P w K mg base CX0 1 f3 fd3 vv1 (lSp K (tM Y))) (M_Typist_line:Meth K Y "line" f3) (B_Typist_line:aj K fd3 vv1 [])
  (G_Wood_words:FnOk P w K mg base CX0 4 f4 fd4 vv1 (lSp K (lh C))) (M_Wood_words:Meth K C "words" f4) (B_Wood_words:aj K fd4 vv1 [])
  (G_Layers_own_words:FnOk P w K mg base CX0 5 f5 fd5 vv1 (lSp K (uF C L))) (M_Layers_own_words:Meth K L "own_words" f5) (B_Layers_own_words:aj K fd5 vv1 [])
  (G_Layers_hidden:FnOk P w K mg base CX0 4 f6 fd6 vv1 (lSp K (qF C L))) (M_Layers_hidden:Meth K L "hidden" f6) (B_Layers_hidden:aj K fd6 vv1 []) :
  FnOk P w K mg base CX0 8 f fd iZ (lSp K (tR ⟨C,L,R,Y⟩)):=by
 refine a8 F pN (λts S Q h=>?_) λcdv A outer s H E hr=>?_
 ·obtain ⟨A,m,a,rfl,_⟩:=h;rfl
 have nd:=pN.nd
 refine ⟨_,((ai (ax (aU (ad (bO (T.gu M_Typist_told) G_Typist_told B_Typist_told hr.m (aa 2)) (ad (bO (T.gu M_Typist_typed) G_Typist_typed B_Typist_typed hr.m (aa 2)) (ad (bO (T.gu M_Typist_line) G_Typist_line B_Typist_line hr.m (aa 2)) (ad (bO (T.gf M_Wood_words) G_Wood_words B_Wood_words hr.m (aa 0)) (ad (bO (T.gl M_Layers_own_words) G_Layers_own_words B_Layers_own_words hr.m (aa 1)) (ad (bO (T.gl M_Layers_hidden) G_Layers_hidden B_Layers_hidden hr.m (aa 1)) ae (ac rfl)) (ac rfl)) (ac rfl)) (ac rfl)) (ac rfl)) (ac rfl)))))),λts S Q h=>?_⟩
 obtain ⟨A,m,a,rfl,hA,ok,hvn,hln,hm,hm1,hq⟩:=h
 have tp:=hA.tp
 have iw:=hA.wh.ins
 have iy:=hA.ly.ins
 have iu:=tp.ty
 have iu':=iu
 unfold tyO at iu'
 ac_nf
 bv_omega
 refine ⟨_,_,_,_,_,_,_,_,_,_,_,_,_,_,_,_,_,_,_,_,rfl,tp,ok.ok,hm,λ_=>?_⟩
 bv_omega
 refine ⟨A.u,_,_,_,_,_,rfl,iu,?_⟩
 bv_omega
 refine ⟨A.u,_,_,_,_,_,_,rfl,iu,tp.li,?_⟩
 bv_omega
 refine ⟨A.h,A.e,_,_,rfl,hA.wh,ok.ok.h.len,ok.ok.h.old,ok.ok.h.nd,ok.ok.h.wd,λl p r=>?_⟩
 bv_omega
 refine ⟨A.y,_,_,_,_,_,_,_,_,_,_,rfl,hA.ly,ok.ok.o,λl2 p2 r2=>?_⟩
 bv_omega
 have hv:=ok.vl
 refine ⟨A.y,_,_,_,_,_,_,_,_,_,_,rfl,hA.ly,by omega,λzs pz sz=>?_⟩
 bv_omega
 have e1:=uK ok.ok.h.nd p r
 have e2:=uK ok.ok.o.nd p2 r2
 have e3:=uJ hvn pz sz
 have g1:=p.length_eq
 have g2:=p2.length_eq
 have g3:=pz.length_eq
 have k1:=ok.ok.h.len
 have k2:=ok.ok.o.len
 rw [List.length_map] at g1 g2 g3
 have pl:Pln 4 (al m a):=by
  refine .tup (Nat.le_of_ble_eq_true rfl) λu hu=>?_
  simp only [List.mem_cons,List.not_mem_nil,or_false] at hu
  rcases hu with rfl|rfl|rfl|rfl|rfl|rfl
  ·exact .lst (by unfold Ab.told tld;exact Nat.le_trans (List.length_take_le ..) (by omega)) λ_=>.r4
  ·exact .str
  ·exact .lst (by omega) λ_=>.str
  ·exact .lst (by rw [<- e1];omega) λ_=>.rt
  ·exact .lst (by rw [<- e2];omega) λ_=>.rt
  ·exact .lst (by rw [<- e3];omega) λ_=>.str
 have q:=hq pl
 unfold al at q
 rw [<- e1,<- e2,<- e3] at q
 exact .mk q
end
theorem Mo.puts {n c:Int}{ms:Ms}{z:Str}(h:Mo n ms) (hl:ms.length<60) (hz:Wm.Wd z=true) (hm:look ms z=none):Mo n (ms++[(z,c,n)]):=by
 refine ⟨by rw [List.length_append];exact hl,λa ha=>?_,?_,λa ha=>?_⟩
 ·rcases List.mem_append.mp ha with q|q
  ·exact h.old a q
  ·rw [List.mem_singleton.mp q];exact Int.le_refl _
 ·rw [List.map_append,List.nodup_append]
  exact ⟨h.nd,by simp,λa ha b hb e=>As.cU.mp hm (by rw [show z=a from (e.trans (List.mem_singleton.mp hb)).symm];exact ha)⟩
 ·rcases List.mem_append.mp ha with q|q
  ·exact h.wd a q
  ·rw [List.mem_singleton.mp q];exact hz
theorem lj (ms:Ms) (n c:Int) (z:Str):(usd ms n z c).map (·.1)=ms.map (·.1):=by
 cases e:look ms z with
 |none=>unfold usd;rw [e]
 |some m=>rw [iQ e];exact AW _ (List.mem_map_of_mem (f:=(·.1)) (As.d8 e))
theorem jF (ms:Ms) (n c:Int) (z:Str):(usd ms n z c).length=ms.length:=by have:=congrArg List.length (lj ms n c z);simpa using this
theorem Mo.usd {n c:Int}{ms:Ms}{z:Str}(h:Mo n ms):Mo n (usd ms n z c):=by
 refine ⟨by rw [jF];exact h.len,λa ha=>?_,by rw [lj];exact h.nd,λa ha=>?_⟩
 ·cases e:look ms z with
  |none=>unfold My.usd at ha;rw [e] at ha;exact h.old a ha
  |some m =>
   rw [iQ e] at ha
   rcases DQ ha with q|q
   ·exact h.old a q
   ·rw [q];exact Int.le_refl _
 ·have q:=List.mem_map_of_mem (f:=(·.1)) ha
  rw [lj] at q
  obtain ⟨b,hb,e⟩:=List.mem_map.mp q
  have:=h.wd b hb
  rw [e] at this
  exact this
theorem jR {α:Type}(l:List (Str×α)) (z:Str):(dr l z).length<=l.length:=List.length_filter_le ..
theorem Mo.drop {n:Int}{ms:Ms}{z:Str}(h:Mo n ms):Mo n (dr ms z) :=
 ⟨Nat.le_trans (jR ..) h.len,λa ha=>h.old a (List.mem_filter.mp ha).1,by rw [rG];exact h.nd.filter _,λa ha=>h.wd a (List.mem_filter.mp ha).1⟩
theorem Mo.fade {n c:Int}{ms:Ms}(h:Mo n ms) (hc:1<=c):Mo (n+c) ms:=⟨h.len,λa ha=>by have:=h.old a ha;omega,h.nd,h.wd⟩
structure Okj (j:Nat) (a:Ab):Prop where
 h:Mo a.k a.hs
 o:Mo a.n a.ms
 le:a.hs.length+a.ms.length<=j
 vl:a.vs.length<=j
 vn:(a.vs.map (·.1)).Nodup
 xl:a.x.length<=24
 ll:a.ln.length<=j
 p:Wf j a.i a.ps
theorem Okj.kk {j:Nat}{a:Ab}(h:Okj j a) (hj:j<=50):Okk a:=⟨⟨h.h,h.o,by have:=h.le;omega,h.p.more (by omega) (Int.le_refl _)⟩,by have:=h.vl;omega,h.xl,by have:=h.ll;omega⟩
theorem Okj.up {j k:Nat}{a:Ab}(h:Okj j a) (hj:j<=k):Okj k a:=⟨h.h,h.o,by have:=h.le;omega,by have:=h.vl;omega,h.vn,h.xl,by have:=h.ll;omega,h.p.more hj (Int.le_refl _)⟩
theorem Okj.use {j:Nat}{a:Ab}{z:Str}{c:Int}(h:Okj j a):Okj j (a.use z c):=by
 have hl:=h.le
 unfold Ab.use
 split
 ·exact ⟨h.h,h.o.usd,by show a.hs.length+(My.usd a.ms a.n z c).length<=j;rw [jF];exact hl,h.vl,h.vn,h.xl,h.ll,h.p⟩
 ·exact ⟨h.h.usd,h.o,by show (My.usd a.hs a.k z c).length+a.ms.length<=j;rw [jF];exact hl,h.vl,h.vn,h.xl,h.ll,h.p⟩
theorem BB {z:Str}(h:sgn z=true):z.length=1:=by
 have:=of_decide_eq_true (Bool.and_eq_true_iff.mp h).1
 omega
theorem Okj.next {j:Nat}{m:Int}{a:Ab}{d:Dd}(h:Okj j a) (hj:j<=49) (hd:OkD d) (h0:rf m a d=0):Okj (j+wt d) (nxt m a d):=by
 have u:=h.up (Nat.le_succ j)
 have l1:=h.le
 have l2:=h.vl
 cases d with
 |puts z c =>
  rcases if3 h0 with ⟨_,e⟩|⟨_,_,e⟩|⟨h1,h2,_⟩
  iterate 2 cases e
  exact { u with h:=h.h.puts (by omega) (by simpa using h1) (by simpa using h2),le:=by show (a.hs++[_]).length+a.ms.length<=j+1;rw [List.length_append,List.length_singleton];omega }
 |own z c =>
  rcases if3 h0 with ⟨_,e⟩|⟨_,_,e⟩|⟨h1,h2,_⟩
  iterate 2 cases e
  exact { u with o:=h.o.puts (by omega) (by simpa using h1) (by simpa using h2),le:=by show a.hs.length+(a.ms++[_]).length<=j+1;rw [List.length_append,List.length_singleton];omega }
 |hide z =>
  rcases if3 h0 with ⟨_,e⟩|⟨_,_,e⟩|⟨h1,h2,_⟩
  iterate 2 cases e
  have h2:look a.vs z=none:=by simpa using h2
  have vn:((a.vs++[(z,true)]).map (·.1)).Nodup:=by
   rw [List.map_append,List.nodup_append]
   exact ⟨h.vn,by simp,λa ha b hb e=>As.cU.mp h2 (by rw [show z=a from (e.trans (List.mem_singleton.mp hb)).symm];exact ha)⟩
  exact { u with vl:=by show (a.vs++[_]).length<=j+1;rw [List.length_append,List.length_singleton];omega,vn:=vn }
 |use z c=>exact { u with h:=h.h.usd,le:=by show (My.usd a.hs a.k z c).length+a.ms.length<=j+1;rw [jF];omega }
 |strike z=>exact { u with h:=h.h.drop,le:=by show (dr a.hs z).length+a.ms.length<=j+1;have:=jR a.hs z;omega }
 |disown z=>exact { u with o:=h.o.drop,le:=by show a.hs.length+(dr a.ms z).length<=j+1;have:=jR a.ms z;omega }
 |show_ z=>exact { u with vl:=by show (dr a.vs z).length<=j+1;have:=jR a.vs z;omega,vn:=by show ((dr a.vs z).map _).Nodup;rw [rG];exact h.vn.filter _ }
 |above z c=>exact h.use.up (Nat.le_succ j)
 |fade c=>exact { u with h:=h.h.fade hd.1 }
 |fadeO c=>exact { u with o:=h.o.fade hd.1 }
 |fadeA c=>exact { u with o:=h.o.fade hd.1,p:=h.p.more (Nat.le_succ j) (by have:=hd.1;show a.i<=a.i+c;omega) }
 |key z =>
  rcases if3 h0 with ⟨_,e⟩|⟨h1,h2,_⟩|⟨_,_,e⟩
  ·cases e
  ·exact { h with xl:=by show (a.x++z).length<=24;rw [ma];have:=BB (z:=z) (by simpa using h1);omega }
  ·cases e
 |back=>exact { u with xl:=Nat.le_trans (ka ..) h.xl }
 |clear=>exact { u with xl:=by show ("":Str).length<=24;decide +kernel }
 |take i =>
  show Okj (j+1) (((a.told m)[i.toNat]?).elim a λr=>a.tak r.1)
  cases (a.told m)[i.toNat]? with
  |none=>exact u
  |some r =>
   have v:=(h.use (z:=r.1) (c:=1)).up (Nat.le_succ j)
   obtain ⟨e1,e2,e3,e4,e5,e6,e7⟩:=tO (a:=a) (z:=r.1) (c:=1)
   exact { v with xl:=by show ("":Str).length<=24;decide +kernel,ll:=by show (a.ln++[_]).length<=j+1;rw [List.length_append,List.length_singleton];have:=h.ll;omega,p:=by show Wf (j+1) (a.use r.1 1).i (chosen ..);rw [e2];exact h.p.choose .. }
section
variable {C:Addr}{S S':Sto}{l l' nw:List (Addr×O)}{p d v y t q g c:Addr}{o u:O}
theorem At.perm (h:At S l) (p:l.Perm l'):At S l':=⟨(p.map _).nodup_iff.mp h.nd,λx hx=>h.is x (p.mem_iff.mpr hx)⟩
theorem At.grow (h:At S l) (nd:(nw.map (·.1)).Nodup) (hn:∀ x∈nw,S x.1=none) (hv:∀ x∈nw,S' x.1=some x.2) (k:∀ a o,S a=some o->S' a=some o):At S' (nw++l):=by
 refine ⟨List.map_append ▸ List.nodup_append.mpr ⟨nd,h.nd,λa ha b hb e=>?_⟩,λx hx=>?_⟩
 ·obtain ⟨x,hx,rfl⟩:=List.mem_map.mp ha
  obtain ⟨y,hy,rfl⟩:=List.mem_map.mp hb
  exact iP (h.is y hy) (hn x hx) e.symm
 ·rcases List.mem_append.mp hx with q|q
  ·exact hv x q
  ·exact k _ _ (h.is x q)
theorem At.four {a b c e:Addr}{oa ob oc oe:O}(h:At S l) (ha:S a=none) (ga:S' a=some oa) (gb:S' b=some ob) (gc:S' c=some oc) (ge:S' e=some oe) (nb:T2.put S a u b=none) (nc:T2.put S a u c=none) (ne:T2.put S a u e=none) (bc:b≠c) (be:b≠e) (ce:c≠e)
  (k:∀ x o,T2.put S a u x=some o->x≠a->S' x=some o):At S' ([(a,oa),(b,ob),(c,oc),(e,oe)]++l):=by
 obtain ⟨b1,b2⟩:=bN nb
 obtain ⟨c1,c2⟩:=bN nc
 obtain ⟨e1,e2⟩:=bN ne
 refine h.grow ?_ ?_ ?_ λx o hx=>k x o ((aD (iP hx ha)).trans hx) (iP hx ha)
 ·simp only [List.map_cons,List.map_nil,List.nodup_cons,List.mem_cons,List.not_mem_nil,or_false,not_or]
  exact ⟨⟨Ne.symm b1,Ne.symm c1,Ne.symm e1⟩,⟨bc,be⟩,ce,not_false,List.nodup_nil⟩
 ·intro x hx
  simp only [List.mem_cons,List.not_mem_nil,or_false] at hx
  rcases hx with rfl|rfl|rfl|rfl<;>assumption
 ·intro x hx
  simp only [List.mem_cons,List.not_mem_nil,or_false] at hx
  rcases hx with rfl|rfl|rfl|rfl<;>assumption
theorem At.wood (hA:At S l) (h1:S p=none) (h2:T2.put S p (.ins C []) d=none):At (T2.put (T2.put (T2.put S p (.ins C [])) d (.dK [])) p o) ((d,.dK [])::(p,o)::l):=((hA.cons h1).cons h2).put 1 rfl
end
structure Two (D:Cs) (S:Sto) (p:Addr) (o:O) (A B:Ad) (m:Int) (a b:Ab):Prop where
 bx:aM o
 at_:At S (lay D A m a++(lay D B m b++[(p,o)]))
section
variable {D:Cs}{S S':Sto}{p:Addr}{o:O}{A B:Ad}{m:Int}{a b a':Ab}
theorem Two.sw (h:Two D S p o A B m a b):Two D S p o B A m b a:=⟨h.bx,h.at_.perm (by rw [<- List.append_assoc,<- List.append_assoc];exact List.perm_append_comm.append_right _)⟩
theorem Two.fst (h:Two D S p o A B m a b):At S (lay D A m a):=h.at_.left
theorem Two.up (h:Two D S p o A B m a b) (u:Up S (lay D A m a) S' (lay D A m a')):Two D S' p o A B m a' b:=⟨h.bx,h.at_.up u⟩
theorem Two.get (h:Two D S p o A B m a b):S p=some o:=h.at_.is (p,o) (by simp)
theorem lq {l1 l2:List (Addr×O)}{x:Addr×O}:(x::(l1++l2)).Perm (l1++(l2++[x])):=by rw [<- List.append_assoc];exact (List.perm_append_singleton x _).symm
theorem Two.put {o':O}(h:Two D S p o A B m a b) (hb:aM o'):Two D (T2.put S p o') p o' A B m a b:=⟨hb,((h.at_.perm lq.symm).put 0 rfl).perm lq⟩
theorem Two.new {q:Addr}{o':O}(h:Two D S p o A B m a b) (hq:S q=none) (hb:aM o'):Two D (T2.put S q o') q o' A B m a b :=
 ⟨hb,(((h.at_.perm (by rw [<- List.append_assoc])).left.cons hq).perm lq)⟩
end
def Rem (m:Int) (t:T2.T) (a':Ab):List Dd->Ab->Prop
 |[],b=>b=a'
 |s::r,b=>out m b s=t/\OkD s/\Rem m t a' r (aft m b s)
theorem Ei {m:Int}{a:Ab}{d:Dd}{ss:List Dd}(h:Stp d ss) (hd:OkD d):Rem m (out m a d) (aft m a d) ss a/\ss.length<=2:=by
 rcases h with rfl|⟨b,c,hb,hc,h⟩
 ·exact ⟨⟨rfl,hd,rfl⟩,Nat.le_of_ble_eq_true rfl⟩
 ·rcases h with ⟨rfl,rfl⟩|⟨rfl,rfl⟩|⟨rfl,rfl⟩
  all_goals
   obtain ⟨_,h2⟩:1<=b+c/\b+c<=1000000:=hd
   refine ⟨⟨rfl,⟨hb,by omega⟩,rfl,⟨hc,by omega⟩,?_⟩,Nat.le_of_ble_eq_true rfl⟩
  ·show ({ a with k:=a.k+b+c }:Ab)={ a with k:=a.k+(b+c) }
   rw [Int.add_assoc]
  ·show ({ a with n:=a.n+b+c }:Ab)={ a with n:=a.n+(b+c) }
   rw [Int.add_assoc]
  ·show ({ a with n:=a.n+b+c,i:=a.i+b+c }:Ab)={ a with n:=a.n+(b+c),i:=a.i+(b+c) }
   rw [Int.add_assoc,Int.add_assoc]
theorem Okj.aft {j:Nat}{m:Int}{a:Ab}{d:Dd}(h:Okj j a) (hj:j<=49) (hd:OkD d):Okj (j+wt d) (aft m a d):=by
 unfold My.aft
 split
 ·exact h.next hj hd (by assumption)
 ·exact h.up (Nat.le_add_right ..)
theorem Gi (d:Dd):wt d<=1:=by cases d<;>first|exact Nat.le_refl 1|exact Nat.zero_le 1
theorem Gj (j:Nat):PyData.strOk (nmR j)=true:=by
 rcases j with _|_|_|_|_|j
 iterate 5 decide +kernel
 show PyData.strOk "choice"=true
 decide +kernel
theorem Gk {S:Sto}{Q:T2.T->Sto->Prop}{s:Str}{t:T2.T}(hs:PyData.strOk s=true) (ht:Sd t) (h:Q (.bl false) S):gEq true (.tup [.str s,t]) (.tup [.str s,t]) S Q:=by
 have key:∀ d:PyData,cC t=some d->d.canLay0=true->d.depth<=1->gEq true (.tup [.str s,t]) (.tup [.str s,t]) S Q:=λd e c k=>by
  have cl:(PyData.tuple [.str s,d]).canLay0=true:=by simp only [PyData.canLay0,PyData.canLayAll0,hs,c,Bool.and_self]
  have e2:d3 S (.tup [.str s,t])=some (.tuple [.str s,d]):=by show (bC [.str s,t]).map _=_;rw [jw rfl (jw e rfl)];rfl
  refine ⟨_,_,e2,e2,cl,cl,?_,?_⟩
  ·simp only [PyData.depth,PyData.depthAll];omega
  ·rw [SeqAt.eqv_refl _ cl];exact h
 rcases ht with rfl|⟨z,rfl,hz⟩
 ·exact key _ rfl rfl (by simp [PyData.depth])
 ·exact key _ rfl hz (by simp [PyData.depth])
section
variable {P:Program}{w:World}{K:PySem.W.Frag}{mg:Str->Option Value}{base:Heap}{C L R Y:Addr}{Z:Zs}
def iR:WSp:=λts S Q=>∃ ns:List Int,ts=[.scr ns]/\ns.length<=63/\∀ S',Q (.bl true) S'
theorem tS:FnScope ["_law_script","_law_pool_here","_law_box_here","_law_many","_law_houses","_law_layers","_law_typists","_law_k","_law_deed","_law_first","_law_step","_law_other","_law_one"] ["_law_script"] (ag dR):=by nofun
theorem Ej {f f1 f2 f3 f4 f5 f6 f7 f8 f9 f10 f11:Addr}{fd fd1 fd2 fd3 fd4 fd5 fd6 fd7 fd8 fd9 fd10 fd11:FuncData}(F:Fun K "law" "law" dR f fd) (T:Txt K mg C L R Y Z)
  (G_Wood___init__:FnOk P w K mg base CX0 1 f1 fd1 vv1 (lSp K (mL C))) (M_Wood:Mk K C f1) (B_Wood___init__:aj K fd1 vv1 [])
  (G_Layers___init__:FnOk P w K mg base CX0 3 f2 fd2 i5 (lSp K (rH C L))) (M_Layers:Mk K L f2) (B_Layers___init__:aj K fd2 i5 [])
  (G_Typist___init__:FnOk P w K mg base CX0 3 f3 fd3 i3 (lSp K (rP Y R))) (M_Typist:Mk K Y f3) (B_Typist___init__:aj K fd3 i3 [])
  (G__law_box:FnOk P w K mg base CX0 2 f4 fd4 vv8 (lSp K iE)) (D__law_box:Df K mg "_law_box" f4 fd4 vv8)
  (G__law_take:FnOk P w K mg base CX0 1 f5 fd5 vv3 (lSp K cj)) (D__law_take:Df K mg "_law_take" f5 fd5 vv3)
  (G__law_pool:FnOk P w K mg base CX0 3 f6 fd6 kx (lSp K tD)) (D__law_pool:Df K mg "_law_pool" f6 fd6 kx)
  (G__law_deeds:FnOk P w K mg base CX0 3 f7 fd7 vv6 (lSp K rZ)) (D__law_deeds:Df K mg "_law_deeds" f7 fd7 vv6)
  (G__law_tried:FnOk P w K mg base CX0 10 f8 fd8 vv2 (lSp K (sd ⟨C,L,R,Y⟩))) (D__law_tried:Df K mg "_law_tried" f8 fd8 vv2)
  (G__law_steps:FnOk P w K mg base CX0 2 f9 fd9 kA (lSp K se)) (D__law_steps:Df K mg "_law_steps" f9 fd9 kA)
  (G__law_all:FnOk P w K mg base CX0 8 f10 fd10 iZ (lSp K (tR ⟨C,L,R,Y⟩))) (D__law_all:Df K mg "_law_all" f10 fd10 iZ)
  (G__law_same:FnOk P w K mg base CX0 5 f11 fd11 eQ (lSp K (jQ 4))) (D__law_same:Df K mg "_law_same" f11 fd11 eQ) :
  FnOk P w K mg base CX0 11 f fd ["_law_script"] (lSp K iR):=by
 refine a8 F tS (λts S Q h=>?_) λcdv A outer s H E hr=>?_
 ·obtain ⟨ns,rfl,_⟩:=h;rfl
 have nd:=tS.nd
 refine ⟨_,((ak (aK (i:=1) nd rfl (Or.inl rfl) (az G__law_pool D__law_pool hr.m (by rfl) (ad (aa 0) (ad af (ad af ae (ac rfl)) (ac rfl)) (ac rfl))))
   (ak (aK (i:=2) nd rfl (Or.inl rfl) (az G__law_box D__law_box hr.m (by rfl) (ad (aa 0) (ad af ae (ac rfl)) (ac rfl))))
   (ak (aK (i:=3) nd rfl (Or.inr rfl) (aI (bn false) af (az G__law_take D__law_take hr.m (by rfl) (ad (aa 2) (ad af ae (ac rfl)) (ac rfl)))))
   (ak (aK (i:=4) nd rfl (Or.inl rfl) (bd (ad (jD M_Wood G_Wood___init__ B_Wood___init__ hr.m (by rfl) T.mg_Wood) (ad (jD M_Wood G_Wood___init__ B_Wood___init__ hr.m (by rfl) T.mg_Wood) ae (ac rfl)) (ac rfl))))
   (ak (hE false (i:=5) ["_law_house"] 1 [] rfl nd rfl (Or.inl rfl) (cV rfl (aa 4)) (λ_ _ _ _=>(bi (i:=0) (show List.Nodup (["_law_house"]:List Str) from by decide +kernel) rfl (Or.inl rfl))) (λ_ _ _ _=>cW) (λ_ _ _ _=>(sQ M_Layers G_Layers___init__ B_Layers___init__ hr.m (by rfl) T.mg_Layers (ad (aa 0) ae (ac rfl)))))
   (ak (hE false (i:=6) ["_law_one","_law_many"] 1 [3] rfl nd rfl (Or.inl rfl) (cV rfl (aa 5)) (λ_ _ _ _=>(bi (i:=0) (show List.Nodup (["_law_one","_law_many"]:List Str) from by decide +kernel) rfl (Or.inl rfl))) (λ_ _ _ _=>cW) (λ_ _ _ _=>(sQ M_Typist G_Typist___init__ B_Typist___init__ hr.m (by rfl) T.mg_Typist (ad (aa 0) (ad (aa 1) ae (ac rfl)) (ac rfl)))))
   (ak (iJ PassesOwn.never rfl (p8 (by rfl) T.range af (aI (bn false) af (az G__law_take D__law_take hr.m (by rfl) (ad (aa 2) (ad af ae (ac rfl)) (ac rfl))))) (bi (i:=7) nd rfl (Or.inl rfl))
    (ak (aK (i:=2) nd rfl (Or.inl rfl) (az G__law_box D__law_box hr.m (by rfl) (ad (aa 0) (ad (aa 7) ae (ac rfl)) (ac rfl))))
   (ak (iJ PassesOwn.never rfl (cV rfl (az G__law_deeds D__law_deeds hr.m (by rfl) (ad (aa 2) (ad (aa 1) ae (ac rfl)) (ac rfl)))) (bi (i:=8) nd rfl (Or.inl rfl))
    (ak (aK (i:=9) nd rfl (Or.inl rfl) (az G__law_tried D__law_tried hr.m (by rfl) (ad (aq rfl (aa 4) af (λ_ _=>rfl)) (ad (aq rfl (aa 5) af (λ_ _=>rfl)) (ad (aq rfl (aa 6) af (λ_ _=>rfl)) (ad (aa 8) ae (ac rfl)) (ac rfl)) (ac rfl)) (ac rfl))))
   (ai (iJ PassesOwn.never rfl (cV rfl (az G__law_steps D__law_steps hr.m (by rfl) (ad (aa 2) (ad (aa 8) ae (ac rfl)) (ac rfl)))) (bi (i:=10) nd rfl (Or.inl rfl))
    (ak (aK (i:=11) nd rfl (Or.inl rfl) (az G__law_tried D__law_tried hr.m (by rfl) (ad (aq rfl (aa 4) af (λ_ _=>rfl)) (ad (aq rfl (aa 5) af (λ_ _=>rfl)) (ad (aq rfl (aa 6) af (λ_ _=>rfl)) (ad (aa 10) ae (ac rfl)) (ac rfl)) (ac rfl)) (ac rfl))))
   (ak (aA (aw (vh rfl hr.units) (aa 9) (aa 11) (ay _))
    (ai (ax dZ))
    aB)
   (ai (aA (aw (aG rfl hr.units) (az G__law_take D__law_take hr.m (by rfl) (ad (aa 2) (ad af ae (ac rfl)) (ac rfl))) af (ay _))
    (ai (bH (az G__law_all D__law_all hr.m (by rfl) (ad (aq rfl (aa 4) af (λ_ _=>rfl)) (ad (aq rfl (aa 5) af (λ_ _=>rfl)) (ad (aq rfl (aa 6) af (λ_ _=>rfl)) ae (ac rfl)) (ac rfl)) (ac rfl)))))
    aB))))))))
   (ak (aK (i:=12) nd rfl (Or.inl rfl) (az G__law_all D__law_all hr.m (by rfl) (ad (aq rfl (aa 4) af (λ_ _=>rfl)) (ad (aq rfl (aa 5) af (λ_ _=>rfl)) (ad (aq rfl (aa 6) af (λ_ _=>rfl)) ae (ac rfl)) (ac rfl)) (ac rfl))))
   (ai (aA (bP (bp (az G__law_same D__law_same (hr.mono (by omega)) (by rfl) (ad (az G__law_all D__law_all hr.m (by rfl) (ad (aq rfl (aa 4) af (λ_ _=>rfl)) (ad (aq rfl (aa 5) af (λ_ _=>rfl)) (ad (aq rfl (aa 6) af (λ_ _=>rfl)) ae (ac rfl)) (ac rfl)) (ac rfl))) (ad (aa 12) ae (ac rfl)) (ac rfl)))))
    (ai (ax dZ))
    aB))))))
   (ai (ax dZ)))))))))),λts S Q h=>?_⟩
 obtain ⟨ns,rfl,hns,hq⟩:=h
 ac_nf
 bv_omega
 refine ⟨ns,0,8,rfl,by decide,by decide,by decide,by decide,λws hws hw1 hw2=>?_⟩
 have hpool:g8 ws:=⟨hws.2,hw1,hw2⟩
 bv_omega
 obtain ⟨m,hm⟩:∃ m,m=1+r:=⟨_,rfl⟩
 rw [<- hm]
 have m0:0<=m:=by omega
 have m1:m<=10:=by omega
 have hA:At (put S q o') [(q,o')]:=At.cons ⟨List.nodup_nil,λx hx=>nomatch hx⟩ hq0
 generalize put S q o'=S0 at hA ⊢
 clear hm hr0 hr1 hws hw1 hw2
 intro h0 hh0
 refine ⟨h0,rfl,aJ,λe0 he0=>⟨rfl,?_⟩⟩
 have hA:=hA.wood (o:=woO C e0 0) hh0 he0
 unfold woO at hA
 generalize put (put (put S0 h0 _) e0 _) h0 _=S1 at hA ⊢
 clear hh0 he0
 bv_omega
 intro h1 hh1
 refine ⟨h1,rfl,aJ,λe1 he1=>⟨rfl,?_⟩⟩
 have hA:=hA.wood (o:=woO C e1 0) hh1 he1
 unfold woO at hA
 generalize put (put (put S1 h1 _) e1 _) h1 _=S2 at hA ⊢
 clear hh1 he1
 bv_omega
 refine ⟨trivial,?_⟩
 bv_omega
 intro y0 hy0
 refine ⟨y0,h0,rfl,aJ,λS3 p0 d0 v0 gy gp gv dv np nd1 nv kp=>⟨rfl,by rw [sizeLine_eq];exact Nat.le_of_ble_eq_true rfl,trivial,?_⟩⟩
 have hA:=hA.four hy0 gy gp.ins gp.dct gv np nd1 nv gp.ne (eG gp.ins gv (by simp)) dv kp
 clear hy0 gy gp gv dv np nd1 nv kp
 bv_omega
 intro y1 hy1
 refine ⟨y1,h1,rfl,aJ,λS4 p1 d1 v1 gy gp gv dv np nd1 nv kp=>⟨rfl,by rw [sizeLine_eq];exact Nat.le_of_ble_eq_true rfl,trivial,?_⟩⟩
 have hA:=hA.four hy1 gy gp.ins gp.dct gv np nd1 nv gp.ne (eG gp.ins gv (by simp)) dv kp
 clear hy1 gy gp gv dv np nd1 nv kp
 bv_omega
 refine ⟨trivial,?_⟩
 bv_omega
 intro t0 ht0
 refine ⟨t0,y0,m,rfl,aJ,λS5 q0 g0 c0 gt gq gg gc kp nq ng nc=>⟨rfl,by rw [sizeLine_eq];exact Nat.le_of_ble_eq_true rfl,trivial,?_⟩⟩
 have hA:=hA.four ht0 gt gq gg gc nq ng nc (eG gq gg (by unfold prO;simp)) (eG gq gc (by unfold prO;simp)) (eG gg gc (by simp)) kp
 clear ht0 gt gq gg gc kp nq ng nc
 bv_omega
 intro t1 ht1
 refine ⟨t1,y1,m,rfl,aJ,λS6 q1 g1 c1 gt gq gg gc kp nq ng nc=>⟨rfl,by rw [sizeLine_eq];exact Nat.le_of_ble_eq_true rfl,trivial,?_⟩⟩
 have hA:=hA.four ht1 gt gq gg gc nq ng nc (eG gq gg (by unfold prO;simp)) (eG gq gc (by unfold prO;simp)) (eG gg gc (by simp)) kp
 clear ht1 gt gq gg gc kp nq ng nc
 have hT:Two ⟨C,L,R,Y⟩ S6 q o' ⟨h0,e0,y0,p0,d0,v0,t0,q0,g0,c0⟩ ⟨h1,e1,y1,p1,d1,v1,t1,q1,g1,c1⟩ m ⟨0,0,0,[],[],[],[],"",[]⟩ ⟨0,0,0,[],[],[],[],"",[]⟩ :=
  ⟨hbx,hA.pick [19,18,12,13,14,15,4,5,6,7,17,16,8,9,10,11,0,1,2,3,20] (by decide) rfl⟩
 have hO:Okj 0 ⟨0,0,0,[],[],[],[],"",[]⟩:=⟨⟨by decide,by simp,List.nodup_nil,by simp⟩,⟨by decide,by simp,List.nodup_nil,by simp⟩,by decide,by decide,List.nodup_nil,by decide +kernel,by decide,⟨Nat.le_refl _,by simp⟩⟩
 clear hA
 obtain ⟨A,hAe⟩:∃ A:Ad,A=⟨h0,e0,y0,p0,d0,v0,t0,q0,g0,c0⟩:=⟨_,rfl⟩
 obtain ⟨B,hBe⟩:∃ B:Ad,B=⟨h1,e1,y1,p1,d1,v1,t1,q1,g1,c1⟩:=⟨_,rfl⟩
 rw [<- hAe,<- hBe] at hT
 rw [show h0=A.h by rw [hAe],show h1=B.h by rw [hBe],show y0=A.y by rw [hAe],show y1=B.y by rw [hBe],show t0=A.u by rw [hAe],show t1=B.u by rw [hBe]]
 clear hAe hBe
 have hbox:=hT.get
 bv_omega
 have hT:=hT.put hbx
 generalize put S6 q o'=S7 at hT ⊢
 clear hbox
 refine kI (λj σ' S'=>∃ p o a u7 u8 u9 u10 u11 u12,σ'=[some (.scr ns),some (.lst (ws.map T2.T.str)),some (.ref p),some (.int m),some (.lst [.ref A.h,.ref B.h]),some (.lst [.ref A.y,.ref B.y]),some (.lst [.ref A.u,.ref B.u]),u7,u8,u9,u10,u11,u12]/\Two ⟨C,L,R,Y⟩ S' p o A B m a a/\Okj j a) ⟨_,_,_,_,_,_,_,_,_,rfl,hT,hO⟩ ?_ ?_
 ·clear hT hO
  rintro j σ' S' N hj ⟨p,o,a,u7,u8,u9,u10,u11,u12,rfl,hT,hO⟩ hN
  have hj:j<40:=by omega
  refine ⟨trivial,?_⟩
  bv_omega
  refine ⟨_,_,ws,rfl,aJ,by assumption,hpool,λds o1 hds hb1=>?_⟩
  rw [cc]
  have hT:=hT.new hq0 hb1
  generalize put S' q o1=S8 at hT ⊢
  clear hq0
  bv_omega
  refine rg (λrest σ' S'=>∃ o jj a u8 u9 u10 u11,σ'=[some (.scr ns),some (.lst (ws.map T2.T.str)),some (.ref q),some (.int m),some (.lst [.ref A.h,.ref B.h]),some (.lst [.ref A.y,.ref B.y]),some (.lst [.ref A.u,.ref B.u]),some (.int (9+(j:Int))),u8,u9,u10,u11,u12]/\Two ⟨C,L,R,Y⟩ S' q o A B m a a/\Okj jj a/\jj+(rest.map wt).sum<=j+1/\∀ d∈rest,OkD d) ⟨_,j,a,_,_,_,_,rfl,hT,hO,by have:=hds.wt;omega,hds.ok⟩ ?_ ?_
  ·clear hT hO hds
   rintro d rest σ' S' N1 ⟨o,jj,a,u8,u9,u10,u11,rfl,hT,hO,hw,hok⟩ hN1
   have hd:=hok d List.mem_cons_self
   rw [List.map_cons,List.sum_cons] at hw
   refine ⟨trivial,?_⟩
   bv_omega
   refine ⟨A,m,a,d,rfl,hT.fst,hO.kk (by omega),m0,hd,λS1 u1 so=>?_⟩
   have hT:=hT.up u1
   clear u1
   bv_omega
   refine ⟨q,o,d,rfl,hT.get,hT.bx,hd,λss o2 hst hb2=>?_⟩
   have hT:=hT.put hb2
   generalize put S1 q o2=S2 at hT ⊢
   obtain ⟨hrem,hss⟩:=Ei (m:=m) (a:=a) hst hd
   bv_omega
   refine rg (λrest σ' S'=>∃ o n b u10 u11,σ'=[some (.scr ns),some (.lst (ws.map T2.T.str)),some (.ref q),some (.int m),some (.lst [.ref A.h,.ref B.h]),some (.lst [.ref A.y,.ref B.y]),some (.lst [.ref A.u,.ref B.u]),some (.int (9+(j:Int))),some (dT d),some (out m a d),u10,u11,u12]/\Two ⟨C,L,R,Y⟩ S' q o A B m (aft m a d) b/\Okj n b/\n+rest.length<=46/\Rem m (out m a d) (aft m a d) rest b) ⟨_,jj,a,_,_,rfl,hT,hO,by omega,hrem⟩ ?_ ?_
   ·clear hT hrem
    rintro st r2 σ' S' N2 ⟨o,n,b,u10,u11,rfl,hT,hOb,hn,ho,hs,hrem⟩ hN2
    rw [List.length_cons] at hn
    refine ⟨trivial,?_⟩
    bv_omega
    refine ⟨B,m,b,st,rfl,hT.sw.fst,hOb.kk (by omega),m0,hs,λS3 u3 _=>?_⟩
    have hT:=(hT.sw.up u3).sw
    have hOb:=(hOb.aft (m:=m) (by omega) hs).up (k:=n+1) (by have:=Gi st;omega)
    rw [ho]
    clear u3
    bv_omega
    refine Gk (s:=nmR (rf m a d)) (Gj _) so ?_
    have hbox:=hT.get
    have hbb:=hT.bx
    bv_omega
    have hT:=hT.put hbx
    generalize put S3 q o'=S4 at hT ⊢
    refine ifB (λhb=>?_) λhb=>?_
    ·bv_omega
     refine ⟨B,m,aft m b st,rfl,hT.sw.fst,hOb.kk (by omega),hOb.vn,by have:=hOb.ll;omega,m0,m1,λ_=>?_⟩
     bv_omega
     exact hN2 _ _ ⟨_,_,_,_,_,rfl,hT,hOb,by omega,hrem⟩
    ·bv_omega
     exact hN2 _ _ ⟨_,_,_,_,_,rfl,hT,hOb,by omega,hrem⟩
   ·rintro σ' S' ⟨o,n,b,u10,u11,rfl,hT,hOb,hn,rfl⟩
    refine ⟨trivial,?_⟩
    exact hN1 _ _ ⟨_,jj+wt d,_,_,_,_,_,rfl,hT,hO.aft (by omega) hd,by omega,λx hx=>hok x (List.mem_cons_of_mem _ hx)⟩
  ·clear hT hO
   rintro σ' S' ⟨o,jj,a,u8,u9,u10,u11,rfl,hT,hO,hw,_⟩
   rw [List.map_nil,List.sum_nil] at hw
   have hl:=hO.ll
   refine ⟨trivial,?_⟩
   bv_omega
   refine ⟨A,m,a,rfl,hT.fst,hO.kk (by omega),hO.vn,by omega,m0,m1,λpl=>?_⟩
   bv_omega
   refine ⟨B,m,a,rfl,hT.sw.fst,hO.kk (by omega),hO.vn,by omega,m0,m1,λ_=>?_⟩
   bv_omega
   refine ⟨al m a,rfl,pl,?_⟩
   bv_omega
   exact hN _ _ ⟨_,_,_,_,_,_,_,_,_,rfl,hT,hO.up (by omega)⟩
 rintro σ' S' ⟨p,o,a,u7,u8,u9,u10,u11,u12,rfl,hT,hO⟩
 refine ⟨trivial,?_⟩
 bv_omega
 exact .mk (hq _)
theorem xC {K:PySem.W.Frag}{H:Hp}{a:Addr}{ns:List Int}{E:XK}(h:ns.length<=63) (hO:kf H) (hS:SqL K H a (ns.map V.int)):lSp K iR [.ref a] H (λv _=>v=.bl true) E:=by
 refine ⟨λ_=>none,[.scr ns],λt _=>t=.bl true,?_,.cons (.scr ?_) .nil,⟨ns,rfl,h,λ_=>rfl⟩,?_⟩
 ·intro b o e;cases e
 rotate_left
 ·intro v H' t S' _ _ r e
  subst e;cases r;rfl
 rcases hS with (e|⟨o,e⟩)|e
 ·rcases hO a with z|⟨ob,xs,z⟩
  ·rw [e] at z;cases z
  ·rw [e] at z;cases z
 ·exact .inl ⟨rfl,o,e⟩
 ·exact .inr (.inr e)
end
end My
set_option maxRecDepth 100000
namespace My
open PySem L2 T2
theorem Hu {α:Type}(us:List α) (h:us.length=0):us=[]:=List.length_eq_zero_iff.mp h
theorem bj {α:Type}(us:List α) (h:us.length=1):∃ a0,us=[a0]:=by
 cases us with
 |nil=>cases h
 |cons a l=>cases Hu l (Nat.succ.inj h);exact ⟨a,rfl⟩
theorem aZ {α:Type}(us:List α) (h:us.length=2):∃ a0 a1,us=[a0,a1]:=by
 cases us with
 |nil=>cases h
 |cons a l=>obtain ⟨a1,rfl⟩:=bj l (Nat.succ.inj h);exact ⟨a,a1,rfl⟩
theorem cF {α:Type}(us:List α) (h:us.length=3):∃ a0 a1 a2,us=[a0,a1,a2]:=by
 cases us with
 |nil=>cases h
 |cons a l=>obtain ⟨a1,a2,rfl⟩:=aZ l (Nat.succ.inj h);exact ⟨a,a1,a2,rfl⟩
theorem vC {α:Type}(us:List α) (h:us.length=4):∃ a0 a1 a2 a3,us=[a0,a1,a2,a3]:=by
 cases us with
 |nil=>cases h
 |cons a l=>obtain ⟨a1,a2,a3,rfl⟩:=cF l (Nat.succ.inj h);exact ⟨a,a1,a2,a3,rfl⟩
theorem Ek {l:PySem.W.OpenLaw}{w:World}{K:PySem.W.Frag}{h:Heap}{mg:Str->Option Value}{fa:Addr}(X:K.In h) (G:h.Ns mainGlobals mg) (hfa:mg "law"=some (.ref fa)) (hF:Fx K) :
  ∃ fd:FuncData,(∀ (s:Shared) (v:Value),BindsTo s fd ⟨[v],[]⟩ [("_law_script",v)])/\∀ base:Heap,K.In base->base.Ns mainGlobals mg->FnOk l.prog w K mg base CX0 11 fa fd ["_law_script"] (lSp K iR):=by
 refine hF _ ?_
 intro fr fb f1 f2 f3 f4 f5 frk fig ftk fwo fca fbx fta fwd fpo fco fti fsa ftx fke fde fcl ftr fst fal flw fwi fwm fwq fwu fwz fwf fwh fwb fwv fyi fyq fyz fyh fys fya fye fyu fyf fyo fyd fpi fpc fpf fpw fui fuk fub fuc fud ful fuh fut fuz fuf C_Wood C_Layers C_Pairs C_Typist C_NoWord C_Twice C_Absent C_NoSign C_NoChoice odr anr odb anb od1 an1 od2 an2 od3 an3 od4 an4 od5 an5 odrk anrk odig anig odtk antk odwo anwo odca anca odbx anbx odta anta odwd anwd odpo anpo odco anco odti anti odsa ansa odtx antx odke anke odde ande odcl ancl odtr antr odst anst odal anal odlw anlw odwi anwi odwm anwm odwq anwq odwu anwu odwz anwz odwf anwf odwh anwh odwb anwb odwv anwv odyi anyi odyq anyq odyz anyz odyh anyh odys anys odya anya odye anye odyu anyu odyf anyf odyo anyo odyd anyd odpi anpi odpc anpc odpf anpf odpw anpw odui anui oduk anuk odub anub oduc anuc odud anud odul anul oduh anuh odut anut oduz anuz oduf anuf oddwu oddwf oddyu oddyf oddpf odduf slr slb sl1 sl2 sl3 sl4 sl5 slrk slig sltk slwo slca slbx slta slwd slpo slco slti slsa sltx slke slde slcl sltr slst slal sllw slwi slwm slwq slwu slwz slwf slwh slwb slwv slyi slyq slyz slyh slys slya slye slyu slyf slyo slyd slpi slpc slpf slpw slui sluk slub sluc slud slul sluh slut sluz sluf sldwu sldwf sldyu sldyf sldpf slduf ocr kVr dcr pmr cdr ctr ocb kVb dcb pmb cdb ctb oc1 kV1 dc1 pm1 cd1 ct1 oc2 kV2 dc2 pm2 cd2 ct2 oc3 kV3 dc3 pm3 cd3 ct3 oc4 kV4 dc4 pm4 cd4 ct4 oc5 kV5 dc5 pm5 cd5 ct5 ocrk kVrk dcrk pmrk cdrk ctrk ocig kVig dcig pmig cdig ctig octk kVtk dctk pmtk cdtk cttk ocwo kVwo dcwo pmwo cdwo ctwo occa kVca dcca pmca cdca ctca ocbx kVbx dcbx pmbx cdbx ctbx octa kVta dcta pmta cdta ctta ocwd kVwd dcwd pmwd cdwd ctwd ocpo kVpo dcpo pmpo cdpo ctpo occo kVco dcco pmco cdco ctco octi kVti dcti pmti cdti ctti ocsa kVsa dcsa pmsa cdsa ctsa octx kVtx dctx pmtx cdtx cttx ocke kVke dcke pmke cdke ctke ocde kVde dcde pmde cdde ctde occl kVcl dccl pmcl cdcl ctcl octr kVtr dctr pmtr cdtr cttr ocst kVst dcst pmst cdst ctst ocal kVal dcal pmal cdal ctal oclw kVlw dclw pmlw cdlw ctlw ocwi kVwi dcwi pmwi cdwi ctwi ocwm kVwm dcwm pmwm cdwm ctwm ocwq kVwq dcwq pmwq cdwq ctwq ocwu kVwu dcwu pmwu cdwu ctwu ocwz kVwz dcwz pmwz cdwz ctwz ocwf kVwf dcwf pmwf cdwf ctwf ocwh kVwh dcwh pmwh cdwh ctwh ocwb kVwb dcwb pmwb cdwb ctwb ocwv kVwv dcwv pmwv cdwv ctwv ocyi kVyi dcyi pmyi cdyi ctyi ocyq kVyq dcyq pmyq cdyq ctyq ocyz kVyz dcyz pmyz cdyz ctyz ocyh kVyh dcyh pmyh cdyh ctyh ocys kVys dcys pmys cdys ctys ocya kVya dcya pmya cdya ctya ocye kVye dcye pmye cdye ctye ocyu kVyu dcyu pmyu cdyu ctyu ocyf kVyf dcyf pmyf cdyf ctyf ocyo kVyo dcyo pmyo cdyo ctyo ocyd kVyd dcyd pmyd cdyd ctyd ocpi kVpi dcpi pmpi cdpi ctpi ocpc kVpc dcpc pmpc cdpc ctpc ocpf kVpf dcpf pmpf cdpf ctpf ocpw kVpw dcpw pmpw cdpw ctpw ocui kVui dcui pmui cdui ctui ocuk kVuk dcuk pmuk cduk ctuk ocub kVub dcub pmub cdub ctub ocuc kVuc dcuc pmuc cduc ctuc ocud kVud dcud pmud cdud ctud ocul kVul dcul pmul cdul ctul ocuh kVuh dcuh pmuh cduh ctuh ocut kVut
 intro dcut pmut cdut ctut ocuz kVuz dcuz pmuz cduz ctuz ocuf kVuf dcuf pmuf cduf ctuf ocdwu ocdwf ocdyu ocdyf ocdpf ocduf tk_MOST_SIGNS tk_MOST_PARTS tk_MOST_LETTERS dTwu tkdwu ndwu dTwf tkdwf ndwf dTyu tkdyu ndyu dTyf tkdyf ndyf dTpf tkdpf ndpf dTuf tkduf nduf aC_Wood awi iwi lwi cwi kwi awm iwm lwm cwm kwm awq iwq lwq cwq kwq awu iwu lwu cwu kwu ldwu awz iwz lwz cwz kwz awf iwf lwf cwf kwf ldwf awh iwh lwh cwh kwh awb iwb lwb cwb kwb awv iwv lwv cwv kwv pg_Wood hd_Wood po_Wood sa_Wood mk_Wood kc_Wood n_Wood_marks n_Wood_now aC_Layers ayi iyi lyi cyi kyi ayq iyq lyq cyq kyq ayz iyz lyz cyz kyz ayh iyh lyh cyh kyh ays iys lys cys kys aya iya lya cya kya aye iye lye cye kye ayu iyu lyu cyu kyu ldyu ayf iyf lyf cyf kyf ldyf ayo iyo lyo cyo kyo ayd iyd lyd cyd kyd pg_Layers hd_Layers po_Layers sa_Layers mk_Layers kc_Layers n_Layers_house n_Layers_own n_Layers_veiled aC_Pairs api ipi lpi cpi kpi apc ipc lpc cpc kpc apf ipf lpf cpf kpf ldpf apw ipw lpw cpw kpw pg_Pairs hd_Pairs po_Pairs sa_Pairs mk_Pairs kc_Pairs n_Pairs_marks n_Pairs_now aC_Typist aui iui lui cui kui auk iuk luk cuk kuk aub iub lub cub kub auc iuc luc cuc kuc aud iud lud cud kud aul iul lul cul kul auh iuh luh cuh kuh aut iut lut cut kut auz iuz luz cuz kuz auf iuf luf cuf kuf lduf pg_Typist hd_Typist po_Typist sa_Typist mk_Typist kc_Typist n_Typist_layers n_Typist_many n_Typist_pairs n_Typist_text n_Typist_chosen aC_NoWord aC_Twice aC_Absent aC_NoSign aC_NoChoice ar lr cr kr ab lb cb kb a1 l1 c1 k1 a2 l2 c2 k2 a3 l3 c3 k3 a4 l4 c4 k4 a5 l5 c5 k5 ark lrk crk krk aig lig cig kig atk ltk ctk ktk awo lwo cwo kwo aca lca cca kca abx lbx cbx kbx ata lta cta kta awd lwd cwd kwd apo lpo cpo kpo aco lco cco kco ati lti cti kti asa lsa csa ksa atx ltx ctx ktx ake lke cke kke ade lde cde kde acl lcl ccl kcl atr ltr ctr ktr ast lst cst kst aal lal cal kal alw llw clw klw z_len z_range z_all z_max z_min z_sorted z_isinstance z_bool z_int z_str z_list z_tuple t_ss t_ii t_ib t_tt t_ll t_lt t_st t_it t_sl t_il t_bb t_is t_nt t_nl t_bt t_bl t_bs q_MOST_SIGNS q_MOST_PARTS q_MOST_LETTERS oxNoWord okNoWord oxTwice okTwice oxAbsent okAbsent oxNoSign okNoSign oxNoChoice okNoChoice oeNoWordNoWord oeNoWordTwice oeNoWordAbsent oeNoWordNoSign oeNoWordNoChoice oeTwiceNoWord oeTwiceTwice oeTwiceAbsent oeTwiceNoSign oeTwiceNoChoice oeAbsentNoWord oeAbsentTwice oeAbsentAbsent oeAbsentNoSign oeAbsentNoChoice oeNoSignNoWord oeNoSignTwice oeNoSignAbsent oeNoSignNoSign oeNoSignNoChoice oeNoChoiceNoWord oeNoChoiceTwice oeNoChoiceAbsent oeNoChoiceNoSign oeNoChoiceNoChoice
 have e:=hfa.symm.trans (PySem.W.mg_of X G alw)
 cases e
 have T:Txt K mg C_Wood C_Layers C_Pairs C_Typist ⟨C_NoWord,C_Twice,C_Absent,C_NoSign,C_NoChoice⟩:=⟨PySem.W.mg_none_of X G z_len,PySem.W.mg_none_of X G z_range,PySem.W.mg_none_of X G z_all,PySem.W.mg_none_of X G z_max,PySem.W.mg_none_of X G z_min,PySem.W.mg_none_of X G z_sorted,PySem.W.mg_none_of X G z_isinstance,PySem.W.mg_none_of X G z_bool,PySem.W.mg_none_of X G z_int,PySem.W.mg_none_of X G z_str,PySem.W.mg_none_of X G z_list,PySem.W.mg_none_of X G z_tuple,t_ss,t_ii,t_ib,t_tt,t_ll,t_lt,t_st,t_it,t_sl,t_il,t_bb,t_is,t_nt,t_nl,t_bt,t_bl,t_bs,⟨_,PySem.W.mg_of X G q_MOST_SIGNS⟩,⟨_,PySem.W.mg_of X G q_MOST_PARTS⟩,⟨_,PySem.W.mg_of X G q_MOST_LETTERS⟩,PySem.W.mg_of X G aC_Wood,⟨pg_Wood,hd_Wood,po_Wood,sa_Wood⟩,n_Wood_marks,n_Wood_now,PySem.W.mg_of X G aC_Layers,⟨pg_Layers,hd_Layers,po_Layers,sa_Layers⟩,n_Layers_house,n_Layers_own,n_Layers_veiled,PySem.W.mg_of X G aC_Pairs,⟨pg_Pairs,hd_Pairs,po_Pairs,sa_Pairs⟩,n_Pairs_marks,n_Pairs_now,PySem.W.mg_of X G aC_Typist,⟨pg_Typist,hd_Typist,po_Typist,sa_Typist⟩,n_Typist_layers,n_Typist_many,n_Typist_pairs,n_Typist_text,n_Typist_chosen,PySem.W.mg_of X G aC_NoWord,PySem.W.mg_of X G aC_Twice,PySem.W.mg_of X G aC_Absent,PySem.W.mg_of X G aC_NoSign,PySem.W.mg_of X G aC_NoChoice,oxNoWord,okNoWord,oxTwice,okTwice,oxAbsent,okAbsent,oxNoSign,okNoSign,oxNoChoice,okNoChoice,oeNoWordNoWord,oeNoWordTwice,oeNoWordAbsent,oeNoWordNoSign,oeNoWordNoChoice,oeTwiceNoWord,oeTwiceTwice,oeTwiceAbsent,oeTwiceNoSign,oeTwiceNoChoice,oeAbsentNoWord,oeAbsentTwice,oeAbsentAbsent,oeAbsentNoSign,oeAbsentNoChoice,oeNoSignNoWord,oeNoSignTwice,oeNoSignAbsent,oeNoSignNoSign,oeNoSignNoChoice,oeNoChoiceNoWord,oeNoChoiceTwice,oeNoChoiceAbsent,oeNoChoiceNoSign,oeNoChoiceNoChoice⟩
 have Fwi:FunD K "__init__" "Wood.__init__" dL fwi _:=⟨⟨_,_,_,_,_,_,_,_,_,_,rfl,lwi,cwi⟩⟩
 have Bwi:aj K (PySem.W.fnOf "__init__" "Wood.__init__" (ao dL) (am dL) (ag dL) .none kVwi dcwi pmwi anwi cdwi ctwi) ["self"] []:=.all λus hl=>by obtain ⟨a0,rfl⟩:=bj us hl;rfl
 have Mwi:Meth K C_Wood "__init__" fwi:=⟨awi,iwi,kwi⟩
 have Mk_Wood:Mk K C_Wood fwi:=⟨mk_Wood,awi,iwi,kc_Wood⟩
 have Fwm:FunD K "mark_of" "Wood.mark_of" cH fwm _:=⟨⟨_,_,_,_,_,_,_,_,_,_,rfl,lwm,cwm⟩⟩
 have Bwm:aj K (PySem.W.fnOf "mark_of" "Wood.mark_of" (ao cH) (am cH) (ag cH) .none kVwm dcwm pmwm anwm cdwm ctwm) ["self","word"] []:=.all λus hl=>by obtain ⟨a0,a1,rfl⟩:=aZ us hl;rfl
 have Mwm:Meth K C_Wood "mark_of" fwm:=⟨awm,iwm,kwm⟩
 have Fwq:FunD K "put" "Wood.put" cS fwq _:=⟨⟨_,_,_,_,_,_,_,_,_,_,rfl,lwq,cwq⟩⟩
 have Bwq:aj K (PySem.W.fnOf "put" "Wood.put" (ao cS) (am cS) (ag cS) .none kVwq dcwq pmwq anwq cdwq ctwq) ["self","word","count"] []:=.all λus hl=>by obtain ⟨a0,a1,a2,rfl⟩:=cF us hl;rfl
 have Mwq:Meth K C_Wood "put" fwq:=⟨awq,iwq,kwq⟩
 have Fwu:FunD K "use" "Wood.use" cT fwu _:=⟨⟨_,_,_,_,_,_,_,_,_,_,rfl,lwu,cwu⟩⟩
 have Bwu:aj K (PySem.W.fnOf "use" "Wood.use" (ao cT) (am cT) (ag cT) (.ref dTwu) kVwu dcwu pmwu anwu cdwu ctwu) ["self","word","times"] []:=λs us X hl=>by rw [List.append_nil] at hl;obtain ⟨a0,a1,a2,rfl⟩:=cF us hl;exact BindsTo.of_defaults rfl (X _ _ ldwu) rfl rfl rfl
 have Mwu:Meth K C_Wood "use" fwu:=⟨awu,iwu,kwu⟩
 have Fwz:FunD K "strike" "Wood.strike" cK fwz _:=⟨⟨_,_,_,_,_,_,_,_,_,_,rfl,lwz,cwz⟩⟩
 have Bwz:aj K (PySem.W.fnOf "strike" "Wood.strike" (ao cK) (am cK) (ag cK) .none kVwz dcwz pmwz anwz cdwz ctwz) ["self","word"] []:=.all λus hl=>by obtain ⟨a0,a1,rfl⟩:=aZ us hl;rfl
 have Mwz:Meth K C_Wood "strike" fwz:=⟨awz,iwz,kwz⟩
 have Fwf:FunD K "fade" "Wood.fade" dM fwf _:=⟨⟨_,_,_,_,_,_,_,_,_,_,rfl,lwf,cwf⟩⟩
 have Bwf:aj K (PySem.W.fnOf "fade" "Wood.fade" (ao dM) (am dM) (ag dM) (.ref dTwf) kVwf dcwf pmwf anwf cdwf ctwf) ["self","times"] []:=λs us X hl=>by rw [List.append_nil] at hl;obtain ⟨a0,a1,rfl⟩:=aZ us hl;exact BindsTo.of_defaults rfl (X _ _ ldwf) rfl rfl rfl
 have Mwf:Meth K C_Wood "fade" fwf:=⟨awf,iwf,kwf⟩
 have Fwh:FunD K "has" "Wood.has" dN fwh _:=⟨⟨_,_,_,_,_,_,_,_,_,_,rfl,lwh,cwh⟩⟩
 have Bwh:aj K (PySem.W.fnOf "has" "Wood.has" (ao dN) (am dN) (ag dN) .none kVwh dcwh pmwh anwh cdwh ctwh) ["self","word"] []:=.all λus hl=>by obtain ⟨a0,a1,rfl⟩:=aZ us hl;rfl
 have Mwh:Meth K C_Wood "has" fwh:=⟨awh,iwh,kwh⟩
 have Fwb:FunD K "begun" "Wood.begun" dI fwb _:=⟨⟨_,_,_,_,_,_,_,_,_,_,rfl,lwb,cwb⟩⟩
 have Bwb:aj K (PySem.W.fnOf "begun" "Wood.begun" (ao dI) (am dI) (ag dI) .none kVwb dcwb pmwb anwb cdwb ctwb) ["self","beginning"] []:=.all λus hl=>by obtain ⟨a0,a1,rfl⟩:=aZ us hl;rfl
 have Mwb:Meth K C_Wood "begun" fwb:=⟨awb,iwb,kwb⟩
 have Fwv:FunD K "words" "Wood.words" dJ fwv _:=⟨⟨_,_,_,_,_,_,_,_,_,_,rfl,lwv,cwv⟩⟩
 have Bwv:aj K (PySem.W.fnOf "words" "Wood.words" (ao dJ) (am dJ) (ag dJ) .none kVwv dcwv pmwv anwv cdwv ctwv) ["self"] []:=.all λus hl=>by obtain ⟨a0,rfl⟩:=bj us hl;rfl
 have Mwv:Meth K C_Wood "words" fwv:=⟨awv,iwv,kwv⟩
 have Fyi:FunD K "__init__" "Layers.__init__" dE fyi _:=⟨⟨_,_,_,_,_,_,_,_,_,_,rfl,lyi,cyi⟩⟩
 have Byi:aj K (PySem.W.fnOf "__init__" "Layers.__init__" (ao dE) (am dE) (ag dE) .none kVyi dcyi pmyi anyi cdyi ctyi) ["self","house"] []:=.all λus hl=>by obtain ⟨a0,a1,rfl⟩:=aZ us hl;rfl
 have Myi:Meth K C_Layers "__init__" fyi:=⟨ayi,iyi,kyi⟩
 have Mk_Layers:Mk K C_Layers fyi:=⟨mk_Layers,ayi,iyi,kc_Layers⟩
 have Fyq:FunD K "put" "Layers.put" cP fyq _:=⟨⟨_,_,_,_,_,_,_,_,_,_,rfl,lyq,cyq⟩⟩
 have Byq:aj K (PySem.W.fnOf "put" "Layers.put" (ao cP) (am cP) (ag cP) .none kVyq dcyq pmyq anyq cdyq ctyq) ["self","word","count"] []:=.all λus hl=>by obtain ⟨a0,a1,a2,rfl⟩:=cF us hl;rfl
 have Myq:Meth K C_Layers "put" fyq:=⟨ayq,iyq,kyq⟩
 have Fyz:FunD K "strike" "Layers.strike" cG fyz _:=⟨⟨_,_,_,_,_,_,_,_,_,_,rfl,lyz,cyz⟩⟩
 have Byz:aj K (PySem.W.fnOf "strike" "Layers.strike" (ao cG) (am cG) (ag cG) .none kVyz dcyz pmyz anyz cdyz ctyz) ["self","word"] []:=.all λus hl=>by obtain ⟨a0,a1,rfl⟩:=aZ us hl;rfl
 have Myz:Meth K C_Layers "strike" fyz:=⟨ayz,iyz,kyz⟩
 have Fyh:FunD K "hide" "Layers.hide" cM fyh _:=⟨⟨_,_,_,_,_,_,_,_,_,_,rfl,lyh,cyh⟩⟩
 have Byh:aj K (PySem.W.fnOf "hide" "Layers.hide" (ao cM) (am cM) (ag cM) .none kVyh dcyh pmyh anyh cdyh ctyh) ["self","word"] []:=.all λus hl=>by obtain ⟨a0,a1,rfl⟩:=aZ us hl;rfl
 have Myh:Meth K C_Layers "hide" fyh:=⟨ayh,iyh,kyh⟩
 have Fys:FunD K "show" "Layers.show" cN fys _:=⟨⟨_,_,_,_,_,_,_,_,_,_,rfl,lys,cys⟩⟩
 have Bys:aj K (PySem.W.fnOf "show" "Layers.show" (ao cN) (am cN) (ag cN) .none kVys dcys pmys anys cdys ctys) ["self","word"] []:=.all λus hl=>by obtain ⟨a0,a1,rfl⟩:=aZ us hl;rfl
 have Mys:Meth K C_Layers "show" fys:=⟨ays,iys,kys⟩
 have Fya:FunD K "all_told" "Layers.all_told" dk fya _:=⟨⟨_,_,_,_,_,_,_,_,_,_,rfl,lya,cya⟩⟩
 have Bya:aj K (PySem.W.fnOf "all_told" "Layers.all_told" (ao dk) (am dk) (ag dk) .none kVya dcya pmya anya cdya ctya) ["self","beginning"] []:=.all λus hl=>by obtain ⟨a0,a1,rfl⟩:=aZ us hl;rfl
 have Mya:Meth K C_Layers "all_told" fya:=⟨aya,iya,kya⟩
 have Fye:FunD K "is_seen_of_house" "Layers.is_seen_of_house" dh fye _:=⟨⟨_,_,_,_,_,_,_,_,_,_,rfl,lye,cye⟩⟩
 have Bye:aj K (PySem.W.fnOf "is_seen_of_house" "Layers.is_seen_of_house" (ao dh) (am dh) (ag dh) .none kVye dcye pmye anye cdye ctye) ["self","word"] []:=.all λus hl=>by obtain ⟨a0,a1,rfl⟩:=aZ us hl;rfl
 have Mye:Meth K C_Layers "is_seen_of_house" fye:=⟨aye,iye,kye⟩
 have Fyu:FunD K "use" "Layers.use" b9 fyu _:=⟨⟨_,_,_,_,_,_,_,_,_,_,rfl,lyu,cyu⟩⟩
 have Byu:aj K (PySem.W.fnOf "use" "Layers.use" (ao b9) (am b9) (ag b9) (.ref dTyu) kVyu dcyu pmyu anyu cdyu ctyu) ["self","word","times"] []:=λs us X hl=>by rw [List.append_nil] at hl;obtain ⟨a0,a1,a2,rfl⟩:=cF us hl;exact BindsTo.of_defaults rfl (X _ _ ldyu) rfl rfl rfl
 have B0yu:aj K (PySem.W.fnOf "use" "Layers.use" (ao b9) (am b9) (ag b9) (.ref dTyu) kVyu dcyu pmyu anyu cdyu ctyu) ["self","word","times"] [.int 1 tkdyu]:=λs us X hl=>by have hl1:us.length=2:=(by simpa using hl);obtain ⟨a0,a1,rfl⟩:=aZ us hl1;exact BindsTo.of_defaults rfl (X _ _ ldyu) rfl rfl rfl
 have Myu:Meth K C_Layers "use" fyu:=⟨ayu,iyu,kyu⟩
 have Fyf:FunD K "fade" "Layers.fade" dF fyf _:=⟨⟨_,_,_,_,_,_,_,_,_,_,rfl,lyf,cyf⟩⟩
 have Byf:aj K (PySem.W.fnOf "fade" "Layers.fade" (ao dF) (am dF) (ag dF) (.ref dTyf) kVyf dcyf pmyf anyf cdyf ctyf) ["self","times"] []:=λs us X hl=>by rw [List.append_nil] at hl;obtain ⟨a0,a1,rfl⟩:=aZ us hl;exact BindsTo.of_defaults rfl (X _ _ ldyf) rfl rfl rfl
 have Myf:Meth K C_Layers "fade" fyf:=⟨ayf,iyf,kyf⟩
 have Fyo:FunD K "own_words" "Layers.own_words" dj fyo _:=⟨⟨_,_,_,_,_,_,_,_,_,_,rfl,lyo,cyo⟩⟩
 have Byo:aj K (PySem.W.fnOf "own_words" "Layers.own_words" (ao dj) (am dj) (ag dj) .none kVyo dcyo pmyo anyo cdyo ctyo) ["self"] []:=.all λus hl=>by obtain ⟨a0,rfl⟩:=bj us hl;rfl
 have Myo:Meth K C_Layers "own_words" fyo:=⟨ayo,iyo,kyo⟩
 have Fyd:FunD K "hidden" "Layers.hidden" dn fyd _:=⟨⟨_,_,_,_,_,_,_,_,_,_,rfl,lyd,cyd⟩⟩
 have Byd:aj K (PySem.W.fnOf "hidden" "Layers.hidden" (ao dn) (am dn) (ag dn) .none kVyd dcyd pmyd anyd cdyd ctyd) ["self"] []:=.all λus hl=>by obtain ⟨a0,rfl⟩:=bj us hl;rfl
 have Myd:Meth K C_Layers "hidden" fyd:=⟨ayd,iyd,kyd⟩
 have Fpi:FunD K "__init__" "Pairs.__init__" dG fpi _:=⟨⟨_,_,_,_,_,_,_,_,_,_,rfl,lpi,cpi⟩⟩
 have Bpi:aj K (PySem.W.fnOf "__init__" "Pairs.__init__" (ao dG) (am dG) (ag dG) .none kVpi dcpi pmpi anpi cdpi ctpi) ["self"] []:=.all λus hl=>by obtain ⟨a0,rfl⟩:=bj us hl;rfl
 have Mpi:Meth K C_Pairs "__init__" fpi:=⟨api,ipi,kpi⟩
 have Mk_Pairs:Mk K C_Pairs fpi:=⟨mk_Pairs,api,ipi,kc_Pairs⟩
 have Fpc:FunD K "choose" "Pairs.choose" dq fpc _:=⟨⟨_,_,_,_,_,_,_,_,_,_,rfl,lpc,cpc⟩⟩
 have Bpc:aj K (PySem.W.fnOf "choose" "Pairs.choose" (ao dq) (am dq) (ag dq) .none kVpc dcpc pmpc anpc cdpc ctpc) ["self","before","word"] []:=.all λus hl=>by obtain ⟨a0,a1,a2,rfl⟩:=cF us hl;rfl
 have Mpc:Meth K C_Pairs "choose" fpc:=⟨apc,ipc,kpc⟩
 have Fpf:FunD K "fade" "Pairs.fade" dH fpf _:=⟨⟨_,_,_,_,_,_,_,_,_,_,rfl,lpf,cpf⟩⟩
 have Bpf:aj K (PySem.W.fnOf "fade" "Pairs.fade" (ao dH) (am dH) (ag dH) (.ref dTpf) kVpf dcpf pmpf anpf cdpf ctpf) ["self","times"] []:=λs us X hl=>by rw [List.append_nil] at hl;obtain ⟨a0,a1,rfl⟩:=aZ us hl;exact BindsTo.of_defaults rfl (X _ _ ldpf) rfl rfl rfl
 have Mpf:Meth K C_Pairs "fade" fpf:=⟨apf,ipf,kpf⟩
 have Fpw:FunD K "worth_of" "Pairs.worth_of" dm fpw _:=⟨⟨_,_,_,_,_,_,_,_,_,_,rfl,lpw,cpw⟩⟩
 have Bpw:aj K (PySem.W.fnOf "worth_of" "Pairs.worth_of" (ao dm) (am dm) (ag dm) .none kVpw dcpw pmpw anpw cdpw ctpw) ["self","before","word"] []:=.all λus hl=>by obtain ⟨a0,a1,a2,rfl⟩:=cF us hl;rfl
 have Mpw:Meth K C_Pairs "worth_of" fpw:=⟨apw,ipw,kpw⟩
 have Fui:FunD K "__init__" "Typist.__init__" dA fui _:=⟨⟨_,_,_,_,_,_,_,_,_,_,rfl,lui,cui⟩⟩
 have Bui:aj K (PySem.W.fnOf "__init__" "Typist.__init__" (ao dA) (am dA) (ag dA) .none kVui dcui pmui anui cdui ctui) ["self","layers","many"] []:=.all λus hl=>by obtain ⟨a0,a1,a2,rfl⟩:=cF us hl;rfl
 have Mui:Meth K C_Typist "__init__" fui:=⟨aui,iui,kui⟩
 have Mk_Typist:Mk K C_Typist fui:=⟨mk_Typist,aui,iui,kc_Typist⟩
 have Fuk:FunD K "key" "Typist.key" cO fuk _:=⟨⟨_,_,_,_,_,_,_,_,_,_,rfl,luk,cuk⟩⟩
 have Buk:aj K (PySem.W.fnOf "key" "Typist.key" (ao cO) (am cO) (ag cO) .none kVuk dcuk pmuk anuk cduk ctuk) ["self","sign"] []:=.all λus hl=>by obtain ⟨a0,a1,rfl⟩:=aZ us hl;rfl
 have Muk:Meth K C_Typist "key" fuk:=⟨auk,iuk,kuk⟩
 have Fub:FunD K "back" "Typist.back" cI fub _:=⟨⟨_,_,_,_,_,_,_,_,_,_,rfl,lub,cub⟩⟩
 have Bub:aj K (PySem.W.fnOf "back" "Typist.back" (ao cI) (am cI) (ag cI) .none kVub dcub pmub anub cdub ctub) ["self"] []:=.all λus hl=>by obtain ⟨a0,rfl⟩:=bj us hl;rfl
 have Mub:Meth K C_Typist "back" fub:=⟨aub,iub,kub⟩
 have Fuc:FunD K "clear" "Typist.clear" du fuc _:=⟨⟨_,_,_,_,_,_,_,_,_,_,rfl,luc,cuc⟩⟩
 have Buc:aj K (PySem.W.fnOf "clear" "Typist.clear" (ao du) (am du) (ag du) .none kVuc dcuc pmuc anuc cduc ctuc) ["self"] []:=.all λus hl=>by obtain ⟨a0,rfl⟩:=bj us hl;rfl
 have Muc:Meth K C_Typist "clear" fuc:=⟨auc,iuc,kuc⟩
 have Fud:FunD K "typed" "Typist.typed" dw fud _:=⟨⟨_,_,_,_,_,_,_,_,_,_,rfl,lud,cud⟩⟩
 have Bud:aj K (PySem.W.fnOf "typed" "Typist.typed" (ao dw) (am dw) (ag dw) .none kVud dcud pmud anud cdud ctud) ["self"] []:=.all λus hl=>by obtain ⟨a0,rfl⟩:=bj us hl;rfl
 have Mud:Meth K C_Typist "typed" fud:=⟨aud,iud,kud⟩
 have Ful:FunD K "line" "Typist.line" dB ful _:=⟨⟨_,_,_,_,_,_,_,_,_,_,rfl,lul,cul⟩⟩
 have Bul:aj K (PySem.W.fnOf "line" "Typist.line" (ao dB) (am dB) (ag dB) .none kVul dcul pmul anul cdul ctul) ["self"] []:=.all λus hl=>by obtain ⟨a0,rfl⟩:=bj us hl;rfl
 have Mul:Meth K C_Typist "line" ful:=⟨aul,iul,kul⟩
 have Fuh:FunD K "last_chosen" "Typist.last_chosen" di fuh _:=⟨⟨_,_,_,_,_,_,_,_,_,_,rfl,luh,cuh⟩⟩
 have Buh:aj K (PySem.W.fnOf "last_chosen" "Typist.last_chosen" (ao di) (am di) (ag di) .none kVuh dcuh pmuh anuh cduh ctuh) ["self"] []:=.all λus hl=>by obtain ⟨a0,rfl⟩:=bj us hl;rfl
 have Muh:Meth K C_Typist "last_chosen" fuh:=⟨auh,iuh,kuh⟩
 have Fut:FunD K "told" "Typist.told" dC fut _:=⟨⟨_,_,_,_,_,_,_,_,_,_,rfl,lut,cut⟩⟩
 have But:aj K (PySem.W.fnOf "told" "Typist.told" (ao dC) (am dC) (ag dC) .none kVut dcut pmut anut cdut ctut) ["self"] []:=.all λus hl=>by obtain ⟨a0,rfl⟩:=bj us hl;rfl
 have Mut:Meth K C_Typist "told" fut:=⟨aut,iut,kut⟩
 have Fuz:FunD K "take" "Typist.take" cJ fuz _:=⟨⟨_,_,_,_,_,_,_,_,_,_,rfl,luz,cuz⟩⟩
 have Buz:aj K (PySem.W.fnOf "take" "Typist.take" (ao cJ) (am cJ) (ag cJ) .none kVuz dcuz pmuz anuz cduz ctuz) ["self","number"] []:=.all λus hl=>by obtain ⟨a0,a1,rfl⟩:=aZ us hl;rfl
 have Muz:Meth K C_Typist "take" fuz:=⟨auz,iuz,kuz⟩
 have Fuf:FunD K "fade" "Typist.fade" dD fuf _:=⟨⟨_,_,_,_,_,_,_,_,_,_,rfl,luf,cuf⟩⟩
 have Buf:aj K (PySem.W.fnOf "fade" "Typist.fade" (ao dD) (am dD) (ag dD) (.ref dTuf) kVuf dcuf pmuf anuf cduf ctuf) ["self","times"] []:=λs us X hl=>by rw [List.append_nil] at hl;obtain ⟨a0,a1,rfl⟩:=aZ us hl;exact BindsTo.of_defaults rfl (X _ _ lduf) rfl rfl rfl
 have Muf:Meth K C_Typist "fade" fuf:=⟨auf,iuf,kuf⟩
 have Fr:=a7 (st:=fS) lr cr kr
 have Dr:Df K mg "rank_key" fr _ ["pair"]:=⟨PySem.W.mg_of X G ar,kr,Fr.binds (ps:=["pair"]) λ_ _ _ _ _ _ us hl=>by obtain ⟨a0,rfl⟩:=bj us hl;rfl⟩
 have Fb:=a7 (st:=gj) lb cb kb
 have Db:Df K mg "best_of" fb _ ["rated","many"]:=⟨PySem.W.mg_of X G ab,kb,Fb.binds (ps:=["rated","many"]) λ_ _ _ _ _ _ us hl=>by obtain ⟨a0,a1,rfl⟩:=aZ us hl;rfl⟩
 have F1:=a7 (st:=fL) l1 c1 k1
 have D1:Df K mg "is_letter" f1 _ ["sign"]:=⟨PySem.W.mg_of X G a1,k1,F1.binds (ps:=["sign"]) λ_ _ _ _ _ _ us hl=>by obtain ⟨a0,rfl⟩:=bj us hl;rfl⟩
 have F2:=a7 (st:=gk) l2 c2 k2
 have D2:Df K mg "is_part" f2 _ ["text"]:=⟨PySem.W.mg_of X G a2,k2,F2.binds (ps:=["text"]) λ_ _ _ _ _ _ us hl=>by obtain ⟨a0,rfl⟩:=bj us hl;rfl⟩
 have F3:=a7 (st:=gr) l3 c3 k3
 have D3:Df K mg "is_word" f3 _ ["thing"]:=⟨PySem.W.mg_of X G a3,k3,F3.binds (ps:=["thing"]) λ_ _ _ _ _ _ us hl=>by obtain ⟨a0,rfl⟩:=bj us hl;rfl⟩
 have F4:=a7 (st:=fT) l4 c4 k4
 have D4:Df K mg "worth_at" f4 _ ["mark","era"]:=⟨PySem.W.mg_of X G a4,k4,F4.binds (ps:=["mark","era"]) λ_ _ _ _ _ _ us hl=>by obtain ⟨a0,a1,rfl⟩:=aZ us hl;rfl⟩
 have F5:=a7 (st:=fM) l5 c5 k5
 have D5:Df K mg "used_mark" f5 _ ["mark","era","times"]:=⟨PySem.W.mg_of X G a5,k5,F5.binds (ps:=["mark","era","times"]) λ_ _ _ _ _ _ us hl=>by obtain ⟨a0,a1,a2,rfl⟩:=cF us hl;rfl⟩
 have Frk:=a7 (st:=fJ) lrk crk krk
 have Drk:Df K mg "ranked_key" frk _ ["one"]:=⟨PySem.W.mg_of X G ark,krk,Frk.binds (ps:=["one"]) λ_ _ _ _ _ _ us hl=>by obtain ⟨a0,rfl⟩:=bj us hl;rfl⟩
 have Fig:=a7 (st:=gw) lig cig kig
 have Dig:Df K mg "is_sign" fig _ ["text"]:=⟨PySem.W.mg_of X G aig,kig,Fig.binds (ps:=["text"]) λ_ _ _ _ _ _ us hl=>by obtain ⟨a0,rfl⟩:=bj us hl;rfl⟩
 have Ftk:=a7 (st:=fU) ltk ctk ktk
 have Dtk:Df K mg "told_key" ftk _ ["one"]:=⟨PySem.W.mg_of X G atk,ktk,Ftk.binds (ps:=["one"]) λ_ _ _ _ _ _ us hl=>by obtain ⟨a0,rfl⟩:=bj us hl;rfl⟩
 have Fwo:=a7 (st:=fV) lwo cwo kwo
 have Dwo:Df K mg "with_own" fwo _ ["rated","own"]:=⟨PySem.W.mg_of X G awo,kwo,Fwo.binds (ps:=["rated","own"]) λ_ _ _ _ _ _ us hl=>by obtain ⟨a0,a1,rfl⟩:=aZ us hl;rfl⟩
 have Fca:=a7 (st:=fI) lca cca kca
 have Dca:Df K mg "_law_cell_at" fca _ ["_law_script","_law_k"]:=⟨PySem.W.mg_of X G aca,kca,Fca.binds (ps:=["_law_script","_law_k"]) λ_ _ _ _ _ _ us hl=>by obtain ⟨a0,a1,rfl⟩:=aZ us hl;rfl⟩
 have Fbx:=a7 (st:=gx) lbx cbx kbx
 have Dbx:Df K mg "_law_box" fbx _ ["_law_script","_law_k"]:=⟨PySem.W.mg_of X G abx,kbx,Fbx.binds (ps:=["_law_script","_law_k"]) λ_ _ _ _ _ _ us hl=>by obtain ⟨a0,a1,rfl⟩:=aZ us hl;rfl⟩
 have Fta:=a7 (st:=fW) lta cta kta
 have Dta:Df K mg "_law_take" fta _ ["_law_box_here","_law_many"]:=⟨PySem.W.mg_of X G ata,kta,Fta.binds (ps:=["_law_box_here","_law_many"]) λ_ _ _ _ _ _ us hl=>by obtain ⟨a0,a1,rfl⟩:=aZ us hl;rfl⟩
 have Fwd:=a7 (st:=fX) lwd cwd kwd
 have Dwd:Df K mg "_law_word" fwd _ ["_law_box_here"]:=⟨PySem.W.mg_of X G awd,kwd,Fwd.binds (ps:=["_law_box_here"]) λ_ _ _ _ _ _ us hl=>by obtain ⟨a0,rfl⟩:=bj us hl;rfl⟩
 have Fpo:=a7 (st:=fY) lpo cpo kpo
 have Dpo:Df K mg "_law_pool" fpo _ ["_law_script","_law_first","_law_most"]:=⟨PySem.W.mg_of X G apo,kpo,Fpo.binds (ps:=["_law_script","_law_first","_law_most"]) λ_ _ _ _ _ _ us hl=>by obtain ⟨a0,a1,a2,rfl⟩:=cF us hl;rfl⟩
 have Fco:=a7 (st:=fN) lco cco kco
 have Dco:Df K mg "_law_count" fco _ ["_law_box_here"]:=⟨PySem.W.mg_of X G aco,kco,Fco.binds (ps:=["_law_box_here"]) λ_ _ _ _ _ _ us hl=>by obtain ⟨a0,rfl⟩:=bj us hl;rfl⟩
 have Fti:=a7 (st:=fO) lti cti kti
 have Dti:Df K mg "_law_times" fti _ ["_law_box_here"]:=⟨PySem.W.mg_of X G ati,kti,Fti.binds (ps:=["_law_box_here"]) λ_ _ _ _ _ _ us hl=>by obtain ⟨a0,rfl⟩:=bj us hl;rfl⟩
 have Fsa:=a7 (st:=eU) lsa csa ksa
 have Dsa:Df K mg "_law_same" fsa _ ["_law_found","_law_due"]:=⟨PySem.W.mg_of X G asa,ksa,Fsa.binds (ps:=["_law_found","_law_due"]) λ_ _ _ _ _ _ us hl=>by obtain ⟨a0,a1,rfl⟩:=aZ us hl;rfl⟩
 have Ftx:=a7 (st:=fZ) ltx ctx ktx
 have Dtx:Df K mg "_law_text" ftx _ ["_law_box_here","_law_pool_here"]:=⟨PySem.W.mg_of X G atx,ktx,Ftx.binds (ps:=["_law_box_here","_law_pool_here"]) λ_ _ _ _ _ _ us hl=>by obtain ⟨a0,a1,rfl⟩:=aZ us hl;rfl⟩
 have Fke:=a7 (st:=gi) lke cke kke
 have Dke:Df K mg "_law_keys" fke _ ["_law_box_here","_law_pool_here"]:=⟨PySem.W.mg_of X G ake,kke,Fke.binds (ps:=["_law_box_here","_law_pool_here"]) λ_ _ _ _ _ _ us hl=>by obtain ⟨a0,a1,rfl⟩:=aZ us hl;rfl⟩
 have Fde:=a7 (st:=fP) lde cde kde
 have Dde:Df K mg "_law_deeds" fde _ ["_law_box_here","_law_pool_here"]:=⟨PySem.W.mg_of X G ade,kde,Fde.binds (ps:=["_law_box_here","_law_pool_here"]) λ_ _ _ _ _ _ us hl=>by obtain ⟨a0,a1,rfl⟩:=aZ us hl;rfl⟩
 have Fcl:=a7 (st:=eV) lcl ccl kcl
 have Dcl:Df K mg "_law_call" fcl _ ["_law_house","_law_layers","_law_typist","_law_deed"]:=⟨PySem.W.mg_of X G acl,kcl,Fcl.binds (ps:=["_law_house","_law_layers","_law_typist","_law_deed"]) λ_ _ _ _ _ _ us hl=>by obtain ⟨a0,a1,a2,a3,rfl⟩:=vC us hl;rfl⟩
 have Ftr:=a7 (st:=fQ) ltr ctr ktr
 have Dtr:Df K mg "_law_tried" ftr _ ["_law_house","_law_layers","_law_typist","_law_deed"]:=⟨PySem.W.mg_of X G atr,ktr,Ftr.binds (ps:=["_law_house","_law_layers","_law_typist","_law_deed"]) λ_ _ _ _ _ _ us hl=>by obtain ⟨a0,a1,a2,a3,rfl⟩:=vC us hl;rfl⟩
 have Fst:=a7 (st:=fR) lst cst kst
 have Dst:Df K mg "_law_steps" fst _ ["_law_box_here","_law_deed"]:=⟨PySem.W.mg_of X G ast,kst,Fst.binds (ps:=["_law_box_here","_law_deed"]) λ_ _ _ _ _ _ us hl=>by obtain ⟨a0,a1,rfl⟩:=aZ us hl;rfl⟩
 have Fal:=a7 (st:=gz) lal cal kal
 have Dal:Df K mg "_law_all" fal _ ["_law_house","_law_layers","_law_typist"]:=⟨PySem.W.mg_of X G aal,kal,Fal.binds (ps:=["_law_house","_law_layers","_law_typist"]) λ_ _ _ _ _ _ us hl=>by obtain ⟨a0,a1,a2,rfl⟩:=cF us hl;rfl⟩
 have Flw:=a7 (st:=dR) llw clw klw
 refine ⟨PySem.W.fnOf "law" "law" (ao dR) (am dR) (ag dR) .none kVlw dclw pmlw anlw cdlw ctlw,λs v=>.of_eq rfl,λbase _ _=>?_⟩
 have Gta:=A0 (P:=l.prog) (w:=w) (mg:=mg) (base:=base) Fta
 have Gca:=A1 (P:=l.prog) (w:=w) (mg:=mg) (base:=base) Fca T
 have Gbx:=DU (P:=l.prog) (w:=w) (mg:=mg) (base:=base) Fbx Gca Dca
 have Gwd:=A3 (P:=l.prog) (w:=w) (mg:=mg) (base:=base) Fwd T Gta Dta
 have Gpo:=A4 (P:=l.prog) (w:=w) (mg:=mg) (base:=base) Fpo T Gbx Dbx Gwd Dwd
 have Gco:=yW (P:=l.prog) (w:=w) (mg:=mg) (base:=base) Fco Gta Dta
 have Gti:=yX (P:=l.prog) (w:=w) (mg:=mg) (base:=base) Fti Gta Dta
 have G1:=xt (P:=l.prog) (w:=w) (mg:=mg) (base:=base) F1
 have G2:=xu (P:=l.prog) (w:=w) (mg:=mg) (base:=base) F2 T G1 D1
 have G3:=xv (P:=l.prog) (w:=w) (mg:=mg) (base:=base) F3 T G2 D2
 have G4:=yY (P:=l.prog) (w:=w) (mg:=mg) (base:=base) F4
 have G5:=A5 (P:=l.prog) (w:=w) (mg:=mg) (base:=base) F5 G4 D4
 have Gwi:=A6 (P:=l.prog) (w:=w) (mg:=mg) (base:=base) Fwi T
 have Gwm:=A7 (P:=l.prog) (w:=w) (mg:=mg) (base:=base) Fwm T
 have Gwq:=DV (P:=l.prog) (w:=w) (mg:=mg) (base:=base) Fwq T G3 D3
 have Gwu:=DW (P:=l.prog) (w:=w) (mg:=mg) (base:=base) Fwu T G5 D5 Gwm Mwm Bwm
 have Gwz:=xw (P:=l.prog) (w:=w) (mg:=mg) (base:=base) Fwz T Gwm Mwm Bwm
 have Gwf:=A8 (P:=l.prog) (w:=w) (mg:=mg) (base:=base) Fwf T
 have Gwb:=yZ (P:=l.prog) (w:=w) (mg:=mg) (base:=base) Fwb T G4 D4
 have Gwh:=DX (P:=l.prog) (w:=w) (mg:=mg) (base:=base) Fwh T
 have Gwv:=xx (P:=l.prog) (w:=w) (mg:=mg) (base:=base) Fwv T Gwb Mwb Bwb
 have Gr:=A9 (P:=l.prog) (w:=w) (mg:=mg) (base:=base) Fr
 have Gb:=A' (P:=l.prog) (w:=w) (mg:=mg) (base:=base) Fb T Gr Dr
 have Rwm:=Ba (P:=l.prog) (w:=w) (mg:=mg) (base:=base) Fwm T
 have Rwq:=DY (P:=l.prog) (w:=w) (mg:=mg) (base:=base) Fwq T G3 D3
 have Rwu:=DZ (P:=l.prog) (w:=w) (mg:=mg) (base:=base) Fwu T D5 Rwm Mwm Bwm
 have Rwz:=xy (P:=l.prog) (w:=w) (mg:=mg) (base:=base) Fwz T Rwm Mwm Bwm
 have Gwo:=Bb (P:=l.prog) (w:=w) (mg:=mg) (base:=base) Fwo T Gb Db
 have Gyi:=y4 (P:=l.prog) (w:=w) (mg:=mg) (base:=base) Fyi T Gwi Mk_Wood Bwi
 have Gyq:=Bc (P:=l.prog) (w:=w) (mg:=mg) (base:=base) Fyq T Gwq Mwq Bwq
 have Gyz:=wz (P:=l.prog) (w:=w) (mg:=mg) (base:=base) Fyz T Gwz Mwz Bwz
 have Gyh:=Bd (P:=l.prog) (w:=w) (mg:=mg) (base:=base) Fyh T G3 D3
 have Gys:=Be (P:=l.prog) (w:=w) (mg:=mg) (base:=base) Fys T
 have Gye:=Bf (P:=l.prog) (w:=w) (mg:=mg) (base:=base) Fye T Gwh Mwh Bwh
 have Gya:=D7 (P:=l.prog) (w:=w) (mg:=mg) (base:=base) Fya T Gwb Mwb Bwb Gye Mye Bye Gwo Dwo
 have Gyo:=D8 (P:=l.prog) (w:=w) (mg:=mg) (base:=base) Fyo T Gwv Mwv Bwv
 have Gyd:=xz (P:=l.prog) (w:=w) (mg:=mg) (base:=base) Fyd T
 have Gyu:=Bg (P:=l.prog) (w:=w) (mg:=mg) (base:=base) Fyu T Gwh Mwh Bwh Gwu Mwu Bwu
 have Gyf:=y6 (P:=l.prog) (w:=w) (mg:=mg) (base:=base) Fyf T Gwf Mwf Bwf
 have Ryq:=Bi (P:=l.prog) (w:=w) (mg:=mg) (base:=base) Fyq T Rwq Mwq Bwq
 have Ryz:=wA (P:=l.prog) (w:=w) (mg:=mg) (base:=base) Fyz T Rwz Mwz Bwz
 have Ryh:=Bj (P:=l.prog) (w:=w) (mg:=mg) (base:=base) Fyh T G3 D3
 have Rys:=Bk (P:=l.prog) (w:=w) (mg:=mg) (base:=base) Fys T
 have Ryu:=Bl (P:=l.prog) (w:=w) (mg:=mg) (base:=base) Fyu T Gwh Mwh Bwh Rwu Mwu Bwu
 have Gpi:=y7 (P:=l.prog) (w:=w) (mg:=mg) (base:=base) Fpi T
 have Gpc:=xA (P:=l.prog) (w:=w) (mg:=mg) (base:=base) Fpc T G5 D5
 have Gpf:=y8 (P:=l.prog) (w:=w) (mg:=mg) (base:=base) Fpf T
 have Gpw:=Gd (P:=l.prog) (w:=w) (mg:=mg) (base:=base) Fpw T G4 D4
 have Gig:=Bn (P:=l.prog) (w:=w) (mg:=mg) (base:=base) Fig T G1 D1
 have Gui:=y9 (P:=l.prog) (w:=w) (mg:=mg) (base:=base) Fui T Gpi Mk_Pairs Bpi
 have Guk:=Ec (P:=l.prog) (w:=w) (mg:=mg) (base:=base) Fuk T Gig Dig
 have Ruk:=Ed (P:=l.prog) (w:=w) (mg:=mg) (base:=base) Fuk T Gig Dig
 have Gub:=Bo (P:=l.prog) (w:=w) (mg:=mg) (base:=base) Fub T
 have Rub:=Bp (P:=l.prog) (w:=w) (mg:=mg) (base:=base) Fub T
 have Guc:=y' (P:=l.prog) (w:=w) (mg:=mg) (base:=base) Fuc T
 have Gud:=za (P:=l.prog) (w:=w) (mg:=mg) (base:=base) Fud T
 have Gul:=Bq (P:=l.prog) (w:=w) (mg:=mg) (base:=base) Ful T
 have Guh:=Br (P:=l.prog) (w:=w) (mg:=mg) (base:=base) Fuh T
 have Grk:=Ge (P:=l.prog) (w:=w) (mg:=mg) (base:=base) Frk Gr Dr
 have Gtk:=Gf (P:=l.prog) (w:=w) (mg:=mg) (base:=base) Ftk Grk Drk
 have Gut:=Bu (P:=l.prog) (w:=w) (mg:=mg) (base:=base) Fut T Guh Muh Buh Gya Mya Bya Gpw Mpw Bpw Gtk Dtk
 have Guz:=zd (P:=l.prog) (w:=w) (mg:=mg) (base:=base) Fuz T Gut Mut But Gyu Myu B0yu Gpc Mpc Bpc Guh Muh Buh Guc Muc Buc
 have Ruz:=ze (P:=l.prog) (w:=w) (mg:=mg) (base:=base) Fuz T Gut Mut But
 have Guf:=zg (P:=l.prog) (w:=w) (mg:=mg) (base:=base) Fuf T Gyf Myf Byf Gpf Mpf Bpf
 have Gtx:=Bw (P:=l.prog) (w:=w) (mg:=mg) (base:=base) Ftx T Gta Dta
 have Gke:=Bx (P:=l.prog) (w:=w) (mg:=mg) (base:=base) Fke T Gta Dta
 have Gde:=zi (P:=l.prog) (w:=w) (mg:=mg) (base:=base) Fde T Gta Dta Gtx Dtx Gke Dke Gco Dco Gti Dti
 have Gcl:=By (P:=l.prog) (w:=w) (mg:=mg) (base:=base) Fcl T Gwq Mwq Bwq Gwu Mwu Bwu Gwz Mwz Bwz Gwf Mwf Bwf Gyq Myq Byq Gyz Myz Byz Gyh Myh Byh Gys Mys Bys Gyu Myu Byu Gyf Myf Byf Guk Muk Buk Gub Mub Bub Guc Muc Buc Guz Muz Buz Guf Muf Buf
 have Rcl:=Bz (P:=l.prog) (w:=w) (mg:=mg) (base:=base) Fcl T Rwq Mwq Bwq Rwu Mwu Bwu Rwz Mwz Bwz Ryq Myq Byq Ryz Myz Byz Ryh Myh Byh Rys Mys Bys Ryu Myu Byu Ruk Muk Buk Rub Mub Bub Ruz Muz Buz
 have Gtr:=zj (P:=l.prog) (w:=w) (mg:=mg) (base:=base) Ftr T Gcl Rcl Dcl
 have Gst:=zk (P:=l.prog) (w:=w) (mg:=mg) (base:=base) Fst T Gta Dta
 have Gal:=BA (P:=l.prog) (w:=w) (mg:=mg) (base:=base) Fal T Gut Mut But Gud Mud Bud Gul Mul Bul Gwv Mwv Bwv Gyo Myo Byo Gyd Myd Byd
 have Gsa:=rX (P:=l.prog) (w:=w) (mg:=mg) (base:=base) Fsa T Dsa 4
 exact Ej Flw T Gwi Mk_Wood Bwi Gyi Mk_Layers Byi Gui Mk_Typist Bui Gbx Dbx Gta Dta Gpo Dpo Gde Dde Gtr Dtr Gst Dst Gal Dal Gsa Dsa
theorem Hv {l:PySem.W.OpenLaw}{q:Program}{loose:List Str}{XP:(Str->Option Value)->Heap->Prop}{YP:World->Heap->Prop}{d:DefRec}{K:Params->PySem.W.Frag}(hn:l.most=some 63) (hdf:d.params.defaults=[])
  (hY:∀ (w:World) (h:Heap),YP w h->(K w.params).In h)
  (F:∀ (w:World) (mg:Str->Option Value) (fa:Addr) (h:Heap),(K w.params).In h->h.Ns mainGlobals mg->mg d.name=some (.ref fa) ->
   ∃ fd:FuncData,(∀ (s:Shared) (u:Value),BindsTo s fd ⟨[u],[]⟩ [("_law_script",u)])/\∀ base:Heap,(K w.params).In base->base.Ns mainGlobals mg->FnOk l.prog w (K w.params) mg base CX0 11 fa fd ["_law_script"] (T2.lSp (K w.params) iR)) :
  PySem.W.WalkO q loose XP YP l.row.toRowW d [] (λf vs=>PySem.call f vs) :=
 L2.zP (n:=63) (k:=11) (x:="_law_script") (CX:=λ_=>CX0) (sp:=λw=>T2.lSp (K w.params) iR) hn (by decide) hdf ⟨rfl,by decide,by decide,rfl⟩ hY F (λ_ _ a ns hl hO hS=>xC hl hO hS) λ_ _ _ _ _ z=>z
end My
theorem PySem.Challenge.cw_aheadword_k64_whole_fading_in_steps_holds : PySem.Challenge.rw_aheadword_k64_whole_fading_in_steps.Holds :=
 My.headL λ_ _ _ _ d K h1 h2 hd hK hF=>My.Hv (l:=PySem.Challenge.rw_aheadword_k64_whole_fading_in_steps) h1 h2 hK λw mg fa h KX G hmg=>My.Ek KX G (by rw [hd] at hmg;exact hmg) (hF w)
end

import PyProof.Rows.All
import OpenK.KWalk
import OpenK.KCls
import OpenK.KTop
import OpenK.KLaw
import Wide.FinOn
import KE.RegKIsAll
import KE.KItem
import KE.KxBytes
import PyProof.EqAt
import PyProof.EqKinds
import PyProof.NeData
import PyProof.TupleCall
import PyProof.MinMaxWalk
import KE.KDictList
import KE.KDictOf
import KE.KEqDict
import PyProof.AttrMissHeap
import PyProof.EnumFor
import PyProof.EnumMake
import PyProof.EnumStmt
import PyProof.TupleIter
import PyProof.Seq
import KE.KPairComp
import PyProof.DictItems
import PyProof.DictRoadsH
import PyProof.ReprRoads
import PyProof.ReprLen
import PyProof.StrLawsRepr
import PyProof.ExcClass2
import PyProof.InstStoreFacts
import PyProof.Rows.FStr
import PyProof.ExcAttrAll.ValueError
import KE.KDictSum
import KE.KRevSl
import PyProof.RaisesMany
import PyProof.RulesTry
import KE.KTryMore
import PyProof.RulesAs
import PyProof.ReprStr
import PyProof.ListStr
import PyProof.StrLawsIn
import KE.KDictLaws
import KE.KIntText
import PyProof.NsDelKeeps
import PyProof.PassesOwn
import PyProof.StrCalls
import PyProof.StrBlock2
import PyProof.Rows.StrFit
import PySem.Challenge.RW_aheadword_k71_texts_refused
set_option maxHeartbeats 4000000
set_option Elab.async false
set_option linter.all false
namespace L2
open PySem
noncomputable abbrev bmVE:List Value:=[.type "ValueError",.type "Exception",.type "BaseException",.type "object"]
noncomputable def excAt (K:PySem.W.Frag) (C:Addr) (r:Option Value):Bool:=match K.lookup C with
 | some o=>o.cls == .type "type" && match o.data with
   | .cls cd=>(match cd.mro with
     | v :: bm=>v == .ref C && o.slots.toList.length == 6 && o.slots.toList[4]? == some (some (.builtin "ValueError.__new__")) && !cd.hasDel && PySem.W.tailIn K bmVE bm && PySem.W.nsOkIn K cd.ns && PySem.W.nsIn K cd.ns "__init__" == some r
     | []=>false)
   | _=>false
 | none=>false
noncomputable def _root_.PySem.W.onlyVE:List Value->Bool
 | .ref _ :: r=>PySem.W.onlyVE r
 | l=>l == [.type "ValueError",.type "Exception",.type "BaseException",.type "object"]
noncomputable def _root_.PySem.W.xOver (K:PySem.W.Frag) (C:Addr):Bool:=(PySem.W.clsIn K C).any fun cd=>PySem.W.onlyVE cd.mro && cd.hasDict
noncomputable def xcIn (K:PySem.W.Frag) (C:Addr):Bool:=PySem.W.keepIn K (.ref C) && PySem.W.findIn K (.ref C) "__getattribute__" == some (some (.builtin "BaseException.__getattribute__")) && PySem.W.findIn K (.ref C) "__getattr__" == some none && PySem.W.mroIn K C (.type "BaseException") == some true &&
 (PySem.W.clsIn K C).isSome && PySem.W.findIn K (.ref C) "__class__" == some (some (.builtin "object.__class__")) && PySem.W.specialIn K (.builtin "object.__class__") "__get__" == some (some (.builtin "getset_descriptor.__get__")) && PySem.W.takesIn K (.builtin "object.__class__") == some true &&
 PySem.W.mroIn K C (.type "object") == some true && PySem.W.findIn K (.ref C) "__setattr__" == some (some (.builtin "object.__setattr__")) && PySem.W.xOver K C
noncomputable def inClass (s:Stmt) (j:Nat):Stmt:=match s with
 | .ClassDef _ _ _ body _ _ _ _ _ _ _=>body.getD j (.Pass ⟨0,0,0,0⟩)
 | _=>.Pass ⟨0,0,0,0⟩
noncomputable def defArgs (s:Stmt):Arguments:=match s with
 | .FunctionDef _ a _ _ _ _ _ _ _ _=>a
 | _=>{ posonlyargs:=[],args:=[],vararg:=none,kwonlyargs:=[],kw_defaults:=[],kwarg:=none,defaults:=[] }
noncomputable def defBody (s:Stmt):List Stmt:=match s with
 | .FunctionDef _ _ b _ _ _ _ _ _ _=>b
 | _=>[]
noncomputable def defScope (s:Stmt):Scope:=match s with
 | .FunctionDef _ _ _ _ _ _ sc _ _ _=>sc
 | _=>{ kind:=.function,names:=[],isGenerator:=false,isCoroutine:=false }
end L2
namespace My
open PySem L2
noncomputable def top (i:Nat):Stmt:=PySem.Challenge.pw_aheadword_k71_texts_refused.main.body.getD i (.Pass ⟨0,0,0,0⟩)
noncomputable abbrev s_NoText_init:Stmt:=inClass (top 5) 0
noncomputable abbrev s_is_letter:Stmt:=top 13
noncomputable abbrev s_is_part:Stmt:=top 14
noncomputable abbrev s_is_word:Stmt:=top 15
noncomputable abbrev s_worth_at:Stmt:=top 16
noncomputable abbrev s_Wood_init:Stmt:=inClass (top 18) 0
noncomputable abbrev s_Wood_put:Stmt:=inClass (top 18) 2
noncomputable abbrev s_Wood_begun:Stmt:=inClass (top 18) 9
noncomputable abbrev s_Wood_words:Stmt:=inClass (top 18) 10
noncomputable abbrev s_is_figure:Stmt:=top 21
noncomputable abbrev s_number_of:Stmt:=top 22
noncomputable abbrev s_rated_of:Stmt:=top 23
noncomputable abbrev s_read_wood:Stmt:=top 24
noncomputable abbrev s_law_cell_at:Stmt:=top 26
noncomputable abbrev s_law_box:Stmt:=top 27
noncomputable abbrev s_law_take:Stmt:=top 28
noncomputable abbrev s_law_word:Stmt:=top 29
noncomputable abbrev s_law_pool:Stmt:=top 30
noncomputable abbrev s_law_count:Stmt:=top 31
noncomputable abbrev s_law_same:Stmt:=top 32
noncomputable abbrev s_law_is_word:Stmt:=top 33
noncomputable abbrev s_law_number:Stmt:=top 34
noncomputable abbrev s_law_bent_text:Stmt:=top 35
noncomputable abbrev s_law_bent:Stmt:=top 36
noncomputable abbrev s_law_due:Stmt:=top 37
noncomputable abbrev s_law_found:Stmt:=top 38
noncomputable abbrev s_law:Stmt:=top 39
noncomputable def Fx (K:W.Frag):Prop:=∀ R:Prop,(∀ {f1 f2 f3 f4 fig fnu frf frw fca fbx fta fwo fpo fco fsa fiw fnm fbt fbe fdu ffo flw fwi fwq fwb fww fni C_Wood C_NoText C_AheadError:Addr}
   {od1 an1 od2 an2 od3 an3 od4 an4 odig anig odnu annu odrf anrf odrw anrw odca anca odbx anbx odta anta odwo anwo odpo anpo odco anco odsa ansa odiw aniw odnm annm odbt anbt odbe anbe oddu andu odfo anfo odlw anlw odwi anwi odwq anwq odwb anwb odww anww odni anni:Option Addr} {sl1 sl2 sl3 sl4 slig slnu slrf slrw slca slbx slta slwo slpo slco slsa sliw slnm slbt slbe sldu slfo sllw slwi slwq slwb slww slni:Array (Option Value)} {oc1 kV1 dc1 pm1 cd1 ct1 oc2 kV2 dc2 pm2 cd2 ct2 oc3 kV3 dc3 pm3 cd3 ct3 oc4 kV4 dc4 pm4 cd4 ct4 ocig kVig dcig pmig cdig ctig ocnu kVnu dcnu pmnu cdnu ctnu ocrf kVrf dcrf pmrf cdrf ctrf ocrw kVrw dcrw pmrw cdrw ctrw occa kVca dcca pmca cdca ctca ocbx kVbx dcbx pmbx cdbx ctbx octa kVta dcta pmta cdta ctta ocwo kVwo dcwo pmwo cdwo ctwo ocpo kVpo dcpo pmpo cdpo ctpo occo kVco dcco pmco cdco ctco ocsa kVsa dcsa pmsa cdsa ctsa ociw kViw dciw pmiw cdiw ctiw ocnm kVnm dcnm pmnm cdnm ctnm ocbt kVbt dcbt pmbt cdbt ctbt ocbe kVbe dcbe pmbe cdbe ctbe ocdu kVdu dcdu pmdu cddu ctdu ocfo kVfo dcfo pmfo cdfo ctfo oclw kVlw dclw pmlw cdlw ctlw ocwi kVwi dcwi pmwi cdwi ctwi ocwq kVwq dcwq pmwq cdwq ctwq ocwb kVwb dcwb pmwb cdwb ctwb ocww kVww dcww pmww cdww ctww ocni kVni dcni pmni cdni ctni:Value}
   {tk_MOST_SIGNS:Tok}
   {tk_MOST_PARTS:Tok}
   {tk_MOST_LETTERS:Tok}
   {tk_MOST_FIGURES:Tok}
   (aC_Wood:W.nsIn K mainGlobals "Wood"=some (some (.ref C_Wood)))
   (awi:W.findIn K (.ref C_Wood) "__init__"=some (some (.ref fwi))) (iwi:W.isFn K (.ref fwi)=true) (lwi:K.lookup fwi=some ⟨ocwi,odwi,.func (W.fnOf "__init__" "Wood.__init__" (defArgs s_Wood_init) (defBody s_Wood_init) (defScope s_Wood_init) .none kVwi dcwi pmwi anwi cdwi ctwi),slwi⟩) (cwi:W.codeIn K cdwi "Wood.__init__"=true) (kwi:W.keepIn K (.ref fwi)=true)
   (awq:W.findIn K (.ref C_Wood) "put"=some (some (.ref fwq))) (iwq:W.isFn K (.ref fwq)=true) (lwq:K.lookup fwq=some ⟨ocwq,odwq,.func (W.fnOf "put" "Wood.put" (defArgs s_Wood_put) (defBody s_Wood_put) (defScope s_Wood_put) .none kVwq dcwq pmwq anwq cdwq ctwq),slwq⟩) (cwq:W.codeIn K cdwq "Wood.put"=true) (kwq:W.keepIn K (.ref fwq)=true)
   (awb:W.findIn K (.ref C_Wood) "begun"=some (some (.ref fwb))) (iwb:W.isFn K (.ref fwb)=true) (lwb:K.lookup fwb=some ⟨ocwb,odwb,.func (W.fnOf "begun" "Wood.begun" (defArgs s_Wood_begun) (defBody s_Wood_begun) (defScope s_Wood_begun) .none kVwb dcwb pmwb anwb cdwb ctwb),slwb⟩) (cwb:W.codeIn K cdwb "Wood.begun"=true) (kwb:W.keepIn K (.ref fwb)=true)
   (aww:W.findIn K (.ref C_Wood) "words"=some (some (.ref fww))) (iww:W.isFn K (.ref fww)=true) (lww:K.lookup fww=some ⟨ocww,odww,.func (W.fnOf "words" "Wood.words" (defArgs s_Wood_words) (defBody s_Wood_words) (defScope s_Wood_words) .none kVww dcww pmww anww cdww ctww),slww⟩) (cww:W.codeIn K cdww "Wood.words"=true) (kww:W.keepIn K (.ref fww)=true)
   (pg_Wood:W.plainGet K C_Wood Str.empty=true) (hd_Wood:W.hasDictIn K C_Wood=true) (po_Wood:W.plainOver K C_Wood=true) (sa_Wood:W.findIn K (.ref C_Wood) "__setattr__"=some (some (.builtin "object.__setattr__"))) (mk_Wood:W.makesIn K C_Wood=true) (kc_Wood:W.keepIn K (.ref C_Wood)=true)
   (n_Wood_marks:W.findIn K (.ref C_Wood) "marks"=some none)
   (n_Wood_now:W.findIn K (.ref C_Wood) "now"=some none)
   (aC_NoText:W.nsIn K mainGlobals "NoText"=some (some (.ref C_NoText)))
   (aC_AheadError:W.nsIn K mainGlobals "AheadError"=some (some (.ref C_AheadError)))
   (ani:W.findIn K (.ref C_NoText) "__init__"=some (some (.ref fni))) (ini:W.isFn K (.ref fni)=true) (lni:K.lookup fni=some ⟨ocni,odni,.func (W.fnOf "__init__" "NoText.__init__" (defArgs s_NoText_init) (defBody s_NoText_init) (defScope s_NoText_init) .none kVni dcni pmni anni cdni ctni),slni⟩) (cni:W.codeIn K cdni "NoText.__init__"=true) (kni:W.keepIn K (.ref fni)=true)
   (a1:W.nsIn K mainGlobals "is_letter"=some (some (.ref f1))) (l1:K.lookup f1=some ⟨oc1,od1,.func (W.fnOf "is_letter" "is_letter" (defArgs s_is_letter) (defBody s_is_letter) (defScope s_is_letter) .none kV1 dc1 pm1 an1 cd1 ct1),sl1⟩) (c1:W.codeIn K cd1 "is_letter"=true) (k1:W.keepIn K (.ref f1)=true)
   (a2:W.nsIn K mainGlobals "is_part"=some (some (.ref f2))) (l2:K.lookup f2=some ⟨oc2,od2,.func (W.fnOf "is_part" "is_part" (defArgs s_is_part) (defBody s_is_part) (defScope s_is_part) .none kV2 dc2 pm2 an2 cd2 ct2),sl2⟩) (c2:W.codeIn K cd2 "is_part"=true) (k2:W.keepIn K (.ref f2)=true)
   (a3:W.nsIn K mainGlobals "is_word"=some (some (.ref f3))) (l3:K.lookup f3=some ⟨oc3,od3,.func (W.fnOf "is_word" "is_word" (defArgs s_is_word) (defBody s_is_word) (defScope s_is_word) .none kV3 dc3 pm3 an3 cd3 ct3),sl3⟩) (c3:W.codeIn K cd3 "is_word"=true) (k3:W.keepIn K (.ref f3)=true)
   (a4:W.nsIn K mainGlobals "worth_at"=some (some (.ref f4))) (l4:K.lookup f4=some ⟨oc4,od4,.func (W.fnOf "worth_at" "worth_at" (defArgs s_worth_at) (defBody s_worth_at) (defScope s_worth_at) .none kV4 dc4 pm4 an4 cd4 ct4),sl4⟩) (c4:W.codeIn K cd4 "worth_at"=true) (k4:W.keepIn K (.ref f4)=true)
   (aig:W.nsIn K mainGlobals "is_figure"=some (some (.ref fig))) (lig:K.lookup fig=some ⟨ocig,odig,.func (W.fnOf "is_figure" "is_figure" (defArgs s_is_figure) (defBody s_is_figure) (defScope s_is_figure) .none kVig dcig pmig anig cdig ctig),slig⟩) (cig:W.codeIn K cdig "is_figure"=true) (kig:W.keepIn K (.ref fig)=true)
   (anu:W.nsIn K mainGlobals "number_of"=some (some (.ref fnu))) (lnu:K.lookup fnu=some ⟨ocnu,odnu,.func (W.fnOf "number_of" "number_of" (defArgs s_number_of) (defBody s_number_of) (defScope s_number_of) .none kVnu dcnu pmnu annu cdnu ctnu),slnu⟩) (cnu:W.codeIn K cdnu "number_of"=true) (knu:W.keepIn K (.ref fnu)=true)
   (arf:W.nsIn K mainGlobals "rated_of"=some (some (.ref frf))) (lrf:K.lookup frf=some ⟨ocrf,odrf,.func (W.fnOf "rated_of" "rated_of" (defArgs s_rated_of) (defBody s_rated_of) (defScope s_rated_of) .none kVrf dcrf pmrf anrf cdrf ctrf),slrf⟩) (crf:W.codeIn K cdrf "rated_of"=true) (krf:W.keepIn K (.ref frf)=true)
   (arw:W.nsIn K mainGlobals "read_wood"=some (some (.ref frw))) (lrw:K.lookup frw=some ⟨ocrw,odrw,.func (W.fnOf "read_wood" "read_wood" (defArgs s_read_wood) (defBody s_read_wood) (defScope s_read_wood) .none kVrw dcrw pmrw anrw cdrw ctrw),slrw⟩) (crw:W.codeIn K cdrw "read_wood"=true) (krw:W.keepIn K (.ref frw)=true)
   (aca:W.nsIn K mainGlobals "_law_cell_at"=some (some (.ref fca))) (lca:K.lookup fca=some ⟨occa,odca,.func (W.fnOf "_law_cell_at" "_law_cell_at" (defArgs s_law_cell_at) (defBody s_law_cell_at) (defScope s_law_cell_at) .none kVca dcca pmca anca cdca ctca),slca⟩) (cca:W.codeIn K cdca "_law_cell_at"=true) (kca:W.keepIn K (.ref fca)=true)
   (abx:W.nsIn K mainGlobals "_law_box"=some (some (.ref fbx))) (lbx:K.lookup fbx=some ⟨ocbx,odbx,.func (W.fnOf "_law_box" "_law_box" (defArgs s_law_box) (defBody s_law_box) (defScope s_law_box) .none kVbx dcbx pmbx anbx cdbx ctbx),slbx⟩) (cbx:W.codeIn K cdbx "_law_box"=true) (kbx:W.keepIn K (.ref fbx)=true)
   (ata:W.nsIn K mainGlobals "_law_take"=some (some (.ref fta))) (lta:K.lookup fta=some ⟨octa,odta,.func (W.fnOf "_law_take" "_law_take" (defArgs s_law_take) (defBody s_law_take) (defScope s_law_take) .none kVta dcta pmta anta cdta ctta),slta⟩) (cta:W.codeIn K cdta "_law_take"=true) (kta:W.keepIn K (.ref fta)=true)
   (awo:W.nsIn K mainGlobals "_law_word"=some (some (.ref fwo))) (lwo:K.lookup fwo=some ⟨ocwo,odwo,.func (W.fnOf "_law_word" "_law_word" (defArgs s_law_word) (defBody s_law_word) (defScope s_law_word) .none kVwo dcwo pmwo anwo cdwo ctwo),slwo⟩) (cwo:W.codeIn K cdwo "_law_word"=true) (kwo:W.keepIn K (.ref fwo)=true)
   (apo:W.nsIn K mainGlobals "_law_pool"=some (some (.ref fpo))) (lpo:K.lookup fpo=some ⟨ocpo,odpo,.func (W.fnOf "_law_pool" "_law_pool" (defArgs s_law_pool) (defBody s_law_pool) (defScope s_law_pool) .none kVpo dcpo pmpo anpo cdpo ctpo),slpo⟩) (cpo:W.codeIn K cdpo "_law_pool"=true) (kpo:W.keepIn K (.ref fpo)=true)
   (aco:W.nsIn K mainGlobals "_law_count"=some (some (.ref fco))) (lco:K.lookup fco=some ⟨occo,odco,.func (W.fnOf "_law_count" "_law_count" (defArgs s_law_count) (defBody s_law_count) (defScope s_law_count) .none kVco dcco pmco anco cdco ctco),slco⟩) (cco:W.codeIn K cdco "_law_count"=true) (kco:W.keepIn K (.ref fco)=true)
   (asa:W.nsIn K mainGlobals "_law_same"=some (some (.ref fsa))) (lsa:K.lookup fsa=some ⟨ocsa,odsa,.func (W.fnOf "_law_same" "_law_same" (defArgs s_law_same) (defBody s_law_same) (defScope s_law_same) .none kVsa dcsa pmsa ansa cdsa ctsa),slsa⟩) (csa:W.codeIn K cdsa "_law_same"=true) (ksa:W.keepIn K (.ref fsa)=true)
   (aiw:W.nsIn K mainGlobals "_law_is_word"=some (some (.ref fiw))) (liw:K.lookup fiw=some ⟨ociw,odiw,.func (W.fnOf "_law_is_word" "_law_is_word" (defArgs s_law_is_word) (defBody s_law_is_word) (defScope s_law_is_word) .none kViw dciw pmiw aniw cdiw ctiw),sliw⟩) (ciw:W.codeIn K cdiw "_law_is_word"=true) (kiw:W.keepIn K (.ref fiw)=true)
   (anm:W.nsIn K mainGlobals "_law_number"=some (some (.ref fnm))) (lnm:K.lookup fnm=some ⟨ocnm,odnm,.func (W.fnOf "_law_number" "_law_number" (defArgs s_law_number) (defBody s_law_number) (defScope s_law_number) .none kVnm dcnm pmnm annm cdnm ctnm),slnm⟩) (cnm:W.codeIn K cdnm "_law_number"=true) (knm:W.keepIn K (.ref fnm)=true)
   (abt:W.nsIn K mainGlobals "_law_bent_text"=some (some (.ref fbt))) (lbt:K.lookup fbt=some ⟨ocbt,odbt,.func (W.fnOf "_law_bent_text" "_law_bent_text" (defArgs s_law_bent_text) (defBody s_law_bent_text) (defScope s_law_bent_text) .none kVbt dcbt pmbt anbt cdbt ctbt),slbt⟩) (cbt:W.codeIn K cdbt "_law_bent_text"=true) (kbt:W.keepIn K (.ref fbt)=true)
   (abe:W.nsIn K mainGlobals "_law_bent"=some (some (.ref fbe))) (lbe:K.lookup fbe=some ⟨ocbe,odbe,.func (W.fnOf "_law_bent" "_law_bent" (defArgs s_law_bent) (defBody s_law_bent) (defScope s_law_bent) .none kVbe dcbe pmbe anbe cdbe ctbe),slbe⟩) (cbe:W.codeIn K cdbe "_law_bent"=true) (kbe:W.keepIn K (.ref fbe)=true)
   (adu:W.nsIn K mainGlobals "_law_due"=some (some (.ref fdu))) (ldu:K.lookup fdu=some ⟨ocdu,oddu,.func (W.fnOf "_law_due" "_law_due" (defArgs s_law_due) (defBody s_law_due) (defScope s_law_due) .none kVdu dcdu pmdu andu cddu ctdu),sldu⟩) (cdu:W.codeIn K cddu "_law_due"=true) (kdu:W.keepIn K (.ref fdu)=true)
   (afo:W.nsIn K mainGlobals "_law_found"=some (some (.ref ffo))) (lfo:K.lookup ffo=some ⟨ocfo,odfo,.func (W.fnOf "_law_found" "_law_found" (defArgs s_law_found) (defBody s_law_found) (defScope s_law_found) .none kVfo dcfo pmfo anfo cdfo ctfo),slfo⟩) (cfo:W.codeIn K cdfo "_law_found"=true) (kfo:W.keepIn K (.ref ffo)=true)
   (alw:W.nsIn K mainGlobals "law"=some (some (.ref flw))) (llw:K.lookup flw=some ⟨oclw,odlw,.func (W.fnOf "law" "law" (defArgs s_law) (defBody s_law) (defScope s_law) .none kVlw dclw pmlw anlw cdlw ctlw),sllw⟩) (clw:W.codeIn K cdlw "law"=true) (klw:W.keepIn K (.ref flw)=true)
   (z_len:W.nsIn K mainGlobals "len"=some none)
   (z_range:W.nsIn K mainGlobals "range"=some none)
   (z_all:W.nsIn K mainGlobals "all"=some none)
   (z_max:W.nsIn K mainGlobals "max"=some none)
   (z_min:W.nsIn K mainGlobals "min"=some none)
   (z_sorted:W.nsIn K mainGlobals "sorted"=some none)
   (z_isinstance:W.nsIn K mainGlobals "isinstance"=some none)
   (z_bool:W.nsIn K mainGlobals "bool"=some none)
   (z_int:W.nsIn K mainGlobals "int"=some none)
   (z_str:W.nsIn K mainGlobals "str"=some none)
   (z_list:W.nsIn K mainGlobals "list"=some none)
   (z_tuple:W.nsIn K mainGlobals "tuple"=some none)
   (z_enumerate:W.nsIn K mainGlobals "enumerate"=some none)
   (t_ss:W.kitOne K (.type "str") (.type "str")=some true)
   (t_ii:W.kitOne K (.type "int") (.type "int")=some true)
   (t_ib:W.kitOne K (.type "int") (.type "bool")=some false)
   (t_tt:W.kitOne K (.type "tuple") (.type "tuple")=some true)
   (t_ll:W.kitOne K (.type "list") (.type "list")=some true)
   (t_lt:W.kitOne K (.type "list") (.type "tuple")=some false)
   (t_st:W.kitOne K (.type "str") (.type "tuple")=some false)
   (t_it:W.kitOne K (.type "int") (.type "tuple")=some false)
   (t_sl:W.kitOne K (.type "str") (.type "list")=some false)
   (t_il:W.kitOne K (.type "int") (.type "list")=some false)
   (t_is:W.kitOne K (.type "int") (.type "str")=some false)
   (t_nt:W.kitOne K (.type "NoneType") (.type "tuple")=some false)
   (t_nl:W.kitOne K (.type "NoneType") (.type "list")=some false)
   (t_ni:W.kitOne K (.type "NoneType") (.type "int")=some false)
   (t_si:W.kitOne K (.type "str") (.type "int")=some false)
   (q_MOST_SIGNS:W.nsIn K mainGlobals "MOST_SIGNS"=some (some (.int 24 tk_MOST_SIGNS)))
   (q_MOST_PARTS:W.nsIn K mainGlobals "MOST_PARTS"=some (some (.int 4 tk_MOST_PARTS)))
   (q_MOST_LETTERS:W.nsIn K mainGlobals "MOST_LETTERS"=some (some (.int 12 tk_MOST_LETTERS)))
   (q_MOST_FIGURES:W.nsIn K mainGlobals "MOST_FIGURES"=some (some (.int 15 tk_MOST_FIGURES)))
   (xe7:excAt K C_NoText (some (.ref fni))=true)
   (xc7:xcIn K C_NoText=true)
   (xr:W.findIn K (.ref C_NoText) "row"=some none)
   (xsp:W.specialIn K (.ref C_AheadError) "__getattribute__"=some (some (.builtin "type.__getattribute__")))
   (xrd:W.readsIn K C_AheadError (.type "type")=true)
   (xfc:W.findCls K (.ref C_AheadError) (.type "type") "__init__"=some (.val (.builtin "ValueError.__init__")))
   (xtt:W.exmOne K (.ref C_NoText) (.ref C_NoText)=some true),R)->R
noncomputable def pick {α:Type}:List Nat->Nat->List α->List α
 | _,_,[]=>[]
 | [],_,l=>l
 | k :: ks,i,x :: l=>if i=k then pick ks (i + 1) l else x :: pick (k :: ks) (i + 1) l
noncomputable def view:Program:={ PySem.Challenge.pw_aheadword_k71_texts_refused with main:={ PySem.Challenge.pw_aheadword_k71_texts_refused.main with body:=pick [1,6,9,17,19,25] 0 PySem.Challenge.pw_aheadword_k71_texts_refused.main.body } }
theorem pair_map {S A B:Type} {x:Option S} {f:S->A} {g:S->B} {a:A} {b:B} (h1:x.map f=some a) (h2:x.map g=some b):x.map (fun s=>(f s,g s))=some (a,b):=by
 cases x with
 | none=>cases h1
 | some s=>cases h1; cases h2; rfl
end My
section
open PySem PySem.W PyProof.Rows
local macro_rules | `(tactic| o_head $H)=>`(tactic| refine holds_open (q:=My.view) (loose:=[]) (Xt:=fun s=>xlAt My.view [] s && recOk [] s) (XP:=XL My.view []) (Yf:=Hook.obs $H) (Ya:=Hook.val $H) (YP:=Hook.says $H) (N:=4778) ?hl (Hook.of $H) (Hook.keeps $H) (fun s e=>xl_of s (Bool.and_eq_true_iff.mp e).1) XL.keeps (by rfl) (by rfl) (by rfl) (fun s e=>recFacts_of (Bool.and_eq_true_iff.mp e).2) (by rfl) (by assumption) (by decide +kernel) ⟨rfl,rfl,rfl,rfl,rfl,by decide +kernel⟩ ?hw ?hc)
theorem My.left_gen {p:Program} {N:Nat} {β:Type} (w:World) {F:Shared->β} {v:β} (hb:(fencedOpening treeTable p w N).map (fun s=>(s.heap,s.gens,s.drawn,s.toks))=some (boot_heap w.params,Array.mk [],boot_drawn,boot_toks)) (hi:((boot_heap w.params).isNs mainGlobals && (Array.mk []:Array GenState).size == 0)=true)
   (hs:∀ os,(topRun treeTable p w (boot_heap w.params).objs.size ((boot_heap w.params).nsMap mainGlobals "__annotations__") N ⟨boot_heap w.params,Array.mk [],boot_drawn,boot_toks,os⟩ (topStub p)).map (fun s=>staticsOk (importedModules p.main.body) (boot_heap w.params) s.heap && namesBound p s.heap && gensDone s && laidKept (boot_heap w.params) s.heap)=some true)
   (hv:∀ os,(topRun treeTable p w (boot_heap w.params).objs.size ((boot_heap w.params).nsMap mainGlobals "__annotations__") N ⟨boot_heap w.params,Array.mk [],boot_drawn,boot_toks,os⟩ (topStub p)).map F=some v):(openEnds treeTable p w N).map F=some v:=by
 obtain ⟨⟨hh,gs,d,k,os⟩,e1,e2⟩:=Option.map_eq_some_iff.mp hb
 obtain ⟨rfl,rfl,rfl,rfl⟩:hh=boot_heap w.params /\ gs=Array.mk [] /\ d=boot_drawn /\ k=boot_toks:=by simpa only [Prod.mk.injEq] using e2
 have a:=hs os
 have b:=hv os
 unfold openEnds
 rw [e1]
 show (topFrom treeTable p w N ⟨boot_heap w.params,Array.mk [],boot_drawn,boot_toks,os⟩).map F=some v
 unfold topFrom
 dsimp only
 rw [hi]
 dsimp only
 cases hx:topRun treeTable p w (boot_heap w.params).objs.size ((boot_heap w.params).nsMap mainGlobals "__annotations__") N ⟨boot_heap w.params,Array.mk [],boot_drawn,boot_toks,os⟩ (topStub p) with
 | none=>rw [hx] at b; cases b
 | some s1 =>
   rw [hx] at a b
   have a':=Option.some.inj a
   dsimp only at a'
   show Option.map F (match _ with | true=>some s1 | false=>none)=some v
   rw [a']
   exact b
noncomputable abbrev My.X (w:World) (os:OsState):Option Shared:=topRun treeTable PySem.Challenge.pw_aheadword_k71_texts_refused w (boot_heap w.params).objs.size ((boot_heap w.params).nsMap mainGlobals "__annotations__") 4778 ⟨boot_heap w.params,Array.mk [],boot_drawn,boot_toks,os⟩ (topStub PySem.Challenge.pw_aheadword_k71_texts_refused)
theorem My.fst_snd {S A B:Type} {x:Option S} (F:S->A × B) (v:A × B) (h1:x.map (fun s=>(F s).1)=some v.1) (h2:x.map (fun s=>(F s).2)=some v.2):x.map F=some v:=by
 cases x with
 | none=>cases h1
 | some s=>exact congrArg some (Prod.ext (Option.some.inj h1) (Option.some.inj h2))
set_option maxRecDepth 100000 in
set_option maxHeartbeats 0 in
theorem My.left1d (w:World) (os:OsState):(My.X w os).map (fun s=>(openSeen My.view [] (importedModules PySem.Challenge.pw_aheadword_k71_texts_refused.main.body) (fun s=>xlAt My.view [] s && recOk [] s) true s).2.2.2)=some ((openGood My.view []).2.2.2):=by delta My.X; rw [Fast.te14082659384304107361,Fast.te14364793385576792824,Fast.te4187177175401517315]; kernel_rfl
set_option maxRecDepth 100000 in
set_option maxHeartbeats 0 in
theorem My.left1c (w:World) (os:OsState):(My.X w os).map (fun s=>(openSeen My.view [] (importedModules PySem.Challenge.pw_aheadword_k71_texts_refused.main.body) (fun s=>xlAt My.view [] s && recOk [] s) true s).2.2.1)=some ((openGood My.view []).2.2.1):=by delta My.X; rw [Fast.te14082659384304107361,Fast.te14364793385576792824,Fast.te4187177175401517315]; kernel_rfl
set_option maxRecDepth 100000 in
set_option maxHeartbeats 0 in
theorem My.left1b (w:World) (os:OsState):(My.X w os).map (fun s=>(openSeen My.view [] (importedModules PySem.Challenge.pw_aheadword_k71_texts_refused.main.body) (fun s=>xlAt My.view [] s && recOk [] s) true s).2.1)=some ((openGood My.view []).2.1):=by delta My.X; rw [Fast.te14082659384304107361,Fast.te14364793385576792824,Fast.te4187177175401517315]; kernel_rfl
set_option maxRecDepth 100000 in
set_option maxHeartbeats 0 in
theorem My.left1a (w:World) (os:OsState):(My.X w os).map (fun s=>(openSeen My.view [] (importedModules PySem.Challenge.pw_aheadword_k71_texts_refused.main.body) (fun s=>xlAt My.view [] s && recOk [] s) true s).1)=some ((openGood My.view []).1):=by delta My.X; rw [Fast.te14082659384304107361,Fast.te14364793385576792824,Fast.te4187177175401517315]; kernel_rfl
set_option maxRecDepth 100000 in
set_option maxHeartbeats 0 in
theorem My.leftS (w:World) (os:OsState):(My.X w os).map (fun s=>staticsOk (importedModules PySem.Challenge.pw_aheadword_k71_texts_refused.main.body) (boot_heap w.params) s.heap && namesBound PySem.Challenge.pw_aheadword_k71_texts_refused s.heap && gensDone s && laidKept (boot_heap w.params) s.heap)=some true:=by delta My.X; rw [Fast.te14082659384304107361,Fast.te14364793385576792824]; kernel_rfl
theorem My.left_boot {β:Type} (w:World) {F:Shared->β} {v:β} (hv:∀ os,(My.X w os).map F=some v):(openEnds treeTable PySem.Challenge.pw_aheadword_k71_texts_refused w 4778).map F=some v :=
 My.left_gen w (boot_open (p:=PySem.Challenge.pw_aheadword_k71_texts_refused) (N:=4778) (by kernel_rfl) (by kernel_rfl) (fun s=>by kernel_rfl) w) (by kernel_rfl) (My.leftS w) hv
theorem My.left1 (w:World) (os:OsState):(My.X w os).map (fun s=>(openSeen My.view [] (importedModules PySem.Challenge.pw_aheadword_k71_texts_refused.main.body) (fun s=>xlAt My.view [] s && recOk [] s) true s))=some (openGood My.view []):=My.fst_snd (fun s=>(openSeen My.view [] (importedModules PySem.Challenge.pw_aheadword_k71_texts_refused.main.body) (fun s=>xlAt My.view [] s && recOk [] s) true s)) (openGood My.view []) (My.left1a w os) (My.fst_snd (fun s=>(openSeen My.view [] (importedModules PySem.Challenge.pw_aheadword_k71_texts_refused.main.body) (fun s=>xlAt My.view [] s && recOk [] s) true s).2) (openGood My.view []).2 (My.left1b w os) (My.fst_snd (fun s=>(openSeen My.view [] (importedModules PySem.Challenge.pw_aheadword_k71_texts_refused.main.body) (fun s=>xlAt My.view [] s && recOk [] s) true s).2.2) (openGood My.view []).2.2 (My.left1c w os) (My.left1d w os)))
theorem My.left (w:World):(openEnds treeTable PySem.Challenge.pw_aheadword_k71_texts_refused w 4778).map (fun s=>(openSeen My.view [] (importedModules PySem.Challenge.pw_aheadword_k71_texts_refused.main.body) (fun s=>xlAt My.view [] s && recOk [] s) true s))=some (openGood My.view []):=My.left_boot w fun os=>My.left1 w os
set_option maxRecDepth 100000 in
set_option maxHeartbeats 0 in
theorem My.headL (main:∀ (q:Program) (loose:List Str) (XP:(Str->Option Value)->Heap->Prop) (YP:World->Heap->Prop) (d:DefRec) (K:Params->W.Frag),PySem.Challenge.rw_aheadword_k71_texts_refused.most=some 63->d.params.defaults=[]->d.name="law"->(∀ (w:World) (h:Heap),YP w h->(K w.params).In h)->(∀ w:World,My.Fx (K w.params))->W.WalkO q loose XP YP PySem.Challenge.rw_aheadword_k71_texts_refused.row.toRowW d [] (fun f vs=>PySem.call f vs)):PySem.Challenge.rw_aheadword_k71_texts_refused.Holds:=by
 w_on; o_law; k_head; (case hl=>intro w; refine My.pair_map (My.left w) (My.left_boot w fun os=>?_); delta My.X; rw [Fast.te14082659384304107361,Fast.te14364793385576792824]; kernel_rfl); (case hw=>w_witness2)
 k_fill
 refine main _ _ _ _ _ _ rfl rfl rfl (fun w h Y=>W.kIn_of Y) fun w R hR=>?_
 refine' hR ?aC_Wood ?awi ?iwi ?lwi ?cwi ?kwi ?awq ?iwq ?lwq ?cwq ?kwq ?awb ?iwb ?lwb ?cwb ?kwb ?aww ?iww ?lww ?cww ?kww ?pg_Wood ?hd_Wood ?po_Wood ?sa_Wood ?mk_Wood ?kc_Wood ?n_Wood_marks ?n_Wood_now ?aC_NoText ?aC_AheadError ?ani ?ini ?lni ?cni ?kni ?a1 ?l1 ?c1 ?k1 ?a2 ?l2 ?c2 ?k2 ?a3 ?l3 ?c3 ?k3 ?a4 ?l4 ?c4 ?k4 ?aig ?lig ?cig ?kig ?anu ?lnu ?cnu ?knu ?arf ?lrf ?crf ?krf ?arw ?lrw ?crw ?krw ?aca ?lca ?cca ?kca ?abx ?lbx ?cbx ?kbx ?ata ?lta ?cta ?kta ?awo ?lwo ?cwo ?kwo ?apo ?lpo ?cpo ?kpo ?aco ?lco ?cco ?kco ?asa ?lsa ?csa ?ksa ?aiw ?liw ?ciw ?kiw ?anm ?lnm ?cnm ?knm ?abt ?lbt ?cbt ?kbt ?abe ?lbe ?cbe ?kbe ?adu ?ldu ?cdu ?kdu ?afo ?lfo ?cfo ?kfo ?alw ?llw ?clw ?klw ?z_len ?z_range ?z_all ?z_max ?z_min ?z_sorted ?z_isinstance ?z_bool ?z_int ?z_str ?z_list ?z_tuple ?z_enumerate ?t_ss ?t_ii ?t_ib ?t_tt ?t_ll ?t_lt ?t_st ?t_it ?t_sl ?t_il ?t_is ?t_nt ?t_nl ?t_ni ?t_si ?q_MOST_SIGNS ?q_MOST_PARTS ?q_MOST_LETTERS ?q_MOST_FIGURES ?xe7 ?xc7 ?xr ?xsp ?xrd ?xfc ?xtt
 (case aC_Wood=>k_is); (case awi=>k_is); (case iwi=>k_is); (case lwi=>k_is); (case cwi=>k_is); (case kwi=>k_is); (case awq=>k_is); (case iwq=>k_is); (case lwq=>k_is); (case cwq=>k_is); (case kwq=>k_is); (case awb=>k_is); (case iwb=>k_is); (case lwb=>k_is); (case cwb=>k_is); (case kwb=>k_is); (case aww=>k_is); (case iww=>k_is); (case lww=>k_is); (case cww=>k_is); (case kww=>k_is); (case pg_Wood=>k_is); (case hd_Wood=>k_is); (case po_Wood=>k_is); (case sa_Wood=>k_is); (case mk_Wood=>k_is); (case kc_Wood=>k_is); (case n_Wood_marks=>k_is); (case n_Wood_now=>k_is); (case aC_NoText=>k_is); (case aC_AheadError=>k_is); (case ani=>k_is); (case ini=>k_is); (case lni=>k_is); (case cni=>k_is); (case kni=>k_is); (case a1=>k_is); (case l1=>k_is); (case c1=>k_is); (case k1=>k_is); (case a2=>k_is); (case l2=>k_is); (case c2=>k_is); (case k2=>k_is); (case a3=>k_is); (case l3=>k_is); (case c3=>k_is); (case k3=>k_is); (case a4=>k_is); (case l4=>k_is); (case c4=>k_is); (case k4=>k_is); (case aig=>k_is); (case lig=>k_is); (case cig=>k_is); (case kig=>k_is); (case anu=>k_is); (case lnu=>k_is); (case cnu=>k_is); (case knu=>k_is); (case arf=>k_is); (case lrf=>k_is); (case crf=>k_is); (case krf=>k_is); (case arw=>k_is); (case lrw=>k_is); (case crw=>k_is); (case krw=>k_is); (case aca=>k_is); (case lca=>k_is); (case cca=>k_is); (case kca=>k_is); (case abx=>k_is); (case lbx=>k_is); (case cbx=>k_is); (case kbx=>k_is); (case ata=>k_is); (case lta=>k_is); (case cta=>k_is); (case kta=>k_is); (case awo=>k_is); (case lwo=>k_is); (case cwo=>k_is); (case kwo=>k_is); (case apo=>k_is); (case lpo=>k_is); (case cpo=>k_is); (case kpo=>k_is); (case aco=>k_is); (case lco=>k_is); (case cco=>k_is); (case kco=>k_is); (case asa=>k_is); (case lsa=>k_is); (case csa=>k_is); (case ksa=>k_is); (case aiw=>k_is); (case liw=>k_is); (case ciw=>k_is); (case kiw=>k_is); (case anm=>k_is); (case lnm=>k_is); (case cnm=>k_is); (case knm=>k_is); (case abt=>k_is); (case lbt=>k_is); (case cbt=>k_is); (case kbt=>k_is); (case abe=>k_is); (case lbe=>k_is); (case cbe=>k_is); (case kbe=>k_is); (case adu=>k_is); (case ldu=>k_is); (case cdu=>k_is); (case kdu=>k_is); (case afo=>k_is); (case lfo=>k_is); (case cfo=>k_is); (case kfo=>k_is); (case alw=>k_is); (case llw=>k_is); (case clw=>k_is); (case klw=>k_is); (case z_len=>k_is); (case z_range=>k_is); (case z_all=>k_is); (case z_max=>k_is); (case z_min=>k_is); (case z_sorted=>k_is); (case z_isinstance=>k_is); (case z_bool=>k_is); (case z_int=>k_is); (case z_str=>k_is); (case z_list=>k_is); (case z_tuple=>k_is); (case z_enumerate=>k_is); (case t_ss=>kit_is); (case t_ii=>kit_is); (case t_ib=>kit_is); (case t_tt=>kit_is); (case t_ll=>kit_is); (case t_lt=>kit_is); (case t_st=>kit_is); (case t_it=>kit_is); (case t_sl=>kit_is); (case t_il=>kit_is); (case t_is=>kit_is); (case t_nt=>kit_is); (case t_nl=>kit_is); (case t_ni=>kit_is); (case t_si=>kit_is); (case q_MOST_SIGNS=>k_is); (case q_MOST_PARTS=>k_is); (case q_MOST_LETTERS=>k_is); (case q_MOST_FIGURES=>k_is); (case xe7=>kernel_rfl); (case xc7=>kernel_rfl); (case xr=>kernel_rfl); (case xsp=>kernel_rfl); (case xrd=>kernel_rfl); (case xfc=>kernel_rfl); (case xtt=>kernel_rfl)
end
set_option maxRecDepth 100000
namespace L2
open PySem PySem.Spec PyProof.Rows
noncomputable abbrev Key:=Sum Int Str
noncomputable def keyIs:Key->Value->Bool
 | .inl k,v=>Value.isInt k v
 | .inr x,v=>Value.isStrOf x v
noncomputable def keyH (w:World):Key->Int
 | .inl k=>hashInt k
 | .inr x=>hashStr w x
theorem keyIs_shape:∀ {k:Key} {v:Value},keyIs k v=true->(∃ i t,k=Sum.inl i /\ v=Value.int i t) \/ (∃ x t,k=Sum.inr x /\ v=Value.str x t)
 | .inl i,v,h=>by
   obtain ⟨t,e⟩:=Value.isInt_shape (k:=i) (v:=v) h
   exact .inl ⟨i,t,rfl,e⟩
 | .inr x,v,h=>by
   obtain ⟨t,e⟩:=Value.isStrOf_shape (x:=x) (v:=v) h
   exact .inr ⟨x,t,rfl,e⟩
theorem keyIs_int (i:Int) (t:Tok):keyIs (.inl i) (.int i t)=true:=by simp [keyIs,Value.isInt]
theorem keyIs_str (x:Str) (t:Tok):keyIs (.inr x) (.str x t)=true:=by simp [keyIs,Value.isStrOf]
theorem key_ll (a b:Int):decide ((Sum.inl a:Key)=Sum.inl b)=(a == b):=by
 by_cases e:a=b
 . subst e; simp
 . have h:¬ (Sum.inl a:Key)=Sum.inl b:=fun q=>e (Sum.inl.inj q)
   rw [decide_eq_false h]
   exact (beq_eq_false_iff_ne.mpr e).symm
theorem key_rr (a b:Str):decide ((Sum.inr a:Key)=Sum.inr b)=decide (a=b):=by
 by_cases e:a=b
 . subst e; simp
 . have h:¬ (Sum.inr a:Key)=Sum.inr b:=fun q=>e (Sum.inr.inj q)
   rw [decide_eq_false h,decide_eq_false e]
theorem key_lr (a:Int) (b:Str):decide ((Sum.inl a:Key)=Sum.inr b)=false:=decide_eq_false (fun q=>nomatch q)
theorem key_rl (a:Str) (b:Int):decide ((Sum.inr a:Key)=Sum.inl b)=false:=decide_eq_false (fun q=>nomatch q)
noncomputable def mixKind (prog:Program) (w:World):PySem.KeyKind prog w Key where
 is:=keyIs
 hash:=keyH w
 inj:=fun v a b ha hb=>by
   rcases keyIs_shape ha with ⟨i,t,rfl,rfl⟩ | ⟨x,t,rfl,rfl⟩
   . rcases keyIs_shape hb with ⟨j,u,rfl,e⟩ | ⟨y,u,rfl,e⟩
     . injection e with e1 _; rw [e1]
     . exact nomatch e
   . rcases keyIs_shape hb with ⟨j,u,rfl,e⟩ | ⟨y,u,rfl,e⟩
     . exact nomatch e
     . injection e with e1 _; rw [e1]
 byValue:=fun k v h=>by
   rcases keyIs_shape h with ⟨i,t,rfl,rfl⟩ | ⟨x,t,rfl,rfl⟩ <;> rfl
 pyHash:=fun hv h=>by
   rcases keyIs_shape hv with ⟨i,t,rfl,rfl⟩ | ⟨x,t,rfl,rfl⟩
   . exact wpAny_pyHash_int h
   . exact wpAny_pyHash_str h
 eqBool:=fun hu hv h=>by
   rcases keyIs_shape hu with ⟨i,t,rfl,rfl⟩ | ⟨x,t,rfl,rfl⟩
   . rcases keyIs_shape hv with ⟨j,u,rfl,rfl⟩ | ⟨y,u,rfl,rfl⟩
     . rw [key_ll] at h; exact wpAny_eqBool_int h
     . rw [key_lr] at h; exact SeqAt.EqAt.int_str i t y u _ _ _ _ h
   . rcases keyIs_shape hv with ⟨j,u,rfl,rfl⟩ | ⟨y,u,rfl,rfl⟩
     . rw [key_rl] at h; exact SeqAt.EqAt.str_int x t j u _ _ _ _ h
     . rw [key_rr] at h; exact wpAny_eqBool_str h
 «strs»:=fun k x t v h=>by
   rcases keyIs_shape h with ⟨i,u,rfl,e⟩ | ⟨y,u,rfl,e⟩
   . exact nomatch e
   . injection e with e1 _
     subst e1
     cases v <;> rfl
theorem mixKind_int (prog:Program) (w:World) (i:Int) (t:Tok):(mixKind prog w).is (.inl i) (.int i t)=true:=keyIs_int i t
theorem mixKind_str (prog:Program) (w:World) (x:Str) (t:Tok):(mixKind prog w).is (.inr x) (.str x t)=true:=keyIs_str x t
end L2
namespace L2
open PySem PySem.Spec PyProof.Rows
inductive V where
 | non | bl (b:Bool) | int (i:Int) | str (x:Str) | byt (b:Array UInt8) | flt (b:UInt64) | ref (a:Addr) | ty (n:String)
 deriving DecidableEq
noncomputable def RelV:V->Value->Prop
 | .non,u=>u=Value.none
 | .bl b,u=>u=Value.bool b
 | .int i,u=>∃ t,u=Value.int i t
 | .str x,u=>∃ t,u=Value.str x t
 | .byt b,u=>∃ t,u=Value.bytes b t
 | .flt b,u=>∃ t,u=Value.float b t
 | .ref a,u=>u=Value.ref a
 | .ty n,u=>u=Value.type n
noncomputable abbrev Vals:List V->List Value->Prop:=Paired RelV
theorem Vals.length {xs:List V} {us:List Value} (r:Vals xs us):xs.length=us.length:=Paired.length r
theorem Vals.get:∀ {xs:List V} {us:List Value} {i:Nat} {x:V},Vals xs us->xs[i]?=some x->∃ u,us[i]?=some u /\ RelV x u
 | _,_,_,_,.nil,e=>by simp at e
 | _,_,0,_,.cons r _,e=>by simp at e; subst e; exact ⟨_,rfl,r⟩
 | _,_,i + 1,x,.cons _ t,e=>by
   obtain ⟨u,h1,h2⟩:=Vals.get (i:=i) (x:=x) t (by simpa using e)
   exact ⟨u,by simpa using h1,h2⟩
theorem Vals.set {x:V} {u:Value} (r:RelV x u):∀ {xs:List V} {us:List Value} (i:Nat),Vals xs us->Vals (xs.set i x) (us.set i u)
 | _,_,_,.nil=>.nil
 | _,_,0,.cons _ t=>.cons r t
 | _,_,i + 1,.cons q t=>.cons q (Vals.set r i t)
theorem Vals.append:∀ {xs ys:List V} {us ws:List Value},Vals xs us->Vals ys ws->Vals (xs ++ ys) (us ++ ws)
 | _,_,_,_,.nil,s=>s
 | _,_,_,_,.cons r t,s=>.cons r (Vals.append t s)
theorem Vals.take:∀ {xs:List V} {us:List Value} (n:Nat),Vals xs us->Vals (xs.take n) (us.take n)
 | _,_,0,_=>.nil
 | _,_,_ + 1,.nil=>.nil
 | _,_,n + 1,.cons r t=>.cons r (Vals.take n t)
theorem Vals.drop:∀ {xs:List V} {us:List Value} (n:Nat),Vals xs us->Vals (xs.drop n) (us.drop n)
 | _,_,0,r=>r
 | _,_,_ + 1,.nil=>.nil
 | _,_,n + 1,.cons _ t=>Vals.drop n t
theorem Vals.none_of:∀ {xs:List V} {us:List Value} {i:Nat},Vals xs us->xs[i]?=none->us[i]?=none:=fun {xs us i} r e=>by
 have h1:=r.length
 have h2:xs.length <= i:=List.getElem?_eq_none_iff.mp e
 exact List.getElem?_eq_none_iff.mpr (by omega)
noncomputable def RelO:Option V->Option Value->Prop
 | some v,some u=>RelV v u
 | none,none=>True
 | _,_=>False
noncomputable def KV {κ:Type}:List (κ × V)->List (κ × Value)->Prop:=Paired fun (p:κ × V) (q:κ × Value)=>p.1=q.1 /\ RelV p.2 q.2
noncomputable def kV:Key->V
 | .inl i=>.int i
 | .inr x=>.str x
inductive HO where
   | lst (xs:List V)
   | tup (xs:List V)
   | dK (kvs:List (Key × V)) | dT (kvs:List (List Key × V))
   | set (S:Int->Bool) (n:Nat)
   | ins (C dx:Addr) (fs:List (Str × V))
   | own (x:Addr)
   | xd (fs:List (Str × V))
   | met (f x:Addr)
   | rng (lo hi:Int)
   | frz (o:Obj) (u:HO)
   | tbl (ps:Array Value)
   | ext (φ:Heap->Prop)
noncomputable abbrev Hp:=Addr->Option HO
noncomputable def upd (H:Hp) (a:Addr) (o:HO):Hp:=fun b=>if b=a then some o else H b
theorem upd_same {H:Hp} {a:Addr} {o:HO}:upd H a o a=some o:=by unfold upd; rw [if_pos rfl]
theorem upd_ne {H:Hp} {a b:Addr} {o:HO} (h:b ≠ a):upd H a o b=H b:=by unfold upd; rw [if_neg h]
theorem upd_upd {H:Hp} {a:Addr} {o u:HO}:upd (upd H a o) a u=upd H a u:=by
 funext b; unfold upd; split <;> rfl
theorem ne_of {H:Hp} {a b:Addr} {o u:HO} (h:H a=some o) (h':H b=some u) (d:o ≠ u):a ≠ b:=by
 intro e; subst e; rw [h] at h'; exact d (Option.some.inj h')
theorem ne_of_none {H:Hp} {a b:Addr} {o:HO} (h:H a=some o) (h':H b=none):a ≠ b:=by
 intro e; subst e; rw [h] at h'; cases h'
section
variable (P:Program) (w:World)
noncomputable def ObjOk (H:Hp) (h:Heap) (a:Addr):HO->Prop
 | .lst xs=>xs.length <= sizeLine /\ ∃ (its:List Value) (n:Nat),Vals xs its /\ h.get? a=some { cls:=.type "list",data:=.seq its.toArray n }
 | .tup xs=>xs.length <= sizeLine /\ ∃ its:List Value,Vals xs its /\ IsTup h a its.toArray
 | .dK kvs=>kvs.length <= sizeLine /\ (a == sysModules)=false /\ ∃ vs,KV kvs vs /\ h.DictOf (mixKind P w) a vs
 | .dT kvs=>kvs.length <= sizeLine /\ (a == sysModules)=false /\ ∃ xs:List (List Key × Addr × Value),
     Paired (fun (p:List Key × V) (q:List Key × Addr × Value)=>p.1=q.1 /\ H q.2.1=some (.tup (p.1.map kV)) /\ RelV p.2 q.2.2) kvs xs /\
     ∃ o es ep,h.get? a=some o /\ o.ExactDict /\ o.data=.dict es ep /\ es.toList=xs.map (entryOfKey (tupleKind (mixKind P w))) /\ (xs.map (·.1)).Nodup
 | .set S n=>h.SetOf (intKind P w) a S n
 | .ins C dx fs=>H dx=some (.own a) /\ fs.length <= 1000 /\ dx ≠ a /\ h.get? a=some (PySem.W.instObj C dx) /\
     ∃ mA,h.Ns1 dx mA /\ (∀ f,RelO (fs.lookup f) (mA f)) /\ PySem.Within mA (fs.map (·.1))
 | .own _=>∃ o,h.get? a=some o
 | .xd fs=>∃ mA,h.Ns1 a mA /\ ∀ f,RelO (fs.lookup f) (mA f)
 | .rng lo hi=>∃ t u v,h.get? a=some { cls:=.type "range",data:=.fields #[.int lo t,.int hi u,.int 1 v] }
 | .frz o u=>h.get? a=some o /\ ObjOk H h a u
 | .tbl ps=>h.get? a=some { cls:=.none,data:=.fields ps }
 | .met f x=>h.get? a=some (PySem.W.methodObj (.ref f) (.ref x))
 | .ext φ=>φ h /\ (∃ o,h.get? a=some o) /\ ∀ h1 h2:Heap,φ h1->(∀ o,h1.get? a=some o->h2.get? a=some o)->φ h2
noncomputable def HOk (H:Hp) (h:Heap):Prop:=∀ a o,H a=some o->ObjOk P w H h a o
end
section
variable {P:Program} {w:World} {H H':Hp} {h h':Heap} {a:Addr} {o:HO}
theorem ObjOk.lt (x:ObjOk P w H h a o):a < h.objs.size:=by
 cases o with
 | lst xs=>obtain ⟨_,_,_,_,e⟩:=x; exact Heap.lt_size e
 | tup xs=>obtain ⟨_,_,_,p⟩:=x; exact p.lt
 | dK kvs=>obtain ⟨_,_,_,_,o,_,_,e,_⟩:=x; exact Heap.lt_size e
 | dT kvs=>obtain ⟨_,_,_,_,o,_,_,e,_⟩:=x; exact Heap.lt_size e
 | set S n=>obtain ⟨o,_,_,_,e,_⟩:=x; exact Heap.lt_size e
 | ins C dx fs=>obtain ⟨_,_,_,e,_⟩:=x; exact Heap.lt_size e
 | own y=>obtain ⟨_,e⟩:=x; exact Heap.lt_size e
 | xd fs=>obtain ⟨_,⟨_,_,_,e,_⟩,_⟩:=x; exact Heap.lt_size e
 | rng lo hi=>obtain ⟨_,_,_,e⟩:=x; exact Heap.lt_size e
 | frz ob u=>obtain ⟨e,_⟩:=x; exact Heap.lt_size e
 | tbl ps=>exact Heap.lt_size (show h.get? a=some _ from x)
 | met f y=>exact Heap.lt_size (show h.get? a=some _ from x)
 | ext φ=>obtain ⟨_,⟨_,e⟩,_⟩:=x; exact Heap.lt_size e
theorem Paired.mapP {α β:Type} {F G:α->β->Prop}:∀ {l₁:List α} {l₂:List β},Paired F l₁ l₂->(∀ a b,F a b->G a b)->Paired G l₁ l₂
 | _,_,.nil,_=>.nil
 | _,_,.cons r t,f=>.cons (f _ _ r) (Paired.mapP t f)
theorem ObjOk.stay (x:ObjOk P w H h a o) (k:∀ b u,(b=a \/ H b=some (.own a))->h.get? b=some u->h'.get? b=some u)
   (ho:∀ b,H b=some (.own a)->H' b=some (.own a)) (ht:∀ b xs,H b=some (.tup xs)->H' b=some (.tup xs)):ObjOk P w H' h' a o:=by
 induction o with
 | lst xs=>obtain ⟨z,its,n,r,e⟩:=x; exact ⟨z,its,n,r,k _ _ (.inl rfl) e⟩
 | tup xs=>obtain ⟨z,its,r,ob,e,c⟩:=x; exact ⟨z,its,r,ob,k _ _ (.inl rfl) e,c⟩
 | dK kvs=>obtain ⟨z,y,vs,r,ob,es,ep,e,c⟩:=x; exact ⟨z,y,vs,r,ob,es,ep,k _ _ (.inl rfl) e,c⟩
 | dT kvs =>
   obtain ⟨z,y,xs,r,ob,es,ep,e,c⟩:=x
   exact ⟨z,y,xs,Paired.mapP r fun p q z=>⟨z.1,ht _ _ z.2.1,z.2.2⟩,ob,es,ep,k _ _ (.inl rfl) e,c⟩
 | set S n=>obtain ⟨ob,es,ep,t,e,c⟩:=x; exact ⟨ob,es,ep,t,k _ _ (.inl rfl) e,c⟩
 | ins C dx fs =>
   obtain ⟨d,z,ne,e,mA,⟨od,es,ep,e2,c⟩,r⟩:=x
   exact ⟨ho _ d,z,ne,k _ _ (.inl rfl) e,mA,⟨od,es,ep,k _ _ (.inr d) e2,c⟩,r⟩
 | own y=>obtain ⟨ob,e⟩:=x; exact ⟨ob,k _ _ (.inl rfl) e⟩
 | xd fs=>obtain ⟨mA,⟨od,es,ep,e,c⟩,r⟩:=x; exact ⟨mA,⟨od,es,ep,k _ _ (.inl rfl) e,c⟩,r⟩
 | rng lo hi=>obtain ⟨t,u,v,e⟩:=x; exact ⟨t,u,v,k _ _ (.inl rfl) e⟩
 | frz ob u ih=>obtain ⟨e,q⟩:=x; exact ⟨k _ _ (.inl rfl) e,ih q⟩
 | tbl ps =>
   have e:h.get? a=some { cls:=.none,data:=.fields ps }:=x
   show h'.get? a=some { cls:=.none,data:=.fields ps }
   exact k a _ (.inl rfl) e
 | met f y =>
   have e:h.get? a=some (PySem.W.methodObj (.ref f) (.ref y)):=x
   show h'.get? a=some (PySem.W.methodObj (.ref f) (.ref y))
   exact k a _ (.inl rfl) e
 | ext φ=>obtain ⟨p,⟨o,e⟩,st⟩:=x; exact ⟨st _ _ p fun o q=>k _ _ (.inl rfl) q,⟨o,k _ _ (.inl rfl) e⟩,st⟩
theorem HOk.lt (x:HOk P w H h) (e:H a=some o):a < h.objs.size:=(x a o e).lt
theorem HOk.fresh (x:HOk P w H h) (e:h.objs.size <= a):H a=none:=by
 cases q:H a with
 | none=>rfl
 | some u=>exact absurd (Nat.lt_of_lt_of_le (x.lt q) e) (Nat.lt_irrefl _)
theorem HOk.kept (x:HOk P w H h) (k:∀ b u,h.get? b=some u->h'.get? b=some u):HOk P w H h':=fun a o e =>
 (x a o e).stay (fun b u _ q=>k b u q) (fun _ q=>q) fun _ _ q=>q
theorem HOk.laid (x:HOk P w H h) (k:∀ b u,h.get? b=some u->h'.get? b=some u) (hp:h.objs.size <= a) (new:ObjOk P w (upd H a o) h' a o):HOk P w (upd H a o) h':=fun b u e=>by
 have hn:=x.fresh hp
 by_cases hb:b=a
 . subst hb; rw [upd_same] at e; cases e; exact new
 . rw [upd_ne hb] at e
   exact (x b u e).stay (fun c v _ q=>k c v q) (fun c q=>by rw [upd_ne (ne_of_none q hn)]; exact q) fun c xs q=>by rw [upd_ne (ne_of_none q hn)]; exact q
end
noncomputable def Rd (H:Hp) (a:Addr) (u:HO):Prop:=H a=some u \/ ∃ o,H a=some (.frz o u)
theorem Rd.of {H:Hp} {a:Addr} {u:HO} (h:H a=some u):Rd H a u:=.inl h
theorem Rd.ok {P:Program} {w:World} {H:Hp} {h:Heap} {a:Addr} {u:HO} (r:Rd H a u) (x:HOk P w H h):ObjOk P w H h a u:=by
 rcases r with r | ⟨o,r⟩
 . exact x a u r
 . obtain ⟨_,q⟩:=x a _ r
   exact q
noncomputable def Mut:Option HO->Prop
 | some (.lst _)=>True
 | some (.dK _)=>True
 | some (.dT _)=>True
 | some (.set _ _)=>True
 | some (.ins _ _ _)=>True
 | some (.ext _)=>True
 | _=>False
section
variable {P:Program} {w:World} {H:Hp} {h h':Heap} {x e:Addr} {o':HO}
theorem HOk.write (ok:HOk P w H h) (mu:Mut (H x)) (he:e=x \/ H e=some (.own x)) (k:∀ b u,b ≠ e->h.get? b=some u->h'.get? b=some u) (heo:∃ u,h'.get? e=some u)
   (new:ObjOk P w (upd H x o') h' x o'):HOk P w (upd H x o') h':=fun b u q=>by
 have nown:∀ c y,H c=some (.own y)->c ≠ x:=fun c y r z=>by subst z; rw [r] at mu; exact mu
 have ntup:∀ c xs,H c=some (.tup xs)->c ≠ x:=fun c xs r z=>by subst z; rw [r] at mu; exact mu
 by_cases hb:b=x
 . subst hb; rw [upd_same] at q; cases q; exact new
 . rw [upd_ne hb] at q
   by_cases hbe:b=e
   . have q':H b=some (.own x):=by
       rcases he with z | z
       . exact absurd (hbe.trans z) hb
       . rw [hbe]; exact z
     rw [q] at q'; cases q'
     obtain ⟨v,hv⟩:=heo
     exact ⟨v,by rw [hbe]; exact hv⟩
   . refine (ok b u q).stay (fun c v hc r=>k c v ?_ r) (fun c r=>by rw [upd_ne (nown c b r)]; exact r) fun c xs r=>by rw [upd_ne (ntup c xs r)]; exact r
     rcases hc with rfl | hc
     . exact hbe
     . rintro rfl
       rcases he with z | z
       . exact nown c b hc z
       . rw [hc] at z; cases z; exact hb rfl
end
structure Un (fs ex:List Addr) (H H':Hp) (h h':Heap):Prop where
 keep:∀ b o,h.get? b=some o->H b=none->b ∉ fs->b ∉ ex->h'.get? b=some o
 slot:∀ b o,h.get? b=some o->H b=none->b ∈ fs->b ∉ ex->∃ sl,h'.get? b=some { o with slots:=sl }
 free:∀ b o,h.get? b=some o->H b=none->b ∉ ex->H' b=none
 there:∀ b o,h.get? b=some o->b ∉ ex->∃ o',h'.get? b=some o'
 tups:∀ b xs,H b=some (.tup xs)->H' b=some (.tup xs)
 frzs:∀ b o u,H b=some (.frz o u)->H' b=some (.frz o u)
 tbls:∀ b ps,H b=some (.tbl ps)->∃ more,H' b=some (.tbl (ps ++ more))
section
variable {fs fs' ex ex':List Addr} {H H1 H2:Hp} {h h1 h2 h':Heap} {a x e:Addr} {o:HO}
theorem Un.any (u:Un fs ex H H1 h h1) {b:Addr} {ob:Obj} (q:h.get? b=some ob) (n:H b=none) (hx:b ∉ ex):∃ sl,h1.get? b=some { ob with slots:=sl }:=by
 by_cases hb:b ∈ fs
 . exact u.slot b ob q n hb hx
 . exact ⟨ob.slots,u.keep b ob q n hb hx⟩
theorem Un.trans (a:Un fs ex H H1 h h1) (b:Un fs ex H1 H2 h1 h2):Un fs ex H H2 h h2 where
 keep:=fun c ob q n hc hx=>b.keep c ob (a.keep c ob q n hc hx) (a.free c ob q n hx) hc hx
 slot:=fun c ob q n hc hx=>by
   obtain ⟨sl,e1⟩:=a.slot c ob q n hc hx
   obtain ⟨sl',e2⟩:=b.slot c _ e1 (a.free c ob q n hx) hc hx
   exact ⟨sl',e2⟩
 free:=fun c ob q n hx=>by
   obtain ⟨o',e1⟩:=a.there c ob q hx
   exact b.free c o' e1 (a.free c ob q n hx) hx
 there:=fun c ob q hx=>by
   obtain ⟨o',e1⟩:=a.there c ob q hx
   exact b.there c o' e1 hx
 tups:=fun c xs q=>b.tups c xs (a.tups c xs q)
 frzs:=fun c ob xs q=>b.frzs c ob xs (a.frzs c ob xs q)
 tbls:=fun c ps q=>by
   obtain ⟨m1,e1⟩:=a.tbls c ps q
   obtain ⟨m2,e2⟩:=b.tbls c _ e1
   exact ⟨m1 ++ m2,by rw [e2,Array.append_assoc]⟩
theorem Un.kept (k:∀ b u,h.get? b=some u->h'.get? b=some u):Un fs ex H H h h' :=
 ⟨fun b ob q _ _ _=>k b ob q,fun b ob q _ _ _=>⟨ob.slots,k b ob q⟩,fun _ _ _ n _=>n,fun b ob q _=>⟨ob,k b ob q⟩,fun _ _ q=>q,fun _ _ _ q=>q,fun _ ps q=>⟨#[],by rw [q]; simp⟩⟩
theorem Un.refl:Un fs ex H H h h:=Un.kept fun _ _ q=>q
theorem Un.laid (k:∀ b u,h.get? b=some u->h'.get? b=some u) (hp:h.objs.size <= a) (hn:H a=none):Un fs ex H (upd H a o) h h' where
 keep:=fun b u q _ _ _=>k b u q
 slot:=fun b u q _ _ _=>⟨u.slots,k b u q⟩
 free:=fun b u q n _=>by rw [upd_ne (Nat.ne_of_lt (Nat.lt_of_lt_of_le (Heap.lt_size q) hp))]; exact n
 there:=fun b u q _=>⟨u,k b u q⟩
 tups:=fun b xs q=>by rw [upd_ne (ne_of_none q hn)]; exact q
 frzs:=fun b u xs q=>by rw [upd_ne (ne_of_none q hn)]; exact q
 tbls:=fun b ps q=>⟨#[],by rw [upd_ne (ne_of_none q hn),q]; simp⟩
theorem Un.write (mu:Mut (H x)) (he:e=x \/ H e=some (.own x)) (k:∀ b u,b ≠ e->h.get? b=some u->h'.get? b=some u) (heo:∃ u,h'.get? e=some u):Un fs ex H (upd H x o) h h':=by
 have hx:∀ b,H b=none->b ≠ x:=fun b n z=>by subst z; rw [n] at mu; exact mu
 have hb:∀ b,H b=none->b ≠ e:=fun b n z=>by
   subst z
   rcases he with r | r
   . exact hx b n r
   . rw [n] at r; cases r
 have hm:∀ b u,H b=some u->¬ Mut (some u)->b ≠ x:=fun b u q nm z=>by subst z; rw [q] at mu; exact nm mu
 refine ⟨fun b u q n _ _=>k b u (hb b n) q,fun b u q n _ _=>⟨u.slots,k b u (hb b n) q⟩,fun b u q n _=>by rw [upd_ne (hx b n)]; exact n,fun b u q _=>?_,
   fun b xs q=>by rw [upd_ne (hm b _ q fun z=>z)]; exact q,fun b u xs q=>by rw [upd_ne (hm b _ q fun z=>z)]; exact q,fun b ps q=>⟨#[],by rw [upd_ne (hm b _ q fun z=>z),q]; simp⟩⟩
 by_cases hbe:b=e
 . subst hbe; exact heo
 . exact ⟨u,k b u hbe q⟩
theorem Un.mono (u:Un fs ex H H1 h h1) (hs:∀ b ∈ fs,b ∈ fs') (hx:∀ b ∈ ex,b ∈ ex'):Un fs' ex' H H1 h h1 :=
 ⟨fun b ob q n hb he=>u.keep b ob q n (fun z=>hb (hs b z)) fun z=>he (hx b z),fun _ _ q n _ he=>u.any q n fun z=>he (hx _ z),fun b ob q n he=>u.free b ob q n fun z=>he (hx b z),fun b ob q he=>u.there b ob q fun z=>he (hx b z),u.tups,u.frzs,u.tbls⟩
end
noncomputable def trk (h:Heap) (H:Hp):List Addr:=(List.range h.objs.size).filter fun a=>(H a).isSome
noncomputable def hidT (h:Heap) (H:Hp):Heap:=PySem.W.hideAll h (trk h H)
theorem hidT_size (h:Heap) (H:Hp):(hidT h H).objs.size=h.objs.size:=PySem.W.hideAll_size _ _
theorem hidT_get {h:Heap} {H:Hp} {b:Addr} {o:Obj} (e:h.get? b=some o) (n:H b=none):(hidT h H).get? b=some o :=
 PySem.W.hideAll_get _ e fun hm=>by
   have q:(H b).isSome=true:=(List.mem_filter.mp hm).2
   rw [n] at q; simp at q
theorem of_hidT {h:Heap} {H:Hp} {b:Addr} {o:Obj} (e:(hidT h H).get? b=some o):h.get? b=some o /\ H b=none:=by
 have e':h.get? b=some o:=PySem.W.of_hideAll (trk h H) e
 refine ⟨e',?_⟩
 cases q:H b with
 | none=>rfl
 | some x =>
   have hm:b ∈ trk h H:=List.mem_filter.mpr ⟨List.mem_range.mpr (Heap.lt_size e'),by simp [q]⟩
   have z:(hidT h H).get? b=none:=PySem.W.hideAll_none (trk h H) hm
   rw [z] at e; cases e
noncomputable def allNews (g h:Heap) (L:Addr):List (Addr × Obj):=(List.range h.objs.size).filterMap fun a=>if a=L \/ (g.get? a).isSome=true then none else (h.get? a).map fun o=>(a,o)
noncomputable def rest (g h:Heap) (L d:Addr):List (Addr × Obj):=(allNews g h L).filter fun p=>decide (p.1 ≠ d)
end L2
namespace L2
open PySem PySem.Spec PyProof.Rows
structure Mod (K:PySem.W.Frag) (mg:Str->Option Value) (base:Heap):Prop where
 kin:K.In base
 glob:base.Ns mainGlobals mg
 blt:∃ mb,base.Ns builtinsNs mb /\ ∀ x:Str,x ≠ "__name__"->mb x=bootBuiltins x
 nolimit:base.NoLimit
structure Cx where
 prog:Program
 w:World
 K:PySem.W.Frag
 mg:Str->Option Value
 base:Heap
 A:Around
 N:List Str
 s₀:Shared
 H₀:Hp
 env:Env
 outer:List Env
 stack:List Env
 ex:List Addr
 fn:Str->Bool
 calm:Bool
 pn:List (Addr × Obj)
 xe:Value->Shared->Prop
noncomputable def frs (l:List Env):List Addr:=l.filterMap (·.frame)
noncomputable abbrev Cx.fs (X:Cx):List Addr:=frs X.outer
noncomputable def Vis (sc:Scope) (x:Str):Prop:=sc.names.lookup x=some .local \/ sc.names.lookup x=some .cell \/ sc.names.lookup x=some .free
noncomputable def Loc (sc:Scope) (x:Str):Prop:=sc.names.lookup x=some .local \/ sc.names.lookup x=some .cell
noncomputable def Look (env:Env) (h:Heap) (m:Str->Option Value) (x:Str) (u:Value):Prop :=
 (env.kindOf x=some .local /\ m x=some u) \/ ((env.kindOf x=some .cell \/ env.kindOf x=some .free) /\ ∃ c,env.cells.lookup x=some c /\ h.IsCell c (some u))
structure Cx.Ok (X:Cx):Prop where
 mod:Mod X.K X.mg X.base
 kind:X.env.scope.kind=.function
 glob:X.env.globals=mainGlobals
 blt:X.env.builtins=builtinsNs
 above:X.s₀.heap.objs.size <= X.env.locals
 inj:∀ x y c,X.env.cells.lookup x=some c->X.env.cells.lookup y=some c->x=y
 has:∀ x,(X.env.kindOf x=some .cell \/ X.env.kindOf x=some .free)->∃ c,X.env.cells.lookup x=some c
 cab:∀ x c,X.fn x=true->X.env.cells.lookup x=some c->X.s₀.heap.objs.size <= c
 hd:X.calm=true->X.A.handled=none
 frames:X.A.frames=some X.stack
 stk:X.stack=X.outer \/ (X.stack=X.env :: X.outer /\ X.env.frame=some X.env.locals)
 exf:∀ b ∈ X.ex,b ≠ X.env.locals /\ ∀ x c,X.env.cells.lookup x=some c->c ≠ b
 bs:∀ b o,X.base.get? b=some o->X.s₀.heap.get? b=some o /\ X.H₀ b=none
 bsz:X.base.objs.size <= X.s₀.heap.objs.size
 noex:∀ b o,X.base.get? b=some o->b ∉ X.ex
 exfs:∀ b ∈ X.ex,b ∉ X.fs
 funs:X.s₀.heap.FunFrames X.base X.outer
 frf:∀ b ∈ X.fs,X.H₀ b=none
structure Inv (X:Cx) (pins:List (Addr × Obj)) (σ:List (Option V)) (H:Hp) (s:Shared):Prop where
 ok:X.Ok
 os:s.os=X.s₀.os
 bare:AllBare s.gens
 base:Un X.fs X.ex X.H₀ H X.s₀.heap s.heap
 loc:∃ m,s.heap.Ns X.env.locals m /\ ∀ (i:Nat) (x:Str) (v:V),X.N[i]?=some x->σ[i]?=some (some v)->Vis X.env.scope x->∃ u,RelV v u /\ Look X.env s.heap m x u
 cell:∀ x c,X.env.cells.lookup x=some c->∃ v,s.heap.IsCell c v
 free:H X.env.locals=none
 freeC:∀ x c,X.env.cells.lookup x=some c->H c=none
 pin:∀ p ∈ X.pn ++ pins,s.heap.get? p.1=some p.2 /\ H p.1=none /\ p.1 ≠ X.env.locals /\ p.1 ∉ X.fs /\ ∀ v,p.2.data ≠ .cell v
 hok:HOk X.prog X.w H s.heap
 len:σ.length=X.N.length
section
variable {X:Cx} {pins:List (Addr × Obj)} {σ:List (Option V)} {H H':Hp} {s:Shared} {h':Heap}
theorem Cx.Ok.nofr (ok:X.Ok) {b:Addr} {o:Obj} (e:X.base.get? b=some o):b ∉ X.fs:=fun hb=>by
 have:=(ok.funs.mem hb).1
 rw [e] at this; cases this
theorem Inv.bs (I:Inv X pins σ H s):∀ b o,X.base.get? b=some o->s.heap.get? b=some o /\ H b=none:=fun b o e =>
 ⟨I.base.keep b o (I.ok.bs b o e).1 (I.ok.bs b o e).2 (I.ok.nofr e) (I.ok.noex b o e),I.base.free b o (I.ok.bs b o e).1 (I.ok.bs b o e).2 (I.ok.noex b o e)⟩
theorem Inv.bk (I:Inv X pins σ H s):∀ b o,X.base.get? b=some o->s.heap.get? b=some o:=fun b o e=>(I.bs b o e).1
theorem Inv.mod (I:Inv X pins σ H s):Mod X.K X.mg X.base:=I.ok.mod
theorem Inv.kIn (I:Inv X pins σ H s):X.K.In s.heap:=I.ok.mod.kin.keeps I.bk
theorem Inv.nolimit (I:Inv X pins σ H s):s.heap.NoLimit:=I.ok.mod.nolimit.keeps I.bk
theorem Inv.fr (I:Inv X pins σ H s):∃ m,Fr X.base X.env.locals s.heap m :=
 let ⟨m,hn,_⟩:=I.loc
 ⟨m,hn,I.bk,Nat.le_trans I.ok.bsz I.ok.above⟩
theorem Inv.lt (I:Inv X pins σ H s):X.env.locals < s.heap.objs.size:=let ⟨_,hn,_⟩:=I.loc; hn.lt
theorem Inv.sz (I:Inv X pins σ H s):X.s₀.heap.objs.size <= s.heap.objs.size:=Nat.le_trans I.ok.above (Nat.le_of_lt I.lt)
theorem Inv.nofs (I:Inv X pins σ H s) {a:Addr} (h:s.heap.objs.size <= a):a ∉ X.fs:=fun hb=>by
 obtain ⟨_,o,ho,_⟩:=I.ok.funs.mem hb
 exact absurd (Nat.lt_of_lt_of_le (Heap.lt_size ho) (Nat.le_trans I.sz h)) (Nat.lt_irrefl _)
theorem Inv.cne (I:Inv X pins σ H s):∀ x c,X.env.cells.lookup x=some c->c ≠ X.env.locals:=fun x c e z=>by
 obtain ⟨v,o,ho,hd⟩:=I.cell x c e
 obtain ⟨m,⟨o',es,ep,ho',hd',_⟩,_⟩:=I.loc
 rw [z,ho'] at ho; cases ho; rw [hd'] at hd; cases hd
theorem Inv.funs (I:Inv X pins σ H s):s.heap.FunFrames X.base X.outer:=by
 have all:∀ (l:List Env),(∀ b ∈ frs l,b ∈ X.fs)->X.s₀.heap.FunFrames X.base l->s.heap.FunFrames X.base l:=by
   intro l
   induction l with
   | nil=>intro _ _; trivial
   | cons env r ih =>
     intro hs hl
     obtain ⟨hk,⟨L,o,hf,hn,ho,hd⟩,hr⟩:=hl
     have hL:L ∈ X.fs:=hs L (by unfold frs; rw [List.filterMap_cons,hf]; exact List.mem_cons_self)
     obtain ⟨sl,e⟩:=I.base.slot L o ho (I.ok.frf L hL) hL fun z=>I.ok.exfs L z hL
     exact ⟨hk,⟨L,_,hf,hn,e,hd⟩,ih (fun b hb=>hs b (by unfold frs; rw [List.filterMap_cons,hf]; exact List.mem_cons_of_mem _ hb)) hr⟩
 exact all X.outer (fun _ hb=>hb) I.ok.funs
theorem Inv.stack (I:Inv X pins σ H s):s.heap.FunFrames X.base X.stack:=by
 rcases I.ok.stk with e | ⟨e,hf⟩
 . rw [e]; exact I.funs
 . rw [e]
   obtain ⟨m,hn,_⟩:=I.loc
   refine .cons (by rw [I.ok.kind]; decide) hf hn ?_ I.funs
   exact Heap.get?_none_of_le (Nat.le_trans I.ok.bsz I.ok.above)
theorem Inv.stkSub (I:Inv X pins σ H s):∀ b ∈ frs X.stack,b ∈ X.env.locals :: X.fs:=fun b hb=>by
 rcases I.ok.stk with e | ⟨e,hf⟩
 . rw [e] at hb; exact List.mem_cons_of_mem _ hb
 . rw [e] at hb
   unfold frs at hb
   rw [List.filterMap_cons,hf] at hb
   exact hb
theorem Inv.stkFree (I:Inv X pins σ H s):∀ b ∈ frs X.stack,H b=none:=fun b hb=>by
 rcases List.mem_cons.mp (I.stkSub b hb) with e | hb
 . rw [e]; exact I.free
 . obtain ⟨_,o,ho,_⟩:=I.ok.funs.mem hb
   exact I.base.free b o ho (I.ok.frf b hb) fun z=>I.ok.exfs b z hb
theorem Inv.step {g':Array GenState} {t':Nat} {d':Drawn} {ch:List Addr} (I:Inv X pins σ H s)
   (hch:∀ b ∈ ch,(b ∈ X.ex \/ X.s₀.heap.objs.size <= b) /\ b ≠ X.env.locals /\ (∀ x c,X.env.cells.lookup x=some c->c ≠ b) /\ ∀ p ∈ X.pn ++ pins,p.1 ≠ b)
   (keep:∀ b o,b ≠ X.env.locals->b ∉ X.fs->b ∉ ch->s.heap.get? b=some o->H b=none->h'.get? b=some o)
   (slot:∀ b o,b ≠ X.env.locals->b ∈ X.fs->b ∉ ch->s.heap.get? b=some o->H b=none->∃ sl,h'.get? b=some { o with slots:=sl }) (free:∀ b o,b ∉ ch->s.heap.get? b=some o->H b=none->H' b=none)
   (there:∀ b o,b ∉ ch->s.heap.get? b=some o->∃ o',h'.get? b=some o')
   (tups:∀ b xs,H b=some (.tup xs)->H' b=some (.tup xs)) (frzs:∀ b o u,H b=some (.frz o u)->H' b=some (.frz o u)) (tbls:∀ b ps,H b=some (.tbl ps)->∃ more,H' b=some (.tbl (ps ++ more)))
   (ns:∀ m,s.heap.Ns X.env.locals m->h'.Ns X.env.locals m) (hok:HOk X.prog X.w H' h') (hg:AllBare g') :
   Inv X pins σ H' { s with heap:=h',gens:=g',drawn:=d',toks:=t' }:=by
 have neL:∀ b o,X.s₀.heap.get? b=some o->b ≠ X.env.locals:=fun b o e=>Nat.ne_of_lt (Nat.lt_of_lt_of_le (Heap.lt_size e) I.ok.above)
 have neC:∀ b o,X.s₀.heap.get? b=some o->b ∉ X.ex->b ∉ ch:=fun b o e hx hb=>by
   rcases (hch b hb).1 with z | z
   . exact hx z
   . exact absurd (Nat.lt_of_lt_of_le (Heap.lt_size e) z) (Nat.lt_irrefl _)
 have cellK:∀ x c,X.env.cells.lookup x=some c->∀ v,s.heap.IsCell c v->h'.IsCell c v:=fun x c e v zz1=>by
   obtain ⟨o,ho,hd⟩:=zz1
   have nch:c ∉ ch:=fun z=>(hch c z).2.2.1 x c e rfl
   by_cases hc:c ∈ X.fs
   . obtain ⟨sl,q⟩:=slot c o (I.cne x c e) hc nch ho (I.freeC x c e)
     exact ⟨_,q,hd⟩
   . exact ⟨o,keep c o (I.cne x c e) hc nch ho (I.freeC x c e),hd⟩
 refine ⟨I.ok,I.os,hg,⟨fun b o e n hb hx=>?_,fun b o e n hb hx=>?_,fun b o e n hx=>?_,fun b o e hx=>?_,fun b xs e=>tups b xs (I.base.tups b xs e),fun b o xs e=>frzs b o xs (I.base.frzs b o xs e),fun b ps e=>?_⟩,?_,fun x c e=>?_,?_,fun x c e=>?_,fun p hp=>?_,hok,I.len⟩
 . exact keep b o (neL b o e) hb (neC b o e hx) (I.base.keep b o e n hb hx) (I.base.free b o e n hx)
 . obtain ⟨sl,e1⟩:=I.base.slot b o e n hb hx
   obtain ⟨sl',e2⟩:=slot b _ (neL b o e) hb (neC b o e hx) e1 (I.base.free b o e n hx)
   exact ⟨sl',e2⟩
 . obtain ⟨o',e1⟩:=I.base.there b o e hx
   exact free b o' (neC b o e hx) e1 (I.base.free b o e n hx)
 . obtain ⟨o',e1⟩:=I.base.there b o e hx
   exact there b o' (neC b o e hx) e1
 . obtain ⟨m1,e1⟩:=I.base.tbls b ps e
   obtain ⟨m2,e2⟩:=tbls b _ e1
   exact ⟨m1 ++ m2,by rw [e2,Array.append_assoc]⟩
 . obtain ⟨m,hn,hl⟩:=I.loc
   refine ⟨m,ns m hn,fun i x v e1 e2 e3=>?_⟩
   obtain ⟨u,r,l⟩:=hl i x v e1 e2 e3
   refine ⟨u,r,?_⟩
   rcases l with l | ⟨k,c,e,z⟩
   . exact .inl l
   . exact .inr ⟨k,c,e,cellK x c e _ z⟩
 . obtain ⟨v,z⟩:=I.cell x c e
   exact ⟨v,cellK x c e v z⟩
 . obtain ⟨m,⟨o,_,_,ho,_⟩,_⟩:=I.loc
   exact free _ o (fun z=>(hch _ z).2.1 rfl) ho I.free
 . obtain ⟨v,o,ho,hd⟩:=I.cell x c e
   exact free c o (fun z=>(hch c z).2.2.1 x c e rfl) ho (I.freeC x c e)
 . obtain ⟨e,n,ne,nf,d⟩:=I.pin p hp
   have nch:p.1 ∉ ch:=fun z=>(hch p.1 z).2.2.2 p hp rfl
   exact ⟨keep p.1 p.2 ne nf nch e n,free p.1 p.2 nch e n,ne,nf,d⟩
theorem Inv.un {t':Nat} (I:Inv X pins σ H s) (u:Un X.fs [] H H' s.heap h') (hok:HOk X.prog X.w H' h'):Inv X pins σ H' { s with heap:=h',toks:=t' }:=by
 obtain ⟨m,⟨o,es,ep,ho,r⟩,_⟩:=id I.loc
 obtain ⟨sl,hL⟩:=u.any ho I.free (by simp)
 exact I.step (g':=s.gens) (d':=s.drawn) (ch:=[]) (fun _ z=>nomatch z) (fun b o _ hb _ e n=>u.keep b o e n hb (by simp)) (fun b o _ hb _ e n=>u.slot b o e n hb (by simp)) (fun b o _ e n=>u.free b o e n (by simp)) (fun b o _ e=>u.there b o e (by simp)) u.tups u.frzs u.tbls (fun m' hm=>by
   obtain ⟨o',es',ep',ho',r'⟩:=hm
   rw [ho] at ho'; cases ho'
   exact ⟨_,es',ep',hL,r'⟩) hok I.bare
theorem Inv.call {g':Array GenState} {t':Nat} {d':Drawn} {ch:List Addr} (I:Inv X pins σ H s) (u:Un (frs X.stack) ch H H' s.heap h') (hok:HOk X.prog X.w H' h') (hg:AllBare g')
   (hch:∀ b ∈ ch,(b ∈ X.ex \/ X.s₀.heap.objs.size <= b) /\ b ≠ X.env.locals /\ (∀ x c,X.env.cells.lookup x=some c->c ≠ b) /\ ∀ p ∈ X.pn ++ pins,p.1 ≠ b) :
   Inv X pins σ H' { s with heap:=h',gens:=g',drawn:=d',toks:=t' }:=by
 obtain ⟨m,⟨o,es,ep,ho,r⟩,_⟩:=id I.loc
 obtain ⟨sl,hL⟩:=u.any ho I.free fun z=>(hch _ z).2.1 rfl
 exact I.step (ch:=ch) hch (fun b o hL hb hc e n=>u.keep b o e n (fun z=>(List.mem_cons.mp (I.stkSub b z)).elim hL hb) hc) (fun b o _ _ hc e n=>u.any e n hc) (fun b o hc e n=>u.free b o e n hc) (fun b o hc e=>u.there b o e hc) u.tups u.frzs u.tbls (fun m' hm=>by
   obtain ⟨o',es',ep',ho',r'⟩:=hm
   rw [ho] at ho'; cases ho'
   exact ⟨_,es',ep',hL,r'⟩) hok hg
theorem Inv.turned {t':Nat} {it:Addr} (I:Inv X pins σ H s) (k:∀ b o,b ≠ it->s.heap.get? b=some o->h'.get? b=some o) (hn:H it=none) (hL:it ≠ X.env.locals)
   (h1:it ∈ X.ex \/ X.s₀.heap.objs.size <= it) (h2:∀ x c,X.env.cells.lookup x=some c->c ≠ it) (h3:∀ p ∈ X.pn ++ pins,p.1 ≠ it):Inv X pins σ H { s with heap:=h',toks:=t' }:=by
 have nit:∀ b u,H b=some u->b ≠ it:=fun b u e z=>by rw [z,hn] at e; cases e
 refine I.step (g':=s.gens) (d':=s.drawn) (ch:=[it]) (fun b hb=>?_) (fun b o _ _ hc e _=>k b o (fun z=>hc (by simp [z])) e) (fun b o _ _ hc e _=>⟨o.slots,k b o (fun z=>hc (by simp [z])) e⟩) (fun _ _ _ _ n=>n)
   (fun b o hc e=>⟨o,k b o (fun z=>hc (by simp [z])) e⟩) (fun _ _ e=>e) (fun _ _ _ e=>e) (fun b ps e=>⟨#[],by rw [e]; simp⟩) (fun m hm=>?_) (fun b u e=>?_) I.bare
 . have e:b=it:=by simpa using hb
   subst e
   exact ⟨h1,hL,h2,h3⟩
 . obtain ⟨o,es,ep,ho,r⟩:=hm
   exact ⟨o,es,ep,k _ o (Ne.symm hL) ho,r⟩
 . refine (I.hok b u e).stay (fun c v hc q=>k c v ?_ q) (fun _ q=>q) fun _ _ q=>q
   rcases hc with z | z
   . rw [z]; exact nit b u e
   . exact nit c _ z
theorem Inv.tok (I:Inv X pins σ H s) (t:Nat):Inv X pins σ H { s with toks:=t }:=I.un (h':=s.heap) (t':=t) Un.refl I.hok
theorem Inv.kept {t':Nat} (I:Inv X pins σ H s) (k:∀ b u,s.heap.get? b=some u->h'.get? b=some u):Inv X pins σ H { s with heap:=h',toks:=t' }:=I.un (Un.kept k) (I.hok.kept k)
theorem Inv.laid {a:Addr} {o:HO} {t':Nat} (I:Inv X pins σ H s) (k:∀ b u,s.heap.get? b=some u->h'.get? b=some u) (hp:s.heap.objs.size <= a) (new:ObjOk X.prog X.w (upd H a o) h' a o) :
   Inv X pins σ (upd H a o) { s with heap:=h',toks:=t' }:=I.un (Un.laid k hp (I.hok.fresh hp)) (I.hok.laid k hp new)
theorem Inv.write {x e:Addr} {o:HO} {t':Nat} (I:Inv X pins σ H s) (mu:Mut (H x)) (he:e=x \/ H e=some (.own x)) (k:∀ b u,b ≠ e->s.heap.get? b=some u->h'.get? b=some u) (heo:∃ u,h'.get? e=some u)
   (new:ObjOk X.prog X.w (upd H x o) h' x o):Inv X pins σ (upd H x o) { s with heap:=h',toks:=t' }:=I.un (Un.write mu he k heo) (I.hok.write mu he k heo new)
theorem Inv.pins_of {pins':List (Addr × Obj)} (I:Inv X pins σ H s) (h:∀ p ∈ pins',s.heap.get? p.1=some p.2 /\ H p.1=none /\ p.1 ≠ X.env.locals /\ p.1 ∉ X.fs /\ ∀ v,p.2.data ≠ .cell v):Inv X pins' σ H s :=
 ⟨I.ok,I.os,I.bare,I.base,I.loc,I.cell,I.free,I.freeC,fun p hp=>(List.mem_append.mp hp).elim (fun z=>I.pin p (List.mem_append_left _ z)) (h p),I.hok,I.len⟩
theorem nodup_ix {N:List Str} (hN:N.Nodup) {i j:Nat} {x:Str} (a:N[i]?=some x) (b:N[j]?=some x):i=j:=by
 obtain ⟨h1,e1⟩:=List.getElem?_eq_some_iff.mp a
 obtain ⟨h2,e2⟩:=List.getElem?_eq_some_iff.mp b
 exact (List.getElem_inj hN).mp (e1.trans e2.symm)
theorem store_ok2 {M:Model} {A:Around} {E:Value->Shared->Prop} {i:Nat} {x:Str} {v:V} {u:Value} {Q:Unit->Shared->Prop} (I:Inv X pins σ H s) (hN:X.N.Nodup) (hi:X.N[i]?=some x) (hx:Loc X.env.scope x) (r:RelV v u)
   (h:∀ s',Inv X pins (σ.set i (some v)) H s'->(∃ a,Heap.SameBut a s.heap s'.heap /\ (a=X.env.locals \/ X.env.cells.lookup x=some a))->Q () s') (hf:X.fn x=true \/ X.env.scope.names.lookup x=some .local:=by first | exact .inl rfl | exact .inr rfl | assumption):wpAny M A (storeName X.env x u) Q E s:=by
 obtain ⟨m,hn,hl⟩:=id I.loc
 have hcls:(X.env.scope.kind == .class || (X.env.scope.kind == .module && X.env.locals != X.env.globals))=false:=by rw [I.ok.kind]; rfl
 have hiσ:i < σ.length:=by rw [I.len]; exact (List.getElem?_eq_some_iff.mp hi).1
 have cne:=I.cne
 have tracked:∀ {a:Addr} {h':Heap},(∃ o,s.heap.get? a=some o /\ H a=none)->Heap.SameBut a s.heap h'->HOk X.prog X.w H h':=fun {a h'} ha hs b ob e=>by
   obtain ⟨_,_,hfree⟩:=ha
   refine (I.hok b ob e).stay (fun c w' hc q=>(hs.2 c ?_).trans q) (fun _ q=>q) fun _ _ q=>q
   rintro rfl
   rcases hc with rfl | hc
   . rw [hfree] at e; cases e
   . rw [hfree] at hc; cases hc
 rcases hx with hk | hk
 . refine wpAny_storeName_local hk hn (fun h' hn' hs=>?_) hcls
   obtain ⟨oL,_,_,hoL,_⟩:=id hn
   refine h _ ⟨I.ok,I.os,I.bare,⟨fun b o e n hb hx=>?_,fun b o e n hb hx=>?_,I.base.free,fun b o e hx=>?_,I.base.tups,I.base.frzs,I.base.tbls⟩,⟨_,hn',fun j y v' e1 e2 e3=>?_⟩,fun y c e=>?_,I.free,I.freeC,fun p hp=>?_,tracked ⟨oL,hoL,I.free⟩ hs,by simpa using I.len⟩ ⟨_,hs,.inl rfl⟩
   . exact (hs.2 b (Nat.ne_of_lt (Nat.lt_of_lt_of_le (Heap.lt_size e) I.ok.above))).trans (I.base.keep b o e n hb hx)
   . obtain ⟨sl,e1⟩:=I.base.slot b o e n hb hx
     exact ⟨sl,(hs.2 b (Nat.ne_of_lt (Nat.lt_of_lt_of_le (Heap.lt_size e) I.ok.above))).trans e1⟩
   . obtain ⟨o',e1⟩:=I.base.there b o e hx
     exact ⟨o',(hs.2 b (Nat.ne_of_lt (Nat.lt_of_lt_of_le (Heap.lt_size e) I.ok.above))).trans e1⟩
   . by_cases hj:j=i
     . subst hj
       rw [hi] at e1; cases e1
       rw [List.getElem?_set_self hiσ] at e2
       cases e2
       exact ⟨u,r,.inl ⟨hk,by simp⟩⟩
     . rw [List.getElem?_set_ne (Ne.symm hj)] at e2
       obtain ⟨u',r',q⟩:=hl j y v' e1 e2 e3
       refine ⟨u',r',?_⟩
       rcases q with ⟨k,e⟩ | ⟨k,c,e,z⟩
       . refine .inl ⟨k,?_⟩
         have:y ≠ x:=fun e=>hj (nodup_ix hN e1 (e ▸ hi))
         simp [this,e]
       . exact .inr ⟨k,c,e,z.sameBut hs (cne y c e)⟩
   . obtain ⟨w',z⟩:=I.cell y c e
     exact ⟨w',z.sameBut hs (cne y c e)⟩
   . obtain ⟨e,n,ne,nf,d⟩:=I.pin p hp
     exact ⟨(hs.2 p.1 ne).trans e,n,ne,nf,d⟩
 . have hfn:X.fn x=true:=by
     rcases hf with z | z
     . exact z
     . rw [z] at hk; cases hk
   obtain ⟨c,hc⟩:=I.ok.has x (.inl hk)
   obtain ⟨w',z⟩:=I.cell x c hc
   refine wpAny_storeName_cell I.ok.kind hk hc z (fun h' hc' hs=>?_)
   obtain ⟨oc,hoc,hocd⟩:=id z
   refine h { s with heap:=h' } ⟨I.ok,I.os,I.bare,⟨fun b o e n hb hx=>?_,fun b o e n hb hx=>?_,I.base.free,fun b o e hx=>?_,I.base.tups,I.base.frzs,I.base.tbls⟩,⟨m,hn.sameBut hs (Ne.symm (cne x c hc)),fun j y v' e1 e2 e3=>?_⟩,fun y c' e=>?_,I.free,I.freeC,fun p hp=>?_,tracked ⟨oc,hoc,I.freeC x c hc⟩ hs,by simpa using I.len⟩ ⟨c,hs,.inr hc⟩
   . exact (hs.2 b (Nat.ne_of_lt (Nat.lt_of_lt_of_le (Heap.lt_size e) (I.ok.cab x c hfn hc)))).trans (I.base.keep b o e n hb hx)
   . obtain ⟨sl,e1⟩:=I.base.slot b o e n hb hx
     exact ⟨sl,(hs.2 b (Nat.ne_of_lt (Nat.lt_of_lt_of_le (Heap.lt_size e) (I.ok.cab x c hfn hc)))).trans e1⟩
   . obtain ⟨o',e1⟩:=I.base.there b o e hx
     exact ⟨o',(hs.2 b (Nat.ne_of_lt (Nat.lt_of_lt_of_le (Heap.lt_size e) (I.ok.cab x c hfn hc)))).trans e1⟩
   . by_cases hj:j=i
     . subst hj
       rw [hi] at e1; cases e1
       rw [List.getElem?_set_self hiσ] at e2
       cases e2
       exact ⟨u,r,.inr ⟨.inl hk,c,hc,hc'⟩⟩
     . rw [List.getElem?_set_ne (Ne.symm hj)] at e2
       obtain ⟨u',r',q⟩:=hl j y v' e1 e2 e3
       refine ⟨u',r',?_⟩
       rcases q with q | ⟨k,c',e,z'⟩
       . exact .inl q
       . refine .inr ⟨k,c',e,z'.sameBut hs ?_⟩
         rintro rfl
         exact hj (nodup_ix hN e1 (I.ok.inj _ _ _ e hc ▸ hi))
   . by_cases hcc:c'=c
     . subst hcc; exact ⟨_,hc'⟩
     . obtain ⟨w2,z2⟩:=I.cell y c' e
       exact ⟨w2,z2.sameBut hs hcc⟩
   . obtain ⟨e,n,ne,nf,d⟩:=I.pin p hp
     refine ⟨(hs.2 p.1 ?_).trans e,n,ne,nf,d⟩
     intro q
     rw [q,hoc] at e
     have q':oc=p.2:=Option.some.inj e
     exact d w' (by rw [<- q']; exact hocd)
theorem store_ok {M:Model} {A:Around} {E:Value->Shared->Prop} {i:Nat} {x:Str} {v:V} {u:Value} {Q:Unit->Shared->Prop} (I:Inv X pins σ H s) (hN:X.N.Nodup) (hi:X.N[i]?=some x) (hx:Loc X.env.scope x) (r:RelV v u)
   (h:∀ s',Inv X pins (σ.set i (some v)) H s'->Q () s') (hf:X.fn x=true \/ X.env.scope.names.lookup x=some .local:=by first | exact .inl rfl | exact .inr rfl | assumption):wpAny M A (storeName X.env x u) Q E s :=
 store_ok2 I hN hi hx r (fun s' I' _=>h s' I') hf
theorem Inv.call' {s':Shared} {ch:List Addr} (I:Inv X pins σ H s) (ho:s'.os=s.os) (u:Un (frs X.stack) ch H H' s.heap s'.heap) (hok:HOk X.prog X.w H' s'.heap) (hg:AllBare s'.gens)
   (hch:∀ b ∈ ch,(b ∈ X.ex \/ X.s₀.heap.objs.size <= b) /\ b ≠ X.env.locals /\ (∀ x c,X.env.cells.lookup x=some c->c ≠ b) /\ ∀ p ∈ X.pn ++ pins,p.1 ≠ b):Inv X pins σ H' s':=by
 obtain ⟨h',g',d',t',o'⟩:=s'
 have e:o'=s.os:=ho
 subst e
 exact I.call (g':=g') (t':=t') (d':=d') u hok hg hch
end
noncomputable abbrev XK:=Value->Option Addr->Hp->Prop
noncomputable abbrev St:=List (Option V)
noncomputable abbrev VK:=V->Hp->Prop
noncomputable abbrev TE:=St->Hp->VK->Prop
noncomputable abbrev TT:=St->Hp->(Bool->Hp->Prop)->Prop
noncomputable abbrev TA:=St->Hp->(List V->Hp->Prop)->Prop
structure Ends where
 nx:St->Hp->Prop
 rt:VK
 bk:St->Hp->Prop:=fun _ _=>False
 ct:St->Hp->Prop:=fun _ _=>False
noncomputable abbrev TS:=Ends->St->Hp->Prop
noncomputable def EP (X:Cx) (pins:List (Addr × Obj)) (σ:St) (Q:VK) (u:Value) (s':Shared):Prop:=∃ v H',Inv X pins σ H' s' /\ RelV v u /\ Q v H'
noncomputable def TP (X:Cx) (pins:List (Addr × Obj)) (σ:St) (Q:Bool->Hp->Prop) (b:Bool) (s':Shared):Prop:=∃ H',Inv X pins σ H' s' /\ Q b H'
noncomputable def AP (X:Cx) (pins:List (Addr × Obj)) (σ:St) (Q:List V->Hp->Prop) (us:List Value) (s':Shared):Prop:=∃ vs H',Inv X pins σ H' s' /\ Vals vs us /\ Q vs H'
noncomputable def SP (X:Cx) (pins:List (Addr × Obj)) (D:Ends) (f:Flow) (s':Shared):Prop :=
 match f with
 | .next=>∃ σ' H',Inv X pins σ' H' s' /\ D.nx σ' H'
 | .brk=>∃ σ' H',Inv X pins σ' H' s' /\ D.bk σ' H'
 | .cont=>∃ σ' H',Inv X pins σ' H' s' /\ D.ct σ' H'
 | .ret u=>∃ v σ' H',Inv X pins σ' H' s' /\ RelV v u /\ D.rt v H'
noncomputable def PE (X:Cx) (e:Expr) (t:TE):Prop :=
 ∀ (pins:List (Addr × Obj)) (s:Shared) (σ:St) (H:Hp) (Q:VK),Inv X pins σ H s->t σ H Q->wpAny (model X.prog X.w) X.A (eval e X.env) (EP X pins σ Q) X.xe s
noncomputable def PT (X:Cx) (e:Expr) (t:TT):Prop :=
 ∀ (pins:List (Addr × Obj)) (s:Shared) (σ:St) (H:Hp) (Q:Bool->Hp->Prop),Inv X pins σ H s->t σ H Q->wpAny (model X.prog X.w) X.A (isTrue e X.env (eval e X.env)) (TP X pins σ Q) X.xe s
noncomputable def PW (X:Cx) (e:Expr) (t:TT):Prop :=
 ∀ (whole:Sem Value) (pins:List (Addr × Obj)) (s:Shared) (σ:St) (H:Hp) (Q:Bool->Hp->Prop),Inv X pins σ H s->t σ H Q->wpAny (model X.prog X.w) X.A (isTrue e X.env whole) (TP X pins σ Q) X.xe s
theorem PW.pt {X:Cx} {e:Expr} {t:TT} (h:PW X e t):PT X e t:=h _
noncomputable def PA (X:Cx) (es:List Expr) (t:TA):Prop :=
 ∀ (pos:Pos) (pins:List (Addr × Obj)) (s:Shared) (σ:St) (H:Hp) (Q:List V->Hp->Prop),Inv X pins σ H s->t σ H Q->wpAny (model X.prog X.w) X.A (spliced (backTo pos (starEach es X.env))) (AP X pins σ Q) X.xe s
noncomputable def PS (X:Cx) (st:Stmt) (t:TS):Prop :=
 ∀ (pins:List (Addr × Obj)) (s:Shared) (σ:St) (H:Hp) (D:Ends),Inv X pins σ H s->t D σ H->wpAny (model X.prog X.w) X.A (exec st X.env) (SP X pins D) X.xe s
noncomputable def PSs (X:Cx) (st:List Stmt) (t:TS):Prop :=
 ∀ (pins:List (Addr × Obj)) (s:Shared) (σ:St) (H:Hp) (D:Ends),Inv X pins σ H s->t D σ H->wpAny (model X.prog X.w) X.A (execs st X.env) (SP X pins D) X.xe s
theorem thn {α:Type} {t:Sem α} {Q Q':α->Shared->Prop} {M:Model} {A:Around} {E:Value->Shared->Prop} {s:Shared} (h:wpAny M A t Q E s) (hQ:∀ a s,Q a s->Q' a s):wpAny M A t Q' E s:=wpAny_mono h hQ fun _ _ x=>x
end L2
namespace L2
open PySem PySem.Spec PyProof.Rows
section
variable {X:Cx}
noncomputable def tVar (i:Nat):TE:=fun σ H Q=>∃ v,σ[i]?=some (some v) /\ Q v H
noncomputable def tC (v:V):TE:=fun _ H Q=>Q v H
theorem pe_var {i:Nat} {x:Str} {pos:Pos} (hN:X.N[i]?=some x) (hv:Vis X.env.scope x) (hd:(x == ("__debug__":Str))=false:=by decide) (hcd:(x == ("__classdict__":Str))=false:=by decide):PE X (.Name x pos) (tVar i):=by
 intro pins s σ H Q I h
 obtain ⟨v,e,h⟩:=h
 obtain ⟨m,hn,hl⟩:=I.loc
 obtain ⟨u,r,l⟩:=hl i x v hN e hv
 have fin:EP X pins σ Q u s:=⟨v,H,I,r,h⟩
 rcases l with ⟨hk,hm⟩ | ⟨hk,c,hc,hcell⟩
 . exact wpAny_Name (wpAny_loadName_local I.ok.kind hk hn hm fin) hd
 . rcases hk with hk | hk
   . exact wpAny_Name (wpAny_loadName_cell I.ok.kind hk hc hcell fin) hd
   . exact wpAny_Name (wpAny_loadName_free I.ok.kind hk hc hcell fin hcd) hd
theorem pe_int {i j pos}:PE X (.Constant (.int i) j pos) (tC (.int i)):=fun _ _ _ H _ I h=>wpAny_Constant_int ⟨.int i,H,I.tok _,⟨_,rfl⟩,h⟩
theorem pe_bl {b j pos}:PE X (.Constant (.bool b) j pos) (tC (.bl b)):=fun _ _ _ H _ I h=>Constant_bool ⟨.bl b,H,I,rfl,h⟩
theorem pe_non {j pos}:PE X (.Constant .none j pos) (tC .non):=fun _ _ _ H _ I h=>Constant_none ⟨.non,H,I,rfl,h⟩
theorem pe_str {x j pos}:PE X (.Constant (.str x) j pos) (tC (.str x)):=fun _ _ _ H _ I h=>Calls.Constant_str ⟨.str x,H,I.tok _,⟨_,rfl⟩,h⟩
noncomputable def Gl (X:Cx) (x:Str):Prop:=X.env.kindOf x=some .globalImplicit
theorem ld_glob {E:Value->Shared->Prop} {pins:List (Addr × Obj)} {s:Shared} {σ:St} {H:Hp} {x:Str} {u:Value} {pos:Pos} {Q:Value->Shared->Prop} (I:Inv X pins σ H s) (hg:Gl X x) (hm:X.mg x=some u) (h:Q u s)
   (hd:(x == ("__debug__":Str))=false:=by decide):wpAny (model X.prog X.w) X.A (eval (.Name x pos) X.env) Q E s :=
 Calls.Name_function_global I.ok.kind hg (Calls.loadGlobal_global (by rw [I.ok.glob]; exact I.mod.glob.keeps I.bk) hm h) hd
theorem ld_blt {E:Value->Shared->Prop} {pins:List (Addr × Obj)} {s:Shared} {σ:St} {H:Hp} {x:Str} {u:Value} {pos:Pos} {Q:Value->Shared->Prop} (I:Inv X pins σ H s) (hg:Gl X x) (hm:X.mg x=none) (hv:bootBuiltins x=some u) (h:Q u s)
   (hn:x ≠ "__name__":=by decide) (hd:(x == ("__debug__":Str))=false:=by decide):wpAny (model X.prog X.w) X.A (eval (.Name x pos) X.env) Q E s:=by
 obtain ⟨mb,h1,h2⟩:=I.mod.blt
 exact Calls.Name_function_global I.ok.kind hg (Calls.loadGlobal_builtin (by rw [I.ok.glob]; exact I.mod.glob.keeps I.bk) hm (by rw [I.ok.blt]; exact h1.keeps I.bk) ((h2 x hn).trans hv) h) hd
theorem pe_glob {x:Str} {v:V} {u:Value} {pos:Pos} (hg:Gl X x) (hm:X.mg x=some u) (r:RelV v u) (hd:(x == ("__debug__":Str))=false:=by decide):PE X (.Name x pos) (tC v) :=
 fun _ _ _ H _ I h=>ld_glob I hg hm ⟨v,H,I,r,h⟩ hd
theorem pe_bltn {x:Str} {v:V} {u:Value} {pos:Pos} (hg:Gl X x) (hm:X.mg x=none) (hv:bootBuiltins x=some u) (r:RelV v u) (hn:x ≠ "__name__":=by decide) (hd:(x == ("__debug__":Str))=false:=by decide):PE X (.Name x pos) (tC v) :=
 fun _ _ _ H _ I h=>ld_blt I hg hm hv ⟨v,H,I,r,h⟩ hn hd
variable {a b:Expr} {ta tb:TE} {pos:Pos}
noncomputable def tB (t:TE):TT:=fun σ H Q=>t σ H fun x H1=>∃ c,x=.bl c /\ Q c H1
theorem pt_val {e:Expr} {t:TE} (h:PE X e t) (he:∀ whole,isTrue e X.env whole=(do let v <- whole; standAt e.pos; holding [v] (truthy v)):=by intro _; rfl):PT X e (tB t):=by
 intro pins s σ H Q I hw
 refine isTrue_plain (thn (h pins s σ H _ I hw) fun v s1 ⟨x,H1,I1,r1,q1⟩=>?_) (he _)
 obtain ⟨d,rfl,q⟩:=q1
 cases r1
 exact wpAny_truthy_bool ⟨H1,I1,q⟩
variable {tA tB':TT} {rest:List Expr}
noncomputable def tAnd (t u:TT):TT:=fun σ H Q=>t σ H fun c H1=>if c=true then u σ H1 Q else Q false H1
noncomputable def tOr (t u:TT):TT:=fun σ H Q=>t σ H fun c H1=>if c=true then Q true H1 else u σ H1 Q
noncomputable def tNot (t:TT):TT:=fun σ H Q=>t σ H fun c H1=>Q (!c) H1
theorem pw_and1 (ha:PT X a tA):PW X (.BoolOp .And [a] pos) tA:=by
 intro wh pins s σ H Q I h
 refine isTrue_and (thn (ha pins s σ H Q I h) fun c s1 e=>?_)
 cases c with
 | true=>exact isTrue_and_nil e
 | false=>exact e
theorem pw_or1 (ha:PT X a tA):PW X (.BoolOp .Or [a] pos) tA:=by
 intro wh pins s σ H Q I h
 refine isTrue_or (thn (ha pins s σ H Q I h) fun c s1 e=>?_)
 cases c with
 | false=>exact isTrue_or_nil e
 | true=>exact e
theorem pw_and (ha:PT X a tA) (hb:PW X (.BoolOp .And (b :: rest) pos) tB'):PW X (.BoolOp .And (a :: b :: rest) pos) (tAnd tA tB'):=by
 intro wh pins s σ H Q I h
 refine isTrue_and (thn (ha pins s σ H _ I h) fun c s1 zz2=>?_)
 obtain ⟨H1,I1,q1⟩:=zz2
 cases c with
 | true=>exact hb wh pins s1 σ H1 Q I1 q1
 | false=>exact ⟨H1,I1,q1⟩
theorem pw_or (ha:PT X a tA) (hb:PW X (.BoolOp .Or (b :: rest) pos) tB'):PW X (.BoolOp .Or (a :: b :: rest) pos) (tOr tA tB'):=by
 intro wh pins s σ H Q I h
 refine isTrue_or (thn (ha pins s σ H _ I h) fun c s1 zz3=>?_)
 obtain ⟨H1,I1,q1⟩:=zz3
 cases c with
 | true=>exact ⟨H1,I1,q1⟩
 | false=>exact hb wh pins s1 σ H1 Q I1 q1
theorem pt_not (ha:PT X a tA):PT X (.UnaryOp .Not a pos) (tNot tA):=by
 intro pins s σ H Q I h
 exact isTrue_not (ha pins s σ H (fun c H1=>Q (!c) H1) I h)
noncomputable def tAndV (ta tb:TE):TE:=fun σ H Q=>ta σ H fun x H1=>∃ c,x=.bl c /\ if c=true then tb σ H1 Q else Q (.bl false) H1
noncomputable def tOrV (ta tb:TE):TE:=fun σ H Q=>ta σ H fun x H1=>∃ c,x=.bl c /\ if c=true then Q (.bl true) H1 else tb σ H1 Q
noncomputable def tNotV (ta:TE):TE:=fun σ H Q=>ta σ H fun x H1=>∃ c,x=.bl c /\ Q (.bl (!c)) H1
theorem pe_one {op} {t:TE} (h:PE X a t):PE X (.BoolOp op [a] pos) t:=fun pins s σ H Q I hw=>BoolOp_one (h pins s σ H Q I hw)
theorem pe_and (ha:PE X a ta) (hb:PE X (.BoolOp .And (b :: rest) pos) tb):PE X (.BoolOp .And (a :: b :: rest) pos) (tAndV ta tb):=by
 intro pins s σ H Q I h
 refine BoolOp_and (thn (ha pins s σ H _ I h) fun v s1 zz4=>?_)
 obtain ⟨x,H1,I1,r1,q1⟩:=zz4
 obtain ⟨c,rfl,q1⟩:=q1
 cases r1
 refine wpAny_truthy_bool ?_
 cases c with
 | true=>exact hb pins s1 σ H1 Q I1 q1
 | false=>exact ⟨.bl false,H1,I1,rfl,q1⟩
theorem pe_or (ha:PE X a ta) (hb:PE X (.BoolOp .Or (b :: rest) pos) tb):PE X (.BoolOp .Or (a :: b :: rest) pos) (tOrV ta tb):=by
 intro pins s σ H Q I h
 refine BoolOp_or (thn (ha pins s σ H _ I h) fun v s1 zz5=>?_)
 obtain ⟨x,H1,I1,r1,q1⟩:=zz5
 obtain ⟨c,rfl,q1⟩:=q1
 cases r1
 refine wpAny_truthy_bool ?_
 cases c with
 | false=>exact hb pins s1 σ H1 Q I1 q1
 | true=>exact ⟨.bl true,H1,I1,rfl,q1⟩
theorem pe_not (ha:PE X a ta):PE X (.UnaryOp .Not a pos) (tNotV ta):=by
 intro pins s σ H Q I h
 refine UnaryOp_ (thn (ha pins s σ H _ I h) fun v s1 zz6=>?_)
 obtain ⟨x,H1,I1,r1,q1⟩:=zz6
 obtain ⟨c,rfl,q1⟩:=q1
 cases r1
 exact not_of (wpAny_truthy_bool ⟨.bl (!c),H1,I1,rfl,q1⟩)
noncomputable def tIf (t:TT) (ta tb:TE):TE:=fun σ H Q=>t σ H fun c H1=>if c=true then ta σ H1 Q else tb σ H1 Q
theorem pe_ifExp {c:Expr} (hc:PT X c tA) (ha:PE X a ta) (hb:PE X b tb):PE X (.IfExp c a b pos) (tIf tA ta tb):=by
 intro pins s σ H Q I h
 refine wpAny_IfExp (thn (hc pins s σ H _ I h) fun d s1 zz7=>?_)
 obtain ⟨H1,I1,q1⟩:=zz7
 cases d with
 | true=>exact ha pins s1 σ H1 Q I1 q1
 | false=>exact hb pins s1 σ H1 Q I1 q1
end
end L2
namespace L2
open PySem PySem.Spec PyProof.Rows
noncomputable def SqL (K:PySem.W.Frag) (H:Hp) (a:Addr) (xs:List V):Prop :=
 Rd H a (.lst xs) \/
   ∃ (o:Obj) (its:Array Value) (n:Nat),K.lookup a=some o /\ o.cls=.type "list" /\ o.dict=none /\ o.data=.seq its n /\ its.size <= sizeLine /\ Vals xs its.toList
noncomputable def SqT (K:PySem.W.Frag) (H:Hp) (a:Addr) (xs:List V):Prop :=
 Rd H a (.tup xs) \/
   ∃ (o:Obj) (its:Array Value) (n:Nat),K.lookup a=some o /\ o.cls=.type "tuple" /\ o.data=.seq its n /\ its.size <= sizeLine /\ Vals xs its.toList
noncomputable def absV:Value->Option V
 | .none=>some .non
 | .bool b=>some (.bl b)
 | .int i _=>some (.int i)
 | .str x _=>some (.str x)
 | .bytes b _=>some (.byt b)
 | .float b _=>some (.flt b)
 | .ref a=>some (.ref a)
 | .type n=>some (.ty n)
 | _=>none
theorem RelV.abs {x:V} {u:Value} (r:RelV x u):absV u=some x:=by
 cases x with
 | non=>cases r; rfl
 | bl _=>cases r; rfl
 | int _=>obtain ⟨t,rfl⟩:=r; rfl
 | str _=>obtain ⟨t,rfl⟩:=r; rfl
 | byt _=>obtain ⟨t,rfl⟩:=r; rfl
 | flt _=>obtain ⟨t,rfl⟩:=r; rfl
 | ref _=>cases r; rfl
 | ty _=>cases r; rfl
theorem RelV.inj {x y:V} {u:Value} (r:RelV x u) (q:RelV y u):x=y:=Option.some.inj (r.abs.symm.trans q.abs)
theorem Vals.inj:∀ {xs ys:List V} {us:List Value},Vals xs us->Vals ys us->xs=ys
 | _,_,_,.nil,.nil=>rfl
 | _,_,_,.cons r t,.cons r' t'=>by rw [r.inj r',Vals.inj t t']
section
variable {X:Cx} {pins:List (Addr × Obj)} {σ:St} {H:Hp} {s:Shared} {a:Addr} {xs ys:List V}
theorem SqL.of {K:PySem.W.Frag} (h:H a=some (.lst xs)):SqL K H a xs:=.inl (.inl h)
theorem SqT.of {K:PySem.W.Frag} (h:H a=some (.tup xs)):SqT K H a xs:=.inl (.inl h)
theorem Inv.list (I:Inv X pins σ H s) (h:SqL X.K H a xs):∃ its:List Value,Vals xs its /\ PlainL s.heap a its.toArray /\ xs.length <= sizeLine:=by
 rcases h with h | ⟨o,its,n,hk,hc,hd,hs,hz,r⟩
 . obtain ⟨z,its,n,r,e⟩:=h.ok I.hok
   exact ⟨its,r,⟨_,n,e,rfl,rfl,rfl⟩,z⟩
 . refine ⟨its.toList,r,⟨o,n,I.kIn a o hk,hc,hd,by simpa using hs⟩,?_⟩
   have e:=r.length
   simp only [Array.length_toList] at e
   omega
theorem Inv.tuple (I:Inv X pins σ H s) (h:SqT X.K H a xs):∃ its:List Value,Vals xs its /\ IsTup s.heap a its.toArray /\ xs.length <= sizeLine:=by
 rcases h with h | ⟨o,its,n,hk,hc,hs,hz,r⟩
 . obtain ⟨z,its,r,p⟩:=h.ok I.hok
   exact ⟨its,r,p,z⟩
 . refine ⟨its.toList,r,⟨o,I.kIn a o hk,hc,n,by simpa using hs⟩,?_⟩
   have e:=r.length
   simp only [Array.length_toList] at e
   omega
theorem Inv.list_inj (I:Inv X pins σ H s) (h:SqL X.K H a xs) (h':SqL X.K H a ys):xs=ys:=by
 obtain ⟨its,r,⟨o,n,e,_,_,d⟩,_⟩:=I.list h
 obtain ⟨its',r',⟨o',n',e',_,_,d'⟩,_⟩:=I.list h'
 rw [e] at e'; cases e'
 rw [d] at d'
 injection d' with d1 _
 have:its=its':=by simpa using congrArg Array.toList d1
 subst this
 exact r.inj r'
end
noncomputable abbrev Cx.wish (X:Cx) (E:Value->Shared->Prop):Cx:={ X with xe:=E }
noncomputable abbrev Cx.nox (X:Cx):Cx:=X.wish fun _ _=>False
theorem Cx.Ok.wish {X:Cx} (ok:X.Ok) (E:Value->Shared->Prop):(X.wish E).Ok :=
 ⟨ok.mod,ok.kind,ok.glob,ok.blt,ok.above,ok.inj,ok.has,ok.cab,ok.hd,ok.frames,ok.stk,ok.exf,ok.bs,ok.bsz,ok.noex,ok.exfs,ok.funs,ok.frf⟩
theorem Cx.Ok.unwish {X:Cx} {E:Value->Shared->Prop} (ok:(X.wish E).Ok):X.Ok :=
 ⟨ok.mod,ok.kind,ok.glob,ok.blt,ok.above,ok.inj,ok.has,ok.cab,ok.hd,ok.frames,ok.stk,ok.exf,ok.bs,ok.bsz,ok.noex,ok.exfs,ok.funs,ok.frf⟩
section
variable {X:Cx} {pins:List (Addr × Obj)} {σ:St} {H:Hp} {s:Shared} {E:Value->Shared->Prop}
theorem Inv.wish (I:Inv X pins σ H s) (E:Value->Shared->Prop):Inv (X.wish E) pins σ H s:=⟨I.ok.wish E,I.os,I.bare,I.base,I.loc,I.cell,I.free,I.freeC,I.pin,I.hok,I.len⟩
theorem Inv.unwish (I:Inv (X.wish E) pins σ H s):Inv X pins σ H s:=⟨I.ok.unwish,I.os,I.bare,I.base,I.loc,I.cell,I.free,I.freeC,I.pin,I.hok,I.len⟩
theorem SP.unwish {D:Ends} {f:Flow} {s':Shared} (h:SP (X.wish E) pins D f s'):SP X pins D f s':=by
 cases f with
 | next=>obtain ⟨σ',H',I,q⟩:=h; exact ⟨σ',H',I.unwish,q⟩
 | brk=>obtain ⟨σ',H',I,q⟩:=h; exact ⟨σ',H',I.unwish,q⟩
 | cont=>obtain ⟨σ',H',I,q⟩:=h; exact ⟨σ',H',I.unwish,q⟩
 | ret u=>obtain ⟨v,σ',H',I,r,q⟩:=h; exact ⟨v,σ',H',I.unwish,r,q⟩
theorem PE.nox {e:Expr} {t:TE} (h:PE X.nox e t):PE X e t:=fun pins s σ H Q I hw =>
 wpAny_mono (h pins s σ H Q (I.wish _) hw) (fun _ _ zz8=>by obtain ⟨v,H',I',r,q⟩:=zz8; exact ⟨v,H',I'.unwish,r,q⟩) fun _ _ z=>False.elim z
theorem PT.nox {e:Expr} {t:TT} (h:PT X.nox e t):PT X e t:=fun pins s σ H Q I hw =>
 wpAny_mono (h pins s σ H Q (I.wish _) hw) (fun _ _ zz9=>by obtain ⟨H',I',q⟩:=zz9; exact ⟨H',I'.unwish,q⟩) fun _ _ z=>False.elim z
theorem PSs.nox {st:List Stmt} {t:TS} (h:PSs X.nox st t):PSs X st t:=fun pins s σ H D I hw =>
 wpAny_mono (h pins s σ H D (I.wish _) hw) (fun _ _ q=>q.unwish) fun _ _ z=>False.elim z
end
section
variable {X:Cx} {st:Stmt} {rest:List Stmt} {t u:TS} {e:Expr} {te:TE} {pos:Pos}
noncomputable def tNext:TS:=fun D σ H=>D.nx σ H
noncomputable def tSeq (t u:TS):TS:=fun D σ H=>t { D with nx:=u D } σ H
theorem pss_nil:PSs X [] tNext:=fun _ _ σ H _ I h=>wpAny_execs_nil ⟨σ,H,I,h⟩
theorem pss_cons (h1:PS X st t) (h2:PSs X rest u):PSs X (st :: rest) (tSeq t u):=by
 intro pins s σ H D I h
 refine wpAny_execs_cons (thn (h1 pins s σ H { D with nx:=u D } I h) fun f s1 q=>?_)
 cases f with
 | next =>
   obtain ⟨σ',H',I',q⟩:=q
   exact h2 pins s1 σ' H' D I' q
 | ret v=>exact q
 | brk=>exact q
 | cont=>exact q
theorem pss_one (h1:PS X st t):PSs X [st] t:=by
 intro pins s σ H D I h
 refine wpAny_execs_cons (thn (h1 pins s σ H D I h) fun f s1 q=>?_)
 cases f with
 | next=>exact wpAny_execs_nil q
 | ret v=>exact q
 | brk=>exact q
 | cont=>exact q
theorem Inv.quiet {pins:List (Addr × Obj)} {σ:St} {H:Hp} {s:Shared} (I:Inv X pins σ H s):interactive X.env=false:=by simp [interactive,I.ok.kind]
noncomputable def tDrop (te:TE):TS:=fun D σ H=>te σ H fun _ H1=>D.nx σ H1
theorem ps_expr (he:PE X e te) (hs:swapsWith e none pos.line X.env=pure false:=by rfl):PS X (.Expr e pos) (tDrop te):=by
 intro pins s σ H D I h
 exact wpAny_Expr_any (thn (he pins s σ H _ I h) fun v s1 zz10=>by obtain ⟨x,H1,I1,r1,q1⟩:=zz10; exact ⟨σ,H1,I1,q1⟩) I.quiet hs
noncomputable def tRet (te:TE):TS:=fun D σ H=>te σ H D.rt
theorem ps_ret (he:PE X e te):PS X (.Return (some e) pos) (tRet te):=by
 intro pins s σ H D I h
 exact wpAny_Return_some (thn (he pins s σ H _ I h) fun v s1 zz11=>by obtain ⟨x,H1,I1,r1,q1⟩:=zz11; exact ⟨x,σ,H1,I1,r1,q1⟩)
noncomputable def tIfS (c:TT) (t u:TS):TS:=fun D σ H=>c σ H fun b H1=>if b=true then t D σ H1 else u D σ H1
theorem ps_if {c:Expr} {a b:List Stmt} {tc:TT} (hc:PT X c tc) (ha:PSs X a t) (hb:PSs X b u):PS X (.If c a b pos) (tIfS tc t u):=by
 intro pins s σ H D I h
 refine wpAny_If (thn (hc pins s σ H _ I h) fun d s1 zz12=>?_)
 obtain ⟨H1,I1,q1⟩:=zz12
 cases d with
 | true=>exact ha pins s1 σ H1 D I1 q1
 | false=>exact hb pins s1 σ H1 D I1 q1
end
noncomputable abbrev TG:=V->St->Hp->(St->Hp->Prop)->Prop
noncomputable abbrev TGs:=List V->St->Hp->(St->Hp->Prop)->Prop
noncomputable def PG (X:Cx) (target:Expr) (t:TG):Prop :=
 ∀ (pins:List (Addr × Obj)) (s:Shared) (σ:St) (H:Hp) (v:V) (u:Value) (Q:St->Hp->Prop),Inv X pins σ H s->RelV v u->t v σ H Q ->
   wpAny (model X.prog X.w) X.A (assign target X.env u) (fun _ s'=>∃ σ' H',Inv X pins σ' H' s' /\ Q σ' H') X.xe s
noncomputable def PGs (X:Cx) (ts:List Expr) (t:TGs):Prop :=
 ∀ (pins:List (Addr × Obj)) (s:Shared) (σ:St) (H:Hp) (vs:List V) (us:List Value) (Q:St->Hp->Prop),Inv X pins σ H s->Vals vs us->t vs σ H Q ->
   wpAny (model X.prog X.w) X.A (assignInOrder ((assignEach ts X.env).map (·.2)) us) (fun _ s'=>∃ σ' H',Inv X pins σ' H' s' /\ Q σ' H') X.xe s
noncomputable abbrev TSet:=V->V->V->Hp->(Hp->Prop)->Prop
noncomputable def PSet (X:Cx) (t:TSet):Prop :=
 ∀ (pins:List (Addr × Obj)) (s:Shared) (σ:St) (H:Hp) (o i v:V) (ov iv u:Value) (Q:Hp->Prop),Inv X pins σ H s->RelV o ov->RelV i iv->RelV v u->t o i v H Q ->
   wpAny (model X.prog X.w) X.A (setItem ov iv u) (fun _ s'=>∃ H',Inv X pins σ H' s' /\ Q H') X.xe s
section
variable {X:Cx} {pos:Pos}
noncomputable def gName (i:Nat):TG:=fun v σ H Q=>Q (σ.set i (some v)) H
theorem pg_name {i:Nat} {x:Str} (hN:X.N.Nodup) (hi:X.N[i]?=some x) (hx:Loc X.env.scope x) (hf:X.fn x=true \/ X.env.scope.names.lookup x=some .local:=by first | exact .inl rfl | exact .inr rfl | assumption):PG X (.Name x pos) (gName i):=by
 intro pins s σ H v u Q I r h
 exact wpAny_assign_Name (store_ok I hN hi hx r (fun s' I'=>⟨_,H,I',h⟩) hf)
noncomputable def gNil:TGs:=fun vs σ H Q=>vs=[] /\ Q σ H
noncomputable def gCons (t:TG) (u:TGs):TGs:=fun vs σ H Q=>∃ v r,vs=v :: r /\ t v σ H fun σ' H'=>u r σ' H' Q
theorem pgs_nil:PGs X [] gNil:=by
 intro pins s σ H vs us Q I r h
 obtain ⟨e,h⟩:=h
 subst e
 cases r
 exact assignInOrder_nil ⟨σ,H,I,h⟩
theorem pgs_cons {e:Expr} {es:List Expr} {t:TG} {u:TGs} (h1:PG X e t) (h2:PGs X es u)
   (hs:(assignEach (e :: es) X.env).map (·.2)=assign e X.env :: (assignEach es X.env).map (·.2):=by rfl):PGs X (e :: es) (gCons t u):=by
 intro pins s σ H vs us Q I r h
 obtain ⟨v,vr,e1,h⟩:=h
 subst e1
 cases r with
 | cons r rr =>
   rw [hs]
   refine assignInOrder_cons (thn (h1 pins s σ H _ _ _ I r h) fun _ s1 zz13=>?_)
   obtain ⟨σ1,H1,I1,q1⟩:=zz13
   exact h2 pins s1 σ1 H1 _ _ Q I1 rr q1
noncomputable def gTup (K:PySem.W.Frag) (n:Nat) (t:TGs):TG:=fun v σ H Q=>∃ a xs,v=.ref a /\ SqT K H a xs /\ xs.length=n /\ t xs σ H Q
theorem pg_tup {es:List Expr} {k:Nat} {t:TGs} {n:Nat} (hc:X.calm=true) (h:PGs X es t)
   (hn:(assignEach es X.env).length=n:=by rfl) (hst:(assignEach es X.env).findIdx? (·.1)=none:=by rfl):PG X (.Tuple es k pos) (gTup X.K n t):=by
 intro pins s σ H v u Q I r hw
 obtain ⟨a,xs,e1,hq,hl,hw⟩:=hw
 subst e1
 cases r
 obtain ⟨its,rv,ht,hz⟩:=I.tuple hq
 refine assign_Tuple_tuple (I.ok.hd hc) ht (by simp [hn,<- hl,rv.length]) hst fun h' hx=>?_
 have I1:Inv X pins σ H { s with heap:=h' }:=I.kept (t':=s.toks) fun b o e=>hx b o (Nat.ne_of_lt (Heap.lt_size e)) e
 exact h pins _ σ H xs _ Q I1 (by simpa using rv) hw
noncomputable def gSub (to ti:TE) (t:TSet):TG:=fun v σ H Q=>to σ H fun o H1=>ti σ H1 fun i H2=>t o i v H2 fun H3=>Q σ H3
theorem pg_sub {o i:Expr} {to ti:TE} {t:TSet} (ho:PE X o to) (hi:PE X i ti) (hs:PSet X t)
   (ha:∀ v,assign (.Subscript o i pos) X.env v=(do
     let ov <- holding [v] (eval o X.env)
     let iv <- holding [v,ov] (eval i X.env)
     standAt pos
     holding [v,ov,iv] (setItem ov iv v)
     release [v,ov,iv] []):=by intro _; rfl):PG X (.Subscript o i pos) (gSub to ti t):=by
 intro pins s σ H v u Q I r h
 rw [ha]
 refine wpAny_bind (wpAny_holding (thn (ho pins s σ H _ I h) fun ov s1 zz14=>?_))
 obtain ⟨x,H1,I1,r1,q1⟩:=zz14
 refine wpAny_bind (wpAny_holding (thn (hi pins s1 σ H1 _ I1 q1) fun iv s2 zz15=>?_))
 obtain ⟨y,H2,I2,r2,q2⟩:=zz15
 refine wpAny_bind (wpAny_standAt (wpAny_bind (wpAny_holding (thn (hs pins s2 σ H2 x y v ov iv u _ I2 r1 r2 r q2) fun _ s3 zz16=>?_))))
 obtain ⟨H3,I3,q3⟩:=zz16
 exact wpAny_release ⟨σ,H3,I3,q3⟩
noncomputable def tAsg (te:TE) (g:TG):TS:=fun D σ H=>te σ H fun x H1=>g x σ H1 D.nx
theorem ps_asg {tg e:Expr} {te:TE} {g:TG} (he:PE X e te) (hg:PG X tg g) (hs:swapsWithSole [tg] e pos.line X.env=pure false:=by rfl) (hw:swappedStores [tg] e X.env=pure none:=by rfl)
   (h1:(assignEach [tg] X.env).map (·.2)=[assign tg X.env]:=by rfl):PS X (.Assign [tg] e pos) (tAsg te g):=by
 intro pins s σ H D I h
 refine wpAny_Assign_stores (thn (he pins s σ H _ I h) fun v s1 ⟨x,H1,I1,r1,q1⟩=>?_) hs hw
 rw [h1]
 exact thn (hg pins s1 σ H1 x v _ I1 r1 q1) fun _ s2 q=>q
theorem ps_set {i:Nat} {x:Str} {e:Expr} {te:TE} {pos':Pos} (hN:X.N.Nodup) (hi:X.N[i]?=some x) (hx:Loc X.env.scope x) (he:PE X e te) (hs:swapsWith e (some (.Name x pos')) pos.line X.env=pure false:=by rfl) (hf:X.fn x=true \/ X.env.scope.names.lookup x=some .local:=by first | exact .inl rfl | exact .inr rfl | assumption) :
   PS X (.Assign [.Name x pos'] e pos) (tAsg te (gName i)):=by
 intro pins s σ H D I h
 refine wpAny_Assign_Name (thn (he pins s σ H _ I h) fun v s1 ⟨y,H1,I1,r1,q1⟩=>?_) hs
 exact store_ok I1 hN hi hx r1 (fun s2 I2=>⟨_,H1,I2,q1⟩) hf
end
section
variable {X:Cx} {pos:Pos}
end
structure It where
 go:Nat->Hp->Prop
 yld:Nat->Hp->V->Hp->Prop
 stop:Nat->Hp->Prop
noncomputable def FpOk (X:Cx) (pins:List (Addr × Obj)) (H:Hp) (b:Addr):Prop :=
 H b=none /\ b ≠ X.env.locals /\ b ∉ X.fs /\ (b ∈ X.ex \/ X.s₀.heap.objs.size <= b) /\ (∀ x c,X.env.cells.lookup x=some c->c ≠ b) /\ ∀ p ∈ X.pn ++ pins,p.1 ≠ b
theorem Inv.fpOk {X:Cx} {pins:List (Addr × Obj)} {σ:St} {H H':Hp} {s:Shared} {b:Addr} (I:Inv X pins σ H s) (hb:s.heap.objs.size <= b) (hn:H' b=none):FpOk X pins H' b:=by
 refine ⟨hn,Nat.ne_of_gt (Nat.lt_of_lt_of_le I.lt hb),I.nofs hb,.inr (Nat.le_trans I.sz hb),fun x c e z=>?_,fun p hp z=>?_⟩
 . obtain ⟨v,q⟩:=I.cell x c e
   exact absurd (Nat.lt_of_lt_of_le q.lt (by rw [z]; exact hb)) (Nat.lt_irrefl _)
 . exact absurd (Nat.lt_of_lt_of_le (Heap.lt_size (I.pin p hp).1) (by rw [z]; exact hb)) (Nat.lt_irrefl _)
structure Turn (P:Program) (w:World) (K:PySem.W.Frag) (tg:Expr) (J:It) (fp:List Addr) (it:Addr) (tn:Nat->Heap->Prop):Prop where
 mem:it ∈ fp
 obj:∀ i h,tn i h->∀ b ∈ fp,∃ o,h.get? b=some o /\ ∀ v,o.data ≠ .cell v
 keep:∀ i h h',tn i h->(∀ b ∈ fp,∀ o,h.get? b=some o->h'.get? b=some o)->tn i h'
 item:∀ (X:Cx),X.prog=P->X.w=w->X.K=K->X.calm=true->∀ (i:Nat) (pins:List (Addr × Obj)) (s:Shared) (σ:St) (H:Hp) (E:Value->Shared->Prop),Inv X pins σ H s->(∀ b ∈ fp,FpOk X pins H b)->tn i s.heap->J.go i H ->
   wpAny (model P w) X.A (pyNext (.ref it)) (fun r s1=>∃ u,r=some u /\
     wpAny (model P w) X.A (letOwnedTupleGo tg (.ref it) u) (fun _ s2=>∃ x H',Inv X pins σ H' s2 /\ RelV x u /\ J.yld i H x H' /\ tn (i + 1) s2.heap /\ ∀ b ∈ fp,H' b=none) E s1) E s
 done:∀ (X:Cx),X.prog=P->X.w=w->X.K=K->X.calm=true->∀ (i:Nat) (pins:List (Addr × Obj)) (s:Shared) (σ:St) (H:Hp) (E:Value->Shared->Prop),Inv X pins σ H s->(∀ b ∈ fp,FpOk X pins H b)->tn i s.heap->J.stop i H ->
   wpAny (model P w) X.A (pyNext (.ref it)) (fun r s1=>r=none /\ Inv X pins σ H s1) E s
 self:∀ (A:Around) (i:Nat) (s:Shared) (Q:Value->Shared->Prop) (E:Value->Shared->Prop),tn i s.heap->Q (.ref it) s->wpAny (model P w) A (pyIter (.ref it)) Q E s
noncomputable abbrev TI:=St->Hp->(It->Hp->Prop)->Prop
noncomputable def PIE (X:Cx) (pins:List (Addr × Obj)) (σ:St) (tg:Expr) (R:It->Hp->Prop) (itv:Value) (s2:Shared):Prop :=
 ∃ (it:Addr) (fp:List Addr) (tn:Nat->Heap->Prop) (J:It) (H':Hp),itv=.ref it /\ Inv X pins σ H' s2 /\ Turn X.prog X.w X.K tg J fp it tn /\ tn 0 s2.heap /\ (∀ b ∈ fp,FpOk X pins H' b) /\ R J H'
noncomputable def PI (X:Cx) (tg iter:Expr) (wi:TI):Prop :=
 ∀ (pins:List (Addr × Obj)) (s:Shared) (σ:St) (H:Hp) (R:It->Hp->Prop),Inv X pins σ H s->wi σ H R ->
   wpAny (model X.prog X.w) X.A (eval iter X.env) (fun v s1=>wpAny (model X.prog X.w) X.A (pyIter v) (PIE X pins σ tg R) X.xe s1) X.xe s
theorem go_of {M:Model} {A:Around} {E:Value->Shared->Prop} {s:Shared} {tg:Expr} {it:Addr} {u:Value} {o:Obj} {n:String} {vs:Array Value} {Q:Unit->Shared->Prop} (ho:s.heap.get? it=some o) (hc:o.cls=.type n) (hd:o.data=.fields vs)
   (hn:["enumerate","zip","dict_itemiterator","dict_reverseitemiterator","odict_iterator","itertools.zip_longest","itertools.pairwise"].contains n=false) (hQ:Q () s):wpAny M A (letOwnedTupleGo tg (.ref it) u) Q E s:=by
 unfold letOwnedTupleGo
 cases tg <;> first
   | exact wpAny_pure hQ
   | (cases u <;> first
       | exact wpAny_pure hQ
       | (refine wpAny_bind (wpAny_load ho ?_)
          rw [hc,hd]
          show wpAny M A (if (["enumerate","zip","dict_itemiterator","dict_reverseitemiterator","odict_iterator","itertools.zip_longest","itertools.pairwise"].contains n && vs[0]? == some (rawInt _))=true then _ else _) Q E s
          rw [if_neg (by intro h; rw [hn,Bool.false_and] at h; cases h)]
          exact wpAny_pure hQ))
noncomputable def Itl (K:PySem.W.Frag) (a:Addr):It :=
 ⟨fun i H=>∃ xs x,SqL K H a xs /\ xs[i]?=some x,fun i H x H'=>H'=H /\ ∀ xs,SqL K H a xs->xs[i]?=some x,fun i H=>∃ xs,SqL K H a xs /\ xs.length <= i⟩
noncomputable def Itr (lo:Int) (n:Nat):It:=⟨fun i _=>i < n,fun i H x H'=>H'=H /\ x=.int (lo + i),fun i _=>n <= i⟩
theorem turn_list {P:Program} {w:World} {K:PySem.W.Frag} {tg:Expr} (a it:Addr):Turn P w K tg (Itl K a) [it] it (fun i h=>h.IsListIter it a i) where
 mem:=by simp
 obj:=fun i h st b hb=>by
   have e:b=it:=by simpa using hb
   subst e
   obtain ⟨o,e,c,d⟩:=st
   exact ⟨o,e,fun v z=>by rw [d] at z; cases z⟩
 keep:=fun i h h' st k=>st.at fun o e=>k it (by simp) o e
 item:=by
   intro X hP hw hK hc i pins s σ H E I hf st hg
   subst hP hw hK
   obtain ⟨xs,x,hq,hx⟩:=hg
   obtain ⟨its,rv,p,hz⟩:=I.list hq
   obtain ⟨u,hu,ru⟩:=rv.get hx
   obtain ⟨f0,f1,f2,f3,f4,f5⟩:=hf it (by simp)
   refine wpAny_pyNext_list_item st p.isList (x:=u) (by simpa using hu) fun h' st' sb=>?_
   have I1:Inv X pins σ H { s with heap:=h' }:=I.turned (t':=s.toks) (fun b o hb e=>(sb.2 b hb).trans e) f0 f1 f3 f4 f5
   obtain ⟨o,e,c,d⟩:=id st'
   exact ⟨u,rfl,go_of (s:={ s with heap:=h' }) e c d (by decide) ⟨x,H,I1,ru,⟨rfl,fun ys hy=>by rw [I.list_inj hy hq]; exact hx⟩,st',fun b hb=>(hf b hb).1⟩⟩
 done:=by
   intro X hP hw hK hc i pins s σ H E I hf st hg
   subst hP hw hK
   obtain ⟨xs,hq,hx⟩:=hg
   obtain ⟨its,rv,p,hz⟩:=I.list hq
   obtain ⟨f0,f1,f2,f3,f4,f5⟩:=hf it (by simp)
   have hl:=rv.length
   exact wpAny_pyNext_list_end (I.ok.hd hc) st p.isList (by simp; omega) fun h' eb=>⟨rfl,I.turned (t':=s.toks) (fun b o hb e=>eb b o hb e) f0 f1 f3 f4 f5⟩
 self:=fun _ _ _ _ _ st h=>wpAny_pyIter_listiter st h
theorem turn_range {P:Program} {w:World} {K:PySem.W.Frag} {tg:Expr} (it:Addr) (lo:Int) (n:Nat):Turn P w K tg (Itr lo n) [it] it (fun i h=>IsRangeIter h it (lo + (i:Nat) * 1) ((n:Int) - (i:Nat)) 1) where
 mem:=by simp
 obj:=fun i h st b hb=>by
   have e:b=it:=by simpa using hb
   subst e
   exact ⟨_,st,fun v z=>by
     have z':Data.fields _=Data.cell v:=z
     cases z'⟩
 keep:=fun i h h' st k=>k it (by simp) _ st
 item:=by
   intro X hP hw hK hc i pins s σ H E I hf st hg
   subst hP hw hK
   obtain ⟨f0,f1,f2,f3,f4,f5⟩:=hf it (by simp)
   have W:=Walks.range (prog:=X.prog) (w:=X.w) (I.ok.hd hc) it lo 1 n
   refine W.item i s _ _ hg st fun v h' tk hv st' kk=>?_
   obtain ⟨t,rfl⟩:=hv
   have I1:Inv X pins σ H { s with heap:=h',toks:=tk }:=I.turned (fun b o hb e=>kk b o (by simpa using hb) e) f0 f1 f3 f4 f5
   refine ⟨_,rfl,go_of (s:={ s with heap:=h',toks:=tk }) (n:="range_iterator") st' rfl rfl (by decide) ⟨.int (lo + i),H,I1,⟨t,?_⟩,⟨rfl,rfl⟩,st',fun b hb=>(hf b hb).1⟩⟩
   rw [Int.mul_one]
 done:=by
   intro X hP hw hK hc i pins s σ H E I hf st hg
   subst hP hw hK
   obtain ⟨f0,f1,f2,f3,f4,f5⟩:=hf it (by simp)
   exact wpAny_pyNext_range_end (I.ok.hd hc) st (by have:n <= i:=hg; omega) fun h' eb=>⟨rfl,I.turned (t':=s.toks) (fun b o hb e=>eb b o hb e) f0 f1 f3 f4 f5⟩
 self:=fun _ _ _ _ _ st h=>wpAny_pyIter_rangeiter st h
end L2
namespace L2
open PySem PySem.Spec PyProof.Rows
section
variable {X:Cx} {tg:Expr}
noncomputable def iList (K:PySem.W.Frag) (tl:TE):TI:=fun σ H R=>tl σ H fun x H1=>∃ a,x=.ref a /\ (∃ xs,SqL K H1 a xs) /\ R (Itl K a) H1
theorem pi_list {l:Expr} {tl:TE} (hl:PE X l tl):PI X tg l (iList X.K tl):=by
 intro pins s σ H R I h
 refine thn (hl pins s σ H _ I h) fun v s1 zz17=>?_
 obtain ⟨x,H1,I1,r1,q1⟩:=zz17
 obtain ⟨a,e,⟨xs,hq⟩,q⟩:=q1
 subst e
 cases r1
 obtain ⟨its,rv,p,hz⟩:=I1.list hq
 refine wpAny_pyIter_list p.isList ?_
 refine ⟨s1.heap.objs.size,[s1.heap.objs.size],_,_,H1,rfl,I1.kept (t':=s1.toks) fun b o e=>Heap.get?_push_of_some _ e,turn_list a _,⟨_,Heap.get?_push_size _ rfl,rfl,rfl⟩,fun b hb=>?_,q⟩
 have e:b=s1.heap.objs.size:=by simpa using hb
 subst e
 exact I1.fpOk (Nat.le_refl _) (I1.hok.fresh (Nat.le_refl _))
theorem range_it {pins:List (Addr × Obj)} {σ:St} {H:Hp} {s:Shared} {R:It->Hp->Prop} {E:Value->Shared->Prop} {lo hi:Int} {t u v:Tok} {tk:Nat} (I:Inv X pins σ H s) (h1:-(2 ^ 62) <= lo) (h2:lo < 2 ^ 62) (h3:-(2 ^ 62) <= hi) (h4:hi < 2 ^ 62)
   (q:R (Itr lo (hi - lo).toNat) H):wpAny (model X.prog X.w) X.A (pyIter (.ref s.heap.objs.size)) (PIE X pins σ tg R) E { s with heap:=s.heap.push { cls:=.type "range",data:=.fields #[.int lo t,.int hi u,.int 1 v] },toks:=tk }:=by
 refine wpAny_pyIter_range (IsRange.new ..) (small_one h1 h2 h3 h4) ?_
 have I1:Inv X pins σ H { s with heap:=s.heap.push { cls:=.type "range",data:=.fields #[.int lo t,.int hi u,.int 1 v] },toks:=tk }:=I.kept fun b o e=>Heap.get?_push_of_some _ e
 refine ⟨(s.heap.push { cls:=.type "range",data:=.fields #[.int lo t,.int hi u,.int 1 v] }).objs.size,[(s.heap.push { cls:=.type "range",data:=.fields #[.int lo t,.int hi u,.int 1 v] }).objs.size],_,_,H,rfl,
   I1.kept (t':=tk) fun b o e=>Heap.get?_push_of_some _ e,turn_range _ lo (hi - lo).toNat,?_,fun b hb=>?_,q⟩
 . have e1:lo + ((0:Nat):Int) * 1=lo:=by simp
   have e2:(((hi - lo).toNat:Nat):Int) - ((0:Nat):Int)=Builtin.Range.rangeSize lo hi 1:=by rw [rangeSize_one]; split <;> omega
   show IsRangeIter _ _ (lo + ((0:Nat):Int) * 1) ((((hi - lo).toNat:Nat):Int) - ((0:Nat):Int)) 1
   rw [e1,e2]
   exact Heap.get?_push_size _ rfl
 . have e:b=(s.heap.push { cls:=.type "range",data:=.fields #[.int lo t,.int hi u,.int 1 v] }).objs.size:=by simpa using hb
   subst e
   exact I1.fpOk (Nat.le_refl _) (I1.hok.fresh (Nat.le_refl _))
noncomputable def iRng1 (ta:TA):TI:=fun σ H R=>ta σ H fun vs H1=>∃ j:Int,vs=[.int j] /\ -(2 ^ 62) <= j /\ j < 2 ^ 62 /\ R (Itr 0 j.toNat) H1
noncomputable def iRng2 (ta:TA):TI:=fun σ H R=>ta σ H fun vs H1=>∃ i j:Int,vs=[.int i,.int j] /\ (-(2 ^ 62) <= i /\ i < 2 ^ 62 /\ -(2 ^ 62) <= j /\ j < 2 ^ 62) /\ R (Itr i (j - i).toNat) H1
theorem pi_range1 {a:Expr} {ta:TA} {p pos:Pos} (hg:Gl X "range") (hm:X.mg "range"=none) (ha:PA X [a] ta) (hs:starEach [a] X.env=[(false,eval a X.env)]:=by rfl):PI X tg (.Call (.Name "range" p) [a] [] pos) (iRng1 ta):=by
 intro pins s σ H R I h
 refine Call_ (ld_blt I hg hm boot_range (PyProof.Rows.callWith_type1 (thn (ha pos pins s σ H _ I h) fun us s1 ⟨vs,H1,I1,r1,q1⟩=>?_) hs rfl))
 obtain ⟨j,e,q1,q2,q⟩:=q1
 subst e
 cases r1 with
 | cons r rr =>
   cases rr
   obtain ⟨t,rfl⟩:=r
   exact call_range_1 (range_it I1 (by omega) (by omega) q1 q2 (by simpa using q))
theorem pi_range2 {a b:Expr} {ta:TA} {p pos:Pos} (hg:Gl X "range") (hm:X.mg "range"=none) (ha:PA X [a,b] ta) (hs:starEach [a,b] X.env=[(false,eval a X.env),(false,eval b X.env)]:=by rfl) (hs2:starEach [b] X.env=[(false,eval b X.env)]:=by rfl) :
   PI X tg (.Call (.Name "range" p) [a,b] [] pos) (iRng2 ta):=by
 intro pins s σ H R I h
 refine Call_ (ld_blt I hg hm boot_range (PyProof.Rows.callWith_type1 (thn (ha pos pins s σ H _ I h) fun us s1 ⟨vs,H1,I1,r1,q1⟩=>?_) (by rw [hs,hs2]) (by rw [hs2]; rfl)))
 obtain ⟨i,j,e,⟨q1,q2,q3,q4⟩,q⟩:=q1
 subst e
 cases r1 with
 | cons r rr =>
   cases rr with
   | cons r' rr =>
     cases rr
     obtain ⟨t,rfl⟩:=r
     obtain ⟨t',rfl⟩:=r'
     exact call_range_2 (range_it I1 q1 q2 q3 q4 q)
noncomputable def tFor (wi:TI) (g:TG) (tb:TS):TS:=fun D σ H=>wi σ H fun J H1=>∃ W:Nat->Nat->St->Hp->Prop,(∃ m,W 0 m σ H1) /\ ∀ i m σ H,W i m σ H ->
 (J.stop i H /\ D.nx σ H) \/ (J.go i H /\ ∃ N:St->Hp->Prop,(∀ σ' H',N σ' H'->∃ m',m' < m /\ W (i + 1) m' σ' H') /\ ∀ x H',J.yld i H x H'->g x σ H' fun σ2 H2=>tb { D with nx:=N,ct:=N,bk:=D.nx } σ2 H2)
noncomputable def pinsAt (fp:List Addr) (h:Heap):List (Addr × Obj):=fp.filterMap fun b=>(h.get? b).map fun o=>(b,o)
theorem mem_pinsAt {fp:List Addr} {h:Heap} {b:Addr} {o:Obj} (hb:b ∈ fp) (e:h.get? b=some o):(b,o) ∈ pinsAt fp h:=List.mem_filterMap.mpr ⟨b,hb,by rw [e]; rfl⟩
theorem of_pinsAt {fp:List Addr} {h:Heap} {p:Addr × Obj} (hp:p ∈ pinsAt fp h):p.1 ∈ fp /\ h.get? p.1=some p.2:=by
 obtain ⟨b,hb,e⟩:=List.mem_filterMap.mp hp
 cases q:h.get? b with
 | none=>rw [q] at e; cases e
 | some o =>
   rw [q] at e
   have e':(b,o)=p:=Option.some.inj e
   subst e'
   exact ⟨hb,q⟩
theorem Inv.pinned {pins:List (Addr × Obj)} {σ:St} {H:Hp} {s:Shared} {fp:List Addr} (I:Inv X pins σ H s) (hf:∀ b ∈ fp,FpOk X pins H b) (ho:∀ b ∈ fp,∃ o,s.heap.get? b=some o /\ ∀ v,o.data ≠ .cell v):Inv X (pins ++ pinsAt fp s.heap) σ H s :=
 I.pins_of fun p hp=>(List.mem_append.mp hp).elim (fun z=>I.pin p (List.mem_append_right _ z)) fun z=>by
   obtain ⟨hb,e⟩:=of_pinsAt z
   obtain ⟨f0,f1,f2,_⟩:=hf p.1 hb
   obtain ⟨o,e',d⟩:=ho p.1 hb
   rw [e] at e'; cases e'
   exact ⟨e,f0,f1,f2,d⟩
theorem Inv.unpinned {pins pl:List (Addr × Obj)} {σ:St} {H:Hp} {s:Shared} (I:Inv X (pins ++ pl) σ H s):Inv X pins σ H s:=I.pins_of fun p hp=>I.pin p (List.mem_append_right _ (List.mem_append_left _ hp))
theorem ps_for {iter:Expr} {body:List Stmt} {wi:TI} {g:TG} {tb:TS} {pos:Pos} (hp:PassesOwn (model X.prog X.w) X.A X.env X.xe) (hc:X.calm=true) (hi:PI X tg iter wi) (hg:PG X tg g) (hb:PSs X body tb)
   (hs:∀ x,foldedSetIterable iter X.env x=pure x:=by intro _; rfl):PS X (.For tg iter body [] pos) (tFor wi g tb):=by
 intro pins s σ H D I h
 refine wpAny_For (thn (hi pins s σ H _ I h) fun v s1 h1=>thn h1 fun itv s2 h2=>?_) hs
 obtain ⟨it,fp,tn,J,H2,e,I2,T,st2,f2,W,⟨m0,w0⟩,turn⟩:=h2
 subst e
 -- what stays true of the iterator's objects through the loop
 have stat:∀ {H':Hp},(∀ b ∈ fp,H' b=none)->∀ b ∈ fp,FpOk X pins H' b:=fun hn b hb=>⟨hn b hb,(f2 b hb).2⟩
 refine codeAny_forLoop_any (fun n s'=>∃ i σ' H',Inv X pins σ' H' s' /\ tn i s'.heap /\ (∀ b ∈ fp,H' b=none) /\ W i n σ' H') ?_ m0 ⟨0,σ,H2,I2,st2,fun b hb=>(f2 b hb).1,w0⟩
 rintro n s3 ⟨i,σ3,H3,I3,st3,fr3,w3⟩
 rcases turn i n σ3 H3 w3 with ⟨stop,qn⟩ | ⟨go,N,hN,step⟩
 . refine wpAny_passesOwn hp (thn (T.done X rfl rfl rfl hc i pins s3 σ3 H3 X.xe I3 (stat fr3) st3 stop) fun r s4 ⟨hr,I4⟩=>?_)
   subst hr
   exact wpAny_execs_nil ⟨σ3,H3,I4,qn⟩
 . refine wpAny_passesOwn hp (thn (T.item X rfl rfl rfl hc i pins s3 σ3 H3 X.xe I3 (stat fr3) st3 go) fun r s4 ⟨u,hr,h4⟩=>?_)
   subst hr
   refine wpAny_passesOwn hp (thn h4 fun _ s5 zz18=>?_)
   obtain ⟨x,H5,I5,r5,y5,st5,fr5⟩:=zz18
   have I5':=I5.pinned (stat fr5) (T.obj _ _ st5)
   refine wpAny_passesOwn hp (thn (hg _ s5 σ3 H5 x u _ I5' r5 (step x H5 y5)) fun _ s6 zz19=>?_)
   obtain ⟨σ6,H6,I6,q6⟩:=zz19
   refine wpAny_passesOwn hp (thn (hb _ s6 σ6 H6 _ I6 q6) fun f s7 q7=>?_)
   have again:∀ {σ7:St} {H7:Hp},Inv X (pins ++ pinsAt fp s5.heap) σ7 H7 s7->N σ7 H7->∃ m,m < n /\ ∃ i σ' H',Inv X pins σ' H' s7 /\ tn i s7.heap /\ (∀ b ∈ fp,H' b=none) /\ W i m σ' H':=fun {σ7 H7} I7 n7=>by
     obtain ⟨m',hm,w7⟩:=hN σ7 H7 n7
     refine ⟨m',hm,i + 1,σ7,H7,I7.unpinned,T.keep _ _ _ st5 fun b hb o e=>(I7.pin (b,o) (List.mem_append_right _ (List.mem_append_right _ (mem_pinsAt hb e)))).1,fun b hb=>?_,w7⟩
     obtain ⟨o,e,d⟩:=T.obj _ _ st5 b hb
     exact (I7.pin (b,o) (List.mem_append_right _ (List.mem_append_right _ (mem_pinsAt hb e)))).2.1
   cases f with
   | next=>obtain ⟨σ7,H7,I7,n7⟩:=q7; exact again I7 n7
   | cont=>obtain ⟨σ7,H7,I7,n7⟩:=q7; exact again I7 n7
   | brk=>obtain ⟨σ7,H7,I7,q7⟩:=q7; exact ⟨σ7,H7,I7.unpinned,q7⟩
   | ret v=>obtain ⟨x7,σ7,H7,I7,r7,q7⟩:=q7; exact ⟨x7,σ7,H7,I7.unpinned,r7,q7⟩
end
end L2
namespace L2
open PySem PySem.Spec PyProof.Rows
noncomputable abbrev R2:=V->V->Hp->VK->Prop
noncomputable def OpR (X:Cx) (f:Value->Value->Sem Value) (r:R2):Prop :=
 ∀ (pins:List (Addr × Obj)) (s:Shared) (σ:St) (H:Hp) (x y:V) (v u:Value) (Q:VK),Inv X pins σ H s->RelV x v->RelV y u->r x y H Q ->
   wpAny (model X.prog X.w) X.A (f v u) (EP X pins σ Q) X.xe s
noncomputable def UnR (X:Cx) (f:Value->Sem Value) (r:V->Hp->VK->Prop):Prop :=
 ∀ (pins:List (Addr × Obj)) (s:Shared) (σ:St) (H:Hp) (x:V) (v:Value) (Q:VK),Inv X pins σ H s->RelV x v->r x H Q ->
   wpAny (model X.prog X.w) X.A (f v) (EP X pins σ Q) X.xe s
noncomputable def CallR (X:Cx) (f:Value) (r:List V->Hp->VK->Prop):Prop :=
 ∀ (pins:List (Addr × Obj)) (s:Shared) (σ:St) (H:Hp) (xs:List V) (us:List Value) (Q:VK),Inv X pins σ H s->Vals xs us->r xs H Q ->
   wpAny (model X.prog X.w) X.A (call f us) (EP X pins σ Q) X.xe s
noncomputable def tOp (r:R2) (ta tb:TE):TE:=fun σ H Q=>ta σ H fun x H1=>tb σ H1 fun y H2=>r x y H2 Q
noncomputable def tUn (r:V->Hp->VK->Prop) (ta:TE):TE:=fun σ H Q=>ta σ H fun x H1=>r x H1 Q
noncomputable def rI (C:Int->Int->Prop) (g:Int->Int->V):R2:=fun x y H Q=>∃ i j,x=.int i /\ y=.int j /\ C i j /\ Q (g i j) H
noncomputable def rI0 (g:Int->Int->V):R2:=fun x y H Q=>∃ i j,x=.int i /\ y=.int j /\ Q (g i j) H
noncomputable def rU (g:Int->V):V->Hp->VK->Prop:=fun x H Q=>∃ i,x=.int i /\ Q (g i) H
section
variable {X:Cx} {a b c:Expr} {ta tb tc:TE} {pos:Pos}
theorem binT (ha:PE X a ta) (hb:PE X b tb) {pins:List (Addr × Obj)} {s:Shared} {σ:St} {H:Hp} {R:V->V->Hp->Prop} (I:Inv X pins σ H s)
   (h:ta σ H fun x H1=>tb σ H1 fun y H2=>R x y H2) {Q:Value->Shared->Prop} {f:Value->Value->Sem Value}
   (hf:∀ v u s2 x y H2,Inv X pins σ H2 s2->RelV x v->RelV y u->R x y H2->wpAny (model X.prog X.w) X.A (f v u) Q X.xe s2) :
   wpAny (model X.prog X.w) X.A (eval a X.env) (fun v s₁=>wpAny (model X.prog X.w) X.A (eval b X.env) (fun u s₂=>wpAny (model X.prog X.w) X.A (f v u) Q X.xe s₂) X.xe s₁) X.xe s:=by
 refine thn (ha pins s σ H _ I h) fun v s1 zz20=>?_
 obtain ⟨x,H1,I1,r1,q1⟩:=zz20
 refine thn (hb pins s1 σ H1 _ I1 q1) fun u s2 zz21=>?_
 obtain ⟨y,H2,I2,r2,q2⟩:=zz21
 exact hf v u s2 x y H2 I2 r1 r2 q2
theorem pe_op {op:Operator} {r:R2} (ho:OpR X (binaryOp op) r) (ha:PE X a ta) (hb:PE X b tb):PE X (.BinOp a op b pos) (tOp r ta tb):=by
 intro pins s σ H Q I h
 exact wpAny_BinOp (binT ha hb I h fun v u s2 x y H2 I2 rx ry q=>ho pins s2 σ H2 x y v u Q I2 rx ry q)
theorem pe_un {op:UnaryOp} {r:V->Hp->VK->Prop} (ho:UnR X (unaryOp op) r) (ha:PE X a ta):PE X (.UnaryOp op a pos) (tUn r ta):=by
 intro pins s σ H Q I h
 exact UnaryOp_ (thn (ha pins s σ H _ I h) fun v s1 zz22=>by obtain ⟨x,H1,I1,r1,q1⟩:=zz22; exact ho pins s1 σ H1 x v Q I1 r1 q1)
theorem opI {f:Value->Value->Sem Value} {C:Int->Int->Prop} {g:Int->Int->Int}
   (rule:∀ (i j:Int) (t u:Tok) (s:Shared) (Q:Value->Shared->Prop) (E:Value->Shared->Prop),C i j->Q (.int (g i j) s.toks) { s with toks:=s.toks + 1 }->wpAny (model X.prog X.w) X.A (f (.int i t) (.int j u)) Q E s) :
   OpR X f (rI C fun i j=>.int (g i j)):=by
 intro pins s σ H x y v u Q I rx ry h
 obtain ⟨i,j,rfl,rfl,hc,q⟩:=h
 obtain ⟨t,rfl⟩:=rx
 obtain ⟨t',rfl⟩:=ry
 exact rule i j t t' s _ _ hc ⟨.int (g i j),H,I.tok _,⟨_,rfl⟩,q⟩
theorem opI0 {f:Value->Value->Sem Value} {g:Int->Int->Int}
   (rule:∀ (i j:Int) (t u:Tok) (s:Shared) (Q:Value->Shared->Prop) (E:Value->Shared->Prop),Q (.int (g i j) s.toks) { s with toks:=s.toks + 1 }->wpAny (model X.prog X.w) X.A (f (.int i t) (.int j u)) Q E s) :
   OpR X f (rI0 fun i j=>.int (g i j)):=by
 intro pins s σ H x y v u Q I rx ry h
 obtain ⟨i,j,rfl,rfl,q⟩:=h
 obtain ⟨t,rfl⟩:=rx
 obtain ⟨t',rfl⟩:=ry
 exact rule i j t t' s _ _ ⟨.int (g i j),H,I.tok _,⟨_,rfl⟩,q⟩
theorem opB0 {f:Value->Value->Sem Value} {g:Int->Int->Bool}
   (rule:∀ (i j:Int) (t u:Tok) (s:Shared) (Q:Value->Shared->Prop) (E:Value->Shared->Prop),Q (.bool (g i j)) s->wpAny (model X.prog X.w) X.A (f (.int i t) (.int j u)) Q E s) :
   OpR X f (rI0 fun i j=>.bl (g i j)):=by
 intro pins s σ H x y v u Q I rx ry h
 obtain ⟨i,j,rfl,rfl,q⟩:=h
 obtain ⟨t,rfl⟩:=rx
 obtain ⟨t',rfl⟩:=ry
 exact rule i j t t' s _ _ ⟨.bl (g i j),H,I,rfl,q⟩
noncomputable def CPow (i j:Int):Prop:=0 <= j /\ j <= 1000000 /\ i.natAbs < 2 ^ 64
noncomputable def CMul (i j:Int):Prop:=(-(2 ^ 64) < i /\ i < 2 ^ 64) \/ (-(2 ^ 64) < j /\ j < 2 ^ 64)
theorem CMul.ok {i j:Int} (h:CMul i j):IntMulOk i j:=by
 rcases h with ⟨h1,h2⟩ | ⟨h1,h2⟩
 . exact .of_left (intBits_le_64 h1 h2)
 . exact .of_right (intBits_le_64 h1 h2)
theorem two_pow_nn (k:Nat):(0:Int) <= 2 ^ k:=by
 rw [two_pow_cast]
 exact Int.natCast_nonneg _
theorem op_add:OpR X (binaryOp .Add) (rI0 fun i j=>.int (i + j)):=opI0 fun _ _ _ _ _ _ _ q=>add_int q
theorem op_sub:OpR X (binaryOp .Sub) (rI0 fun i j=>.int (i - j)):=opI0 fun _ _ _ _ _ _ _ q=>sub_int q
theorem op_mul:OpR X (binaryOp .Mult) (rI CMul fun i j=>.int (i * j)):=opI fun _ _ _ _ _ _ _ hc q=>mul_int q hc.ok
theorem op_mod:OpR X (binaryOp .Mod) (rI (fun _ j=>0 < j) fun i j=>.int (i % j)):=opI fun i j _ _ _ _ _ hc q=>by
 have h1:(0:Int) < j:=hc
 exact mod_int' (by omega) (by rw [Int.fmod_eq_emod_of_nonneg i (by omega)]; exact q)
theorem op_pow:OpR X (binaryOp .Pow) (rI CPow fun i j=>.int (i ^ j.toNat)):=opI fun _ _ _ _ _ _ _ hc q=>pow_int_small hc.1 hc.2.1 hc.2.2 q
theorem op_shr:OpR X (binaryOp .RShift) (rI (fun _ j=>0 <= j) fun i j=>.int (i / 2 ^ j.toNat)):=opI fun i j _ _ _ _ _ hc q =>
 rshift_int hc (by rw [Int.fdiv_eq_ediv_of_nonneg i (two_pow_nn _)]; exact q)
theorem unI {f:Value->Sem Value} {g:Int->Int}
   (rule:∀ (i:Int) (t:Tok) (s:Shared) (Q:Value->Shared->Prop) (E:Value->Shared->Prop),Q (.int (g i) s.toks) { s with toks:=s.toks + 1 }->wpAny (model X.prog X.w) X.A (f (.int i t)) Q E s) :
   UnR X f (rU fun i=>.int (g i)):=by
 intro pins s σ H x v Q I rx h
 obtain ⟨i,rfl,q⟩:=h
 obtain ⟨t,rfl⟩:=rx
 exact rule i t s _ _ ⟨.int (g i),H,I.tok _,⟨_,rfl⟩,q⟩
theorem un_neg:UnR X (unaryOp .USub) (rU fun i=>.int (-i)):=unI fun _ _ _ _ _ q=>neg_int q
end
noncomputable def scal:V->V->Bool
 | .non,.non=>true | .non,.int _=>true | .int _,.non=>true | .non,.bl _=>true | .bl _,.non=>true | .non,.str _=>true | .str _,.non=>true
 | .int _,.int _=>true | .bl _,.bl _=>true | .str _,.str _=>true | .byt _,.byt _=>true
 | .int _,.str _=>true | .str _,.int _=>true | .bl _,.str _=>true | .str _,.bl _=>true
 | _,_=>false
noncomputable def rEq:R2:=fun x y H Q=>scal x y=true /\ Q (.bl (decide (x=y))) H
noncomputable def rNe:R2:=fun x y H Q=>scal x y=true /\ Q (.bl (!decide (x=y))) H
theorem dec_int {i j:Int}:decide (V.int i=V.int j)=(i == j):=by
 rw [Bool.eq_iff_iff]
 simp
theorem dec_bl {i j:Bool}:decide (V.bl i=V.bl j)=(i == j):=by
 rw [Bool.eq_iff_iff]
 simp
theorem dec_str {i j:Str}:decide (V.str i=V.str j)=(i == j):=by
 rw [Bool.eq_iff_iff]
 simp
theorem dec_byt {i j:Array UInt8}:decide (V.byt i=V.byt j)=(i.toList == j.toList):=by
 rw [Bool.eq_iff_iff]
 cases i
 cases j
 simp
section
variable {X:Cx} {a b c:Expr} {ta tb tc:TE} {pos:Pos}
theorem fin_bl {pins:List (Addr × Obj)} {σ:St} {H:Hp} {s:Shared} {Q:VK} {k k':Bool} (I:Inv X pins σ H s) (q:Q (.bl k) H) (e:k=k'):EP X pins σ Q (.bool k') s:=by
 subst e
 exact ⟨.bl k,H,I,rfl,q⟩
theorem op_eq:OpR X (compareOp .Eq) rEq:=by
 intro pins s σ H x y v u Q I rx ry h
 obtain ⟨hs,q⟩:=h
 cases x with
 | non =>
   cases rx
   cases y with
   | non=>cases ry; exact PySem.EqNone.eq_none_none (fin_bl I q (by simp))
   | bl j=>cases ry; exact PySem.EqNone.eq_none_bool (fin_bl I q (by simp))
   | int j=>obtain ⟨t',rfl⟩:=ry; exact PySem.EqNone.eq_none_int (fin_bl I q (by simp))
   | str j=>obtain ⟨t',rfl⟩:=ry; exact PySem.EqNone.eq_none_str (fin_bl I q (by simp))
   | _=>exact absurd (show false=true from hs) Bool.false_ne_true
 | bl i =>
   cases rx
   cases y with
   | non=>cases ry; exact PySem.EqNone.eq_bool_none (fin_bl I q (by simp))
   | bl j=>cases ry; exact eq_bool (fin_bl I q dec_bl)
   | str j=>obtain ⟨t',rfl⟩:=ry; exact PySem.EqMixed.eq_bool_str (fin_bl I q (by simp))
   | _=>exact absurd (show false=true from hs) Bool.false_ne_true
 | int i =>
   obtain ⟨t,rfl⟩:=rx
   cases y with
   | non=>cases ry; exact PySem.EqNone.eq_int_none (fin_bl I q (by simp))
   | int j=>obtain ⟨t',rfl⟩:=ry; exact eq_int (fin_bl I q dec_int)
   | str j=>obtain ⟨t',rfl⟩:=ry; exact PySem.EqMixed.eq_int_str (fin_bl I q (by simp))
   | _=>exact absurd (show false=true from hs) Bool.false_ne_true
 | str i =>
   obtain ⟨t,rfl⟩:=rx
   cases y with
   | non=>cases ry; exact PySem.EqNone.eq_str_none (fin_bl I q (by simp))
   | bl j=>cases ry; exact PySem.EqMixed.eq_str_bool (fin_bl I q (by simp))
   | int j=>obtain ⟨t',rfl⟩:=ry; exact PySem.EqMixed.eq_str_int (fin_bl I q (by simp))
   | str j=>obtain ⟨t',rfl⟩:=ry; exact eq_str (fin_bl I q dec_str)
   | _=>exact absurd (show false=true from hs) Bool.false_ne_true
 | byt i =>
   obtain ⟨t,rfl⟩:=rx
   cases y with
   | byt j=>obtain ⟨t',rfl⟩:=ry; exact PySem.W.eq_bytes (fin_bl I q dec_byt)
   | _=>exact absurd (show false=true from hs) Bool.false_ne_true
 | _=>cases y <;> exact absurd (show false=true from hs) Bool.false_ne_true
theorem op_ne:OpR X (compareOp .NotEq) rNe:=by
 intro pins s σ H x y v u Q I rx ry h
 obtain ⟨hs,q⟩:=h
 cases x with
 | non =>
   cases rx
   cases y with
   | non=>cases ry; exact PySem.EqNone.ne_none_none (fin_bl I q (by simp))
   | bl j=>cases ry; exact PySem.EqNone.ne_none_bool (fin_bl I q (by simp))
   | int j=>obtain ⟨t',rfl⟩:=ry; exact PySem.EqNone.ne_none_int (fin_bl I q (by simp))
   | str j=>obtain ⟨t',rfl⟩:=ry; exact PySem.EqNone.ne_none_str (fin_bl I q (by simp))
   | _=>exact absurd (show false=true from hs) Bool.false_ne_true
 | bl i =>
   cases rx
   cases y with
   | non=>cases ry; exact PySem.EqNone.ne_bool_none (fin_bl I q (by simp))
   | bl j=>cases ry; exact ne_bool (fin_bl I q (congrArg not dec_bl))
   | str j=>obtain ⟨t',rfl⟩:=ry; exact PySem.EqMixed.ne_bool_str (fin_bl I q (by simp))
   | _=>exact absurd (show false=true from hs) Bool.false_ne_true
 | int i =>
   obtain ⟨t,rfl⟩:=rx
   cases y with
   | non=>cases ry; exact PySem.EqNone.ne_int_none (fin_bl I q (by simp))
   | int j=>obtain ⟨t',rfl⟩:=ry; exact ne_int (fin_bl I q (congrArg not dec_int))
   | str j=>obtain ⟨t',rfl⟩:=ry; exact PySem.EqMixed.ne_int_str (fin_bl I q (by simp))
   | _=>exact absurd (show false=true from hs) Bool.false_ne_true
 | str i =>
   obtain ⟨t,rfl⟩:=rx
   cases y with
   | non=>cases ry; exact PySem.EqNone.ne_str_none (fin_bl I q (by simp))
   | bl j=>cases ry; exact PySem.EqMixed.ne_str_bool (fin_bl I q (by simp))
   | int j=>obtain ⟨t',rfl⟩:=ry; exact PySem.EqMixed.ne_str_int (fin_bl I q (by simp))
   | str j=>obtain ⟨t',rfl⟩:=ry; exact ne_str (fin_bl I q (congrArg not dec_str))
   | _=>exact absurd (show false=true from hs) Bool.false_ne_true
 | byt i =>
   obtain ⟨t,rfl⟩:=rx
   cases y with
   | byt j=>obtain ⟨t',rfl⟩:=ry; exact PySem.W.ne_bytes (fin_bl I q (congrArg not dec_byt))
   | _=>exact absurd (show false=true from hs) Bool.false_ne_true
 | _=>cases y <;> exact absurd (show false=true from hs) Bool.false_ne_true
theorem op_lt:OpR X (compareOp .Lt) (rI0 fun i j=>.bl (decide (i < j))):=opB0 fun _ _ _ _ _ _ _ q=>lt_int q
theorem op_le:OpR X (compareOp .LtE) (rI0 fun i j=>.bl (decide (i <= j))):=opB0 fun _ _ _ _ _ _ _ q=>le_int q
theorem op_gt:OpR X (compareOp .Gt) (rI0 fun i j=>.bl (decide (j < i))):=opB0 fun _ _ _ _ _ _ _ q=>gt_int q
theorem op_lt_str:OpR X (compareOp .Lt) (fun x y H Q=>∃ i j,x=.str i /\ y=.str j /\ Q (.bl (decide (i.cps.toList < j.cps.toList))) H):=by
 intro pins s σ H x y v u Q I rx ry h
 obtain ⟨i,j,rfl,rfl,q⟩:=h
 obtain ⟨t,rfl⟩:=rx
 obtain ⟨t',rfl⟩:=ry
 exact lt_str (fin_bl I q rfl)
theorem op_isN:OpR X (compareOp .Is) (fun x y H Q=>y=.non /\ Q (.bl (decide (x=.non))) H):=by
 intro pins s σ H x y v u Q I rx ry h
 obtain ⟨rfl,q⟩:=h
 cases ry
 refine is_none_gen (fin_bl I q ?_)
 cases x <;> first
   | (cases rx; rfl)
   | (obtain ⟨t,rfl⟩:=rx; rfl)
theorem op_notin_str:OpR X (compareOp .NotIn) (fun x y H Q=>∃ i j,x=.str i /\ y=.str j /\ Q (.bl (!(!(Builtin.Str.occurrences j i 0 j.length 1).isEmpty))) H):=by
 intro pins s σ H x y v u Q I rx ry h
 obtain ⟨i,j,rfl,rfl,q⟩:=h
 obtain ⟨t,rfl⟩:=rx
 obtain ⟨t',rfl⟩:=ry
 exact notIn_str (fin_bl I q rfl)
theorem nomark (b:Expr) {op:CmpOp} (h:op ≠ .In:=by decide) (h2:op ≠ .NotIn:=by decide):behindInMarks op b=false:=by
 have e1:(op == CmpOp.In)=false:=by cases op <;> first | rfl | exact absurd rfl h
 have e2:(op == CmpOp.NotIn)=false:=by cases op <;> first | rfl | exact absurd rfl h2
 cases b <;> simp [behindInMarks,e1,e2]
theorem pe_cmpR {op:CmpOp} {r:R2} (ho:OpR X (compareOp op) r) (ha:PE X a ta) (hb:PE X b tb) (hm:behindInMarks op b=false):PE X (.Compare a [op] [b] pos) (tOp r ta tb):=by
 intro pins s σ H Q I h
 exact wpAny_Compare1 (binT ha hb I h fun v u s2 x y H2 I2 rx ry q=>ho pins s2 σ H2 x y v u Q I2 rx ry q) hm
noncomputable def tTest (t:TE):TT:=fun σ H Q=>t σ H fun x H'=>∃ k,x=.bl k /\ Q k H'
theorem pt_cmpR {op:CmpOp} {r:R2} (ho:OpR X (compareOp op) r) (ha:PE X a ta) (hb:PE X b tb) (hm:behindInMarks op b=false):PT X (.Compare a [op] [b] pos) (tTest (tOp r ta tb)):=by
 intro pins s σ H Q I h
 refine wpAny_isTrue_Compare1 (thn (ha pins s σ H _ I h) fun v s1 ⟨x,H1,I1,r1,q1⟩=>thn (hb pins s1 σ H1 _ I1 q1) fun u s2 ⟨y,H2,I2,r2,q2⟩ =>
   thn (ho pins s2 σ H2 x y v u _ I2 r1 r2 q2) fun c s3 ⟨z,H3,I3,r3,k,e,q3⟩=>?_) hm
 subst e
 cases r3
 exact wpAny_truthy_bool ⟨H3,I3,q3⟩
noncomputable def tChain (r r':R2) (ta tb tc:TE):TE:=fun σ H Q=>ta σ H fun x H1=>tb σ H1 fun y H2=>r x y H2 fun z H3=>∃ k,z=.bl k /\
 (if k=true then tc σ H3 fun w' H4=>r' y w' H4 Q else Q (.bl false) H3)
theorem pe_chain {op op':CmpOp} {r r':R2} (ho:OpR X (compareOp op) r) (ho':OpR X (compareOp op') r') (ha:PE X a ta) (hb:PE X b tb) (hc:PE X c tc)
   (hm:lastMarks [op,op'] [b,c]=false:=by with_unfolding_all rfl):PE X (.Compare a [op,op'] [b,c] pos) (tChain r r' ta tb tc):=by
 intro pins s σ H Q I h
 refine Compare_chain (thn (ha pins s σ H _ I h) fun v s1 ⟨x,H1,I1,r1,q1⟩=>chain_link (thn (hb pins s1 σ H1 _ I1 q1) fun u s2 ⟨y,H2,I2,r2,q2⟩ =>
   thn (ho pins s2 σ H2 x y v u _ I2 r1 r2 q2) fun d s3 ⟨z,H3,I3,r3,k,e,q3⟩=>?_)) hm
 subst e
 cases r3
 refine wpAny_truthy_bool ?_
 cases k with
 | false=>exact ite_ff ⟨.bl false,H3,I3,rfl,q3⟩
 | true=>exact ite_tt (chain_last (thn (hc pins s3 σ H3 _ I3 q3) fun w' s4 ⟨z',H4,I4,r4,q4⟩=>ho' pins s4 σ H4 y z' u w' Q I4 r2 r4 q4))
theorem pt_chain {op op':CmpOp} {r r':R2} (ho:OpR X (compareOp op) r) (ho':OpR X (compareOp op') r') (ha:PE X a ta) (hb:PE X b tb) (hc:PE X c tc)
   (hm:lastMarks [op,op'] [b,c]=false:=by with_unfolding_all rfl):PT X (.Compare a [op,op'] [b,c] pos) (tTest (tChain r r' ta tb tc)):=by
 intro pins s σ H Q I h
 refine isTrue_chain (thn (ha pins s σ H _ I h) fun v s1 ⟨x,H1,I1,r1,q1⟩=>test_link (thn (hb pins s1 σ H1 _ I1 q1) fun u s2 ⟨y,H2,I2,r2,q2⟩ =>
   thn (ho pins s2 σ H2 x y v u _ I2 r1 r2 q2) fun d s3 ⟨z,H3,I3,r3,k,e,q3⟩=>?_)) hm
 subst e
 cases r3
 refine wpAny_truthy_bool ?_
 cases k with
 | false =>
   obtain ⟨k',e',q'⟩:=q3
   cases e'
   exact ite_ff ⟨H3,I3,q'⟩
 | true =>
   refine ite_tt (test_last (thn (hc pins s3 σ H3 _ I3 q3) fun w' s4 zz23=>?_))
   obtain ⟨z',H4,I4,r4,q4⟩:=zz23
   refine thn (ho' pins s4 σ H4 y z' u w' _ I4 r2 r4 q4) fun d' s5 zz24=>?_
   obtain ⟨z2,H5,I5,r5,k2,e2,q5⟩:=zz24
   subst e2
   cases r5
   exact wpAny_truthy_bool ⟨H5,I5,q5⟩
theorem line63:(sizeLine:Nat) < 2 ^ 63:=by rw [sizeLine_eq]; decide
theorem op_add_str:OpR X (binaryOp .Add) (fun x y H Q=>∃ i j,x=.str i /\ y=.str j /\ i.length + j.length <= sizeLine /\ Q (.str (i ++ j)) H):=by
 intro pins s σ H x y v u Q I rx ry h
 obtain ⟨i,j,rfl,rfl,hz,q⟩:=h
 obtain ⟨t,rfl⟩:=rx
 obtain ⟨t',rfl⟩:=ry
 exact add_str (fun t' tk=>⟨.str (i ++ j),H,I.tok _,⟨_,rfl⟩,q⟩) hz
theorem vals1 {x:V} {us:List Value} (r:Vals [x] us):∃ u,us=[u] /\ RelV x u:=by
 cases r with
 | cons r1 r2=>cases r2; exact ⟨_,rfl,r1⟩
theorem vals2 {x y:V} {us:List Value} (r:Vals [x,y] us):∃ u w',us=[u,w'] /\ RelV x u /\ RelV y w':=by
 cases r with
 | cons r1 r2 =>
   cases r2 with
   | cons r3 r4=>cases r4; exact ⟨_,_,rfl,r1,r3⟩
end
end L2
namespace L2
open PySem PySem.Spec PyProof.Rows
structure ObjM (h:Heap) (x dx C:Addr) (mA:Str->Option Value):Prop where
 obj:h.get? x=some (PySem.W.instObj C dx)
 ns:h.Ns1 dx mA
 ne:dx ≠ x
theorem lookIn_ns {h:Heap} {dx:Addr} {mA:Str->Option Value} (n:h.Ns1 dx mA):∃ od,h.get? dx=some od /\ ∀ name,PySem.W.lookIn name od=some (mA name):=by
 obtain ⟨o,es,ep,ho,hd,hk,_,hm⟩:=n
 refine ⟨o,ho,fun name=>?_⟩
 have e:=hm name
 unfold nsFind findBy at e
 rw [<- Array.find?_toList] at e
 unfold PySem.W.lookIn
 rw [hd]
 dsimp only
 split
 . rename_i y q
   rw [q] at e
   exact congrArg some e
 . rename_i q
   rw [q] at e
   have a:es.toList.any (·.refKey)=false:=by
     rw [List.any_eq_false]
     intro y hy
     obtain ⟨z,t,hkey⟩:=hk y (Array.mem_toList_iff.mp hy)
     simp [DictEntry.refKey,hkey]
   have a':¬ es.toList.any (·.refKey)=true:=by rw [a]; exact Bool.false_ne_true
   rw [if_neg a']
   exact congrArg some e
theorem ObjM.look {h:Heap} {x dx C:Addr} {mA:Str->Option Value} (I:ObjM h x dx C mA):∃ od,PySem.W.InstAt h x (PySem.W.instObj C dx) C (some od) /\ ∀ name,PySem.W.lookIn name od=some (mA name) :=
 let ⟨od,ho,hl⟩:=lookIn_ns I.ns
 ⟨od,⟨I.obj,rfl,rfl,ho⟩,hl⟩
section
variable {prog:Program} {w:World} {A:Around} {E:Value->Shared->Prop} {s:Shared} {K:PySem.W.Frag} {x dx C f:Addr} {mA:Str->Option Value} {name:Str} {v:Value}
theorem get_map {expr:Bool} {Q:Value->Shared->Prop} (X:K.In s.heap) (I:ObjM s.heap x dx C mA) (hg:PySem.W.plainGet K C name=true) (hh:PySem.W.hasDictIn K C=true)
   (ha:PySem.W.findIn K (.ref C) name=some none) (hv:mA name=some v) (hv':PySem.W.handedIn v=true) (h:Q v { s with toks:=s.toks + 1 }) :
   wpAny (model prog w) A (getAttr (.ref x) name expr) Q E s:=by
 obtain ⟨od,J,hl⟩:=I.look
 exact PySem.W.get_value X J (PySem.W.plainGet_of hg).1 (PySem.W.findObj_own hh ha rfl (by rw [hl,hv])) hv' h
theorem get_meth {pl:Sem Bool} {Q:Value × List Value->Shared->Prop} (X:K.In s.heap) (I:ObjM s.heap x dx C mA) (hg:PySem.W.plainGet K C name=true)
   (hf:PySem.W.findIn K (.ref C) name=some (some (.ref f))) (ht:PySem.W.isFn K (.ref f)=true) (hv:mA name=none) (h:Q (.ref f,[.ref x]) s) :
   wpAny (model prog w) A (getMethod (.ref x) name pl) Q E s:=by
 obtain ⟨od,J,hl⟩:=I.look
 exact PySem.W.method_fn X J (PySem.W.plainGet_of hg).1 (PySem.W.plainGet_of hg).2 hf (beq_iff_eq.mp ht) (by show (PySem.W.lookIn name od).map (·.isSome)=some false; rw [hl,hv]; rfl) h
theorem set_map {ns:List Str} {Q:Unit->Shared->Prop} (X:K.In s.heap) (I:ObjM s.heap x dx C mA)
   (hs:PySem.W.findIn K (.ref C) "__setattr__"=some (some (.builtin "object.__setattr__"))) (hp:PySem.W.plainOver K C=true) (ht:PySem.W.takerIn K C name=some none) (hh:PySem.W.hasDictIn K C=true)
   (hw:PySem.Within mA ns) (hsz:ns.length <= sizeLine)
   (h:∀ h',ObjM h' x dx C (fun y=>if y=name then some v else mA y)->Heap.SameBut dx s.heap h'->Q () { s with heap:=h',toks:=s.toks + 2 }) :
   wpAny (model prog w) A (setAttr (.ref x) name v) Q E s:=by
 obtain ⟨od,J,hl⟩:=I.look
 refine PySem.W.set_plain X J hs (PySem.W.osa_open (s:={ s with toks:=s.toks + 1 }) (r:=none) X J hp ht fun b=>?_)
 obtain ⟨cd,hc,hd'⟩:=PySem.W.any_some hh
 have hx:s.heap.get? x=some ⟨.ref C,some dx,.plain,#[]⟩:=I.obj
 refine wpAny_bind (wpAny_pure (wpAny_bind (wpAny_bind (wpAny_loadPart hx (wpAny_bind (PySem.W.Looks.here (s:={ s with toks:=s.toks + 1 }) (PySem.W.looks_clsIn X hc) ?_))))))
 rw [hd']
 refine wpAny_pure (a:=some dx) (wpAny_bind (wpAny_pure (wpAny_bind ?_)))
 refine wpAny_nsSet1 (s:={ s with toks:=s.toks + 1 }) I.ns fun h' hn2 hs2=>?_
 obtain ⟨oD,esD,epD,hoD,hdD,hcD⟩:=hn2.count (PySem.Within.cons name v hw)
 refine wpAny_bind (wpAny_lookBehind hoD (by rw [hdD]; exact pastItsLine_dict (Nat.le_trans hcD (by rw [List.length_cons]; omega))) ?_)
 exact wpAny_pure (h _ ⟨(hs2.2 _ (Ne.symm I.ne)).trans I.obj,hn2,I.ne⟩ hs2)
theorem make_map {R:Result->Shared->Prop} {vs:List Value} {kw:List (Str × Value)} (X:K.In s.heap) (hm:PySem.W.makesIn K C=true)
   (hi:PySem.W.findIn K (.ref C) "__init__"=some (some (.ref f))) (hf:PySem.W.typeIn K (.ref f)=some (.type "function"))
   (h:codeAny (model prog w) (A.under (.builtin "type.__call__" ⟨.ref C :: vs,kw⟩)) (.call (.ref f) ⟨.ref (s.heap.objs.size + 1) :: vs,kw⟩) (PySem.W.InitBack (s.heap.objs.size + 1) R)
     { s with heap:=(s.heap.push PySem.W.emptyDict).push (PySem.W.instObj C s.heap.objs.size) }) :
   codeAny (model prog w) A (.call (.ref C) ⟨vs,kw⟩) R s:=by
 obtain ⟨hh,g,d,t,os⟩:=s
 exact PySem.W.make_core (PySem.W.makes_of X hm) (PySem.W.looks_findIn X hi) (fun self=>PySem.W.bind_fn X self hf) (.inl rfl) h
end
noncomputable def putF (f:Str) (v:V):List (Str × V)->List (Str × V)
 | []=>[(f,v)]
 | (g,x) :: r=>if g=f then (g,v) :: r else (g,x) :: putF f v r
theorem lookup_putF (f g:Str) (v:V):∀ fs:List (Str × V),(putF f v fs).lookup g=if g=f then some v else fs.lookup g
 | []=>by
   show List.lookup g [(f,v)]=_
   by_cases h:g=f
   . have hb:(g == f)=true:=beq_iff_eq.mpr h
     simp only [List.lookup,hb,if_pos h]
   . have hb:(g == f)=false:=beq_eq_false_iff_ne.mpr h
     simp only [List.lookup,hb,if_neg h]
 | (k,x) :: r=>by
   have ih:=lookup_putF f g v r
   rw [show putF f v ((k,x) :: r)=(if k=f then (k,v) :: r else (k,x) :: putF f v r) from rfl]
   by_cases hk:k=f
   . rw [if_pos hk]
     by_cases h:g=k
     . have hb:(g == k)=true:=beq_iff_eq.mpr h
       simp only [List.lookup,hb,if_pos (h.trans hk)]
     . have hb:(g == k)=false:=beq_eq_false_iff_ne.mpr h
       simp only [List.lookup,hb,if_neg (fun e:g=f=>h (e.trans hk.symm))]
   . rw [if_neg hk]
     by_cases h:g=k
     . have hb:(g == k)=true:=beq_iff_eq.mpr h
       simp only [List.lookup,hb,if_neg (fun e:g=f=>hk (h.symm.trans e))]
     . have hb:(g == k)=false:=beq_eq_false_iff_ne.mpr h
       simp only [List.lookup,hb]
       exact ih
theorem keys_putF (f:Str) (v:V):∀ fs:List (Str × V),f ∈ (putF f v fs).map (·.1) /\ ∀ g,g ∈ fs.map (·.1)->g ∈ (putF f v fs).map (·.1)
 | []=>⟨by simp [putF],fun g h=>by simp at h⟩
 | (k,x) :: r=>by
   obtain ⟨i1,i2⟩:=keys_putF f v r
   rw [show putF f v ((k,x) :: r)=(if k=f then (k,v) :: r else (k,x) :: putF f v r) from rfl]
   by_cases hk:k=f
   . rw [if_pos hk]
     subst hk
     exact ⟨by simp,fun g h=>by simpa using h⟩
   . rw [if_neg hk]
     refine ⟨?_,fun g h=>?_⟩
     . rw [List.map_cons]
       exact List.mem_cons_of_mem _ i1
     . rw [List.map_cons] at h ⊢
       rcases List.mem_cons.mp h with e | e
       . exact List.mem_cons.mpr (.inl e)
       . exact List.mem_cons_of_mem _ (i2 g e)
theorem length_putF (f:Str) (v:V):∀ fs:List (Str × V),(putF f v fs).length <= fs.length + 1
 | []=>by simp [putF]
 | (k,x) :: r=>by
   have ih:=length_putF f v r
   rw [show putF f v ((k,x) :: r)=(if k=f then (k,v) :: r else (k,x) :: putF f v r) from rfl]
   by_cases hk:k=f
   . rw [if_pos hk,List.length_cons,List.length_cons]; omega
   . rw [if_neg hk,List.length_cons,List.length_cons]; omega
theorem RelO.some_of {v:V} {o:Option Value} (r:RelO (some v) o):∃ u,o=some u /\ RelV v u:=by
 cases o with
 | none=>exact (show False from r).elim
 | some u=>exact ⟨u,rfl,r⟩
theorem RelO.none_of {o:Option Value} (r:RelO none o):o=none:=by
 cases o with
 | none=>rfl
 | some u=>exact (show False from r).elim
theorem handed_of {v:V} {u:Value} (r:RelV v u):PySem.W.handedIn u=true:=by
 cases v with
 | non=>cases (show u=Value.none from r); rfl
 | bl b=>cases (show u=Value.bool b from r); rfl
 | int i=>obtain ⟨t,e⟩:=(show ∃ t,u=Value.int i t from r); cases e; rfl
 | str x=>obtain ⟨t,e⟩:=(show ∃ t,u=Value.str x t from r); cases e; rfl
 | byt b=>obtain ⟨t,e⟩:=(show ∃ t,u=Value.bytes b t from r); cases e; rfl
 | flt b=>obtain ⟨t,e⟩:=(show ∃ t,u=Value.float b t from r); cases e; rfl
 | ref a=>cases (show u=Value.ref a from r); rfl
 | ty n=>cases (show u=Value.type n from r); rfl
section
variable {P:Program} {w:World} {H H':Hp} {h h':Heap} {a C dx:Addr} {fs fs':List (Str × V)}
theorem ins_get (hok:HOk P w H h) (e:H a=some (.ins C dx fs)):∃ mA,ObjM h a dx C mA /\ (∀ f,RelO (fs.lookup f) (mA f)) /\ PySem.Within mA (fs.map (·.1)) /\ fs.length <= 1000 /\ H dx=some (.own a):=by
 obtain ⟨d,z,ne,ob,mA,n,r,q⟩:=(show ObjOk P w H h a (.ins C dx fs) from hok a _ e)
 exact ⟨mA,⟨ob,n,ne⟩,r,q,z,d⟩
end
structure Cls (K:PySem.W.Frag) (C:Addr):Prop where
 pg:PySem.W.plainGet K C Str.empty=true
 hd:PySem.W.hasDictIn K C=true
 po:PySem.W.plainOver K C=true
 sa:PySem.W.findIn K (.ref C) "__setattr__"=some (some (.builtin "object.__setattr__"))
theorem Cls.get {K:PySem.W.Frag} {C:Addr} (c:Cls K C) (f:Str):PySem.W.plainGet K C f=true:=c.pg
noncomputable def NoAttr (K:PySem.W.Frag) (C:Addr) (f:Str):Prop:=PySem.W.findIn K (.ref C) f=some none
theorem NoAttr.taker {K:PySem.W.Frag} {C:Addr} {f:Str} (n:NoAttr K C f):PySem.W.takerIn K C f=some none:=by
 unfold PySem.W.takerIn
 rw [show PySem.W.findIn K (.ref C) f=some none from n]
 rfl
structure Con (K:PySem.W.Frag) (C:Addr) (f:Str) (v:V) (u:Value):Prop where
 at_:PySem.W.findIn K (.ref C) f=some (some u)
 rel:RelV v u
 get:PySem.W.specialIn K u "__get__"=some none
 cp:PySem.W.copiedNames.contains f=false
structure Meth (K:PySem.W.Frag) (C:Addr) (m:Str) (f:Addr):Prop where
 at_:PySem.W.findIn K (.ref C) m=some (some (.ref f))
 fn:PySem.W.isFn K (.ref f)=true
 kp:PySem.W.keepIn K (.ref f)=true
section
variable {X:Cx} {pins:List (Addr × Obj)} {σ:St} {H:Hp} {s:Shared} {a C dx:Addr} {fs:List (Str × V)} {f:Str} {v:V} {A:Around} {E:Value->Shared->Prop}
theorem getattr_ok {b:Bool} {Q:Value->Shared->Prop} (I:Inv X pins σ H s) (e:H a=some (.ins C dx fs)) (c:Cls X.K C) (n:NoAttr X.K C f) (l:fs.lookup f=some v)
   (h:∀ u s',Inv X pins σ H s'->RelV v u->Q u s'):wpAny (model X.prog X.w) A (getAttr (.ref a) f b) Q E s:=by
 obtain ⟨mA,O,r,_,_,_⟩:=ins_get I.hok e
 obtain ⟨u,hu,ru⟩:=RelO.some_of (v:=v) (o:=mA f) (by rw [<- l]; exact r f)
 exact get_map I.kIn O (c.get f) c.hd n hu (handed_of ru) (h u _ (I.tok _) ru)
theorem getmeth_ok {m:Str} {g:Addr} {pl:Sem Bool} {Q:Value × List Value->Shared->Prop} (I:Inv X pins σ H s) (e:H a=some (.ins C dx fs)) (c:Cls X.K C) (k:Meth X.K C m g) (l:fs.lookup m=none)
   (h:Q (.ref g,[.ref a]) s):wpAny (model X.prog X.w) A (getMethod (.ref a) m pl) Q E s:=by
 obtain ⟨mA,O,r,_,_,_⟩:=ins_get I.hok e
 have hn:mA m=none:=RelO.none_of (by rw [<- l]; exact r m)
 exact get_meth I.kIn O (c.get m) k.at_ k.fn hn h
theorem setattr_ok {y:V} {u:Value} {Q:Unit->Shared->Prop} (I:Inv X pins σ H s) (e:H a=some (.ins C dx fs)) (c:Cls X.K C) (n:NoAttr X.K C f) (hl:fs.length < 1000) (ry:RelV y u)
   (h:∀ s',Inv X pins σ (upd H a (.ins C dx (putF f y fs))) s'->Q () s'):wpAny (model X.prog X.w) A (setAttr (.ref a) f u) Q E s:=by
 obtain ⟨mA,O,r,wi,_,ho⟩:=ins_get I.hok e
 have hz:(fs.map (·.1)).length <= sizeLine:=by rw [List.length_map,sizeLine_eq]; omega
 refine set_map I.kIn O c.sa c.po n.taker c.hd wi hz fun h' O' sb=>h _ ?_
 have hd:∃ o,h'.get? dx=some o:=let ⟨o,_,_,e',_⟩:=O'.ns; ⟨o,e'⟩
 refine I.write (x:=a) (e:=dx) (by rw [e]; exact True.intro) (.inr ho) (fun b q hb z=>(sb.2 b hb).trans z) hd ?_
 refine ⟨by rw [upd_ne O.ne]; exact ho,?_,O.ne,O'.obj,_,O'.ns,fun g=>?_,fun g hg=>?_⟩
 . have:=length_putF f y fs; omega
 . show RelO ((putF f y fs).lookup g) (if g=f then some u else mA g)
   rw [lookup_putF]
   by_cases q:g=f
   . rw [if_pos q,if_pos q]; exact ry
   . rw [if_neg q,if_neg q]; exact r g
 . by_cases q:g=f
   . rw [q]; exact (keys_putF f y fs).1
   . refine (keys_putF f y fs).2 g (wi g fun z=>hg ?_)
     show (if g=f then some u else mA g)=none
     rw [if_neg q]; exact z
theorem Inv.made (I:Inv X pins σ H s):Inv X pins σ (upd (upd H s.heap.objs.size (.own (s.heap.objs.size + 1))) (s.heap.objs.size + 1) (.ins C s.heap.objs.size []))
   { s with heap:=(s.heap.push PySem.W.emptyDict).push (PySem.W.instObj C s.heap.objs.size) }:=by
 have e1:(s.heap.push PySem.W.emptyDict).get? s.heap.objs.size=some PySem.W.emptyDict:=Heap.get?_push_size s.heap rfl
 have e2:((s.heap.push PySem.W.emptyDict).push (PySem.W.instObj C s.heap.objs.size)).get? (s.heap.objs.size + 1)=some (PySem.W.instObj C s.heap.objs.size):=by
   have:=Heap.get?_push_size (s.heap.push PySem.W.emptyDict) (o:=PySem.W.instObj C s.heap.objs.size) rfl
   rwa [Heap.size_push] at this
 have e3:(s.heap.push PySem.W.emptyDict).Ns s.heap.objs.size (fun _=>none):=⟨PySem.W.emptyDict,#[],_,e1,rfl,(fun e he=>absurd he (by simp)),fun _=>rfl⟩
 have I1:=I.laid (a:=s.heap.objs.size) (o:=.own (s.heap.objs.size + 1)) (h':=s.heap.push PySem.W.emptyDict) (t':=s.toks) (fun b u q=>Heap.get?_push_of_some _ q) (Nat.le_refl _) ⟨_,e1⟩
 refine I1.laid (a:=s.heap.objs.size + 1) (o:=.ins C s.heap.objs.size []) (t':=s.toks) (fun b u q=>Heap.get?_push_of_some _ q) (Nat.le_of_eq (Heap.size_push _ _)) ?_
 have ne:s.heap.objs.size ≠ s.heap.objs.size + 1:=Nat.ne_of_lt (Nat.lt_succ_self _)
 refine ⟨by rw [upd_ne ne,upd_same],Nat.zero_le _,ne,e2,fun _=>none,(Heap.Ns1.of_empty e3).at fun o q=>Heap.get?_push_of_some _ q,fun _=>True.intro,fun y hy=>absurd rfl hy⟩
theorem attr_of {prog:Program} {w:World} {env:Env} {e:Expr} {f:Str} {pos:Pos} {s:Shared} {Q:Value->Shared->Prop} (hb:attributeBase e f env (eval e env)=eval e env)
   (h:wpAny (model prog w) A (eval e env) (fun o s₁=>wpAny (model prog w) A (getAttr o f true) Q E s₁) E s):wpAny (model prog w) A (eval (.Attribute e f pos) env) Q E s :=
 Attribute_any_ h (by rw [arm_eval_Attribute,hb])
end
noncomputable def tFld (K:PySem.W.Frag) (ta:TE) (f:Str):TE:=fun σ H Q=>ta σ H fun x H1=>∃ a C dx fs v,x=.ref a /\ H1 a=some (.ins C dx fs) /\ Cls K C /\ NoAttr K C f /\ fs.lookup f=some v /\ Q v H1
noncomputable def sFld (K:PySem.W.Frag) (ta tv:TE) (f:Str):TS:=fun D σ H=>tv σ H fun y H1=>ta σ H1 fun x H2=>∃ a C dx fs,x=.ref a /\ H2 a=some (.ins C dx fs) /\ Cls K C /\ NoAttr K C f /\ fs.length < 1000 /\
 D.nx σ (upd H2 a (.ins C dx (putF f y fs)))
section
variable {X:Cx} {o e value:Expr} {f:Str} {pos pos' tpos:Pos} {ta tv:TE}
theorem pe_fld (he:PE X e ta) (hb:attributeBase e f X.env (eval e X.env)=eval e X.env):PE X (.Attribute e f pos) (tFld X.K ta f):=by
 intro pins s σ H Q I h
 refine attr_of hb (thn (he pins s σ H _ I h) fun u s1 zz25=>?_)
 obtain ⟨x,H1,I1,rx,a,C,dx,fs,v,ex,ea,c,n,l,q⟩:=zz25
 subst ex
 obtain rfl:u=Value.ref a:=rx
 exact getattr_ok I1 ea c n l fun u' s2 I2 ru=>⟨v,H1,I2,ru,q⟩
theorem ps_fld (ha:PE X o ta) (hv:PE X value tv) (hs:swapsWith value (some (.Attribute o f pos')) pos.line X.env=pure false):PS X (.Assign [.Attribute o f pos'] value pos) (sFld X.K ta tv f):=by
 intro pins s σ H D I h
 refine plainObj_wpAny_Assign_Attribute (thn (hv pins s σ H _ I h) fun u s1 ⟨y,H1,I1,ry,q⟩=>thn (ha pins s1 σ H1 _ I1 q) fun ov s2 ⟨x,H2,I2,rx,a,C,dx,fs,ex,ea,c,n,l,q2⟩=>?_) hs
 subst ex
 obtain rfl:ov=Value.ref a:=rx
 exact setattr_ok I2 ea c n l ry fun s3 I3=>⟨σ,_,I3,q2⟩
end
section
variable {X:Cx} {pins:List (Addr × Obj)} {σ:St} {H:Hp} {s:Shared} {A:Around} {E:Value->Shared->Prop} {Q:Value->Shared->Prop} {c:Value} {b:Bool}
inductive TyOf (K:PySem.W.Frag) (H:Hp):V->Value->Prop where
 | non:TyOf K H .non (.type "NoneType")
 | bl (x:Bool):TyOf K H (.bl x) (.type "bool")
 | int (i:Int):TyOf K H (.int i) (.type "int")
 | str (x:Str):TyOf K H (.str x) (.type "str")
 | flt (x:UInt64):TyOf K H (.flt x) (.type "float")
 | lst {a:Addr} {xs:List V} (e:H a=some (.lst xs)):TyOf K H (.ref a) (.type "list")
 | frz {a:Addr} {o:Obj} {xs:List V} (e:H a=some (.frz o (.lst xs))):TyOf K H (.ref a) (.type "list")
 | tup {a:Addr} {xs:List V} (e:H a=some (.tup xs)):TyOf K H (.ref a) (.type "tuple")
 | dK {a:Addr} {kvs:List (Key × V)} (e:H a=some (.dK kvs)):TyOf K H (.ref a) (.type "dict")
 | dT {a:Addr} {kvs:List (List Key × V)} (e:H a=some (.dT kvs)):TyOf K H (.ref a) (.type "dict")
 | ins {a C dx:Addr} {fs:List (Str × V)} (e:H a=some (.ins C dx fs)) (cl:Cls K C) (ha:PySem.W.findIn K (.ref C) "__class__"=some (some (.builtin "object.__class__")))
     (hn:PySem.W.specialIn K (.builtin "object.__class__") "__get__"=some (some (.builtin "getset_descriptor.__get__"))) (htk:PySem.W.takesIn K (.builtin "object.__class__")=some true)
     (hm:PySem.W.mroIn K C (.type "object")=some true):TyOf K H (.ref a) (.ref C)
theorem isinst_ok {x:V} {u t:Value} (I:Inv X pins σ H s) (rx:RelV x u) (ty:TyOf X.K H x t) (e:PySem.W.kitOne X.K t c=some b) (h:∀ tk,Q (.bool b) { s with toks:=tk }) :
   wpAny (model X.prog X.w) A (call (.builtin "isinstance") [u,c]) Q E s:=by
 cases ty with
 | non=>cases (show u=Value.none from rx); exact PySem.W.kia_one PySem.W.kitx_none I.kIn True.intro e (fun z=>nomatch z) h
 | bl y=>cases (show u=Value.bool y from rx); exact PySem.W.kia_one PySem.W.kitx_bool I.kIn True.intro e (fun z=>nomatch z) h
 | int i=>obtain ⟨t,q⟩:=(show ∃ t,u=Value.int i t from rx); cases q; exact PySem.W.kia_one PySem.W.kitx_int I.kIn True.intro e (fun z=>nomatch z) h
 | str y=>obtain ⟨t,q⟩:=(show ∃ t,u=Value.str y t from rx); cases q; exact PySem.W.kia_one PySem.W.kitx_str I.kIn True.intro e (fun z=>nomatch z) h
 | flt y=>obtain ⟨t,q⟩:=(show ∃ t,u=Value.float y t from rx); cases q; exact PySem.W.kia_one PySem.W.kitx_float I.kIn True.intro e (fun z=>nomatch z) h
 | @lst a xs ea =>
   cases (show u=Value.ref a from rx)
   obtain ⟨_,_,n,_,h1⟩:=(show ObjOk X.prog X.w H s.heap a (.lst xs) from I.hok a _ ea)
   exact PySem.W.kia_one PySem.W.kitx_list I.kIn ⟨_,h1,rfl⟩ e (fun z=>nomatch z) h
 | @frz a ob xs ea =>
   cases (show u=Value.ref a from rx)
   obtain ⟨_,_,_,n,_,h1⟩:=(show ObjOk X.prog X.w H s.heap a (.frz ob (.lst xs)) from I.hok a _ ea)
   exact PySem.W.kia_one PySem.W.kitx_list I.kIn ⟨_,h1,rfl⟩ e (fun z=>nomatch z) h
 | @tup a xs ea =>
   cases (show u=Value.ref a from rx)
   obtain ⟨_,_,_,p⟩:=(show ObjOk X.prog X.w H s.heap a (.tup xs) from I.hok a _ ea)
   obtain ⟨o,h1,h2,_⟩:=p
   exact PySem.W.kia_one PySem.W.kitx_tuple I.kIn ⟨o,h1,h2⟩ e (fun z=>nomatch z) h
 | @dK a kvs ea =>
   cases (show u=Value.ref a from rx)
   obtain ⟨_,_,vs,_,p⟩:=(show ObjOk X.prog X.w H s.heap a (.dK kvs) from I.hok a _ ea)
   obtain ⟨o,es,ep,h1,h2,_⟩:=p
   exact PySem.W.kia_one PySem.W.kitx_dict I.kIn ⟨o,h1,h2.1⟩ e (fun z=>nomatch z) h
 | @dT a kvs ea =>
   cases (show u=Value.ref a from rx)
   obtain ⟨_,_,xs,_,o,es,ep,h1,h2,_⟩:=(show ObjOk X.prog X.w H s.heap a (.dT kvs) from I.hok a _ ea)
   exact PySem.W.kia_one PySem.W.kitx_dict I.kIn ⟨o,h1,h2.1⟩ e (fun z=>nomatch z) h
 | @ins a C dx fs ea cl ha hn htk hm =>
   cases (show u=Value.ref a from rx)
   obtain ⟨mA,O,_⟩:=ins_get I.hok ea
   obtain ⟨od,J,_⟩:=O.look
   exact PySem.W.kia_one (PySem.W.kitx_own (cl.get _) cl.hd ha hn htk hm) I.kIn J e (fun z=>nomatch z) h
end
end L2
namespace L2
open PySem PySem.Spec PyProof.Rows
structure Room (k:Nat) (A:Around):Prop where
 hd:A.handled=none
 dp:A.depth + 3 * k + 5 < recursionLimit
 un:A.units + 16 * k + 200 < cLine
 gd:A.guards=some []
theorem Room.mono {j k:Nat} {A:Around} (r:Room k A) (h:j <= k):Room j A:=⟨r.hd,by have:=r.dp; omega,by have:=r.un; omega,r.gd⟩
theorem Room.deeper {k:Nat} {A:Around} (r:Room (k + 1) A) (env:Env):Room k (A.deeper env) :=
 ⟨r.hd,by have:=r.dp; show A.depth + 1 + 3 * k + 5 < _; omega,by have:=r.un; show A.units + 3 + 16 * k + 200 < _; omega,r.gd⟩
theorem Room.in1 {k:Nat} {A:Around} (r:Room (k + 1) A):Room k A.in1 :=
 ⟨r.hd,by have:=r.dp; show A.depth + 3 * k + 5 < _; omega,by have:=r.un; show A.units + 1 + 16 * k + 200 < _; omega,r.gd⟩
theorem make_depth {A:Around} {C:Addr} {us:List Value} {kw:List (Str × Value)}:(A.under (.builtin "type.__call__" ⟨.ref C :: us,kw⟩)).depth=A.depth + 1:=by
 first | rfl | simp [Around.under,Code.weight,Code.isCreation,Code.isGuard,Code.isCaller,Code.frames,Code.isFrame,guardIds]
theorem make_units {A:Around} {C:Addr} {us:List Value} {kw:List (Str × Value)}:(A.under (.builtin "type.__call__" ⟨.ref C :: us,kw⟩)).units=A.units + 1:=by
 first | rfl | simp [Around.under,Code.cUnits,Code.frames,Code.isFrame]
theorem make_guards {A:Around} {C:Addr} {us:List Value} {kw:List (Str × Value)}:(A.under (.builtin "type.__call__" ⟨.ref C :: us,kw⟩)).guards=A.guards:=by
 first | rfl | simp [Around.under,Code.isGuard,guardIds]
theorem Room.make {k:Nat} {A:Around} (r:Room (k + 1) A) (C:Addr) (us:List Value) (kw:List (Str × Value)):Room k (A.under (.builtin "type.__call__" ⟨.ref C :: us,kw⟩)) :=
 ⟨r.hd,by have:=r.dp; rw [make_depth]; omega,by have:=r.un; rw [make_units]; omega,by rw [make_guards]; exact r.gd⟩
theorem Room.depth {k:Nat} {A:Around} (r:Room k A):A.depth < recursionLimit:=by have:=r.dp; omega
theorem Room.units {k:Nat} {A:Around} (r:Room k A):A.units + 64 < cLine:=by have:=r.un; omega
noncomputable def tNil:TA:=fun _ H Q=>Q [] H
noncomputable def tCons (ta:TE) (tr:TA):TA:=fun σ H Q=>ta σ H fun x H1=>tr σ H1 fun xs H2=>Q (x :: xs) H2
section
variable {X:Cx} {e:Expr} {es:List Expr} {te:TE} {t:TA} {pos:Pos}
theorem pa_nil:PA X [] tNil:=fun _ _ _ _ H Q I h=>Calls.spliced_nil ⟨[],H,I,.nil,h⟩
theorem pa_cons (ha:PE X e te) (hr:PA X es t) (hs:starEach (e :: es) X.env=(false,eval e X.env) :: starEach es X.env:=by rfl):PA X (e :: es) (tCons te t):=by
 intro pos pins s σ H Q I h
 rw [hs]
 show wpAny _ _ (spliced ((false,eval e X.env) :: backTo pos (starEach es X.env))) _ _ s
 refine Calls.spliced_cons (thn (ha pins s σ H _ I h) fun u s1 zz26=>?_)
 obtain ⟨x,H1,I1,r1,q1⟩:=zz26
 exact thn (hr pos pins s1 σ H1 _ I1 q1) fun us s2 zz27=>by obtain ⟨xs,H2,I2,r2,q2⟩:=zz27; exact ⟨x :: xs,H2,I2,.cons r1 r2,q2⟩
noncomputable def tTup (t:TA):TE:=fun σ H Q=>t σ H fun xs H1=>xs.length <= sizeLine /\ ∀ p,H1 p=none->Q (.ref p) (upd H1 p (.tup xs))
noncomputable def tLst (t:TA):TE:=fun σ H Q=>t σ H fun xs H1=>xs.length <= sizeLine /\ ∀ p,H1 p=none->Q (.ref p) (upd H1 p (.lst xs))
theorem pe_tup {x1} (h:PA X es t):PE X (.Tuple es x1 pos) (tTup t):=by
 intro pins s σ H Q I hq
 refine wpAny_Tuple_spliced (thn (h pos pins s σ H _ I hq) fun us s1 ⟨xs,H1,I1,r,z,q⟩=>⟨by rw [<- r.length]; exact z,?_⟩)
 have hf:H1 s1.heap.objs.size=none:=I1.hok.fresh (Nat.le_refl _)
 refine ⟨.ref s1.heap.objs.size,upd H1 s1.heap.objs.size (.tup xs),I1.laid (t':=s1.toks) (fun b u e=>Heap.get?_push_of_some _ e) (Nat.le_refl _) ?_,rfl,q _ hf⟩
 exact ⟨z,us,r,⟨_,Heap.get?_push_size _ rfl,rfl,_,rfl⟩⟩
theorem pe_lst (h:PA X es t):PE X (.List es pos) (tLst t):=by
 intro pins s σ H Q I hq
 refine wpAny_List_spliced (thn (h pos pins s σ H _ I hq) fun us s1 ⟨xs,H1,I1,r,z,q⟩=>⟨by rw [<- r.length]; exact z,?_⟩)
 have hf:H1 s1.heap.objs.size=none:=I1.hok.fresh (Nat.le_refl _)
 refine ⟨.ref s1.heap.objs.size,upd H1 s1.heap.objs.size (.lst xs),I1.laid (t':=s1.toks) (fun b u e=>Heap.get?_push_of_some _ e) (Nat.le_refl _) ?_,rfl,q _ hf⟩
 exact ⟨z,us,0,r,Heap.get?_push_size _ rfl⟩
end
noncomputable abbrev Sp:=List V->Hp->VK->XK->Prop
noncomputable abbrev CXT:=List Env->Hp->Shared->XK->Value->Shared->Prop
structure Env0 (P:Program) (w:World) (K:PySem.W.Frag) (mg:Str->Option Value) (base:Heap) (A:Around) (outer:List Env) (s:Shared) (H:Hp):Prop where
 frames:A.frames=some outer
 mod:Mod K mg base
 bs:∀ b o,base.get? b=some o->s.heap.get? b=some o /\ H b=none
 bsz:base.objs.size <= s.heap.objs.size
 funs:s.heap.FunFrames base outer
 frf:∀ b ∈ frs outer,H b=none
 hok:HOk P w H s.heap
 bare:AllBare s.gens
noncomputable def CE (outer:List Env) (P:Program) (w:World) (H:Hp) (s:Shared) (Q:VK) (u:Value) (s':Shared):Prop :=
 ∃ v H',s'.os=s.os /\ AllBare s'.gens /\ Un (frs outer) [] H H' s.heap s'.heap /\ HOk P w H' s'.heap /\ RelV v u /\ Q v H'
noncomputable def CR (CX:CXT) (outer:List Env) (P:Program) (w:World) (H:Hp) (s:Shared) (Q:VK) (E:XK) (r:Result) (s':Shared):Prop :=
 match r with
 | .ok (.ret u)=>CE outer P w H s Q u s'
 | .ok _=>False
 | .error e=>CX outer H s E e s'
structure FnOk (P:Program) (w:World) (K:PySem.W.Frag) (mg:Str->Option Value) (base:Heap) (CX:CXT) (k:Nat) (f:Addr) (fd:FuncData) (ps:List Str) (sp:Sp):Prop where
 len:∀ vs H Q E,sp vs H Q E->vs.length=ps.length
 run:∀ (A:Around) (outer:List Env) (s:Shared) (H:Hp) (args:Args) (us:List Value) (vs:List V) (Q:VK) (E:XK),Room k A->Env0 P w K mg base A outer s H->BindsTo s fd args (ps.zip us)->Vals vs us->sp vs H Q E ->
   codeAny (model P w) A (.call (.ref f) args) (CR CX outer P w H s Q E) s
theorem FnOk.mono {P:Program} {w:World} {K:PySem.W.Frag} {mg:Str->Option Value} {base:Heap} {CX:CXT} {j k:Nat} {f:Addr} {fd:FuncData} {ps:List Str} {sp:Sp} (F:FnOk P w K mg base CX j f fd ps sp) (h:j <= k) :
   FnOk P w K mg base CX k f fd ps sp:=⟨F.len,fun A outer s H args us vs Q E hr=>F.run A outer s H args us vs Q E (hr.mono h)⟩
theorem FnOk.imp {P:Program} {w:World} {K:PySem.W.Frag} {mg:Str->Option Value} {base:Heap} {CX:CXT} {k:Nat} {f:Addr} {fd:FuncData} {ps:List Str} {sp sp':Sp} (F:FnOk P w K mg base CX k f fd ps sp)
   (h:∀ vs H Q E,sp' vs H Q E->sp vs H Q E):FnOk P w K mg base CX k f fd ps sp' :=
 ⟨fun vs H Q E q=>F.len vs H Q E (h _ _ _ _ q),fun A outer s H args us vs Q E hr he hb hv hs=>F.run A outer s H args us vs Q E hr he hb hv (h _ _ _ _ hs)⟩
theorem Env0.make {P:Program} {w:World} {K:PySem.W.Frag} {mg:Str->Option Value} {base:Heap} {A:Around} {outer:List Env} {s:Shared} {H:Hp} (e:Env0 P w K mg base A outer s H) (C:Addr) (us:List Value) (kw:List (Str × Value)) :
   Env0 P w K mg base (A.under (.builtin "type.__call__" ⟨.ref C :: us,kw⟩)) outer s H:=⟨by first | exact e.frames | (simpa [Around.under,Code.envs,Code.isFrame,pushEnvs] using e.frames),e.mod,e.bs,e.bsz,e.funs,e.frf,e.hok,e.bare⟩
theorem Env0.in1 {P:Program} {w:World} {K:PySem.W.Frag} {mg:Str->Option Value} {base:Heap} {A:Around} {outer:List Env} {s:Shared} {H:Hp} (e:Env0 P w K mg base A outer s H) :
   Env0 P w K mg base A.in1 outer s H:=⟨e.frames,e.mod,e.bs,e.bsz,e.funs,e.frf,e.hok,e.bare⟩
section
variable {X:Cx} {pins:List (Addr × Obj)} {σ:St} {H:Hp} {s s':Shared}
theorem Inv.env0 (I:Inv X pins σ H s):Env0 X.prog X.w X.K X.mg X.base X.A X.stack s H :=
 ⟨I.ok.frames,I.ok.mod,I.bs,Nat.le_trans I.ok.bsz I.sz,I.stack,I.stkFree,I.hok,I.bare⟩
theorem Inv.after {Q:VK} {u:Value} (I:Inv X pins σ H s) (h:CE X.stack X.prog X.w H s Q u s'):EP X pins σ Q u s':=by
 obtain ⟨v,H',os,bare,un,hok,r,q⟩:=h
 obtain ⟨hh,g,d,t,os'⟩:=s'
 obtain rfl:os'=s.os:=os
 exact ⟨v,H',I.call (h':=hh) (g':=g) (d':=d) (t':=t) (ch:=[]) un hok bare (fun b z=>absurd z (by simp)),r,q⟩
end
noncomputable def tCall (sp:Sp) (dvs:List V) (E:XK) (t:TA):TE:=fun σ H Q=>t σ H fun vs H1=>sp (vs ++ dvs) H1 Q E
noncomputable def tMake (C:Addr) (sp:Sp) (dvs:List V) (E:XK) (t:TA):TE:=fun σ H Q=>t σ H fun vs H1=>∀ x dx,H1 x=none->H1 dx=none->dx ≠ x ->
 sp (.ref x :: (vs ++ dvs)) (upd (upd H1 dx (.own x)) x (.ins C dx [])) (fun v H2=>v=.non /\ Q (.ref x) H2) E
noncomputable def Binds (K:PySem.W.Frag) (fd:FuncData) (ps:List Str) (ds:List Value):Prop :=
 ∀ (s:Shared) (us:List Value),K.In s.heap->(us ++ ds).length=ps.length->BindsTo s fd ⟨us,[]⟩ (ps.zip (us ++ ds))
theorem Binds.all {K:PySem.W.Frag} {fd:FuncData} {ps:List Str} (h:∀ us:List Value,us.length=ps.length->bindArgs fd ⟨us,[]⟩=pure (ps.zip us)):Binds K fd ps []:=fun s us _ hl=>by
 rw [List.append_nil] at hl ⊢
 exact .of_eq (h us hl)
noncomputable def Passes (CX:CXT) (X:Cx) (E:XK):Prop:=∀ (pins:List (Addr × Obj)) (σ:St) (H:Hp) (s:Shared) (e:Value) (s':Shared),Inv X pins σ H s->CX X.stack H s E e s'->X.xe e s'
section
variable {X:Cx} {CX:CXT} {k:Nat} {f C:Addr} {fd:FuncData} {ps:List Str} {sp:Sp} {dvs:List V} {ds:List Value} {E:XK} {x m:Str} {p pos apos:Pos} {e o:Expr} {es:List Expr} {ta:TE} {t:TA}
theorem run_fn {pins:List (Addr × Obj)} {σ:St} {H:Hp} {s:Shared} {Q:VK} {us:List Value} {vs:List V} (F:FnOk X.prog X.w X.K X.mg X.base CX k f fd ps sp) (hr:Room k X.A) (hb:Binds X.K fd ps ds) (hd:Vals dvs ds) (hx:Passes CX X E)
   (I:Inv X pins σ H s) (r:Vals vs us) (h:sp (vs ++ dvs) H Q E):wpAny (model X.prog X.w) X.A (call (.ref f) us) (EP X pins σ Q) X.xe s:=by
 have r2:Vals (vs ++ dvs) (us ++ ds):=r.append hd
 have hl:(us ++ ds).length=ps.length:=by rw [<- r2.length]; exact F.len _ _ _ _ h
 refine wpAny_call (codeAny_mono (F.run X.A X.stack s H ⟨us,[]⟩ (us ++ ds) (vs ++ dvs) Q E hr I.env0 (hb s us I.kIn hl) r2 h) fun r s' hq=>?_)
 cases r with
 | error e=>exact hx pins σ H s e s' I hq
 | ok fl =>
   cases fl with
   | ret u=>exact I.after hq
   | next=>exact False.elim hq
   | brk=>exact False.elim hq
   | cont=>exact False.elim hq
theorem pe_call (F:FnOk X.prog X.w X.K X.mg X.base CX k f fd ps sp) (hr:Room k X.A) (hg:Gl X x) (hm:X.mg x=some (.ref f)) (hk:PySem.W.keepIn X.K (.ref f)=true) (hb:Binds X.K fd ps ds) (hd:Vals dvs ds) (hx:Passes CX X E)
   (ha:PA X (e :: es) t) (hdb:(x == ("__debug__":Str))=false:=by decide) (he:starEach (e :: es) X.env=(false,eval e X.env) :: starEach es X.env:=by rfl) (hpl:(backTo pos (starEach es X.env)).any (·.1)=false:=by rfl) :
   PE X (.Call (.Name x p) (e :: es) [] pos) (tCall sp dvs E t):=by
 intro pins s σ H Q I h
 refine wpAny_Call_Name_kw (ld_glob I hg hm ?_ hdb)
 refine PySem.W.callWith_K (h₀:=X.base) I.ok.mod.kin hk (thn (ha pos pins s σ H _ I h) fun us s1 ⟨vs,H1,I1,r,q⟩=>⟨I1.kIn,?_⟩) he hpl
 exact run_fn F hr hb hd hx I1 r q
structure Mk (K:PySem.W.Frag) (C f:Addr):Prop where
 makes:PySem.W.makesIn K C=true
 init:PySem.W.findIn K (.ref C) "__init__"=some (some (.ref f))
 fn:PySem.W.isFn K (.ref f)=true
 kp:PySem.W.keepIn K (.ref C)=true
theorem run_make {pins:List (Addr × Obj)} {σ:St} {H:Hp} {s:Shared} {Q:VK} {us:List Value} {vs:List V} (M:Mk X.K C f) (F:FnOk X.prog X.w X.K X.mg X.base CX k f fd ps sp) (hr:Room (k + 1) X.A) (hb:Binds X.K fd ps ds) (hd:Vals dvs ds)
   (hx:Passes CX X E) (I:Inv X pins σ H s) (r:Vals vs us)
   (h:∀ x dx,H x=none->H dx=none->dx ≠ x->sp (.ref x :: (vs ++ dvs)) (upd (upd H dx (.own x)) x (.ins C dx [])) (fun v H2=>v=.non /\ Q (.ref x) H2) E) :
   wpAny (model X.prog X.w) X.A (call (.ref C) us) (EP X pins σ Q) X.xe s:=by
 have hq:=h (s.heap.objs.size + 1) s.heap.objs.size (I.hok.fresh (Nat.le_succ _)) (I.hok.fresh (Nat.le_refl _)) (Nat.ne_of_lt (Nat.lt_succ_self _))
 have I2:=Inv.made (C:=C) I
 have r2:Vals (V.ref (s.heap.objs.size + 1) :: (vs ++ dvs)) (Value.ref (s.heap.objs.size + 1) :: (us ++ ds)):=.cons rfl (r.append hd)
 have hl:(Value.ref (s.heap.objs.size + 1) :: us ++ ds).length=ps.length:=by
   have e:=r2.length
   rw [F.len _ _ _ _ hq] at e
   exact e.symm
 refine wpAny_call (make_map (f:=f) I.kIn M.makes M.init (beq_iff_eq.mp M.fn) (codeAny_mono (F.run _ X.stack _ _ ⟨Value.ref (s.heap.objs.size + 1) :: us,[]⟩ (Value.ref (s.heap.objs.size + 1) :: (us ++ ds)) _ _ E (hr.make C us [])
   (I2.env0.make C us []) (hb _ (Value.ref (s.heap.objs.size + 1) :: us) I2.kIn hl) r2 hq) fun r s' hq'=>?_))
 cases r with
 | error e=>exact hx pins σ _ _ e s' I2 hq'
 | ok fl =>
   cases fl with
   | ret u =>
     obtain ⟨v,H',I3,rv,ev,q3⟩:=I2.after hq'
     subst ev
     exact ⟨rv,⟨V.ref (s.heap.objs.size + 1),H',I3,rfl,q3⟩⟩
   | next=>exact False.elim hq'
   | brk=>exact False.elim hq'
   | cont=>exact False.elim hq'
theorem pe_make0 (M:Mk X.K C f) (F:FnOk X.prog X.w X.K X.mg X.base CX k f fd ps sp) (hr:Room (k + 1) X.A) (hg:Gl X x) (hm:X.mg x=some (.ref C)) (hb:Binds X.K fd ps ds) (hd:Vals dvs ds) (hx:Passes CX X E)
   (hdb:(x == ("__debug__":Str))=false:=by decide):PE X (.Call (.Name x p) [] [] pos) (tMake C sp dvs E tNil):=by
 intro pins s σ H Q I h
 refine wpAny_Call_Name_kw (ld_glob I hg hm ?_ hdb)
 exact PySem.W.callWith_K0 I.kIn M.kp (run_make (us:=[]) M F hr hb hd hx I .nil h)
end
section
variable {X:Cx} {CX:CXT} {k:Nat} {f C:Addr} {fd:FuncData} {ps ks:List Str} {sp:Sp} {E:XK} {x m:Str} {p pos apos kpos:Pos} {e o:Expr} {es:List Expr} {kws:List Keyword} {te ta:TE} {t tk:TA} {nm:Option Str}
structure KBinds (K:PySem.W.Frag) (fd:FuncData) (ps ks:List Str) (g:List Value->List Value->List Value) (gV:List V->List V->List V):Prop where
 to:∀ (s:Shared) (us ws:List Value),K.In s.heap->(g us ws).length=ps.length->BindsTo s fd ⟨us,ks.zip ws⟩ (ps.zip (g us ws))
 rel:∀ {vs:List V} {us:List Value} {zs:List V} {ws:List Value},Vals vs us->Vals zs ws->Vals (gV vs zs) (g us ws)
variable {g:List Value->List Value->List Value} {gV:List V->List V->List V}
end
structure FnScope (N P:List Str) (sc:Scope):Prop where
 kind:sc.kind=.function
 co:sc.isCoroutine=false
 gen:sc.isGenerator=false
 nd:N.Nodup
 pre:N.take P.length=P
 par:∀ x ∈ P,sc.names.lookup x=some .local \/ sc.names.lookup x=some .cell
 nofree:∀ y ∈ sc.names,y.2 ≠ .free
theorem bindL_out {kindOf:Str->Option NameKind} {x:Str}:∀ {binds:List (Str × Value)} {m:Str->Option Value},(∀ v,(x,v) ∉ binds)->bindL kindOf binds m x=m x
 | [],_,_=>rfl
 | (n,v) :: r,m,h=>by
   unfold bindL
   rw [bindL_out fun w hw=>h w (List.mem_cons_of_mem _ hw)]
   split
   . have:x ≠ n:=by rintro rfl; exact h v List.mem_cons_self
     simp [this]
   . rfl
theorem bindC_out {kindOf:Str->Option NameKind} {x:Str}:∀ {binds:List (Str × Value)} {m:Str->Option Value},(∀ v,(x,v) ∉ binds)->bindC kindOf binds m x=m x
 | [],_,_=>rfl
 | (n,v) :: r,m,h=>by
   unfold bindC
   rw [bindC_out fun w hw=>h w (List.mem_cons_of_mem _ hw)]
   split
   . rfl
   . have:x ≠ n:=by rintro rfl; exact h v List.mem_cons_self
     simp [this]
theorem bindL_get {kindOf:Str->Option NameKind} {x:Str} {v:Value}:∀ {P:List Str} {vs:List Value} {i:Nat} {m:Str->Option Value},P.Nodup->P[i]?=some x->vs[i]?=some v->kindOf x=some .local ->
   bindL kindOf (P.zip vs) m x=some v
 | [],_,_,_,_,h,_,_=>by simp at h
 | _ :: _,[],_,_,_,_,h,_=>by simp at h
 | p :: P,w :: vs,0,m,nd,h1,h2,hk=>by
   simp at h1 h2; subst h1; subst h2
   show bindL kindOf ((p,w) :: P.zip vs) m p=_
   unfold bindL
   rw [bindL_out fun v hv=>(List.nodup_cons.mp nd).1 (List.of_mem_zip hv).1,if_pos hk]
   simp
 | p :: P,w :: vs,i + 1,m,nd,h1,h2,hk=>by
   show bindL kindOf ((p,w) :: P.zip vs) m x=_
   unfold bindL
   exact bindL_get (i:=i) (List.nodup_cons.mp nd).2 (by simpa using h1) (by simpa using h2) hk
theorem bindC_get {kindOf:Str->Option NameKind} {x:Str} {v:Value}:∀ {P:List Str} {vs:List Value} {i:Nat} {m:Str->Option Value},P.Nodup->P[i]?=some x->vs[i]?=some v->kindOf x ≠ some .local ->
   bindC kindOf (P.zip vs) m x=some v
 | [],_,_,_,_,h,_,_=>by simp at h
 | _ :: _,[],_,_,_,_,h,_=>by simp at h
 | p :: P,w :: vs,0,m,nd,h1,h2,hk=>by
   simp at h1 h2; subst h1; subst h2
   show bindC kindOf ((p,w) :: P.zip vs) m p=_
   unfold bindC
   rw [bindC_out fun v hv=>(List.nodup_cons.mp nd).1 (List.of_mem_zip hv).1,if_neg hk]
   simp
 | p :: P,w :: vs,i + 1,m,nd,h1,h2,hk=>by
   show bindC kindOf ((p,w) :: P.zip vs) m x=_
   unfold bindC
   exact bindC_get (i:=i) (List.nodup_cons.mp nd).2 (by simpa using h1) (by simpa using h2) hk
noncomputable def start (N:List Str) (vs:List V):St:=vs.map some ++ List.replicate (N.length - vs.length) none
noncomputable def cxOf (CX:CXT) (P:Program) (w:World) (K:PySem.W.Frag) (mg:Str->Option Value) (base:Heap) (N:List Str) (qual:Str) (scope:Scope) (f:Addr) (cd:Value) (A:Around) (outer:List Env) (s:Shared) (H:Hp) (E:XK):Cx where
 prog:=P
 w:=w
 K:=K
 mg:=mg
 base:=base
 A:=A.deeper (envOfC qual scope s.heap.objs.size f cd)
 N:=N
 s₀:=s
 H₀:=H
 env:=envOfC qual scope s.heap.objs.size f cd
 outer:=outer
 stack:=envOfC qual scope s.heap.objs.size f cd :: outer
 ex:=[]
 calm:=true
 fn:=fun _=>true
 pn:=[]
 xe:=fun e s'=>wpAny (model P w) (A.deeper (envOfC qual scope s.heap.objs.size f cd)) (leaving (envOfC qual scope s.heap.objs.size f cd) e) (fun _ s''=>CX outer H s E e s'') (fun e' s''=>CX outer H s E e' s'') s'
theorem cell_has {sc:Scope} {n:Nat} {x:Str} (h:sc.names.lookup x=some .cell):∃ c,(cellsFrom n sc.names []).lookup x=some c:=by
 have q:=PySem.W.cellsFrom_some sc.names n [] (.inl h)
 exact Option.isSome_iff_exists.mp q
theorem inv_start {CX:CXT} {P:Program} {w:World} {K:PySem.W.Frag} {mg:Str->Option Value} {base:Heap} {N ps:List Str} {qual:Str} {scope:Scope} {f:Addr} {cd:Value} {A:Around} {outer:List Env} {s s1:Shared} {H:Hp} {E:XK} {us:List Value} {vs:List V}
   (S:FnScope N ps scope) (hd:A.handled=none) (e0:Env0 P w K mg base A outer s H) (hl:vs.length=ps.length) (r:Vals vs us)
   (x:InCallC s s.heap.objs.size (bindL (envOfC qual scope s.heap.objs.size f cd).kindOf (ps.zip us) fun _=>none) (cellsFrom (s.heap.objs.size + 1) scope.names []) (bindC (envOfC qual scope s.heap.objs.size f cd).kindOf (ps.zip us) fun _=>none) s1) :
   Inv (cxOf CX P w K mg base N qual scope f cd A outer s H E) [] (start N vs) H s1:=by
 have hpl:ps.length <= N.length:=by have:=congrArg List.length S.pre; rw [List.length_take] at this; omega
 obtain ⟨h1,tk,rfl,hk⟩:=x.done
 have noA:∀ b:Addr,b ∉ (cxOf CX P w K mg base N qual scope f cd A outer s H E).ex:=fun b z=>absurd (show b ∈ ([]:List Addr) from z) (by simp)
 refine ⟨⟨e0.mod,S.kind,rfl,rfl,Nat.le_refl _,fun y z c h1 h2=>?_,fun y hy=>?_,fun y c _ h=>?_,fun _=>hd,Around.frames_deeper e0.frames,.inr ⟨rfl,rfl⟩,fun b z=>absurd z (noA b),e0.bs,e0.bsz,fun b _ _=>noA b,fun b z=>absurd z (noA b),e0.funs,e0.frf⟩,
   rfl,e0.bare,Un.kept hk,⟨_,x.toInCall.ns,fun i y v h1 h2 h3=>?_⟩,fun y c h=>⟨_,x.cell y c h⟩,e0.hok.fresh (Nat.le_refl _),fun y c h=>?_,fun p hp=>absurd (show p ∈ ([]:List (Addr × Obj)) from hp) (by simp),e0.hok.kept hk,?_⟩
 . exact name_of_addr x.apart (PySem.mem_of_lookup h1) (PySem.mem_of_lookup h2)
 . have hy:scope.names.lookup y=some .cell \/ scope.names.lookup y=some .free:=hy
   rcases hy with hy | hy
   . exact cell_has hy
   . exact absurd rfl (S.nofree _ (PySem.mem_of_lookup hy))
 . exact Nat.le_of_lt (x.above y c (PySem.mem_of_lookup h))
 . have hi:i < vs.length:=by
     unfold start at h2
     by_cases hi:i < vs.length
     . exact hi
     . rw [List.getElem?_append_right (by simpa using hi)] at h2
       rw [List.getElem?_replicate] at h2
       split at h2 <;> cases h2
   have ha:vs[i]?=some v:=by
     unfold start at h2
     rw [List.getElem?_append_left (by simpa using hi),List.getElem?_map] at h2
     cases e:vs[i]? with
     | none=>rw [e] at h2; cases h2
     | some a=>rw [e] at h2; cases h2; rfl
   obtain ⟨u,hu,rv⟩:=r.get ha
   have hp:ps[i]?=some y:=by
     rw [<- S.pre,List.getElem?_take_of_lt (by omega)]; exact h1
   have ndP:ps.Nodup:=by rw [<- S.pre]; exact S.nd.sublist (List.take_sublist _ _)
   refine ⟨u,rv,?_⟩
   rcases S.par y (List.mem_of_getElem? hp) with k | k
   . exact .inl ⟨k,bindL_get ndP hp hu k⟩
   . obtain ⟨c,e⟩:=cell_has (n:=s.heap.objs.size + 1) k
     refine .inr ⟨.inl k,c,e,?_⟩
     have q:=x.cell y c e
     rw [bindC_get ndP hp hu (by show scope.names.lookup y ≠ _; rw [k]; decide)] at q
     exact q
 . exact e0.hok.fresh (Nat.le_of_lt (x.above y c (PySem.mem_of_lookup h)))
 . unfold start
   show _=N.length
   rw [List.length_append,List.length_map,List.length_replicate]
   omega
theorem fn_of {CX:CXT} {P:Program} {w:World} {K:PySem.W.Frag} {mg:Str->Option Value} {base:Heap} {k:Nat} {f:Addr} {name qual:Str} {params:Arguments} {body:List Stmt} {scope:Scope} {dV kV doc pm cdv ct oc:Value} {an od:Option Addr}
   {osl:Array (Option Value)} {N ps:List Str} {sp:Sp} (lk:K.lookup f=some ⟨oc,od,.func (PySem.W.fnOf name qual params body scope dV kV doc pm an cdv ct),osl⟩) (hcd:PySem.W.codeIn K cdv qual=true) (S:FnScope N ps scope)
   (len:∀ vs H Q E,sp vs H Q E->vs.length=ps.length)
   (hbody:∀ (A:Around) (outer:List Env) (s:Shared) (H:Hp) (vs:List V) (Q:VK) (E:XK),Room k (A.deeper (envOfC qual scope s.heap.objs.size f cdv))->sp vs H Q E ->
     ∃ t,PSs (cxOf CX P w K mg base N qual scope f cdv A outer s H E) body t /\ t { nx:=fun _ H'=>Q .non H',rt:=Q } (start N vs) H) :
   FnOk P w K mg base CX (k + 1) f (PySem.W.fnOf name qual params body scope dV kV doc pm an cdv ct) ps sp:=by
 refine ⟨len,fun A outer s H args us vs Q E hr e0 hb r hsp=>?_⟩
 have hl:=len _ _ _ _ hsp
 have KX:K.In s.heap:=e0.mod.kin.keeps fun b o e=>(e0.bs b o e).1
 have lim:s.heap.NoLimit:=e0.mod.nolimit.keeps fun b o e=>(e0.bs b o e).1
 have hkind:∀ y ∈ ps.zip us,scope.names.lookup y.1=some .local \/ (scope.names.lookup y.1=some .cell /\ ((cellsFrom (s.heap.objs.size + 1) scope.names []).lookup y.1).isSome=true):=fun zz28 hy=>by
   obtain ⟨n,v⟩:=zz28
   rcases S.par n (List.of_mem_zip hy).1 with q | q
   . exact .inl q
   . exact .inr ⟨q,PySem.W.cellsFrom_some _ _ _ (.inl q)⟩
 refine codeAny_call_function hr.depth (KX _ _ lk) rfl S.co S.gen rfl (PySem.W.codeRec_of KX hcd) (hb _ _ _ _ ?_)
 refine wpAny_newFunctionEnv_cells S.kind hkind fun env he s1 x=>?_
 subst he
 refine ⟨lim.keeps x.toInCall.keep,codeAny_func ?_⟩
 obtain ⟨t,ht,hq⟩:=hbody A outer s H vs Q E (hr.deeper _) hsp
 have I:Inv (cxOf CX P w K mg base N qual scope f cdv A outer s H E) [] (start N vs) H s1:=inv_start S hr.hd e0 hl r x
 refine wpAny_mono (ht [] s1 (start N vs) H _ I hq) (fun fl s' hs=>?_) fun e s' hs=>hs
 have fin:∀ {σ':St} {H':Hp} {v:V} {u:Value},Inv (cxOf CX P w K mg base N qual scope f cdv A outer s H E) [] σ' H' s'->RelV v u->Q v H'->CE outer P w H s Q u s' :=
   fun {σ' H' v u} J rv q=>⟨v,H',J.os,J.bare,J.base,J.hok,rv,q⟩
 cases fl with
 | ret u =>
   obtain ⟨v,σ',H',J,rv,q⟩:=hs
   exact fin J rv q
 | next =>
   obtain ⟨σ',H',J,q⟩:=hs
   exact fin (v:=V.non) (u:=Value.none) J rfl q
 | brk =>
   obtain ⟨_,_,_,q⟩:=hs
   exact False.elim q
 | cont =>
   obtain ⟨_,_,_,q⟩:=hs
   exact False.elim q
end L2
namespace L2
open PySem PySem.Spec PyProof.Rows
section
variable {X:Cx} {x:Str} {p pos:Pos} {e:Expr} {es:List Expr} {t:TA} {id T:String} {r:List V->Hp->VK->Prop}
noncomputable def tCB (r:List V->Hp->VK->Prop) (t:TA):TE:=fun σ H Q=>t σ H fun vs H1=>r vs H1 Q
theorem pe_callB (hc:CallR X (.builtin id) r) (hg:Gl X x) (hm:X.mg x=none) (hv:bootBuiltins x=some (.builtin id)) (ha:PA X (e :: es) t) (hn:x ≠ "__name__":=by decide) (hdb:(x == ("__debug__":Str))=false:=by decide)
   (he:starEach (e :: es) X.env=(false,eval e X.env) :: starEach es X.env:=by rfl) (hpl:(backTo pos (starEach es X.env)).any (·.1)=false:=by rfl):PE X (.Call (.Name x p) (e :: es) [] pos) (tCB r t):=by
 intro pins s σ H Q I h
 refine wpAny_Call_Name_kw (ld_blt I hg hm hv ?_ hn hdb)
 exact PyProof.Rows.callWith_builtin1 (thn (ha pos pins s σ H _ I h) fun us s1 zz29=>by obtain ⟨vs,H1,I1,r1,q1⟩:=zz29; exact hc pins s1 σ H1 vs us Q I1 r1 q1) he hpl
theorem pe_callTy (hc:CallR X (.type T) r) (hg:Gl X x) (hm:X.mg x=none) (hv:bootBuiltins x=some (.type T)) (ha:PA X (e :: es) t) (hn:x ≠ "__name__":=by decide) (hdb:(x == ("__debug__":Str))=false:=by decide)
   (he:starEach (e :: es) X.env=(false,eval e X.env) :: starEach es X.env:=by rfl) (hpl:(backTo pos (starEach es X.env)).any (·.1)=false:=by rfl):PE X (.Call (.Name x p) (e :: es) [] pos) (tCB r t):=by
 intro pins s σ H Q I h
 refine wpAny_Call_Name_kw (ld_blt I hg hm hv ?_ hn hdb)
 exact PyProof.Rows.callWith_type1 (thn (ha pos pins s σ H _ I h) fun us s1 zz30=>by obtain ⟨vs,H1,I1,r1,q1⟩:=zz30; exact hc pins s1 σ H1 vs us Q I1 r1 q1) he hpl
end
end L2
namespace HT
open PySem PyProof.Rows
section
open PySem.SeqAt
open PySem.AutoSeq1 (wpAny_loadPart')
open PySem.MeetsSeq PySem.MeetsSeq2 PySem.MeetsSeq3
end
section
variable {prog:Program} {w:World} {A:Around} {E:Value->Shared->Prop} {s:Shared}
noncomputable def sIx (n d:Nat):Option Int->Nat
 | none=>d
 | some v=>if v < 0 then (v + (n:Int)).toNat else min v.toNat n
theorem sIx_none (n d:Nat):sIx n d none=d:=rfl
theorem sIx_nat (n d k:Nat):sIx n d (some (k:Int))=min k n:=by
 show (if (k:Int) < 0 then ((k:Int) + (n:Int)).toNat else min (k:Int).toNat n)=min k n
 rw [if_neg (by omega),Int.toNat_natCast]
theorem sIx_le (n d:Nat) (hd:d <= n) (o:Option Int):sIx n d o <= n:=by
 cases o with
 | none=>exact hd
 | some v =>
   show (if v < 0 then (v + (n:Int)).toNat else min v.toNat n) <= n
   by_cases hv:v < 0
   . rw [if_pos hv]; omega
   . rw [if_neg hv]; exact Nat.min_le_right _ _
end
end HT
namespace L2
open PySem PySem.Spec PyProof.Rows
noncomputable abbrev TO:=St->Hp->(Option Int->Hp->Prop)->Prop
noncomputable def PO (X:Cx) (e:Option Expr) (t:TO):Prop :=
 ∀ (pins:List (Addr × Obj)) (s:Shared) (σ:St) (H:Hp) (Q:Option Int->Hp->Prop),Inv X pins σ H s->t σ H Q ->
   wpAny (model X.prog X.w) X.A (evalPart e X.env) (fun u s'=>∃ o H',Inv X pins σ H' s' /\ IsPart u o /\ Q o H') X.xe s
noncomputable def tNoPart:TO:=fun _ H Q=>Q none H
noncomputable def tPart (t:TE):TO:=fun σ H Q=>t σ H fun x H1=>∃ i,x=.int i /\ Q (some i) H1
section
variable {X:Cx} {e:Expr} {te:TE} {lo hi:Option Expr} {tl th:TO} {pos p2:Pos}
theorem po_none:PO X none tNoPart:=by
 intro pins s σ H Q I h
 rw [evalPart_none]
 exact wpAny_pure ⟨none,H,I,.none,h⟩
theorem po_some (h:PE X e te):PO X (some e) (tPart te):=by
 intro pins s σ H Q I hw
 rw [evalPart_some]
 refine thn (h pins s σ H _ I hw) fun u s1 zz31=>?_
 obtain ⟨x,H1,I1,r1,q1⟩:=zz31
 obtain ⟨i,rfl,q⟩:=q1
 obtain ⟨t,rfl⟩:=r1
 exact ⟨some i,H1,I1,.int i t,q⟩
noncomputable def SlR (X:Cx) (r:V->Option Int->Option Int->Hp->VK->Prop):Prop :=
 ∀ (pins:List (Addr × Obj)) (s:Shared) (σ:St) (H:Hp) (x:V) (v vl vu:Value) (lo hi:Option Int) (sl:Addr) (Q:VK),Inv X pins σ H s->RelV x v->s.heap.IsSliceOf sl vl vu .none->IsPart vl lo->IsPart vu hi->r x lo hi H Q ->
   ∃ T id,typeLookup (.type T) "__getitem__"=pure (some (.builtin id)) /\ s.TypeIs v T /\ wpAny (model X.prog X.w) X.A (getItem v (.ref sl)) (EP X pins σ Q) X.xe s
noncomputable def tSl (r:V->Option Int->Option Int->Hp->VK->Prop) (te:TE) (tl th:TO):TE:=fun σ H Q=>te σ H fun x H1=>tl σ H1 fun l H2=>th σ H2 fun u H3=>r x l u H3 Q
theorem pe_slice {r:V->Option Int->Option Int->Hp->VK->Prop} (hr:SlR X r) (he:PE X e te) (hl:PO X lo tl) (hu:PO X hi th):PE X (.Subscript e (.Slice lo hi none p2) pos) (tSl r te tl th):=by
 intro pins s σ H Q I h
 refine Subscript_ (thn (he pins s σ H _ I h) fun v s1 zz32=>?_)
 obtain ⟨x,H1,I1,r1,q1⟩:=zz32
 refine wpAny_Slice (thn (hl pins s1 σ H1 _ I1 q1) fun vl s2 zz33=>?_)
 obtain ⟨l,H2,I2,pl,q2⟩:=zz33
 refine thn (hu pins s2 σ H2 _ I2 q2) fun vu s3 zz34=>?_
 obtain ⟨u,H3,I3,pu,q3⟩:=zz34
 rw [evalPart_none]
 refine wpAny_pure ?_
 have I4:Inv X pins σ H3 { s3 with heap:=s3.heap.push { cls:=.type "slice",data:=.fields #[vl,vu,.none] } }:=I3.kept (t':=s3.toks) fun b ob q=>Heap.get?_push_of_some _ q
 obtain ⟨T,id,hT,ht,hg⟩:=hr pins { s3 with heap:=s3.heap.push { cls:=.type "slice",data:=.fields #[vl,vu,.none] } } σ H3 x v vl vu l u s3.heap.objs.size Q I4 r1 (Heap.IsSliceOf.new ..) pl pu q3
 show wpAny (model X.prog X.w) X.A (subscriptTail e (.Slice lo hi none p2) v (.ref s3.heap.objs.size)) (EP X pins σ Q) X.xe { s3 with heap:=s3.heap.push { cls:=.type "slice",data:=.fields #[vl,vu,.none] } }
 exact tail_any (ops:=[.ref s3.heap.objs.size,v]) ht hT hg (by with_unfolding_all rfl)
noncomputable def cutV (xs:List V) (lo hi:Option Int):List V:=(xs.drop (HT.sIx xs.length 0 lo)).take (HT.sIx xs.length xs.length hi - HT.sIx xs.length 0 lo)
theorem cutV_length (xs:List V) (lo hi:Option Int):(cutV xs lo hi).length <= xs.length:=by
 unfold cutV
 rw [List.length_take,List.length_drop]
 omega
end
end L2
namespace L2
open PySem PySem.Spec PyProof.Rows
noncomputable def ixN (n:Nat) (i:Int):Option Nat:=if 0 <= i then (if i < n then some i.toNat else none) else if -(n:Int) <= i then some (i + n).toNat else none
noncomputable def atI {α:Type} (xs:List α) (i:Int):Option α:=(ixN xs.length i).bind fun j=>xs[j]?
theorem ixN_seq {n:Nat} {i:Int} {j:Nat} (h:ixN n i=some j):seqIndex? i n=some j /\ j < n /\ -(n:Int) <= i /\ i < n:=by
 unfold ixN at h
 by_cases h0:0 <= i
 . rw [if_pos h0] at h
   by_cases h1:i < n
   . rw [if_pos h1] at h
     have e:i.toNat=j:=Option.some.inj h
     exact ⟨by rw [seqIndex_of h0 h1,e],by omega,by omega,h1⟩
   . rw [if_neg h1] at h; cases h
 . rw [if_neg h0] at h
   by_cases h1:-(n:Int) <= i
   . rw [if_pos h1] at h
     have e:(i + n).toNat=j:=Option.some.inj h
     exact ⟨by rw [seqIndex_neg (by omega) h1,e],by omega,h1,by omega⟩
   . rw [if_neg h1] at h; cases h
theorem atI_get {α:Type} {xs:List α} {i:Int} {v:α} (h:atI xs i=some v):∃ j,seqIndex? i xs.length=some j /\ xs[j]?=some v /\ j < xs.length /\ -(xs.length:Int) <= i /\ i < xs.length:=by
 unfold atI at h
 cases e:ixN xs.length i with
 | none=>rw [e] at h; cases h
 | some j =>
   rw [e] at h
   obtain ⟨h1,h2,h3,h4⟩:=ixN_seq e
   exact ⟨j,h1,h,h2,h3,h4⟩
theorem atI_nat {α:Type} {xs:List α} {j:Nat} {v:α} (h:xs[j]?=some v):atI xs (j:Int)=some v:=by
 have hj:j < xs.length:=(List.getElem?_eq_some_iff.mp h).1
 have e:ixN xs.length (j:Int)=some j:=by
   unfold ixN
   rw [if_pos (by omega),if_pos (by omega)]; simp
 unfold atI; rw [e]; exact h
theorem atI_last {α:Type} (xs:List α) (v:α):atI (xs ++ [v]) (-1)=some v:=by
 have hl:(xs ++ [v]).length=xs.length + 1:=by simp
 have e:ixN (xs ++ [v]).length (-1)=some xs.length:=by
   unfold ixN
   rw [hl,if_neg (by decide),if_pos (by omega)]
   congr 1
   omega
 unfold atI
 rw [e]
 show (xs ++ [v])[xs.length]?=some v
 simp
noncomputable def PlainIx (b:Expr):Prop:=∀ o i,subscripted b false o i=operate [o,i] (getItem o i)
noncomputable def IxR (X:Cx) (r:R2):Prop :=
 ∀ (value slice:Expr) (pins:List (Addr × Obj)) (s:Shared) (σ:St) (H:Hp) (x y:V) (v u:Value) (Q:VK),Inv X pins σ H s->RelV x v->RelV y u->r x y H Q ->
   subscripted slice false v u=operate [v,u] (getItem v u)->wpAny (model X.prog X.w) X.A (subscriptTail value slice v u) (EP X pins σ Q) X.xe s
noncomputable def MtR (X:Cx) (id:String) (r:V->List V->Hp->VK->Prop):Prop :=
 ∀ (pins:List (Addr × Obj)) (s:Shared) (σ:St) (H:Hp) (x:V) (xs:List V) (v:Value) (us:List Value) (Q:VK),Inv X pins σ H s->RelV x v->Vals xs us->r x xs H Q ->
   wpAny (model X.prog X.w) X.A (call (.builtin id) (v :: us)) (EP X pins σ Q) X.xe s
section
variable {X:Cx} {a b:Expr} {ta tb:TE} {pos:Pos}
theorem pe_ix {r:R2} (hr:IxR X r) (ha:PE X a ta) (hb:PE X b tb) (hs:PlainIx b):PE X (.Subscript a b pos) (tOp r ta tb):=by
 intro pins s σ H Q I h
 exact Subscript_ (binT ha hb I h fun v u s2 x y H2 I2 rx ry q=>hr a b pins s2 σ H2 x y v u Q I2 rx ry q (hs _ _))
noncomputable def rIxL (K:PySem.W.Frag):R2:=fun x y H Q=>∃ p xs i v,x=.ref p /\ y=.int i /\ SqL K H p xs /\ atI xs i=some v /\ Q v H
noncomputable def rIxT (K:PySem.W.Frag):R2:=fun x y H Q=>∃ p xs i v,x=.ref p /\ y=.int i /\ SqT K H p xs /\ atI xs i=some v /\ Q v H
noncomputable def rIxS:R2:=fun x y H Q=>∃ z i c,x=.str z /\ y=.int i /\ z.length <= sizeLine /\ atI z.cps.toList i=some c /\ Q (.str ⟨#[c]⟩) H
theorem ix_list:IxR X (rIxL X.K):=by
 intro value slice pins s σ H x y v u Q I rx ry h hs
 obtain ⟨p,xs,i,z,rfl,rfl,hq,he,q⟩:=h
 cases rx
 obtain ⟨t,rfl⟩:=ry
 obtain ⟨its,r,pl,hz⟩:=I.list hq
 obtain ⟨j,h1,h2,h3,h4,h5⟩:=atI_get he
 obtain ⟨w,ew,rw'⟩:=r.get h2
 have hl:=r.length
 have hn:=line63
 have fin:EP X pins σ Q w s:=⟨z,H,I,rw',q⟩
 by_cases h0:0 <= i
 . have hj:i.toNat=j:=by
     rw [seqIndex_of h0 h5] at h1
     exact Option.some.inj h1
   exact item_listR pl.isList h0 (by omega) (by rw [hj]; simpa using ew) fin hs
 . have hj:(i + (its.toArray.size:Int)).toNat=j:=by
     rw [seqIndex_neg (by omega) h4] at h1
     rw [List.size_toArray,<- hl]
     exact Option.some.inj h1
   exact subscriptTail_builtinR (x:=w) pl.isList.typeIs slot_list_getitem.lookup
     (wpAny_getItem_list_neg (Q:=fun r s'=>r=w /\ EP X pins σ Q r s') pl.isList (by omega) (by rw [List.size_toArray] <;> omega) (by omega) (by rw [hj]; simpa using ew) ⟨rfl,fin⟩) hs
theorem ix_tup:IxR X (rIxT X.K):=by
 intro value slice pins s σ H x y v u Q I rx ry h hs
 obtain ⟨p,xs,i,z,rfl,rfl,hq,he,q⟩:=h
 cases rx
 obtain ⟨t,rfl⟩:=ry
 obtain ⟨its,r,pl,hz⟩:=I.tuple hq
 obtain ⟨j,h1,h2,h3,h4,h5⟩:=atI_get he
 obtain ⟨w,ew,rw'⟩:=r.get h2
 have hl:=r.length
 have hn:=line63
 have fin:EP X pins σ Q w s:=⟨z,H,I,rw',q⟩
 exact subscriptTail_builtinR (x:=w) pl.typeIs slot_tuple_getitem.lookup
   (getItem_tuple (j:=j) (Q:=fun r s'=>r=w /\ EP X pins σ Q r s') pl (by omega) (by omega) (by rw [List.size_toArray,<- hl]; exact h1) (by simpa using ew) ⟨rfl,fin⟩) hs
theorem ix_str:IxR X rIxS:=by
 intro value slice pins s σ H x y v u Q I rx ry h hs
 obtain ⟨z,i,c,rfl,rfl,hz,he,q⟩:=h
 obtain ⟨t,rfl⟩:=rx
 obtain ⟨t',rfl⟩:=ry
 obtain ⟨j,h1,h2,h3,h4,h5⟩:=atI_get he
 have hl:z.cps.toList.length=z.length:=by simp [Str.length]
 rw [hl] at h1 h4 h5
 have hn:=line63
 exact tail_any (typeIs_str s z t) slot_str_getitem.lookup (getItem_str (c:=c) (by
   have e1:decide (i < -(2 ^ 63:Int))=false:=decide_eq_false (by omega)
   have e2:decide (i ≥ 2 ^ 63)=false:=decide_eq_false (by omega)
   rw [e1,e2,Bool.or_false]) (by rw [h1]; simpa using h2) ⟨.str ⟨#[c]⟩,H,I.tok _,⟨_,rfl⟩,q⟩) hs
theorem mapSeq_set (its:List Value) (n j:Nat) (u:Value):Obj.mapSeq (·.setIfInBounds j u) { cls:=.type "list",data:=.seq its.toArray n }={ cls:=.type "list",data:=.seq (its.set j u).toArray n }:=by
 simp [Obj.mapSeq]
theorem Inv.lst {pins:List (Addr × Obj)} {σ:St} {H:Hp} {s:Shared} {p:Addr} {xs:List V} (I:Inv X pins σ H s) (h:H p=some (.lst xs)) :
   ∃ (its:List Value) (n:Nat),Vals xs its /\ s.heap.get? p=some { cls:=.type "list",data:=.seq its.toArray n } /\ xs.length <= sizeLine:=by
 obtain ⟨z,its,n,r,e⟩:=I.hok p _ h
 exact ⟨its,n,r,e,z⟩
theorem Inv.lstUpd {pins:List (Addr × Obj)} {σ:St} {H:Hp} {s:Shared} {p:Addr} {xs ys:List V} {its its':List Value} {n n':Nat} {f:Obj->Obj} (I:Inv X pins σ H s) (h:H p=some (.lst xs))
   (ho:s.heap.get? p=some { cls:=.type "list",data:=.seq its.toArray n }) (hf:f { cls:=.type "list",data:=.seq its.toArray n }={ cls:=.type "list",data:=.seq its'.toArray n' }) (r:Vals ys its') (hz:ys.length <= sizeLine) (t:Nat) :
   Inv X pins σ (upd H p (.lst ys)) { s with heap:=s.heap.update p f,toks:=t }:=by
 have e:(s.heap.update p f).get? p=some { cls:=.type "list",data:=.seq its'.toArray n' }:=by
   rw [Heap.get?_update_self f ho (by rw [hf] <;> rfl),hf]
 refine I.write (x:=p) (e:=p) (by rw [h]; trivial) (.inl rfl) (fun b u hb q=>(Heap.get?_update_other _ _ (Ne.symm hb)).trans q) ⟨_,e⟩ ?_
 exact ⟨hz,its',n',r,e⟩
noncomputable def rSetL:V->V->V->Hp->(Hp->Prop)->Prop:=fun o i v H Q=>∃ p xs k j,o=.ref p /\ i=.int k /\ H p=some (.lst xs) /\ ixN xs.length k=some j /\ Q (upd H p (.lst (xs.set j v)))
theorem set_list:PSet X rSetL:=by
 intro pins s σ H o i v ov iv u Q I ro ri rv h
 obtain ⟨p,xs,k,j,rfl,rfl,hp,hj,q⟩:=h
 cases ro
 obtain ⟨t,rfl⟩:=ri
 obtain ⟨its,n,r,ho,hz⟩:=I.lst hp
 obtain ⟨h1,h2,h3,h4⟩:=ixN_seq hj
 have hl:=r.length
 have hn:=line63
 have I':Inv X pins σ (upd H p (.lst (xs.set j v))) { s with heap:=s.heap.update p (Obj.mapSeq (·.setIfInBounds j u)) } :=
   I.lstUpd hp ho (mapSeq_set its n j u) (r.set rv j) (by rw [List.length_set]; exact hz) s.toks
 by_cases h0:0 <= k
 . have hk:k.toNat=j:=by
     rw [seqIndex_of h0 h4] at h1
     exact Option.some.inj h1
   exact PySem.W.ki_setAt ho h0 (by omega) (by rw [List.size_toArray,<- hl]; exact h4) (by rw [hk]; exact ⟨_,I',q⟩)
 . have hk:(k + (its.toArray.size:Int)).toNat=j:=by
     rw [seqIndex_neg (by omega) h3] at h1
     rw [List.size_toArray,<- hl]
     exact Option.some.inj h1
   exact PySem.W.ki_setBack ho (by omega) (by rw [List.size_toArray,<- hl]; exact h3) (by omega) (by rw [hk]; exact ⟨_,I',q⟩)
theorem slice_bounds (lo hi:Option Int) (n:Nat):(sliceBounds lo hi none n).1=((HT.sIx n 0 lo:Nat):Int) /\ (sliceBounds lo hi none n).2.1=((HT.sIx n n hi:Nat):Int) /\ (sliceBounds lo hi none n).2.2=1:=by
 refine ⟨?_,?_,rfl⟩
 . cases lo with
   | none=>simp [sliceBounds,HT.sIx]
   | some i =>
     simp only [sliceBounds,HT.sIx,Option.getD_none,show (1:Int) > 0 by decide,if_true]
     by_cases h:i < 0
     . simp only [h,if_true] <;> omega
     . simp only [h,if_false] <;> omega
 . cases hi with
   | none=>simp [sliceBounds,HT.sIx]
   | some i =>
     simp only [sliceBounds,HT.sIx,Option.getD_none,show (1:Int) > 0 by decide,if_true]
     by_cases h:i < 0
     . simp only [h,if_true] <;> omega
     . simp only [h,if_false] <;> omega
theorem slicePick_cut (its:List Value) (lo hi:Option Int):slicePick its.toArray lo hi none=((its.drop (HT.sIx its.length 0 lo)).take (HT.sIx its.length its.length hi - HT.sIx its.length 0 lo)).toArray:=by
 obtain ⟨h1,h2,h3⟩:=slice_bounds lo hi its.toArray.size
 unfold slicePick
 rw [h1,h2,h3]
 simp only [sliceRange_one,pick_run,List.size_toArray] <;> rfl
noncomputable def rSlL (K:PySem.W.Frag):V->Option Int->Option Int->Hp->VK->Prop:=fun x lo hi H Q=>∃ a xs,x=.ref a /\ SqL K H a xs /\ ∀ p,H p=none->Q (.ref p) (upd H p (.lst (cutV xs lo hi)))
theorem sl_list:SlR X (rSlL X.K):=by
 intro pins s σ H x v vl vu lo hi sl Q I rx hs pl pu h
 obtain ⟨a,xs,rfl,hx,q⟩:=h
 cases rx
 obtain ⟨its,r,ht,hz⟩:=I.list hx
 have hlen:=r.length
 refine ⟨"list",_,slot_list_getitem.lookup,ht.isList.typeIs,?_⟩
 refine wpAny_getItem_list_slice ht.isList hs pl pu .none (by simp) ?_ (by rw [List.size_toArray] <;> omega)
 rw [slicePick_cut,<- hlen]
 refine ⟨.ref s.heap.objs.size,_,I.laid (t':=s.toks) (o:=.lst (cutV xs lo hi)) (fun b ob q=>Heap.get?_push_of_some _ q) (Nat.le_refl _) ?_,rfl,q _ (I.hok.fresh (Nat.le_refl _))⟩
 exact ⟨Nat.le_trans (cutV_length xs lo hi) hz,_,0,(r.drop (HT.sIx xs.length 0 lo)).take (HT.sIx xs.length xs.length hi - HT.sIx xs.length 0 lo),Heap.get?_push_size _ rfl⟩
noncomputable def flatV:V->Bool
 | .non=>true
 | .bl _=>true
 | .int _=>true
 | .str _=>true
 | _=>false
noncomputable def eqV:V->V->Bool
 | .non,.non=>true
 | .bl a,.bl b=>a == b
 | .bl a,.int b=>(if a then 1 else 0) == b
 | .int a,.bl b=>a == (if b then 1 else 0)
 | .int a,.int b=>a == b
 | .str a,.str b=>a == b
 | _,_=>false
theorem eqAt_V {A:Around} {s:Shared} {y x:V} {u v:Value} (ry:RelV y u) (rx:RelV x v) (fy:flatV y=true) (fx:flatV x=true):SeqAt.EqAt A s u v (eqV y x):=by
 cases y with
 | non =>
   cases ry
   cases x with
   | non=>cases rx; exact SeqAt.EqAt.same _
   | bl b=>cases rx; exact SeqAt.EqAt.none_bool b
   | int b=>obtain ⟨t,rfl⟩:=rx; exact SeqAt.EqAt.none_int b t
   | str b=>obtain ⟨t,rfl⟩:=rx; exact SeqAt.EqAt.none_str b t
   | _=>exact absurd (show false=true from fx) Bool.false_ne_true
 | bl a =>
   cases ry
   cases x with
   | non=>cases rx; exact SeqAt.EqAt.bool_none a
   | bl b=>cases rx; exact SeqAt.EqAt.bool_bool a b
   | int b=>obtain ⟨t,rfl⟩:=rx; exact SeqAt.EqAt.bool_int a b t
   | str b=>obtain ⟨t,rfl⟩:=rx; exact SeqAt.EqAt.bool_str a b t
   | _=>exact absurd (show false=true from fx) Bool.false_ne_true
 | int a =>
   obtain ⟨t',rfl⟩:=ry
   cases x with
   | non=>cases rx; exact SeqAt.EqAt.int_none a t'
   | bl b=>cases rx; exact SeqAt.EqAt.int_bool a t' b
   | int b=>obtain ⟨t,rfl⟩:=rx; exact SeqAt.EqAt.int_int a t' b t
   | str b=>obtain ⟨t,rfl⟩:=rx; exact SeqAt.EqAt.int_str a t' b t
   | _=>exact absurd (show false=true from fx) Bool.false_ne_true
 | str a =>
   obtain ⟨t',rfl⟩:=ry
   cases x with
   | non=>cases rx; exact SeqAt.EqAt.str_none a t'
   | bl b=>cases rx; exact SeqAt.EqAt.str_bool a t' b
   | int b=>obtain ⟨t,rfl⟩:=rx; exact SeqAt.EqAt.str_int a t' b t
   | str b=>obtain ⟨t,rfl⟩:=rx; exact SeqAt.EqAt.str_str a t' b t
   | _=>exact absurd (show false=true from fx) Bool.false_ne_true
 | _=>exact absurd (show false=true from fy) Bool.false_ne_true
noncomputable def eqU (x:V) (u:Value):Bool:=match u with
 | .none=>eqV .non x
 | .bool b=>eqV (.bl b) x
 | .int i _=>eqV (.int i) x
 | .str z _=>eqV (.str z) x
 | _=>false
theorem eqU_of {x y:V} {u:Value} (r:RelV y u) (f:flatV y=true):eqU x u=eqV y x:=by
 cases y with
 | non=>cases r; rfl
 | bl b=>cases r; rfl
 | int i=>obtain ⟨t,rfl⟩:=r; rfl
 | str z=>obtain ⟨t,rfl⟩:=r; rfl
 | _=>exact absurd (show false=true from f) Bool.false_ne_true
theorem any_eqU {x:V}:∀ {xs:List V} {us:List Value},Vals xs us->xs.all flatV=true->us.any (eqU x)=xs.any fun y=>eqV y x
 | _,_,.nil,_=>rfl
 | y :: xs,u :: us,.cons r t,f=>by
   rw [List.all_cons,Bool.and_eq_true] at f
   rw [List.any_cons,List.any_cons,eqU_of r f.1,any_eqU t f.2]
theorem mem_eqAt {A:Around} {s:Shared} {x:V} {v:Value} (rx:RelV x v) (fx:flatV x=true):∀ {xs:List V} {us:List Value},Vals xs us->xs.all flatV=true->∀ u ∈ us,SeqAt.EqAt A s u v (eqU x u)
 | _,_,.nil,_=>fun u hu=>by cases hu
 | y :: xs,u :: us,.cons r t,f=>fun u' hu=>by
   rw [List.all_cons,Bool.and_eq_true] at f
   rcases List.mem_cons.mp hu with rfl | hu
   . rw [eqU_of r f.1]; exact eqAt_V r rx f.1 fx
   . exact mem_eqAt rx fx t f.2 u' hu
noncomputable def inV (x:V) (xs:List V):Bool:=xs.any fun y=>eqV y x
noncomputable def rIn (K:PySem.W.Frag) (neg:Bool):R2:=fun x y H Q=>∃ p xs,y=.ref p /\ (SqL K H p xs \/ SqT K H p xs) /\ flatV x=true /\ xs.all flatV=true /\ Q (.bl (if neg then !inV x xs else inV x xs)) H
theorem op_notIn_seq:OpR X (compareOp .NotIn) (rIn X.K true):=by
 intro pins s σ H x y v u Q I rx ry h
 obtain ⟨p,xs,rfl,hq,fx,fs,q⟩:=h
 cases ry
 rcases hq with hq | hq
 . obtain ⟨its,r,pl,hz⟩:=I.list hq
   refine SeqAt.notIn_listAt (eqU x) pl.isList (fun w hw=>mem_eqAt rx fx r fs w (by simpa using hw)) ⟨.bl _,H,I,rfl,?_⟩
   rw [show its.toArray.any (eqU x)=its.any (eqU x) by simp,any_eqU r fs]
   exact q
 . obtain ⟨its,r,pl,hz⟩:=I.tuple hq
   refine SeqAt.notIn_tupleAt (eqU x) pl (fun w hw=>mem_eqAt rx fx r fs w (by simpa using hw)) ⟨.bl _,H,I,rfl,?_⟩
   rw [show its.toArray.any (eqU x)=its.any (eqU x) by simp,any_eqU r fs]
   exact q
theorem call_len_seq:CallR X (.builtin "len") (fun xs H Q=>∃ p ys,xs=[.ref p] /\ (SqL X.K H p ys \/ SqT X.K H p ys) /\ Q (.int ys.length) H):=by
 intro pins s σ H xs us Q I r h
 obtain ⟨p,ys,rfl,hq,q⟩:=h
 obtain ⟨u,rfl,rx⟩:=vals1 r
 cases rx
 have hn:=line63
 rcases hq with hq | hq
 . obtain ⟨its,r',pl,hz⟩:=I.list hq
   have hlen:=r'.length
   exact Calls.call_len_list pl.isList (by simp only [List.size_toArray] <;> omega) ⟨.int ys.length,H,I.tok _,⟨s.toks + 1,by rw [List.size_toArray,hlen]⟩,q⟩
 . obtain ⟨its,r',pl,hz⟩:=I.tuple hq
   have hlen:=r'.length
   exact len_tuple pl (by simp only [List.size_toArray] <;> omega) ⟨.int ys.length,H,I.tok _,⟨s.toks + 1,by rw [List.size_toArray,hlen]⟩,q⟩
theorem call_len_str:CallR X (.builtin "len") (fun xs H Q=>∃ z,xs=[.str z] /\ z.length <= sizeLine /\ Q (.int z.length) H):=by
 intro pins s σ H xs us Q I r h
 obtain ⟨z,rfl,hz,q⟩:=h
 obtain ⟨u,rfl,t,rfl⟩:=vals1 r
 have hn:=line63
 exact len_str (by omega) ⟨.int z.length,H,I.tok _,⟨_,rfl⟩,q⟩
theorem call_list_of:CallR X (.type "list") (fun xs H Q=>∃ p ys,xs=[.ref p] /\ (SqL X.K H p ys \/ SqT X.K H p ys) /\ ∀ l,H l=none->Q (.ref l) (upd H l (.lst ys))):=by
 intro pins s σ H xs us Q I r h
 obtain ⟨p,ys,rfl,hq,q⟩:=h
 obtain ⟨u,rfl,rx⟩:=vals1 r
 cases rx
 have fin:∀ (its:List Value),Vals ys its->ys.length <= sizeLine->∀ (h':Heap) (c':Nat),(∀ b o',s.heap.get? b=some o'->h'.get? b=some o') ->
     h'.get? s.heap.objs.size=some { cls:=.type "list",dict:=none,data:=.seq its.toArray c',slots:=#[] }->EP X pins σ Q (.ref s.heap.objs.size) { s with heap:=h' }:=fun its r' hz h' c' kp e =>
   ⟨.ref s.heap.objs.size,_,I.laid (t':=s.toks) kp (Nat.le_refl _) (show ObjOk X.prog X.w _ h' _ (.lst ys) from ⟨hz,its,c',r',e⟩),rfl,q _ (I.hok.fresh (Nat.le_refl _))⟩
 rcases hq with hq | hq
 . obtain ⟨its,r',pl,hz⟩:=I.list hq
   have hlen:=r'.length
   obtain ⟨o,ho,hc,n,hd⟩:=pl.isList
   exact call_list_seq p (.inl rfl) ho hc hd (fun h' c' kp e=>fin its r' hz h' c' kp e) (by simp only [List.size_toArray] <;> omega)
 . obtain ⟨its,r',pl,hz⟩:=I.tuple hq
   have hlen:=r'.length
   obtain ⟨o,ho,hc,n,hd⟩:=pl
   exact call_list_seq p (.inr rfl) ho hc hd (fun h' c' kp e=>fin its r' hz h' c' kp e) (by simp only [List.size_toArray] <;> omega)
noncomputable def tyV (K:PySem.W.Frag) (T:String) (x:V) (H:Hp):Prop:=match x with
 | .str _=>T="str"
 | .int _=>T="int"
 | .ref p=>(T="list" /\ ∃ xs,SqL K H p xs) \/ (T="tuple" /\ ∃ o,K.lookup p=some o /\ o.cls=.type "tuple" /\ o.dict=none) \/
     (T="dict" /\ ((∃ kvs,H p=some (.dK kvs)) \/ ∃ kvs,H p=some (.dT kvs))) \/ (T="set" /\ ∃ S n,H p=some (.set S n))
 | _=>False
theorem tyV_is {pins:List (Addr × Obj)} {σ:St} {H:Hp} {s:Shared} {T:String} {x:V} {v:Value} (I:Inv X pins σ H s) (r:RelV x v) (ty:tyV X.K T x H) :
   s.TypeIs v T /\ ∀ a,v=.ref a->∃ ob,s.heap.get? a=some ob /\ ob.dict=none:=by
 cases x with
 | str z =>
   obtain ⟨t,rfl⟩:=r
   cases (show T="str" from ty)
   exact ⟨typeIs_str s z t,fun _ e=>nomatch e⟩
 | int i =>
   obtain ⟨t,rfl⟩:=r
   cases (show T="int" from ty)
   exact ⟨typeIs_int s i t,fun _ e=>nomatch e⟩
 | ref p =>
   cases r
   rcases ty with ⟨rfl,xs,hq⟩ | ⟨rfl,o,hk,hc,hd⟩ | ⟨rfl,hk⟩ | ⟨rfl,S,n,hk⟩
   . obtain ⟨its,_,pl,_⟩:=I.list hq
     refine ⟨pl.isList.typeIs,fun a e=>?_⟩
     cases e
     obtain ⟨o,n,e,c,hd,_⟩:=pl
     exact ⟨o,e,hd⟩
   . refine ⟨⟨o,I.kIn p o hk,hc⟩,fun a e=>?_⟩
     cases e
     exact ⟨o,I.kIn _ o hk,hd⟩
   . have z:∃ o,s.heap.get? p=some o /\ o.ExactDict:=by
       rcases hk with ⟨kvs,hk⟩ | ⟨kvs,hk⟩
       . obtain ⟨_,_,_,_,o,_,_,e,ex,_⟩:=I.hok p _ hk
         exact ⟨o,e,ex⟩
       . obtain ⟨_,_,_,_,o,_,_,e,ex,_⟩:=I.hok p _ hk
         exact ⟨o,e,ex⟩
     obtain ⟨o,e,ex⟩:=z
     refine ⟨⟨o,e,ex.1⟩,fun a e2=>?_⟩
     cases e2
     exact ⟨o,e,ex.2.1⟩
   . obtain ⟨o,_,_,_,e,ex,_⟩:=I.hok p _ hk
     refine ⟨⟨o,e,ex.1⟩,fun a e2=>?_⟩
     cases e2
     exact ⟨o,e,ex.2.1⟩
 | _=>exact False.elim ty
noncomputable def tBM0 (K:PySem.W.Frag) (T:String) (r:V->List V->Hp->VK->Prop) (to:TE):TE:=fun σ H Q=>to σ H fun x H1=>tyV K T x H1 /\ r x [] H1 Q
noncomputable def tBM (K:PySem.W.Frag) (T:String) (r:V->List V->Hp->VK->Prop) (to:TE) (t:TA):TE:=fun σ H Q=>to σ H fun x H1=>tyV K T x H1 /\ t σ H1 fun xs H2=>r x xs H2 Q
variable {o e:Expr} {es:List Expr} {to:TE} {t:TA} {name:Str} {apos cpos:Pos} {T id:String} {r:V->List V->Hp->VK->Prop}
theorem pe_bm0 (pa:PlainAttrs T) (slot:Slot T name id) (hty:typeOf (.builtin id)=pure (.type "method_descriptor")) (hm:MtR X id r) (ho:PE X o to)
   (hbase:attributeBase o name X.env (eval o X.env)=eval o X.env:=by rfl) (hline:(apos.endLine == cpos.line)=true:=by rfl):PE X (.Call (.Attribute o name apos) [] [] cpos) (tBM0 X.K T r to):=by
 intro pins s σ H Q I h
 refine wpAny_Call_method0_late hbase hline (thn (ho pins s σ H _ I h) fun v s1 zz35=>?_)
 obtain ⟨x,H1,I1,r1,ty,q1⟩:=zz35
 obtain ⟨h1,h2⟩:=tyV_is I1 r1 ty
 exact ⟨T,id,pa,slot,hty,h1,h2,Calls.callWith_builtin rfl (PySem.evalArgs_none (hm pins s1 σ H1 x [] v [] Q I1 r1 .nil q1))⟩
theorem pe_bm (pa:PlainAttrs T) (slot:Slot T name id) (hty:typeOf (.builtin id)=pure (.type "method_descriptor")) (hm:MtR X id r) (ho:PE X o to) (ha:PA X (e :: es) t)
   (hbase:attributeBase o name X.env (eval o X.env)=eval o X.env:=by rfl)
   (hfew:((backTo cpos (starEach (e :: es) X.env)).all (fun x=>!x.1) && (backToKw cpos (keywordEach [] X.env)).all (fun x=>x.1.isSome)
     && decide ((e :: es).length + ([]:List Keyword).length + (if ([]:List Keyword).isEmpty then 0 else 1) < 30))=true:=by rfl)
   (hline:(apos.endLine == cpos.line)=true:=by rfl) (hs:starEach (e :: es) X.env=(false,eval e X.env) :: starEach es X.env:=by rfl) (hplain:(backTo cpos (starEach es X.env)).any (·.1)=false:=by rfl) :
   PE X (.Call (.Attribute o name apos) (e :: es) [] cpos) (tBM X.K T r to t):=by
 intro pins s σ H Q I h
 refine wpAny_Call_method_late hbase hfew hline rfl (thn (ho pins s σ H _ I h) fun v s1 zz36=>?_)
 obtain ⟨x,H1,I1,r1,ty,q1⟩:=zz36
 obtain ⟨h1,h2⟩:=tyV_is I1 r1 ty
 refine ⟨T,id,pa,slot,hty,h1,h2,?_⟩
 have hA:=ha cpos pins s1 σ H1 _ I1 q1
 rw [hs] at hA ⊢
 refine Calls.callWith_builtin (by show (false || (backTo cpos (starEach es X.env)).any (·.1))=false; rw [hplain] <;> rfl) (Calls.evalArgs_plain ?_)
 exact thn hA fun us s2 zz37=>by obtain ⟨vs,H2,I2,r2,q2⟩:=zz37; exact hm pins s2 σ H2 x vs v us Q I2 r1 r2 q2
end
end L2
namespace L2
open PySem PySem.Spec PyProof.Rows
noncomputable def MtM (X:Cx) (id:String) (r:V->List V->Hp->VK->Prop):Prop :=
 ∀ (pins:List (Addr × Obj)) (s:Shared) (σ:St) (H:Hp) (x:V) (xs:List V) (v:Value) (us:List Value) (Q:VK),Inv X pins σ H s->RelV x v->Vals xs us->r x xs H Q ->
   wpAny (model X.prog X.w) X.A (call (.builtin id) (v :: us)) (EP X pins σ Q) X.xe s
theorem Vals.one:∀ {x:V} {us:List Value},Vals [x] us->∃ u,us=[u] /\ RelV x u
 | _,_,.cons r .nil=>⟨_,rfl,r⟩
theorem Vals.zero:∀ {us:List Value},Vals [] us->us=[]
 | _,.nil=>rfl
theorem Vals.eraseIdx:∀ {xs:List V} {us:List Value} (i:Nat),Vals xs us->Vals (xs.eraseIdx i) (us.eraseIdx i)
 | _,_,_,.nil=>.nil
 | _,_,0,.cons _ t=>t
 | _,_,i + 1,.cons r t=>.cons r (Vals.eraseIdx i t)
theorem Vals.reverse {xs:List V} {us:List Value} (h:Vals xs us):Vals xs.reverse us.reverse:=by
 induction h with
 | nil=>exact .nil
 | cons r t ih=>rw [List.reverse_cons,List.reverse_cons]; exact Vals.append ih (.cons r .nil)
theorem Vals.rep {xs:List V} {us:List Value} (h:Vals xs us):∀ k:Nat,Vals (List.replicate k xs).flatten (List.replicate k us).flatten
 | 0=>.nil
 | k + 1=>by
   rw [List.replicate_succ,List.replicate_succ,List.flatten_cons,List.flatten_cons]
   exact Vals.append h (Vals.rep h k)
theorem len_erase {α:Type}:∀ (l:List α) (i:Nat),(l.eraseIdx i).length <= l.length
 | [],_=>Nat.le_refl _
 | _ :: _,0=>Nat.le_succ _
 | _ :: r,i + 1=>Nat.succ_le_succ (len_erase r i)
theorem foldl_rep (its:List Value):∀ (k:Nat) (acc:List Value),
   List.foldl (fun x1 x2=>x1 ++ x2) acc.toArray (List.replicate k its.toArray)=(acc ++ (List.replicate k its).flatten).toArray
 | 0,acc=>by simp
 | k + 1,acc=>by
   have e:acc.toArray ++ its.toArray=(acc ++ its).toArray:=by simp
   have e2:(acc ++ its) ++ (List.replicate k its).flatten=acc ++ (List.replicate (k + 1) its).flatten:=by
     rw [List.replicate_succ,List.flatten_cons,List.append_assoc]
   rw [<- e2,<- foldl_rep its k (acc ++ its),<- e,List.replicate_succ,List.foldl_cons]
section
variable {X:Cx} {pins:List (Addr × Obj)} {σ:St} {H:Hp} {s:Shared} {l b:Addr} {xs ys zs:List V}
theorem Inv.lset {its its':List Value} {n:Nat} {f:Array Value->Array Value} {t':Nat} (I:Inv X pins σ H s) (hH:H l=some (.lst xs))
   (e:s.heap.get? l=some { cls:=.type "list",data:=.seq its.toArray n }) (hf:f its.toArray=its'.toArray) (hv:Vals ys its') (hz:ys.length <= sizeLine) :
   Inv X pins σ (upd H l (.lst ys)) { s with heap:=s.heap.update l (Obj.mapSeq f),toks:=t' }:=by
 have q:=PySem.IsL.update e f
 rw [hf] at q
 refine I.write (x:=l) (e:=l) (by rw [hH]; exact trivial) (.inl rfl) (fun b' u hb hu=>(Heap.get?_update_other s.heap (Obj.mapSeq f) (Ne.symm hb)).trans hu) ⟨_,q⟩ ?_
 exact ⟨hz,its',_,hv,q⟩
theorem Inv.lnew {its:List Value} {t':Nat} (I:Inv X pins σ H s) (hv:Vals ys its) (hz:ys.length <= sizeLine) :
   Inv X pins σ (upd H s.heap.objs.size (.lst ys)) { s with heap:=s.heap.push { cls:=.type "list",data:=.seq its.toArray },toks:=t' } :=
 I.laid (fun _ _ q=>Heap.get?_push_of_some _ q) (Nat.le_refl _) ⟨hz,its,0,hv,Heap.get?_push_size _ rfl⟩
theorem Inv.fresh (I:Inv X pins σ H s):H s.heap.objs.size=none:=I.hok.fresh (Nat.le_refl _)
theorem Inv.lstM (I:Inv X pins σ H s) (hH:H l=some (.lst xs)):xs.length <= sizeLine /\ ∃ (its:List Value) (n:Nat),Vals xs its /\ xs.length=its.length /\ s.heap.get? l=some { cls:=.type "list",data:=.seq its.toArray n }:=by
 obtain ⟨z,its,n,r,e⟩:=I.hok l _ hH
 exact ⟨z,its,n,r,r.length,e⟩
theorem notLongL {n:Nat} (h:n <= sizeLine):Builtin.List.listTooLong n=false:=by
 unfold Builtin.List.listTooLong
 exact decide_eq_false (by omega)
end
section
variable {X:Cx}
noncomputable def rAppend:V->List V->Hp->VK->Prop:=fun x vs H Q=>∃ l xs y,x=.ref l /\ vs=[y] /\ H l=some (.lst xs) /\ xs.length < sizeLine /\ Q .non (upd H l (.lst (xs ++ [y])))
theorem mt_append:MtM X "list.append" rAppend:=by
 intro pins s σ H x vs v us Q I rx rv h
 obtain ⟨l,xs,y,rfl,rfl,hH,hz,q⟩:=h
 cases rx
 obtain ⟨u,rfl,ru⟩:=rv.one
 obtain ⟨z,its,n,r,hl,e⟩:=I.lstM hH
 refine call_meets F.slot_list_append ⟨_,e,rfl⟩ F.entry_list_append (F.args_list_append_2 _ _) (PySem.list_append l its.toArray n u (by rw [List.size_toArray]; omega)) ⟨e,?_⟩
 refine ⟨.non,_,I.lset (its':=its ++ [u]) hH e (by simp) (r.append (.cons ru .nil)) ?_,rfl,q⟩
 rw [List.length_append,List.length_singleton]
 omega
noncomputable def rPopAt:V->List V->Hp->VK->Prop:=fun x vs H Q=>∃ l xs i k y,x=.ref l /\ vs=[.int i] /\ H l=some (.lst xs) /\ -(2 ^ 63) <= i /\ i < 2 ^ 63 /\ seqIndex? i xs.length=some k /\ xs[k]?=some y /\ Q y (upd H l (.lst (xs.eraseIdx k)))
theorem mt_popAt:MtM X "list.pop" rPopAt:=by
 intro pins s σ H x vs v us Q I rx rv h
 obtain ⟨l,xs,i,k,y,rfl,rfl,hH,h1,h2,hk,hy,q⟩:=h
 cases rx
 obtain ⟨u,rfl,ru⟩:=rv.one
 obtain ⟨t,rfl⟩:=ru
 obtain ⟨z,its,n,r,hl,e⟩:=I.lstM hH
 obtain ⟨w,hw,rw'⟩:=r.get hy
 refine call_meets F.slot_list_pop ⟨_,e,rfl⟩ F.entry_list_pop (F.args_list_pop_2 _ _)
   (MeetsSeq.list_pop_at l its.toArray n i t k w (fitsIndex_both h1 h2) (by rw [List.size_toArray,<- hl]; exact hk) (by rw [<- Array.getElem?_toList]; exact hw) (by rw [List.size_toArray]; omega)) ⟨e,?_⟩
 refine ⟨y,_,I.lset (its':=its.eraseIdx k) hH e ?_ (r.eraseIdx k) ?_,rw',q⟩
 . show its.toArray.eraseIdxIfInBounds k=(its.eraseIdx k).toArray
   rw [List.eraseIdxIfInBounds_toArray]
 . have:=len_erase xs k
   omega
noncomputable def rCat:R2:=fun x y H Q=>∃ l b xs zs,x=.ref l /\ y=.ref b /\ H l=some (.lst xs) /\ H b=some (.lst zs) /\ xs.length + zs.length <= sizeLine /\ ∀ p,H p=none->Q (.ref p) (upd H p (.lst (xs ++ zs)))
theorem op_cat:OpR X (binaryOp .Add) rCat:=by
 intro pins s σ H x y v u Q I rx ry h
 obtain ⟨l,b,xs,zs,rfl,rfl,hH,hB,hz,q⟩:=h
 cases rx
 cases ry
 obtain ⟨z,its,n,r,hl,e⟩:=I.lstM hH
 obtain ⟨z2,its2,n2,r2,hl2,e2⟩:=I.lstM hB
 refine PySem.P.add_list e e2 ?_ (by rw [List.size_toArray,List.size_toArray]; omega)
 have ea:its.toArray ++ its2.toArray=(its ++ its2).toArray:=by simp
 rw [ea]
 exact ⟨.ref _,_,I.lnew (t':=s.toks) (r.append r2) (by rw [List.length_append]; omega),rfl,q _ I.fresh⟩
noncomputable def rRep:R2:=fun x y H Q=>∃ l k xs,x=.ref l /\ y=.int k /\ H l=some (.lst xs) /\ -(2 ^ 63) <= k /\ k < 2 ^ 63 /\ xs.length * k.toNat <= sizeLine /\
 ∀ p,H p=none->Q (.ref p) (upd H p (.lst (List.replicate k.toNat xs).flatten))
theorem len_rep {α:Type} (xs:List α) (k:Nat):(List.replicate k xs).flatten.length=k * xs.length:=by
 induction k with
 | zero=>simp
 | succ k ih=>rw [List.replicate_succ,List.flatten_cons,List.length_append,ih,Nat.succ_mul,Nat.add_comm]
theorem op_rep:OpR X (binaryOp .Mult) rRep:=by
 intro pins s σ H x y v u Q I rx ry h
 obtain ⟨l,k,xs,rfl,rfl,hH,h1,h2,hz,q⟩:=h
 cases rx
 obtain ⟨t,rfl⟩:=ry
 obtain ⟨z,its,n,r,hl,e⟩:=I.lstM hH
 have hlen:its.toArray.size * k.toNat <= sizeLine:=by rw [List.size_toArray,<- hl]; exact hz
 have hcap:¬ its.toArray.size * k.toNat > (2 ^ 63 - 1) / 8:=by
   have:(sizeLine:Nat) <= (2 ^ 63 - 1) / 8:=by decide
   omega
 have hfit:¬ (!Builtin.List.listFitsIndex k)=true:=by
   rw [fitsIndex_both h1 h2]
   exact Bool.false_ne_true
 have hlong:¬ Builtin.List.listTooLong (its.toArray.size * k.toNat)=true:=by
   rw [notLongL hlen]
   exact Bool.false_ne_true
 have hnew:List.foldl (fun x1 x2=>x1 ++ x2) #[] (List.replicate (if its.toArray.isEmpty=true then 0 else k.toNat) its.toArray)=(List.replicate k.toNat its).flatten.toArray:=by
   have f0:∀ m:Nat,List.foldl (fun x1 x2=>x1 ++ x2) #[] (List.replicate m its.toArray)=(List.replicate m its).flatten.toArray:=fun m=>by
     have:=foldl_rep its m []
     rw [List.nil_append] at this
     exact this
   rw [f0]
   cases its with
   | nil=>simp
   | cons a r'=>rw [if_neg (by simp)]
 refine wpAny_binaryOp_repeat_ref (T:="list") (U:="int") (by decide) ⟨_,e,rfl⟩ (fun s'=>typeIs_int s' k t) noFill_list_mul F.fills_int_mul F.slot_int_rmul repeat_list F.slot_int_index.lookup
   (call_meets F.slot_int_rmul (typeIs_int s k t) F.entry_int_rmul (F.args_int_rmul_2 _ _) (int___rmul___int_list k t l its.toArray n)
     ⟨e,rfl,⟨_,e,rfl⟩,call_meets F.slot_list_mul ⟨_,e,rfl⟩ F.entry_list_mul (F.args_list_mul_2 _ _) (AutoListH.list___mul___list_int_3 l its.toArray n k t hfit hcap hlong) ⟨e,?_⟩⟩)
 rw [hnew]
 exact ⟨.ref _,_,I.lnew (t':=s.toks) (r.rep k.toNat) (by rw [len_rep,Nat.mul_comm]; exact hz),rfl,q _ I.fresh⟩
end
section
variable {prog:Program} {w:World} {A:Around} {E:Value->Shared->Prop} {s:Shared}
end
section
variable {X:Cx}
end
end L2
namespace Att
open PySem PySem.W PySem.Calls PyProof.Rows
theorem ints_of_wellAll {P:Params} {h:Heap}:∀ (ns:List Int) (vs:List Value),WellAll P h vs (ns.map WData.int)->IntsAre vs ns:=by
 intro ns
 induction ns with
 | nil =>
   intro vs w
   rw [List.map_nil] at w
   cases w
   exact .nil
 | cons n ns ih =>
   intro vs w
   rw [List.map_cons] at w
   cases w with
   | cons a b =>
     cases a
     exact .cons _ _ (ih _ b)
theorem script_of {l:OpenLaw} {n:Nat} (hn:l.most=some n) {P:Params} {h:Heap} {args:List WData} {vals:List Value}
   (hpre:l.row.toRowW.claim.pre args=true) (hwl:WellAll P h vals args) :
   ∃ a vs ns,vals=[Value.ref a] /\ args=[WData.list (ns.map WData.int)] /\ h.get? a=some { cls:=.type "list",data:=.seq vs.toArray } /\ IntsAre vs ns /\ ns.length <= n:=by
 have hsh:WShape.hasAll [] args [.list .int]=true:=(pre_splitW hpre).1
 have hc:l.pre.holds [] { args:=args }=true:=(pre_splitW hpre).2
 obtain ⟨d,r,rfl,h1,h2⟩:=hasAllW_cons hsh
 obtain rfl:=hasAllW_nil h2
 obtain ⟨xs,rfl,h3⟩:=hasW_list h1
 obtain ⟨ns,rfl⟩:=items_int h3
 have hlen:ns.length <= n:=by
   unfold OpenLaw.pre at hc
   have h4:(WTm.not (.lt (.lit (.int (n:Int))) (.len (.arg 0)))).holds [] { args:=[.list (ns.map .int)] }=true:=by
     have h4:=(holds_andW hc).1
     rw [hn] at h4
     exact h4
   have h5:=condW_of h4 (w_not (w_lt w_lit (w_len_list (w_arg rfl))))
   rw [List.length_map] at h5
   refine Nat.le_of_not_lt fun q=>?_
   have q':(n:Int) < ((ns.length:Nat):Int):=by omega
   first
     | (rw [decide_eq_true q'] at h5; exact absurd h5 (by decide))
     | (simp at h5; omega)
 cases hwl with
 | cons w1 w2 =>
   cases w2
   cases w1 with
   | list ho hall=>exact ⟨_,_,ns,rfl,rfl,ho,ints_of_wellAll ns _ hall,hlen⟩
theorem post_true (l:OpenLaw) (args:List WData):l.row.toRowW.claim.post args (.bool true) args=true :=
 postW_of (r:=l.row.toRowW) (X:=(true == true))
   (show WShape.has [] (.bool true) .bool=true by first | rfl | decide | simp [WShape.has,WShape.arms,WShape.armsAll])
   (show (WTm.eq .res (.lit (.bool true))).value [] { args:=args,res:=some (.bool true),after:=args }=some (.bool (true == true)) from w_eq_bool (w_res rfl) w_lit) rfl
theorem attach_call {l:OpenLaw} {n:Nat} {q:Program} {loose:List Str} {XP:(Str->Option Value)->Heap->Prop} {YP:World->Heap->Prop} {d:DefRec}
   (hn:l.most=some n) (hdf:d.params.defaults=[])
   (call:∀ (w:World) (s₀ s₁:Shared) (mg mb:Str->Option Value) (fa:Addr) (o:Obj) (pm cd doc:Value) (a:Addr) (vs:List Value) (ns:List Int),
     Ground q loose [] XP w s₀ mg mb s₁.heap->YP w s₁.heap ->
     s₁.heap.get? fa=some o->o.data=.func (docDef d.name d.params d.body d.scope pm cd doc)->s₁.heap.CodeRec cd d.name->mg d.name=some (.ref fa) ->
     s₁.heap.get? a=some { cls:=.type "list",data:=.seq vs.toArray }->IntsAre vs ns->ns.length <= n->s₁.gens=#[] ->
     codeAny (model l.prog w) callerA (.call (.ref fa) ⟨[.ref a],[]⟩) (fun r s'=>r=.ok (.ret (.bool true)) /\ OldK s₁.heap s'.heap /\ s'.os=s₁.os /\ AllBare s'.gens) s₁) :
   WalkO q loose XP YP l.row.toRowW d [] (fun f vs=>PySem.call f vs):=by
 intro w s₀ s₁ mg mb G Y fa o pm cd doc dV kV ho hd hcd hD hmg hg args vals as hpre hlay hrd hwl hlo
 obtain rfl:dV=.none:=Dflts.none hD hdf
 obtain rfl:kV=.none:=Dflts.noKw hD
 obtain ⟨a,vs,ns,rfl,rfl,hobj,hints,hlen⟩:=script_of hn hpre hwl
 refine enter_call (codeAny_mono (call w s₀ s₁ mg mb fa o pm cd doc a vs ns G Y ho (fd_plain hd) hcd hmg hobj hints hlen hg) fun r s' hq=>?_)
 obtain ⟨rfl,h2,h3,h4⟩:=hq
 exact ⟨.inl ⟨.bool true,.bool true,[],rfl,fun _=>rfl,.bool true,post_true l _,fun _=>⟨List.Pairwise.nil,fun _ hm=>(nomatch hm)⟩⟩,h2,h3,h4⟩
section
variable {prog:Program} {w:World} {A:Around} {E:Value->Shared->Prop} {s:Shared} {K:Frag}
end
end Att
namespace L2
open PySem PySem.Spec PyProof.Rows
theorem vals_ints:∀ {vs:List Value} {ns:List Int},IntsAre vs ns->Vals (ns.map V.int) vs
 | _,_,.nil=>.nil
 | _,_,.cons n t h=>.cons ⟨t,rfl⟩ (vals_ints h)
noncomputable def Only (H:Hp):Prop:=∀ b,H b=none \/ ∃ o xs,H b=some (.frz o (.lst xs))
theorem law_call {P:Program} {w:World} {K:PySem.W.Frag} {mg mb:Str->Option Value} {CX:CXT} {k:Nat} {fa a:Addr} {fd:FuncData} {x:Str} {sp:Sp} {s₁:Shared} {vs:List Value} {ns:List Int}
   (KX:K.In s₁.heap) (hns:s₁.heap.Ns mainGlobals mg) (hb:s₁.heap.Ns builtinsNs mb) (hbb:∀ x:Str,x ≠ "__name__"->mb x=bootBuiltins x) (hlim:s₁.heap.NoLimit) (hg:s₁.gens=#[])
   (ha:s₁.heap.get? a=some { cls:=.type "list",data:=.seq vs.toArray }) (hi:IntsAre vs ns) (hl:ns.length <= sizeLine) (hr:Room k callerA)
   (F:∀ base:Heap,K.In base->base.Ns mainGlobals mg->FnOk P w K mg base CX k fa fd [x] sp) (hbind:∀ (s:Shared) (u:Value),BindsTo s fd ⟨[u],[]⟩ [(x,u)])
   (hsp:∀ H:Hp,Only H->SqL K H a (ns.map V.int)->sp [.ref a] H (fun v _=>v=.bl true) fun _ _ _=>False)
   (hCX:∀ H e s',CX [] H s₁ (fun _ _ _=>False) e s'->False) :
   codeAny (model P w) callerA (.call (.ref fa) ⟨[.ref a],[]⟩) (fun r s'=>r=.ok (.ret (.bool true)) /\ OldK s₁.heap s'.heap /\ s'.os=s₁.os /\ AllBare s'.gens) s₁:=by
 have rv:=vals_ints hi
 have lenV:=hi.length
 -- from an abstract heap in which nothing but the script may be tracked
 have core:∀ H:Hp,Only H->SqL K H a (ns.map V.int)->HOk P w H s₁.heap->(∀ b,H b ≠ none->b=a)->(H a ≠ none->K.lookup a=none) ->
     codeAny (model P w) callerA (.call (.ref fa) ⟨[.ref a],[]⟩) (fun r s'=>r=.ok (.ret (.bool true)) /\ OldK s₁.heap s'.heap /\ s'.os=s₁.os /\ AllBare s'.gens) s₁:=by
   intro H hO hS hok hA hK
   have base_of:∀ {b:Addr} {o:Obj},s₁.heap.get? b=some o->H b=none->(hidT s₁.heap H).get? b=some o:=fun e n=>hidT_get e n
   have noA:∀ {b:Addr} {o:Obj} {es:Array DictEntry} {ep:Nat},s₁.heap.get? b=some o->o.data=.dict es ep->H b=none:=fun {b o es ep} e d=>by
     cases q:H b with
     | none=>rfl
     | some u =>
       have e':b=a:=hA b (by rw [q]; simp)
       subst e'
       rw [ha] at e; cases e
       have d':Data.seq vs.toArray _=Data.dict es ep:=d
       cases d'
   have nsK:∀ {b:Addr} {m:Str->Option Value},s₁.heap.Ns b m->(hidT s₁.heap H).Ns b m:=fun {b m} ⟨o,es,ep,e,d,r⟩=>⟨o,es,ep,base_of e (noA e d),d,r⟩
   have hKb:K.In (hidT s₁.heap H):=fun b o e=>base_of (KX b o e) (by
     cases q:H b with
     | none=>rfl
     | some u =>
       have e':b=a:=hA b (by rw [q]; simp)
       subst e'
       rw [hK (by rw [q]; simp)] at e; cases e)
   have hM:Mod K mg (hidT s₁.heap H):=⟨hKb,nsK hns,⟨mb,nsK hb,hbb⟩,let ⟨mc,h1,h2⟩:=hlim; ⟨mc,nsK h1,h2⟩⟩
   have e0:Env0 P w K mg (hidT s₁.heap H) callerA [] s₁ H:=⟨rfl,hM,fun b o e=>of_hidT e,Nat.le_of_eq (hidT_size _ _),trivial,fun b hb=>absurd (show b ∈ ([]:List Addr) from hb) (by simp),hok,.of_eq hg⟩
   refine codeAny_mono ((F _ hKb (nsK hns)).run callerA [] s₁ H ⟨[.ref a],[]⟩ [.ref a] [.ref a] _ _ hr e0 (hbind s₁ (.ref a)) (.cons rfl .nil) (hsp H hO hS)) fun r s' h=>?_
   cases r with
   | error e=>exact (hCX H e s' h).elim
   | ok fl =>
     cases fl with
     | next=>exact False.elim h
     | brk=>exact False.elim h
     | cont=>exact False.elim h
     | ret u =>
       obtain ⟨v,H',os,bare,un,hok',r',q⟩:=h
       have q':v=.bl true:=q
       subst q'
       obtain rfl:u=Value.bool true:=r'
       refine ⟨rfl,OldK.of_keep fun b o e=>?_,os,bare⟩
       cases q:H b with
       | none=>exact un.keep b o e q (by intro z; exact absurd (show b ∈ ([]:List Addr) from z) (by simp)) (by simp)
       | some u =>
         rcases hO b with z | ⟨ob,xs,z⟩
         . rw [q] at z; cases z
         . have z2:=un.frzs b ob _ z
           obtain ⟨e1,_⟩:=hok b _ z
           obtain ⟨e2,_⟩:=hok' b _ z2
           rw [e] at e1; cases e1
           exact e2
 cases hk:K.lookup a with
 | some o =>
   -- the script is one of the module's own objects
   have e:=KX a o hk
   rw [ha] at e
   cases e
   refine core (fun _=>none) (fun _=>.inl rfl) (.inr ⟨_,vs.toArray,_,hk,rfl,rfl,rfl,by rw [List.size_toArray,lenV]; exact hl,by simpa using rv⟩) (fun b u z=>by have z':(none:Option HO)=some u:=z; cases z') (fun b z=>absurd rfl z) fun z=>absurd rfl z
 | none =>
   refine core (fun b=>if b=a then some (.frz { cls:=.type "list",data:=.seq vs.toArray } (.lst (ns.map V.int))) else none) (fun b=>?_) (.inl (.inr ⟨{ cls:=.type "list",data:=.seq vs.toArray },if_pos rfl⟩)) (fun b u z=>?_) (fun b z=>?_) fun _=>hk
   . by_cases hb:b=a
     . exact .inr ⟨_,_,if_pos hb⟩
     . exact .inl (if_neg hb)
   . by_cases hb:b=a
     . have z':=(if_pos hb).symm.trans z
       cases z'
       subst hb
       exact ⟨ha,by rw [List.length_map]; exact hl,vs,_,rv,ha⟩
     . have z':=(if_neg hb).symm.trans z
       cases z'
   . by_cases hb:b=a
     . exact hb
     . exact absurd (if_neg hb) z
end L2
namespace L2
open PySem PySem.Spec PyProof.Rows
theorem walk_of {l:PySem.W.OpenLaw} {n k:Nat} {q:Program} {loose:List Str} {XP:(Str->Option Value)->Heap->Prop} {YP:World->Heap->Prop} {d:DefRec} {K:Params->PySem.W.Frag} {CX:World->CXT} {sp:World->Sp} {x:Str}
   (hn:l.most=some n) (hn2:n <= sizeLine) (hdf:d.params.defaults=[]) (hr:Room k callerA)
   (hY:∀ (w:World) (h:Heap),YP w h->(K w.params).In h)
   (F:∀ (w:World) (mg:Str->Option Value) (fa:Addr) (h:Heap),(K w.params).In h->h.Ns mainGlobals mg->mg d.name=some (.ref fa) ->
     ∃ fd:FuncData,(∀ (s:Shared) (u:Value),BindsTo s fd ⟨[u],[]⟩ [(x,u)]) /\
       ∀ base:Heap,(K w.params).In base->base.Ns mainGlobals mg->FnOk l.prog w (K w.params) mg base (CX w) k fa fd [x] (sp w))
   (hsp:∀ (w:World) (H:Hp) (a:Addr) (ns:List Int),ns.length <= n->Only H->SqL (K w.params) H a (ns.map V.int)->sp w [.ref a] H (fun v _=>v=.bl true) fun _ _ _=>False)
   (hCX:∀ (w:World) (H:Hp) (s:Shared) (e:Value) (s':Shared),CX w [] H s (fun _ _ _=>False) e s'->False) :
   PySem.W.WalkO q loose XP YP l.row.toRowW d [] (fun f vs=>PySem.call f vs):=by
 refine Att.attach_call hn hdf fun w s₀ s₁ mg mb fa o pm cd doc a vs ns G Y ho hd hcd hmg hobj hints hlen hg=>?_
 have KX:=hY w _ Y
 obtain ⟨fd,hb,hF⟩:=F w mg fa _ KX G.T.g hmg
 exact law_call KX G.T.g G.T.b G.T.builtins G.T.nolimit hg hobj hints (Nat.le_trans hlen hn2) hr hF hb (fun H hO hS=>hsp w H a ns hlen hO hS) fun H e s'=>hCX w H s₁ e s'
end L2
namespace L2
open PySem PySem.Spec PyProof.Rows
noncomputable abbrev CX0:CXT:=fun _ _ _ _ _ _=>False
noncomputable abbrev E0:XK:=fun _ _ _=>False
theorem pass0 {X:Cx}:Passes CX0 X E0:=fun _ _ _ _ _ _ _ h=>h.elim
structure Fun (K:PySem.W.Frag) (x qual:Str) (st:Stmt) (f:Addr) (fd:FuncData):Prop where
 ex:∃ (oc:Value) (od:Option Addr) (kV doc pm:Value) (an:Option Addr) (cdv ct:Value) (osl:Array (Option Value)),
   fd=PySem.W.fnOf x qual (defArgs st) (defBody st) (defScope st) .none kV doc pm an cdv ct /\ K.lookup f=some ⟨oc,od,.func fd,osl⟩ /\ PySem.W.codeIn K cdv qual=true
 kp:PySem.W.keepIn K (.ref f)=true
section
variable {P:Program} {w:World} {K:PySem.W.Frag} {mg:Str->Option Value} {base:Heap}
theorem Fun.ok {x qual:Str} {st:Stmt} {f:Addr} {fd:FuncData} {N ps:List Str} {k:Nat} {sp:Sp} (F:Fun K x qual st f fd) (S:FnScope N ps (defScope st)) (len:∀ vs H Q E,sp vs H Q E->vs.length=ps.length)
   (hbody:∀ (cdv:Value) (A:Around) (outer:List Env) (s:Shared) (H:Hp) (vs:List V) (Q:VK) (E:XK),Room k (A.deeper (envOfC qual (defScope st) s.heap.objs.size f cdv))->sp vs H Q E ->
     ∃ t,PSs (cxOf CX0 P w K mg base N qual (defScope st) f cdv A outer s H E).nox (defBody st) t /\ t { nx:=fun _ H'=>Q .non H',rt:=Q } (start N vs) H):FnOk P w K mg base CX0 (k + 1) f fd ps sp:=by
 obtain ⟨oc,od,kV,doc,pm,an,cdv,ct,osl,rfl,lk,hcd⟩:=F.ex
 refine fn_of lk hcd S len fun A outer s H vs Q E hr hsp=>?_
 obtain ⟨t,h,q⟩:=hbody cdv A outer s H vs Q E hr hsp
 exact ⟨t,h.nox,q⟩
theorem Fun.binds {x qual:Str} {st:Stmt} {f:Addr} {fd:FuncData} {ps:List Str} (F:Fun K x qual st f fd)
   (h:∀ (kV doc pm:Value) (an:Option Addr) (cdv ct:Value) (us:List Value),us.length=ps.length->bindArgs (PySem.W.fnOf x qual (defArgs st) (defBody st) (defScope st) .none kV doc pm an cdv ct) ⟨us,[]⟩=pure (ps.zip us)):Binds K fd ps []:=by
 obtain ⟨oc,od,kV,doc,pm,an,cdv,ct,osl,rfl,lk,hcd⟩:=F.ex
 exact .all (h kV doc pm an cdv ct)
theorem fun_mk {x qual:Str} {st:Stmt} {f:Addr} {oc:Value} {od an:Option Addr} {osl:Array (Option Value)} {kV doc pm cdv ct:Value} (l:K.lookup f=some ⟨oc,od,.func (PySem.W.fnOf x qual (defArgs st) (defBody st) (defScope st) .none kV doc pm an cdv ct),osl⟩)
   (c:PySem.W.codeIn K cdv qual=true) (k:PySem.W.keepIn K (.ref f)=true):Fun K x qual st f (PySem.W.fnOf x qual (defArgs st) (defBody st) (defScope st) .none kV doc pm an cdv ct):=⟨⟨oc,od,kV,doc,pm,an,cdv,ct,osl,rfl,l,c⟩,k⟩
end
theorem hu_of {A:Around} {k:Nat} (hr:Room k A):A.units + 1 < cLine:=Nat.lt_of_le_of_lt (Nat.add_le_add_left (by decide:1 <= 64) _) hr.units
section
variable {X:Cx}
end
noncomputable def Same (H H':Hp):Prop:=∀ b o,H b=some o->H' b=some o
theorem Same.refl (H:Hp):Same H H:=fun _ _ h=>h
theorem Same.trans {H H1 H2:Hp} (a:Same H H1) (b:Same H1 H2):Same H H2:=fun c o h=>b c o (a c o h)
theorem Same.free {H H':Hp} (e:Same H H') {l:Addr} (h:H' l=Option.none):H l=Option.none:=by
 cases q:H l with
 | none=>rfl
 | some o =>
   rw [e l o q] at h
   cases h
theorem Same.seq {K:PySem.W.Frag} {H H':Hp} {a:Addr} {xs:List V} (e:Same H H') (h:SqL K H a xs):SqL K H' a xs:=by
 rcases h with (h | ⟨o,h⟩) | h
 . exact .inl (.inl (e _ _ h))
 . exact .inl (.inr ⟨o,e _ _ h⟩)
 . exact .inr h
end L2
namespace L2
open PySem PySem.Spec PyProof.Rows
noncomputable def isStar:Expr->Bool
 | .Starred ..=>true
 | _=>false
theorem star_of {e:Expr} {es:List Expr} {env:Env} (h:isStar e=false):starEach (e :: es) env=(false,eval e env) :: starEach es env:=by
 cases e <;> first | rfl | cases h
section
variable {X:Cx}
theorem op_fdivB:OpR X (binaryOp .FloorDiv) (rI (fun _ j=>0 < j /\ j < 18446744073709551616) fun i j=>.int (i / j)):=opI fun i j _ _ _ _ _ hc q=>by
 have h1:(0:Int) < j:=hc.1
 have h2:j < 18446744073709551616:=hc.2
 refine floordiv_int (by omega) (by rw [Int.fdiv_eq_ediv_of_nonneg i (by omega)]; exact q) (.inl (PyProof.noPylong_of_log2 ?_))
 have h0:j.natAbs ≠ 0:=by omega
 have h3:j.natAbs < 2 ^ 64:=by
   have e:(2:Nat) ^ 64=18446744073709551616:=by decide
   omega
 have h4:j.natAbs.log2 < 64:=(Nat.log2_lt h0).mpr h3
 omega
noncomputable def rIsInst (K:PySem.W.Frag):List V->Hp->VK->Prop:=fun xs H Q=>∃ x c t b,xs=[x,c] /\ (∃ u,RelV c u /\ (∀ z,RelV c z->z=u) /\ PySem.W.kitOne K t u=some b) /\ TyOf K H x t /\ Q (.bl b) H
theorem call_isinst:CallR X (.builtin "isinstance") (rIsInst X.K):=by
 intro pins s σ H xs us Q I r h
 obtain ⟨x,c,t,b,rfl,⟨u,rc,hu,e⟩,ty,q⟩:=h
 obtain ⟨u1,u2,rfl,r1,r2⟩:=vals2 r
 obtain rfl:=hu _ r2
 exact isinst_ok I r1 ty e fun tk=>⟨.bl b,H,I.tok tk,rfl,q⟩
end
noncomputable def Kp (p:Addr) (H H':Hp):Prop:=∀ b o,H b=some o->b ≠ p->H' b=some o
theorem Kp.refl (p:Addr) (H:Hp):Kp p H H:=fun _ _ h _=>h
theorem Kp.trans {p:Addr} {H H1 H2:Hp} (a:Kp p H H1) (b:Kp p H1 H2):Kp p H H2:=fun c o h n=>b c o (a c o h n) n
theorem Kp.upd {p:Addr} {H H1:Hp} (a:Kp p H H1) {o:HO}:Kp p H (L2.upd H1 p o):=fun c u h n=>by rw [upd_ne n]; exact a c u h n
theorem Kp.new {p q:Addr} {H H1:Hp} (a:Kp p H H1) (hq:H1 q=none) {o:HO}:Kp p H (L2.upd H1 q o):=fun c u h n=>by
 have z:=a c u h n
 rw [upd_ne (ne_of_none z hq)]; exact z
noncomputable def BoxAt (H:Hp) (p:Addr):Prop:=∃ a b c d:Int,H p=some (.lst [.int a,.int b,.int c,.int d])
theorem BoxAt.new {H:Hp} {p q:Addr} {o:HO} (h:BoxAt H p) (hq:H q=none):BoxAt (L2.upd H q o) p:=by
 obtain ⟨a,b,c,d,e⟩:=h
 exact ⟨a,b,c,d,by rw [upd_ne (ne_of_none e hq)]; exact e⟩
theorem BoxAt.ne {H:Hp} {p q:Addr} (h:BoxAt H p) (hq:H q=none):p ≠ q:=by
 obtain ⟨a,b,c,d,e⟩:=h
 exact ne_of_none e hq
structure Df (K:PySem.W.Frag) (mg:Str->Option Value) (x:Str) (f:Addr) (fd:FuncData) (ps:List Str):Prop where
 hm:mg x=some (.ref f)
 kp:PySem.W.keepIn K (.ref f)=true
 b:Binds K fd ps []
end L2
namespace L2
open PySem PySem.Spec PyProof.Rows
noncomputable def Oth (p:Addr) (H H':Hp):Prop:=∀ b,b ≠ p->H' b=H b
theorem Oth.refl (p:Addr) (H:Hp):Oth p H H:=fun _ _=>rfl
theorem Oth.trans {p:Addr} {H H1 H2:Hp} (a:Oth p H H1) (b:Oth p H1 H2):Oth p H H2:=fun c n=>(b c n).trans (a c n)
theorem Oth.upd {p:Addr} {H H1:Hp} (a:Oth p H H1) {o:HO}:Oth p H (L2.upd H1 p o):=fun c n=>by rw [upd_ne n]; exact a c n
theorem Oth.kp {p:Addr} {H H1:Hp} (a:Oth p H H1):Kp p H H1:=fun c o h n=>by rw [a c n]; exact h
noncomputable def spTake:Sp:=fun vs H Q _=>∃ (p:Addr) (m:Int),vs=[.ref p,.int m] /\ 0 < m /\ m < 18446744073709551616 /\ BoxAt H p /\
 ∀ (r:Int) (H':Hp),0 <= r->r < m->BoxAt H' p->Oth p H H'->Q (.int r) H'
noncomputable def spBox:Sp:=fun vs H Q _=>∃ c:Int,vs=[.int c] /\ ∀ p H',H p=none->BoxAt H' p->Oth p H H'->Q (.ref p) H'
noncomputable def spCell (K:PySem.W.Frag):Sp:=fun vs H Q _=>∃ (a:Addr) (k:Int) (ns:List Int),vs=[.ref a,.int k] /\ SqL K H a (ns.map V.int) /\ 0 <= k /\ ∀ z:Int,Q (.int z) H
noncomputable def spWorth:Sp:=fun vs H Q _=>∃ (t:Addr) (c e f:Int),vs=[.ref t,.int f] /\ H t=some (.tup [.int c,.int e]) /\ e <= f /\ Q (.int (c / 2 ^ (f - e).toNat)) H
end L2
namespace L2
open PySem PySem.Spec PyProof.Rows
section
variable {prog:Program} {w:World} {A:Around} {R:Result->Shared->Prop} {s:Shared}
theorem compLoop_go {elt target iter:Expr} {ifs:List Expr} {scope:Scope} {pos:Pos} {it acc:Value} {env:Env} (I:Nat->Shared->Prop)
   (turn:∀ n s,I n s->wpAny (model prog w) A (pyNext it) (fun r s₁=>match r with
     | none=>R (.ok .next) s₁
     | some v=>wpAny (model prog w) A (letOwnedTupleGo target it v) (fun _ s₁'=>wpAny (model prog w) A (assign target env v) (fun _ s₂ =>
         wpAny (model prog w) A (forIn ifs true fun c r=>if r=true then do let ok <- isTrue c env (eval c env); pure (ForInStep.yield ok) else pure (ForInStep.yield r)) (fun ok s₃ =>
           if ok=true then wpAny (model prog w) A (eval elt env) (fun x s₄ =>
             wpAny (model prog w) A (call (.builtin "list.append") [acc,x]) (fun _ s₅=>∃ m,m < n /\ I m s₅) (fun _ _=>False) s₄) (fun _ _=>False) s₃
           else ∃ m,m < n /\ I m s₃) (fun _ _=>False) s₂) (fun _ _=>False) s₁') (fun _ _=>False) s₁) (fun _ _=>False) s)
   (n:Nat) (h:I n s) :
   codeAny (model prog w) A (.compLoop (.ListComp elt [⟨target,iter,ifs,0⟩] scope pos) 0 it acc env) R s:=by
 refine codeAny_loop rfl I (fun n s hI=>?_) n h
 show wpAny _ A ((compTurn (.ListComp elt [⟨target,iter,ifs,0⟩] scope pos) 0 it acc env).onRaise (fun x=>do noteFrame x env; theTreesLotGoes x)) _ _ s
 refine wpAny_noted ?_
 rw [compTurn_list]
 refine wpAny_bind (wpAny_standAt (wpAny_bind (wpAny_mono (turn n s hI) (fun r s₁ h₁=>?_) fun _ _ h'=>h'.elim)))
 cases r with
 | none=>exact wpAny_pure h₁
 | some v =>
   refine wpAny_bind (wpAny_mono h₁ (fun _ s₁' h₁'=>?_) fun _ _ h'=>h'.elim)
   refine wpAny_bind (wpAny_mono h₁' (fun _ s₂ h₂=>wpAny_bind (wpAny_mono h₂ (fun ok s₃ h₃=>?_) fun _ _ h'=>h'.elim)) fun _ _ h'=>h'.elim)
   cases ok with
   | false=>exact wpAny_pure ⟨rfl,h₃⟩
   | true =>
     exact wpAny_bind (wpAny_bind (wpAny_mono h₃ (fun x s₄ h₄=>wpAny_bind (wpAny_mono h₄ (fun _ s₅ h₅=>wpAny_pure (wpAny_pure ⟨rfl,h₅⟩)) fun _ _ h'=>h'.elim)) fun _ _ h'=>h'.elim))
end
noncomputable def clGo (cells:List (Str × Addr)):List (Str × NameKind)->List (Str × Addr)->List (Str × Addr)
 | [],cs=>cs
 | (n,k) :: r,cs=>clGo cells r (if k == .free then (match cells.lookup n with | some a=>(n,a) :: cs | none=>cs) else cs)
noncomputable def clOf (scope:Scope) (env:Env):List (Str × Addr):=clGo env.cells scope.names []
theorem clos_go (env:Env):∀ (ns:List (Str × NameKind)) (cs:List (Str × Addr)),(∀ y ∈ ns,y.2=.free->∃ a,env.cells.lookup y.1=some a) ->
   (forIn ns cs fun (x:Str × NameKind) (r:List (Str × Addr))=>(if (x.2 == NameKind.free)=true then (do let a <- cellOf env x.1; pure (ForInStep.yield ((x.1,a) :: r))) else pure (ForInStep.yield r):Sem (ForInStep (List (Str × Addr)))))=(pure (clGo env.cells ns cs):Sem (List (Str × Addr)))
 | [],cs,_=>rfl
 | (n,k) :: r,cs,h=>by
   rw [List.forIn_cons]
   have ih:=fun cs'=>clos_go env r cs' fun y hy=>h y (List.mem_cons_of_mem _ hy)
   by_cases hk:(k == NameKind.free)=true
   . obtain ⟨a,ha⟩:=h (n,k) List.mem_cons_self (by simpa using hk)
     have ha':env.cells.lookup n=some a:=ha
     have e:cellOf env n=pure a:=by unfold cellOf; rw [ha']
     simp only [hk,if_true,e,pure_bind]
     rw [ih]
     show _=pure (clGo env.cells r (if k == .free then (match env.cells.lookup n with | some a=>(n,a) :: cs | none=>cs) else cs))
     rw [hk,ha']
     rfl
   . have hk':(k == NameKind.free)=false:=by simpa using hk
     simp only [hk',Bool.false_eq_true,if_false,pure_bind]
     rw [ih]
     show _=pure (clGo env.cells r (if k == .free then (match env.cells.lookup n with | some a=>(n,a) :: cs | none=>cs) else cs))
     rw [hk']
     rfl
theorem clos_of {scope:Scope} {env:Env} (h:∀ y ∈ scope.names,y.2=.free->∃ a,env.cells.lookup y.1=some a):closureFor scope env=pure (clOf scope env):=by
 have e:=clos_go env scope.names [] h
 unfold closureFor clOf
 show (forIn scope.names ([]:List (Str × Addr)) _ >>= fun cs=>pure cs)=_
 rw [bind_pure]
 exact e
theorem clGo_sub (cells:List (Str × Addr)) {x:Str} {c:Addr}:∀ (ns:List (Str × NameKind)) (cs:List (Str × Addr)),(∀ c,cs.lookup x=some c->cells.lookup x=some c)->(clGo cells ns cs).lookup x=some c->cells.lookup x=some c
 | [],cs,h,e=>h c e
 | (n,k) :: r,cs,h,e=>by
   refine clGo_sub cells r _ (fun c' e'=>?_) e
   by_cases hk:(k == NameKind.free)=true
   . rw [if_pos hk] at e'
     cases ha:cells.lookup n with
     | none=>rw [ha] at e'; exact h c' e'
     | some a =>
       rw [ha] at e'
       by_cases hx:x == n
       . have hx':x=n:=by simpa using hx
         subst hx'
         simp only [List.lookup_cons,beq_self_eq_true] at e'
         rw [<- e']; exact ha
       . have hx':(x == n)=false:=by simpa using hx
         simp only [List.lookup_cons,hx'] at e'
         exact h c' e'
   . rw [if_neg hk] at e'
     exact h c' e'
theorem clGo_keep (cells:List (Str × Addr)) {x:Str} {a:Addr} (ha:cells.lookup x=some a):∀ (ns:List (Str × NameKind)) (cs:List (Str × Addr)),(cs.lookup x=some a \/ ns.lookup x=some .free)->(∀ c,cs.lookup x=some c->c=a)->(clGo cells ns cs).lookup x=some a
 | [],cs,h,_=>by
   rcases h with h | h
   . exact h
   . simp at h
 | (n,k) :: r,cs,h,hu=>by
   have step:(if k == .free then (match cells.lookup n with | some a=>(n,a) :: cs | none=>cs) else cs)=cs \/ ∃ b,k=.free /\ cells.lookup n=some b /\ (if k == .free then (match cells.lookup n with | some a=>(n,a) :: cs | none=>cs) else cs)=(n,b) :: cs:=by
     by_cases hk:(k == NameKind.free)=true
     . rw [if_pos hk]
       cases hb:cells.lookup n with
       | none=>exact .inl rfl
       | some b=>exact .inr ⟨b,by simpa using hk,rfl,rfl⟩
     . exact .inl (by rw [if_neg hk])
   show (clGo cells r _).lookup x=some a
   by_cases hx:x=n
   . subst hx
     rcases step with e | ⟨b,hk,hb,e⟩
     . rw [e]
       refine clGo_keep cells ha r cs ?_ hu
       rcases h with h | h
       . exact .inl h
       . simp only [List.lookup_cons,beq_self_eq_true] at h
         injection h with h
         subst h
         rw [if_pos (by decide),ha] at e
         have:(x,a) :: cs=cs:=e
         exact absurd (congrArg List.length this) (by simp)
     . rw [e]
       rw [ha] at hb
       injection hb with hb
       subst hb
       refine clGo_keep cells ha r _ (.inl (by simp)) fun c hc=>?_
       simp at hc
       exact hc.symm
   . have hxb:(x == n)=false:=by simpa using hx
     rcases step with e | ⟨b,hk,hb,e⟩
     . rw [e]
       refine clGo_keep cells ha r cs ?_ hu
       rcases h with h | h
       . exact .inl h
       . simp only [List.lookup_cons,hxb] at h
         exact .inr h
     . rw [e]
       refine clGo_keep cells ha r _ ?_ fun c hc=>?_
       . rcases h with h | h
         . exact .inl (by simp only [List.lookup_cons,hxb]; exact h)
         . simp only [List.lookup_cons,hxb] at h
           exact .inr h
       . simp only [List.lookup_cons,hxb] at hc
         exact hu c hc
noncomputable def compOk (sc scope:Scope):Bool:=(scope.kind == .function) && scope.names.all fun y=>(y.2 != .cell) && ((y.2 != .local) || (scope.names.lookup y.1 == some .local)) &&
 ((y.2 != .free) || ((scope.names.lookup y.1 == some .free) && ((sc.names.lookup y.1 == some .cell) || (sc.names.lookup y.1 == some .free))))
noncomputable def capOk (N Nc:List Str) (scope:Scope) (n:Nat) (caps:List Nat):Bool:=(n + caps.length == Nc.length) && (List.range caps.length).all fun j=>(Nc[n + j]? == (caps[j]?).bind fun i=>N[i]?) && ((Nc[n + j]?).bind (fun y=>scope.names.lookup y) == some NameKind.free)
noncomputable def compSt (n:Nat) (caps:List Nat) (σ:St):St:=List.replicate n none ++ caps.map fun i=>(σ[i]?).join
noncomputable def Cx.comp (X:Cx) (scope:Scope) (Nc:List Str) (C:Addr) (s₀:Shared) (H₀:Hp) (ex:List Addr):Cx :=
 { X with N:=Nc,s₀:=s₀,H₀:=H₀,env:=compEnvC scope (clOf scope X.env) C X.env,outer:=X.stack,ex:=ex,fn:=fun _=>false,pn:=[],xe:=fun _ _=>False }
theorem relabel_free {env:Env}:∀ {names:List (Str × NameKind)} {x:Str},names.lookup x=some .free ->
   (names.map fun (n,k)=>if (k == NameKind.free && env.scope.kind == .function && env.kindOf n == some .cell) then (n,NameKind.cell) else (n,k)).lookup x=some .cell \/
   (names.map fun (n,k)=>if (k == NameKind.free && env.scope.kind == .function && env.kindOf n == some .cell) then (n,NameKind.cell) else (n,k)).lookup x=some .free
 | [],_,h=>by simp at h
 | (n,k) :: r,x,h=>by
   have ih:=@relabel_free env r x
   show List.lookup x ((if (k == NameKind.free && env.scope.kind == .function && env.kindOf n == some .cell)=true then (n,NameKind.cell) else (n,k)) :: _)=_ \/ List.lookup x ((if (k == NameKind.free && env.scope.kind == .function && env.kindOf n == some .cell)=true then (n,NameKind.cell) else (n,k)) :: _)=_
   cases hx:x == n with
   | true =>
     simp only [List.lookup_cons,hx] at h
     cases h
     by_cases hc:(NameKind.free == NameKind.free && env.scope.kind == .function && env.kindOf n == some .cell)=true
     . rw [if_pos hc]; simp [List.lookup_cons,hx]
     . rw [if_neg hc]; simp [List.lookup_cons,hx]
   | false =>
     simp only [List.lookup_cons,hx] at h
     by_cases hc:(k == NameKind.free && env.scope.kind == .function && env.kindOf n == some .cell)=true
     . rw [if_pos hc]; simp only [List.lookup_cons,hx]; exact ih h
     . rw [if_neg hc]; simp only [List.lookup_cons,hx]; exact ih h
theorem relabel_back {env:Env}:∀ {names:List (Str × NameKind)} {x:Str},(∀ y ∈ names,y.2 ≠ .cell) ->
   ((names.map fun (n,k)=>if (k == NameKind.free && env.scope.kind == .function && env.kindOf n == some .cell) then (n,NameKind.cell) else (n,k)).lookup x=some .cell \/
   (names.map fun (n,k)=>if (k == NameKind.free && env.scope.kind == .function && env.kindOf n == some .cell) then (n,NameKind.cell) else (n,k)).lookup x=some .free)->names.lookup x=some .free
 | [],_,_,h=>by simp at h
 | (n,k) :: r,x,hc,h=>by
   have ih:=@relabel_back env r x fun y hy=>hc y (List.mem_cons_of_mem _ hy)
   have hk:k ≠ .cell:=hc (n,k) List.mem_cons_self
   have h':List.lookup x ((if (k == NameKind.free && env.scope.kind == .function && env.kindOf n == some .cell)=true then (n,NameKind.cell) else (n,k)) :: _)=some NameKind.cell \/ List.lookup x ((if (k == NameKind.free && env.scope.kind == .function && env.kindOf n == some .cell)=true then (n,NameKind.cell) else (n,k)) :: _)=some NameKind.free:=h
   cases hx:x == n with
   | true =>
     simp only [List.lookup_cons,hx]
     by_cases hq:(k == NameKind.free && env.scope.kind == .function && env.kindOf n == some .cell)=true
     . have:k=.free:=by
         simp only [Bool.and_eq_true] at hq
         simpa using hq.1.1
       rw [this]
     . rw [if_neg hq] at h'
       simp only [List.lookup_cons,hx] at h'
       rcases h' with h' | h'
       . injection h' with h'; exact absurd h' hk
       . exact h'
   | false =>
     simp only [List.lookup_cons,hx]
     by_cases hq:(k == NameKind.free && env.scope.kind == .function && env.kindOf n == some .cell)=true
     . rw [if_pos hq] at h'
       simp only [List.lookup_cons,hx] at h'
       exact ih h'
     . rw [if_neg hq] at h'
       simp only [List.lookup_cons,hx] at h'
       exact ih h'
structure CompSc (X:Cx) (scope:Scope):Prop where
 kind:scope.kind=.function
 nocell:∀ y ∈ scope.names,y.2 ≠ .cell
 loc:∀ y ∈ scope.names,y.2=.local->scope.names.lookup y.1=some .local
 fr:∀ x,scope.names.lookup x=some .free->X.env.kindOf x=some .cell \/ X.env.kindOf x=some .free
 fr2:∀ y ∈ scope.names,y.2=.free->X.env.kindOf y.1=some .cell \/ X.env.kindOf y.1=some .free
theorem mem_of_lookup {α β:Type} [BEq α] [LawfulBEq α]:∀ {l:List (α × β)} {x:α} {b:β},l.lookup x=some b->(x,b) ∈ l
 | [],_,_,h=>by simp at h
 | (n,k) :: r,x,b,h=>by
   cases hx:x == n with
   | true =>
     simp only [List.lookup_cons,hx] at h
     injection h with h
     have:x=n:=by simpa using hx
     subst this; subst h
     exact List.mem_cons_self
   | false =>
     simp only [List.lookup_cons,hx] at h
     exact List.mem_cons_of_mem _ (mem_of_lookup h)
theorem compSc_of {X:Cx} {scope:Scope} (h:compOk X.env.scope scope=true):CompSc X scope:=by
 unfold compOk at h
 rw [Bool.and_eq_true] at h
 obtain ⟨h1,h2⟩:=h
 rw [List.all_eq_true] at h2
 have h3:∀ y ∈ scope.names,y.2=.free->X.env.kindOf y.1=some .cell \/ X.env.kindOf y.1=some .free:=fun y hy e=>by
   have q:=h2 y hy
   simp only [Bool.and_eq_true,e,bne_self_eq_false,Bool.false_or,Bool.or_eq_true,beq_iff_eq] at q
   exact q.2.2
 refine ⟨by simpa using h1,fun y hy e=>?_,fun y hy e=>?_,fun x e=>h3 _ (mem_of_lookup e) rfl,h3⟩
 . have q:=h2 y hy
   simp [e] at q
 . have q:=h2 y hy
   simp only [Bool.and_eq_true,e,bne_self_eq_false,Bool.false_or,beq_iff_eq] at q
   exact q.1.2
end L2
namespace L2
open PySem PySem.Spec PyProof.Rows
section
variable {X:Cx} {pins:List (Addr × Obj)} {σ:St} {H:Hp} {s:Shared} {scope:Scope} {Nc:List Str} {fp:List Addr} {C:Addr}
theorem cl_sub {env:Env} {x:Str} {c:Addr} (h:(clOf scope env).lookup x=some c):env.cells.lookup x=some c :=
 clGo_sub env.cells scope.names [] (fun c e=>by simp at e) h
theorem cl_keep {env:Env} {x:Str} {c:Addr} (h:env.cells.lookup x=some c) (hf:scope.names.lookup x=some .free):(clOf scope env).lookup x=some c :=
 clGo_keep env.cells h scope.names [] (.inr hf) (fun c e=>by simp at e)
theorem CompSc.clos (S:CompSc X scope) (ok:X.Ok):closureFor scope X.env=pure (clOf scope X.env) :=
 clos_of fun y hy e=>ok.has y.1 (S.fr2 y hy e)
theorem comp_ok (I:Inv X pins σ H s) (S:CompSc X scope) (hf:∀ b ∈ fp,FpOk X pins H b) (hC:s.heap.objs.size <= C) (hCf:C ∉ fp):(X.comp scope Nc C s H fp).Ok where
 mod:=I.ok.mod
 kind:=S.kind
 glob:=I.ok.glob
 blt:=I.ok.blt
 above:=hC
 inj:=fun x y c h1 h2=>I.ok.inj x y c (cl_sub h1) (cl_sub h2)
 has:=fun x h=>by
   have e:scope.names.lookup x=some .free:=relabel_back S.nocell h
   obtain ⟨c,hc⟩:=I.ok.has x (S.fr x e)
   exact ⟨c,cl_keep hc e⟩
 cab:=fun x c h=>by cases h
 hd:=I.ok.hd
 frames:=I.ok.frames
 stk:=.inl rfl
 exf:=fun b hb=>⟨fun e=>hCf ((show b=C from e) ▸ (show b ∈ fp from hb)),fun x c h=>(hf b hb).2.2.2.2.1 x c (cl_sub h)⟩
 bs:=I.bs
 bsz:=Nat.le_trans I.ok.bsz I.sz
 noex:=fun b o e hb=>by
   rcases (hf b hb).2.2.2.1 with z | z
   . exact I.ok.noex b o e z
   . exact absurd (Nat.lt_of_lt_of_le (Heap.lt_size e) (Nat.le_trans I.ok.bsz z)) (Nat.lt_irrefl _)
 exfs:=fun b hb hs=>by
   rcases List.mem_cons.mp (I.stkSub b hs) with z | z
   . exact (hf b hb).2.1 z
   . exact (hf b hb).2.2.1 z
 funs:=I.stack
 frf:=I.stkFree
theorem comp_start {n:Nat} {caps:List Nat} {h₁:Heap} {tk:Nat} (I:Inv X pins σ H s) (S:CompSc X scope) (hcp:capOk X.N Nc scope n caps=true) (hf:∀ b ∈ fp,FpOk X pins H b) (hlt:∀ b ∈ fp,b < s.heap.objs.size)
   (hns:h₁.Ns (s.heap.objs.size + 1) fun _=>none) (old:∀ b o,s.heap.get? b=some o->h₁.get? b=some o) (hD:h₁.get? s.heap.objs.size=some { cls:=.type "list",data:=.seq #[] 0 }) :
   Inv (X.comp scope Nc (s.heap.objs.size + 1) s H fp) [] (compSt n caps σ) (upd H s.heap.objs.size (.lst [])) { s with heap:=h₁,toks:=tk }:=by
 have hCf:s.heap.objs.size + 1 ∉ fp:=fun z=>Nat.not_succ_lt_self (hlt _ z)
 unfold capOk at hcp
 rw [Bool.and_eq_true,List.all_eq_true] at hcp
 obtain ⟨hl,hc⟩:=hcp
 have hl':n + caps.length=Nc.length:=by simpa using hl
 refine ⟨comp_ok I S hf (Nat.le_succ _) hCf,rfl,I.bare,Un.laid old (Nat.le_refl _) I.fresh,⟨_,hns,?_⟩,?_,?_,?_,?_,I.hok.laid old (Nat.le_refl _) ⟨Nat.zero_le _,[],0,.nil,hD⟩,?_⟩
 . intro i x v hN hv _
   have hi:n <= i:=by
     rcases Nat.lt_or_ge i n with z | z
     . exfalso
       have hv':(List.replicate n (none:Option V) ++ caps.map fun i=>(σ[i]?).join)[i]?=some (some v):=hv
       rw [List.getElem?_append_left (by simpa using z)] at hv'
       simp [z] at hv'
     . exact z
   obtain ⟨j,rfl⟩:∃ j,i=n + j:=⟨i - n,by omega⟩
   have hv':(List.replicate n (none:Option V) ++ caps.map fun i=>(σ[i]?).join)[n + j]?=some (some v):=hv
   rw [List.getElem?_append_right (by simp)] at hv'
   have e1:n + j - (List.replicate n (none:Option V)).length=j:=by simp
   rw [e1,List.getElem?_map] at hv'
   cases ec:caps[j]? with
   | none=>rw [ec] at hv'; cases hv'
   | some i0 =>
     rw [ec] at hv'
     have hv2:(σ[i0]?).join=some v:=by simpa using hv'
     have hv3:σ[i0]?=some (some v):=by
       cases es:σ[i0]? with
       | none=>rw [es] at hv2; cases hv2
       | some o=>rw [es] at hv2; simp at hv2; rw [hv2]
     have hj:j < caps.length:=(List.getElem?_eq_some_iff.mp ec).1
     have q:=hc j (List.mem_range.mpr hj)
     have hN':Nc[n + j]?=some x:=hN
     rw [Bool.and_eq_true,hN',ec] at q
     obtain ⟨q1,q2⟩:=q
     have q1':X.N[i0]?=some x:=by simpa using (beq_iff_eq.mp q1).symm
     have q2':scope.names.lookup x=some .free:=by simpa using q2
     obtain ⟨m,_,hm⟩:=I.loc
     have hk:=S.fr x q2'
     obtain ⟨u,ru,lk⟩:=hm i0 x v q1' hv3 (.inr hk)
     refine ⟨u,ru,?_⟩
     rcases lk with ⟨kl,_⟩ | ⟨_,c,hcl,ic⟩
     . rcases hk with z | z
       . rw [kl] at z; cases z
       . rw [kl] at z; cases z
     . exact .inr ⟨relabel_free q2',c,cl_keep hcl q2',ic.keeps old⟩
 . intro x c h
   obtain ⟨v,ic⟩:=I.cell x c (cl_sub h)
   exact ⟨v,ic.keeps old⟩
 . show upd H s.heap.objs.size (.lst []) (s.heap.objs.size + 1)=none
   rw [upd_ne (Nat.succ_ne_self _)]
   exact I.hok.fresh (Nat.le_succ _)
 . intro x c h
   obtain ⟨v,ic⟩:=I.cell x c (cl_sub h)
   rw [upd_ne (Nat.ne_of_lt ic.lt)]
   exact I.freeC x c (cl_sub h)
 . intro p hp
   exact absurd (show p ∈ ([]:List (Addr × Obj)) from hp) (by simp)
 . show (List.replicate n (none:Option V) ++ caps.map fun i=>(σ[i]?).join).length=Nc.length
   rw [List.length_append,List.length_replicate,List.length_map]
   exact hl'
theorem comp_back {pins':List (Addr × Obj)} {σ':St} {H':Hp} {s':Shared} (I:Inv X pins σ H s) (hf:∀ b ∈ fp,FpOk X pins H b) (J:Inv (X.comp scope Nc C s H fp) pins' σ' H' s'):Inv X pins σ H' s' :=
 I.call' J.os J.base J.hok J.bare fun b hb=>⟨(hf b hb).2.2.2.1,(hf b hb).2.1,(hf b hb).2.2.2.2.1,(hf b hb).2.2.2.2.2⟩
theorem Inv.but {h':Heap} (I:Inv X pins σ H s) (hs:Heap.SameBut C s.heap h') (hn:H C=none) (h0:X.s₀.heap.objs.size <= C) (hl:C ≠ X.env.locals) (hc:∀ x c,X.env.cells.lookup x=some c->c ≠ C)
   (hp:∀ p ∈ X.pn ++ pins,p.1 ≠ C):Inv X pins σ H { s with heap:=h' }:=by
 refine I.call' (s':={ s with heap:=h' }) (ch:=[C]) rfl ⟨fun b o e _ _ hb=>hs.extBut b o (by simpa using hb) e,fun b o e _ _ hb=>⟨o.slots,hs.extBut b o (by simpa using hb) e⟩,fun b o _ n _=>n,fun b o e hb=>⟨o,hs.extBut b o (by simpa using hb) e⟩,
   fun _ _ z=>z,fun _ _ _ z=>z,fun b ps z=>⟨#[],by simpa using z⟩⟩ (fun a o e=>?_) I.bare ?_
 . refine (I.hok a o e).stay (fun b u hb q=>hs.extBut b u ?_ q) (fun _ z=>z) fun _ _ z=>z
   rcases hb with rfl | hb
   . exact fun z=>by rw [z,hn] at e; cases e
   . exact fun z=>by rw [z,hn] at hb; cases hb
 . intro b hb
   obtain rfl:b=C:=by simpa using hb
   exact ⟨.inr h0,hl,hc,hp⟩
noncomputable def PTs (X:Cx) (ifs:List Expr) (t:TT):Prop :=
 ∀ (pins:List (Addr × Obj)) (s:Shared) (σ:St) (H:Hp) (Q:Bool->Hp->Prop),Inv X pins σ H s->t σ H Q ->
   wpAny (model X.prog X.w) X.A (forIn ifs true fun c r=>if r=true then do let ok <- isTrue c X.env (eval c X.env); pure (ForInStep.yield ok) else pure (ForInStep.yield r)) (TP X pins σ Q) X.xe s
noncomputable def tTrue:TT:=fun _ H Q=>Q true H
theorem pts_nil:PTs X [] tTrue:=fun _ _ _ H _ I h=>wpAny_tests_nil ⟨H,I,h⟩
theorem pts_one {c:Expr} {t:TT} (h:PT X c t):PTs X [c] t:=fun pins s σ H Q I hw=>wpAny_tests_one (h pins s σ H Q I hw)
variable {elt iter target:Expr} {ifs:List Expr} {pos:Pos} {n:Nat} {caps:List Nat} {wi:TI} {g:TG} {tt:TT} {te:TE}
end
section
variable {X:Cx} {K:PySem.W.Frag}
theorem pg_tupK {es:List Expr} {k:Nat} {pos:Pos} {t:TGs} {n:Nat} (hK:X.K=K) (hc:X.calm=true) (h:PGs X es t)
   (hn:(assignEach es X.env).length=n:=by rfl) (hst:(assignEach es X.env).findIdx? (·.1)=none:=by rfl):PG X (.Tuple es k pos) (gTup K n t):=by subst hK; exact pg_tup hc h hn hst
end
section
variable {K:PySem.W.Frag} {a D:Addr} {xs:List V} {n:Nat} {caps:List Nat} {g:TG} {tt:TT} {te:TE} {σ:St} {H1:Hp} {Q:Hp->Prop}
end
end L2
namespace L2
open PySem PySem.Spec PyProof.Rows
mutual
inductive DatV (K:PySem.W.Frag) (H:Hp):V->PyData->Prop
 | non:DatV K H .non .none
 | bl (b:Bool):DatV K H (.bl b) (.bool b)
 | int (i:Int):DatV K H (.int i) (.int i)
 | str (x:Str):DatV K H (.str x) (.str x)
 | lst {a:Addr} {xs:List V} {ds:List PyData}:SqL K H a xs->DatVs K H xs ds->DatV K H (.ref a) (.list ds)
 | tup {a:Addr} {xs:List V} {ds:List PyData}:SqT K H a xs->DatVs K H xs ds->DatV K H (.ref a) (.tuple ds)
inductive DatVs (K:PySem.W.Frag) (H:Hp):List V->List PyData->Prop
 | nil:DatVs K H [] []
 | cons {x:V} {xs:List V} {d:PyData} {ds:List PyData}:DatV K H x d->DatVs K H xs ds->DatVs K H (x :: xs) (d :: ds)
end
section
variable {X:Cx} {pins:List (Addr × Obj)} {σ:St} {H:Hp} {s:Shared}
mutual
theorem reads_of (I:Inv X pins σ H s):∀ {v:V} {d:PyData} {u:Value},DatV X.K H v d->RelV v u->∃ as,Reads s.heap u d as
 | _,_,_,.non,r=>by cases (show _=Value.none from r); exact ⟨_,.none⟩
 | _,_,_,.bl b,r=>by cases (show _=Value.bool b from r); exact ⟨_,.bool b⟩
 | _,_,_,.int i,r=>by obtain ⟨t,rfl⟩:=r; exact ⟨_,.int i t⟩
 | _,_,_,.str x,r=>by obtain ⟨t,rfl⟩:=r; exact ⟨_,.str x t⟩
 | _,_,_,.lst (a:=a) hq hs,r=>by
   cases (show _=Value.ref a from r)
   obtain ⟨its,rv,pl,_⟩:=I.list hq
   obtain ⟨o,n,e,c,_,dd⟩:=pl
   obtain ⟨as,ra⟩:=readsAll_of I hs rv
   exact ⟨_,.list e c dd (by simpa using ra)⟩
 | _,_,_,.tup (a:=a) hq hs,r=>by
   cases (show _=Value.ref a from r)
   obtain ⟨its,rv,pl,_⟩:=I.tuple hq
   obtain ⟨o,e,c,n,dd⟩:=pl
   obtain ⟨as,ra⟩:=readsAll_of I hs rv
   exact ⟨_,.tuple e c dd (by simpa using ra)⟩
theorem readsAll_of (I:Inv X pins σ H s):∀ {xs:List V} {ds:List PyData} {us:List Value},DatVs X.K H xs ds->Vals xs us->∃ as,ReadsAll s.heap us ds as
 | _,_,_,.nil,.nil=>⟨_,.nil⟩
 | _,_,_,.cons h hs,.cons r rs=>by
   obtain ⟨as,ra⟩:=reads_of I h r
   obtain ⟨bs,rb⟩:=readsAll_of I hs rs
   exact ⟨_,.cons ra rb⟩
end
noncomputable def rEqD (K:PySem.W.Frag) (neg:Bool):R2:=fun x y H Q=>∃ dx dy,DatV K H x dx /\ DatV K H y dy /\ dx.canLay0=true /\ dy.canLay0=true /\ min dx.depth dy.depth <= 64 /\ Q (.bl (neg ^^ PyData.eqv dx dy)) H
theorem op_eqD (hu:X.A.units + 64 < cLine):OpR X (compareOp .Eq) (rEqD X.K false):=by
 intro pins s σ H x y v u Q I rx ry h
 obtain ⟨dx,dy,h1,h2,c1,c2,hd,q⟩:=h
 obtain ⟨as,ra⟩:=reads_of I h1 rx
 obtain ⟨bs,rb⟩:=reads_of I h2 ry
 exact PySem.SeqAt.compareEq_reads ra rb c1 c2 (by omega) ⟨.bl (PyData.eqv dx dy),H,I,rfl,by simpa using q⟩
theorem op_neD (hu:X.A.units + 64 < cLine):OpR X (compareOp .NotEq) (rEqD X.K true):=by
 intro pins s σ H x y v u Q I rx ry h
 obtain ⟨dx,dy,h1,h2,c1,c2,hd,q⟩:=h
 obtain ⟨as,ra⟩:=reads_of I h1 rx
 obtain ⟨bs,rb⟩:=reads_of I h2 ry
 exact PySem.SeqAt.compareNe_reads ra rb c1 c2 (by omega) ⟨.bl (!PyData.eqv dx dy),H,I,rfl,by simpa using q⟩
end
section
variable {prog:Program} {w:World} {A:Around} {R:Result->Shared->Prop} {I:Addr} {fp wr:List Addr} {n:Nat} {P:Nat->Value->Prop} {St:Nat->Heap->Prop}
theorem call_tree_kw {E:Value->Shared->Prop} {s:Shared} {id:String} {b:Builtin} {args:List Value} {kw:List (Str × Value)} {Q:Value->Shared->Prop} (hk:builtinKind id=none) (hp:plainId id=true)
   (hb:entryFor table id=some b) (ha:argsOk id ⟨args,kw⟩)
   (hc:wpAny (model prog w) A.in1 (b ⟨args,kw⟩) (fun fin s'=>match fin with
     | .done f=>(match (Except.ok f:Result) with | .ok (.ret v)=>Q v s' | .ok _=>False | .error e=>E e s')
     | .again c'=>c'.quiet=true /\ codeAny (model prog w) A c' (fun r s'=>match r with | .ok (.ret v)=>Q v s' | .ok _=>False | .error e=>E e s') s') E s) :
   wpAny (model prog w) A (call (.builtin id) args kw) Q E s:=by
 refine wpAny_call (codeAny_call_builtin hp hb ?_)
 simp only [checkBuiltinCall,hk]
 cases hsig:Manifest.signature? id with
 | none=>exact wpAny_pure hc
 | some sig =>
   simp only [argsOk,hsig] at ha
   have h2:Bind.checkArgs id sig ⟨args,kw⟩=pure ():=ha
   show wpAny _ A.in1 (Bind.checkArgs id sig ⟨args,kw⟩) _ _ s
   rw [h2]; exact wpAny_pure hc
end
theorem getD_at {α:Type} {l:List α} {i:Nat} {d:α} (h:i < l.length):l.getD i d=l[i]:=by simp [h]
theorem not_new {s:Shared} {b:Addr} {o:Obj} (e:s.heap.get? b=some o):b ∉ [s.heap.objs.size]:=fun z=>by
 have h:=Heap.lt_size e
 rw [List.mem_singleton.mp z] at h
 exact Nat.lt_irrefl _ h
section
variable {X:Cx}
end
end L2
namespace L2
open PySem PySem.Spec PyProof.Rows
noncomputable def Its (x:Str):It:=⟨fun i _=>i < x.cps.toList.length,fun i H v H'=>H'=H /\ ∃ c,x.cps.toList[i]?=some c /\ v=.str ⟨#[c]⟩,fun i _=>x.cps.toList.length <= i⟩
theorem turn_str {P:Program} {w:World} {K:PySem.W.Frag} {tg:Expr} (it:Addr) (x:Str) (t:Tok) (ty:String) (hty:ty="str_ascii_iterator" \/ ty="str_iterator"):Turn P w K tg (Its x) [it] it (fun i h=>h.IsStrIter it ty x t i) where
 mem:=by simp
 obj:=fun i h st b hb=>by
   have e:b=it:=by simpa using hb
   subst e
   obtain ⟨o,e,c,d⟩:=st
   exact ⟨o,e,fun v z=>by rw [d] at z; cases z⟩
 keep:=fun i h h' st k=>let ⟨o,ho,r⟩:=st; ⟨o,k it (by simp) o ho,r⟩
 item:=by
   intro X hP hw hK hc i pins s σ H E I hf st hg
   subst hP hw hK
   obtain ⟨f0,f1,f2,f3,f4,f5⟩:=hf it (by simp)
   have hi:i < x.cps.size:=by simpa [Its] using hg
   have hx:x.cps[i]?=some x.cps[i]:=by simp [hi]
   have fin:∀ h',h'.IsStrIter it ty x t (i + 1)->Heap.SameBut it s.heap h'->(∃ u,some (Value.str ⟨#[x.cps[i]]⟩ s.toks)=some u /\
       wpAny (model X.prog X.w) X.A (letOwnedTupleGo tg (.ref it) u) (fun _ s2=>∃ y H',Inv X pins σ H' s2 /\ RelV y u /\ (Its x).yld i H y H' /\ s2.heap.IsStrIter it ty x t (i + 1) /\ ∀ b ∈ [it],H' b=none) E { s with heap:=h',toks:=s.toks + 1 }):=fun h' st' sb=>by
     have I1:Inv X pins σ H { s with heap:=h',toks:=s.toks + 1 }:=I.turned (fun b o hb e=>(sb.2 b hb).trans e) f0 f1 f3 f4 f5
     obtain ⟨o,e,c,d⟩:=id st'
     refine ⟨_,rfl,go_of (s:={ s with heap:=h',toks:=s.toks + 1 }) (n:=ty) e c d (by rcases hty with rfl | rfl <;> decide) ⟨.str ⟨#[x.cps[i]]⟩,H,I1,⟨_,rfl⟩,⟨rfl,x.cps[i],by simp [hi],rfl⟩,st',fun b hb=>(hf b hb).1⟩⟩
   rcases hty with rfl | rfl
   . exact wpAny_pyNext_ascii_item st hx fun h' st' sb=>fin h' st' sb
   . exact wpAny_pyNext_wide_item st hx fun h' st' sb=>fin h' st' sb
 done:=by
   intro X hP hw hK hc i pins s σ H E I hf st hg
   subst hP hw hK
   obtain ⟨f0,f1,f2,f3,f4,f5⟩:=hf it (by simp)
   have hi:x.cps.size <= i:=by simpa [Its] using hg
   have hx:x.cps[i]?=none:=by simp [hi]
   rcases hty with rfl | rfl
   . exact wpAny_pyNext_ascii_end (I.ok.hd hc) st hx fun h' eb=>⟨rfl,I.turned (t':=s.toks) (fun b o hb e=>eb b o hb e) f0 f1 f3 f4 f5⟩
   . exact wpAny_pyNext_wide_end (I.ok.hd hc) st hx fun h' eb=>⟨rfl,I.turned (t':=s.toks) (fun b o hb e=>eb b o hb e) f0 f1 f3 f4 f5⟩
 self:=fun _ _ _ _ _ st h=>by
   rcases hty with rfl | rfl
   . exact wpAny_pyIter_striter_ascii st h
   . exact wpAny_pyIter_striter_wide st h
section
variable {X:Cx} {tg:Expr}
noncomputable def iStr (tl:TE):TI:=fun σ H R=>tl σ H fun x H1=>∃ z,x=.str z /\ R (Its z) H1
theorem pi_str {l:Expr} {tl:TE} (hl:PE X l tl):PI X tg l (iStr tl):=by
 intro pins s σ H R I h
 refine thn (hl pins s σ H _ I h) fun v s1 zz38=>?_
 obtain ⟨x,H1,I1,r1,q1⟩:=zz38
 obtain ⟨z,e,q⟩:=q1
 subst e
 obtain ⟨t,rfl⟩:=r1
 have fp:∀ b ∈ [s1.heap.objs.size],FpOk X pins H1 b:=fun b hb=>by
   have e:b=s1.heap.objs.size:=by simpa using hb
   subst e
   exact I1.fpOk (Nat.le_refl _) (I1.hok.fresh (Nat.le_refl _))
 cases ha:z.cps.all (· < 128)
 . exact wpAny_pyIter_wide ha ⟨s1.heap.objs.size,[s1.heap.objs.size],_,_,H1,rfl,I1.kept (t':=s1.toks) fun b o e=>Heap.get?_push_of_some _ e,turn_str _ z t "str_iterator" (.inr rfl),⟨_,Heap.get?_push_size _ rfl,rfl,rfl⟩,fp,q⟩
 . exact wpAny_pyIter_ascii ha ⟨s1.heap.objs.size,[s1.heap.objs.size],_,_,H1,rfl,I1.kept (t':=s1.toks) fun b o e=>Heap.get?_push_of_some _ e,turn_str _ z t "str_ascii_iterator" (.inl rfl),⟨_,Heap.get?_push_size _ rfl,rfl,rfl⟩,fp,q⟩
end
section
variable {X:Cx}
theorem op_le_str:OpR X (compareOp .LtE) (fun x y H Q=>∃ i j,x=.str i /\ y=.str j /\ Q (.bl (!decide (j.cps.toList < i.cps.toList))) H):=by
 intro pins s σ H x y v u Q I rx ry h
 obtain ⟨i,j,rfl,rfl,q⟩:=h
 obtain ⟨t,rfl⟩:=rx
 obtain ⟨t',rfl⟩:=ry
 exact PySem.P.le_str (fin_bl I q rfl)
noncomputable def rSlS:V->Option Int->Option Int->Hp->VK->Prop:=fun x lo hi H Q=>∃ z,x=.str z /\ z.length <= sizeLine /\ Q (.str (Txt.slice z lo hi)) H
theorem part_of {v:Value} {o:Option Int} (p:IsPart v o):∃ q:Option (Int × Tok),v=partValue q /\ q.map (·.1)=o:=by
 cases p with
 | none=>exact ⟨none,rfl,rfl⟩
 | int i t=>exact ⟨some (i,t),rfl,rfl⟩
theorem sl_str:SlR X rSlS:=by
 intro pins s σ H x v vl vu lo hi sl Q I rx hs pl pu h
 obtain ⟨z,rfl,hz,q⟩:=h
 obtain ⟨t,rfl⟩:=rx
 obtain ⟨ql,rfl,rfl⟩:=part_of pl
 obtain ⟨qu,rfl,rfl⟩:=part_of pu
 obtain ⟨o,ho,hc,hd⟩:=hs
 refine ⟨"str",_,F.slot_str_getitem.lookup,typeIs_str _ _ _,wpAny_getItem_str_slice (l:=ql) (u:=qu) (st:=none) ⟨o,ho,hc,hd⟩ rfl (post_val_or_str ⟨Nat.le_trans (Txt.slice_le z _ _) hz,fun t' k=>?_⟩)⟩
 exact ⟨.str (Txt.slice z (ql.map (·.1)) (qu.map (·.1))),H,I.tok k,⟨t',rfl⟩,q⟩
theorem call_allB (hc:X.calm=true):CallR X (.builtin "all") (fun xs H Q=>∃ (p:Addr) (bs:List Bool),xs=[.ref p] /\ SqL X.K H p (bs.map V.bl) /\ Q (.bl (bs.all id)) H):=by
 intro pins s σ H xs us Q I r h
 obtain ⟨p,bs,rfl,hS,q⟩:=h
 obtain ⟨u,rfl,ru⟩:=vals1 r
 cases ru
 obtain ⟨its,rv,pl,hz⟩:=I.list hS
 have il:=pl.isList
 have hl:=rv.length
 rw [List.length_map] at hl
 have bAt:∀ {i:Nat} {v:Value},its.toArray[i]?=some v->v=.bool (bs.getD i true):=fun {i v} h=>by
   have h':its[i]?=some v:=by simpa using h
   have hi:i < its.length:=(List.getElem?_eq_some_iff.mp h').1
   have hb:i < bs.length:=by omega
   obtain ⟨u,h1,h2⟩:=rv.get (i:=i) (x:=.bl (bs.getD i true)) (by simp [hb])
   rw [h'] at h1
   injection h1 with h1
   subst h1
   exact h2
 have W:=Walks.list (prog:=X.prog) (w:=X.w) (A:=X.A.in1) (I.ok.hd hc) s.heap.objs.size p (by
   obtain ⟨o,n,e,_⟩:=pl
   exact Nat.ne_of_lt (Heap.lt_size e)) its.toArray
 refine call_all_walk (wpAny_pyIter_list il ⟨_,_,_,_,_,_,fun i=>bs.getD i true,rfl,W,⟨⟨_,Heap.get?_push_size _ rfl,rfl,rfl⟩,il.push _⟩,fun i v s Q E hv hq=>?_,fun h' tk hk=>?_⟩)
 . rw [bAt hv]
   exact wpAny_truthy_bool hq
 . refine ⟨.bl _,H,I.kept fun b o e=>hk b o (not_new e) (Heap.get?_push_of_some _ e),?_,q⟩
   show Value.bool _=Value.bool _
   congr 1
   have e1:its.toArray.size=bs.length:=by rw [List.size_toArray]; omega
   rw [e1]
   clear q hS rv bAt W hl e1
   rw [Bool.eq_iff_iff,List.all_eq_true,List.all_eq_true]
   constructor
   . intro h b hb
     obtain ⟨i,hi,rfl⟩:=List.mem_iff_getElem.mp hb
     have:=h i (List.mem_range.mpr hi)
     rw [getD_at hi] at this
     exact this
   . intro h i hi
     have hi':=List.mem_range.mp hi
     rw [getD_at hi']
     exact h _ (List.getElem_mem hi')
noncomputable def rSplit:V->List V->Hp->VK->Prop:=fun x vs H Q=>∃ a b,x=.str a /\ vs=[.str b] /\ b.length ≠ 0 /\ a.length <= 1000 /\ ∀ l,H l=none->Q (.ref l) (upd H l (.lst ((Txt.split a b).map V.str)))
theorem vals_strs:∀ {l:List (Str × Tok)},Vals (l.map fun p=>V.str p.1) (strValues l)
 | []=>.nil
 | (x,t) :: r=>.cons ⟨t,rfl⟩ vals_strs
theorem mt_split:MtR X "str.split" rSplit:=by
 intro pins s σ H x vs v us Q I rx rv h
 obtain ⟨a,b,rfl,rfl,hb,hz,q⟩:=h
 obtain ⟨t,rfl⟩:=rx
 obtain ⟨u,rfl,t2,rfl⟩:=vals1 rv
 have hlen:=PyProof.Rows.split_le a b
 have hy:(b.length == 0)=false:=by simpa using hb
 have hbig:1002 <= sizeLine:=by decide
 have hsz:a.length <= sizeLine:=by omega
 have fin:∀ (l:List (Str × Tok)) (k:Nat),l.map (·.1)=Txt.split a b->EP X pins σ Q (.ref s.heap.objs.size) { s with heap:=s.heap.push { cls:=.type "list",data:=.seq (strValues l).toArray },toks:=k }:=fun l k e=>by
   have e1:l.length=(Txt.split a b).length:=by rw [<- e,List.length_map]
   have e2:(l.map fun p=>V.str p.1)=(Txt.split a b).map V.str:=by rw [<- e,List.map_map]; rfl
   refine ⟨.ref _,_,I.lnew (its:=strValues l) (ys:=l.map fun p=>V.str p.1) vals_strs (by rw [List.length_map]; omega),rfl,?_⟩
   rw [e2]
   exact q _ I.fresh
 cases h1:(decide (a.length < b.length) || decide (Builtin.Str.strKind a < Builtin.Str.strKind b))
 . cases hf:(Builtin.Str.occurrences a b 0 a.length (a.length + 1)).isEmpty
   . have e3:Txt.split a b=Builtin.Str.partsBetween a (Builtin.Str.occurrences a b 0 a.length (a.length + 1)) b.length:=(if_neg (ne_true_of_eq_false h1)).trans (if_neg (ne_true_of_eq_false hf))
     have hsz2:(Builtin.Str.partsBetween a (Builtin.Str.occurrences a b 0 a.length (a.length + 1)) b.length).length <= sizeLine:=by rw [<- e3]; omega
     refine call_meets F.slot_str_split (typeIs_str _ _ _) F.entry_str_split (F.args_str_split_2 _ _) (meets_str_split_sep a b t t2 h1 hy hf hsz hsz2) ?_
     show wants _ _ _ { s with toks:=_,heap:=s.heap.push { cls:=.type "list",data:=.seq (strsFrom s.toks (Builtin.Str.partsBetween a (Builtin.Str.occurrences a b 0 a.length (a.length + 1)) b.length)).toArray } }
     rw [strsFrom_eq]
     exact fin (numbered s.toks _) _ ((numbered_texts _ _).trans e3.symm)
   . exact call_meets F.slot_str_split (typeIs_str _ _ _) F.entry_str_split (F.args_str_split_2 _ _) (meets_str_split_not_found a b t t2 h1 hy hf)
       (fin [(a,t)] s.toks ((if_neg (ne_true_of_eq_false h1)).trans (if_pos hf)).symm)
 . exact call_meets F.slot_str_split (typeIs_str _ _ _) F.entry_str_split (F.args_str_split_2 _ _) (meets_str_split_cannot_occur a b t t2 h1)
     (fin [(a,t)] s.toks (if_pos h1).symm)
theorem strs_of:∀ {zs:List Str} {its:List Value},Vals (zs.map V.str) its->∃ l:List (Str × Tok),its=strValues l /\ l.map (·.1)=zs
 | [],_,r=>by
   rw [List.map_nil] at r
   cases r
   exact ⟨[],rfl,rfl⟩
 | z :: zs,_,r=>by
   rw [List.map_cons] at r
   cases r with
   | cons r1 r2 =>
     obtain ⟨t,rfl⟩:=r1
     obtain ⟨l,rfl,e⟩:=strs_of r2
     exact ⟨(z,t) :: l,rfl,by rw [List.map_cons,e]⟩
noncomputable def rJoin (K:PySem.W.Frag):V->List V->Hp->VK->Prop:=fun x vs H Q=>∃ (a:Str) (p:Addr) (zs:List Str),x=.str a /\ vs=[.ref p] /\ SqL K H p (zs.map V.str) /\ JoinOk a zs=true /\ Q (.str (Txt.join a zs)) H
theorem mt_join:MtR X "str.join" (rJoin X.K):=by
 intro pins s σ H x vs v us Q I rx rv h
 obtain ⟨a,p,zs,rfl,rfl,hS,hok,q⟩:=h
 obtain ⟨t,rfl⟩:=rx
 obtain ⟨u,rfl,ru⟩:=vals1 rv
 cases ru
 obtain ⟨its,r,pl,hz⟩:=I.list hS
 obtain ⟨l,rfl,e⟩:=strs_of r
 exact SC.join pl.isList e hok fun t' k=>⟨.str (Txt.join a zs),H,I.tok k,⟨t',rfl⟩,q⟩
end
end L2
namespace L2
open PySem PySem.Spec PyProof.Rows
noncomputable def accH (D:Addr) (zs:List V):HO:=.ext fun h=>zs.length <= sizeLine /\ ∃ (its:List Value) (n:Nat),Vals zs its /\ h.get? D=some { cls:=.type "list",data:=.seq its.toArray n }
theorem Inv.toAcc {X:Cx} {pins:List (Addr × Obj)} {σ:St} {H:Hp} {s:Shared} {D:Addr} {zs:List V} (I:Inv X pins σ H s) (h:H D=some (.lst zs)):Inv X pins σ (upd H D (accH D zs)) s:=by
 obtain ⟨z,its,n,r,e⟩:=I.hok D _ h
 obtain ⟨hh,g,d,t,os⟩:=s
 exact I.write (t':=t) (h':=hh) (x:=D) (e:=D) (by rw [h]; trivial) (.inl rfl) (fun b u _ q=>q) ⟨_,e⟩ ⟨⟨z,its,n,r,e⟩,⟨_,e⟩,fun h1 h2 zz39 k=>by obtain ⟨z',its',n',r',e'⟩:=zz39; exact ⟨z',its',n',r',k _ e'⟩⟩
theorem Inv.ofAcc {X:Cx} {pins:List (Addr × Obj)} {σ:St} {H:Hp} {s:Shared} {D:Addr} {zs:List V} (I:Inv X pins σ H s) (h:H D=some (accH D zs)):Inv X pins σ (upd H D (.lst zs)) s:=by
 obtain ⟨⟨z,its,n,r,e⟩,_,_⟩:=I.hok D _ h
 obtain ⟨hh,g,d,t,os⟩:=s
 exact I.write (t':=t) (h':=hh) (x:=D) (e:=D) (by rw [h]; trivial) (.inl rfl) (fun b u _ q=>q) ⟨_,e⟩ ⟨z,its,n,r,e⟩
section
variable {X:Cx} {pins:List (Addr × Obj)} {σ:St} {H:Hp} {s:Shared} {scope:Scope} {Nc:List Str} {fp:List Addr} {C:Addr}
noncomputable def bComp2 (J:It) (n:Nat) (caps:List Nat) (g:TG) (tt:TT) (te:TE) (σ:St) (H1:Hp) (Q:VK):Prop:=∀ D,H1 D=none->∃ W:Nat->Nat->List V->St->Hp->Prop,(∃ m,W 0 m [] (compSt n caps σ) (upd H1 D (accH D []))) /\ ∀ i m zs σc H,W i m zs σc H ->
 H D=some (accH D zs) /\ ((J.stop i H /\ Q (.ref D) (upd H D (.lst zs))) \/ (J.go i H /\ ∃ N:List V->St->Hp->Prop,(∀ zs' σ' H',N zs' σ' H'->∃ m',m' < m /\ W (i + 1) m' zs' σ' H') /\ ∀ x H',J.yld i H x H'->g x σc H' fun σ2 H2=>tt σ2 H2 fun b H3 =>
   if b=true then te σ2 H3 fun y H4=>H4 D=some (accH D zs) /\ zs.length < sizeLine /\ N (zs ++ [y]) σ2 (upd H4 D (accH D (zs ++ [y]))) else N zs σ2 H3))
noncomputable def tComp2 (wi:TI) (n:Nat) (caps:List Nat) (g:TG) (tt:TT) (te:TE):TE:=fun σ H Q=>wi σ H fun J H1=>bComp2 J n caps g tt te σ H1 Q
variable {elt iter target:Expr} {ifs:List Expr} {pos:Pos} {n:Nat} {caps:List Nat} {wi:TI} {g:TG} {tt:TT} {te:TE}
theorem comp_block2 {J:It} {it:Addr} {tn:Nat->Heap->Prop} {Q:VK} {E:Value->Shared->Prop} {RR:Value->Addr->Result->Shared->Prop} (hcalm:X.calm=true) (S:CompSc X scope) (hcp:capOk X.N Nc scope n caps=true)
   (hg:∀ C s₀ H₀ ex,PG (X.comp scope Nc C s₀ H₀ ex) target g) (ht:∀ C s₀ H₀ ex,PTs (X.comp scope Nc C s₀ H₀ ex) ifs tt) (he:∀ C s₀ H₀ ex,PE (X.comp scope Nc C s₀ H₀ ex) elt te)
   (I:Inv X pins σ H s) (T:Turn X.prog X.w X.K target J fp it tn) (t0:tn 0 s.heap) (hf:∀ b ∈ fp,FpOk X pins H b) (hw:bComp2 J n caps g tt te σ H Q)
   (fin:∀ (D:Addr) (s':Shared) (H':Hp) (m:Str->Option Value),Inv X pins σ H' s'->H' (s.heap.objs.size + 1)=none->s'.heap.Ns (s.heap.objs.size + 1) m->Q (.ref D) H'->RR (.ref D) (s.heap.objs.size + 1) (.ok .next) s') :
   wpAny (model X.prog X.w) X.A (newList []) (fun acc s₃=>wpAny (model X.prog X.w) X.A (newFunctionEnv scope X.env.globals (clOf scope X.env) [] X.env.qual none .none (some X.env)) (fun cenv s₄ =>
     codeAny (model X.prog X.w) X.A (.compStart (.ListComp elt [⟨target,iter,ifs,0⟩] scope pos) 0 (.ref it) acc { cenv with scope:=relabel scope X.env }) (RR acc cenv.locals) s₄) E s₃) E s:=by
 refine wpAny_newObj_type (wpAny_newFunctionEnv S.nocell (by intro y hy; simp at hy) (fun h₁ hns₁ hsb₁=>?_) S.kind)
 dsimp only at hns₁ hsb₁ ⊢
 generalize hH2:s.heap.push { cls:=.type "list",dict:=none,data:=.seq ([]:List Value).toArray }=H2 at hns₁ hsb₁ ⊢
 have hC:H2.objs.size=s.heap.objs.size + 1:=by rw [<- hH2,Heap.size_push]
 rw [hC] at hns₁ hsb₁
 have hlt:∀ b ∈ fp,b < s.heap.objs.size:=fun b hb=>by
   obtain ⟨o,e,_⟩:=T.obj _ _ t0 b hb
   exact Heap.lt_size e
 have old:∀ b o,s.heap.get? b=some o->h₁.get? b=some o:=fun b o e=>hsb₁.extBut b o (Nat.ne_of_lt (Nat.lt_succ_of_lt (Heap.lt_size e))) (Heap.get?_push_of_some _ (hH2 ▸ Heap.get?_push_of_some _ e))
 have hD:h₁.get? s.heap.objs.size=some { cls:=.type "list",data:=.seq #[] 0 }:=hsb₁.extBut _ _ (Nat.ne_of_lt (Nat.lt_succ_self _)) (Heap.get?_push_of_some _ (hH2 ▸ Heap.get?_push_size _ rfl))
 have I0:Inv (X.comp scope Nc (s.heap.objs.size + 1) s H fp) [] (compSt n caps σ) (upd H s.heap.objs.size (.lst [])) { s with heap:=h₁,toks:=s.toks + ([]:List (Str × Value)).length } :=
   comp_start I S hcp hf hlt hns₁ old hD
 replace I0:=I0.toAcc (D:=s.heap.objs.size) upd_same
 rw [upd_upd] at I0
 obtain ⟨W,⟨m0,w0⟩,turn⟩:=hw s.heap.objs.size I.fresh
 have fr0:∀ b ∈ fp,upd H s.heap.objs.size (accH s.heap.objs.size []) b=none:=fun b hb=>by
   rw [upd_ne (Nat.ne_of_lt (hlt b hb))]
   exact (hf b hb).1
 have stat:∀ {H':Hp},(∀ b ∈ fp,H' b=none)->∀ b ∈ fp,FpOk (X.comp scope Nc (s.heap.objs.size + 1) s H fp) [] H' b:=fun hn b hb =>
   ⟨hn b hb,(fun e=>Nat.ne_of_lt (Nat.lt_succ_of_lt (hlt b hb)) e),I0.ok.exfs b hb,.inl hb,(I0.ok.exf b hb).2,fun p hp=>absurd (show p ∈ ([]:List (Addr × Obj)) from hp) (by simp)⟩
 have loop:codeAny (model X.prog X.w) X.A (.compLoop (.ListComp elt [⟨target,iter,ifs,0⟩] scope pos) 0 (.ref it) (.ref s.heap.objs.size) (compEnvC scope (clOf scope X.env) (s.heap.objs.size + 1) X.env))
     (RR (.ref s.heap.objs.size) (s.heap.objs.size + 1)) { s with heap:=h₁,toks:=s.toks + ([]:List (Str × Value)).length }:=by
   refine compLoop_go (fun m s'=>∃ i zs σ' H',Inv (X.comp scope Nc (s.heap.objs.size + 1) s H fp) [] σ' H' s' /\ tn i s'.heap /\ (∀ b ∈ fp,H' b=none) /\ W i m zs σ' H') ?_ m0
     ⟨0,_,_,_,I0,T.keep _ _ _ t0 fun b _ o e=>old b o e,fr0,w0⟩
   rintro m s3 ⟨i,zs,σ3,H3,I3,st3,fr3,w3⟩
   obtain ⟨hD3,w3'⟩:=turn i m zs σ3 H3 w3
   rcases w3' with ⟨stop,qn⟩ | ⟨go,N,hN,step⟩
   . refine thn (T.done (X.comp scope Nc (s.heap.objs.size + 1) s H fp) rfl rfl rfl hcalm i [] s3 σ3 H3 _ I3 (stat fr3) st3 stop) fun r s4 ⟨hr,I4⟩=>?_
     subst hr
     obtain ⟨m4,hn4,_⟩:=I4.loc
     have I4':=I4.ofAcc hD3
     exact fin _ s4 _ m4 (comp_back I hf I4') I4'.free hn4 qn
   . refine thn (T.item (X.comp scope Nc (s.heap.objs.size + 1) s H fp) rfl rfl rfl hcalm i [] s3 σ3 H3 _ I3 (stat fr3) st3 go) fun r s4 ⟨u,hr,h4⟩=>?_
     subst hr
     refine thn h4 fun _ s5 zz40=>?_
     obtain ⟨x,H5,I5,r5,y5,st5,fr5⟩:=zz40
     have I5':=I5.pinned (stat fr5) (T.obj _ _ st5)
     refine thn (hg _ _ _ _ _ s5 σ3 H5 x u _ I5' r5 (step x H5 y5)) fun _ s6 zz41=>?_
     obtain ⟨σ6,H6,I6,q6⟩:=zz41
     refine thn (ht _ _ _ _ _ s6 σ6 H6 _ I6 q6) fun ok s7 zz42=>?_
     obtain ⟨H7,I7,q7⟩:=zz42
     have again:∀ {s8:Shared} {H8:Hp} {zs8:List V},Inv (X.comp scope Nc (s.heap.objs.size + 1) s H fp) ([] ++ pinsAt fp s5.heap) σ6 H8 s8->N zs8 σ6 H8 ->
         ∃ m',m' < m /\ ∃ i zs σ' H',Inv (X.comp scope Nc (s.heap.objs.size + 1) s H fp) [] σ' H' s8 /\ tn i s8.heap /\ (∀ b ∈ fp,H' b=none) /\ W i m' zs σ' H':=fun {s8 H8 zs8} I8 n8=>by
       obtain ⟨m',hm,w8⟩:=hN zs8 σ6 H8 n8
       refine ⟨m',hm,i + 1,zs8,σ6,H8,I8.unpinned,T.keep _ _ _ st5 fun b hb o e=>(I8.pin (b,o) (List.mem_append_right _ (List.mem_append_right _ (mem_pinsAt hb e)))).1,fun b hb=>?_,w8⟩
       obtain ⟨o,e,d⟩:=T.obj _ _ st5 b hb
       exact (I8.pin (b,o) (List.mem_append_right _ (List.mem_append_right _ (mem_pinsAt hb e)))).2.1
     cases ok with
     | false =>
       rw [if_neg Bool.false_ne_true] at q7 ⊢
       exact again I7 q7
     | true =>
       rw [if_pos rfl] at q7 ⊢
       refine thn (he _ _ _ _ _ s7 σ6 H7 _ I7 q7) fun y s8 zz43=>?_
       obtain ⟨v8,H8,I8,r8,hz,hl,q8⟩:=zz43
       refine thn (mt_append _ s8 σ6 _ (.ref s.heap.objs.size) [v8] (.ref s.heap.objs.size) [y] (fun _ H9=>H9=upd H8 s.heap.objs.size (.lst (zs ++ [v8]))) (I8.ofAcc hz) rfl (.cons r8 .nil) ⟨_,zs,v8,rfl,rfl,upd_same,hl,by rw [upd_upd]⟩) fun _ s9 zz44=>?_
       obtain ⟨_,H9,I9,_,q9⟩:=zz44
       subst q9
       have I9':=I9.toAcc (D:=s.heap.objs.size) upd_same
       rw [upd_upd] at I9'
       exact again I9' q8
 have e2:({ newEnv scope H2.objs.size X.env.globals (clOf scope X.env) X.env.qual none .none (some X.env) builtinsNs with scope:=relabel scope X.env }:Env)=compEnvC scope (clOf scope X.env) (s.heap.objs.size + 1) X.env:=by
   rw [hC]; rfl
 have e3:(newEnv scope H2.objs.size X.env.globals (clOf scope X.env) X.env.qual none .none (some X.env) builtinsNs).locals=s.heap.objs.size + 1:=hC
 rw [e2,e3]
 exact codeAny_compStart_list loop (T.self _ 0 _ _ _ (T.keep _ _ _ t0 fun b _ o e=>old b o e) loop)
theorem pe_comp2 (Nc:List Str) (n:Nat) (caps:List Nat) (hcalm:X.calm=true) (hi:PI X target iter wi) (hg:∀ C s₀ H₀ ex,PG (X.comp scope Nc C s₀ H₀ ex) target g) (ht:∀ C s₀ H₀ ex,PTs (X.comp scope Nc C s₀ H₀ ex) ifs tt)
   (he:∀ C s₀ H₀ ex,PE (X.comp scope Nc C s₀ H₀ ex) elt te) (hsc:compOk X.env.scope scope=true:=by rfl) (hcp:capOk X.N Nc scope n caps=true:=by rfl) (hs:∀ x,foldedSetIterable iter X.env x=pure x:=by intro _; rfl) :
   PE X (.ListComp elt [⟨target,iter,ifs,0⟩] scope pos) (tComp2 wi n caps g tt te):=by
 intro pins s σ H Q I h
 have S:=compSc_of hsc
 rw [eval_ListComp]
 refine wpAny_comprehension_free (use:=none) rfl hs (S.clos I.ok) S.kind S.loc (thn (hi pins s σ H _ I h) fun v s1 h1=>thn h1 fun itv s2 h2=>?_)
 obtain ⟨it,fp,tn,J,H2,e,I2,T,t2,f2,hw⟩:=h2
 subst e
 refine comp_block2 (RR:=fun acc C=>compPost (model X.prog X.w) X.A X.xe none (EP X pins σ Q) acc C) hcalm S hcp hg ht he I2 T t2 f2 hw ?_
 intro D s' H' m I' hn hns q
 refine ⟨m,hns,fun h' hs'=>⟨.ref D,H',?_,rfl,q⟩⟩
 refine I'.but hs' hn (Nat.le_trans I2.sz (Nat.le_succ _)) (fun e=>?_) (fun x c hc e=>?_) fun p hp e=>?_
 . exact Nat.ne_of_lt (Nat.lt_succ_of_lt I2.lt) e.symm
 . obtain ⟨v,ic⟩:=I2.cell x c hc
   exact Nat.ne_of_lt (Nat.lt_succ_of_lt ic.lt) e
 . exact Nat.ne_of_lt (Nat.lt_succ_of_lt (Heap.lt_size (I2.pin p hp).1)) e
theorem ps_comp2 {i:Nat} {x:Str} {px spos:Pos} (Nc:List Str) (n:Nat) (caps:List Nat) (hcalm:X.calm=true) (hN:X.N.Nodup) (hix:X.N[i]?=some x) (hx:Loc X.env.scope x) (hi:PI X target iter wi) (hg:∀ C s₀ H₀ ex,PG (X.comp scope Nc C s₀ H₀ ex) target g)
   (ht:∀ C s₀ H₀ ex,PTs (X.comp scope Nc C s₀ H₀ ex) ifs tt) (he:∀ C s₀ H₀ ex,PE (X.comp scope Nc C s₀ H₀ ex) elt te)
   (hsw:swapsWith (.ListComp elt [⟨target,iter,ifs,0⟩] scope pos) (some (.Name x px)) spos.line X.env=pure true:=by rfl) (hsc:compOk X.env.scope scope=true:=by rfl) (hcp:capOk X.N Nc scope n caps=true:=by rfl)
   (hs:∀ x,foldedSetIterable iter X.env x=pure x:=by intro _; rfl) (hf:X.fn x=true \/ X.env.scope.names.lookup x=some .local:=by first | exact .inl rfl | exact .inr rfl | assumption) :
   PS X (.Assign [.Name x px] (.ListComp elt [⟨target,iter,ifs,0⟩] scope pos) spos) (tAsg (tComp2 wi n caps g tt te) (gName i)):=by
 intro pins s σ H D I h
 have S:=compSc_of hsc
 rw [exec_Assign_Name_used _ _ _ _ hsw]
 refine wpAny_bind (wpAny_standAt (wpAny_bind ?_))
 show wpAny _ X.A (do let _ <- comprehension (.ListComp elt [⟨target,iter,ifs,0⟩] scope pos) scope X.env _ (newList []) false (eval iter X.env) (some (assign (.Name x px) X.env))) _ _ s
 refine wpAny_bind (thn (wpAny_comprehension_free (use:=some (assign (.Name x px) X.env)) (Q:=fun _ s'=>SP X pins D .next s') rfl hs (S.clos I.ok) S.kind S.loc
   (thn (hi pins s σ H _ I h) fun v s1 h1=>thn h1 fun itv s2 h2=>?_)) fun _ s' hq=>wpAny_pure (wpAny_pure hq))
 obtain ⟨it,fp,tn,J,H2,e,I2,T,t2,f2,hw⟩:=h2
 subst e
 refine comp_block2 (RR:=fun acc C=>compPost (model X.prog X.w) X.A X.xe (some (assign (.Name x px) X.env)) (fun _ s'=>SP X pins D .next s') acc C) hcalm S hcp hg ht he I2 T t2 f2 hw ?_
 intro Da s' H' m I' hn hns q
 show wpAny _ X.A (assign (.Name x px) X.env (.ref Da)) _ _ s'
 obtain ⟨oC,es,ep,eo,ed,rC⟩:=id hns
 have nl:s2.heap.objs.size + 1 ≠ X.env.locals:=fun e=>Nat.ne_of_lt (Nat.lt_succ_of_lt I2.lt) e.symm
 have nc:∀ y c,X.env.cells.lookup y=some c->c ≠ s2.heap.objs.size + 1:=fun y c hc e=>by
   obtain ⟨v,ic⟩:=I2.cell y c hc
   exact Nat.ne_of_lt (Nat.lt_succ_of_lt ic.lt) e
 have np:∀ p ∈ X.pn ++ pins,p.1 ≠ s2.heap.objs.size + 1:=fun p hp e=>Nat.ne_of_lt (Nat.lt_succ_of_lt (Heap.lt_size (I2.pin p hp).1)) e
 have I3:Inv X (pins ++ [(s2.heap.objs.size + 1,oC)]) σ H' s':=I'.pins_of fun p hp=>by
   rcases List.mem_append.mp hp with z | z
   . exact I'.pin p (List.mem_append_right _ z)
   . obtain rfl:p=(s2.heap.objs.size + 1,oC):=by simpa using z
     refine ⟨eo,hn,nl,fun hb=>?_,fun v e=>?_⟩
     . have h1:=I2.nofs (a:=s2.heap.objs.size + 1) (Nat.le_succ _)
       exact h1 hb
     . rw [ed] at e; cases e
 refine wpAny_assign_Name (store_ok I3 hN hix hx (u:=.ref Da) (v:=.ref Da) rfl (fun s4 I4=>?_) hf)
 have g4:s4.heap.get? (s2.heap.objs.size + 1)=some oC:=(I4.pin (s2.heap.objs.size + 1,oC) (List.mem_append_right _ (List.mem_append_right _ (by simp)))).1
 refine ⟨m,⟨oC,es,ep,g4,ed,rC⟩,fun h' hs'=>?_⟩
 exact ⟨_,H',I4.unpinned.but hs' hn (Nat.le_trans I2.sz (Nat.le_succ _)) nl nc np,q⟩
end
end L2
namespace L2
open PySem PySem.Spec PyProof.Rows
section
variable {κ:Type} [DecidableEq κ]
noncomputable def valV (kvs:List (κ × V)) (k:κ):Option V:=(kvs.find? fun kv=>decide (kv.1=k)).map (·.2)
noncomputable def putK (kvs:List (κ × V)) (k:κ) (v:V):List (κ × V) :=
 if (kvs.any fun kv=>decide (kv.1=k))=true then kvs.map (fun kv=>if kv.1=k then (kv.1,v) else kv) else kvs ++ [(k,v)]
noncomputable def dropK (kvs:List (κ × V)) (k:κ):List (κ × V):=kvs.filter fun kv=>decide (kv.1 ≠ k)
theorem valV_pos {p:κ × V} {r:List (κ × V)} {k:κ} (e:p.1=k):valV (p :: r) k=some p.2:=by simp [valV,List.find?_cons,e]
theorem valV_neg {p:κ × V} {r:List (κ × V)} {k:κ} (e:¬ p.1=k):valV (p :: r) k=valV r k:=by simp [valV,List.find?_cons,e]
theorem valV_any (k:κ):∀ kvs:List (κ × V),(kvs.any fun kv=>decide (kv.1=k))=(valV kvs k).isSome
 | []=>rfl
 | p :: r=>by
   rw [List.any_cons]
   by_cases e:p.1=k
   . simp only [valV_pos e,decide_eq_true e,Bool.true_or,Option.isSome_some]
   . rw [valV_neg e,decide_eq_false e,Bool.false_or]; exact valV_any k r
theorem length_putK (kvs:List (κ × V)) (k:κ) (v:V):(putK kvs k v).length <= kvs.length + 1:=by
 unfold putK
 split
 . rw [List.length_map]; omega
 . rw [List.length_append,List.length_cons,List.length_nil]; omega
theorem RelO.isSome_eq {o:Option V} {u:Option Value} (r:RelO o u):o.isSome=u.isSome:=by
 cases o with
 | none=>cases u with
   | none=>rfl
   | some _=>exact (show False from r).elim
 | some _=>cases u with
   | none=>exact (show False from r).elim
   | some _=>rfl
theorem RelO.getD {o:Option V} {u:Option Value} {d:V} {d':Value} (r:RelO o u) (rd:RelV d d'):RelV (o.getD d) (u.getD d'):=by
 cases o with
 | none=>cases u with
   | none=>exact rd
   | some _=>exact (show False from r).elim
 | some _=>cases u with
   | none=>exact (show False from r).elim
   | some _=>exact r
theorem KV.val {kvs:List (κ × V)} {vs:List (κ × Value)} (r:KV kvs vs) (k:κ):RelO (valV kvs k) (valueAt vs k):=by
 unfold KV at r
 induction r with
 | nil=>exact True.intro
 | @cons p q ps qs h t ih =>
   obtain ⟨h1,h2⟩:=h
   by_cases e:p.1=k
   . have e':q.1=k:=h1.symm.trans e
     have b:valueAt (q :: qs) k=some q.2:=by simp [valueAt,List.find?_cons,e']
     rw [valV_pos e,b]; exact h2
   . have e':¬ q.1=k:=fun z=>e (h1.trans z)
     have b:valueAt (q :: qs) k=valueAt qs k:=by simp [valueAt,List.find?_cons,e']
     rw [valV_neg e,b]; exact ih
theorem KV.any {kvs:List (κ × V)} {vs:List (κ × Value)} (r:KV kvs vs) (k:κ):(kvs.any fun kv=>decide (kv.1=k))=vs.any fun kv=>decide (kv.1=k):=by
 unfold KV at r
 induction r with
 | nil=>rfl
 | cons h t ih=>rw [List.any_cons,List.any_cons,ih,h.1]
theorem KV.repl {kvs:List (κ × V)} {vs:List (κ × Value)} (r:KV kvs vs) (k:κ) {y:V} {u:Value} (ry:RelV y u) :
   KV (kvs.map fun kv=>if kv.1=k then (kv.1,y) else kv) (vs.map fun kv=>if kv.1=k then (kv.1,u) else kv):=by
 unfold KV at r ⊢
 induction r with
 | nil=>exact .nil
 | @cons p q ps qs h t ih =>
   rw [List.map_cons,List.map_cons]
   refine .cons ?_ ih
   obtain ⟨h1,h2⟩:=h
   by_cases e:p.1=k
   . rw [if_pos e,if_pos (h1.symm.trans e)]; exact ⟨h1,ry⟩
   . rw [if_neg e,if_neg (fun z=>e (h1.trans z))]; exact ⟨h1,h2⟩
theorem KV.put {kvs:List (κ × V)} {vs:List (κ × Value)} (r:KV kvs vs) (k:κ) {y:V} {u:Value} (ry:RelV y u):KV (putK kvs k y) (stored vs k u):=by
 unfold putK stored
 rw [r.any k]
 by_cases e:(vs.any fun kv=>decide (kv.1=k))=true
 . rw [if_pos e,if_pos e]; exact r.repl k ry
 . rw [if_neg e,if_neg e]; exact Paired.snoc r ⟨rfl,ry⟩
theorem KV.drop {kvs:List (κ × V)} {vs:List (κ × Value)} (r:KV kvs vs) (k:κ):KV (dropK kvs k) (without vs k):=by
 unfold KV at r ⊢
 unfold dropK without
 induction r with
 | nil=>exact .nil
 | @cons p q ps qs h t ih =>
   obtain ⟨h1,h2⟩:=h
   rw [List.filter_cons,List.filter_cons]
   by_cases e:p.1=k
   . have a:¬ decide (p.1 ≠ k)=true:=by simp [e]
     have b:¬ decide (q.1 ≠ k)=true:=by simp [h1.symm.trans e]
     rw [if_neg a,if_neg b]; exact ih
   . have e':¬ q.1=k:=fun z=>e (h1.trans z)
     have a:decide (p.1 ≠ k)=true:=by simp [e]
     have b:decide (q.1 ≠ k)=true:=by simp [e']
     rw [if_pos a,if_pos b]; exact .cons ⟨h1,h2⟩ ih
theorem KV.keys {kvs:List (κ × V)} {vs:List (κ × Value)} (r:KV kvs vs):kvs.map (·.1)=vs.map (·.1):=by
 unfold KV at r
 induction r with
 | nil=>rfl
 | cons h t ih=>rw [List.map_cons,List.map_cons,ih,h.1]
theorem KV.length {kvs:List (κ × V)} {vs:List (κ × Value)} (r:KV kvs vs):kvs.length=vs.length:=Paired.length r
end
theorem kV_is {P:Program} {w:World} {k:Key} {u:Value} (r:RelV (kV k) u):(mixKind P w).is k u=true:=by
 cases k with
 | inl i=>obtain ⟨t,e⟩:=(show ∃ t,u=Value.int i t from r); subst e; exact mixKind_int P w i t
 | inr x=>obtain ⟨t,e⟩:=(show ∃ t,u=Value.str x t from r); subst e; exact mixKind_str P w x t
theorem items_are {P:Program} {w:World}:∀ {ks:List Key} {us:List Value},Vals (ks.map kV) us->ItemsAre (mixKind P w) ks us
 | [],_,r=>by rw [List.map_nil] at r; cases r; exact .nil
 | k :: ks,_,r=>by
   rw [List.map_cons] at r
   cases r with
   | cons h t=>exact .cons (kV_is h) (items_are t)
noncomputable abbrev KT (H:Hp):List (List Key × V)->List (List Key × Addr × Value)->Prop:=Paired fun p q=>p.1=q.1 /\ H q.2.1=some (.tup (p.1.map kV)) /\ RelV p.2 q.2.2
theorem KT.val {H:Hp} {kvs:List (List Key × V)} {xs:List (List Key × Addr × Value)} (r:KT H kvs xs) (k:List Key):RelO (valV kvs k) ((atKey xs k).map (·.2)):=by
 induction r with
 | nil=>exact True.intro
 | @cons p q ps qs h t ih =>
   obtain ⟨h1,_,h2⟩:=h
   by_cases e:p.1=k
   . have e':q.1=k:=h1.symm.trans e
     have b:atKey (q :: qs) k=some q.2:=by simp [atKey,List.find?_cons,e']
     rw [valV_pos e,b]; exact h2
   . have e':¬ q.1=k:=fun z=>e (h1.trans z)
     have b:atKey (q :: qs) k=atKey qs k:=by simp [atKey,List.find?_cons,e']
     rw [valV_neg e,b]; exact ih
theorem KT.repl {H:Hp} {kvs:List (List Key × V)} {xs:List (List Key × Addr × Value)} (r:KT H kvs xs) (k:List Key) {y:V} {u:Value} (ry:RelV y u) :
   KT H (kvs.map fun kv=>if kv.1=k then (kv.1,y) else kv) (xs.map (putAt k u)):=by
 induction r with
 | nil=>exact .nil
 | @cons p q ps qs h t ih =>
   rw [List.map_cons,List.map_cons]
   refine .cons ?_ ih
   obtain ⟨h1,h2,h3⟩:=h
   unfold putAt
   by_cases e:p.1=k
   . rw [if_pos e,if_pos (h1.symm.trans e)]; exact ⟨h1,h2,ry⟩
   . rw [if_neg e,if_neg (fun z=>e (h1.trans z))]; exact ⟨h1,h2,h3⟩
theorem KT.put {H:Hp} {kvs:List (List Key × V)} {xs:List (List Key × Addr × Value)} (r:KT H kvs xs) (k:List Key) {b:Addr} {y:V} {u:Value} (hb:H b=some (.tup (k.map kV))) (ry:RelV y u) :
   KT H (putK kvs k y) (storedH xs k b u):=by
 have e:(kvs.any fun kv=>decide (kv.1=k))=(atKey xs k).isSome:=by
   rw [valV_any,(r.val k).isSome_eq,Option.isSome_map]
 unfold putK storedH
 rw [e]
 by_cases q:(atKey xs k).isSome=true
 . rw [if_pos q,if_pos q]; exact r.repl k ry
 . rw [if_neg q,if_neg q]; exact Paired.snoc r ⟨rfl,hb,ry⟩
theorem KT.keeps {H H':Hp} {kvs:List (List Key × V)} {xs:List (List Key × Addr × Value)} (r:KT H kvs xs) (ht:∀ b ys,H b=some (.tup ys)->H' b=some (.tup ys)):KT H' kvs xs :=
 Paired.mapP r fun _ _ z=>⟨z.1,ht _ _ z.2.1,z.2.2⟩
section
variable {P:Program} {w:World} {H:Hp} {h:Heap} {a:Addr}
theorem rd_of {u:HO} (ok:HOk P w H h) (e:Rd H a u):ObjOk P w H h a u:=e.ok ok
theorem dk_rd {kvs:List (Key × V)} (ok:HOk P w H h) (e:Rd H a (.dK kvs)):kvs.length <= sizeLine /\ (a == sysModules)=false /\ ∃ vs,KV kvs vs /\ h.DictOf (mixKind P w) a vs :=
 show ObjOk P w H h a (.dK kvs) from rd_of ok e
theorem dk_of {kvs:List (Key × V)} (ok:HOk P w H h) (e:H a=some (.dK kvs)):kvs.length <= sizeLine /\ (a == sysModules)=false /\ ∃ vs,KV kvs vs /\ h.DictOf (mixKind P w) a vs:=dk_rd ok (.inl e)
theorem key_of {ks:List Key} (ok:HOk P w H h) (e:H a=some (.tup (ks.map kV))):(tupleKind (mixKind P w)).is h ks a:=by
 obtain ⟨_,its,r,o,h1,h2,n,h3⟩:=(show ObjOk P w H h a (.tup (ks.map kV)) from ok a _ e)
 exact ⟨o,its.toArray,n,h1,h2,h3,by simpa using items_are r⟩
theorem dt_rd {kvs:List (List Key × V)} (ok:HOk P w H h) (e:Rd H a (.dT kvs)):kvs.length <= sizeLine /\ (a == sysModules)=false /\
   ∃ xs,KT H kvs xs /\ h.DictOfH (tupleKind (mixKind P w)) a xs:=by
 obtain ⟨z,y,xs,r,o,es,ep,h1,h2,h3,h4,h5⟩:=(show ObjOk P w H h a (.dT kvs) from rd_of ok e)
 refine ⟨z,y,xs,r,o,es,ep,h1,h2,h3,h4,fun x hx=>?_,h5⟩
 have all:∀ {l:List (List Key × V)} {m:List (List Key × Addr × Value)},KT H l m->∀ x ∈ m,(tupleKind (mixKind P w)).is h x.1 x.2.1:=by
   intro l m q
   induction q with
   | nil=>intro x hx; exact nomatch hx
   | @cons p q ps qs hq t ih =>
     intro x hx
     rcases List.mem_cons.mp hx with e | hx
     . subst e
       exact key_of ok (by rw [<- hq.1]; exact hq.2.1)
     . exact ih x hx
 exact all r x hx
theorem dt_of {kvs:List (List Key × V)} (ok:HOk P w H h) (e:H a=some (.dT kvs)):kvs.length <= sizeLine /\ (a == sysModules)=false /\
   ∃ xs,KT H kvs xs /\ h.DictOfH (tupleKind (mixKind P w)) a xs:=dt_rd ok (.inl e)
end
noncomputable def DGet (H:Hp) (a:Addr) (y:V) (r:Option V):Prop :=
 (∃ kvs k,Rd H a (.dK kvs) /\ y=kV k /\ r=valV kvs k) \/ ∃ kvs k b,Rd H a (.dT kvs) /\ y=.ref b /\ H b=some (.tup (k.map kV)) /\ r=valV kvs k
noncomputable def DPut (H:Hp) (a:Addr) (y v:V) (H':Hp):Prop :=
 (∃ kvs k,H a=some (.dK kvs) /\ y=kV k /\ kvs.length < sizeLine /\ H'=upd H a (.dK (putK kvs k v))) \/
 ∃ kvs k b,H a=some (.dT kvs) /\ y=.ref b /\ H b=some (.tup (k.map kV)) /\ kvs.length < sizeLine /\ H'=upd H a (.dT (putK kvs k v))
theorem DGet.k {H:Hp} {a:Addr} {kvs:List (Key × V)} {k:Key} (e:H a=some (.dK kvs)):DGet H a (kV k) (valV kvs k):=.inl ⟨kvs,k,.inl e,rfl,rfl⟩
theorem DGet.t {H:Hp} {a b:Addr} {kvs:List (List Key × V)} {k:List Key} (e:H a=some (.dT kvs)) (eb:H b=some (.tup (k.map kV))):DGet H a (.ref b) (valV kvs k):=.inr ⟨kvs,k,b,.inl e,rfl,eb,rfl⟩
theorem DPut.k {H:Hp} {a:Addr} {kvs:List (Key × V)} {k:Key} {v:V} (e:H a=some (.dK kvs)) (hl:kvs.length < sizeLine):DPut H a (kV k) v (upd H a (.dK (putK kvs k v))):=.inl ⟨kvs,k,e,rfl,hl,rfl⟩
theorem DPut.t {H:Hp} {a b:Addr} {kvs:List (List Key × V)} {k:List Key} {v:V} (e:H a=some (.dT kvs)) (eb:H b=some (.tup (k.map kV))) (hl:kvs.length < sizeLine) :
   DPut H a (.ref b) v (upd H a (.dT (putK kvs k v))):=.inr ⟨kvs,k,b,e,rfl,eb,hl,rfl⟩
section
variable {X:Cx} {pins:List (Addr × Obj)} {σ:St} {H:Hp} {s:Shared} {a:Addr} {y v:V} {u r:Value} {o:Option V} {A:Around} {E:Value->Shared->Prop}
theorem Inv.big (I:Inv X pins σ H s):sysModules < s.heap.objs.size:=by
 have h:mainGlobals < s.heap.objs.size:=(I.mod.glob.keeps I.bk).lt
 exact Nat.lt_trans (by decide) h
theorem d_write {h':Heap} {t':Nat} {ob:HO} (I:Inv X pins σ H s) (mu:Mut (H a)) (hs:Heap.SameBut a s.heap h') (he:∃ q,h'.get? a=some q) (new:ObjOk X.prog X.w (upd H a ob) h' a ob) :
   Inv X pins σ (upd H a ob) { s with heap:=h',toks:=t' } :=
 I.write (x:=a) (e:=a) mu (.inl rfl) (fun b q hb z=>(hs.2 b hb).trans z) he new
theorem dk_new {P:Program} {w:World} {H':Hp} {h':Heap} {kvs:List (Key × V)} {vs:List (Key × Value)} (z:kvs.length <= sizeLine) (hd:(a == sysModules)=false) (rel:KV kvs vs) (dd:h'.DictOf (mixKind P w) a vs) :
   ObjOk P w H' h' a (.dK kvs):=⟨z,hd,vs,rel,dd⟩
theorem d_setItem {H':Hp} {Q:Unit->Shared->Prop} (hu:A.units + 1 < cLine) (I:Inv X pins σ H s) (g:DPut H a y v H') (ry:RelV y u) (rv:RelV v r) (h:∀ s',Inv X pins σ H' s'->Q () s') :
   wpAny (model X.prog X.w) A (setItem (.ref a) u r) Q E s:=by
 rcases g with ⟨kvs,k,e,ey,l,eH⟩ | ⟨kvs,k,b,e,ey,eb,l,eH⟩
 . subst ey eH
   obtain ⟨z,hd,vs,rel,dd⟩:=dk_of I.hok e
   have hz:vs.length <= sizeLine:=by rw [<- rel.length]; exact z
   have hl:(putK kvs k v).length <= sizeLine:=by have:=length_putK kvs k v; omega
   refine wpAny_setItem_pairs (hsz:=hz) (kV_is ry) dd fun h' dd' hs=>h _ ?_
   have he:∃ q,h'.get? a=some q:=let ⟨q,_,_,hq,_⟩:=dd'; ⟨q,hq⟩
   exact d_write I (by rw [e]; exact True.intro) hs he (dk_new hl hd (rel.put k rv) dd')
 . subst ey eH
   cases (show u=Value.ref b from ry)
   obtain ⟨z,hd,xs,rel,dd⟩:=dt_of I.hok e
   have hz:xs.length <= sizeLine:=by rw [<- Paired.length rel]; exact z
   have hl:(putK kvs k v).length <= sizeLine:=by have:=length_putK kvs k v; omega
   refine wpAny_setItem_heap (hsz:=hz) (tupleKind_room_in1 hu) (key_of I.hok eb) dd fun h' dd' hs=>h _ ?_
   obtain ⟨q,es,ep,hq,h2,h3,h4,_,h5⟩:=dd'
   refine d_write I (by rw [e]; exact True.intro) hs ⟨q,hq⟩ ⟨hl,hd,_,(rel.put k eb rv).keeps fun c ys ec=>?_,q,es,ep,hq,h2,h3,h4,h5⟩
   rw [upd_ne (ne_of ec e (fun z=>nomatch z))]
   exact ec
end
section
variable {X:Cx} {pins:List (Addr × Obj)} {σ:St} {H:Hp} {s:Shared} {a:Addr} {kvs:List (Key × V)} {k:Key} {u:Value} {A:Around} {E:Value->Shared->Prop}
end
section
variable {X:Cx} {o i e value:Expr} {pos pos' tpos:Pos} {td ty tv:TE}
end
theorem dk_empty {P:Program} {w:World} {H:Hp} (h:Heap) (hb:sysModules < h.objs.size):ObjOk P w H (h.push { cls:=.type "dict",data:=.dict #[] }) h.objs.size (.dK []) :=
 ⟨Nat.zero_le _,beq_eq_false_iff_ne.mpr (Ne.symm (Nat.ne_of_lt hb)),[],.nil,Heap.DictOf.new h⟩
noncomputable def tDNewK:TE:=fun _ H Q=>∀ p,H p=none->Q (.ref p) (upd H p (.dK []))
section
variable {X:Cx} {pos:Pos}
theorem pe_dnewK:PE X (.Dict [] [] pos) tDNewK:=fun pins s σ H Q I h =>
 wpAny_Dict_empty ⟨.ref s.heap.objs.size,_,I.laid (a:=s.heap.objs.size) (o:=.dK []) (t':=s.toks) (fun _ _ q=>Heap.get?_push_of_some _ q) (Nat.le_refl _) (dk_empty s.heap I.big),rfl,h _ (I.hok.fresh (Nat.le_refl _))⟩
end
structure M1 (X:Cx) (o:Expr) (m:Str) (apos:Pos) (e:Expr) (cpos:Pos):Prop where
 base:attributeBase o m X.env (eval o X.env)=eval o X.env
 few:((backTo cpos (starEach [e] X.env)).all (fun x=>!x.1) && (backToKw cpos (keywordEach [] X.env)).all (fun x=>x.1.isSome)
   && decide (([e]:List Expr).length + ([]:List Keyword).length + (if ([]:List Keyword).isEmpty then 0 else 1) < 30))=true
 line:(apos.endLine == cpos.line)=true
 trees:backTo cpos (starEach [e] X.env)=[(false,eval e X.env)]
structure M2 (X:Cx) (o:Expr) (m:Str) (apos:Pos) (e f:Expr) (cpos:Pos):Prop where
 base:attributeBase o m X.env (eval o X.env)=eval o X.env
 few:((backTo cpos (starEach [e,f] X.env)).all (fun x=>!x.1) && (backToKw cpos (keywordEach [] X.env)).all (fun x=>x.1.isSome)
   && decide (([e,f]:List Expr).length + ([]:List Keyword).length + (if ([]:List Keyword).isEmpty then 0 else 1) < 30))=true
 line:(apos.endLine == cpos.line)=true
 trees:backTo cpos (starEach [e,f] X.env)=[(false,eval e X.env),(false,eval f X.env)]
section
variable {X:Cx} {pins:List (Addr × Obj)} {σ:St} {H:Hp} {s:Shared} {a:Addr} {y d:V} {u r:Value} {o:Option V} {A:Around} {E:Value->Shared->Prop}
end
section
variable {X:Cx} {o e f:Expr} {apos cpos:Pos} {td ty tx:TE}
end
section
variable {X:Cx} {pins:List (Addr × Obj)} {σ:St} {H:Hp} {s:Shared} {a:Addr} {kvs:List (Key × V)} {A:Around} {E:Value->Shared->Prop}
end
section
variable {X:Cx} {pins:List (Addr × Obj)} {σ:St} {H:Hp} {s:Shared} {a:Addr} {y:V} {u:Value} {A:Around} {E:Value->Shared->Prop}
end
end L2
namespace L2
open PySem PySem.Spec PyProof.Rows
section
variable {κ:Type} [DecidableEq κ]
end
end L2
namespace L2
open PySem PySem.Spec PyProof.Rows
noncomputable def DObj (w:World) (od:Obj) (kvs:List (Key × V)):Prop:=kvs.length <= sizeLine /\ ∀ P:Program,∃ vs,KV kvs vs /\ od.IsDictOf (mixKind P w) vs
noncomputable def fzH (w:World) (a:Addr) (od:Obj) (kvs:List (Key × V)):HO:=.ext fun h=>h.get? a=some od /\ DObj w od kvs /\ (a == sysModules)=false
theorem pairs_any {P P':Program} {w:World} {es:List DictEntry} {vs:List (Key × Value)} (d:Pairs (mixKind P w) es vs):Pairs (mixKind P' w) es vs:=by
 induction d with
 | nil=>exact .nil
 | cons h1 h2 _ ih=>exact .cons h1 h2 ih
theorem getR {α β:Type} {F:α->β->Prop}:∀ {l:List α} {m:List β} {i:Nat} {b:β},Paired F l m->m[i]?=some b->∃ a,l[i]?=some a /\ F a b
 | _,_,_,_,.nil,e=>by simp at e
 | _,_,0,_,.cons h _,e=>by simp at e; subst e; exact ⟨_,rfl,h⟩
 | _,_,i + 1,_,.cons _ t,e=>by
   obtain ⟨a,h1,h2⟩:=getR (i:=i) t (by simpa using e)
   exact ⟨a,by simpa using h1,h2⟩
theorem mix_any {P P':Program} {w:World} {od:Obj} {vs:List (Key × Value)} (h:od.IsDictOf (mixKind P w) vs):od.IsDictOf (mixKind P' w) vs:=by
 obtain ⟨es,ep,a,b,c,d,e⟩:=h
 exact ⟨es,ep,a,b,c,pairs_any d,e⟩
section
variable {X:Cx} {pins:List (Addr × Obj)} {σ:St} {H:Hp} {s:Shared} {a d:Addr} {od:Obj} {kvs:List (Key × V)} {k:Key} {y v:V} {u r:Value} {A:Around} {E:Value->Shared->Prop}
theorem is_kV {P:Program} {w:World} {k:Key} {u:Value} (h:(mixKind P w).is k u=true):RelV (kV k) u:=by
 rcases keyIs_shape h with ⟨i,t,rfl,rfl⟩ | ⟨x,t,rfl,rfl⟩
 . exact ⟨t,rfl⟩
 . exact ⟨t,rfl⟩
theorem Inv.toFz (I:Inv X pins σ H s) (e:H a=some (.dK kvs)):∃ od,Inv X pins σ (upd H a (fzH X.w a od kvs)) s:=by
 obtain ⟨z,hd,vs,rel,dd⟩:=dk_of I.hok e
 obtain ⟨od,ho,hio⟩:=Heap.dictOf_iff.mp dd
 obtain ⟨hh,g,dr,t,os⟩:=s
 refine ⟨od,I.write (t':=t) (h':=hh) (x:=a) (e:=a) (by rw [e]; trivial) (.inl rfl) (fun b u _ q=>q) ⟨_,ho⟩ ⟨⟨ho,⟨z,fun P=>⟨vs,rel,mix_any hio⟩⟩,hd⟩,⟨_,ho⟩,fun h1 h2 p k=>⟨k _ p.1,p.2⟩⟩⟩
theorem fz_at (I:Inv X pins σ H s) (e:H a=some (fzH X.w a od kvs)):s.heap.get? a=some od /\ DObj X.w od kvs /\ (a == sysModules)=false:=(I.hok a _ e).1
theorem Inv.ofFz (I:Inv X pins σ H s) (e:H a=some (fzH X.w a od kvs)):Inv X pins σ (upd H a (.dK kvs)) s:=by
 obtain ⟨ho,⟨z,dz⟩,hd⟩:=fz_at I e
 obtain ⟨vs,rel,dd⟩:=dz X.prog
 obtain ⟨hh,g,dr,t,os⟩:=s
 exact I.write (t':=t) (h':=hh) (x:=a) (e:=a) (by rw [e]; trivial) (.inl rfl) (fun b u _ q=>q) ⟨_,ho⟩ ⟨z,hd,vs,rel,Heap.dictOf_iff.mpr ⟨od,ho,dd⟩⟩
noncomputable def RdK (w:World) (H:Hp) (a:Addr) (kvs:List (Key × V)):Prop:=H a=some (.dK kvs) \/ ∃ od,H a=some (fzH w a od kvs)
theorem rdK (I:Inv X pins σ H s) (e:RdK X.w H a kvs):kvs.length <= sizeLine /\ (a == sysModules)=false /\ ∃ vs,KV kvs vs /\ s.heap.DictOf (mixKind X.prog X.w) a vs:=by
 rcases e with e | ⟨od,e⟩
 . exact dk_of I.hok e
 . obtain ⟨ho,⟨z,dz⟩,hd⟩:=fz_at I e
   obtain ⟨vs,rel,dd⟩:=dz X.prog
   exact ⟨z,hd,vs,rel,Heap.dictOf_iff.mpr ⟨od,ho,dd⟩⟩
theorem k_in {Q:Value->Shared->Prop} (I:Inv X pins σ H s) (g:RdK X.w H a kvs) (ry:RelV (kV k) u) (h:∀ s',Inv X pins σ H s'->Q (.bool (valV kvs k).isSome) s'):wpAny (model X.prog X.w) A (compareOp .In u (.ref a)) Q E s:=by
 obtain ⟨z,hd,vs,rel,dd⟩:=rdK I g
 refine wpAny_in_of (kV_is ry) hd dd.mapOf ?_
 rw [<- (rel.val k).isSome_eq]
 exact h _ (I.tok _)
noncomputable def viewH (p d:Addr):HO:=.ext fun h=>h.get? p=some { cls:=.type "dict_items",data:=.fields #[.ref d] }
noncomputable def rItems (w:World):V->List V->Hp->VK->Prop:=fun x xs H Q=>∃ d kvs,x=.ref d /\ xs=[] /\ H d=some (.dK kvs) /\ ∀ p,H p=none->Q (.ref p) (upd H p (viewH p d))
theorem mt_items:MtR X "dict.items" (rItems X.w):=by
 rintro pins s σ H x xs v us Q I rx rs ⟨d,kvs,ex,exs,ed,q⟩
 subst ex exs
 cases rs
 cases (show v=Value.ref d from rx)
 obtain ⟨z,hd,vs,rel,dd⟩:=dk_of I.hok ed
 refine call_meetsIn PySem.F.slot_dict_items dd.typeIs PySem.F.entry_dict_items (PySem.F.args_dict_items_1 _) (meets_dict_items (mixKind X.prog X.w) d hd) ⟨⟨vs,dd⟩,?_⟩
 refine ⟨.ref s.heap.objs.size,_,I.laid (o:=viewH s.heap.objs.size d) (t':=s.toks) (fun b u e=>Heap.get?_push_of_some _ e) (Nat.le_refl _) ⟨Heap.get?_push_size _ rfl,⟨_,Heap.get?_push_size _ rfl⟩,fun h1 h2 p k=>k _ p⟩,rfl,q _ (I.hok.fresh (Nat.le_refl _))⟩
noncomputable def ItP (w:World) (d:Addr) (od:Obj) (kvs:List (Key × V)):It :=
 ⟨fun i H=>H d=some (fzH w d od kvs) /\ i < kvs.length,fun i H x H'=>∃ p kv,kvs[i]?=some kv /\ H p=none /\ x=.ref p /\ H'=upd H p (.tup [kV kv.1,kv.2]),fun i H=>H d=some (fzH w d od kvs) /\ kvs.length <= i⟩
theorem turn_pairs {P:Program} {w:World} {K:PySem.W.Frag} {elts:List Expr} {x1:Nat} {tpos:Pos} {vs:List (Key × Value)} {ep:Nat} (d it:Addr) (od:Obj) (kvs:List (Key × V)) (rel:KV kvs vs) (hne:d ≠ it) (hod:∀ h:Heap,h.get? d=some od->h.DictAt (mixKind P w) d vs ep) :
   Turn P w K (.Tuple elts x1 tpos) (ItP w d od kvs) [it] it (fun i h=>∃ ok ov,IsItemIter h it d i vs.length ep ok ov) where
 mem:=by simp
 obj:=fun i h st b hb=>by
   obtain rfl:b=it:=by simpa using hb
   obtain ⟨ok,ov,e⟩:=st
   exact ⟨_,e,fun v z=>by cases z⟩
 keep:=fun i h h' zz45 k=>by obtain ⟨ok,ov,e⟩:=zz45; exact ⟨ok,ov,k it (by simp) _ e⟩
 item:=by
   rintro X hP hw hK hc i pins s σ H E I hf ⟨ok,ov,st⟩ ⟨hg,hi⟩
   subst hP hw hK
   have hl:i < vs.length:=by rw [<- rel.length]; exact hi
   obtain ⟨⟨k,x⟩,hx⟩:∃ p,vs[i]?=some p:=⟨vs[i],by simp [hl]⟩
   obtain ⟨f0,f1,f2,f3,f4,f5⟩:=hf it (by simp)
   refine wpAny_pyNext_items_item st (hod _ (fz_at I hg).1) hx fun key h' hkey st' ht hsz sb=>?_
   refine ⟨_,rfl,wpAny_letOwnedTupleGo_items st' fun h2 st2 sb2=>?_⟩
   have hit:it < s.heap.objs.size:=Heap.lt_size st
   obtain ⟨kv,e1,e2,e3⟩:∃ kv,kvs[i]?=some kv /\ kv.1=k /\ RelV kv.2 x:=by
     obtain ⟨kv,z1,z2⟩:=getR rel hx
     exact ⟨kv,z1,z2.1,z2.2⟩
   have ht2:h2.get? s.heap.objs.size=some { cls:=.type "tuple",data:=.seq #[key,x] }:=(sb2.2 _ (Nat.ne_of_gt hit)).trans ht
   have Im:Inv X pins σ (upd H s.heap.objs.size (.tup [kV kv.1,kv.2])) { s with heap:=s.heap.push { cls:=.type "tuple",data:=.seq #[key,x] },toks:=s.toks } :=
     I.laid (t':=s.toks) (fun b u e=>Heap.get?_push_of_some _ e) (Nat.le_refl _) ⟨by show 2 <= sizeLine; decide,[key,x],.cons (by rw [e2]; exact is_kV hkey) (.cons e3 .nil),⟨_,Heap.get?_push_size _ rfl,rfl,_,rfl⟩⟩
   have I2:Inv X pins σ (upd H s.heap.objs.size (.tup [kV kv.1,kv.2])) { s with heap:=h2 }:=by
     refine Im.turned (t':=s.toks) (fun b o hb e=>?_) (by rw [upd_ne (Nat.ne_of_lt hit)]; exact f0) f1 f3 f4 f5
     by_cases hbs:b=s.heap.objs.size
     . subst hbs
       rw [show ({ s with heap:=s.heap.push { cls:=.type "tuple",data:=.seq #[key,x] },toks:=s.toks }:Shared).heap.get? s.heap.objs.size=some { cls:=.type "tuple",data:=.seq #[key,x] } from Heap.get?_push_size _ rfl] at e
       cases e; exact ht2
     . exact (sb2.2 b hb).trans (sb b o hb (by rw [<- Heap.get?_push_ne _ _ _ hbs]; exact e))
   refine ⟨.ref s.heap.objs.size,_,I2,rfl,⟨s.heap.objs.size,kv,e1,I.hok.fresh (Nat.le_refl _),rfl,rfl⟩,⟨_,_,st2⟩,fun b hb=>?_⟩
   obtain rfl:b=it:=by simpa using hb
   rw [upd_ne (Nat.ne_of_lt hit)]; exact f0
 done:=by
   rintro X hP hw hK hc i pins s σ H E I hf ⟨ok,ov,st⟩ ⟨hg,hi⟩
   subst hP hw hK
   obtain ⟨f0,f1,f2,f3,f4,f5⟩:=hf it (by simp)
   refine wpAny_pyNext_items_end (I.ok.hd hc) st (hod _ (fz_at I hg).1) (List.getElem?_eq_none (by rw [<- rel.length]; exact hi)) fun h' eb=>⟨rfl,I.turned (t':=s.toks) (fun b o hb e=>eb b o hb e) f0 f1 f3 f4 f5⟩
 self:=fun A i s Q E zz46 h=>by obtain ⟨ok,ov,st⟩:=zz46; exact PySem.W.kcp_self st h
noncomputable def tiP (w:World) (te:TE):TI:=fun σ H R=>te σ H fun x H1=>∃ p d kvs,x=.ref p /\ H1 p=some (viewH p d) /\ H1 d=some (.dK kvs) /\ ∀ od,R (ItP w d od kvs) (upd H1 d (fzH w d od kvs))
theorem pi_pairs {e:Expr} {te:TE} {elts:List Expr} {x1:Nat} {tpos:Pos} (he:PE X e te):PI X (.Tuple elts x1 tpos) e (tiP X.w te):=by
 intro pins s σ H R I h
 refine thn (he pins s σ H _ I h) fun v s1 zz47=>?_
 obtain ⟨x,H1,I1,r1,p,d,kvs,ex,ep,ed,hR⟩:=zz47
 subst ex
 cases (show v=Value.ref p from r1)
 have hv:s1.heap.get? p=some { cls:=.type "dict_items",data:=.fields #[.ref d] }:=(I1.hok p _ ep).1
 obtain ⟨od,I2⟩:=I1.toFz ed
 obtain ⟨ho,⟨z,dz⟩,hd⟩:=fz_at I2 upd_same
 obtain ⟨vs,rel,es,ep',q1,q2,q3,q4,q5⟩:=dz X.prog
 have at_:∀ h:Heap,h.get? d=some od->h.DictAt (mixKind X.prog X.w) d vs ep':=fun h e=>⟨od,es,e,q1,q2,q3,q4,q5⟩
 refine wpAny_pyIter_items ⟨_,hv,rfl,rfl⟩ (at_ _ ho) ?_
 have hlt:d < s1.heap.objs.size:=Heap.lt_size ho
 have I3:Inv X pins σ (upd H1 d (fzH X.w d od kvs)) { s1 with heap:=s1.heap.push { cls:=.type "dict_itemiterator",data:=.fields #[.none,.bool false,.ref d,.int 0 0,.int vs.length 0,.int ep' 0,.none,.none] } }:=I2.kept (t':=s1.toks) fun b u e=>Heap.get?_push_of_some _ e
 refine ⟨s1.heap.objs.size,[s1.heap.objs.size],_,_,_,rfl,I3,turn_pairs d _ od kvs rel (Nat.ne_of_lt hlt) at_,⟨.none,.none,Heap.get?_push_size _ rfl⟩,fun b hb=>?_,hR od⟩
 obtain rfl:b=s1.heap.objs.size:=by simpa using hb
 exact I2.fpOk (Nat.le_refl _) (I2.hok.fresh (Nat.le_refl _))
theorem PE.unf {e:Expr} {t:TE} (h:PE X e t):PE X e (fun σ H Q=>t σ H fun v H'=>∃ d od kvs,H' d=some (fzH X.w d od kvs) /\ Q v (upd H' d (.dK kvs))):=fun pins s σ H Q I q =>
 thn (h pins s σ H _ I q) fun u s' zz48=>by obtain ⟨v,H',I',r,d,od,kvs,e,q'⟩:=zz48; exact ⟨v,_,I'.ofFz e,r,q'⟩
theorem PS.unf {st:Stmt} {t:TS} (h:PS X st t):PS X st (fun D σ H=>t { D with nx:=fun σ' H'=>∃ d od kvs,H' d=some (fzH X.w d od kvs) /\ D.nx σ' (upd H' d (.dK kvs)) } σ H):=fun pins s σ H D I q =>
 thn (h pins s σ H _ I q) fun fl s' sp=>by
   cases fl with
   | next =>
     obtain ⟨σ',H',I',d,od,kvs,e,q'⟩:=sp
     exact ⟨σ',_,I'.ofFz e,q'⟩
   | brk=>exact sp
   | cont=>exact sp
   | ret u=>exact sp
end
end L2
namespace T2
open PySem L2
inductive T where
 | non | bl (b:Bool) | int (i:Int) | str (x:Str) | tup (ts:List T) | lst (ts:List T) | scr (ns:List Int) | ref (a:Addr) | ty (n:String)
inductive O where
 | lst (ts:List T) | dK (kvs:List (Key × T)) | dT (kvs:List (List Key × T)) | ins (C:Addr) (fs:List (Str × T))
   | fK (w:World) (od:Obj) (vs:List (Key × V)) (kvs:List (Key × T))
   | exc (C:Addr) (fs:List (Str × T))
   | exg (C:Addr) (r:Int)
noncomputable def xObj (C t0:Addr) (dx:Option Addr):Obj:={ cls:=.ref C,dict:=dx,data:=.fields #[.ref t0,.none,.none,.none,.bool false,.none] }
noncomputable def xH (C a:Addr) (dx:Option Addr):HO:=.ext fun h=>∃ t0,h.get? a=some (xObj C t0 dx)
noncomputable def _root_.L2.xG (C a dx:Addr):HO:=.ext fun h=>∃ ob,h.get? a=some ob /\ ob.cls=.ref C /\ ob.dict=some dx /\ ∃ vs,ob.data=.fields vs
noncomputable abbrev Sto:=Addr->Option O
noncomputable def put (S:Sto) (a:Addr) (o:O):Sto:=fun b=>if b=a then some o else S b
theorem put_same {S:Sto} {a:Addr} {o:O}:put S a o a=some o:=by unfold put; rw [if_pos rfl]
theorem put_ne {S:Sto} {a b:Addr} {o:O} (h:b ≠ a):put S a o b=S b:=by unfold put; rw [if_neg h]
theorem put_put {S:Sto} {a:Addr} {o u:O}:put (put S a o) a u=put S a u:=by
 funext b; unfold put; split <;> rfl
noncomputable abbrev Fg:=PySem.W.Frag
noncomputable def Scr (K:Fg) (H:Hp) (S:Sto) (p:Addr) (ns:List Int):Prop:=(S p=none /\ ∃ o,H p=some (.frz o (.lst (ns.map V.int)))) \/ SqL K (fun _=>none) p (ns.map V.int)
mutual
inductive Rp (K:Fg) (H:Hp) (S:Sto):T->V->Prop
 | non:Rp K H S .non .non
 | bl {b}:Rp K H S (.bl b) (.bl b)
 | int {i}:Rp K H S (.int i) (.int i)
 | str {x}:Rp K H S (.str x) (.str x)
 | ty {n}:Rp K H S (.ty n) (.ty n)
 | ref {a}:Rp K H S (.ref a) (.ref a)
 | tup {p ts vs}:S p=none->H p=some (.tup vs)->Rps K H S ts vs->Rp K H S (.tup ts) (.ref p)
 | lst {p ts vs}:S p=none->H p=some (.lst vs)->Rps K H S ts vs->Rp K H S (.lst ts) (.ref p)
 | scr {p ns}:Scr K H S p ns->Rp K H S (.scr ns) (.ref p)
inductive Rps (K:Fg) (H:Hp) (S:Sto):List T->List V->Prop
 | nil:Rps K H S [] []
 | cons {t v ts vs}:Rp K H S t v->Rps K H S ts vs->Rps K H S (t :: ts) (v :: vs)
end
noncomputable def Fr (H:Hp) (S:Sto) (H':Hp) (S':Sto):Prop:=∀ a o,H a=some o->S a=none->H' a=some o /\ S' a=none
theorem Fr.refl {H S}:Fr H S H S:=fun _ _ h n=>⟨h,n⟩
theorem Fr.trans {H S H1 S1 H2 S2} (f:Fr H S H1 S1) (g:Fr H1 S1 H2 S2):Fr H S H2 S2:=fun a o h n=>by
 obtain ⟨h1,n1⟩:=f a o h n
 exact g a o h1 n1
section
variable {K:Fg} {H H':Hp} {S S':Sto}
theorem Scr.fr {p ns} (h:Scr K H S p ns) (f:Fr H S H' S'):Scr K H' S' p ns:=by
 rcases h with ⟨n,o,e⟩ | h
 . obtain ⟨e',n'⟩:=f p _ e n
   exact .inl ⟨n',o,e'⟩
 . exact .inr h
theorem Scr.sq {p ns} (h:Scr K H S p ns):SqL K H p (ns.map V.int):=by
 rcases h with ⟨_,o,e⟩ | h
 . exact .inl (.inr ⟨o,e⟩)
 . rcases h with (h | ⟨o,h⟩) | h
   . cases h
   . cases h
   . exact .inr h
mutual
theorem Rp.fr (f:Fr H S H' S'):∀ {t v},Rp K H S t v->Rp K H' S' t v
 | _,_,.non=>.non
 | _,_,.bl=>.bl
 | _,_,.int=>.int
 | _,_,.str=>.str
 | _,_,.ty=>.ty
 | _,_,.ref=>.ref
 | _,_,.tup n h r=>.tup (f _ _ h n).2 (f _ _ h n).1 (Rps.fr f r)
 | _,_,.lst n h r=>.lst (f _ _ h n).2 (f _ _ h n).1 (Rps.fr f r)
 | _,_,.scr h=>.scr (h.fr f)
theorem Rps.fr (f:Fr H S H' S'):∀ {ts vs},Rps K H S ts vs->Rps K H' S' ts vs
 | _,_,.nil=>.nil
 | _,_,.cons a b=>.cons (Rp.fr f a) (Rps.fr f b)
end
theorem Rps.length:∀ {ts vs},Rps K H S ts vs->vs.length=ts.length
 | _,_,.nil=>rfl
 | _,_,.cons _ b=>by simp [Rps.length b]
theorem Rps.append:∀ {ts vs us ws},Rps K H S ts vs->Rps K H S us ws->Rps K H S (ts ++ us) (vs ++ ws)
 | _,_,_,_,.nil,r=>r
 | _,_,_,_,.cons a b,r=>.cons a (Rps.append b r)
theorem Rps.drop:∀ {ts vs} (n:Nat),Rps K H S ts vs->Rps K H S (ts.drop n) (vs.drop n)
 | _,_,0,r=>r
 | _,_,_ + 1,.nil=>.nil
 | _,_,n + 1,.cons _ b=>Rps.drop n b
theorem Rps.take:∀ {ts vs} (n:Nat),Rps K H S ts vs->Rps K H S (ts.take n) (vs.take n)
 | _,_,0,_=>.nil
 | _,_,_ + 1,.nil=>.nil
 | _,_,n + 1,.cons a b=>.cons a (Rps.take n b)
theorem Rps.set {t v} (r:Rp K H S t v):∀ {ts vs} (i:Nat),Rps K H S ts vs->Rps K H S (ts.set i t) (vs.set i v)
 | _,_,_,.nil=>.nil
 | _,_,0,.cons _ b=>.cons r b
 | _,_,i + 1,.cons a b=>.cons a (Rps.set r i b)
theorem Rps.get:∀ {ts vs} {i:Nat} {t},Rps K H S ts vs->ts[i]?=some t->∃ v,vs[i]?=some v /\ Rp K H S t v
 | _,_,_,_,.nil,e=>by simp at e
 | _,_,0,_,.cons a _,e=>by simp at e; subst e; exact ⟨_,rfl,a⟩
 | _,_,i + 1,_,.cons _ b,e=>by
   obtain ⟨v,h1,h2⟩:=Rps.get (i:=i) b (by simpa using e)
   exact ⟨v,by simpa using h1,h2⟩
theorem Rps.getV:∀ {ts vs} {i:Nat} {v},Rps K H S ts vs->vs[i]?=some v->∃ t,ts[i]?=some t /\ Rp K H S t v
 | _,_,_,_,.nil,e=>by simp at e
 | _,_,0,_,.cons a _,e=>by simp at e; subst e; exact ⟨_,rfl,a⟩
 | _,_,i + 1,_,.cons _ b,e=>by
   obtain ⟨v,h1,h2⟩:=Rps.getV (i:=i) b (by simpa using e)
   exact ⟨v,by simpa using h1,h2⟩
theorem Rps.ints {ns:List Int}:Rps K H S (ns.map T.int) (ns.map V.int):=by
 induction ns with
 | nil=>exact .nil
 | cons a l ih=>exact .cons .int ih
theorem Rps.strs {ns:List Str}:Rps K H S (ns.map T.str) (ns.map V.str):=by
 induction ns with
 | nil=>exact .nil
 | cons a l ih=>exact .cons .str ih
theorem Rps.reverse {ts vs} (r:Rps K H S ts vs):Rps K H S ts.reverse vs.reverse:=by
 induction r using Rps.rec (motive_1:=fun _ _ _=>True) with
 | nil=>exact .nil
 | cons a b _ ih=>simp only [List.reverse_cons]; exact ih.append (.cons a .nil)
 | _=>trivial
end
inductive ORp (K:Fg) (H:Hp) (S:Sto) (a:Addr):O->Prop
 | lst {ts vs}:H a=some (.lst vs)->Rps K H S ts vs->ORp K H S a (.lst ts)
 | dK {kvs kts}:H a=some (.dK kvs)->Paired (fun (p:Key × T) (q:Key × V)=>p.1=q.1 /\ Rp K H S p.2 q.2) kts kvs->ORp K H S a (.dK kts)
 | dT {kvs kts}:H a=some (.dT kvs)->Paired (fun (p:List Key × T) (q:List Key × V)=>p.1=q.1 /\ Rp K H S p.2 q.2) kts kvs->ORp K H S a (.dT kts)
 | fK {w od kvs kts}:H a=some (fzH w a od kvs)->Paired (fun (p:Key × T) (q:Key × V)=>p.1=q.1 /\ Rp K H S p.2 q.2) kts kvs->ORp K H S a (.fK w od kvs kts)
 | ins {C dx fs fts}:H a=some (.ins C dx fs)->Paired (fun (p:Str × T) (q:Str × V)=>p.1=q.1 /\ Rp K H S p.2 q.2) fts fs->ORp K H S a (.ins C fts)
 | exc0 {C}:H a=some (xH C a none)->ORp K H S a (.exc C [])
 | exc {C dx fs fts}:fts ≠ []->H a=some (xH C a (some dx))->S dx=none->H dx=some (.xd fs)->Paired (fun (p:Str × T) (q:Str × V)=>p.1=q.1 /\ Rp K H S p.2 q.2) fts fs->ORp K H S a (.exc C fts)
 | exg {C dx r}:H a=some (xG C a dx)->S dx=none->H dx=some (.xd [("row",.int r)])->ORp K H S a (.exg C r)
section
variable {K:Fg} {H:Hp} {S:Sto} {v:V} {a:Addr}
theorem Rp.iint {i:Int} (r:Rp K H S (.int i) v):v=.int i:=by cases r; rfl
theorem Rp.istr {x:Str} (r:Rp K H S (.str x) v):v=.str x:=by cases r; rfl
theorem Rp.itup {ts:List T} (r:Rp K H S (.tup ts) v):∃ p vs,v=.ref p /\ H p=some (.tup vs) /\ Rps K H S ts vs:=by cases r with | tup n h p=>exact ⟨_,_,rfl,h,p⟩
end
noncomputable def SRp (K:Fg) (H:Hp) (S:Sto):Prop:=∀ a o,S a=some o->ORp K H S a o
section
variable {K:Fg} {H H':Hp} {S S':Sto} {a:Addr} {o:O}
theorem ORp.some (r:ORp K H S a o):∃ u,H a=some u:=by cases r <;> exact ⟨_,‹H a=some _›⟩
theorem SRp.fresh (s:SRp K H S) (h:H a=none):S a=none:=by
 cases e:S a with
 | none=>rfl
 | some o=>obtain ⟨u,q⟩:=(s a o e).some; rw [h] at q; cases q
theorem ORp.fr (r:ORp K H S a o) (f:Fr H S H' S') (h:H' a=H a):ORp K H' S' a o:=by
 cases r with
 | lst e q=>exact .lst (h.trans e) (q.fr f)
 | dK e q=>exact .dK (h.trans e) (Paired.mapP q fun _ _ z=>⟨z.1,z.2.fr f⟩)
 | dT e q=>exact .dT (h.trans e) (Paired.mapP q fun _ _ z=>⟨z.1,z.2.fr f⟩)
 | fK e q=>exact .fK (h.trans e) (Paired.mapP q fun _ _ z=>⟨z.1,z.2.fr f⟩)
 | ins e q=>exact .ins (h.trans e) (Paired.mapP q fun _ _ z=>⟨z.1,z.2.fr f⟩)
 | exc0 e=>exact .exc0 (h.trans e)
 | exc ne e n ed q=>exact .exc ne (h.trans e) (f _ _ ed n).2 (f _ _ ed n).1 (Paired.mapP q fun _ _ z=>⟨z.1,z.2.fr f⟩)
 | exg e n ed=>exact .exg (h.trans e) (f _ _ ed n).2 (f _ _ ed n).1
theorem Fr.new {p:Addr} {u:HO} (h:H p=none):Fr H S (upd H p u) S:=fun a o e n=>⟨by rw [upd_ne (ne_of_none e h)]; exact e,n⟩
theorem SRp.new {p:Addr} {u:HO} (s:SRp K H S) (h:H p=none):SRp K (upd H p u) S:=fun a o e=>by
 obtain ⟨x,hx⟩:=(s a o e).some
 exact (s a o e).fr (Fr.new h) (upd_ne (ne_of_none hx h))
theorem Fr.newT {p:Addr} {u:HO} {o:O} (h:H p=none):Fr H S (upd H p u) (put S p o):=fun a _ e n =>
 ⟨by rw [upd_ne (ne_of_none e h)]; exact e,by rw [put_ne (ne_of_none e h)]; exact n⟩
theorem SRp.newT {p:Addr} {u:HO} {o:O} (s:SRp K H S) (h:H p=none) (n:ORp K (upd H p u) (put S p o) p o):SRp K (upd H p u) (put S p o):=fun a o' e=>by
 by_cases ha:a=p
 . subst ha; rw [put_same] at e; cases e; exact n
 . rw [put_ne ha] at e
   exact (s a o' e).fr (Fr.newT h) (upd_ne ha)
theorem Fr.write {p:Addr} {u:HO} {o:O} (h:S p ≠ none):Fr H S (upd H p u) (put S p o):=fun a _ e n =>
 have ne:a ≠ p:=fun z=>by subst z; exact h n
 ⟨by rw [upd_ne ne]; exact e,by rw [put_ne ne]; exact n⟩
theorem SRp.write {p:Addr} {u:HO} {o:O} (s:SRp K H S) (h:S p ≠ none) (n:ORp K (upd H p u) (put S p o) p o):SRp K (upd H p u) (put S p o):=fun a o' e=>by
 by_cases ha:a=p
 . subst ha; rw [put_same] at e; cases e; exact n
 . rw [put_ne ha] at e
   exact (s a o' e).fr (Fr.write h) (upd_ne ha)
noncomputable def Le (S0 S:Sto):Prop:=∀ a o,S0 a=some o->S a=some o
theorem Le.refl {S}:Le S S:=fun _ _ h=>h
theorem Le.none {S0 S:Sto} (l:Le S0 S) {a:Addr} (h:S a=none):S0 a=none:=by
 cases e:S0 a with
 | none=>rfl
 | some o=>rw [l a o e] at h; cases h
theorem Fr.le {S0:Sto} (l:Le S0 S):Fr H S H S0:=fun _ _ h n=>⟨h,l.none n⟩
theorem SRp.le {S0:Sto} (s:SRp K H S) (l:Le S0 S):SRp K H S0:=fun a o e=>(s a o (l a o e)).fr (Fr.le l) rfl
end
noncomputable abbrev StT:=List (Option T)
noncomputable abbrev WE:=StT->Sto->(T->Sto->Prop)->Prop
noncomputable abbrev WT:=StT->Sto->(Bool->Sto->Prop)->Prop
noncomputable abbrev WA:=StT->Sto->(List T->Sto->Prop)->Prop
structure EndsT where
 nx:StT->Sto->Prop
 rt:T->Sto->Prop
 bk:StT->Sto->Prop:=fun _ _=>False
 ct:StT->Sto->Prop:=fun _ _=>False
noncomputable abbrev WS:=EndsT->StT->Sto->Prop
noncomputable def Cov (K:Fg) (H:Hp) (S:Sto) (σ:St) (σt:StT):Prop:=σt.length=σ.length /\ ∀ (i:Nat) (t:T),σt[i]?=some (some t)->∃ v:V,σ[i]?=some (some v) /\ Rp K H S t v
theorem Cov.fr {K H S H' S' σ σt} (c:Cov K H S σ σt) (f:Fr H S H' S'):Cov K H' S' σ σt:=⟨c.1,fun i t e=>by
 obtain ⟨v,h,r⟩:=c.2 i t e
 exact ⟨v,h,r.fr f⟩⟩
theorem Cov.set {K H S σ σt t v} (c:Cov K H S σ σt) (r:Rp K H S t v) (i:Nat):Cov K H S (σ.set i (some v)) (σt.set i (some t)):=by
 refine ⟨by simp [c.1],fun j u e=>?_⟩
 by_cases h:i=j
 . subst h
   by_cases hl:i < σt.length
   . rw [List.getElem?_set_self hl] at e
     cases e
     exact ⟨v,List.getElem?_set_self (by rw [<- c.1]; exact hl),r⟩
   . rw [List.getElem?_eq_none (by simp; omega)] at e; cases e
 . rw [List.getElem?_set_ne h] at e ⊢
   exact c.2 j u e
noncomputable abbrev Bh (K:Fg) (H:Hp) (S:Sto) (Qt:T->Sto->Prop) (Q:VK):Prop:=∀ v H' t S',Fr H S H' S'->SRp K H' S'->Rp K H' S' t v->Qt t S'->Q v H'
noncomputable def lE (K:Fg) (w:WE):TE:=fun σ H Q=>∃ S σt Qt,SRp K H S /\ Cov K H S σ σt /\ w σt S Qt /\ Bh K H S Qt Q
noncomputable def lT (K:Fg) (w:WT):TT:=fun σ H Q=>∃ S σt Qt,SRp K H S /\ Cov K H S σ σt /\ w σt S Qt /\ ∀ b H' S',Fr H S H' S'->SRp K H' S'->Qt b S'->Q b H'
noncomputable def lA (K:Fg) (w:WA):TA:=fun σ H Q=>∃ S σt Qt,SRp K H S /\ Cov K H S σ σt /\ w σt S Qt /\ ∀ vs H' ts S',Fr H S H' S'->SRp K H' S'->Rps K H' S' ts vs->Qt ts S'->Q vs H'
structure EndsOk (K:Fg) (H:Hp) (S:Sto) (Dt:EndsT) (D:Ends):Prop where
 nx:∀ σ' H' σt' S',Fr H S H' S'->SRp K H' S'->Cov K H' S' σ' σt'->Dt.nx σt' S'->D.nx σ' H'
 rt:∀ v H' t S',Fr H S H' S'->SRp K H' S'->Rp K H' S' t v->Dt.rt t S'->D.rt v H'
 bk:∀ σ' H' σt' S',Fr H S H' S'->SRp K H' S'->Cov K H' S' σ' σt'->Dt.bk σt' S'->D.bk σ' H'
 ct:∀ σ' H' σt' S',Fr H S H' S'->SRp K H' S'->Cov K H' S' σ' σt'->Dt.ct σt' S'->D.ct σ' H'
theorem EndsOk.fr {K H S H' S' Dt D} (e:EndsOk K H S Dt D) (f:Fr H S H' S'):EndsOk K H' S' Dt D :=
 ⟨fun σ' H2 σt' S2 g=>e.nx σ' H2 σt' S2 (f.trans g),fun v H2 t S2 g=>e.rt v H2 t S2 (f.trans g),fun σ' H2 σt' S2 g=>e.bk σ' H2 σt' S2 (f.trans g),fun σ' H2 σt' S2 g=>e.ct σ' H2 σt' S2 (f.trans g)⟩
noncomputable def lS (K:Fg) (w:WS):TS:=fun D σ H=>∃ S σt Dt,SRp K H S /\ Cov K H S σ σt /\ w Dt σt S /\ EndsOk K H S Dt D
noncomputable def QE (K:Fg) (X:Cx) (e:Expr) (w:WE):Prop:=PE X e (lE K w)
noncomputable def QT (K:Fg) (X:Cx) (e:Expr) (w:WT):Prop:=PT X e (lT K w)
noncomputable def QW (K:Fg) (X:Cx) (e:Expr) (w:WT):Prop:=PW X e (lT K w)
noncomputable def QA (K:Fg) (X:Cx) (es:List Expr) (w:WA):Prop:=PA X es (lA K w)
noncomputable def QS (K:Fg) (X:Cx) (st:Stmt) (w:WS):Prop:=PS X st (lS K w)
noncomputable def QSs (K:Fg) (X:Cx) (st:List Stmt) (w:WS):Prop:=PSs X st (lS K w)
theorem PE.of {X:Cx} {e:Expr} {t t':TE} (h:PE X e t) (i:∀ σ H Q,t' σ H Q->t σ H Q):PE X e t':=fun pins s σ H Q I q=>h pins s σ H Q I (i σ H Q q)
theorem PT.of {X:Cx} {e:Expr} {t t':TT} (h:PT X e t) (i:∀ σ H Q,t' σ H Q->t σ H Q):PT X e t':=fun pins s σ H Q I q=>h pins s σ H Q I (i σ H Q q)
theorem PW.of {X:Cx} {e:Expr} {t t':TT} (h:PW X e t) (i:∀ σ H Q,t' σ H Q->t σ H Q):PW X e t':=fun wh pins s σ H Q I q=>h wh pins s σ H Q I (i σ H Q q)
theorem PA.of {X:Cx} {e:List Expr} {t t':TA} (h:PA X e t) (i:∀ σ H Q,t' σ H Q->t σ H Q):PA X e t':=fun p pins s σ H Q I q=>h p pins s σ H Q I (i σ H Q q)
theorem PS.of {X:Cx} {e:Stmt} {t t':TS} (h:PS X e t) (i:∀ D σ H,t' D σ H->t D σ H):PS X e t':=fun pins s σ H D I q=>h pins s σ H D I (i D σ H q)
theorem PSs.of {X:Cx} {e:List Stmt} {t t':TS} (h:PSs X e t) (i:∀ D σ H,t' D σ H->t D σ H):PSs X e t':=fun pins s σ H D I q=>h pins s σ H D I (i D σ H q)
section
variable {K:Fg} {X:Cx} {a b c e:Expr} {wa wb wc:WE} {pos:Pos}
noncomputable def wV (i:Nat):WE:=fun σ S Q=>∃ t,σ[i]?=some (some t) /\ Q t S
noncomputable def wC (t:T):WE:=fun _ S Q=>Q t S
theorem q_var {i:Nat} {x:Str} (h:PE X (.Name x pos) (tVar i)):QE K X (.Name x pos) (wV i):=PE.of h fun σ H Q zz49=>by
 obtain ⟨S,σt,Qt,s,c,⟨t,e,q⟩,hq⟩:=zz49
 obtain ⟨v,e2,r⟩:=c.2 i t e
 exact ⟨v,e2,hq v H t S .refl s r q⟩
theorem q_int {i j}:QE K X (.Constant (.int i) j pos) (wC (.int i)):=PE.of pe_int fun σ H Q zz50=>by obtain ⟨S,σt,Qt,s,c,q,hq⟩:=zz50; exact hq _ H _ S .refl s .int q
theorem q_bl {i j}:QE K X (.Constant (.bool i) j pos) (wC (.bl i)):=PE.of pe_bl fun σ H Q zz51=>by obtain ⟨S,σt,Qt,s,c,q,hq⟩:=zz51; exact hq _ H _ S .refl s .bl q
theorem q_non {j}:QE K X (.Constant .none j pos) (wC .non):=PE.of pe_non fun σ H Q zz52=>by obtain ⟨S,σt,Qt,s,c,q,hq⟩:=zz52; exact hq _ H _ S .refl s .non q
theorem q_str {x j}:QE K X (.Constant (.str x) j pos) (wC (.str x)):=PE.of pe_str fun σ H Q zz53=>by obtain ⟨S,σt,Qt,s,c,q,hq⟩:=zz53; exact hq _ H _ S .refl s .str q
theorem q_glob {x:Str} {t:T} {v:V} (h:PE X (.Name x pos) (tC v)) (r:∀ H S,Rp K H S t v):QE K X (.Name x pos) (wC t):=PE.of h fun σ H Q zz54=>by obtain ⟨S,σt,Qt,s,c,q,hq⟩:=zz54; exact hq _ H _ S .refl s (r _ _) q
noncomputable abbrev G2:=T->T->Sto->(T->Sto->Prop)->Prop
noncomputable def l2 (K:Fg) (g:G2):R2:=fun x y H Q=>∃ S tx ty Qt,SRp K H S /\ Rp K H S tx x /\ Rp K H S ty y /\ g tx ty S Qt /\ Bh K H S Qt Q
noncomputable def w2 (g:G2) (wa wb:WE):WE:=fun σ S Q=>wa σ S fun x S1=>wb σ S1 fun y S2=>g x y S2 Q
theorem l2_of {g:G2} {σ H Q} (h:lE K (w2 g wa wb) σ H Q):tOp (l2 K g) (lE K wa) (lE K wb) σ H Q:=by
 obtain ⟨S,σt,Qt,s,c,q,hq⟩:=h
 refine ⟨S,σt,_,s,c,q,fun x H1 tx S1 f1 s1 r1 q1=>?_⟩
 refine ⟨S1,σt,_,s1,c.fr f1,q1,fun y H2 ty S2 f2 s2 r2 q2=>?_⟩
 exact ⟨S2,tx,ty,Qt,s2,r1.fr f2,r2,q2,fun v H' t S' f=>hq v H' t S' ((f1.trans f2).trans f)⟩
theorem q_op {op:Operator} {g:G2} (ho:OpR X (binaryOp op) (l2 K g)) (ha:QE K X a wa) (hb:QE K X b wb):QE K X (.BinOp a op b pos) (w2 g wa wb):=PE.of (pe_op ho ha hb) fun _ _ _ h=>l2_of h
theorem q_cmp {op:CmpOp} {g:G2} (ho:OpR X (compareOp op) (l2 K g)) (ha:QE K X a wa) (hb:QE K X b wb) (hm:behindInMarks op b=false):QE K X (.Compare a [op] [b] pos) (w2 g wa wb):=PE.of (pe_cmpR ho ha hb hm) fun _ _ _ h=>l2_of h
noncomputable def wB (w:WE):WT:=fun σ S Q=>w σ S fun x S1=>∃ k,x=.bl k /\ Q k S1
theorem lB_of {w:WE} {σ H Q} (h:lT K (wB w) σ H Q):tTest (lE K w) σ H Q:=by
 obtain ⟨S,σt,Qt,s,c,q,hq⟩:=h
 refine ⟨S,σt,_,s,c,q,fun x H1 tx S1 f1 s1 r1 q1=>?_⟩
 obtain ⟨k,rfl,q1⟩:=q1
 cases r1
 exact ⟨k,rfl,hq k H1 S1 f1 s1 q1⟩
theorem q_tcmp {op:CmpOp} {g:G2} (ho:OpR X (compareOp op) (l2 K g)) (ha:QE K X a wa) (hb:QE K X b wb) (hm:behindInMarks op b=false):QT K X (.Compare a [op] [b] pos) (wB (w2 g wa wb)) :=
 PT.of (pt_cmpR ho ha hb hm) fun σ H Q h=>by
   obtain ⟨S,σt,Qt,s,c,q,hq⟩:=h
   exact l2_of ⟨S,σt,_,s,c,q,fun v H' t S' f s' r zz55=>by obtain ⟨k,e,q'⟩:=zz55; exact by subst e; cases r; exact ⟨k,rfl,hq k H' S' f s' q'⟩⟩
noncomputable def wChain (g g':G2) (wa wb wc:WE):WE:=fun σ S Q=>wa σ S fun x S1=>wb σ S1 fun y S2=>g x y S2 fun z S3=>∃ k,z=.bl k /\ if k=true then wc σ S3 fun u S4=>g' y u S4 Q else Q (.bl false) S3
theorem lChain_of {g g':G2} {σ H Q} (h:lE K (wChain g g' wa wb wc) σ H Q):tChain (l2 K g) (l2 K g') (lE K wa) (lE K wb) (lE K wc) σ H Q:=by
 obtain ⟨S,σt,Qt,s,c,q,hq⟩:=h
 refine ⟨S,σt,_,s,c,q,fun x H1 tx S1 f1 s1 r1 q1=>?_⟩
 refine ⟨S1,σt,_,s1,c.fr f1,q1,fun y H2 ty S2 f2 s2 r2 q2=>?_⟩
 refine ⟨S2,tx,ty,_,s2,r1.fr f2,r2,q2,fun z H3 tz S3 f3 s3 r3 q3=>?_⟩
 obtain ⟨k,rfl,q3⟩:=q3
 cases r3
 refine ⟨k,rfl,?_⟩
 cases k with
 | false=>exact hq _ _ _ _ ((f1.trans f2).trans f3) s3 .bl q3
 | true =>
   refine ⟨S3,σt,_,s3,c.fr ((f1.trans f2).trans f3),q3,fun u H4 tu S4 f4 s4 r4 q4=>?_⟩
   exact ⟨S4,ty,tu,Qt,s4,(r2.fr f3).fr f4,r4,q4,fun v H' t S' f=>hq v H' t S' ((((f1.trans f2).trans f3).trans f4).trans f)⟩
theorem q_chain {op op':CmpOp} {g g':G2} (ho:OpR X (compareOp op) (l2 K g)) (ho':OpR X (compareOp op') (l2 K g')) (ha:QE K X a wa) (hb:QE K X b wb) (hc:QE K X c wc) (hm:lastMarks [op,op'] [b,c]=false:=by with_unfolding_all rfl) :
   QE K X (.Compare a [op,op'] [b,c] pos) (wChain g g' wa wb wc):=PE.of (pe_chain ho ho' ha hb hc hm) fun _ _ _ h=>lChain_of h
theorem q_tchain {op op':CmpOp} {g g':G2} (ho:OpR X (compareOp op) (l2 K g)) (ho':OpR X (compareOp op') (l2 K g')) (ha:QE K X a wa) (hb:QE K X b wb) (hc:QE K X c wc) (hm:lastMarks [op,op'] [b,c]=false:=by with_unfolding_all rfl) :
   QT K X (.Compare a [op,op'] [b,c] pos) (wB (wChain g g' wa wb wc)):=PT.of (pt_chain ho ho' ha hb hc hm) fun σ H Q h=>by
   obtain ⟨S,σt,Qt,s,c,q,hq⟩:=h
   exact lChain_of ⟨S,σt,_,s,c,q,fun v H' t S' f s' r zz56=>by obtain ⟨k,e,q'⟩:=zz56; exact by subst e; cases r; exact ⟨k,rfl,hq k H' S' f s' q'⟩⟩
theorem q_tval (h:QE K X e wa) (he:∀ whole,isTrue e X.env whole=(do let v <- whole; standAt e.pos; holding [v] (truthy v)):=by intro _; rfl):QT K X e (wB wa):=PT.of (pt_val h he) fun _ _ _ h=>lB_of h
noncomputable def wAnd (t u:WT):WT:=fun σ S Q=>t σ S fun c S1=>if c=true then u σ S1 Q else Q false S1
noncomputable def wOr (t u:WT):WT:=fun σ S Q=>t σ S fun c S1=>if c=true then Q true S1 else u σ S1 Q
noncomputable def wNot (t:WT):WT:=fun σ S Q=>t σ S fun c S1=>Q (!c) S1
variable {ta tb:WT} {rest:List Expr}
theorem q_and1 (ha:QT K X a ta):QW K X (.BoolOp .And [a] pos) ta:=pw_and1 ha
theorem q_or1 (ha:QT K X a ta):QW K X (.BoolOp .Or [a] pos) ta:=pw_or1 ha
theorem q_and (ha:QT K X a ta) (hb:QW K X (.BoolOp .And (b :: rest) pos) tb):QW K X (.BoolOp .And (a :: b :: rest) pos) (wAnd ta tb):=PW.of (pw_and ha hb) fun σ H Q zz57=>by
 obtain ⟨S,σt,Qt,s,c,q,hq⟩:=zz57
 refine ⟨S,σt,_,s,c,q,fun k H1 S1 f1 s1 q1=>?_⟩
 cases k with
 | true=>exact ⟨S1,σt,_,s1,c.fr f1,q1,fun b H' S' f=>hq b H' S' (f1.trans f)⟩
 | false=>exact hq false H1 S1 f1 s1 q1
theorem q_or (ha:QT K X a ta) (hb:QW K X (.BoolOp .Or (b :: rest) pos) tb):QW K X (.BoolOp .Or (a :: b :: rest) pos) (wOr ta tb):=PW.of (pw_or ha hb) fun σ H Q zz58=>by
 obtain ⟨S,σt,Qt,s,c,q,hq⟩:=zz58
 refine ⟨S,σt,_,s,c,q,fun k H1 S1 f1 s1 q1=>?_⟩
 cases k with
 | false=>exact ⟨S1,σt,_,s1,c.fr f1,q1,fun b H' S' f=>hq b H' S' (f1.trans f)⟩
 | true=>exact hq true H1 S1 f1 s1 q1
theorem q_tW (h:QW K X e ta):QT K X e ta:=h _
theorem q_tnot (ha:QT K X a ta):QT K X (.UnaryOp .Not a pos) (wNot ta):=PT.of (pt_not ha) fun σ H Q zz59=>by obtain ⟨S,σt,Qt,s,c,q,hq⟩:=zz59; exact ⟨S,σt,_,s,c,q,fun k H1 S1 f1 s1 q1=>hq _ H1 S1 f1 s1 q1⟩
noncomputable def wAndV (wa wb:WE):WE:=fun σ S Q=>wa σ S fun x S1=>∃ k,x=.bl k /\ if k=true then wb σ S1 Q else Q (.bl false) S1
noncomputable def wOrV (wa wb:WE):WE:=fun σ S Q=>wa σ S fun x S1=>∃ k,x=.bl k /\ if k=true then Q (.bl true) S1 else wb σ S1 Q
noncomputable def wNotV (wa:WE):WE:=fun σ S Q=>wa σ S fun x S1=>∃ k,x=.bl k /\ Q (.bl (!k)) S1
theorem q_one {op} (h:QE K X a wa):QE K X (.BoolOp op [a] pos) wa:=pe_one h
theorem q_andV (ha:QE K X a wa) (hb:QE K X (.BoolOp .And (b :: rest) pos) wb):QE K X (.BoolOp .And (a :: b :: rest) pos) (wAndV wa wb):=PE.of (pe_and ha hb) fun σ H Q zz60=>by
 obtain ⟨S,σt,Qt,s,c,q,hq⟩:=zz60
 refine ⟨S,σt,_,s,c,q,fun x H1 tx S1 f1 s1 r1 q1=>?_⟩
 obtain ⟨k,rfl,q1⟩:=q1
 cases r1
 refine ⟨k,rfl,?_⟩
 cases k with
 | true=>exact ⟨S1,σt,_,s1,c.fr f1,q1,fun v H' t S' f=>hq v H' t S' (f1.trans f)⟩
 | false=>exact hq _ H1 _ S1 f1 s1 .bl q1
theorem q_orV (ha:QE K X a wa) (hb:QE K X (.BoolOp .Or (b :: rest) pos) wb):QE K X (.BoolOp .Or (a :: b :: rest) pos) (wOrV wa wb):=PE.of (pe_or ha hb) fun σ H Q zz61=>by
 obtain ⟨S,σt,Qt,s,c,q,hq⟩:=zz61
 refine ⟨S,σt,_,s,c,q,fun x H1 tx S1 f1 s1 r1 q1=>?_⟩
 obtain ⟨k,rfl,q1⟩:=q1
 cases r1
 refine ⟨k,rfl,?_⟩
 cases k with
 | false=>exact ⟨S1,σt,_,s1,c.fr f1,q1,fun v H' t S' f=>hq v H' t S' (f1.trans f)⟩
 | true=>exact hq _ H1 _ S1 f1 s1 .bl q1
theorem q_notV (ha:QE K X a wa):QE K X (.UnaryOp .Not a pos) (wNotV wa):=PE.of (pe_not ha) fun σ H Q zz62=>by
 obtain ⟨S,σt,Qt,s,c,q,hq⟩:=zz62
 refine ⟨S,σt,_,s,c,q,fun x H1 tx S1 f1 s1 r1 q1=>?_⟩
 obtain ⟨k,rfl,q1⟩:=q1
 cases r1
 exact ⟨k,rfl,hq _ H1 _ S1 f1 s1 .bl q1⟩
noncomputable def wIf (t:WT) (wa wb:WE):WE:=fun σ S Q=>t σ S fun c S1=>if c=true then wa σ S1 Q else wb σ S1 Q
theorem q_ifE {c:Expr} (hc:QT K X c ta) (ha:QE K X a wa) (hb:QE K X b wb):QE K X (.IfExp c a b pos) (wIf ta wa wb):=PE.of (pe_ifExp hc ha hb) fun σ H Q zz63=>by
 obtain ⟨S,σt,Qt,s,c,q,hq⟩:=zz63
 refine ⟨S,σt,_,s,c,q,fun k H1 S1 f1 s1 q1=>?_⟩
 cases k with
 | true=>exact ⟨S1,σt,_,s1,c.fr f1,q1,fun v H' t S' f=>hq v H' t S' (f1.trans f)⟩
 | false=>exact ⟨S1,σt,_,s1,c.fr f1,q1,fun v H' t S' f=>hq v H' t S' (f1.trans f)⟩
noncomputable def wNil:WA:=fun _ S Q=>Q [] S
noncomputable def wCons (wa:WE) (wr:WA):WA:=fun σ S Q=>wa σ S fun x S1=>wr σ S1 fun xs S2=>Q (x :: xs) S2
variable {es:List Expr} {wr:WA}
theorem qa_nil:QA K X [] wNil:=PA.of pa_nil fun σ H Q zz64=>by obtain ⟨S,σt,Qt,s,c,q,hq⟩:=zz64; exact hq [] H [] S .refl s .nil q
theorem qa_cons (ha:QE K X e wa) (hr:QA K X es wr) (hs:starEach (e :: es) X.env=(false,eval e X.env) :: starEach es X.env:=by rfl):QA K X (e :: es) (wCons wa wr):=PA.of (pa_cons ha hr hs) fun σ H Q zz65=>by
 obtain ⟨S,σt,Qt,s,c,q,hq⟩:=zz65
 refine ⟨S,σt,_,s,c,q,fun x H1 tx S1 f1 s1 r1 q1=>?_⟩
 exact ⟨S1,σt,_,s1,c.fr f1,q1,fun vs H2 ts S2 f2 s2 r2 q2=>hq _ H2 _ S2 (f1.trans f2) s2 (.cons (r1.fr f2) r2) q2⟩
noncomputable def wTup (wr:WA):WE:=fun σ S Q=>wr σ S fun ts S1=>ts.length <= sizeLine /\ Q (.tup ts) S1
theorem q_tup {x1} (h:QA K X es wr):QE K X (.Tuple es x1 pos) (wTup wr):=PE.of (pe_tup h) fun σ H Q zz66=>by
 obtain ⟨S,σt,Qt,s,c,q,hq⟩:=zz66
 refine ⟨S,σt,_,s,c,q,fun vs H1 ts S1 f1 s1 r1 q1=>?_⟩
 refine ⟨by rw [r1.length]; exact q1.1,fun p hp=>hq _ _ (.tup ts) S1 (f1.trans (Fr.new hp)) (s1.new hp) (.tup (s1.fresh hp) upd_same (r1.fr (Fr.new hp))) q1.2⟩
noncomputable def wLst (wr:WA):WE:=fun σ S Q=>wr σ S fun ts S1=>ts.length <= sizeLine /\ Q (.lst ts) S1
noncomputable def wLstT (wr:WA):WE:=fun σ S Q=>wr σ S fun ts S1=>ts.length <= sizeLine /\ ∀ p,S1 p=none->Q (.ref p) (put S1 p (.lst ts))
theorem q_lst (h:QA K X es wr):QE K X (.List es pos) (wLst wr):=PE.of (pe_lst h) fun σ H Q zz67=>by
 obtain ⟨S,σt,Qt,s,c,q,hq⟩:=zz67
 refine ⟨S,σt,_,s,c,q,fun vs H1 ts S1 f1 s1 r1 q1=>?_⟩
 refine ⟨by rw [r1.length]; exact q1.1,fun p hp=>hq _ _ (.lst ts) S1 (f1.trans (Fr.new hp)) (s1.new hp) (.lst (s1.fresh hp) upd_same (r1.fr (Fr.new hp))) q1.2⟩
theorem q_lstT (h:QA K X es wr):QE K X (.List es pos) (wLstT wr):=PE.of (pe_lst h) fun σ H Q zz68=>by
 obtain ⟨S,σt,Qt,s,c,q,hq⟩:=zz68
 refine ⟨S,σt,_,s,c,q,fun vs H1 ts S1 f1 s1 r1 q1=>?_⟩
 refine ⟨by rw [r1.length]; exact q1.1,fun p hp=>hq _ _ (.ref p) _ (f1.trans (Fr.newT hp)) (s1.newT hp (.lst upd_same (r1.fr (Fr.newT hp)))) .ref (q1.2 p (s1.fresh hp))⟩
end
section
variable {K:Fg} {X:Cx} {e:Expr} {we:WE} {st:Stmt} {rest:List Stmt} {w u:WS} {pos:Pos}
noncomputable def wNext:WS:=fun D σ S=>D.nx σ S
noncomputable def wSeq (w u:WS):WS:=fun D σ S=>w { D with nx:=u D } σ S
theorem qs_nil:QSs K X [] wNext:=PSs.of pss_nil fun D σ H zz69=>by obtain ⟨S,σt,Dt,s,c,q,he⟩:=zz69; exact he.nx σ H σt S .refl s c q
theorem qs_cons (h1:QS K X st w) (h2:QSs K X rest u):QSs K X (st :: rest) (wSeq w u):=PSs.of (pss_cons h1 h2) fun D σ H ⟨S,σt,Dt,s,c,q,he⟩ =>
 ⟨S,σt,{ Dt with nx:=u Dt },s,c,q,⟨fun _ _ σt' S' f s' c' q'=>⟨S',σt',Dt,s',c',q',he.fr f⟩,he.rt,he.bk,he.ct⟩⟩
theorem qs_one (h1:QS K X st w):QSs K X [st] w:=pss_one h1
noncomputable def wBreak:WS:=fun D σ S=>D.bk σ S
noncomputable def wCont:WS:=fun D σ S=>D.ct σ S
noncomputable def wDrop (we:WE):WS:=fun D σ S=>we σ S fun _ S1=>D.nx σ S1
theorem q_expr (he:QE K X e we) (hs:swapsWith e none pos.line X.env=pure false:=by rfl):QS K X (.Expr e pos) (wDrop we):=PS.of (ps_expr he hs) fun D σ H ⟨S,σt,Dt,s,c,q,he⟩ =>
 ⟨S,σt,_,s,c,q,fun _ H1 _ S1 f1 s1 _ q1=>he.nx σ H1 σt S1 f1 s1 (c.fr f1) q1⟩
noncomputable def wRet (we:WE):WS:=fun D σ S=>we σ S D.rt
theorem q_ret (he:QE K X e we):QS K X (.Return (some e) pos) (wRet we):=PS.of (ps_ret he) fun D σ H zz70=>by obtain ⟨S,σt,Dt,s,c,q,he⟩:=zz70; exact ⟨S,σt,_,s,c,q,he.rt⟩
noncomputable def wRetN:WS:=fun D _ S=>D.rt .non S
noncomputable def wIfS (t:WT) (w u:WS):WS:=fun D σ S=>t σ S fun b S1=>if b=true then w D σ S1 else u D σ S1
theorem q_if {c:Expr} {a b:List Stmt} {t:WT} (hc:QT K X c t) (ha:QSs K X a w) (hb:QSs K X b u):QS K X (.If c a b pos) (wIfS t w u):=PS.of (ps_if hc ha hb) fun D σ H zz71=>by
 obtain ⟨S,σt,Dt,s,c,q,he⟩:=zz71
 refine ⟨S,σt,_,s,c,q,fun k H1 S1 f1 s1 q1=>?_⟩
 cases k with
 | true=>exact ⟨S1,σt,Dt,s1,c.fr f1,q1,he.fr f1⟩
 | false=>exact ⟨S1,σt,Dt,s1,c.fr f1,q1,he.fr f1⟩
noncomputable def wNever:WS:=fun _ _ _=>False
theorem q_never:QS K X st wNever:=fun _ _ _ _ _ _ zz72=>by obtain ⟨_,_,_,_,_,q,_⟩:=zz72; exact q.elim
noncomputable abbrev WG:=T->StT->Sto->(StT->Sto->Prop)->Prop
noncomputable abbrev WGs:=List T->StT->Sto->(StT->Sto->Prop)->Prop
noncomputable def lG (K:Fg) (g:WG):TG:=fun v σ H Q=>∃ S t σt Qt,SRp K H S /\ Rp K H S t v /\ Cov K H S σ σt /\ g t σt S Qt /\ ∀ σ' H' σt' S',Fr H S H' S'->SRp K H' S'->Cov K H' S' σ' σt'->Qt σt' S'->Q σ' H'
noncomputable def lGs (K:Fg) (g:WGs):TGs:=fun vs σ H Q=>∃ S ts σt Qt,SRp K H S /\ Rps K H S ts vs /\ Cov K H S σ σt /\ g ts σt S Qt /\ ∀ σ' H' σt' S',Fr H S H' S'->SRp K H' S'->Cov K H' S' σ' σt'->Qt σt' S'->Q σ' H'
noncomputable def QG (K:Fg) (X:Cx) (tg:Expr) (g:WG):Prop:=PG X tg (lG K g)
noncomputable def QGs (K:Fg) (X:Cx) (tg:List Expr) (g:WGs):Prop:=PGs X tg (lGs K g)
theorem PG.of {X:Cx} {e:Expr} {t t':TG} (h:PG X e t) (i:∀ v σ H Q,t' v σ H Q->t v σ H Q):PG X e t':=fun pins s σ H v u Q I r q=>h pins s σ H v u Q I r (i v σ H Q q)
theorem PGs.of {X:Cx} {e:List Expr} {t t':TGs} (h:PGs X e t) (i:∀ v σ H Q,t' v σ H Q->t v σ H Q):PGs X e t':=fun pins s σ H v u Q I r q=>h pins s σ H v u Q I r (i v σ H Q q)
noncomputable def wgN (i:Nat):WG:=fun t σ S Q=>Q (σ.set i (some t)) S
theorem qg_name {i:Nat} {x:Str} (h:PG X (.Name x pos) (gName i)):QG K X (.Name x pos) (wgN i):=PG.of h fun v σ H Q zz73=>by obtain ⟨S,t,σt,Qt,s,r,c,q,hq⟩:=zz73; exact hq _ H _ S .refl s (c.set r i) q
noncomputable def wgNil:WGs:=fun ts σ S Q=>ts=[] /\ Q σ S
noncomputable def wgCons (g:WG) (h:WGs):WGs:=fun ts σ S Q=>∃ t r,ts=t :: r /\ g t σ S fun σ' S'=>h r σ' S' Q
variable {tg:Expr} {tgs:List Expr} {g:WG} {gs:WGs}
theorem qgs_nil:QGs K X [] wgNil:=PGs.of pgs_nil fun v σ H Q zz74=>by
 obtain ⟨S,t,σt,Qt,s,r,c,⟨e,q⟩,hq⟩:=zz74
 subst e; cases r
 exact ⟨rfl,hq _ H _ S .refl s c q⟩
theorem qgs_cons (h1:QG K X tg g) (h2:QGs K X tgs gs) (h:∀ {t u},PG X tg t->PGs X tgs u->PGs X (tg :: tgs) (gCons t u)):QGs K X (tg :: tgs) (wgCons g gs):=PGs.of (h h1 h2) fun v σ H Q zz75=>by
 obtain ⟨S,t,σt,Qt,s,r,c,⟨y,ys,e,q⟩,hq⟩:=zz75
 subst e
 cases r with
 | cons r rs =>
   refine ⟨_,_,rfl,S,y,σt,_,s,r,c,q,fun σ' H' σt' S' f s' c' q'=>?_⟩
   exact ⟨S',ys,σt',Qt,s',rs.fr f,c',q',fun σ2 H2 σt2 S2 f2=>hq σ2 H2 σt2 S2 (f.trans f2)⟩
noncomputable def wgTup (n:Nat) (g:WGs):WG:=fun t σ S Q=>∃ ts,t=.tup ts /\ ts.length=n /\ g ts σ S Q
theorem qg_tup {es:List Expr} {k n:Nat} (h:∀ {t},PGs X es t->PG X (.Tuple es k pos) (gTup K n t)) (h1:QGs K X es gs):QG K X (.Tuple es k pos) (wgTup n gs):=PG.of (h h1) fun v σ H Q zz76=>by
 obtain ⟨S,t,σt,Qt,s,r,c,⟨ts,e,l,q⟩,hq⟩:=zz76
 subst e
 cases r with
 | tup n' hp rs=>exact ⟨_,_,rfl,SqT.of hp,by rw [rs.length]; exact l,S,ts,σt,Qt,s,rs,c,q,hq⟩
noncomputable def wAsg (we:WE) (g:WG):WS:=fun D σ S=>we σ S fun t S1=>g t σ S1 D.nx
theorem lAsg_of {D σ H} (h:lS K (wAsg we g) D σ H):tAsg (lE K we) (lG K g) D σ H:=by
 obtain ⟨S,σt,Dt,s,c,q,he⟩:=h
 refine ⟨S,σt,_,s,c,q,fun v H1 t S1 f1 s1 r1 q1=>?_⟩
 exact ⟨S1,t,σt,_,s1,r1,c.fr f1,q1,fun σ' H' σt' S' f=>he.nx σ' H' σt' S' (f1.trans f)⟩
theorem q_asg (h:∀ {t g},PE X e t->PG X tg g->PS X (.Assign [tg] e pos) (tAsg t g)) (he:QE K X e we) (hg:QG K X tg g):QS K X (.Assign [tg] e pos) (wAsg we g):=PS.of (h he hg) fun _ _ _ h=>lAsg_of h
theorem q_set {i:Nat} {x:Str} {pos':Pos} (hN:X.N.Nodup) (hi:X.N[i]?=some x) (hx:Loc X.env.scope x) (he:QE K X e we) (hs:swapsWith e (some (.Name x pos')) pos.line X.env=pure false:=by rfl)
   (hf:X.fn x=true \/ X.env.scope.names.lookup x=some .local:=by first | exact .inl rfl | exact .inr rfl | assumption):QS K X (.Assign [.Name x pos'] e pos) (wAsg we (wgN i)):=PS.of (ps_set hN hi hx he hs hf) fun D σ H h=>by
 obtain ⟨S,σt,Dt,s,c,q,he⟩:=h
 exact ⟨S,σt,_,s,c,q,fun v H1 t S1 f1 s1 r1 q1=>he.nx _ H1 _ S1 f1 s1 ((c.fr f1).set r1 i) q1⟩
end
end T2
namespace T2
open PySem PySem.Spec PyProof.Rows L2
noncomputable abbrev WSp:=List T->Sto->(T->Sto->Prop)->Prop
noncomputable def lSp (K:Fg) (w:WSp):Sp:=fun vs H Q _=>∃ S ts Qt,SRp K H S /\ Rps K H S ts vs /\ w ts S Qt /\ Bh K H S Qt Q
noncomputable def startT (N:List Str) (ts:List T):StT:=ts.map some ++ List.replicate (N.length - ts.length) none
theorem cov_start {K:Fg} {H:Hp} {S:Sto} {N:List Str} {ts:List T} {vs:List V} (r:Rps K H S ts vs):Cov K H S (L2.start N vs) (startT N ts):=by
 have l:=r.length
 refine ⟨by unfold L2.start startT; simp [l],fun i t e=>?_⟩
 unfold startT at e
 by_cases hi:i < ts.length
 . rw [List.getElem?_append_left (by simpa using hi),List.getElem?_map] at e
   cases q:ts[i]? with
   | none=>rw [q] at e; cases e
   | some a =>
     rw [q] at e; cases e
     obtain ⟨v,hv,rv⟩:=r.get q
     refine ⟨v,?_,rv⟩
     unfold L2.start
     rw [List.getElem?_append_left (by simp; omega),List.getElem?_map,hv]; rfl
 . rw [List.getElem?_append_right (by simpa using hi),List.getElem?_replicate] at e
   split at e <;> cases e
noncomputable def Fin (Q:T->Sto->Prop) (t:T) (S:Sto):Prop:=(∃ S0,Le S0 S /\ Q t S0) \/ ∃ p ts S0,t=.ref p /\ S p=some (.lst ts) /\ Le S0 S /\ S0 p=none /\ Q (.lst ts) S0
theorem Fin.mk {Q:T->Sto->Prop} {t:T} {S:Sto} (h:Q t S):Fin Q t S:=.inl ⟨S,.refl,h⟩
theorem Fin.le {Q:T->Sto->Prop} {t:T} {S S0:Sto} (l:Le S0 S) (h:Q t S0):Fin Q t S:=.inl ⟨S0,l,h⟩
theorem Fin.frz {Q:T->Sto->Prop} {p:Addr} {ts:List T} {S S0:Sto} (e:S p=some (.lst ts)) (l:Le S0 S) (n:S0 p=none) (h:Q (.lst ts) S0):Fin Q (.ref p) S:=.inr ⟨p,ts,S0,rfl,e,l,n,h⟩
theorem Fin.ends {K:Fg} {H H':Hp} {S S':Sto} {Qt:T->Sto->Prop} {Q:VK} (b:Bh K H S Qt Q) {v:V} {t:T} (f:Fr H S H' S') (s:SRp K H' S') (r:Rp K H' S' t v) (q:Fin Qt t S'):Q v H':=by
 rcases q with ⟨S0,l,q⟩ | ⟨p,ts,S0,rfl,e,l,n,q⟩
 . exact b v H' t S0 (f.trans (Fr.le l)) (s.le l) (r.fr (Fr.le l)) q
 . cases r
   cases s p _ e with
   | lst hp rs=>exact b _ H' (.lst ts) S0 (f.trans (Fr.le l)) (s.le l) (.lst n hp (rs.fr (Fr.le l))) q
section
variable {P:Program} {w:World} {K:Fg} {mg:Str->Option Value} {base:Heap}
theorem ok_def {x qual:Str} {st:Stmt} {f:Addr} {fd:FuncData} {N ps:List Str} {k:Nat} {wsp:WSp} (F:Fun K x qual st f fd) (Sc:FnScope N ps (defScope st)) (len:∀ ts S Q,wsp ts S Q->ts.length=ps.length)
   (hbody:∀ (cdv:Value) (A:Around) (outer:List Env) (s:Shared) (H:Hp) (E:XK),Room k (A.deeper (envOfC qual (defScope st) s.heap.objs.size f cdv)) ->
     ∃ u,QSs K (cxOf CX0 P w K mg base N qual (defScope st) f cdv A outer s H E).nox (defBody st) u /\ ∀ ts S Q,wsp ts S Q->u { nx:=fun _ S'=>Fin Q .non S',rt:=Fin Q } (startT N ts) S):FnOk P w K mg base CX0 (k + 1) f fd ps (lSp K wsp):=by
 refine Fun.ok F Sc (fun vs H Q E ⟨S,ts,Qt,s,r,q,_⟩=>by rw [r.length]; exact len _ _ _ q) fun cdv A outer s H vs Q E hr ⟨S,ts,Qt,sr,r,q,b⟩=>?_
 obtain ⟨u,hu,hq⟩:=hbody cdv A outer s H E hr
 refine ⟨_,hu,S,startT N ts,_,sr,cov_start r,hq ts S Qt q,⟨fun _ H' _ S' f s' _ q'=>Fin.ends b f s' .non q',fun v H' t S' f s' r' q'=>Fin.ends b f s' r' q',fun _ _ _ _ _ _ _ q'=>q'.elim,fun _ _ _ _ _ _ _ q'=>q'.elim⟩⟩
end
section
variable {K:Fg} {X:Cx} {k:Nat} {f C:Addr} {fd:FuncData} {ps:List Str} {wsp:WSp} {dts:List T} {dvs:List V} {ds:List Value} {x m:Str} {p pos apos:Pos} {e o:Expr} {es:List Expr} {wa:WE} {wr:WA}
noncomputable def wCall (wsp:WSp) (dts:List T) (wr:WA):WE:=fun σ S Q=>wr σ S fun ts S1=>wsp (ts ++ dts) S1 Q
theorem lCall_of {σ H Q} (hd:∀ H S,Rps K H S dts dvs) (h:lE K (wCall wsp dts wr) σ H Q):tCall (lSp K wsp) dvs E0 (lA K wr) σ H Q:=by
 obtain ⟨S,σt,Qt,s,c,q,hq⟩:=h
 refine ⟨S,σt,_,s,c,q,fun vs H1 ts S1 f1 s1 r1 q1=>?_⟩
 exact ⟨S1,_,Qt,s1,r1.append (hd _ _),q1,fun v H' t S' f=>hq v H' t S' (f1.trans f)⟩
theorem q_call (hd:∀ H S,Rps K H S dts dvs) (hp:PE X e (tCall (lSp K wsp) dvs E0 (lA K wr))):QE K X e (wCall wsp dts wr):=PE.of hp fun _ _ _ h=>lCall_of hd h
noncomputable def wMeth (G:Addr->Prop) (m:Str) (wsp:WSp) (dts:List T) (wa:WE) (wr:WA):WE:=fun σ S Q=>wa σ S fun x S1=>∃ a C fs,x=.ref a /\ S1 a=some (.ins C fs) /\ G C /\ fs.lookup m=none /\ wr σ S1 fun ts S2=>wsp (x :: (ts ++ dts)) S2 Q
end
theorem look_none {K:Fg} {H:Hp} {S:Sto} {m:Str}:∀ {fts:List (Str × T)} {fs:List (Str × V)},Paired (fun (p:Str × T) (q:Str × V)=>p.1=q.1 /\ Rp K H S p.2 q.2) fts fs->fts.lookup m=none->fs.lookup m=none:=by
 intro kts kvs pr
 induction pr with
 | nil=>intro _; exact rfl
 | @cons p q2 l l' er t ih =>
   intro h
   obtain ⟨a,b⟩:=p; obtain ⟨c,d⟩:=q2; obtain ⟨e,r⟩:=er
   simp only at e; subst e
   rw [List.lookup_cons] at h ⊢
   by_cases z:(m == a)=true
   . rw [z] at h; cases h
   . simp only [Bool.not_eq_true] at z
     rw [z] at h ⊢
     exact ih h
theorem look_some {K:Fg} {H:Hp} {S:Sto} {m:Str} {t:T}:∀ {fts:List (Str × T)} {fs:List (Str × V)},Paired (fun (p:Str × T) (q:Str × V)=>p.1=q.1 /\ Rp K H S p.2 q.2) fts fs->fts.lookup m=some t->∃ v,fs.lookup m=some v /\ Rp K H S t v:=by
 intro kts kvs pr
 induction pr with
 | nil=>intro h; cases h
 | @cons p q2 l l' er ps ih =>
   intro h
   obtain ⟨a,b⟩:=p; obtain ⟨c,d⟩:=q2; obtain ⟨e,r⟩:=er
   simp only at e; subst e
   rw [List.lookup_cons] at h ⊢
   by_cases z:(m == a)=true
   . rw [z] at h ⊢; cases h; exact ⟨d,rfl,r⟩
   . simp only [Bool.not_eq_true] at z
     rw [z] at h ⊢
     exact ih h
noncomputable def putT (f:Str) (v:T):List (Str × T)->List (Str × T)
 | []=>[(f,v)]
 | (g,u) :: r=>if g=f then (g,v) :: r else (g,u) :: putT f v r
theorem put_fields {K:Fg} {H:Hp} {S:Sto} {f:Str} {t:T} {v:V} (r:Rp K H S t v):∀ {fts:List (Str × T)} {fs:List (Str × V)},Paired (fun (p:Str × T) (q:Str × V)=>p.1=q.1 /\ Rp K H S p.2 q.2) fts fs ->
   Paired (fun (p:Str × T) (q:Str × V)=>p.1=q.1 /\ Rp K H S p.2 q.2) (putT f t fts) (putF f v fs):=by
 intro kts kvs pr
 induction pr with
 | nil=>exact .cons ⟨rfl,r⟩ .nil
 | @cons p q2 l l' er ps ih =>
   obtain ⟨a,b⟩:=p; obtain ⟨c,d⟩:=q2; obtain ⟨e,q⟩:=er
   simp only at e; subst e
   unfold putT putF
   by_cases z:a=f
   . rw [if_pos z,if_pos z]; exact .cons ⟨rfl,r⟩ ps
   . rw [if_neg z,if_neg z]; exact .cons ⟨rfl,q⟩ (ih)
theorem Paired.len {α β:Type} {F:α->β->Prop}:∀ {l:List α} {l':List β},Paired F l l'->l'.length=l.length
 | _,_,.nil=>rfl
 | _,_,.cons _ t=>by simp [Paired.len t]
section
variable {K:Fg} {X:Cx} {CX:CXT} {k:Nat} {f:Addr} {fd:FuncData} {ps:List Str} {sp:Sp} {wsp:WSp} {dts:List T} {dvs:List V} {ds:List Value} {E:XK} {x m:Str} {p pos apos:Pos} {e o:Expr} {es:List Expr} {wa:WE} {wr:WA} {ta:TE} {t:TA} {G:Addr->Prop}
noncomputable def tMethG (G:Addr->Prop) (m:Str) (sp:Sp) (dvs:List V) (E:XK) (ta:TE) (t:TA):TE:=fun σ H Q=>ta σ H fun x H1=>∃ a C dx fs,x=.ref a /\ H1 a=some (.ins C dx fs) /\ G C /\ fs.lookup m=none /\
 t σ H1 fun vs H2=>sp (x :: (vs ++ dvs)) H2 Q E
theorem pe_methG {pl:Sem Bool} (he:PE X o ta) (hG:∀ C,G C->Cls X.K C /\ Meth X.K C m f) (F:FnOk X.prog X.w X.K X.mg X.base CX k f fd ps sp) (hr:Room k X.A) (hb:Binds X.K fd ps ds) (hd:Vals dvs ds) (hx:Passes CX X E) (ha:PA X (e :: es) t)
   (hst:starEach (e :: es) X.env=(false,eval e X.env) :: starEach es X.env:=by rfl) (hpl:(backTo pos (starEach es X.env)).any (·.1)=false:=by rfl)
   (ht:eval (.Call (.Attribute o m apos) (e :: es) [] pos) X.env=(do
     let ov <- eval o X.env
     standAt apos.atName
     let (f,first) <- holding [ov] (getMethod ov m pl)
     callWith pos f first (backTo pos (starEach (e :: es) X.env)) (backToKw pos (keywordEach [] X.env))):=by rfl) :
   PE X (.Call (.Attribute o m apos) (e :: es) [] pos) (tMethG G m sp dvs E ta t):=by
 intro pins s σ H Q I h
 refine PySem.W.methodCall_KW (pl:=pl) (thn (he pins s σ H _ I h) fun u s1 ⟨x,H1,I1,rx,a,C,dx,fs,ex,ea,g,l,q⟩=>?_) ht
 subst ex
 obtain rfl:u=Value.ref a:=rx
 obtain ⟨c,hm⟩:=hG C g
 refine getmeth_ok I1 ea c hm l ?_
 refine PySem.W.callWith_K (first:=[.ref a]) (h₀:=X.base) I.ok.mod.kin hm.kp (thn (ha pos pins s1 σ H1 _ I1 q) fun us s2 ⟨vs,H2,I2,r,q2⟩=>⟨I2.kIn,?_⟩) hst hpl
 exact run_fn (us:=.ref a :: us) (vs:=.ref a :: vs) F hr hb hd hx I2 (.cons rfl r) q2
theorem pe_methG0 {pl:Sem Bool} (he:PE X o ta) (hG:∀ C,G C->Cls X.K C /\ Meth X.K C m f) (F:FnOk X.prog X.w X.K X.mg X.base CX k f fd ps sp) (hr:Room k X.A) (hb:Binds X.K fd ps ds) (hd:Vals dvs ds) (hx:Passes CX X E)
   (ht:eval (.Call (.Attribute o m apos) [] [] pos) X.env=(do
     let ov <- eval o X.env
     standAt apos.atName
     let (f,first) <- holding [ov] (getMethod ov m pl)
     callWith pos f first (backTo pos (starEach [] X.env)) (backToKw pos (keywordEach [] X.env))):=by rfl) :
   PE X (.Call (.Attribute o m apos) [] [] pos) (tMethG G m sp dvs E ta tNil):=by
 intro pins s σ H Q I h
 refine PySem.W.methodCall_KW (pl:=pl) (thn (he pins s σ H _ I h) fun u s1 ⟨x,H1,I1,rx,a,C,dx,fs,ex,ea,g,l,q⟩=>?_) ht
 subst ex
 obtain rfl:u=Value.ref a:=rx
 obtain ⟨c,hm⟩:=hG C g
 refine getmeth_ok I1 ea c hm l ?_
 exact PySem.W.callWith_K0 (first:=[.ref a]) I1.kIn hm.kp (run_fn (us:=[.ref a]) (vs:=[.ref a]) F hr hb hd hx I1 (.cons rfl .nil) q)
theorem lMeth_of {σ H Q} (hd:∀ H S,Rps K H S dts dvs) (h:lE K (wMeth G m wsp dts wa wr) σ H Q):tMethG G m (lSp K wsp) dvs E0 (lE K wa) (lA K wr) σ H Q:=by
 obtain ⟨S,σt,Qt,s,c,q,hq⟩:=h
 refine ⟨S,σt,_,s,c,q,fun x H1 tx S1 f1 s1 r1 q1=>?_⟩
 obtain ⟨a,C,fs,rfl,ea,g,l,q1⟩:=q1
 cases r1
 cases s1 a _ ea with
 | ins eh pr =>
   refine ⟨a,C,_,_,rfl,eh,g,look_none pr l,S1,σt,_,s1,c.fr f1,q1,fun vs H2 ts S2 f2 s2 r2 q2=>?_⟩
   exact ⟨S2,_,Qt,s2,.cons .ref (r2.append (hd _ _)),q2,fun v H' t S' f=>hq v H' t S' ((f1.trans f2).trans f)⟩
theorem q_meth (hd:∀ H S,Rps K H S dts dvs) (hp:PE X e (tMethG G m (lSp K wsp) dvs E0 (lE K wa) (lA K wr))):QE K X e (wMeth G m wsp dts wa wr):=PE.of hp fun _ _ _ h=>lMeth_of hd h
theorem lMeth0_of {σ H Q} (hd:∀ H S,Rps K H S dts dvs) (h:lE K (wMeth G m wsp dts wa wNil) σ H Q):tMethG G m (lSp K wsp) dvs E0 (lE K wa) tNil σ H Q:=by
 obtain ⟨S,σt,Qt,s,c,q,hq⟩:=h
 refine ⟨S,σt,_,s,c,q,fun x H1 tx S1 f1 s1 r1 q1=>?_⟩
 obtain ⟨a,C,fs,rfl,ea,g,l,q1⟩:=q1
 cases r1
 cases s1 a _ ea with
 | ins eh pr =>
   refine ⟨a,C,_,_,rfl,eh,g,look_none pr l,?_⟩
   exact ⟨S1,_,Qt,s1,.cons .ref (Rps.append .nil (hd _ _)),q1,fun v H' t S' f=>hq v H' t S' (f1.trans f)⟩
theorem q_meth0 (hd:∀ H S,Rps K H S dts dvs) (hp:PE X e (tMethG G m (lSp K wsp) dvs E0 (lE K wa) tNil)):QE K X e (wMeth G m wsp dts wa wNil):=PE.of hp fun _ _ _ h=>lMeth0_of hd h
noncomputable def wMake (C:Addr) (wsp:WSp) (dts:List T) (wr:WA):WE:=fun σ S Q=>wr σ S fun ts S1=>∀ x,S1 x=none->wsp (.ref x :: (ts ++ dts)) (put S1 x (.ins C [])) (fun t S2=>t=.non /\ Q (.ref x) S2)
theorem made_fr {H:Hp} {S:Sto} {C x dx:Addr} (hx:H x=none) (hd:H dx=none):Fr H S (upd (upd H dx (.own x)) x (.ins C dx [])) (put S x (.ins C [])):=fun a o e n =>
 ⟨by rw [upd_ne (ne_of_none e hx),upd_ne (ne_of_none e hd)]; exact e,by rw [put_ne (ne_of_none e hx)]; exact n⟩
theorem made_srp {H:Hp} {S:Sto} {C x dx:Addr} (s:SRp K H S) (hx:H x=none) (hd:H dx=none):SRp K (upd (upd H dx (.own x)) x (.ins C dx [])) (put S x (.ins C [])):=fun a o e=>by
 by_cases ha:a=x
 . subst ha; rw [put_same] at e; cases e; exact .ins upd_same .nil
 . rw [put_ne ha] at e
   obtain ⟨u,hu⟩:=(s a o e).some
   exact (s a o e).fr (made_fr hx hd) (by rw [upd_ne ha,upd_ne (ne_of_none hu hd)])
theorem lMakeGo {C:Addr} {S:Sto} {H:Hp} {ts:List T} {vs:List V} {Qt:T->Sto->Prop} {Q:VK} (hd:∀ H S,Rps K H S dts dvs) (s:SRp K H S) (r:Rps K H S ts vs) (b:Bh K H S Qt Q)
   (q:∀ x,S x=none->wsp (.ref x :: (ts ++ dts)) (put S x (.ins C [])) (fun t S2=>t=.non /\ Qt (.ref x) S2)) (x dx:Addr) (hx:H x=none) (hdx:H dx=none) :
   lSp K wsp (.ref x :: (vs ++ dvs)) (upd (upd H dx (.own x)) x (.ins C dx [])) (fun v H2=>v=.non /\ Q (.ref x) H2) E0:=by
 refine ⟨_,_,_,made_srp s hx hdx,.cons .ref ((r.fr (made_fr hx hdx)).append (hd _ _)),q x (s.fresh hx),fun v H' t S' f s' r' q'=>?_⟩
 obtain ⟨rfl,q'⟩:=q'
 cases r'
 exact ⟨rfl,b _ H' _ S' ((made_fr hx hdx).trans f) s' .ref q'⟩
theorem q_make0 {C:Addr} (hd:∀ H S,Rps K H S dts dvs) (hp:PE X e (tMake C (lSp K wsp) dvs E0 tNil)):QE K X e (wMake C wsp dts wNil):=PE.of hp fun σ H Q ⟨S,σt,Qt,s,c,q,hq⟩=>fun x dx hx hdx _ =>
 lMakeGo hd s .nil hq q x dx hx hdx
noncomputable def wFld (G:Addr->Prop) (wa:WE) (f:Str):WE:=fun σ S Q=>wa σ S fun x S1=>∃ a C fs v,x=.ref a /\ S1 a=some (.ins C fs) /\ G C /\ fs.lookup f=some v /\ Q v S1
theorem q_fld {f:Str} (hK:X.K=K) (hG:∀ C,G C->Cls K C /\ NoAttr K C f) (he:QE K X o wa) (hb:attributeBase o f X.env (eval o X.env)=eval o X.env):QE K X (.Attribute o f pos) (wFld G wa f):=by
 subst hK
 refine PE.of (pe_fld he hb) fun σ H Q zz77=>?_
 obtain ⟨S,σt,Qt,s,c,q,hq⟩:=zz77
 refine ⟨S,σt,_,s,c,q,fun x H1 tx S1 f1 s1 r1 q1=>?_⟩
 obtain ⟨a,C,fs,v,rfl,ea,g,l,q1⟩:=q1
 cases r1
 cases s1 a _ ea with
 | ins eh pr =>
   obtain ⟨u,lu,ru⟩:=look_some pr l
   exact ⟨a,C,_,_,u,rfl,eh,(hG C g).1,(hG C g).2,lu,hq u H1 v S1 f1 s1 ru q1⟩
noncomputable def wSFld (G:Addr->Prop) (wa wv:WE) (f:Str):WS:=fun D σ S=>wv σ S fun y S1=>wa σ S1 fun x S2=>∃ a C fs,x=.ref a /\ S2 a=some (.ins C fs) /\ G C /\ fs.length < 1000 /\ D.nx σ (put S2 a (.ins C (putT f y fs)))
theorem ins_write {H:Hp} {S:Sto} {a C dx:Addr} {fts:List (Str × T)} {fs:List (Str × V)} {f:Str} {t:T} {v:V} (s:SRp K H S) (ea:S a=some (.ins C fts)) (eh:H a=some (.ins C dx fs))
   (pr:Paired (fun (p:Str × T) (q:Str × V)=>p.1=q.1 /\ Rp K H S p.2 q.2) fts fs) (r:Rp K H S t v):Fr H S (upd H a (.ins C dx (putF f v fs))) (put S a (.ins C (putT f t fts))) /\ SRp K (upd H a (.ins C dx (putF f v fs))) (put S a (.ins C (putT f t fts))):=by
 have hn:S a ≠ none:=by rw [ea]; simp
 refine ⟨Fr.write hn,s.write hn (.ins upd_same ?_)⟩
 exact Paired.mapP (put_fields r pr) fun _ _ z=>⟨z.1,z.2.fr (Fr.write hn)⟩
theorem q_sfld {f:Str} {wv:WE} {value:Expr} {pos':Pos} (hK:X.K=K) (hG:∀ C,G C->Cls K C /\ NoAttr K C f) (ha:QE K X o wa) (hv:QE K X value wv) (hs:swapsWith value (some (.Attribute o f pos')) pos.line X.env=pure false:=by rfl) :
   QS K X (.Assign [.Attribute o f pos'] value pos) (wSFld G wa wv f):=by
 subst hK
 refine PS.of (ps_fld ha hv hs) fun D σ H zz78=>?_
 obtain ⟨S,σt,Dt,s,c,q,he⟩:=zz78
 refine ⟨S,σt,_,s,c,q,fun y H1 ty S1 f1 s1 r1 q1=>?_⟩
 refine ⟨S1,σt,_,s1,c.fr f1,q1,fun x H2 tx S2 f2 s2 r2 q2=>?_⟩
 obtain ⟨a,C,fs,rfl,ea,g,l,q2⟩:=q2
 cases r2
 cases s2 a _ ea with
 | ins eh pr =>
   obtain ⟨fw,sw⟩:=ins_write (f:=f) s2 ea eh pr (r1.fr f2)
   exact ⟨a,C,_,_,rfl,eh,(hG C g).1,(hG C g).2,by rw [Paired.len pr]; exact l,he.nx _ _ σt _ ((f1.trans f2).trans fw) sw (c.fr ((f1.trans f2).trans fw)) q2⟩
end
end T2
namespace T2
open PySem PySem.Spec PyProof.Rows L2
noncomputable def viewL (S:Sto):T->Option (List T)
 | .lst ts=>some ts
 | .scr ns=>some (ns.map T.int)
 | .ref a=>match S a with
   | some (.lst ts)=>some ts
   | _=>none
 | _=>none
theorem vw_ref {S:Sto} {p:Addr} {ts:List T} (e:S p=some (.lst ts)):viewL S (.ref p)=some ts:=by delta viewL; dsimp only; rw [e]
noncomputable def viewR (S:Sto):T->Option (List T)
 | .lst ts=>some ts
 | .ref a=>match S a with
   | some (.lst ts)=>some ts
   | _=>none
 | _=>none
theorem viewR_h {K H S t v ts} (s:SRp K H S) (r:Rp K H S t v) (e:viewR S t=some ts):∃ p vs,v=.ref p /\ H p=some (.lst vs) /\ Rps K H S ts vs:=by
 cases r with
 | lst n h q=>cases e; exact ⟨_,_,rfl,h,q⟩
 | ref =>
   rename_i a
   delta viewR at e
   dsimp only at e
   cases q:S a with
   | none=>rw [q] at e; cases e
   | some o =>
     rw [q] at e
     cases o with
     | lst us=>cases e; cases s a _ q with
       | lst h rs=>exact ⟨a,_,rfl,h,rs⟩
     | _=>cases e
 | _=>cases e
theorem viewL_sq {K H S t v ts} (s:SRp K H S) (r:Rp K H S t v) (e:viewL S t=some ts):∃ p vs,v=.ref p /\ SqL K H p vs /\ Rps K H S ts vs:=by
 cases r with
 | scr h=>cases e; exact ⟨_,_,rfl,h.sq,Rps.ints⟩
 | lst n h q=>cases e; exact ⟨_,_,rfl,SqL.of h,q⟩
 | ref =>
   obtain ⟨p,vs,e1,e2,e3⟩:=viewR_h s (Rp.ref (K:=K) (H:=H) (S:=S)) (show viewR S (.ref _)=some ts from e)
   exact ⟨p,vs,e1,SqL.of e2,e3⟩
 | _=>cases e
noncomputable def newL (tr:Bool) (ts:List T) (S:Sto) (Q:T->Sto->Prop):Prop:=match tr with
 | false=>Q (.lst ts) S
 | true=>∀ p,S p=none->Q (.ref p) (put S p (.lst ts))
theorem newL_v {K H S ts vs tr Qt} {Q:VK} (s:SRp K H S) (r:Rps K H S ts vs) (n:newL tr ts S Qt) (b:Bh K H S Qt Q):∀ p,H p=none->Q (.ref p) (upd H p (.lst vs)):=fun p hp=>by
 cases tr with
 | false=>exact b _ _ (.lst ts) S (Fr.new hp) (s.new hp) (.lst (s.fresh hp) upd_same (r.fr (Fr.new hp))) n
 | true=>exact b _ _ (.ref p) _ (Fr.newT hp) (s.newT hp (.lst upd_same (r.fr (Fr.newT hp)))) .ref (n p (s.fresh hp))
section
variable {K:Fg} {X:Cx}
noncomputable def gI (C:Int->Int->Prop) (f:Int->Int->T):G2:=fun x y S Q=>match x,y with
 | .int i,.int j=>C i j /\ Q (f i j) S
 | _,_=>False
theorem gI_ok {f:Value->Value->Sem Value} {C:Int->Int->Prop} {g:Int->Int->Int} (h:OpR X f (rI C fun i j=>.int (g i j))):OpR X f (l2 K (gI C fun i j=>.int (g i j))):=by
 rintro pins s σ H x y v u Q I rx ry ⟨S,tx,ty,Qt,sr,hx,hy,hg,b⟩
 cases hx <;> first | exact hg.elim | skip
 cases hy <;> first | exact hg.elim | skip
 exact h pins s σ H _ _ v u Q I rx ry ⟨_,_,rfl,rfl,hg.1,b _ H _ S .refl sr .int hg.2⟩
theorem gI0_ok {f:Value->Value->Sem Value} {g:Int->Int->Int} (h:OpR X f (rI0 fun i j=>.int (g i j))):OpR X f (l2 K (gI (fun _ _=>True) fun i j=>.int (g i j))):=by
 rintro pins s σ H x y v u Q I rx ry ⟨S,tx,ty,Qt,sr,hx,hy,hg,b⟩
 cases hx <;> first | exact hg.elim | skip
 cases hy <;> first | exact hg.elim | skip
 exact h pins s σ H _ _ v u Q I rx ry ⟨_,_,rfl,rfl,b _ H _ S .refl sr .int hg.2⟩
noncomputable def gSub:G2:=gI (fun _ _=>True) fun i j=>.int (i - j)
noncomputable def gDiv:G2:=gI (fun _ j=>0 < j /\ j < 18446744073709551616) fun i j=>.int (i / j)
noncomputable def gMod:G2:=gI (fun _ j=>0 < j) fun i j=>.int (i % j)
noncomputable def gPow:G2:=gI CPow fun i j=>.int (i ^ j.toNat)
noncomputable def gShr:G2:=gI (fun _ j=>0 <= j) fun i j=>.int (i / 2 ^ j.toNat)
theorem o_sub:OpR X (binaryOp .Sub) (l2 K gSub):=gI0_ok op_sub
theorem o_div:OpR X (binaryOp .FloorDiv) (l2 K gDiv):=gI_ok op_fdivB
theorem o_mod:OpR X (binaryOp .Mod) (l2 K gMod):=gI_ok op_mod
theorem o_pow:OpR X (binaryOp .Pow) (l2 K gPow):=gI_ok op_pow
theorem o_shr:OpR X (binaryOp .RShift) (l2 K gShr):=gI_ok op_shr
noncomputable def gAdd (tr:Bool):G2:=fun x y S Q=>match x,y with
 | .int i,.int j=>Q (.int (i + j)) S
 | .str a,.str c=>a.length + c.length <= sizeLine /\ Q (.str (a ++ c)) S
 | x,y=>∃ ts us,viewR S x=some ts /\ viewR S y=some us /\ ts.length + us.length <= sizeLine /\ newL tr (ts ++ us) S Q
theorem o_add (tr:Bool):OpR X (binaryOp .Add) (l2 K (gAdd tr)):=by
 rintro pins s σ H x y v u Q I rx ry ⟨S,tx,ty,Qt,sr,hx,hy,hg,b⟩
 have lists:(∃ ts us,viewR S tx=some ts /\ viewR S ty=some us /\ ts.length + us.length <= sizeLine /\ newL tr (ts ++ us) S Qt)->wpAny (model X.prog X.w) X.A (binaryOp .Add v u) (EP X pins σ Q) X.xe s:=by
   rintro ⟨ts,us,e1,e2,hz,n⟩
   obtain ⟨p,vs,rfl,h1,r1⟩:=viewR_h sr hx e1
   obtain ⟨q,ws,rfl,h2,r2⟩:=viewR_h sr hy e2
   exact op_cat pins s σ H _ _ v u Q I rx ry ⟨p,q,vs,ws,rfl,rfl,h1,h2,by rw [r1.length,r2.length]; exact hz,newL_v sr (r1.append r2) n b⟩
 cases tx with
 | int i =>
   cases ty with
   | int j=>cases hx; cases hy; exact op_add pins s σ H _ _ v u Q I rx ry ⟨i,j,rfl,rfl,b _ H _ S .refl sr .int hg⟩
   | _=>exact lists hg
 | str a =>
   cases ty with
   | str c=>cases hx; cases hy; exact op_add_str pins s σ H _ _ v u Q I rx ry ⟨a,c,rfl,rfl,hg.1,b _ H _ S .refl sr .str hg.2⟩
   | _=>exact lists hg
 | _=>exact lists hg
noncomputable def gMul (tr:Bool):G2:=fun x y S Q=>match x,y with
 | .int i,.int j=>CMul i j /\ Q (.int (i * j)) S
 | x,.int k=>∃ ts,viewR S x=some ts /\ -(2 ^ 63) <= k /\ k < 2 ^ 63 /\ ts.length * k.toNat <= sizeLine /\ newL tr (List.replicate k.toNat ts).flatten S Q
 | _,_=>False
theorem Rps.rep {H S ts vs} (r:Rps K H S ts vs):∀ n:Nat,Rps K H S (List.replicate n ts).flatten (List.replicate n vs).flatten
 | 0=>.nil
 | n + 1=>by simp only [List.replicate_succ,List.flatten_cons]; exact r.append (Rps.rep r n)
theorem o_mul (tr:Bool):OpR X (binaryOp .Mult) (l2 K (gMul tr)):=by
 rintro pins s σ H x y v u Q I rx ry ⟨S,tx,ty,Qt,sr,hx,hy,hg,b⟩
 have lists:∀ k,ty=.int k->(∃ ts,viewR S tx=some ts /\ -(2 ^ 63) <= k /\ k < 2 ^ 63 /\ ts.length * k.toNat <= sizeLine /\ newL tr (List.replicate k.toNat ts).flatten S Qt)->wpAny (model X.prog X.w) X.A (binaryOp .Mult v u) (EP X pins σ Q) X.xe s:=by
   rintro k rfl ⟨ts,e1,k1,k2,hz,n⟩
   obtain ⟨p,vs,rfl,h1,r1⟩:=viewR_h sr hx e1
   cases hy
   exact op_rep pins s σ H _ _ v u Q I rx ry ⟨p,k,vs,rfl,rfl,h1,k1,k2,by rw [r1.length]; exact hz,newL_v sr (r1.rep _) n b⟩
 cases ty with
 | int k =>
   cases tx with
   | int i=>cases hx; cases hy; exact op_mul pins s σ H _ _ v u Q I rx ry ⟨i,k,rfl,rfl,hg.1,b _ H _ S .refl sr .int hg.2⟩
   | _=>exact lists k rfl hg
 | _=>cases tx <;> exact hg.elim
mutual
noncomputable def datT:T->Option PyData
 | .non=>some .none
 | .bl b=>some (.bool b)
 | .int i=>some (.int i)
 | .str x=>some (.str x)
 | .tup ts=>(datsT ts).map .tuple
 | .lst ts=>(datsT ts).map .list
 | .scr ns=>some (.list (ns.map .int))
 | _=>none
noncomputable def datsT:List T->Option (List PyData)
 | []=>some []
 | t :: ts=>match datT t,datsT ts with
   | some d,some ds=>some (d :: ds)
   | _,_=>none
end
noncomputable def datS (S:Sto) (t:T):Option PyData:=match t with
 | .ref a=>match S a with
   | some (.lst ts)=>(datsT ts).map .list
   | _=>none
 | t=>datT t
theorem datT_tup {ts:List T}:datT (.tup ts)=(datsT ts).map .tuple:=rfl
theorem datT_lst {ts:List T}:datT (.lst ts)=(datsT ts).map .list:=rfl
theorem datsT_u {t:T} {ts:List T}:datsT (t :: ts)=(match datT t,datsT ts with | some d,some ds=>some (d :: ds) | _,_=>none):=rfl
theorem datsT_c {t:T} {ts:List T} {d:PyData} {ds:List PyData} (h1:datT t=some d) (h2:datsT ts=some ds):datsT (t :: ts)=some (d :: ds):=by rw [datsT_u,h1,h2]
theorem datsT_i {t:T} {ts:List T} {es:List PyData} (e:datsT (t :: ts)=some es):∃ d ds,datT t=some d /\ datsT ts=some ds /\ es=d :: ds:=by
 rw [datsT_u] at e
 cases h1:datT t with
 | none=>rw [h1] at e; cases e
 | some d =>
   cases h2:datsT ts with
   | none=>rw [h1,h2] at e; cases e
   | some dl=>rw [h1,h2] at e; cases e; exact ⟨d,dl,rfl,rfl,rfl⟩
theorem dat_ints {H:Hp} {ns:List Int}:DatVs K H (ns.map V.int) (ns.map PyData.int):=by
 induction ns with
 | nil=>exact .nil
 | cons a l ih=>exact .cons (.int a) ih
mutual
theorem datT_ok {H S}:∀ {t v d},Rp K H S t v->datT t=some d->DatV K H v d
 | _,_,_,.non,e=>by cases e; exact .non
 | _,_,_,.bl,e=>by cases e; exact .bl _
 | _,_,_,.int,e=>by cases e; exact .int _
 | _,_,_,.str,e=>by cases e; exact .str _
 | _,_,_,.ty,e=>by cases e
 | _,_,_,.ref,e=>by cases e
 | _,_,_,.tup n h r,e=>by
   simp only [datT_tup,datT_lst,Option.map_eq_some_iff] at e
   obtain ⟨ds,e,rfl⟩:=e
   exact .tup (SqT.of h) (datsT_ok r e)
 | _,_,_,.lst n h r,e=>by
   simp only [datT_tup,datT_lst,Option.map_eq_some_iff] at e
   obtain ⟨ds,e,rfl⟩:=e
   exact .lst (SqL.of h) (datsT_ok r e)
 | _,_,_,.scr h,e=>by cases e; exact .lst h.sq dat_ints
theorem datsT_ok {H S}:∀ {ts vs ds},Rps K H S ts vs->datsT ts=some ds->DatVs K H vs ds
 | _,_,_,.nil,e=>by cases e; exact .nil
 | _,_,_,.cons (t:=t) (ts:=ts) a r,e=>by
   obtain ⟨d,dl,h1,h2,rfl⟩:=datsT_i e
   exact .cons (datT_ok a h1) (datsT_ok r h2)
end
theorem datS_ok {H S t v d} (s:SRp K H S) (r:Rp K H S t v) (e:datS S t=some d):DatV K H v d:=by
 cases t with
 | ref a =>
   cases r
   delta datS at e
   dsimp only at e
   cases q:S a with
   | none=>rw [q] at e; cases e
   | some o =>
     rw [q] at e
     cases o with
     | lst us =>
       simp only [Option.map_eq_some_iff] at e
       obtain ⟨ds,e,rfl⟩:=e
       cases s a _ q with
       | lst h rs=>exact .lst (SqL.of h) (datsT_ok rs e)
     | _=>cases e
 | _=>exact datT_ok r e
noncomputable def gEq (neg:Bool):G2:=fun x y S Q=>match x,y with
 | .int i,.int j=>Q (.bl (neg ^^ decide (i=j))) S
 | .str i,.str j=>Q (.bl (neg ^^ decide (i=j))) S
 | .bl i,.bl j=>Q (.bl (neg ^^ decide (i=j))) S
 | x,y=>∃ dx dy,datS S x=some dx /\ datS S y=some dy /\ dx.canLay0=true /\ dy.canLay0=true /\ min dx.depth dy.depth <= 64 /\ Q (.bl (neg ^^ PyData.eqv dx dy)) S
theorem o_eq (hK:X.K=K) (hu:X.A.units + 64 < cLine):OpR X (compareOp .Eq) (l2 K (gEq false)):=by
 subst hK
 rintro pins s σ H x y v u Q I rx ry ⟨S,tx,ty,Qt,sr,hx,hy,hg,b⟩
 have deep:(∃ dx dy,datS S tx=some dx /\ datS S ty=some dy /\ dx.canLay0=true /\ dy.canLay0=true /\ min dx.depth dy.depth <= 64 /\ Qt (.bl (false ^^ PyData.eqv dx dy)) S)->wpAny (model X.prog X.w) X.A (compareOp .Eq v u) (EP X pins σ Q) X.xe s:=by
   rintro ⟨dx,dy,e1,e2,c1,c2,hd,q⟩
   exact op_eqD hu pins s σ H _ _ v u Q I rx ry ⟨dx,dy,datS_ok sr hx e1,datS_ok sr hy e2,c1,c2,hd,b _ H _ S .refl sr .bl q⟩
 cases tx with
 | int i =>
   cases ty with
   | int j=>cases hx; cases hy; exact op_eq pins s σ H _ _ v u Q I rx ry ⟨rfl,b _ H _ S .refl sr .bl (by have hg:Qt (.bl (false ^^ decide (i=j))) S:=hg; simpa using hg)⟩
   | _=>exact deep hg
 | str i =>
   cases ty with
   | str j=>cases hx; cases hy; exact op_eq pins s σ H _ _ v u Q I rx ry ⟨rfl,b _ H _ S .refl sr .bl (by have hg:Qt (.bl (false ^^ decide (i=j))) S:=hg; simpa using hg)⟩
   | _=>exact deep hg
 | bl i =>
   cases ty with
   | bl j=>cases hx; cases hy; exact op_eq pins s σ H _ _ v u Q I rx ry ⟨rfl,b _ H _ S .refl sr .bl (by have hg:Qt (.bl (false ^^ decide (i=j))) S:=hg; simpa using hg)⟩
   | _=>exact deep hg
 | _=>exact deep hg
theorem o_ne (hK:X.K=K) (hu:X.A.units + 64 < cLine):OpR X (compareOp .NotEq) (l2 K (gEq true)):=by
 subst hK
 rintro pins s σ H x y v u Q I rx ry ⟨S,tx,ty,Qt,sr,hx,hy,hg,b⟩
 have deep:(∃ dx dy,datS S tx=some dx /\ datS S ty=some dy /\ dx.canLay0=true /\ dy.canLay0=true /\ min dx.depth dy.depth <= 64 /\ Qt (.bl (true ^^ PyData.eqv dx dy)) S)->wpAny (model X.prog X.w) X.A (compareOp .NotEq v u) (EP X pins σ Q) X.xe s:=by
   rintro ⟨dx,dy,e1,e2,c1,c2,hd,q⟩
   exact op_neD hu pins s σ H _ _ v u Q I rx ry ⟨dx,dy,datS_ok sr hx e1,datS_ok sr hy e2,c1,c2,hd,b _ H _ S .refl sr .bl q⟩
 cases tx with
 | int i =>
   cases ty with
   | int j=>cases hx; cases hy; exact op_ne pins s σ H _ _ v u Q I rx ry ⟨rfl,b _ H _ S .refl sr .bl (by have hg:Qt (.bl (true ^^ decide (i=j))) S:=hg; simpa using hg)⟩
   | _=>exact deep hg
 | str i =>
   cases ty with
   | str j=>cases hx; cases hy; exact op_ne pins s σ H _ _ v u Q I rx ry ⟨rfl,b _ H _ S .refl sr .bl (by have hg:Qt (.bl (true ^^ decide (i=j))) S:=hg; simpa using hg)⟩
   | _=>exact deep hg
 | bl i =>
   cases ty with
   | bl j=>cases hx; cases hy; exact op_ne pins s σ H _ _ v u Q I rx ry ⟨rfl,b _ H _ S .refl sr .bl (by have hg:Qt (.bl (true ^^ decide (i=j))) S:=hg; simpa using hg)⟩
   | _=>exact deep hg
 | _=>exact deep hg
noncomputable def ltS (a c:Str):Bool:=decide (a.cps.toList < c.cps.toList)
noncomputable def gLt:G2:=fun x y S Q=>match x,y with
 | .int i,.int j=>Q (.bl (decide (i < j))) S
 | .str a,.str c=>Q (.bl (ltS a c)) S
 | _,_=>False
noncomputable def gLe:G2:=fun x y S Q=>match x,y with
 | .int i,.int j=>Q (.bl (decide (i <= j))) S
 | .str a,.str c=>Q (.bl (!ltS c a)) S
 | _,_=>False
noncomputable def gGt:G2:=fun x y S Q=>match x,y with
 | .int i,.int j=>Q (.bl (decide (j < i))) S
 | _,_=>False
noncomputable def gGe:G2:=fun x y S Q=>match x,y with
 | .int i,.int j=>Q (.bl (decide (j <= i))) S
 | _,_=>False
theorem o_lt:OpR X (compareOp .Lt) (l2 K gLt):=by
 rintro pins s σ H x y v u Q I rx ry ⟨S,tx,ty,Qt,sr,hx,hy,hg,b⟩
 cases hx <;> first | exact hg.elim | skip
 . cases hy <;> first | exact hg.elim | skip
   exact op_lt pins s σ H _ _ v u Q I rx ry ⟨_,_,rfl,rfl,b _ H _ S .refl sr .bl hg⟩
 . cases hy <;> first | exact hg.elim | skip
   exact op_lt_str pins s σ H _ _ v u Q I rx ry ⟨_,_,rfl,rfl,b _ H _ S .refl sr .bl hg⟩
theorem o_le:OpR X (compareOp .LtE) (l2 K gLe):=by
 rintro pins s σ H x y v u Q I rx ry ⟨S,tx,ty,Qt,sr,hx,hy,hg,b⟩
 cases hx <;> first | exact hg.elim | skip
 . cases hy <;> first | exact hg.elim | skip
   exact op_le pins s σ H _ _ v u Q I rx ry ⟨_,_,rfl,rfl,b _ H _ S .refl sr .bl hg⟩
 . cases hy <;> first | exact hg.elim | skip
   exact op_le_str pins s σ H _ _ v u Q I rx ry ⟨_,_,rfl,rfl,b _ H _ S .refl sr .bl hg⟩
theorem o_gt:OpR X (compareOp .Gt) (l2 K gGt):=by
 rintro pins s σ H x y v u Q I rx ry ⟨S,tx,ty,Qt,sr,hx,hy,hg,b⟩
 cases hx <;> first | exact hg.elim | skip
 cases hy <;> first | exact hg.elim | skip
 exact op_gt pins s σ H _ _ v u Q I rx ry ⟨_,_,rfl,rfl,b _ H _ S .refl sr .bl hg⟩
noncomputable def isN:T->Bool
 | .non=>true
 | _=>false
noncomputable def gIs (neg:Bool):G2:=fun x y S Q=>match y with
 | .non=>Q (.bl (neg ^^ isN x)) S
 | _=>False
theorem isN_v {H S t v} (r:Rp K H S t v):decide (v=V.non)=isN t:=by cases r <;> simp [isN]
theorem o_is:OpR X (compareOp .Is) (l2 K (gIs false)):=by
 rintro pins s σ H x y v u Q I rx ry ⟨S,tx,ty,Qt,sr,hx,hy,hg,b⟩
 cases hy <;> first | exact hg.elim | skip
 refine op_isN pins s σ H _ _ v u Q I rx ry ⟨rfl,b _ H _ S .refl sr .bl ?_⟩
 rw [isN_v hx]; simpa [gIs] using hg
noncomputable def wNeg (wa:WE):WE:=fun σ S Q=>wa σ S fun x S1=>match x with
 | .int i=>Q (.int (-i)) S1
 | _=>False
theorem q_neg {a:Expr} {wa:WE} {pos:Pos} (ha:QE K X a wa):QE K X (.UnaryOp .USub a pos) (wNeg wa):=PE.of (pe_un un_neg ha) fun σ H Q zz79=>by
 obtain ⟨S,σt,Qt,s,c,q,hq⟩:=zz79
 refine ⟨S,σt,_,s,c,q,fun x H1 tx S1 f1 s1 r1 q1=>?_⟩
 cases r1 <;> first | exact q1.elim | skip
 exact ⟨_,rfl,hq _ H1 _ S1 f1 s1 .int q1⟩
noncomputable def ixT (S:Sto) (x y:T):Option T:=match x,y with
 | .tup ts,.int i=>atI ts i
 | .str z,.int i=>if z.length <= sizeLine then (atI z.cps.toList i).map fun c=>.str ⟨#[c]⟩ else none
 | x,.int i=>(viewL S x).bind fun ts=>atI ts i
 | _,_=>none
theorem ix_ref {S:Sto} {p:Addr} {ts:List T} {i:Int} (e:S p=some (.lst ts)):ixT S (.ref p) (.int i)=atI ts i:=by
 show (viewL S (.ref p)).bind (fun ts=>atI ts i)=_
 rw [vw_ref e]; rfl
theorem ix_lst {S:Sto} {ts:List T} {i:Int}:ixT S (.lst ts) (.int i)=atI ts i:=rfl
noncomputable def gIx:G2:=fun x y S Q=>∃ r,ixT S x y=some r /\ Q r S
theorem atI_rp {H S ts vs i t} (r:Rps K H S ts vs) (e:atI ts i=some t):∃ v,atI vs i=some v /\ Rp K H S t v:=by
 unfold atI at e ⊢
 rw [r.length]
 cases q:ixN ts.length i with
 | none=>rw [q] at e; cases e
 | some j =>
   rw [q] at e
   simp only [Option.bind_some] at e ⊢
   exact r.get e
theorem i_ix (hK:X.K=K):IxR X (l2 K gIx):=by
 subst hK
 rintro value slice pins s σ H x y v u Q I rx ry ⟨S,tx,ty,Qt,sr,hx,hy,⟨r,e,q⟩,b⟩ hs
 have lists:∀ i,ty=.int i->(viewL S tx).bind (fun ts=>atI ts i)=some r->wpAny (model X.prog X.w) X.A (subscriptTail value slice v u) (EP X pins σ Q) X.xe s:=by
   rintro i rfl e
   cases hy
   cases h1:viewL S tx with
   | none=>rw [h1] at e; cases e
   | some ts =>
     rw [h1] at e
     obtain ⟨p,vs,rfl,hq,rs⟩:=viewL_sq sr hx h1
     obtain ⟨w',e2,r2⟩:=atI_rp rs e
     exact ix_list value slice pins s σ H _ _ v u Q I rx ry ⟨p,vs,i,w',rfl,rfl,hq,e2,b _ H _ S .refl sr r2 q⟩ hs
 cases ty with
 | int i =>
   cases tx with
   | tup ts =>
     cases hy
     cases hx with
     | tup n hp rs =>
       obtain ⟨w',e2,r2⟩:=atI_rp rs (show atI ts i=some r from e)
       exact ix_tup value slice pins s σ H _ _ v u Q I rx ry ⟨_,_,i,w',rfl,rfl,SqT.of hp,e2,b _ H _ S .refl sr r2 q⟩ hs
   | str z =>
     cases hy
     cases hx
     delta ixT at e
     dsimp only at e
     split at e
     . next hz =>
       simp only [Option.map_eq_some_iff] at e
       obtain ⟨c,e,rfl⟩:=e
       exact ix_str value slice pins s σ H _ _ v u Q I rx ry ⟨z,i,c,rfl,rfl,hz,e,b _ H _ S .refl sr .str q⟩ hs
     . cases e
   | _=>exact lists i rfl e
 | _=>cases tx <;> cases e
theorem q_ix {a c:Expr} {wa wc:WE} {pos:Pos} (hK:X.K=K) (ha:QE K X a wa) (hc:QE K X c wc) (hs:PlainIx c):QE K X (.Subscript a c pos) (w2 gIx wa wc):=PE.of (pe_ix (i_ix hK) ha hc hs) fun _ _ _ h=>l2_of h
noncomputable abbrev WO:=StT->Sto->(Option Int->Sto->Prop)->Prop
noncomputable def lO (K:Fg) (w:WO):TO:=fun σ H Q=>∃ S σt Qt,SRp K H S /\ Cov K H S σ σt /\ w σt S Qt /\ ∀ b H' S',Fr H S H' S'->SRp K H' S'->Qt b S'->Q b H'
noncomputable def QO (K:Fg) (X:Cx) (e:Option Expr) (w:WO):Prop:=PO X e (lO K w)
theorem PO.of {e:Option Expr} {t t':TO} (h:PO X e t) (i:∀ σ H Q,t' σ H Q->t σ H Q):PO X e t':=fun pins s σ H Q I q=>h pins s σ H Q I (i σ H Q q)
noncomputable def woN:WO:=fun _ S Q=>Q none S
noncomputable def woS (wa:WE):WO:=fun σ S Q=>wa σ S fun x S1=>match x with
 | .int i=>Q (some i) S1
 | _=>False
theorem qo_none:QO K X none woN:=PO.of po_none fun σ H Q zz80=>by obtain ⟨S,σt,Qt,s,c,q,hq⟩:=zz80; exact hq none H S .refl s q
theorem qo_some {e:Expr} {wa:WE} (h:QE K X e wa):QO K X (some e) (woS wa):=PO.of (po_some h) fun σ H Q zz81=>by
 obtain ⟨S,σt,Qt,s,c,q,hq⟩:=zz81
 refine ⟨S,σt,_,s,c,q,fun x H1 tx S1 f1 s1 r1 q1=>?_⟩
 cases r1 <;> first | exact q1.elim | skip
 exact ⟨_,rfl,hq _ H1 S1 f1 s1 q1⟩
noncomputable def cutT (ts:List T) (lo hi:Option Int):List T:=(ts.drop (HT.sIx ts.length 0 lo)).take (HT.sIx ts.length ts.length hi - HT.sIx ts.length 0 lo)
theorem cut_rp {H S ts vs lo hi} (r:Rps K H S ts vs):Rps K H S (cutT ts lo hi) (cutV vs lo hi):=by
 unfold cutT cutV
 rw [r.length]
 exact (r.drop _).take _
noncomputable def gSl (tr:Bool) (x:T) (lo hi:Option Int) (S:Sto) (Q:T->Sto->Prop):Prop:=match x with
 | .str z=>z.length <= sizeLine /\ Q (.str (Txt.slice z lo hi)) S
 | x=>∃ ts,viewL S x=some ts /\ newL tr (cutT ts lo hi) S Q
noncomputable def l3 (K:Fg) (g:T->Option Int->Option Int->Sto->(T->Sto->Prop)->Prop):V->Option Int->Option Int->Hp->VK->Prop:=fun x lo hi H Q=>∃ S tx Qt,SRp K H S /\ Rp K H S tx x /\ g tx lo hi S Qt /\ Bh K H S Qt Q
theorem s_sl (tr:Bool) (hK:X.K=K):SlR X (l3 K (gSl tr)):=by
 subst hK
 rintro pins s σ H x v vl vu lo hi sl Q I rx hs pl pu ⟨S,tx,Qt,sr,hx,hg,b⟩
 have lists:(∃ ts,viewL S tx=some ts /\ newL tr (cutT ts lo hi) S Qt)->rSlL X.K x lo hi H Q:=by
   rintro ⟨ts,e,n⟩
   obtain ⟨p,vs,rfl,hq,rs⟩:=viewL_sq sr hx e
   exact ⟨p,vs,rfl,hq,newL_v sr (cut_rp rs) n b⟩
 cases tx with
 | str z=>cases hx; exact sl_str pins s σ H _ v vl vu lo hi sl Q I rx hs pl pu ⟨z,rfl,hg.1,b _ H _ S .refl sr .str hg.2⟩
 | _=>exact sl_list pins s σ H _ v vl vu lo hi sl Q I rx hs pl pu (lists hg)
noncomputable def wSl (tr:Bool) (wa:WE) (wl wh:WO):WE:=fun σ S Q=>wa σ S fun x S1=>wl σ S1 fun l S2=>wh σ S2 fun h S3=>gSl tr x l h S3 Q
theorem q_slice (tr:Bool) {e:Expr} {lo hi:Option Expr} {wa:WE} {wl wh:WO} {p2 pos:Pos} (hK:X.K=K) (he:QE K X e wa) (hl:QO K X lo wl) (hu:QO K X hi wh):QE K X (.Subscript e (.Slice lo hi none p2) pos) (wSl tr wa wl wh) :=
 PE.of (pe_slice (s_sl tr hK) he hl hu) fun σ H Q zz82=>by
   obtain ⟨S,σt,Qt,s,c,q,hq⟩:=zz82
   refine ⟨S,σt,_,s,c,q,fun x H1 tx S1 f1 s1 r1 q1=>?_⟩
   refine ⟨S1,σt,_,s1,c.fr f1,q1,fun l H2 S2 f2 s2 q2=>?_⟩
   refine ⟨S2,σt,_,s2,c.fr (f1.trans f2),q2,fun h H3 S3 f3 s3 q3=>?_⟩
   exact ⟨S3,tx,Qt,s3,(r1.fr f2).fr f3,q3,fun v H' t S' f=>hq v H' t S' (((f1.trans f2).trans f3).trans f)⟩
end
end T2
namespace T2
open PySem PySem.Spec PyProof.Rows L2
structure Src where
 items:List T
 grd:Sto->Prop
noncomputable abbrev WI:=StT->Sto->(Src->Sto->Prop)->Prop
structure Iter (K:Fg) (J:It) (src:Src) (H1:Hp) (S1:Sto):Prop where
 go:∀ H S i,Fr H1 S1 H S->SRp K H S->src.grd S->i < src.items.length->J.go i H
 yld:∀ H S i x H',Fr H1 S1 H S->SRp K H S->src.grd S->i < src.items.length->J.yld i H x H'->∃ t,src.items[i]?=some t /\ Fr H S H' S /\ SRp K H' S /\ Rp K H' S t x
 stop:∀ H S,Fr H1 S1 H S->SRp K H S->src.grd S->J.stop src.items.length H
noncomputable def lI (K:Fg) (w:WI):TI:=fun σ H R=>∃ S σt Rt,SRp K H S /\ Cov K H S σ σt /\ w σt S Rt /\ ∀ J H1 src S1,Fr H S H1 S1->SRp K H1 S1->Iter K J src H1 S1->Rt src S1->R J H1
noncomputable def QI (K:Fg) (X:Cx) (tg iter:Expr) (w:WI):Prop:=PI X tg iter (lI K w)
section
variable {K:Fg} {X:Cx} {tg:Expr}
theorem PI.of {e:Expr} {t t':TI} (h:PI X tg e t) (i:∀ σ H Q,t' σ H Q->t σ H Q):PI X tg e t':=fun pins s σ H Q I q=>h pins s σ H Q I (i σ H Q q)
theorem drop_at {α:Type} {l:List α} {i:Nat} {t:α} (h:l[i]?=some t):l.drop i=t :: l.drop (i + 1):=by
 obtain ⟨hl,e⟩:=List.getElem?_eq_some_iff.mp h
 rw [<- e]; exact List.drop_eq_getElem_cons hl
noncomputable def forT (grd:Sto->Prop) (g:WG) (wb:WS) (D:EndsT):List T->StT->Sto->Prop
 | [],σ,S=>grd S /\ D.nx σ S
 | t :: ts,σ,S=>grd S /\ g t σ S fun σ2 S2=>wb { nx:=forT grd g wb D ts,rt:=D.rt,bk:=D.nx,ct:=forT grd g wb D ts } σ2 S2
noncomputable def wFor (wi:WI) (g:WG) (wb:WS):WS:=fun D σ S=>wi σ S fun src S1=>forT src.grd g wb D src.items σ S1
theorem lFor_of {wi:WI} {g:WG} {wb:WS} {D σ H} (h:lS K (wFor wi g wb) D σ H):tFor (lI K wi) (lG K g) (lS K wb) D σ H:=by
 obtain ⟨S,σt,Dt,s,c,q,he⟩:=h
 refine ⟨S,σt,_,s,c,q,fun J H1 src S1 f1 s1 it q1=>?_⟩
 refine ⟨fun i m σ H=>m=src.items.length - i /\ i <= src.items.length /\ ∃ S σt,Fr H1 S1 H S /\ SRp K H S /\ Cov K H S σ σt /\ forT src.grd g wb Dt (src.items.drop i) σt S,
   ⟨_,rfl,Nat.zero_le _,S1,σt,.refl,s1,c.fr f1,by simpa using q1⟩,?_⟩
 rintro i m σ H ⟨rfl,hi,S2,σt2,f2,s2,c2,q2⟩
 by_cases hl:i < src.items.length
 . have e1:src.items[i]?=some src.items[i]:=by simp [hl]
   rw [drop_at e1] at q2
   obtain ⟨hg,q2⟩:=q2
   refine .inr ⟨it.go H S2 i f2 s2 hg hl,fun σ' H'=>∃ S σt,Fr H1 S1 H' S /\ SRp K H' S /\ Cov K H' S σ' σt /\ forT src.grd g wb Dt (src.items.drop (i + 1)) σt S,fun σ' H' n=>⟨src.items.length - (i + 1),by omega,rfl,hl,n⟩,fun x H' y=>?_⟩
   obtain ⟨t,et,f3,s3,r3⟩:=it.yld H S2 i x H' f2 s2 hg hl y
   rw [e1] at et; cases et
   refine ⟨S2,_,σt2,_,s3,r3,c2.fr f3,q2,fun σ4 H4 σt4 S4 f4 s4 c4 q4=>?_⟩
   have fA:=(f2.trans f3).trans f4
   refine ⟨S4,σt4,_,s4,c4,q4,⟨fun σ' H' σt' S' f s' c' q'=>⟨S',σt',fA.trans f,s',c',q'⟩,fun v H' t S' f=>he.rt v H' t S' ((f1.trans fA).trans f),fun σ' H' σt' S' f=>he.nx σ' H' σt' S' ((f1.trans fA).trans f),fun σ' H' σt' S' f s' c' q'=>⟨S',σt',fA.trans f,s',c',q'⟩⟩⟩
 . have e:i=src.items.length:=by omega
   subst e
   rw [List.drop_eq_nil_of_le (Nat.le_refl _)] at q2
   exact .inl ⟨it.stop H S2 f2 s2 q2.1,he.nx σ H σt2 S2 (f1.trans f2) s2 c2 q2.2⟩
theorem q_for {iter:Expr} {body:List Stmt} {wi:WI} {g:WG} {wb:WS} {pos:Pos} (hp:PassesOwn (model X.prog X.w) X.A X.env X.xe) (hc:X.calm=true) (hi:QI K X tg iter wi) (hg:QG K X tg g) (hb:QSs K X body wb)
   (hs:∀ x,foldedSetIterable iter X.env x=pure x:=by intro _; rfl):QS K X (.For tg iter body [] pos) (wFor wi g wb):=PS.of (ps_for hp hc hi hg hb hs) fun _ _ _ h=>lFor_of h
noncomputable def liveOk (t:T) (ts:List T) (S:Sto):Prop:=match t with
 | .ref a=>S a=some (.lst ts)
 | _=>True
noncomputable def wiL (wa:WE):WI:=fun σ S R=>wa σ S fun x S1=>∃ ts,viewL S1 x=some ts /\ R ⟨ts,liveOk x ts⟩ S1
theorem live_view {S S':Sto} {x:T} {ts:List T} (e:viewL S x=some ts) (h:liveOk x ts S'):viewL S' x=some ts:=by
 cases x with
 | ref a=>exact vw_ref h
 | lst us=>exact e
 | scr us=>exact e
 | _=>cases e
theorem iter_list {H1:Hp} {S1:Sto} {x:T} {a:Addr} {ts:List T} (r:Rp K H1 S1 x (.ref a)) (e:viewL S1 x=some ts):Iter K (Itl K a) ⟨ts,liveOk x ts⟩ H1 S1:=by
 have main:∀ H S,Fr H1 S1 H S->SRp K H S->liveOk x ts S->∃ vs,SqL K H a vs /\ Rps K H S ts vs:=fun H S f s g=>by
   obtain ⟨p,vs,ep,hq,rs⟩:=viewL_sq s (r.fr f) (live_view e g)
   cases ep
   exact ⟨vs,hq,rs⟩
 refine ⟨fun H S i f s g hl=>?_,fun H S i y H' f s g hl hy=>?_,fun H S f s g=>?_⟩
 . obtain ⟨vs,hq,rs⟩:=main H S f s g
   obtain ⟨v,hv,_⟩:=rs.get (i:=i) (t:=ts[i]) (by simp [show i < ts.length from hl])
   exact ⟨vs,v,hq,hv⟩
 . obtain ⟨vs,hq,rs⟩:=main H S f s g
   obtain ⟨rfl,hy⟩:=hy
   obtain ⟨t,et,rt⟩:=rs.getV (hy vs hq)
   exact ⟨t,et,.refl,s,rt⟩
 . obtain ⟨vs,hq,rs⟩:=main H S f s g
   exact ⟨vs,hq,by rw [rs.length]; exact Nat.le_refl _⟩
theorem qi_list {l:Expr} {wa:WE} (hK:X.K=K) (hl:QE K X l wa):QI K X tg l (wiL wa):=by
 subst hK
 refine PI.of (pi_list hl) fun σ H R zz83=>?_
 obtain ⟨S,σt,Rt,s,c,q,hq⟩:=zz83
 refine ⟨S,σt,_,s,c,q,fun v H1 t S1 f1 s1 r1 q1=>?_⟩
 obtain ⟨ts,e,q1⟩:=q1
 obtain ⟨p,vs,rfl,hS,rs⟩:=viewL_sq s1 r1 e
 exact ⟨p,rfl,⟨vs,hS⟩,hq _ H1 _ S1 f1 s1 (iter_list r1 e) q1⟩
noncomputable def wiT (wa:WE):WI:=fun σ S R=>wa σ S fun x S1=>∃ ts,x=.tup ts /\ R ⟨ts,fun _=>True⟩ S1
noncomputable def rangeT (lo:Int) (n:Nat):List T:=(List.range n).map fun (i:Nat)=>T.int (lo + i)
theorem iter_range {lo:Int} {n:Nat} {H1 S1}:Iter K (Itr lo n) ⟨rangeT lo n,fun _=>True⟩ H1 S1:=by
 refine ⟨fun H S i f s g hl=>by simpa [rangeT,Itr] using hl,fun H S i y H' f s g hl hy=>?_,fun H S f s g=>by simp [rangeT,Itr]⟩
 obtain ⟨rfl,rfl⟩:=hy
 have hl':i < n:=by simpa [rangeT] using hl
 exact ⟨.int (lo + i),by simp [rangeT,hl'],.refl,s,.int⟩
noncomputable def wiR1 (wa:WE):WI:=fun σ S R=>wa σ S fun x S1=>match x with
 | .int j=>-(2 ^ 62) <= j /\ j < 2 ^ 62 /\ R ⟨rangeT 0 j.toNat,fun _=>True⟩ S1
 | _=>False
noncomputable def wiR2 (wa wb:WE):WI:=fun σ S R=>wa σ S fun x S1=>wb σ S1 fun y S2=>match x,y with
 | .int i,.int j=>(-(2 ^ 62) <= i /\ i < 2 ^ 62 /\ -(2 ^ 62) <= j /\ j < 2 ^ 62) /\ R ⟨rangeT i (j - i).toNat,fun _=>True⟩ S2
 | _,_=>False
theorem qi_range1 {a:Expr} {wa:WE} {p pos:Pos} (hg:Gl X "range") (hm:X.mg "range"=none) (ha:QE K X a wa) (hs:starEach [a] X.env=[(false,eval a X.env)]:=by rfl) (hs':starEach [a] X.env=(false,eval a X.env) :: starEach [] X.env:=by rfl) :
   QI K X tg (.Call (.Name "range" p) [a] [] pos) (wiR1 wa) :=
 PI.of (pi_range1 hg hm (pa_cons ha pa_nil hs') hs) fun σ H R zz84=>by
   obtain ⟨S,σt,Rt,s,c,q,hq⟩:=zz84
   refine ⟨S,σt,_,s,c,q,fun x H1 tx S1 f1 s1 r1 q1=>?_⟩
   cases r1 <;> first | exact q1.elim | skip
   exact ⟨_,rfl,q1.1,q1.2.1,hq _ H1 _ S1 f1 s1 iter_range q1.2.2⟩
theorem qi_range2 {a b:Expr} {wa wb:WE} {p pos:Pos} (hg:Gl X "range") (hm:X.mg "range"=none) (ha:QE K X a wa) (hb:QE K X b wb) (hs:starEach [a,b] X.env=[(false,eval a X.env),(false,eval b X.env)]:=by rfl)
   (hs2:starEach [b] X.env=[(false,eval b X.env)]:=by rfl) (hs':starEach [a,b] X.env=(false,eval a X.env) :: starEach [b] X.env:=by rfl) (hs3:starEach [b] X.env=(false,eval b X.env) :: starEach [] X.env:=by rfl):QI K X tg (.Call (.Name "range" p) [a,b] [] pos) (wiR2 wa wb) :=
 PI.of (pi_range2 hg hm (pa_cons ha (pa_cons hb pa_nil hs3) hs') hs hs2) fun σ H R zz85=>by
   obtain ⟨S,σt,Rt,s,c,q,hq⟩:=zz85
   refine ⟨S,σt,_,s,c,q,fun x H1 tx S1 f1 s1 r1 q1=>?_⟩
   refine ⟨S1,σt,_,s1,c.fr f1,q1,fun y H2 ty S2 f2 s2 r2 q2=>?_⟩
   cases r1 <;> first | exact q2.elim | skip
   cases r2 <;> first | exact q2.elim | skip
   exact ⟨_,_,rfl,q2.1,hq _ H2 _ S2 (f1.trans f2) s2 iter_range q2.2⟩
noncomputable def signsT (z:Str):List T:=z.cps.toList.map fun c=>T.str ⟨#[c]⟩
noncomputable def wiS (wa:WE):WI:=fun σ S R=>wa σ S fun x S1=>match x with
 | .str z=>R ⟨signsT z,fun _=>True⟩ S1
 | _=>False
theorem qi_str {l:Expr} {wa:WE} (hl:QE K X l wa):QI K X tg l (wiS wa):=PI.of (pi_str hl) fun σ H R zz86=>by
 obtain ⟨S,σt,Rt,s,c,q,hq⟩:=zz86
 refine ⟨S,σt,_,s,c,q,fun x H1 tx S1 f1 s1 r1 q1=>?_⟩
 cases r1 <;> first | exact q1.elim | skip
 refine ⟨_,rfl,hq _ H1 _ S1 f1 s1 ⟨fun H S i f s g hl=>by simpa [signsT,Its] using hl,fun H S i y H' f s g hl hy=>?_,fun H S f s g=>by simp [signsT,Its]⟩ q1⟩
 obtain ⟨rfl,c,ec,rfl⟩:=hy
 exact ⟨.str ⟨#[c]⟩,by simp [signsT,ec],.refl,s,.str⟩
noncomputable def QTs (K:Fg) (X:Cx) (ifs:List Expr) (w:WT):Prop:=PTs X ifs (lT K w)
noncomputable def wTrue:WT:=fun _ S Q=>Q true S
theorem qts_nil:QTs K X [] wTrue:=fun pins s σ H Q I zz87=>by obtain ⟨S,σt,Qt,sr,c,q,hq⟩:=zz87; exact pts_nil pins s σ H Q I (hq true H S .refl sr q)
theorem qts_one {c:Expr} {w:WT} (h:QT K X c w):QTs K X [c] w:=pts_one h
noncomputable def compStT (n:Nat) (caps:List Nat) (σ:StT):StT:=List.replicate n none ++ caps.map fun i=>(σ[i]?).join
noncomputable def compT (grd:Sto->Prop) (g:WG) (tt:WT) (te:WE) (Q:List T->Sto->Prop):List T->List T->StT->Sto->Prop
 | [],acc,_,S=>grd S /\ Q acc S
 | x :: xs,acc,σ,S=>grd S /\ g x σ S fun σ2 S2=>tt σ2 S2 fun b S3=>if b=true then te σ2 S3 fun y S4=>acc.length < sizeLine /\ compT grd g tt te Q xs (acc ++ [y]) σ2 S4 else compT grd g tt te Q xs acc σ2 S3
noncomputable def wComp (tr:Bool) (wi:WI) (n:Nat) (caps:List Nat) (g:WG) (tt:WT) (te:WE):WE:=fun σ S Q=>wi σ S fun src S1=>compT src.grd g tt te (fun ts S2=>newL tr ts S2 Q) src.items [] (compStT n caps σ) S1
theorem cov_comp {H S σ σt n caps} (c:Cov K H S σ σt):Cov K H S (compSt n caps σ) (compStT n caps σt):=by
 refine ⟨by simp [compSt,compStT],fun i t e=>?_⟩
 unfold compStT at e
 unfold compSt
 by_cases hi:i < n
 . rw [List.getElem?_append_left (by simpa using hi),List.getElem?_replicate] at e
   rw [if_pos hi] at e; cases e
 . rw [List.getElem?_append_right (by simpa using hi)] at e ⊢
   simp only [List.length_replicate,List.getElem?_map] at e ⊢
   cases q:caps[i - n]? with
   | none=>rw [q] at e; cases e
   | some j =>
     rw [q] at e
     simp only [Option.map_some,Option.some.injEq] at e ⊢
     cases z:σt[j]? with
     | none=>rw [z] at e; cases e
     | some o =>
       rw [z] at e
       simp only [Option.join_some] at e
       subst e
       obtain ⟨v,hv,rv⟩:=c.2 j t z
       exact ⟨v,by rw [hv]; rfl,rv⟩
mutual
theorem Rp.chg {H S D φ o} (e:H D=some (.ext φ)):∀ {t v},Rp K H S t v->Rp K (upd H D o) S t v
 | _,_,.non=>.non
 | _,_,.bl=>.bl
 | _,_,.int=>.int
 | _,_,.str=>.str
 | _,_,.ty=>.ty
 | _,_,.ref=>.ref
 | _,_,.tup n h r=>.tup n (by rw [upd_ne (ne_of h e (by intro z; cases z))]; exact h) (Rps.chg e r)
 | _,_,.lst n h r=>.lst n (by rw [upd_ne (ne_of h e (by intro z; cases z))]; exact h) (Rps.chg e r)
 | _,_,.scr h=>.scr (by
     rcases h with ⟨n,o',h⟩ | h
     . exact .inl ⟨n,o',by rw [upd_ne (ne_of h e (by intro z; cases z))]; exact h⟩
     . exact .inr h)
theorem Rps.chg {H S D φ o} (e:H D=some (.ext φ)):∀ {ts vs},Rps K H S ts vs->Rps K (upd H D o) S ts vs
 | _,_,.nil=>.nil
 | _,_,.cons a b=>.cons (Rp.chg e a) (Rps.chg e b)
end
theorem SRp.chg {H S D φ o} (e:H D=some (.ext φ)) (n:S D=none) (s:SRp K H S):SRp K (upd H D o) S:=fun a o' h=>by
 have ha:a ≠ D:=fun z=>by rw [z,n] at h; cases h
 cases s a o' h with
 | lst h' r=>exact .lst (by rw [upd_ne ha]; exact h') (Rps.chg e r)
 | dK h' r=>exact .dK (by rw [upd_ne ha]; exact h') (Paired.mapP r fun _ _ z=>⟨z.1,Rp.chg e z.2⟩)
 | dT h' r=>exact .dT (by rw [upd_ne ha]; exact h') (Paired.mapP r fun _ _ z=>⟨z.1,Rp.chg e z.2⟩)
 | fK h' r=>exact .fK (by rw [upd_ne ha]; exact h') (Paired.mapP r fun _ _ z=>⟨z.1,Rp.chg e z.2⟩)
 | ins h' r=>exact .ins (by rw [upd_ne ha]; exact h') (Paired.mapP r fun _ _ z=>⟨z.1,Rp.chg e z.2⟩)
 | exc0 h'=>exact .exc0 (by rw [upd_ne ha]; exact h')
 | exc ne h' nd hd r=>exact .exc ne (by rw [upd_ne ha]; exact h') nd (by rw [upd_ne (ne_of hd e (by intro z; cases z))]; exact hd) (Paired.mapP r fun _ _ z=>⟨z.1,Rp.chg e z.2⟩)
 | exg h' nd hd=>exact .exg (by rw [upd_ne ha]; exact h') nd (by rw [upd_ne (ne_of hd e (by intro z; cases z))]; exact hd)
theorem Cov.chg {H S D φ o σ σt} (e:H D=some (.ext φ)) (c:Cov K H S σ σt):Cov K (upd H D o) S σ σt:=⟨c.1,fun i t h=>by
 obtain ⟨v,h1,r⟩:=c.2 i t h
 exact ⟨v,h1,Rp.chg e r⟩⟩
theorem Fr.at {H S H1 S1 D o} (f:Fr H1 S1 H S) (hD:H1 D=none):Fr H1 S1 (upd H D o) S:=fun a u h n=>by
 rw [upd_ne (ne_of_none h hD)]; exact f a u h n
mutual
theorem Rp.trk {H S D φ o p} (e:H D=some (.ext φ)):∀ {t v},Rp K H S t v->Rp K (upd H D o) (put S D p) t v
 | _,_,.non=>.non
 | _,_,.bl=>.bl
 | _,_,.int=>.int
 | _,_,.str=>.str
 | _,_,.ty=>.ty
 | _,_,.ref=>.ref
 | _,_,.tup n h r=>.tup (by rw [put_ne (ne_of h e (by intro z; cases z))]; exact n) (by rw [upd_ne (ne_of h e (by intro z; cases z))]; exact h) (Rps.trk e r)
 | _,_,.lst n h r=>.lst (by rw [put_ne (ne_of h e (by intro z; cases z))]; exact n) (by rw [upd_ne (ne_of h e (by intro z; cases z))]; exact h) (Rps.trk e r)
 | _,_,.scr h=>.scr (by
     rcases h with ⟨n,o',h⟩ | h
     . exact .inl ⟨by rw [put_ne (ne_of h e (by intro z; cases z))]; exact n,o',by rw [upd_ne (ne_of h e (by intro z; cases z))]; exact h⟩
     . exact .inr h)
theorem Rps.trk {H S D φ o p} (e:H D=some (.ext φ)):∀ {ts vs},Rps K H S ts vs->Rps K (upd H D o) (put S D p) ts vs
 | _,_,.nil=>.nil
 | _,_,.cons a b=>.cons (Rp.trk e a) (Rps.trk e b)
end
theorem SRp.trk {H S D φ zs acc} (e:H D=some (.ext φ)) (s:SRp K H S) (r:Rps K H S acc zs):SRp K (upd H D (.lst zs)) (put S D (.lst acc)):=fun a o' h=>by
 by_cases ha:a=D
 . subst ha; rw [put_same] at h; cases h; exact .lst upd_same (Rps.trk e r)
 . rw [put_ne ha] at h
   cases s a o' h with
   | lst h' r=>exact .lst (by rw [upd_ne ha]; exact h') (Rps.trk e r)
   | dK h' r=>exact .dK (by rw [upd_ne ha]; exact h') (Paired.mapP r fun _ _ z=>⟨z.1,Rp.trk e z.2⟩)
   | dT h' r=>exact .dT (by rw [upd_ne ha]; exact h') (Paired.mapP r fun _ _ z=>⟨z.1,Rp.trk e z.2⟩)
   | fK h' r=>exact .fK (by rw [upd_ne ha]; exact h') (Paired.mapP r fun _ _ z=>⟨z.1,Rp.trk e z.2⟩)
   | ins h' r=>exact .ins (by rw [upd_ne ha]; exact h') (Paired.mapP r fun _ _ z=>⟨z.1,Rp.trk e z.2⟩)
   | exc0 h'=>exact .exc0 (by rw [upd_ne ha]; exact h')
   | exc ne h' nd hd r=>exact .exc ne (by rw [upd_ne ha]; exact h') (by rw [put_ne (ne_of hd e (by intro z; cases z))]; exact nd) (by rw [upd_ne (ne_of hd e (by intro z; cases z))]; exact hd) (Paired.mapP r fun _ _ z=>⟨z.1,Rp.trk e z.2⟩)
   | exg h' nd hd=>exact .exg (by rw [upd_ne ha]; exact h') (by rw [put_ne (ne_of hd e (by intro z; cases z))]; exact nd) (by rw [upd_ne (ne_of hd e (by intro z; cases z))]; exact hd)
theorem lComp_of {tr:Bool} {wi:WI} {n:Nat} {caps:List Nat} {g:WG} {tt:WT} {te:WE} {σ H Q} (h:lE K (wComp tr wi n caps g tt te) σ H Q):tComp2 (lI K wi) n caps (lG K g) (lT K tt) (lE K te) σ H Q:=by
 obtain ⟨S,σt,Qt,s,c,q,hq⟩:=h
 refine ⟨S,σt,_,s,c,q,fun J H1 src S1 f1 s1 it q1=>?_⟩
 intro D hD
 refine ⟨fun i m zs σc H=>m=src.items.length - i /\ i <= src.items.length /\ H D=some (accH D zs) /\ ∃ S σt acc,S D=none /\ Fr H1 S1 H S /\ Rps K H S acc zs /\ SRp K H S /\ Cov K H S σc σt /\ compT src.grd g tt te (fun ts S2=>newL tr ts S2 Qt) (src.items.drop i) acc σt S,
   ⟨_,rfl,Nat.zero_le _,upd_same,S1,compStT n caps σt,[],s1.fresh hD,Fr.new hD,.nil,s1.new hD,cov_comp ((c.fr f1).fr (Fr.new hD)),by simpa using q1⟩,?_⟩
 rintro i m zs σc H ⟨rfl,hi,e2,S2,σt2,acc,n2,f2,r2,s2,c2,q2⟩
 refine ⟨e2,?_⟩
 by_cases hl:i < src.items.length
 . have e1:src.items[i]?=some src.items[i]:=by simp [hl]
   rw [drop_at e1] at q2
   obtain ⟨hg,q2⟩:=q2
   refine .inr ⟨it.go H S2 i f2 s2 hg hl,fun zs' σ' H'=>H' D=some (accH D zs') /\ ∃ S σt acc,S D=none /\ Fr H1 S1 H' S /\ Rps K H' S acc zs' /\ SRp K H' S /\ Cov K H' S σ' σt /\ compT src.grd g tt te (fun ts S2=>newL tr ts S2 Qt) (src.items.drop (i + 1)) acc σt S,
     fun zs' σ' H' n=>⟨src.items.length - (i + 1),by omega,rfl,hl,n⟩,fun x H' y=>?_⟩
   obtain ⟨t,et,f3,s3,r3⟩:=it.yld H S2 i x H' f2 s2 hg hl y
   rw [e1] at et; cases et
   have e3:=f3 D _ e2 n2
   refine ⟨S2,_,σt2,_,s3,r3,c2.fr f3,q2,fun σ4 H4 σt4 S4 f4 s4 c4 q4=>?_⟩
   have e4:=f4 D _ e3.1 e3.2
   refine ⟨S4,σt4,_,s4,c4,q4,fun b H5 S5 f5 s5 q5=>?_⟩
   have e5:=f5 D _ e4.1 e4.2
   have fB:=((f3.trans f4).trans f5)
   cases b with
   | false=>exact ⟨e5.1,S5,σt4,acc,e5.2,f2.trans fB,r2.fr fB,s5,c4.fr f5,q5⟩
   | true =>
     refine ⟨S5,σt4,_,s5,c4.fr f5,q5,fun y H6 ty S6 f6 s6 r6 q6=>?_⟩
     have e6:=f6 D _ e5.1 e5.2
     have fC:=fB.trans f6
     exact ⟨e6.1,by rw [r2.length]; exact q6.1,upd_same,S6,σt4,acc ++ [ty],e6.2,Fr.at (f2.trans fC) hD,Rps.chg e6.1 ((r2.fr fC).append (.cons r6 .nil)),s6.chg e6.1 e6.2,((c4.fr f5).fr f6).chg e6.1,q6.2⟩
 . have e:i=src.items.length:=by omega
   subst e
   rw [List.drop_eq_nil_of_le (Nat.le_refl _)] at q2
   refine .inl ⟨it.stop H S2 f2 s2 q2.1,?_⟩
   have fE:Fr H1 S1 (upd H D (.lst zs)) S2:=Fr.at f2 hD
   cases tr with
   | false=>exact hq _ _ (.lst acc) S2 (f1.trans fE) (s2.chg e2 n2) (.lst n2 upd_same (Rps.chg e2 r2)) q2.2
   | true =>
     have fr1:Fr H1 S1 (upd H D (.lst zs)) (put S2 D (.lst acc)):=fun a o h nn=>by
       have ha:a ≠ D:=ne_of_none h hD
       rw [put_ne ha]; exact fE a o h nn
     exact hq _ _ (.ref D) _ (f1.trans fr1) (SRp.trk e2 s2 r2) .ref (q2.2 D n2)
theorem q_comp (tr:Bool) {elt iter target:Expr} {ifs:List Expr} {scope:Scope} {pos:Pos} {wi:WI} {g:WG} {tt:WT} {te:WE} (Nc:List Str) (n:Nat) (caps:List Nat) (hcalm:X.calm=true) (hi:QI K X target iter wi) (hg:∀ C s₀ H₀ ex,QG K (X.comp scope Nc C s₀ H₀ ex) target g)
   (ht:∀ C s₀ H₀ ex,QTs K (X.comp scope Nc C s₀ H₀ ex) ifs tt) (he:∀ C s₀ H₀ ex,QE K (X.comp scope Nc C s₀ H₀ ex) elt te) (hsc:compOk X.env.scope scope=true:=by rfl) (hcp:capOk X.N Nc scope n caps=true:=by rfl) (hs:∀ x,foldedSetIterable iter X.env x=pure x:=by intro _; rfl) :
   QE K X (.ListComp elt [⟨target,iter,ifs,0⟩] scope pos) (wComp tr wi n caps g tt te):=PE.of (pe_comp2 Nc n caps hcalm hi hg ht he hsc hcp hs) fun _ _ _ h=>lComp_of h
theorem q_setcomp (tr:Bool) {elt iter target:Expr} {ifs:List Expr} {scope:Scope} {pos:Pos} {wi:WI} {g:WG} {tt:WT} {te:WE} {i:Nat} {x:Str} {px spos:Pos} (Nc:List Str) (n:Nat) (caps:List Nat) (hcalm:X.calm=true) (hN:X.N.Nodup) (hix:X.N[i]?=some x) (hx:Loc X.env.scope x)
   (hi:QI K X target iter wi) (hg:∀ C s₀ H₀ ex,QG K (X.comp scope Nc C s₀ H₀ ex) target g)
   (ht:∀ C s₀ H₀ ex,QTs K (X.comp scope Nc C s₀ H₀ ex) ifs tt) (he:∀ C s₀ H₀ ex,QE K (X.comp scope Nc C s₀ H₀ ex) elt te)
   (hsw:swapsWith (.ListComp elt [⟨target,iter,ifs,0⟩] scope pos) (some (.Name x px)) spos.line X.env=pure true:=by rfl) (hsc:compOk X.env.scope scope=true:=by rfl) (hcp:capOk X.N Nc scope n caps=true:=by rfl) (hs:∀ x,foldedSetIterable iter X.env x=pure x:=by intro _; rfl)
   (hf:X.fn x=true \/ X.env.scope.names.lookup x=some .local:=by first | exact .inl rfl | exact .inr rfl | assumption) :
   QS K X (.Assign [.Name x px] (.ListComp elt [⟨target,iter,ifs,0⟩] scope pos) spos) (wAsg (wComp tr wi n caps g tt te) (wgN i)):=PS.of (ps_comp2 Nc n caps hcalm hN hix hx hi hg ht he hsw hsc hcp hs hf) fun D σ H h=>by
 obtain ⟨S,σt,Dt,s,c,q,he⟩:=h
 exact lComp_of ⟨S,σt,_,s,c,q,fun v H1 t S1 f1 s1 r1 q1=>he.nx _ H1 _ S1 f1 s1 ((c.fr f1).set r1 i) q1⟩
end
end T2
namespace L2
open PySem PySem.Spec PyProof.Rows
section
variable {X:Cx}
noncomputable def rStarts:V->List V->Hp->VK->Prop:=fun x vs H Q=>∃ a b,x=.str a /\ vs=[.str b] /\ Q (.bl (Txt.startswith a b)) H
theorem mt_startswith:MtR X "str.startswith" rStarts:=by
 intro pins s σ H x vs v us Q I rx rv h
 obtain ⟨a,b,rfl,rfl,q⟩:=h
 obtain ⟨t,rfl⟩:=rx
 obtain ⟨u,rfl,t2,rfl⟩:=vals1 rv
 exact SC.startswith ⟨.bl _,H,I,rfl,q⟩
noncomputable def rInsert:V->List V->Hp->VK->Prop:=fun x vs H Q=>∃ l xs i y,x=.ref l /\ vs=[.int i,y] /\ H l=some (.lst xs) /\ xs.length < sizeLine /\ 0 <= i /\ i < 2 ^ 62 /\ Q .non (upd H l (.lst (xs.take i.toNat ++ y :: xs.drop i.toNat)))
theorem insert_arr (its:List Value) (u:Value) (k:Nat) (hk:k <= its.length):(its.toArray.extract 0 k).push u ++ its.toArray.extract k=(its.take k ++ u :: its.drop k).toArray:=by
 apply Array.ext'
 simp [List.take_of_length_le]
theorem mt_insert:MtM X "list.insert" rInsert:=by
 intro pins s σ H x vs v us Q I rx rv h
 obtain ⟨l,xs,i,y,rfl,rfl,hH,hz,h0,h1,q⟩:=h
 cases rx
 obtain ⟨u1,u2,rfl,⟨t,rfl⟩,ru⟩:=vals2 rv
 obtain ⟨z,its,n,r,hl,e⟩:=I.lstM hH
 have hf:Builtin.List.listFitsIndex i=true:=by
   unfold Builtin.List.listFitsIndex
   simp only [Bool.and_eq_true,decide_eq_true_eq]
   omega
 refine call_meets F.slot_list_insert ⟨_,e,rfl⟩ F.entry_list_insert (F.args_list_insert_3 _ _ _) (PySem.AutoSeq1.list_insert_list_int_val_1 l its.toArray n i t u2 (by simp [hf]) (by rw [List.size_toArray]; omega)) ⟨e,?_⟩
 have hm:(its.take i.toNat ++ u2 :: its.drop i.toNat)=(its.take (min i.toNat its.length) ++ u2 :: its.drop (min i.toNat its.length)):=by
   by_cases hi:i.toNat <= its.length
   . rw [Nat.min_eq_left hi]
   . rw [Nat.min_eq_right (by omega),List.take_of_length_le (by omega),List.take_of_length_le (Nat.le_refl _),List.drop_eq_nil_of_le (by omega),List.drop_eq_nil_of_le (Nat.le_refl _)]
 refine ⟨.non,_,I.lset (its':=its.take i.toNat ++ u2 :: its.drop i.toNat) hH e ?_ ((r.take _).append (.cons ru (r.drop _))) ?_,rfl,q⟩
 . show (its.toArray.extract 0 (if i < 0 then _ else min i.toNat its.toArray.size)).push u2 ++ its.toArray.extract (if i < 0 then _ else min i.toNat its.toArray.size)=_
   rw [if_neg (by omega),hm,List.size_toArray]
   exact insert_arr its u2 _ (Nat.min_le_right _ _)
 . simp only [List.length_append,List.length_take,List.length_cons,List.length_drop]
   omega
end
end L2
namespace T2
open PySem PySem.Spec PyProof.Rows L2
section
variable {K:Fg} {X:Cx}
noncomputable def flatT:T->Bool
 | .non=>true
 | .bl _=>true
 | .int _=>true
 | .str _=>true
 | _=>false
noncomputable def eqF:T->T->Bool
 | .non,.non=>true
 | .bl a,.bl b=>a == b
 | .bl a,.int b=>(if a then 1 else 0) == b
 | .int a,.bl b=>a == (if b then 1 else 0)
 | .int a,.int b=>a == b
 | .str a,.str b=>a == b
 | _,_=>false
theorem eqF_s {a b:Str}:eqF (.str a) (.str b)=(a == b):=rfl
theorem flat_v {H S t v} (r:Rp K H S t v) (f:flatT t=true):flatV v=true:=by cases r <;> first | rfl | cases f
theorem eqF_v {H S t v t' v'} (r:Rp K H S t v) (r':Rp K H S t' v') (f:flatT t=true) (f':flatT t'=true):eqV v v'=eqF t t':=by
 cases r <;> first | (cases f; done) | (cases r' <;> first | (cases f'; done) | rfl)
theorem in_v {H S t v} (r:Rp K H S t v) (f:flatT t=true):∀ {ts vs},Rps K H S ts vs->ts.all flatT=true->vs.all flatV=true /\ inV v vs=ts.any fun y=>eqF y t
 | _,_,.nil,_=>⟨rfl,rfl⟩
 | _,_,.cons a b,h=>by
   rw [List.all_cons,Bool.and_eq_true] at h
   obtain ⟨h1,h2⟩:=in_v r f b h.2
   refine ⟨by rw [List.all_cons,flat_v a h.1,h1]; rfl,?_⟩
   unfold inV at h2 ⊢
   rw [List.any_cons,List.any_cons,h2,eqF_v a r h.1 f]
noncomputable def keyOf:T->Option Key
 | .int i=>some (.inl i)
 | .str x=>some (.inr x)
 | _=>none
noncomputable def gIn (neg:Bool):G2:=fun x y S Q=>(∃ i j,x=.str i /\ y=.str j /\ Q (.bl (neg ^^ !(Builtin.Str.occurrences j i 0 j.length 1).isEmpty)) S) \/
 (∃ ts,y=.tup ts /\ flatT x=true /\ ts.all flatT=true /\ Q (.bl (neg ^^ ts.any fun y=>eqF y x)) S) \/
 ∃ ts,viewL S y=some ts /\ flatT x=true /\ ts.all flatT=true /\ Q (.bl (neg ^^ ts.any fun y=>eqF y x)) S
theorem o_notin (hK:X.K=K):OpR X (compareOp .NotIn) (l2 K (gIn true)):=by
 subst hK
 rintro pins s σ H x y v u Q I rx ry ⟨S,tx,ty,Qt,sr,hx,hy,hg,b⟩
 rcases hg with ⟨i,j,rfl,rfl,q⟩ | ⟨ts,rfl,fx,ft,q⟩ | ⟨ts,e,fx,ft,q⟩
 . obtain rfl:=hx.istr
   obtain rfl:=hy.istr
   exact op_notin_str pins s σ H _ _ v u Q I rx ry ⟨i,j,rfl,rfl,b _ H _ S .refl sr .bl (by simpa using q)⟩
 . obtain ⟨p,vs,rfl,hp,rs⟩:=hy.itup
   obtain ⟨h1,h2⟩:=in_v hx fx rs ft
   refine op_notIn_seq pins s σ H _ _ v u Q I rx ry ⟨_,_,rfl,.inr (SqT.of hp),flat_v hx fx,h1,?_⟩
   rw [h2]
   exact b _ H _ S .refl sr .bl (by simpa using q)
 . obtain ⟨p,vs,rfl,hq,rs⟩:=viewL_sq sr hy e
   obtain ⟨h1,h2⟩:=in_v hx fx rs ft
   refine op_notIn_seq pins s σ H _ _ v u Q I rx ry ⟨p,vs,rfl,.inl hq,flat_v hx fx,h1,?_⟩
   rw [h2]
   exact b _ H _ S .refl sr .bl (by simpa using q)
noncomputable abbrev GC:=List T->Sto->(T->Sto->Prop)->Prop
noncomputable def lC (K:Fg) (g:GC):List V->Hp->VK->Prop:=fun xs H Q=>∃ S ts Qt,SRp K H S /\ Rps K H S ts xs /\ g ts S Qt /\ Bh K H S Qt Q
noncomputable def wCB (g:GC) (wr:WA):WE:=fun σ S Q=>wr σ S fun ts S1=>g ts S1 Q
theorem lCB_of {g:GC} {wr:WA} {σ H Q} (h:lE K (wCB g wr) σ H Q):tCB (lC K g) (lA K wr) σ H Q:=by
 obtain ⟨S,σt,Qt,s,c,q,hq⟩:=h
 refine ⟨S,σt,_,s,c,q,fun vs H1 ts S1 f1 s1 r1 q1=>?_⟩
 exact ⟨S1,ts,Qt,s1,r1,q1,fun v H' t S' f=>hq v H' t S' (f1.trans f)⟩
theorem q_cb {g:GC} {wr:WA} {e:Expr} (hp:PE X e (tCB (lC K g) (lA K wr))):QE K X e (wCB g wr):=PE.of hp fun _ _ _ h=>lCB_of h
noncomputable def lenT (S:Sto):T->Option Int
 | .str z=>if z.length <= sizeLine then some z.length else none
 | .tup ts=>some ts.length
 | t=>(viewL S t).map fun ts=>ts.length
noncomputable def gLen:GC:=fun ts S Q=>match ts with
 | [x]=>∃ n,lenT S x=some n /\ Q (.int n) S
 | _=>False
theorem c_len (hK:X.K=K):CallR X (.builtin "len") (lC K gLen):=by
 subst hK
 rintro pins s σ H xs us Q I r ⟨S,ts,Qt,sr,rs,hg,b⟩
 cases rs with
 | nil=>exact hg.elim
 | cons a l =>
   cases l with
   | cons _ _=>exact hg.elim
   | nil =>
     obtain ⟨n,e,q⟩:=hg
     rename_i t v
     have lists:(viewL S t).map (fun ts=>(ts.length:Int))=some n->wpAny (model X.prog X.w) X.A (call (.builtin "len") us) (EP X pins σ Q) X.xe s:=by
       intro e3
       rw [Option.map_eq_some_iff] at e3
       obtain ⟨ts,e3,rfl⟩:=e3
       obtain ⟨p,vs,rfl,hq,rs⟩:=viewL_sq sr a e3
       exact call_len_seq pins s σ H _ us Q I r ⟨p,vs,rfl,.inl hq,by rw [rs.length]; exact b _ H _ S .refl sr .int q⟩
     cases t with
     | str z =>
       cases a
       delta lenT at e
       dsimp only at e
       split at e
       . next hz=>cases e; exact call_len_str pins s σ H _ us Q I r ⟨z,rfl,hz,b _ H _ S .refl sr .int q⟩
       . cases e
     | tup ts =>
       cases a with
       | tup n' hp rs=>cases e; exact call_len_seq pins s σ H _ us Q I r ⟨_,_,rfl,.inr (SqT.of hp),by rw [rs.length]; exact b _ H _ S .refl sr .int q⟩
     | _=>exact lists e
noncomputable def tyT (S:Sto):T->Option Value
 | .non=>some (.type "NoneType")
 | .bl _=>some (.type "bool")
 | .int _=>some (.type "int")
 | .str _=>some (.type "str")
 | .tup _=>some (.type "tuple")
 | .lst _=>some (.type "list")
 | .ref a=>match S a with
   | some (.lst _)=>some (.type "list")
   | some (.dK _)=>some (.type "dict")
   | some (.dT _)=>some (.type "dict")
   | _=>none
 | _=>none
noncomputable def gIsi (K:Fg):GC:=fun ts S Q=>match ts with
 | [x,.ty n]=>∃ t b,tyT S x=some t /\ PySem.W.kitOne K t (.type n)=some b /\ Q (.bl b) S
 | _=>False
theorem tyT_ok {H S t v ty} (s:SRp K H S) (r:Rp K H S t v) (e:tyT S t=some ty):TyOf K H v ty:=by
 cases r with
 | non=>cases e; exact .non
 | bl=>cases e; exact .bl _
 | int=>cases e; exact .int _
 | str=>cases e; exact .str _
 | tup n h _=>cases e; exact .tup h
 | lst n h _=>cases e; exact .lst h
 | ty=>cases e
 | scr _=>cases e
 | ref =>
   rename_i a
   delta tyT at e
   dsimp only at e
   cases q:S a with
   | none=>rw [q] at e; cases e
   | some o =>
     rw [q] at e
     cases o with
     | lst us=>cases e; cases s a _ q with
       | lst h rs=>exact .lst h
     | dK us=>cases e; cases s a _ q with
       | dK h rs=>exact .dK h
     | dT us=>cases e; cases s a _ q with
       | dT h rs=>exact .dT h
     | fK _ _ _ _=>cases e
     | ins _ _=>cases e
     | exc _ _=>cases e
     | exg _=>cases e
theorem c_isi (hK:X.K=K):CallR X (.builtin "isinstance") (lC K (gIsi K)):=by
 subst hK
 rintro pins s σ H xs us Q I r ⟨S,ts,Qt,sr,rs,hg,b⟩
 cases rs with
 | nil=>exact hg.elim
 | cons a l =>
   cases l with
   | nil=>exact hg.elim
   | cons a2 l2 =>
     cases l2 with
     | cons _ _=>cases a2 <;> exact hg.elim
     | nil =>
       cases a2 <;> first | exact hg.elim | skip
       obtain ⟨t,k,e,hk,q⟩:=hg
       exact call_isinst pins s σ H _ us Q I r ⟨_,_,t,k,rfl,⟨_,rfl,fun z h=>h,hk⟩,tyT_ok sr a e,b _ H _ S .refl sr .bl q⟩
noncomputable def gList (tr:Bool):GC:=fun ts S Q=>match ts with
 | [.tup us]=>newL tr us S Q
 | [x]=>∃ us,viewL S x=some us /\ newL tr us S Q
 | _=>False
theorem c_list (tr:Bool) (hK:X.K=K):CallR X (.type "list") (lC K (gList tr)):=by
 subst hK
 rintro pins s σ H xs us Q I r ⟨S,ts,Qt,sr,rs,hg,b⟩
 cases rs with
 | nil=>exact hg.elim
 | cons a l =>
   cases l with
   | cons _ _=>cases a <;> exact hg.elim
   | nil =>
     rename_i t v
     have lists:(∃ us,viewL S t=some us /\ newL tr us S Qt)->wpAny (model X.prog X.w) X.A (call (.type "list") us) (EP X pins σ Q) X.xe s:=by
       rintro ⟨ws,e,n⟩
       obtain ⟨p,vs,rfl,hq,rs⟩:=viewL_sq sr a e
       exact call_list_of pins s σ H _ us Q I r ⟨p,vs,rfl,.inl hq,newL_v sr rs n b⟩
     cases t with
     | tup ws =>
       cases a with
       | tup n' hp rs=>exact call_list_of pins s σ H _ us Q I r ⟨_,_,rfl,.inr (SqT.of hp),newL_v sr rs hg b⟩
     | _=>exact lists hg
noncomputable def blsT:List T->Option (List Bool)
 | []=>some []
 | .bl i :: ts=>(blsT ts).map (i :: ·)
 | _=>none
theorem blsT_c {i:Bool} {ts:List T}:blsT (.bl i :: ts)=(blsT ts).map (i :: ·):=rfl
theorem blsT_v {H S}:∀ {ts vs ns},Rps K H S ts vs->blsT ts=some ns->vs=ns.map V.bl
 | _,_,_,.nil,e=>by cases e; rfl
 | _,_,_,.cons a b,e=>by
   cases a <;> first | (cases e; done) | skip
   simp only [blsT_c,Option.map_eq_some_iff] at e
   obtain ⟨ns,e,rfl⟩:=e
   rw [List.map_cons,<- blsT_v b e]
noncomputable def strsT:List T->Option (List Str)
 | []=>some []
 | .str i :: ts=>(strsT ts).map (i :: ·)
 | _=>none
theorem strsT_c {i:Str} {ts:List T}:strsT (.str i :: ts)=(strsT ts).map (i :: ·):=rfl
theorem strsT_v {H S}:∀ {ts vs ns},Rps K H S ts vs->strsT ts=some ns->vs=ns.map V.str
 | _,_,_,.nil,e=>by cases e; rfl
 | _,_,_,.cons a b,e=>by
   cases a <;> first | (cases e; done) | skip
   simp only [strsT_c,Option.map_eq_some_iff] at e
   obtain ⟨ns,e,rfl⟩:=e
   rw [List.map_cons,<- strsT_v b e]
noncomputable def gAll:GC:=fun ts S Q=>match ts with
 | [x]=>∃ us bs,viewL S x=some us /\ blsT us=some bs /\ Q (.bl (bs.all id)) S
 | _=>False
theorem c_all (hK:X.K=K) (hc:X.calm=true):CallR X (.builtin "all") (lC K gAll):=by
 subst hK
 rintro pins s σ H xs us Q I r ⟨S,ts,Qt,sr,rs,hg,b⟩
 cases rs with
 | nil=>exact hg.elim
 | cons a l =>
   cases l with
   | cons _ _=>exact hg.elim
   | nil =>
     obtain ⟨ws,ns,e,en,q⟩:=hg
     obtain ⟨p,vs,rfl,hq,rs⟩:=viewL_sq sr a e
     exact call_allB hc pins s σ H _ us Q I r ⟨p,ns,rfl,by rw [<- blsT_v rs en]; exact hq,b _ H _ S .refl sr .bl q⟩
noncomputable def gMin:GC:=fun ts S Q=>∃ i j,ts=[.int i,.int j] /\ Q (.int (if j < i then j else i)) S
noncomputable def gInt:GC:=fun ts S Q=>match ts with
 | [.int i]=>Q (.int i) S
 | [.bl k]=>Q (.int (if k then 1 else 0)) S
 | _=>False
noncomputable abbrev GM:=T->List T->Sto->(T->Sto->Prop)->Prop
noncomputable def lM (K:Fg) (g:GM):V->List V->Hp->VK->Prop:=fun x xs H Q=>∃ S t ts Qt,SRp K H S /\ Rp K H S t x /\ Rps K H S ts xs /\ g t ts S Qt /\ Bh K H S Qt Q
noncomputable def tyM (ty:String) (S:Sto) (x:T):Prop:=match x with
 | .str _=>ty="str"
 | .lst _=>ty="list"
 | .ref a=>match S a with
   | some (.lst _)=>ty="list"
   | some (.dK _)=>ty="dict"
   | some (.dT _)=>ty="dict"
   | _=>False
 | _=>False
noncomputable def wBM (ty:String) (g:GM) (wa:WE) (wr:WA):WE:=fun σ S Q=>wa σ S fun x S1=>tyM ty S1 x /\ wr σ S1 fun ts S2=>g x ts S2 Q
theorem tyM_v {H S t v ty} (s:SRp K H S) (r:Rp K H S t v) (h:tyM ty S t):tyV K ty v H:=by
 cases r with
 | str=>exact h
 | lst n hp _=>exact .inl ⟨h,_,SqL.of hp⟩
 | ref =>
   rename_i a
   delta tyM at h
   dsimp only at h
   cases q:S a with
   | none=>rw [q] at h; exact h.elim
   | some o =>
     rw [q] at h
     cases o with
     | lst us=>cases s a _ q with
       | lst hp _=>exact .inl ⟨h,_,SqL.of hp⟩
     | dK us=>cases s a _ q with
       | dK hp _=>exact .inr (.inr (.inl ⟨h,.inl ⟨_,hp⟩⟩))
     | dT us=>cases s a _ q with
       | dT hp _=>exact .inr (.inr (.inl ⟨h,.inr ⟨_,hp⟩⟩))
     | fK _ _ _ _=>exact h.elim
     | ins _ _=>exact h.elim
     | exc _ _=>exact h.elim
     | exg _=>exact h.elim
 | _=>exact h.elim
theorem lBM_of {ty:String} {g:GM} {wa:WE} {wr:WA} {σ H Q} (h:lE K (wBM ty g wa wr) σ H Q):tBM K ty (lM K g) (lE K wa) (lA K wr) σ H Q:=by
 obtain ⟨S,σt,Qt,s,c,q,hq⟩:=h
 refine ⟨S,σt,_,s,c,q,fun x H1 tx S1 f1 s1 r1 q1=>?_⟩
 refine ⟨tyM_v s1 r1 q1.1,S1,σt,_,s1,c.fr f1,q1.2,fun vs H2 ts S2 f2 s2 r2 q2=>?_⟩
 exact ⟨S2,tx,ts,Qt,s2,r1.fr f2,r2,q2,fun v H' t S' f=>hq v H' t S' ((f1.trans f2).trans f)⟩
theorem lBM0_of {ty:String} {g:GM} {wa:WE} {σ H Q} (h:lE K (wBM ty g wa wNil) σ H Q):tBM0 K ty (lM K g) (lE K wa) σ H Q:=by
 obtain ⟨S,σt,Qt,s,c,q,hq⟩:=h
 refine ⟨S,σt,_,s,c,q,fun x H1 tx S1 f1 s1 r1 q1=>?_⟩
 exact ⟨tyM_v s1 r1 q1.1,S1,tx,[],Qt,s1,r1,.nil,q1.2,fun v H' t S' f=>hq v H' t S' (f1.trans f)⟩
theorem q_bm {ty:String} {g:GM} {wa:WE} {wr:WA} {e:Expr} (hp:PE X e (tBM K ty (lM K g) (lE K wa) (lA K wr))):QE K X e (wBM ty g wa wr):=PE.of hp fun _ _ _ h=>lBM_of h
theorem q_bm0 {ty:String} {g:GM} {wa:WE} {e:Expr} (hp:PE X e (tBM0 K ty (lM K g) (lE K wa))):QE K X e (wBM ty g wa wNil):=PE.of hp fun _ _ _ h=>lBM0_of h
noncomputable def gSplit (tr:Bool):GM:=fun x ts S Q=>match x,ts with
 | .str a,[.str c]=>c.length ≠ 0 /\ a.length <= 1000 /\ newL tr ((Txt.split a c).map T.str) S Q
 | _,_=>False
theorem m_split (tr:Bool):MtR X "str.split" (lM K (gSplit tr)):=by
 rintro pins s σ H x vs v us Q I rx rv ⟨S,t,ts,Qt,sr,hx,rs,hg,b⟩
 cases hx <;> first | exact hg.elim | skip
 cases rs with
 | nil=>exact hg.elim
 | cons a l =>
   cases l with
   | cons _ _=>cases a <;> exact hg.elim
   | nil =>
     cases a <;> first | exact hg.elim | skip
     exact mt_split pins s σ H _ _ v us Q I rx rv ⟨_,_,rfl,rfl,hg.1,hg.2.1,newL_v sr Rps.strs hg.2.2 b⟩
noncomputable def gJoin:GM:=fun x ts S Q=>match x,ts with
 | .str a,[y]=>∃ us zs,viewL S y=some us /\ strsT us=some zs /\ JoinOk a zs=true /\ Q (.str (Txt.join a zs)) S
 | _,_=>False
theorem m_join (hK:X.K=K):MtR X "str.join" (lM K gJoin):=by
 subst hK
 rintro pins s σ H x vs v us Q I rx rv ⟨S,t,ts,Qt,sr,hx,rs,hg,b⟩
 cases hx <;> first | exact hg.elim | skip
 cases rs with
 | nil=>exact hg.elim
 | cons a l =>
   cases l with
   | cons _ _=>exact hg.elim
   | nil =>
     obtain ⟨ws,zs,e,en,hj,q⟩:=hg
     obtain ⟨p,ys,rfl,hq,rs⟩:=viewL_sq sr a e
     exact mt_join pins s σ H _ _ v us Q I rx rv ⟨_,p,zs,rfl,rfl,by rw [<- strsT_v rs en]; exact hq,hj,b _ H _ S .refl sr .str q⟩
noncomputable def gStrip:GM:=fun x ts S Q=>match x,ts with
 | .str a,[.str c]=>a.length <= sizeLine /\ Q (.str (Txt.stripChars a c)) S
 | _,_=>False
noncomputable def gStarts:GM:=fun x ts S Q=>match x,ts with
 | .str a,[.str c]=>Q (.bl (Txt.startswith a c)) S
 | _,_=>False
theorem m_starts:MtR X "str.startswith" (lM K gStarts):=by
 rintro pins s σ H x vs v us Q I rx rv ⟨S,t,ts,Qt,sr,hx,rs,hg,b⟩
 cases hx <;> first | exact hg.elim | skip
 cases rs with
 | nil=>exact hg.elim
 | cons a l =>
   cases l with
   | cons _ _=>cases a <;> exact hg.elim
   | nil =>
     cases a <;> first | exact hg.elim | skip
     exact mt_startswith pins s σ H _ _ v us Q I rx rv ⟨_,_,rfl,rfl,b _ H _ S .refl sr .bl hg⟩
theorem lst_at {H S} {a:Addr} {ts:List T} (s:SRp K H S) (e:S a=some (.lst ts)):∃ vs,H a=some (.lst vs) /\ Rps K H S ts vs:=by
 cases s a _ e with
 | lst h r=>exact ⟨_,h,r⟩
theorem lst_write {H S} {a:Addr} {ts us:List T} {ws:List V} {Qt:T->Sto->Prop} {Q:VK} {t:T} {v:V} (s:SRp K H S) (e:S a=some (.lst ts)) (r:Rps K H S us ws) (b:Bh K H S Qt Q) (rt:Rp K H S t v) (q:Qt t (put S a (.lst us))):Q v (upd H a (.lst ws)):=by
 have hn:S a ≠ none:=by rw [e]; simp
 exact b _ _ t _ (Fr.write hn) (s.write hn (.lst upd_same (r.fr (Fr.write hn)))) (rt.fr (Fr.write hn)) q
noncomputable def gAppend:GM:=fun x ts S Q=>match x,ts with
 | .ref a,[y]=>∃ us,S a=some (.lst us) /\ us.length < sizeLine /\ Q .non (put S a (.lst (us ++ [y])))
 | _,_=>False
theorem m_append:MtR X "list.append" (lM K gAppend):=by
 rintro pins s σ H x vs v us Q I rx rv ⟨S,t,ts,Qt,sr,hx,rs,hg,b⟩
 cases hx <;> first | exact hg.elim | skip
 cases rs with
 | nil=>exact hg.elim
 | cons a l =>
   cases l with
   | cons _ _=>exact hg.elim
   | nil =>
     obtain ⟨ws,e,hl,q⟩:=hg
     obtain ⟨ys,hy,ry⟩:=lst_at sr e
     exact mt_append pins s σ H _ _ v us Q I rx rv ⟨_,ys,_,rfl,rfl,hy,by rw [ry.length]; exact hl,lst_write sr e (ry.append (.cons a .nil)) b .non q⟩
noncomputable def gInsert:GM:=fun x ts S Q=>match x,ts with
 | .ref a,[.int i,y]=>∃ us,S a=some (.lst us) /\ us.length < sizeLine /\ 0 <= i /\ i < 2 ^ 62 /\ Q .non (put S a (.lst (us.take i.toNat ++ y :: us.drop i.toNat)))
 | _,_=>False
theorem m_insert:MtR X "list.insert" (lM K gInsert):=by
 rintro pins s σ H x vs v us Q I rx rv ⟨S,t,ts,Qt,sr,hx,rs,hg,b⟩
 cases hx <;> first | exact hg.elim | skip
 cases rs with
 | nil=>exact hg.elim
 | cons a l =>
   cases l with
   | nil=>cases a <;> exact hg.elim
   | cons a2 l2 =>
     cases l2 with
     | cons _ _=>cases a <;> exact hg.elim
     | nil =>
       cases a <;> first | exact hg.elim | skip
       obtain ⟨ws,e,hl,h0,h1,q⟩:=hg
       obtain ⟨ys,hy,ry⟩:=lst_at sr e
       exact mt_insert pins s σ H _ _ v us Q I rx rv ⟨_,ys,_,_,rfl,rfl,hy,by rw [ry.length]; exact hl,h0,h1,lst_write sr e ((ry.take _).append (.cons a2 (ry.drop _))) b .non q⟩
noncomputable def gReverse:GM:=fun x ts S Q=>match x,ts with
 | .ref a,[]=>∃ us,S a=some (.lst us) /\ Q .non (put S a (.lst us.reverse))
 | _,_=>False
noncomputable abbrev GS:=T->T->T->Sto->(Sto->Prop)->Prop
noncomputable def lSet (K:Fg) (g:GS):TSet:=fun o i v H Q=>∃ S to ti tv Qt,SRp K H S /\ Rp K H S to o /\ Rp K H S ti i /\ Rp K H S tv v /\ g to ti tv S Qt /\ ∀ H' S',Fr H S H' S'->SRp K H' S'->Qt S'->Q H'
noncomputable def gSetL:GS:=fun o i v S Q=>match o,i with
 | .ref a,.int k=>∃ us j,S a=some (.lst us) /\ ixN us.length k=some j /\ Q (put S a (.lst (us.set j v)))
 | _,_=>False
theorem p_setL:PSet X (lSet K gSetL):=by
 rintro pins s σ H o i v ov iv u Q I ro ri rv ⟨S,to,ti,tv,Qt,sr,hO,hI,hV,hg,b⟩
 cases hO <;> first | exact hg.elim | skip
 cases hI <;> first | exact hg.elim | skip
 rename_i a k
 obtain ⟨us,j,e,hj,q⟩:=hg
 obtain ⟨ys,hy,ry⟩:=lst_at sr e
 have hn:S a ≠ none:=by rw [e]; simp
 exact set_list pins s σ H _ _ _ ov iv u Q I ro ri rv ⟨_,ys,_,j,rfl,rfl,hy,by rw [ry.length]; exact hj,b _ _ (Fr.write hn) (sr.write hn (.lst upd_same ((Rps.set hV j ry).fr (Fr.write hn)))) q⟩
noncomputable def gSetN (k:Nat):GS:=fun o i v S Q=>match o,i with
 | .ref a,.int j=>j=k /\ ∃ us,S a=some (.lst us) /\ k < us.length /\ Q (put S a (.lst (us.set k v)))
 | _,_=>False
theorem p_setN (k:Nat):PSet X (lSet K (gSetN k)):=by
 rintro pins s σ H o i v ov iv u Q I ro ri rv ⟨S,to,ti,tv,Qt,sr,hO,hI,hV,hg,b⟩
 refine p_setL pins s σ H o i v ov iv u Q I ro ri rv ⟨S,to,ti,tv,Qt,sr,hO,hI,hV,?_,b⟩
 cases hO <;> first | exact hg.elim | skip
 cases hI <;> first | exact hg.elim | skip
 obtain ⟨rfl,us,e,hk,q⟩:=hg
 refine ⟨us,k,e,?_,q⟩
 unfold ixN
 rw [if_pos (by omega),if_pos (by omega)]
 rfl
noncomputable def wgS (wo wi:WE) (g:GS):WG:=fun t σ S Q=>wo σ S fun o S1=>wi σ S1 fun i S2=>g o i t S2 fun S3=>Q σ S3
theorem qg_sub {o i:Expr} {wo wi:WE} {g:GS} {pos:Pos} (h:PG X (.Subscript o i pos) (L2.gSub (lE K wo) (lE K wi) (lSet K g))):QG K X (.Subscript o i pos) (wgS wo wi g):=PG.of h fun v σ H Q zz88=>by
 obtain ⟨S,t,σt,Qt,s,r,c,q,hq⟩:=zz88
 refine ⟨S,σt,_,s,c,q,fun x H1 tx S1 f1 s1 r1 q1=>?_⟩
 refine ⟨S1,σt,_,s1,c.fr f1,q1,fun y H2 ty S2 f2 s2 r2 q2=>?_⟩
 exact ⟨S2,tx,ty,t,_,s2,r1.fr f2,r2,(r.fr f1).fr f2,q2,fun H' S' f s' q'=>hq σ H' σt S' ((f1.trans f2).trans f) s' (c.fr ((f1.trans f2).trans f)) q'⟩
end
end T2
namespace T2
open PySem PySem.Spec PyProof.Rows L2
theorem i_mid {w u:WS} {D:EndsT} {σ:StT} {S:Sto} (M:StT->Sto->Prop) (h1:∀ X:StT->Sto->Prop,(∀ σ S,M σ S->X σ S)->w { D with nx:=X } σ S) (h2:∀ σ S,M σ S->u D σ S):wSeq w u D σ S:=h1 _ h2
theorem for_map {α:Type} {grd:Sto->Prop} {g:WG} {wb:WS} {D:EndsT} {f:α->T} {ls:List α} {σ:StT} {S:Sto} (Iv:List α->StT->Sto->Prop) (h0:Iv ls σ S)
   (step:∀ a r σ S (N:StT->Sto->Prop),Iv (a :: r) σ S->(∀ σ' S',Iv r σ' S'->N σ' S')->grd S /\ g (f a) σ S fun σ2 S2=>wb { nx:=N,rt:=D.rt,bk:=D.nx,ct:=N } σ2 S2)
   (done:∀ σ S,Iv [] σ S->grd S /\ D.nx σ S):forT grd g wb D (ls.map f) σ S:=by
 induction ls generalizing σ S with
 | nil=>exact done σ S h0
 | cons a r ih=>exact step a r σ S _ h0 fun σ' S' iv=>ih iv
theorem for_rangeT {grd:Sto->Prop} {g:WG} {wb:WS} {D:EndsT} {lo:Int} {n:Nat} {σ:StT} {S:Sto} (Iv:Nat->StT->Sto->Prop) (h0:Iv 0 σ S)
   (step:∀ k σ S (N:StT->Sto->Prop),k < n->Iv k σ S->(∀ σ' S',Iv (k + 1) σ' S'->N σ' S')->grd S /\ g (.int (lo + k)) σ S fun σ2 S2=>wb { nx:=N,rt:=D.rt,bk:=D.nx,ct:=N } σ2 S2)
   (done:∀ σ S,Iv n σ S->grd S /\ D.nx σ S):forT grd g wb D (rangeT lo n) σ S:=by
 unfold rangeT
 have main:∀ (m k:Nat) σ S,k + m=n->Iv k σ S->forT grd g wb D ((List.range' k m).map fun (i:Nat)=>T.int (lo + i)) σ S:=by
   intro m
   induction m with
   | zero=>intro k σ S e iv; rw [show k=n by omega] at iv; exact done σ S iv
   | succ m ih =>
     intro k σ S e iv
     rw [List.range'_succ,List.map_cons]
     exact step k σ S _ (by omega) iv fun σ' S' iv'=>ih (k + 1) σ' S' (by omega) iv'
 rw [List.range_eq_range']
 exact main n 0 σ S (by omega) h0
theorem comp_rule {grd:Sto->Prop} {g:WG} {tt:WT} {te:WE} {Q:List T->Sto->Prop} {items acc:List T} {σ:StT} {S:Sto} (Iv:List T->List T->StT->Sto->Prop) (h0:Iv items acc σ S)
   (step:∀ t ts acc σ S (N:List T->StT->Sto->Prop),Iv (t :: ts) acc σ S->(∀ acc' σ' S',Iv ts acc' σ' S'->N acc' σ' S') ->
     grd S /\ g t σ S fun σ2 S2=>tt σ2 S2 fun b S3=>if b=true then te σ2 S3 fun y S4=>acc.length < sizeLine /\ N (acc ++ [y]) σ2 S4 else N acc σ2 S3)
   (done:∀ acc σ S,Iv [] acc σ S->grd S /\ Q acc S):compT grd g tt te Q items acc σ S:=by
 induction items generalizing acc σ S with
 | nil=>exact done acc σ S h0
 | cons t ts ih=>exact step t ts acc σ S _ h0 fun acc' σ' S' iv=>ih iv
theorem comp_pure {α:Type} {grd:Sto->Prop} {g:WG} {tt:WT} {te:WE} {Q:List T->Sto->Prop} (f:α->T) (φ:α->Option T) (cs:StT) {ls:List α} {S:Sto} (hg:grd S) (hz:ls.length <= sizeLine)
   (step:∀ a ∈ ls,∀ (u:Option T) (acc:List T) (N:List T->StT->Sto->Prop),acc.length < sizeLine->(∀ u',N (acc ++ (φ a).toList) (u' :: cs) S) ->
     g (f a) (u :: cs) S fun σ2 S2=>tt σ2 S2 fun b S3=>if b=true then te σ2 S3 fun y S4=>acc.length < sizeLine /\ N (acc ++ [y]) σ2 S4 else N acc σ2 S3)
   (done:Q (ls.filterMap φ) S):compT grd g tt te Q (ls.map f) [] (none :: cs) S:=by
 refine comp_rule (fun items acc σ' S'=>∃ pre suf u,ls=pre ++ suf /\ items=suf.map f /\ acc=pre.filterMap φ /\ σ'=u :: cs /\ S'=S) ⟨[],ls,none,rfl,rfl,rfl,rfl,rfl⟩ ?_ ?_
 . rintro t ts acc σ' S' N ⟨pre,suf,u,e,e2,rfl,rfl,rfl⟩ hN
   cases suf with
   | nil=>cases e2
   | cons a r =>
     simp only [List.map_cons,List.cons.injEq] at e2
     obtain ⟨rfl,rfl⟩:=e2
     refine ⟨hg,step a (by rw [e]; simp) u _ N ?_ fun u'=>hN _ _ _ ⟨pre ++ [a],r,u',by rw [e]; simp,rfl,?_,rfl,rfl⟩⟩
     . have h1:=List.length_filterMap_le φ pre
       have h2:=congrArg List.length e
       simp only [List.length_append,List.length_cons] at h2
       omega
     . rw [List.filterMap_append]; cases h:φ a <;> simp [h]
 . rintro acc σ' S' ⟨pre,suf,u,e,e2,rfl,rfl,rfl⟩
   cases suf with
   | nil=>rw [List.append_nil] at e; subst e; exact ⟨hg,done⟩
   | cons a r=>cases e2
section
variable {σ:StT} {S S0:Sto} {D:EndsT} {Q:T->Sto->Prop} {B:Bool->Sto->Prop} {L:List T->Sto->Prop} {t x y z:T} {p:Addr}
theorem i_seq {w u:WS} (h:w { D with nx:=u D } σ S):wSeq w u D σ S:=h
theorem i_next (h:D.nx σ S):wNext D σ S:=h
theorem i_break (h:D.bk σ S):wBreak D σ S:=h
theorem i_cont (h:D.ct σ S):wCont D σ S:=h
theorem i_drop {w:WE} (h:w σ S fun _ S1=>D.nx σ S1):wDrop w D σ S:=h
theorem i_ret {w:WE} (h:w σ S D.rt):wRet w D σ S:=h
theorem i_retN (h:D.rt .non S):wRetN D σ S:=h
theorem i_ifS {t:WT} {w u:WS} (h:t σ S fun b S1=>if b=true then w D σ S1 else u D σ S1):wIfS t w u D σ S:=h
theorem i_asg {w:WE} {g:WG} (h:w σ S fun t S1=>g t σ S1 D.nx):wAsg w g D σ S:=h
theorem i_gN2 {i:Nat} {σ2:StT} {Q:StT->Sto->Prop} (e:σ.set i (some t)=σ2) (h:Q σ2 S):wgN i t σ S Q:=by subst e; exact h
theorem i_gS {wo wi:WE} {g:GS} {Q:StT->Sto->Prop} (h:wo σ S fun o S1=>wi σ S1 fun i S2=>g o i t S2 fun S3=>Q σ S3):wgS wo wi g t σ S Q:=h
theorem i_gT {n:Nat} {g:WGs} {ts:List T} {Q:StT->Sto->Prop} (l:ts.length=n) (h:g ts σ S Q):wgTup n g (.tup ts) σ S Q:=⟨ts,rfl,l,h⟩
theorem i_gCons {g:WG} {h:WGs} {ts:List T} {Q:StT->Sto->Prop} (q:g t σ S fun σ' S'=>h ts σ' S' Q):wgCons g h (t :: ts) σ S Q:=⟨t,ts,rfl,q⟩
theorem i_gNil {Q:StT->Sto->Prop} (q:Q σ S):wgNil [] σ S Q:=⟨rfl,q⟩
theorem i_for {wi:WI} {g:WG} {wb:WS} (h:wi σ S fun src S1=>forT src.grd g wb D src.items σ S1):wFor wi g wb D σ S:=h
theorem i_V {i:Nat} (e:σ[i]?=some (some t)) (h:Q t S):wV i σ S Q:=⟨t,e,h⟩
theorem i_C (h:Q t S):wC t σ S Q:=h
theorem i_2 {g:G2} {wa wb:WE} (h:wa σ S fun x S1=>wb σ S1 fun y S2=>g x y S2 Q):w2 g wa wb σ S Q:=h
theorem i_B {w:WE} (h:w σ S fun x S1=>∃ k,x=.bl k /\ B k S1):wB w σ S B:=h
theorem i_bl {k:Bool} {C:Bool->Prop} (h:C k):∃ k',T.bl k=.bl k' /\ C k':=⟨k,rfl,h⟩
theorem i_chain {g g':G2} {wa wb wc:WE} (h:wa σ S fun x S1=>wb σ S1 fun y S2=>g x y S2 fun z S3=>∃ k,z=.bl k /\ if k=true then wc σ S3 fun u S4=>g' y u S4 Q else Q (.bl false) S3):wChain g g' wa wb wc σ S Q:=h
theorem i_and {t u:WT} (h:t σ S fun c S1=>if c=true then u σ S1 B else B false S1):wAnd t u σ S B:=h
theorem i_or {t u:WT} (h:t σ S fun c S1=>if c=true then B true S1 else u σ S1 B):wOr t u σ S B:=h
theorem i_not {t:WT} (h:t σ S fun c S1=>B (!c) S1):wNot t σ S B:=h
theorem i_true (h:B true S):wTrue σ S B:=h
theorem i_andV {wa wb:WE} (h:wa σ S fun x S1=>∃ k,x=.bl k /\ if k=true then wb σ S1 Q else Q (.bl false) S1):wAndV wa wb σ S Q:=h
theorem i_orV {wa wb:WE} (h:wa σ S fun x S1=>∃ k,x=.bl k /\ if k=true then Q (.bl true) S1 else wb σ S1 Q):wOrV wa wb σ S Q:=h
theorem i_notV {wa:WE} (h:wa σ S fun x S1=>∃ k,x=.bl k /\ Q (.bl (!k)) S1):wNotV wa σ S Q:=h
theorem i_if {t:WT} {wa wb:WE} (h:t σ S fun c S1=>if c=true then wa σ S1 Q else wb σ S1 Q):wIf t wa wb σ S Q:=h
theorem i_nil (h:L [] S):wNil σ S L:=h
theorem i_cons {wa:WE} {wr:WA} (h:wa σ S fun x S1=>wr σ S1 fun xs S2=>L (x :: xs) S2):wCons wa wr σ S L:=h
theorem i_tup {wr:WA} (h:wr σ S fun ts S1=>ts.length <= sizeLine /\ Q (.tup ts) S1):wTup wr σ S Q:=h
theorem i_lst {wr:WA} (h:wr σ S fun ts S1=>ts.length <= sizeLine /\ Q (.lst ts) S1):wLst wr σ S Q:=h
theorem i_lstT {wr:WA} (h:wr σ S fun ts S1=>ts.length <= sizeLine /\ ∀ p,S1 p=none->Q (.ref p) (put S1 p (.lst ts))):wLstT wr σ S Q:=h
theorem i_call {w:WSp} {dts:List T} {wr:WA} (h:wr σ S fun ts S1=>w (ts ++ dts) S1 Q):wCall w dts wr σ S Q:=h
theorem i_cb {g:GC} {wr:WA} (h:wr σ S fun ts S1=>g ts S1 Q):wCB g wr σ S Q:=h
theorem i_bm {ty:String} {g:GM} {wa:WE} {wr:WA} (h:wa σ S fun x S1=>tyM ty S1 x /\ wr σ S1 fun ts S2=>g x ts S2 Q):wBM ty g wa wr σ S Q:=h
theorem i_neg {wa:WE} (h:wa σ S fun x S1=>match x with | .int i=>Q (.int (-i)) S1 | _=>False):wNeg wa σ S Q:=h
theorem i_sl {tr:Bool} {wa:WE} {wl wh:WO} (h:wa σ S fun x S1=>wl σ S1 fun l S2=>wh σ S2 fun h S3=>gSl tr x l h S3 Q):wSl tr wa wl wh σ S Q:=h
theorem i_oN {O':Option Int->Sto->Prop} (h:O' none S):woN σ S O':=h
theorem i_oS {wa:WE} {O':Option Int->Sto->Prop} (h:wa σ S fun x S1=>match x with | .int i=>O' (some i) S1 | _=>False):woS wa σ S O':=h
theorem i_comp {tr:Bool} {wi:WI} {n:Nat} {caps:List Nat} {g:WG} {tt:WT} {te:WE} (h:wi σ S fun src S1=>compT src.grd g tt te (fun ts S2=>newL tr ts S2 Q) src.items [] (compStT n caps σ) S1):wComp tr wi n caps g tt te σ S Q:=h
theorem i_newF {ts:List T} (h:Q (.lst ts) S):newL false ts S Q:=h
variable {R:Src->Sto->Prop}
theorem i_iL {wa:WE} (h:wa σ S fun x S1=>∃ ts,viewL S1 x=some ts /\ R ⟨ts,liveOk x ts⟩ S1):wiL wa σ S R:=h
theorem i_iR1 {wa:WE} (h:wa σ S fun x S1=>match x with | .int j=>-(2 ^ 62) <= j /\ j < 2 ^ 62 /\ R ⟨rangeT 0 j.toNat,fun _=>True⟩ S1 | _=>False):wiR1 wa σ S R:=h
theorem i_iS {wa:WE} (h:wa σ S fun x S1=>match x with | .str z=>R ⟨signsT z,fun _=>True⟩ S1 | _=>False):wiS wa σ S R:=h
variable {i j:Int} {a c:Str} {ts us:List T}
theorem g_sub (h:Q (.int (i - j)) S):gSub (.int i) (.int j) S Q:=⟨trivial,h⟩
theorem g_div (h0:0 < j) (h1:j < 18446744073709551616) (h:Q (.int (i / j)) S):gDiv (.int i) (.int j) S Q:=⟨⟨h0,h1⟩,h⟩
theorem g_mod (h0:0 < j) (h:Q (.int (i % j)) S):gMod (.int i) (.int j) S Q:=⟨h0,h⟩
theorem g_pow (h0:0 <= j) (h1:j <= 1000000) (h2:i.natAbs < 2 ^ 64) (h:Q (.int (i ^ j.toNat)) S):gPow (.int i) (.int j) S Q:=⟨⟨h0,h1,h2⟩,h⟩
theorem g_shr (h0:0 <= j) (h:Q (.int (i / 2 ^ j.toNat)) S):gShr (.int i) (.int j) S Q:=⟨h0,h⟩
theorem g_addI {tr:Bool} (h:Q (.int (i + j)) S):gAdd tr (.int i) (.int j) S Q:=h
theorem g_addS {tr:Bool} (h0:a.length + c.length <= sizeLine) (h:Q (.str (a ++ c)) S):gAdd tr (.str a) (.str c) S Q:=⟨h0,h⟩
theorem g_addL {tr:Bool} (e1:viewR S x=some ts) (e2:viewR S y=some us) (hz:ts.length + us.length <= sizeLine) (h:newL tr (ts ++ us) S Q):gAdd tr x y S Q:=by
 cases x <;> first | (cases e1; done) | exact ⟨ts,us,e1,e2,hz,h⟩
theorem g_mulI {tr:Bool} (h0:CMul i j) (h:Q (.int (i * j)) S):gMul tr (.int i) (.int j) S Q:=⟨h0,h⟩
theorem g_eqI {n:Bool} (h:Q (.bl (n ^^ decide (i=j))) S):gEq n (.int i) (.int j) S Q:=h
theorem g_eqS {n:Bool} (h:Q (.bl (n ^^ decide (a=c))) S):gEq n (.str a) (.str c) S Q:=h
theorem g_eqB {n k l:Bool} (h:Q (.bl (n ^^ decide (k=l))) S):gEq n (.bl k) (.bl l) S Q:=h
theorem g_ltI (h:Q (.bl (decide (i < j))) S):gLt (.int i) (.int j) S Q:=h
theorem g_leI (h:Q (.bl (decide (i <= j))) S):gLe (.int i) (.int j) S Q:=h
theorem g_gtI (h:Q (.bl (decide (j < i))) S):gGt (.int i) (.int j) S Q:=h
theorem g_geI (h:Q (.bl (decide (j <= i))) S):gGe (.int i) (.int j) S Q:=h
theorem g_ltS (h:Q (.bl (ltS a c)) S):gLt (.str a) (.str c) S Q:=h
theorem g_leS (h:Q (.bl (!ltS c a)) S):gLe (.str a) (.str c) S Q:=h
theorem g_is {n:Bool} (h:Q (.bl (n ^^ isN x)) S):gIs n x .non S Q:=h
theorem g_ixT (e:atI ts i=some t) (h:Q t S):gIx (.tup ts) (.int i) S Q:=⟨t,e,h⟩
theorem g_ixL (e:atI ts i=some t) (h:Q t S):gIx (.lst ts) (.int i) S Q:=⟨t,e,h⟩
theorem g_ixR (e:S p=some (.lst ts)) (e2:atI ts i=some t) (h:Q t S):gIx (.ref p) (.int i) S Q:=⟨t,(ix_ref e).trans e2,h⟩
theorem g_ixS {d:Nat} (hz:a.length <= sizeLine) (e:atI a.cps.toList i=some d) (h:Q (.str ⟨#[d]⟩) S):gIx (.str a) (.int i) S Q:=⟨_,by show (if _ then _ else _)=_; rw [if_pos hz,e]; rfl,h⟩
theorem g_slS {tr:Bool} {lo hi:Option Int} (hz:a.length <= sizeLine) (h:Q (.str (Txt.slice a lo hi)) S):gSl tr (.str a) lo hi S Q:=⟨hz,h⟩
theorem g_slL {tr:Bool} {lo hi:Option Int} (h:newL tr (cutT ts lo hi) S Q):gSl tr (.lst ts) lo hi S Q:=⟨ts,rfl,h⟩
theorem g_slC {tr:Bool} {lo hi:Option Int} {ns:List Int} (h:newL tr (cutT (ns.map T.int) lo hi) S Q):gSl tr (.scr ns) lo hi S Q:=⟨_,rfl,h⟩
theorem g_slR {tr:Bool} {lo hi:Option Int} (e:S p=some (.lst ts)) (h:newL tr (cutT ts lo hi) S Q):gSl tr (.ref p) lo hi S Q:=⟨ts,vw_ref e,h⟩
theorem g_setP {Q:Sto->Prop} {k:Nat} (e:ixN ts.length i=some k) (h:Q (put S p (.lst (ts.set k t)))):gSetL (.ref p) (.int i) t (put S p (.lst ts)) Q:=⟨ts,k,put_same,e,by rw [put_put]; exact h⟩
theorem g_set {Q:Sto->Prop} {k:Nat} (e:S p=some (.lst ts)) (e2:ixN ts.length i=some k) (h:Q (put S p (.lst (ts.set k t)))):gSetL (.ref p) (.int i) t S Q:=⟨ts,k,e,e2,h⟩
theorem atI_in {α:Type} {ls:List α} (h0:0 <= i) (h1:i < ls.length):∃ z,atI ls i=some z /\ z ∈ ls:=by
 have hj:i.toNat < ls.length:=by omega
 refine ⟨ls[i.toNat],?_,List.getElem_mem hj⟩
 have e:((i.toNat:Nat):Int)=i:=by omega
 have:=atI_nat (xs:=ls) (j:=i.toNat) (v:=ls[i.toNat]) (by simp [hj])
 rw [e] at this
 exact this
theorem atI_map {α β:Type} {ls:List α} (f:α->β):atI (ls.map f) i=(atI ls i).map f:=by
 unfold atI
 rw [List.length_map]
 cases ixN ls.length i with
 | none=>rfl
 | some j=>simp [List.getElem?_map]
theorem atI_zero {α:Type} {a:α} {l:List α}:atI (a :: l) 0=some a:=by
 unfold atI ixN
 rw [if_pos (Int.le_refl 0),if_pos (by simp only [List.length_cons]; omega)]
 rfl
theorem g_ixL0 (h:Q x S):gIx (.lst (x :: ts)) (.int 0) S Q:=⟨x,atI_zero,h⟩
theorem g_ixP (P:T->Prop) (h0:0 <= i) (h1:i < ts.length) (hp:∀ t ∈ ts,P t) (h:∀ t,P t->Q t S):gIx (.lst ts) (.int i) S Q:=by
 obtain ⟨z,e,hz⟩:=atI_in h0 h1
 exact ⟨z,by simp only [ix_lst,e],h z (hp z hz)⟩
theorem g_ixM {α:Type} {f:α->T} {ls:List α} (h0:0 <= i) (h1:i < ls.length) (h:∀ z,z ∈ ls->atI ls i=some z->Q (f z) S):gIx (.lst (ls.map f)) (.int i) S Q:=by
 obtain ⟨z,e,hz⟩:=atI_in h0 h1
 exact ⟨f z,by simp only [ix_lst,atI_map,e,Option.map_some],h z hz e⟩
theorem g_ixC {ns:List Int} (h0:0 <= i) (h1:i < ns.length) (h:∀ z,z ∈ ns->atI ns i=some z->Q (.int z) S):gIx (.scr ns) (.int i) S Q:=by
 obtain ⟨z,e,hz⟩:=atI_in h0 h1
 exact ⟨.int z,by show atI (ns.map T.int) i=_; simp only [atI_map,e,Option.map_some],h z hz e⟩
theorem g_ixMR {α:Type} {f:α->T} {ls:List α} (e:S p=some (.lst (ls.map f))) (h0:0 <= i) (h1:i < ls.length) (h:∀ z,z ∈ ls->atI ls i=some z->Q (f z) S):gIx (.ref p) (.int i) S Q:=by
 obtain ⟨z,e',hz⟩:=atI_in h0 h1
 exact ⟨f z,by simp only [ix_ref e,atI_map,e',Option.map_some],h z hz e'⟩
theorem g_setNP {Q:Sto->Prop} {k:Nat} (e0:i=k) (hk:k < ts.length) (e:ts.set k t=us) (h:Q (put S p (.lst us))):gSetN k (.ref p) (.int i) t (put S p (.lst ts)) Q:=⟨e0,ts,put_same,hk,by rw [put_put,e]; exact h⟩
theorem g_setN {Q:Sto->Prop} {k:Nat} (e1:S p=some (.lst ts)) (e0:i=k) (hk:k < ts.length) (e:ts.set k t=us) (h:Q (put S p (.lst us))):gSetN k (.ref p) (.int i) t S Q:=⟨e0,ts,e1,hk,by rw [e]; exact h⟩
theorem g_inT {n:Bool} (f:flatT x=true) (f2:ts.all flatT=true) (h:Q (.bl (n ^^ ts.any fun y=>eqF y x)) S):gIn n x (.tup ts) S Q:=.inr (.inl ⟨ts,rfl,f,f2,h⟩)
theorem g_inL {n:Bool} (f:flatT x=true) (f2:ts.all flatT=true) (h:Q (.bl (n ^^ ts.any fun y=>eqF y x)) S):gIn n x (.lst ts) S Q:=.inr (.inr ⟨ts,rfl,f,f2,h⟩)
theorem g_inR {n:Bool} (e:S p=some (.lst ts)) (f:flatT x=true) (f2:ts.all flatT=true) (h:Q (.bl (n ^^ ts.any fun y=>eqF y x)) S):gIn n x (.ref p) S Q:=.inr (.inr ⟨ts,vw_ref e,f,f2,h⟩)
theorem g_lenS (hz:a.length <= sizeLine) (h:Q (.int a.length) S):gLen [.str a] S Q:=⟨_,if_pos hz,h⟩
theorem g_lenT (h:Q (.int ts.length) S):gLen [.tup ts] S Q:=⟨_,rfl,h⟩
theorem g_lenL (h:Q (.int ts.length) S):gLen [.lst ts] S Q:=⟨_,rfl,h⟩
theorem len_ref (e:S p=some (.lst ts)):lenT S (.ref p)=some (ts.length:Int):=by
 show (viewL S (.ref p)).map (fun ts=>(ts.length:Int))=_
 rw [vw_ref e]; rfl
theorem len_lst:lenT S (.lst ts)=some (ts.length:Int):=rfl
theorem len_scr {ns:List Int}:lenT S (.scr ns)=some ((ns.map T.int).length:Int):=rfl
theorem g_lenM {α:Type} {f:α->T} {ls:List α} (h:Q (.int ls.length) S):gLen [.lst (ls.map f)] S Q:=⟨_,by rw [len_lst,List.length_map],h⟩
theorem g_lenC {ns:List Int} (h:Q (.int ns.length) S):gLen [.scr ns] S Q:=⟨_,by rw [len_scr,List.length_map],h⟩
theorem g_lenR (e:S p=some (.lst ts)) (h:Q (.int ts.length) S):gLen [.ref p] S Q:=⟨_,by simp only [len_ref e],h⟩
theorem g_isi {K:Fg} {n:String} {v:Value} {b:Bool} (e:tyT S x=some v) (k:PySem.W.kitOne K v (.type n)=some b) (h:Q (.bl b) S):gIsi K [x,.ty n] S Q:=⟨v,b,e,k,h⟩
theorem g_min (h:Q (.int (if j < i then j else i)) S):gMin [.int i,.int j] S Q:=⟨_,_,rfl,h⟩
theorem g_allL {bs:List Bool} (e:blsT ts=some bs) (h:Q (.bl (bs.all id)) S):gAll [.lst ts] S Q:=⟨ts,bs,rfl,e,h⟩
theorem g_intB {k:Bool} (h:Q (.int (if k then 1 else 0)) S):gInt [.bl k] S Q:=h
theorem g_listL {tr:Bool} (h:newL tr ts S Q):gList tr [.lst ts] S Q:=⟨ts,rfl,h⟩
theorem g_listR {tr:Bool} (e:S p=some (.lst ts)) (h:newL tr ts S Q):gList tr [.ref p] S Q:=⟨ts,vw_ref e,h⟩
theorem g_split {tr:Bool} (h0:c.length ≠ 0) (h1:a.length <= 1000) (h:newL tr ((Txt.split a c).map T.str) S Q):gSplit tr (.str a) [.str c] S Q:=⟨h0,h1,h⟩
theorem g_joinL {zs:List Str} (e:strsT ts=some zs) (h0:JoinOk a zs=true) (h:Q (.str (Txt.join a zs)) S):gJoin (.str a) [.lst ts] S Q:=⟨ts,zs,rfl,e,h0,h⟩
theorem g_strip (h0:a.length <= sizeLine) (h:Q (.str (Txt.stripChars a c)) S):gStrip (.str a) [.str c] S Q:=⟨h0,h⟩
theorem g_starts (h:Q (.bl (Txt.startswith a c)) S):gStarts (.str a) [.str c] S Q:=h
theorem g_appendP (h0:ts.length < sizeLine) (h:Q .non (put S p (.lst (ts ++ [y])))):gAppend (.ref p) [y] (put S p (.lst ts)) Q:=⟨ts,put_same,h0,by rw [put_put]; exact h⟩
theorem g_append (e:S p=some (.lst ts)) (h0:ts.length < sizeLine) (h:Q .non (put S p (.lst (ts ++ [y])))):gAppend (.ref p) [y] S Q:=⟨ts,e,h0,h⟩
theorem g_insert (e:S p=some (.lst ts)) (h0:ts.length < sizeLine) (h1:0 <= i) (h2:i < 2 ^ 62) (h:Q .non (put S p (.lst (ts.take i.toNat ++ y :: ts.drop i.toNat)))):gInsert (.ref p) [.int i,y] S Q:=⟨ts,e,h0,h1,h2,h⟩
theorem g_reverse (e:S p=some (.lst ts)) (h:Q .non (put S p (.lst ts.reverse))):gReverse (.ref p) [] S Q:=⟨ts,e,h⟩
theorem m_str {Q:Prop} (h:Q):tyM "str" S (.str a) /\ Q:=⟨rfl,h⟩
theorem m_lst {Q:Prop} (h:Q):tyM "list" S (.lst ts) /\ Q:=⟨rfl,h⟩
theorem m_ref {Q:Prop} (e:S p=some (.lst ts)) (h:Q):tyM "list" S (.ref p) /\ Q:=⟨by delta tyM; dsimp only; rw [e],h⟩
theorem v_lst {A:List T->Prop} (h:A ts):∃ us,viewL S (.lst ts)=some us /\ A us:=⟨ts,rfl,h⟩
theorem v_scr {A:List T->Prop} {ns:List Int} (h:A (ns.map T.int)):∃ us,viewL S (.scr ns)=some us /\ A us:=⟨_,rfl,h⟩
theorem v_ref {A:List T->Prop} (e:S p=some (.lst ts)) (h:A ts):∃ us,viewL S (.ref p)=some us /\ A us:=⟨ts,vw_ref e,h⟩
theorem z_le {ts:List T} {n:Nat} {Q:Prop} (e:ts.length <= sizeLine) (h:Q):ts.length <= sizeLine /\ Q:=⟨e,h⟩
theorem g_ixSP (hz:a.length <= sizeLine) (h0:0 <= i) (h1:i < a.length) (h:∀ d,d ∈ a.cps.toList->atI a.cps.toList i=some d->Q (.str ⟨#[d]⟩) S):gIx (.str a) (.int i) S Q:=by
 obtain ⟨d,e,hd⟩:=atI_in (ls:=a.cps.toList) h0 (by simpa [Str.length] using h1)
 exact g_ixS hz e (h d hd e)
theorem g_lenMR {α:Type} {f:α->T} {ls:List α} (e:S p=some (.lst (ls.map f))) (h:Q (.int ls.length) S):gLen [.ref p] S Q:=⟨_,by simp only [len_ref e,List.length_map],h⟩
theorem Le.put {o:O} (h:S p=Option.none):Le S (T2.put S p o):=fun a u e=>by
 have:a ≠ p:=fun z=>by rw [z,h] at e; cases e
 rw [put_ne this]; exact e
theorem Le.trans {S1 S2 S3:Sto} (a:Le S1 S2) (b:Le S2 S3):Le S1 S3:=fun c o h=>b c o (a c o h)
theorem put_none {a b:Addr} {o:O} (h:T2.put S a o b=Option.none):b ≠ a /\ S b=Option.none:=by
 have ne:b ≠ a:=fun z=>by rw [z,put_same] at h; cases h
 exact ⟨ne,by rw [put_ne ne] at h; exact h⟩
theorem any_eqS (z:Str) (ws:List Str):((ws.map T.str).any fun y=>eqF y (.str z))=decide (z ∈ ws):=by
 induction ws with
 | nil=>rfl
 | cons a l ih =>
   rw [List.map_cons,List.any_cons,ih,Bool.eq_iff_iff]
   simp only [eqF_s,Bool.or_eq_true,beq_iff_eq,decide_eq_true_eq,List.mem_cons]
   constructor
   . rintro (h | h)
     . exact .inl h.symm
     . exact .inr h
   . rintro (h | h)
     . exact .inl h.symm
     . exact .inr h
theorem all_flatS (ws:List Str):(ws.map T.str).all flatT=true:=by
 induction ws with
 | nil=>rfl
 | cons a l ih=>rw [List.map_cons,List.all_cons,ih]; rfl
theorem g_inSS {n:Bool} (h:Q (.bl (n ^^ !(Builtin.Str.occurrences c a 0 c.length 1).isEmpty)) S):gIn n (.str a) (.str c) S Q:=.inl ⟨_,_,rfl,rfl,h⟩
theorem g_inSR {n:Bool} {ws:List Str} {zz:Str} (e:S p=some (.lst (ws.map T.str))) (h:Q (.bl (n ^^ decide (zz ∈ ws))) S):gIn n (.str zz) (.ref p) S Q:=g_inR e rfl (all_flatS ws) (by rw [any_eqS]; exact h)
theorem g_inSL {n:Bool} {ws:List Str} {zz:Str} (h:Q (.bl (n ^^ decide (zz ∈ ws))) S):gIn n (.str zz) (.lst (ws.map T.str)) S Q:=g_inL rfl (all_flatS ws) (by rw [any_eqS]; exact h)
theorem Le.put2 {S1 S2:Sto} {o:O} (l:Le S1 S2):Le (T2.put S1 p o) (T2.put S2 p o):=fun a u e=>by
 by_cases h:a=p
 . subst h; rw [put_same] at e ⊢; exact e
 . rw [put_ne h] at e ⊢; exact l a u e
noncomputable def cutG {α:Type} (ls:List α) (lo hi:Option Int):List α:=(ls.drop (HT.sIx ls.length 0 lo)).take (HT.sIx ls.length ls.length hi - HT.sIx ls.length 0 lo)
theorem cutT_map {α:Type} {f:α->T} {ls:List α} {lo hi:Option Int}:cutT (ls.map f) lo hi=(cutG ls lo hi).map f:=by
 unfold cutT cutG
 rw [List.length_map,List.map_take,List.map_drop]
theorem g_slM {tr:Bool} {α:Type} {f:α->T} {ls:List α} {lo hi:Option Int} (h:newL tr ((cutG ls lo hi).map f) S Q):gSl tr (.lst (ls.map f)) lo hi S Q:=g_slL (by rw [cutT_map]; exact h)
theorem i_rng {A:Prop} (h0:-(2 ^ 62) <= j) (h1:j < 2 ^ 62) (h:A):-(2 ^ 62) <= j /\ j < 2 ^ 62 /\ A:=⟨h0,h1,h⟩
theorem ifT {A C:Prop} (h:A):if true=true then A else C:=by rw [if_pos rfl]; exact h
theorem ifF {A C:Prop} (h:C):if false=true then A else C:=by rw [if_neg Bool.false_ne_true]; exact h
theorem ifNT {A C:Prop} (h:C):if (!true)=true then A else C:=ifF h
theorem ifNF {A C:Prop} (h:A):if (!false)=true then A else C:=ifT h
theorem ifB {b:Bool} {A C:Prop} (h1:b=true->A) (h2:b=false->C):if b=true then A else C:=by
 cases b with
 | true=>exact ifT (h1 rfl)
 | false=>exact ifF (h2 rfl)
end
end T2
namespace S6
open PySem PyProof.Rows
noncomputable def rk (ρ:Keyed->Nat) (xs:Array Keyed) (i:Nat):Nat:=((xs[i]?).map ρ).getD 0
theorem rk_of {ρ:Keyed->Nat} {xs ys:Array Keyed} {i j:Nat} (h:xs[i]?=ys[j]?):rk ρ xs i=rk ρ ys j:=by unfold rk; rw [h]
theorem rk_rev {ρ:Keyed->Nat} {xs:Array Keyed} {i j:Nat} (hj:j <= xs.size) (k:Nat) :
   rk ρ (mirror xs i j ((j - i) / 2)) k=rk ρ xs (if i <= k /\ k < j then i + j - 1 - k else k):=by
 refine rk_of ?_
 rw [getElem?_mirror_all hj]
 split <;> rfl
theorem rk_down {ρ:Keyed->Nat} {xs:Array Keyed} {n d:Nat} (hn:n < xs.size) (hd:d <= n) (k:Nat) :
   rk ρ (bubble xs n d) k=rk ρ xs (if k=n - d then n else if n - d < k /\ k <= n then k - 1 else k):=by
 refine rk_of ?_
 rw [getElem?_bubble hn d hd]
 split
 . rfl
 . split <;> rfl
noncomputable def Up (ρ:Keyed->Nat) (xs:Array Keyed) (n:Nat):Prop:=∀ i j,i <= j->j < n->rk ρ xs i <= rk ρ xs j
noncomputable def Dn (ρ:Keyed->Nat) (xs:Array Keyed) (n:Nat):Prop:=∀ i j,i <= j->j < n->rk ρ xs j <= rk ρ xs i
structure Ok (kd:SortKind) (a₀:Array Keyed) (st:SortSt):Prop where
 perm:(arrOf st).Perm a₀
 kind:kindOf st=kd
 well:failedOf st=none
 runs:pendingOf st=#[]
theorem Ok.sz {kd a₀ st} (o:Ok kd a₀ st):(arrOf st).size=a₀.size:=o.perm.size_eq
theorem Ok.arr {kd a₀ st xs} (o:Ok kd a₀ st) (h:xs.Perm (arrOf st)):Ok kd a₀ (setArr st xs):=⟨h.trans o.perm,o.kind,o.well,o.runs⟩
noncomputable def Cm (prog:Program) (w:World) (A:Around) (s:Shared) (kd:SortKind) (a₀:Array Keyed) (ρ:Keyed->Nat):Prop :=
 ∀ x y,x ∈ a₀.toList->y ∈ a₀.toList->∀ (E:Value->Shared->Prop) (Q:Bool->Shared->Prop),Q (decide (ρ x < ρ y)) s->wpAny (model prog w) A (keyLt' kd x.1 y.1) Q E s
section
variable {prog:Program} {w:World} {A:Around} {E:Value->Shared->Prop} {s:Shared} {a₀:Array Keyed} {kd:SortKind} {ρ:Keyed->Nat} {st:SortSt}
theorem s_less {i j:Nat} {Q:Option Bool->SortSt->Prop} (C:Cm prog w A s kd a₀ ρ) (o:Ok kd a₀ st) (hi:i < a₀.size) (hj:j < a₀.size) (h:Q (some (decide (rk ρ (arrOf st) i < rk ρ (arrOf st) j))) st) :
   wpS (model prog w) A E s (ltAt' i j) Q st:=by
 have get:∀ k,k < a₀.size->∃ p,(arrOf st)[k]?=some p /\ p ∈ a₀.toList:=fun k hk=>by
   have hk':k < (arrOf st).size:=by rw [o.sz]; exact hk
   exact ⟨_,getElem?_pos _ k hk',(Array.perm_iff_toList_perm.mp o.perm).mem_iff.mp (by simp)⟩
 obtain ⟨p,ep,mp⟩:=get i hi
 obtain ⟨q,eq,mq⟩:=get j hj
 have h':Q (some (decide (ρ p < ρ q))) st:=by unfold rk at h; rw [ep,eq] at h; exact h
 rw [ltAt'_eq]
 refine wpS_bind (wpS_get ?_)
 dsimp only
 rw [elem'_eq,ep]
 refine wpS_bind (wpS_pure ?_)
 rw [elem'_eq,eq]
 refine wpS_bind (wpS_pure ?_)
 rw [lt'_eq]
 refine wpS_bind (wpS_get (wpS_bind ?_))
 rw [o.kind]
 exact wpS_lift (wpAny_attempt (C p q mp mq _ _ ⟨rfl,wpS_pure h'⟩))
theorem s_asc {a n:Nat} {Q:AscSt->SortSt->Prop} (C:Cm prog w A s kd a₀ ρ) (o:Ok kd a₀ st) (hn:n <= a₀.size) (h1:1 <= a) (ha:a <= n) (u:Up ρ (arrOf st) a)
   (h:∀ m,a <= m->m <= n->Up ρ (arrOf st) m->(m < n->rk ρ (arrOf st) m < rk ρ (arrOf st) (m - 1))->Q (none,m) st):wpS (model prog w) A E s (ascLoop a n) Q st:=by
 unfold ascLoop
 refine wpS_forRange (fun k c z=>z=st /\ c=(none,k) /\ Up ρ (arrOf st) k) ?_ ?_ ⟨rfl,rfl,u⟩
 . rintro k c z l1 l2 ⟨rfl,rfl,uk⟩
   refine wpS_bind (s_less C o (by dsimp only; omega) (by dsimp only; omega) ?_)
   dsimp only
   by_cases g:rk ρ (arrOf z) k < rk ρ (arrOf z) (k - 1)
   . rw [decide_eq_true g]
     exact wpS_pure (h k l1 (by omega) uk fun _=>g)
   . rw [decide_eq_false g]
     refine wpS_pure ⟨rfl,rfl,fun i j ij jk=>?_⟩
     rcases Nat.lt_or_ge j k with q | q
     . exact uk i j ij q
     . obtain rfl:j=k:=by omega
       rcases Nat.lt_or_ge i j with q | q
       . have:=uk i (j - 1) (by omega) (by omega)
         omega
       . obtain rfl:i=j:=by omega
         exact Nat.le_refl _
 . rintro c z ⟨rfl,rfl,uk⟩
   rw [Nat.max_eq_right ha] at uk ⊢
   exact h n ha (Nat.le_refl _) uk fun q=>absurd q (Nat.lt_irrefl _)
theorem s_tail {m n:Nat} {Q:Option Nat->SortSt->Prop} (C:Cm prog w A s kd a₀ ρ) (o:Ok kd a₀ st) (hn:n <= a₀.size) (h1:1 <= m) (hm:m <= n) (d:Dn ρ (arrOf st) m)
   (h:∀ k z,Ok kd a₀ z->1 <= k->k <= n->Up ρ (arrOf z) k->Q (some k) z):wpS (model prog w) A E s (tail3 m n) Q st:=by
 unfold tail3
 refine wpS_bind (wpS_reverse ?_)
 have o':Ok kd a₀ (setArr st (mirror (arrOf st) 0 m ((m - 0) / 2))):=o.arr (mirror_perm _ _ _ _)
 refine wpS_bind (s_asc C o' hn h1 hm (fun i j ij jm=>?_) fun k k1 k2 uk _=>wpS_pure (h k _ o' (by omega) k2 uk))
 show rk ρ (mirror (arrOf st) 0 m ((m - 0) / 2)) i <= rk ρ (mirror (arrOf st) 0 m ((m - 0) / 2)) j
 rw [rk_rev (by rw [o.sz]; omega),rk_rev (by rw [o.sz]; omega),if_pos (by omega),if_pos (by omega)]
 exact d _ _ (by omega) (by omega)
noncomputable def Lk (ρ:Keyed->Nat) (xs:Array Keyed) (m e:Nat):Prop:=e + 1 <= m /\ ∀ i,m - (e + 1) <= i->i < m->rk ρ xs i=rk ρ xs (m - 1)
theorem Lk.rev {xs:Array Keyed} {m e:Nat} (l:Lk ρ xs m e) (hm:m <= xs.size) (k:Nat):rk ρ (mirror xs (m - (e + 1)) m ((m - (m - (e + 1))) / 2)) k=rk ρ xs k:=by
 rw [rk_rev hm]
 split
 . rename_i q
   rw [l.2 _ (by have:=l.1; omega) (by omega),l.2 k q.1 q.2]
 . rfl
theorem s_desc {m n:Nat} {Q:DescSt->SortSt->Prop} (C:Cm prog w A s kd a₀ ρ) (o:Ok kd a₀ st) (hn:n <= a₀.size) (h1:1 <= m) (hm:m <= n) (d:Dn ρ (arrOf st) m)
   (h:∀ k e z,Ok kd a₀ z->m <= k->k <= n->Dn ρ (arrOf z) k->Lk ρ (arrOf z) k e->Q (none,k,e) z):wpS (model prog w) A E s (descLoop m n) Q st:=by
 unfold descLoop
 refine wpS_forRange (fun k c z=>∃ e,c=(none,k,e) /\ Ok kd a₀ z /\ Dn ρ (arrOf z) k /\ Lk ρ (arrOf z) k e) ?_ ?_ ⟨0,rfl,o,d,h1,fun i i1 i2=>by rw [show i=m - 1 by omega]⟩
 . rintro k c z l1 l2 ⟨e,rfl,oz,dz,lz⟩
   refine wpS_bind (s_less C oz (by dsimp only; omega) (by dsimp only; omega) ?_)
   dsimp only
   have more:∀ xs:Array Keyed,(∀ i,rk ρ xs i=rk ρ (arrOf z) i)->rk ρ (arrOf z) k <= rk ρ (arrOf z) (k - 1)->Dn ρ xs (k + 1):=fun xs hx le i j ij jk=>by
     rw [hx,hx]
     rcases Nat.lt_or_ge j k with q | q
     . exact dz i j ij q
     . obtain rfl:j=k:=by omega
       rcases Nat.lt_or_ge i j with q | q
       . have:=dz i (j - 1) (by omega) (by omega)
         omega
       . obtain rfl:i=j:=by omega
         exact Nat.le_refl _
   by_cases g:rk ρ (arrOf z) k < rk ρ (arrOf z) (k - 1)
   . rw [decide_eq_true g]
     simp only [if_true]
     split
     . refine wpS_bind (wpS_reverse (wpS_pure ⟨0,rfl,oz.arr (mirror_perm _ _ _ _),more _ (lz.rev (by rw [oz.sz]; omega)) (by omega),by omega,fun i i1 i2=>by rw [show i=k + 1 - 1 by omega]⟩))
     . exact wpS_pure ⟨0,rfl,oz,more _ (fun _=>rfl) (by omega),by omega,fun i i1 i2=>by rw [show i=k + 1 - 1 by omega]⟩
   . rw [decide_eq_false g]
     simp only [Bool.false_eq_true,if_false]
     refine wpS_bind (s_less C oz (by omega) (by omega) ?_)
     by_cases g2:rk ρ (arrOf z) (k - 1) < rk ρ (arrOf z) k
     . rw [decide_eq_true g2]
       simp only [if_true]
       exact wpS_pure (h k e z oz l1 (by omega) dz lz)
     . rw [decide_eq_false g2]
       simp only [Bool.false_eq_true,if_false]
       refine wpS_pure ⟨e + 1,rfl,oz,more _ (fun _=>rfl) (by omega),by have:=lz.1; omega,fun i i1 i2=>?_⟩
       rw [show k + 1 - 1=k by omega]
       rcases Nat.lt_or_ge i k with q | q
       . rw [lz.2 i (by omega) q]; omega
       . rw [show i=k by omega]
 . rintro c z ⟨e,rfl,oz,dz,lz⟩
   rw [Nat.max_eq_right hm] at dz lz ⊢
   exact h n e z oz hm (Nat.le_refl _) dz lz
theorem s_descPart {m n:Nat} {Q:Option Nat->SortSt->Prop} (C:Cm prog w A s kd a₀ ρ) (o:Ok kd a₀ st) (hn:n <= a₀.size) (hm:m + 1 <= n) (d:Dn ρ (arrOf st) (m + 1))
   (h:∀ k z,Ok kd a₀ z->1 <= k->k <= n->Up ρ (arrOf z) k->Q (some k) z):wpS (model prog w) A E s (descPart m n) Q st:=by
 unfold descPart
 refine wpS_bind (wpS_lift (wpAny_rule ⟨rfl,wpS_bind (s_desc C o hn (by omega) hm d fun k e z oz k1 k2 dz lz=>?_)⟩))
 dsimp only
 split
 . refine wpS_bind (wpS_reverse (s_tail C (oz.arr (mirror_perm _ _ _ _)) hn (by omega) k2 (fun i j ij jk=>?_) h))
   have e:=lz.rev (by rw [oz.sz]; omega)
   show rk ρ (mirror _ _ _ _) j <= rk ρ (mirror _ _ _ _) i
   rw [e,e]
   exact dz i j ij jk
 . exact s_tail C oz hn (by omega) k2 dz h
theorem s_count {n:Nat} {Q:Option Nat->SortSt->Prop} (C:Cm prog w A s kd a₀ ρ) (o:Ok kd a₀ st) (hn:n <= a₀.size) (h1:1 <= n)
   (h:∀ k z,Ok kd a₀ z->1 <= k->k <= n->Up ρ (arrOf z) k->Q (some k) z):wpS (model prog w) A E s (countRun' 0 n) Q st:=by
 rw [countRun0_eq]
 refine wpS_bind (s_asc C o hn (Nat.le_refl _) h1 (fun i j ij j1=>by rw [show i=j by omega]; exact Nat.le_refl _) fun m m1 m2 um lm=>?_)
 dsimp only
 split
 . rename_i q
   exact wpS_pure (h m st o m1 m2 um)
 . rename_i q
   have mn:m < n:=by
     rcases Nat.lt_or_ge m n with z | z
     . exact z
     . exact (q (beq_iff_eq.mpr (by omega))).elim
   have gm:=lm mn
   split
   . refine wpS_bind (s_less C o (by omega) (by omega) ?_)
     dsimp only
     by_cases g:rk ρ (arrOf st) 0 < rk ρ (arrOf st) (m - 1)
     . rw [decide_eq_true g]
       exact wpS_pure (h m st o m1 m2 um)
     . rw [decide_eq_false g]
       refine wpS_bind (wpS_reverse (s_descPart C (o.arr (mirror_perm _ _ _ _)) hn mn (fun i j ij jm=>?_) h))
       have all:∀ i,i < m->rk ρ (arrOf st) i=rk ρ (arrOf st) (m - 1):=fun i im=>by
         have a1:=um 0 i (by omega) im
         have a2:=um i (m - 1) (by omega) (by omega)
         omega
       show rk ρ (mirror _ _ _ _) j <= rk ρ (mirror _ _ _ _) i
       rw [rk_rev (by rw [o.sz]; omega),rk_rev (by rw [o.sz]; omega)]
       rcases Nat.lt_or_ge j m with q1 | q1
       . rw [if_pos (by omega),if_pos (by omega),all _ (by omega),all (0 + m - 1 - i) (by omega)]
         exact Nat.le_refl _
       . obtain rfl:j=m:=by omega
         rw [if_neg (by omega)]
         split
         . rw [all (0 + j - 1 - i) (by omega)]; omega
         . rw [show i=j by omega]; exact Nat.le_refl _
   . refine s_descPart C o hn mn (fun i j ij jm=>?_) h
     obtain rfl:m=1:=by omega
     rcases Nat.lt_or_ge i j with q1 | q1
     . obtain ⟨rfl,rfl⟩:i=0 /\ j=1:=by omega
       exact Nat.le_of_lt gm
     . rw [show i=j by omega]; exact Nat.le_refl _
theorem s_ins {n ok:Nat} {Q:Bool->SortSt->Prop} (C:Cm prog w A s kd a₀ ρ) (o:Ok kd a₀ st) (hn:n <= a₀.size) (hk:ok <= n) (u:Up ρ (arrOf st) ok)
   (h:∀ z,Ok kd a₀ z->Up ρ (arrOf z) n->Q true z):wpS (model prog w) A E s (binarySort' 0 n ok) Q st:=by
 rw [binarySort'_eq]
 simp only [Nat.zero_add]
 have first:∀ {k:Nat},k <= max ok 1->Up ρ (arrOf st) k:=fun {k} hk1 i j ij jk=>by
   rcases Nat.lt_or_ge j ok with q | q
   . exact u i j ij q
   . rw [show i=j by omega]; exact Nat.le_refl _
 refine wpS_bind (wpS_mono (wpS_forRange (fun k c z=>c=(none,()) /\ Ok kd a₀ z /\ ∀ i,i <= k->i <= n->Up ρ (arrOf z) i) (Q:=fun c z=>c=(none,()) /\ Ok kd a₀ z /\ Up ρ (arrOf z) n) ?_ ?_ ⟨rfl,o,fun i i1 _=>first i1⟩) ?_)
 . rintro k c z l1 l2 ⟨rfl,oz,uz⟩
   have uk:=uz k (Nat.le_refl _) (by omega)
   have kz:k < (arrOf z).size:=by rw [oz.sz]; omega
   refine wpS_bind (wpS_mono (wpS_forRange
     (fun i c y=>y=z /\ ∃ l r,c=(none,l,r) /\ l <= r /\ r <= k /\ r + i <= l + k /\ (∀ j,j < l->rk ρ (arrOf z) j <= rk ρ (arrOf z) k) /\ ∀ j,r <= j->j < k->rk ρ (arrOf z) k < rk ρ (arrOf z) j)
     (Q:=fun c y=>y=z /\ ∃ l r,c=(none,l,r) /\ l <= k /\ (∀ j,j < l->rk ρ (arrOf z) j <= rk ρ (arrOf z) k) /\ ∀ j,l <= j->j < k->rk ρ (arrOf z) k < rk ρ (arrOf z) j) ?_ ?_
     ⟨rfl,0,k,rfl,Nat.zero_le _,Nat.le_refl _,by omega,fun j j0=>absurd j0 (Nat.not_lt_zero _),fun j j1 j2=>by omega⟩) ?_)
   . rintro i c y i1 i2 ⟨rfl,l,r,rfl,lr,rk',lk,lo,hi⟩
     dsimp only
     split
     . obtain rfl:l=r:=by omega
       exact wpS_pure ⟨rfl,l,l,rfl,rk',lo,hi⟩
     . refine wpS_bind (s_less C oz (by omega) (by omega) ?_)
       by_cases g:rk ρ (arrOf y) k < rk ρ (arrOf y) ((l + r) / 2)
       . rw [decide_eq_true g]
         refine wpS_pure ⟨rfl,l,(l + r) / 2,rfl,by omega,by omega,by omega,lo,fun j j1 j2=>?_⟩
         exact Nat.lt_of_lt_of_le g (uk _ _ j1 j2)
       . rw [decide_eq_false g]
         refine wpS_pure ⟨rfl,(l + r) / 2 + 1,r,rfl,by omega,rk',by omega,fun j j1=>?_,hi⟩
         exact Nat.le_trans (uk _ _ (by omega) (by omega)) (Nat.le_of_not_lt g)
   . rintro c y ⟨rfl,l,r,rfl,lr,rk',lk,lo,hi⟩
     obtain rfl:l=r:=by omega
     exact ⟨rfl,l,l,rfl,rk',lo,hi⟩
   . rintro c y ⟨rfl,l,r,rfl,lk,lo,hi⟩
     dsimp only
     rw [moveDown'_eq]
     refine wpS_bind (wpS_modify (wpS_pure ⟨rfl,oz.arr (bubble_perm _ _ _),fun m m1 m2 i j ij jm=>?_⟩))
     show rk ρ (bubble (arrOf y) k (k - l)) i <= rk ρ (bubble (arrOf y) k (k - l)) j
     rw [rk_down kz (by omega),rk_down kz (by omega),show k - (k - l)=l by omega]
     rcases Nat.lt_trichotomy j l with q | q | q
     . rw [if_neg (by omega),if_neg (by omega),if_neg (by omega),if_neg (by omega)]
       exact uk _ _ ij (by omega)
     . rw [if_pos q]
       split
       . exact Nat.le_refl _
       . rw [if_neg (by omega)]
         exact lo _ (by omega)
     . rw [if_neg (show ¬ j=l by omega),if_pos (show l < j /\ j <= k by omega)]
       split
       . exact Nat.le_of_lt (hi _ (by omega) (by omega))
       . split
         . exact uk _ _ (by omega) (by omega)
         . exact uk _ _ (by omega) (by omega)
 . rintro c z ⟨e,oz,uz⟩
   exact ⟨e,oz,uz n (by omega) (Nat.le_refl _)⟩
 . rintro c z ⟨rfl,oz,uz⟩
   exact wpS_pure (h z oz uz)
theorem s_runs {Q:Unit->SortSt->Prop} (C:Cm prog w A s kd a₀ ρ) (o:Ok kd a₀ st) (h2:2 <= a₀.size) (h64:a₀.size < 64)
   (h:∀ z,(arrOf z).Perm a₀->failedOf z=none->Up ρ (arrOf z) a₀.size->Q () z):wpS (model prog w) A E s sortRuns' Q st:=by
 rw [sortRuns'_eq]
 refine wpS_bind (wpS_get ?_)
 dsimp only
 have run:minRun' a₀.size a₀.size 0=a₀.size:=by
   have:∀ f,0 < f->minRun' f a₀.size 0=a₀.size:=fun f hf=>by
     cases f with
     | zero=>omega
     | succ f=>rw [minRun'_succ,if_pos h64]; rfl
   exact this _ (by omega)
 simp only [o.sz,run]
 let D:SortSt->Prop:=fun z=>(arrOf z).Perm a₀ /\ failedOf z=none /\ (pendingOf z).size=1 /\ Up ρ (arrOf z) a₀.size
 have fin:∀ z,Ok kd a₀ z->Up ρ (arrOf z) a₀.size->D (setPending z ((pendingOf z).push (0,a₀.size,0))):=fun z oz uz=>⟨oz.perm,oz.well,by rw [show pendingOf (setPending z ((pendingOf z).push (0,a₀.size,0)))=(pendingOf z).push (0,a₀.size,0) from rfl,oz.runs]; rfl,uz⟩
 refine wpS_bind (wpS_mono (wpS_forRange (fun k c z=>(k=0 /\ c=(none,0) /\ Ok kd a₀ z) \/ (0 < k /\ c=(none,a₀.size) /\ D z)) (Q:=fun c z=>c=(none,a₀.size) /\ D z) ?_ ?_ (.inl ⟨rfl,rfl,o⟩)) ?_)
 . rintro k c z l1 l2 (⟨rfl,rfl,oz⟩ | ⟨k0,rfl,dz⟩)
   . dsimp only
     rw [if_neg (by omega)]
     simp only [Nat.sub_zero,Nat.min_self,Nat.zero_add]
     refine wpS_bind (s_count C oz (Nat.le_refl _) (by omega) fun m y oy m1 m2 uy=>?_)
     have none':∀ {x:SortSt},Ok kd a₀ x->(pendingOf x).back?=none:=fun ox=>by rw [ox.runs]; rfl
     dsimp only
     split
     . refine wpS_bind (wpS_lift (wpAny_rule ⟨rfl,wpS_bind (s_ins C oy (Nat.le_refl _) m2 uy fun x ox ux=>?_)⟩))
       simp only [Bool.not_true,Bool.false_eq_true,if_false]
       refine wpS_bind (wpS_get ?_)
       rw [none' ox]
       exact wpS_bind (wpS_modify (wpS_pure (.inr ⟨Nat.one_pos,rfl,fin x ox ux⟩)))
     . obtain rfl:m=a₀.size:=by omega
       refine wpS_bind (wpS_get ?_)
       rw [none' oy]
       exact wpS_bind (wpS_modify (wpS_pure (.inr ⟨Nat.one_pos,rfl,fin y oy uy⟩)))
   . dsimp only
     rw [if_pos (Nat.le_refl _)]
     exact wpS_pure ⟨rfl,dz⟩
 . rintro c z (⟨e,_⟩ | ⟨_,e,dz⟩)
   . omega
   . exact ⟨e,dz⟩
 . rintro c z ⟨rfl,dz⟩
   dsimp only
   refine wpS_bind (wpS_mono (wpS_forRange (fun _ c y=>y=z /\ c=(none,())) (Q:=fun c y=>y=z /\ c=(none,())) ?_ (fun _ _ e=>e) ⟨rfl,rfl⟩) ?_)
   . rintro k c y _ _ ⟨rfl,rfl⟩
     refine wpS_bind (wpS_get ?_)
     rw [if_pos (by rw [dz.2.2.1]; exact Nat.le_refl 1)]
     exact wpS_pure ⟨rfl,rfl⟩
   . rintro c y ⟨rfl,rfl⟩
     exact wpS_pure (h _ dz.1 dz.2.1 dz.2.2.2)
end
end S6
namespace S6
open PySem PyProof.Rows PySem.SeqAt
inductive Ky where
 | i (n:Int) | s (x:Str) | tt (v:Bool) | nil | cons (h t:Ky)
 deriving DecidableEq
namespace Ky
mutual
noncomputable def dat:Ky->PyData
 | .i n=>.int n
 | .s x=>.str x
 | .tt v=>.bool v
 | .nil=>.tuple []
 | .cons h t=>.tuple (dat h :: row t)
noncomputable def row:Ky->List PyData
 | .cons h t=>dat h :: row t
 | _=>[]
end
noncomputable def shp:Ky->Ky->Bool
 | .i _,.i _=>true
 | .s _,.s _=>true
 | .tt _,.tt _=>true
 | .nil,.nil=>true
 | .cons h t,.cons h' t'=>shp h h' && shp t t'
 | _,_=>false
noncomputable def lt:Ky->Ky->Bool
 | .i a,.i b=>decide (a < b)
 | .s a,.s b=>decide (a.cps.toList < b.cps.toList)
 | .tt a,.tt b=>!a && b
 | .cons h t,.cons h' t'=>if h=h' then lt t t' else lt h h'
 | _,_=>false
noncomputable def ok:Ky->Bool
 | .tt _=>false
 | .cons h t=>ok h && ok t && isRow t
 | _=>true
where isRow:Ky->Bool
 | .nil=>true
 | .cons _ _=>true
 | _=>false
noncomputable def dep:Ky->Nat
 | .nil=>1
 | .cons h t=>max (dep h + 1) (dep t)
 | _=>0
theorem shp_c {h t h' t':Ky}:shp (.cons h t) (.cons h' t')=(shp h h' && shp t t'):=rfl
theorem lt_i {a b:Int}:lt (.i a) (.i b)=decide (a < b):=rfl
theorem lt_s {a b:Str}:lt (.s a) (.s b)=decide (a.cps.toList < b.cps.toList):=rfl
theorem lt_t {a b:Bool}:lt (.tt a) (.tt b)=(!a && b):=rfl
theorem lt_c {h t h' t':Ky}:lt (.cons h t) (.cons h' t')=if h=h' then lt t t' else lt h h':=rfl
theorem ok_c {h t:Ky}:ok (.cons h t)=(ok h && ok t && ok.isRow t):=rfl
theorem dep_c {h t:Ky}:dep (.cons h t)=max (dep h + 1) (dep t):=rfl
theorem str_ne {a b:Str} (h:a ≠ b):a.cps.toList ≠ b.cps.toList:=fun e=>h (by
 cases a; cases b
 simp only [Str.mk.injEq] at h ⊢
 exact Array.toList_inj.mp e)
theorem tri:∀ {x y:Ky},shp x y=true->lt x y=true \/ x=y \/ lt y x=true
 | .i a,.i b,_=>by
   simp only [lt_i,lt_s,lt_t,lt_c,decide_eq_true_eq,Ky.i.injEq]; omega
 | .s a,.s b,_=>by
   simp only [lt_i,lt_s,lt_t,lt_c,decide_eq_true_eq,Ky.s.injEq]
   by_cases e:a=b
   . exact .inr (.inl e)
   . by_cases l:a.cps.toList < b.cps.toList
     . exact .inl l
     . refine .inr (.inr ?_)
       rcases List.le_iff_lt_or_eq.mp (List.not_lt.mp l) with z | z
       . exact z
       . exact (str_ne e z.symm).elim
 | .tt a,.tt b,_=>by cases a <;> cases b <;> simp [lt_i,lt_s,lt_t,lt_c]
 | .nil,.nil,_=>.inr (.inl rfl)
 | .cons h t,.cons h' t',e=>by
   simp only [shp_c,Bool.and_eq_true] at e
   by_cases q:h=h'
   . subst q
     rcases tri e.2 with z | z | z
     . exact .inl (by simp [lt_i,lt_s,lt_t,lt_c,z])
     . exact .inr (.inl (by rw [z]))
     . exact .inr (.inr (by simp [lt_i,lt_s,lt_t,lt_c,z]))
   . rcases tri e.1 with z | z | z
     . exact .inl (by simp [lt_i,lt_s,lt_t,lt_c,q,z])
     . exact (q z).elim
     . exact .inr (.inr (by simp [lt_i,lt_s,lt_t,lt_c,Ne.symm q,z]))
theorem irr:∀ x:Ky,lt x x=false
 | .i _=>by simp [lt_i,lt_s,lt_t,lt_c]
 | .s x=>by simp only [lt_i,lt_s,lt_t,lt_c,decide_eq_false_iff_not]; exact List.lt_irrefl _
 | .tt v=>by cases v <;> rfl
 | .nil=>rfl
 | .cons h t=>by simp [lt_i,lt_s,lt_t,lt_c,irr t]
theorem trans:∀ {x y z:Ky},shp x y=true->shp y z=true->lt x y=true->lt y z=true->lt x z=true
 | .i a,.i b,.i c,_,_,p,q=>by simp only [lt_i,lt_s,lt_t,lt_c,decide_eq_true_eq] at *; omega
 | .s a,.s b,.s c,_,_,p,q=>by simp only [lt_i,lt_s,lt_t,lt_c,decide_eq_true_eq] at *; exact List.lt_trans p q
 | .tt a,.tt b,.tt c,_,_,p,q=>by cases a <;> cases b <;> cases c <;> simp [lt_i,lt_s,lt_t,lt_c] at *
 | .cons h t,.cons h' t',.cons h2 t2,e,f,p,q=>by
   simp only [shp_c,Bool.and_eq_true] at e f
   simp only [lt_i,lt_s,lt_t,lt_c] at p q ⊢
   by_cases a:h=h'
   . subst a
     rw [if_pos rfl] at p
     by_cases b:h=h2
     . subst b
       rw [if_pos rfl] at q ⊢
       exact trans e.2 f.2 p q
     . rw [if_neg b] at q ⊢; exact q
   . rw [if_neg a] at p
     by_cases b:h'=h2
     . subst b
       rw [if_neg a]; exact p
     . rw [if_neg b] at q
       have:=trans e.1 f.1 p q
       rw [if_neg (fun z=>by rw [z,irr] at this; cases this)]
       exact this
theorem shp_symm:∀ {a b:Ky},shp a b=true->shp b a=true:=by
 intro a
 induction a with
 | cons u v iu iv =>
   intro b e
   cases b with
   | cons=>simp only [shp_c,Bool.and_eq_true] at e ⊢; exact ⟨iu e.1,iv e.2⟩
   | _=>cases e
 | _=>intro b e; cases b <;> first | rfl | cases e
theorem eqv_dat:∀ {x y:Ky},shp x y=true->ok x=true->PyData.eqv (dat x) (dat y)=decide (x=y) /\ (ok.isRow x=true->PyData.eqvAll (row x) (row y)=decide (x=y))
 | .i a,.i b,_,_=>⟨by simp only [dat,PyData.eqv,Ky.i.injEq]; rfl,fun h=>by cases h⟩
 | .s a,.s b,_,_=>⟨by simp only [dat,PyData.eqv,Ky.s.injEq]; rfl,fun h=>by cases h⟩
 | .tt a,.tt b,_,_=>⟨by cases a <;> cases b <;> rfl,fun h=>by cases h⟩
 | .nil,.nil,_,_=>⟨rfl,fun _=>rfl⟩
 | .cons h t,.cons h' t',e,o=>by
   simp only [shp_c,Bool.and_eq_true] at e
   simp only [ok_c,Bool.and_eq_true] at o
   have h1:=(eqv_dat e.1 o.1.1).1
   have h2:=(eqv_dat e.2 o.1.2).2 o.2
   have z:PyData.eqvAll (dat h :: row t) (dat h' :: row t')=decide (Ky.cons h t=Ky.cons h' t'):=by
     simp only [PyData.eqvAll,h1,h2,Ky.cons.injEq,Bool.decide_and]
   exact ⟨by simp only [dat,PyData.eqv]; exact z,fun _=>by simp only [row]; exact z⟩
end Ky
end S6
namespace S6
open PySem PyProof.Rows PySem.SeqAt
theorem cnt_lt {α:Type} {p q:α->Bool} {x:α}:∀ {l:List α},(∀ z ∈ l,p z=true->q z=true)->x ∈ l->p x=false->q x=true->l.countP p < l.countP q
 | [],_,h,_,_=>by cases h
 | y :: l,m,h,px,qx=>by
   have ml:∀ z ∈ l,p z=true->q z=true:=fun z hz=>m z (List.mem_cons_of_mem _ hz)
   have le:=List.countP_mono_left ml
   rw [List.countP_cons,List.countP_cons]
   rcases List.mem_cons.mp h with rfl | h
   . simp only [px,qx,Bool.false_eq_true,if_false,if_true]; omega
   . have ih:=cnt_lt ml h px qx
     have:(if p y=true then 1 else 0) <= if q y=true then 1 else 0:=by
       split
       . rw [if_pos (m y (List.mem_cons_self ..) ‹_›)]; exact Nat.le_refl _
       . exact Nat.zero_le _
     omega
noncomputable def rnk (ks:List Ky) (x:Ky):Nat:=ks.countP fun z=>Ky.lt z x
theorem rnk_lt {ks:List Ky} (hs:∀ x ∈ ks,∀ y ∈ ks,Ky.shp x y=true) {x y:Ky} (hx:x ∈ ks) (hy:y ∈ ks):decide (rnk ks x < rnk ks y)=Ky.lt x y:=by
 cases e:Ky.lt x y with
 | true=>exact decide_eq_true (cnt_lt (fun z hz l=>Ky.trans (hs z hz x hx) (hs x hx y hy) l e) hx (Ky.irr x) e)
 | false =>
   refine decide_eq_false (Nat.not_lt.mpr (List.countP_mono_left fun z hz l=>?_))
   rcases Ky.tri (hs x hx y hy) with q | q | q
   . rw [e] at q; cases q
   . rw [q]; exact l
   . exact Ky.trans (hs z hz y hy) (hs y hy x hx) l q
inductive Cp where
 | lt | gt | ge
noncomputable def cop:Cp->CmpOp
 | .lt=>.Lt
 | .gt=>.Gt
 | .ge=>.GtE
noncomputable def gl (g:Cp) (x y:Ky):Bool:=match g with
 | .lt=>Ky.lt x y
 | .gt=>Ky.lt y x
 | .ge=>!Ky.lt x y
noncomputable def nilC:CmpOp->Bool
 | .GtE=>true
 | _=>false
noncomputable def CmpAt (A:Around) (s:Shared) (op:CmpOp) (x y:Value) (c:Bool):Prop :=
 ∀ (prog:Program) (w:World) (E:Value->Shared->Prop) (Q:Value->Shared->Prop),Q (.bool c) s->wpAny (model prog w) A (richCompare op x y) Q E s
inductive LexAt (A:Around) (s:Shared) (op:CmpOp):List Value->List Value->Bool->Prop
 | nil:LexAt A s op [] [] (nilC op)
 | same {x y xs ys c}:EqAt A s x y true->LexAt A s op xs ys c->LexAt A s op (x :: xs) (y :: ys) c
 | diff {x y xs ys c}:EqAt A s x y false->CmpAt A s op x y c->LexAt A s op (x :: xs) (y :: ys) c
noncomputable def byPairs (op:CmpOp) (us vs:List Value) (n m:Nat):Sem Fin:=do
 for (x,y) in us.zip vs do
   if !(<- eqBool x y) then
     rule "tuple.compare.by-the-first-pair-that-differs"; return <- ret (<- richCompare op x y)
 ret (Builtin.Tuple.tupleCompareSizes op n m)
theorem tup_lt_eq (a b:Value):Builtin.«tuple.__lt__» ⟨[a,b],[]⟩=(do
   if !(<- isInstance b (.type "tuple")) then return <- ret .notImplemented
   let xs <- Builtin.Tuple.tupleItemsOf a
   let ys <- Builtin.Tuple.tupleItemsOf b
   byPairs .Lt xs.toList ys.toList xs.size ys.size):=rfl
theorem tup_ge_eq (a b:Value):Builtin.«tuple.__ge__» ⟨[a,b],[]⟩=(do
   if !(<- isInstance b (.type "tuple")) then return <- ret .notImplemented
   let xs <- Builtin.Tuple.tupleItemsOf a
   let ys <- Builtin.Tuple.tupleItemsOf b
   byPairs .GtE xs.toList ys.toList xs.size ys.size):=rfl
theorem tup_gt_eq (a b:Value):Builtin.«tuple.__gt__» ⟨[a,b],[]⟩=(do
   if !(<- isInstance b (.type "tuple")) then return <- ret .notImplemented
   let xs <- Builtin.Tuple.tupleItemsOf a
   let ys <- Builtin.Tuple.tupleItemsOf b
   byPairs .Gt xs.toList ys.toList xs.size ys.size):=rfl
section
variable {A:Around} {s:Shared}
theorem lex_go {g:Cp} {prog:Program} {w:World} {E:Value->Shared->Prop} {P:Fin->Shared->Prop} {us vs:List Value} {c:Bool} (L:LexAt A s (cop g) us vs c) {n m:Nat} (hnm:n=m)
   (h:P (.done (.ret (.bool c))) s):wpAny (model prog w) A (byPairs (cop g) us vs n m) P E s:=by
 unfold byPairs
 refine wpAny_bind ?_
 refine wpAny_forIn_list _ (fun rest r z=>r.1=none /\ z=s /\ ∃ us' vs',rest=us'.zip vs' /\ LexAt A s (cop g) us' vs' c) _ ?_ ?_ _ _ ⟨rfl,rfl,us,vs,rfl,L⟩
 . rintro ⟨x,y⟩ rest r z ⟨hr,rfl,us',vs',hz,L'⟩
   cases L' with
   | nil=>simp at hz
   | same e L2 =>
     simp only [List.zip_cons_cons,List.cons.injEq,Prod.mk.injEq] at hz
     obtain ⟨⟨rfl,rfl⟩,rfl⟩:=hz
     refine wpAny_bind (e prog w _ _ ?_)
     exact wpAny_pure ⟨rfl,rfl,_,_,rfl,L2⟩
   | diff e cm =>
     simp only [List.zip_cons_cons,List.cons.injEq,Prod.mk.injEq] at hz
     obtain ⟨⟨rfl,rfl⟩,rfl⟩:=hz
     refine wpAny_bind (e prog w _ _ ?_)
     refine wpAny_bind (wpAny_rule (wpAny_bind (cm prog w _ _ ?_)))
     exact wpAny_bind (wpAny_pure (wpAny_pure (wpAny_pure h)))
 . rintro ⟨r1,r2⟩ z ⟨hr,rfl,us',vs',hz,L'⟩
   simp only at hr
   subst hr
   have hc:c=nilC (cop g):=by
     cases L' with
     | nil=>rfl
     | same _ _=>simp at hz
     | diff _ _=>simp at hz
   subst hc hnm
   have e:Builtin.Tuple.tupleCompareSizes (cop g) n n=.bool (nilC (cop g)):=by cases g <;> simp [cop,nilC,Builtin.Tuple.tupleCompareSizes]
   show wpAny _ _ (ret (Builtin.Tuple.tupleCompareSizes (cop g) n n)) P E _
   rw [e]
   exact wpAny_pure h
theorem cmp_tuples {g:Cp} {l m:Addr} {o u:Obj} {xs ys:Array Value} {n k:Nat} {c:Bool} (h1:s.heap.get? l=some o) (c1:o.cls=.type "tuple") (d1:o.data=.seq xs n)
   (h2:s.heap.get? m=some u) (c2:u.cls=.type "tuple") (d2:u.data=.seq ys k) (hu:A.units < cLine) (L:LexAt A.in1 s (cop g) xs.toList ys.toList c) (hs:xs.size=ys.size):CmpAt A s (cop g) (.ref l) (.ref m) c:=by
 intro prog w E Q q
 have t1:s.TypeIs (.ref l) "tuple":=⟨o,h1,c1⟩
 have t2:s.TypeIs (.ref m) "tuple":=⟨u,h2,c2⟩
 cases g with
 | lt =>
   refine wpAny_richCompare_same_room (op:=.Lt) t1 t2 F.slot_tuple_lt (wpAny_call_entry F.slot_tuple_lt t1 F.entry_tuple_lt ?_ (F.args_tuple_lt_2 _ _)) hu
   rw [tup_lt_eq]
   refine wpAny_bind (wpAny_isInstance t2 isSubtype_tuple_tuple ?_)
   simp only [Bool.not_true,Bool.false_eq_true,if_false]
   refine wpAny_bind (wpAny_tupleItemsOf h1 d1 (wpAny_bind (wpAny_tupleItemsOf h2 d2 ?_)))
   exact lex_go (g:=.lt) L hs ⟨_,rfl,by simp,q⟩
 | gt =>
   refine wpAny_richCompare_same_room (op:=.Gt) t1 t2 F.slot_tuple_gt (wpAny_call_entry F.slot_tuple_gt t1 F.entry_tuple_gt ?_ (F.args_tuple_gt_2 _ _)) hu
   rw [tup_gt_eq]
   refine wpAny_bind (wpAny_isInstance t2 isSubtype_tuple_tuple ?_)
   simp only [Bool.not_true,Bool.false_eq_true,if_false]
   refine wpAny_bind (wpAny_tupleItemsOf h1 d1 (wpAny_bind (wpAny_tupleItemsOf h2 d2 ?_)))
   exact lex_go (g:=.gt) L hs ⟨_,rfl,by simp,q⟩
 | ge =>
   refine wpAny_richCompare_same_room (op:=.GtE) t1 t2 F.slot_tuple_ge (wpAny_call_entry F.slot_tuple_ge t1 F.entry_tuple_ge ?_ (F.args_tuple_ge_2 _ _)) hu
   rw [tup_ge_eq]
   refine wpAny_bind (wpAny_isInstance t2 isSubtype_tuple_tuple ?_)
   simp only [Bool.not_true,Bool.false_eq_true,if_false]
   refine wpAny_bind (wpAny_tupleItemsOf h1 d1 (wpAny_bind (wpAny_tupleItemsOf h2 d2 ?_)))
   exact lex_go (g:=.ge) L hs ⟨_,rfl,by simp,q⟩
theorem cmp_ints {g:Cp} (a b:Int) (t u:Tok):CmpAt A s (cop g) (.int a t) (.int b u) (gl g (.i a) (.i b)):=by
 intro prog w E Q q
 cases g with
 | lt=>exact lt_int (A:=A) q
 | gt=>exact gt_int (A:=A) q
 | ge =>
   have e:gl .ge (.i a) (.i b)=decide (b <= a):=by
     show (!decide (a < b))=_
     rw [Bool.eq_iff_iff]
     simp only [Bool.not_eq_true',decide_eq_false_iff_not,decide_eq_true_eq,Int.not_lt]
   rw [e] at q
   exact PySem.P.ge_int (A:=A) q
theorem cmp_strs {g:Cp} (a b:Str) (t u:Tok):CmpAt A s (cop g) (.str a t) (.str b u) (gl g (.s a) (.s b)):=by
 intro prog w E Q q
 cases g with
 | lt=>exact lt_str (A:=A) q
 | gt=>exact PySem.P.gt_str (A:=A) q
 | ge=>exact PySem.P.ge_str (A:=A) q
theorem gl_cons {g:Cp} {h t h' t':Ky}:gl g (.cons h t) (.cons h' t')=if h=h' then gl g t t' else gl g h h':=by
 cases g with
 | lt=>show Ky.lt _ _=if h=h' then Ky.lt t t' else Ky.lt h h'; rw [Ky.lt_c]
 | gt =>
   show Ky.lt _ _=if h=h' then Ky.lt t' t else Ky.lt h' h
   rw [Ky.lt_c]
   by_cases e:h=h'
   . rw [if_pos e,if_pos e.symm]
   . rw [if_neg e,if_neg (Ne.symm e)]
 | ge =>
   show (!Ky.lt _ _)=if h=h' then !Ky.lt t t' else !Ky.lt h h'
   rw [Ky.lt_c]
   by_cases e:h=h'
   . rw [if_pos e,if_pos e]
   . rw [if_neg e,if_neg e]
end
theorem rd_i {h:Heap} {a:Value} {n:Int} {as:List Addr} (r:Reads h a (.int n) as):∃ t,a=.int n t:=by cases r; exact ⟨_,rfl⟩
theorem rd_s {h:Heap} {a:Value} {n:Str} {as:List Addr} (r:Reads h a (.str n) as):∃ t,a=.str n t:=by cases r; exact ⟨_,rfl⟩
theorem rd_t {h:Heap} {a:Value} {ds:List PyData} {as:List Addr} (r:Reads h a (.tuple ds) as):∃ (l:Addr) (o:Obj) (vs:Array Value) (n:Nat),a=.ref l /\ h.get? l=some o /\ o.cls=.type "tuple" /\ o.data=.seq vs n /\ ReadsAll h vs.toList ds as:=by
 cases r with
 | tuple a1 a2 a3 a4=>exact ⟨_,_,_,_,rfl,a1,a2,a3,a4⟩
theorem rd_c {h:Heap} {us:List Value} {d:PyData} {ds:List PyData} {as:List Addr} (r:ReadsAll h us (d :: ds) as):∃ u vs a1 a2,us=u :: vs /\ Reads h u d a1 /\ ReadsAll h vs ds a2:=by
 cases r with
 | cons r1 r2=>exact ⟨_,_,_,_,rfl,r1,r2⟩
theorem reads_inj:∀ {x y:Ky} {h:Heap},Ky.ok x=true->Ky.ok y=true->(∀ {a:Value} {as bs:List Addr},Reads h a x.dat as->Reads h a y.dat bs->x=y) /\
   (∀ {us:List Value} {as bs:List Addr},Ky.ok.isRow x=true->Ky.ok.isRow y=true->ReadsAll h us x.row as->ReadsAll h us y.row bs->x=y):=by
 intro x
 induction x with
 | i n =>
   intro y h _ oy
   refine ⟨fun {a as bs} r q=>?_,fun {us as bs} z=>by cases z⟩
   obtain ⟨t,rfl⟩:=rd_i r
   cases y with
   | i m=>obtain ⟨_,e⟩:=rd_i q; cases e; rfl
   | s m=>obtain ⟨_,e⟩:=rd_s q; cases e
   | tt m=>cases oy
   | nil=>obtain ⟨_,_,_,_,e,_⟩:=rd_t q; cases e
   | cons u v=>obtain ⟨_,_,_,_,e,_⟩:=rd_t q; cases e
 | s n =>
   intro y h _ oy
   refine ⟨fun {a as bs} r q=>?_,fun {us as bs} z=>by cases z⟩
   obtain ⟨t,rfl⟩:=rd_s r
   cases y with
   | i m=>obtain ⟨_,e⟩:=rd_i q; cases e
   | s m=>obtain ⟨_,e⟩:=rd_s q; cases e; rfl
   | tt m=>cases oy
   | nil=>obtain ⟨_,_,_,_,e,_⟩:=rd_t q; cases e
   | cons u v=>obtain ⟨_,_,_,_,e,_⟩:=rd_t q; cases e
 | tt n=>intro y h z; cases z
 | nil =>
   intro y h _ oy
   have go:∀ {us:List Value} {as bs:List Addr},Ky.ok.isRow y=true->ReadsAll h us [] as->ReadsAll h us y.row bs->Ky.nil=y:=fun {us as bs} z r q=>by
     cases r
     cases y with
     | nil=>rfl
     | cons u v=>simp only [Ky.row] at q; cases q
     | _=>cases z
   refine ⟨fun {a as bs} r q=>?_,fun {us as bs} _ z r q=>go z (by simpa only [Ky.row] using r) q⟩
   obtain ⟨l,o,vs,n,rfl,a1,a2,a3,a4⟩:=rd_t r
   cases y with
   | nil=>rfl
   | cons u v =>
     obtain ⟨l',o',vs',n',e,b1,b2,b3,b4⟩:=rd_t q
     cases e
     rw [a1] at b1; cases b1
     rw [a3] at b3; cases b3
     exact go rfl a4 b4
   | i n=>obtain ⟨_,e⟩:=rd_i q; cases e
   | s n=>obtain ⟨_,e⟩:=rd_s q; cases e
   | tt n=>cases oy
 | cons u v iu iv =>
   intro y h ox oy
   simp only [Ky.ok_c,Bool.and_eq_true] at ox
   have go:∀ {us:List Value} {as bs:List Addr},Ky.ok.isRow y=true->ReadsAll h us (u.dat :: v.row) as->ReadsAll h us y.row bs->Ky.cons u v=y:=fun {us as bs} z r q=>by
     cases y with
     | nil=>simp only [Ky.row] at q; cases q; cases r
     | cons u' v' =>
       simp only [Ky.ok_c,Bool.and_eq_true] at oy
       simp only [Ky.row] at q
       obtain ⟨_,_,_,_,rfl,r1,r2⟩:=rd_c r
       obtain ⟨_,_,_,_,e,q1,q2⟩:=rd_c q
       cases e
       rw [(iu ox.1.1 oy.1.1).1 r1 q1,(iv ox.1.2 oy.1.2).2 ox.2 oy.2 r2 q2]
     | _=>cases z
   refine ⟨fun {a as bs} r q=>?_,fun {us as bs} _ z r q=>go z (by simpa only [Ky.row] using r) q⟩
   obtain ⟨l,o,vs,n,rfl,a1,a2,a3,a4⟩:=rd_t r
   have tup:∀ {ds:List PyData} {bs:List Addr},Reads h (.ref l) (.tuple ds) bs->ReadsAll h vs.toList ds bs:=fun {ds bs} q=>by
     obtain ⟨l',o',vs',n',e,b1,b2,b3,b4⟩:=rd_t q
     cases e
     rw [a1] at b1; cases b1
     rw [a3] at b3; cases b3
     exact b4
   cases y with
   | nil=>exact go rfl a4 (tup q)
   | cons u' v'=>exact go rfl a4 (tup q)
   | i n=>obtain ⟨_,e⟩:=rd_i q; cases e
   | s n=>obtain ⟨_,e⟩:=rd_s q; cases e
   | tt n=>cases oy
theorem eq_both:∀ (x:Ky),
   (∀ {y:Ky} {A:Around} {s:Shared} {a b:Value} {as bs:List Addr},Ky.shp x y=true->Ky.ok x=true->Ky.ok y=true->Reads s.heap a x.dat as->Reads s.heap b y.dat bs->A.units + x.dep < cLine->EqAt A s a b (decide (x=y))) /\
   (∀ {y:Ky} {A:Around} {s:Shared} {us vs:List Value} {as bs:List Addr},Ky.ok.isRow x=true->Ky.shp x y=true->Ky.ok x=true->Ky.ok y=true->ReadsAll s.heap us x.row as->ReadsAll s.heap vs y.row bs->A.units + x.dep <= cLine ->
     ∀ j (h1:j < us.length) (h2:j < vs.length),EqAt A s us[j] vs[j] (pairEq x.row y.row j)):=by
 have tup:∀ {x y:Ky} {A:Around} {s:Shared} {l m:Addr} {o u:Obj} {xs ys:Array Value} {n k:Nat} {as bs:List Addr},
     (∀ {y:Ky} {A:Around} {s:Shared} {us vs:List Value} {as bs:List Addr},Ky.ok.isRow x=true->Ky.shp x y=true->Ky.ok x=true->Ky.ok y=true->ReadsAll s.heap us x.row as->ReadsAll s.heap vs y.row bs->A.units + x.dep <= cLine ->
       ∀ j (h1:j < us.length) (h2:j < vs.length),EqAt A s us[j] vs[j] (pairEq x.row y.row j)) ->
     Ky.ok.isRow x=true->Ky.ok.isRow y=true->Ky.shp x y=true->Ky.ok x=true->Ky.ok y=true->s.heap.get? l=some o->o.cls=.type "tuple"->o.data=.seq xs n->ReadsAll s.heap xs.toList x.row as ->
     s.heap.get? m=some u->u.cls=.type "tuple"->u.data=.seq ys k->ReadsAll s.heap ys.toList y.row bs->A.units + x.dep < cLine->EqAt A s (.ref l) (.ref m) (decide (x=y)):=by
   intro x y A s l m o u xs ys n k as bs lp hr hr' hs ox oy a1 a2 a3 a4 b1 b2 b3 b4 hu
   by_cases hll:l=m
   . subst hll
     rw [a1] at b1; cases b1
     rw [a3] at b3; cases b3
     rw [decide_eq_true ((reads_inj ox oy).2 hr hr' a4 b4)]
     exact EqAt.same _
   . have n1:xs.size=x.row.length:=by simpa using ReadsAll.length _ _ _ a4
     have n2:ys.size=y.row.length:=by simpa using ReadsAll.length _ _ _ b4
     rw [<- (Ky.eqv_dat hs ox).2 hr,<- eqvAll_eq,<- n1,<- n2]
     refine EqAt.of_refs hll (RcAt.tuples ⟨_,a1,a2,_,a3⟩ ⟨_,b1,b2,_,b3⟩ (by omega) fun j j1 j2=>?_)
     have:=lp (A:=A.in1) hr hs ox oy a4 b4 (by show A.units + 1 + x.dep <= cLine; omega) j (by simpa using j1) (by simpa using j2)
     simpa using this
 intro x
 induction x with
 | i a =>
   refine ⟨fun {y A s a' b' as bs} hs ox oy ra rb hu=>?_,fun {y A s us vs as bs} h=>by cases h⟩
   cases y <;> first | cases hs | skip
   obtain ⟨t,rfl⟩:=rd_i ra
   obtain ⟨u,rfl⟩:=rd_i rb
   rename_i b
   rw [show decide (Ky.i a=Ky.i b)=(a == b) by rw [Bool.eq_iff_iff]; simp]
   exact EqAt.int_int a t b u
 | s a =>
   refine ⟨fun {y A s a' b' as bs} hs ox oy ra rb hu=>?_,fun {y A s us vs as bs} h=>by cases h⟩
   cases y <;> first | cases hs | skip
   obtain ⟨t,rfl⟩:=rd_s ra
   obtain ⟨u,rfl⟩:=rd_s rb
   rename_i b
   rw [show decide (Ky.s a=Ky.s b)=(a == b) by rw [Bool.eq_iff_iff]; simp]
   exact EqAt.str_str a t b u
 | tt a=>exact ⟨fun {y A s a' b' as bs} hs ox=>(by cases ox),fun {y A s us vs as bs} h=>by cases h⟩
 | nil =>
   have lp:∀ {y:Ky} {A:Around} {s:Shared} {us vs:List Value} {as bs:List Addr},Ky.ok.isRow .nil=true->Ky.shp .nil y=true->Ky.ok .nil=true->Ky.ok y=true->ReadsAll s.heap us Ky.nil.row as->ReadsAll s.heap vs y.row bs->A.units + Ky.nil.dep <= cLine ->
       ∀ j (h1:j < us.length) (h2:j < vs.length),EqAt A s us[j] vs[j] (pairEq Ky.nil.row y.row j):=by
     intro y A s us vs as bs _ hs _ _ ra rb _ j h1
     simp only [Ky.row] at ra
     cases ra
     exact absurd h1 (Nat.not_lt_zero _)
   refine ⟨fun {y A s a' b' as bs} hs ox oy ra rb hu=>?_,lp⟩
   cases y <;> first | cases hs | skip
   obtain ⟨_,_,_,_,rfl,a1,a2,a3,a4⟩:=rd_t ra
   obtain ⟨_,_,_,_,rfl,b1,b2,b3,b4⟩:=rd_t rb
   exact tup lp rfl rfl rfl rfl rfl a1 a2 a3 a4 b1 b2 b3 b4 hu
 | cons h t ih it =>
   have lp:∀ {y:Ky} {A:Around} {s:Shared} {us vs:List Value} {as bs:List Addr},Ky.ok.isRow (.cons h t)=true->Ky.shp (.cons h t) y=true->Ky.ok (.cons h t)=true->Ky.ok y=true->ReadsAll s.heap us (Ky.cons h t).row as->ReadsAll s.heap vs y.row bs->A.units + (Ky.cons h t).dep <= cLine ->
       ∀ j (h1:j < us.length) (h2:j < vs.length),EqAt A s us[j] vs[j] (pairEq (Ky.cons h t).row y.row j):=by
     intro y A s us vs as bs _ hs ox oy ra rb hu j h1 h2
     cases y with
     | cons h' t' =>
       simp only [Ky.shp_c,Bool.and_eq_true] at hs
       simp only [Ky.ok_c,Bool.and_eq_true] at ox oy
       simp only [Ky.dep_c] at hu
       simp only [Ky.row] at ra rb ⊢
       . obtain ⟨_,_,_,_,rfl,r,rs⟩:=rd_c ra
         . obtain ⟨_,_,_,_,rfl,r',rs'⟩:=rd_c rb
           cases j with
           | zero =>
             have:=ih.1 (A:=A) hs.1 ox.1.1 oy.1.1 r r' (by omega)
             rw [<- (Ky.eqv_dat hs.1 ox.1.1).1] at this
             exact this
           | succ j=>exact it.2 (A:=A) ox.2 hs.2 ox.1.2 oy.1.2 rs rs' (by omega) j (Nat.lt_of_succ_lt_succ h1) (Nat.lt_of_succ_lt_succ h2)
     | _=>cases hs
   refine ⟨fun {y A s a' b' as bs} hs ox oy ra rb hu=>?_,lp⟩
   cases y with
   | cons h' t' =>
     obtain ⟨_,_,_,_,rfl,a1,a2,a3,a4⟩:=rd_t ra
     obtain ⟨_,_,_,_,rfl,b1,b2,b3,b4⟩:=rd_t rb
     exact tup lp rfl rfl hs ox oy a1 a2 a3 a4 b1 b2 b3 b4 hu
   | _=>cases hs
theorem eq_of_reads {x y:Ky} {A:Around} {s:Shared} {a b:Value} {as bs:List Addr} (h:Ky.shp x y=true) (ox:Ky.ok x=true) (oy:Ky.ok y=true) (ra:Reads s.heap a x.dat as) (rb:Reads s.heap b y.dat bs) (hu:A.units + x.dep < cLine) :
   EqAt A s a b (decide (x=y)):=(eq_both x).1 h ox oy ra rb hu
theorem ky_both (g:Cp):∀ (x:Ky),
   (∀ {y:Ky} {A:Around} {s:Shared} {a b:Value} {as bs:List Addr},Ky.shp x y=true->Ky.ok x=true->Ky.ok y=true->Reads s.heap a x.dat as->Reads s.heap b y.dat bs->A.units + x.dep + 1 < cLine->CmpAt A s (cop g) a b (gl g x y)) /\
   (∀ {y:Ky} {A:Around} {s:Shared} {us vs:List Value} {as bs:List Addr},Ky.ok.isRow x=true->Ky.shp x y=true->Ky.ok x=true->Ky.ok y=true->ReadsAll s.heap us x.row as->ReadsAll s.heap vs y.row bs->A.units + x.dep < cLine ->
     LexAt A s (cop g) us vs (gl g x y) /\ us.length=vs.length):=by
 have tup:∀ {x y:Ky} {A:Around} {s:Shared} {l m:Addr} {o u:Obj} {xs ys:Array Value} {n k:Nat} {as bs:List Addr},
     (∀ {y:Ky} {A:Around} {s:Shared} {us vs:List Value} {as bs:List Addr},Ky.ok.isRow x=true->Ky.shp x y=true->Ky.ok x=true->Ky.ok y=true->ReadsAll s.heap us x.row as->ReadsAll s.heap vs y.row bs->A.units + x.dep < cLine->LexAt A s (cop g) us vs (gl g x y) /\ us.length=vs.length) ->
     Ky.ok.isRow x=true->Ky.shp x y=true->Ky.ok x=true->Ky.ok y=true->s.heap.get? l=some o->o.cls=.type "tuple"->o.data=.seq xs n->ReadsAll s.heap xs.toList x.row as ->
     s.heap.get? m=some u->u.cls=.type "tuple"->u.data=.seq ys k->ReadsAll s.heap ys.toList y.row bs->A.units + x.dep + 1 < cLine->CmpAt A s (cop g) (.ref l) (.ref m) (gl g x y):=by
   intro x y A s l m o u xs ys n k as bs lp hr hs ox oy a1 a2 a3 a4 b1 b2 b3 b4 hu
   obtain ⟨L,hl⟩:=lp (A:=A.in1) hr hs ox oy a4 b4 (by show A.units + 1 + x.dep < cLine; omega)
   exact cmp_tuples a1 a2 a3 b1 b2 b3 (by omega) L (by simpa using hl)
 intro x
 induction x with
 | i a =>
   refine ⟨fun {y A s a' b' as bs} hs ox oy ra rb hu=>?_,fun {y A s us vs as bs} h=>by cases h⟩
   cases y <;> first | cases hs | skip
   obtain ⟨t,rfl⟩:=rd_i ra
   obtain ⟨u,rfl⟩:=rd_i rb
   exact cmp_ints _ _ _ _
 | s a =>
   refine ⟨fun {y A s a' b' as bs} hs ox oy ra rb hu=>?_,fun {y A s us vs as bs} h=>by cases h⟩
   cases y <;> first | cases hs | skip
   obtain ⟨t,rfl⟩:=rd_s ra
   obtain ⟨u,rfl⟩:=rd_s rb
   exact cmp_strs _ _ _ _
 | tt a=>exact ⟨fun {y A s a' b' as bs} hs ox=>(by cases ox),fun {y A s us vs as bs} h=>by cases h⟩
 | nil =>
   have lp:∀ {y:Ky} {A:Around} {s:Shared} {us vs:List Value} {as bs:List Addr},Ky.ok.isRow .nil=true->Ky.shp .nil y=true->Ky.ok .nil=true->Ky.ok y=true->ReadsAll s.heap us Ky.nil.row as->ReadsAll s.heap vs y.row bs->A.units + Ky.nil.dep < cLine ->
       LexAt A s (cop g) us vs (gl g .nil y) /\ us.length=vs.length:=by
     intro y A s us vs as bs _ hs _ _ ra rb _
     cases y <;> first | cases hs | skip
     simp only [Ky.row] at ra rb
     cases ra; cases rb
     exact ⟨by cases g <;> exact .nil,rfl⟩
   refine ⟨fun {y A s a' b' as bs} hs ox oy ra rb hu=>?_,lp⟩
   cases y <;> first | cases hs | skip
   obtain ⟨_,_,_,_,rfl,a1,a2,a3,a4⟩:=rd_t ra
   obtain ⟨_,_,_,_,rfl,b1,b2,b3,b4⟩:=rd_t rb
   exact tup lp rfl rfl rfl rfl a1 a2 a3 a4 b1 b2 b3 b4 hu
 | cons h t ih it =>
   have lp:∀ {y:Ky} {A:Around} {s:Shared} {us vs:List Value} {as bs:List Addr},Ky.ok.isRow (.cons h t)=true->Ky.shp (.cons h t) y=true->Ky.ok (.cons h t)=true->Ky.ok y=true->ReadsAll s.heap us (Ky.cons h t).row as->ReadsAll s.heap vs y.row bs->A.units + (Ky.cons h t).dep < cLine ->
       LexAt A s (cop g) us vs (gl g (.cons h t) y) /\ us.length=vs.length:=by
     intro y A s us vs as bs _ hs ox oy ra rb hu
     cases y with
     | cons h' t' =>
       simp only [Ky.shp_c,Bool.and_eq_true] at hs
       simp only [Ky.ok_c,Bool.and_eq_true] at ox oy
       simp only [Ky.dep_c] at hu
       simp only [Ky.row] at ra rb
       . obtain ⟨_,_,_,_,rfl,r,rs⟩:=rd_c ra
         . obtain ⟨_,_,_,_,rfl,r',rs'⟩:=rd_c rb
           have eq:=eq_of_reads (A:=A) hs.1 ox.1.1 oy.1.1 r r' (by omega)
           rw [gl_cons]
           by_cases e:h=h'
           . rw [decide_eq_true e] at eq
             rw [if_pos e]
             obtain ⟨L,l⟩:=it.2 (A:=A) ox.2 hs.2 ox.1.2 oy.1.2 rs rs' (by omega)
             exact ⟨.same eq L,by simp [l]⟩
           . rw [decide_eq_false e] at eq
             rw [if_neg e]
             refine ⟨.diff eq (ih.1 hs.1 ox.1.1 oy.1.1 r r' (by omega)),?_⟩
             have l1:=ReadsAll.length _ _ _ rs
             have l2:=ReadsAll.length _ _ _ rs'
             have rowlen:∀ {a b:Ky},Ky.shp a b=true->a.row.length=b.row.length:=by
               intro a
               induction a with
               | cons u v iu iv =>
                 intro b e
                 cases b with
                 | cons u' v' =>
                   simp only [Ky.shp_c,Bool.and_eq_true] at e
                   simp only [Ky.row,List.length_cons,iv e.2]
                 | _=>cases e
               | _=>intro b e; cases b <;> first | rfl | cases e
             simp [l1,l2,rowlen hs.2]
     | _=>cases hs
   refine ⟨fun {y A s a' b' as bs} hs ox oy ra rb hu=>?_,lp⟩
   cases y with
   | cons h' t' =>
     obtain ⟨_,_,_,_,rfl,a1,a2,a3,a4⟩:=rd_t ra
     obtain ⟨_,_,_,_,rfl,b1,b2,b3,b4⟩:=rd_t rb
     exact tup lp rfl hs ox oy a1 a2 a3 a4 b1 b2 b3 b4 hu
   | _=>cases hs
noncomputable def KR (s:Shared) (v:Value) (k:Ky):Prop:=Ky.ok k=true /\ ∃ as,Reads s.heap v k.dat as
theorem KR.inj {s:Shared} {v:Value} {k k':Ky} (h:KR s v k) (h':KR s v k'):k=k':=by
 obtain ⟨o,as,r⟩:=h
 obtain ⟨o',as',r'⟩:=h'
 exact (reads_inj o o').1 r r'
open Classical in
noncomputable def keyAt (s:Shared) (v:Value):Ky:=if h:∃ k,KR s v k then h.choose else .nil
theorem keyAt_eq {s:Shared} {v:Value} {k:Ky} (h:KR s v k):keyAt s v=k:=by
 unfold keyAt
 have e:∃ k,KR s v k:=⟨k,h⟩
 rw [dif_pos e]
 exact e.choose_spec.inj h
noncomputable def OneAt (A:Around) (s:Shared) (one:Bool) (x y:Value) (c:Bool):Prop :=
 ∀ (prog:Program) (w:World) (E:Value->Shared->Prop) (Q:Bool->Shared->Prop),Q c s->wpAny (model prog w) A (oneLt' one x y) Q E s
theorem CmpAt.one {A:Around} {s:Shared} {x y:Value} {c:Bool} (h:CmpAt A s .Lt x y c):OneAt A s false x y c:=fun prog w E Q q=>by
 rw [oneLt'_eq]
 simp only [Bool.false_eq_true,if_false]
 exact wpAny_bind (h prog w _ _ (wpAny_truthy_bool q))
inductive LexO (A:Around) (s:Shared):Bool->List Value->List Value->Bool->Prop
 | nil {one}:LexO A s one [] [] false
 | same {one x y xs ys c}:EqAt A s x y true->LexO A s false xs ys c->LexO A s one (x :: xs) (y :: ys) c
 | diff {one x y xs ys c}:EqAt A s x y false->OneAt A s one x y c->LexO A s one (x :: xs) (y :: ys) c
theorem LexAt.o {A:Around} {s:Shared} {xs ys:List Value} {c:Bool} (h:LexAt A s .Lt xs ys c):LexO A s false xs ys c:=by
 induction h with
 | nil=>exact .nil
 | same e _ ih=>exact .same e ih
 | diff e c=>exact .diff e c.one
theorem keyLt'_tuples (fb:Bool) (x y:Value):keyLt' (tuples' fb) x y=(do
   let xs <- Builtin.List.listItems x; let ys <- Builtin.List.listItems y
   for ((p,q),i) in (xs.toList.zip ys.toList).zipIdx do
     if !(<- eqBool p q) then return <- oneLt' (fb && i == 0) p q
   return xs.size < ys.size):=rfl
theorem lt_rows {A:Around} {s:Shared} {fb:Bool} {l m:Addr} {o u:Obj} {xs ys:Array Value} {n k:Nat} {c:Bool} (h1:s.heap.get? l=some o) (d1:o.data=.seq xs n) (h2:s.heap.get? m=some u) (d2:u.data=.seq ys k)
   (L:LexO A s fb xs.toList ys.toList c) (hs:xs.size=ys.size) {prog:Program} {w:World} {E:Value->Shared->Prop} {Q:Bool->Shared->Prop} (q:Q c s):wpAny (model prog w) A (keyLt' (tuples' fb) (.ref l) (.ref m)) Q E s:=by
 rw [keyLt'_tuples]
 refine wpAny_bind (listItems_at h1 d1 (wpAny_bind (listItems_at h2 d2 (wpAny_bind ?_))))
 refine wpAny_forIn_list _ (fun rest r z=>r.1=none /\ z=s /\ ∃ us' vs' i one,rest=(us'.zip vs').zipIdx i /\ (fb && i == 0)=one /\ LexO A s one us' vs' c) _ ?_ ?_ _ _ ⟨rfl,rfl,xs.toList,ys.toList,0,fb,rfl,by simp,L⟩
 . rintro ⟨⟨x,y⟩,i'⟩ rest r z ⟨hr,rfl,us',vs',i,one,hz,ho,L'⟩
   cases L' with
   | nil=>simp at hz
   | same e L2 =>
     simp only [List.zip_cons_cons,List.zipIdx_cons,List.cons.injEq,Prod.mk.injEq] at hz
     obtain ⟨⟨⟨rfl,rfl⟩,rfl⟩,rfl⟩:=hz
     refine wpAny_bind (e prog w _ _ ?_)
     exact wpAny_pure ⟨rfl,rfl,_,_,_,false,rfl,by simp,L2⟩
   | diff e cm =>
     simp only [List.zip_cons_cons,List.zipIdx_cons,List.cons.injEq,Prod.mk.injEq] at hz
     obtain ⟨⟨⟨rfl,rfl⟩,rfl⟩,rfl⟩:=hz
     refine wpAny_bind (e prog w _ _ ?_)
     rw [<- ho] at cm
     exact wpAny_bind (cm prog w _ _ (wpAny_pure (wpAny_pure q)))
 . rintro ⟨r1,r2⟩ z ⟨hr,rfl,us',vs',i,one,hz,ho,L'⟩
   simp only at hr
   subst hr
   have hc:c=false:=by
     cases L' with
     | nil=>rfl
     | same _ _=>simp at hz
     | diff _ _=>simp at hz
   subst hc
   refine wpAny_pure ?_
   rw [hs]
   simpa using q
noncomputable def tyK:Ky->String
 | .i _=>"int"
 | .s _=>"str"
 | .tt _=>"bool"
 | _=>"tuple"
noncomputable def kdOf:Ky->SortKind
 | .cons h _=>tuples' (Value.type (tyK h) != Value.type "tuple")
 | _=>oneType'
noncomputable def fit:Ky->Bool
 | .i _=>true
 | .s _=>true
 | .cons h _=>match h with | .i _ | .s _ | .cons _ _=>true | _=>false
 | _=>false
theorem ky_lt {x y:Ky} {A:Around} {s:Shared} {a b:Value} (hx:KR s a x) (hy:KR s b y) (hs:Ky.shp x y=true) (hf:fit x=true) (hu:A.units + x.dep + 1 < cLine) {prog:Program} {w:World} {E:Value->Shared->Prop} {Q:Bool->Shared->Prop}
   (q:Q (Ky.lt x y) s):wpAny (model prog w) A (keyLt' (kdOf x) a b) Q E s:=by
 obtain ⟨ox,as,ra⟩:=hx
 obtain ⟨oy,bs,rb⟩:=hy
 cases x with
 | i n =>
   cases y <;> first | cases hs | skip
   obtain ⟨t,rfl⟩:=rd_i ra
   obtain ⟨u,rfl⟩:=rd_i rb
   exact oneLt_int q
 | s n =>
   cases y <;> first | cases hs | skip
   obtain ⟨t,rfl⟩:=rd_s ra
   obtain ⟨u,rfl⟩:=rd_s rb
   exact oneLt_str q
 | tt v=>cases hf
 | nil=>cases hf
 | cons h t =>
   cases y with
   | cons h' t' =>
     . obtain ⟨_,_,_,_,rfl,a1,a2,a3,a4⟩:=rd_t ra
       . obtain ⟨_,_,_,_,rfl,b1,b2,b3,b4⟩:=rd_t rb
         have L:=(ky_both .lt (.cons h t)).2 (A:=A) rfl hs ox oy a4 b4 (by omega)
         refine lt_rows a1 a3 b1 b3 ?_ (by simpa using L.2) q
         simp only [Ky.shp_c,Bool.and_eq_true] at hs
         simp only [Ky.ok_c,Bool.and_eq_true] at ox oy
         simp only [Ky.dep_c] at hu
         clear L
         generalize Array.toList _=us0 at a4 ⊢
         generalize Array.toList _=vs0 at b4 ⊢
         . obtain ⟨_,_,_,_,rfl,r,rs⟩:=rd_c a4
           . obtain ⟨_,_,_,_,rfl,r',rs'⟩:=rd_c b4
             have eq:=eq_of_reads (A:=A) hs.1 ox.1.1 oy.1.1 r r' (by omega)
             have rest:=(ky_both .lt t).2 (A:=A) ox.2 hs.2 ox.1.2 oy.1.2 rs rs' (by omega)
             show LexO A s _ _ _ (Ky.lt (.cons h t) (.cons h' t'))
             simp only [Ky.lt_c]
             by_cases e:h=h'
             . rw [decide_eq_true e] at eq
               rw [if_pos e]
               exact .same eq rest.1.o
             . rw [decide_eq_false e] at eq
               rw [if_neg e]
               refine .diff eq ?_
               cases h with
               | i n =>
                 cases h' <;> first | cases hs.1 | skip
                 obtain ⟨t,rfl⟩:=rd_i r
                 obtain ⟨u,rfl⟩:=rd_i r'
                 exact fun prog w E Q q=>oneLt_int q
               | s n =>
                 cases h' <;> first | cases hs.1 | skip
                 obtain ⟨t,rfl⟩:=rd_s r
                 obtain ⟨u,rfl⟩:=rd_s r'
                 exact fun prog w E Q q=>oneLt_str q
               | tt v=>cases hf
               | nil=>cases hf
               | cons h2 t2=>exact CmpAt.one ((ky_both .lt (.cons h2 t2)).1 (A:=A) hs.1 ox.1.1 oy.1.1 r r' (by omega))
   | _=>cases hs
end S6
namespace S6
open PySem PyProof.Rows PySem.SeqAt
theorem Ky.shp_trans:∀ {a b c:Ky},Ky.shp a b=true->Ky.shp b c=true->Ky.shp a c=true:=by
 intro a
 induction a with
 | cons u v iu iv =>
   intro b c e f
   cases b <;> first | cases e | skip
   cases c <;> first | cases f | skip
   simp only [Ky.shp_c,Bool.and_eq_true] at *
   exact ⟨iu e.1 f.1,iv e.2 f.2⟩
 | _ =>
        intro b c e f; cases b <;> first | cases e | skip
        all_goals (cases c <;> first | cases f | skip)
        all_goals rfl
theorem Ky.shp_dep:∀ {a b:Ky},Ky.shp a b=true->a.dep=b.dep:=by
 intro a
 induction a with
 | cons u v iu iv =>
   intro b e
   cases b <;> first | cases e | skip
   simp only [Ky.shp_c,Bool.and_eq_true] at e
   simp only [Ky.dep_c,iu e.1,iv e.2]
 | _=>intro b e; cases b <;> first | rfl | cases e
theorem shp_ty {a b:Ky} (e:Ky.shp a b=true):tyK b=tyK a:=by
 cases a <;> cases b <;> first | rfl | cases e
theorem shp_kd {a b:Ky} (e:Ky.shp a b=true):kdOf b=kdOf a:=by
 cases a with
 | cons h t =>
   cases b with
   | cons h' t' =>
     simp only [Ky.shp_c,Bool.and_eq_true] at e
     simp only [kdOf,shp_ty e.1]
   | _=>cases e
 | _=>cases b <;> first | rfl | cases e
theorem shp_fit {a b:Ky} (e:Ky.shp a b=true) (hf:fit a=true):fit b=true:=by
 cases a with
 | cons h t =>
   cases b with
   | cons h' t' =>
     simp only [Ky.shp_c,Bool.and_eq_true] at e
     have e1:=e.1
     cases h <;> cases h' <;> first | rfl | (cases hf; done) | (cases e1; done)
   | _=>cases e
 | _=>cases b <;> first | rfl | (cases hf; done) | (cases e; done)
section
variable {M:Model} {A:Around} {E:Value->Shared->Prop} {s:Shared}
theorem wp_mapM {α β:Type} {f:α->Sem β} {g:α->β}:∀ {l:List α} {Q:List β->Shared->Prop},(∀ v ∈ l,∀ Q':β->Shared->Prop,Q' (g v) s->wpAny M A (f v) Q' E s)->Q (l.map g) s->wpAny M A (l.mapM f) Q E s
 | [],Q,_,q=>by rw [List.mapM_nil]; exact wpAny_pure q
 | v :: l,Q,h,q=>by
   rw [List.mapM_cons]
   refine wpAny_bind (h v (List.mem_cons_self ..) _ (wpAny_bind (wp_mapM (fun u hu=>h u (List.mem_cons_of_mem _ hu)) (wpAny_pure ?_))))
   exact q
theorem KR.ty {v:Value} {k:Ky} (h:KR s v k):s.TypeIs v (tyK k):=by
 obtain ⟨_,as,r⟩:=h
 cases k <;> simp only [Ky.dat] at r <;> cases r
 . exact typeIs_int s _ _
 . exact typeIs_str s _ _
 . exact PySem.typeIs_bool s _
 . exact ⟨_,‹_›,‹_›⟩
 . exact ⟨_,‹_›,‹_›⟩
theorem wp_oneType {l:List Value} {T:String} {Q:Option Value->Shared->Prop} (h0:l ≠ []) (h:∀ u ∈ l,s.TypeIs u T) (q:Q (some (.type T)) s):wpAny M A (oneTypeOnly' l.toArray) Q E s:=by
 rw [oneTypeOnly'_eq,List.mapM_toArray,map_eq_pure_bind]
 refine wpAny_bind (wpAny_bind (wp_mapM (g:=fun _=>Value.type T) (fun u hu Q' q'=>wpAny_typeOf (h u hu) q') (wpAny_pure ?_)))
 cases l with
 | nil=>exact (h0 rfl).elim
 | cons v l =>
   have e0:(List.map (fun _:Value=>Value.type T) (v :: l)).toArray[0]?=some (Value.type T):=by simp
   have ea:((List.map (fun _:Value=>Value.type T) (v :: l)).toArray.all fun x=>x == Value.type T)=true:=by
     simp only [List.all_toArray,List.all_map,List.all_eq_true]
     intro _ _
     show (Value.type T == Value.type T)=true
     exact beq_self_eq_true _
   rw [e0]
   simp only [ea,if_true]
   exact wpAny_pure q
theorem firstOfTuple'_eq (v:Value):firstOfTuple' v=(do
   if (<- typeOf v) != .type "tuple" then return none
   return (<- Builtin.List.listItems v)[0]?):=rfl
noncomputable def hd1 (s:Shared):Value->Option Value
 | .ref a=>match s.heap.get? a with
   | some o=>match o.data with
     | .seq xs _=>xs[0]?
     | _=>none
   | none=>none
 | _=>none
theorem wp_keyKind {vs:List Value} {k0:Ky} {Q:SortKind->Shared->Prop} (h0:vs ≠ []) (hf:fit k0=true) (hk:∀ v ∈ vs,∃ k,KR s v k /\ Ky.shp k0 k=true) (q:Q (kdOf k0) s):wpAny M A (keyKind' vs.toArray) Q E s:=by
 rw [keyKind'_eq,List.mapM_toArray,map_eq_pure_bind]
 have flat:∀ T:String,(Value.type T != Value.type "tuple")=true->(∀ v ∈ vs,s.TypeIs v T)->kdOf k0=oneType'->wpAny M A (do
     let firsts <- vs.mapM firstOfTuple' >>= fun x=>pure x.toArray
     if firsts.all (·.isSome) then
       rule "list.sort.keys-are-tuples"
       return tuples' ((<- oneTypeOnly' (firsts.filterMap id)).any (· != .type "tuple"))
     if (firsts[0]?.bind id).isSome then return general'
     return if (<- oneTypeOnly' vs.toArray).isSome then oneType' else general') Q E s:=by
   intro T hT ht hkd
   refine wpAny_bind (wpAny_bind (wp_mapM (g:=fun _=>none) (fun v hv Q' q'=>?_) (wpAny_pure ?_)))
   . rw [firstOfTuple'_eq]
     refine wpAny_bind (wpAny_typeOf (ht v hv) ?_)
     rw [if_pos hT]
     exact wpAny_pure q'
   . cases vs with
     | nil=>exact (h0 rfl).elim
     | cons v l =>
       rw [if_neg (by simp),if_neg (by simp)]
       refine wpAny_bind (wp_oneType (by simp) ht ?_)
       rw [hkd] at q
       exact wpAny_pure q
 cases k0 with
 | tt v=>cases hf
 | nil=>cases hf
 | i n =>
   refine flat "int" (by decide) (fun v hv=>?_) rfl
   obtain ⟨k,r,e⟩:=hk v hv
   cases k <;> first | exact r.ty | cases e
 | s n =>
   refine flat "str" (by decide) (fun v hv=>?_) rfl
   obtain ⟨k,r,e⟩:=hk v hv
   cases k <;> first | exact r.ty | cases e
 | cons h t =>
   have each:∀ v ∈ vs,∃ a o xs n u,v=.ref a /\ s.heap.get? a=some o /\ o.cls=.type "tuple" /\ o.data=.seq xs n /\ xs[0]?=some u /\ s.TypeIs u (tyK h):=by
     intro v hv
     obtain ⟨k,⟨ok,as,r⟩,e⟩:=hk v hv
     cases k with
     | cons h' t' =>
       simp only [Ky.dat] at r
       cases r with
       | tuple a1 a2 a3 a4 =>
         rename_i xs n
         generalize hl:xs.toList=l at a4
         cases a4 with
         | cons r rs =>
           rename_i u us _ _
           simp only [Ky.ok_c,Bool.and_eq_true] at ok
           simp only [Ky.shp_c,Bool.and_eq_true] at e
           have ty:s.TypeIs u (tyK h'):=KR.ty ⟨ok.1.1,_,r⟩
           have et:tyK h'=tyK h:=shp_ty e.1
           refine ⟨_,_,xs,_,u,rfl,a1,a2,a3,?_,et ▸ ty⟩
           rw [<- Array.getElem?_toList,hl]; rfl
     | _=>cases e
   have gh:∀ v ∈ vs,∃ u,hd1 s v=some u /\ s.TypeIs u (tyK h):=by
     intro v hv
     obtain ⟨a,o,xs,n,u,rfl,h1,_,h3,h4,h5⟩:=each v hv
     exact ⟨u,by simp only [hd1,h1,h3,h4],h5⟩
   refine wpAny_bind (wpAny_bind (wp_mapM (g:=hd1 s) (fun v hv Q' q'=>?_) (wpAny_pure ?_)))
   . obtain ⟨a,o,xs,n,u,rfl,h1,h2,h3,h4,h5⟩:=each v hv
     rw [firstOfTuple'_eq]
     refine wpAny_bind (wpAny_typeOf (T:="tuple") ⟨o,h1,h2⟩ ?_)
     rw [if_neg (by decide)]
     refine wpAny_bind (listItems_at h1 h3 (wpAny_pure ?_))
     simpa only [hd1,h1,h3] using q'
   . have all:(List.map (hd1 s) vs).toArray.all (·.isSome)=true:=by
       simp only [List.all_toArray,List.all_map,List.all_eq_true]
       intro v hv
       obtain ⟨u,e,_⟩:=gh v hv
       show (hd1 s v).isSome=true
       rw [e]; rfl
     rw [if_pos all]
     refine wpAny_bind (wpAny_rule ?_)
     have fm:(List.map (hd1 s) vs).toArray.filterMap id=((List.map (hd1 s) vs).filterMap id).toArray:=by simp
     rw [fm]
     refine wpAny_bind (wp_oneType (T:=tyK h) ?_ (fun u hu=>?_) (wpAny_pure q))
     . cases vs with
       | nil=>exact (h0 rfl).elim
       | cons v l =>
         obtain ⟨u,e,_⟩:=gh v (List.mem_cons_self ..)
         simp [e]
     . rw [List.mem_filterMap] at hu
       obtain ⟨x,hx,ex⟩:=hu
       rw [List.mem_map] at hx
       obtain ⟨v,hv,rfl⟩:=hx
       obtain ⟨u',e,ht⟩:=gh v hv
       rw [show id (hd1 s v)=hd1 s v from rfl,e] at ex
       cases ex; exact ht
end
theorem sort_core {α:Type} {prog:Program} {w:World} {A:Around} {E:Value->Shared->Prop} {s:Shared} {ks us:List Value} {k0:Ky} {rest:Unit × SortSt->Sem α} {Q:α->Shared->Prop} (hl:ks.length=us.length) (h64:us.length < 64) (hf:fit k0=true)
   (hk:∀ v ∈ ks,∃ k,KR s v k /\ Ky.shp k0 k=true) (hu:A.units + k0.dep + 1 < cLine)
   (h:∀ st:SortSt,(arrOf st).Perm (ks.toArray.zip us.toArray)->failedOf st=none->(∀ i j (hj:j < (arrOf st).size) (hi:i < (arrOf st).size),i <= j->Ky.lt (keyAt s (arrOf st)[j].1) (keyAt s (arrOf st)[i].1)=false)->wpAny (model prog w) A (rest ((),st)) Q E s) :
   wpAny (model prog w) A (do
     let kind <- if us.toArray.size < 2 then pure general' else keyKind' ks.toArray
     let r <- (if us.toArray.size < 2 then pure () else sortRuns').run (SortSt.mk' kind (ks.toArray.zip us.toArray) #[] 7 none)
     rest r) Q E s:=by
 have sz:(ks.toArray.zip us.toArray).size=us.length:=by simp [hl]
 by_cases h2:us.toArray.size < 2
 . rw [if_pos h2,if_pos h2]
   refine wpAny_bind (wpAny_pure ?_)
   dsimp only
   rw [StateT.run_pure]
   refine wpAny_bind (wpAny_pure (h _ (Array.Perm.refl _) rfl fun i j hj hi ij=>?_))
   have e:i=j:=by
     have:j < (ks.toArray.zip us.toArray).size:=hj
     rw [sz] at this
     simp only [List.size_toArray] at h2
     omega
   subst e
   exact Ky.irr _
 . rw [if_neg h2,if_neg h2]
   simp only [List.size_toArray] at h2
   refine wpAny_bind (wp_keyKind (k0:=k0) (by intro e; rw [e] at hl; simp at hl; omega) hf hk ?_)
   have key:∀ v ∈ ks,KR s v (keyAt s v) /\ Ky.shp k0 (keyAt s v)=true:=fun v hv=>by
     obtain ⟨k,r,e⟩:=hk v hv
     rw [keyAt_eq r]; exact ⟨r,e⟩
   have mem:∀ p ∈ (ks.toArray.zip us.toArray).toList,p.1 ∈ ks:=fun p hp=>by
     rw [show (ks.toArray.zip us.toArray).toList=ks.zip us by simp] at hp
     exact (List.of_mem_zip hp).1
   have shp2:∀ x ∈ ks.map (keyAt s),∀ y ∈ ks.map (keyAt s),Ky.shp x y=true:=fun x hx y hy=>by
     rw [List.mem_map] at hx hy
     obtain ⟨v,hv,rfl⟩:=hx
     obtain ⟨v',hv',rfl⟩:=hy
     exact Ky.shp_trans (Ky.shp_symm (key v hv).2) (key v' hv').2
   let ρ:Keyed->Nat:=fun p=>rnk (ks.map (keyAt s)) (keyAt s p.1)
   have C:Cm prog w A s (kdOf k0) (ks.toArray.zip us.toArray) ρ:=fun x y hx hy E' Q' q'=>by
     have mx:=mem x hx
     have my:=mem y hy
     have q2:Q' (Ky.lt (keyAt s x.1) (keyAt s y.1)) s:=by
       rw [<- rnk_lt shp2 (List.mem_map_of_mem mx) (List.mem_map_of_mem my)]; exact q'
     rw [<- shp_kd (key x.1 mx).2]
     refine ky_lt (key x.1 mx).1 (key y.1 my).1 (shp2 _ (List.mem_map_of_mem mx) _ (List.mem_map_of_mem my)) (shp_fit (key x.1 mx).2 hf) ?_ q2
     rw [<- Ky.shp_dep (key x.1 mx).2]; exact hu
   refine wpAny_bind (wpAny_mono (s_runs (E:=E) (st:=SortSt.mk' (kdOf k0) (ks.toArray.zip us.toArray) #[] 7 none) (Q:=fun _ z=>(arrOf z).Perm (ks.toArray.zip us.toArray) /\ failedOf z=none /\ Up ρ (arrOf z) (ks.toArray.zip us.toArray).size) C ⟨Array.Perm.refl _,rfl,rfl,rfl⟩ (by rw [sz]; omega) (by rw [sz]; exact h64)
     fun z a1 a2 a3=>⟨a1,a2,a3⟩) ?_ fun _ _ e=>e)
   rintro ⟨⟨⟩,z⟩ s' ⟨rfl,zp,zf,zu⟩
   refine h z zp zf fun i j hj hi ij=>?_
   have up:=zu i j ij (by rw [<- zp.size_eq]; exact hj)
   have mz:∀ k (hk:k < (arrOf z).size),(arrOf z)[k].1 ∈ ks:=fun k hk=>mem _ ((Array.perm_iff_toList_perm.mp zp).mem_iff.mp (by simp))
   have e1:∀ k (hk:k < (arrOf z).size),rk ρ (arrOf z) k=ρ (arrOf z)[k]:=fun k hk=>by unfold rk; rw [getElem?_pos _ k hk]; rfl
   rw [e1 i hi,e1 j hj] at up
   rw [<- rnk_lt shp2 (List.mem_map_of_mem (mz j hj)) (List.mem_map_of_mem (mz i hi))]
   exact decide_eq_false (Nat.not_lt.mpr up)
end S6
namespace T2
open PySem PySem.Spec PyProof.Rows L2 S6
mutual
noncomputable def tre:Ky->T
 | .i n=>.int n
 | .s x=>.str x
 | .tt v=>.bl v
 | .nil=>.tup []
 | .cons h t=>.tup (tre h :: trow t)
noncomputable def trow:Ky->List T
 | .cons h t=>tre h :: trow t
 | _=>[]
end
theorem datT_tre:∀ k:Ky,datT (tre k)=some k.dat /\ datsT (trow k)=some k.row
 | .i n=>⟨rfl,rfl⟩
 | .s n=>⟨rfl,rfl⟩
 | .tt n=>⟨rfl,rfl⟩
 | .nil=>⟨rfl,rfl⟩
 | .cons h t=>by
   have h1:=(datT_tre h).1
   have h2:=(datT_tre t).2
   exact ⟨by show (datsT (tre h :: trow t)).map PyData.tuple=_; rw [datsT_c h1 h2]; rfl,datsT_c h1 h2⟩
theorem kr_of {X:Cx} {K:Fg} {pins:List (Addr × Obj)} {σ:L2.St} {H:Hp} {S:Sto} {s:Shared} {k:Ky} {v:V} {u:Value} (hK:X.K=K) (I:Inv X pins σ H s) (r:Rp K H S (tre k) v) (rv:RelV v u) (ok:Ky.ok k=true):KR s u k:=by
 subst hK
 exact ⟨ok,reads_of I (datT_ok r (datT_tre k).1) rv⟩
theorem perm_map {α β:Type} (f:α->β) {m n:List β} (h:m.Perm n):∀ {l:List α},n=l.map f->∃ l':List α,l'.Perm l /\ m=l'.map f:=by
 induction h with
 | nil =>
   intro l e
   exact ⟨[],by rw [List.map_eq_nil_iff.mp e.symm],rfl⟩
 | cons x _ ih =>
   intro l e
   cases l with
   | nil=>cases e
   | cons a l =>
     simp only [List.map_cons,List.cons.injEq] at e
     obtain ⟨l',p,q⟩:=ih e.2
     exact ⟨a :: l',p.cons a,by rw [List.map_cons,q,e.1]⟩
 | swap x y z =>
   intro l e
   cases l with
   | nil=>cases e
   | cons a l =>
     cases l with
     | nil=>simp at e
     | cons b l =>
       simp only [List.map_cons,List.cons.injEq] at e
       exact ⟨b :: a :: l,List.Perm.swap a b l,by rw [List.map_cons,List.map_cons,e.1,e.2.1,e.2.2]⟩
 | trans _ _ ih1 ih2 =>
   intro l e
   obtain ⟨l',p,q⟩:=ih2 e
   obtain ⟨l2,p2,q2⟩:=ih1 q
   exact ⟨l2,p2.trans p,q2⟩
structure Rec where
 t:T
 v:V
 u:Value
 ku:Value
section
variable {X:Cx} {K:Fg} {pins:List (Addr × Obj)} {σ:L2.St} {H H':Hp} {S:Sto} {s:Shared}
theorem recs_of:∀ {ts:List T} {vs:List V} {us ks:List Value},Rps K H S ts vs->Vals vs us->ks.length=us.length->∃ R:List Rec,R.map (·.t)=ts /\ R.map (·.v)=vs /\ R.map (·.u)=us /\ R.map (·.ku)=ks /\ ∀ r ∈ R,Rp K H S r.t r.v /\ RelV r.v r.u
 | _,_,_,[],.nil,.nil,_=>⟨[],rfl,rfl,rfl,rfl,fun _ h=>by cases h⟩
 | _,_,_,_ :: _,.nil,.nil,h=>by simp at h
 | _,_,_,[],.cons _ _,.cons _ _,h=>by simp at h
 | t :: ts,v :: vs,u :: us,k :: ks,.cons a b,.cons c d,h=>by
   obtain ⟨R,e1,e2,e3,e4,e5⟩:=recs_of b d (by simpa using h)
   refine ⟨⟨t,v,u,k⟩ :: R,by simp [e1],by simp [e2],by simp [e3],by simp [e4],fun r hr=>?_⟩
   rcases List.mem_cons.mp hr with rfl | hr
   . exact ⟨a,c⟩
   . exact e5 r hr
theorem rps_recs:∀ {R:List Rec},(∀ r ∈ R,Rp K H S r.t r.v /\ RelV r.v r.u)->Rps K H S (R.map (·.t)) (R.map (·.v)) /\ Vals (R.map (·.v)) (R.map (·.u))
 | [],_=>⟨.nil,.nil⟩
 | r :: R,h=>by
   obtain ⟨a,b⟩:=h r (List.mem_cons_self ..)
   obtain ⟨c,d⟩:=rps_recs fun x hx=>h x (List.mem_cons_of_mem _ hx)
   exact ⟨.cons a c,.cons b d⟩
end
theorem call_entry_kw {prog:Program} {w:World} {A:Around} {E:Value->Shared->Prop} {s:Shared} {Ty:String} {name:Str} {id:String} {b:Builtin} {self:Value} {rest:List Value} {kw:List (Str × Value)} {Q:Value->Shared->Prop} (h:Slot Ty name id) (hT:s.TypeIs self Ty)
   (hb:entryFor table id=some b) (hc:wpAny (model prog w) A.in1 (b ⟨self :: rest,kw⟩) (fun fin s'=>∃ v,fin=.done (.ret v) /\ Q v s') E s) (ha:argsOk id ⟨self :: rest,kw⟩):wpAny (model prog w) A (call (.builtin id) (self :: rest) kw) Q E s:=by
 refine wpAny_call (codeAny_call_builtin h.plain hb (h.check _ _ _ _ _ _ _ _ hT ha (wpAny_mono hc (fun fin s' h'=>?_) fun _ _ h'=>h')))
 obtain ⟨v,rfl,hv⟩:=h'; exact hv
section
variable {X:Cx} {K:Fg} {pins:List (Addr × Obj)} {σ:L2.St} {H H':Hp} {S:Sto} {s:Shared}
theorem accSet {D:Addr} {φ:Heap->Prop} {ws:List V} {its its':List Value} {n:Nat} {f:Array Value->Array Value} (I:Inv X pins σ H s) (h:H D=some (.ext φ)) (e:s.heap.get? D=some (seqObj "list" its.toArray n)) (hf:f its.toArray=its'.toArray) (r:Vals ws its') (hz:ws.length <= sizeLine) :
   Inv X pins σ (upd H D (accH D ws)) { s with heap:=s.heap.update D (Obj.mapSeq f) }:=by
 obtain ⟨hh,g,d,t,os⟩:=s
 have e2:=get?_update_seq e f
 rw [hf] at e2
 refine I.write (t':=t) (h':=hh.update D (Obj.mapSeq f)) (x:=D) (e:=D) (by rw [h]; trivial) (.inl rfl) (fun b u hb q=>(Heap.get?_update_other _ _ (Ne.symm hb)).trans q) ⟨_,e2⟩ ⟨⟨hz,its',_,r,e2⟩,⟨_,e2⟩,fun h1 h2 ⟨z',i',n',r',q'⟩ k=>⟨z',i',n',r',k _ q'⟩⟩
theorem accNew {D:Addr} {zs:List V} {its:List Value} {n t':Nat} {h':Heap} (I:Inv X pins σ H s) (k:∀ b u,s.heap.get? b=some u->h'.get? b=some u) (hp:s.heap.objs.size <= D) (r:Vals zs its) (hz:zs.length <= sizeLine)
   (e:h'.get? D=some (seqObj "list" its.toArray n)):Inv X pins σ (upd H D (accH D zs)) { s with heap:=h',toks:=t' } :=
 I.laid k hp ⟨⟨hz,its,n,r,e⟩,⟨_,e⟩,fun h1 h2 zz89 k=>by obtain ⟨z',i',n',r',q'⟩:=zz89; exact ⟨z',i',n',r',k _ q'⟩⟩
end
noncomputable def objH (D:Addr) (o:Obj):HO:=.ext fun h=>h.get? D=some o
theorem objNew {X:Cx} {pins:List (Addr × Obj)} {σ:L2.St} {H:Hp} {s:Shared} {D:Addr} {o:Obj} {t':Nat} {h':Heap} (I:Inv X pins σ H s) (k:∀ b u,s.heap.get? b=some u->h'.get? b=some u) (hp:s.heap.objs.size <= D) (e:h'.get? D=some o):Inv X pins σ (upd H D (objH D o)) { s with heap:=h',toks:=t' } :=
 I.laid k hp ⟨e,⟨_,e⟩,fun h1 h2 p k=>k _ p⟩
theorem objAt {X:Cx} {pins:List (Addr × Obj)} {σ:L2.St} {H:Hp} {s:Shared} {D:Addr} {o:Obj} (I:Inv X pins σ H s) (h:H D=some (objH D o)):s.heap.get? D=some o:=(I.hok D _ h).1
noncomputable def srtd (tr:Bool) (xs:List T) (κ:T->Ky) (S:Sto) (Q:T->Sto->Prop):Prop:=∀ zs:List T,zs.Perm xs->zs.Pairwise (fun a b=>Ky.lt (κ b) (κ a)=false)->newL tr zs S Q
noncomputable def wSK (g:List T->List T->Sto->(T->Sto->Prop)->Prop) (wr:WA) (wk:WE):WE:=fun σ S Q=>wr σ S fun ts S1=>wk σ S1 fun y S2=>g ts [y] S2 Q
theorem i_sk {σ:StT} {S:Sto} {Q:T->Sto->Prop} {g:List T->List T->Sto->(T->Sto->Prop)->Prop} {wr:WA} {wk:WE} (h:wr σ S fun ts S1=>wk σ S1 fun y S2=>g ts [y] S2 Q):wSK g wr wk σ S Q:=h
end T2
namespace Tm
open PySem PySem.Spec PyProof.Rows
noncomputable abbrev tl (x:Str):List Nat:=x.cps.toList
theorem ext {x y:Str} (h:tl x=tl y):x=y:=by cases x; cases y; simp only [tl] at h; rw [Array.toList_inj.mp h]
theorem len (x:Str):(tl x).length=x.length:=by simp [tl,Str.length]
theorem tl_app (x y:Str):tl (x ++ y)=tl x ++ tl y:=by show (x.cps ++ y.cps).toList=_; simp [tl]
theorem tl_mk (l:List Nat):tl ⟨l.toArray⟩=l:=by simp [tl]
noncomputable def joinL (g:List Nat):List (List Nat)->List Nat
 | []=>[]
 | [p]=>p
 | p :: q :: r=>p ++ g ++ joinL g (q :: r)
theorem tl_joinS (g:Str):∀ ps:List Str,tl (Str.join g ps)=joinL (tl g) (ps.map tl)
 | []=>rfl
 | [p]=>rfl
 | p :: q :: r=>by
   have ih:=tl_joinS g (q :: r)
   show tl ((p ++ g ++ Str.join g (q :: r)):Str)=tl p ++ tl g ++ joinL (tl g) ((q :: r).map tl)
   rw [<- ih,tl_app,tl_app]
theorem tl_join (g:Str) (ps:List Str):tl (Txt.join g ps)=joinL (tl g) (ps.map tl):=by
 rw [show Txt.join g ps=Str.join g ps from StrLaws.glued_eq_join g ps,tl_joinS]
theorem blank:tl (" ":Str)=[32]:=by decide +kernel
theorem empty:tl ("":Str)=[]:=by decide +kernel
theorem split_join (x:Str):joinL [32] ((Txt.split x " ").map tl)=tl x:=by
 have:=tl_joinS " " (Txt.split x " ")
 rw [StrLaws.join_split,blank] at this
 exact this.symm
theorem split_free (x:Str):∀ p ∈ (Txt.split x " ").map tl,32 ∉ p:=fun p hp=>by
 obtain ⟨q,hq,rfl⟩:=List.mem_map.mp hp
 exact StrLaws.split_free x 32 q hq
theorem split_ne (x:Str):(Txt.split x " ") ≠ []:=fun h=>by
 have:=split_pos x " "
 rw [h] at this; simp at this
theorem sIx_le (n d:Nat) (h:d <= n) (o:Option Int):HT.sIx n d o <= n:=by
 cases o with
 | none=>exact h
 | some v=>simp only [HT.sIx]; split <;> omega
theorem slice_ix (lo hi:Option Int) (n:Nat):Builtin.Str.strSliceIndices lo hi 1 n=(List.range (HT.sIx n n hi - HT.sIx n 0 lo)).map fun k=>HT.sIx n 0 lo + k:=by
 have c:∀ i:Int,max 0 (min (if i < 0 then i + (n:Int) else i) (n:Int))=(((if i < 0 then (i + (n:Int)).toNat else min i.toNat n):Nat):Int):=fun i=>by split <;> omega
 have key:Builtin.Str.strSliceIndices lo hi 1 n=sliceRange ((HT.sIx n 0 lo:Nat):Int) ((HT.sIx n n hi:Nat):Int) 1:=by
   unfold Builtin.Str.strSliceIndices
   cases lo with
   | none =>
     cases hi with
     | none=>rfl
     | some j=>simp only [show (1:Int) > 0 by decide,if_true,c,HT.sIx]; rfl
   | some i =>
     cases hi with
     | none=>simp only [show (1:Int) > 0 by decide,if_true,c,HT.sIx]
     | some j=>simp only [show (1:Int) > 0 by decide,if_true,c,HT.sIx]
 rw [key]
 unfold sliceRange
 simp only [show (1:Int) > 0 by decide,if_true,Int.one_mul]
 have hc:(if ((HT.sIx n 0 lo:Nat):Int) < ((HT.sIx n n hi:Nat):Int) then (((HT.sIx n n hi:Nat):Int) - ((HT.sIx n 0 lo:Nat):Int) + 1 - 1) / 1 else 0).toNat=HT.sIx n n hi - HT.sIx n 0 lo:=by
   split
   . rw [Int.ediv_one]; omega
   . simp; omega
 rw [hc]
 apply List.map_congr_left
 intro k _
 omega
theorem tl_slice (x:Str) (lo hi:Option Int):tl (Txt.slice x lo hi)=((tl x).drop (HT.sIx x.length 0 lo)).take (HT.sIx x.length x.length hi - HT.sIx x.length 0 lo):=by
 have hA:=sIx_le x.length 0 (Nat.zero_le _) lo
 have hB:=sIx_le x.length x.length (Nat.le_refl _) hi
 have hl:=len x
 unfold Txt.slice
 rw [slice_ix]
 split
 . next h =>
   simp only [beq_self_eq_true,Bool.true_and,List.length_map,List.length_range,beq_iff_eq] at h
   have h0:HT.sIx x.length 0 lo=0 \/ x.length=0:=by omega
   rcases h0 with h0 | h0
   . rw [h0,List.drop_zero,List.take_of_length_le (by omega)]
   . have:tl x=[]:=List.length_eq_zero_iff.mp (by omega)
     rw [this]; simp
 . rw [tl_mk]
   have:=StrLaws.picks (tl x) (HT.sIx x.length x.length hi - HT.sIx x.length 0 lo) (HT.sIx x.length 0 lo)
   by_cases hle:HT.sIx x.length 0 lo <= HT.sIx x.length x.length hi
   . rw [<- this (by rw [hl]; omega)]
     simp [tl]
   . rw [show HT.sIx x.length x.length hi - HT.sIx x.length 0 lo=0 by omega]; simp
theorem slice_to (x:Str) (k:Nat):tl (Txt.slice x none (some k))=(tl x).take k:=by
 rw [tl_slice,HT.sIx_none,HT.sIx_nat,List.drop_zero,Nat.sub_zero,<- len x,<- List.take_take,List.take_of_length_le (Nat.le_refl _)]
theorem slice_from (x:Str) (k:Nat):tl (Txt.slice x (some k) none)=(tl x).drop k:=by
 rw [tl_slice,HT.sIx_none,HT.sIx_nat,<- len x,List.take_of_length_le (by simp [List.length_drop])]
 by_cases h:k <= (tl x).length
 . rw [Nat.min_eq_left h]
 . rw [Nat.min_eq_right (by omega),List.drop_eq_nil_of_le (Nat.le_refl _),List.drop_eq_nil_of_le (by omega)]
theorem starts (x y:Str):Txt.startswith x y=decide ((tl x).take (tl y).length=tl y):=by
 unfold Txt.startswith
 rw [StrLaws.subAt_eq,List.drop_zero,Nat.zero_add,len]
 by_cases h:y.length <= x.length
 . simp only [h,decide_true,Bool.true_and]
   rw [Bool.eq_iff_iff]; simp
 . simp only [h,decide_false,Bool.false_and]
   symm
   rw [decide_eq_false_iff_not]
   intro e
   have:=congrArg List.length e
   rw [List.length_take,len,len] at this
   omega
theorem joinOk {g:Str} {ps:List Str} {b:Nat} (h:∀ p ∈ ps,p.length <= b) (h2:ps.length * (b + g.length) <= 10000):JoinOk g ps=true:=by
 have main:∀ (ps:List Str) (acc:Nat),(∀ p ∈ ps,p.length <= b)->ps.foldl (fun a p=>a + p.length + g.length) acc <= acc + ps.length * (b + g.length):=by
   intro ps
   induction ps with
   | nil=>intro acc _; simp
   | cons p r ih =>
     intro acc h
     have:=ih (acc + p.length + g.length) fun q hq=>h q (List.mem_cons_of_mem _ hq)
     have hp:=h p List.mem_cons_self
     simp only [List.foldl_cons,List.length_cons,Nat.add_mul,Nat.one_mul] at this ⊢
     omega
 have:=main ps 0 h
 unfold JoinOk Builtin.Str.tooLong
 rw [List.foldl_toArray]
 have hs:sizeLine=16777216:=sizeLine_eq
 simp only [Bool.not_eq_true',decide_eq_false_iff_not]
 omega
theorem strs_map (zs:List Str):T2.strsT (zs.map T2.T.str)=some zs:=by
 induction zs with
 | nil=>rfl
 | cons a l ih=>simp [T2.strsT_c,ih]
theorem len_one (d:Nat):Str.length ⟨#[d]⟩=1:=rfl
theorem len_blank:Str.length (Str.ofString " ")=1:=by decide +kernel
theorem len_empty:Str.length (Str.ofString "")=0:=by decide +kernel
theorem join_le (g:Str) {b:Nat}:∀ zs:List Str,(∀ y ∈ zs,y.length <= b)->(Txt.join g zs).length <= zs.length * (b + g.length):=by
 intro zs h
 rw [<- len,tl_join,<- len g]
 induction zs with
 | nil=>simp [joinL]
 | cons y r ih =>
   have hy:=h y List.mem_cons_self
   rw [<- len] at hy
   have h3:=ih fun q hq=>h q (List.mem_cons_of_mem _ hq)
   cases r with
   | nil=>simp only [List.map_cons,List.map_nil,joinL,List.length_cons,List.length_nil]; omega
   | cons y2 r2 =>
     simp only [List.map_cons,joinL,List.length_append,List.length_cons,Nat.add_mul,Nat.one_mul] at h3 ⊢
     omega
theorem joinL_mem (g:List Nat):∀ (ps:List (List Nat)) (p:List Nat),p ∈ ps->p.length <= (joinL g ps).length
 | [],_,h=>by cases h
 | [q],p,h=>by rw [List.mem_singleton.mp h]; simp [joinL]
 | q :: q2 :: r,p,h=>by
   simp only [joinL,List.length_append]
   rcases List.mem_cons.mp h with rfl | h
   . omega
   . have:=joinL_mem g (q2 :: r) p h
     omega
theorem split_mem {a x:Str} (h:x ∈ Txt.split a " "):x.length <= a.length:=by
 have:=joinL_mem [32] _ _ (List.mem_map_of_mem (f:=tl) h)
 rw [split_join,len,len] at this
 exact this
theorem starts_slice (x y:Str):Txt.startswith x y=decide (Txt.slice x none (some (y.length:Int))=y):=by
 rw [starts,len,Bool.eq_iff_iff]
 simp only [decide_eq_true_eq]
 constructor
 . intro h; exact ext (by rw [slice_to]; exact h)
 . intro h; rw [<- slice_to,h]
end Tm
namespace T2
open PySem PySem.Spec PyProof.Rows L2
section
variable {K:Fg} {X:Cx} {k:Nat} {f:Addr} {fd:FuncData} {ps:List Str} {wsp:WSp} {x m:Str} {p pos apos cpos:Pos} {e o:Expr} {es:List Expr} {wa wb:WE} {wr:WA} {id ty:String} {g:GC} {gm:GM} {i:Nat}
theorem Q_var (i:Nat) (hN:X.N[i]?=some x:=by rfl) (hv:Vis X.env.scope x:=by first | exact Or.inl rfl | exact Or.inr (Or.inl rfl) | exact Or.inr (Or.inr rfl)) (hd:(x == ("__debug__":Str))=false:=by decide)
   (hcd:(x == ("__classdict__":Str))=false:=by decide):QE K X (.Name x pos) (wV i):=q_var (pe_var hN hv hd hcd)
theorem Q_ty {n:String} (hg:Gl X x) (hm:X.mg x=none) (hv:bootBuiltins x=some (.type n)) (hn:x ≠ "__name__":=by decide) (hd:(x == ("__debug__":Str))=false:=by decide):QE K X (.Name x pos) (wC (.ty n)) :=
 q_glob (pe_bltn (v:=.ty n) hg hm hv rfl hn hd) fun _ _=>.ty
theorem Q_gint {n:Int} (hg:Gl X x) (hm:∃ tk,X.mg x=some (.int n tk)) (hd:(x == ("__debug__":Str))=false:=by decide):QE K X (.Name x pos) (wC (.int n)):=by
 obtain ⟨tk,hm⟩:=hm
 exact q_glob (pe_glob (v:=.int n) hg hm ⟨tk,rfl⟩ hd) fun _ _=>.int
theorem Q_call (F:FnOk X.prog X.w X.K X.mg X.base CX0 k f fd ps (lSp K wsp)) (D:Df X.K X.mg x f fd ps) (hr:Room k X.A) (hg:Gl X x) (ha:QA K X (e :: es) wr)
   (hdb:(x == ("__debug__":Str))=false:=by decide) (he:starEach (e :: es) X.env=(false,eval e X.env) :: starEach es X.env:=by rfl) (hpl:(backTo pos (starEach es X.env)).any (·.1)=false:=by rfl) :
   QE K X (.Call (.Name x p) (e :: es) [] pos) (wCall wsp [] wr):=q_call (dvs:=[]) (fun _ _=>.nil) (pe_call F hr hg D.hm D.kp D.b .nil pass0 ha hdb he hpl)
theorem Q_cb (hc:CallR X (.builtin id) (lC K g)) (hg:Gl X x) (hm:X.mg x=none) (hv:bootBuiltins x=some (.builtin id)) (ha:QA K X (e :: es) wr) (hn:x ≠ "__name__":=by decide) (hdb:(x == ("__debug__":Str))=false:=by decide)
   (he:starEach (e :: es) X.env=(false,eval e X.env) :: starEach es X.env:=by rfl) (hpl:(backTo pos (starEach es X.env)).any (·.1)=false:=by rfl):QE K X (.Call (.Name x p) (e :: es) [] pos) (wCB g wr):=q_cb (pe_callB hc hg hm hv ha hn hdb he hpl)
theorem Q_cty (hc:CallR X (.type id) (lC K g)) (hg:Gl X x) (hm:X.mg x=none) (hv:bootBuiltins x=some (.type id)) (ha:QA K X (e :: es) wr) (hn:x ≠ "__name__":=by decide) (hdb:(x == ("__debug__":Str))=false:=by decide)
   (he:starEach (e :: es) X.env=(false,eval e X.env) :: starEach es X.env:=by rfl) (hpl:(backTo pos (starEach es X.env)).any (·.1)=false:=by rfl):QE K X (.Call (.Name x p) (e :: es) [] pos) (wCB g wr):=q_cb (pe_callTy hc hg hm hv ha hn hdb he hpl)
theorem Q_bm (hK:X.K=K) (pa:PlainAttrs ty) (slot:Slot ty m id) (hty:typeOf (.builtin id)=pure (.type "method_descriptor")) (hm:MtR X id (lM K gm)) (ho:QE K X o wa) (ha:QA K X (e :: es) wr)
   (h:∀ {to t r},PE X o to->MtR X id r->PA X (e :: es) t->PE X (.Call (.Attribute o m apos) (e :: es) [] cpos) (tBM X.K ty r to t)):QE K X (.Call (.Attribute o m apos) (e :: es) [] cpos) (wBM ty gm wa wr):=by
 subst hK
 exact q_bm (h ho hm ha)
theorem Q_bm0 (hK:X.K=K) (pa:PlainAttrs ty) (slot:Slot ty m id) (hty:typeOf (.builtin id)=pure (.type "method_descriptor")) (hm:MtR X id (lM K gm)) (ho:QE K X o wa)
   (h:∀ {to r},PE X o to->MtR X id r->PE X (.Call (.Attribute o m apos) [] [] cpos) (tBM0 X.K ty r to)):QE K X (.Call (.Attribute o m apos) [] [] cpos) (wBM ty gm wa wNil):=by
 subst hK
 exact q_bm0 (h ho hm)
theorem Q_gname {y:Str} {i:Nat} (hN:X.N.Nodup) (hi:X.N[i]?=some y) (hx:Loc X.env.scope y) (hf:X.fn y=true \/ X.env.scope.names.lookup y=some .local:=by first | exact .inl rfl | exact .inr rfl | assumption):QG K X (.Name y pos) (wgN i):=qg_name (pg_name hN hi hx hf)
theorem Q_gsub {i:Expr} {wo wi:WE} {g:GS} (ho:QE K X o wo) (hi:QE K X i wi) (hs:PSet X (lSet K g))
   (h:∀ {to ti t},PE X o to->PE X i ti->PSet X t->PG X (.Subscript o i pos) (L2.gSub to ti t)):QG K X (.Subscript o i pos) (wgS wo wi g):=qg_sub (h ho hi hs)
end
end T2
open PySem
namespace Sc
noncomputable def isL (c:Nat):Bool:=decide (97 <= c) && decide (c <= 122)
noncomputable def isP (p:List Nat):Bool:=decide (1 <= p.length) && decide (p.length <= 12) && p.all isL
noncomputable def scan:List Nat->Nat->Nat->Option (Nat × Nat)
 | [],z,n=>some (z,n)
 | c :: r,z,n=>if c=32 then (if z=0 then none else scan r 0 (n + 1)) else if isL c=true then (if z + 1 > 12 then none else scan r (z + 1) n) else none
noncomputable def fin:Option (Nat × Nat)->Bool
 | none=>false
 | some (z,n)=>decide (0 < z) && decide (n < 5)
theorem scan_part:∀ (p rest:List Nat) (z n:Nat),32 ∉ p->z <= 12->scan (p ++ rest) z n=if (p.all isL && decide (z + p.length <= 12))=true then scan rest (z + p.length) n else none
 | [],rest,z,n,_,hz=>by simp [hz]
 | c :: p,rest,z,n,h,hz=>by
   have hc:c ≠ 32:=fun e=>h (by simp [e])
   have hp:32 ∉ p:=fun e=>h (by simp [e])
   have ih:=scan_part p rest (z + 1) n hp
   show scan (c :: (p ++ rest)) z n=_
   rw [scan,if_neg hc]
   cases hl:isL c with
   | false=>simp [hl]
   | true =>
     rw [if_pos rfl]
     by_cases hz2:z + 1 > 12
     . rw [if_pos hz2]
       have:¬ (z + (c :: p).length <= 12):=by simp; omega
       simp [this]
       omega
     . rw [if_neg hz2,ih (by omega)]
       have e:z + 1 + p.length=z + (c :: p).length:=by simp; omega
       rw [e]
       simp [hl]
noncomputable def joinL (g:List Nat):List (List Nat)->List Nat
 | []=>[]
 | [p]=>p
 | p :: q :: r=>p ++ g ++ joinL g (q :: r)
theorem fin_scan:∀ (ps:List (List Nat)) (n:Nat),ps ≠ []->(∀ p ∈ ps,32 ∉ p)->fin (scan (joinL [32] ps) 0 n)=(decide (ps.length + n <= 5) && ps.all isP)
 | [],_,h,_=>absurd rfl h
 | [p],n,_,hf=>by
   have h:=scan_part p [] 0 n (hf p (by simp)) (by omega)
   rw [List.append_nil] at h
   show fin (scan p 0 n)=_
   rw [h]
   simp only [Nat.zero_add,List.length_singleton,List.all_cons,List.all_nil,Bool.and_true]
   by_cases hc:(p.all isL && decide (p.length <= 12))=true
   . rw [if_pos hc]
     simp only [Bool.and_eq_true,decide_eq_true_eq] at hc
     simp only [scan,fin,isP,hc.1,hc.2,decide_true,Bool.and_true]
     rw [Bool.eq_iff_iff]
     simp only [Bool.and_eq_true,decide_eq_true_eq]
     omega
   . rw [if_neg hc]
     have:isP p=false:=by
       simp only [isP]
       rw [Bool.eq_false_iff]
       intro z
       simp only [Bool.and_eq_true,decide_eq_true_eq] at z hc
       exact hc ⟨z.2,z.1.2⟩
     simp [fin,this]
 | p :: q :: r,n,_,hf=>by
   have h:=scan_part p (32 :: joinL [32] (q :: r)) 0 n (hf p (by simp)) (by omega)
   have ih:=fin_scan (q :: r) (n + 1) (by simp) fun x hx=>hf x (List.mem_cons_of_mem _ hx)
   have e:joinL [32] (p :: q :: r)=p ++ 32 :: joinL [32] (q :: r):=by simp [joinL]
   rw [e,h]
   simp only [Nat.zero_add]
   by_cases hc:(p.all isL && decide (p.length <= 12))=true
   . rw [if_pos hc]
     simp only [Bool.and_eq_true,decide_eq_true_eq] at hc
     rw [scan,if_pos rfl]
     by_cases hz:p.length=0
     . rw [if_pos hz]
       have:isP p=false:=by simp [isP,hz]
       simp [fin,this]
     . rw [if_neg hz,ih]
       have:isP p=true:=by
         simp only [isP,hc.1,hc.2,decide_true,Bool.and_true,decide_eq_true_eq]
         omega
       have ea:(p :: q :: r).all isP=(q :: r).all isP:=by rw [List.all_cons,this,Bool.true_and]
       rw [ea]
       have e2:(q :: r).length + (n + 1)=(p :: q :: r).length + n:=by simp; omega
       rw [e2]
   . rw [if_neg hc]
     have:isP p=false:=by
       simp only [isP]
       rw [Bool.eq_false_iff]
       intro z
       simp only [Bool.and_eq_true,decide_eq_true_eq] at z hc
       exact hc ⟨z.2,z.1.2⟩
     simp [fin,this]
theorem mem_abc (c:Nat):decide (c ∈ [97,98,99,100,101,102,103,104,105,106,107,108,109,110,111,112,113,114,115,116,117,118,119,120,121,122])=isL c:=by
 have lo:∀ c < 123,decide (c ∈ [97,98,99,100,101,102,103,104,105,106,107,108,109,110,111,112,113,114,115,116,117,118,119,120,121,122])=isL c:=by decide +kernel
 by_cases h:c < 123
 . exact lo c h
 . have hi:∀ x ∈ [97,98,99,100,101,102,103,104,105,106,107,108,109,110,111,112,113,114,115,116,117,118,119,120,121,122],x < 123:=by decide +kernel
   rw [decide_eq_false fun q=>h (hi c q)]
   unfold isL
   rw [decide_eq_false (p:=c <= 122) fun q=>h (Nat.lt_succ_of_le q),Bool.and_false]
theorem one_lt (a b:Nat):decide ([a] < [b])=decide (a < b):=by
 rw [Bool.eq_iff_iff]
 simp [List.cons_lt_cons_iff]
end Sc
namespace Wm
open PySem
theorem joinL_same (g:List Nat):∀ ps:List (List Nat),Sc.joinL g ps=Tm.joinL g ps
 | []=>rfl
 | [p]=>rfl
 | p :: q :: r=>by
   show p ++ g ++ Sc.joinL g (q :: r)=p ++ g ++ Tm.joinL g (q :: r)
   rw [joinL_same g (q :: r)]
noncomputable def Wd (z:Str):Bool:=decide (z.length <= 24) && Sc.fin (Sc.scan (Tm.tl z) 0 1)
theorem split_scan (z:Str):Sc.fin (Sc.scan (Tm.tl z) 0 1)=(decide ((Txt.split z " ").length <= 4) && (Txt.split z " ").all fun p=>Sc.isP (Tm.tl p)):=by
 have hn:=PyProof.Rows.split_pos z " "
 rw [<- Tm.split_join z,<- joinL_same,Sc.fin_scan _ 1 (by simp [Tm.split_ne]) (Tm.split_free z),List.length_map,List.all_map]
 congr 1
 rw [Bool.eq_iff_iff]
 simp only [decide_eq_true_eq]
 omega
theorem abc_tl:Tm.tl "abcdefghijklmnopqrstuvwxyz"=[97,98,99,100,101,102,103,104,105,106,107,108,109,110,111,112,113,114,115,116,117,118,119,120,121,122]:=by decide +kernel
theorem in_abc (c:Nat):(!(Builtin.Str.occurrences ("abcdefghijklmnopqrstuvwxyz":Str) ⟨#[c]⟩ 0 ("abcdefghijklmnopqrstuvwxyz":Str).length 1).isEmpty)=Sc.isL c:=by
 rw [PySem.StrLaws.found_one,show ("abcdefghijklmnopqrstuvwxyz":Str).cps.toList=_ from abc_tl,Sc.mem_abc]
theorem lt_one (c d:Nat):T2.ltS ⟨#[c]⟩ ⟨#[d]⟩=decide (c < d):=by
 unfold T2.ltS
 exact Sc.one_lt c d
theorem letter (c:Nat):(!T2.ltS ⟨#[c]⟩ "a" && !T2.ltS "z" ⟨#[c]⟩)=Sc.isL c:=by
 rw [show ("a":Str)=⟨#[97]⟩ by decide +kernel,show ("z":Str)=⟨#[122]⟩ by decide +kernel,lt_one,lt_one,Bool.eq_iff_iff]
 simp only [Sc.isL,Bool.and_eq_true,Bool.not_eq_true',decide_eq_false_iff_not,decide_eq_true_eq]
 omega
theorem all_map (l:List Bool):T2.blsT (l.map T2.T.bl)=some l:=by
 induction l with
 | nil=>rfl
 | cons a l ih=>simp [T2.blsT,ih]
theorem fm_some {α β:Type} (f:α->β) (l:List α):l.filterMap (fun x=>some (f x))=l.map f:=by
 induction l with
 | nil=>rfl
 | cons a l ih=>simp [ih]
end Wm
namespace Wm
open PySem
theorem joinL_nil:∀ (ls:List (List Nat)),Tm.joinL [] ls=ls.flatten
 | []=>rfl
 | [p]=>by simp [Tm.joinL]
 | p :: q :: r=>by
   show p ++ [] ++ Tm.joinL [] (q :: r)=_
   rw [joinL_nil (q :: r)]; simp
theorem part_of {ys:List Str} (h1:∀ y ∈ ys,∃ c,y=⟨#[c]⟩ /\ Sc.isL c=true) (h2:1 <= ys.length) (h3:ys.length <= 12):Sc.isP (Tm.tl (Txt.join "" ys))=true:=by
 rw [Tm.tl_join,Tm.empty,joinL_nil]
 have len:((ys.map Tm.tl).flatten).length=ys.length:=by
   clear h2 h3
   induction ys with
   | nil=>rfl
   | cons y l ih =>
     obtain ⟨c,rfl,_⟩:=h1 y (by simp)
     simp only [List.map_cons,List.flatten_cons,List.length_append,ih fun z hz=>h1 z (by simp [hz]),List.length_cons]
     simp [Tm.tl]; omega
 unfold Sc.isP
 rw [len]
 simp only [Bool.and_eq_true,decide_eq_true_eq]
 refine ⟨⟨h2,h3⟩,?_⟩
 rw [List.all_eq_true]
 intro c hc
 rw [List.mem_flatten] at hc
 obtain ⟨l,hl,hc⟩:=hc
 rw [List.mem_map] at hl
 obtain ⟨y,hy,rfl⟩:=hl
 obtain ⟨d,rfl,hd⟩:=h1 y hy
 simp [Tm.tl] at hc
 rw [hc]; exact hd
theorem isP_free {p:List Nat} (h:Sc.isP p=true):32 ∉ p:=fun hm=>by
 unfold Sc.isP at h
 simp only [Bool.and_eq_true,List.all_eq_true] at h
 have:=h.2 32 hm
 simp [Sc.isL] at this
theorem wd_join {ps:List Str} (h1:∀ p ∈ ps,Sc.isP (Tm.tl p)=true) (h2:ps ≠ []) (h3:ps.length <= 4):Sc.fin (Sc.scan (Tm.tl (Txt.join " " ps)) 0 1)=true:=by
 rw [Tm.tl_join,Tm.blank,<- joinL_same]
 rw [Sc.fin_scan (ps.map Tm.tl) 1 (by simpa using h2) (fun p hp=>by
   rw [List.mem_map] at hp
   obtain ⟨y,hy,rfl⟩:=hp
   exact isP_free (h1 y hy))]
 simp only [List.length_map,Bool.and_eq_true,decide_eq_true_eq,List.all_map,List.all_eq_true]
 exact ⟨by omega,fun p hp=>h1 p hp⟩
theorem wd_len {z:Str} (h:Wd z=true):1 <= z.length /\ z.length <= 24:=by
 unfold Wd at h
 simp only [Bool.and_eq_true,decide_eq_true_eq] at h
 refine ⟨?_,h.1⟩
 rcases Nat.eq_zero_or_pos z.length with e | e
 . have:Tm.tl z=[]:=List.length_eq_zero_iff.mp (by rw [Tm.len]; exact e)
   rw [this] at h
   simp [Sc.scan,Sc.fin] at h
 . exact e
theorem scan_ok:∀ (l:List Nat) (z n:Nat) {p:Nat × Nat},Sc.scan l z n=some p->∀ c ∈ l,c=32 \/ Sc.isL c=true
 | [],_,_,_,_,c,hc=>by cases hc
 | d :: l,z,n,p,h,c,hc=>by
   rw [Sc.scan] at h
   rcases List.mem_cons.mp hc with rfl | hc
   . by_cases e:c=32
     . exact .inl e
     . rw [if_neg e] at h
       split at h
       . exact .inr ‹_›
       . cases h
   . split at h
     . split at h
       . cases h
       . exact scan_ok l _ _ h c hc
     . split at h
       . split at h
         . cases h
         . exact scan_ok l _ _ h c hc
       . cases h
theorem wd_signs {z:Str} (h:Wd z=true):∀ c ∈ Tm.tl z,c=32 \/ Sc.isL c=true:=by
 unfold Wd at h
 simp only [Bool.and_eq_true] at h
 cases q:Sc.scan (Tm.tl z) 0 1 with
 | none=>rw [q] at h; simp [Sc.fin] at h
 | some p=>exact scan_ok _ _ _ q
theorem wd_ok {z:Str} (h:Wd z=true):PyData.strOk z=true:=by
 unfold PyData.strOk
 rw [Array.all_eq_true_iff_forall_mem]
 intro c hc
 have:=wd_signs h c (by simpa [Tm.tl] using hc)
 rw [decide_eq_true_eq]
 rcases this with e | e
 . omega
 . simp only [Sc.isL,Bool.and_eq_true,decide_eq_true_eq] at e; omega
end Wm
open PySem
namespace Wm
theorem head_eq:∀ (p q r s:List Nat),32 ∉ p->32 ∉ q->p ++ 32 :: r=q ++ 32 :: s->p=q /\ r=s
 | [],[],r,s,_,_,h=>⟨rfl,(List.cons.inj h).2⟩
 | [],c :: q,r,s,_,h2,h=>absurd (List.cons.inj h).1 fun e=>h2 (by rw [<- e]; exact List.mem_cons_self)
 | c :: p,[],r,s,h1,_,h=>absurd (List.cons.inj h).1 fun e=>h1 (by rw [e]; exact List.mem_cons_self)
 | c :: p,d :: q,r,s,h1,h2,h=>by
   obtain ⟨e1,e2⟩:=List.cons.inj h
   obtain ⟨e3,e4⟩:=head_eq p q r s (fun z=>h1 (List.mem_cons_of_mem _ z)) (fun z=>h2 (List.mem_cons_of_mem _ z)) e2
   exact ⟨by rw [e1,e3],e4⟩
theorem join_more (y:List Nat):∀ i:List (List Nat),i ≠ []->Tm.joinL [32] (i ++ [y])=Tm.joinL [32] i ++ 32 :: y
 | [],h=>absurd rfl h
 | [a],_=>by
   show a ++ [32] ++ y=a ++ 32 :: y
   rw [List.append_assoc]; rfl
 | a :: b :: i,_=>by
   have ih:=join_more y (b :: i) (by simp)
   show a ++ [32] ++ Tm.joinL [32] (b :: i ++ [y])=a ++ [32] ++ Tm.joinL [32] (b :: i) ++ 32 :: y
   rw [ih,List.append_assoc (a ++ [32])]
end Wm
namespace Rk
open PySem T2 S6
noncomputable abbrev Rt:=Str × Int
noncomputable def rt (a:Rt):T:=.tup [.str a.1,.int a.2]
noncomputable def ky (a:Rt):Ky:=.cons (.i (-a.2)) (.cons (.s a.1) .nil)
noncomputable def ah (a b:Rt):Bool:=Ky.lt (ky a) (ky b)
noncomputable def ins (acc:List Rt) (a:Rt):List Rt:=acc.takeWhile (fun x=>ah x a) ++ a :: acc.dropWhile (fun x=>ah x a)
theorem g_rt0 {S:Sto} {Q:T->Sto->Prop} {a:Rt} (h:Q (.str a.1) S):gIx (rt a) (.int 0) S Q:=g_ixT (t:=.str a.1) rfl h
theorem g_rt1 {S:Sto} {Q:T->Sto->Prop} {a:Rt} (h:Q (.int a.2) S):gIx (rt a) (.int 1) S Q:=g_ixT (t:=.int a.2) rfl h
end Rk
namespace T2
open PySem PySem.Spec PyProof.Rows L2
section
variable {κ:Type} [DecidableEq κ]
noncomputable def valT (kts:List (κ × T)) (k:κ):Option T:=(kts.find? fun kv=>decide (kv.1=k)).map (·.2)
noncomputable def putT8 (kts:List (κ × T)) (k:κ) (t:T):List (κ × T) :=
 if (kts.any fun kv=>decide (kv.1=k))=true then kts.map (fun kv=>if kv.1=k then (kv.1,t) else kv) else kts ++ [(k,t)]
noncomputable abbrev PrT (K:Fg) (H:Hp) (S:Sto):List (κ × T)->List (κ × V)->Prop:=Paired fun (p:κ × T) (q:κ × V)=>p.1=q.1 /\ Rp K H S p.2 q.2
variable {K:Fg} {H:Hp} {S:Sto}
theorem val_none {k:κ}:∀ {kts:List (κ × T)} {kvs:List (κ × V)},PrT K H S kts kvs->(valV kvs k).isSome=(valT kts k).isSome:=by
 intro kts kvs pr
 induction pr with
 | nil=>exact rfl
 | @cons p q2 l l' er ps ih =>
   obtain ⟨a,b⟩:=p; obtain ⟨c,d⟩:=q2; obtain ⟨e,r⟩:=er
   simp only at e; subst e
   unfold valT valV
   rw [List.find?_cons,List.find?_cons]
   by_cases z:a=k
   . simp [z]
   . simp only [z,decide_false]
     exact ih
theorem any_eq {k:κ}:∀ {kts:List (κ × T)} {kvs:List (κ × V)},PrT K H S kts kvs->(kvs.any fun kv=>decide (kv.1=k))=kts.any fun kv=>decide (kv.1=k):=by
 intro kts kvs pr
 induction pr with
 | nil=>exact rfl
 | @cons p q2 l l' er ps ih =>
   obtain ⟨a,b⟩:=p; obtain ⟨c,d⟩:=q2; obtain ⟨e,r⟩:=er
   simp only at e; subst e
   rw [List.any_cons,List.any_cons,ih]
theorem Paired.app {α β:Type} {F:α->β->Prop}:∀ {a:List α} {b:List β} {c:List α} {d:List β},Paired F a b->Paired F c d->Paired F (a ++ c) (b ++ d)
 | _,_,_,_,.nil,r=>r
 | _,_,_,_,.cons h t,r=>.cons h (Paired.app t r)
theorem put_map {k:κ} {t:T} {v:V} (r:Rp K H S t v):∀ {kts:List (κ × T)} {kvs:List (κ × V)},PrT K H S kts kvs->PrT K H S (kts.map fun kv=>if kv.1=k then (kv.1,t) else kv) (kvs.map fun kv=>if kv.1=k then (kv.1,v) else kv):=by
 intro kts kvs pr
 induction pr with
 | nil=>exact .nil
 | @cons p q2 l l' er ps ih =>
   obtain ⟨a,b⟩:=p; obtain ⟨c,d⟩:=q2; obtain ⟨e,q⟩:=er
   simp only at e; subst e
   refine .cons ?_ (ih)
   dsimp only
   by_cases z:a=k
   . rw [if_pos z,if_pos z]; exact ⟨rfl,r⟩
   . rw [if_neg z,if_neg z]; exact ⟨rfl,q⟩
theorem put_rp {k:κ} {t:T} {v:V} (r:Rp K H S t v) {kts:List (κ × T)} {kvs:List (κ × V)} (p:PrT K H S kts kvs):PrT K H S (putT8 kts k t) (putK kvs k v):=by
 unfold putT8 putK
 rw [any_eq p]
 split
 . exact put_map r p
 . exact Paired.app p (.cons ⟨rfl,r⟩ .nil)
end
noncomputable def keyT:Key->T
 | .inl i=>.int i
 | .inr x=>.str x
section
variable {K:Fg} {X:Cx} {H:Hp} {S:Sto}
theorem key_v {t:T} {v:V} {k:Key} (r:Rp K H S t v) (e:keyOf t=some k):v=kV k:=by
 cases r <;> simp only [keyOf,Option.some.injEq,reduceCtorEq] at e <;> subst e <;> rfl
theorem keyT_rp (k:Key):Rp K H S (keyT k) (kV k):=by cases k <;> constructor
noncomputable def RdT (w:World) (S:Sto) (a:Addr) (kts:List (Key × T)):Prop:=S a=some (.dK kts) \/ ∃ od kvs,S a=some (.fK w od kvs kts)
theorem rdT_v {w:World} {a:Addr} {kts:List (Key × T)} (s:SRp K H S) (g:RdT w S a kts):∃ kvs,RdK w H a kvs /\ PrT K H S kts kvs:=by
 rcases g with e | ⟨od,kvs,e⟩
 . cases s a _ e with
   | dK h p=>exact ⟨_,.inl h,p⟩
 . cases s a _ e with
   | fK h p=>exact ⟨_,.inr ⟨_,h⟩,p⟩
theorem dk_at {a:Addr} {kts:List (Key × T)} (s:SRp K H S) (e:S a=some (.dK kts)):∃ kvs,H a=some (.dK kvs) /\ PrT K H S kts kvs:=by
 cases s a _ e with
 | dK h p=>exact ⟨_,h,p⟩
noncomputable def gInD (w:World) (neg:Bool):G2:=fun x y S Q=>∃ a kts k,y=.ref a /\ RdT w S a kts /\ keyOf x=some k /\ Q (.bl (neg ^^ (valT kts k).isSome)) S
theorem o_inD:OpR X (compareOp .In) (l2 K (gInD X.w false)):=by
 rintro pins s σ H x y v u Q I rx ry ⟨S,tx,ty,Qt,sr,hx,hy,⟨a,kts,k,e,g,ek,q⟩,b⟩
 subst e
 cases hy
 cases (show u=Value.ref a from ry)
 obtain ⟨kvs,hg,p⟩:=rdT_v sr g
 have:=key_v hx ek
 subst this
 refine k_in I hg rx fun s' I'=>⟨.bl (valV kvs k).isSome,H,I',rfl,b _ H _ S .refl sr .bl ?_⟩
 rw [val_none p]; simpa using q
noncomputable def gSetD:GS:=fun o i v S Q=>∃ a kts k,o=.ref a /\ S a=some (.dK kts) /\ keyOf i=some k /\ kts.length < sizeLine /\ Q (put S a (.dK (putT8 kts k v)))
theorem p_setD (hu:X.A.units + 1 < cLine):PSet X (lSet K gSetD):=by
 rintro pins s σ H o i v ov iv u Q I ro ri rv ⟨S,to,ti,tv,Qt,sr,hO,hI,hV,⟨a,kts,k,e,ea,ek,hl,q⟩,b⟩
 subst e
 cases hO
 cases (show ov=Value.ref a from ro)
 obtain ⟨kvs,hk,p⟩:=dk_at sr ea
 have:=key_v hI ek
 subst this
 have hn:S a ≠ none:=by rw [ea]; simp
 refine d_setItem hu I (DPut.k hk (by rw [Paired.len p]; exact hl)) ri rv fun s' I'=>⟨_,I',?_⟩
 exact b _ _ (Fr.write hn) (sr.write hn (.dK upd_same (Paired.mapP (put_rp hV p) fun _ _ z=>⟨z.1,z.2.fr (Fr.write hn)⟩))) q
noncomputable def wDNew:WE:=fun _ S Q=>∀ p,S p=none->Q (.ref p) (put S p (.dK []))
theorem q_dnew {pos:Pos}:QE K X (.Dict [] [] pos) wDNew:=PE.of pe_dnewK fun σ H Q ⟨S,σt,Qt,s,c,q,hq⟩=>fun p hp =>
 hq _ _ (.ref p) _ (Fr.newT hp) (s.newT hp (.dK upd_same .nil)) .ref (q p (s.fresh hp))
noncomputable def pairT (kv:Key × T):T:=.tup [keyT kv.1,kv.2]
noncomputable def wiK (w:World) (wa:WE):WI:=fun σ S R=>wa σ S fun x S1=>∃ d kts,x=.ref d /\ S1 d=some (.dK kts) /\ ∀ od kvs,R ⟨kts.map fun kv=>keyT kv.1,fun S'=>S' d=some (.fK w od kvs kts)⟩ (put S1 d (.fK w od kvs kts))
noncomputable def wiP (w:World) (wa:WE):WI:=fun σ S R=>wa σ S fun x S1=>∃ d kts,x=.ref d /\ S1 d=some (.dK kts) /\ ∀ od kvs,R ⟨kts.map pairT,fun S'=>S' d=some (.fK w od kvs kts)⟩ (put S1 d (.fK w od kvs kts))
theorem fz_step {w:World} {d:Addr} {od:Obj} {kts:List (Key × T)} {kvs:List (Key × V)} (s:SRp K H S) (e:S d=some (.dK kts)) (p:PrT K H S kts kvs) :
   Fr H S (upd H d (fzH w d od kvs)) (put S d (.fK w od kvs kts)) /\ SRp K (upd H d (fzH w d od kvs)) (put S d (.fK w od kvs kts)):=by
 have hn:S d ≠ none:=by rw [e]; simp
 exact ⟨Fr.write hn,s.write hn (.fK upd_same (Paired.mapP p fun _ _ z=>⟨z.1,z.2.fr (Fr.write hn)⟩))⟩
theorem qi_items {o:Expr} {wa:WE} {elts:List Expr} {x1:Nat} {tpos apos cpos:Pos} (ho:QE K X o wa) (hK:X.K=K)
   (hbase:attributeBase o "items" X.env (eval o X.env)=eval o X.env:=by rfl) (hline:(apos.endLine == cpos.line)=true:=by rfl):QI K X (.Tuple elts x1 tpos) (.Call (.Attribute o "items" apos) [] [] cpos) (wiP X.w wa):=by
 subst hK
 refine PI.of (pi_pairs (pe_bm0 PySem.F.plainAttrs_dict PySem.F.slot_dict_items PySem.F.type_dict_items mt_items ho hbase hline)) fun σ H R zz90=>?_
 obtain ⟨S,σt,Rt,s,c,q,hq⟩:=zz90
 refine ⟨S,σt,_,s,c,q,fun x H1 tx S1 f1 s1 r1 q1=>?_⟩
 obtain ⟨d,kts,rfl,ed,q1⟩:=q1
 cases r1
 obtain ⟨kvs,hk,p⟩:=dk_at s1 ed
 refine ⟨.inr (.inr (.inl ⟨rfl,.inl ⟨_,hk⟩⟩)),d,kvs,rfl,rfl,hk,fun v hv=>?_⟩
 have nd:d ≠ v:=ne_of_none hk hv
 refine ⟨v,d,kvs,rfl,upd_same,by rw [upd_ne nd]; exact hk,fun od=>?_⟩
 have fv:Fr H1 S1 (upd H1 v (viewH v d)) S1:=Fr.new hv
 obtain ⟨f2,s2⟩:=fz_step (w:=X.w) (od:=od) (s1.new (u:=viewH v d) hv) ed (Paired.mapP p fun _ _ z=>⟨z.1,z.2.fr fv⟩)
 refine hq _ _ _ _ ((f1.trans fv).trans f2) s2 ⟨?_,?_,?_⟩ (q1 od kvs)
 . intro H' S' i f' s' g hi
   cases s' d _ g with
   | fK h p' =>
     dsimp only at hi
     rw [List.length_map] at hi
     exact ⟨h,by rw [Paired.len p']; exact hi⟩
 . rintro H' S' i x H'' f' s' g hi ⟨pp,kv,ek,hp,ex,eH⟩
   subst eH ex
   cases s' d _ g with
   | fK h p' =>
     obtain ⟨kt,e1,e2⟩:=getR p' ek
     refine ⟨pairT kt,by rw [List.getElem?_map,e1]; rfl,Fr.new hp,s'.new hp,?_⟩
     refine .tup (s'.fresh hp) upd_same (.cons ?_ (.cons (e2.2.fr (Fr.new hp)) .nil))
     rw [e2.1]; exact keyT_rp _
 . intro H' S' f' s' g
   cases s' d _ g with
   | fK h p'=>exact ⟨h,by rw [Paired.len p',List.length_map]; exact Nat.le_refl _⟩
noncomputable def wUnE (w:World) (we:WE):WE:=fun σ S Q=>we σ S fun t S'=>∃ d od kvs kts,S' d=some (.fK w od kvs kts) /\ Q t (put S' d (.dK kts))
noncomputable def wUnS (w:World) (u:WS):WS:=fun D σ S=>u { D with nx:=fun σ' S'=>∃ d od kvs kts,S' d=some (.fK w od kvs kts) /\ D.nx σ' (put S' d (.dK kts)) } σ S
theorem un_step {w:World} {d:Addr} {od:Obj} {kts:List (Key × T)} {kvs:List (Key × V)} (s:SRp K H S) (e:S d=some (.fK w od kvs kts)) :
   H d=some (fzH w d od kvs) /\ Fr H S (upd H d (.dK kvs)) (put S d (.dK kts)) /\ SRp K (upd H d (.dK kvs)) (put S d (.dK kts)):=by
 have hn:S d ≠ none:=by rw [e]; simp
 cases s d _ e with
 | fK h p=>exact ⟨h,Fr.write hn,s.write hn (.dK upd_same (Paired.mapP p fun _ _ z=>⟨z.1,z.2.fr (Fr.write hn)⟩))⟩
theorem q_unE {e:Expr} {we:WE} (h:QE K X e we):QE K X e (wUnE X.w we):=PE.of (PE.unf h) fun σ H Q zz91=>by
 obtain ⟨S,σt,Qt,s,c,q,hq⟩:=zz91
 refine ⟨S,σt,_,s,c,q,fun v H1 t S1 f1 s1 r1 q1=>?_⟩
 obtain ⟨d,od,kvs,kts,e,q1⟩:=q1
 obtain ⟨h1,f2,s2⟩:=un_step s1 e
 exact ⟨d,od,kvs,h1,hq v _ t _ (f1.trans f2) s2 (r1.fr f2) q1⟩
end
end T2
namespace T2
open PySem PySem.Spec PyProof.Rows L2
noncomputable def wCBK9 (g:List T->List T->Sto->(T->Sto->Prop)->Prop) (wr:WA) (wk:WE):WE:=fun σ S Q=>wr σ S fun ts S1=>wk σ S1 fun y S2=>g ts [y] S2 Q
section
variable {K:Fg} {X:Cx} {k:Nat} {f C:Addr} {fd:FuncData} {ps:List Str} {wsp:WSp} {x m fl:Str} {p pos apos cpos pos':Pos} {e o value:Expr} {es:List Expr} {wa wv:WE} {wr:WA} {G:Addr->Prop}
theorem Q_make0 (M:Mk X.K C f) (F:FnOk X.prog X.w X.K X.mg X.base CX0 k f fd ["self"] (lSp K wsp)) (hb:Binds X.K fd ["self"] []) (hr:Room (k + 1) X.A) (hg:Gl X x) (hm:X.mg x=some (.ref C)) (hdb:(x == ("__debug__":Str))=false:=by decide) :
   QE K X (.Call (.Name x p) [] [] pos) (wMake C wsp [] wNil):=q_make0 (dvs:=[]) (fun _ _=>.nil) (pe_make0 M F hr hg hm hb .nil pass0 hdb)
theorem Q_meth {pl:Sem Bool} (hG:∀ C,G C->Cls X.K C /\ Meth X.K C m f) (F:FnOk X.prog X.w X.K X.mg X.base CX0 k f fd ps (lSp K wsp)) (hb:Binds X.K fd ps []) (hr:Room k X.A) (ho:QE K X o wa) (ha:QA K X (e :: es) wr)
   (hst:starEach (e :: es) X.env=(false,eval e X.env) :: starEach es X.env:=by rfl) (hpl:(backTo pos (starEach es X.env)).any (·.1)=false:=by rfl)
   (ht:eval (.Call (.Attribute o m apos) (e :: es) [] pos) X.env=(do
     let ov <- eval o X.env
     standAt apos.atName
     let (f,first) <- holding [ov] (getMethod ov m pl)
     callWith pos f first (backTo pos (starEach (e :: es) X.env)) (backToKw pos (keywordEach [] X.env))):=by rfl) :
   QE K X (.Call (.Attribute o m apos) (e :: es) [] pos) (wMeth G m wsp [] wa wr):=q_meth (dvs:=[]) (fun _ _=>.nil) (pe_methG (pl:=pl) ho hG F hr hb .nil pass0 ha hst hpl ht)
theorem Q_meth0 {pl:Sem Bool} (hG:∀ C,G C->Cls X.K C /\ Meth X.K C m f) (F:FnOk X.prog X.w X.K X.mg X.base CX0 k f fd ps (lSp K wsp)) (hb:Binds X.K fd ps []) (hr:Room k X.A) (ho:QE K X o wa)
   (ht:eval (.Call (.Attribute o m apos) [] [] pos) X.env=(do
     let ov <- eval o X.env
     standAt apos.atName
     let (f,first) <- holding [ov] (getMethod ov m pl)
     callWith pos f first (backTo pos (starEach [] X.env)) (backToKw pos (keywordEach [] X.env))):=by rfl) :
   QE K X (.Call (.Attribute o m apos) [] [] pos) (wMeth G m wsp [] wa wNil):=q_meth0 (dvs:=[]) (fun _ _=>.nil) (pe_methG0 (pl:=pl) ho hG F hr hb .nil pass0 ht)
theorem Q_fld (hK:X.K=K) (hG:∀ C,G C->Cls K C /\ NoAttr K C fl) (he:QE K X o wa) (hb:attributeBase o fl X.env (eval o X.env)=eval o X.env:=by rfl):QE K X (.Attribute o fl pos) (wFld G wa fl):=q_fld hK hG he hb
theorem Q_inD (w:World) (hw:X.w=w):OpR X (compareOp .In) (l2 K (gInD w false)):=by subst hw; exact o_inD
theorem Q_items (w:World) {elts:List Expr} {x1:Nat} {tpos:Pos} (hw:X.w=w) (hK:X.K=K) (ho:QE K X o wa)
   (hbase:attributeBase o "items" X.env (eval o X.env)=eval o X.env:=by rfl) (hline:(apos.endLine == cpos.line)=true:=by rfl):QI K X (.Tuple elts x1 tpos) (.Call (.Attribute o "items" apos) [] [] cpos) (wiP w wa):=by subst hw; exact qi_items ho hK hbase hline
theorem Q_unE (w:World) (hw:X.w=w) (h:QE K X e wa):QE K X e (wUnE w wa):=by subst hw; exact q_unE h
structure FunD (K:Fg) (x qual:Str) (st:Stmt) (f:Addr) (fd:FuncData):Prop where
 ex:∃ (oc:Value) (od:Option Addr) (dV kV doc pm:Value) (an:Option Addr) (cdv ct:Value) (osl:Array (Option Value)),
   fd=PySem.W.fnOf x qual (defArgs st) (defBody st) (defScope st) dV kV doc pm an cdv ct /\ K.lookup f=some ⟨oc,od,.func fd,osl⟩ /\ PySem.W.codeIn K cdv qual=true
theorem Fun.toD {x qual:Str} {st:Stmt} (F:Fun K x qual st f fd):FunD K x qual st f fd:=by
 obtain ⟨oc,od,kV,doc,pm,an,cdv,ct,osl,h⟩:=F.ex
 exact ⟨⟨oc,od,.none,kV,doc,pm,an,cdv,ct,osl,h⟩⟩
theorem ok_defD {P:Program} {w:World} {mg:Str->Option Value} {base:Heap} {x qual:Str} {st:Stmt} {N:List Str} (F:FunD K x qual st f fd) (Sc:FnScope N ps (defScope st)) (len:∀ ts S Q,wsp ts S Q->ts.length=ps.length)
   (hbody:∀ (cdv:Value) (A:Around) (outer:List Env) (s:Shared) (H:Hp) (E:XK),Room k (A.deeper (envOfC qual (defScope st) s.heap.objs.size f cdv)) ->
     ∃ u,QSs K (cxOf CX0 P w K mg base N qual (defScope st) f cdv A outer s H E).nox (defBody st) u /\ ∀ ts S Q,wsp ts S Q->u { nx:=fun _ S'=>Fin Q .non S',rt:=Fin Q } (startT N ts) S):FnOk P w K mg base CX0 (k + 1) f fd ps (lSp K wsp):=by
 obtain ⟨oc,od,dV,kV,doc,pm,an,cdv,ct,osl,rfl,lk,hcd⟩:=F.ex
 refine fn_of lk hcd Sc (fun vs H Q E ⟨S,ts,Qt,s,r,q,_⟩=>by rw [r.length]; exact len _ _ _ q) fun A outer s H vs Q E hr ⟨S,ts,Qt,sr,r,q,b⟩=>?_
 obtain ⟨u,hu,hq⟩:=hbody cdv A outer s H E hr
 exact ⟨_,L2.PSs.nox hu,S,startT N ts,_,sr,cov_start r,hq ts S Qt q,⟨fun _ H' _ S' f s' _ q'=>Fin.ends b f s' .non q',fun v H' t S' f s' r' q'=>Fin.ends b f s' r' q',fun _ _ _ _ _ _ _ q'=>q'.elim,fun _ _ _ _ _ _ _ q'=>q'.elim⟩⟩
end
section
variable {σ:StT} {S:Sto} {D:EndsT} {Q:T->Sto->Prop} {R:Prop} {w:World} {a d C:Addr} {G:Addr->Prop} {fs:List (Str × T)} {m fl:Str} {t:T} {x y:T} {kts:List (Key × T)} {k:Key} {i:Int}
theorem i_make {wsp:WSp} {wr:WA} (h:wr σ S fun ts S1=>∀ x,S1 x=none->wsp (.ref x :: (ts ++ [])) (put S1 x (.ins C [])) (fun t S2=>t=.non /\ Q (.ref x) S2)):wMake C wsp [] wr σ S Q:=h
theorem i_meth {wsp:WSp} {dts:List T} {wa:WE} {wr:WA} (h:wa σ S fun x S1=>∃ a C fs,x=.ref a /\ S1 a=some (.ins C fs) /\ G C /\ fs.lookup m=none /\ wr σ S1 fun ts S2=>wsp (x :: (ts ++ dts)) S2 Q):wMeth G m wsp dts wa wr σ S Q:=h
theorem x_meth (e:S a=some (.ins C fs)) (g:G C) (l:fs.lookup m=none) (h:R):∃ a' C' fs',T.ref a=.ref a' /\ S a'=some (.ins C' fs') /\ G C' /\ fs'.lookup m=none /\ R:=⟨a,C,fs,rfl,e,g,l,h⟩
theorem i_fld {wa:WE} (h:wa σ S fun x S1=>∃ a C fs v,x=.ref a /\ S1 a=some (.ins C fs) /\ G C /\ fs.lookup fl=some v /\ Q v S1):wFld G wa fl σ S Q:=h
theorem x_fld {P:T->Prop} (e:S a=some (.ins C fs)) (g:G C) (l:fs.lookup fl=some t) (h:P t):∃ a' C' fs' v,T.ref a=.ref a' /\ S a'=some (.ins C' fs') /\ G C' /\ fs'.lookup fl=some v /\ P v:=⟨a,C,fs,t,rfl,e,g,l,h⟩
theorem i_sfld {wa wv:WE} (h:wv σ S fun y S1=>wa σ S1 fun x S2=>∃ a C fs,x=.ref a /\ S2 a=some (.ins C fs) /\ G C /\ fs.length < 1000 /\ D.nx σ (put S2 a (.ins C (putT fl y fs)))):wSFld G wa wv fl D σ S:=h
theorem x_sfld {P:Addr->Addr->List (Str × T)->Prop} (e:S a=some (.ins C fs)) (g:G C) (l:fs.length < 1000) (h:P a C fs):∃ a' C' fs',T.ref a=.ref a' /\ S a'=some (.ins C' fs') /\ G C' /\ fs'.length < 1000 /\ P a' C' fs':=⟨a,C,fs,rfl,e,g,l,h⟩
theorem i_cbk {g:List T->List T->Sto->(T->Sto->Prop)->Prop} {wr:WA} {wk:WE} (h:wr σ S fun ts S1=>wk σ S1 fun y S2=>g ts [y] S2 Q):wCBK9 g wr wk σ S Q:=h
theorem i_unS {u:WS} (h:u { D with nx:=fun σ' S'=>∃ d od kvs kts,S' d=some (.fK w od kvs kts) /\ D.nx σ' (put S' d (.dK kts)) } σ S):wUnS w u D σ S:=h
theorem i_unE {we:WE} (h:we σ S fun t S'=>∃ d od kvs kts,S' d=some (.fK w od kvs kts) /\ Q t (put S' d (.dK kts))):wUnE w we σ S Q:=h
theorem i_dnew (h:∀ p,S p=none->Q (.ref p) (put S p (.dK []))):wDNew σ S Q:=h
theorem g_inD {n:Bool} (e:S a=some (.dK kts)) (ek:keyOf x=some k) (h:Q (.bl (n ^^ (valT kts k).isSome)) S):gInD w n x (.ref a) S Q:=⟨a,kts,k,rfl,.inl e,ek,h⟩
theorem g_setD {v:T} {Q:Sto->Prop} (e:S a=some (.dK kts)) (ek:keyOf y=some k) (l:kts.length < sizeLine) (h:Q (put S a (.dK (putT8 kts k v)))):gSetD (.ref a) y v S Q:=⟨a,kts,k,rfl,e,ek,l,h⟩
theorem m_dct {R:Prop} (e:S a=some (.dK kts)) (h:R):tyM "dict" S (.ref a) /\ R:=⟨by delta tyM; dsimp only; rw [e],h⟩
theorem i_iK {wa:WE} {R:Src->Sto->Prop} (h:wa σ S fun x S1=>∃ d kts,x=.ref d /\ S1 d=some (.dK kts) /\ ∀ od kvs,R ⟨kts.map fun kv=>keyT kv.1,fun S'=>S' d=some (.fK w od kvs kts)⟩ (put S1 d (.fK w od kvs kts))):wiK w wa σ S R:=h
theorem i_iP {wa:WE} {R:Src->Sto->Prop} (h:wa σ S fun x S1=>∃ d kts,x=.ref d /\ S1 d=some (.dK kts) /\ ∀ od kvs,R ⟨kts.map pairT,fun S'=>S' d=some (.fK w od kvs kts)⟩ (put S1 d (.fK w od kvs kts))):wiP w wa σ S R:=h
theorem x_it {P:Addr->List (Key × T)->Prop} (e:S d=some (.dK kts)) (h:P d kts):∃ d' kts',T.ref d=.ref d' /\ S d'=some (.dK kts') /\ P d' kts':=⟨d,kts,rfl,e,h⟩
theorem x_un {P:Addr->List (Key × T)->Prop} {od:Obj} {kvs:List (Key × V)} (e:S d=some (.fK w od kvs kts)) (h:P d kts):∃ d' od' kvs' kts',S d'=some (.fK w od' kvs' kts') /\ P d' kts':=⟨d,od,kvs,kts,e,h⟩
end
end T2
namespace T2
open PySem PySem.Spec PyProof.Rows L2 S6
theorem args_sorted0 (a:Value):argsOk "sorted" ⟨[a],[]⟩:=by unfold argsOk; kernel_rfl
theorem args_list_sort0 (a:Value):argsOk "list.sort" ⟨[a],[]⟩:=by unfold argsOk; kernel_rfl
theorem sort_plain_eq (a:Addr):Builtin.«list.sort» ⟨[.ref a],[]⟩=(do
   let items <- Builtin.List.listItems (.ref a)
   Builtin.List.listUpdate (.ref a) fun _=>#[]
   let before <- seqEpoch a
   let held <- newTuple items.toList
   let keyStore <- newList []
   holding [held,keyStore] do
     let keys <- pure items
     let kind <- if items.size < 2 then pure general' else keyKind' keys
     let ((),s) <- (if items.size < 2 then pure () else sortRuns').run (SortSt.mk' kind (keys.zip items) #[] 7 none)
     let sorted:=(arrOf s).map (·.2)
     let touched:=(<- seqEpoch a) != before
     Builtin.List.listUpdate (.ref a) fun _=>sorted
     if let some e:=failedOf s then rule "list.sort.comparison-raised"; throw e
     if touched then rule "list.sort.modified"; raiseError "ValueError" "list modified during sort"
     ret .none):=by rfl
noncomputable def gSort (tr:Bool):List T->Sto->(T->Sto->Prop)->Prop:=fun ts S Q=>∃ x xs κ k0,ts=[x] /\ viewL S x=some xs /\ xs.length < 64 /\ fit k0=true /\ k0.dep <= 30 /\
 (∀ t ∈ xs,Ky.ok (κ t)=true /\ Ky.shp k0 (κ t)=true /\ tre (κ t)=t) /\ srtd tr xs κ S Q
theorem c_sort {X:Cx} {K:Fg} (tr:Bool) (hK:X.K=K) (hr:Room 2 X.A) :
   CallR X (.builtin "sorted") (lC K (gSort tr)):=by
 rintro pins s σ H xs us Q I rv ⟨S,ts,Qt,sr,r1,⟨x,ls,κ,k0,e1,ev,h64,hf,hd,hk,hq⟩,b⟩
 subst e1
 cases r1 with
 | cons rx rnil =>
 cases rnil
 obtain ⟨u,rfl,ru⟩:=vals1 rv
 obtain ⟨pl,vs,rfl,hS,rs⟩:=viewL_sq sr rx ev
 cases ru
 have hS':SqL X.K H pl vs:=by rw [hK]; exact hS
 obtain ⟨its,rvs,hpl,hz⟩:=I.list hS'
 obtain ⟨o,n,eo,ec,_,ed⟩:=hpl
 have hlen:its.length=ls.length:=by rw [<- rvs.length,rs.length]
 have hsl:its.length <= sizeLine:=by rw [<- rvs.length]; exact hz
 show wpAny _ X.A (call (.builtin "sorted") [.ref pl] []) _ _ s
 refine call_tree_kw kind_sorted plain_sorted entry_sorted (args_sorted0 _) ?_
 unfold Builtin.«sorted»
 refine wpAny_bind (m:=checkCount "sorted" 1 1 _) (wpAny_pure ?_)
 refine wpAny_bind (collect_list (l:=pl) (vs:=its) ⟨o,eo,ec,n,ed⟩ ?_ hsl)
 refine wpAny_bind (wpAny_newList ?_ hsl)
 generalize hh1:(s.heap.push (seqObj "list" #[] 0)).update s.heap.objs.size (Obj.mapSeq (· ++ its.toArray))=h1
 have old1:∀ b u,s.heap.get? b=some u->h1.get? b=some u:=fun b u e=>by
   rw [<- hh1]
   exact (Heap.get?_update_other _ _ (Ne.symm (Nat.ne_of_lt (Heap.lt_size e)))).trans (Heap.get?_push_of_some _ e)
 have sz1:s.heap.objs.size <= h1.objs.size:=by rw [<- hh1,Heap.size_update,size_push']; omega
 dsimp only
 have hoL:(h1.push (seqObj "list" its.toArray 0)).get? h1.objs.size=some (seqObj "list" its.toArray 0):=Heap.get?_push_size _ rfl
 refine wpAny_bind (wpAny_holding (call_entry_kw slot_list_sort (Ty:="list") ⟨_,hoL,rfl⟩ entry_list_sort ?_ (args_list_sort0 _)))
 rw [sort_plain_eq]
 refine wpAny_bind (listItems_at hoL rfl ?_)
 refine wpAny_bind (listUpdate_at hoL rfl ?_ (by simpa using hsl) (by simp))
 obtain ⟨ep,ho1⟩:∃ ep,((h1.push (seqObj "list" its.toArray 0)).update h1.objs.size (Obj.mapSeq fun _=>#[])).get? h1.objs.size=some (seqObj "list" #[] ep):=⟨_,get?_update_seq hoL (fun _=>#[])⟩
 refine wpAny_bind (seqEpoch_at ho1 rfl ?_)
 generalize hL:h1.objs.size=L at *
 generalize hh2:(h1.push (seqObj "list" its.toArray 0)).update L (Obj.mapSeq fun _=>#[])=h2 at *
 have szh2:h2.objs.size=L + 1:=by rw [<- hh2,Heap.size_update,size_push',hL]
 have I2:Inv X pins σ (upd H L (objH L (seqObj "list" #[] ep))) { s with heap:=h2,toks:=s.toks } :=
   objNew I (fun b u e=>by rw [<- hh2]; exact (Heap.get?_update_other _ _ (Ne.symm (Nat.ne_of_lt (Nat.lt_of_lt_of_le (Heap.lt_size e) sz1)))).trans (Heap.get?_push_of_some _ (old1 b u e))) sz1 ho1
 refine wpAny_bind (wpAny_newTuple ?_ (by simpa using hsl))
 refine wpAny_bind (wpAny_newList ?_)
 dsimp only
 generalize hh3:h2.push { cls:=.type "tuple",data:=.seq its.toArray.toList.toArray }=h3
 have szh3:h3.objs.size=L + 2:=by rw [<- hh3,size_push',szh2]
 generalize hh4:h3.push { cls:=.type "list",data:=.seq ([]:List Value).toArray }=h4
 rw [szh3]
 have I4:Inv X pins σ (upd (upd H L (objH L (seqObj "list" #[] ep))) (L + 2) (accH (L + 2) [])) { s with heap:=h4,toks:=s.toks } :=
   accNew (s:={ s with heap:=h2,toks:=s.toks }) I2 (fun b u e=>by rw [<- hh4,<- hh3]; exact Heap.get?_push_of_some _ (Heap.get?_push_of_some _ e)) (by show h2.objs.size <= _; omega) .nil (Nat.zero_le _) (by rw [<- hh4,<- szh3]; exact Heap.get?_push_size _ rfl)
 have ne1:L + 2 ≠ L:=Nat.ne_of_gt (Nat.lt_add_of_pos_right (by decide))
 have ne2:L ≠ L + 2:=Ne.symm ne1
 have nL:H L=none:=I.hok.fresh sz1
 have nk:H (L + 2)=none:=I.hok.fresh (by omega)
 have nk2:upd H L (objH L (seqObj "list" #[] ep)) (L + 2)=none:=by rw [upd_ne ne1]; exact nk
 have nSL:S L=none:=sr.fresh nL
 have nSk:S (L + 2)=none:=sr.fresh nk
 generalize hHc:upd (upd H L (objH L (seqObj "list" #[] ep))) (L + 2) (accH (L + 2) [])=Hc at *
 have eL:Hc L=some (objH L (seqObj "list" #[] ep)):=by rw [<- hHc,upd_ne ne2]; exact upd_same
 have ek:Hc (L + 2)=some (accH (L + 2) []):=by rw [<- hHc]; exact upd_same
 have fc:Fr H S Hc S:=by rw [<- hHc]; exact (Fr.new nL).trans (Fr.new nk2)
 have sc:SRp K Hc S:=by rw [<- hHc]; exact (sr.new nL).new nk2
 refine wpAny_holding (wpAny_bind (wpAny_pure ?_))
 generalize hs5:({ s with heap:=h4,toks:=s.toks }:Shared)=s5 at *
 have rs5:=rs.fr fc
 obtain ⟨R,q1,q2,q3,q4,q5⟩:=recs_of rs5 rvs (rfl:its.length=its.length)
 have key:∀ r ∈ R,KR s5 r.ku (κ r.t) /\ Ky.shp k0 (κ r.t)=true:=by
   have go:∀ {R:List Rec} {vs:List V},Rps K Hc S (R.map (·.t)) vs->Vals vs (R.map (·.ku))->(∀ r ∈ R,r.t ∈ ls)->∀ r ∈ R,KR s5 r.ku (κ r.t) /\ Ky.shp k0 (κ r.t)=true:=by
     intro R
     induction R with
     | nil=>intro _ _ _ _ r hr; cases hr
     | cons r0 R ih =>
       intro kvs a b m r hr
       cases a with
       | cons a1 a2 =>
         cases b with
         | cons b1 b2 =>
           rcases List.mem_cons.mp hr with rfl | hr
           . have:=hk r.t (m r (List.mem_cons_self ..))
             exact ⟨kr_of hK I4 (by rw [this.2.2]; exact a1) b1 this.1,this.2.1⟩
           . exact ih a2 b2 (fun x hx=>m x (List.mem_cons_of_mem _ hx)) r hr
   exact go (by rw [q1]; exact rs5) (by rw [q4]; exact rvs) fun r hr=>by rw [<- q1]; exact List.mem_map_of_mem hr
 refine sort_core (k0:=k0) rfl (by rw [hlen]; exact h64) hf (fun v hv=>?_) (by have:=hr.in1.in1.units; omega) fun st hp hfail hsrt=>?_
 . rw [<- q4] at hv
   obtain ⟨r,hr,rfl⟩:=List.mem_map.mp hv
   exact ⟨_,key r hr⟩
 . obtain ⟨R',pR,eR⟩:=perm_map (fun r:Rec=>((r.ku,r.u):Keyed)) (Array.perm_iff_toList_perm.mp hp) (l:=R) (by
     have:(its.toArray.zip its.toArray).toList=its.zip its:=by simp
     rw [this]
     conv=>lhs; arg 1; rw [<- q4]
     conv=>lhs; arg 2; rw [<- q3]
     exact List.zip_map')
   have memR:∀ r ∈ R',r ∈ R:=fun r hr=>pR.mem_iff.mp hr
   obtain ⟨rz,vz⟩:=rps_recs fun r hr=>q5 r (memR r hr)
   have lR:R'.length=its.length:=by rw [pR.length_eq,<- q3,List.length_map]
   have szR:(arrOf st).size=R'.length:=by rw [<- Array.length_toList,eR,List.length_map]
   have at_:∀ k (h:k < (arrOf st).size) (h':k < R'.length),(arrOf st)[k].1=R'[k].ku:=fun k h h'=>by
     have e1:(arrOf st)[k]=(arrOf st).toList[k]'(by simpa using h):=by simp
     rw [e1,List.getElem_of_eq eR,List.getElem_map]
   have srt:(R'.map (·.t)).Pairwise (fun a b=>Ky.lt (κ b) (κ a)=false):=by
     rw [List.pairwise_map,List.pairwise_iff_getElem]
     intro i j hi hj ij
     have:=hsrt i j (by rw [szR]; exact hj) (by rw [szR]; exact hi) (Nat.le_of_lt ij)
     rw [at_ i (by rw [szR]; exact hi) hi,at_ j (by rw [szR]; exact hj) hj,keyAt_eq (key _ (memR _ (List.getElem_mem hi))).1,keyAt_eq (key _ (memR _ (List.getElem_mem hj))).1] at this
     exact this
   have fin:=hq (R'.map (·.t)) (by rw [<- q1]; exact pR.map _) srt
   have eL5:=objAt I4 eL
   have out:(arrOf st).map (·.2)=(R'.map (·.u)).toArray:=by
     apply Array.toList_inj.mp
     rw [Array.toList_map,eR,List.map_map]
     rfl
   dsimp only
   refine wpAny_bind (seqEpoch_at eL5 rfl ?_)
   refine wpAny_bind (listUpdate_at eL5 rfl ?_ (by simp) (by rw [out]; simp; omega))
   rw [hfail]
   simp only [bne_self_eq_false,Bool.false_eq_true,if_false]
   have I7:=accSet I4 eL (its:=[]) eL5 (f:=fun _=>(arrOf st).map (·.2)) (its':=R'.map (·.u)) out vz (by rw [List.length_map,lR]; exact hsl)
   have I8:=I7.ofAcc (D:=L) upd_same
   rw [upd_upd] at I8
   refine wpAny_pure ⟨_,rfl,wpAny_pure ⟨.ref L,_,I8,rfl,?_⟩⟩
   cases tr with
   | false=>exact b _ _ (.lst _) S (Fr.at fc nL) (sc.chg eL nSL) (.lst nSL upd_same (Rps.chg eL rz)) fin
   | true =>
     refine b _ _ (.ref L) _ (fun a o h nn=>?_) (SRp.trk eL sc rz) .ref (fin L nSL)
     have ha:a ≠ L:=ne_of_none h nL
     rw [put_ne ha]
     exact Fr.at fc nL a o h nn
theorem g_sort {α:Type} {S:Sto} {Q:T->Sto->Prop} {tr:Bool} {ls:List α} {x:T} (κ:α->Ky) (κT:T->Ky) (k0:Ky) (e:viewL S x=some (ls.map fun a=>tre (κ a))) (hT:∀ a ∈ ls,κT (tre (κ a))=κ a) (h64:ls.length < 64) (hf:fit k0=true) (hd:k0.dep <= 30)
   (hk:∀ a ∈ ls,Ky.ok (κ a)=true /\ Ky.shp k0 (κ a)=true)
   (h:∀ l':List α,l'.Perm ls->l'.Pairwise (fun a b=>Ky.lt (κ b) (κ a)=false)->newL tr (l'.map fun a=>tre (κ a)) S Q):gSort tr [x] S Q:=by
 refine ⟨x,ls.map fun a=>tre (κ a),κT,k0,rfl,e,by rw [List.length_map]; exact h64,hf,hd,fun t ht=>?_,fun zs hp hs=>?_⟩
 . obtain ⟨a,ha,rfl⟩:=List.mem_map.mp ht
   have:=hk a ha
   rw [hT a ha]
   exact ⟨this.1,this.2,rfl⟩
 . obtain ⟨l',p,rfl⟩:=perm_map (fun a=>tre (κ a)) hp rfl
   rw [List.pairwise_map] at hs
   refine h l' p (hs.imp_of_mem fun {a b} ha hb q=>?_)
   rw [hT a (p.mem_iff.mp ha),hT b (p.mem_iff.mp hb)] at q
   exact q
end T2
namespace L2
open PySem PySem.Spec PyProof.Rows
end L2
namespace T2
open PySem PySem.Spec PyProof.Rows L2
section
variable {K:Fg} {X:Cx} {H:Hp} {S:Sto}
theorem i_iR2 {σ:StT} {wa wb:WE} {R:Src->Sto->Prop} (h:wa σ S fun x S1=>wb σ S1 fun y S2=>match x,y with
 | .int i,.int j=>(-(2 ^ 62) <= i /\ i < 2 ^ 62 /\ -(2 ^ 62) <= j /\ j < 2 ^ 62) /\ R ⟨rangeT i (j - i).toNat,fun _=>True⟩ S2
 | _,_=>False):wiR2 wa wb σ S R:=h
theorem i_rng2 {i j:Int} {A:Prop} (h0:-(2 ^ 62) <= i) (h1:i < 2 ^ 62) (h2:-(2 ^ 62) <= j) (h3:j < 2 ^ 62) (h:A):(-(2 ^ 62) <= i /\ i < 2 ^ 62 /\ -(2 ^ 62) <= j /\ j < 2 ^ 62) /\ A:=⟨⟨h0,h1,h2,h3⟩,h⟩
end
end T2
namespace T2
open PySem PySem.Spec PyProof.Rows L2 S6
section
variable {K:Fg} {X:Cx} {H:Hp} {S:Sto}
end
end T2
namespace L2
open PySem PySem.Spec PyProof.Rows
end L2
namespace T2
open PySem PySem.Spec PyProof.Rows L2
section
variable {K:Fg} {X:Cx}
end
end T2
namespace T2
open PySem PySem.Spec PyProof.Rows L2
section
variable {K:Fg} {X:Cx} {e:Expr} {wa:WE}
end
end T2
namespace Xc
open PySem
noncomputable def Tb (h:Heap) (e:Addr):Prop:=∃ oe vs T,h.get? e=some oe /\ oe.data=.fields vs /\ vs[1]?=some (.ref T)
structure Ent (fr:List Addr) (e:Addr) (oe:Obj) (h h':Heap):Prop where
 it:∃ T o ts,h.objs.size <= T /\ h'.get? e=some (oe.mapFields (·.setIfInBounds 1 (.ref T))) /\ h'.get? T=some o /\ o.data=.fields ts /\ 3 < ts.size
 keep:∀ b o,h.get? b=some o->b ≠ e->b ∉ fr->h'.get? b=some o
 slot:∀ b o,h.get? b=some o->b ≠ e->∃ sl,h'.get? b=some { o with slots:=sl }
section
variable {M:Model} {A:Around} {E:Value->Shared->Prop} {s:Shared}
theorem entry_it {base:Heap} {env:Env} {outer:List Env} {L e:Addr} {oe:Obj} {vs:Array Value} {hd:Value} {nx:Bool} {fo:Option Addr} {Q:Unit->Shared->Prop}
   (fr:A.frames=some (env :: outer)) (ff:s.heap.FunFrames base (env :: outer)) (ef:env.frame=some L) (ge:s.heap.get? e=some oe) (de:oe.data=.fields vs) (sz:1 < vs.size)
   (k:∀ h',Ent ((env :: outer).filterMap (·.frame)) e oe s.heap h'->Q () { s with heap:=h' }) :
   wpAny M A (do let a <- frameOf env; let pl <- entryPlaceOf L nx; let b <- EntryCells.newEntry hd a .none (rawInt L) .none pl; setField (.ref e) 1 b) (fun _ s'=>Tb s'.heap e /\ wpAny M A (setFlight (.ref e) fo) Q E s') E s:=by
 have nfr:e ∉ (env :: outer).filterMap (·.frame):=fun z=>by
   obtain ⟨_,o,q,nf⟩:=ff.mem z
   rw [ge] at q; cases q; exact nf vs de
 refine wpAny_bind (wpAny_frameOf_fun fr ff ef fun h1 so=>wpAny_bind (wpAny_entryPlaceOf fun pl ip=>?_))
 unfold EntryCells.newEntry newFields
 refine wpAny_bind (wpAny_newObj_type ?_ (ip.sizeOk5 _ _ _ _ _))
 have ge1:h1.get? e=some oe:=(so.2.1 e nfr).trans ge
 generalize hob:({ cls:=.type "traceback",dict:=none,data:=.fields ([hd,.ref L,.none,rawInt L,.none] ++ (if pl.isEmpty then List.replicate 6 Value.none else pl)).toArray }:Obj)=ot
 have dt:ot.data=.fields ([hd,.ref L,.none,rawInt L,.none] ++ (if pl.isEmpty then List.replicate 6 Value.none else pl)).toArray:=by rw [<- hob]
 have ot0:ot.isFreed=false:=Obj.isFreed_of_fields dt
 have ge2:(h1.push ot).get? e=some oe:=Heap.get?_push_of_some ot ge1
 have neT:h1.objs.size ≠ e:=Nat.ne_of_gt (Heap.lt_size ge1)
 have de3:=Obj.data_mapFields de (·.setIfInBounds 1 (Value.ref h1.objs.size))
 refine wpAny_setField ge2 de sz ?_
 have ge3:=Heap.get?_update_self (Obj.mapFields (·.setIfInBounds 1 (Value.ref h1.objs.size))) ge2 (Obj.isFreed_of_fields de3)
 have gT3:((h1.push ot).update e (Obj.mapFields (·.setIfInBounds 1 (Value.ref h1.objs.size)))).get? h1.objs.size=some ot:=(Heap.get?_update_other _ _ (Ne.symm neT)).trans (Heap.get?_push_size h1 ot0)
 refine ⟨⟨_,_,h1.objs.size,ge3,de3,by simp [sz]⟩,?_⟩
 unfold setFlight
 refine wpAny_bind (wpAny_field ge3 de3 (x:=.ref h1.objs.size) (by simp [sz]) ?_)
 rw [if_pos (show (Value.ref h1.objs.size != Value.none)=true from by simp)]
 have sz3:3 < ([hd,Value.ref L,.none,rawInt L,.none] ++ (if pl.isEmpty then List.replicate 6 Value.none else pl)).toArray.size:=by simp
 refine wpAny_setField gT3 dt sz3 (k _ ?_)
 have kp:∀ b o,b ≠ e->h1.get? b=some o->(((h1.push ot).update e (Obj.mapFields (·.setIfInBounds 1 (Value.ref h1.objs.size)))).update h1.objs.size (Obj.mapFields (·.setIfInBounds 3 (fo.elim Value.none fun f=>rawInt f)))).get? b=some o:=fun b o nb hb=>by
   rw [Heap.get?_update_other _ _ (Nat.ne_of_gt (Heap.lt_size hb)),Heap.get?_update_other _ _ (Ne.symm nb)]
   exact Heap.get?_push_of_some ot hb
 refine ⟨⟨h1.objs.size,_,_,Nat.le_of_eq so.1.symm,?_,Heap.get?_update_self _ gT3 (Obj.isFreed_of_fields (Obj.data_mapFields dt _)),Obj.data_mapFields dt _,?_⟩,fun b o hb nb nf=>kp b o nb ((so.2.1 b nf).trans hb),fun b o hb nb=>?_⟩
 . rw [Heap.get?_update_other _ _ neT]; exact ge3
 . rw [Array.size_setIfInBounds]; exact sz3
 . obtain ⟨sl,q⟩:=so.2.2 b o hb
   exact ⟨sl,kp b _ nb q⟩
noncomputable def Exc (h:Heap) (lo:Nat) (N:Addr->Prop) (e:Addr) (cls:Value) (dct:Option Addr):Prop :=
 ∃ oe vs hd,h.get? e=some oe /\ oe.cls=cls /\ oe.dict=dct /\ oe.data=.fields vs /\ (vs[1]?=some hd /\ vs[2]?=some .none) /\ lo <= e /\ N e /\
   (hd=.none \/ ∃ T oT ts,hd=.ref T /\ lo <= T /\ N T /\ T ≠ e /\ h.get? T=some oT /\ oT.data=.fields ts /\ 3 < ts.size)
structure Past (fr ch:List Addr) (h h':Heap):Prop where
 keep:∀ b o,h.get? b=some o->b ∉ ch->b ∉ fr->h'.get? b=some o
 slot:∀ b o,h.get? b=some o->b ∈ fr->∃ sl,h'.get? b=some { o with slots:=sl }
 there:∀ b o,h.get? b=some o->∃ o',h'.get? b=some o'
theorem dict_map (o:Obj) (f:Array Value->Array Value):(o.mapFields f).dict=o.dict:=by
 obtain ⟨c,d,dt,sl⟩:=o
 cases dt <;> rfl
theorem Exc.mono {h:Heap} {lo lo':Nat} {N:Addr->Prop} {e:Addr} {cls:Value} {dct:Option Addr} (x:Exc h lo N e cls dct) (l:lo' <= lo):Exc h lo' N e cls dct:=by
 obtain ⟨oe,vs,hd,ge,c,d,de,e1,le,ne,hh⟩:=x
 refine ⟨oe,vs,hd,ge,c,d,de,e1,Nat.le_trans l le,ne,hh.imp id fun zz92=>by obtain ⟨T,oT,ts,r,lT,q⟩:=zz92; exact ⟨T,oT,ts,r,Nat.le_trans l lT,q⟩⟩
theorem Exc.there {h:Heap} {lo:Nat} {N:Addr->Prop} {e:Addr} {cls:Value} {dct:Option Addr} (x:Exc h lo N e cls dct):∃ oe,h.get? e=some oe /\ oe.cls=cls /\ oe.dict=dct:=by
 obtain ⟨oe,vs,hd,ge,c,d,_⟩:=x
 exact ⟨oe,ge,c,d⟩
theorem note_it {base:Heap} {env:Env} {outer:List Env} {L e:Addr} {lo:Nat} {N:Addr->Prop} {cls:Value} {dct fo:Option Addr} {Q:Unit->Shared->Prop}
   (fr:A.frames=some (env :: outer)) (ff:s.heap.FunFrames base (env :: outer)) (ef:env.frame=some L) (hN:∀ b,s.heap.objs.size <= b->N b) (hlo:lo <= s.heap.objs.size) (x:Exc s.heap lo N e cls dct)
   (k:∀ h' ch,(∀ b ∈ ch,lo <= b /\ N b /\ b ∉ (env :: outer).filterMap (·.frame) /\ ∃ o vs,s.heap.get? b=some o /\ o.data=.fields vs)->Past ((env :: outer).filterMap (·.frame)) ch s.heap h'->Exc h' lo N e cls dct->Q () { s with heap:=h' }) :
   wpAny M A (noteFrame (.ref e) env) (fun _ s'=>Tb s'.heap e /\ wpAny M A (setFlight (.ref e) fo) Q E s') E s:=by
 obtain ⟨oe,vs,hd,ge,rfl,rfl,de,e1,le,ne,hh⟩:=x
 have sz:1 < vs.size:=(Array.getElem?_eq_some_iff.mp e1.1).1
 have nofld:∀ b ∈ (env :: outer).filterMap (·.frame),∀ o,s.heap.get? b=some o->∀ vs,o.data ≠ .fields vs:=fun b hb o q=>by
   obtain ⟨_,o',q',nf⟩:=ff.mem hb
   rw [q] at q'; cases q'; exact nf
 have nfe:e ∉ (env :: outer).filterMap (·.frame):=fun z=>nofld e z _ ge vs de
 have fin:∀ (g h':Heap),g.objs.size=s.heap.objs.size->Ent ((env :: outer).filterMap (·.frame)) e oe g h'->Exc h' lo N e oe.cls oe.dict:=by
   rintro g h' sg ⟨⟨T,o,ts,hT,gE,gT,dT,e3⟩,_,_⟩
   have hT':s.heap.objs.size <= T:=by omega
   refine ⟨_,_,.ref T,gE,Obj.cls_mapFields _ _,dict_map _ _,Obj.data_mapFields de _,⟨by simp [sz],by rw [Array.getElem?_setIfInBounds,if_neg (by decide)]; exact e1.2⟩,le,ne,.inr ⟨T,o,ts,rfl,Nat.le_trans hlo hT',hN T hT',fun z=>?_,gT,dT,e3⟩⟩
   have q:e < s.heap.objs.size:=Heap.lt_size ge
   rw [z] at hT'
   exact absurd (Nat.lt_of_lt_of_le q hT') (Nat.lt_irrefl _)
 unfold noteFrame
 simp only [ef]
 refine wpAny_bind (wpAny_field ge de e1.1 ?_)
 rcases hh with rfl | ⟨T,oT,ts,rfl,lT,nT,neT,gT,dT,e3⟩
 . rw [if_neg (by decide)]
   refine entry_it fr ff ef ge de sz fun h' en=>k h' [e] (fun b hb=>by rw [List.mem_singleton.mp hb]; exact ⟨le,ne,nfe,_,_,ge,de⟩) ⟨fun b o hb hk nf=>en.keep b o hb (fun z=>hk (List.mem_singleton.mpr z)) nf,fun b o hb hf=>en.slot b o hb fun z=>nfe (z ▸ hf),fun b o hb=>?_⟩ (fin s.heap h' rfl en)
   by_cases z:b=e
   . subst z
     obtain ⟨T,_,_,_,q,_⟩:=en.it
     exact ⟨_,q⟩
   . obtain ⟨sl,q⟩:=en.slot b o hb z
     exact ⟨_,q⟩
 . rw [if_pos (show (Value.ref T != Value.none)=true from by simp)]
   refine wpAny_bind (wpAny_field gT dT (Array.getElem?_eq_getElem e3) ?_)
   have nfT:T ∉ (env :: outer).filterMap (·.frame):=fun z=>nofld T z _ gT ts dT
   by_cases hfl:(ts[3] == rawInt L)=true
   . rw [if_pos hfl]
     refine wpAny_pure ⟨⟨_,_,T,ge,de,e1.1⟩,?_⟩
     unfold setFlight
     refine wpAny_bind (wpAny_field ge de e1.1 ?_)
     rw [if_pos (show (Value.ref T != Value.none)=true from by simp)]
     refine wpAny_setField gT dT e3 (k _ [T] (fun b hb=>by rw [List.mem_singleton.mp hb]; exact ⟨lT,nT,nfT,_,_,gT,dT⟩) ⟨fun b o hb nb _=>?_,fun b o hb z=>?_,fun b o hb=>?_⟩ ?_)
     . rw [Heap.get?_update_other _ _ (fun z=>nb (List.mem_singleton.mpr z.symm))]; exact hb
     . have nb:T ≠ b:=fun q=>nfT (q ▸ z)
       exact ⟨o.slots,by rw [Heap.get?_update_other _ _ nb]; exact hb⟩
     . by_cases z:b=T
       . subst z
         exact ⟨_,Heap.get?_update_self _ gT (Obj.isFreed_of_fields (Obj.data_mapFields dT _))⟩
       . exact ⟨o,by rw [Heap.get?_update_other _ _ (Ne.symm z)]; exact hb⟩
     . exact ⟨oe,vs,.ref T,(Heap.get?_update_other _ _ neT).trans ge,rfl,rfl,de,e1,le,ne,.inr ⟨T,_,_,rfl,lT,nT,neT,Heap.get?_update_self _ gT (Obj.isFreed_of_fields (Obj.data_mapFields dT _)),Obj.data_mapFields dT _,by rw [Array.size_setIfInBounds]; exact e3⟩⟩
   rw [if_neg hfl]
   refine wpAny_bind (wpAny_setField gT dT e3 ?_)
   generalize hg:s.heap.update T (Obj.mapFields (·.setIfInBounds 3 Value.none))=g
   have ot:∀ b,b ≠ T->g.get? b=s.heap.get? b:=fun b nb=>by rw [<- hg]; exact Heap.get?_update_other _ _ (Ne.symm nb)
   have sg:g.objs.size=s.heap.objs.size:=by rw [<- hg]; exact Heap.size_after_update ..
   have ff':g.FunFrames base (env :: outer):=ff.of_keeps fun b o hb nf=>⟨o,(ot b fun z=>by subst z; rw [gT] at hb; cases hb; exact nf ts dT).trans hb,rfl⟩
   refine entry_it (s:={ s with heap:=g }) fr ff' ef ((ot e (Ne.symm neT)).trans ge) de sz fun h' en=>k h' [e,T] (fun b hb=>?_) ⟨fun b o hb hk nf=>en.keep b o ((ot b fun z=>hk (by rw [z]; simp)).trans hb) (fun z=>hk (by rw [z]; simp)) nf,fun b o hb hf=>en.slot b o ((ot b fun z=>nfT (z ▸ hf)).trans hb) fun z=>nfe (z ▸ hf),fun b o hb=>?_⟩ (fin g h' sg en)
   . rcases List.mem_cons.mp hb with z | z
     . rw [z]; exact ⟨le,ne,nfe,_,_,ge,de⟩
     . rw [List.mem_singleton.mp z]; exact ⟨lT,nT,nfT,_,_,gT,dT⟩
   . by_cases z:b=e
     . subst z
       obtain ⟨T,_,_,_,q,_⟩:=en.it
       exact ⟨_,q⟩
     . by_cases z2:b=T
       . subst z2
         have gT':g.get? b=some (oT.mapFields (·.setIfInBounds 3 Value.none)):=by rw [<- hg]; exact Heap.get?_update_self _ gT (Obj.isFreed_of_fields (Obj.data_mapFields dT _))
         obtain ⟨sl,q⟩:=en.slot b _ gT' z
         exact ⟨_,q⟩
       . obtain ⟨sl,q⟩:=en.slot b o ((ot b z2).trans hb) z
         exact ⟨_,q⟩
end
end Xc
namespace L2
open PySem PySem.Spec PyProof.Rows
noncomputable def CX1 (P:Program) (w:World):CXT:=fun outer H s E e s'=>∃ a C dct H',e=.ref a /\ s'.os=s.os /\ AllBare s'.gens /\ Un (frs outer) [] H H' s.heap s'.heap /\ HOk P w H' s'.heap /\
 Xc.Exc s'.heap s.heap.objs.size (fun b=>H' b=none) a (.ref C) dct /\ E (.ref C) dct H'
noncomputable abbrev XS:=Addr->Option Addr->St->Hp->Prop
structure Low (X:Cx) (pins:List (Addr × Obj)) (lo:Nat):Prop where
 s0:X.s₀.heap.objs.size <= lo
 loc:X.env.locals < lo
 cell:∀ x c,X.env.cells.lookup x=some c->c < lo
 pin:∀ p ∈ X.pn ++ pins,p.1 < lo
noncomputable def XP (X:Cx) (pins:List (Addr × Obj)) (R:XS) (e:Value) (s':Shared):Prop:=∃ a C dct σ' H' lo,e=.ref a /\ Inv X pins σ' H' s' /\ Low X pins lo /\ Xc.Exc s'.heap lo (fun b=>H' b=none) a (.ref C) dct /\ R C dct σ' H'
noncomputable abbrev TR:=St->Hp->XS->Prop
noncomputable def PR (X:Cx) (st:Stmt) (t:TR):Prop:=∀ (pins:List (Addr × Obj)) (s:Shared) (σ:St) (H:Hp) (R:XS),Inv X pins σ H s->t σ H R->wpAny (model X.prog X.w) X.A (exec st X.env) (fun _ _=>False) (XP X pins R) s
noncomputable def PRs (X:Cx) (st:List Stmt) (t:TR):Prop:=∀ (pins:List (Addr × Obj)) (s:Shared) (σ:St) (H:Hp) (R:XS),Inv X pins σ H s->t σ H R->wpAny (model X.prog X.w) X.A (execs st X.env) (fun _ _=>False) (XP X pins R) s
noncomputable def PRE (X:Cx) (e:Expr) (t:TR):Prop:=∀ (pins:List (Addr × Obj)) (s:Shared) (σ:St) (H:Hp) (R:XS),Inv X pins σ H s->t σ H R->wpAny (model X.prog X.w) X.A (eval e X.env) (fun _ _=>False) (XP X pins R) s
noncomputable def PRA (X:Cx) (es:List Expr) (t:TR):Prop:=∀ (pos:Pos) (pins:List (Addr × Obj)) (s:Shared) (σ:St) (H:Hp) (R:XS),Inv X pins σ H s->t σ H R->wpAny (model X.prog X.w) X.A (spliced (backTo pos (starEach es X.env))) (fun _ _=>False) (XP X pins R) s
section
variable {X:Cx} {pins:List (Addr × Obj)} {σ:St} {H:Hp} {s:Shared}
theorem Inv.low (I:Inv X pins σ H s):Low X pins s.heap.objs.size :=
 ⟨I.sz,I.lt,fun x c e=>by obtain ⟨v,o,ho,_⟩:=I.cell x c e; exact Heap.lt_size ho,fun p hp=>Heap.lt_size (I.pin p hp).1⟩
theorem calmly {α:Type} {t:Sem α} {Q Q':α->Shared->Prop} {E:Value->Shared->Prop} (h:wpAny (model X.prog X.w) X.A t Q (fun _ _=>False) s) (q:∀ a s,Q a s->Q' a s):wpAny (model X.prog X.w) X.A t Q' E s:=wpAny_mono h q fun _ _ z=>z.elim
variable {st:Stmt} {rest:List Stmt} {t u:TS} {r r2:TR} {e:Expr} {es:List Expr} {te:TE} {ta:TA} {pos:Pos}
theorem prs_here (h:PR X st r):PRs X (st :: rest) r:=fun pins s σ H R I q=>wpAny_execs_cons (wpAny_mono (h pins s σ H R I q) (fun _ _ z=>z.elim) fun _ _ z=>z)
noncomputable def rNext (t:TS) (r:TR):TR:=fun σ H R=>t { nx:=fun σ' H'=>r σ' H' R,rt:=fun _ _=>False } σ H
theorem prs_next (h1:PS X.nox st t) (h2:PRs X rest r):PRs X (st :: rest) (rNext t r):=by
 intro pins s σ H R I q
 refine wpAny_execs_cons (calmly (h1 pins s σ H _ (I.wish _) q) fun f s1 q=>?_)
 cases f with
 | next=>obtain ⟨σ',H',I',q⟩:=q; exact h2 pins s1 σ' H' R I'.unwish q
 | ret v=>obtain ⟨_,_,_,_,_,q⟩:=q; exact q.elim
 | brk=>obtain ⟨_,_,_,q⟩:=q; exact q.elim
 | cont=>obtain ⟨_,_,_,q⟩:=q; exact q.elim
noncomputable def rIf (c:TT) (r r2:TR):TR:=fun σ H R=>c σ H fun b H1=>if b=true then r σ H1 R else r2 σ H1 R
theorem pr_if {c:Expr} {a b:List Stmt} {tc:TT} (hc:PT X.nox c tc) (ha:PRs X a r) (hb:PRs X b r2):PR X (.If c a b pos) (rIf tc r r2):=by
 intro pins s σ H R I h
 refine wpAny_If (calmly (hc pins s σ H _ (I.wish _) h) fun d s1 zz93=>?_)
 obtain ⟨H1,I1,q1⟩:=zz93
 cases d with
 | true=>exact ha pins s1 σ H1 R I1.unwish q1
 | false=>exact hb pins s1 σ H1 R I1.unwish q1
theorem pr_set {x:Str} {pos':Pos} (h:PRE X e r) (hs:swapsWith e (some (.Name x pos')) pos.line X.env=pure false:=by rfl):PR X (.Assign [.Name x pos'] e pos) r:=fun pins s σ H R I q=>wpAny_Assign_Name (wpAny_mono (h pins s σ H R I q) (fun _ _ z=>z.elim) fun _ _ z=>z) hs
end
section
variable {X:Cx} {k:Nat} {f C:Addr} {fd:FuncData} {ps:List Str} {sp:Sp} {dvs:List V} {ds:List Value} {x m:Str} {p pos apos:Pos} {e o:Expr} {es:List Expr} {ta:TE} {t:TA} {r:TR} {G:Addr->Prop}
noncomputable def toE (R:XS) (σ:St):XK:=fun c dct H'=>∃ C,c=.ref C /\ R C dct σ H'
theorem run_fnR {pins:List (Addr × Obj)} {σ:St} {H:Hp} {s:Shared} {R:XS} {us:List Value} {vs:List V} (F:FnOk X.prog X.w X.K X.mg X.base (CX1 X.prog X.w) k f fd ps sp) (hr:Room k X.A) (hb:Binds X.K fd ps ds) (hd:Vals dvs ds)
   (I:Inv X pins σ H s) (r:Vals vs us) (h:sp (vs ++ dvs) H (fun _ _=>False) (toE R σ)):wpAny (model X.prog X.w) X.A (call (.ref f) us) (fun _ _=>False) (XP X pins R) s:=by
 have r2:Vals (vs ++ dvs) (us ++ ds):=r.append hd
 have hl:(us ++ ds).length=ps.length:=by rw [<- r2.length]; exact F.len _ _ _ _ h
 refine wpAny_call (codeAny_mono (F.run X.A X.stack s H ⟨us,[]⟩ (us ++ ds) (vs ++ dvs) _ _ hr I.env0 (hb s us I.kIn hl) r2 h) fun q s' hq=>?_)
 cases q with
 | error z =>
   obtain ⟨a,C,dct,H',rfl,os,bare,un,hok,x,C',ec,q⟩:=hq
   cases ec
   exact ⟨a,C,dct,σ,H',_,rfl,I.call' (ch:=[]) os un hok bare (fun _ z=>nomatch z),I.low,x,q⟩
 | ok fl =>
   cases fl with
   | ret u=>obtain ⟨_,_,_,_,_,_,_,q⟩:=hq; exact q.elim
   | next=>exact False.elim hq
   | brk=>exact False.elim hq
   | cont=>exact False.elim hq
noncomputable def rCall (sp:Sp) (dvs:List V) (t:TA):TR:=fun σ H R=>t σ H fun vs H1=>sp (vs ++ dvs) H1 (fun _ _=>False) (toE R σ)
theorem pre_call (F:FnOk X.prog X.w X.K X.mg X.base (CX1 X.prog X.w) k f fd ps sp) (hr:Room k X.A) (hg:Gl X x) (hm:X.mg x=some (.ref f)) (hk:PySem.W.keepIn X.K (.ref f)=true) (hb:Binds X.K fd ps ds) (hd:Vals dvs ds)
   (ha:PA X.nox (e :: es) t) (hdb:(x == ("__debug__":Str))=false:=by decide) (he:starEach (e :: es) X.env=(false,eval e X.env) :: starEach es X.env:=by rfl) (hpl:(backTo pos (starEach es X.env)).any (·.1)=false:=by rfl) :
   PRE X (.Call (.Name x p) (e :: es) [] pos) (rCall sp dvs t):=by
 intro pins s σ H R I h
 refine wpAny_Call_Name_kw (ld_glob I hg hm ?_ hdb)
 refine PySem.W.callWith_K (h₀:=X.base) I.ok.mod.kin hk (calmly (ha pos pins s σ H _ (I.wish _) h) fun us s1 ⟨vs,H1,I1,r,q⟩=>⟨I1.unwish.kIn,?_⟩) he hpl
 exact run_fnR F hr hb hd I1.unwish r q
end
section
variable {X:Cx} {pins:List (Addr × Obj)} {σ:St} {H:Hp} {s:Shared}
theorem Inv.past {h':Heap} {ch:List Addr} (I:Inv X pins σ H s) {lo:Nat} (lw:Low X pins lo) (hch:∀ b ∈ ch,lo <= b /\ H b=none /\ b ∉ frs X.stack /\ ∃ o vs,s.heap.get? b=some o /\ o.data=.fields vs) (p:Xc.Past (frs X.stack) ch s.heap h') :
   Inv X pins σ H { s with heap:=h' }:=by
 have nfr:∀ b u,H b=some u->b ∉ frs X.stack:=fun b u e z=>by rw [I.stkFree b z] at e; cases e
 have nch:∀ b u,H b=some u->b ∉ ch:=fun b u e z=>by rw [(hch b z).2.1] at e; cases e
 have kp:∀ b u o,H b=some u->s.heap.get? b=some o->h'.get? b=some o:=fun b u o e g=>p.keep b o g (nch b u e) (nfr b u e)
 refine I.call (g':=s.gens) (d':=s.drawn) (t':=s.toks) (ch:=ch) ⟨fun b o e _ nf nc=>p.keep b o e nc nf,fun b o e _ hf _=>p.slot b o e hf,fun b o _ n _=>n,fun b o e _=>p.there b o e,fun _ _ e=>e,fun _ _ _ e=>e,fun b ps e=>⟨#[],by rw [Array.append_empty]; exact e⟩⟩ ?_ I.bare fun b hb=>?_
 . intro b u e
   refine (I.hok b u e).stay (fun c v hc g=>?_) (fun _ z=>z) fun _ _ z=>z
   rcases hc with rfl | hc
   . exact kp c u v e g
   . exact kp c _ v hc g
 . have hl:=(hch b hb).1
   exact ⟨.inr (Nat.le_trans lw.s0 hl),fun z=>absurd (Nat.lt_of_lt_of_le lw.loc hl) (by rw [z]; exact Nat.lt_irrefl _),fun x c e z=>absurd (Nat.lt_of_lt_of_le (lw.cell x c e) hl) (by rw [z]; exact Nat.lt_irrefl _),fun q hq z=>absurd (Nat.lt_of_lt_of_le (lw.pin q hq) hl) (by rw [z]; exact Nat.lt_irrefl _)⟩
theorem note_ok {Q:Unit->Shared->Prop} {E:Value->Shared->Prop} {a C:Addr} {dct fo:Option Addr} {lo:Nat} (I:Inv X pins σ H s) (st:X.stack=X.env :: X.outer /\ X.env.frame=some X.env.locals) (lw:Low X pins lo) (hlo:lo <= s.heap.objs.size) (x:Xc.Exc s.heap lo (fun b=>H b=none) a (.ref C) dct)
   (k:∀ s',Inv X pins σ H s'->s'.os=s.os->s'.gens=s.gens->Xc.Exc s'.heap lo (fun b=>H b=none) a (.ref C) dct->Q () s'):wpAny (model X.prog X.w) X.A (noteFrame (.ref a) X.env) (fun _ s'=>Xc.Tb s'.heap a /\ wpAny (model X.prog X.w) X.A (setFlight (.ref a) fo) Q E s') E s:=by
 have fs:s.heap.FunFrames X.base (X.env :: X.outer):=by rw [<- st.1]; exact I.stack
 refine Xc.note_it (base:=X.base) (L:=X.env.locals) (by rw [I.ok.frames,st.1]) fs st.2 (fun b hb=>I.hok.fresh hb) hlo x fun h' ch hch p x'=>?_
 have e:(X.env :: X.outer).filterMap (·.frame)=frs X.stack:=by rw [st.1]; rfl
 rw [e] at hch p
 exact k _ (I.past lw hch p) rfl rfl x'
end
section
variable {P:Program} {w:World} {K:PySem.W.Frag} {mg:Str->Option Value} {base:Heap}
theorem fn_raise {k:Nat} {f:Addr} {name qual:Str} {params:Arguments} {body:List Stmt} {scope:Scope} {dV kV doc pm cdv ct oc:Value} {an od:Option Addr} {osl:Array (Option Value)} {N ps:List Str} {sp:Sp}
   (lk:K.lookup f=some ⟨oc,od,.func (PySem.W.fnOf name qual params body scope dV kV doc pm an cdv ct),osl⟩) (hcd:PySem.W.codeIn K cdv qual=true) (S:FnScope N ps scope) (len:∀ vs H Q E,sp vs H Q E->vs.length=ps.length)
   (hbody:∀ (A:Around) (outer:List Env) (s:Shared) (H:Hp) (vs:List V) (E:XK) (Q:VK),Room k (A.deeper (envOfC qual scope s.heap.objs.size f cdv))->sp vs H Q E ->
     ∃ r,PRs (cxOf CX0 P w K mg base N qual scope f cdv A outer s H E) body r /\ r (start N vs) H fun C dct _ H'=>E (.ref C) dct H') :
   FnOk P w K mg base (CX1 P w) (k + 1) f (PySem.W.fnOf name qual params body scope dV kV doc pm an cdv ct) ps sp:=by
 refine fn_of lk hcd S len fun A outer s H vs Q E hr hsp=>?_
 obtain ⟨r,hr1,hr2⟩:=hbody A outer s H vs E Q hr hsp
 refine ⟨fun _ σ H'=>σ=start N vs /\ H'=H,?_,rfl,rfl⟩
 rintro pins s1 σ H1 D I ⟨rfl,rfl⟩
 have I0:Inv (cxOf CX0 P w K mg base N qual scope f cdv A outer s H1 E) pins (start N vs) H1 s1:=⟨⟨I.ok.mod,I.ok.kind,I.ok.glob,I.ok.blt,I.ok.above,I.ok.inj,I.ok.has,I.ok.cab,I.ok.hd,I.ok.frames,I.ok.stk,I.ok.exf,I.ok.bs,I.ok.bsz,I.ok.noex,I.ok.exfs,I.ok.funs,I.ok.frf⟩,I.os,I.bare,I.base,I.loc,I.cell,I.free,I.freeC,I.pin,I.hok,I.len⟩
 refine wpAny_mono (hr1 pins s1 _ _ _ I0 hr2) (fun _ _ z=>z.elim) fun e s2 zz94=>?_
 obtain ⟨a,C,dct,σ',H',lo,ee,J,lw,x,q⟩:=zz94
 subst ee
 show wpAny (model P w) (A.deeper _) (leaving _ (.ref a)) _ _ s2
 unfold leaving
 have hlo:lo <= s2.heap.objs.size:=Nat.le_of_lt (Nat.lt_of_le_of_lt (by obtain ⟨_,_,_,_,_,_,_,_,l,_⟩:=x; exact l) (by obtain ⟨oe,_,_,ge,_⟩:=x; exact Heap.lt_size ge))
 refine wpAny_bind (wpAny_mono (note_ok (fo:=none) J ⟨rfl,rfl⟩ lw hlo x fun s3 J3 _ _ x3=>?_) (fun _ _ z=>z.2) fun _ _ z=>z)
 exact ⟨a,C,dct,H',rfl,J3.os,J3.bare,J3.base,J3.hok,x3.mono lw.s0,q⟩
end
end L2
namespace Xc
open PySem
section
variable {M:Model} {A:Around} {E:Value->Shared->Prop} {s:Shared}
theorem flight_it {e:Addr} {lo:Nat} {N:Addr->Prop} {cls:Value} {dct:Option Addr} {Q:Unit->Shared->Prop} (x:Exc s.heap lo N e cls dct)
   (k:∀ h' ch,(∀ b ∈ ch,lo <= b /\ N b /\ ∃ o vs,s.heap.get? b=some o /\ o.data=.fields vs)->Past [] ch s.heap h'->Exc h' lo N e cls dct->Q () { s with heap:=h' }):wpAny M A (setFlight (.ref e) none) Q E s:=by
 have x0:=x
 obtain ⟨oe,vs,hd,ge,hc,hdc,de,e1,le,ne,hh⟩:=x
 unfold setFlight
 refine wpAny_bind (wpAny_field ge de e1.1 ?_)
 rcases hh with rfl | ⟨T,oT,ts,rfl,lT,nT,neT,gT,dT,e3⟩
 . rw [if_neg (by decide)]
   exact wpAny_pure (k s.heap [] (fun _ z=>(nomatch z)) ⟨fun b o hb _ _=>hb,fun b o hb z=>(nomatch z),fun b o hb=>⟨o,hb⟩⟩ x0)
 . rw [if_pos (show (Value.ref T != Value.none)=true from by simp)]
   have s3:=e3
   refine wpAny_setField gT dT s3 (k _ [T] (fun b hb=>by rw [List.mem_singleton.mp hb]; exact ⟨lT,nT,_,_,gT,dT⟩) ⟨fun b o hb nb _=>?_,fun b o hb z=>(nomatch z),fun b o hb=>?_⟩ ?_)
   . rw [Heap.get?_update_other _ _ (fun z=>nb (List.mem_singleton.mpr z.symm))]; exact hb
   . by_cases z:b=T
     . subst z
       exact ⟨_,Heap.get?_update_self _ gT (Obj.isFreed_of_fields (Obj.data_mapFields dT _))⟩
     . exact ⟨o,by rw [Heap.get?_update_other _ _ (Ne.symm z)]; exact hb⟩
   . refine ⟨oe,vs,.ref T,(Heap.get?_update_other _ _ neT).trans ge,hc,hdc,de,e1,le,ne,.inr ⟨T,_,_,rfl,lT,nT,neT,Heap.get?_update_self _ gT (Obj.isFreed_of_fields (Obj.data_mapFields dT _)),Obj.data_mapFields dT _,?_⟩⟩
     rw [Array.size_setIfInBounds]; exact s3
end
end Xc
namespace L2
open PySem PySem.Spec PyProof.Rows
noncomputable abbrev Cx.inx (X:Cx) (a:Addr):Cx:={ X with A:=X.A.mark (some (.ref a)),calm:=false,xe:=fun _ _=>False }
theorem Cx.Ok.inx {X:Cx} (ok:X.Ok) (a:Addr):(X.inx a).Ok :=
 ⟨ok.mod,ok.kind,ok.glob,ok.blt,ok.above,ok.inj,ok.has,ok.cab,fun z=>(nomatch z),ok.frames,ok.stk,ok.exf,ok.bs,ok.bsz,ok.noex,ok.exfs,ok.funs,ok.frf⟩
section
variable {X:Cx} {pins:List (Addr × Obj)} {σ:St} {H:Hp} {s:Shared} {a:Addr}
theorem Inv.inx (I:Inv X pins σ H s) (a:Addr):Inv (X.inx a) pins σ H s:=⟨I.ok.inx a,I.os,I.bare,I.base,I.loc,I.cell,I.free,I.freeC,I.pin,I.hok,I.len⟩
theorem Inv.outx (I:Inv (X.inx a) pins σ H s) (ok:X.Ok):Inv X pins σ H s:=⟨ok,I.os,I.bare,I.base,I.loc,I.cell,I.free,I.freeC,I.pin,I.hok,I.len⟩
theorem SP.outx {D:Ends} {f:Flow} {s':Shared} (ok:X.Ok) (h:SP (X.inx a) pins D f s'):SP X pins D f s':=by
 cases f with
 | next=>obtain ⟨σ',H',I,q⟩:=h; exact ⟨σ',H',I.outx ok,q⟩
 | brk=>obtain ⟨σ',H',I,q⟩:=h; exact ⟨σ',H',I.outx ok,q⟩
 | cont=>obtain ⟨σ',H',I,q⟩:=h; exact ⟨σ',H',I.outx ok,q⟩
 | ret u=>obtain ⟨v,σ',H',I,r,q⟩:=h; exact ⟨v,σ',H',I.outx ok,r,q⟩
theorem past_nil {fr ch:List Addr} {h h':Heap} (p:Xc.Past [] ch h h') (hf:∀ b ∈ fr,b ∉ ch):Xc.Past fr ch h h' :=
 ⟨fun b o hb nc _=>p.keep b o hb nc (by simp),fun b o hb hfr=>⟨o.slots,p.keep b o hb (hf b hfr) (by simp)⟩,p.there⟩
theorem flight_ok {A:Around} {Q:Unit->Shared->Prop} {E:Value->Shared->Prop} {C:Addr} {dct:Option Addr} {lo:Nat} (I:Inv X pins σ H s) (lw:Low X pins lo) (x:Xc.Exc s.heap lo (fun b=>H b=none) a (.ref C) dct)
   (k:∀ s',Inv X pins σ H s'->Xc.Exc s'.heap lo (fun b=>H b=none) a (.ref C) dct->Q () s'):wpAny (model X.prog X.w) A (setFlight (.ref a) none) Q E s:=by
 refine Xc.flight_it x fun h' ch hch p x'=>?_
 have hf:∀ b ∈ frs X.stack,b ∉ ch:=fun b hb hc=>by
   obtain ⟨_,o',g',nf⟩:=I.stack.mem hb
   obtain ⟨_,_,o,vs,g,d⟩:=hch b hc
   rw [g] at g'; cases g'
   exact nf vs d
 exact k _ (I.past lw (fun b hb=>⟨(hch b hb).1,(hch b hb).2.1,fun z=>hf b z hb,(hch b hb).2.2⟩) (past_nil p hf)) x'
end
end L2
namespace L2
open PySem PySem.Spec PyProof.Rows
section
variable {X:Cx}
theorem passes {pins:List (Addr × Obj)} {R:XS} (st:X.stack=X.env :: X.outer /\ X.env.frame=some X.env.locals):PassesOwn (model X.prog X.w) X.A X.env (XP X pins R):=by
 rintro e s1 ⟨a,C,dct,σ',H',lo,rfl,J,lw,x,q⟩
 have hlo:lo <= s1.heap.objs.size:=Nat.le_of_lt (Nat.lt_of_le_of_lt (by obtain ⟨_,_,_,_,_,_,_,_,l,_⟩:=x; exact l) (by obtain ⟨oe,_,_,ge,_⟩:=x; exact Heap.lt_size ge))
 unfold notedBy
 refine wpAny_mono (note_ok (fo:=X.env.frame) (Q:=fun _ s'=>XP X pins R (.ref a) s') (E:=fun _ _=>False) J st lw hlo x fun s2 J2 _ _ x2=>⟨a,C,dct,σ',H',lo,rfl,J2,lw,x2,q⟩) (fun _ s2 z=>?_) fun _ _ z=>z.elim
 obtain ⟨⟨oe,vs,T,ge,de,e1⟩,w⟩:=z
 unfold cameBackBy
 refine wpAny_bind (wpAny_field ge de e1 ?_)
 rw [if_neg (by simp)]
 exact wpAny_mono w (fun _ _ z=>z) fun _ _ z=>z.elim
variable {tg:Expr}
noncomputable def rFor (wi:TI) (g:TG) (tb:TS) (r:TR):TR:=fun σ H R=>wi σ H fun J H1=>∃ W:Nat->Nat->St->Hp->Prop,(∃ m,W 0 m σ H1) /\ ∀ i m σ H,W i m σ H ->
 (J.go i H /\ ∃ N:St->Hp->Prop,(∀ σ' H',N σ' H'->∃ m',m' < m /\ W (i + 1) m' σ' H') /\ ∀ x H',J.yld i H x H'->g x σ H' fun σ2 H2=>r σ2 H2 R \/ tb { nx:=N,rt:=fun _ _=>False,ct:=N,bk:=fun _ _=>False } σ2 H2)
theorem XP.unpinned {pins pl:List (Addr × Obj)} {R:XS} {e:Value} {s:Shared} (h:XP X (pins ++ pl) R e s):XP X pins R e s:=by
 obtain ⟨a,C,dct,σ',H',lo,e,J,lw,x,q⟩:=h
 refine ⟨a,C,dct,σ',H',lo,e,J.unpinned,⟨lw.s0,lw.loc,lw.cell,fun p hp=>lw.pin p ?_⟩,x,q⟩
 rw [<- List.append_assoc]
 exact List.mem_append_left _ hp
theorem pr_for {iter:Expr} {body:List Stmt} {wi:TI} {g:TG} {tb:TS} {r:TR} {pos:Pos} (st:X.stack=X.env :: X.outer /\ X.env.frame=some X.env.locals) (hc:X.calm=true) (hi:PI X.nox tg iter wi) (hg:PG X.nox tg g) (hb:PSs X.nox body tb) (hr:PRs X body r)
   (hs:∀ x,foldedSetIterable iter X.env x=pure x:=by intro _; rfl):PR X (.For tg iter body [] pos) (rFor wi g tb r):=by
 intro pins s σ H R I h
 have hp:=passes (pins:=pins) (R:=R) st
 refine wpAny_For (calmly (hi pins s σ H _ (I.wish _) h) fun v s1 h1=>calmly h1 fun itv s2 h2=>?_) hs
 obtain ⟨it,fp,tn,J,H2,e,I2,T,st2,f2,W,⟨m0,w0⟩,turn⟩:=h2
 subst e
 have stat:∀ {H':Hp},(∀ b ∈ fp,H' b=none)->∀ b ∈ fp,FpOk X.nox pins H' b:=fun hn b hb=>⟨hn b hb,(f2 b hb).2⟩
 refine codeAny_forLoop_any (fun n s'=>∃ i σ' H',Inv X.nox pins σ' H' s' /\ tn i s'.heap /\ (∀ b ∈ fp,H' b=none) /\ W i n σ' H') ?_ m0 ⟨0,σ,H2,I2,st2,fun b hb=>(f2 b hb).1,w0⟩
 rintro n s3 ⟨i,σ3,H3,I3,st3,fr3,w3⟩
 obtain ⟨go,N,hN,step⟩:=turn i n σ3 H3 w3
 refine wpAny_passesOwn hp (thn (T.item X.nox rfl rfl rfl hc i pins s3 σ3 H3 (XP X pins R) I3 (stat fr3) st3 go) fun rr s4 zz95=>?_)
 obtain ⟨u,hrr,h4⟩:=zz95
 subst hrr
 refine wpAny_passesOwn hp (thn h4 fun _ s5 zz96=>?_)
 obtain ⟨x,H5,I5,r5,y5,st5,fr5⟩:=zz96
 have I5':=I5.pinned (stat fr5) (T.obj _ _ st5)
 refine wpAny_passesOwn hp (calmly (hg _ s5 σ3 H5 x u _ I5' r5 (step x H5 y5)) fun _ s6 zz97=>?_)
 obtain ⟨σ6,H6,I6,q6⟩:=zz97
 rcases q6 with q6 | q6
 . exact wpAny_passesOwn hp (wpAny_mono (hr _ s6 σ6 H6 R I6.unwish q6) (fun _ _ z=>z.elim) fun _ _ z=>z.unpinned)
 . refine wpAny_passesOwn hp (calmly (hb _ s6 σ6 H6 _ I6 q6) fun f s7 q7=>?_)
   have again:∀ {σ7:St} {H7:Hp},Inv X.nox (pins ++ pinsAt fp s5.heap) σ7 H7 s7->N σ7 H7->∃ m,m < n /\ ∃ i σ' H',Inv X.nox pins σ' H' s7 /\ tn i s7.heap /\ (∀ b ∈ fp,H' b=none) /\ W i m σ' H':=fun {σ7 H7} I7 n7=>by
     obtain ⟨m',hm,w7⟩:=hN σ7 H7 n7
     refine ⟨m',hm,i + 1,σ7,H7,I7.unpinned,T.keep _ _ _ st5 fun b hb o e=>(I7.pin (b,o) (List.mem_append_right _ (List.mem_append_right _ (mem_pinsAt hb e)))).1,fun b hb=>?_,w7⟩
     obtain ⟨o,e,d⟩:=T.obj _ _ st5 b hb
     exact (I7.pin (b,o) (List.mem_append_right _ (List.mem_append_right _ (mem_pinsAt hb e)))).2.1
   cases f with
   | next=>obtain ⟨σ7,H7,I7,n7⟩:=q7; exact again I7 n7
   | cont=>obtain ⟨σ7,H7,I7,n7⟩:=q7; exact again I7 n7
   | brk=>obtain ⟨σ7,H7,I7,q7⟩:=q7; exact q7.elim
   | ret v=>obtain ⟨x7,σ7,H7,I7,r7,q7⟩:=q7; exact q7.elim
end
end L2
set_option maxRecDepth 100000
namespace PySem
section
variable {prog:Program} {w:World} {A:Around} {E:Value->Shared->Prop} {h:Heap} {g:Array GenState} {d:Drawn} {t:Nat} {os:OsState}
variable {nm q:Str} {C N:Addr} {bs bm bmB:List Value} {hdct:Bool} {sn:List Str} {sub:List Value} {ab:Bool} {col:Option Bool} {dd:Option Addr} {k0 k1 k2 k3 k5:Option Value} {B newId initId:String}
theorem type_call_initT (F:ExcBaseFacts B newId initId bmB) (T:OwnTail h bmB bm) {mN:Str->Option Value} {rest:List Value} {fI:Addr} {oI:Obj} {Q:Fin->Shared->Prop}
   (hC:h.get? C=some (excClassObj nm q C N bs bm hdct sn sub ab col dd k0 k1 k2 k3 k5 newId)) (hn:h.Ns N mN) (hi:mN "__init__"=some (.ref fI))
   (hfI:h.get? fI=some oI) (hfc:oI.cls=.type "function")
   (hq:∀ h' e,Heap.MadeExcOf h h' e (.ref C) rest->h.objs.size <= e ->
     wpAny (model prog w) A (call (.ref fI) (.ref e :: rest)) (fun r s'=>r=.none /\ Q (.done (.ret (.ref e))) s') E ⟨h',g,d,t,os⟩) (hrest:rest.length <= sizeLine:=by size_fits) :
   wpAny (model prog w) A (Builtin.«type.__call__» ⟨.ref C :: rest,[]⟩) Q E ⟨h,g,d,t,os⟩:=by
 repeat (first | with_reducible refine wpAny_loadPart_at hC ?_ | with_reducible refine wpAny_madeBy_exc hC ?_ | wp_step)
 refine codeAny_call_builtin_code (Code.quiet_builtin _ F.quiet) (wpAny_check_new_subT F T hC ?_)
 refine codeAny_exc_new_subT F T hC ?_ hrest
 show wpAny _ _ _ _ _ _
 have hC₁:=Heap.get?_push_of_some { cls:=.ref C,data:=.fields #[.ref h.objs.size,.none,.none,.none,.bool false,.none] }
   (Heap.get?_push_of_some { cls:=.type "tuple",data:=.seq rest.toArray } hC)
 have hfI₁:=Heap.get?_push_of_some { cls:=.ref C,data:=.fields #[.ref h.objs.size,.none,.none,.none,.bool false,.none] }
   (Heap.get?_push_of_some { cls:=.type "tuple",data:=.seq rest.toArray } hfI)
 have hn₁:((h.push { cls:=.type "tuple",data:=.seq rest.toArray }).push { cls:=.ref C,data:=.fields #[.ref h.objs.size,.none,.none,.none,.bool false,.none] }).Ns N mN :=
   let ⟨o,es,ep,e,r⟩:=hn; ⟨o,es,ep,Heap.get?_push_of_some _ (Heap.get?_push_of_some _ e),r⟩
 have hget:((h.push { cls:=.type "tuple",data:=.seq rest.toArray }).push
     { cls:=.ref C,data:=.fields #[.ref h.objs.size,.none,.none,.none,.bool false,.none] }).get? (h.objs.size + 1)=some
     { cls:=.ref C,data:=.fields #[.ref h.objs.size,.none,.none,.none,.bool false,.none] }:=by heap_get
 have hcC:(Value.ref C :: bm).contains (.ref C)=true:=by simp
 have T₁:=T.keeps (h':=(h.push { cls:=.type "tuple",data:=.seq rest.toArray }).push { cls:=.ref C,data:=.fields #[.ref h.objs.size,.none,.none,.none,.bool false,.none] })
   fun b o e=>Heap.get?_push_of_some _ (Heap.get?_push_of_some _ e)
 unfold isInstance
 repeat (first | with_reducible refine wpAny_loadPart_at hget ?_ | (with_reducible refine wpAny_isSubtype_exc hC₁ ?_; rw [hcC]) | wp_step)
 show wpAny _ _ (typeLookup (.ref C) _) _ _ _
 refine wpAny_typeLookup_tail hC₁ hn₁ T₁ F.mroIs F.init.lookup ?_
 rw [hi]
 refine wpAny_holding (wpAny_bind ?_)
 unfold bindSpecial
 refine wpAny_bind (wpAny_typeOf (T:="function") ⟨_,hfI₁,hfc⟩ ?_)
 rw [if_pos (by decide)]
 refine wpAny_pure (wpAny_bind (wpAny_mono (hq _ (h.objs.size + 1) ⟨fun b o hb=>Heap.get?_push_of_some _ (Heap.get?_push_of_some _ hb),Heap.get?_none_of_le (Nat.le_succ _),h.objs.size,hget,Heap.get?_none_of_le (Nat.le_refl _),?_⟩ (Nat.le_succ _)) (fun r s' hr=>?_) fun _ _ x=>x))
 . exact Heap.get?_push_of_some _ (Heap.get?_push_at rfl rfl)
 . obtain ⟨rfl,hQ⟩:=hr
   wp_walk
   exact hQ
theorem call_initT (F:ExcBaseFacts B newId initId bmB) (T:OwnTail h bmB bm) {mN:Str->Option Value} {rest:List Value} {fI:Addr} {oI:Obj} {Q:Value->Shared->Prop}
   (hC:h.get? C=some (excClassObj nm q C N bs bm hdct sn sub ab col dd k0 k1 k2 k3 k5 newId)) (hn:h.Ns N mN) (hi:mN "__init__"=some (.ref fI))
   (hfI:h.get? fI=some oI) (hfc:oI.cls=.type "function")
   (hq:∀ h' e,Heap.MadeExcOf h h' e (.ref C) rest->h.objs.size <= e ->
     wpAny (model prog w) (A.under (.builtin "type.__call__" ⟨.ref C :: rest,[]⟩)) (call (.ref fI) (.ref e :: rest)) (fun r s'=>r=.none /\ Q (.ref e) s') E ⟨h',g,d,t,os⟩) (hrest:rest.length <= sizeLine:=by size_fits) :
   wpAny (model prog w) A (call (.ref C) rest) Q E ⟨h,g,d,t,os⟩:=by
 have f1:=tc_lookup
 have f2:=tc_bind (.ref C)
 have hT:(⟨h,g,d,t,os⟩:Shared).TypeIs (.ref C) "type":=⟨_,hC,rfl⟩
 refine wpAny_call (codeAny_of_tree ?_)
 show wpAny _ _ (callAny (.ref C) _) _ _ _
 repeat (any_goals (first | assumption | with_reducible refine wpAny_loadPart_at hC ?_ | wp_step))
 refine ⟨rfl,?_⟩
 refine codeAny_call_builtin_at (Code.quiet_builtin _ (by decide +kernel)) entry_typeCall (wpAny_check_type_call_sub hC (type_call_initT (hrest:=hrest) F T hC hn hi hfI hfc fun h' e hm hz=>?_))
 exact hq h' e hm hz
theorem call_base_init (F:ExcBaseFacts B newId initId bmB) (T:OwnTail h bmB bm) {rest:List Value} {e t0:Addr} {Q:Value->Shared->Prop}
   (hC:h.get? C=some (excClassObj nm q C N bs bm hdct sn sub ab col dd k0 k1 k2 k3 k5 newId))
   (he:h.get? e=some { cls:=.ref C,data:=.fields #[.ref t0,.none,.none,.none,.bool false,.none] })
   (hq:∀ h' t1,(∀ b o,b ≠ e->h.get? b=some o->h'.get? b=some o)->h'.get? e=some { cls:=.ref C,data:=.fields #[.ref t1,.none,.none,.none,.bool false,.none] }->h.objs.size <= h'.objs.size->Q .none ⟨h',g,d,t,os⟩)
   (hrest:rest.length <= sizeLine:=by size_fits) :
   wpAny (model prog w) A (call (.builtin initId) (.ref e :: rest)) Q E ⟨h,g,d,t,os⟩:=by
 refine wpAny_call (codeAny_call_builtin F.init.plain F.initEntry (wpAny_check_init_subT F T hC he rfl ?_))
 wp_walk
 refine hq _ h.objs.size (fun b o hb e=>?_) ?_ ?_
 . rw [Heap.get?_update_other _ _ (Ne.symm hb)]
   exact Heap.get?_push_of_some _ e
 . rw [Heap.get?_update_self _ (Heap.get?_push_of_some _ he) rfl]
   rfl
 . rw [Heap.size_after_update,Heap.size_push]; omega
end
end PySem
namespace L2
open PySem PySem.Spec PyProof.Rows
theorem ns_is {K:PySem.W.Frag} {h:Heap} {N:Addr} {mg:Str->Option Value} {n:Str} {r:Option Value} (X:K.In h) (G:h.Ns N mg) (e:PySem.W.nsIn K N n=some r):mg n=r:=by
 obtain ⟨o,es,ep,ho,hd,_,hf⟩:=G
 unfold PySem.W.nsIn at e
 split at e
 . rename_i c d es' n' sl q
   have:=X _ _ q
   rw [ho] at this
   cases this
   cases hd
   rw [<- hf]
   unfold nsFind findBy
   rw [<- Array.find?_toList]
   split at e
   . rename_i y he; cases e; rw [he]; rfl
   . rename_i he
     split at e
     . cases e
     . cases e; rw [he]; rfl
 . cases e
theorem excAt_get {K:PySem.W.Frag} {h:Heap} {C:Addr} {r:Option Value} (X:K.In h) (q:excAt K C r=true) :
   ∃ bm N nm qn bs hdct sn sub ab col dd k0 k1 k2 k3 k5 mN,h.get? C=some (excClassObj nm qn C N bs bm hdct sn sub ab col dd k0 k1 k2 k3 k5 "ValueError.__new__") /\ h.Ns N mN /\ mN "__init__"=r /\ OwnTail h bmVE bm:=by
 unfold excAt at q
 cases ho:K.lookup C with
 | none=>rw [ho] at q; cases q
 | some o =>
   rw [ho] at q
   obtain ⟨cls,dd,dat,sl⟩:=o
   dsimp only at q
   rw [Bool.and_eq_true,beq_iff_eq] at q
   obtain ⟨rfl,q⟩:=q
   cases dat <;> try (cases q; done)
   rename_i cd
   dsimp only at q
   obtain ⟨nm,bs,mro,ns,qn,hd,sn,sub,ab,col,del⟩:=cd
   cases mro with
   | nil=>cases q
   | cons v bm =>
     simp only [Bool.and_eq_true,beq_iff_eq,Bool.not_eq_true'] at q
     obtain ⟨⟨⟨⟨⟨⟨rfl,h6⟩,h4⟩,hdel⟩,ht⟩,hok⟩,hni⟩:=q
     subst hdel
     obtain ⟨l⟩:=sl
     have h6:l.length=6:=h6
     have h4:l[4]?=some (some (.builtin "ValueError.__new__")):=h4
     obtain ⟨k0,k1,k2,k3,k4,k5,rfl⟩:∃ a b c d e f,l=[a,b,c,d,e,f]:=⟨l[0],l[1],l[2],l[3],l[4],l[5],List.ext_getElem h6 fun i h1 h2=>by
       rcases i with _ | _ | _ | _ | _ | _ | i
       . rfl
       . rfl
       . rfl
       . rfl
       . rfl
       . rfl
       . exact absurd h2 (by simp only [List.length_cons,List.length_nil]; omega)⟩
     obtain rfl:k4=some (.builtin "ValueError.__new__"):=Option.some.inj h4
     have N:=Heap.Ns.of_isNs (PySem.W.isNs_of_in X hok)
     exact ⟨bm,ns,nm,qn,bs,hd,sn,sub,ab,col,dd,k0,k1,k2,k3,k5,_,X _ _ ho,N,ns_is X N hni,PySem.W.tail_of_in X ht⟩
theorem excAt_obj {K:PySem.W.Frag} {h h2:Heap} {C:Addr} {r:Option Value} (X:K.In h) (X2:K.In h2) (q:excAt K C r=true):h.get? C=h2.get? C:=by
 unfold excAt at q
 cases ho:K.lookup C with
 | none=>rw [ho] at q; cases q
 | some o=>rw [X _ _ ho,X2 _ _ ho]
section
variable {X:Cx} {C:Addr} {x:Str} {p pos pos2:Pos} {e:Expr} {es:List Expr} {t:TA}
end
end L2
namespace T2
open PySem PySem.Spec PyProof.Rows L2
noncomputable abbrev XA:=Addr × Option Int
noncomputable abbrev WX:=XA->StT->Sto->Prop
noncomputable def Dc (H:Hp) (S:Sto) (r:Option Int) (d:Option Addr):Prop:=(r=none /\ d=none) \/ ∃ i dx,r=some i /\ d=some dx /\ S dx=none /\ H dx=some (.xd [("row",.int i)])
theorem Dc.none {H:Hp} {S:Sto}:Dc H S none none:=.inl ⟨rfl,rfl⟩
theorem Dc.le {H:Hp} {S S0:Sto} {r:Option Int} {d:Option Addr} (h:Dc H S r d) (l:Le S0 S):Dc H S0 r d:=by
 rcases h with h | ⟨i,dx,e1,e2,n,e⟩
 . exact .inl h
 . refine .inr ⟨i,dx,e1,e2,?_,e⟩
   cases q:S0 dx with
   | none=>rfl
   | some o=>rw [l dx o q] at n; cases n
noncomputable abbrev WR:=StT->Sto->WX->Prop
noncomputable def lR (K:Fg) (w:WR):TR:=fun σ H R=>∃ S σt Rt,SRp K H S /\ Cov K H S σ σt /\ w σt S Rt /\ ∀ C σ' H' σt' S',Fr H S H' S'->SRp K H' S'->Cov K H' S' σ' σt'->Rt C σt' S'->∀ dct,Dc H' S' C.2 dct->R C.1 dct σ' H'
noncomputable def QR (K:Fg) (X:Cx) (st:Stmt) (w:WR):Prop:=PR X st (lR K w)
noncomputable def QRs (K:Fg) (X:Cx) (st:List Stmt) (w:WR):Prop:=PRs X st (lR K w)
noncomputable def QRE (K:Fg) (X:Cx) (e:Expr) (w:WR):Prop:=PRE X e (lR K w)
theorem PR.of {X:Cx} {e:Stmt} {t t':TR} (h:PR X e t) (i:∀ σ H Q,t' σ H Q->t σ H Q):PR X e t':=fun pins s σ H Q I q=>h pins s σ H Q I (i σ H Q q)
theorem PRs.of {X:Cx} {e:List Stmt} {t t':TR} (h:PRs X e t) (i:∀ σ H Q,t' σ H Q->t σ H Q):PRs X e t':=fun pins s σ H Q I q=>h pins s σ H Q I (i σ H Q q)
theorem PRE.of {X:Cx} {e:Expr} {t t':TR} (h:PRE X e t) (i:∀ σ H Q,t' σ H Q->t σ H Q):PRE X e t':=fun pins s σ H Q I q=>h pins s σ H Q I (i σ H Q q)
theorem PRA.of {X:Cx} {e:List Expr} {t t':TR} (h:PRA X e t) (i:∀ σ H Q,t' σ H Q->t σ H Q):PRA X e t':=fun p pins s σ H Q I q=>h p pins s σ H Q I (i σ H Q q)
noncomputable abbrev WSpR:=List T->Sto->(XA->Sto->Prop)->Prop
noncomputable def lSpR (K:Fg) (w:WSpR):Sp:=fun vs H _ E=>∃ S ts Rt,SRp K H S /\ Rps K H S ts vs /\ w ts S Rt /\ ∀ C H' S',Fr H S H' S'->SRp K H' S'->Rt C S'->∀ dct,Dc H' S' C.2 dct->E (.ref C.1) dct H'
section
variable {K:Fg} {X:Cx} {st:Stmt} {rest:List Stmt} {w u:WS} {r r2:WR} {e:Expr} {es:List Expr} {we:WE} {pos:Pos} {t:WT}
theorem qrs_here (h:QR K X st r):QRs K X (st :: rest) r:=prs_here h
noncomputable def wrNext (w:WS) (r:WR):WR:=fun σ S R=>w { nx:=fun σ' S'=>r σ' S' R,rt:=fun _ _=>False } σ S
theorem qrs_next (h1:QS K X.nox st w) (h2:QRs K X rest r):QRs K X (st :: rest) (wrNext w r):=PRs.of (prs_next h1 h2) fun σ H R ⟨S,σt,Rt,s,c,q,hr⟩ =>
 ⟨S,σt,_,s,c,q,⟨fun σ' H' σt' S' f s' c' q'=>⟨S',σt',Rt,s',c',q',fun C σ2 H2 σt2 S2 f2=>hr C σ2 H2 σt2 S2 (f.trans f2)⟩,fun _ _ _ _ _ _ _ q'=>q'.elim,fun _ _ _ _ _ _ _ q'=>q'.elim,fun _ _ _ _ _ _ _ q'=>q'.elim⟩⟩
noncomputable def wrIf (t:WT) (r r2:WR):WR:=fun σ S R=>t σ S fun b S1=>if b=true then r σ S1 R else r2 σ S1 R
theorem qr_if {c:Expr} {a b:List Stmt} (hc:QT K X.nox c t) (ha:QRs K X a r) (hb:QRs K X b r2):QR K X (.If c a b pos) (wrIf t r r2):=PR.of (pr_if hc ha hb) fun σ H R zz98=>by
 obtain ⟨S,σt,Rt,s,c,q,hr⟩:=zz98
 refine ⟨S,σt,_,s,c,q,fun k H1 S1 f1 s1 q1=>?_⟩
 cases k with
 | true=>exact ⟨S1,σt,Rt,s1,c.fr f1,q1,fun C σ2 H2 σt2 S2 f2=>hr C σ2 H2 σt2 S2 (f1.trans f2)⟩
 | false=>exact ⟨S1,σt,Rt,s1,c.fr f1,q1,fun C σ2 H2 σt2 S2 f2=>hr C σ2 H2 σt2 S2 (f1.trans f2)⟩
noncomputable def wrNever:WR:=fun _ _ _=>False
theorem qrs_never {sts:List Stmt}:QRs K X sts wrNever:=fun _ _ _ _ _ _ zz99=>by obtain ⟨_,_,_,_,_,q,_⟩:=zz99; exact q.elim
theorem qr_set {x:Str} {pos':Pos} (h:QRE K X e r) (hs:swapsWith e (some (.Name x pos')) pos.line X.env=pure false:=by rfl):QR K X (.Assign [.Name x pos'] e pos) r:=pr_set h hs
noncomputable def wrArg (we:WE) (r:WR):WR:=fun σ S R=>we σ S fun _ S1=>r σ S1 R
end
section
variable {K:Fg} {X:Cx} {k:Nat} {f C:Addr} {fd:FuncData} {ps:List Str} {wsp:WSpR} {x m:Str} {p pos pos2 apos:Pos} {e o:Expr} {es:List Expr} {wa:WE} {wr:WA} {r:WR} {G:Addr->Prop}
noncomputable def wrCall (wsp:WSpR) (wr:WA):WR:=fun σ S R=>wr σ S fun ts S1=>wsp (ts ++ []) S1 fun C S'=>R C σ S'
theorem Qr_call (F:FnOk X.prog X.w X.K X.mg X.base (CX1 X.prog X.w) k f fd ps (lSpR K wsp)) (D:Df X.K X.mg x f fd ps) (hr:Room k X.A) (hg:Gl X x) (ha:QA K X.nox (e :: es) wr)
   (hdb:(x == ("__debug__":Str))=false:=by decide) (he:starEach (e :: es) X.env=(false,eval e X.env) :: starEach es X.env:=by rfl) (hpl:(backTo pos (starEach es X.env)).any (·.1)=false:=by rfl) :
   QRE K X (.Call (.Name x p) (e :: es) [] pos) (wrCall wsp wr):=PRE.of (pre_call (dvs:=[]) F hr hg D.hm D.kp D.b .nil ha hdb he hpl) fun σ H R zz100=>by
 obtain ⟨S,σt,Rt,s,c,q,hq⟩:=zz100
 refine ⟨S,σt,_,s,c,q,fun vs H1 ts S1 f1 s1 r1 q1=>?_⟩
 exact ⟨S1,_,_,s1,r1.append .nil,q1,fun C H' S' f s' q' dct dd=>⟨C.1,rfl,hq C σ H' σt S' (f1.trans f) s' (c.fr (f1.trans f)) q' dct dd⟩⟩
noncomputable def wrMeth (G:Addr->Prop) (m:Str) (wsp:WSpR) (wa:WE) (wr:WA):WR:=fun σ S R=>wa σ S fun x S1=>∃ a C fs,x=.ref a /\ S1 a=some (.ins C fs) /\ G C /\ fs.lookup m=none /\ wr σ S1 fun ts S2=>wsp (x :: (ts ++ [])) S2 fun C S'=>R C σ S'
end
noncomputable def FinR (R:XA->Sto->Prop):WX:=fun C _ S=>∃ S0,Le S0 S /\ R C S0
theorem FinR.mk {R:XA->Sto->Prop} {C:XA} {σ:StT} {S:Sto} (h:R C S):FinR R C σ S:=⟨S,.refl,h⟩
theorem FinR.le {R:XA->Sto->Prop} {C:XA} {σ:StT} {S S0:Sto} (l:Le S0 S) (h:R C S0):FinR R C σ S:=⟨S0,l,h⟩
theorem ok_defR {P:Program} {w:World} {K:Fg} {mg:Str->Option Value} {base:Heap} {x qual:Str} {st:Stmt} {f:Addr} {fd:FuncData} {N ps:List Str} {k:Nat} {wsp:WSpR} (F:FunD K x qual st f fd) (Sc:FnScope N ps (defScope st)) (len:∀ ts S Q,wsp ts S Q->ts.length=ps.length)
   (hbody:∀ (cdv:Value) (A:Around) (outer:List Env) (s:Shared) (H:Hp) (E:XK),Room k (A.deeper (envOfC qual (defScope st) s.heap.objs.size f cdv)) ->
     ∃ u,QRs K (cxOf CX0 P w K mg base N qual (defScope st) f cdv A outer s H E) (defBody st) u /\ ∀ ts S R,wsp ts S R->u (startT N ts) S (FinR R)):FnOk P w K mg base (CX1 P w) (k + 1) f fd ps (lSpR K wsp):=by
 obtain ⟨oc,od,dV,kV,doc,pm,an,cdv,ct,osl,rfl,lk,hcd⟩:=F.ex
 refine fn_raise lk hcd Sc (fun vs H Q E ⟨S,ts,Qt,s,r,q,_⟩=>by rw [r.length]; exact len _ _ _ q) fun A outer s H vs E Q hr ⟨S,ts,Rt,sr,r,q,b⟩=>?_
 obtain ⟨u,hu,hq⟩:=hbody cdv A outer s H E hr
 refine ⟨_,hu,S,startT N ts,_,sr,cov_start r,hq ts S Rt q,fun C σ' H' σt' S' f s' _ zz101 dct dd=>?_⟩
 obtain ⟨S0,l,q0⟩:=zz101
 exact b C H' S0 (f.trans (Fr.le l)) (s'.le l) q0 dct (dd.le l)
section
variable {K:Fg} {σ:StT} {S:Sto} {R:WX} {D:EndsT} {w:WS} {r r2:WR} {t:WT} {we wa:WE} {wr:WA} {wsp:WSpR} {C B:Addr} {G:Addr->Prop} {m:Str}
theorem j_next (h:w { nx:=fun σ' S'=>r σ' S' R,rt:=fun _ _=>False } σ S):wrNext w r σ S R:=h
theorem j_if (h:t σ S fun b S1=>if b=true then r σ S1 R else r2 σ S1 R):wrIf t r r2 σ S R:=h
theorem j_arg (h:we σ S fun _ S1=>r σ S1 R):wrArg we r σ S R:=h
theorem j_call (h:wr σ S fun ts S1=>wsp (ts ++ []) S1 fun C S'=>R C σ S'):wrCall wsp wr σ S R:=h
theorem j_meth (h:wa σ S fun x S1=>∃ a C fs,x=.ref a /\ S1 a=some (.ins C fs) /\ G C /\ fs.lookup m=none /\ wr σ S1 fun ts S2=>wsp (x :: (ts ++ [])) S2 fun C S'=>R C σ S'):wrMeth G m wsp wa wr σ S R:=h
end
end T2
namespace T2
open PySem PySem.Spec PyProof.Rows L2
noncomputable def rforT (grd:Sto->Prop) (g:WG) (wb:WS) (r:WR) (R:WX):List T->StT->Sto->Prop
 | [],_,_=>False
 | t :: ts,σ,S=>grd S /\ g t σ S fun σ2 S2=>r σ2 S2 R \/ wb { nx:=rforT grd g wb r R ts,rt:=fun _ _=>False,bk:=fun _ _=>False,ct:=rforT grd g wb r R ts } σ2 S2
noncomputable def wrFor (wi:WI) (g:WG) (wb:WS) (r:WR):WR:=fun σ S R=>wi σ S fun src S1=>rforT src.grd g wb r R src.items σ S1
section
variable {K:Fg} {X:Cx} {tg:Expr}
theorem lrFor_of {wi:WI} {g:WG} {wb:WS} {r:WR} {σ H} {R:XS} (h:lR K (wrFor wi g wb r) σ H R):rFor (lI K wi) (lG K g) (lS K wb) (lR K r) σ H R:=by
 obtain ⟨S,σt,Rt,s,c,q,he⟩:=h
 refine ⟨S,σt,_,s,c,q,fun J H1 src S1 f1 s1 it q1=>?_⟩
 refine ⟨fun i m σ H=>m=src.items.length - i /\ i <= src.items.length /\ ∃ S σt,Fr H1 S1 H S /\ SRp K H S /\ Cov K H S σ σt /\ rforT src.grd g wb r Rt (src.items.drop i) σt S,
   ⟨_,rfl,Nat.zero_le _,S1,σt,.refl,s1,c.fr f1,by simpa using q1⟩,?_⟩
 rintro i m σ H ⟨rfl,hi,S2,σt2,f2,s2,c2,q2⟩
 by_cases hl:i < src.items.length
 . have e1:src.items[i]?=some src.items[i]:=by simp [hl]
   rw [drop_at e1] at q2
   obtain ⟨hg,q2⟩:=q2
   refine ⟨it.go H S2 i f2 s2 hg hl,fun σ' H'=>∃ S σt,Fr H1 S1 H' S /\ SRp K H' S /\ Cov K H' S σ' σt /\ rforT src.grd g wb r Rt (src.items.drop (i + 1)) σt S,fun σ' H' n=>⟨src.items.length - (i + 1),by omega,rfl,hl,n⟩,fun x H' y=>?_⟩
   obtain ⟨t,et,f3,s3,r3⟩:=it.yld H S2 i x H' f2 s2 hg hl y
   rw [e1] at et; cases et
   refine ⟨S2,_,σt2,_,s3,r3,c2.fr f3,q2,fun σ4 H4 σt4 S4 f4 s4 c4 q4=>?_⟩
   have fA:=(f2.trans f3).trans f4
   rcases q4 with q4 | q4
   . exact .inl ⟨S4,σt4,Rt,s4,c4,q4,fun C σ' H' σt' S' f=>he C σ' H' σt' S' ((f1.trans fA).trans f)⟩
   . exact .inr ⟨S4,σt4,_,s4,c4,q4,⟨fun σ' H' σt' S' f s' c' q'=>⟨S',σt',fA.trans f,s',c',q'⟩,fun _ _ _ _ _ _ _ q'=>q'.elim,fun _ _ _ _ _ _ _ q'=>q'.elim,fun σ' H' σt' S' f s' c' q'=>⟨S',σt',fA.trans f,s',c',q'⟩⟩⟩
 . have e:i=src.items.length:=by omega
   subst e
   rw [List.drop_eq_nil_of_le (Nat.le_refl _)] at q2
   exact q2.elim
theorem qr_for {iter:Expr} {body:List Stmt} {wi:WI} {g:WG} {wb:WS} {r:WR} {pos:Pos} (st:X.stack=X.env :: X.outer /\ X.env.frame=some X.env.locals) (hc:X.calm=true) (hi:QI K X.nox tg iter wi) (hg:QG K X.nox tg g) (hb:QSs K X.nox body wb) (hr:QRs K X body r)
   (hs:∀ x,foldedSetIterable iter X.env x=pure x:=by intro _; rfl):QR K X (.For tg iter body [] pos) (wrFor wi g wb r):=PR.of (pr_for st hc hi hg hb hr hs) fun _ _ _ h=>lrFor_of h
theorem j_for {wi:WI} {g:WG} {wb:WS} {r:WR} {σ:StT} {S:Sto} {R:WX} (h:wi σ S fun src S1=>rforT src.grd g wb r R src.items σ S1):wrFor wi g wb r σ S R:=h
theorem rfor_map {α:Type} {grd:Sto->Prop} {g:WG} {wb:WS} {r:WR} {R:WX} {f:α->T} {ls:List α} {σ:StT} {S:Sto} (Iv:List α->StT->Sto->Prop) (h0:Iv ls σ S)
   (step:∀ a l σ S (N:StT->Sto->Prop),Iv (a :: l) σ S->(∀ σ' S',Iv l σ' S'->N σ' S')->grd S /\ g (f a) σ S fun σ2 S2=>r σ2 S2 R \/ wb { nx:=N,rt:=fun _ _=>False,bk:=fun _ _=>False,ct:=N } σ2 S2)
   (done:∀ σ S,Iv [] σ S->False):rforT grd g wb r R (ls.map f) σ S:=by
 induction ls generalizing σ S with
 | nil=>exact (done σ S h0).elim
 | cons a l ih=>exact step a l σ S _ h0 fun σ' S' iv=>ih iv
end
end T2
namespace L2
open PySem PySem.Spec PyProof.Rows
section
variable {X:Cx}
variable {pos p2 p3:Pos} {value:Expr} {tv:TE} {s2:Str} {k3:Nat}
end
end L2
namespace T2
open PySem PySem.Spec PyProof.Rows L2
section
variable {K:Fg} {X:Cx} {pos p2 p3:Pos} {value o:Expr} {wv wa:WE} {s2:Str} {k3:Nat} {G:Addr->Prop}
noncomputable def wFr (wv:WE):WE:=fun σ S Q=>wv σ S fun x S1=>∃ z:Str,x=.str z /\ z.length <= 1000 /\ PyData.strOk z=true /\ ∀ y,Q (.str y) S1
theorem i_fr {σ:StT} {S:Sto} {Q:T->Sto->Prop} (h:wv σ S fun x S1=>∃ z:Str,x=.str z /\ z.length <= 1000 /\ PyData.strOk z=true /\ ∀ y,Q (.str y) S1):wFr wv σ S Q:=h
end
end T2
namespace L2
open PySem PySem.Spec PyProof.Rows
end L2
namespace T2
open PySem PySem.Spec PyProof.Rows L2
section
variable {K:Fg} {X:Cx}
end
end T2
namespace T2
open PySem PySem.Spec PyProof.Rows L2
section
variable {K:Fg} {X:Cx} {sts:List Stmt} {r1 r2:WR}
end
end T2
namespace L2
open PySem PySem.Spec PyProof.Rows
section
variable {X:Cx}
theorem isinst_any {A:Around} {pins:List (Addr × Obj)} {s:Shared} {σ:St} {H:Hp} {E:Value->Shared->Prop} {Q:Value->Shared->Prop} {x:V} {u t:Value} {tp:Addr} {its:List Value} {b:Bool} (I:Inv X pins σ H s) (rx:RelV x u) (ty:TyOf X.K H x t)
   (ht:s.heap.IsTuple tp its.toArray) (e:PySem.W.kitAny X.K t its=some b) (h:∀ tk,Q (.bool b) { s with toks:=tk }) :
   wpAny (model X.prog X.w) A (call (.builtin "isinstance") [u,.ref tp]) Q E s:=by
 obtain ⟨⟨oc,dd,od,sl⟩,htp,hc,n,hd⟩:=ht
 simp only at hc hd
 subst hc hd
 cases ty with
 | non=>cases (show u=Value.none from rx); exact PySem.W.kia_tup PySem.W.kitx_none I.kIn True.intro htp e (fun z=>nomatch z) h
 | bl y=>cases (show u=Value.bool y from rx); exact PySem.W.kia_tup PySem.W.kitx_bool I.kIn True.intro htp e (fun z=>nomatch z) h
 | int i=>obtain ⟨t,q⟩:=(show ∃ t,u=Value.int i t from rx); cases q; exact PySem.W.kia_tup PySem.W.kitx_int I.kIn True.intro htp e (fun z=>nomatch z) h
 | str y=>obtain ⟨t,q⟩:=(show ∃ t,u=Value.str y t from rx); cases q; exact PySem.W.kia_tup PySem.W.kitx_str I.kIn True.intro htp e (fun z=>nomatch z) h
 | flt y=>obtain ⟨t,q⟩:=(show ∃ t,u=Value.float y t from rx); cases q; exact PySem.W.kia_tup PySem.W.kitx_float I.kIn True.intro htp e (fun z=>nomatch z) h
 | @lst a xs ea =>
   cases (show u=Value.ref a from rx)
   obtain ⟨_,_,n,_,h1⟩:=(show ObjOk X.prog X.w H s.heap a (.lst xs) from I.hok a _ ea)
   exact PySem.W.kia_tup PySem.W.kitx_list I.kIn ⟨_,h1,rfl⟩ htp e (fun z=>nomatch z) h
 | @frz a ob xs ea =>
   cases (show u=Value.ref a from rx)
   obtain ⟨_,_,_,n,_,h1⟩:=(show ObjOk X.prog X.w H s.heap a (.frz ob (.lst xs)) from I.hok a _ ea)
   exact PySem.W.kia_tup PySem.W.kitx_list I.kIn ⟨_,h1,rfl⟩ htp e (fun z=>nomatch z) h
 | @tup a xs ea =>
   cases (show u=Value.ref a from rx)
   obtain ⟨_,_,_,p⟩:=(show ObjOk X.prog X.w H s.heap a (.tup xs) from I.hok a _ ea)
   obtain ⟨o,h1,h2,_⟩:=p
   exact PySem.W.kia_tup PySem.W.kitx_tuple I.kIn ⟨o,h1,h2⟩ htp e (fun z=>nomatch z) h
 | @dK a kvs ea =>
   cases (show u=Value.ref a from rx)
   obtain ⟨_,_,vs,_,p⟩:=(show ObjOk X.prog X.w H s.heap a (.dK kvs) from I.hok a _ ea)
   obtain ⟨o,es,ep,h1,h2,_⟩:=p
   exact PySem.W.kia_tup PySem.W.kitx_dict I.kIn ⟨o,h1,h2.1⟩ htp e (fun z=>nomatch z) h
 | @dT a kvs ea =>
   cases (show u=Value.ref a from rx)
   obtain ⟨_,_,xs,_,o,es,ep,h1,h2,_⟩:=(show ObjOk X.prog X.w H s.heap a (.dT kvs) from I.hok a _ ea)
   exact PySem.W.kia_tup PySem.W.kitx_dict I.kIn ⟨o,h1,h2.1⟩ htp e (fun z=>nomatch z) h
 | @ins a C dx fs ea cl ha hn htk hm =>
   cases (show u=Value.ref a from rx)
   obtain ⟨mA,O,_⟩:=ins_get I.hok ea
   obtain ⟨od,J,_⟩:=O.look
   exact PySem.W.kia_tup (PySem.W.kitx_own (cl.get _) cl.hd ha hn htk hm) I.kIn J htp e (fun z=>nomatch z) h
end
end L2
namespace T2
open PySem PySem.Spec PyProof.Rows L2
section
variable {K:Fg} {X:Cx}
noncomputable def gIsi2 (K:Fg):GC:=fun ts S Q=>∃ x n m t b,ts=[x,.tup [.ty n,.ty m]] /\ tyT S x=some t /\ PySem.W.kitAny K t [.type n,.type m]=some b /\ Q (.bl b) S
theorem c_isi2 (hK:X.K=K):CallR X (.builtin "isinstance") (lC K (gIsi2 K)):=by
 subst hK
 rintro pins s σ H xs us Q I r ⟨S,ts,Qt,sr,rs,⟨x,n,m,t,k,e1,e,hk,q⟩,b⟩
 subst e1
 cases rs with
 | cons rx rs =>
   cases rs with
   | cons rt rn =>
     cases rn
     cases rt with
     | tup hn hp rr =>
       cases rr with
       | cons r1 rr =>
         cases rr with
         | cons r2 rr =>
           cases rr
           cases r1
           cases r2
           obtain ⟨u1,u2,rfl,v1,v2⟩:=vals2 r
           cases v2
           obtain ⟨its,rv,ht,hz⟩:=I.tuple (SqT.of hp)
           obtain ⟨w1,w2,rfl,rw1,rw2⟩:=vals2 rv
           cases rw1
           cases rw2
           exact isinst_any I v1 (tyT_ok sr rx e) ht hk fun tk=>⟨.bl k,H,I.tok tk,rfl,b _ H _ S .refl sr .bl q⟩
theorem g_isi2 {S:Sto} {Q:T->Sto->Prop} {n m:String} {x:T} {t:Value} {b:Bool} (e:tyT S x=some t) (hk:PySem.W.kitAny K t [.type n,.type m]=some b) (h:Q (.bl b) S):gIsi2 K [x,.tup [.ty n,.ty m]] S Q:=⟨x,n,m,t,b,rfl,e,hk,h⟩
theorem kit2_t {t c d:Value} (h:PySem.W.kitOne K t c=some true):PySem.W.kitAny K t [c,d]=some true:=by unfold PySem.W.kitAny; rw [h]
theorem kit2_f {t c d:Value} {b:Bool} (h:PySem.W.kitOne K t c=some false) (h2:PySem.W.kitOne K t d=some b):PySem.W.kitAny K t [c,d]=some b:=by
 unfold PySem.W.kitAny PySem.W.kitAny PySem.W.kitAny
 rw [h,h2]
 cases b <;> rfl
end
end T2
namespace L2
open PySem PySem.Spec PyProof.Rows
section
variable {X:Cx} {pos p2 p3 p4:Pos} {value value2:Expr} {tv tv2:TE} {s2:Str} {k3:Nat}
variable {elt iter target:Expr} {ifs:List Expr} {scope:Scope} {r:TR}
end
end L2
namespace T2
open PySem PySem.Spec PyProof.Rows L2
section
variable {K:Fg} {X:Cx} {pos p2 p3 p4:Pos} {value value2:Expr} {wv wv2:WE} {s2:Str} {k3:Nat} {r:WR}
variable {elt iter target:Expr} {ifs:List Expr} {scope:Scope}
end
end T2
namespace T2
open PySem L2
theorem i_iTup {σ:StT} {S:Sto} {wa:WE} {R:Src->Sto->Prop} (h:wa σ S fun x S1=>∃ ts,x=.tup ts /\ R ⟨ts,fun _=>True⟩ S1):wiT wa σ S R:=h
end T2
namespace L2
open PySem PySem.Spec PyProof.Rows
section
variable {X:Cx}
end
end L2
namespace T2
open PySem PySem.Spec PyProof.Rows L2
section
variable {K:Fg} {X:Cx}
end
end T2
namespace L2
open PySem PySem.Spec PyProof.Rows
end L2
namespace T2
open PySem PySem.Spec PyProof.Rows L2
section
variable {K:Fg} {X:Cx}
end
end T2
namespace T2
open PySem PySem.Spec PyProof.Rows L2
end T2
namespace L2
open PySem PySem.Spec PyProof.Rows
noncomputable def ItE (K:PySem.W.Frag) (l:Addr):It :=
 ⟨fun i H=>∃ xs x,SqL K H l xs /\ xs[i]?=some x,fun i H x H'=>∃ p y,H p=none /\ x=.ref p /\ H'=upd H p (.tup [.int i,y]) /\ ∀ xs,SqL K H l xs->xs[i]?=some y,fun i H=>∃ xs,SqL K H l xs /\ xs.length <= i⟩
theorem Inv.turned2 {X:Cx} {pins:List (Addr × Obj)} {σ:St} {H:Hp} {s:Shared} {h':Heap} {t':Nat} {e it:Addr} {oi oi':Obj} (I:Inv X pins σ H s) (hne:e ≠ it) (hi:s.heap.get? it=some oi) (hi':h'.get? it=some oi') (k:∀ b o,b ≠ e->b ≠ it->s.heap.get? b=some o->h'.get? b=some o)
   (f:FpOk X pins H e) (g:FpOk X pins H it):Inv X pins σ H { s with heap:=h',toks:=t' }:=by
 obtain ⟨f0,f1,f2,f3,f4,f5⟩:=f
 obtain ⟨g0,g1,g2,g3,g4,g5⟩:=g
 have hfr:oi.isFreed=false:=(Heap.get?_some_iff.mp hi).2
 have I1:Inv X pins σ H { s with heap:=h'.update it (fun _=>oi),toks:=t' }:=I.turned (fun b o hb z=>by
   by_cases hbi:b=it
   . subst hbi
     rw [hi] at z; cases z
     exact Heap.get?_update_self _ hi' hfr
   . rw [Heap.get?_update_other _ _ (Ne.symm hbi)]
     exact k b o hb hbi z) f0 f1 f3 f4 f5
 exact I1.turned (s:={ s with heap:=h'.update it (fun _=>oi),toks:=t' }) (t':=t') (fun b o hb z=>by
   rw [show ({ s with heap:=h'.update it (fun _=>oi),toks:=t' }:Shared).heap.get? b=h'.get? b from Heap.get?_update_other _ _ (Ne.symm hb)] at z
   exact z) g0 g1 g3 g4 g5
theorem turn_enum {P:Program} {w:World} {K:PySem.W.Frag} {elts:List Expr} {x1:Nat} {tpos:Pos} (l e it:Addr) (hne:e ≠ it) :
   Turn P w K (.Tuple elts x1 tpos) (ItE K l) [e,it] e (fun i h=>∃ old,IsEnum h e it ((i:Nat):Int) old /\ h.IsListIter it l i) where
 mem:=by simp
 obj:=fun i h st b hb=>by
   obtain ⟨old,h1,o,h2,_,h3⟩:=st
   rcases List.mem_cons.mp hb with rfl | hb
   . exact ⟨_,h1,fun v z=>by cases z⟩
   . obtain rfl:b=it:=by simpa using hb
     exact ⟨o,h2,fun v z=>by rw [h3] at z; cases z⟩
 keep:=fun i h h' zz102 k=>by obtain ⟨old,h1,o,h2,r⟩:=zz102; exact ⟨old,k e (by simp) _ h1,o,k it (by simp) _ h2,r⟩
 item:=by
   rintro X hP hw hK hc i pins s σ H E I hf ⟨old,st,sl⟩ hg
   subst hP hw hK
   obtain ⟨xs,x,hq,hx⟩:=hg
   obtain ⟨its,rv,p,hz⟩:=I.list hq
   obtain ⟨u,hu,ru⟩:=rv.get hx
   have fe:=hf e (by simp)
   have fi:=hf it (by simp)
   obtain ⟨oi,hoi,_⟩:=id sl
   refine wpAny_pyNext_enum_item st sl p.isList (x:=u) (by simpa using hu) hne fun h1 st1 sl1 ht hsz kp=>?_
   refine ⟨_,rfl,wpAny_letOwnedTupleGo_enum st1 fun h2 st2 sb2=>?_⟩
   have hes:e < s.heap.objs.size:=Heap.lt_size st
   have his:it < s.heap.objs.size:=Heap.lt_size hoi
   replace sb2:Heap.SameBut e h1 h2:=sb2
   have ht2:h2.get? s.heap.objs.size=some { cls:=.type "tuple",data:=.seq #[.int i s.toks,u] }:=(sb2.2 _ (Nat.ne_of_gt hes)).trans ht
   have sl2:h2.IsListIter it l (i + 1):=by
     obtain ⟨o,ho,r⟩:=sl1
     exact ⟨o,(sb2.2 it (Ne.symm hne)).trans ho,r⟩
   obtain ⟨oi2,hoi2,_⟩:=id sl2
   have Im:Inv X pins σ (upd H s.heap.objs.size (.tup [.int i,x])) { s with heap:=s.heap.push { cls:=.type "tuple",data:=.seq #[.int i s.toks,u] },toks:=s.toks } :=
     I.laid (t':=s.toks) (fun b u e=>Heap.get?_push_of_some _ e) (Nat.le_refl _) ⟨by show 2 <= sizeLine; decide,[.int i s.toks,u],.cons ⟨_,rfl⟩ (.cons ru .nil),⟨_,Heap.get?_push_size _ rfl,rfl,_,rfl⟩⟩
   have fk:∀ b,b < s.heap.objs.size->FpOk X pins H b->FpOk X pins (upd H s.heap.objs.size (.tup [.int i,x])) b:=fun b hb f=>⟨by rw [upd_ne (Nat.ne_of_lt hb)]; exact f.1,f.2⟩
   have I2:Inv X pins σ (upd H s.heap.objs.size (.tup [.int i,x])) { s with heap:=h2,toks:=s.toks + 1 }:=by
     refine Inv.turned2 (s:={ s with heap:=s.heap.push { cls:=.type "tuple",data:=.seq #[.int i s.toks,u] },toks:=s.toks }) Im (t':=s.toks + 1) (e:=e) (it:=it) (oi:=oi) (oi':=oi2) hne (Heap.get?_push_of_some _ hoi) hoi2 (fun b o hbe hbi z=>?_) (fk e hes fe) (fk it his fi)
     by_cases hbs:b=s.heap.objs.size
     . subst hbs
       rw [show ({ s with heap:=s.heap.push { cls:=.type "tuple",data:=.seq #[.int i s.toks,u] },toks:=s.toks }:Shared).heap.get? s.heap.objs.size=some { cls:=.type "tuple",data:=.seq #[.int i s.toks,u] } from Heap.get?_push_size _ rfl] at z
       cases z; exact ht2
     . exact (sb2.2 b hbe).trans (kp b o hbe hbi (by rw [<- Heap.get?_push_ne _ _ _ hbs]; exact z))
   refine ⟨.ref s.heap.objs.size,_,I2,rfl,⟨s.heap.objs.size,x,I.hok.fresh (Nat.le_refl _),rfl,rfl,fun ys hy=>by rw [I.list_inj hy hq]; exact hx⟩,⟨_,st2,sl2⟩,fun b hb=>?_⟩
   rcases List.mem_cons.mp hb with rfl | hb
   . exact (fk _ hes fe).1
   . obtain rfl:b=it:=by simpa using hb
     exact (fk _ his fi).1
 done:=by
   rintro X hP hw hK hc i pins s σ H E I hf ⟨old,st,sl⟩ hg
   subst hP hw hK
   obtain ⟨xs,hq,hx⟩:=hg
   obtain ⟨its,rv,p,hz⟩:=I.list hq
   obtain ⟨f0,f1,f2,f3,f4,f5⟩:=hf it (by simp)
   have hl:=rv.length
   exact wpAny_pyNext_enum_end (I.ok.hd hc) st sl p.isList (by simp; omega) fun h' eb=>⟨rfl,I.turned (t':=s.toks) (fun b o hb z=>eb b o hb z) f0 f1 f3 f4 f5⟩
 self:=fun A i s Q E zz103 h=>by obtain ⟨old,st,sl⟩:=zz103; exact wpAny_pyIter_enum st h
theorem boot_enumerate:bootBuiltins (Str.ofString "enumerate")=some (.type "enumerate"):=by kernel_rfl
noncomputable def iEnum (K:PySem.W.Frag) (ta:TA):TI:=fun σ H R=>ta σ H fun vs H1=>∃ l,vs=[.ref l] /\ (∃ xs,SqL K H1 l xs) /\ R (ItE K l) H1
theorem pi_enum {X:Cx} {elts:List Expr} {x1:Nat} {tpos:Pos} {a:Expr} {ta:TA} {p pos:Pos} (hg:Gl X "enumerate") (hm:X.mg "enumerate"=none) (ha:PA X [a] ta) (hs:starEach [a] X.env=[(false,eval a X.env)]:=by rfl) :
   PI X (.Tuple elts x1 tpos) (.Call (.Name "enumerate" p) [a] [] pos) (iEnum X.K ta):=by
 intro pins s σ H R I h
 refine Call_ (ld_blt I hg hm boot_enumerate (PyProof.Rows.callWith_type1 (thn (ha pos pins s σ H _ I h) fun us s1 ⟨vs,H1,I1,r1,q1⟩=>?_) hs rfl))
 obtain ⟨l,e,⟨xs,hq⟩,q⟩:=q1
 subst e
 cases r1 with
 | cons r rr =>
   cases rr
   cases r
   obtain ⟨its,rv,pl,hz⟩:=I1.list hq
   refine call_enumerate_list pl.isList fun h' he hi hsz kp=>?_
   refine wpAny_pyIter_enum (s:={ s1 with heap:=h' }) he ?_
   have I2:Inv X pins σ H1 { s1 with heap:=h' }:=I1.kept (t':=s1.toks) kp
   refine ⟨s1.heap.objs.size + 1,[s1.heap.objs.size + 1,s1.heap.objs.size],_,_,H1,rfl,I2,turn_enum l _ _ (Nat.succ_ne_self _),⟨_,he,hi⟩,fun b hb=>?_,q⟩
   rcases List.mem_cons.mp hb with rfl | hb
   . exact I1.fpOk (Nat.le_succ _) (I1.hok.fresh (Nat.le_succ _))
   . obtain rfl:b=s1.heap.objs.size:=by simpa using hb
     exact I1.fpOk (Nat.le_refl _) (I1.hok.fresh (Nat.le_refl _))
end L2
namespace T2
open PySem L2
variable {K:Fg} {X:Cx}
noncomputable def enumT (ts:List T):List T:=ts.zipIdx.map fun p=>.tup [.int (p.2:Int),p.1]
theorem enumT_len (ts:List T):(enumT ts).length=ts.length:=by simp [enumT]
theorem enumT_at (ts:List T) (i:Nat):(enumT ts)[i]?=ts[i]?.map fun t=>.tup [.int i,t]:=by
 simp only [enumT,List.getElem?_map,List.getElem?_zipIdx,Option.map_map,Nat.zero_add]
 rfl
theorem iter_enum {H1:Hp} {S1:Sto} {x:T} {a:Addr} {ts:List T} (r:Rp K H1 S1 x (.ref a)) (e:viewL S1 x=some ts):Iter K (ItE K a) ⟨enumT ts,liveOk x ts⟩ H1 S1:=by
 have I0:=iter_list r e
 have main:∀ H S,Fr H1 S1 H S->SRp K H S->liveOk x ts S->∃ vs,SqL K H a vs /\ Rps K H S ts vs:=fun H S f s g=>by
   obtain ⟨p,vs,ep,hq,rs⟩:=viewL_sq s (r.fr f) (live_view e g)
   cases ep
   exact ⟨vs,hq,rs⟩
 refine ⟨fun H S i f s g hl=>?_,fun H S i y H' f s g hl hy=>?_,fun H S f s g=>?_⟩
 . exact I0.go H S i f s g (by simpa [enumT] using hl)
 . obtain ⟨vs,hq,rs⟩:=main H S f s g
   obtain ⟨p,z,hp,rfl,rfl,hz⟩:=hy
   obtain ⟨t,et,rt⟩:=rs.getV (hz vs hq)
   refine ⟨.tup [.int i,t],by rw [enumT_at,et]; rfl,Fr.new hp,s.new hp,?_⟩
   exact .tup (s.fresh hp) upd_same (.cons .int (.cons (rt.fr (Fr.new hp)) .nil))
 . have:=I0.stop H S f s g
   show (ItE K a).stop (enumT ts).length H
   rw [enumT_len]; exact this
noncomputable def wiE (wa:WE):WI:=fun σ S R=>wa σ S fun x S1=>∃ ts,viewL S1 x=some ts /\ R ⟨enumT ts,liveOk x ts⟩ S1
theorem qi_enum {elts:List Expr} {x1:Nat} {tpos:Pos} {a:Expr} {wa:WE} {p pos:Pos} (hK:X.K=K) (hg:Gl X "enumerate") (hm:X.mg "enumerate"=none) (ha:QE K X a wa) (hs:starEach [a] X.env=[(false,eval a X.env)]:=by rfl) (hs':starEach [a] X.env=(false,eval a X.env) :: starEach [] X.env:=by rfl) :
   QI K X (.Tuple elts x1 tpos) (.Call (.Name "enumerate" p) [a] [] pos) (wiE wa):=by
 subst hK
 refine PI.of (pi_enum hg hm (pa_cons ha pa_nil hs') hs) fun σ H R zz104=>?_
 obtain ⟨S,σt,Rt,s,c,q,hq⟩:=zz104
 refine ⟨S,σt,_,s,c,q,fun v H1 t S1 f1 s1 r1 q1=>?_⟩
 obtain ⟨ts,e,q1⟩:=q1
 obtain ⟨p,vs,rfl,hS,rs⟩:=viewL_sq s1 r1 e
 exact ⟨p,rfl,⟨vs,hS⟩,hq _ H1 _ S1 f1 s1 (iter_enum r1 e) q1⟩
end T2
namespace L2
open PySem PySem.Spec PyProof.Rows
section
variable {X:Cx}
theorem call_strI:CallR X (.type "str") (fun xs H Q=>∃ i:Int,xs=[.int i] /\ i.natAbs.log2 < 1920 /\ Q (.str (Str.ofString (toString i))) H):=by
 intro pins s σ H xs us Q I r h
 obtain ⟨i,rfl,hi,q⟩:=h
 obtain ⟨u,rfl,rx⟩:=vals1 r
 obtain ⟨t,rfl⟩:=(show ∃ t,u=Value.int i t from rx)
 exact P.str_of_int hi ⟨.str _,H,I.tok _,⟨_,rfl⟩,q⟩
theorem call_intT:CallR X (.type "int") (fun xs H Q=>∃ (x:Str) (n:Int),xs=[.str x] /\ PySem.intText? x=some n /\ x.length <= 640 /\ Q (.int n) H):=by
 intro pins s σ H xs us Q I r h
 obtain ⟨x,n,rfl,hn,hl,q⟩:=h
 obtain ⟨u,rfl,rx⟩:=vals1 r
 obtain ⟨t,rfl⟩:=(show ∃ t,u=Value.str x t from rx)
 exact PySem.W.KIN.call_text hn hl ⟨.int n,H,I.tok _,⟨_,rfl⟩,q⟩
noncomputable def rPart:V->List V->Hp->VK->Prop:=fun x xs H Q=>∃ a b:Str,x=.str a /\ xs=[.str b] /\ b.length ≠ 0 /\ a.length <= sizeLine /\ ∀ p,H p=none->Q (.ref p) (upd H p (.tup [.str (Txt.partition a b).1,.str (Txt.partition a b).2.1,.str (Txt.partition a b).2.2]))
theorem mt_part:MtR X "str.partition" rPart:=by
 intro pins s σ H x vs v us Q I rx rv h
 obtain ⟨a,b,rfl,rfl,hb,hz,q⟩:=h
 obtain ⟨t,rfl⟩:=rx
 obtain ⟨u,rfl,t2,rfl⟩:=vals1 rv
 have hy:(b.length == 0)=false:=by simpa using hb
 refine call_meets F.slot_str_partition (typeIs_str _ _ _) F.entry_str_partition (F.args_str_partition_2 _ _) (meets_str_partition a b t t2 hy hz) ?_
 have q1:=q s.heap.objs.size I.fresh
 unfold Txt.partition at q1
 cases e:Builtin.Str.occurrences a b 0 a.length 1 with
 | nil =>
   rw [e] at q1
   exact ⟨.ref _,_,I.laid (o:=.tup [.str a,.str Str.empty,.str Str.empty]) (h':=s.heap.push { cls:=.type "tuple",data:=.seq #[.str a t,.str Str.empty s.toks,.str Str.empty s.toks] }) (t':=s.toks + 1) (fun _ _ e=>Heap.get?_push_of_some _ e) (Nat.le_refl _)
     ⟨by show 3 <= sizeLine; decide,[.str a t,.str Str.empty s.toks,.str Str.empty s.toks],.cons ⟨_,rfl⟩ (.cons ⟨_,rfl⟩ (.cons ⟨_,rfl⟩ .nil)),⟨_,Heap.get?_push_size _ rfl,rfl,_,rfl⟩⟩,rfl,q1⟩
 | cons i l =>
   rw [e] at q1
   exact ⟨.ref _,_,I.laid (o:=.tup [.str (Builtin.Str.strSub a 0 i),.str b,.str (Builtin.Str.strSub a (i + b.length) a.length)]) (h':=s.heap.push { cls:=.type "tuple",data:=.seq #[.str (Builtin.Str.strSub a 0 i) s.toks,.str b t2,.str (Builtin.Str.strSub a (i + b.length) a.length) (s.toks + 1)] }) (t':=s.toks + 1 + 1) (fun _ _ e=>Heap.get?_push_of_some _ e) (Nat.le_refl _)
     ⟨by show 3 <= sizeLine; decide,[.str (Builtin.Str.strSub a 0 i) s.toks,.str b t2,.str (Builtin.Str.strSub a (i + b.length) a.length) (s.toks + 1)],.cons ⟨_,rfl⟩ (.cons ⟨_,rfl⟩ (.cons ⟨_,rfl⟩ .nil)),⟨_,Heap.get?_push_size _ rfl,rfl,_,rfl⟩⟩,rfl,q1⟩
end
end L2
namespace T2
open PySem PySem.Spec PyProof.Rows L2
section
variable {K:Fg} {X:Cx}
noncomputable def gStrI:GC:=fun ts S Q=>∃ i:Int,ts=[.int i] /\ i.natAbs.log2 < 1920 /\ Q (.str (Str.ofString (toString i))) S
theorem c_strI:CallR X (.type "str") (lC K gStrI):=by
 rintro pins s σ H xs us Q I r ⟨S,ts,Qt,sr,rs,⟨i,rfl,hi,q⟩,b⟩
 cases rs with
 | cons a l =>
   cases l
   obtain rfl:=a.iint
   exact call_strI pins s σ H _ us Q I r ⟨_,rfl,hi,b _ H _ S .refl sr .str q⟩
theorem g_strI {S:Sto} {Q:T->Sto->Prop} {i:Int} (hi:i.natAbs.log2 < 1920) (h:Q (.str (Str.ofString (toString i))) S):gStrI [.int i] S Q:=⟨i,rfl,hi,h⟩
noncomputable def gIntT:GC:=fun ts S Q=>∃ (x:Str) (n:Int),ts=[.str x] /\ PySem.intText? x=some n /\ x.length <= 640 /\ Q (.int n) S
theorem c_intT:CallR X (.type "int") (lC K gIntT):=by
 rintro pins s σ H xs us Q I r ⟨S,ts,Qt,sr,rs,⟨x,n,rfl,hn,hl,q⟩,b⟩
 cases rs with
 | cons a l =>
   cases l
   cases a
   exact call_intT pins s σ H _ us Q I r ⟨_,n,rfl,hn,hl,b _ H _ S .refl sr .int q⟩
theorem g_intT {S:Sto} {Q:T->Sto->Prop} {x:Str} {n:Int} (hn:PySem.intText? x=some n) (hl:x.length <= 640) (h:Q (.int n) S):gIntT [.str x] S Q:=⟨x,n,rfl,hn,hl,h⟩
noncomputable def gPart:GM:=fun x ts S Q=>∃ a b:Str,x=.str a /\ ts=[.str b] /\ b.length ≠ 0 /\ a.length <= 1000 /\ Q (.tup [.str (Txt.partition a b).1,.str (Txt.partition a b).2.1,.str (Txt.partition a b).2.2]) S
theorem m_part:MtR X "str.partition" (lM K gPart):=by
 rintro pins s σ H x vs v us Q I rx rv ⟨S,t,ts,Qt,sr,hx,rs,⟨a,c,rfl,rfl,h0,h1,q⟩,b⟩
 cases hx
 cases rs with
 | cons r l =>
   cases l
   cases r
   refine mt_part pins s σ H _ _ v us Q I rx rv ⟨a,c,rfl,rfl,h0,by rw [sizeLine_eq]; omega,fun p hp=>?_⟩
   exact b _ _ _ S (Fr.new hp) (sr.new hp) (.tup (sr.fresh hp) upd_same (.cons .str (.cons .str (.cons .str .nil)))) q
theorem g_part {S:Sto} {Q:T->Sto->Prop} {a b:Str} (h0:b.length ≠ 0) (h1:a.length <= 1000) (h:Q (.tup [.str (Txt.partition a b).1,.str (Txt.partition a b).2.1,.str (Txt.partition a b).2.2]) S):gPart (.str a) [.str b] S Q:=⟨a,b,rfl,rfl,h0,h1,h⟩
end
end T2
namespace L2
open PySem PySem.Spec PyProof.Rows
section
variable {X:Cx} {pos p2 p3 p4:Pos} {value value2:Expr} {tv tv2:TE} {s2:Str} {k3:Nat}
end
end L2
namespace T2
open PySem PySem.Spec PyProof.Rows L2
section
variable {K:Fg} {X:Cx} {pos p2 p3 p4:Pos} {value value2:Expr} {wv wv2:WE} {s2:Str} {k3:Nat}
end
end T2
namespace Nm
open PySem
noncomputable def D (n:Nat):Str:=Str.ofString (toString (n:Int))
theorem tl_D (n:Nat):Tm.tl (D n)=(Nat.toDigits 10 n).map Char.toNat:=PySem.W.KIN.signs_num n
theorem digit {n c:Nat} (h:c ∈ Tm.tl (D n)):48 <= c /\ c <= 57:=by
 rw [tl_D] at h
 obtain ⟨d,hd,rfl⟩:=List.mem_map.mp h
 have:=Nat.isDigit_of_mem_toDigits (by decide) (by decide) hd
 simp only [Char.isDigit,Bool.and_eq_true,decide_eq_true_eq] at this
 exact this
theorem len1 (n:Nat):1 <= (D n).length:=by
 rw [<- Tm.len,tl_D,List.length_map]; exact Nat.length_toDigits_pos
theorem len15 {n:Nat} (h:n < 10 ^ 15):(D n).length <= 15:=by
 rw [<- Tm.len,tl_D,List.length_map]; exact (Nat.length_toDigits_le_iff (by decide) (by decide)).mpr h
theorem at_iff (x:Str) (i:Nat):StrLaws.At x " " x.length i ↔ (Tm.tl x)[i]?=some 32:=by
 unfold StrLaws.At Builtin.Str.subAt
 have e1:((Str.ofString " ").length)=1:=rfl
 rw [e1]
 have e2:(x.cps.extract i (i + 1)).toList=((Tm.tl x).drop i).take 1:=by
   rw [Array.toList_extract]; simp [Tm.tl,List.extract]
 constructor
 . rintro ⟨h,q⟩
   have q:=congrArg Array.toList (eq_of_beq q)
   rw [e2] at q
   have q:((Tm.tl x).drop i).take 1=[32]:=q
   have:=congrArg (fun l=>l[0]?) q
   simpa using this
 . intro h
   obtain ⟨hl,he⟩:=List.getElem?_eq_some_iff.mp h
   rw [Tm.len] at hl
   refine ⟨by omega,?_⟩
   have:x.cps.extract i (i + 1)=(Str.ofString " ").cps:=by
     apply Array.toList_inj.mp
     rw [e2]
     show _=[32]
     rw [List.drop_eq_getElem_cons (by rw [Tm.len]; exact hl),List.take_succ_cons,List.take_zero,he]
   rw [this]; exact beq_self_eq_true _
theorem part {x p w:Str} (h:32 ∉ Tm.tl p) (e:Tm.tl x=Tm.tl p ++ 32 :: Tm.tl w):Txt.partition x " "=(p,(Str.ofString " "),w):=by
 have hat:StrLaws.At x " " x.length p.length:=(at_iff x _).mpr (by rw [e,<- Tm.len p,List.getElem?_append_right (Nat.le_refl _)]; simp)
 have str:∀ {a b:Str},Tm.tl a=Tm.tl b->a=b:=fun {a b} q=>by
   obtain ⟨a⟩:=a
   obtain ⟨b⟩:=b
   exact congrArg Str.mk (Array.toList_inj.mp q)
 have sum:=StrLaws.partition_sum x " "
 rcases PyProof.Rows.partition_whole x " " with ⟨_,no⟩ | ⟨i,he,hi,hm⟩
 . exact (no _ hat).elim
 . have hs:32 ∉ Tm.tl (Txt.partition x " ").1:=fun hc=>by
     rw [he] at hc
     have ts:Tm.tl (Builtin.Str.strSub x 0 i)=(Tm.tl x).take i:=by
       have:=StrLaws.strSub_toList x 0 i
       simpa [Tm.tl] using this
     rw [show ((Builtin.Str.strSub x 0 i,(Str.ofString " "),Builtin.Str.strSub x (i + (Str.ofString " ").length) x.length):Str × Str × Str).1=Builtin.Str.strSub x 0 i from rfl,ts] at hc
     obtain ⟨k,hk⟩:=List.mem_iff_getElem?.mp hc
     rw [List.getElem?_take] at hk
     split at hk
     . next hki=>exact hm k hki ((at_iff x k).mpr hk)
     . cases hk
   have h2:(Txt.partition x " ").2.1=" ":=by rw [he]
   have sum2:=congrArg Tm.tl sum
   rw [Tm.tl_app,Tm.tl_app,h2,Tm.blank,e,List.append_assoc] at sum2
   obtain ⟨q1,q2⟩:=Wm.head_eq _ _ _ _ hs h sum2
   exact Prod.ext (str q1) (Prod.ext h2 (str q2))
end Nm
set_option maxRecDepth 100000
namespace PySem.W
open PySem PySem.Spec PySem.Calls PyProof.Rows
section
variable {prog:Program} {w:World} {A:Around} {E:Value->Shared->Prop} {s:Shared} {K:Frag} {x C:Addr} {ox:Obj} {od:Option Obj} {name:Str} {expr fill:Bool}
structure XGet (K:Frag) (C:Addr):Prop where
 ga:findIn K (.ref C) "__getattribute__"=some (some (.builtin "BaseException.__getattribute__"))
 gk:findIn K (.ref C) "__getattr__"=some none
 sub:mroIn K C (.type "BaseException")=some true
theorem xget_by {tk:Tok} {Q:Value->Shared->Prop} (G:XGet K C) (X:K.In s.heap) (I:InstAt s.heap x ox C od)
   (h:wpAny (model prog w) A.in1 (Builtin.«object.__getattribute__» ⟨[.ref x,.str name tk],[]⟩) (fun fin s'=>match fin with | .done (.ret v)=>wpAny (model prog w) A (handedOut v) Q E s' | _=>False) (fun _ _=>False) s) :
   wpAny (model prog w) A (getAttrBy (.ref x) (.str name tk) fill expr) Q E s:=by
 have hb:Looks (model prog w) s.heap (hookBefore (.ref C)) none:=by
   unfold hookBefore; rw [if_pos (show onTheHeap (.ref C)=true from rfl)]; exact looks_findIn X G.gk
 have sub:Looks (model prog w) s.heap (isInstance (.ref x) (.type "BaseException")) true:=I.type.andThen (looks_mroIn X G.sub)
 unfold getAttrBy
 refine wpAny_holding (wpAny_bind (I.type.here (wpAny_bind ((looks_findIn X G.ga).here ?_))))
 dsimp only
 rw [show (onTheHeap (.ref C) && Value.builtin "BaseException.__getattribute__" == Value.builtin "object.__getattribute__")=false from by rw [show (Value.builtin "BaseException.__getattribute__" == Value.builtin "object.__getattribute__")=false from by decide +kernel,Bool.and_false],if_neg (by decide)]
 unfold getAttrByItsOwn
 refine wpAny_bind (hb.here (wpAny_bind (wpAny_attempt (wpAny_holding ?_))))
 unfold callGetattribute
 rw [show (expr && onTheHeap (Value.builtin "BaseException.__getattribute__"))=false from Bool.and_false _,if_neg (by decide)]
 unfold boundAndCalled
 rw [PySem.F.attr_ValueError.ga.bind]
 refine wpAny_bind (wpAny_pure ?_)
 show wpAny _ _ (call (.builtin "BaseException.__getattribute__") [.ref x,.str name tk]) _ _ _
 refine wpAny_call ?_
 refine codeAny_call_builtin PySem.F.attr_ValueError.ga.plain PySem.F.entry_bexc_ga ?_
 refine @check_slot (model prog w) _ _ s "BaseException.__getattribute__" "BaseException" "__getattribute__" (.ref x) [.str name tk] [] _ (by decide +kernel) (by decide +kernel) sub (PySem.F.args_bexc_ga (.ref x) (.str name tk)) ?_
 refine wpAny_mono h (fun fin s' z=>?_) fun _ _ z=>z.elim
 rcases fin with (_ | _ | _ | _) | _ <;> first | exact z | exact z.elim
theorem xget_value {v:Value} {Q:Value->Shared->Prop} (G:XGet K C) (X:K.In s.heap) (I:InstAt s.heap x ox C od) (hf:findObj K C od name=some (.value v)) (hh:handedIn v=true) (h:Q v { s with toks:=s.toks + 1 }) :
   wpAny (model prog w) A (getAttr (.ref x) name expr) Q E s:=by
 unfold getAttr
 refine wpAny_bind (wpAny_mkText (xget_by (s:={ s with toks:=s.toks + 1 }) G X I ?_))
 obtain ⟨hh',g,d,t,os⟩:=s
 have L0:=I.type (M:=model prog w)
 have L1:=looks_find (M:=model prog w) X I hf
 refine wpAny_bind (wpAny_pure (wpAny_bind (wpAny_pure (wpAny_bind (L0.at (wpAny_bind (L1.at ?_)))))))
 refine wpAny_pure ?_
 show wpAny _ _ (handedOut v) _ _ _
 rw [handedOut_of hh]; exact wpAny_pure h
end
end PySem.W
set_option maxRecDepth 100000
namespace PySem.W
open PySem PySem.Spec PySem.Calls PyProof.Rows
open Builtin Builtin.ObjectAttr
theorem refuse_VE (self:Value):∀ {l:List Value},onlyVE l=true->refuseLoop self "__setattr__" l=pure ()
 | .ref c :: r,e=>by rw [refuseLoop_ref]; exact refuse_VE self (l:=r) e
 | [],e=>by cases e
 | .type n :: r,e=>by rw [beq_iff_eq.mp (show (Value.type n :: r == _)=true from e)]; exact PySem.F.store_ValueError.passes self
 | .none :: r,e=>by cases beq_iff_eq.mp (show (Value.none :: r == _)=true from e)
 | .bool b :: r,e=>by cases beq_iff_eq.mp (show (Value.bool b :: r == _)=true from e)
 | .int i t :: r,e=>by cases beq_iff_eq.mp (show (Value.int i t :: r == _)=true from e)
 | .str i t :: r,e=>by cases beq_iff_eq.mp (show (Value.str i t :: r == _)=true from e)
 | .float i t :: r,e=>by cases beq_iff_eq.mp (show (Value.float i t :: r == _)=true from e)
 | .builtin i :: r,e=>by cases beq_iff_eq.mp (show (Value.builtin i :: r == _)=true from e)
section
variable {prog:Program} {w:World} {A:Around} {E:Value->Shared->Prop} {s:Shared} {K:Frag} {x C:Addr} {ox:Obj} {name:Str} {v:Value}
theorem xset_call {tk:Tok} {R:Result->Shared->Prop} (X:K.In s.heap) (I:InstAt s.heap x ox C none) (hd:ox.dict=none) (hp:xOver K C=true) (ho:mroIn K C (.type "object")=some true) (ht:takerIn K C name=some none)
   (h:∀ h' dx tk',s.heap.objs.size <= dx->h'.get? x=some { ox with dict:=some dx }->h'.Ns1 dx (fun y=>if y=name then some v else none)->(∀ b o,b ≠ x->s.heap.get? b=some o->h'.get? b=some o)->R (.ok (.ret .none)) { s with heap:=h',toks:=tk' }) :
   codeAny (model prog w) A (.call (.builtin "object.__setattr__") ⟨[.ref x,.str name tk,v],[]⟩) R s:=by
 have SF:=PySem.F.store_object
 obtain ⟨cd,hc,hb⟩:=any_some hp
 obtain ⟨hov,hdct⟩:=Bool.and_eq_true_iff.mp hb
 have sub:Looks (model prog w) s.heap (isInstance (.ref x) (.type "object")) true:=I.type.andThen (looks_mroIn X ho)
 refine codeAny_call_builtin SF.slot.plain SF.entry (@check_slot (model prog w) _ _ s "object.__setattr__" "object" "__setattr__" (.ref x) [.str name tk,v] [] _ SF.kind SF.split sub (SF.args (.ref x) (.str name tk) v) ?_)
 obtain ⟨attr,ha,hr⟩:=Option.bind_eq_some_iff.mp ht
 have hm:Looks (model prog w) s.heap (mroOf (.ref C)) cd.mro:=(looks_clsIn X hc).andThen .now
 have L3:Looks (model prog w) s.heap (storeTaker? attr) none:=by
   cases attr with
   | none=>cases hr; exact .now
   | some a =>
     obtain ⟨b,hb,e⟩:=Option.map_eq_some_iff.mp hr
     refine (looks_takesIn X hb).andThen ?_
     cases b
     . exact .now
     . cases e
 rw [osa_eq,refuse_eq]
 refine wpAny_bind (wpAny_bind (I.type.here (wpAny_bind (hm.here ?_))))
 rw [refuse_VE _ hov]
 refine wpAny_pure (wpAny_bind (I.type.here (wpAny_bind ((looks_findIn X ha).here (wpAny_bind (L3.here ?_))))))
 dsimp only
 obtain ⟨hx,hcl,hn,-⟩:=I
 obtain ⟨oc,odi,oda,osl⟩:=ox
 dsimp only at hcl hd
 subst hcl hd
 refine wpAny_bind (wpAny_pure (wpAny_bind (wpAny_bind (wpAny_loadPart hx (wpAny_bind ((looks_clsIn X hc).here ?_))))))
 rw [hdct]
 rw [if_neg (by decide)]
 dsimp only
 rw [if_neg (by simp [typeHasDict])]
 split
 . cases hn
 . rename_i hnc
   have hfin:=h
   clear h
   obtain ⟨h,g,d,t,os⟩:=s
   dsimp only at hx hfin
   have hx₁:(h.push { cls:=.type "dict",data:=.dict #[] }).get? x=some { cls:=.ref C,data:=oda,slots:=osl }:=Heap.get?_push_of_some _ hx
   have hxs:x ≠ h.objs.size:=Nat.ne_of_lt (Heap.lt_size hx)
   refine wpAny_bind (wpAny_alloc' ?_)
   refine wpAny_bind (wpAny_update' hx₁ ?_)
   refine wpAny_pure ?_
   have hgd:((h.push { cls:=.type "dict",data:=.dict #[] }).update x fun o=>{ cls:=o.cls,dict:=some h.objs.size,data:=o.data,slots:=o.slots }).get? h.objs.size
      =some { cls:=.type "dict",data:=.dict #[] } :=
     (Heap.get?_update_ne _ _ _ _ hxs.symm).trans (Heap.get?_push_at rfl rfl)
   have hnd:((h.push { cls:=.type "dict",data:=.dict #[] }).update x fun o=>{ cls:=o.cls,dict:=some h.objs.size,data:=o.data,slots:=o.slots }).Ns h.objs.size (fun _=>none) :=
     ⟨_,#[],_,hgd,rfl,fun e he=>absurd he (by simp),fun _=>rfl⟩
   show wpAny _ _ (storeInDict h.objs.size (.str name tk) name v) _ _ _
   unfold storeInDict newKeyGuard
   refine wpAny_bind (wpAny_pure (wpAny_bind (wpAny_nsSet1 (Heap.Ns1.of_empty hnd) fun h' hn' hs=>?_)))
   obtain ⟨oD,esD,epD,hoD,hdD,hcD⟩:=hn'.count (Within.cons name v Within.nil)
   refine wpAny_bind (wpAny_lookBehind hoD (by rw [hdD]; exact pastItsLine_dict (Nat.le_trans hcD (by rw [List.length_cons,List.length_nil,sizeLine_eq]; omega))) ?_)
   wp_walk
   have hx':h'.get? x=some { cls:=.ref C,dict:=some h.objs.size,data:=oda,slots:=osl }:=by
     refine (hs.2 x hxs).trans (Heap.get?_update_self _ hx₁ ?_)
     have hfr:=(Heap.get?_some_iff.mp hx).2
     cases oda <;> first | rfl | exact hfr
   exact hfin h' h.objs.size _ (Nat.le_refl _) hx' hn' fun b o hb e=>(hs.2 b (Nat.ne_of_lt (Heap.lt_size e))).trans ((Heap.get?_update_ne _ _ _ _ hb).trans (Heap.get?_push_of_some _ e))
theorem xset {Q:Unit->Shared->Prop} (X:K.In s.heap) (I:InstAt s.heap x ox C none) (hd:ox.dict=none) (hs:findIn K (.ref C) "__setattr__"=some (some (.builtin "object.__setattr__"))) (hp:xOver K C=true) (ho:mroIn K C (.type "object")=some true) (ht:takerIn K C name=some none)
   (h:∀ h' dx tk',s.heap.objs.size <= dx->h'.get? x=some { ox with dict:=some dx }->h'.Ns1 dx (fun y=>if y=name then some v else none)->(∀ b o,b ≠ x->s.heap.get? b=some o->h'.get? b=some o)->Q () { s with heap:=h',toks:=tk' }) :
   wpAny (model prog w) A (setAttr (.ref x) name v) Q E s :=
 set_plain X I hs (xset_call (s:={ s with toks:=s.toks + 1 }) X I hd hp ho ht fun h' dx tk' a b c d=>h h' dx tk' a b c d)
end
end PySem.W
namespace L2
open PySem PySem.Spec PyProof.Rows
section
variable {X:Cx} {pins:List (Addr × Obj)} {σ:St} {H:Hp} {s:Shared}
theorem goes_ok {M:Model} {A:Around} {E:Value->Shared->Prop} {i:Nat} {x:Str} {pos:Pos} {Q:Unit->Shared->Prop} (I:Inv X pins σ H s) (hN:X.N.Nodup) (hi:X.N[i]?=some x) (hx:X.env.scope.names.lookup x=some .local)
   (h:∀ s',Inv X pins (σ.set i none) H s'->Q () s'):wpAny M A (do bindName X.env x .none; unbindBehindTheSuite X.env x pos) Q E s:=by
 refine wpAny_bind (wpAny_bindName (store_ok (v:=.non) I hN hi (.inl hx) rfl (fun s1 I1=>?_) (.inr hx)))
 have hcls:(X.env.scope.kind == .class || (X.env.scope.kind == .module && X.env.locals != X.env.globals))=false:=by rw [I.ok.kind]; rfl
 have hk:X.env.kindOf x=some .local:=hx
 obtain ⟨m,hn,hl⟩:=id I1.loc
 have cne:=I1.cne
 unfold unbindBehindTheSuite
 refine wpAny_onRaise ?_
 unfold unbindName
 refine wpAny_bind (wpAny_point (wpAny_bind ?_))
 unfold deleteName
 simp only [hk,hcls]
 rw [if_neg (by decide)]
 refine wpAny_bind (wpAny_nsDel_keeps hn fun h' v hn' hs=>?_)
 have hsome:(m x).isSome=true:=by
   have hiσ:i < σ.length:=by rw [I.len]; exact (List.getElem?_eq_some_iff.mp hi).1
   obtain ⟨u,_,q⟩:=hl i x .non hi (by rw [List.getElem?_set_self hiσ]) (.inl hx)
   rcases q with ⟨_,e⟩ | ⟨k,_⟩
   . rw [e]; rfl
   . rw [hk] at k; rcases k with k | k <;> cases k
 rw [hsome]
 simp only [if_true,Option.isSome_some,Bool.not_true,Bool.false_eq_true,if_false]
 refine wpAny_pure (wpAny_point (h _ ?_))
 obtain ⟨oL,_,_,hoL,_⟩:=id hn
 refine ⟨I.ok,I1.os,I1.bare,⟨fun b o e n hb hx=>?_,fun b o e n hb hx=>?_,I1.base.free,fun b o e hx=>?_,I1.base.tups,I1.base.frzs,I1.base.tbls⟩,⟨_,hn',fun j y v' e1 e2 e3=>?_⟩,fun y c e=>?_,I1.free,I1.freeC,fun p hp=>?_,fun b ob e=>?_,by simpa using I.len⟩
 . exact (hs.2 b (Nat.ne_of_lt (Nat.lt_of_lt_of_le (Heap.lt_size e) I.ok.above))).trans (I1.base.keep b o e n hb hx)
 . obtain ⟨sl,e1⟩:=I1.base.slot b o e n hb hx
   exact ⟨sl,(hs.2 b (Nat.ne_of_lt (Nat.lt_of_lt_of_le (Heap.lt_size e) I.ok.above))).trans e1⟩
 . obtain ⟨o',e1⟩:=I1.base.there b o e hx
   exact ⟨o',(hs.2 b (Nat.ne_of_lt (Nat.lt_of_lt_of_le (Heap.lt_size e) I.ok.above))).trans e1⟩
 . have hiσ:i < σ.length:=by rw [I.len]; exact (List.getElem?_eq_some_iff.mp hi).1
   by_cases hj:j=i
   . subst hj
     rw [List.getElem?_set_self hiσ] at e2
     cases e2
   . rw [List.getElem?_set_ne (Ne.symm hj)] at e2
     obtain ⟨u',r',q⟩:=hl j y v' e1 (by rw [List.getElem?_set_ne (Ne.symm hj)]; exact e2) e3
     refine ⟨u',r',?_⟩
     rcases q with ⟨k,e⟩ | ⟨k,c,e,z⟩
     . refine .inl ⟨k,?_⟩
       have:y ≠ x:=fun e=>hj (nodup_ix hN e1 (e ▸ hi))
       simp [this,e]
     . exact .inr ⟨k,c,e,z.sameBut hs (cne y c e)⟩
 . obtain ⟨w',z⟩:=I1.cell y c e
   exact ⟨w',z.sameBut hs (cne y c e)⟩
 . obtain ⟨e,n,ne,nf,d⟩:=I1.pin p hp
   exact ⟨(hs.2 p.1 ne).trans e,n,ne,nf,d⟩
 . refine (I1.hok b ob e).stay (fun c w' hc q=>(hs.2 c ?_).trans q) (fun _ q=>q) fun _ _ q=>q
   rintro rfl
   rcases hc with rfl | hc
   . rw [I1.free] at e; cases e
   . rw [I1.free] at hc; cases hc
theorem Inv.add {a:Addr} {o:HO} {lo:Nat} (I:Inv X pins σ H s) (lw:Low X pins lo) (hl:lo <= a) (h0:H a=none) (new:ObjOk X.prog X.w (upd H a o) s.heap a o):Inv X pins σ (upd H a o) s:=by
 have ne:∀ b u,H b=some u->b ≠ a:=fun b u e z=>by rw [z,h0] at e; cases e
 have up:∀ b u,H b=some u->upd H a o b=some u:=fun b u e=>by unfold upd; rw [if_neg (ne b u e)]; exact e
 have no:∀ b,b < lo->H b=none->upd H a o b=none:=fun b hb e=>by unfold upd; rw [if_neg (fun z=>absurd (Nat.lt_of_lt_of_le hb hl) (by rw [z]; exact Nat.lt_irrefl _))]; exact e
 refine ⟨I.ok,I.os,I.bare,⟨I.base.keep,I.base.slot,fun b u e n hx=>?_,I.base.there,fun b xs e=>?_,fun b u v e=>?_,fun b ps e=>?_⟩,I.loc,I.cell,no _ lw.loc I.free,fun x c e=>no _ (lw.cell x c e) (I.freeC x c e),fun p hp=>?_,fun b ob e=>?_,I.len⟩
 . exact no b (Nat.lt_of_lt_of_le (Heap.lt_size e) lw.s0) (I.base.free b u e n hx)
 . exact up _ _ (I.base.tups b xs e)
 . exact up _ _ (I.base.frzs b u v e)
 . obtain ⟨m,q⟩:=I.base.tbls b ps e
   exact ⟨m,up _ _ q⟩
 . obtain ⟨e,n,r⟩:=I.pin p hp
   exact ⟨e,no _ (lw.pin p hp) n,r⟩
 . by_cases hb:b=a
   . subst hb
     have:ob=o:=by unfold upd at e; rw [if_pos rfl] at e; exact (Option.some.inj e).symm
     subst this
     exact new
   . have e':H b=some ob:=by unfold upd at e; rw [if_neg hb] at e; exact e
     exact (I.hok b ob e').stay (fun c w' hc q=>q) (fun c q=>up _ _ q) fun c xs q=>up _ _ q
end
end L2
namespace T2
open PySem PySem.Spec PyProof.Rows L2
structure XC (K:Fg) (C:Addr):Prop where
 kp:PySem.W.keepIn K (.ref C)=true
 get:PySem.W.XGet K C
 cl:(PySem.W.clsIn K C).isSome=true
 ca:PySem.W.findIn K (.ref C) "__class__"=some (some (.builtin "object.__class__"))
 cn:PySem.W.specialIn K (.builtin "object.__class__") "__get__"=some (some (.builtin "getset_descriptor.__get__"))
 ct:PySem.W.takesIn K (.builtin "object.__class__")=some true
 ob:PySem.W.mroIn K C (.type "object")=some true
 sa:PySem.W.findIn K (.ref C) "__setattr__"=some (some (.builtin "object.__setattr__"))
 ov:PySem.W.xOver K C=true
theorem XC.of {K:Fg} {C:Addr} (h:xcIn K C=true):XC K C:=by
 simp only [xcIn,Bool.and_eq_true,beq_iff_eq] at h
 obtain ⟨⟨⟨⟨⟨⟨⟨⟨⟨⟨a,b⟩,c⟩,d⟩,e⟩,f⟩,g⟩,i⟩,j⟩,k⟩,l⟩:=h
 exact ⟨a,⟨b,c,d⟩,e,f,g,i,j,k,l⟩
theorem XC.dct {K:Fg} {C:Addr} (x:XC K C):PySem.W.hasDictIn K C=true:=by
 obtain ⟨cd,hc,hb⟩:=PySem.W.any_some x.ov
 unfold PySem.W.hasDictIn
 rw [hc]
 exact (Bool.and_eq_true_iff.mp hb).2
section
variable {P:Program} {w:World} {H:Hp} {h:Heap} {C e t0:Addr} {dx:Option Addr}
theorem xH_ok (q:h.get? e=some (xObj C t0 dx)):ObjOk P w H h e (xH C e dx):=⟨⟨t0,q⟩,⟨_,q⟩,fun _ _ zz105 k=>by obtain ⟨t,z⟩:=zz105; exact ⟨t,k _ z⟩⟩
theorem xH_get (ok:HOk P w H h) (q:H e=some (xH C e dx)):∃ t0,h.get? e=some (xObj C t0 dx):=(show ObjOk P w H h e (xH C e dx) from ok e _ q).1
end
section
variable {X:Cx} {pins:List (Addr × Obj)} {σ:L2.St} {H:Hp} {s:Shared} {C e:Addr} {us:List Value} {vs:List V} {Q:VK} {A:Around} {E:Value->Shared->Prop}
noncomputable def del (H:Hp) (a:Addr):Hp:=fun b=>if b=a then none else H b
theorem del_same {a:Addr}:del H a a=none:=by unfold del; rw [if_pos rfl]
theorem del_ne {a b:Addr} (h:b ≠ a):del H a b=H b:=by unfold del; rw [if_neg h]
theorem del_none {a b:Addr} (h:H b=none):del H a b=none:=by
 by_cases q:b=a
 . rw [q]; exact del_same
 . rw [del_ne q]; exact h
theorem Inv_drop {a:Addr} {φ:Heap->Prop} (I:Inv X pins σ H s) (ea:H a=some (.ext φ)):Inv X pins σ (del H a) s:=by
 have up:∀ b u,H b=some u->(∀ ψ,u ≠ .ext ψ)->del H a b=some u:=fun b u e n=>by
   rw [del_ne fun z=>by rw [z,ea] at e; cases e; exact n _ rfl]; exact e
 refine ⟨I.ok,I.os,I.bare,⟨I.base.keep,I.base.slot,fun b u e n hx=>del_none (I.base.free b u e n hx),I.base.there,fun b xs e=>up b _ (I.base.tups b xs e) (fun _ z=>by cases z),fun b u v e=>up b _ (I.base.frzs b u v e) (fun _ z=>by cases z),fun b ps e=>?_⟩,I.loc,I.cell,del_none I.free,fun x c e=>del_none (I.freeC x c e),fun p hp=>?_,fun b ob e=>?_,I.len⟩
 . obtain ⟨m,q⟩:=I.base.tbls b ps e
   exact ⟨m,up b _ q fun _ z=>by cases z⟩
 . obtain ⟨e,n,r⟩:=I.pin p hp
   exact ⟨e,del_none n,r⟩
 . have hb:b ≠ a:=fun z=>by rw [z,del_same] at e; cases e
   rw [del_ne hb] at e
   exact (I.hok b ob e).stay (fun c w' hc q=>q) (fun c q=>up c _ q fun _ z=>by cases z) fun c xs q=>up c _ q fun _ z=>by cases z
theorem run_excR {CX:CXT} {k:Nat} {f:Addr} {fd:FuncData} {ps:List Str} {sp:Sp} {ds:List Value} {dvs:List V} {EX:XK} (hx:excAt X.K C (some (.ref f))=true) (hfn:PySem.W.isFn X.K (.ref f)=true) (F:FnOk X.prog X.w X.K X.mg X.base CX k f fd ps sp) (hr:Room (k + 1) X.A) (hb:Binds X.K fd ps ds) (hd:Vals dvs ds)
   (hp:Passes CX X EX) (I:Inv X pins σ H s) (r:Vals vs us) (hl:us.length <= sizeLine)
   (W:Addr->Hp->Prop) (h:∀ e,H e=none->sp (.ref e :: (vs ++ dvs)) (upd H e (xH C e none)) (fun v H2=>v=.non /\ W e H2) EX) :
   wpAny (model X.prog X.w) X.A (call (.ref C) us) (fun v s'=>∃ e H',v=.ref e /\ s.heap.objs.size <= e /\ Inv X pins σ H' s' /\ W e H') X.xe s:=by
 obtain ⟨bm,N,nm,q,bs,hdc,sn,sub,ab,col,dd,k0,k1,k2,k3,k5,mN,hC,hN,hi,T⟩:=excAt_get I.kIn hx
 obtain ⟨oI,hfI,hfc⟩:∃ oI,s.heap.get? f=some oI /\ oI.cls=.type "function":=by
   have e:=beq_iff_eq.mp hfn
   obtain ⟨o,eo,ec⟩:=Option.map_eq_some_iff.mp (show (X.K.lookup f).map (·.cls)=some (.type "function") from e)
   exact ⟨o,I.kIn _ _ eo,ec⟩
 obtain ⟨hp',g,d,t,os⟩:=s
 refine call_initT PySem.F.excBase_ValueError T hC hN hi hfI hfc (fun h' e m hz=>?_) hl
 obtain ⟨t0,h1,_,_⟩:=m.there
 have I2:Inv X pins σ (upd H e (xH C e none)) ⟨h',g,d,t,os⟩:=I.laid (t':=t) m.keeps hz (xH_ok h1)
 have hq:=h e (I.hok.fresh hz)
 have r2:Vals (V.ref e :: (vs ++ dvs)) (Value.ref e :: (us ++ ds)):=.cons rfl (r.append hd)
 have hl2:(Value.ref e :: us ++ ds).length=ps.length:=by
   have z:=r2.length
   rw [F.len _ _ _ _ hq] at z
   exact z.symm
 refine wpAny_call (codeAny_mono (F.run _ X.stack _ _ ⟨Value.ref e :: us,[]⟩ (Value.ref e :: (us ++ ds)) _ _ EX (hr.make C us []) (I2.env0.make C us []) (hb _ (Value.ref e :: us) I2.kIn hl2) r2 hq) fun r s' hq'=>?_)
 cases r with
 | error z=>exact hp pins σ _ _ z s' I2 hq'
 | ok fl =>
   cases fl with
   | ret u =>
     obtain ⟨v,H',I3,rv,ev,q3⟩:=I2.after hq'
     subst ev
     exact ⟨rv,e,H',rfl,hz,I3,q3⟩
   | next=>exact False.elim hq'
   | brk=>exact False.elim hq'
   | cont=>exact False.elim hq'
theorem Inv_two {a dx:Addr} {φ:Heap->Prop} {oa od:HO} {h':Heap} {t':Nat} (I:Inv X pins σ H s) (ea:H a=some (.ext φ)) (hz:s.heap.objs.size <= dx) (k:∀ b o,b ≠ a->s.heap.get? b=some o->h'.get? b=some o) (ha:∃ o,h'.get? a=some o)
   (na:ObjOk X.prog X.w (upd (upd H dx od) a oa) h' a oa) (nd:ObjOk X.prog X.w (upd (upd H dx od) a oa) h' dx od):Inv X pins σ (upd (upd H dx od) a oa) { s with heap:=h',toks:=t' }:=by
 have hd:H dx=none:=I.hok.fresh hz
 have lt:∀ b o,s.heap.get? b=some o->b ≠ dx:=fun b o e z=>by
   subst z
   exact absurd (Heap.lt_size e) (Nat.not_lt.mpr hz)
 have ot:∀ b u,H b=some u->(∀ ψ,u ≠ .ext ψ)->(upd (upd H dx od) a oa) b=some u:=fun b u e n=>by
   rw [upd_ne (ne_of e ea (n _)),upd_ne (ne_of_none e hd)]; exact e
 refine I.un ⟨fun b o e n _ _=>k b o (fun z=>by rw [z,ea] at n; cases n) e,fun b o e n _ _=>⟨o.slots,k b o (fun z=>by rw [z,ea] at n; cases n) e⟩,
   fun b o e n _=>by rw [upd_ne (fun z=>by rw [z,ea] at n; cases n),upd_ne (lt b o e)]; exact n,
   fun b o e _=>by
     by_cases z:b=a
     . rw [z]; exact ha
     . exact ⟨o,k b o z e⟩,
   fun b xs e=>ot b _ e (fun _ z=>by cases z),fun b o u e=>ot b _ e (fun _ z=>by cases z),fun b ps e=>⟨#[],by rw [Array.append_empty]; exact ot b _ e (fun _ z=>by cases z)⟩⟩ fun b u e=>?_
 by_cases hb:b=a
 . subst hb; rw [upd_same] at e; cases e; exact na
 . rw [upd_ne hb] at e
   by_cases hb2:b=dx
   . subst hb2; rw [upd_same] at e; cases e; exact nd
   . rw [upd_ne hb2] at e
     refine (I.hok b u e).stay (fun c v hc r=>k c v ?_ r) (fun c r=>ot c _ r (fun _ z=>by cases z)) fun c xs r=>ot c _ r (fun _ z=>by cases z)
     rcases hc with rfl | hc
     . exact hb
     . rintro rfl; rw [ea] at hc; cases hc
end
section
variable {M:Model} {A:Around} {E:Value->Shared->Prop} {env:Env}
variable {nm q:Str} {C N:Addr} {bs bm:List Value} {hdct:Bool} {sn:List Str} {sub:List Value} {ab:Bool} {col:Option Bool} {dd:Option Addr} {k0 k1 k2 k3 k5:Option Value} {newId:String}
theorem raise_made {s:Shared} {x:Sem Value} {Q:Flow->Shared->Prop} (hbase:bm.contains (.type "BaseException")=true) (hh:A.handled=none)
   (h:wpAny M A x (fun v s₁=>∃ e t dx,v=.ref e /\ s₁.heap.get? C=some (excClassObj nm q C N bs bm hdct sn sub ab col dd k0 k1 k2 k3 k5 newId) /\
     s₁.heap.get? e=some (xObj C t dx) /\ E (.ref e) s₁) E s) :
   wpAny M A (raiseStmt env (some x) none) Q E s:=by
 have hcB:(Value.ref C :: bm).contains (.type "BaseException")=true:=by rw [List.contains_cons,hbase,Bool.or_true]
 unfold raiseStmt
 refine wpAny_bind (wpAny_mono h (fun v s₁ h₁=>?_) fun _ _ x=>x)
 obtain ⟨e,t,dx,rfl,hC,he,hE⟩:=h₁
 unfold xObj at he
 obtain ⟨hp,g,d,tk,os⟩:=s₁
 repeat (first | with_reducible refine wpAny_loadPart_at he ?_ | with_reducible refine wpAny_loadPart_at hC ?_ | (with_reducible refine wpAny_isSubtype_exc hC ?_; rw [hcB]) | wp_step)
 exact wpAny_raiseNew_none hh hE
end
section
variable {K:Fg} {X:Cx} {C:Addr} {x:Str} {p pos pos2 apos pos':Pos} {e o value:Expr} {es:List Expr} {t:TA} {wr:WA} {ta tv:TE} {wa wv:WE} {f:Str}
noncomputable def rRaiseI (C:Addr) (sp:Sp) (t:TA):TR:=fun σ H R=>t σ H fun vs H1=>vs.length <= 2 /\ ∀ e,H1 e=none->sp (.ref e :: (vs ++ [])) (upd H1 e (xH C e none)) (fun v H2=>v=.non /\ ∃ dx,H2 e=some (xH C e dx) /\ R C dx σ (del H2 e)) E0
theorem pr_raiseI {k:Nat} {fi:Addr} {fd:FuncData} {ps:List Str} {sp:Sp} (hx:excAt X.K C (some (.ref fi))=true) (hk:PySem.W.keepIn X.K (.ref C)=true) (hfn:PySem.W.isFn X.K (.ref fi)=true) (F:FnOk X.prog X.w X.K X.mg X.base CX0 k fi fd ps sp) (hr:Room (k + 1) X.A) (hb:Binds X.K fd ps [])
   (hc:X.calm=true) (hg:Gl X x) (hm:X.mg x=some (.ref C)) (ha:PA X.nox (e :: es) t) (hdb:(x == ("__debug__":Str))=false:=by decide)
   (he:starEach (e :: es) X.env=(false,eval e X.env) :: starEach es X.env:=by rfl) (hpl:(backTo pos (starEach es X.env)).any (·.1)=false:=by rfl):PR X (.Raise (some (.Call (.Name x p) (e :: es) [] pos)) none pos2) (rRaiseI C sp t):=by
 intro pins s σ H R I h
 obtain ⟨bm,N,nm,q,bs,hd,sn,sub,ab,col,dd,k0,k1,k2,k3,k5,mN,hC,hN,hi,T⟩:=excAt_get I.kIn hx
 have hbase:bm.contains (.type "BaseException")=true:=T.hasType (by decide)
 rw [arm_exec_Raise]
 have go:wpAny (model X.prog X.w) X.A (eval (.Call (.Name x p) (e :: es) [] pos) X.env) (fun v s1=>∃ en t0 dx,v=.ref en /\ s1.heap.get? C=some (excClassObj nm q C N bs bm hd sn sub ab col dd k0 k1 k2 k3 k5 "ValueError.__new__") /\
     s1.heap.get? en=some (xObj C t0 dx) /\ XP X pins R (.ref en) s1) (XP X pins R) s:=by
   refine wpAny_Call_Name_kw (ld_glob I hg hm ?_ hdb)
   refine PySem.W.callWith_K (h₀:=X.base) I.ok.mod.kin hk (calmly (ha pos pins s σ H _ (I.wish _) h) fun us s1 ⟨vs,H1,I1,r,hl,q1⟩=>⟨I1.unwish.kIn,?_⟩) he hpl
   refine calmly (run_excR (X:=X.nox) (dvs:=[]) (ds:=[]) hx hfn F hr hb .nil pass0 I1 r (by have:=r.length; rw [sizeLine_eq]; omega) (fun e H2=>∃ dx,H2 e=some (xH C e dx) /\ R C dx σ (del H2 e)) q1) fun v s2 ⟨en,H2,ev,hz,I2,dx,ee,q2⟩=>?_
   subst ev
   have J:=I2.unwish
   obtain ⟨t0,g0⟩:=xH_get J.hok ee
   have same:s2.heap.get? C=some (excClassObj nm q C N bs bm hd sn sub ab col dd k0 k1 k2 k3 k5 "ValueError.__new__"):=by
     have z:=excAt_obj I.kIn J.kIn hx
     rw [<- z]; exact hC
   refine ⟨en,t0,dx,rfl,same,g0,en,C,dx,σ,del H2 en,s1.heap.objs.size,rfl,Inv_drop J ee,I1.unwish.low,⟨_,_,.none,g0,rfl,rfl,rfl,⟨rfl,rfl⟩,hz,del_same,.inl rfl⟩,q2⟩
 exact wpAny_bind (wpAny_standAt (raise_made (C:=C) (nm:=nm) (q:=q) (N:=N) (bs:=bs) (bm:=bm) (hdct:=hd) (sn:=sn) (sub:=sub) (ab:=ab) (col:=col) (dd:=dd) (k0:=k0) (k1:=k1) (k2:=k2) (k3:=k3) (k5:=k5) (newId:="ValueError.__new__") hbase (I.ok.hd hc)
   (wpAny_bind (wpAny_mono go (fun v s3 h3=>wpAny_bind (wpAny_standAt (wpAny_pure h3))) fun _ _ z=>z))))
noncomputable def cutS (S:Sto) (a:Addr):Sto:=fun b=>if b=a then none else S b
theorem cutS_ne {S:Sto} {a b:Addr} (h:b ≠ a):cutS S a b=S b:=by unfold cutS; rw [if_neg h]
theorem cutS_same {S:Sto} {a:Addr}:cutS S a a=none:=by unfold cutS; rw [if_pos rfl]
noncomputable def wrRaiseI (C:Addr) (wsp:WSp) (wr:WA):WR:=fun σ S R=>wr σ S fun ts S1=>ts.length <= 2 /\ ∀ e,S1 e=none->wsp (.ref e :: ts) (put S1 e (.exc C [])) (fun t S2=>t=.non /\ ∃ r,S2 e=some (.exc C [("row",.int r)]) /\ R (C,some r) σ (cutS S2 e))
theorem Qr_raiseI {k:Nat} {fi:Addr} {fd:FuncData} {ps:List Str} {wsp:WSp} (hx:excAt X.K C (some (.ref fi))=true) (hk:PySem.W.keepIn X.K (.ref C)=true) (hfn:PySem.W.isFn X.K (.ref fi)=true) (F:FnOk X.prog X.w X.K X.mg X.base CX0 k fi fd ps (lSp K wsp)) (hr:Room (k + 1) X.A) (hb:Binds X.K fd ps [])
   (hc:X.calm=true) (hg:Gl X x) (hm:X.mg x=some (.ref C)) (ha:QA K X.nox (e :: es) wr) (hdb:(x == ("__debug__":Str))=false:=by decide)
   (he:starEach (e :: es) X.env=(false,eval e X.env) :: starEach es X.env:=by rfl) (hpl:(backTo pos (starEach es X.env)).any (·.1)=false:=by rfl):QR K X (.Raise (some (.Call (.Name x p) (e :: es) [] pos)) none pos2) (wrRaiseI C wsp wr) :=
 PR.of (pr_raiseI hx hk hfn F hr hb hc hg hm ha hdb he hpl) fun σ H R zz106=>by
   obtain ⟨S,σt,Rt,s,c,q,hq⟩:=zz106
   refine ⟨S,σt,_,s,c,q,fun vs H1 ts S1 f1 s1 r1 ⟨hl,q1⟩=>⟨by rw [r1.length]; exact hl,fun e he=>?_⟩⟩
   refine ⟨_,_,_,s1.newT he (.exc0 upd_same),.cons .ref (by rw [List.append_nil]; exact r1.fr (Fr.newT he)),q1 e (s1.fresh he),fun v H' t S' f s' r' q'=>?_⟩
   obtain ⟨rfl,r,ee,q'⟩:=q'
   cases r'
   have ff:=(f1.trans (Fr.newT he)).trans f
   cases s' e _ ee with
   | @exc _ dx fs _ ne eh n ed pr =>
     have fc:Fr H' S' (del H' e) (cutS S' e):=fun b u eb nb=>by
       have hb:b ≠ e:=fun z=>by rw [z,ee] at nb; cases nb
       exact ⟨by rw [del_ne hb]; exact eb,by rw [cutS_ne hb]; exact nb⟩
     have sc:SRp K (del H' e) (cutS S' e):=fun b u eb=>by
       have hb:b ≠ e:=fun z=>by rw [z,cutS_same] at eb; cases eb
       rw [cutS_ne hb] at eb
       exact (s' b u eb).fr fc (del_ne hb)
     have efs:fs=[(("row":Str),V.int r)]:=by
       cases pr with
       | cons z zs =>
         cases zs
         rename_i q
         obtain ⟨q1,q2⟩:=q
         obtain ⟨z1,z2⟩:=z
         dsimp only at z1 z2
         subst z1
         rw [z2.iint]
     subst efs
     exact ⟨rfl,some dx,eh,hq (C,some r) σ _ σt _ (ff.trans fc) sc (c.fr (ff.trans fc)) q' _ (.inr ⟨r,dx,rfl,rfl,(fc _ _ ed n).2,(fc _ _ ed n).1⟩)⟩
theorem j_raiseI {wsp:WSp} {σ:StT} {S:Sto} {R:WX} (h:wr σ S fun ts S1=>ts.length <= 2 /\ ∀ e,S1 e=none->wsp (.ref e :: ts) (put S1 e (.exc C [])) (fun t S2=>t=.non /\ ∃ r,S2 e=some (.exc C [("row",.int r)]) /\ R (C,some r) σ (cutS S2 e))):wrRaiseI C wsp wr σ S R:=h
noncomputable def tXInit (K:Fg) (t:TA):TE:=fun σ H Q=>t σ H fun vs H1=>∃ e C v r,vs=[.ref e,v] /\ H1 e=some (xH C e none) /\ excAt K C r=true /\ Q .non (upd H1 e (xH C e none))
theorem pe_xinit {B:Addr} {pl:Sem Bool} (hg:Gl X x) (hm:X.mg x=some (.ref B)) (hsp:PySem.W.specialIn X.K (.ref B) "__getattribute__"=some (some (.builtin "type.__getattribute__"))) (hrd:PySem.W.readsIn X.K B (.type "type")=true)
   (hfc:PySem.W.findCls X.K (.ref B) (.type "type") "__init__"=some (.val (.builtin "ValueError.__init__"))) (ha:PA X (e :: es) t) (hdb:(x == ("__debug__":Str))=false:=by decide)
   (hst:starEach (e :: es) X.env=(false,eval e X.env) :: starEach es X.env:=by rfl) (hpl:(backTo pos (starEach es X.env)).any (·.1)=false:=by rfl)
   (ht:eval (.Call (.Attribute (.Name x p) "__init__" apos) (e :: es) [] pos) X.env=(do
     let ov <- eval (.Name x p) X.env
     standAt apos.atName
     let (f,first) <- holding [ov] (getMethod ov "__init__" pl)
     callWith pos f first (backTo pos (starEach (e :: es) X.env)) (backToKw pos (keywordEach [] X.env))):=by rfl) :
   PE X (.Call (.Attribute (.Name x p) "__init__" apos) (e :: es) [] pos) (tXInit X.K t):=by
 intro pins s σ H Q I h
 refine PySem.W.methodCall_KW (pl:=pl) (ld_glob I hg hm ?_ hdb) ht
 refine PySem.W.method_cls I.kIn hsp (PySem.W.cls_value I.kIn hrd hfc rfl ?_)
 have I0:=I.tok (s.toks + 1)
 refine PyProof.Rows.callWith_builtin1 (thn (ha pos pins _ σ H _ I0 h) fun us s1 ⟨vs,H1,I1,r1,en,C,v,r,ev,eh,hx,q1⟩=>?_) hst hpl
 subst ev
 obtain ⟨u1,u2,rfl,rr1,rr2⟩:=vals2 r1
 obtain rfl:u1=Value.ref en:=rr1
 obtain ⟨bm,N,nm,q,bs,hd,sn,sub,ab,col,dd,k0,k1,k2,k3,k5,mN,hC,hN,hi,T⟩:=excAt_get I1.kIn hx
 obtain ⟨t0,g0⟩:=xH_get I1.hok eh
 obtain ⟨hp,g,d,tt,os⟩:=s1
 refine call_base_init (rest:=[u2]) PySem.F.excBase_ValueError T hC g0 (fun h' t1 kp ge _=>?_) (by rw [sizeLine_eq,List.length_cons,List.length_nil]; omega)
 exact ⟨.non,_,I1.write (x:=en) (e:=en) (t':=tt) (by rw [eh]; exact True.intro) (.inl rfl) (fun b u hb z=>kp b u hb z) ⟨_,ge⟩ (xH_ok ge),rfl,q1⟩
noncomputable def wXInit (K:Fg) (wr:WA):WE:=fun σ S Q=>wr σ S fun ts S1=>∃ e C t r,ts=[.ref e,t] /\ S1 e=some (.exc C []) /\ excAt K C r=true /\ Q .non S1
theorem put_back' {S:Sto} {a:Addr} {o:O} (h:S a=some o):put S a o=S:=by
 funext b; unfold put
 by_cases q:b=a
 . rw [if_pos q,q,h]
 . rw [if_neg q]
theorem Q_xinit {B:Addr} {pl:Sem Bool} (hK:X.K=K) (hg:Gl X x) (hm:X.mg x=some (.ref B)) (hsp:PySem.W.specialIn X.K (.ref B) "__getattribute__"=some (some (.builtin "type.__getattribute__"))) (hrd:PySem.W.readsIn X.K B (.type "type")=true)
   (hfc:PySem.W.findCls X.K (.ref B) (.type "type") "__init__"=some (.val (.builtin "ValueError.__init__"))) (ha:QA K X (e :: es) wr) (hdb:(x == ("__debug__":Str))=false:=by decide)
   (hst:starEach (e :: es) X.env=(false,eval e X.env) :: starEach es X.env:=by rfl) (hpl:(backTo pos (starEach es X.env)).any (·.1)=false:=by rfl)
   (ht:eval (.Call (.Attribute (.Name x p) "__init__" apos) (e :: es) [] pos) X.env=(do
     let ov <- eval (.Name x p) X.env
     standAt apos.atName
     let (f,first) <- holding [ov] (getMethod ov "__init__" pl)
     callWith pos f first (backTo pos (starEach (e :: es) X.env)) (backToKw pos (keywordEach [] X.env))):=by rfl) :
   QE K X (.Call (.Attribute (.Name x p) "__init__" apos) (e :: es) [] pos) (wXInit K wr):=by
 subst hK
 refine PE.of (pe_xinit (pl:=pl) hg hm hsp hrd hfc ha hdb hst hpl ht) fun σ H Q zz107=>?_
 obtain ⟨S,σt,Qt,s,c,q,hq⟩:=zz107
 refine ⟨S,σt,_,s,c,q,fun vs H1 ts S1 f1 s1 r1 q1=>?_⟩
 obtain ⟨en,C,t,r,rfl,es1,hx,q1⟩:=q1
 cases r1 with
 | cons a l =>
   cases a
   cases l with
   | cons a2 l2 =>
     cases l2
     cases s1 en _ es1 with
     | exc ne=>exact absurd rfl ne
     | exc0 eh =>
       have hn:S1 en ≠ none:=by rw [es1]; simp
       have z:=hq .non (upd H1 en (xH C en none)) .non (put S1 en (.exc C [])) (f1.trans (Fr.write hn)) (s1.write hn (.exc0 upd_same)) .non (by rw [put_back' es1]; exact q1)
       exact ⟨en,C,_,r,rfl,eh,hx,z⟩
noncomputable def sXFld (K:Fg) (ta tv:TE) (f:Str):TS:=fun D σ H=>tv σ H fun y H1=>ta σ H1 fun x H2=>∃ a C,x=.ref a /\ H2 a=some (xH C a none) /\ XC K C /\ NoAttr K C f /\ ∀ dx,H2 dx=none->dx ≠ a->D.nx σ (upd (upd H2 dx (.xd [(f,y)])) a (xH C a (some dx)))
theorem ps_xfld (ha:PE X o ta) (hv:PE X value tv) (hs:swapsWith value (some (.Attribute o f pos')) pos.line X.env=pure false:=by rfl):PS X (.Assign [.Attribute o f pos'] value pos) (sXFld X.K ta tv f):=by
 intro pins s σ H D I h
 refine plainObj_wpAny_Assign_Attribute (thn (hv pins s σ H _ I h) fun u s1 ⟨y,H1,I1,ry,q⟩=>thn (ha pins s1 σ H1 _ I1 q) fun ov s2 ⟨x,H2,I2,rx,a,C,ex,ea,c,n,q2⟩=>?_) hs
 subst ex
 obtain rfl:ov=Value.ref a:=rx
 obtain ⟨t0,g0⟩:=xH_get I2.hok ea
 have J:PySem.W.InstAt s2.heap a (xObj C t0 none) C none:=⟨g0,rfl,rfl,True.intro⟩
 refine PySem.W.xset I2.kIn J rfl c.sa c.ov c.ob n.taker fun h' dx tk' hz gx hns kp=>?_
 have hd:H2 dx=none:=I2.hok.fresh hz
 have ne:dx ≠ a:=fun z=>by rw [z,ea] at hd; cases hd
 refine ⟨σ,_,Inv_two (t':=tk') (od:=.xd [(f,y)]) I2 ea hz kp ⟨_,gx⟩ (xH_ok (t0:=t0) gx) ⟨_,hns,fun g=>?_⟩,q2 dx hd ne⟩
 show RelO ([(f,y)].lookup g) (if g=f then some u else none)
 by_cases z:g=f
 . rw [if_pos z,z,List.lookup_cons,beq_self_eq_true]; exact ry
 . rw [if_neg z,List.lookup_cons,show (g == f)=false from beq_eq_false_iff_ne.mpr z]; exact True.intro
noncomputable def wXSet (G:Addr->Prop) (wa wv:WE) (f:Str):WS:=fun D σ S=>wv σ S fun y S1=>wa σ S1 fun x S2=>∃ a C,x=.ref a /\ S2 a=some (.exc C []) /\ G C /\ D.nx σ (put S2 a (.exc C [(f,y)]))
theorem q_xset {G:Addr->Prop} (hK:X.K=K) (hG:∀ C,G C->XC K C /\ NoAttr K C f) (ha:QE K X o wa) (hv:QE K X value wv) (hs:swapsWith value (some (.Attribute o f pos')) pos.line X.env=pure false:=by rfl) :
   QS K X (.Assign [.Attribute o f pos'] value pos) (wXSet G wa wv f):=by
 subst hK
 refine PS.of (ps_xfld ha hv hs) fun D σ H zz108=>?_
 obtain ⟨S,σt,Dt,s,c,q,he⟩:=zz108
 refine ⟨S,σt,_,s,c,q,fun y H1 ty S1 f1 s1 r1 q1=>?_⟩
 refine ⟨S1,σt,_,s1,c.fr f1,q1,fun x H2 tx S2 f2 s2 r2 q2=>?_⟩
 obtain ⟨a,C,rfl,ea,g,q2⟩:=q2
 cases r2
 cases s2 a _ ea with
 | exc ne=>exact absurd rfl ne
 | exc0 eh =>
   refine ⟨a,C,rfl,eh,(hG C g).1,(hG C g).2,fun dx hd ne=>?_⟩
   have sd:S2 dx=none:=s2.fresh hd
   have fw:Fr H2 S2 (upd (upd H2 dx (.xd [(f,y)])) a (xH C a (some dx))) (put S2 a (.exc C [(f,ty)])):=fun b u e n=>by
     have hb:b ≠ a:=fun z=>by rw [z,ea] at n; cases n
     exact ⟨by rw [upd_ne hb,upd_ne (ne_of_none e hd)]; exact e,by rw [put_ne hb]; exact n⟩
   have sw:SRp X.K (upd (upd H2 dx (.xd [(f,y)])) a (xH C a (some dx))) (put S2 a (.exc C [(f,ty)])):=fun b u e=>by
     by_cases hb:b=a
     . subst hb
       rw [put_same] at e; cases e
       exact .exc (by simp) upd_same (by rw [put_ne ne]; exact sd) (by rw [upd_ne ne]; exact upd_same) (.cons ⟨rfl,(r1.fr f2).fr fw⟩ .nil)
     . rw [put_ne hb] at e
       obtain ⟨v,hv⟩:=(s2 b u e).some
       exact (s2 b u e).fr fw (by rw [upd_ne hb,upd_ne (ne_of_none hv hd)])
   exact he.nx _ _ σt _ ((f1.trans f2).trans fw) sw (c.fr ((f1.trans f2).trans fw)) q2
end
end T2
namespace T2
open PySem PySem.Spec PyProof.Rows L2
section
variable {K:Fg} {X:Cx} {pos p1 p2 p3:Pos} {value:Expr} {tv:TE} {wv:WE} {s1 s2:Str} {k1 k3:Nat}
noncomputable def tF3 (s1 s2:Str) (tv:TE):TE:=fun σ H Q=>tv σ H fun x H1=>∃ i:Int,x=.int i /\ i.natAbs.log2 < 1920 /\ Q (.str (Str.empty ++ s1 ++ Str.ofString (toString i) ++ s2)) H1
theorem pe_f3 (hv:PE X value tv) (h1:s1.length <= 1000) (h2:s2.length <= 1000):PE X (.JoinedStr [.Constant (.str s1) k1 p1,.FormattedValue value (-1) none p2,.Constant (.str s2) k3 p3] pos) (tF3 s1 s2 tv):=by
 intro pins s σ H Q I h
 refine JoinedStr_many (joinParts_cons (thn (pe_str pins s σ H (fun v H1=>v=.str s1 /\ H1=H) I ⟨rfl,rfl⟩) fun u sa zz109=>?_))
 obtain ⟨v,H1,I1,ru,ev,eH⟩:=zz109
 subst ev eH
 obtain ⟨t1,rfl⟩:=(show ∃ t,u=Value.str s1 t from ru)
 have l0:(Str.empty ++ s1).length <= 1000:=by rw [PySem.Str.length_append]; exact (by simpa [Str.empty,PySem.Str.length] using h1)
 refine ⟨by rw [sizeLine_eq]; omega,joinParts_cons (FormattedValue_plain (thn (hv pins sa σ H1 _ I1 h) fun u2 sb ⟨x,H2,I2,rx,i,ex,hi,q⟩=>?_))⟩
 subst ex
 obtain ⟨t2,rfl⟩:=(show ∃ t,u2=Value.int i t from rx)
 have li:(Str.ofString (toString i)).length <= 1921:=by rw [PySem.ofString_length]; exact int_text_length_le (by decide) hi
 refine formatField_int_small hi ⟨by rw [PySem.Str.length_append,sizeLine_eq]; omega,?_⟩
 refine joinParts_cons (thn (pe_str pins _ σ H2 (fun v H1=>v=.str s2 /\ H1=H2) (I2.tok _) ⟨rfl,rfl⟩) fun u3 sc zz110=>?_)
 obtain ⟨v,H3,I3,ru3,ev,eH⟩:=zz110
 subst ev eH
 obtain ⟨t3,rfl⟩:=(show ∃ t,u3=Value.str s2 t from ru3)
 have lz:(Str.empty ++ s1 ++ Str.ofString (toString i) ++ s2).length <= sizeLine:=by rw [PySem.Str.length_append,PySem.Str.length_append,sizeLine_eq]; omega
 exact ⟨lz,joinParts_nil (show EP X pins σ Q _ _ from ⟨.str (Str.empty ++ s1 ++ Str.ofString (toString i) ++ s2),_,I3.tok _,⟨_,rfl⟩,q⟩) lz⟩
noncomputable def wF3 (s1 s2:Str) (wv:WE):WE:=fun σ S Q=>wv σ S fun x S1=>∃ i:Int,x=.int i /\ i.natAbs.log2 < 1920 /\ Q (.str (Str.empty ++ s1 ++ Str.ofString (toString i) ++ s2)) S1
theorem q_f3 (hv:QE K X value wv) (h1:s1.length <= 1000:=by decide) (h2:s2.length <= 1000:=by decide):QE K X (.JoinedStr [.Constant (.str s1) k1 p1,.FormattedValue value (-1) none p2,.Constant (.str s2) k3 p3] pos) (wF3 s1 s2 wv) :=
 PE.of (pe_f3 hv h1 h2) fun σ H Q zz111=>by
   obtain ⟨S,σt,Qt,s,c,q,hq⟩:=zz111
   refine ⟨S,σt,_,s,c,q,fun x H1 tx S1 f1 s1 r1 q1=>?_⟩
   obtain ⟨i,rfl,hi,q1⟩:=q1
   cases r1
   exact ⟨i,rfl,hi,hq _ H1 _ S1 f1 s1 .str q1⟩
end
section
variable {K:Fg} {σ:StT} {S:Sto} {Q:T->Sto->Prop} {C a:Addr} {wr:WA} {wa wv:WE} {wsp:WSp} {fs:List (Str × T)} {D:EndsT} {G:Addr->Prop} {fl:Str} {t x y:T}
theorem i_xinit (h:wr σ S fun ts S1=>∃ e C t r,ts=[.ref e,t] /\ S1 e=some (.exc C []) /\ excAt K C r=true /\ Q .non S1):wXInit K wr σ S Q:=h
theorem x_xinit {r:Option Value} {R:Prop} (e:S a=some (.exc C [])) (hx:excAt K C r=true) (h:R):∃ e' C' t' r',[T.ref a,t]=[.ref e',t'] /\ S e'=some (.exc C' []) /\ excAt K C' r'=true /\ R:=⟨a,C,t,r,rfl,e,hx,h⟩
theorem i_xset (h:wv σ S fun y S1=>wa σ S1 fun x S2=>∃ a C,x=.ref a /\ S2 a=some (.exc C []) /\ G C /\ D.nx σ (put S2 a (.exc C [(fl,y)]))):wXSet G wa wv fl D σ S:=h
theorem x_xset {P:Addr->Addr->Prop} (e:S a=some (.exc C [])) (g:G C) (h:P a C):∃ a' C',T.ref a=.ref a' /\ S a'=some (.exc C' []) /\ G C' /\ P a' C':=⟨a,C,rfl,e,g,h⟩
theorem i_f3 {s1 s2:Str} (h:wv σ S fun x S1=>∃ i:Int,x=.int i /\ i.natAbs.log2 < 1920 /\ Q (.str (Str.empty ++ s1 ++ Str.ofString (toString i) ++ s2)) S1):wF3 s1 s2 wv σ S Q:=h
end
end T2
namespace L2
open PySem PySem.Spec PyProof.Rows
section
variable {X:Cx}
noncomputable abbrev THd:=Addr->Option Addr->Ends->St->Hp->Prop
noncomputable def PHd (X:Cx) (hs:List ExceptHandler) (t:THd):Prop:=∀ (pins:List (Addr × Obj)) (s:Shared) (σ:St) (H:Hp) (a C:Addr) (dct:Option Addr) (lo:Nat) (D:Ends),Inv X pins σ H s->Low X pins lo->Xc.Exc s.heap lo (fun b=>H b=none) a (.ref C) dct->t C dct D σ H ->
 wpAny (model X.prog X.w) X.A (handleBy (.ref a) X.env hs) (SP X pins D) X.xe s
noncomputable def asEnds (i:Nat) (D:Ends):Ends:={ D with nx:=fun σ H=>D.nx (σ.set i none) H,bk:=fun σ H=>D.bk (σ.set i none) H,ct:=fun σ H=>D.ct (σ.set i none) H }
theorem xG_ok {P:Program} {w:World} {H:Hp} {h:Heap} {C a dx:Addr} (x:∃ ob,h.get? a=some ob /\ ob.cls=.ref C /\ ob.dict=some dx /\ ∃ vs,ob.data=.fields vs):ObjOk P w H h a (xG C a dx) :=
 ⟨x,let ⟨ob,e,_⟩:=x; ⟨ob,e⟩,fun _ _ zz112 k=>by obtain ⟨ob,e,r⟩:=zz112; exact ⟨ob,k _ e,r⟩⟩
noncomputable def thAsD (K:PySem.W.Frag) (B:Addr) (i:Nat) (t:Addr->TS):THd:=fun C dct D σ H=>PySem.W.exmOne K (.ref C) (.ref B)=some true /\ ∃ dx,dct=some dx /\ ∀ a,H a=none->t a (asEnds i D) (σ.set i (some (.ref a))) (upd H a (xG C a dx))
theorem ph_asd {x n:Str} {B:Addr} {i:Nat} {p pos:Pos} {st:Stmt} {suite:List Stmt} {hs:List ExceptHandler} {t:Addr->TS} (hN:X.N.Nodup) (hi:X.N[i]?=some n) (hn:X.env.scope.names.lookup n=some .local) (hg:Gl X x) (hm:X.mg x=some (.ref B)) (h1:∀ a,PSs (X.inx a) (st :: suite) (t a)) (hdb:(x == ("__debug__":Str))=false:=by decide) :
   PHd X (.ExceptHandler (some (.Name x p)) (some n) (st :: suite) pos :: hs) (thAsD X.K B i t):=by
 rintro pins s σ H a C dct lo D I lw x ⟨hb,dx,rfl,q⟩
 refine wpAny_handleBy_cons (codeAny_handlers_test (ld_glob (X:=X.inx a) (I.inx a) hg hm ?_ hdb)) (by intro z; cases z)
 obtain ⟨oe,ge,hc,_⟩:=x.there
 have lt:PySem.W.Looks (model X.prog X.w) s.heap (typeOf (.ref a)) (.ref C):=hc ▸ (PySem.W.Looks.ld ge).andThen .now
 refine (PySem.W.exm_one (M:=model X.prog X.w) I.kIn lt hb).here ?_
 refine codeAny_handlers_suite_as ?_
 refine flight_ok I lw x fun s' I' x'=>?_
 obtain ⟨oe',_,_,ge',hc',hd',de',e2',hlo,h0,_⟩:=x'
 have J:=(I'.add lw hlo h0 (xG_ok (C:=C) (dx:=dx) ⟨oe',ge',hc',hd',_,de'⟩)).inx a
 refine store_ok (X:=X.inx a) (v:=.ref a) J hN hi (.inl hn) rfl (fun s2 J2=>?_) (.inr hn)
 refine wpAny_mono (h1 a pins s2 _ _ (asEnds i D) J2 (q a h0)) (fun f s3 z=>?_) fun _ _ z=>z.elim
 have z:=SP.outx I.ok z
 cases f with
 | next=>obtain ⟨σ',H',I3,q3⟩:=z; exact goes_ok I3 hN hi hn fun s4 I4=>⟨_,_,I4,q3⟩
 | brk=>obtain ⟨σ',H',I3,q3⟩:=z; exact goes_ok I3 hN hi hn fun s4 I4=>⟨_,_,I4,q3⟩
 | cont=>obtain ⟨σ',H',I3,q3⟩:=z; exact goes_ok I3 hN hi hn fun s4 I4=>⟨_,_,I4,q3⟩
 | ret u=>obtain ⟨v,σ',H',I3,rv,q3⟩:=z; exact goes_ok I3 hN hi hn fun s4 I4=>⟨v,_,_,I4,rv,q3⟩
noncomputable def tTryD (tn:TS) (tr:TR) (th:THd):TS:=fun D σ H=>tn D σ H \/ tr σ H fun C dct σ' H'=>th C dct D σ' H'
theorem ps_tryD {body:List Stmt} {hd:ExceptHandler} {hs:List ExceptHandler} {tn:TS} {tr:TR} {th:THd} {pos:Pos} (st:X.stack=X.env :: X.outer /\ X.env.frame=some X.env.locals) (hn:PSs X.nox body tn) (hr:PRs X body tr) (hh:PHd X (hd :: hs) th) :
   PS X (.Try body (hd :: hs) [] [] pos) (tTryD tn tr th):=by
 intro pins s σ H D I h
 rcases h with h | h
 . refine wpAny_Try_except (wpAny_mono (hn pins s σ H D (I.wish _) h) (fun f s1 q=>?_) fun _ _ z=>z.elim)
   cases f with
   | next=>exact wpAny_execs_nil q.unwish
   | brk=>exact q.unwish
   | cont=>exact q.unwish
   | ret u=>exact q.unwish
 . refine wpAny_Try_except (wpAny_mono (hr pins s σ H _ I h) (fun f s1 q=>q.elim) fun e s1 ⟨a,C,dct,σ',H',lo,ee,J,lw,x,q⟩=>?_)
   subst ee
   have hlo:lo <= s1.heap.objs.size:=Nat.le_of_lt (Nat.lt_of_le_of_lt (by obtain ⟨_,_,_,_,_,_,_,_,l,_⟩:=x; exact l) (by obtain ⟨oe,_,_,ge,_⟩:=x; exact Heap.lt_size ge))
   exact wpAny_mono (note_ok (fo:=none) J st lw hlo x fun s2 J2 _ _ x2=>hh pins s2 σ' H' a C dct lo D J2 lw x2 q) (fun _ _ z=>z.2) fun _ _ z=>z
theorem pre_methO {o:Expr} {m:Str} {apos pos:Pos} {r:TR} {pl:Sem Bool} (h:PRE X o r)
   (ht:eval (.Call (.Attribute o m apos) [] [] pos) X.env=(do
     let ov <- eval o X.env
     standAt apos.atName
     let (f,first) <- holding [ov] (getMethod ov m pl)
     callWith pos f first (backTo pos (starEach [] X.env)) (backToKw pos (keywordEach [] X.env))):=by rfl):PRE X (.Call (.Attribute o m apos) [] [] pos) r:=by
 intro pins s σ H R I q
 rw [ht]
 exact wpAny_bind (wpAny_mono (h pins s σ H R I q) (fun _ _ z=>z.elim) fun _ _ z=>z)
end
end L2
namespace T2
open PySem PySem.Spec PyProof.Rows L2
section
variable {K:Fg} {X:Cx} {pos p apos:Pos} {x:Str} {B:Addr} {o:Expr} {wa:WE} {ta:TE}
theorem Cov.none {H:Hp} {S:Sto} {σ:L2.St} {σt:StT} (c:Cov K H S σ σt) (i:Nat):Cov K H S (σ.set i none) (σt.set i none):=by
 refine ⟨by rw [List.length_set,List.length_set]; exact c.1,fun j t e=>?_⟩
 rw [List.getElem?_set] at e
 split at e
 . split at e <;> cases e
 . rename_i h
   obtain ⟨v,e1,e2⟩:=c.2 j t e
   exact ⟨v,by rw [List.getElem?_set_ne h]; exact e1,e2⟩
noncomputable def asE (i:Nat) (D:EndsT):EndsT:={ D with nx:=fun σ S=>D.nx (σ.set i none) S,bk:=fun σ S=>D.bk (σ.set i none) S,ct:=fun σ S=>D.ct (σ.set i none) S }
theorem EndsOk.as {H:Hp} {S:Sto} {Dt:EndsT} {D:Ends} (e:EndsOk K H S Dt D) (i:Nat):EndsOk K H S (asE i Dt) (asEnds i D) :=
 ⟨fun σ' H' σt' S' f s c q=>e.nx _ H' _ S' f s (c.none i) q,fun v H' t S' f s r q=>e.rt v H' t S' f s r q,fun σ' H' σt' S' f s c q=>e.bk _ H' _ S' f s (c.none i) q,fun σ' H' σt' S' f s c q=>e.ct _ H' _ S' f s (c.none i) q⟩
noncomputable abbrev WHd:=XA->WS
noncomputable def lHd (K:Fg) (w:WHd):THd:=fun C dct D σ H=>∃ r S σt Dt,SRp K H S /\ Cov K H S σ σt /\ Dc H S r dct /\ w (C,r) Dt σt S /\ EndsOk K H S Dt D
noncomputable def QHd (K:Fg) (X:Cx) (hs:List ExceptHandler) (w:WHd):Prop:=PHd X hs (lHd K w)
theorem PHd.of {hs:List ExceptHandler} {t t':THd} (h:PHd X hs t) (i:∀ C d D σ H,t' C d D σ H->t C d D σ H):PHd X hs t':=fun pins s σ H a C d lo D I lw x q=>h pins s σ H a C d lo D I lw x (i C d D σ H q)
noncomputable def whAsD (K:Fg) (B:Addr) (i:Nat) (w:Addr->WS):WHd:=fun C D σ S=>PySem.W.exmOne K (.ref C.1) (.ref B)=some true /\ ∃ r,C.2=some r /\ ∀ a,S a=none->w a (asE i D) (σ.set i (some (.ref a))) (put S a (.exg C.1 r))
theorem qh_asD {n:Str} {i:Nat} {st:Stmt} {suite:List Stmt} {hs:List ExceptHandler} {w:Addr->WS} (hK:X.K=K) (hN:X.N.Nodup) (hi:X.N[i]?=some n) (hn:X.env.scope.names.lookup n=some .local) (hg:Gl X x) (hm:X.mg x=some (.ref B)) (h1:∀ a,QSs K (X.inx a) (st :: suite) (w a)) (hdb:(x == ("__debug__":Str))=false:=by decide) :
   QHd K X (.ExceptHandler (some (.Name x p)) (some n) (st :: suite) pos :: hs) (whAsD K B i w):=by
 subst hK
 refine PHd.of (ph_asd hN hi hn hg hm h1 hdb) fun C d D σ H zz113=>?_
 obtain ⟨r,S,σt,Dt,s,c,dd,⟨hb,r',er,q⟩,he⟩:=zz113
 refine ⟨hb,?_⟩
 dsimp only at er
 subst er
 rcases dd with ⟨z,_⟩ | ⟨i',dx,e1,e2,n,e⟩
 . cases z
 . cases e1
   subst e2
   refine ⟨dx,rfl,fun a h0=>?_⟩
   have q:=q a (s.fresh h0)
   have f:=Fr.newT (S:=S) (u:=xG C a dx) (o:=.exg C r') h0
   have ne:dx ≠ a:=fun z=>by rw [z,h0] at e; cases e
   exact ⟨_,_,_,s.newT h0 (.exg upd_same (by rw [put_ne ne]; exact n) (by rw [upd_ne ne]; exact e)),(c.fr f).set .ref i,q,(he.fr f).as i⟩
noncomputable def wTryD (wn:WS) (wr:WR) (wh:WHd):WS:=fun D σ S=>wn D σ S \/ wr σ S fun C σ' S'=>wh C D σ' S'
theorem q_tryD {body:List Stmt} {hd:ExceptHandler} {hs:List ExceptHandler} {wn:WS} {wr:WR} {wh:WHd} (st:X.stack=X.env :: X.outer /\ X.env.frame=some X.env.locals) (hn:QSs K X.nox body wn) (hr:QRs K X body wr) (hh:QHd K X (hd :: hs) wh) :
   QS K X (.Try body (hd :: hs) [] [] pos) (wTryD wn wr wh):=PS.of (ps_tryD st hn hr hh) fun D σ H zz114=>by
 obtain ⟨S,σt,Dt,s,c,q,he⟩:=zz114
 rcases q with q | q
 . exact .inl ⟨S,σt,Dt,s,c,q,he⟩
 . exact .inr ⟨S,σt,_,s,c,q,fun C σ' H' σt' S' f s' c' q' dct dd=>⟨C.2,S',σt',Dt,s',c',dd,q',he.fr f⟩⟩
theorem j_tryN {D:EndsT} {σ:StT} {S:Sto} {w:WS} {r:WR} {wh:WHd} (h:w D σ S):wTryD w r wh D σ S:=.inl h
theorem j_tryR {D:EndsT} {σ:StT} {S:Sto} {w:WS} {r:WR} {wh:WHd} (h:r σ S fun C σ' S'=>wh C D σ' S'):wTryD w r wh D σ S:=.inr h
theorem Qr_methO {m:Str} {r:WR} {pl:Sem Bool} (h:QRE K X o r)
   (ht:eval (.Call (.Attribute o m apos) [] [] pos) X.env=(do
     let ov <- eval o X.env
     standAt apos.atName
     let (f,first) <- holding [ov] (getMethod ov m pl)
     callWith pos f first (backTo pos (starEach [] X.env)) (backToKw pos (keywordEach [] X.env))):=by rfl):QRE K X (.Call (.Attribute o m apos) [] [] pos) r:=pre_methO (pl:=pl) h ht
noncomputable def tXRow (K:Fg) (ta:TE):TE:=fun σ H Q=>ta σ H fun x H1=>∃ a C dx r,x=.ref a /\ H1 a=some (xG C a dx) /\ H1 dx=some (.xd [("row",.int r)]) /\ XC K C /\ NoAttr K C "row" /\ Q (.int r) H1
theorem pe_xrow (he:PE X o ta) (hb:attributeBase o "row" X.env (eval o X.env)=eval o X.env:=by rfl):PE X (.Attribute o "row" pos) (tXRow X.K ta):=by
 intro pins s σ H Q I h
 refine attr_of hb (thn (he pins s σ H _ I h) fun u s1 zz115=>?_)
 obtain ⟨x,H1,I1,rx,a,C,dx,r,ex,ea,ed,c,n,q⟩:=zz115
 subst ex
 obtain rfl:u=Value.ref a:=rx
 obtain ⟨⟨oc,od',oda,osl⟩,g0,hc,hd,vs,hvs⟩:=(show ObjOk X.prog X.w H1 s1.heap a (xG C a dx) from I1.hok a _ ea).1
 dsimp only at hc hd hvs
 subst hc hd hvs
 obtain ⟨mA,hns,rr⟩:=(show ObjOk X.prog X.w H1 s1.heap dx (.xd [("row",.int r)]) from I1.hok dx _ ed)
 obtain ⟨od,gd,hl⟩:=lookIn_ns hns
 obtain ⟨u,hu,ru⟩:=RelO.some_of (v:=V.int r) (o:=mA "row") (rr "row")
 exact PySem.W.xget_value c.get I1.kIn (od:=some od) ⟨g0,rfl,rfl,gd⟩ (PySem.W.findObj_own c.dct n rfl (by rw [hl,hu])) (handed_of ru) ⟨V.int r,H1,I1.tok _,ru,q⟩
noncomputable def wXRow (G:Addr->Prop) (wa:WE):WE:=fun σ S Q=>wa σ S fun x S1=>∃ a C r,x=.ref a /\ S1 a=some (.exg C r) /\ G C /\ Q (.int r) S1
theorem Q_xrow {G:Addr->Prop} (hK:X.K=K) (hG:∀ C,G C->XC K C /\ NoAttr K C "row") (he:QE K X o wa) (hb:attributeBase o "row" X.env (eval o X.env)=eval o X.env:=by rfl):QE K X (.Attribute o "row" pos) (wXRow G wa):=by
 subst hK
 refine PE.of (pe_xrow he hb) fun σ H Q zz116=>?_
 obtain ⟨S,σt,Qt,s,c,q,hq⟩:=zz116
 refine ⟨S,σt,_,s,c,q,fun x H1 tx S1 f1 s1 r1 q1=>?_⟩
 obtain ⟨a,C,r,rfl,ea,g,q1⟩:=q1
 cases r1
 cases s1 a _ ea with
 | @exg _ dx _ eh n ed=>exact ⟨a,C,dx,r,rfl,eh,ed,(hG C g).1,(hG C g).2,hq _ H1 _ S1 f1 s1 .int q1⟩
theorem i_xrow {G:Addr->Prop} {σ:StT} {S:Sto} {Q:T->Sto->Prop} (h:wa σ S fun x S1=>∃ a C r,x=.ref a /\ S1 a=some (.exg C r) /\ G C /\ Q (.int r) S1):wXRow G wa σ S Q:=h
end
end T2
namespace L2
open PySem PySem.Spec PyProof.Rows
section
variable {X:Cx}
theorem mt_find:MtR X "str.find" (fun x vs H Q=>∃ a b:Str,x=.str a /\ vs=[.str b] /\ Q (.int (Txt.find a b)) H):=by
 intro pins s σ H x vs v us Q I rx rv h
 obtain ⟨a,b,rfl,rfl,q⟩:=h
 obtain ⟨tk,rfl⟩:=rx
 obtain ⟨u,rfl,t2,rfl⟩:=vals1 rv
 exact SC.find ⟨.int (Txt.find a b),H,I.tok _,⟨_,rfl⟩,q⟩
theorem mt_upper:MtR X "str.upper" (fun x vs H Q=>∃ a:Str,x=.str a /\ vs=[] /\ a.length <= 1000 /\ ((Txt.upper a).length <= 3 * a.length->Q (.str (Txt.upper a)) H)):=by
 intro pins s σ H x vs v us Q I rx rv h
 obtain ⟨a,rfl,rfl,hz,q⟩:=h
 obtain ⟨tk,rfl⟩:=rx
 have hus:=rv.zero
 subst hus
 have hl:=PyProof.Rows.len_upper a
 exact SC.upper (PyProof.Rows.fit_upper (by omega)) ⟨.str (Txt.upper a),H,I.tok _,⟨_,rfl⟩,q hl⟩
theorem op_mulS:OpR X (binaryOp .Mult) (fun x y H Q=>∃ (a:Str) (n:Int),x=.str a /\ y=.int n /\ MulOk a n /\ Q (.str (Txt.mul a n)) H):=by
 intro pins s σ H x y v u Q I rx ry h
 obtain ⟨a,n,rfl,rfl,ok,q⟩:=h
 obtain ⟨t,rfl⟩:=rx
 obtain ⟨t',rfl⟩:=ry
 exact SB.mul ok fun t' k=>⟨.str (Txt.mul a n),H,I.tok _,⟨_,rfl⟩,q⟩
end
end L2
namespace T2
open PySem PySem.Spec PyProof.Rows L2
section
variable {K:Fg} {X:Cx}
noncomputable def gFind:GM:=fun x ts S Q=>∃ a b:Str,x=.str a /\ ts=[.str b] /\ Q (.int (Txt.find a b)) S
theorem m_find:MtR X "str.find" (lM K gFind):=by
 rintro pins s σ H x vs v us Q I rx rv ⟨S,t,ts,Qt,sr,hx,rs,⟨a,c,rfl,rfl,q⟩,b⟩
 cases hx
 cases rs with
 | cons r l =>
   cases l
   cases r
   exact mt_find pins s σ H _ _ v us Q I rx rv ⟨a,c,rfl,rfl,b _ H _ S .refl sr .int q⟩
theorem g_find {S:Sto} {Q:T->Sto->Prop} {a b:Str} (h:Q (.int (Txt.find a b)) S):gFind (.str a) [.str b] S Q:=⟨a,b,rfl,rfl,h⟩
noncomputable def gUpper:GM:=fun x ts S Q=>∃ a:Str,x=.str a /\ ts=[] /\ a.length <= 1000 /\ ((Txt.upper a).length <= 3 * a.length->Q (.str (Txt.upper a)) S)
theorem m_upper:MtR X "str.upper" (lM K gUpper):=by
 rintro pins s σ H x vs v us Q I rx rv ⟨S,t,ts,Qt,sr,hx,rs,⟨a,rfl,rfl,hz,q⟩,b⟩
 cases hx
 cases rs
 exact mt_upper pins s σ H _ _ v us Q I rx rv ⟨_,rfl,rfl,hz,fun hl=>b _ H _ S .refl sr .str (q hl)⟩
theorem g_upper {S:Sto} {Q:T->Sto->Prop} {a:Str} (h0:a.length <= 1000) (h:(Txt.upper a).length <= 3 * a.length->Q (.str (Txt.upper a)) S):gUpper (.str a) [] S Q:=⟨a,rfl,rfl,h0,h⟩
noncomputable def gMulS:G2:=fun x y S Q=>∃ (a:Str) (n:Int),x=.str a /\ y=.int n /\ MulOk a n /\ Q (.str (Txt.mul a n)) S
theorem o_mulS:OpR X (binaryOp .Mult) (l2 K gMulS):=by
 rintro pins s σ H x y v u Q I rx ry ⟨S,tx,ty,Qt,sr,hx,hy,⟨a,n,rfl,rfl,ok,q⟩,b⟩
 cases hx
 cases hy
 exact op_mulS pins s σ H _ _ v u Q I rx ry ⟨a,n,rfl,rfl,ok,b _ H _ S .refl sr .str q⟩
noncomputable def gPopAt:GM:=fun x ts S Q=>∃ a us i y,x=.ref a /\ ts=[.int i] /\ S a=some (.lst us) /\ 0 <= i /\ i < 2 ^ 62 /\ us[i.toNat]?=some y /\ Q y (put S a (.lst (us.eraseIdx i.toNat)))
theorem Rps.erase {H S} {ts vs} (r:Rps K H S ts vs) (k:Nat):Rps K H S (ts.eraseIdx k) (vs.eraseIdx k):=by
 rw [List.eraseIdx_eq_take_drop_succ,List.eraseIdx_eq_take_drop_succ]; exact (r.take _).append (r.drop _)
theorem m_popAt:MtR X "list.pop" (lM K gPopAt):=by
 rintro pins s σ H x vs v us Q I rx rv ⟨S,t,ts,Qt,sr,hx,rs,⟨a,us',i,y,rfl,rfl,e,h0,h1,hl,q⟩,b⟩
 cases hx
 cases rs with
 | cons r l =>
   cases l
   cases r
   obtain ⟨ys,hy,ry⟩:=lst_at sr e
   obtain ⟨z,hz,rz⟩:=ry.get hl
   have hk:i.toNat < ys.length:=(List.getElem?_eq_some_iff.mp hz).1
   refine mt_popAt pins s σ H _ _ v us Q I rx rv ⟨a,ys,i,i.toNat,z,rfl,rfl,hy,by omega,by omega,PySem.StrLaws.seqIndex_nonneg h0 (by omega),hz,lst_write sr e (ry.erase _) b rz q⟩
theorem g_popAt {S:Sto} {Q:T->Sto->Prop} {a:Addr} {us:List T} {i:Int} {y:T} (e:S a=some (.lst us)) (h0:0 <= i) (h1:i < 2 ^ 62) (hl:us[i.toNat]?=some y) (h:Q y (put S a (.lst (us.eraseIdx i.toNat)))):gPopAt (.ref a) [.int i] S Q:=⟨a,us,i,y,rfl,rfl,e,h0,h1,hl,h⟩
end
end T2
namespace As
open PySem T2
variable {α β:Type}
noncomputable def kt (f:α->T) (l:List (Str × α)):List (L2.Key × T):=l.map fun a=>(Sum.inr a.1,f a.2)
noncomputable def look (l:List (Str × α)) (z:Str):Option α:=(l.find? fun a=>decide (a.1=z)).map (·.2)
noncomputable def pu (l:List (Str × α)) (z:Str) (x:α):List (Str × α):=if (l.any fun a=>decide (a.1=z))=true then l.map (fun a=>if a.1=z then (a.1,x) else a) else l ++ [(z,x)]
noncomputable def dr (l:List (Str × α)) (z:Str):List (Str × α):=l.filter fun a=>decide (a.1 ≠ z)
theorem val_kt (f:α->T) (z:Str):∀ l:List (Str × α),valT (kt f l) (Sum.inr z)=(look l z).map f
 | []=>rfl
 | a :: l=>by
   have ih:=val_kt f z l
   unfold valT kt look at *
   rw [List.map_cons,List.find?_cons,List.find?_cons]
   by_cases e:a.1=z
   . simp [e]
   . have e2:¬ (Sum.inr a.1:L2.Key)=Sum.inr z:=fun q=>e (Sum.inr.inj q)
     simp only [e,e2,decide_false]
     exact ih
theorem any_kt (f:α->T) (z:Str):∀ l:List (Str × α),((kt f l).any fun kv=>decide (kv.1=Sum.inr z))=l.any fun a=>decide (a.1=z)
 | []=>rfl
 | a :: l=>by
   have ih:=any_kt f z l
   unfold kt at *
   rw [List.map_cons,List.any_cons,List.any_cons,ih]
   congr 1
   rw [Bool.eq_iff_iff]
   simp
theorem put_kt (f:α->T) (l:List (Str × α)) (z:Str) (x:α):putT8 (kt f l) (Sum.inr z) (f x)=kt f (pu l z x):=by
 unfold putT8 pu
 rw [any_kt]
 split
 . unfold kt
   rw [List.map_map,List.map_map]
   refine List.map_congr_left fun a _=>?_
   by_cases e:a.1=z
   . simp [e]
   . have e2:¬ (Sum.inr a.1:L2.Key)=Sum.inr z:=fun q=>e (Sum.inr.inj q)
     simp [e]
 . unfold kt; simp
theorem look_none {l:List (Str × α)} {z:Str}:look l z=none ↔ z ∉ l.map (·.1):=by
 unfold look
 rw [Option.map_eq_none_iff,List.find?_eq_none]
 constructor
 . intro h hm
   obtain ⟨a,ha,e⟩:=List.mem_map.mp hm
   exact h a ha (by simp [e])
 . intro h a ha e
   exact h (by rw [<- of_decide_eq_true e]; exact List.mem_map_of_mem ha)
theorem pu_new {l:List (Str × α)} {z:Str} (x:α) (h:z ∉ l.map (·.1)):pu l z x=l ++ [(z,x)]:=by
 unfold pu
 rw [if_neg]
 intro e
 rw [List.any_eq_true] at e
 obtain ⟨a,ha,e⟩:=e
 exact h (by rw [<- of_decide_eq_true e]; exact List.mem_map_of_mem ha)
theorem len_kt (f:α->T) (l:List (Str × α)):(kt f l).length=l.length:=by unfold kt; rw [List.length_map]
noncomputable def wrt (m:Int × Int) (now:Int):Int:=m.1 / 2 ^ (now - m.2).toNat
noncomputable def mkT (m:Int × Int):T:=.tup [.int m.1,.int m.2]
end As
set_option maxRecDepth 100000
seal T2.QE T2.QT T2.QW T2.QA T2.QS T2.QSs T2.QG T2.QGs T2.QI T2.QTs T2.QO L2.PE L2.PT L2.PA L2.PS L2.PSs L2.PG L2.PGs L2.PI L2.PTs L2.PO L2.PW
namespace My
open PySem L2 T2
set_option hygiene false
local macro_rules
 | `(tactic| ac_nf)=>`(tactic| simp only [startT,List.map_cons,List.map_nil,List.length_cons,List.length_nil,List.replicate,List.cons_append,List.nil_append,Nat.zero_add,Nat.reduceAdd,Nat.reduceSub])
local macro_rules
 | `(tactic| ac_rfl)=>`(tactic| (first | (with_reducible assumption) | with_reducible exact put_same | exact (put_ne (by assumption)).trans (by assumption) | exact (put_ne (by assumption)).trans put_same | exact (put_ne (Ne.symm (by assumption))).trans put_same | exact (put_ne (Ne.symm (by assumption))).trans (by assumption)))
local macro_rules
 | `(tactic| infer_instance)=>`(tactic| (first | omega | (with_reducible assumption) | ((with_reducible apply Int.emod_nonneg); omega) | ((with_reducible apply Int.emod_lt_of_pos); omega) | (simp only [Int.reduceToNat,Int.reducePow]; omega) | (simp only [PySem.Str.length_append]; omega) | (simp only [List.length_range,List.length_map]; omega)))
local macro_rules
 | `(tactic| contradiction)=>`(tactic| (first | (simp only [PySem.sizeLine_eq,PySem.Str.length_append,Tm.len_one,Tm.len_blank,Tm.len_empty]; omega) | (rw [PySem.sizeLine_eq]; omega) | (rw [PySem.sizeLine_eq]; decide)))
local macro_rules
 | `(tactic| bv_omega)=>`(tactic| (repeat (first
     | (with_reducible first | apply i_seq | apply i_next | apply i_drop | apply i_ret | apply i_retN | apply i_ifS | apply i_asg | apply i_gS | apply i_gCons | apply i_gNil | apply i_for | apply i_C | apply i_2 | apply i_B | apply i_bl | apply i_chain | apply i_and | apply i_or | apply i_not | apply i_true | apply i_andV | apply i_orV | apply i_notV | apply i_if | apply i_nil | apply i_cons | apply i_tup | apply i_lst | apply i_lstT | apply i_call | apply i_cb | apply i_bm | apply i_neg | apply i_sl | apply i_oN | apply i_oS | apply i_comp | apply i_newF | apply i_iL | apply i_iR1 | apply i_iS | apply i_break | apply i_cont | apply g_sub | apply g_addI | apply g_eqI | apply g_eqS | apply g_eqB | apply g_ltI | apply g_leI | apply g_gtI | apply g_geI | apply g_ltS | apply g_leS | apply g_is | apply g_slM | apply g_slL | apply g_slC | apply g_lenT | apply g_lenM | apply g_lenL | apply g_lenC | apply g_min | apply g_intB | apply g_listL | apply g_starts | apply m_str | apply m_lst | apply v_lst | apply v_scr | apply ifT | apply ifF | apply ifNT | apply ifNF | apply g_inSL | apply g_ixL0)
     | ((with_reducible apply g_rt1); (skip))
     | ((with_reducible apply g_rt0); (skip))
     | ((with_reducible apply g_ixA); ((with_reducible assumption)))
     | ((with_reducible apply i_countP); ((with_reducible assumption); intro r o' hr0 hr1 hbx))
     | ((with_reducible apply i_count); (ac_rfl; (with_reducible assumption); intro r o' hr0 hr1 hbx))
     | ((with_reducible apply i_wordP); ((with_reducible assumption); intro z o' hzw hbx))
     | ((with_reducible apply i_word); (ac_rfl; (with_reducible assumption); intro z o' hzw hbx))
     | ((with_reducible apply i_sk); (skip))
     | ((with_reducible apply g_isi); (rfl; first | exact T.ni | exact T.si | exact T.ss | exact T.is | exact T.ii | exact T.ib | exact T.tt | exact T.lt | exact T.ll))
     | ((with_reducible apply g_isi2); (rfl; first | exact kit2_f T.nt T.nl | exact kit2_t T.tt | exact kit2_f T.lt T.ll | exact kit2_f T.st T.sl | exact kit2_f T.it T.il))
     | ((with_reducible apply i_takeP); (infer_instance; infer_instance; (with_reducible assumption); intro r o' hr0 hr1 hbx))
     | ((with_reducible apply i_take); (infer_instance; infer_instance; ac_rfl; (with_reducible assumption); intro r o' hr0 hr1 hbx))
     | ((with_reducible apply i_box); (infer_instance; intro q ob hq0 hbx))
     | ((with_reducible apply i_cell); (infer_instance; intro z))
     | ((with_reducible apply i_worth); (infer_instance))
     | ((with_reducible apply i_part); (infer_instance))
     | ((with_reducible apply i_letter); (skip))
     | ((with_reducible apply m_dct); (ac_rfl))
     | ((with_reducible apply x_it); (ac_rfl))
     | ((with_reducible apply x_sfld); (ac_rfl; rfl; (simp only [List.length_cons,List.length_nil]; decide)))
     | ((with_reducible apply x_fld); (ac_rfl; rfl; rfl))
     | ((with_reducible apply x_meth); (ac_rfl; rfl; rfl))
     | ((with_reducible apply j_meth); (skip))
     | ((with_reducible apply j_call); (skip))
     | ((with_reducible apply j_arg); (skip))
     | ((with_reducible apply j_if); (skip))
     | ((with_reducible apply j_next); (skip))
     | ((with_reducible apply i_fr); (skip))
     | ((with_reducible apply i_iTup); (skip))
     | ((with_reducible apply i_rng2); (infer_instance; infer_instance; infer_instance; infer_instance))
     | ((with_reducible apply g_part); ((decide); infer_instance))
     | ((with_reducible apply i_iE); (skip))
     | ((with_reducible apply i_iR2); (skip))
     | ((with_reducible apply i_cbk); (skip))
     | ((with_reducible apply i_iP); (skip))
     | ((with_reducible apply i_iK); (skip))
     | ((with_reducible apply i_dnew); (skip))
     | ((with_reducible apply i_unE); (skip))
     | ((with_reducible apply i_unS); (skip))
     | ((with_reducible apply i_sfld); (skip))
     | ((with_reducible apply i_fld); (skip))
     | ((with_reducible apply i_meth); (skip))
     | ((with_reducible apply i_make); (skip))
     | ((with_reducible apply g_inSS); (skip))
     | ((with_reducible apply g_mul0); (skip))
     | ((with_reducible apply g_mul9); (skip))
     | ((with_reducible apply g_upper); (infer_instance; intro hup))
     | ((with_reducible apply g_find); (skip))
     | ((with_reducible apply j_raiseI); (skip))
     | ((with_reducible apply j_for); (skip))
     | ((with_reducible apply i_f3); (skip))
     | ((with_reducible apply i_xrow); (skip))
     | ((with_reducible apply i_xset); (skip))
     | ((with_reducible apply i_xinit); (skip))
     | ((with_reducible apply g_addS2); ((first | decide | omega | (simp only [PySem.Str.length_append,Tm.len_blank]; omega)); (first | decide | omega | (simp only [PySem.Str.length_append,Tm.len_blank]; omega))))
     | ((with_reducible apply i_V); (rfl))
     | ((with_reducible apply i_gN2); (((try simp only [List.set_cons_zero,List.set_cons_succ]); rfl)))
     | ((with_reducible apply i_gT); (rfl))
     | ((with_reducible apply g_ixT); (rfl))
     | ((with_reducible apply g_ixL); (rfl))
     | ((with_reducible apply g_ixR); (ac_rfl; rfl))
     | ((with_reducible apply g_setNP); (rfl; (simp only [List.length_cons,List.length_nil]; decide); ((try simp only [List.set_cons_zero,List.set_cons_succ]); rfl)))
     | ((with_reducible apply g_setN); (ac_rfl; rfl; (simp only [List.length_cons,List.length_nil]; decide); ((try simp only [List.set_cons_zero,List.set_cons_succ]); rfl)))
     | ((with_reducible apply g_setP); (rfl))
     | ((with_reducible apply g_set); (ac_rfl; rfl))
     | ((with_reducible apply g_mod); (infer_instance))
     | ((with_reducible apply g_div); (infer_instance; infer_instance))
     | ((with_reducible apply g_pow); (decide; decide; decide))
     | ((with_reducible apply g_mulI); (first | exact .inl ⟨by first | omega | decide,by first | omega | decide⟩ | exact .inr ⟨by first | omega | decide,by first | omega | decide⟩))
     | ((with_reducible apply g_ixM); (infer_instance; infer_instance; intro z hz ez))
     | ((with_reducible apply g_shr); (infer_instance))
     | ((with_reducible apply g_addS); (contradiction))
     | ((with_reducible apply g_slS); (contradiction))
     | ((with_reducible apply g_lenS); (contradiction))
     | ((with_reducible apply g_strip); (contradiction))
     | ((with_reducible apply g_split); (decide; infer_instance))
     | ((with_reducible apply i_rng); (infer_instance; infer_instance))
     | ((with_reducible apply g_inSR); (ac_rfl))
     | ((with_reducible apply g_lenMR); (ac_rfl))
     | ((with_reducible apply g_lenR); (ac_rfl))
     | ((with_reducible apply g_ixMR); (ac_rfl; infer_instance; infer_instance; intro z hz ez))
     | ((with_reducible apply g_ixSP); (contradiction; infer_instance; infer_instance; intro d hd ed))
     | ((with_reducible apply g_slR); (ac_rfl))
     | ((with_reducible apply m_ref); (ac_rfl))
     | ((with_reducible apply v_ref); (ac_rfl))
     | ((with_reducible apply g_listR); (ac_rfl))
     | ((with_reducible apply g_inT); (rfl; rfl))
     | ((with_reducible apply g_reverse); (ac_rfl))
     | ((with_reducible apply z_le (n:=0)); ((first | decide | (simp only [List.length_cons,List.length_nil]; decide)))))))
set_option hygiene true
open Rk S6 As
structure Txt (K:PySem.W.Frag) (mg:Str->Option Value) (C XT XA fi:Addr):Prop where
 len:mg "len"=none
 range:mg "range"=none
 all:mg "all"=none
 max:mg "max"=none
 min:mg "min"=none
 sorted:mg "sorted"=none
 isinstance:mg "isinstance"=none
 bool:mg "bool"=none
 int:mg "int"=none
 str:mg "str"=none
 list:mg "list"=none
 tuple:mg "tuple"=none
 enumerate:mg "enumerate"=none
 ss:PySem.W.kitOne K (.type "str") (.type "str")=some true
 ii:PySem.W.kitOne K (.type "int") (.type "int")=some true
 ib:PySem.W.kitOne K (.type "int") (.type "bool")=some false
 tt:PySem.W.kitOne K (.type "tuple") (.type "tuple")=some true
 ll:PySem.W.kitOne K (.type "list") (.type "list")=some true
 lt:PySem.W.kitOne K (.type "list") (.type "tuple")=some false
 st:PySem.W.kitOne K (.type "str") (.type "tuple")=some false
 it:PySem.W.kitOne K (.type "int") (.type "tuple")=some false
 sl:PySem.W.kitOne K (.type "str") (.type "list")=some false
 il:PySem.W.kitOne K (.type "int") (.type "list")=some false
 is:PySem.W.kitOne K (.type "int") (.type "str")=some false
 nt:PySem.W.kitOne K (.type "NoneType") (.type "tuple")=some false
 nl:PySem.W.kitOne K (.type "NoneType") (.type "list")=some false
 ni:PySem.W.kitOne K (.type "NoneType") (.type "int")=some false
 si:PySem.W.kitOne K (.type "str") (.type "int")=some false
 c_MOST_SIGNS:∃ tk,mg "MOST_SIGNS"=some (.int 24 tk)
 c_MOST_PARTS:∃ tk,mg "MOST_PARTS"=some (.int 4 tk)
 c_MOST_LETTERS:∃ tk,mg "MOST_LETTERS"=some (.int 12 tk)
 c_MOST_FIGURES:∃ tk,mg "MOST_FIGURES"=some (.int 15 tk)
 mg_Wood:mg "Wood"=some (.ref C)
 cl:Cls K C
 nm:NoAttr K C "marks"
 nn:NoAttr K C "now"
 mg_NoText:mg "NoText"=some (.ref XT)
 mg_AheadError:mg "AheadError"=some (.ref XA)
 ex:excAt K XT (some (.ref fi))=true
 fn:PySem.W.isFn K (.ref fi)=true
 x7:XC K XT
 nr:NoAttr K XT "row"
 sp:PySem.W.specialIn K (.ref XA) "__getattribute__"=some (some (.builtin "type.__getattribute__"))
 rd:PySem.W.readsIn K XA (.type "type")=true
 fc:PySem.W.findCls K (.ref XA) (.type "type") "__init__"=some (.val (.builtin "ValueError.__init__"))
 e_TT:PySem.W.exmOne K (.ref XT) (.ref XT)=some true
section
variable {P:Program} {w:World} {K:PySem.W.Frag} {mg:Str->Option Value} {base:Heap} {C XT XA fi:Addr}
theorem Txt.gm (T:Txt K mg C XT XA fi):∀ c,c=C->Cls K c /\ NoAttr K c "marks":=fun c e=>by subst e; exact ⟨T.cl,T.nm⟩
theorem Txt.gn (T:Txt K mg C XT XA fi):∀ c,c=C->Cls K c /\ NoAttr K c "now":=fun c e=>by subst e; exact ⟨T.cl,T.nn⟩
theorem Txt.gr (T:Txt K mg C XT XA fi):∀ c,c=XT->XC K c /\ NoAttr K c "row":=fun c e=>by subst e; exact ⟨T.x7,T.nr⟩
theorem Txt.gf (T:Txt K mg C XT XA fi) {m:Str} {f:Addr} (h:Meth K C m f):∀ c,c=C->Cls K c /\ Meth K c m f:=fun c e=>by subst e; exact ⟨T.cl,h⟩
noncomputable def IsBox (o:O):Prop:=∃ a b c d:Int,o=.lst [.int a,.int b,.int c,.int d]
noncomputable def spTake:WSp:=fun ts S Q=>∃ p m o,ts=[.ref p,.int m] /\ 0 < m /\ m < 18446744073709551616 /\ S p=some o /\ IsBox o /\ ∀ r o',0 <= r->r < m->IsBox o'->Q (.int r) (put S p o')
theorem i_take {S:Sto} {Q:T->Sto->Prop} {p:Addr} {m:Int} {o:O} (h1:0 < m) (h2:m < 18446744073709551616) (e:S p=some o) (f:IsBox o) (h:∀ r o',0 <= r->r < m->IsBox o'->Q (.int r) (put S p o')) :
   spTake ([.ref p,.int m] ++ []) S Q:=⟨p,m,o,rfl,h1,h2,e,f,h⟩
theorem i_takeP {S:Sto} {Q:T->Sto->Prop} {p:Addr} {m:Int} {o:O} (h1:0 < m) (h2:m < 18446744073709551616) (f:IsBox o) (h:∀ r o',0 <= r->r < m->IsBox o'->Q (.int r) (put S p o')) :
   spTake ([.ref p,.int m] ++ []) (put S p o) Q:=⟨p,m,o,rfl,h1,h2,put_same,f,fun r o' a b c=>by rw [put_put]; exact h r o' a b c⟩
theorem sc_law_take:FnScope ["_law_box_here","_law_many","_law_found_here"] ["_law_box_here","_law_many"] (defScope s_law_take):=⟨rfl,rfl,rfl,by decide +kernel,rfl,by decide +kernel,by decide +kernel⟩
theorem ok_take {f:Addr} {fd:FuncData} (F:Fun K "_law_take" "_law_take" s_law_take f fd):FnOk P w K mg base CX0 1 f fd ["_law_box_here","_law_many"] (lSp K spTake):=by
 refine ok_def F sc_law_take (fun ts S Q h=>?_) fun cdv A outer s H E hr=>?_
 . obtain ⟨p,m,o,rfl,_⟩:=h; rfl
 have nd:=sc_law_take.nd
 refine ⟨_,((qs_cons (q_asg (fun h g=>ps_asg h g) (q_op (o_add false) (q_ix rfl (Q_var 0) q_int (fun _ _=>rfl)) q_int) (Q_gsub (Q_var 0) q_int (p_setN 2) (fun h1 h2 h3=>pg_sub h1 h2 h3)))
     (qs_cons (q_if (q_tW (q_and (q_tcmp (o_eq rfl hr.units) (q_ix rfl (Q_var 0) q_int (fun _ _=>rfl)) q_int (nomark _)) (q_and1 (q_tchain o_le o_le (q_neg q_int) (q_ix rfl (Q_var 0) q_int (fun _ _=>rfl)) q_int))))
      (qs_cons (q_asg (fun h g=>ps_asg h g) (q_ix rfl (Q_var 0) q_int (fun _ _=>rfl)) (Q_gsub (Q_var 0) q_int (p_setN 0) (fun h1 h2 h3=>pg_sub h1 h2 h3)))
     (qs_one (q_asg (fun h g=>ps_asg h g) q_int (Q_gsub (Q_var 0) q_int (p_setN 1) (fun h1 h2 h3=>pg_sub h1 h2 h3)))))
      qs_nil)
     (qs_cons (q_if (q_tcmp (o_eq rfl hr.units) (q_ix rfl (Q_var 0) q_int (fun _ _=>rfl)) q_int (nomark _))
      (qs_cons (q_set (i:=2) nd rfl (Or.inl rfl) (q_op o_mod (q_ix rfl (Q_var 0) q_int (fun _ _=>rfl)) (Q_var 1)))
     (qs_cons (q_asg (fun h g=>ps_asg h g) (q_op o_div (q_ix rfl (Q_var 0) q_int (fun _ _=>rfl)) (Q_var 1)) (Q_gsub (Q_var 0) q_int (p_setN 0) (fun h1 h2 h3=>pg_sub h1 h2 h3)))
     (qs_one (q_ret (Q_var 2)))))
      qs_nil)
     (qs_cons (q_asg (fun h g=>ps_asg h g) (q_op o_mod (q_op (o_add false) (q_op (o_add false) (q_op (o_mul false) (q_op o_mod (q_ix rfl (Q_var 0) q_int (fun _ _=>rfl)) q_int) q_int) (q_op (o_mul false) q_int (q_ix rfl (Q_var 0) q_int (fun _ _=>rfl)))) q_int) q_int) (Q_gsub (Q_var 0) q_int (p_setN 0) (fun h1 h2 h3=>pg_sub h1 h2 h3)))
     (qs_one (q_ret (q_op o_mod (q_op o_div (q_op o_mod (q_op (o_mul false) (q_ix rfl (Q_var 0) q_int (fun _ _=>rfl)) q_int) q_int) q_int) (Q_var 1))))))))),fun ts S Q h=>?_⟩
 obtain ⟨p,m,o,rfl,h1,h2,hp,⟨a,b,c,d,rfl⟩,hq⟩:=h
 ac_nf
 refine i_mid (fun σ' S'=>σ'=[some (.ref p),some (.int m),none] /\ S'=put S p (.lst [.int a,.int b,.int (c + 1),.int d])) ?_ ?_
 . intro X hX
   bv_omega
   exact hX _ _ ⟨rfl,rfl⟩
 rintro σ' S' ⟨rfl,rfl⟩
 refine i_mid (fun σ' S'=>σ'=[some (.ref p),some (.int m),none] /\ ∃ o',IsBox o' /\ S'=put S p o') ?_ ?_
 . intro X hX
   (bv_omega; repeat' ((with_reducible refine ifB ?_ ?_) <;> (intro hb; (try simp only [Bool.false_xor,Bool.true_xor,Bool.not_eq_true',Bool.not_eq_false',Bool.not_eq_true,Bool.not_eq_false,Bool.not_not,decide_eq_true_eq,decide_eq_false_iff_not,Int.not_lt,Int.not_le,Bool.not_true,Bool.not_false] at hb); bv_omega)))
   all_goals exact hX _ _ ⟨rfl,_,⟨_,_,_,_,rfl⟩,rfl⟩
 . rintro σ' S' ⟨rfl,o',⟨a,b,c,d,rfl⟩,rfl⟩
   (bv_omega; repeat' ((with_reducible refine ifB ?_ ?_) <;> (intro hb; (try simp only [Bool.false_xor,Bool.true_xor,Bool.not_eq_true',Bool.not_eq_false',Bool.not_eq_true,Bool.not_eq_false,Bool.not_not,decide_eq_true_eq,decide_eq_false_iff_not,Int.not_lt,Int.not_le,Bool.not_true,Bool.not_false] at hb); bv_omega)))
   all_goals exact .mk (hq _ _ (Int.emod_nonneg _ (by omega)) (Int.emod_lt_of_pos _ h1) ⟨_,_,_,_,rfl⟩)
noncomputable def spCell:WSp:=fun ts S Q=>∃ (ns:List Int) (k:Int),ts=[.scr ns,.int k] /\ 0 <= k /\ ∀ z:Int,Q (.int z) S
theorem i_cell {S:Sto} {Q:T->Sto->Prop} {ns:List Int} {k:Int} (h0:0 <= k) (h:∀ z:Int,Q (.int z) S):spCell ([.scr ns,.int k] ++ []) S Q:=⟨ns,k,rfl,h0,h⟩
theorem sc_law_cell_at:FnScope ["_law_script","_law_k","_law_seed"] ["_law_script","_law_k"] (defScope s_law_cell_at):=⟨rfl,rfl,rfl,by decide +kernel,rfl,by decide +kernel,by decide +kernel⟩
theorem ok_cell {f:Addr} {fd:FuncData} (F:Fun K "_law_cell_at" "_law_cell_at" s_law_cell_at f fd) (T:Txt K mg C XT XA fi):FnOk P w K mg base CX0 1 f fd ["_law_script","_law_k"] (lSp K spCell):=by
 refine ok_def F sc_law_cell_at (fun ts S Q h=>?_) fun cdv A outer s H E hr=>?_
 . obtain ⟨ns,k,rfl,_⟩:=h; rfl
 have nd:=sc_law_cell_at.nd
 refine ⟨_,((qs_cons (q_if (q_tcmp o_lt (Q_var 1) (Q_cb (c_len rfl) (by rfl) T.len PySem.boot_len (qa_cons (Q_var 0) qa_nil (star_of rfl))) (nomark _))
      (qs_one (q_ret (q_ix rfl (Q_var 0) (Q_var 1) (fun _ _=>rfl))))
      qs_nil)
     (qs_cons (q_set (i:=2) nd rfl (Or.inl rfl) q_int)
     (qs_cons (q_if (q_tcmp o_gt (Q_cb (c_len rfl) (by rfl) T.len PySem.boot_len (qa_cons (Q_var 0) qa_nil (star_of rfl))) q_int (nomark _))
      (qs_one (q_set (i:=2) nd rfl (Or.inl rfl) (q_ix rfl (Q_var 0) (q_op o_mod (Q_var 1) (Q_cb (c_len rfl) (by rfl) T.len PySem.boot_len (qa_cons (Q_var 0) qa_nil (star_of rfl)))) (fun _ _=>rfl))))
      qs_nil)
     (qs_one (q_ret (q_op (o_add false) (q_op (o_mul false) (q_op o_mod (q_op (o_add false) (q_op (o_add false) (q_op (o_mul false) (q_op o_mod (Q_var 2) q_int) q_int) (q_op (o_mul false) (Q_var 1) q_int)) q_int) q_int) q_int) q_int))))))),fun ts S Q h=>?_⟩
 obtain ⟨ns,k,rfl,h0,hq⟩:=h
 ac_nf
 refine i_mid (fun σ' S'=>σ'=[some (.scr ns),some (.int k),none] /\ S=S') ?_ ?_
 . intro X hX
   (bv_omega; repeat' ((with_reducible refine ifB ?_ ?_) <;> (intro hb; (try simp only [Bool.false_xor,Bool.true_xor,Bool.not_eq_true',Bool.not_eq_false',Bool.not_eq_true,Bool.not_eq_false,Bool.not_not,decide_eq_true_eq,decide_eq_false_iff_not,Int.not_lt,Int.not_le,Bool.not_true,Bool.not_false] at hb); bv_omega)))
   . refine g_ixC h0 hb fun z _ _=>?_
     bv_omega
     exact .mk (hq _)
   . exact hX _ _ ⟨rfl,rfl⟩
 rintro σ' S' ⟨rfl,rfl⟩
 refine i_mid (fun σ' S'=>∃ z:Int,σ'=[some (.scr ns),some (.int k),some (.int z)] /\ S=S') ?_ ?_
 . intro X hX
   bv_omega
   exact hX _ _ ⟨_,rfl,rfl⟩
 rintro σ' S' ⟨z,rfl,rfl⟩
 refine i_mid (fun σ' S'=>∃ z:Int,σ'=[some (.scr ns),some (.int k),some (.int z)] /\ S=S') ?_ ?_
 . intro X hX
   (bv_omega; repeat' ((with_reducible refine ifB ?_ ?_) <;> (intro hb; (try simp only [Bool.false_xor,Bool.true_xor,Bool.not_eq_true',Bool.not_eq_false',Bool.not_eq_true,Bool.not_eq_false,Bool.not_not,decide_eq_true_eq,decide_eq_false_iff_not,Int.not_lt,Int.not_le,Bool.not_true,Bool.not_false] at hb); bv_omega)))
   . refine g_ixC (Int.emod_nonneg _ (by omega)) (Int.emod_lt_of_pos _ hb) fun z _ _=>?_
     bv_omega
     exact hX _ _ ⟨_,rfl,rfl⟩
   . exact hX _ _ ⟨_,rfl,rfl⟩
 rintro σ' S' ⟨z,rfl,rfl⟩
 bv_omega
 exact .mk (hq _)
noncomputable def spBox:WSp:=fun ts S Q=>∃ (ns:List Int) (k:Int),ts=[.scr ns,.int k] /\ 0 <= k /\ ∀ p o,S p=none->IsBox o->Q (.ref p) (put S p o)
theorem i_box {S:Sto} {Q:T->Sto->Prop} {ns:List Int} {k:Int} (h0:0 <= k) (h:∀ p o,S p=none->IsBox o->Q (.ref p) (put S p o)):spBox ([.scr ns,.int k] ++ []) S Q:=⟨ns,k,rfl,h0,h⟩
theorem sc_law_box:FnScope ["_law_script","_law_k","_law_cell"] ["_law_script","_law_k"] (defScope s_law_box):=⟨rfl,rfl,rfl,by decide +kernel,rfl,by decide +kernel,by decide +kernel⟩
theorem ok_box {f f1:Addr} {fd fd1:FuncData} (F:Fun K "_law_box" "_law_box" s_law_box f fd) (G__law_cell_at:FnOk P w K mg base CX0 1 f1 fd1 ["_law_script","_law_k"] (lSp K spCell)) (D__law_cell_at:Df K mg "_law_cell_at" f1 fd1 ["_law_script","_law_k"]) :
   FnOk P w K mg base CX0 2 f fd ["_law_script","_law_k"] (lSp K spBox):=by
 refine ok_def F sc_law_box (fun ts S Q h=>?_) fun cdv A outer s H E hr=>?_
 . obtain ⟨ns,k,rfl,_⟩:=h; rfl
 have nd:=sc_law_box.nd
 refine ⟨_,((qs_cons (q_set (i:=2) nd rfl (Or.inl rfl) (Q_call G__law_cell_at D__law_cell_at (hr.mono (by decide)) (by rfl) (qa_cons (Q_var 0) (qa_cons (Q_var 1) qa_nil (star_of rfl)) (star_of rfl))))
     (qs_one (q_ret (q_lstT (qa_cons (q_op o_div (Q_var 2) q_int) (qa_cons (q_op o_mod (Q_var 2) q_int) (qa_cons q_int (qa_cons (Q_var 2) qa_nil (star_of rfl)) (star_of rfl)) (star_of rfl)) (star_of rfl))))))),fun ts S Q h=>?_⟩
 obtain ⟨ns,k,rfl,h0,hq⟩:=h
 ac_nf
 bv_omega
 exact fun p hp=>.mk (hq p _ hp ⟨_,_,_,_,rfl⟩)
noncomputable def spLetter:WSp:=fun ts S Q=>∃ c:Nat,ts=[.str ⟨#[c]⟩] /\ Q (.bl (Sc.isL c)) S
theorem i_letter {S:Sto} {Q:T->Sto->Prop} {c:Nat} (h:Q (.bl (Sc.isL c)) S):spLetter ([.str ⟨#[c]⟩] ++ []) S Q:=⟨c,rfl,h⟩
theorem sc_is_letter:FnScope ["sign"] ["sign"] (defScope s_is_letter):=⟨rfl,rfl,rfl,by decide +kernel,rfl,by decide +kernel,by decide +kernel⟩
theorem ok_letter {f:Addr} {fd:FuncData} (F:Fun K "is_letter" "is_letter" s_is_letter f fd):FnOk P w K mg base CX0 1 f fd ["sign"] (lSp K spLetter):=by
 refine ok_def F sc_is_letter (fun ts S Q h=>?_) fun cdv A outer s H E hr=>?_
 . obtain ⟨c,rfl,_⟩:=h; rfl
 have nd:=sc_is_letter.nd
 refine ⟨_,((qs_one (q_ret (q_chain o_le o_le q_str (Q_var 0) q_str)))),fun ts S Q h=>?_⟩
 obtain ⟨c,rfl,hq⟩:=h
 rw [<- Wm.letter] at hq
 ac_nf
 bv_omega
 refine ifB (fun hb=>?_) fun hb=>?_
 . bv_omega
   rw [hb,Bool.true_and] at hq
   exact .mk hq
 . rw [hb,Bool.false_and] at hq
   exact .mk hq
noncomputable def spPart:WSp:=fun ts S Q=>∃ z:Str,ts=[.str z] /\ z.length <= 1000 /\ Q (.bl (Sc.isP (Tm.tl z))) S
theorem i_part {S:Sto} {Q:T->Sto->Prop} {z:Str} (h0:z.length <= 1000) (h:Q (.bl (Sc.isP (Tm.tl z))) S):spPart ([.str z] ++ []) S Q:=⟨z,rfl,h0,h⟩
theorem sc_is_part:FnScope ["text"] ["text"] (defScope s_is_part):=⟨rfl,rfl,rfl,by decide +kernel,rfl,by decide +kernel,by decide +kernel⟩
theorem ok_part {f f1:Addr} {fd fd1:FuncData} (F:Fun K "is_part" "is_part" s_is_part f fd) (T:Txt K mg C XT XA fi) (G_is_letter:FnOk P w K mg base CX0 1 f1 fd1 ["sign"] (lSp K spLetter)) (D_is_letter:Df K mg "is_letter" f1 fd1 ["sign"]) :
   FnOk P w K mg base CX0 2 f fd ["text"] (lSp K spPart):=by
 refine ok_def F sc_is_part (fun ts S Q h=>?_) fun cdv A outer s H E hr=>?_
 . obtain ⟨c,rfl,_⟩:=h; rfl
 have nd:=sc_is_part.nd
 refine ⟨_,((qs_one (q_ret (q_andV (q_chain o_le o_le q_int (Q_cb (c_len rfl) (by rfl) T.len PySem.boot_len (qa_cons (Q_var 0) qa_nil (star_of rfl))) (Q_gint (n:=12) (by rfl) T.c_MOST_LETTERS)) (q_one (Q_cb (c_all rfl rfl) (by rfl) T.all PyProof.Rows.boot_all (qa_cons (q_comp false ["sign"] 1 [] rfl (qi_str (Q_var 0)) (fun _ _ _ _=>(Q_gname (i:=0) (show List.Nodup (["sign"]:List Str) from by decide +kernel) rfl (Or.inl rfl))) (fun _ _ _ _=>qts_nil) (fun _ _ _ _=>(Q_call G_is_letter D_is_letter (hr.mono (by decide)) (by rfl) (qa_cons (Q_var 0) qa_nil (star_of rfl))))) qa_nil (star_of rfl)))))))),fun ts S Q h=>?_⟩
 obtain ⟨z,rfl,hz,hq⟩:=h
 have e:Sc.isP (Tm.tl z)=(decide (1 <= (z.length:Int)) && decide ((z.length:Int) <= 12) && (Tm.tl z).all Sc.isL):=by
   unfold Sc.isP
   rw [Tm.len]
   congr 1
   congr 1
   . rw [Bool.eq_iff_iff]; simp only [decide_eq_true_eq]; omega
   . rw [Bool.eq_iff_iff]; simp only [decide_eq_true_eq]; omega
 rw [e] at hq
 ac_nf
 bv_omega
 refine ifB (fun hb=>?_) fun hb=>?_
 . rw [hb,Bool.true_and] at hq
   bv_omega
   refine ifB (fun hb=>?_) fun hb=>?_
   . rw [hb,Bool.true_and] at hq
     bv_omega
     refine comp_pure (ls:=Tm.tl z) (fun c=>T2.T.str ⟨#[c]⟩) (fun c=>some (.bl (Sc.isL c))) [] ?_ ?_ (fun x hx u acc N hacc hN=>?_) ?_
     . trivial
     . rw [Tm.len,sizeLine_eq]; omega
     . bv_omega
       exact ⟨hacc,hN _⟩
     . bv_omega
       refine g_allL (bs:=(Tm.tl z).map Sc.isL) (by rw [<- Wm.all_map,List.map_map]; rw [Wm.fm_some]; rfl) ?_
       rw [List.all_map]
       exact .mk hq
   . rw [hb,Bool.false_and] at hq
     exact .mk hq
 . rw [hb,Bool.false_and,Bool.false_and] at hq
   bv_omega
   exact .mk hq
noncomputable def spIsWord:WSp:=fun ts S Q=>∃ z:Str,ts=[.str z] /\ z.length <= 1000 /\ Q (.bl (Wm.Wd z)) S
theorem sc_is_word:FnScope ["thing","parts"] ["thing"] (defScope s_is_word):=⟨rfl,rfl,rfl,by decide +kernel,rfl,by decide +kernel,by decide +kernel⟩
theorem ok_isword {f f1:Addr} {fd fd1:FuncData} (F:Fun K "is_word" "is_word" s_is_word f fd) (T:Txt K mg C XT XA fi) (G_is_part:FnOk P w K mg base CX0 2 f1 fd1 ["text"] (lSp K spPart)) (D_is_part:Df K mg "is_part" f1 fd1 ["text"]) :
   FnOk P w K mg base CX0 3 f fd ["thing"] (lSp K spIsWord):=by
 refine ok_def F sc_is_word (fun ts S Q h=>?_) fun cdv A outer s H E hr=>?_
 . obtain ⟨c,rfl,_⟩:=h; rfl
 have nd:=sc_is_word.nd
 refine ⟨_,((qs_cons (q_if (q_tW (q_or (q_tnot (q_tval (Q_cb (c_isi rfl) (by rfl) T.isinstance PyProof.Rows.boot_isinstance (qa_cons (Q_var 0) (qa_cons (Q_ty (n:="str") (by rfl) T.str PyProof.Rows.boot_str) qa_nil (star_of rfl)) (star_of rfl))))) (q_or1 (q_tcmp o_gt (Q_cb (c_len rfl) (by rfl) T.len PySem.boot_len (qa_cons (Q_var 0) qa_nil (star_of rfl))) (Q_gint (n:=24) (by rfl) T.c_MOST_SIGNS) (nomark _)))))
      (qs_one (q_ret q_bl))
      qs_nil)
     (qs_cons (q_set (i:=1) nd rfl (Or.inl rfl) (Q_bm rfl PySem.F.plainAttrs_str PySem.F.slot_str_split PySem.F.type_str_split (m_split false) (Q_var 0) (qa_cons q_str qa_nil (star_of rfl)) (fun h1 h2 h3=>pe_bm PySem.F.plainAttrs_str PySem.F.slot_str_split PySem.F.type_str_split h2 h1 h3)))
     (qs_one (q_ret (q_andV (q_cmp o_le (Q_cb (c_len rfl) (by rfl) T.len PySem.boot_len (qa_cons (Q_var 1) qa_nil (star_of rfl))) (Q_gint (n:=4) (by rfl) T.c_MOST_PARTS) (nomark _)) (q_one (Q_cb (c_all rfl rfl) (by rfl) T.all PyProof.Rows.boot_all (qa_cons (q_comp false ["part"] 1 [] rfl (qi_list rfl (Q_var 1)) (fun _ _ _ _=>(Q_gname (i:=0) (show List.Nodup (["part"]:List Str) from by decide +kernel) rfl (Or.inl rfl))) (fun _ _ _ _=>qts_nil) (fun _ _ _ _=>(Q_call G_is_part D_is_part (hr.mono (by decide)) (by rfl) (qa_cons (Q_var 0) qa_nil (star_of rfl))))) qa_nil (star_of rfl)))))))))),fun ts S Q h=>?_⟩
 obtain ⟨z,rfl,hz,hq⟩:=h
 ac_nf
 . unfold Wm.Wd at hq
   bv_omega
   refine ifB (fun hb=>?_) fun hb=>?_
   . bv_omega
     have hb:=of_decide_eq_true hb
     rw [decide_eq_false (by omega),Bool.false_and] at hq
     exact .mk hq
   . have hb:=of_decide_eq_false hb
     rw [decide_eq_true (by omega),Bool.true_and,Wm.split_scan] at hq
     have hsl:=PyProof.Rows.split_le z " "
     bv_omega
     refine ifB (fun hb=>?_) fun hb=>?_
     . have hb:=of_decide_eq_true hb
       rw [decide_eq_true (by omega),Bool.true_and] at hq
       bv_omega
       refine comp_pure (ls:=Txt.split z " ") T2.T.str (fun p=>some (.bl (Sc.isP (Tm.tl p)))) [] ?_ ?_ (fun x hx u acc N hacc hN=>?_) ?_
       . trivial
       . rw [sizeLine_eq]; omega
       . have hxl:=Tm.split_mem hx
         bv_omega
         exact ⟨hacc,hN _⟩
       . bv_omega
         refine g_allL (bs:=(Txt.split z " ").map fun p=>Sc.isP (Tm.tl p)) (by rw [<- Wm.all_map,List.map_map]; rw [Wm.fm_some]; rfl) ?_
         rw [List.all_map]
         exact .mk hq
     . have hb:=of_decide_eq_false hb
       rw [decide_eq_false (by omega),Bool.false_and] at hq
       exact .mk hq
noncomputable def spWorth:WSp:=fun ts S Q=>∃ (m:Int × Int) (era:Int),ts=[mkT m,.int era] /\ m.2 <= era /\ Q (.int (wrt m era)) S
theorem i_worth {S:Sto} {Q:T->Sto->Prop} {m:Int × Int} {era:Int} (h0:m.2 <= era) (h:Q (.int (wrt m era)) S):spWorth ([mkT m,.int era] ++ []) S Q:=⟨m,era,rfl,h0,h⟩
theorem sc_worth_at:FnScope ["mark","era"] ["mark","era"] (defScope s_worth_at):=⟨rfl,rfl,rfl,by decide +kernel,rfl,by decide +kernel,by decide +kernel⟩
theorem ok_worth {f:Addr} {fd:FuncData} (F:Fun K "worth_at" "worth_at" s_worth_at f fd):FnOk P w K mg base CX0 1 f fd ["mark","era"] (lSp K spWorth):=by
 refine ok_def F sc_worth_at (fun ts S Q h=>?_) fun cdv A outer s H E hr=>?_
 . obtain ⟨m,era,rfl,_⟩:=h; rfl
 have nd:=sc_worth_at.nd
 refine ⟨_,((qs_one (q_ret (q_op o_shr (q_ix rfl (Q_var 0) q_int (fun _ _=>rfl)) (q_op o_sub (Q_var 1) (q_ix rfl (Q_var 0) q_int (fun _ _=>rfl))))))),fun ts S Q h=>?_⟩
 obtain ⟨m,era,rfl,h0,hq⟩:=h
 ac_nf
 unfold mkT
 bv_omega
 exact .mk hq
noncomputable abbrev Ms:=List (Str × Int × Int)
structure Wo (C:Addr) (S:Sto) (p d:Addr) (n:Int) (ms:Ms):Prop where
 ins:S p=some (.ins C [("marks",.ref d),("now",.int n)])
 dct:S d=some (.dK (kt mkT ms))
theorem Wo.ne {S:Sto} {p d:Addr} {n:Int} {ms:Ms} (h:Wo C S p d n ms):p ≠ d:=fun e=>by
 have:=h.ins
 rw [e,h.dct] at this; cases this
theorem Wo.put {S:Sto} {p d:Addr} {n:Int} {ms ms':Ms} (h:Wo C S p d n ms):Wo C (T2.put S d (.dK (kt mkT ms'))) p d n ms':=⟨(put_ne h.ne).trans h.ins,put_same⟩
noncomputable def spInit (C:Addr):WSp:=fun ts S Q=>∃ p,ts=[.ref p] /\ S p=some (.ins C []) /\ ∀ d,S d=none->Q .non (put (put S d (.dK [])) p (.ins C [("marks",.ref d),("now",.int 0)]))
theorem sc_Wood_init:FnScope ["self"] ["self"] (defScope s_Wood_init):=⟨rfl,rfl,rfl,by decide +kernel,rfl,by decide +kernel,by decide +kernel⟩
theorem ok_init {f:Addr} {fd:FuncData} (F:FunD K "__init__" "Wood.__init__" s_Wood_init f fd) (T:Txt K mg C XT XA fi):FnOk P w K mg base CX0 1 f fd ["self"] (lSp K (spInit C)):=by
 refine ok_defD F sc_Wood_init (fun ts S Q h=>?_) fun cdv A outer s H E hr=>?_
 . obtain ⟨p,rfl,_⟩:=h; rfl
 have nd:=sc_Wood_init.nd
 refine ⟨_,((qs_cons (q_sfld rfl T.gm (Q_var 0) q_dnew)
     (qs_one (q_sfld rfl T.gn (Q_var 0) q_int)))),fun ts S Q h=>?_⟩
 obtain ⟨p,rfl,hp,hq⟩:=h
 ac_nf
 bv_omega
 intro d hd
 have hne:p ≠ d:=fun e=>by rw [e,hd] at hp; cases hp
 bv_omega
 refine x_sfld put_same rfl (Nat.le_of_ble_eq_true rfl) ?_
 rw [put_put]
 exact .mk (hq d hd)
noncomputable def spPut (C:Addr):WSp:=fun ts S Q=>∃ p d n ms z c,ts=[.ref p,.str z,.int c] /\ Wo C S p d n ms /\ ms.length <= 100 /\ Wm.Wd z=true /\ look ms z=none /\ Q .non (put S d (.dK (kt mkT (ms ++ [(z,c,n)]))))
theorem sc_Wood_put:FnScope ["self","word","count"] ["self","word","count"] (defScope s_Wood_put):=⟨rfl,rfl,rfl,by decide +kernel,rfl,by decide +kernel,by decide +kernel⟩
theorem ok_put {f f1:Addr} {fd fd1:FuncData} (F:FunD K "put" "Wood.put" s_Wood_put f fd) (T:Txt K mg C XT XA fi) (G_is_word:FnOk P w K mg base CX0 3 f1 fd1 ["thing"] (lSp K spIsWord)) (D_is_word:Df K mg "is_word" f1 fd1 ["thing"]):FnOk P w K mg base CX0 4 f fd ["self","word","count"] (lSp K (spPut C)):=by
 refine ok_defD F sc_Wood_put (fun ts S Q h=>?_) fun cdv A outer s H E hr=>?_
 . obtain ⟨p,d,n,ms,z,m,rfl,_⟩:=h; rfl
 have nd:=sc_Wood_put.nd
 refine ⟨_,((qs_cons (q_if (q_tnot (q_tval (Q_call G_is_word D_is_word (hr.mono (by decide)) (by rfl) (qa_cons (Q_var 1) qa_nil (star_of rfl)))))
      (qs_one q_never)
      qs_nil)
     (qs_cons (q_if (q_tcmp (Q_inD w rfl) (Q_var 1) (Q_fld rfl T.gm (Q_var 0)) (by with_unfolding_all rfl))
      (qs_one q_never)
      qs_nil)
     (qs_one (q_asg (fun h g=>ps_asg h g) (q_tup (qa_cons (Q_var 2) (qa_cons (Q_fld rfl T.gn (Q_var 0)) qa_nil (star_of rfl)) (star_of rfl))) (Q_gsub (Q_fld rfl T.gm (Q_var 0)) (Q_var 1) (p_setD (hu_of hr)) (fun h1 h2 h3=>pg_sub h1 h2 h3))))))),fun ts S Q h=>?_⟩
 obtain ⟨p,d,n,ms,z,c,rfl,⟨hw,hd⟩,hl,hz,hm,hq⟩:=h
 have hv:valT (kt mkT ms) (Sum.inr z)=none:=by rw [val_kt,hm]; rfl
 have hzl:=Wm.wd_len hz
 ac_nf
 bv_omega
 refine ⟨z,rfl,by omega,?_⟩
 rw [hz]
 bv_omega
 refine g_inD hd rfl ?_
 rw [hv]
 simp only [Option.isSome_some,Option.isSome_none,Bool.true_xor,Bool.false_xor,Bool.not_true]
 bv_omega
 refine g_setD hd rfl (by rw [len_kt,sizeLine_eq]; omega) ?_
 rw [show (T2.T.tup [.int c,.int n])=mkT (c,n) from rfl,put_kt,pu_new _ (look_none.mp hm)]
 exact .mk hq
theorem put_back {S:Sto} {a:Addr} {o:O} (h:S a=some o):put S a o=S:=by
 funext b
 by_cases e:b=a
 . subst e; rw [put_same,h]
 . rw [put_ne e]
theorem comp_pure2 {α:Type} {grd:Sto->Prop} {g:WG} {tt:WT} {te:WE} {Q:List T2.T->Sto->Prop} (f:α->T2.T) (φ:α->Option T2.T) (cs:StT) {ls:List α} {S:Sto} (hg:grd S) (hz:ls.length <= sizeLine)
   (step:∀ a ∈ ls,∀ (u v:Option T2.T) (acc:List T2.T) (N:List T2.T->StT->Sto->Prop),acc.length < sizeLine->(∀ u' v',N (acc ++ (φ a).toList) (u' :: v' :: cs) S) ->
     g (f a) (u :: v :: cs) S fun σ2 S2=>tt σ2 S2 fun b S3=>if b=true then te σ2 S3 fun y S4=>acc.length < sizeLine /\ N (acc ++ [y]) σ2 S4 else N acc σ2 S3)
   (done:Q (ls.filterMap φ) S):compT grd g tt te Q (ls.map f) [] (none :: none :: cs) S:=by
 refine comp_rule (fun items acc σ' S'=>∃ pre suf u v,ls=pre ++ suf /\ items=suf.map f /\ acc=pre.filterMap φ /\ σ'=u :: v :: cs /\ S'=S) ⟨[],ls,none,none,rfl,rfl,rfl,rfl,rfl⟩ ?_ ?_
 . rintro t ts acc σ' S' N ⟨pre,suf,u,v,e,e2,rfl,rfl,rfl⟩ hN
   cases suf with
   | nil=>cases e2
   | cons a r =>
     simp only [List.map_cons,List.cons.injEq] at e2
     obtain ⟨rfl,rfl⟩:=e2
     refine ⟨hg,step a (by rw [e]; simp) u v _ N ?_ fun u' v'=>hN _ _ _ ⟨pre ++ [a],r,u',v',by rw [e]; simp,rfl,?_,rfl,rfl⟩⟩
     . have h1:=List.length_filterMap_le φ pre
       have h2:ls.length=pre.length + (r.length + 1):=by rw [e]; simp
       omega
     . rw [List.filterMap_append]; cases h:φ a <;> simp [h]
 . rintro acc σ' S' ⟨pre,suf,u,v,e,e2,rfl,rfl,rfl⟩
   have:suf=[]:=by cases suf with | nil=>rfl | cons _ _=>cases e2
   subst this
   rw [List.append_nil] at e
   subst e
   exact ⟨hg,done⟩
noncomputable def begs (ms:Ms) (b:Str):Ms:=ms.filter fun a=>PySem.Txt.startswith a.1 b
noncomputable def rtd (ms:Ms) (n:Int) (b:Str):List Rt:=(begs ms b).map fun a=>(a.1,wrt a.2 n)
noncomputable def spBegun (C:Addr):WSp:=fun ts S Q=>∃ p d n ms b,ts=[.ref p,.str b] /\ Wo C S p d n ms /\ ms.length <= 100 /\ (∀ a ∈ ms,a.2.2 <= n) /\ Q (.lst ((rtd ms n b).map rt)) S
theorem sc_Wood_begun:FnScope ["self","beginning"] ["self","beginning"] (defScope s_Wood_begun):=⟨rfl,rfl,rfl,by decide +kernel,rfl,by decide +kernel,by decide +kernel⟩
theorem ok_begun {f f1:Addr} {fd fd1:FuncData} (F:FunD K "begun" "Wood.begun" s_Wood_begun f fd) (T:Txt K mg C XT XA fi) (G_worth_at:FnOk P w K mg base CX0 1 f1 fd1 ["mark","era"] (lSp K spWorth)) (D_worth_at:Df K mg "worth_at" f1 fd1 ["mark","era"]):FnOk P w K mg base CX0 2 f fd ["self","beginning"] (lSp K (spBegun C)):=by
 refine ok_defD F sc_Wood_begun (fun ts S Q h=>?_) fun cdv A outer s H E hr=>?_
 . obtain ⟨p,d,n,ms,b,rfl,_⟩:=h; rfl
 have nd:=sc_Wood_begun.nd
 refine ⟨_,((qs_one (q_ret (Q_unE w rfl (q_comp false ["word","mark","self","beginning"] 2 [0,1] rfl (Q_items w rfl rfl (Q_fld rfl T.gm (Q_var 0))) (fun _ _ _ _=>(qg_tup (fun h=>pg_tupK (n:=2) rfl rfl h) (qgs_cons (Q_gname (i:=0) (show List.Nodup (["word","mark","self","beginning"]:List Str) from by decide +kernel) rfl (Or.inl rfl)) (qgs_cons (Q_gname (i:=1) (show List.Nodup (["word","mark","self","beginning"]:List Str) from by decide +kernel) rfl (Or.inl rfl)) qgs_nil (fun h1 h2=>pgs_cons h1 h2)) (fun h1 h2=>pgs_cons h1 h2)))) (fun _ _ _ _=>(qts_one (q_tval (Q_bm rfl PySem.F.plainAttrs_str PySem.F.slot_str_startswith PySem.F.type_str_startswith m_starts (Q_var 0) (qa_cons (Q_var 3) qa_nil (star_of rfl)) (fun h1 h2 h3=>pe_bm PySem.F.plainAttrs_str PySem.F.slot_str_startswith PySem.F.type_str_startswith h2 h1 h3))))) (fun _ _ _ _=>(q_tup (qa_cons (Q_var 0) (qa_cons (Q_call G_worth_at D_worth_at (hr.mono (by decide)) (by rfl) (qa_cons (Q_var 1) (qa_cons (Q_fld rfl T.gn (Q_var 2)) qa_nil (star_of rfl)) (star_of rfl))) qa_nil (star_of rfl)) (star_of rfl))))))))),fun ts S Q h=>?_⟩
 obtain ⟨p,d,n,ms,b,rfl,W,hl,hn,hq⟩:=h
 have hw:=W.ins
 have hd:=W.dct
 have hpd:=W.ne
 ac_nf
 bv_omega
 intro od kvs
 rw [show (kt mkT ms).map pairT=ms.map (fun a=>T2.T.tup [.str a.1,mkT a.2]) by unfold kt; rw [List.map_map]; rfl]
 refine comp_pure2 (fun a:Str × Int × Int=>T2.T.tup [.str a.1,mkT a.2]) (fun a=>if PySem.Txt.startswith a.1 b=true then some (rt (a.1,wrt a.2 n)) else none) [some (.ref p),some (.str b)] put_same (by rw [sizeLine_eq]; omega) (fun a ha u v acc N hacc hN=>?_) ?_
 . have hn1:=hn a ha
   bv_omega
   refine ifB (fun hb=>?_) fun hb=>?_
   . bv_omega
     rw [if_pos hb] at hN
     exact ⟨hacc,hN _ _⟩
   . rw [hb] at hN
     have:=hN (some (.str a.1)) (some (mkT a.2))
     rw [if_neg (by decide),Option.toList_none,List.append_nil] at this
     exact this
 rw [show (ms.filterMap fun a=>if PySem.Txt.startswith a.1 b=true then some (rt (a.1,wrt a.2 n)) else none)=(rtd ms n b).map rt by
   unfold rtd begs
   clear hd hl hn hq W
   induction ms with
   | nil=>rfl
   | cons a l ih =>
     rw [List.filterMap_cons,List.filter_cons]
     by_cases e:PySem.Txt.startswith a.1 b=true
     . rw [if_pos e,if_pos e]; simp only [List.map_cons,ih]
     . rw [if_neg e,if_neg e]; exact ih]
 bv_omega
 refine x_un put_same ?_
 rw [put_put,put_back hd]
 exact .mk hq
noncomputable def kyW (a:Rt):Ky:=.cons (.s a.1) (.cons (.i a.2) .nil)
noncomputable def unW:T2.T->Ky
 | .tup [.str z,.int i]=>.cons (.s z) (.cons (.i i) .nil)
 | _=>.nil
noncomputable def Rise (l:List Rt):Prop:=(l.map (·.1)).Pairwise fun x y=>Ky.lt (.s y) (.s x)=false
theorem begs_all (ms:Ms) (n:Int):rtd ms n ""=ms.map fun a=>(a.1,wrt a.2 n):=by
 unfold rtd begs
 rw [List.filter_eq_self.mpr fun a _=>?_]
 rw [Tm.starts_slice]
 refine decide_eq_true ?_
 have e:=Tm.slice_to a.1 0
 have:Tm.tl (PySem.Txt.slice a.1 none (some 0))=Tm.tl (Str.ofString ""):=by
   rw [show (some (0:Int))=some ((0:Nat):Int) from rfl,e]; rfl
 cases h:PySem.Txt.slice a.1 none (some (((Str.ofString "").length:Nat):Int)) with
 | mk cps =>
   have h2:PySem.Txt.slice a.1 none (some 0)=⟨cps⟩:=h
   rw [h2] at this
   show (⟨cps⟩:Str)=⟨#[]⟩
   congr 1
   exact Array.toList_inj.mp this
noncomputable def spWWords (C:Addr):WSp:=fun ts S Q=>∃ p d n ms,ts=[.ref p] /\ Wo C S p d n ms /\ ms.length < 64 /\ (∀ a ∈ ms,a.2.2 <= n) /\ (ms.map (·.1)).Nodup /\ (∀ a ∈ ms,Wm.Wd a.1=true) /\ ∀ l:List Rt,l.Perm (ms.map fun a=>(a.1,wrt a.2 n))->Rise l->Q (.lst (l.map rt)) S
theorem sc_Wood_words:FnScope ["self"] ["self"] (defScope s_Wood_words):=⟨rfl,rfl,rfl,by decide +kernel,rfl,by decide +kernel,by decide +kernel⟩
theorem ok_wwords {f f2:Addr} {fd fd2:FuncData} (F:FunD K "words" "Wood.words" s_Wood_words f fd) (T:Txt K mg C XT XA fi)
   (G_Wood_begun:FnOk P w K mg base CX0 2 f2 fd2 ["self","beginning"] (lSp K (spBegun C))) (M_Wood_begun:Meth K C "begun" f2) (B_Wood_begun:Binds K fd2 ["self","beginning"] []):FnOk P w K mg base CX0 4 f fd ["self"] (lSp K (spWWords C)):=by
 refine ok_defD F sc_Wood_words (fun ts S Q h=>?_) fun cdv A outer s H E hr=>?_
 . obtain ⟨p,d,n,ms,rfl,_⟩:=h; rfl
 have nd:=sc_Wood_words.nd
 refine ⟨_,((qs_one (q_ret (Q_cb (c_sort false rfl (hr.mono (by decide))) (by rfl) T.sorted PyProof.Rows.boot_sorted (qa_cons (Q_meth (T.gf M_Wood_begun) G_Wood_begun B_Wood_begun (hr.mono (by decide)) (Q_var 0) (qa_cons q_str qa_nil (star_of rfl))) qa_nil (star_of rfl)))))),fun ts S Q h=>?_⟩
 obtain ⟨p,d,n,ms,rfl,W,hl,hn,hnd,hwd,hq⟩:=h
 have hw:=W.ins
 ac_nf
 bv_omega
 refine ⟨p,d,n,ms,_,rfl,W,by omega,hn,?_⟩
 rw [begs_all]
 bv_omega
 refine g_sort (ls:=ms.map fun a=>(a.1,wrt a.2 n)) kyW unW (.cons (.s ⟨#[]⟩) (.cons (.i 0) .nil)) rfl (fun a _=>rfl) (by rw [List.length_map]; omega) rfl (by decide) (fun a ha=>⟨?_,rfl⟩) fun l' hp hs=>?_
 . obtain ⟨x,hx,rfl⟩:=List.mem_map.mp ha
   have:=Wm.wd_ok (hwd x hx)
   simp [kyW,S6.Ky.ok,S6.Ky.ok.isRow,this]
 . refine .mk (hq l' hp ?_)
   have hnd2:(l'.map (·.1)).Nodup:=(hp.map _).nodup_iff.mpr (by rw [List.map_map]; exact hnd)
   unfold Rise
   unfold List.Nodup at hnd2
   rw [List.pairwise_map] at hnd2 ⊢
   refine (hs.and hnd2).imp fun {x y} q=>?_
   have q1:Ky.lt (kyW y) (kyW x)=false:=q.1
   unfold kyW Ky.lt at q1
   rw [if_neg (fun e=>q.2 (Ky.s.inj e).symm)] at q1
   exact q1
noncomputable def spWord:WSp:=fun ts S Q=>∃ p o,ts=[.ref p] /\ S p=some o /\ IsBox o /\ ∀ z o',Wm.Wd z=true->IsBox o'->Q (.str z) (put S p o')
theorem i_word {S:Sto} {Q:T->Sto->Prop} {p:Addr} {o:O} (e:S p=some o) (f:IsBox o) (h:∀ z o',Wm.Wd z=true->IsBox o'->Q (.str z) (put S p o')):spWord ([.ref p] ++ []) S Q:=⟨p,o,rfl,e,f,h⟩
theorem i_wordP {S:Sto} {Q:T->Sto->Prop} {p:Addr} {o:O} (f:IsBox o) (h:∀ z o',Wm.Wd z=true->IsBox o'->Q (.str z) (put S p o')):spWord ([.ref p] ++ []) (put S p o) Q :=
 ⟨p,o,rfl,put_same,f,fun z o' a b=>by rw [put_put]; exact h z o' a b⟩
theorem tl_none {z:Str} (h:Tm.tl z=[]):z="":=by
 obtain ⟨a⟩:=z
 have:a=#[]:=Array.toList_inj.mp h
 rw [this]; rfl
structure Mkw (z:Str) (zs:List Str):Prop where
 pt:∀ y ∈ zs,Sc.isP (Tm.tl y)=true
 eq:Tm.tl z=Tm.joinL [32] (zs.map Tm.tl)
 le:z.length <= 24
theorem Mkw.ne {z:Str} {zs:List Str} (h:Mkw z zs) (hz:z ≠ ""):zs ≠ []:=fun e=>hz (tl_none (by rw [h.eq,e]; rfl))
theorem Mkw.one {y:Str} (h:Sc.isP (Tm.tl y)=true) (hl:y.length <= 24):Mkw y [y]:=⟨by simpa using h,rfl,hl⟩
theorem Mkw.more {z y:Str} {zs:List Str} (h:Mkw z zs) (hz:z ≠ "") (hy:Sc.isP (Tm.tl y)=true) (hl:(z ++ " " ++ y).length <= 24):Mkw (z ++ " " ++ y) (zs ++ [y]):=by
 refine ⟨fun x hx=>?_,?_,hl⟩
 . rcases List.mem_append.mp hx with q | q
   . exact h.pt x q
   . rw [List.mem_singleton.mp q]; exact hy
 . rw [Tm.tl_app,Tm.tl_app,h.eq,List.map_append,List.map_cons,List.map_nil,Wm.join_more _ _ (by simpa using h.ne hz),Tm.blank,List.append_assoc]
   rfl
theorem Mkw.wd {z:Str} {zs:List Str} (h:Mkw z zs) (hn:zs ≠ []) (h4:zs.length <= 4):Wm.Wd z=true:=by
 have:=Wm.wd_join h.pt hn h4
 rw [Tm.tl_join,Tm.blank,<- h.eq] at this
 unfold Wm.Wd
 rw [this,decide_eq_true h.le]; rfl
theorem sc_law_word:FnScope ["_law_box_here","_law_letters","_law_word_here","_law_k","_law_size","_law_part"] ["_law_box_here"] (defScope s_law_word):=⟨rfl,rfl,rfl,by decide +kernel,rfl,by decide +kernel,by decide +kernel⟩
theorem ok_word {f f1:Addr} {fd fd1:FuncData} (F:Fun K "_law_word" "_law_word" s_law_word f fd) (T:Txt K mg C XT XA fi) (G__law_take:FnOk P w K mg base CX0 1 f1 fd1 ["_law_box_here","_law_many"] (lSp K spTake)) (D__law_take:Df K mg "_law_take" f1 fd1 ["_law_box_here","_law_many"]) :
   FnOk P w K mg base CX0 2 f fd ["_law_box_here"] (lSp K spWord):=by
 refine ok_def F sc_law_word (fun ts S Q h=>?_) fun cdv A outer s H E hr=>?_
 . obtain ⟨p,o,rfl,_⟩:=h; rfl
 have nd:=sc_law_word.nd
 refine ⟨_,((qs_cons (q_set (i:=1) nd rfl (Or.inr rfl) (q_ix rfl (q_lst (qa_cons q_str (qa_cons q_str (qa_cons q_str qa_nil (star_of rfl)) (star_of rfl)) (star_of rfl))) (Q_call G__law_take D__law_take (hr.mono (by decide)) (by rfl) (qa_cons (Q_var 0) (qa_cons q_int qa_nil (star_of rfl)) (star_of rfl))) (fun _ _=>rfl)))
     (qs_cons (q_set (i:=2) nd rfl (Or.inl rfl) q_str)
     (qs_cons (q_for PassesOwn.never rfl (qi_range1 (by rfl) T.range (q_ix rfl (q_lst (qa_cons q_int (qa_cons q_int (qa_cons q_int (qa_cons q_int (qa_cons q_int (qa_cons q_int (qa_cons q_int qa_nil (star_of rfl)) (star_of rfl)) (star_of rfl)) (star_of rfl)) (star_of rfl)) (star_of rfl)) (star_of rfl))) (Q_call G__law_take D__law_take (hr.mono (by decide)) (by rfl) (qa_cons (Q_var 0) (qa_cons q_int qa_nil (star_of rfl)) (star_of rfl))) (fun _ _=>rfl))) (Q_gname (i:=3) nd rfl (Or.inl rfl))
      (qs_cons (q_set (i:=4) nd rfl (Or.inl rfl) (q_ix rfl (q_lst (qa_cons q_int (qa_cons q_int (qa_cons q_int (qa_cons q_int (qa_cons q_int (qa_cons q_int (qa_cons q_int qa_nil (star_of rfl)) (star_of rfl)) (star_of rfl)) (star_of rfl)) (star_of rfl)) (star_of rfl)) (star_of rfl))) (Q_call G__law_take D__law_take (hr.mono (by decide)) (by rfl) (qa_cons (Q_var 0) (qa_cons q_int qa_nil (star_of rfl)) (star_of rfl))) (fun _ _=>rfl)))
     (qs_cons (q_set (i:=5) nd rfl (Or.inl rfl) (Q_bm rfl PySem.F.plainAttrs_str PySem.F.slot_str_join PySem.F.type_str_join (m_join rfl) q_str (qa_cons (q_comp false ["_law_j","_law_letters","_law_box_here"] 1 [1,0] rfl (qi_range1 (by rfl) T.range (Q_var 4)) (fun _ _ _ _=>(Q_gname (i:=0) (show List.Nodup (["_law_j","_law_letters","_law_box_here"]:List Str) from by decide +kernel) rfl (Or.inl rfl))) (fun _ _ _ _=>qts_nil) (fun _ _ _ _=>(q_ix rfl (Q_var 1) (Q_call G__law_take D__law_take (hr.mono (by decide)) (by rfl) (qa_cons (Q_var 2) (qa_cons (Q_cb (c_len rfl) (by rfl) T.len PySem.boot_len (qa_cons (Q_var 1) qa_nil (star_of rfl))) qa_nil (star_of rfl)) (star_of rfl))) (fun _ _=>rfl)))) qa_nil (star_of rfl)) (fun h1 h2 h3=>pe_bm PySem.F.plainAttrs_str PySem.F.slot_str_join PySem.F.type_str_join h2 h1 h3)))
     (qs_one (q_if (q_tcmp (o_eq rfl hr.units) (Q_var 2) q_str (nomark _))
      (qs_one (q_set (i:=2) nd rfl (Or.inl rfl) (Q_var 5)))
      (qs_one (q_if (q_tcmp o_le (q_op (o_add false) (q_op (o_add false) (Q_cb (c_len rfl) (by rfl) T.len PySem.boot_len (qa_cons (Q_var 2) qa_nil (star_of rfl))) q_int) (Q_var 4)) q_int (nomark _))
      (qs_one (q_set (i:=2) nd rfl (Or.inl rfl) (q_op (o_add false) (q_op (o_add false) (Q_var 2) q_str) (Q_var 5))))
      qs_nil)))))))
     (qs_one (q_ret (Q_var 2))))))),fun ts S Q h=>?_⟩
 obtain ⟨p,o,rfl,hp,hf,hq⟩:=h
 ac_nf
 bv_omega
 refine g_ixP (fun t=>∃ z:Str,t=.str z /\ 1 <= z.length /\ z.length <= 26 /\ (Tm.tl z).all Sc.isL=true) hr0 ?_ ?_ ?_
 . simpa using hr1
 . intro t ht
   simp only [List.mem_cons,List.not_mem_nil,or_false] at ht
   rcases ht with rfl | rfl | rfl <;> exact ⟨_,rfl,by decide +kernel,by decide +kernel,by decide +kernel⟩
 rintro _ ⟨le,rfl,hle1,hle2,hle3⟩
 bv_omega
 refine g_ixP (fun t=>∃ z:Int,t=.int z /\ 1 <= z /\ z <= 4) hr0 ?_ ?_ ?_
 . simpa using hr1
 . simp
 rintro _ ⟨m,rfl,hm1,hm2⟩
 bv_omega
 refine for_rangeT (fun k σ' S'=>∃ (z:Str) (zs:List Str) (o2:O) (u v q:Option T2.T),Mkw z zs /\ zs.length <= k /\ (1 <= k->zs ≠ []) /\ σ'=[some (.ref p),some (.str le),some (.str z),u,v,q] /\ S'=put S p o2 /\ IsBox o2)
   ⟨"",[],_,none,none,none,⟨by simp,rfl,by decide⟩,Nat.zero_le _,fun h=>absurd h (by decide),rfl,rfl,hbx⟩ ?_ ?_
 . rintro k σ' S' N hk ⟨z,zs,o2,u,v,q,hmk,hzk,hz1,rfl,rfl,hb2⟩ hN
   have hz24:=hmk.le
   refine ⟨trivial,?_⟩
   have hk4:k < 4:=by omega
   bv_omega
   refine g_ixP (fun t=>∃ z:Int,t=.int z /\ 1 <= z /\ z <= 12) hr0 ?_ ?_ ?_
   . simpa using hr1
   . simp
   rintro _ ⟨n,rfl,hn1,hn2⟩
   bv_omega
   refine comp_rule (fun items acc σ' S'=>∃ (ys:List Str) (u:Option T2.T) (o4:O),acc=ys.map T2.T.str /\ (∀ y ∈ ys,∃ c,y=⟨#[c]⟩ /\ Sc.isL c=true) /\ ys.length + items.length=n.toNat /\ σ'=[u,some (.str le),some (.ref p)] /\ S'=put S p o4 /\ IsBox o4)
     ⟨[],none,_,rfl,by simp,by simp [rangeT],rfl,rfl,by assumption⟩ ?_ ?_
   . rintro t ts acc σ' S' N2 ⟨ys,u,o4,rfl,hys,hl,rfl,rfl,hb4⟩ hN2
     simp only [List.length_cons] at hl
     refine ⟨trivial,?_⟩
     bv_omega
     refine ⟨by rw [List.length_map,sizeLine_eq]; omega,hN2 _ _ _ ⟨ys ++ [⟨#[d]⟩],_,_,by simp,?_,by simp; omega,rfl,rfl,by assumption⟩⟩
     intro y hy
     rcases List.mem_append.mp hy with h | h
     . exact hys y h
     . exact ⟨d,List.mem_singleton.mp h,List.all_eq_true.mp hle3 d hd⟩
   . rintro acc σ' S' ⟨ys,u,o4,rfl,hys,hl,rfl,rfl,hb4⟩
     have hl2:ys.length=n.toNat:=by simpa using hl
     have hy1:∀ y ∈ ys,y.length <= 1:=fun y hy=>by obtain ⟨c,rfl,_⟩:=hys y hy; exact Nat.le_refl _
     refine ⟨trivial,?_⟩
     bv_omega
     refine g_joinL (Tm.strs_map ys) (Tm.joinOk (b:=1) hy1 (by rw [Tm.len_empty]; omega)) ?_
     have hj:=Tm.join_le "" (b:=1) ys hy1
     rw [Tm.len_empty] at hj
     have hpt:Sc.isP (Tm.tl (Txt.join "" ys))=true:=Wm.part_of hys (by omega) (by omega)
     have hj12:(Txt.join "" ys).length <= n.toNat:=by omega
     generalize Txt.join "" ys=pt at hj12 hpt
     (bv_omega; repeat' ((with_reducible refine ifB ?_ ?_) <;> (intro hb; (try simp only [Bool.false_xor,Bool.true_xor,Bool.not_eq_true',Bool.not_eq_false',Bool.not_eq_true,Bool.not_eq_false,Bool.not_not,decide_eq_true_eq,decide_eq_false_iff_not,Int.not_lt,Int.not_le,Bool.not_true,Bool.not_false] at hb); bv_omega)))
     . exact hN _ _ ⟨pt,[pt],_,_,_,_,Mkw.one hpt (by omega),by simp,by simp,rfl,rfl,hb4⟩
     . refine hN _ _ ⟨z ++ " " ++ pt,zs ++ [pt],_,_,_,_,Mkw.more hmk (by first | assumption | simpa using hb_1 | simpa using hb) hpt ?_,by simp; omega,by simp,rfl,rfl,hb4⟩
       simp only [PySem.Str.length_append,Tm.len_blank]; omega
     . exact hN _ _ ⟨z,zs,_,_,_,_,hmk,by omega,fun _=>hmk.ne (by first | assumption | simpa using hb_1 | simpa using hb),rfl,rfl,hb4⟩
 . rintro σ' S' ⟨z,zs,o2,u,v,q,hmk,hzk,hz1,rfl,rfl,hb2⟩
   refine ⟨trivial,?_⟩
   bv_omega
   exact .mk (hq _ _ (hmk.wd (hz1 (by omega)) (by omega)) hb2)
noncomputable def Wds (ws:List Str):Prop:=ws.Nodup /\ (∀ z ∈ ws,Wm.Wd z=true)
theorem _root_.T2.Le.of_put {S S':Sto} {l:Addr} {o:O} (h:S l=none) (le:Le (put S l o) S'):Le S S':=(Le.put h).trans le
theorem _root_.T2.Le.at {S S':Sto} {l:Addr} {o:O} (le:Le (put S l o) S'):S' l=some o:=le l o put_same
theorem _root_.T2.Le.new {S S':Sto} {l:Addr} {o:O} (le:Le S S') (h:S' l=none):Le S (put S' l o):=le.trans (Le.put h)
theorem _root_.T2.Le.chg {S S':Sto} {l:Addr} {o:O} (le:Le S S') (h:S l=none):Le S (put S' l o):=fun a u e=>by
 have:a ≠ l:=fun z=>by rw [z,h] at e; cases e
 rw [put_ne this]; exact le a u e
noncomputable def spPool:WSp:=fun ts S Q=>∃ (ns:List Int) (a m:Int),ts=[.scr ns,.int a,.int m] /\ 0 <= a /\ a < 1000 /\ 1 <= m /\ m <= 10 /\ ∀ ws:List Str,Wds ws->1 <= ws.length->ws.length <= 10->Q (.lst (ws.map T.str)) S
theorem sc_law_pool:FnScope ["_law_script","_law_first","_law_most","_law_pool_here","_law_k","_law_word_here"] ["_law_script","_law_first","_law_most"] (defScope s_law_pool):=⟨rfl,rfl,rfl,by decide +kernel,rfl,by decide +kernel,by decide +kernel⟩
theorem ok_pool {f f1 f2:Addr} {fd fd1 fd2:FuncData} (F:Fun K "_law_pool" "_law_pool" s_law_pool f fd) (T:Txt K mg C XT XA fi) (G__law_box:FnOk P w K mg base CX0 2 f1 fd1 ["_law_script","_law_k"] (lSp K spBox)) (D__law_box:Df K mg "_law_box" f1 fd1 ["_law_script","_law_k"])
   (G__law_word:FnOk P w K mg base CX0 2 f2 fd2 ["_law_box_here"] (lSp K spWord)) (D__law_word:Df K mg "_law_word" f2 fd2 ["_law_box_here"]) :
   FnOk P w K mg base CX0 3 f fd ["_law_script","_law_first","_law_most"] (lSp K spPool):=by
 refine ok_def F sc_law_pool (fun ts S Q h=>?_) fun cdv A outer s H E hr=>?_
 . obtain ⟨ns,a,m,rfl,_⟩:=h; rfl
 have nd:=sc_law_pool.nd
 refine ⟨_,((qs_cons (q_set (i:=3) nd rfl (Or.inl rfl) (q_lstT qa_nil))
     (qs_cons (q_for PassesOwn.never rfl (qi_range2 (by rfl) T.range (Q_var 1) (q_op (o_add false) (Q_var 1) (Q_var 2))) (Q_gname (i:=4) nd rfl (Or.inl rfl))
      (qs_cons (q_set (i:=5) nd rfl (Or.inl rfl) (Q_call G__law_word D__law_word (hr.mono (by decide)) (by rfl) (qa_cons (Q_call G__law_box D__law_box (hr.mono (by decide)) (by rfl) (qa_cons (Q_var 0) (qa_cons (Q_var 4) qa_nil (star_of rfl)) (star_of rfl))) qa_nil (star_of rfl))))
     (qs_one (q_if (q_tcmp (o_notin rfl) (Q_var 5) (Q_var 3) (by with_unfolding_all rfl))
      (qs_one (q_expr (Q_bm rfl PySem.F.plainAttrs_list PySem.F.slot_list_append PySem.F.type_list_append m_append (Q_var 3) (qa_cons (Q_var 5) qa_nil (star_of rfl)) (fun h1 h2 h3=>pe_bm PySem.F.plainAttrs_list PySem.F.slot_list_append PySem.F.type_list_append h2 h1 h3))))
      qs_nil))))
     (qs_one (q_ret (Q_var 3)))))),fun ts S Q h=>?_⟩
 obtain ⟨ns,a,m,rfl,ha0,ha1,hm0,hm1,hq⟩:=h
 ac_nf
 bv_omega
 intro l hl0
 bv_omega
 refine for_rangeT (fun k σ' S'=>∃ (ws:List Str) (u v:Option T2.T),Wds ws /\ ws.length <= k /\ (1 <= k->1 <= ws.length) /\ σ'=[some (.scr ns),some (.int a),some (.int m),some (.ref l),u,v] /\ Le (put S l (.lst (ws.map T2.T.str))) S')
   ⟨[],none,none,⟨List.nodup_nil,by simp⟩,Nat.le_refl _,fun h=>absurd h (by decide),rfl,Le.refl⟩ ?_ ?_
 . rintro k σ' S' N hk ⟨ws,u,v,hws,hlen,hne,rfl,le⟩ hN
   refine ⟨trivial,?_⟩
   have hl:=Le.at le
   have hk10:k < 10:=by omega
   bv_omega
   have hlq:l ≠ q:=fun e=>by rw [e,hq0] at hl; cases hl
   bv_omega
   have le2:Le (put S l (.lst (ws.map T2.T.str))) (put S' q o'):=le.new hq0
   refine ifB (fun hb=>?_) fun hb=>?_
   . have hn:z ∉ ws:=by simpa using hb
     bv_omega
     refine g_append ((put_ne hlq).trans hl) (by rw [List.length_map,sizeLine_eq]; omega) ?_
     refine hN _ _ ⟨ws ++ [z],_,_,⟨?_,?_⟩,?_,fun _=>by rw [List.length_append,List.length_singleton]; omega,rfl,?_⟩
     . rw [List.nodup_append]
       exact ⟨hws.1,by simp,fun x hx y hy e=>by rw [List.mem_singleton] at hy; subst hy; subst e; exact hn hx⟩
     . intro y hy
       rcases List.mem_append.mp hy with h | h
       . exact hws.2 y h
       . rw [List.mem_singleton.mp h]; exact hzw
     . rw [List.length_append,List.length_singleton]; omega
     . rw [List.map_append]
       exact Le.put2 (Le.of_put hl0 le2)
   . bv_omega
     exact hN _ _ ⟨ws,_,_,hws,by omega,fun _=>List.length_pos_of_mem (show z ∈ ws by simpa using hb),rfl,le2⟩
 . rintro σ' S' ⟨ws,u,v,hws,hlen,hne,rfl,le⟩
   refine ⟨trivial,?_⟩
   bv_omega
   exact .frz (Le.at le) (Le.of_put hl0 le) hl0 (hq ws hws (hne (by omega)) (by omega))
noncomputable def spCount:WSp:=fun ts S Q=>∃ p o,ts=[.ref p] /\ S p=some o /\ IsBox o /\ ∀ (z:Int) o',0 <= z->z <= 1000000000->IsBox o'->Q (.int z) (put S p o')
theorem i_count {S:Sto} {Q:T->Sto->Prop} {p:Addr} {o:O} (e:S p=some o) (f:IsBox o) (h:∀ (z:Int) o',0 <= z->z <= 1000000000->IsBox o'->Q (.int z) (put S p o')):spCount ([.ref p] ++ []) S Q:=⟨p,o,rfl,e,f,h⟩
theorem i_countP {S:Sto} {Q:T->Sto->Prop} {p:Addr} {o:O} (f:IsBox o) (h:∀ (z:Int) o',0 <= z->z <= 1000000000->IsBox o'->Q (.int z) (put S p o')):spCount ([.ref p] ++ []) (put S p o) Q:=⟨p,o,rfl,put_same,f,fun z o' a b c=>by rw [put_put]; exact h z o' a b c⟩
theorem sc_law_count:FnScope ["_law_box_here"] ["_law_box_here"] (defScope s_law_count):=⟨rfl,rfl,rfl,by decide +kernel,rfl,by decide +kernel,by decide +kernel⟩
theorem ok_count {f f1:Addr} {fd fd1:FuncData} (F:Fun K "_law_count" "_law_count" s_law_count f fd) (G__law_take:FnOk P w K mg base CX0 1 f1 fd1 ["_law_box_here","_law_many"] (lSp K spTake)) (D__law_take:Df K mg "_law_take" f1 fd1 ["_law_box_here","_law_many"]) :
   FnOk P w K mg base CX0 2 f fd ["_law_box_here"] (lSp K spCount):=by
 refine ok_def F sc_law_count (fun ts S Q h=>?_) fun cdv A outer s H E hr=>?_
 . obtain ⟨p,o,rfl,_⟩:=h; rfl
 have nd:=sc_law_count.nd
 refine ⟨_,((qs_one (q_ret (q_ix rfl (q_lst (qa_cons (Q_call G__law_take D__law_take (hr.mono (by decide)) (by rfl) (qa_cons (Q_var 0) (qa_cons q_int qa_nil (star_of rfl)) (star_of rfl))) (qa_cons (Q_call G__law_take D__law_take (hr.mono (by decide)) (by rfl) (qa_cons (Q_var 0) (qa_cons q_int qa_nil (star_of rfl)) (star_of rfl))) (qa_cons (Q_call G__law_take D__law_take (hr.mono (by decide)) (by rfl) (qa_cons (Q_var 0) (qa_cons (q_op (o_add false) (q_op o_pow q_int q_int) q_int) qa_nil (star_of rfl)) (star_of rfl))) qa_nil (star_of rfl)) (star_of rfl)) (star_of rfl))) (Q_call G__law_take D__law_take (hr.mono (by decide)) (by rfl) (qa_cons (Q_var 0) (qa_cons q_int qa_nil (star_of rfl)) (star_of rfl))) (fun _ _=>rfl))))),fun ts S Q h=>?_⟩
 obtain ⟨p,o,rfl,hp,hf,hq⟩:=h
 ac_nf
 bv_omega
 try simp only [Int.reduceToNat,Int.reducePow] at *
 refine g_ixP (fun t=>∃ z:Int,t=.int z /\ 0 <= z /\ z <= 1000000000) hr0 ?_ ?_ ?_
 . simp only [List.length_cons,List.length_nil]; omega
 . intro t ht
   simp only [List.mem_cons,List.not_mem_nil,or_false] at ht
   rcases ht with rfl | rfl | rfl <;> exact ⟨_,rfl,by omega,by omega⟩
 rintro _ ⟨m,rfl,hm1,hm2⟩
 bv_omega
 exact .mk (hq _ _ (by omega) (by omega) hbx)
theorem g_ixA {S:Sto} {Q:T->Sto->Prop} {α:Type} {f:α->T2.T} {ls:List α} {z:α} {i:Int} (e:atI ls i=some z) (h:Q (f z) S):gIx (.lst (ls.map f)) (.int i) S Q:=⟨f z,by show atI (ls.map f) i=_; rw [atI_map,e]; rfl,h⟩
noncomputable def Lv (S:Sto) (t:T2.T) (us:List T2.T):Prop:=t=.lst us \/ ∃ a,t=.ref a /\ S a=some (.lst us)
theorem Lv.ty {S:Sto} {t:T2.T} {us:List T2.T} (h:Lv S t us):tyT S t=some (.type "list"):=by
 rcases h with rfl | ⟨a,rfl,e⟩
 . rfl
 . simp only [tyT,e]
theorem Lv.len {S:Sto} {t:T2.T} {us:List T2.T} {Q:T->Sto->Prop} (h:Lv S t us) (q:Q (.int us.length) S):gLen [t] S Q:=by
 rcases h with rfl | ⟨a,rfl,e⟩
 . exact g_lenL q
 . exact g_lenR e q
theorem Lv.ix {S:Sto} {t:T2.T} {us:List T2.T} {Q:T->Sto->Prop} {i:Int} {u:T2.T} (h:Lv S t us) (e:atI us i=some u) (q:Q u S):gIx t (.int i) S Q:=by
 rcases h with rfl | ⟨a,rfl,ea⟩
 . exact g_ixL e q
 . exact g_ixR ea e q
noncomputable def Eqv (S:Sto):Nat->T2.T->T2.T->Prop
 | 0,_,_=>False
 | n + 1,f,d=>(f=.non /\ d=.non) \/ (∃ x,f=.str x /\ d=.str x) \/ (∃ i,f=.int i /\ d=.int i) \/
     (∃ fs ds,f=.tup fs /\ d=.tup ds /\ fs.length=ds.length /\ ds.length <= 1000 /\ ∀ (i:Nat) a b,fs[i]?=some a->ds[i]?=some b->Eqv S n a b) \/
     ∃ fs ds,Lv S f fs /\ Lv S d ds /\ fs.length=ds.length /\ ds.length <= 1000 /\ ∀ (i:Nat) a b,fs[i]?=some a->ds[i]?=some b->Eqv S n a b
noncomputable def spSame (n:Nat):WSp:=fun ts S Q=>∃ f d,ts=[f,d] /\ Eqv S n f d /\ Q (.bl true) S
theorem sc_law_same:FnScope ["_law_found_here","_law_due_here","_law_kind"] ["_law_found_here","_law_due_here"] (defScope s_law_same):=⟨rfl,rfl,rfl,by decide +kernel,rfl,by decide +kernel,by decide +kernel⟩
theorem ok_same1 {f:Addr} {fd:FuncData} {n:Nat} (F:Fun K "_law_same" "_law_same" s_law_same f fd) (T:Txt K mg C XT XA fi) (G__law_same:FnOk P w K mg base CX0 (n + 1) f fd ["_law_found_here","_law_due_here"] (lSp K (spSame n))) (D__law_same:Df K mg "_law_same" f fd ["_law_found_here","_law_due_here"]) :
   FnOk P w K mg base CX0 (n + 2) f fd ["_law_found_here","_law_due_here"] (lSp K (spSame (n + 1))):=by
 refine ok_def F sc_law_same (fun ts S Q h=>?_) fun cdv A outer s H E hr=>?_
 . obtain ⟨x,y,rfl,_⟩:=h; rfl
 have nd:=sc_law_same.nd
 refine ⟨_,((qs_cons (q_if (q_tval (Q_cb (c_isi2 rfl) (by rfl) T.isinstance PyProof.Rows.boot_isinstance (qa_cons (Q_var 1) (qa_cons (q_tup (qa_cons (Q_ty (n:="tuple") (by rfl) T.tuple PyProof.Rows.boot_tuple) (qa_cons (Q_ty (n:="list") (by rfl) T.list PyProof.Rows.boot_list) qa_nil (star_of rfl)) (star_of rfl))) qa_nil (star_of rfl)) (star_of rfl))))
      (qs_cons (q_set (i:=2) nd rfl (Or.inl rfl) (q_ifE (q_tval (Q_cb (c_isi rfl) (by rfl) T.isinstance PyProof.Rows.boot_isinstance (qa_cons (Q_var 1) (qa_cons (Q_ty (n:="tuple") (by rfl) T.tuple PyProof.Rows.boot_tuple) qa_nil (star_of rfl)) (star_of rfl)))) (Q_cb (c_isi rfl) (by rfl) T.isinstance PyProof.Rows.boot_isinstance (qa_cons (Q_var 0) (qa_cons (Q_ty (n:="tuple") (by rfl) T.tuple PyProof.Rows.boot_tuple) qa_nil (star_of rfl)) (star_of rfl))) (Q_cb (c_isi rfl) (by rfl) T.isinstance PyProof.Rows.boot_isinstance (qa_cons (Q_var 0) (qa_cons (Q_ty (n:="list") (by rfl) T.list PyProof.Rows.boot_list) qa_nil (star_of rfl)) (star_of rfl)))))
     (qs_cons (q_if (q_tW (q_or (q_tnot (q_tval (Q_var 2))) (q_or1 (q_tcmp (o_ne rfl hr.units) (Q_cb (c_len rfl) (by rfl) T.len PySem.boot_len (qa_cons (Q_var 0) qa_nil (star_of rfl))) (Q_cb (c_len rfl) (by rfl) T.len PySem.boot_len (qa_cons (Q_var 1) qa_nil (star_of rfl))) (nomark _)))))
      (qs_one (q_ret q_bl))
      qs_nil)
     (qs_one (q_ret (q_cmp (o_notin rfl) q_bl (q_comp false ["_law_k","_law_found_here","_law_due_here"] 1 [0,1] rfl (qi_range1 (by rfl) T.range (Q_cb (c_len rfl) (by rfl) T.len PySem.boot_len (qa_cons (Q_var 1) qa_nil (star_of rfl)))) (fun _ _ _ _=>(Q_gname (i:=0) (show List.Nodup (["_law_k","_law_found_here","_law_due_here"]:List Str) from by decide +kernel) rfl (Or.inl rfl))) (fun _ _ _ _=>qts_nil) (fun _ _ _ _=>(Q_call G__law_same D__law_same (hr.mono (by omega)) (by rfl) (qa_cons (q_ix rfl (Q_var 1) (Q_var 0) (fun _ _=>rfl)) (qa_cons (q_ix rfl (Q_var 2) (Q_var 0) (fun _ _=>rfl)) qa_nil (star_of rfl)) (star_of rfl))))) (by with_unfolding_all rfl))))))
      qs_nil)
     (qs_cons (q_if (q_tcmp o_is (Q_var 1) q_non (nomark _))
      (qs_one (q_ret (q_cmp o_is (Q_var 0) q_non (nomark _))))
      qs_nil)
     (qs_cons (q_if (q_tval (Q_cb (c_isi rfl) (by rfl) T.isinstance PyProof.Rows.boot_isinstance (qa_cons (Q_var 1) (qa_cons (Q_ty (n:="str") (by rfl) T.str PyProof.Rows.boot_str) qa_nil (star_of rfl)) (star_of rfl))))
      (qs_one (q_ret (q_andV (Q_cb (c_isi rfl) (by rfl) T.isinstance PyProof.Rows.boot_isinstance (qa_cons (Q_var 0) (qa_cons (Q_ty (n:="str") (by rfl) T.str PyProof.Rows.boot_str) qa_nil (star_of rfl)) (star_of rfl))) (q_one (q_cmp (o_eq rfl hr.units) (Q_var 0) (Q_var 1) (nomark _))))))
      qs_nil)
     (qs_cons (q_if (q_tval (Q_cb (c_isi rfl) (by rfl) T.isinstance PyProof.Rows.boot_isinstance (qa_cons (Q_var 1) (qa_cons (Q_ty (n:="bool") (by rfl) T.bool PyProof.Rows.boot_bool) qa_nil (star_of rfl)) (star_of rfl))))
      (qs_one (q_ret (q_andV (Q_cb (c_isi rfl) (by rfl) T.isinstance PyProof.Rows.boot_isinstance (qa_cons (Q_var 0) (qa_cons (Q_ty (n:="bool") (by rfl) T.bool PyProof.Rows.boot_bool) qa_nil (star_of rfl)) (star_of rfl))) (q_one (q_cmp (o_eq rfl hr.units) (Q_var 0) (Q_var 1) (nomark _))))))
      qs_nil)
     (qs_one (q_ret (q_andV (Q_cb (c_isi rfl) (by rfl) T.isinstance PyProof.Rows.boot_isinstance (qa_cons (Q_var 0) (qa_cons (Q_ty (n:="int") (by rfl) T.int PyProof.Rows.boot_int) qa_nil (star_of rfl)) (star_of rfl))) (q_andV (q_notV (Q_cb (c_isi rfl) (by rfl) T.isinstance PyProof.Rows.boot_isinstance (qa_cons (Q_var 0) (qa_cons (Q_ty (n:="bool") (by rfl) T.bool PyProof.Rows.boot_bool) qa_nil (star_of rfl)) (star_of rfl)))) (q_one (q_cmp (o_eq rfl hr.units) (Q_var 0) (Q_var 1) (nomark _)))))))))))),fun ts S Q h=>?_⟩
 obtain ⟨x,y,rfl,he,hq⟩:=h
 rcases he with ⟨rfl,rfl⟩ | ⟨z,rfl,rfl⟩ | ⟨i,rfl,rfl⟩ | ⟨fs,ds,rfl,rfl,hl,h1000,hs⟩ | ⟨fs,ds,hf,hd,hl,h1000,hs⟩
 . simp only [startT,List.map_cons,List.map_nil,List.length_cons,List.length_nil,List.replicate,List.cons_append,List.nil_append,Nat.zero_add,Nat.reduceAdd,Nat.reduceSub]
   bv_omega
   refine ifT ?_
   bv_omega
   exact .mk hq
 . simp only [startT,List.map_cons,List.map_nil,List.length_cons,List.length_nil,List.replicate,List.cons_append,List.nil_append,Nat.zero_add,Nat.reduceAdd,Nat.reduceSub]
   bv_omega
   refine ifF ?_
   bv_omega
   rw [decide_eq_true rfl]
   exact .mk hq
 . simp only [startT,List.map_cons,List.map_nil,List.length_cons,List.length_nil,List.replicate,List.cons_append,List.nil_append,Nat.zero_add,Nat.reduceAdd,Nat.reduceSub]
   bv_omega
   refine ifF ?_
   bv_omega
   rw [decide_eq_true rfl]
   exact .mk hq
 . simp only [startT,List.map_cons,List.map_nil,List.length_cons,List.length_nil,List.replicate,List.cons_append,List.nil_append,Nat.zero_add,Nat.reduceAdd,Nat.reduceSub]
   bv_omega
   rw [hl,decide_eq_true rfl]
   refine ifF ?_
   bv_omega
   refine comp_pure (ls:=List.range ds.length) (fun (k:Nat)=>T2.T.int (0 + k)) (fun _=>some (.bl true)) [some (.tup fs),some (.tup ds)] trivial (by rw [List.length_range,sizeLine_eq]; omega) (fun k hk u acc N hacc hN=>?_) ?_
   . have hk:=List.mem_range.mp hk
     have e0:(0 + (k:Int))=k:=by omega
     have ea:atI fs (0 + (k:Int))=some fs[k]:=by rw [e0]; exact atI_nat (List.getElem?_eq_getElem (by omega))
     have eb:atI ds (0 + (k:Int))=some ds[k]:=by rw [e0]; exact atI_nat (List.getElem?_eq_getElem hk)
     bv_omega
     refine g_ixT ea ?_
     bv_omega
     refine g_ixT eb ?_
     bv_omega
     refine ⟨_,_,rfl,hs k _ _ (List.getElem?_eq_getElem (by omega)) (List.getElem?_eq_getElem hk),?_⟩
     exact ⟨hacc,hN _⟩
   . bv_omega
     refine g_inL rfl (by rw [List.all_eq_true]; intro t ht; obtain ⟨_,_,e⟩:=List.mem_filterMap.mp ht; cases e; rfl) ?_
     have:((List.range ds.length).filterMap fun _=>some (T2.T.bl true)).any (fun y=>eqF y (.bl false))=false:=by
       rw [List.any_eq_false]; intro t ht; obtain ⟨_,_,e⟩:=List.mem_filterMap.mp ht; cases e; simp [eqF]
     rw [this]
     exact .mk hq
 . simp only [startT,List.map_cons,List.map_nil,List.length_cons,List.length_nil,List.replicate,List.cons_append,List.nil_append,Nat.zero_add,Nat.reduceAdd,Nat.reduceSub]
   bv_omega
   refine g_isi2 hd.ty (kit2_f T.lt T.ll) ?_
   bv_omega
   refine g_isi hd.ty T.lt ?_
   bv_omega
   refine g_isi hf.ty T.ll ?_
   bv_omega
   refine hf.len ?_
   bv_omega
   refine hd.len ?_
   bv_omega
   rw [hl,decide_eq_true rfl]
   refine ifF ?_
   bv_omega
   refine hd.len ?_
   bv_omega
   refine comp_pure (ls:=List.range ds.length) (fun (k:Nat)=>T2.T.int (0 + k)) (fun _=>some (.bl true)) [some x,some y] trivial (by rw [List.length_range,sizeLine_eq]; omega) (fun k hk u acc N hacc hN=>?_) ?_
   . have hk:=List.mem_range.mp hk
     have e0:(0 + (k:Int))=k:=by omega
     have ea:atI fs (0 + (k:Int))=some fs[k]:=by rw [e0]; exact atI_nat (List.getElem?_eq_getElem (by omega))
     have eb:atI ds (0 + (k:Int))=some ds[k]:=by rw [e0]; exact atI_nat (List.getElem?_eq_getElem hk)
     bv_omega
     refine hf.ix ea ?_
     bv_omega
     refine hd.ix eb ?_
     bv_omega
     refine ⟨_,_,rfl,hs k _ _ (List.getElem?_eq_getElem (by omega)) (List.getElem?_eq_getElem hk),?_⟩
     exact ⟨hacc,hN _⟩
   . bv_omega
     refine g_inL rfl (by rw [List.all_eq_true]; intro t ht; obtain ⟨_,_,e⟩:=List.mem_filterMap.mp ht; cases e; rfl) ?_
     have:((List.range ds.length).filterMap fun _=>some (T2.T.bl true)).any (fun y=>eqF y (.bl false))=false:=by
       rw [List.any_eq_false]; intro t ht; obtain ⟨_,_,e⟩:=List.mem_filterMap.mp ht; cases e; simp [eqF]
     rw [this]
     exact .mk hq
theorem ok_same {f:Addr} {fd:FuncData} (F:Fun K "_law_same" "_law_same" s_law_same f fd) (T:Txt K mg C XT XA fi) (D:Df K mg "_law_same" f fd ["_law_found_here","_law_due_here"]):∀ n,FnOk P w K mg base CX0 (n + 1) f fd ["_law_found_here","_law_due_here"] (lSp K (spSame n))
 | 0=>⟨fun vs H Q E h=>by obtain ⟨_,_,_,_,_,⟨_,_,_,h,_⟩,_⟩:=h; exact h.elim,fun A o s H args us vs Q E _ _ _ _ h=>by obtain ⟨_,_,_,_,_,⟨_,_,_,h,_⟩,_⟩:=h; exact h.elim⟩
 | n + 1=>ok_same1 F T (ok_same F T D n) D
noncomputable def rd (l:List Rt):Ms:=l.map fun a=>(a.1,a.2,0)
noncomputable def isF (c:Nat):Bool:=decide (48 <= c) && decide (c <= 57)
theorem fig_eq (c:Nat):(!T2.ltS ⟨#[c]⟩ "0" && !T2.ltS "9" ⟨#[c]⟩)=isF c:=by
 have e1:T2.ltS ⟨#[c]⟩ (Str.ofString "0")=decide (c < 48):=Wm.lt_one c 48
 have e2:T2.ltS (Str.ofString "9") ⟨#[c]⟩=decide (57 < c):=Wm.lt_one 57 c
 rw [e1,e2]
 unfold isF
 rw [Bool.eq_iff_iff]
 simp only [Bool.and_eq_true,Bool.not_eq_true',decide_eq_false_iff_not,decide_eq_true_eq]
 omega
theorem mem_fig (c:Nat):decide (c ∈ [48,49,50,51,52,53,54,55,56,57])=isF c:=by
 have lo:∀ c < 58,decide (c ∈ [48,49,50,51,52,53,54,55,56,57])=isF c:=by decide +kernel
 by_cases h:c < 58
 . exact lo c h
 . have hi:∀ x ∈ [48,49,50,51,52,53,54,55,56,57],x < 58:=by decide +kernel
   rw [decide_eq_false fun q=>h (hi c q)]
   unfold isF
   rw [decide_eq_false (p:=c <= 57) fun q=>h (Nat.lt_succ_of_le q),Bool.and_false]
theorem in_fig (c:Nat):(!(Builtin.Str.occurrences ("0123456789":Str) ⟨#[c]⟩ 0 ("0123456789":Str).length 1).isEmpty)=isF c:=by
 rw [PySem.StrLaws.found_one,show ("0123456789":Str).cps.toList=[48,49,50,51,52,53,54,55,56,57] by decide +kernel,mem_fig]
noncomputable def nbB (x:Str):Bool:=decide (1 <= x.length) && decide (x.length <= 15) && (Tm.tl x).all isF && (decide (x="0") || !decide ((Tm.tl x)[0]?=some 48))
noncomputable def vl (x:Str):Int:=(NumText.digitsVal (Tm.tl x):Nat)
theorem nb_reads {x:Str} (h:nbB x=true):PySem.intText? x=some (vl x):=by
 unfold nbB at h
 simp only [Bool.and_eq_true,decide_eq_true_eq,List.all_eq_true] at h
 obtain ⟨⟨⟨h1,h2⟩,h3⟩,_⟩:=h
 refine PySem.intText_digits (x:=x) (fun c hc=>?_) (fun e=>?_) (by omega)
 . have:=h3 c hc
   unfold isF at this
   simp only [Bool.and_eq_true,decide_eq_true_eq] at this
   exact this
 . rw [<- Tm.len] at h1
   rw [show Tm.tl x=[] from e] at h1
   simp at h1
noncomputable def oc (x:Str):List Nat:=Builtin.Str.occurrences x " " 0 x.length 1
noncomputable def bef (x:Str) (i:Nat):Str:=Txt.slice x none (some (i:Int))
noncomputable def aft (x:Str) (i:Nat):Str:=Txt.slice x (some ((i + 1:Nat):Int)) none
theorem find0 {x:Str} (h:oc x=[]):Txt.find x " "=-1:=by
 unfold Txt.find; rw [show Builtin.Str.occurrences x " " 0 x.length 1=[] from h]
theorem find1 {x:Str} {i:Nat} {l:List Nat} (h:oc x=i :: l):Txt.find x " "=i:=by
 unfold Txt.find; rw [show Builtin.Str.occurrences x " " 0 x.length 1=i :: l from h]
theorem part0 {x:Str} (h:oc x=[]):Txt.partition x " "=(x,Str.empty,Str.empty):=by
 unfold Txt.partition; rw [show Builtin.Str.occurrences x " " 0 x.length 1=[] from h]
theorem part1 {x:Str} {i:Nat} {l:List Nat} (h:oc x=i :: l):Txt.partition x " "=(bef x i,(Str.ofString " "),aft x i):=by
 unfold Txt.partition; rw [show Builtin.Str.occurrences x " " 0 x.length 1=i :: l from h]
 have e1:Builtin.Str.strSub x 0 i=bef x i:=Tm.ext (by
   unfold bef
   rw [Tm.slice_to]
   have:=StrLaws.strSub_toList x 0 i
   simpa [Tm.tl] using this)
 have e2:Builtin.Str.strSub x (i + (Str.ofString " ").length) x.length=aft x i:=Tm.ext (by
   unfold aft
   rw [Tm.slice_from]
   have:=StrLaws.strSub_toList x (i + 1) x.length
   have el:x.length=x.cps.toList.length:=(Tm.len x).symm
   rw [show i + (Str.ofString " ").length=i + 1 from rfl]
   show (Builtin.Str.strSub x (i + 1) x.length).cps.toList=x.cps.toList.drop (i + 1)
   rw [this,el]
   exact List.take_of_length_le (by rw [List.length_drop]; exact Nat.le_refl _))
 show (Builtin.Str.strSub x 0 i,(Str.ofString " "),Builtin.Str.strSub x (i + (Str.ofString " ").length) x.length)=_
 rw [e1,e2]
theorem bef_len (x:Str) (i:Nat):(bef x i).length <= x.length:=by
 unfold bef; rw [<- Tm.len,<- Tm.len,Tm.slice_to,List.length_take]; omega
theorem aft_len (x:Str) (i:Nat):(aft x i).length <= x.length:=by
 unfold aft; rw [<- Tm.len,<- Tm.len,Tm.slice_from,List.length_drop]; omega
noncomputable def ro (x:Str):Option Rt:=match oc x with
 | []=>none
 | i :: _=>if nbB (bef x i) && Wm.Wd (aft x i) then some (aft x i,vl (bef x i)) else none
theorem ro0 {x:Str} (h:oc x=[]):ro x=none:=by unfold ro; rw [h]
theorem ro1 {x:Str} {i:Nat} {l:List Nat} (h:oc x=i :: l):ro x=if nbB (bef x i) && Wm.Wd (aft x i) then some (aft x i,vl (bef x i)) else none:=by unfold ro; rw [h]
theorem ro_wd {x:Str} {p:Rt} (h:ro x=some p):Wm.Wd p.1=true:=by
 cases q:oc x with
 | nil=>rw [ro0 q] at h; cases h
 | cons i l =>
   rw [ro1 q] at h
   cases hc:nbB (bef x i) && Wm.Wd (aft x i) with
   | true =>
     rw [hc,if_pos rfl] at h
     cases h
     exact (Bool.and_eq_true_iff.mp hc).2
   | false=>rw [hc] at h; simp at h
noncomputable def du:Str->Nat->List Str->Sum Nat (List Rt)
 | _,_,[]=>.inr []
 | last,k,x :: xs=>match ro x with
   | none=>.inl k
   | some p=>if T2.ltS last p.1 then (match du p.1 (k + 1) xs with
     | .inl r=>.inl r
     | .inr l=>.inr (p :: l)) else .inl k
theorem du_nil (last:Str) (k:Nat):du last k []=.inr []:=rfl
theorem du_none {last x:Str} {k:Nat} {xs:List Str} (h:ro x=none):du last k (x :: xs)=.inl k:=by
 show (match ro x with | none=>_ | some p=>_)=_
 rw [h]
theorem du_le {last x:Str} {k:Nat} {xs:List Str} {p:Rt} (h:ro x=some p) (h2:T2.ltS last p.1=false):du last k (x :: xs)=.inl k:=by
 show (match ro x with | none=>_ | some p=>_)=_
 rw [h]
 dsimp only
 rw [h2,if_neg (by decide)]
theorem du_some {last x:Str} {k:Nat} {xs:List Str} {p:Rt} (h:ro x=some p) (h2:T2.ltS last p.1=true):du last k (x :: xs)=(match du p.1 (k + 1) xs with | .inl r=>.inl r | .inr l=>.inr (p :: l)):=by
 show (match ro x with | none=>_ | some p=>_)=_
 rw [h]
 dsimp only
 rw [h2,if_pos rfl]
theorem du_r {last x:Str} {k r:Nat} {xs:List Str} {p:Rt} (h:ro x=some p) (h2:T2.ltS last p.1=true) (e:du last k (x :: xs)=.inl r):du p.1 (k + 1) xs=.inl r:=by
 rw [du_some h h2] at e
 cases q:du p.1 (k + 1) xs with
 | inl r'=>rw [q] at e; cases e; rfl
 | inr l=>rw [q] at e; cases e
theorem du_l {last x:Str} {k:Nat} {xs:List Str} {l:List Rt} (e:du last k (x :: xs)=.inr l):∃ p l',ro x=some p /\ T2.ltS last p.1=true /\ l=p :: l' /\ du p.1 (k + 1) xs=.inr l':=by
 cases h:ro x with
 | none=>rw [du_none h] at e; cases e
 | some p =>
   cases h2:T2.ltS last p.1 with
   | false=>rw [du_le h h2] at e; cases e
   | true =>
     rw [du_some h h2] at e
     cases q:du p.1 (k + 1) xs with
     | inl r'=>rw [q] at e; cases e
     | inr l'=>rw [q] at e; cases e; exact ⟨p,l',rfl,h2,rfl,q⟩
theorem ltS_ne {x y:Str} (h:T2.ltS x y=true):x ≠ y:=fun e=>by
 subst e
 have:T2.ltS x x=false:=Ky.irr (.s x)
 rw [this] at h; cases h
theorem lt_empty {z:Str} (h:1 <= z.length):T2.ltS "" z=true:=by
 unfold T2.ltS
 refine decide_eq_true ?_
 cases q:z.cps.toList with
 | nil=>rw [<- Tm.len] at h; rw [show Tm.tl z=[] from q] at h; simp at h
 | cons c r=>show ([]:List Nat) < c :: r; exact List.nil_lt_cons _ _
theorem i_iE {σ:StT} {S:Sto} {wa:WE} {R:Src->Sto->Prop} (h:wa σ S fun x S1=>∃ ts,viewL S1 x=some ts /\ R ⟨enumT ts,liveOk x ts⟩ S1):wiE wa σ S R:=h
noncomputable def spFigure:WSp:=fun ts S Q=>∃ c:Nat,ts=[.str ⟨#[c]⟩] /\ Q (.bl (isF c)) S
theorem i_figure {S:Sto} {Q:T->Sto->Prop} {c:Nat} (h:Q (.bl (isF c)) S):spFigure ([.str ⟨#[c]⟩] ++ []) S Q:=⟨c,rfl,h⟩
theorem sc_is_figure:FnScope ["sign"] ["sign"] (defScope s_is_figure):=⟨rfl,rfl,rfl,by decide +kernel,rfl,by decide +kernel,by decide +kernel⟩
theorem ok_figure {f:Addr} {fd:FuncData} (F:Fun K "is_figure" "is_figure" s_is_figure f fd):FnOk P w K mg base CX0 1 f fd ["sign"] (lSp K spFigure):=by
 refine ok_def F sc_is_figure (fun ts S Q h=>?_) fun cdv A outer s H E hr=>?_
 . obtain ⟨c,rfl,_⟩:=h; rfl
 have nd:=sc_is_figure.nd
 refine ⟨_,((qs_one (q_ret (q_chain o_le o_le q_str (Q_var 0) q_str)))),fun ts S Q h=>?_⟩
 obtain ⟨c,rfl,hq⟩:=h
 rw [<- fig_eq] at hq
 ac_nf
 bv_omega
 refine ifB (fun hb=>?_) fun hb=>?_
 . bv_omega
   rw [hb,Bool.true_and] at hq
   exact .mk hq
 . rw [hb,Bool.false_and] at hq
   exact .mk hq
noncomputable def nbT (x:Str):T2.T:=if nbB x then .int (vl x) else .non
noncomputable def spNumber:WSp:=fun ts S Q=>∃ x:Str,ts=[.str x,.int 15] /\ x.length <= 1000 /\ Q (nbT x) S
theorem i_number {S:Sto} {Q:T->Sto->Prop} {x:Str} (h0:x.length <= 1000) (h:Q (nbT x) S):spNumber ([.str x,.int 15] ++ []) S Q:=⟨x,rfl,h0,h⟩
theorem sc_number_of:FnScope ["text","most_figures"] ["text","most_figures"] (defScope s_number_of):=⟨rfl,rfl,rfl,by decide +kernel,rfl,by decide +kernel,by decide +kernel⟩
theorem ok_number {f f1:Addr} {fd fd1:FuncData} (F:Fun K "number_of" "number_of" s_number_of f fd) (T:Txt K mg C XT XA fi) (G_is_figure:FnOk P w K mg base CX0 1 f1 fd1 ["sign"] (lSp K spFigure)) (D_is_figure:Df K mg "is_figure" f1 fd1 ["sign"]) :
   FnOk P w K mg base CX0 2 f fd ["text","most_figures"] (lSp K spNumber):=by
 refine ok_def F sc_number_of (fun ts S Q h=>?_) fun cdv A outer s H E hr=>?_
 . obtain ⟨n,rfl,_⟩:=h; rfl
 have nd:=sc_number_of.nd
 refine ⟨_,((qs_cons (q_if (q_tW (q_or (q_tnot (q_tchain o_le o_le q_int (Q_cb (c_len rfl) (by rfl) T.len PySem.boot_len (qa_cons (Q_var 0) qa_nil (star_of rfl))) (Q_var 1))) (q_or1 (q_tnot (q_tval (Q_cb (c_all rfl rfl) (by rfl) T.all PyProof.Rows.boot_all (qa_cons (q_comp false ["sign"] 1 [] rfl (qi_str (Q_var 0)) (fun _ _ _ _=>(Q_gname (i:=0) (show List.Nodup (["sign"]:List Str) from by decide +kernel) rfl (Or.inl rfl))) (fun _ _ _ _=>qts_nil) (fun _ _ _ _=>(Q_call G_is_figure D_is_figure (hr.mono (by decide)) (by rfl) (qa_cons (Q_var 0) qa_nil (star_of rfl))))) qa_nil (star_of rfl))))))))
      (qs_one (q_ret q_non))
      qs_nil)
     (qs_cons (q_if (q_tW (q_and (q_tcmp (o_eq rfl hr.units) (q_ix rfl (Q_var 0) q_int (fun _ _=>rfl)) q_str (nomark _)) (q_and1 (q_tcmp (o_ne rfl hr.units) (Q_var 0) q_str (nomark _)))))
      (qs_one (q_ret q_non))
      qs_nil)
     (qs_one (q_ret (Q_cty c_intT (by rfl) T.int PyProof.Rows.boot_int (qa_cons (Q_var 0) qa_nil (star_of rfl)))))))),fun ts S Q h=>?_⟩
 obtain ⟨x,rfl,hx,hq⟩:=h
 have bad:nbB x=false->Q .non S:=fun e=>by unfold nbT at hq; rw [e] at hq; exact hq
 ac_nf
 refine i_mid (fun σ' S'=>σ'=[some (.str x),some (.int 15)] /\ S'=S /\ 1 <= x.length /\ x.length <= 15 /\ (Tm.tl x).all isF=true) ?_ ?_
 . intro X hX
   bv_omega
   by_cases h1:(1:Int) <= x.length
   . rw [decide_eq_true h1]
     bv_omega
     by_cases h2:(x.length:Int) <= 15
     . rw [decide_eq_true h2]
       bv_omega
       refine comp_pure (ls:=Tm.tl x) (fun c=>T2.T.str ⟨#[c]⟩) (fun c=>some (.bl (isF c))) [] ?_ ?_ (fun c hc u acc N hacc hN=>?_) ?_
       . trivial
       . rw [Tm.len,sizeLine_eq]; omega
       . bv_omega
         refine i_figure ?_
         exact ⟨hacc,hN _⟩
       . bv_omega
         refine g_allL (bs:=(Tm.tl x).map isF) (by rw [<- Wm.all_map,List.map_map,Wm.fm_some]; rfl) ?_
         rw [List.all_map,show (id ∘ isF)=isF from rfl]
         cases hf:(Tm.tl x).all isF with
         | true =>
           bv_omega
           exact hX _ _ ⟨rfl,rfl,by omega,by omega,hf⟩
         | false =>
           bv_omega
           exact .mk (bad (by unfold nbB; rw [hf,Bool.and_false,Bool.false_and]))
     . rw [decide_eq_false h2]
       bv_omega
       exact .mk (bad (by unfold nbB; rw [decide_eq_false (p:=x.length <= 15) (by omega),Bool.and_false,Bool.false_and,Bool.false_and]))
   . rw [decide_eq_false h1]
     bv_omega
     exact .mk (bad (by unfold nbB; rw [decide_eq_false (p:=1 <= x.length) (by omega),Bool.false_and,Bool.false_and,Bool.false_and]))
 rintro σ' S' ⟨rfl,rfl,hl1,hl15,hf⟩
 have nbe:nbB x=(decide (x="0") || !decide ((Tm.tl x)[0]?=some 48)):=by
   unfold nbB; rw [decide_eq_true hl1,decide_eq_true hl15,hf,Bool.true_and,Bool.true_and,Bool.true_and]
 refine i_mid (fun σ' S2=>σ'=[some (.str x),some (.int 15)] /\ S2=S' /\ nbB x=true) ?_ ?_
 . intro X hX
   bv_omega
   have ed2:(Tm.tl x)[0]?=some d:=by
     have ed2:atI (Tm.tl x) 0=some d:=ed
     cases q:Tm.tl x with
     | nil=>rw [q] at ed2; simp [atI,ixN] at ed2
     | cons c r=>rw [q] at ed2; simpa [atI,ixN] using ed2
   refine ifB (fun hb=>?_) fun hb=>?_
   . have hd0:(⟨#[d]⟩:Str)="0":=by simpa using hb
     have hd48:d=48:=by
       have:=congrArg Tm.tl hd0
       have:[d]=[48]:=this
       simpa using this
     subst hd48
     bv_omega
     by_cases hx0:x="0"
     . rw [decide_eq_true hx0]
       bv_omega
       exact hX _ _ ⟨rfl,rfl,by rw [nbe,decide_eq_true hx0,Bool.true_or]⟩
     . rw [decide_eq_false hx0]
       bv_omega
       exact .mk (bad (by rw [nbe,decide_eq_false hx0,decide_eq_true ed2]; rfl))
   . bv_omega
     have hd48:d ≠ 48:=fun e=>by
       subst e
       have:(⟨#[48]⟩:Str)="0":=by decide +kernel
       simp [this] at hb
     exact hX _ _ ⟨rfl,rfl,by rw [nbe,decide_eq_false (p:=(Tm.tl x)[0]?=some 48) (fun z=>hd48 (by rw [ed2] at z; exact Option.some.inj z)),Bool.not_false,Bool.or_true]⟩
 rintro σ' S2 ⟨rfl,rfl,hnb⟩
 bv_omega
 refine g_intT (nb_reads hnb) (by omega) ?_
 unfold nbT at hq
 rw [hnb] at hq
 exact .mk hq
noncomputable def roT (x:Str):T2.T:=match ro x with
 | none=>.non
 | some p=>rt p
theorem roT0 {x:Str} (h:ro x=none):roT x=.non:=by unfold roT; rw [h]
theorem roT1 {x:Str} {p:Rt} (h:ro x=some p):roT x=rt p:=by unfold roT; rw [h]
noncomputable def spRatedOf:WSp:=fun ts S Q=>∃ x:Str,ts=[.str x] /\ x.length <= 1000 /\ Q (roT x) S
theorem i_ratedof {S:Sto} {Q:T->Sto->Prop} {x:Str} (h0:x.length <= 1000) (h:Q (roT x) S):spRatedOf ([.str x] ++ []) S Q:=⟨x,rfl,h0,h⟩
theorem sc_rated_of:FnScope ["text","sides","count"] ["text"] (defScope s_rated_of):=⟨rfl,rfl,rfl,by decide +kernel,rfl,by decide +kernel,by decide +kernel⟩
theorem ok_ratedof {f f1 f2:Addr} {fd fd1 fd2:FuncData} (F:Fun K "rated_of" "rated_of" s_rated_of f fd) (T:Txt K mg C XT XA fi) (G_number_of:FnOk P w K mg base CX0 2 f1 fd1 ["text","most_figures"] (lSp K spNumber)) (D_number_of:Df K mg "number_of" f1 fd1 ["text","most_figures"])
   (G_is_word:FnOk P w K mg base CX0 3 f2 fd2 ["thing"] (lSp K spIsWord)) (D_is_word:Df K mg "is_word" f2 fd2 ["thing"]):FnOk P w K mg base CX0 4 f fd ["text"] (lSp K spRatedOf):=by
 refine ok_def F sc_rated_of (fun ts S Q h=>?_) fun cdv A outer s H E hr=>?_
 . obtain ⟨x,rfl,_⟩:=h; rfl
 have nd:=sc_rated_of.nd
 refine ⟨_,((qs_cons (q_set (i:=1) nd rfl (Or.inl rfl) (Q_bm rfl PySem.F.plainAttrs_str PySem.F.slot_str_partition PySem.F.type_str_partition m_part (Q_var 0) (qa_cons q_str qa_nil (star_of rfl)) (fun h1 h2 h3=>pe_bm PySem.F.plainAttrs_str PySem.F.slot_str_partition PySem.F.type_str_partition h2 h1 h3)))
     (qs_cons (q_set (i:=2) nd rfl (Or.inl rfl) (Q_call G_number_of D_number_of (hr.mono (by decide)) (by rfl) (qa_cons (q_ix rfl (Q_var 1) q_int (fun _ _=>rfl)) (qa_cons (Q_gint (n:=15) (by rfl) T.c_MOST_FIGURES) qa_nil (star_of rfl)) (star_of rfl))))
     (qs_cons (q_if (q_tW (q_or (q_tcmp o_is (Q_var 2) q_non (nomark _)) (q_or1 (q_tnot (q_tval (Q_call G_is_word D_is_word (hr.mono (by decide)) (by rfl) (qa_cons (q_ix rfl (Q_var 1) q_int (fun _ _=>rfl)) qa_nil (star_of rfl))))))))
      (qs_one (q_ret q_non))
      qs_nil)
     (qs_one (q_ret (q_tup (qa_cons (q_ix rfl (Q_var 1) q_int (fun _ _=>rfl)) (qa_cons (Q_var 2) qa_nil (star_of rfl)) (star_of rfl))))))))),fun ts S Q h=>?_⟩
 obtain ⟨x,rfl,hx,hq⟩:=h
 ac_nf
 bv_omega
 have key:∃ a m b,Txt.partition x " "=(a,m,b) /\ a.length <= 1000 /\ b.length <= 1000 /\ roT x=if nbB a && Wm.Wd b then rt (b,vl a) else .non:=by
   cases q:oc x with
   | nil=>exact ⟨_,_,_,part0 q,hx,by decide,by rw [roT0 (ro0 q),show Wm.Wd Str.empty=false by decide +kernel,Bool.and_false]; rfl⟩
   | cons i l =>
     refine ⟨_,_,_,part1 q,Nat.le_trans (bef_len x i) hx,Nat.le_trans (aft_len x i) hx,?_⟩
     cases hc:nbB (bef x i) && Wm.Wd (aft x i) with
     | true=>rw [roT1 (p:=(aft x i,vl (bef x i))) (by rw [ro1 q,hc]; rfl)]; rfl
     | false=>rw [roT0 (by rw [ro1 q,hc]; rfl)]; rfl
 obtain ⟨a,m,b,e,ha,hb2,er⟩:=key
 rw [er] at hq
 rw [e]
 dsimp only
 bv_omega
 refine i_number ha ?_
 unfold nbT
 cases hnb:nbB a with
 | false =>
   rw [hnb] at hq
   bv_omega
   exact .mk hq
 | true =>
   rw [hnb] at hq
   bv_omega
   refine ifF ?_
   bv_omega
   refine ⟨b,rfl,hb2,?_⟩
   cases hw:Wm.Wd b with
   | true =>
     rw [hw] at hq
     bv_omega
     exact .mk hq
   | false =>
     rw [hw] at hq
     bv_omega
     exact .mk hq
theorem ltS_tr {x y z:Str} (h:T2.ltS x y=true) (h2:T2.ltS y z=true):T2.ltS x z=true:=Ky.trans (x:=.s x) (y:=.s y) (z:=.s z) rfl rfl h h2
theorem ltS_as {x y:Str} (h:T2.ltS x y=true):T2.ltS y x=false:=by
 cases q:T2.ltS y x with
 | false=>rfl
 | true =>
   have z:=ltS_tr h q
   rw [show T2.ltS x x=false from Ky.irr (.s x)] at z; cases z
theorem du_up:∀ {xs:List Str} {last:Str} {k:Nat} {l:List Rt},du last k xs=.inr l->((l.map (·.1)).Pairwise fun x y=>T2.ltS x y=true) /\ (∀ a ∈ l,T2.ltS last a.1=true /\ Wm.Wd a.1=true) /\ l.length=xs.length:=by
 intro xs
 induction xs with
 | nil=>intro last k l h; cases h; exact ⟨.nil,by simp,rfl⟩
 | cons x xs ih =>
   intro last k l h
   obtain ⟨p,l',hr,hlt,rfl,h2⟩:=du_l h
   obtain ⟨i1,i2,i3⟩:=ih h2
   refine ⟨by rw [List.map_cons]; exact .cons (fun b hb=>by obtain ⟨a,ha,rfl⟩:=List.mem_map.mp hb; exact (i2 a ha).1) i1,fun a ha=>?_,by rw [List.length_cons,List.length_cons,i3]⟩
   rcases List.mem_cons.mp ha with rfl | ha
   . exact ⟨hlt,ro_wd hr⟩
   . exact ⟨ltS_tr hlt (i2 a ha).1,(i2 a ha).2⟩
structure Acc (last:Str) (acc:List Rt) (k:Nat):Prop where
 le:∀ a ∈ acc,a.1=last \/ T2.ltS a.1 last=true
 len:acc.length=k
theorem Acc.nin {last:Str} {acc:List Rt} {k:Nat} {z:Str} (h:Acc last acc k) (hz:T2.ltS last z=true):look (rd acc) z=none:=by
 rw [As.look_none]
 unfold rd
 rw [List.map_map]
 intro q
 obtain ⟨a,ha,e⟩:=List.mem_map.mp q
 have e:a.1=z:=e
 rcases h.le a ha with q2 | q2
 . exact ltS_ne hz (by rw [<- q2,e])
 . exact ltS_ne (ltS_tr q2 hz) e
theorem Acc.snoc {last:Str} {acc:List Rt} {k:Nat} {p:Rt} (h:Acc last acc k) (hz:T2.ltS last p.1=true):Acc p.1 (acc ++ [p]) (k + 1):=by
 refine ⟨fun a ha=>?_,by rw [List.length_append,h.len]; rfl⟩
 rcases List.mem_append.mp ha with ha | ha
 . rcases h.le a ha with q2 | q2
   . exact .inr (by rw [q2]; exact hz)
   . exact .inr (ltS_tr q2 hz)
 . exact .inl (by rw [List.mem_singleton.mp ha])
noncomputable def spNInit (XT:Addr):WSp:=fun ts S Q=>∃ a n,ts=[.ref a,.int n] /\ S a=some (.exc XT []) /\ 0 <= n /\ n < 10 ^ 60 + 1 /\ Q .non (put S a (.exc XT [("row",.int n)]))
theorem log_ok {n:Int} (h0:0 <= n) (h1:n < 10 ^ 60 + 1):n.natAbs.log2 < 1920:=by
 have:n.natAbs < 10 ^ 60 + 1:=by omega
 by_cases hz:n.natAbs=0
 . rw [hz]; decide
 . exact (Nat.log2_lt hz).mpr (Nat.lt_of_lt_of_le this (by decide))
theorem sc_NoText_init:FnScope ["self","row"] ["self","row"] (defScope s_NoText_init):=⟨rfl,rfl,rfl,by decide +kernel,rfl,by decide +kernel,by decide +kernel⟩
theorem ok_ninit {f:Addr} {fd:FuncData} (F:FunD K "__init__" "NoText.__init__" s_NoText_init f fd) (T:Txt K mg C XT XA fi):FnOk P w K mg base CX0 1 f fd ["self","row"] (lSp K (spNInit XT)):=by
 refine ok_defD F sc_NoText_init (fun ts S Q h=>?_) fun cdv A outer s H E hr=>?_
 . obtain ⟨a,n,rfl,_⟩:=h; rfl
 have nd:=sc_NoText_init.nd
 refine ⟨_,((qs_cons (q_expr (Q_xinit rfl (by rfl) T.mg_AheadError T.sp T.rd T.fc (qa_cons (Q_var 0) (qa_cons (q_f3 (Q_var 1)) qa_nil (star_of rfl)) (star_of rfl))))
     (qs_one (q_xset rfl T.gr (Q_var 0) (Q_var 1))))),fun ts S Q h=>?_⟩
 obtain ⟨a,n,rfl,ha,h0,h1,hq⟩:=h
 ac_nf
 bv_omega
 refine ⟨n,rfl,log_ok h0 h1,?_⟩
 bv_omega
 refine x_xinit ha T.ex ?_
 bv_omega
 refine x_xset ha rfl ?_
 exact .mk hq
noncomputable def spRead (C:Addr):WSp:=fun ts S Q=>∃ (xs:List Str) (l:List Rt),ts=[.lst (xs.map T2.T.str)] /\ xs.length <= 60 /\ (∀ x ∈ xs,x.length <= 1000) /\ du "" 0 xs=.inr l /\ ∀ S' p d,Wo C S' p d 0 (rd l)->Le S S'->S d=none->S p=none->Q (.ref p) S'
theorem sc_read_wood:FnScope ["texts","wood","last","row","text","pair"] ["texts"] (defScope s_read_wood):=⟨rfl,rfl,rfl,by decide +kernel,rfl,by decide +kernel,by decide +kernel⟩
theorem ok_read {f f1 f6 f7:Addr} {fd fd1 fd6 fd7:FuncData} (F:Fun K "read_wood" "read_wood" s_read_wood f fd) (T:Txt K mg C XT XA fi)
   (G_rated_of:FnOk P w K mg base CX0 4 f1 fd1 ["text"] (lSp K spRatedOf)) (D_rated_of:Df K mg "rated_of" f1 fd1 ["text"])
   (G_Wood___init__:FnOk P w K mg base CX0 1 f6 fd6 ["self"] (lSp K (spInit C))) (M_Wood:L2.Mk K C f6) (B_Wood___init__:Binds K fd6 ["self"] [])
   (G_Wood_put:FnOk P w K mg base CX0 4 f7 fd7 ["self","word","count"] (lSp K (spPut C))) (M_Wood_put:Meth K C "put" f7) (B_Wood_put:Binds K fd7 ["self","word","count"] []) :
   FnOk P w K mg base CX0 5 f fd ["texts"] (lSp K (spRead C)):=by
 refine ok_def F sc_read_wood (fun ts S Q h=>?_) fun cdv A outer s H E hr=>?_
 . obtain ⟨xs,l,rfl,_⟩:=h; rfl
 have nd:=sc_read_wood.nd
 refine ⟨_,((qs_cons (q_set (i:=1) nd rfl (Or.inl rfl) (Q_make0 M_Wood G_Wood___init__ B_Wood___init__ (hr.mono (by decide)) (by rfl) T.mg_Wood))
     (qs_cons (q_set (i:=2) nd rfl (Or.inl rfl) q_str)
     (qs_cons (q_for PassesOwn.never rfl (qi_enum rfl (by rfl) T.enumerate (Q_var 0)) (qg_tup (fun h=>pg_tupK (n:=2) rfl rfl h) (qgs_cons (Q_gname (i:=3) nd rfl (Or.inl rfl)) (qgs_cons (Q_gname (i:=4) nd rfl (Or.inl rfl)) qgs_nil (fun h1 h2=>pgs_cons h1 h2)) (fun h1 h2=>pgs_cons h1 h2)))
      (qs_cons (q_set (i:=5) nd rfl (Or.inl rfl) (Q_call G_rated_of D_rated_of (hr.mono (by decide)) (by rfl) (qa_cons (Q_var 4) qa_nil (star_of rfl))))
     (qs_cons (q_if (q_tW (q_or (q_tcmp o_is (Q_var 5) q_non (nomark _)) (q_or1 (q_tcmp o_le (q_ix rfl (Q_var 5) q_int (fun _ _=>rfl)) (Q_var 2) (nomark _)))))
      (qs_one q_never)
      qs_nil)
     (qs_cons (q_set (i:=2) nd rfl (Or.inl rfl) (q_ix rfl (Q_var 5) q_int (fun _ _=>rfl)))
     (qs_one (q_expr (Q_meth (T.gf M_Wood_put) G_Wood_put B_Wood_put (hr.mono (by decide)) (Q_var 1) (qa_cons (Q_var 2) (qa_cons (q_ix rfl (Q_var 5) q_int (fun _ _=>rfl)) qa_nil (star_of rfl)) (star_of rfl)))))))))
     (qs_one (q_ret (Q_var 1))))))),fun ts S Q h=>?_⟩
 obtain ⟨xs,l,rfl,hn,hx,hdu,hq⟩:=h
 ac_nf
 bv_omega
 intro p hp0
 refine ⟨p,rfl,put_same,fun d hd0=>⟨rfl,?_⟩⟩
 obtain ⟨hdp,hd1⟩:=put_none hd0
 generalize hS1:put (put (put S p (.ins C [])) d (.dK [])) p (.ins C [("marks",.ref d),("now",.int 0)])=S1
 have hp1:S1 p=some (.ins C [("marks",.ref d),("now",.int 0)]):=by rw [<- hS1]; exact put_same
 have hd2:S1 d=some (.dK []):=by rw [<- hS1,put_ne hdp]; exact put_same
 have le1:Le S S1:=by rw [<- hS1]; exact (Le.refl.chg hp0).chg hd1 |>.chg hp0
 clear hS1 hd0
 have hpd:p ≠ d:=Ne.symm hdp
 bv_omega
 dsimp only
 rw [show enumT (xs.map T2.T.str)=xs.zipIdx.map (fun q=>T2.T.tup [.int (q.2:Int),.str q.1]) by unfold enumT; rw [List.zipIdx_map,List.map_map]; rfl]
 refine for_map (fun rest σ' S'=>∃ ys k acc l' u v q last,rest=List.zipIdx ys k /\ (∀ x ∈ ys,x.length <= 1000) /\ k + ys.length <= 60 /\ du last k ys=.inr l' /\ acc ++ l'=l /\ Acc last acc k /\ S'=put S1 d (.dK (kt mkT (rd acc))) /\ σ'=[some (.lst (xs.map T2.T.str)),some (.ref p),some (.str last),u,v,q]) ⟨xs,0,[],l,none,none,none,"",rfl,hx,by omega,hdu,rfl,⟨by simp,rfl⟩,?_,rfl⟩ ?_ ?_
 . rw [show kt mkT (rd ([]:List Rt))=[] from rfl,put_back hd2]
 . rintro a rest σ' S' N ⟨ys,k,acc,l',u,v,q,last,hys,hyl,hk,hd,hl,ac,rfl,rfl⟩ hN
   refine ⟨trivial,?_⟩
   cases ys with
   | nil=>cases hys
   | cons y ys =>
     rw [List.zipIdx_cons] at hys
     obtain ⟨rfl,rfl⟩:=List.cons.inj hys
     obtain ⟨pr,l2,hr,hlt,rfl,hd'⟩:=du_l hd
     rw [List.length_cons] at hk
     have hy:=hyl y List.mem_cons_self
     bv_omega
     refine i_ratedof hy ?_
     rw [roT1 hr]
     bv_omega
     refine ifF ?_
     bv_omega
     rw [hlt]
     bv_omega
     refine ⟨p,d,0,_,pr.1,pr.2,rfl,⟨(put_ne hpd).trans hp1,put_same⟩,by unfold rd; rw [List.length_map]; have:=ac.len; omega,ro_wd hr,ac.nin hlt,?_⟩
     rw [put_put]
     refine hN _ _ ⟨ys,k + 1,acc ++ [pr],l2,_,_,_,pr.1,rfl,fun x hx=>hyl x (List.mem_cons_of_mem _ hx),by omega,hd',by rw [List.append_assoc]; exact hl,ac.snoc hlt,?_,rfl⟩
     unfold rd
     rw [List.map_append]; rfl
 . rintro σ' S' ⟨ys,k,acc,l',u,v,q,last,hys,hyl,hk,hd,hl,ac,rfl,rfl⟩
   refine ⟨trivial,?_⟩
   have:ys=[]:=by
     cases ys with
     | nil=>rfl
     | cons y ys=>rw [List.zipIdx_cons] at hys; cases hys
   subst this
   cases hd
   rw [List.append_nil] at hl
   subst hl
   bv_omega
   exact .mk (hq _ p d ⟨(put_ne hpd).trans hp1,put_same⟩ (le1.chg hd1) hd1 hp0)
noncomputable def spReadR (XT:Addr):WSpR:=fun ts S R=>∃ (xs:List Str) (r:Nat),ts=[.lst (xs.map T2.T.str)] /\ xs.length <= 60 /\ (∀ x ∈ xs,x.length <= 1000) /\ du "" 0 xs=.inl r /\ R (XT,some (r:Int)) S
theorem cut_le {S S':Sto} {e:Addr} {o o2:O} (h:Le S S') (he:S' e=none):Le S (cutS (put (put S' e o) e o2) e):=fun b u q=>by
 have hb:b ≠ e:=fun z=>by rw [z] at q; rw [h e u q] at he; cases he
 rw [cutS_ne hb,put_ne hb,put_ne hb]; exact h b u q
theorem no_read {f f1 f6 f7:Addr} {fd fd1 fd6 fd7:FuncData} (F:Fun K "read_wood" "read_wood" s_read_wood f fd) (T:Txt K mg C XT XA fi)
   (G_rated_of:FnOk P w K mg base CX0 4 f1 fd1 ["text"] (lSp K spRatedOf)) (D_rated_of:Df K mg "rated_of" f1 fd1 ["text"])
   (G_Wood___init__:FnOk P w K mg base CX0 1 f6 fd6 ["self"] (lSp K (spInit C))) (M_Wood:L2.Mk K C f6) (B_Wood___init__:Binds K fd6 ["self"] [])
   (G_Wood_put:FnOk P w K mg base CX0 4 f7 fd7 ["self","word","count"] (lSp K (spPut C))) (M_Wood_put:Meth K C "put" f7) (B_Wood_put:Binds K fd7 ["self","word","count"] [])
   {fd8:FuncData} (G_NoText___init__:FnOk P w K mg base CX0 1 fi fd8 ["self","row"] (lSp K (spNInit XT))) (B_NoText___init__:Binds K fd8 ["self","row"] []) :
   FnOk P w K mg base (CX1 P w) 5 f fd ["texts"] (lSpR K (spReadR XT)):=by
 refine ok_defR (T2.Fun.toD F) sc_read_wood (fun ts S Q h=>?_) fun cdv A outer s H E hr=>?_
 . obtain ⟨xs,r,rfl,_⟩:=h; rfl
 have nd:=sc_read_wood.nd
 refine ⟨_,((qrs_next (q_set (i:=1) nd rfl (Or.inl rfl) (Q_make0 M_Wood G_Wood___init__ B_Wood___init__ (hr.mono (by decide)) (by rfl) T.mg_Wood))
     (qrs_next (q_set (i:=2) nd rfl (Or.inl rfl) q_str)
     (qrs_here (qr_for ⟨rfl,rfl⟩ rfl (qi_enum rfl (by rfl) T.enumerate (Q_var 0)) (qg_tup (fun h=>pg_tupK (n:=2) rfl rfl h) (qgs_cons (Q_gname (i:=3) nd rfl (Or.inl rfl)) (qgs_cons (Q_gname (i:=4) nd rfl (Or.inl rfl)) qgs_nil (fun h1 h2=>pgs_cons h1 h2)) (fun h1 h2=>pgs_cons h1 h2)))
      (qs_cons (q_set (i:=5) nd rfl (Or.inl rfl) (Q_call G_rated_of D_rated_of (hr.mono (by decide)) (by rfl) (qa_cons (Q_var 4) qa_nil (star_of rfl))))
     (qs_cons (q_if (q_tW (q_or (q_tcmp o_is (Q_var 5) q_non (nomark _)) (q_or1 (q_tcmp o_le (q_ix rfl (Q_var 5) q_int (fun _ _=>rfl)) (Q_var 2) (nomark _)))))
      (qs_one q_never)
      qs_nil)
     (qs_cons (q_set (i:=2) nd rfl (Or.inl rfl) (q_ix rfl (Q_var 5) q_int (fun _ _=>rfl)))
     (qs_one (q_expr (Q_meth (T.gf M_Wood_put) G_Wood_put B_Wood_put (hr.mono (by decide)) (Q_var 1) (qa_cons (Q_var 2) (qa_cons (q_ix rfl (Q_var 5) q_int (fun _ _=>rfl)) qa_nil (star_of rfl)) (star_of rfl))))))))
      (qrs_next (q_set (i:=5) nd rfl (Or.inl rfl) (Q_call G_rated_of D_rated_of (hr.mono (by decide)) (by rfl) (qa_cons (Q_var 4) qa_nil (star_of rfl))))
     (qrs_here (qr_if (q_tW (q_or (q_tcmp o_is (Q_var 5) q_non (nomark _)) (q_or1 (q_tcmp o_le (q_ix rfl (Q_var 5) q_int (fun _ _=>rfl)) (Q_var 2) (nomark _))))) (qrs_here (Qr_raiseI T.ex T.x7.kp T.fn G_NoText___init__ (hr.mono (by decide)) B_NoText___init__ rfl (by rfl) T.mg_NoText (qa_cons (Q_var 3) qa_nil (star_of rfl))))
      qrs_never)))))))),fun ts S Q h=>?_⟩
 obtain ⟨xs,r,rfl,hn,hx,hdu,hq⟩:=h
 ac_nf
 bv_omega
 intro p hp0
 refine ⟨p,rfl,put_same,fun d hd0=>⟨rfl,?_⟩⟩
 obtain ⟨hdp,hd1⟩:=put_none hd0
 generalize hS1:put (put (put S p (.ins C [])) d (.dK [])) p (.ins C [("marks",.ref d),("now",.int 0)])=S1
 have hp1:S1 p=some (.ins C [("marks",.ref d),("now",.int 0)]):=by rw [<- hS1]; exact put_same
 have hd2:S1 d=some (.dK []):=by rw [<- hS1,put_ne hdp]; exact put_same
 have le1:Le S S1:=by rw [<- hS1]; exact (Le.refl.chg hp0).chg hd1 |>.chg hp0
 clear hS1 hd0
 have hpd:p ≠ d:=Ne.symm hdp
 bv_omega
 dsimp only
 rw [show enumT (xs.map T2.T.str)=xs.zipIdx.map (fun q=>T2.T.tup [.int (q.2:Int),.str q.1]) by unfold enumT; rw [List.zipIdx_map,List.map_map]; rfl]
 refine rfor_map (fun rest σ' S'=>∃ ys k acc u v q last,rest=List.zipIdx ys k /\ (∀ x ∈ ys,x.length <= 1000) /\ k + ys.length <= 60 /\ du last k ys=.inl r /\ Acc last acc k /\ S'=put S1 d (.dK (kt mkT (rd acc))) /\ σ'=[some (.lst (xs.map T2.T.str)),some (.ref p),some (.str last),u,v,q]) ⟨xs,0,[],none,none,none,"",rfl,hx,by omega,hdu,⟨by simp,rfl⟩,?_,rfl⟩ ?_ ?_
 . rw [show kt mkT (rd ([]:List Rt))=[] from rfl,put_back hd2]
 . rintro a rest σ' S' N ⟨ys,k,acc,u,v,q,last,hys,hyl,hk,hd,ac,rfl,rfl⟩ hN
   refine ⟨trivial,?_⟩
   cases ys with
   | nil=>cases hys
   | cons y ys =>
     rw [List.zipIdx_cons] at hys
     obtain ⟨rfl,rfl⟩:=List.cons.inj hys
     rw [List.length_cons] at hk
     have hy:=hyl y List.mem_cons_self
     have leA:Le S (T2.put S1 d (.dK (kt mkT (rd acc)))):=le1.chg hd1
     cases hr2:ro y with
     | none =>
       rw [du_none hr2] at hd
       cases hd
       bv_omega
       refine .inl ?_
       bv_omega
       refine i_ratedof hy ?_
       rw [roT0 hr2]
       bv_omega
       refine ifT ?_
       bv_omega
       refine ⟨(by show 1 <= 2; decide),fun e he=>⟨e,_,rfl,put_same,by omega,by omega,rfl,_,put_same,?_⟩⟩
       exact .le (cut_le leA he) hq
     | some pr =>
       cases hlt:T2.ltS last pr.1 with
       | false =>
         rw [du_le hr2 hlt] at hd
         cases hd
         bv_omega
         refine .inl ?_
         bv_omega
         refine i_ratedof hy ?_
         rw [roT1 hr2]
         bv_omega
         refine ifF ?_
         bv_omega
         rw [hlt]
         bv_omega
         refine ⟨(by show 1 <= 2; decide),fun e he=>⟨e,_,rfl,put_same,by omega,by omega,rfl,_,put_same,?_⟩⟩
         exact .le (cut_le leA he) hq
       | true =>
         have hd':=du_r hr2 hlt hd
         bv_omega
         refine .inr ?_
         bv_omega
         refine i_ratedof hy ?_
         rw [roT1 hr2]
         bv_omega
         refine ifF ?_
         bv_omega
         rw [hlt]
         bv_omega
         refine ⟨p,d,0,_,pr.1,pr.2,rfl,⟨(put_ne hpd).trans hp1,put_same⟩,by unfold rd; rw [List.length_map]; have:=ac.len; omega,ro_wd hr2,ac.nin hlt,?_⟩
         rw [put_put]
         refine hN _ _ ⟨ys,k + 1,acc ++ [pr],_,_,_,pr.1,rfl,fun x hx=>hyl x (List.mem_cons_of_mem _ hx),by omega,hd',ac.snoc hlt,?_,rfl⟩
         unfold rd
         rw [List.map_append]; rfl
 . rintro σ' S' ⟨ys,k,acc,u,v,q,last,hys,hyl,hk,hd,ac,rfl,rfl⟩
   cases ys with
   | nil=>cases hd
   | cons y ys=>rw [List.zipIdx_cons] at hys; cases hys
theorem lay_strs:∀ {ws:List Str},(∀ a ∈ ws,PyData.strOk a=true)->PyData.canLayAll0 (ws.map PyData.str)=true
 | [],_=>rfl
 | a :: l,h=>by
   have ih:PyData.canLayAll0 (l.map PyData.str)=true:=lay_strs fun x hx=>h x (List.mem_cons_of_mem _ hx)
   simp only [List.map_cons,PyData.canLayAll0,PyData.canLay0,h a (List.mem_cons_self ..),ih,Bool.and_self]
theorem dep_strs:∀ (ws:List Str),PyData.depthAll (ws.map PyData.str)=0
 | []=>rfl
 | a :: l=>by simp [PyData.depthAll,PyData.depth,dep_strs l]
theorem dats_strs:∀ (ws:List Str),datsT (ws.map T2.T.str)=some (ws.map PyData.str)
 | []=>rfl
 | a :: l=>by simp only [List.map_cons,datsT,datT,dats_strs l]
theorem g_eqNilS {S:Sto} {Q:T->Sto->Prop} {n:Bool} {ws:List Str} (h0:∀ a ∈ ws,PyData.strOk a=true) (h:Q (.bl (n ^^ ws.isEmpty)) S):gEq n (.lst (ws.map T2.T.str)) (.lst []) S Q:=by
 refine ⟨.list (ws.map .str),.list [],by show (datsT _).map PyData.list=_; rw [dats_strs]; rfl,rfl,by simp only [PyData.canLay0]; exact lay_strs h0,rfl,?_,?_⟩
 . simp only [PyData.depth,dep_strs,PyData.depthAll]; decide
 . have:PyData.eqv (.list (ws.map .str)) (.list [])=ws.isEmpty:=by cases ws <;> simp [PyData.eqv,PyData.eqvAll]
   rw [this]; exact h
theorem fm_if {α β:Type} (p:α->Bool) (f:α->β):∀ l:List α,(l.filterMap fun a=>if p a=true then some (f a) else none)=(l.filter p).map f
 | []=>rfl
 | a :: l=>by
   have ih:=fm_if p f l
   rw [List.filterMap_cons,List.filter_cons]
   by_cases e:p a=true
   . rw [if_pos e,if_pos e]; simp only [List.map_cons,ih]
   . rw [if_neg e,if_neg e]; exact ih
noncomputable def As7 (z:Str):Prop:=∀ c ∈ Tm.tl z,c < 128
theorem As7.ok {z:Str} (h:As7 z):PyData.strOk z=true:=by
 unfold PyData.strOk
 rw [Array.all_eq_true_iff_forall_mem]
 intro c hc
 have:=h c (by simpa [Tm.tl] using hc)
 exact decide_eq_true (by omega)
theorem one_ok {c:Nat} (h:c < 128):PyData.strOk ⟨#[c]⟩=true:=As7.ok (z:=⟨#[c]⟩) fun d hd=>by
 have:d=c:=by simpa [Tm.tl] using hd
 omega
theorem As7.app {a b:Str} (h:As7 a) (h2:As7 b):As7 (a ++ b):=fun c hc=>by
 rw [Tm.tl_app] at hc
 rcases List.mem_append.mp hc with q | q
 . exact h c q
 . exact h2 c q
theorem As7.slice {a:Str} (h:As7 a) (lo hi:Option Int):As7 (Txt.slice a lo hi):=fun c hc=>by
 rw [Tm.tl_slice] at hc
 exact h c (List.mem_of_mem_drop (List.mem_of_mem_take hc))
theorem As7.split {a p:Str} (h:As7 a) (hp:p ∈ Txt.split a " "):As7 p:=fun c hc=>by
 have key:∀ (ps:List (List Nat)) (q:List Nat),q ∈ ps->∀ c ∈ q,c ∈ Tm.joinL [32] ps:=by
   intro ps
   induction ps with
   | nil=>intro q hq; cases hq
   | cons a l ih =>
     intro q hq c hc
     cases l with
     | nil =>
       rw [List.mem_singleton] at hq
       subst hq
       exact hc
     | cons b r =>
       show c ∈ a ++ [32] ++ Tm.joinL [32] (b :: r)
       rcases List.mem_cons.mp hq with rfl | hq
       . simp [hc]
       . exact List.mem_append_right _ (ih q hq c hc)
 have:=key _ _ (List.mem_map_of_mem (f:=Tm.tl) hp) c hc
 rw [show Tm.joinL [32] _=Tm.tl a from Tm.split_join a] at this
 exact h c this
theorem comp_signs {x:Str} {S:Sto} {Q:T2.T->Sto->Prop} (hx:As7 x) (p:Nat->Bool) (h:Q (.bl (!(Tm.tl x).all p)) S):gEq true (.lst ((Tm.tl x).filterMap fun c=>if (!p c)=true then some (T2.T.str ⟨#[c]⟩) else none)) (.lst []) S Q:=by
 rw [fm_if (fun c=>!p c) (fun c=>T2.T.str ⟨#[c]⟩),show (List.map (fun c=>T2.T.str ⟨#[c]⟩) ((Tm.tl x).filter fun c=>!p c))=(((Tm.tl x).filter fun c=>!p c).map fun c=>(⟨#[c]⟩:Str)).map T2.T.str by rw [List.map_map]; rfl]
 refine g_eqNilS (fun a ha=>?_) ?_
 . obtain ⟨c,hc,rfl⟩:=List.mem_map.mp ha
   exact one_ok (hx c (List.mem_filter.mp hc).1)
 . rw [List.isEmpty_map]
   have:(true ^^ ((Tm.tl x).filter fun c=>!p c).isEmpty)=!(Tm.tl x).all p:=by
     rw [Bool.true_xor]
     congr 1
     rw [Bool.eq_iff_iff,List.isEmpty_iff,List.filter_eq_nil_iff,List.all_eq_true]
     refine forall_congr' fun c=>forall_congr' fun hc=>?_
     cases p c <;> simp
   rw [this]; exact h
noncomputable def spLIs:WSp:=fun ts S Q=>∃ z:Str,ts=[.str z] /\ z.length <= 1000 /\ As7 z /\ Q (.bl (Wm.Wd z)) S
theorem i_lis {S:Sto} {Q:T->Sto->Prop} {z:Str} (h0:z.length <= 1000) (h1:As7 z) (h:Q (.bl (Wm.Wd z)) S):spLIs ([.str z] ++ []) S Q:=⟨z,rfl,h0,h1,h⟩
theorem sc_law_is_word:FnScope ["_law_text","_law_parts","_law_part"] ["_law_text"] (defScope s_law_is_word):=⟨rfl,rfl,rfl,by decide +kernel,rfl,by decide +kernel,by decide +kernel⟩
theorem ok_lisword {f:Addr} {fd:FuncData} (F:Fun K "_law_is_word" "_law_is_word" s_law_is_word f fd) (T:Txt K mg C XT XA fi) :
   FnOk P w K mg base CX0 1 f fd ["_law_text"] (lSp K spLIs):=by
 refine ok_def F sc_law_is_word (fun ts S Q h=>?_) fun cdv A outer s H E hr=>?_
 . obtain ⟨c,rfl,_⟩:=h; rfl
 have nd:=sc_law_is_word.nd
 refine ⟨_,((qs_cons (q_set (i:=1) nd rfl (Or.inl rfl) (Q_bm rfl PySem.F.plainAttrs_str PySem.F.slot_str_split PySem.F.type_str_split (m_split false) (Q_var 0) (qa_cons q_str qa_nil (star_of rfl)) (fun h1 h2 h3=>pe_bm PySem.F.plainAttrs_str PySem.F.slot_str_split PySem.F.type_str_split h2 h1 h3)))
     (qs_cons (q_if (q_tW (q_or (q_tcmp o_gt (Q_cb (c_len rfl) (by rfl) T.len PySem.boot_len (qa_cons (Q_var 0) qa_nil (star_of rfl))) q_int (nomark _)) (q_or1 (q_tcmp o_gt (Q_cb (c_len rfl) (by rfl) T.len PySem.boot_len (qa_cons (Q_var 1) qa_nil (star_of rfl))) q_int (nomark _)))))
      (qs_one (q_ret q_bl))
      qs_nil)
     (qs_cons (q_for PassesOwn.never rfl (qi_list rfl (Q_var 1)) (Q_gname (i:=2) nd rfl (Or.inl rfl))
      (qs_one (q_if (q_tW (q_or (q_tnot (q_tchain o_le o_le q_int (Q_cb (c_len rfl) (by rfl) T.len PySem.boot_len (qa_cons (Q_var 2) qa_nil (star_of rfl))) q_int)) (q_or1 (q_tcmp (o_ne rfl hr.units) (q_comp false ["_law_sign"] 1 [] rfl (qi_str (Q_var 2)) (fun _ _ _ _=>(Q_gname (i:=0) (show List.Nodup (["_law_sign"]:List Str) from by decide +kernel) rfl (Or.inl rfl))) (fun _ _ _ _=>(qts_one (q_tcmp (o_notin rfl) (Q_var 0) q_str (by with_unfolding_all rfl)))) (fun _ _ _ _=>(Q_var 0))) (q_lst qa_nil) (nomark _)))))
      (qs_one (q_ret q_bl))
      qs_nil)))
     (qs_one (q_ret q_bl)))))),fun ts S Q h=>?_⟩
 obtain ⟨z,rfl,hz,ha,hq⟩:=h
 unfold Wm.Wd at hq
 rw [Wm.split_scan] at hq
 have hsl:=PyProof.Rows.split_le z " "
 ac_nf
 bv_omega
 refine ifB (fun hb=>?_) fun hb=>?_
 . have hb:=of_decide_eq_true hb
   rw [decide_eq_false (by omega),Bool.false_and] at hq
   bv_omega
   exact .mk hq
 have hb:=of_decide_eq_false hb
 rw [decide_eq_true (by omega),Bool.true_and] at hq
 bv_omega
 refine ifB (fun hb=>?_) fun hb=>?_
 . have hb:=of_decide_eq_true hb
   rw [decide_eq_false (by omega),Bool.false_and] at hq
   bv_omega
   exact .mk hq
 have hb:=of_decide_eq_false hb
 rw [decide_eq_true (by omega),Bool.true_and] at hq
 bv_omega
 refine for_map (ls:=Txt.split z " ") (fun ls σ' S'=>∃ u,σ'=[some (.str z),some (.lst ((Txt.split z " ").map T2.T.str)),u] /\ S'=S /\ (∀ x ∈ ls,x.length <= 1000 /\ As7 x) /\ ((Txt.split z " ").all fun p=>Sc.isP (Tm.tl p))=ls.all fun p=>Sc.isP (Tm.tl p)) ⟨_,rfl,rfl,fun x hx=>⟨?_,ha.split hx⟩,rfl⟩ ?_ ?_
 . have hxl:=Tm.split_mem hx
   omega
 . rintro x ls σ' S' N ⟨u,rfl,rfl,hl,he⟩ hN
   obtain ⟨hx,hxa⟩:=hl x List.mem_cons_self
   refine ⟨trivial,?_⟩
   rw [List.all_cons] at he
   have no:Sc.isP (Tm.tl x)=false->Q (.bl false) S':=fun e=>by
     rw [he,e,Bool.false_and] at hq
     exact hq
   unfold Sc.isP at no
   bv_omega
   by_cases h1:(1:Int) <= x.length
   . rw [decide_eq_true h1]
     bv_omega
     by_cases h2:(x.length:Int) <= 12
     . rw [decide_eq_true h2]
       bv_omega
       refine comp_pure (ls:=Tm.tl x) (fun c=>T2.T.str ⟨#[c]⟩) (fun c=>if (!Sc.isL c)=true then some (T2.T.str ⟨#[c]⟩) else none) [] ?_ ?_ (fun c hc u acc N hacc hN=>?_) ?_
       . trivial
       . rw [Tm.len,sizeLine_eq]; omega
       . bv_omega
         rw [Wm.in_abc,Bool.true_xor]
         cases hc2:Sc.isL c with
         | true =>
           bv_omega
           have:=hN (some (T2.T.str ⟨#[c]⟩))
           rw [hc2,Bool.not_true,if_neg (by decide),Option.toList_none,List.append_nil] at this
           exact this
         | false =>
           bv_omega
           have:=hN (some (T2.T.str ⟨#[c]⟩))
           rw [hc2,Bool.not_false,if_pos rfl] at this
           exact ⟨hacc,this⟩
       . bv_omega
         refine comp_signs hxa Sc.isL ?_
         cases hf:(Tm.tl x).all Sc.isL with
         | true =>
           bv_omega
           refine hN _ _ ⟨_,rfl,rfl,fun y hy=>hl y (List.mem_cons_of_mem _ hy),?_⟩
           rw [he]
           unfold Sc.isP
           rw [hf,Tm.len,decide_eq_true (by omega),decide_eq_true (p:=x.length <= 12) (by omega)]
           rfl
         | false =>
           bv_omega
           exact .mk (no (by rw [hf,Bool.and_false]))
     . rw [decide_eq_false h2]
       bv_omega
       exact .mk (no (by rw [Tm.len,decide_eq_false (p:=x.length <= 12) (by omega),Bool.and_false]; rfl))
   . rw [decide_eq_false h1]
     bv_omega
     exact .mk (no (by rw [Tm.len,decide_eq_false (by omega)]; rfl))
 . rintro σ' S' ⟨u,rfl,rfl,hl,he⟩
   refine ⟨trivial,?_⟩
   rw [he,List.all_nil] at hq
   bv_omega
   exact .mk hq
noncomputable def spLNum:WSp:=fun ts S Q=>∃ z:Str,ts=[.str z] /\ z.length <= 1000 /\ As7 z /\ Q (.bl (nbB z)) S
theorem i_lnum {S:Sto} {Q:T->Sto->Prop} {z:Str} (h0:z.length <= 1000) (h1:As7 z) (h:Q (.bl (nbB z)) S):spLNum ([.str z] ++ []) S Q:=⟨z,rfl,h0,h1,h⟩
theorem sc_law_number:FnScope ["_law_text"] ["_law_text"] (defScope s_law_number):=⟨rfl,rfl,rfl,by decide +kernel,rfl,by decide +kernel,by decide +kernel⟩
theorem ok_lnum {f:Addr} {fd:FuncData} (F:Fun K "_law_number" "_law_number" s_law_number f fd) (T:Txt K mg C XT XA fi) :
   FnOk P w K mg base CX0 1 f fd ["_law_text"] (lSp K spLNum):=by
 refine ok_def F sc_law_number (fun ts S Q h=>?_) fun cdv A outer s H E hr=>?_
 . obtain ⟨c,rfl,_⟩:=h; rfl
 have nd:=sc_law_number.nd
 refine ⟨_,((qs_cons (q_if (q_tW (q_or (q_tnot (q_tchain o_le o_le q_int (Q_cb (c_len rfl) (by rfl) T.len PySem.boot_len (qa_cons (Q_var 0) qa_nil (star_of rfl))) q_int)) (q_or1 (q_tcmp (o_ne rfl hr.units) (q_comp false ["_law_sign"] 1 [] rfl (qi_str (Q_var 0)) (fun _ _ _ _=>(Q_gname (i:=0) (show List.Nodup (["_law_sign"]:List Str) from by decide +kernel) rfl (Or.inl rfl))) (fun _ _ _ _=>(qts_one (q_tcmp (o_notin rfl) (Q_var 0) q_str (by with_unfolding_all rfl)))) (fun _ _ _ _=>(Q_var 0))) (q_lst qa_nil) (nomark _)))))
      (qs_one (q_ret q_bl))
      qs_nil)
     (qs_one (q_ret (q_orV (q_cmp (o_eq rfl hr.units) (Q_var 0) q_str (nomark _)) (q_one (q_cmp (o_ne rfl hr.units) (q_ix rfl (Q_var 0) q_int (fun _ _=>rfl)) q_str (nomark _)))))))),fun ts S Q h=>?_⟩
 obtain ⟨x,rfl,hx,hxa,hq⟩:=h
 have no:nbB x=false->Q (.bl false) S:=fun e=>by rw [e] at hq; exact hq
 unfold nbB at no
 ac_nf
 refine i_mid (fun σ' S'=>σ'=[some (.str x)] /\ S'=S /\ 1 <= x.length /\ x.length <= 15 /\ (Tm.tl x).all isF=true) ?_ ?_
 . intro X hX
   bv_omega
   by_cases h1:(1:Int) <= x.length
   . rw [decide_eq_true h1]
     bv_omega
     by_cases h2:(x.length:Int) <= 15
     . rw [decide_eq_true h2]
       bv_omega
       refine comp_pure (ls:=Tm.tl x) (fun c=>T2.T.str ⟨#[c]⟩) (fun c=>if (!isF c)=true then some (T2.T.str ⟨#[c]⟩) else none) [] ?_ ?_ (fun c hc u acc N hacc hN=>?_) ?_
       . trivial
       . rw [Tm.len,sizeLine_eq]; omega
       . bv_omega
         rw [in_fig,Bool.true_xor]
         cases hc2:isF c with
         | true =>
           bv_omega
           have:=hN (some (T2.T.str ⟨#[c]⟩))
           rw [hc2,Bool.not_true,if_neg (by decide),Option.toList_none,List.append_nil] at this
           exact this
         | false =>
           bv_omega
           have:=hN (some (T2.T.str ⟨#[c]⟩))
           rw [hc2,Bool.not_false,if_pos rfl] at this
           exact ⟨hacc,this⟩
       . bv_omega
         refine comp_signs hxa isF ?_
         cases hf:(Tm.tl x).all isF with
         | true =>
           bv_omega
           exact hX _ _ ⟨rfl,rfl,by omega,by omega,hf⟩
         | false =>
           bv_omega
           exact .mk (no (by rw [hf,Bool.and_false,Bool.false_and]))
     . rw [decide_eq_false h2]
       bv_omega
       exact .mk (no (by rw [decide_eq_false (p:=x.length <= 15) (by omega),Bool.and_false,Bool.false_and,Bool.false_and]))
   . rw [decide_eq_false h1]
     bv_omega
     exact .mk (no (by rw [decide_eq_false (p:=1 <= x.length) (by omega),Bool.false_and,Bool.false_and,Bool.false_and]))
 rintro σ' S' ⟨rfl,rfl,hl1,hl15,hf⟩
 unfold nbB at hq
 rw [decide_eq_true hl1,decide_eq_true hl15,hf,Bool.true_and,Bool.true_and,Bool.true_and] at hq
 bv_omega
 by_cases hx0:x="0"
 . rw [decide_eq_true hx0] at hq ⊢
   bv_omega
   exact .mk hq
 . rw [decide_eq_false hx0] at hq ⊢
   refine ifF ?_
   bv_omega
   have ed2:(Tm.tl x)[0]?=some d:=by
     have ed2:atI (Tm.tl x) 0=some d:=ed
     cases q:Tm.tl x with
     | nil=>rw [q] at ed2; simp [atI,ixN] at ed2
     | cons c r=>rw [q] at ed2; simpa [atI,ixN] using ed2
   have e:(true ^^ decide ((⟨#[d]⟩:Str)="0"))=(false || !decide ((Tm.tl x)[0]?=some 48)):=by
     rw [Bool.true_xor,Bool.false_or,ed2]
     congr 1
     rw [Bool.eq_iff_iff,decide_eq_true_eq,decide_eq_true_eq,Option.some_inj]
     constructor
     . intro hd
       have:=congrArg Tm.tl hd
       have:[d]=[48]:=this
       simpa using this
     . intro hd
       subst hd
       decide +kernel
   rw [<- e] at hq
   exact .mk hq
noncomputable def dT:Sum Nat (List Rt)->T2.T
 | .inl r=>.int (r:Int)
 | .inr l=>.lst (l.map rt)
noncomputable def more (acc:List Rt):Sum Nat (List Rt)->Sum Nat (List Rt)
 | .inl r=>.inl r
 | .inr l=>.inr (acc ++ l)
noncomputable def Lst (acc:List Rt) (last:Str):Prop:=(acc=[] /\ last="") \/ ∃ a0 p,acc=a0 ++ [p] /\ last=p.1
theorem Lv.le {S S':Sto} {t:T2.T} {us:List T2.T} (h:Lv S t us) (l:Le S S'):Lv S' t us:=by
 rcases h with rfl | ⟨a,rfl,e⟩
 . exact .inl rfl
 . exact .inr ⟨a,rfl,l a _ e⟩
theorem atI_nat {α:Type} (l:List α) (k:Nat):atI l (k:Int)=l[k]?:=by
 by_cases h:k < l.length
 . simp [atI,ixN,h]
 . simp [atI,ixN,h]
theorem nb_len {x:Str} (h:nbB x=true):x.length <= 15:=by
 unfold nbB at h
 simp only [Bool.and_eq_true,decide_eq_true_eq] at h
 exact h.1.1.2
theorem atI_last {α:Type} (l:List α) (a:α):atI (l ++ [a]) (-1)=some a:=by
 simp [atI,ixN]
 rw [if_pos (by omega),Option.bind_some,show (-1 + ((l.length:Int) + 1)).toNat=l.length by omega]
 simp
theorem ifF' {c:Prop} [Decidable c] {A B:Prop} (h:¬ c) (q:B):if decide c=true then A else B:=by rw [decide_eq_false h]; exact q
noncomputable def spDue:WSp:=fun ts S Q=>∃ x xs,ts=[x] /\ Lv S x (xs.map T2.T.str) /\ xs.length <= 60 /\ (∀ y ∈ xs,y.length <= 1000 /\ As7 y) /\ Q (dT (du "" 0 xs)) S
theorem sc_law_due:FnScope ["_law_texts","_law_rated","_law_row","_law_place","_law_word_here"] ["_law_texts"] (defScope s_law_due):=⟨rfl,rfl,rfl,by decide +kernel,rfl,by decide +kernel,by decide +kernel⟩
theorem ok_due {f f1 f2:Addr} {fd fd1 fd2:FuncData} (F:Fun K "_law_due" "_law_due" s_law_due f fd) (T:Txt K mg C XT XA fi)
   (G__law_number:FnOk P w K mg base CX0 1 f1 fd1 ["_law_text"] (lSp K spLNum)) (D__law_number:Df K mg "_law_number" f1 fd1 ["_law_text"])
   (G__law_is_word:FnOk P w K mg base CX0 1 f2 fd2 ["_law_text"] (lSp K spLIs)) (D__law_is_word:Df K mg "_law_is_word" f2 fd2 ["_law_text"]) :
   FnOk P w K mg base CX0 2 f fd ["_law_texts"] (lSp K spDue):=by
 refine ok_def F sc_law_due (fun ts S Q h=>?_) fun cdv A outer s H E hr=>?_
 . obtain ⟨x,xs,rfl,_⟩:=h; rfl
 have nd:=sc_law_due.nd
 refine ⟨_,((qs_cons (q_set (i:=1) nd rfl (Or.inl rfl) (q_lstT qa_nil))
     (qs_cons (q_for PassesOwn.never rfl (qi_range1 (by rfl) T.range (Q_cb (c_len rfl) (by rfl) T.len PySem.boot_len (qa_cons (Q_var 0) qa_nil (star_of rfl)))) (Q_gname (i:=2) nd rfl (Or.inl rfl))
      (qs_cons (q_set (i:=3) nd rfl (Or.inl rfl) (Q_bm rfl PySem.F.plainAttrs_str PySem.F.slot_str_find PySem.F.type_str_find m_find (q_ix rfl (Q_var 0) (Q_var 2) (fun _ _=>rfl)) (qa_cons q_str qa_nil (star_of rfl)) (fun h1 h2 h3=>pe_bm PySem.F.plainAttrs_str PySem.F.slot_str_find PySem.F.type_str_find h2 h1 h3)))
     (qs_cons (q_if (q_tW (q_or (q_tcmp o_lt (Q_var 3) q_int (nomark _)) (q_or1 (q_tnot (q_tval (Q_call G__law_number D__law_number (hr.mono (by decide)) (by rfl) (qa_cons (q_slice false rfl (q_ix rfl (Q_var 0) (Q_var 2) (fun _ _=>rfl)) qo_none (qo_some (Q_var 3))) qa_nil (star_of rfl))))))))
      (qs_one (q_ret (Q_var 2)))
      qs_nil)
     (qs_cons (q_set (i:=4) nd rfl (Or.inl rfl) (q_slice false rfl (q_ix rfl (Q_var 0) (Q_var 2) (fun _ _=>rfl)) (qo_some (q_op (o_add false) (Q_var 3) q_int)) qo_none))
     (qs_cons (q_if (q_tW (q_or (q_tnot (q_tval (Q_call G__law_is_word D__law_is_word (hr.mono (by decide)) (by rfl) (qa_cons (Q_var 4) qa_nil (star_of rfl))))) (q_or1 (q_tW (q_and (q_tcmp o_gt (Q_cb (c_len rfl) (by rfl) T.len PySem.boot_len (qa_cons (Q_var 1) qa_nil (star_of rfl))) q_int (nomark _)) (q_and1 (q_tcmp o_le (Q_var 4) (q_ix rfl (q_ix rfl (Q_var 1) (q_neg q_int) (fun _ _=>rfl)) q_int (fun _ _=>rfl)) (nomark _))))))))
      (qs_one (q_ret (Q_var 2)))
      qs_nil)
     (qs_one (q_expr (Q_bm rfl PySem.F.plainAttrs_list PySem.F.slot_list_append PySem.F.type_list_append m_append (Q_var 1) (qa_cons (q_tup (qa_cons (Q_var 4) (qa_cons (Q_cty c_intT (by rfl) T.int PyProof.Rows.boot_int (qa_cons (q_slice false rfl (q_ix rfl (Q_var 0) (Q_var 2) (fun _ _=>rfl)) qo_none (qo_some (Q_var 3))) qa_nil (star_of rfl))) qa_nil (star_of rfl)) (star_of rfl))) qa_nil (star_of rfl)) (fun h1 h2 h3=>pe_bm PySem.F.plainAttrs_list PySem.F.slot_list_append PySem.F.type_list_append h2 h1 h3)))))))))
     (qs_one (q_ret (Q_var 1)))))),fun ts S Q h=>?_⟩
 obtain ⟨x,xs,rfl,hv,hn,hxs,hq⟩:=h
 ac_nf
 bv_omega
 intro rl hrl
 have lrl:∀ acc:List Rt,Lv (put S rl (.lst (acc.map rt))) x (xs.map T2.T.str):=fun acc=>hv.le (Le.put hrl)
 bv_omega
 refine (lrl []).len ?_
 rw [List.length_map]
 bv_omega
 refine for_rangeT (fun k σ' S'=>∃ acc last u v w,σ'=[some x,some (.ref rl),u,v,w] /\ S'=put S rl (.lst (acc.map rt)) /\ acc.length=k /\ Lst acc last /\ du "" 0 xs=more acc (du last k (xs.drop k))) ⟨[],"",none,none,none,rfl,rfl,rfl,.inl ⟨rfl,rfl⟩,?_⟩ ?_ ?_
 . rw [List.drop_zero]
   cases du "" 0 xs <;> rfl
 . rintro k σ' S' N hk ⟨acc,last,u,v,w,rfl,rfl,hlen,hls,hdu⟩ hN
   refine ⟨trivial,?_⟩
   have hkx:k < xs.length:=by omega
   have hat:atI (xs.map T2.T.str) (0 + (k:Int))=some (T2.T.str xs[k]):=by
     rw [Int.zero_add,atI_nat]
     simp [hkx]
   obtain ⟨hyl,hya⟩:=hxs xs[k] (List.getElem_mem hkx)
   rw [List.drop_eq_getElem_cons hkx] at hdu
   generalize xs[k]=y at hat hyl hya hdu
   have bad:du last k (y :: xs.drop (k + 1))=.inl k->Q (.int (0 + (k:Int))) S:=fun e=>by
     rw [hdu,e] at hq
     rw [Int.zero_add]; exact hq
   have back:Le S (put S rl (.lst (acc.map rt))):=Le.put hrl
   bv_omega
   refine (lrl acc).ix hat ?_
   bv_omega
   cases ho:oc y with
   | nil =>
     rw [find0 ho]
     bv_omega
     rw [show decide ((-1:Int) < 0)=true from rfl]
     bv_omega
     exact .le back (bad (du_none (ro0 ho)))
   | cons i l =>
     rw [find1 ho]
     bv_omega
     refine ifF' (by omega) ?_
     bv_omega
     refine (lrl acc).ix hat ?_
     bv_omega
     have hbl:=bef_len y i
     have hal:=aft_len y i
     refine i_lnum (z:=bef y i) (by omega) (hya.slice _ _) ?_
     cases hnb:nbB (bef y i) with
     | false =>
       bv_omega
       exact .le back (bad (du_none (by rw [ro1 ho,hnb]; rfl)))
     | true =>
       bv_omega
       refine (lrl acc).ix hat ?_
       bv_omega
       rw [show (i:Int) + 1=((i + 1:Nat):Int) by omega]
       refine i_lis (z:=aft y i) (by omega) (hya.slice _ _) ?_
       cases hw:Wm.Wd (aft y i) with
       | false =>
         bv_omega
         exact .le back (bad (du_none (by rw [ro1 ho,hnb,hw]; rfl)))
       | true =>
         have hro:ro y=some (aft y i,vl (bef y i)):=by rw [ro1 ho,hnb,hw]; rfl
         have hw1:=(Wm.wd_len hw).1
         rcases hls with ⟨rfl,rfl⟩ | ⟨a0,p,rfl,rfl⟩
         . have hlt:=lt_empty hw1
           bv_omega
           rw [show decide ((0:Int) < (([]:List Rt).length:Nat))=false from rfl]
           bv_omega
           refine (lrl []).ix hat ?_
           bv_omega
           refine g_intT (nb_reads hnb) (by have:=nb_len hnb; unfold bef at this; omega) ?_
           bv_omega
           refine g_appendP (by rw [List.length_map,sizeLine_eq]; omega) ?_
           refine hN _ _ ⟨[] ++ [(aft y i,vl (bef y i))],aft y i,_,_,_,rfl,?_,by rw [List.length_append,hlen]; rfl,.inr ⟨_,_,rfl,rfl⟩,?_⟩
           . exact congrArg (fun z=>put S rl (O.lst z)) (List.map_append (f:=rt) (l₂:=[(aft y i,vl (bef y i))])).symm
           . rw [hdu,du_some hro hlt]
             dsimp only
             cases du (aft y i) (k + 1) (xs.drop (k + 1)) with
             | inl r=>rfl
             | inr l2=>exact congrArg Sum.inr (List.append_cons _ _ _)
         . cases hlt:T2.ltS p.1 (aft y i) with
           | false =>
             bv_omega
             rw [decide_eq_true (show (0:Int) < ((a0 ++ [p]).length:Nat) by rw [List.length_append,List.length_singleton]; omega)]
             bv_omega
             refine g_ixR put_same (t:=rt p) (by rw [List.map_append]; exact atI_last _ _) ?_
             bv_omega
             rw [show T2.ltS p.1 (Txt.slice y (some ((i + 1:Nat):Int)) none)=false from hlt]
             bv_omega
             exact .le back (bad (du_le hro hlt))
           | true =>
             bv_omega
             rw [decide_eq_true (show (0:Int) < ((a0 ++ [p]).length:Nat) by rw [List.length_append,List.length_singleton]; omega)]
             bv_omega
             refine g_ixR put_same (t:=rt p) (by rw [List.map_append]; exact atI_last _ _) ?_
             bv_omega
             rw [show T2.ltS p.1 (Txt.slice y (some ((i + 1:Nat):Int)) none)=true from hlt]
             bv_omega
             refine (lrl (a0 ++ [p])).ix hat ?_
             bv_omega
             refine g_intT (nb_reads hnb) (by have:=nb_len hnb; unfold bef at this; omega) ?_
             bv_omega
             refine g_appendP (by rw [List.length_map,sizeLine_eq]; omega) ?_
             refine hN _ _ ⟨(a0 ++ [p]) ++ [(aft y i,vl (bef y i))],aft y i,_,_,_,rfl,?_,by rw [List.length_append,hlen]; rfl,.inr ⟨_,_,rfl,rfl⟩,?_⟩
             . exact congrArg (fun z=>put S rl (O.lst z)) (List.map_append (f:=rt) (l₂:=[(aft y i,vl (bef y i))])).symm
             . rw [hdu,du_some hro hlt]
               dsimp only
               cases du (aft y i) (k + 1) (xs.drop (k + 1)) with
               | inl r=>rfl
               | inr l2=>exact congrArg Sum.inr (List.append_cons _ _ _)
 . rintro σ' S' ⟨acc,last,u,v,w,rfl,rfl,hlen,hls,hdu⟩
   refine ⟨trivial,?_⟩
   rw [List.drop_eq_nil_of_le (by omega),du_nil] at hdu
   bv_omega
   refine .frz put_same (Le.put hrl) hrl ?_
   rw [hdu] at hq
   show Q (.lst (acc.map rt)) S
   have hq:Q (.lst ((acc ++ []).map rt)) S:=hq
   rw [List.append_nil] at hq
   exact hq
theorem uniqW:∀ {l m:List Rt},Rise l->Rise m->(l.map (·.1)).Nodup->l.Perm m->l=m
 | [],m,_,_,_,p=>(List.nil_perm.mp p).symm
 | a :: l,[],_,_,_,p=>absurd p.length_eq (by simp)
 | a :: l,b :: m,h1,h2,hn,p=>by
   unfold Rise at h1 h2
   rw [List.map_cons,List.pairwise_cons] at h1 h2
   rw [List.map_cons,List.nodup_cons] at hn
   by_cases e:a=b
   . subst e
     rw [uniqW (l:=l) (m:=m) h1.2 h2.2 hn.2 (List.Perm.cons_inv p)]
   . have ha:a ∈ m:=by
       rcases List.mem_cons.mp (p.mem_iff.mp List.mem_cons_self) with h | h
       . exact absurd h e
       . exact h
     have hb:b ∈ l:=by
       rcases List.mem_cons.mp (p.mem_iff.mpr List.mem_cons_self) with h | h
       . exact absurd h.symm e
       . exact h
     have q1:=h1.1 b.1 (List.mem_map_of_mem hb)
     have q2:=h2.1 a.1 (List.mem_map_of_mem ha)
     rcases Ky.tri (show Ky.shp (.s a.1) (.s b.1)=true from rfl) with q | q | q
     . rw [q] at q2; cases q2
     . have:=Ky.s.inj q
       exact absurd (by rw [this]; exact List.mem_map_of_mem hb) hn.1
     . rw [q] at q1; cases q1
theorem rd_due (l:List Rt):(rd l).map (fun a=>(a.1,wrt a.2 0))=l:=by
 unfold rd
 rw [List.map_map]
 conv=>rhs; rw [<- List.map_id l]
 exact List.map_congr_left fun a _=>by simp [wrt]
noncomputable def spFound:WSp:=fun ts S Q=>∃ xs:List Str,ts=[.lst (xs.map T2.T.str)] /\ xs.length <= 60 /\ (∀ y ∈ xs,y.length <= 1000) /\ Q (dT (du "" 0 xs)) S
theorem sc_law_found:FnScope ["_law_texts","_law_told","e"] ["_law_texts"] (defScope s_law_found):=⟨rfl,rfl,rfl,by decide +kernel,rfl,by decide +kernel,by decide +kernel⟩
theorem ok_found {f f1 f2:Addr} {fd fd1 fd2:FuncData} (F:Fun K "_law_found" "_law_found" s_law_found f fd) (T:Txt K mg C XT XA fi)
   (G_read_wood:FnOk P w K mg base CX0 5 f1 fd1 ["texts"] (lSp K (spRead C))) (R_read_wood:FnOk P w K mg base (CX1 P w) 5 f1 fd1 ["texts"] (lSpR K (spReadR XT))) (D_read_wood:Df K mg "read_wood" f1 fd1 ["texts"])
   (G_Wood_words:FnOk P w K mg base CX0 4 f2 fd2 ["self"] (lSp K (spWWords C))) (M_Wood_words:Meth K C "words" f2) (B_Wood_words:Binds K fd2 ["self"] []) :
   FnOk P w K mg base CX0 6 f fd ["_law_texts"] (lSp K spFound):=by
 refine ok_def F sc_law_found (fun ts S Q h=>?_) fun cdv A outer s H E hr=>?_
 . obtain ⟨xs,rfl,_⟩:=h; rfl
 have nd:=sc_law_found.nd
 refine ⟨_,((qs_cons (q_set (i:=1) nd rfl (Or.inl rfl) q_non)
     (qs_cons (q_tryD ⟨rfl,rfl⟩ (qs_one (q_set (i:=1) nd rfl (Or.inl rfl) (Q_meth0 (T.gf M_Wood_words) G_Wood_words B_Wood_words (hr.mono (by decide)) (Q_call G_read_wood D_read_wood (hr.mono (by decide)) (by rfl) (qa_cons (Q_var 0) qa_nil (star_of rfl))))))
      (qrs_here (qr_set (Qr_methO (Qr_call R_read_wood D_read_wood (hr.mono (by decide)) (by rfl) (qa_cons (Q_var 0) qa_nil (star_of rfl))))))
      (qh_asD (i:=2) rfl nd rfl rfl (by rfl) T.mg_NoText (fun _=>(qs_one (q_set (i:=1) nd rfl (Or.inl rfl) (Q_xrow rfl T.gr (Q_var 2)))))))
     (qs_one (q_ret (Q_var 1)))))),fun ts S Q h=>?_⟩
 obtain ⟨xs,rfl,hn,hx,hq⟩:=h
 ac_nf
 bv_omega
 cases hd:du "" 0 xs with
 | inr l =>
   rw [hd] at hq
   refine j_tryN ?_
   bv_omega
   refine ⟨xs,l,rfl,hn,hx,hd,fun S' p d wo le hd0 hp0=>?_⟩
   obtain ⟨u1,u2,u3⟩:=du_up hd
   have hnd:(l.map (·.1)).Nodup:=u1.imp fun q=>ltS_ne q
   have hri:Rise l:=by unfold Rise; exact u1.imp fun q=>ltS_as q
   bv_omega
   refine ⟨p,C,_,rfl,wo.ins,rfl,rfl,?_⟩
   bv_omega
   refine ⟨p,d,0,rd l,rfl,wo,by unfold rd; rw [List.length_map]; omega,fun a ha=>?_,by unfold rd; rw [List.map_map]; exact hnd,fun a ha=>?_,fun l' h1 h2=>?_⟩
   . unfold rd at ha
     obtain ⟨b,_,rfl⟩:=List.mem_map.mp ha
     exact Int.le_refl _
   . unfold rd at ha
     obtain ⟨b,hb,rfl⟩:=List.mem_map.mp ha
     exact (u2 b hb).2
   . rw [rd_due] at h1
     have e:l'=l:=uniqW h2 hri ((h1.map _).nodup_iff.mpr hnd) h1
     subst e
     bv_omega
     exact .le le hq
 | inl r =>
   rw [hd] at hq
   refine j_tryR ?_
   bv_omega
   refine ⟨xs,r,rfl,hn,hx,hd,T.e_TT,r,rfl,fun a ha=>?_⟩
   bv_omega
   refine ⟨a,XT,r,rfl,put_same,rfl,?_⟩
   show wRet (wV 1) { nx:=fun x S'=>T2.Fin Q T2.T.non S',rt:=T2.Fin Q } [some (.lst (xs.map T2.T.str)),some (.int (r:Int)),none] _
   bv_omega
   exact .le (Le.put ha) hq
theorem as7_lit {z:Str} (h:(Tm.tl z).all (fun c=>decide (c < 128))=true):As7 z:=fun c hc=>of_decide_eq_true (List.all_eq_true.mp h c hc)
theorem slice_len (x:Str) (lo hi:Option Int):(Txt.slice x lo hi).length <= x.length:=by
 rw [<- Tm.len,<- Tm.len,Tm.tl_slice,List.length_take,List.length_drop]; omega
theorem As7.up {z:Str} (h:As7 z):As7 (Txt.upper z):=by
 rw [PyProof.Rows.upper_ascii h]
 intro c hc
 have hc:c ∈ (z.cps.map PyProof.Rows.up1).toList:=hc
 rw [Array.toList_map] at hc
 obtain ⟨d,hd,rfl⟩:=List.mem_map.mp hc
 have:=h d hd
 unfold PyProof.Rows.up1
 split <;> omega
theorem As7.one {d:Nat} (h:d < 128):As7 ⟨#[d]⟩:=fun c hc=>by
 have:c=d:=by simpa [Tm.tl] using hc
 omega
theorem g_addS2 {S:Sto} {Q:T->Sto->Prop} {tr:Bool} {a c:Str} (h0:a.length <= 1000) (h1:c.length <= 1000) (h:Q (.str (a ++ c)) S):gAdd tr (.str a) (.str c) S Q:=g_addS (by rw [sizeLine_eq]; omega) h
theorem g_mul9 {S:Sto} {Q:T->Sto->Prop} (h:Q (.str "999999999999999") S):gMulS (.str "9") (.int 15) S Q:=⟨_,_,rfl,rfl,⟨by decide,by decide,by decide⟩,by rw [show PySem.Txt.mul "9" 15="999999999999999" by decide +kernel]; exact h⟩
theorem g_mul0 {S:Sto} {Q:T->Sto->Prop} (h:Q (.str "000000000000000") S):gMulS (.str "0") (.int 15) S Q:=⟨_,_,rfl,rfl,⟨by decide,by decide,by decide⟩,by rw [show PySem.Txt.mul "0" 15="000000000000000" by decide +kernel]; exact h⟩
noncomputable def Tz (B:Nat) (t:T2.T):Prop:=∃ y:Str,t=.str y /\ y.length <= B /\ As7 y
noncomputable def spBentT:WSp:=fun ts S Q=>∃ p x o,ts=[.ref p,.str x] /\ S p=some o /\ IsBox o /\ x.length <= 200 /\ As7 x /\ ∀ y o',y.length <= 4 * x.length + 40->As7 y->IsBox o'->Q (.str y) (put S p o')
theorem sc_law_bent_text:FnScope ["_law_box_here","_law_text","_law_number_here","_law_word_here","_law_numbers","_law_words","_law_kind","_law_at"] ["_law_box_here","_law_text"] (defScope s_law_bent_text):=⟨rfl,rfl,rfl,by decide +kernel,rfl,by decide +kernel,by decide +kernel⟩
theorem ok_bentt {f f1:Addr} {fd fd1:FuncData} (F:Fun K "_law_bent_text" "_law_bent_text" s_law_bent_text f fd) (T:Txt K mg C XT XA fi) (G__law_take:FnOk P w K mg base CX0 1 f1 fd1 ["_law_box_here","_law_many"] (lSp K spTake)) (D__law_take:Df K mg "_law_take" f1 fd1 ["_law_box_here","_law_many"]) :
   FnOk P w K mg base CX0 2 f fd ["_law_box_here","_law_text"] (lSp K spBentT):=by
 refine ok_def F sc_law_bent_text (fun ts S Q h=>?_) fun cdv A outer s H E hr=>?_
 . obtain ⟨p,x,o,rfl,_⟩:=h; rfl
 have nd:=sc_law_bent_text.nd
 refine ⟨_,((qs_cons (q_set (i:=2) nd rfl (Or.inl rfl) (q_ix rfl (Q_bm rfl PySem.F.plainAttrs_str PySem.F.slot_str_split PySem.F.type_str_split (m_split false) (Q_var 1) (qa_cons q_str qa_nil (star_of rfl)) (fun h1 h2 h3=>pe_bm PySem.F.plainAttrs_str PySem.F.slot_str_split PySem.F.type_str_split h2 h1 h3)) q_int (fun _ _=>rfl)))
     (qs_cons (q_set (i:=3) nd rfl (Or.inl rfl) (q_slice false rfl (Q_var 1) (qo_some (q_op (o_add false) (Q_cb (c_len rfl) (by rfl) T.len PySem.boot_len (qa_cons (Q_var 2) qa_nil (star_of rfl))) q_int)) qo_none))
     (qs_cons (q_set (i:=4) nd rfl (Or.inl rfl) (q_lst (qa_cons q_str (qa_cons (q_op (o_add false) q_str (Q_var 2)) (qa_cons (q_op (o_add false) q_str (Q_var 2)) (qa_cons q_str (qa_cons q_str (qa_cons (q_op o_mulS q_str q_int) (qa_cons (q_op (o_add false) q_str (q_op o_mulS q_str q_int)) (qa_cons q_str (qa_cons q_str (qa_cons q_str (qa_cons q_str qa_nil (star_of rfl)) (star_of rfl)) (star_of rfl)) (star_of rfl)) (star_of rfl)) (star_of rfl)) (star_of rfl)) (star_of rfl)) (star_of rfl)) (star_of rfl)) (star_of rfl))))
     (qs_cons (q_set (i:=5) nd rfl (Or.inl rfl) (q_lst (qa_cons q_str (qa_cons q_str (qa_cons (q_op (o_add false) (Q_var 3) q_str) (qa_cons (q_op (o_add false) q_str (Q_var 3)) (qa_cons (q_op (o_add false) (Q_var 3) q_str) (qa_cons q_str (qa_cons q_str (qa_cons q_str qa_nil (star_of rfl)) (star_of rfl)) (star_of rfl)) (star_of rfl)) (star_of rfl)) (star_of rfl)) (star_of rfl)) (star_of rfl))))
     (qs_cons (q_set (i:=5) nd rfl (Or.inl rfl) (q_op (o_add false) (Q_var 5) (q_lst (qa_cons (q_op (o_add false) (Q_var 3) q_str) (qa_cons (Q_bm0 rfl PySem.F.plainAttrs_str PySem.F.slot_str_upper PySem.F.type_str_upper m_upper (Q_var 3) (fun h1 h2=>pe_bm0 PySem.F.plainAttrs_str PySem.F.slot_str_upper PySem.F.type_str_upper h2 h1)) (qa_cons q_str (qa_cons (q_op (o_add false) q_str (Q_var 3)) (qa_cons (q_slice false rfl (Q_var 3) qo_none (qo_some (q_neg q_int))) qa_nil (star_of rfl)) (star_of rfl)) (star_of rfl)) (star_of rfl)) (star_of rfl)))))
     (qs_cons (q_set (i:=6) nd rfl (Or.inl rfl) (Q_call G__law_take D__law_take (hr.mono (by decide)) (by rfl) (qa_cons (Q_var 0) (qa_cons q_int qa_nil (star_of rfl)) (star_of rfl))))
     (qs_cons (q_if (q_tcmp o_lt (Q_var 6) q_int (nomark _))
      (qs_one (q_ret (q_op (o_add false) (q_op (o_add false) (q_ix rfl (Q_var 4) (Q_call G__law_take D__law_take (hr.mono (by decide)) (by rfl) (qa_cons (Q_var 0) (qa_cons q_int qa_nil (star_of rfl)) (star_of rfl))) (fun _ _=>rfl)) q_str) (Q_var 3))))
      qs_nil)
     (qs_cons (q_if (q_tcmp o_lt (Q_var 6) q_int (nomark _))
      (qs_one (q_ret (q_op (o_add false) (q_op (o_add false) (Q_var 2) q_str) (q_ix rfl (Q_var 5) (Q_call G__law_take D__law_take (hr.mono (by decide)) (by rfl) (qa_cons (Q_var 0) (qa_cons q_int qa_nil (star_of rfl)) (star_of rfl))) (fun _ _=>rfl)))))
      qs_nil)
     (qs_cons (q_set (i:=7) nd rfl (Or.inl rfl) (Q_call G__law_take D__law_take (hr.mono (by decide)) (by rfl) (qa_cons (Q_var 0) (qa_cons (q_op (o_add false) (Q_cb (c_len rfl) (by rfl) T.len PySem.boot_len (qa_cons (Q_var 1) qa_nil (star_of rfl))) q_int) qa_nil (star_of rfl)) (star_of rfl))))
     (qs_cons (q_if (q_tcmp (o_eq rfl hr.units) (Q_var 6) q_int (nomark _))
      (qs_one (q_ret (q_op (o_add false) (q_op (o_add false) (q_slice false rfl (Q_var 1) qo_none (qo_some (Q_var 7))) (q_ix rfl q_str (Q_call G__law_take D__law_take (hr.mono (by decide)) (by rfl) (qa_cons (Q_var 0) (qa_cons q_int qa_nil (star_of rfl)) (star_of rfl))) (fun _ _=>rfl))) (q_slice false rfl (Q_var 1) (qo_some (Q_var 7)) qo_none))))
      qs_nil)
     (qs_one (q_ret (q_op (o_add false) (q_slice false rfl (Q_var 1) qo_none (qo_some (Q_var 7))) (q_slice false rfl (Q_var 1) (qo_some (q_op (o_add false) (Q_var 7) q_int)) qo_none))))))))))))))),fun ts S Q h=>?_⟩
 obtain ⟨p,x,o,rfl,hp,hf,hx,hxa,hq⟩:=h
 have hsp:=PyProof.Rows.split_pos x " "
 have hsp2:(0:Int) < ((Txt.split x " ").length:Nat):=by omega
 ac_nf
 refine i_mid (fun σ' S'=>∃ z,σ'=[some (.ref p),some (.str x),some (.str z),none,none,none,none,none] /\ S'=S /\ z.length <= x.length /\ As7 z) ?_ ?_
 . intro X hX
   bv_omega
   exact hX _ _ ⟨z,rfl,rfl,Tm.split_mem hz,hxa.split hz⟩
 rintro σ' S' ⟨z,rfl,rfl,hzl,hza⟩
 refine i_mid (fun σ' S2=>∃ wd,σ'=[some (.ref p),some (.str x),some (.str z),some (.str wd),none,none,none,none] /\ S2=S' /\ wd.length <= x.length /\ As7 wd) ?_ ?_
 . intro X hX
   bv_omega
   exact hX _ _ ⟨_,rfl,rfl,slice_len _ _ _,hxa.slice _ _⟩
 rintro σ' S2 ⟨wd,rfl,rfl,hwl,hwa⟩
 have bl7:As7 " ":=as7_lit (by decide +kernel)
 have lit:∀ {y:Str},(Tm.tl y).all (fun c=>decide (c < 128))=true->y.length <= 30->Tz (3 * x.length + 30) (.str y):=fun {y} h1 h2=>⟨y,rfl,by omega,as7_lit h1⟩
 have app:∀ {a b:Str},As7 a->As7 b->a.length + b.length <= 3 * x.length + 30->Tz (3 * x.length + 30) (.str (a ++ b)):=fun {a b} h1 h2 h3=>⟨_,rfl,by rw [PySem.Str.length_append]; exact h3,h1.app h2⟩
 have litN:∀ {y:Str},(Tm.tl y).all (fun c=>decide (c < 128))=true->y.length <= 30->Tz (x.length + 30) (.str y):=fun {y} h1 h2=>⟨y,rfl,by omega,as7_lit h1⟩
 have appN:∀ {a b:Str},As7 a->As7 b->a.length + b.length <= x.length + 30->Tz (x.length + 30) (.str (a ++ b)):=fun {a b} h1 h2 h3=>⟨_,rfl,by rw [PySem.Str.length_append]; exact h3,h1.app h2⟩
 refine i_mid (fun σ' S'=>∃ nl,σ'=[some (.ref p),some (.str x),some (.str z),some (.str wd),some (.lst nl),none,none,none] /\ S'=S2 /\ nl.length=11 /\ ∀ t ∈ nl,Tz (x.length + 30) t) ?_ ?_
 . intro X hX
   bv_omega
   refine hX _ _ ⟨_,rfl,rfl,rfl,fun t ht=>?_⟩
   simp only [List.mem_cons,List.not_mem_nil,or_false] at ht
   rcases ht with rfl | rfl | rfl | rfl | rfl | rfl | rfl | rfl | rfl | rfl | rfl
   . exact litN (by decide +kernel) (by decide +kernel)
   . exact appN (as7_lit (by decide +kernel)) hza (by have:(Str.ofString "0").length=1:=rfl; omega)
   . exact appN (as7_lit (by decide +kernel)) hza (by have:(Str.ofString "-").length=1:=rfl; omega)
   . exact litN (by decide +kernel) (by decide +kernel)
   . exact litN (by decide +kernel) (by decide +kernel)
   . exact litN (by decide +kernel) (by decide +kernel)
   . exact litN (by decide +kernel) (by decide +kernel)
   . exact litN (by decide +kernel) (by decide +kernel)
   . exact litN (by decide +kernel) (by decide +kernel)
   . exact litN (by decide +kernel) (by decide +kernel)
   . exact litN (by decide +kernel) (by decide +kernel)
 rintro σ' S3 ⟨nl,rfl,rfl,hnl,hnt⟩
 refine i_mid (fun σ' S'=>∃ wl,σ'=[some (.ref p),some (.str x),some (.str z),some (.str wd),some (.lst nl),some (.lst wl),none,none] /\ S'=S3 /\ wl.length=8 /\ ∀ t ∈ wl,Tz (3 * x.length + 30) t) ?_ ?_
 . intro X hX
   bv_omega
   refine hX _ _ ⟨_,rfl,rfl,rfl,fun t ht=>?_⟩
   simp only [List.mem_cons,List.not_mem_nil,or_false] at ht
   rcases ht with rfl | rfl | rfl | rfl | rfl | rfl | rfl | rfl
   . exact lit (by decide +kernel) (by decide +kernel)
   . exact lit (by decide +kernel) (by decide +kernel)
   . exact app hwa (as7_lit (by decide +kernel)) (by have:(Str.ofString " ").length=1:=rfl; omega)
   . exact app (as7_lit (by decide +kernel)) hwa (by have:(Str.ofString " ").length=1:=rfl; omega)
   . exact app hwa (as7_lit (by decide +kernel)) (by have:(Str.ofString "  a").length=3:=rfl; omega)
   . exact lit (by decide +kernel) (by decide +kernel)
   . exact lit (by decide +kernel) (by decide +kernel)
   . exact lit (by decide +kernel) (by decide +kernel)
 rintro σ' S4 ⟨wl,rfl,rfl,hwl8,hwt⟩
 refine i_mid (fun σ' S'=>∃ wl,σ'=[some (.ref p),some (.str x),some (.str z),some (.str wd),some (.lst nl),some (.lst wl),none,none] /\ S'=S4 /\ wl.length=13 /\ ∀ t ∈ wl,Tz (3 * x.length + 30) t) ?_ ?_
 . intro X hX
   bv_omega
   refine g_addL rfl rfl (by rw [hwl8,sizeLine_eq]; show 8 + 5 <= 16777216; decide) ?_
   bv_omega
   refine hX _ _ ⟨_,rfl,rfl,by rw [List.length_append,hwl8]; rfl,fun t ht=>?_⟩
   rcases List.mem_append.mp ht with ht | ht
   . exact hwt t ht
   simp only [List.mem_cons,List.not_mem_nil,or_false] at ht
   have hsl:=slice_len wd none (some (-1))
   rcases ht with rfl | rfl | rfl | rfl | rfl
   . exact app hwa (as7_lit (by decide +kernel)) (by have:(Str.ofString "-").length=1:=rfl; omega)
   . exact ⟨_,rfl,by omega,hwa.up⟩
   . exact lit (by decide +kernel) (by decide +kernel)
   . exact app (as7_lit (by decide +kernel)) hwa (by have:(Str.ofString "b").length=1:=rfl; omega)
   . exact ⟨_,rfl,by omega,hwa.slice _ _⟩
 rintro σ' S5 ⟨wl,rfl,rfl,hwl13,hwt⟩
 bv_omega
 refine ifB (fun hb=>?_) fun hb=>?_
 . bv_omega
   refine g_ixP (Tz (x.length + 30)) hr0 (by rw [hnl]; exact hr1) hnt ?_
   rintro _ ⟨y,rfl,hyl,hya⟩
   bv_omega
   exact .mk (hq _ _ (by simp only [PySem.Str.length_append,Tm.len_blank]; omega) ((hya.app bl7).app hwa) hbx)
 bv_omega
 refine ifB (fun hb=>?_) fun hb=>?_
 . bv_omega
   refine g_ixP (Tz (3 * x.length + 30)) hr0 (by rw [hwl13]; exact hr1) hwt ?_
   rintro _ ⟨y,rfl,hyl,hya⟩
   bv_omega
   exact .mk (hq _ _ (by simp only [PySem.Str.length_append,Tm.len_blank]; omega) ((hza.app bl7).app hya) hbx)
 bv_omega
 refine ifB (fun hb=>?_) fun hb=>?_
 . bv_omega
   refine g_ixSP (by decide) hr0 (show _ < ((5:Nat):Int) from hr1) fun d hd ed=>?_
   have hd7:=as7_lit (z:=" a0-B") (by decide +kernel) d hd
   refine g_addS2 (Nat.le_trans (slice_len _ _ _) (by omega)) (by rw [Tm.len_one]; decide) ?_
   bv_omega
   refine g_addS2 (by rw [PySem.Str.length_append]; exact Nat.le_trans (Nat.add_le_add (slice_len _ _ _) (Nat.le_refl 1)) (by omega)) (Nat.le_trans (slice_len _ _ _) (by omega)) ?_
   refine .mk (hq _ _ ?_ (((hxa.slice _ _).app (.one hd7)).app (hxa.slice _ _)) hbx)
   rw [PySem.Str.length_append,PySem.Str.length_append]
   exact Nat.le_trans (Nat.add_le_add (Nat.add_le_add (slice_len _ _ _) (Nat.le_refl 1)) (slice_len _ _ _)) (by omega)
 bv_omega
 refine g_addS2 (Nat.le_trans (slice_len _ _ _) (by omega)) (Nat.le_trans (slice_len _ _ _) (by omega)) ?_
 refine .mk (hq _ _ ?_ ((hxa.slice _ _).app (hxa.slice _ _)) hbx)
 rw [PySem.Str.length_append]
 exact Nat.le_trans (Nat.add_le_add (slice_len _ _ _) (slice_len _ _ _)) (by omega)
theorem i_bentt {S:Sto} {Q:T->Sto->Prop} {p:Addr} {x:Str} {o:O} (e:S p=some o) (hf:IsBox o) (hx:x.length <= 200) (ha:As7 x) (h:∀ y o',y.length <= 4 * x.length + 40->As7 y->IsBox o'->Q (.str y) (put S p o')):spBentT ([.ref p,.str x] ++ []) S Q:=⟨p,x,o,rfl,e,hf,hx,ha,h⟩
theorem Lv.list {S:Sto} {t:T2.T} {us:List T2.T} {Q:T->Sto->Prop} {tr:Bool} (h:Lv S t us) (q:newL tr us S Q):gList tr [t] S Q:=by
 rcases h with rfl | ⟨a,rfl,e⟩
 . exact g_listL q
 . exact g_listR e q
theorem erase_map {α β:Type} (f:α->β) (l:List α) (i:Nat):(l.map f).eraseIdx i=(l.eraseIdx i).map f:=by
 rw [List.eraseIdx_eq_take_drop_succ,List.eraseIdx_eq_take_drop_succ,List.map_append,List.map_take,List.map_drop]
theorem ixN_nat {n i:Nat} (h:i < n):ixN n (i:Int)=some i:=by simp [ixN,h]
noncomputable def Gt (B:Nat) (ys:List Str):Prop:=∀ y ∈ ys,y.length <= B /\ As7 y
noncomputable def spBent:WSp:=fun ts S Q=>∃ (p:Addr) (x:T2.T) (xs:List Str) (o:O) (B:Nat),ts=[.ref p,x] /\ S p=some o /\ IsBox o /\ Lv S x (xs.map T2.T.str) /\ 1 <= xs.length /\ xs.length <= 50 /\ B <= 200 /\ Gt B xs /\
 ∀ S' rl ys o',S rl=none->S' rl=some (.lst (ys.map T2.T.str))->S' p=some o'->IsBox o'->(∀ b,b ≠ p->b ≠ rl->S' b=S b)->ys.length <= xs.length + 1->Gt (4 * B + 40) ys->Q (.ref rl) S'
theorem sc_law_bent:FnScope ["_law_box_here","_law_texts","_law_found_here","_law_at","_law_kind","_law_text"] ["_law_box_here","_law_texts"] (defScope s_law_bent):=⟨rfl,rfl,rfl,by decide +kernel,rfl,by decide +kernel,by decide +kernel⟩
theorem ok_bent {f f1 f2:Addr} {fd fd1 fd2:FuncData} (F:Fun K "_law_bent" "_law_bent" s_law_bent f fd) (T:Txt K mg C XT XA fi) (G__law_take:FnOk P w K mg base CX0 1 f1 fd1 ["_law_box_here","_law_many"] (lSp K spTake)) (D__law_take:Df K mg "_law_take" f1 fd1 ["_law_box_here","_law_many"])
   (G__law_bent_text:FnOk P w K mg base CX0 2 f2 fd2 ["_law_box_here","_law_text"] (lSp K spBentT)) (D__law_bent_text:Df K mg "_law_bent_text" f2 fd2 ["_law_box_here","_law_text"]) :
   FnOk P w K mg base CX0 3 f fd ["_law_box_here","_law_texts"] (lSp K spBent):=by
 refine ok_def F sc_law_bent (fun ts S Q h=>?_) fun cdv A outer s H E hr=>?_
 . obtain ⟨p,x,xs,o,B,rfl,_⟩:=h; rfl
 have nd:=sc_law_bent.nd
 refine ⟨_,((qs_cons (q_set (i:=2) nd rfl (Or.inl rfl) (Q_cty (c_list true rfl) (by rfl) T.list PyProof.Rows.boot_list (qa_cons (Q_var 1) qa_nil (star_of rfl))))
     (qs_cons (q_set (i:=3) nd rfl (Or.inl rfl) (Q_call G__law_take D__law_take (hr.mono (by decide)) (by rfl) (qa_cons (Q_var 0) (qa_cons (Q_cb (c_len rfl) (by rfl) T.len PySem.boot_len (qa_cons (Q_var 2) qa_nil (star_of rfl))) qa_nil (star_of rfl)) (star_of rfl))))
     (qs_cons (q_set (i:=4) nd rfl (Or.inl rfl) (Q_call G__law_take D__law_take (hr.mono (by decide)) (by rfl) (qa_cons (Q_var 0) (qa_cons q_int qa_nil (star_of rfl)) (star_of rfl))))
     (qs_cons (q_if (q_tcmp (o_eq rfl hr.units) (Q_var 4) q_int (nomark _))
      (qs_one (q_expr (Q_bm rfl PySem.F.plainAttrs_list PySem.F.slot_list_pop PySem.F.type_list_pop m_popAt (Q_var 2) (qa_cons (Q_var 3) qa_nil (star_of rfl)) (fun h1 h2 h3=>pe_bm PySem.F.plainAttrs_list PySem.F.slot_list_pop PySem.F.type_list_pop h2 h1 h3))))
      (qs_one (q_if (q_tcmp (o_eq rfl hr.units) (Q_var 4) q_int (nomark _))
      (qs_one (q_expr (Q_bm rfl PySem.F.plainAttrs_list PySem.F.slot_list_insert PySem.F.type_list_insert m_insert (Q_var 2) (qa_cons (Q_call G__law_take D__law_take (hr.mono (by decide)) (by rfl) (qa_cons (Q_var 0) (qa_cons (q_op (o_add false) (Q_cb (c_len rfl) (by rfl) T.len PySem.boot_len (qa_cons (Q_var 2) qa_nil (star_of rfl))) q_int) qa_nil (star_of rfl)) (star_of rfl))) (qa_cons (q_ix rfl (Q_var 2) (Q_var 3) (fun _ _=>rfl)) qa_nil (star_of rfl)) (star_of rfl)) (fun h1 h2 h3=>pe_bm PySem.F.plainAttrs_list PySem.F.slot_list_insert PySem.F.type_list_insert h2 h1 h3))))
      (qs_one (q_if (q_tcmp (o_eq rfl hr.units) (Q_var 4) q_int (nomark _))
      (qs_cons (q_set (i:=5) nd rfl (Or.inl rfl) (Q_bm rfl PySem.F.plainAttrs_list PySem.F.slot_list_pop PySem.F.type_list_pop m_popAt (Q_var 2) (qa_cons (Q_var 3) qa_nil (star_of rfl)) (fun h1 h2 h3=>pe_bm PySem.F.plainAttrs_list PySem.F.slot_list_pop PySem.F.type_list_pop h2 h1 h3)))
     (qs_one (q_expr (Q_bm rfl PySem.F.plainAttrs_list PySem.F.slot_list_insert PySem.F.type_list_insert m_insert (Q_var 2) (qa_cons (Q_call G__law_take D__law_take (hr.mono (by decide)) (by rfl) (qa_cons (Q_var 0) (qa_cons (q_op (o_add false) (Q_cb (c_len rfl) (by rfl) T.len PySem.boot_len (qa_cons (Q_var 2) qa_nil (star_of rfl))) q_int) qa_nil (star_of rfl)) (star_of rfl))) (qa_cons (Q_var 5) qa_nil (star_of rfl)) (star_of rfl)) (fun h1 h2 h3=>pe_bm PySem.F.plainAttrs_list PySem.F.slot_list_insert PySem.F.type_list_insert h2 h1 h3)))))
      (qs_one (q_asg (fun h g=>ps_asg h g) (Q_call G__law_bent_text D__law_bent_text (hr.mono (by decide)) (by rfl) (qa_cons (Q_var 0) (qa_cons (q_ix rfl (Q_var 2) (Q_var 3) (fun _ _=>rfl)) qa_nil (star_of rfl)) (star_of rfl))) (Q_gsub (Q_var 2) (Q_var 3) p_setL (fun h1 h2 h3=>pg_sub h1 h2 h3)))))))))
     (qs_one (q_ret (Q_var 2)))))))),fun ts S Q h=>?_⟩
 obtain ⟨p,x,xs,o,B,rfl,hp,hf,hv,h1,h50,hB,hg,hq⟩:=h
 ac_nf
 bv_omega
 refine hv.list ?_
 intro rl hrl
 have hpr:p ≠ rl:=fun e=>by rw [e,hrl] at hp; cases hp
 refine i_gN2 rfl ?_
 dsimp only
 refine i_mid (fun σ' S'=>∃ (i:Nat) (o1:O),i < xs.length /\ σ'=[some (.ref p),some x,some (.ref rl),some (.int i),none,none] /\ S'=put (put S rl (.lst (xs.map T2.T.str))) p o1 /\ IsBox o1) ?_ ?_
 . intro X hX
   bv_omega
   refine hX _ _ ⟨r.toNat,_,by omega,?_,rfl,hbx⟩
   rw [Int.toNat_of_nonneg hr0]
 rintro σ' S' ⟨i,o1,hi,rfl,rfl,hb1⟩
 have hat:(xs.map T2.T.str)[((i:Nat):Int).toNat]?=some (T2.T.str xs[i]):=by simp [hi]
 have hat2:atI (xs.map T2.T.str) (i:Int)=some (T2.T.str xs[i]):=by rw [atI_nat]; simp [hi]
 have hxi:=List.getElem_mem hi
 generalize xs[i]=y at hat hat2 hxi
 have hgy:=hg y hxi
 have big:∀ {z:Str},z ∈ xs->z.length <= 4 * B + 40 /\ As7 z:=fun {z} hz=>⟨by have:=(hg z hz).1; omega,(hg z hz).2⟩
 have fin:∀ (S':Sto) (ys:List Str) (o':O),S' rl=some (.lst (ys.map T2.T.str))->S' p=some o'->IsBox o'->(∀ b,b ≠ p->b ≠ rl->S' b=S b)->ys.length <= xs.length + 1->(∀ z ∈ ys,z ∈ xs \/ (z.length <= 4 * B + 40 /\ As7 z))->T2.Fin Q (.ref rl) S':=fun S' ys o' a b c d e g=>.mk (hq S' rl ys o' hrl a b c d e fun z hz=>(g z hz).elim big id)
 clear hq
 bv_omega
 refine ifB (fun hb=>?_) fun hb=>?_
 . bv_omega
   refine g_popAt ((put_ne hpr.symm).trans put_same) (by omega) (by omega) hat ?_
   bv_omega
   refine fin _ (xs.eraseIdx i) _ (by rw [put_same,Int.toNat_natCast,erase_map]) ((put_ne hpr).trans put_same) hbx (fun b h1 h2=>by rw [put_ne h2,put_ne h1,put_ne h2]) (by have:=List.length_eraseIdx_le xs i; omega) fun z hz=>.inl (List.mem_of_mem_eraseIdx hz)
 bv_omega
 refine ifB (fun hb=>?_) fun hb=>?_
 . bv_omega
   refine g_insert ((put_ne hpr.symm).trans put_same) (by rw [List.length_map,sizeLine_eq]; omega) hr0 (by omega) ?_
   bv_omega
   refine fin _ (xs.take r.toNat ++ z :: xs.drop r.toNat) _ (by rw [put_same,List.map_append,List.map_cons,List.map_take,List.map_drop]) ((put_ne hpr).trans put_same) hbx (fun b h1 h2=>by rw [put_ne h2,put_ne h1,put_ne h2]) (by simp only [List.length_append,List.length_cons,List.length_take,List.length_drop]; omega) fun u hu=>?_
   rcases List.mem_append.mp hu with h | h
   . exact .inl (List.mem_of_mem_take h)
   . rcases List.mem_cons.mp h with rfl | h
     . exact .inl hz
     . exact .inl (List.mem_of_mem_drop h)
 bv_omega
 refine ifB (fun hb=>?_) fun hb=>?_
 . bv_omega
   refine g_popAt ((put_ne hpr.symm).trans put_same) (by omega) (by omega) hat ?_
   rw [Int.toNat_natCast,erase_map]
   have hel:(xs.eraseIdx i).length=xs.length - 1:=List.length_eraseIdx_of_lt hi
   have hes:∀ z ∈ xs.eraseIdx i,z ∈ xs:=fun z hz=>List.mem_of_mem_eraseIdx hz
   generalize xs.eraseIdx i=es at hel hes ⊢
   bv_omega
   refine g_insert ((put_ne hpr.symm).trans put_same) (by rw [List.length_map,sizeLine_eq]; omega) hr0 (by omega) ?_
   bv_omega
   refine fin _ (es.take r.toNat ++ y :: es.drop r.toNat) _ (by rw [put_same,List.map_append,List.map_cons,List.map_take,List.map_drop]) ((put_ne hpr).trans put_same) (by assumption) (fun b h1 h2=>by rw [put_ne h2,put_ne h1,put_ne h2,put_ne h1,put_ne h2]) (by simp only [List.length_append,List.length_cons,List.length_take,List.length_drop]; omega) fun u hu=>?_
   rcases List.mem_append.mp hu with h | h
   . exact .inl (hes _ (List.mem_of_mem_take h))
   . rcases List.mem_cons.mp h with rfl | h
     . exact .inl hxi
     . exact .inl (hes _ (List.mem_of_mem_drop h))
 bv_omega
 refine i_bentt put_same hbx (by have:=(hg z hz).1; omega) (hg z hz).2 fun y2 o2 hy2 ha2 hb2=>?_
 rw [put_put]
 bv_omega
 refine g_set ((put_ne hpr.symm).trans put_same) (ixN_nat (by rw [List.length_map]; exact hi)) ?_
 bv_omega
 refine fin _ (xs.set i y2) _ (by rw [put_same,List.map_set]) ((put_ne hpr).trans put_same) hb2 (fun b h1 h2=>by rw [put_ne h2,put_ne h1,put_ne h2]) (by rw [List.length_set]; omega) fun u hu=>?_
 rcases List.mem_or_eq_of_mem_set hu with h | rfl
 . exact .inl h
 . exact .inr ⟨by have:=(hg z hz).1; omega,ha2⟩
theorem eqv_strs:∀ ws:List Str,PyData.eqvAll (ws.map PyData.str) (ws.map PyData.str)=true
 | []=>rfl
 | a :: l=>by simp [PyData.eqvAll,PyData.eqv,eqv_strs l]
theorem g_neStrs {S:Sto} {Q:T2.T->Sto->Prop} {p:Addr} {ws:List Str} (e:S p=some (.lst (ws.map T2.T.str))) (h0:∀ a ∈ ws,PyData.strOk a=true) (h:Q (.bl false) S):gEq true (.lst (ws.map T2.T.str)) (.ref p) S Q:=by
 refine ⟨.list (ws.map .str),.list (ws.map .str),by show (datsT _).map PyData.list=_; rw [dats_strs]; rfl,by delta datS; dsimp only; rw [e]; show (datsT _).map PyData.list=_; rw [dats_strs]; rfl,by simp only [PyData.canLay0]; exact lay_strs h0,by simp only [PyData.canLay0]; exact lay_strs h0,?_,?_⟩
 . simp only [PyData.depth,dep_strs]; decide
 . have:PyData.eqv (.list (ws.map .str)) (.list (ws.map .str))=true:=by simp only [PyData.eqv,eqv_strs]
   rw [this]; exact h
noncomputable def spLaw:WSp:=fun ts S Q=>∃ ns:List Int,ts=[.scr ns] /\ Q (.bl true) S
theorem eq_rt {S:Sto} {n:Nat} (p:Rt):Eqv S (n + 2) (rt p) (rt p):=by
 refine .inr (.inr (.inr (.inl ⟨[.str p.1,.int p.2],[.str p.1,.int p.2],rfl,rfl,rfl,(show 2 <= 1000 by decide),fun i a b h1 h2=>?_⟩)))
 rw [h1] at h2
 cases h2
 rcases i with _ | _ | i
 . cases h1; exact .inr (.inl ⟨_,rfl,rfl⟩)
 . cases h1; exact .inr (.inr (.inl ⟨_,rfl,rfl⟩))
 . simp at h1
theorem eq_dT {S:Sto} {n:Nat} (d:Sum Nat (List Rt)) (h:∀ l,d=.inr l->l.length <= 1000):Eqv S (n + 3) (dT d) (dT d):=by
 cases d with
 | inl r=>exact .inr (.inr (.inl ⟨_,rfl,rfl⟩))
 | inr l =>
   refine .inr (.inr (.inr (.inr ⟨l.map rt,l.map rt,.inl rfl,.inl rfl,rfl,by rw [List.length_map]; exact h l rfl,fun i a b h1 h2=>?_⟩)))
   rw [h1] at h2
   cases h2
   rw [List.getElem?_map] at h1
   obtain ⟨p,_,rfl⟩:=Option.map_eq_some_iff.mp h1
   exact eq_rt p
noncomputable def unS:T2.T->Ky
 | .str x=>.s x
 | _=>.i 0
theorem line7 {n:Nat} {z:Str} (hz:Wm.Wd z=true):As7 (Nm.D n ++ " " ++ z):=by
 refine As7.app (As7.app (fun c hc=>?_) (as7_lit (by decide +kernel))) fun c hc=>?_
 . have:=Nm.digit hc; omega
 . rcases Wm.wd_signs hz c hc with h | h
   . omega
   . unfold Sc.isL at h
     simp only [Bool.and_eq_true,decide_eq_true_eq] at h
     omega
theorem le_fr {S T T':Sto} {q rl:Addr} (le:Le S T) (hq:S q=none) (hr:T rl=none) (fr:∀ b,b ≠ q->b ≠ rl->T' b=T b):Le S T':=fun b u e=>by
 have e':=le b u e
 rw [fr b (fun z=>by rw [z,hq] at e; cases e) (fun z=>by rw [z,hr] at e'; cases e')]; exact e'
theorem le_no {S T:Sto} {q:Addr} (le:Le S T) (h:T q=none):S q=none:=by
 cases x:S q with
 | none=>rfl
 | some o=>rw [le q o x] at h; cases h
theorem sc_law:FnScope ["_law_script","_law_pool_here","_law_box_here","_law_texts","_law_k","_law_bent_here","_law_handed"] ["_law_script"] (defScope s_law):=⟨rfl,rfl,rfl,by decide +kernel,rfl,by decide +kernel,by decide +kernel⟩
theorem ok_law {f f1 f2 f3 f4 f5 f6 f7 f8:Addr} {fd fd1 fd2 fd3 fd4 fd5 fd6 fd7 fd8:FuncData} (F:Fun K "law" "law" s_law f fd) (T:Txt K mg C XT XA fi)
   (G__law_pool:FnOk P w K mg base CX0 3 f1 fd1 ["_law_script","_law_first","_law_most"] (lSp K spPool)) (D__law_pool:Df K mg "_law_pool" f1 fd1 ["_law_script","_law_first","_law_most"])
   (G__law_box:FnOk P w K mg base CX0 2 f2 fd2 ["_law_script","_law_k"] (lSp K spBox)) (D__law_box:Df K mg "_law_box" f2 fd2 ["_law_script","_law_k"])
   (G__law_take:FnOk P w K mg base CX0 1 f3 fd3 ["_law_box_here","_law_many"] (lSp K spTake)) (D__law_take:Df K mg "_law_take" f3 fd3 ["_law_box_here","_law_many"])
   (G__law_count:FnOk P w K mg base CX0 2 f4 fd4 ["_law_box_here"] (lSp K spCount)) (D__law_count:Df K mg "_law_count" f4 fd4 ["_law_box_here"])
   (G__law_same:FnOk P w K mg base CX0 5 f5 fd5 ["_law_found_here","_law_due_here"] (lSp K (spSame 4))) (D__law_same:Df K mg "_law_same" f5 fd5 ["_law_found_here","_law_due_here"])
   (G__law_found:FnOk P w K mg base CX0 6 f6 fd6 ["_law_texts"] (lSp K spFound)) (D__law_found:Df K mg "_law_found" f6 fd6 ["_law_texts"])
   (G__law_due:FnOk P w K mg base CX0 2 f7 fd7 ["_law_texts"] (lSp K spDue)) (D__law_due:Df K mg "_law_due" f7 fd7 ["_law_texts"])
   (G__law_bent:FnOk P w K mg base CX0 3 f8 fd8 ["_law_box_here","_law_texts"] (lSp K spBent)) (D__law_bent:Df K mg "_law_bent" f8 fd8 ["_law_box_here","_law_texts"]) :
   FnOk P w K mg base CX0 7 f fd ["_law_script"] (lSp K spLaw):=by
 refine ok_def F sc_law (fun ts S Q h=>?_) fun cdv A outer s H E hr=>?_
 . obtain ⟨ns,rfl,_⟩:=h; rfl
 have nd:=sc_law.nd
 refine ⟨_,((qs_cons (q_set (i:=1) nd rfl (Or.inl rfl) (Q_cb (c_sort false rfl (hr.mono (by decide))) (by rfl) T.sorted PyProof.Rows.boot_sorted (qa_cons (Q_call G__law_pool D__law_pool (hr.mono (by decide)) (by rfl) (qa_cons (Q_var 0) (qa_cons q_int (qa_cons q_int qa_nil (star_of rfl)) (star_of rfl)) (star_of rfl))) qa_nil (star_of rfl))))
     (qs_cons (q_set (i:=2) nd rfl (Or.inr rfl) (Q_call G__law_box D__law_box (hr.mono (by decide)) (by rfl) (qa_cons (Q_var 0) (qa_cons q_int qa_nil (star_of rfl)) (star_of rfl))))
     (qs_cons (q_setcomp false (i:=3) ["_law_word_here","_law_box_here"] 1 [2] rfl nd rfl (Or.inl rfl) (qi_list rfl (Q_var 1)) (fun _ _ _ _=>(Q_gname (i:=0) (show List.Nodup (["_law_word_here","_law_box_here"]:List Str) from by decide +kernel) rfl (Or.inl rfl))) (fun _ _ _ _=>qts_nil) (fun _ _ _ _=>(q_op (o_add false) (q_op (o_add false) (Q_cty c_strI (by rfl) T.str PyProof.Rows.boot_str (qa_cons (Q_call G__law_count D__law_count (hr.mono (by decide)) (by rfl) (qa_cons (Q_var 1) qa_nil (star_of rfl))) qa_nil (star_of rfl))) q_str) (Q_var 0))))
     (qs_cons (q_if (q_tnot (q_tval (Q_call G__law_same D__law_same (hr.mono (by omega)) (by rfl) (qa_cons (Q_call G__law_found D__law_found (hr.mono (by decide)) (by rfl) (qa_cons (Q_var 3) qa_nil (star_of rfl))) (qa_cons (Q_call G__law_due D__law_due (hr.mono (by decide)) (by rfl) (qa_cons (Q_var 3) qa_nil (star_of rfl))) qa_nil (star_of rfl)) (star_of rfl)))))
      (qs_one (q_ret q_bl))
      qs_nil)
     (qs_cons (q_for PassesOwn.never rfl (qi_range1 (by rfl) T.range q_int) (Q_gname (i:=4) nd rfl (Or.inl rfl))
      (qs_cons (q_set (i:=2) nd rfl (Or.inr rfl) (Q_call G__law_box D__law_box (hr.mono (by decide)) (by rfl) (qa_cons (Q_var 0) (qa_cons (q_op (o_add false) q_int (Q_var 4)) qa_nil (star_of rfl)) (star_of rfl))))
     (qs_cons (q_set (i:=5) nd rfl (Or.inl rfl) (Q_call G__law_bent D__law_bent (hr.mono (by decide)) (by rfl) (qa_cons (Q_var 2) (qa_cons (Q_var 3) qa_nil (star_of rfl)) (star_of rfl))))
     (qs_cons (q_if (q_tW (q_and (q_tcmp (o_eq rfl hr.units) (Q_call G__law_take D__law_take (hr.mono (by decide)) (by rfl) (qa_cons (Q_var 2) (qa_cons q_int qa_nil (star_of rfl)) (star_of rfl))) q_int (nomark _)) (q_and1 (q_tcmp o_gt (Q_cb (c_len rfl) (by rfl) T.len PySem.boot_len (qa_cons (Q_var 5) qa_nil (star_of rfl))) q_int (nomark _)))))
      (qs_one (q_set (i:=5) nd rfl (Or.inl rfl) (Q_call G__law_bent D__law_bent (hr.mono (by decide)) (by rfl) (qa_cons (Q_var 2) (qa_cons (Q_var 5) qa_nil (star_of rfl)) (star_of rfl)))))
      qs_nil)
     (qs_cons (q_set (i:=6) nd rfl (Or.inl rfl) (Q_cty (c_list false rfl) (by rfl) T.list PyProof.Rows.boot_list (qa_cons (Q_var 5) qa_nil (star_of rfl))))
     (qs_one (q_if (q_tW (q_or (q_tnot (q_tval (Q_call G__law_same D__law_same (hr.mono (by omega)) (by rfl) (qa_cons (Q_call G__law_found D__law_found (hr.mono (by decide)) (by rfl) (qa_cons (Q_var 6) qa_nil (star_of rfl))) (qa_cons (Q_call G__law_due D__law_due (hr.mono (by decide)) (by rfl) (qa_cons (Q_var 5) qa_nil (star_of rfl))) qa_nil (star_of rfl)) (star_of rfl))))) (q_or1 (q_tcmp (o_ne rfl hr.units) (Q_var 6) (Q_var 5) (nomark _)))))
      (qs_one (q_ret q_bl))
      qs_nil)))))))
     (qs_one (q_ret q_bl)))))))),fun ts S Q h=>?_⟩
 obtain ⟨ns,rfl,hq⟩:=h
 ac_nf
 bv_omega
 refine ⟨ns,0,8,rfl,by decide,by decide,by decide,by decide,fun ws hws hw1 hw10=>?_⟩
 bv_omega
 refine g_sort (ls:=ws) (fun z=>.s z) unS (.s ⟨#[]⟩) rfl (fun a _=>rfl) (by omega) rfl (by decide) (fun a ha=>⟨?_,rfl⟩) fun zs hp _=>?_
 . have:=Wm.wd_ok (hws.2 a ha)
   simp [S6.Ky.ok,this]
 have hzw:∀ z ∈ zs,Wm.Wd z=true:=fun z hz=>hws.2 z (hp.mem_iff.mp hz)
 have hzl:zs.length=ws.length:=hp.length_eq
 rw [show (fun a=>tre (Ky.s a))=T2.T.str from rfl]
 bv_omega
 refine comp_rule (fun items acc σ' S'=>∃ (rest xs:List Str) (u:Option T2.T) (o4:O),items=rest.map T2.T.str /\ (∀ z ∈ rest,Wm.Wd z=true) /\ acc=xs.map T2.T.str /\ xs.length + rest.length=zs.length /\ Gt 40 xs /\ σ'=[u,some (.ref q)] /\ S'=put S q o4 /\ IsBox o4)
   ⟨zs,[],none,_,rfl,hzw,rfl,by simp,(fun y hy=>by cases hy),rfl,rfl,hbx⟩ ?_ ?_
 . rintro t ts acc σ' S' N ⟨rest,xs,u,o4,hit,hrw,rfl,hl,hg,rfl,rfl,hb4⟩ hN
   cases rest with
   | nil=>cases hit
   | cons z rest =>
     obtain ⟨rfl,rfl⟩:=List.cons.inj hit
     have hz:=hrw z List.mem_cons_self
     have hzl2:=Wm.wd_len hz
     rw [List.length_cons] at hl
     refine ⟨trivial,?_⟩
     bv_omega
     refine g_strI (log_ok hr0 (by omega)) ?_
     rw [show Str.ofString (toString r)=Nm.D r.toNat by unfold Nm.D; rw [Int.toNat_of_nonneg hr0]]
     have hD:=Nm.len15 (n:=r.toNat) (by omega)
     bv_omega
     refine ⟨by rw [List.length_map,sizeLine_eq]; omega,hN _ _ _ ⟨rest,xs ++ [Nm.D r.toNat ++ " " ++ z],_,_,rfl,fun y hy=>hrw y (List.mem_cons_of_mem _ hy),by simp,by simp only [List.length_append,List.length_singleton]; omega,?_,rfl,rfl,by assumption⟩⟩
     intro y hy
     rcases List.mem_append.mp hy with h | h
     . exact hg y h
     . rw [List.mem_singleton.mp h]
       exact ⟨by simp only [PySem.Str.length_append,Tm.len_blank]; omega,line7 hz⟩
 rintro acc σ' S' ⟨rest,xs,u,o4,hit,hrw,rfl,hl,hg,rfl,rfl,hb4⟩
 refine ⟨trivial,?_⟩
 have:rest=[]:=by
   cases rest with
   | nil=>rfl
   | cons a l=>cases hit
 subst this
 rw [List.length_nil] at hl
 have hx1:1 <= xs.length:=by omega
 have hx10:xs.length <= 10:=by omega
 clear hit hrw hl hzw hzl hp
 bv_omega
 refine ⟨xs,rfl,by omega,fun y hy=>by have:=(hg y hy).1; omega,?_⟩
 bv_omega
 refine ⟨_,xs,rfl,.inl rfl,by omega,fun y hy=>⟨by have:=(hg y hy).1; omega,(hg y hy).2⟩,?_⟩
 bv_omega
 refine ⟨_,_,rfl,eq_dT _ (fun l hl=>by have:=(du_up hl).2.2; omega),?_⟩
 bv_omega
 refine for_rangeT (fun k σ' S'=>∃ (u v w z:Option T2.T),σ'=[some (.scr ns),some (.lst (zs.map T2.T.str)),u,some (.lst (xs.map T2.T.str)),v,w,z] /\ Le S S') ⟨_,_,_,_,rfl,Le.put hq0⟩ ?_ ?_
 . rintro k σ' S' N hk ⟨u,v,w,z,rfl,le⟩ hN
   clear hq0 hbx hb4
   refine ⟨trivial,?_⟩
   bv_omega
   have hSq:=le_no le hq0
   refine ⟨q,_,xs,ob,40,rfl,put_same,hbx,.inl rfl,hx1,by omega,by omega,hg,fun S2 rl ys o2 hrl e1 e2 b2 fr hyl hyg=>?_⟩
   have hrq:rl ≠ q:=(put_none hrl).1
   have le2:Le S S2:=le_fr (le.chg hSq) hSq hrl fr
   clear le hq0 hbx fr hrl
   refine i_gN2 rfl ?_
   dsimp only
   refine i_mid (fun σ' S3=>∃ (rl ys:_),σ'=[some (.scr ns),some (.lst (zs.map T2.T.str)),some (.ref q),some (.lst (xs.map T2.T.str)),some (.int (0 + (k:Int))),some (.ref rl),z] /\ S3 rl=some (.lst (ys.map T2.T.str)) /\ ys.length <= 12 /\ Gt 840 ys /\ Le S S3) ?_ ?_
   . intro X hX
     bv_omega
     refine ifB (fun hb=>?_) fun hb=>?_
     . bv_omega
       refine ifB (fun hb=>?_) fun hb=>?_
       . have hb:=of_decide_eq_true hb
         bv_omega
         refine ⟨q,_,ys,_,200,rfl,put_same,by assumption,.inr ⟨rl,rfl,(put_ne hrq).trans e1⟩,by omega,by omega,by omega,hyg,fun S4 rl4 ys4 o4 hrl4 f1 f2 b4 fr4 hyl4 hyg4=>?_⟩
         bv_omega
         exact hX _ _ ⟨rl4,ys4,rfl,f1,by omega,hyg4,le_fr (le2.chg hSq) hSq hrl4 fr4⟩
       . bv_omega
         exact hX _ _ ⟨rl,ys,rfl,(put_ne hrq).trans e1,by omega,fun y hy=>⟨by have:=(hyg y hy).1; omega,(hyg y hy).2⟩,le2.chg hSq⟩
     . bv_omega
       exact hX _ _ ⟨rl,ys,rfl,(put_ne hrq).trans e1,by omega,fun y hy=>⟨by have:=(hyg y hy).1; omega,(hyg y hy).2⟩,le2.chg hSq⟩
   rintro σ' S3 ⟨rl,ys,rfl,e1,hyl,hyg,le3⟩
   bv_omega
   refine ⟨ys,rfl,by omega,fun y hy=>by have:=(hyg y hy).1; omega,?_⟩
   bv_omega
   refine ⟨_,ys,rfl,.inr ⟨rl,rfl,e1⟩,by omega,fun y hy=>⟨by have:=(hyg y hy).1; omega,(hyg y hy).2⟩,?_⟩
   bv_omega
   refine ⟨_,_,rfl,eq_dT _ (fun l hl=>by have:=(du_up hl).2.2; omega),?_⟩
   bv_omega
   refine g_neStrs e1 (fun y hy=>(hyg y hy).2.ok) ?_
   bv_omega
   exact hN _ _ ⟨_,_,_,_,rfl,le3⟩
 . rintro σ' S' ⟨u,v,w,z,rfl,le⟩
   refine ⟨trivial,?_⟩
   bv_omega
   exact .le le hq
end
end My
set_option maxRecDepth 100000
namespace My
open PySem L2 T2
theorem len0 {α:Type} (us:List α) (h:us.length=0):us=[]:=List.length_eq_zero_iff.mp h
theorem len1 {α:Type} (us:List α) (h:us.length=1):∃ a0,us=[a0]:=by
 cases us with
 | nil=>cases h
 | cons a l=>cases len0 l (Nat.succ.inj h); exact ⟨a,rfl⟩
theorem len2 {α:Type} (us:List α) (h:us.length=2):∃ a0 a1,us=[a0,a1]:=by
 cases us with
 | nil=>cases h
 | cons a l=>obtain ⟨a1,rfl⟩:=len1 l (Nat.succ.inj h); exact ⟨a,a1,rfl⟩
theorem len3 {α:Type} (us:List α) (h:us.length=3):∃ a0 a1 a2,us=[a0,a1,a2]:=by
 cases us with
 | nil=>cases h
 | cons a l=>obtain ⟨a1,a2,rfl⟩:=len2 l (Nat.succ.inj h); exact ⟨a,a1,a2,rfl⟩
theorem all_mk {l:PySem.W.OpenLaw} {w:World} {K:PySem.W.Frag} {h:Heap} {mg:Str->Option Value} {fa:Addr} (X:K.In h) (G:h.Ns mainGlobals mg) (hfa:mg "law"=some (.ref fa)) (hF:Fx K) :
   ∃ fd:FuncData,(∀ (s:Shared) (v:Value),BindsTo s fd ⟨[v],[]⟩ [("_law_script",v)]) /\ ∀ base:Heap,K.In base->base.Ns mainGlobals mg->FnOk l.prog w K mg base CX0 7 fa fd ["_law_script"] (lSp K spLaw):=by
 refine hF _ ?_
 intro f1 f2 f3 f4 fig fnu frf frw fca fbx fta fwo fpo fco fsa fiw fnm fbt fbe fdu ffo flw fwi fwq fwb fww fni C_Wood C_NoText C_AheadError od1 an1 od2 an2 od3 an3 od4 an4 odig anig odnu annu odrf anrf odrw anrw odca anca odbx anbx odta anta odwo anwo odpo anpo odco anco odsa ansa odiw aniw odnm annm odbt anbt odbe anbe oddu andu odfo anfo odlw anlw odwi anwi odwq anwq odwb anwb odww anww odni anni sl1 sl2 sl3 sl4 slig slnu slrf slrw slca slbx slta slwo slpo slco slsa sliw slnm slbt slbe sldu slfo sllw slwi slwq slwb slww slni oc1 kV1 dc1 pm1 cd1 ct1 oc2 kV2 dc2 pm2 cd2 ct2 oc3 kV3 dc3 pm3 cd3 ct3 oc4 kV4 dc4 pm4 cd4 ct4 ocig kVig dcig pmig cdig ctig ocnu kVnu dcnu pmnu cdnu ctnu ocrf kVrf dcrf pmrf cdrf ctrf ocrw kVrw dcrw pmrw cdrw ctrw occa kVca dcca pmca cdca ctca ocbx kVbx dcbx pmbx cdbx ctbx octa kVta dcta pmta cdta ctta ocwo kVwo dcwo pmwo cdwo ctwo ocpo kVpo dcpo pmpo cdpo ctpo occo kVco dcco pmco cdco ctco ocsa kVsa dcsa pmsa cdsa ctsa ociw kViw dciw pmiw cdiw ctiw ocnm kVnm dcnm pmnm cdnm ctnm ocbt kVbt dcbt pmbt cdbt ctbt ocbe kVbe dcbe pmbe cdbe ctbe ocdu kVdu dcdu pmdu cddu ctdu ocfo kVfo dcfo pmfo cdfo ctfo oclw kVlw dclw pmlw cdlw ctlw ocwi kVwi dcwi pmwi cdwi ctwi ocwq kVwq dcwq pmwq cdwq ctwq ocwb kVwb dcwb pmwb cdwb ctwb ocww kVww dcww pmww cdww ctww ocni kVni dcni pmni cdni ctni tk_MOST_SIGNS tk_MOST_PARTS tk_MOST_LETTERS tk_MOST_FIGURES aC_Wood awi iwi lwi cwi kwi awq iwq lwq cwq kwq awb iwb lwb cwb kwb aww iww lww cww kww pg_Wood hd_Wood po_Wood sa_Wood mk_Wood kc_Wood n_Wood_marks n_Wood_now aC_NoText aC_AheadError ani ini lni cni kni a1 l1 c1 k1 a2 l2 c2 k2 a3 l3 c3 k3 a4 l4 c4 k4 aig lig cig kig anu lnu cnu knu arf lrf crf krf arw lrw crw krw aca lca cca kca abx lbx cbx kbx ata lta cta kta awo lwo cwo kwo apo lpo cpo kpo aco lco cco kco asa lsa csa ksa aiw liw ciw kiw anm lnm cnm knm abt lbt cbt kbt abe lbe cbe kbe adu ldu cdu kdu afo lfo cfo kfo alw llw clw klw z_len z_range z_all z_max z_min z_sorted z_isinstance z_bool z_int z_str z_list z_tuple z_enumerate t_ss t_ii t_ib t_tt t_ll t_lt t_st t_it t_sl t_il t_is t_nt t_nl t_ni t_si q_MOST_SIGNS q_MOST_PARTS q_MOST_LETTERS q_MOST_FIGURES xe7 xc7 xr xsp xrd xfc xtt
 have e:=hfa.symm.trans (PySem.W.mg_of X G alw)
 cases e
 have T:Txt K mg C_Wood C_NoText C_AheadError fni:=⟨PySem.W.mg_none_of X G z_len,PySem.W.mg_none_of X G z_range,PySem.W.mg_none_of X G z_all,PySem.W.mg_none_of X G z_max,PySem.W.mg_none_of X G z_min,PySem.W.mg_none_of X G z_sorted,PySem.W.mg_none_of X G z_isinstance,PySem.W.mg_none_of X G z_bool,PySem.W.mg_none_of X G z_int,PySem.W.mg_none_of X G z_str,PySem.W.mg_none_of X G z_list,PySem.W.mg_none_of X G z_tuple,PySem.W.mg_none_of X G z_enumerate,t_ss,t_ii,t_ib,t_tt,t_ll,t_lt,t_st,t_it,t_sl,t_il,t_is,t_nt,t_nl,t_ni,t_si,⟨_,PySem.W.mg_of X G q_MOST_SIGNS⟩,⟨_,PySem.W.mg_of X G q_MOST_PARTS⟩,⟨_,PySem.W.mg_of X G q_MOST_LETTERS⟩,⟨_,PySem.W.mg_of X G q_MOST_FIGURES⟩,PySem.W.mg_of X G aC_Wood,⟨pg_Wood,hd_Wood,po_Wood,sa_Wood⟩,n_Wood_marks,n_Wood_now,PySem.W.mg_of X G aC_NoText,PySem.W.mg_of X G aC_AheadError,xe7,ini,XC.of xc7,xr,xsp,xrd,xfc,xtt⟩
 have Fwi:FunD K "__init__" "Wood.__init__" s_Wood_init fwi _:=⟨⟨_,_,_,_,_,_,_,_,_,_,rfl,lwi,cwi⟩⟩
 have Bwi:Binds K (PySem.W.fnOf "__init__" "Wood.__init__" (defArgs s_Wood_init) (defBody s_Wood_init) (defScope s_Wood_init) .none kVwi dcwi pmwi anwi cdwi ctwi) ["self"] []:=.all fun us hl=>by obtain ⟨a0,rfl⟩:=len1 us hl; rfl
 have Mwi:Meth K C_Wood "__init__" fwi:=⟨awi,iwi,kwi⟩
 have Mk_Wood:Mk K C_Wood fwi:=⟨mk_Wood,awi,iwi,kc_Wood⟩
 have Fwq:FunD K "put" "Wood.put" s_Wood_put fwq _:=⟨⟨_,_,_,_,_,_,_,_,_,_,rfl,lwq,cwq⟩⟩
 have Bwq:Binds K (PySem.W.fnOf "put" "Wood.put" (defArgs s_Wood_put) (defBody s_Wood_put) (defScope s_Wood_put) .none kVwq dcwq pmwq anwq cdwq ctwq) ["self","word","count"] []:=.all fun us hl=>by obtain ⟨a0,a1,a2,rfl⟩:=len3 us hl; rfl
 have Mwq:Meth K C_Wood "put" fwq:=⟨awq,iwq,kwq⟩
 have Fwb:FunD K "begun" "Wood.begun" s_Wood_begun fwb _:=⟨⟨_,_,_,_,_,_,_,_,_,_,rfl,lwb,cwb⟩⟩
 have Bwb:Binds K (PySem.W.fnOf "begun" "Wood.begun" (defArgs s_Wood_begun) (defBody s_Wood_begun) (defScope s_Wood_begun) .none kVwb dcwb pmwb anwb cdwb ctwb) ["self","beginning"] []:=.all fun us hl=>by obtain ⟨a0,a1,rfl⟩:=len2 us hl; rfl
 have Mwb:Meth K C_Wood "begun" fwb:=⟨awb,iwb,kwb⟩
 have Fww:FunD K "words" "Wood.words" s_Wood_words fww _:=⟨⟨_,_,_,_,_,_,_,_,_,_,rfl,lww,cww⟩⟩
 have Bww:Binds K (PySem.W.fnOf "words" "Wood.words" (defArgs s_Wood_words) (defBody s_Wood_words) (defScope s_Wood_words) .none kVww dcww pmww anww cdww ctww) ["self"] []:=.all fun us hl=>by obtain ⟨a0,rfl⟩:=len1 us hl; rfl
 have Mww:Meth K C_Wood "words" fww:=⟨aww,iww,kww⟩
 have Fni:FunD K "__init__" "NoText.__init__" s_NoText_init fni _:=⟨⟨_,_,_,_,_,_,_,_,_,_,rfl,lni,cni⟩⟩
 have Bni:Binds K (PySem.W.fnOf "__init__" "NoText.__init__" (defArgs s_NoText_init) (defBody s_NoText_init) (defScope s_NoText_init) .none kVni dcni pmni anni cdni ctni) ["self","row"] []:=.all fun us hl=>by obtain ⟨a0,a1,rfl⟩:=len2 us hl; rfl
 have F1:=fun_mk (st:=s_is_letter) l1 c1 k1
 have D1:Df K mg "is_letter" f1 _ ["sign"]:=⟨PySem.W.mg_of X G a1,k1,F1.binds (ps:=["sign"]) fun _ _ _ _ _ _ us hl=>by obtain ⟨a0,rfl⟩:=len1 us hl; rfl⟩
 have F2:=fun_mk (st:=s_is_part) l2 c2 k2
 have D2:Df K mg "is_part" f2 _ ["text"]:=⟨PySem.W.mg_of X G a2,k2,F2.binds (ps:=["text"]) fun _ _ _ _ _ _ us hl=>by obtain ⟨a0,rfl⟩:=len1 us hl; rfl⟩
 have F3:=fun_mk (st:=s_is_word) l3 c3 k3
 have D3:Df K mg "is_word" f3 _ ["thing"]:=⟨PySem.W.mg_of X G a3,k3,F3.binds (ps:=["thing"]) fun _ _ _ _ _ _ us hl=>by obtain ⟨a0,rfl⟩:=len1 us hl; rfl⟩
 have F4:=fun_mk (st:=s_worth_at) l4 c4 k4
 have D4:Df K mg "worth_at" f4 _ ["mark","era"]:=⟨PySem.W.mg_of X G a4,k4,F4.binds (ps:=["mark","era"]) fun _ _ _ _ _ _ us hl=>by obtain ⟨a0,a1,rfl⟩:=len2 us hl; rfl⟩
 have Fig:=fun_mk (st:=s_is_figure) lig cig kig
 have Dig:Df K mg "is_figure" fig _ ["sign"]:=⟨PySem.W.mg_of X G aig,kig,Fig.binds (ps:=["sign"]) fun _ _ _ _ _ _ us hl=>by obtain ⟨a0,rfl⟩:=len1 us hl; rfl⟩
 have Fnu:=fun_mk (st:=s_number_of) lnu cnu knu
 have Dnu:Df K mg "number_of" fnu _ ["text","most_figures"]:=⟨PySem.W.mg_of X G anu,knu,Fnu.binds (ps:=["text","most_figures"]) fun _ _ _ _ _ _ us hl=>by obtain ⟨a0,a1,rfl⟩:=len2 us hl; rfl⟩
 have Frf:=fun_mk (st:=s_rated_of) lrf crf krf
 have Drf:Df K mg "rated_of" frf _ ["text"]:=⟨PySem.W.mg_of X G arf,krf,Frf.binds (ps:=["text"]) fun _ _ _ _ _ _ us hl=>by obtain ⟨a0,rfl⟩:=len1 us hl; rfl⟩
 have Frw:=fun_mk (st:=s_read_wood) lrw crw krw
 have Drw:Df K mg "read_wood" frw _ ["texts"]:=⟨PySem.W.mg_of X G arw,krw,Frw.binds (ps:=["texts"]) fun _ _ _ _ _ _ us hl=>by obtain ⟨a0,rfl⟩:=len1 us hl; rfl⟩
 have Fca:=fun_mk (st:=s_law_cell_at) lca cca kca
 have Dca:Df K mg "_law_cell_at" fca _ ["_law_script","_law_k"]:=⟨PySem.W.mg_of X G aca,kca,Fca.binds (ps:=["_law_script","_law_k"]) fun _ _ _ _ _ _ us hl=>by obtain ⟨a0,a1,rfl⟩:=len2 us hl; rfl⟩
 have Fbx:=fun_mk (st:=s_law_box) lbx cbx kbx
 have Dbx:Df K mg "_law_box" fbx _ ["_law_script","_law_k"]:=⟨PySem.W.mg_of X G abx,kbx,Fbx.binds (ps:=["_law_script","_law_k"]) fun _ _ _ _ _ _ us hl=>by obtain ⟨a0,a1,rfl⟩:=len2 us hl; rfl⟩
 have Fta:=fun_mk (st:=s_law_take) lta cta kta
 have Dta:Df K mg "_law_take" fta _ ["_law_box_here","_law_many"]:=⟨PySem.W.mg_of X G ata,kta,Fta.binds (ps:=["_law_box_here","_law_many"]) fun _ _ _ _ _ _ us hl=>by obtain ⟨a0,a1,rfl⟩:=len2 us hl; rfl⟩
 have Fwo:=fun_mk (st:=s_law_word) lwo cwo kwo
 have Dwo:Df K mg "_law_word" fwo _ ["_law_box_here"]:=⟨PySem.W.mg_of X G awo,kwo,Fwo.binds (ps:=["_law_box_here"]) fun _ _ _ _ _ _ us hl=>by obtain ⟨a0,rfl⟩:=len1 us hl; rfl⟩
 have Fpo:=fun_mk (st:=s_law_pool) lpo cpo kpo
 have Dpo:Df K mg "_law_pool" fpo _ ["_law_script","_law_first","_law_most"]:=⟨PySem.W.mg_of X G apo,kpo,Fpo.binds (ps:=["_law_script","_law_first","_law_most"]) fun _ _ _ _ _ _ us hl=>by obtain ⟨a0,a1,a2,rfl⟩:=len3 us hl; rfl⟩
 have Fco:=fun_mk (st:=s_law_count) lco cco kco
 have Dco:Df K mg "_law_count" fco _ ["_law_box_here"]:=⟨PySem.W.mg_of X G aco,kco,Fco.binds (ps:=["_law_box_here"]) fun _ _ _ _ _ _ us hl=>by obtain ⟨a0,rfl⟩:=len1 us hl; rfl⟩
 have Fsa:=fun_mk (st:=s_law_same) lsa csa ksa
 have Dsa:Df K mg "_law_same" fsa _ ["_law_found_here","_law_due_here"]:=⟨PySem.W.mg_of X G asa,ksa,Fsa.binds (ps:=["_law_found_here","_law_due_here"]) fun _ _ _ _ _ _ us hl=>by obtain ⟨a0,a1,rfl⟩:=len2 us hl; rfl⟩
 have Fiw:=fun_mk (st:=s_law_is_word) liw ciw kiw
 have Diw:Df K mg "_law_is_word" fiw _ ["_law_text"]:=⟨PySem.W.mg_of X G aiw,kiw,Fiw.binds (ps:=["_law_text"]) fun _ _ _ _ _ _ us hl=>by obtain ⟨a0,rfl⟩:=len1 us hl; rfl⟩
 have Fnm:=fun_mk (st:=s_law_number) lnm cnm knm
 have Dnm:Df K mg "_law_number" fnm _ ["_law_text"]:=⟨PySem.W.mg_of X G anm,knm,Fnm.binds (ps:=["_law_text"]) fun _ _ _ _ _ _ us hl=>by obtain ⟨a0,rfl⟩:=len1 us hl; rfl⟩
 have Fbt:=fun_mk (st:=s_law_bent_text) lbt cbt kbt
 have Dbt:Df K mg "_law_bent_text" fbt _ ["_law_box_here","_law_text"]:=⟨PySem.W.mg_of X G abt,kbt,Fbt.binds (ps:=["_law_box_here","_law_text"]) fun _ _ _ _ _ _ us hl=>by obtain ⟨a0,a1,rfl⟩:=len2 us hl; rfl⟩
 have Fbe:=fun_mk (st:=s_law_bent) lbe cbe kbe
 have Dbe:Df K mg "_law_bent" fbe _ ["_law_box_here","_law_texts"]:=⟨PySem.W.mg_of X G abe,kbe,Fbe.binds (ps:=["_law_box_here","_law_texts"]) fun _ _ _ _ _ _ us hl=>by obtain ⟨a0,a1,rfl⟩:=len2 us hl; rfl⟩
 have Fdu:=fun_mk (st:=s_law_due) ldu cdu kdu
 have Ddu:Df K mg "_law_due" fdu _ ["_law_texts"]:=⟨PySem.W.mg_of X G adu,kdu,Fdu.binds (ps:=["_law_texts"]) fun _ _ _ _ _ _ us hl=>by obtain ⟨a0,rfl⟩:=len1 us hl; rfl⟩
 have Ffo:=fun_mk (st:=s_law_found) lfo cfo kfo
 have Dfo:Df K mg "_law_found" ffo _ ["_law_texts"]:=⟨PySem.W.mg_of X G afo,kfo,Ffo.binds (ps:=["_law_texts"]) fun _ _ _ _ _ _ us hl=>by obtain ⟨a0,rfl⟩:=len1 us hl; rfl⟩
 have Flw:=fun_mk (st:=s_law) llw clw klw
 refine ⟨PySem.W.fnOf "law" "law" (defArgs s_law) (defBody s_law) (defScope s_law) .none kVlw dclw pmlw anlw cdlw ctlw,fun s v=>.of_eq rfl,fun base _ _=>?_⟩
 have Gta:=ok_take (P:=l.prog) (w:=w) (mg:=mg) (base:=base) Fta
 have Gca:=ok_cell (P:=l.prog) (w:=w) (mg:=mg) (base:=base) Fca T
 have Gbx:=ok_box (P:=l.prog) (w:=w) (mg:=mg) (base:=base) Fbx Gca Dca
 have G1:=ok_letter (P:=l.prog) (w:=w) (mg:=mg) (base:=base) F1
 have G2:=ok_part (P:=l.prog) (w:=w) (mg:=mg) (base:=base) F2 T G1 D1
 have G3:=ok_isword (P:=l.prog) (w:=w) (mg:=mg) (base:=base) F3 T G2 D2
 have G4:=ok_worth (P:=l.prog) (w:=w) (mg:=mg) (base:=base) F4
 have Gwi:=ok_init (P:=l.prog) (w:=w) (mg:=mg) (base:=base) Fwi T
 have Gwq:=ok_put (P:=l.prog) (w:=w) (mg:=mg) (base:=base) Fwq T G3 D3
 have Gwb:=ok_begun (P:=l.prog) (w:=w) (mg:=mg) (base:=base) Fwb T G4 D4
 have Gww:=ok_wwords (P:=l.prog) (w:=w) (mg:=mg) (base:=base) Fww T Gwb Mwb Bwb
 have Gwo:=ok_word (P:=l.prog) (w:=w) (mg:=mg) (base:=base) Fwo T Gta Dta
 have Gpo:=ok_pool (P:=l.prog) (w:=w) (mg:=mg) (base:=base) Fpo T Gbx Dbx Gwo Dwo
 have Gco:=ok_count (P:=l.prog) (w:=w) (mg:=mg) (base:=base) Fco Gta Dta
 have Gig:=ok_figure (P:=l.prog) (w:=w) (mg:=mg) (base:=base) Fig
 have Gnu:=ok_number (P:=l.prog) (w:=w) (mg:=mg) (base:=base) Fnu T Gig Dig
 have Grf:=ok_ratedof (P:=l.prog) (w:=w) (mg:=mg) (base:=base) Frf T Gnu Dnu G3 D3
 have Gni:=ok_ninit (P:=l.prog) (w:=w) (mg:=mg) (base:=base) Fni T
 have Grw:=ok_read (P:=l.prog) (w:=w) (mg:=mg) (base:=base) Frw T Grf Drf Gwi Mk_Wood Bwi Gwq Mwq Bwq
 have Rrw:=no_read (P:=l.prog) (w:=w) (mg:=mg) (base:=base) Frw T Grf Drf Gwi Mk_Wood Bwi Gwq Mwq Bwq Gni Bni
 have Giw:=ok_lisword (P:=l.prog) (w:=w) (mg:=mg) (base:=base) Fiw T
 have Gnm:=ok_lnum (P:=l.prog) (w:=w) (mg:=mg) (base:=base) Fnm T
 have Gdu:=ok_due (P:=l.prog) (w:=w) (mg:=mg) (base:=base) Fdu T Gnm Dnm Giw Diw
 have Gfo:=ok_found (P:=l.prog) (w:=w) (mg:=mg) (base:=base) Ffo T Grw Rrw Drw Gww Mww Bww
 have Gbt:=ok_bentt (P:=l.prog) (w:=w) (mg:=mg) (base:=base) Fbt T Gta Dta
 have Gbe:=ok_bent (P:=l.prog) (w:=w) (mg:=mg) (base:=base) Fbe T Gta Dta Gbt Dbt
 have Gsa:=ok_same (P:=l.prog) (w:=w) (mg:=mg) (base:=base) Fsa T Dsa 4
 exact ok_law Flw T Gpo Dpo Gbx Dbx Gta Dta Gco Dco Gsa Dsa Gfo Dfo Gdu Ddu Gbe Dbe
theorem law_start {K : PySem.W.Frag} {H : Hp} {a : Addr} {ns : List Int} {E : XK} (h : ns.length ≤ 63) (hO : Only H) (hS : SqL K H a (ns.map V.int)) : lSp K spLaw [.ref a] H (fun v _ => v = .bl true) E := by
  refine ⟨fun _ => none, [.scr ns], fun t _ => t = .bl true, ?_, .cons (.scr ?_) .nil, ⟨ns, rfl, rfl⟩, ?_⟩
  · intro b o e; cases e
  rotate_left
  · intro v H' t S' _ _ r e
    subst e; cases r; rfl
  rcases hS with (e | ⟨o, e⟩) | e
  · rcases hO a with z | ⟨ob, xs, z⟩
    · rw [e] at z; cases z
    · rw [e] at z; cases z
  · exact .inl ⟨rfl, o, e⟩
  · exact .inr (.inr e)
theorem walk {l:PySem.W.OpenLaw} {q:Program} {loose:List Str} {XP:(Str->Option Value)->Heap->Prop} {YP:World->Heap->Prop} {d:DefRec} {K:Params->PySem.W.Frag} (hn:l.most=some 63) (hdf:d.params.defaults=[])
   (hY:∀ (w:World) (h:Heap),YP w h->(K w.params).In h)
   (F:∀ (w:World) (mg:Str->Option Value) (fa:Addr) (h:Heap),(K w.params).In h->h.Ns mainGlobals mg->mg d.name=some (.ref fa) ->
     ∃ fd:FuncData,(∀ (s:Shared) (u:Value),BindsTo s fd ⟨[u],[]⟩ [("_law_script",u)]) /\ ∀ base:Heap,(K w.params).In base->base.Ns mainGlobals mg->FnOk l.prog w (K w.params) mg base CX0 7 fa fd ["_law_script"] (T2.lSp (K w.params) spLaw)) :
   PySem.W.WalkO q loose XP YP l.row.toRowW d [] (fun f vs=>PySem.call f vs) :=
 L2.walk_of (n:=63) (k:=7) (x:="_law_script") (CX:=fun _=>CX0) (sp:=fun w=>T2.lSp (K w.params) spLaw) hn (by decide) hdf ⟨rfl,by decide,by decide,rfl⟩ hY F (fun _ _ a ns hl hO hS=>law_start hl hO hS) fun _ _ _ _ _ z=>z
end My
theorem PySem.Challenge.cw_aheadword_k71_texts_refused_holds : PySem.Challenge.rw_aheadword_k71_texts_refused.Holds :=
 My.headL fun _ _ _ _ d K h1 h2 hd hK hF=>My.walk (l:=PySem.Challenge.rw_aheadword_k71_texts_refused) h1 h2 hK fun w mg fa h KX G hmg=>My.all_mk KX G (by rw [hd] at hmg; exact hmg) (hF w)

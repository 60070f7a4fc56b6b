import PyProof.Rows.All
import OpenK.KWalk
import OpenK.KCls
import OpenK.KTop
import OpenK.KLaw
import Wide.FinOn
import KE.RegKIsAll
import KE.KItem
import KE.KxBytes
import PyProof.EqAt
import PyProof.EqKinds
import PyProof.NeData
import PyProof.TupleCall
import PyProof.MinMaxWalk
import KE.KDictList
import KE.KDictOf
import KE.KEqDict
import PyProof.AttrMissHeap
import PyProof.EnumFor
import PyProof.EnumMake
import PyProof.EnumStmt
import PyProof.TupleIter
import PyProof.Seq
import KE.KPairComp
import PyProof.DictItems
import PyProof.DictRoadsH
import PyProof.ReprRoads
import PyProof.ReprLen
import PyProof.StrLawsRepr
import PyProof.ExcClass2
import PyProof.InstStoreFacts
import PyProof.Rows.FStr
import PyProof.ExcAttrAll.ValueError
import KE.KDictSum
import KE.KRevSl
import PyProof.RaisesMany
import PyProof.RulesTry
import KE.KTryMore
import PyProof.RulesAs
import PyProof.ReprStr
import PyProof.ListStr
import PyProof.StrLawsIn
import KE.KDictLaws
import PyProof.NsDelKeeps
import PyProof.FString4
import PyProof.FString5
import PyProof.P3In
import PyProof.P3Eq
import PyProof.PureStr
import PyProof.Rows.RuleB_bool
import PyProof.IsRules
import KE.KIntText
import PyProof.StrCalls
import PyProof.StrBlock2
import PyProof.Rows.StrFit
import PyProof.Rows.FStrParts
import PyProof.Rows.SortPure
import PyProof.Rows.SortShell
import PyProof.Rows.SortKeyStr
import PyProof.TupleKey
import PyProof.Rows.StrRules
import PyProof.Rows.IntRules
import Open.Pieces
import PySem.Challenge.RW_aheadword_k91_whole_read_and_gone_on
set_option maxHeartbeats 0
set_option maxRecDepth 100000
set_option Elab.async false
set_option linter.all false
set_option compiler.extract_closed false
set_option genSizeOf false
noncomputable section
local macro_rules|`(tactic| lia)=>`(tactic| first|(with_reducible assumption)|decide|lia (splits:=9)|omega)
abbrev Ny:=@PySem.wpAny_bind
abbrev Nz:=@List.length_map
abbrev NA:=@Bool.and_eq_true
abbrev NB:=@if_neg
abbrev NC:=@if_pos
abbrev ND:=@decide_eq_true_eq
abbrev NE:=@Nat.le_refl
abbrev NF:=@List.map_cons
abbrev NG:=@PySem.Heap.get?_push_of_some
abbrev NH:=@PyProof.Rows.wpS_bind
abbrev NI:=@List.mem_map
abbrev NJ:=@List.length_append
abbrev NK:=@decide_eq_true
abbrev NL:=@List.mem_append
abbrev NM:=@List.mem_cons_self
abbrev NO:=@PyProof.Rows.wpS_pure
abbrev NP:=@PySem.wpAny_pure
abbrev NQ:=@List.mem_cons_of_mem
abbrev NR:=@List.mem_cons
abbrev NS:=@decide_eq_false
abbrev NT:=@PySem.Heap.get?_push_size
abbrev NU:=@List.length_cons
abbrev NV:=@List.map_map
abbrev NW:=@List.size_toArray
abbrev NX:=@List.append_assoc
abbrev NY:=@PySem.Heap.lt_size
abbrev NZ:=@Nat.le_trans
abbrev N0:=@List.mem_map_of_mem
abbrev N1:=@List.mem_singleton
abbrev N3:=@PySem.sizeLine_eq
abbrev N4:=@List.append_nil
abbrev N5:=@Bool.false_ne_true
abbrev N6:=@Nat.ne_of_lt
abbrev N7:=@Bool.eq_iff_iff
abbrev N8:=@List.map_congr_left
abbrev N9:=@Nat.lt_of_lt_of_le
abbrev Oa:=@List.getElem?_eq_some_iff
abbrev Ob:=@List.lookup_cons
abbrev Oc:=@List.mem_filter
abbrev Od:=@Bool.false_xor
abbrev Oe:=@Bool.false_eq_true
abbrev Of:=@List.length_take
abbrev Og:=@List.map_append
abbrev Oh:=@List.mem_append_right
abbrev Oi:=@List.take_append_drop
abbrev Oj:=@PySem.boot_len
abbrev Ol:=@PySem.Heap.get?_update_other
abbrev Om:=@of_decide_eq_true
abbrev Oo:=@Nat.le_of_lt
abbrev Op:=@Ne.symm
abbrev Oq:=@List.all_eq_true
abbrev Ot:=@List.mem_iff_getElem
abbrev Ou:=@List.filter_cons
abbrev Ov:=@List.nodup_cons
abbrev Ow:=@congrArg
abbrev Ox:=@PySem.F.plainAttrs_str
abbrev Oy:=@List.find?_cons
abbrev Oz:=@List.Perm.append_left
abbrev OA:=@Bool.true_and
abbrev OB:=@List.length_eq_zero_iff
abbrev OC:=@List.getElem?_append_left
abbrev OD:=@of_decide_eq_false
abbrev OE:=@Option.map_eq_some_iff
abbrev OF:=@List.pairwise_cons
abbrev OG:=@Nat.lt_of_le_of_ne
abbrev OH:=@Bool.false_and
abbrev OI:=@List.length_nil
abbrev OJ:=@PySem.PassesOwn.never
abbrev OK:=@Array.toList_append
abbrev OL:=@PySem.wpAny_truthy_bool
abbrev OM:=@Nat.zero_le
abbrev ON:=@PySem.Str.length_append
abbrev OO:=@List.pairwise_iff_getElem
abbrev OP:=@List.flatten_cons
abbrev OQ:=@List.length_singleton
abbrev OR:=@Array.getElem?_toList
abbrev OS:=@List.perm_append_comm
abbrev OT:=@Nat.zero_add
abbrev OU:=@PySem.W.kia_one
abbrev OV:=@if_true
abbrev OW:=@decide_eq_false_iff_not
abbrev OX:=@PySem.wpAny_mono
abbrev OY:=@List.mem_of_mem_take
abbrev OZ:=@List.getElem?_append_right
abbrev O0:=@List.any_cons
abbrev O1:=@Nat.lt_or_ge
abbrev O2:=@PyProof.Rows.wpS_forRange
abbrev O3:=@Array.perm_iff_toList_perm
abbrev O4:=@List.take_of_length_le
abbrev O5:=@List.getElem?_map
abbrev O6:=@Nat.lt_succ_of_lt
abbrev O7:=@Option.some.injEq
abbrev O8:=@List.drop_sublist
abbrev O9:=@List.filterMap_cons
abbrev Pa:=@if_false
abbrev Pb:=@beq_iff_eq
abbrev Pc:=@List.cons.injEq
abbrev Pd:=@List.length_filter_le
abbrev Pe:=@Array.toList_inj
abbrev Pf:=@getElem?_pos
abbrev Ph:=@PySem.W.mg_none_of
abbrev Pj:=@Nat.le_succ
abbrev Pl:=@List.drop_zero
abbrev Pm:=@Array.toList_extract
abbrev Po:=@List.take_sublist
abbrev Pp:=@Nat.lt_of_succ_lt
abbrev Pq:=@Array.length_toList
abbrev Pr:=@List.map_nil
abbrev Ps:=@Nat.lt_irrefl
abbrev Pt:=@Nat.le_of_not_lt
abbrev Pu:=@List.getElem_mem
abbrev Pw:=@List.mem_reverse
abbrev Px:=@List.drop_eq_getElem_cons
abbrev Py:=@List.extract_eq_take_drop
abbrev Pz:=@List.pairwise_append
abbrev PB:=@List.mem_of_mem_drop
abbrev PC:=@List.getElem?_eq_getElem
abbrev PD:=@List.flatMap_cons
abbrev PF:=@PySem.wpAny_holding
abbrev PJ:=@List.replicate_succ
abbrev PL:=@List.takeWhile_cons
abbrev PM:=@PySem.F.plain_max_loop
abbrev PN:=@PySem.wpAny_tupleItemsOf
abbrev PP:=@Option.map_some
abbrev PQ:=@List.pairwise_map
abbrev PU:=@List.nodup_append
abbrev PV:=@List.mem_of_getElem?
abbrev PX:=@PySem.wpAny_rule
abbrev PY:=@Nat.add_le_add_right
abbrev PZ:=@Int.le_refl
abbrev P0:=@List.getElem?_take_of_lt
abbrev P1:=@List.length_drop
abbrev P2:=@List.not_mem_nil
abbrev P4:=@beq_eq_false_iff_ne
abbrev P5:=@PySem.F.plainAttrs_list
abbrev P6:=@List.all_cons
abbrev P7:=@Prod.mk.injEq
abbrev P8:=@PySem.wpAny_Call_Name_kw
abbrev P9:=@List.of_mem_zip
abbrev Qa:=@List.nil_append
abbrev Qb:=@List.filter_map
abbrev Qc:=@Option.toList_none
abbrev Qd:=@List.getElem?_set_self
abbrev Qe:=@PyProof.Rows.wpS_mono
abbrev Qf:=@Nat.eq_zero_of_not_pos
abbrev Qg:=@Bool.not_eq_true'
abbrev Qh:=@List.countP_congr
abbrev Qi:=@PySem.Heap.get?_update_self
abbrev Qj:=@List.getElem?_eq_none
abbrev Qk:=@decide_false
abbrev Ql:=@PyProof.Rows.boot_isinstance
abbrev Qm:=@PyProof.Rows.callWith_type1
abbrev Qn:=@PySem.wpAny_richCompare_same_room
abbrev Qo:=@PySem.F.slot_str_startswith
abbrev Qp:=@PySem.F.type_str_startswith
abbrev Qq:=@PySem.typeIs_str
abbrev Qr:=@PySem.call_meets
abbrev Qs:=@beq_self_eq_true
abbrev Qu:=@List.countP_cons
abbrev Qv:=@PyProof.Rows.wpS_modify
abbrev Qw:=@List.getElem_map
abbrev Qx:=@PySem.wpAny_standAt
abbrev Qy:=@Bool.false_or
abbrev Qz:=@Bool.and_true
abbrev QB:=@decide_true
abbrev QC:=@Nat.add_le_add_left
abbrev QD:=@List.filter_sublist
abbrev QF:=@PySem.wpAny_passesOwn
abbrev QH:=@List.foldl_cons
abbrev QJ:=@Bool.or_eq_true
abbrev QK:=@Nat.le_add_left
abbrev QL:=@Nat.zero_lt_one
abbrev QM:=@List.filter_nil
abbrev QN:=@Classical.byContradiction
abbrev QP:=@Nat.ne_of_gt
abbrev QQ:=@Nat.le_of_eq
abbrev QR:=@List.zip_cons_cons
abbrev QU:=@PyProof.Rows.boot_sorted
abbrev QV:=@PySem.F.slot_list_append
abbrev QX:=@PySem.F.type_list_append
abbrev QY:=@PySem.Txt.slice_le
abbrev QZ:=@List.filter_append
abbrev Q0:=@PySem.wpAny_tryCatch
abbrev Q1:=@PyProof.Rows.wpS_get
abbrev Q2:=@List.drop_take
abbrev Q3:=@List.getElem?_replicate
abbrev Q4:=@Nat.add_sub_cancel_left
abbrev Q5:=@Nat.lt_add_of_pos_right
abbrev Q6:=@PySem.F.plainAttrs_dict
abbrev Q7:=@PySem.wpAny_pyIter_list
abbrev Q8:=@List.getElem_take
abbrev Q9:=@List.getElem_drop
abbrev Ra:=@Nat.le_succ_of_le
abbrev Rb:=@List.filter_eq_nil_iff
abbrev Rc:=@Bool.not_true
abbrev Rf:=@Nat.lt_succ_self
abbrev Rg:=@Nat.le_add_right
abbrev Rh:=@Nat.succ_le_succ
abbrev Rj:=@List.cons_append
abbrev Rl:=@Array.all_eq_true_iff_forall_mem
abbrev Rm:=@List.any_eq_true
abbrev Rn:=@List.length_replicate
abbrev Ro:=@PyProof.Rows.split_le
abbrev Rq:=@List.countP_mono_left
abbrev Rr:=@PySem.isSubtype_tuple_tuple
abbrev Ru:=@List.mem_iff_getElem?
abbrev Rv:=@List.eq_nil_or_concat
abbrev Rw:=@List.concat_eq_append
abbrev Rx:=@PyProof.Rows.boot_all
abbrev Ry:=@Nat.le_of_ble_eq_true
abbrev Rz:=@PyProof.Rows.boot_max
abbrev RC:=@PyProof.Rows.boot_int
abbrev RD:=@List.getElem?_set_ne
abbrev RE:=@PySem.codeAny_mono
abbrev RF:=@PySem.Around.under_plainId
abbrev RG:=@Nat.not_lt_zero
abbrev RH:=@PyProof.Rows.listItems_at
abbrev RI:=@Array.toList_reverse
abbrev RJ:=@Nat.sub_le
abbrev RK:=@PySem.W.plainGet_of
abbrev RL:=@List.length_pos_iff
abbrev RM:=@ne_true_of_eq_false
abbrev RN:=@List.map_eq_nil_iff
abbrev RO:=@List.dropWhile_cons
abbrev RP:=@Int.toNat_of_nonneg
abbrev RQ:=@List.zipIdx_map_fst
abbrev RS:=@List.flatMap_append
abbrev RT:=@List.mem_range
abbrev RU:=@PySem.Heap.size_push
abbrev RV:=@List.take_take
abbrev RW:=@PySem.F.slot_dict_setdefault
abbrev RX:=@List.countP_eq_length_filter
abbrev RY:=@PySem.wpAny_letGo
abbrev RZ:=@List.mem_filterMap
abbrev R0:=@PySem.F.args_str_split_2
abbrev R3:=@Option.isSome_some
abbrev R4:=@Nat.sub_add_cancel
abbrev R5:=@Nat.pos_of_ne_zero
abbrev R6:=@List.map_singleton
abbrev R8:=@List.countP_filter
abbrev R9:=@Int.fdiv_eq_ediv_of_nonneg
abbrev Sa:=@PySem.plainId_quiet
abbrev Sb:=@Nat.add_assoc
abbrev Sd:=@Array.toList_setIfInBounds
abbrev Se:=@Array.getElem?_eq_some_iff
abbrev Sf:=@bne_self_eq_false
abbrev Sg:=@Bool.eq_false_iff
abbrev Sh:=@PySem.F.entry_str_split
abbrev Si:=@Array.toList_push
abbrev Sj:=@Nat.lt_trichotomy
abbrev Sk:=@PySem.sizeLine_eq
abbrev Sl:=@PySem.wpAny_call
abbrev Sn:=@Nat.sub_lt
abbrev So:=@List.zipIdx_eq_zip_range'
abbrev Sq:=@List.getLast?_eq_getElem?
abbrev Sr:=@List.getElem_inj
abbrev Ss:=@Option.getD_none
abbrev Su:=@Bool.not_eq_true
abbrev Sv:=@Option.bind_some
abbrev Sw:=@Nat.sub_zero
abbrev Sx:=@List.zipIdx_cons
abbrev Sy:=@List.perm_middle
abbrev Sz:=@List.drop_drop
abbrev SA:=@List.nodup_nil
namespace L2
open PySem
noncomputable def bL (s:Stmt) (j:Nat):Stmt:=match s with
 |.ClassDef _ _ _ body _ _ _ _ _ _ _=>body.getD j (.Pass ⟨0,0,0,0⟩)
 |_=>.Pass ⟨0,0,0,0⟩
noncomputable def bZ (s:Stmt):Arguments:=match s with
 |.FunctionDef _ a _ _ _ _ _ _ _ _=>a
 |_=>{ posonlyargs:=[],args:=[],vararg:=none,kwonlyargs:=[],kw_defaults:=[],kwarg:=none,defaults:=[] }
def bE (s:Stmt):List Stmt:=match s with
 |.FunctionDef _ _ b _ _ _ _ _ _ _=>b
 |_=>[]
noncomputable def am (s:Stmt):Scope:=match s with
 |.FunctionDef _ _ _ _ _ _ sc _ _ _=>sc
 |_=>{ kind:=.function,names:=[],isGenerator:=false,isCoroutine:=false }
end L2
namespace My
open PySem L2
noncomputable def top (i:Nat):Stmt:=PySem.Challenge.pw_aheadword_k91_whole_read_and_gone_on.main.body.getD i (.Pass ⟨0,0,0,0⟩)
abbrev jx:Stmt:=top 8
abbrev jy:Stmt:=top 9
abbrev jL:Stmt:=top 10
abbrev jM:Stmt:=top 11
abbrev jj:Stmt:=top 16
abbrev jN:Stmt:=top 17
abbrev jO:Stmt:=top 18
abbrev jz:Stmt:=top 19
abbrev jl:Stmt:=top 20
abbrev i8:Stmt:=top 21
abbrev iW:Stmt:=top 23
abbrev gC:Stmt:=top 24
abbrev jo:Stmt:=bL (top 25) 0
abbrev i3:Stmt:=bL (top 25) 1
abbrev jA:Stmt:=bL (top 25) 2
abbrev jB:Stmt:=bL (top 25) 3
abbrev i9:Stmt:=bL (top 25) 4
abbrev jp:Stmt:=bL (top 25) 5
abbrev jC:Stmt:=bL (top 25) 6
abbrev jD:Stmt:=bL (top 25) 7
abbrev iX:Stmt:=bL (top 25) 8
abbrev jf:Stmt:=bL (top 25) 9
abbrev jg:Stmt:=bL (top 25) 10
abbrev ja:Stmt:=bL (top 25) 11
abbrev jq:Stmt:=bL (top 25) 12
abbrev i4:Stmt:=bL (top 25) 13
abbrev jr:Stmt:=top 28
abbrev js:Stmt:=top 29
abbrev jE:Stmt:=top 30
abbrev jh:Stmt:=top 31
abbrev jt:Stmt:=top 32
abbrev i5:Stmt:=top 34
abbrev iY:Stmt:=top 35
abbrev jb:Stmt:=top 36
abbrev ko:Stmt:=top 37
abbrev i6:Stmt:=top 38
abbrev jc:Stmt:=top 40
abbrev jP:Stmt:=top 41
abbrev jF:Stmt:=top 42
abbrev jd:Stmt:=top 43
abbrev jG:Stmt:=top 44
abbrev iZ:Stmt:=top 45
abbrev ju:Stmt:=top 46
abbrev jH:Stmt:=top 47
abbrev i7:Stmt:=top 48
abbrev jv:Stmt:=top 49
abbrev je:Stmt:=top 50
abbrev iV:Stmt:=top 51
abbrev eF:Stmt:=top 52
abbrev Ns (K:W.Frag) (x:Str) (v:Option Value):Prop:=W.nsIn K mainGlobals x=some v
abbrev No (K:W.Frag) (C:Addr) (x:Str):Prop:=W.findIn K (.ref C) x=some none
abbrev Fi (K:W.Frag) (C:Addr) (x:Str) (f:Addr):Prop:=W.findIn K (.ref C) x=some (some (.ref f))
def FnA (K:W.Frag) (x q:Str) (st:Stmt) (dv:Value) (f:Addr):Prop:=∃ oc od kV dc pm an cd ct sl,K.lookup f=some ⟨oc,od,.func (W.fnOf x q (bZ st) (bE st) (am st) dv kV dc pm an cd ct),sl⟩/\W.codeIn K cd q=true/\W.keepIn K (.ref f)=true
def Dn (K:W.Frag) (x:Str) (st:Stmt) (f:Addr):Prop:=Ns K x (some (.ref f))/\FnA K x x st .none f
def Mn (K:W.Frag) (C:Addr) (x q:Str) (st:Stmt) (f:Addr):Prop:=W.findIn K (.ref C) x=some (some (.ref f))/\W.isFn K (.ref f)=true/\FnA K x q st .none f
def Md (K:W.Frag) (C:Addr) (x q:Str) (st:Stmt) (i:Int) (f:Addr):Prop:=W.findIn K (.ref C) x=some (some (.ref f))/\W.isFn K (.ref f)=true/\∃ d tk n oc od sl,FnA K x q st (.ref d) f/\K.lookup d=some ⟨oc,od,.seq #[.int i tk] n,sl⟩
def Cn (K:W.Frag) (x:Str) (C:Addr):Prop:=Ns K x (some (.ref C))/\W.plainGet K C Str.empty=true/\W.hasDictIn K C=true/\W.plainOver K C=true/\W.findIn K (.ref C) "__setattr__"=some (some (.builtin "object.__setattr__"))/\W.makesIn K C=true/\W.keepIn K (.ref C)=true
theorem FnA.of {K:W.Frag}{x q:Str}{st:Stmt}{dv oc kV dc pm cd ct:Value}{f:Addr}{od an:Option Addr}{sl:Array (Option Value)}(l:K.lookup f=some ⟨oc,od,.func (W.fnOf x q (bZ st) (bE st) (am st) dv kV dc pm an cd ct),sl⟩) (c:W.codeIn K cd q=true) (k:W.keepIn K (.ref f)=true):FnA K x q st dv f:=⟨_,_,_,_,_,_,_,_,_,l,c,k⟩
theorem Md.of {K:W.Frag}{C d f:Addr}{x q:Str}{st:Stmt}{i:Int}{tk:Tok}{n:Nat}{oc:Value}{od:Option Addr}{sl:Array (Option Value)}(a:W.findIn K (.ref C) x=some (some (.ref f))) (b:W.isFn K (.ref f)=true) (c:FnA K x q st (.ref d) f) (l:K.lookup d=some ⟨oc,od,.seq #[.int i tk] n,sl⟩):Md K C x q st i f:=⟨a,b,d,tk,n,oc,od,sl,c,l⟩
def Fx (K:W.Frag):Prop:=∀ R:Prop,(∀ {fr fao fb frn f1 f2 f3 f4 f5 fgr flg fbb ffg fnb fro fwt frw fra fwp fud ffl ffn fca fbx fta fiw fwd fnx fco fdd flo fal fts fnr flw fwi fwm fwq fwu fwz fwf fwe fwh fwo fwb fww fwT fwt2 fwc:Addr}{tk_MOST_SIGNS tk_MOST_PARTS tk_MOST_LETTERS tk_MOST_FIGURES:Tok},Cn K "Wood" 274->Mn K 274 "__init__" "Wood.__init__" jo fwi->Mn K 274 "mark_of" "Wood.mark_of" i3 fwm->Mn K 274 "put" "Wood.put" jA fwq->Md K 274 "use" "Wood.use" jB 1 fwu->Mn K 274 "strike" "Wood.strike" i9 fwz->Md K 274 "fade" "Wood.fade" jp 1 fwf->Mn K 274 "era" "Wood.era" jC fwe->Mn K 274 "has" "Wood.has" jD fwh->Mn K 274 "worth_of" "Wood.worth_of" iX fwo->Mn K 274 "begun" "Wood.begun" jf fwb->Mn K 274 "words" "Wood.words" jg fww->Mn K 274 "top_of" "Wood.top_of" ja fwT->Mn K 274 "told" "Wood.told" jq fwt2->Mn K 274 "cut_off" "Wood.cut_off" i4 fwc->No K 274 "marks"->No K 274 "now"->Dn K "rank_key" jx fr->Dn K "ahead_of" jy fao->Dn K "best_of" jL fb->Dn K "rank_of" jM frn->Dn K "is_letter" jj f1->Dn K "is_part" jN f2->Dn K "is_word" jO f3->Dn K "worth_at" jz f4->Dn K "used_mark" jl f5->Dn K "greatest_at" i8 fgr->Dn K "longer_groups" iW flg->Dn K "branches_behind" gC fbb->Dn K "is_figure" jr ffg->Dn K "number_of" js fnb->Dn K "rated_of" jE fro->Dn K "wood_texts" jh fwt->Dn K "read_wood" jt frw->Dn K "rated_around" i5 fra->Dn K "worth_to_pass" iY fwp->Dn K "uses_needed" jb fud->Dn K "faded" ko ffl->Dn K "fades_needed" i6 ffn->Dn K "_law_cell_at" jc fca->Dn K "_law_box" jP fbx->Dn K "_law_take" jF fta->Dn K "_law_is_word" jd fiw->Dn K "_law_word" jG fwd->Dn K "_law_next_word" iZ fnx->Dn K "_law_count" ju fco->Dn K "_law_deed" jH fdd->Dn K "_law_left_out" i7 flo->Dn K "_law_alike" jv fal->Dn K "_law_told_so" je fts->Dn K "_law_needs_right" iV fnr->Dn K "law" eF flw->Ns K "len" none->Ns K "range" none->Ns K "all" none->Ns K "max" none->Ns K "min" none->Ns K "sorted" none->Ns K "isinstance" none->Ns K "int" none->Ns K "str" none->Ns K "list" none->Ns K "enumerate" none->Ns K "bool" none->W.kitOne K (.type "str") (.type "str")=some true->W.kitOne K (.type "int") (.type "bool")=some false->W.kitOne K (.type "NoneType") (.type "bool")=some false->Ns K "MOST_SIGNS" (some (.int 24 tk_MOST_SIGNS))->Ns K "MOST_PARTS" (some (.int 4 tk_MOST_PARTS))->Ns K "MOST_LETTERS" (some (.int 12 tk_MOST_LETTERS))->Ns K "MOST_FIGURES" (some (.int 15 tk_MOST_FIGURES))->R)->R
noncomputable def pick {α:Type}:List Nat->Nat->List α->List α
 |_,_,[]=>[]
 |[],_,l=>l
 |k::ks,i,x::l=>if i=k then pick ks (i+1) l else x::pick (k::ks) (i+1) l
noncomputable def eS:Program:={ PySem.Challenge.pw_aheadword_k91_whole_read_and_gone_on with main:={ PySem.Challenge.pw_aheadword_k91_whole_read_and_gone_on.main with body:=pick [0,7,12,22,26,33,39] 0 PySem.Challenge.pw_aheadword_k91_whole_read_and_gone_on.main.body } }
section
open PySem.W PyProof.Rows
abbrev dg (l:List Value):Obj:=⟨.type "tuple",none,.seq ⟨l⟩ 0,⟨[]⟩⟩
abbrev cI (c:Value) (l:List Value):Obj:=⟨c,none,.fields ⟨l⟩,⟨[]⟩⟩
abbrev I (i:Nat):Value:=.int i 0
abbrev sX:Str:="/claim/cut.py"
noncomputable def txE:List Str->Nat->List Value
 |[],_=>[]
 |x::l,k=>.str x k::txE l (k+1)
noncomputable def lQ (x q:Str) (line argc fl:Nat) (f:Bool) (n k k':Nat) (a b c:Value):Obj :=
 cI (.type "code") [.str x k,.str q (k+1),.str sX (k+2),I line,I argc,I 0,I 0,I fl,.ref n,.bool f,I 181,.ref (n+1),.none,a,b,c,I k',I line,.str sX (k'+1)]
abbrev sY (c:Value) (d:FuncData):Obj:=⟨c,none,.func d,⟨[]⟩⟩
structure Bd where
 o:List Obj
 n:Nat
 k:Nat
 t:List Value
 g:List DictEntry
noncomputable def cr (P:Params) (x:Str) (k:Nat) (v:Value):DictEntry:=⟨PyData.keyHash P x,.str x k,v⟩
noncomputable def dfl:List Expr->Nat->List Value
 |.Constant (.int i) _ _::l,k=>.int i k::dfl l (k+1)
 |_,_=>[]
def fnE (P:Params) (m:Value) (c:Str):Stmt->Bd->Bd
 |.FunctionDef x a b _ _ _ sc _ _ pos,⟨o,n,k,t,g⟩ =>
  let q:=c++x
  let z:=match a.defaults with
   |[]=>(o,n,k,Value.none)
   |l=>(dg (dfl l k)::o,n+1,k+l.length,.ref n)
  match z with
  |(o,n,k,dv) =>
  let fd:FuncData:=⟨x,q,a,.stmts b,sc,0,[],.none,.none,.none,.none,none,.none,.none,0⟩
  let o:=cI .none []::dg []::o
  let r:=match localNames a sc (.stmts b) with
   |some (l,_)=>(dg []::dg (txE l (k+3))::o,n+4,k+3+l.length,Value.ref (n+2),Value.ref (n+3))
   |none=>(o,n+2,k+3,.none,.none)
  match r with
  |(o,e,k',u,v) =>
   ⟨sY (.type "function") ⟨x,q,a,.stmts b,sc,3,[],dv,.none,.none,m,none,.ref (e+1),.none,0⟩ ::
    lQ x q pos.line a.args.length 3 true n k k' u v (.ref e)::sY .none fd::o,e+3,k'+3,.ref (e+1)::I pos.col::I pos.line::t,cr P x (k'+2) (.ref (e+2))::g⟩
 |_,b=>b
def sZ (P:Params) (m:Value) (c:Str):List Stmt->Bd->Bd
 |[],b=>b
 |s::l,b=>sZ P m c l (fnE P m c s b)
structure Gl where
 b:Bd
 m:Value
 c:List (Str×List Value)
 s:List Value
def rW (l:List DictEntry) (c:Nat):Obj:=⟨.type "dict",none,.dict ⟨l⟩ c,⟨[]⟩⟩
def mE (P:Params) (x:Str) (bases:List Value) (mro:List Value) (root own:Bool) (nw:String) (body:List Stmt) (st:List Str) (pos:Pos) (m:Value):Bd->Bd
 |⟨o,n,k,t,g⟩ =>
  let r:=sZ P m (x ++ ".") body ⟨[],n+7,k+12,[],[cr P "__firstlineno__" (k+11) (.int pos.line (k+10)),cr P "__qualname__" (k+9) (.str x (k+8)),cr P "__module__" (k+7) m]⟩
  match r with
  |⟨fo,e,j,ct,cg⟩ =>
  let j1:=j+st.length
  let g0:=cr P "__static_attributes__" j1 (.ref e)::cg
  let d:=e+1
  let y:=e+2
  let j2:=j1+1
  let z:=match own,root with
   |true,_=>([cI (.type "getset_descriptor") [.str "__weakref__" (j2+2),.ref y,.builtin "ExceptionGroup.__weakref__",.none],cI (.type "getset_descriptor") [.str "__dict__" j2,.ref y,.builtin "function.__dict__",.builtin "function.__dict__#set"]],y+3,j2+4,
     [cr P "__weakref__" (j2+3) (.ref (y+2)),cr P "__dict__" (j2+1) (.ref (y+1))])
   |false,true=>([cI (.type "getset_descriptor") [.str "__weakref__" j2,.ref y,.builtin "ExceptionGroup.__weakref__",.none]],y+2,j2+2,[cr P "__weakref__" (j2+1) (.ref (y+1))])
   |_,_=>([],y+1,j2,[])
  match z with
  |(zo,ze,zk,zg) =>
  let ns:=(cr P "__doc__" zk .none::(zg++g0)).reverse
  ⟨cI (.type "builtin_function_or_method") [.builtin "object.__init_subclass__",.ref y]::cI (.type "super") [.ref y,.ref y,.ref y]::zo ++
   (⟨.type "type",none,.cls ⟨x,(if own then [.type "object"] else bases),.ref y::mro,d,x,true,[],[],false,none,false⟩,⟨[if own then none else some (.ref n),none,some (.str x k),some (.str x (k+8)),some (.builtin nw),some (.bool true)]⟩⟩ ::
    rW (ns.eraseIdx 1) (zg.length+2)::dg (txE st j)::fo ++
   [⟨.type "frame",none,.plain,⟨[some (.ref (n+5)),some (.ref 3),some (.ref (n+2)),none,some m,none,some (.ref 0)]⟩⟩,lQ x x pos.line 0 0 false (n+3) (k+2) (k+5) .none .none .none,
    cI .none ct.reverse,dg [],rW g0.reverse g0.length,cI (.type "builtin_function_or_method") [.builtin "type.__prepare__",.type "type"],dg bases]++o),ze+2,zk+3,.ref (n+5)::I pos.col::I pos.line::t,cr P x (zk+2) (.ref y)::g⟩
def stE (P:Params):Stmt->Gl->Gl
 |.Assign [.Name x _] (.Constant v _ _) _,⟨⟨o,n,k,t,g⟩,m,c,s⟩ =>
  let w:Value:=match v with|.int i=>.int i k|.str y=>.str y k|_=>.none
  match x==("__name__":Str) with
  |true=>⟨⟨o,n,k+2,t,g⟩,w,c,s⟩
  |false=>⟨⟨o,n,k+2,t,cr P x (k+1) w::g⟩,m,c,s⟩
 |.ClassDef x bs _ body _ _ _ _ _ st pos,⟨b,m,c,s⟩ =>
  match bs with
  |[.Name y _]=>match c.lookup y with
   |some mro =>
    let b':=mE P x (mro.take 1) mro false false "ValueError.__new__" body st pos m b
    let a:=match b'.g with|e::_=>e.val|[]=>.none
    ⟨b',m,(x,a::mro)::c,a::s⟩
   |none =>
    let mro:List Value:=[.type "ValueError",.type "Exception",.type "BaseException",.type "object"]
    let b':=mE P x (mro.take 1) mro true false "ValueError.__new__" body st pos m b
    let a:=match b'.g with|e::_=>e.val|[]=>.none
    ⟨b',m,(x,a::mro)::c,s⟩
  |_=>⟨mE P x [] [.type "object"] true true "object.__new__" body st pos m b,m,c,s⟩
 |st,⟨b,m,c,s⟩=>⟨fnE P m "" st b,m,c,s⟩
def tf (P:Params):List Stmt->Gl->Gl
 |[],g=>g
 |s::l,g=>tf P l (stE P s g)
noncomputable def FR (m:Value) (g:List DictEntry):Obj->Obj
 |⟨c,d,.dict ⟨⟨h,x,_⟩::es⟩ n,s⟩=>⟨c,d,.dict ⟨⟨h,x,m⟩::(es++g)⟩ (n+g.length),s⟩
 |o=>o
noncomputable def FS (l:List Value):Obj->Obj
 |⟨c,d,.cls ⟨a1,a2,a3,a4,a5,a6,a7,_,a9,a10,a11⟩,s⟩=>⟨c,d,.cls ⟨a1,a2,a3,a4,a5,a6,a7,l,a9,a10,a11⟩,s⟩
 |o=>o
def DL (B:List Obj) (r:Nat):Gl->List Obj
 |⟨⟨o,_,_,t,g⟩,m,_,s⟩ =>
  (B.modify 3 (FR m g.reverse)++[dg [],cI .none t.reverse,
   lQ "<module>" "<module>" 1 0 0 false 11 182 185 .none .none .none,⟨.type "frame",none,.plain,⟨[some (.ref 13),some (.ref 3),some (.ref 3),none,some (.str "__main__" 164),none,some (.ref 0)]⟩⟩]++o.reverse).modify r (FS s.reverse)
def gl0:Gl:=⟨⟨[],15,187,[],[]⟩,.str "__main__" 164,[],[]⟩
noncomputable def btE:List Obj->Nat->BT->BT
 |[],_,t=>t
 |o::l,i,t=>btE l (i+1) (t.ins i o)
abbrev Pg:Program:=PySem.Challenge.pw_aheadword_k91_whole_read_and_gone_on
def env0:Env:={ scope:=Pg.main.scope,locals:=mainNs,globals:=mainNs,cells:=[],code:=.ref 13,frame:=some 14 }
def cE:Code:=.body (behindTheImports Pg) env0
def oE (P:Params) (l:List Stmt):List Obj:=DL (boot_heap P).objs.toList 24 (tf P l gl0)
abbrev p0:Pos:=⟨0,0,0,0⟩
def ST (w:World) (os:OsState) (l:List Stmt) (n k:Nat):SharedT:=⟨btE (oE w.params l) 0 .nil,n,{},⟨[]⟩,boot_drawn,k,os⟩
def SP (w:World) (os:OsState) (l:List Stmt) (k:Nat):Shared:=⟨⟨⟨oE w.params l⟩,{}⟩,⟨[]⟩,boot_drawn,k,os⟩
theorem sp0 (w:World) (os:OsState):(ST w os [] 15 187).abs=SP w os [] 187:=by kernel_rfl
theorem sp1 (w:World) (os:OsState):(ST w os (behindTheImports Pg) 416 709).abs=SP w os (behindTheImports Pg) 709:=by kernel_rfl
theorem seg (w:World) (os:OsState):segRunT treeTable Pg w 11 (some (.ref 6)) 1 5000 (ST w os [] 15 187) (piecesOf (behindTheImports Pg) env0 cE p0 [topFrame p0])=some (.next,ST w os (behindTheImports Pg) 416 709,cE,⟨284,0,303,15⟩):=by
 delta piecesOf
 rw [Fast.te10110043849684766642,Fast.te14364793385576792824,Fast.te12563942051412417395];kernel_rfl
theorem FT (w:World) (os:OsState):topGo treeTable Pg w 11 (some (.ref 6)) 12 ⟨boot_heap w.params,⟨[]⟩,boot_drawn,boot_toks,os⟩ (topStub Pg)=some (SP w os [] 187,⟨denote treeTable cE,cE,p0,[topFrame p0]⟩):=by
 rw [Fast.te15667345088766844465,Fast.te14364793385576792824,Fast.te11892475500146522536];kernel_rfl
theorem run (w:World) (os:OsState):topRun treeTable Pg w 11 (some (.ref 6)) (12+(1+(5000+2))) ⟨boot_heap w.params,⟨[]⟩,boot_drawn,boot_toks,os⟩ (topStub Pg)=some (SP w os (behindTheImports Pg) 709):=by
 refine go_top (FT w os) (piece_block (s':=SP w os [] 187) (p':=p0) (by kernel_rfl) ?_)
 have h:=segRun_of (seg w os)
 rw [sp0,sp1] at h
 have k:=piece_app (rest:=[]) h (piece_nil (N:=2) (r:=SP w os (behindTheImports Pg) 709) (by kernel_rfl))
 rw [N4] at k
 exact k
theorem l1 (w:World) (os:OsState):(staticsOk (importedModules Pg.main.body) (boot_heap w.params) (SP w os (behindTheImports Pg) 709).heap&&namesBound Pg (SP w os (behindTheImports Pg) 709).heap&&gensDone (SP w os (behindTheImports Pg) 709)&&laidKept (boot_heap w.params) (SP w os (behindTheImports Pg) 709).heap)=true:=by kernel_rfl
theorem l2 (w:World) (os:OsState):openSeen eS [] (importedModules Pg.main.body) (λs=>xlAt eS [] s&&recOk [] s) true (SP w os (behindTheImports Pg) 709)=openGood eS []:=by rw [Fast.te4187177175401517315];kernel_rfl
end
end My
section
open PySem PySem.W PyProof.Rows
local macro_rules|`(tactic| o_head $H)=>`(tactic| refine holds_open (q:=My.eS) (loose:=[]) (Xt:=λs=>xlAt My.eS [] s&&recOk [] s) (XP:=XL My.eS []) (Yf:=Hook.obs $H) (Ya:=Hook.val $H) (YP:=Hook.says $H) (N:=6154) ?hl (Hook.of $H) (Hook.keeps $H) (λs e=>xl_of s (Bool.and_eq_true_iff.mp e).1) XL.keeps (by rfl) (by rfl) (by rfl) (λs e=>recFacts_of (Bool.and_eq_true_iff.mp e).2) (by rfl) (by assumption) (by decide +kernel) ⟨rfl,rfl,rfl,rfl,rfl,by decide +kernel⟩ ?hw ?hc)
theorem My.pre (h:∀ P:Prop,P):PySem.Challenge.rw_aheadword_k91_whole_read_and_gone_on.Holds:=by w_on;refine PySem.W.holds_law (h _) λsaid=>?_;k_head;all_goals exact h _
noncomputable def My.as:List Addr:=[2,3,15,22,23,24,25,28,35,36,37,40,47,48,49,52,59,60,61,64,71,72,73,76,83,85,86,88,89,90,91,92,95,97,98,100,101,102,104,105,107,108,109,111,112,114,115,116,119,120,121,123,124,126,127,128,131,132,133,136,137,138,140,141,143,144,145,147,148,150,151,152,155,156,157,159,160,162,163,164,167,168,176,178,179,181,182,183,185,186,188,189,190,192,193,195,196,197,198,200,201,203,204,205,207,208,210,211,212,213,215,216,218,219,220,222,223,225,226,227,229,230,232,233,234,236,237,239,240,241,244,245,246,248,249,251,252,253,256,257,258,260,261,263,264,265,267,268,270,271,272,273,274,275,276,279,281,282,284,285,286,289,290,291,293,294,296,297,298,301,302,303,305,306,308,309,310,312,313,315,316,317,319,320,322,323,324,327,328,329,332,333,334,336,337,339,340,341,343,344,346,347,348,350,351,353,354,355,357,358,360,361,362,365,366,367,370,371,372,374,375,377,378,379,381,382,384,385,386,389,390,391,394,395,396,399,400,401,404,405,406,409,410,411,414,415]
theorem My.obs (w:World) (os:OsState):My.as.map (My.SP w os (behindTheImports My.Pg) 709).heap.get?=((My.pre.heap_1 w.params).map λp=>some p.2):=by kernel_rfl
theorem My.said:PySem.W.OpenLaw.wellSaid PySem.Challenge.rw_aheadword_k91_whole_read_and_gone_on=true:=by kernel_rfl
local macro_rules|`(tactic| symm)=>`(tactic| ((first|delta My.Ns|delta My.No|delta My.Fi|skip);k_is))
local macro_rules|`(tactic| exfalso)=>`(tactic| (refine' My.FnA.of ?x ?y ?z;(case x=>k_is);(case y=>k_is);(case z=>k_is)))
local macro_rules|`(tactic| left)=>`(tactic| (refine' ⟨?u,?v⟩;(case u=>symm);(case v=>exfalso)))
local macro_rules|`(tactic| right)=>`(tactic| (refine' ⟨?u,?v,?w⟩;(case u=>k_is);(case v=>k_is);(case w=>exfalso)))
local macro_rules|`(tactic| ac_rfl)=>`(tactic| (refine' My.Md.of ?u ?v ?w ?x;(case u=>k_is);(case v=>k_is);(case w=>exfalso);(case x=>k_is)))
local macro_rules|`(tactic| ac_nf)=>`(tactic| (refine' ⟨?_,?_,?_,?_,?_,?_,?_⟩<;>symm))
theorem My.headL (main:∀ (q:Program) (loose:List Str) (XP:(Str->Option Value)->Heap->Prop) (YP:World->Heap->Prop) (d:DefRec) (K:Params->W.Frag),PySem.Challenge.rw_aheadword_k91_whole_read_and_gone_on.most=some 63->d.params.defaults=[]->d.name="law"->(∀ (w:World) (h:Heap),YP w h->(K w.params).In h)->(∀ w:World,My.Fx (K w.params))->W.WalkO q loose XP YP PySem.Challenge.rw_aheadword_k91_whole_read_and_gone_on.row.toRowW d [] (λf vs=>PySem.call f vs)):PySem.Challenge.rw_aheadword_k91_whole_read_and_gone_on.Holds:=by
 w_on;refine PySem.W.holds_law My.said λsaid=>?_;o_head (kHook My.pre.heap_1 My.as (λ_=>by kernel_rfl));(case hl=>exact LeftO.of_pieces (H₁:=λP=>⟨⟨My.oE P (behindTheImports My.Pg)⟩,{}⟩) (gs₁:=⟨[]⟩) (d₁:=boot_drawn) (k₁:=709) (boot_open (p:=My.Pg) (N:=6154) (by kernel_rfl) (by kernel_rfl) (λs=>by kernel_rfl)) (λw=>by kernel_rfl) My.run (by kernel_rfl) λw=>funext λos=>looks_pair (My.l1 w os) (looks_pair (My.l2 w os) (My.obs w os)));(case hw=>w_witness2)
 k_fill
 refine main _ _ _ _ _ _ rfl rfl rfl (λw h Y=>W.kIn_of Y) λw R hR=>?_
 exact hR (by ac_nf) (by right) (by right) (by right) (by ac_rfl) (by right) (by ac_rfl) (by right) (by right) (by right) (by right) (by right) (by right) (by right) (by right) (by symm) (by symm) (by left) (by left) (by left) (by left) (by left) (by left) (by left) (by left) (by left) (by left) (by left) (by left) (by left) (by left) (by left) (by left) (by left) (by left) (by left) (by left) (by left) (by left) (by left) (by left) (by left) (by left) (by left) (by left) (by left) (by left) (by left) (by left) (by left) (by left) (by left) (by symm) (by symm) (by symm) (by symm) (by symm) (by symm) (by symm) (by symm) (by symm) (by symm) (by symm) (by symm) (by kit_is) (by kit_is) (by kit_is) (by symm) (by symm) (by symm) (by symm)
end
namespace L2
open PySem PySem.Spec PyProof.Rows
abbrev Key:=Sum Int Str
noncomputable def eG:Key->Value->Bool
 |.inl k,v=>Value.isInt k v
 |.inr x,v=>Value.isStrOf x v
noncomputable def FU (w:World):Key->Int
 |.inl k=>hashInt k
 |.inr x=>hashStr w x
theorem cy:∀ {k:Key}{v:Value},eG k v=true->(∃ i t,k=Sum.inl i/\v=Value.int i t)\/(∃ x t,k=Sum.inr x/\v=Value.str x t)
 |.inl i,v,h=>by
  obtain ⟨t,e⟩:=Value.isInt_shape (k:=i) (v:=v) h
  exact .inl ⟨i,t,rfl,e⟩
 |.inr x,v,h=>by
  obtain ⟨t,e⟩:=Value.isStrOf_shape (x:=x) (v:=v) h
  exact .inr ⟨x,t,rfl,e⟩
theorem vO (i:Int) (t:Tok):eG (.inl i) (.int i t)=true:=by simp [eG,Value.isInt]
theorem vP (x:Str) (t:Tok):eG (.inr x) (.str x t)=true:=by simp [eG,Value.isStrOf]
theorem Bg (a b:Int):decide ((Sum.inl a:Key)=Sum.inl b)=(a==b):=by
 by_cases e:a=b
 ·subst e;simp
 ·have h:¬ (Sum.inl a:Key)=Sum.inl b:=λq=>e (Sum.inl.inj q)
  rw [NS h]
  exact (P4.mpr e).symm
theorem Bj (a b:Str):decide ((Sum.inr a:Key)=Sum.inr b)=decide (a=b):=by
 by_cases e:a=b
 ·subst e;simp
 ·have h:¬ (Sum.inr a:Key)=Sum.inr b:=λq=>e (Sum.inr.inj q)
  rw [NS h,NS e]
theorem Bk (a:Int) (b:Str):decide ((Sum.inl a:Key)=Sum.inr b)=false:=NS (λq=>nomatch q)
theorem Bm (a:Str) (b:Int):decide ((Sum.inr a:Key)=Sum.inl b)=false:=NS (λq=>nomatch q)
noncomputable def aO (prog:Program) (w:World):PySem.KeyKind prog w Key where
 is:=eG
 hash:=FU w
 inj:=λv a b ha hb=>by
  rcases cy ha with ⟨i,t,rfl,rfl⟩|⟨x,t,rfl,rfl⟩
  ·rcases cy hb with ⟨j,u,rfl,e⟩|⟨y,u,rfl,e⟩
   ·injection e with e1 _;rw [e1]
   ·exact nomatch e
  ·rcases cy hb with ⟨j,u,rfl,e⟩|⟨y,u,rfl,e⟩
   ·exact nomatch e
   ·injection e with e1 _;rw [e1]
 byValue:=λk v h=>by
  rcases cy h with ⟨i,t,rfl,rfl⟩|⟨x,t,rfl,rfl⟩<;>rfl
 pyHash:=λhv h=>by
  rcases cy hv with ⟨i,t,rfl,rfl⟩|⟨x,t,rfl,rfl⟩
  ·exact wpAny_pyHash_int h
  ·exact wpAny_pyHash_str h
 eqBool:=λhu hv h=>by
  rcases cy hu with ⟨i,t,rfl,rfl⟩|⟨x,t,rfl,rfl⟩
  ·rcases cy hv with ⟨j,u,rfl,rfl⟩|⟨y,u,rfl,rfl⟩
   ·rw [Bg] at h;exact wpAny_eqBool_int h
   ·rw [Bk] at h;exact SeqAt.EqAt.int_str i t y u _ _ _ _ h
  ·rcases cy hv with ⟨j,u,rfl,rfl⟩|⟨y,u,rfl,rfl⟩
   ·rw [Bm] at h;exact SeqAt.EqAt.str_int x t j u _ _ _ _ h
   ·rw [Bj] at h;exact wpAny_eqBool_str h
 «strs»:=λk x t v h=>by
  rcases cy h with ⟨i,u,rfl,e⟩|⟨y,u,rfl,e⟩
  ·exact nomatch e
  ·injection e with e1 _
   subst e1
   cases v<;>rfl
theorem uT (prog:Program) (w:World) (i:Int) (t:Tok):(aO prog w).is (.inl i) (.int i t)=true:=vO i t
theorem uU (prog:Program) (w:World) (x:Str) (t:Tok):(aO prog w).is (.inr x) (.str x t)=true:=vP x t
inductive V where
 |non|bl (b:Bool)|int (i:Int)|str (x:Str)|byt (b:Array UInt8)|flt (b:UInt64)|ref (a:Addr)|ty (n:String)
 deriving DecidableEq
def ak:V->Value->Prop
 |.non,u=>u=Value.none
 |.bl b,u=>u=Value.bool b
 |.int i,u=>∃ t,u=Value.int i t
 |.str x,u=>∃ t,u=Value.str x t
 |.byt b,u=>∃ t,u=Value.bytes b t
 |.flt b,u=>∃ t,u=Value.float b t
 |.ref a,u=>u=Value.ref a
 |.ty n,u=>u=Value.type n
abbrev aj:List V->List Value->Prop:=Paired ak
theorem aj.length {xs:List V}{us:List Value}(r:aj xs us):xs.length=us.length:=Paired.length r
theorem aj.get:∀ {xs:List V}{us:List Value}{i:Nat}{x:V},aj xs us->xs[i]?=some x->∃ u,us[i]?=some u/\ak x u
 |_,_,_,_,.nil,e=>by simp at e
 |_,_,0,_,.cons r _,e=>by simp at e;subst e;exact ⟨_,rfl,r⟩
 |_,_,i+1,x,.cons _ t,e=>by
  obtain ⟨u,h1,h2⟩:=aj.get (i:=i) (x:=x) t (by simpa using e)
  exact ⟨u,by simpa using h1,h2⟩
theorem aj.set {x:V}{u:Value}(r:ak x u):∀ {xs:List V}{us:List Value}(i:Nat),aj xs us->aj (xs.set i x) (us.set i u)
 |_,_,_,.nil=>.nil
 |_,_,0,.cons _ t=>.cons r t
 |_,_,i+1,.cons q t=>.cons q (aj.set r i t)
theorem aj.append:∀ {xs ys:List V}{us ws:List Value},aj xs us->aj ys ws->aj (xs++ys) (us++ws):=by
 intro xs ys us ws p r
 induction p with
 |nil=>exact r
 |cons h t ih=>exact .cons h ih
theorem aj.take:∀ {xs:List V}{us:List Value}(n:Nat),aj xs us->aj (xs.take n) (us.take n)
 |_,_,0,_=>.nil
 |_,_,_+1,.nil=>.nil
 |_,_,n+1,.cons r t=>.cons r (aj.take n t)
theorem aj.drop:∀ {xs:List V}{us:List Value}(n:Nat),aj xs us->aj (xs.drop n) (us.drop n)
 |_,_,0,r=>r
 |_,_,_+1,.nil=>.nil
 |_,_,n+1,.cons _ t=>aj.drop n t
def bi:Option V->Option Value->Prop
 |some v,some u=>ak v u
 |none,none=>True
 |_,_=>False
def KV {κ:Type}:List (κ×V)->List (κ×Value)->Prop:=Paired λ(p:κ×V) (q:κ×Value)=>p.1=q.1/\ak p.2 q.2
noncomputable def kV:Key->V
 |.inl i=>.int i
 |.inr x=>.str x
inductive HO where
  |lst (xs:List V)
  |tup (xs:List V)
  |dK (kvs:List (Key×V))|dT (kvs:List (List Key×V))
  |set (S:Int->Bool) (n:Nat)
  |ins (C dx:Addr) (fs:List (Str×V))
  |own (x:Addr)
  |xd (fs:List (Str×V))
  |met (f x:Addr)
  |rng (lo hi:Int)
  |frz (o:Obj) (u:HO)
  |tbl (ps:Array Value)
  |ext (φ:Heap->Prop)
abbrev Hp:=Addr->Option HO
noncomputable def upd (H:Hp) (a:Addr) (o:HO):Hp:=λb=>if b=a then some o else H b
theorem aG {H:Hp}{a:Addr}{o:HO}:upd H a o a=some o:=by unfold upd;rw [NC rfl]
theorem au {H:Hp}{a b:Addr}{o:HO}(h:b≠a):upd H a o b=H b:=by unfold upd;rw [NB h]
theorem gT {H:Hp}{a:Addr}{o u:HO}:upd (upd H a o) a u=upd H a u:=by
 funext b;unfold upd;split<;>rfl
theorem cF {H:Hp}{a b:Addr}{o u:HO}(h:H a=some o) (h':H b=some u) (d:o≠u):a≠b:=by
 intro e;subst e;rw [h] at h';exact d (Option.some.inj h')
theorem bj {H:Hp}{a b:Addr}{o:HO}(h:H a=some o) (h':H b=none):a≠b:=by
 intro e;subst e;rw [h] at h';cases h'
section
variable (P:Program) (w:World)
def aQ (H:Hp) (h:Heap) (a:Addr):HO->Prop
 |.lst xs=>xs.length<=sizeLine/\∃ (its:List Value) (n:Nat),aj xs its/\h.get? a=some { cls:=.type "list",data:=.seq its.toArray n }
 |.tup xs=>xs.length<=sizeLine/\∃ its:List Value,aj xs its/\IsTup h a its.toArray
 |.dK kvs=>kvs.length<=sizeLine/\(a==sysModules)=false/\∃ vs,KV kvs vs/\h.DictOf (aO P w) a vs
 |.dT kvs=>kvs.length<=sizeLine/\(a==sysModules)=false/\∃ xs:List (List Key×Addr×Value),
   Paired (λ(p:List Key×V) (q:List Key×Addr×Value)=>p.1=q.1/\H q.2.1=some (.tup (p.1.map kV))/\ak p.2 q.2.2) kvs xs /\
   ∃ o es ep,h.get? a=some o/\o.ExactDict/\o.data=.dict es ep/\es.toList=xs.map (entryOfKey (tupleKind (aO P w)))/\(xs.map (·.1)).Nodup
 |.set S n=>h.SetOf (intKind P w) a S n
 |.ins C dx fs=>H dx=some (.own a)/\fs.length<=1000/\dx≠a/\h.get? a=some (PySem.W.instObj C dx) /\
   ∃ mA,h.Ns1 dx mA/\(∀ f,bi (fs.lookup f) (mA f))/\PySem.Within mA (fs.map (·.1))
 |.own _=>∃ o,h.get? a=some o
 |.xd fs=>∃ mA,h.Ns1 a mA/\∀ f,bi (fs.lookup f) (mA f)
 |.rng lo hi=>∃ t u v,h.get? a=some { cls:=.type "range",data:=.fields #[.int lo t,.int hi u,.int 1 v] }
 |.frz o u=>h.get? a=some o/\aQ H h a u
 |.tbl ps=>h.get? a=some { cls:=.none,data:=.fields ps }
 |.met f x=>h.get? a=some (PySem.W.methodObj (.ref f) (.ref x))
 |.ext φ=>φ h/\(∃ o,h.get? a=some o)/\∀ h1 h2:Heap,φ h1->(∀ o,h1.get? a=some o->h2.get? a=some o)->φ h2
def HOk (H:Hp) (h:Heap):Prop:=∀ a o,H a=some o->aQ P w H h a o
end
section
variable {P:Program}{w:World}{H H':Hp}{h h':Heap}{a:Addr}{o:HO}
theorem aQ.lt (x:aQ P w H h a o):a<h.objs.size:=by
 cases o with
 |lst xs=>obtain ⟨_,_,_,_,e⟩:=x;exact NY e
 |tup xs=>obtain ⟨_,_,_,p⟩:=x;exact p.lt
 |dK kvs=>obtain ⟨_,_,_,_,o,_,_,e,_⟩:=x;exact NY e
 |dT kvs=>obtain ⟨_,_,_,_,o,_,_,e,_⟩:=x;exact NY e
 |set S n=>obtain ⟨o,_,_,_,e,_⟩:=x;exact NY e
 |ins C dx fs=>obtain ⟨_,_,_,e,_⟩:=x;exact NY e
 |own y=>obtain ⟨_,e⟩:=x;exact NY e
 |xd fs=>obtain ⟨_,⟨_,_,_,e,_⟩,_⟩:=x;exact NY e
 |rng lo hi=>obtain ⟨_,_,_,e⟩:=x;exact NY e
 |frz ob u=>obtain ⟨e,_⟩:=x;exact NY e
 |tbl ps=>exact NY (show h.get? a=some _ from x)
 |met f y=>exact NY (show h.get? a=some _ from x)
 |ext φ=>obtain ⟨_,⟨_,e⟩,_⟩:=x;exact NY e
theorem Paired.mapP {α β:Type}{F G:α->β->Prop}:∀ {MV:List α}{l₂:List β},Paired F MV l₂->(∀ a b,F a b->G a b)->Paired G MV l₂:=by
 intro MV l₂ p f
 induction p with
 |nil=>exact .nil
 |cons r t ih=>exact .cons (f _ _ r) ih
theorem aQ.stay (x:aQ P w H h a o) (k:∀ b u,(b=a\/H b=some (.own a))->h.get? b=some u->h'.get? b=some u)
  (ho:∀ b,H b=some (.own a)->H' b=some (.own a)) (ht:∀ b xs,H b=some (.tup xs)->H' b=some (.tup xs)):aQ P w H' h' a o:=by
 induction o with
 |lst xs=>obtain ⟨z,its,n,r,e⟩:=x;exact ⟨z,its,n,r,k _ _ (.inl rfl) e⟩
 |tup xs=>obtain ⟨z,its,r,ob,e,c⟩:=x;exact ⟨z,its,r,ob,k _ _ (.inl rfl) e,c⟩
 |dK kvs=>obtain ⟨z,y,vs,r,ob,es,ep,e,c⟩:=x;exact ⟨z,y,vs,r,ob,es,ep,k _ _ (.inl rfl) e,c⟩
 |dT kvs =>
  obtain ⟨z,y,xs,r,ob,es,ep,e,c⟩:=x
  exact ⟨z,y,xs,Paired.mapP r λp q z=>⟨z.1,ht _ _ z.2.1,z.2.2⟩,ob,es,ep,k _ _ (.inl rfl) e,c⟩
 |set S n=>obtain ⟨ob,es,ep,t,e,c⟩:=x;exact ⟨ob,es,ep,t,k _ _ (.inl rfl) e,c⟩
 |ins C dx fs =>
  obtain ⟨d,z,ne,e,mA,⟨od,es,ep,e2,c⟩,r⟩:=x
  exact ⟨ho _ d,z,ne,k _ _ (.inl rfl) e,mA,⟨od,es,ep,k _ _ (.inr d) e2,c⟩,r⟩
 |own y=>obtain ⟨ob,e⟩:=x;exact ⟨ob,k _ _ (.inl rfl) e⟩
 |xd fs=>obtain ⟨mA,⟨od,es,ep,e,c⟩,r⟩:=x;exact ⟨mA,⟨od,es,ep,k _ _ (.inl rfl) e,c⟩,r⟩
 |rng lo hi=>obtain ⟨t,u,v,e⟩:=x;exact ⟨t,u,v,k _ _ (.inl rfl) e⟩
 |frz ob u ih=>obtain ⟨e,q⟩:=x;exact ⟨k _ _ (.inl rfl) e,ih q⟩
 |tbl ps =>
  have e:h.get? a=some { cls:=.none,data:=.fields ps }:=x
  show h'.get? a=some { cls:=.none,data:=.fields ps }
  exact k a _ (.inl rfl) e
 |met f y =>
  have e:h.get? a=some (PySem.W.methodObj (.ref f) (.ref y)):=x
  show h'.get? a=some (PySem.W.methodObj (.ref f) (.ref y))
  exact k a _ (.inl rfl) e
 |ext φ=>obtain ⟨p,⟨o,e⟩,st⟩:=x;exact ⟨st _ _ p λo q=>k _ _ (.inl rfl) q,⟨o,k _ _ (.inl rfl) e⟩,st⟩
theorem HOk.lt (x:HOk P w H h) (e:H a=some o):a<h.objs.size:=(x a o e).lt
theorem HOk.fresh (x:HOk P w H h) (e:h.objs.size<=a):H a=none:=by
 cases q:H a with
 |none=>rfl
 |some u=>exact absurd (N9 (x.lt q) e) (Ps _)
theorem HOk.kept (x:HOk P w H h) (k:∀ b u,h.get? b=some u->h'.get? b=some u):HOk P w H h':=λa o e =>
 (x a o e).stay (λb u _ q=>k b u q) (λ_ q=>q) λ_ _ q=>q
theorem HOk.laid (x:HOk P w H h) (k:∀ b u,h.get? b=some u->h'.get? b=some u) (hp:h.objs.size<=a) (new:aQ P w (upd H a o) h' a o):HOk P w (upd H a o) h':=λb u e=>by
 have hn:=x.fresh hp
 by_cases hb:b=a
 ·subst hb;rw [aG] at e;cases e;exact new
 ·rw [au hb] at e
  exact (x b u e).stay (λc v _ q=>k c v q) (λc q=>by rw [au (bj q hn)];exact q) λc xs q=>by rw [au (bj q hn)];exact q
end
def Rd (H:Hp) (a:Addr) (u:HO):Prop:=H a=some u\/∃ o,H a=some (.frz o u)
theorem Rd.ok {P:Program}{w:World}{H:Hp}{h:Heap}{a:Addr}{u:HO}(r:Rd H a u) (x:HOk P w H h):aQ P w H h a u:=by
 rcases r with r|⟨o,r⟩
 ·exact x a u r
 ·obtain ⟨_,q⟩:=x a _ r
  exact q
def Mut:Option HO->Prop
 |some (.lst _)=>True
 |some (.dK _)=>True
 |some (.dT _)=>True
 |some (.set _ _)=>True
 |some (.ins _ _ _)=>True
 |some (.ext _)=>True
 |_=>False
section
variable {P:Program}{w:World}{H:Hp}{h h':Heap}{x e:Addr}{o':HO}
theorem HOk.write (ok:HOk P w H h) (mu:Mut (H x)) (he:e=x\/H e=some (.own x)) (k:∀ b u,b≠e->h.get? b=some u->h'.get? b=some u) (heo:∃ u,h'.get? e=some u)
  (new:aQ P w (upd H x o') h' x o'):HOk P w (upd H x o') h':=λb u q=>by
 have nown:∀ c y,H c=some (.own y)->c≠x:=λc y r z=>by subst z;rw [r] at mu;exact mu
 have ntup:∀ c xs,H c=some (.tup xs)->c≠x:=λc xs r z=>by subst z;rw [r] at mu;exact mu
 by_cases hb:b=x
 ·subst hb;rw [aG] at q;cases q;exact new
 ·rw [au hb] at q
  by_cases Kw:b=e
  ·have q':H b=some (.own x):=by
    rcases he with z|z
    ·exact absurd (Kw.trans z) hb
    ·rw [Kw];exact z
   rw [q] at q';cases q'
   obtain ⟨v,hv⟩:=heo
   exact ⟨v,by rw [Kw];exact hv⟩
  ·refine (ok b u q).stay (λc v hc r=>k c v ?_ r) (λc r=>by rw [au (nown c b r)];exact r) λc xs r=>by rw [au (ntup c xs r)];exact r
   rcases hc with rfl|hc
   ·exact Kw
   ·rintro rfl
    rcases he with z|z
    ·exact nown c b hc z
    ·rw [hc] at z;cases z;exact hb rfl
end
structure Un (fs ex:List Addr) (H H':Hp) (h h':Heap):Prop where
 keep:∀ b o,h.get? b=some o->H b=none->b∉fs->b∉ex->h'.get? b=some o
 slot:∀ b o,h.get? b=some o->H b=none->b∈fs->b∉ex->∃ sl,h'.get? b=some { o with slots:=sl }
 free:∀ b o,h.get? b=some o->H b=none->b∉ex->H' b=none
 there:∀ b o,h.get? b=some o->b∉ex->∃ o',h'.get? b=some o'
 tups:∀ b xs,H b=some (.tup xs)->H' b=some (.tup xs)
 frzs:∀ b o u,H b=some (.frz o u)->H' b=some (.frz o u)
 tbls:∀ b ps,H b=some (.tbl ps)->∃ more,H' b=some (.tbl (ps++more))
section
variable {fs Jk ex ex':List Addr}{H H1 H2:Hp}{h h1 h2 h':Heap}{a x e:Addr}{o:HO}
theorem Un.any (u:Un fs ex H H1 h h1){b:Addr}{ob:Obj}(q:h.get? b=some ob) (n:H b=none) (hx:b∉ex):∃ sl,h1.get? b=some { ob with slots:=sl }:=by
 by_cases hb:b∈fs
 ·exact u.slot b ob q n hb hx
 ·exact ⟨ob.slots,u.keep b ob q n hb hx⟩
theorem Un.kept (k:∀ b u,h.get? b=some u->h'.get? b=some u):Un fs ex H H h h' :=
 ⟨λb ob q _ _ _=>k b ob q,λb ob q _ _ _=>⟨ob.slots,k b ob q⟩,λ_ _ _ n _=>n,λb ob q _=>⟨ob,k b ob q⟩,λ_ _ q=>q,λ_ _ _ q=>q,λ_ ps q=>⟨#[],by rw [q];simp⟩⟩
theorem Un.refl:Un fs ex H H h h:=Un.kept λ_ _ q=>q
theorem Un.laid (k:∀ b u,h.get? b=some u->h'.get? b=some u) (hp:h.objs.size<=a) (hn:H a=none):Un fs ex H (upd H a o) h h' where
 keep:=λb u q _ _ _=>k b u q
 slot:=λb u q _ _ _=>⟨u.slots,k b u q⟩
 free:=λb u q n _=>by rw [au (N6 (N9 (NY q) hp))];exact n
 there:=λb u q _=>⟨u,k b u q⟩
 tups:=λb xs q=>by rw [au (bj q hn)];exact q
 frzs:=λb u xs q=>by rw [au (bj q hn)];exact q
 tbls:=λb ps q=>⟨#[],by rw [au (bj q hn),q];simp⟩
theorem Un.write (mu:Mut (H x)) (he:e=x\/H e=some (.own x)) (k:∀ b u,b≠e->h.get? b=some u->h'.get? b=some u) (heo:∃ u,h'.get? e=some u):Un fs ex H (upd H x o) h h':=by
 have hx:∀ b,H b=none->b≠x:=λb n z=>by subst z;rw [n] at mu;exact mu
 have hb:∀ b,H b=none->b≠e:=λb n z=>by
  subst z
  rcases he with r|r
  ·exact hx b n r
  ·rw [n] at r;cases r
 have hm:∀ b u,H b=some u->¬ Mut (some u)->b≠x:=λb u q nm z=>by subst z;rw [q] at mu;exact nm mu
 refine ⟨λb u q n _ _=>k b u (hb b n) q,λb u q n _ _=>⟨u.slots,k b u (hb b n) q⟩,λb u q n _=>by rw [au (hx b n)];exact n,λb u q _=>?_,
  λb xs q=>by rw [au (hm b _ q λz=>z)];exact q,λb u xs q=>by rw [au (hm b _ q λz=>z)];exact q,λb ps q=>⟨#[],by rw [au (hm b _ q λz=>z),q];simp⟩⟩
 by_cases Kw:b=e
 ·subst Kw;exact heo
 ·exact ⟨u,k b u Kw q⟩
end
noncomputable def trk (h:Heap) (H:Hp):List Addr:=(List.range h.objs.size).filter λa=>(H a).isSome
def cW (h:Heap) (H:Hp):Heap:=PySem.W.hideAll h (trk h H)
theorem vQ (h:Heap) (H:Hp):(cW h H).objs.size=h.objs.size:=PySem.W.hideAll_size _ _
theorem xm {h:Heap}{H:Hp}{b:Addr}{o:Obj}(e:h.get? b=some o) (n:H b=none):(cW h H).get? b=some o :=
 PySem.W.hideAll_get _ e λhm=>by
  have q:(H b).isSome=true:=(Oc.mp hm).2
  rw [n] at q;simp at q
theorem yT {h:Heap}{H:Hp}{b:Addr}{o:Obj}(e:(cW h H).get? b=some o):h.get? b=some o/\H b=none:=by
 have e':h.get? b=some o:=PySem.W.of_hideAll (trk h H) e
 refine ⟨e',?_⟩
 cases q:H b with
 |none=>rfl
 |some x =>
  have hm:b∈trk h H:=Oc.mpr ⟨RT.mpr (NY e'),by simp [q]⟩
  have z:(cW h H).get? b=none:=PySem.W.hideAll_none (trk h H) hm
  rw [z] at e;cases e
noncomputable def yU (g h:Heap) (L:Addr):List (Addr×Obj):=(List.range h.objs.size).filterMap λa=>if a=L\/(g.get? a).isSome=true then none else (h.get? a).map λo=>(a,o)
def rest (g h:Heap) (L d:Addr):List (Addr×Obj):=(yU g h L).filter λp=>decide (p.1≠d)
structure Mod (K:PySem.W.Frag) (mg:Str->Option Value) (base:Heap):Prop where
 kin:K.In base
 glob:base.Ns mainGlobals mg
 blt:∃ mb,base.Ns builtinsNs mb/\∀ x:Str,x ≠ "__name__"->mb x=bootBuiltins x
 nolimit:base.NoLimit
structure Cx where
 prog:Program
 w:World
 K:PySem.W.Frag
 mg:Str->Option Value
 base:Heap
 A:Around
 N:List Str
 s₀:Shared
 H₀:Hp
 env:Env
 outer:List Env
 stack:List Env
 ex:List Addr
 fn:Str->Bool
 calm:Bool
 pn:List (Addr×Obj)
 xe:Value->Shared->Prop
def frs (l:List Env):List Addr:=l.filterMap (·.frame)
abbrev Cx.fs (X:Cx):List Addr:=frs X.outer
def Vis (sc:Scope) (x:Str):Prop:=sc.names.lookup x=some .local\/sc.names.lookup x=some .cell\/sc.names.lookup x=some .free
def Loc (sc:Scope) (x:Str):Prop:=sc.names.lookup x=some .local\/sc.names.lookup x=some .cell
def FV (env:Env) (h:Heap) (m:Str->Option Value) (x:Str) (u:Value):Prop :=
 (env.kindOf x=some .local/\m x=some u)\/((env.kindOf x=some .cell\/env.kindOf x=some .free)/\∃ c,env.cells.lookup x=some c/\h.IsCell c (some u))
structure Cx.Ok (X:Cx):Prop where
 mod:Mod X.K X.mg X.base
 kind:X.env.scope.kind=.function
 glob:X.env.globals=mainGlobals
 blt:X.env.builtins=builtinsNs
 above:X.s₀.heap.objs.size<=X.env.locals
 inj:∀ x y c,X.env.cells.lookup x=some c->X.env.cells.lookup y=some c->x=y
 has:∀ x,(X.env.kindOf x=some .cell\/X.env.kindOf x=some .free)->∃ c,X.env.cells.lookup x=some c
 cab:∀ x c,X.fn x=true->X.env.cells.lookup x=some c->X.s₀.heap.objs.size<=c
 hd:X.calm=true->X.A.handled=none
 frames:X.A.frames=some X.stack
 stk:X.stack=X.outer\/(X.stack=X.env::X.outer/\X.env.frame=some X.env.locals)
 exf:∀ b∈X.ex,b≠X.env.locals/\∀ x c,X.env.cells.lookup x=some c->c≠b
 bs:∀ b o,X.base.get? b=some o->X.s₀.heap.get? b=some o/\X.H₀ b=none
 bsz:X.base.objs.size<=X.s₀.heap.objs.size
 noex:∀ b o,X.base.get? b=some o->b∉X.ex
 exfs:∀ b∈X.ex,b∉X.fs
 funs:X.s₀.heap.FunFrames X.base X.outer
 frf:∀ b∈X.fs,X.H₀ b=none
structure Inv (X:Cx) (pins:List (Addr×Obj)) (U:List (Option V)) (H:Hp) (s:Shared):Prop where
 ok:X.Ok
 os:s.os=X.s₀.os
 bare:AllBare s.gens
 base:Un X.fs X.ex X.H₀ H X.s₀.heap s.heap
 loc:∃ m,s.heap.Ns X.env.locals m/\∀ (i:Nat) (x:Str) (v:V),X.N[i]?=some x->U[i]?=some (some v)->Vis X.env.scope x->∃ u,ak v u/\FV X.env s.heap m x u
 cell:∀ x c,X.env.cells.lookup x=some c->∃ v,s.heap.IsCell c v
 free:H X.env.locals=none
 freeC:∀ x c,X.env.cells.lookup x=some c->H c=none
 pin:∀ p∈X.pn++pins,s.heap.get? p.1=some p.2/\H p.1=none/\p.1≠X.env.locals/\p.1∉X.fs/\∀ v,p.2.data≠.cell v
 hok:HOk X.prog X.w H s.heap
 len:U.length=X.N.length
section
variable {X:Cx}{pins:List (Addr×Obj)}{U:List (Option V)}{H H':Hp}{s:Shared}{h':Heap}
theorem Cx.Ok.nofr (ok:X.Ok){b:Addr}{o:Obj}(e:X.base.get? b=some o):b∉X.fs:=λhb=>by
 have:=(ok.funs.mem hb).1
 rw [e] at this;cases this
theorem Inv.bs (I:Inv X pins U H s):∀ b o,X.base.get? b=some o->s.heap.get? b=some o/\H b=none:=λb o e =>
 ⟨I.base.keep b o (I.ok.bs b o e).1 (I.ok.bs b o e).2 (I.ok.nofr e) (I.ok.noex b o e),I.base.free b o (I.ok.bs b o e).1 (I.ok.bs b o e).2 (I.ok.noex b o e)⟩
theorem Inv.bk (I:Inv X pins U H s):∀ b o,X.base.get? b=some o->s.heap.get? b=some o:=λb o e=>(I.bs b o e).1
theorem Inv.mod (I:Inv X pins U H s):Mod X.K X.mg X.base:=I.ok.mod
theorem Inv.kIn (I:Inv X pins U H s):X.K.In s.heap:=I.ok.mod.kin.keeps I.bk
theorem Inv.lt (I:Inv X pins U H s):X.env.locals<s.heap.objs.size:=let ⟨_,hn,_⟩:=I.loc;hn.lt
theorem Inv.sz (I:Inv X pins U H s):X.s₀.heap.objs.size<=s.heap.objs.size:=NZ I.ok.above (Oo I.lt)
theorem Inv.nofs (I:Inv X pins U H s){a:Addr}(h:s.heap.objs.size<=a):a∉X.fs:=λhb=>by
 obtain ⟨_,o,ho,_⟩:=I.ok.funs.mem hb
 exact absurd (N9 (NY ho) (NZ I.sz h)) (Ps _)
theorem Inv.cne (I:Inv X pins U H s):∀ x c,X.env.cells.lookup x=some c->c≠X.env.locals:=λx c e z=>by
 obtain ⟨v,o,ho,hd⟩:=I.cell x c e
 obtain ⟨m,⟨o',es,ep,K1,hd',_⟩,_⟩:=I.loc
 rw [z,K1] at ho;cases ho;rw [hd'] at hd;cases hd
theorem Inv.funs (I:Inv X pins U H s):s.heap.FunFrames X.base X.outer:=by
 have all:∀ (l:List Env),(∀ b∈frs l,b∈X.fs)->X.s₀.heap.FunFrames X.base l->s.heap.FunFrames X.base l:=by
  intro l
  induction l with
  |nil=>intro _ _;trivial
  |cons env r ih =>
   intro hs hl
   obtain ⟨hk,⟨L,o,hf,hn,ho,hd⟩,hr⟩:=hl
   have hL:L∈X.fs:=hs L (by unfold frs;rw [O9,hf];exact NM)
   obtain ⟨sl,e⟩:=I.base.slot L o ho (I.ok.frf L hL) hL λz=>I.ok.exfs L z hL
   exact ⟨hk,⟨L,_,hf,hn,e,hd⟩,ih (λb hb=>hs b (by unfold frs;rw [O9,hf];exact NQ _ hb)) hr⟩
 exact all X.outer (λ_ hb=>hb) I.ok.funs
theorem Inv.stack (I:Inv X pins U H s):s.heap.FunFrames X.base X.stack:=by
 rcases I.ok.stk with e|⟨e,hf⟩
 ·rw [e];exact I.funs
 ·rw [e]
  obtain ⟨m,hn,_⟩:=I.loc
  refine .cons (by rw [I.ok.kind];decide) hf hn ?_ I.funs
  exact Heap.get?_none_of_le (NZ I.ok.bsz I.ok.above)
theorem Inv.stkSub (I:Inv X pins U H s):∀ b∈frs X.stack,b∈X.env.locals::X.fs:=λb hb=>by
 rcases I.ok.stk with e|⟨e,hf⟩
 ·rw [e] at hb;exact NQ _ hb
 ·rw [e] at hb
  unfold frs at hb
  rw [O9,hf] at hb
  exact hb
theorem Inv.stkFree (I:Inv X pins U H s):∀ b∈frs X.stack,H b=none:=λb hb=>by
 rcases NR.mp (I.stkSub b hb) with e|hb
 ·rw [e];exact I.free
 ·obtain ⟨_,o,ho,_⟩:=I.ok.funs.mem hb
  exact I.base.free b o ho (I.ok.frf b hb) λz=>I.ok.exfs b z hb
theorem Inv.step {g':Array GenState}{t':Nat}{d':Drawn}{ch:List Addr}(I:Inv X pins U H s)
  (L9:∀ b∈ch,(b∈X.ex\/X.s₀.heap.objs.size<=b)/\b≠X.env.locals/\(∀ x c,X.env.cells.lookup x=some c->c≠b)/\∀ p∈X.pn++pins,p.1≠b)
  (keep:∀ b o,b≠X.env.locals->b∉X.fs->b∉ch->s.heap.get? b=some o->H b=none->h'.get? b=some o)
  (slot:∀ b o,b≠X.env.locals->b∈X.fs->b∉ch->s.heap.get? b=some o->H b=none->∃ sl,h'.get? b=some { o with slots:=sl }) (free:∀ b o,b∉ch->s.heap.get? b=some o->H b=none->H' b=none)
  (there:∀ b o,b∉ch->s.heap.get? b=some o->∃ o',h'.get? b=some o')
  (tups:∀ b xs,H b=some (.tup xs)->H' b=some (.tup xs)) (frzs:∀ b o u,H b=some (.frz o u)->H' b=some (.frz o u)) (tbls:∀ b ps,H b=some (.tbl ps)->∃ more,H' b=some (.tbl (ps++more)))
  (ns:∀ m,s.heap.Ns X.env.locals m->h'.Ns X.env.locals m) (hok:HOk X.prog X.w H' h') (hg:AllBare g') :
  Inv X pins U H' { s with heap:=h',gens:=g',drawn:=d',toks:=t' }:=by
 have neL:∀ b o,X.s₀.heap.get? b=some o->b≠X.env.locals:=λb o e=>N6 (N9 (NY e) I.ok.above)
 have neC:∀ b o,X.s₀.heap.get? b=some o->b∉X.ex->b∉ch:=λb o e hx hb=>by
  rcases (L9 b hb).1 with z|z
  ·exact hx z
  ·exact absurd (N9 (NY e) z) (Ps _)
 have cellK:∀ x c,X.env.cells.lookup x=some c->∀ v,s.heap.IsCell c v->h'.IsCell c v:=λx c e v zz1=>by
  obtain ⟨o,ho,hd⟩:=zz1
  have nch:c∉ch:=λz=>(L9 c z).2.2.1 x c e rfl
  by_cases hc:c∈X.fs
  ·obtain ⟨sl,q⟩:=slot c o (I.cne x c e) hc nch ho (I.freeC x c e)
   exact ⟨_,q,hd⟩
  ·exact ⟨o,keep c o (I.cne x c e) hc nch ho (I.freeC x c e),hd⟩
 refine ⟨I.ok,I.os,hg,⟨λb o e n hb hx=>?_,λb o e n hb hx=>?_,λb o e n hx=>?_,λb o e hx=>?_,λb xs e=>tups b xs (I.base.tups b xs e),λb o xs e=>frzs b o xs (I.base.frzs b o xs e),λb ps e=>?_⟩,?_,λx c e=>?_,?_,λx c e=>?_,λp hp=>?_,hok,I.len⟩
 ·exact keep b o (neL b o e) hb (neC b o e hx) (I.base.keep b o e n hb hx) (I.base.free b o e n hx)
 ·obtain ⟨sl,e1⟩:=I.base.slot b o e n hb hx
  obtain ⟨sl',e2⟩:=slot b _ (neL b o e) hb (neC b o e hx) e1 (I.base.free b o e n hx)
  exact ⟨sl',e2⟩
 ·obtain ⟨o',e1⟩:=I.base.there b o e hx
  exact free b o' (neC b o e hx) e1 (I.base.free b o e n hx)
 ·obtain ⟨o',e1⟩:=I.base.there b o e hx
  exact there b o' (neC b o e hx) e1
 ·obtain ⟨m1,e1⟩:=I.base.tbls b ps e
  obtain ⟨m2,e2⟩:=tbls b _ e1
  exact ⟨m1++m2,by rw [e2,Array.append_assoc]⟩
 ·obtain ⟨m,hn,hl⟩:=I.loc
  refine ⟨m,ns m hn,λi x v e1 e2 e3=>?_⟩
  obtain ⟨u,r,l⟩:=hl i x v e1 e2 e3
  refine ⟨u,r,?_⟩
  rcases l with l|⟨k,c,e,z⟩
  ·exact .inl l
  ·exact .inr ⟨k,c,e,cellK x c e _ z⟩
 ·obtain ⟨v,z⟩:=I.cell x c e
  exact ⟨v,cellK x c e v z⟩
 ·obtain ⟨m,⟨o,_,_,ho,_⟩,_⟩:=I.loc
  exact free _ o (λz=>(L9 _ z).2.1 rfl) ho I.free
 ·obtain ⟨v,o,ho,hd⟩:=I.cell x c e
  exact free c o (λz=>(L9 c z).2.2.1 x c e rfl) ho (I.freeC x c e)
 ·obtain ⟨e,n,ne,nf,d⟩:=I.pin p hp
  have nch:p.1∉ch:=λz=>(L9 p.1 z).2.2.2 p hp rfl
  exact ⟨keep p.1 p.2 ne nf nch e n,free p.1 p.2 nch e n,ne,nf,d⟩
theorem Inv.un {t':Nat}(I:Inv X pins U H s) (u:Un X.fs [] H H' s.heap h') (hok:HOk X.prog X.w H' h'):Inv X pins U H' { s with heap:=h',toks:=t' }:=by
 obtain ⟨m,⟨o,es,ep,ho,r⟩,_⟩:=id I.loc
 obtain ⟨sl,hL⟩:=u.any ho I.free (by simp)
 exact I.step (g':=s.gens) (d':=s.drawn) (ch:=[]) (λ_ z=>nomatch z) (λb o _ hb _ e n=>u.keep b o e n hb (by simp)) (λb o _ hb _ e n=>u.slot b o e n hb (by simp)) (λb o _ e n=>u.free b o e n (by simp)) (λb o _ e=>u.there b o e (by simp)) u.tups u.frzs u.tbls (λm' hm=>by
  obtain ⟨o',es',ep',K1,r'⟩:=hm
  rw [ho] at K1;cases K1
  exact ⟨_,es',ep',hL,r'⟩) hok I.bare
theorem Inv.call {g':Array GenState}{t':Nat}{d':Drawn}{ch:List Addr}(I:Inv X pins U H s) (u:Un (frs X.stack) ch H H' s.heap h') (hok:HOk X.prog X.w H' h') (hg:AllBare g')
  (L9:∀ b∈ch,(b∈X.ex\/X.s₀.heap.objs.size<=b)/\b≠X.env.locals/\(∀ x c,X.env.cells.lookup x=some c->c≠b)/\∀ p∈X.pn++pins,p.1≠b) :
  Inv X pins U H' { s with heap:=h',gens:=g',drawn:=d',toks:=t' }:=by
 obtain ⟨m,⟨o,es,ep,ho,r⟩,_⟩:=id I.loc
 obtain ⟨sl,hL⟩:=u.any ho I.free λz=>(L9 _ z).2.1 rfl
 exact I.step (ch:=ch) L9 (λb o hL hb hc e n=>u.keep b o e n (λz=>(NR.mp (I.stkSub b z)).elim hL hb) hc) (λb o _ _ hc e n=>u.any e n hc) (λb o hc e n=>u.free b o e n hc) (λb o hc e=>u.there b o e hc) u.tups u.frzs u.tbls (λm' hm=>by
  obtain ⟨o',es',ep',K1,r'⟩:=hm
  rw [ho] at K1;cases K1
  exact ⟨_,es',ep',hL,r'⟩) hok hg
theorem Inv.turned {t':Nat}{it:Addr}(I:Inv X pins U H s) (k:∀ b o,b≠it->s.heap.get? b=some o->h'.get? b=some o) (hn:H it=none) (hL:it≠X.env.locals)
  (h1:it∈X.ex\/X.s₀.heap.objs.size<=it) (h2:∀ x c,X.env.cells.lookup x=some c->c≠it) (h3:∀ p∈X.pn++pins,p.1≠it):Inv X pins U H { s with heap:=h',toks:=t' }:=by
 have nit:∀ b u,H b=some u->b≠it:=λb u e z=>by rw [z,hn] at e;cases e
 refine I.step (g':=s.gens) (d':=s.drawn) (ch:=[it]) (λb hb=>?_) (λb o _ _ hc e _=>k b o (λz=>hc (by simp [z])) e) (λb o _ _ hc e _=>⟨o.slots,k b o (λz=>hc (by simp [z])) e⟩) (λ_ _ _ _ n=>n)
  (λb o hc e=>⟨o,k b o (λz=>hc (by simp [z])) e⟩) (λ_ _ e=>e) (λ_ _ _ e=>e) (λb ps e=>⟨#[],by rw [e];simp⟩) (λm hm=>?_) (λb u e=>?_) I.bare
 ·have e:b=it:=by simpa using hb
  subst e
  exact ⟨h1,hL,h2,h3⟩
 ·obtain ⟨o,es,ep,ho,r⟩:=hm
  exact ⟨o,es,ep,k _ o (Op hL) ho,r⟩
 ·refine (I.hok b u e).stay (λc v hc q=>k c v ?_ q) (λ_ q=>q) λ_ _ q=>q
  rcases hc with z|z
  ·rw [z];exact nit b u e
  ·exact nit c _ z
theorem Inv.tok (I:Inv X pins U H s) (t:Nat):Inv X pins U H { s with toks:=t }:=I.un (h':=s.heap) (t':=t) Un.refl I.hok
theorem Inv.kept {t':Nat}(I:Inv X pins U H s) (k:∀ b u,s.heap.get? b=some u->h'.get? b=some u):Inv X pins U H { s with heap:=h',toks:=t' }:=I.un (Un.kept k) (I.hok.kept k)
theorem Inv.laid {a:Addr}{o:HO}{t':Nat}(I:Inv X pins U H s) (k:∀ b u,s.heap.get? b=some u->h'.get? b=some u) (hp:s.heap.objs.size<=a) (new:aQ X.prog X.w (upd H a o) h' a o) :
  Inv X pins U (upd H a o) { s with heap:=h',toks:=t' }:=I.un (Un.laid k hp (I.hok.fresh hp)) (I.hok.laid k hp new)
theorem Inv.write {x e:Addr}{o:HO}{t':Nat}(I:Inv X pins U H s) (mu:Mut (H x)) (he:e=x\/H e=some (.own x)) (k:∀ b u,b≠e->s.heap.get? b=some u->h'.get? b=some u) (heo:∃ u,h'.get? e=some u)
  (new:aQ X.prog X.w (upd H x o) h' x o):Inv X pins U (upd H x o) { s with heap:=h',toks:=t' }:=I.un (Un.write mu he k heo) (I.hok.write mu he k heo new)
theorem Inv.pins_of {Lr:List (Addr×Obj)}(I:Inv X pins U H s) (h:∀ p∈Lr,s.heap.get? p.1=some p.2/\H p.1=none/\p.1≠X.env.locals/\p.1∉X.fs/\∀ v,p.2.data≠.cell v):Inv X Lr U H s :=
 ⟨I.ok,I.os,I.bare,I.base,I.loc,I.cell,I.free,I.freeC,λp hp=>(NL.mp hp).elim (λz=>I.pin p (List.mem_append_left _ z)) (h p),I.hok,I.len⟩
theorem ol {N:List Str}(hN:N.Nodup){i j:Nat}{x:Str}(a:N[i]?=some x) (b:N[j]?=some x):i=j:=by
 obtain ⟨h1,e1⟩:=Oa.mp a
 obtain ⟨h2,e2⟩:=Oa.mp b
 exact (Sr hN).mp (e1.trans e2.symm)
theorem vR {M:Model}{A:Around}{E:Value->Shared->Prop}{i:Nat}{x:Str}{v:V}{u:Value}{Q:Unit->Shared->Prop}(I:Inv X pins U H s) (hN:X.N.Nodup) (hi:X.N[i]?=some x) (hx:Loc X.env.scope x) (r:ak v u)
  (h:∀ s',Inv X pins (U.set i (some v)) H s'->(∃ a,Heap.SameBut a s.heap s'.heap/\(a=X.env.locals\/X.env.cells.lookup x=some a))->Q () s') (hf:X.fn x=true\/X.env.scope.names.lookup x=some .local:=by first|exact .inl rfl|exact .inr rfl|assumption):wpAny M A (storeName X.env x u) Q E s:=by
 obtain ⟨m,hn,hl⟩:=id I.loc
 have hcls:(X.env.scope.kind==.class || (X.env.scope.kind==.module&&X.env.locals != X.env.globals))=false:=by rw [I.ok.kind];rfl
 have hiσ:i<U.length:=by rw [I.len];exact (Oa.mp hi).1
 have cne:=I.cne
 have tracked:∀ {a:Addr}{h':Heap},(∃ o,s.heap.get? a=some o/\H a=none)->Heap.SameBut a s.heap h'->HOk X.prog X.w H h':=fun {a h'} ha hs b ob e=>by
  obtain ⟨_,_,MD⟩:=ha
  refine (I.hok b ob e).stay (λc w' hc q=>(hs.2 c ?_).trans q) (λ_ q=>q) λ_ _ q=>q
  rintro rfl
  rcases hc with rfl|hc
  ·rw [MD] at e;cases e
  ·rw [MD] at hc;cases hc
 rcases hx with hk|hk
 ·refine wpAny_storeName_local hk hn (λh' hn' hs=>?_) hcls
  obtain ⟨oL,_,_,hoL,_⟩:=id hn
  refine h _ ⟨I.ok,I.os,I.bare,⟨λb o e n hb hx=>?_,λb o e n hb hx=>?_,I.base.free,λb o e hx=>?_,I.base.tups,I.base.frzs,I.base.tbls⟩,⟨_,hn',λj y v' e1 e2 e3=>?_⟩,λy c e=>?_,I.free,I.freeC,λp hp=>?_,tracked ⟨oL,hoL,I.free⟩ hs,by simpa using I.len⟩ ⟨_,hs,.inl rfl⟩
  ·exact (hs.2 b (N6 (N9 (NY e) I.ok.above))).trans (I.base.keep b o e n hb hx)
  ·obtain ⟨sl,e1⟩:=I.base.slot b o e n hb hx
   exact ⟨sl,(hs.2 b (N6 (N9 (NY e) I.ok.above))).trans e1⟩
  ·obtain ⟨o',e1⟩:=I.base.there b o e hx
   exact ⟨o',(hs.2 b (N6 (N9 (NY e) I.ok.above))).trans e1⟩
  ·by_cases hj:j=i
   ·subst hj
    rw [hi] at e1;cases e1
    rw [Qd hiσ] at e2
    cases e2
    exact ⟨u,r,.inl ⟨hk,by simp⟩⟩
   ·rw [RD (Op hj)] at e2
    obtain ⟨u',r',q⟩:=hl j y v' e1 e2 e3
    refine ⟨u',r',?_⟩
    rcases q with ⟨k,e⟩|⟨k,c,e,z⟩
    ·refine .inl ⟨k,?_⟩
     have:y≠x:=λe=>hj (ol hN e1 (e ▸ hi))
     simp [this,e]
    ·exact .inr ⟨k,c,e,z.sameBut hs (cne y c e)⟩
  ·obtain ⟨w',z⟩:=I.cell y c e
   exact ⟨w',z.sameBut hs (cne y c e)⟩
  ·obtain ⟨e,n,ne,nf,d⟩:=I.pin p hp
   exact ⟨(hs.2 p.1 ne).trans e,n,ne,nf,d⟩
 ·have hfn:X.fn x=true:=by
   rcases hf with z|z
   ·exact z
   ·rw [z] at hk;cases hk
  obtain ⟨c,hc⟩:=I.ok.has x (.inl hk)
  obtain ⟨w',z⟩:=I.cell x c hc
  refine wpAny_storeName_cell I.ok.kind hk hc z (λh' hc' hs=>?_)
  obtain ⟨oc,hoc,hocd⟩:=id z
  refine h { s with heap:=h' } ⟨I.ok,I.os,I.bare,⟨λb o e n hb hx=>?_,λb o e n hb hx=>?_,I.base.free,λb o e hx=>?_,I.base.tups,I.base.frzs,I.base.tbls⟩,⟨m,hn.sameBut hs (Op (cne x c hc)),λj y v' e1 e2 e3=>?_⟩,λy c' e=>?_,I.free,I.freeC,λp hp=>?_,tracked ⟨oc,hoc,I.freeC x c hc⟩ hs,by simpa using I.len⟩ ⟨c,hs,.inr hc⟩
  ·exact (hs.2 b (N6 (N9 (NY e) (I.ok.cab x c hfn hc)))).trans (I.base.keep b o e n hb hx)
  ·obtain ⟨sl,e1⟩:=I.base.slot b o e n hb hx
   exact ⟨sl,(hs.2 b (N6 (N9 (NY e) (I.ok.cab x c hfn hc)))).trans e1⟩
  ·obtain ⟨o',e1⟩:=I.base.there b o e hx
   exact ⟨o',(hs.2 b (N6 (N9 (NY e) (I.ok.cab x c hfn hc)))).trans e1⟩
  ·by_cases hj:j=i
   ·subst hj
    rw [hi] at e1;cases e1
    rw [Qd hiσ] at e2
    cases e2
    exact ⟨u,r,.inr ⟨.inl hk,c,hc,hc'⟩⟩
   ·rw [RD (Op hj)] at e2
    obtain ⟨u',r',q⟩:=hl j y v' e1 e2 e3
    refine ⟨u',r',?_⟩
    rcases q with q|⟨k,c',e,z'⟩
    ·exact .inl q
    ·refine .inr ⟨k,c',e,z'.sameBut hs ?_⟩
     rintro rfl
     exact hj (ol hN e1 (I.ok.inj _ _ _ e hc ▸ hi))
  ·by_cases hcc:c'=c
   ·subst hcc;exact ⟨_,hc'⟩
   ·obtain ⟨w2,z2⟩:=I.cell y c' e
    exact ⟨w2,z2.sameBut hs hcc⟩
  ·obtain ⟨e,n,ne,nf,d⟩:=I.pin p hp
   refine ⟨(hs.2 p.1 ?_).trans e,n,ne,nf,d⟩
   intro q
   rw [q,hoc] at e
   have q':oc=p.2:=Option.some.inj e
   exact d w' (by rw [<- q'];exact hocd)
theorem jV {M:Model}{A:Around}{E:Value->Shared->Prop}{i:Nat}{x:Str}{v:V}{u:Value}{Q:Unit->Shared->Prop}(I:Inv X pins U H s) (hN:X.N.Nodup) (hi:X.N[i]?=some x) (hx:Loc X.env.scope x) (r:ak v u)
  (h:∀ s',Inv X pins (U.set i (some v)) H s'->Q () s') (hf:X.fn x=true\/X.env.scope.names.lookup x=some .local:=by first|exact .inl rfl|exact .inr rfl|assumption):wpAny M A (storeName X.env x u) Q E s :=
 vR I hN hi hx r (λs' I' _=>h s' I') hf
theorem Inv.call' {s':Shared}{ch:List Addr}(I:Inv X pins U H s) (ho:s'.os=s.os) (u:Un (frs X.stack) ch H H' s.heap s'.heap) (hok:HOk X.prog X.w H' s'.heap) (hg:AllBare s'.gens)
  (L9:∀ b∈ch,(b∈X.ex\/X.s₀.heap.objs.size<=b)/\b≠X.env.locals/\(∀ x c,X.env.cells.lookup x=some c->c≠b)/\∀ p∈X.pn++pins,p.1≠b):Inv X pins U H' s':=by
 obtain ⟨h',g',d',t',o'⟩:=s'
 have e:o'=s.os:=ho
 subst e
 exact I.call (g':=g') (t':=t') (d':=d') u hok hg L9
end
abbrev XK:=Value->Option Addr->Hp->Prop
abbrev St:=List (Option V)
abbrev VK:=V->Hp->Prop
abbrev TE:=St->Hp->VK->Prop
abbrev TT:=St->Hp->(Bool->Hp->Prop)->Prop
abbrev TA:=St->Hp->(List V->Hp->Prop)->Prop
structure Ends where
 nx:St->Hp->Prop
 rt:VK
 bk:St->Hp->Prop:=λ_ _=>False
 ct:St->Hp->Prop:=λ_ _=>False
abbrev TS:=Ends->St->Hp->Prop
def EP (X:Cx) (pins:List (Addr×Obj)) (U:St) (Q:VK) (u:Value) (s':Shared):Prop:=∃ v H',Inv X pins U H' s'/\ak v u/\Q v H'
def TP (X:Cx) (pins:List (Addr×Obj)) (U:St) (Q:Bool->Hp->Prop) (b:Bool) (s':Shared):Prop:=∃ H',Inv X pins U H' s'/\Q b H'
def AP (X:Cx) (pins:List (Addr×Obj)) (U:St) (Q:List V->Hp->Prop) (us:List Value) (s':Shared):Prop:=∃ vs H',Inv X pins U H' s'/\aj vs us/\Q vs H'
def SP (X:Cx) (pins:List (Addr×Obj)) (D:Ends) (f:Flow) (s':Shared):Prop :=
 match f with
 |.next=>∃ HD H',Inv X pins HD H' s'/\D.nx HD H'
 |.brk=>∃ HD H',Inv X pins HD H' s'/\D.bk HD H'
 |.cont=>∃ HD H',Inv X pins HD H' s'/\D.ct HD H'
 |.ret u=>∃ v HD H',Inv X pins HD H' s'/\ak v u/\D.rt v H'
def PE (X:Cx) (e:Expr) (t:TE):Prop :=
 ∀ (pins:List (Addr×Obj)) (s:Shared) (U:St) (H:Hp) (Q:VK),Inv X pins U H s->t U H Q->wpAny (model X.prog X.w) X.A (eval e X.env) (EP X pins U Q) X.xe s
def PT (X:Cx) (e:Expr) (t:TT):Prop :=
 ∀ (pins:List (Addr×Obj)) (s:Shared) (U:St) (H:Hp) (Q:Bool->Hp->Prop),Inv X pins U H s->t U H Q->wpAny (model X.prog X.w) X.A (isTrue e X.env (eval e X.env)) (TP X pins U Q) X.xe s
def PW (X:Cx) (e:Expr) (t:TT):Prop :=
 ∀ (whole:Sem Value) (pins:List (Addr×Obj)) (s:Shared) (U:St) (H:Hp) (Q:Bool->Hp->Prop),Inv X pins U H s->t U H Q->wpAny (model X.prog X.w) X.A (isTrue e X.env whole) (TP X pins U Q) X.xe s
def PA (X:Cx) (es:List Expr) (t:TA):Prop :=
 ∀ (pos:Pos) (pins:List (Addr×Obj)) (s:Shared) (U:St) (H:Hp) (Q:List V->Hp->Prop),Inv X pins U H s->t U H Q->wpAny (model X.prog X.w) X.A (spliced (backTo pos (starEach es X.env))) (AP X pins U Q) X.xe s
def PS (X:Cx) (st:Stmt) (t:TS):Prop :=
 ∀ (pins:List (Addr×Obj)) (s:Shared) (U:St) (H:Hp) (D:Ends),Inv X pins U H s->t D U H->wpAny (model X.prog X.w) X.A (exec st X.env) (SP X pins D) X.xe s
def PSs (X:Cx) (st:List Stmt) (t:TS):Prop :=
 ∀ (pins:List (Addr×Obj)) (s:Shared) (U:St) (H:Hp) (D:Ends),Inv X pins U H s->t D U H->wpAny (model X.prog X.w) X.A (execs st X.env) (SP X pins D) X.xe s
theorem thn {α:Type}{t:Sem α}{Q Q':α->Shared->Prop}{M:Model}{A:Around}{E:Value->Shared->Prop}{s:Shared}(h:wpAny M A t Q E s) (hQ:∀ a s,Q a s->Q' a s):wpAny M A t Q' E s:=OX h hQ λ_ _ x=>x
section
variable {X:Cx}
def tj (i:Nat):TE:=λU H Q=>∃ v,U[i]?=some (some v)/\Q v H
def tC (v:V):TE:=λ_ H Q=>Q v H
theorem Bn {i:Nat}{x:Str}{pos:Pos}(hN:X.N[i]?=some x) (hv:Vis X.env.scope x) (hd:(x==("__debug__":Str))=false:=by decide) (Ly:(x==("__classdict__":Str))=false:=by decide):PE X (.Name x pos) (tj i):=by
 intro pins s U H Q I h
 obtain ⟨v,e,h⟩:=h
 obtain ⟨m,hn,hl⟩:=I.loc
 obtain ⟨u,r,l⟩:=hl i x v hN e hv
 have fin:EP X pins U Q u s:=⟨v,H,I,r,h⟩
 rcases l with ⟨hk,hm⟩|⟨hk,c,hc,ME⟩
 ·exact wpAny_Name (wpAny_loadName_local I.ok.kind hk hn hm fin) hd
 ·rcases hk with hk|hk
  ·exact wpAny_Name (wpAny_loadName_cell I.ok.kind hk hc ME fin) hd
  ·exact wpAny_Name (wpAny_loadName_free I.ok.kind hk hc ME fin Ly) hd
theorem Bo {i j pos}:PE X (.Constant (.int i) j pos) (tC (.int i)):=λ_ _ _ H _ I h=>wpAny_Constant_int ⟨.int i,H,I.tok _,⟨_,rfl⟩,h⟩
theorem DM {b j pos}:PE X (.Constant (.bool b) j pos) (tC (.bl b)):=λ_ _ _ H _ I h=>Constant_bool ⟨.bl b,H,I,rfl,h⟩
theorem Bp {j pos}:PE X (.Constant .none j pos) (tC .non):=λ_ _ _ H _ I h=>Constant_none ⟨.non,H,I,rfl,h⟩
theorem qm {x j pos}:PE X (.Constant (.str x) j pos) (tC (.str x)):=λ_ _ _ H _ I h=>Calls.Constant_str ⟨.str x,H,I.tok _,⟨_,rfl⟩,h⟩
def Gl (X:Cx) (x:Str):Prop:=X.env.kindOf x=some .globalImplicit
theorem kq {E:Value->Shared->Prop}{pins:List (Addr×Obj)}{s:Shared}{U:St}{H:Hp}{x:Str}{u:Value}{pos:Pos}{Q:Value->Shared->Prop}(I:Inv X pins U H s) (hg:Gl X x) (hm:X.mg x=some u) (h:Q u s)
  (hd:(x==("__debug__":Str))=false:=by decide):wpAny (model X.prog X.w) X.A (eval (.Name x pos) X.env) Q E s :=
 Calls.Name_function_global I.ok.kind hg (Calls.loadGlobal_global (by rw [I.ok.glob];exact I.mod.glob.keeps I.bk) hm h) hd
theorem ee {E:Value->Shared->Prop}{pins:List (Addr×Obj)}{s:Shared}{U:St}{H:Hp}{x:Str}{u:Value}{pos:Pos}{Q:Value->Shared->Prop}(I:Inv X pins U H s) (hg:Gl X x) (hm:X.mg x=none) (hv:bootBuiltins x=some u) (h:Q u s)
  (hn:x ≠ "__name__":=by decide) (hd:(x==("__debug__":Str))=false:=by decide):wpAny (model X.prog X.w) X.A (eval (.Name x pos) X.env) Q E s:=by
 obtain ⟨mb,h1,h2⟩:=I.mod.blt
 exact Calls.Name_function_global I.ok.kind hg (Calls.loadGlobal_builtin (by rw [I.ok.glob];exact I.mod.glob.keeps I.bk) hm (by rw [I.ok.blt];exact h1.keeps I.bk) ((h2 x hn).trans hv) h) hd
theorem pj {x:Str}{v:V}{u:Value}{pos:Pos}(hg:Gl X x) (hm:X.mg x=some u) (r:ak v u) (hd:(x==("__debug__":Str))=false:=by decide):PE X (.Name x pos) (tC v) :=
 λ_ _ _ H _ I h=>kq I hg hm ⟨v,H,I,r,h⟩ hd
theorem yV {x:Str}{v:V}{u:Value}{pos:Pos}(hg:Gl X x) (hm:X.mg x=none) (hv:bootBuiltins x=some u) (r:ak v u) (hn:x ≠ "__name__":=by decide) (hd:(x==("__debug__":Str))=false:=by decide):PE X (.Name x pos) (tC v) :=
 λ_ _ _ H _ I h=>ee I hg hm hv ⟨v,H,I,r,h⟩ hn hd
variable {a b:Expr}{ta tb:TE}{pos:Pos}
def tB (t:TE):TT:=λU H Q=>t U H λx H1=>∃ c,x=.bl c/\Q c H1
theorem Bq {e:Expr}{t:TE}(h:PE X e t) (he:∀ whole,isTrue e X.env whole=(do let v <- whole;standAt e.pos;holding [v] (truthy v)):=by intro _;rfl):PT X e (tB t):=by
 intro pins s U H Q I hw
 refine isTrue_plain (thn (h pins s U H _ I hw) λv s1 zy1=>?_) (he _)
 obtain ⟨x,H1,I1,r1,q1⟩:=zy1
 obtain ⟨d,rfl,q⟩:=q1
 cases r1
 exact OL ⟨H1,I1,q⟩
variable {tA tB':TT}{rest:List Expr}
def FW (t u:TT):TT:=λU H Q=>t U H λc H1=>if c=true then u U H1 Q else Q false H1
def tOr (t u:TT):TT:=λU H Q=>t U H λc H1=>if c=true then Q true H1 else u U H1 Q
def FX (t:TT):TT:=λU H Q=>t U H λc H1=>Q (!c) H1
theorem yW (ha:PT X a tA):PW X (.BoolOp .And [a] pos) tA:=by
 intro wh pins s U H Q I h
 refine isTrue_and (thn (ha pins s U H Q I h) λc s1 e=>?_)
 cases c with
 |true=>exact isTrue_and_nil e
 |false=>exact e
theorem Bs (ha:PT X a tA):PW X (.BoolOp .Or [a] pos) tA:=by
 intro wh pins s U H Q I h
 refine isTrue_or (thn (ha pins s U H Q I h) λc s1 e=>?_)
 cases c with
 |false=>exact isTrue_or_nil e
 |true=>exact e
theorem Bt (ha:PT X a tA) (hb:PW X (.BoolOp .And (b::rest) pos) tB'):PW X (.BoolOp .And (a::b::rest) pos) (FW tA tB'):=by
 intro wh pins s U H Q I h
 refine isTrue_and (thn (ha pins s U H _ I h) λc s1 zz2=>?_)
 obtain ⟨H1,I1,q1⟩:=zz2
 cases c with
 |true=>exact hb wh pins s1 U H1 Q I1 q1
 |false=>exact ⟨H1,I1,q1⟩
theorem DN (ha:PT X a tA) (hb:PW X (.BoolOp .Or (b::rest) pos) tB'):PW X (.BoolOp .Or (a::b::rest) pos) (tOr tA tB'):=by
 intro wh pins s U H Q I h
 refine isTrue_or (thn (ha pins s U H _ I h) λc s1 zz3=>?_)
 obtain ⟨H1,I1,q1⟩:=zz3
 cases c with
 |true=>exact ⟨H1,I1,q1⟩
 |false=>exact hb wh pins s1 U H1 Q I1 q1
theorem Bu (ha:PT X a tA):PT X (.UnaryOp .Not a pos) (FX tA):=by
 intro pins s U H Q I h
 exact isTrue_not (ha pins s U H (λc H1=>Q (!c) H1) I h)
def DO (ta tb:TE):TE:=λU H Q=>ta U H λx H1=>∃ c,x=.bl c/\if c=true then tb U H1 Q else Q (.bl false) H1
theorem Bv {op}{t:TE}(h:PE X a t):PE X (.BoolOp op [a] pos) t:=λpins s U H Q I hw=>BoolOp_one (h pins s U H Q I hw)
theorem Bw (ha:PE X a ta) (hb:PE X (.BoolOp .And (b::rest) pos) tb):PE X (.BoolOp .And (a::b::rest) pos) (DO ta tb):=by
 intro pins s U H Q I h
 refine BoolOp_and (thn (ha pins s U H _ I h) λv s1 zz4=>?_)
 obtain ⟨x,H1,I1,r1,q1⟩:=zz4
 obtain ⟨c,rfl,q1⟩:=q1
 cases r1
 refine OL ?_
 cases c with
 |true=>exact hb pins s1 U H1 Q I1 q1
 |false=>exact ⟨.bl false,H1,I1,rfl,q1⟩
def tIf (t:TT) (ta tb:TE):TE:=λU H Q=>t U H λc H1=>if c=true then ta U H1 Q else tb U H1 Q
theorem xn {c:Expr}(hc:PT X c tA) (ha:PE X a ta) (hb:PE X b tb):PE X (.IfExp c a b pos) (tIf tA ta tb):=by
 intro pins s U H Q I h
 refine wpAny_IfExp (thn (hc pins s U H _ I h) λd s1 zz5=>?_)
 obtain ⟨H1,I1,q1⟩:=zz5
 cases d with
 |true=>exact ha pins s1 U H1 Q I1 q1
 |false=>exact hb pins s1 U H1 Q I1 q1
end
def SqL (K:PySem.W.Frag) (H:Hp) (a:Addr) (xs:List V):Prop :=
 Rd H a (.lst xs) \/
  ∃ (o:Obj) (its:Array Value) (n:Nat),K.lookup a=some o/\o.cls=.type "list" /\ o.dict=none/\o.data=.seq its n/\its.size<=sizeLine/\aj xs its.toList
def SqT (K:PySem.W.Frag) (H:Hp) (a:Addr) (xs:List V):Prop :=
 Rd H a (.tup xs) \/
  ∃ (o:Obj) (its:Array Value) (n:Nat),K.lookup a=some o/\o.cls=.type "tuple" /\ o.data=.seq its n/\its.size<=sizeLine/\aj xs its.toList
noncomputable def FY:Value->Option V
 |.none=>some .non
 |.bool b=>some (.bl b)
 |.int i _=>some (.int i)
 |.str x _=>some (.str x)
 |.bytes b _=>some (.byt b)
 |.float b _=>some (.flt b)
 |.ref a=>some (.ref a)
 |.type n=>some (.ty n)
 |_=>none
theorem ak.abs {x:V}{u:Value}(r:ak x u):FY u=some x:=by
 cases x with
 |non=>cases r;rfl
 |bl _=>cases r;rfl
 |int _=>obtain ⟨t,rfl⟩:=r;rfl
 |str _=>obtain ⟨t,rfl⟩:=r;rfl
 |byt _=>obtain ⟨t,rfl⟩:=r;rfl
 |flt _=>obtain ⟨t,rfl⟩:=r;rfl
 |ref _=>cases r;rfl
 |ty _=>cases r;rfl
theorem ak.inj {x y:V}{u:Value}(r:ak x u) (q:ak y u):x=y:=Option.some.inj (r.abs.symm.trans q.abs)
theorem aj.inj:∀ {xs ys:List V}{us:List Value},aj xs us->aj ys us->xs=ys:=by
 intro xs ys us h
 induction h generalizing ys with
 |nil=>intro h';cases h';rfl
 |cons r t ih =>
  intro h'
  cases h' with
  |cons r' t'=>rw [r.inj r',ih t']
section
variable {X:Cx}{pins:List (Addr×Obj)}{U:St}{H:Hp}{s:Shared}{a:Addr}{xs ys:List V}
theorem SqL.of {K:PySem.W.Frag}(h:H a=some (.lst xs)):SqL K H a xs:=.inl (.inl h)
theorem SqT.of {K:PySem.W.Frag}(h:H a=some (.tup xs)):SqT K H a xs:=.inl (.inl h)
theorem Inv.list (I:Inv X pins U H s) (h:SqL X.K H a xs):∃ its:List Value,aj xs its/\PlainL s.heap a its.toArray/\xs.length<=sizeLine:=by
 rcases h with h|⟨o,its,n,hk,hc,hd,hs,hz,r⟩
 ·obtain ⟨z,its,n,r,e⟩:=h.ok I.hok
  exact ⟨its,r,⟨_,n,e,rfl,rfl,rfl⟩,z⟩
 ·refine ⟨its.toList,r,⟨o,n,I.kIn a o hk,hc,hd,by simpa using hs⟩,?_⟩
  have e:=r.length
  simp only [Pq] at e
  lia
theorem Inv.tuple (I:Inv X pins U H s) (h:SqT X.K H a xs):∃ its:List Value,aj xs its/\IsTup s.heap a its.toArray/\xs.length<=sizeLine:=by
 rcases h with h|⟨o,its,n,hk,hc,hs,hz,r⟩
 ·obtain ⟨z,its,r,p⟩:=h.ok I.hok
  exact ⟨its,r,p,z⟩
 ·refine ⟨its.toList,r,⟨o,I.kIn a o hk,hc,n,by simpa using hs⟩,?_⟩
  have e:=r.length
  simp only [Pq] at e
  lia
theorem Inv.list_inj (I:Inv X pins U H s) (h:SqL X.K H a xs) (h':SqL X.K H a ys):xs=ys:=by
 obtain ⟨its,r,⟨o,n,e,_,_,d⟩,_⟩:=I.list h
 obtain ⟨its',r',⟨o',n',e',_,_,d'⟩,_⟩:=I.list h'
 rw [e] at e';cases e'
 rw [d] at d'
 injection d' with d1 _
 have:its=its':=by simpa using Ow Array.toList d1
 subst this
 exact r.inj r'
end
noncomputable abbrev Cx.wish (X:Cx) (E:Value->Shared->Prop):Cx:={ X with xe:=E }
noncomputable abbrev Cx.nox (X:Cx):Cx:=X.wish λ_ _=>False
theorem Cx.Ok.wish {X:Cx}(ok:X.Ok) (E:Value->Shared->Prop):(X.wish E).Ok :=
 ⟨ok.mod,ok.kind,ok.glob,ok.blt,ok.above,ok.inj,ok.has,ok.cab,ok.hd,ok.frames,ok.stk,ok.exf,ok.bs,ok.bsz,ok.noex,ok.exfs,ok.funs,ok.frf⟩
theorem Cx.Ok.unwish {X:Cx}{E:Value->Shared->Prop}(ok:(X.wish E).Ok):X.Ok :=
 ⟨ok.mod,ok.kind,ok.glob,ok.blt,ok.above,ok.inj,ok.has,ok.cab,ok.hd,ok.frames,ok.stk,ok.exf,ok.bs,ok.bsz,ok.noex,ok.exfs,ok.funs,ok.frf⟩
section
variable {X:Cx}{pins:List (Addr×Obj)}{U:St}{H:Hp}{s:Shared}{E:Value->Shared->Prop}
theorem Inv.wish (I:Inv X pins U H s) (E:Value->Shared->Prop):Inv (X.wish E) pins U H s:=⟨I.ok.wish E,I.os,I.bare,I.base,I.loc,I.cell,I.free,I.freeC,I.pin,I.hok,I.len⟩
theorem Inv.unwish (I:Inv (X.wish E) pins U H s):Inv X pins U H s:=⟨I.ok.unwish,I.os,I.bare,I.base,I.loc,I.cell,I.free,I.freeC,I.pin,I.hok,I.len⟩
theorem SP.unwish {D:Ends}{f:Flow}{s':Shared}(h:SP (X.wish E) pins D f s'):SP X pins D f s':=by
 cases f with
 |next=>obtain ⟨HD,H',I,q⟩:=h;exact ⟨HD,H',I.unwish,q⟩
 |brk=>obtain ⟨HD,H',I,q⟩:=h;exact ⟨HD,H',I.unwish,q⟩
 |cont=>obtain ⟨HD,H',I,q⟩:=h;exact ⟨HD,H',I.unwish,q⟩
 |ret u=>obtain ⟨v,HD,H',I,r,q⟩:=h;exact ⟨v,HD,H',I.unwish,r,q⟩
theorem PSs.nox {st:List Stmt}{t:TS}(h:PSs X.nox st t):PSs X st t:=λpins s U H D I hw =>
 OX (h pins s U H D (I.wish _) hw) (λ_ _ q=>q.unwish) λ_ _ z=>False.elim z
end
section
variable {X:Cx}{st:Stmt}{rest:List Stmt}{t u:TS}{e:Expr}{te:TE}{pos:Pos}
def DP:TS:=λD U H=>D.nx U H
def FZ (t u:TS):TS:=λD U H=>t { D with nx:=u D } U H
theorem yX:PSs X [] DP:=λ_ _ U H _ I h=>wpAny_execs_nil ⟨U,H,I,h⟩
theorem xo (h1:PS X st t) (h2:PSs X rest u):PSs X (st::rest) (FZ t u):=by
 intro pins s U H D I h
 refine wpAny_execs_cons (thn (h1 pins s U H { D with nx:=u D } I h) λf s1 q=>?_)
 cases f with
 |next =>
  obtain ⟨HD,H',I',q⟩:=q
  exact h2 pins s1 HD H' D I' q
 |ret v=>exact q
 |brk=>exact q
 |cont=>exact q
theorem yY (h1:PS X st t):PSs X [st] t:=by
 intro pins s U H D I h
 refine wpAny_execs_cons (thn (h1 pins s U H D I h) λf s1 q=>?_)
 cases f with
 |next=>exact wpAny_execs_nil q
 |ret v=>exact q
 |brk=>exact q
 |cont=>exact q
theorem Inv.quiet {pins:List (Addr×Obj)}{U:St}{H:Hp}{s:Shared}(I:Inv X pins U H s):interactive X.env=false:=by simp [interactive,I.ok.kind]
def DQ (te:TE):TS:=λD U H=>te U H λ_ H1=>D.nx U H1
theorem yZ (he:PE X e te) (hs:swapsWith e none pos.line X.env=pure false:=by rfl):PS X (.Expr e pos) (DQ te):=by
 intro pins s U H D I h
 exact wpAny_Expr_any (thn (he pins s U H _ I h) λv s1 zz8=>by obtain ⟨x,H1,I1,r1,q1⟩:=zz8;exact ⟨U,H1,I1,q1⟩) I.quiet hs
def F0 (te:TE):TS:=λD U H=>te U H D.rt
theorem Bx (he:PE X e te):PS X (.Return (some e) pos) (F0 te):=by
 intro pins s U H D I h
 exact wpAny_Return_some (thn (he pins s U H _ I h) λv s1 zz9=>by obtain ⟨x,H1,I1,r1,q1⟩:=zz9;exact ⟨x,U,H1,I1,r1,q1⟩)
def F6 (c:TT) (t u:TS):TS:=λD U H=>c U H λb H1=>if b=true then t D U H1 else u D U H1
theorem DR {c:Expr}{a b:List Stmt}{tc:TT}(hc:PT X c tc) (ha:PSs X a t) (hb:PSs X b u):PS X (.If c a b pos) (F6 tc t u):=by
 intro pins s U H D I h
 refine wpAny_If (thn (hc pins s U H _ I h) λd s1 zz10=>?_)
 obtain ⟨H1,I1,q1⟩:=zz10
 cases d with
 |true=>exact ha pins s1 U H1 D I1 q1
 |false=>exact hb pins s1 U H1 D I1 q1
end
abbrev TG:=V->St->Hp->(St->Hp->Prop)->Prop
abbrev TGs:=List V->St->Hp->(St->Hp->Prop)->Prop
def PG (X:Cx) (HJ:Expr) (t:TG):Prop :=
 ∀ (pins:List (Addr×Obj)) (s:Shared) (U:St) (H:Hp) (v:V) (u:Value) (Q:St->Hp->Prop),Inv X pins U H s->ak v u->t v U H Q ->
  wpAny (model X.prog X.w) X.A (assign HJ X.env u) (λ_ s'=>∃ HD H',Inv X pins HD H' s'/\Q HD H') X.xe s
def PGs (X:Cx) (ts:List Expr) (t:TGs):Prop :=
 ∀ (pins:List (Addr×Obj)) (s:Shared) (U:St) (H:Hp) (vs:List V) (us:List Value) (Q:St->Hp->Prop),Inv X pins U H s->aj vs us->t vs U H Q ->
  wpAny (model X.prog X.w) X.A (assignInOrder ((assignEach ts X.env).map (·.2)) us) (λ_ s'=>∃ HD H',Inv X pins HD H' s'/\Q HD H') X.xe s
abbrev iJ:=V->V->V->Hp->(Hp->Prop)->Prop
def cX (X:Cx) (t:iJ):Prop :=
 ∀ (pins:List (Addr×Obj)) (s:Shared) (U:St) (H:Hp) (o i v:V) (ov iv u:Value) (Q:Hp->Prop),Inv X pins U H s->ak o ov->ak i iv->ak v u->t o i v H Q ->
  wpAny (model X.prog X.w) X.A (setItem ov iv u) (λ_ s'=>∃ H',Inv X pins U H' s'/\Q H') X.xe s
section
variable {X:Cx}{pos:Pos}
def io (i:Nat):TG:=λv U H Q=>Q (U.set i (some v)) H
theorem y1 {i:Nat}{x:Str}(hN:X.N.Nodup) (hi:X.N[i]?=some x) (hx:Loc X.env.scope x) (hf:X.fn x=true\/X.env.scope.names.lookup x=some .local:=by first|exact .inl rfl|exact .inr rfl|assumption):PG X (.Name x pos) (io i):=by
 intro pins s U H v u Q I r h
 exact wpAny_assign_Name (jV I hN hi hx r (λs' I'=>⟨_,H,I',h⟩) hf)
def F7:TGs:=λvs U H Q=>vs=[]/\Q U H
def rX (t:TG) (u:TGs):TGs:=λvs U H Q=>∃ v r,vs=v::r/\t v U H λHD H'=>u r HD H' Q
theorem y3:PGs X [] F7:=by
 intro pins s U H vs us Q I r h
 obtain ⟨e,h⟩:=h
 subst e
 cases r
 exact assignInOrder_nil ⟨U,H,I,h⟩
theorem aJ {e:Expr}{es:List Expr}{t:TG}{u:TGs}(h1:PG X e t) (h2:PGs X es u)
  (hs:(assignEach (e::es) X.env).map (·.2)=assign e X.env::(assignEach es X.env).map (·.2):=by rfl):PGs X (e::es) (rX t u):=by
 intro pins s U H vs us Q I r h
 obtain ⟨v,vr,e1,h⟩:=h
 subst e1
 cases r with
 |cons r rr =>
  rw [hs]
  refine assignInOrder_cons (thn (h1 pins s U H _ _ _ I r h) λ_ s1 zz11=>?_)
  obtain ⟨σ1,H1,I1,q1⟩:=zz11
  exact h2 pins s1 σ1 H1 _ _ Q I1 rr q1
def mF (K:PySem.W.Frag) (n:Nat) (t:TGs):TG:=λv U H Q=>∃ a xs,v=.ref a/\SqT K H a xs/\xs.length=n/\t xs U H Q
theorem By {es:List Expr}{k:Nat}{t:TGs}{n:Nat}(hc:X.calm=true) (h:PGs X es t)
  (hn:(assignEach es X.env).length=n:=by rfl) (Ki:(assignEach es X.env).findIdx? (·.1)=none:=by rfl):PG X (.Tuple es k pos) (mF X.K n t):=by
 intro pins s U H v u Q I r hw
 obtain ⟨a,xs,e1,hq,hl,hw⟩:=hw
 subst e1
 cases r
 obtain ⟨its,rv,ht,hz⟩:=I.tuple hq
 refine assign_Tuple_tuple (I.ok.hd hc) ht (by simp [hn,<- hl,rv.length]) Ki λh' hx=>?_
 have I1:Inv X pins U H { s with heap:=h' }:=I.kept (t':=s.toks) λb o e=>hx b o (N6 (NY e)) e
 exact h pins _ U H xs _ Q I1 (by simpa using rv) hw
def dR (to ti:TE) (t:iJ):TG:=λv U H Q=>to U H λo H1=>ti U H1 λi H2=>t o i v H2 λH3=>Q U H3
theorem Bz {o i:Expr}{to ti:TE}{t:iJ}(ho:PE X o to) (hi:PE X i ti) (hs:cX X t)
  (ha:∀ v,assign (.Subscript o i pos) X.env v=(do
   let ov <- holding [v] (eval o X.env)
   let iv <- holding [v,ov] (eval i X.env)
   standAt pos
   holding [v,ov,iv] (setItem ov iv v)
   release [v,ov,iv] []):=by intro _;rfl):PG X (.Subscript o i pos) (dR to ti t):=by
 intro pins s U H v u Q I r h
 rw [ha]
 refine Ny (PF (thn (ho pins s U H _ I h) λov s1 zz12=>?_))
 obtain ⟨x,H1,I1,r1,q1⟩:=zz12
 refine Ny (PF (thn (hi pins s1 U H1 _ I1 q1) λiv s2 zz13=>?_))
 obtain ⟨y,H2,I2,r2,q2⟩:=zz13
 refine Ny (Qx (Ny (PF (thn (hs pins s2 U H2 x y v ov iv u _ I2 r1 r2 r q2) λ_ s3 zz14=>?_))))
 obtain ⟨H3,I3,q3⟩:=zz14
 exact wpAny_release ⟨U,H3,I3,q3⟩
def eT (te:TE) (g:TG):TS:=λD U H=>te U H λx H1=>g x U H1 D.nx
theorem BA {tg e:Expr}{te:TE}{g:TG}(he:PE X e te) (hg:PG X tg g) (hs:swapsWithSole [tg] e pos.line X.env=pure false:=by rfl) (hw:swappedStores [tg] e X.env=pure none:=by rfl)
  (h1:(assignEach [tg] X.env).map (·.2)=[assign tg X.env]:=by rfl):PS X (.Assign [tg] e pos) (eT te g):=by
 intro pins s U H D I h
 refine wpAny_Assign_stores (thn (he pins s U H _ I h) λv s1 zy2=>?_) hs hw
 obtain ⟨x,H1,I1,r1,q1⟩:=zy2
 rw [h1]
 exact thn (hg pins s1 U H1 x v _ I1 r1 q1) λ_ s2 q=>q
theorem BB {i:Nat}{x:Str}{e:Expr}{te:TE}{IZ:Pos}(hN:X.N.Nodup) (hi:X.N[i]?=some x) (hx:Loc X.env.scope x) (he:PE X e te) (hs:swapsWith e (some (.Name x IZ)) pos.line X.env=pure false:=by rfl) (hf:X.fn x=true\/X.env.scope.names.lookup x=some .local:=by first|exact .inl rfl|exact .inr rfl|assumption) :
  PS X (.Assign [.Name x IZ] e pos) (eT te (io i)):=by
 intro pins s U H D I h
 refine wpAny_Assign_Name (thn (he pins s U H _ I h) λv s1 zy3=>?_) hs
 obtain ⟨y,H1,I1,r1,q1⟩:=zy3
 exact jV I1 hN hi hx r1 (λs2 I2=>⟨_,H1,I2,q1⟩) hf
end
section
variable {X:Cx}{pos:Pos}
end
structure It where
 go:Nat->Hp->Prop
 yld:Nat->Hp->V->Hp->Prop
 stop:Nat->Hp->Prop
def bv (X:Cx) (pins:List (Addr×Obj)) (H:Hp) (b:Addr):Prop :=
 H b=none/\b≠X.env.locals/\b∉X.fs/\(b∈X.ex\/X.s₀.heap.objs.size<=b)/\(∀ x c,X.env.cells.lookup x=some c->c≠b)/\∀ p∈X.pn++pins,p.1≠b
theorem Inv.fpOk {X:Cx}{pins:List (Addr×Obj)}{U:St}{H H':Hp}{s:Shared}{b:Addr}(I:Inv X pins U H s) (hb:s.heap.objs.size<=b) (hn:H' b=none):bv X pins H' b:=by
 refine ⟨hn,QP (N9 I.lt hb),I.nofs hb,.inr (NZ I.sz hb),λx c e z=>?_,λp hp z=>?_⟩
 ·obtain ⟨v,q⟩:=I.cell x c e
  exact absurd (N9 q.lt (by rw [z];exact hb)) (Ps _)
 ·exact absurd (N9 (NY (I.pin p hp).1) (by rw [z];exact hb)) (Ps _)
structure Turn (P:Program) (w:World) (K:PySem.W.Frag) (tg:Expr) (J:It) (fp:List Addr) (it:Addr) (tn:Nat->Heap->Prop):Prop where
 mem:it∈fp
 obj:∀ i h,tn i h->∀ b∈fp,∃ o,h.get? b=some o/\∀ v,o.data≠.cell v
 keep:∀ i h h',tn i h->(∀ b∈fp,∀ o,h.get? b=some o->h'.get? b=some o)->tn i h'
 item:∀ (X:Cx),X.prog=P->X.w=w->X.K=K->X.calm=true->∀ (i:Nat) (pins:List (Addr×Obj)) (s:Shared) (U:St) (H:Hp) (E:Value->Shared->Prop),Inv X pins U H s->(∀ b∈fp,bv X pins H b)->tn i s.heap->J.go i H ->
  wpAny (model P w) X.A (pyNext (.ref it)) (λr s1=>∃ u,r=some u /\
   wpAny (model P w) X.A (letOwnedTupleGo tg (.ref it) u) (λ_ s2=>∃ x H',Inv X pins U H' s2/\ak x u/\J.yld i H x H'/\tn (i+1) s2.heap/\∀ b∈fp,H' b=none) E s1) E s
 done:∀ (X:Cx),X.prog=P->X.w=w->X.K=K->X.calm=true->∀ (i:Nat) (pins:List (Addr×Obj)) (s:Shared) (U:St) (H:Hp) (E:Value->Shared->Prop),Inv X pins U H s->(∀ b∈fp,bv X pins H b)->tn i s.heap->J.stop i H ->
  wpAny (model P w) X.A (pyNext (.ref it)) (λr s1=>r=none/\Inv X pins U H s1) E s
 self:∀ (A:Around) (i:Nat) (s:Shared) (Q:Value->Shared->Prop) (E:Value->Shared->Prop),tn i s.heap->Q (.ref it) s->wpAny (model P w) A (pyIter (.ref it)) Q E s
abbrev TI:=St->Hp->(It->Hp->Prop)->Prop
def PIE (X:Cx) (pins:List (Addr×Obj)) (U:St) (tg:Expr) (R:It->Hp->Prop) (itv:Value) (s2:Shared):Prop :=
 ∃ (it:Addr) (fp:List Addr) (tn:Nat->Heap->Prop) (J:It) (H':Hp),itv=.ref it/\Inv X pins U H' s2/\Turn X.prog X.w X.K tg J fp it tn/\tn 0 s2.heap/\(∀ b∈fp,bv X pins H' b)/\R J H'
def PI (X:Cx) (tg iter:Expr) (wi:TI):Prop :=
 ∀ (pins:List (Addr×Obj)) (s:Shared) (U:St) (H:Hp) (R:It->Hp->Prop),Inv X pins U H s->wi U H R ->
  wpAny (model X.prog X.w) X.A (eval iter X.env) (λv s1=>wpAny (model X.prog X.w) X.A (pyIter v) (PIE X pins U tg R) X.xe s1) X.xe s
theorem lU {M:Model}{A:Around}{E:Value->Shared->Prop}{s:Shared}{tg:Expr}{it:Addr}{u:Value}{o:Obj}{n:String}{vs:Array Value}{Q:Unit->Shared->Prop}(ho:s.heap.get? it=some o) (hc:o.cls=.type n) (hd:o.data=.fields vs)
  (hn:["enumerate","zip","dict_itemiterator","dict_reverseitemiterator","odict_iterator","itertools.zip_longest","itertools.pairwise"].contains n=false) (hQ:Q () s):wpAny M A (letOwnedTupleGo tg (.ref it) u) Q E s:=by
 unfold letOwnedTupleGo
 cases tg<;>first
  |exact NP hQ
  |(cases u<;>first
    |exact NP hQ
    |(refine Ny (wpAny_load ho ?_)
      rw [hc,hd]
      show wpAny M A (if (["enumerate","zip","dict_itemiterator","dict_reverseitemiterator","odict_iterator","itertools.zip_longest","itertools.pairwise"].contains n&&vs[0]?==some (rawInt _))=true then _ else _) Q E s
      rw [NB (by intro h;rw [hn,OH] at h;cases h)]
      exact NP hQ))
def Itl (K:PySem.W.Frag) (a:Addr):It :=
 ⟨λi H=>∃ xs x,SqL K H a xs/\xs[i]?=some x,λi H x H'=>H'=H/\∀ xs,SqL K H a xs->xs[i]?=some x,λi H=>∃ xs,SqL K H a xs/\xs.length<=i⟩
def Itr (lo:Int) (n:Nat):It:=⟨λi _=>i<n,λi H x H'=>H'=H/\x=.int (lo+i),λi _=>n<=i⟩
theorem vS {P:Program}{w:World}{K:PySem.W.Frag}{tg:Expr}(a it:Addr):Turn P w K tg (Itl K a) [it] it (λi h=>h.IsListIter it a i) where
 mem:=by simp
 obj:=λi h st b hb=>by
  have e:b=it:=by simpa using hb
  subst e
  obtain ⟨o,e,c,d⟩:=st
  exact ⟨o,e,λv z=>by rw [d] at z;cases z⟩
 keep:=λi h h' st k=>st.at λo e=>k it (by simp) o e
 item:=by
  intro X hP hw hK hc i pins s U H E I hf st hg
  subst hP hw hK
  obtain ⟨xs,x,hq,hx⟩:=hg
  obtain ⟨its,rv,p,hz⟩:=I.list hq
  obtain ⟨u,hu,ru⟩:=rv.get hx
  obtain ⟨f0,f1,f2,f3,f4,f5⟩:=hf it (by simp)
  refine wpAny_pyNext_list_item st p.isList (x:=u) (by simpa using hu) λh' Ls sb=>?_
  have I1:Inv X pins U H { s with heap:=h' }:=I.turned (t':=s.toks) (λb o hb e=>(sb.2 b hb).trans e) f0 f1 f3 f4 f5
  obtain ⟨o,e,c,d⟩:=id Ls
  exact ⟨u,rfl,lU (s:={ s with heap:=h' }) e c d (by decide) ⟨x,H,I1,ru,⟨rfl,λys hy=>by rw [I.list_inj hy hq];exact hx⟩,Ls,λb hb=>(hf b hb).1⟩⟩
 done:=by
  intro X hP hw hK hc i pins s U H E I hf st hg
  subst hP hw hK
  obtain ⟨xs,hq,hx⟩:=hg
  obtain ⟨its,rv,p,hz⟩:=I.list hq
  obtain ⟨f0,f1,f2,f3,f4,f5⟩:=hf it (by simp)
  have hl:=rv.length
  exact wpAny_pyNext_list_end (I.ok.hd hc) st p.isList (by simp;lia) λh' eb=>⟨rfl,I.turned (t':=s.toks) (λb o hb e=>eb b o hb e) f0 f1 f3 f4 f5⟩
 self:=λ_ _ _ _ _ st h=>wpAny_pyIter_listiter st h
theorem vn {P:Program}{w:World}{K:PySem.W.Frag}{tg:Expr}(it:Addr) (lo:Int) (n:Nat):Turn P w K tg (Itr lo n) [it] it (λi h=>IsRangeIter h it (lo+(i:Nat) * 1) ((n:Int) - (i:Nat)) 1) where
 mem:=by simp
 obj:=λi h st b hb=>by
  have e:b=it:=by simpa using hb
  subst e
  exact ⟨_,st,λv z=>by
   have z':Data.fields _=Data.cell v:=z
   cases z'⟩
 keep:=λi h h' st k=>k it (by simp) _ st
 item:=by
  intro X hP hw hK hc i pins s U H E I hf st hg
  subst hP hw hK
  obtain ⟨f0,f1,f2,f3,f4,f5⟩:=hf it (by simp)
  have W:=Walks.range (prog:=X.prog) (w:=X.w) (I.ok.hd hc) it lo 1 n
  refine W.item i s _ _ hg st λv h' tk hv Ls kk=>?_
  obtain ⟨t,rfl⟩:=hv
  have I1:Inv X pins U H { s with heap:=h',toks:=tk }:=I.turned (λb o hb e=>kk b o (by simpa using hb) e) f0 f1 f3 f4 f5
  refine ⟨_,rfl,lU (s:={ s with heap:=h',toks:=tk }) (n:="range_iterator") Ls rfl rfl (by decide) ⟨.int (lo+i),H,I1,⟨t,?_⟩,⟨rfl,rfl⟩,Ls,λb hb=>(hf b hb).1⟩⟩
  rw [Int.mul_one]
 done:=by
  intro X hP hw hK hc i pins s U H E I hf st hg
  subst hP hw hK
  obtain ⟨f0,f1,f2,f3,f4,f5⟩:=hf it (by simp)
  exact wpAny_pyNext_range_end (I.ok.hd hc) st (by have:n<=i:=hg;lia) λh' eb=>⟨rfl,I.turned (t':=s.toks) (λb o hb e=>eb b o hb e) f0 f1 f3 f4 f5⟩
 self:=λ_ _ _ _ _ st h=>wpAny_pyIter_rangeiter st h
section
variable {X:Cx}{tg:Expr}
def DS (K:PySem.W.Frag) (tl:TE):TI:=λU H R=>tl U H λx H1=>∃ a,x=.ref a/\(∃ xs,SqL K H1 a xs)/\R (Itl K a) H1
theorem y4 {l:Expr}{tl:TE}(hl:PE X l tl):PI X tg l (DS X.K tl):=by
 intro pins s U H R I h
 refine thn (hl pins s U H _ I h) λv s1 zz15=>?_
 obtain ⟨x,H1,I1,r1,q1⟩:=zz15
 obtain ⟨a,e,⟨xs,hq⟩,q⟩:=q1
 subst e
 cases r1
 obtain ⟨its,rv,p,hz⟩:=I1.list hq
 refine Q7 p.isList ?_
 refine ⟨s1.heap.objs.size,[s1.heap.objs.size],_,_,H1,rfl,I1.kept (t':=s1.toks) λb o e=>NG _ e,vS a _,⟨_,NT _ rfl,rfl,rfl⟩,λb hb=>?_,q⟩
 have e:b=s1.heap.objs.size:=by simpa using hb
 subst e
 exact I1.fpOk (NE _) (I1.hok.fresh (NE _))
theorem xp {pins:List (Addr×Obj)}{U:St}{H:Hp}{s:Shared}{R:It->Hp->Prop}{E:Value->Shared->Prop}{lo hi:Int}{t u v:Tok}{tk:Nat}(I:Inv X pins U H s) (h1:-(2 ^ 62)<=lo) (h2:lo<2 ^ 62) (h3:-(2 ^ 62)<=hi) (h4:hi<2 ^ 62)
  (q:R (Itr lo (hi - lo).toNat) H):wpAny (model X.prog X.w) X.A (pyIter (.ref s.heap.objs.size)) (PIE X pins U tg R) E { s with heap:=s.heap.push { cls:=.type "range",data:=.fields #[.int lo t,.int hi u,.int 1 v] },toks:=tk }:=by
 refine wpAny_pyIter_range (IsRange.new ..) (small_one h1 h2 h3 h4) ?_
 have I1:Inv X pins U H { s with heap:=s.heap.push { cls:=.type "range",data:=.fields #[.int lo t,.int hi u,.int 1 v] },toks:=tk }:=I.kept λb o e=>NG _ e
 refine ⟨(s.heap.push { cls:=.type "range",data:=.fields #[.int lo t,.int hi u,.int 1 v] }).objs.size,[(s.heap.push { cls:=.type "range",data:=.fields #[.int lo t,.int hi u,.int 1 v] }).objs.size],_,_,H,rfl,
  I1.kept (t':=tk) λb o e=>NG _ e,vn _ lo (hi - lo).toNat,?_,λb hb=>?_,q⟩
 ·have e1:lo+((0:Nat):Int) * 1=lo:=by simp
  have e2:(((hi - lo).toNat:Nat):Int) - ((0:Nat):Int)=Builtin.Range.rangeSize lo hi 1:=by rw [rangeSize_one];split<;>lia
  show IsRangeIter _ _ (lo+((0:Nat):Int) * 1) ((((hi - lo).toNat:Nat):Int) - ((0:Nat):Int)) 1
  rw [e1,e2]
  exact NT _ rfl
 ·have e:b=(s.heap.push { cls:=.type "range",data:=.fields #[.int lo t,.int hi u,.int 1 v] }).objs.size:=by simpa using hb
  subst e
  exact I1.fpOk (NE _) (I1.hok.fresh (NE _))
def DT (ta:TA):TI:=λU H R=>ta U H λvs H1=>∃ j:Int,vs=[.int j] /\ -(2 ^ 62)<=j/\j<2 ^ 62/\R (Itr 0 j.toNat) H1
theorem vT {a:Expr}{ta:TA}{p pos:Pos}(hg:Gl X "range") (hm:X.mg "range"=none) (ha:PA X [a] ta) (hs:starEach [a] X.env=[(false,eval a X.env)]:=by rfl):PI X tg (.Call (.Name "range" p) [a] [] pos) (DT ta):=by
 intro pins s U H R I h
 refine Call_ (ee I hg hm boot_range (Qm (thn (ha pos pins s U H _ I h) λus s1 zy4=>?_) hs rfl))
 obtain ⟨vs,H1,I1,r1,q1⟩:=zy4
 obtain ⟨j,e,q1,q2,q⟩:=q1
 subst e
 cases r1 with
 |cons r rr =>
  cases rr
  obtain ⟨t,rfl⟩:=r
  exact call_range_1 (xp I1 (by lia) (by lia) q1 q2 (by simpa using q))
def tm (wi:TI) (g:TG) (tb:TS):TS:=λD U H=>wi U H λJ H1=>∃ W:Nat->Nat->St->Hp->Prop,(∃ m,W 0 m U H1)/\∀ i m U H,W i m U H ->
 (J.stop i H/\D.nx U H)\/(J.go i H/\∃ N:St->Hp->Prop,(∀ HD H',N HD H'->∃ m',m'<m/\W (i+1) m' HD H')/\∀ x H',J.yld i H x H'->g x U H' λIM H2=>tb { D with nx:=N,ct:=N,bk:=D.nx } IM H2)
noncomputable def fN (fp:List Addr) (h:Heap):List (Addr×Obj):=fp.filterMap λb=>(h.get? b).map λo=>(b,o)
theorem gE {fp:List Addr}{h:Heap}{b:Addr}{o:Obj}(hb:b∈fp) (e:h.get? b=some o):(b,o)∈fN fp h:=RZ.mpr ⟨b,hb,by rw [e];rfl⟩
theorem vU {fp:List Addr}{h:Heap}{p:Addr×Obj}(hp:p∈fN fp h):p.1∈fp/\h.get? p.1=some p.2:=by
 obtain ⟨b,hb,e⟩:=RZ.mp hp
 cases q:h.get? b with
 |none=>rw [q] at e;cases e
 |some o =>
  rw [q] at e
  have e':(b,o)=p:=Option.some.inj e
  subst e'
  exact ⟨hb,q⟩
theorem Inv.pinned {pins:List (Addr×Obj)}{U:St}{H:Hp}{s:Shared}{fp:List Addr}(I:Inv X pins U H s) (hf:∀ b∈fp,bv X pins H b) (ho:∀ b∈fp,∃ o,s.heap.get? b=some o/\∀ v,o.data≠.cell v):Inv X (pins++fN fp s.heap) U H s :=
 I.pins_of λp hp=>(NL.mp hp).elim (λz=>I.pin p (Oh _ z)) λz=>by
  obtain ⟨hb,e⟩:=vU z
  obtain ⟨f0,f1,f2,_⟩:=hf p.1 hb
  obtain ⟨o,e',d⟩:=ho p.1 hb
  rw [e] at e';cases e'
  exact ⟨e,f0,f1,f2,d⟩
theorem Inv.unpinned {pins pl:List (Addr×Obj)}{U:St}{H:Hp}{s:Shared}(I:Inv X (pins++pl) U H s):Inv X pins U H s:=I.pins_of λp hp=>I.pin p (Oh _ (List.mem_append_left _ hp))
theorem BC {iter:Expr}{body:List Stmt}{wi:TI}{g:TG}{tb:TS}{pos:Pos}(hp:PassesOwn (model X.prog X.w) X.A X.env X.xe) (hc:X.calm=true) (hi:PI X tg iter wi) (hg:PG X tg g) (hb:PSs X body tb)
  (hs:∀ x,foldedSetIterable iter X.env x=pure x:=by intro _;rfl):PS X (.For tg iter body [] pos) (tm wi g tb):=by
 intro pins s U H D I h
 refine wpAny_For (thn (hi pins s U H _ I h) λv s1 h1=>thn h1 λitv s2 h2=>?_) hs
 obtain ⟨it,fp,tn,J,H2,e,I2,T,st2,f2,W,⟨m0,w0⟩,turn⟩:=h2
 subst e
 -- what stays true of the MW objects through the loop
 have stat:∀ {H':Hp},(∀ b∈fp,H' b=none)->∀ b∈fp,bv X pins H' b:=λhn b hb=>⟨hn b hb,(f2 b hb).2⟩
 refine codeAny_forLoop_any (λn s'=>∃ i HD H',Inv X pins HD H' s'/\tn i s'.heap/\(∀ b∈fp,H' b=none)/\W i n HD H') ?_ m0 ⟨0,U,H2,I2,st2,λb hb=>(f2 b hb).1,w0⟩
 rintro n s3 ⟨i,Ma,H3,I3,st3,fr3,w3⟩
 rcases turn i n Ma H3 w3 with ⟨stop,qn⟩|⟨go,N,hN,step⟩
 ·refine QF hp (thn (T.done X rfl rfl rfl hc i pins s3 Ma H3 X.xe I3 (stat fr3) st3 stop) λr s4 zy5=>?_)
  obtain ⟨hr,I4⟩:=zy5
  subst hr
  exact wpAny_execs_nil ⟨Ma,H3,I4,qn⟩
 ·refine QF hp (thn (T.item X rfl rfl rfl hc i pins s3 Ma H3 X.xe I3 (stat fr3) st3 go) λr s4 zy6=>?_)
  obtain ⟨u,hr,h4⟩:=zy6
  subst hr
  refine QF hp (thn h4 λ_ s5 zz16=>?_)
  obtain ⟨x,H5,I5,r5,y5,MX,fr5⟩:=zz16
  have I5':=I5.pinned (stat fr5) (T.obj _ _ MX)
  refine QF hp (thn (hg _ s5 Ma H5 x u _ I5' r5 (step x H5 y5)) λ_ s6 zz17=>?_)
  obtain ⟨Mj,H6,I6,q6⟩:=zz17
  refine QF hp (thn (hb _ s6 Mj H6 _ I6 q6) λf s7 q7=>?_)
  have again:∀ {LQ:St}{H7:Hp},Inv X (pins++fN fp s5.heap) LQ H7 s7->N LQ H7->∃ m,m<n/\∃ i HD H',Inv X pins HD H' s7/\tn i s7.heap/\(∀ b∈fp,H' b=none)/\W i m HD H':=fun {LQ H7} I7 n7=>by
   obtain ⟨m',hm,w7⟩:=hN LQ H7 n7
   refine ⟨m',hm,i+1,LQ,H7,I7.unpinned,T.keep _ _ _ MX λb hb o e=>(I7.pin (b,o) (Oh _ (Oh _ (gE hb e)))).1,λb hb=>?_,w7⟩
   obtain ⟨o,e,d⟩:=T.obj _ _ MX b hb
   exact (I7.pin (b,o) (Oh _ (Oh _ (gE hb e)))).2.1
  cases f with
  |next=>obtain ⟨LQ,H7,I7,n7⟩:=q7;exact again I7 n7
  |cont=>obtain ⟨LQ,H7,I7,n7⟩:=q7;exact again I7 n7
  |brk=>obtain ⟨LQ,H7,I7,q7⟩:=q7;exact ⟨LQ,H7,I7.unpinned,q7⟩
  |ret v=>obtain ⟨x7,LQ,H7,I7,r7,q7⟩:=q7;exact ⟨x7,LQ,H7,I7.unpinned,r7,q7⟩
end
abbrev R2:=V->V->Hp->VK->Prop
def OpR (X:Cx) (f:Value->Value->Sem Value) (r:R2):Prop :=
 ∀ (pins:List (Addr×Obj)) (s:Shared) (U:St) (H:Hp) (x y:V) (v u:Value) (Q:VK),Inv X pins U H s->ak x v->ak y u->r x y H Q ->
  wpAny (model X.prog X.w) X.A (f v u) (EP X pins U Q) X.xe s
def UnR (X:Cx) (f:Value->Sem Value) (r:V->Hp->VK->Prop):Prop :=
 ∀ (pins:List (Addr×Obj)) (s:Shared) (U:St) (H:Hp) (x:V) (v:Value) (Q:VK),Inv X pins U H s->ak x v->r x H Q ->
  wpAny (model X.prog X.w) X.A (f v) (EP X pins U Q) X.xe s
def a0 (X:Cx) (f:Value) (r:List V->Hp->VK->Prop):Prop :=
 ∀ (pins:List (Addr×Obj)) (s:Shared) (U:St) (H:Hp) (xs:List V) (us:List Value) (Q:VK),Inv X pins U H s->aj xs us->r xs H Q ->
  wpAny (model X.prog X.w) X.A (call f us) (EP X pins U Q) X.xe s
def F8 (X:Cx) (r:V->Hp->(Bool->Hp->Prop)->Prop):Prop :=
 ∀ (pins:List (Addr×Obj)) (s:Shared) (U:St) (H:Hp) (x:V) (v:Value) (Q:Bool->Hp->Prop),Inv X pins U H s->ak x v->r x H Q ->
  wpAny (model X.prog X.w) X.A (truthy v) (TP X pins U Q) X.xe s
def tOp (r:R2) (ta tb:TE):TE:=λU H Q=>ta U H λx H1=>tb U H1 λy H2=>r x y H2 Q
def tUn (r:V->Hp->VK->Prop) (ta:TE):TE:=λU H Q=>ta U H λx H1=>r x H1 Q
def rI (C:Int->Int->Prop) (g:Int->Int->V):R2:=λx y H Q=>∃ i j,x=.int i/\y=.int j/\C i j/\Q (g i j) H
def rI0 (g:Int->Int->V):R2:=λx y H Q=>∃ i j,x=.int i/\y=.int j/\Q (g i j) H
def rU (g:Int->V):V->Hp->VK->Prop:=λx H Q=>∃ i,x=.int i/\Q (g i) H
section
variable {X:Cx}{a b c:Expr}{ta tb tc:TE}{pos:Pos}
theorem mG (ha:PE X a ta) (hb:PE X b tb){pins:List (Addr×Obj)}{s:Shared}{U:St}{H:Hp}{R:V->V->Hp->Prop}(I:Inv X pins U H s)
  (h:ta U H λx H1=>tb U H1 λy H2=>R x y H2){Q:Value->Shared->Prop}{f:Value->Value->Sem Value}
  (hf:∀ v u s2 x y H2,Inv X pins U H2 s2->ak x v->ak y u->R x y H2->wpAny (model X.prog X.w) X.A (f v u) Q X.xe s2) :
  wpAny (model X.prog X.w) X.A (eval a X.env) (λv HK=>wpAny (model X.prog X.w) X.A (eval b X.env) (λu Iw=>wpAny (model X.prog X.w) X.A (f v u) Q X.xe Iw) X.xe HK) X.xe s:=by
 refine thn (ha pins s U H _ I h) λv s1 zz18=>?_
 obtain ⟨x,H1,I1,r1,q1⟩:=zz18
 refine thn (hb pins s1 U H1 _ I1 q1) λu s2 zz19=>?_
 obtain ⟨y,H2,I2,r2,q2⟩:=zz19
 exact hf v u s2 x y H2 I2 r1 r2 q2
theorem DU {op:Operator}{r:R2}(ho:OpR X (binaryOp op) r) (ha:PE X a ta) (hb:PE X b tb):PE X (.BinOp a op b pos) (tOp r ta tb):=by
 intro pins s U H Q I h
 exact wpAny_BinOp (mG ha hb I h λv u s2 x y H2 I2 rx ry q=>ho pins s2 U H2 x y v u Q I2 rx ry q)
theorem DV {op:UnaryOp}{r:V->Hp->VK->Prop}(ho:UnR X (unaryOp op) r) (ha:PE X a ta):PE X (.UnaryOp op a pos) (tUn r ta):=by
 intro pins s U H Q I h
 exact UnaryOp_ (thn (ha pins s U H _ I h) λv s1 zz20=>by obtain ⟨x,H1,I1,r1,q1⟩:=zz20;exact ho pins s1 U H1 x v Q I1 r1 q1)
theorem opI {f:Value->Value->Sem Value}{C:Int->Int->Prop}{g:Int->Int->Int}
  (rule:∀ (i j:Int) (t u:Tok) (s:Shared) (Q:Value->Shared->Prop) (E:Value->Shared->Prop),C i j->Q (.int (g i j) s.toks) { s with toks:=s.toks+1 }->wpAny (model X.prog X.w) X.A (f (.int i t) (.int j u)) Q E s) :
  OpR X f (rI C λi j=>.int (g i j)):=by
 intro pins s U H x y v u Q I rx ry h
 obtain ⟨i,j,rfl,rfl,hc,q⟩:=h
 obtain ⟨t,rfl⟩:=rx
 obtain ⟨t',rfl⟩:=ry
 exact rule i j t t' s _ _ hc ⟨.int (g i j),H,I.tok _,⟨_,rfl⟩,q⟩
theorem tp {f:Value->Value->Sem Value}{g:Int->Int->Int}
  (rule:∀ (i j:Int) (t u:Tok) (s:Shared) (Q:Value->Shared->Prop) (E:Value->Shared->Prop),Q (.int (g i j) s.toks) { s with toks:=s.toks+1 }->wpAny (model X.prog X.w) X.A (f (.int i t) (.int j u)) Q E s) :
  OpR X f (rI0 λi j=>.int (g i j)):=by
 intro pins s U H x y v u Q I rx ry h
 obtain ⟨i,j,rfl,rfl,q⟩:=h
 obtain ⟨t,rfl⟩:=rx
 obtain ⟨t',rfl⟩:=ry
 exact rule i j t t' s _ _ ⟨.int (g i j),H,I.tok _,⟨_,rfl⟩,q⟩
theorem mH {f:Value->Value->Sem Value}{g:Int->Int->Bool}
  (rule:∀ (i j:Int) (t u:Tok) (s:Shared) (Q:Value->Shared->Prop) (E:Value->Shared->Prop),Q (.bool (g i j)) s->wpAny (model X.prog X.w) X.A (f (.int i t) (.int j u)) Q E s) :
  OpR X f (rI0 λi j=>.bl (g i j)):=by
 intro pins s U H x y v u Q I rx ry h
 obtain ⟨i,j,rfl,rfl,q⟩:=h
 obtain ⟨t,rfl⟩:=rx
 obtain ⟨t',rfl⟩:=ry
 exact rule i j t t' s _ _ ⟨.bl (g i j),H,I,rfl,q⟩
def tq (i j:Int):Prop:=0<=j/\j<=1000000/\i.natAbs<2 ^ 64
def eU (i j:Int):Prop:=(-(2 ^ 64)<i/\i<2 ^ 64)\/(-(2 ^ 64)<j/\j<2 ^ 64)
theorem eU.ok {i j:Int}(h:eU i j):IntMulOk i j:=by
 rcases h with ⟨h1,h2⟩|⟨h1,h2⟩
 ·exact .of_left (intBits_le_64 h1 h2)
 ·exact .of_right (intBits_le_64 h1 h2)
theorem vo (k:Nat):(0:Int)<=2 ^ k:=by
 rw [two_pow_cast]
 exact Int.natCast_nonneg _
theorem BD:OpR X (binaryOp .Add) (rI0 λi j=>.int (i+j)):=tp λ_ _ _ _ _ _ _ q=>add_int q
theorem BE:OpR X (binaryOp .Sub) (rI0 λi j=>.int (i - j)):=tp λ_ _ _ _ _ _ _ q=>sub_int q
theorem BF:OpR X (binaryOp .Mult) (rI eU λi j=>.int (i * j)):=opI λ_ _ _ _ _ _ _ hc q=>mul_int q hc.ok
theorem BG:OpR X (binaryOp .Mod) (rI (λ_ j=>0<j) λi j=>.int (i % j)):=opI λi j _ _ _ _ _ hc q=>by
 have h1:(0:Int)<j:=hc
 exact mod_int' (by lia) (by rw [Int.fmod_eq_emod_of_nonneg i (by lia)];exact q)
theorem BH:OpR X (binaryOp .Pow) (rI tq λi j=>.int (i ^ j.toNat)):=opI λ_ _ _ _ _ _ _ hc q=>pow_int_small hc.1 hc.2.1 hc.2.2 q
theorem BI:OpR X (binaryOp .RShift) (rI (λ_ j=>0<=j) λi j=>.int (i / 2 ^ j.toNat)):=opI λi j _ _ _ _ _ hc q =>
 rshift_int hc (by rw [R9 i (vo _)];exact q)
theorem unI {f:Value->Sem Value}{g:Int->Int}
  (rule:∀ (i:Int) (t:Tok) (s:Shared) (Q:Value->Shared->Prop) (E:Value->Shared->Prop),Q (.int (g i) s.toks) { s with toks:=s.toks+1 }->wpAny (model X.prog X.w) X.A (f (.int i t)) Q E s) :
  UnR X f (rU λi=>.int (g i)):=by
 intro pins s U H x v Q I rx h
 obtain ⟨i,rfl,q⟩:=h
 obtain ⟨t,rfl⟩:=rx
 exact rule i t s _ _ ⟨.int (g i),H,I.tok _,⟨_,rfl⟩,q⟩
theorem BJ:UnR X (unaryOp .USub) (rU λi=>.int (-i)):=unI λ_ _ _ _ _ q=>neg_int q
end
noncomputable def tw:V->V->Bool
 |.non,.non=>true|.non,.int _=>true|.int _,.non=>true|.non,.bl _=>true|.bl _,.non=>true|.non,.str _=>true|.str _,.non=>true
 |.int _,.int _=>true|.bl _,.bl _=>true|.str _,.str _=>true|.byt _,.byt _=>true
 |.int _,.str _=>true|.str _,.int _=>true|.bl _,.str _=>true|.str _,.bl _=>true
 |_,_=>false
def rEq:R2:=λx y H Q=>tw x y=true/\Q (.bl (decide (x=y))) H
def rNe:R2:=λx y H Q=>tw x y=true/\Q (.bl (!decide (x=y))) H
theorem pq {i j:Int}:decide (V.int i=V.int j)=(i==j):=by
 rw [N7]
 simp
theorem qo {i j:Bool}:decide (V.bl i=V.bl j)=(i==j):=by
 rw [N7]
 simp
theorem pt {i j:Str}:decide (V.str i=V.str j)=(i==j):=by
 rw [N7]
 simp
theorem pv {i j:Array UInt8}:decide (V.byt i=V.byt j)=(i.toList==j.toList):=by
 rw [N7]
 cases i
 cases j
 simp
section
variable {X:Cx}{a b c:Expr}{ta tb tc:TE}{pos:Pos}
theorem aH {pins:List (Addr×Obj)}{U:St}{H:Hp}{s:Shared}{Q:VK}{k k':Bool}(I:Inv X pins U H s) (q:Q (.bl k) H) (e:k=k'):EP X pins U Q (.bool k') s:=by
 subst e
 exact ⟨.bl k,H,I,rfl,q⟩
theorem lV:OpR X (compareOp .Eq) rEq:=by
 intro pins s U H x y v u Q I rx ry h
 obtain ⟨hs,q⟩:=h
 cases x with
 |non =>
  cases rx
  cases y with
  |non=>cases ry;exact PySem.EqNone.eq_none_none (aH I q (by simp))
  |bl j=>cases ry;exact PySem.EqNone.eq_none_bool (aH I q (by simp))
  |int j=>obtain ⟨t',rfl⟩:=ry;exact PySem.EqNone.eq_none_int (aH I q (by simp))
  |str j=>obtain ⟨t',rfl⟩:=ry;exact PySem.EqNone.eq_none_str (aH I q (by simp))
  |_=>exact absurd (show false=true from hs) N5
 |bl i =>
  cases rx
  cases y with
  |non=>cases ry;exact PySem.EqNone.eq_bool_none (aH I q (by simp))
  |bl j=>cases ry;exact eq_bool (aH I q qo)
  |str j=>obtain ⟨t',rfl⟩:=ry;exact PySem.EqMixed.eq_bool_str (aH I q (by simp))
  |_=>exact absurd (show false=true from hs) N5
 |int i =>
  obtain ⟨t,rfl⟩:=rx
  cases y with
  |non=>cases ry;exact PySem.EqNone.eq_int_none (aH I q (by simp))
  |int j=>obtain ⟨t',rfl⟩:=ry;exact eq_int (aH I q pq)
  |str j=>obtain ⟨t',rfl⟩:=ry;exact PySem.EqMixed.eq_int_str (aH I q (by simp))
  |_=>exact absurd (show false=true from hs) N5
 |str i =>
  obtain ⟨t,rfl⟩:=rx
  cases y with
  |non=>cases ry;exact PySem.EqNone.eq_str_none (aH I q (by simp))
  |bl j=>cases ry;exact PySem.EqMixed.eq_str_bool (aH I q (by simp))
  |int j=>obtain ⟨t',rfl⟩:=ry;exact PySem.EqMixed.eq_str_int (aH I q (by simp))
  |str j=>obtain ⟨t',rfl⟩:=ry;exact eq_str (aH I q pt)
  |_=>exact absurd (show false=true from hs) N5
 |byt i =>
  obtain ⟨t,rfl⟩:=rx
  cases y with
  |byt j=>obtain ⟨t',rfl⟩:=ry;exact PySem.W.eq_bytes (aH I q pv)
  |_=>exact absurd (show false=true from hs) N5
 |_=>cases y<;>exact absurd (show false=true from hs) N5
theorem lW:OpR X (compareOp .NotEq) rNe:=by
 intro pins s U H x y v u Q I rx ry h
 obtain ⟨hs,q⟩:=h
 cases x with
 |non =>
  cases rx
  cases y with
  |non=>cases ry;exact PySem.EqNone.ne_none_none (aH I q (by simp))
  |bl j=>cases ry;exact PySem.EqNone.ne_none_bool (aH I q (by simp))
  |int j=>obtain ⟨t',rfl⟩:=ry;exact PySem.EqNone.ne_none_int (aH I q (by simp))
  |str j=>obtain ⟨t',rfl⟩:=ry;exact PySem.EqNone.ne_none_str (aH I q (by simp))
  |_=>exact absurd (show false=true from hs) N5
 |bl i =>
  cases rx
  cases y with
  |non=>cases ry;exact PySem.EqNone.ne_bool_none (aH I q (by simp))
  |bl j=>cases ry;exact ne_bool (aH I q (Ow not qo))
  |str j=>obtain ⟨t',rfl⟩:=ry;exact PySem.EqMixed.ne_bool_str (aH I q (by simp))
  |_=>exact absurd (show false=true from hs) N5
 |int i =>
  obtain ⟨t,rfl⟩:=rx
  cases y with
  |non=>cases ry;exact PySem.EqNone.ne_int_none (aH I q (by simp))
  |int j=>obtain ⟨t',rfl⟩:=ry;exact ne_int (aH I q (Ow not pq))
  |str j=>obtain ⟨t',rfl⟩:=ry;exact PySem.EqMixed.ne_int_str (aH I q (by simp))
  |_=>exact absurd (show false=true from hs) N5
 |str i =>
  obtain ⟨t,rfl⟩:=rx
  cases y with
  |non=>cases ry;exact PySem.EqNone.ne_str_none (aH I q (by simp))
  |bl j=>cases ry;exact PySem.EqMixed.ne_str_bool (aH I q (by simp))
  |int j=>obtain ⟨t',rfl⟩:=ry;exact PySem.EqMixed.ne_str_int (aH I q (by simp))
  |str j=>obtain ⟨t',rfl⟩:=ry;exact ne_str (aH I q (Ow not pt))
  |_=>exact absurd (show false=true from hs) N5
 |byt i =>
  obtain ⟨t,rfl⟩:=rx
  cases y with
  |byt j=>obtain ⟨t',rfl⟩:=ry;exact PySem.W.ne_bytes (aH I q (Ow not pv))
  |_=>exact absurd (show false=true from hs) N5
 |_=>cases y<;>exact absurd (show false=true from hs) N5
theorem DW:OpR X (compareOp .Lt) (rI0 λi j=>.bl (decide (i<j))):=mH λ_ _ _ _ _ _ _ q=>lt_int q
theorem DX:OpR X (compareOp .LtE) (rI0 λi j=>.bl (decide (i<=j))):=mH λ_ _ _ _ _ _ _ q=>le_int q
theorem DY:OpR X (compareOp .Gt) (rI0 λi j=>.bl (decide (j<i))):=mH λ_ _ _ _ _ _ _ q=>gt_int q
theorem vV:OpR X (compareOp .Lt) (λx y H Q=>∃ i j,x=.str i/\y=.str j/\Q (.bl (decide (i.cps.toList<j.cps.toList))) H):=by
 intro pins s U H x y v u Q I rx ry h
 obtain ⟨i,j,rfl,rfl,q⟩:=h
 obtain ⟨t,rfl⟩:=rx
 obtain ⟨t',rfl⟩:=ry
 exact lt_str (aH I q rfl)
theorem BK:OpR X (compareOp .Is) (λx y H Q=>y=.non/\Q (.bl (decide (x=.non))) H):=by
 intro pins s U H x y v u Q I rx ry h
 obtain ⟨rfl,q⟩:=h
 cases ry
 refine is_none_gen (aH I q ?_)
 cases x<;>first
  |(cases rx;rfl)
  |(obtain ⟨t,rfl⟩:=rx;rfl)
theorem uE:OpR X (compareOp .NotIn) (λx y H Q=>∃ i j,x=.str i/\y=.str j/\Q (.bl (!(!(Builtin.Str.occurrences j i 0 j.length 1).isEmpty))) H):=by
 intro pins s U H x y v u Q I rx ry h
 obtain ⟨i,j,rfl,rfl,q⟩:=h
 obtain ⟨t,rfl⟩:=rx
 obtain ⟨t',rfl⟩:=ry
 exact notIn_str (aH I q rfl)
theorem kU (b:Expr){op:CmpOp}(h:op≠.In:=by decide) (h2:op≠.NotIn:=by decide):behindInMarks op b=false:=by
 have e1:(op==CmpOp.In)=false:=by cases op<;>first|rfl|exact absurd rfl h
 have e2:(op==CmpOp.NotIn)=false:=by cases op<;>first|rfl|exact absurd rfl h2
 cases b<;>simp [behindInMarks,e1,e2]
theorem y6 {op:CmpOp}{r:R2}(ho:OpR X (compareOp op) r) (ha:PE X a ta) (hb:PE X b tb) (hm:behindInMarks op b=false):PE X (.Compare a [op] [b] pos) (tOp r ta tb):=by
 intro pins s U H Q I h
 exact wpAny_Compare1 (mG ha hb I h λv u s2 x y H2 I2 rx ry q=>ho pins s2 U H2 x y v u Q I2 rx ry q) hm
def lX (t:TE):TT:=λU H Q=>t U H λx H'=>∃ k,x=.bl k/\Q k H'
theorem y7 {op:CmpOp}{r:R2}(ho:OpR X (compareOp op) r) (ha:PE X a ta) (hb:PE X b tb) (hm:behindInMarks op b=false):PT X (.Compare a [op] [b] pos) (lX (tOp r ta tb)):=by
 intro pins s U H Q I h
 refine wpAny_isTrue_Compare1 (thn (ha pins s U H _ I h) λv s1 ⟨x,H1,I1,r1,q1⟩=>thn (hb pins s1 U H1 _ I1 q1) λu s2 ⟨y,H2,I2,r2,q2⟩ =>
  thn (ho pins s2 U H2 x y v u _ I2 r1 r2 q2) λc s3 ⟨z,H3,I3,r3,k,e,q3⟩=>?_) hm
 subst e
 cases r3
 exact OL ⟨H3,I3,q3⟩
def kW (r r':R2) (ta tb tc:TE):TE:=λU H Q=>ta U H λx H1=>tb U H1 λy H2=>r x y H2 λz H3=>∃ k,z=.bl k /\
 (if k=true then tc U H3 λw' H4=>r' y w' H4 Q else Q (.bl false) H3)
theorem xq {op K2:CmpOp}{r r':R2}(ho:OpR X (compareOp op) r) (K1:OpR X (compareOp K2) r') (ha:PE X a ta) (hb:PE X b tb) (hc:PE X c tc)
  (hm:lastMarks [op,K2] [b,c]=false:=by with_unfolding_all rfl):PE X (.Compare a [op,K2] [b,c] pos) (kW r r' ta tb tc):=by
 intro pins s U H Q I h
 refine Compare_chain (thn (ha pins s U H _ I h) λv s1 ⟨x,H1,I1,r1,q1⟩=>chain_link (thn (hb pins s1 U H1 _ I1 q1) λu s2 ⟨y,H2,I2,r2,q2⟩ =>
  thn (ho pins s2 U H2 x y v u _ I2 r1 r2 q2) λd s3 ⟨z,H3,I3,r3,k,e,q3⟩=>?_)) hm
 subst e
 cases r3
 refine OL ?_
 cases k with
 |false=>exact ite_ff ⟨.bl false,H3,I3,rfl,q3⟩
 |true=>exact ite_tt (chain_last (thn (hc pins s3 U H3 _ I3 q3) λw' s4 ⟨z',H4,I4,r4,q4⟩=>K1 pins s4 U H4 y z' u w' Q I4 r2 r4 q4))
theorem xr {op K2:CmpOp}{r r':R2}(ho:OpR X (compareOp op) r) (K1:OpR X (compareOp K2) r') (ha:PE X a ta) (hb:PE X b tb) (hc:PE X c tc)
  (hm:lastMarks [op,K2] [b,c]=false:=by with_unfolding_all rfl):PT X (.Compare a [op,K2] [b,c] pos) (lX (kW r r' ta tb tc)):=by
 intro pins s U H Q I h
 refine isTrue_chain (thn (ha pins s U H _ I h) λv s1 ⟨x,H1,I1,r1,q1⟩=>test_link (thn (hb pins s1 U H1 _ I1 q1) λu s2 ⟨y,H2,I2,r2,q2⟩ =>
  thn (ho pins s2 U H2 x y v u _ I2 r1 r2 q2) λd s3 ⟨z,H3,I3,r3,k,e,q3⟩=>?_)) hm
 subst e
 cases r3
 refine OL ?_
 cases k with
 |false =>
  obtain ⟨k',e',q'⟩:=q3
  cases e'
  exact ite_ff ⟨H3,I3,q'⟩
 |true =>
  refine ite_tt (test_last (thn (hc pins s3 U H3 _ I3 q3) λw' s4 zz21=>?_))
  obtain ⟨z',H4,I4,r4,q4⟩:=zz21
  refine thn (K1 pins s4 U H4 y z' u w' _ I4 r2 r4 q4) λd' s5 zz22=>?_
  obtain ⟨z2,H5,I5,r5,k2,e2,q5⟩:=zz22
  subst e2
  cases r5
  exact OL ⟨H5,I5,q5⟩
def tD (K:PySem.W.Frag) (x:V) (H:Hp) (k:Bool):Prop :=
 match x with
 |.non=>k=false
 |.bl b=>k=b
 |.int i=>k=(i != 0)
 |.str y=>y.length<=sizeLine/\k=((y.length:Int) != 0)
 |.byt y=>y.size<=sizeLine/\k=((y.size:Int) != 0)
 |.ref p=>(∃ xs,SqL K H p xs/\k=!xs.isEmpty)\/(∃ xs,SqT K H p xs/\k=!xs.isEmpty)\/∃ kvs,H p=some (.dK kvs)/\k=!kvs.isEmpty
 |_=>False
theorem vp {κ:Type}{kvs:List (κ×V)}{vs:List (κ×Value)}(r:KV kvs vs):(!vs.isEmpty)=!kvs.isEmpty:=by
 cases r<;>rfl
theorem nt {xs:List V}{its:List Value}(r:aj xs its):(!its.toArray.isEmpty)=!xs.isEmpty:=by
 cases r<;>simp
theorem dF:(sizeLine:Nat)<2 ^ 63:=by rw [N3];decide
theorem BL:F8 X (λx H Q=>∃ k,tD X.K x H k/\Q k H):=by
 intro pins s U H x v Q I rx h
 obtain ⟨k,e,q⟩:=h
 have hl:=dF
 have hs:sizeLine=16777216:=N3
 cases x with
 |non =>
  cases rx
  have e':k=false:=e
  subst e'
  exact truthy_none ⟨H,I,q⟩
 |bl b =>
  cases rx
  have e':k=b:=e
  subst e'
  exact OL ⟨H,I,q⟩
 |int i =>
  obtain ⟨t,rfl⟩:=rx
  have e':k=(i != 0):=e
  subst e'
  exact PySem.P.truthy_int ⟨H,I,q⟩
 |str y =>
  obtain ⟨t,rfl⟩:=rx
  obtain ⟨hy,e'⟩:y.length<=sizeLine/\k=((y.length:Int) != 0):=e
  subst e'
  exact PySem.P.truthy_str (by lia) ⟨H,I.tok _,q⟩
 |byt y =>
  obtain ⟨t,rfl⟩:=rx
  obtain ⟨hy,e'⟩:y.size<=sizeLine/\k=((y.size:Int) != 0):=e
  subst e'
  exact PySem.W.truthy_bytes (by lia) ⟨H,I.tok _,q⟩
 |ref p =>
  cases rx
  have e':(∃ xs,SqL X.K H p xs/\k=!xs.isEmpty)\/(∃ xs,SqT X.K H p xs/\k=!xs.isEmpty)\/∃ kvs,H p=some (.dK kvs)/\k=!kvs.isEmpty:=e
  rcases e' with ⟨xs,hx,e'⟩|⟨xs,hx,e'⟩|⟨kvs,hx,e'⟩
  ·subst e'
   obtain ⟨its,r,pl,hz⟩:=I.list hx
   have Ik:=r.length
   exact wpAny_truthy_list pl.isList (by simp only [NW];lia) ⟨H,I.tok _,by rw [nt r];exact q⟩
  ·subst e'
   obtain ⟨its,r,pl,hz⟩:=I.tuple hx
   have Ik:=r.length
   exact truthy_tuple pl (by simp only [NW];lia) ⟨H,I.tok _,by rw [nt r];exact q⟩
  ·subst e'
   obtain ⟨hz,hS,vs,r,m⟩:kvs.length<=sizeLine/\(p==sysModules)=false/\∃ vs,KV kvs vs/\s.heap.DictOf (aO X.prog X.w) p vs:=I.hok p _ hx
   have Ik:kvs.length=vs.length:=Paired.length r
   exact wpAny_truthy_dict hS m (by lia) ⟨H,I.tok _,by rw [vp r];exact q⟩
 |_=>exact (show False from e).elim
theorem xt (ha:PE X a ta) (he:∀ whole,isTrue a X.env whole=(do let v <- whole;standAt a.pos;holding [v] (truthy v))) :
  PT X a (λU H Q=>ta U H λx H'=>∃ k,tD X.K x H' k/\Q k H'):=by
 intro pins s U H Q I h
 exact isTrue_plain (thn (ha pins s U H _ I h) λv s1 zz23=>by obtain ⟨x,H1,I1,r1,q1⟩:=zz23;exact BL pins s1 U H1 x v Q I1 r1 q1) (he _)
theorem vq:OpR X (binaryOp .Add) (λx y H Q=>∃ i j,x=.str i/\y=.str j/\i.length+j.length<=sizeLine/\Q (.str (i++j)) H):=by
 intro pins s U H x y v u Q I rx ry h
 obtain ⟨i,j,rfl,rfl,hz,q⟩:=h
 obtain ⟨t,rfl⟩:=rx
 obtain ⟨t',rfl⟩:=ry
 exact add_str (λt' tk=>⟨.str (i++j),H,I.tok _,⟨_,rfl⟩,q⟩) hz
theorem bh {x:V}{us:List Value}(r:aj [x] us):∃ u,us=[u]/\ak x u:=by
 cases r with
 |cons r1 r2=>cases r2;exact ⟨_,rfl,r1⟩
theorem lY {x y:V}{us:List Value}(r:aj [x,y] us):∃ u w',us=[u,w']/\ak x u/\ak y w':=by
 cases r with
 |cons r1 r2 =>
  cases r2 with
  |cons r3 r4=>cases r4;exact ⟨_,_,rfl,r1,r3⟩
theorem vW (hc:X.calm=true):a0 X (.builtin "max") (λxs H Q=>∃ i j,xs=[.int i,.int j]/\Q (.int (if j>i then j else i)) H):=by
 intro pins s U H xs us Q I r h
 obtain ⟨i,j,rfl,q⟩:=h
 obtain ⟨u,w',rfl,⟨t,rfl⟩,⟨t',rfl⟩⟩:=lY r
 refine max_two_ints (I.ok.hd hc) λh' tk k=>⟨_,H,I.kept k,?_,q⟩
 by_cases hj:j>i
 ·rw [NC hj,NC hj];exact ⟨_,rfl⟩
 ·rw [NB hj,NB hj];exact ⟨_,rfl⟩
theorem nC:a0 X (.type "int") (λxs H Q=>(∃ i,xs=[.int i]/\Q (.int i) H)\/∃ k,xs=[.bl k]/\Q (.int (if k then 1 else 0)) H):=by
 intro pins s U H xs us Q I r h
 rcases h with ⟨i,rfl,q⟩|⟨k,rfl,q⟩
 ·obtain ⟨u,rfl,t,rfl⟩:=bh r
  exact call_int_int ⟨.int i,H,I,⟨_,rfl⟩,q⟩
 ·obtain ⟨u,rfl,r1⟩:=bh r
  cases r1
  exact call_int_bool ⟨.int (if k then 1 else 0),H,I.tok _,⟨_,rfl⟩,q⟩
end
structure ObjM (h:Heap) (x dx C:Addr) (mA:Str->Option Value):Prop where
 obj:h.get? x=some (PySem.W.instObj C dx)
 ns:h.Ns1 dx mA
 ne:dx≠x
theorem vX {h:Heap}{dx:Addr}{mA:Str->Option Value}(n:h.Ns1 dx mA):∃ od,h.get? dx=some od/\∀ name,PySem.W.lookIn name od=some (mA name):=by
 obtain ⟨o,es,ep,ho,hd,hk,_,hm⟩:=n
 refine ⟨o,ho,λname=>?_⟩
 have e:=hm name
 unfold nsFind findBy at e
 rw [<- Array.find?_toList] at e
 unfold PySem.W.lookIn
 rw [hd]
 dsimp only
 split
 ·rename_i y q
  rw [q] at e
  exact Ow some e
 ·rename_i q
  rw [q] at e
  have a:es.toList.any (·.refKey)=false:=by
   rw [List.any_eq_false]
   intro y hy
   obtain ⟨z,t,IK⟩:=hk y (Array.mem_toList_iff.mp hy)
   simp [DictEntry.refKey,IK]
  have a':¬ es.toList.any (·.refKey)=true:=by rw [a];exact N5
  rw [NB a']
  exact Ow some e
theorem ObjM.look {h:Heap}{x dx C:Addr}{mA:Str->Option Value}(I:ObjM h x dx C mA):∃ od,PySem.W.InstAt h x (PySem.W.instObj C dx) C (some od)/\∀ name,PySem.W.lookIn name od=some (mA name) :=
 let ⟨od,ho,hl⟩:=vX I.ns
 ⟨od,⟨I.obj,rfl,rfl,ho⟩,hl⟩
section
variable {prog:Program}{w:World}{A:Around}{E:Value->Shared->Prop}{s:Shared}{K:PySem.W.Frag}{x dx C f:Addr}{mA:Str->Option Value}{name:Str}{v:Value}
theorem y8 {expr:Bool}{Q:Value->Shared->Prop}(X:K.In s.heap) (I:ObjM s.heap x dx C mA) (hg:PySem.W.plainGet K C name=true) (hh:PySem.W.hasDictIn K C=true)
  (ha:PySem.W.findIn K (.ref C) name=some none) (hv:mA name=some v) (Lz:PySem.W.handedIn v=true) (h:Q v { s with toks:=s.toks+1 }) :
  wpAny (model prog w) A (getAttr (.ref x) name expr) Q E s:=by
 obtain ⟨od,J,hl⟩:=I.look
 exact PySem.W.get_value X J (RK hg).1 (PySem.W.findObj_own hh ha rfl (by rw [hl,hv])) Lz h
theorem xu {pl:Sem Bool}{Q:Value×List Value->Shared->Prop}(X:K.In s.heap) (I:ObjM s.heap x dx C mA) (hg:PySem.W.plainGet K C name=true)
  (hf:PySem.W.findIn K (.ref C) name=some (some (.ref f))) (ht:PySem.W.isFn K (.ref f)=true) (hv:mA name=none) (h:Q (.ref f,[.ref x]) s) :
  wpAny (model prog w) A (getMethod (.ref x) name pl) Q E s:=by
 obtain ⟨od,J,hl⟩:=I.look
 exact PySem.W.method_fn X J (RK hg).1 (RK hg).2 hf (Pb.mp ht) (by show (PySem.W.lookIn name od).map (·.isSome)=some false;rw [hl,hv];rfl) h
theorem y9 {ns:List Str}{Q:Unit->Shared->Prop}(X:K.In s.heap) (I:ObjM s.heap x dx C mA)
  (hs:PySem.W.findIn K (.ref C) "__setattr__"=some (some (.builtin "object.__setattr__"))) (hp:PySem.W.plainOver K C=true) (ht:PySem.W.takerIn K C name=some none) (hh:PySem.W.hasDictIn K C=true)
  (hw:PySem.Within mA ns) (hsz:ns.length<=sizeLine)
  (h:∀ h',ObjM h' x dx C (λy=>if y=name then some v else mA y)->Heap.SameBut dx s.heap h'->Q () { s with heap:=h',toks:=s.toks+2 }) :
  wpAny (model prog w) A (setAttr (.ref x) name v) Q E s:=by
 obtain ⟨od,J,hl⟩:=I.look
 refine PySem.W.set_plain X J hs (PySem.W.osa_open (s:={ s with toks:=s.toks+1 }) (r:=none) X J hp ht λb=>?_)
 obtain ⟨cd,hc,hd'⟩:=PySem.W.any_some hh
 have hx:s.heap.get? x=some ⟨.ref C,some dx,.plain,#[]⟩:=I.obj
 refine Ny (NP (Ny (Ny (wpAny_loadPart hx (Ny (PySem.W.Looks.here (s:={ s with toks:=s.toks+1 }) (PySem.W.looks_clsIn X hc) ?_))))))
 rw [hd']
 refine NP (a:=some dx) (Ny (NP (Ny ?_)))
 refine wpAny_nsSet1 (s:={ s with toks:=s.toks+1 }) I.ns λh' MY hs2=>?_
 obtain ⟨oD,esD,epD,hoD,hdD,hcD⟩:=MY.count (PySem.Within.cons name v hw)
 refine Ny (wpAny_lookBehind hoD (by rw [hdD];exact pastItsLine_dict (NZ hcD (by rw [NU];lia))) ?_)
 exact NP (h _ ⟨(hs2.2 _ (Op I.ne)).trans I.obj,MY,I.ne⟩ hs2)
theorem xv {R:Result->Shared->Prop}{vs:List Value}{kw:List (Str×Value)}(X:K.In s.heap) (hm:PySem.W.makesIn K C=true)
  (hi:PySem.W.findIn K (.ref C) "__init__"=some (some (.ref f))) (hf:PySem.W.typeIn K (.ref f)=some (.type "function"))
  (h:codeAny (model prog w) (A.under (.builtin "type.__call__" ⟨.ref C::vs,kw⟩)) (.call (.ref f) ⟨.ref (s.heap.objs.size+1)::vs,kw⟩) (PySem.W.InitBack (s.heap.objs.size+1) R)
   { s with heap:=(s.heap.push PySem.W.emptyDict).push (PySem.W.instObj C s.heap.objs.size) }) :
  codeAny (model prog w) A (.call (.ref C) ⟨vs,kw⟩) R s:=by
 obtain ⟨hh,g,d,t,os⟩:=s
 exact PySem.W.make_core (PySem.W.makes_of X hm) (PySem.W.looks_findIn X hi) (λself=>PySem.W.bind_fn X self hf) (.inl rfl) h
end
noncomputable def a8 (f:Str) (v:V):List (Str×V)->List (Str×V)
 |[]=>[(f,v)]
 |(g,x)::r=>if g=f then (g,v)::r else (g,x)::a8 f v r
theorem m8 (f g:Str) (v:V):∀ fs:List (Str×V),(a8 f v fs).lookup g=if g=f then some v else fs.lookup g
 |[]=>by
  show List.lookup g [(f,v)]=_
  by_cases h:g=f
  ·have hb:(g==f)=true:=Pb.mpr h
   simp only [List.lookup,hb,NC h]
  ·have hb:(g==f)=false:=P4.mpr h
   simp only [List.lookup,hb,NB h]
 |(k,x)::r=>by
  have ih:=m8 f g v r
  rw [show a8 f v ((k,x)::r)=(if k=f then (k,v)::r else (k,x)::a8 f v r) from rfl]
  by_cases hk:k=f
  ·rw [NC hk]
   by_cases h:g=k
   ·have hb:(g==k)=true:=Pb.mpr h
    simp only [List.lookup,hb,NC (h.trans hk)]
   ·have hb:(g==k)=false:=P4.mpr h
    simp only [List.lookup,hb,NB (λe:g=f=>h (e.trans hk.symm))]
  ·rw [NB hk]
   by_cases h:g=k
   ·have hb:(g==k)=true:=Pb.mpr h
    simp only [List.lookup,hb,NB (λe:g=f=>hk (h.symm.trans e))]
   ·have hb:(g==k)=false:=P4.mpr h
    simp only [List.lookup,hb]
    exact ih
theorem jQ (f:Str) (v:V):∀ fs:List (Str×V),f∈(a8 f v fs).map (·.1)/\∀ g,g∈fs.map (·.1)->g∈(a8 f v fs).map (·.1)
 |[]=>⟨by simp [a8],λg h=>by simp at h⟩
 |(k,x)::r=>by
  obtain ⟨i1,i2⟩:=jQ f v r
  rw [show a8 f v ((k,x)::r)=(if k=f then (k,v)::r else (k,x)::a8 f v r) from rfl]
  by_cases hk:k=f
  ·rw [NC hk]
   subst hk
   exact ⟨by simp,λg h=>by simpa using h⟩
  ·rw [NB hk]
   refine ⟨?_,λg h=>?_⟩
   ·rw [NF]
    exact NQ _ i1
   ·rw [NF] at h ⊢
    rcases NR.mp h with e|e
    ·exact NR.mpr (.inl e)
    ·exact NQ _ (i2 g e)
theorem m9 (f:Str) (v:V):∀ fs:List (Str×V),(a8 f v fs).length<=fs.length+1
 |[]=>by simp [a8]
 |(k,x)::r=>by
  have ih:=m9 f v r
  rw [show a8 f v ((k,x)::r)=(if k=f then (k,v)::r else (k,x)::a8 f v r) from rfl]
  by_cases hk:k=f
  ·rw [NC hk,NU,NU];lia
  ·rw [NB hk,NU,NU];lia
theorem bi.some_of {v:V}{o:Option Value}(r:bi (some v) o):∃ u,o=some u/\ak v u:=by
 cases o with
 |none=>exact (show False from r).elim
 |some u=>exact ⟨u,rfl,r⟩
theorem bi.none_of {o:Option Value}(r:bi none o):o=none:=by
 cases o with
 |none=>rfl
 |some u=>exact (show False from r).elim
theorem vY {v:V}{u:Value}(r:ak v u):PySem.W.handedIn u=true:=by
 cases v with
 |non=>cases (show u=Value.none from r);rfl
 |bl b=>cases (show u=Value.bool b from r);rfl
 |int i=>obtain ⟨t,e⟩:=(show ∃ t,u=Value.int i t from r);cases e;rfl
 |str x=>obtain ⟨t,e⟩:=(show ∃ t,u=Value.str x t from r);cases e;rfl
 |byt b=>obtain ⟨t,e⟩:=(show ∃ t,u=Value.bytes b t from r);cases e;rfl
 |flt b=>obtain ⟨t,e⟩:=(show ∃ t,u=Value.float b t from r);cases e;rfl
 |ref a=>cases (show u=Value.ref a from r);rfl
 |ty n=>cases (show u=Value.type n from r);rfl
section
variable {P:Program}{w:World}{H H':Hp}{h h':Heap}{a C dx:Addr}{fs Jk:List (Str×V)}
theorem gU (hok:HOk P w H h) (e:H a=some (.ins C dx fs)):∃ mA,ObjM h a dx C mA/\(∀ f,bi (fs.lookup f) (mA f))/\PySem.Within mA (fs.map (·.1))/\fs.length<=1000/\H dx=some (.own a):=by
 obtain ⟨d,z,ne,ob,mA,n,r,q⟩:=(show aQ P w H h a (.ins C dx fs) from hok a _ e)
 exact ⟨mA,⟨ob,n,ne⟩,r,q,z,d⟩
end
structure Cls (K:PySem.W.Frag) (C:Addr):Prop where
 pg:PySem.W.plainGet K C Str.empty=true
 hd:PySem.W.hasDictIn K C=true
 po:PySem.W.plainOver K C=true
 sa:PySem.W.findIn K (.ref C) "__setattr__"=some (some (.builtin "object.__setattr__"))
theorem Cls.get {K:PySem.W.Frag}{C:Addr}(c:Cls K C) (f:Str):PySem.W.plainGet K C f=true:=c.pg
def bp (K:PySem.W.Frag) (C:Addr) (f:Str):Prop:=PySem.W.findIn K (.ref C) f=some none
theorem bp.taker {K:PySem.W.Frag}{C:Addr}{f:Str}(n:bp K C f):PySem.W.takerIn K C f=some none:=by
 unfold PySem.W.takerIn
 rw [show PySem.W.findIn K (.ref C) f=some none from n]
 rfl
structure Con (K:PySem.W.Frag) (C:Addr) (f:Str) (v:V) (u:Value):Prop where
 at_:PySem.W.findIn K (.ref C) f=some (some u)
 rel:ak v u
 get:PySem.W.specialIn K u "__get__"=some none
 cp:PySem.W.copiedNames.contains f=false
structure Meth (K:PySem.W.Frag) (C:Addr) (m:Str) (f:Addr):Prop where
 at_:PySem.W.findIn K (.ref C) m=some (some (.ref f))
 fn:PySem.W.isFn K (.ref f)=true
 kp:PySem.W.keepIn K (.ref f)=true
section
variable {X:Cx}{pins:List (Addr×Obj)}{U:St}{H:Hp}{s:Shared}{a C dx:Addr}{fs:List (Str×V)}{f:Str}{v:V}{A:Around}{E:Value->Shared->Prop}
theorem nu {b:Bool}{Q:Value->Shared->Prop}(I:Inv X pins U H s) (e:H a=some (.ins C dx fs)) (c:Cls X.K C) (n:bp X.K C f) (l:fs.lookup f=some v)
  (h:∀ u s',Inv X pins U H s'->ak v u->Q u s'):wpAny (model X.prog X.w) A (getAttr (.ref a) f b) Q E s:=by
 obtain ⟨mA,O,r,_,_,_⟩:=gU I.hok e
 obtain ⟨u,hu,ru⟩:=bi.some_of (v:=v) (o:=mA f) (by rw [<- l];exact r f)
 exact y8 I.kIn O (c.get f) c.hd n hu (vY ru) (h u _ (I.tok _) ru)
theorem nv {m:Str}{g:Addr}{pl:Sem Bool}{Q:Value×List Value->Shared->Prop}(I:Inv X pins U H s) (e:H a=some (.ins C dx fs)) (c:Cls X.K C) (k:Meth X.K C m g) (l:fs.lookup m=none)
  (h:Q (.ref g,[.ref a]) s):wpAny (model X.prog X.w) A (getMethod (.ref a) m pl) Q E s:=by
 obtain ⟨mA,O,r,_,_,_⟩:=gU I.hok e
 have hn:mA m=none:=bi.none_of (by rw [<- l];exact r m)
 exact xu I.kIn O (c.get m) k.at_ k.fn hn h
theorem ny {y:V}{u:Value}{Q:Unit->Shared->Prop}(I:Inv X pins U H s) (e:H a=some (.ins C dx fs)) (c:Cls X.K C) (n:bp X.K C f) (hl:fs.length<1000) (ry:ak y u)
  (h:∀ s',Inv X pins U (upd H a (.ins C dx (a8 f y fs))) s'->Q () s'):wpAny (model X.prog X.w) A (setAttr (.ref a) f u) Q E s:=by
 obtain ⟨mA,O,r,wi,_,ho⟩:=gU I.hok e
 have hz:(fs.map (·.1)).length<=sizeLine:=by rw [Nz,N3];lia
 refine y9 I.kIn O c.sa c.po n.taker c.hd wi hz λh' O' sb=>h _ ?_
 have hd:∃ o,h'.get? dx=some o:=let ⟨o,_,_,e',_⟩:=O'.ns;⟨o,e'⟩
 refine I.write (x:=a) (e:=dx) (by rw [e];exact True.intro) (.inr ho) (λb q hb z=>(sb.2 b hb).trans z) hd ?_
 refine ⟨by rw [au O.ne];exact ho,?_,O.ne,O'.obj,_,O'.ns,λg=>?_,λg hg=>?_⟩
 ·have:=m9 f y fs;lia
 ·show bi ((a8 f y fs).lookup g) (if g=f then some u else mA g)
  rw [m8]
  by_cases q:g=f
  ·rw [NC q,NC q];exact ry
  ·rw [NB q,NB q];exact r g
 ·by_cases q:g=f
  ·rw [q];exact (jQ f y fs).1
  ·refine (jQ f y fs).2 g (wi g λz=>hg ?_)
   show (if g=f then some u else mA g)=none
   rw [NB q];exact z
theorem Inv.made (I:Inv X pins U H s):Inv X pins U (upd (upd H s.heap.objs.size (.own (s.heap.objs.size+1))) (s.heap.objs.size+1) (.ins C s.heap.objs.size []))
  { s with heap:=(s.heap.push PySem.W.emptyDict).push (PySem.W.instObj C s.heap.objs.size) }:=by
 have e1:(s.heap.push PySem.W.emptyDict).get? s.heap.objs.size=some PySem.W.emptyDict:=NT s.heap rfl
 have e2:((s.heap.push PySem.W.emptyDict).push (PySem.W.instObj C s.heap.objs.size)).get? (s.heap.objs.size+1)=some (PySem.W.instObj C s.heap.objs.size):=by
  have:=NT (s.heap.push PySem.W.emptyDict) (o:=PySem.W.instObj C s.heap.objs.size) rfl
  rwa [RU] at this
 have e3:(s.heap.push PySem.W.emptyDict).Ns s.heap.objs.size (λ_=>none):=⟨PySem.W.emptyDict,#[],_,e1,rfl,(λe he=>absurd he (by simp)),λ_=>rfl⟩
 have I1:=I.laid (a:=s.heap.objs.size) (o:=.own (s.heap.objs.size+1)) (h':=s.heap.push PySem.W.emptyDict) (t':=s.toks) (λb u q=>NG _ q) (NE _) ⟨_,e1⟩
 refine I1.laid (a:=s.heap.objs.size+1) (o:=.ins C s.heap.objs.size []) (t':=s.toks) (λb u q=>NG _ q) (QQ (RU _ _)) ?_
 have ne:s.heap.objs.size≠s.heap.objs.size+1:=N6 (Rf _)
 refine ⟨by rw [au ne,aG],OM _,ne,e2,λ_=>none,(Heap.Ns1.of_empty e3).at λo q=>NG _ q,λ_=>True.intro,λy hy=>absurd rfl hy⟩
theorem za {prog:Program}{w:World}{env:Env}{e:Expr}{f:Str}{pos:Pos}{s:Shared}{Q:Value->Shared->Prop}(hb:attributeBase e f env (eval e env)=eval e env)
  (h:wpAny (model prog w) A (eval e env) (λo HK=>wpAny (model prog w) A (getAttr o f true) Q E HK) E s):wpAny (model prog w) A (eval (.Attribute e f pos) env) Q E s :=
 Attribute_any_ h (by rw [arm_eval_Attribute,hb])
end
def F9 (K:PySem.W.Frag) (ta:TE) (f:Str):TE:=λU H Q=>ta U H λx H1=>∃ a C dx fs v,x=.ref a/\H1 a=some (.ins C dx fs)/\Cls K C/\bp K C f/\fs.lookup f=some v/\Q v H1
def F' (K:PySem.W.Frag) (ta tv:TE) (f:Str):TS:=λD U H=>tv U H λy H1=>ta U H1 λx H2=>∃ a C dx fs,x=.ref a/\H2 a=some (.ins C dx fs)/\Cls K C/\bp K C f/\fs.length<1000 /\
 D.nx U (upd H2 a (.ins C dx (a8 f y fs)))
def tE (X:Cx) (op:Operator) (rd:V->V->Hp->VK->Prop):Prop :=
 ∀ (pins:List (Addr×Obj)) (s:Shared) (U:St) (H:Hp) (x y:V) (u v:Value) (Q:VK),Inv X pins U H s->ak x u->ak y v->rd x y H Q->wpAny (model X.prog X.w) X.A (inplaceOp op u v) (EP X pins U Q) X.xe s
def zb (K:PySem.W.Frag) (ta tv:TE) (rd:V->V->Hp->VK->Prop) (f:Str):TS:=λD U H=>ta U H λx H1=>∃ a C dx fs v,x=.ref a/\H1 a=some (.ins C dx fs)/\Cls K C/\bp K C f/\fs.lookup f=some v /\
 tv U H1 λy H2=>rd v y H2 λz H3=>∃ dx' Jk,H3 a=some (.ins C dx' Jk)/\Jk.length<1000/\D.nx U (upd H3 a (.ins C dx' (a8 f z Jk)))
section
variable {X:Cx}{o e value:Expr}{f:Str}{pos IZ IV:Pos}{ta tv:TE}
theorem BM (he:PE X e ta) (hb:attributeBase e f X.env (eval e X.env)=eval e X.env):PE X (.Attribute e f pos) (F9 X.K ta f):=by
 intro pins s U H Q I h
 refine za hb (thn (he pins s U H _ I h) λu s1 zz24=>?_)
 obtain ⟨x,H1,I1,rx,a,C,dx,fs,v,ex,ea,c,n,l,q⟩:=zz24
 subst ex
 obtain rfl:u=Value.ref a:=rx
 exact nu I1 ea c n l λu' s2 I2 ru=>⟨v,H1,I2,ru,q⟩
theorem BN (ha:PE X o ta) (hv:PE X value tv) (hs:swapsWith value (some (.Attribute o f IZ)) pos.line X.env=pure false):PS X (.Assign [.Attribute o f IZ] value pos) (F' X.K ta tv f):=by
 intro pins s U H D I h
 refine plainObj_wpAny_Assign_Attribute (thn (hv pins s U H _ I h) λu s1 zy7=>?_) hs
 obtain ⟨y,H1,I1,ry,q⟩:=zy7
 refine thn (ha pins s1 U H1 _ I1 q) λov s2 zy8=>?_
 obtain ⟨x,H2,I2,rx,a,C,dx,fs,ex,ea,c,n,l,q2⟩:=zy8
 subst ex
 obtain rfl:ov=Value.ref a:=rx
 exact ny I2 ea c n l ry λs3 I3=>⟨U,_,I3,q2⟩
theorem vZ {op:Operator}{rd:V->V->Hp->VK->Prop}(ha:PE X o ta) (hv:PE X value tv) (hop:tE X op rd):PS X (.AugAssign (.Attribute o f IV) op value pos) (zb X.K ta tv rd f):=by
 intro pins s U H D I h
 refine wpAny_AugAssign_AttributeAny (thn (ha pins s U H _ I h) λov s1 zz25=>?_)
 obtain ⟨x,H1,I1,rx,a,C,dx,fs,v,ex,ea,c,n,l,q⟩:=zz25
 subst ex
 obtain rfl:ov=Value.ref a:=rx
 refine nu I1 ea c n l λu s2 I2 ru=>thn (hv pins s2 U H1 _ I2 q) λw3 s3 zz26=>?_
 obtain ⟨y,H2,I3,ry,q3⟩:=zz26
 refine thn (hop pins s3 U H2 v y u w3 _ I3 ru ry q3) λw4 s4 zz27=>?_
 obtain ⟨z,H3,I4,rz,dx',Jk,ea',l',q4⟩:=zz27
 exact ny I4 ea' c n l' rz λs5 I5=>⟨U,_,I5,q4⟩
def Ga:V->V->Hp->VK->Prop:=λx y H Q=>∃ i j,x=.int i/\y=.int j/\Q (.int (i+j)) H
theorem BO:tE X .Add Ga:=by
 rintro pins s U H x y u v Q I rx ry ⟨i,j,rfl,rfl,q⟩
 obtain ⟨t,rfl⟩:=(show ∃ t,u=Value.int i t from rx)
 obtain ⟨t',rfl⟩:=(show ∃ t',v=Value.int j t' from ry)
 exact PyProof.Rows.iadd_int ⟨.int (i+j),H,I.tok _,⟨_,rfl⟩,q⟩
end
section
variable {X:Cx}{pins:List (Addr×Obj)}{U:St}{H:Hp}{s:Shared}{A:Around}{E:Value->Shared->Prop}{Q:Value->Shared->Prop}{c:Value}{b:Bool}
inductive TyOf (K:PySem.W.Frag) (H:Hp):V->Value->Prop where
 |non:TyOf K H .non (.type "NoneType")
 |bl (x:Bool):TyOf K H (.bl x) (.type "bool")
 |int (i:Int):TyOf K H (.int i) (.type "int")
 |str (x:Str):TyOf K H (.str x) (.type "str")
 |flt (x:UInt64):TyOf K H (.flt x) (.type "float")
 |lst {a:Addr}{xs:List V}(e:H a=some (.lst xs)):TyOf K H (.ref a) (.type "list")
 |frz {a:Addr}{o:Obj}{xs:List V}(e:H a=some (.frz o (.lst xs))):TyOf K H (.ref a) (.type "list")
 |tup {a:Addr}{xs:List V}(e:H a=some (.tup xs)):TyOf K H (.ref a) (.type "tuple")
 |dK {a:Addr}{kvs:List (Key×V)}(e:H a=some (.dK kvs)):TyOf K H (.ref a) (.type "dict")
 |dT {a:Addr}{kvs:List (List Key×V)}(e:H a=some (.dT kvs)):TyOf K H (.ref a) (.type "dict")
 |ins {a C dx:Addr}{fs:List (Str×V)}(e:H a=some (.ins C dx fs)) (cl:Cls K C) (ha:PySem.W.findIn K (.ref C) "__class__"=some (some (.builtin "object.__class__")))
   (hn:PySem.W.specialIn K (.builtin "object.__class__") "__get__"=some (some (.builtin "getset_descriptor.__get__"))) (htk:PySem.W.takesIn K (.builtin "object.__class__")=some true)
   (hm:PySem.W.mroIn K C (.type "object")=some true):TyOf K H (.ref a) (.ref C)
theorem v0 {x:V}{u t:Value}(I:Inv X pins U H s) (rx:ak x u) (ty:TyOf X.K H x t) (e:PySem.W.kitOne X.K t c=some b) (h:∀ tk,Q (.bool b) { s with toks:=tk }) :
  wpAny (model X.prog X.w) A (call (.builtin "isinstance") [u,c]) Q E s:=by
 cases ty with
 |non=>cases (show u=Value.none from rx);exact OU PySem.W.kitx_none I.kIn True.intro e (λz=>nomatch z) h
 |bl y=>cases (show u=Value.bool y from rx);exact OU PySem.W.kitx_bool I.kIn True.intro e (λz=>nomatch z) h
 |int i=>obtain ⟨t,q⟩:=(show ∃ t,u=Value.int i t from rx);cases q;exact OU PySem.W.kitx_int I.kIn True.intro e (λz=>nomatch z) h
 |str y=>obtain ⟨t,q⟩:=(show ∃ t,u=Value.str y t from rx);cases q;exact OU PySem.W.kitx_str I.kIn True.intro e (λz=>nomatch z) h
 |flt y=>obtain ⟨t,q⟩:=(show ∃ t,u=Value.float y t from rx);cases q;exact OU PySem.W.kitx_float I.kIn True.intro e (λz=>nomatch z) h
 |@lst a xs ea =>
  cases (show u=Value.ref a from rx)
  obtain ⟨_,_,n,_,h1⟩:=(show aQ X.prog X.w H s.heap a (.lst xs) from I.hok a _ ea)
  exact OU PySem.W.kitx_list I.kIn ⟨_,h1,rfl⟩ e (λz=>nomatch z) h
 |@frz a ob xs ea =>
  cases (show u=Value.ref a from rx)
  obtain ⟨_,_,_,n,_,h1⟩:=(show aQ X.prog X.w H s.heap a (.frz ob (.lst xs)) from I.hok a _ ea)
  exact OU PySem.W.kitx_list I.kIn ⟨_,h1,rfl⟩ e (λz=>nomatch z) h
 |@tup a xs ea =>
  cases (show u=Value.ref a from rx)
  obtain ⟨_,_,_,p⟩:=(show aQ X.prog X.w H s.heap a (.tup xs) from I.hok a _ ea)
  obtain ⟨o,h1,h2,_⟩:=p
  exact OU PySem.W.kitx_tuple I.kIn ⟨o,h1,h2⟩ e (λz=>nomatch z) h
 |@dK a kvs ea =>
  cases (show u=Value.ref a from rx)
  obtain ⟨_,_,vs,_,p⟩:=(show aQ X.prog X.w H s.heap a (.dK kvs) from I.hok a _ ea)
  obtain ⟨o,es,ep,h1,h2,_⟩:=p
  exact OU PySem.W.kitx_dict I.kIn ⟨o,h1,h2.1⟩ e (λz=>nomatch z) h
 |@dT a kvs ea =>
  cases (show u=Value.ref a from rx)
  obtain ⟨_,_,xs,_,o,es,ep,h1,h2,_⟩:=(show aQ X.prog X.w H s.heap a (.dT kvs) from I.hok a _ ea)
  exact OU PySem.W.kitx_dict I.kIn ⟨o,h1,h2.1⟩ e (λz=>nomatch z) h
 |@ins a C dx fs ea cl ha hn htk hm =>
  cases (show u=Value.ref a from rx)
  obtain ⟨mA,O,_⟩:=gU I.hok ea
  obtain ⟨od,J,_⟩:=O.look
  exact OU (PySem.W.kitx_own (cl.get _) cl.hd ha hn htk hm) I.kIn J e (λz=>nomatch z) h
end
structure Room (k:Nat) (A:Around):Prop where
 hd:A.handled=none
 dp:A.depth+3 * k+5<recursionLimit
 un:A.units+16 * k+200<cLine
 gd:A.guards=some []
theorem Room.mono {j k:Nat}{A:Around}(r:Room k A) (h:j<=k):Room j A:=⟨r.hd,by have:=r.dp;lia,by have:=r.un;lia,r.gd⟩
theorem Room.m {j k:Nat} {A:Around} (r:Room k A) (h:j<=k:=by decide):Room j A:=r.mono h
theorem Room.deeper {k:Nat}{A:Around}(r:Room (k+1) A) (env:Env):Room k (A.deeper env) :=
 ⟨r.hd,by have:=r.dp;show A.depth+1+3 * k+5<_;lia,by have:=r.un;show A.units+3+16 * k+200<_;lia,r.gd⟩
theorem Room.in1 {k:Nat}{A:Around}(r:Room (k+1) A):Room k A.in1 :=
 ⟨r.hd,by have:=r.dp;show A.depth+3 * k+5<_;lia,by have:=r.un;show A.units+1+16 * k+200<_;lia,r.gd⟩
theorem vt {A:Around}{C:Addr}{us:List Value}{kw:List (Str×Value)}:(A.under (.builtin "type.__call__" ⟨.ref C::us,kw⟩)).depth=A.depth+1:=by
 first|rfl|simp [Around.under,Code.weight,Code.isCreation,Code.isGuard,Code.isCaller,Code.frames,Code.isFrame,guardIds]
theorem vv {A:Around}{C:Addr}{us:List Value}{kw:List (Str×Value)}:(A.under (.builtin "type.__call__" ⟨.ref C::us,kw⟩)).units=A.units+1:=by
 first|rfl|simp [Around.under,Code.cUnits,Code.frames,Code.isFrame]
theorem uV {A:Around}{C:Addr}{us:List Value}{kw:List (Str×Value)}:(A.under (.builtin "type.__call__" ⟨.ref C::us,kw⟩)).guards=A.guards:=by
 first|rfl|simp [Around.under,Code.isGuard,guardIds]
theorem Room.make {k:Nat}{A:Around}(r:Room (k+1) A) (C:Addr) (us:List Value) (kw:List (Str×Value)):Room k (A.under (.builtin "type.__call__" ⟨.ref C::us,kw⟩)) :=
 ⟨r.hd,by have:=r.dp;rw [vt];lia,by have:=r.un;rw [vv];lia,by rw [uV];exact r.gd⟩
theorem Room.depth {k:Nat}{A:Around}(r:Room k A):A.depth<recursionLimit:=by have:=r.dp;lia
theorem Room.units {k:Nat}{A:Around}(r:Room k A):A.units+64<cLine:=by have:=r.un;lia
def cY:TA:=λ_ H Q=>Q [] H
def ip (ta:TE) (tr:TA):TA:=λU H Q=>ta U H λx H1=>tr U H1 λxs H2=>Q (x::xs) H2
section
variable {X:Cx}{e:Expr}{es:List Expr}{te:TE}{t:TA}{pos:Pos}
theorem kX:PA X [] cY:=λ_ _ _ _ H Q I h=>Calls.spliced_nil ⟨[],H,I,.nil,h⟩
theorem kr (ha:PE X e te) (hr:PA X es t) (hs:starEach (e::es) X.env=(false,eval e X.env)::starEach es X.env:=by rfl):PA X (e::es) (ip te t):=by
 intro pos pins s U H Q I h
 rw [hs]
 show wpAny _ _ (spliced ((false,eval e X.env)::backTo pos (starEach es X.env))) _ _ s
 refine Calls.spliced_cons (thn (ha pins s U H _ I h) λu s1 zz28=>?_)
 obtain ⟨x,H1,I1,r1,q1⟩:=zz28
 exact thn (hr pos pins s1 U H1 _ I1 q1) λus s2 zz29=>by obtain ⟨xs,H2,I2,r2,q2⟩:=zz29;exact ⟨x::xs,H2,I2,.cons r1 r2,q2⟩
def Gc (t:TA):TE:=λU H Q=>t U H λxs H1=>xs.length<=sizeLine/\∀ p,H1 p=none->Q (.ref p) (upd H1 p (.tup xs))
def Gd (t:TA):TE:=λU H Q=>t U H λxs H1=>xs.length<=sizeLine/\∀ p,H1 p=none->Q (.ref p) (upd H1 p (.lst xs))
theorem BP {x1}(h:PA X es t):PE X (.Tuple es x1 pos) (Gc t):=by
 intro pins s U H Q I hq
 refine wpAny_Tuple_spliced (thn (h pos pins s U H _ I hq) λus s1 zy9=>?_)
 obtain ⟨xs,H1,I1,r,z,q⟩:=zy9
 refine ⟨by rw [<- r.length];exact z,?_⟩
 have hf:H1 s1.heap.objs.size=none:=I1.hok.fresh (NE _)
 refine ⟨.ref s1.heap.objs.size,upd H1 s1.heap.objs.size (.tup xs),I1.laid (t':=s1.toks) (λb u e=>NG _ e) (NE _) ?_,rfl,q _ hf⟩
 exact ⟨z,us,r,⟨_,NT _ rfl,rfl,_,rfl⟩⟩
theorem qp (h:PA X es t):PE X (.List es pos) (Gd t):=by
 intro pins s U H Q I hq
 refine wpAny_List_spliced (thn (h pos pins s U H _ I hq) λus s1 zy10=>?_)
 obtain ⟨xs,H1,I1,r,z,q⟩:=zy10
 refine ⟨by rw [<- r.length];exact z,?_⟩
 have hf:H1 s1.heap.objs.size=none:=I1.hok.fresh (NE _)
 refine ⟨.ref s1.heap.objs.size,upd H1 s1.heap.objs.size (.lst xs),I1.laid (t':=s1.toks) (λb u e=>NG _ e) (NE _) ?_,rfl,q _ hf⟩
 exact ⟨z,us,0,r,NT _ rfl⟩
end
abbrev Sp:=List V->Hp->VK->XK->Prop
abbrev CXT:=List Env->Hp->Shared->XK->Value->Shared->Prop
structure Env0 (P:Program) (w:World) (K:PySem.W.Frag) (mg:Str->Option Value) (base:Heap) (A:Around) (outer:List Env) (s:Shared) (H:Hp):Prop where
 frames:A.frames=some outer
 mod:Mod K mg base
 bs:∀ b o,base.get? b=some o->s.heap.get? b=some o/\H b=none
 bsz:base.objs.size<=s.heap.objs.size
 funs:s.heap.FunFrames base outer
 frf:∀ b∈frs outer,H b=none
 hok:HOk P w H s.heap
 bare:AllBare s.gens
def CE (outer:List Env) (P:Program) (w:World) (H:Hp) (s:Shared) (Q:VK) (u:Value) (s':Shared):Prop :=
 ∃ v H',s'.os=s.os/\AllBare s'.gens/\Un (frs outer) [] H H' s.heap s'.heap/\HOk P w H' s'.heap/\ak v u/\Q v H'
def CR (CX:CXT) (outer:List Env) (P:Program) (w:World) (H:Hp) (s:Shared) (Q:VK) (E:XK) (r:Result) (s':Shared):Prop :=
 match r with
 |.ok (.ret u)=>CE outer P w H s Q u s'
 |.ok _=>False
 |.error e=>CX outer H s E e s'
structure FnOk (P:Program) (w:World) (K:PySem.W.Frag) (mg:Str->Option Value) (base:Heap) (CX:CXT) (k:Nat) (f:Addr) (fd:FuncData) (ps:List Str) (sp:Sp):Prop where
 len:∀ vs H Q E,sp vs H Q E->vs.length=ps.length
 run:∀ (A:Around) (outer:List Env) (s:Shared) (H:Hp) (args:Args) (us:List Value) (vs:List V) (Q:VK) (E:XK),Room k A->Env0 P w K mg base A outer s H->BindsTo s fd args (ps.zip us)->aj vs us->sp vs H Q E ->
  codeAny (model P w) A (.call (.ref f) args) (CR CX outer P w H s Q E) s
theorem FnOk.mono {P:Program}{w:World}{K:PySem.W.Frag}{mg:Str->Option Value}{base:Heap}{CX:CXT}{j k:Nat}{f:Addr}{fd:FuncData}{ps:List Str}{sp:Sp}(F:FnOk P w K mg base CX j f fd ps sp) (h:j<=k) :
  FnOk P w K mg base CX k f fd ps sp:=⟨F.len,λA outer s H args us vs Q E hr=>F.run A outer s H args us vs Q E (hr.mono h)⟩
theorem FnOk.imp {P:Program}{w:World}{K:PySem.W.Frag}{mg:Str->Option Value}{base:Heap}{CX:CXT}{k:Nat}{f:Addr}{fd:FuncData}{ps:List Str}{sp sp':Sp}(F:FnOk P w K mg base CX k f fd ps sp)
  (h:∀ vs H Q E,sp' vs H Q E->sp vs H Q E):FnOk P w K mg base CX k f fd ps sp' :=
 ⟨λvs H Q E q=>F.len vs H Q E (h _ _ _ _ q),λA outer s H args us vs Q E hr he hb hv hs=>F.run A outer s H args us vs Q E hr he hb hv (h _ _ _ _ hs)⟩
theorem Env0.make {P:Program}{w:World}{K:PySem.W.Frag}{mg:Str->Option Value}{base:Heap}{A:Around}{outer:List Env}{s:Shared}{H:Hp}(e:Env0 P w K mg base A outer s H) (C:Addr) (us:List Value) (kw:List (Str×Value)) :
  Env0 P w K mg base (A.under (.builtin "type.__call__" ⟨.ref C::us,kw⟩)) outer s H:=⟨by first|exact e.frames|(simpa [Around.under,Code.envs,Code.isFrame,pushEnvs] using e.frames),e.mod,e.bs,e.bsz,e.funs,e.frf,e.hok,e.bare⟩
theorem Env0.in1 {P:Program}{w:World}{K:PySem.W.Frag}{mg:Str->Option Value}{base:Heap}{A:Around}{outer:List Env}{s:Shared}{H:Hp}(e:Env0 P w K mg base A outer s H) :
  Env0 P w K mg base A.in1 outer s H:=⟨e.frames,e.mod,e.bs,e.bsz,e.funs,e.frf,e.hok,e.bare⟩
section
variable {X:Cx}{pins:List (Addr×Obj)}{U:St}{H:Hp}{s s':Shared}
theorem Inv.env0 (I:Inv X pins U H s):Env0 X.prog X.w X.K X.mg X.base X.A X.stack s H :=
 ⟨I.ok.frames,I.ok.mod,I.bs,NZ I.ok.bsz I.sz,I.stack,I.stkFree,I.hok,I.bare⟩
theorem Inv.after {Q:VK}{u:Value}(I:Inv X pins U H s) (h:CE X.stack X.prog X.w H s Q u s'):EP X pins U Q u s':=by
 obtain ⟨v,H',os,bare,un,hok,r,q⟩:=h
 obtain ⟨hh,g,d,t,os'⟩:=s'
 obtain rfl:os'=s.os:=os
 exact ⟨v,H',I.call (h':=hh) (g':=g) (d':=d) (t':=t) (ch:=[]) un hok bare (λb z=>absurd z (by simp)),r,q⟩
end
def lZ (sp:Sp) (dvs:List V) (E:XK) (t:TA):TE:=λU H Q=>t U H λvs H1=>sp (vs++dvs) H1 Q E
def rY (C:Addr) (sp:Sp) (dvs:List V) (E:XK) (t:TA):TE:=λU H Q=>t U H λvs H1=>∀ x dx,H1 x=none->H1 dx=none->dx≠x ->
 sp (.ref x::(vs++dvs)) (upd (upd H1 dx (.own x)) x (.ins C dx [])) (λv H2=>v=.non/\Q (.ref x) H2) E
def ay (K:PySem.W.Frag) (fd:FuncData) (ps:List Str) (ds:List Value):Prop :=
 ∀ (s:Shared) (us:List Value),K.In s.heap->(us++ds).length=ps.length->BindsTo s fd ⟨us,[]⟩ (ps.zip (us++ds))
theorem ay.all {K:PySem.W.Frag}{fd:FuncData}{ps:List Str}(h:∀ us:List Value,us.length=ps.length->bindArgs fd ⟨us,[]⟩=pure (ps.zip us)):ay K fd ps []:=λs us _ hl=>by
 rw [N4] at hl ⊢
 exact .of_eq (h us hl)
def dG (CX:CXT) (X:Cx) (E:XK):Prop:=∀ (pins:List (Addr×Obj)) (U:St) (H:Hp) (s:Shared) (e:Value) (s':Shared),Inv X pins U H s->CX X.stack H s E e s'->X.xe e s'
section
variable {X:Cx}{CX:CXT}{k:Nat}{f C:Addr}{fd:FuncData}{ps:List Str}{sp:Sp}{dvs:List V}{ds:List Value}{E:XK}{x m:Str}{p pos apos:Pos}{e o:Expr}{es:List Expr}{ta:TE}{t:TA}
theorem kY {pins:List (Addr×Obj)}{U:St}{H:Hp}{s:Shared}{Q:VK}{us:List Value}{vs:List V}(F:FnOk X.prog X.w X.K X.mg X.base CX k f fd ps sp) (hr:Room k X.A) (hb:ay X.K fd ps ds) (hd:aj dvs ds) (hx:dG CX X E)
  (I:Inv X pins U H s) (r:aj vs us) (h:sp (vs++dvs) H Q E):wpAny (model X.prog X.w) X.A (call (.ref f) us) (EP X pins U Q) X.xe s:=by
 have r2:aj (vs++dvs) (us++ds):=r.append hd
 have hl:(us++ds).length=ps.length:=by rw [<- r2.length];exact F.len _ _ _ _ h
 refine Sl (RE (F.run X.A X.stack s H ⟨us,[]⟩ (us++ds) (vs++dvs) Q E hr I.env0 (hb s us I.kIn hl) r2 h) λr s' hq=>?_)
 cases r with
 |error e=>exact hx pins U H s e s' I hq
 |ok fl =>
  cases fl with
  |ret u=>exact I.after hq
  |next=>exact False.elim hq
  |brk=>exact False.elim hq
  |cont=>exact False.elim hq
theorem zc (F:FnOk X.prog X.w X.K X.mg X.base CX k f fd ps sp) (hr:Room k X.A) (hg:Gl X x) (hm:X.mg x=some (.ref f)) (hk:PySem.W.keepIn X.K (.ref f)=true) (hb:ay X.K fd ps ds) (hd:aj dvs ds) (hx:dG CX X E)
  (ha:PA X (e::es) t) (JH:(x==("__debug__":Str))=false:=by decide) (he:starEach (e::es) X.env=(false,eval e X.env)::starEach es X.env:=by rfl) (JN:(backTo pos (starEach es X.env)).any (·.1)=false:=by rfl) :
  PE X (.Call (.Name x p) (e::es) [] pos) (lZ sp dvs E t):=by
 intro pins s U H Q I h
 refine P8 (kq I hg hm ?_ JH)
 refine PySem.W.callWith_K (h₀:=X.base) I.ok.mod.kin hk (thn (ha pos pins s U H _ I h) λus s1 zy11=>?_) he JN
 obtain ⟨vs,H1,I1,r,q⟩:=zy11
 refine ⟨I1.kIn,?_⟩
 exact kY F hr hb hd hx I1 r q
structure Mk (K:PySem.W.Frag) (C f:Addr):Prop where
 makes:PySem.W.makesIn K C=true
 init:PySem.W.findIn K (.ref C) "__init__"=some (some (.ref f))
 fn:PySem.W.isFn K (.ref f)=true
 kp:PySem.W.keepIn K (.ref C)=true
theorem xw {pins:List (Addr×Obj)}{U:St}{H:Hp}{s:Shared}{Q:VK}{us:List Value}{vs:List V}(M:Mk X.K C f) (F:FnOk X.prog X.w X.K X.mg X.base CX k f fd ps sp) (hr:Room (k+1) X.A) (hb:ay X.K fd ps ds) (hd:aj dvs ds)
  (hx:dG CX X E) (I:Inv X pins U H s) (r:aj vs us)
  (h:∀ x dx,H x=none->H dx=none->dx≠x->sp (.ref x::(vs++dvs)) (upd (upd H dx (.own x)) x (.ins C dx [])) (λv H2=>v=.non/\Q (.ref x) H2) E) :
  wpAny (model X.prog X.w) X.A (call (.ref C) us) (EP X pins U Q) X.xe s:=by
 have hq:=h (s.heap.objs.size+1) s.heap.objs.size (I.hok.fresh (Pj _)) (I.hok.fresh (NE _)) (N6 (Rf _))
 have I2:=Inv.made (C:=C) I
 have r2:aj (V.ref (s.heap.objs.size+1)::(vs++dvs)) (Value.ref (s.heap.objs.size+1)::(us++ds)):=.cons rfl (r.append hd)
 have hl:(Value.ref (s.heap.objs.size+1)::us++ds).length=ps.length:=by
  have e:=r2.length
  rw [F.len _ _ _ _ hq] at e
  exact e.symm
 refine Sl (xv (f:=f) I.kIn M.makes M.init (Pb.mp M.fn) (RE (F.run _ X.stack _ _ ⟨Value.ref (s.heap.objs.size+1)::us,[]⟩ (Value.ref (s.heap.objs.size+1)::(us++ds)) _ _ E (hr.make C us [])
  (I2.env0.make C us []) (hb _ (Value.ref (s.heap.objs.size+1)::us) I2.kIn hl) r2 hq) λr s' hq'=>?_))
 cases r with
 |error e=>exact hx pins U _ _ e s' I2 hq'
 |ok fl =>
  cases fl with
  |ret u =>
   obtain ⟨v,H',I3,rv,ev,q3⟩:=I2.after hq'
   subst ev
   exact ⟨rv,⟨V.ref (s.heap.objs.size+1),H',I3,rfl,q3⟩⟩
  |next=>exact False.elim hq'
  |brk=>exact False.elim hq'
  |cont=>exact False.elim hq'
theorem xx (M:Mk X.K C f) (F:FnOk X.prog X.w X.K X.mg X.base CX k f fd ps sp) (hr:Room (k+1) X.A) (hg:Gl X x) (hm:X.mg x=some (.ref C)) (hb:ay X.K fd ps ds) (hd:aj dvs ds) (hx:dG CX X E)
  (JH:(x==("__debug__":Str))=false:=by decide):PE X (.Call (.Name x p) [] [] pos) (rY C sp dvs E cY):=by
 intro pins s U H Q I h
 refine P8 (kq I hg hm ?_ JH)
 exact PySem.W.callWith_K0 I.kIn M.kp (xw (us:=[]) M F hr hb hd hx I .nil h)
end
def PK (X:Cx) (LR:List Keyword) (t:TA):Prop :=
 ∀ (pos:Pos) (pins:List (Addr×Obj)) (s:Shared) (U:St) (H:Hp) (Q:List V->Hp->Prop),Inv X pins U H s->t U H Q->wpAny (model X.prog X.w) X.A (evalAll ((backToKw pos (keywordEach LR X.env)).map (·.2))) (AP X pins U Q) X.xe s
section
variable {X:Cx}{CX:CXT}{k:Nat}{f C:Addr}{fd:FuncData}{ps ks:List Str}{sp:Sp}{E:XK}{x m:Str}{p pos apos JO:Pos}{e o:Expr}{es:List Expr}{LR:List Keyword}{te ta:TE}{t tk:TA}{nm:Option Str}
theorem qq:PK X [] cY:=λ_ _ _ _ H Q I h=>wpAny_evalAll_nil ⟨[],H,I,.nil,h⟩
theorem pA (ha:PE X e te) (hr:PK X LR t):PK X (⟨nm,e,JO⟩::LR) (ip te t):=by
 intro pos pins s U H Q I h
 show wpAny _ _ (evalAll ((do let v <- eval e X.env;standAt pos;pure v)::(backToKw pos (keywordEach LR X.env)).map (·.2))) _ _ s
 refine wpAny_evalAll_cons (Ny (thn (ha pins s U H _ I h) λu s1 zz30=>?_))
 obtain ⟨x,H1,I1,r1,q1⟩:=zz30
 refine Ny (Qx (NP ?_))
 exact thn (hr pos pins s1 U H1 _ I1 q1) λus s2 zz31=>by obtain ⟨xs,H2,I2,r2,q2⟩:=zz31;exact ⟨x::xs,H2,I2,.cons r1 r2,q2⟩
structure KBinds (K:PySem.W.Frag) (fd:FuncData) (ps ks:List Str) (g:List Value->List Value->List Value) (gV:List V->List V->List V):Prop where
 to:∀ (s:Shared) (us ws:List Value),K.In s.heap->(g us ws).length=ps.length->BindsTo s fd ⟨us,ks.zip ws⟩ (ps.zip (g us ws))
 rel:∀ {vs:List V}{us:List Value}{zs:List V}{ws:List Value},aj vs us->aj zs ws->aj (gV vs zs) (g us ws)
variable {g:List Value->List Value->List Value}{gV:List V->List V->List V}
end
structure FnScope (N P:List Str) (sc:Scope):Prop where
 kind:sc.kind=.function
 co:sc.isCoroutine=false
 gen:sc.isGenerator=false
 nd:N.Nodup
 pre:N.take P.length=P
 par:∀ x∈P,sc.names.lookup x=some .local\/sc.names.lookup x=some .cell
 nofree:∀ y∈sc.names,y.2≠.free
theorem nD {kindOf:Str->Option NameKind}{x:Str}:∀ {binds:List (Str×Value)}{m:Str->Option Value},(∀ v,(x,v)∉binds)->bindL kindOf binds m x=m x
 |[],_,_=>rfl
 |(n,v)::r,m,h=>by
  unfold bindL
  rw [nD λw hw=>h w (NQ _ hw)]
  split
  ·have:x≠n:=by rintro rfl;exact h v NM
   simp [this]
  ·rfl
theorem nE {kindOf:Str->Option NameKind}{x:Str}:∀ {binds:List (Str×Value)}{m:Str->Option Value},(∀ v,(x,v)∉binds)->bindC kindOf binds m x=m x
 |[],_,_=>rfl
 |(n,v)::r,m,h=>by
  unfold bindC
  rw [nE λw hw=>h w (NQ _ hw)]
  split
  ·rfl
  ·have:x≠n:=by rintro rfl;exact h v NM
   simp [this]
theorem nF {kindOf:Str->Option NameKind}{x:Str}{v:Value}:∀ {P:List Str}{vs:List Value}{i:Nat}{m:Str->Option Value},P.Nodup->P[i]?=some x->vs[i]?=some v->kindOf x=some .local ->
  bindL kindOf (P.zip vs) m x=some v
 |[],_,_,_,_,h,_,_=>by simp at h
 |_::_,[],_,_,_,_,h,_=>by simp at h
 |p::P,w::vs,0,m,nd,h1,h2,hk=>by
  simp at h1 h2;subst h1;subst h2
  show bindL kindOf ((p,w)::P.zip vs) m p=_
  unfold bindL
  rw [nD λv hv=>(Ov.mp nd).1 (P9 hv).1,NC hk]
  simp
 |p::P,w::vs,i+1,m,nd,h1,h2,hk=>by
  show bindL kindOf ((p,w)::P.zip vs) m x=_
  unfold bindL
  exact nF (i:=i) (Ov.mp nd).2 (by simpa using h1) (by simpa using h2) hk
theorem nG {kindOf:Str->Option NameKind}{x:Str}{v:Value}:∀ {P:List Str}{vs:List Value}{i:Nat}{m:Str->Option Value},P.Nodup->P[i]?=some x->vs[i]?=some v->kindOf x≠some .local ->
  bindC kindOf (P.zip vs) m x=some v
 |[],_,_,_,_,h,_,_=>by simp at h
 |_::_,[],_,_,_,_,h,_=>by simp at h
 |p::P,w::vs,0,m,nd,h1,h2,hk=>by
  simp at h1 h2;subst h1;subst h2
  show bindC kindOf ((p,w)::P.zip vs) m p=_
  unfold bindC
  rw [nE λv hv=>(Ov.mp nd).1 (P9 hv).1,NB hk]
  simp
 |p::P,w::vs,i+1,m,nd,h1,h2,hk=>by
  show bindC kindOf ((p,w)::P.zip vs) m x=_
  unfold bindC
  exact nG (i:=i) (Ov.mp nd).2 (by simpa using h1) (by simpa using h2) hk
noncomputable def cj (N:List Str) (vs:List V):St:=vs.map some++List.replicate (N.length - vs.length) none
noncomputable def dh (CX:CXT) (P:Program) (w:World) (K:PySem.W.Frag) (mg:Str->Option Value) (base:Heap) (N:List Str) (qual:Str) (scope:Scope) (f:Addr) (cd:Value) (A:Around) (outer:List Env) (s:Shared) (H:Hp) (E:XK):Cx where
 prog:=P
 w:=w
 K:=K
 mg:=mg
 base:=base
 A:=A.deeper (envOfC qual scope s.heap.objs.size f cd)
 N:=N
 s₀:=s
 H₀:=H
 env:=envOfC qual scope s.heap.objs.size f cd
 outer:=outer
 stack:=envOfC qual scope s.heap.objs.size f cd::outer
 ex:=[]
 calm:=true
 fn:=λ_=>true
 pn:=[]
 xe:=λe s'=>wpAny (model P w) (A.deeper (envOfC qual scope s.heap.objs.size f cd)) (leaving (envOfC qual scope s.heap.objs.size f cd) e) (λ_ s''=>CX outer H s E e s'') (λe' s''=>CX outer H s E e' s'') s'
theorem om {sc:Scope}{n:Nat}{x:Str}(h:sc.names.lookup x=some .cell):∃ c,(cellsFrom n sc.names []).lookup x=some c:=by
 have q:=PySem.W.cellsFrom_some sc.names n [] (.inl h)
 exact Option.isSome_iff_exists.mp q
theorem v1 {CX:CXT}{P:Program}{w:World}{K:PySem.W.Frag}{mg:Str->Option Value}{base:Heap}{N ps:List Str}{qual:Str}{scope:Scope}{f:Addr}{cd:Value}{A:Around}{outer:List Env}{s s1:Shared}{H:Hp}{E:XK}{us:List Value}{vs:List V}
  (S:FnScope N ps scope) (hd:A.handled=none) (e0:Env0 P w K mg base A outer s H) (hl:vs.length=ps.length) (r:aj vs us)
  (x:InCallC s s.heap.objs.size (bindL (envOfC qual scope s.heap.objs.size f cd).kindOf (ps.zip us) λ_=>none) (cellsFrom (s.heap.objs.size+1) scope.names []) (bindC (envOfC qual scope s.heap.objs.size f cd).kindOf (ps.zip us) λ_=>none) s1) :
  Inv (dh CX P w K mg base N qual scope f cd A outer s H E) [] (cj N vs) H s1:=by
 have JN:ps.length<=N.length:=by have:=Ow List.length S.pre;rw [Of] at this;lia
 obtain ⟨h1,tk,rfl,hk⟩:=x.done
 have noA:∀ b:Addr,b∉(dh CX P w K mg base N qual scope f cd A outer s H E).ex:=λb z=>absurd (show b∈([]:List Addr) from z) (by simp)
 refine ⟨⟨e0.mod,S.kind,rfl,rfl,NE _,λy z c h1 h2=>?_,λy hy=>?_,λy c _ h=>?_,λ_=>hd,Around.frames_deeper e0.frames,.inr ⟨rfl,rfl⟩,λb z=>absurd z (noA b),e0.bs,e0.bsz,λb _ _=>noA b,λb z=>absurd z (noA b),e0.funs,e0.frf⟩,
  rfl,e0.bare,Un.kept hk,⟨_,x.toInCall.ns,λi y v h1 h2 h3=>?_⟩,λy c h=>⟨_,x.cell y c h⟩,e0.hok.fresh (NE _),λy c h=>?_,λp hp=>absurd (show p∈([]:List (Addr×Obj)) from hp) (by simp),e0.hok.kept hk,?_⟩
 ·exact name_of_addr x.apart (PySem.mem_of_lookup h1) (PySem.mem_of_lookup h2)
 ·have hy:scope.names.lookup y=some .cell\/scope.names.lookup y=some .free:=hy
  rcases hy with hy|hy
  ·exact om hy
  ·exact absurd rfl (S.nofree _ (PySem.mem_of_lookup hy))
 ·exact Oo (x.above y c (PySem.mem_of_lookup h))
 ·have hi:i<vs.length:=by
   unfold cj at h2
   by_cases hi:i<vs.length
   ·exact hi
   ·rw [OZ (by simpa using hi)] at h2
    rw [Q3] at h2
    split at h2<;>cases h2
  have ha:vs[i]?=some v:=by
   unfold cj at h2
   rw [OC (by simpa using hi),O5] at h2
   cases e:vs[i]? with
   |none=>rw [e] at h2;cases h2
   |some a=>rw [e] at h2;cases h2;rfl
  obtain ⟨u,hu,rv⟩:=r.get ha
  have hp:ps[i]?=some y:=by
   rw [<- S.pre,P0 (by lia)];exact h1
  have ndP:ps.Nodup:=by rw [<- S.pre];exact S.nd.sublist (Po _ _)
  refine ⟨u,rv,?_⟩
  rcases S.par y (PV hp) with k|k
  ·exact .inl ⟨k,nF ndP hp hu k⟩
  ·obtain ⟨c,e⟩:=om (n:=s.heap.objs.size+1) k
   refine .inr ⟨.inl k,c,e,?_⟩
   have q:=x.cell y c e
   rw [nG ndP hp hu (by show scope.names.lookup y≠_;rw [k];decide)] at q
   exact q
 ·exact e0.hok.fresh (Oo (x.above y c (PySem.mem_of_lookup h)))
 ·unfold cj
  show _=N.length
  rw [NJ,Nz,Rn]
  lia
theorem rZ {CX:CXT}{P:Program}{w:World}{K:PySem.W.Frag}{mg:Str->Option Value}{base:Heap}{k:Nat}{f:Addr}{name qual:Str}{params:Arguments}{body:List Stmt}{scope:Scope}{dV kV doc pm cdv ct oc:Value}{an od:Option Addr}
  {osl:Array (Option Value)}{N ps:List Str}{sp:Sp}(lk:K.lookup f=some ⟨oc,od,.func (PySem.W.fnOf name qual params body scope dV kV doc pm an cdv ct),osl⟩) (Ly:PySem.W.codeIn K cdv qual=true) (S:FnScope N ps scope)
  (len:∀ vs H Q E,sp vs H Q E->vs.length=ps.length)
  (JP:∀ (A:Around) (outer:List Env) (s:Shared) (H:Hp) (vs:List V) (Q:VK) (E:XK),Room k (A.deeper (envOfC qual scope s.heap.objs.size f cdv))->sp vs H Q E ->
   ∃ t,PSs (dh CX P w K mg base N qual scope f cdv A outer s H E) body t/\t { nx:=λ_ H'=>Q .non H',rt:=Q } (cj N vs) H) :
  FnOk P w K mg base CX (k+1) f (PySem.W.fnOf name qual params body scope dV kV doc pm an cdv ct) ps sp:=by
 refine ⟨len,λA outer s H args us vs Q E hr e0 hb r MF=>?_⟩
 have hl:=len _ _ _ _ MF
 have KX:K.In s.heap:=e0.mod.kin.keeps λb o e=>(e0.bs b o e).1
 have lim:s.heap.NoLimit:=e0.mod.nolimit.keeps λb o e=>(e0.bs b o e).1
 have hkind:∀ y∈ps.zip us,scope.names.lookup y.1=some .local\/(scope.names.lookup y.1=some .cell/\((cellsFrom (s.heap.objs.size+1) scope.names []).lookup y.1).isSome=true):=λzz32 hy=>by
  obtain ⟨n,v⟩:=zz32
  rcases S.par n (P9 hy).1 with q|q
  ·exact .inl q
  ·exact .inr ⟨q,PySem.W.cellsFrom_some _ _ _ (.inl q)⟩
 refine codeAny_call_function hr.depth (KX _ _ lk) rfl S.co S.gen rfl (PySem.W.codeRec_of KX Ly) (hb _ _ _ _ ?_)
 refine wpAny_newFunctionEnv_cells S.kind hkind λenv he s1 x=>?_
 subst he
 refine ⟨lim.keeps x.toInCall.keep,codeAny_func ?_⟩
 obtain ⟨t,ht,hq⟩:=JP A outer s H vs Q E (hr.deeper _) MF
 have I:Inv (dh CX P w K mg base N qual scope f cdv A outer s H E) [] (cj N vs) H s1:=v1 S hr.hd e0 hl r x
 refine OX (ht [] s1 (cj N vs) H _ I hq) (λfl s' hs=>?_) λe s' hs=>hs
 have fin:∀ {HD:St}{H':Hp}{v:V}{u:Value},Inv (dh CX P w K mg base N qual scope f cdv A outer s H E) [] HD H' s'->ak v u->Q v H'->CE outer P w H s Q u s' :=
  fun {HD H' v u} J rv q=>⟨v,H',J.os,J.bare,J.base,J.hok,rv,q⟩
 cases fl with
 |ret u =>
  obtain ⟨v,HD,H',J,rv,q⟩:=hs
  exact fin J rv q
 |next =>
  obtain ⟨HD,H',J,q⟩:=hs
  exact fin (v:=V.non) (u:=Value.none) J rfl q
 |brk =>
  obtain ⟨_,_,_,q⟩:=hs
  exact False.elim q
 |cont =>
  obtain ⟨_,_,_,q⟩:=hs
  exact False.elim q
section
variable {X:Cx}{x:Str}{p pos:Pos}{e:Expr}{es:List Expr}{t:TA}{id T:String}{r:List V->Hp->VK->Prop}
def tCB (r:List V->Hp->VK->Prop) (t:TA):TE:=λU H Q=>t U H λvs H1=>r vs H1 Q
theorem xy (hc:a0 X (.builtin id) r) (hg:Gl X x) (hm:X.mg x=none) (hv:bootBuiltins x=some (.builtin id)) (ha:PA X (e::es) t) (hn:x ≠ "__name__":=by decide) (JH:(x==("__debug__":Str))=false:=by decide)
  (he:starEach (e::es) X.env=(false,eval e X.env)::starEach es X.env:=by rfl) (JN:(backTo pos (starEach es X.env)).any (·.1)=false:=by rfl):PE X (.Call (.Name x p) (e::es) [] pos) (tCB r t):=by
 intro pins s U H Q I h
 refine P8 (ee I hg hm hv ?_ hn JH)
 exact PyProof.Rows.callWith_builtin1 (thn (ha pos pins s U H _ I h) λus s1 zz33=>by obtain ⟨vs,H1,I1,r1,q1⟩:=zz33;exact hc pins s1 U H1 vs us Q I1 r1 q1) he JN
theorem v3 (hc:a0 X (.type T) r) (hg:Gl X x) (hm:X.mg x=none) (hv:bootBuiltins x=some (.type T)) (ha:PA X (e::es) t) (hn:x ≠ "__name__":=by decide) (JH:(x==("__debug__":Str))=false:=by decide)
  (he:starEach (e::es) X.env=(false,eval e X.env)::starEach es X.env:=by rfl) (JN:(backTo pos (starEach es X.env)).any (·.1)=false:=by rfl):PE X (.Call (.Name x p) (e::es) [] pos) (tCB r t):=by
 intro pins s U H Q I h
 refine P8 (ee I hg hm hv ?_ hn JH)
 exact Qm (thn (ha pos pins s U H _ I h) λus s1 zz34=>by obtain ⟨vs,H1,I1,r1,q1⟩:=zz34;exact hc pins s1 U H1 vs us Q I1 r1 q1) he JN
end
end L2
namespace HT
open PySem PyProof.Rows
section
open PySem.SeqAt
open PySem.AutoSeq1 (wpAny_loadPart')
open PySem.MeetsSeq PySem.MeetsSeq2 PySem.MeetsSeq3
end
section
variable {prog:Program}{w:World}{A:Around}{E:Value->Shared->Prop}{s:Shared}
noncomputable def sIx (n d:Nat):Option Int->Nat
 |none=>d
 |some v=>if v<0 then (v+(n:Int)).toNat else min v.toNat n
theorem sIx_none (n d:Nat):sIx n d none=d:=rfl
theorem sIx_nat (n d k:Nat):sIx n d (some (k:Int))=min k n:=by
 show (if (k:Int)<0 then ((k:Int)+(n:Int)).toNat else min (k:Int).toNat n)=min k n
 rw [NB (by lia),Int.toNat_natCast]
end
end HT
namespace L2
open PySem PySem.Spec PyProof.Rows
abbrev TO:=St->Hp->(Option Int->Hp->Prop)->Prop
def PO (X:Cx) (e:Option Expr) (t:TO):Prop :=
 ∀ (pins:List (Addr×Obj)) (s:Shared) (U:St) (H:Hp) (Q:Option Int->Hp->Prop),Inv X pins U H s->t U H Q ->
  wpAny (model X.prog X.w) X.A (evalPart e X.env) (λu s'=>∃ o H',Inv X pins U H' s'/\IsPart u o/\Q o H') X.xe s
def zd:TO:=λ_ H Q=>Q none H
def DZ (t:TE):TO:=λU H Q=>t U H λx H1=>∃ i,x=.int i/\Q (some i) H1
section
variable {X:Cx}{e:Expr}{te:TE}{lo hi:Option Expr}{tl th:TO}{pos p2:Pos}
theorem zh:PO X none zd:=by
 intro pins s U H Q I h
 rw [evalPart_none]
 exact NP ⟨none,H,I,.none,h⟩
theorem zi (h:PE X e te):PO X (some e) (DZ te):=by
 intro pins s U H Q I hw
 rw [evalPart_some]
 refine thn (h pins s U H _ I hw) λu s1 zz35=>?_
 obtain ⟨x,H1,I1,r1,q1⟩:=zz35
 obtain ⟨i,rfl,q⟩:=q1
 obtain ⟨t,rfl⟩:=r1
 exact ⟨some i,H1,I1,.int i t,q⟩
def SlR (X:Cx) (r:V->Option Int->Option Int->Hp->VK->Prop):Prop :=
 ∀ (pins:List (Addr×Obj)) (s:Shared) (U:St) (H:Hp) (x:V) (v vl vu:Value) (lo hi:Option Int) (sl:Addr) (Q:VK),Inv X pins U H s->ak x v->s.heap.IsSliceOf sl vl vu .none->IsPart vl lo->IsPart vu hi->r x lo hi H Q ->
  ∃ T id,typeLookup (.type T) "__getitem__"=pure (some (.builtin id))/\s.TypeIs v T/\wpAny (model X.prog X.w) X.A (getItem v (.ref sl)) (EP X pins U Q) X.xe s
def tSl (r:V->Option Int->Option Int->Hp->VK->Prop) (te:TE) (tl th:TO):TE:=λU H Q=>te U H λx H1=>tl U H1 λl H2=>th U H2 λu H3=>r x l u H3 Q
theorem xz {r:V->Option Int->Option Int->Hp->VK->Prop}(hr:SlR X r) (he:PE X e te) (hl:PO X lo tl) (hu:PO X hi th):PE X (.Subscript e (.Slice lo hi none p2) pos) (tSl r te tl th):=by
 intro pins s U H Q I h
 refine Subscript_ (thn (he pins s U H _ I h) λv s1 zz36=>?_)
 obtain ⟨x,H1,I1,r1,q1⟩:=zz36
 refine wpAny_Slice (thn (hl pins s1 U H1 _ I1 q1) λvl s2 zz37=>?_)
 obtain ⟨l,H2,I2,pl,q2⟩:=zz37
 refine thn (hu pins s2 U H2 _ I2 q2) λvu s3 zz38=>?_
 obtain ⟨u,H3,I3,pu,q3⟩:=zz38
 rw [evalPart_none]
 refine NP ?_
 have I4:Inv X pins U H3 { s3 with heap:=s3.heap.push { cls:=.type "slice",data:=.fields #[vl,vu,.none] } }:=I3.kept (t':=s3.toks) λb ob q=>NG _ q
 obtain ⟨T,id,hT,ht,hg⟩:=hr pins { s3 with heap:=s3.heap.push { cls:=.type "slice",data:=.fields #[vl,vu,.none] } } U H3 x v vl vu l u s3.heap.objs.size Q I4 r1 (Heap.IsSliceOf.new ..) pl pu q3
 show wpAny (model X.prog X.w) X.A (subscriptTail e (.Slice lo hi none p2) v (.ref s3.heap.objs.size)) (EP X pins U Q) X.xe { s3 with heap:=s3.heap.push { cls:=.type "slice",data:=.fields #[vl,vu,.none] } }
 exact tail_any (ops:=[.ref s3.heap.objs.size,v]) ht hT hg (by with_unfolding_all rfl)
def eV (xs:List V) (lo hi:Option Int):List V:=(xs.drop (HT.sIx xs.length 0 lo)).take (HT.sIx xs.length xs.length hi - HT.sIx xs.length 0 lo)
theorem uW (xs:List V) (lo hi:Option Int):(eV xs lo hi).length<=xs.length:=by
 unfold eV
 rw [Of,P1]
 lia
end
noncomputable def ixN (n:Nat) (i:Int):Option Nat:=if 0<=i then (if i<n then some i.toNat else none) else if -(n:Int)<=i then some (i+n).toNat else none
def atI {α:Type}(xs:List α) (i:Int):Option α:=(ixN xs.length i).bind λj=>xs[j]?
theorem pB {n:Nat}{i:Int}{j:Nat}(h:ixN n i=some j):seqIndex? i n=some j/\j<n /\ -(n:Int)<=i/\i<n:=by
 unfold ixN at h
 by_cases h0:0<=i
 ·rw [NC h0] at h
  by_cases h1:i<n
  ·rw [NC h1] at h
   have e:i.toNat=j:=Option.some.inj h
   exact ⟨by rw [seqIndex_of h0 h1,e],by lia,by lia,h1⟩
  ·rw [NB h1] at h;cases h
 ·rw [NB h0] at h
  by_cases h1:-(n:Int)<=i
  ·rw [NC h1] at h
   have e:(i+n).toNat=j:=Option.some.inj h
   exact ⟨by rw [seqIndex_neg (by lia) h1,e],by lia,h1,by lia⟩
  ·rw [NB h1] at h;cases h
theorem kA {α:Type}{xs:List α}{i:Int}{v:α}(h:atI xs i=some v):∃ j,seqIndex? i xs.length=some j/\xs[j]?=some v/\j<xs.length /\ -(xs.length:Int)<=i/\i<xs.length:=by
 unfold atI at h
 cases e:ixN xs.length i with
 |none=>rw [e] at h;cases h
 |some j =>
  rw [e] at h
  obtain ⟨h1,h2,h3,h4⟩:=pB e
  exact ⟨j,h1,h,h2,h3,h4⟩
theorem zj {α:Type}{xs:List α}{j:Nat}{v:α}(h:xs[j]?=some v):atI xs (j:Int)=some v:=by
 have hj:j<xs.length:=(Oa.mp h).1
 have e:ixN xs.length (j:Int)=some j:=by
  unfold ixN
  rw [NC (by lia),NC (by lia)];simp
 unfold atI;rw [e];exact h
def kB (b:Expr):Prop:=∀ o i,subscripted b false o i=operate [o,i] (getItem o i)
def IxR (X:Cx) (r:R2):Prop :=
 ∀ (value slice:Expr) (pins:List (Addr×Obj)) (s:Shared) (U:St) (H:Hp) (x y:V) (v u:Value) (Q:VK),Inv X pins U H s->ak x v->ak y u->r x y H Q ->
  subscripted slice false v u=operate [v,u] (getItem v u)->wpAny (model X.prog X.w) X.A (subscriptTail value slice v u) (EP X pins U Q) X.xe s
def MtR (X:Cx) (id:String) (r:V->List V->Hp->VK->Prop):Prop :=
 ∀ (pins:List (Addr×Obj)) (s:Shared) (U:St) (H:Hp) (x:V) (xs:List V) (v:Value) (us:List Value) (Q:VK),Inv X pins U H s->ak x v->aj xs us->r x xs H Q ->
  wpAny (model X.prog X.w) X.A (call (.builtin id) (v::us)) (EP X pins U Q) X.xe s
section
variable {X:Cx}{a b:Expr}{ta tb:TE}{pos:Pos}
theorem D0 {r:R2}(hr:IxR X r) (ha:PE X a ta) (hb:PE X b tb) (hs:kB b):PE X (.Subscript a b pos) (tOp r ta tb):=by
 intro pins s U H Q I h
 exact Subscript_ (mG ha hb I h λv u s2 x y H2 I2 rx ry q=>hr a b pins s2 U H2 x y v u Q I2 rx ry q (hs _ _))
def Ge (K:PySem.W.Frag):R2:=λx y H Q=>∃ p xs i v,x=.ref p/\y=.int i/\SqL K H p xs/\atI xs i=some v/\Q v H
def Gf (K:PySem.W.Frag):R2:=λx y H Q=>∃ p xs i v,x=.ref p/\y=.int i/\SqT K H p xs/\atI xs i=some v/\Q v H
def Gg:R2:=λx y H Q=>∃ z i c,x=.str z/\y=.int i/\z.length<=sizeLine/\atI z.cps.toList i=some c/\Q (.str ⟨#[c]⟩) H
theorem zl:IxR X (Ge X.K):=by
 intro value slice pins s U H x y v u Q I rx ry h hs
 obtain ⟨p,xs,i,z,rfl,rfl,hq,he,q⟩:=h
 cases rx
 obtain ⟨t,rfl⟩:=ry
 obtain ⟨its,r,pl,hz⟩:=I.list hq
 obtain ⟨j,h1,h2,h3,h4,h5⟩:=kA he
 obtain ⟨w,ew,K3⟩:=r.get h2
 have hl:=r.length
 have hn:=dF
 have fin:EP X pins U Q w s:=⟨z,H,I,K3,q⟩
 by_cases h0:0<=i
 ·have hj:i.toNat=j:=by
   rw [seqIndex_of h0 h5] at h1
   exact Option.some.inj h1
  exact item_listR pl.isList h0 (by lia) (by rw [hj];simpa using ew) fin hs
 ·have hj:(i+(its.toArray.size:Int)).toNat=j:=by
   rw [seqIndex_neg (by lia) h4] at h1
   rw [NW,<- hl]
   exact Option.some.inj h1
  exact subscriptTail_builtinR (x:=w) pl.isList.typeIs slot_list_getitem.lookup
   (wpAny_getItem_list_neg (Q:=λr s'=>r=w/\EP X pins U Q r s') pl.isList (by lia) (by rw [NW]<;>lia) (by lia) (by rw [hj];simpa using ew) ⟨rfl,fin⟩) hs
theorem BQ:IxR X (Gf X.K):=by
 intro value slice pins s U H x y v u Q I rx ry h hs
 obtain ⟨p,xs,i,z,rfl,rfl,hq,he,q⟩:=h
 cases rx
 obtain ⟨t,rfl⟩:=ry
 obtain ⟨its,r,pl,hz⟩:=I.tuple hq
 obtain ⟨j,h1,h2,h3,h4,h5⟩:=kA he
 obtain ⟨w,ew,K3⟩:=r.get h2
 have hl:=r.length
 have hn:=dF
 have fin:EP X pins U Q w s:=⟨z,H,I,K3,q⟩
 exact subscriptTail_builtinR (x:=w) pl.typeIs slot_tuple_getitem.lookup
  (getItem_tuple (j:=j) (Q:=λr s'=>r=w/\EP X pins U Q r s') pl (by lia) (by lia) (by rw [NW,<- hl];exact h1) (by simpa using ew) ⟨rfl,fin⟩) hs
theorem BR:IxR X Gg:=by
 intro value slice pins s U H x y v u Q I rx ry h hs
 obtain ⟨z,i,c,rfl,rfl,hz,he,q⟩:=h
 obtain ⟨t,rfl⟩:=rx
 obtain ⟨t',rfl⟩:=ry
 obtain ⟨j,h1,h2,h3,h4,h5⟩:=kA he
 have hl:z.cps.toList.length=z.length:=by simp [Str.length]
 rw [hl] at h1 h4 h5
 have hn:=dF
 exact tail_any (Qq s z t) slot_str_getitem.lookup (getItem_str (c:=c) (by
  have e1:decide (i < -(2 ^ 63:Int))=false:=NS (by lia)
  have e2:decide (i≥2 ^ 63)=false:=NS (by lia)
  rw [e1,e2,Bool.or_false]) (by rw [h1];simpa using h2) ⟨.str ⟨#[c]⟩,H,I.tok _,⟨_,rfl⟩,q⟩) hs
theorem vw (its:List Value) (n j:Nat) (u:Value):Obj.mapSeq (·.setIfInBounds j u) { cls:=.type "list",data:=.seq its.toArray n }={ cls:=.type "list",data:=.seq (its.set j u).toArray n }:=by
 simp [Obj.mapSeq]
theorem Inv.lst {pins:List (Addr×Obj)}{U:St}{H:Hp}{s:Shared}{p:Addr}{xs:List V}(I:Inv X pins U H s) (h:H p=some (.lst xs)) :
  ∃ (its:List Value) (n:Nat),aj xs its/\s.heap.get? p=some { cls:=.type "list",data:=.seq its.toArray n }/\xs.length<=sizeLine:=by
 obtain ⟨z,its,n,r,e⟩:=I.hok p _ h
 exact ⟨its,n,r,e,z⟩
theorem Inv.lstUpd {pins:List (Addr×Obj)}{U:St}{H:Hp}{s:Shared}{p:Addr}{xs ys:List V}{its its':List Value}{n n':Nat}{f:Obj->Obj}(I:Inv X pins U H s) (h:H p=some (.lst xs))
  (ho:s.heap.get? p=some { cls:=.type "list",data:=.seq its.toArray n }) (hf:f { cls:=.type "list",data:=.seq its.toArray n }={ cls:=.type "list",data:=.seq its'.toArray n' }) (r:aj ys its') (hz:ys.length<=sizeLine) (t:Nat) :
  Inv X pins U (upd H p (.lst ys)) { s with heap:=s.heap.update p f,toks:=t }:=by
 have e:(s.heap.update p f).get? p=some { cls:=.type "list",data:=.seq its'.toArray n' }:=by
  rw [Qi f ho (by rw [hf]<;>rfl),hf]
 refine I.write (x:=p) (e:=p) (by rw [h];trivial) (.inl rfl) (λb u hb q=>(Ol _ _ (Op hb)).trans q) ⟨_,e⟩ ?_
 exact ⟨hz,its',n',r,e⟩
def D6:V->V->V->Hp->(Hp->Prop)->Prop:=λo i v H Q=>∃ p xs k j,o=.ref p/\i=.int k/\H p=some (.lst xs)/\ixN xs.length k=some j/\Q (upd H p (.lst (xs.set j v)))
theorem xA:cX X D6:=by
 intro pins s U H o i v ov iv u Q I ro ri rv h
 obtain ⟨p,xs,k,j,rfl,rfl,hp,hj,q⟩:=h
 cases ro
 obtain ⟨t,rfl⟩:=ri
 obtain ⟨its,n,r,ho,hz⟩:=I.lst hp
 obtain ⟨h1,h2,h3,h4⟩:=pB hj
 have hl:=r.length
 have hn:=dF
 have I':Inv X pins U (upd H p (.lst (xs.set j v))) { s with heap:=s.heap.update p (Obj.mapSeq (·.setIfInBounds j u)) } :=
  I.lstUpd hp ho (vw its n j u) (r.set rv j) (by rw [List.length_set];exact hz) s.toks
 by_cases h0:0<=k
 ·have hk:k.toNat=j:=by
   rw [seqIndex_of h0 h4] at h1
   exact Option.some.inj h1
  exact PySem.W.ki_setAt ho h0 (by lia) (by rw [NW,<- hl];exact h4) (by rw [hk];exact ⟨_,I',q⟩)
 ·have hk:(k+(its.toArray.size:Int)).toNat=j:=by
   rw [seqIndex_neg (by lia) h3] at h1
   rw [NW,<- hl]
   exact Option.some.inj h1
  exact PySem.W.ki_setBack ho (by lia) (by rw [NW,<- hl];exact h3) (by lia) (by rw [hk];exact ⟨_,I',q⟩)
theorem uF (lo hi:Option Int) (n:Nat):(sliceBounds lo hi none n).1=((HT.sIx n 0 lo:Nat):Int)/\(sliceBounds lo hi none n).2.1=((HT.sIx n n hi:Nat):Int)/\(sliceBounds lo hi none n).2.2=1:=by
 refine ⟨?_,?_,rfl⟩
 ·cases lo with
  |none=>simp [sliceBounds,HT.sIx]
  |some i =>
   simp only [sliceBounds,HT.sIx,Ss,show (1:Int)>0 by decide,OV]
   by_cases h:i<0
   ·simp only [h,OV]<;>lia
   ·simp only [h,Pa]<;>lia
 ·cases hi with
  |none=>simp [sliceBounds,HT.sIx]
  |some i =>
   simp only [sliceBounds,HT.sIx,Ss,show (1:Int)>0 by decide,OV]
   by_cases h:i<0
   ·simp only [h,OV]<;>lia
   ·simp only [h,Pa]<;>lia
theorem ut (its:List Value) (lo hi:Option Int):slicePick its.toArray lo hi none=((its.drop (HT.sIx its.length 0 lo)).take (HT.sIx its.length its.length hi - HT.sIx its.length 0 lo)).toArray:=by
 obtain ⟨h1,h2,h3⟩:=uF lo hi its.toArray.size
 unfold slicePick
 rw [h1,h2,h3]
 simp only [sliceRange_one,pick_run,NW]<;>rfl
def tF (K:PySem.W.Frag):V->Option Int->Option Int->Hp->VK->Prop:=λx lo hi H Q=>∃ a xs,x=.ref a/\SqL K H a xs/\∀ p,H p=none->Q (.ref p) (upd H p (.lst (eV xs lo hi)))
theorem zm:SlR X (tF X.K):=by
 intro pins s U H x v vl vu lo hi sl Q I rx hs pl pu h
 obtain ⟨a,xs,rfl,hx,q⟩:=h
 cases rx
 obtain ⟨its,r,ht,hz⟩:=I.list hx
 have Ik:=r.length
 refine ⟨"list",_,slot_list_getitem.lookup,ht.isList.typeIs,?_⟩
 refine wpAny_getItem_list_slice ht.isList hs pl pu .none (by simp) ?_ (by rw [NW]<;>lia)
 rw [ut,<- Ik]
 refine ⟨.ref s.heap.objs.size,_,I.laid (t':=s.toks) (o:=.lst (eV xs lo hi)) (λb ob q=>NG _ q) (NE _) ?_,rfl,q _ (I.hok.fresh (NE _))⟩
 exact ⟨NZ (uW xs lo hi) hz,_,0,(r.drop (HT.sIx xs.length 0 lo)).take (HT.sIx xs.length xs.length hi - HT.sIx xs.length 0 lo),NT _ rfl⟩
noncomputable def cG:V->Bool
 |.non=>true
 |.bl _=>true
 |.int _=>true
 |.str _=>true
 |_=>false
noncomputable def eqV:V->V->Bool
 |.non,.non=>true
 |.bl a,.bl b=>a==b
 |.bl a,.int b=>(if a then 1 else 0)==b
 |.int a,.bl b=>a==(if b then 1 else 0)
 |.int a,.int b=>a==b
 |.str a,.str b=>a==b
 |_,_=>false
theorem BS {A:Around}{s:Shared}{y x:V}{u v:Value}(ry:ak y u) (rx:ak x v) (fy:cG y=true) (fx:cG x=true):SeqAt.EqAt A s u v (eqV y x):=by
 cases y with
 |non =>
  cases ry
  cases x with
  |non=>cases rx;exact SeqAt.EqAt.same _
  |bl b=>cases rx;exact SeqAt.EqAt.none_bool b
  |int b=>obtain ⟨t,rfl⟩:=rx;exact SeqAt.EqAt.none_int b t
  |str b=>obtain ⟨t,rfl⟩:=rx;exact SeqAt.EqAt.none_str b t
  |_=>exact absurd (show false=true from fx) N5
 |bl a =>
  cases ry
  cases x with
  |non=>cases rx;exact SeqAt.EqAt.bool_none a
  |bl b=>cases rx;exact SeqAt.EqAt.bool_bool a b
  |int b=>obtain ⟨t,rfl⟩:=rx;exact SeqAt.EqAt.bool_int a b t
  |str b=>obtain ⟨t,rfl⟩:=rx;exact SeqAt.EqAt.bool_str a b t
  |_=>exact absurd (show false=true from fx) N5
 |int a =>
  obtain ⟨t',rfl⟩:=ry
  cases x with
  |non=>cases rx;exact SeqAt.EqAt.int_none a t'
  |bl b=>cases rx;exact SeqAt.EqAt.int_bool a t' b
  |int b=>obtain ⟨t,rfl⟩:=rx;exact SeqAt.EqAt.int_int a t' b t
  |str b=>obtain ⟨t,rfl⟩:=rx;exact SeqAt.EqAt.int_str a t' b t
  |_=>exact absurd (show false=true from fx) N5
 |str a =>
  obtain ⟨t',rfl⟩:=ry
  cases x with
  |non=>cases rx;exact SeqAt.EqAt.str_none a t'
  |bl b=>cases rx;exact SeqAt.EqAt.str_bool a t' b
  |int b=>obtain ⟨t,rfl⟩:=rx;exact SeqAt.EqAt.str_int a t' b t
  |str b=>obtain ⟨t,rfl⟩:=rx;exact SeqAt.EqAt.str_str a t' b t
  |_=>exact absurd (show false=true from fx) N5
 |_=>exact absurd (show false=true from fy) N5
noncomputable def eqU (x:V) (u:Value):Bool:=match u with
 |.none=>eqV .non x
 |.bool b=>eqV (.bl b) x
 |.int i _=>eqV (.int i) x
 |.str z _=>eqV (.str z) x
 |_=>false
theorem qr {x y:V}{u:Value}(r:ak y u) (f:cG y=true):eqU x u=eqV y x:=by
 cases y with
 |non=>cases r;rfl
 |bl b=>cases r;rfl
 |int i=>obtain ⟨t,rfl⟩:=r;rfl
 |str z=>obtain ⟨t,rfl⟩:=r;rfl
 |_=>exact absurd (show false=true from f) N5
theorem kC {x:V}:∀ {xs:List V}{us:List Value},aj xs us->xs.all cG=true->us.any (eqU x)=xs.any λy=>eqV y x
 |_,_,.nil,_=>rfl
 |y::xs,u::us,.cons r t,f=>by
  rw [P6,NA] at f
  rw [O0,O0,qr r f.1,kC t f.2]
theorem jW {A:Around}{s:Shared}{x:V}{v:Value}(rx:ak x v) (fx:cG x=true):∀ {xs:List V}{us:List Value},aj xs us->xs.all cG=true->∀ u∈us,SeqAt.EqAt A s u v (eqU x u)
 |_,_,.nil,_=>λu hu=>by cases hu
 |y::xs,u::us,.cons r t,f=>λu' hu=>by
  rw [P6,NA] at f
  rcases NR.mp hu with rfl|hu
  ·rw [qr r f.1];exact BS r rx f.1 fx
  ·exact jW rx fx t f.2 u' hu
def inV (x:V) (xs:List V):Bool:=xs.any λy=>eqV y x
def rIn (K:PySem.W.Frag) (neg:Bool):R2:=λx y H Q=>∃ p xs,y=.ref p/\(SqL K H p xs\/SqT K H p xs)/\cG x=true/\xs.all cG=true/\Q (.bl (if neg then !inV x xs else inV x xs)) H
theorem mY:OpR X (compareOp .NotIn) (rIn X.K true):=by
 intro pins s U H x y v u Q I rx ry h
 obtain ⟨p,xs,rfl,hq,fx,fs,q⟩:=h
 cases ry
 rcases hq with hq|hq
 ·obtain ⟨its,r,pl,hz⟩:=I.list hq
  refine SeqAt.notIn_listAt (eqU x) pl.isList (λw hw=>jW rx fx r fs w (by simpa using hw)) ⟨.bl _,H,I,rfl,?_⟩
  rw [show its.toArray.any (eqU x)=its.any (eqU x) by simp,kC r fs]
  exact q
 ·obtain ⟨its,r,pl,hz⟩:=I.tuple hq
  refine SeqAt.notIn_tupleAt (eqU x) pl (λw hw=>jW rx fx r fs w (by simpa using hw)) ⟨.bl _,H,I,rfl,?_⟩
  rw [show its.toArray.any (eqU x)=its.any (eqU x) by simp,kC r fs]
  exact q
theorem mZ:a0 X (.builtin "len") (λxs H Q=>∃ p ys,xs=[.ref p]/\(SqL X.K H p ys\/SqT X.K H p ys)/\Q (.int ys.length) H):=by
 intro pins s U H xs us Q I r h
 obtain ⟨p,ys,rfl,hq,q⟩:=h
 obtain ⟨u,rfl,rx⟩:=bh r
 cases rx
 have hn:=dF
 rcases hq with hq|hq
 ·obtain ⟨its,r',pl,hz⟩:=I.list hq
  have Ik:=r'.length
  exact Calls.call_len_list pl.isList (by simp only [NW]<;>lia) ⟨.int ys.length,H,I.tok _,⟨s.toks+1,by rw [NW,Ik]⟩,q⟩
 ·obtain ⟨its,r',pl,hz⟩:=I.tuple hq
  have Ik:=r'.length
  exact len_tuple pl (by simp only [NW]<;>lia) ⟨.int ys.length,H,I.tok _,⟨s.toks+1,by rw [NW,Ik]⟩,q⟩
theorem uG:a0 X (.builtin "len") (λxs H Q=>∃ z,xs=[.str z]/\z.length<=sizeLine/\Q (.int z.length) H):=by
 intro pins s U H xs us Q I r h
 obtain ⟨z,rfl,hz,q⟩:=h
 obtain ⟨u,rfl,t,rfl⟩:=bh r
 have hn:=dF
 exact len_str (by lia) ⟨.int z.length,H,I.tok _,⟨_,rfl⟩,q⟩
def tyV (K:PySem.W.Frag) (T:String) (x:V) (H:Hp):Prop:=match x with
 |.str _=>T="str"
 |.int _=>T="int"
 |.ref p=>(T="list" /\ ∃ xs,SqL K H p xs)\/(T="tuple" /\ ∃ o,K.lookup p=some o/\o.cls=.type "tuple" /\ o.dict=none) \/
   (T="dict" /\ ((∃ kvs,H p=some (.dK kvs))\/∃ kvs,H p=some (.dT kvs)))\/(T="set" /\ ∃ S n,H p=some (.set S n))
 |_=>False
theorem qt {pins:List (Addr×Obj)}{U:St}{H:Hp}{s:Shared}{T:String}{x:V}{v:Value}(I:Inv X pins U H s) (r:ak x v) (ty:tyV X.K T x H) :
  s.TypeIs v T/\∀ a,v=.ref a->∃ ob,s.heap.get? a=some ob/\ob.dict=none:=by
 cases x with
 |str z =>
  obtain ⟨t,rfl⟩:=r
  cases (show T="str" from ty)
  exact ⟨Qq s z t,λ_ e=>nomatch e⟩
 |int i =>
  obtain ⟨t,rfl⟩:=r
  cases (show T="int" from ty)
  exact ⟨typeIs_int s i t,λ_ e=>nomatch e⟩
 |ref p =>
  cases r
  rcases ty with ⟨rfl,xs,hq⟩|⟨rfl,o,hk,hc,hd⟩|⟨rfl,hk⟩|⟨rfl,S,n,hk⟩
  ·obtain ⟨its,_,pl,_⟩:=I.list hq
   refine ⟨pl.isList.typeIs,λa e=>?_⟩
   cases e
   obtain ⟨o,n,e,c,hd,_⟩:=pl
   exact ⟨o,e,hd⟩
  ·refine ⟨⟨o,I.kIn p o hk,hc⟩,λa e=>?_⟩
   cases e
   exact ⟨o,I.kIn _ o hk,hd⟩
  ·have z:∃ o,s.heap.get? p=some o/\o.ExactDict:=by
    rcases hk with ⟨kvs,hk⟩|⟨kvs,hk⟩
    ·obtain ⟨_,_,_,_,o,_,_,e,ex,_⟩:=I.hok p _ hk
     exact ⟨o,e,ex⟩
    ·obtain ⟨_,_,_,_,o,_,_,e,ex,_⟩:=I.hok p _ hk
     exact ⟨o,e,ex⟩
   obtain ⟨o,e,ex⟩:=z
   refine ⟨⟨o,e,ex.1⟩,λa e2=>?_⟩
   cases e2
   exact ⟨o,e,ex.2.1⟩
  ·obtain ⟨o,_,_,_,e,ex,_⟩:=I.hok p _ hk
   refine ⟨⟨o,e,ex.1⟩,λa e2=>?_⟩
   cases e2
   exact ⟨o,e,ex.2.1⟩
 |_=>exact False.elim ty
def Gh (K:PySem.W.Frag) (T:String) (r:V->List V->Hp->VK->Prop) (to:TE):TE:=λU H Q=>to U H λx H1=>tyV K T x H1/\r x [] H1 Q
def tBM (K:PySem.W.Frag) (T:String) (r:V->List V->Hp->VK->Prop) (to:TE) (t:TA):TE:=λU H Q=>to U H λx H1=>tyV K T x H1/\t U H1 λxs H2=>r x xs H2 Q
variable {o e:Expr}{es:List Expr}{to:TE}{t:TA}{name:Str}{apos cpos:Pos}{T id:String}{r:V->List V->Hp->VK->Prop}
theorem qv (pa:PlainAttrs T) (slot:Slot T name id) (LK:typeOf (.builtin id)=pure (.type "method_descriptor")) (hm:MtR X id r) (ho:PE X o to)
  (Ja:attributeBase o name X.env (eval o X.env)=eval o X.env:=by rfl) (Jb:(apos.endLine==cpos.line)=true:=by rfl):PE X (.Call (.Attribute o name apos) [] [] cpos) (Gh X.K T r to):=by
 intro pins s U H Q I h
 refine wpAny_Call_method0_late Ja Jb (thn (ho pins s U H _ I h) λv s1 zz39=>?_)
 obtain ⟨x,H1,I1,r1,ty,q1⟩:=zz39
 obtain ⟨h1,h2⟩:=qt I1 r1 ty
 exact ⟨T,id,pa,slot,LK,h1,h2,Calls.callWith_builtin rfl (PySem.evalArgs_none (hm pins s1 U H1 x [] v [] Q I1 r1 .nil q1))⟩
theorem D7 (pa:PlainAttrs T) (slot:Slot T name id) (LK:typeOf (.builtin id)=pure (.type "method_descriptor")) (hm:MtR X id r) (ho:PE X o to) (ha:PA X (e::es) t)
  (Ja:attributeBase o name X.env (eval o X.env)=eval o X.env:=by rfl)
  (MZ:((backTo cpos (starEach (e::es) X.env)).all (λx=>!x.1)&&(backToKw cpos (keywordEach [] X.env)).all (λx=>x.1.isSome)
   && decide ((e::es).length+([]:List Keyword).length+(if ([]:List Keyword).isEmpty then 0 else 1)<30))=true:=by rfl)
  (Jb:(apos.endLine==cpos.line)=true:=by rfl) (hs:starEach (e::es) X.env=(false,eval e X.env)::starEach es X.env:=by rfl) (IN:(backTo cpos (starEach es X.env)).any (·.1)=false:=by rfl) :
  PE X (.Call (.Attribute o name apos) (e::es) [] cpos) (tBM X.K T r to t):=by
 intro pins s U H Q I h
 refine wpAny_Call_method_late Ja MZ Jb rfl (thn (ho pins s U H _ I h) λv s1 zz40=>?_)
 obtain ⟨x,H1,I1,r1,ty,q1⟩:=zz40
 obtain ⟨h1,h2⟩:=qt I1 r1 ty
 refine ⟨T,id,pa,slot,LK,h1,h2,?_⟩
 have hA:=ha cpos pins s1 U H1 _ I1 q1
 rw [hs] at hA ⊢
 refine Calls.callWith_builtin (by show (false || (backTo cpos (starEach es X.env)).any (·.1))=false;rw [IN]<;>rfl) (Calls.evalArgs_plain ?_)
 exact thn hA λus s2 zz41=>by obtain ⟨vs,H2,I2,r2,q2⟩:=zz41;exact hm pins s2 U H2 x vs v us Q I2 r1 r2 q2
end
def MtM (X:Cx) (id:String) (r:V->List V->Hp->VK->Prop):Prop :=
 ∀ (pins:List (Addr×Obj)) (s:Shared) (U:St) (H:Hp) (x:V) (xs:List V) (v:Value) (us:List Value) (Q:VK),Inv X pins U H s->ak x v->aj xs us->r x xs H Q ->
  wpAny (model X.prog X.w) X.A (call (.builtin id) (v::us)) (EP X pins U Q) X.xe s
theorem aj.one:∀ {x:V}{us:List Value},aj [x] us->∃ u,us=[u]/\ak x u:=by
 intro x us h
 cases h with
 |cons r t=>cases t;exact ⟨_,rfl,r⟩
theorem aj.rep {xs:List V}{us:List Value}(h:aj xs us):∀ k:Nat,aj (List.replicate k xs).flatten (List.replicate k us).flatten
 |0=>.nil
 |k+1=>by
  rw [PJ,PJ,OP,OP]
  exact aj.append h (aj.rep h k)
theorem nH (its:List Value):∀ (k:Nat) (HI:List Value),
  List.foldl (λx1 x2=>x1++x2) HI.toArray (List.replicate k its.toArray)=(HI++(List.replicate k its).flatten).toArray
 |0,HI=>by simp
 |k+1,HI=>by
  have e:HI.toArray++its.toArray=(HI++its).toArray:=by simp
  have e2:(HI++its)++(List.replicate k its).flatten=HI++(List.replicate (k+1) its).flatten:=by
   rw [PJ,OP,NX]
  rw [<- e2,<- nH its k (HI++its),<- e,PJ,QH]
section
variable {X:Cx}{pins:List (Addr×Obj)}{U:St}{H:Hp}{s:Shared}{l b:Addr}{xs ys zs:List V}
theorem Inv.lset {its its':List Value}{n:Nat}{f:Array Value->Array Value}{t':Nat}(I:Inv X pins U H s) (hH:H l=some (.lst xs))
  (e:s.heap.get? l=some { cls:=.type "list",data:=.seq its.toArray n }) (hf:f its.toArray=its'.toArray) (hv:aj ys its') (hz:ys.length<=sizeLine) :
  Inv X pins U (upd H l (.lst ys)) { s with heap:=s.heap.update l (Obj.mapSeq f),toks:=t' }:=by
 have q:=PySem.IsL.update e f
 rw [hf] at q
 refine I.write (x:=l) (e:=l) (by rw [hH];exact trivial) (.inl rfl) (λb' u hb hu=>(Ol s.heap (Obj.mapSeq f) (Op hb)).trans hu) ⟨_,q⟩ ?_
 exact ⟨hz,its',_,hv,q⟩
theorem Inv.lnew {its:List Value}{t':Nat}(I:Inv X pins U H s) (hv:aj ys its) (hz:ys.length<=sizeLine) :
  Inv X pins U (upd H s.heap.objs.size (.lst ys)) { s with heap:=s.heap.push { cls:=.type "list",data:=.seq its.toArray },toks:=t' } :=
 I.laid (λ_ _ q=>NG _ q) (NE _) ⟨hz,its,0,hv,NT _ rfl⟩
theorem Inv.fresh (I:Inv X pins U H s):H s.heap.objs.size=none:=I.hok.fresh (NE _)
theorem Inv.lstM (I:Inv X pins U H s) (hH:H l=some (.lst xs)):xs.length<=sizeLine/\∃ (its:List Value) (n:Nat),aj xs its/\xs.length=its.length/\s.heap.get? l=some { cls:=.type "list",data:=.seq its.toArray n }:=by
 obtain ⟨z,its,n,r,e⟩:=I.hok l _ hH
 exact ⟨z,its,n,r,r.length,e⟩
theorem on {n:Nat}(h:n<=sizeLine):Builtin.List.listTooLong n=false:=by
 unfold Builtin.List.listTooLong
 exact NS (by lia)
end
section
variable {X:Cx}
def zn:V->List V->Hp->VK->Prop:=λx vs H Q=>∃ l xs y,x=.ref l/\vs=[y]/\H l=some (.lst xs)/\xs.length<sizeLine/\Q .non (upd H l (.lst (xs++[y])))
theorem nI:MtM X "list.append" zn:=by
 intro pins s U H x vs v us Q I rx rv h
 obtain ⟨l,xs,y,rfl,rfl,hH,hz,q⟩:=h
 cases rx
 obtain ⟨u,rfl,ru⟩:=rv.one
 obtain ⟨z,its,n,r,hl,e⟩:=I.lstM hH
 refine Qr F.slot_list_append ⟨_,e,rfl⟩ F.entry_list_append (F.args_list_append_2 _ _) (PySem.list_append l its.toArray n u (by rw [NW];lia)) ⟨e,?_⟩
 refine ⟨.non,_,I.lset (its':=its++[u]) hH e (by simp) (r.append (.cons ru .nil)) ?_,rfl,q⟩
 rw [NJ,OQ]
 lia
def zq:V->List V->Hp->VK->Prop:=λx vs H Q=>∃ l b xs zs,x=.ref l/\vs=[.ref b]/\H l=some (.lst xs)/\H b=some (.lst zs)/\xs.length+zs.length<=sizeLine/\Q .non (upd H l (.lst (xs++zs)))
theorem v4:MtM X "list.extend" zq:=by
 intro pins s U H x vs v us Q I rx rv h
 obtain ⟨l,b,xs,zs,rfl,rfl,hH,hB,hz,q⟩:=h
 cases rx
 obtain ⟨u,rfl,ru⟩:=rv.one
 cases ru
 obtain ⟨z,its,n,r,hl,e⟩:=I.lstM hH
 obtain ⟨z2,K4,n2,r2,MG,e2⟩:=I.lstM hB
 have hsz:its.toArray.size+K4.toArray.size<=sizeLine:=by rw [NW,NW];lia
 have LS:¬ (!its.toArray.isEmpty&&Builtin.List.listTooLong (its.toArray.size+K4.toArray.size))=true:=by
  rw [on hsz,Bool.and_false]
  exact N5
 refine Qr F.slot_list_extend ⟨_,e,rfl⟩ F.entry_list_extend (F.args_list_extend_2 _ _)
  (AutoSeq1.list_extend_list_list_0 l its.toArray n b K4.toArray n2 LS (by rw [NW];lia) (by lia)) ⟨e,e2,?_⟩
 refine ⟨.non,_,I.lset (its':=its++K4) hH e (by simp) (r.append r2) ?_,rfl,q⟩
 rw [NJ]
 lia
def Gi:R2:=λx y H Q=>∃ l b xs zs,x=.ref l/\y=.ref b/\H l=some (.lst xs)/\H b=some (.lst zs)/\xs.length+zs.length<=sizeLine/\∀ p,H p=none->Q (.ref p) (upd H p (.lst (xs++zs)))
theorem BU:OpR X (binaryOp .Add) Gi:=by
 intro pins s U H x y v u Q I rx ry h
 obtain ⟨l,b,xs,zs,rfl,rfl,hH,hB,hz,q⟩:=h
 cases rx
 cases ry
 obtain ⟨z,its,n,r,hl,e⟩:=I.lstM hH
 obtain ⟨z2,K4,n2,r2,MG,e2⟩:=I.lstM hB
 refine PySem.P.add_list e e2 ?_ (by rw [NW,NW];lia)
 have ea:its.toArray++K4.toArray=(its++K4).toArray:=by simp
 rw [ea]
 exact ⟨.ref _,_,I.lnew (t':=s.toks) (r.append r2) (by rw [NJ];lia),rfl,q _ I.fresh⟩
def Gj:R2:=λx y H Q=>∃ l k xs,x=.ref l/\y=.int k/\H l=some (.lst xs) /\ -(2 ^ 63)<=k/\k<2 ^ 63/\xs.length * k.toNat<=sizeLine /\
 ∀ p,H p=none->Q (.ref p) (upd H p (.lst (List.replicate k.toNat xs).flatten))
theorem zr {α:Type}(xs:List α) (k:Nat):(List.replicate k xs).flatten.length=k * xs.length:=by
 induction k with
 |zero=>simp
 |succ k ih=>rw [PJ,OP,NJ,ih,Nat.succ_mul,Nat.add_comm]
theorem BV:OpR X (binaryOp .Mult) Gj:=by
 intro pins s U H x y v u Q I rx ry h
 obtain ⟨l,k,xs,rfl,rfl,hH,h1,h2,hz,q⟩:=h
 cases rx
 obtain ⟨t,rfl⟩:=ry
 obtain ⟨z,its,n,r,hl,e⟩:=I.lstM hH
 have Ik:its.toArray.size * k.toNat<=sizeLine:=by rw [NW,<- hl];exact hz
 have hcap:¬ its.toArray.size * k.toNat>(2 ^ 63 - 1) / 8:=by
  have:(sizeLine:Nat)<=(2 ^ 63 - 1) / 8:=by decide
  lia
 have hfit:¬ (!Builtin.List.listFitsIndex k)=true:=by
  rw [fitsIndex_both h1 h2]
  exact N5
 have LS:¬ Builtin.List.listTooLong (its.toArray.size * k.toNat)=true:=by
  rw [on Ik]
  exact N5
 have hnew:List.foldl (λx1 x2=>x1++x2) #[] (List.replicate (if its.toArray.isEmpty=true then 0 else k.toNat) its.toArray)=(List.replicate k.toNat its).flatten.toArray:=by
  have f0:∀ m:Nat,List.foldl (λx1 x2=>x1++x2) #[] (List.replicate m its.toArray)=(List.replicate m its).flatten.toArray:=λm=>by
   have:=nH its m []
   rw [Qa] at this
   exact this
  rw [f0]
  cases its with
  |nil=>simp
  |cons a r'=>rw [NB (by simp)]
 refine wpAny_binaryOp_repeat_ref (T:="list") (U:="int") (by decide) ⟨_,e,rfl⟩ (λs'=>typeIs_int s' k t) noFill_list_mul F.fills_int_mul F.slot_int_rmul repeat_list F.slot_int_index.lookup
  (Qr F.slot_int_rmul (typeIs_int s k t) F.entry_int_rmul (F.args_int_rmul_2 _ _) (int___rmul___int_list k t l its.toArray n)
   ⟨e,rfl,⟨_,e,rfl⟩,Qr F.slot_list_mul ⟨_,e,rfl⟩ F.entry_list_mul (F.args_list_mul_2 _ _) (AutoListH.list___mul___list_int_3 l its.toArray n k t hfit hcap LS) ⟨e,?_⟩⟩)
 rw [hnew]
 exact ⟨.ref _,_,I.lnew (t':=s.toks) (r.rep k.toNat) (by rw [zr,Nat.mul_comm];exact hz),rfl,q _ I.fresh⟩
end
section
variable {prog:Program}{w:World}{A:Around}{E:Value->Shared->Prop}{s:Shared}
end
section
variable {X:Cx}
end
end L2
namespace Att
open PySem PySem.W PySem.Calls PyProof.Rows
theorem t8 {P:Params}{h:Heap}:∀ (ns:List Int) (vs:List Value),WellAll P h vs (ns.map WData.int)->IntsAre vs ns:=by
 intro ns
 induction ns with
 |nil =>
  intro vs w
  rw [Pr] at w
  cases w
  exact .nil
 |cons n ns ih =>
  intro vs w
  rw [NF] at w
  cases w with
  |cons a b =>
   cases a
   exact .cons _ _ (ih _ b)
theorem v5 {l:OpenLaw}{n:Nat}(hn:l.most=some n){P:Params}{h:Heap}{args:List WData}{vals:List Value}
  (HP:l.row.toRowW.claim.pre args=true) (LL:WellAll P h vals args) :
  ∃ a vs ns,vals=[Value.ref a]/\args=[WData.list (ns.map WData.int)]/\h.get? a=some { cls:=.type "list",data:=.seq vs.toArray }/\IntsAre vs ns/\ns.length<=n:=by
 have hsh:WShape.hasAll [] args [.list .int]=true:=(pre_splitW HP).1
 have hc:l.pre.holds [] { args:=args }=true:=(pre_splitW HP).2
 obtain ⟨d,r,rfl,h1,h2⟩:=hasAllW_cons hsh
 obtain rfl:=hasAllW_nil h2
 obtain ⟨xs,rfl,h3⟩:=hasW_list h1
 obtain ⟨ns,rfl⟩:=items_int h3
 have Ik:ns.length<=n:=by
  unfold OpenLaw.pre at hc
  have h4:(WTm.not (.lt (.lit (.int (n:Int))) (.len (.arg 0)))).holds [] { args:=[.list (ns.map .int)] }=true:=by
   have h4:=(holds_andW hc).1
   rw [hn] at h4
   exact h4
  have h5:=condW_of h4 (w_not (w_lt w_lit (w_len_list (w_arg rfl))))
  rw [Nz] at h5
  refine Pt λq=>?_
  have q':(n:Int)<((ns.length:Nat):Int):=by lia
  first
   |(rw [NK q'] at h5;exact absurd h5 (by decide))
   |(simp at h5;lia)
 cases LL with
 |cons w1 w2 =>
  cases w2
  cases w1 with
  |list ho Kk=>exact ⟨_,_,ns,rfl,rfl,ho,t8 ns _ Kk,Ik⟩
theorem v6 (l:OpenLaw) (args:List WData):l.row.toRowW.claim.post args (.bool true) args=true :=
 postW_of (r:=l.row.toRowW) (X:=(true==true))
  (show WShape.has [] (.bool true) .bool=true by first|rfl|decide|simp [WShape.has,WShape.arms,WShape.armsAll])
  (show (WTm.eq .res (.lit (.bool true))).value [] { args:=args,res:=some (.bool true),after:=args }=some (.bool (true==true)) from w_eq_bool (w_res rfl) w_lit) rfl
theorem attach_call {l:OpenLaw}{n:Nat}{q:Program}{loose:List Str}{XP:(Str->Option Value)->Heap->Prop}{YP:World->Heap->Prop}{d:DefRec}
  (hn:l.most=some n) (hdf:d.params.defaults=[])
  (call:∀ (w:World) (s₀ HK:Shared) (mg mb:Str->Option Value) (fa:Addr) (o:Obj) (pm cd doc:Value) (a:Addr) (vs:List Value) (ns:List Int),
   Ground q loose [] XP w s₀ mg mb HK.heap->YP w HK.heap ->
   HK.heap.get? fa=some o->o.data=.func (docDef d.name d.params d.body d.scope pm cd doc)->HK.heap.CodeRec cd d.name->mg d.name=some (.ref fa) ->
   HK.heap.get? a=some { cls:=.type "list",data:=.seq vs.toArray }->IntsAre vs ns->ns.length<=n->HK.gens=#[] ->
   codeAny (model l.prog w) callerA (.call (.ref fa) ⟨[.ref a],[]⟩) (λr s'=>r=.ok (.ret (.bool true))/\OldK HK.heap s'.heap/\s'.os=HK.os/\AllBare s'.gens) HK) :
  WalkO q loose XP YP l.row.toRowW d [] (λf vs=>PySem.call f vs):=by
 intro w s₀ HK mg mb G Y fa o pm cd doc dV kV ho hd Ly hD hmg hg args vals as HP hlay hrd LL hlo
 obtain rfl:dV=.none:=Dflts.none hD hdf
 obtain rfl:kV=.none:=Dflts.noKw hD
 obtain ⟨a,vs,ns,rfl,rfl,M0,hints,Ik⟩:=v5 hn HP LL
 refine enter_call (RE (call w s₀ HK mg mb fa o pm cd doc a vs ns G Y ho (fd_plain hd) Ly hmg M0 hints Ik hg) λr s' hq=>?_)
 obtain ⟨rfl,h2,h3,h4⟩:=hq
 exact ⟨.inl ⟨.bool true,.bool true,[],rfl,λ_=>rfl,.bool true,v6 l _,λ_=>⟨List.Pairwise.nil,λ_ hm=>(nomatch hm)⟩⟩,h2,h3,h4⟩
section
variable {prog:Program}{w:World}{A:Around}{E:Value->Shared->Prop}{s:Shared}{K:Frag}
end
end Att
namespace L2
open PySem PySem.Spec PyProof.Rows
theorem nJ:∀ {vs:List Value}{ns:List Int},IntsAre vs ns->aj (ns.map V.int) vs
 |_,_,.nil=>.nil
 |_,_,.cons n t h=>.cons ⟨t,rfl⟩ (nJ h)
def iK (H:Hp):Prop:=∀ b,H b=none\/∃ o xs,H b=some (.frz o (.lst xs))
theorem xB {P:Program}{w:World}{K:PySem.W.Frag}{mg mb:Str->Option Value}{CX:CXT}{k:Nat}{fa a:Addr}{fd:FuncData}{x:Str}{sp:Sp}{HK:Shared}{vs:List Value}{ns:List Int}
  (KX:K.In HK.heap) (MH:HK.heap.Ns mainGlobals mg) (hb:HK.heap.Ns builtinsNs mb) (hbb:∀ x:Str,x ≠ "__name__"->mb x=bootBuiltins x) (hlim:HK.heap.NoLimit) (hg:HK.gens=#[])
  (ha:HK.heap.get? a=some { cls:=.type "list",data:=.seq vs.toArray }) (hi:IntsAre vs ns) (hl:ns.length<=sizeLine) (hr:Room k callerA)
  (F:∀ base:Heap,K.In base->base.Ns mainGlobals mg->FnOk P w K mg base CX k fa fd [x] sp) (hbind:∀ (s:Shared) (u:Value),BindsTo s fd ⟨[u],[]⟩ [(x,u)])
  (MF:∀ H:Hp,iK H->SqL K H a (ns.map V.int)->sp [.ref a] H (λv _=>v=.bl true) λ_ _ _=>False)
  (hCX:∀ H e s',CX [] H HK (λ_ _ _=>False) e s'->False) :
  codeAny (model P w) callerA (.call (.ref fa) ⟨[.ref a],[]⟩) (λr s'=>r=.ok (.ret (.bool true))/\OldK HK.heap s'.heap/\s'.os=HK.os/\AllBare s'.gens) HK:=by
 have rv:=nJ hi
 have lenV:=hi.length
 -- from an abstract heap in which nothing but the script may be tracked
 have core:∀ H:Hp,iK H->SqL K H a (ns.map V.int)->HOk P w H HK.heap->(∀ b,H b≠none->b=a)->(H a≠none->K.lookup a=none) ->
   codeAny (model P w) callerA (.call (.ref fa) ⟨[.ref a],[]⟩) (λr s'=>r=.ok (.ret (.bool true))/\OldK HK.heap s'.heap/\s'.os=HK.os/\AllBare s'.gens) HK:=by
  intro H hO hS hok hA hK
  have base_of:∀ {b:Addr}{o:Obj},HK.heap.get? b=some o->H b=none->(cW HK.heap H).get? b=some o:=λe n=>xm e n
  have noA:∀ {b:Addr}{o:Obj}{es:Array DictEntry}{ep:Nat},HK.heap.get? b=some o->o.data=.dict es ep->H b=none:=fun {b o es ep} e d=>by
   cases q:H b with
   |none=>rfl
   |some u =>
    have e':b=a:=hA b (by rw [q];simp)
    subst e'
    rw [ha] at e;cases e
    have d':Data.seq vs.toArray _=Data.dict es ep:=d
    cases d'
  have nsK:∀ {b:Addr}{m:Str->Option Value},HK.heap.Ns b m->(cW HK.heap H).Ns b m:=fun {b m} ⟨o,es,ep,e,d,r⟩=>⟨o,es,ep,base_of e (noA e d),d,r⟩
  have hKb:K.In (cW HK.heap H):=λb o e=>base_of (KX b o e) (by
   cases q:H b with
   |none=>rfl
   |some u =>
    have e':b=a:=hA b (by rw [q];simp)
    subst e'
    rw [hK (by rw [q];simp)] at e;cases e)
  have hM:Mod K mg (cW HK.heap H):=⟨hKb,nsK MH,⟨mb,nsK hb,hbb⟩,let ⟨mc,h1,h2⟩:=hlim;⟨mc,nsK h1,h2⟩⟩
  have e0:Env0 P w K mg (cW HK.heap H) callerA [] HK H:=⟨rfl,hM,λb o e=>yT e,QQ (vQ _ _),trivial,λb hb=>absurd (show b∈([]:List Addr) from hb) (by simp),hok,.of_eq hg⟩
  refine RE ((F _ hKb (nsK MH)).run callerA [] HK H ⟨[.ref a],[]⟩ [.ref a] [.ref a] _ _ hr e0 (hbind HK (.ref a)) (.cons rfl .nil) (MF H hO hS)) λr s' h=>?_
  cases r with
  |error e=>exact (hCX H e s' h).elim
  |ok fl =>
   cases fl with
   |next=>exact False.elim h
   |brk=>exact False.elim h
   |cont=>exact False.elim h
   |ret u =>
    obtain ⟨v,H',os,bare,un,hok',r',q⟩:=h
    have q':v=.bl true:=q
    subst q'
    obtain rfl:u=Value.bool true:=r'
    refine ⟨rfl,OldK.of_keep λb o e=>?_,os,bare⟩
    cases q:H b with
    |none=>exact un.keep b o e q (by intro z;exact absurd (show b∈([]:List Addr) from z) (by simp)) (by simp)
    |some u =>
     rcases hO b with z|⟨ob,xs,z⟩
     ·rw [q] at z;cases z
     ·have z2:=un.frzs b ob _ z
      obtain ⟨e1,_⟩:=hok b _ z
      obtain ⟨e2,_⟩:=hok' b _ z2
      rw [e] at e1;cases e1
      exact e2
 cases hk:K.lookup a with
 |some o =>
  -- the script is one of the module's own objects
  have e:=KX a o hk
  rw [ha] at e
  cases e
  refine core (λ_=>none) (λ_=>.inl rfl) (.inr ⟨_,vs.toArray,_,hk,rfl,rfl,rfl,by rw [NW,lenV];exact hl,by simpa using rv⟩) (λb u z=>by have z':(none:Option HO)=some u:=z;cases z') (λb z=>absurd rfl z) λz=>absurd rfl z
 |none =>
  refine core (λb=>if b=a then some (.frz { cls:=.type "list",data:=.seq vs.toArray } (.lst (ns.map V.int))) else none) (λb=>?_) (.inl (.inr ⟨{ cls:=.type "list",data:=.seq vs.toArray },NC rfl⟩)) (λb u z=>?_) (λb z=>?_) λ_=>hk
  ·by_cases hb:b=a
   ·exact .inr ⟨_,_,NC hb⟩
   ·exact .inl (NB hb)
  ·by_cases hb:b=a
   ·have z':=(NC hb).symm.trans z
    cases z'
    subst hb
    exact ⟨ha,by rw [Nz];exact hl,vs,_,rv,ha⟩
   ·have z':=(NB hb).symm.trans z
    cases z'
  ·by_cases hb:b=a
   ·exact hb
   ·exact absurd (NB hb) z
theorem zv {l:PySem.W.OpenLaw}{n k:Nat}{q:Program}{loose:List Str}{XP:(Str->Option Value)->Heap->Prop}{YP:World->Heap->Prop}{d:DefRec}{K:Params->PySem.W.Frag}{CX:World->CXT}{sp:World->Sp}{x:Str}
  (hn:l.most=some n) (MY:n<=sizeLine) (hdf:d.params.defaults=[]) (hr:Room k callerA)
  (hY:∀ (w:World) (h:Heap),YP w h->(K w.params).In h)
  (F:∀ (w:World) (mg:Str->Option Value) (fa:Addr) (h:Heap),(K w.params).In h->h.Ns mainGlobals mg->mg d.name=some (.ref fa) ->
   ∃ fd:FuncData,(∀ (s:Shared) (u:Value),BindsTo s fd ⟨[u],[]⟩ [(x,u)]) /\
    ∀ base:Heap,(K w.params).In base->base.Ns mainGlobals mg->FnOk l.prog w (K w.params) mg base (CX w) k fa fd [x] (sp w))
  (MF:∀ (w:World) (H:Hp) (a:Addr) (ns:List Int),ns.length<=n->iK H->SqL (K w.params) H a (ns.map V.int)->sp w [.ref a] H (λv _=>v=.bl true) λ_ _ _=>False)
  (hCX:∀ (w:World) (H:Hp) (s:Shared) (e:Value) (s':Shared),CX w [] H s (λ_ _ _=>False) e s'->False) :
  PySem.W.WalkO q loose XP YP l.row.toRowW d [] (λf vs=>PySem.call f vs):=by
 refine Att.attach_call hn hdf λw s₀ HK mg mb fa o pm cd doc a vs ns G Y ho hd Ly hmg M0 hints Ik hg=>?_
 have KX:=hY w _ Y
 obtain ⟨fd,hb,hF⟩:=F w mg fa _ KX G.T.g hmg
 exact xB KX G.T.g G.T.b G.T.builtins G.T.nolimit hg M0 hints (NZ Ik MY) hr hF hb (λH hO hS=>MF w H a ns Ik hO hS) λH e s'=>hCX w H HK e s'
abbrev CX0:CXT:=λ_ _ _ _ _ _=>False
abbrev E0:XK:=λ_ _ _=>False
theorem iq {X:Cx}:dG CX0 X E0:=λ_ _ _ _ _ _ _ h=>h.elim
structure Fun (K:PySem.W.Frag) (x qual:Str) (st:Stmt) (f:Addr) (fd:FuncData):Prop where
 ex:∃ (oc:Value) (od:Option Addr) (kV doc pm:Value) (an:Option Addr) (cdv ct:Value) (osl:Array (Option Value)),
  fd=PySem.W.fnOf x qual (bZ st) (bE st) (am st) .none kV doc pm an cdv ct/\K.lookup f=some ⟨oc,od,.func fd,osl⟩/\PySem.W.codeIn K cdv qual=true
 kp:PySem.W.keepIn K (.ref f)=true
section
variable {P:Program}{w:World}{K:PySem.W.Frag}{mg:Str->Option Value}{base:Heap}
theorem Fun.ok {x qual:Str}{st:Stmt}{f:Addr}{fd:FuncData}{N ps:List Str}{k:Nat}{sp:Sp}(F:Fun K x qual st f fd) (S:FnScope N ps (am st)) (len:∀ vs H Q E,sp vs H Q E->vs.length=ps.length)
  (JP:∀ (cdv:Value) (A:Around) (outer:List Env) (s:Shared) (H:Hp) (vs:List V) (Q:VK) (E:XK),Room k (A.deeper (envOfC qual (am st) s.heap.objs.size f cdv))->sp vs H Q E ->
   ∃ t,PSs (dh CX0 P w K mg base N qual (am st) f cdv A outer s H E).nox (bE st) t/\t { nx:=λ_ H'=>Q .non H',rt:=Q } (cj N vs) H):FnOk P w K mg base CX0 (k+1) f fd ps sp:=by
 obtain ⟨oc,od,kV,doc,pm,an,cdv,ct,osl,rfl,lk,Ly⟩:=F.ex
 refine rZ lk Ly S len λA outer s H vs Q E hr MF=>?_
 obtain ⟨t,h,q⟩:=JP cdv A outer s H vs Q E hr MF
 exact ⟨t,h.nox,q⟩
theorem Fun.binds {x qual:Str}{st:Stmt}{f:Addr}{fd:FuncData}{ps:List Str}(F:Fun K x qual st f fd)
  (h:∀ (kV doc pm:Value) (an:Option Addr) (cdv ct:Value) (us:List Value),us.length=ps.length->bindArgs (PySem.W.fnOf x qual (bZ st) (bE st) (am st) .none kV doc pm an cdv ct) ⟨us,[]⟩=pure (ps.zip us)):ay K fd ps []:=by
 obtain ⟨oc,od,kV,doc,pm,an,cdv,ct,osl,rfl,lk,Ly⟩:=F.ex
 exact .all (h kV doc pm an cdv ct)
theorem qw {x qual:Str}{st:Stmt}{f:Addr}{oc:Value}{od an:Option Addr}{osl:Array (Option Value)}{kV doc pm cdv ct:Value}(l:K.lookup f=some ⟨oc,od,.func (PySem.W.fnOf x qual (bZ st) (bE st) (am st) .none kV doc pm an cdv ct),osl⟩)
  (c:PySem.W.codeIn K cdv qual=true) (k:PySem.W.keepIn K (.ref f)=true):Fun K x qual st f (PySem.W.fnOf x qual (bZ st) (bE st) (am st) .none kV doc pm an cdv ct):=⟨⟨oc,od,kV,doc,pm,an,cdv,ct,osl,rfl,l,c⟩,k⟩
end
theorem r9 {A:Around}{k:Nat}(hr:Room k A):A.units+1<cLine:=Nat.lt_of_le_of_lt (QC (by decide:1<=64) _) hr.units
section
variable {X:Cx}
end
def Hm (H H':Hp):Prop:=∀ b o,H b=some o->H' b=some o
def BW:Expr->Bool
 |.Starred ..=>true
 |_=>false
theorem zw {e:Expr}{es:List Expr}{env:Env}(h:BW e=false):starEach (e::es) env=(false,eval e env)::starEach es env:=by
 cases e<;>first|rfl|cases h
section
variable {X:Cx}
theorem xC:OpR X (binaryOp .FloorDiv) (rI (λ_ j=>0<j/\j<18446744073709551616) λi j=>.int (i / j)):=opI λi j _ _ _ _ _ hc q=>by
 have h1:(0:Int)<j:=hc.1
 have h2:j<18446744073709551616:=hc.2
 refine floordiv_int (by lia) (by rw [R9 i (by lia)];exact q) (.inl (PyProof.noPylong_of_log2 ?_))
 have h0:j.natAbs≠0:=by lia
 have h3:j.natAbs<2 ^ 64:=by
  have e:(2:Nat) ^ 64=18446744073709551616:=by decide
  lia
 have h4:j.natAbs.log2<64:=(Nat.log2_lt h0).mpr h3
 lia
def zx (K:PySem.W.Frag):List V->Hp->VK->Prop:=λxs H Q=>∃ x c t b,xs=[x,c]/\(∃ u,ak c u/\(∀ z,ak c z->z=u)/\PySem.W.kitOne K t u=some b)/\TyOf K H x t/\Q (.bl b) H
theorem uX:a0 X (.builtin "isinstance") (zx X.K):=by
 intro pins s U H xs us Q I r h
 obtain ⟨x,c,t,b,rfl,⟨u,rc,hu,e⟩,ty,q⟩:=h
 obtain ⟨u1,u2,rfl,r1,r2⟩:=lY r
 obtain rfl:=hu _ r2
 exact v0 I r1 ty e λtk=>⟨.bl b,H,I.tok tk,rfl,q⟩
end
def Kp (p:Addr) (H H':Hp):Prop:=∀ b o,H b=some o->b≠p->H' b=some o
def l5 (H:Hp) (p:Addr):Prop:=∃ a b c d:Int,H p=some (.lst [.int a,.int b,.int c,.int d])
structure Df (K:PySem.W.Frag) (mg:Str->Option Value) (x:Str) (f:Addr) (fd:FuncData) (ps:List Str):Prop where
 hm:mg x=some (.ref f)
 kp:PySem.W.keepIn K (.ref f)=true
 b:ay K fd ps []
def Oth (p:Addr) (H H':Hp):Prop:=∀ b,b≠p->H' b=H b
def cf:Sp:=λvs H Q _=>∃ (p:Addr) (m:Int),vs=[.ref p,.int m]/\0<m/\m<18446744073709551616/\l5 H p /\
 ∀ (r:Int) (H':Hp),0<=r->r<m->l5 H' p->Oth p H H'->Q (.int r) H'
def fU:Sp:=λvs H Q _=>∃ c:Int,vs=[.int c]/\∀ p H',H p=none->l5 H' p->Oth p H H'->Q (.ref p) H'
def fO (K:PySem.W.Frag):Sp:=λvs H Q _=>∃ (a:Addr) (k:Int) (ns:List Int),vs=[.ref a,.int k]/\SqL K H a (ns.map V.int)/\0<=k/\∀ z:Int,Q (.int z) H
def cN:Sp:=λvs H Q _=>∃ (t:Addr) (c e f:Int),vs=[.ref t,.int f]/\H t=some (.tup [.int c,.int e])/\e<=f/\Q (.int (c / 2 ^ (f - e).toNat)) H
def fP:Sp:=λvs H Q _=>∃ (t:Addr) (c e f n:Int),vs=[.ref t,.int f,.int n]/\H t=some (.tup [.int c,.int e])/\e<=f /\
 ∀ p,H p=none->Q (.ref p) (upd H p (.tup [.int (c / 2 ^ (f - e).toNat+n),.int f]))
section
variable {prog:Program}{w:World}{A:Around}{R:Result->Shared->Prop}{s:Shared}
theorem uY {JQ HJ iter:Expr}{Jy:List Expr}{scope:Scope}{pos:Pos}{it HI:Value}{env:Env}(I:Nat->Shared->Prop)
  (turn:∀ n s,I n s->wpAny (model prog w) A (pyNext it) (λr HK=>match r with
   |none=>R (.ok .next) HK
   |some v=>wpAny (model prog w) A (letOwnedTupleGo HJ it v) (λ_ MI=>wpAny (model prog w) A (assign HJ env v) (λ_ Iw =>
     wpAny (model prog w) A (forIn Jy true λc r=>if r=true then do let ok <- isTrue c env (eval c env);pure (ForInStep.yield ok) else pure (ForInStep.yield r)) (λok Kx =>
      if ok=true then wpAny (model prog w) A (eval JQ env) (λx Ml =>
       wpAny (model prog w) A (call (.builtin "list.append") [HI,x]) (λ_ s₅=>∃ m,m<n/\I m s₅) (λ_ _=>False) Ml) (λ_ _=>False) Kx
      else ∃ m,m<n/\I m Kx) (λ_ _=>False) Iw) (λ_ _=>False) MI) (λ_ _=>False) HK) (λ_ _=>False) s)
  (n:Nat) (h:I n s) :
  codeAny (model prog w) A (.compLoop (.ListComp JQ [⟨HJ,iter,Jy,0⟩] scope pos) 0 it HI env) R s:=by
 refine codeAny_loop rfl I (λn s hI=>?_) n h
 show wpAny _ A ((compTurn (.ListComp JQ [⟨HJ,iter,Jy,0⟩] scope pos) 0 it HI env).onRaise (λx=>do noteFrame x env;theTreesLotGoes x)) _ _ s
 refine wpAny_noted ?_
 rw [compTurn_list]
 refine Ny (Qx (Ny (OX (turn n s hI) (λr HK h₁=>?_) λ_ _ h'=>h'.elim)))
 cases r with
 |none=>exact NP h₁
 |some v =>
  refine Ny (OX h₁ (λ_ MI h₁'=>?_) λ_ _ h'=>h'.elim)
  refine Ny (OX h₁' (λ_ Iw K5=>Ny (OX K5 (λok Kx Mm=>?_) λ_ _ h'=>h'.elim)) λ_ _ h'=>h'.elim)
  cases ok with
  |false=>exact NP ⟨rfl,Mm⟩
  |true =>
   exact Ny (Ny (OX Mm (λx Ml h₄=>Ny (OX h₄ (λ_ s₅ h₅=>NP (NP ⟨rfl,h₅⟩)) λ_ _ h'=>h'.elim)) λ_ _ h'=>h'.elim))
end
noncomputable def di (cells:List (Str×Addr)):List (Str×NameKind)->List (Str×Addr)->List (Str×Addr)
 |[],cs=>cs
 |(n,k)::r,cs=>di cells r (if k==.free then (match cells.lookup n with|some a=>(n,a)::cs|none=>cs) else cs)
def cu (scope:Scope) (env:Env):List (Str×Addr):=di env.cells scope.names []
theorem pC (env:Env):∀ (ns:List (Str×NameKind)) (cs:List (Str×Addr)),(∀ y∈ns,y.2=.free->∃ a,env.cells.lookup y.1=some a) ->
  (forIn ns cs λ(x:Str×NameKind) (r:List (Str×Addr))=>(if (x.2==NameKind.free)=true then (do let a <- cellOf env x.1;pure (ForInStep.yield ((x.1,a)::r))) else pure (ForInStep.yield r):Sem (ForInStep (List (Str×Addr)))))=(pure (di env.cells ns cs):Sem (List (Str×Addr)))
 |[],cs,_=>rfl
 |(n,k)::r,cs,h=>by
  rw [List.forIn_cons]
  have ih:=λcs'=>pC env r cs' λy hy=>h y (NQ _ hy)
  by_cases hk:(k==NameKind.free)=true
  ·obtain ⟨a,ha⟩:=h (n,k) NM (by simpa using hk)
   have ha':env.cells.lookup n=some a:=ha
   have e:cellOf env n=pure a:=by unfold cellOf;rw [ha']
   simp only [hk,OV,e,pure_bind]
   rw [ih]
   show _=pure (di env.cells r (if k==.free then (match env.cells.lookup n with|some a=>(n,a)::cs|none=>cs) else cs))
   rw [hk,ha']
   rfl
  ·have Kb:(k==NameKind.free)=false:=by simpa using hk
   simp only [Kb,Oe,Pa,pure_bind]
   rw [ih]
   show _=pure (di env.cells r (if k==.free then (match env.cells.lookup n with|some a=>(n,a)::cs|none=>cs) else cs))
   rw [Kb]
   rfl
theorem zy {scope:Scope}{env:Env}(h:∀ y∈scope.names,y.2=.free->∃ a,env.cells.lookup y.1=some a):closureFor scope env=pure (cu scope env):=by
 have e:=pC env scope.names [] h
 unfold closureFor cu
 show (forIn scope.names ([]:List (Str×Addr)) _ >>= λcs=>pure cs)=_
 rw [bind_pure]
 exact e
theorem oo (cells:List (Str×Addr)){x:Str}{c:Addr}:∀ (ns:List (Str×NameKind)) (cs:List (Str×Addr)),(∀ c,cs.lookup x=some c->cells.lookup x=some c)->(di cells ns cs).lookup x=some c->cells.lookup x=some c
 |[],cs,h,e=>h c e
 |(n,k)::r,cs,h,e=>by
  refine oo cells r _ (λc' e'=>?_) e
  by_cases hk:(k==NameKind.free)=true
  ·rw [NC hk] at e'
   cases ha:cells.lookup n with
   |none=>rw [ha] at e';exact h c' e'
   |some a =>
    rw [ha] at e'
    by_cases hx:x==n
    ·have hx':x=n:=by simpa using hx
     subst hx'
     simp only [Ob,Qs] at e'
     rw [<- e'];exact ha
    ·have hx':(x==n)=false:=by simpa using hx
     simp only [Ob,hx'] at e'
     exact h c' e'
  ·rw [NB hk] at e'
   exact h c' e'
theorem fu (cells:List (Str×Addr)){x:Str}{a:Addr}(ha:cells.lookup x=some a):∀ (ns:List (Str×NameKind)) (cs:List (Str×Addr)),(cs.lookup x=some a\/ns.lookup x=some .free)->(∀ c,cs.lookup x=some c->c=a)->(di cells ns cs).lookup x=some a
 |[],cs,h,_=>by
  rcases h with h|h
  ·exact h
  ·simp at h
 |(n,k)::r,cs,h,hu=>by
  have step:(if k==.free then (match cells.lookup n with|some a=>(n,a)::cs|none=>cs) else cs)=cs\/∃ b,k=.free/\cells.lookup n=some b/\(if k==.free then (match cells.lookup n with|some a=>(n,a)::cs|none=>cs) else cs)=(n,b)::cs:=by
   by_cases hk:(k==NameKind.free)=true
   ·rw [NC hk]
    cases hb:cells.lookup n with
    |none=>exact .inl rfl
    |some b=>exact .inr ⟨b,by simpa using hk,rfl,rfl⟩
   ·exact .inl (by rw [NB hk])
  show (di cells r _).lookup x=some a
  by_cases hx:x=n
  ·subst hx
   rcases step with e|⟨b,hk,hb,e⟩
   ·rw [e]
    refine fu cells ha r cs ?_ hu
    rcases h with h|h
    ·exact .inl h
    ·simp only [Ob,Qs] at h
     injection h with h
     subst h
     rw [NC (by decide),ha] at e
     have:(x,a)::cs=cs:=e
     exact absurd (Ow List.length this) (by simp)
   ·rw [e]
    rw [ha] at hb
    injection hb with hb
    subst hb
    refine fu cells ha r _ (.inl (by simp)) λc hc=>?_
    simp at hc
    exact hc.symm
  ·have hxb:(x==n)=false:=by simpa using hx
   rcases step with e|⟨b,hk,hb,e⟩
   ·rw [e]
    refine fu cells ha r cs ?_ hu
    rcases h with h|h
    ·exact .inl h
    ·simp only [Ob,hxb] at h
     exact .inr h
   ·rw [e]
    refine fu cells ha r _ ?_ λc hc=>?_
    ·rcases h with h|h
     ·exact .inl (by simp only [Ob,hxb];exact h)
     ·simp only [Ob,hxb] at h
      exact .inr h
    ·simp only [Ob,hxb] at hc
     exact hu c hc
noncomputable def ef (sc scope:Scope):Bool:=(scope.kind==.function)&&scope.names.all λy=>(y.2 != .cell)&&((y.2 != .local) || (scope.names.lookup y.1==some .local)) &&
 ((y.2 != .free) || ((scope.names.lookup y.1==some .free)&&((sc.names.lookup y.1==some .cell) || (sc.names.lookup y.1==some .free))))
noncomputable def dM (N Nc:List Str) (scope:Scope) (n:Nat) (HL:List Nat):Bool:=(n+HL.length==Nc.length)&&(List.range HL.length).all λj=>(Nc[n+j]?==(HL[j]?).bind λi=>N[i]?)&&((Nc[n+j]?).bind (λy=>scope.names.lookup y)==some NameKind.free)
noncomputable def eg (n:Nat) (HL:List Nat) (U:St):St:=List.replicate n none++HL.map λi=>(U[i]?).join
def Cx.comp (X:Cx) (scope:Scope) (Nc:List Str) (C:Addr) (s₀:Shared) (H₀:Hp) (ex:List Addr):Cx :=
 { X with N:=Nc,s₀:=s₀,H₀:=H₀,env:=compEnvC scope (cu scope X.env) C X.env,outer:=X.stack,ex:=ex,fn:=λ_=>false,pn:=[],xe:=λ_ _=>False }
theorem m3 {env:Env}:∀ {names:List (Str×NameKind)}{x:Str},names.lookup x=some .free ->
  (names.map λ(n,k)=>if (k==NameKind.free&&env.scope.kind==.function&&env.kindOf n==some .cell) then (n,NameKind.cell) else (n,k)).lookup x=some .cell \/
  (names.map λ(n,k)=>if (k==NameKind.free&&env.scope.kind==.function&&env.kindOf n==some .cell) then (n,NameKind.cell) else (n,k)).lookup x=some .free
 |[],_,h=>by simp at h
 |(n,k)::r,x,h=>by
  have ih:=@m3 env r x
  show List.lookup x ((if (k==NameKind.free&&env.scope.kind==.function&&env.kindOf n==some .cell)=true then (n,NameKind.cell) else (n,k))::_)=_\/List.lookup x ((if (k==NameKind.free&&env.scope.kind==.function&&env.kindOf n==some .cell)=true then (n,NameKind.cell) else (n,k))::_)=_
  cases hx:x==n with
  |true =>
   simp only [Ob,hx] at h
   cases h
   by_cases hc:(NameKind.free==NameKind.free&&env.scope.kind==.function&&env.kindOf n==some .cell)=true
   ·rw [NC hc];simp [Ob,hx]
   ·rw [NB hc];simp [Ob,hx]
  |false =>
   simp only [Ob,hx] at h
   by_cases hc:(k==NameKind.free&&env.scope.kind==.function&&env.kindOf n==some .cell)=true
   ·rw [NC hc];simp only [Ob,hx];exact ih h
   ·rw [NB hc];simp only [Ob,hx];exact ih h
theorem m5 {env:Env}:∀ {names:List (Str×NameKind)}{x:Str},(∀ y∈names,y.2≠.cell) ->
  ((names.map λ(n,k)=>if (k==NameKind.free&&env.scope.kind==.function&&env.kindOf n==some .cell) then (n,NameKind.cell) else (n,k)).lookup x=some .cell \/
  (names.map λ(n,k)=>if (k==NameKind.free&&env.scope.kind==.function&&env.kindOf n==some .cell) then (n,NameKind.cell) else (n,k)).lookup x=some .free)->names.lookup x=some .free
 |[],_,_,h=>by simp at h
 |(n,k)::r,x,hc,h=>by
  have ih:=@m5 env r x λy hy=>hc y (NQ _ hy)
  have hk:k≠.cell:=hc (n,k) NM
  have h':List.lookup x ((if (k==NameKind.free&&env.scope.kind==.function&&env.kindOf n==some .cell)=true then (n,NameKind.cell) else (n,k))::_)=some NameKind.cell\/List.lookup x ((if (k==NameKind.free&&env.scope.kind==.function&&env.kindOf n==some .cell)=true then (n,NameKind.cell) else (n,k))::_)=some NameKind.free:=h
  cases hx:x==n with
  |true =>
   simp only [Ob,hx]
   by_cases hq:(k==NameKind.free&&env.scope.kind==.function&&env.kindOf n==some .cell)=true
   ·have:k=.free:=by
     simp only [NA] at hq
     simpa using hq.1.1
    rw [this]
   ·rw [NB hq] at h'
    simp only [Ob,hx] at h'
    rcases h' with h'|h'
    ·injection h' with h';exact absurd h' hk
    ·exact h'
  |false =>
   simp only [Ob,hx]
   by_cases hq:(k==NameKind.free&&env.scope.kind==.function&&env.kindOf n==some .cell)=true
   ·rw [NC hq] at h'
    simp only [Ob,hx] at h'
    exact ih h'
   ·rw [NB hq] at h'
    simp only [Ob,hx] at h'
    exact ih h'
structure CompSc (X:Cx) (scope:Scope):Prop where
 kind:scope.kind=.function
 nocell:∀ y∈scope.names,y.2≠.cell
 loc:∀ y∈scope.names,y.2=.local->scope.names.lookup y.1=some .local
 fr:∀ x,scope.names.lookup x=some .free->X.env.kindOf x=some .cell\/X.env.kindOf x=some .free
 fr2:∀ y∈scope.names,y.2=.free->X.env.kindOf y.1=some .cell\/X.env.kindOf y.1=some .free
theorem mem_of_lookup {α β:Type}[BEq α] [LawfulBEq α]:∀ {l:List (α×β)}{x:α}{b:β},l.lookup x=some b->(x,b)∈l
 |[],_,_,h=>by simp at h
 |(n,k)::r,x,b,h=>by
  cases hx:x==n with
  |true =>
   simp only [Ob,hx] at h
   injection h with h
   have:x=n:=by simpa using hx
   subst this;subst h
   exact NM
  |false =>
   simp only [Ob,hx] at h
   exact NQ _ (mem_of_lookup h)
theorem nK {X:Cx}{scope:Scope}(h:ef X.env.scope scope=true):CompSc X scope:=by
 unfold ef at h
 rw [NA] at h
 obtain ⟨h1,h2⟩:=h
 rw [Oq] at h2
 have h3:∀ y∈scope.names,y.2=.free->X.env.kindOf y.1=some .cell\/X.env.kindOf y.1=some .free:=λy hy e=>by
  have q:=h2 y hy
  simp only [NA,e,Sf,Qy,QJ,Pb] at q
  exact q.2.2
 refine ⟨by simpa using h1,λy hy e=>?_,λy hy e=>?_,λx e=>h3 _ (mem_of_lookup e) rfl,h3⟩
 ·have q:=h2 y hy
  simp [e] at q
 ·have q:=h2 y hy
  simp only [NA,e,Sf,Qy,Pb] at q
  exact q.1.2
section
variable {X:Cx}{pins:List (Addr×Obj)}{U:St}{H:Hp}{s:Shared}{scope:Scope}{Nc:List Str}{fp:List Addr}{C:Addr}
theorem eu {env:Env}{x:Str}{c:Addr}(h:(cu scope env).lookup x=some c):env.cells.lookup x=some c :=
 oo env.cells scope.names [] (λc e=>by simp at e) h
theorem pD {env:Env}{x:Str}{c:Addr}(h:env.cells.lookup x=some c) (hf:scope.names.lookup x=some .free):(cu scope env).lookup x=some c :=
 fu env.cells h scope.names [] (.inr hf) (λc e=>by simp at e)
theorem CompSc.clos (S:CompSc X scope) (ok:X.Ok):closureFor scope X.env=pure (cu scope X.env) :=
 zy λy hy e=>ok.has y.1 (S.fr2 y hy e)
theorem zA (I:Inv X pins U H s) (S:CompSc X scope) (hf:∀ b∈fp,bv X pins H b) (hC:s.heap.objs.size<=C) (hCf:C∉fp):(X.comp scope Nc C s H fp).Ok where
 mod:=I.ok.mod
 kind:=S.kind
 glob:=I.ok.glob
 blt:=I.ok.blt
 above:=hC
 inj:=λx y c h1 h2=>I.ok.inj x y c (eu h1) (eu h2)
 has:=λx h=>by
  have e:scope.names.lookup x=some .free:=m5 S.nocell h
  obtain ⟨c,hc⟩:=I.ok.has x (S.fr x e)
  exact ⟨c,pD hc e⟩
 cab:=λx c h=>by cases h
 hd:=I.ok.hd
 frames:=I.ok.frames
 stk:=.inl rfl
 exf:=λb hb=>⟨λe=>hCf ((show b=C from e) ▸ (show b∈fp from hb)),λx c h=>(hf b hb).2.2.2.2.1 x c (eu h)⟩
 bs:=I.bs
 bsz:=NZ I.ok.bsz I.sz
 noex:=λb o e hb=>by
  rcases (hf b hb).2.2.2.1 with z|z
  ·exact I.ok.noex b o e z
  ·exact absurd (N9 (NY e) (NZ I.ok.bsz z)) (Ps _)
 exfs:=λb hb hs=>by
  rcases NR.mp (I.stkSub b hs) with z|z
  ·exact (hf b hb).2.1 z
  ·exact (hf b hb).2.2.1 z
 funs:=I.stack
 frf:=I.stkFree
theorem vx {n:Nat}{HL:List Nat}{h₁:Heap}{tk:Nat}(I:Inv X pins U H s) (S:CompSc X scope) (LA:dM X.N Nc scope n HL=true) (hf:∀ b∈fp,bv X pins H b) (K6:∀ b∈fp,b<s.heap.objs.size)
  (MH:h₁.Ns (s.heap.objs.size+1) λ_=>none) (old:∀ b o,s.heap.get? b=some o->h₁.get? b=some o) (hD:h₁.get? s.heap.objs.size=some { cls:=.type "list",data:=.seq #[] 0 }) :
  Inv (X.comp scope Nc (s.heap.objs.size+1) s H fp) [] (eg n HL U) (upd H s.heap.objs.size (.lst [])) { s with heap:=h₁,toks:=tk }:=by
 have hCf:s.heap.objs.size+1∉fp:=λz=>Nat.not_succ_lt_self (K6 _ z)
 unfold dM at LA
 rw [NA,Oq] at LA
 obtain ⟨hl,hc⟩:=LA
 have hl':n+HL.length=Nc.length:=by simpa using hl
 refine ⟨zA I S hf (Pj _) hCf,rfl,I.bare,Un.laid old (NE _) I.fresh,⟨_,MH,?_⟩,?_,?_,?_,?_,I.hok.laid old (NE _) ⟨OM _,[],0,.nil,hD⟩,?_⟩
 ·intro i x v hN hv _
  have hi:n<=i:=by
   rcases O1 i n with z|z
   ·exfalso
    have Lz:(List.replicate n (none:Option V)++HL.map λi=>(U[i]?).join)[i]?=some (some v):=hv
    rw [OC (by simpa using z)] at Lz
    simp [z] at Lz
   ·exact z
  obtain ⟨j,rfl⟩:∃ j,i=n+j:=⟨i - n,by lia⟩
  have Lz:(List.replicate n (none:Option V)++HL.map λi=>(U[i]?).join)[n+j]?=some (some v):=hv
  rw [OZ (by simp)] at Lz
  have e1:n+j - (List.replicate n (none:Option V)).length=j:=by simp
  rw [e1,O5] at Lz
  cases ec:HL[j]? with
  |none=>rw [ec] at Lz;cases Lz
  |some i0 =>
   rw [ec] at Lz
   have Mo:(U[i0]?).join=some v:=by simpa using Lz
   have hv3:U[i0]?=some (some v):=by
    cases es:U[i0]? with
    |none=>rw [es] at Mo;cases Mo
    |some o=>rw [es] at Mo;simp at Mo;rw [Mo]
   have hj:j<HL.length:=(Oa.mp ec).1
   have q:=hc j (RT.mpr hj)
   have hN':Nc[n+j]?=some x:=hN
   rw [NA,hN',ec] at q
   obtain ⟨q1,q2⟩:=q
   have q1':X.N[i0]?=some x:=by simpa using (Pb.mp q1).symm
   have q2':scope.names.lookup x=some .free:=by simpa using q2
   obtain ⟨m,_,hm⟩:=I.loc
   have hk:=S.fr x q2'
   obtain ⟨u,ru,lk⟩:=hm i0 x v q1' hv3 (.inr hk)
   refine ⟨u,ru,?_⟩
   rcases lk with ⟨kl,_⟩|⟨_,c,hcl,ic⟩
   ·rcases hk with z|z
    ·rw [kl] at z;cases z
    ·rw [kl] at z;cases z
   ·exact .inr ⟨m3 q2',c,pD hcl q2',ic.keeps old⟩
 ·intro x c h
  obtain ⟨v,ic⟩:=I.cell x c (eu h)
  exact ⟨v,ic.keeps old⟩
 ·show upd H s.heap.objs.size (.lst []) (s.heap.objs.size+1)=none
  rw [au (Nat.succ_ne_self _)]
  exact I.hok.fresh (Pj _)
 ·intro x c h
  obtain ⟨v,ic⟩:=I.cell x c (eu h)
  rw [au (N6 ic.lt)]
  exact I.freeC x c (eu h)
 ·intro p hp
  exact absurd (show p∈([]:List (Addr×Obj)) from hp) (by simp)
 ·show (List.replicate n (none:Option V)++HL.map λi=>(U[i]?).join).length=Nc.length
  rw [NJ,Rn,Nz]
  exact hl'
theorem v7 {Lr:List (Addr×Obj)}{HD:St}{H':Hp}{s':Shared}(I:Inv X pins U H s) (hf:∀ b∈fp,bv X pins H b) (J:Inv (X.comp scope Nc C s H fp) Lr HD H' s'):Inv X pins U H' s' :=
 I.call' J.os J.base J.hok J.bare λb hb=>⟨(hf b hb).2.2.2.1,(hf b hb).2.1,(hf b hb).2.2.2.2.1,(hf b hb).2.2.2.2.2⟩
theorem Inv.but {h':Heap}(I:Inv X pins U H s) (hs:Heap.SameBut C s.heap h') (hn:H C=none) (h0:X.s₀.heap.objs.size<=C) (hl:C≠X.env.locals) (hc:∀ x c,X.env.cells.lookup x=some c->c≠C)
  (hp:∀ p∈X.pn++pins,p.1≠C):Inv X pins U H { s with heap:=h' }:=by
 refine I.call' (s':={ s with heap:=h' }) (ch:=[C]) rfl ⟨λb o e _ _ hb=>hs.extBut b o (by simpa using hb) e,λb o e _ _ hb=>⟨o.slots,hs.extBut b o (by simpa using hb) e⟩,λb o _ n _=>n,λb o e hb=>⟨o,hs.extBut b o (by simpa using hb) e⟩,
  λ_ _ z=>z,λ_ _ _ z=>z,λb ps z=>⟨#[],by simpa using z⟩⟩ (λa o e=>?_) I.bare ?_
 ·refine (I.hok a o e).stay (λb u hb q=>hs.extBut b u ?_ q) (λ_ z=>z) λ_ _ z=>z
  rcases hb with rfl|hb
  ·exact λz=>by rw [z,hn] at e;cases e
  ·exact λz=>by rw [z,hn] at hb;cases hb
 ·intro b hb
  obtain rfl:b=C:=by simpa using hb
  exact ⟨.inr h0,hl,hc,hp⟩
def PTs (X:Cx) (Jy:List Expr) (t:TT):Prop :=
 ∀ (pins:List (Addr×Obj)) (s:Shared) (U:St) (H:Hp) (Q:Bool->Hp->Prop),Inv X pins U H s->t U H Q ->
  wpAny (model X.prog X.w) X.A (forIn Jy true λc r=>if r=true then do let ok <- isTrue c X.env (eval c X.env);pure (ForInStep.yield ok) else pure (ForInStep.yield r)) (TP X pins U Q) X.xe s
def D8:TT:=λ_ H Q=>Q true H
theorem zB:PTs X [] D8:=λ_ _ _ H _ I h=>wpAny_tests_nil ⟨H,I,h⟩
theorem zC {c:Expr}{t:TT}(h:PT X c t):PTs X [c] t:=λpins s U H Q I hw=>wpAny_tests_one (h pins s U H Q I hw)
variable {JQ iter HJ:Expr}{Jy:List Expr}{pos:Pos}{n:Nat}{HL:List Nat}{wi:TI}{g:TG}{tt:TT}{te:TE}
end
section
variable {X:Cx}{K:PySem.W.Frag}
theorem bF {es:List Expr}{k:Nat}{pos:Pos}{t:TGs}{n:Nat}(hK:X.K=K) (hc:X.calm=true) (h:PGs X es t)
  (hn:(assignEach es X.env).length=n:=by rfl) (Ki:(assignEach es X.env).findIdx? (·.1)=none:=by rfl):PG X (.Tuple es k pos) (mF K n t):=by subst hK;exact By hc h hn Ki
end
section
variable {K:PySem.W.Frag}{a D:Addr}{xs:List V}{n:Nat}{HL:List Nat}{g:TG}{tt:TT}{te:TE}{U:St}{H1:Hp}{Q:Hp->Prop}
end
mutual
inductive DatV (K:PySem.W.Frag) (H:Hp):V->PyData->Prop
 |non:DatV K H .non .none
 |bl (b:Bool):DatV K H (.bl b) (.bool b)
 |int (i:Int):DatV K H (.int i) (.int i)
 |str (x:Str):DatV K H (.str x) (.str x)
 |lst {a:Addr}{xs:List V}{ds:List PyData}:SqL K H a xs->DatVs K H xs ds->DatV K H (.ref a) (.list ds)
 |tup {a:Addr}{xs:List V}{ds:List PyData}:SqT K H a xs->DatVs K H xs ds->DatV K H (.ref a) (.tuple ds)
inductive DatVs (K:PySem.W.Frag) (H:Hp):List V->List PyData->Prop
 |nil:DatVs K H [] []
 |cons {x:V}{xs:List V}{d:PyData}{ds:List PyData}:DatV K H x d->DatVs K H xs ds->DatVs K H (x::xs) (d::ds)
end
section
variable {X:Cx}{pins:List (Addr×Obj)}{U:St}{H:Hp}{s:Shared}
theorem fF (I:Inv X pins U H s):∀ {v:V}{d:PyData}{u:Value},DatV X.K H v d->ak v u->∃ as,Reads s.heap u d as:=by
 intro v d u h
 induction h using DatV.rec (motive_2:=λxs ds _=>∀ {us:List Value},aj xs us->∃ as,ReadsAll s.heap us ds as) generalizing u with
 |non=>intro r;cases (show _=Value.none from r);exact ⟨_,.none⟩
 |bl b=>intro r;cases (show _=Value.bool b from r);exact ⟨_,.bool b⟩
 |int i=>intro r;obtain ⟨t,rfl⟩:=r;exact ⟨_,.int i t⟩
 |str x=>intro r;obtain ⟨t,rfl⟩:=r;exact ⟨_,.str x t⟩
 |@lst a _ _ hq _ i =>
  intro r
  cases (show _=Value.ref a from r)
  obtain ⟨its,rv,pl,_⟩:=I.list hq
  obtain ⟨o,n,e,c,_,dd⟩:=pl
  obtain ⟨as,ra⟩:=i rv
  exact ⟨_,.list e c dd (by simpa using ra)⟩
 |@tup a _ _ hq _ i =>
  intro r
  cases (show _=Value.ref a from r)
  obtain ⟨its,rv,pl,_⟩:=I.tuple hq
  obtain ⟨o,e,c,n,dd⟩:=pl
  obtain ⟨as,ra⟩:=i rv
  exact ⟨_,.tuple e c dd (by simpa using ra)⟩
 |nil=>rename_i r;cases r;exact ⟨_,.nil⟩
 |cons _ _ i j =>
  rename_i r
  cases r with
  |cons r rs =>
   obtain ⟨as,ra⟩:=i r
   obtain ⟨bs,rb⟩:=j rs
   exact ⟨_,.cons ra rb⟩
def tG (K:PySem.W.Frag) (neg:Bool):R2:=λx y H Q=>∃ dx dy,DatV K H x dx/\DatV K H y dy/\dx.canLay0=true/\dy.canLay0=true/\min dx.depth dy.depth<=64/\Q (.bl (neg ^^ PyData.eqv dx dy)) H
theorem BX (hu:X.A.units+64<cLine):OpR X (compareOp .Eq) (tG X.K false):=by
 intro pins s U H x y v u Q I rx ry h
 obtain ⟨dx,dy,h1,h2,c1,c2,hd,q⟩:=h
 obtain ⟨as,ra⟩:=fF I h1 rx
 obtain ⟨bs,rb⟩:=fF I h2 ry
 exact PySem.SeqAt.compareEq_reads ra rb c1 c2 (by lia) ⟨.bl (PyData.eqv dx dy),H,I,rfl,by simpa using q⟩
theorem BY (hu:X.A.units+64<cLine):OpR X (compareOp .NotEq) (tG X.K true):=by
 intro pins s U H x y v u Q I rx ry h
 obtain ⟨dx,dy,h1,h2,c1,c2,hd,q⟩:=h
 obtain ⟨as,ra⟩:=fF I h1 rx
 obtain ⟨bs,rb⟩:=fF I h2 ry
 exact PySem.SeqAt.compareNe_reads ra rb c1 c2 (by lia) ⟨.bl (!PyData.eqv dx dy),H,I,rfl,by simpa using q⟩
end
section
variable {prog:Program}{w:World}{A:Around}{R:Result->Shared->Prop}{I:Addr}{fp wr:List Addr}{n:Nat}{P:Nat->Value->Prop}{St:Nat->Heap->Prop}
theorem m6 {E:Value->Shared->Prop}{s:Shared}{id:String}{b:Builtin}{args:List Value}{kw:List (Str×Value)}{Q:Value->Shared->Prop}(hk:builtinKind id=none) (hp:plainId id=true)
  (hb:entryFor table id=some b) (ha:argsOk id ⟨args,kw⟩)
  (hc:wpAny (model prog w) A.in1 (b ⟨args,kw⟩) (λfin s'=>match fin with
   |.done f=>(match (Except.ok f:Result) with|.ok (.ret v)=>Q v s'|.ok _=>False|.error e=>E e s')
   |.again c'=>c'.quiet=true/\codeAny (model prog w) A c' (λr s'=>match r with|.ok (.ret v)=>Q v s'|.ok _=>False|.error e=>E e s') s') E s) :
  wpAny (model prog w) A (call (.builtin id) args kw) Q E s:=by
 refine Sl (codeAny_call_builtin hp hb ?_)
 simp only [checkBuiltinCall,hk]
 cases hsig:Manifest.signature? id with
 |none=>exact NP hc
 |some sig =>
  simp only [argsOk,hsig] at ha
  have h2:Bind.checkArgs id sig ⟨args,kw⟩=pure ():=ha
  show wpAny _ A.in1 (Bind.checkArgs id sig ⟨args,kw⟩) _ _ s
  rw [h2];exact NP hc
theorem v9 (a d:Value):argsOk "max" ⟨[a],[(Str.ofString "default",d)]⟩:=by unfold argsOk;kernel_rfl
theorem wf (W:Walks prog w A.in1 I fp wr n P St) (bt:Nat->Nat->Bool) (K7:CmpOf prog w A.in1 .Gt P bt) (S:Addr) (hSf:S∉fp) (d:Value) :
  ∀ (k j:Nat) (s:Shared) (vb:Value) (c:Nat),n - (j+1)=k->j+1<=n->St (j+1) s.heap->P (argBest bt j) vb ->
  s.heap.get? S=some { cls:=.type "list",dict:=none,data:=.seq #[vb,vb] c,slots:=#[] } ->
  (∀ v h' tk,P (argBest bt (n - 1)) v->(∀ b o,b∉wr->b≠S->s.heap.get? b=some o->h'.get? b=some o)->R (.ok (.ret v)) { s with heap:=h',toks:=tk }) ->
  codeAny (model prog w) A (.builtin "max.loop" ⟨[.ref I,.none,.ref S],[(Str.ofString "default",d)]⟩) R s:=by
 have hSw:S∉wr:=λh=>hSf (W.sub _ h)
 have Kz:(toString "max" ++ toString ".loop":String)="max.loop":=by decide
 intro k
 induction k with
 |zero =>
  intro j s vb c hk hj Ki hPb hS hR
  have hin:j+1=n:=by lia
  refine codeAny_builtin F.entry_max_loop ?_
  rw [RF PM _]
  show wpAny _ A.in1 (seqItems? (.ref S) >>= _) _ _ s
  refine Ny (wpAny_seqItems hS rfl ?_)
  show wpAny _ A.in1 (tryCatch (pyNext (.ref I)) _ >>= _) _ _ s
  refine Ny (Q0 (W.done s _ _ (hin ▸ Ki) λh' tk Kb=>?_))
  have MJ:=Kb S _ hSw hS
  show wpAny _ A.in1 (updateSeq S (λ_=>#[]) >>= _) _ _ _
  refine Ny ?_
  refine wpAny_updateSeq MJ rfl (Ny (RY (NP ?_)))
  refine hR vb _ tk (by rw [<- hin];exact hPb) λb o LM hbS e=>(Ol _ _ (Op hbS)).trans (Kb b o LM e)
 |succ k ih =>
  intro j s vb c hk hj Ki hPb hS hR
  have K6:j+1<n:=by lia
  refine codeAny_builtin F.entry_max_loop ?_
  rw [RF PM _]
  show wpAny _ A.in1 (seqItems? (.ref S) >>= _) _ _ s
  refine Ny (wpAny_seqItems hS rfl ?_)
  show wpAny _ A.in1 (tryCatch (pyNext (.ref I)) _ >>= _) _ _ s
  refine Ny (Q0 (W.item (j+1) s _ _ K6 Ki λv h' tk hP Mp Kb=>?_))
  have MJ:=Kb S _ hSw hS
  show wpAny _ A.in1 (tryCatch (holding [v,v] (richCompare .Gt v vb >>= _)) _ >>= _) _ _ _
  refine Ny (Q0 (PF (Ny (K7 (j+1) (argBest bt j) v vb _ _ _ hP hPb ?_))))
  refine Ny (PF (OL ?_))
  refine Ny (RY (NP ?_))
  cases hb:bt (j+1) (argBest bt j) with
  |true =>
   simp only [OV]
   refine Ny ?_
   refine wpAny_updateSeq MJ rfl (Ny (RY ?_))
   rw [Kz]
   refine NP ⟨Sa PM _,ih (j+1) _ v _ (by lia) K6 (W.frame _ _ _ Mp λb hbf o e=>?_) (by simp only [argBest,hb,OV];exact hP) (Qi _ MJ rfl)
    λv' h'' LU hP' LV=>?_⟩
   ·exact (Ol _ _ (λh:S=b=>hSf (by rw [h];exact hbf))).trans e
   ·exact hR v' h'' LU hP' λb o LM hbS e=>LV b o LM hbS ((Ol _ _ (Op hbS)).trans (Kb b o LM e))
  |false =>
   simp only [Oe,Pa]
   refine Ny (RY ?_)
   rw [Kz]
   refine NP ⟨Sa PM _,ih (j+1) _ vb c (by lia) K6 Mp (by simp only [argBest,hb,Oe,Pa];exact hPb) MJ λv' h'' LU hP' LV=>?_⟩
   exact hR v' h'' LU hP' λb o LM hbS e=>LV b o LM hbS (Kb b o LM e)
theorem uf {E:Value->Shared->Prop}{s:Shared}{x d:Value}{Q:Value->Shared->Prop}
  (h:wpAny (model prog w) A.in1 (pyIter x) (λit Iw=>∃ I fp wr n P St bt,it=.ref I/\Walks prog w A.in1 I fp wr n P St/\St 0 Iw.heap/\(∀ b∈fp,b<Iw.heap.objs.size)/\CmpOf prog w A.in1 .Gt P bt /\
   (n=0->∀ h' tk,(∀ b o,b∉wr->Iw.heap.get? b=some o->h'.get? b=some o)->Q d { Iw with heap:=h',toks:=tk }) /\
   (0<n->∀ v h' tk,P (argBest bt (n - 1)) v->(∀ b o,b∉wr->Iw.heap.get? b=some o->h'.get? b=some o)->Q v { Iw with heap:=h',toks:=tk })) E s) :
  wpAny (model prog w) A (call (.builtin "max") [x] [(Str.ofString "default",d)]) Q E s:=by
 have Kz:(toString "max" ++ toString ".loop":String)="max.loop":=by decide
 refine m6 F.kind_max F.plain_max F.entry_max (v9 _ _) ?_
 show wpAny _ A.in1 (Builtin.Builtins.bindParams "max" ["key","default"] 0 ⟨[],[(Str.ofString "default",d)]⟩ >>= _) _ _ s
 refine Ny (wpAny_of_eq (show Builtin.Builtins.bindParams "max" ["key","default"] 0 ⟨[],[(Str.ofString "default",d)]⟩=pure [none,some d] from rfl) ?_)
 refine Ny (NP ?_)
 refine Ny (OX h (λit Iw K5=>?_) λ_ _ e=>e)
 obtain ⟨I,fp,wr,n,P,St,bt,rfl,W,Ki,hfp,K7,hQ0,hQ⟩:=K5
 refine Ny (wpAny_newObj_type ?_)
 have hSf:Iw.heap.objs.size∉fp:=λhm=>Ps _ (hfp _ hm)
 have hSw:Iw.heap.objs.size∉wr:=λh=>hSf (W.sub _ h)
 rw [Kz]
 have hst1:St 0 (Iw.heap.push { cls:=.type "list",dict:=none,data:=.seq #[] 0 }):=W.frame _ _ _ Ki λb _ o e=>NG _ e
 refine NP ⟨Sa PM _,?_⟩
 refine codeAny_builtin F.entry_max_loop ?_
 rw [RF PM _]
 show wpAny _ A.in1 (seqItems? (.ref Iw.heap.objs.size) >>= _) _ _ _
 refine Ny (wpAny_seqItems (NT _ rfl) rfl ?_)
 show wpAny _ A.in1 (tryCatch (pyNext (.ref I)) _ >>= _) _ _ _
 rcases Nat.eq_zero_or_pos n with hn|hn
 ·refine Ny (Q0 (W.done _ _ _ (hn ▸ hst1) λh' tk Kb=>?_))
  show wpAny _ A.in1 (rule _ >>= _) _ _ _
  refine Ny (PX (NP ?_))
  exact hQ0 hn h' tk λb o LM e=>Kb b o LM (NG _ e)
 ·refine Ny (Q0 (W.item 0 _ _ _ hn hst1 λv h' tk hP Mp Kb=>?_))
  have MJ:=Kb Iw.heap.objs.size _ hSw (NT _ rfl)
  show wpAny _ A.in1 (updateSeq Iw.heap.objs.size (λ_=>#[v,v]) >>= _) _ _ _
  refine Ny ?_
  refine wpAny_updateSeq MJ rfl ?_
  rw [Kz]
  refine NP ⟨Sa PM _,wf W bt K7 Iw.heap.objs.size hSf d _ 0 _ v _ rfl hn (W.frame _ _ _ Mp λb hbf o e=>?_) hP (Qi _ MJ rfl) λv' h'' LU hP' LV=>?_⟩
  ·exact (Ol _ _ (λh:Iw.heap.objs.size=b=>hSf (by rw [h];exact hbf))).trans e
  ·exact hQ hn v' h'' LU hP' λb o LM e=>LV b o LM (N6 (NY e)) ((Ol _ _ (N6 (NY e)).symm).trans (Kb b o LM (NG _ e)))
end
theorem d6 {α:Type}{l:List α}{i:Nat}{d:α}(h:i<l.length):l.getD i d=l[i]:=by simp [h]
noncomputable def eW (ns:List Int) (i j:Nat):Bool:=decide (ns.getD j 0<ns.getD i 0)
theorem gD (ns:List Int):∀ k i,i<=k->ns.getD i 0<=ns.getD (argBest (eW ns) k) 0
 |0,i,h=>by
  obtain rfl:i=0:=by lia
  exact PZ _
 |k+1,i,h=>by
  unfold argBest
  by_cases hb:eW ns (k+1) (argBest (eW ns) k)=true
  ·rw [NC hb]
   have hb':=Om hb
   by_cases e:i=k+1
   ·rw [e];exact PZ _
   ·have:=gD ns k i (by lia)
    lia
  ·rw [NB hb]
   by_cases e:i=k+1
   ·have hb':=OD (Sg.mpr hb)
    rw [e];lia
   ·exact gD ns k i (by lia)
theorem hZ {us:List Value}{ns:List Int}(r:aj (ns.map V.int) us){i:Nat}{v:Value}(h:us.toArray[i]?=some v):i<ns.length/\∃ t,v=.int (ns.getD i 0) t:=by
 have h':us[i]?=some v:=by simpa using h
 have hl:i<us.length:=(Oa.mp h').1
 have hn:=r.length
 rw [Nz] at hn
 have hi:i<ns.length:=by lia
 obtain ⟨u,h1,h2⟩:=r.get (i:=i) (x:=.int (ns.getD i 0)) (by simp [hi])
 rw [h'] at h1
 injection h1 with h1
 subst h1
 exact ⟨hi,h2⟩
theorem gW {s:Shared}{b:Addr}{o:Obj}(e:s.heap.get? b=some o):b∉[s.heap.objs.size]:=λz=>by
 have h:=NY e
 rw [N1.mp z] at h
 exact Ps _ h
theorem oq {s:Shared}{p:Addr}{its:Array Value}{o':Obj}(il:s.heap.IsList p its):∀ b∈[s.heap.objs.size,p],b<(s.heap.push o').objs.size:=λb hb=>by
 obtain ⟨o,e,_⟩:=il
 rw [RU]
 rcases NR.mp hb with h|h
 ·rw [h];exact Rf _
 ·rw [N1.mp h];exact O6 (NY e)
section
variable {X:Cx}
theorem ot {pins:List (Addr×Obj)}{U:St}{H:Hp}{s:Shared}{p:Addr}{ns:List Int}(hc:X.calm=true) (I:Inv X pins U H s) (hS:SqL X.K H p (ns.map V.int)) :
  ∃ its:List Value,aj (ns.map V.int) its/\its.length=ns.length/\s.heap.IsList p its.toArray/\CmpOf X.prog X.w X.A.in1 .Gt (λi v=>its.toArray[i]?=some v) (eW ns) /\
   Walks X.prog X.w X.A.in1 s.heap.objs.size [s.heap.objs.size,p] [s.heap.objs.size] its.toArray.size (λi v=>its.toArray[i]?=some v) (λi h=>h.IsListIter s.heap.objs.size p i/\h.IsList p its.toArray):=by
 obtain ⟨its,rv,pl,hz⟩:=I.list hS
 have hl:=rv.length
 rw [Nz] at hl
 refine ⟨its,rv,hl.symm,pl.isList,λi j vi vj s Q E hi hj q=>?_,Walks.list (A:=X.A.in1) (I.ok.hd hc) _ _ ?_ _⟩
 ·obtain ⟨_,t,rfl⟩:=hZ rv hi
  obtain ⟨_,t',rfl⟩:=hZ rv hj
  exact gt_int q
 ·obtain ⟨o,n,e,_⟩:=pl
  exact N6 (NY e)
theorem wg (hc:X.calm=true):a0 X (.builtin "max") (λxs H Q=>∃ p ns,xs=[.ref p]/\SqL X.K H p (ns.map V.int)/\ns≠[]/\∀ m,m∈ns->(∀ x∈ns,x<=m)->Q (.int m) H):=by
 intro pins s U H xs us Q I r h
 obtain ⟨p,ns,rfl,hS,Jc,q⟩:=h
 obtain ⟨u,rfl,ru⟩:=bh r
 cases ru
 obtain ⟨its,rv,hl,il,K7,W⟩:=ot hc I hS
 refine call_max_walk (Q7 il ⟨_,_,_,_,_,_,eW ns,rfl,W,⟨⟨_,NT _ rfl,rfl,rfl⟩,il.push _⟩,oq il,?_,K7,λv h' tk hP hk=>?_⟩)
 ·have:0<ns.length:=RL.mpr Jc
  rw [NW];lia
 ·obtain ⟨hi,t,rfl⟩:=hZ rv hP
  refine ⟨.int _,H,I.kept λb o e=>hk b o (gW e) (NG _ e),⟨t,rfl⟩,q _ ?_ λx hx=>?_⟩
  ·rw [d6 hi];exact Pu hi
  ·obtain ⟨j,hj,rfl⟩:=Ot.mp hx
   have:=gD ns (its.toArray.size - 1) j (by rw [NW];lia)
   rw [d6 hj] at this
   exact this
def fQ (X:Cx) (f:Value) (ks:List Str) (r:List V->List V->Hp->VK->Prop):Prop :=
 ∀ (pins:List (Addr×Obj)) (s:Shared) (U:St) (H:Hp) (xs zs:List V) (us ws:List Value) (Q:VK),Inv X pins U H s->aj xs us->aj zs ws->r xs zs H Q ->
  wpAny (model X.prog X.w) X.A (call f us (ks.zip ws)) (EP X pins U Q) X.xe s
def mI (r:List V->List V->Hp->VK->Prop) (t tk:TA):TE:=λU H Q=>t U H λvs H1=>tk U H1 λzs H2=>r vs zs H2 Q
theorem nM {x:Str}{p pos:Pos}{e:Expr}{es:List Expr}{LR:List Keyword}{t tk:TA}{id:String}{ks:List Str}{r:List V->List V->Hp->VK->Prop}(hc:fQ X (.builtin id) ks r) (hg:Gl X x) (hm:X.mg x=none)
  (hv:bootBuiltins x=some (.builtin id)) (ha:PA X (e::es) t) (hkw:PK X LR tk) (hks:(backToKw pos (keywordEach LR X.env)).filterMap (·.1)=ks:=by rfl) (hn:x ≠ "__name__":=by decide) (JH:(x==("__debug__":Str))=false:=by decide)
  (he:backTo pos (starEach (e::es) X.env)=(false,eval e X.env)::backTo pos (starEach es X.env):=by rfl)
  (IN:(backTo pos (starEach (e::es) X.env)).any (·.1)=false:=by rfl)
  (Kk:(backToKw pos (keywordEach LR X.env)).all (·.1.isSome)=true:=by rfl)
  (LW:(backToKw pos (keywordEach LR X.env)).any (·.1.isNone)=false:=by rfl):PE X (.Call (.Name x p) (e::es) LR pos) (mI r t tk):=by
 intro pins s U H Q I h
 refine P8 (ee I hg hm hv ?_ hn JH)
 refine PyProof.Rows.callWith_kw (thn (ha pos pins s U H _ I h) λus s1 zy12=>?_) he IN Kk LW
 obtain ⟨vs,H1,I1,r1,q1⟩:=zy12
 refine thn (hkw pos pins s1 U H1 _ I1 q1) λws s2 zy13=>?_
 obtain ⟨zs,H2,I2,r2,q2⟩:=zy13
 rw [hks]
 exact hc pins s2 U H2 vs zs us ws Q I2 r1 r2 q2
theorem wj (hc:X.calm=true):fQ X (.builtin "max") ["default"] (λxs zs H Q=>∃ p ns d,xs=[.ref p]/\zs=[d]/\SqL X.K H p (ns.map V.int)/\(ns=[]->Q d H)/\(ns≠[]->∀ m,m∈ns->(∀ x∈ns,x<=m)->Q (.int m) H)):=by
 intro pins s U H xs zs us ws Q I r rz h
 obtain ⟨p,ns,d,rfl,rfl,hS,q0,q⟩:=h
 obtain ⟨u,rfl,ru⟩:=bh r
 obtain ⟨v,rfl,rv'⟩:=bh rz
 cases ru
 obtain ⟨its,rv,hl,il,K7,W⟩:=ot hc I hS
 show wpAny _ _ (call (.builtin "max") [.ref p] [(Str.ofString "default",v)]) _ _ s
 refine uf (Q7 il ⟨_,_,_,_,_,_,eW ns,rfl,W,⟨⟨_,NT _ rfl,rfl,rfl⟩,il.push _⟩,oq il,K7,λh0 h' tk hk=>?_,λh0 v h' tk hP hk=>?_⟩)
 ·have hn:ns=[]:=OB.mp (hl.symm.trans (by simpa using h0))
  exact ⟨d,H,I.kept λb o e=>hk b o (gW e) (NG _ e),rv',q0 hn⟩
 ·have hn:ns≠[]:=λe=>by
   rw [e] at hl
   have h0':0<its.length:=by simpa using h0
   rw [hl] at h0'
   exact Ps _ h0'
  obtain ⟨hi,t,rfl⟩:=hZ rv hP
  refine ⟨.int _,H,I.kept λb o e=>hk b o (gW e) (NG _ e),⟨t,rfl⟩,q hn _ ?_ λx hx=>?_⟩
  ·rw [d6 hi];exact Pu hi
  ·obtain ⟨j,hj,rfl⟩:=Ot.mp hx
   have:=gD ns (its.toArray.size - 1) j (by rw [NW];lia)
   rw [d6 hj] at this
   exact this
end
def Its (x:Str):It:=⟨λi _=>i<x.cps.toList.length,λi H v H'=>H'=H/\∃ c,x.cps.toList[i]?=some c/\v=.str ⟨#[c]⟩,λi _=>x.cps.toList.length<=i⟩
theorem ou {P:Program}{w:World}{K:PySem.W.Frag}{tg:Expr}(it:Addr) (x:Str) (t:Tok) (ty:String) (LK:ty="str_ascii_iterator" \/ ty="str_iterator"):Turn P w K tg (Its x) [it] it (λi h=>h.IsStrIter it ty x t i) where
 mem:=by simp
 obj:=λi h st b hb=>by
  have e:b=it:=by simpa using hb
  subst e
  obtain ⟨o,e,c,d⟩:=st
  exact ⟨o,e,λv z=>by rw [d] at z;cases z⟩
 keep:=λi h h' st k=>let ⟨o,ho,r⟩:=st;⟨o,k it (by simp) o ho,r⟩
 item:=by
  intro X hP hw hK hc i pins s U H E I hf st hg
  subst hP hw hK
  obtain ⟨f0,f1,f2,f3,f4,f5⟩:=hf it (by simp)
  have hi:i<x.cps.size:=by simpa [Its] using hg
  have hx:x.cps[i]?=some x.cps[i]:=by simp [hi]
  have fin:∀ h',h'.IsStrIter it ty x t (i+1)->Heap.SameBut it s.heap h'->(∃ u,some (Value.str ⟨#[x.cps[i]]⟩ s.toks)=some u /\
    wpAny (model X.prog X.w) X.A (letOwnedTupleGo tg (.ref it) u) (λ_ s2=>∃ y H',Inv X pins U H' s2/\ak y u/\(Its x).yld i H y H'/\s2.heap.IsStrIter it ty x t (i+1)/\∀ b∈[it],H' b=none) E { s with heap:=h',toks:=s.toks+1 }):=λh' Ls sb=>by
   have I1:Inv X pins U H { s with heap:=h',toks:=s.toks+1 }:=I.turned (λb o hb e=>(sb.2 b hb).trans e) f0 f1 f3 f4 f5
   obtain ⟨o,e,c,d⟩:=id Ls
   refine ⟨_,rfl,lU (s:={ s with heap:=h',toks:=s.toks+1 }) (n:=ty) e c d (by rcases LK with rfl|rfl<;>decide) ⟨.str ⟨#[x.cps[i]]⟩,H,I1,⟨_,rfl⟩,⟨rfl,x.cps[i],by simp [hi],rfl⟩,Ls,λb hb=>(hf b hb).1⟩⟩
  rcases LK with rfl|rfl
  ·exact wpAny_pyNext_ascii_item st hx λh' Ls sb=>fin h' Ls sb
  ·exact wpAny_pyNext_wide_item st hx λh' Ls sb=>fin h' Ls sb
 done:=by
  intro X hP hw hK hc i pins s U H E I hf st hg
  subst hP hw hK
  obtain ⟨f0,f1,f2,f3,f4,f5⟩:=hf it (by simp)
  have hi:x.cps.size<=i:=by simpa [Its] using hg
  have hx:x.cps[i]?=none:=by simp [hi]
  rcases LK with rfl|rfl
  ·exact wpAny_pyNext_ascii_end (I.ok.hd hc) st hx λh' eb=>⟨rfl,I.turned (t':=s.toks) (λb o hb e=>eb b o hb e) f0 f1 f3 f4 f5⟩
  ·exact wpAny_pyNext_wide_end (I.ok.hd hc) st hx λh' eb=>⟨rfl,I.turned (t':=s.toks) (λb o hb e=>eb b o hb e) f0 f1 f3 f4 f5⟩
 self:=λ_ _ _ _ _ st h=>by
  rcases LK with rfl|rfl
  ·exact wpAny_pyIter_striter_ascii st h
  ·exact wpAny_pyIter_striter_wide st h
section
variable {X:Cx}{tg:Expr}
def Gk (tl:TE):TI:=λU H R=>tl U H λx H1=>∃ z,x=.str z/\R (Its z) H1
theorem BZ {l:Expr}{tl:TE}(hl:PE X l tl):PI X tg l (Gk tl):=by
 intro pins s U H R I h
 refine thn (hl pins s U H _ I h) λv s1 zz42=>?_
 obtain ⟨x,H1,I1,r1,q1⟩:=zz42
 obtain ⟨z,e,q⟩:=q1
 subst e
 obtain ⟨t,rfl⟩:=r1
 have fp:∀ b∈[s1.heap.objs.size],bv X pins H1 b:=λb hb=>by
  have e:b=s1.heap.objs.size:=by simpa using hb
  subst e
  exact I1.fpOk (NE _) (I1.hok.fresh (NE _))
 cases ha:z.cps.all (·<128)
 ·exact wpAny_pyIter_wide ha ⟨s1.heap.objs.size,[s1.heap.objs.size],_,_,H1,rfl,I1.kept (t':=s1.toks) λb o e=>NG _ e,ou _ z t "str_iterator" (.inr rfl),⟨_,NT _ rfl,rfl,rfl⟩,fp,q⟩
 ·exact wpAny_pyIter_ascii ha ⟨s1.heap.objs.size,[s1.heap.objs.size],_,_,H1,rfl,I1.kept (t':=s1.toks) λb o e=>NG _ e,ou _ z t "str_ascii_iterator" (.inl rfl),⟨_,NT _ rfl,rfl,rfl⟩,fp,q⟩
end
section
variable {X:Cx}
theorem wm:OpR X (compareOp .LtE) (λx y H Q=>∃ i j,x=.str i/\y=.str j/\Q (.bl (!decide (j.cps.toList<i.cps.toList))) H):=by
 intro pins s U H x y v u Q I rx ry h
 obtain ⟨i,j,rfl,rfl,q⟩:=h
 obtain ⟨t,rfl⟩:=rx
 obtain ⟨t',rfl⟩:=ry
 exact PySem.P.le_str (aH I q rfl)
def Gm:V->Option Int->Option Int->Hp->VK->Prop:=λx lo hi H Q=>∃ z,x=.str z/\z.length<=sizeLine/\Q (.str (Txt.slice z lo hi)) H
theorem gX {v:Value}{o:Option Int}(p:IsPart v o):∃ q:Option (Int×Tok),v=partValue q/\q.map (·.1)=o:=by
 cases p with
 |none=>exact ⟨none,rfl,rfl⟩
 |int i t=>exact ⟨some (i,t),rfl,rfl⟩
theorem B3:SlR X Gm:=by
 intro pins s U H x v vl vu lo hi sl Q I rx hs pl pu h
 obtain ⟨z,rfl,hz,q⟩:=h
 obtain ⟨t,rfl⟩:=rx
 obtain ⟨ql,rfl,rfl⟩:=gX pl
 obtain ⟨qu,rfl,rfl⟩:=gX pu
 obtain ⟨o,ho,hc,hd⟩:=hs
 refine ⟨"str",_,F.slot_str_getitem.lookup,Qq _ _ _,wpAny_getItem_str_slice (l:=ql) (u:=qu) (st:=none) ⟨o,ho,hc,hd⟩ rfl (post_val_or_str ⟨NZ (Txt.slice_le z _ _) hz,λt' k=>?_⟩)⟩
 exact ⟨.str (Txt.slice z (ql.map (·.1)) (qu.map (·.1))),H,I.tok k,⟨t',rfl⟩,q⟩
theorem wn (hc:X.calm=true):a0 X (.builtin "all") (λxs H Q=>∃ (p:Addr) (bs:List Bool),xs=[.ref p]/\SqL X.K H p (bs.map V.bl)/\Q (.bl (bs.all id)) H):=by
 intro pins s U H xs us Q I r h
 obtain ⟨p,bs,rfl,hS,q⟩:=h
 obtain ⟨u,rfl,ru⟩:=bh r
 cases ru
 obtain ⟨its,rv,pl,hz⟩:=I.list hS
 have il:=pl.isList
 have hl:=rv.length
 rw [Nz] at hl
 have bAt:∀ {i:Nat}{v:Value},its.toArray[i]?=some v->v=.bool (bs.getD i true):=fun {i v} h=>by
  have h':its[i]?=some v:=by simpa using h
  have hi:i<its.length:=(Oa.mp h').1
  have hb:i<bs.length:=by lia
  obtain ⟨u,h1,h2⟩:=rv.get (i:=i) (x:=.bl (bs.getD i true)) (by simp [hb])
  rw [h'] at h1
  injection h1 with h1
  subst h1
  exact h2
 have W:=Walks.list (prog:=X.prog) (w:=X.w) (A:=X.A.in1) (I.ok.hd hc) s.heap.objs.size p (by
  obtain ⟨o,n,e,_⟩:=pl
  exact N6 (NY e)) its.toArray
 refine call_all_walk (Q7 il ⟨_,_,_,_,_,_,λi=>bs.getD i true,rfl,W,⟨⟨_,NT _ rfl,rfl,rfl⟩,il.push _⟩,λi v s Q E hv hq=>?_,λh' tk hk=>?_⟩)
 ·rw [bAt hv]
  exact OL hq
 ·refine ⟨.bl _,H,I.kept λb o e=>hk b o (gW e) (NG _ e),?_,q⟩
  show Value.bool _=Value.bool _
  congr 1
  have e1:its.toArray.size=bs.length:=by rw [NW];lia
  rw [e1]
  clear q hS rv bAt W hl e1
  rw [N7,Oq,Oq]
  constructor
  ·intro h b hb
   obtain ⟨i,hi,rfl⟩:=Ot.mp hb
   have:=h i (RT.mpr hi)
   rw [d6 hi] at this
   exact this
  ·intro h i hi
   have hi':=RT.mp hi
   rw [d6 hi']
   exact h _ (Pu hi')
def B4:V->List V->Hp->VK->Prop:=λx vs H Q=>∃ a b,x=.str a/\vs=[.str b]/\b.length≠0/\a.length<=1000/\∀ l,H l=none->Q (.ref l) (upd H l (.lst ((Txt.split a b).map V.str)))
theorem nN:∀ {l:List (Str×Tok)},aj (l.map λp=>V.str p.1) (strValues l)
 |[]=>.nil
 |(x,t)::r=>.cons ⟨t,rfl⟩ nN
theorem xD:MtR X "str.split" B4:=by
 intro pins s U H x vs v us Q I rx rv h
 obtain ⟨a,b,rfl,rfl,hb,hz,q⟩:=h
 obtain ⟨t,rfl⟩:=rx
 obtain ⟨u,rfl,t2,rfl⟩:=bh rv
 have Ik:=Ro a b
 have hy:(b.length==0)=false:=by simpa using hb
 have hbig:1002<=sizeLine:=by decide
 have hsz:a.length<=sizeLine:=by lia
 have fin:∀ (l:List (Str×Tok)) (k:Nat),l.map (·.1)=Txt.split a b->EP X pins U Q (.ref s.heap.objs.size) { s with heap:=s.heap.push { cls:=.type "list",data:=.seq (strValues l).toArray },toks:=k }:=λl k e=>by
  have e1:l.length=(Txt.split a b).length:=by rw [<- e,Nz]
  have e2:(l.map λp=>V.str p.1)=(Txt.split a b).map V.str:=by rw [<- e,NV];rfl
  refine ⟨.ref _,_,I.lnew (its:=strValues l) (ys:=l.map λp=>V.str p.1) nN (by rw [Nz];lia),rfl,?_⟩
  rw [e2]
  exact q _ I.fresh
 cases h1:(decide (a.length<b.length) || decide (Builtin.Str.strKind a<Builtin.Str.strKind b))
 ·cases hf:(Builtin.Str.occurrences a b 0 a.length (a.length+1)).isEmpty
  ·have e3:Txt.split a b=Builtin.Str.partsBetween a (Builtin.Str.occurrences a b 0 a.length (a.length+1)) b.length:=(NB (RM h1)).trans (NB (RM hf))
   have hsz2:(Builtin.Str.partsBetween a (Builtin.Str.occurrences a b 0 a.length (a.length+1)) b.length).length<=sizeLine:=by rw [<- e3];lia
   refine Qr F.slot_str_split (Qq _ _ _) Sh (R0 _ _) (meets_str_split_sep a b t t2 h1 hy hf hsz hsz2) ?_
   show wants _ _ _ { s with toks:=_,heap:=s.heap.push { cls:=.type "list",data:=.seq (strsFrom s.toks (Builtin.Str.partsBetween a (Builtin.Str.occurrences a b 0 a.length (a.length+1)) b.length)).toArray } }
   rw [strsFrom_eq]
   exact fin (numbered s.toks _) _ ((numbered_texts _ _).trans e3.symm)
  ·exact Qr F.slot_str_split (Qq _ _ _) Sh (R0 _ _) (meets_str_split_not_found a b t t2 h1 hy hf)
    (fin [(a,t)] s.toks ((NB (RM h1)).trans (NC hf)).symm)
 ·exact Qr F.slot_str_split (Qq _ _ _) Sh (R0 _ _) (meets_str_split_cannot_occur a b t t2 h1)
   (fin [(a,t)] s.toks (NC h1).symm)
theorem dB:∀ {zs:List Str}{its:List Value},aj (zs.map V.str) its->∃ l:List (Str×Tok),its=strValues l/\l.map (·.1)=zs
 |[],_,r=>by
  rw [Pr] at r
  cases r
  exact ⟨[],rfl,rfl⟩
 |z::zs,_,r=>by
  rw [NF] at r
  cases r with
  |cons r1 r2 =>
   obtain ⟨t,rfl⟩:=r1
   obtain ⟨l,rfl,e⟩:=dB r2
   exact ⟨(z,t)::l,rfl,by rw [NF,e]⟩
def D9 (K:PySem.W.Frag):V->List V->Hp->VK->Prop:=λx vs H Q=>∃ (a:Str) (p:Addr) (zs:List Str),x=.str a/\vs=[.ref p]/\SqL K H p (zs.map V.str)/\JoinOk a zs=true/\Q (.str (Txt.join a zs)) H
theorem zD:MtR X "str.join" (D9 X.K):=by
 intro pins s U H x vs v us Q I rx rv h
 obtain ⟨a,p,zs,rfl,rfl,hS,hok,q⟩:=h
 obtain ⟨t,rfl⟩:=rx
 obtain ⟨u,rfl,ru⟩:=bh rv
 cases ru
 obtain ⟨its,r,pl,hz⟩:=I.list hS
 obtain ⟨l,rfl,e⟩:=dB r
 exact SC.join pl.isList e hok λt' k=>⟨.str (Txt.join a zs),H,I.tok k,⟨t',rfl⟩,q⟩
def B5:V->List V->Hp->VK->Prop:=λx vs H Q=>∃ a b,x=.str a/\vs=[.str b]/\a.length<=sizeLine/\Q (.str (Txt.stripChars a b)) H
theorem xE:MtR X "str.strip" B5:=by
 intro pins s U H x vs v us Q I rx rv h
 obtain ⟨a,b,rfl,rfl,hz,q⟩:=h
 obtain ⟨t,rfl⟩:=rx
 obtain ⟨u,rfl,t2,rfl⟩:=bh rv
 exact SC.stripChars (λt' k=>⟨.str (Txt.stripChars a b),H,I.tok k,⟨t',rfl⟩,q⟩) hz
end
section
variable {κ:Type}[DecidableEq κ]
noncomputable def aN (kvs:List (κ×V)) (k:κ):Option V:=(kvs.find? λkv=>decide (kv.1=k)).map (·.2)
noncomputable def bw (kvs:List (κ×V)) (k:κ) (v:V):List (κ×V) :=
 if (kvs.any λkv=>decide (kv.1=k))=true then kvs.map (λkv=>if kv.1=k then (kv.1,v) else kv) else kvs++[(k,v)]
noncomputable def dN (kvs:List (κ×V)) (k:κ):List (κ×V):=kvs.filter λkv=>decide (kv.1≠k)
theorem jX {p:κ×V}{r:List (κ×V)}{k:κ}(e:p.1=k):aN (p::r) k=some p.2:=by simp [aN,Oy,e]
theorem jY {p:κ×V}{r:List (κ×V)}{k:κ}(e:¬ p.1=k):aN (p::r) k=aN r k:=by simp [aN,Oy,e]
theorem ow (k:κ):∀ kvs:List (κ×V),(kvs.any λkv=>decide (kv.1=k))=(aN kvs k).isSome
 |[]=>rfl
 |p::r=>by
  rw [O0]
  by_cases e:p.1=k
  ·simp only [jX e,NK e,Bool.true_or,R3]
  ·rw [jY e,NS e,Qy];exact ow k r
theorem jw (kvs:List (κ×V)) (k:κ) (v:V):(bw kvs k v).length<=kvs.length+1:=by
 unfold bw
 split
 ·rw [Nz];lia
 ·rw [NJ,NU,OI];lia
theorem bi.isSome_eq {o:Option V}{u:Option Value}(r:bi o u):o.isSome=u.isSome:=by
 cases o with
 |none=>cases u with
  |none=>rfl
  |some _=>exact (show False from r).elim
 |some _=>cases u with
  |none=>exact (show False from r).elim
  |some _=>rfl
theorem KV.val {kvs:List (κ×V)}{vs:List (κ×Value)}(r:KV kvs vs) (k:κ):bi (aN kvs k) (valueAt vs k):=by
 unfold KV at r
 induction r with
 |nil=>exact True.intro
 |@cons p q ps qs h t ih =>
  obtain ⟨h1,h2⟩:=h
  by_cases e:p.1=k
  ·have e':q.1=k:=h1.symm.trans e
   have b:valueAt (q::qs) k=some q.2:=by simp [valueAt,Oy,e']
   rw [jX e,b];exact h2
  ·have e':¬ q.1=k:=λz=>e (h1.trans z)
   have b:valueAt (q::qs) k=valueAt qs k:=by simp [valueAt,Oy,e']
   rw [jY e,b];exact ih
theorem KV.any {kvs:List (κ×V)}{vs:List (κ×Value)}(r:KV kvs vs) (k:κ):(kvs.any λkv=>decide (kv.1=k))=vs.any λkv=>decide (kv.1=k):=by
 unfold KV at r
 induction r with
 |nil=>rfl
 |cons h t ih=>rw [O0,O0,ih,h.1]
theorem KV.repl {kvs:List (κ×V)}{vs:List (κ×Value)}(r:KV kvs vs) (k:κ){y:V}{u:Value}(ry:ak y u) :
  KV (kvs.map λkv=>if kv.1=k then (kv.1,y) else kv) (vs.map λkv=>if kv.1=k then (kv.1,u) else kv):=by
 unfold KV at r ⊢
 induction r with
 |nil=>exact .nil
 |@cons p q ps qs h t ih =>
  rw [NF,NF]
  refine .cons ?_ ih
  obtain ⟨h1,h2⟩:=h
  by_cases e:p.1=k
  ·rw [NC e,NC (h1.symm.trans e)];exact ⟨h1,ry⟩
  ·rw [NB e,NB (λz=>e (h1.trans z))];exact ⟨h1,h2⟩
theorem KV.put {kvs:List (κ×V)}{vs:List (κ×Value)}(r:KV kvs vs) (k:κ){y:V}{u:Value}(ry:ak y u):KV (bw kvs k y) (stored vs k u):=by
 unfold bw stored
 rw [r.any k]
 by_cases e:(vs.any λkv=>decide (kv.1=k))=true
 ·rw [NC e,NC e];exact r.repl k ry
 ·rw [NB e,NB e];exact Paired.snoc r ⟨rfl,ry⟩
theorem KV.drop {kvs:List (κ×V)}{vs:List (κ×Value)}(r:KV kvs vs) (k:κ):KV (dN kvs k) (without vs k):=by
 unfold KV at r ⊢
 unfold dN without
 induction r with
 |nil=>exact .nil
 |@cons p q ps qs h t ih =>
  obtain ⟨h1,h2⟩:=h
  rw [Ou,Ou]
  by_cases e:p.1=k
  ·have a:¬ decide (p.1≠k)=true:=by simp [e]
   have b:¬ decide (q.1≠k)=true:=by simp [h1.symm.trans e]
   rw [NB a,NB b];exact ih
  ·have e':¬ q.1=k:=λz=>e (h1.trans z)
   have a:decide (p.1≠k)=true:=by simp [e]
   have b:decide (q.1≠k)=true:=by simp [e']
   rw [NC a,NC b];exact .cons ⟨h1,h2⟩ ih
theorem KV.length {kvs:List (κ×V)}{vs:List (κ×Value)}(r:KV kvs vs):kvs.length=vs.length:=Paired.length r
theorem xF (kvs:List (κ×V)) (k:κ):(dN kvs k).length<=kvs.length:=Pd _ _
end
theorem dO {P:Program}{w:World}{k:Key}{u:Value}(r:ak (kV k) u):(aO P w).is k u=true:=by
 cases k with
 |inl i=>obtain ⟨t,e⟩:=(show ∃ t,u=Value.int i t from r);subst e;exact uT P w i t
 |inr x=>obtain ⟨t,e⟩:=(show ∃ t,u=Value.str x t from r);subst e;exact uU P w x t
theorem nO {P:Program}{w:World}:∀ {ks:List Key}{us:List Value},aj (ks.map kV) us->ItemsAre (aO P w) ks us
 |[],_,r=>by rw [Pr] at r;cases r;exact .nil
 |k::ks,_,r=>by
  rw [NF] at r
  cases r with
  |cons h t=>exact .cons (dO h) (nO t)
abbrev KT (H:Hp):List (List Key×V)->List (List Key×Addr×Value)->Prop:=Paired λp q=>p.1=q.1/\H q.2.1=some (.tup (p.1.map kV))/\ak p.2 q.2.2
theorem KT.val {H:Hp}{kvs:List (List Key×V)}{xs:List (List Key×Addr×Value)}(r:KT H kvs xs) (k:List Key):bi (aN kvs k) ((atKey xs k).map (·.2)):=by
 induction r with
 |nil=>exact True.intro
 |@cons p q ps qs h t ih =>
  obtain ⟨h1,_,h2⟩:=h
  by_cases e:p.1=k
  ·have e':q.1=k:=h1.symm.trans e
   have b:atKey (q::qs) k=some q.2:=by simp [atKey,Oy,e']
   rw [jX e,b];exact h2
  ·have e':¬ q.1=k:=λz=>e (h1.trans z)
   have b:atKey (q::qs) k=atKey qs k:=by simp [atKey,Oy,e']
   rw [jY e,b];exact ih
theorem KT.repl {H:Hp}{kvs:List (List Key×V)}{xs:List (List Key×Addr×Value)}(r:KT H kvs xs) (k:List Key){y:V}{u:Value}(ry:ak y u) :
  KT H (kvs.map λkv=>if kv.1=k then (kv.1,y) else kv) (xs.map (putAt k u)):=by
 induction r with
 |nil=>exact .nil
 |@cons p q ps qs h t ih =>
  rw [NF,NF]
  refine .cons ?_ ih
  obtain ⟨h1,h2,h3⟩:=h
  unfold putAt
  by_cases e:p.1=k
  ·rw [NC e,NC (h1.symm.trans e)];exact ⟨h1,h2,ry⟩
  ·rw [NB e,NB (λz=>e (h1.trans z))];exact ⟨h1,h2,h3⟩
theorem KT.put {H:Hp}{kvs:List (List Key×V)}{xs:List (List Key×Addr×Value)}(r:KT H kvs xs) (k:List Key){b:Addr}{y:V}{u:Value}(hb:H b=some (.tup (k.map kV))) (ry:ak y u) :
  KT H (bw kvs k y) (storedH xs k b u):=by
 have e:(kvs.any λkv=>decide (kv.1=k))=(atKey xs k).isSome:=by
  rw [ow,(r.val k).isSome_eq,Option.isSome_map]
 unfold bw storedH
 rw [e]
 by_cases q:(atKey xs k).isSome=true
 ·rw [NC q,NC q];exact r.repl k ry
 ·rw [NB q,NB q];exact Paired.snoc r ⟨rfl,hb,ry⟩
theorem KT.keeps {H H':Hp}{kvs:List (List Key×V)}{xs:List (List Key×Addr×Value)}(r:KT H kvs xs) (ht:∀ b ys,H b=some (.tup ys)->H' b=some (.tup ys)):KT H' kvs xs :=
 Paired.mapP r λ_ _ z=>⟨z.1,ht _ _ z.2.1,z.2.2⟩
section
variable {P:Program}{w:World}{H:Hp}{h:Heap}{a:Addr}
theorem se {u:HO}(ok:HOk P w H h) (e:Rd H a u):aQ P w H h a u:=e.ok ok
theorem D' {kvs:List (Key×V)}(ok:HOk P w H h) (e:Rd H a (.dK kvs)):kvs.length<=sizeLine/\(a==sysModules)=false/\∃ vs,KV kvs vs/\h.DictOf (aO P w) a vs :=
 show aQ P w H h a (.dK kvs) from se ok e
theorem eI {kvs:List (Key×V)}(ok:HOk P w H h) (e:H a=some (.dK kvs)):kvs.length<=sizeLine/\(a==sysModules)=false/\∃ vs,KV kvs vs/\h.DictOf (aO P w) a vs:=D' ok (.inl e)
theorem qy {ks:List Key}(ok:HOk P w H h) (e:H a=some (.tup (ks.map kV))):(tupleKind (aO P w)).is h ks a:=by
 obtain ⟨_,its,r,o,h1,h2,n,h3⟩:=(show aQ P w H h a (.tup (ks.map kV)) from ok a _ e)
 exact ⟨o,its.toArray,n,h1,h2,h3,by simpa using nO r⟩
theorem Ea {kvs:List (List Key×V)}(ok:HOk P w H h) (e:Rd H a (.dT kvs)):kvs.length<=sizeLine/\(a==sysModules)=false /\
  ∃ xs,KT H kvs xs/\h.DictOfH (tupleKind (aO P w)) a xs:=by
 obtain ⟨z,y,xs,r,o,es,ep,h1,h2,h3,h4,h5⟩:=(show aQ P w H h a (.dT kvs) from se ok e)
 refine ⟨z,y,xs,r,o,es,ep,h1,h2,h3,h4,λx hx=>?_,h5⟩
 have all:∀ {l:List (List Key×V)}{m:List (List Key×Addr×Value)},KT H l m->∀ x∈m,(tupleKind (aO P w)).is h x.1 x.2.1:=by
  intro l m q
  induction q with
  |nil=>intro x hx;exact nomatch hx
  |@cons p q ps qs hq t ih =>
   intro x hx
   rcases NR.mp hx with e|hx
   ·subst e
    exact qy ok (by rw [<- hq.1];exact hq.2.1)
   ·exact ih x hx
 exact all r x hx
theorem Eb {kvs:List (List Key×V)}(ok:HOk P w H h) (e:H a=some (.dT kvs)):kvs.length<=sizeLine/\(a==sysModules)=false /\
  ∃ xs,KT H kvs xs/\h.DictOfH (tupleKind (aO P w)) a xs:=Ea ok (.inl e)
end
def Hn (H:Hp) (a:Addr) (y:V) (r:Option V):Prop :=
 (∃ kvs k,Rd H a (.dK kvs)/\y=kV k/\r=aN kvs k)\/∃ kvs k b,Rd H a (.dT kvs)/\y=.ref b/\H b=some (.tup (k.map kV))/\r=aN kvs k
def iL (H:Hp) (a:Addr) (y v:V) (H':Hp):Prop :=
 (∃ kvs k,H a=some (.dK kvs)/\y=kV k/\kvs.length<sizeLine/\H'=upd H a (.dK (bw kvs k v))) \/
 ∃ kvs k b,H a=some (.dT kvs)/\y=.ref b/\H b=some (.tup (k.map kV))/\kvs.length<sizeLine/\H'=upd H a (.dT (bw kvs k v))
theorem iL.k {H:Hp}{a:Addr}{kvs:List (Key×V)}{k:Key}{v:V}(e:H a=some (.dK kvs)) (hl:kvs.length<sizeLine):iL H a (kV k) v (upd H a (.dK (bw kvs k v))):=.inl ⟨kvs,k,e,rfl,hl,rfl⟩
section
variable {X:Cx}{pins:List (Addr×Obj)}{U:St}{H:Hp}{s:Shared}{a:Addr}{y v:V}{u r:Value}{o:Option V}{A:Around}{E:Value->Shared->Prop}
theorem Inv.big (I:Inv X pins U H s):sysModules<s.heap.objs.size:=by
 have h:mainGlobals<s.heap.objs.size:=(I.mod.glob.keeps I.bk).lt
 exact Nat.lt_trans (by decide) h
theorem gY {h':Heap}{t':Nat}{ob:HO}(I:Inv X pins U H s) (mu:Mut (H a)) (hs:Heap.SameBut a s.heap h') (he:∃ q,h'.get? a=some q) (new:aQ X.prog X.w (upd H a ob) h' a ob) :
  Inv X pins U (upd H a ob) { s with heap:=h',toks:=t' } :=
 I.write (x:=a) (e:=a) mu (.inl rfl) (λb q hb z=>(hs.2 b hb).trans z) he new
theorem kZ {P:Program}{w:World}{H':Hp}{h':Heap}{kvs:List (Key×V)}{vs:List (Key×Value)}(z:kvs.length<=sizeLine) (hd:(a==sysModules)=false) (rel:KV kvs vs) (dd:h'.DictOf (aO P w) a vs) :
  aQ P w H' h' a (.dK kvs):=⟨z,hd,vs,rel,dd⟩
theorem wq {H':Hp}{Q:Unit->Shared->Prop}(hu:A.units+1<cLine) (I:Inv X pins U H s) (g:iL H a y v H') (ry:ak y u) (rv:ak v r) (h:∀ s',Inv X pins U H' s'->Q () s') :
  wpAny (model X.prog X.w) A (setItem (.ref a) u r) Q E s:=by
 rcases g with ⟨kvs,k,e,ey,l,eH⟩|⟨kvs,k,b,e,ey,eb,l,eH⟩
 ·subst ey eH
  obtain ⟨z,hd,vs,rel,dd⟩:=eI I.hok e
  have hz:vs.length<=sizeLine:=by rw [<- rel.length];exact z
  have hl:(bw kvs k v).length<=sizeLine:=by have:=jw kvs k v;lia
  refine wpAny_setItem_pairs (hsz:=hz) (dO ry) dd λh' Mb hs=>h _ ?_
  have he:∃ q,h'.get? a=some q:=let ⟨q,_,_,hq,_⟩:=Mb;⟨q,hq⟩
  exact gY I (by rw [e];exact True.intro) hs he (kZ hl hd (rel.put k rv) Mb)
 ·subst ey eH
  cases (show u=Value.ref b from ry)
  obtain ⟨z,hd,xs,rel,dd⟩:=Eb I.hok e
  have hz:xs.length<=sizeLine:=by rw [<- Paired.length rel];exact z
  have hl:(bw kvs k v).length<=sizeLine:=by have:=jw kvs k v;lia
  refine wpAny_setItem_heap (hsz:=hz) (tupleKind_room_in1 hu) (qy I.hok eb) dd λh' Mb hs=>h _ ?_
  obtain ⟨q,es,ep,hq,h2,h3,h4,_,h5⟩:=Mb
  refine gY I (by rw [e];exact True.intro) hs ⟨q,hq⟩ ⟨hl,hd,_,(rel.put k eb rv).keeps λc ys ec=>?_,q,es,ep,hq,h2,h3,h4,h5⟩
  rw [au (cF ec e (λz=>nomatch z))]
  exact ec
end
section
variable {X:Cx}{pins:List (Addr×Obj)}{U:St}{H:Hp}{s:Shared}{a:Addr}{kvs:List (Key×V)}{k:Key}{u:Value}{A:Around}{E:Value->Shared->Prop}
theorem Ec {v:V}{more:List Value}{Q:Value->Shared->Prop}(I:Inv X pins U H s) (e:H a=some (.dK kvs)) (ry:ak (kV k) u) (l:aN kvs k=some v) (hm:more=[]\/∃ x,more=[x])
  (h:∀ w' s',Inv X pins U (upd H a (.dK (dN kvs k))) s'->ak v w'->Q w' s'):wpAny (model X.prog X.w) A (call (.builtin "dict.pop") (.ref a::u::more)) Q E s:=by
 obtain ⟨z,hd,vs,rel,dd⟩:=eI I.hok e
 obtain ⟨w',hw,K3⟩:=bi.some_of (v:=v) (o:=valueAt vs k) (by rw [<- l];exact rel.val k)
 have hp:(keyPart u).isSome=true:=by
  cases k with
  |inl i=>obtain ⟨t,q⟩:=(show ∃ t,u=Value.int i t from ry);subst q;rfl
  |inr x=>obtain ⟨t,q⟩:=(show ∃ t,u=Value.str x t from ry);subst q;rfl
 have ha:argsOk "dict.pop" ⟨.ref a::u::more,[]⟩:=by
  rcases hm with q|⟨x,q⟩
  ·subst q;exact PySem.F.args_dict_pop_2 _ _
  ·subst q;exact PySem.F.args_dict_pop_3 _ _ _
 refine call_meetsIn PySem.F.slot_dict_pop dd.typeIs PySem.F.entry_dict_pop ha (meets_dict_pop_there (aO X.prog X.w) a (dO ry) more hm hp)
  ⟨vs,w',dd,by rw [<- rel.length];exact z,hw,λh' Mb hs=>h w' _ ?_ K3⟩
 have he:∃ q,h'.get? a=some q:=let ⟨q,_,_,hq,_⟩:=Mb;⟨q,hq⟩
 exact gY I (by rw [e];exact True.intro) hs he (kZ (NZ (xF kvs k) z) hd (rel.drop k) Mb)
end
def gi (i:Expr):Prop:=∀ ov iv,subscripted i false ov iv=operate [ov,iv] (getItem ov iv)
theorem zE {prog:Program}{w:World}{A:Around}{E:Value->Shared->Prop}{s:Shared}{env:Env}{value slice:Expr}{pos:Pos}{T id:String}{Q:Value->Shared->Prop}
  (hl:typeLookup (.type T) "__getitem__"=pure (some (.builtin id))) (hs:gi slice)
  (h:wpAny (model prog w) A (eval value env) (λo HK=>wpAny (model prog w) A (eval slice env) (λi Iw=>Iw.TypeIs o T/\wpAny (model prog w) A (getItem o i) Q E Iw) E HK) E s) :
  wpAny (model prog w) A (eval (.Subscript value slice pos) env) Q E s:=by
 refine Subscript_ (OX h (λo HK h₁=>OX h₁ (λi Iw K5=>?_) λ_ _ x=>x) λ_ _ x=>x)
 obtain ⟨hT,K5⟩:=K5
 unfold subscriptTail
 refine Ny ?_
 rw [getitemInPython_of_ne hT.not_modules]
 refine Ny (wpAny_specialOf hT hl ?_)
 have fin:wpAny (model prog w) A (subscripted slice false o i) (λr Kx=>wpAny (model prog w) A (letTemporaryGo value o r >>= λ_=>pure r) Q E Kx) E Iw:=by
  rw [hs o i]
  exact wpAny_operating (OX K5 (λr Kx Mm=>Ny (wpAny_letTemporaryGo (NP Mm))) λ_ _ x=>x)
 first
  |exact NP (Ny fin)
  |exact Ny (NP (Ny fin))
  |exact Ny fin
section
variable {X:Cx}{o i e value:Expr}{pos IZ IV:Pos}{td ty tv:TE}
end
theorem xG {P:Program}{w:World}{H:Hp}(h:Heap) (hb:sysModules<h.objs.size):aQ P w H (h.push { cls:=.type "dict",data:=.dict #[] }) h.objs.size (.dK []) :=
 ⟨OM _,P4.mpr (Op (N6 hb)),[],.nil,Heap.DictOf.new h⟩
def B8:TE:=λ_ H Q=>∀ p,H p=none->Q (.ref p) (upd H p (.dK []))
section
variable {X:Cx}{pos:Pos}
theorem xH:PE X (.Dict [] [] pos) B8:=λpins s U H Q I h =>
 wpAny_Dict_empty ⟨.ref s.heap.objs.size,_,I.laid (a:=s.heap.objs.size) (o:=.dK []) (t':=s.toks) (λ_ _ q=>NG _ q) (NE _) (xG s.heap I.big),rfl,h _ (I.hok.fresh (NE _))⟩
end
def G8 (kvs more:List (Key×V)):List (Key×V):=more.foldl (λHI kv=>bw HI kv.1 kv.2) kvs
structure M1 (X:Cx) (o:Expr) (m:Str) (apos:Pos) (e:Expr) (cpos:Pos):Prop where
 base:attributeBase o m X.env (eval o X.env)=eval o X.env
 few:((backTo cpos (starEach [e] X.env)).all (λx=>!x.1)&&(backToKw cpos (keywordEach [] X.env)).all (λx=>x.1.isSome)
  && decide (([e]:List Expr).length+([]:List Keyword).length+(if ([]:List Keyword).isEmpty then 0 else 1)<30))=true
 line:(apos.endLine==cpos.line)=true
 trees:backTo cpos (starEach [e] X.env)=[(false,eval e X.env)]
structure M2 (X:Cx) (o:Expr) (m:Str) (apos:Pos) (e f:Expr) (cpos:Pos):Prop where
 base:attributeBase o m X.env (eval o X.env)=eval o X.env
 few:((backTo cpos (starEach [e,f] X.env)).all (λx=>!x.1)&&(backToKw cpos (keywordEach [] X.env)).all (λx=>x.1.isSome)
  && decide (([e,f]:List Expr).length+([]:List Keyword).length+(if ([]:List Keyword).isEmpty then 0 else 1)<30))=true
 line:(apos.endLine==cpos.line)=true
 trees:backTo cpos (starEach [e,f] X.env)=[(false,eval e X.env),(false,eval f X.env)]
section
variable {X:Cx}{pins:List (Addr×Obj)}{U:St}{H:Hp}{s:Shared}{a:Addr}{y d:V}{u r:Value}{o:Option V}{A:Around}{E:Value->Shared->Prop}
end
section
variable {X:Cx}{o e f:Expr}{apos cpos:Pos}{td ty tx:TE}
end
section
variable {X:Cx}{pins:List (Addr×Obj)}{U:St}{H:Hp}{s:Shared}{a:Addr}{kvs:List (Key×V)}{A:Around}{E:Value->Shared->Prop}
end
section
variable {X:Cx}{pins:List (Addr×Obj)}{U:St}{H:Hp}{s:Shared}{a:Addr}{y:V}{u:Value}{A:Around}{E:Value->Shared->Prop}
end
section
variable {κ:Type}[DecidableEq κ]
end
def bz (D:Addr) (zs:List V):HO:=.ext λh=>zs.length<=sizeLine/\∃ (its:List Value) (n:Nat),aj zs its/\h.get? D=some { cls:=.type "list",data:=.seq its.toArray n }
theorem Inv.toAcc {X:Cx}{pins:List (Addr×Obj)}{U:St}{H:Hp}{s:Shared}{D:Addr}{zs:List V}(I:Inv X pins U H s) (h:H D=some (.lst zs)):Inv X pins U (upd H D (bz D zs)) s:=by
 obtain ⟨z,its,n,r,e⟩:=I.hok D _ h
 obtain ⟨hh,g,d,t,os⟩:=s
 exact I.write (t':=t) (h':=hh) (x:=D) (e:=D) (by rw [h];trivial) (.inl rfl) (λb u _ q=>q) ⟨_,e⟩ ⟨⟨z,its,n,r,e⟩,⟨_,e⟩,λh1 h2 zz43 k=>by obtain ⟨z',its',n',r',e'⟩:=zz43;exact ⟨z',its',n',r',k _ e'⟩⟩
theorem Inv.ofAcc {X:Cx}{pins:List (Addr×Obj)}{U:St}{H:Hp}{s:Shared}{D:Addr}{zs:List V}(I:Inv X pins U H s) (h:H D=some (bz D zs)):Inv X pins U (upd H D (.lst zs)) s:=by
 obtain ⟨⟨z,its,n,r,e⟩,_,_⟩:=I.hok D _ h
 obtain ⟨hh,g,d,t,os⟩:=s
 exact I.write (t':=t) (h':=hh) (x:=D) (e:=D) (by rw [h];trivial) (.inl rfl) (λb u _ q=>q) ⟨_,e⟩ ⟨z,its,n,r,e⟩
section
variable {X:Cx}{pins:List (Addr×Obj)}{U:St}{H:Hp}{s:Shared}{scope:Scope}{Nc:List Str}{fp:List Addr}{C:Addr}
def qz (J:It) (n:Nat) (HL:List Nat) (g:TG) (tt:TT) (te:TE) (U:St) (H1:Hp) (Q:VK):Prop:=∀ D,H1 D=none->∃ W:Nat->Nat->List V->St->Hp->Prop,(∃ m,W 0 m [] (eg n HL U) (upd H1 D (bz D [])))/\∀ i m zs σc H,W i m zs σc H ->
 H D=some (bz D zs)/\((J.stop i H/\Q (.ref D) (upd H D (.lst zs)))\/(J.go i H/\∃ N:List V->St->Hp->Prop,(∀ Mc HD H',N Mc HD H'->∃ m',m'<m/\W (i+1) m' Mc HD H')/\∀ x H',J.yld i H x H'->g x σc H' λIM H2=>tt IM H2 λb H3 =>
  if b=true then te IM H3 λy H4=>H4 D=some (bz D zs)/\zs.length<sizeLine/\N (zs++[y]) IM (upd H4 D (bz D (zs++[y]))) else N zs IM H3))
def k6 (wi:TI) (n:Nat) (HL:List Nat) (g:TG) (tt:TT) (te:TE):TE:=λU H Q=>wi U H λJ H1=>qz J n HL g tt te U H1 Q
variable {JQ iter HJ:Expr}{Jy:List Expr}{pos:Pos}{n:Nat}{HL:List Nat}{wi:TI}{g:TG}{tt:TT}{te:TE}
theorem ng {J:It}{it:Addr}{tn:Nat->Heap->Prop}{Q:VK}{E:Value->Shared->Prop}{RR:Value->Addr->Result->Shared->Prop}(Jl:X.calm=true) (S:CompSc X scope) (LA:dM X.N Nc scope n HL=true)
  (hg:∀ C s₀ H₀ ex,PG (X.comp scope Nc C s₀ H₀ ex) HJ g) (ht:∀ C s₀ H₀ ex,PTs (X.comp scope Nc C s₀ H₀ ex) Jy tt) (he:∀ C s₀ H₀ ex,PE (X.comp scope Nc C s₀ H₀ ex) JQ te)
  (I:Inv X pins U H s) (T:Turn X.prog X.w X.K HJ J fp it tn) (t0:tn 0 s.heap) (hf:∀ b∈fp,bv X pins H b) (hw:qz J n HL g tt te U H Q)
  (fin:∀ (D:Addr) (s':Shared) (H':Hp) (m:Str->Option Value),Inv X pins U H' s'->H' (s.heap.objs.size+1)=none->s'.heap.Ns (s.heap.objs.size+1) m->Q (.ref D) H'->RR (.ref D) (s.heap.objs.size+1) (.ok .next) s') :
  wpAny (model X.prog X.w) X.A (newList []) (λHI Kx=>wpAny (model X.prog X.w) X.A (newFunctionEnv scope X.env.globals (cu scope X.env) [] X.env.qual none .none (some X.env)) (λcenv Ml =>
   codeAny (model X.prog X.w) X.A (.compStart (.ListComp JQ [⟨HJ,iter,Jy,0⟩] scope pos) 0 (.ref it) HI { cenv with scope:=relabel scope X.env }) (RR HI cenv.locals) Ml) E Kx) E s:=by
 refine wpAny_newObj_type (wpAny_newFunctionEnv S.nocell (by intro y hy;simp at hy) (λh₁ Kl JR=>?_) S.kind)
 dsimp only at Kl JR ⊢
 generalize hH2:s.heap.push { cls:=.type "list",dict:=none,data:=.seq ([]:List Value).toArray }=H2 at Kl JR ⊢
 have hC:H2.objs.size=s.heap.objs.size+1:=by rw [<- hH2,RU]
 rw [hC] at Kl JR
 have K6:∀ b∈fp,b<s.heap.objs.size:=λb hb=>by
  obtain ⟨o,e,_⟩:=T.obj _ _ t0 b hb
  exact NY e
 have old:∀ b o,s.heap.get? b=some o->h₁.get? b=some o:=λb o e=>JR.extBut b o (N6 (O6 (NY e))) (NG _ (hH2 ▸ NG _ e))
 have hD:h₁.get? s.heap.objs.size=some { cls:=.type "list",data:=.seq #[] 0 }:=JR.extBut _ _ (N6 (Rf _)) (NG _ (hH2 ▸ NT _ rfl))
 have I0:Inv (X.comp scope Nc (s.heap.objs.size+1) s H fp) [] (eg n HL U) (upd H s.heap.objs.size (.lst [])) { s with heap:=h₁,toks:=s.toks+([]:List (Str×Value)).length } :=
  vx I S LA hf K6 Kl old hD
 replace I0:=I0.toAcc (D:=s.heap.objs.size) aG
 rw [gT] at I0
 obtain ⟨W,⟨m0,w0⟩,turn⟩:=hw s.heap.objs.size I.fresh
 have fr0:∀ b∈fp,upd H s.heap.objs.size (bz s.heap.objs.size []) b=none:=λb hb=>by
  rw [au (N6 (K6 b hb))]
  exact (hf b hb).1
 have stat:∀ {H':Hp},(∀ b∈fp,H' b=none)->∀ b∈fp,bv (X.comp scope Nc (s.heap.objs.size+1) s H fp) [] H' b:=λhn b hb =>
  ⟨hn b hb,(λe=>N6 (O6 (K6 b hb)) e),I0.ok.exfs b hb,.inl hb,(I0.ok.exf b hb).2,λp hp=>absurd (show p∈([]:List (Addr×Obj)) from hp) (by simp)⟩
 have loop:codeAny (model X.prog X.w) X.A (.compLoop (.ListComp JQ [⟨HJ,iter,Jy,0⟩] scope pos) 0 (.ref it) (.ref s.heap.objs.size) (compEnvC scope (cu scope X.env) (s.heap.objs.size+1) X.env))
   (RR (.ref s.heap.objs.size) (s.heap.objs.size+1)) { s with heap:=h₁,toks:=s.toks+([]:List (Str×Value)).length }:=by
  refine uY (λm s'=>∃ i zs HD H',Inv (X.comp scope Nc (s.heap.objs.size+1) s H fp) [] HD H' s'/\tn i s'.heap/\(∀ b∈fp,H' b=none)/\W i m zs HD H') ?_ m0
   ⟨0,_,_,_,I0,T.keep _ _ _ t0 λb _ o e=>old b o e,fr0,w0⟩
  rintro m s3 ⟨i,zs,Ma,H3,I3,st3,fr3,w3⟩
  obtain ⟨hD3,w3'⟩:=turn i m zs Ma H3 w3
  rcases w3' with ⟨stop,qn⟩|⟨go,N,hN,step⟩
  ·refine thn (T.done (X.comp scope Nc (s.heap.objs.size+1) s H fp) rfl rfl rfl Jl i [] s3 Ma H3 _ I3 (stat fr3) st3 stop) λr s4 zy14=>?_
   obtain ⟨hr,I4⟩:=zy14
   subst hr
   obtain ⟨m4,hn4,_⟩:=I4.loc
   have I4':=I4.ofAcc hD3
   exact fin _ s4 _ m4 (v7 I hf I4') I4'.free hn4 qn
  ·refine thn (T.item (X.comp scope Nc (s.heap.objs.size+1) s H fp) rfl rfl rfl Jl i [] s3 Ma H3 _ I3 (stat fr3) st3 go) λr s4 zy15=>?_
   obtain ⟨u,hr,h4⟩:=zy15
   subst hr
   refine thn h4 λ_ s5 zz44=>?_
   obtain ⟨x,H5,I5,r5,y5,MX,fr5⟩:=zz44
   have I5':=I5.pinned (stat fr5) (T.obj _ _ MX)
   refine thn (hg _ _ _ _ _ s5 Ma H5 x u _ I5' r5 (step x H5 y5)) λ_ s6 zz45=>?_
   obtain ⟨Mj,H6,I6,q6⟩:=zz45
   refine thn (ht _ _ _ _ _ s6 Mj H6 _ I6 q6) λok s7 zz46=>?_
   obtain ⟨H7,I7,q7⟩:=zz46
   have again:∀ {s8:Shared}{H8:Hp}{zs8:List V},Inv (X.comp scope Nc (s.heap.objs.size+1) s H fp) ([]++fN fp s5.heap) Mj H8 s8->N zs8 Mj H8 ->
     ∃ m',m'<m/\∃ i zs HD H',Inv (X.comp scope Nc (s.heap.objs.size+1) s H fp) [] HD H' s8/\tn i s8.heap/\(∀ b∈fp,H' b=none)/\W i m' zs HD H':=fun {s8 H8 zs8} I8 n8=>by
    obtain ⟨m',hm,w8⟩:=hN zs8 Mj H8 n8
    refine ⟨m',hm,i+1,zs8,Mj,H8,I8.unpinned,T.keep _ _ _ MX λb hb o e=>(I8.pin (b,o) (Oh _ (Oh _ (gE hb e)))).1,λb hb=>?_,w8⟩
    obtain ⟨o,e,d⟩:=T.obj _ _ MX b hb
    exact (I8.pin (b,o) (Oh _ (Oh _ (gE hb e)))).2.1
   cases ok with
   |false =>
    rw [NB N5] at q7 ⊢
    exact again I7 q7
   |true =>
    rw [NC rfl] at q7 ⊢
    refine thn (he _ _ _ _ _ s7 Mj H7 _ I7 q7) λy s8 zz47=>?_
    obtain ⟨v8,H8,I8,r8,hz,hl,q8⟩:=zz47
    refine thn (nI _ s8 Mj _ (.ref s.heap.objs.size) [v8] (.ref s.heap.objs.size) [y] (λ_ H9=>H9=upd H8 s.heap.objs.size (.lst (zs++[v8]))) (I8.ofAcc hz) rfl (.cons r8 .nil) ⟨_,zs,v8,rfl,rfl,aG,hl,by rw [gT]⟩) λ_ s9 zz48=>?_
    obtain ⟨_,H9,I9,_,q9⟩:=zz48
    subst q9
    have I9':=I9.toAcc (D:=s.heap.objs.size) aG
    rw [gT] at I9'
    exact again I9' q8
 have e2:({ newEnv scope H2.objs.size X.env.globals (cu scope X.env) X.env.qual none .none (some X.env) builtinsNs with scope:=relabel scope X.env }:Env)=compEnvC scope (cu scope X.env) (s.heap.objs.size+1) X.env:=by
  rw [hC];rfl
 have e3:(newEnv scope H2.objs.size X.env.globals (cu scope X.env) X.env.qual none .none (some X.env) builtinsNs).locals=s.heap.objs.size+1:=hC
 rw [e2,e3]
 exact codeAny_compStart_list loop (T.self _ 0 _ _ _ (T.keep _ _ _ t0 λb _ o e=>old b o e) loop)
theorem xI (Nc:List Str) (n:Nat) (HL:List Nat) (Jl:X.calm=true) (hi:PI X HJ iter wi) (hg:∀ C s₀ H₀ ex,PG (X.comp scope Nc C s₀ H₀ ex) HJ g) (ht:∀ C s₀ H₀ ex,PTs (X.comp scope Nc C s₀ H₀ ex) Jy tt)
  (he:∀ C s₀ H₀ ex,PE (X.comp scope Nc C s₀ H₀ ex) JQ te) (M3:ef X.env.scope scope=true:=by rfl) (LA:dM X.N Nc scope n HL=true:=by rfl) (hs:∀ x,foldedSetIterable iter X.env x=pure x:=by intro _;rfl) :
  PE X (.ListComp JQ [⟨HJ,iter,Jy,0⟩] scope pos) (k6 wi n HL g tt te):=by
 intro pins s U H Q I h
 have S:=nK M3
 rw [eval_ListComp]
 refine wpAny_comprehension_free (use:=none) rfl hs (S.clos I.ok) S.kind S.loc (thn (hi pins s U H _ I h) λv s1 h1=>thn h1 λitv s2 h2=>?_)
 obtain ⟨it,fp,tn,J,H2,e,I2,T,t2,f2,hw⟩:=h2
 subst e
 refine ng (RR:=λHI C=>compPost (model X.prog X.w) X.A X.xe none (EP X pins U Q) HI C) Jl S LA hg ht he I2 T t2 f2 hw ?_
 intro D s' H' m I' hn MH q
 refine ⟨m,MH,λh' M4=>⟨.ref D,H',?_,rfl,q⟩⟩
 refine I'.but M4 hn (NZ I2.sz (Pj _)) (λe=>?_) (λx c hc e=>?_) λp hp e=>?_
 ·exact N6 (O6 I2.lt) e.symm
 ·obtain ⟨v,ic⟩:=I2.cell x c hc
  exact N6 (O6 ic.lt) e
 ·exact N6 (O6 (NY (I2.pin p hp).1)) e
theorem xJ {i:Nat}{x:Str}{px LX:Pos}(Nc:List Str) (n:Nat) (HL:List Nat) (Jl:X.calm=true) (hN:X.N.Nodup) (hix:X.N[i]?=some x) (hx:Loc X.env.scope x) (hi:PI X HJ iter wi) (hg:∀ C s₀ H₀ ex,PG (X.comp scope Nc C s₀ H₀ ex) HJ g)
  (ht:∀ C s₀ H₀ ex,PTs (X.comp scope Nc C s₀ H₀ ex) Jy tt) (he:∀ C s₀ H₀ ex,PE (X.comp scope Nc C s₀ H₀ ex) JQ te)
  (hsw:swapsWith (.ListComp JQ [⟨HJ,iter,Jy,0⟩] scope pos) (some (.Name x px)) LX.line X.env=pure true:=by rfl) (M3:ef X.env.scope scope=true:=by rfl) (LA:dM X.N Nc scope n HL=true:=by rfl)
  (hs:∀ x,foldedSetIterable iter X.env x=pure x:=by intro _;rfl) (hf:X.fn x=true\/X.env.scope.names.lookup x=some .local:=by first|exact .inl rfl|exact .inr rfl|assumption) :
  PS X (.Assign [.Name x px] (.ListComp JQ [⟨HJ,iter,Jy,0⟩] scope pos) LX) (eT (k6 wi n HL g tt te) (io i)):=by
 intro pins s U H D I h
 have S:=nK M3
 rw [exec_Assign_Name_used _ _ _ _ hsw]
 refine Ny (Qx (Ny ?_))
 show wpAny _ X.A (do let _ <- comprehension (.ListComp JQ [⟨HJ,iter,Jy,0⟩] scope pos) scope X.env _ (newList []) false (eval iter X.env) (some (assign (.Name x px) X.env))) _ _ s
 refine Ny (thn (wpAny_comprehension_free (use:=some (assign (.Name x px) X.env)) (Q:=λ_ s'=>SP X pins D .next s') rfl hs (S.clos I.ok) S.kind S.loc
  (thn (hi pins s U H _ I h) λv s1 h1=>thn h1 λitv s2 h2=>?_)) λ_ s' hq=>NP (NP hq))
 obtain ⟨it,fp,tn,J,H2,e,I2,T,t2,f2,hw⟩:=h2
 subst e
 refine ng (RR:=λHI C=>compPost (model X.prog X.w) X.A X.xe (some (assign (.Name x px) X.env)) (λ_ s'=>SP X pins D .next s') HI C) Jl S LA hg ht he I2 T t2 f2 hw ?_
 intro Da s' H' m I' hn MH q
 show wpAny _ X.A (assign (.Name x px) X.env (.ref Da)) _ _ s'
 obtain ⟨oC,es,ep,eo,ed,rC⟩:=id MH
 have nl:s2.heap.objs.size+1≠X.env.locals:=λe=>N6 (O6 I2.lt) e.symm
 have nc:∀ y c,X.env.cells.lookup y=some c->c≠s2.heap.objs.size+1:=λy c hc e=>by
  obtain ⟨v,ic⟩:=I2.cell y c hc
  exact N6 (O6 ic.lt) e
 have np:∀ p∈X.pn++pins,p.1≠s2.heap.objs.size+1:=λp hp e=>N6 (O6 (NY (I2.pin p hp).1)) e
 have I3:Inv X (pins++[(s2.heap.objs.size+1,oC)]) U H' s':=I'.pins_of λp hp=>by
  rcases NL.mp hp with z|z
  ·exact I'.pin p (Oh _ z)
  ·obtain rfl:p=(s2.heap.objs.size+1,oC):=by simpa using z
   refine ⟨eo,hn,nl,λhb=>?_,λv e=>?_⟩
   ·have h1:=I2.nofs (a:=s2.heap.objs.size+1) (Pj _)
    exact h1 hb
   ·rw [ed] at e;cases e
 refine wpAny_assign_Name (jV I3 hN hix hx (u:=.ref Da) (v:=.ref Da) rfl (λs4 I4=>?_) hf)
 have g4:s4.heap.get? (s2.heap.objs.size+1)=some oC:=(I4.pin (s2.heap.objs.size+1,oC) (Oh _ (Oh _ (by simp)))).1
 refine ⟨m,⟨oC,es,ep,g4,ed,rC⟩,λh' M4=>?_⟩
 exact ⟨_,H',I4.unpinned.but M4 hn (NZ I2.sz (Pj _)) nl nc np,q⟩
end
def tH (w:World) (od:Obj) (kvs:List (Key×V)):Prop:=kvs.length<=sizeLine/\∀ P:Program,∃ vs,KV kvs vs/\od.IsDictOf (aO P w) vs
noncomputable def fzH (w:World) (a:Addr) (od:Obj) (kvs:List (Key×V)):HO:=.ext λh=>h.get? a=some od/\tH w od kvs/\(a==sysModules)=false
theorem wt {P P':Program}{w:World}{es:List DictEntry}{vs:List (Key×Value)}(d:Pairs (aO P w) es vs):Pairs (aO P' w) es vs:=by
 induction d with
 |nil=>exact .nil
 |cons h1 h2 _ ih=>exact .cons h1 h2 ih
theorem mJ {α β:Type}{F:α->β->Prop}:∀ {l:List α}{m:List β}{i:Nat}{b:β},Paired F l m->m[i]?=some b->∃ a,l[i]?=some a/\F a b
 |_,_,_,_,.nil,e=>by simp at e
 |_,_,0,_,.cons h _,e=>by simp at e;subst e;exact ⟨_,rfl,h⟩
 |_,_,i+1,_,.cons _ t,e=>by
  obtain ⟨a,h1,h2⟩:=mJ (i:=i) t (by simpa using e)
  exact ⟨a,by simpa using h1,h2⟩
theorem zF {P P':Program}{w:World}{od:Obj}{vs:List (Key×Value)}(h:od.IsDictOf (aO P w) vs):od.IsDictOf (aO P' w) vs:=by
 obtain ⟨es,ep,a,b,c,d,e⟩:=h
 exact ⟨es,ep,a,b,c,wt d,e⟩
section
variable {X:Cx}{pins:List (Addr×Obj)}{U:St}{H:Hp}{s:Shared}{a d:Addr}{od:Obj}{kvs:List (Key×V)}{k:Key}{y v:V}{u r:Value}{A:Around}{E:Value->Shared->Prop}
theorem Ed {P:Program}{w:World}{k:Key}{u:Value}(h:(aO P w).is k u=true):ak (kV k) u:=by
 rcases cy h with ⟨i,t,rfl,rfl⟩|⟨x,t,rfl,rfl⟩
 ·exact ⟨t,rfl⟩
 ·exact ⟨t,rfl⟩
theorem Inv.toFz (I:Inv X pins U H s) (e:H a=some (.dK kvs)):∃ od,Inv X pins U (upd H a (fzH X.w a od kvs)) s:=by
 obtain ⟨z,hd,vs,rel,dd⟩:=eI I.hok e
 obtain ⟨od,ho,hio⟩:=Heap.dictOf_iff.mp dd
 obtain ⟨hh,g,dr,t,os⟩:=s
 refine ⟨od,I.write (t':=t) (h':=hh) (x:=a) (e:=a) (by rw [e];trivial) (.inl rfl) (λb u _ q=>q) ⟨_,ho⟩ ⟨⟨ho,⟨z,λP=>⟨vs,rel,zF hio⟩⟩,hd⟩,⟨_,ho⟩,λh1 h2 p k=>⟨k _ p.1,p.2⟩⟩⟩
theorem fV (I:Inv X pins U H s) (e:H a=some (fzH X.w a od kvs)):s.heap.get? a=some od/\tH X.w od kvs/\(a==sysModules)=false:=(I.hok a _ e).1
theorem Inv.ofFz (I:Inv X pins U H s) (e:H a=some (fzH X.w a od kvs)):Inv X pins U (upd H a (.dK kvs)) s:=by
 obtain ⟨ho,⟨z,dz⟩,hd⟩:=fV I e
 obtain ⟨vs,rel,dd⟩:=dz X.prog
 obtain ⟨hh,g,dr,t,os⟩:=s
 exact I.write (t':=t) (h':=hh) (x:=a) (e:=a) (by rw [e];trivial) (.inl rfl) (λb u _ q=>q) ⟨_,ho⟩ ⟨z,hd,vs,rel,Heap.dictOf_iff.mpr ⟨od,ho,dd⟩⟩
def RdK (w:World) (H:Hp) (a:Addr) (kvs:List (Key×V)):Prop:=H a=some (.dK kvs)\/∃ od,H a=some (fzH w a od kvs)
theorem rdK (I:Inv X pins U H s) (e:RdK X.w H a kvs):kvs.length<=sizeLine/\(a==sysModules)=false/\∃ vs,KV kvs vs/\s.heap.DictOf (aO X.prog X.w) a vs:=by
 rcases e with e|⟨od,e⟩
 ·exact eI I.hok e
 ·obtain ⟨ho,⟨z,dz⟩,hd⟩:=fV I e
  obtain ⟨vs,rel,dd⟩:=dz X.prog
  exact ⟨z,hd,vs,rel,Heap.dictOf_iff.mpr ⟨od,ho,dd⟩⟩
theorem wu {Q:Value->Shared->Prop}(I:Inv X pins U H s) (g:RdK X.w H a kvs) (l:aN kvs k=some v) (ry:ak (kV k) u) (h:∀ w' s',Inv X pins U H s'->ak v w'->Q w' s'):wpAny (model X.prog X.w) A (getItem (.ref a) u) Q E s:=by
 obtain ⟨z,hd,vs,rel,dd⟩:=rdK I g
 obtain ⟨w',hw,K3⟩:=bi.some_of (v:=v) (o:=valueAt vs k) (by rw [<- l];exact rel.val k)
 exact wpAny_getItem_of (dO ry) dd.mapOf hw (h w' _ (I.tok _) K3)
theorem Gn {Q:Value->Shared->Prop}(I:Inv X pins U H s) (g:RdK X.w H a kvs) (ry:ak (kV k) u) (h:∀ s',Inv X pins U H s'->Q (.bool (aN kvs k).isSome) s'):wpAny (model X.prog X.w) A (compareOp .In u (.ref a)) Q E s:=by
 obtain ⟨z,hd,vs,rel,dd⟩:=rdK I g
 refine wpAny_in_of (dO ry) hd dd.mapOf ?_
 rw [<- (rel.val k).isSome_eq]
 exact h _ (I.tok _)
theorem zG {Q:Value->Shared->Prop}(I:Inv X pins U H s) (g:RdK X.w H a kvs) (ry:ak (kV k) u) (h:∀ s',Inv X pins U H s'->Q (.bool (!(aN kvs k).isSome)) s'):wpAny (model X.prog X.w) A (compareOp .NotIn u (.ref a)) Q E s:=by
 obtain ⟨z,hd,vs,rel,dd⟩:=rdK I g
 refine wpAny_notIn_of (dO ry) hd dd.mapOf ?_
 rw [<- (rel.val k).isSome_eq]
 exact h _ (I.tok _)
theorem Go (I:Inv X pins U H s) (g:RdK X.w H a kvs):s.TypeIs (.ref a) "dict" /\ ∀ b,Value.ref a=.ref b->∃ ob,s.heap.get? b=some ob/\ob.dict=none:=by
 obtain ⟨z,hd,vs,rel,dd⟩:=rdK I g
 refine ⟨dd.typeIs,λb q=>?_⟩
 cases q
 obtain ⟨ob,_,_,h1,h2,_⟩:=dd
 exact ⟨ob,h1,h2.2.1⟩
def fW (p d:Addr):HO:=.ext λh=>h.get? p=some { cls:=.type "dict_items",data:=.fields #[.ref d] }
def B9 (w:World):V->List V->Hp->VK->Prop:=λx xs H Q=>∃ d kvs,x=.ref d/\xs=[]/\H d=some (.dK kvs)/\∀ p,H p=none->Q (.ref p) (upd H p (fW p d))
theorem xK:MtR X "dict.items" (B9 X.w):=by
 rintro pins s U H x xs v us Q I rx rs ⟨d,kvs,ex,exs,ed,q⟩
 subst ex exs
 cases rs
 cases (show v=Value.ref d from rx)
 obtain ⟨z,hd,vs,rel,dd⟩:=eI I.hok ed
 refine call_meetsIn PySem.F.slot_dict_items dd.typeIs PySem.F.entry_dict_items (PySem.F.args_dict_items_1 _) (meets_dict_items (aO X.prog X.w) d hd) ⟨⟨vs,dd⟩,?_⟩
 refine ⟨.ref s.heap.objs.size,_,I.laid (o:=fW s.heap.objs.size d) (t':=s.toks) (λb u e=>NG _ e) (NE _) ⟨NT _ rfl,⟨_,NT _ rfl⟩,λh1 h2 p k=>k _ p⟩,rfl,q _ (I.hok.fresh (NE _))⟩
def ItP (w:World) (d:Addr) (od:Obj) (kvs:List (Key×V)):It :=
 ⟨λi H=>H d=some (fzH w d od kvs)/\i<kvs.length,λi H x H'=>∃ p kv,kvs[i]?=some kv/\H p=none/\x=.ref p/\H'=upd H p (.tup [kV kv.1,kv.2]),λi H=>H d=some (fzH w d od kvs)/\kvs.length<=i⟩
theorem vy {P:Program}{w:World}{K:PySem.W.Frag}{Jz:List Expr}{x1:Nat}{IV:Pos}{vs:List (Key×Value)}{ep:Nat}(d it:Addr) (od:Obj) (kvs:List (Key×V)) (rel:KV kvs vs) (Jc:d≠it) (hod:∀ h:Heap,h.get? d=some od->h.DictAt (aO P w) d vs ep) :
  Turn P w K (.Tuple Jz x1 IV) (ItP w d od kvs) [it] it (λi h=>∃ ok ov,IsItemIter h it d i vs.length ep ok ov) where
 mem:=by simp
 obj:=λi h st b hb=>by
  obtain rfl:b=it:=by simpa using hb
  obtain ⟨ok,ov,e⟩:=st
  exact ⟨_,e,λv z=>by cases z⟩
 keep:=λi h h' zz49 k=>by obtain ⟨ok,ov,e⟩:=zz49;exact ⟨ok,ov,k it (by simp) _ e⟩
 item:=by
  rintro X hP hw hK hc i pins s U H E I hf ⟨ok,ov,st⟩ ⟨hg,hi⟩
  subst hP hw hK
  have hl:i<vs.length:=by rw [<- rel.length];exact hi
  obtain ⟨⟨k,x⟩,hx⟩:∃ p,vs[i]?=some p:=⟨vs[i],by simp [hl]⟩
  obtain ⟨f0,f1,f2,f3,f4,f5⟩:=hf it (by simp)
  refine wpAny_pyNext_items_item st (hod _ (fV I hg).1) hx λHM h' IK Ls ht hsz sb=>?_
  refine ⟨_,rfl,wpAny_letOwnedTupleGo_items Ls λh2 st2 MK=>?_⟩
  have ML:it<s.heap.objs.size:=NY st
  obtain ⟨kv,e1,e2,e3⟩:∃ kv,kvs[i]?=some kv/\kv.1=k/\ak kv.2 x:=by
   obtain ⟨kv,z1,z2⟩:=mJ rel hx
   exact ⟨kv,z1,z2.1,z2.2⟩
  have ht2:h2.get? s.heap.objs.size=some { cls:=.type "tuple",data:=.seq #[HM,x] }:=(MK.2 _ (QP ML)).trans ht
  have Im:Inv X pins U (upd H s.heap.objs.size (.tup [kV kv.1,kv.2])) { s with heap:=s.heap.push { cls:=.type "tuple",data:=.seq #[HM,x] },toks:=s.toks } :=
   I.laid (t':=s.toks) (λb u e=>NG _ e) (NE _) ⟨by show 2<=sizeLine;decide,[HM,x],.cons (by rw [e2];exact Ed IK) (.cons e3 .nil),⟨_,NT _ rfl,rfl,_,rfl⟩⟩
  have I2:Inv X pins U (upd H s.heap.objs.size (.tup [kV kv.1,kv.2])) { s with heap:=h2 }:=by
   refine Im.turned (t':=s.toks) (λb o hb e=>?_) (by rw [au (N6 ML)];exact f0) f1 f3 f4 f5
   by_cases hbs:b=s.heap.objs.size
   ·subst hbs
    rw [show ({ s with heap:=s.heap.push { cls:=.type "tuple",data:=.seq #[HM,x] },toks:=s.toks }:Shared).heap.get? s.heap.objs.size=some { cls:=.type "tuple",data:=.seq #[HM,x] } from NT _ rfl] at e
    cases e;exact ht2
   ·exact (MK.2 b hb).trans (sb b o hb (by rw [<- Heap.get?_push_ne _ _ _ hbs];exact e))
  refine ⟨.ref s.heap.objs.size,_,I2,rfl,⟨s.heap.objs.size,kv,e1,I.hok.fresh (NE _),rfl,rfl⟩,⟨_,_,st2⟩,λb hb=>?_⟩
  obtain rfl:b=it:=by simpa using hb
  rw [au (N6 ML)];exact f0
 done:=by
  rintro X hP hw hK hc i pins s U H E I hf ⟨ok,ov,st⟩ ⟨hg,hi⟩
  subst hP hw hK
  obtain ⟨f0,f1,f2,f3,f4,f5⟩:=hf it (by simp)
  refine wpAny_pyNext_items_end (I.ok.hd hc) st (hod _ (fV I hg).1) (Qj (by rw [<- rel.length];exact hi)) λh' eb=>⟨rfl,I.turned (t':=s.toks) (λb o hb e=>eb b o hb e) f0 f1 f3 f4 f5⟩
 self:=λA i s Q E zz50 h=>by obtain ⟨ok,ov,st⟩:=zz50;exact PySem.W.kcp_self st h
def tiP (w:World) (te:TE):TI:=λU H R=>te U H λx H1=>∃ p d kvs,x=.ref p/\H1 p=some (fW p d)/\H1 d=some (.dK kvs)/\∀ od,R (ItP w d od kvs) (upd H1 d (fzH w d od kvs))
theorem xL {e:Expr}{te:TE}{Jz:List Expr}{x1:Nat}{IV:Pos}(he:PE X e te):PI X (.Tuple Jz x1 IV) e (tiP X.w te):=by
 intro pins s U H R I h
 refine thn (he pins s U H _ I h) λv s1 zz51=>?_
 obtain ⟨x,H1,I1,r1,p,d,kvs,ex,ep,ed,hR⟩:=zz51
 subst ex
 cases (show v=Value.ref p from r1)
 have hv:s1.heap.get? p=some { cls:=.type "dict_items",data:=.fields #[.ref d] }:=(I1.hok p _ ep).1
 obtain ⟨od,I2⟩:=I1.toFz ed
 obtain ⟨ho,⟨z,dz⟩,hd⟩:=fV I2 aG
 obtain ⟨vs,rel,es,ep',q1,q2,q3,q4,q5⟩:=dz X.prog
 have at_:∀ h:Heap,h.get? d=some od->h.DictAt (aO X.prog X.w) d vs ep':=λh e=>⟨od,es,e,q1,q2,q3,q4,q5⟩
 refine wpAny_pyIter_items ⟨_,hv,rfl,rfl⟩ (at_ _ ho) ?_
 have K6:d<s1.heap.objs.size:=NY ho
 have I3:Inv X pins U (upd H1 d (fzH X.w d od kvs)) { s1 with heap:=s1.heap.push { cls:=.type "dict_itemiterator",data:=.fields #[.none,.bool false,.ref d,.int 0 0,.int vs.length 0,.int ep' 0,.none,.none] } }:=I2.kept (t':=s1.toks) λb u e=>NG _ e
 refine ⟨s1.heap.objs.size,[s1.heap.objs.size],_,_,_,rfl,I3,vy d _ od kvs rel (N6 K6) at_,⟨.none,.none,NT _ rfl⟩,λb hb=>?_,hR od⟩
 obtain rfl:b=s1.heap.objs.size:=by simpa using hb
 exact I2.fpOk (NE _) (I2.hok.fresh (NE _))
def Ee (w:World) (td ty:TE):TE:=λU H Q=>td U H λx H1=>ty U H1 λy H2=>∃ a kvs k v,x=.ref a/\RdK w H2 a kvs/\y=kV k/\aN kvs k=some v/\Q v H2
theorem zH {o i:Expr}{pos:Pos}{td ty:TE}(ho:PE X o td) (hi:PE X i ty) (hs:gi i):PE X (.Subscript o i pos) (Ee X.w td ty):=by
 intro pins s U H Q I h
 refine zE PySem.F.slot_dict_getitem.lookup hs (thn (ho pins s U H _ I h) λu s1 zz52=>?_)
 obtain ⟨x,H1,I1,rx,q1⟩:=zz52
 refine thn (hi pins s1 U H1 _ I1 q1) λiv s2 zz53=>?_
 obtain ⟨y,H2,I2,ry,a,kvs,k,v,ex,g,ey,l,q2⟩:=zz53
 subst ex ey
 obtain rfl:u=Value.ref a:=rx
 exact ⟨(Go I2 g).1,wu I2 g l ry λw' s3 I3 K3=>⟨v,H2,I3,K3,q2⟩⟩
def Ef:V->List V->Hp->VK->Prop:=λx xs H Q=>∃ d kvs k v,x=.ref d/\xs=[kV k]/\H d=some (.dK kvs)/\aN kvs k=some v/\Q v (upd H d (.dK (dN kvs k)))
theorem zI:MtR X "dict.pop" Ef:=by
 rintro pins s U H x xs v us Q I rx rs ⟨d,kvs,k,v',ex,exs,ed,l,q⟩
 subst ex exs
 obtain ⟨u,rfl,ru⟩:=bh rs
 cases (show v=Value.ref d from rx)
 exact Ec I ed ru l (.inl rfl) λw' s' I' K3=>⟨v',_,I',K3,q⟩
theorem PE.unf {e:Expr}{t:TE}(h:PE X e t):PE X e (λU H Q=>t U H λv H'=>∃ d od kvs,H' d=some (fzH X.w d od kvs)/\Q v (upd H' d (.dK kvs))):=λpins s U H Q I q =>
 thn (h pins s U H _ I q) λu s' zz54=>by obtain ⟨v,H',I',r,d,od,kvs,e,q'⟩:=zz54;exact ⟨v,_,I'.ofFz e,r,q'⟩
theorem PS.unf {st:Stmt}{t:TS}(h:PS X st t):PS X st (λD U H=>t { D with nx:=λHD H'=>∃ d od kvs,H' d=some (fzH X.w d od kvs)/\D.nx HD (upd H' d (.dK kvs)) } U H):=λpins s U H D I q =>
 thn (h pins s U H _ I q) λfl s' sp=>by
  cases fl with
  |next =>
   obtain ⟨HD,H',I',d,od,kvs,e,q'⟩:=sp
   exact ⟨HD,_,I'.ofFz e,q'⟩
  |brk=>exact sp
  |cont=>exact sp
  |ret u=>exact sp
end
end L2
namespace T2
open PySem L2
inductive T where
 |non|bl (b:Bool)|int (i:Int)|str (x:Str)|tup (ts:List T)|lst (ts:List T)|scr (ns:List Int)|ref (a:Addr)|ty (n:String)
inductive O where
 |lst (ts:List T)|dK (kvs:List (Key×T))|dT (kvs:List (List Key×T))|ins (C:Addr) (fs:List (Str×T))
  |fK (w:World) (od:Obj) (vs:List (Key×V)) (kvs:List (Key×T))
  |exk (C:Addr)
def _root_.L2.exH (C a:Addr):HO:=.ext λh=>∃ ob,h.get? a=some ob/\ob.cls=.ref C/\ob.dict=none/\∃ vs,ob.data=.fields vs/\vs[2]?=some .none
abbrev Sto:=Addr->Option O
noncomputable def put (S:Sto) (a:Addr) (o:O):Sto:=λb=>if b=a then some o else S b
theorem ax {S:Sto}{a:Addr}{o:O}:put S a o a=some o:=by unfold put;rw [NC rfl]
theorem aq {S:Sto}{a b:Addr}{o:O}(h:b≠a):put S a o b=S b:=by unfold put;rw [NB h]
theorem b5 {S:Sto}{a:Addr}{o u:O}:put (put S a o) a u=put S a u:=by
 funext b;unfold put;split<;>rfl
abbrev Fg:=PySem.W.Frag
def Scr (K:Fg) (H:Hp) (S:Sto) (p:Addr) (ns:List Int):Prop:=(S p=none/\∃ o,H p=some (.frz o (.lst (ns.map V.int))))\/SqL K (λ_=>none) p (ns.map V.int)
mutual
inductive Rp (K:Fg) (H:Hp) (S:Sto):T->V->Prop
 |non:Rp K H S .non .non
 |bl {b}:Rp K H S (.bl b) (.bl b)
 |int {i}:Rp K H S (.int i) (.int i)
 |str {x}:Rp K H S (.str x) (.str x)
 |ty {n}:Rp K H S (.ty n) (.ty n)
 |ref {a}:Rp K H S (.ref a) (.ref a)
 |tup {p ts vs}:S p=none->H p=some (.tup vs)->Rps K H S ts vs->Rp K H S (.tup ts) (.ref p)
 |lst {p ts vs}:S p=none->H p=some (.lst vs)->Rps K H S ts vs->Rp K H S (.lst ts) (.ref p)
 |scr {p ns}:Scr K H S p ns->Rp K H S (.scr ns) (.ref p)
inductive Rps (K:Fg) (H:Hp) (S:Sto):List T->List V->Prop
 |nil:Rps K H S [] []
 |cons {t v ts vs}:Rp K H S t v->Rps K H S ts vs->Rps K H S (t::ts) (v::vs)
end
def Fr (H:Hp) (S:Sto) (H':Hp) (S':Sto):Prop:=∀ a o,H a=some o->S a=none->H' a=some o/\S' a=none
theorem Fr.refl {H S}:Fr H S H S:=λ_ _ h n=>⟨h,n⟩
theorem Fr.trans {H S H1 S1 H2 S2}(f:Fr H S H1 S1) (g:Fr H1 S1 H2 S2):Fr H S H2 S2:=λa o h n=>by
 obtain ⟨h1,n1⟩:=f a o h n
 exact g a o h1 n1
section
variable {K:Fg}{H H':Hp}{S S':Sto}
theorem Scr.fr {p ns}(h:Scr K H S p ns) (f:Fr H S H' S'):Scr K H' S' p ns:=by
 rcases h with ⟨n,o,e⟩|h
 ·obtain ⟨e',n'⟩:=f p _ e n
  exact .inl ⟨n',o,e'⟩
 ·exact .inr h
theorem Scr.sq {p ns}(h:Scr K H S p ns):SqL K H p (ns.map V.int):=by
 rcases h with ⟨_,o,e⟩|h
 ·exact .inl (.inr ⟨o,e⟩)
 ·rcases h with (h|⟨o,h⟩)|h
  ·cases h
  ·cases h
  ·exact .inr h
theorem Rp.fr (f:Fr H S H' S'):∀ {t v},Rp K H S t v->Rp K H' S' t v:=by
 intro t v r
 induction r using Rp.rec (motive_2:=λts vs _=>Rps K H' S' ts vs) with
 |tup n h _ i=>exact .tup (f _ _ h n).2 (f _ _ h n).1 i
 |lst n h _ i=>exact .lst (f _ _ h n).2 (f _ _ h n).1 i
 |scr h=>exact .scr (h.fr f)
 |cons _ _ a b=>exact .cons a b
 |_=>constructor
theorem Rps.fr (f:Fr H S H' S'):∀ {ts vs},Rps K H S ts vs->Rps K H' S' ts vs:=by
 intro ts vs r
 induction r using Rps.rec (motive_1:=λ_ _ _=>True) with
 |nil=>exact .nil
 |cons a _ _ b=>exact .cons (a.fr f) b
 |_=>trivial
theorem Rps.length:∀ {ts vs},Rps K H S ts vs->vs.length=ts.length
 |_,_,.nil=>rfl
 |_,_,.cons _ b=>by simp [Rps.length b]
theorem Rps.append:∀ {ts vs us ws},Rps K H S ts vs->Rps K H S us ws->Rps K H S (ts++us) (vs++ws)
 |_,_,_,_,.nil,r=>r
 |_,_,_,_,.cons a b,r=>.cons a (Rps.append b r)
theorem Rps.drop:∀ {ts vs}(n:Nat),Rps K H S ts vs->Rps K H S (ts.drop n) (vs.drop n)
 |_,_,0,r=>r
 |_,_,_+1,.nil=>.nil
 |_,_,n+1,.cons _ b=>Rps.drop n b
theorem Rps.take:∀ {ts vs}(n:Nat),Rps K H S ts vs->Rps K H S (ts.take n) (vs.take n)
 |_,_,0,_=>.nil
 |_,_,_+1,.nil=>.nil
 |_,_,n+1,.cons a b=>.cons a (Rps.take n b)
theorem Rps.set {t v}(r:Rp K H S t v):∀ {ts vs}(i:Nat),Rps K H S ts vs->Rps K H S (ts.set i t) (vs.set i v)
 |_,_,_,.nil=>.nil
 |_,_,0,.cons _ b=>.cons r b
 |_,_,i+1,.cons a b=>.cons a (Rps.set r i b)
theorem Rps.get:∀ {ts vs}{i:Nat}{t},Rps K H S ts vs->ts[i]?=some t->∃ v,vs[i]?=some v/\Rp K H S t v
 |_,_,_,_,.nil,e=>by simp at e
 |_,_,0,_,.cons a _,e=>by simp at e;subst e;exact ⟨_,rfl,a⟩
 |_,_,i+1,_,.cons _ b,e=>by
  obtain ⟨v,h1,h2⟩:=Rps.get (i:=i) b (by simpa using e)
  exact ⟨v,by simpa using h1,h2⟩
theorem Rps.getV:∀ {ts vs}{i:Nat}{v},Rps K H S ts vs->vs[i]?=some v->∃ t,ts[i]?=some t/\Rp K H S t v
 |_,_,_,_,.nil,e=>by simp at e
 |_,_,0,_,.cons a _,e=>by simp at e;subst e;exact ⟨_,rfl,a⟩
 |_,_,i+1,_,.cons _ b,e=>by
  obtain ⟨v,h1,h2⟩:=Rps.getV (i:=i) b (by simpa using e)
  exact ⟨v,by simpa using h1,h2⟩
theorem Rps.ints {ns:List Int}:Rps K H S (ns.map T.int) (ns.map V.int):=by
 induction ns with
 |nil=>exact .nil
 |cons a l ih=>exact .cons .int ih
theorem Rps.strs {ns:List Str}:Rps K H S (ns.map T.str) (ns.map V.str):=by
 induction ns with
 |nil=>exact .nil
 |cons a l ih=>exact .cons .str ih
end
inductive ORp (K:Fg) (H:Hp) (S:Sto) (a:Addr):O->Prop
 |lst {ts vs}:H a=some (.lst vs)->Rps K H S ts vs->ORp K H S a (.lst ts)
 |dK {kvs kts}:H a=some (.dK kvs)->Paired (λ(p:Key×T) (q:Key×V)=>p.1=q.1/\Rp K H S p.2 q.2) kts kvs->ORp K H S a (.dK kts)
 |dT {kvs kts}:H a=some (.dT kvs)->Paired (λ(p:List Key×T) (q:List Key×V)=>p.1=q.1/\Rp K H S p.2 q.2) kts kvs->ORp K H S a (.dT kts)
 |fK {w od kvs kts}:H a=some (fzH w a od kvs)->Paired (λ(p:Key×T) (q:Key×V)=>p.1=q.1/\Rp K H S p.2 q.2) kts kvs->ORp K H S a (.fK w od kvs kts)
 |ins {C dx fs fts}:H a=some (.ins C dx fs)->Paired (λ(p:Str×T) (q:Str×V)=>p.1=q.1/\Rp K H S p.2 q.2) fts fs->ORp K H S a (.ins C fts)
 |exk {C}:H a=some (exH C a)->ORp K H S a (.exk C)
section
variable {K:Fg}{H:Hp}{S:Sto}{v:V}{a:Addr}
theorem Rp.iint {i:Int}(r:Rp K H S (.int i) v):v=.int i:=by cases r;rfl
theorem Rp.istr {x:Str}(r:Rp K H S (.str x) v):v=.str x:=by cases r;rfl
theorem Rp.itup {ts:List T}(r:Rp K H S (.tup ts) v):∃ p vs,v=.ref p/\H p=some (.tup vs)/\Rps K H S ts vs:=by cases r with|tup n h p=>exact ⟨_,_,rfl,h,p⟩
end
def SRp (K:Fg) (H:Hp) (S:Sto):Prop:=∀ a o,S a=some o->ORp K H S a o
section
variable {K:Fg}{H H':Hp}{S S':Sto}{a:Addr}{o:O}
theorem ORp.some (r:ORp K H S a o):∃ u,H a=some u:=by cases r<;>exact ⟨_,‹_›⟩
theorem SRp.fresh (s:SRp K H S) (h:H a=none):S a=none:=by
 cases e:S a with
 |none=>rfl
 |some o=>obtain ⟨u,q⟩:=(s a o e).some;rw [h] at q;cases q
theorem ORp.fr (r:ORp K H S a o) (f:Fr H S H' S') (h:H' a=H a):ORp K H' S' a o:=by
 cases r with
 |lst e q=>exact .lst (h.trans e) (q.fr f)
 |dK e q=>exact .dK (h.trans e) (Paired.mapP q λ_ _ z=>⟨z.1,z.2.fr f⟩)
 |dT e q=>exact .dT (h.trans e) (Paired.mapP q λ_ _ z=>⟨z.1,z.2.fr f⟩)
 |fK e q=>exact .fK (h.trans e) (Paired.mapP q λ_ _ z=>⟨z.1,z.2.fr f⟩)
 |ins e q=>exact .ins (h.trans e) (Paired.mapP q λ_ _ z=>⟨z.1,z.2.fr f⟩)
 |exk e=>exact .exk (h.trans e)
theorem Fr.new {p:Addr}{u:HO}(h:H p=none):Fr H S (upd H p u) S:=λa o e n=>⟨by rw [au (bj e h)];exact e,n⟩
theorem SRp.new {p:Addr}{u:HO}(s:SRp K H S) (h:H p=none):SRp K (upd H p u) S:=λa o e=>by
 obtain ⟨x,hx⟩:=(s a o e).some
 exact (s a o e).fr (Fr.new h) (au (bj hx h))
theorem Fr.newT {p:Addr}{u:HO}{o:O}(h:H p=none):Fr H S (upd H p u) (put S p o):=λa _ e n =>
 ⟨by rw [au (bj e h)];exact e,by rw [aq (bj e h)];exact n⟩
theorem SRp.newT {p:Addr}{u:HO}{o:O}(s:SRp K H S) (h:H p=none) (n:ORp K (upd H p u) (put S p o) p o):SRp K (upd H p u) (put S p o):=λa o' e=>by
 by_cases ha:a=p
 ·subst ha;rw [ax] at e;cases e;exact n
 ·rw [aq ha] at e
  exact (s a o' e).fr (Fr.newT h) (au ha)
theorem Fr.write {p:Addr}{u:HO}{o:O}(h:S p≠none):Fr H S (upd H p u) (put S p o):=λa _ e n =>
 have ne:a≠p:=λz=>by subst z;exact h n
 ⟨by rw [au ne];exact e,by rw [aq ne];exact n⟩
theorem SRp.write {p:Addr}{u:HO}{o:O}(s:SRp K H S) (h:S p≠none) (n:ORp K (upd H p u) (put S p o) p o):SRp K (upd H p u) (put S p o):=λa o' e=>by
 by_cases ha:a=p
 ·subst ha;rw [ax] at e;cases e;exact n
 ·rw [aq ha] at e
  exact (s a o' e).fr (Fr.write h) (au ha)
def Le (S0 S:Sto):Prop:=∀ a o,S0 a=some o->S a=some o
theorem Le.refl {S}:Le S S:=λ_ _ h=>h
theorem Le.none {S0 S:Sto}(l:Le S0 S){a:Addr}(h:S a=none):S0 a=none:=by
 cases e:S0 a with
 |none=>rfl
 |some o=>rw [l a o e] at h;cases h
theorem Fr.le {S0:Sto}(l:Le S0 S):Fr H S H S0:=λ_ _ h n=>⟨h,l.none n⟩
theorem SRp.le {S0:Sto}(s:SRp K H S) (l:Le S0 S):SRp K H S0:=λa o e=>(s a o (l a o e)).fr (Fr.le l) rfl
end
abbrev StT:=List (Option T)
abbrev WE:=StT->Sto->(T->Sto->Prop)->Prop
abbrev WT:=StT->Sto->(Bool->Sto->Prop)->Prop
abbrev WA:=StT->Sto->(List T->Sto->Prop)->Prop
structure EndsT where
 nx:StT->Sto->Prop
 rt:T->Sto->Prop
 bk:StT->Sto->Prop:=λ_ _=>False
 ct:StT->Sto->Prop:=λ_ _=>False
abbrev WS:=EndsT->StT->Sto->Prop
def Cov (K:Fg) (H:Hp) (S:Sto) (U:St) (HE:StT):Prop:=HE.length=U.length/\∀ (i:Nat) (t:T),HE[i]?=some (some t)->∃ v:V,U[i]?=some (some v)/\Rp K H S t v
theorem Cov.fr {K H S H' S' U HE}(c:Cov K H S U HE) (f:Fr H S H' S'):Cov K H' S' U HE:=⟨c.1,λi t e=>by
 obtain ⟨v,h,r⟩:=c.2 i t e
 exact ⟨v,h,r.fr f⟩⟩
theorem Cov.set {K H S U HE t v}(c:Cov K H S U HE) (r:Rp K H S t v) (i:Nat):Cov K H S (U.set i (some v)) (HE.set i (some t)):=by
 refine ⟨by simp [c.1],λj u e=>?_⟩
 by_cases h:i=j
 ·subst h
  by_cases hl:i<HE.length
  ·rw [Qd hl] at e
   cases e
   exact ⟨v,Qd (by rw [<- c.1];exact hl),r⟩
  ·rw [Qj (by simp;lia)] at e;cases e
 ·rw [RD h] at e ⊢
  exact c.2 j u e
abbrev Bh (K:Fg) (H:Hp) (S:Sto) (Qt:T->Sto->Prop) (Q:VK):Prop:=∀ v H' t S',Fr H S H' S'->SRp K H' S'->Rp K H' S' t v->Qt t S'->Q v H'
def lE (K:Fg) (w:WE):TE:=λU H Q=>∃ S HE Qt,SRp K H S/\Cov K H S U HE/\w HE S Qt/\Bh K H S Qt Q
def lT (K:Fg) (w:WT):TT:=λU H Q=>∃ S HE Qt,SRp K H S/\Cov K H S U HE/\w HE S Qt/\∀ b H' S',Fr H S H' S'->SRp K H' S'->Qt b S'->Q b H'
def lA (K:Fg) (w:WA):TA:=λU H Q=>∃ S HE Qt,SRp K H S/\Cov K H S U HE/\w HE S Qt/\∀ vs H' ts S',Fr H S H' S'->SRp K H' S'->Rps K H' S' ts vs->Qt ts S'->Q vs H'
structure EndsOk (K:Fg) (H:Hp) (S:Sto) (Dt:EndsT) (D:Ends):Prop where
 nx:∀ HD H' HY S',Fr H S H' S'->SRp K H' S'->Cov K H' S' HD HY->Dt.nx HY S'->D.nx HD H'
 rt:∀ v H' t S',Fr H S H' S'->SRp K H' S'->Rp K H' S' t v->Dt.rt t S'->D.rt v H'
 bk:∀ HD H' HY S',Fr H S H' S'->SRp K H' S'->Cov K H' S' HD HY->Dt.bk HY S'->D.bk HD H'
 ct:∀ HD H' HY S',Fr H S H' S'->SRp K H' S'->Cov K H' S' HD HY->Dt.ct HY S'->D.ct HD H'
theorem EndsOk.fr {K H S H' S' Dt D}(e:EndsOk K H S Dt D) (f:Fr H S H' S'):EndsOk K H' S' Dt D :=
 ⟨λHD H2 HY S2 g=>e.nx HD H2 HY S2 (f.trans g),λv H2 t S2 g=>e.rt v H2 t S2 (f.trans g),λHD H2 HY S2 g=>e.bk HD H2 HY S2 (f.trans g),λHD H2 HY S2 g=>e.ct HD H2 HY S2 (f.trans g)⟩
def lS (K:Fg) (w:WS):TS:=λD U H=>∃ S HE Dt,SRp K H S/\Cov K H S U HE/\w Dt HE S/\EndsOk K H S Dt D
def QE (K:Fg) (X:Cx) (e:Expr) (w:WE):Prop:=PE X e (lE K w)
def QT (K:Fg) (X:Cx) (e:Expr) (w:WT):Prop:=PT X e (lT K w)
def QW (K:Fg) (X:Cx) (e:Expr) (w:WT):Prop:=PW X e (lT K w)
def QA (K:Fg) (X:Cx) (es:List Expr) (w:WA):Prop:=PA X es (lA K w)
def QS (K:Fg) (X:Cx) (st:Stmt) (w:WS):Prop:=PS X st (lS K w)
def QSs (K:Fg) (X:Cx) (st:List Stmt) (w:WS):Prop:=PSs X st (lS K w)
theorem PE.of {X:Cx}{e:Expr}{t t':TE}(h:PE X e t) (i:∀ U H Q,t' U H Q->t U H Q):PE X e t':=λpins s U H Q I q=>h pins s U H Q I (i U H Q q)
theorem PT.of {X:Cx}{e:Expr}{t t':TT}(h:PT X e t) (i:∀ U H Q,t' U H Q->t U H Q):PT X e t':=λpins s U H Q I q=>h pins s U H Q I (i U H Q q)
theorem PW.of {X:Cx}{e:Expr}{t t':TT}(h:PW X e t) (i:∀ U H Q,t' U H Q->t U H Q):PW X e t':=λwh pins s U H Q I q=>h wh pins s U H Q I (i U H Q q)
theorem PA.of {X:Cx}{e:List Expr}{t t':TA}(h:PA X e t) (i:∀ U H Q,t' U H Q->t U H Q):PA X e t':=λp pins s U H Q I q=>h p pins s U H Q I (i U H Q q)
theorem PS.of {X:Cx}{e:Stmt}{t t':TS}(h:PS X e t) (i:∀ D U H,t' D U H->t D U H):PS X e t':=λpins s U H D I q=>h pins s U H D I (i D U H q)
theorem PSs.of {X:Cx}{e:List Stmt}{t t':TS}(h:PSs X e t) (i:∀ D U H,t' D U H->t D U H):PSs X e t':=λpins s U H D I q=>h pins s U H D I (i D U H q)
section
variable {K:Fg}{X:Cx}{a b c e:Expr}{wa wb wc:WE}{pos:Pos}
def wV (i:Nat):WE:=λU S Q=>∃ t,U[i]?=some (some t)/\Q t S
@[reducible] def wC (t:T):WE:=λ_ S Q=>Q t S
theorem Eg {i:Nat}{x:Str}(h:PE X (.Name x pos) (tj i)):QE K X (.Name x pos) (wV i):=PE.of h λU H Q zz55=>by
 obtain ⟨S,HE,Qt,s,c,⟨t,e,q⟩,hq⟩:=zz55
 obtain ⟨v,e2,r⟩:=c.2 i t e
 exact ⟨v,e2,hq v H t S .refl s r q⟩
theorem af {i j}:QE K X (.Constant (.int i) j pos) (wC (.int i)):=PE.of Bo λU H Q zz56=>by obtain ⟨S,HE,Qt,s,c,q,hq⟩:=zz56;exact hq _ H _ S .refl s .int q
theorem bA {i j}:QE K X (.Constant (.bool i) j pos) (wC (.bl i)):=PE.of DM λU H Q zz57=>by obtain ⟨S,HE,Qt,s,c,q,hq⟩:=zz57;exact hq _ H _ S .refl s .bl q
theorem cS {j}:QE K X (.Constant .none j pos) (wC .non):=PE.of Bp λU H Q zz58=>by obtain ⟨S,HE,Qt,s,c,q,hq⟩:=zz58;exact hq _ H _ S .refl s .non q
theorem aP {x j}:QE K X (.Constant (.str x) j pos) (wC (.str x)):=PE.of qm λU H Q zz59=>by obtain ⟨S,HE,Qt,s,c,q,hq⟩:=zz59;exact hq _ H _ S .refl s .str q
theorem k7 {x:Str}{t:T}{v:V}(h:PE X (.Name x pos) (tC v)) (r:∀ H S,Rp K H S t v):QE K X (.Name x pos) (wC t):=PE.of h λU H Q zz60=>by obtain ⟨S,HE,Qt,s,c,q,hq⟩:=zz60;exact hq _ H _ S .refl s (r _ _) q
abbrev G2:=T->T->Sto->(T->Sto->Prop)->Prop
def l2 (K:Fg) (g:G2):R2:=λx y H Q=>∃ S tx ty Qt,SRp K H S/\Rp K H S tx x/\Rp K H S ty y/\g tx ty S Qt/\Bh K H S Qt Q
@[reducible] def w2 (g:G2) (wa wb:WE):WE:=λU S Q=>wa U S λx S1=>wb U S1 λy S2=>g x y S2 Q
theorem ir {g:G2}{U H Q}(h:lE K (w2 g wa wb) U H Q):tOp (l2 K g) (lE K wa) (lE K wb) U H Q:=by
 obtain ⟨S,HE,Qt,s,c,q,hq⟩:=h
 refine ⟨S,HE,_,s,c,q,λx H1 tx S1 f1 s1 r1 q1=>?_⟩
 refine ⟨S1,HE,_,s1,c.fr f1,q1,λy H2 ty S2 f2 s2 r2 q2=>?_⟩
 exact ⟨S2,tx,ty,Qt,s2,r1.fr f2,r2,q2,λv H' t S' f=>hq v H' t S' ((f1.trans f2).trans f)⟩
theorem aC {op:Operator}{g:G2}(ho:OpR X (binaryOp op) (l2 K g)) (ha:QE K X a wa) (hb:QE K X b wb):QE K X (.BinOp a op b pos) (w2 g wa wb):=PE.of (DU ho ha hb) λ_ _ _ h=>ir h
theorem c8 {op:CmpOp}{g:G2}(ho:OpR X (compareOp op) (l2 K g)) (ha:QE K X a wa) (hb:QE K X b wb) (hm:behindInMarks op b=false:=by exact L2.kU _):QE K X (.Compare a [op] [b] pos) (w2 g wa wb):=PE.of (y6 ho ha hb hm) λ_ _ _ h=>ir h
@[reducible] def wB (w:WE):WT:=λU S Q=>w U S λx S1=>∃ k,x=.bl k/\Q k S1
theorem Eh {w:WE}{U H Q}(h:lT K (wB w) U H Q):lX (lE K w) U H Q:=by
 obtain ⟨S,HE,Qt,s,c,q,hq⟩:=h
 refine ⟨S,HE,_,s,c,q,λx H1 tx S1 f1 s1 r1 q1=>?_⟩
 obtain ⟨k,rfl,q1⟩:=q1
 cases r1
 exact ⟨k,rfl,hq k H1 S1 f1 s1 q1⟩
theorem aI {op:CmpOp}{g:G2}(ho:OpR X (compareOp op) (l2 K g)) (ha:QE K X a wa) (hb:QE K X b wb) (hm:behindInMarks op b=false:=by exact L2.kU _):QT K X (.Compare a [op] [b] pos) (wB (w2 g wa wb)) :=
 PT.of (y7 ho ha hb hm) λU H Q h=>by
  obtain ⟨S,HE,Qt,s,c,q,hq⟩:=h
  exact ir ⟨S,HE,_,s,c,q,λv H' t S' f s' r zz61=>by obtain ⟨k,e,q'⟩:=zz61;exact by subst e;cases r;exact ⟨k,rfl,hq k H' S' f s' q'⟩⟩
@[reducible] def k8 (g g':G2) (wa wb wc:WE):WE:=λU S Q=>wa U S λx S1=>wb U S1 λy S2=>g x y S2 λz S3=>∃ k,z=.bl k/\if k=true then wc U S3 λu S4=>g' y u S4 Q else Q (.bl false) S3
theorem nP {g g':G2}{U H Q}(h:lE K (k8 g g' wa wb wc) U H Q):kW (l2 K g) (l2 K g') (lE K wa) (lE K wb) (lE K wc) U H Q:=by
 obtain ⟨S,HE,Qt,s,c,q,hq⟩:=h
 refine ⟨S,HE,_,s,c,q,λx H1 tx S1 f1 s1 r1 q1=>?_⟩
 refine ⟨S1,HE,_,s1,c.fr f1,q1,λy H2 ty S2 f2 s2 r2 q2=>?_⟩
 refine ⟨S2,tx,ty,_,s2,r1.fr f2,r2,q2,λz H3 tz S3 f3 s3 r3 q3=>?_⟩
 obtain ⟨k,rfl,q3⟩:=q3
 cases r3
 refine ⟨k,rfl,?_⟩
 cases k with
 |false=>exact hq _ _ _ _ ((f1.trans f2).trans f3) s3 .bl q3
 |true =>
  refine ⟨S3,HE,_,s3,c.fr ((f1.trans f2).trans f3),q3,λu H4 tu S4 f4 s4 r4 q4=>?_⟩
  exact ⟨S4,ty,tu,Qt,s4,(r2.fr f3).fr f4,r4,q4,λv H' t S' f=>hq v H' t S' ((((f1.trans f2).trans f3).trans f4).trans f)⟩
theorem kD {op K2:CmpOp}{g g':G2}(ho:OpR X (compareOp op) (l2 K g)) (K1:OpR X (compareOp K2) (l2 K g')) (ha:QE K X a wa) (hb:QE K X b wb) (hc:QE K X c wc) (hm:lastMarks [op,K2] [b,c]=false:=by with_unfolding_all rfl) :
  QE K X (.Compare a [op,K2] [b,c] pos) (k8 g g' wa wb wc):=PE.of (xq ho K1 ha hb hc hm) λ_ _ _ h=>nP h
theorem oA {op K2:CmpOp}{g g':G2}(ho:OpR X (compareOp op) (l2 K g)) (K1:OpR X (compareOp K2) (l2 K g')) (ha:QE K X a wa) (hb:QE K X b wb) (hc:QE K X c wc) (hm:lastMarks [op,K2] [b,c]=false:=by with_unfolding_all rfl) :
  QT K X (.Compare a [op,K2] [b,c] pos) (wB (k8 g g' wa wb wc)):=PT.of (xr ho K1 ha hb hc hm) λU H Q h=>by
  obtain ⟨S,HE,Qt,s,c,q,hq⟩:=h
  exact nP ⟨S,HE,_,s,c,q,λv H' t S' f s' r zz62=>by obtain ⟨k,e,q'⟩:=zz62;exact by subst e;cases r;exact ⟨k,rfl,hq k H' S' f s' q'⟩⟩
theorem aW (h:QE K X e wa) (he:∀ whole,isTrue e X.env whole=(do let v <- whole;standAt e.pos;holding [v] (truthy v)):=by intro _;rfl):QT K X e (wB wa):=PT.of (Bq h he) λ_ _ _ h=>Eh h
@[reducible] def Gp (t u:WT):WT:=λU S Q=>t U S λc S1=>if c=true then u U S1 Q else Q false S1
@[reducible] def wOr (t u:WT):WT:=λU S Q=>t U S λc S1=>if c=true then Q true S1 else u U S1 Q
@[reducible] def Gq (t:WT):WT:=λU S Q=>t U S λc S1=>Q (!c) S1
variable {ta tb:WT}{rest:List Expr}
theorem cR (ha:QT K X a ta):QW K X (.BoolOp .And [a] pos) ta:=yW ha
theorem bq (ha:QT K X a ta):QW K X (.BoolOp .Or [a] pos) ta:=Bs ha
theorem cT (ha:QT K X a ta) (hb:QW K X (.BoolOp .And (b::rest) pos) tb):QW K X (.BoolOp .And (a::b::rest) pos) (Gp ta tb):=PW.of (Bt ha hb) λU H Q zz63=>by
 obtain ⟨S,HE,Qt,s,c,q,hq⟩:=zz63
 refine ⟨S,HE,_,s,c,q,λk H1 S1 f1 s1 q1=>?_⟩
 cases k with
 |true=>exact ⟨S1,HE,_,s1,c.fr f1,q1,λb H' S' f=>hq b H' S' (f1.trans f)⟩
 |false=>exact hq false H1 S1 f1 s1 q1
theorem bn (ha:QT K X a ta) (hb:QW K X (.BoolOp .Or (b::rest) pos) tb):QW K X (.BoolOp .Or (a::b::rest) pos) (wOr ta tb):=PW.of (DN ha hb) λU H Q zz64=>by
 obtain ⟨S,HE,Qt,s,c,q,hq⟩:=zz64
 refine ⟨S,HE,_,s,c,q,λk H1 S1 f1 s1 q1=>?_⟩
 cases k with
 |false=>exact ⟨S1,HE,_,s1,c.fr f1,q1,λb H' S' f=>hq b H' S' (f1.trans f)⟩
 |true=>exact hq true H1 S1 f1 s1 q1
theorem aR (h:QW K X e ta):QT K X e ta:=h _
theorem ci (ha:QT K X a ta):QT K X (.UnaryOp .Not a pos) (Gq ta):=PT.of (Bu ha) λU H Q zz65=>by obtain ⟨S,HE,Qt,s,c,q,hq⟩:=zz65;exact ⟨S,HE,_,s,c,q,λk H1 S1 f1 s1 q1=>hq _ H1 S1 f1 s1 q1⟩
@[reducible] def Ei (wa wb:WE):WE:=λU S Q=>wa U S λx S1=>∃ k,x=.bl k/\if k=true then wb U S1 Q else Q (.bl false) S1
@[reducible] def Ho (wa wb:WE):WE:=λU S Q=>wa U S λx S1=>∃ k,x=.bl k/\if k=true then Q (.bl true) S1 else wb U S1 Q
@[reducible] def Hh (wa:WE):WE:=λU S Q=>wa U S λx S1=>∃ k,x=.bl k/\Q (.bl (!k)) S1
theorem sf {op}(h:QE K X a wa):QE K X (.BoolOp op [a] pos) wa:=Bv h
theorem qA (ha:QE K X a wa) (hb:QE K X (.BoolOp .And (b::rest) pos) wb):QE K X (.BoolOp .And (a::b::rest) pos) (Ei wa wb):=PE.of (Bw ha hb) λU H Q zz66=>by
 obtain ⟨S,HE,Qt,s,c,q,hq⟩:=zz66
 refine ⟨S,HE,_,s,c,q,λx H1 tx S1 f1 s1 r1 q1=>?_⟩
 obtain ⟨k,rfl,q1⟩:=q1
 cases r1
 refine ⟨k,rfl,?_⟩
 cases k with
 |true=>exact ⟨S1,HE,_,s1,c.fr f1,q1,λv H' t S' f=>hq v H' t S' (f1.trans f)⟩
 |false=>exact hq _ H1 _ S1 f1 s1 .bl q1
@[reducible] def wIf (t:WT) (wa wb:WE):WE:=λU S Q=>t U S λc S1=>if c=true then wa U S1 Q else wb U S1 Q
theorem Ej {c:Expr}(hc:QT K X c ta) (ha:QE K X a wa) (hb:QE K X b wb):QE K X (.IfExp c a b pos) (wIf ta wa wb):=PE.of (xn hc ha hb) λU H Q zz67=>by
 obtain ⟨S,HE,Qt,s,c,q,hq⟩:=zz67
 refine ⟨S,HE,_,s,c,q,λk H1 S1 f1 s1 q1=>?_⟩
 cases k with
 |true=>exact ⟨S1,HE,_,s1,c.fr f1,q1,λv H' t S' f=>hq v H' t S' (f1.trans f)⟩
 |false=>exact ⟨S1,HE,_,s1,c.fr f1,q1,λv H' t S' f=>hq v H' t S' (f1.trans f)⟩
@[reducible] def eZ:WA:=λ_ S Q=>Q [] S
@[reducible] def Ek (wa:WE) (wr:WA):WA:=λU S Q=>wa U S λx S1=>wr U S1 λxs S2=>Q (x::xs) S2
variable {es:List Expr}{wr:WA}
theorem ae:QA K X [] eZ:=PA.of kX λU H Q zz68=>by obtain ⟨S,HE,Qt,s,c,q,hq⟩:=zz68;exact hq [] H [] S .refl s .nil q
theorem ac (ha:QE K X e wa) (hr:QA K X es wr) (hs:starEach (e::es) X.env=(false,eval e X.env)::starEach es X.env:=by exact L2.zw rfl):QA K X (e::es) (Ek wa wr):=PA.of (kr ha hr hs) λU H Q zz69=>by
 obtain ⟨S,HE,Qt,s,c,q,hq⟩:=zz69
 refine ⟨S,HE,_,s,c,q,λx H1 tx S1 f1 s1 r1 q1=>?_⟩
 exact ⟨S1,HE,_,s1,c.fr f1,q1,λvs H2 ts S2 f2 s2 r2 q2=>hq _ H2 _ S2 (f1.trans f2) s2 (.cons (r1.fr f2) r2) q2⟩
@[reducible] def Gu (wr:WA):WE:=λU S Q=>wr U S λts S1=>ts.length<=sizeLine/\Q (.tup ts) S1
theorem bO {x1}(h:QA K X es wr):QE K X (.Tuple es x1 pos) (Gu wr):=PE.of (BP h) λU H Q zz70=>by
 obtain ⟨S,HE,Qt,s,c,q,hq⟩:=zz70
 refine ⟨S,HE,_,s,c,q,λvs H1 ts S1 f1 s1 r1 q1=>?_⟩
 refine ⟨by rw [r1.length];exact q1.1,λp hp=>hq _ _ (.tup ts) S1 (f1.trans (Fr.new hp)) (s1.new hp) (.tup (s1.fresh hp) aG (r1.fr (Fr.new hp))) q1.2⟩
@[reducible] def Gv (wr:WA):WE:=λU S Q=>wr U S λts S1=>ts.length<=sizeLine/\Q (.lst ts) S1
@[reducible] def El (wr:WA):WE:=λU S Q=>wr U S λts S1=>ts.length<=sizeLine/\∀ p,S1 p=none->Q (.ref p) (put S1 p (.lst ts))
theorem cU (h:QA K X es wr):QE K X (.List es pos) (Gv wr):=PE.of (qp h) λU H Q zz71=>by
 obtain ⟨S,HE,Qt,s,c,q,hq⟩:=zz71
 refine ⟨S,HE,_,s,c,q,λvs H1 ts S1 f1 s1 r1 q1=>?_⟩
 refine ⟨by rw [r1.length];exact q1.1,λp hp=>hq _ _ (.lst ts) S1 (f1.trans (Fr.new hp)) (s1.new hp) (.lst (s1.fresh hp) aG (r1.fr (Fr.new hp))) q1.2⟩
theorem dH (h:QA K X es wr):QE K X (.List es pos) (El wr):=PE.of (qp h) λU H Q zz72=>by
 obtain ⟨S,HE,Qt,s,c,q,hq⟩:=zz72
 refine ⟨S,HE,_,s,c,q,λvs H1 ts S1 f1 s1 r1 q1=>?_⟩
 refine ⟨by rw [r1.length];exact q1.1,λp hp=>hq _ _ (.ref p) _ (f1.trans (Fr.newT hp)) (s1.newT hp (.lst aG (r1.fr (Fr.newT hp)))) .ref (q1.2 p (s1.fresh hp))⟩
end
section
variable {K:Fg}{X:Cx}{e:Expr}{we:WE}{st:Stmt}{rest:List Stmt}{w u:WS}{pos:Pos}
@[reducible] def sg:WS:=λD U S=>D.nx U S
@[reducible] def tI (w u:WS):WS:=λD U S=>w { D with nx:=u D } U S
theorem aD:QSs K X [] sg:=PSs.of yX λD U H zz73=>by obtain ⟨S,HE,Dt,s,c,q,he⟩:=zz73;exact he.nx U H HE S .refl s c q
theorem ai (h1:QS K X st w) (h2:QSs K X rest u):QSs K X (st::rest) (tI w u):=PSs.of (xo h1 h2) λD U H ⟨S,HE,Dt,s,c,q,he⟩ =>
 ⟨S,HE,{ Dt with nx:=u Dt },s,c,q,⟨λ_ _ HY S' f s' c' q'=>⟨S',HY,Dt,s',c',q',he.fr f⟩,he.rt,he.bk,he.ct⟩⟩
theorem ag (h1:QS K X st w):QSs K X [st] w:=yY h1
@[reducible] def G9:WS:=λD U S=>D.bk U S
@[reducible] def Hj:WS:=λD U S=>D.ct U S
@[reducible] def Em (we:WE):WS:=λD U S=>we U S λ_ S1=>D.nx U S1
theorem bN (he:QE K X e we) (hs:swapsWith e none pos.line X.env=pure false:=by rfl):QS K X (.Expr e pos) (Em we):=PS.of (yZ he hs) λD U H ⟨S,HE,Dt,s,c,q,he⟩ =>
 ⟨S,HE,_,s,c,q,λ_ H1 _ S1 f1 s1 _ q1=>he.nx U H1 HE S1 f1 s1 (c.fr f1) q1⟩
@[reducible] def Gw (we:WE):WS:=λD U S=>we U S D.rt
theorem ao (he:QE K X e we):QS K X (.Return (some e) pos) (Gw we):=PS.of (Bx he) λD U H zz74=>by obtain ⟨S,HE,Dt,s,c,q,he⟩:=zz74;exact ⟨S,HE,_,s,c,q,he.rt⟩
@[reducible] def Hk:WS:=λD _ S=>D.rt .non S
@[reducible] def Gx (t:WT) (w u:WS):WS:=λD U S=>t U S λb S1=>if b=true then w D U S1 else u D U S1
theorem aB {c:Expr}{a b:List Stmt}{t:WT}(hc:QT K X c t) (ha:QSs K X a w) (hb:QSs K X b u):QS K X (.If c a b pos) (Gx t w u):=PS.of (DR hc ha hb) λD U H zz75=>by
 obtain ⟨S,HE,Dt,s,c,q,he⟩:=zz75
 refine ⟨S,HE,_,s,c,q,λk H1 S1 f1 s1 q1=>?_⟩
 cases k with
 |true=>exact ⟨S1,HE,Dt,s1,c.fr f1,q1,he.fr f1⟩
 |false=>exact ⟨S1,HE,Dt,s1,c.fr f1,q1,he.fr f1⟩
def Ca:WS:=λ_ _ _=>False
theorem d7:QS K X st Ca:=λ_ _ _ _ _ _ zz76=>by obtain ⟨_,_,_,_,_,q,_⟩:=zz76;exact q.elim
abbrev WG:=T->StT->Sto->(StT->Sto->Prop)->Prop
abbrev WGs:=List T->StT->Sto->(StT->Sto->Prop)->Prop
def lG (K:Fg) (g:WG):TG:=λv U H Q=>∃ S t HE Qt,SRp K H S/\Rp K H S t v/\Cov K H S U HE/\g t HE S Qt/\∀ HD H' HY S',Fr H S H' S'->SRp K H' S'->Cov K H' S' HD HY->Qt HY S'->Q HD H'
def lGs (K:Fg) (g:WGs):TGs:=λvs U H Q=>∃ S ts HE Qt,SRp K H S/\Rps K H S ts vs/\Cov K H S U HE/\g ts HE S Qt/\∀ HD H' HY S',Fr H S H' S'->SRp K H' S'->Cov K H' S' HD HY->Qt HY S'->Q HD H'
def QG (K:Fg) (X:Cx) (tg:Expr) (g:WG):Prop:=PG X tg (lG K g)
def QGs (K:Fg) (X:Cx) (tg:List Expr) (g:WGs):Prop:=PGs X tg (lGs K g)
theorem PG.of {X:Cx}{e:Expr}{t t':TG}(h:PG X e t) (i:∀ v U H Q,t' v U H Q->t v U H Q):PG X e t':=λpins s U H v u Q I r q=>h pins s U H v u Q I r (i v U H Q q)
theorem PGs.of {X:Cx}{e:List Expr}{t t':TGs}(h:PGs X e t) (i:∀ v U H Q,t' v U H Q->t v U H Q):PGs X e t':=λpins s U H v u Q I r q=>h pins s U H v u Q I r (i v U H Q q)
def wgN (i:Nat):WG:=λt U S Q=>Q (U.set i (some t)) S
theorem zJ {i:Nat}{x:Str}(h:PG X (.Name x pos) (io i)):QG K X (.Name x pos) (wgN i):=PG.of h λv U H Q zz77=>by obtain ⟨S,t,HE,Qt,s,r,c,q,hq⟩:=zz77;exact hq _ H _ S .refl s (c.set r i) q
def sh:WGs:=λts U S Q=>ts=[]/\Q U S
def qB (g:WG) (h:WGs):WGs:=λts U S Q=>∃ t r,ts=t::r/\g t U S λHD S'=>h r HD S' Q
variable {tg:Expr}{tgs:List Expr}{g:WG}{gs:WGs}
theorem bG:QGs K X [] sh:=PGs.of y3 λv U H Q zz78=>by
 obtain ⟨S,t,HE,Qt,s,r,c,⟨e,q⟩,hq⟩:=zz78
 subst e;cases r
 exact ⟨rfl,hq _ H _ S .refl s c q⟩
theorem aK (h1:QG K X tg g) (h2:QGs K X tgs gs) (h:∀ {t u},PG X tg t->PGs X tgs u->PGs X (tg::tgs) (rX t u)):QGs K X (tg::tgs) (qB g gs):=PGs.of (h h1 h2) λv U H Q zz79=>by
 obtain ⟨S,t,HE,Qt,s,r,c,⟨y,ys,e,q⟩,hq⟩:=zz79
 subst e
 cases r with
 |cons r rs =>
  refine ⟨_,_,rfl,S,y,HE,_,s,r,c,q,λHD H' HY S' f s' c' q'=>?_⟩
  exact ⟨S',ys,HY,Qt,s',rs.fr f,c',q',λIM H2 LC S2 f2=>hq IM H2 LC S2 (f.trans f2)⟩
def si (n:Nat) (g:WGs):WG:=λt U S Q=>∃ ts,t=.tup ts/\ts.length=n/\g ts U S Q
theorem bI {es:List Expr}{k n:Nat}(h:∀ {t},PGs X es t->PG X (.Tuple es k pos) (mF K n t)) (h1:QGs K X es gs):QG K X (.Tuple es k pos) (si n gs):=PG.of (h h1) λv U H Q zz80=>by
 obtain ⟨S,t,HE,Qt,s,r,c,⟨ts,e,l,q⟩,hq⟩:=zz80
 subst e
 cases r with
 |tup n' hp rs=>exact ⟨_,_,rfl,SqT.of hp,by rw [rs.length];exact l,S,ts,HE,Qt,s,rs,c,q,hq⟩
@[reducible] def e7 (we:WE) (g:WG):WS:=λD U S=>we U S λt S1=>g t U S1 D.nx
theorem zK {D U H}(h:lS K (e7 we g) D U H):eT (lE K we) (lG K g) D U H:=by
 obtain ⟨S,HE,Dt,s,c,q,he⟩:=h
 refine ⟨S,HE,_,s,c,q,λv H1 t S1 f1 s1 r1 q1=>?_⟩
 exact ⟨S1,t,HE,_,s1,r1,c.fr f1,q1,λHD H' HY S' f=>he.nx HD H' HY S' (f1.trans f)⟩
theorem En (h:∀ {t g},PE X e t->PG X tg g->PS X (.Assign [tg] e pos) (eT t g)) (he:QE K X e we) (hg:QG K X tg g):QS K X (.Assign [tg] e pos) (e7 we g):=PS.of (h he hg) λ_ _ _ h=>zK h
theorem Eo {i:Nat}{x:Str}{IZ:Pos}(hN:X.N.Nodup) (hi:X.N[i]?=some x) (hx:Loc X.env.scope x) (he:QE K X e we) (hs:swapsWith e (some (.Name x IZ)) pos.line X.env=pure false:=by rfl)
  (hf:X.fn x=true\/X.env.scope.names.lookup x=some .local:=by first|exact .inl rfl|exact .inr rfl|assumption):QS K X (.Assign [.Name x IZ] e pos) (e7 we (wgN i)):=PS.of (BB hN hi hx he hs hf) λD U H h=>by
 obtain ⟨S,HE,Dt,s,c,q,he⟩:=h
 exact ⟨S,HE,_,s,c,q,λv H1 t S1 f1 s1 r1 q1=>he.nx _ H1 _ S1 f1 s1 ((c.fr f1).set r1 i) q1⟩
end
end T2
namespace T2
open PySem PySem.Spec PyProof.Rows L2
abbrev WSp:=List T->Sto->(T->Sto->Prop)->Prop
def lSp (K:Fg) (w:WSp):Sp:=λvs H Q _=>∃ S ts Qt,SRp K H S/\Rps K H S ts vs/\w ts S Qt/\Bh K H S Qt Q
noncomputable def cB (N:List Str) (ts:List T):StT:=ts.map some++List.replicate (N.length - ts.length) none
theorem nQ {K:Fg}{H:Hp}{S:Sto}{N:List Str}{ts:List T}{vs:List V}(r:Rps K H S ts vs):Cov K H S (L2.cj N vs) (cB N ts):=by
 have l:=r.length
 refine ⟨by unfold L2.cj cB;simp [l],λi t e=>?_⟩
 unfold cB at e
 by_cases hi:i<ts.length
 ·rw [OC (by simpa using hi),O5] at e
  cases q:ts[i]? with
  |none=>rw [q] at e;cases e
  |some a =>
   rw [q] at e;cases e
   obtain ⟨v,hv,rv⟩:=r.get q
   refine ⟨v,?_,rv⟩
   unfold L2.cj
   rw [OC (by simp;lia),O5,hv];rfl
 ·rw [OZ (by simpa using hi),Q3] at e
  split at e<;>cases e
def Fin (Q:T->Sto->Prop) (t:T) (S:Sto):Prop:=(∃ S0,Le S0 S/\Q t S0)\/∃ p ts S0,t=.ref p/\S p=some (.lst ts)/\Le S0 S/\S0 p=none/\Q (.lst ts) S0
theorem Fin.mk {Q:T->Sto->Prop}{t:T}{S:Sto}(h:Q t S):Fin Q t S:=.inl ⟨S,.refl,h⟩
theorem Fin.le {Q:T->Sto->Prop}{t:T}{S S0:Sto}(l:Le S0 S) (h:Q t S0):Fin Q t S:=.inl ⟨S0,l,h⟩
theorem Fin.frz {Q:T->Sto->Prop}{p:Addr}{ts:List T}{S S0:Sto}(e:S p=some (.lst ts)) (l:Le S0 S) (n:S0 p=none) (h:Q (.lst ts) S0):Fin Q (.ref p) S:=.inr ⟨p,ts,S0,rfl,e,l,n,h⟩
theorem Fin.ends {K:Fg}{H H':Hp}{S S':Sto}{Qt:T->Sto->Prop}{Q:VK}(b:Bh K H S Qt Q){v:V}{t:T}(f:Fr H S H' S') (s:SRp K H' S') (r:Rp K H' S' t v) (q:Fin Qt t S'):Q v H':=by
 rcases q with ⟨S0,l,q⟩|⟨p,ts,S0,rfl,e,l,n,q⟩
 ·exact b v H' t S0 (f.trans (Fr.le l)) (s.le l) (r.fr (Fr.le l)) q
 ·cases r
  cases s p _ e with
  |lst hp rs=>exact b _ H' (.lst ts) S0 (f.trans (Fr.le l)) (s.le l) (.lst n hp (rs.fr (Fr.le l))) q
section
variable {P:Program}{w:World}{K:Fg}{mg:Str->Option Value}{base:Heap}
theorem dI {x qual:Str}{st:Stmt}{f:Addr}{fd:FuncData}{N ps:List Str}{k:Nat}{HZ:WSp}(F:Fun K x qual st f fd) (Sc:FnScope N ps (am st)) (len:∀ ts S Q,HZ ts S Q->ts.length=ps.length)
  (JP:∀ (cdv:Value) (A:Around) (outer:List Env) (s:Shared) (H:Hp) (E:XK),Room k (A.deeper (envOfC qual (am st) s.heap.objs.size f cdv)) ->
   ∃ u,QSs K (dh CX0 P w K mg base N qual (am st) f cdv A outer s H E).nox (bE st) u/\∀ ts S Q,HZ ts S Q->u { nx:=λ_ S'=>Fin Q .non S',rt:=Fin Q } (cB N ts) S):FnOk P w K mg base CX0 (k+1) f fd ps (lSp K HZ):=by
 refine Fun.ok F Sc (λvs H Q E ⟨S,ts,Qt,s,r,q,_⟩=>by rw [r.length];exact len _ _ _ q) λcdv A outer s H vs Q E hr ⟨S,ts,Qt,sr,r,q,b⟩=>?_
 obtain ⟨u,hu,hq⟩:=JP cdv A outer s H E hr
 refine ⟨_,hu,S,cB N ts,_,sr,nQ r,hq ts S Qt q,⟨λ_ H' _ S' f s' _ q'=>Fin.ends b f s' .non q',λv H' t S' f s' r' q'=>Fin.ends b f s' r' q',λ_ _ _ _ _ _ _ q'=>q'.elim,λ_ _ _ _ _ _ _ q'=>q'.elim⟩⟩
end
section
variable {K:Fg}{X:Cx}{k:Nat}{f C:Addr}{fd:FuncData}{ps:List Str}{HZ:WSp}{JS:List T}{dvs:List V}{ds:List Value}{x m:Str}{p pos apos:Pos}{e o:Expr}{es:List Expr}{wa:WE}{wr:WA}
@[reducible] def iw (HZ:WSp) (JS:List T) (wr:WA):WE:=λU S Q=>wr U S λts S1=>HZ (ts++JS) S1 Q
theorem xM {U H Q}(hd:∀ H S,Rps K H S JS dvs) (h:lE K (iw HZ JS wr) U H Q):lZ (lSp K HZ) dvs E0 (lA K wr) U H Q:=by
 obtain ⟨S,HE,Qt,s,c,q,hq⟩:=h
 refine ⟨S,HE,_,s,c,q,λvs H1 ts S1 f1 s1 r1 q1=>?_⟩
 exact ⟨S1,_,Qt,s1,r1.append (hd _ _),q1,λv H' t S' f=>hq v H' t S' (f1.trans f)⟩
theorem Cb (hd:∀ H S,Rps K H S JS dvs) (hp:PE X e (lZ (lSp K HZ) dvs E0 (lA K wr))):QE K X e (iw HZ JS wr):=PE.of hp λ_ _ _ h=>xM hd h
@[reducible] def eJ (G:Addr->Prop) (m:Str) (HZ:WSp) (JS:List T) (wa:WE) (wr:WA):WE:=λU S Q=>wa U S λx S1=>∃ a C fs,x=.ref a/\S1 a=some (.ins C fs)/\G C/\fs.lookup m=none/\wr U S1 λts S2=>HZ (x::(ts++JS)) S2 Q
end
theorem bK {K:Fg}{H:Hp}{S:Sto}{m:Str}:∀ {fts:List (Str×T)}{fs:List (Str×V)},Paired (λ(p:Str×T) (q:Str×V)=>p.1=q.1/\Rp K H S p.2 q.2) fts fs->fts.lookup m=none->fs.lookup m=none:=by
 intro kts kvs pr
 induction pr with
 |nil=>intro _;exact rfl
 |@cons p q2 l l' er t ih =>
  intro h
  obtain ⟨a,b⟩:=p;obtain ⟨c,d⟩:=q2;obtain ⟨e,r⟩:=er
  simp only at e;subst e
  rw [Ob] at h ⊢
  by_cases z:(m==a)=true
  ·rw [z] at h;cases h
  ·simp only [Su] at z
   rw [z] at h ⊢
   exact ih h
theorem nR {K:Fg}{H:Hp}{S:Sto}{m:Str}{t:T}:∀ {fts:List (Str×T)}{fs:List (Str×V)},Paired (λ(p:Str×T) (q:Str×V)=>p.1=q.1/\Rp K H S p.2 q.2) fts fs->fts.lookup m=some t->∃ v,fs.lookup m=some v/\Rp K H S t v:=by
 intro kts kvs pr
 induction pr with
 |nil=>intro h;cases h
 |@cons p q2 l l' er ps ih =>
  intro h
  obtain ⟨a,b⟩:=p;obtain ⟨c,d⟩:=q2;obtain ⟨e,r⟩:=er
  simp only at e;subst e
  rw [Ob] at h ⊢
  by_cases z:(m==a)=true
  ·rw [z] at h ⊢;cases h;exact ⟨d,rfl,r⟩
  ·simp only [Su] at z
   rw [z] at h ⊢
   exact ih h
noncomputable def dj (f:Str) (v:T):List (Str×T)->List (Str×T)
 |[]=>[(f,v)]
 |(g,u)::r=>if g=f then (g,v)::r else (g,u)::dj f v r
theorem vA {K:Fg}{H:Hp}{S:Sto}{f:Str}{t:T}{v:V}(r:Rp K H S t v):∀ {fts:List (Str×T)}{fs:List (Str×V)},Paired (λ(p:Str×T) (q:Str×V)=>p.1=q.1/\Rp K H S p.2 q.2) fts fs ->
  Paired (λ(p:Str×T) (q:Str×V)=>p.1=q.1/\Rp K H S p.2 q.2) (dj f t fts) (a8 f v fs):=by
 intro kts kvs pr
 induction pr with
 |nil=>exact .cons ⟨rfl,r⟩ .nil
 |@cons p q2 l l' er ps ih =>
  obtain ⟨a,b⟩:=p;obtain ⟨c,d⟩:=q2;obtain ⟨e,q⟩:=er
  simp only at e;subst e
  unfold dj a8
  by_cases z:a=f
  ·rw [NC z,NC z];exact .cons ⟨rfl,r⟩ ps
  ·rw [NB z,NB z];exact .cons ⟨rfl,q⟩ (ih)
theorem Paired.len {α β:Type}{F:α->β->Prop}:∀ {l:List α}{l':List β},Paired F l l'->l'.length=l.length
 |_,_,.nil=>rfl
 |_,_,.cons _ t=>by simp [Paired.len t]
section
variable {K:Fg}{X:Cx}{CX:CXT}{k:Nat}{f:Addr}{fd:FuncData}{ps:List Str}{sp:Sp}{HZ:WSp}{JS:List T}{dvs:List V}{ds:List Value}{E:XK}{x m:Str}{p pos apos:Pos}{e o:Expr}{es:List Expr}{wa:WE}{wr:WA}{ta:TE}{t:TA}{G:Addr->Prop}
def eC (G:Addr->Prop) (m:Str) (sp:Sp) (dvs:List V) (E:XK) (ta:TE) (t:TA):TE:=λU H Q=>ta U H λx H1=>∃ a C dx fs,x=.ref a/\H1 a=some (.ins C dx fs)/\G C/\fs.lookup m=none /\
 t U H1 λvs H2=>sp (x::(vs++dvs)) H2 Q E
theorem xN {pl:Sem Bool}(he:PE X o ta) (hG:∀ C,G C->Cls X.K C/\Meth X.K C m f) (F:FnOk X.prog X.w X.K X.mg X.base CX k f fd ps sp) (hr:Room k X.A) (hb:ay X.K fd ps ds) (hd:aj dvs ds) (hx:dG CX X E) (ha:PA X (e::es) t)
  (Ki:starEach (e::es) X.env=(false,eval e X.env)::starEach es X.env:=by rfl) (JN:(backTo pos (starEach es X.env)).any (·.1)=false:=by rfl)
  (ht:eval (.Call (.Attribute o m apos) (e::es) [] pos) X.env=(do
   let ov <- eval o X.env
   standAt apos.atName
   let (f,first) <- holding [ov] (getMethod ov m pl)
   callWith pos f first (backTo pos (starEach (e::es) X.env)) (backToKw pos (keywordEach [] X.env))):=by rfl) :
  PE X (.Call (.Attribute o m apos) (e::es) [] pos) (eC G m sp dvs E ta t):=by
 intro pins s U H Q I h
 refine PySem.W.methodCall_KW (pl:=pl) (thn (he pins s U H _ I h) λu s1 zy16=>?_) ht
 obtain ⟨x,H1,I1,rx,a,C,dx,fs,ex,ea,g,l,q⟩:=zy16
 subst ex
 obtain rfl:u=Value.ref a:=rx
 obtain ⟨c,hm⟩:=hG C g
 refine nv I1 ea c hm l ?_
 refine PySem.W.callWith_K (first:=[.ref a]) (h₀:=X.base) I.ok.mod.kin hm.kp (thn (ha pos pins s1 U H1 _ I1 q) λus s2 zy17=>?_) Ki JN
 obtain ⟨vs,H2,I2,r,q2⟩:=zy17
 refine ⟨I2.kIn,?_⟩
 exact kY (us:=.ref a::us) (vs:=.ref a::vs) F hr hb hd hx I2 (.cons rfl r) q2
theorem ww {pl:Sem Bool}(he:PE X o ta) (hG:∀ C,G C->Cls X.K C/\Meth X.K C m f) (F:FnOk X.prog X.w X.K X.mg X.base CX k f fd ps sp) (hr:Room k X.A) (hb:ay X.K fd ps ds) (hd:aj dvs ds) (hx:dG CX X E)
  (ht:eval (.Call (.Attribute o m apos) [] [] pos) X.env=(do
   let ov <- eval o X.env
   standAt apos.atName
   let (f,first) <- holding [ov] (getMethod ov m pl)
   callWith pos f first (backTo pos (starEach [] X.env)) (backToKw pos (keywordEach [] X.env))):=by rfl) :
  PE X (.Call (.Attribute o m apos) [] [] pos) (eC G m sp dvs E ta cY):=by
 intro pins s U H Q I h
 refine PySem.W.methodCall_KW (pl:=pl) (thn (he pins s U H _ I h) λu s1 zy18=>?_) ht
 obtain ⟨x,H1,I1,rx,a,C,dx,fs,ex,ea,g,l,q⟩:=zy18
 subst ex
 obtain rfl:u=Value.ref a:=rx
 obtain ⟨c,hm⟩:=hG C g
 refine nv I1 ea c hm l ?_
 exact PySem.W.callWith_K0 (first:=[.ref a]) I1.kIn hm.kp (kY (us:=[.ref a]) (vs:=[.ref a]) F hr hb hd hx I1 (.cons rfl .nil) q)
theorem xO {U H Q}(hd:∀ H S,Rps K H S JS dvs) (h:lE K (eJ G m HZ JS wa wr) U H Q):eC G m (lSp K HZ) dvs E0 (lE K wa) (lA K wr) U H Q:=by
 obtain ⟨S,HE,Qt,s,c,q,hq⟩:=h
 refine ⟨S,HE,_,s,c,q,λx H1 tx S1 f1 s1 r1 q1=>?_⟩
 obtain ⟨a,C,fs,rfl,ea,g,l,q1⟩:=q1
 cases r1
 cases s1 a _ ea with
 |ins eh pr =>
  refine ⟨a,C,_,_,rfl,eh,g,bK pr l,S1,HE,_,s1,c.fr f1,q1,λvs H2 ts S2 f2 s2 r2 q2=>?_⟩
  exact ⟨S2,_,Qt,s2,.cons .ref (r2.append (hd _ _)),q2,λv H' t S' f=>hq v H' t S' ((f1.trans f2).trans f)⟩
theorem Cc (hd:∀ H S,Rps K H S JS dvs) (hp:PE X e (eC G m (lSp K HZ) dvs E0 (lE K wa) (lA K wr))):QE K X e (eJ G m HZ JS wa wr):=PE.of hp λ_ _ _ h=>xO hd h
theorem wx {U H Q}(hd:∀ H S,Rps K H S JS dvs) (h:lE K (eJ G m HZ JS wa eZ) U H Q):eC G m (lSp K HZ) dvs E0 (lE K wa) cY U H Q:=by
 obtain ⟨S,HE,Qt,s,c,q,hq⟩:=h
 refine ⟨S,HE,_,s,c,q,λx H1 tx S1 f1 s1 r1 q1=>?_⟩
 obtain ⟨a,C,fs,rfl,ea,g,l,q1⟩:=q1
 cases r1
 cases s1 a _ ea with
 |ins eh pr =>
  refine ⟨a,C,_,_,rfl,eh,g,bK pr l,?_⟩
  exact ⟨S1,_,Qt,s1,.cons .ref (Rps.append .nil (hd _ _)),q1,λv H' t S' f=>hq v H' t S' (f1.trans f)⟩
theorem zL (hd:∀ H S,Rps K H S JS dvs) (hp:PE X e (eC G m (lSp K HZ) dvs E0 (lE K wa) cY)):QE K X e (eJ G m HZ JS wa eZ):=PE.of hp λ_ _ _ h=>wx hd h
@[reducible] def sj (C:Addr) (HZ:WSp) (JS:List T) (wr:WA):WE:=λU S Q=>wr U S λts S1=>∀ x,S1 x=none->HZ (.ref x::(ts++JS)) (put S1 x (.ins C [])) (λt S2=>t=.non/\Q (.ref x) S2)
theorem kE {H:Hp}{S:Sto}{C x dx:Addr}(hx:H x=none) (hd:H dx=none):Fr H S (upd (upd H dx (.own x)) x (.ins C dx [])) (put S x (.ins C [])):=λa o e n =>
 ⟨by rw [au (bj e hx),au (bj e hd)];exact e,by rw [aq (bj e hx)];exact n⟩
theorem xP {H:Hp}{S:Sto}{C x dx:Addr}(s:SRp K H S) (hx:H x=none) (hd:H dx=none):SRp K (upd (upd H dx (.own x)) x (.ins C dx [])) (put S x (.ins C [])):=λa o e=>by
 by_cases ha:a=x
 ·subst ha;rw [ax] at e;cases e;exact .ins aG .nil
 ·rw [aq ha] at e
  obtain ⟨u,hu⟩:=(s a o e).some
  exact (s a o e).fr (kE hx hd) (by rw [au ha,au (bj hu hd)])
theorem zM {C:Addr}{S:Sto}{H:Hp}{ts:List T}{vs:List V}{Qt:T->Sto->Prop}{Q:VK}(hd:∀ H S,Rps K H S JS dvs) (s:SRp K H S) (r:Rps K H S ts vs) (b:Bh K H S Qt Q)
  (q:∀ x,S x=none->HZ (.ref x::(ts++JS)) (put S x (.ins C [])) (λt S2=>t=.non/\Qt (.ref x) S2)) (x dx:Addr) (hx:H x=none) (hdx:H dx=none) :
  lSp K HZ (.ref x::(vs++dvs)) (upd (upd H dx (.own x)) x (.ins C dx [])) (λv H2=>v=.non/\Q (.ref x) H2) E0:=by
 refine ⟨_,_,_,xP s hx hdx,.cons .ref ((r.fr (kE hx hdx)).append (hd _ _)),q x (s.fresh hx),λv H' t S' f s' r' q'=>?_⟩
 obtain ⟨rfl,q'⟩:=q'
 cases r'
 exact ⟨rfl,b _ H' _ S' ((kE hx hdx).trans f) s' .ref q'⟩
theorem zN {C:Addr}(hd:∀ H S,Rps K H S JS dvs) (hp:PE X e (rY C (lSp K HZ) dvs E0 cY)):QE K X e (sj C HZ JS eZ):=PE.of hp λU H Q ⟨S,HE,Qt,s,c,q,hq⟩=>λx dx hx hdx _ =>
 zM hd s .nil hq q x dx hx hdx
@[reducible] def mK (G:Addr->Prop) (wa:WE) (f:Str):WE:=λU S Q=>wa U S λx S1=>∃ a C fs v,x=.ref a/\S1 a=some (.ins C fs)/\G C/\fs.lookup f=some v/\Q v S1
theorem Ep {f:Str}(hK:X.K=K) (hG:∀ C,G C->Cls K C/\bp K C f) (he:QE K X o wa) (hb:attributeBase o f X.env (eval o X.env)=eval o X.env):QE K X (.Attribute o f pos) (mK G wa f):=by
 subst hK
 refine PE.of (BM he hb) λU H Q zz81=>?_
 obtain ⟨S,HE,Qt,s,c,q,hq⟩:=zz81
 refine ⟨S,HE,_,s,c,q,λx H1 tx S1 f1 s1 r1 q1=>?_⟩
 obtain ⟨a,C,fs,v,rfl,ea,g,l,q1⟩:=q1
 cases r1
 cases s1 a _ ea with
 |ins eh pr =>
  obtain ⟨u,lu,ru⟩:=nR pr l
  exact ⟨a,C,_,_,u,rfl,eh,(hG C g).1,(hG C g).2,lu,hq u H1 v S1 f1 s1 ru q1⟩
@[reducible] def Er (G:Addr->Prop) (wa wv:WE) (f:Str):WS:=λD U S=>wv U S λy S1=>wa U S1 λx S2=>∃ a C fs,x=.ref a/\S2 a=some (.ins C fs)/\G C/\fs.length<1000/\D.nx U (put S2 a (.ins C (dj f y fs)))
theorem nT {H:Hp}{S:Sto}{a C dx:Addr}{fts:List (Str×T)}{fs:List (Str×V)}{f:Str}{t:T}{v:V}(s:SRp K H S) (ea:S a=some (.ins C fts)) (eh:H a=some (.ins C dx fs))
  (pr:Paired (λ(p:Str×T) (q:Str×V)=>p.1=q.1/\Rp K H S p.2 q.2) fts fs) (r:Rp K H S t v):Fr H S (upd H a (.ins C dx (a8 f v fs))) (put S a (.ins C (dj f t fts)))/\SRp K (upd H a (.ins C dx (a8 f v fs))) (put S a (.ins C (dj f t fts))):=by
 have hn:S a≠none:=by rw [ea];simp
 refine ⟨Fr.write hn,s.write hn (.ins aG ?_)⟩
 exact Paired.mapP (vA r pr) λ_ _ z=>⟨z.1,z.2.fr (Fr.write hn)⟩
theorem qC {f:Str}{wv:WE}{value:Expr}{IZ:Pos}(hK:X.K=K) (hG:∀ C,G C->Cls K C/\bp K C f) (ha:QE K X o wa) (hv:QE K X value wv) (hs:swapsWith value (some (.Attribute o f IZ)) pos.line X.env=pure false:=by rfl) :
  QS K X (.Assign [.Attribute o f IZ] value pos) (Er G wa wv f):=by
 subst hK
 refine PS.of (BN ha hv hs) λD U H zz82=>?_
 obtain ⟨S,HE,Dt,s,c,q,he⟩:=zz82
 refine ⟨S,HE,_,s,c,q,λy H1 ty S1 f1 s1 r1 q1=>?_⟩
 refine ⟨S1,HE,_,s1,c.fr f1,q1,λx H2 tx S2 f2 s2 r2 q2=>?_⟩
 obtain ⟨a,C,fs,rfl,ea,g,l,q2⟩:=q2
 cases r2
 cases s2 a _ ea with
 |ins eh pr =>
  obtain ⟨fw,sw⟩:=nT (f:=f) s2 ea eh pr (r1.fr f2)
  exact ⟨a,C,_,_,rfl,eh,(hG C g).1,(hG C g).2,by rw [Paired.len pr];exact l,he.nx _ _ HE _ ((f1.trans f2).trans fw) sw (c.fr ((f1.trans f2).trans fw)) q2⟩
@[reducible] def xQ (G:Addr->Prop) (wa wv:WE) (f:Str):WS:=λD U S=>wa U S λx S1=>∃ a C fs i,x=.ref a/\S1 a=some (.ins C fs)/\G C/\fs.lookup f=some (.int i) /\
 wv U S1 λy S2=>∃ j Jk,y=.int j/\S2 a=some (.ins C Jk)/\Jk.length<1000/\D.nx U (put S2 a (.ins C (dj f (.int (i+j)) Jk)))
theorem wA {f:Str}{wv:WE}{value:Expr}{IV:Pos}(hK:X.K=K) (hG:∀ C,G C->Cls K C/\bp K C f) (ha:QE K X o wa) (hv:QE K X value wv):QS K X (.AugAssign (.Attribute o f IV) .Add value pos) (xQ G wa wv f):=by
 subst hK
 refine PS.of (vZ ha hv BO) λD U H zz83=>?_
 obtain ⟨S,HE,Dt,s,c,q,he⟩:=zz83
 refine ⟨S,HE,_,s,c,q,λx H1 tx S1 f1 s1 r1 q1=>?_⟩
 obtain ⟨a,C,fs,i,rfl,ea,g,l,q1⟩:=q1
 cases r1
 cases s1 a _ ea with
 |ins eh pr =>
  obtain ⟨u,lu,ru⟩:=nR pr l
  cases ru
  refine ⟨a,C,_,_,_,rfl,eh,(hG C g).1,(hG C g).2,lu,S1,HE,_,s1,c.fr f1,q1,λy H2 ty S2 f2 s2 r2 q2=>?_⟩
  obtain ⟨j,Jk,rfl,ea2,l2,q2⟩:=q2
  cases r2
  cases s2 a _ ea2 with
  |ins eh2 pr2 =>
   obtain ⟨fw,sw⟩:=nT (f:=f) (t:=.int (i+j)) (v:=.int (i+j)) s2 ea2 eh2 pr2 .int
   exact ⟨i,j,rfl,rfl,_,_,eh2,by rw [Paired.len pr2];exact l2,he.nx _ _ HE _ ((f1.trans f2).trans fw) sw (c.fr ((f1.trans f2).trans fw)) q2⟩
end
noncomputable def az (S:Sto):T->Option (List T)
 |.lst ts=>some ts
 |.scr ns=>some (ns.map T.int)
 |.ref a=>match S a with
  |some (.lst ts)=>some ts
  |_=>none
 |_=>none
theorem eD {S:Sto}{p:Addr}{ts:List T}(e:S p=some (.lst ts)):az S (.ref p)=some ts:=by delta az;dsimp only;rw [e]
noncomputable def ck (S:Sto):T->Option (List T)
 |.lst ts=>some ts
 |.ref a=>match S a with
  |some (.lst ts)=>some ts
  |_=>none
 |_=>none
theorem gZ {K H S t v ts}(s:SRp K H S) (r:Rp K H S t v) (e:ck S t=some ts):∃ p vs,v=.ref p/\H p=some (.lst vs)/\Rps K H S ts vs:=by
 cases r with
 |lst n h q=>cases e;exact ⟨_,_,rfl,h,q⟩
 |ref =>
  rename_i a
  delta ck at e
  dsimp only at e
  cases q:S a with
  |none=>rw [q] at e;cases e
  |some o =>
   rw [q] at e
   cases o with
   |lst us=>cases e;cases s a _ q with
    |lst h rs=>exact ⟨a,_,rfl,h,rs⟩
   |_=>cases e
 |_=>cases e
theorem bD {K H S t v ts}(s:SRp K H S) (r:Rp K H S t v) (e:az S t=some ts):∃ p vs,v=.ref p/\SqL K H p vs/\Rps K H S ts vs:=by
 cases r with
 |scr h=>cases e;exact ⟨_,_,rfl,h.sq,Rps.ints⟩
 |lst n h q=>cases e;exact ⟨_,_,rfl,SqL.of h,q⟩
 |ref =>
  obtain ⟨p,vs,e1,e2,e3⟩:=gZ s (Rp.ref (K:=K) (H:=H) (S:=S)) (show ck S (.ref _)=some ts from e)
  exact ⟨p,vs,e1,SqL.of e2,e3⟩
 |_=>cases e
def newL (tr:Bool) (ts:List T) (S:Sto) (Q:T->Sto->Prop):Prop:=match tr with
 |false=>Q (.lst ts) S
 |true=>∀ p,S p=none->Q (.ref p) (put S p (.lst ts))
theorem h6 {K H S ts vs tr Qt}{Q:VK}(s:SRp K H S) (r:Rps K H S ts vs) (n:newL tr ts S Qt) (b:Bh K H S Qt Q):∀ p,H p=none->Q (.ref p) (upd H p (.lst vs)):=λp hp=>by
 cases tr with
 |false=>exact b _ _ (.lst ts) S (Fr.new hp) (s.new hp) (.lst (s.fresh hp) aG (r.fr (Fr.new hp))) n
 |true=>exact b _ _ (.ref p) _ (Fr.newT hp) (s.newT hp (.lst aG (r.fr (Fr.newT hp)))) .ref (n p (s.fresh hp))
section
variable {K:Fg}{X:Cx}
def gI (C:Int->Int->Prop) (f:Int->Int->T):G2:=λx y S Q=>match x,y with
 |.int i,.int j=>C i j/\Q (f i j) S
 |_,_=>False
theorem ix {f:Value->Value->Sem Value}{C:Int->Int->Prop}{g:Int->Int->Int}(h:OpR X f (rI C λi j=>.int (g i j))):OpR X f (l2 K (gI C λi j=>.int (g i j))):=by
 rintro pins s U H x y v u Q I rx ry ⟨S,tx,ty,Qt,sr,hx,hy,hg,b⟩
 cases hx<;>first|exact hg.elim|skip
 cases hy<;>first|exact hg.elim|skip
 exact h pins s U H _ _ v u Q I rx ry ⟨_,_,rfl,rfl,hg.1,b _ H _ S .refl sr .int hg.2⟩
theorem Cd {f:Value->Value->Sem Value}{g:Int->Int->Int}(h:OpR X f (rI0 λi j=>.int (g i j))):OpR X f (l2 K (gI (λ_ _=>True) λi j=>.int (g i j))):=by
 rintro pins s U H x y v u Q I rx ry ⟨S,tx,ty,Qt,sr,hx,hy,hg,b⟩
 cases hx<;>first|exact hg.elim|skip
 cases hy<;>first|exact hg.elim|skip
 exact h pins s U H _ _ v u Q I rx ry ⟨_,_,rfl,rfl,b _ H _ S .refl sr .int hg.2⟩
def dR:G2:=gI (λ_ _=>True) λi j=>.int (i - j)
def tJ:G2:=gI (λ_ j=>0<j/\j<18446744073709551616) λi j=>.int (i / j)
def tK:G2:=gI (λ_ j=>0<j) λi j=>.int (i % j)
def tL:G2:=gI tq λi j=>.int (i ^ j.toNat)
def tM:G2:=gI (λ_ j=>0<=j) λi j=>.int (i / 2 ^ j.toNat)
theorem iy:OpR X (binaryOp .Sub) (l2 K dR):=Cd BE
theorem iz:OpR X (binaryOp .FloorDiv) (l2 K tJ):=ix xC
theorem eK:OpR X (binaryOp .Mod) (l2 K tK):=ix BG
theorem sk:OpR X (binaryOp .Pow) (l2 K tL):=ix BH
theorem Es:OpR X (binaryOp .RShift) (l2 K tM):=ix BI
def iM (tr:Bool):G2:=λx y S Q=>match x,y with
 |.int i,.int j=>Q (.int (i+j)) S
 |.str a,.str c=>a.length+c.length<=sizeLine/\Q (.str (a++c)) S
 |x,y=>∃ ts us,ck S x=some ts/\ck S y=some us/\ts.length+us.length<=sizeLine/\newL tr (ts++us) S Q
theorem ba (tr:Bool):OpR X (binaryOp .Add) (l2 K (iM tr)):=by
 rintro pins s U H x y v u Q I rx ry ⟨S,tx,ty,Qt,sr,hx,hy,hg,b⟩
 have lists:(∃ ts us,ck S tx=some ts/\ck S ty=some us/\ts.length+us.length<=sizeLine/\newL tr (ts++us) S Qt)->wpAny (model X.prog X.w) X.A (binaryOp .Add v u) (EP X pins U Q) X.xe s:=by
  rintro ⟨ts,us,e1,e2,hz,n⟩
  obtain ⟨p,vs,rfl,h1,r1⟩:=gZ sr hx e1
  obtain ⟨q,ws,rfl,h2,r2⟩:=gZ sr hy e2
  exact BU pins s U H _ _ v u Q I rx ry ⟨p,q,vs,ws,rfl,rfl,h1,h2,by rw [r1.length,r2.length];exact hz,h6 sr (r1.append r2) n b⟩
 cases tx with
 |int i =>
  cases ty with
  |int j=>cases hx;cases hy;exact BD pins s U H _ _ v u Q I rx ry ⟨i,j,rfl,rfl,b _ H _ S .refl sr .int hg⟩
  |_=>exact lists hg
 |str a =>
  cases ty with
  |str c=>cases hx;cases hy;exact vq pins s U H _ _ v u Q I rx ry ⟨a,c,rfl,rfl,hg.1,b _ H _ S .refl sr .str hg.2⟩
  |_=>exact lists hg
 |_=>exact lists hg
def tN (tr:Bool):G2:=λx y S Q=>match x,y with
 |.int i,.int j=>eU i j/\Q (.int (i * j)) S
 |x,.int k=>∃ ts,ck S x=some ts /\ -(2 ^ 63)<=k/\k<2 ^ 63/\ts.length * k.toNat<=sizeLine/\newL tr (List.replicate k.toNat ts).flatten S Q
 |_,_=>False
theorem Rps.rep {H S ts vs}(r:Rps K H S ts vs):∀ n:Nat,Rps K H S (List.replicate n ts).flatten (List.replicate n vs).flatten
 |0=>.nil
 |n+1=>by simp only [PJ,OP];exact r.append (Rps.rep r n)
theorem fX (tr:Bool):OpR X (binaryOp .Mult) (l2 K (tN tr)):=by
 rintro pins s U H x y v u Q I rx ry ⟨S,tx,ty,Qt,sr,hx,hy,hg,b⟩
 have lists:∀ k,ty=.int k->(∃ ts,ck S tx=some ts /\ -(2 ^ 63)<=k/\k<2 ^ 63/\ts.length * k.toNat<=sizeLine/\newL tr (List.replicate k.toNat ts).flatten S Qt)->wpAny (model X.prog X.w) X.A (binaryOp .Mult v u) (EP X pins U Q) X.xe s:=by
  rintro k rfl ⟨ts,e1,k1,k2,hz,n⟩
  obtain ⟨p,vs,rfl,h1,r1⟩:=gZ sr hx e1
  cases hy
  exact BV pins s U H _ _ v u Q I rx ry ⟨p,k,vs,rfl,rfl,h1,k1,k2,by rw [r1.length];exact hz,h6 sr (r1.rep _) n b⟩
 cases ty with
 |int k =>
  cases tx with
  |int i=>cases hx;cases hy;exact BF pins s U H _ _ v u Q I rx ry ⟨i,k,rfl,rfl,hg.1,b _ H _ S .refl sr .int hg.2⟩
  |_=>exact lists k rfl hg
 |_=>cases tx<;>exact hg.elim
mutual
noncomputable def bV:T->Option PyData
 |.non=>some .none
 |.bl b=>some (.bool b)
 |.int i=>some (.int i)
 |.str x=>some (.str x)
 |.tup ts=>(aT ts).map .tuple
 |.lst ts=>(aT ts).map .list
 |.scr ns=>some (.list (ns.map .int))
 |_=>none
noncomputable def aT:List T->Option (List PyData)
 |[]=>some []
 |t::ts=>match bV t,aT ts with
  |some d,some ds=>some (d::ds)
  |_,_=>none
end
noncomputable def bB (S:Sto) (t:T):Option PyData:=match t with
 |.ref a=>match S a with
  |some (.lst ts)=>(aT ts).map .list
  |_=>none
 |t=>bV t
theorem xR {x:Str}:bV (.str x)=some (.str x):=rfl
theorem xS {ts:List T}:bV (.tup ts)=(aT ts).map .tuple:=rfl
theorem xT {ts:List T}:bV (.lst ts)=(aT ts).map .list:=rfl
theorem pE {t:T}{ts:List T}:aT (t::ts)=(match bV t,aT ts with|some d,some ds=>some (d::ds)|_,_=>none):=rfl
theorem kF {t:T}{ts:List T}{d:PyData}{ds:List PyData}(h1:bV t=some d) (h2:aT ts=some ds):aT (t::ts)=some (d::ds):=by rw [pE,h1,h2]
theorem kG {t:T}{ts:List T}{es:List PyData}(e:aT (t::ts)=some es):∃ d ds,bV t=some d/\aT ts=some ds/\es=d::ds:=by
 rw [pE] at e
 cases h1:bV t with
 |none=>rw [h1] at e;cases e
 |some d =>
  cases h2:aT ts with
  |none=>rw [h1,h2] at e;cases e
  |some dl=>rw [h1,h2] at e;cases e;exact ⟨d,dl,rfl,rfl,rfl⟩
theorem xU {H:Hp}{ns:List Int}:DatVs K H (ns.map V.int) (ns.map PyData.int):=by
 induction ns with
 |nil=>exact .nil
 |cons a l ih=>exact .cons (.int a) ih
theorem kH {H S}:∀ {t v d},Rp K H S t v->bV t=some d->DatV K H v d:=by
 intro t v d r
 induction r using Rp.rec (motive_2:=λts vs _=>∀ {ds},aT ts=some ds->DatVs K H vs ds) generalizing d with
 |tup n h _ i =>
  intro e
  simp only [xS,OE] at e
  obtain ⟨ds,e,rfl⟩:=e
  exact .tup (SqT.of h) (i e)
 |lst n h _ i =>
  intro e
  simp only [xT,OE] at e
  obtain ⟨ds,e,rfl⟩:=e
  exact .lst (SqL.of h) (i e)
 |scr h=>intro e;cases e;exact .lst h.sq xU
 |cons _ _ i j =>
  rename_i e
  obtain ⟨d,dl,h1,h2,rfl⟩:=kG e
  exact .cons (i h1) (j h2)
 |nil=>rename_i e;cases e;exact .nil
 |_=>intro e;cases e<;>constructor
theorem xV {H S}:∀ {ts vs ds},Rps K H S ts vs->aT ts=some ds->DatVs K H vs ds:=by
 intro ts vs ds r
 induction r using Rps.rec (motive_1:=λ_ _ _=>True) generalizing ds with
 |nil=>intro e;cases e;exact .nil
 |cons a _ _ j =>
  intro e
  obtain ⟨d,dl,h1,h2,rfl⟩:=kG e
  exact .cons (kH a h1) (j h2)
 |_=>trivial
theorem g6 {H S t v d}(s:SRp K H S) (r:Rp K H S t v) (e:bB S t=some d):DatV K H v d:=by
 cases t with
 |ref a =>
  cases r
  delta bB at e
  dsimp only at e
  cases q:S a with
  |none=>rw [q] at e;cases e
  |some o =>
   rw [q] at e
   cases o with
   |lst us =>
    simp only [OE] at e
    obtain ⟨ds,e,rfl⟩:=e
    cases s a _ q with
    |lst h rs=>exact .lst (SqL.of h) (xV rs e)
   |_=>cases e
 |_=>exact kH r e
def gEq (neg:Bool):G2:=λx y S Q=>match x,y with
 |.int i,.int j=>Q (.bl (neg ^^ decide (i=j))) S
 |.str i,.str j=>Q (.bl (neg ^^ decide (i=j))) S
 |.bl i,.bl j=>Q (.bl (neg ^^ decide (i=j))) S
 |x,y=>∃ dx dy,bB S x=some dx/\bB S y=some dy/\dx.canLay0=true/\dy.canLay0=true/\min dx.depth dy.depth<=64/\Q (.bl (neg ^^ PyData.eqv dx dy)) S
theorem iN (hK:X.K=K) (hu:X.A.units+64<cLine):OpR X (compareOp .Eq) (l2 K (gEq false)):=by
 subst hK
 rintro pins s U H x y v u Q I rx ry ⟨S,tx,ty,Qt,sr,hx,hy,hg,b⟩
 have deep:(∃ dx dy,bB S tx=some dx/\bB S ty=some dy/\dx.canLay0=true/\dy.canLay0=true/\min dx.depth dy.depth<=64/\Qt (.bl (false ^^ PyData.eqv dx dy)) S)->wpAny (model X.prog X.w) X.A (compareOp .Eq v u) (EP X pins U Q) X.xe s:=by
  rintro ⟨dx,dy,e1,e2,c1,c2,hd,q⟩
  exact BX hu pins s U H _ _ v u Q I rx ry ⟨dx,dy,g6 sr hx e1,g6 sr hy e2,c1,c2,hd,b _ H _ S .refl sr .bl q⟩
 cases tx with
 |int i =>
  cases ty with
  |int j=>cases hx;cases hy;exact lV pins s U H _ _ v u Q I rx ry ⟨rfl,b _ H _ S .refl sr .bl (by have hg:Qt (.bl (false ^^ decide (i=j))) S:=hg;simpa using hg)⟩
  |_=>exact deep hg
 |str i =>
  cases ty with
  |str j=>cases hx;cases hy;exact lV pins s U H _ _ v u Q I rx ry ⟨rfl,b _ H _ S .refl sr .bl (by have hg:Qt (.bl (false ^^ decide (i=j))) S:=hg;simpa using hg)⟩
  |_=>exact deep hg
 |bl i =>
  cases ty with
  |bl j=>cases hx;cases hy;exact lV pins s U H _ _ v u Q I rx ry ⟨rfl,b _ H _ S .refl sr .bl (by have hg:Qt (.bl (false ^^ decide (i=j))) S:=hg;simpa using hg)⟩
  |_=>exact deep hg
 |_=>exact deep hg
theorem b8 (hK:X.K=K) (hu:X.A.units+64<cLine):OpR X (compareOp .NotEq) (l2 K (gEq true)):=by
 subst hK
 rintro pins s U H x y v u Q I rx ry ⟨S,tx,ty,Qt,sr,hx,hy,hg,b⟩
 have deep:(∃ dx dy,bB S tx=some dx/\bB S ty=some dy/\dx.canLay0=true/\dy.canLay0=true/\min dx.depth dy.depth<=64/\Qt (.bl (true ^^ PyData.eqv dx dy)) S)->wpAny (model X.prog X.w) X.A (compareOp .NotEq v u) (EP X pins U Q) X.xe s:=by
  rintro ⟨dx,dy,e1,e2,c1,c2,hd,q⟩
  exact BY hu pins s U H _ _ v u Q I rx ry ⟨dx,dy,g6 sr hx e1,g6 sr hy e2,c1,c2,hd,b _ H _ S .refl sr .bl q⟩
 cases tx with
 |int i =>
  cases ty with
  |int j=>cases hx;cases hy;exact lW pins s U H _ _ v u Q I rx ry ⟨rfl,b _ H _ S .refl sr .bl (by have hg:Qt (.bl (true ^^ decide (i=j))) S:=hg;simpa using hg)⟩
  |_=>exact deep hg
 |str i =>
  cases ty with
  |str j=>cases hx;cases hy;exact lW pins s U H _ _ v u Q I rx ry ⟨rfl,b _ H _ S .refl sr .bl (by have hg:Qt (.bl (true ^^ decide (i=j))) S:=hg;simpa using hg)⟩
  |_=>exact deep hg
 |bl i =>
  cases ty with
  |bl j=>cases hx;cases hy;exact lW pins s U H _ _ v u Q I rx ry ⟨rfl,b _ H _ S .refl sr .bl (by have hg:Qt (.bl (true ^^ decide (i=j))) S:=hg;simpa using hg)⟩
  |_=>exact deep hg
 |_=>exact deep hg
noncomputable def ltS (a c:Str):Bool:=decide (a.cps.toList<c.cps.toList)
def gLt:G2:=λx y S Q=>match x,y with
 |.int i,.int j=>Q (.bl (decide (i<j))) S
 |.str a,.str c=>Q (.bl (ltS a c)) S
 |_,_=>False
def gLe:G2:=λx y S Q=>match x,y with
 |.int i,.int j=>Q (.bl (decide (i<=j))) S
 |.str a,.str c=>Q (.bl (!ltS c a)) S
 |_,_=>False
def gGt:G2:=λx y S Q=>match x,y with
 |.int i,.int j=>Q (.bl (decide (j<i))) S
 |_,_=>False
theorem cZ:OpR X (compareOp .Lt) (l2 K gLt):=by
 rintro pins s U H x y v u Q I rx ry ⟨S,tx,ty,Qt,sr,hx,hy,hg,b⟩
 cases hx<;>first|exact hg.elim|skip
 ·cases hy<;>first|exact hg.elim|skip
  exact DW pins s U H _ _ v u Q I rx ry ⟨_,_,rfl,rfl,b _ H _ S .refl sr .bl hg⟩
 ·cases hy<;>first|exact hg.elim|skip
  exact vV pins s U H _ _ v u Q I rx ry ⟨_,_,rfl,rfl,b _ H _ S .refl sr .bl hg⟩
theorem b9:OpR X (compareOp .LtE) (l2 K gLe):=by
 rintro pins s U H x y v u Q I rx ry ⟨S,tx,ty,Qt,sr,hx,hy,hg,b⟩
 cases hx<;>first|exact hg.elim|skip
 ·cases hy<;>first|exact hg.elim|skip
  exact DX pins s U H _ _ v u Q I rx ry ⟨_,_,rfl,rfl,b _ H _ S .refl sr .bl hg⟩
 ·cases hy<;>first|exact hg.elim|skip
  exact wm pins s U H _ _ v u Q I rx ry ⟨_,_,rfl,rfl,b _ H _ S .refl sr .bl hg⟩
theorem e8:OpR X (compareOp .Gt) (l2 K gGt):=by
 rintro pins s U H x y v u Q I rx ry ⟨S,tx,ty,Qt,sr,hx,hy,hg,b⟩
 cases hx<;>first|exact hg.elim|skip
 cases hy<;>first|exact hg.elim|skip
 exact DY pins s U H _ _ v u Q I rx ry ⟨_,_,rfl,rfl,b _ H _ S .refl sr .bl hg⟩
def isN:T->Bool
 |.non=>true
 |_=>false
def gIs (neg:Bool):G2:=λx y S Q=>match y with
 |.non=>Q (.bl (neg ^^ isN x)) S
 |_=>False
theorem Et {H S t v}(r:Rp K H S t v):decide (v=V.non)=isN t:=by cases r<;>simp [isN]
theorem mL:OpR X (compareOp .Is) (l2 K (gIs false)):=by
 rintro pins s U H x y v u Q I rx ry ⟨S,tx,ty,Qt,sr,hx,hy,hg,b⟩
 cases hy<;>first|exact hg.elim|skip
 refine BK pins s U H _ _ v u Q I rx ry ⟨rfl,b _ H _ S .refl sr .bl ?_⟩
 rw [Et hx];simpa [gIs] using hg
@[reducible] def Gy (wa:WE):WE:=λU S Q=>wa U S λx S1=>match x with
 |.int i=>Q (.int (-i)) S1
 |_=>False
theorem fY {a:Expr}{wa:WE}{pos:Pos}(ha:QE K X a wa):QE K X (.UnaryOp .USub a pos) (Gy wa):=PE.of (DV BJ ha) λU H Q zz84=>by
 obtain ⟨S,HE,Qt,s,c,q,hq⟩:=zz84
 refine ⟨S,HE,_,s,c,q,λx H1 tx S1 f1 s1 r1 q1=>?_⟩
 cases r1<;>first|exact q1.elim|skip
 exact ⟨_,rfl,hq _ H1 _ S1 f1 s1 .int q1⟩
def ixT (S:Sto) (x y:T):Option T:=match x,y with
 |.tup ts,.int i=>atI ts i
 |.str z,.int i=>if z.length<=sizeLine then (atI z.cps.toList i).map λc=>.str ⟨#[c]⟩ else none
 |x,.int i=>(az S x).bind λts=>atI ts i
 |_,_=>none
theorem qD {S:Sto}{p:Addr}{ts:List T}{i:Int}(e:S p=some (.lst ts)):ixT S (.ref p) (.int i)=atI ts i:=by
 show (az S (.ref p)).bind (λts=>atI ts i)=_
 rw [eD e];rfl
theorem qE {S:Sto}{ts:List T}{i:Int}:ixT S (.lst ts) (.int i)=atI ts i:=rfl
def gIx:G2:=λx y S Q=>∃ r,ixT S x y=some r/\Q r S
theorem qF {H S ts vs i t}(r:Rps K H S ts vs) (e:atI ts i=some t):∃ v,atI vs i=some v/\Rp K H S t v:=by
 unfold atI at e ⊢
 rw [r.length]
 cases q:ixN ts.length i with
 |none=>rw [q] at e;cases e
 |some j =>
  rw [q] at e
  simp only [Sv] at e ⊢
  exact r.get e
theorem Gz (hK:X.K=K):IxR X (l2 K gIx):=by
 subst hK
 rintro value slice pins s U H x y v u Q I rx ry ⟨S,tx,ty,Qt,sr,hx,hy,⟨r,e,q⟩,b⟩ hs
 have lists:∀ i,ty=.int i->(az S tx).bind (λts=>atI ts i)=some r->wpAny (model X.prog X.w) X.A (subscriptTail value slice v u) (EP X pins U Q) X.xe s:=by
  rintro i rfl e
  cases hy
  cases h1:az S tx with
  |none=>rw [h1] at e;cases e
  |some ts =>
   rw [h1] at e
   obtain ⟨p,vs,rfl,hq,rs⟩:=bD sr hx h1
   obtain ⟨w',e2,r2⟩:=qF rs e
   exact zl value slice pins s U H _ _ v u Q I rx ry ⟨p,vs,i,w',rfl,rfl,hq,e2,b _ H _ S .refl sr r2 q⟩ hs
 cases ty with
 |int i =>
  cases tx with
  |tup ts =>
   cases hy
   cases hx with
   |tup n hp rs =>
    obtain ⟨w',e2,r2⟩:=qF rs (show atI ts i=some r from e)
    exact BQ value slice pins s U H _ _ v u Q I rx ry ⟨_,_,i,w',rfl,rfl,SqT.of hp,e2,b _ H _ S .refl sr r2 q⟩ hs
  |str z =>
   cases hy
   cases hx
   delta ixT at e
   dsimp only at e
   split at e
   ·next hz =>
    simp only [OE] at e
    obtain ⟨c,e,rfl⟩:=e
    exact BR value slice pins s U H _ _ v u Q I rx ry ⟨z,i,c,rfl,rfl,hz,e,b _ H _ S .refl sr .str q⟩ hs
   ·cases e
  |_=>exact lists i rfl e
 |_=>cases tx<;>cases e
theorem GA {a c:Expr}{wa wc:WE}{pos:Pos}(hK:X.K=K) (ha:QE K X a wa) (hc:QE K X c wc) (hs:kB c):QE K X (.Subscript a c pos) (w2 gIx wa wc):=PE.of (D0 (Gz hK) ha hc hs) λ_ _ _ h=>ir h
abbrev WO:=StT->Sto->(Option Int->Sto->Prop)->Prop
def lO (K:Fg) (w:WO):TO:=λU H Q=>∃ S HE Qt,SRp K H S/\Cov K H S U HE/\w HE S Qt/\∀ b H' S',Fr H S H' S'->SRp K H' S'->Qt b S'->Q b H'
def QO (K:Fg) (X:Cx) (e:Option Expr) (w:WO):Prop:=PO X e (lO K w)
theorem PO.of {e:Option Expr}{t t':TO}(h:PO X e t) (i:∀ U H Q,t' U H Q->t U H Q):PO X e t':=λpins s U H Q I q=>h pins s U H Q I (i U H Q q)
@[reducible] def woN:WO:=λ_ S Q=>Q none S
@[reducible] def woS (wa:WE):WO:=λU S Q=>wa U S λx S1=>match x with
 |.int i=>Q (some i) S1
 |_=>False
theorem cO:QO K X none woN:=PO.of zh λU H Q zz85=>by obtain ⟨S,HE,Qt,s,c,q,hq⟩:=zz85;exact hq none H S .refl s q
theorem cP {e:Expr}{wa:WE}(h:QE K X e wa):QO K X (some e) (woS wa):=PO.of (zi h) λU H Q zz86=>by
 obtain ⟨S,HE,Qt,s,c,q,hq⟩:=zz86
 refine ⟨S,HE,_,s,c,q,λx H1 tx S1 f1 s1 r1 q1=>?_⟩
 cases r1<;>first|exact q1.elim|skip
 exact ⟨_,rfl,hq _ H1 S1 f1 s1 q1⟩
def c0 (ts:List T) (lo hi:Option Int):List T:=(ts.drop (HT.sIx ts.length 0 lo)).take (HT.sIx ts.length ts.length hi - HT.sIx ts.length 0 lo)
theorem Ce {H S ts vs lo hi}(r:Rps K H S ts vs):Rps K H S (c0 ts lo hi) (eV vs lo hi):=by
 unfold c0 eV
 rw [r.length]
 exact (r.drop _).take _
def gSl (tr:Bool) (x:T) (lo hi:Option Int) (S:Sto) (Q:T->Sto->Prop):Prop:=match x with
 |.str z=>z.length<=sizeLine/\Q (.str (Txt.slice z lo hi)) S
 |x=>∃ ts,az S x=some ts/\newL tr (c0 ts lo hi) S Q
def l3 (K:Fg) (g:T->Option Int->Option Int->Sto->(T->Sto->Prop)->Prop):V->Option Int->Option Int->Hp->VK->Prop:=λx lo hi H Q=>∃ S tx Qt,SRp K H S/\Rp K H S tx x/\g tx lo hi S Qt/\Bh K H S Qt Q
theorem GB (tr:Bool) (hK:X.K=K):SlR X (l3 K (gSl tr)):=by
 subst hK
 rintro pins s U H x v vl vu lo hi sl Q I rx hs pl pu ⟨S,tx,Qt,sr,hx,hg,b⟩
 have lists:(∃ ts,az S tx=some ts/\newL tr (c0 ts lo hi) S Qt)->tF X.K x lo hi H Q:=by
  rintro ⟨ts,e,n⟩
  obtain ⟨p,vs,rfl,hq,rs⟩:=bD sr hx e
  exact ⟨p,vs,rfl,hq,h6 sr (Ce rs) n b⟩
 cases tx with
 |str z=>cases hx;exact B3 pins s U H _ v vl vu lo hi sl Q I rx hs pl pu ⟨z,rfl,hg.1,b _ H _ S .refl sr .str hg.2⟩
 |_=>exact zm pins s U H _ v vl vu lo hi sl Q I rx hs pl pu (lists hg)
@[reducible] def wSl (tr:Bool) (wa:WE) (wl wh:WO):WE:=λU S Q=>wa U S λx S1=>wl U S1 λl S2=>wh U S2 λh S3=>gSl tr x l h S3 Q
theorem cQ (tr:Bool){e:Expr}{lo hi:Option Expr}{wa:WE}{wl wh:WO}{p2 pos:Pos}(hK:X.K=K) (he:QE K X e wa) (hl:QO K X lo wl) (hu:QO K X hi wh):QE K X (.Subscript e (.Slice lo hi none p2) pos) (wSl tr wa wl wh) :=
 PE.of (xz (GB tr hK) he hl hu) λU H Q zz87=>by
  obtain ⟨S,HE,Qt,s,c,q,hq⟩:=zz87
  refine ⟨S,HE,_,s,c,q,λx H1 tx S1 f1 s1 r1 q1=>?_⟩
  refine ⟨S1,HE,_,s1,c.fr f1,q1,λl H2 S2 f2 s2 q2=>?_⟩
  refine ⟨S2,HE,_,s2,c.fr (f1.trans f2),q2,λh H3 S3 f3 s3 q3=>?_⟩
  exact ⟨S3,tx,Qt,s3,(r1.fr f2).fr f3,q3,λv H' t S' f=>hq v H' t S' (((f1.trans f2).trans f3).trans f)⟩
end
structure Src where
 items:List T
 grd:Sto->Prop
abbrev WI:=StT->Sto->(Src->Sto->Prop)->Prop
structure Iter (K:Fg) (J:It) (src:Src) (H1:Hp) (S1:Sto):Prop where
 go:∀ H S i,Fr H1 S1 H S->SRp K H S->src.grd S->i<src.items.length->J.go i H
 yld:∀ H S i x H',Fr H1 S1 H S->SRp K H S->src.grd S->i<src.items.length->J.yld i H x H'->∃ t,src.items[i]?=some t/\Fr H S H' S/\SRp K H' S/\Rp K H' S t x
 stop:∀ H S,Fr H1 S1 H S->SRp K H S->src.grd S->J.stop src.items.length H
def lI (K:Fg) (w:WI):TI:=λU H R=>∃ S HE Rt,SRp K H S/\Cov K H S U HE/\w HE S Rt/\∀ J H1 src S1,Fr H S H1 S1->SRp K H1 S1->Iter K J src H1 S1->Rt src S1->R J H1
def QI (K:Fg) (X:Cx) (tg iter:Expr) (w:WI):Prop:=PI X tg iter (lI K w)
section
variable {K:Fg}{X:Cx}{tg:Expr}
theorem PI.of {e:Expr}{t t':TI}(h:PI X tg e t) (i:∀ U H Q,t' U H Q->t U H Q):PI X tg e t':=λpins s U H Q I q=>h pins s U H Q I (i U H Q q)
theorem pF {α:Type}{l:List α}{i:Nat}{t:α}(h:l[i]?=some t):l.drop i=t::l.drop (i+1):=by
 obtain ⟨hl,e⟩:=Oa.mp h
 rw [<- e];exact Px hl
def c3 (grd:Sto->Prop) (g:WG) (wb:WS) (D:EndsT):List T->StT->Sto->Prop
 |[],U,S=>grd S/\D.nx U S
 |t::ts,U,S=>grd S/\g t U S λIM S2=>wb { nx:=c3 grd g wb D ts,rt:=D.rt,bk:=D.nx,ct:=c3 grd g wb D ts } IM S2
@[reducible] def tO (wi:WI) (g:WG) (wb:WS):WS:=λD U S=>wi U S λsrc S1=>c3 src.grd g wb D src.items U S1
theorem zO {wi:WI}{g:WG}{wb:WS}{D U H}(h:lS K (tO wi g wb) D U H):tm (lI K wi) (lG K g) (lS K wb) D U H:=by
 obtain ⟨S,HE,Dt,s,c,q,he⟩:=h
 refine ⟨S,HE,_,s,c,q,λJ H1 src S1 f1 s1 it q1=>?_⟩
 refine ⟨λi m U H=>m=src.items.length - i/\i<=src.items.length/\∃ S HE,Fr H1 S1 H S/\SRp K H S/\Cov K H S U HE/\c3 src.grd g wb Dt (src.items.drop i) HE S,
  ⟨_,rfl,OM _,S1,HE,.refl,s1,c.fr f1,by simpa using q1⟩,?_⟩
 rintro i m U H ⟨rfl,hi,S2,LC,f2,s2,c2,q2⟩
 by_cases hl:i<src.items.length
 ·have e1:src.items[i]?=some src.items[i]:=by simp [hl]
  rw [pF e1] at q2
  obtain ⟨hg,q2⟩:=q2
  refine .inr ⟨it.go H S2 i f2 s2 hg hl,λHD H'=>∃ S HE,Fr H1 S1 H' S/\SRp K H' S/\Cov K H' S HD HE/\c3 src.grd g wb Dt (src.items.drop (i+1)) HE S,λHD H' n=>⟨src.items.length - (i+1),by lia,rfl,hl,n⟩,λx H' y=>?_⟩
  obtain ⟨t,et,f3,s3,r3⟩:=it.yld H S2 i x H' f2 s2 hg hl y
  rw [e1] at et;cases et
  refine ⟨S2,_,LC,_,s3,r3,c2.fr f3,q2,λσ4 H4 LD S4 f4 s4 c4 q4=>?_⟩
  have fA:=(f2.trans f3).trans f4
  refine ⟨S4,LD,_,s4,c4,q4,⟨λHD H' HY S' f s' c' q'=>⟨S',HY,fA.trans f,s',c',q'⟩,λv H' t S' f=>he.rt v H' t S' ((f1.trans fA).trans f),λHD H' HY S' f=>he.nx HD H' HY S' ((f1.trans fA).trans f),λHD H' HY S' f s' c' q'=>⟨S',HY,fA.trans f,s',c',q'⟩⟩⟩
 ·have e:i=src.items.length:=by lia
  subst e
  rw [List.drop_eq_nil_of_le (NE _)] at q2
  exact .inl ⟨it.stop H S2 f2 s2 q2.1,he.nx U H LC S2 (f1.trans f2) s2 c2 q2.2⟩
theorem bT {iter:Expr}{body:List Stmt}{wi:WI}{g:WG}{wb:WS}{pos:Pos}(hp:PassesOwn (model X.prog X.w) X.A X.env X.xe) (hc:X.calm=true) (hi:QI K X tg iter wi) (hg:QG K X tg g) (hb:QSs K X body wb)
  (hs:∀ x,foldedSetIterable iter X.env x=pure x:=by intro _;rfl):QS K X (.For tg iter body [] pos) (tO wi g wb):=PS.of (BC hp hc hi hg hb hs) λ_ _ _ h=>zO h
def b6 (t:T) (ts:List T) (S:Sto):Prop:=match t with
 |.ref a=>S a=some (.lst ts)
 |_=>True
@[reducible] def wiL (wa:WE):WI:=λU S R=>wa U S λx S1=>∃ ts,az S1 x=some ts/\R ⟨ts,b6 x ts⟩ S1
theorem nU {S S':Sto}{x:T}{ts:List T}(e:az S x=some ts) (h:b6 x ts S'):az S' x=some ts:=by
 cases x with
 |ref a=>exact eD h
 |lst us=>exact e
 |scr us=>exact e
 |_=>cases e
theorem nV {H1:Hp}{S1:Sto}{x:T}{a:Addr}{ts:List T}(r:Rp K H1 S1 x (.ref a)) (e:az S1 x=some ts):Iter K (Itl K a) ⟨ts,b6 x ts⟩ H1 S1:=by
 have main:∀ H S,Fr H1 S1 H S->SRp K H S->b6 x ts S->∃ vs,SqL K H a vs/\Rps K H S ts vs:=λH S f s g=>by
  obtain ⟨p,vs,ep,hq,rs⟩:=bD s (r.fr f) (nU e g)
  cases ep
  exact ⟨vs,hq,rs⟩
 refine ⟨λH S i f s g hl=>?_,λH S i y H' f s g hl hy=>?_,λH S f s g=>?_⟩
 ·obtain ⟨vs,hq,rs⟩:=main H S f s g
  obtain ⟨v,hv,_⟩:=rs.get (i:=i) (t:=ts[i]) (by simp [show i<ts.length from hl])
  exact ⟨vs,v,hq,hv⟩
 ·obtain ⟨vs,hq,rs⟩:=main H S f s g
  obtain ⟨rfl,hy⟩:=hy
  obtain ⟨t,et,rt⟩:=rs.getV (hy vs hq)
  exact ⟨t,et,.refl,s,rt⟩
 ·obtain ⟨vs,hq,rs⟩:=main H S f s g
  exact ⟨vs,hq,by rw [rs.length];exact NE _⟩
theorem aS {l:Expr}{wa:WE}(hK:X.K=K) (hl:QE K X l wa):QI K X tg l (wiL wa):=by
 subst hK
 refine PI.of (y4 hl) λU H R zz88=>?_
 obtain ⟨S,HE,Rt,s,c,q,hq⟩:=zz88
 refine ⟨S,HE,_,s,c,q,λv H1 t S1 f1 s1 r1 q1=>?_⟩
 obtain ⟨ts,e,q1⟩:=q1
 obtain ⟨p,vs,rfl,hS,rs⟩:=bD s1 r1 e
 exact ⟨p,rfl,⟨vs,hS⟩,hq _ H1 _ S1 f1 s1 (nV r1 e) q1⟩
@[reducible] def wiT (wa:WE):WI:=λU S R=>wa U S λx S1=>∃ ts,x=.tup ts/\R ⟨ts,λ_=>True⟩ S1
def cC (lo:Int) (n:Nat):List T:=(List.range n).map λ(i:Nat)=>T.int (lo+i)
theorem vB {lo:Int}{n:Nat}{H1 S1}:Iter K (Itr lo n) ⟨cC lo n,λ_=>True⟩ H1 S1:=by
 refine ⟨λH S i f s g hl=>by simpa [cC,Itr] using hl,λH S i y H' f s g hl hy=>?_,λH S f s g=>by simp [cC,Itr]⟩
 obtain ⟨rfl,rfl⟩:=hy
 have hl':i<n:=by simpa [cC] using hl
 exact ⟨.int (lo+i),by simp [cC,hl'],.refl,s,.int⟩
@[reducible] def GD (wa:WE):WI:=λU S R=>wa U S λx S1=>match x with
 |.int j=>-(2 ^ 62)<=j/\j<2 ^ 62/\R ⟨cC 0 j.toNat,λ_=>True⟩ S1
 |_=>False
@[reducible] def Hq (wa wb:WE):WI:=λU S R=>wa U S λx S1=>wb U S1 λy S2=>match x,y with
 |.int i,.int j=>(-(2 ^ 62)<=i/\i<2 ^ 62 /\ -(2 ^ 62)<=j/\j<2 ^ 62)/\R ⟨cC i (j - i).toNat,λ_=>True⟩ S2
 |_,_=>False
theorem fz {a:Expr}{wa:WE}{p pos:Pos}(hg:Gl X "range") (hm:X.mg "range"=none) (ha:QE K X a wa) (hs:starEach [a] X.env=[(false,eval a X.env)]:=by rfl) (M4:starEach [a] X.env=(false,eval a X.env)::starEach [] X.env:=by rfl) :
  QI K X tg (.Call (.Name "range" p) [a] [] pos) (GD wa) :=
 PI.of (vT hg hm (kr ha kX M4) hs) λU H R zz89=>by
  obtain ⟨S,HE,Rt,s,c,q,hq⟩:=zz89
  refine ⟨S,HE,_,s,c,q,λx H1 tx S1 f1 s1 r1 q1=>?_⟩
  cases r1<;>first|exact q1.elim|skip
  exact ⟨_,rfl,q1.1,q1.2.1,hq _ H1 _ S1 f1 s1 vB q1.2.2⟩
def h7 (z:Str):List T:=z.cps.toList.map λc=>T.str ⟨#[c]⟩
@[reducible] def wiS (wa:WE):WI:=λU S R=>wa U S λx S1=>match x with
 |.str z=>R ⟨h7 z,λ_=>True⟩ S1
 |_=>False
theorem qG {l:Expr}{wa:WE}(hl:QE K X l wa):QI K X tg l (wiS wa):=PI.of (BZ hl) λU H R zz90=>by
 obtain ⟨S,HE,Rt,s,c,q,hq⟩:=zz90
 refine ⟨S,HE,_,s,c,q,λx H1 tx S1 f1 s1 r1 q1=>?_⟩
 cases r1<;>first|exact q1.elim|skip
 refine ⟨_,rfl,hq _ H1 _ S1 f1 s1 ⟨λH S i f s g hl=>by simpa [h7,Its] using hl,λH S i y H' f s g hl hy=>?_,λH S f s g=>by simp [h7,Its]⟩ q1⟩
 obtain ⟨rfl,c,ec,rfl⟩:=hy
 exact ⟨.str ⟨#[c]⟩,by simp [h7,ec],.refl,s,.str⟩
def QTs (K:Fg) (X:Cx) (Jy:List Expr) (w:WT):Prop:=PTs X Jy (lT K w)
@[reducible] def Eu:WT:=λ_ S Q=>Q true S
theorem bH:QTs K X [] Eu:=λpins s U H Q I zz91=>by obtain ⟨S,HE,Qt,sr,c,q,hq⟩:=zz91;exact zB pins s U H Q I (hq true H S .refl sr q)
theorem dC {c:Expr}{w:WT}(h:QT K X c w):QTs K X [c] w:=zC h
noncomputable def fI (n:Nat) (HL:List Nat) (U:StT):StT:=List.replicate n none++HL.map λi=>(U[i]?).join
def c9 (grd:Sto->Prop) (g:WG) (tt:WT) (te:WE) (Q:List T->Sto->Prop):List T->List T->StT->Sto->Prop
 |[],HI,_,S=>grd S/\Q HI S
 |x::xs,HI,U,S=>grd S/\g x U S λIM S2=>tt IM S2 λb S3=>if b=true then te IM S3 λy S4=>HI.length<sizeLine/\c9 grd g tt te Q xs (HI++[y]) IM S4 else c9 grd g tt te Q xs HI IM S3
@[reducible] def l6 (tr:Bool) (wi:WI) (n:Nat) (HL:List Nat) (g:WG) (tt:WT) (te:WE):WE:=λU S Q=>wi U S λsrc S1=>c9 src.grd g tt te (λts S2=>newL tr ts S2 Q) src.items [] (fI n HL U) S1
theorem xW {H S U HE n HL}(c:Cov K H S U HE):Cov K H S (eg n HL U) (fI n HL HE):=by
 refine ⟨by simp [eg,fI],λi t e=>?_⟩
 unfold fI at e
 unfold eg
 by_cases hi:i<n
 ·rw [OC (by simpa using hi),Q3] at e
  rw [NC hi] at e;cases e
 ·rw [OZ (by simpa using hi)] at e ⊢
  simp only [Rn,O5] at e ⊢
  cases q:HL[i - n]? with
  |none=>rw [q] at e;cases e
  |some j =>
   rw [q] at e
   simp only [PP,O7] at e ⊢
   cases z:HE[j]? with
   |none=>rw [z] at e;cases e
   |some o =>
    rw [z] at e
    simp only [Option.join_some] at e
    subst e
    obtain ⟨v,hv,rv⟩:=c.2 j t z
    exact ⟨v,by rw [hv];rfl,rv⟩
mutual
theorem Rp.chg {H S D φ o}(e:H D=some (.ext φ)):∀ {t v},Rp K H S t v->Rp K (upd H D o) S t v
 |_,_,.non=>.non
 |_,_,.bl=>.bl
 |_,_,.int=>.int
 |_,_,.str=>.str
 |_,_,.ty=>.ty
 |_,_,.ref=>.ref
 |_,_,.tup n h r=>.tup n (by rw [au (cF h e (by intro z;cases z))];exact h) (Rps.chg e r)
 |_,_,.lst n h r=>.lst n (by rw [au (cF h e (by intro z;cases z))];exact h) (Rps.chg e r)
 |_,_,.scr h=>.scr (by
   rcases h with ⟨n,o',h⟩|h
   ·exact .inl ⟨n,o',by rw [au (cF h e (by intro z;cases z))];exact h⟩
   ·exact .inr h)
theorem Rps.chg {H S D φ o}(e:H D=some (.ext φ)):∀ {ts vs},Rps K H S ts vs->Rps K (upd H D o) S ts vs
 |_,_,.nil=>.nil
 |_,_,.cons a b=>.cons (Rp.chg e a) (Rps.chg e b)
end
theorem SRp.chg {H S D φ o}(e:H D=some (.ext φ)) (n:S D=none) (s:SRp K H S):SRp K (upd H D o) S:=λa o' h=>by
 have ha:a≠D:=λz=>by rw [z,n] at h;cases h
 cases s a o' h with
 |lst h' r=>exact .lst (by rw [au ha];exact h') (Rps.chg e r)
 |dK h' r=>exact .dK (by rw [au ha];exact h') (Paired.mapP r λ_ _ z=>⟨z.1,Rp.chg e z.2⟩)
 |dT h' r=>exact .dT (by rw [au ha];exact h') (Paired.mapP r λ_ _ z=>⟨z.1,Rp.chg e z.2⟩)
 |fK h' r=>exact .fK (by rw [au ha];exact h') (Paired.mapP r λ_ _ z=>⟨z.1,Rp.chg e z.2⟩)
 |ins h' r=>exact .ins (by rw [au ha];exact h') (Paired.mapP r λ_ _ z=>⟨z.1,Rp.chg e z.2⟩)
 |exk h'=>exact .exk (by rw [au ha];exact h')
theorem Cov.chg {H S D φ o U HE}(e:H D=some (.ext φ)) (c:Cov K H S U HE):Cov K (upd H D o) S U HE:=⟨c.1,λi t h=>by
 obtain ⟨v,h1,r⟩:=c.2 i t h
 exact ⟨v,h1,Rp.chg e r⟩⟩
theorem Fr.at {H S H1 S1 D o}(f:Fr H1 S1 H S) (hD:H1 D=none):Fr H1 S1 (upd H D o) S:=λa u h n=>by
 rw [au (bj h hD)];exact f a u h n
mutual
theorem Rp.trk {H S D φ o p}(e:H D=some (.ext φ)):∀ {t v},Rp K H S t v->Rp K (upd H D o) (put S D p) t v
 |_,_,.non=>.non
 |_,_,.bl=>.bl
 |_,_,.int=>.int
 |_,_,.str=>.str
 |_,_,.ty=>.ty
 |_,_,.ref=>.ref
 |_,_,.tup n h r=>.tup (by rw [aq (cF h e (by intro z;cases z))];exact n) (by rw [au (cF h e (by intro z;cases z))];exact h) (Rps.trk e r)
 |_,_,.lst n h r=>.lst (by rw [aq (cF h e (by intro z;cases z))];exact n) (by rw [au (cF h e (by intro z;cases z))];exact h) (Rps.trk e r)
 |_,_,.scr h=>.scr (by
   rcases h with ⟨n,o',h⟩|h
   ·exact .inl ⟨by rw [aq (cF h e (by intro z;cases z))];exact n,o',by rw [au (cF h e (by intro z;cases z))];exact h⟩
   ·exact .inr h)
theorem Rps.trk {H S D φ o p}(e:H D=some (.ext φ)):∀ {ts vs},Rps K H S ts vs->Rps K (upd H D o) (put S D p) ts vs
 |_,_,.nil=>.nil
 |_,_,.cons a b=>.cons (Rp.trk e a) (Rps.trk e b)
end
theorem SRp.trk {H S D φ zs HI}(e:H D=some (.ext φ)) (s:SRp K H S) (r:Rps K H S HI zs):SRp K (upd H D (.lst zs)) (put S D (.lst HI)):=λa o' h=>by
 by_cases ha:a=D
 ·subst ha;rw [ax] at h;cases h;exact .lst aG (Rps.trk e r)
 ·rw [aq ha] at h
  cases s a o' h with
  |lst h' r=>exact .lst (by rw [au ha];exact h') (Rps.trk e r)
  |dK h' r=>exact .dK (by rw [au ha];exact h') (Paired.mapP r λ_ _ z=>⟨z.1,Rp.trk e z.2⟩)
  |dT h' r=>exact .dT (by rw [au ha];exact h') (Paired.mapP r λ_ _ z=>⟨z.1,Rp.trk e z.2⟩)
  |fK h' r=>exact .fK (by rw [au ha];exact h') (Paired.mapP r λ_ _ z=>⟨z.1,Rp.trk e z.2⟩)
  |ins h' r=>exact .ins (by rw [au ha];exact h') (Paired.mapP r λ_ _ z=>⟨z.1,Rp.trk e z.2⟩)
  |exk h'=>exact .exk (by rw [au ha];exact h')
theorem oB {tr:Bool}{wi:WI}{n:Nat}{HL:List Nat}{g:WG}{tt:WT}{te:WE}{U H Q}(h:lE K (l6 tr wi n HL g tt te) U H Q):k6 (lI K wi) n HL (lG K g) (lT K tt) (lE K te) U H Q:=by
 obtain ⟨S,HE,Qt,s,c,q,hq⟩:=h
 refine ⟨S,HE,_,s,c,q,λJ H1 src S1 f1 s1 it q1=>?_⟩
 intro D hD
 refine ⟨λi m zs σc H=>m=src.items.length - i/\i<=src.items.length/\H D=some (bz D zs)/\∃ S HE HI,S D=none/\Fr H1 S1 H S/\Rps K H S HI zs/\SRp K H S/\Cov K H S σc HE/\c9 src.grd g tt te (λts S2=>newL tr ts S2 Qt) (src.items.drop i) HI HE S,
  ⟨_,rfl,OM _,aG,S1,fI n HL HE,[],s1.fresh hD,Fr.new hD,.nil,s1.new hD,xW ((c.fr f1).fr (Fr.new hD)),by simpa using q1⟩,?_⟩
 rintro i m zs σc H ⟨rfl,hi,e2,S2,LC,HI,n2,f2,r2,s2,c2,q2⟩
 refine ⟨e2,?_⟩
 by_cases hl:i<src.items.length
 ·have e1:src.items[i]?=some src.items[i]:=by simp [hl]
  rw [pF e1] at q2
  obtain ⟨hg,q2⟩:=q2
  refine .inr ⟨it.go H S2 i f2 s2 hg hl,λMc HD H'=>H' D=some (bz D Mc)/\∃ S HE HI,S D=none/\Fr H1 S1 H' S/\Rps K H' S HI Mc/\SRp K H' S/\Cov K H' S HD HE/\c9 src.grd g tt te (λts S2=>newL tr ts S2 Qt) (src.items.drop (i+1)) HI HE S,
   λMc HD H' n=>⟨src.items.length - (i+1),by lia,rfl,hl,n⟩,λx H' y=>?_⟩
  obtain ⟨t,et,f3,s3,r3⟩:=it.yld H S2 i x H' f2 s2 hg hl y
  rw [e1] at et;cases et
  have e3:=f3 D _ e2 n2
  refine ⟨S2,_,LC,_,s3,r3,c2.fr f3,q2,λσ4 H4 LD S4 f4 s4 c4 q4=>?_⟩
  have e4:=f4 D _ e3.1 e3.2
  refine ⟨S4,LD,_,s4,c4,q4,λb H5 S5 f5 s5 q5=>?_⟩
  have e5:=f5 D _ e4.1 e4.2
  have fB:=((f3.trans f4).trans f5)
  cases b with
  |false=>exact ⟨e5.1,S5,LD,HI,e5.2,f2.trans fB,r2.fr fB,s5,c4.fr f5,q5⟩
  |true =>
   refine ⟨S5,LD,_,s5,c4.fr f5,q5,λy H6 ty S6 f6 s6 r6 q6=>?_⟩
   have e6:=f6 D _ e5.1 e5.2
   have fC:=fB.trans f6
   exact ⟨e6.1,by rw [r2.length];exact q6.1,aG,S6,LD,HI++[ty],e6.2,Fr.at (f2.trans fC) hD,Rps.chg e6.1 ((r2.fr fC).append (.cons r6 .nil)),s6.chg e6.1 e6.2,((c4.fr f5).fr f6).chg e6.1,q6.2⟩
 ·have e:i=src.items.length:=by lia
  subst e
  rw [List.drop_eq_nil_of_le (NE _)] at q2
  refine .inl ⟨it.stop H S2 f2 s2 q2.1,?_⟩
  have fE:Fr H1 S1 (upd H D (.lst zs)) S2:=Fr.at f2 hD
  cases tr with
  |false=>exact hq _ _ (.lst HI) S2 (f1.trans fE) (s2.chg e2 n2) (.lst n2 aG (Rps.chg e2 r2)) q2.2
  |true =>
   have fr1:Fr H1 S1 (upd H D (.lst zs)) (put S2 D (.lst HI)):=λa o h nn=>by
    have ha:a≠D:=bj h hD
    rw [aq ha];exact fE a o h nn
   exact hq _ _ (.ref D) _ (f1.trans fr1) (SRp.trk e2 s2 r2) .ref (q2.2 D n2)
theorem bS (tr:Bool){JQ iter HJ:Expr}{Jy:List Expr}{scope:Scope}{pos:Pos}{wi:WI}{g:WG}{tt:WT}{te:WE}(Nc:List Str) (n:Nat) (HL:List Nat) (Jl:X.calm=true) (hi:QI K X HJ iter wi) (hg:∀ C s₀ H₀ ex,QG K (X.comp scope Nc C s₀ H₀ ex) HJ g)
  (ht:∀ C s₀ H₀ ex,QTs K (X.comp scope Nc C s₀ H₀ ex) Jy tt) (he:∀ C s₀ H₀ ex,QE K (X.comp scope Nc C s₀ H₀ ex) JQ te) (M3:ef X.env.scope scope=true:=by rfl) (LA:dM X.N Nc scope n HL=true:=by rfl) (hs:∀ x,foldedSetIterable iter X.env x=pure x:=by intro _;rfl) :
  QE K X (.ListComp JQ [⟨HJ,iter,Jy,0⟩] scope pos) (l6 tr wi n HL g tt te):=PE.of (xI Nc n HL Jl hi hg ht he M3 LA hs) λ_ _ _ h=>oB h
theorem cL (tr:Bool){JQ iter HJ:Expr}{Jy:List Expr}{scope:Scope}{pos:Pos}{wi:WI}{g:WG}{tt:WT}{te:WE}{i:Nat}{x:Str}{px LX:Pos}(Nc:List Str) (n:Nat) (HL:List Nat) (Jl:X.calm=true) (hN:X.N.Nodup) (hix:X.N[i]?=some x) (hx:Loc X.env.scope x)
  (hi:QI K X HJ iter wi) (hg:∀ C s₀ H₀ ex,QG K (X.comp scope Nc C s₀ H₀ ex) HJ g)
  (ht:∀ C s₀ H₀ ex,QTs K (X.comp scope Nc C s₀ H₀ ex) Jy tt) (he:∀ C s₀ H₀ ex,QE K (X.comp scope Nc C s₀ H₀ ex) JQ te)
  (hsw:swapsWith (.ListComp JQ [⟨HJ,iter,Jy,0⟩] scope pos) (some (.Name x px)) LX.line X.env=pure true:=by rfl) (M3:ef X.env.scope scope=true:=by rfl) (LA:dM X.N Nc scope n HL=true:=by rfl) (hs:∀ x,foldedSetIterable iter X.env x=pure x:=by intro _;rfl)
  (hf:X.fn x=true\/X.env.scope.names.lookup x=some .local:=by first|exact .inl rfl|exact .inr rfl|assumption) :
  QS K X (.Assign [.Name x px] (.ListComp JQ [⟨HJ,iter,Jy,0⟩] scope pos) LX) (e7 (l6 tr wi n HL g tt te) (wgN i)):=PS.of (xJ Nc n HL Jl hN hix hx hi hg ht he hsw M3 LA hs hf) λD U H h=>by
 obtain ⟨S,HE,Dt,s,c,q,he⟩:=h
 exact oB ⟨S,HE,_,s,c,q,λv H1 t S1 f1 s1 r1 q1=>he.nx _ H1 _ S1 f1 s1 ((c.fr f1).set r1 i) q1⟩
end
end T2
namespace L2
open PySem PySem.Spec PyProof.Rows
section
variable {X:Cx}
def zP:V->List V->Hp->VK->Prop:=λx vs H Q=>∃ a b,x=.str a/\vs=[.str b]/\Q (.bl (Txt.startswith a b)) H
theorem uu:MtR X "str.startswith" zP:=by
 intro pins s U H x vs v us Q I rx rv h
 obtain ⟨a,b,rfl,rfl,q⟩:=h
 obtain ⟨t,rfl⟩:=rx
 obtain ⟨u,rfl,t2,rfl⟩:=bh rv
 exact SC.startswith ⟨.bl _,H,I,rfl,q⟩
end
end L2
namespace T2
open PySem PySem.Spec PyProof.Rows L2
section
variable {K:Fg}{X:Cx}
noncomputable def b7:T->Bool
 |.non=>true
 |.bl _=>true
 |.int _=>true
 |.str _=>true
 |_=>false
noncomputable def eqF:T->T->Bool
 |.non,.non=>true
 |.bl a,.bl b=>a==b
 |.bl a,.int b=>(if a then 1 else 0)==b
 |.int a,.bl b=>a==(if b then 1 else 0)
 |.int a,.int b=>a==b
 |.str a,.str b=>a==b
 |_,_=>false
theorem Ev {a b:Str}:eqF (.str a) (.str b)=(a==b):=rfl
theorem k9 {H S t v}(r:Rp K H S t v) (f:b7 t=true):cG v=true:=by cases r<;>first|rfl|cases f
theorem Ew {H S t v t' v'}(r:Rp K H S t v) (r':Rp K H S t' v') (f:b7 t=true) (f':b7 t'=true):eqV v v'=eqF t t':=by
 cases r<;>first|(cases f;done)|(cases r'<;>first|(cases f';done)|rfl)
theorem mM {H S t v}(r:Rp K H S t v) (f:b7 t=true):∀ {ts vs},Rps K H S ts vs->ts.all b7=true->vs.all cG=true/\inV v vs=ts.any λy=>eqF y t
 |_,_,.nil,_=>⟨rfl,rfl⟩
 |_,_,.cons a b,h=>by
  rw [P6,NA] at h
  obtain ⟨h1,h2⟩:=mM r f b h.2
  refine ⟨by rw [P6,k9 a h.1,h1];rfl,?_⟩
  unfold inV at h2 ⊢
  rw [O0,O0,h2,Ew a r h.1 f]
noncomputable def bU:T->Option Key
 |.int i=>some (.inl i)
 |.str x=>some (.inr x)
 |_=>none
def gIn (neg:Bool):G2:=λx y S Q=>(∃ i j,x=.str i/\y=.str j/\Q (.bl (neg ^^ !(Builtin.Str.occurrences j i 0 j.length 1).isEmpty)) S) \/
 (∃ ts,y=.tup ts/\b7 x=true/\ts.all b7=true/\Q (.bl (neg ^^ ts.any λy=>eqF y x)) S) \/
 ∃ ts,az S y=some ts/\b7 x=true/\ts.all b7=true/\Q (.bl (neg ^^ ts.any λy=>eqF y x)) S
theorem pG (hK:X.K=K):OpR X (compareOp .NotIn) (l2 K (gIn true)):=by
 subst hK
 rintro pins s U H x y v u Q I rx ry ⟨S,tx,ty,Qt,sr,hx,hy,hg,b⟩
 rcases hg with ⟨i,j,rfl,rfl,q⟩|⟨ts,rfl,fx,ft,q⟩|⟨ts,e,fx,ft,q⟩
 ·obtain rfl:=hx.istr
  obtain rfl:=hy.istr
  exact uE pins s U H _ _ v u Q I rx ry ⟨i,j,rfl,rfl,b _ H _ S .refl sr .bl (by simpa using q)⟩
 ·obtain ⟨p,vs,rfl,hp,rs⟩:=hy.itup
  obtain ⟨h1,h2⟩:=mM hx fx rs ft
  refine mY pins s U H _ _ v u Q I rx ry ⟨_,_,rfl,.inr (SqT.of hp),k9 hx fx,h1,?_⟩
  rw [h2]
  exact b _ H _ S .refl sr .bl (by simpa using q)
 ·obtain ⟨p,vs,rfl,hq,rs⟩:=bD sr hy e
  obtain ⟨h1,h2⟩:=mM hx fx rs ft
  refine mY pins s U H _ _ v u Q I rx ry ⟨p,vs,rfl,.inl hq,k9 hx fx,h1,?_⟩
  rw [h2]
  exact b _ H _ S .refl sr .bl (by simpa using q)
abbrev GC:=List T->Sto->(T->Sto->Prop)->Prop
def lC (K:Fg) (g:GC):List V->Hp->VK->Prop:=λxs H Q=>∃ S ts Qt,SRp K H S/\Rps K H S ts xs/\g ts S Qt/\Bh K H S Qt Q
@[reducible] def wCB (g:GC) (wr:WA):WE:=λU S Q=>wr U S λts S1=>g ts S1 Q
theorem Cf {g:GC}{wr:WA}{U H Q}(h:lE K (wCB g wr) U H Q):tCB (lC K g) (lA K wr) U H Q:=by
 obtain ⟨S,HE,Qt,s,c,q,hq⟩:=h
 refine ⟨S,HE,_,s,c,q,λvs H1 ts S1 f1 s1 r1 q1=>?_⟩
 exact ⟨S1,ts,Qt,s1,r1,q1,λv H' t S' f=>hq v H' t S' (f1.trans f)⟩
theorem tP {g:GC}{wr:WA}{e:Expr}(hp:PE X e (tCB (lC K g) (lA K wr))):QE K X e (wCB g wr):=PE.of hp λ_ _ _ h=>Cf h
def gj (S:Sto):T->Option Int
 |.str z=>if z.length<=sizeLine then some z.length else none
 |.tup ts=>some ts.length
 |t=>(az S t).map λts=>ts.length
def e9:GC:=λts S Q=>match ts with
 |[x]=>∃ n,gj S x=some n/\Q (.int n) S
 |_=>False
theorem bf (hK:X.K=K):a0 X (.builtin "len") (lC K e9):=by
 subst hK
 rintro pins s U H xs us Q I r ⟨S,ts,Qt,sr,rs,hg,b⟩
 cases rs with
 |nil=>exact hg.elim
 |cons a l =>
  cases l with
  |cons _ _=>exact hg.elim
  |nil =>
   obtain ⟨n,e,q⟩:=hg
   rename_i t v
   have lists:(az S t).map (λts=>(ts.length:Int))=some n->wpAny (model X.prog X.w) X.A (call (.builtin "len") us) (EP X pins U Q) X.xe s:=by
    intro e3
    rw [OE] at e3
    obtain ⟨ts,e3,rfl⟩:=e3
    obtain ⟨p,vs,rfl,hq,rs⟩:=bD sr a e3
    exact mZ pins s U H _ us Q I r ⟨p,vs,rfl,.inl hq,by rw [rs.length];exact b _ H _ S .refl sr .int q⟩
   cases t with
   |str z =>
    cases a
    delta gj at e
    dsimp only at e
    split at e
    ·next hz=>cases e;exact uG pins s U H _ us Q I r ⟨z,rfl,hz,b _ H _ S .refl sr .int q⟩
    ·cases e
   |tup ts =>
    cases a with
    |tup n' hp rs=>cases e;exact mZ pins s U H _ us Q I r ⟨_,_,rfl,.inr (SqT.of hp),by rw [rs.length];exact b _ H _ S .refl sr .int q⟩
   |_=>exact lists e
noncomputable def tyT (S:Sto):T->Option Value
 |.non=>some (.type "NoneType")
 |.bl _=>some (.type "bool")
 |.int _=>some (.type "int")
 |.str _=>some (.type "str")
 |.tup _=>some (.type "tuple")
 |.lst _=>some (.type "list")
 |.ref a=>match S a with
  |some (.lst _)=>some (.type "list")
  |some (.dK _)=>some (.type "dict")
  |some (.dT _)=>some (.type "dict")
  |_=>none
 |_=>none
def mN (K:Fg):GC:=λts S Q=>match ts with
 |[x,.ty n]=>∃ t b,tyT S x=some t/\PySem.W.kitOne K t (.type n)=some b/\Q (.bl b) S
 |_=>False
theorem Cg {H S t v ty}(s:SRp K H S) (r:Rp K H S t v) (e:tyT S t=some ty):TyOf K H v ty:=by
 cases r with
 |non=>cases e;exact .non
 |bl=>cases e;exact .bl _
 |int=>cases e;exact .int _
 |str=>cases e;exact .str _
 |tup n h _=>cases e;exact .tup h
 |lst n h _=>cases e;exact .lst h
 |ty=>cases e
 |scr _=>cases e
 |ref =>
  rename_i a
  delta tyT at e
  dsimp only at e
  cases q:S a with
  |none=>rw [q] at e;cases e
  |some o =>
   rw [q] at e
   cases o with
   |lst us=>cases e;cases s a _ q with
    |lst h rs=>exact .lst h
   |dK us=>cases e;cases s a _ q with
    |dK h rs=>exact .dK h
   |dT us=>cases e;cases s a _ q with
    |dT h rs=>exact .dT h
   |fK _ _ _ _=>cases e
   |ins _ _=>cases e
   |exk _=>cases e
theorem l7 (hK:X.K=K):a0 X (.builtin "isinstance") (lC K (mN K)):=by
 subst hK
 rintro pins s U H xs us Q I r ⟨S,ts,Qt,sr,rs,hg,b⟩
 cases rs with
 |nil=>exact hg.elim
 |cons a l =>
  cases l with
  |nil=>exact hg.elim
  |cons a2 l2 =>
   cases l2 with
   |cons _ _=>cases a2<;>exact hg.elim
   |nil =>
    cases a2<;>first|exact hg.elim|skip
    obtain ⟨t,k,e,hk,q⟩:=hg
    exact uX pins s U H _ us Q I r ⟨_,_,t,k,rfl,⟨_,rfl,λz h=>h,hk⟩,Cg sr a e,b _ H _ S .refl sr .bl q⟩
noncomputable def da:List T->Option (List Int)
 |[]=>some []
 |.int i::ts=>(da ts).map (i::·)
 |_=>none
theorem kI {i:Int}{ts:List T}:da (.int i::ts)=(da ts).map (i::·):=rfl
theorem kJ {H S}:∀ {ts vs ns},Rps K H S ts vs->da ts=some ns->vs=ns.map V.int
 |_,_,_,.nil,e=>by cases e;rfl
 |_,_,_,.cons a b,e=>by
  cases a<;>first|(cases e;done)|skip
  simp only [kI,OE] at e
  obtain ⟨ns,e,rfl⟩:=e
  rw [NF,<- kJ b e]
noncomputable def dk:List T->Option (List Bool)
 |[]=>some []
 |.bl i::ts=>(dk ts).map (i::·)
 |_=>none
theorem Ch {i:Bool}{ts:List T}:dk (.bl i::ts)=(dk ts).map (i::·):=rfl
theorem qH {H S}:∀ {ts vs ns},Rps K H S ts vs->dk ts=some ns->vs=ns.map V.bl
 |_,_,_,.nil,e=>by cases e;rfl
 |_,_,_,.cons a b,e=>by
  cases a<;>first|(cases e;done)|skip
  simp only [Ch,OE] at e
  obtain ⟨ns,e,rfl⟩:=e
  rw [NF,<- qH b e]
noncomputable def db:List T->Option (List Str)
 |[]=>some []
 |.str i::ts=>(db ts).map (i::·)
 |_=>none
theorem pH {i:Str}{ts:List T}:db (.str i::ts)=(db ts).map (i::·):=rfl
theorem pI {H S}:∀ {ts vs ns},Rps K H S ts vs->db ts=some ns->vs=ns.map V.str
 |_,_,_,.nil,e=>by cases e;rfl
 |_,_,_,.cons a b,e=>by
  cases a<;>first|(cases e;done)|skip
  simp only [pH,OE] at e
  obtain ⟨ns,e,rfl⟩:=e
  rw [NF,<- pI b e]
def tQ:GC:=λts S Q=>match ts with
 |[x]=>∃ us ns,az S x=some us/\da us=some ns/\ns≠[]/\∀ m,m∈ns->(∀ i∈ns,i<=m)->Q (.int m) S
 |_=>False
theorem Ex (hK:X.K=K) (hc:X.calm=true):a0 X (.builtin "max") (lC K tQ):=by
 subst hK
 rintro pins s U H xs us Q I r ⟨S,ts,Qt,sr,rs,hg,b⟩
 cases rs with
 |nil=>exact hg.elim
 |cons a l =>
  cases l with
  |cons _ _=>exact hg.elim
  |nil =>
   obtain ⟨ws,ns,e,en,h0,q⟩:=hg
   obtain ⟨p,vs,rfl,hq,rs⟩:=bD sr a e
   exact wg hc pins s U H _ us Q I r ⟨p,ns,rfl,by rw [<- kJ rs en];exact hq,h0,λm h1 h2=>b _ H _ S .refl sr .int (q m h1 h2)⟩
def tR:GC:=λts S Q=>match ts with
 |[x]=>∃ us bs,az S x=some us/\dk us=some bs/\Q (.bl (bs.all id)) S
 |_=>False
theorem l8 (hK:X.K=K) (hc:X.calm=true):a0 X (.builtin "all") (lC K tR):=by
 subst hK
 rintro pins s U H xs us Q I r ⟨S,ts,Qt,sr,rs,hg,b⟩
 cases rs with
 |nil=>exact hg.elim
 |cons a l =>
  cases l with
  |cons _ _=>exact hg.elim
  |nil =>
   obtain ⟨ws,ns,e,en,q⟩:=hg
   obtain ⟨p,vs,rfl,hq,rs⟩:=bD sr a e
   exact wn hc pins s U H _ us Q I r ⟨p,ns,rfl,by rw [<- qH rs en];exact hq,b _ H _ S .refl sr .bl q⟩
def tS:GC:=λts S Q=>match ts with
 |[.int i]=>Q (.int i) S
 |[.bl k]=>Q (.int (if k then 1 else 0)) S
 |_=>False
theorem so:a0 X (.type "int") (lC K tS):=by
 rintro pins s U H xs us Q I r ⟨S,ts,Qt,sr,rs,hg,b⟩
 cases rs with
 |nil=>exact hg.elim
 |cons a l =>
  cases l with
  |cons _ _=>cases a<;>exact hg.elim
  |nil =>
   cases a<;>first|exact hg.elim|skip
   ·exact nC pins s U H _ us Q I r (.inr ⟨_,rfl,b _ H _ S .refl sr .int hg⟩)
   ·exact nC pins s U H _ us Q I r (.inl ⟨_,rfl,b _ H _ S .refl sr .int hg⟩)
abbrev GM:=T->List T->Sto->(T->Sto->Prop)->Prop
def lM (K:Fg) (g:GM):V->List V->Hp->VK->Prop:=λx xs H Q=>∃ S t ts Qt,SRp K H S/\Rp K H S t x/\Rps K H S ts xs/\g t ts S Qt/\Bh K H S Qt Q
def tyM (ty:String) (S:Sto) (x:T):Prop:=match x with
 |.str _=>ty="str"
 |.lst _=>ty="list"
 |.ref a=>match S a with
  |some (.lst _)=>ty="list"
  |some (.dK _)=>ty="dict"
  |some (.dT _)=>ty="dict"
  |_=>False
 |_=>False
@[reducible] def wBM (ty:String) (g:GM) (wa:WE) (wr:WA):WE:=λU S Q=>wa U S λx S1=>tyM ty S1 x/\wr U S1 λts S2=>g x ts S2 Q
theorem Ey {H S t v ty}(s:SRp K H S) (r:Rp K H S t v) (h:tyM ty S t):tyV K ty v H:=by
 cases r with
 |str=>exact h
 |lst n hp _=>exact .inl ⟨h,_,SqL.of hp⟩
 |ref =>
  rename_i a
  delta tyM at h
  dsimp only at h
  cases q:S a with
  |none=>rw [q] at h;exact h.elim
  |some o =>
   rw [q] at h
   cases o with
   |lst us=>cases s a _ q with
    |lst hp _=>exact .inl ⟨h,_,SqL.of hp⟩
   |dK us=>cases s a _ q with
    |dK hp _=>exact .inr (.inr (.inl ⟨h,.inl ⟨_,hp⟩⟩))
   |dT us=>cases s a _ q with
    |dT hp _=>exact .inr (.inr (.inl ⟨h,.inr ⟨_,hp⟩⟩))
   |fK _ _ _ _=>exact h.elim
   |ins _ _=>exact h.elim
   |exk _=>exact h.elim
 |_=>exact h.elim
theorem Ci {ty:String}{g:GM}{wa:WE}{wr:WA}{U H Q}(h:lE K (wBM ty g wa wr) U H Q):tBM K ty (lM K g) (lE K wa) (lA K wr) U H Q:=by
 obtain ⟨S,HE,Qt,s,c,q,hq⟩:=h
 refine ⟨S,HE,_,s,c,q,λx H1 tx S1 f1 s1 r1 q1=>?_⟩
 refine ⟨Ey s1 r1 q1.1,S1,HE,_,s1,c.fr f1,q1.2,λvs H2 ts S2 f2 s2 r2 q2=>?_⟩
 exact ⟨S2,tx,ts,Qt,s2,r1.fr f2,r2,q2,λv H' t S' f=>hq v H' t S' ((f1.trans f2).trans f)⟩
theorem GF {ty:String}{g:GM}{wa:WE}{wr:WA}{e:Expr}(hp:PE X e (tBM K ty (lM K g) (lE K wa) (lA K wr))):QE K X e (wBM ty g wa wr):=PE.of hp λ_ _ _ h=>Ci h
def qI (tr:Bool):GM:=λx ts S Q=>match x,ts with
 |.str a,[.str c]=>c.length≠0/\a.length<=1000/\newL tr ((Txt.split a c).map T.str) S Q
 |_,_=>False
theorem pJ (tr:Bool):MtR X "str.split" (lM K (qI tr)):=by
 rintro pins s U H x vs v us Q I rx rv ⟨S,t,ts,Qt,sr,hx,rs,hg,b⟩
 cases hx<;>first|exact hg.elim|skip
 cases rs with
 |nil=>exact hg.elim
 |cons a l =>
  cases l with
  |cons _ _=>cases a<;>exact hg.elim
  |nil =>
   cases a<;>first|exact hg.elim|skip
   exact xD pins s U H _ _ v us Q I rx rv ⟨_,_,rfl,rfl,hg.1,hg.2.1,h6 sr Rps.strs hg.2.2 b⟩
def l9:GM:=λx ts S Q=>match x,ts with
 |.str a,[y]=>∃ us zs,az S y=some us/\db us=some zs/\JoinOk a zs=true/\Q (.str (Txt.join a zs)) S
 |_,_=>False
theorem qJ (hK:X.K=K):MtR X "str.join" (lM K l9):=by
 subst hK
 rintro pins s U H x vs v us Q I rx rv ⟨S,t,ts,Qt,sr,hx,rs,hg,b⟩
 cases hx<;>first|exact hg.elim|skip
 cases rs with
 |nil=>exact hg.elim
 |cons a l =>
  cases l with
  |cons _ _=>exact hg.elim
  |nil =>
   obtain ⟨ws,zs,e,en,hj,q⟩:=hg
   obtain ⟨p,ys,rfl,hq,rs⟩:=bD sr a e
   exact zD pins s U H _ _ v us Q I rx rv ⟨_,p,zs,rfl,rfl,by rw [<- pI rs en];exact hq,hj,b _ H _ S .refl sr .str q⟩
def qK:GM:=λx ts S Q=>match x,ts with
 |.str a,[.str c]=>a.length<=sizeLine/\Q (.str (Txt.stripChars a c)) S
 |_,_=>False
theorem pK:MtR X "str.strip" (lM K qK):=by
 rintro pins s U H x vs v us Q I rx rv ⟨S,t,ts,Qt,sr,hx,rs,hg,b⟩
 cases hx<;>first|exact hg.elim|skip
 cases rs with
 |nil=>exact hg.elim
 |cons a l =>
  cases l with
  |cons _ _=>cases a<;>exact hg.elim
  |nil =>
   cases a<;>first|exact hg.elim|skip
   exact xE pins s U H _ _ v us Q I rx rv ⟨_,_,rfl,rfl,hg.1,b _ H _ S .refl sr .str hg.2⟩
def pL:GM:=λx ts S Q=>match x,ts with
 |.str a,[.str c]=>Q (.bl (Txt.startswith a c)) S
 |_,_=>False
theorem jZ:MtR X "str.startswith" (lM K pL):=by
 rintro pins s U H x vs v us Q I rx rv ⟨S,t,ts,Qt,sr,hx,rs,hg,b⟩
 cases hx<;>first|exact hg.elim|skip
 cases rs with
 |nil=>exact hg.elim
 |cons a l =>
  cases l with
  |cons _ _=>cases a<;>exact hg.elim
  |nil =>
   cases a<;>first|exact hg.elim|skip
   exact uu pins s U H _ _ v us Q I rx rv ⟨_,_,rfl,rfl,b _ H _ S .refl sr .bl hg⟩
theorem lc {H S}{a:Addr}{ts:List T}(s:SRp K H S) (e:S a=some (.lst ts)):∃ vs,H a=some (.lst vs)/\Rps K H S ts vs:=by
 cases s a _ e with
 |lst h r=>exact ⟨_,h,r⟩
theorem nW {H S}{a:Addr}{ts us:List T}{ws:List V}{Qt:T->Sto->Prop}{Q:VK}{t:T}{v:V}(s:SRp K H S) (e:S a=some (.lst ts)) (r:Rps K H S us ws) (b:Bh K H S Qt Q) (rt:Rp K H S t v) (q:Qt t (put S a (.lst us))):Q v (upd H a (.lst ws)):=by
 have hn:S a≠none:=by rw [e];simp
 exact b _ _ t _ (Fr.write hn) (s.write hn (.lst aG (r.fr (Fr.write hn)))) (rt.fr (Fr.write hn)) q
def pM:GM:=λx ts S Q=>match x,ts with
 |.ref a,[y]=>∃ us,S a=some (.lst us)/\us.length<sizeLine/\Q .non (put S a (.lst (us++[y])))
 |_,_=>False
theorem j3:MtR X "list.append" (lM K pM):=by
 rintro pins s U H x vs v us Q I rx rv ⟨S,t,ts,Qt,sr,hx,rs,hg,b⟩
 cases hx<;>first|exact hg.elim|skip
 cases rs with
 |nil=>exact hg.elim
 |cons a l =>
  cases l with
  |cons _ _=>exact hg.elim
  |nil =>
   obtain ⟨ws,e,hl,q⟩:=hg
   obtain ⟨ys,hy,ry⟩:=lc sr e
   exact nI pins s U H _ _ v us Q I rx rv ⟨_,ys,_,rfl,rfl,hy,by rw [ry.length];exact hl,nW sr e (ry.append (.cons a .nil)) b .non q⟩
abbrev GS:=T->T->T->Sto->(Sto->Prop)->Prop
def ff (K:Fg) (g:GS):iJ:=λo i v H Q=>∃ S to ti tv Qt,SRp K H S/\Rp K H S to o/\Rp K H S ti i/\Rp K H S tv v/\g to ti tv S Qt/\∀ H' S',Fr H S H' S'->SRp K H' S'->Qt S'->Q H'
def Ez:GS:=λo i v S Q=>match o,i with
 |.ref a,.int k=>∃ us j,S a=some (.lst us)/\ixN us.length k=some j/\Q (put S a (.lst (us.set j v)))
 |_,_=>False
theorem Cj:cX X (ff K Ez):=by
 rintro pins s U H o i v ov iv u Q I ro ri rv ⟨S,to,ti,tv,Qt,sr,hO,hI,hV,hg,b⟩
 cases hO<;>first|exact hg.elim|skip
 cases hI<;>first|exact hg.elim|skip
 rename_i a k
 obtain ⟨us,j,e,hj,q⟩:=hg
 obtain ⟨ys,hy,ry⟩:=lc sr e
 have hn:S a≠none:=by rw [e];simp
 exact xA pins s U H _ _ _ ov iv u Q I ro ri rv ⟨_,ys,_,j,rfl,rfl,hy,by rw [ry.length];exact hj,b _ _ (Fr.write hn) (sr.write hn (.lst aG ((Rps.set hV j ry).fr (Fr.write hn)))) q⟩
def md (k:Nat):GS:=λo i v S Q=>match o,i with
 |.ref a,.int j=>j=k/\∃ us,S a=some (.lst us)/\k<us.length/\Q (put S a (.lst (us.set k v)))
 |_,_=>False
theorem eE (k:Nat):cX X (ff K (md k)):=by
 rintro pins s U H o i v ov iv u Q I ro ri rv ⟨S,to,ti,tv,Qt,sr,hO,hI,hV,hg,b⟩
 refine Cj pins s U H o i v ov iv u Q I ro ri rv ⟨S,to,ti,tv,Qt,sr,hO,hI,hV,?_,b⟩
 cases hO<;>first|exact hg.elim|skip
 cases hI<;>first|exact hg.elim|skip
 obtain ⟨rfl,us,e,hk,q⟩:=hg
 refine ⟨us,k,e,?_,q⟩
 unfold ixN
 rw [NC (by lia),NC (by lia)]
 rfl
@[reducible] def wgS (wo wi:WE) (g:GS):WG:=λt U S Q=>wo U S λo S1=>wi U S1 λi S2=>g o i t S2 λS3=>Q U S3
theorem Ck {o i:Expr}{wo wi:WE}{g:GS}{pos:Pos}(h:PG X (.Subscript o i pos) (L2.dR (lE K wo) (lE K wi) (ff K g))):QG K X (.Subscript o i pos) (wgS wo wi g):=PG.of h λv U H Q zz92=>by
 obtain ⟨S,t,HE,Qt,s,r,c,q,hq⟩:=zz92
 refine ⟨S,HE,_,s,c,q,λx H1 tx S1 f1 s1 r1 q1=>?_⟩
 refine ⟨S1,HE,_,s1,c.fr f1,q1,λy H2 ty S2 f2 s2 r2 q2=>?_⟩
 exact ⟨S2,tx,ty,t,_,s2,r1.fr f2,r2,(r.fr f1).fr f2,q2,λH' S' f s' q'=>hq U H' HE S' ((f1.trans f2).trans f) s' (c.fr ((f1.trans f2).trans f)) q'⟩
end
theorem aV {w u:WS}{D:EndsT}{U:StT}{S:Sto}(M:StT->Sto->Prop) (h1:∀ X:StT->Sto->Prop,(∀ U S,M U S->X U S)->w { D with nx:=X } U S) (h2:∀ U S,M U S->u D U S):tI w u D U S:=h1 _ h2
theorem oF {grd:Sto->Prop}{g:WG}{wb:WS}{D:EndsT}{items:List T}{U:StT}{S:Sto}(Iv:List T->StT->Sto->Prop) (h0:Iv items U S)
  (step:∀ t ts U S (N:StT->Sto->Prop),Iv (t::ts) U S->(∀ HD S',Iv ts HD S'->N HD S')->grd S/\g t U S λIM S2=>wb { nx:=N,rt:=D.rt,bk:=D.nx,ct:=N } IM S2)
  (done:∀ U S,Iv [] U S->grd S/\D.nx U S):c3 grd g wb D items U S:=by
 induction items generalizing U S with
 |nil=>exact done U S h0
 |cons t ts ih=>exact step t ts U S _ h0 λHD S' iv=>ih iv
theorem dD {α:Type}{grd:Sto->Prop}{g:WG}{wb:WS}{D:EndsT}{f:α->T}{ls:List α}{U:StT}{S:Sto}(Iv:List α->StT->Sto->Prop) (h0:Iv ls U S)
  (step:∀ a r U S (N:StT->Sto->Prop),Iv (a::r) U S->(∀ HD S',Iv r HD S'->N HD S')->grd S/\g (f a) U S λIM S2=>wb { nx:=N,rt:=D.rt,bk:=D.nx,ct:=N } IM S2)
  (done:∀ U S,Iv [] U S->grd S/\D.nx U S):c3 grd g wb D (ls.map f) U S:=by
 induction ls generalizing U S with
 |nil=>exact done U S h0
 |cons a r ih=>exact step a r U S _ h0 λHD S' iv=>ih iv
theorem gF {grd:Sto->Prop}{g:WG}{wb:WS}{D:EndsT}{lo:Int}{n:Nat}{U:StT}{S:Sto}(Iv:Nat->StT->Sto->Prop) (h0:Iv 0 U S)
  (step:∀ k U S (N:StT->Sto->Prop),k<n->Iv k U S->(∀ HD S',Iv (k+1) HD S'->N HD S')->grd S/\g (.int (lo+k)) U S λIM S2=>wb { nx:=N,rt:=D.rt,bk:=D.nx,ct:=N } IM S2)
  (done:∀ U S,Iv n U S->grd S/\D.nx U S):c3 grd g wb D (cC lo n) U S:=by
 unfold cC
 have main:∀ (m k:Nat) U S,k+m=n->Iv k U S->c3 grd g wb D ((List.range' k m).map λ(i:Nat)=>T.int (lo+i)) U S:=by
  intro m
  induction m with
  |zero=>intro k U S e iv;rw [show k=n by lia] at iv;exact done U S iv
  |succ m ih =>
   intro k U S e iv
   rw [List.range'_succ,NF]
   exact step k U S _ (by lia) iv λHD S' iv'=>ih (k+1) HD S' (by lia) iv'
 rw [List.range_eq_range']
 exact main n 0 U S (by lia) h0
theorem jR {grd:Sto->Prop}{g:WG}{tt:WT}{te:WE}{Q:List T->Sto->Prop}{items HI:List T}{U:StT}{S:Sto}(Iv:List T->List T->StT->Sto->Prop) (h0:Iv items HI U S)
  (step:∀ t ts HI U S (N:List T->StT->Sto->Prop),Iv (t::ts) HI U S->(∀ M5 HD S',Iv ts M5 HD S'->N M5 HD S') ->
   grd S/\g t U S λIM S2=>tt IM S2 λb S3=>if b=true then te IM S3 λy S4=>HI.length<sizeLine/\N (HI++[y]) IM S4 else N HI IM S3)
  (done:∀ HI U S,Iv [] HI U S->grd S/\Q HI S):c9 grd g tt te Q items HI U S:=by
 induction items generalizing HI U S with
 |nil=>exact done HI U S h0
 |cons t ts ih=>exact step t ts HI U S _ h0 λM5 HD S' iv=>ih iv
theorem cM {α:Type}{grd:Sto->Prop}{g:WG}{tt:WT}{te:WE}{Q:List T->Sto->Prop}(f:α->T) (φ:α->Option T) (cs:StT){ls:List α}{S:Sto}(hg:grd S) (hz:ls.length<=sizeLine)
  (step:∀ a∈ls,∀ (u:Option T) (HI:List T) (N:List T->StT->Sto->Prop),HI.length<sizeLine->(∀ u',N (HI++(φ a).toList) (u'::cs) S) ->
   g (f a) (u::cs) S λIM S2=>tt IM S2 λb S3=>if b=true then te IM S3 λy S4=>HI.length<sizeLine/\N (HI++[y]) IM S4 else N HI IM S3)
  (done:Q (ls.filterMap φ) S):c9 grd g tt te Q (ls.map f) [] (none::cs) S:=by
 refine jR (λitems HI HD S'=>∃ pre Lu u,ls=pre++Lu/\items=Lu.map f/\HI=pre.filterMap φ/\HD=u::cs/\S'=S) ⟨[],ls,none,rfl,rfl,rfl,rfl,rfl⟩ ?_ ?_
 ·rintro t ts HI HD S' N ⟨pre,Lu,u,e,e2,rfl,rfl,rfl⟩ hN
  cases Lu with
  |nil=>cases e2
  |cons a r =>
   simp only [NF,Pc] at e2
   obtain ⟨rfl,rfl⟩:=e2
   refine ⟨hg,step a (by rw [e];simp) u _ N ?_ λu'=>hN _ _ _ ⟨pre++[a],r,u',by rw [e];simp,rfl,?_,rfl,rfl⟩⟩
   ·have h1:=List.length_filterMap_le φ pre
    have h2:=Ow List.length e
    simp only [NJ,NU] at h2
    lia
   ·rw [List.filterMap_append];cases h:φ a<;>simp [h]
 ·rintro HI HD S' ⟨pre,Lu,u,e,e2,rfl,rfl,rfl⟩
  cases Lu with
  |nil=>rw [N4] at e;subst e;exact ⟨hg,done⟩
  |cons a r=>cases e2
section
variable {U:StT}{S S0:Sto}{D:EndsT}{Q:T->Sto->Prop}{B:Bool->Sto->Prop}{L:List T->Sto->Prop}{t x y z:T}{p:Addr}
theorem Co (h:D.nx U S):sg D U S:=h
theorem me {i:Nat}{IM:StT}{Q:StT->Sto->Prop}(e:U.set i (some t)=IM) (h:Q IM S):wgN i t U S Q:=by subst e;exact h
theorem GG {n:Nat}{g:WGs}{ts:List T}{Q:StT->Sto->Prop}(l:ts.length=n) (h:g ts U S Q):si n g (.tup ts) U S Q:=⟨ts,rfl,l,h⟩
theorem zQ {g:WG}{h:WGs}{ts:List T}{Q:StT->Sto->Prop}(q:g t U S λHD S'=>h ts HD S' Q):qB g h (t::ts) U S Q:=⟨t,ts,rfl,q⟩
theorem Cq {Q:StT->Sto->Prop}(q:Q U S):sh [] U S Q:=⟨rfl,q⟩
theorem i_V {i:Nat}(e:U[i]?=some (some t)) (h:Q t S):wV i U S Q:=⟨t,e,h⟩
theorem GH {k:Bool}{C:Bool->Prop}(h:C k):∃ k',T.bl k=.bl k'/\C k':=⟨k,rfl,h⟩
theorem qL {ts:List T}(h:Q (.lst ts) S):newL false ts S Q:=h
variable {R:Src->Sto->Prop}
variable {i j:Int}{a c:Str}{ts us:List T}
theorem EA (h:Q (.int (i - j)) S):dR (.int i) (.int j) S Q:=⟨trivial,h⟩
theorem EB (h0:0<j) (h1:j<18446744073709551616) (h:Q (.int (i / j)) S):tJ (.int i) (.int j) S Q:=⟨⟨h0,h1⟩,h⟩
theorem EC (h0:0<j) (h:Q (.int (i % j)) S):tK (.int i) (.int j) S Q:=⟨h0,h⟩
theorem ED (h0:0<=j) (h1:j<=1000000) (h2:i.natAbs<2 ^ 64) (h:Q (.int (i ^ j.toNat)) S):tL (.int i) (.int j) S Q:=⟨⟨h0,h1,h2⟩,h⟩
theorem EE (h0:0<=j) (h:Q (.int (i / 2 ^ j.toNat)) S):tM (.int i) (.int j) S Q:=⟨h0,h⟩
theorem Cr {tr:Bool}(h:Q (.int (i+j)) S):iM tr (.int i) (.int j) S Q:=h
theorem Cs {tr:Bool}(h0:a.length+c.length<=sizeLine) (h:Q (.str (a++c)) S):iM tr (.str a) (.str c) S Q:=⟨h0,h⟩
theorem Ct {tr:Bool}(e1:ck S x=some ts) (e2:ck S y=some us) (hz:ts.length+us.length<=sizeLine) (h:newL tr (ts++us) S Q):iM tr x y S Q:=by
 cases x<;>first|(cases e1;done)|exact ⟨ts,us,e1,e2,hz,h⟩
theorem Cu {tr:Bool}(h0:eU i j) (h:Q (.int (i * j)) S):tN tr (.int i) (.int j) S Q:=⟨h0,h⟩
theorem iA {n:Bool}(h:Q (.bl (n ^^ decide (i=j))) S):gEq n (.int i) (.int j) S Q:=h
theorem EF {n:Bool}(h:Q (.bl (n ^^ decide (a=c))) S):gEq n (.str a) (.str c) S Q:=h
theorem EG (h:Q (.bl (decide (i<j))) S):gLt (.int i) (.int j) S Q:=h
theorem EH (h:Q (.bl (decide (i<=j))) S):gLe (.int i) (.int j) S Q:=h
theorem EI (h:Q (.bl (decide (j<i))) S):gGt (.int i) (.int j) S Q:=h
theorem EJ (h:Q (.bl (ltS a c)) S):gLt (.str a) (.str c) S Q:=h
theorem EK (h:Q (.bl (!ltS c a)) S):gLe (.str a) (.str c) S Q:=h
theorem GI {n:Bool}(h:Q (.bl (n ^^ isN x)) S):gIs n x .non S Q:=h
theorem mf (e:atI ts i=some t) (h:Q t S):gIx (.tup ts) (.int i) S Q:=⟨t,e,h⟩
theorem mh (e:atI ts i=some t) (h:Q t S):gIx (.lst ts) (.int i) S Q:=⟨t,e,h⟩
theorem EL (e:S p=some (.lst ts)) (e2:atI ts i=some t) (h:Q t S):gIx (.ref p) (.int i) S Q:=⟨t,(qD e).trans e2,h⟩
theorem EM {d:Nat}(hz:a.length<=sizeLine) (e:atI a.cps.toList i=some d) (h:Q (.str ⟨#[d]⟩) S):gIx (.str a) (.int i) S Q:=⟨_,by show (if _ then _ else _)=_;rw [NC hz,e];rfl,h⟩
theorem EN {tr:Bool}{lo hi:Option Int}(hz:a.length<=sizeLine) (h:Q (.str (Txt.slice a lo hi)) S):gSl tr (.str a) lo hi S Q:=⟨hz,h⟩
theorem su {tr:Bool}{lo hi:Option Int}(h:newL tr (c0 ts lo hi) S Q):gSl tr (.lst ts) lo hi S Q:=⟨ts,rfl,h⟩
theorem EO {tr:Bool}{lo hi:Option Int}{ns:List Int}(h:newL tr (c0 (ns.map T.int) lo hi) S Q):gSl tr (.scr ns) lo hi S Q:=⟨_,rfl,h⟩
theorem fR {α:Type}{ls:List α}(h0:0<=i) (h1:i<ls.length):∃ z,atI ls i=some z/\z∈ls:=by
 have hj:i.toNat<ls.length:=by lia
 refine ⟨ls[i.toNat],?_,Pu hj⟩
 have e:((i.toNat:Nat):Int)=i:=by lia
 have:=zj (xs:=ls) (j:=i.toNat) (v:=ls[i.toNat]) (by simp [hj])
 rw [e] at this
 exact this
theorem g7 {α β:Type}{ls:List α}(f:α->β):atI (ls.map f) i=(atI ls i).map f:=by
 unfold atI
 rw [Nz]
 cases ixN ls.length i with
 |none=>rfl
 |some j=>simp [O5]
theorem xX {α:Type}{a:α}{l:List α}:atI (a::l) 0=some a:=by
 unfold atI ixN
 rw [NC (PZ 0),NC (by simp only [NU];lia)]
 rfl
theorem Cv (h:Q x S):gIx (.lst (x::ts)) (.int 0) S Q:=⟨x,xX,h⟩
theorem eM (P:T->Prop) (h0:0<=i) (h1:i<ts.length) (hp:∀ t∈ts,P t) (h:∀ t,P t->Q t S):gIx (.lst ts) (.int i) S Q:=by
 obtain ⟨z,e,hz⟩:=fR h0 h1
 exact ⟨z,by simp only [qE,e],h z (hp z hz)⟩
theorem EQ {α:Type}{f:α->T}{ls:List α}(h0:0<=i) (h1:i<ls.length) (h:∀ z,z∈ls->atI ls i=some z->Q (f z) S):gIx (.lst (ls.map f)) (.int i) S Q:=by
 obtain ⟨z,e,hz⟩:=fR h0 h1
 exact ⟨f z,by simp only [qE,g7,e,PP],h z hz e⟩
theorem ER {ns:List Int}(h0:0<=i) (h1:i<ns.length) (h:∀ z,z∈ns->atI ns i=some z->Q (.int z) S):gIx (.scr ns) (.int i) S Q:=by
 obtain ⟨z,e,hz⟩:=fR h0 h1
 exact ⟨.int z,by show atI (ns.map T.int) i=_;simp only [g7,e,PP],h z hz e⟩
theorem Cw {α:Type}{f:α->T}{ls:List α}(e:S p=some (.lst (ls.map f))) (h0:0<=i) (h1:i<ls.length) (h:∀ z,z∈ls->atI ls i=some z->Q (f z) S):gIx (.ref p) (.int i) S Q:=by
 obtain ⟨z,e',hz⟩:=fR h0 h1
 exact ⟨f z,by simp only [qD e,g7,e',PP],h z hz e'⟩
theorem zR {Q:Sto->Prop}{k:Nat}(e0:i=k) (hk:k<ts.length) (e:ts.set k t=us) (h:Q (put S p (.lst us))):md k (.ref p) (.int i) t (put S p (.lst ts)) Q:=⟨e0,ts,ax,hk,by rw [b5,e];exact h⟩
theorem Cy {Q:Sto->Prop}{k:Nat}(e1:S p=some (.lst ts)) (e0:i=k) (hk:k<ts.length) (e:ts.set k t=us) (h:Q (put S p (.lst us))):md k (.ref p) (.int i) t S Q:=⟨e0,ts,e1,hk,by rw [e];exact h⟩
theorem ES {n:Bool}(e:S p=some (.lst ts)) (f:b7 x=true) (f2:ts.all b7=true) (h:Q (.bl (n ^^ ts.any λy=>eqF y x)) S):gIn n x (.ref p) S Q:=.inr (.inr ⟨ts,eD e,f,f2,h⟩)
theorem Cz (hz:a.length<=sizeLine) (h:Q (.int a.length) S):e9 [.str a] S Q:=⟨_,NC hz,h⟩
theorem CA (h:Q (.int ts.length) S):e9 [.lst ts] S Q:=⟨_,rfl,h⟩
theorem zS (e:S p=some (.lst ts)):gj S (.ref p)=some (ts.length:Int):=by
 show (az S (.ref p)).map (λts=>(ts.length:Int))=_
 rw [eD e];rfl
theorem zT:gj S (.lst ts)=some (ts.length:Int):=rfl
theorem zU {ns:List Int}:gj S (.scr ns)=some ((ns.map T.int).length:Int):=rfl
theorem CB {α:Type}{f:α->T}{ls:List α}(h:Q (.int ls.length) S):e9 [.lst (ls.map f)] S Q:=⟨_,by rw [zT,Nz],h⟩
theorem CC {ns:List Int}(h:Q (.int ns.length) S):e9 [.scr ns] S Q:=⟨_,by rw [zU,Nz],h⟩
theorem mi {K:Fg}{n:String}{v:Value}{b:Bool}(e:tyT S x=some v) (k:PySem.W.kitOne K v (.type n)=some b) (h:Q (.bl b) S):mN K [x,.ty n] S Q:=⟨v,b,e,k,h⟩
theorem CD {ns:List Int}(e:da ts=some ns) (h0:ns≠[]) (h:∀ m,m∈ns->(∀ i∈ns,i<=m)->Q (.int m) S):tQ [.lst ts] S Q:=⟨ts,ns,rfl,e,h0,h⟩
theorem lf {bs:List Bool}(e:dk ts=some bs) (h:Q (.bl (bs.all id)) S):tR [.lst ts] S Q:=⟨ts,bs,rfl,e,h⟩
theorem CF {k:Bool}(h:Q (.int (if k then 1 else 0)) S):tS [.bl k] S Q:=h
theorem zV {tr:Bool}(h0:c.length≠0) (h1:a.length<=1000) (h:newL tr ((Txt.split a c).map T.str) S Q):qI tr (.str a) [.str c] S Q:=⟨h0,h1,h⟩
theorem zW {zs:List Str}(e:db ts=some zs) (h0:JoinOk a zs=true) (h:Q (.str (Txt.join a zs)) S):l9 (.str a) [.lst ts] S Q:=⟨ts,zs,rfl,e,h0,h⟩
theorem zX {zs:List Str}(e0:S p=some (.lst ts)) (e:db ts=some zs) (h0:JoinOk a zs=true) (h:Q (.str (Txt.join a zs)) S):l9 (.str a) [.ref p] S Q:=⟨ts,zs,eD e0,e,h0,h⟩
theorem zY (h0:a.length<=sizeLine) (h:Q (.str (Txt.stripChars a c)) S):qK (.str a) [.str c] S Q:=⟨h0,h⟩
theorem xY (h:Q (.bl (Txt.startswith a c)) S):pL (.str a) [.str c] S Q:=h
theorem fG (e:S p=some (.lst ts)) (h0:ts.length<sizeLine) (h:Q .non (put S p (.lst (ts++[y])))):pM (.ref p) [y] S Q:=⟨ts,e,h0,h⟩
theorem ET {Q:Prop}(h:Q):tyM "str" S (.str a)/\Q:=⟨rfl,h⟩
theorem EU {Q:Prop}(e:S p=some (.lst ts)) (h:Q):tyM "list" S (.ref p)/\Q:=⟨by delta tyM;dsimp only;rw [e],h⟩
theorem EV {A:List T->Prop}(h:A ts):∃ us,az S (.lst ts)=some us/\A us:=⟨ts,rfl,h⟩
theorem GJ {ts:List T}{n:Nat}{Q:Prop}(e:ts.length<=sizeLine) (h:Q):ts.length<=sizeLine/\Q:=⟨e,h⟩
theorem CG (hz:a.length<=sizeLine) (h0:0<=i) (h1:i<a.length) (h:∀ d,d∈a.cps.toList->atI a.cps.toList i=some d->Q (.str ⟨#[d]⟩) S):gIx (.str a) (.int i) S Q:=by
 obtain ⟨d,e,hd⟩:=fR (ls:=a.cps.toList) h0 (by simpa [Str.length] using h1)
 exact EM hz e (h d hd e)
theorem zZ {α:Type}{f:α->T}{ls:List α}(e:S p=some (.lst (ls.map f))) (h:Q (.int ls.length) S):e9 [.ref p] S Q:=⟨_,by simp only [zS e,Nz],h⟩
theorem xZ {o:O}(h:S p=some o):put S p o=S:=by
 funext b
 unfold put
 split
 ·next e=>rw [e,h]
 ·rfl
theorem Le.put {o:O}(h:S p=Option.none):Le S (T2.put S p o):=λa u e=>by
 have:a≠p:=λz=>by rw [z,h] at e;cases e
 rw [aq this];exact e
theorem Le.trans {S1 S2 S3:Sto}(a:Le S1 S2) (b:Le S2 S3):Le S1 S3:=λc o h=>b c o (a c o h)
theorem oG {a b:Addr}{x y:O}(h:a≠b):T2.put (T2.put S a x) b y=T2.put (T2.put S b y) a x:=by
 funext c
 unfold T2.put
 by_cases h1:c=b
 ·by_cases h2:c=a
  ·exact absurd (h2.symm.trans h1) h
  ·simp [h1,h2,Op h]
 ·by_cases h2:c=a
  ·simp [h1,h2,h]
  ·simp [h1,h2]
theorem CH {a b:Addr}{x y z:O}(h:a≠b):T2.put (T2.put (T2.put S a x) b y) a z=T2.put (T2.put S a z) b y:=by
 rw [oG (S:=T2.put S a x) (a:=b) (b:=a) (Op h),b5]
theorem gN {a b:Addr}{o:O}(h:T2.put S a o b=Option.none):b≠a/\S b=Option.none:=by
 have ne:b≠a:=λz=>by rw [z,ax] at h;cases h
 exact ⟨ne,by rw [aq ne] at h;exact h⟩
theorem z3 (z:Str) (ws:List Str):((ws.map T.str).any λy=>eqF y (.str z))=decide (z∈ws):=by
 induction ws with
 |nil=>rfl
 |cons a l ih =>
  rw [NF,O0,ih,N7]
  simp only [Ev,QJ,Pb,ND,NR]
  constructor
  ·rintro (h|h)
   ·exact .inl h.symm
   ·exact .inr h
  ·rintro (h|h)
   ·exact .inl h.symm
   ·exact .inr h
theorem wD (ws:List Str):(ws.map T.str).all b7=true:=by
 induction ws with
 |nil=>rfl
 |cons a l ih=>rw [NF,P6,ih];rfl
theorem CI {n:Bool}{ws:List Str}{zz:Str}(e:S p=some (.lst (ws.map T.str))) (h:Q (.bl (n ^^ decide (zz∈ws))) S):gIn n (.str zz) (.ref p) S Q:=ES e rfl (wD ws) (by rw [z3];exact h)
theorem Le.put2 {S1 S2:Sto}{o:O}(l:Le S1 S2):Le (T2.put S1 p o) (T2.put S2 p o):=λa u e=>by
 by_cases h:a=p
 ·subst h;rw [ax] at e ⊢;exact e
 ·rw [aq h] at e ⊢;exact l a u e
def dS {α:Type}(ls:List α) (lo hi:Option Int):List α:=(ls.drop (HT.sIx ls.length 0 lo)).take (HT.sIx ls.length ls.length hi - HT.sIx ls.length 0 lo)
theorem oH {α:Type}{f:α->T}{ls:List α}{lo hi:Option Int}:c0 (ls.map f) lo hi=(dS ls lo hi).map f:=by
 unfold c0 dS
 rw [Nz,List.map_take,List.map_drop]
theorem pN {α:Type}{ls:List α}{k:Int}(h:0<=k):dS ls none (some k)=ls.take k.toNat:=by
 unfold dS
 have e:((k.toNat:Nat):Int)=k:=by lia
 rw [<- e,HT.sIx_nat,HT.sIx_none,Int.toNat_natCast,Pl,Sw,Nat.min_comm,<- RV]
 exact O4 (by rw [Of];lia)
theorem EW {tr:Bool}{α:Type}{f:α->T}{ls:List α}{lo hi:Option Int}(h:newL tr ((dS ls lo hi).map f) S Q):gSl tr (.lst (ls.map f)) lo hi S Q:=su (by rw [oH];exact h)
theorem EX {A:Prop}(h0:-(2 ^ 62)<=j) (h1:j<2 ^ 62) (h:A):-(2 ^ 62)<=j/\j<2 ^ 62/\A:=⟨h0,h1,h⟩
theorem ifT {A C:Prop}(h:A):if true=true then A else C:=by rw [NC rfl];exact h
theorem ifF {A C:Prop}(h:C):if false=true then A else C:=by rw [NB N5];exact h
theorem GK {A C:Prop}(h:C):if (!true)=true then A else C:=ifF h
theorem GL {A C:Prop}(h:A):if (!false)=true then A else C:=ifT h
theorem ifB {b:Bool}{A C:Prop}(h1:b=true->A) (h2:b=false->C):if b=true then A else C:=by
 cases b with
 |true=>exact ifT (h1 rfl)
 |false=>exact ifF (h2 rfl)
end
end T2
namespace S6
open PySem PyProof.Rows
noncomputable def rk (ρ:Keyed->Nat) (xs:Array Keyed) (i:Nat):Nat:=((xs[i]?).map ρ).getD 0
theorem sv {ρ:Keyed->Nat}{xs ys:Array Keyed}{i j:Nat}(h:xs[i]?=ys[j]?):rk ρ xs i=rk ρ ys j:=by unfold rk;rw [h]
theorem CJ {ρ:Keyed->Nat}{xs:Array Keyed}{i j:Nat}(hj:j<=xs.size) (k:Nat) :
  rk ρ (mirror xs i j ((j - i) / 2)) k=rk ρ xs (if i<=k/\k<j then i+j - 1 - k else k):=by
 refine sv ?_
 rw [getElem?_mirror_all hj]
 split<;>rfl
theorem z4 {ρ:Keyed->Nat}{xs:Array Keyed}{n d:Nat}(hn:n<xs.size) (hd:d<=n) (k:Nat) :
  rk ρ (bubble xs n d) k=rk ρ xs (if k=n - d then n else if n - d<k/\k<=n then k - 1 else k):=by
 refine sv ?_
 rw [getElem?_bubble hn d hd]
 split
 ·rfl
 ·split<;>rfl
def Up (ρ:Keyed->Nat) (xs:Array Keyed) (n:Nat):Prop:=∀ i j,i<=j->j<n->rk ρ xs i<=rk ρ xs j
def Dn (ρ:Keyed->Nat) (xs:Array Keyed) (n:Nat):Prop:=∀ i j,i<=j->j<n->rk ρ xs j<=rk ρ xs i
structure Ok (kd:SortKind) (a₀:Array Keyed) (st:SortSt):Prop where
 perm:(arrOf st).Perm a₀
 kind:kindOf st=kd
 well:failedOf st=none
 runs:pendingOf st=#[]
theorem Ok.sz {kd a₀ st}(o:Ok kd a₀ st):(arrOf st).size=a₀.size:=o.perm.size_eq
def Cm (prog:Program) (w:World) (A:Around) (s:Shared) (kd:SortKind) (a₀:Array Keyed) (ρ:Keyed->Nat):Prop :=
 ∀ x y,x∈a₀.toList->y∈a₀.toList->∀ (E:Value->Shared->Prop) (Q:Bool->Shared->Prop),Q (decide (ρ x<ρ y)) s->wpAny (model prog w) A (keyLt' kd x.1 y.1) Q E s
section
variable {prog:Program}{w:World}{A:Around}{E:Value->Shared->Prop}{s:Shared}{a₀:Array Keyed}{kd:SortKind}{ρ:Keyed->Nat}{st:SortSt}
def Lk (ρ:Keyed->Nat) (xs:Array Keyed) (m e:Nat):Prop:=e+1<=m/\∀ i,m - (e+1)<=i->i<m->rk ρ xs i=rk ρ xs (m - 1)
end
end S6
namespace S6
open PySem PyProof.Rows PySem.SeqAt
inductive Ky where
 |i (n:Int)|s (x:Str)|tt (v:Bool)|nil|cons (h t:Ky)
 deriving DecidableEq
namespace Ky
mutual
noncomputable def dat:Ky->PyData
 |.i n=>.int n
 |.s x=>.str x
 |.tt v=>.bool v
 |.nil=>.tuple []
 |.cons h t=>.tuple (dat h::row t)
noncomputable def row:Ky->List PyData
 |.cons h t=>dat h::row t
 |_=>[]
end
noncomputable def shp:Ky->Ky->Bool
 |.i _,.i _=>true
 |.s _,.s _=>true
 |.tt _,.tt _=>true
 |.nil,.nil=>true
 |.cons h t,.cons h' t'=>shp h h'&&shp t t'
 |_,_=>false
noncomputable def lt:Ky->Ky->Bool
 |.i a,.i b=>decide (a<b)
 |.s a,.s b=>decide (a.cps.toList<b.cps.toList)
 |.tt a,.tt b=>!a&&b
 |.cons h t,.cons h' t'=>if h=h' then lt t t' else lt h h'
 |_,_=>false
noncomputable def ok:Ky->Bool
 |.cons h t=>ok h&&ok t&&isRow t
 |_=>true
where isRow:Ky->Bool
 |.nil=>true
 |.cons _ _=>true
 |_=>false
noncomputable def dep:Ky->Nat
 |.nil=>1
 |.cons h t=>max (dep h+1) (dep t)
 |_=>0
theorem bP {h t h' t':Ky}:shp (.cons h t) (.cons h' t')=(shp h h'&&shp t t'):=rfl
theorem cv {a b:Int}:lt (.i a) (.i b)=decide (a<b):=rfl
theorem cJ {a b:Str}:lt (.s a) (.s b)=decide (a.cps.toList<b.cps.toList):=rfl
theorem c5 {a b:Bool}:lt (.tt a) (.tt b)=(!a&&b):=rfl
theorem bW {h t h' t':Ky}:lt (.cons h t) (.cons h' t')=if h=h' then lt t t' else lt h h':=rfl
theorem dU {h t:Ky}:ok (.cons h t)=(ok h&&ok t&&ok.isRow t):=rfl
theorem iB {h t:Ky}:dep (.cons h t)=max (dep h+1) (dep t):=rfl
theorem CK {a b:Str}(h:a≠b):a.cps.toList≠b.cps.toList:=λe=>h (by
 cases a;cases b
 simp only [Str.mk.injEq] at h ⊢
 exact Pe.mp e)
theorem tri:∀ {x y:Ky},shp x y=true->lt x y=true\/x=y\/lt y x=true:=by
 intro x
 induction x with
 |i a =>
  intro y e
  cases y<;>try (cases e;done)
  simp only [cv,ND,Ky.i.injEq];lia
 |s a =>
  intro y e
  cases y<;>try (cases e;done)
  rename_i b
  simp only [cv,cJ,c5,bW,ND,Ky.s.injEq]
  by_cases e:a=b
  ·exact .inr (.inl e)
  ·by_cases l:a.cps.toList<b.cps.toList
   ·exact .inl l
   ·refine .inr (.inr ?_)
    rcases List.le_iff_lt_or_eq.mp (List.not_lt.mp l) with z|z
    ·exact z
    ·exact (CK e z.symm).elim
 |tt a =>
  intro y e
  cases y<;>try (cases e;done)
  rename_i b
  cases a<;>cases b<;>first|exact .inl rfl|exact .inr (.inl rfl)|exact .inr (.inr rfl)
 |nil =>
  intro y e
  cases y<;>first|(cases e;done)|exact .inr (.inl rfl)
 |cons h t ih1 ih2 =>
  intro y e
  cases y<;>try (cases e;done)
  rename_i h' t'
  simp only [bP,NA] at e
  by_cases q:h=h'
  ·subst q
   rcases ih2 e.2 with z|z|z
   ·exact .inl (by simp [cv,cJ,c5,bW,z])
   ·exact .inr (.inl (by rw [z]))
   ·exact .inr (.inr (by simp [cv,cJ,c5,bW,z]))
  ·rcases ih1 e.1 with z|z|z
   ·exact .inl (by simp [cv,cJ,c5,bW,q,z])
   ·exact (q z).elim
   ·exact .inr (.inr (by simp [cv,cJ,c5,bW,Op q,z]))
theorem irr:∀ x:Ky,lt x x=false
 |.i _=>by simp [cv,cJ,c5,bW]
 |.s x=>by simp only [cv,cJ,c5,bW,OW];exact List.lt_irrefl _
 |.tt v=>by cases v<;>rfl
 |.nil=>rfl
 |.cons h t=>by simp [cv,cJ,c5,bW,irr t]
theorem trans:∀ {x y z:Ky},shp x y=true->shp y z=true->lt x y=true->lt y z=true->lt x z=true:=by
 intro x
 induction x with
 |i a =>
  intro y z e f p q
  cases y<;>try (cases e;done)
  cases z<;>try (cases f;done)
  simp only [cv,ND] at *;lia
 |s a =>
  intro y z e f p q
  cases y<;>try (cases e;done)
  cases z<;>try (cases f;done)
  simp only [cJ,ND] at *;exact List.lt_trans p q
 |tt a =>
  intro y z e f p q
  cases y<;>try (cases e;done)
  cases z<;>try (cases f;done)
  rename_i b c
  cases a<;>cases b<;>cases c<;>first|rfl|(cases p;done)|(cases q;done)
 |nil =>
  intro y z e f p q
  cases y<;>first|(cases e;done)|cases p
 |cons h t ih1 ih2 =>
  intro y z e f p q
  cases y<;>try (cases e;done)
  cases z<;>try (cases f;done)
  rename_i h' t' h2 t2
  simp only [bP,NA] at e f
  simp only [cv,cJ,c5,bW] at p q ⊢
  by_cases a:h=h'
  ·subst a
   rw [NC rfl] at p
   by_cases b:h=h2
   ·subst b
    rw [NC rfl] at q ⊢
    exact ih2 e.2 f.2 p q
   ·rw [NB b] at q ⊢;exact q
  ·rw [NB a] at p
   by_cases b:h'=h2
   ·subst b
    rw [NB a];exact p
   ·rw [NB b] at q
    have:=ih1 e.1 f.1 p q
    rw [NB (λz=>by rw [z,irr] at this;cases this)]
    exact this
theorem GN {x y:Ky}(h:shp x y=true) (p:lt x y=true):lt y x=false:=by
 cases q:lt y x with
 |false=>rfl
 |true =>
  have h':shp y x=true:=by
   have:∀ {a b:Ky},shp a b=true->shp b a=true:=by
    intro a
    induction a with
    |cons u v iu iv =>
     intro b e
     cases b with
     |cons=>simp only [bP,NA] at e ⊢;exact ⟨iu e.1,iv e.2⟩
     |_=>cases e
    |_=>intro b e;cases b<;>first|rfl|cases e
   exact this h
  have:=trans h h' p q
  rw [irr] at this;cases this
theorem x3:∀ {a b:Ky},shp a b=true->shp b a=true:=by
 intro a
 induction a with
 |cons u v iu iv =>
  intro b e
  cases b with
  |cons=>simp only [bP,NA] at e ⊢;exact ⟨iu e.1,iv e.2⟩
  |_=>cases e
 |_=>intro b e;cases b<;>first|rfl|cases e
theorem g8:∀ {x y:Ky},shp x y=true->ok x=true->PyData.eqv (dat x) (dat y)=decide (x=y)/\(ok.isRow x=true->PyData.eqvAll (row x) (row y)=decide (x=y))
 |.i a,.i b,_,_=>⟨by simp only [dat,PyData.eqv,Ky.i.injEq];rfl,λh=>by cases h⟩
 |.s a,.s b,_,_=>⟨by simp only [dat,PyData.eqv,Ky.s.injEq];rfl,λh=>by cases h⟩
 |.tt a,.tt b,_,_=>⟨by cases a<;>cases b<;>rfl,λh=>by cases h⟩
 |.nil,.nil,_,_=>⟨rfl,λ_=>rfl⟩
 |.cons h t,.cons h' t',e,o=>by
  simp only [bP,NA] at e
  simp only [dU,NA] at o
  have h1:=(g8 e.1 o.1.1).1
  have h2:=(g8 e.2 o.1.2).2 o.2
  have z:PyData.eqvAll (dat h::row t) (dat h'::row t')=decide (Ky.cons h t=Ky.cons h' t'):=by
   simp only [PyData.eqvAll,h1,h2,Ky.cons.injEq,Bool.decide_and]
  exact ⟨by simp only [dat,PyData.eqv];exact z,λ_=>by simp only [row];exact z⟩
end Ky
end S6
namespace S6
open PySem PyProof.Rows PySem.SeqAt
theorem qM {α:Type}{p q:α->Bool}{x:α}:∀ {l:List α},(∀ z∈l,p z=true->q z=true)->x∈l->p x=false->q x=true->l.countP p<l.countP q
 |[],_,h,_,_=>by cases h
 |y::l,m,h,px,qx=>by
  have ml:∀ z∈l,p z=true->q z=true:=λz hz=>m z (NQ _ hz)
  have le:=Rq ml
  rw [Qu,Qu]
  rcases NR.mp h with rfl|h
  ·simp only [px,qx,Oe,Pa,OV];lia
  ·have ih:=qM ml h px qx
   have:(if p y=true then 1 else 0)<=if q y=true then 1 else 0:=by
    split
    ·rw [NC (m y (NM ..) ‹_›)];exact NE _
    ·exact OM _
   lia
def rnk (ks:List Ky) (x:Ky):Nat:=ks.countP λz=>Ky.lt z x
theorem qN {ks:List Ky}(hs:∀ x∈ks,∀ y∈ks,Ky.shp x y=true){x y:Ky}(hx:x∈ks) (hy:y∈ks):decide (rnk ks x<rnk ks y)=Ky.lt x y:=by
 cases e:Ky.lt x y with
 |true=>exact NK (qM (λz hz l=>Ky.trans (hs z hz x hx) (hs x hx y hy) l e) hx (Ky.irr x) e)
 |false =>
  refine NS (Nat.not_lt.mpr (Rq λz hz l=>?_))
  rcases Ky.tri (hs x hx y hy) with q|q|q
  ·rw [e] at q;cases q
  ·rw [q];exact l
  ·exact Ky.trans (hs z hz y hy) (hs y hy x hx) l q
inductive Cp where
 |lt|gt|ge
def cop:Cp->CmpOp
 |.lt=>.Lt
 |.gt=>.Gt
 |.ge=>.GtE
noncomputable def gl (g:Cp) (x y:Ky):Bool:=match g with
 |.lt=>Ky.lt x y
 |.gt=>Ky.lt y x
 |.ge=>!Ky.lt x y
def iO:CmpOp->Bool
 |.GtE=>true
 |_=>false
def cH (A:Around) (s:Shared) (op:CmpOp) (x y:Value) (c:Bool):Prop :=
 ∀ (prog:Program) (w:World) (E:Value->Shared->Prop) (Q:Value->Shared->Prop),Q (.bool c) s->wpAny (model prog w) A (richCompare op x y) Q E s
inductive LexAt (A:Around) (s:Shared) (op:CmpOp):List Value->List Value->Bool->Prop
 |nil:LexAt A s op [] [] (iO op)
 |same {x y xs ys c}:EqAt A s x y true->LexAt A s op xs ys c->LexAt A s op (x::xs) (y::ys) c
 |diff {x y xs ys c}:EqAt A s x y false->cH A s op x y c->LexAt A s op (x::xs) (y::ys) c
noncomputable def fJ (op:CmpOp) (us vs:List Value) (n m:Nat):Sem Fin:=do
 for (x,y) in us.zip vs do
  if !(<- eqBool x y) then
   rule "tuple.compare.by-the-first-pair-that-differs";return <- ret (<- richCompare op x y)
 ret (Builtin.Tuple.tupleCompareSizes op n m)
theorem wE (a b:Value):Builtin.«tuple.__lt__» ⟨[a,b],[]⟩=(do
  if !(<- isInstance b (.type "tuple")) then return <- ret .notImplemented
  let xs <- Builtin.Tuple.tupleItemsOf a
  let ys <- Builtin.Tuple.tupleItemsOf b
  fJ .Lt xs.toList ys.toList xs.size ys.size):=rfl
theorem wF (a b:Value):Builtin.«tuple.__ge__» ⟨[a,b],[]⟩=(do
  if !(<- isInstance b (.type "tuple")) then return <- ret .notImplemented
  let xs <- Builtin.Tuple.tupleItemsOf a
  let ys <- Builtin.Tuple.tupleItemsOf b
  fJ .GtE xs.toList ys.toList xs.size ys.size):=rfl
theorem wG (a b:Value):Builtin.«tuple.__gt__» ⟨[a,b],[]⟩=(do
  if !(<- isInstance b (.type "tuple")) then return <- ret .notImplemented
  let xs <- Builtin.Tuple.tupleItemsOf a
  let ys <- Builtin.Tuple.tupleItemsOf b
  fJ .Gt xs.toList ys.toList xs.size ys.size):=rfl
section
variable {A:Around}{s:Shared}
theorem lg {g:Cp}{prog:Program}{w:World}{E:Value->Shared->Prop}{P:Fin->Shared->Prop}{us vs:List Value}{c:Bool}(L:LexAt A s (cop g) us vs c){n m:Nat}(hnm:n=m)
  (h:P (.done (.ret (.bool c))) s):wpAny (model prog w) A (fJ (cop g) us vs n m) P E s:=by
 unfold fJ
 refine Ny ?_
 refine wpAny_forIn_list _ (λrest r z=>r.1=none/\z=s/\∃ Kj JT,rest=Kj.zip JT/\LexAt A s (cop g) Kj JT c) _ ?_ ?_ _ _ ⟨rfl,rfl,us,vs,rfl,L⟩
 ·rintro ⟨x,y⟩ rest r z ⟨hr,rfl,Kj,JT,hz,L'⟩
  cases L' with
  |nil=>simp at hz
  |same e L2 =>
   simp only [QR,Pc,P7] at hz
   obtain ⟨⟨rfl,rfl⟩,rfl⟩:=hz
   refine Ny (e prog w _ _ ?_)
   exact NP ⟨rfl,rfl,_,_,rfl,L2⟩
  |diff e cm =>
   simp only [QR,Pc,P7] at hz
   obtain ⟨⟨rfl,rfl⟩,rfl⟩:=hz
   refine Ny (e prog w _ _ ?_)
   refine Ny (PX (Ny (cm prog w _ _ ?_)))
   exact Ny (NP (NP (NP h)))
 ·rintro ⟨r1,r2⟩ z ⟨hr,rfl,Kj,JT,hz,L'⟩
  simp only at hr
  subst hr
  have hc:c=iO (cop g):=by
   cases L' with
   |nil=>rfl
   |same _ _=>simp at hz
   |diff _ _=>simp at hz
  subst hc hnm
  have e:Builtin.Tuple.tupleCompareSizes (cop g) n n=.bool (iO (cop g)):=by cases g<;>simp [cop,iO,Builtin.Tuple.tupleCompareSizes]
  show wpAny _ _ (ret (Builtin.Tuple.tupleCompareSizes (cop g) n n)) P E _
  rw [e]
  exact NP h
theorem vC {g:Cp}{l m:Addr}{o u:Obj}{xs ys:Array Value}{n k:Nat}{c:Bool}(h1:s.heap.get? l=some o) (c1:o.cls=.type "tuple") (d1:o.data=.seq xs n)
  (h2:s.heap.get? m=some u) (c2:u.cls=.type "tuple") (d2:u.data=.seq ys k) (hu:A.units<cLine) (L:LexAt A.in1 s (cop g) xs.toList ys.toList c) (hs:xs.size=ys.size):cH A s (cop g) (.ref l) (.ref m) c:=by
 intro prog w E Q q
 have t1:s.TypeIs (.ref l) "tuple":=⟨o,h1,c1⟩
 have t2:s.TypeIs (.ref m) "tuple":=⟨u,h2,c2⟩
 cases g with
 |lt =>
  refine Qn (op:=.Lt) t1 t2 F.slot_tuple_lt (wpAny_call_entry F.slot_tuple_lt t1 F.entry_tuple_lt ?_ (F.args_tuple_lt_2 _ _)) hu
  rw [wE]
  refine Ny (wpAny_isInstance t2 Rr ?_)
  simp only [Rc,Oe,Pa]
  refine Ny (PN h1 d1 (Ny (PN h2 d2 ?_)))
  exact lg (g:=.lt) L hs ⟨_,rfl,by simp,q⟩
 |gt =>
  refine Qn (op:=.Gt) t1 t2 F.slot_tuple_gt (wpAny_call_entry F.slot_tuple_gt t1 F.entry_tuple_gt ?_ (F.args_tuple_gt_2 _ _)) hu
  rw [wG]
  refine Ny (wpAny_isInstance t2 Rr ?_)
  simp only [Rc,Oe,Pa]
  refine Ny (PN h1 d1 (Ny (PN h2 d2 ?_)))
  exact lg (g:=.gt) L hs ⟨_,rfl,by simp,q⟩
 |ge =>
  refine Qn (op:=.GtE) t1 t2 F.slot_tuple_ge (wpAny_call_entry F.slot_tuple_ge t1 F.entry_tuple_ge ?_ (F.args_tuple_ge_2 _ _)) hu
  rw [wF]
  refine Ny (wpAny_isInstance t2 Rr ?_)
  simp only [Rc,Oe,Pa]
  refine Ny (PN h1 d1 (Ny (PN h2 d2 ?_)))
  exact lg (g:=.ge) L hs ⟨_,rfl,by simp,q⟩
theorem x4 {g:Cp}(a b:Int) (t u:Tok):cH A s (cop g) (.int a t) (.int b u) (gl g (.i a) (.i b)):=by
 intro prog w E Q q
 cases g with
 |lt=>exact lt_int (A:=A) q
 |gt=>exact gt_int (A:=A) q
 |ge =>
  have e:gl .ge (.i a) (.i b)=decide (b<=a):=by
   show (!decide (a<b))=_
   rw [N7]
   simp only [Qg,OW,ND,Int.not_lt]
  rw [e] at q
  exact PySem.P.ge_int (A:=A) q
theorem wH {g:Cp}(a b:Bool):cH A s (cop g) (.bool a) (.bool b) (gl g (.tt a) (.tt b)):=by
 intro prog w E Q q
 cases g with
 |lt =>
  have q':Q (.bool (decide (b2i a<b2i b))) s:=by
   rw [show decide (b2i a<b2i b)=gl .lt (.tt a) (.tt b) by cases a<;>cases b<;>rfl];exact q
  exact lt_bool (A:=A) q'
 |gt =>
  have q':Q (.bool (decide (b2i a>b2i b))) s:=by
   rw [show decide (b2i a>b2i b)=gl .gt (.tt a) (.tt b) by cases a<;>cases b<;>rfl];exact q
  exact gt_bool (A:=A) q'
 |ge =>
  have q':Q (.bool (decide (b2i a≥b2i b))) s:=by
   rw [show decide (b2i a≥b2i b)=gl .ge (.tt a) (.tt b) by cases a<;>cases b<;>rfl];exact q
  exact ge_bool (A:=A) q'
theorem x5 {g:Cp}(a b:Str) (t u:Tok):cH A s (cop g) (.str a t) (.str b u) (gl g (.s a) (.s b)):=by
 intro prog w E Q q
 cases g with
 |lt=>exact lt_str (A:=A) q
 |gt=>exact PySem.P.gt_str (A:=A) q
 |ge=>exact PySem.P.ge_str (A:=A) q
theorem z5 {g:Cp}{h t h' t':Ky}:gl g (.cons h t) (.cons h' t')=if h=h' then gl g t t' else gl g h h':=by
 cases g with
 |lt=>show Ky.lt _ _=if h=h' then Ky.lt t t' else Ky.lt h h';rw [Ky.bW]
 |gt =>
  show Ky.lt _ _=if h=h' then Ky.lt t' t else Ky.lt h' h
  rw [Ky.bW]
  by_cases e:h=h'
  ·rw [NC e,NC e.symm]
  ·rw [NB e,NB (Op e)]
 |ge =>
  show (!Ky.lt _ _)=if h=h' then !Ky.lt t t' else !Ky.lt h h'
  rw [Ky.bW]
  by_cases e:h=h'
  ·rw [NC e,NC e]
  ·rw [NB e,NB e]
end
theorem bQ {h:Heap}{a:Value}{n:Int}{as:List Addr}(r:Reads h a (.int n) as):∃ t,a=.int n t:=by cases r;exact ⟨_,rfl⟩
theorem bR {h:Heap}{a:Value}{n:Str}{as:List Addr}(r:Reads h a (.str n) as):∃ t,a=.str n t:=by cases r;exact ⟨_,rfl⟩
theorem ca {h:Heap}{a:Value}{n:Bool}{as:List Addr}(r:Reads h a (.bool n) as):a=.bool n:=by cases r;rfl
theorem bc {h:Heap}{a:Value}{ds:List PyData}{as:List Addr}(r:Reads h a (.tuple ds) as):∃ (l:Addr) (o:Obj) (vs:Array Value) (n:Nat),a=.ref l/\h.get? l=some o/\o.cls=.type "tuple" /\ o.data=.seq vs n/\ReadsAll h vs.toList ds as:=by
 cases r with
 |tuple a1 a2 a3 a4=>exact ⟨_,_,_,_,rfl,a1,a2,a3,a4⟩
theorem dm {h:Heap}{us:List Value}{d:PyData}{ds:List PyData}{as:List Addr}(r:ReadsAll h us (d::ds) as):∃ u vs a1 a2,us=u::vs/\Reads h u d a1/\ReadsAll h vs ds a2:=by
 cases r with
 |cons r1 r2=>exact ⟨_,_,_,_,rfl,r1,r2⟩
theorem nX:∀ {x y:Ky}{h:Heap},Ky.ok x=true->Ky.ok y=true->(∀ {a:Value}{as bs:List Addr},Reads h a x.dat as->Reads h a y.dat bs->x=y) /\
  (∀ {us:List Value}{as bs:List Addr},Ky.ok.isRow x=true->Ky.ok.isRow y=true->ReadsAll h us x.row as->ReadsAll h us y.row bs->x=y):=by
 intro x
 induction x with
 |i n =>
  intro y h _ oy
  refine ⟨fun {a as bs} r q=>?_,fun {us as bs} z=>by cases z⟩
  obtain ⟨t,rfl⟩:=bQ r
  cases y with
  |i m=>obtain ⟨_,e⟩:=bQ q;cases e;rfl
  |s m=>obtain ⟨_,e⟩:=bR q;cases e
  |tt m=>have e:=ca q;cases e
  |nil=>obtain ⟨_,_,_,_,e,_⟩:=bc q;cases e
  |cons u v=>obtain ⟨_,_,_,_,e,_⟩:=bc q;cases e
 |s n =>
  intro y h _ oy
  refine ⟨fun {a as bs} r q=>?_,fun {us as bs} z=>by cases z⟩
  obtain ⟨t,rfl⟩:=bR r
  cases y with
  |i m=>obtain ⟨_,e⟩:=bQ q;cases e
  |s m=>obtain ⟨_,e⟩:=bR q;cases e;rfl
  |tt m=>have e:=ca q;cases e
  |nil=>obtain ⟨_,_,_,_,e,_⟩:=bc q;cases e
  |cons u v=>obtain ⟨_,_,_,_,e,_⟩:=bc q;cases e
 |tt n =>
  intro y h _ oy
  refine ⟨fun {a as bs} r q=>?_,fun {us as bs} z=>by cases z⟩
  obtain rfl:=ca r
  cases y with
  |i m=>obtain ⟨_,e⟩:=bQ q;cases e
  |s m=>obtain ⟨_,e⟩:=bR q;cases e
  |tt m=>have e:=ca q;cases e;rfl
  |nil=>obtain ⟨_,_,_,_,e,_⟩:=bc q;cases e
  |cons u v=>obtain ⟨_,_,_,_,e,_⟩:=bc q;cases e
 |nil =>
  intro y h _ oy
  have go:∀ {us:List Value}{as bs:List Addr},Ky.ok.isRow y=true->ReadsAll h us [] as->ReadsAll h us y.row bs->Ky.nil=y:=fun {us as bs} z r q=>by
   cases r
   cases y with
   |nil=>rfl
   |cons u v=>simp only [Ky.row] at q;cases q
   |_=>cases z
  refine ⟨fun {a as bs} r q=>?_,fun {us as bs} _ z r q=>go z (by simpa only [Ky.row] using r) q⟩
  obtain ⟨l,o,vs,n,rfl,a1,a2,a3,a4⟩:=bc r
  cases y with
  |nil=>rfl
  |cons u v =>
   obtain ⟨l',o',JT,n',e,b1,b2,b3,b4⟩:=bc q
   cases e
   rw [a1] at b1;cases b1
   rw [a3] at b3;cases b3
   exact go rfl a4 b4
  |i n=>obtain ⟨_,e⟩:=bQ q;cases e
  |s n=>obtain ⟨_,e⟩:=bR q;cases e
  |tt n=>have e:=ca q;cases e
 |cons u v iu iv =>
  intro y h ox oy
  simp only [Ky.dU,NA] at ox
  have go:∀ {us:List Value}{as bs:List Addr},Ky.ok.isRow y=true->ReadsAll h us (u.dat::v.row) as->ReadsAll h us y.row bs->Ky.cons u v=y:=fun {us as bs} z r q=>by
   cases y with
   |nil=>simp only [Ky.row] at q;cases q;cases r
   |cons u' v' =>
    simp only [Ky.dU,NA] at oy
    simp only [Ky.row] at q
    obtain ⟨_,_,_,_,rfl,r1,r2⟩:=dm r
    obtain ⟨_,_,_,_,e,q1,q2⟩:=dm q
    cases e
    rw [(iu ox.1.1 oy.1.1).1 r1 q1,(iv ox.1.2 oy.1.2).2 ox.2 oy.2 r2 q2]
   |_=>cases z
  refine ⟨fun {a as bs} r q=>?_,fun {us as bs} _ z r q=>go z (by simpa only [Ky.row] using r) q⟩
  obtain ⟨l,o,vs,n,rfl,a1,a2,a3,a4⟩:=bc r
  have tup:∀ {ds:List PyData}{bs:List Addr},Reads h (.ref l) (.tuple ds) bs->ReadsAll h vs.toList ds bs:=fun {ds bs} q=>by
   obtain ⟨l',o',JT,n',e,b1,b2,b3,b4⟩:=bc q
   cases e
   rw [a1] at b1;cases b1
   rw [a3] at b3;cases b3
   exact b4
  cases y with
  |nil=>exact go rfl a4 (tup q)
  |cons u' v'=>exact go rfl a4 (tup q)
  |i n=>obtain ⟨_,e⟩:=bQ q;cases e
  |s n=>obtain ⟨_,e⟩:=bR q;cases e
  |tt n=>have e:=ca q;cases e
theorem z6:∀ (x:Ky),
  (∀ {y:Ky}{A:Around}{s:Shared}{a b:Value}{as bs:List Addr},Ky.shp x y=true->Ky.ok x=true->Ky.ok y=true->Reads s.heap a x.dat as->Reads s.heap b y.dat bs->A.units+x.dep<cLine->EqAt A s a b (decide (x=y))) /\
  (∀ {y:Ky}{A:Around}{s:Shared}{us vs:List Value}{as bs:List Addr},Ky.ok.isRow x=true->Ky.shp x y=true->Ky.ok x=true->Ky.ok y=true->ReadsAll s.heap us x.row as->ReadsAll s.heap vs y.row bs->A.units+x.dep<=cLine ->
   ∀ j (h1:j<us.length) (h2:j<vs.length),EqAt A s us[j] vs[j] (pairEq x.row y.row j)):=by
 have tup:∀ {x y:Ky}{A:Around}{s:Shared}{l m:Addr}{o u:Obj}{xs ys:Array Value}{n k:Nat}{as bs:List Addr},
   (∀ {y:Ky}{A:Around}{s:Shared}{us vs:List Value}{as bs:List Addr},Ky.ok.isRow x=true->Ky.shp x y=true->Ky.ok x=true->Ky.ok y=true->ReadsAll s.heap us x.row as->ReadsAll s.heap vs y.row bs->A.units+x.dep<=cLine ->
    ∀ j (h1:j<us.length) (h2:j<vs.length),EqAt A s us[j] vs[j] (pairEq x.row y.row j)) ->
   Ky.ok.isRow x=true->Ky.ok.isRow y=true->Ky.shp x y=true->Ky.ok x=true->Ky.ok y=true->s.heap.get? l=some o->o.cls=.type "tuple"->o.data=.seq xs n->ReadsAll s.heap xs.toList x.row as ->
   s.heap.get? m=some u->u.cls=.type "tuple"->u.data=.seq ys k->ReadsAll s.heap ys.toList y.row bs->A.units+x.dep<cLine->EqAt A s (.ref l) (.ref m) (decide (x=y)):=by
  intro x y A s l m o u xs ys n k as bs lp hr hr' hs ox oy a1 a2 a3 a4 b1 b2 b3 b4 hu
  by_cases Ku:l=m
  ·subst Ku
   rw [a1] at b1;cases b1
   rw [a3] at b3;cases b3
   rw [NK ((nX ox oy).2 hr hr' a4 b4)]
   exact EqAt.same _
  ·have n1:xs.size=x.row.length:=by simpa using ReadsAll.length _ _ _ a4
   have n2:ys.size=y.row.length:=by simpa using ReadsAll.length _ _ _ b4
   rw [<- (Ky.g8 hs ox).2 hr,<- eqvAll_eq,<- n1,<- n2]
   refine EqAt.of_refs Ku (RcAt.tuples ⟨_,a1,a2,_,a3⟩ ⟨_,b1,b2,_,b3⟩ (by lia) λj j1 j2=>?_)
   have:=lp (A:=A.in1) hr hs ox oy a4 b4 (by show A.units+1+x.dep<=cLine;lia) j (by simpa using j1) (by simpa using j2)
   simpa using this
 intro x
 induction x with
 |i a =>
  refine ⟨fun {y A s a' b' as bs} hs ox oy ra rb hu=>?_,fun {y A s us vs as bs} h=>by cases h⟩
  cases y<;>first|cases hs|skip
  obtain ⟨t,rfl⟩:=bQ ra
  obtain ⟨u,rfl⟩:=bQ rb
  rename_i b
  rw [show decide (Ky.i a=Ky.i b)=(a==b) by rw [N7];simp]
  exact EqAt.int_int a t b u
 |s a =>
  refine ⟨fun {y A s a' b' as bs} hs ox oy ra rb hu=>?_,fun {y A s us vs as bs} h=>by cases h⟩
  cases y<;>first|cases hs|skip
  obtain ⟨t,rfl⟩:=bR ra
  obtain ⟨u,rfl⟩:=bR rb
  rename_i b
  rw [show decide (Ky.s a=Ky.s b)=(a==b) by rw [N7];simp]
  exact EqAt.str_str a t b u
 |tt a =>
  refine ⟨fun {y A s a' b' as bs} hs ox oy ra rb hu=>?_,fun {y A s us vs as bs} h=>by cases h⟩
  cases y<;>first|cases hs|skip
  obtain rfl:=ca ra
  obtain rfl:=ca rb
  rename_i b
  rw [show decide (Ky.tt a=Ky.tt b)=(a==b) by rw [N7];simp]
  exact EqAt.bool_bool a b
 |nil =>
  have lp:∀ {y:Ky}{A:Around}{s:Shared}{us vs:List Value}{as bs:List Addr},Ky.ok.isRow .nil=true->Ky.shp .nil y=true->Ky.ok .nil=true->Ky.ok y=true->ReadsAll s.heap us Ky.nil.row as->ReadsAll s.heap vs y.row bs->A.units+Ky.nil.dep<=cLine ->
    ∀ j (h1:j<us.length) (h2:j<vs.length),EqAt A s us[j] vs[j] (pairEq Ky.nil.row y.row j):=by
   intro y A s us vs as bs _ hs _ _ ra rb _ j h1
   simp only [Ky.row] at ra
   cases ra
   exact absurd h1 (RG _)
  refine ⟨fun {y A s a' b' as bs} hs ox oy ra rb hu=>?_,lp⟩
  cases y<;>first|cases hs|skip
  obtain ⟨_,_,_,_,rfl,a1,a2,a3,a4⟩:=bc ra
  obtain ⟨_,_,_,_,rfl,b1,b2,b3,b4⟩:=bc rb
  exact tup lp rfl rfl rfl rfl rfl a1 a2 a3 a4 b1 b2 b3 b4 hu
 |cons h t ih it =>
  have lp:∀ {y:Ky}{A:Around}{s:Shared}{us vs:List Value}{as bs:List Addr},Ky.ok.isRow (.cons h t)=true->Ky.shp (.cons h t) y=true->Ky.ok (.cons h t)=true->Ky.ok y=true->ReadsAll s.heap us (Ky.cons h t).row as->ReadsAll s.heap vs y.row bs->A.units+(Ky.cons h t).dep<=cLine ->
    ∀ j (h1:j<us.length) (h2:j<vs.length),EqAt A s us[j] vs[j] (pairEq (Ky.cons h t).row y.row j):=by
   intro y A s us vs as bs _ hs ox oy ra rb hu j h1 h2
   cases y with
   |cons h' t' =>
    simp only [Ky.bP,NA] at hs
    simp only [Ky.dU,NA] at ox oy
    simp only [Ky.iB] at hu
    simp only [Ky.row] at ra rb ⊢
    ·obtain ⟨_,_,_,_,rfl,r,rs⟩:=dm ra
     ·obtain ⟨_,_,_,_,rfl,r',rs'⟩:=dm rb
      cases j with
      |zero =>
       have:=ih.1 (A:=A) hs.1 ox.1.1 oy.1.1 r r' (by lia)
       rw [<- (Ky.g8 hs.1 ox.1.1).1] at this
       exact this
      |succ j=>exact it.2 (A:=A) ox.2 hs.2 ox.1.2 oy.1.2 rs rs' (by lia) j (Nat.lt_of_succ_lt_succ h1) (Nat.lt_of_succ_lt_succ h2)
   |_=>cases hs
  refine ⟨fun {y A s a' b' as bs} hs ox oy ra rb hu=>?_,lp⟩
  cases y with
  |cons h' t' =>
   obtain ⟨_,_,_,_,rfl,a1,a2,a3,a4⟩:=bc ra
   obtain ⟨_,_,_,_,rfl,b1,b2,b3,b4⟩:=bc rb
   exact tup lp rfl rfl hs ox oy a1 a2 a3 a4 b1 b2 b3 b4 hu
  |_=>cases hs
theorem nh {x y:Ky}{A:Around}{s:Shared}{a b:Value}{as bs:List Addr}(h:Ky.shp x y=true) (ox:Ky.ok x=true) (oy:Ky.ok y=true) (ra:Reads s.heap a x.dat as) (rb:Reads s.heap b y.dat bs) (hu:A.units+x.dep<cLine) :
  EqAt A s a b (decide (x=y)):=(z6 x).1 h ox oy ra rb hu
theorem g9 (g:Cp):∀ (x:Ky),
  (∀ {y:Ky}{A:Around}{s:Shared}{a b:Value}{as bs:List Addr},Ky.shp x y=true->Ky.ok x=true->Ky.ok y=true->Reads s.heap a x.dat as->Reads s.heap b y.dat bs->A.units+x.dep+1<cLine->cH A s (cop g) a b (gl g x y)) /\
  (∀ {y:Ky}{A:Around}{s:Shared}{us vs:List Value}{as bs:List Addr},Ky.ok.isRow x=true->Ky.shp x y=true->Ky.ok x=true->Ky.ok y=true->ReadsAll s.heap us x.row as->ReadsAll s.heap vs y.row bs->A.units+x.dep<cLine ->
   LexAt A s (cop g) us vs (gl g x y)/\us.length=vs.length):=by
 have tup:∀ {x y:Ky}{A:Around}{s:Shared}{l m:Addr}{o u:Obj}{xs ys:Array Value}{n k:Nat}{as bs:List Addr},
   (∀ {y:Ky}{A:Around}{s:Shared}{us vs:List Value}{as bs:List Addr},Ky.ok.isRow x=true->Ky.shp x y=true->Ky.ok x=true->Ky.ok y=true->ReadsAll s.heap us x.row as->ReadsAll s.heap vs y.row bs->A.units+x.dep<cLine->LexAt A s (cop g) us vs (gl g x y)/\us.length=vs.length) ->
   Ky.ok.isRow x=true->Ky.shp x y=true->Ky.ok x=true->Ky.ok y=true->s.heap.get? l=some o->o.cls=.type "tuple"->o.data=.seq xs n->ReadsAll s.heap xs.toList x.row as ->
   s.heap.get? m=some u->u.cls=.type "tuple"->u.data=.seq ys k->ReadsAll s.heap ys.toList y.row bs->A.units+x.dep+1<cLine->cH A s (cop g) (.ref l) (.ref m) (gl g x y):=by
  intro x y A s l m o u xs ys n k as bs lp hr hs ox oy a1 a2 a3 a4 b1 b2 b3 b4 hu
  obtain ⟨L,hl⟩:=lp (A:=A.in1) hr hs ox oy a4 b4 (by show A.units+1+x.dep<cLine;lia)
  exact vC a1 a2 a3 b1 b2 b3 (by lia) L (by simpa using hl)
 intro x
 induction x with
 |i a =>
  refine ⟨fun {y A s a' b' as bs} hs ox oy ra rb hu=>?_,fun {y A s us vs as bs} h=>by cases h⟩
  cases y<;>first|cases hs|skip
  obtain ⟨t,rfl⟩:=bQ ra
  obtain ⟨u,rfl⟩:=bQ rb
  exact x4 _ _ _ _
 |s a =>
  refine ⟨fun {y A s a' b' as bs} hs ox oy ra rb hu=>?_,fun {y A s us vs as bs} h=>by cases h⟩
  cases y<;>first|cases hs|skip
  obtain ⟨t,rfl⟩:=bR ra
  obtain ⟨u,rfl⟩:=bR rb
  exact x5 _ _ _ _
 |tt a =>
  refine ⟨fun {y A s a' b' as bs} hs ox oy ra rb hu=>?_,fun {y A s us vs as bs} h=>by cases h⟩
  cases y<;>first|cases hs|skip
  obtain rfl:=ca ra
  obtain rfl:=ca rb
  exact wH _ _
 |nil =>
  have lp:∀ {y:Ky}{A:Around}{s:Shared}{us vs:List Value}{as bs:List Addr},Ky.ok.isRow .nil=true->Ky.shp .nil y=true->Ky.ok .nil=true->Ky.ok y=true->ReadsAll s.heap us Ky.nil.row as->ReadsAll s.heap vs y.row bs->A.units+Ky.nil.dep<cLine ->
    LexAt A s (cop g) us vs (gl g .nil y)/\us.length=vs.length:=by
   intro y A s us vs as bs _ hs _ _ ra rb _
   cases y<;>first|cases hs|skip
   simp only [Ky.row] at ra rb
   cases ra;cases rb
   exact ⟨by cases g<;>exact .nil,rfl⟩
  refine ⟨fun {y A s a' b' as bs} hs ox oy ra rb hu=>?_,lp⟩
  cases y<;>first|cases hs|skip
  obtain ⟨_,_,_,_,rfl,a1,a2,a3,a4⟩:=bc ra
  obtain ⟨_,_,_,_,rfl,b1,b2,b3,b4⟩:=bc rb
  exact tup lp rfl rfl rfl rfl a1 a2 a3 a4 b1 b2 b3 b4 hu
 |cons h t ih it =>
  have lp:∀ {y:Ky}{A:Around}{s:Shared}{us vs:List Value}{as bs:List Addr},Ky.ok.isRow (.cons h t)=true->Ky.shp (.cons h t) y=true->Ky.ok (.cons h t)=true->Ky.ok y=true->ReadsAll s.heap us (Ky.cons h t).row as->ReadsAll s.heap vs y.row bs->A.units+(Ky.cons h t).dep<cLine ->
    LexAt A s (cop g) us vs (gl g (.cons h t) y)/\us.length=vs.length:=by
   intro y A s us vs as bs _ hs ox oy ra rb hu
   cases y with
   |cons h' t' =>
    simp only [Ky.bP,NA] at hs
    simp only [Ky.dU,NA] at ox oy
    simp only [Ky.iB] at hu
    simp only [Ky.row] at ra rb
    ·obtain ⟨_,_,_,_,rfl,r,rs⟩:=dm ra
     ·obtain ⟨_,_,_,_,rfl,r',rs'⟩:=dm rb
      have eq:=nh (A:=A) hs.1 ox.1.1 oy.1.1 r r' (by lia)
      rw [z5]
      by_cases e:h=h'
      ·rw [NK e] at eq
       rw [NC e]
       obtain ⟨L,l⟩:=it.2 (A:=A) ox.2 hs.2 ox.1.2 oy.1.2 rs rs' (by lia)
       exact ⟨.same eq L,by simp [l]⟩
      ·rw [NS e] at eq
       rw [NB e]
       refine ⟨.diff eq (ih.1 hs.1 ox.1.1 oy.1.1 r r' (by lia)),?_⟩
       have l1:=ReadsAll.length _ _ _ rs
       have l2:=ReadsAll.length _ _ _ rs'
       have rowlen:∀ {a b:Ky},Ky.shp a b=true->a.row.length=b.row.length:=by
        intro a
        induction a with
        |cons u v iu iv =>
         intro b e
         cases b with
         |cons u' v' =>
          simp only [Ky.bP,NA] at e
          simp only [Ky.row,NU,iv e.2]
         |_=>cases e
        |_=>intro b e;cases b<;>first|rfl|cases e
       simp [l1,l2,rowlen hs.2]
   |_=>cases hs
  refine ⟨fun {y A s a' b' as bs} hs ox oy ra rb hu=>?_,lp⟩
  cases y with
  |cons h' t' =>
   obtain ⟨_,_,_,_,rfl,a1,a2,a3,a4⟩:=bc ra
   obtain ⟨_,_,_,_,rfl,b1,b2,b3,b4⟩:=bc rb
   exact tup lp rfl hs ox oy a1 a2 a3 a4 b1 b2 b3 b4 hu
  |_=>cases hs
def KR (s:Shared) (v:Value) (k:Ky):Prop:=Ky.ok k=true/\∃ as,Reads s.heap v k.dat as
theorem KR.inj {s:Shared}{v:Value}{k k':Ky}(h:KR s v k) (h':KR s v k'):k=k':=by
 obtain ⟨o,as,r⟩:=h
 obtain ⟨o',as',r'⟩:=h'
 exact (nX o o').1 r r'
open Classical in
def bu (s:Shared) (v:Value):Ky:=if h:∃ k,KR s v k then h.choose else .nil
theorem j4 {s:Shared}{v:Value}{k:Ky}(h:KR s v k):bu s v=k:=by
 unfold bu
 have e:∃ k,KR s v k:=⟨k,h⟩
 rw [dif_pos e]
 exact e.choose_spec.inj h
def sx (A:Around) (s:Shared) (one:Bool) (x y:Value) (c:Bool):Prop :=
 ∀ (prog:Program) (w:World) (E:Value->Shared->Prop) (Q:Bool->Shared->Prop),Q c s->wpAny (model prog w) A (oneLt' one x y) Q E s
theorem vD {prog:Program}{w:World}{A:Around}{E:Value->Shared->Prop}{s:Shared}{a b:Bool}{Q:Bool->Shared->Prop}(h:Q (!a&&b) s):wpAny (model prog w) A (oneLt' true (.bool a) (.bool b)) Q E s:=by
 rw [oneLt'_eq]
 simp only [OV]
 refine Ny (wpAny_cRoomFor_byValue rfl ?_)
 refine Ny (wpAny_callSpecialIfBound?_slot (typeIs_bool' s a) F.slot_bool_lt (call_gives F.slot_bool_lt (typeIs_bool' s a) F.entry_int_lt (F.args_int_lt_2 _ _) (gives_int_lt_bools a b) ?_))
 have e:((λx1 x2:Int=>decide (x1<x2)) (if a=true then 1 else 0) (if b=true then 1 else 0))=(!a&&b):=by cases a<;>cases b<;>rfl
 show wpAny _ _ _ _ _ _
 rw [e]
 exact OL h
theorem cH.one {A:Around}{s:Shared}{x y:Value}{c:Bool}(h:cH A s .Lt x y c):sx A s false x y c:=λprog w E Q q=>by
 rw [oneLt'_eq]
 simp only [Oe,Pa]
 exact Ny (h prog w _ _ (OL q))
inductive LexO (A:Around) (s:Shared):Bool->List Value->List Value->Bool->Prop
 |nil {one}:LexO A s one [] [] false
 |same {one x y xs ys c}:EqAt A s x y true->LexO A s false xs ys c->LexO A s one (x::xs) (y::ys) c
 |diff {one x y xs ys c}:EqAt A s x y false->sx A s one x y c->LexO A s one (x::xs) (y::ys) c
theorem LexAt.o {A:Around}{s:Shared}{xs ys:List Value}{c:Bool}(h:LexAt A s .Lt xs ys c):LexO A s false xs ys c:=by
 induction h with
 |nil=>exact .nil
 |same e _ ih=>exact .same e ih
 |diff e c=>exact .diff e c.one
theorem uv (fb:Bool) (x y:Value):keyLt' (tuples' fb) x y=(do
  let xs <- Builtin.List.listItems x;let ys <- Builtin.List.listItems y
  for ((p,q),i) in (xs.toList.zip ys.toList).zipIdx do
   if !(<- eqBool p q) then return <- oneLt' (fb&&i==0) p q
  return xs.size<ys.size):=rfl
theorem z7 {A:Around}{s:Shared}{fb:Bool}{l m:Addr}{o u:Obj}{xs ys:Array Value}{n k:Nat}{c:Bool}(h1:s.heap.get? l=some o) (d1:o.data=.seq xs n) (h2:s.heap.get? m=some u) (d2:u.data=.seq ys k)
  (L:LexO A s fb xs.toList ys.toList c) (hs:xs.size=ys.size){prog:Program}{w:World}{E:Value->Shared->Prop}{Q:Bool->Shared->Prop}(q:Q c s):wpAny (model prog w) A (keyLt' (tuples' fb) (.ref l) (.ref m)) Q E s:=by
 rw [uv]
 refine Ny (RH h1 d1 (Ny (RH h2 d2 (Ny ?_))))
 refine wpAny_forIn_list _ (λrest r z=>r.1=none/\z=s/\∃ Kj JT i one,rest=(Kj.zip JT).zipIdx i/\(fb&&i==0)=one/\LexO A s one Kj JT c) _ ?_ ?_ _ _ ⟨rfl,rfl,xs.toList,ys.toList,0,fb,rfl,by simp,L⟩
 ·rintro ⟨⟨x,y⟩,i'⟩ rest r z ⟨hr,rfl,Kj,JT,i,one,hz,ho,L'⟩
  cases L' with
  |nil=>simp at hz
  |same e L2 =>
   simp only [QR,Sx,Pc,P7] at hz
   obtain ⟨⟨⟨rfl,rfl⟩,rfl⟩,rfl⟩:=hz
   refine Ny (e prog w _ _ ?_)
   exact NP ⟨rfl,rfl,_,_,_,false,rfl,by simp,L2⟩
  |diff e cm =>
   simp only [QR,Sx,Pc,P7] at hz
   obtain ⟨⟨⟨rfl,rfl⟩,rfl⟩,rfl⟩:=hz
   refine Ny (e prog w _ _ ?_)
   rw [<- ho] at cm
   exact Ny (cm prog w _ _ (NP (NP q)))
 ·rintro ⟨r1,r2⟩ z ⟨hr,rfl,Kj,JT,i,one,hz,ho,L'⟩
  simp only at hr
  subst hr
  have hc:c=false:=by
   cases L' with
   |nil=>rfl
   |same _ _=>simp at hz
   |diff _ _=>simp at hz
  subst hc
  refine NP ?_
  rw [hs]
  simpa using q
noncomputable def tyK:Ky->String
 |.i _=>"int"
 |.s _=>"str"
 |.tt _=>"bool"
 |_=>"tuple"
noncomputable def dq:Ky->SortKind
 |.cons h _=>tuples' (Value.type (tyK h) != Value.type "tuple")
 |_=>oneType'
noncomputable def fit:Ky->Bool
 |.i _=>true
 |.s _=>true
 |.cons h _=>match h with|.nil=>false|_=>true
 |_=>false
theorem EY {x y:Ky}{A:Around}{s:Shared}{a b:Value}(hx:KR s a x) (hy:KR s b y) (hs:Ky.shp x y=true) (hf:fit x=true) (hu:A.units+x.dep+1<cLine){prog:Program}{w:World}{E:Value->Shared->Prop}{Q:Bool->Shared->Prop}
  (q:Q (Ky.lt x y) s):wpAny (model prog w) A (keyLt' (dq x) a b) Q E s:=by
 obtain ⟨ox,as,ra⟩:=hx
 obtain ⟨oy,bs,rb⟩:=hy
 cases x with
 |i n =>
  cases y<;>first|cases hs|skip
  obtain ⟨t,rfl⟩:=bQ ra
  obtain ⟨u,rfl⟩:=bQ rb
  exact oneLt_int q
 |s n =>
  cases y<;>first|cases hs|skip
  obtain ⟨t,rfl⟩:=bR ra
  obtain ⟨u,rfl⟩:=bR rb
  exact oneLt_str q
 |tt v=>cases hf
 |nil=>cases hf
 |cons h t =>
  cases y with
  |cons h' t' =>
   ·obtain ⟨_,_,_,_,rfl,a1,a2,a3,a4⟩:=bc ra
    ·obtain ⟨_,_,_,_,rfl,b1,b2,b3,b4⟩:=bc rb
     have L:=(g9 .lt (.cons h t)).2 (A:=A) rfl hs ox oy a4 b4 (by lia)
     refine z7 a1 a3 b1 b3 ?_ (by simpa using L.2) q
     simp only [Ky.bP,NA] at hs
     simp only [Ky.dU,NA] at ox oy
     simp only [Ky.iB] at hu
     clear L
     generalize Array.toList _=us0 at a4 ⊢
     generalize Array.toList _=vs0 at b4 ⊢
     ·obtain ⟨_,_,_,_,rfl,r,rs⟩:=dm a4
      ·obtain ⟨_,_,_,_,rfl,r',rs'⟩:=dm b4
       have eq:=nh (A:=A) hs.1 ox.1.1 oy.1.1 r r' (by lia)
       have rest:=(g9 .lt t).2 (A:=A) ox.2 hs.2 ox.1.2 oy.1.2 rs rs' (by lia)
       show LexO A s _ _ _ (Ky.lt (.cons h t) (.cons h' t'))
       simp only [Ky.bW]
       by_cases e:h=h'
       ·rw [NK e] at eq
        rw [NC e]
        exact .same eq rest.1.o
       ·rw [NS e] at eq
        rw [NB e]
        refine .diff eq ?_
        cases h with
        |i n =>
         cases h'<;>first|cases hs.1|skip
         obtain ⟨t,rfl⟩:=bQ r
         obtain ⟨u,rfl⟩:=bQ r'
         exact λprog w E Q q=>oneLt_int q
        |s n =>
         cases h'<;>first|cases hs.1|skip
         obtain ⟨t,rfl⟩:=bR r
         obtain ⟨u,rfl⟩:=bR r'
         exact λprog w E Q q=>oneLt_str q
        |tt v =>
         cases h'<;>first|cases hs.1|skip
         obtain rfl:=ca r
         obtain rfl:=ca r'
         exact λprog w E Q q=>vD q
        |nil=>cases hf
        |cons h2 t2=>exact cH.one ((g9 .lt (.cons h2 t2)).1 (A:=A) hs.1 ox.1.1 oy.1.1 r r' (by lia))
  |_=>cases hs
end S6
namespace S6
open PySem PyProof.Rows PySem.SeqAt
theorem Ky.shp_trans:∀ {a b c:Ky},Ky.shp a b=true->Ky.shp b c=true->Ky.shp a c=true:=by
 intro a
 induction a with
 |cons u v iu iv =>
  intro b c e f
  cases b<;>first|cases e|skip
  cases c<;>first|cases f|skip
  simp only [Ky.bP,NA] at *
  exact ⟨iu e.1 f.1,iv e.2 f.2⟩
 |_ =>
     intro b c e f;cases b<;>first|cases e|skip
     all_goals (cases c<;>first|cases f|skip)
     all_goals rfl
theorem Ky.shp_dep:∀ {a b:Ky},Ky.shp a b=true->a.dep=b.dep:=by
 intro a
 induction a with
 |cons u v iu iv =>
  intro b e
  cases b<;>first|cases e|skip
  simp only [Ky.bP,NA] at e
  simp only [Ky.iB,iu e.1,iv e.2]
 |_=>intro b e;cases b<;>first|rfl|cases e
theorem qO {a b:Ky}(e:Ky.shp a b=true):tyK b=tyK a:=by
 cases a<;>cases b<;>first|rfl|cases e
theorem CL {a b:Ky}(e:Ky.shp a b=true):dq b=dq a:=by
 cases a with
 |cons h t =>
  cases b with
  |cons h' t' =>
   simp only [Ky.bP,NA] at e
   simp only [dq,qO e.1]
  |_=>cases e
 |_=>cases b<;>first|rfl|cases e
theorem z8 {a b:Ky}(e:Ky.shp a b=true) (hf:fit a=true):fit b=true:=by
 cases a with
 |cons h t =>
  cases b with
  |cons h' t' =>
   simp only [Ky.bP,NA] at e
   have e1:=e.1
   cases h<;>cases h'<;>first|rfl|(cases hf;done)|(cases e1;done)
  |_=>cases e
 |_=>cases b<;>first|rfl|(cases hf;done)|(cases e;done)
section
variable {M:Model}{A:Around}{E:Value->Shared->Prop}{s:Shared}
theorem hE {α β:Type}{f:α->Sem β}{g:α->β}:∀ {l:List α}{Q:List β->Shared->Prop},(∀ v∈l,∀ Q':β->Shared->Prop,Q' (g v) s->wpAny M A (f v) Q' E s)->Q (l.map g) s->wpAny M A (l.mapM f) Q E s
 |[],Q,_,q=>by rw [List.mapM_nil];exact NP q
 |v::l,Q,h,q=>by
  rw [List.mapM_cons]
  refine Ny (h v (NM ..) _ (Ny (hE (λu hu=>h u (NQ _ hu)) (NP ?_))))
  exact q
theorem KR.ty {v:Value}{k:Ky}(h:KR s v k):s.TypeIs v (tyK k):=by
 obtain ⟨_,as,r⟩:=h
 cases k<;>simp only [Ky.dat] at r<;>cases r
 ·exact typeIs_int s _ _
 ·exact Qq s _ _
 ·exact PySem.typeIs_bool s _
 ·exact ⟨_,‹_›,‹_›⟩
 ·exact ⟨_,‹_›,‹_›⟩
theorem nA {l:List Value}{T:String}{Q:Option Value->Shared->Prop}(h0:l≠[]) (h:∀ u∈l,s.TypeIs u T) (q:Q (some (.type T)) s):wpAny M A (oneTypeOnly' l.toArray) Q E s:=by
 rw [oneTypeOnly'_eq,List.mapM_toArray,map_eq_pure_bind]
 refine Ny (Ny (hE (g:=λ_=>Value.type T) (λu hu Q' q'=>wpAny_typeOf (h u hu) q') (NP ?_)))
 cases l with
 |nil=>exact (h0 rfl).elim
 |cons v l =>
  have e0:(List.map (λ_:Value=>Value.type T) (v::l)).toArray[0]?=some (Value.type T):=by simp
  have ea:((List.map (λ_:Value=>Value.type T) (v::l)).toArray.all λx=>x==Value.type T)=true:=by
   simp only [List.all_toArray,List.all_map,Oq]
   intro _ _
   show (Value.type T==Value.type T)=true
   exact Qs _
  rw [e0]
  simp only [ea,OV]
  exact NP q
theorem mV (v:Value):firstOfTuple' v=(do
  if (<- typeOf v) != .type "tuple" then return none
  return (<- Builtin.List.listItems v)[0]?):=rfl
noncomputable def hd1 (s:Shared):Value->Option Value
 |.ref a=>match s.heap.get? a with
  |some o=>match o.data with
   |.seq xs _=>xs[0]?
   |_=>none
  |none=>none
 |_=>none
theorem vE {vs:List Value}{k0:Ky}{Q:SortKind->Shared->Prop}(h0:vs≠[]) (hf:fit k0=true) (hk:∀ v∈vs,∃ k,KR s v k/\Ky.shp k0 k=true) (q:Q (dq k0) s):wpAny M A (keyKind' vs.toArray) Q E s:=by
 rw [keyKind'_eq,List.mapM_toArray,map_eq_pure_bind]
 have flat:∀ T:String,(Value.type T != Value.type "tuple")=true->(∀ v∈vs,s.TypeIs v T)->dq k0=oneType'->wpAny M A (do
   let firsts <- vs.mapM firstOfTuple' >>= λx=>pure x.toArray
   if firsts.all (·.isSome) then
    rule "list.sort.keys-are-tuples"
    return tuples' ((<- oneTypeOnly' (firsts.filterMap id)).any (· != .type "tuple"))
   if (firsts[0]?.bind id).isSome then return general'
   return if (<- oneTypeOnly' vs.toArray).isSome then oneType' else general') Q E s:=by
  intro T hT ht hkd
  refine Ny (Ny (hE (g:=λ_=>none) (λv hv Q' q'=>?_) (NP ?_)))
  ·rw [mV]
   refine Ny (wpAny_typeOf (ht v hv) ?_)
   rw [NC hT]
   exact NP q'
  ·cases vs with
   |nil=>exact (h0 rfl).elim
   |cons v l =>
    rw [NB (by simp),NB (by simp)]
    refine Ny (nA (by simp) ht ?_)
    rw [hkd] at q
    exact NP q
 cases k0 with
 |tt v=>cases hf
 |nil=>cases hf
 |i n =>
  refine flat "int" (by decide) (λv hv=>?_) rfl
  obtain ⟨k,r,e⟩:=hk v hv
  cases k<;>first|exact r.ty|cases e
 |s n =>
  refine flat "str" (by decide) (λv hv=>?_) rfl
  obtain ⟨k,r,e⟩:=hk v hv
  cases k<;>first|exact r.ty|cases e
 |cons h t =>
  have each:∀ v∈vs,∃ a o xs n u,v=.ref a/\s.heap.get? a=some o/\o.cls=.type "tuple" /\ o.data=.seq xs n/\xs[0]?=some u/\s.TypeIs u (tyK h):=by
   intro v hv
   obtain ⟨k,⟨ok,as,r⟩,e⟩:=hk v hv
   cases k with
   |cons h' t' =>
    simp only [Ky.dat] at r
    cases r with
    |tuple a1 a2 a3 a4 =>
     rename_i xs n
     generalize hl:xs.toList=l at a4
     cases a4 with
     |cons r rs =>
      rename_i u us _ _
      simp only [Ky.dU,NA] at ok
      simp only [Ky.bP,NA] at e
      have ty:s.TypeIs u (tyK h'):=KR.ty ⟨ok.1.1,_,r⟩
      have et:tyK h'=tyK h:=qO e.1
      refine ⟨_,_,xs,_,u,rfl,a1,a2,a3,?_,et ▸ ty⟩
      rw [<- OR,hl];rfl
   |_=>cases e
  have gh:∀ v∈vs,∃ u,hd1 s v=some u/\s.TypeIs u (tyK h):=by
   intro v hv
   obtain ⟨a,o,xs,n,u,rfl,h1,_,h3,h4,h5⟩:=each v hv
   exact ⟨u,by simp only [hd1,h1,h3,h4],h5⟩
  refine Ny (Ny (hE (g:=hd1 s) (λv hv Q' q'=>?_) (NP ?_)))
  ·obtain ⟨a,o,xs,n,u,rfl,h1,h2,h3,h4,h5⟩:=each v hv
   rw [mV]
   refine Ny (wpAny_typeOf (T:="tuple") ⟨o,h1,h2⟩ ?_)
   rw [NB (by decide)]
   refine Ny (RH h1 h3 (NP ?_))
   simpa only [hd1,h1,h3] using q'
  ·have all:(List.map (hd1 s) vs).toArray.all (·.isSome)=true:=by
    simp only [List.all_toArray,List.all_map,Oq]
    intro v hv
    obtain ⟨u,e,_⟩:=gh v hv
    show (hd1 s v).isSome=true
    rw [e];rfl
   rw [NC all]
   refine Ny (PX ?_)
   have fm:(List.map (hd1 s) vs).toArray.filterMap id=((List.map (hd1 s) vs).filterMap id).toArray:=by simp
   rw [fm]
   refine Ny (nA (T:=tyK h) ?_ (λu hu=>?_) (NP q))
   ·cases vs with
    |nil=>exact (h0 rfl).elim
    |cons v l =>
     obtain ⟨u,e,_⟩:=gh v (NM ..)
     simp [e]
   ·rw [RZ] at hu
    obtain ⟨x,hx,ex⟩:=hu
    rw [NI] at hx
    obtain ⟨v,hv,rfl⟩:=hx
    obtain ⟨u',e,ht⟩:=gh v hv
    rw [show id (hd1 s v)=hd1 s v from rfl,e] at ex
    cases ex;exact ht
end
end S6
namespace S6
open PySem PyProof.Rows
def cc:Bool->Keyed->Array Keyed->Nat->Nat->Nat->StateT SortSt Sem (Option Nat):=sortPriv% PySem.Builtin.gallop
def dE (left:Bool) (HM:Keyed) (arr:Array Keyed) (base i:Nat):StateT SortSt Sem (Option Bool):=do
 let x <- elem' arr (base+i)
 if left then lt' x HM else return (<- lt' HM x).map (!·)
theorem vF (left:Bool) (HM:Keyed) (arr:Array Keyed) (base n H0:Nat):cc left HM arr base n H0=(do
 let mut lastofs:=0
 let mut ofs:=1
 let mut lo:=0
 let mut hi:=0
 let some right <- dE left HM arr base H0|return none
 if right then
  let JU:=n - H0
  for _ in [0:n] do
   if ofs≥JU then break
   let some more <- dE left HM arr base (H0+ofs)|return none
   if !more then break
   lastofs:=ofs
   ofs:=2 * ofs+1
  lo:=H0+lastofs+1
  hi:=H0+min ofs JU
 else
  let JU:=H0+1
  for _ in [0:n] do
   if ofs≥JU then break
   let some KA <- dE left HM arr base (H0 - ofs)|return none
   if KA then break
   lastofs:=ofs
   ofs:=2 * ofs+1
  lo:=H0+1 - min ofs JU
  hi:=H0 - lastofs
 for _ in [0:n] do
  if lo≥hi then break
  let m:=lo+(hi - lo) / 2
  let some more <- dE left HM arr base m|return none
  if more then lo:=m+1 else hi:=m
 return some hi):=rfl
section
variable {prog:Program}{w:World}{A:Around}{E:Value->Shared->Prop}{s:Shared}{a₀:Array Keyed}{kd:SortKind}{ρ:Keyed->Nat}{st:SortSt}
theorem gk {x y:Keyed}{Q:Option Bool->SortSt->Prop}(C:Cm prog w A s kd a₀ ρ) (hk:kindOf st=kd) (hx:x∈a₀.toList) (hy:y∈a₀.toList) (h:Q (some (decide (ρ x<ρ y))) st) :
  wpS (model prog w) A E s (lt' x y) Q st:=by
 rw [lt'_eq]
 refine NH (Q1 (NH ?_))
 rw [hk]
 exact wpS_lift (wpAny_attempt (C x y hx hy _ _ ⟨rfl,NO h⟩))
def Bd (left:Bool) (ρ:Keyed->Nat) (HM:Keyed) (arr:Array Keyed) (base i:Nat):Bool:=if left then decide (rk ρ arr (base+i)<ρ HM) else decide (rk ρ arr (base+i)<=ρ HM)
theorem gO {left:Bool}{HM:Keyed}{arr:Array Keyed}{base i:Nat}{Q:Option Bool->SortSt->Prop}(C:Cm prog w A s kd a₀ ρ) (hk:kindOf st=kd) (IK:HM∈a₀.toList) (hm:∀ p∈arr.toList,p∈a₀.toList) (hi:base+i<arr.size)
  (h:Q (some (Bd left ρ HM arr base i)) st):wpS (model prog w) A E s (dE left HM arr base i) Q st:=by
 have e:arr[base+i]?=some arr[base+i]:=Pf arr (base+i) hi
 have mp:arr[base+i]∈a₀.toList:=hm _ (by simp)
 unfold dE
 rw [elem'_eq,e]
 refine NH (NO ?_)
 have er:rk ρ arr (base+i)=ρ arr[base+i]:=by unfold rk;rw [e];rfl
 unfold Bd at h
 rw [er] at h
 cases left with
 |true=>exact gk C hk mp IK h
 |false =>
  refine NH (gk C hk IK mp (NO ?_))
  have:(some (decide (ρ HM<ρ arr[base+i]))).map (!·)=some (decide (ρ arr[base+i]<=ρ HM)):=by
   simp only [PP,O7]
   rw [N7];simp
  rw [this]
  exact h
theorem Bd.anti {left:Bool}{HM:Keyed}{arr:Array Keyed}{base n i j:Nat}(up:∀ i j,i<=j->j<n->rk ρ arr (base+i)<=rk ρ arr (base+j)) (ij:i<=j) (jn:j<n) (h:Bd left ρ HM arr base j=true):Bd left ρ HM arr base i=true:=by
 have:=up i j ij jn
 unfold Bd at h ⊢
 cases left<;>simp only [OV,Pa,Oe,ND] at h ⊢<;>lia
theorem oI {left:Bool}{HM:Keyed}{arr:Array Keyed}{base n lo hi:Nat}{Q:Option Nat->SortSt->Prop}(C:Cm prog w A s kd a₀ ρ) (hk:kindOf st=kd) (IK:HM∈a₀.toList) (hm:∀ p∈arr.toList,p∈a₀.toList) (hn:base+n<=arr.size)
  (up:∀ i j,i<=j->j<n->rk ρ arr (base+i)<=rk ρ arr (base+j)) (hl:lo<=hi) (hh:hi<=n) (h1:∀ i,i<lo->Bd left ρ HM arr base i=true) (h2:∀ i,hi<=i->i<n->Bd left ρ HM arr base i=false)
  (h:∀ k,k<=n->(∀ i,i<k->Bd left ρ HM arr base i=true)->(∀ i,k<=i->i<n->Bd left ρ HM arr base i=false)->Q (some k) st) :
  wpS (model prog w) A E s (do
   let mut lo:=lo
   let mut hi:=hi
   for _ in [0:n] do
    if lo≥hi then break
    let m:=lo+(hi - lo) / 2
    let some more <- dE left HM arr base m|return none
    if more then lo:=m+1 else hi:=m
   return some hi) Q st:=by
 refine NH (Qe (O2 (λt c z=>z=st/\∃ l r,c=(none,l,r)/\l<=r/\r<=n/\r+t<=l+n/\(∀ i,i<l->Bd left ρ HM arr base i=true)/\(∀ i,r<=i->i<n->Bd left ρ HM arr base i=false))
  (Q:=λc z=>z=st/\∃ l r,c=(none,l,r)/\l=r/\r<=n/\(∀ i,i<l->Bd left ρ HM arr base i=true)/\(∀ i,r<=i->i<n->Bd left ρ HM arr base i=false)) ?_ ?_ ⟨rfl,lo,hi,rfl,hl,hh,by lia,h1,h2⟩) ?_)
 ·rintro t c z t1 t2 ⟨rfl,l,r,rfl,lr,rn,lt,b1,b2⟩
  dsimp only
  split
  ·exact NO ⟨rfl,l,r,rfl,by lia,rn,b1,b2⟩
  ·refine NH (gO C hk IK hm (by lia) ?_)
   dsimp only
   cases g:Bd left ρ HM arr base (l+(r - l) / 2) with
   |true=>exact NO ⟨rfl,_,_,rfl,by lia,rn,by lia,λi i1=>Bd.anti up (by lia) (by lia) g,b2⟩
   |false =>
    refine NO ⟨rfl,_,_,rfl,by lia,by lia,by lia,b1,λi i1 i2=>?_⟩
    cases g2:Bd left ρ HM arr base i with
    |false=>rfl
    |true=>rw [Bd.anti up i1 i2 g2] at g;cases g
 ·rintro c z ⟨rfl,l,r,rfl,lr,rn,lt,b1,b2⟩
  exact ⟨rfl,l,r,rfl,by lia,rn,b1,b2⟩
 ·rintro c z ⟨rfl,l,r,rfl,rfl,rn,b1,b2⟩
  exact NO (h l rn b1 b2)
theorem j5 {left:Bool}{HM:Keyed}{arr:Array Keyed}{base n H0:Nat}{Q:Option Nat->SortSt->Prop}(C:Cm prog w A s kd a₀ ρ) (hk:kindOf st=kd) (IK:HM∈a₀.toList) (hm:∀ p∈arr.toList,p∈a₀.toList) (hn:base+n<=arr.size) (hh:H0<n)
  (up:∀ i j,i<=j->j<n->rk ρ arr (base+i)<=rk ρ arr (base+j))
  (h:∀ k,k<=n->(∀ i,i<k->Bd left ρ HM arr base i=true)->(∀ i,k<=i->i<n->Bd left ρ HM arr base i=false)->Q (some k) st) :
  wpS (model prog w) A E s (cc left HM arr base n H0) Q st:=by
 rw [vF]
 dsimp only
 refine NH (gO C hk IK hm (by lia) ?_)
 dsimp only
 cases g:Bd left ρ HM arr base H0 with
 |true =>
  simp only [OV]
  refine NH (Qe (O2 (λt c z=>z=st/\∃ l o,c=(none,l,o)/\l<o/\t+1<=o/\H0+l<n/\Bd left ρ HM arr base (H0+l)=true)
   (Q:=λc z=>z=st/\∃ l o,c=(none,l,o)/\l<o/\H0+l<n/\Bd left ρ HM arr base (H0+l)=true/\(n - H0<=o\/Bd left ρ HM arr base (H0+o)=false)) ?_ ?_ ⟨rfl,0,1,rfl,by lia,by lia,by lia,g⟩) ?_)
  ·rintro t c z t1 t2 ⟨rfl,l,o,rfl,lo,to,ln,bl⟩
   dsimp only
   split
   ·exact NO ⟨rfl,l,o,rfl,lo,ln,bl,.inl (by lia)⟩
   ·refine NH (gO C hk IK hm (by lia) ?_)
    dsimp only
    cases g2:Bd left ρ HM arr base (H0+o) with
    |true=>exact NO ⟨rfl,_,_,rfl,by lia,by lia,by lia,g2⟩
    |false=>exact NO ⟨rfl,l,o,rfl,lo,ln,bl,.inr g2⟩
  ·rintro c z ⟨rfl,l,o,rfl,lo,to,ln,bl⟩
   exact ⟨rfl,l,o,rfl,lo,ln,bl,.inl (by lia)⟩
  ·rintro c z ⟨rfl,l,o,rfl,lo,ln,bl,he⟩
   dsimp only
   refine oI C hk IK hm hn up (by lia) (by lia) (λi i1=>Bd.anti up (by lia) ln bl) (λi i1 i2=>?_) h
   rcases he with he|he
   ·lia
   ·cases g2:Bd left ρ HM arr base i with
    |false=>rfl
    |true=>rw [Bd.anti up (by lia) i2 g2] at he;cases he
 |false =>
  simp only [Oe,Pa]
  refine NH (Qe (O2 (λt c z=>z=st/\∃ l o,c=(none,l,o)/\l<o/\t+1<=o/\l<=H0/\Bd left ρ HM arr base (H0 - l)=false)
   (Q:=λc z=>z=st/\∃ l o,c=(none,l,o)/\l<o/\l<=H0/\Bd left ρ HM arr base (H0 - l)=false/\(H0+1<=o\/Bd left ρ HM arr base (H0 - o)=true)) ?_ ?_ ⟨rfl,0,1,rfl,by lia,by lia,by lia,g⟩) ?_)
  ·rintro t c z t1 t2 ⟨rfl,l,o,rfl,lo,to,ln,bl⟩
   dsimp only
   split
   ·exact NO ⟨rfl,l,o,rfl,lo,ln,bl,.inl (by lia)⟩
   ·refine NH (gO C hk IK hm (by lia) ?_)
    dsimp only
    cases g2:Bd left ρ HM arr base (H0 - o) with
    |false=>exact NO ⟨rfl,_,_,rfl,by lia,by lia,by lia,g2⟩
    |true=>exact NO ⟨rfl,l,o,rfl,lo,ln,bl,.inr g2⟩
  ·rintro c z ⟨rfl,l,o,rfl,lo,to,ln,bl⟩
   exact ⟨rfl,l,o,rfl,lo,ln,bl,.inl (by lia)⟩
  ·rintro c z ⟨rfl,l,o,rfl,lo,ln,bl,he⟩
   dsimp only
   refine oI C hk IK hm hn up (by lia) (by lia) (λi i1=>?_) (λi i1 i2=>?_) h
   ·rcases he with he|he
    ·lia
    ·by_cases q:H0+1<=o
     ·lia
     ·exact Bd.anti up (by lia) (by lia) he
   ·cases g2:Bd left ρ HM arr base i with
    |false=>rfl
    |true=>rw [Bd.anti up i1 i2 g2] at bl;cases bl
end
end S6
namespace S6
open PySem PyProof.Rows
def j6:Array Keyed->Array Keyed->StateT SortSt Sem (Array Keyed):=sortPriv% PySem.Builtin.mergeLo
abbrev fg (g:Nat) (s:SortSt):SortSt:=SortSt.mk' (kindOf s) (arrOf s) (pendingOf s) g (failedOf s)
abbrev MS:=StateT SortSt Sem
noncomputable abbrev R7:=Option (Array Keyed)×Array Keyed×Nat×Nat×Nat×Nat×Nat
noncomputable def lo4 (a b out:Array Keyed) (ia ib g k l:Nat):MS (ForInStep R7):=do
 let x <- elem' a ia
 if ia+1+1==a.size then pure (.done (some (out.push x++b.extract ib b.size++a.extract (ia+1) a.size),out.push x,ia+1,ib,g,k,l))
 else if decide (k<7)&&decide (l<7) then pure (.done (none,out.push x,ia+1,ib,g,k,l))
 else pure (.yield (none,out.push x,ia+1,ib,g,k,l))
noncomputable def lo3 (a b out:Array Keyed) (ia ib g k q:Nat):MS (ForInStep R7):=do
 let some l <- cc true (<- elem' a ia) b ib (b.size - ib) 0|pure (.done (some (out++a.extract ia a.size++b.extract ib b.size),out,ia,ib,g,k,q))
 if l>0 then
  if ib+l==b.size then pure (.done (some (out++b.extract ib (ib+l)++a.extract ia a.size++b.extract (ib+l) b.size),out++b.extract ib (ib+l),ia,ib+l,g,k,l))
  else lo4 a b (out++b.extract ib (ib+l)) ia (ib+l) g k l
 else lo4 a b out ia ib g k l
noncomputable def lo2 (a b out:Array Keyed) (ia ib g k q:Nat):MS (ForInStep R7):=do
 let x <- elem' b ib
 if ib+1==b.size then pure (.done (some (out.push x++a.extract ia a.size++b.extract (ib+1) b.size),out.push x,ia,ib+1,g,k,q))
 else lo3 a b (out.push x) ia (ib+1) g k q
noncomputable def lo1 (a b out:Array Keyed) (ia ib g p q:Nat):MS (ForInStep R7):=do
 modify (fg g)
 let some k <- cc false (<- elem' b ib) a ia (a.size - ia) 0|pure (.done (some (out++a.extract ia a.size++b.extract ib b.size),out,ia,ib,g,p,q))
 if k>0 then
  if ia+k+1==a.size then pure (.done (some (out++a.extract ia (ia+k)++b.extract ib b.size++a.extract (ia+k) a.size),out++a.extract ia (ia+k),ia+k,ib,g,k,q))
  else if ia+k==a.size then pure (.done (some (out++a.extract ia (ia+k)++a.extract (ia+k) a.size++b.extract ib b.size),out++a.extract ia (ia+k),ia+k,ib,g,k,q))
  else lo2 a b (out++a.extract ia (ia+k)) (ia+k) ib g k q
 else lo2 a b out ia ib g k q
noncomputable def loP (a b out:Array Keyed) (ia ib g p q:Nat):MS (ForInStep (Option (Array Keyed)×Array Keyed×Nat×Nat×Nat×Nat)):=do
 let some t <- lt' (<- elem' b ib) (<- elem' a ia)|pure (.done (some (out++a.extract ia a.size++b.extract ib b.size),out,ia,ib,p,q))
 if t then
  let x <- elem' b ib
  if ib+1==b.size then pure (.done (some (out.push x++a.extract ia a.size++b.extract (ib+1) b.size),out.push x,ia,ib+1,0,q+1))
  else if q+1≥g then pure (.done (none,out.push x,ia,ib+1,0,q+1))
  else pure (.yield (none,out.push x,ia,ib+1,0,q+1))
 else
  let x <- elem' a ia
  if ia+1+1==a.size then pure (.done (some (out.push x++b.extract ib b.size++a.extract (ia+1) a.size),out.push x,ia+1,ib,p+1,0))
  else if p+1≥g then pure (.done (none,out.push x,ia+1,ib,p+1,0))
  else pure (.yield (none,out.push x,ia+1,ib,p+1,0))
noncomputable abbrev mat {β:Type}(c:Option (Array Keyed)) (f:Array Keyed->MS β) (g:Unit->MS β):MS β:=Break.runK.match_1 (λ_=>MS β) c f g
noncomputable def loO (a b out:Array Keyed) (ia ib g:Nat):MS (ForInStep (Option (Array Keyed)×Array Keyed×Nat×Nat×Nat)):=do
 let c <- forIn [0:a.size+b.size] ((none,out,ia,ib,0,0):Option (Array Keyed)×Array Keyed×Nat×Nat×Nat×Nat) λ_ c=>loP a b c.2.1 c.2.2.1 c.2.2.2.1 g c.2.2.2.2.1 c.2.2.2.2.2
 mat c.1 (λr=>pure (.done (some r,c.2.1,c.2.2.1,c.2.2.2.1,g))) λ_=>do
  rule "list.sort.gallop"
  let d <- forIn [0:a.size+b.size] ((none,c.2.1,c.2.2.1,c.2.2.2.1,g+1,c.2.2.2.2.1,c.2.2.2.2.2):R7) λ_ c =>
   if c.2.2.2.2.1>1 then lo1 a b c.2.1 c.2.2.1 c.2.2.2.1 (c.2.2.2.2.1 - 1) c.2.2.2.2.2.1 c.2.2.2.2.2.2 else lo1 a b c.2.1 c.2.2.1 c.2.2.2.1 c.2.2.2.2.1 c.2.2.2.2.2.1 c.2.2.2.2.2.2
  mat d.1 (λr=>pure (.done (some r,d.2.1,d.2.2.1,d.2.2.2.1,d.2.2.2.2.1))) λ_=>do
   modify (fg (d.2.2.2.2.1+1))
   pure (.yield (none,d.2.1,d.2.2.1,d.2.2.2.1,d.2.2.2.2.1+1))
theorem uZ (a b:Array Keyed):j6 a b=(do
 rule "list.sort.merge-lo"
 let x <- elem' b 0
 if 1==b.size then pure (#[x]++a.extract 0 a.size++b.extract 1 b.size)
 else if 0+1==a.size then pure (#[x]++b.extract 1 b.size++a.extract 0 a.size)
 else do
  let g <- get
  let c <- forIn [0:a.size+b.size] ((none,#[x],0,1,gallopOf g):Option (Array Keyed)×Array Keyed×Nat×Nat×Nat) λ_ c=>loO a b c.2.1 c.2.2.1 c.2.2.2.1 c.2.2.2.2
  mat c.1 (λr=>pure r) λ_=>unsupported "internal:list.sort.merge-bound"):=rfl
section
variable {prog:Program}{w:World}{A:Around}{E:Value->Shared->Prop}{s:Shared}{a₀:Array Keyed}{kd:SortKind}{ρ:Keyed->Nat}{st:SortSt}
structure Sm (st z:SortSt):Prop where
 kind:kindOf z=kindOf st
 arr:arrOf z=arrOf st
 pend:pendingOf z=pendingOf st
 fail:failedOf z=failedOf st
def Ri (ρ:Keyed->Nat) (l:List Keyed):Prop:=l.Pairwise λx y=>ρ x<=ρ y
structure Lo (ρ:Keyed->Nat) (a b out:Array Keyed) (ia ib:Nat):Prop where
 ri:Ri ρ out.toList
 pm:out.toList.Perm (a.toList.take ia++b.toList.take ib)
 la:∀ x∈out.toList,∀ y∈a.toList.drop ia,ρ x<=ρ y
 lb:∀ x∈out.toList,∀ y∈b.toList.drop ib,ρ x<=ρ y
def Mg (ρ:Keyed->Nat) (a b r:Array Keyed):Prop:=Ri ρ r.toList/\r.toList.Perm (a.toList++b.toList)
variable {a b out:Array Keyed}{ia ib:Nat}
theorem h8 (a:Array Keyed) (i:Nat):(a.extract i a.size).toList=a.toList.drop i:=by
 simp only [Pm,Py]
 rw [O4];simp
theorem Ri.app {l m:List Keyed}(h1:Ri ρ l) (h2:Ri ρ m) (h:∀ x∈l,∀ y∈m,ρ x<=ρ y):Ri ρ (l++m):=Pz.mpr ⟨h1,h2,h⟩
theorem Lo.done (L:Lo ρ a b out ia ib) (ra:Ri ρ a.toList) (h:ib=b.size):Mg ρ a b (out++a.extract ia a.size++b.extract ib b.size):=by
 subst h
 have e:(out++a.extract ia a.size++b.extract b.size b.size).toList=out.toList++a.toList.drop ia:=by rw [OK,OK,h8,h8,List.drop_of_length_le (l:=b.toList) (i:=b.size) (by simp),N4]
 unfold Mg
 rw [e]
 refine ⟨L.ri.app (ra.sublist (O8 _ _)) L.la,?_⟩
 have p:=L.pm
 rw [show b.toList.take b.size=b.toList by rw [O4];simp] at p
 refine (p.append_right _).trans ?_
 rw [NX]
 refine (Oz _ OS).trans ?_
 rw [<- NX,Oi]
theorem Lo.last (L:Lo ρ a b out ia ib) (rb:Ri ρ b.toList) (ra:Ri ρ a.toList) (h:∀ x∈b.toList,∀ y∈a.toList.drop ia,ρ x<=ρ y):Mg ρ a b (out++b.extract ib b.size++a.extract ia a.size):=by
 have e:(out++b.extract ib b.size++a.extract ia a.size).toList=out.toList++b.toList.drop ib++a.toList.drop ia:=by rw [OK,OK,h8,h8]
 unfold Mg
 rw [e]
 refine ⟨(L.ri.app (rb.sublist (O8 _ _)) L.lb).app (ra.sublist (O8 _ _)) λx hx y hy=>?_,?_⟩
 ·rcases NL.mp hx with q|q
  ·exact L.la x q y hy
  ·exact h x (PB q) y hy
 ·refine ((L.pm.append_right _).append_right _).trans ?_
  rw [NX (a.toList.take ia),Oi]
  rw [NX]
  refine (Oz _ OS).trans ?_
  rw [<- NX,Oi]
theorem nY (l:List Keyed) (i k:Nat):l.take (i+k)=l.take i++(l.drop i).take k:=List.take_add
theorem oJ {l:List Keyed}{i k:Nat}{y:Keyed}(h:y∈l.drop (i+k)):y∈l.drop i:=by
 rw [<- Sz] at h
 exact PB h
theorem Ri.cut {l:List Keyed}(h:Ri ρ l){i k:Nat}{x y:Keyed}(hx:x∈(l.drop i).take k) (hy:y∈l.drop (i+k)):ρ x<=ρ y:=by
 have:=h.sublist (O8 i l)
 rw [<- Oi k (l.drop i)] at this
 rw [<- Sz] at hy
 exact (Pz.mp this).2.2 x hx y hy
theorem Lo.stepA {Ix:Array Keyed}{k:Nat}(L:Lo ρ a b out ia ib) (ra:Ri ρ a.toList) (e:Ix.toList=out.toList++(a.toList.drop ia).take k) (hy:∀ x∈(a.toList.drop ia).take k,∀ y∈b.toList.drop ib,ρ x<=ρ y):Lo ρ a b Ix (ia+k) ib:=by
 refine ⟨?_,?_,?_,?_⟩
 ·rw [e]
  exact L.ri.app ((ra.sublist (O8 _ _)).sublist (Po _ _)) λx hx y Jo=>L.la x hx y (OY Jo)
 ·rw [e,nY]
  refine (L.pm.append_right _).trans ?_
  rw [NX,NX]
  exact Oz _ OS
 ·intro x hx y Jo
  rw [e] at hx
  rcases NL.mp hx with q|q
  ·exact L.la x q y (oJ Jo)
  ·exact ra.cut q Jo
 ·intro x hx y Jo
  rw [e] at hx
  rcases NL.mp hx with q|q
  ·exact L.lb x q y Jo
  ·exact hy x q y Jo
theorem Lo.stepB {Ix:Array Keyed}{k:Nat}(L:Lo ρ a b out ia ib) (rb:Ri ρ b.toList) (e:Ix.toList=out.toList++(b.toList.drop ib).take k) (hy:∀ x∈(b.toList.drop ib).take k,∀ y∈a.toList.drop ia,ρ x<=ρ y):Lo ρ a b Ix ia (ib+k):=by
 refine ⟨?_,?_,?_,?_⟩
 ·rw [e]
  exact L.ri.app ((rb.sublist (O8 _ _)).sublist (Po _ _)) λx hx y Jo=>L.lb x hx y (OY Jo)
 ·rw [e,nY,<- NX]
  exact L.pm.append_right _
 ·intro x hx y Jo
  rw [e] at hx
  rcases NL.mp hx with q|q
  ·exact L.la x q y Jo
  ·exact hy x q y Jo
 ·intro x hx y Jo
  rw [e] at hx
  rcases NL.mp hx with q|q
  ·exact L.lb x q y (oJ Jo)
  ·exact rb.cut q Jo
theorem pO {x:Keyed}{i:Nat}{c:Array Keyed}(h:i<c.size) (e:c[i]?=some x):(out.push x).toList=out.toList++(c.toList.drop i).take 1:=by
 rw [Si,Px (by simpa using h)]
 rw [Pf c i h] at e
 cases e
 simp
theorem qP {i k:Nat}{c:Array Keyed}:(out++c.extract i (i+k)).toList=out.toList++(c.toList.drop i).take k:=by
 rw [OK,Pm,Py,Q4]
theorem Ri.le {l:List Keyed}(h:Ri ρ l){i:Nat}{x y:Keyed}(e:l[i]?=some x) (hy:y∈l.drop i):ρ x<=ρ y:=by
 obtain ⟨hi,rfl⟩:=Oa.mp e
 have:=h.sublist (O8 i l)
 rw [Px hi] at this hy
 rcases NR.mp hy with rfl|q
 ·exact NE _
 ·exact (OF.mp this).1 y q
theorem dP {c:Array Keyed}{i:Nat}{x:Keyed}(e:c[i]?=some x):rk ρ c i=ρ x:=by unfold rk;rw [e];rfl
theorem mj {c:Array Keyed}(h:Ri ρ c.toList){base n:Nat}(hn:base+n<=c.size):∀ i j,i<=j->j<n->rk ρ c (base+i)<=rk ρ c (base+j):=λi j ij jn=>by
 rw [dP (Pf c (base+i) (by lia)),dP (Pf c (base+j) (by lia))]
 rcases O1 i j with q|q
 ·have:=OO.mp h (base+i) (base+j) (by simp;lia) (by simp;lia) (by lia)
  simpa using this
 ·obtain rfl:i=j:=by lia
  exact NE _
theorem fS {c:Array Keyed}{i k:Nat}{u:Keyed}(h:u∈(c.toList.drop i).take k):∃ j,j<k/\c[i+j]?=some u:=by
 obtain ⟨j,hj,e⟩:=Ot.mp h
 rw [Of,P1] at hj
 refine ⟨j,by lia,?_⟩
 rw [Q8,Q9] at e
 rw [<- e,Pf c (i+j) (by simp at hj;lia)]
 simp
theorem aX {c:Array Keyed}{i:Nat}{Q:Keyed->SortSt->Prop}(h:i<c.size) (q:∀ x,c[i]?=some x->x∈c.toList->Q x st):wpS (model prog w) A E s (elem' c i) Q st:=by
 have e:c[i]?=some c[i]:=Pf c i h
 rw [elem'_eq,e]
 exact NO (q _ e (by simp))
theorem bb {α:Type}{i j:Nat}{p q:MS α}{Q:α->SortSt->Prop}(h1:i=j->wpS (model prog w) A E s p Q st) (h2:i≠j->wpS (model prog w) A E s q Q st):wpS (model prog w) A E s (if (i==j)=true then p else q) Q st:=by
 by_cases e:i=j
 ·rw [NC (Pb.mpr e)];exact h1 e
 ·rw [NB (λh=>e (Pb.mp h))];exact h2 e
theorem bg {α:Type}{c:Prop}[Decidable c] {p q:MS α}{Q:α->SortSt->Prop}(h1:c->wpS (model prog w) A E s p Q st) (h2:¬ c->wpS (model prog w) A E s q Q st):wpS (model prog w) A E s (if c then p else q) Q st:=by
 by_cases e:c
 ·rw [NC e];exact h1 e
 ·rw [NB e];exact h2 e
@[reducible] def Bl (left:Bool) (x y:Nat):Prop:=cond left (x<y) (x<=y)
theorem h9 {left:Bool}{HM u:Keyed}{arr:Array Keyed}{base i:Nat}(e:arr[base+i]?=some u):Bd left ρ HM arr base i=true ↔ Bl left (ρ u) (ρ HM):=by
 unfold Bd
 rw [dP e]
 cases left<;>exact decide_eq_true_iff
theorem pP {c:Array Keyed}{i:Nat}{u:Keyed}(h:u∈c.toList.drop i):∃ j,i+j<c.size/\c[i+j]?=some u:=by
 obtain ⟨j,hj,e⟩:=Ot.mp h
 rw [P1,Pq] at hj
 rw [Q9] at e
 exact ⟨j,by lia,by rw [<- e,Pf c (i+j) (by lia)];rfl⟩
theorem qQ {left:Bool}{HM:Keyed}{arr:Array Keyed}{base:Nat}{Q:Option Nat->SortSt->Prop}(C:Cm prog w A s kd a₀ ρ) (hk:kindOf st=kd) (IK:HM∈a₀.toList) (hm:∀ p∈arr.toList,p∈a₀.toList) (R:Ri ρ arr.toList) (hb:base<arr.size)
  (h:∀ k,base+k<=arr.size->(∀ u∈(arr.toList.drop base).take k,Bl left (ρ u) (ρ HM))->(∀ u∈arr.toList.drop (base+k),¬ Bl left (ρ u) (ρ HM))->Q (some k) st):wpS (model prog w) A E s (cc left HM arr base (arr.size - base) 0) Q st:=by
 have e:base+(arr.size - base)=arr.size:=Nat.add_sub_of_le (Oo hb)
 refine j5 C hk IK hm (QQ e) (Nat.sub_pos_of_lt hb) (mj R (QQ e)) λk kn k1 k2=>h k (by lia) (λu hu=>?_) λu hu g=>?_
 ·obtain ⟨j,hj,ej⟩:=fS hu
  exact (h9 ej).mp (k1 j hj)
 ·obtain ⟨j,hj,ej⟩:=pP hu
  rw [Sb] at ej
  have:=k2 (k+j) (Rg _ _) (by lia)
  rw [(h9 ej).mpr g] at this
  cases this
theorem dQ {c:Array Keyed}{i:Nat}{x:Keyed}(e:c[i]?=some x):c.toList[i]?=some x:=by rw [OR];exact e
theorem qR {c:Array Keyed}{i:Nat}{u x:Keyed}(e:c[i]?=some x) (h:u∈(c.toList.drop i).take 1):u=x:=by
 obtain ⟨j,hj,ej⟩:=fS h
 obtain rfl:j=0:=Nat.lt_one_iff.mp hj
 rw [Nat.add_zero,e] at ej
 exact (Option.some.inj ej).symm
theorem Lo.pushA {x:Keyed}(L:Lo ρ a b out ia ib) (ra:Ri ρ a.toList) (hi:ia<a.size) (e:a[ia]?=some x) (h:∀ v∈b.toList.drop ib,ρ x<=ρ v):Lo ρ a b (out.push x) (ia+1) ib :=
 L.stepA (k:=1) ra (pO hi e) λu hu v hv=>qR e hu ▸ h v hv
theorem Lo.pushB {x:Keyed}(L:Lo ρ a b out ia ib) (rb:Ri ρ b.toList) (hi:ib<b.size) (e:b[ib]?=some x) (h:∀ v∈a.toList.drop ia,ρ x<=ρ v):Lo ρ a b (out.push x) ia (ib+1) :=
 L.stepB (k:=1) rb (pO hi e) λu hu v hv=>qR e hu ▸ h v hv
structure Mx (prog:Program) (w:World) (A:Around) (s:Shared) (kd:SortKind) (a₀:Array Keyed) (ρ:Keyed->Nat) (a b:Array Keyed) (st:SortSt):Prop where
 C:Cm prog w A s kd a₀ ρ
 hk:kindOf st=kd
 ma:∀ p∈a.toList,p∈a₀.toList
 mb:∀ p∈b.toList,p∈a₀.toList
 ra:Ri ρ a.toList
 rb:Ri ρ b.toList
theorem Lo.fin (L:Lo ρ a b out ia ib) (ra:Ri ρ a.toList) (rb:Ri ρ b.toList) (hl:∀ y,a[a.size - 1]?=some y->∀ x∈b.toList,ρ x<ρ y) (e:ia+1=a.size):Mg ρ a b (out++b.extract ib b.size++a.extract ia a.size) :=
 L.last rb ra λx hx y hy=>by
  obtain ⟨j,hj,ej⟩:=pP hy
  rw [show ia+j=a.size - 1 by lia] at ej
  exact Oo (hl y ej x hx)
structure Lt (ρ:Keyed->Nat) (a b:Array Keyed) (n:Nat) (out:Array Keyed) (ia ib:Nat):Prop where
 L:Lo ρ a b out ia ib
 ha:ia+1<a.size
 hb:ib<b.size
 hn:n<=ia+ib
inductive Dn' (ρ:Keyed->Nat) (a b:Array Keyed){γ:Type}:Option (Array Keyed)×γ->Prop
 |mk {r:Array Keyed}{x:γ}:Mg ρ a b r->Dn' ρ a b (some r,x)
inductive I5 (ρ:Keyed->Nat) (a b:Array Keyed) (n:Nat):Option (Array Keyed)×Array Keyed×Nat×Nat×Nat->Prop
 |mk {out:Array Keyed}{ia ib g:Nat}:Lt ρ a b n out ia ib->I5 ρ a b n (none,out,ia,ib,g)
inductive I6 (ρ:Keyed->Nat) (a b:Array Keyed) (n:Nat):Option (Array Keyed)×Array Keyed×Nat×Nat×Nat×Nat->Prop
 |mk {out:Array Keyed}{ia ib p q:Nat}:Lt ρ a b n out ia ib->I6 ρ a b n (none,out,ia,ib,p,q)
inductive I7 (ρ:Keyed->Nat) (a b:Array Keyed) (n:Nat):R7->Prop
 |mk {out:Array Keyed}{ia ib g p q:Nat}:Lt ρ a b n out ia ib->I7 ρ a b n (none,out,ia,ib,g,p,q)
structure Lq (ρ:Keyed->Nat) (a b:Array Keyed) (st:SortSt) (n:Nat){γ:Type}(I:Nat->Option (Array Keyed)×γ->Prop) (Q:ForInStep (Option (Array Keyed)×γ)->SortSt->Prop) (z:SortSt):Prop where
 d:∀ c,Dn' ρ a b c->Q (.done c) z
 x:∀ c,I (n+1) c->Q (.done c) z
 y:∀ c,I (n+1) c->Q (.yield c) z
variable {Q:ForInStep R7->SortSt->Prop}{n g k l p q:Nat}{z:SortSt}
theorem sy (X:Mx prog w A s kd a₀ ρ a b st) (hl:∀ y,a[a.size - 1]?=some y->∀ x∈b.toList,ρ x<ρ y) (K:Lq ρ a b st n (I7 ρ a b) Q z) (T:Lt ρ a b n out ia ib) (hy:∀ y,a[ia]?=some y->∀ v∈b.toList.drop ib,ρ y<=ρ v):wpS (model prog w) A E s (lo4 a b out ia ib g k l) Q z:=by
 delta lo4
 have hi:=Pp T.ha
 refine NH (aX hi λx ex _=>?_)
 have L':=T.L.pushA X.ra hi ex (hy x ex)
 refine bb (λe=>NO (K.d _ (.mk (L'.fin X.ra X.rb hl e)))) λe=>?_
 have T':Lt ρ a b (n+1) _ _ _:=⟨L',OG T.ha e,T.hb,Nat.succ_add ia ib ▸ Rh T.hn⟩
 exact bg (λ_=>NO (K.x _ (.mk T'))) λ_=>NO (K.y _ (.mk T'))
theorem EZ (X:Mx prog w A s kd a₀ ρ a b st) (hl:∀ y,a[a.size - 1]?=some y->∀ x∈b.toList,ρ x<ρ y) (K:Lq ρ a b st n (I7 ρ a b) Q z) (hk:kindOf z=kd) (T:Lt ρ a b n out ia ib):wpS (model prog w) A E s (lo3 a b out ia ib g k q) Q z:=by
 delta lo3
 refine NH (aX (Pp T.ha) λy ey my=>NH (qQ X.C hk (X.ma _ my) X.mb X.rb T.hb λl hk h1 h2=>?_))
 have h3:∀ y',a[ia]?=some y'->∀ v∈b.toList.drop (ib+l),ρ y'<=ρ v:=λy' e' v hv=>by
  rw [ey] at e';cases e';exact Pt (h2 v hv)
 dsimp only
 refine bg (λ_=>?_) λM6=>?_
 ·have L':=T.L.stepB X.rb qP λu hu v hv=>NZ (Oo (h1 u hu)) (X.ra.le (dQ ey) hv)
  exact bb (λe=>NO (K.d _ (.mk (L'.done X.ra e)))) λe=>sy X hl K ⟨L',T.ha,OG hk e,NZ T.hn (QC (Rg _ _) _)⟩ h3
 ·obtain rfl:l=0:=Qf M6
  exact sy X hl K T h3
theorem sA (X:Mx prog w A s kd a₀ ρ a b st) (hl:∀ y,a[a.size - 1]?=some y->∀ x∈b.toList,ρ x<ρ y) (K:Lq ρ a b st n (I7 ρ a b) Q z) (hk:kindOf z=kd) (T:Lt ρ a b n out ia ib) (hx:∀ x,b[ib]?=some x->∀ v∈a.toList.drop ia,ρ x<=ρ v):wpS (model prog w) A E s (lo2 a b out ia ib g k q) Q z:=by
 delta lo2
 refine NH (aX T.hb λx ex _=>?_)
 have L':=T.L.pushB X.rb T.hb ex (hx x ex)
 exact bb (λe=>NO (K.d _ (.mk (L'.done X.ra e)))) λe=>EZ X hl K hk ⟨L',T.ha,OG T.hb e,Ra T.hn⟩
theorem sB (X:Mx prog w A s kd a₀ ρ a b st) (hl:∀ y,a[a.size - 1]?=some y->∀ x∈b.toList,ρ x<ρ y) (K:∀ z,Sm st z->Lq ρ a b st n (I7 ρ a b) Q z) (sm:Sm st z) (T:Lt ρ a b n out ia ib):wpS (model prog w) A E s (lo1 a b out ia ib g p q) Q z:=by
 delta lo1
 refine NH (Qv ?_)
 have sm:Sm st (fg g z):=⟨sm.kind,sm.arr,sm.pend,sm.fail⟩
 have K:=K _ sm
 have hk:=sm.kind.trans X.hk
 refine NH (aX T.hb λx ex mx=>NH (qQ X.C hk (X.mb _ mx) X.ma X.ra (Pp T.ha) λk Kb h1 h2=>?_))
 have h3:∀ x',b[ib]?=some x'->∀ v∈a.toList.drop (ia+k),ρ x'<=ρ v:=λx' e' v hv=>by
  rw [ex] at e';cases e';exact Nat.le_of_not_le λc=>h2 v hv c
 dsimp only
 refine bg (λ_=>?_) λM6=>?_
 ·have L':=T.L.stepA X.ra qP λu hu v hv=>NZ (h1 u hu) (X.rb.le (dQ ex) hv)
  refine bb (λe=>NO (K.d _ (.mk (L'.fin X.ra X.rb hl e)))) λe=>bb (λe'=>?_) λe'=>sA X hl K hk ⟨L',OG (OG Kb e') e,T.hb,NZ T.hn (PY (Rg _ _) _)⟩ h3
  have ha:=T.ha
  have ej:=Pf a (a.size - 1) (by lia)
  refine absurd (hl _ ej x mx) (Nat.not_lt.mpr (h1 _ (Ru.mpr ⟨a.size - 1 - ia,?_⟩)))
  rw [P0 (by lia),List.getElem?_drop,show ia+(a.size - 1 - ia)=a.size - 1 by lia]
  exact dQ ej
 ·obtain rfl:k=0:=Qf M6
  exact sA X hl K hk T h3
theorem E1 {Q:ForInStep (Option (Array Keyed)×Array Keyed×Nat×Nat×Nat×Nat)->SortSt->Prop}(X:Mx prog w A s kd a₀ ρ a b st) (hl:∀ y,a[a.size - 1]?=some y->∀ x∈b.toList,ρ x<ρ y) (K:Lq ρ a b st n (I6 ρ a b) Q z) (hk:kindOf z=kd) (T:Lt ρ a b n out ia ib):wpS (model prog w) A E s (loP a b out ia ib g p q) Q z:=by
 delta loP
 have hi:=Pp T.ha
 refine NH (aX T.hb λx ex mx=>NH (aX hi λv ev mv=>NH (gk X.C hk (X.mb _ mx) (X.ma _ mv) ?_)))
 dsimp only
 refine bg (λg1=>NH (aX T.hb λx2 Mq _=>?_)) λg1=>NH (aX hi λv2 M7 _=>?_)
 ·have L2:=T.L.pushB X.rb T.hb Mq λy hy=>by
   rw [ex] at Mq;cases Mq
   exact NZ (Oo (Om g1)) (X.ra.le (dQ ev) hy)
  refine bb (λe=>NO (K.d _ (.mk (L2.done X.ra e)))) λe=>?_
  have T':Lt ρ a b (n+1) _ _ _:=⟨L2,T.ha,OG T.hb e,Rh T.hn⟩
  exact bg (λ_=>NO (K.x _ (.mk T'))) λ_=>NO (K.y _ (.mk T'))
 ·have L2:=T.L.pushA X.ra hi M7 λy hy=>by
   rw [ev] at M7;cases M7
   exact NZ (Pt λc=>g1 (NK c)) (X.rb.le (dQ ex) hy)
  refine bb (λe=>NO (K.d _ (.mk (L2.fin X.ra X.rb hl e)))) λe=>?_
  have T':Lt ρ a b (n+1) _ _ _:=⟨L2,OG T.ha e,T.hb,Nat.succ_add ia ib ▸ Rh T.hn⟩
  exact bg (λ_=>NO (K.x _ (.mk T'))) λ_=>NO (K.y _ (.mk T'))
theorem hJ {γ:Type}{I:Nat->Option (Array Keyed)×γ->Prop}{m n:Nat}{f:Nat->Option (Array Keyed)×γ->MS (ForInStep (Option (Array Keyed)×γ))}{Q:Option (Array Keyed)×γ->SortSt->Prop}{c:Option (Array Keyed)×γ}(mono:∀ i j c,i<=j->I j c->I i c) (nom:∀ c,¬ I (n+m) c)
  (hs:∀ i c z Q,I (n+i) c->Sm st z->(∀ z,Sm st z->Lq ρ a b st (n+i) I Q z)->wpS (model prog w) A E s (f i c) Q z)
  (h0:I n c) (sm:Sm st z) (h:∀ c z,Sm st z->Dn' ρ a b c\/I (n+1) c->Q c z):wpS (model prog w) A E s (forIn [0:m] c f) Q z :=
 Qe (O2 (λi c z=>Sm st z/\I (n+i) c) (Q:=λc z=>Sm st z/\(Dn' ρ a b c\/I (n+1) c)) (λi c z _ _ h=>hs i c z _ h.2 h.1 λz sm=>⟨λc d=>⟨sm,.inl d⟩,λc d=>⟨sm,.inr (mono _ _ c (Rh (Rg n i)) d)⟩,λc d=>⟨sm,d⟩⟩) (λc z h=>absurd h.2 (by rw [Nat.zero_max];exact nom c)) ⟨sm,h0⟩) λc z q=>h c z q.1 q.2
theorem Lt.mono {m:Nat}(T:Lt ρ a b n out ia ib) (h:m<=n):Lt ρ a b m out ia ib:=⟨T.L,T.ha,T.hb,NZ h T.hn⟩
theorem Lt.nom (T:Lt ρ a b n out ia ib) (h:a.size+b.size<=n):False:=by have:=T.ha;have:=T.hb;have:=T.hn;lia
theorem I6.mono {i j:Nat}{c}(h:i<=j) (d:I6 ρ a b j c):I6 ρ a b i c:=by cases d with|mk T=>exact .mk (T.mono h)
theorem I7.mono {i j:Nat}{c}(h:i<=j) (d:I7 ρ a b j c):I7 ρ a b i c:=by cases d with|mk T=>exact .mk (T.mono h)
theorem E2 {Q:ForInStep (Option (Array Keyed)×Array Keyed×Nat×Nat×Nat)->SortSt->Prop}(X:Mx prog w A s kd a₀ ρ a b st) (hl:∀ y,a[a.size - 1]?=some y->∀ x∈b.toList,ρ x<ρ y) (Kd:∀ c z,Sm st z->Dn' ρ a b c->Q (.done c) z) (Ky:∀ c z,Sm st z->I5 ρ a b (n+1) c->Q (.yield c) z) (sm:Sm st z) (T:Lt ρ a b n out ia ib):wpS (model prog w) A E s (loO a b out ia ib g) Q z:=by
 delta loO
 refine NH (hJ (I:=I6 ρ a b) (ρ:=ρ) (a:=a) (b:=b) (λi j c=>I6.mono) (λc d=>?_) (λi c z Q d sm K=>?_) (.mk T) sm λc z sm d=>?_)
 ·cases d with|mk T=>exact T.nom (QK _ _)
 ·cases d with|mk T=>exact E1 X hl (K z sm) (sm.kind.trans X.hk) T
 rcases d with d|d
 ·cases d with|mk m=>exact NO (Kd _ z sm (.mk m))
 cases d with
 |mk T =>
  refine NH (wpS_lift (PX ⟨rfl,NH (hJ (I:=I7 ρ a b) (ρ:=ρ) (a:=a) (b:=b) (λi j c=>I7.mono) (λc d=>?_) (λi c z Q d sm K=>?_) (.mk T) sm λc z sm d=>?_)⟩))
  ·cases d with|mk T=>exact T.nom (QK _ _)
  ·cases d with|mk T=>exact bg (λ_=>sB X hl K sm T) λ_=>sB X hl K sm T
  rcases d with d|d
  ·cases d with|mk m=>exact NO (Kd _ z sm (.mk m))
  cases d with
  |mk T =>
   dsimp only
   exact NH (Qv (NO (Ky _ _ ⟨sm.kind,sm.arr,sm.pend,sm.fail⟩ (.mk (T.mono (Pj _))))))
theorem wI {Q:Array Keyed->SortSt->Prop}(C:Cm prog w A s kd a₀ ρ) (hk:kindOf st=kd) (ma:∀ p∈a.toList,p∈a₀.toList) (mb:∀ p∈b.toList,p∈a₀.toList) (ra:Ri ρ a.toList) (rb:Ri ρ b.toList) (h1:1<=a.size) (h2:1<=b.size)
  (hf:∀ x,b[0]?=some x->∀ y∈a.toList,ρ x<=ρ y) (hl:∀ y,a[a.size - 1]?=some y->∀ x∈b.toList,ρ x<ρ y) (h:∀ r z,Mg ρ a b r->Sm st z->Q r z):wpS (model prog w) A E s (j6 a b) Q st:=by
 rw [uZ]
 refine NH (wpS_lift (PX ⟨rfl,NH (aX h2 λx0 e0 m0=>?_)⟩))
 have M8:Sm st st:=⟨rfl,rfl,rfl,rfl⟩
 have L0:Lo ρ a b #[x0] 0 1:=(⟨List.Pairwise.nil,.nil,(λ_ h=>by cases h),(λ_ h=>by cases h)⟩:Lo ρ a b #[] 0 0).pushB rb h2 e0 (hf x0 e0)
 refine bb (λe=>NO (h _ _ (L0.done ra e) M8)) λq1=>bb (λe=>NO (h _ _ (L0.fin ra rb hl e) M8)) λq2=>NH (Q1 (NH (Qe (O2 (λi c z=>Sm st z/\I5 ρ a b i c) (Q:=λc z=>Sm st z/\Dn' ρ a b c) (λi c z _ _ d=>?_) (λc z d=>?_) ⟨M8,.mk ⟨L0,OG h1 q2,OG h2 q1,OM _⟩⟩) λc z d=>?_)))
 ·obtain ⟨sm,d⟩:=d
  cases d with|mk T=>exact E2 (n:=i) ⟨C,hk,ma,mb,ra,rb⟩ hl (λc z sm d=>⟨sm,d⟩) (λc z sm d=>⟨sm,d⟩) sm T
 ·obtain ⟨_,d⟩:=d
  cases d with|mk T=>exact (T.nom (Nat.le_max_right _ _)).elim
 ·obtain ⟨sm,d⟩:=d
  cases d with|mk m=>exact NO (h _ z m sm)
end
end S6
namespace S6
open PySem PyProof.Rows
def j7:Array Keyed->Array Keyed->StateT SortSt Sem (Array Keyed):=sortPriv% PySem.Builtin.mergeHi
abbrev H7:=Option (Array Keyed)×Nat×Nat×Array Keyed×Nat×Nat×Nat
noncomputable def hi4 (a b:Array Keyed) (na nb:Nat) (out:Array Keyed) (g k l:Nat):MS (ForInStep H7):=do
 let x <- elem' a (na - 1)
 if na - 1==0 then pure (.done (some (a.extract 0 (na - 1)++b.extract 0 nb++(out.push x).reverse),na - 1,nb,out.push x,g,k,l))
 else if decide (k<7)&&decide (l<7) then pure (.done (none,na - 1,nb,out.push x,g,k,l))
 else pure (.yield (none,na - 1,nb,out.push x,g,k,l))
noncomputable def hi3 (a b:Array Keyed) (na nb:Nat) (out:Array Keyed) (g k q:Nat):MS (ForInStep H7):=do
 let some t <- cc true (<- elem' a (na - 1)) b 0 nb (nb - 1)|pure (.done (some (a.extract 0 na++b.extract 0 nb++out.reverse),na,nb,out,g,k,q))
 if nb - t>0 then
  if t==1 then pure (.done (some (b.extract 0 t++a.extract 0 na++(out++(b.extract t nb).reverse).reverse),na,t,out++(b.extract t nb).reverse,g,k,nb - t))
  else if t==0 then pure (.done (some (a.extract 0 na++b.extract 0 t++(out++(b.extract t nb).reverse).reverse),na,t,out++(b.extract t nb).reverse,g,k,nb - t))
  else hi4 a b na t (out++(b.extract t nb).reverse) g k (nb - t)
 else hi4 a b na nb out g k (nb - t)
noncomputable def hi2 (a b:Array Keyed) (na nb:Nat) (out:Array Keyed) (g k q:Nat):MS (ForInStep H7):=do
 let x <- elem' b (nb - 1)
 if nb - 1==1 then pure (.done (some (b.extract 0 (nb - 1)++a.extract 0 na++(out.push x).reverse),na,nb - 1,out.push x,g,k,q))
 else hi3 a b na (nb - 1) (out.push x) g k q
noncomputable def hi1 (a b:Array Keyed) (na nb:Nat) (out:Array Keyed) (g p q:Nat):MS (ForInStep H7):=do
 modify (fg g)
 let some t <- cc false (<- elem' b (nb - 1)) a 0 na (na - 1)|pure (.done (some (a.extract 0 na++b.extract 0 nb++out.reverse),na,nb,out,g,p,q))
 if na - t>0 then
  if t==0 then pure (.done (some (a.extract 0 t++b.extract 0 nb++(out++(a.extract t na).reverse).reverse),t,nb,out++(a.extract t na).reverse,g,na - t,q))
  else hi2 a b t nb (out++(a.extract t na).reverse) g (na - t) q
 else hi2 a b na nb out g (na - t) q
noncomputable def hiP (a b:Array Keyed) (na nb:Nat) (out:Array Keyed) (g p q:Nat):MS (ForInStep (Option (Array Keyed)×Nat×Nat×Array Keyed×Nat×Nat)):=do
 let some t <- lt' (<- elem' b (nb - 1)) (<- elem' a (na - 1))|pure (.done (some (a.extract 0 na++b.extract 0 nb++out.reverse),na,nb,out,p,q))
 if t then
  let x <- elem' a (na - 1)
  if na - 1==0 then pure (.done (some (a.extract 0 (na - 1)++b.extract 0 nb++(out.push x).reverse),na - 1,nb,out.push x,p+1,0))
  else if p+1≥g then pure (.done (none,na - 1,nb,out.push x,p+1,0))
  else pure (.yield (none,na - 1,nb,out.push x,p+1,0))
 else
  let x <- elem' b (nb - 1)
  if nb - 1==1 then pure (.done (some (b.extract 0 (nb - 1)++a.extract 0 na++(out.push x).reverse),na,nb - 1,out.push x,0,q+1))
  else if q+1≥g then pure (.done (none,na,nb - 1,out.push x,0,q+1))
  else pure (.yield (none,na,nb - 1,out.push x,0,q+1))
noncomputable def hiO (a b:Array Keyed) (na nb:Nat) (out:Array Keyed) (g:Nat):MS (ForInStep (Option (Array Keyed)×Nat×Nat×Array Keyed×Nat)):=do
 let c <- forIn [0:a.size+b.size] ((none,na,nb,out,0,0):Option (Array Keyed)×Nat×Nat×Array Keyed×Nat×Nat) λ_ c=>hiP a b c.2.1 c.2.2.1 c.2.2.2.1 g c.2.2.2.2.1 c.2.2.2.2.2
 mat c.1 (λr=>pure (.done (some r,c.2.1,c.2.2.1,c.2.2.2.1,g))) λ_=>do
  rule "list.sort.gallop"
  let d <- forIn [0:a.size+b.size] ((none,c.2.1,c.2.2.1,c.2.2.2.1,g+1,c.2.2.2.2.1,c.2.2.2.2.2):H7) λ_ c =>
   if c.2.2.2.2.1>1 then hi1 a b c.2.1 c.2.2.1 c.2.2.2.1 (c.2.2.2.2.1 - 1) c.2.2.2.2.2.1 c.2.2.2.2.2.2 else hi1 a b c.2.1 c.2.2.1 c.2.2.2.1 c.2.2.2.2.1 c.2.2.2.2.2.1 c.2.2.2.2.2.2
  mat d.1 (λr=>pure (.done (some r,d.2.1,d.2.2.1,d.2.2.2.1,d.2.2.2.2.1))) λ_=>do
   modify (fg (d.2.2.2.2.1+1))
   pure (.yield (none,d.2.1,d.2.2.1,d.2.2.2.1,d.2.2.2.2.1+1))
theorem u0 (a b:Array Keyed):j7 a b=(do
 rule "list.sort.merge-hi"
 let x <- elem' a (a.size - 1)
 if a.size - 1==0 then pure (a.extract 0 (a.size - 1)++b.extract 0 b.size++#[x].reverse)
 else if b.size==1 then pure (b.extract 0 b.size++a.extract 0 (a.size - 1)++#[x].reverse)
 else do
  let g <- get
  let c <- forIn [0:a.size+b.size] ((none,a.size - 1,b.size,#[x],gallopOf g):Option (Array Keyed)×Nat×Nat×Array Keyed×Nat) λ_ c=>hiO a b c.2.1 c.2.2.1 c.2.2.2.1 c.2.2.2.2
  mat c.1 (λr=>pure r) λ_=>unsupported "internal:list.sort.merge-bound"):=rfl
section
variable {prog:Program}{w:World}{A:Around}{E:Value->Shared->Prop}{s:Shared}{a₀:Array Keyed}{kd:SortKind}{ρ:Keyed->Nat}{st:SortSt}{a b out:Array Keyed}{na nb:Nat}
structure Hi (ρ:Keyed->Nat) (a b out:Array Keyed) (na nb:Nat):Prop where
 ri:Ri ρ out.toList.reverse
 pm:out.toList.reverse.Perm (a.toList.drop na++b.toList.drop nb)
 la:∀ x∈a.toList.take na,∀ y∈out.toList,ρ x<=ρ y
 lb:∀ x∈b.toList.take nb,∀ y∈out.toList,ρ x<=ρ y
theorem iC (a:Array Keyed) (i:Nat):(a.extract 0 i).toList=a.toList.take i:=by
 simp only [Pm,Py,Sw,Pl]
theorem Hi.first (L:Hi ρ a b out na nb) (ra:Ri ρ a.toList) (rb:Ri ρ b.toList) (h:∀ x∈b.toList.take nb,∀ y∈a.toList.take na,ρ x<=ρ y):Mg ρ a b (b.extract 0 nb++a.extract 0 na++out.reverse):=by
 have e:(b.extract 0 nb++a.extract 0 na++out.reverse).toList=b.toList.take nb++a.toList.take na++out.toList.reverse:=by rw [OK,OK,iC,iC,RI]
 unfold Mg
 rw [e]
 refine ⟨((Ri.app (rb.sublist (Po _ _)) (ra.sublist (Po _ _)) h).app L.ri λx hx y hy=>?_),?_⟩
 ·rw [Pw] at hy
  rcases NL.mp hx with q|q
  ·exact L.lb x q y hy
  ·exact L.la x q y hy
 ·refine (Oz _ L.pm).trans ?_
  rw [NX,<- NX (a.toList.take na),Oi]
  refine OS.trans ?_
  rw [NX]
  refine Oz _ (OS.trans ?_)
  rw [Oi]
theorem Hi.done (L:Hi ρ a b out na nb) (rb:Ri ρ b.toList) (h:na=0):Mg ρ a b (a.extract 0 na++b.extract 0 nb++out.reverse):=by
 subst h
 have e:(a.extract 0 0++b.extract 0 nb++out.reverse).toList=b.toList.take nb++out.toList.reverse:=by rw [OK,OK,iC,iC,RI];simp
 unfold Mg
 rw [e]
 refine ⟨Ri.app (rb.sublist (Po _ _)) L.ri λx hx y hy=>?_,?_⟩
 ·rw [Pw] at hy
  exact L.lb x hx y hy
 ·refine (Oz _ L.pm).trans ?_
  rw [Pl]
  refine OS.trans ?_
  rw [NX]
  refine Oz _ (OS.trans ?_)
  rw [Oi]
theorem jI (l:List Keyed){i j:Nat}(h:i<=j):l.drop i=(l.take j).drop i++l.drop j:=by
 have:l.drop j=(l.drop i).drop (j - i):=by rw [Sz];congr 1;lia
 rw [this,Q2,Oi]
theorem oK {l:List Keyed}{i j:Nat}(h:i<=j){x:Keyed}(hx:x∈l.take i):x∈l.take j:=by
 rw [show i=min i j by lia,<- RV] at hx
 exact OY hx
theorem Ri.cut2 {l:List Keyed}(h:Ri ρ l){i j:Nat}{x y:Keyed}(ij:i<=j) (hx:x∈l.take i) (hy:y∈(l.take j).drop i):ρ x<=ρ y:=by
 have:=h
 rw [<- Oi i l] at this
 refine (Pz.mp this).2.2 x hx y ?_
 rw [jI l ij]
 exact NL.mpr (.inl hy)
theorem Hi.stepA {Ix:Array Keyed}{k:Nat}(L:Hi ρ a b out na nb) (ra:Ri ρ a.toList) (hk:k<=na) (e:Ix.toList.reverse=(a.toList.take na).drop k++out.toList.reverse) (hy:∀ x∈b.toList.take nb,∀ y∈(a.toList.take na).drop k,ρ x<=ρ y):Hi ρ a b Ix k nb:=by
 have mem:∀ y,y∈Ix.toList->y∈(a.toList.take na).drop k\/y∈out.toList:=λy hy=>by
  rw [<- Pw,e] at hy
  rcases NL.mp hy with q|q
  ·exact .inl q
  ·exact .inr (Pw.mp q)
 refine ⟨?_,?_,?_,?_⟩
 ·rw [e]
  exact Ri.app ((ra.sublist (Po _ _)).sublist (O8 _ _)) L.ri λx hx y Jo=>L.la x (PB hx) y (Pw.mp Jo)
 ·rw [e,jI a.toList hk,NX]
  exact Oz _ L.pm
 ·intro x hx y Jo
  rcases mem y Jo with q|q
  ·exact ra.cut2 hk hx q
  ·exact L.la x (oK hk hx) y q
 ·intro x hx y Jo
  rcases mem y Jo with q|q
  ·exact hy x hx y q
  ·exact L.lb x hx y q
theorem Hi.stepB {Ix:Array Keyed}{k:Nat}(L:Hi ρ a b out na nb) (rb:Ri ρ b.toList) (hk:k<=nb) (e:Ix.toList.reverse=(b.toList.take nb).drop k++out.toList.reverse) (hy:∀ x∈a.toList.take na,∀ y∈(b.toList.take nb).drop k,ρ x<=ρ y):Hi ρ a b Ix na k:=by
 have mem:∀ y,y∈Ix.toList->y∈(b.toList.take nb).drop k\/y∈out.toList:=λy hy=>by
  rw [<- Pw,e] at hy
  rcases NL.mp hy with q|q
  ·exact .inl q
  ·exact .inr (Pw.mp q)
 refine ⟨?_,?_,?_,?_⟩
 ·rw [e]
  exact Ri.app ((rb.sublist (Po _ _)).sublist (O8 _ _)) L.ri λx hx y Jo=>L.lb x (PB hx) y (Pw.mp Jo)
 ·rw [e,jI b.toList hk]
  refine (Oz _ L.pm).trans ?_
  rw [<- NX,<- NX]
  exact List.Perm.append_right _ OS
 ·intro x hx y Jo
  rcases mem y Jo with q|q
  ·exact hy x hx y q
  ·exact L.la x hx y q
 ·intro x hx y Jo
  rcases mem y Jo with q|q
  ·exact rb.cut2 hk hx q
  ·exact L.lb x (oK hk hx) y q
theorem z9 {x:Keyed}{i:Nat}{c:Array Keyed}(h:i<c.size) (e:c[i]?=some x):(out.push x).toList.reverse=(c.toList.take (i+1)).drop i++out.toList.reverse:=by
 rw [Si,List.reverse_append,List.reverse_singleton]
 congr 1
 rw [Q2,show i+1 - i=1 by lia,Px (by simpa using h)]
 rw [Pf c i h] at e
 cases e
 simp
theorem oM {x:Keyed}{i n:Nat}{c:Array Keyed}(hn:i+1=n) (h:i<c.size) (e:c[i]?=some x):(out.push x).toList.reverse=(c.toList.take n).drop i++out.toList.reverse:=by
 subst hn
 exact z9 h e
theorem qS {i k:Nat}{c:Array Keyed}:(out++(c.extract k i).reverse).toList.reverse=(c.toList.take i).drop k++out.toList.reverse:=by
 rw [OK,List.reverse_append,RI,List.reverse_reverse,Pm,Py,Q2]
theorem pQ {c:Array Keyed}{i k:Nat}{u:Keyed}(h:u∈(c.toList.take i).drop k):∃ j,k<=j/\j<i/\c[j]?=some u:=by
 rw [Q2] at h
 obtain ⟨j,hj,e⟩:=fS h
 exact ⟨k+j,by lia,by lia,e⟩
theorem Ri.ge {l:List Keyed}(h:Ri ρ l){i:Nat}{x y:Keyed}(e:l[i]?=some x) (hy:y∈l.take (i+1)):ρ y<=ρ x:=by
 obtain ⟨hi,rfl⟩:=Oa.mp e
 rw [List.take_add_one] at hy
 rcases NL.mp hy with q|q
 ·obtain ⟨j,hj,rfl⟩:=Ot.mp q
  rw [Of] at hj
  rw [Q8]
  exact OO.mp h j i (by lia) hi (by lia)
 ·simp [hi] at q
  rw [q]
  exact NE _
theorem qT {left:Bool}{HM:Keyed}{arr:Array Keyed}{n H0:Nat}{Q:Option Nat->SortSt->Prop}(C:Cm prog w A s kd a₀ ρ) (hk:kindOf st=kd) (IK:HM∈a₀.toList) (hm:∀ p∈arr.toList,p∈a₀.toList) (R:Ri ρ arr.toList) (hn:n<=arr.size) (hh:H0<n)
  (h:∀ k,k<=n->(∀ u∈arr.toList.take k,Bl left (ρ u) (ρ HM))->(∀ u∈(arr.toList.take n).drop k,¬ Bl left (ρ u) (ρ HM))->Q (some k) st):wpS (model prog w) A E s (cc left HM arr 0 n H0) Q st:=by
 rw [<- OT n] at hn
 refine j5 C hk IK hm hn hh (mj R hn) λk kn k1 k2=>h k kn (λu hu=>?_) λu hu g=>?_
 ·obtain ⟨j,hj,ej⟩:=fS (i:=0) hu
  exact (h9 ej).mp (k1 j hj)
 ·obtain ⟨j,j1,j2,ej⟩:=pQ hu
  rw [<- OT j] at ej
  have:=k2 j j1 j2
  rw [(h9 ej).mpr g] at this
  cases this
theorem pS {c:Array Keyed}{n:Nat}{u x:Keyed}(e:c[n - 1]?=some x) (h:u∈(c.toList.take n).drop (n - 1)):u=x:=by
 obtain ⟨j,j1,j2,ej⟩:=pQ h
 rw [show j=n - 1 by lia,e] at ej
 exact (Option.some.inj ej).symm
theorem Ri.ge' {c:Array Keyed}(R:Ri ρ c.toList){n:Nat}{x y:Keyed}(h1:1<=n) (e:c[n - 1]?=some x) (hy:y∈c.toList.take n):ρ y<=ρ x:=R.ge (dQ e) (by rw [R4 h1];exact hy)
theorem Hi.pushA {x:Keyed}(L:Hi ρ a b out na nb) (ra:Ri ρ a.toList) (h1:1<=na) (hi:na - 1<a.size) (e:a[na - 1]?=some x) (h:∀ v∈b.toList.take nb,ρ v<=ρ x):Hi ρ a b (out.push x) (na - 1) nb :=
 L.stepA ra (RJ _ _) (oM (R4 h1) hi e) λu hu v hv=>pS e hv ▸ h u hu
theorem Hi.pushB {x:Keyed}(L:Hi ρ a b out na nb) (rb:Ri ρ b.toList) (h1:1<=nb) (hi:nb - 1<b.size) (e:b[nb - 1]?=some x) (h:∀ v∈a.toList.take na,ρ v<=ρ x):Hi ρ a b (out.push x) na (nb - 1) :=
 L.stepB rb (RJ _ _) (oM (R4 h1) hi e) λu hu v hv=>pS e hv ▸ h u hu
theorem Hi.fin (L:Hi ρ a b out na nb) (ra:Ri ρ a.toList) (rb:Ri ρ b.toList) (hf:∀ x,b[0]?=some x->∀ y∈a.toList,ρ x<ρ y) (e:nb=1):Mg ρ a b (b.extract 0 nb++a.extract 0 na++out.reverse):=by
 subst e
 exact L.first ra rb λx hx y hy=>by
  obtain ⟨j,hj,ej⟩:=fS (i:=0) hx
  obtain rfl:j=0:=Nat.lt_one_iff.mp hj
  exact Oo (hf _ ej y (OY hy))
structure Ht (ρ:Keyed->Nat) (a b:Array Keyed) (n:Nat) (out:Array Keyed) (na nb:Nat):Prop where
 L:Hi ρ a b out na nb
 ha:1<=na
 hb:2<=nb
 ha':na<=a.size
 hb':nb<=b.size
 hn:na+nb+n<=a.size+b.size
inductive J5 (ρ:Keyed->Nat) (a b:Array Keyed) (n:Nat):Option (Array Keyed)×Nat×Nat×Array Keyed×Nat->Prop
 |mk {out:Array Keyed}{na nb g:Nat}:Ht ρ a b n out na nb->J5 ρ a b n (none,na,nb,out,g)
inductive J6 (ρ:Keyed->Nat) (a b:Array Keyed) (n:Nat):Option (Array Keyed)×Nat×Nat×Array Keyed×Nat×Nat->Prop
 |mk {out:Array Keyed}{na nb p q:Nat}:Ht ρ a b n out na nb->J6 ρ a b n (none,na,nb,out,p,q)
inductive J7 (ρ:Keyed->Nat) (a b:Array Keyed) (n:Nat):H7->Prop
 |mk {out:Array Keyed}{na nb g p q:Nat}:Ht ρ a b n out na nb->J7 ρ a b n (none,na,nb,out,g,p,q)
variable {Q:ForInStep H7->SortSt->Prop}{n g k l p q:Nat}{z:SortSt}
theorem Ht.ia (T:Ht ρ a b n out na nb):na - 1<a.size:=N9 (Sn T.ha QL) T.ha'
theorem Ht.ib (T:Ht ρ a b n out na nb):nb - 1<b.size:=N9 (Sn (Pp T.hb) QL) T.hb'
theorem Ht.goA {Ix:Array Keyed}{m:Nat}(T:Ht ρ a b n out na nb) (L:Hi ρ a b Ix m nb) (h:m<=na) (e:m≠0):Ht ρ a b n Ix m nb:=⟨L,R5 e,T.hb,NZ h T.ha',T.hb',NZ (PY (PY h nb) n) T.hn⟩
theorem Ht.goB {Ix:Array Keyed}{m:Nat}(T:Ht ρ a b n out na nb) (L:Hi ρ a b Ix na m) (h:m<=nb) (e:2<=m):Ht ρ a b n Ix na m:=⟨L,T.ha,e,T.ha',NZ h T.hb',NZ (PY (QC h na) n) T.hn⟩
theorem Ht.upA {Ix:Array Keyed}(T:Ht ρ a b n out na nb) (L:Hi ρ a b Ix (na - 1) nb) (e:na - 1≠0):Ht ρ a b (n+1) Ix (na - 1) nb:=by
 have T':=T.goA L (RJ _ _) e
 exact ⟨L,T'.ha,T'.hb,T'.ha',T'.hb',by have:=T.hn;have:=T.ha;lia⟩
theorem Ht.upB {Ix:Array Keyed}(T:Ht ρ a b n out na nb) (L:Hi ρ a b Ix na (nb - 1)) (e:nb - 1≠1):Ht ρ a b (n+1) Ix na (nb - 1):=by
 have T':=T.goB L (RJ _ _) (by have:=T.hb;lia)
 exact ⟨L,T'.ha,T'.hb,T'.ha',T'.hb',by have:=T.hn;have:=T.hb;lia⟩
theorem Ht.mono {m:Nat}(T:Ht ρ a b n out na nb) (h:m<=n):Ht ρ a b m out na nb:=⟨T.L,T.ha,T.hb,T.ha',T.hb',NZ (QC h _) T.hn⟩
theorem Ht.nom (T:Ht ρ a b n out na nb) (h:a.size+b.size<=n):False:=by have:=T.ha;have:=T.hn;lia
theorem sC (X:Mx prog w A s kd a₀ ρ a b st) (K:Lq ρ a b st n (J7 ρ a b) Q z) (T:Ht ρ a b n out na nb) (hy:∀ y,a[na - 1]?=some y->∀ v∈b.toList.take nb,ρ v<=ρ y):wpS (model prog w) A E s (hi4 a b na nb out g k l) Q z:=by
 delta hi4
 refine NH (aX T.ia λx ex _=>?_)
 have L':=T.L.pushA X.ra T.ha T.ia ex (hy x ex)
 exact bb (λe=>NO (K.d _ (.mk (L'.done X.rb e)))) λe=>bg (λ_=>NO (K.x _ (.mk (T.upA L' e)))) λ_=>NO (K.y _ (.mk (T.upA L' e)))
theorem E3 (X:Mx prog w A s kd a₀ ρ a b st) (hf:∀ x,b[0]?=some x->∀ y∈a.toList,ρ x<ρ y) (K:Lq ρ a b st n (J7 ρ a b) Q z) (hk:kindOf z=kd) (T:Ht ρ a b n out na nb):wpS (model prog w) A E s (hi3 a b na nb out g k q) Q z:=by
 delta hi3
 refine NH (aX T.ia λy ey my=>NH (qT X.C hk (X.ma _ my) X.mb X.rb T.hb' (Sn (Pp T.hb) QL) λt ht h1 h2=>?_))
 have h3:∀ y',a[na - 1]?=some y'->∀ v∈b.toList.take t,ρ v<=ρ y':=λy' e' v hv=>by
  rw [ey] at e';cases e';exact Oo (h1 v hv)
 dsimp only
 refine bg (λ_=>?_) λh0=>?_
 ·have L':=T.L.stepB X.rb ht qS λu hu v hv=>NZ (X.ra.ge' T.ha ey hu) (Pt (h2 v hv))
  refine bb (λe=>NO (K.d _ (.mk (L'.fin X.ra X.rb hf e)))) λe=>bb (λe'=>?_) λe'=>sC X K (T.goB L' ht (OG (R5 e') (Op e))) h3
  subst e'
  have h0:=Pf b 0 (N9 (Pp T.hb) T.hb')
  refine absurd (hf _ h0 y my) (h2 _ (Ru.mpr ⟨0,?_⟩))
  rw [Pl,P0 (Pp T.hb)]
  exact dQ h0
 ·obtain rfl:t=nb:=Nat.le_antisymm ht (Nat.le_of_sub_eq_zero (Qf h0))
  exact sC X K T h3
theorem sD (X:Mx prog w A s kd a₀ ρ a b st) (hf:∀ x,b[0]?=some x->∀ y∈a.toList,ρ x<ρ y) (K:Lq ρ a b st n (J7 ρ a b) Q z) (hk:kindOf z=kd) (T:Ht ρ a b n out na nb) (hx:∀ x,b[nb - 1]?=some x->∀ v∈a.toList.take na,ρ v<=ρ x):wpS (model prog w) A E s (hi2 a b na nb out g k q) Q z:=by
 delta hi2
 refine NH (aX T.ib λx ex _=>?_)
 have L':=T.L.pushB X.rb (Oo T.hb) T.ib ex (hx x ex)
 exact bb (λe=>NO (K.d _ (.mk (L'.fin X.ra X.rb hf e)))) λe=>E3 X hf K hk ((T.upB L' e).mono (Pj n))
theorem sE (X:Mx prog w A s kd a₀ ρ a b st) (hf:∀ x,b[0]?=some x->∀ y∈a.toList,ρ x<ρ y) (K:∀ z,Sm st z->Lq ρ a b st n (J7 ρ a b) Q z) (sm:Sm st z) (T:Ht ρ a b n out na nb):wpS (model prog w) A E s (hi1 a b na nb out g p q) Q z:=by
 delta hi1
 refine NH (Qv ?_)
 have sm:Sm st (fg g z):=⟨sm.kind,sm.arr,sm.pend,sm.fail⟩
 have K:=K _ sm
 have hk:=sm.kind.trans X.hk
 refine NH (aX T.ib λx ex mx=>NH (qT X.C hk (X.mb _ mx) X.ma X.ra T.ha' (Sn T.ha QL) λt ht h1 h2=>?_))
 have h3:∀ x',b[nb - 1]?=some x'->∀ v∈a.toList.take t,ρ v<=ρ x':=λx' e' v hv=>by
  rw [ex] at e';cases e';exact h1 v hv
 dsimp only
 refine bg (λ_=>?_) λh0=>?_
 ·have L':=T.L.stepA X.ra ht qS λu hu v hv=>NZ (X.rb.ge' (Oo T.hb) ex hu) (Nat.le_of_not_le (h2 v hv))
  exact bb (λe=>NO (K.d _ (.mk (L'.done X.rb e)))) λe=>sD X hf K hk (T.goA L' ht e) h3
 ·obtain rfl:t=na:=Nat.le_antisymm ht (Nat.le_of_sub_eq_zero (Qf h0))
  exact sD X hf K hk T h3
theorem E4 {Q:ForInStep (Option (Array Keyed)×Nat×Nat×Array Keyed×Nat×Nat)->SortSt->Prop}(X:Mx prog w A s kd a₀ ρ a b st) (hf:∀ x,b[0]?=some x->∀ y∈a.toList,ρ x<ρ y) (K:Lq ρ a b st n (J6 ρ a b) Q z) (hk:kindOf z=kd) (T:Ht ρ a b n out na nb):wpS (model prog w) A E s (hiP a b na nb out g p q) Q z:=by
 delta hiP
 refine NH (aX T.ib λx ex mx=>NH (aX T.ia λv ev mv=>NH (gk X.C hk (X.mb _ mx) (X.ma _ mv) ?_)))
 dsimp only
 refine bg (λg1=>NH (aX T.ia λv2 M7 _=>?_)) λg1=>NH (aX T.ib λx2 Mq _=>?_)
 ·have L':=T.L.pushA X.ra T.ha T.ia M7 λy hy=>by
   rw [ev] at M7;cases M7
   exact NZ (X.rb.ge' (Oo T.hb) ex hy) (Oo (Om g1))
  exact bb (λe=>NO (K.d _ (.mk (L'.done X.rb e)))) λe=>bg (λ_=>NO (K.x _ (.mk (T.upA L' e)))) λ_=>NO (K.y _ (.mk (T.upA L' e)))
 ·have L':=T.L.pushB X.rb (Oo T.hb) T.ib Mq λy hy=>by
   rw [ex] at Mq;cases Mq
   exact NZ (X.ra.ge' T.ha ev hy) (Pt λc=>g1 (NK c))
  exact bb (λe=>NO (K.d _ (.mk (L'.fin X.ra X.rb hf e)))) λe=>bg (λ_=>NO (K.x _ (.mk (T.upB L' e)))) λ_=>NO (K.y _ (.mk (T.upB L' e)))
theorem J6.mono {i j:Nat}{c}(h:i<=j) (d:J6 ρ a b j c):J6 ρ a b i c:=by cases d with|mk T=>exact .mk (T.mono h)
theorem J7.mono {i j:Nat}{c}(h:i<=j) (d:J7 ρ a b j c):J7 ρ a b i c:=by cases d with|mk T=>exact .mk (T.mono h)
theorem E5 {Q:ForInStep (Option (Array Keyed)×Nat×Nat×Array Keyed×Nat)->SortSt->Prop}(X:Mx prog w A s kd a₀ ρ a b st) (hf:∀ x,b[0]?=some x->∀ y∈a.toList,ρ x<ρ y) (Kd:∀ c z,Sm st z->Dn' ρ a b c->Q (.done c) z) (Ky:∀ c z,Sm st z->J5 ρ a b (n+1) c->Q (.yield c) z) (sm:Sm st z) (T:Ht ρ a b n out na nb):wpS (model prog w) A E s (hiO a b na nb out g) Q z:=by
 delta hiO
 refine NH (hJ (I:=J6 ρ a b) (ρ:=ρ) (a:=a) (b:=b) (λi j c=>J6.mono) (λc d=>?_) (λi c z Q d sm K=>?_) (.mk T) sm λc z sm d=>?_)
 ·cases d with|mk T=>exact T.nom (QK _ _)
 ·cases d with|mk T=>exact E4 X hf (K z sm) (sm.kind.trans X.hk) T
 rcases d with d|d
 ·cases d with|mk m=>exact NO (Kd _ z sm (.mk m))
 cases d with
 |mk T =>
  refine NH (wpS_lift (PX ⟨rfl,NH (hJ (I:=J7 ρ a b) (ρ:=ρ) (a:=a) (b:=b) (λi j c=>J7.mono) (λc d=>?_) (λi c z Q d sm K=>?_) (.mk T) sm λc z sm d=>?_)⟩))
  ·cases d with|mk T=>exact T.nom (QK _ _)
  ·cases d with|mk T=>exact bg (λ_=>sE X hf K sm T) λ_=>sE X hf K sm T
  rcases d with d|d
  ·cases d with|mk m=>exact NO (Kd _ z sm (.mk m))
  cases d with
  |mk T =>
   dsimp only
   exact NH (Qv (NO (Ky _ _ ⟨sm.kind,sm.arr,sm.pend,sm.fail⟩ (.mk (T.mono (Pj _))))))
theorem wJ {Q:Array Keyed->SortSt->Prop}(C:Cm prog w A s kd a₀ ρ) (hk:kindOf st=kd) (ma:∀ p∈a.toList,p∈a₀.toList) (mb:∀ p∈b.toList,p∈a₀.toList) (ra:Ri ρ a.toList) (rb:Ri ρ b.toList) (h1:1<=a.size) (h2:1<=b.size)
  (hf:∀ x,b[0]?=some x->∀ y∈a.toList,ρ x<ρ y) (hl:∀ y,a[a.size - 1]?=some y->∀ x∈b.toList,ρ x<=ρ y) (h:∀ r z,Mg ρ a b r->Sm st z->Q r z):wpS (model prog w) A E s (j7 a b) Q st:=by
 rw [u0]
 have hi:=Sn h1 QL
 refine NH (wpS_lift (PX ⟨rfl,NH (aX hi λx0 e0 m0=>?_)⟩))
 have M8:Sm st st:=⟨rfl,rfl,rfl,rfl⟩
 have L0:Hi ρ a b #[x0] (a.size - 1) b.size:=(⟨List.Pairwise.nil,by simp,(λ_ _ _ h=>by cases h),(λ_ _ _ h=>by cases h)⟩:Hi ρ a b #[] a.size b.size).pushA ra h1 hi e0 λv hv=>hl x0 e0 v (OY hv)
 refine bb (λe=>NO (h _ _ (L0.done rb e) M8)) λq1=>bb (λe=>NO (h _ _ (L0.fin ra rb hf e) M8)) λq2=>NH (Q1 (NH (Qe (O2 (λi c z=>Sm st z/\J5 ρ a b i c) (Q:=λc z=>Sm st z/\Dn' ρ a b c) (λi c z _ _ d=>?_) (λc z d=>?_) ⟨M8,.mk ⟨L0,R5 q1,OG h2 (Op q2),RJ _ _,NE _,PY (RJ _ _) _⟩⟩) λc z d=>?_)))
 ·obtain ⟨sm,d⟩:=d
  cases d with|mk T=>exact E5 (n:=i) ⟨C,hk,ma,mb,ra,rb⟩ hf (λc z sm d=>⟨sm,d⟩) (λc z sm d=>⟨sm,d⟩) sm T
 ·obtain ⟨_,d⟩:=d
  cases d with|mk T=>exact (T.nom (Nat.le_max_right _ _)).elim
 ·obtain ⟨sm,d⟩:=d
  cases d with|mk m=>exact NO (h _ z m sm)
end
end S6
namespace S6
open PySem PyProof.Rows
def mgE (sa:Nat) (merged:Array Keyed):StateT SortSt Sem Bool:=do
 modify λs=>setArr s (merged.toList.zipIdx.foldl (λa (p,j)=>a.setIfInBounds (sa+j) p) (arrOf s))
 return (failedOf (<- get)).isNone
def mg2 (c:Array Keyed) (sa na sb nb:Nat):StateT SortSt Sem Bool:=do
 let x:=c.extract sa sb
 let y:=c.extract sb (sb+nb)
 let merged <- if na<=nb then j6 x y else j7 x y
 mgE sa merged
def mg1 (c:Array Keyed) (sa na sb nb:Nat):StateT SortSt Sem Bool:=do
 let some nb <- cc true (<- elem' c (sa+na - 1)) c sb nb (nb - 1)|return false
 if nb==0 then return true
 mg2 c sa na sb nb
theorem u6 (i:Nat):mergeAt' i=(do
 let s <- get
 let (some (sa,na,power),some (sb,nb,_)):=((pendingOf s)[i]?,(pendingOf s)[i+1]?)|unsupported "internal:list.sort.pending"
 set (setPending s (((pendingOf s).setIfInBounds i (sa,na+nb,power)).eraseIdxIfInBounds (i+1)))
 let some k <- cc false (<- elem' (arrOf s) sb) (arrOf s) sa na 0|return false
 if na - k==0 then return true
 mg1 (arrOf s) (sa+k) (na - k) sb nb):=rfl
section
variable {prog:Program}{w:World}{A:Around}{E:Value->Shared->Prop}{s:Shared}{a₀:Array Keyed}{kd:SortKind}{ρ:Keyed->Nat}{st:SortSt}
theorem oN (base:Nat):∀ (l:List Keyed) (n:Nat) (P m S:List Keyed),P.length=base+n->m.length=l.length->∀ arr:Array Keyed,arr.toList=P++m++S->((l.zipIdx n).foldl (λa (p:Keyed×Nat)=>a.setIfInBounds (base+p.2) p.1) arr).toList=P++l++S
 |[],n,P,m,S,h,hm,arr,e=>by
  have:m=[]:=OB.mp hm
  subst this
  simpa using e
 |x::l,n,P,m,S,h,hm,arr,e=>by
  cases m with
  |nil=>cases hm
  |cons y m =>
   rw [Sx,QH]
   have:=oN base l (n+1) (P++[x]) m S (by rw [NJ,h];rfl) (by simpa using hm) (arr.setIfInBounds (base+n) x) (by
    rw [Sd,e,<- h]
    simp)
   rw [this]
   simp
theorem E6 {x:SortSt}{Q:PUnit->SortSt->Prop}(h:Q ⟨⟩ x):wpS (model prog w) A E s (set x:StateT SortSt Sem PUnit) Q st:=by
 unfold wpS
 rw [StateT.run_set]
 exact NP ⟨rfl,h⟩
theorem pT {c:Array Keyed}{X Y Z:List Keyed}{i j:Nat}(e:c.toList=X++Y++Z) (hi:i=X.length) (hj:j=X.length+Y.length):(c.extract i j).toList=Y:=by
 subst hi hj
 rw [Pm,Py,e,NX,List.drop_left,Q4,List.take_left]
theorem lh {c:Array Keyed}{X Y Z:List Keyed}{i n:Nat}(e:c.toList=X++Y++Z) (hn:n=X.length+i) (hi:i<Y.length):c[n]?=some Y[i]:=by
 subst hn
 rw [<- OR,e,NX,OZ (by lia),Q4,OC hi,PC hi]
theorem Ri.at {l:List Keyed}(h:Ri ρ l){i j:Nat}(hj:j<l.length) (ij:i<=j):ρ (l[i]'(by lia))<=ρ l[j]:=by
 rcases O1 i j with q|q
 ·exact OO.mp h i j (by lia) hj q
 ·obtain rfl:i=j:=by lia
  exact NE _
theorem E7 {sa:Nat}{X m Z:List Keyed}{r:Array Keyed}{Q:Bool->SortSt->Prop}(e:(arrOf st).toList=X++m++Z) (hs:sa=X.length) (hl:m.length=r.toList.length) (hw:failedOf st=none) (h:∀ c:Array Keyed,c.toList=X++r.toList++Z->Q true (setArr st c)):wpS (model prog w) A E s (mgE sa r) Q st:=by
 subst hs
 unfold mgE
 refine NH (Qv (NH (Q1 (NO ?_))))
 have:∀ c,(failedOf (setArr st c)).isNone=true:=λc=>by show (failedOf st).isNone=true;rw [hw];rfl
 rw [this]
 exact h _ (oN X.length r.toList 0 X m Z rfl hl _ e)
theorem qU {left:Bool}{HM:Keyed}{c:Array Keyed}{P R S:List Keyed}{base n H0:Nat}{Q:Option Nat->SortSt->Prop}(C:Cm prog w A s kd a₀ ρ) (hk:kindOf st=kd) (IK:HM∈a₀.toList) (hm:∀ p∈c.toList,p∈a₀.toList) (e:c.toList=P++R++S) (r:Ri ρ R) (hb:base=P.length) (hn:n=R.length) (hh:H0<n)
  (h:∀ X Y,R=X++Y->(∀ x∈X,if left=true then ρ x<ρ HM else ρ x<=ρ HM)->(∀ x∈Y,if left=true then ρ HM<=ρ x else ρ HM<ρ x)->Q (some X.length) st):wpS (model prog w) A E s (cc left HM c base n H0) Q st:=by
 subst hb hn
 have at_:∀ {i}(hi:i<R.length),rk ρ c (P.length+i)=ρ R[i]:=λhi=>dP (lh e rfl hi)
 have sz:P.length+R.length<=c.size:=by rw [<- Pq,e,NJ,NJ];lia
 refine j5 C hk IK hm sz hh (λi j ij jn=>by rw [at_ (by lia),at_ jn];exact r.at jn ij) λk kn k1 k2=>?_
 have:=h (R.take k) (R.drop k) (Oi ..).symm (λx hx=>?_) (λx hx=>?_)
 ·rw [Of,Nat.min_eq_left kn] at this;exact this
 all_goals
  obtain ⟨j,hj,rfl⟩:=Ot.mp hx
  first|rw [Of] at hj|rw [P1] at hj
  first|rw [Q8]|rw [Q9]
  first|have:=k1 j (by lia)|have:=k2 (k+j) (by lia) (by lia)
  unfold Bd at this
  rw [at_ (by lia)] at this
  cases left<;>simpa using this
theorem E8 {sa na sb nb:Nat}{X RA RB Z:List Keyed}{Q:Bool->SortSt->Prop}(C:Cm prog w A s kd a₀ ρ) (hk:kindOf st=kd) (hm:∀ p∈(arrOf st).toList,p∈a₀.toList) (hw:failedOf st=none) (e:(arrOf st).toList=X++(RA++RB)++Z) (ra:Ri ρ RA) (rb:Ri ρ RB)
  (hsa:sa=X.length) (hsb:sb=X.length+RA.length) (LY:nb=RB.length) (a1:1<=RA.length) (b1:1<=RB.length) (hf:∀ x,RB[0]?=some x->∀ y∈RA,ρ x<ρ y) (hl:∀ y,RA[RA.length - 1]?=some y->∀ x∈RB,ρ x<ρ y)
  (h:∀ z R,Ri ρ R->R.Perm (RA++RB)->(arrOf z).toList=X++R++Z->kindOf z=kd->failedOf z=none->pendingOf z=pendingOf st->Q true z):wpS (model prog w) A E s (mg2 (arrOf st) sa na sb nb) Q st:=by
 subst hsa hsb LY
 unfold mg2
 have eX:((arrOf st).extract X.length (X.length+RA.length)).toList=RA:=pT (Z:=RB++Z) (by rw [e];simp) rfl rfl
 have eY:((arrOf st).extract (X.length+RA.length) (X.length+RA.length+RB.length)).toList=RB:=pT (X:=X++RA) (Z:=Z) (by rw [e];simp) (by simp) (by simp)
 dsimp only
 generalize (arrOf st).extract X.length (X.length+RA.length)=x at eX ⊢
 generalize (arrOf st).extract (X.length+RA.length) (X.length+RA.length+RB.length)=y at eY ⊢
 obtain ⟨x⟩:=x
 obtain ⟨y⟩:=y
 cases eX
 cases eY
 have mA:∀ p∈x,p∈a₀.toList:=λp hp=>hm p (by rw [e];simp [hp])
 have mB:∀ p∈y,p∈a₀.toList:=λp hp=>hm p (by rw [e];simp [hp])
 have last:∀ r z,Mg ρ ⟨x⟩ ⟨y⟩ r->Sm st z->wpS (model prog w) A E s (mgE X.length r) Q z:=λr z hr sm=>E7 (by rw [sm.arr];exact e) rfl hr.2.length_eq.symm (sm.fail.trans hw) λc ec=>h _ _ hr.1 hr.2 ec (sm.kind.trans hk) (sm.fail.trans hw) sm.pend
 exact bg (λ_=>NH (wI C hk mA mB ra rb a1 b1 (λa ha b hb=>Oo (hf a (by simpa using ha) b hb)) (λa ha=>hl a (by simpa using ha)) last)) λ_=>NH (wJ C hk mA mB ra rb a1 b1 (λa ha=>hf a (by simpa using ha)) (λa ha b hb=>Oo (hl a (by simpa using ha) b hb)) last)
theorem E9 {sa na sb nb:Nat}{X RA RB Z:List Keyed}{Q:Bool->SortSt->Prop}(C:Cm prog w A s kd a₀ ρ) (hk:kindOf st=kd) (hm:∀ p∈(arrOf st).toList,p∈a₀.toList) (hw:failedOf st=none) (e:(arrOf st).toList=X++(RA++RB)++Z) (ra:Ri ρ RA) (rb:Ri ρ RB)
  (hsa:sa=X.length) (hna:na=RA.length) (hsb:sb=X.length+RA.length) (LY:nb=RB.length) (a1:1<=RA.length) (b1:1<=RB.length) (hf:∀ x,RB[0]?=some x->∀ y∈RA,ρ x<ρ y)
  (h:∀ z R,Ri ρ R->R.Perm (RA++RB)->(arrOf z).toList=X++R++Z->kindOf z=kd->failedOf z=none->pendingOf z=pendingOf st->Q true z):wpS (model prog w) A E s (mg1 (arrOf st) sa na sb nb) Q st:=by
 subst hsa hna LY
 unfold mg1
 have at_:(arrOf st)[X.length+RA.length - 1]?=some RA[RA.length - 1]:=lh (X:=X) (Z:=RB++Z) (by rw [e];simp) (by lia) (by lia)
 refine NH (aX (Se.mp at_).1 λy0 ey0 my0=>?_)
 rw [at_] at ey0
 have le:∀ x∈RA,ρ x<=ρ y0:=λx hx=>by
  obtain ⟨j,hj,rfl⟩:=Ot.mp hx
  rw [<- Option.some.inj ey0]
  exact ra.at (by lia) (by lia)
 refine NH (qU (P:=X++RA) (S:=Z) C hk (hm _ my0) hm (by rw [e];simp) rb (by rw [hsb,NJ]) rfl (by lia) λB1 B2 eB k1 k2=>?_)
 subst eB
 simp only [OV] at k1 k2
 have n1:1<=B1.length:=by
  cases B1 with
  |cons b B1=>exact QK ..
  |nil =>
   cases B2 with
   |nil=>exact b1
   |cons b B2 =>
    have g1:=k2 b NM
    have g2:=hf b rfl y0 (by rw [<- Option.some.inj ey0];exact Pu _)
    lia
 refine bb (λg=>absurd g (by lia)) λ_=>?_
 obtain ⟨r1,r2,r3⟩:=Pz.mp rb
 refine E8 (Z:=B2++Z) C hk hm hw (by rw [e];simp) ra r1 rfl hsb rfl a1 n1 (λx hx=>hf x ?_) (λy hy x hx=>?_) λz R rR pR ez kz wz pz=>h z (R++B2) (rR.app r2 λx hx y hy=>?_) ?_ (by rw [ez];simp) kz wz pz
 ·rw [OC (by lia)];exact hx
 ·rw [PC (by lia)] at hy
  rw [Option.some.inj (hy.symm.trans ey0)]
  exact k1 x hx
 ·rcases NL.mp (pR.mem_iff.mp hx) with q|q
  ·exact NZ (le x q) (k2 y hy)
  ·exact r3 x q y hy
 ·rw [<- NX]
  exact pR.append_right _
theorem wK {i:Nat}{P RA RB S:List Keyed}{pre post:List (Nat×Nat×Nat)}{pw q:Nat}{Q:Bool->SortSt->Prop}(C:Cm prog w A s kd a₀ ρ) (hk:kindOf st=kd) (hm:∀ p∈(arrOf st).toList,p∈a₀.toList) (hw:failedOf st=none)
  (e:(arrOf st).toList=P++(RA++RB)++S) (ra:Ri ρ RA) (rb:Ri ρ RB) (na:1<=RA.length) (nb:1<=RB.length)
  (ep:(pendingOf st).toList=pre++(P.length,RA.length,pw)::(P.length+RA.length,RB.length,q)::post) (hi:i=pre.length)
  (h:∀ z R,Ri ρ R->R.Perm (RA++RB)->(arrOf z).toList=P++R++S->kindOf z=kd->failedOf z=none->(pendingOf z).toList=pre++(P.length,RA.length+RB.length,pw)::post->Q true z) :
  wpS (model prog w) A E s (mergeAt' i) Q st:=by
 rw [u6]
 refine NH (Q1 ?_)
 have p1:(pendingOf st)[i]?=some (P.length,RA.length,pw):=by rw [<- OR,ep,hi];simp
 have p2:(pendingOf st)[i+1]?=some (P.length+RA.length,RB.length,q):=by rw [<- OR,ep,hi];simp
 have p3:(((pendingOf st).setIfInBounds i (P.length,RA.length+RB.length,pw)).eraseIdxIfInBounds (i+1)).toList=pre++(P.length,RA.length+RB.length,pw)::post:=by
  rw [Array.toList_eraseIdxIfInBounds,Sd,ep,hi]
  simp [List.eraseIdx_append_of_length_le]
 rw [p1,p2]
 refine NH (E6 ?_)
 generalize ((pendingOf st).setIfInBounds i (P.length,RA.length+RB.length,pw)).eraseIdxIfInBounds (i+1)=pd at p3 ⊢
 have at_:(arrOf st)[P.length+RA.length]?=some RB[0]:=lh (X:=P++RA) (Y:=RB) (Z:=S) (by rw [e];simp) (by simp) nb
 refine NH (aX (Se.mp at_).1 λx0 e0 m0=>?_)
 rw [at_] at e0
 have le:∀ y∈RB,ρ x0<=ρ y:=λy hy=>by
  obtain ⟨j,hj,rfl⟩:=Ot.mp hy
  rw [<- Option.some.inj e0]
  exact rb.at hj (OM _)
 refine NH (qU (P:=P) (S:=RB++S) C hk (hm _ m0) hm (by rw [e];simp) ra rfl rfl na λA1 A2 eA k1 k2=>?_)
 subst eA
 simp only [Oe,Pa] at k1 k2
 obtain ⟨r1,r2,r3⟩:=Pz.mp ra
 have l2:(A1++A2).length - A1.length=A2.length:=by simp
 refine bb (λg=>NO (h _ _ (ra.app rb λx hx y hy=>?_) (List.Perm.refl _) e hk hw p3)) λg=>?_
 ·obtain rfl:A2=[]:=OB.mp (l2 ▸ g)
  rw [N4] at hx
  exact NZ (k1 x hx) (le y hy)
 ·refine E9 (st:=setPending st pd) (X:=P++A1) (RA:=A2) (RB:=RB) (Z:=S) C hk hm hw (by show (arrOf st).toList=_;rw [e];simp) r2 rb (by simp) l2 (by simp;lia) rfl (by lia) nb (λx hx y hy=>?_) λz R rR pR ez kz wz pz=>h z (A1++R) (Ri.app r1 rR λx hx y hy=>?_) ?_ (by rw [ez];simp) kz wz (by rw [pz];exact p3)
  ·rw [PC nb] at hx
   rw [<- Option.some.inj hx,Option.some.inj e0]
   exact k2 y hy
  ·rcases NL.mp (pR.mem_iff.mp hy) with q|q
   ·exact r3 x hx y q
   ·exact NZ (k1 x hx) (le y q)
  ·rw [NX]
   exact pR.append_left _
end
end S6
namespace S6
open PySem PyProof.Rows
def gp (lo a Jp:Nat):StateT SortSt Sem AscSt :=
 forIn [a:Jp] ((none,a):AscSt) λ_ c=>do
  let x <- ltAt' (lo+c.snd) (lo+c.snd - 1)
  match x with
  |some Km=>if Km=true then pure (ForInStep.done (none,c.snd)) else pure (ForInStep.yield (none,c.snd+1))
  |_=>pure (ForInStep.done (some none,c.snd))
def fZ (lo n Jp:Nat):StateT SortSt Sem (Option Nat):=do
 reverseSlice' lo (lo+n)
 let c <- gp lo n Jp
 match c.fst with
 |some r=>pure r
 |none=>pure (some c.snd)
def iD (lo n Jp:Nat):StateT SortSt Sem DescSt :=
 forIn [n:Jp] ((none,n,0):DescSt) λ_ c=>do
  let x <- ltAt' (lo+c.snd.fst) (lo+c.snd.fst - 1)
  match x with
  |some Km =>
   if Km=true then
    if c.snd.snd>0 then do
     reverseSlice' (lo+c.snd.fst - (c.snd.snd+1)) (lo+c.snd.fst)
     pure (ForInStep.yield (none,c.snd.fst+1,0))
    else pure (ForInStep.yield (none,c.snd.fst+1,0))
   else do
    let x <- ltAt' (lo+c.snd.fst - 1) (lo+c.snd.fst)
    match x with
    |some M9 =>
     if M9=true then pure (ForInStep.done (none,c.snd.fst,c.snd.snd))
     else pure (ForInStep.yield (none,c.snd.fst+1,c.snd.snd+1))
    |_=>pure (ForInStep.done (some none,c.snd.fst,c.snd.snd))
  |_=>pure (ForInStep.done (some none,c.snd.fst,c.snd.snd))
def fD (lo n Jp:Nat):StateT SortSt Sem (Option Nat):=do
 liftM (rule "list.sort.descending-run")
 let c <- iD lo (n+1) Jp
 match c.fst with
 |some r=>pure r
 |none =>
  if c.snd.snd>0 then do
   reverseSlice' (lo+c.snd.fst - (c.snd.snd+1)) (lo+c.snd.fst)
   fZ lo c.snd.fst Jp
  else fZ lo c.snd.fst Jp
theorem uH (lo Jp:Nat):countRun' lo Jp=(do
  let c <- gp lo 1 Jp
  match c.fst with
  |some r=>pure r
  |none =>
   if (c.snd==Jp)=true then pure (some c.snd)
   else if c.snd>1 then do
    let x <- ltAt' lo (lo+c.snd - 1)
    match x with
    |some rose=>if rose=true then pure (some c.snd) else do
      reverseSlice' lo (lo+c.snd)
      fD lo c.snd Jp
    |_=>pure none
   else fD lo c.snd Jp):=by
 rw [countRun'_eq]
 unfold fD fZ iD gp
 show (bind _ _:StateT SortSt Sem (Option Nat))=bind _ _
 refine Ow (bind _) ?_
 funext c
 obtain ⟨r,n⟩:=c
 cases r with
 |some r=>rfl
 |none =>
  dsimp only
  split
  ·rfl
  ·split
   ·congr 1
    funext x
    cases x with
    |none=>rfl
    |some rose =>
     dsimp only
     split
     ·rfl
     ·congr 1
      funext _r
      congr 1;funext _u;congr 1;congr 1;funext s2;obtain ⟨r2,n2,q2⟩:=s2
      cases r2 with
      |some r2=>rfl
      |none =>
       dsimp only
       split
       ·congr 1;funext _v;(congr 1;funext _w;congr 1;(funext s3;obtain ⟨r3,n3⟩:=s3;cases r3<;>rfl))
       ·(congr 1;funext _w;congr 1;(funext s3;obtain ⟨r3,n3⟩:=s3;cases r3<;>rfl))
   ·skip
    congr 1;funext _u;congr 1;congr 1;funext s2;obtain ⟨r2,n2,q2⟩:=s2
    cases r2 with
    |some r2=>rfl
    |none =>
     dsimp only
     split
     ·congr 1;funext _v;(congr 1;funext _w;congr 1;(funext s3;obtain ⟨r3,n3⟩:=s3;cases r3<;>rfl))
     ·(congr 1;funext _w;congr 1;(funext s3;obtain ⟨r3,n3⟩:=s3;cases r3<;>rfl))
end S6
namespace S6
open PySem PyProof.Rows
def rl (ρ:Keyed->Nat) (lo:Nat) (xs:Array Keyed) (i:Nat):Nat:=rk ρ xs (lo+i)
def UpL (ρ:Keyed->Nat) (lo:Nat) (xs:Array Keyed) (n:Nat):Prop:=∀ i j,i<=j->j<n->rl ρ lo xs i<=rl ρ lo xs j
def DnL (ρ:Keyed->Nat) (lo:Nat) (xs:Array Keyed) (n:Nat):Prop:=∀ i j,i<=j->j<n->rl ρ lo xs j<=rl ρ lo xs i
structure OkL (kd:SortKind) (a₀:Array Keyed) (lo:Nat) (pf:Nat->Option Keyed) (pd:Array (Nat×Nat×Nat)) (st:SortSt):Prop where
 perm:(arrOf st).Perm a₀
 kind:kindOf st=kd
 well:failedOf st=none
 runs:pendingOf st=pd
 pfx:∀ k,k<lo->(arrOf st)[k]?=pf k
section
variable {prog:Program}{w:World}{A:Around}{E:Value->Shared->Prop}{s:Shared}{a₀:Array Keyed}{kd:SortKind}{ρ:Keyed->Nat}{st:SortSt}{lo:Nat}{pf:Nat->Option Keyed}{pd:Array (Nat×Nat×Nat)}
theorem OkL.sz (o:OkL kd a₀ lo pf pd st):(arrOf st).size=a₀.size:=o.perm.size_eq
theorem OkL.rev {i j:Nat}(o:OkL kd a₀ lo pf pd st) (hi:lo<=i) (hj:j<=a₀.size):OkL kd a₀ lo pf pd (setArr st (mirror (arrOf st) i j ((j - i) / 2))) :=
 ⟨(mirror_perm _ _ _ _).trans o.perm,o.kind,o.well,o.runs,λk hk=>by
  show (mirror (arrOf st) i j ((j - i) / 2))[k]?=_
  rw [getElem?_mirror_all (by rw [o.sz];exact hj),NB (by lia)]
  exact o.pfx k hk⟩
theorem OkL.down {n d:Nat}(o:OkL kd a₀ lo pf pd st) (hn:n<a₀.size) (hd:d<=n) (h:lo<=n - d):OkL kd a₀ lo pf pd (setArr st (bubble (arrOf st) n d)) :=
 ⟨(bubble_perm _ _ _).trans o.perm,o.kind,o.well,o.runs,λk hk=>by
  show (bubble (arrOf st) n d)[k]?=_
  rw [getElem?_bubble (by rw [o.sz];exact hn) d hd,NB (by lia),NB (by lia)]
  exact o.pfx k hk⟩
theorem li {xs:Array Keyed}{i j:Nat}(hj:lo+j<=xs.size) (k:Nat) :
  rl ρ lo (mirror xs (lo+i) (lo+j) ((lo+j - (lo+i)) / 2)) k=rl ρ lo xs (if i<=k/\k<j then i+j - 1 - k else k):=by
 unfold rl
 rw [CJ hj]
 by_cases q:i<=k/\k<j
 ·rw [NC (by lia),NC q];congr 1;lia
 ·rw [NB (by lia),NB q]
theorem Aa {xs:Array Keyed}{n d:Nat}(hn:lo+n<xs.size) (hd:d<=n) (k:Nat) :
  rl ρ lo (bubble xs (lo+n) d) k=rl ρ lo xs (if k=n - d then n else if n - d<k/\k<=n then k - 1 else k):=by
 unfold rl
 rw [z4 hn (by lia)]
 by_cases q:k=n - d
 ·rw [NC (by lia),NC q]
 ·rw [NB (by lia),NB q]
  by_cases q2:n - d<k/\k<=n
  ·rw [NC (by lia),NC q2];congr 1;lia
  ·rw [NB (by lia),NB q2]
theorem fL {x y i j:Nat}{Q:Option Bool->SortSt->Prop}(C:Cm prog w A s kd a₀ ρ) (o:OkL kd a₀ lo pf pd st) (hx:x=lo+i) (hy:y=lo+j) (hi:lo+i<a₀.size) (hj:lo+j<a₀.size) (h:Q (some (decide (rl ρ lo (arrOf st) i<rl ρ lo (arrOf st) j))) st) :
  wpS (model prog w) A E s (ltAt' x y) Q st:=by
 subst hx hy
 rw [ltAt'_eq]
 refine NH (Q1 ?_)
 dsimp only
 have mem:∀ p∈(arrOf st).toList,p∈a₀.toList:=λp hp=>(O3.mp o.perm).mem_iff.mp hp
 refine NH (aX (by rw [o.sz];exact hi) λx ex mx=>NH (aX (by rw [o.sz];exact hj) λy ey my=>gk C o.kind (mem _ mx) (mem _ my) ?_))
 unfold rl at h
 rw [dP ex,dP ey] at h
 exact h
end
end S6
namespace S6
open PySem PyProof.Rows
section
variable {prog:Program}{w:World}{A:Around}{E:Value->Shared->Prop}{s:Shared}{a₀:Array Keyed}{kd:SortKind}{ρ:Keyed->Nat}{st:SortSt}{lo:Nat}{pf:Nat->Option Keyed}{pd:Array (Nat×Nat×Nat)}
theorem UpL.more {xs:Array Keyed}{k:Nat}(u:UpL ρ lo xs k) (h:k=0\/rl ρ lo xs (k - 1)<=rl ρ lo xs k):UpL ρ lo xs (k+1):=λi j ij jk=>by
 rcases O1 j k with q|q
 ·exact u i j ij q
 ·obtain rfl:j=k:=by lia
  rcases O1 i j with q|q
  ·have:=u i (j - 1) (by lia) (by lia)
   lia
  ·obtain rfl:i=j:=by lia
   exact NE _
theorem DnL.more {xs ys:Array Keyed}{k:Nat}(u:DnL ρ lo xs k) (e:∀ i,rl ρ lo ys i=rl ρ lo xs i) (h:k=0\/rl ρ lo xs k<=rl ρ lo xs (k - 1)):DnL ρ lo ys (k+1):=λi j ij jk=>by
 rw [e,e]
 rcases O1 j k with q|q
 ·exact u i j ij q
 ·obtain rfl:j=k:=by lia
  rcases O1 i j with q|q
  ·have:=u i (j - 1) (by lia) (by lia)
   lia
  ·obtain rfl:i=j:=by lia
   exact NE _
theorem qV {a n:Nat}{Q:AscSt->SortSt->Prop}(C:Cm prog w A s kd a₀ ρ) (o:OkL kd a₀ lo pf pd st) (hn:lo+n<=a₀.size) (h1:1<=a) (ha:a<=n) (u:UpL ρ lo (arrOf st) a)
  (h:∀ m,a<=m->m<=n->UpL ρ lo (arrOf st) m->(m<n->rl ρ lo (arrOf st) m<rl ρ lo (arrOf st) (m - 1))->Q (none,m) st):wpS (model prog w) A E s (gp lo a n) Q st:=by
 unfold gp
 refine O2 (λk c z=>z=st/\c=(none,k)/\UpL ρ lo (arrOf st) k) ?_ ?_ ⟨rfl,rfl,u⟩
 ·rintro k c z l1 l2 ⟨rfl,rfl,uk⟩
  dsimp only
  have e2:lo+k - 1=lo+(k - 1):=by lia
  refine NH (fL (i:=k) (j:=k - 1) C o rfl e2 (by lia) (by lia) ?_)
  dsimp only
  by_cases g:rl ρ lo (arrOf z) k<rl ρ lo (arrOf z) (k - 1)
  ·rw [NK g]
   exact NO (h k l1 (by lia) uk λ_=>g)
  ·rw [NS g]
   exact NO ⟨rfl,rfl,uk.more (.inr (Pt g))⟩
 ·rintro c z ⟨rfl,rfl,uk⟩
  rw [Nat.max_eq_right ha] at uk ⊢
  exact h n ha (NE _) uk λq=>absurd q (Ps _)
theorem pU {m n:Nat}{Q:Option Nat->SortSt->Prop}(C:Cm prog w A s kd a₀ ρ) (o:OkL kd a₀ lo pf pd st) (hn:lo+n<=a₀.size) (h1:1<=m) (hm:m<=n) (d:DnL ρ lo (arrOf st) m)
  (h:∀ k z,OkL kd a₀ lo pf pd z->1<=k->k<=n->UpL ρ lo (arrOf z) k->Q (some k) z):wpS (model prog w) A E s (fZ lo m n) Q st:=by
 unfold fZ
 refine NH (wpS_reverse ?_)
 have o':OkL kd a₀ lo pf pd (setArr st (mirror (arrOf st) lo (lo+m) ((lo+m - lo) / 2))):=o.rev (NE _) (by lia)
 have hs:lo+m<=(arrOf st).size:=by rw [o.sz];lia
 refine NH (qV C o' hn h1 hm (λi j ij jm=>?_) λk k1 k2 uk _=>NO (h k _ o' (by lia) k2 uk))
 have e:=li (ρ:=ρ) (lo:=lo) (xs:=arrOf st) (i:=0) (j:=m) hs
 show rl ρ lo (mirror (arrOf st) (lo+0) (lo+m) ((lo+m - (lo+0)) / 2)) i<=rl ρ lo (mirror (arrOf st) (lo+0) (lo+m) ((lo+m - (lo+0)) / 2)) j
 rw [e,e,NC (by lia),NC (by lia)]
 exact d _ _ (by lia) (by lia)
def LkL (ρ:Keyed->Nat) (lo:Nat) (xs:Array Keyed) (m e:Nat):Prop:=e+1<=m/\∀ i,m - (e+1)<=i->i<m->rl ρ lo xs i=rl ρ lo xs (m - 1)
theorem LkL.rev {xs:Array Keyed}{m e:Nat}(l:LkL ρ lo xs m e) (hm:lo+m<=xs.size) (k:Nat):rl ρ lo (mirror xs (lo+m - (e+1)) (lo+m) ((lo+m - (lo+m - (e+1))) / 2)) k=rl ρ lo xs k:=by
 have l1:=l.1
 rw [show lo+m - (e+1)=lo+(m - (e+1)) by lia,li hm]
 split
 ·rename_i q
  rw [l.2 _ (by lia) (by lia),l.2 k q.1 q.2]
 ·rfl
theorem Ab {m n:Nat}{Q:DescSt->SortSt->Prop}(C:Cm prog w A s kd a₀ ρ) (o:OkL kd a₀ lo pf pd st) (hn:lo+n<=a₀.size) (h1:1<=m) (hm:m<=n) (d:DnL ρ lo (arrOf st) m)
  (h:∀ k e z,OkL kd a₀ lo pf pd z->m<=k->k<=n->DnL ρ lo (arrOf z) k->LkL ρ lo (arrOf z) k e->Q (none,k,e) z):wpS (model prog w) A E s (iD lo m n) Q st:=by
 unfold iD
 refine O2 (λk c z=>∃ e,c=(none,k,e)/\OkL kd a₀ lo pf pd z/\DnL ρ lo (arrOf z) k/\LkL ρ lo (arrOf z) k e) ?_ ?_ ⟨0,rfl,o,d,h1,λi i1 i2=>by rw [show i=m - 1 by lia]⟩
 ·rintro k c z l1 l2 ⟨e,rfl,oz,dz,lz⟩
  dsimp only
  have e2:lo+k - 1=lo+(k - 1):=by lia
  have le:=lz.1
  have one:∀ xs:Array Keyed,LkL ρ lo xs (k+1) 0:=λxs=>⟨by lia,λi i1 i2=>by rw [show i=k+1 - 1 by lia]⟩
  refine NH (fL (i:=k) (j:=k - 1) C oz rfl e2 (by lia) (by lia) ?_)
  dsimp only
  by_cases g:rl ρ lo (arrOf z) k<rl ρ lo (arrOf z) (k - 1)
  ·rw [NK g]
   simp only [OV]
   split
   ·exact NH (wpS_reverse (NO ⟨0,rfl,oz.rev (by lia) (by lia),dz.more (lz.rev (by rw [oz.sz];lia)) (.inr (Oo g)),one _⟩))
   ·exact NO ⟨0,rfl,oz,dz.more (λ_=>rfl) (.inr (Oo g)),one _⟩
  ·rw [NS g]
   simp only [Oe,Pa]
   refine NH (fL (i:=k - 1) (j:=k) C oz e2 rfl (by lia) (by lia) ?_)
   dsimp only
   by_cases g2:rl ρ lo (arrOf z) (k - 1)<rl ρ lo (arrOf z) k
   ·rw [NK g2]
    simp only [OV]
    exact NO (h k e z oz l1 (by lia) dz lz)
   ·rw [NS g2]
    simp only [Oe,Pa]
    refine NO ⟨e+1,rfl,oz,dz.more (λ_=>rfl) (.inr (Pt g2)),by lia,λi i1 i2=>?_⟩
    rw [show k+1 - 1=k by lia]
    rcases O1 i k with q|q
    ·rw [lz.2 i (by lia) q];lia
    ·rw [show i=k by lia]
 ·rintro c z ⟨e,rfl,oz,dz,lz⟩
  rw [Nat.max_eq_right hm] at dz lz ⊢
  exact h n e z oz hm (NE _) dz lz
theorem ni {m n:Nat}{Q:Option Nat->SortSt->Prop}(C:Cm prog w A s kd a₀ ρ) (o:OkL kd a₀ lo pf pd st) (hn:lo+n<=a₀.size) (hm:m+1<=n) (d:DnL ρ lo (arrOf st) (m+1))
  (h:∀ k z,OkL kd a₀ lo pf pd z->1<=k->k<=n->UpL ρ lo (arrOf z) k->Q (some k) z):wpS (model prog w) A E s (fD lo m n) Q st:=by
 unfold fD
 refine NH (wpS_lift (PX ⟨rfl,NH (Ab C o hn (by lia) hm d λk e z oz k1 k2 dz lz=>?_)⟩))
 dsimp only
 have le:=lz.1
 split
 ·refine NH (wpS_reverse (pU C (oz.rev (by lia) (by lia)) hn (by lia) k2 (λi j ij jk=>?_) h))
  have e:=lz.rev (by rw [oz.sz];lia)
  show rl ρ lo (mirror _ _ _ _) j<=rl ρ lo (mirror _ _ _ _) i
  rw [e,e]
  exact dz i j ij jk
 ·exact pU C oz hn (by lia) k2 dz h
theorem x6 {n:Nat}{Q:Option Nat->SortSt->Prop}(C:Cm prog w A s kd a₀ ρ) (o:OkL kd a₀ lo pf pd st) (hn:lo+n<=a₀.size) (h1:1<=n)
  (h:∀ k z,OkL kd a₀ lo pf pd z->1<=k->k<=n->UpL ρ lo (arrOf z) k->Q (some k) z):wpS (model prog w) A E s (countRun' lo n) Q st:=by
 rw [uH]
 refine NH (qV C o hn (NE _) h1 (λi j ij j1=>by rw [show i=j by lia];exact NE _) λm m1 m2 um lm=>?_)
 dsimp only
 split
 ·rename_i q
  exact NO (h m st o m1 m2 um)
 ·rename_i q
  have mn:m<n:=by
   rcases O1 m n with z|z
   ·exact z
   ·exact (q (Pb.mpr (by lia))).elim
  have gm:=lm mn
  split
  ·have e2:lo+m - 1=lo+(m - 1):=by lia
   refine NH (fL (i:=0) (j:=m - 1) C o rfl e2 (by lia) (by lia) ?_)
   dsimp only
   by_cases g:rl ρ lo (arrOf st) 0<rl ρ lo (arrOf st) (m - 1)
   ·rw [NK g]
    exact NO (h m st o m1 m2 um)
   ·rw [NS g]
    have hs:lo+m<=(arrOf st).size:=by rw [o.sz];lia
    have e:=li (ρ:=ρ) (lo:=lo) (xs:=arrOf st) (i:=0) (j:=m) hs
    refine NH (wpS_reverse (ni C (o.rev (NE _) (by lia)) hn mn (λi j ij jm=>?_) h))
    have all:∀ i,i<m->rl ρ lo (arrOf st) i=rl ρ lo (arrOf st) (m - 1):=λi im=>by
     have a1:=um 0 i (by lia) im
     have a2:=um i (m - 1) (by lia) (by lia)
     lia
    show rl ρ lo (mirror (arrOf st) (lo+0) (lo+m) ((lo+m - (lo+0)) / 2)) j<=rl ρ lo (mirror (arrOf st) (lo+0) (lo+m) ((lo+m - (lo+0)) / 2)) i
    rw [e,e]
    rcases O1 j m with q1|q1
    ·rw [NC (by lia),NC (by lia),all _ (by lia),all (0+m - 1 - i) (by lia)]
     exact NE _
    ·obtain rfl:j=m:=by lia
     rw [NB (by lia)]
     split
     ·rw [all (0+j - 1 - i) (by lia)];lia
     ·rw [show i=j by lia];exact NE _
  ·refine ni C o hn mn (λi j ij jm=>?_) h
   obtain rfl:m=1:=by lia
   rcases O1 i j with q1|q1
   ·obtain ⟨rfl,rfl⟩:i=0/\j=1:=by lia
    exact Oo gm
   ·rw [show i=j by lia];exact NE _
theorem CM {n ok:Nat}{Q:Bool->SortSt->Prop}(C:Cm prog w A s kd a₀ ρ) (o:OkL kd a₀ lo pf pd st) (hn:lo+n<=a₀.size) (hk:ok<=n) (u:UpL ρ lo (arrOf st) ok)
  (h:∀ z,OkL kd a₀ lo pf pd z->UpL ρ lo (arrOf z) n->Q true z):wpS (model prog w) A E s (binarySort' lo n ok) Q st:=by
 rw [binarySort'_eq]
 have first:∀ {k:Nat},k<=max ok 1->UpL ρ lo (arrOf st) k:=fun {k} hk1 i j ij jk=>by
  rcases O1 j ok with q|q
  ·exact u i j ij q
  ·rw [show i=j by lia];exact NE _
 refine NH (Qe (O2 (λk c z=>c=(none,())/\OkL kd a₀ lo pf pd z/\∀ i,i<=k->i<=n->UpL ρ lo (arrOf z) i) (Q:=λc z=>c=(none,())/\OkL kd a₀ lo pf pd z/\UpL ρ lo (arrOf z) n) ?_ ?_ ⟨rfl,o,λi i1 _=>first i1⟩) ?_)
 ·rintro k c z l1 l2 ⟨rfl,oz,uz⟩
  have uk:=uz k (NE _) (by lia)
  have kz:lo+k<(arrOf z).size:=by rw [oz.sz];lia
  refine NH (Qe (O2
   (λi c y=>y=z/\∃ l r,c=(none,l,r)/\l<=r/\r<=k/\r+i<=l+k/\(∀ j,j<l->rl ρ lo (arrOf z) j<=rl ρ lo (arrOf z) k)/\∀ j,r<=j->j<k->rl ρ lo (arrOf z) k<rl ρ lo (arrOf z) j)
   (Q:=λc y=>y=z/\∃ l r,c=(none,l,r)/\l<=k/\(∀ j,j<l->rl ρ lo (arrOf z) j<=rl ρ lo (arrOf z) k)/\∀ j,l<=j->j<k->rl ρ lo (arrOf z) k<rl ρ lo (arrOf z) j) ?_ ?_
   ⟨rfl,0,k,rfl,OM _,NE _,by lia,λj j0=>absurd j0 (RG _),λj j1 j2=>by lia⟩) ?_)
  ·rintro i c y i1 i2 ⟨rfl,l,r,rfl,lr,rk',lk,lw,hi⟩
   dsimp only
   split
   ·obtain rfl:l=r:=by lia
    exact NO ⟨rfl,l,l,rfl,rk',lw,hi⟩
   ·refine NH (fL (i:=k) (j:=(l+r) / 2) C oz rfl rfl (by lia) (by lia) ?_)
    dsimp only
    by_cases g:rl ρ lo (arrOf y) k<rl ρ lo (arrOf y) ((l+r) / 2)
    ·rw [NK g]
     refine NO ⟨rfl,l,(l+r) / 2,rfl,by lia,by lia,by lia,lw,λj j1 j2=>?_⟩
     exact N9 g (uk _ _ j1 j2)
    ·rw [NS g]
     refine NO ⟨rfl,(l+r) / 2+1,r,rfl,by lia,rk',by lia,λj j1=>?_,hi⟩
     exact NZ (uk _ _ (by lia) (by lia)) (Pt g)
  ·rintro c y ⟨rfl,l,r,rfl,lr,rk',lk,lw,hi⟩
   obtain rfl:l=r:=by lia
   exact ⟨rfl,l,l,rfl,rk',lw,hi⟩
  ·rintro c y ⟨rfl,l,r,rfl,lk,lw,hi⟩
   dsimp only
   rw [moveDown'_eq]
   have ed:lo+k - (lo+l)=k - l:=by lia
   have em:∀ i,rl ρ lo (bubble (arrOf y) (lo+k) (lo+k - (lo+l))) i=rl ρ lo (arrOf y) (if i=l then k else if l<i/\i<=k then i - 1 else i):=λi=>by
    rw [ed,Aa kz (by lia),show k - (k - l)=l by lia]
   refine NH (Qv (NO ⟨rfl,oz.down (by lia) (by lia) (by lia),λm m1 m2 i j ij jm=>?_⟩))
   show rl ρ lo (bubble (arrOf y) (lo+k) (lo+k - (lo+l))) i<=rl ρ lo (bubble (arrOf y) (lo+k) (lo+k - (lo+l))) j
   rw [em,em]
   rcases Sj j l with q|q|q
   ·rw [NB (by lia),NB (by lia),NB (by lia),NB (by lia)]
    exact uk _ _ ij (by lia)
   ·rw [NC q]
    split
    ·exact NE _
    ·rw [NB (by lia)]
     exact lw _ (by lia)
   ·rw [NB (show ¬ j=l by lia),NC (show l<j/\j<=k by lia)]
    split
    ·exact Oo (hi _ (by lia) (by lia))
    ·split
     ·exact uk _ _ (by lia) (by lia)
     ·exact uk _ _ (by lia) (by lia)
 ·rintro c z ⟨e,oz,uz⟩
  exact ⟨e,oz,uz n (by lia) (NE _)⟩
 ·rintro c z ⟨rfl,oz,uz⟩
  exact NO (h z oz uz)
end
end S6
namespace S6
open PySem PyProof.Rows
inductive Pnd:Nat->List (List Keyed)->List (Nat×Nat×Nat)->Prop
 |nil {b}:Pnd b [] []
 |cons {b R Rs p ps}:Pnd (b+R.length) Rs ps->Pnd b (R::Rs) ((b,R.length,p)::ps)
theorem Pnd.len {b Rs ps}(h:Pnd b Rs ps):ps.length=Rs.length:=by
 induction h with
 |nil=>rfl
 |cons _ ih=>simp [ih]
theorem Pnd.split {ps}:∀ {b R1 Rs},Pnd b (R1++Rs) ps->∃ p1 p2,ps=p1++p2/\Pnd b R1 p1/\Pnd (b+R1.flatten.length) Rs p2:=by
 intro b R1 Rs h
 induction R1 generalizing b ps with
 |nil=>exact ⟨[],ps,rfl,.nil,h⟩
 |cons R R1 ih =>
  rw [Rj] at h
  cases h with
  |cons h =>
   obtain ⟨p1,p2,rfl,h1,h2⟩:=ih h
   refine ⟨_::p1,p2,rfl,.cons h1,?_⟩
   rw [OP,NJ,<- Sb]
   exact h2
theorem Pnd.app {b R1 p1}(h:Pnd b R1 p1):∀ {Rs p2},Pnd (b+R1.flatten.length) Rs p2->Pnd b (R1++Rs) (p1++p2):=by
 induction h with
 |nil=>intro Rs p2 h;exact h
 |cons _ ih =>
  intro Rs p2 h
  refine .cons (ih ?_)
  rw [OP,NJ,<- Sb] at h
  exact h
theorem Pnd.power {b Rs ps}(h:Pnd b Rs ps):∀ (i q:Nat),Pnd b Rs (ps.modify i λ(x:Nat×Nat×Nat)=>(x.1,x.2.1,q)):=by
 induction h with
 |nil=>intro i q;cases i<;>exact .nil
 |cons h ih =>
  intro i q
  cases i with
  |zero=>exact .cons h
  |succ i=>exact .cons (ih i q)
structure Pn (kd:SortKind) (a₀:Array Keyed) (ρ:Keyed->Nat) (S:List Keyed) (Rs:List (List Keyed)) (st:SortSt):Prop where
 arr:(arrOf st).toList=Rs.flatten++S
 perm:(arrOf st).Perm a₀
 kind:kindOf st=kd
 well:failedOf st=none
 pend:Pnd 0 Rs (pendingOf st).toList
 good:∀ R∈Rs,Ri ρ R/\1<=R.length
abbrev mO {β:Type}(c:Option Unit) (f g:Unit->MS β):MS β:=Break.runK.match_1 (λ_=>MS β) c f g
def rnL (pw:Nat):MS (ForInStep (Option Unit×Unit)):=do
 let s <- get
 let some (_,_,MM):=(if (pendingOf s).size>1 then (pendingOf s)[(pendingOf s).size - 2]? else none)|pure (.done (none,()))
 if MM<=pw then pure (.done (none,()))
 else if !(<- mergeAt' ((pendingOf s).size - 2)) then pure (.done (some (),())) else pure (.yield (none,()))
def rnZ (lo n:Nat):MS (ForInStep (Option Unit×Nat)):=do
 modify λs=>setPending s ((pendingOf s).push (lo,n,0))
 pure (.yield (none,lo+n))
def rnM (size lo n:Nat):MS (ForInStep (Option Unit×Nat)):=do
 let s <- get
 match (pendingOf s).back? with
 |some (s1,n1,_)=>do
  let c <- forIn [0:size] ((none,()):Option Unit×Unit) λ_ _=>rnL (power' size (2 * s1+n1) (2 * s1+n1+n1+n) size)
  mO c.1 (λr=>pure (.done (some r,lo))) λ_=>do
   modify λs=>setPending s ((pendingOf s).modify ((pendingOf s).size - 1) λ(st,len,_)=>(st,len,power' size (2 * s1+n1) (2 * s1+n1+n1+n) size))
   rnZ lo n
 |_=>rnZ lo n
def rnB (size mr lo:Nat):MS (ForInStep (Option Unit×Nat)) :=
 if lo≥size then pure (.done (none,lo)) else do
 let some KA <- countRun' lo (size - lo)|pure (.done (some (),lo))
 if KA<mr then do
  rule "list.sort.binary-insertion"
  if !(<- binarySort' lo (min (size - lo) mr) KA) then pure (.done (some (),lo)) else rnM size lo (min (size - lo) mr)
 else rnM size lo KA
def rnC:MS (ForInStep (Option Unit×Unit)):=do
 let s <- get
 if (pendingOf s).size<=1 then pure (.done (none,())) else do
 if !(<- mergeAt' (if (if (pendingOf s).size - 2>0 then (pendingOf s)[(pendingOf s).size - 2 - 1]?.map (·.2.1) else none).any (·<((pendingOf s)[(pendingOf s).size - 2+1]?.elim 0 (·.2.1))) then (pendingOf s).size - 2 - 1 else (pendingOf s).size - 2)) then pure (.done (some (),())) else pure (.yield (none,()))
theorem x8:sortRuns'=(do
 let s <- get
 let c <- forIn [0:(arrOf s).size] ((none,0):Option Unit×Nat) λ_ c=>rnB (arrOf s).size (minRun' (arrOf s).size (arrOf s).size 0) c.2
 mO c.1 pure λ_=>do
  let d <- forIn [0:(arrOf s).size] ((none,()):Option Unit×Unit) λ_ _=>rnC
  mO d.1 pure λ_=>pure ()):=rfl
section
variable {prog:Program}{w:World}{A:Around}{E:Value->Shared->Prop}{s:Shared}{a₀:Array Keyed}{kd:SortKind}{ρ:Keyed->Nat}{st:SortSt}{S:List Keyed}{Rs:List (List Keyed)}
theorem Pn.psz (o:Pn kd a₀ ρ S Rs st):(pendingOf st).size=Rs.length:=by rw [<- Pq];exact o.pend.len
theorem pV:∀ {Rs:List (List Keyed)},(∀ R∈Rs,1<=R.length)->Rs.length<=Rs.flatten.length
 |[],_=>NE _
 |R::Rs,h=>by
  have h1:=h R (NM ..)
  have h2:=pV (Rs:=Rs) λx hx=>h x (NQ _ hx)
  simp only [NU,OP,NJ]
  lia
theorem qW:∀ {Rs:List (List Keyed)}{i:Nat},i+1<Rs.length->∃ R1 RA RB R2,Rs=R1++RA::RB::R2/\R1.length=i
 |[],i,h=>by simp at h
 |[_],i,h=>by simp at h
 |RA::RB::R2,0,_=>⟨[],RA,RB,R2,rfl,rfl⟩
 |R::RB::R2,i+1,h=>by
  obtain ⟨R1,X,Y,Z,e,l⟩:=qW (Rs:=RB::R2) (i:=i) (by simpa using h)
  exact ⟨R::R1,X,Y,Z,by rw [e];rfl,by simp [l]⟩
theorem oO {i:Nat}{Q:Bool->SortSt->Prop}(C:Cm prog w A s kd a₀ ρ) (o:Pn kd a₀ ρ S Rs st) (hi:i+1<Rs.length)
  (h:∀ z IL,Pn kd a₀ ρ S IL z->IL.length+1=Rs.length->IL.flatten.length=Rs.flatten.length->Q true z) :
  wpS (model prog w) A E s (mergeAt' i) Q st:=by
 obtain ⟨R1,RA,RB,R2,rfl,hl⟩:=qW hi
 obtain ⟨p1,p2,ep,h1,h2⟩:=o.pend.split
 cases h2 with
 |@cons _ _ _ pw _ h2 =>
 cases h2 with
 |@cons _ _ _ q post h2 =>
 have gA:=o.good RA (by simp)
 have gB:=o.good RB (by simp)
 have lp:p1.length=i:=by rw [h1.len,hl]
 have mem:∀ p∈(arrOf st).toList,p∈a₀.toList:=λp hp=>(O3.mp o.perm).mem_iff.mp hp
 refine wK (P:=R1.flatten) (RA:=RA) (RB:=RB) (S:=R2.flatten++S) (pre:=p1) (post:=post) (pw:=pw) (q:=q) C o.kind mem o.well
  (by rw [o.arr];simp) gA.1 gB.1 gA.2 gB.2 (by rw [ep,OT]) lp.symm λz R rR pR ea hk hw hp=>?_
 have lR:R.length=RA.length+RB.length:=by rw [pR.length_eq,NJ]
 refine h z (R1++R::R2) ⟨by rw [ea];simp,?_,hk,hw,?_,λX hX=>?_⟩ (by simp;lia) (by simp [lR];lia)
 ·refine O3.mpr (List.Perm.trans ?_ (O3.mp o.perm))
  rw [ea,o.arr]
  simp only [List.flatten_append,OP,NX]
  refine Oz _ ?_
  rw [<- NX RA RB]
  exact pR.append_right _
 ·rw [hp,<- lR]
  refine h1.app ?_
  rw [OT]
  refine .cons ?_
  rw [OT,Sb,<- lR] at h2
  exact h2
 ·rcases NL.mp hX with q|q
  ·exact o.good X (by simp [q])
  ·rcases NR.mp q with q|q
   ·subst q;exact ⟨rR,by lia⟩
   ·exact o.good X (by simp [q])
theorem Pn.okL (o:Pn kd a₀ ρ S Rs st):OkL kd a₀ Rs.flatten.length (λk=>Rs.flatten[k]?) (pendingOf st) st :=
 ⟨o.perm,o.kind,o.well,rfl,λk hk=>by rw [<- OR,o.arr,OC hk]⟩
theorem Fa {z:SortSt}{n:Nat}(o:Pn kd a₀ ρ S Rs st) (oz:OkL kd a₀ Rs.flatten.length (λk=>Rs.flatten[k]?) (pendingOf st) z) (u:UpL ρ Rs.flatten.length (arrOf z) n) (hn:Rs.flatten.length+n<=a₀.size) :
  ∃ R S',Ri ρ R/\R.length=n/\Pn kd a₀ ρ (R++S') Rs z:=by
 have sz:(arrOf z).toList.length=a₀.size:=by rw [Pq];exact oz.sz
 have hd:(arrOf z).toList.take Rs.flatten.length=Rs.flatten:=by
  refine List.ext_getElem? λk=>?_
  rcases O1 k Rs.flatten.length with q|q
  ·rw [P0 q,OR]
   exact oz.pfx k q
  ·rw [Qj (by rw [Of];lia),Qj q]
 refine ⟨((arrOf z).toList.drop Rs.flatten.length).take n,((arrOf z).toList.drop Rs.flatten.length).drop n,?_,by rw [Of,P1];lia,?_,oz.perm,oz.kind,oz.well,by rw [oz.runs];exact o.pend,o.good⟩
 ·refine OO.mpr λi j hi hj ij=>?_
  rw [Of,P1] at hi hj
  have:=u i j (by lia) (by lia)
  unfold rl at this
  have at_:∀ k,k<n->∀ (hk:k<(((arrOf z).toList.drop Rs.flatten.length).take n).length),rk ρ (arrOf z) (Rs.flatten.length+k)=ρ (((arrOf z).toList.drop Rs.flatten.length).take n)[k]:=λk hk Kb=>by
   refine dP ?_
   rw [Q8,Q9,<- OR,PC]
  rw [at_ i (by lia),at_ j (by lia)] at this
  exact this
 ·rw [Oi]
  have:=Oi Rs.flatten.length (arrOf z).toList
  rw [hd] at this
  exact this.symm
theorem Pn.push {R:List Keyed}{lo n:Nat}(o:Pn kd a₀ ρ (R++S) Rs st) (r:Ri ρ R) (n1:1<=n) (hn:R.length=n) (hl:lo=Rs.flatten.length):Pn kd a₀ ρ S (Rs++[R]) (setPending st ((pendingOf st).push (lo,n,0))):=by
 subst hn hl
 refine ⟨?_,o.perm,o.kind,o.well,?_,λX hX=>?_⟩
 ·show (arrOf st).toList=_
  rw [o.arr];simp
 ·show Pnd 0 (Rs++[R]) ((pendingOf st).push (Rs.flatten.length,R.length,0)).toList
  rw [Si]
  refine o.pend.app ?_
  rw [OT]
  exact .cons .nil
 ·rcases NL.mp hX with q|q
  ·exact o.good X q
  ·rw [N1.mp q];exact ⟨r,n1⟩
theorem Pn.power {i q:Nat}(o:Pn kd a₀ ρ S Rs st):Pn kd a₀ ρ S Rs (setPending st ((pendingOf st).modify i λ(x:Nat×Nat×Nat)=>(x.1,x.2.1,q))):=by
 refine ⟨o.arr,o.perm,o.kind,o.well,?_,o.good⟩
 show Pnd 0 Rs ((pendingOf st).modify i _).toList
 rw [Array.toList_modify]
 exact o.pend.power i q
theorem Pn.size (o:Pn kd a₀ ρ S Rs st):Rs.flatten.length+S.length=a₀.size:=by
 rw [<- o.perm.size_eq,<- Pq,o.arr,NJ]
theorem Fc {pw:Nat}{Q:ForInStep (Option Unit×Unit)->SortSt->Prop}(C:Cm prog w A s kd a₀ ρ) (o:Pn kd a₀ ρ S Rs st) (h1:Q (.done (none,())) st) (h:∀ IL y,Pn kd a₀ ρ S IL y->IL.flatten.length=Rs.flatten.length->Q (.yield (none,())) y):wpS (model prog w) A E s (rnL pw) Q st:=by
 unfold rnL
 refine NH (Q1 ?_)
 have ps:=o.psz
 by_cases g1:(pendingOf st).size>1
 ·rw [NC g1]
  obtain ⟨⟨f1,f2,MM⟩,he⟩:∃ v,(pendingOf st)[(pendingOf st).size - 2]?=some v:=⟨_,Pf _ _ (by lia)⟩
  rw [he]
  exact bg (λ_=>NO h1) λ_=>NH (oO C o (by lia) λv Rs2 ov l e=>NO (h _ _ ov e))
 ·rw [NB g1];exact NO h1
theorem Fd {R:List Keyed}{size lo n:Nat}{Q:ForInStep (Option Unit×Nat)->SortSt->Prop}(C:Cm prog w A s kd a₀ ρ) (o:Pn kd a₀ ρ (R++S) Rs st) (r:Ri ρ R) (n1:1<=n) (hn:R.length=n) (hl:lo=Rs.flatten.length)
  (h:∀ IL y,Pn kd a₀ ρ S IL y->lo+n=IL.flatten.length->Q (.yield (none,lo+n)) y):wpS (model prog w) A E s (rnM size lo n) Q st:=by
 have fin:∀ v IL,Pn kd a₀ ρ (R++S) IL v->IL.flatten.length=lo->wpS (model prog w) A E s (rnZ lo n) Q v:=λv IL ov fl=>NH (Qv (NO (h (IL++[R]) _ (ov.push r n1 hn fl.symm) (by simp [hn,<- fl]))))
 unfold rnM
 refine NH (Q1 ?_)
 cases (pendingOf st).back? with
 |none=>exact fin st Rs o hl.symm
 |some b =>
  refine NH (Qe (O2 (λ_ c x=>c=(none,())/\∃ IL,Pn kd a₀ ρ (R++S) IL x/\IL.flatten.length=lo) (Q:=λc x=>c=(none,())/\∃ IL,Pn kd a₀ ρ (R++S) IL x/\IL.flatten.length=lo) ?_ (λ_ _ e=>e) ⟨rfl,Rs,o,hl.symm⟩) ?_)
  ·rintro i c x _ _ ⟨_,IL,ox,fl⟩
   exact Fc C ox ⟨rfl,IL,ox,fl⟩ λRs2 y oy e=>⟨rfl,Rs2,oy,e.trans fl⟩
  ·rintro c x ⟨rfl,IL,ox,fl⟩
   exact NH (Qv (fin _ IL ox.power fl))
theorem Fe {mr:Nat}{Q:ForInStep (Option Unit×Nat)->SortSt->Prop}(C:Cm prog w A s kd a₀ ρ) (o:Pn kd a₀ ρ S Rs st) (h0:S=[]->Q (.done (none,Rs.flatten.length)) st)
  (h:∀ IL S' y,Pn kd a₀ ρ S' IL y->Rs.flatten.length+1<=IL.flatten.length->Q (.yield (none,IL.flatten.length)) y):wpS (model prog w) A E s (rnB a₀.size mr Rs.flatten.length) Q st:=by
 have sz:=o.size
 have fin:∀ {n x},OkL kd a₀ Rs.flatten.length (λk=>Rs.flatten[k]?) (pendingOf st) x->UpL ρ Rs.flatten.length (arrOf x) n->1<=n->Rs.flatten.length+n<=a₀.size->wpS (model prog w) A E s (rnM a₀.size Rs.flatten.length n) Q x:=λox ux n1 n2=>by
  obtain ⟨R,S',rR,lR,py⟩:=Fa o ox ux n2
  exact Fd C py rR n1 lR rfl λIL y oy e=>e ▸ h IL S' y oy (by lia)
 unfold rnB
 refine bg (λg=>NO (h0 (OB.mp (by lia)))) λg=>NH (x6 C o.okL (by lia) (by lia) λm y oy m1 m2 uy=>?_)
 exact bg (λgm=>NH (wpS_lift (PX ⟨rfl,NH (CM C oy (by lia) (by lia) uy λx ox ux=>fin ox ux (by lia) (by lia))⟩))) λgm=>fin oy uy m1 (by lia)
theorem Ff {Q:ForInStep (Option Unit×Unit)->SortSt->Prop}(C:Cm prog w A s kd a₀ ρ) (o:Pn kd a₀ ρ S Rs st) (h1:Rs.length<=1->Q (.done (none,())) st) (h:∀ IL y,Pn kd a₀ ρ S IL y->IL.length+1=Rs.length->Q (.yield (none,())) y):wpS (model prog w) A E s rnC Q st:=by
 unfold rnC
 refine NH (Q1 ?_)
 have ps:=o.psz
 refine bg (λg=>NO (h1 (by lia))) λg=>?_
 have hix:∀ b:Bool,(if b=true then (pendingOf st).size - 2 - 1 else (pendingOf st).size - 2)+1<Rs.length:=λb=>by split<;>lia
 exact NH (oO C o (hix _) λx Rs2 ox l e=>NO (h Rs2 x ox l))
theorem Ac {Q:Unit->SortSt->Prop}(C:Cm prog w A s kd a₀ ρ) (o:Ok kd a₀ st) (h2:2<=a₀.size)
  (h:∀ z,(arrOf z).Perm a₀->failedOf z=none->Up ρ (arrOf z) a₀.size->Q () z):wpS (model prog w) A E s sortRuns' Q st:=by
 rw [x8]
 refine NH (Q1 ?_)
 rw [o.sz]
 refine NH (Qe (O2 (λk c z=>∃ Rs S,c=(none,Rs.flatten.length)/\Pn kd a₀ ρ S Rs z/\k<=Rs.flatten.length) (Q:=λc z=>c.1=none/\∃ Rs,Pn kd a₀ ρ [] Rs z) ?_ ?_ ⟨[],(arrOf st).toList,rfl,⟨rfl,o.perm,o.kind,o.well,by rw [o.runs];exact .nil,λR hR=>by cases hR⟩,OM _⟩) ?_)
 ·rintro k c z l1 l2 ⟨Rs,S,rfl,oz,kl⟩
  exact Fe C oz (λe=>⟨rfl,Rs,e ▸ oz⟩) λIL S' y oy l=>⟨IL,S',rfl,oy,by lia⟩
 ·rintro c z ⟨Rs,S,rfl,oz,kl⟩
  have sz:=oz.size
  obtain rfl:S=[]:=OB.mp (by lia)
  exact ⟨rfl,Rs,oz⟩
 ·rintro ⟨_,c⟩ z ⟨rfl,Rs,oz⟩
  refine NH (Qe (O2 (λk c y=>c=(none,())/\∃ Rs,Pn kd a₀ ρ [] Rs y/\Rs.length<=max 1 (a₀.size - k)) (Q:=λc y=>c=(none,())/\∃ Rs,Pn kd a₀ ρ [] Rs y/\Rs.length<=1) ?_ ?_ ⟨rfl,Rs,oz,?_⟩) ?_)
  ·rintro k c y _ l2 ⟨_,IL,oy,le⟩
   exact Ff C oy (λg=>⟨rfl,IL,oy,g⟩) λRs2 x ox l=>⟨rfl,Rs2,ox,by lia⟩
  ·rintro c y ⟨e,IL,oy,le⟩
   exact ⟨e,IL,oy,by lia⟩
  ·have:=pV λR hR=>(oz.good R hR).2
   have:=oz.size
   rw [OI] at this
   lia
  ·rintro c y ⟨rfl,IL,oy,le⟩
   have r:Ri ρ (arrOf y).toList:=by
    rw [oy.arr,N4]
    match IL,oy.good,le with
    |[],_,_=>exact List.Pairwise.nil
    |[R],g,_=>simpa using (g R (by simp)).1
    |_::_::_,_,le=>simp at le
   refine NO (h _ oy.perm oy.well λi j ij jn=>?_)
   have:=mj r (base:=0) (n:=a₀.size) (by rw [OT,oy.perm.size_eq];exact NE _) i j ij jn
   rw [OT,OT] at this
   exact this
end
end S6
namespace S6
open PySem PySem.Spec PyProof.Rows
theorem vG {α:Type}{prog:Program}{w:World}{A:Around}{E:Value->Shared->Prop}{s:Shared}{ks us:List Value}{k0:Ky}{rest:Unit×SortSt->Sem α}{Q:α->Shared->Prop}(hl:ks.length=us.length) (hf:fit k0=true)
  (hk:∀ v∈ks,∃ k,KR s v k/\Ky.shp k0 k=true) (hu:A.units+k0.dep+1<cLine)
  (h:∀ st:SortSt,(arrOf st).Perm (ks.toArray.zip us.toArray)->failedOf st=none->(∀ i j (hj:j<(arrOf st).size) (hi:i<(arrOf st).size),i<=j->Ky.lt (bu s (arrOf st)[j].1) (bu s (arrOf st)[i].1)=false)->wpAny (model prog w) A (rest ((),st)) Q E s) :
  wpAny (model prog w) A (do
   let kind <- if us.toArray.size<2 then pure general' else keyKind' ks.toArray
   let r <- (if us.toArray.size<2 then pure () else sortRuns').run (SortSt.mk' kind (ks.toArray.zip us.toArray) #[] 7 none)
   rest r) Q E s:=by
 have sz:(ks.toArray.zip us.toArray).size=us.length:=by simp [hl]
 by_cases h2:us.toArray.size<2
 ·rw [NC h2,NC h2]
  refine Ny (NP ?_)
  dsimp only
  rw [StateT.run_pure]
  refine Ny (NP (h _ (Array.Perm.refl _) rfl λi j hj hi ij=>?_))
  have e:i=j:=by
   have:j<(ks.toArray.zip us.toArray).size:=hj
   rw [sz] at this
   simp only [NW] at h2
   lia
  subst e
  exact Ky.irr _
 ·rw [NB h2,NB h2]
  simp only [NW] at h2
  refine Ny (vE (k0:=k0) (by intro e;rw [e] at hl;simp at hl;lia) hf hk ?_)
  have HM:∀ v∈ks,KR s v (bu s v)/\Ky.shp k0 (bu s v)=true:=λv hv=>by
   obtain ⟨k,r,e⟩:=hk v hv
   rw [j4 r];exact ⟨r,e⟩
  have mem:∀ p∈(ks.toArray.zip us.toArray).toList,p.1∈ks:=λp hp=>by
   rw [show (ks.toArray.zip us.toArray).toList=ks.zip us by simp] at hp
   exact (P9 hp).1
  have Na:∀ x∈ks.map (bu s),∀ y∈ks.map (bu s),Ky.shp x y=true:=λx hx y hy=>by
   rw [NI] at hx hy
   obtain ⟨v,hv,rfl⟩:=hx
   obtain ⟨v',Lz,rfl⟩:=hy
   exact Ky.shp_trans (Ky.x3 (HM v hv).2) (HM v' Lz).2
  let ρ:Keyed->Nat:=λp=>rnk (ks.map (bu s)) (bu s p.1)
  have C:Cm prog w A s (dq k0) (ks.toArray.zip us.toArray) ρ:=λx y hx hy E' Q' q'=>by
   have mx:=mem x hx
   have my:=mem y hy
   have q2:Q' (Ky.lt (bu s x.1) (bu s y.1)) s:=by
    rw [<- qN Na (N0 mx) (N0 my)];exact q'
   rw [<- CL (HM x.1 mx).2]
   refine EY (HM x.1 mx).1 (HM y.1 my).1 (Na _ (N0 mx) _ (N0 my)) (z8 (HM x.1 mx).2 hf) ?_ q2
   rw [<- Ky.shp_dep (HM x.1 mx).2];exact hu
  refine Ny (OX (Ac (E:=E) (st:=SortSt.mk' (dq k0) (ks.toArray.zip us.toArray) #[] 7 none) (Q:=λ_ z=>(arrOf z).Perm (ks.toArray.zip us.toArray)/\failedOf z=none/\Up ρ (arrOf z) (ks.toArray.zip us.toArray).size) C ⟨Array.Perm.refl _,rfl,rfl,rfl⟩ (by rw [sz];lia)
   λz a1 a2 a3=>⟨a1,a2,a3⟩) ?_ λ_ _ e=>e)
  rintro ⟨⟨⟩,z⟩ s' ⟨rfl,zp,zf,zu⟩
  refine h z zp zf λi j hj hi ij=>?_
  have up:=zu i j ij (by rw [<- zp.size_eq];exact hj)
  have mz:∀ k (hk:k<(arrOf z).size),(arrOf z)[k].1∈ks:=λk hk=>mem _ ((O3.mp zp).mem_iff.mp (by simp))
  have e1:∀ k (hk:k<(arrOf z).size),rk ρ (arrOf z) k=ρ (arrOf z)[k]:=λk hk=>by unfold rk;rw [Pf _ k hk];rfl
  rw [e1 i hi,e1 j hj] at up
  rw [<- qN Na (N0 (mz j hj)) (N0 (mz i hi))]
  exact NS (Nat.not_lt.mpr up)
end S6
namespace T2
open PySem PySem.Spec PyProof.Rows L2 S6
mutual
noncomputable def tre:Ky->T
 |.i n=>.int n
 |.s x=>.str x
 |.tt v=>.bl v
 |.nil=>.tup []
 |.cons h t=>.tup (tre h::gq t)
noncomputable def gq:Ky->List T
 |.cons h t=>tre h::gq t
 |_=>[]
end
theorem j8:∀ k:Ky,bV (tre k)=some k.dat/\aT (gq k)=some k.row
 |.i n=>⟨rfl,rfl⟩
 |.s n=>⟨rfl,rfl⟩
 |.tt n=>⟨rfl,rfl⟩
 |.nil=>⟨rfl,rfl⟩
 |.cons h t=>by
  have h1:=(j8 h).1
  have h2:=(j8 t).2
  exact ⟨by show (aT (tre h::gq t)).map PyData.tuple=_;rw [kF h1 h2];rfl,kF h1 h2⟩
theorem mm {X:Cx}{K:Fg}{pins:List (Addr×Obj)}{U:L2.St}{H:Hp}{S:Sto}{s:Shared}{k:Ky}{v:V}{u:Value}(hK:X.K=K) (I:Inv X pins U H s) (r:Rp K H S (tre k) v) (rv:ak v u) (ok:Ky.ok k=true):KR s u k:=by
 subst hK
 exact ⟨ok,fF I (kH r (j8 k).1) rv⟩
theorem j9 {α β:Type}(f:α->β){m n:List β}(h:m.Perm n):∀ {l:List α},n=l.map f->∃ l':List α,l'.Perm l/\m=l'.map f:=by
 induction h with
 |nil =>
  intro l e
  exact ⟨[],by rw [RN.mp e.symm],rfl⟩
 |cons x _ ih =>
  intro l e
  cases l with
  |nil=>cases e
  |cons a l =>
   simp only [NF,Pc] at e
   obtain ⟨l',p,q⟩:=ih e.2
   exact ⟨a::l',p.cons a,by rw [NF,q,e.1]⟩
 |swap x y z =>
  intro l e
  cases l with
  |nil=>cases e
  |cons a l =>
   cases l with
   |nil=>simp at e
   |cons b l =>
    simp only [NF,Pc] at e
    exact ⟨b::a::l,List.Perm.swap a b l,by rw [NF,NF,e.1,e.2.1,e.2.2]⟩
 |trans _ _ ih1 ih2 =>
  intro l e
  obtain ⟨l',p,q⟩:=ih2 e
  obtain ⟨l2,p2,q2⟩:=ih1 q
  exact ⟨l2,p2.trans p,q2⟩
structure Rec where
 t:T
 v:V
 u:Value
 ku:Value
section
variable {X:Cx}{K:Fg}{pins:List (Addr×Obj)}{U:L2.St}{H H':Hp}{S:Sto}{s:Shared}
theorem Ad:∀ {ts:List T}{vs:List V}{us ks:List Value},Rps K H S ts vs->aj vs us->ks.length=us.length->∃ R:List Rec,R.map (·.t)=ts/\R.map (·.v)=vs/\R.map (·.u)=us/\R.map (·.ku)=ks/\∀ r∈R,Rp K H S r.t r.v/\ak r.v r.u:=by
 intro ts vs us ks p q
 induction q generalizing ts ks with
 |nil =>
  intro h
  cases p
  cases OB.mp h
  exact ⟨[],rfl,rfl,rfl,rfl,λ_ h=>by cases h⟩
 |@cons v u vs us c d ih =>
  intro h
  rcases ks with _|⟨k,ks⟩
  ·cases h
  rcases p with _|⟨a,b⟩
  rename_i t ts
  obtain ⟨R,e1,e2,e3,e4,e5⟩:=ih b (Nat.succ.inj h)
  refine ⟨⟨t,v,u,k⟩::R,by simp [e1],by simp [e2],by simp [e3],by simp [e4],λr hr=>?_⟩
  rcases NR.mp hr with rfl|hr
  ·exact ⟨a,c⟩
  ·exact e5 r hr
theorem oP:∀ {R:List Rec},(∀ r∈R,Rp K H S r.t r.v/\ak r.v r.u)->Rps K H S (R.map (·.t)) (R.map (·.v))/\aj (R.map (·.v)) (R.map (·.u))
 |[],_=>⟨.nil,.nil⟩
 |r::R,h=>by
  obtain ⟨a,b⟩:=h r (NM ..)
  obtain ⟨c,d⟩:=oP λx hx=>h x (NQ _ hx)
  exact ⟨.cons a c,.cons b d⟩
end
theorem uI (a f:Value):argsOk "sorted" ⟨[a],[(Str.ofString "key",f)]⟩:=by unfold argsOk;kernel_rfl
theorem t9 (a f:Value):argsOk "list.sort" ⟨[a],[(Str.ofString "key",f)]⟩:=by unfold argsOk;kernel_rfl
theorem uw {prog:Program}{w:World}{A:Around}{E:Value->Shared->Prop}{s:Shared}{Ty:String}{name:Str}{id:String}{b:Builtin}{self:Value}{rest:List Value}{kw:List (Str×Value)}{Q:Value->Shared->Prop}(h:Slot Ty name id) (hT:s.TypeIs self Ty)
  (hb:entryFor table id=some b) (hc:wpAny (model prog w) A.in1 (b ⟨self::rest,kw⟩) (λfin s'=>∃ v,fin=.done (.ret v)/\Q v s') E s) (ha:argsOk id ⟨self::rest,kw⟩):wpAny (model prog w) A (call (.builtin id) (self::rest) kw) Q E s:=by
 refine Sl (codeAny_call_builtin h.plain hb (h.check _ _ _ _ _ _ _ _ hT ha (OX hc (λfin s' h'=>?_) λ_ _ h'=>h')))
 obtain ⟨v,rfl,hv⟩:=h';exact hv
def iP (a:Addr) (before:Nat) (s:SortSt):Sem PySem.Fin:=do
 let touched:=(<- seqEpoch a) != before
 Builtin.List.listUpdate (.ref a) λ_=>(arrOf s).map (·.2)
 if let some e:=failedOf s then rule "list.sort.comparison-raised";throw e
 if touched then rule "list.sort.modified";raiseError "ValueError" "list modified during sort"
 ret .none
def mP (Mr items:Array Value) (rest:SortSt->Sem PySem.Fin):Sem PySem.Fin:=do
 let kind <- if items.size<2 then pure general' else keyKind' Mr
 let r <- (if items.size<2 then pure () else sortRuns').run (SortSt.mk' kind (Mr.zip items) #[] 7 none)
 rest r.2
def gr (a:Addr) (B:Array Value->Nat->Value->Sem PySem.Fin):Sem PySem.Fin:=do
 let items <- Builtin.List.listItems (.ref a)
 Builtin.List.listUpdate (.ref a) λ_=>#[]
 let before <- seqEpoch a
 let held <- newTuple items.toList
 let keyStore <- newList []
 holding [held,keyStore] (B items before keyStore)
def mQ (a fa:Addr) (items:Array Value) (keyStore:Value) (x:Value) (_:PUnit):Sem (ForInStep PUnit):=do
 match <- (call (.ref fa) [x]).attempt with
 |.ok k=>Builtin.List.listUpdate keyStore (·.push k)
 |.error e =>
  rule "list.sort.key-raised"
  let made <- Builtin.List.listItems keyStore
  Builtin.List.listUpdate keyStore λ_=>#[]
  letGo made.toList.reverse [e]
  Builtin.List.listUpdate (.ref a) λ_=>items;throw e
 pure (.yield ⟨⟩)
def mo (a fa:Addr) (items:Array Value) (before:Nat) (keyStore:Value):Sem PySem.Fin:=do
 rule "list.sort.key"
 let _ <- forIn items PUnit.unit (mQ a fa items keyStore)
 let Mr <- Builtin.List.listItems keyStore
 mP Mr items λs=>do
  Builtin.List.listUpdate keyStore λ_=>#[]
  letGo ((arrOf s).map (·.1)).toList (failedOf s).toList
  iP a before s
theorem u8 (a fa:Addr):Builtin.«list.sort» ⟨[.ref a],[(Str.ofString "key",.ref fa)]⟩=gr a (mo a fa):=by rfl
section
variable {X:Cx}{K:Fg}{pins:List (Addr×Obj)}{U:L2.St}{H H':Hp}{S:Sto}{s:Shared}
theorem lj {D:Addr}{φ:Heap->Prop}{ws:List V}{its its':List Value}{n:Nat}{f:Array Value->Array Value}(I:Inv X pins U H s) (h:H D=some (.ext φ)) (e:s.heap.get? D=some (seqObj "list" its.toArray n)) (hf:f its.toArray=its'.toArray) (r:aj ws its') (hz:ws.length<=sizeLine) :
  Inv X pins U (upd H D (bz D ws)) { s with heap:=s.heap.update D (Obj.mapSeq f) }:=by
 obtain ⟨hh,g,d,t,os⟩:=s
 have e2:=get?_update_seq e f
 rw [hf] at e2
 refine I.write (t':=t) (h':=hh.update D (Obj.mapSeq f)) (x:=D) (e:=D) (by rw [h];trivial) (.inl rfl) (λb u hb q=>(Ol _ _ (Op hb)).trans q) ⟨_,e2⟩ ⟨⟨hz,its',_,r,e2⟩,⟨_,e2⟩,λh1 h2 ⟨z',i',n',r',q'⟩ k=>⟨z',i',n',r',k _ q'⟩⟩
theorem sF {D:Addr}{zs:List V}(I:Inv X pins U H s) (h:H D=some (bz D zs)):zs.length<=sizeLine/\∃ its n,aj zs its/\s.heap.get? D=some (seqObj "list" its.toArray n):=by
 obtain ⟨⟨z,its,n,r,e⟩,_,_⟩:=I.hok D _ h
 exact ⟨z,its,n,r,e⟩
theorem CN {D:Addr}{zs:List V}{its:List Value}{n t':Nat}{h':Heap}(I:Inv X pins U H s) (k:∀ b u,s.heap.get? b=some u->h'.get? b=some u) (hp:s.heap.objs.size<=D) (r:aj zs its) (hz:zs.length<=sizeLine)
  (e:h'.get? D=some (seqObj "list" its.toArray n)):Inv X pins U (upd H D (bz D zs)) { s with heap:=h',toks:=t' } :=
 I.laid k hp ⟨⟨hz,its,n,r,e⟩,⟨_,e⟩,λh1 h2 zz93 k=>by obtain ⟨z',i',n',r',q'⟩:=zz93;exact ⟨z',i',n',r',k _ q'⟩⟩
end
def dW (D:Addr) (o:Obj):HO:=.ext λh=>h.get? D=some o
theorem CO {X:Cx}{pins:List (Addr×Obj)}{U:L2.St}{H:Hp}{s:Shared}{D:Addr}{o:Obj}{t':Nat}{h':Heap}(I:Inv X pins U H s) (k:∀ b u,s.heap.get? b=some u->h'.get? b=some u) (hp:s.heap.objs.size<=D) (e:h'.get? D=some o):Inv X pins U (upd H D (dW D o)) { s with heap:=h',toks:=t' } :=
 I.laid k hp ⟨e,⟨_,e⟩,λh1 h2 p k=>k _ p⟩
theorem Fh {X:Cx}{pins:List (Addr×Obj)}{U:L2.St}{H:Hp}{s:Shared}{D:Addr}{o:Obj}(I:Inv X pins U H s) (h:H D=some (dW D o)):s.heap.get? D=some o:=(I.hok D _ h).1
def iQ (tr:Bool) (xs:List T) (κ:T->Ky) (S:Sto) (Q:T->Sto->Prop):Prop:=∀ zs:List T,zs.Perm xs->zs.Pairwise (λa b=>Ky.lt (κ b) (κ a)=false)->newL tr zs S Q
def ll (tr:Bool) (f:Addr) (HZ:WSp):List T->List T->Sto->(T->Sto->Prop)->Prop:=λts us S Q=>∃ x xs κ k0,ts=[x]/\us=[.ref f]/\az S x=some xs/\fit k0=true/\k0.dep<=30 /\
 (∀ t∈xs,Ky.ok (κ t)=true/\Ky.shp k0 (κ t)=true/\∀ S' Q',Q' (tre (κ t)) S'->HZ [t] S' Q')/\iQ tr xs κ S Q
def lCK (K:Fg) (g:List T->List T->Sto->(T->Sto->Prop)->Prop):List V->List V->Hp->VK->Prop:=λxs zs H Q=>∃ S ts us Qt,SRp K H S/\Rps K H S ts xs/\Rps K H S us zs/\g ts us S Qt/\Bh K H S Qt Q
section
variable {X:Cx}{K:Fg}{pins:List (Addr×Obj)}{U:L2.St}{H Hc:Hp}{S:Sto}{s:Shared}{E:Value->Shared->Prop}
theorem x9 {κ:T->Ky}{k0:Ky}{ls:List T}(hK:X.K=K) (I:Inv X pins U H s) (hk:∀ t∈ls,Ky.ok (κ t)=true/\Ky.shp k0 (κ t)=true){R:List Rec}:∀ {vs:List V},Rps K H S (R.map λr=>tre (κ r.t)) vs->aj vs (R.map (·.ku))->(∀ r∈R,r.t∈ls)->∀ r∈R,KR s r.ku (κ r.t)/\Ky.shp k0 (κ r.t)=true:=by
 induction R with
 |nil=>intro _ _ _ _ r hr;cases hr
 |cons r0 R ih =>
  intro kvs a b m r hr
  cases a with
  |cons a1 a2 =>
   cases b with
   |cons b1 b2 =>
    rcases NR.mp hr with rfl|hr
    ·have:=hk r.t (m r (NM ..))
     exact ⟨mm hK I a1 b1 this.1,this.2⟩
    ·exact ih a2 b2 (λx hx=>m x (NQ _ hx)) r hr
theorem ya {κ:T->Ky}{R:List Rec}{ar:Array Keyed}(eR:ar.toList=R.map λr=>((r.ku,r.u):Keyed)) (HM:∀ r∈R,KR s r.ku (κ r.t))
  (hs:∀ i j (hj:j<ar.size) (hi:i<ar.size),i<=j->Ky.lt (bu s ar[j].1) (bu s ar[i].1)=false):(R.map (·.t)).Pairwise (λa b=>Ky.lt (κ b) (κ a)=false):=by
 obtain ⟨l⟩:=ar
 subst eR
 rw [PQ,OO]
 intro i j hi hj ij
 have:=hs i j (by simpa using hj) (by simpa using hi) (Oo ij)
 simp only [List.getElem_toArray,Qw] at this
 rw [j4 (HM _ (Pu hi)),j4 (HM _ (Pu hj))] at this
 exact this
theorem wL {κ:T->Ky}{k0:Ky}{ls:List T}{vs kvs:List V}{its Lv:List Value}(hK:X.K=K) (I:Inv X pins U H s) (hk:∀ t∈ls,Ky.ok (κ t)=true/\Ky.shp k0 (κ t)=true)
  (rs:Rps K H S ls vs) (rv:aj vs its) (rk:Rps K H S (ls.map λt=>tre (κ t)) kvs) (Mt:aj kvs Lv) (lk:Lv.length=its.length) :
  (∀ v∈Lv,∃ k,KR s v k/\Ky.shp k0 k=true)/\∀ ar:Array Keyed,ar.Perm (Lv.toArray.zip its.toArray)->(∀ i j (hj:j<ar.size) (hi:i<ar.size),i<=j->Ky.lt (bu s ar[j].1) (bu s ar[i].1)=false) ->
   ∃ zs JT Kj,zs.Perm ls/\zs.Pairwise (λa b=>Ky.lt (κ b) (κ a)=false)/\ar.map (·.2)=Kj.toArray/\Rps K H S zs JT/\aj JT Kj/\JT.length=its.length:=by
 obtain ⟨R,q1,q2,q3,q4,q5⟩:=Ad rs rv lk
 have HM:=x9 (R:=R) hK I hk (by rw [<- q1,NV] at rk;exact rk) (by rw [q4];exact Mt) λr hr=>by rw [<- q1];exact N0 hr
 refine ⟨λv hv=>?_,λar hp hs=>?_⟩
 ·rw [<- q4] at hv
  obtain ⟨r,hr,rfl⟩:=NI.mp hv
  exact ⟨_,HM r hr⟩
 ·obtain ⟨R',pR,eR⟩:=j9 (λr:Rec=>((r.ku,r.u):Keyed)) (O3.mp hp) (l:=R) (by
   have:(Lv.toArray.zip its.toArray).toList=Lv.zip its:=by simp
   rw [this,<- q3,<- q4]
   exact List.zip_map')
  have m:∀ r∈R',r∈R:=λr hr=>pR.mem_iff.mp hr
  obtain ⟨rz,vz⟩:=oP λr hr=>q5 r (m r hr)
  refine ⟨_,_,_,by rw [<- q1];exact pR.map _,ya eR (λr hr=>(HM r (m r hr)).1) hs,?_,rz,vz,by rw [Nz,pR.length_eq,<- q3,Nz]⟩
  apply Pe.mp
  rw [Array.toList_map,eR,NV]
  rfl
theorem oQ {A:Around}{L:Addr}{ep:Nat}{st:SortSt}{us:List Value}{vs:List V}{P:Shared->Prop}(I:Inv X pins U Hc s) (eL:Hc L=some (dW L (seqObj "list" #[] ep))) (hf:failedOf st=none) (out:(arrOf st).map (·.2)=us.toArray) (vz:aj vs us) (hz:vs.length<=sizeLine)
  (h:∀ s',Inv X pins U (upd Hc L (.lst vs)) s'->P s'):wpAny (model X.prog X.w) A (iP L ep st) (λfin s'=>∃ v,fin=.done (.ret v)/\P s') E s:=by
 unfold iP
 have e:=Fh I eL
 refine Ny (seqEpoch_at e rfl (Ny (listUpdate_at e rfl ?_ (by simp) (by rw [out,NW,<- vz.length];exact Ra hz))))
 rw [hf]
 simp only [Sf,Oe,Pa]
 have I8:=(lj I eL (its:=[]) e (f:=λ_=>(arrOf st).map (·.2)) out vz hz).ofAcc (D:=L) aG
 rw [gT] at I8
 exact NP ⟨_,rfl,h _ I8⟩
theorem oR {tr:Bool}{L:Addr}{φ:Heap->Prop}{zs:List T}{vs:List V}{Qt:T->Sto->Prop}{Q:VK}(b:Bh K H S Qt Q) (nL:H L=none) (fc:Fr H S Hc S) (sc:SRp K Hc S) (eL:Hc L=some (.ext φ)) (nS:S L=none) (rz:Rps K Hc S zs vs) (fin:newL tr zs S Qt):Q (.ref L) (upd Hc L (.lst vs)):=by
 cases tr with
 |false=>exact b _ _ (.lst _) S (Fr.at fc nL) (sc.chg eL nS) (.lst nS aG (Rps.chg eL rz)) fin
 |true =>
  refine b _ _ (.ref L) _ (λa o h nn=>?_) (SRp.trk eL sc rz) .ref (fin L nS)
  rw [aq (bj h nL)]
  exact Fr.at fc nL a o h nn
theorem Ae {A:Around}{L:Addr}{its:List Value}{B:Array Value->Nat->Value->Sem PySem.Fin}{Q:PySem.Fin->Shared->Prop}(I:Inv X pins U H s) (sr:SRp K H S){h1:Heap}{tk:Nat}(hL:h1.objs.size=L) (old:∀ b u,s.heap.get? b=some u->h1.get? b=some u) (sz:s.heap.objs.size<=L) (hz:its.length<=sizeLine)
  (h:∀ ep Hc s5,Inv X pins U Hc s5->Hc L=some (dW L (seqObj "list" #[] ep))->Hc (L+2)=some (bz (L+2) [])->H L=none->H (L+2)=none->Fr H S Hc S->SRp K Hc S->wpAny (model X.prog X.w) A (B its.toArray ep (.ref (L+2))) Q E s5) :
  wpAny (model X.prog X.w) A (gr L B) Q E { s with heap:=h1.push (seqObj "list" its.toArray 0),toks:=tk }:=by
 have hoL:(h1.push (seqObj "list" its.toArray 0)).get? L=some (seqObj "list" its.toArray 0):=hL ▸ NT _ rfl
 unfold gr
 refine Ny (RH hoL rfl (Ny (listUpdate_at hoL rfl ?_ (by simpa using hz) (by simp))))
 obtain ⟨ep,ho1⟩:∃ ep,((h1.push (seqObj "list" its.toArray 0)).update L (Obj.mapSeq λ_=>#[])).get? L=some (seqObj "list" #[] ep):=⟨_,get?_update_seq hoL (λ_=>#[])⟩
 refine Ny (seqEpoch_at ho1 rfl ?_)
 have sz2:((h1.push (seqObj "list" its.toArray 0)).update L (Obj.mapSeq λ_=>#[])).objs.size=L+1:=by rw [Heap.size_update,size_push',hL]
 have I2:=CO (t':=tk) I (λb u e=>(Ol _ _ (Op (N6 (N9 (NY e) sz)))).trans (NG (seqObj "list" its.toArray 0) (old b u e))) sz ho1
 have ne:L+2≠L:=QP (Q5 (by decide))
 have nL:H L=none:=I.hok.fresh sz
 have nk:H (L+2)=none:=I.hok.fresh (Nat.le_add_right_of_le sz)
 have nk2:upd H L (dW L (seqObj "list" #[] ep)) (L+2)=none:=by rw [au ne];exact nk
 refine Ny (wpAny_newTuple (Ny (wpAny_newList ?_)) (by simpa using hz))
 generalize (h1.push (seqObj "list" its.toArray 0)).update L (Obj.mapSeq λ_=>#[])=h2 at *
 have sz3:(h2.push { cls:=.type "tuple",data:=.seq its.toArray.toList.toArray }).objs.size=L+2:=by rw [size_push',sz2]
 dsimp only
 rw [sz3]
 refine PF (h ep _ _ (CN (D:=L+2) (s:={ s with heap:=h2,toks:=tk }) I2 (λb u e=>NG _ (NG _ e)) (NZ (QQ sz2) (Pj _)) .nil (OM _) (sz3 ▸ NT _ rfl)) (by rw [au ne.symm];exact aG) aG nL nk ((Fr.new nL).trans (Fr.new nk2)) ((sr.new nL).new nk2))
def Col (X:Cx) (s:Shared) (pl:Addr) (vs:List V):Prop:=∀ (A:Around) (E:Value->Shared->Prop) (R:List Value->Shared->Prop),A.handled=X.A.handled->(∀ (its:List Value) (h1:Heap) (tk:Nat),aj vs its->(∀ b u,s.heap.get? b=some u->h1.get? b=some u)->s.heap.objs.size<=h1.objs.size->R its { s with heap:=h1,toks:=tk })->wpAny (model X.prog X.w) A (collect (.ref pl)) R E s
theorem pW {pl:Addr}{vs:List V}(I:Inv X pins U H s) (hS:SqL X.K H pl vs):Col X s pl vs:=by
 intro A E R _ q
 obtain ⟨its,K8,⟨o,n,eo,ec,_,ed⟩,hz⟩:=I.list hS
 refine collect_list (l:=pl) (vs:=its) ⟨o,eo,ec,n,ed⟩ (q its _ s.toks K8 (λb u e=>?_) ?_) (by rw [<- K8.length];exact hz)
 ·exact (Ol _ _ (Op (N6 (NY e)))).trans (NG _ e)
 ·rw [Heap.size_update,size_push'];exact Pj _
theorem nZ {kw:List (Str×Value)}{vs:List V}{B:Addr->Array Value->Nat->Value->Sem PySem.Fin}{Ψ:Value->Shared->Prop}{pl:Addr}(I:Inv X pins U H s) (sr:SRp K H S) (Nb:Col X s pl vs) (hz:vs.length<=sizeLine)
  (ha:∀ a,argsOk "sorted" ⟨[a],kw⟩) (ha':∀ a,argsOk "list.sort" ⟨[a],kw⟩) (hb:∀ a,Builtin.«list.sort» ⟨[.ref a],kw⟩=gr a (B a))
  (h:∀ L ep Hc s5 its,aj vs its->its.length<=sizeLine->Inv X pins U Hc s5->Hc L=some (dW L (seqObj "list" #[] ep))->Hc (L+2)=some (bz (L+2) [])->H L=none->H (L+2)=none->Fr H S Hc S->SRp K Hc S ->
   wpAny (model X.prog X.w) X.A.in1.in1 (B L its.toArray ep (.ref (L+2))) (λfin s'=>∃ v,fin=.done (.ret v)/\Ψ (.ref L) s') E s5):wpAny (model X.prog X.w) X.A (call (.builtin "sorted") [.ref pl] kw) Ψ E s:=by
 refine m6 kind_sorted plain_sorted entry_sorted (ha _) ?_
 unfold Builtin.«sorted»
 refine Ny (m:=checkCount "sorted" 1 1 _) (NP (Ny (Nb _ _ _ rfl λits h1 tk K8 old sz=>?_)))
 rw [K8.length] at hz
 refine Ny (wpAny_newList (Ny (PF (uw slot_list_sort (Ty:="list") ⟨_,NT _ rfl,rfl⟩ entry_list_sort ?_ (ha' _)))) hz)
 rw [hb]
 exact Ae I sr rfl old sz hz λep Hc s5 a1 a2 a3 a4 a5 a6 a7=>OX (h _ ep Hc s5 its K8 hz a1 a2 a3 a4 a5 a6 a7) (λfin s' zz94=>by obtain ⟨v,e,q⟩:=zz94;exact ⟨v,e,NP q⟩) λ_ _ q=>q
structure SInv (X:Cx) (K:Fg) (pins:List (Addr×Obj)) (U:L2.St) (H:Hp) (S:Sto) (L:Addr) (ep:Nat) (κ:T->Ky) (ts:List T) (kvs:List V) (Hc:Hp) (s:Shared):Prop where
 I:Inv X pins U Hc s
 eL:Hc L=some (dW L (seqObj "list" #[] ep))
 ek:Hc (L+2)=some (bz (L+2) kvs)
 fc:Fr H S Hc S
 sc:SRp K Hc S
 rk:Rps K Hc S (ts.map λt=>tre (κ t)) kvs
variable {k:Nat}{f:Addr}{fd:FuncData}{x p:Str}{HZ:WSp}{L:Addr}{ep:Nat}{κ:T->Ky}{ts ls:List T}{kvs:List V}{t:T}
theorem Af {v:V}{u:Value}{items:Array Value}{Q:ForInStep PUnit->Shared->Prop}(F:FnOk X.prog X.w X.K X.mg X.base CX0 k f fd [p] (lSp K HZ)) (D:Df X.K X.mg x f fd [p]) (hr:Room (k+2) X.A) (rt:Rp K H S t v) (ru:ak v u) (hk:∀ S' Q',Q' (tre (κ t)) S'->HZ [t] S' Q')
  (nS:S L=none) (nk:H (L+2)=none) (nSk:S (L+2)=none) (hl:ts.length+1<=sizeLine) (J:SInv X K pins U H S L ep κ ts kvs Hc s)
  (h:∀ Mu Hc' s',SInv X K pins U H S L ep κ (ts++[t]) Mu Hc' s'->Q (.yield ⟨⟩) s'):wpAny (model X.prog X.w) X.A.in1.in1 (mQ L f items (.ref (L+2)) u ⟨⟩) Q E s:=by
 unfold mQ
 refine Ny (wpAny_attempt (Sl (RE (F.run X.A.in1.in1 X.stack s Hc ⟨[u],[]⟩ [u] [v] (λv' H'=>Fr Hc S H' S/\SRp K H' S/\Rp K H' S (tre (κ t)) v') E0 hr.in1.in1 J.I.env0.in1.in1 (D.b s [u] J.I.kIn rfl) (.cons ru .nil)
  ⟨S,[t],λk' S'=>S'=S/\k'=tre (κ t),J.sc,.cons (rt.fr J.fc) .nil,hk S _ ⟨rfl,rfl⟩,λv' H' t' S' f' s' r' q'=>by obtain ⟨rfl,rfl⟩:=q';exact ⟨f',s',r'⟩⟩) λr s2 Me=>?_)))
 cases r with
 |error e=>exact False.elim Me
 |ok fl =>
  cases fl with
  |next=>exact False.elim Me
  |brk=>exact False.elim Me
  |cont=>exact False.elim Me
  |ret ku =>
   obtain ⟨v',H',I',r',f',s'',rp'⟩:=J.I.after Me
   have ek':=(f' (L+2) _ J.ek nSk).1
   obtain ⟨zz,Lv,nn,Mt,eku⟩:=sF I' ek'
   have lk:(kvs++[v']).length<=sizeLine:=by rw [NJ,J.rk.length,Nz];exact hl
   have r2:=Mt.append (.cons r' .nil)
   have lk2:(Lv++[ku]).length<=sizeLine:=r2.length ▸ lk
   refine Ny (listUpdate_at eku rfl ?_ ?_ ?_)
   ·refine NP (h _ _ _ ⟨lj I' ek' eku (its':=Lv++[ku]) (by simp) r2 lk,?_,aG,Fr.at (J.fc.trans f') nk,s''.chg ek' nSk,?_⟩)
    ·rw [au (Op (QP (Q5 (by decide))))]
     exact (f' L _ J.eL nS).1
    ·rw [Og]
     exact Rps.chg ek' ((J.rk.fr f').append (.cons rp' .nil))
   ·exact Nat.le_of_succ_le (by rw [NJ] at lk2;exact lk2)
   ·rw [Array.size_push]
    exact Ra (by rw [NJ] at lk2;exact lk2)
variable {tr:Bool}{k0:Ky}{vs:List V}{its:List Value}{Qt:T->Sto->Prop}{Q:VK}
theorem pX {A:Around}{rest:SortSt->Sem PySem.Fin}{P:PySem.Fin->Shared->Prop}{Lv:List Value}(hK:X.K=K) (hf:fit k0=true) (hd:A.units+k0.dep+1<cLine) (I:Inv X pins U H s) (hk:∀ t∈ls,Ky.ok (κ t)=true/\Ky.shp k0 (κ t)=true) (rs:Rps K H S ls vs) (rv:aj vs its) (rk:Rps K H S (ls.map λt=>tre (κ t)) kvs) (Mt:aj kvs Lv)
  (h:∀ st zs JT Kj,failedOf st=none->zs.Perm ls->zs.Pairwise (λa b=>Ky.lt (κ b) (κ a)=false)->(arrOf st).map (·.2)=Kj.toArray->Rps K H S zs JT->aj JT Kj->JT.length=its.length->wpAny (model X.prog X.w) A (rest st) P E s):wpAny (model X.prog X.w) A (mP Lv.toArray its.toArray rest) P E s:=by
 have lk:Lv.length=its.length:=by rw [<- Mt.length,rk.length,Nz,<- rs.length,rv.length]
 obtain ⟨g1,g2⟩:=wL hK I hk rs rv rk Mt lk
 refine vG (k0:=k0) lk hf g1 hd λst hp KC hs=>?_
 obtain ⟨zs,JT,Kj,p1,p2,out,rz,vz,lz⟩:=g2 _ hp hs
 exact h st zs JT Kj KC p1 p2 out rz vz lz
theorem yb (hK:X.K=K) (F:FnOk X.prog X.w X.K X.mg X.base CX0 k f fd [p] (lSp K HZ)) (D:Df X.K X.mg x f fd [p]) (hr:Room (k+2) X.A) (hf:fit k0=true) (hd:k0.dep<=30) (hk:∀ t∈ls,Ky.ok (κ t)=true/\Ky.shp k0 (κ t)=true/\∀ S' Q',Q' (tre (κ t)) S'->HZ [t] S' Q') (hq:iQ tr ls κ S Qt) (b:Bh K H S Qt Q)
  (rs:Rps K H S ls vs) (rv:aj vs its) (hz:its.length<=sizeLine) (nL:H L=none) (nk:H (L+2)=none) (nS:S L=none) (nSk:S (L+2)=none) (J:SInv X K pins U H S L ep κ [] [] Hc s) :
  wpAny (model X.prog X.w) X.A.in1.in1 (mo L f its.toArray ep (.ref (L+2))) (λfin s'=>∃ v,fin=.done (.ret v)/\EP X pins U Q (.ref L) s') E s:=by
 unfold mo
 refine Ny (PX (Ny ?_))
 have hl:ls.length<=sizeLine:=by rw [<- rs.length,rv.length];exact hz
 refine PySem.MeetsSeq2.wpAny_forIn_array _ (λrest _ s'=>∃ ts rts K8 kvs Hc,ls=ts++rts/\Rps K H S rts K8/\aj K8 rest/\SInv X K pins U H S L ep κ ts kvs Hc s') _ ?_ ?_ _ _ ⟨[],ls,vs,[],Hc,rfl,rs,rv,J⟩
 ·rintro u rest ⟨⟩ s' ⟨ts,rts,K8,kvs,Hc,e,r1,r2,J⟩
  cases r2 with
  |cons ru r2 =>
  cases r1 with
  |cons rt r1 =>
  rw [e] at hl
  exact Af F D hr rt ru (hk _ (by rw [e];simp)).2.2 nS nk nSk (by simp at hl;lia) J λMu Hc' s' J'=>⟨_,_,_,_,_,by rw [e];simp,r1,r2,J'⟩
 ·rintro ⟨⟩ s' ⟨ts,rts,K8,kvs,Hc,e,r1,r2,J⟩
  cases r2
  cases r1
  rw [N4] at e
  subst e
  obtain ⟨zz,Lv,nn,Mt,eku⟩:=sF J.I J.ek
  refine Ny (RH eku rfl ?_)
  refine pX hK hf (by have:=hr.in1.in1.units;lia) J.I (λt ht=>⟨(hk t ht).1,(hk t ht).2.1⟩) (rs.fr J.fc) rv J.rk Mt λst zs JT Kj KC p1 p2 out rz vz lz=>?_
  refine Ny (listUpdate_at eku rfl (Ny (RY ?_)) (by rw [NW,<- Mt.length];exact zz) (OM _))
  have I6:=lj J.I J.ek eku (f:=λ_=>#[]) (its':=[]) (ws:=[]) rfl .nil (OM _)
  have eL6:upd _ (L+2) (bz (L+2) []) L=_:=(au (Op (QP (Q5 (by decide))))).trans J.eL
  exact oQ I6 eL6 KC out vz (lz ▸ hz) λs' I8=>⟨.ref L,_,I8,rfl,oR b nL (Fr.at J.fc nk) (J.sc.chg J.ek nSk) eL6 nS (Rps.chg J.ek rz) (hq _ p1 p2)⟩
end
theorem Ag {X:Cx}{K:Fg}(tr:Bool){k:Nat}{f:Addr}{fd:FuncData}{x p:Str}{HZ:WSp}(hK:X.K=K) (F:FnOk X.prog X.w X.K X.mg X.base CX0 k f fd [p] (lSp K HZ)) (D:Df X.K X.mg x f fd [p]) (hr:Room (k+2) X.A) :
  fQ X (.builtin "sorted") [Str.ofString "key"] (lCK K (ll tr f HZ)):=by
 rintro pins s U H xs zs us ws Q I rv rz ⟨S,ts,Kj,Qt,sr,r1,r2,⟨x,ls,κ,k0,e1,e2,ev,hf,hd,hk,hq⟩,b⟩
 subst e1 e2
 cases r1 with
 |cons rx LZ =>
 cases LZ
 cases r2 with
 |cons rf LZ =>
 cases LZ
 cases rf
 obtain ⟨u,rfl,ru⟩:=bh rv
 obtain ⟨u',rfl,ru'⟩:=bh rz
 cases ru'
 obtain ⟨pl,vs,rfl,hS,rs⟩:=bD sr rx ev
 cases ru
 subst hK
 exact nZ I sr (pW I hS) (I.list hS).choose_spec.2.2 (uI · _) (t9 · _) (u8 · f) λL ep Hc s5 its K8 hz J eL ek nL nk fc sc=>yb rfl F D hr hf hd hk hq b rs K8 hz nL nk (sr.fresh nL) (sr.fresh nk) ⟨J,eL,ek,fc,sc,.nil⟩
def mq (g:Cp):G2:=λx y S Q=>∃ kx ky,x=tre kx/\y=tre ky/\Ky.ok kx=true/\Ky.ok ky=true/\Ky.shp kx ky=true/\kx.dep<=30/\Q (.bl (gl g kx ky)) S
theorem CP {X:Cx}{K:Fg}(g:Cp) (hK:X.K=K) (hu:X.A.units+64<cLine):OpR X (compareOp (cop g)) (l2 K (mq g)):=by
 subst hK
 rintro pins s U H x y v u Q I rx ry ⟨S,tx,ty,Qt,sr,hx,hy,⟨kx,ky,e1,e2,ox,oy,hs,hd,q⟩,b⟩
 subst e1 e2
 obtain ⟨_,as,ra⟩:=mm rfl I hx rx ox
 obtain ⟨_,bs,rb⟩:=mm rfl I hy ry oy
 have z:=(g9 g kx).1 (A:=X.A) hs ox oy ra rb (by lia) X.prog X.w X.xe (EP X pins U Q) ⟨.bl (gl g kx ky),H,I,rfl,b _ H _ S .refl sr .bl q⟩
 cases g<;>exact z
theorem Fj {X:Cx}{K:Fg}(hK:X.K=K) (hu:X.A.units+64<cLine):OpR X (compareOp .Lt) (l2 K (mq .lt)):=CP .lt hK hu
theorem CQ {S:Sto}{Q:T->Sto->Prop}{g:Cp}{x y:Ky}(h1:Ky.ok x=true) (h2:Ky.ok y=true) (h3:Ky.shp x y=true) (h4:x.dep<=30) (h:Q (.bl (gl g x y)) S):mq g (tre x) (tre y) S Q:=⟨x,y,rfl,rfl,h1,h2,h3,h4,h⟩
@[reducible] def wSK (g:List T->List T->Sto->(T->Sto->Prop)->Prop) (wr:WA) (wk:WE):WE:=λU S Q=>wr U S λts S1=>wk U S1 λy S2=>g ts [y] S2 Q
theorem CS {K:Fg}{g:List T->List T->Sto->(T->Sto->Prop)->Prop}{wr:WA}{wk:WE}{U H Q}(h:lE K (wSK g wr wk) U H Q):mI (lCK K g) (lA K wr) (ip (lE K wk) cY) U H Q:=by
 obtain ⟨S,HE,Qt,s,c,q,hq⟩:=h
 refine ⟨S,HE,_,s,c,q,λvs H1 ts S1 f1 s1 r1 q1=>?_⟩
 refine ⟨S1,HE,_,s1,c.fr f1,q1,λy H2 ty S2 f2 s2 r2 q2=>?_⟩
 exact ⟨S2,ts,[ty],Qt,s2,r1.fr f2,.cons r2 .nil,q2,λv H' t S' f=>hq v H' t S' ((f1.trans f2).trans f)⟩
theorem Ah {X:Cx}{K:Fg}(tr:Bool){k:Nat}{f:Addr}{fd:FuncData}{fx pn:Str}{HZ:WSp}{p pos kp JO:Pos}{e:Expr}{wr:WA}(hK:X.K=K) (F:FnOk X.prog X.w X.K X.mg X.base CX0 k f fd [pn] (lSp K HZ)) (D:Df X.K X.mg fx f fd [pn]) (hr:Room (k+2) X.A)
  (hg:Gl X "sorted") (hm:X.mg "sorted"=none) (hgf:Gl X fx) (ha:QA K X [e] wr) (JH:(fx==("__debug__":Str))=false:=by decide)
  (hks:(backToKw pos (keywordEach [⟨some (Str.ofString "key"),.Name fx kp,JO⟩] X.env)).filterMap (·.1)=[Str.ofString "key"]:=by rfl)
  (he:backTo pos (starEach [e] X.env)=(false,eval e X.env)::backTo pos (starEach [] X.env):=by rfl)
  (IN:(backTo pos (starEach [e] X.env)).any (·.1)=false:=by rfl)
  (Kk:(backToKw pos (keywordEach [⟨some (Str.ofString "key"),.Name fx kp,JO⟩] X.env)).all (·.1.isSome)=true:=by rfl)
  (LW:(backToKw pos (keywordEach [⟨some (Str.ofString "key"),.Name fx kp,JO⟩] X.env)).any (·.1.isNone)=false:=by rfl) :
  QE K X (.Call (.Name "sorted" p) [e] [⟨some (Str.ofString "key"),.Name fx kp,JO⟩] pos) (wSK (ll tr f HZ) wr (wC (.ref f))):=by
 have hk:QE K X (.Name fx kp) (wC (.ref f)):=k7 (pj (v:=.ref f) hgf D.hm rfl JH) λ_ _=>.ref
 exact PE.of (nM (Ag tr hK F D hr) hg hm QU ha (pA hk qq) hks (by decide) (by decide) he IN Kk LW) λ_ _ _ h=>CS h
theorem Ai {α:Type}{S:Sto}{Q:T->Sto->Prop}{tr:Bool}{f:Addr}{HZ:WSp}{ft:α->T}{ls:List α}{x:T}(Mv:T->Ky) (k0:Ky) (e:az S x=some (ls.map ft)) (hf:fit k0=true) (hd:k0.dep<=30)
  (hk:∀ a∈ls,Ky.ok (Mv (ft a))=true/\Ky.shp k0 (Mv (ft a))=true/\∀ S' Q',Q' (tre (Mv (ft a))) S'->HZ [ft a] S' Q')
  (h:∀ l':List α,l'.Perm ls->l'.Pairwise (λa b=>Ky.lt (Mv (ft b)) (Mv (ft a))=false)->newL tr (l'.map ft) S Q):ll tr f HZ [x] [.ref f] S Q:=by
 refine ⟨x,ls.map ft,Mv,k0,rfl,rfl,e,hf,hd,λt ht=>?_,λzs hp hs=>?_⟩
 ·obtain ⟨a,ha,rfl⟩:=NI.mp ht
  exact hk a ha
 ·obtain ⟨l',p,rfl⟩:=j9 ft hp rfl
  rw [PQ] at hs
  exact h l' p hs
end T2
namespace Tm
open PySem PySem.Spec PyProof.Rows
abbrev tl (x:Str):List Nat:=x.cps.toList
theorem ext {x y:Str}(h:tl x=tl y):x=y:=by cases x;cases y;simp only [tl] at h;rw [Pe.mp h]
theorem len (x:Str):(tl x).length=x.length:=by simp [tl,Str.length]
theorem c7 (x y:Str):tl (x++y)=tl x++tl y:=by show (x.cps++y.cps).toList=_;simp [tl]
theorem Fk (l:List Nat):tl ⟨l.toArray⟩=l:=by simp [tl]
noncomputable def aM (g:List Nat):List (List Nat)->List Nat
 |[]=>[]
 |[p]=>p
 |p::q::r=>p++g++aM g (q::r)
theorem kc (g:Str):∀ ps:List Str,tl (Str.join g ps)=aM (tl g) (ps.map tl)
 |[]=>rfl
 |[p]=>rfl
 |p::q::r=>by
  have ih:=kc g (q::r)
  show tl ((p++g++Str.join g (q::r)):Str)=tl p++tl g++aM (tl g) ((q::r).map tl)
  rw [<- ih,c7,c7]
theorem kK (g:Str) (ps:List Str):tl (Txt.join g ps)=aM (tl g) (ps.map tl):=by
 rw [show Txt.join g ps=Str.join g ps from StrLaws.glued_eq_join g ps,kc]
theorem gc:tl (" ":Str)=[32]:=by decide +kernel
theorem empty:tl ("":Str)=[]:=by decide +kernel
theorem gG (x:Str):aM [32] ((Txt.split x " ").map tl)=tl x:=by
 have:=kc " " (Txt.split x " ")
 rw [StrLaws.join_split,gc] at this
 exact this.symm
theorem split_free (x:Str):∀ p∈(Txt.split x " ").map tl,32∉p:=λp hp=>by
 obtain ⟨q,hq,rfl⟩:=NI.mp hp
 exact StrLaws.split_free x 32 q hq
theorem yc (x:Str):(Txt.split x " ")≠[]:=λh=>by
 have:=split_pos x " "
 rw [h] at this;simp at this
theorem qX (n d:Nat) (h:d<=n) (o:Option Int):HT.sIx n d o<=n:=by
 cases o with
 |none=>exact h
 |some v=>simp only [HT.sIx];split<;>lia
theorem yd (lo hi:Option Int) (n:Nat):Builtin.Str.strSliceIndices lo hi 1 n=(List.range (HT.sIx n n hi - HT.sIx n 0 lo)).map λk=>HT.sIx n 0 lo+k:=by
 have c:∀ i:Int,max 0 (min (if i<0 then i+(n:Int) else i) (n:Int))=(((if i<0 then (i+(n:Int)).toNat else min i.toNat n):Nat):Int):=λi=>by split<;>lia
 have HM:Builtin.Str.strSliceIndices lo hi 1 n=sliceRange ((HT.sIx n 0 lo:Nat):Int) ((HT.sIx n n hi:Nat):Int) 1:=by
  unfold Builtin.Str.strSliceIndices
  cases lo with
  |none =>
   cases hi with
   |none=>rfl
   |some j=>simp only [show (1:Int)>0 by decide,OV,c,HT.sIx];rfl
  |some i =>
   cases hi with
   |none=>simp only [show (1:Int)>0 by decide,OV,c,HT.sIx]
   |some j=>simp only [show (1:Int)>0 by decide,OV,c,HT.sIx]
 rw [HM]
 unfold sliceRange
 simp only [show (1:Int)>0 by decide,OV,Int.one_mul]
 have hc:(if ((HT.sIx n 0 lo:Nat):Int)<((HT.sIx n n hi:Nat):Int) then (((HT.sIx n n hi:Nat):Int) - ((HT.sIx n 0 lo:Nat):Int)+1 - 1) / 1 else 0).toNat=HT.sIx n n hi - HT.sIx n 0 lo:=by
  split
  ·rw [Int.ediv_one];lia
  ·simp;lia
 rw [hc]
 apply N8
 intro k _
 lia
theorem oS (x:Str) (lo hi:Option Int):tl (Txt.slice x lo hi)=((tl x).drop (HT.sIx x.length 0 lo)).take (HT.sIx x.length x.length hi - HT.sIx x.length 0 lo):=by
 have hA:=qX x.length 0 (OM _) lo
 have hB:=qX x.length x.length (NE _) hi
 have hl:=len x
 unfold Txt.slice
 rw [yd]
 split
 ·next h =>
  simp only [Qs,OA,Nz,List.length_range,Pb] at h
  have h0:HT.sIx x.length 0 lo=0\/x.length=0:=by lia
  rcases h0 with h0|h0
  ·rw [h0,Pl,O4 (by lia)]
  ·have:tl x=[]:=OB.mp (by lia)
   rw [this];simp
 ·rw [Fk]
  have:=StrLaws.picks (tl x) (HT.sIx x.length x.length hi - HT.sIx x.length 0 lo) (HT.sIx x.length 0 lo)
  by_cases hle:HT.sIx x.length 0 lo<=HT.sIx x.length x.length hi
  ·rw [<- this (by rw [hl];lia)]
   simp [tl]
  ·rw [show HT.sIx x.length x.length hi - HT.sIx x.length 0 lo=0 by lia];simp
theorem dw (x:Str) (k:Nat):tl (Txt.slice x none (some k))=(tl x).take k:=by
 rw [oS,HT.sIx_none,HT.sIx_nat,Pl,Sw,<- len x,<- RV,O4 (NE _)]
theorem lq (x y:Str):Txt.startswith x y=decide ((tl x).take (tl y).length=tl y):=by
 unfold Txt.startswith
 rw [StrLaws.subAt_eq,Pl,OT,len]
 by_cases h:y.length<=x.length
 ·simp only [h,QB,OA]
  rw [N7];simp
 ·simp only [h,Qk,OH]
  symm
  rw [OW]
  intro e
  have:=Ow List.length e
  rw [Of,len,len] at this
  lia
theorem qY {g:Str}{ps:List Str}{b:Nat}(h:∀ p∈ps,p.length<=b) (h2:ps.length * (b+g.length)<=10000):JoinOk g ps=true:=by
 have main:∀ (ps:List Str) (HI:Nat),(∀ p∈ps,p.length<=b)->ps.foldl (λa p=>a+p.length+g.length) HI<=HI+ps.length * (b+g.length):=by
  intro ps
  induction ps with
  |nil=>intro HI _;simp
  |cons p r ih =>
   intro HI h
   have:=ih (HI+p.length+g.length) λq hq=>h q (NQ _ hq)
   have hp:=h p NM
   simp only [QH,NU,Nat.add_mul,Nat.one_mul] at this ⊢
   lia
 have:=main ps 0 h
 unfold JoinOk Builtin.Str.tooLong
 rw [List.foldl_toArray]
 have hs:sizeLine=16777216:=N3
 simp only [Qg,OW]
 lia
theorem oU (zs:List Str):T2.db (zs.map T2.T.str)=some zs:=by
 induction zs with
 |nil=>rfl
 |cons a l ih=>simp [T2.pH,ih]
theorem ye (zs:List Int):T2.da (zs.map T2.T.int)=some zs:=by
 induction zs with
 |nil=>rfl
 |cons a l ih=>simp [T2.kI,ih]
theorem pY (d:Nat):Str.length ⟨#[d]⟩=1:=rfl
theorem gK:Str.length (Str.ofString " ")=1:=by decide +kernel
theorem gL:Str.length (Str.ofString "")=0:=by decide +kernel
theorem pZ (g:Str){b:Nat}:∀ zs:List Str,(∀ y∈zs,y.length<=b)->(Txt.join g zs).length<=zs.length * (b+g.length):=by
 intro zs h
 rw [<- len,kK,<- len g]
 induction zs with
 |nil=>simp [aM]
 |cons y r ih =>
  have hy:=h y NM
  rw [<- len] at hy
  have h3:=ih λq hq=>h q (NQ _ hq)
  cases r with
  |nil=>simp only [NF,Pr,aM,NU,OI];lia
  |cons y2 r2 =>
   simp only [NF,aM,NJ,NU,Nat.add_mul,Nat.one_mul] at h3 ⊢
   lia
theorem nj (x:Str){k:Int}(h:0<=k):(Txt.slice x none (some k)).length<=k.toNat:=by
 have e:((k.toNat:Nat):Int)=k:=by lia
 rw [<- len,<- e,dw,Of];lia
theorem n0 (g:List Nat):∀ (ps:List (List Nat)) (p:List Nat),p∈ps->p.length<=(aM g ps).length
 |[],_,h=>by cases h
 |[q],p,h=>by rw [N1.mp h];simp [aM]
 |q::q2::r,p,h=>by
  simp only [aM,NJ]
  rcases NR.mp h with rfl|h
  ·lia
  ·have:=n0 g (q2::r) p h
   lia
theorem n4 {a x:Str}(h:x∈Txt.split a " "):x.length<=a.length:=by
 have:=n0 [32] _ _ (N0 (f:=tl) h)
 rw [gG,len,len] at this
 exact this
theorem yf (x y:Str):(Txt.stripChars x y).length<=x.length:=PyProof.Rows.len_stripBy _ _ _ x
noncomputable def bo:List Nat->List (List Nat)
 |[]=>[]
 |c::r=>if c=32 then r::bo r else bo r
theorem ji (x y:Str):Txt.startswith x y=decide (Txt.slice x none (some (y.length:Int))=y):=by
 rw [lq,len,N7]
 simp only [ND]
 constructor
 ·intro h;exact ext (by rw [dw];exact h)
 ·intro h;rw [<- dw,h]
end Tm
namespace T2
open PySem PySem.Spec PyProof.Rows L2
section
variable {K:Fg}{X:Cx}{k:Nat}{f:Addr}{fd:FuncData}{ps:List Str}{HZ:WSp}{x m:Str}{p pos apos cpos:Pos}{e o:Expr}{es:List Expr}{wa wb:WE}{wr:WA}{id ty:String}{g:GC}{gm:GM}{i:Nat}
theorem aa (i:Nat) (hN:X.N[i]?=some x:=by rfl) (hv:Vis X.env.scope x:=by first|exact Or.inl rfl|exact Or.inr (Or.inl rfl)|exact Or.inr (Or.inr rfl)) (hd:(x==("__debug__":Str))=false:=by decide)
  (Ly:(x==("__classdict__":Str))=false:=by decide):QE K X (.Name x pos) (wV i):=Eg (Bn hN hv hd Ly)
theorem mR {n:String}(hg:Gl X x) (hm:X.mg x=none) (hv:bootBuiltins x=some (.type n)) (hn:x ≠ "__name__":=by decide) (hd:(x==("__debug__":Str))=false:=by decide):QE K X (.Name x pos) (wC (.ty n)) :=
 k7 (yV (v:=.ty n) hg hm hv rfl hn hd) λ_ _=>.ty
theorem ie {n:Int}(hg:Gl X x) (hm:∃ tk,X.mg x=some (.int n tk)) (hd:(x==("__debug__":Str))=false:=by decide):QE K X (.Name x pos) (wC (.int n)):=by
 obtain ⟨tk,hm⟩:=hm
 exact k7 (pj (v:=.int n) hg hm ⟨tk,rfl⟩ hd) λ_ _=>.int
theorem CT (F:FnOk X.prog X.w X.K X.mg X.base CX0 k f fd ps (lSp K HZ)) (D:Df X.K X.mg x f fd ps) (hr:Room k X.A) (hg:Gl X x) (ha:QA K X (e::es) wr)
  (JH:(x==("__debug__":Str))=false:=by decide) (he:starEach (e::es) X.env=(false,eval e X.env)::starEach es X.env:=by rfl) (JN:(backTo pos (starEach es X.env)).any (·.1)=false:=by rfl) :
  QE K X (.Call (.Name x p) (e::es) [] pos) (iw HZ [] wr):=Cb (dvs:=[]) (λ_ _=>.nil) (zc F hr hg D.hm D.kp D.b .nil iq ha JH he JN)
theorem GO (hc:a0 X (.builtin id) (lC K g)) (hg:Gl X x) (hm:X.mg x=none) (hv:bootBuiltins x=some (.builtin id)) (ha:QA K X (e::es) wr) (hn:x ≠ "__name__":=by decide) (JH:(x==("__debug__":Str))=false:=by decide)
  (he:starEach (e::es) X.env=(false,eval e X.env)::starEach es X.env:=by rfl) (JN:(backTo pos (starEach es X.env)).any (·.1)=false:=by rfl):QE K X (.Call (.Name x p) (e::es) [] pos) (wCB g wr):=tP (xy hc hg hm hv ha hn JH he JN)
theorem mw (hc:a0 X (.type id) (lC K g)) (hg:Gl X x) (hm:X.mg x=none) (hv:bootBuiltins x=some (.type id)) (ha:QA K X (e::es) wr) (hn:x ≠ "__name__":=by decide) (JH:(x==("__debug__":Str))=false:=by decide)
  (he:starEach (e::es) X.env=(false,eval e X.env)::starEach es X.env:=by rfl) (JN:(backTo pos (starEach es X.env)).any (·.1)=false:=by rfl):QE K X (.Call (.Name x p) (e::es) [] pos) (wCB g wr):=tP (v3 hc hg hm hv ha hn JH he JN)
theorem GP (hK:X.K=K) (pa:PlainAttrs ty) (slot:Slot ty m id) (LK:typeOf (.builtin id)=pure (.type "method_descriptor")) (hm:MtR X id (lM K gm)) (ho:QE K X o wa) (ha:QA K X (e::es) wr)
  (h:∀ {to t r},PE X o to->MtR X id r->PA X (e::es) t->PE X (.Call (.Attribute o m apos) (e::es) [] cpos) (tBM X.K ty r to t)):QE K X (.Call (.Attribute o m apos) (e::es) [] cpos) (wBM ty gm wa wr):=by
 subst hK
 exact GF (h ho hm ha)
theorem Aj {y:Str}{i:Nat}(hN:X.N.Nodup) (hi:X.N[i]?=some y) (hx:Loc X.env.scope y) (hf:X.fn y=true\/X.env.scope.names.lookup y=some .local:=by first|exact .inl rfl|exact .inr rfl|assumption):QG K X (.Name y pos) (wgN i):=zJ (y1 hN hi hx hf)
theorem CU {i:Expr}{wo wi:WE}{g:GS}(ho:QE K X o wo) (hi:QE K X i wi) (hs:cX X (ff K g))
  (h:∀ {to ti t},PE X o to->PE X i ti->cX X t->PG X (.Subscript o i pos) (L2.dR to ti t)):QG K X (.Subscript o i pos) (wgS wo wi g):=Ck (h ho hi hs)
end
end T2
namespace T2
open PySem PySem.Spec PyProof.Rows L2 S6
theorem uJ (a:Value):argsOk "sorted" ⟨[a],[]⟩:=by unfold argsOk;kernel_rfl
theorem ua (a:Value):argsOk "list.sort" ⟨[a],[]⟩:=by unfold argsOk;kernel_rfl
theorem uA (a:Addr):Builtin.«list.sort» ⟨[.ref a],[]⟩=gr a λitems before _=>mP items items (iP a before):=by rfl
end T2
namespace T2
open PySem PySem.Spec PyProof.Rows L2
section
variable {κ:Type}[DecidableEq κ]
noncomputable def aY (kts:List (κ×T)) (k:κ):Option T:=(kts.find? λkv=>decide (kv.1=k)).map (·.2)
noncomputable def de (kts:List (κ×T)) (k:κ) (t:T):List (κ×T) :=
 if (kts.any λkv=>decide (kv.1=k))=true then kts.map (λkv=>if kv.1=k then (kv.1,t) else kv) else kts++[(k,t)]
noncomputable def eN (kts:List (κ×T)) (k:κ):List (κ×T):=kts.filter λkv=>decide (kv.1≠k)
abbrev PrT (K:Fg) (H:Hp) (S:Sto):List (κ×T)->List (κ×V)->Prop:=Paired λ(p:κ×T) (q:κ×V)=>p.1=q.1/\Rp K H S p.2 q.2
variable {K:Fg}{H:Hp}{S:Sto}
theorem gP {k:κ}{t:T}:∀ {kts:List (κ×T)}{kvs:List (κ×V)},PrT K H S kts kvs->aY kts k=some t->∃ v,aN kvs k=some v/\Rp K H S t v:=by
 intro kts kvs pr
 induction pr with
 |nil=>intro e;cases e
 |@cons p q2 l l' er ps ih =>
  intro h
  obtain ⟨a,b⟩:=p;obtain ⟨c,d⟩:=q2;obtain ⟨e,r⟩:=er
  simp only at e;subst e
  unfold aY aN at *
  rw [Oy] at h ⊢
  by_cases z:a=k
  ·simp only [z,QB,PP,O7] at h ⊢
   subst h;exact ⟨d,rfl,r⟩
  ·simp only [z,Qk] at h ⊢
   exact ih h
theorem kf {k:κ}:∀ {kts:List (κ×T)}{kvs:List (κ×V)},PrT K H S kts kvs->(aN kvs k).isSome=(aY kts k).isSome:=by
 intro kts kvs pr
 induction pr with
 |nil=>exact rfl
 |@cons p q2 l l' er ps ih =>
  obtain ⟨a,b⟩:=p;obtain ⟨c,d⟩:=q2;obtain ⟨e,r⟩:=er
  simp only at e;subst e
  unfold aY aN
  rw [Oy,Oy]
  by_cases z:a=k
  ·simp [z]
  ·simp only [z,Qk]
   exact ih
theorem any_eq {k:κ}:∀ {kts:List (κ×T)}{kvs:List (κ×V)},PrT K H S kts kvs->(kvs.any λkv=>decide (kv.1=k))=kts.any λkv=>decide (kv.1=k):=by
 intro kts kvs pr
 induction pr with
 |nil=>exact rfl
 |@cons p q2 l l' er ps ih =>
  obtain ⟨a,b⟩:=p;obtain ⟨c,d⟩:=q2;obtain ⟨e,r⟩:=er
  simp only at e;subst e
  rw [O0,O0,ih]
theorem Paired.app {α β:Type}{F:α->β->Prop}:∀ {a:List α}{b:List β}{c:List α}{d:List β},Paired F a b->Paired F c d->Paired F (a++c) (b++d):=by
 intro a b c d p r
 induction p with
 |nil=>exact r
 |cons h t ih=>exact .cons h ih
theorem Ak {k:κ}{t:T}{v:V}(r:Rp K H S t v):∀ {kts:List (κ×T)}{kvs:List (κ×V)},PrT K H S kts kvs->PrT K H S (kts.map λkv=>if kv.1=k then (kv.1,t) else kv) (kvs.map λkv=>if kv.1=k then (kv.1,v) else kv):=by
 intro kts kvs pr
 induction pr with
 |nil=>exact .nil
 |@cons p q2 l l' er ps ih =>
  obtain ⟨a,b⟩:=p;obtain ⟨c,d⟩:=q2;obtain ⟨e,q⟩:=er
  simp only at e;subst e
  refine .cons ?_ (ih)
  dsimp only
  by_cases z:a=k
  ·rw [NC z,NC z];exact ⟨rfl,r⟩
  ·rw [NB z,NB z];exact ⟨rfl,q⟩
theorem qZ {k:κ}{t:T}{v:V}(r:Rp K H S t v){kts:List (κ×T)}{kvs:List (κ×V)}(p:PrT K H S kts kvs):PrT K H S (de kts k t) (bw kvs k v):=by
 unfold de bw
 rw [any_eq p]
 split
 ·exact Ak r p
 ·exact Paired.app p (.cons ⟨rfl,r⟩ .nil)
theorem Al {k:κ}:∀ {kts:List (κ×T)}{kvs:List (κ×V)},PrT K H S kts kvs->PrT K H S (eN kts k) (dN kvs k):=by
 intro kts kvs pr
 induction pr with
 |nil=>exact .nil
 |@cons p q2 l l' er ps ih =>
  obtain ⟨a,b⟩:=p;obtain ⟨c,d⟩:=q2;obtain ⟨e,q⟩:=er
  simp only at e;subst e
  unfold eN dN
  rw [Ou,Ou]
  by_cases z:a=k
  ·simp only [z,ne_eq,not_true,Qk,Oe,Pa];exact ih
  ·simp only [z,ne_eq,not_false_eq_true,QB,OV];exact .cons ⟨rfl,q⟩ (ih)
end
noncomputable def iR:Key->T
 |.inl i=>.int i
 |.inr x=>.str x
section
variable {K:Fg}{X:Cx}{H:Hp}{S:Sto}
theorem eO {t:T}{v:V}{k:Key}(r:Rp K H S t v) (e:bU t=some k):v=kV k:=by
 cases r<;>simp only [bU,O7,reduceCtorEq] at e<;>subst e<;>rfl
theorem Am (k:Key):Rp K H S (iR k) (kV k):=by cases k<;>constructor
def RdT (w:World) (S:Sto) (a:Addr) (kts:List (Key×T)):Prop:=S a=some (.dK kts)\/∃ od kvs,S a=some (.fK w od kvs kts)
theorem mC {w:World}{a:Addr}{kts:List (Key×T)}(s:SRp K H S) (g:RdT w S a kts):∃ kvs,RdK w H a kvs/\PrT K H S kts kvs:=by
 rcases g with e|⟨od,kvs,e⟩
 ·cases s a _ e with
  |dK h p=>exact ⟨_,.inl h,p⟩
 ·cases s a _ e with
  |fK h p=>exact ⟨_,.inr ⟨_,h⟩,p⟩
theorem iE {a:Addr}{kts:List (Key×T)}(s:SRp K H S) (e:S a=some (.dK kts)):∃ kvs,H a=some (.dK kvs)/\PrT K H S kts kvs:=by
 cases s a _ e with
 |dK h p=>exact ⟨_,h,p⟩
theorem oV {a:Addr}{kts us:List (Key×T)}{ws:List (Key×V)}{Qt:T->Sto->Prop}{Q:VK}{t:T}{v:V}(s:SRp K H S) (e:S a=some (.dK kts)) (p:PrT K H S us ws) (b:Bh K H S Qt Q) (r:Rp K H S t v) (q:Qt t (put S a (.dK us))):Q v (upd H a (.dK ws)):=by
 have hn:S a≠none:=by rw [e];simp
 have f:Fr H S (upd H a (.dK ws)) (put S a (.dK us)):=Fr.write hn
 exact b _ _ _ _ f (s.write hn (.dK aG (Paired.mapP p λ_ _ z=>⟨z.1,z.2.fr f⟩))) (r.fr f) q
def iS (w:World):G2:=λx y S Q=>∃ a kts k t,x=.ref a/\RdT w S a kts/\bU y=some k/\aY kts k=some t/\Q t S
theorem Fl {o i:Expr}{wo wi:WE}{pos:Pos}(ho:QE K X o wo) (hi:QE K X i wi) (hs:gi i):QE K X (.Subscript o i pos) (w2 (iS X.w) wo wi):=PE.of (zH ho hi hs) λU H Q zz95=>by
 obtain ⟨S,HE,Qt,s,c,q,hq⟩:=zz95
 refine ⟨S,HE,_,s,c,q,λx H1 tx S1 f1 s1 r1 q1=>?_⟩
 refine ⟨S1,HE,_,s1,c.fr f1,q1,λy H2 ty S2 f2 s2 r2 q2=>?_⟩
 obtain ⟨a,kts,k,t,rfl,g,ek,l,q2⟩:=q2
 cases r1
 obtain ⟨kvs,hg,p⟩:=mC s2 g
 obtain ⟨v,lv,rv⟩:=gP p l
 exact ⟨a,kvs,k,v,rfl,hg,eO r2 ek,lv,hq v H2 t S2 (f1.trans f2) s2 rv q2⟩
def gu (w:World) (neg:Bool):G2:=λx y S Q=>∃ a kts k,y=.ref a/\RdT w S a kts/\bU x=some k/\Q (.bl (neg ^^ (aY kts k).isSome)) S
theorem Fm:OpR X (compareOp .In) (l2 K (gu X.w false)):=by
 rintro pins s U H x y v u Q I rx ry ⟨S,tx,ty,Qt,sr,hx,hy,⟨a,kts,k,e,g,ek,q⟩,b⟩
 subst e
 cases hy
 cases (show u=Value.ref a from ry)
 obtain ⟨kvs,hg,p⟩:=mC sr g
 have:=eO hx ek
 subst this
 refine Gn I hg rx λs' I'=>⟨.bl (aN kvs k).isSome,H,I',rfl,b _ H _ S .refl sr .bl ?_⟩
 rw [kf p];simpa using q
theorem yg:OpR X (compareOp .NotIn) (l2 K (gu X.w true)):=by
 rintro pins s U H x y v u Q I rx ry ⟨S,tx,ty,Qt,sr,hx,hy,⟨a,kts,k,e,g,ek,q⟩,b⟩
 subst e
 cases hy
 cases (show u=Value.ref a from ry)
 obtain ⟨kvs,hg,p⟩:=mC sr g
 have:=eO hx ek
 subst this
 refine zG I hg rx λs' I'=>⟨.bl (!(aN kvs k).isSome),H,I',rfl,b _ H _ S .refl sr .bl ?_⟩
 rw [kf p];simpa using q
def sG:GS:=λo i v S Q=>∃ a kts k,o=.ref a/\S a=some (.dK kts)/\bU i=some k/\kts.length<sizeLine/\Q (put S a (.dK (de kts k v)))
theorem re (hu:X.A.units+1<cLine):cX X (ff K sG):=by
 rintro pins s U H o i v ov iv u Q I ro ri rv ⟨S,to,ti,tv,Qt,sr,hO,hI,hV,⟨a,kts,k,e,ea,ek,hl,q⟩,b⟩
 subst e
 cases hO
 cases (show ov=Value.ref a from ro)
 obtain ⟨kvs,hk,p⟩:=iE sr ea
 have:=eO hI ek
 subst this
 have hn:S a≠none:=by rw [ea];simp
 refine wq hu I (iL.k hk (by rw [Paired.len p];exact hl)) ri rv λs' I'=>⟨_,I',?_⟩
 exact b _ _ (Fr.write hn) (sr.write hn (.dK aG (Paired.mapP (qZ hV p) λ_ _ z=>⟨z.1,z.2.fr (Fr.write hn)⟩))) q
def sH:GM:=λx ts S Q=>∃ a kts y k t,x=.ref a/\ts=[y]/\S a=some (.dK kts)/\bU y=some k/\aY kts k=some t/\Q t (put S a (.dK (eN kts k)))
theorem CV:MtR X "dict.pop" (lM K sH):=by
 rintro pins s U H x xs v us Q I rx rv ⟨S,t,ts,Qt,sr,hx,rs,⟨a,kts,y,k,t',e,e2,ea,ek,l,q⟩,b⟩
 subst e e2
 cases hx
 cases rs with
 |cons ry rn =>
  cases rn
  obtain ⟨kvs,hk,p⟩:=iE sr ea
  obtain ⟨w',lw,K3⟩:=gP p l
  have:=eO ry ek
  subst this
  exact zI pins s U H _ _ v us Q I rx rv ⟨a,kvs,k,w',rfl,rfl,hk,lw,oV sr ea (Al p) b K3 q⟩
@[reducible] def Fn:WE:=λ_ S Q=>∀ p,S p=none->Q (.ref p) (put S p (.dK []))
theorem rg {pos:Pos}:QE K X (.Dict [] [] pos) Fn:=PE.of xH λU H Q ⟨S,HE,Qt,s,c,q,hq⟩=>λp hp =>
 hq _ _ (.ref p) _ (Fr.newT hp) (s.newT hp (.dK aG .nil)) .ref (q p (s.fresh hp))
noncomputable def gg (kv:Key×T):T:=.tup [iR kv.1,kv.2]
@[reducible] def wiK (w:World) (wa:WE):WI:=λU S R=>wa U S λx S1=>∃ d kts,x=.ref d/\S1 d=some (.dK kts)/\∀ od kvs,R ⟨kts.map λkv=>iR kv.1,λS'=>S' d=some (.fK w od kvs kts)⟩ (put S1 d (.fK w od kvs kts))
@[reducible] def wiP (w:World) (wa:WE):WI:=λU S R=>wa U S λx S1=>∃ d kts,x=.ref d/\S1 d=some (.dK kts)/\∀ od kvs,R ⟨kts.map gg,λS'=>S' d=some (.fK w od kvs kts)⟩ (put S1 d (.fK w od kvs kts))
theorem An {w:World}{d:Addr}{od:Obj}{kts:List (Key×T)}{kvs:List (Key×V)}(s:SRp K H S) (e:S d=some (.dK kts)) (p:PrT K H S kts kvs) :
  Fr H S (upd H d (fzH w d od kvs)) (put S d (.fK w od kvs kts))/\SRp K (upd H d (fzH w d od kvs)) (put S d (.fK w od kvs kts)):=by
 have hn:S d≠none:=by rw [e];simp
 exact ⟨Fr.write hn,s.write hn (.fK aG (Paired.mapP p λ_ _ z=>⟨z.1,z.2.fr (Fr.write hn)⟩))⟩
theorem yh {o:Expr}{wa:WE}{Jz:List Expr}{x1:Nat}{IV apos cpos:Pos}(ho:QE K X o wa) (hK:X.K=K)
  (Ja:attributeBase o "items" X.env (eval o X.env)=eval o X.env:=by rfl) (Jb:(apos.endLine==cpos.line)=true:=by rfl):QI K X (.Tuple Jz x1 IV) (.Call (.Attribute o "items" apos) [] [] cpos) (wiP X.w wa):=by
 subst hK
 refine PI.of (xL (qv Q6 PySem.F.slot_dict_items PySem.F.type_dict_items xK ho Ja Jb)) λU H R zz96=>?_
 obtain ⟨S,HE,Rt,s,c,q,hq⟩:=zz96
 refine ⟨S,HE,_,s,c,q,λx H1 tx S1 f1 s1 r1 q1=>?_⟩
 obtain ⟨d,kts,rfl,ed,q1⟩:=q1
 cases r1
 obtain ⟨kvs,hk,p⟩:=iE s1 ed
 refine ⟨.inr (.inr (.inl ⟨rfl,.inl ⟨_,hk⟩⟩)),d,kvs,rfl,rfl,hk,λv hv=>?_⟩
 have nd:d≠v:=bj hk hv
 refine ⟨v,d,kvs,rfl,aG,by rw [au nd];exact hk,λod=>?_⟩
 have fv:Fr H1 S1 (upd H1 v (fW v d)) S1:=Fr.new hv
 obtain ⟨f2,s2⟩:=An (w:=X.w) (od:=od) (s1.new (u:=fW v d) hv) ed (Paired.mapP p λ_ _ z=>⟨z.1,z.2.fr fv⟩)
 refine hq _ _ _ _ ((f1.trans fv).trans f2) s2 ⟨?_,?_,?_⟩ (q1 od kvs)
 ·intro H' S' i f' s' g hi
  cases s' d _ g with
  |fK h p' =>
   dsimp only at hi
   rw [Nz] at hi
   exact ⟨h,by rw [Paired.len p'];exact hi⟩
 ·rintro H' S' i x H'' f' s' g hi ⟨pp,kv,ek,hp,ex,eH⟩
  subst eH ex
  cases s' d _ g with
  |fK h p' =>
   obtain ⟨kt,e1,e2⟩:=mJ p' ek
   refine ⟨gg kt,by rw [O5,e1];rfl,Fr.new hp,s'.new hp,?_⟩
   refine .tup (s'.fresh hp) aG (.cons ?_ (.cons (e2.2.fr (Fr.new hp)) .nil))
   rw [e2.1];exact Am _
 ·intro H' S' f' s' g
  cases s' d _ g with
  |fK h p'=>exact ⟨h,by rw [Paired.len p',Nz];exact NE _⟩
@[reducible] def tT (w:World) (we:WE):WE:=λU S Q=>we U S λt S'=>∃ d od kvs kts,S' d=some (.fK w od kvs kts)/\Q t (put S' d (.dK kts))
@[reducible] def tU (w:World) (u:WS):WS:=λD U S=>u { D with nx:=λHD S'=>∃ d od kvs kts,S' d=some (.fK w od kvs kts)/\D.nx HD (put S' d (.dK kts)) } U S
theorem p5 {w:World}{d:Addr}{od:Obj}{kts:List (Key×T)}{kvs:List (Key×V)}(s:SRp K H S) (e:S d=some (.fK w od kvs kts)) :
  H d=some (fzH w d od kvs)/\Fr H S (upd H d (.dK kvs)) (put S d (.dK kts))/\SRp K (upd H d (.dK kvs)) (put S d (.dK kts)):=by
 have hn:S d≠none:=by rw [e];simp
 cases s d _ e with
 |fK h p=>exact ⟨h,Fr.write hn,s.write hn (.dK aG (Paired.mapP p λ_ _ z=>⟨z.1,z.2.fr (Fr.write hn)⟩))⟩
theorem Fo {e:Expr}{we:WE}(h:QE K X e we):QE K X e (tT X.w we):=PE.of (PE.unf h) λU H Q zz97=>by
 obtain ⟨S,HE,Qt,s,c,q,hq⟩:=zz97
 refine ⟨S,HE,_,s,c,q,λv H1 t S1 f1 s1 r1 q1=>?_⟩
 obtain ⟨d,od,kvs,kts,e,q1⟩:=q1
 obtain ⟨h1,f2,s2⟩:=p5 s1 e
 exact ⟨d,od,kvs,h1,hq v _ t _ (f1.trans f2) s2 (r1.fr f2) q1⟩
theorem Fp {st:Stmt}{u:WS}(h:QS K X st u):QS K X st (tU X.w u):=PS.of (PS.unf h) λD U H zz98=>by
 obtain ⟨S,HE,Dt,s,c,q,he⟩:=zz98
 refine ⟨S,HE,_,s,c,q,⟨λHD H' HY S' f s' c' q'=>?_,he.rt,he.bk,he.ct⟩⟩
 obtain ⟨d,od,kvs,kts,e,q1⟩:=q'
 obtain ⟨h1,f2,s2⟩:=p5 s' e
 exact ⟨d,od,kvs,h1,he.nx HD _ HY _ (f.trans f2) s2 (c'.fr f2) q1⟩
end
def mS (K:Fg) (g:List T->List T->Sto->(T->Sto->Prop)->Prop):List V->List V->Hp->VK->Prop:=λxs zs H Q=>∃ S ts us Qt,SRp K H S/\Rps K H S ts xs/\Rps K H S us zs/\g ts us S Qt/\Bh K H S Qt Q
@[reducible] def sI (g:List T->List T->Sto->(T->Sto->Prop)->Prop) (wr:WA) (wk:WE):WE:=λU S Q=>wr U S λts S1=>wk U S1 λy S2=>g ts [y] S2 Q
theorem yi {K:Fg}{g:List T->List T->Sto->(T->Sto->Prop)->Prop}{wr:WA}{wk:WE}{U H Q}(h:lE K (sI g wr wk) U H Q):mI (mS K g) (lA K wr) (ip (lE K wk) cY) U H Q:=by
 obtain ⟨S,HE,Qt,s,c,q,hq⟩:=h
 refine ⟨S,HE,_,s,c,q,λvs H1 ts S1 f1 s1 r1 q1=>?_⟩
 refine ⟨S1,HE,_,s1,c.fr f1,q1,λy H2 ty S2 f2 s2 r2 q2=>?_⟩
 exact ⟨S2,ts,[ty],Qt,s2,r1.fr f2,.cons r2 .nil,q2,λv H' t S' f=>hq v H' t S' ((f1.trans f2).trans f)⟩
def sJ:List T->List T->Sto->(T->Sto->Prop)->Prop:=λts us S Q=>∃ x ns d,ts=[x]/\us=[d]/\az S x=some (List.map T.int ns)/\(ns=[]->Q d S)/\(ns≠[]->∀ m,m∈ns->(∀ i∈ns,i<=m)->Q (.int m) S)
section
variable {K:Fg}{X:Cx}{k:Nat}{f C:Addr}{fd:FuncData}{ps:List Str}{HZ:WSp}{x m fl:Str}{p pos apos cpos IZ:Pos}{e o value:Expr}{es:List Expr}{wa wv:WE}{wr:WA}{G:Addr->Prop}
theorem p6 (M:Mk X.K C f) (F:FnOk X.prog X.w X.K X.mg X.base CX0 k f fd ["self"] (lSp K HZ)) (hb:ay X.K fd ["self"] []) (hr:Room (k+1) X.A) (hg:Gl X x) (hm:X.mg x=some (.ref C)) (JH:(x==("__debug__":Str))=false:=by decide) :
  QE K X (.Call (.Name x p) [] [] pos) (sj C HZ [] eZ):=zN (dvs:=[]) (λ_ _=>.nil) (xx M F hr hg hm hb .nil iq JH)
theorem aU {pl:Sem Bool}(hG:∀ C,G C->Cls X.K C/\Meth X.K C m f) (F:FnOk X.prog X.w X.K X.mg X.base CX0 k f fd ps (lSp K HZ)) (hb:ay X.K fd ps []) (hr:Room k X.A) (ho:QE K X o wa) (ha:QA K X (e::es) wr)
  (Ki:starEach (e::es) X.env=(false,eval e X.env)::starEach es X.env:=by rfl) (JN:(backTo pos (starEach es X.env)).any (·.1)=false:=by rfl)
  (ht:eval (.Call (.Attribute o m apos) (e::es) [] pos) X.env=(do
   let ov <- eval o X.env
   standAt apos.atName
   let (f,first) <- holding [ov] (getMethod ov m pl)
   callWith pos f first (backTo pos (starEach (e::es) X.env)) (backToKw pos (keywordEach [] X.env))):=by rfl) :
  QE K X (.Call (.Attribute o m apos) (e::es) [] pos) (eJ G m HZ [] wa wr):=Cc (dvs:=[]) (λ_ _=>.nil) (xN (pl:=pl) ho hG F hr hb .nil iq ha Ki JN ht)
theorem ce {pl:Sem Bool}(hG:∀ C,G C->Cls X.K C/\Meth X.K C m f) (F:FnOk X.prog X.w X.K X.mg X.base CX0 k f fd ps (lSp K HZ)) (hb:ay X.K fd ps []) (hr:Room k X.A) (ho:QE K X o wa)
  (ht:eval (.Call (.Attribute o m apos) [] [] pos) X.env=(do
   let ov <- eval o X.env
   standAt apos.atName
   let (f,first) <- holding [ov] (getMethod ov m pl)
   callWith pos f first (backTo pos (starEach [] X.env)) (backToKw pos (keywordEach [] X.env))):=by rfl) :
  QE K X (.Call (.Attribute o m apos) [] [] pos) (eJ G m HZ [] wa eZ):=zL (dvs:=[]) (λ_ _=>.nil) (ww (pl:=pl) ho hG F hr hb .nil iq ht)
theorem Fq (hK:X.K=K) (hG:∀ C,G C->Cls K C/\bp K C fl) (he:QE K X o wa) (hb:attributeBase o fl X.env (eval o X.env)=eval o X.env:=by rfl):QE K X (.Attribute o fl pos) (mK G wa fl):=Ep hK hG he hb
theorem Fs (w:World){i:Expr}{wi:WE}(hw:X.w=w) (ho:QE K X o wa) (hi:QE K X i wi) (hs:gi i):QE K X (.Subscript o i pos) (w2 (iS w) wa wi):=by subst hw;exact Fl ho hi hs
theorem sK (w:World) (hw:X.w=w):OpR X (compareOp .In) (l2 K (gu w false)):=by subst hw;exact Fm
theorem yj (w:World) (hw:X.w=w):OpR X (compareOp .NotIn) (l2 K (gu w true)):=by subst hw;exact yg
theorem kL (w:World){Jz:List Expr}{x1:Nat}{IV:Pos}(hw:X.w=w) (hK:X.K=K) (ho:QE K X o wa)
  (Ja:attributeBase o "items" X.env (eval o X.env)=eval o X.env:=by rfl) (Jb:(apos.endLine==cpos.line)=true:=by rfl):QI K X (.Tuple Jz x1 IV) (.Call (.Attribute o "items" apos) [] [] cpos) (wiP w wa):=by subst hw;exact yh ho hK Ja Jb
theorem Ft (w:World) (hw:X.w=w) (h:QE K X e wa):QE K X e (tT w wa):=by subst hw;exact Fo h
theorem sL (w:World){st:Stmt}{u:WS}(hw:X.w=w) (h:QS K X st u):QS K X st (tU w u):=by subst hw;exact Fp h
theorem Fu {g:List T->List T->Sto->(T->Sto->Prop)->Prop}{id:String}{kw:Str}{ke:Expr}{wk:WE}{JO:Pos}(hc:fQ X (.builtin id) [kw] (mS K g)) (hg:Gl X x) (hm:X.mg x=none) (hv:bootBuiltins x=some (.builtin id)) (ha:QA K X [e] wr) (hk:QE K X ke wk)
  (hks:(backToKw pos (keywordEach [⟨some kw,ke,JO⟩] X.env)).filterMap (·.1)=[kw]:=by rfl) (hn:x ≠ "__name__":=by decide) (JH:(x==("__debug__":Str))=false:=by decide)
  (he:backTo pos (starEach [e] X.env)=(false,eval e X.env)::backTo pos (starEach [] X.env):=by rfl) (IN:(backTo pos (starEach [e] X.env)).any (·.1)=false:=by rfl)
  (Kk:(backToKw pos (keywordEach [⟨some kw,ke,JO⟩] X.env)).all (·.1.isSome)=true:=by rfl) (LW:(backToKw pos (keywordEach [⟨some kw,ke,JO⟩] X.env)).any (·.1.isNone)=false:=by rfl) :
  QE K X (.Call (.Name x p) [e] [⟨some kw,ke,JO⟩] pos) (sI g wr wk):=PE.of (nM hc hg hm hv ha (pA hk qq) hks hn JH he IN Kk LW) λ_ _ _ h=>yi h
theorem CW (hK:X.K=K) (hc:X.calm=true):fQ X (.builtin "max") [Str.ofString "default"] (mS K sJ):=by
 subst hK
 rintro pins s U H xs zs us ws Q I rv rz ⟨S,ts,ds,Qt,sr,r1,r2,⟨x,ns,d,e1,e2,ev,q0,q1⟩,b⟩
 subst e1 e2
 cases r1 with
 |cons rx rn =>
  cases rn
  cases r2 with
  |cons rd rn =>
   cases rn
   obtain ⟨p,vs,rfl,hS,rs⟩:=bD sr rx ev
   have hv:vs=ns.map V.int:=kJ rs (by
    clear rs hS q0 q1 ev rx
    induction ns with
    |nil=>rfl
    |cons a l ih=>simp only [NF,kI,ih,PP])
   subst hv
   exact wj hc pins s U H _ _ us ws Q I rv rz ⟨p,ns,_,rfl,rfl,hS,λh=>b _ H _ S .refl sr rd (q0 h),λh m m1 m2=>b _ H _ S .refl sr .int (q1 h m m1 m2)⟩
structure FunD (K:Fg) (x qual:Str) (st:Stmt) (f:Addr) (fd:FuncData):Prop where
 ex:∃ (oc:Value) (od:Option Addr) (dV kV doc pm:Value) (an:Option Addr) (cdv ct:Value) (osl:Array (Option Value)),
  fd=PySem.W.fnOf x qual (bZ st) (bE st) (am st) dV kV doc pm an cdv ct/\K.lookup f=some ⟨oc,od,.func fd,osl⟩/\PySem.W.codeIn K cdv qual=true
theorem Ao {P:Program}{w:World}{mg:Str->Option Value}{base:Heap}{x qual:Str}{st:Stmt}{N:List Str}(F:FunD K x qual st f fd) (Sc:FnScope N ps (am st)) (len:∀ ts S Q,HZ ts S Q->ts.length=ps.length)
  (JP:∀ (cdv:Value) (A:Around) (outer:List Env) (s:Shared) (H:Hp) (E:XK),Room k (A.deeper (envOfC qual (am st) s.heap.objs.size f cdv)) ->
   ∃ u,QSs K (dh CX0 P w K mg base N qual (am st) f cdv A outer s H E).nox (bE st) u/\∀ ts S Q,HZ ts S Q->u { nx:=λ_ S'=>Fin Q .non S',rt:=Fin Q } (cB N ts) S):FnOk P w K mg base CX0 (k+1) f fd ps (lSp K HZ):=by
 obtain ⟨oc,od,dV,kV,doc,pm,an,cdv,ct,osl,rfl,lk,Ly⟩:=F.ex
 refine rZ lk Ly Sc (λvs H Q E ⟨S,ts,Qt,s,r,q,_⟩=>by rw [r.length];exact len _ _ _ q) λA outer s H vs Q E hr ⟨S,ts,Qt,sr,r,q,b⟩=>?_
 obtain ⟨u,hu,hq⟩:=JP cdv A outer s H E hr
 exact ⟨_,L2.PSs.nox hu,S,cB N ts,_,sr,nQ r,hq ts S Qt q,⟨λ_ H' _ S' f s' _ q'=>Fin.ends b f s' .non q',λv H' t S' f s' r' q'=>Fin.ends b f s' r' q',λ_ _ _ _ _ _ _ q'=>q'.elim,λ_ _ _ _ _ _ _ q'=>q'.elim⟩⟩
end
section
variable {U:StT}{S:Sto}{D:EndsT}{Q:T->Sto->Prop}{R:Prop}{w:World}{a d C:Addr}{G:Addr->Prop}{fs:List (Str×T)}{m fl:Str}{t:T}{x y:T}{kts:List (Key×T)}{k:Key}{i:Int}
theorem CY (e:S a=some (.ins C fs)) (g:G C) (l:fs.lookup m=none) (h:R):∃ a' C' Jk,T.ref a=.ref a'/\S a'=some (.ins C' Jk)/\G C'/\Jk.lookup m=none/\R:=⟨a,C,fs,rfl,e,g,l,h⟩
theorem Fv {P:T->Prop}(e:S a=some (.ins C fs)) (g:G C) (l:fs.lookup fl=some t) (h:P t):∃ a' C' Jk v,T.ref a=.ref a'/\S a'=some (.ins C' Jk)/\G C'/\Jk.lookup fl=some v/\P v:=⟨a,C,fs,t,rfl,e,g,l,h⟩
theorem rh {P:Addr->Addr->List (Str×T)->Prop}(e:S a=some (.ins C fs)) (g:G C) (l:fs.length<1000) (h:P a C fs):∃ a' C' Jk,T.ref a=.ref a'/\S a'=some (.ins C' Jk)/\G C'/\Jk.length<1000/\P a' C' Jk:=⟨a,C,fs,rfl,e,g,l,h⟩
theorem Ap {P:Addr->Addr->Int->Prop}(e:S a=some (.ins C fs)) (g:G C) (l:fs.lookup fl=some (.int i)) (h:P a C i):∃ a' C' Jk i',T.ref a=.ref a'/\S a'=some (.ins C' Jk)/\G C'/\Jk.lookup fl=some (.int i')/\P a' C' i':=⟨a,C,fs,i,rfl,e,g,l,h⟩
theorem yk {P:Int->List (Str×T)->Prop}{j:Int}(e:S a=some (.ins C fs)) (l:fs.length<1000) (h:P j fs):∃ j' Jk,T.int j=.int j'/\S a=some (.ins C Jk)/\Jk.length<1000/\P j' Jk:=⟨j,fs,rfl,e,l,h⟩
theorem CZ {ns:List Int}(e:az S x=some (ns.map T.int)) (h0:ns=[]->Q y S) (h1:ns≠[]->∀ m,m∈ns->(∀ i∈ns,i<=m)->Q (.int m) S):sJ [x] [y] S Q:=⟨x,ns,y,rfl,rfl,e,h0,h1⟩
theorem Fw (e:S a=some (.dK kts)) (ek:bU y=some k) (l:aY kts k=some t) (h:Q t S):iS w (.ref a) y S Q:=⟨a,kts,k,t,rfl,.inl e,ek,l,h⟩
theorem mD {n:Bool}(e:S a=some (.dK kts)) (ek:bU x=some k) (h:Q (.bl (n ^^ (aY kts k).isSome)) S):gu w n x (.ref a) S Q:=⟨a,kts,k,rfl,.inl e,ek,h⟩
theorem rj {v:T}{Q:Sto->Prop}(e:S a=some (.dK kts)) (ek:bU y=some k) (l:kts.length<sizeLine) (h:Q (put S a (.dK (de kts k v)))):sG (.ref a) y v S Q:=⟨a,kts,k,rfl,e,ek,l,h⟩
theorem C0 (e:S a=some (.dK kts)) (ek:bU y=some k) (l:aY kts k=some t) (h:Q t (put S a (.dK (eN kts k)))):sH (.ref a) [y] S Q:=⟨a,kts,y,k,t,rfl,rfl,e,ek,l,h⟩
theorem Fy {R:Prop}(e:S a=some (.dK kts)) (h:R):tyM "dict" S (.ref a)/\R:=⟨by delta tyM;dsimp only;rw [e],h⟩
theorem tV {P:Addr->List (Key×T)->Prop}(e:S d=some (.dK kts)) (h:P d kts):∃ d' L1,T.ref d=.ref d'/\S d'=some (.dK L1)/\P d' L1:=⟨d,kts,rfl,e,h⟩
theorem mT {P:Addr->List (Key×T)->Prop}{od:Obj}{kvs:List (Key×V)}(e:S d=some (.fK w od kvs kts)) (h:P d kts):∃ d' od' Mu L1,S d'=some (.fK w od' Mu L1)/\P d' L1:=⟨d,od,kvs,kts,e,h⟩
end
end T2
namespace L2
open PySem PySem.Spec PyProof.Rows
end L2
namespace T2
open PySem PySem.Spec PyProof.Rows L2
section
variable {K:Fg}{X:Cx}{H:Hp}{S:Sto}
def GQ (x:T) (lo hi:Option Int) (S:Sto) (Q:T->Sto->Prop):Prop:=∃ ts,x=.tup ts/\¬ (HT.sIx ts.length 0 lo=0/\HT.sIx ts.length ts.length hi=ts.length)/\Q (.tup (c0 ts lo hi)) S
@[reducible] def Hr (wa:WE) (wl wh:WO):WE:=λU S Q=>wa U S λx S1=>wl U S1 λl S2=>wh U S2 λh S3=>GQ x l h S3 Q
end
end T2
namespace T2
open PySem PySem.Spec PyProof.Rows L2 S6
theorem Aq {X:Cx}{K:Fg}(tr:Bool) (hK:X.K=K) (hr:Room 2 X.A){pins:List (Addr×Obj)}{s:Shared}{U:L2.St}{H:Hp}{S:Sto}{pl:Addr}{ls:List T}{vs:List V}{κ:T->Ky}{k0:Ky}{Qt:T->Sto->Prop}{Q:VK}
  (I:Inv X pins U H s) (sr:SRp K H S) (rs:Rps K H S ls vs) (hz:vs.length<=sizeLine) (hf:fit k0=true) (hd:k0.dep<=30)
  (hk:∀ t∈ls,Ky.ok (κ t)=true/\Ky.shp k0 (κ t)=true/\tre (κ t)=t) (hq:iQ tr ls κ S Qt) (b:Bh K H S Qt Q) (Nb:Col X s pl vs) :
  wpAny (model X.prog X.w) X.A (call (.builtin "sorted") [.ref pl]) (EP X pins U Q) X.xe s:=by
 refine nZ I sr Nb hz uJ ua uA λL ep Hc s5 its K8 hz J eL ek nL nk fc sc=>?_
 have rs5:=rs.fr fc
 refine pX hK hf (by have:=hr.in1.in1.units;lia) J (λt ht=>⟨(hk t ht).1,(hk t ht).2.1⟩) rs5 K8 (by rw [N8 λt ht=>(hk t ht).2.2,List.map_id'];exact rs5) K8 λst zs JT Kj KC p1 p2 out rz vz lz=>?_
 exact oQ J eL KC out vz (lz ▸ hz) λs' I8=>⟨.ref L,_,I8,rfl,oR b nL fc sc eL (sr.fresh nL) rz (hq _ p1 p2)⟩
def lx (tr:Bool):GC:=λts S Q=>∃ x xs κ k0,ts=[x]/\az S x=some xs/\fit k0=true/\k0.dep<=30 /\
 (∀ t∈xs,Ky.ok (κ t)=true/\Ky.shp k0 (κ t)=true/\tre (κ t)=t)/\iQ tr xs κ S Q
theorem p7 {X:Cx}{K:Fg}(tr:Bool) (hK:X.K=K) (hr:Room 2 X.A):a0 X (.builtin "sorted") (lC K (lx tr)):=by
 rintro pins s U H xs us Q I rv ⟨S,ts,Qt,sr,r1,⟨x,ls,κ,k0,e1,ev,hf,hd,hk,hq⟩,b⟩
 subst e1
 cases r1 with
 |cons rx LZ =>
 cases LZ
 obtain ⟨u,rfl,ru⟩:=bh rv
 obtain ⟨pl,vs,rfl,hS,rs⟩:=bD sr rx ev
 cases ru
 subst hK
 exact Aq tr rfl hr I sr rs (I.list hS).choose_spec.2.2 hf hd hk hq b (pW I hS)
theorem p9 {α:Type}{S:Sto}{Q:T->Sto->Prop}{tr:Bool}{ls:List α}{x:T}(κ:α->Ky) (Mv:T->Ky) (k0:Ky) (e:az S x=some (ls.map λa=>tre (κ a))) (hT:∀ a∈ls,Mv (tre (κ a))=κ a) (hf:fit k0=true) (hd:k0.dep<=30)
  (hk:∀ a∈ls,Ky.ok (κ a)=true/\Ky.shp k0 (κ a)=true)
  (h:∀ l':List α,l'.Perm ls->l'.Pairwise (λa b=>Ky.lt (κ b) (κ a)=false)->newL tr (l'.map λa=>tre (κ a)) S Q):lx tr [x] S Q:=by
 refine ⟨x,ls.map λa=>tre (κ a),Mv,k0,rfl,e,hf,hd,λt ht=>?_,λzs hp hs=>?_⟩
 ·obtain ⟨a,ha,rfl⟩:=NI.mp ht
  have:=hk a ha
  rw [hT a ha]
  exact ⟨this.1,this.2,rfl⟩
 ·obtain ⟨l',p,rfl⟩:=j9 (λa=>tre (κ a)) hp rfl
  rw [PQ] at hs
  refine h l' p (hs.imp_of_mem fun {a b} ha hb q=>?_)
  rw [hT a (p.mem_iff.mp ha),hT b (p.mem_iff.mp hb)] at q
  exact q
section
variable {K:Fg}{X:Cx}{H:Hp}{S:Sto}
@[reducible] def G' (k1 k2:Str) (w1 w2:WE):WE:=λU S Q=>∀ p,S p=none->w1 U (put S p (.dK [])) λt1 S1=>w2 U S1 λt2 S2=>S2 p=some (.dK [])/\Q (.ref p) (put S2 p (.dK [(.inr k1,t1),(.inr k2,t2)]))
@[reducible] def Ha (k1 k2 k3:Str) (w1 w2 w3:WE):WE:=λU S Q=>∀ p,S p=none->w1 U (put S p (.dK [])) λt1 S1=>w2 U S1 λt2 S2=>w3 U S2 λt3 S3=>S3 p=some (.dK [])/\Q (.ref p) (put S3 p (.dK [(.inr k1,t1),(.inr k2,t2),(.inr k3,t3)]))
end
end T2
namespace L2
open PySem PySem.Spec PyProof.Rows
theorem yl {X:Cx}{pins:List (Addr×Obj)}{U:St}{H:Hp}{s:Shared}{a:Addr}{kvs:List (Key×V)}{k:Key}{v:V}{u r:Value}{A:Around}{E:Value->Shared->Prop}{Q:Value->Shared->Prop}(I:Inv X pins U H s) (e:H a=some (.dK kvs)) (ry:ak (kV k) u) (rv:ak v r) (l:kvs.length<sizeLine)
  (h1:∀ v',aN kvs k=some v'->∀ w' s',Inv X pins U H s'->ak v' w'->Q w' s') (h2:aN kvs k=none->∀ s',Inv X pins U (upd H a (.dK (bw kvs k v))) s'->Q r s') :
  wpAny (model X.prog X.w) A (call (.builtin "dict.setdefault") [.ref a,u,r]) Q E s:=by
 obtain ⟨z,hd,vs,rel,dd⟩:=eI I.hok e
 have hz:vs.length<=sizeLine:=by rw [<- rel.length];exact z
 have hl:(bw kvs k v).length<=sizeLine:=by have:=jw kvs k v;lia
 refine call_meetsIn RW dd.typeIs PySem.F.entry_dict_setdefault (PySem.F.args_dict_setdefault_3 _ _ _) (kt_meets_setdefault (aO X.prog X.w) a (dO ry) hd r) ⟨vs,dd,hz,λw' hw=>?_,λhn h' Mb hs=>?_⟩
 ·cases q:aN kvs k with
  |none =>
   have:=rel.val k
   rw [q] at this
   rw [hw] at this
   exact absurd this (by intro z;cases z)
  |some v' =>
   obtain ⟨w2,hw2,rw2⟩:=bi.some_of (v:=v') (o:=valueAt vs k) (by rw [<- q];exact rel.val k)
   rw [hw2] at hw
   obtain rfl:w2=w':=Option.some.inj hw
   exact h1 v' q _ _ (I.tok _) rw2
 ·have q:aN kvs k=none:=by
   cases q:aN kvs k with
   |none=>rfl
   |some v' =>
    obtain ⟨w2,hw2,_⟩:=bi.some_of (v:=v') (o:=valueAt vs k) (by rw [<- q];exact rel.val k)
    rw [hw2] at hn;cases hn
  refine h2 q _ ?_
  have he:∃ q,h'.get? a=some q:=let ⟨q,_,_,hq,_⟩:=Mb;⟨q,hq⟩
  exact gY I (by rw [e];exact True.intro) hs he (kZ hl hd (rel.put k rv) Mb)
end L2
namespace T2
open PySem PySem.Spec PyProof.Rows L2
section
variable {K:Fg}{X:Cx}
def kM:GM:=λx ts S Q=>∃ a kts y z k,x=.ref a/\ts=[y,z]/\S a=some (.dK kts)/\bU y=some k/\kts.length<sizeLine/\(∀ t,aY kts k=some t->Q t S)/\(aY kts k=none->Q z (put S a (.dK (de kts k z))))
theorem yn:MtR X "dict.setdefault" (lM K kM):=by
 rintro pins s U H x xs v us Q I rx rv ⟨S,t,ts,Qt,sr,hx,rs,⟨a,kts,y,z,k,e,e2,ea,ek,hl,q1,q2⟩,b⟩
 subst e e2
 cases hx
 cases rs with
 |cons ry rn =>
  cases rn with
  |cons rz rn2 =>
   cases rn2
   obtain ⟨kvs,hk,p⟩:=iE sr ea
   have:=eO ry ek
   subst this
   obtain ⟨u1,u2,rfl,rr1,rr2⟩:=lY rv
   cases (show v=Value.ref a from rx)
   refine yl I hk rr1 rr2 (by rw [Paired.len p];exact hl) (λv' l w' s' I' K3=>?_) λl s' I'=>?_
   ·cases e:aY kts k with
    |none =>
     have:=kf (k:=k) p
     rw [e,l] at this
     cases this
    |some t =>
     obtain ⟨u,h1,h2⟩:=gP p e
     rw [l] at h1
     cases h1
     exact ⟨_,H,I',K3,b _ H _ S .refl sr h2 (q1 t e)⟩
   ·have e:aY kts k=none:=by
     cases e:aY kts k with
     |none=>rfl
     |some t =>
      obtain ⟨u,h1,_⟩:=gP p e
      rw [l] at h1;cases h1
    exact ⟨_,_,I',rr2,oV sr ea (qZ rz p) b rz (q2 e)⟩
theorem wM {S:Sto}{Q:T->Sto->Prop}{a:Addr}{kts:List (Key×T)}{y z t:T}{k:Key}(ea:S a=some (.dK kts)) (ek:bU y=some k) (hl:kts.length<sizeLine) (e:aY kts k=some t) (h:Q t S):kM (.ref a) [y,z] S Q :=
 ⟨a,kts,y,z,k,rfl,rfl,ea,ek,hl,λt' e'=>by rw [e] at e';cases e';exact h,λe'=>by rw [e] at e';cases e'⟩
theorem wN {S:Sto}{Q:T->Sto->Prop}{a:Addr}{kts:List (Key×T)}{y z:T}{k:Key}(ea:S a=some (.dK kts)) (ek:bU y=some k) (hl:kts.length<sizeLine) (e:aY kts k=none) (h:Q z (put S a (.dK (de kts k z)))):kM (.ref a) [y,z] S Q :=
 ⟨a,kts,y,z,k,rfl,rfl,ea,ek,hl,(λt' e'=>by rw [e] at e';cases e'),λ_=>h⟩
def qa:GM:=λx ts S Q=>∃ a us zs,x=.ref a/\ts=[.lst zs]/\S a=some (.lst us)/\us.length+zs.length<=sizeLine/\Q .non (put S a (.lst (us++zs)))
theorem yo:MtR X "list.extend" (lM K qa):=by
 rintro pins s U H x vs v us Q I rx rv ⟨S,t,ts,Qt,sr,hx,rs,⟨a,ws,zs,e,e2,ea,hl,q⟩,b⟩
 subst e e2
 cases hx
 cases rs with
 |cons rz rn =>
  cases rn
  cases rz with
  |lst n h r =>
   obtain ⟨ys,hy,ry⟩:=lc sr ea
   exact v4 pins s U H _ _ v us Q I rx rv ⟨_,_,ys,_,rfl,rfl,hy,h,by rw [ry.length,r.length];exact hl,nW sr ea (ry.append r) b .non q⟩
theorem yp {S:Sto}{Q:T->Sto->Prop}{a:Addr}{us zs:List T}(ea:S a=some (.lst us)) (hl:us.length+zs.length<=sizeLine) (h:Q .non (put S a (.lst (us++zs)))):qa (.ref a) [.lst zs] S Q:=⟨a,us,zs,rfl,rfl,ea,hl,h⟩
end
section
variable {K:Fg}{X:Cx}{e:Expr}{wa:WE}
@[reducible] def GR (wa:WE):WT:=λU S B=>wa U S λx S1=>∃ ts,az S1 x=some ts/\B (!ts.isEmpty) S1
theorem wO {H:Hp}{S:Sto}{ts:List T}{vs:List V}(r:Rps K H S ts vs):vs.isEmpty=ts.isEmpty:=by cases r<;>rfl
theorem yq (hK:X.K=K) (h:QE K X e wa) (he:∀ whole,isTrue e X.env whole=(do let v <- whole;standAt e.pos;holding [v] (truthy v)):=by intro _;rfl):QT K X e (GR wa):=PT.of (xt h he) λU H Q zz99=>by
 obtain ⟨S,HE,Qt,s,c,q,hq⟩:=zz99
 subst hK
 refine ⟨S,HE,_,s,c,q,λv H1 t S1 f1 s1 r1 zz100=>?_⟩
 obtain ⟨ts,ev,q1⟩:=zz100
 obtain ⟨p,vs,rfl,hS,rs⟩:=bD s1 r1 ev
 exact ⟨!vs.isEmpty,.inl ⟨vs,hS,rfl⟩,hq _ H1 S1 f1 s1 (by rw [wO rs];exact q1)⟩
end
end T2
namespace Xc
open PySem
structure Ent (fr:List Addr) (e:Addr) (oe:Obj) (h h':Heap):Prop where
 it:∃ T o ts,h.objs.size<=T/\h'.get? e=some (oe.mapFields (·.setIfInBounds 1 (.ref T)))/\h'.get? T=some o/\o.data=.fields ts/\ts[3]?=some .none
 keep:∀ b o,h.get? b=some o->b≠e->b∉fr->h'.get? b=some o
 slot:∀ b o,h.get? b=some o->b≠e->∃ sl,h'.get? b=some { o with slots:=sl }
section
variable {M:Model}{A:Around}{E:Value->Shared->Prop}{s:Shared}
def Exc (h:Heap) (lo:Nat) (N:Addr->Prop) (e:Addr) (cls:Value) (dct:Option Addr):Prop :=
 ∃ oe vs hd,h.get? e=some oe/\oe.cls=cls/\oe.dict=dct/\oe.data=.fields vs/\(vs[1]?=some hd/\vs[2]?=some .none)/\lo<=e/\N e /\
  (hd=.none\/∃ T oT ts,hd=.ref T/\lo<=T/\N T/\T≠e/\h.get? T=some oT/\oT.data=.fields ts/\ts[3]?=some .none)
structure Past (fr ch:List Addr) (h h':Heap):Prop where
 keep:∀ b o,h.get? b=some o->b∉ch->b∉fr->h'.get? b=some o
 slot:∀ b o,h.get? b=some o->b∈fr->∃ sl,h'.get? b=some { o with slots:=sl }
 there:∀ b o,h.get? b=some o->∃ o',h'.get? b=some o'
end
end Xc
namespace L2
open PySem PySem.Spec PyProof.Rows
def CX1 (P:Program) (w:World):CXT:=λouter H s E e s'=>∃ a C dct H',e=.ref a/\s'.os=s.os/\AllBare s'.gens/\Un (frs outer) [] H H' s.heap s'.heap/\HOk P w H' s'.heap /\
 Xc.Exc s'.heap s.heap.objs.size (λb=>H' b=none) a (.ref C) dct/\E (.ref C) dct H'
abbrev XS:=Addr->Option Addr->St->Hp->Prop
structure Low (X:Cx) (pins:List (Addr×Obj)) (lo:Nat):Prop where
 s0:X.s₀.heap.objs.size<=lo
 loc:X.env.locals<lo
 cell:∀ x c,X.env.cells.lookup x=some c->c<lo
 pin:∀ p∈X.pn++pins,p.1<lo
def XP (X:Cx) (pins:List (Addr×Obj)) (R:XS) (e:Value) (s':Shared):Prop:=∃ a C dct HD H' lo,e=.ref a/\Inv X pins HD H' s'/\Low X pins lo/\Xc.Exc s'.heap lo (λb=>H' b=none) a (.ref C) dct/\R C dct HD H'
abbrev TR:=St->Hp->XS->Prop
def PR (X:Cx) (st:Stmt) (t:TR):Prop:=∀ (pins:List (Addr×Obj)) (s:Shared) (U:St) (H:Hp) (R:XS),Inv X pins U H s->t U H R->wpAny (model X.prog X.w) X.A (exec st X.env) (λ_ _=>False) (XP X pins R) s
def PRs (X:Cx) (st:List Stmt) (t:TR):Prop:=∀ (pins:List (Addr×Obj)) (s:Shared) (U:St) (H:Hp) (R:XS),Inv X pins U H s->t U H R->wpAny (model X.prog X.w) X.A (execs st X.env) (λ_ _=>False) (XP X pins R) s
def PRE (X:Cx) (e:Expr) (t:TR):Prop:=∀ (pins:List (Addr×Obj)) (s:Shared) (U:St) (H:Hp) (R:XS),Inv X pins U H s->t U H R->wpAny (model X.prog X.w) X.A (eval e X.env) (λ_ _=>False) (XP X pins R) s
def PRA (X:Cx) (es:List Expr) (t:TR):Prop:=∀ (pos:Pos) (pins:List (Addr×Obj)) (s:Shared) (U:St) (H:Hp) (R:XS),Inv X pins U H s->t U H R->wpAny (model X.prog X.w) X.A (spliced (backTo pos (starEach es X.env))) (λ_ _=>False) (XP X pins R) s
section
variable {X:Cx}{pins:List (Addr×Obj)}{U:St}{H:Hp}{s:Shared}
variable {st:Stmt}{rest:List Stmt}{t u:TS}{r r2:TR}{e:Expr}{es:List Expr}{te:TE}{ta:TA}{pos:Pos}
end
section
variable {X:Cx}{k:Nat}{f C:Addr}{fd:FuncData}{ps:List Str}{sp:Sp}{dvs:List V}{ds:List Value}{x m:Str}{p pos apos:Pos}{e o:Expr}{es:List Expr}{ta:TE}{t:TA}{r:TR}{G:Addr->Prop}
end
section
variable {X:Cx}{pins:List (Addr×Obj)}{U:St}{H:Hp}{s:Shared}
end
section
variable {P:Program}{w:World}{K:PySem.W.Frag}{mg:Str->Option Value}{base:Heap}
end
end L2
namespace Xc
open PySem
section
variable {M:Model}{A:Around}{E:Value->Shared->Prop}{s:Shared}
end
end Xc
namespace L2
open PySem PySem.Spec PyProof.Rows
section
variable {X:Cx}{pins:List (Addr×Obj)}{U:St}{H:Hp}{s:Shared}{a:Addr}
abbrev TH:=Addr->TS
def PH (X:Cx) (hs:List ExceptHandler) (t:TH):Prop:=∀ (pins:List (Addr×Obj)) (s:Shared) (U:St) (H:Hp) (a C:Addr) (dct:Option Addr) (lo:Nat) (D:Ends),Inv X pins U H s->Low X pins lo->Xc.Exc s.heap lo (λb=>H b=none) a (.ref C) dct->t C D U H ->
 wpAny (model X.prog X.w) X.A (handleBy (.ref a) X.env hs) (SP X pins D) X.xe s
end
end L2
namespace PySem
section
variable {prog:Program}{w:World}{A:Around}{E:Value->Shared->Prop}{h:Heap}{g:Array GenState}{d:Drawn}{t:Nat}{os:OsState}
variable {nm q:Str}{C N:Addr}{bs bm bmB:List Value}{hdct:Bool}{sn:List Str}{sub:List Value}{ab:Bool}{col:Option Bool}{dd:Option Addr}{k0 k1 k2 k3 k5:Option Value}{B newId initId:String}
end
end PySem
namespace L2
open PySem PySem.Spec PyProof.Rows
section
variable {X:Cx}{C:Addr}{x:Str}{p pos pos2:Pos}{e:Expr}{es:List Expr}{t:TA}
end
end L2
namespace T2
open PySem PySem.Spec PyProof.Rows L2
abbrev WX:=Addr->StT->Sto->Prop
abbrev WR:=StT->Sto->WX->Prop
def lR (K:Fg) (w:WR):TR:=λU H R=>∃ S HE Rt,SRp K H S/\Cov K H S U HE/\w HE S Rt/\∀ C HD H' HY S',Fr H S H' S'->SRp K H' S'->Cov K H' S' HD HY->Rt C HY S'->R C none HD H'
def QRs (K:Fg) (X:Cx) (st:List Stmt) (w:WR):Prop:=PRs X st (lR K w)
abbrev dX:=List T->Sto->(Addr->Sto->Prop)->Prop
def Hs (K:Fg) (w:dX):Sp:=λvs H _ E=>∃ S ts Rt,SRp K H S/\Rps K H S ts vs/\w ts S Rt/\∀ C H' S',Fr H S H' S'->SRp K H' S'->Rt C S'->E (.ref C) none H'
section
variable {K:Fg}{X:Cx}{st:Stmt}{rest:List Stmt}{w u:WS}{r r2:WR}{e:Expr}{es:List Expr}{we:WE}{pos:Pos}{t:WT}
@[reducible] def Hb (w:WS) (r:WR):WR:=λU S R=>w { nx:=λHD S'=>r HD S' R,rt:=λ_ _=>False } U S
@[reducible] def Hu (t:WT) (r r2:WR):WR:=λU S R=>t U S λb S1=>if b=true then r U S1 R else r2 U S1 R
@[reducible] def Hl (we:WE) (r:WR):WR:=λU S R=>we U S λ_ S1=>r U S1 R
end
section
variable {K:Fg}{X:Cx}{k:Nat}{f C:Addr}{fd:FuncData}{ps:List Str}{HZ:dX}{x m:Str}{p pos pos2 apos:Pos}{e o:Expr}{es:List Expr}{wa:WE}{wr:WA}{r:WR}{G:Addr->Prop}
@[reducible] def Hd (HZ:dX) (wr:WA):WR:=λU S R=>wr U S λts S1=>HZ (ts++[]) S1 λC S'=>R C U S'
@[reducible] def He (G:Addr->Prop) (m:Str) (HZ:dX) (wa:WE) (wr:WA):WR:=λU S R=>wa U S λx S1=>∃ a C fs,x=.ref a/\S1 a=some (.ins C fs)/\G C/\fs.lookup m=none/\wr U S1 λts S2=>HZ (x::(ts++[])) S2 λC S'=>R C U S'
@[reducible] def G6 (C:Addr) (wr:WA):WR:=λU S R=>wr U S λts S1=>ts.length<=2/\R C U S1
end
def Hv (R:Addr->Sto->Prop):WX:=λC _ S=>∃ S0,Le S0 S/\R C S0
section
variable {K:Fg}{X:Cx}{pos p:Pos}{x:Str}{B:Addr}
abbrev WH:=Addr->WS
end
section
variable {K:Fg}{U:StT}{S:Sto}{R:WX}{D:EndsT}{w:WS}{r r2:WR}{t:WT}{we wa:WE}{wr:WA}{HZ:dX}{C B:Addr}{G:Addr->Prop}{m:Str}{wh:WH}
end
end T2
namespace L2
open PySem PySem.Spec PyProof.Rows
section
variable {X:Cx}
variable {pos p2 p3:Pos}{value:Expr}{tv:TE}{s2:Str}{k3:Nat}
end
end L2
namespace T2
open PySem PySem.Spec PyProof.Rows L2
section
variable {K:Fg}{X:Cx}{pos p2 p3:Pos}{value o:Expr}{wv wa:WE}{s2:Str}{k3:Nat}{G:Addr->Prop}
@[reducible] def wFr (wv:WE):WE:=λU S Q=>wv U S λx S1=>∃ z:Str,x=.str z/\z.length<=1000/\PyData.strOk z=true/\∀ y,Q (.str y) S1
@[reducible] def G0 (G:Addr->Prop) (wa wv:WE) (f:Str):WS:=λD U S=>wa U S λx S1=>∃ a C fs i,x=.ref a/\S1 a=some (.ins C fs)/\G C/\fs.lookup f=some (.str i) /\
 wv U S1 λy S2=>∃ j Jk,y=.str j/\i.length+j.length<=sizeLine/\S2 a=some (.ins C Jk)/\Jk.length<1000/\D.nx U (put S2 a (.ins C (dj f (.str (i++j)) Jk)))
end
end T2
namespace L2
open PySem PySem.Spec PyProof.Rows
end L2
namespace T2
open PySem PySem.Spec PyProof.Rows L2
section
variable {K:Fg}{X:Cx}
end
section
variable {K:Fg}{X:Cx}{sts:List Stmt}{r1 r2:WR}
end
end T2
namespace L2
open PySem PySem.Spec PyProof.Rows
section
variable {X:Cx}
end
end L2
namespace T2
open PySem PySem.Spec PyProof.Rows L2
section
variable {K:Fg}{X:Cx}
end
end T2
namespace L2
open PySem PySem.Spec PyProof.Rows
section
variable {X:Cx}{pos p2 p3 p4:Pos}{value Jd:Expr}{tv tv2:TE}{s2:Str}{k3:Nat}
variable {JQ iter HJ:Expr}{Jy:List Expr}{scope:Scope}{r:TR}
end
end L2
namespace T2
open PySem PySem.Spec PyProof.Rows L2
section
variable {K:Fg}{X:Cx}{pos p2 p3 p4:Pos}{value Jd:Expr}{wv Mw:WE}{s2:Str}{k3:Nat}{r:WR}
@[reducible] def Hw (wv Mw:WE):WE:=λU S Q=>wv U S λx S1=>∃ z:Str,x=.str z/\z.length<=1000/\PyData.strOk z=true/\Mw U S1 λx2 S2=>∃ z2:Str,x2=.str z2/\z2.length<=1000/\PyData.strOk z2=true/\∀ y,Q (.str y) S2
variable {JQ iter HJ:Expr}{Jy:List Expr}{scope:Scope}
end
end T2
namespace T2
open PySem L2
end T2
namespace L2
open PySem PySem.Spec PyProof.Rows
section
variable {X:Cx}
end
end L2
namespace T2
open PySem PySem.Spec PyProof.Rows L2
section
variable {K:Fg}{X:Cx}
def sM:GC:=λts S Q=>∃ i j,ts=[.int i,.int j]/\Q (.int (if j>i then j else i)) S
theorem C1 (hc:X.calm=true):a0 X (.builtin "max") (lC K sM):=by
 rintro pins s U H xs us Q I r ⟨S,ts,Qt,sr,rs,⟨i,j,rfl,q⟩,b⟩
 cases rs with
 |cons a l =>
  cases l with
  |cons a2 l2 =>
   cases l2
   obtain rfl:=a.iint
   obtain rfl:=a2.iint
   exact vW hc pins s U H _ us Q I r ⟨_,_,rfl,b _ H _ S .refl sr .int q⟩
theorem C2 {S:Sto}{Q:T->Sto->Prop}{i j:Int}(h:Q (.int (if j>i then j else i)) S):sM [.int i,.int j] S Q:=⟨i,j,rfl,h⟩
end
end T2
namespace L2
open PySem PySem.Spec PyProof.Rows
end L2
namespace T2
open PySem PySem.Spec PyProof.Rows L2
section
variable {K:Fg}{X:Cx}
@[reducible] def Hx (w:World) (wa:WE):WI:=λU S R=>wa U S λx S1=>∃ d od kvs kts,x=.ref d/\S1 d=some (.fK w od kvs kts)/\R ⟨kts.map λkv=>iR kv.1,λS'=>S' d=some (.fK w od kvs kts)⟩ S1
end
end T2
namespace L2
open PySem PySem.Spec PyProof.Rows
def ItE (K:PySem.W.Frag) (l:Addr):It :=
 ⟨λi H=>∃ xs x,SqL K H l xs/\xs[i]?=some x,λi H x H'=>∃ p y,H p=none/\x=.ref p/\H'=upd H p (.tup [.int i,y])/\∀ xs,SqL K H l xs->xs[i]?=some y,λi H=>∃ xs,SqL K H l xs/\xs.length<=i⟩
theorem Inv.turned2 {X:Cx}{pins:List (Addr×Obj)}{U:St}{H:Hp}{s:Shared}{h':Heap}{t':Nat}{e it:Addr}{oi oi':Obj}(I:Inv X pins U H s) (Jc:e≠it) (hi:s.heap.get? it=some oi) (hi':h'.get? it=some oi') (k:∀ b o,b≠e->b≠it->s.heap.get? b=some o->h'.get? b=some o)
  (f:bv X pins H e) (g:bv X pins H it):Inv X pins U H { s with heap:=h',toks:=t' }:=by
 obtain ⟨f0,f1,f2,f3,f4,f5⟩:=f
 obtain ⟨g0,g1,g2,g3,g4,g5⟩:=g
 have hfr:oi.isFreed=false:=(Heap.get?_some_iff.mp hi).2
 have I1:Inv X pins U H { s with heap:=h'.update it (λ_=>oi),toks:=t' }:=I.turned (λb o hb z=>by
  by_cases hbi:b=it
  ·subst hbi
   rw [hi] at z;cases z
   exact Qi _ hi' hfr
  ·rw [Ol _ _ (Op hbi)]
   exact k b o hb hbi z) f0 f1 f3 f4 f5
 exact I1.turned (s:={ s with heap:=h'.update it (λ_=>oi),toks:=t' }) (t':=t') (λb o hb z=>by
  rw [show ({ s with heap:=h'.update it (λ_=>oi),toks:=t' }:Shared).heap.get? b=h'.get? b from Ol _ _ (Op hb)] at z
  exact z) g0 g1 g3 g4 g5
theorem wP {P:Program}{w:World}{K:PySem.W.Frag}{Jz:List Expr}{x1:Nat}{IV:Pos}(l e it:Addr) (Jc:e≠it) :
  Turn P w K (.Tuple Jz x1 IV) (ItE K l) [e,it] e (λi h=>∃ old,IsEnum h e it ((i:Nat):Int) old/\h.IsListIter it l i) where
 mem:=by simp
 obj:=λi h st b hb=>by
  obtain ⟨old,h1,o,h2,_,h3⟩:=st
  rcases NR.mp hb with rfl|hb
  ·exact ⟨_,h1,λv z=>by cases z⟩
  ·obtain rfl:b=it:=by simpa using hb
   exact ⟨o,h2,λv z=>by rw [h3] at z;cases z⟩
 keep:=λi h h' zz104 k=>by obtain ⟨old,h1,o,h2,r⟩:=zz104;exact ⟨old,k e (by simp) _ h1,o,k it (by simp) _ h2,r⟩
 item:=by
  rintro X hP hw hK hc i pins s U H E I hf ⟨old,st,sl⟩ hg
  subst hP hw hK
  obtain ⟨xs,x,hq,hx⟩:=hg
  obtain ⟨its,rv,p,hz⟩:=I.list hq
  obtain ⟨u,hu,ru⟩:=rv.get hx
  have fe:=hf e (by simp)
  have fi:=hf it (by simp)
  obtain ⟨oi,hoi,_⟩:=id sl
  refine wpAny_pyNext_enum_item st sl p.isList (x:=u) (by simpa using hu) Jc λh1 st1 sl1 ht hsz kp=>?_
  refine ⟨_,rfl,wpAny_letOwnedTupleGo_enum st1 λh2 st2 MK=>?_⟩
  have hes:e<s.heap.objs.size:=NY st
  have his:it<s.heap.objs.size:=NY hoi
  replace MK:Heap.SameBut e h1 h2:=MK
  have ht2:h2.get? s.heap.objs.size=some { cls:=.type "tuple",data:=.seq #[.int i s.toks,u] }:=(MK.2 _ (QP hes)).trans ht
  have sl2:h2.IsListIter it l (i+1):=by
   obtain ⟨o,ho,r⟩:=sl1
   exact ⟨o,(MK.2 it (Op Jc)).trans ho,r⟩
  obtain ⟨oi2,hoi2,_⟩:=id sl2
  have Im:Inv X pins U (upd H s.heap.objs.size (.tup [.int i,x])) { s with heap:=s.heap.push { cls:=.type "tuple",data:=.seq #[.int i s.toks,u] },toks:=s.toks } :=
   I.laid (t':=s.toks) (λb u e=>NG _ e) (NE _) ⟨by show 2<=sizeLine;decide,[.int i s.toks,u],.cons ⟨_,rfl⟩ (.cons ru .nil),⟨_,NT _ rfl,rfl,_,rfl⟩⟩
  have fk:∀ b,b<s.heap.objs.size->bv X pins H b->bv X pins (upd H s.heap.objs.size (.tup [.int i,x])) b:=λb hb f=>⟨by rw [au (N6 hb)];exact f.1,f.2⟩
  have I2:Inv X pins U (upd H s.heap.objs.size (.tup [.int i,x])) { s with heap:=h2,toks:=s.toks+1 }:=by
   refine Inv.turned2 (s:={ s with heap:=s.heap.push { cls:=.type "tuple",data:=.seq #[.int i s.toks,u] },toks:=s.toks }) Im (t':=s.toks+1) (e:=e) (it:=it) (oi:=oi) (oi':=oi2) Jc (NG _ hoi) hoi2 (λb o Kw hbi z=>?_) (fk e hes fe) (fk it his fi)
   by_cases hbs:b=s.heap.objs.size
   ·subst hbs
    rw [show ({ s with heap:=s.heap.push { cls:=.type "tuple",data:=.seq #[.int i s.toks,u] },toks:=s.toks }:Shared).heap.get? s.heap.objs.size=some { cls:=.type "tuple",data:=.seq #[.int i s.toks,u] } from NT _ rfl] at z
    cases z;exact ht2
   ·exact (MK.2 b Kw).trans (kp b o Kw hbi (by rw [<- Heap.get?_push_ne _ _ _ hbs];exact z))
  refine ⟨.ref s.heap.objs.size,_,I2,rfl,⟨s.heap.objs.size,x,I.hok.fresh (NE _),rfl,rfl,λys hy=>by rw [I.list_inj hy hq];exact hx⟩,⟨_,st2,sl2⟩,λb hb=>?_⟩
  rcases NR.mp hb with rfl|hb
  ·exact (fk _ hes fe).1
  ·obtain rfl:b=it:=by simpa using hb
   exact (fk _ his fi).1
 done:=by
  rintro X hP hw hK hc i pins s U H E I hf ⟨old,st,sl⟩ hg
  subst hP hw hK
  obtain ⟨xs,hq,hx⟩:=hg
  obtain ⟨its,rv,p,hz⟩:=I.list hq
  obtain ⟨f0,f1,f2,f3,f4,f5⟩:=hf it (by simp)
  have hl:=rv.length
  exact wpAny_pyNext_enum_end (I.ok.hd hc) st sl p.isList (by simp;lia) λh' eb=>⟨rfl,I.turned (t':=s.toks) (λb o hb z=>eb b o hb z) f0 f1 f3 f4 f5⟩
 self:=λA i s Q E zz105 h=>by obtain ⟨old,st,sl⟩:=zz105;exact wpAny_pyIter_enum st h
theorem ug:bootBuiltins (Str.ofString "enumerate")=some (.type "enumerate"):=by kernel_rfl
def Fz (K:PySem.W.Frag) (ta:TA):TI:=λU H R=>ta U H λvs H1=>∃ l,vs=[.ref l]/\(∃ xs,SqL K H1 l xs)/\R (ItE K l) H1
theorem Ar {X:Cx}{Jz:List Expr}{x1:Nat}{IV:Pos}{a:Expr}{ta:TA}{p pos:Pos}(hg:Gl X "enumerate") (hm:X.mg "enumerate"=none) (ha:PA X [a] ta) (hs:starEach [a] X.env=[(false,eval a X.env)]:=by rfl) :
  PI X (.Tuple Jz x1 IV) (.Call (.Name "enumerate" p) [a] [] pos) (Fz X.K ta):=by
 intro pins s U H R I h
 refine Call_ (ee I hg hm ug (Qm (thn (ha pos pins s U H _ I h) λus s1 zy19=>?_) hs rfl))
 obtain ⟨vs,H1,I1,r1,q1⟩:=zy19
 obtain ⟨l,e,⟨xs,hq⟩,q⟩:=q1
 subst e
 cases r1 with
 |cons r rr =>
  cases rr
  cases r
  obtain ⟨its,rv,pl,hz⟩:=I1.list hq
  refine call_enumerate_list pl.isList λh' he hi hsz kp=>?_
  refine wpAny_pyIter_enum (s:={ s1 with heap:=h' }) he ?_
  have I2:Inv X pins U H1 { s1 with heap:=h' }:=I1.kept (t':=s1.toks) kp
  refine ⟨s1.heap.objs.size+1,[s1.heap.objs.size+1,s1.heap.objs.size],_,_,H1,rfl,I2,wP l _ _ (Nat.succ_ne_self _),⟨_,he,hi⟩,λb hb=>?_,q⟩
  rcases NR.mp hb with rfl|hb
  ·exact I1.fpOk (Pj _) (I1.hok.fresh (Pj _))
  ·obtain rfl:b=s1.heap.objs.size:=by simpa using hb
   exact I1.fpOk (NE _) (I1.hok.fresh (NE _))
end L2
namespace T2
open PySem L2
variable {K:Fg}{X:Cx}
def cq (ts:List T):List T:=ts.zipIdx.map λp=>.tup [.int (p.2:Int),p.1]
theorem wQ (ts:List T):(cq ts).length=ts.length:=by simp [cq]
theorem yr (ts:List T) (i:Nat):(cq ts)[i]?=ts[i]?.map λt=>.tup [.int i,t]:=by
 simp only [cq,O5,List.getElem?_zipIdx,Option.map_map,OT]
 rfl
theorem wR {H1:Hp}{S1:Sto}{x:T}{a:Addr}{ts:List T}(r:Rp K H1 S1 x (.ref a)) (e:az S1 x=some ts):Iter K (ItE K a) ⟨cq ts,b6 x ts⟩ H1 S1:=by
 have I0:=nV r e
 have main:∀ H S,Fr H1 S1 H S->SRp K H S->b6 x ts S->∃ vs,SqL K H a vs/\Rps K H S ts vs:=λH S f s g=>by
  obtain ⟨p,vs,ep,hq,rs⟩:=bD s (r.fr f) (nU e g)
  cases ep
  exact ⟨vs,hq,rs⟩
 refine ⟨λH S i f s g hl=>?_,λH S i y H' f s g hl hy=>?_,λH S f s g=>?_⟩
 ·exact I0.go H S i f s g (by simpa [cq] using hl)
 ·obtain ⟨vs,hq,rs⟩:=main H S f s g
  obtain ⟨p,z,hp,rfl,rfl,hz⟩:=hy
  obtain ⟨t,et,rt⟩:=rs.getV (hz vs hq)
  refine ⟨.tup [.int i,t],by rw [yr,et];rfl,Fr.new hp,s.new hp,?_⟩
  exact .tup (s.fresh hp) aG (.cons .int (.cons (rt.fr (Fr.new hp)) .nil))
 ·have:=I0.stop H S f s g
  show (ItE K a).stop (cq ts).length H
  rw [wQ];exact this
def wiE (wa:WE):WI:=λU S R=>wa U S λx S1=>∃ ts,az S1 x=some ts/\R ⟨cq ts,b6 x ts⟩ S1
theorem Au {Jz:List Expr}{x1:Nat}{IV:Pos}{a:Expr}{wa:WE}{p pos:Pos}(hK:X.K=K) (hg:Gl X "enumerate") (hm:X.mg "enumerate"=none) (ha:QE K X a wa) (hs:starEach [a] X.env=[(false,eval a X.env)]:=by rfl) (M4:starEach [a] X.env=(false,eval a X.env)::starEach [] X.env:=by rfl) :
  QI K X (.Tuple Jz x1 IV) (.Call (.Name "enumerate" p) [a] [] pos) (wiE wa):=by
 subst hK
 refine PI.of (Ar hg hm (kr ha kX M4) hs) λU H R zz106=>?_
 obtain ⟨S,HE,Rt,s,c,q,hq⟩:=zz106
 refine ⟨S,HE,_,s,c,q,λv H1 t S1 f1 s1 r1 q1=>?_⟩
 obtain ⟨ts,e,q1⟩:=q1
 obtain ⟨p,vs,rfl,hS,rs⟩:=bD s1 r1 e
 exact ⟨p,rfl,⟨vs,hS⟩,hq _ H1 _ S1 f1 s1 (wR r1 e) q1⟩
end T2
namespace L2
open PySem PySem.Spec PyProof.Rows
section
variable {X:Cx}
theorem wS:a0 X (.type "int") (λxs H Q=>∃ (x:Str) (n:Int),xs=[.str x]/\PySem.intText? x=some n/\x.length<=640/\Q (.int n) H):=by
 intro pins s U H xs us Q I r h
 obtain ⟨x,n,rfl,hn,hl,q⟩:=h
 obtain ⟨u,rfl,rx⟩:=bh r
 obtain ⟨t,rfl⟩:=(show ∃ t,u=Value.str x t from rx)
 exact PySem.W.KIN.call_text hn hl ⟨.int n,H,I.tok _,⟨_,rfl⟩,q⟩
theorem Av:MtR X "int.bit_length" (λx xs H Q=>∃ i:Int,x=.int i/\xs=[]/\Q (.int (Builtin.Int.intBits i:Nat)) H):=by
 intro pins s U H x vs v us Q I rx rv h
 obtain ⟨i,rfl,rfl,q⟩:=h
 obtain ⟨t,rfl⟩:=(show ∃ t,v=Value.int i t from rx)
 cases rv
 exact call_int_bit_length ⟨.int _,H,I.tok _,⟨_,rfl⟩,q⟩
def FA:V->List V->Hp->VK->Prop:=λx xs H Q=>∃ a b:Str,x=.str a/\xs=[.str b]/\b.length≠0/\a.length<=sizeLine/\∀ p,H p=none->Q (.ref p) (upd H p (.tup [.str (Txt.partition a b).1,.str (Txt.partition a b).2.1,.str (Txt.partition a b).2.2]))
theorem Aw:MtR X "str.partition" FA:=by
 intro pins s U H x vs v us Q I rx rv h
 obtain ⟨a,b,rfl,rfl,hb,hz,q⟩:=h
 obtain ⟨t,rfl⟩:=rx
 obtain ⟨u,rfl,t2,rfl⟩:=bh rv
 have hy:(b.length==0)=false:=by simpa using hb
 refine Qr F.slot_str_partition (Qq _ _ _) F.entry_str_partition (F.args_str_partition_2 _ _) (meets_str_partition a b t t2 hy hz) ?_
 have q1:=q s.heap.objs.size I.fresh
 unfold Txt.partition at q1
 cases e:Builtin.Str.occurrences a b 0 a.length 1 with
 |nil =>
  rw [e] at q1
  exact ⟨.ref _,_,I.laid (o:=.tup [.str a,.str Str.empty,.str Str.empty]) (h':=s.heap.push { cls:=.type "tuple",data:=.seq #[.str a t,.str Str.empty s.toks,.str Str.empty s.toks] }) (t':=s.toks+1) (λ_ _ e=>NG _ e) (NE _)
   ⟨by show 3<=sizeLine;decide,[.str a t,.str Str.empty s.toks,.str Str.empty s.toks],.cons ⟨_,rfl⟩ (.cons ⟨_,rfl⟩ (.cons ⟨_,rfl⟩ .nil)),⟨_,NT _ rfl,rfl,_,rfl⟩⟩,rfl,q1⟩
 |cons i l =>
  rw [e] at q1
  exact ⟨.ref _,_,I.laid (o:=.tup [.str (Builtin.Str.strSub a 0 i),.str b,.str (Builtin.Str.strSub a (i+b.length) a.length)]) (h':=s.heap.push { cls:=.type "tuple",data:=.seq #[.str (Builtin.Str.strSub a 0 i) s.toks,.str b t2,.str (Builtin.Str.strSub a (i+b.length) a.length) (s.toks+1)] }) (t':=s.toks+1+1) (λ_ _ e=>NG _ e) (NE _)
   ⟨by show 3<=sizeLine;decide,[.str (Builtin.Str.strSub a 0 i) s.toks,.str b t2,.str (Builtin.Str.strSub a (i+b.length) a.length) (s.toks+1)],.cons ⟨_,rfl⟩ (.cons ⟨_,rfl⟩ (.cons ⟨_,rfl⟩ .nil)),⟨_,NT _ rfl,rfl,_,rfl⟩⟩,rfl,q1⟩
end
end L2
namespace T2
open PySem PySem.Spec PyProof.Rows L2
section
variable {K:Fg}{X:Cx}
def sN:GC:=λts S Q=>∃ (x:Str) (n:Int),ts=[.str x]/\PySem.intText? x=some n/\x.length<=640/\Q (.int n) S
theorem C3:a0 X (.type "int") (lC K sN):=by
 rintro pins s U H xs us Q I r ⟨S,ts,Qt,sr,rs,⟨x,n,rfl,hn,hl,q⟩,b⟩
 cases rs with
 |cons a l =>
  cases l
  cases a
  exact wS pins s U H _ us Q I r ⟨_,n,rfl,hn,hl,b _ H _ S .refl sr .int q⟩
theorem C4 {S:Sto}{Q:T->Sto->Prop}{x:Str}{n:Int}(hn:PySem.intText? x=some n) (hl:x.length<=640) (h:Q (.int n) S):sN [.str x] S Q:=⟨x,n,rfl,hn,hl,h⟩
def sO:GM:=λx ts S Q=>∃ a b:Str,x=.str a/\ts=[.str b]/\b.length≠0/\a.length<=1000/\Q (.tup [.str (Txt.partition a b).1,.str (Txt.partition a b).2.1,.str (Txt.partition a b).2.2]) S
theorem C5:MtR X "str.partition" (lM K sO):=by
 rintro pins s U H x vs v us Q I rx rv ⟨S,t,ts,Qt,sr,hx,rs,⟨a,c,rfl,rfl,h0,h1,q⟩,b⟩
 cases hx
 cases rs with
 |cons r l =>
  cases l
  cases r
  refine Aw pins s U H _ _ v us Q I rx rv ⟨a,c,rfl,rfl,h0,by rw [N3];lia,λp hp=>?_⟩
  exact b _ _ _ S (Fr.new hp) (sr.new hp) (.tup (sr.fresh hp) aG (.cons .str (.cons .str (.cons .str .nil)))) q
theorem rm {S:Sto}{Q:T->Sto->Prop}{a b:Str}(h0:b.length≠0) (h1:a.length<=1000) (h:Q (.tup [.str (Txt.partition a b).1,.str (Txt.partition a b).2.1,.str (Txt.partition a b).2.2]) S):sO (.str a) [.str b] S Q:=⟨a,b,rfl,rfl,h0,h1,h⟩
@[reducible] def FB (wa:WE):WE:=λU S Q=>wa U S λx S1=>∃ i:Int,x=.int i/\Q (.int (Builtin.Int.intBits i:Nat)) S1
theorem C6 {o:Expr}{wa:WE}{apos cpos:Pos}(ho:QE K X o wa) (Ja:attributeBase o "bit_length" X.env (eval o X.env)=eval o X.env:=by rfl) (Jb:(apos.endLine==cpos.line)=true:=by rfl):QE K X (.Call (.Attribute o "bit_length" apos) [] [] cpos) (FB wa) :=
 PE.of (qv PySem.F.plainAttrs_int PySem.F.slot_int_bit_length PySem.F.type_int_bit_length Av ho Ja Jb) λU H Q zz107=>by
  obtain ⟨S,HE,Qt,s,c,q,hq⟩:=zz107
  refine ⟨S,HE,_,s,c,q,λx H1 tx S1 f1 s1 r1 q1=>?_⟩
  obtain ⟨i,rfl,q1⟩:=q1
  cases r1
  exact ⟨rfl,i,rfl,rfl,hq _ H1 _ S1 f1 s1 .int q1⟩
end
end T2
open PySem
namespace Sc
noncomputable def isL (c:Nat):Bool:=decide (97<=c)&&decide (c<=122)
def isP (p:List Nat):Bool:=decide (1<=p.length)&&decide (p.length<=12)&&p.all isL
noncomputable def aF:List Nat->Nat->Nat->Option (Nat×Nat)
 |[],z,n=>some (z,n)
 |c::r,z,n=>if c=32 then (if z=0 then none else aF r 0 (n+1)) else if isL c=true then (if z+1>12 then none else aF r (z+1) n) else none
noncomputable def fin:Option (Nat×Nat)->Bool
 |none=>false
 |some (z,n)=>decide (0<z)&&decide (n<5)
theorem jS:∀ (p rest:List Nat) (z n:Nat),32∉p->z<=12->aF (p++rest) z n=if (p.all isL&&decide (z+p.length<=12))=true then aF rest (z+p.length) n else none
 |[],rest,z,n,_,hz=>by simp [hz]
 |c::p,rest,z,n,h,hz=>by
  have hc:c≠32:=λe=>h (by simp [e])
  have hp:32∉p:=λe=>h (by simp [e])
  have ih:=jS p rest (z+1) n hp
  show aF (c::(p++rest)) z n=_
  rw [aF,NB hc]
  cases hl:isL c with
  |false=>simp [hl]
  |true =>
   rw [NC rfl]
   by_cases L3:z+1>12
   ·rw [NC L3]
    have:¬ (z+(c::p).length<=12):=by simp;lia
    simp [this]
    lia
   ·rw [NB L3,ih (by lia)]
    have e:z+1+p.length=z+(c::p).length:=by simp;lia
    rw [e]
    simp [hl]
noncomputable def aM (g:List Nat):List (List Nat)->List Nat
 |[]=>[]
 |[p]=>p
 |p::q::r=>p++g++aM g (q::r)
theorem kg:∀ (ps:List (List Nat)) (n:Nat),ps≠[]->(∀ p∈ps,32∉p)->fin (aF (aM [32] ps) 0 n)=(decide (ps.length+n<=5)&&ps.all isP)
 |[],_,h,_=>absurd rfl h
 |[p],n,_,hf=>by
  have h:=jS p [] 0 n (hf p (by simp)) (by lia)
  rw [N4] at h
  show fin (aF p 0 n)=_
  rw [h]
  simp only [OT,OQ,P6,List.all_nil,Qz]
  by_cases hc:(p.all isL&&decide (p.length<=12))=true
  ·rw [NC hc]
   simp only [NA,ND] at hc
   simp only [aF,fin,isP,hc.1,hc.2,QB,Qz]
   rw [N7]
   simp only [NA,ND]
   lia
  ·rw [NB hc]
   have:isP p=false:=by
    simp only [isP]
    rw [Sg]
    intro z
    simp only [NA,ND] at z hc
    exact hc ⟨z.2,z.1.2⟩
   simp [fin,this]
 |p::q::r,n,_,hf=>by
  have h:=jS p (32::aM [32] (q::r)) 0 n (hf p (by simp)) (by lia)
  have ih:=kg (q::r) (n+1) (by simp) λx hx=>hf x (NQ _ hx)
  have e:aM [32] (p::q::r)=p++32::aM [32] (q::r):=by simp [aM]
  rw [e,h]
  simp only [OT]
  by_cases hc:(p.all isL&&decide (p.length<=12))=true
  ·rw [NC hc]
   simp only [NA,ND] at hc
   rw [aF,NC rfl]
   by_cases hz:p.length=0
   ·rw [NC hz]
    have:isP p=false:=by simp [isP,hz]
    simp [fin,this]
   ·rw [NB hz,ih]
    have:isP p=true:=by
     simp only [isP,hc.1,hc.2,QB,Qz,ND]
     lia
    have ea:(p::q::r).all isP=(q::r).all isP:=by rw [P6,this,OA]
    rw [ea]
    have e2:(q::r).length+(n+1)=(p::q::r).length+n:=by simp;lia
    rw [e2]
  ·rw [NB hc]
   have:isP p=false:=by
    simp only [isP]
    rw [Sg]
    intro z
    simp only [NA,ND] at z hc
    exact hc ⟨z.2,z.1.2⟩
   simp [fin,this]
theorem C7 (a b:Nat):decide ([a]<[b])=decide (a<b):=by
 rw [N7]
 simp [List.cons_lt_cons_iff]
end Sc
namespace Wm
open PySem
theorem jJ (g:List Nat):∀ ps:List (List Nat),Sc.aM g ps=Tm.aM g ps
 |[]=>rfl
 |[p]=>rfl
 |p::q::r=>by
  show p++g++Sc.aM g (q::r)=p++g++Tm.aM g (q::r)
  rw [jJ g (q::r)]
noncomputable def Wd (z:Str):Bool:=decide (z.length<=24)&&Sc.fin (Sc.aF (Tm.tl z) 0 1)
theorem nB (z:Str):Sc.fin (Sc.aF (Tm.tl z) 0 1)=(decide ((Txt.split z " ").length<=4)&&(Txt.split z " ").all λp=>Sc.isP (Tm.tl p)):=by
 have hn:=PyProof.Rows.split_pos z " "
 rw [<- Tm.gG z,<- jJ,Sc.kg _ 1 (by simp [Tm.yc]) (Tm.split_free z),Nz,List.all_map]
 congr 1
 rw [N7]
 simp only [ND]
 lia
theorem ig (c d:Nat):T2.ltS ⟨#[c]⟩ ⟨#[d]⟩=decide (c<d):=by
 unfold T2.ltS
 exact Sc.C7 c d
theorem C8 (c:Nat):(!T2.ltS ⟨#[c]⟩ "a" && !T2.ltS "z" ⟨#[c]⟩)=Sc.isL c:=by
 rw [show ("a":Str)=⟨#[97]⟩ by decide +kernel,show ("z":Str)=⟨#[122]⟩ by decide +kernel,ig,ig,N7]
 simp only [Sc.isL,NA,Qg,OW,ND]
 lia
theorem all_map (l:List Bool):T2.dk (l.map T2.T.bl)=some l:=by
 induction l with
 |nil=>rfl
 |cons a l ih=>simp [T2.dk,ih]
theorem bM {α β:Type}(f:α->β) (l:List α):l.filterMap (λx=>some (f x))=l.map f:=by
 induction l with
 |nil=>rfl
 |cons a l ih=>simp [ih]
end Wm
namespace Wm
open PySem
theorem goes (c:Nat):(" ":Str).cps.contains c=decide (c=32):=by
 have e:(" ":Str).cps=#[32]:=by
  have:=Tm.gc
  apply Pe.mp
  exact this
 rw [e,N7]
 simp
theorem FC:((" ":Str).cps.contains:Nat->Bool)=λc=>decide (c=32):=funext goes
theorem oW (x:Str):Tm.tl (Txt.stripChars x " ")=((Tm.tl x).take (x.length - (((Tm.tl x).drop ((Tm.tl x).takeWhile λc=>decide (c=32)).length).reverse.takeWhile λc=>decide (c=32)).length)).drop ((Tm.tl x).takeWhile λc=>decide (c=32)).length:=by
 unfold Txt.stripChars Txt.stripBy
 rw [FC]
 split
 ·rename_i h
  simp only [PySem.stripSame,PySem.stripLo,PySem.stripHi,OV,NA,Pb] at h
  obtain ⟨h1,h2⟩:=h
  rw [h1] at h2 ⊢
  rw [h2,Pl,O4 (by rw [Tm.len];exact NE _)]
 ·simp only [PySem.stripped,PySem.stripLo,PySem.stripHi,OV,Builtin.Str.strSub,Tm.tl,Pm,List.extract]
  rw [Q2]
theorem gQ:∀ (a b:List Nat) (z n:Nat),Sc.aF (a++b) z n=(Sc.aF a z n).bind λp=>Sc.aF b p.1 p.2
 |[],b,z,n=>rfl
 |c::a,b,z,n=>by
  show Sc.aF (c::(a++b)) z n=_
  rw [Sc.aF,Sc.aF]
  split
  ·split
   ·rfl
   ·exact gQ a b _ _
  ·split
   ·split
    ·rfl
    ·exact gQ a b _ _
   ·rfl
theorem kN:∀ (a:List Nat) (z n:Nat) {z' n':Nat},Sc.aF a z n=some (z',n')->n<=n'
 |[],z,n,z',n',h=>by simp only [Sc.aF,O7,P7] at h;lia
 |c::a,z,n,z',n',h=>by
  rw [Sc.aF] at h
  split at h
  ·split at h
   ·cases h
   ·have:=kN a _ _ h;lia
  ·split at h
   ·split at h
    ·cases h
    ·exact kN a _ _ h
   ·cases h
theorem wT {l:List Nat}{n:Nat}{p:Nat×Nat}(h:Sc.aF l 0 n=some p):(l.takeWhile λc=>decide (c=32))=[]:=by
 cases l with
 |nil=>rfl
 |cons c l =>
  rw [Sc.aF] at h
  by_cases e:c=32
  ·rw [NC e,NC rfl] at h;cases h
  ·simp [PL,e]
theorem wU {l:List Nat}{z n:Nat}(h:Sc.aF l 0 1=some (z,n)) (hl:l≠[]) (hn:n<=4):∃ l',((l.take (l.length - (l.reverse.takeWhile λc=>decide (c=32)).length))=l')/\Sc.fin (Sc.aF l' 0 1)=true/\l'.length<=l.length:=by
 have step:∀ {a:List Nat}{c:Nat}{z n:Nat},Sc.aF (a++[c]) 0 1=some (z,n)->(c≠32/\0<z)\/(c=32/\z=0/\∃ z' n',Sc.aF a 0 1=some (z',n')/\0<z'/\n'<=n):=by
  intro a c z n e
  rw [gQ] at e
  cases q:Sc.aF a 0 1 with
  |none=>rw [q] at e;cases e
  |some p =>
   rw [q] at e
   simp only [Sv,Sc.aF] at e
   by_cases hc:c=32
   ·rw [NC hc] at e
    split at e
    ·cases e
    ·rename_i hz
     simp only [O7,P7] at e
     exact .inr ⟨hc,e.1.symm,p.1,p.2,rfl,by lia,by lia⟩
   ·rw [NB hc] at e
    split at e
    ·split at e
     ·cases e
     ·simp only [O7,P7] at e
      exact .inl ⟨hc,by lia⟩
    ·cases e
 rcases Rv l with rfl|⟨a,c,rfl⟩
 ·exact (hl rfl).elim
 rw [Rw] at h ⊢
 rcases step h with ⟨hc,hz⟩|⟨hc,hz,z',n',e,hz',hn'⟩
 ·refine ⟨a++[c],?_,?_,NE _⟩
  ·have e:((a++[c]).reverse.takeWhile λc=>decide (c=32))=[]:=by simp [PL,hc]
   rw [e,OI,Sw,List.take_length]
  ·rw [h];simp only [Sc.fin,NA,ND];lia
 ·refine ⟨a,?_,?_,by simp⟩
  ·have:(a.reverse.takeWhile λc=>decide (c=32))=[]:=by
    rcases Rv a with rfl|⟨b,d,rfl⟩
    ·rfl
    ·rw [Rw] at e ⊢
     rcases step e with ⟨hd,_⟩|⟨_,z0,_⟩
     ·simp [PL,hd]
     ·lia
   simp [PL,hc,this]
  ·rw [e];simp only [Sc.fin,NA,ND];lia
theorem C9 {x y:Str}{k:Nat}(h:Sc.fin (Sc.aF (Tm.tl x) 0 1)=true) (e:Tm.tl y=(Tm.tl x).take k) (h1:1<=k) (h2:k<=24):Wd (Txt.stripChars y " ")=true:=by
 cases q:Sc.aF (Tm.tl x) 0 1 with
 |none=>rw [q] at h;cases h
 |some p =>
  rw [q] at h
  simp only [Sc.fin,NA,ND] at h
  have Jc:Tm.tl x≠[]:=λz=>by
   rw [z] at q;simp only [Sc.aF,O7] at q;rw [<- q] at h;simp at h
  have q':=q
  rw [<- Oi k (Tm.tl x),gQ] at q'
  cases r:Sc.aF ((Tm.tl x).take k) 0 1 with
  |none=>rw [r] at q';cases q'
  |some u =>
   rw [r] at q'
   have hu:=kN _ _ _ q'
   have hl:Tm.tl y≠[]:=by
    rw [e]
    cases hx:Tm.tl x with
    |nil=>exact (Jc hx).elim
    |cons c l=>cases k with
     |zero=>lia
     |succ k=>simp
   rw [<- e] at r
   obtain ⟨l',e1,e2,e3⟩:=wU (z:=u.1) (n:=u.2) r hl (by lia)
   have es:Tm.tl (Txt.stripChars y " ")=l':=by
    rw [oW,wT r,OI,Pl,Pl,<- Tm.len]
    exact e1
   unfold Wd
   rw [NA,ND]
   refine ⟨?_,by rw [es];exact e2⟩
   rw [<- Tm.len,es]
   have:(Tm.tl y).length<=k:=by rw [e,Of];lia
   lia
theorem n5:∀ (ls:List (List Nat)),Tm.aM [] ls=ls.flatten
 |[]=>rfl
 |[p]=>by simp [Tm.aM]
 |p::q::r=>by
  show p++[]++Tm.aM [] (q::r)=_
  rw [n5 (q::r)];simp
theorem gX {ys:List Str}(h1:∀ y∈ys,∃ c,y=⟨#[c]⟩/\Sc.isL c=true) (h2:1<=ys.length) (h3:ys.length<=12):Sc.isP (Tm.tl (Txt.join "" ys))=true:=by
 rw [Tm.kK,Tm.empty,n5]
 have len:((ys.map Tm.tl).flatten).length=ys.length:=by
  clear h2 h3
  induction ys with
  |nil=>rfl
  |cons y l ih =>
   obtain ⟨c,rfl,_⟩:=h1 y (by simp)
   simp only [NF,OP,NJ,ih λz hz=>h1 z (by simp [hz]),NU]
   simp [Tm.tl];lia
 unfold Sc.isP
 rw [len]
 simp only [NA,ND]
 refine ⟨⟨h2,h3⟩,?_⟩
 rw [Oq]
 intro c hc
 rw [List.mem_flatten] at hc
 obtain ⟨l,hl,hc⟩:=hc
 rw [NI] at hl
 obtain ⟨y,hy,rfl⟩:=hl
 obtain ⟨d,rfl,hd⟩:=h1 y hy
 simp [Tm.tl] at hc
 rw [hc];exact hd
theorem yt {p:List Nat}(h:Sc.isP p=true):32∉p:=λhm=>by
 unfold Sc.isP at h
 simp only [NA,Oq] at h
 have:=h.2 32 hm
 simp [Sc.isL] at this
theorem Ax {ps:List Str}(h1:∀ p∈ps,Sc.isP (Tm.tl p)=true) (h2:ps≠[]) (h3:ps.length<=4):Sc.fin (Sc.aF (Tm.tl (Txt.join " " ps)) 0 1)=true:=by
 rw [Tm.kK,Tm.gc,<- jJ]
 rw [Sc.kg (ps.map Tm.tl) 1 (by simpa using h2) (λp hp=>by
  rw [NI] at hp
  obtain ⟨y,hy,rfl⟩:=hp
  exact yt (h1 y hy))]
 simp only [Nz,NA,ND,List.all_map,Oq]
 exact ⟨by lia,λp hp=>h1 p hp⟩
theorem cD {z:Str}(h:Wd z=true):1<=z.length/\z.length<=24:=by
 unfold Wd at h
 simp only [NA,ND] at h
 refine ⟨?_,h.1⟩
 rcases Nat.eq_zero_or_pos z.length with e|e
 ·have:Tm.tl z=[]:=OB.mp (by rw [Tm.len];exact e)
  rw [this] at h
  simp [Sc.aF,Sc.fin] at h
 ·exact e
theorem kO:∀ (l:List Nat) (z n:Nat){p:Nat×Nat},Sc.aF l z n=some p->∀ c∈l,c=32\/Sc.isL c=true
 |[],_,_,_,_,c,hc=>by cases hc
 |d::l,z,n,p,h,c,hc=>by
  rw [Sc.aF] at h
  rcases NR.mp hc with rfl|hc
  ·by_cases e:c=32
   ·exact .inl e
   ·rw [NB e] at h
    split at h
    ·exact .inr ‹_›
    ·cases h
  ·split at h
   ·split at h
    ·cases h
    ·exact kO l _ _ h c hc
   ·split at h
    ·split at h
     ·cases h
     ·exact kO l _ _ h c hc
    ·cases h
theorem oX {z:Str}(h:Wd z=true):∀ c∈Tm.tl z,c=32\/Sc.isL c=true:=by
 unfold Wd at h
 simp only [NA] at h
 cases q:Sc.aF (Tm.tl z) 0 1 with
 |none=>rw [q] at h;simp [Sc.fin] at h
 |some p=>exact kO _ _ _ q
theorem eP {z:Str}(h:Wd z=true):PyData.strOk z=true:=by
 unfold PyData.strOk
 rw [Rl]
 intro c hc
 have:=oX h c (by simpa [Tm.tl] using hc)
 rw [ND]
 rcases this with e|e
 ·lia
 ·simp only [Sc.isL,NA,ND] at e;lia
end Wm
open PySem
namespace Wm
theorem qb:∀ (p q r s:List Nat),32∉p->32∉q->p++32::r=q++32::s->p=q/\r=s
 |[],[],r,s,_,_,h=>⟨rfl,(List.cons.inj h).2⟩
 |[],c::q,r,s,_,h2,h=>absurd (List.cons.inj h).1 λe=>h2 (by rw [<- e];exact NM)
 |c::p,[],r,s,h1,_,h=>absurd (List.cons.inj h).1 λe=>h1 (by rw [e];exact NM)
 |c::p,d::q,r,s,h1,h2,h=>by
  obtain ⟨e1,e2⟩:=List.cons.inj h
  obtain ⟨e3,e4⟩:=qb p q r s (λz=>h1 (NQ _ z)) (λz=>h2 (NQ _ z)) e2
  exact ⟨by rw [e1,e3],e4⟩
end Wm
namespace L2
open PySem PySem.Spec PyProof.Rows
section
variable {X:Cx}{pos p2 p3 p4:Pos}{value Jd:Expr}{tv tv2:TE}{s2:Str}{k3:Nat}
def tFn (tv tv2:TE) (s2:Str):TE:=λU H Q=>tv U H λx H1=>∃ i:Int,x=.int i/\i.natAbs.log2<1920/\(Str.ofString (toString i)).length<=1000/\tv2 U H1 λx2 H2=>∃ z2:Str,x2=.str z2/\z2.length<=1000/\Q (.str (Str.ofString (toString i)++s2++z2)) H2
theorem FD (hv:PE X value tv) (Mo:PE X Jd tv2) (h2:s2.length<=1000):PE X (.JoinedStr [.FormattedValue value (-1) none p2,.Constant (.str s2) k3 p3,.FormattedValue Jd (-1) none p4] pos) (tFn tv tv2 s2):=by
 intro pins s U H Q I h
 refine JoinedStr_many (joinParts_cons ?_)
 show wpAny (model X.prog X.w) X.A (do let v <- eval value X.env;standAt p2;formatted p2 (<- holding [v] (converted (-1) v)) none) _ _ s
 refine Ny (thn (hv pins s U H _ I h) λu sa zz108=>?_)
 obtain ⟨x,H1,I1,rx,i,ex,hi,hil,q⟩:=zz108
 subst ex
 obtain ⟨t1,rfl⟩:=(show ∃ t,u=Value.int i t from rx)
 refine Ny (Qx (Ny (PF ?_)))
 refine NP ?_
 refine formatField_int_small ?_ ?_
 ·exact hi
 have l0:(Str.empty++Str.ofString (toString i)).length<=1000:=by rw [ON];simpa [Str.empty,PySem.Str.length] using hil
 refine ⟨by rw [N3];lia,?_⟩
 refine joinParts_cons (thn (qm pins _ U H1 (λv H2=>v=.str s2/\H2=H1) (I1.tok _) ⟨rfl,rfl⟩) λu3 sc zz109=>?_)
 obtain ⟨v,H3,I3,ru3,ev,eH⟩:=zz109
 subst ev eH
 obtain ⟨t3,rfl⟩:=(show ∃ t,u3=Value.str s2 t from ru3)
 have lz:(Str.empty++Str.ofString (toString i)++s2).length<=2000:=by rw [ON];lia
 refine ⟨by rw [N3];lia,joinParts_cons ?_⟩
 show wpAny (model X.prog X.w) X.A (do let v <- eval Jd X.env;standAt p4;formatted p4 (<- holding [v] (converted (-1) v)) none) _ _ _
 refine Ny (thn (Mo pins _ U _ _ I3 q) λu sd zz110=>?_)
 obtain ⟨x2,H4,I4,rx2,z2,Mq,L3,q2⟩:=zz110
 subst Mq
 obtain ⟨t4,rfl⟩:=(show ∃ t,u=Value.str z2 t from rx2)
 refine Ny (Qx (Ny (PF ?_)))
 refine NP ?_
 refine formatField_str (λt5 tk5=>?_) (by rw [N3];lia)
 have l4:(Str.empty++Str.ofString (toString i)++s2++z2).length<=3000:=by rw [ON];lia
 have e0:Str.empty++Str.ofString (toString i)=Str.ofString (toString i):=by
  have h:=Tm.c7 Str.empty (Str.ofString (toString i))
  rw [show Tm.tl Str.empty=[] from rfl,Qa] at h
  generalize Str.empty++Str.ofString (toString i)=a at h
  generalize Str.ofString (toString i)=b at h
  obtain ⟨a⟩:=a
  obtain ⟨b⟩:=b
  exact Ow Str.mk (Pe.mp h)
 rw [e0] at l4 ⊢
 exact ⟨by rw [N3];lia,joinParts_nil (show EP X pins U Q _ _ from ⟨.str (Str.ofString (toString i)++s2++z2),_,I4.tok _,⟨_,rfl⟩,q2⟩) (by rw [N3];lia)⟩
end
end L2
namespace T2
open PySem PySem.Spec PyProof.Rows L2
section
variable {K:Fg}{X:Cx}{pos p2 p3 p4:Pos}{value Jd:Expr}{wv Mw:WE}{s2:Str}{k3:Nat}
def wFn (wv Mw:WE) (s2:Str):WE:=λU S Q=>wv U S λx S1=>∃ i:Int,x=.int i/\i.natAbs.log2<1920/\(Str.ofString (toString i)).length<=1000/\Mw U S1 λx2 S2=>∃ z2:Str,x2=.str z2/\z2.length<=1000/\Q (.str (Str.ofString (toString i)++s2++z2)) S2
theorem GU (hv:QE K X value wv) (Mo:QE K X Jd Mw) (h2:s2.length<=1000:=by decide):QE K X (.JoinedStr [.FormattedValue value (-1) none p2,.Constant (.str s2) k3 p3,.FormattedValue Jd (-1) none p4] pos) (wFn wv Mw s2) :=
 PE.of (FD hv Mo h2) λU H Q zz111=>by
  obtain ⟨S,HE,Qt,s,c,q,hq⟩:=zz111
  refine ⟨S,HE,_,s,c,q,λx H1 tx S1 f1 s1 r1 q1=>?_⟩
  obtain ⟨i,rfl,hz,hok,q1⟩:=q1
  cases r1
  refine ⟨i,rfl,hz,hok,S1,HE,_,s1,c.fr f1,q1,λx2 H2 tx2 S2 f2 s2 r2 q2=>?_⟩
  obtain ⟨z2,rfl,L3,q2⟩:=q2
  cases r2
  exact ⟨z2,rfl,L3,hq _ H2 _ S2 (f1.trans f2) s2 .str q2⟩
theorem GV {U:StT}{S:Sto}{Q:T->Sto->Prop}(h:wv U S λx S1=>∃ i:Int,x=.int i/\i.natAbs.log2<1920/\(Str.ofString (toString i)).length<=1000/\Mw U S1 λx2 S2=>∃ z2:Str,x2=.str z2/\z2.length<=1000/\Q (.str (Str.ofString (toString i)++s2++z2)) S2):wFn wv Mw s2 U S Q:=h
end
end T2
namespace Nm
open PySem
def D (n:Nat):Str:=Str.ofString (toString (n:Int))
theorem dY (n:Nat):Tm.tl (D n)=(Nat.toDigits 10 n).map Char.toNat:=PySem.W.KIN.signs_num n
theorem iF {n c:Nat}(h:c∈Tm.tl (D n)):48<=c/\c<=57:=by
 rw [dY] at h
 obtain ⟨d,hd,rfl⟩:=NI.mp h
 have:=Nat.isDigit_of_mem_toDigits (by decide) (by decide) hd
 simp only [Char.isDigit,NA,ND] at this
 exact this
theorem tW (n:Nat):1<=(D n).length:=by
 rw [<- Tm.len,dY,Nz];exact Nat.length_toDigits_pos
theorem iG {n:Nat}(h:n<10 ^ 15):(D n).length<=15:=by
 rw [<- Tm.len,dY,Nz];exact (Nat.length_toDigits_le_iff (by decide) (by decide)).mpr h
theorem FE {n:Nat}(h:n<10 ^ 15):PySem.intText? (D n)=some (n:Int):=by
 have l:=iG h
 have e:=PySem.intText_digits (x:=D n) (λc hc=>iF hc) (λe=>by have:=tW n;rw [<- Tm.len] at this;rw [show Tm.tl (D n)=[] from e] at this;simp at this) (by lia)
 rw [e,show (D n).cps.toList=(Nat.toDigits 10 n).map Char.toNat from dY n,PySem.W.KIN.val_back]
theorem GW {n:Nat}{r:List Nat}(h:Tm.tl (D n)=48::r):r=[]:=by
 have hd:NumText.AllDigits (Tm.tl (D n)):=λc hc=>iF hc
 have e:=NumText.toDigits_all _ hd
 rw [dY,PySem.W.KIN.val_back,<- dY,h] at e
 have l1:(Tm.tl (D n)).length=(Nat.toDigits 10 n).length:=by rw [dY,Nz]
 rw [h] at l1
 rw [e,RO,NC (by decide)] at l1
 have l2:=(List.dropWhile_sublist (λx=>x==48) (l:=r)).length_le
 cases q:List.dropWhile (λx=>x==48) r with
 |nil=>rw [q] at l1;simp at l1;exact l1
 |cons c s=>rw [q] at l1 l2;simp at l1 l2;lia
theorem rq (x:Str) (i:Nat):StrLaws.At x " " x.length i ↔ (Tm.tl x)[i]?=some 32:=by
 unfold StrLaws.At Builtin.Str.subAt
 have e1:((Str.ofString " ").length)=1:=rfl
 rw [e1]
 have e2:(x.cps.extract i (i+1)).toList=((Tm.tl x).drop i).take 1:=by
  rw [Pm];simp [Tm.tl,List.extract]
 constructor
 ·rintro ⟨h,q⟩
  have q:=Ow Array.toList (eq_of_beq q)
  rw [e2] at q
  have q:((Tm.tl x).drop i).take 1=[32]:=q
  have:=Ow (λl=>l[0]?) q
  simpa using this
 ·intro h
  obtain ⟨hl,he⟩:=Oa.mp h
  rw [Tm.len] at hl
  refine ⟨by lia,?_⟩
  have:x.cps.extract i (i+1)=(Str.ofString " ").cps:=by
   apply Pe.mp
   rw [e2]
   show _=[32]
   rw [Px (by rw [Tm.len];exact hl),List.take_succ_cons,List.take_zero,he]
  rw [this];exact Qs _
theorem part {x p w:Str}(h:32∉Tm.tl p) (e:Tm.tl x=Tm.tl p++32::Tm.tl w):Txt.partition x " "=(p,(Str.ofString " "),w):=by
 have hat:StrLaws.At x " " x.length p.length:=(rq x _).mpr (by rw [e,<- Tm.len p,OZ (NE _)];simp)
 have str:∀ {a b:Str},Tm.tl a=Tm.tl b->a=b:=fun {a b} q=>by
  obtain ⟨a⟩:=a
  obtain ⟨b⟩:=b
  exact Ow Str.mk (Pe.mp q)
 have sum:=StrLaws.partition_sum x " "
 rcases PyProof.Rows.partition_whole x " " with ⟨_,no⟩|⟨i,he,hi,hm⟩
 ·exact (no _ hat).elim
 ·have hs:32∉Tm.tl (Txt.partition x " ").1:=λhc=>by
   rw [he] at hc
   have ts:Tm.tl (Builtin.Str.strSub x 0 i)=(Tm.tl x).take i:=by
    have:=StrLaws.strSub_toList x 0 i
    simpa [Tm.tl] using this
   rw [show ((Builtin.Str.strSub x 0 i,(Str.ofString " "),Builtin.Str.strSub x (i+(Str.ofString " ").length) x.length):Str×Str×Str).1=Builtin.Str.strSub x 0 i from rfl,ts] at hc
   obtain ⟨k,hk⟩:=Ru.mp hc
   rw [List.getElem?_take] at hk
   split at hk
   ·next hki=>exact hm k hki ((rq x k).mpr hk)
   ·cases hk
  have h2:(Txt.partition x " ").2.1=" ":=by rw [he]
  have sum2:=Ow Tm.tl sum
  rw [Tm.c7,Tm.c7,h2,Tm.gc,e,NX] at sum2
  obtain ⟨q1,q2⟩:=Wm.qb _ _ _ _ hs h sum2
  exact Prod.ext (str q1) (Prod.ext h2 (str q2))
theorem Dc (n:Nat) (w:Str):Txt.partition (D n ++ " " ++ w) " "=(D n,(Str.ofString " "),w):=part (λh=>by have:=iF h;lia) (by rw [Tm.c7,Tm.c7,Tm.gc,NX];rfl)
end Nm
namespace L2
open PySem PySem.Spec PyProof.Rows
end L2
namespace T2
open PySem PySem.Spec PyProof.Rows L2
section
variable {K:Fg}{X:Cx}{k:Nat}{f C:Addr}{fd:FuncData}{ps:List Str}{HZ:WSp}{wsr:dX}{x m fl:Str}{p pos apos cpos IZ:Pos}{e o value:Expr}{es:List Expr}{wa wv:WE}{wr:WA}{G:Addr->Prop}{i:Int}{tk:Tok}
@[reducible] def G7 (G:Addr->Prop) (m:Str) (i:Int) (HZ:dX) (wa:WE) (wr:WA):WR:=λU S R=>wa U S λx S1=>∃ a C fs,x=.ref a/\S1 a=some (.ins C fs)/\G C/\fs.lookup m=none/\wr U S1 λts S2=>HZ (x::(ts++[.int i])) S2 λC S'=>R C U S'
end
section
variable {K:Fg}{X:Cx}{pos p2 p3:Pos}{value:Expr}{tv:TE}{wv:WE}{s2:Str}{k3:Nat}
@[reducible] def wF2 (wv:WE):WE:=λU S Q=>wv U S λx S1=>∃ i:Int,x=.int i/\i.natAbs.log2<1920/\∀ y,Q (.str y) S1
end
section
variable {K:Fg}{X:Cx}{H:Hp}{S:Sto}
@[reducible] def Hf:WE:=λ_ S Q=>∀ p,S p=none->Q (.ref p) (put S p (.dT []))
end
section
variable {K:Fg}{X:Cx}{U:StT}{S:Sto}{D:EndsT}{Q:T->Sto->Prop}{R:Prop}{w:World}{a d:Addr}{t x y z:T}{kts:List (List Key×T)}{ks:List Key}{wa:WE}{o:Expr}{pos apos cpos:Pos}
end
end T2
namespace PySem
open PySem.W
def Hy (h:Heap) (d:Addr) (es:Array DictEntry) (ep:Nat):Prop:=∃ o,h.get? d=some o/\o.ExactDict/\o.data=.dict es ep
section
variable {prog:Program}{w:World}{A:Around}{E:Value->Shared->Prop}{s:Shared}{d it:Addr}{es:Array DictEntry}{ep i:Nat}
end
end PySem
namespace L2
open PySem PySem.Spec PyProof.Rows
abbrev Hz (H:Hp):List Addr->List (List Key×V)->Prop:=Paired λ(b:Addr) (p:List Key×V)=>H b=some (.tup (p.1.map kV))
section
variable {X:Cx}{pins:List (Addr×Obj)}{U:St}{H:Hp}{s:Shared}{a:Addr}{kvs:List (List Key×V)}
end
end L2
namespace T2
open PySem PySem.Spec PyProof.Rows L2
section
variable {K:Fg}{X:Cx}{H:Hp}{S:Sto}
@[reducible] def Hg (k1 k2 k3 k4:Str) (w1 w2 w3 w4:WE):WE:=λU S Q=>∀ p,S p=none->w1 U (put S p (.dK [])) λt1 S1=>w2 U S1 λt2 S2=>w3 U S2 λt3 S3=>w4 U S3 λt4 S4=>S4 p=some (.dK [])/\Q (.ref p) (put S4 p (.dK [(.inr k1,t1),(.inr k2,t2),(.inr k3,t3),(.inr k4,t4)]))
end
section
variable {K:Fg}{X:Cx}{o i a b c e:Expr}{es:List Expr}{wa wb wc wi:WE}{wr:WA}{we:WE}{pos p apos cpos:Pos}{x:Str}{k:Nat}{f:Addr}{fd:FuncData}{ps:List Str}{HZ:WSp}
abbrev FnO (P:Program) (w:World) (K:Fg) (mg:Str->Option Value) (base:Heap) (n:Nat) (f:Addr) (fd:FuncData) (ps:List Str) (sp:WSp):Prop:=FnOk P w K mg base CX0 n f fd ps (lSp K sp)
theorem aw {HZ:WSp}{N:List Str}{u:WS}(h:∀ v:WS,v=u->∀ ts S Q,HZ ts S Q->v { nx:=λ_ S'=>Fin Q .non S',rt:=Fin Q } (cB N ts) S):∀ ts S Q,HZ ts S Q->u { nx:=λ_ S'=>Fin Q .non S',rt:=Fin Q } (cB N ts) S:=h u rfl
theorem ap (ha:QE K X a wa) (hc:QE K X c wc) (hK:X.K=K:=by rfl) (hs:kB c:=by exact λ_ _=>rfl):QE K X (.Subscript a c pos) (w2 gIx wa wc):=GA hK ha hc hs
theorem GX (w:World) (ho:QE K X o wa) (hi:QE K X i wi) (hw:X.w=w:=by rfl) (hs:gi i:=by exact λ_ _=>rfl):QE K X (.Subscript o i pos) (w2 (iS w) wa wi):=Fs w hw ho hi hs
theorem bd {j:Nat}(hr:Room j X.A) (ha:QE K X a wa) (hb:QE K X b wb) (hK:X.K=K:=by rfl):QT K X (.Compare a [.Eq] [b] pos) (wB (w2 (gEq false) wa wb)):=aI (iN hK hr.units) ha hb (kU _)
theorem bJ {G:Addr->Prop}{fl:Str}(hG:∀ C,G C->Cls K C/\bp K C fl) (he:QE K X o wa) (hK:X.K=K:=by rfl) (hb:attributeBase o fl X.env (eval o X.env)=eval o X.env:=by rfl):QE K X (.Attribute o fl pos) (mK G wa fl):=Fq hK hG he hb
theorem aL {id:String}{g:GC}(hc:a0 X (.builtin id) (lC K g)) (hm:X.mg x=none) (hv:bootBuiltins x=some (.builtin id)) (ha:QA K X (e::es) wr) (hg:Gl X x:=by rfl) (hn:x ≠ "__name__":=by decide) (JH:(x==("__debug__":Str))=false:=by decide)
  (he:starEach (e::es) X.env=(false,eval e X.env)::starEach es X.env:=by rfl) (JN:(backTo pos (starEach es X.env)).any (·.1)=false:=by rfl):QE K X (.Call (.Name x p) (e::es) [] pos) (wCB g wr):=GO hc hg hm hv ha hn JH he JN
theorem al (F:FnOk X.prog X.w X.K X.mg X.base CX0 k f fd ps (lSp K HZ)) (D:Df X.K X.mg x f fd ps) (hr:Room k X.A) (ha:QA K X (e::es) wr) (hg:Gl X x:=by rfl)
  (JH:(x==("__debug__":Str))=false:=by decide) (he:starEach (e::es) X.env=(false,eval e X.env)::starEach es X.env:=by rfl) (JN:(backTo pos (starEach es X.env)).any (·.1)=false:=by rfl) :
  QE K X (.Call (.Name x p) (e::es) [] pos) (iw HZ [] wr):=CT F D hr hg ha JH he JN
theorem aA (i:Nat) {IZ:Pos}(hN:X.N.Nodup) (he:QE K X e we) (hi:X.N[i]?=some x:=by rfl) (hx:Loc X.env.scope x:=by first|exact Or.inl rfl|exact Or.inr rfl) (hs:swapsWith e (some (.Name x IZ)) pos.line X.env=pure false:=by rfl)
  (hf:X.fn x=true\/X.env.scope.names.lookup x=some .local:=by first|exact .inl rfl|exact .inr rfl|assumption):QS K X (.Assign [.Name x IZ] e pos) (e7 we (wgN i)):=Eo hN hi hx he hs hf
theorem av (i:Nat) (hN:X.N.Nodup) (hi:X.N[i]?=some x:=by rfl) (hx:Loc X.env.scope x:=by first|exact Or.inl rfl|exact Or.inr rfl) (hf:X.fn x=true\/X.env.scope.names.lookup x=some .local:=by first|exact .inl rfl|exact .inr rfl|assumption):QG K X (.Name x pos) (wgN i):=Aj hN hi hx hf
theorem df {tg:Expr}{g:WG}(he:QE K X e we) (hg:QG K X tg g) (h:∀ {t g},PE X e t->PG X tg g->PS X (.Assign [tg] e pos) (eT t g):=by exact λh g=>L2.BA h g):QS K X (.Assign [tg] e pos) (e7 we g):=En h he hg
theorem dt {g:GS}(ho:QE K X o wa) (hi:QE K X i wi) (hs:cX X (ff K g)) (h:∀ {to ti t},PE X o to->PE X i ti->cX X t->PG X (.Subscript o i pos) (L2.dR to ti t):=by exact λh1 h2 h3=>L2.Bz h1 h2 h3):QG K X (.Subscript o i pos) (wgS wa wi g):=CU ho hi hs h
theorem bC {ty id:String}{m:Str}{gm:GM}(pa:PlainAttrs ty) (slot:Slot ty m id) (LK:typeOf (.builtin id)=pure (.type "method_descriptor")) (hm:MtR X id (lM K gm)) (ho:QE K X o wa) (ha:QA K X (e::es) wr) (hK:X.K=K:=by rfl)
  (Ja:attributeBase o m X.env (eval o X.env)=eval o X.env:=by rfl)
  (MZ:((backTo cpos (starEach (e::es) X.env)).all (λx=>!x.1)&&(backToKw cpos (keywordEach [] X.env)).all (λx=>x.1.isSome)
   && decide ((e::es).length+([]:List Keyword).length+(if ([]:List Keyword).isEmpty then 0 else 1)<30))=true:=by rfl)
  (Jb:(apos.endLine==cpos.line)=true:=by rfl) (hs:starEach (e::es) X.env=(false,eval e X.env)::starEach es X.env:=by rfl) (IN:(backTo cpos (starEach es X.env)).any (·.1)=false:=by rfl) :
  QE K X (.Call (.Attribute o m apos) (e::es) [] cpos) (wBM ty gm wa wr):=GP hK pa slot LK hm ho ha λh1 h2 h3=>D7 pa slot LK h2 h1 h3 Ja MZ Jb hs IN
end
end T2
namespace Rk
open PySem T2 S6
abbrev Rt:=Str×Int
noncomputable def rt (a:Rt):T:=.tup [.str a.1,.int a.2]
noncomputable def ky (a:Rt):Ky:=.cons (.i (-a.2)) (.cons (.s a.1) .nil)
theorem Dd (a:Rt):tre (ky a)=.tup [.int (-a.2),.str a.1]:=by simp [ky,tre,gq]
def ah (a b:Rt):Bool:=Ky.lt (ky a) (ky b)
theorem iH (a b:Rt):ah a b=(decide (b.2<a.2) || (decide (a.2=b.2)&&ltS a.1 b.1)):=by
 unfold ah ky
 simp only [Ky.lt,Ky.i.injEq,Ky.s.injEq,ltS]
 by_cases e:a.2=b.2
 ·have e1:-a.2=-b.2:=by lia
  have e2:¬ b.2<a.2:=by lia
  rw [NC e1,NS e2,NK e]
  simp only [Qy,OA]
  split
  ·next h=>rw [h];exact (NS (List.lt_irrefl _)).symm
  ·rfl
 ·have e1:¬ -a.2=-b.2:=by lia
  rw [NB e1,NS e,OH,Bool.or_false,N7]
  simp only [ND];lia
theorem sP (a:Rt):Ky.ok (ky a)=true:=rfl
theorem fT (a b:Rt):Ky.shp (ky a) (ky b)=true:=rfl
theorem De {a b:Rt}(h:ky a=ky b):a=b:=by
 simp only [ky,Ky.cons.injEq,Ky.i.injEq,Ky.s.injEq,and_true] at h
 exact Prod.ext h.2 (by lia)
theorem rA (a:Rt):ah a a=false:=Ky.irr _
theorem oY {a b c:Rt}(h1:ah a b=true) (h2:ah b c=true):ah a c=true:=Ky.trans (fT _ _) (fT _ _) h1 h2
theorem ly (a b:Rt):ah a b=true\/a=b\/ah b a=true:=by
 rcases Ky.tri (fT a b) with h|h|h
 ·exact .inl h
 ·exact .inr (.inl (De h))
 ·exact .inr (.inr h)
theorem kP {a b:Rt}(h:ah a b=true):ah b a=false:=Ky.GN (fT _ _) h
noncomputable def kyT:T->Ky
 |.tup [.str w,.int n]=>ky (w,n)
 |_=>.nil
theorem rB (a:Rt):kyT (rt a)=ky a:=rfl
noncomputable def ins (HI:List Rt) (a:Rt):List Rt:=HI.takeWhile (λx=>ah x a)++a::HI.dropWhile (λx=>ah x a)
def bst (l:List Rt):List Rt:=l.foldl ins []
theorem kh (HI:List Rt) (a:Rt):(ins HI a).Perm (a::HI):=by
 unfold ins
 refine (Sy).trans ?_
 rw [List.takeWhile_append_dropWhile]
theorem n6:∀ (l HI:List Rt),(l.foldl ins HI).Perm (l++HI)
 |[],HI=>by simp
 |a::l,HI=>by
  rw [QH]
  refine (n6 l (ins HI a)).trans ?_
  refine ((kh HI a).append_left l).trans ?_
  exact Sy
theorem dA (l:List Rt):(bst l).Perm l:=by
 have:=n6 l []
 rwa [N4] at this
theorem vH {HI:List Rt}{a:Rt}(h:HI.Pairwise λx y=>ah x y=true) (hn:a∉HI):(ins HI a).Pairwise λx y=>ah x y=true:=by
 induction HI with
 |nil=>simp [ins]
 |cons b l ih =>
  have hb:b≠a:=λe=>hn (by simp [e])
  obtain ⟨h1,h2⟩:=OF.mp h
  have MY:a∉l:=λe=>hn (by simp [e])
  unfold ins
  by_cases q:ah b a=true
  ·rw [PL,NC q,RO,NC q,Rj]
   refine OF.mpr ⟨λx hx=>?_,ih h2 MY⟩
   have:=(kh l a).mem_iff.mp (show x∈ins l a from hx)
   rcases NR.mp this with rfl|hx
   ·exact q
   ·exact h1 x hx
  ·rw [PL,NB q,RO,NB q,Qa]
   have ab:ah a b=true:=by
    rcases ly a b with z|z|z
    ·exact z
    ·exact (hb z.symm).elim
    ·exact (q z).elim
   refine OF.mpr ⟨λx hx=>?_,h⟩
   rcases NR.mp hx with rfl|hx
   ·exact ab
   ·exact oY ab (h1 x hx)
theorem nq:∀ (l HI:List Rt),(l++HI).Nodup->(HI.Pairwise λx y=>ah x y=true)->((l.foldl ins HI).Pairwise λx y=>ah x y=true)
 |[],HI,_,h=>h
 |a::l,HI,hn,h=>by
  rw [QH]
  have hm:a∉HI:=λe=>by
   rw [Rj,Ov] at hn
   exact hn.1 (Oh _ e)
  refine nq l (ins HI a) ?_ (vH h hm)
  have p:(l++ins HI a).Perm (a::l++HI):=((kh HI a).append_left l).trans Sy
  exact p.nodup_iff.mpr hn
theorem gH {l:List Rt}(h:l.Nodup):(bst l).Pairwise λx y=>ah x y=true:=nq l [] (by simpa using h) .nil
theorem uniq:∀ {l m:List Rt},(l.Pairwise λx y=>ah x y=true)->(m.Pairwise λx y=>ah x y=true)->l.Perm m->l=m
 |[],m,_,_,p=>(List.perm_nil.mp p.symm).symm
 |a::l,[],_,_,p=>absurd p.length_eq (by simp)
 |a::l,b::m,h1,h2,p=>by
  obtain ⟨a1,a2⟩:=OF.mp h1
  obtain ⟨b1,b2⟩:=OF.mp h2
  have e:a=b:=by
   rcases NR.mp (p.mem_iff.mp (NM ..):a∈b::m) with e|e
   ·exact e
   ·rcases NR.mp (p.mem_iff.mpr (NM ..):b∈a::l) with q|q
    ·exact q.symm
    ·have x1:=a1 b q
     have x2:=b1 a e
     rw [kP x1] at x2;cases x2
  subst e
  rw [uniq a2 b2 (List.perm_cons a |>.mp p)]
theorem oZ {l:List Rt}(h:(l.map (·.1)).Nodup):l.Nodup:=by
 unfold List.Nodup at h ⊢
 rw [PQ] at h
 exact h.imp fun {a b} Jc e=>Jc (by rw [e])
theorem wW {l l':List Rt}(hn:l.Nodup) (p:l'.Perm l) (h:l'.Pairwise λa b=>Ky.lt (kyT (rt b)) (kyT (rt a))=false):l'=bst l:=by
 refine uniq ?_ (gH hn) (p.trans (dA l).symm)
 have n':l'.Nodup:=p.nodup_iff.mpr hn
 refine (h.and n').imp fun {a b} hab=>?_
 rcases ly a b with z|z|z
 ·exact z
 ·exact (hab.2 z).elim
 ·have:=hab.1
  rw [rB,rB] at this
  rw [show Ky.lt (ky b) (ky a)=true from z] at this;cases this
theorem qc:∀ l:List Rt,aT (l.map rt)=some (l.map λa=>PyData.tuple [.str a.1,.int a.2])
 |[]=>rfl
 |a::l=>by simp [aT,rt,bV,qc l]
theorem lB:∀ {l:List Rt},(∀ a∈l,PyData.strOk a.1=true)->PyData.canLayAll0 (l.map λa=>PyData.tuple [.str a.1,.int a.2])=true
 |[],_=>rfl
 |a::l,h=>by
  have ih:PyData.canLayAll0 (l.map λa=>PyData.tuple [.str a.1,.int a.2])=true:=lB λx hx=>h x (NQ _ hx)
  simp only [NF,PyData.canLayAll0,PyData.canLay0,h a (NM ..),ih,Bool.and_self]
theorem rD:∀ l:List Rt,PyData.depthAll (l.map λa=>PyData.tuple [.str a.1,.int a.2])<=1
 |[]=>by simp [PyData.depthAll]
 |a::l=>by
  have:=rD l
  simp only [NF,PyData.depthAll,PyData.depth,Nat.max_le]
  exact ⟨by decide,this⟩
theorem rE:∀ l m:List Rt,PyData.eqvAll (l.map λa=>PyData.tuple [.str a.1,.int a.2]) (m.map λa=>PyData.tuple [.str a.1,.int a.2])=decide (l=m)
 |[],[]=>rfl
 |[],_::_=>by simp [PyData.eqvAll]
 |_::_,[]=>by simp [PyData.eqvAll]
 |a::l,b::m=>by
  simp only [NF,PyData.eqvAll,PyData.eqv,rE l m,Qz]
  rw [N7]
  simp only [NA,Pb,ND,Pc,Prod.ext_iff]
theorem lD {S:Sto}{Q:T->Sto->Prop}{n:Bool}{x y:T}{l m:List Rt}(e1:bB S x=some (.list (l.map λa=>PyData.tuple [.str a.1,.int a.2]))) (e2:bB S y=some (.list (m.map λa=>PyData.tuple [.str a.1,.int a.2])))
  (h1:∀ a∈l,PyData.strOk a.1=true) (h2:∀ a∈m,PyData.strOk a.1=true) (hx:∀ i,x≠.int i:=by intro i e;cases e) (hx2:∀ i,x≠.str i:=by intro i e;cases e) (hx3:∀ i,x≠.bl i:=by intro i e;cases e)
  (h:Q (.bl (n ^^ decide (l=m))) S):gEq n x y S Q:=by
 have z:∃ dx dy,bB S x=some dx/\bB S y=some dy/\dx.canLay0=true/\dy.canLay0=true/\min dx.depth dy.depth<=64/\Q (.bl (n ^^ PyData.eqv dx dy)) S:=by
  refine ⟨_,_,e1,e2,by simp only [PyData.canLay0];exact lB h1,by simp only [PyData.canLay0];exact lB h2,?_,?_⟩
  ·have:=rD l
   simp only [PyData.depth];lia
  ·simp only [PyData.eqv,rE];exact h
 cases x with
 |int i=>exact (hx i rfl).elim
 |str i=>exact (hx2 i rfl).elim
 |bl i=>exact (hx3 i rfl).elim
 |_=>exact z
theorem fh {S:Sto}{l:List Rt}:bB S (.lst (l.map rt))=some (.list (l.map λa=>PyData.tuple [.str a.1,.int a.2])):=by simp [bB,bV,qc]
theorem rF (a:Rt):∀ l:List Rt,(l.filterMap λb=>if ah b a=true then some (rt b) else none).length=l.countP λx=>ah x a
 |[]=>rfl
 |c::l=>by
  have ih:=rF a l
  rw [O9,Qu]
  by_cases q:ah c a=true
  ·simp only [q,OV,NU,ih]
  ·simp only [q,Pa,ih,Oe,Nat.add_zero]
theorem FF {S:Sto}{Q:T->Sto->Prop}{a:Rt}(h:Q (.str a.1) S):gIx (rt a) (.int 0) S Q:=mf (t:=.str a.1) rfl h
theorem FG {S:Sto}{Q:T->Sto->Prop}{a:Rt}(h:Q (.int a.2) S):gIx (rt a) (.int 1) S Q:=mf (t:=.int a.2) rfl h
theorem d9 {S:Sto}{x:T}{ts:List T}(h:az S x=some ts):b6 x ts S:=by
 unfold b6
 cases x<;>first|trivial|skip
 rename_i a
 simp only [az] at h
 cases e:S a with
 |none=>rw [e] at h;cases h
 |some o =>
  rw [e] at h
  cases o<;>first|(cases h;done)|skip
  cases h;exact e
end Rk
namespace As
open PySem T2
variable {α β:Type}
noncomputable def kt (f:α->T) (l:List (Str×α)):List (L2.Key×T):=l.map λa=>(Sum.inr a.1,f a.2)
noncomputable def look (l:List (Str×α)) (z:Str):Option α:=(l.find? λa=>decide (a.1=z)).map (·.2)
noncomputable def pu (l:List (Str×α)) (z:Str) (x:α):List (Str×α):=if (l.any λa=>decide (a.1=z))=true then l.map (λa=>if a.1=z then (a.1,x) else a) else l++[(z,x)]
noncomputable def dr (l:List (Str×α)) (z:Str):List (Str×α):=l.filter λa=>decide (a.1≠z)
theorem dJ (f:α->T) (z:Str):∀ l:List (Str×α),aY (kt f l) (Sum.inr z)=(look l z).map f
 |[]=>rfl
 |a::l=>by
  have ih:=dJ f z l
  unfold aY kt look at *
  rw [NF,Oy,Oy]
  by_cases e:a.1=z
  ·simp [e]
  ·have e2:¬ (Sum.inr a.1:L2.Key)=Sum.inr z:=λq=>e (Sum.inr.inj q)
   simp only [e,e2,Qk]
   exact ih
theorem rG (f:α->T) (z:Str):∀ l:List (Str×α),((kt f l).any λkv=>decide (kv.1=Sum.inr z))=l.any λa=>decide (a.1=z)
 |[]=>rfl
 |a::l=>by
  have ih:=rG f z l
  unfold kt at *
  rw [NF,O0,O0,ih]
  congr 1
  rw [N7]
  simp
theorem lF (f:α->T) (l:List (Str×α)) (z:Str) (x:α):de (kt f l) (Sum.inr z) (f x)=kt f (pu l z x):=by
 unfold de pu
 rw [rG]
 split
 ·unfold kt
  rw [NV,NV]
  refine N8 λa _=>?_
  by_cases e:a.1=z
  ·simp [e]
  ·have e2:¬ (Sum.inr a.1:L2.Key)=Sum.inr z:=λq=>e (Sum.inr.inj q)
   simp [e]
 ·unfold kt;simp
theorem Ay (f:α->T) (l:List (Str×α)) (z:Str):eN (kt f l) (Sum.inr z)=kt f (dr l z):=by
 unfold eN dr kt
 rw [Qb]
 congr 1
 refine List.filter_congr λa _=>?_
 rw [N7]
 simp
theorem ki (g:α->β) (z:Str):∀ l:List (Str×α),look (l.map λa=>(a.1,g a.2)) z=(look l z).map g
 |[]=>rfl
 |a::l=>by
  have ih:=ki g z l
  unfold look at *
  rw [NF,Oy,Oy]
  by_cases e:a.1=z
  ·simp [e]
  ·simp only [e,Qk];exact ih
theorem Dg (g:α->β) (l:List (Str×α)) (z:Str) (x:α):pu (l.map λa=>(a.1,g a.2)) z (g x)=(pu l z x).map λa=>(a.1,g a.2):=by
 unfold pu
 have:((l.map λa=>(a.1,g a.2)).any λa=>decide (a.1=z))=l.any λa=>decide (a.1=z):=by rw [List.any_map];rfl
 rw [this]
 split
 ·rw [NV,NV]
  refine N8 λa _=>?_
  by_cases e:a.1=z<;>simp [e]
 ·simp
theorem Dh (g:α->β) (l:List (Str×α)) (z:Str):dr (l.map λa=>(a.1,g a.2)) z=(dr l z).map λa=>(a.1,g a.2):=by
 unfold dr
 rw [Qb]
 rfl
theorem cb {l:List (Str×α)}{z:Str}{x:α}(h:look l z=some x):(z,x)∈l:=by
 unfold look at h
 rw [OE] at h
 obtain ⟨a,h1,h2⟩:=h
 have h3:=List.find?_some h1
 have h4:=List.mem_of_find?_eq_some h1
 simp only [ND] at h3
 rw [<- h3,<- h2];exact h4
theorem cA {l:List (Str×α)}(hn:(l.map (·.1)).Nodup){a:Str×α}(h:a∈l):look l a.1=some a.2:=by
 induction l with
 |nil=>cases h
 |cons b l ih =>
  rw [NF,Ov] at hn
  unfold look
  rw [Oy]
  rcases NR.mp h with rfl|h
  ·simp
  ·rw [NS (λe=>hn.1 (by rw [e];exact N0 h))]
   exact ih hn.2 h
theorem bK {l:List (Str×α)}{z:Str}:look l z=none ↔ z∉l.map (·.1):=by
 unfold look
 rw [Option.map_eq_none_iff,List.find?_eq_none]
 constructor
 ·intro h hm
  obtain ⟨a,ha,e⟩:=NI.mp hm
  exact h a ha (by simp [e])
 ·intro h a ha e
  exact h (by rw [<- Om e];exact N0 ha)
theorem ii {l:List (Str×α)}{z:Str}(x:α) (h:z∉l.map (·.1)):pu l z x=l++[(z,x)]:=by
 unfold pu
 rw [NB]
 intro e
 rw [Rm] at e
 obtain ⟨a,ha,e⟩:=e
 exact h (by rw [<- Om e];exact N0 ha)
theorem qd {l:List (Str×α)}{z:Str}(x:α) (h:z∈l.map (·.1)):(pu l z x).map (·.1)=l.map (·.1):=by
 unfold pu
 rw [NC (by
  obtain ⟨a,ha,e⟩:=NI.mp h
  exact Rm.mpr ⟨a,ha,by simp [e]⟩),NV]
 refine N8 λa _=>?_
 by_cases e:a.1=z<;>simp [e]
theorem Az (l:List (Str×α)) (z:Str):(dr l z).map (·.1)=(l.map (·.1)).filter λy=>decide (y≠z):=by
 unfold dr
 rw [Qb];rfl
theorem lH {l:List (Str×α)}{z:Str}{x:α}{a:Str×α}(h:a∈pu l z x):a∈l\/a=(z,x):=by
 unfold pu at h
 split at h
 ·obtain ⟨b,hb,e⟩:=NI.mp h
  by_cases q:b.1=z
  ·rw [NC q] at e;exact .inr (by rw [<- e,q])
  ·rw [NB q] at e;exact .inl (e ▸ hb)
 ·rcases NL.mp h with h|h
  ·exact .inl h
  ·exact .inr (N1.mp h)
theorem lJ (f:α->T) (l:List (Str×α)):(kt f l).length=l.length:=by unfold kt;rw [Nz]
noncomputable def wrt (m:Int×Int) (now:Int):Int:=m.1 / 2 ^ (now - m.2).toNat
noncomputable def mkT (m:Int×Int):T:=.tup [.int m.1,.int m.2]
end As
namespace T2
open PySem L2
section
variable {K:Fg}{X:Cx}{S:Sto}{Q:T->Sto->Prop}{a b:Addr}{U:StT}
end
end T2
seal T2.QE T2.QT T2.QW T2.QA T2.QS T2.QSs T2.QG T2.QGs T2.QI T2.QTs T2.QO L2.PE L2.PT L2.PA L2.PS L2.PSs L2.PG L2.PGs L2.PI L2.PTs L2.PO L2.PW
namespace My
open PySem L2 T2
set_option genInjectivity false
set_option hygiene false
local macro_rules
 | `(tactic|nofun)=>`(tactic|exact ⟨rfl,rfl,rfl,by decide +kernel,rfl,by decide +kernel,by decide +kernel⟩)
local macro_rules
 | `(tactic|subst_eqs)=>`(tactic|simp only [Option.isSome_none,R3,Bool.true_xor,Od,Bool.not_false,Rc])
local macro_rules
 | `(tactic|and_intros)=>`(tactic|simp only [List.set_cons_zero,List.set_cons_succ])
local macro_rules
 |`(tactic| ac_rfl)=>`(tactic| (first|(with_reducible assumption)|with_reducible exact ax|exact (aq (by assumption)).trans (by assumption)|exact (aq (by assumption)).trans ax|exact (aq (Op (by assumption))).trans ax|exact (aq (Op (by assumption))).trans (by assumption)))
local macro_rules
 |`(tactic| infer_instance)=>`(tactic| (first|(with_reducible assumption)|decide|lia|((with_reducible apply Int.emod_nonneg);lia)|((with_reducible apply Int.emod_lt_of_pos);lia)|(simp only [Int.reduceToNat,Int.reducePow];lia)|(simp only [ON];lia)|(simp only [List.length_range,Nz];lia)))
local macro_rules
 |`(tactic| contradiction)=>`(tactic| (first|(simp only [Sk,ON,Tm.pY,Tm.gK,Tm.gL];lia)|(rw [Sk];lia)|(rw [Sk];decide)))
local macro_rules
 |`(tactic| ext)=>do
  let mut a<-`(tactic| ((with_reducible apply GJ (n:=0));((first|decide|(simp only [NU,OI];decide)))))
  let q:=#[<-`(tactic| (skip)),<-`(tactic| ((decide))),<-`(tactic| (infer_instance)),<-`(tactic| (rfl)),<-`(tactic| (first|exact T.ss|exact T.ib|exact T.nb)),<-`(tactic| ((with_reducible assumption))),<-`(tactic| (intro r o' hr0 hr1 hbx)),<-`(tactic| (ac_rfl)),<-`(tactic| (intro z o' hzw hbx)),<-`(tactic| (intro q ob hq0 hbx)),<-`(tactic| (intro z)),<-`(tactic| ((simp only [NU,OI];decide))),<-`(tactic| ((try and_intros))),<-`(tactic| (((try and_intros);rfl))),<-`(tactic| (decide)),<-`(tactic| (first|exact .inl ⟨by first|lia|decide,by first|lia|decide⟩|exact .inr ⟨by first|lia|decide,by first|lia|decide⟩)),<-`(tactic| (intro z hz ez)),<-`(tactic| (contradiction)),<-`(tactic| (intro d hd ed))]
  let mut e:=a
  for x in ".7 EU .17.2.2.18 CG .7.2.2.16 Cw .7 zZ CI .2.2 EX .14.2 zV .17 zY Cz EN Cs .2 EE .2.2.16 EQ .15 Cu .14.14.14 ED .2.2 EB .2 EC .7.3.11.13 Cy .3.11.13 zR .7.3 EL .3 mh mf GG .12.3 me .3 i_V .7.3.3 CY Fv .7.3.11 rh .7.3.3 Ap .7.11 yk .7 tV Fy .2 yw i_part AD Dl .2.10 Dk .9 FH .2.2.7.5.6 Dj .2.2.5.6 AC .5.8 AB .7.5.6 AA .5.6 yv .7.5.6 i_times .5.6 i_timesP .3.4 mi .1.2 rm .0 yu Di FF FG g_r0 g_w0 C2 GY GV qe i_bitl Cv GL GK ifF ifT EV ET xY CF CC CA CB EO su EW GI EK EJ EI EH EG EF iA Cr EA qL GH Cq zQ".splitOn " " do
   if x.startsWith "." then
    e<-`(tactic| skip)
    for i in x.splitOn "." do if i≠"" then e<-`(tactic| ($e:tactic;$(q[i.toNat!]!)))
   else a<-`(tactic| first|((with_reducible apply $(Lean.mkIdent x.toName));$e:tactic)|$a:tactic)
  `(tactic| repeat $a:tactic)
local macro_rules
 |`(tactic| ac_nf)=>`(tactic| (subst hu;simp only [cB,NF,Pr,NU,OI,List.replicate,Rj,Qa,OT,Nat.reduceAdd,Nat.reduceSub]))
local macro_rules
 |`(tactic| exfalso)=>`(tactic| (ext;repeat' ((with_reducible refine ifB ?_ ?_)<;>(intro hb;(try simp only [Od,Bool.true_xor,Qg,Bool.not_eq_false',Su,Bool.not_eq_false,Bool.not_not,ND,OW,Int.not_lt,Int.not_le,Rc,Bool.not_false] at hb);ext))))
local macro_rules
 |`(tactic| left)=>`(tactic| (cases d<;>first|exact ⟨_,_,rfl⟩|exact ⟨_,rfl⟩|rfl|exact absurd h (by dsimp only [kd];decide +kernel)))
local macro_rules
 |`(tactic| exists $x)=>`(tactic| ((first|refine dI F $x (λts S Q h=>?_) λcdv A outer s H E hr=>?_|refine Ao F $x (λts S Q h=>?_) λcdv A outer s H E hr=>?_|refine ok_defR F $x (λts S Q h=>?_) λcdv A outer s H E hr=>?_|refine ok_defR (T2.Fun.toD F) $x (λts S Q h=>?_) λcdv A outer s H E hr=>?_);(focus (cases h;subst_vars;rfl));have nd:=($x).nd))
local macro_rules
 |`(tactic| symm)=>`(tactic| ((with_reducible apply i_hide);intro X hr))
local macro_rules
 |`(tactic| right)=>`(tactic| refine ifK (λk=>?_) λ_=>?_)
local macro_rules
 |`(!$n:num)=>`(Txt K mg)
local macro_rules
 |`(!$a:str $m)=>`(Fun K $a $a $m f fd)
local macro_rules
 |`(!$a:str $b:str $m)=>`(FunD K $a $b $m f fd)
local macro_rules
 |`(!$n:num $a $b $c $d)=>`(FnO P w K mg base $n $a $b $c $d)
set_option hygiene true
open Rk S6 As
def C:Addr:=274
abbrev vv0:List Str:=["_law_box_here","_law_many"]
abbrev vv1:List Str:=["_law_word_here","_law_worth"]
abbrev vv2:List Str:=["self","word"]
abbrev vv3:List Str:=["self","beginning"]
abbrev vv4:List Str:=["_law_one","_law_worth","_law_uses","_law_word_here"]
abbrev vv5:List Str:=["self","beginning","many"]
abbrev vv6:List Str:=["wood","beginning","word","many"]
abbrev vv7:List Str:=["_law_box_here","_law_woods"]
abbrev vv8:List Str:=["_law_woods","_law_word_here","_law_text","_law_many"]
abbrev vv9:List Str:=["self"]
abbrev iT:List Str:=["_law_rows","_law_word_here","_law_text","_law_many"]
abbrev vv11:List Str:=["mark","era"]
abbrev c6:List Str:=["self","word","count"]
abbrev dZ:List Str:=["wood","beginning","word"]
abbrev du:List Str:=["last","text","rated"]
abbrev fj:List Str:=["_law_box_here","_law_words"]
abbrev cK:List Str:=["_law_box_here"]
abbrev cw:List Str:=["one","other"]
abbrev iU:List Str:=["_law_wood","_law_text","_law_many"]
abbrev vv19:List Str:=["_law_one","_law_worth","_law_word_here"]
abbrev gv:List Str:=["_law_script","_law_k"]
abbrev gw:List Str:=["self","word","times"]
abbrev gx:List Str:=["text","most_figures"]
abbrev d0:List Str:=["self","times"]
abbrev d4:List Str:=["rated","many"]
abbrev gy:List Str:=["mark","era","times"]
abbrev vv26:List Str:=["word","mark","self","beginning"]
abbrev fq:List Str:=["text","rated"]
abbrev vv28:List Str:=["word","mark","beginning"]
abbrev gz:List Str:=["rated","eras"]
structure Txt (K:PySem.W.Frag) (mg:Str->Option Value):Prop where
 len:mg "len"=none
 range:mg "range"=none
 all:mg "all"=none
 max:mg "max"=none
 min:mg "min"=none
 sorted:mg "sorted"=none
 isinstance:mg "isinstance"=none
 int:mg "int"=none
 str:mg "str"=none
 list:mg "list"=none
 enumerate:mg "enumerate"=none
 bool:mg "bool"=none
 ss:PySem.W.kitOne K (.type "str") (.type "str")=some true
 ib:PySem.W.kitOne K (.type "int") (.type "bool")=some false
 nb:PySem.W.kitOne K (.type "NoneType") (.type "bool")=some false
 c_MOST_SIGNS:∃ tk,mg "MOST_SIGNS"=some (.int 24 tk)
 c_MOST_PARTS:∃ tk,mg "MOST_PARTS"=some (.int 4 tk)
 c_MOST_LETTERS:∃ tk,mg "MOST_LETTERS"=some (.int 12 tk)
 c_MOST_FIGURES:∃ tk,mg "MOST_FIGURES"=some (.int 15 tk)
 mg_Wood:mg "Wood"=some (.ref C)
 cl:Cls K C
 nm:bp K C "marks"
 nn:bp K C "now"
section
variable {P:Program}{w:World}{K:PySem.W.Frag}{mg:Str->Option Value}{base:Heap}
theorem Txt.gm (T:!0):∀ c,c=C->Cls K c/\bp K c "marks":=λc e=>by subst e;exact ⟨T.cl,T.nm⟩
theorem Txt.gn (T:!0):∀ c,c=C->Cls K c/\bp K c "now":=λc e=>by subst e;exact ⟨T.cl,T.nn⟩
theorem Txt.gf (T:!0){m:Str}{f:Addr}(h:Meth K C m f):∀ c,c=C->Cls K c/\Meth K c m f:=λc e=>by subst e;exact ⟨T.cl,h⟩
def aE (o:O):Prop:=∃ a b c d:Int,o=.lst [.int a,.int b,.int c,.int d]
inductive cf (ts:List T2.T) (S:Sto) (Q:T2.T->Sto->Prop):Prop
 |mk:∀ p m o,ts=[.ref p,.int m]->0<m->m<18446744073709551616->S p=some o->aE o->(∀ r o',0<=r->r<m->aE o'->Q (.int r) (put S p o'))->cf ts S Q
theorem Dj {S:Sto}{Q:T->Sto->Prop}{p:Addr}{m:Int}{o:O}(h1:0<m) (h2:m<18446744073709551616) (e:S p=some o) (f:aE o) (h:∀ r o',0<=r->r<m->aE o'->Q (.int r) (put S p o')) :
  cf ([.ref p,.int m]++[]) S Q:=⟨p,m,o,rfl,h1,h2,e,f,h⟩
theorem AC {S:Sto}{Q:T->Sto->Prop}{p:Addr}{m:Int}{o:O}(h1:0<m) (h2:m<18446744073709551616) (f:aE o) (h:∀ r o',0<=r->r<m->aE o'->Q (.int r) (put S p o')) :
  cf ([.ref p,.int m]++[]) (put S p o) Q:=⟨p,m,o,rfl,h1,h2,ax,f,λr o' a b c=>by rw [b5];exact h r o' a b c⟩
theorem u9:FnScope ["_law_box_here","_law_many","_law_found"] vv0 (am jF):=by nofun
theorem AE (F:!"_law_take" jF):!1 f fd vv0 cf:=by
 exists u9
 refine ⟨_,((ai (df (aC (ba false) (ap (aa 0) af) af) (dt (aa 0) af (eE 2))) (ai (aB (aR (cT (bd hr (ap (aa 0) af) af) (cR (oA b9 b9 (fY af) (ap (aa 0) af) af)))) (ai (df (ap (aa 0) af) (dt (aa 0) af (eE 0))) (ag (df af (dt (aa 0) af (eE 1))))) aD) (ai (aB (bd hr (ap (aa 0) af) af) (ai (aA 2 nd (aC eK (ap (aa 0) af) (aa 1))) (ai (df (aC iz (ap (aa 0) af) (aa 1)) (dt (aa 0) af (eE 0))) (ag (ao (aa 2))))) aD) (ai (df (aC eK (aC (ba false) (aC (ba false) (aC (fX false) (aC eK (ap (aa 0) af) af) af) (aC (fX false) af (ap (aa 0) af))) af) af) (dt (aa 0) af (eE 0))) (ag (ao (aC eK (aC iz (aC eK (aC (fX false) (ap (aa 0) af) af) af) af) (aa 1))))))))),aw λv hu ts S Q h=>?_⟩
 obtain ⟨p,m,o,rfl,h1,h2,hp,⟨a,b,c,d,rfl⟩,hq⟩:=h
 ac_nf
 refine aV (λHD S'=>HD=[some (.ref p),some (.int m),none]/\S'=put S p (.lst [.int a,.int b,.int (c+1),.int d])) ?_ ?_
 ·intro X hX
  ext
  exact hX _ _ ⟨rfl,rfl⟩
 rintro HD S' ⟨rfl,rfl⟩
 refine aV (λHD S'=>HD=[some (.ref p),some (.int m),none]/\∃ o',aE o'/\S'=put S p o') ?_ ?_
 ·intro X hX
  exfalso
  all_goals exact hX _ _ ⟨rfl,_,⟨_,_,_,_,rfl⟩,rfl⟩
 ·rintro HD S' ⟨rfl,o',⟨a,b,c,d,rfl⟩,rfl⟩
  exfalso
  all_goals exact .mk (hq _ _ (Int.emod_nonneg _ (by lia)) (Int.emod_lt_of_pos _ h1) ⟨_,_,_,_,rfl⟩)
inductive fU (ts:List T2.T) (S:Sto) (Q:T2.T->Sto->Prop):Prop
 |mk:∀ c:Int,ts=[.int c]->(∀ p o,S p=none->aE o->Q (.ref p) (put S p o))->fU ts S Q
theorem FH {S:Sto}{Q:T->Sto->Prop}{c:Int}(h:∀ p o,S p=none->aE o->Q (.ref p) (put S p o)):fU ([.int c]++[]) S Q:=⟨c,rfl,h⟩
theorem vI:FnScope ["_law_cell"] ["_law_cell"] (am jP):=by nofun
theorem Dm (F:!"_law_box" jP):!1 f fd ["_law_cell"] fU:=by
 exists vI
 refine ⟨_,((ag (ao (dH (ac (aC iz (aa 0) af) (ac (aC eK (aa 0) af) (ac af (ac (aa 0) ae)))))))),aw λv hu ts S Q h=>?_⟩
 obtain ⟨c,rfl,hq⟩:=h
 ac_nf
 ext
 exact λp hp=>.mk (hq p _ hp ⟨_,_,_,_,rfl⟩)
inductive fO (ts:List T2.T) (S:Sto) (Q:T2.T->Sto->Prop):Prop
 |mk:∀ (ns:List Int) (k:Int),ts=[.scr ns,.int k]->0<=k->(∀ z:Int,Q (.int z) S)->fO ts S Q
theorem Dk {S:Sto}{Q:T->Sto->Prop}{ns:List Int}{k:Int}(h0:0<=k) (h:∀ z:Int,Q (.int z) S):fO ([.scr ns,.int k]++[]) S Q:=⟨ns,k,rfl,h0,h⟩
theorem uh:FnScope gv gv (am jc):=by nofun
theorem AF (F:!"_law_cell_at" jc) (T:!0):!1 f fd gv fO:=by
 exists uh
 refine ⟨_,((ai (aB (aI cZ (aa 1) (aL (bf rfl) T.len Oj (ac (aa 0) ae))) (ag (ao (ap (aa 0) (aa 1)))) aD) (ag (ao af)))),aw λv hu ts S Q h=>?_⟩
 obtain ⟨ns,k,rfl,h0,hq⟩:=h
 ac_nf
 exfalso
 ·refine ER h0 hb λz _ _=>?_
  ext
  exact .mk (hq _)
 ·exact .mk (hq _)
inductive spLetter (ts:List T2.T) (S:Sto) (Q:T2.T->Sto->Prop):Prop
 |mk:∀ c:Nat,ts=[.str ⟨#[c]⟩]->Q (.bl (Sc.isL c)) S->spLetter ts S Q
theorem yu {S:Sto}{Q:T->Sto->Prop}{c:Nat}(h:Q (.bl (Sc.isL c)) S):spLetter ([.str ⟨#[c]⟩]++[]) S Q:=⟨c,rfl,h⟩
theorem uK:FnScope ["sign"] ["sign"] (am jj):=by nofun
theorem wX (F:!"is_letter" jj):!1 f fd ["sign"] spLetter:=by
 exists uK
 refine ⟨_,((ag (ao (kD b9 b9 aP (aa 0) aP)))),aw λv hu ts S Q h=>?_⟩
 obtain ⟨c,rfl,hq⟩:=h
 rw [<- Wm.C8] at hq
 ac_nf
 ext
 refine ifB (λhb=>?_) λhb=>?_
 ·ext
  rw [hb,OA] at hq
  exact .mk hq
 ·rw [hb,OH] at hq
  exact .mk hq
inductive spIsPart (ts:List T2.T) (S:Sto) (Q:T2.T->Sto->Prop):Prop
 |mk:∀ z:Str,ts=[.str z]->z.length<=1000->Q (.bl (Sc.isP (Tm.tl z))) S->spIsPart ts S Q
theorem yw {S:Sto}{Q:T->Sto->Prop}{z:Str}(h0:z.length<=1000) (h:Q (.bl (Sc.isP (Tm.tl z))) S):spIsPart ([.str z]++[]) S Q:=⟨z,rfl,h0,h⟩
theorem vJ:FnScope ["text"] ["text"] (am jN):=by nofun
theorem wY (F:!"is_part" jN) (T:!0) (KD:!1 f1 Ie ["sign"] spLetter) (KG:Df K mg "is_letter" f1 Ie ["sign"]) :
  !2 f fd ["text"] spIsPart:=by
 exists vJ
 refine ⟨_,((ag (ao (qA (kD b9 b9 af (aL (bf rfl) T.len Oj (ac (aa 0) ae)) (ie (n:=12) (by rfl) T.c_MOST_LETTERS)) (sf (aL (l8 rfl rfl) T.all Rx (ac (bS false ["sign"] 1 [] rfl (qG (aa 0)) (λ_ _ _ _=>(av 0 (show List.Nodup (["sign"]:List Str) from by decide +kernel))) (λ_ _ _ _=>bH) (λ_ _ _ _=>(al KD KG hr.m (ac (aa 0) ae)))) ae))))))),aw λv hu ts S Q h=>?_⟩
 obtain ⟨z,rfl,hz,hq⟩:=h
 have e:Sc.isP (Tm.tl z)=(decide (1<=(z.length:Int))&&decide ((z.length:Int)<=12)&&(Tm.tl z).all Sc.isL):=by
  unfold Sc.isP
  rw [Tm.len]
  congr 1
  congr 1
  ·rw [N7];simp only [ND];lia
  ·rw [N7];simp only [ND];lia
 rw [e] at hq
 ac_nf
 ext
 refine ifB (λhb=>?_) λhb=>?_
 ·rw [hb,OA] at hq
  ext
  refine ifB (λhb=>?_) λhb=>?_
  ·rw [hb,OA] at hq
   ext
   refine cM (ls:=Tm.tl z) (λc=>T2.T.str ⟨#[c]⟩) (λc=>some (.bl (Sc.isL c))) [] ?_ ?_ (λx hx u HI N HN hN=>?_) ?_
   ·trivial
   ·rw [Tm.len,N3];lia
   ·ext
    exact ⟨HN,hN _⟩
   ·ext
    refine lf (bs:=(Tm.tl z).map Sc.isL) (by rw [<- Wm.all_map,NV];rw [Wm.bM];rfl) ?_
    rw [List.all_map]
    exact .mk hq
  ·rw [hb,OH] at hq
   exact .mk hq
 ·rw [hb,OH,OH] at hq
  ext
  exact .mk hq
inductive spIsWord (ts:List T2.T) (S:Sto) (Q:T2.T->Sto->Prop):Prop
 |mk:∀ z:Str,ts=[.str z]->z.length<=1000->Q (.bl (Wm.Wd z)) S->spIsWord ts S Q
theorem vK:FnScope ["thing","parts"] ["thing"] (am jO):=by nofun
theorem wZ (F:!"is_word" jO) (T:!0) (LF:!2 f1 Ie ["text"] spIsPart) (LG:Df K mg "is_part" f1 Ie ["text"]) :
  !3 f fd ["thing"] spIsWord:=by
 exists vK
 refine ⟨_,((ai (aB (aR (bn (ci (aW (aL (l7 rfl) T.isinstance Ql (ac (aa 0) (ac (mR (n:="str") (by rfl) T.str PyProof.Rows.boot_str) ae))))) (bq (aI e8 (aL (bf rfl) T.len Oj (ac (aa 0) ae)) (ie (n:=24) (by rfl) T.c_MOST_SIGNS))))) (ag (ao bA)) aD) (ai (aA 1 nd (bC Ox PySem.F.slot_str_split PySem.F.type_str_split (pJ false) (aa 0) (ac aP ae))) (ag (ao (qA (c8 b9 (aL (bf rfl) T.len Oj (ac (aa 1) ae)) (ie (n:=4) (by rfl) T.c_MOST_PARTS)) (sf (aL (l8 rfl rfl) T.all Rx (ac (bS false ["part"] 1 [] rfl (aS rfl (aa 1)) (λ_ _ _ _=>(av 0 (show List.Nodup (["part"]:List Str) from by decide +kernel))) (λ_ _ _ _=>bH) (λ_ _ _ _=>(al LF LG hr.m (ac (aa 0) ae)))) ae))))))))),aw λv hu ts S Q h=>?_⟩
 obtain ⟨z,rfl,hz,hq⟩:=h
 ac_nf
 ·unfold Wm.Wd at hq
  ext
  refine ifB (λhb=>?_) λhb=>?_
  ·ext
   have hb:=Om hb
   rw [NS (by lia),OH] at hq
   exact .mk hq
  ·have hb:=OD hb
   rw [NK (by lia),OA,Wm.nB] at hq
   have hsl:=Ro z " "
   ext
   refine ifB (λhb=>?_) λhb=>?_
   ·have hb:=Om hb
    rw [NK (by lia),OA] at hq
    ext
    refine cM (ls:=Txt.split z " ") T2.T.str (λp=>some (.bl (Sc.isP (Tm.tl p)))) [] ?_ ?_ (λx hx u HI N HN hN=>?_) ?_
    ·trivial
    ·rw [N3];lia
    ·have hxl:=Tm.n4 hx
     ext
     exact ⟨HN,hN _⟩
    ·ext
     refine lf (bs:=(Txt.split z " ").map λp=>Sc.isP (Tm.tl p)) (by rw [<- Wm.all_map,NV];rw [Wm.bM];rfl) ?_
     rw [List.all_map]
     exact .mk hq
   ·have hb:=OD hb
    rw [NS (by lia),OH] at hq
    exact .mk hq
inductive cN (ts:List T2.T) (S:Sto) (Q:T2.T->Sto->Prop):Prop
 |mk:∀ (m:Int×Int) (Jq:Int),ts=[mkT m,.int Jq]->m.2<=Jq->Q (.int (wrt m Jq)) S->cN ts S Q
theorem AD {S:Sto}{Q:T->Sto->Prop}{m:Int×Int}{Jq:Int}(h0:m.2<=Jq) (h:Q (.int (wrt m Jq)) S):cN ([mkT m,.int Jq]++[]) S Q:=⟨m,Jq,rfl,h0,h⟩
theorem va:FnScope vv11 vv11 (am jz):=by nofun
theorem yx (F:!"worth_at" jz):!1 f fd vv11 cN:=by
 exists va
 refine ⟨_,((ag (ao (aC Es (ap (aa 0) af) (aC iy (aa 1) (ap (aa 0) af)))))),aw λv hu ts S Q h=>?_⟩
 obtain ⟨m,Jq,rfl,h0,hq⟩:=h
 ac_nf
 unfold mkT
 ext
 exact .mk hq
inductive fP (ts:List T2.T) (S:Sto) (Q:T2.T->Sto->Prop):Prop
 |mk:∀ (m:Int×Int) (Jq n:Int),ts=[mkT m,.int Jq,.int n]->m.2<=Jq->Q (mkT (wrt m Jq+n,Jq)) S->fP ts S Q
theorem Dl {S:Sto}{Q:T->Sto->Prop}{m:Int×Int}{Jq n:Int}(h0:m.2<=Jq) (h:Q (mkT (wrt m Jq+n,Jq)) S):fP ([mkT m,.int Jq,.int n]++[]) S Q:=⟨m,Jq,n,rfl,h0,h⟩
theorem uL:FnScope gy gy (am jl):=by nofun
theorem AG (F:!"used_mark" jl) (HQ:!1 f1 Ie vv11 cN) (HR:Df K mg "worth_at" f1 Ie vv11):!2 f fd gy fP:=by
 exists uL
 refine ⟨_,((ag (ao (bO (ac (aC (ba false) (al HQ HR hr.m (ac (aa 0) (ac (aa 1) ae))) (aa 2)) (ac (aa 1) ae)))))),aw λv hu ts S Q h=>?_⟩
 obtain ⟨m,Jq,n,rfl,h0,hq⟩:=h
 ac_nf
 ext
 exact .mk hq
abbrev Ms:=List (Str×Int×Int)
structure Wo (C:Addr) (S:Sto) (p d:Addr) (n:Int) (ms:Ms):Prop where
 ins:S p=some (.ins C [("marks",.ref d),("now",.int n)])
 dct:S d=some (.dK (kt mkT ms))
theorem Wo.ne {S:Sto}{p d:Addr}{n:Int}{ms:Ms}(h:Wo C S p d n ms):p≠d:=λe=>by
 have:=h.ins
 rw [e,h.dct] at this;cases this
theorem Wo.other {S:Sto}{p d a:Addr}{n:Int}{ms:Ms}{o:O}(h:Wo C S p d n ms) (h1:a≠p) (h2:a≠d):Wo C (T2.put S a o) p d n ms:=⟨(aq (Op h1)).trans h.ins,(aq (Op h2)).trans h.dct⟩
inductive spInit (C:Addr) (ts:List T2.T) (S:Sto) (Q:T2.T->Sto->Prop):Prop
 |mk:∀ p,ts=[.ref p]->S p=some (.ins C [])->(∀ d,S d=none->Q .non (put (put S d (.dK [])) p (.ins C [("marks",.ref d),("now",.int 0)])))->spInit C ts S Q
theorem uM:FnScope vv9 vv9 (am jo):=by nofun
theorem AH (F:!"__init__" "Wood.__init__" jo) (T:!0):!1 f fd vv9 (spInit C):=by
 exists uM
 refine ⟨_,((ai (qC rfl T.gm (aa 0) rg) (ag (qC rfl T.gn (aa 0) af)))),aw λv hu ts S Q h=>?_⟩
 obtain ⟨p,rfl,hp,hq⟩:=h
 ac_nf
 ext
 intro d hd
 have Jc:p≠d:=λe=>by rw [e,hd] at hp;cases hp
 ext
 refine rh ax rfl (Ry rfl) ?_
 rw [b5]
 exact .mk (hq d hd)
inductive spMark (C:Addr) (ts:List T2.T) (S:Sto) (Q:T2.T->Sto->Prop):Prop
 |mk:∀ p d n ms z m,ts=[.ref p,.str z]->Wo C S p d n ms->look ms z=some m->Q (mkT m) S->spMark C ts S Q
theorem lK {S:Sto}{Q:T->Sto->Prop}{p d:Addr}{n:Int}{ms:Ms}{z:Str}{m:Int×Int}(h1:Wo C S p d n ms) (h2:look ms z=some m) (h:Q (mkT m) S):spMark C ([.ref p,.str z]++[]) S Q:=⟨p,d,n,ms,z,m,rfl,h1,h2,h⟩
theorem ub:FnScope vv2 vv2 (am i3):=by nofun
theorem AI (F:!"mark_of" "Wood.mark_of" i3) (T:!0):!1 f fd vv2 (spMark C):=by
 exists ub
 refine ⟨_,((ai (aB (aI (yj w rfl) (aa 1) (bJ T.gm (aa 0)) (by with_unfolding_all rfl)) (ag d7) aD) (ag (ao (GX w (bJ T.gm (aa 0)) (aa 1)))))),aw λv hu ts S Q h=>?_⟩
 obtain ⟨p,d,n,ms,z,m,rfl,⟨hw,hd⟩,hm,hq⟩:=h
 have hv:aY (kt mkT ms) (Sum.inr z)=some (mkT m):=by rw [dJ,hm];rfl
 ac_nf
 ext
 refine mD hd rfl ?_
 rw [hv]
 subst_eqs
 ext
 refine Fw hd rfl hv ?_
 exact .mk hq
inductive spPut (C:Addr) (ts:List T2.T) (S:Sto) (Q:T2.T->Sto->Prop):Prop
 |mk:∀ p d n ms z c,ts=[.ref p,.str z,.int c]->Wo C S p d n ms->ms.length<=300->Wm.Wd z=true->look ms z=none->Q .non (put S d (.dK (kt mkT (ms++[(z,c,n)]))))->spPut C ts S Q
theorem vc:FnScope c6 c6 (am jA):=by nofun
theorem Do (F:!"put" "Wood.put" jA) (T:!0) (JA:!3 f1 Ie ["thing"] spIsWord) (JB:Df K mg "is_word" f1 Ie ["thing"]):!4 f fd c6 (spPut C):=by
 exists vc
 refine ⟨_,((ai (aB (ci (aW (al JA JB hr.m (ac (aa 1) ae)))) (ag d7) aD) (ai (aB (aI (sK w rfl) (aa 1) (bJ T.gm (aa 0)) (by with_unfolding_all rfl)) (ag d7) aD) (ag (df (bO (ac (aa 2) (ac (bJ T.gn (aa 0)) ae))) (dt (bJ T.gm (aa 0)) (aa 1) (re (r9 hr)))))))),aw λv hu ts S Q h=>?_⟩
 obtain ⟨p,d,n,ms,z,c,rfl,⟨hw,hd⟩,hl,hz,hm,hq⟩:=h
 have hv:aY (kt mkT ms) (Sum.inr z)=none:=by rw [dJ,hm];rfl
 have hzl:=Wm.cD hz
 ac_nf
 ext
 refine ⟨z,rfl,by lia,?_⟩
 rw [hz]
 ext
 refine mD hd rfl ?_
 rw [hv]
 subst_eqs
 ext
 refine rj hd rfl (by rw [lJ,N3];lia) ?_
 rw [show (T2.T.tup [.int c,.int n])=mkT (c,n) from rfl,lF,ii _ (bK.mp hm)]
 exact .mk hq
inductive spUse (C:Addr) (ts:List T2.T) (S:Sto) (Q:T2.T->Sto->Prop):Prop
 |mk:∀ p d n ms z c m,ts=[.ref p,.str z,.int c]->Wo C S p d n ms->ms.length<=300->look ms z=some m->m.2<=n->Q .non (put S d (.dK (kt mkT (pu ms z (wrt m n+c,n)))))->spUse C ts S Q
theorem vd:FnScope gw gw (am jB):=by nofun
theorem Dp (F:!"use" "Wood.use" jB) (T:!0) (KH:!2 f1 Ie gy fP) (KI:Df K mg "used_mark" f1 Ie gy)
  (Ia:!1 f2 IW vv2 (spMark C)) (Ib:Meth K C "mark_of" f2) (Ic:ay K IW vv2 []):!3 f fd gw (spUse C):=by
 exists vd
 refine ⟨_,((ag (df (al KH KI hr.m (ac (aU (T.gf Ib) Ia Ic hr.m (aa 0) (ac (aa 1) ae)) (ac (bJ T.gn (aa 0)) (ac (aa 2) ae)))) (dt (bJ T.gm (aa 0)) (aa 1) (re (r9 hr)))))),aw λv hu ts S Q h=>?_⟩
 obtain ⟨p,d,n,ms,z,c,m,rfl,⟨hw,hd⟩,hl,hm,hn,hq⟩:=h
 ac_nf
 ext
 refine lK ⟨hw,hd⟩ hm ?_
 ext
 refine rj hd rfl (by rw [lJ,N3];lia) ?_
 rw [lF]
 exact .mk hq
inductive spStrike (C:Addr) (ts:List T2.T) (S:Sto) (Q:T2.T->Sto->Prop):Prop
 |mk:∀ p d n ms z m,ts=[.ref p,.str z]->Wo C S p d n ms->look ms z=some m->Q .non (put S d (.dK (kt mkT (dr ms z))))->spStrike C ts S Q
theorem ui:FnScope vv2 vv2 (am i9):=by nofun
theorem w5 (F:!"strike" "Wood.strike" i9) (T:!0)
  (Ia:!1 f2 IW vv2 (spMark C)) (Ib:Meth K C "mark_of" f2) (Ic:ay K IW vv2 []):!2 f fd vv2 (spStrike C):=by
 exists ui
 refine ⟨_,((ai (bN (aU (T.gf Ib) Ia Ic hr.m (aa 0) (ac (aa 1) ae))) (ag (bN (bC Q6 PySem.F.slot_dict_pop PySem.F.type_dict_pop CV (bJ T.gm (aa 0)) (ac (aa 1) ae)))))),aw λv hu ts S Q h=>?_⟩
 obtain ⟨p,d,n,ms,z,m,rfl,⟨hw,hd⟩,hm,hq⟩:=h
 have hv:aY (kt mkT ms) (Sum.inr z)=some (mkT m):=by rw [dJ,hm];rfl
 ac_nf
 ext
 refine lK ⟨hw,hd⟩ hm ?_
 ext
 refine C0 hd rfl hv ?_
 rw [Ay]
 exact .mk hq
inductive spFade (C:Addr) (ts:List T2.T) (S:Sto) (Q:T2.T->Sto->Prop):Prop
 |mk:∀ p d n ms c,ts=[.ref p,.int c]->Wo C S p d n ms->Q .non (put S p (.ins C [("marks",.ref d),("now",.int (n+c))]))->spFade C ts S Q
theorem uN:FnScope d0 d0 (am jp):=by nofun
theorem AJ (F:!"fade" "Wood.fade" jp) (T:!0):!1 f fd d0 (spFade C):=by
 exists uN
 refine ⟨_,((ag (wA rfl T.gn (aa 0) (aa 1)))),aw λv hu ts S Q h=>?_⟩
 obtain ⟨p,d,n,ms,c,rfl,⟨hw,hd⟩,hq⟩:=h
 ac_nf
 ext
 exact .mk hq
theorem kj {S:Sto}{a:Addr}{o:O}(h:S a=some o):put S a o=S:=by
 funext b
 by_cases e:b=a
 ·subst e;rw [ax,h]
 ·rw [aq e]
theorem bY {α:Type}{grd:Sto->Prop}{g:WG}{tt:WT}{te:WE}{Q:List T2.T->Sto->Prop}(f:α->T2.T) (φ:α->Option T2.T) (cs:StT){ls:List α}{S:Sto}(hg:grd S) (hz:ls.length<=sizeLine)
  (step:∀ a∈ls,∀ (u v:Option T2.T) (HI:List T2.T) (N:List T2.T->StT->Sto->Prop),HI.length<sizeLine->(∀ u' v',N (HI++(φ a).toList) (u'::v'::cs) S) ->
   g (f a) (u::v::cs) S λIM S2=>tt IM S2 λb S3=>if b=true then te IM S3 λy S4=>HI.length<sizeLine/\N (HI++[y]) IM S4 else N HI IM S3)
  (done:Q (ls.filterMap φ) S):c9 grd g tt te Q (ls.map f) [] (none::none::cs) S:=by
 refine jR (λitems HI HD S'=>∃ pre Lu u v,ls=pre++Lu/\items=Lu.map f/\HI=pre.filterMap φ/\HD=u::v::cs/\S'=S) ⟨[],ls,none,none,rfl,rfl,rfl,rfl,rfl⟩ ?_ ?_
 ·rintro t ts HI HD S' N ⟨pre,Lu,u,v,e,e2,rfl,rfl,rfl⟩ hN
  cases Lu with
  |nil=>cases e2
  |cons a r =>
   simp only [NF,Pc] at e2
   obtain ⟨rfl,rfl⟩:=e2
   refine ⟨hg,step a (by rw [e];simp) u v _ N ?_ λu' v'=>hN _ _ _ ⟨pre++[a],r,u',v',by rw [e];simp,rfl,?_,rfl,rfl⟩⟩
   ·have h1:=List.length_filterMap_le φ pre
    have h2:ls.length=pre.length+(r.length+1):=by rw [e];simp
    lia
   ·rw [List.filterMap_append];cases h:φ a<;>simp [h]
 ·rintro HI HD S' ⟨pre,Lu,u,v,e,e2,rfl,rfl,rfl⟩
  have:Lu=[]:=by cases Lu with|nil=>rfl|cons _ _=>cases e2
  subst this
  rw [N4] at e
  subst e
  exact ⟨hg,done⟩
def aZ (ms:Ms) (b:Str):Ms:=ms.filter λa=>PySem.Txt.startswith a.1 b
def rtd (ms:Ms) (n:Int) (b:Str):List Rt:=(aZ ms b).map λa=>(a.1,wrt a.2 n)
theorem lL {ms:Ms}{n:Int}{b:Str}(h:(ms.map (·.1)).Nodup):(rtd ms n b).Nodup:=by
 refine oZ ?_
 unfold rtd aZ
 rw [NV]
 exact (List.Sublist.map _ (QD)).nodup h
theorem fM (ms:Ms) (n:Int) (b:Str):(rtd ms n b).length<=ms.length:=by
 unfold rtd aZ
 rw [Nz];exact Pd _ _
inductive spBegun (C:Addr) (ts:List T2.T) (S:Sto) (Q:T2.T->Sto->Prop):Prop
 |mk:∀ p d n ms b,ts=[.ref p,.str b]->Wo C S p d n ms->ms.length<=300->(∀ a∈ms,a.2.2<=n)->Q (.lst ((rtd ms n b).map rt)) S->spBegun C ts S Q
theorem uB:FnScope vv3 vv3 (am jf):=by nofun
theorem yy (F:!"begun" "Wood.begun" jf) (T:!0) (HQ:!1 f1 Ie vv11 cN) (HR:Df K mg "worth_at" f1 Ie vv11):!2 f fd vv3 (spBegun C):=by
 exists uB
 refine ⟨_,((ag (ao (Ft w rfl (bS false vv26 2 [0,1] rfl (kL w rfl rfl (bJ T.gm (aa 0))) (λ_ _ _ _=>(bI (λh=>bF (n:=2) rfl rfl h) (aK (av 0 (show List.Nodup (vv26:List Str) from by decide +kernel)) (aK (av 1 (show List.Nodup (vv26:List Str) from by decide +kernel)) bG (λh1 h2=>aJ h1 h2)) (λh1 h2=>aJ h1 h2)))) (λ_ _ _ _=>(dC (aW (bC Ox Qo Qp jZ (aa 0) (ac (aa 3) ae))))) (λ_ _ _ _=>(bO (ac (aa 0) (ac (al HQ HR hr.m (ac (aa 1) (ac (bJ T.gn (aa 2)) ae))) ae))))))))),aw λv hu ts S Q h=>?_⟩
 obtain ⟨p,d,n,ms,b,rfl,W,hl,hn,hq⟩:=h
 have hw:=W.ins
 have hd:=W.dct
 have hpd:=W.ne
 ac_nf
 ext
 intro od kvs
 rw [show (kt mkT ms).map gg=ms.map (λa=>T2.T.tup [.str a.1,mkT a.2]) by unfold kt;rw [NV];rfl]
 refine bY (λa:Str×Int×Int=>T2.T.tup [.str a.1,mkT a.2]) (λa=>if PySem.Txt.startswith a.1 b=true then some (rt (a.1,wrt a.2 n)) else none) [some (.ref p),some (.str b)] ax (by rw [N3];lia) (λa ha u v HI N HN hN=>?_) ?_
 ·have hn1:=hn a ha
  ext
  refine ifB (λhb=>?_) λhb=>?_
  ·ext
   rw [NC hb] at hN
   exact ⟨HN,hN _ _⟩
  ·rw [hb] at hN
   have:=hN (some (.str a.1)) (some (mkT a.2))
   rw [NB (by decide),Qc,N4] at this
   exact this
 rw [show (ms.filterMap λa=>if PySem.Txt.startswith a.1 b=true then some (rt (a.1,wrt a.2 n)) else none)=(rtd ms n b).map rt by
  unfold rtd aZ
  clear hd hl hn hq W
  induction ms with
  |nil=>rfl
  |cons a l ih =>
   rw [O9,Ou]
   by_cases e:PySem.Txt.startswith a.1 b=true
   ·rw [NC e,NC e];simp only [NF,ih]
   ·rw [NB e,NB e];exact ih]
 ext
 refine mT ax ?_
 rw [b5,kj hd]
 exact .mk hq
inductive spHas (C:Addr) (ts:List T2.T) (S:Sto) (Q:T2.T->Sto->Prop):Prop
 |mk:∀ p d n ms z,ts=[.ref p,.str z]->Wo C S p d n ms->Q (.bl (look ms z).isSome) S->spHas C ts S Q
theorem ve:FnScope vv2 vv2 (am jD):=by nofun
theorem Dq (F:!"has" "Wood.has" jD) (T:!0):!1 f fd vv2 (spHas C):=by
 exists ve
 refine ⟨_,((ag (ao (c8 (sK w rfl) (aa 1) (bJ T.gm (aa 0)) (by with_unfolding_all rfl))))),aw λv hu ts S Q h=>?_⟩
 obtain ⟨p,d,n,ms,z,rfl,⟨hw,hd⟩,hq⟩:=h
 ac_nf
 ext
 refine mD hd rfl ?_
 rw [dJ,Option.isSome_map,Od]
 exact .mk hq
noncomputable def kyW (a:Rt):Ky:=.cons (.s a.1) (.cons (.i a.2) .nil)
noncomputable def unW:T2.T->Ky
 |.tup [.str z,.int i]=>.cons (.s z) (.cons (.i i) .nil)
 |_=>.nil
def cx (l:List Rt):Prop:=(l.map (·.1)).Pairwise λx y=>Ky.lt (.s y) (.s x)=false
theorem yz (ms:Ms) (n:Int):rtd ms n ""=ms.map λa=>(a.1,wrt a.2 n):=by
 unfold rtd aZ
 rw [List.filter_eq_self.mpr λa _=>?_]
 rw [Tm.ji]
 refine NK ?_
 have e:=Tm.dw a.1 0
 have:Tm.tl (PySem.Txt.slice a.1 none (some 0))=Tm.tl (Str.ofString ""):=by
  rw [show (some (0:Int))=some ((0:Nat):Int) from rfl,e];rfl
 cases h:PySem.Txt.slice a.1 none (some (((Str.ofString "").length:Nat):Int)) with
 |mk cps =>
  have h2:PySem.Txt.slice a.1 none (some 0)=⟨cps⟩:=h
  rw [h2] at this
  show (⟨cps⟩:Str)=⟨#[]⟩
  congr 1
  exact Pe.mp this
inductive spRank (ts:List T2.T) (S:Sto) (Q:T2.T->Sto->Prop):Prop
 |mk:∀ a:Rt,ts=[rt a]->Q (tre (ky a)) S->spRank ts S Q
theorem Di {S:Sto}{Q:T->Sto->Prop}{a:Rt}(h:Q (tre (ky a)) S):spRank ([rt a]++[]) S Q:=⟨a,rfl,h⟩
theorem vf:FnScope ["pair"] ["pair"] (am jx):=by nofun
theorem AK (F:!"rank_key" jx):!1 f fd ["pair"] spRank:=by
 exists vf
 refine ⟨_,((ag (ao (bO (ac (fY (ap (aa 0) af)) (ac (ap (aa 0) af) ae)))))),aw λv hu ts S Q h=>?_⟩
 obtain ⟨a,rfl,hq⟩:=h
 rw [Dd] at hq
 ac_nf
 unfold rt
 ext
 exact .mk hq
inductive spBest (ts:List T2.T) (S:Sto) (Q:T2.T->Sto->Prop):Prop
 |mk:∀ (x:T2.T) (l:List Rt) (m:Int),ts=[x,.int m]->az S x=some (l.map rt)->l.Nodup->0<=m->Q (.lst (((bst l).take m.toNat).map rt)) S->spBest ts S Q
theorem vL:FnScope d4 d4 (am jL):=by nofun
theorem AL (F:!"best_of" jL) (T:!0) (IP:!1 f1 Ie ["pair"] spRank) (IQ:Df K mg "rank_key" f1 Ie ["pair"]):!4 f fd d4 spBest:=by
 exists vL
 refine ⟨_,((ag (ao (cQ false rfl (Ah false rfl IP IQ hr.m (by rfl) T.sorted (by rfl) (ac (aa 0) ae)) cO (cP (aa 1)))))),aw λv hu ts S Q h=>?_⟩
 obtain ⟨x,l,m,rfl,hv,hn,hm,hq⟩:=h
 ac_nf
 ext
 refine Ai kyT (ky ("",0)) hv rfl (by decide) (λa ha=>⟨rfl,rfl,λS' Q' q=>⟨a,rfl,q⟩⟩) λl' p hs=>?_
 rw [wW hn p hs]
 ext
 rw [pN hm]
 exact .mk hq
inductive spGreat (ts:List T2.T) (S:Sto) (Q:T2.T->Sto->Prop):Prop
 |mk:∀ (l:List (Int×Int)) (Jq:Int),ts=[.lst (l.map mkT),.int Jq]->l.length<=1000->(∀ m∈l,m.2<=Jq)->((l=[]->Q .non S))->((l≠[]->∀ i,i∈l.map (wrt · Jq)->(∀ j∈l.map (wrt · Jq),j<=i)->Q (.int i) S))->spGreat ts S Q
theorem uj:FnScope ["marks","era"] ["marks","era"] (am i8):=by nofun
theorem yA (F:!"greatest_at" i8) (T:!0) (HQ:!1 f1 Ie vv11 cN) (HR:Df K mg "worth_at" f1 Ie vv11):!2 f fd ["marks","era"] spGreat:=by
 exists uj
 refine ⟨_,((ag (ao (Fu (CW rfl rfl) (by rfl) T.max Rz (ac (bS false vv11 1 [1] rfl (aS rfl (aa 0)) (λ_ _ _ _=>(av 0 (show List.Nodup (vv11:List Str) from by decide +kernel))) (λ_ _ _ _=>bH) (λ_ _ _ _=>(al HQ HR hr.m (ac (aa 0) (ac (aa 1) ae))))) ae) cS)))),aw λv hu ts S Q h=>?_⟩
 obtain ⟨l,Jq,rfl,hl,h0,hq0,hq1⟩:=h
 ac_nf
 ext
 refine cM mkT (λm=>some (.int (wrt m Jq))) [some (.int Jq)] trivial (by rw [N3];lia) (λm hm u HI N HN hN=>?_) ?_
 ·have:=h0 m hm
  ext
  exact ⟨HN,hN _⟩
 rw [show (l.filterMap λm=>some (T2.T.int (wrt m Jq)))=(l.map (wrt · Jq)).map T2.T.int by rw [Wm.bM,NV];rfl]
 ext
 refine CZ rfl (λh=>?_) λh m h1 h2=>?_
 ·exact .mk (hq0 (RN.mp h))
 ·exact .mk (hq1 (λe=>h (by rw [e];rfl)) m h1 h2)
inductive spTop (C:Addr) (ts:List T2.T) (S:Sto) (Q:T2.T->Sto->Prop):Prop
 |mk:∀ p d n ms b,ts=[.ref p,.str b]->Wo C S p d n ms->ms.length<=300->(∀ a∈ms,a.2.2<=n)->((aZ ms b=[]->Q .non S))->((aZ ms b≠[]->∀ i,i∈(aZ ms b).map (λa=>wrt a.2 n)->(∀ j∈(aZ ms b).map (λa=>wrt a.2 n),j<=i)->Q (.int i) S))->spTop C ts S Q
theorem uo:FnScope ["self","beginning","marks"] vv3 (am ja):=by nofun
theorem Ds (F:!"top_of" "Wood.top_of" ja) (T:!0) (Kc:!2 f1 Ie ["marks","era"] spGreat) (Ke:Df K mg "greatest_at" f1 Ie ["marks","era"]):!3 f fd vv3 (spTop C):=by
 exists uo
 refine ⟨_,((ai (sL w rfl (cL false (i:=2) vv28 2 [1] rfl nd rfl (Or.inl rfl) (kL w rfl rfl (bJ T.gm (aa 0))) (λ_ _ _ _=>(bI (λh=>bF (n:=2) rfl rfl h) (aK (av 0 (show List.Nodup (vv28:List Str) from by decide +kernel)) (aK (av 1 (show List.Nodup (vv28:List Str) from by decide +kernel)) bG (λh1 h2=>aJ h1 h2)) (λh1 h2=>aJ h1 h2)))) (λ_ _ _ _=>(dC (aW (bC Ox Qo Qp jZ (aa 0) (ac (aa 2) ae))))) (λ_ _ _ _=>(aa 1)))) (ag (ao (al Kc Ke hr.m (ac (aa 2) (ac (bJ T.gn (aa 0)) ae))))))),aw λv hu ts S Q h=>?_⟩
 obtain ⟨p,d,n,ms,b,rfl,⟨hw,hd⟩,hl,hn,hq0,hq1⟩:=h
 ac_nf
 ext
 intro od kvs
 rw [show (kt mkT ms).map gg=ms.map (λa=>T2.T.tup [.str a.1,mkT a.2]) by unfold kt;rw [NV];rfl]
 refine bY (λa:Str×Int×Int=>T2.T.tup [.str a.1,mkT a.2]) (λa=>if PySem.Txt.startswith a.1 b=true then some (mkT a.2) else none) [some (.str b)] ax (by rw [N3];lia) (λa ha u v HI N HN hN=>?_) ?_
 ·ext
  refine ifB (λhb=>?_) λhb=>?_
  ·ext
   rw [NC hb] at hN
   exact ⟨HN,hN _ _⟩
  ·rw [hb] at hN
   have:=hN (some (.str a.1)) (some (mkT a.2))
   rw [NB (by decide),Qc,N4] at this
   exact this
 rw [show (ms.filterMap λa=>if PySem.Txt.startswith a.1 b=true then some (mkT a.2) else none)=((aZ ms b).map (·.2)).map mkT by
  unfold aZ
  clear hd hl hn hq0 hq1
  induction ms with
  |nil=>rfl
  |cons a l ih =>
   rw [O9,Ou]
   by_cases e:PySem.Txt.startswith a.1 b=true
   ·rw [NC e,NC e];simp only [NF,ih]
   ·rw [NB e,NB e];exact ih]
 ext
 refine mT ax ?_
 rw [b5,kj hd]
 ext
 have Mz:∀ a∈aZ ms b,a∈ms:=λa ha=>(Oc.mp ha).1
 refine ⟨(aZ ms b).map (·.2),n,rfl,?_,?_,?_,?_⟩
 ·rw [Nz]
  have:=Pd (λa:Str×Int×Int=>PySem.Txt.startswith a.1 b) ms
  unfold aZ;lia
 ·intro m hm
  obtain ⟨a,ha,rfl⟩:=NI.mp hm
  exact hn a (Mz a ha)
 ·intro e
  exact .mk (hq0 (RN.mp e))
 ·intro e i h1 h2
  rw [NV] at h1 h2
  exact .mk (hq1 (λq=>e (by rw [q];rfl)) i h1 h2)
inductive spWWords (C:Addr) (ts:List T2.T) (S:Sto) (Q:T2.T->Sto->Prop):Prop
 |mk:∀ p d n ms,ts=[.ref p]->Wo C S p d n ms->ms.length<=300->(∀ a∈ms,a.2.2<=n)->(ms.map (·.1)).Nodup->(∀ a∈ms,Wm.Wd a.1=true)->(∀ l:List Rt,l.Perm (ms.map λa=>(a.1,wrt a.2 n))->cx l->Q (.lst (l.map rt)) S)->spWWords C ts S Q
theorem uC:FnScope vv9 vv9 (am jg):=by nofun
theorem w6 (F:!"words" "Wood.words" jg) (T:!0)
  (HS:!2 f2 IW vv3 (spBegun C)) (HU:Meth K C "begun" f2) (HV:ay K IW vv3 []):!4 f fd vv9 (spWWords C):=by
 exists uC
 refine ⟨_,((ag (ao (aL (p7 false rfl hr.m) T.sorted QU (ac (aU (T.gf HU) HS HV hr.m (aa 0) (ac aP ae)) ae))))),aw λv hu ts S Q h=>?_⟩
 obtain ⟨p,d,n,ms,rfl,W,hl,hn,JE,hwd,hq⟩:=h
 have hw:=W.ins
 ac_nf
 ext
 refine ⟨p,d,n,ms,_,rfl,W,by lia,hn,?_⟩
 rw [yz]
 ext
 refine p9 (ls:=ms.map λa=>(a.1,wrt a.2 n)) kyW unW (.cons (.s ⟨#[]⟩) (.cons (.i 0) .nil)) rfl (λa _=>rfl) rfl (Ry rfl) (λa ha=>⟨?_,rfl⟩) λl' hp hs=>?_
 ·obtain ⟨x,hx,rfl⟩:=NI.mp ha
  have:=Wm.eP (hwd x hx)
  simp [kyW,S6.Ky.ok,S6.Ky.ok.isRow,this]
 ·refine .mk (hq l' hp ?_)
  have Nd:(l'.map (·.1)).Nodup:=(hp.map _).nodup_iff.mpr (by rw [NV];exact JE)
  unfold cx
  unfold List.Nodup at Nd
  rw [PQ] at Nd ⊢
  refine (hs.and Nd).imp fun {x y} q=>?_
  have q1:Ky.lt (kyW y) (kyW x)=false:=q.1
  unfold kyW Ky.lt at q1
  rw [NB (λe=>q.2 (Ky.s.inj e).symm)] at q1
  exact q1
inductive spTold (C:Addr) (ts:List T2.T) (S:Sto) (Q:T2.T->Sto->Prop):Prop
 |mk:∀ p d n ms b m,ts=[.ref p,.str b,.int m]->Wo C S p d n ms->ms.length<=300->(∀ a∈ms,a.2.2<=n)->(ms.map (·.1)).Nodup->0<=m->Q (.lst (((bst (rtd ms n b)).take m.toNat).map rt)) S->spTold C ts S Q
theorem uO:FnScope vv5 vv5 (am jq):=by nofun
theorem AM (F:!"told" "Wood.told" jq) (T:!0)
  (HS:!2 f1 Ie vv3 (spBegun C)) (HU:Meth K C "begun" f1) (HV:ay K Ie vv3 [])
  (JC:!4 f2 IW d4 spBest) (JD:Df K mg "best_of" f2 IW d4):!5 f fd vv5 (spTold C):=by
 exists uO
 refine ⟨_,((ag (ao (al JC JD hr.m (ac (aU (T.gf HU) HS HV hr.m (aa 0) (ac (aa 1) ae)) (ac (aa 2) ae)))))),aw λv hu ts S Q h=>?_⟩
 obtain ⟨p,d,n,ms,b,m,rfl,W,hl,hn,JE,hm,hq⟩:=h
 have hw:=W.ins
 ac_nf
 ext
 refine ⟨p,d,n,ms,b,rfl,W,by lia,hn,?_⟩
 ext
 have Ik:=fM ms n b
 refine ⟨_,rtd ms n b,m,rfl,rfl,lL JE,hm,?_⟩
 exact .mk hq
inductive spEra (C:Addr) (ts:List T2.T) (S:Sto) (Q:T2.T->Sto->Prop):Prop
 |mk:∀ p d n,ts=[.ref p]->S p=some (.ins C [("marks",.ref d),("now",.int n)])->Q (.int n) S->spEra C ts S Q
theorem vg:FnScope vv9 vv9 (am jC):=by nofun
theorem Du (F:!"era" "Wood.era" jC) (T:!0):!1 f fd vv9 (spEra C):=by
 exists vg
 refine ⟨_,((ag (ao (bJ T.gn (aa 0))))),aw λv hu ts S Q h=>?_⟩
 obtain ⟨p,d,n,rfl,hw,hq⟩:=h
 ac_nf
 ext
 exact .mk hq
inductive spWord (ts:List T2.T) (S:Sto) (Q:T2.T->Sto->Prop):Prop
 |mk:∀ p o,ts=[.ref p]->S p=some o->aE o->(∀ z o',Wm.Wd z=true->aE o'->Q (.str z) (put S p o'))->spWord ts S Q
theorem AB {S:Sto}{Q:T->Sto->Prop}{p:Addr}{o:O}(f:aE o) (h:∀ z o',Wm.Wd z=true->aE o'->Q (.str z) (put S p o')):spWord ([.ref p]++[]) (put S p o) Q :=
 ⟨p,o,rfl,ax,f,λz o' a b=>by rw [b5];exact h z o' a b⟩
theorem AN {y:Str}(h:Sc.isP (Tm.tl y)=true):y.length<=12:=by
 unfold Sc.isP at h
 simp only [NA,ND] at h
 rw [<- Tm.len];lia
theorem vh:FnScope ["_law_box_here","_law_letters","_law_parts","_law_k","_law_size"] cK (am jG):=by nofun
theorem AO (F:!"_law_word" jG) (T:!0) (HB:!1 f1 Ie vv0 cf) (HC:Df K mg "_law_take" f1 Ie vv0) :
  !2 f fd cK spWord:=by
 exists vh
 refine ⟨_,((ai (aA 1 nd (ap (cU (ac aP (ac aP (ac aP ae)))) (al HB HC hr.m (ac (aa 0) (ac af ae))))) (ai (aA 2 nd (dH ae)) (ai (bT OJ rfl (fz (by rfl) T.range (ap (cU (ac af (ac af (ac af (ac af ae))))) (al HB HC hr.m (ac (aa 0) (ac af ae))))) (av 3 nd) (ai (aA 4 nd (aC (ba false) af (al HB HC hr.m (ac (aa 0) (ac (ap (cU (ac af (ac af (ac af (ac af ae))))) (al HB HC hr.m (ac (aa 0) (ac af ae)))) ae))))) (ag (bN (bC P5 QV QX j3 (aa 2) (ac (bC Ox PySem.F.slot_str_join PySem.F.type_str_join (qJ rfl) aP (ac (bS false ["_law_j","_law_letters","_law_box_here"] 1 [1,0] rfl (fz (by rfl) T.range (aa 4)) (λ_ _ _ _=>(av 0 (show List.Nodup (["_law_j","_law_letters","_law_box_here"]:List Str) from by decide +kernel))) (λ_ _ _ _=>bH) (λ_ _ _ _=>(ap (aa 1) (al HB HC hr.m (ac (aa 2) (ac (aL (bf rfl) T.len Oj (ac (aa 1) ae)) ae)))))) ae)) ae)))))) (ag (ao (bC Ox PySem.F.slot_str_strip PySem.F.type_str_strip pK (cQ false rfl (bC Ox PySem.F.slot_str_join PySem.F.type_str_join (qJ rfl) aP (ac (aa 2) ae)) cO (cP af)) (ac aP ae)))))))),aw λv hu ts S Q h=>?_⟩
 obtain ⟨p,o,rfl,hp,hf,hq⟩:=h
 ac_nf
 ext
 refine eM (λt=>∃ z:Str,t=.str z/\1<=z.length/\z.length<=26/\(Tm.tl z).all Sc.isL=true) hr0 ?_ ?_ ?_
 ·simpa using hr1
 ·intro t ht
  simp only [NR,P2,or_false] at ht
  rcases ht with rfl|rfl|rfl<;>exact ⟨_,rfl,by decide +kernel,by decide +kernel,by decide +kernel⟩
 rintro _ ⟨le,rfl,hle1,hle2,hle3⟩
 ext
 intro l M6
 obtain ⟨IX,KZ⟩:=gN M6
 rw [oG (Op IX)]
 ext
 refine eM (λt=>∃ z:Int,t=.int z/\1<=z/\z<=4) hr0 ?_ ?_ ?_
 ·simpa using hr1
 ·simp
 rintro _ ⟨m,rfl,hm1,hm2⟩
 ext
 refine gF (λk HD S'=>∃ (zs:List Str) (o2:O) (u v:Option T2.T),zs.length=k/\(∀ y∈zs,Sc.isP (Tm.tl y)=true)/\HD=[some (.ref p),some (.str le),some (.ref l),u,v]/\S'=put (put S l (.lst (zs.map T2.T.str))) p o2/\aE o2)
  ⟨[],_,none,none,rfl,by simp,rfl,rfl,hbx⟩ ?_ ?_
 ·rintro k HD S' N hk ⟨zs,o2,u,v,hzk,hzs,rfl,rfl,IY⟩ hN
  refine ⟨trivial,?_⟩
  ext
  refine eM (λt=>∃ z:Int,t=.int z/\1<=z/\z<=12) hr0 ?_ ?_ ?_
  ·simpa using hr1
  ·simp
  rintro _ ⟨n,rfl,hn1,MY⟩
  ext
  generalize Me:r=r2 at hr0 hr1 ⊢
  refine jR (λitems HI HD S'=>∃ (ys:List Str) (u:Option T2.T) (o4:O),HI=ys.map T2.T.str/\(∀ y∈ys,∃ c,y=⟨#[c]⟩/\Sc.isL c=true)/\ys.length+items.length=(1+r2).toNat/\HD=[u,some (.str le),some (.ref p)]/\S'=put (put S l (.lst (zs.map T2.T.str))) p o4/\aE o4)
   ⟨[],none,_,rfl,by simp,by simp [cC],rfl,rfl,by assumption⟩ ?_ ?_
  ·rintro t ts HI HD S' N2 ⟨ys,u,o4,rfl,hys,hl,rfl,rfl,MN⟩ hN2
   simp only [NU] at hl
   refine ⟨trivial,?_⟩
   ext
   refine ⟨by rw [Nz,N3];lia,hN2 _ _ _ ⟨ys++[⟨#[d]⟩],_,_,by simp,?_,by simp;lia,rfl,rfl,by assumption⟩⟩
   intro y hy
   rcases NL.mp hy with h|h
   ·exact hys y h
   ·exact ⟨d,N1.mp h,Oq.mp hle3 d hd⟩
  ·rintro HI HD S' ⟨ys,u,o4,rfl,hys,hl,rfl,rfl,MN⟩
   have MG:ys.length=(1+r2).toNat:=by simpa using hl
   have hy1:∀ y∈ys,y.length<=1:=λy hy=>by obtain ⟨c,rfl,_⟩:=hys y hy;exact NE _
   refine ⟨trivial,?_⟩
   ext
   refine zW (Tm.oU ys) (Tm.qY (b:=1) hy1 (by rw [Tm.gL];lia)) ?_
   have hj:=Tm.pZ "" (b:=1) ys hy1
   rw [Tm.gL] at hj
   ext
   refine fG ((aq IX).trans ax) (by rw [Nz,N3];lia) ?_
   rw [CH IX]
   refine hN _ _ ⟨zs++[Txt.join "" ys],_,_,_,by simp [hzk],?_,rfl,by simp,MN⟩
   intro y hy
   rcases NL.mp hy with h|h
   ·exact hzs y h
   ·rw [N1.mp h];exact Wm.gX hys (by lia) (by lia)
 ·rintro HD S' ⟨zs,o2,u,v,hzk,hzs,rfl,rfl,IY⟩
  refine ⟨trivial,?_⟩
  have hzs2:∀ y∈zs,y.length<=12:=λy hy=>AN (hzs y hy)
  ext
  refine zX ((aq IX).trans ax) (Tm.oU zs) (Tm.qY (b:=12) hzs2 (by rw [Tm.gK];lia)) ?_
  have hj:=Tm.pZ " " zs hzs2
  rw [Tm.gK] at hj
  have hzl:zs.length<=4:=by lia
  have hjl:(PySem.Txt.join " " zs).length<=60:=by lia
  ext
  have L4:=Tm.nj (PySem.Txt.join " " zs) (k:=24) (by lia)
  ext
  refine .le (.put2 (.put KZ)) (hq _ _ ?_ IY)
  exact Wm.C9 (k:=24) (Wm.Ax hzs (by intro e;rw [e] at hzk;simp at hzk;lia) hzl) (Tm.dw _ 24) (by lia) (by lia)
theorem fH:∀ {ws:List Str},(∀ a∈ws,PyData.strOk a=true)->PyData.canLayAll0 (ws.map PyData.str)=true
 |[],_=>rfl
 |a::l,h=>by
  have ih:PyData.canLayAll0 (l.map PyData.str)=true:=fH λx hx=>h x (NQ _ hx)
  simp only [NF,PyData.canLayAll0,PyData.canLay0,h a (NM ..),ih,Bool.and_self]
theorem gR:∀ (ws:List Str),PyData.depthAll (ws.map PyData.str)=0
 |[]=>rfl
 |a::l=>by simp [PyData.depthAll,PyData.depth,gR l]
theorem gM:∀ (ws:List Str),aT (ws.map T2.T.str)=some (ws.map PyData.str)
 |[]=>rfl
 |a::l=>kF xR (gM l)
def LB (z:Str):Prop:=∀ c∈Tm.tl z,c=32\/Sc.isL c=true
theorem jT (g:List Nat):∀ (ps:List (List Nat)) (p:List Nat),p∈ps->∀ c∈p,c∈Tm.aM g ps
 |[],p,h,c,_=>by cases h
 |[q],p,h,c,hc=>by rw [N1] at h;subst h;exact hc
 |q::r::l,p,h,c,hc=>by
  show c∈q++g++Tm.aM g (r::l)
  rcases NR.mp h with rfl|h
  ·exact NL.mpr (.inl (NL.mpr (.inl hc)))
  ·exact NL.mpr (.inr (jT g (r::l) p h c hc))
theorem yB {z p:Str}(h:LB z) (hp:p∈PySem.Txt.split z " "):Sc.isP (Tm.tl p)=(decide (1<=p.length)&&decide (p.length<=12)):=by
 unfold Sc.isP
 rw [Tm.len]
 have:(Tm.tl p).all Sc.isL=true:=by
  rw [Oq]
  intro c hc
  have h1:=Tm.split_free z (Tm.tl p) (N0 hp)
  have h2:c∈Tm.tl z:=by rw [<- Tm.gG z];exact jT _ _ _ (N0 hp) c hc
  rcases h c h2 with rfl|h3
  ·exact absurd hc h1
  ·exact h3
 rw [this,Qz]
theorem LB.of {z:Str}(h:Wm.Wd z=true):LB z:=Wm.oX h
theorem LB.app {x y:Str}(h1:LB x) (h2:LB y):LB (x++y):=λc hc=>by
 rw [Tm.c7] at hc
 rcases NL.mp hc with h|h
 ·exact h1 c h
 ·exact h2 c h
theorem LB.slice {x:Str}{lo hi:Option Int}(h:LB x):LB (PySem.Txt.slice x lo hi):=λc hc=>by
 rw [Tm.oS] at hc
 exact h c (PB (OY hc))
theorem LB.strip {x:Str}(h:LB x):LB (PySem.Txt.stripChars x " "):=λc hc=>by
 rw [Wm.oW] at hc
 exact h c (OY (PB hc))
theorem yC {S:Sto}{Q:T2.T->Sto->Prop}{n:Bool}{ts:List T2.T}{ds:List PyData}(e:aT ts=some ds) (h0:PyData.canLayAll0 ds=true) (h1:PyData.depthAll ds<=60) (h:Q (.bl (n ^^ ts.isEmpty)) S):gEq n (.lst ts) (.lst []) S Q:=by
 refine ⟨.list ds,.list [],by show (aT ts).map PyData.list=_;rw [e];rfl,rfl,by simp only [PyData.canLay0];exact h0,rfl,?_,?_⟩
 ·simp only [PyData.depth,PyData.depthAll];lia
 ·have:PyData.eqv (.list ds) (.list [])=ts.isEmpty:=by
   cases ts with
   |nil=>cases e;rfl
   |cons a l =>
    cases ds with
    |nil =>
     obtain ⟨_,_,_,_,z⟩:=kG e
     cases z
    |cons _ _=>simp [PyData.eqv,PyData.eqvAll]
  rw [this];exact h
theorem yD {S:Sto}{Q:T2.T->Sto->Prop}{n:Bool}{p:Addr}{ws:List Str}(e:S p=some (.lst (ws.map T2.T.str))) (h0:∀ a∈ws,PyData.strOk a=true) (h:Q (.bl (n ^^ ws.isEmpty)) S):gEq n (.ref p) (.lst []) S Q:=by
 refine ⟨.list (ws.map .str),.list [],by delta bB;dsimp only;rw [e];show (aT _).map PyData.list=_;rw [gM];rfl,rfl,by simp only [PyData.canLay0];exact fH h0,rfl,?_,?_⟩
 ·simp only [PyData.depth,gR,PyData.depthAll];decide
 ·have:PyData.eqv (.list (ws.map .str)) (.list [])=ws.isEmpty:=by cases ws<;>simp [PyData.eqv,PyData.eqvAll]
  rw [this];exact h
theorem iI {α β:Type}(p:α->Bool) (f:α->β):∀ l:List α,(l.filterMap λa=>if p a=true then some (f a) else none)=(l.filter p).map f
 |[]=>rfl
 |a::l=>by
  have ih:=iI p f l
  rw [O9,Ou]
  by_cases e:p a=true
  ·rw [NC e,NC e];simp only [NF,ih]
  ·rw [NB e,NB e];exact ih
theorem FI {z:Str}(h:LB z):PyData.strOk z=true:=by
 unfold PyData.strOk
 rw [Rl]
 intro c hc
 have:=h c (by simpa [Tm.tl] using hc)
 rw [ND]
 rcases this with e|e
 ·lia
 ·simp only [Sc.isL,NA,ND] at e;lia
inductive spLIs (ts:List T2.T) (S:Sto) (Q:T2.T->Sto->Prop):Prop
 |mk:∀ z:Str,ts=[.str z]->z.length<=1000->LB z->Q (.bl (Wm.Wd z)) S->spLIs ts S Q
theorem uq:FnScope ["_law_thing","_law_parts"] ["_law_thing"] (am jd):=by nofun
theorem Dv (F:!"_law_is_word" jd) (T:!0):!1 f fd ["_law_thing"] spLIs:=by
 exists uq
 refine ⟨_,((ai (aA 1 nd (bC Ox PySem.F.slot_str_split PySem.F.type_str_split (pJ false) (aa 0) (ac aP ae))) (ai (aB (aR (bn (aI e8 (aL (bf rfl) T.len Oj (ac (aa 0) ae)) af) (bq (aI e8 (aL (bf rfl) T.len Oj (ac (aa 1) ae)) af)))) (ag (ao bA)) aD) (ag (ao (c8 (iN rfl hr.units) (bS false ["_law_part"] 1 [] rfl (aS rfl (aa 1)) (λ_ _ _ _=>(av 0 (show List.Nodup (["_law_part"]:List Str) from by decide +kernel))) (λ_ _ _ _=>(dC (aR (bn (aI cZ (aL (bf rfl) T.len Oj (ac (aa 0) ae)) af) (bq (aI e8 (aL (bf rfl) T.len Oj (ac (aa 0) ae)) af)))))) (λ_ _ _ _=>(aa 0))) (cU ae))))))),aw λv hu ts S Q h=>?_⟩
 obtain ⟨z,rfl,hz,Mf,hq⟩:=h
 have hsl:=Ro z " "
 unfold Wm.Wd at hq
 rw [Wm.nB] at hq
 have hpt:∀ p∈PySem.Txt.split z " ",LB p:=λp hp c hc=>Mf c (by rw [<- Tm.gG z];exact jT _ _ _ (N0 hp) c hc)
 have Kk:(PySem.Txt.split z " ").all (λp=>Sc.isP (Tm.tl p))=((PySem.Txt.split z " ").filter λp=>decide ((p.length:Int)<1) || decide (12<(p.length:Int))).isEmpty:=by
  rw [N7,Oq,List.isEmpty_iff,Rb]
  refine forall_congr' λp=>forall_congr' λhp=>?_
  rw [yB Mf hp]
  simp only [NA,QJ,ND]
  lia
 rw [Kk] at hq
 ac_nf
 ext
 refine ifB (λhb=>?_) λhb=>?_
 ·have hb:=Om hb
  rw [NS (by lia),OH] at hq
  ext
  exact .mk hq
 have hb:=OD hb
 rw [NK (by lia),OA] at hq
 ext
 refine ifB (λhb=>?_) λhb=>?_
 ·have hb:=Om hb
  rw [NS (by lia),OH] at hq
  ext
  exact .mk hq
 have hb:=OD hb
 rw [NK (by lia),OA] at hq
 ext
 refine cM T2.T.str (λp:Str=>if (decide ((p.length:Int)<1) || decide (12<(p.length:Int)))=true then some (T2.T.str p) else none) [] trivial (by rw [N3];lia) (λx hx u HI N HN hN=>?_) ?_
 ·have hxl:=Tm.n4 hx
  have h0:=hN (some (T2.T.str x))
  ext
  refine ifB (λhb=>?_) λhb=>?_
  ·rw [hb,Bool.true_or] at h0
   ext
   exact ⟨HN,h0⟩
  rw [hb,Qy] at h0
  ext
  refine ifB (λhb=>?_) λhb=>?_
  ·rw [hb] at h0
   ext
   exact ⟨HN,h0⟩
  ·rw [hb] at h0
   rw [NB (by decide),Qc,N4] at h0
   exact h0
 rw [iI]
 ext
 refine yC (gM _) (fH λp hp=>FI (hpt p (Oc.mp hp).1)) (by rw [gR];lia) ?_
 rw [Od,List.isEmpty_map]
 exact .mk hq
inductive spNext (ts:List T2.T) (S:Sto) (Q:T2.T->Sto->Prop):Prop
 |mk:∀ p q o,∀ ws:List Str,ts=[.ref p,.ref q]->S p=some o->aE o->S q=some (.lst (ws.map T2.T.str))->p≠q->(∀ a∈ws,Wm.Wd a=true)->ws.length<=300->(∀ z o',Wm.Wd z=true->aE o'->Q (.str z) (put S p o'))->spNext ts S Q
theorem tZ:FnScope ["_law_box_here","_law_words","_law_way","_law_one","_law_near"] fj (am iZ):=by nofun
theorem AQ (F:!"_law_next_word" iZ) (T:!0) (HB:!1 f1 Ie vv0 cf) (HC:Df K mg "_law_take" f1 Ie vv0)
  (KJ:!2 f2 IW cK spWord) (KL:Df K mg "_law_word" f2 IW cK)
  (JV:!1 f3 K0 ["_law_thing"] spLIs) (JW:Df K mg "_law_is_word" f3 K0 ["_law_thing"]) :
  !3 f fd fj spNext:=by
 exists tZ
 refine ⟨_,((ai (aA 2 nd (al HB HC hr.m (ac (aa 0) (ac af ae)))) (ai (aB (aR (bn (bd hr (aa 1) (cU ae)) (bq (aI cZ (aa 2) af)))) (ag (ao (al KJ KL hr.m (ac (aa 0) ae)))) aD) (ai (aA 3 nd (ap (aa 1) (al HB HC hr.m (ac (aa 0) (ac (aL (bf rfl) T.len Oj (ac (aa 1) ae)) ae))))) (ai (aA 4 nd (aa 3)) (ai (aB (bd hr (aa 2) af) (ag (aA 4 nd (bC Ox PySem.F.slot_str_strip PySem.F.type_str_strip pK (cQ false rfl (aa 3) cO (cP (aC (ba false) af (al HB HC hr.m (ac (aa 0) (ac (aL (bf rfl) T.len Oj (ac (aa 3) ae)) ae)))))) (ac aP ae)))) aD) (ai (aB (bd hr (aa 2) af) (ag (aA 4 nd (aC (ba false) (aa 3) (ap (cU (ac aP (ac aP (ac aP (ac aP (ac aP ae)))))) (al HB HC hr.m (ac (aa 0) (ac af ae))))))) aD) (ai (aB (bd hr (aa 2) af) (ag (aA 4 nd (aC (ba false) (cQ false rfl (aa 3) cO (cP (fY af))) (ap aP (al HB HC hr.m (ac (aa 0) (ac af ae))))))) aD) (ai (aB (aW (al JV JW hr.m (ac (aa 4) ae))) (ag (ao (aa 4))) aD) (ag (ao (aa 3)))))))))))),aw λv hu ts S Q h=>?_⟩
 obtain ⟨p,q,o,ws,rfl,hp,hf,hqw,hpq,hws,LL,hq⟩:=h
 have hqp:q≠p:=Op hpq
 ac_nf
 ext
 generalize hwy:r=wy at hr0 hr1 ⊢
 clear hwy
 have hw0:=hr0
 have hw1:=hr1
 refine yD (ws:=ws) ((aq hqp).trans hqw) (λa ha=>Wm.eP (hws a ha)) ?_
 rw [Od]
 ext
 refine ifB (λhb=>?_) λhb=>?_
 ·ext
  exact .mk (hq _ _ hzw hbx)
 have hpos:0<ws.length:=by
  cases ws with
  |nil=>cases hb
  |cons a l=>simp
 ext
 refine ifB (λIY=>?_) λIY=>?_
 ·ext
  exact .mk (hq _ _ hzw hbx)
 apply T2.Co
 dsimp only
 refine aV (λHD S'=>∃ (z:Str) (o2:O),z∈ws/\HD=[some (.ref p),some (.ref q),some (.int wy),some (.str z),none]/\S'=put S p o2/\aE o2) ?_ ?_
 ·intro X hX
  ext
  exact hX _ _ ⟨z,_,hz,rfl,rfl,hbx⟩
 rintro HD S' ⟨z,o2,hz,rfl,rfl,IY⟩
 have hzw:=hws z hz
 have hzl:=Wm.cD hzw
 have hzb:=LB.of hzw
 refine aV (λHD S'=>∃ (nz:Str) (o2:O),nz.length<=30/\LB nz/\HD=[some (.ref p),some (.ref q),some (.int wy),some (.str z),some (.str nz)]/\S'=put S p o2/\aE o2) ?_ ?_
 ·intro X hX
  ext
  exact hX _ _ ⟨z,_,by lia,hzb,rfl,rfl,IY⟩
 rintro HD S' ⟨nz,o2,hnz,LY,rfl,rfl,IY⟩
 refine aV (λHD S'=>∃ (nz:Str) (o2:O),nz.length<=30/\LB nz/\HD=[some (.ref p),some (.ref q),some (.int wy),some (.str z),some (.str nz)]/\S'=put S p o2/\aE o2) ?_ ?_
 ·intro X hX
  ext
  refine ifB (λhb=>?_) λhb=>?_
  ·ext
   have h1:=Tm.nj z (k:=1+r) (by lia)
   have h1':=QY z none (some (1+r))
   have h2:=Tm.yf (PySem.Txt.slice z none (some (1+r))) " "
   ext
   exact hX _ _ ⟨_,_,by lia,hzb.slice.strip,rfl,rfl,hbx⟩
  ·ext
   exact hX _ _ ⟨nz,_,hnz,LY,rfl,rfl,IY⟩
 rintro HD S' ⟨nz,o2,hnz,LY,rfl,rfl,IY⟩
 refine aV (λHD S'=>∃ (nz:Str) (o2:O),nz.length<=30/\LB nz/\HD=[some (.ref p),some (.ref q),some (.int wy),some (.str z),some (.str nz)]/\S'=put S p o2/\aE o2) ?_ ?_
 ·intro X hX
  ext
  refine ifB (λhb=>?_) λhb=>?_
  ·ext
   refine eM (λt=>∃ z:Str,t=.str z/\z.length<=2/\(Tm.tl z).all (λc=>decide (c=32) || Sc.isL c)=true) hr0 ?_ ?_ ?_
   ·simpa using hr1
   ·intro t ht
    simp only [NR,P2,or_false] at ht
    rcases ht with rfl|rfl|rfl|rfl|rfl<;>exact ⟨_,rfl,by decide +kernel,by decide +kernel⟩
   rintro _ ⟨le,rfl,hle,Mf⟩
   have Mf:LB le:=λc hc=>by
    have:=Oq.mp Mf c hc
    simp only [QJ,ND] at this
    exact this
   ext
   exact hX _ _ ⟨_,_,by simp only [ON];lia,hzb.app Mf,rfl,rfl,hbx⟩
  ·ext
   exact hX _ _ ⟨nz,_,hnz,LY,rfl,rfl,IY⟩
 rintro HD S' ⟨nz,o2,hnz,LY,rfl,rfl,IY⟩
 have hs1:=QY z none (some (-1))
 have hl4:(Str.ofString "abcz").length=4:=by decide +kernel
 have hl5:(Tm.tl (Str.ofString "abcz")).all Sc.isL=true:=by decide +kernel
 refine aV (λHD S'=>∃ (nz:Str) (o2:O),nz.length<=30/\LB nz/\HD=[some (.ref p),some (.ref q),some (.int wy),some (.str z),some (.str nz)]/\S'=put S p o2/\aE o2) ?_ ?_
 ·intro X hX
  ext
  refine ifB (λhb=>?_) λhb=>?_
  ·ext
   have Mf:LB ⟨#[d]⟩:=λc hc=>by
    have:c=d:=by simpa [Tm.tl] using hc
    subst this
    exact .inr (Oq.mp hl5 c hd)
   exact hX _ _ ⟨_,_,by simp only [ON,Tm.pY];lia,hzb.slice.app Mf,rfl,rfl,hbx⟩
  ·ext
   exact hX _ _ ⟨nz,_,hnz,LY,rfl,rfl,IY⟩
 rintro HD S' ⟨nz,o2,hnz,LY,rfl,rfl,IY⟩
 ext
 refine ⟨nz,rfl,by lia,LY,?_⟩
 ext
 refine ifB (λhb=>?_) λhb=>?_
 ·ext
  exact .mk (hq _ _ hb IY)
 ·ext
  exact .mk (hq _ _ hzw IY)
inductive spCount (ts:List T2.T) (S:Sto) (Q:T2.T->Sto->Prop):Prop
 |mk:∀ p o,ts=[.ref p]->S p=some o->aE o->(∀ (z:Int) o',0<=z->z<=1000000000->aE o'->Q (.int z) (put S p o'))->spCount ts S Q
theorem AA {S:Sto}{Q:T->Sto->Prop}{p:Addr}{o:O}(e:S p=some o) (f:aE o) (h:∀ (z:Int) o',0<=z->z<=1000000000->aE o'->Q (.int z) (put S p o')):spCount ([.ref p]++[]) S Q:=⟨p,o,rfl,e,f,h⟩
theorem yv {S:Sto}{Q:T->Sto->Prop}{p:Addr}{o:O}(f:aE o) (h:∀ (z:Int) o',0<=z->z<=1000000000->aE o'->Q (.int z) (put S p o')):spCount ([.ref p]++[]) (put S p o) Q:=⟨p,o,rfl,ax,f,λz o' a b c=>by rw [b5];exact h z o' a b c⟩
theorem uP:FnScope ["_law_box_here","_law_way"] cK (am ju):=by nofun
theorem yE (F:!"_law_count" ju) (HB:!1 f1 Ie vv0 cf) (HC:Df K mg "_law_take" f1 Ie vv0) :
  !2 f fd cK spCount:=by
 exists uP
 refine ⟨_,((ai (aA 1 nd (al HB HC hr.m (ac (aa 0) (ac af ae)))) (ai (aB (bd hr (aa 1) af) (ag (ao (aC iy (aC sk af af) (al HB HC hr.m (ac (aa 0) (ac af ae)))))) aD) (ag (ao (al HB HC hr.m (ac (aa 0) (ac (ap (cU (ac af (ac af (ac (aC (ba false) (aC sk af af) af) ae)))) (aa 1)) ae)))))))),aw λv hu ts S Q h=>?_⟩
 obtain ⟨p,o,rfl,hp,hf,hq⟩:=h
 ac_nf
 ext
 refine ifB (λhb=>?_) λhb=>?_
 ·ext
  simp only [Int.reduceToNat,Int.reducePow]
  exact .mk (hq _ _ (by lia) (by lia) hbx)
 ·rw [Od] at hb
  have hb:=OD hb
  ext
  refine eM (λt=>∃ z:Int,t=.int z/\0<z/\z<=1000000001) hr0 ?_ ?_ ?_
  ·simp only [NU,OI];lia
  ·intro t ht
   simp only [NR,P2,or_false] at ht
   rcases ht with rfl|rfl|rfl<;>exact ⟨_,rfl,by decide,by decide⟩
  rintro _ ⟨m,rfl,hm1,hm2⟩
  ext
  exact .mk (hq _ _ (by lia) (by lia) hbx)
theorem _root_.T2.Le.chg {S S':Sto}{l:Addr}{o:O}(le:Le S S') (h:S l=none):Le S (put S' l o):=λa u e=>by
 have:a≠l:=λz=>by rw [z,h] at e;cases e
 rw [aq this];exact le a u e
def due (ms:Ms) (n:Int):List Rt:=ms.map λa=>(a.1,wrt a.2 n)
def rd (l:List Rt):Ms:=l.map λa=>(a.1,a.2,0)
theorem d5 {S S':Sto}{x:T2.T}{ts:List T2.T}(h:Le S S') (e:az S x=some ts):az S' x=some ts:=by
 cases x with
 |ref a =>
  cases q:S a with
  |none=>simp only [az,q] at e;cases e
  |some o =>
   have q2:=h a o q
   simp only [az,q] at e
   simp only [az,q2]
   exact e
 |_=>exact e
theorem GY {U:StT}{S:Sto}{wa:WE}{R:Src->Sto->Prop}(h:wa U S λx S1=>∃ ts,az S1 x=some ts/\R ⟨cq ts,b6 x ts⟩ S1):wiE wa U S R:=h
def isF (c:Nat):Bool:=decide (48<=c)&&decide (c<=57)
theorem Dw (c:Nat):(!T2.ltS ⟨#[c]⟩ "0" && !T2.ltS "9" ⟨#[c]⟩)=isF c:=by
 have e1:T2.ltS ⟨#[c]⟩ (Str.ofString "0")=decide (c<48):=Wm.ig c 48
 have e2:T2.ltS (Str.ofString "9") ⟨#[c]⟩=decide (57<c):=Wm.ig 57 c
 rw [e1,e2]
 unfold isF
 rw [N7]
 simp only [NA,Qg,OW,ND]
 lia
inductive spFigure (ts:List T2.T) (S:Sto) (Q:T2.T->Sto->Prop):Prop
 |mk:∀ c:Nat,ts=[.str ⟨#[c]⟩]->Q (.bl (isF c)) S->spFigure ts S Q
theorem yF {S:Sto}{Q:T->Sto->Prop}{c:Nat}(h:Q (.bl (isF c)) S):spFigure ([.str ⟨#[c]⟩]++[]) S Q:=⟨c,rfl,h⟩
theorem uQ:FnScope ["sign"] ["sign"] (am jr):=by nofun
theorem w9 (F:!"is_figure" jr):!1 f fd ["sign"] spFigure:=by
 exists uQ
 refine ⟨_,((ag (ao (kD b9 b9 aP (aa 0) aP)))),aw λv hu ts S Q h=>?_⟩
 obtain ⟨c,rfl,hq⟩:=h
 rw [<- Dw] at hq
 ac_nf
 ext
 refine ifB (λhb=>?_) λhb=>?_
 ·ext
  rw [hb,OA] at hq
  exact .mk hq
 ·rw [hb,OH] at hq
  exact .mk hq
inductive spNumber (ts:List T2.T) (S:Sto) (Q:T2.T->Sto->Prop):Prop
 |mk:∀ n:Nat,ts=[.str (Nm.D n),.int 15]->n<10 ^ 15->Q (.int n) S->spNumber ts S Q
theorem uR:FnScope gx gx (am js):=by nofun
theorem xa (F:!"number_of" js) (T:!0) (KN:!1 f1 Ie ["sign"] spFigure) (KO:Df K mg "is_figure" f1 Ie ["sign"]) :
  !2 f fd gx spNumber:=by
 exists uR
 refine ⟨_,((ai (aB (aR (bn (ci (oA b9 b9 af (aL (bf rfl) T.len Oj (ac (aa 0) ae)) (aa 1))) (bq (ci (aW (aL (l8 rfl rfl) T.all Rx (ac (bS false ["sign"] 1 [] rfl (qG (aa 0)) (λ_ _ _ _=>(av 0 (show List.Nodup (["sign"]:List Str) from by decide +kernel))) (λ_ _ _ _=>bH) (λ_ _ _ _=>(al KN KO hr.m (ac (aa 0) ae)))) ae))))))) (ag (ao cS)) aD) (ai (aB (aR (cT (bd hr (ap (aa 0) af) aP) (cR (aI (b8 rfl hr.units) (aa 0) aP)))) (ag (ao cS)) aD) (ag (ao (mw C3 (by rfl) T.int RC (ac (aa 0) ae))))))),aw λv hu ts S Q h=>?_⟩
 obtain ⟨n,rfl,hn,hq⟩:=h
 have hr0:=Nm.FE hn
 have KZ:=Nm.tW n
 have hl15:=Nm.iG hn
 have hdig:∀ c∈Tm.tl (Nm.D n),isF c=true:=λc hc=>by
  have:=Nm.iF hc
  unfold isF
  rw [NK this.1,NK this.2];rfl
 have MO:∀ r,Tm.tl (Nm.D n)=48::r->Nm.D n="0":=λr h=>by
  have:=Nm.GW h
  subst this
  generalize Nm.D n=x at h
  obtain ⟨a⟩:=x
  exact Ow Str.mk (Pe.mp h)
 generalize Nm.D n=x at hr0 KZ hl15 hdig MO ⊢
 ac_nf
 refine aV (λHD S'=>HD=[some (.str x),some (.int 15)]/\S'=S) ?_ ?_
 ·intro X hX
  ext
  rw [NK (show (1:Int)<=x.length by lia)]
  ext
  rw [NK (show (x.length:Int)<=15 by lia)]
  ext
  refine cM (ls:=Tm.tl x) (λc=>T2.T.str ⟨#[c]⟩) (λc=>some (.bl (isF c))) [] ?_ ?_ (λc hc u HI N HN hN=>?_) ?_
  ·trivial
  ·rw [Tm.len,N3];lia
  ·ext
   refine yF ?_
   exact ⟨HN,hN _⟩
  ·ext
   refine lf (bs:=(Tm.tl x).map isF) (by rw [<- Wm.all_map,NV,Wm.bM];rfl) ?_
   rw [List.all_map,Oq.mpr (by simpa using hdig)]
   ext
   exact hX _ _ ⟨rfl,rfl⟩
 rintro HD S' ⟨rfl,rfl⟩
 refine aV (λHD S2=>HD=[some (.str x),some (.int 15)]/\S2=S') ?_ ?_
 ·intro X hX
  ext
  refine ifB (λhb=>?_) λhb=>?_
  ·have Nf:(⟨#[d]⟩:Str)="0":=by simpa using hb
   have hd48:d=48:=by
    have:=Ow Tm.tl Nf
    have:[d]=[48]:=this
    simpa using this
   subst hd48
   have hx0:x="0":=by
    cases q:Tm.tl x with
    |nil=>rw [<- Tm.len,q] at KZ;simp at KZ
    |cons c r =>
     have ed2:atI (Tm.tl x) 0=some 48:=ed
     rw [q] at ed2
     have:c=48:=by simpa [atI,ixN] using ed2
     subst this
     exact MO r q
   ext
   rw [NK hx0]
   ext
   exact hX _ _ ⟨rfl,rfl⟩
  ·ext
   exact hX _ _ ⟨rfl,rfl⟩
 rintro HD S2 ⟨rfl,rfl⟩
 ext
 refine C4 hr0 (by lia) ?_
 exact .mk hq
inductive spRatedOf (ts:List T2.T) (S:Sto) (Q:T2.T->Sto->Prop):Prop
 |mk:∀ (n:Nat) (z:Str),ts=[.str (Nm.D n ++ " " ++ z)]->n<10 ^ 15->Wm.Wd z=true->Q (rt (z,(n:Int))) S->spRatedOf ts S Q
theorem vk:FnScope ["text","sides","count"] ["text"] (am jE):=by nofun
theorem vM (F:!"rated_of" jE) (T:!0) (KP:!2 f1 Ie gx spNumber) (KQ:Df K mg "number_of" f1 Ie gx)
  (JA:!3 f2 IW ["thing"] spIsWord) (JB:Df K mg "is_word" f2 IW ["thing"]):!4 f fd ["text"] spRatedOf:=by
 exists vk
 refine ⟨_,((ai (aA 1 nd (bC Ox PySem.F.slot_str_partition PySem.F.type_str_partition C5 (aa 0) (ac aP ae))) (ai (aA 2 nd (al KP KQ hr.m (ac (ap (aa 1) af) (ac (ie (n:=15) (by rfl) T.c_MOST_FIGURES) ae)))) (ai (aB (aR (bn (aI mL (aa 2) cS) (bq (ci (aW (al JA JB hr.m (ac (ap (aa 1) af) ae))))))) (ag (ao cS)) aD) (ag (ao (bO (ac (ap (aa 1) af) (ac (aa 2) ae))))))))),aw λv hu ts S Q h=>?_⟩
 obtain ⟨n,z,rfl,hn,hz,hq⟩:=h
 have hl15:=Nm.iG hn
 have hzl:=Wm.cD hz
 ac_nf
 ext
 refine rm (by decide) (by simp only [ON,Tm.gK];lia) ?_
 rw [Nm.Dc]
 ext
 refine ⟨n,rfl,hn,?_⟩
 ext
 refine ifF ?_
 ext
 refine ⟨z,rfl,by lia,?_⟩
 rw [hz]
 ext
 exact .mk hq
def line (a:Rt):Str:=Nm.D a.2.toNat ++ " " ++ a.1
structure Rd (l:List Rt):Prop where
 wd:∀ a∈l,Wm.Wd a.1=true
 ge:∀ a∈l,0<=a.2/\a.2<10 ^ 15
 up:(l.map (·.1)).Pairwise λx y=>T2.ltS x y=true
 len:l.length<=200
theorem Dx {x y:Str}(h:T2.ltS x y=true):x≠y:=λe=>by
 subst e
 have:T2.ltS x x=false:=Ky.irr (.s x)
 rw [this] at h;cases h
theorem Rd.nod {l:List Rt}(h:Rd l):(l.map (·.1)).Nodup:=h.up.imp λq=>Dx q
theorem yG {z:Str}(h:1<=z.length):T2.ltS "" z=true:=by
 unfold T2.ltS
 refine NK ?_
 cases q:z.cps.toList with
 |nil=>rw [<- Tm.len] at h;rw [show Tm.tl z=[] from q] at h;simp at h
 |cons c r=>show ([]:List Nat)<c::r;exact List.nil_lt_cons _ _
inductive spRead (C:Addr) (ts:List T2.T) (S:Sto) (Q:T2.T->Sto->Prop):Prop
 |mk:∀ (x:T2.T) (l:List Rt),ts=[x]->az S x=some (l.map λa=>T2.T.str (line a))->Rd l->(∀ S' p d,Wo C S' p d 0 (rd l)->Le S S'->S d=none->S p=none->Q (.ref p) S')->spRead C ts S Q
theorem uS:FnScope ["texts","wood","last","row","text","pair"] ["texts"] (am jt):=by nofun
theorem AR (F:!"read_wood" jt) (T:!0)
  (K9:!4 f1 Ie ["text"] spRatedOf) (La:Df K mg "rated_of" f1 Ie ["text"])
  (Iy:!1 f6 Ng vv9 (spInit C)) (Lb:L2.Mk K C f6) (Iz:ay K Ng vv9 [])
  (IA:!4 f7 fd7 c6 (spPut C)) (IB:Meth K C "put" f7) (IC:ay K fd7 c6 []) :
  !5 f fd ["texts"] (spRead C):=by
 exists uS
 refine ⟨_,((ai (aA 1 nd (p6 Lb Iy Iz hr.m (by rfl) T.mg_Wood)) (ai (aA 2 nd aP) (ai (bT OJ rfl (Au rfl (by rfl) T.enumerate (aa 0)) (bI (λh=>bF (n:=2) rfl rfl h) (aK (av 3 nd) (aK (av 4 nd) bG (λh1 h2=>aJ h1 h2)) (λh1 h2=>aJ h1 h2))) (ai (aA 5 nd (al K9 La hr.m (ac (aa 4) ae))) (ai (aB (aR (bn (aI mL (aa 5) cS) (bq (aI b9 (ap (aa 5) af) (aa 2))))) (ag d7) aD) (ai (aA 2 nd (ap (aa 5) af)) (ag (bN (aU (T.gf IB) IA IC hr.m (aa 1) (ac (aa 2) (ac (ap (aa 5) af) ae))))))))) (ag (ao (aa 1))))))),aw λv hu ts S Q h=>?_⟩
 obtain ⟨x,l,rfl,hx,hl,hq⟩:=h
 ac_nf
 ext
 intro p hp0
 refine ⟨p,rfl,ax,λd Nf=>⟨rfl,?_⟩⟩
 obtain ⟨hdp,hd1⟩:=gN Nf
 generalize hS1:put (put (put S p (.ins C [])) d (.dK [])) p (.ins C [("marks",.ref d),("now",.int 0)])=S1
 have hp1:S1 p=some (.ins C [("marks",.ref d),("now",.int 0)]):=by rw [<- hS1];exact ax
 have hd2:S1 d=some (.dK []):=by rw [<- hS1,aq hdp];exact ax
 have Nh:Le S S1:=by rw [<- hS1];exact (Le.refl.chg hp0).chg hd1 |>.chg hp0
 clear hS1 Nf
 have hpd:p≠d:=Op hdp
 ext
 refine ⟨_,d5 Nh hx,?_⟩
 have live:∀ o,b6 x (l.map λa=>T2.T.str (line a)) (put S1 d o):=λo=>d9 (d5 (Nh.chg hd1) hx)
 rw [show cq (l.map λa=>T2.T.str (line a))=l.zipIdx.map (λq=>T2.T.tup [.int (q.2:Int),.str (line q.1)]) by unfold cq;rw [List.zipIdx_map,NV];rfl]
 refine dD (λrest HD S'=>∃ pre u v q last,pre++rest=l.zipIdx/\(∀ a∈rest,T2.ltS last a.1.1=true)/\S'=put S1 d (.dK (kt mkT (rd (pre.map (·.1)))))/\HD=[some x,some (.ref p),some (.str last),u,v,q]) ⟨[],none,none,none,"",rfl,?_,?_,rfl⟩ ?_ ?_
 ·intro a ha
  have:=List.mem_zipIdx' ha
  exact yG (Wm.cD (hl.wd a.1 (by have:=P9 (by rw [So] at ha;exact ha);exact this.1))).1
 ·rw [show kt mkT (rd (([]:List (Rt×Nat)).map (·.1)))=[] from rfl,kj hd2]
 ·rintro a rest HD S' N ⟨pre,u,v,q,last,HP,K6,rfl,rfl⟩ hN
  refine ⟨live _,?_⟩
  have ha:a.1∈l:=by
   have h2:a∈l.zipIdx:=by rw [<- HP];simp
   rw [So] at h2
   exact (P9 h2).1
  have hge:=hl.ge a.1 ha
  ext
  refine ⟨a.1.2.toNat,a.1.1,rfl,by lia,hl.wd _ ha,?_⟩
  rw [RP hge.1]
  ext
  refine ifF ?_
  ext
  rw [K6 a NM]
  ext
  have hnp:a.1.1∉(pre.map (·.1)).map (·.1):=λh=>by
   have up:=hl.nod
   have e:l=pre.map (·.1)++a.1::rest.map (·.1):=by
    have:=Ow (List.map (·.1)) HP
    rw [RQ,Og,NF] at this
    exact this.symm
   rw [e,Og,NF,PU] at up
   exact up.2.2 _ h _ NM rfl
  have hln:pre.length<=200:=by
   have h1:=Ow List.length HP
   have h2:=hl.len
   simp only [NJ,NU,List.length_zipIdx] at h1
   lia
  refine ⟨p,d,0,_,a.1.1,a.1.2,rfl,⟨(aq hpd).trans hp1,ax⟩,by unfold rd;rw [Nz,Nz];lia,hl.wd _ ha,?_,?_⟩
  ·rw [As.bK];unfold rd;rw [NV];exact hnp
  ·rw [b5]
   refine hN _ _ ⟨pre++[a],_,_,_,a.1.1,by rw [<- HP];simp,λx hx=>?_,?_,rfl⟩
   ·have e:l=pre.map (·.1)++a.1::rest.map (·.1):=by
     have:=Ow (List.map (·.1)) HP
     rw [RQ,Og,NF] at this
     exact this.symm
    have up:=hl.up
    rw [e,Og,NF,Pz,OF] at up
    exact up.2.1.1 x.1.1 (NI.mpr ⟨x.1,NI.mpr ⟨x,hx,rfl⟩,rfl⟩)
   ·unfold rd
    rw [Og,Og];rfl
 ·rintro HD S' ⟨pre,u,v,q,last,HP,K6,rfl,rfl⟩
  refine ⟨live _,?_⟩
  rw [N4] at HP
  have e:pre.map (·.1)=l:=by rw [HP,RQ]
  rw [e]
  ext
  exact .mk (hq _ p d ⟨(aq hpd).trans hp1,ax⟩ (Nh.chg hd1) hd1 hp0)
theorem tX {i:Int}(h:0<=i):Str.ofString (toString i)=Nm.D i.toNat:=by unfold Nm.D;rw [RP h]
theorem Dy {i:Int}(h0:0<=i) (h:i<10 ^ 15):i.natAbs.log2<1920:=by
 by_cases q:i.natAbs=0
 ·rw [q];decide
 ·refine (Nat.log2_lt q).mpr (N9 (m:=10 ^ 15) (by lia) ?_)
  exact NZ (by decide:10 ^ 15<=2 ^ 50) (Nat.pow_le_pow_right (by decide) (by decide))
theorem sQ:∀ {l m:List Rt},cx l->cx m->(l.map (·.1)).Nodup->l.Perm m->l=m
 |[],m,_,_,_,p=>(List.nil_perm.mp p).symm
 |a::l,[],_,_,_,p=>absurd p.length_eq (by simp)
 |a::l,b::m,h1,h2,hn,p=>by
  unfold cx at h1 h2
  rw [NF,OF] at h1 h2
  rw [NF,Ov] at hn
  by_cases e:a=b
  ·subst e
   rw [sQ (l:=l) (m:=m) h1.2 h2.2 hn.2 (List.Perm.cons_inv p)]
  ·have ha:a∈m:=by
    rcases NR.mp (p.mem_iff.mp NM) with h|h
    ·exact absurd h e
    ·exact h
   have hb:b∈l:=by
    rcases NR.mp (p.mem_iff.mpr NM) with h|h
    ·exact absurd h.symm e
    ·exact h
   have q1:=h1.1 b.1 (N0 hb)
   have q2:=h2.1 a.1 (N0 ha)
   rcases Ky.tri (show Ky.shp (.s a.1) (.s b.1)=true from rfl) with q|q|q
   ·rw [q] at q2;cases q2
   ·have:=Ky.s.inj q
    exact absurd (by rw [this];exact N0 hb) hn.1
   ·rw [q] at q1;cases q1
theorem Rd.of {l:List Rt}(hr:cx l) (hn:(l.map (·.1)).Nodup) (hw:∀ a∈l,Wm.Wd a.1=true) (hg:∀ a∈l,0<=a.2/\a.2<10 ^ 15) (h60:l.length<=200):Rd l:=by
 refine ⟨hw,hg,?_,h60⟩
 unfold cx at hr
 refine (hr.and hn).imp fun {x y} q=>?_
 rcases Ky.tri (x:=.s x) (y:=.s y) rfl with h|h|h
 ·exact h
 ·exact (q.2 (Ky.s.inj h)).elim
 ·rw [q.1] at h;cases h
def lnT (a:Rt):T2.T:=.str (line a)
inductive spWTexts (C:Addr) (ts:List T2.T) (S:Sto) (Q:T2.T->Sto->Prop):Prop
 |mk:∀ p d n ms,ts=[.ref p]->Wo C S p d n ms->ms.length<=200->(∀ a∈ms,a.2.2<=n)->(ms.map (·.1)).Nodup->(∀ a∈ms,Wm.Wd a.1=true)->((∀ a∈due ms n,0<=a.2/\a.2<10 ^ 15))->(∀ l:List Rt,l.Perm (due ms n)->cx l->∀ q,S q=none->Q (.ref q) (put S q (.lst (l.map lnT))))->spWTexts C ts S Q
theorem uD:FnScope ["wood"] ["wood"] (am jh):=by nofun
theorem xb (F:!"wood_texts" jh) (T:!0)
  (HF:!4 f1 Ie vv9 (spWWords C)) (HG:Meth K C "words" f1) (HH:ay K Ie vv9 []) :
  !5 f fd ["wood"] (spWTexts C):=by
 exists uD
 refine ⟨_,((ag (ao (bS true ["word","worth"] 2 [] rfl (aS rfl (ce (T.gf HG) HF HH hr.m (aa 0))) (λ_ _ _ _=>(bI (λh=>bF (n:=2) rfl rfl h) (aK (av 0 (show List.Nodup (["word","worth"]:List Str) from by decide +kernel)) (aK (av 1 (show List.Nodup (["word","worth"]:List Str) from by decide +kernel)) bG (λh1 h2=>aJ h1 h2)) (λh1 h2=>aJ h1 h2)))) (λ_ _ _ _=>bH) (λ_ _ _ _=>(GU (aa 1) (aa 0))))))),aw λv hu ts S Q h=>?_⟩
 obtain ⟨p,d,n,ms,rfl,W,hl,hn,JE,hwd,hge,hq⟩:=h
 have hw:=W.ins
 ac_nf
 ext
 refine ⟨p,d,n,ms,rfl,W,by lia,hn,JE,hwd,λl KZ MG=>?_⟩
 have Ku:l.length<=200:=by rw [KZ.length_eq,Nz];exact hl
 have hlw:∀ a∈l,a.1.length<=24:=λa ha=>by
  obtain ⟨x,hx,rfl⟩:=NI.mp (KZ.mem_iff.mp ha)
  exact (Wm.cD (hwd x hx)).2
 ext
 rw [show l.map rt=l.map (λa:Rt=>T2.T.tup [.str a.1,.int a.2]) from rfl]
 refine bY (λa:Rt=>T2.T.tup [.str a.1,.int a.2]) (λa:Rt=>some (lnT a)) [] (by trivial) (by rw [N3];lia) (λa ha u v HI N HN hN=>?_) ?_
 ·have hvg:=hge a (KZ.mem_iff.mp ha)
  have hD:=Nm.iG (n:=a.2.toNat) (by lia)
  have hz:=hlw a ha
  ext
  refine ⟨a.2,rfl,Dy hvg.1 hvg.2,by rw [tX hvg.1];lia,?_⟩
  ext
  refine ⟨a.1,rfl,by lia,?_⟩
  rw [tX hvg.1]
  exact ⟨HN,hN _ _⟩
 rw [Wm.bM]
 ext
 exact λq hq0=>.mk (hq l KZ MG q hq0)
inductive spAhead (ts:List T2.T) (S:Sto) (Q:T2.T->Sto->Prop):Prop
 |mk:∀ a b:Rt,ts=[rt a,rt b]->Q (.bl (ah a b)) S->spAhead ts S Q
theorem qe {S:Sto}{Q:T->Sto->Prop}{a b:Rt}(h:Q (.bl (ah a b)) S):spAhead ([rt a,rt b]++[]) S Q:=⟨a,b,rfl,h⟩
theorem vm:FnScope cw cw (am jy):=by nofun
theorem yH (F:!"ahead_of" jy) (T:!0) (IP:!1 f1 Ie ["pair"] spRank) (IQ:Df K mg "rank_key" f1 Ie ["pair"]):!2 f fd cw spAhead:=by
 exists vm
 refine ⟨_,((ag (ao (c8 (Fj rfl hr.units) (al IP IQ hr.m (ac (aa 0) ae)) (al IP IQ hr.m (ac (aa 1) ae)))))),aw λv hu ts S Q h=>?_⟩
 obtain ⟨a,b,rfl,hq⟩:=h
 ac_nf
 ext
 refine CQ (sP a) (sP b) (fT a b) (by simp [ky,Ky.dep]) ?_
 exact .mk hq
abbrev Gs:=List (Str×Addr×List Rt)
def rf (x:Addr×List Rt):T2.T:=.ref x.1
structure Gr (S0 S:Sto) (g:Addr) (gs:Gs):Prop where
 dct:S g=some (.dK (kt rf gs))
 lst:∀ x∈gs,S x.2.1=some (.lst (x.2.2.map rt))
 nda:(gs.map (·.2.1)).Nodup
 ndk:(gs.map (·.1)).Nodup
 old:∀ a o,S0 a=some o->S a=some o
 new:S0 g=none
 newL:∀ x∈gs,S0 x.2.1=none
def cont (gs:Gs):List (Str×List Rt):=gs.map λx=>(x.1,x.2.2)
def cV (c:List (Str×List Rt)) (k:Str) (a:Rt):List (Str×List Rt):=pu c k ((look c k).getD []++[a])
def groups (HA:Str) (l:List Rt):List (Str×List Rt):=l.foldl (λc a=>if a.1=HA then c else cV c (PySem.Txt.slice a.1 none (some ((HA.length:Int)+1))) a) []
theorem gJ (HA:Str) (l:List Rt) (a:Rt):groups HA (l++[a])=if a.1=HA then groups HA l else cV (groups HA l) (PySem.Txt.slice a.1 none (some ((HA.length:Int)+1))) a:=by
 unfold groups
 rw [List.foldl_append]
 rfl
theorem n9 (k:Str):∀ gs:Gs,look (cont gs) k=(look gs k).map (·.2):=λgs=>by
 unfold cont
 exact ki (λx:Addr×List Rt=>x.2) k gs
theorem Gr.add {S0 S:Sto}{g p:Addr}{gs:Gs}{k:Str}{a:Rt}(h:Gr S0 S g gs) (hp:S p=none) (hk:look gs k=none):Gr S0 (put (put (put S p (.lst [])) g (.dK (kt rf (gs++[(k,p,[a])])))) p (.lst ([]++[rt a]))) g (gs++[(k,p,[a])])/\cont (gs++[(k,p,[a])])=cV (cont gs) k a:=by
 have Ni:g≠p:=λe=>by have:=h.dct;rw [e,hp] at this;cases this
 have IX:∀ x∈gs,x.2.1≠p:=λx hx e=>by have:=h.lst x hx;rw [e,hp] at this;cases this
 have hlg:∀ x∈gs,x.2.1≠g:=λx hx e=>by have:=h.lst x hx;rw [e,h.dct] at this;cases this
 have hkm:=bK.mp hk
 refine ⟨⟨?_,λx hx=>?_,?_,?_,λb o hb=>?_,h.new,λx hx=>?_⟩,?_⟩
 ·rw [aq Ni];exact ax
 ·rcases NL.mp hx with hx|hx
  ·rw [aq (IX x hx),aq (hlg x hx),aq (IX x hx)];exact h.lst x hx
  ·rw [N1.mp hx];exact ax
 ·rw [Og,PU]
  refine ⟨h.nda,by simp,λx hx y hy e=>?_⟩
  obtain ⟨z,hz,rfl⟩:=NI.mp hx
  rw [R6,N1] at hy
  exact IX z hz (e.trans hy)
 ·rw [Og,PU]
  refine ⟨h.ndk,by simp,λx hx y hy e=>?_⟩
  rw [R6,N1] at hy
  exact hkm (by have h2:=hx;rw [e,hy] at h2;exact h2)
 ·have h1:=h.old b o hb
  rw [aq (λe=>by rw [e,hp] at h1;cases h1),aq (λe=>by rw [e,h.new] at hb;cases hb),aq (λe=>by rw [e,hp] at h1;cases h1)];exact h1
 ·rcases NL.mp hx with hx|hx
  ·exact h.newL x hx
  ·rw [N1.mp hx]
   cases q:S0 p with
   |none=>rfl
   |some o=>rw [h.old p o q] at hp;cases hp
 ·unfold cV
  rw [n9,hk]
  show cont (gs++[(k,p,[a])])=pu (cont gs) k ([]++[a])
  rw [ii _ (by unfold cont;rw [NV];exact hkm)]
  unfold cont
  rw [Og]
  rfl
theorem Gr.more {S0 S:Sto}{g p:Addr}{gs:Gs}{k:Str}{a:Rt}{x:Addr×List Rt}(h:Gr S0 S g gs) (hp:S p=none) (hk:look gs k=some x):Gr S0 (put (put S p (.lst [])) x.1 (.lst (x.2.map rt++[rt a]))) g (gs.map λy=>if y.1=k then (y.1,y.2.1,y.2.2++[a]) else y)/\cont (gs.map λy=>if y.1=k then (y.1,y.2.1,y.2.2++[a]) else y)=cV (cont gs) k a:=by
 have hx:=cb hk
 have Ni:g≠p:=λe=>by have:=h.dct;rw [e,hp] at this;cases this
 have IX:∀ x∈gs,x.2.1≠p:=λx hx e=>by have:=h.lst x hx;rw [e,hp] at this;cases this
 have hgx:g≠x.1:=λe=>by have:=h.lst _ hx;dsimp only at this;rw [<- e,h.dct] at this;cases this
 have hu:∀ y∈gs,y.1=k->y=(k,x):=λy hy e=>by
  have:=cA h.ndk hy
  rw [e,hk] at this
  exact Prod.ext e (Option.some.inj this).symm
 have hua:∀ y∈gs,y.2.1=x.1->y=(k,x):=λy hy e=>by
  have hp:=PQ.mp h.nda
  by_cases q:y=(k,x)
  ·exact q
  ·obtain ⟨i,hi,ei⟩:=Ot.mp hy
   obtain ⟨j,hj,ej⟩:=Ot.mp hx
   rcases Sj i j with l|l|l
   ·have:=OO.mp hp i j hi hj l
    rw [ei,ej] at this;exact absurd e this
   ·subst l;rw [ei] at ej;exact ej
   ·have:=OO.mp hp j i hj hi l
    rw [ei,ej] at this;exact absurd e.symm this
 have ea:(gs.map λy=>if y.1=k then (y.1,y.2.1,y.2.2++[a]) else y).map (·.2.1)=gs.map (·.2.1):=by
  rw [NV];refine N8 λy _=>?_;simp only [Function.comp];split<;>rfl
 have ek:(gs.map λy=>if y.1=k then (y.1,y.2.1,y.2.2++[a]) else y).map (·.1)=gs.map (·.1):=by
  rw [NV];refine N8 λy _=>?_;simp only [Function.comp];split<;>rfl
 refine ⟨⟨?_,λy' Jo=>?_,by rw [ea];exact h.nda,by rw [ek];exact h.ndk,λb o hb=>?_,h.new,λy' Jo=>?_⟩,?_⟩
 ·rw [aq hgx,aq Ni,h.dct]
  congr 2
  unfold kt
  rw [NV]
  refine N8 λy _=>?_
  simp only [Function.comp]
  split<;>rfl
 ·obtain ⟨y,hy,rfl⟩:=NI.mp Jo
  by_cases q:y.1=k
  ·rw [NC q]
   have e:=hu y hy q
   subst e
   dsimp only
   rw [Og]
   exact ax
  ·rw [NB q,aq (λe=>q (by rw [hua y hy e])),aq (IX y hy)]
   exact h.lst y hy
 ·have h1:=h.old b o hb
  rw [aq (λe=>by have:=h.newL _ hx;dsimp only at this;rw [<- e,hb] at this;cases this),aq (λe=>by rw [e,hp] at h1;cases h1)]
  exact h1
 ·obtain ⟨y,hy,rfl⟩:=NI.mp Jo
  by_cases q:y.1=k
  ·rw [NC q];exact h.newL y hy
  ·rw [NB q];exact h.newL y hy
 ·unfold cV
  rw [n9,hk]
  unfold pu
  rw [NC (by unfold cont;rw [List.any_map,Rm];exact ⟨(k,x),hx,NK rfl⟩)]
  unfold cont
  rw [NV,NV]
  refine N8 λy hy=>?_
  simp only [Function.comp]
  by_cases q:y.1=k
  ·rw [NC q,NC q,hu y hy q]
   rfl
  ·rw [NB q,NB q]
inductive spGroups (ts:List T2.T) (S:Sto) (Q:T2.T->Sto->Prop):Prop
 |mk:∀ (HA:Str) (x:T2.T) (l:List Rt),ts=[.str HA,x]->az S x=some (l.map rt)->l.length<=300->HA.length<=1000->(∀ a∈l,a.1.length<=24)->(∀ S' g gs,Gr S S' g gs->cont gs=groups HA l->Q (.ref g) S')->spGroups ts S Q
theorem t5:FnScope ["text","rated","groups","pair"] fq (am iW):=by nofun
theorem xc (F:!"longer_groups" iW) (T:!0):!1 f fd fq spGroups:=by
 exists t5
 refine ⟨_,((ai (aA 2 nd rg) (ai (bT OJ rfl (aS rfl (aa 1)) (av 3 nd) (ag (aB (aI (b8 rfl hr.units) (ap (aa 3) af) (aa 0)) (ag (bN (bC P5 QV QX j3 (bC Q6 RW PySem.F.type_dict_setdefault yn (aa 2) (ac (cQ false rfl (ap (aa 3) af) cO (cP (aC (ba false) (aL (bf rfl) T.len Oj (ac (aa 0) ae)) af))) (ac (dH ae) ae))) (ac (aa 3) ae)))) aD))) (ag (ao (aa 2)))))),aw λv hu ts S Q h=>?_⟩
 obtain ⟨HA,x,l,rfl,hv,h64,htl,hal,hq⟩:=h
 ac_nf
 ext
 intro g hg
 have hG0:Gr S (put S g (.dK [])) g []:=⟨ax,by simp,by simp,by simp,λa o ha=>(aq (λe=>by rw [e,hg] at ha;cases ha)).trans ha,hg,by simp⟩
 ext
 refine ⟨_,d5 hG0.old hv,?_⟩
 dsimp only
 refine dD (λrest HD S'=>∃ pre gs u,l=pre++rest/\HD=[some (.str HA),some x,some (.ref g),u]/\Gr S S' g gs/\cont gs=groups HA pre/\gs.length<=pre.length/\∀ x∈gs,x.2.2.length<=pre.length) ⟨[],[],none,rfl,rfl,hG0,rfl,NE _,by simp⟩ ?_ ?_
 ·rintro a rest HD S' N ⟨pre,gs,u,hl,rfl,hG,hc,Ik,Ku⟩ hN
  have ha24:=hal a (by rw [hl];simp)
  have JN:pre.length<=300:=by
   have:=Ow List.length hl
   rw [NJ,NU] at this
   lia
  have hgd:=hG.dct
  have hgl:∀ y:Nat,(kt rf gs).length<sizeLine:=λ_=>by rw [lJ,N3];lia
  refine ⟨d9 (d5 hG.old hv),?_⟩
  ext
  refine ifB (λhb=>?_) λhb=>?_
  ·have Jc:a.1≠HA:=λe=>by rw [e,NK rfl] at hb;cases hb
   ext
   intro p hp
   have Ni:g≠p:=λe=>by have:=hG.dct;rw [e,hp] at this;cases this
   ext
   cases hk:look gs (PySem.Txt.slice a.1 none (some ((HA.length:Int)+1))) with
   |none =>
    obtain ⟨r1,r2⟩:=hG.add (a:=a) hp hk
    refine wN (y:=T2.T.str (PySem.Txt.slice a.1 none (some ((HA.length:Int)+1)))) (k:=.inr (PySem.Txt.slice a.1 none (some ((HA.length:Int)+1)))) ((aq Ni).trans hG.dct) rfl (hgl 0) (by rw [dJ,hk];rfl) ?_
    rw [show T2.T.ref p=rf (p,[a]) from rfl,lF,ii _ (bK.mp hk)]
    have hpp:put (put S' p (.lst [])) g (.dK (kt rf (gs++[(PySem.Txt.slice a.1 none (some ((HA.length:Int)+1)),p,[a])]))) p=some (.lst []):=(aq (Op Ni)).trans ax
    unfold rf at hpp ⊢
    ext
    refine fG hpp (by simp [N3]) ?_
    exact hN _ _ ⟨pre++[a],_,_,by rw [hl,NX];rfl,rfl,r1,by rw [r2,hc,gJ,NB Jc],by simp;lia,λz hz=>by
     rw [NJ,OQ]
     rcases NL.mp hz with hz|hz
     ·have:=Ku z hz;lia
     ·rw [N1.mp hz];simp⟩
   |some y =>
    obtain ⟨r1,r2⟩:=hG.more (a:=a) hp hk
    have hy:=hG.lst _ (cb hk)
    have hyp:y.1≠p:=λe=>by dsimp only at hy;rw [e,hp] at hy;cases hy
    refine wM (y:=T2.T.str (PySem.Txt.slice a.1 none (some ((HA.length:Int)+1)))) (k:=.inr (PySem.Txt.slice a.1 none (some ((HA.length:Int)+1)))) ((aq Ni).trans hG.dct) rfl (hgl 0) (t:=.ref y.1) (by rw [dJ,hk];rfl) ?_
    have hyy:put S' p (.lst []) y.1=some (.lst (y.2.map rt)):=(aq hyp).trans hy
    ext
    refine fG hyy (by have:=Ku _ (cb hk);dsimp only at this;rw [Nz,N3];lia) ?_
    exact hN _ _ ⟨pre++[a],_,_,by rw [hl,NX];rfl,rfl,r1,by rw [r2,hc,gJ,NB Jc],by simp;lia,λz hz=>by
     obtain ⟨z,L3,rfl⟩:=NI.mp hz
     have:=Ku z L3
     rw [NJ,OQ]
     by_cases q:z.1=PySem.Txt.slice a.1 none (some ((HA.length:Int)+1))
     ·rw [NC q];dsimp only;rw [NJ,OQ];lia
     ·rw [NB q];lia⟩
  ·have he:a.1=HA:=by
    by_cases e:a.1=HA
    ·exact e
    ·rw [NS e] at hb;cases hb
   ext
   exact hN _ _ ⟨pre++[a],gs,_,by rw [hl,NX];rfl,rfl,hG,by rw [hc,gJ,NC he],by simp;lia,λz hz=>by rw [NJ,OQ];have:=Ku z hz;lia⟩
 ·rintro HD S' ⟨pre,gs,u,hl,rfl,hG,hc,Ik,Ku⟩
  rw [N4] at hl
  subst hl
  refine ⟨d9 (d5 hG.old hv),?_⟩
  ext
  exact .mk (hq S' g gs hG hc)
abbrev Br:=Str×Bool×Int
noncomputable def br (b:Br):T2.T:=.tup [.str b.1,.bl b.2.1,.int b.2.2]
def bX:List Rt->Int
 |[]=>0
 |a::l=>if ∀ b∈l,b.2<=a.2 then a.2 else bX l
theorem hU:∀ {l:List Rt}{m:Int},m∈l.map (·.2)->(∀ j∈l.map (·.2),j<=m)->bX l=m
 |[],m,h1,h2=>by cases h1
 |a::l,m,h1,h2=>by
  rw [bX]
  by_cases e:∀ b∈l,b.2<=a.2
  ·rw [NC e]
   have h3:=h2 a.2 (by simp)
   rcases NR.mp h1 with h|h
   ·exact h.symm
   ·obtain ⟨b,hb,rfl⟩:=NI.mp h
    have:=e b hb
    lia
  ·rw [NB e]
   refine hU ?_ λj hj=>h2 j (NQ _ hj)
   rcases NR.mp h1 with h|h
   ·exact absurd (λb hb=>by have h:m=a.2:=h;rw [<- h];exact h2 b.2 (NQ _ (N0 hb))) e
   ·exact h
def brs:Nat->Rt->Str->List Rt->List Br
 |0,_,_,_=>[]
 |n+1,last,HA,l=>if ah last (HA,bX l)=true then [(HA,true,bX l)] else
   ((l.filter λa=>decide (a.1=HA)&&ah last a).map λa=>(HA,false,a.2))++(groups HA l).flatMap λx=>brs n last x.1 x.2
def kyG (HA:Str) (a:Rt):Str:=PySem.Txt.slice a.1 none (some ((HA.length:Int)+1))
def inG (HA k:Str) (a:Rt):Bool:=decide (a.1≠HA)&&decide (kyG HA a=k)
theorem dL (HA:Str):∀ (n:Nat) (l:List Rt),l.length=n->∃ ks:List Str,ks.Nodup/\groups HA l=ks.map (λk=>(k,l.filter (inG HA k)))/\∀ k,k∈ks ↔ ∃ a∈l,a.1≠HA/\kyG HA a=k
 |0,l,h=>by
  obtain rfl:=OB.mp h
  exact ⟨[],.nil,rfl,by simp⟩
 |n+1,l,h=>by
  rcases Rv l with rfl|⟨m,a,e⟩
  ·cases h
  rw [Rw] at e
  subst e
  obtain ⟨ks,JE,hg,hk⟩:=dL HA n m (by simpa using h)
  rw [gJ]
  by_cases ea:a.1=HA
  ·rw [NC ea]
   refine ⟨ks,JE,?_,λk=>?_⟩
   ·rw [hg]
    refine N8 λk _=>?_
    rw [QZ,Ou,NB (by unfold inG;rw [NS (by simpa using ea)];simp),QM,N4]
   ·rw [hk]
    constructor
    ·rintro ⟨b,hb,h1⟩
     exact ⟨b,NL.mpr (.inl hb),h1⟩
    ·rintro ⟨b,hb,h1,h2⟩
     rcases NL.mp hb with hb|hb
     ·exact ⟨b,hb,h1,h2⟩
     ·rw [N1.mp hb] at h1;exact absurd ea h1
  ·rw [NB ea]
   change ∃ ks:List Str,ks.Nodup/\cV (groups HA m) (kyG HA a) a=_/\_
   have L5:(groups HA m).map (·.1)=ks:=by rw [hg,NV];exact List.map_id'' (λ_=>rfl) ks
   have hin:∀ k,inG HA k a=decide (kyG HA a=k):=λk=>by unfold inG;rw [NK ea,OA]
   have hfl:∀ k,(m++[a]).filter (inG HA k)=m.filter (inG HA k)++if kyG HA a=k then [a] else []:=λk=>by
    rw [QZ,Ou,hin,QM]
    by_cases q:kyG HA a=k
    ·rw [NC (NK q),NC q]
    ·rw [NB (by simpa using q),NB q]
   by_cases hm:kyG HA a∈ks
   ·refine ⟨ks,JE,?_,λk=>?_⟩
    ·have Ju:look (groups HA m) (kyG HA a)=some (m.filter (inG HA (kyG HA a))):=by
      have:=cA (l:=groups HA m) (by rw [L5];exact JE) (a:=(kyG HA a,m.filter (inG HA (kyG HA a)))) (by rw [hg];exact N0 hm)
      exact this
     unfold cV pu
     rw [Ju,NC (by rw [Rm];exact ⟨_,cb Ju,NK rfl⟩),hg,NV]
     refine N8 λk _=>?_
     simp only [Function.comp,Option.getD_some]
     rw [hfl]
     by_cases q:k=kyG HA a
     ·rw [NC q,q,NC rfl]
     ·rw [NB q,NB (λz=>q z.symm),N4]
    ·rw [hk]
     constructor
     ·rintro ⟨b,hb,h1⟩
      exact ⟨b,NL.mpr (.inl hb),h1⟩
     ·rintro ⟨b,hb,h1,h2⟩
      rcases NL.mp hb with hb|hb
      ·exact ⟨b,hb,h1,h2⟩
      ·rw [N1.mp hb] at h2
       rw [<- h2];exact (hk _).mp hm
   ·refine ⟨ks++[kyG HA a],?_,?_,λk=>?_⟩
    ·rw [PU]
     exact ⟨JE,by simp,λx hx y hy e=>hm (by rw [N1] at hy;rw [<- hy,<- e];exact hx)⟩
    ·have Ju:look (groups HA m) (kyG HA a)=none:=bK.mpr (by rw [L5];exact hm)
     unfold cV
     rw [Ju,Ss,Qa,ii _ (by rw [L5];exact hm),hg,Og]
     congr 1
     ·refine N8 λk Kb=>?_
      rw [hfl,NB (λz=>hm (by rw [z];exact Kb)),N4]
     ·rw [R6,hfl,NC rfl,Rb.mpr,Qa]
      intro b hb
      unfold inG
      simp only [NA,ND,not_and]
      intro h1 h2
      exact hm ((hk _).mpr ⟨b,hb,h1,h2⟩)
    ·rw [NL,N1,hk]
     constructor
     ·rintro (⟨b,hb,h1⟩|h1)
      ·exact ⟨b,NL.mpr (.inl hb),h1⟩
      ·exact ⟨a,by simp,ea,h1.symm⟩
     ·rintro ⟨b,hb,h1,h2⟩
      rcases NL.mp hb with hb|hb
      ·exact .inl ⟨b,hb,h1,h2⟩
      ·rw [N1.mp hb] at h2;exact .inr h2.symm
theorem qf {α:Type}(f g:α->Nat):∀ ks:List α,(ks.map λk=>f k+g k).sum=(ks.map f).sum+(ks.map g).sum
 |[]=>rfl
 |k::ks=>by simp only [NF,List.sum_cons,qf f g ks];lia
theorem AS {ks:List Str}(h:ks.Nodup) (x:Str):(ks.map λk=>if x=k then 1 else 0).sum<=1:=by
 induction ks with
 |nil=>simp
 |cons k ks ih =>
  rw [Ov] at h
  simp only [NF,List.sum_cons]
  by_cases e:x=k
  ·have:(ks.map λk=>if x=k then 1 else 0)=ks.map λ_=>0:=N8 λy hy=>NB λz=>h.1 (by rw [<- e,z];exact hy)
   rw [NC e,this]
   have:∀ l:List Str,(l.map λ_=>0).sum=0:=λl=>by induction l with|nil=>rfl|cons _ _ ih=>simp [ih]
   rw [this];lia
  ·rw [NB e];have:=ih h.2;lia
theorem oa (HA:Str){ks:List Str}(h:ks.Nodup):∀ l:List Rt,(ks.map λk=>(l.filter (inG HA k)).length).sum+(l.filter λa=>decide (a.1=HA)).length<=l.length
 |[]=>by
  have:∀ l:List Str,(l.map λ_=>0).sum=0:=λl=>by induction l with|nil=>rfl|cons _ _ ih=>simp [ih]
  simp [this]
 |a::l=>by
  have ih:=oa HA h l
  have e:(ks.map λk=>((a::l).filter (inG HA k)).length)=ks.map λk=>(if inG HA k a=true then 1 else 0)+(l.filter (inG HA k)).length:=N8 λk _=>by
   rw [Ou]
   by_cases q:inG HA k a=true
   ·rw [NC q,NC q,NU];lia
   ·rw [NB q,NB q];lia
  rw [e,qf,Ou,NU]
  by_cases q:a.1=HA
  ·have e2:(ks.map λk=>if inG HA k a=true then 1 else 0)=ks.map λ_=>0:=N8 λk _=>by unfold inG;rw [NS (by simpa using q),OH,NB (by decide)]
   have:∀ l:List Str,(l.map λ_=>0).sum=0:=λl=>by induction l with|nil=>rfl|cons _ _ ih=>simp [ih]
   rw [e2,this,NC (NK q),NU];lia
  ·have e2:(ks.map λk=>if inG HA k a=true then 1 else 0)=ks.map λk=>if kyG HA a=k then 1 else 0:=N8 λk _=>by unfold inG;rw [NK q,OA];simp only [ND]
   rw [e2,NB (by simpa using q)]
   have:=AS h (kyG HA a)
   lia
theorem o0 {α β:Type}(f:α->List β) (g:α->Nat):∀ ks:List α,(∀ k∈ks,(f k).length<=g k)->(ks.flatMap f).length<=(ks.map g).sum
 |[],_=>NE _
 |k::ks,h=>by
  rw [PD,NJ,NF,List.sum_cons]
  have:=h k NM
  have:=o0 f g ks λx hx=>h x (NQ _ hx)
  lia
theorem rH {HA:Str}{l:List Rt}{x:Str×List Rt}(h:x∈groups HA l):x.2≠[]:=by
 obtain ⟨ks,JE,hg,hk⟩:=dL HA _ l rfl
 rw [hg] at h
 obtain ⟨k,hk2,rfl⟩:=NI.mp h
 obtain ⟨a,ha,h1,h2⟩:=(hk k).mp hk2
 intro z
 have:a∈l.filter (inG HA k):=Oc.mpr ⟨ha,by unfold inG;rw [NK h1,NK h2];rfl⟩
 dsimp only at z
 rw [z] at this;cases this
theorem kQ:∀ (n:Nat) (last:Rt) (HA:Str) (l:List Rt),l≠[]->(brs n last HA l).length<=l.length
 |0,_,_,_,_=>OM _
 |n+1,last,HA,l,Jc=>by
  rw [brs]
  split
  ·have:=RL.mpr Jc
   rw [OQ];lia
  ·obtain ⟨ks,JE,hg,hk⟩:=dL HA _ l rfl
   rw [NJ,Nz]
   have h1:=o0 (λx:Str×List Rt=>brs n last x.1 x.2) (λx=>x.2.length) (groups HA l) λx hx=>kQ n last x.1 x.2 (rH hx)
   have h2:((groups HA l).map λx=>x.2.length)=ks.map λk=>(l.filter (inG HA k)).length:=by rw [hg,NV];rfl
   rw [h2] at h1
   have h3:=oa HA JE l
   have h4:(l.filter λa=>decide (a.1=HA)&&ah last a).length<=(l.filter λa=>decide (a.1=HA)).length:=by
    rw [<- RX,<- RX]
    exact Rq λa _ h=>by rw [NA] at h;exact h.1
   lia
theorem ik {z t:Str}(h:PySem.Txt.startswith z t=true) (hn:z≠t):t.length<z.length:=by
 rw [Tm.lq,ND] at h
 have h1:=Ow List.length h
 rw [Of,Tm.len,Tm.len] at h1
 by_cases e:t.length<z.length
 ·exact e
 ·refine absurd (Tm.ext ?_) hn
  rw [<- h,O4]
  rw [Tm.len,Tm.len];lia
theorem AT {z t:Str}(h:t.length<z.length):(PySem.Txt.slice z none (some ((t.length:Int)+1))).length=t.length+1:=by
 have e:((t.length:Int)+1)=((t.length+1:Nat):Int):=by lia
 rw [e,<- Tm.len,Tm.dw,Of,Tm.len];lia
theorem o9 {z t k:Str}(h:t.length<z.length) (e:PySem.Txt.slice z none (some ((t.length:Int)+1))=k):PySem.Txt.startswith z k=true/\k.length=t.length+1:=by
 have hl:k.length=t.length+1:=by rw [<- e];exact AT h
 refine ⟨?_,hl⟩
 rw [Tm.ji,ND,hl,<- e]
 rfl
theorem Dz {HA:Str}{l:List Rt}(hs:∀ a∈l,PySem.Txt.startswith a.1 HA=true){x:Str×List Rt}(h:x∈groups HA l):x.1.length=HA.length+1/\(∀ a∈x.2,PySem.Txt.startswith a.1 x.1=true)/\(∀ a∈x.2,a∈l)/\x.2.length<=l.length:=by
 obtain ⟨ks,JE,hg,hk⟩:=dL HA _ l rfl
 rw [hg] at h
 obtain ⟨k,hk2,rfl⟩:=NI.mp h
 obtain ⟨a,ha,h1,h2⟩:=(hk k).mp hk2
 dsimp only
 refine ⟨(o9 (ik (hs a ha) h1) h2).2,λb hb=>?_,λb hb=>(Oc.mp hb).1,Pd _ _⟩
 obtain ⟨Nj,IY⟩:=Oc.mp hb
 unfold inG at IY
 simp only [NA,ND] at IY
 exact (o9 (ik (hs b Nj) IY.1) IY.2).1
inductive spBB (tr:Bool) (n:Nat) (ts:List T2.T) (S:Sto) (Q:T2.T->Sto->Prop):Prop
 |mk:∀ (last:Rt) (HA:Str) (x:T2.T) (l:List Rt),ts=[rt last,.str HA,x]->az S x=some (l.map rt)->l≠[]->l.length<=300->(∀ a∈l,a.1.length<=24)->(∀ a∈l,PySem.Txt.startswith a.1 HA=true)->25<=HA.length+n->newL tr ((brs n last HA l).map br) S Q->spBB tr n ts S Q
theorem AU (l:List Rt):da (l.filterMap λa=>some (T2.T.int a.2))=some (l.map (·.2)):=by
 rw [show (l.filterMap λa:Rt=>some (T2.T.int a.2))=(l.map (·.2)).map T2.T.int by rw [Wm.bM,NV];rfl]
 exact Tm.ye _
theorem kR {tr:Bool}{S S':Sto}{Q:T2.T->Sto->Prop}{b:Addr}{ts:List T2.T}(hb:S b=none) (e:S' b=some (.lst ts)) (l:Le S S') (h:newL tr ts S Q):Fin Q (.ref b) S':=by
 cases tr with
 |false=>exact .frz e l hb h
 |true =>
  refine .le (S0:=T2.put S b (.lst ts)) (λa o ha=>?_) (h b hb)
  by_cases q:a=b
  ·rw [q] at ha ⊢;rw [ax] at ha;rw [e];exact ha
  ·rw [aq q] at ha;exact l a o ha
theorem yI (gs:Gs):(kt rf gs).map gg=gs.map λx=>T2.T.tup [.str x.1,.ref x.2.1]:=by unfold kt;rw [NV];rfl
theorem tY:FnScope ["last","text","rated","top","branches","longer","group"] du (am gC):=by nofun
theorem DA {tr:Bool}{f f1 f2:Addr}{fd Ie IW:FuncData}{n:Nat}(F:!"branches_behind" gC) (T:!0)
  (HW:!2 f1 Ie cw spAhead) (HX:Df K mg "ahead_of" f1 Ie cw)
  (Ig:!1 f2 IW fq spGroups) (Ih:Df K mg "longer_groups" f2 IW fq)
  (Ii:FnOk P w K mg base CX0 (n+3) f fd du (lSp K (spBB false n))) (Ij:Df K mg "branches_behind" f fd du) :
  FnOk P w K mg base CX0 (n+4) f fd du (lSp K (spBB tr (n+1))):=by
 exists tY
 refine ⟨_,((ai (aA 3 nd (aL (Ex rfl rfl) T.max Rz (ac (bS false ["pair"] 1 [] rfl (aS rfl (aa 2)) (λ_ _ _ _=>(av 0 (show List.Nodup (["pair"]:List Str) from by decide +kernel))) (λ_ _ _ _=>bH) (λ_ _ _ _=>(ap (aa 0) af))) ae))) (ai (aB (aW (al HW HX (hr.mono (by lia)) (ac (aa 0) (ac (bO (ac (aa 1) (ac (aa 3) ae))) ae)))) (ag (ao (dH (ac (bO (ac (aa 1) (ac bA (ac (aa 3) ae)))) ae)))) aD) (ai (cL true (i:=4) ["pair","text","last"] 1 [1,0] rfl nd rfl (Or.inl rfl) (aS rfl (aa 2)) (λ_ _ _ _=>(av 0 (show List.Nodup (["pair","text","last"]:List Str) from by decide +kernel))) (λ_ _ _ _=>(dC (aR (cT (bd hr (ap (aa 0) af) (aa 1)) (cR (aW (al HW HX (hr.mono (by lia)) (ac (aa 2) (ac (aa 0) ae))))))))) (λ_ _ _ _=>(bO (ac (aa 1) (ac bA (ac (ap (aa 0) af) ae)))))) (ai (sL w rfl (bT OJ rfl (kL w rfl rfl (al Ig Ih (hr.mono (by lia)) (ac (aa 1) (ac (aa 2) ae)))) (bI (λh=>bF (n:=2) rfl rfl h) (aK (av 5 nd) (aK (av 6 nd) bG (λh1 h2=>aJ h1 h2)) (λh1 h2=>aJ h1 h2))) (ag (bN (bC P5 PySem.F.slot_list_extend PySem.F.type_list_extend yo (aa 4) (ac (al Ii Ij (hr.mono (by lia)) (ac (aa 0) (ac (aa 5) (ac (aa 6) ae)))) ae)))))) (ag (ao (aa 4)))))))),aw λv hu ts S Q h=>?_⟩
 obtain ⟨last,HA,x,l,rfl,hv,Jc,h200,L4,Ki,hn,hq⟩:=h
 have htl:HA.length<=24:=by
  cases l with
  |nil=>exact absurd rfl Jc
  |cons a l =>
   have h1:=Ki a NM
   have h2:=L4 a NM
   by_cases e:a.1=HA
   ·rw [<- e];exact h2
   ·have:=ik h1 e;lia
 ac_nf
 ext
 refine ⟨_,hv,?_⟩
 dsimp only
 refine cM rt (λa:Rt=>some (.int a.2)) [] (d9 hv) (by rw [N3];lia) (λa ha u HI N HN hN=>?_) ?_
 ·ext
  exact ⟨HN,hN _⟩
 ext
 refine CD (AU l) (by simpa using Jc) λm hm1 hm2=>?_
 have hm:=hU hm1 hm2
 subst hm
 ext
 refine qe (a:=last) (b:=(HA,bX l)) ?_
 rw [brs] at hq
 ext
 refine ifB (λhb=>?_) λhb=>?_
 ·rw [NC hb] at hq
  ext
  exact λp hp=>kR hp ax (.put hp) hq
 rw [NB (by rw [hb];decide)] at hq
 ext
 refine ⟨_,hv,?_⟩
 dsimp only
 refine cM rt (λa:Rt=>if (decide (a.1=HA)&&ah last a)=true then some (br (HA,false,a.2)) else none) [some (.str HA),some (rt last)] (d9 hv) (by rw [N3];lia) (λa ha u HI N HN hN=>?_) ?_
 ·have h0:=hN (some (rt a))
  ext
  rw [Od]
  refine ifB (λhb=>?_) λhb=>?_
  ·rw [hb,OA] at h0
   ext
   ext
   refine ifB (λhb=>?_) λhb=>?_
   ·rw [NC hb] at h0
    ext
    exact ⟨HN,h0⟩
   ·rw [NB (by rw [hb];decide),Qc,N4] at h0
    exact h0
  ·rw [hb,OH,NB (by decide),Qc,N4] at h0
   exact h0
 rw [iI]
 ext
 intro b hb0
 ext
 have Nk:=kQ (n+1) last HA l Jc
 rw [brs,NB (by rw [hb];decide)] at Nk
 rw [show ((l.filter λa=>decide (a.1=HA)&&ah last a).map λa=>br (HA,false,a.2))=((l.filter λa=>decide (a.1=HA)&&ah last a).map λa=>((HA,false,a.2):Br)).map br by rw [NV];rfl]
 generalize ((l.filter λa=>decide (a.1=HA)&&ah last a).map λa=>((HA,false,a.2):Br))=B0 at hq Nk ⊢
 have hold:∀ a o,S a=some o->T2.put S b (.lst (B0.map br)) a=some o:=λa o ha=>(aq (λe=>by rw [e,hb0] at ha;cases ha)).trans ha
 refine ⟨HA,x,l,rfl,d5 hold hv,h200,by lia,L4,λS' g gs hG MP=>?_⟩
 obtain ⟨hgb,hSg⟩:=gN hG.new
 have hSb:S' b=some (.lst (B0.map br)):=hG.old b _ ax
 rw [<- MP] at hq Nk
 have Jr:∀ y∈gs,(y.1,y.2.2)∈groups HA l:=λy hy=>by rw [<- MP];exact N0 (f:=λx:Str×Addr×List Rt=>(x.1,x.2.2)) hy
 refine tV hG.dct ?_
 intro od kvs
 dsimp only
 rw [yI]
 refine dD (λrest HD S2=>∃ pre u v,gs=pre++rest/\S2=T2.put (T2.put S' g (.fK w od kvs (kt rf gs))) b (.lst ((B0++(cont pre).flatMap λx=>brs n last x.1 x.2).map br))/\HD=[some (rt last),some (T2.T.str HA),some x,some (T2.T.int (bX l)),some (T2.T.ref b),u,v]) ⟨[],none,none,rfl,?_,rfl⟩ ?_ ?_
 ·show T2.put S' g (.fK w od kvs (kt rf gs))=T2.put (T2.put S' g (.fK w od kvs (kt rf gs))) b (.lst ((B0++[]).map br))
  rw [N4]
  exact (xZ ((aq (Op hgb)).trans hSb)).symm
 ·rintro y rest HD S2 N ⟨pre,u,v,HP,rfl,rfl⟩ hN
  have hy:y∈gs:=by rw [HP];simp
  have hyp:=hG.lst y hy
  have hyb:y.2.1≠b:=(gN (hG.newL y hy)).1
  have hyg:y.2.1≠g:=λe=>by rw [e,hG.dct] at hyp;cases hyp
  obtain ⟨q1,q2,q3,q4⟩:=Dz Ki (Jr y hy)
  refine ⟨(aq hgb).trans ax,?_⟩
  ext
  refine ⟨last,y.1,.ref y.2.1,y.2.2,rfl,eD ((aq hyb).trans ((aq hyg).trans hyp)),rH (Jr y hy),NZ q4 h200,λa ha=>L4 a (q3 a ha),q2,by dsimp only at q1;lia,?_⟩
  ext
  refine yp ax ?_ ?_
  ·have h1:(B0++(cont gs).flatMap λx=>brs n last x.1 x.2).length=(B0++(cont pre).flatMap λx=>brs n last x.1 x.2).length+(brs n last y.1 y.2.2).length+((cont rest).flatMap λx=>brs n last x.1 x.2).length:=by
    rw [HP]
    unfold cont
    simp only [Og,NF,RS,PD,NJ]
    lia
   rw [Nz,Nz,N3]
   lia
  ·rw [b5]
   refine hN _ _ ⟨pre++[y],_,_,by rw [HP,NX];rfl,?_,rfl⟩
   congr 2
   unfold cont
   simp only [Og,NF,Pr,RS,PD,List.flatMap_nil,N4,NX]
 ·rintro HD S2 ⟨pre,u,v,HP,rfl,rfl⟩
  rw [N4] at HP
  subst HP
  refine ⟨(aq hgb).trans ax,?_⟩
  refine mT ((aq hgb).trans ax) ?_
  ext
  refine kR hb0 ((aq (Op hgb)).trans ax) (λa o ha=>?_) hq
  have h1:a≠b:=λe=>by rw [e,hb0] at ha;cases ha
  have h2:a≠g:=λe=>by rw [e,hSg] at ha;cases ha
  rw [aq h2,aq h1,aq h2]
  exact hG.old a o (hold a o ha)
theorem sR (F:!"branches_behind" gC) (T:!0)
  (HW:!2 f1 Ie cw spAhead) (HX:Df K mg "ahead_of" f1 Ie cw)
  (Ig:!1 f2 IW fq spGroups) (Ih:Df K mg "longer_groups" f2 IW fq)
  (D:Df K mg "branches_behind" f fd du):∀ n,FnOk P w K mg base CX0 (n+3) f fd du (lSp K (spBB false n))
 |0=>by
  have no:∀ ts S Q,¬ spBB false 0 ts S Q:=by
   rintro ts S Q ⟨last,HA,x,l,_,_,Jc,_,L4,Ki,hn,_⟩
   cases l with
   |nil=>exact Jc rfl
   |cons a l =>
    have h1:=Ki a NM
    have h2:=L4 a NM
    by_cases e:a.1=HA
    ·rw [e] at h2;lia
    ·have:=ik h1 e;lia
  exact ⟨λvs H Q E h=>by obtain ⟨_,_,_,_,_,h,_⟩:=h;exact (no _ _ _ h).elim,λA o s H args us vs Q E _ _ _ _ h=>by obtain ⟨_,_,_,_,_,h,_⟩:=h;exact (no _ _ _ h).elim⟩
 |n+1=>DA F T HW HX Ig Ih (sR F T HW HX Ig Ih D n) D
noncomputable def bo (l:List Rt) (b:Str) (m:Nat):List Br:=match ((bst l).take m).getLast? with
 |none=>[]
 |some last=>brs 25 last b l
inductive spCut (tr:Bool) (C:Addr) (ts:List T2.T) (S:Sto) (Q:T2.T->Sto->Prop):Prop
 |mk:∀ p d n ms b m,ts=[.ref p,.str b,.int m]->Wo C S p d n ms->ms.length<=300->(∀ a∈ms,a.2.2<=n)->(ms.map (·.1)).Nodup->(∀ a∈ms,Wm.Wd a.1=true)->0<=m->newL tr ((bo (rtd ms n b) b m.toNat).map br) S Q->spCut tr C ts S Q
theorem yJ {tr:Bool}{S:Sto}{Q:T2.T->Sto->Prop}{ts:List T2.T}(h:newL tr ts S Q):newL tr ts S (Fin Q):=by
 cases tr with
 |false=>exact .mk h
 |true=>exact λp hp=>.mk (h p hp)
theorem qg {l:List Rt}{a:Rt}(h:l.getLast?=some a):atI (l.map rt) (-1)=some (rt a):=by
 rw [g7]
 have Jc:l≠[]:=λe=>by rw [e] at h;cases h
 have hl:=RL.mpr Jc
 unfold atI ixN
 rw [NB (by decide),NC (by lia),Sv]
 rw [Sq] at h
 rw [show (-1+(l.length:Int)).toNat=l.length - 1 by lia,h]
 rfl
theorem uc:FnScope ["self","beginning","many","told"] vv5 (am i4):=by nofun
theorem DB {tr:Bool}{f f1 f2 f3:Addr}{fd Ie IW K0:FuncData}(F:!"cut_off" "Wood.cut_off" i4) (T:!0)
  (HS:!2 f1 Ie vv3 (spBegun C)) (HU:Meth K C "begun" f1) (HV:ay K Ie vv3 [])
  (IH:!5 f2 IW vv5 (spTold C)) (II:Meth K C "told" f2) (IJ:ay K IW vv5 [])
  (Ii:!28 f3 K0 du (spBB tr 25)) (Ij:Df K mg "branches_behind" f3 K0 du):!29 f fd vv5 (spCut tr C):=by
 exists uc
 refine ⟨_,((ai (aA 3 nd (aU (T.gf II) IH IJ hr.m (aa 0) (ac (aa 1) (ac (aa 2) ae)))) (ai (aB (ci (yq rfl (aa 3))) (ag (ao (dH ae))) aD) (ag (ao (al Ii Ij hr.m (ac (ap (aa 3) (fY af)) (ac (aa 1) (ac (aU (T.gf HU) HS HV hr.m (aa 0) (ac (aa 1) ae)) ae))))))))),aw λv hu ts S Q h=>?_⟩
 obtain ⟨p,d,n,ms,b,m,rfl,W,hl,hn,JE,hwd,hm,hq⟩:=h
 have hw:=W.ins
 ac_nf
 ext
 refine ⟨p,d,n,ms,b,m,rfl,W,hl,hn,JE,hm,?_⟩
 ext
 unfold bo at hq
 cases Je:((bst (rtd ms n b)).take m.toNat).getLast? with
 |none =>
  rw [Je] at hq
  have he:(bst (rtd ms n b)).take m.toNat=[]:=by
   cases q:(bst (rtd ms n b)).take m.toNat with
   |nil=>rfl
   |cons a l=>rw [q,List.getLast?_cons] at Je;cases Je
  have hq:newL tr [] S Q:=hq
  rw [NC (by rw [he];rfl)]
  ext
  exact λp hp=>kR hp ax (.put hp) hq
 |some last =>
  rw [Je] at hq
  have Jc:(bst (rtd ms n b)).take m.toNat≠[]:=λe=>by rw [e] at Je;cases Je
  have he:(((bst (rtd ms n b)).take m.toNat).map rt).isEmpty=false:=by
   cases q:(bst (rtd ms n b)).take m.toNat with
   |nil=>exact absurd q Jc
   |cons a l=>rfl
  rw [NB (by rw [he];decide)]
  ext
  refine mh (qg Je) ?_
  ext
  refine ⟨p,d,n,ms,b,rfl,W,by lia,hn,?_⟩
  ext
  have Ik:=fM ms n b
  refine ⟨last,b,_,rtd ms n b,rfl,rfl,?_,by lia,?_,?_,by lia,yJ hq⟩
  ·intro e
   rw [e] at Jc
   exact Jc (by rw [show bst []=[] from rfl,List.take_nil])
  ·intro a ha
   unfold rtd aZ at ha
   obtain ⟨x,hx,rfl⟩:=NI.mp ha
   exact (Wm.cD (hwd x (Oc.mp hx).1)).2
  ·intro a ha
   unfold rtd aZ at ha
   obtain ⟨x,hx,rfl⟩:=NI.mp ha
   exact (Oc.mp hx).2
theorem sS {α:Type}{p:α->Bool}:∀ {l:List α},(l.Pairwise λx y=>p y=true->p x=true)->∀ {k:Nat}{a:α},l[k]?=some a->(k<l.countP p ↔ p a=true)
 |[],_,k,a,h=>by simp at h
 |b::l,hl,k,a,h=>by
  obtain ⟨h1,h2⟩:=OF.mp hl
  cases k with
  |zero =>
   simp only [List.getElem?_cons_zero,O7] at h
   subst h
   rw [Qu]
   by_cases q:p b=true
   ·simp [q]
   ·have z:l.countP p=0:=List.countP_eq_zero.mpr λx hx hp=>q (h1 x hx hp)
    simp [q,z]
  |succ k =>
   rw [List.getElem?_cons_succ] at h
   have ih:=sS h2 h
   rw [Qu]
   by_cases q:p b=true
   ·rw [NC q,<- ih];lia
   ·have z:l.countP p=0:=List.countP_eq_zero.mpr λx hx hp=>q (h1 x hx hp)
    have na:¬ p a=true:=λhp=>q (h1 a (PV h) hp)
    rw [NB q,z];simp [na]
theorem yK {l:List Rt}(h:l.Pairwise λx y=>ah x y=true) (x:Rt):l.Pairwise λa b=>ah b x=true->ah a x=true:=h.imp λhab hb=>oY hab hb
def pass (z:Str) (last:Rt):Int:=if ah (z,last.2) last=true then last.2 else last.2+1
theorem yL {z:Str}{last:Rt}(Jc:last.1≠z) (v:Int):ah last (z,v)=true ↔ v<pass z last:=by
 unfold pass
 have e1:=iH last (z,v)
 have e2:=iH (z,last.2) last
 have tr:=ly (z,last.2) last
 have as1:=λh=>kP (a:=(z,last.2)) (b:=last) h
 have e3:=iH last (z,last.2)
 simp only [Int.lt_irrefl,Qk,Qy,QB,OA] at e2 e3
 rw [e1]
 rcases tr with q|q|q
 ·rw [NC q]
  have n:=as1 q
  rw [e3] at n
  simp only [n,Bool.and_false,Bool.or_false,ND]
 ·exact (Jc (Ow Prod.fst q).symm).elim
 ·rw [NB (by rw [kP q];decide)]
  rw [e3] at q
  simp only [q,Qz,QJ,ND]
  lia
noncomputable def rk (tb:List Rt) (b z:Str) (v:Int):Nat:=tb.countP λa=>decide (a.1≠z)&&(PySem.Txt.startswith a.1 b&&ah a (z,v))
def oth (tb:List Rt) (b z:Str):List Rt:=(tb.filter λa=>PySem.Txt.startswith a.1 b).filter λa=>decide (a.1≠z)
theorem rJ (tb:List Rt) (b z:Str) (v:Int):rk tb b z v=(oth tb b z).countP λa=>ah a (z,v):=by
 unfold rk oth
 rw [R8,R8]
 refine Qh λa _=>?_
 simp only [NA,ND]
 constructor
 ·rintro ⟨h1,h2,h3⟩;exact ⟨⟨h3,h1⟩,h2⟩
 ·rintro ⟨⟨h3,h1⟩,h2⟩;exact ⟨h1,h2,h3⟩
theorem rK {tb:List Rt}{b z:Str}(h:(tb.map (·.1)).Nodup):(oth tb b z).Nodup:=(oZ h).sublist (QD.trans QD)
theorem AV {tb:List Rt}{b z:Str}{a:Rt}(h:a∈oth tb b z):a∈tb/\PySem.Txt.startswith a.1 b=true/\a.1≠z:=by
 unfold oth at h
 obtain ⟨h1,h2⟩:=Oc.mp h
 obtain ⟨h3,h4⟩:=Oc.mp h1
 exact ⟨h3,h4,Om h2⟩
theorem sT {tb:List Rt}{b z:Str}{m:Nat}{last:Rt}(h:(tb.map (·.1)).Nodup) (hm:1<=m) (hl:(bst (oth tb b z))[m - 1]?=some last) (v:Int):rk tb b z v<m ↔ pass z last<=v:=by
 have mem:last∈oth tb b z:=(dA _).mem_iff.mp (PV hl)
 have q:=sS (yK (gH (rK h)) (z,v)) hl
 rw [(dA (oth tb b z)).countP_eq,<- rJ,yL (AV mem).2.2] at q
 lia
structure Lst (tb:List Rt) (b z:Str) (t:Int) (m:Nat) (i:Int):Prop where
 ge:0<=i
 at_:rk tb b z (t+i)<m
 no:∀ j,0<=j->j<i->¬ rk tb b z (t+j)<m
theorem Lst.eq {tb:List Rt}{b z:Str}{t:Int}{m:Nat}{i j:Int}(h1:Lst tb b z t m i) (h2:Lst tb b z t m j):i=j:=by
 rcases Int.lt_trichotomy i j with q|q|q
 ·exact (h2.no i h1.ge q h1.at_).elim
 ·exact q
 ·exact (h1.no j h2.ge q h2.at_).elim
theorem Lst.zero {tb:List Rt}{b z:Str}{t:Int}{m:Nat}(h:rk tb b z t<m):Lst tb b z t m 0:=⟨PZ _,by simpa using h,λj h1 h2=>by lia⟩
theorem Lst.few {tb:List Rt}{b z:Str}{t:Int}{m:Nat}(h:((bst (oth tb b z)).take m).length<m):Lst tb b z t m 0:=by
 refine .zero ?_
 rw [rJ]
 have:=List.countP_le_length (p:=λa=>ah a (z,t)) (l:=oth tb b z)
 have e:=(dA (oth tb b z)).length_eq
 rw [Of] at h
 lia
theorem Lst.pass {tb:List Rt}{b z:Str}{t:Int}{m:Nat}{last:Rt}(h:(tb.map (·.1)).Nodup) (hm:1<=m) (hl:(bst (oth tb b z))[m - 1]?=some last):Lst tb b z t m (max 0 (pass z last - t)):=by
 refine ⟨by lia,?_,λj h0 h1=>?_⟩
 ·rw [sT h hm hl];lia
 ·rw [sT h hm hl];lia
def hv (k:Nat) (tb:List Rt):List Rt:=tb.map λa=>(a.1,a.2 / 2 ^ k)
theorem hW (k:Nat) (tb:List Rt):(hv k tb).map (·.1)=tb.map (·.1):=by unfold hv;rw [NV];rfl
def Pk (tb:List Rt) (b z:Str) (t:Int) (m k:Nat):Prop:=rk (hv k tb) b z (t / 2 ^ k)<m
def Fst (P:Nat->Prop) (N:Nat):Option Nat->Prop
 |some k=>k<=N/\P k/\∀ j,j<k->¬ P j
 |none=>∀ j,j<=N->¬ P j
theorem kS {tb LN:List Rt}(p:tb.Perm LN) (b z:Str) (v:Int):rk tb b z v=rk LN b z v:=p.countP_eq _
theorem kT {tb LN:List Rt}(p:tb.Perm LN){b z:Str}{t:Int}{m k:Nat}:Pk tb b z t m k ↔ Pk LN b z t m k:=by
 unfold Pk
 have q:(hv k tb).Perm (hv k LN):=p.map _
 rw [kS q]
theorem sU (tb:List Rt) (b z:Str) (v:Int) (k:Nat):rk (hv k tb) b z v=tb.countP λa=>decide (a.1≠z)&&(PySem.Txt.startswith a.1 b&&ah (a.1,a.2 / 2 ^ k) (z,v)):=by
 unfold rk hv
 rw [List.countP_map];rfl
theorem jU {x top:Int}{N k:Nat}(h0:0<=x) (h1:x<=top) (h2:top<2 ^ N) (hk:N<=k):x / 2 ^ k=0:=by
 refine Int.ediv_eq_zero_of_lt h0 (Int.lt_of_le_of_lt h1 (Int.lt_of_lt_of_le h2 ?_))
 exact_mod_cast Nat.pow_le_pow_right (by decide:0<2) hk
theorem pb {tb:List Rt}{b z:Str}{t top:Int}{m N:Nat}(h0:∀ a∈tb,0<=a.2) (h1:∀ a∈tb,PySem.Txt.startswith a.1 b=true->a.2<=top) (hz:(z,t)∈tb) (hs:PySem.Txt.startswith z b=true) (h2:top<2 ^ N) (k:Nat) (hk:N<=k):Pk tb b z t m k->Pk tb b z t m N:=by
 unfold Pk
 have zt:∀ j,N<=j->t / 2 ^ j=0:=λj hj=>jU (h0 _ hz) (h1 _ hz hs) h2 hj
 rw [sU,sU,zt k hk,zt N (NE _)]
 intro h
 refine Nat.lt_of_le_of_lt (QQ (Qh λa ha=>?_)) h
 cases q:PySem.Txt.startswith a.1 b with
 |false=>simp
 |true=>rw [jU (h0 a ha) (h1 a ha q) h2 hk,jU (h0 a ha) (h1 a ha q) h2 (NE _)]
theorem AW {top:Int}(h:0<=top):top<2 ^ (Builtin.Int.intBits top):=by
 unfold Builtin.Int.intBits
 split
 ·next q =>
       have:top=0:=by simpa using q
       rw [this];decide
 ·have:=Nat.lt_log2_self (n:=top.natAbs)
  have e:((2:Int) ^ (top.natAbs.log2+1))=((2 ^ (top.natAbs.log2+1):Nat):Int):=by push_cast;rfl
  rw [e];lia
theorem AX {top:Int}(h:0<=top) (h1:top<2 ^ 60):Builtin.Int.intBits top<=60:=by
 unfold Builtin.Int.intBits
 split
 ·lia
 ·next q =>
  have hn:top.natAbs≠0:=λe=>q (by simpa using e)
  have h2:top.natAbs<2 ^ 60:=by lia
  have:=(Nat.log2_lt hn).mpr h2
  lia
theorem FJ {tb:List Rt}{b z:Str}{v:Int}(h:(tb.map (·.1)).Nodup) (hz:(z,v)∈tb):(tb.filter λa=>PySem.Txt.startswith a.1 b).countP (λa=>ah a (z,v))=rk tb b z v:=by
 unfold rk
 rw [R8]
 refine Qh λa ha=>?_
 simp only [NA,ND]
 constructor
 ·rintro ⟨h3,h2⟩
  refine ⟨λq=>?_,h2,h3⟩
  have:a=(z,v):=by
   have l1:=As.cA h ha
   have l2:=As.cA h hz
   rw [q] at l1
   rw [l1] at l2
   exact Prod.ext q (Option.some.inj l2)
  rw [this,rA] at h3;cases h3
 ·rintro ⟨_,h2,h3⟩;exact ⟨h3,h2⟩
theorem lN {tb:List Rt}{z:Str}{t:Int}(k:Nat) (hz:(z,t)∈tb):(z,t / 2 ^ k)∈hv k tb:=NI.mpr ⟨_,hz,rfl⟩
theorem xf (k:Nat) (tb:List Rt) (b:Str):(hv k tb).filter (λa=>PySem.Txt.startswith a.1 b)=hv k (tb.filter λa=>PySem.Txt.startswith a.1 b):=by
 unfold hv
 rw [Qb];rfl
theorem AY (k:Nat) (tb:List Rt):(hv k tb).map (λa=>(a.1,a.2 / 2 ^ (min (1:Int) 60).toNat))=hv (k+1) tb:=by
 unfold hv
 rw [NV]
 refine N8 λa _=>?_
 show (a.1,a.2 / 2 ^ k / 2 ^ 1)=(a.1,a.2 / 2 ^ (k+1))
 rw [Int.ediv_ediv_of_nonneg (Int.le_of_lt (Int.pow_pos (by decide))),<- Int.pow_add]
theorem AZ (tb:List Rt):hv 0 tb=tb:=by
 unfold hv
 conv=>rhs;rw [<- List.map_id tb]
 exact N8 λa _=>by simp
inductive spWof (C:Addr) (ts:List T2.T) (S:Sto) (Q:T2.T->Sto->Prop):Prop
 |mk:∀ p d n ms z m,ts=[.ref p,.str z]->Wo C S p d n ms->look ms z=some m->m.2<=n->Q (.int (wrt m n)) S->spWof C ts S Q
theorem t6:FnScope vv2 vv2 (am iX):=by nofun
theorem DC (F:!"worth_of" "Wood.worth_of" iX) (T:!0) (HQ:!1 f1 Ie vv11 cN) (HR:Df K mg "worth_at" f1 Ie vv11)
  (Ia:!1 f2 IW vv2 (spMark C)) (Ib:Meth K C "mark_of" f2) (Ic:ay K IW vv2 []):!2 f fd vv2 (spWof C):=by
 exists t6
 refine ⟨_,((ag (ao (al HQ HR hr.m (ac (aU (T.gf Ib) Ia Ic hr.m (aa 0) (ac (aa 1) ae)) (ac (bJ T.gn (aa 0)) ae)))))),aw λv hu ts S Q h=>?_⟩
 obtain ⟨p,d,n,ms,z,m,rfl,⟨hw,hd⟩,hm,hn,hq⟩:=h
 ac_nf
 ext
 refine lK ⟨hw,hd⟩ hm ?_
 ext
 exact .mk hq
theorem cz (ms:Ms) (n:Int):(due ms n).map (·.1)=ms.map (·.1):=by unfold due;rw [NV];rfl
theorem xg {α β:Type}(p:α->Bool) (f:α->β) (l:List α):l.filterMap (λa=>if p a=true then some (f a) else none)=(l.filter p).map f:=by
 induction l with
 |nil=>rfl
 |cons a l ih =>
  rw [O9,Ou]
  by_cases e:p a=true
  ·rw [NC e,NC e];simp only [NF,ih]
  ·rw [NB e,NB e];exact ih
theorem qh (ms:Ms) (n:Int) (b:Str):rtd ms n b=(due ms n).filter λa=>PySem.Txt.startswith a.1 b:=by
 unfold rtd due aZ
 rw [Qb]
 rfl
inductive spAround (C:Addr) (ts:List T2.T) (S:Sto) (Q:T2.T->Sto->Prop):Prop
 |mk:∀ p d n ms b z m,ts=[.ref p,.str b,.str z]->Wo C S p d n ms->ms.length<=300->(∀ a∈ms,a.2.2<=n)->look ms z=some m->PySem.Txt.startswith z b=true->Q (.lst ((rtd ms n b).map rt)) S->spAround C ts S Q
theorem ud:FnScope dZ dZ (am i5):=by nofun
theorem xh (F:!"rated_around" i5) (T:!0)
  (Lc:!1 f1 Ie vv2 (spHas C)) (Ld:Meth K C "has" f1) (Lf:ay K Ie vv2 [])
  (HS:!2 f2 IW vv3 (spBegun C)) (HU:Meth K C "begun" f2) (HV:ay K IW vv3 []) :
  !3 f fd dZ (spAround C):=by
 exists ud
 refine ⟨_,((ai (aB (ci (aW (aU (T.gf Ld) Lc Lf hr.m (aa 0) (ac (aa 2) ae)))) (ag d7) aD) (ai (aB (ci (aW (bC Ox Qo Qp jZ (aa 2) (ac (aa 1) ae)))) (ag d7) aD) (ag (ao (aU (T.gf HU) HS HV hr.m (aa 0) (ac (aa 1) ae))))))),aw λv hu ts S Q h=>?_⟩
 obtain ⟨p,d,n,ms,b,z,m,rfl,W,hl,hn,hm,hb,hq⟩:=h
 have hw:=W.ins
 ac_nf
 ext
 refine ⟨p,d,n,ms,z,rfl,W,?_⟩
 rw [hm,R3]
 ext
 rw [hb]
 ext
 exact ⟨p,d,n,ms,b,rfl,W,hl,hn,.mk hq⟩
inductive spPass (ts:List T2.T) (S:Sto) (Q:T2.T->Sto->Prop):Prop
 |mk:∀ z last,ts=[.str z,rt last]->Q (.int (pass z last)) S->spPass ts S Q
theorem t7:FnScope ["word","last"] ["word","last"] (am iY):=by nofun
theorem A0 (F:!"worth_to_pass" iY) (T:!0) (HW:!2 f1 Ie cw spAhead) (HX:Df K mg "ahead_of" f1 Ie cw) :
  !3 f fd ["word","last"] spPass:=by
 exists t7
 refine ⟨_,((ag (ao (Ej (aW (al HW HX hr.m (ac (bO (ac (aa 0) (ac (ap (aa 1) af) ae))) (ac (aa 1) ae)))) (ap (aa 1) af) (aC (ba false) (ap (aa 1) af) af))))),aw λv hu ts S Q h=>?_⟩
 obtain ⟨z,last,rfl,hq⟩:=h
 ac_nf
 ext
 refine ⟨(z,last.2),last,rfl,?_⟩
 unfold pass at hq
 ext
 refine ifB (λhb=>?_) λhb=>?_
 ·rw [NC hb] at hq
  ext
  exact .mk hq
 ·rw [NB (by rw [hb];decide)] at hq
  ext
  exact .mk hq
inductive spUses (C:Addr) (ts:List T2.T) (S:Sto) (Q:T2.T->Sto->Prop):Prop
 |mk:∀ p d n ms b z m mk,ts=[.ref p,.str b,.str z,.int m]->Wo C S p d n ms->ms.length<=300->(∀ a∈ms,a.2.2<=n)->(ms.map (·.1)).Nodup->look ms z=some mk->PySem.Txt.startswith z b=true->1<=m->(∀ i,Lst (due ms n) b z (wrt mk n) m.toNat i->Q (.int i) S)->spUses C ts S Q
theorem ur:FnScope ["wood","beginning","word","many","others","best"] vv6 (am jb):=by nofun
theorem A8 (F:!"uses_needed" jb) (T:!0)
  (ID:!3 f1 Ie dZ (spAround C)) (IE:Df K mg "rated_around" f1 Ie dZ)
  (JC:!4 f2 IW d4 spBest) (JD:Df K mg "best_of" f2 IW d4)
  (JI:!3 f3 K0 ["word","last"] spPass) (JJ:Df K mg "worth_to_pass" f3 K0 ["word","last"])
  (JK:!2 f4 L6 vv2 (spWof C)) (JL:Meth K C "worth_of" f4) (JM:ay K L6 vv2 []) :
  !5 f fd vv6 (spUses C):=by
 exists ur
 refine ⟨_,((ai (cL false (i:=4) ["pair","word"] 1 [2] rfl nd rfl (Or.inl rfl) (aS rfl (al ID IE hr.m (ac (aa 0) (ac (aa 1) (ac (aa 2) ae))))) (λ_ _ _ _=>(av 0 (show List.Nodup (["pair","word"]:List Str) from by decide +kernel))) (λ_ _ _ _=>(dC (aI (b8 rfl hr.units) (ap (aa 0) af) (aa 1)))) (λ_ _ _ _=>(aa 0))) (ai (aA 5 nd (al JC JD hr.m (ac (aa 4) (ac (aa 3) ae)))) (ai (aB (aI cZ (aL (bf rfl) T.len Oj (ac (aa 5) ae)) (aa 3)) (ag (ao af)) aD) (ag (ao (aL (C1 rfl) T.max Rz (ac af (ac (aC iy (al JI JJ hr.m (ac (aa 2) (ac (ap (aa 5) (fY af)) ae))) (aU (T.gf JL) JK JM hr.m (aa 0) (ac (aa 2) ae))) ae))))))))),aw λv hu ts S Q h=>?_⟩
 obtain ⟨p,d,n,ms,b,z,m,mk,rfl,W,hl,hn,JE,Ju,hsz,hm,hq⟩:=h
 have hw:=W.ins
 ac_nf
 ext
 refine ⟨p,d,n,ms,b,z,mk,rfl,W,by lia,hn,Ju,hsz,?_⟩
 have hdn:((due ms n).map (·.1)).Nodup:=by rw [cz];exact JE
 have hrl:=fM ms n b
 rw [qh] at hrl ⊢
 ext
 refine cM rt (λa:Rt=>if decide (a.1≠z)=true then some (rt a) else none) [some (.str z)] (by trivial) (by rw [N3];lia) (λa ha u HI N HN hN=>?_) ?_
 ·ext
  refine ifB (λhb=>?_) λhb=>?_
  ·ext
   rw [NC (by simpa using hb)] at hN
   exact ⟨HN,hN _⟩
  ·rw [NB (by simpa using hb)] at hN
   simpa using hN (some (rt a))
 rw [xg (λa:Rt=>decide (a.1≠z)) rt]
 rw [show ((due ms n).filter λa=>PySem.Txt.startswith a.1 b).filter (λa:Rt=>decide (a.1≠z))=oth (due ms n) b z from rfl]
 ext
 refine ⟨_,oth (due ms n) b z,m,rfl,rfl,rK hdn,by lia,?_⟩
 ext
 refine ifB (λhb=>?_) λhb=>?_
 ·have IY:=Om hb
  ext
  exact .mk (hq 0 (.few (by lia)))
 ·have IY:=OD hb
  have Ik:((bst (oth (due ms n) b z)).take m.toNat).length=m.toNat:=by
   have:=List.length_take_le m.toNat (bst (oth (due ms n) b z))
   lia
  have M6:m.toNat - 1<(bst (oth (due ms n) b z)).length:=by
   rw [Of] at Ik;lia
  have Je:=PC M6
  generalize (bst (oth (due ms n) b z))[m.toNat - 1]=last at Je
  ext
  refine mh (qg (a:=last) ?_) ?_
  ·rw [Sq,Ik,List.getElem?_take,NC (by lia)];exact Je
  ext
  refine ⟨z,last,rfl,?_⟩
  ext
  refine ⟨p,d,n,ms,z,mk,rfl,W,Ju,hn _ (As.cb Ju),?_⟩
  ext
  rw [show (if pass z last - wrt mk n>0 then pass z last - wrt mk n else 0)=max 0 (pass z last - wrt mk n) by split<;>lia]
  exact .mk (hq _ (.pass hdn (by lia) Je))
def oT:Option Nat->T2.T
 |none=>.non
 |some k=>.int (k:Int)
theorem Fst.uniq {P:Nat->Prop}{N:Nat}{r s:Option Nat}(h1:Fst P N r) (h2:Fst P N s):r=s:=by
 cases r with
 |none =>
  cases s with
  |none=>rfl
  |some l=>exact (h1 l h2.1 h2.2.1).elim
 |some k =>
  cases s with
  |none=>exact (h2 k h1.1 h1.2.1).elim
  |some l =>
   congr 1
   rcases Sj k l with q|q|q
   ·exact (h2.2.2 k q h1.2.1).elim
   ·exact q
   ·exact (h1.2.2 l q h2.2.1).elim
theorem Fst.up {P:Nat->Prop}{N M:Nat}{r:Option Nat}(hNM:N<=M) (hc:∀ k,N<=k->P k->P N) (h:Fst P N r):Fst P M r:=by
 cases r with
 |none =>
  intro j hj hp
  by_cases q:j<=N
  ·exact h j q hp
  ·exact h N (NE _) (hc j (by lia) hp)
 |some k=>exact ⟨NZ h.1 hNM,h.2⟩
theorem Fst.perm {tb LN:List Rt}(p:tb.Perm LN){b z:Str}{t:Int}{m N:Nat}{r:Option Nat}(h:Fst (Pk tb b z t m) N r):Fst (Pk LN b z t m) N r:=by
 cases r with
 |none=>exact λj hj hp=>h j hj ((kT p).mpr hp)
 |some k=>exact ⟨h.1,(kT p).mp h.2.1,λj hj hp=>h.2.2 j hj ((kT p).mpr hp)⟩
inductive spFadedL (ts:List T2.T) (S:Sto) (Q:T2.T->Sto->Prop):Prop
 |mk:∀ (l:List Rt) (k:Nat),ts=[.lst (l.map rt),.int k]->l.length<=300->Q (.lst ((hv k l).map rt)) S->spFadedL ts S Q
theorem yM:FnScope gz gz (am ko):=by nofun
theorem xi (F:!"faded" ko) (T:!0) (HQ:!1 f1 Ie vv11 cN) (HR:Df K mg "worth_at" f1 Ie vv11) :
  !2 f fd gz spFadedL:=by
 exists yM
 refine ⟨_,((ag (ao (bS false ["word","worth","eras"] 2 [1] rfl (aS rfl (aa 0)) (λ_ _ _ _=>(bI (λh=>bF (n:=2) rfl rfl h) (aK (av 0 (show List.Nodup (["word","worth","eras"]:List Str) from by decide +kernel)) (aK (av 1 (show List.Nodup (["word","worth","eras"]:List Str) from by decide +kernel)) bG (λh1 h2=>aJ h1 h2)) (λh1 h2=>aJ h1 h2)))) (λ_ _ _ _=>bH) (λ_ _ _ _=>(bO (ac (aa 0) (ac (al HQ HR hr.m (ac (bO (ac (aa 1) (ac af ae))) (ac (aa 2) ae))) ae)))))))),aw λv hu ts S Q h=>?_⟩
 obtain ⟨l,k,rfl,hl,hq⟩:=h
 ac_nf
 ext
 rw [show l.map rt=l.map (λa:Rt=>T2.T.tup [.str a.1,.int a.2]) from rfl]
 refine bY (λa:Rt=>T2.T.tup [.str a.1,.int a.2]) (λa:Rt=>some (rt (a.1,a.2 / 2 ^ k))) [some (.int (k:Int))] (by trivial) (by rw [N3];lia) (λa ha u v HI N HN hN=>?_) ?_
 ·ext
  refine ⟨(a.2,0),(k:Int),rfl,by lia,?_⟩
  ext
  refine ⟨HN,?_⟩
  have:=hN (some (.str a.1)) (some (.int a.2))
  rw [show wrt (a.2,0) (k:Int)=a.2 / 2 ^ k by simp [wrt]]
  exact this
 rw [Wm.bM,show l.map (λa:Rt=>rt (a.1,a.2 / 2 ^ k))=(hv k l).map rt by unfold hv;rw [NV];rfl]
 exact .mk hq
inductive spRankOf (ts:List T2.T) (S:Sto) (Q:T2.T->Sto->Prop):Prop
 |mk:∀ (l:List Rt) (z:Str) (v:Int),ts=[.lst (l.map rt),.str z]->l.length<=300->(l.map (·.1)).Nodup->(z,v)∈l->Q (.int (l.countP λa=>ah a (z,v))) S->spRankOf ts S Q
theorem vN:FnScope ["rated","word","pair"] ["rated","word"] (am jM):=by nofun
theorem xj (F:!"rank_of" jM) (T:!0) (HW:!2 f1 Ie cw spAhead) (HX:Df K mg "ahead_of" f1 Ie cw) :
  !3 f fd ["rated","word"] spRankOf:=by
 exists vN
 refine ⟨_,((ai (bT OJ rfl (aS rfl (aa 0)) (av 2 nd) (ag (aB (bd hr (ap (aa 2) af) (aa 1)) (ag (ao (aL (bf rfl) T.len Oj (ac (bS false ["other","pair"] 1 [2] rfl (aS rfl (aa 0)) (λ_ _ _ _=>(av 0 (show List.Nodup (["other","pair"]:List Str) from by decide +kernel))) (λ_ _ _ _=>(dC (aW (al HW HX hr.m (ac (aa 0) (ac (aa 1) ae)))))) (λ_ _ _ _=>(aa 0))) ae)))) aD))) (ag (ao cS)))),aw λv hu ts S Q h=>?_⟩
 obtain ⟨l,z,v,rfl,hl,hn,hz,hq⟩:=h
 ac_nf
 ext
 refine dD (λrest HD S'=>∃ pre u,pre++rest=l/\z∉pre.map (·.1)/\S'=S/\HD=[some (.lst (l.map rt)),some (.str z),u]) ⟨[],none,rfl,by simp,rfl,rfl⟩ ?_ ?_
 ·rintro a rest HD S' N ⟨pre,u,HP,Lw,rfl,rfl⟩ hN
  refine ⟨trivial,?_⟩
  have ha:a∈l:=by rw [<- HP];simp
  ext
  refine ifB (λhb=>?_) λhb=>?_
  ·have ez:a.1=z:=by simpa using hb
   have ea:a=(z,v):=by
    have l1:=As.cA hn ha
    have l2:=As.cA hn hz
    rw [ez] at l1
    rw [l1] at l2
    exact Prod.ext ez (Option.some.inj l2)
   subst ea
   ext
   refine cM rt (λa:Rt=>if ah a (z,v)=true then some (rt a) else none) [some (rt (z,v))] (by trivial) (by rw [N3];lia) (λa ha u HI N HN hN=>?_) ?_
   ·ext
    refine ifB (λhb=>?_) λhb=>?_
    ·ext
     rw [NC hb] at hN
     exact ⟨HN,hN _⟩
    ·rw [NB (by rw [hb];decide)] at hN
     simpa using hN (some (rt a))
   ext
   rw [Rk.rF]
   exact .mk hq
  ·have ez:¬ a.1=z:=by simpa using hb
   ext
   refine hN _ _ ⟨pre++[a],_,by rw [<- HP];simp,?_,rfl,rfl⟩
   rw [Og,NL]
   rintro (h|h)
   ·exact Lw h
   ·simp only [NF,Pr,N1] at h
    exact ez h.symm
 ·rintro HD S' ⟨pre,u,HP,Lw,rfl,rfl⟩
  rw [N4] at HP
  subst HP
  exact (Lw (NI.mpr ⟨_,hz,rfl⟩)).elim
inductive spFneed (C:Addr) (ts:List T2.T) (S:Sto) (Q:T2.T->Sto->Prop):Prop
 |mk:∀ p d n ms b z m mk,ts=[.ref p,.str b,.str z,.int m]->Wo C S p d n ms->ms.length<=300->(∀ a∈ms,a.2.2<=n)->(ms.map (·.1)).Nodup->((∀ a∈due ms n,0<=a.2/\a.2<10 ^ 15))->look ms z=some mk->PySem.Txt.startswith z b=true->1<=m->(∀ r,Fst (Pk (due ms n) b z (wrt mk n) m.toNat) 60 r->Q (oT r) S)->spFneed C ts S Q
theorem ue:FnScope ["wood","beginning","word","many","rated","eras"] vv6 (am i6):=by nofun
theorem yN (F:!"fades_needed" i6) (T:!0)
  (ID:!3 f1 Ie dZ (spAround C)) (IE:Df K mg "rated_around" f1 Ie dZ)
  (LH:!3 f2 IW ["rated","word"] spRankOf) (LI:Df K mg "rank_of" f2 IW ["rated","word"])
  (MA:!2 f3 K0 gz spFadedL) (MB:Df K mg "faded" f3 K0 gz)
  (Iq:!3 f4 L6 vv3 (spTop C)) (Ir:Meth K C "top_of" f4) (Iu:ay K L6 vv3 []) :
  !4 f fd vv6 (spFneed C):=by
 exists ue
 refine ⟨_,((ai (aA 4 nd (al ID IE hr.m (ac (aa 0) (ac (aa 1) (ac (aa 2) ae))))) (ai (bT OJ rfl (fz (by rfl) T.range (aC (ba false) (C6 (aU (T.gf Ir) Iq Iu hr.m (aa 0) (ac (aa 1) ae))) af)) (av 5 nd) (ag (aB (aI cZ (al LH LI hr.m (ac (al MA MB hr.m (ac (aa 4) (ac (aa 5) ae))) (ac (aa 2) ae))) (aa 3)) (ag (ao (aa 5))) aD))) (ag (ao cS))))),aw λv hu ts S Q h=>?_⟩
 obtain ⟨p,d,n,ms,b,z,m,mk,rfl,W,hl,hn,JE,hge,Ju,hsz,hm,hq⟩:=h
 have hw:=W.ins
 have hdn:((due ms n).map (·.1)).Nodup:=by rw [cz];exact JE
 have Jr:(z,wrt mk n)∈due ms n:=NI.mpr ⟨_,As.cb Ju,rfl⟩
 ac_nf
 ext
 refine ⟨p,d,n,ms,b,z,mk,rfl,W,by lia,hn,Ju,hsz,?_⟩
 ext
 refine ⟨p,d,n,ms,b,rfl,W,by lia,hn,λh0=>?_,λ_ top MQ ht2=>?_⟩
 ·exfalso
  have:(z,mk)∈aZ ms b:=Oc.mpr ⟨As.cb Ju,hsz⟩
  rw [h0] at this;cases this
 have hmax:∀ a∈due ms n,PySem.Txt.startswith a.1 b=true->a.2<=top:=λa ha hs=>by
  obtain ⟨x,hx,rfl⟩:=NI.mp ha
  exact ht2 _ (NI.mpr ⟨x,Oc.mpr ⟨hx,hs⟩,rfl⟩)
 have htop:0<=top/\top<10 ^ 15:=by
  obtain ⟨x,hx,rfl⟩:=NI.mp MQ
  exact hge (x.1,wrt x.2 n) (NI.mpr ⟨x,(Oc.mp hx).1,rfl⟩)
 have Nl:Builtin.Int.intBits top<=60:=AX htop.1 (by lia)
 have hc:∀ k,Builtin.Int.intBits top<=k->Pk (due ms n) b z (wrt mk n) m.toNat k->Pk (due ms n) b z (wrt mk n) m.toNat (Builtin.Int.intBits top):=λk hk=>pb (λa ha=>(hge a ha).1) hmax Jr hsz (AW htop.1) k hk
 have hrl:=fM ms n b
 rw [qh] at hrl ⊢
 dsimp only
 refine ⟨top,rfl,?_⟩
 generalize hNN:Builtin.Int.intBits top=NN at Nl hc ⊢
 ext
 refine gF (λk HD S'=>∃ u,S'=S/\(∀ j,j<k->¬ Pk (due ms n) b z (wrt mk n) m.toNat j)/\HD=[some (.ref p),some (.str b),some (.str z),some (.int m),some (.lst (((due ms n).filter λa=>PySem.Txt.startswith a.1 b).map rt)),u]) ⟨none,rfl,λj hj=>absurd hj (RG _),rfl⟩ ?_ ?_
 ·rintro k HD S' N hk ⟨u,rfl,Lw,rfl⟩ hN
  refine ⟨trivial,?_⟩
  ext
  rw [Int.zero_add]
  refine ⟨_,k,rfl,by lia,?_⟩
  ext
  have hpk:(hv k ((due ms n).filter λa=>PySem.Txt.startswith a.1 b)).countP (λa=>ah a (z,wrt mk n / 2 ^ k))=rk (hv k (due ms n)) b z (wrt mk n / 2 ^ k):=by
   rw [<- xf]
   exact FJ (by rw [hW];exact hdn) (lN k Jr)
  refine ⟨_,z,wrt mk n / 2 ^ k,rfl,by unfold hv;rw [Nz];lia,by rw [hW];exact hdn.sublist (List.Sublist.map _ QD),lN k (Oc.mpr ⟨Jr,hsz⟩),?_⟩
  rw [hpk]
  ext
  refine ifB (λhb=>?_) λhb=>?_
  ·have h1:Pk (due ms n) b z (wrt mk n) m.toNat k:=by
    have:=Om hb
    unfold Pk;lia
   ext
   exact .mk (hq (some k) (Fst.up (N:=NN) Nl hc ⟨by lia,h1,Lw⟩))
  ·have h1:¬ Pk (due ms n) b z (wrt mk n) m.toNat k:=by
    have:=OD hb
    unfold Pk;lia
   ext
   refine hN _ _ ⟨_,rfl,λj hj=>?_,rfl⟩
   rcases Nat.lt_or_eq_of_le (Nat.le_of_lt_succ hj) with q|q
   ·exact Lw j q
   ·rw [q];exact h1
 ·rintro HD S' ⟨u,rfl,Lw,rfl⟩
  refine ⟨trivial,?_⟩
  ext
  exact .mk (hq none (Fst.up (N:=NN) Nl hc λj hj=>Lw j (by lia)))
theorem eQ {S:Sto}{a b:Addr}{o:O}(h1:S a=some o) (h2:S b=none):a≠b:=λe=>by rw [e,h2] at h1;cases h1
structure At (S:Sto) (l:List (Addr×O)):Prop where
 nd:(l.map (·.1)).Nodup
 is:∀ x∈l,S x.1=some x.2
section
variable {S S' S0:Sto}{l l' l0 l1 l2 l3:List (Addr×O)}{a:Addr}{o o':O}
theorem At.get (h:At S l) (i:Nat) (e:l[i]?=some (a,o)):S a=some o:=h.is _ (PV e)
theorem A9 {i:Nat}(e:l[i]?=some (a,o)):(l.set i (a,o')).map (·.1)=l.map (·.1):=by
 rw [List.map_set]
 refine List.ext_getElem? λj=>?_
 rw [List.getElem?_set]
 by_cases h:i=j
 ·subst h;rw [NC rfl,NC (by rw [Nz];exact (Oa.mp e).1),O5,e];rfl
 ·rw [NB h]
theorem At.put (h:At S l) (i:Nat) (e:l[i]?=some (a,o)):At (T2.put S a o') (l.set i (a,o')):=by
 obtain ⟨hi,e2⟩:=Oa.mp e
 refine ⟨A9 e ▸ h.nd,λx hx=>?_⟩
 obtain ⟨j,hj,ej⟩:=Ot.mp hx
 rw [List.length_set] at hj
 rw [List.getElem_set] at ej
 split at ej
 ·subst ej;exact ax
 ·rename_i hij
  have Jc:x.1≠a:=λq=>by
   have h1:=(Sr (i:=i) (j:=j) (h₀:=by rw [Nz];exact hi) (h₁:=by rw [Nz];exact hj) h.nd).mp (by rw [Qw,Qw,e2,ej,q])
   exact hij h1
  rw [aq Jc]
  exact h.is x (by rw [<- ej];exact Pu hj)
theorem At.new (h:At S l) (ha:S a=none):At (T2.put S a o) l:=⟨h.nd,λx hx=>(aq (eQ (h.is x hx) ha)).trans (h.is x hx)⟩
theorem At.keep (h:At S l) (k:∀ a u,S a=some u->S' a=some u):At S' l:=⟨h.nd,λx hx=>k _ _ (h.is x hx)⟩
structure Up (S0:Sto) (l0:List (Addr×O)) (S:Sto) (l:List (Addr×O)):Prop where
 at_:At S l
 ks:l.map (·.1)=l0.map (·.1)
 fr:∀ a,a∉l0.map (·.1)->S a=S0 a
end
section
variable {C:Addr}{S S':Sto}{l l':List (Addr×O)}{a b y p d v h:Addr}{o u:O}
theorem At.ne (h:At S l) (i j:Nat) (hij:i≠j) (ei:l[i]?=some (a,o)) (ej:l[j]?=some (b,u)):a≠b:=λq=>by
 obtain ⟨hi,e2⟩:=Oa.mp ei
 obtain ⟨hj,e3⟩:=Oa.mp ej
 exact hij ((Sr (i:=i) (j:=j) (h₀:=by rw [Nz];exact hi) (h₁:=by rw [Nz];exact hj) h.nd).mp (by rw [Qw,Qw,e2,e3];exact q))
theorem At.pick (h:At S l) (is:List Nat) (hn:is.Nodup) (e:is.map (l[·]?)=l'.map some):At S l':=by
 induction is generalizing l' with
 |nil=>cases l' with
  |nil=>exact ⟨SA,λx hx=>nomatch hx⟩
  |cons _ _=>cases e
 |cons i is ih =>
  cases l' with
  |nil=>cases e
  |cons x r =>
   rw [NF,NF,Pc] at e
   have q:=ih (Ov.mp hn).2 e.2
   refine ⟨Ov.mpr ⟨λhm=>?_,q.nd⟩,λz hz=>?_⟩
   ·obtain ⟨z,hz,hzx⟩:=NI.mp hm
    have L3:some z∈is.map (l[·]?):=by rw [e.2];exact N0 hz
    obtain ⟨j,hj,ej⟩:=NI.mp L3
    exact h.ne i j (λq=>(Ov.mp hn).1 (by rw [q];exact hj)) (a:=x.1) (o:=x.2) (b:=z.1) (u:=z.2) e.1 ej hzx.symm
   ·rcases NR.mp hz with rfl|hz
    ·exact h.is _ (PV e.1)
    ·exact q.is z hz
theorem At.cons (h:At S l) (ha:S a=none):At (T2.put S a o) ((a,o)::l):=by
 refine ⟨Ov.mpr ⟨λhm=>?_,h.nd⟩,λx hx=>?_⟩
 ·obtain ⟨x,hx,e⟩:=NI.mp hm
  exact eQ (h.is x hx) ha e
 ·rcases NR.mp hx with rfl|hx
  ·exact ax
  ·exact (aq (eQ (h.is x hx) ha)).trans (h.is x hx)
end
theorem gS (ms:Ms) (n:Int) (z:Str):look (due ms n) z=(look ms z).map λm=>wrt m n:=ki (λm=>wrt m n) z ms
theorem km (c n:Int):wrt (c,n) n=c:=by simp [wrt]
theorem yO {m:Int×Int}{n t:Int}(h:m.2<=n) (ht:0<=t):wrt m (n+t)=wrt m n / 2 ^ t.toNat:=by
 unfold wrt
 rw [Int.ediv_ediv_of_nonneg (Int.le_of_lt (Int.pow_pos (by decide))),<- Int.pow_add]
 congr 2
 lia
theorem qi:∀ {l:List Rt},l≠[]->bX l∈l.map (·.2)/\∀ j∈l.map (·.2),j<=bX l
 |[],h=>absurd rfl h
 |a::l,_=>by
  rw [bX]
  by_cases e:∀ b∈l,b.2<=a.2
  ·rw [NC e]
   refine ⟨by simp,λj hj=>?_⟩
   rcases NR.mp hj with h|h
   ·rw [h];exact PZ _
   ·obtain ⟨b,hb,rfl⟩:=NI.mp h
    exact e b hb
  ·rw [NB e]
   have Jc:l≠[]:=λh=>e (by rw [h];simp)
   obtain ⟨h1,h2⟩:=qi Jc
   refine ⟨NQ _ h1,λj hj=>?_⟩
   rcases NR.mp hj with h|h
   ·rw [h]
    have:∃ b∈l,a.2<b.2:=by
     refine QN λq=>e λb hb=>?_
     refine Int.not_lt.mp λz=>q ⟨b,hb,z⟩
    obtain ⟨b,hb,K6⟩:=this
    have:=h2 b.2 (N0 hb)
    show a.2<=_
    lia
   ·exact h2 j h
theorem lP:∀ {l m:List Str},l.Pairwise (λx y=>Ky.lt (.s y) (.s x)=false)->m.Pairwise (λx y=>Ky.lt (.s y) (.s x)=false)->l.Perm m->l=m
 |[],m,_,_,p=>by rw [List.nil_perm.mp p]
 |a::l,[],_,_,p=>by cases p.length_eq
 |a::l,b::m,hl,hm,p=>by
  obtain ⟨l1,l2⟩:=OF.mp hl
  obtain ⟨m1,m2⟩:=OF.mp hm
  have ha:a∈b::m:=p.mem_iff.mp (NM ..)
  have hb:b∈a::l:=p.mem_iff.mpr (NM ..)
  have e:a=b:=by
   rcases NR.mp ha with q|q
   ·exact q
   ·rcases NR.mp hb with q2|q2
    ·exact q2.symm
    ·have h1:=m1 a q
     have h2:=l1 b q2
     rcases Ky.tri (x:=.s a) (y:=.s b) rfl with z|z|z
     ·rw [z] at h1;cases h1
     ·exact Ky.s.inj z
     ·rw [z] at h2;cases h2
  subst e
  rw [lP l2 m2 (List.perm_cons a |>.mp p)]
structure Tb (k:Nat) (l:List Rt):Prop where
 nd:(l.map (·.1)).Nodup
 wd:∀ a∈l,Wm.Wd a.1=true
 ge:∀ a∈l,0<=a.2/\a.2<=1000000000+40 * (k:Int)
 len:l.length<=k
theorem Tb.perm {k:Nat}{l l':List Rt}(h:Tb k l) (p:l.Perm l'):Tb k l' :=
 ⟨(p.map _).nodup_iff.mp h.nd,λa ha=>h.wd a (p.mem_iff.mpr ha),λa ha=>h.ge a (p.mem_iff.mpr ha),by rw [<- p.length_eq];exact h.len⟩
theorem Tb.up {k:Nat}{l:List Rt}(h:Tb k l):Tb (k+1) l:=⟨h.nd,h.wd,λa ha=>by have:=h.ge a ha;exact ⟨this.1,by lia⟩,by have:=h.len;lia⟩
theorem Tb.put {k:Nat}{l:List Rt}{z:Str}{c:Int}(h:Tb k l) (hz:Wm.Wd z=true) (hn:look l z=none) (h0:0<=c) (h1:c<=1000000000):Tb (k+1) (l++[(z,c)]):=by
 have u:=h.up
 refine ⟨?_,λa ha=>?_,λa ha=>?_,by rw [NJ,OQ];have:=h.len;lia⟩
 ·rw [Og,PU]
  exact ⟨h.nd,by simp,λa ha b hb e=>bK.mp hn (by rw [show z=a from (e.trans (N1.mp hb)).symm];exact ha)⟩
 ·rcases NL.mp ha with q|q
  ·exact h.wd a q
  ·rw [N1.mp q];exact hz
 ·rcases NL.mp ha with q|q
  ·exact u.ge a q
  ·rw [N1.mp q];exact ⟨h0,by show c<=1000000000+40 * ((k+1:Nat):Int);lia⟩
theorem Tb.use {k:Nat}{l:List Rt}{z:Str}{v t:Int}(h:Tb k l) (hv:look l z=some v) (h0:0<=t) (h1:t<=40):Tb (k+1) (pu l z (v+t)):=by
 have Jr:=cb hv
 have hk:z∈l.map (·.1):=N0 (f:=(·.1)) Jr
 have hl:(pu l z (v+t)).length=l.length:=by
  have:=Ow List.length (qd (x:=v+t) hk)
  simpa using this
 refine ⟨by rw [qd _ hk];exact h.nd,λa ha=>?_,λa ha=>?_,by have:=h.len;lia⟩
 ·rcases lH ha with q|q
  ·exact h.wd a q
  ·subst q;exact (h.wd (z,v) Jr:Wm.Wd z=true)
 ·rcases lH ha with q|q
  ·exact h.up.ge a q
  ·subst q
   have q1:0<=v/\v<=1000000000+40 * (k:Int):=h.ge _ Jr
   show 0<=v+t/\v+t<=_
   lia
theorem Tb.strike {k:Nat}{l:List Rt}{z:Str}(h:Tb k l):Tb (k+1) (dr l z):=by
 have Mz:∀ a∈dr l z,a∈l:=λa ha=>(Oc.mp ha).1
 refine ⟨by rw [Az];exact h.nd.filter _,λa ha=>h.wd a (Mz a ha),λa ha=>h.up.ge a (Mz a ha),?_⟩
 exact NZ (Pd _ _) (Ra h.len)
theorem Tb.fade {k:Nat}{l:List Rt}{t:Nat}(h:Tb k l):Tb (k+1) (hv t l):=by
 refine ⟨by rw [hW];exact h.nd,λa ha=>?_,λa ha=>?_,by unfold hv;rw [Nz];have:=h.len;lia⟩
 ·obtain ⟨x,hx,rfl⟩:=NI.mp ha
  exact h.wd x hx
 ·obtain ⟨x,hx,rfl⟩:=NI.mp ha
  have q:=h.ge x hx
  have q1:x.2 / 2 ^ t<=x.2:=Int.ediv_le_self _ q.1
  have q2:0<=x.2 / 2 ^ t:=Int.ediv_nonneg q.1 (Int.le_of_lt (Int.pow_pos (by decide)))
  exact ⟨q2,by show x.2 / 2 ^ t<=_;lia⟩
def ddu (Il:Int) (z:Str) (c t:Int) (l:List Rt):List Rt:=if Il=5 then hv t.toNat l else match look l z with
 |none=>l++[(z,c)]
 |some v=>if Il<3 then pu l z (v+t) else dr l z
def dd (Il:Int) (z:Str) (c t n:Int) (ms:Ms):Ms:=if Il=5 then ms else match look ms z with
 |none=>ms++[(z,c,n)]
 |some m=>if Il<3 then pu ms z (wrt m n+t,n) else dr ms z
def dn (Il t n:Int):Int:=if Il=5 then n+t else n
theorem rL {ms:Ms}{n t:Int}(h:∀ a∈ms,a.2.2<=n) (ht:0<=t):due ms (n+t)=hv t.toNat (due ms n):=by
 unfold due hv
 rw [NV]
 refine N8 λa ha=>?_
 show (a.1,wrt a.2 (n+t))=(a.1,wrt a.2 n / 2 ^ t.toNat)
 rw [yO (h a ha) ht]
theorem rM {Il c t n:Int}{z:Str}{ms:Ms}(h:∀ a∈ms,a.2.2<=n) (ht:0<=t):due (dd Il z c t n ms) (dn Il t n)=ddu Il z c t (due ms n):=by
 unfold dd dn ddu
 by_cases e:Il=5
 ·rw [NC e,NC e,NC e];exact rL h ht
 ·rw [NB e,NB e,NB e,gS]
  cases q:look ms z with
  |none =>
   show due (ms++[(z,c,n)]) n=due ms n++[(z,c)]
   unfold due
   rw [Og];simp only [NF,Pr,km]
  |some m =>
   show due (if Il<3 then pu ms z (wrt m n+t,n) else dr ms z) n=if Il<3 then pu (due ms n) z (wrt m n+t) else dr (due ms n) z
   by_cases e3:Il<3
   ·rw [NC e3,NC e3]
    have:=Dg (λm:Int×Int=>wrt m n) ms z (wrt m n+t,n)
    rw [km] at this
    exact this.symm
   ·rw [NB e3,NB e3]
    exact (Dh (λm:Int×Int=>wrt m n) ms z).symm
theorem sV {Il c t n:Int}{z:Str}{ms:Ms}(h:∀ a∈ms,a.2.2<=n) (ht:0<=t):∀ a∈dd Il z c t n ms,a.2.2<=dn Il t n:=by
 intro a ha
 unfold dd at ha
 unfold dn
 by_cases e:Il=5
 ·rw [NC e] at ha ⊢
  have:=h a ha;lia
 ·rw [NB e] at ha ⊢
  cases q:look ms z with
  |none =>
   rw [q] at ha
   rcases NL.mp ha with q|q
   ·exact h a q
   ·rw [N1.mp q];exact PZ _
  |some m =>
   rw [q] at ha
   dsimp only at ha
   split at ha
   ·rcases lH ha with q|q
    ·exact h a q
    ·subst q;exact PZ _
   ·exact h a (Oc.mp ha).1
theorem og {l l':List Rt}(hn:(l.map (·.1)).Nodup) (p:l.Perm l') (z:Str):look l z=look l' z:=by
 have hn':(l'.map (·.1)).Nodup:=(p.map _).nodup_iff.mp hn
 cases q:look l z with
 |none =>
  have:z∉l'.map (·.1):=λh=>bK.mp q ((p.map _).mem_iff.mpr h)
  exact (bK.mpr this).symm
 |some v=>exact (cA hn' (a:=(z,v)) (p.mem_iff.mp (cb q))).symm
theorem Ba {l l':List Rt}(p:l.Perm l') (z:Str) (x:Int):(pu l z x).Perm (pu l' z x):=by
 unfold pu
 rw [p.any_eq]
 split
 ·exact p.map _
 ·exact p.append_right _
theorem yP {Il c t:Int}{z:Str}{l l':List Rt}(hn:(l.map (·.1)).Nodup) (p:l.Perm l'):(ddu Il z c t l).Perm (ddu Il z c t l'):=by
 unfold ddu
 rw [og hn p]
 split
 ·exact p.map _
 ·split
  ·exact p.append_right _
  ·split
   ·exact Ba p _ _
   ·exact p.filter _
theorem Tb.step {k:Nat}{Il c t:Int}{z:Str}{l:List Rt}(h:Tb k l) (hz:Wm.Wd z=true) (h0:0<=c) (h1:c<=1000000000) (ht:0<=t) (MQ:t<=40):Tb (k+1) (ddu Il z c t l):=by
 unfold ddu
 split
 ·exact h.fade
 ·split
  ·next q=>exact h.put hz q h0 h1
  ·next q =>
   split
   ·exact h.use q ht MQ
   ·exact h.strike
structure Wx where
 p:Addr
 d:Addr
 n:Int
 ms:Ms
def Wx.t (A:Wx):List Rt:=due A.ms A.n
def Wx.o (A:Wx):O:=.ins C [("marks",.ref A.d),("now",.int A.n)]
def Wx.nx (A:Wx) (Il:Int) (z:Str) (c t:Int):Wx:=⟨A.p,A.d,dn Il t A.n,dd Il z c t A.n A.ms⟩
structure Bi (k:Nat) (A B:Wx):Prop where
 tb:Tb k A.t
 ea:∀ x∈A.ms,x.2.2<=A.n
 eb:∀ x∈B.ms,x.2.2<=B.n
 p:A.t.Perm B.t
theorem Bi.next {k:Nat}{A B:Wx}{Il c t:Int}{z:Str}(h:Bi k A B) (hz:Wm.Wd z=true) (h0:0<=c) (h1:c<=1000000000) (ht:0<=t) (MQ:t<=40):Bi (k+1) (A.nx Il z c t) (B.nx Il z c t):=by
 have e1:(A.nx Il z c t).t=ddu Il z c t A.t:=rM h.ea ht
 have e2:(B.nx Il z c t).t=ddu Il z c t B.t:=rM h.eb ht
 exact ⟨by rw [e1];exact h.tb.step hz h0 h1 ht MQ,sV h.ea ht,sV h.eb ht,by rw [e1,e2];exact yP h.tb.nd h.p⟩
structure G1 (k:Nat) (n:Int) (ms:Ms):Prop where
 len:ms.length<=k
 er:∀ a∈ms,a.2.2<=n
 nd:(ms.map (·.1)).Nodup
 wd:∀ a∈ms,Wm.Wd a.1=true
 ge:∀ a∈due ms n,0<=a.2/\a.2<10 ^ 15
theorem Tb.g {k:Nat}{n:Int}{ms:Ms}(h:Tb k (due ms n)) (hk:k<=200) (e:∀ a∈ms,a.2.2<=n):G1 k n ms:=by
 refine ⟨?_,e,by rw [<- cz ms n];exact h.nd,λa ha=>?_,λa ha=>?_⟩
 ·have:=h.len;unfold due at this;rw [Nz] at this;exact this
 ·exact h.wd (a.1,wrt a.2 n) (NI.mpr ⟨a,ha,rfl⟩)
 ·have:=h.ge a ha;exact ⟨this.1,by lia⟩
theorem Bi.ga {k:Nat}{A B:Wx}(h:Bi k A B) (hk:k<=200):G1 k A.n A.ms:=h.tb.g hk h.ea
theorem Bi.gb {k:Nat}{A B:Wx}(h:Bi k A B) (hk:k<=200):G1 k B.n B.ms:=(h.tb.perm h.p).g hk h.eb
def two (A B:Wx) (wl b:Addr) (o:O):List (Addr×O):=[(A.p,A.o),(A.d,.dK (kt mkT A.ms)),(B.p,B.o),(B.d,.dK (kt mkT B.ms)),(wl,.lst [.ref A.p,.ref B.p]),(b,o)]
section
variable {S S':Sto}{A B:Wx}{wl b:Addr}{o o':O}
theorem At.wa (h:At S (two A B wl b o)):Wo C S A.p A.d A.n A.ms:=⟨h.get 0 rfl,h.get 1 rfl⟩
theorem At.wb (h:At S (two A B wl b o)):Wo C S B.p B.d B.n B.ms:=⟨h.get 2 rfl,h.get 3 rfl⟩
theorem At.el (h:At S (two A B wl b o)):S wl=some (.lst [.ref A.p,.ref B.p]):=h.get 4 rfl
theorem At.bx (h:At S (two A B wl b o)):S b=some o:=h.get 5 rfl
theorem At.bxp (h:At S (two A B wl b o)):At (T2.put S b o') (two A B wl b o'):=h.put 5 rfl
end
theorem DD (l:List Rt):due (rd l) 0=l:=by
 unfold due rd
 rw [NV]
 conv=>rhs;rw [<- List.map_id l]
 exact N8 λx _=>by simp [wrt]
theorem Bi.anew {k:Nat}{A B:Wx}{p d:Addr}{l:List Rt}(h:Bi k A B) (hl:l.Perm B.t):Bi k A ⟨p,d,0,rd l⟩:=by
 refine ⟨h.tb,h.ea,λx hx=>?_,?_⟩
 ·unfold rd at hx
  obtain ⟨y,hy,rfl⟩:=NI.mp hx
  exact PZ _
 ·show A.t.Perm (due (rd l) 0)
  rw [DD]
  exact h.p.trans hl.symm
theorem oh {l l':List Rt}(p:l.Perm l'):bX l=bX l':=by
 by_cases e:l'=[]
 ·subst e;rw [List.perm_nil.mp p]
 ·obtain ⟨h1,h2⟩:=qi e
  exact hU ((p.map _).mem_iff.mpr h1) λj hj=>h2 j ((p.map _).mem_iff.mp hj)
theorem oj {α β:Type}{f g:α->List β}:∀ {l:List α},(∀ a∈l,(f a).Perm (g a))->(l.flatMap f).Perm (l.flatMap g)
 |[],_=>.refl _
 |a::l,h=>by
  rw [PD,PD]
  exact (h a NM).append (oj λb hb=>h b (NQ _ hb))
theorem pc (last:Rt):∀ (n:Nat) (HA:Str) {l l':List Rt},l.Perm l'->(brs n last HA l).Perm (brs n last HA l')
 |0,_,_,_,_=>.refl _
 |n+1,HA,l,l',p=>by
  rw [brs,brs,oh p]
  split
  ·exact .refl _
  ·obtain ⟨ks,JE,hg,hk⟩:=dL HA _ l rfl
   obtain ⟨ks',hnd',hg',Kb⟩:=dL HA _ l' rfl
   rw [hg,hg',List.flatMap_map,List.flatMap_map]
   have pk:ks.Perm ks':=(List.perm_ext_iff_of_nodup JE hnd').mpr λk=>by
    rw [hk,Kb]
    exact ⟨λzz113=>by obtain ⟨a,ha,h⟩:=zz113;exact ⟨a,p.mem_iff.mp ha,h⟩,λzz112=>by obtain ⟨a,ha,h⟩:=zz112;exact ⟨a,p.mem_iff.mpr ha,h⟩⟩
   refine ((p.filter _).map _).append ((pk.flatMap_right _).trans (oj λk _=>?_))
   exact pc last n k (p.filter _)
theorem rN {l l':List Rt}(hn:l.Nodup) (p:l.Perm l'):bst l=bst l':=uniq (gH hn) (gH (p.nodup_iff.mp hn)) ((dA l).trans (p.trans (dA l').symm))
theorem xk {l l':List Rt}(hn:l.Nodup) (p:l.Perm l') (b:Str) (m:Nat):(bo l b m).Perm (bo l' b m):=by
 unfold bo
 rw [rN hn p]
 split
 ·exact .refl _
 ·exact pc _ _ _ p
theorem yQ (l:List Rt) (b:Str) (m:Nat):(bo l b m).length<=l.length:=by
 unfold bo
 split
 ·exact OM _
 ·next h =>
  refine kQ _ _ _ _ λe=>?_
  rw [e,show bst []=[] from rfl,List.take_nil] at h
  cases h
theorem rO (last:Rt):∀ (n:Nat) (HA:Str) (l:List Rt),HA.length<=24->(∀ a∈l,a.1.length<=24)->∀ x∈brs n last HA l,x.1.length<=24
 |0,_,_,_,_,x,hx=>nomatch hx
 |n+1,HA,l,ht,hl,x,hx=>by
  rw [brs] at hx
  split at hx
  ·rw [N1.mp hx];exact ht
  ·rcases NL.mp hx with q|q
   ·obtain ⟨a,_,rfl⟩:=NI.mp q
    exact ht
   ·obtain ⟨y,hy,hx⟩:=List.mem_flatMap.mp q
    obtain ⟨ks,JE,hg,hk⟩:=dL HA _ l rfl
    rw [hg] at hy
    obtain ⟨k,hk2,rfl⟩:=NI.mp hy
    obtain ⟨a,ha,_,e⟩:=(hk k).mp hk2
    refine rO last n k _ ?_ (λc hc=>hl c (Oc.mp hc).1) x hx
    rw [<- e]
    exact NZ (QY a.1 none _) (hl a ha)
theorem Bb {l:List Rt}{b:Str}{m:Nat}(ht:b.length<=24) (hl:∀ a∈l,a.1.length<=24):∀ x∈bo l b m,x.1.length<=24:=by
 unfold bo
 split
 ·exact λx hx=>nomatch hx
 ·exact rO _ _ _ _ ht hl
def cov (x:Br) (z:Str):Bool:=decide (z=x.1) || (x.2.1&&decide (PySem.Txt.slice z none (some (x.1.length:Int))=x.1))
def lo (bs:List Br) (ws:List Str):List Str:=bs.flatMap λx=>ws.filter (cov x)
theorem rP (ws:List Str):∀ bs:List Br,(lo bs ws).length<=bs.length * ws.length
 |[]=>OM _
 |x::bs=>by
  have h1:=rP ws bs
  have h2:=Pd (cov x) ws
  unfold lo at h1 ⊢
  rw [PD,NJ,NU,Nat.succ_mul]
  lia
def Ups (zs:List Str):Prop:=zs.Pairwise λx y=>Ky.lt (.s y) (.s x)=false
theorem rQ (ms:Ms) (n:Int) (b:Str):rtd ms n b=(due ms n).filter λa=>PySem.Txt.startswith a.1 b:=by
 unfold rtd aZ due
 rw [Qb];rfl
theorem dB (l:List Rt):l.map (λa:Rt=>T2.T.str a.1)=(l.map (·.1)).map T2.T.str:=by rw [NV];rfl
theorem Bc {S:Sto}{Q:T2.T->Sto->Prop}{q:Addr}{ws:List Str}(e:S q=some (.lst (ws.map T2.T.str))) (h:∀ zs:List Str,zs.Perm ws->Ups zs->Q (.lst (zs.map T2.T.str)) S):lx false [.ref q] S Q :=
 p9 (ls:=ws) Ky.s (λt=>match t with|.str z=>.s z|_=>.nil) (.s ⟨#[]⟩) (by simp only [az,e];rfl) (λa _=>rfl) rfl (Ry rfl) (λa ha=>⟨rfl,rfl⟩) λl' hp hs=>h l' hp hs
inductive spLeft (ts:List T2.T) (S:Sto) (Q:T2.T->Sto->Prop):Prop
 |mk:∀ p d n ms k b m,ts=[.ref p,.str b,.int m]->Wo C S p d n ms->G1 k n ms->k<=200->0<=m->b.length<=24->(∀ S' ws zs,Le S S'->ws.Perm (ms.map (·.1))->Ups ws->zs.Perm (lo (bo (rtd ms n b) b m.toNat) ws)->Ups zs->Q (.lst (zs.map T2.T.str)) S')->spLeft ts S Q
theorem mW:FnScope ["_law_wood","_law_text","_law_many","_law_found","_law_standing","_law_branch","_law_word_here"] iU (am i7):=by nofun
theorem Be (F:!"_law_left_out" i7) (T:!0)
  (HF:!4 f1 Ie vv9 (spWWords C)) (HG:Meth K C "words" f1) (HH:ay K Ie vv9 [])
  (JX:!29 f2 IW vv5 (spCut false C)) (JY:Meth K C "cut_off" f2) (JZ:ay K IW vv5 []) :
  !30 f fd iU spLeft:=by
 refine dI F mW (λts S Q h=>?_) λcdv A outer s H E hr=>?_
 ·cases h;subst_vars;rfl
 have nd:=mW.nd
 refine ⟨_,((ai (aA 3 nd (dH ae)) (ai (cL false (i:=4) vv1 2 [] rfl nd rfl (Or.inl rfl) (aS rfl (ce (T.gf HG) HF HH hr.m (aa 0))) (λ_ _ _ _=>(bI (λh=>bF (n:=2) rfl rfl h) (aK (av 0 (show List.Nodup (vv1:List Str) from by decide +kernel)) (aK (av 1 (show List.Nodup (vv1:List Str) from by decide +kernel)) bG (λh1 h2=>aJ h1 h2)) (λh1 h2=>aJ h1 h2)))) (λ_ _ _ _=>bH) (λ_ _ _ _=>(aa 0))) (ai (bT OJ rfl (aS rfl (aU (T.gf JY) JX JZ hr.m (aa 0) (ac (aa 1) (ac (aa 2) ae)))) (av 5 nd) (ag (bT OJ rfl (aS rfl (aa 4)) (av 6 nd) (ag (aB (aR (bn (bd hr (aa 6) (ap (aa 5) af)) (bq (aR (cT (aW (ap (aa 5) af)) (cR (bd hr (cQ false rfl (aa 6) cO (cP (aL (bf rfl) T.len Oj (ac (ap (aa 5) af) ae)))) (ap (aa 5) af)))))))) (ag (bN (bC P5 QV QX j3 (aa 3) (ac (aa 6) ae)))) aD))))) (ag (ao (aL (p7 false rfl hr.m) T.sorted QU (ac (aa 3) ae)))))))),aw λv hu ts S Q h=>?_⟩
 obtain ⟨p,d,n,ms,k,b,m,rfl,W,G,hk,hm,hbl,hq⟩:=h
 have hgl:=G.len
 ac_nf
 ext
 intro q hq0
 have W1:∀ o,Wo C (put S q o) p d n ms:=λo=>W.other (Op (eQ W.ins hq0)) (Op (eQ W.dct hq0))
 have hw:=(W1 (.lst [])).ins
 ext
 refine ⟨p,d,n,ms,rfl,W1 _,by lia,G.er,G.nd,G.wd,λl IX Nn=>?_⟩
 have Ku:l.length<=200:=by rw [IX.length_eq,Nz];lia
 have hlw:∀ a∈l,Wm.Wd a.1=true:=λa ha=>by
  obtain ⟨x,hx,rfl⟩:=NI.mp (IX.mem_iff.mp ha)
  exact G.wd x hx
 ext
 rw [show l.map rt=l.map (λa:Rt=>T2.T.tup [.str a.1,.int a.2]) from rfl]
 refine bY (λa:Rt=>T2.T.tup [.str a.1,.int a.2]) (λa:Rt=>some (T2.T.str a.1)) [] (by trivial) (by rw [N3];lia) (λa ha u v HI N HN hN=>?_) ?_
 ·ext
  exact ⟨HN,hN _ _⟩
 rw [Wm.bM,dB]
 have L7:(l.map (·.1)).Perm (ms.map (·.1)):=by
  have:=IX.map (·.1)
  rw [NV] at this
  exact this
 have hwr:Ups (l.map (·.1)):=Nn
 have LL:(l.map (·.1)).length<=200:=by rw [Nz];exact Ku
 have hww:∀ z∈l.map (·.1),Wm.Wd z=true:=λz hz=>by
  obtain ⟨x,hx,rfl⟩:=NI.mp hz
  exact hlw x hx
 generalize l.map (·.1)=ws at L7 hwr LL hww ⊢
 clear IX Nn Ku hlw
 ext
 refine ⟨p,d,n,ms,b,m,rfl,W1 _,by lia,G.er,G.nd,G.wd,hm,?_⟩
 have hcl:=yQ (rtd ms n b) b m.toNat
 have hrl:=fM ms n b
 have hct:∀ x∈bo (rtd ms n b) b m.toNat,x.1.length<=24:=Bb hbl λa ha=>by
  unfold rtd aZ at ha
  obtain ⟨y,hy,rfl⟩:=NI.mp ha
  exact (Wm.cD (G.wd y (Oc.mp hy).1)).2
 generalize bo (rtd ms n b) b m.toNat=bs at hq hcl hct ⊢
 rw [show bs.map br=bs.map (λx:Br=>T2.T.tup [.str x.1,.bl x.2.1,.int x.2.2]) from rfl]
 ext
 refine dD (λrest HD S'=>∃ pre u v,pre++rest=bs/\S'=put S q (.lst ((lo pre ws).map T2.T.str))/\HD=[some (.ref p),some (.str b),some (.int m),some (.ref q),some (.lst (ws.map T2.T.str)),u,v]) ⟨[],none,none,rfl,rfl,rfl⟩ ?_ ?_
 ·rintro x rest HD S' N ⟨pre,u,v,HP,rfl,rfl⟩ hN
  refine ⟨trivial,?_⟩
  have JN:pre.length<=200:=by
   have:=Ow List.length HP
   rw [NJ,NU] at this
   lia
  have hlo:=rP ws pre
  have hmul:pre.length * ws.length<=200 * 200:=Nat.mul_le_mul JN LL
  ext
  refine dD (λMR HD S'=>∃ J0 v,J0++MR=ws/\S'=put S q (.lst ((lo pre ws++J0.filter (cov x)).map T2.T.str))/\HD=[some (.ref p),some (.str b),some (.int m),some (.ref q),some (.lst (ws.map T2.T.str)),some (T2.T.tup [.str x.1,.bl x.2.1,.int x.2.2]),v]) ⟨[],v,rfl,by rw [QM,N4],rfl⟩ ?_ ?_
  ·rintro z MR HD S' N2 ⟨J0,v2,J1,rfl,rfl⟩ hN2
   refine ⟨trivial,?_⟩
   have hx24:=hct x (by rw [<- HP];simp)
   have hz24:=(Wm.cD (hww z (by rw [<- J1];simp))).2
   have hp2:J0.length<=200:=by
    have:=Ow List.length J1
    rw [NJ,NU] at this
    lia
   have hf2:=Pd (cov x) J0
   have yes:cov x z=true->N2 [some (.ref p),some (.str b),some (.int m),some (.ref q),some (.lst (ws.map T2.T.str)),some (T2.T.tup [.str x.1,.bl x.2.1,.int x.2.2]),some (.str z)] (put S q (.lst ((lo pre ws++J0.filter (cov x)).map T2.T.str++[.str z]))):=λhc =>
    hN2 _ _ ⟨J0++[z],_,by rw [<- J1];simp,by rw [QZ,Ou,NC hc,QM,<- NX,Og (l₂:=[z])];rfl,rfl⟩
   have no:cov x z=false->N2 [some (.ref p),some (.str b),some (.int m),some (.ref q),some (.lst (ws.map T2.T.str)),some (T2.T.tup [.str x.1,.bl x.2.1,.int x.2.2]),some (.str z)] (put S q (.lst ((lo pre ws++J0.filter (cov x)).map T2.T.str))):=λhc =>
    hN2 _ _ ⟨J0++[z],_,by rw [<- J1];simp,by rw [QZ,Ou,NB (by rw [hc];decide),QM,N4],rfl⟩
   have hsz:((lo pre ws++J0.filter (cov x)).map T2.T.str).length<sizeLine:=by
    rw [Nz,NJ,N3];lia
   ext
   refine ifB (λhb=>?_) λhb=>?_
   ·rw [Od] at hb
    ext
    refine fG ax hsz ?_
    rw [b5]
    exact yes (by unfold cov;rw [hb];rfl)
   rw [Od] at hb
   ext
   refine ifB (λIY=>?_) λIY=>?_
   ·ext
    refine ifB (λKv=>?_) λKv=>?_
    ·rw [Od] at Kv
     ext
     refine fG ax hsz ?_
     rw [b5]
     exact yes (by unfold cov;rw [hb,IY,Kv];rfl)
    ·rw [Od] at Kv
     ext
     exact no (by unfold cov;rw [hb,IY,Kv];rfl)
   ·ext
    exact no (by unfold cov;rw [hb,IY];rfl)
  ·rintro HD S' ⟨J0,v2,J1,rfl,rfl⟩
   refine ⟨trivial,?_⟩
   rw [N4] at J1
   subst J1
   exact hN _ _ ⟨pre++[x],_,_,by rw [<- HP];simp,by unfold lo;rw [RS,PD,List.flatMap_nil,N4],rfl⟩
 ·rintro HD S' ⟨pre,u,v,HP,rfl,rfl⟩
  refine ⟨trivial,?_⟩
  rw [N4] at HP
  subst HP
  ext
  refine Bc ax λzs hz1 L3=>?_
  exact .mk (hq _ ws zs (Le.refl.chg hq0) L7 hwr hz1 L3)
theorem DE {ds:List Rt}(hn:(ds.map (·.1)).Nodup){a:Rt}(ha:a∈ds):(ds.filter λb=>decide (b.1=a.1))=[a]:=by
 induction ds with
 |nil=>cases ha
 |cons b l ih =>
  rw [NF,Ov] at hn
  rw [Ou]
  rcases NR.mp ha with e|h
  ·subst e
   rw [NC (NK rfl)]
   rw [Rb.mpr λc hc=>by
    rw [ND]
    exact λq=>hn.1 (by rw [<- q];exact N0 hc)]
  ·rw [NB (by rw [ND];exact λq=>hn.1 (by rw [q];exact N0 h))]
   exact ih hn.2 h
def tst (b z:Str) (v:Int) (a:Rt):Bool:=decide (PySem.Txt.slice a.1 none (some (b.length:Int))=b)&&(decide (v<a.2) || (decide (a.2=v)&&T2.ltS a.1 z))
theorem DF {l:List Rt}{b z:Str}{v:Int}(h:(l.map (·.1)).Nodup) (hz:(z,v)∈l):l.countP (tst b z v)=rk l b z v:=by
 unfold rk
 refine Qh λa ha=>?_
 unfold tst
 rw [<- Tm.ji,<- iH a (z,v)]
 simp only [NA,ND]
 constructor
 ·rintro ⟨h2,h3⟩
  refine ⟨λq=>?_,h2,h3⟩
  have:a=(z,v):=by
   have l1:=As.cA h ha
   have l2:=As.cA h hz
   rw [q] at l1
   rw [l1] at l2
   exact Prod.ext q (Option.some.inj l2)
  rw [this,rA] at h3;cases h3
 ·rintro ⟨_,h2,h3⟩;exact ⟨h2,h3⟩
inductive spTs (ts:List T2.T) (S:Sto) (Q:T2.T->Sto->Prop):Prop
 |mk:∀ (l:List Rt) z v b m,ts=[.lst (l.map rt),.str z,.str b,.int m]->l.length<=200->(l.map (·.1)).Nodup->(z,v)∈l->(∀ a∈l,a.1.length<=24)->b.length<=24->Q (.bl (decide ((rk l b z v:Int)<m))) S->spTs ts S Q
theorem mX:FnScope ["_law_rows","_law_word_here","_law_text","_law_many","_law_own","_law_ahead","_law_one","_law_worth"] iT (am je):=by nofun
theorem FK (F:!"_law_told_so" je) (T:!0):!1 f fd iT spTs:=by
 refine dI F mX (λts S Q h=>?_) λcdv A outer s H E hr=>?_
 ·cases h;subst_vars;rfl
 have nd:=mX.nd
 refine ⟨_,((ai (aA 4 nd (ap (bS false vv19 2 [1] rfl (aS rfl (aa 0)) (λ_ _ _ _=>(bI (λh=>bF (n:=2) rfl rfl h) (aK (av 0 (show List.Nodup (vv19:List Str) from by decide +kernel)) (aK (av 1 (show List.Nodup (vv19:List Str) from by decide +kernel)) bG (λh1 h2=>aJ h1 h2)) (λh1 h2=>aJ h1 h2)))) (λ_ _ _ _=>(dC (bd hr (aa 0) (aa 2)))) (λ_ _ _ _=>(aa 1))) af)) (ai (aA 5 nd af) (ai (bT OJ rfl (aS rfl (aa 0)) (bI (λh=>bF (n:=2) rfl rfl h) (aK (av 6 nd) (aK (av 7 nd) bG (λh1 h2=>aJ h1 h2)) (λh1 h2=>aJ h1 h2))) (ag (aB (aR (cT (bd hr (cQ false rfl (aa 6) cO (cP (aL (bf rfl) T.len Oj (ac (aa 2) ae)))) (aa 2)) (cR (aR (bn (aI e8 (aa 7) (aa 4)) (bq (aR (cT (bd hr (aa 7) (aa 4)) (cR (aI cZ (aa 6) (aa 1))))))))))) (ag (aA 5 nd (aC (ba false) (aa 5) af))) aD))) (ag (ao (c8 cZ (aa 5) (aa 3)))))))),aw λv hu ts S Q h=>?_⟩
 obtain ⟨l,z,v,b,m,rfl,hl,JE,hz,L4,KS,hq⟩:=h
 rw [<- DF JE hz] at hq
 ac_nf
 ext
 rw [show l.map rt=l.map (λa:Rt=>T2.T.tup [.str a.1,.int a.2]) from rfl]
 refine bY (λa:Rt=>T2.T.tup [.str a.1,.int a.2]) (λa:Rt=>if decide (a.1=z)=true then some (T2.T.int a.2) else none) [some (.str z)] (by trivial) (by rw [N3];lia) (λa ha u v HI N HN hN=>?_) ?_
 ·ext
  refine ifB (λhb=>?_) λhb=>?_
  ·rw [Od] at hb
   rw [NC hb] at hN
   ext
   exact ⟨HN,hN _ _⟩
  ·rw [Od] at hb
   rw [NB (by rw [hb];decide)] at hN
   simpa using hN (some (.str a.1)) (some (.int a.2))
 rw [iI (λa:Rt=>decide (a.1=z)) (λa:Rt=>T2.T.int a.2),DE JE hz]
 simp only [NF,Pr]
 ext
 refine dD (λrest HD S'=>∃ pre u u2,pre++rest=l/\S'=S/\HD=[some (.lst (l.map λa:Rt=>T2.T.tup [.str a.1,.int a.2])),some (.str z),some (.str b),some (.int m),some (.int v),some (.int (pre.countP (tst b z v))),u,u2]) ⟨[],none,none,rfl,rfl,rfl⟩ ?_ ?_
 ·rintro a rest HD S' N ⟨pre,u,u2,HP,rfl,rfl⟩ hN
  refine ⟨trivial,?_⟩
  have ha24:=L4 a (by rw [<- HP];simp)
  have yes:tst b z v a=true->N [some (.lst (l.map λa:Rt=>T2.T.tup [.str a.1,.int a.2])),some (.str z),some (.str b),some (.int m),some (.int v),some (.int ((pre.countP (tst b z v):Nat)+1)),some (.str a.1),some (.int a.2)] S':=λhc =>
   hN _ _ ⟨pre++[a],_,_,by rw [<- HP];simp,rfl,by rw [List.countP_append,List.countP_cons_of_pos hc,List.countP_nil];rfl⟩
  have no:tst b z v a=false->N [some (.lst (l.map λa:Rt=>T2.T.tup [.str a.1,.int a.2])),some (.str z),some (.str b),some (.int m),some (.int v),some (.int (pre.countP (tst b z v))),some (.str a.1),some (.int a.2)] S':=λhc =>
   hN _ _ ⟨pre++[a],_,_,by rw [<- HP];simp,rfl,by rw [List.countP_append,List.countP_cons_of_neg (by rw [hc];decide),List.countP_nil];rfl⟩
  ext
  refine ifB (λhb=>?_) λhb=>?_
  ·rw [Od] at hb
   ext
   refine ifB (λIY=>?_) λIY=>?_
   ·ext
    exact yes (by unfold tst;rw [hb,IY];rfl)
   ·ext
    refine ifB (λKv=>?_) λKv=>?_
    ·rw [Od] at Kv
     ext
     refine ifB (λMN=>?_) λMN=>?_
     ·ext
      exact yes (by unfold tst;rw [hb,IY,Kv,MN];rfl)
     ·ext
      exact no (by unfold tst;rw [hb,IY,Kv,MN];rfl)
    ·rw [Od] at Kv
     ext
     exact no (by unfold tst;rw [hb,IY,Kv];rfl)
  ·rw [Od] at hb
   ext
   exact no (by unfold tst;rw [hb];rfl)
 ·rintro HD S' ⟨pre,u,u2,HP,rfl,rfl⟩
  refine ⟨trivial,?_⟩
  rw [N4] at HP
  subst HP
  ext
  exact .mk hq
theorem sW {S:Sto}{Q:T2.T->Sto->Prop}{r:Option Nat}(h:Q (.bl false) S):gEq true (oT r) (oT r) S Q:=by
 cases r with
 |none=>exact ⟨.none,.none,rfl,rfl,rfl,rfl,by decide,h⟩
 |some k=>exact iA (by rw [NK rfl];exact h)
theorem FL {S:Sto}{Q:T2.T->Sto->Prop}{k:Nat}{r:Option Nat}(hr:r≠some k) (h:Q (.bl false) S):gEq false (.int (k:Int)) (oT r) S Q:=by
 cases r with
 |none=>exact ⟨.int k,.none,rfl,rfl,rfl,rfl,by show min 0 0<=64;decide,h⟩
 |some j=>exact iA (by rw [NS (λe=>hr (by congr 1;exact_mod_cast e.symm))];exact h)
theorem DG {S:Sto}{Q:T2.T->Sto->Prop}{r:Option Nat}(T:!0) (h:Q (.bl false) S):mN K [oT r,.ty "bool"] S Q:=by
 cases r with
 |none=>exact mi rfl T.nb h
 |some j=>exact mi rfl T.ib h
noncomputable def upd (l:List Rt) (z:Str) (x:Int):List Rt:=l.map λa=>(a.1,a.2+x * (if decide (a.1=z)=true then 1 else 0))
theorem pe (l:List Rt) (z:Str) (x:Int):(upd l z x).map (·.1)=l.map (·.1):=by unfold upd;rw [NV];rfl
theorem rS (l:List Rt) (b z:Str) (x v:Int):rk (upd l z x) b z v=rk l b z v:=by
 unfold rk upd
 rw [List.countP_map]
 refine Qh λa _=>?_
 by_cases e:a.1=z
 ·simp [e]
 ·simp only [Function.comp,NS e,Oe,Pa,Int.mul_zero,Int.add_zero]
theorem qj {l:List Rt}{z:Str}{v:Int}(x:Int) (h:(z,v)∈l):(z,v+x)∈upd l z x:=NI.mpr ⟨_,h,by simp⟩
theorem Lst.perm {tb LN:List Rt}(p:tb.Perm LN){b z:Str}{t:Int}{m:Nat}{i:Int}(h:Lst tb b z t m i):Lst LN b z t m i :=
 ⟨h.ge,by rw [<- kS p];exact h.at_,λj h0 h1=>by rw [<- kS p];exact h.no j h0 h1⟩
inductive spNr (ts:List T2.T) (S:Sto) (Q:T2.T->Sto->Prop):Prop
 |mk:∀ A B wl bx o k z v b m,ts=[.ref wl,.str z,.str b,.int m]->At S (two A B wl bx o)->Bi k A B->k<=200->look A.t z=some v->PySem.Txt.startswith z b=true->b.length<=24->1<=m->Q (.bl true) S->spNr ts S Q
theorem mU:FnScope ["_law_woods","_law_word_here","_law_text","_law_many","_law_rows","_law_uses","_law_fades","_law_used","_law_fewer","_law_faded","_law_times","_law_told"] vv8 (am iV):=by nofun
theorem FM (F:!"_law_needs_right" iV) (T:!0)
  (HF:!4 f1 Ie vv9 (spWWords C)) (HG:Meth K C "words" f1) (HH:ay K Ie vv9 [])
  (Jm:!5 f2 IW vv6 (spUses C)) (Jn:Df K mg "uses_needed" f2 IW vv6)
  (Jf:!4 f3 K0 vv6 (spFneed C)) (Jg:Df K mg "fades_needed" f3 K0 vv6)
  (IF:!1 f4 L6 iT spTs) (IG:Df K mg "_law_told_so" f4 L6 iT) :
  !6 f fd vv8 spNr:=by
 refine dI F mU (λts S Q h=>?_) λcdv A outer s H E hr=>?_
 ·cases h;subst_vars;rfl
 have nd:=mU.nd
 refine ⟨_,((ai (aA 4 nd (ce (T.gf HG) HF HH hr.m (ap (aa 0) af))) (ai (aA 5 nd (al Jm Jn hr.m (ac (ap (aa 0) af) (ac (aa 2) (ac (aa 1) (ac (aa 3) ae)))))) (ai (aA 6 nd (al Jf Jg hr.m (ac (ap (aa 0) af) (ac (aa 2) (ac (aa 1) (ac (aa 3) ae)))))) (ai (aB (aR (bn (aI (b8 rfl hr.units) (aa 5) (al Jm Jn hr.m (ac (ap (aa 0) af) (ac (aa 2) (ac (aa 1) (ac (aa 3) ae)))))) (bq (aI (b8 rfl hr.units) (aa 6) (al Jf Jg hr.m (ac (ap (aa 0) af) (ac (aa 2) (ac (aa 1) (ac (aa 3) ae))))))))) (ag (ao bA)) aD) (ai (aB (aR (bn (aI cZ (aa 5) af) (bn (aW (aL (l7 rfl) T.isinstance Ql (ac (aa 5) (ac (mR (n:="bool") (by rfl) T.bool PyProof.Rows.boot_bool) ae)))) (bq (aW (aL (l7 rfl) T.isinstance Ql (ac (aa 6) (ac (mR (n:="bool") (by rfl) T.bool PyProof.Rows.boot_bool) ae)))))))) (ag (ao bA)) aD) (ai (cL false (i:=7) vv4 2 [5,1] rfl nd rfl (Or.inl rfl) (aS rfl (aa 4)) (λ_ _ _ _=>(bI (λh=>bF (n:=2) rfl rfl h) (aK (av 0 (show List.Nodup (vv4:List Str) from by decide +kernel)) (aK (av 1 (show List.Nodup (vv4:List Str) from by decide +kernel)) bG (λh1 h2=>aJ h1 h2)) (λh1 h2=>aJ h1 h2)))) (λ_ _ _ _=>bH) (λ_ _ _ _=>(bO (ac (aa 0) (ac (aC (ba false) (aa 1) (aC (fX false) (aa 2) (mw so (by rfl) T.int RC (ac (c8 (iN rfl hr.units) (aa 0) (aa 3)) ae)))) ae))))) (ai (cL false (i:=8) vv4 2 [5,1] rfl nd rfl (Or.inl rfl) (aS rfl (aa 4)) (λ_ _ _ _=>(bI (λh=>bF (n:=2) rfl rfl h) (aK (av 0 (show List.Nodup (vv4:List Str) from by decide +kernel)) (aK (av 1 (show List.Nodup (vv4:List Str) from by decide +kernel)) bG (λh1 h2=>aJ h1 h2)) (λh1 h2=>aJ h1 h2)))) (λ_ _ _ _=>bH) (λ_ _ _ _=>(bO (ac (aa 0) (ac (aC (ba false) (aa 1) (aC (fX false) (aC iy (aa 2) af) (mw so (by rfl) T.int RC (ac (c8 (iN rfl hr.units) (aa 0) (aa 3)) ae)))) ae))))) (ai (aB (aR (bn (ci (aW (al IF IG hr.m (ac (aa 7) (ac (aa 1) (ac (aa 2) (ac (aa 3) ae))))))) (bq (aR (cT (aI e8 (aa 5) af) (cR (aW (al IF IG hr.m (ac (aa 8) (ac (aa 1) (ac (aa 2) (ac (aa 3) ae)))))))))))) (ag (ao bA)) aD) (ai (aA 9 nd (aa 4)) (ai (bT OJ rfl (fz (by rfl) T.range af) (av 10 nd) (ai (aA 11 nd (al IF IG hr.m (ac (aa 9) (ac (aa 1) (ac (aa 2) (ac (aa 3) ae)))))) (ai (aB (aR (bn (aR (cT (aW (aa 11)) (cR (aI (b8 rfl hr.units) (aa 10) (aa 6))))) (bq (aR (cT (ci (aW (aa 11))) (cR (bd hr (aa 10) (aa 6)))))))) (ag (ao bA)) aD) (ai (aB (aW (aa 11)) (ag (ao bA)) aD) (ag (cL false (i:=9) ["_law_one","_law_worth"] 2 [] rfl nd rfl (Or.inl rfl) (aS rfl (aa 9)) (λ_ _ _ _=>(bI (λh=>bF (n:=2) rfl rfl h) (aK (av 0 (show List.Nodup (["_law_one","_law_worth"]:List Str) from by decide +kernel)) (aK (av 1 (show List.Nodup (["_law_one","_law_worth"]:List Str) from by decide +kernel)) bG (λh1 h2=>aJ h1 h2)) (λh1 h2=>aJ h1 h2)))) (λ_ _ _ _=>bH) (λ_ _ _ _=>(bO (ac (aa 0) (ac (aC iz (aa 1) af) ae)))))))))) (ag (ao (c8 mL (aa 6) cS)))))))))))))),aw λv hu ts S Q h=>?_⟩
 obtain ⟨A,B,wl,bx,o,k,z,v,b,m,rfl,hA,hB,hk,Ju,hsz,KS,hm,hq⟩:=h
 have ga:=hB.ga hk
 have gb:=hB.gb hk
 have hal:=ga.len
 have hbl:=gb.len
 have LJ:=hA.el
 have Np:=hA.wa.ins
 have hwb:=hA.wb.ins
 have Mf:look B.t z=some v:=by rw [<- og hB.tb.nd hB.p];exact Ju
 obtain ⟨ka,Nq,hva⟩:∃ x,look A.ms z=some x/\wrt x A.n=v:=by
  have:=Ju
  unfold Wx.t at this
  rw [gS] at this
  cases q:look A.ms z with
  |none=>rw [q] at this;cases this
  |some x=>rw [q] at this;exact ⟨x,rfl,Option.some.inj this⟩
 obtain ⟨kb,hkb,hvb⟩:∃ x,look B.ms z=some x/\wrt x B.n=v:=by
  have:=Mf
  unfold Wx.t at this
  rw [gS] at this
  cases q:look B.ms z with
  |none=>rw [q] at this;cases this
  |some x=>rw [q] at this;exact ⟨x,rfl,Option.some.inj this⟩
 ac_nf
 ext
 refine ⟨A.p,A.d,A.n,A.ms,rfl,hA.wa,by lia,ga.er,ga.nd,ga.wd,λl IX Nn=>?_⟩
 have IX:l.Perm A.t:=IX
 have tb:Tb k l:=hB.tb.perm IX.symm
 have Ku:=tb.len
 have Jr:(z,v)∈l:=IX.mem_iff.mpr (cb Ju)
 have L4:∀ a∈l,a.1.length<=24:=λa ha=>(Wm.cD (tb.wd a ha)).2
 ext
 refine ⟨A.p,A.d,A.n,A.ms,b,z,m,ka,rfl,hA.wa,by lia,ga.er,ga.nd,Nq,hsz,hm,λi hi=>?_⟩
 rw [hva] at hi
 ext
 refine ⟨A.p,A.d,A.n,A.ms,b,z,m,ka,rfl,hA.wa,by lia,ga.er,ga.nd,ga.ge,Nq,hsz,hm,λr hr=>?_⟩
 rw [hva] at hr
 ext
 refine ⟨B.p,B.d,B.n,B.ms,b,z,m,kb,rfl,hA.wb,by lia,gb.er,gb.nd,hkb,hsz,hm,λi2 hi2=>?_⟩
 rw [hvb] at hi2
 obtain rfl:i=i2:=hi.eq (hi2.perm hB.p.symm)
 ext
 rw [show (true ^^ decide (i=i))=false by rw [NK rfl];rfl]
 ext
 refine ⟨B.p,B.d,B.n,B.ms,b,z,m,kb,rfl,hA.wb,by lia,gb.er,gb.nd,gb.ge,hkb,hsz,hm,λr2 Me=>?_⟩
 rw [hvb] at Me
 obtain rfl:r=r2:=hr.uniq (Me.perm hB.p.symm)
 refine sW ?_
 have hi:=hi.perm IX.symm
 have hr:=hr.perm IX.symm
 clear hi2 Me
 have hi0:=hi.ge
 ext
 rw [NS (show ¬ i<0 by lia)]
 ext
 refine DG T ?_
 ext
 rw [show l.map rt=l.map (λa:Rt=>T2.T.tup [.str a.1,.int a.2]) from rfl]
 refine bY (λa:Rt=>T2.T.tup [.str a.1,.int a.2]) (λa:Rt=>some (rt (a.1,a.2+i * (if decide (a.1=z)=true then 1 else 0)))) [some (.int i),some (.str z)] (by trivial) (by rw [N3];lia) (λa ha u v HI N HN hN=>?_) ?_
 ·have hcm:eU i (if decide (a.1=z)=true then 1 else 0):=.inr ⟨by split<;>decide,by split<;>decide⟩
  ext
  rw [Od]
  exact ⟨HN,hN _ _⟩
 rw [Wm.bM,show l.map (λa:Rt=>rt (a.1,a.2+i * (if decide (a.1=z)=true then 1 else 0)))=(upd l z i).map rt by unfold upd;rw [NV];rfl]
 ext
 refine bY (λa:Rt=>T2.T.tup [.str a.1,.int a.2]) (λa:Rt=>some (rt (a.1,a.2+(i - 1) * (if decide (a.1=z)=true then 1 else 0)))) [some (.int i),some (.str z)] (by trivial) (by rw [N3];lia) (λa ha u v HI N HN hN=>?_) ?_
 ·ext
  rw [Od]
  exact ⟨HN,hN _ _⟩
 rw [Wm.bM,show l.map (λa:Rt=>rt (a.1,a.2+(i - 1) * (if decide (a.1=z)=true then 1 else 0)))=(upd l z (i - 1)).map rt by unfold upd;rw [NV];rfl]
 have ul:∀ x,(upd l z x).length<=200:=λx=>by unfold upd;rw [Nz];lia
 have u24:∀ x,∀ a∈upd l z x,a.1.length<=24:=λx a ha=>by
  obtain ⟨y,hy,rfl⟩:=NI.mp ha
  exact L4 y hy
 have hmt:(m.toNat:Int)=m:=RP (by lia)
 refine qL ?_
 refine T2.me (by and_intros;rfl) ?_
 dsimp only
 refine aV (λHD S'=>HD=[some (.ref wl),some (.str z),some (.str b),some (.int m),some (.lst (l.map rt)),some (.int i),some (oT r),some (.lst ((upd l z i).map rt)),some (.lst ((upd l z (i - 1)).map rt)),none,none,none]/\S'=S) ?_ ?_
 ·intro X hX
  ext
  refine ⟨upd l z i,z,v+i,b,m,rfl,ul i,by rw [pe];exact tb.nd,qj i Jr,u24 i,KS,?_⟩
  rw [rS,NK (show (rk l b z (v+i):Int)<m by have:=hi.at_;lia)]
  ext
  refine ifB (λhb=>?_) λhb=>?_
  ·have hb:=Om hb
   ext
   refine ⟨upd l z (i - 1),z,v+(i - 1),b,m,rfl,ul _,by rw [pe];exact tb.nd,qj _ Jr,u24 _,KS,?_⟩
   rw [rS,NS (show ¬ (rk l b z (v+(i - 1)):Int)<m by have:=hi.no (i - 1) (by lia) (by lia);lia)]
   ext
   exact hX _ _ ⟨rfl,rfl⟩
  ·ext
   exact hX _ _ ⟨rfl,rfl⟩
 rintro HD S' ⟨rfl,rfl⟩
 ext
 have Ik:∀ j,(hv j l).length<=200:=λj=>by unfold hv;rw [Nz];lia
 have v24:∀ j,∀ a∈hv j l,a.1.length<=24:=λj a ha=>by
  obtain ⟨y,hy,rfl⟩:=NI.mp ha
  exact L4 y hy
 refine gF (λj HD S2=>∃ u10 u11,(∀ i,i<j->¬ Pk l b z v m.toNat i)/\S2=S'/\HD=[some (.ref wl),some (.str z),some (.str b),some (.int m),some (.lst (l.map rt)),some (.int i),some (oT r),some (.lst ((upd l z i).map rt)),some (.lst ((upd l z (i - 1)).map rt)),some (.lst ((hv j l).map rt)),u10,u11]) ⟨none,none,λi hi=>absurd hi (RG _),rfl,by rw [AZ]⟩ ?_ ?_
 ·rintro j HD S2 N hj ⟨u10,u11,Lw,rfl,rfl⟩ hN
  refine ⟨trivial,?_⟩
  ext
  refine ⟨hv j l,z,v / 2 ^ j,b,m,rfl,Ik j,by rw [hW];exact tb.nd,lN j Jr,v24 j,KS,?_⟩
  rw [Int.zero_add]
  by_cases hp:Pk l b z v m.toNat j
  ·rw [NK (show (rk (hv j l) b z (v / 2 ^ j):Int)<m by unfold Pk at hp;lia)]
   have hrj:r=some j:=hr.uniq ⟨by lia,hp,Lw⟩
   subst hrj
   ext
   refine sW (r:=some j) ?_
   ext
   exact .mk hq
  ·rw [NS (show ¬ (rk (hv j l) b z (v / 2 ^ j):Int)<m by unfold Pk at hp;lia)]
   have hrj:r≠some j:=λe=>by
    subst e
    exact hp hr.2.1
   ext
   refine FL hrj ?_
   ext
   rw [show (hv j l).map rt=(hv j l).map (λa:Rt=>T2.T.tup [.str a.1,.int a.2]) from rfl]
   refine bY (λa:Rt=>T2.T.tup [.str a.1,.int a.2]) (λa:Rt=>some (rt (a.1,a.2 / 2))) [] (by trivial) (by rw [N3];have:=Ik j;lia) (λa ha u v HI N HN hN=>?_) ?_
   ·ext
    exact ⟨HN,hN _ _⟩
   rw [Wm.bM,show (hv j l).map (λa:Rt=>rt (a.1,a.2 / 2))=(hv (j+1) l).map rt by rw [<- AY,NV];rfl]
   ext
   refine hN _ _ ⟨_,_,λi hi=>?_,rfl,rfl⟩
   rcases Nat.lt_or_eq_of_le (Nat.le_of_lt_succ hi) with q|q
   ·exact Lw i q
   ·rw [q];exact hp
 ·rintro HD S2 ⟨u10,u11,Lw,rfl,rfl⟩
  refine ⟨trivial,?_⟩
  have hrn:r=none:=by
   cases r with
   |none=>rfl
   |some j =>
    refine False.elim ?_
    have hc:Pk l b z v m.toNat 49:=by
     by_cases q:49<=j
     ·refine pb (top:=1000000000+40 * (k:Int)) (λa ha=>(tb.ge a ha).1) (λa ha _=>(tb.ge a ha).2) Jr hsz (by lia) j q hr.2.1
     ·exact (Lw j (by lia) hr.2.1).elim
    exact Lw 49 (by lia) hc
  subst hrn
  unfold oT
  ext
  exact .mk hq
theorem nx5 {A:Wx}{Il c t:Int}{z:Str}(h:Il=5):A.nx Il z c t=⟨A.p,A.d,A.n+t,A.ms⟩:=by
 unfold Wx.nx dn dd;rw [NC h,NC h]
theorem nxn {A:Wx}{Il c t:Int}{z:Str}(h:¬ Il=5):A.nx Il z c t=⟨A.p,A.d,A.n,dd Il z c t A.n A.ms⟩:=by
 unfold Wx.nx dn;rw [NB h]
theorem jK {l:List Rt}{ms:Ms}{n:Int}(IX:l.Perm (due ms n)):(l.map (·.1)).Perm (ms.map (·.1)):=by
 have:=IX.map (·.1)
 rw [cz] at this
 exact this
theorem qk {S:Sto}{wl:Addr}{ts:List T2.T}(h:S wl=some (.lst ts)):b6 (.ref wl) ts S:=d9 (by simp only [az,h])
inductive spDd (ts:List T2.T) (S:Sto) (Q:T2.T->Sto->Prop):Prop
 |mk:∀ A B wl bx o k,ts=[.ref bx,.ref wl]->At S (two A B wl bx o)->aE o->Bi k A B->k<=150->(∀ S' o' A' B',At S' (two A' B' wl bx o')->aE o'->Bi (k+1) A' B'->Q .non S')->spDd ts S Q
theorem nr:FnScope ["_law_box_here","_law_woods","_law_standing","_law_word_here","_law_way","_law_count_here","_law_times","_law_wood"] vv7 (am jH):=by nofun
theorem FN (F:!"_law_deed" jH) (T:!0)
  (Io:!3 f1 Ie fj spNext) (Ip:Df K mg "_law_next_word" f1 Ie fj)
  (HB:!1 f2 IW vv0 cf) (HC:Df K mg "_law_take" f2 IW vv0)
  (IR:!2 f3 K0 cK spCount) (IS:Df K mg "_law_count" f3 K0 cK)
  (HF:!4 f4 L6 vv9 (spWWords C)) (HG:Meth K C "words" f4) (HH:ay K L6 vv9 [])
  (IA:!4 f5 fd5 c6 (spPut C)) (IB:Meth K C "put" f5) (IC:ay K fd5 c6 [])
  (Lg:!3 f6 Ng gw (spUse C)) (Lh:Meth K C "use" f6) (Li:ay K Ng gw [])
  (Kf:!2 f7 fd7 vv2 (spStrike C)) (Kg:Meth K C "strike" f7) (Kh:ay K fd7 vv2 [])
  (Jh:!1 f8 fd8 d0 (spFade C)) (Ji:Meth K C "fade" f8) (Jj:ay K fd8 d0 []):!5 f fd vv7 spDd:=by
 refine dI F nr (λts S Q h=>?_) λcdv A outer s H E hr=>?_
 ·cases h;subst_vars;rfl
 have nd:=nr.nd
 refine ⟨_,((ai (cL true (i:=2) vv1 2 [] rfl nd rfl (Or.inl rfl) (aS rfl (ce (T.gf HG) HF HH hr.m (ap (aa 1) af))) (λ_ _ _ _=>(bI (λh=>bF (n:=2) rfl rfl h) (aK (av 0 (show List.Nodup (vv1:List Str) from by decide +kernel)) (aK (av 1 (show List.Nodup (vv1:List Str) from by decide +kernel)) bG (λh1 h2=>aJ h1 h2)) (λh1 h2=>aJ h1 h2)))) (λ_ _ _ _=>bH) (λ_ _ _ _=>(aa 0))) (ai (aA 3 nd (al Io Ip hr.m (ac (aa 0) (ac (aa 2) ae)))) (ai (aA 4 nd (al HB HC hr.m (ac (aa 0) (ac af ae)))) (ai (aA 5 nd (al IR IS hr.m (ac (aa 0) ae))) (ai (aA 6 nd (aC (ba false) af (al HB HC hr.m (ac (aa 0) (ac (ap (cU (ac af (ac af ae))) (al HB HC hr.m (ac (aa 0) (ac af ae)))) ae))))) (ag (bT OJ rfl (aS rfl (aa 1)) (av 7 nd) (ag (aB (bd hr (aa 4) af) (ag (bN (aU (T.gf Ji) Jh Jj hr.m (aa 7) (ac (aa 6) ae)))) (ag (aB (aI (pG rfl) (aa 3) (aa 2) (by with_unfolding_all rfl)) (ag (bN (aU (T.gf IB) IA IC hr.m (aa 7) (ac (aa 3) (ac (aa 5) ae))))) (ag (aB (aI cZ (aa 4) af) (ag (bN (aU (T.gf Lh) Lg Li hr.m (aa 7) (ac (aa 3) (ac (aa 6) ae))))) (ag (bN (aU (T.gf Kg) Kf Kh hr.m (aa 7) (ac (aa 3) ae)))))))))))))))))),aw λv hu ts S Q h=>?_⟩
 obtain ⟨A,B,wl,bx,o,k,rfl,hA,MT,hB,hk,hq⟩:=h
 have ga:=hB.ga (by lia)
 have gb:=hB.gb (by lia)
 have hal:=ga.len
 have hbl:=gb.len
 have LJ:=hA.el
 have Np:=hA.wa.ins
 ac_nf
 ext
 refine ⟨A.p,A.d,A.n,A.ms,rfl,hA.wa,by lia,ga.er,ga.nd,ga.wd,λl IX Nn=>?_⟩
 have IX:l.Perm (due A.ms A.n):=IX
 have Ku:l.length<=200:=by rw [IX.length_eq];unfold due;rw [Nz];lia
 ext
 rw [show l.map rt=l.map (λa:Rt=>T2.T.tup [.str a.1,.int a.2]) from rfl]
 refine bY (λa:Rt=>T2.T.tup [.str a.1,.int a.2]) (λa:Rt=>some (T2.T.str a.1)) [] (by trivial) (by rw [N3];lia) (λa ha u v HI N HN hN=>?_) ?_
 ·ext
  exact ⟨HN,hN _ _⟩
 rw [Wm.bM,dB]
 have L7:=jK IX
 have LL:(l.map (·.1)).length<=200:=by rw [Nz];exact Ku
 generalize l.map (·.1)=ws at L7 LL ⊢
 have hww:∀ z∈ws,Wm.Wd z=true:=λz hz=>by
  obtain ⟨x,hx,rfl⟩:=NI.mp (L7.mem_iff.mp hz)
  exact ga.wd x hx
 have Nq:∀ z,look A.ms z=none ↔ z∉ws:=λz=>by rw [As.bK,L7.mem_iff]
 have hkb:∀ z,look B.ms z=none ↔ z∉ws:=λz=>by
  rw [As.bK,L7.mem_iff,<- cz A.ms A.n,<- cz B.ms B.n]
  exact not_congr (hB.p.map _).mem_iff.symm
 clear IX Nn Ku
 ext
 intro q hq0
 replace hA:=hA.cons (o:=.lst (ws.map T2.T.str)) hq0
 generalize put S q (.lst (ws.map T2.T.str))=S1 at hA ⊢
 clear LJ Np hq0
 ext
 refine ⟨bx,q,o,ws,rfl,hA.get 6 rfl,MT,hA.get 0 rfl,hA.ne 6 0 (by decide) rfl rfl,hww,by lia,λz o1 hz Nj=>?_⟩
 ext
 rename_i Il oy hy0 hy1 hyb cn oc hc0 hc1 hcb
 refine eM (λt=>∃ y:Int,t=.int y/\1<=y/\y<=40) hr0 (by simpa using hr1) (by simp) ?_
 rintro _ ⟨ym,rfl,hym1,hym2⟩
 clear hyb hcb MT Nj hr0 hr1
 have LJ:put S1 bx o' wl=some (.lst [.ref A.p,.ref B.p]):=(hA.put (o':=o') 6 rfl).get 5 rfl
 ext
 replace hA:At (put S1 bx o') ((q,.lst (ws.map T2.T.str))::two A B wl bx o'):=hA.put 6 rfl
 clear LJ
 generalize put S1 bx o'=S2 at hA ⊢
 have LJ:S2 wl=some (.lst [.ref A.p,.ref B.p]):=hA.get 5 rfl
 refine ⟨_,by simp only [az,LJ];rfl,?_⟩
 dsimp only
 have ht0:0<=1+r:=by lia
 have MQ:1+r<=40:=by lia
 generalize 1+r=t at ht0 MQ ⊢
 refine oF (λitems HD S'=>∃ A' B' u,At S' ((q,.lst (ws.map T2.T.str))::two A' B' wl bx o')/\A'.p=A.p/\B'.p=B.p/\HD=[some (.ref bx),some (.ref wl),some (.ref q),some (.str z),some (.int Il),some (.int cn),some (.int t),u] /\
  ((items=[.ref A.p,.ref B.p]/\A'=A/\B'=B)\/(items=[.ref B.p]/\A'=A.nx Il z cn t/\B'=B)\/(items=[]/\A'=A.nx Il z cn t/\B'=B.nx Il z cn t))) ⟨A,B,_,hA,rfl,rfl,rfl,.inl ⟨rfl,rfl,rfl⟩⟩ ?_ ?_
 ·rintro t1 ts1 HD S3 N ⟨A',B',u,Jv,hpa,hpb,rfl,ML⟩ hN
  have Nr:S3 wl=some (.lst [.ref A.p,.ref B.p]):=by
   have:=Jv.get 5 rfl
   rw [hpa,hpb] at this
   exact this
  have hq3:S3 q=some (.lst (ws.map T2.T.str)):=Jv.get 0 rfl
  refine ⟨qk Nr,?_⟩
  obtain ⟨X,rfl,W,g,hk0,hF,hD⟩:∃ X:Wx,t1=.ref X.p/\Wo C S3 X.p X.d X.n X.ms/\G1 k X.n X.ms/\(look X.ms z=none ↔ z∉ws) /\
    (Il=5->N [some (.ref bx),some (.ref wl),some (.ref q),some (.str z),some (.int Il),some (.int cn),some (.int t),some (.ref X.p)] (put S3 X.p (.ins C [("marks",.ref X.d),("now",.int (X.n+t))]))) /\
    (¬ Il=5->N [some (.ref bx),some (.ref wl),some (.ref q),some (.str z),some (.int Il),some (.int cn),some (.int t),some (.ref X.p)] (put S3 X.d (.dK (kt mkT (dd Il z cn t X.n X.ms))))):=by
   rcases ML with ⟨e,rfl,rfl⟩|⟨e,rfl,rfl⟩|⟨e,_⟩
   ·obtain ⟨rfl,rfl⟩:=List.cons.inj e
    refine ⟨A',rfl,⟨Jv.get 1 rfl,Jv.get 2 rfl⟩,ga,Nq z,λh=>?_,λh=>?_⟩
    ·exact hN _ _ ⟨A'.nx Il z cn t,B',_,by rw [nx5 h];exact Jv.put 1 rfl,rfl,rfl,rfl,.inr (.inl ⟨rfl,rfl,rfl⟩)⟩
    ·exact hN _ _ ⟨A'.nx Il z cn t,B',_,by rw [nxn h];exact Jv.put 2 rfl,rfl,rfl,rfl,.inr (.inl ⟨rfl,rfl,rfl⟩)⟩
   ·obtain ⟨rfl,rfl⟩:=List.cons.inj e
    refine ⟨B',rfl,⟨Jv.get 3 rfl,Jv.get 4 rfl⟩,gb,hkb z,λh=>?_,λh=>?_⟩
    ·exact hN _ _ ⟨A.nx Il z cn t,B'.nx Il z cn t,_,by rw [nx5 (A:=B') h];exact Jv.put 3 rfl,rfl,rfl,rfl,.inr (.inr ⟨rfl,rfl,rfl⟩)⟩
    ·exact hN _ _ ⟨A.nx Il z cn t,B'.nx Il z cn t,_,by rw [nxn (A:=B') h];exact Jv.put 4 rfl,rfl,rfl,rfl,.inr (.inr ⟨rfl,rfl,rfl⟩)⟩
   ·cases e
  have hw:=W.ins
  have hgl:=g.len
  clear hN ML Jv hpa hpb
  ext
  refine ifB (λhb=>?_) λhb=>?_
  ·rw [Od] at hb
   ext
   refine ⟨X.p,X.d,X.n,X.ms,t,rfl,W,?_⟩
   ext
   exact hF (Om hb)
  ·rw [Od] at hb
   have hb:=OD hb
   have hD:=hD hb
   unfold dd at hD
   rw [NB hb] at hD
   ext
   cases Ju:look X.ms z with
   |none =>
    rw [Ju] at hD
    rw [NS (hk0.mp Ju),show (true ^^ false)=true from rfl]
    ext
    refine ⟨X.p,X.d,X.n,X.ms,z,cn,rfl,W,by lia,hz,Ju,?_⟩
    ext
    exact hD
   |some m =>
    rw [Ju] at hD
    rw [NK (QN λh=>by have:=hk0.mpr h;rw [Ju] at this;cases this),show (true ^^ true)=false from rfl]
    ext
    refine ifB (λKv=>?_) λKv=>?_
    ·dsimp only at hD
     rw [NC (Om Kv)] at hD
     ext
     refine ⟨X.p,X.d,X.n,X.ms,z,t,m,rfl,W,by lia,Ju,g.er _ (As.cb Ju),?_⟩
     ext
     exact hD
    ·dsimp only at hD
     rw [NB (OD Kv)] at hD
     ext
     refine ⟨X.p,X.d,X.n,X.ms,z,m,rfl,W,Ju,?_⟩
     ext
     exact hD
 ·rintro HD S3 ⟨A',B',u,Jv,hpa,hpb,rfl,ML⟩
  have Nr:S3 wl=some (.lst [.ref A.p,.ref B.p]):=by
   have:=Jv.get 5 rfl
   rw [hpa,hpb] at this
   exact this
  refine ⟨qk Nr,?_⟩
  rcases ML with ⟨e,_⟩|⟨e,_⟩|⟨e,rfl,rfl⟩
  ·cases e
  ·cases e
  ext
  exact .mk (hq _ _ _ _ ⟨(Ov.mp Jv.nd).2,λx hx=>Jv.is x (NQ _ hx)⟩ hbx (hB.next hz hc0 hc1 ht0 MQ))
theorem ph:∀ ws:List Str,PyData.eqvAll (ws.map PyData.str) (ws.map PyData.str)=true
 |[]=>rfl
 |a::l=>by simp only [NF,PyData.eqvAll,PyData.eqv,ph l,QB,Bool.and_self,BEq.rfl]
theorem yR {S:Sto}{Q:T2.T->Sto->Prop}{ws:List Str}(h0:∀ a∈ws,PyData.strOk a=true) (h:Q (.bl false) S):gEq true (.lst (ws.map T2.T.str)) (.lst (ws.map T2.T.str)) S Q:=by
 have e:bB S (.lst (ws.map T2.T.str))=some (.list (ws.map PyData.str)):=by
  show (aT _).map PyData.list=_
  rw [gM];rfl
 refine ⟨.list (ws.map .str),.list (ws.map .str),e,e,by simp only [PyData.canLay0];exact fH h0,by simp only [PyData.canLay0];exact fH h0,?_,?_⟩
 ·simp only [PyData.depth,gR];decide
 ·have:PyData.eqv (.list (ws.map .str)) (.list (ws.map .str))=true:=by simp only [PyData.eqv,ph]
  rw [this];exact h
def tpT (l:List Rt):T2.T:=match l with
 |[]=>.non
 |a::r=>.int (bX (a::r))
theorem yS {l l':List Rt}(p:l.Perm l'):tpT l=tpT l':=by
 cases l with
 |nil=>rw [List.nil_perm.mp p]
 |cons a r =>
  cases l' with
  |nil=>cases p.length_eq
  |cons c s=>show T2.T.int _=T2.T.int _;rw [oh p]
theorem DH {S:Sto}{Q:T2.T->Sto->Prop}{l:List Rt}(h:Q (.bl false) S):gEq true (tpT l) (tpT l) S Q:=by
 cases l with
 |nil=>exact ⟨.none,.none,rfl,rfl,rfl,rfl,by decide,h⟩
 |cons a r=>exact iA (by rw [NK rfl];exact h)
theorem Bf (ms:Ms) (n:Int) (b:Str):(aZ ms b).map (λa=>wrt a.2 n)=(rtd ms n b).map (·.2):=by unfold rtd;rw [NV];rfl
theorem rT {S:Sto}{Q:T2.T->Sto->Prop}{p d:Addr}{n:Int}{ms:Ms}{b:Str}(W:Wo C S p d n ms) (hl:ms.length<=300) (hn:∀ a∈ms,a.2.2<=n) (h:Q (tpT (rtd ms n b)) S):spTop C ([.ref p,.str b]++[]) S Q:=by
 refine ⟨p,d,n,ms,b,rfl,W,hl,hn,λh0=>?_,λh0 i h1 h2=>?_⟩
 ·have:rtd ms n b=[]:=by unfold rtd;rw [h0];rfl
  rw [this] at h
  exact h
 ·rw [Bf] at h1 h2
  have e:=hU h1 h2
  cases q:rtd ms n b with
  |nil=>rw [q] at h1;cases h1
  |cons a r =>
   rw [q] at h e
   rw [<- e]
   exact h
theorem DI (z:Str){r:Int}(h:0<=r):PySem.Txt.startswith z (PySem.Txt.slice z none (some r))=true:=by
 obtain ⟨k,rfl⟩:=Int.eq_ofNat_of_zero_le h
 rw [Tm.lq,ND,Tm.dw,Of,<- RV,List.take_length]
theorem Bi.rp {k:Nat}{A B:Wx}(h:Bi k A B) (b:Str):(rtd A.ms A.n b).Perm (rtd B.ms B.n b):=by
 rw [rQ,rQ]
 exact h.p.filter _
theorem pi {k:Nat}{A B:Wx}{l m:List Rt}(h:Bi k A B) (h1:l.Perm (due A.ms A.n)) (h2:cx l) (h3:m.Perm (due B.ms B.n)) (h4:cx m):l=m :=
 sQ h2 h4 (by rw [(h1.map (·.1)).nodup_iff];exact h.tb.nd) (h1.trans (h.p.trans h3.symm))
theorem FO {k:Nat}{A B:Wx}{b:Str}{m:Nat}{ws ws' zs Mc:List Str}(h:Bi k A B) (h1:ws.Perm (A.ms.map (·.1))) (h2:Ups ws) (h3:zs.Perm (lo (bo (rtd A.ms A.n b) b m) ws)) (h4:Ups zs)
  (g1:ws'.Perm (B.ms.map (·.1))) (g2:Ups ws') (g3:Mc.Perm (lo (bo (rtd B.ms B.n b) b m) ws')) (g4:Ups Mc):zs=Mc:=by
 have hk:(A.ms.map (·.1)).Perm (B.ms.map (·.1)):=by
  have:=h.p.map (·.1)
  unfold Wx.t at this
  rw [cz,cz] at this
  exact this
 obtain rfl:ws=ws':=lP h2 g2 (h1.trans (hk.trans g1.symm))
 have hn:(rtd A.ms A.n b).Nodup:=lL (by rw [<- cz A.ms A.n];exact h.tb.nd)
 exact lP h4 g4 (h3.trans (((xk hn (h.rp b) b m).flatMap_right _).trans g3.symm))
inductive spAl (ts:List T2.T) (S:Sto) (Q:T2.T->Sto->Prop):Prop
 |mk:∀ A B wl bx o k,ts=[.ref bx,.ref wl]->At S (two A B wl bx o)->aE o->Bi k A B->k<=150->(∀ S' o',At S' (two A B wl bx o')->aE o'->Q (.bl true) S')->spAl ts S Q
theorem m7:FnScope ["_law_box_here","_law_woods","_law_standing","_law_word_here","_law_text","_law_many"] vv7 (am jv):=by nofun
theorem FP (F:!"_law_alike" jv) (T:!0)
  (HB:!1 f1 Ie vv0 cf) (HC:Df K mg "_law_take" f1 Ie vv0)
  (HF:!4 f2 IW vv9 (spWWords C)) (HG:Meth K C "words" f2) (HH:ay K IW vv9 [])
  (Iq:!3 f3 K0 vv3 (spTop C)) (Ir:Meth K C "top_of" f3) (Iu:ay K K0 vv3 [])
  (IH:!5 f4 L6 vv5 (spTold C)) (II:Meth K C "told" f4) (IJ:ay K L6 vv5 [])
  (IT:!30 f5 fd5 iU spLeft) (IU:Df K mg "_law_left_out" f5 fd5 iU)
  (Js:!6 f6 Ng vv8 spNr) (Jt:Df K mg "_law_needs_right" f6 Ng vv8) :
  !31 f fd vv7 spAl:=by
 refine dI F m7 (λts S Q h=>?_) λcdv A outer s H E hr=>?_
 ·cases h;subst_vars;rfl
 have nd:=m7.nd
 refine ⟨_,((ai (aB (aI (b8 rfl hr.units) (ce (T.gf HG) HF HH hr.m (ap (aa 1) af)) (ce (T.gf HG) HF HH hr.m (ap (aa 1) af))) (ag (ao bA)) aD) (ai (aA 2 nd (aC (ba false) (cU (ac aP ae)) (bS false vv1 2 [] rfl (aS rfl (ce (T.gf HG) HF HH hr.m (ap (aa 1) af))) (λ_ _ _ _=>(bI (λh=>bF (n:=2) rfl rfl h) (aK (av 0 (show List.Nodup (vv1:List Str) from by decide +kernel)) (aK (av 1 (show List.Nodup (vv1:List Str) from by decide +kernel)) bG (λh1 h2=>aJ h1 h2)) (λh1 h2=>aJ h1 h2)))) (λ_ _ _ _=>bH) (λ_ _ _ _=>(aa 0))))) (ai (aA 3 nd (ap (aa 2) (al HB HC hr.m (ac (aa 0) (ac (aL (bf rfl) T.len Oj (ac (aa 2) ae)) ae))))) (ai (aA 4 nd (cQ false rfl (aa 3) cO (cP (al HB HC hr.m (ac (aa 0) (ac (aC (ba false) (aL (bf rfl) T.len Oj (ac (aa 3) ae)) af) ae)))))) (ai (aA 5 nd (aC (ba false) af (al HB HC hr.m (ac (aa 0) (ac af ae))))) (ai (aB (aR (bn (aI (b8 rfl hr.units) (aU (T.gf Ir) Iq Iu hr.m (ap (aa 1) af) (ac (aa 4) ae)) (aU (T.gf Ir) Iq Iu hr.m (ap (aa 1) af) (ac (aa 4) ae))) (bq (aI (b8 rfl hr.units) (aU (T.gf II) IH IJ hr.m (ap (aa 1) af) (ac (aa 4) (ac (aa 5) ae))) (aU (T.gf II) IH IJ hr.m (ap (aa 1) af) (ac (aa 4) (ac (aa 5) ae))))))) (ag (ao bA)) aD) (ai (aB (aI (b8 rfl hr.units) (al IT IU hr.m (ac (ap (aa 1) af) (ac (aa 4) (ac (aa 5) ae)))) (al IT IU hr.m (ac (ap (aa 1) af) (ac (aa 4) (ac (aa 5) ae))))) (ag (ao bA)) aD) (ai (aB (aR (bn (bd hr (aa 3) aP) (bq (bd hr (al HB HC hr.m (ac (aa 0) (ac af ae))) af)))) (ag (ao bA)) aD) (ag (ao (al Js Jt hr.m (ac (aa 1) (ac (aa 3) (ac (aa 4) (ac (aa 5) ae)))))))))))))))),aw λv hu ts S Q h=>?_⟩
 obtain ⟨A,B,wl,bx,o,k,rfl,hA,MT,hB,hk,hq⟩:=h
 have ga:=hB.ga (by lia)
 have gb:=hB.gb (by lia)
 have hal:=ga.len
 have hbl:=gb.len
 ac_nf
 refine aV (λHD S'=>HD=[some (.ref bx),some (.ref wl),none,none,none,none]/\S'=S) ?_ ?_
 ·intro X hX
  have LJ:=hA.el
  have Np:=hA.wa.ins
  have hwb:=hA.wb.ins
  ext
  refine ⟨A.p,A.d,A.n,A.ms,rfl,hA.wa,by lia,ga.er,ga.nd,ga.wd,λl h1 h2=>?_⟩
  ext
  refine ⟨B.p,B.d,B.n,B.ms,rfl,hA.wb,by lia,gb.er,gb.nd,gb.wd,λl2 h3 h4=>?_⟩
  obtain rfl:l=l2:=pi hB h1 h2 h3 h4
  have hok:∀ a∈l,PyData.strOk a.1=true:=λa ha=>by
   obtain ⟨x,hx,rfl⟩:=NI.mp (h1.mem_iff.mp ha)
   exact Wm.eP (ga.wd x hx)
  refine lD fh fh hok hok (h:=?_)
  rw [show (true ^^ decide (l=l))=false by rw [NK rfl];rfl]
  ext
  exact hX _ _ ⟨rfl,rfl⟩
 rintro HD S1 ⟨rfl,rfl⟩
 refine aV (λHD S'=>∃ xs:List Str,(∀ x∈xs,x=Str.ofString "" \/ x∈A.ms.map (·.1))/\0<xs.length/\xs.length<=201/\HD=[some (.ref bx),some (.ref wl),some (.lst (xs.map T2.T.str)),none,none,none]/\S'=S1) ?_ ?_
 ·intro X hX
  have LJ:=hA.el
  have Np:=hA.wa.ins
  ext
  refine ⟨A.p,A.d,A.n,A.ms,rfl,hA.wa,by lia,ga.er,ga.nd,ga.wd,λl IX Nn=>?_⟩
  have Ku:l.length<=200:=by rw [IX.length_eq,Nz];lia
  ext
  rw [show l.map rt=l.map (λa:Rt=>T2.T.tup [.str a.1,.int a.2]) from rfl]
  refine bY (λa:Rt=>T2.T.tup [.str a.1,.int a.2]) (λa:Rt=>some (T2.T.str a.1)) [] (by trivial) (by rw [N3];lia) (λa ha u v HI N HN hN=>?_) ?_
  ·ext
   exact ⟨HN,hN _ _⟩
  rw [Wm.bM,dB]
  ext
  refine Ct rfl rfl (by rw [Nz,Nz,N3];simp only [NU,OI];lia) ?_
  ext
  exact hX _ _ ⟨Str.ofString "" :: l.map (·.1),λx hx=>(NR.mp hx).imp_right λq=>(jK IX).mem_iff.mp q,by simp,by simp;lia,rfl,rfl⟩
 rintro HD S2 ⟨xs,hxs,hx0,hxl,rfl,rfl⟩
 refine aV (λHD S'=>∃ z o',(z=Str.ofString "" \/ z∈A.ms.map (·.1))/\aE o'/\HD=[some (.ref bx),some (.ref wl),some (.lst (xs.map T2.T.str)),some (.str z),none,none]/\At S' (two A B wl bx o')) ?_ ?_
 ·intro X hX
  have Kw:=hA.bx
  ext
  exact hX _ _ ⟨z,_,hxs z hz,hbx,rfl,hA.bxp⟩
 rintro HD S3 ⟨z,o3,hz,Kv,rfl,A3⟩
 have hzl:z.length<=24:=by
  rcases hz with rfl|hz
  ·rw [Tm.gL];lia
  ·obtain ⟨x,hx,rfl⟩:=NI.mp hz
   exact (Wm.cD (ga.wd x hx)).2
 clear hA MT
 refine aV (λHD S'=>∃ b o',PySem.Txt.startswith z b=true/\b.length<=24/\aE o'/\HD=[some (.ref bx),some (.ref wl),some (.lst (xs.map T2.T.str)),some (.str z),some (.str b),none]/\At S' (two A B wl bx o')) ?_ ?_
 ·intro X hX
  have Kw:=A3.bx
  ext
  exact hX _ _ ⟨_,_,DI z hr0,NZ (QY z none _) hzl,hbx,rfl,A3.bxp⟩
 rintro HD S4 ⟨b,o4,Ki,KS,MN,rfl,A4⟩
 refine aV (λHD S'=>∃ m o',1<=m/\aE o'/\HD=[some (.ref bx),some (.ref wl),some (.lst (xs.map T2.T.str)),some (.str z),some (.str b),some (.int m)]/\At S' (two A B wl bx o')) ?_ ?_
 ·intro X hX
  have Kw:=A4.bx
  ext
  exact hX _ _ ⟨_,_,by lia,hbx,rfl,A4.bxp⟩
 rintro HD S5 ⟨m,o5,hm,hb5,rfl,A5⟩
 clear A3 A4 Kv MN
 have LJ:=A5.el
 have Np:=A5.wa.ins
 have hwb:=A5.wb.ins
 refine aV (λHD S'=>HD=[some (.ref bx),some (.ref wl),some (.lst (xs.map T2.T.str)),some (.str z),some (.str b),some (.int m)]/\S'=S5) ?_ ?_
 ·intro X hX
  ext
  refine rT A5.wa (by lia) ga.er ?_
  ext
  refine rT A5.wb (by lia) gb.er ?_
  rw [yS (hB.rp b)]
  refine DH ?_
  ext
  refine ⟨A.p,A.d,A.n,A.ms,b,m,rfl,A5.wa,by lia,ga.er,ga.nd,by lia,?_⟩
  ext
  refine ⟨B.p,B.d,B.n,B.ms,b,m,rfl,A5.wb,by lia,gb.er,gb.nd,by lia,?_⟩
  rw [rN (lL ga.nd) (hB.rp b)]
  have hok:∀ a∈(bst (rtd B.ms B.n b)).take m.toNat,PyData.strOk a.1=true:=λa ha=>by
   have ha:=(dA _).mem_iff.mp (OY ha)
   unfold rtd aZ at ha
   obtain ⟨x,hx,rfl⟩:=NI.mp ha
   exact Wm.eP (gb.wd x (Oc.mp hx).1)
  generalize (bst (rtd B.ms B.n b)).take m.toNat=l at hok ⊢
  refine lD fh fh hok hok (h:=?_)
  rw [show (true ^^ decide (l=l))=false by rw [NK rfl];rfl]
  ext
  exact hX _ _ ⟨rfl,rfl⟩
 rintro HD S6 ⟨rfl,rfl⟩
 refine aV (λHD S'=>HD=[some (.ref bx),some (.ref wl),some (.lst (xs.map T2.T.str)),some (.str z),some (.str b),some (.int m)]/\Le S6 S') ?_ ?_
 ·intro X hX
  ext
  refine ⟨A.p,A.d,A.n,A.ms,k,b,m,rfl,A5.wa,ga,by lia,by lia,KS,λS7 ws zs Nh h1 h2 h3 h4=>?_⟩
  have LJ:=(A5.keep Nh).el
  ext
  refine ⟨B.p,B.d,B.n,B.ms,k,b,m,rfl,(A5.keep Nh).wb,gb,by lia,by lia,KS,λS8 ws2 zs2 le2 g1 g2 g3 g4=>?_⟩
  obtain rfl:zs=zs2:=FO hB h1 h2 h3 h4 g1 g2 g3 g4
  refine yR (λa ha=>?_) ?_
  ·unfold lo at h3
   obtain ⟨x,_,hx⟩:=List.mem_flatMap.mp (h3.mem_iff.mp ha)
   obtain ⟨y,hy,rfl⟩:=NI.mp (h1.mem_iff.mp (Oc.mp hx).1)
   exact Wm.eP (ga.wd y hy)
  ext
  exact hX _ _ ⟨rfl,Nh.trans le2⟩
 rintro HD S7 ⟨rfl,le⟩
 have A7:=A5.keep le
 clear A5 le LJ Np hwb
 have Kw:=A7.bx
 ext
 refine ifB (λhb=>?_) λhb=>?_
 ·ext
  exact .mk (hq _ _ A7 hb5)
 rw [Od] at hb
 ext
 refine ifB (λIY=>?_) λIY=>?_
 ·ext
  exact .mk (hq _ _ A7.bxp hbx)
 ext
 have hzm:z∈A.ms.map (·.1):=hz.resolve_left (OD hb)
 obtain ⟨x,hx,rfl⟩:=NI.mp hzm
 refine ⟨A,B,wl,bx,o',k,x.1,wrt x.2 A.n,b,m,rfl,A7.bxp,hB,by lia,?_,Ki,KS,hm,.mk (hq _ _ A7.bxp hbx)⟩
 exact As.cA hB.tb.nd (NI.mpr ⟨x,hx,rfl⟩)
section
variable {C:Addr}{S S':Sto}{l l' nw:List (Addr×O)}{p d v y t q g c:Addr}{o u:O}
theorem At.grow (h:At S l) (nd:(nw.map (·.1)).Nodup) (hn:∀ x∈nw,S x.1=none) (hv:∀ x∈nw,S' x.1=some x.2) (k:∀ a o,S a=some o->S' a=some o):At S' (nw++l):=by
 refine ⟨Og ▸ PU.mpr ⟨nd,h.nd,λa ha b hb e=>?_⟩,λx hx=>?_⟩
 ·obtain ⟨x,hx,rfl⟩:=NI.mp ha
  obtain ⟨y,hy,rfl⟩:=NI.mp hb
  exact eQ (h.is y hy) (hn x hx) e.symm
 ·rcases NL.mp hx with q|q
  ·exact hv x q
  ·exact k _ _ (h.is x q)
theorem At.wood (hA:At S l) (h1:S p=none) (h2:T2.put S p (.ins C []) d=none):At (T2.put (T2.put (T2.put S p (.ins C [])) d (.dK [])) p o) ((d,.dK [])::(p,o)::l):=((hA.cons h1).cons h2).put 1 rfl
end
theorem FQ (ns:List Int):(dS ns none (some 63)).length<=63:=by
 rw [pN (by decide),Of];lia
def one (A:Wx) (bx:Addr) (o:O):List (Addr×O):=[(A.p,A.o),(A.d,.dK (kt mkT A.ms)),(bx,o)]
theorem At.wnew {S S':Sto}{l:List (Addr×O)}{B:Wx}(h:At S l) (W:Wo C S' B.p B.d B.n B.ms) (le:Le S S') (h1:S B.p=none) (h2:S B.d=none):At S' ((B.p,B.o)::(B.d,.dK (kt mkT B.ms))::l):=by
 refine h.grow (nw:=[(B.p,B.o),(B.d,.dK (kt mkT B.ms))]) ?_ ?_ ?_ le
 ·simp only [NF,Pr,Ov,N1,P2,not_false_eq_true,SA,and_true]
  exact W.ne
 ·intro x hx
  simp only [NR,P2,or_false] at hx
  rcases hx with rfl|rfl<;>assumption
 ·intro x hx
  simp only [NR,P2,or_false] at hx
  rcases hx with rfl|rfl
  ·exact W.ins
  ·exact W.dct
theorem G1.rd {k:Nat}{n:Int}{ms:Ms}{l:List Rt}(g:G1 k n ms) (hk:k<=200) (h1:l.Perm (due ms n)) (h2:cx l):Rd l:=by
 refine Rd.of h2 ?_ (λa ha=>?_) (λa ha=>g.ge a (h1.mem_iff.mp ha)) ?_
 ·rw [(h1.map (·.1)).nodup_iff,cz];exact g.nd
 ·obtain ⟨x,hx,rfl⟩:=NI.mp (h1.mem_iff.mp ha)
  exact g.wd x hx
 ·rw [h1.length_eq]
  unfold due
  rw [Nz]
  have:=g.len;lia
inductive spLaw (ts:List T2.T) (S:Sto) (Q:T2.T->Sto->Prop):Prop
 |mk:∀ ns:List Int,ts=[.scr ns]->(∀ S',Q (.bl true) S')->spLaw ts S Q
theorem rV:FnScope ["_law_script","_law_wood","_law_box_here","_law_k","_law_standing","_law_word_here","_law_woods","_law_cell"] ["_law_script"] (am eF):=by nofun
theorem DJ (F:!"law" eF) (T:!0)
  (J2:!1 f1 Ie ["_law_cell"] fU) (J3:Df K mg "_law_box" f1 Ie ["_law_cell"])
  (J4:!1 f2 IW gv fO) (J8:Df K mg "_law_cell_at" f2 IW gv)
  (Iy:!1 f3 K0 vv9 (spInit C)) (Lb:Mk K C f3) (Iz:ay K K0 vv9 [])
  (HB:!1 f4 L6 vv0 cf) (HC:Df K mg "_law_take" f4 L6 vv0)
  (Io:!3 f5 fd5 fj spNext) (Ip:Df K mg "_law_next_word" f5 fd5 fj)
  (IR:!2 f6 Ng cK spCount) (IS:Df K mg "_law_count" f6 Ng cK)
  (IA:!4 f7 fd7 c6 (spPut C)) (IB:Meth K C "put" f7) (IC:ay K fd7 c6 [])
  (Jh:!1 f8 fd8 d0 (spFade C)) (Ji:Meth K C "fade" f8) (Jj:ay K fd8 d0 [])
  (HF:!4 f9 fd9 vv9 (spWWords C)) (HG:Meth K C "words" f9) (HH:ay K fd9 vv9 [])
  (Lj:!1 f10 fd10 vv9 (spEra C)) (Ll:Meth K C "era" f10) (Lm:ay K fd10 vv9 [])
  (JF:!5 f11 fd11 ["texts"] (spRead C)) (JG:Df K mg "read_wood" f11 fd11 ["texts"])
  (Jw:!5 f12 fd12 ["wood"] (spWTexts C)) (Jx:Df K mg "wood_texts" f12 fd12 ["wood"])
  (KU:!5 f13 fd13 vv7 spDd) (KW:Df K mg "_law_deed" f13 fd13 vv7)
  (Kn:!31 f14 fd14 vv7 spAl) (Ko:Df K mg "_law_alike" f14 fd14 vv7):!32 f fd ["_law_script"] spLaw:=by
 refine dI F rV (λts S Q h=>?_) λcdv A outer s H E hr=>?_
 ·cases h;subst_vars;rfl
 have nd:=rV.nd
 refine ⟨_,((ai (aA 1 nd (p6 Lb Iy Iz hr.m (by rfl) T.mg_Wood)) (ai (aA 2 nd (al J2 J3 hr.m (ac (al J4 J8 hr.m (ac (aa 0) (ac af ae))) ae))) (ai (bT OJ rfl (fz (by rfl) T.range (al HB HC hr.m (ac (aa 2) (ac af ae)))) (av 3 nd) (ai (cL true (i:=4) vv1 2 [] rfl nd rfl (Or.inl rfl) (aS rfl (ce (T.gf HG) HF HH hr.m (aa 1))) (λ_ _ _ _=>(bI (λh=>bF (n:=2) rfl rfl h) (aK (av 0 (show List.Nodup (vv1:List Str) from by decide +kernel)) (aK (av 1 (show List.Nodup (vv1:List Str) from by decide +kernel)) bG (λh1 h2=>aJ h1 h2)) (λh1 h2=>aJ h1 h2)))) (λ_ _ _ _=>bH) (λ_ _ _ _=>(aa 0))) (ai (aA 5 nd (al Io Ip hr.m (ac (aa 2) (ac (aa 4) ae)))) (ai (aB (aI (pG rfl) (aa 5) (aa 4) (by with_unfolding_all rfl)) (ag (bN (aU (T.gf IB) IA IC hr.m (aa 1) (ac (aa 5) (ac (al IR IS hr.m (ac (aa 2) ae)) ae))))) aD) (ag (bN (aU (T.gf Ji) Jh Jj hr.m (aa 1) (ac (aC (ba false) af (al HB HC hr.m (ac (aa 2) (ac af ae)))) ae)))))))) (ai (aA 6 nd (dH (ac (aa 1) (ac (al JF JG hr.m (ac (al Jw Jx hr.m (ac (aa 1) ae)) ae)) ae)))) (ai (aB (aR (bn (aI (b8 rfl hr.units) (ce (T.gf Ll) Lj Lm hr.m (ap (aa 6) af)) af) (bq (aI (b8 rfl hr.units) (ce (T.gf HG) HF HH hr.m (ap (aa 6) af)) (ce (T.gf HG) HF HH hr.m (ap (aa 6) af)))))) (ag (ao bA)) aD) (ai (bT OJ rfl (aS rfl (cQ false rfl (aa 0) cO (cP af))) (av 7 nd) (ai (aA 2 nd (al J2 J3 hr.m (ac (aa 7) ae))) (ai (bN (al KU KW hr.m (ac (aa 2) (ac (aa 6) ae)))) (ai (aB (bd hr (al HB HC hr.m (ac (aa 2) (ac af ae))) af) (ag (df (al JF JG hr.m (ac (al Jw Jx hr.m (ac (ap (aa 6) af) ae)) ae)) (dt (aa 6) af (eE 1)))) aD) (ag (aB (ci (aW (al Kn Ko hr.m (ac (aa 2) (ac (aa 6) ae))))) (ag (ao bA)) aD)))))) (ag (ao bA))))))))),aw λv hu ts S Q h=>?_⟩
 obtain ⟨ns,rfl,hq⟩:=h
 ac_nf
 ext
 intro p hp0
 refine ⟨p,rfl,ax,λd Nf=>⟨rfl,?_⟩⟩
 have hA:=At.wood (o:=.ins C [("marks",.ref d),("now",.int 0)]) (⟨SA,λx hx=>nomatch hx⟩:At S []) hp0 Nf
 generalize put (put (put S p (.ins C [])) d (.dK [])) p (.ins C [("marks",.ref d),("now",.int 0)])=S1 at hA ⊢
 clear hp0 Nf
 ext
 rename Addr=>bx
 have hA1:At (put S1 bx o') (one ⟨p,d,0,[]⟩ bx o'):=((hA.cons (o:=o') hq0).pick [2,1,0] (by decide) rfl)
 clear hA hq0
 generalize put S1 bx o'=S2 at hA1 ⊢
 refine gF (λj HD S'=>∃ n ms o u3 u4 u5,HD=[some (.scr ns),some (.ref p),some (.ref bx),u3,u4,u5,none,none]/\At S' (one ⟨p,d,n,ms⟩ bx o)/\aE o/\(∀ a∈ms,a.2.2<=n)/\Tb (2 * j) (due ms n)) ⟨0,[],o',none,none,none,rfl,hA1,hbx,by simp,⟨by simp [due],by simp [due],by simp [due],by simp [due]⟩⟩ ?_ ?_
 ·rintro j HD S' N hj ⟨n,ms,o,u3,u4,u5,rfl,hA,MT,Nt,tb⟩ hN
  have g:=tb.g (by lia) Nt
  have hgl:=g.len
  have hwi:=hA.get 0 rfl
  refine ⟨trivial,?_⟩
  refine T2.me (by and_intros;rfl) ?_
  try dsimp only
  refine aV (λHD S'=>∃ (ws:List Str) (q:Addr),ws.Perm (ms.map (·.1))/\HD=[some (.scr ns),some (.ref p),some (.ref bx),some (.int (0+j)),some (.ref q),u5,none,none]/\At S' ((q,.lst (ws.map T2.T.str))::one ⟨p,d,n,ms⟩ bx o)) ?_ ?_
  ·intro X hX
   unfold Wx.o at hwi
   ext
   refine ⟨p,d,n,ms,rfl,⟨hA.get 0 rfl,hA.get 1 rfl⟩,by lia,g.er,g.nd,g.wd,λl IX Nn=>?_⟩
   have Ku:l.length<=200:=by rw [IX.length_eq,Nz];lia
   ext
   rw [show l.map rt=l.map (λa:Rt=>T2.T.tup [.str a.1,.int a.2]) from rfl]
   refine bY (λa:Rt=>T2.T.tup [.str a.1,.int a.2]) (λa:Rt=>some (T2.T.str a.1)) [] (by trivial) (by rw [N3];lia) (λa ha u v HI N HN hN=>?_) ?_
   ·ext
    exact ⟨HN,hN _ _⟩
   rw [Wm.bM,dB]
   ext
   intro q hq0
   ext
   exact hX _ _ ⟨l.map (·.1),q,jK IX,rfl,hA.cons hq0⟩
  rintro HD S3 ⟨ws,q,L7,rfl,Jv⟩
  have LL:ws.length<=200:=by rw [L7.length_eq,Nz];lia
  have hww:∀ z∈ws,Wm.Wd z=true:=λz hz=>by
   obtain ⟨x,hx,rfl⟩:=NI.mp (L7.mem_iff.mp hz)
   exact g.wd x hx
  have Nq:∀ z,look ms z=none ↔ z∉ws:=λz=>by rw [As.bK,L7.mem_iff]
  refine aV (λHD S'=>∃ z o1,Wm.Wd z=true/\aE o1/\HD=[some (.scr ns),some (.ref p),some (.ref bx),some (.int (0+j)),some (.ref q),some (.str z),none,none]/\At S' ((q,.lst (ws.map T2.T.str))::one ⟨p,d,n,ms⟩ bx o1)) ?_ ?_
  ·intro X hX
   ext
   refine ⟨bx,q,o,ws,rfl,Jv.get 3 rfl,MT,Jv.get 0 rfl,Jv.ne 3 0 (by decide) rfl rfl,hww,by lia,λz o1 hz Nj=>?_⟩
   ext
   exact hX _ _ ⟨z,o1,hz,Nj,rfl,Jv.put 3 rfl⟩
  rintro HD S4 ⟨z,o1,hz,Nj,rfl,hA4⟩
  have hqe:S4 q=some (.lst (ws.map T2.T.str)):=hA4.get 0 rfl
  have Kw:S4 bx=some o1:=hA4.get 3 rfl
  have hwi:S4 p=some (.ins C [("marks",.ref d),("now",.int n)]):=hA4.get 1 rfl
  refine aV (λHD S'=>∃ Nu o2,aE o2/\(∀ a∈Nu,a.2.2<=n)/\Tb (2 * j+1) (due Nu n)/\HD=[some (.scr ns),some (.ref p),some (.ref bx),some (.int (0+j)),some (.ref q),some (.str z),none,none]/\At S' ((q,.lst (ws.map T2.T.str))::one ⟨p,d,n,Nu⟩ bx o2)) ?_ ?_
  ·intro X hX
   ext
   cases Ju:look ms z with
   |some m =>
    rw [NK (QN λh=>by have:=(Nq z).mpr h;rw [Ju] at this;cases this),show (true ^^ true)=false from rfl]
    ext
    exact hX _ _ ⟨ms,o1,Nj,Nt,tb.up,rfl,hA4⟩
   |none =>
    rw [NS ((Nq z).mp Ju),show (true ^^ false)=true from rfl]
    ext
    have MU:At (put S4 bx o') ((q,.lst (ws.map T2.T.str))::one ⟨p,d,n,ms⟩ bx o'):=hA4.put 3 rfl
    have hwi:put S4 bx o' p=some (.ins C [("marks",.ref d),("now",.int n)]):=MU.get 1 rfl
    ext
    refine ⟨p,d,n,ms,z,r,rfl,⟨MU.get 1 rfl,MU.get 2 rfl⟩,by lia,hz,Ju,?_⟩
    ext
    have hdl:look (due ms n) z=none:=by rw [gS,Ju];rfl
    refine hX _ _ ⟨ms++[(z,r,n)],o',hbx,λa ha=>?_,?_,rfl,MU.put 2 rfl⟩
    ·rcases NL.mp ha with h|h
     ·exact Nt a h
     ·rw [N1.mp h];exact PZ _
    ·have:=tb.put hz hdl hr0 hr1
     rw [show due (ms++[(z,r,n)]) n=due ms n++[(z,r)] by unfold due;rw [Og];simp only [NF,Pr,km]]
     exact this
  rintro HD S5 ⟨Nu,o2,IY,her2,tb2,rfl,MU⟩
  have Kw:S5 bx=some o2:=MU.get 3 rfl
  have hw5:S5 p=some (.ins C [("marks",.ref d),("now",.int n)]):=MU.get 1 rfl
  ext
  have Nv:At (put S5 bx o') ((q,.lst (ws.map T2.T.str))::one ⟨p,d,n,Nu⟩ bx o'):=MU.put 3 rfl
  have hwi:put S5 bx o' p=some (.ins C [("marks",.ref d),("now",.int n)]):=Nv.get 1 rfl
  ext
  refine ⟨p,d,n,Nu,1+r,rfl,⟨Nv.get 1 rfl,Nv.get 2 rfl⟩,?_⟩
  ext
  refine hN _ _ ⟨n+(1+r),Nu,o',_,_,_,rfl,?_,hbx,λa ha=>?_,?_⟩
  ·exact (Nv.put (o':=.ins C [("marks",.ref d),("now",.int (n+(1+r)))]) 1 rfl).pick [1,2,3] (by decide) rfl
  ·have:=her2 a ha;lia
  ·rw [rL her2 (by lia)]
   exact tb2.fade
 ·rintro HD S' ⟨n,ms,o,u3,u4,u5,rfl,hA,MT,Nt,tb⟩
  refine ⟨trivial,?_⟩
  have hr12:2 * r.toNat<=22:=by lia
  generalize 2 * r.toNat=k0 at hr12 tb
  have g:=tb.g (by lia) Nt
  have hgl:=g.len
  dsimp only
  refine aV (λHD S2=>∃ B wl,HD=[some (.scr ns),some (.ref p),some (.ref bx),u3,u4,u5,some (.ref wl),none]/\At S2 (two ⟨p,d,n,ms⟩ B wl bx o)/\Bi k0 ⟨p,d,n,ms⟩ B/\B.n=0) ?_ ?_
  ·intro X hX
   ext
   refine ⟨p,d,n,ms,rfl,⟨hA.get 0 rfl,hA.get 1 rfl⟩,by lia,g.er,g.nd,g.wd,g.ge,λl KZ MG q hq0=>?_⟩
   ext
   refine ⟨_,l,rfl,by simp only [az,ax];rfl,g.rd (by lia) KZ MG,λS3 p3 d3 W le hd3 hp3=>?_⟩
   have Jv:=(hA.new (o:=.lst (l.map lnT)) hq0).wnew (B:=⟨p3,d3,0,rd l⟩) W le hp3 hd3
   ext
   intro wl LL
   ext
   have b0:Bi k0 ⟨p,d,n,ms⟩ ⟨p,d,n,ms⟩:=⟨tb,Nt,Nt,.refl _⟩
   exact hX _ _ ⟨⟨p3,d3,0,rd l⟩,wl,rfl,(Jv.cons LL).pick [3,4,1,2,0,5] (by decide) rfl,b0.anew KZ,rfl⟩
  rintro HD S3 ⟨B,wl,rfl,Jv,hB,hn0⟩
  have ga:=hB.ga (by lia)
  have gb:=hB.gb (by lia)
  have hal:=ga.len
  have hbl:=gb.len
  refine aV (λHD S2=>HD=[some (.scr ns),some (.ref p),some (.ref bx),u3,u4,u5,some (.ref wl),none]/\S2=S3) ?_ ?_
  ·intro X hX
   have LJ:=Jv.el
   have Np:=Jv.wa.ins
   have hwb:=Jv.wb.ins
   ext
   refine ⟨B.p,B.d,B.n,rfl,hwb,?_⟩
   rw [hn0]
   ext
   rw [show (true ^^ decide ((0:Int)=0))=false from rfl]
   ext
   refine ⟨p,d,n,ms,rfl,Jv.wa,by lia,ga.er,ga.nd,ga.wd,λl h1 h2=>?_⟩
   ext
   refine ⟨B.p,B.d,B.n,B.ms,rfl,Jv.wb,by lia,gb.er,gb.nd,gb.wd,λl2 h3 h4=>?_⟩
   obtain rfl:l=l2:=pi hB h1 h2 h3 h4
   have hok:∀ a∈l,PyData.strOk a.1=true:=λa ha=>by
    obtain ⟨x,hx,rfl⟩:=NI.mp (h1.mem_iff.mp ha)
    exact Wm.eP (ga.wd x hx)
   refine lD fh fh hok hok (h:=?_)
   rw [show (true ^^ decide (l=l))=false by rw [NK rfl];rfl]
   ext
   exact hX _ _ ⟨rfl,rfl⟩
  rintro HD S4 ⟨rfl,rfl⟩
  ext
  rw [oH]
  have hcl:=FQ ns
  generalize dS ns none (some 63)=cs at hcl ⊢
  ext
  refine oF (λitems HD S'=>(∀ t∈items,∃ c:Int,t=.int c)/\∃ k A B bx o u1 u2 u3 u4 u5 u7,k+items.length<=100/\At S' (two A B wl bx o)/\Bi k A B/\HD=[some (.scr ns),u1,u2,u3,u4,u5,some (.ref wl),u7]) ⟨λt ht=>?_,k0,_,B,bx,o,_,_,_,_,_,_,?_,Jv,hB,rfl⟩ ?_ ?_
  ·obtain ⟨c,_,rfl⟩:=NI.mp ht;exact ⟨c,rfl⟩
  ·rw [Nz];lia
  ·clear Jv hA MT
   rintro t ts HD S5 N ⟨hm,k,A,B,bx,o,u1,u2,u3,u4,u5,u7,hk,hA,hB,rfl⟩ hN
   obtain ⟨c,rfl⟩:=hm t (NM ..)
   simp only [NU] at hk
   refine ⟨trivial,?_⟩
   ext
   have hA1:At (put S5 q ob) (two A B wl q ob):=(hA.cons hq0).pick [1,2,3,4,5,0] (by decide) rfl
   refine ⟨A,B,wl,q,ob,k,rfl,hA1,hbx,hB,by lia,λS6 o6 A6 B6 Nv hb6 hB6=>?_⟩
   have gb:=hB6.gb (by lia)
   have hbl:=gb.len
   clear hA hA1 hB
   dsimp only
   refine aV (λHD S'=>∃ B7 o7,aE o7/\HD=[some (.scr ns),u1,some (.ref q),u3,u4,u5,some (.ref wl),some (.int c)]/\At S' (two A6 B7 wl q o7)/\Bi (k+1) A6 B7) ?_ ?_
   ·intro X hX
    have Kw:=Nv.bx
    ext
    have hA7:At (put S6 q o') (two A6 B6 wl q o'):=Nv.bxp
    refine ifB (λhb=>?_) λhb=>?_
    ·have LJ:=hA7.el
     ext
     refine ⟨B6.p,B6.d,B6.n,B6.ms,rfl,hA7.wb,by lia,gb.er,gb.nd,gb.wd,gb.ge,λl KZ MG q2 hq2=>?_⟩
     ext
     refine ⟨_,l,rfl,by simp only [az,ax];rfl,gb.rd (by lia) KZ MG,λS8 p8 d8 W le hd8 hp8=>?_⟩
     have hA8:=(hA7.new (o:=.lst (l.map lnT)) hq2).wnew (B:=⟨p8,d8,0,rd l⟩) W le hp8 hd8
     have hel8:S8 wl=some (.lst [.ref A6.p,.ref B6.p]):=hA8.get 6 rfl
     ext
     exact hX _ _ ⟨⟨p8,d8,0,rd l⟩,o',hbx,rfl,(hA8.put (o':=.lst [.ref A6.p,.ref p8]) 6 rfl).pick [2,3,0,1,6,7] (by decide) rfl,hB6.anew KZ⟩
    ·ext
     exact hX _ _ ⟨B6,o',hbx,rfl,hA7,hB6⟩
   rintro HD S7 ⟨B7,o7,hb7,rfl,hA7,hB7⟩
   ext
   refine ⟨A6,B7,wl,q,o7,k+1,rfl,hA7,hb7,hB7,by lia,λS8 o8 hA8 hb8=>?_⟩
   ext
   exact hN _ _ ⟨λt ht=>hm t (NQ _ ht),k+1,A6,B7,q,o8,_,_,_,_,_,_,by lia,hA8,hB7,rfl⟩
  ·rintro HD S5 ⟨_,k,A,B,bx,o,u1,u2,u3,u4,u5,u7,hk,hA,hB,rfl⟩
   refine ⟨trivial,?_⟩
   ext
   exact .mk (hq _)
theorem xl {K:PySem.W.Frag}{H:Hp}{a:Addr}{ns:List Int}{E:XK}(h:ns.length<=63) (hO:iK H) (hS:SqL K H a (ns.map V.int)):lSp K spLaw [.ref a] H (λv _=>v=.bl true) E:=by
 refine ⟨λ_=>none,[.scr ns],λt _=>t=.bl true,?_,.cons (.scr ?_) .nil,⟨ns,rfl,λ_=>rfl⟩,?_⟩
 ·intro b o e;cases e
 rotate_left
 ·intro v H' t S' _ _ r e
  subst e;cases r;rfl
 rcases hS with (e|⟨o,e⟩)|e
 ·rcases hO a with z|⟨ob,xs,z⟩
  ·rw [e] at z;cases z
  ·rw [e] at z;cases z
 ·exact .inl ⟨rfl,o,e⟩
 ·exact .inr (.inr e)
end
end My
namespace My
open PySem L2 T2
section
variable {K:W.Frag}{h:Heap}{mg:Str->Option Value}{x q:Str}{st:Stmt}{f C:Addr}
theorem ln0 {P:List Value->Prop}(h:P []) (us:List Value) (e:us.length=0):P us:=by
 rcases us with _|⟨_,_⟩<;>first|(cases e;done)|exact h
theorem ln1 {P:List Value->Prop}(h:∀ a,P [a]) (us:List Value) (e:us.length=1):P us:=by
 rcases us with _|⟨_,_|⟨_,_⟩⟩<;>first|(cases e;done)|exact h _
theorem ln2 {P:List Value->Prop}(h:∀ a b,P [a,b]) (us:List Value) (e:us.length=2):P us:=by
 rcases us with _|⟨_,_|⟨_,_|⟨_,_⟩⟩⟩<;>first|(cases e;done)|exact h _ _
theorem ln3 {P:List Value->Prop}(h:∀ a b c,P [a,b,c]) (us:List Value) (e:us.length=3):P us:=by
 rcases us with _|⟨_,_|⟨_,_|⟨_,_|⟨_,_⟩⟩⟩⟩<;>first|(cases e;done)|exact h _ _ _
theorem ln4 {P:List Value->Prop}(h:∀ a b c d,P [a,b,c,d]) (us:List Value) (e:us.length=4):P us:=by
 rcases us with _|⟨_,_|⟨_,_|⟨_,_|⟨_,_|⟨_,_⟩⟩⟩⟩⟩<;>first|(cases e;done)|exact h _ _ _ _
theorem Dn.mk (d:Dn K x st f) (X:K.In h) (G:h.Ns mainGlobals mg) (ps:List Str) (hb:∀ (kV doc pm:Value) (an:Option Addr) (cdv ct:Value) (us:List Value),us.length=ps.length->bindArgs (W.fnOf x x (bZ st) (bE st) (am st) .none kV doc pm an cdv ct) ⟨us,[]⟩=pure (ps.zip us):=by
  first|exact λ_ _ _ _ _ _=>My.ln1 λ_=>rfl|exact λ_ _ _ _ _ _=>My.ln2 λ_ _=>rfl|exact λ_ _ _ _ _ _=>My.ln3 λ_ _ _=>rfl|exact λ_ _ _ _ _ _=>My.ln4 λ_ _ _ _=>rfl|exact λ_ _ _ _ _ _=>My.ln0 rfl):∃ fd,Fun K x x st f fd/\Df K mg x f fd ps:=by
 obtain ⟨a,oc,od,kV,dc,pm,an,cd,ct,sl,l,c,k⟩:=d
 have F:=qw l c k
 exact ⟨_,F,W.mg_of X G a,k,F.binds hb⟩
theorem Mn.mk (d:Mn K C x q st f) (ps:List Str) (hb:∀ (kV doc pm:Value) (an:Option Addr) (cdv ct:Value) (us:List Value),us.length=ps.length->bindArgs (W.fnOf x q (bZ st) (bE st) (am st) .none kV doc pm an cdv ct) ⟨us,[]⟩=pure (ps.zip us):=by
  first|exact λ_ _ _ _ _ _=>My.ln1 λ_=>rfl|exact λ_ _ _ _ _ _=>My.ln2 λ_ _=>rfl|exact λ_ _ _ _ _ _=>My.ln3 λ_ _ _=>rfl|exact λ_ _ _ _ _ _=>My.ln4 λ_ _ _ _=>rfl|exact λ_ _ _ _ _ _=>My.ln0 rfl):∃ fd,FunD K x q st f fd/\Meth K C x f/\ay K fd ps []:=by
 obtain ⟨a,i,oc,od,kV,dc,pm,an,cd,ct,sl,l,c,k⟩:=d
 exact ⟨_,⟨⟨_,_,_,_,_,_,_,_,_,_,rfl,l,c⟩⟩,⟨a,i,k⟩,.all (hb _ _ _ _ _ _)⟩
theorem Md.mk {i:Int}(d:Md K C x q st i f) (ps:List Str) (hb:∀ (e:Addr) (tk:Tok) (n:Nat) (oc:Value) (od:Option Addr) (sl:Array (Option Value)) (kV doc pm:Value) (an:Option Addr) (cdv ct:Value),K.lookup e=some ⟨oc,od,.seq #[.int i tk] n,sl⟩->ay K (W.fnOf x q (bZ st) (bE st) (am st) (.ref e) kV doc pm an cdv ct) ps []/\ay K (W.fnOf x q (bZ st) (bE st) (am st) (.ref e) kV doc pm an cdv ct) ps [.int i tk]:=by
  intro _ _ _ _ _ _ _ _ _ _ _ _ e;constructor<;>intro s us X h<;>rcases us with _|⟨_,_|⟨_,_|⟨_,_|⟨_,_⟩⟩⟩⟩<;>first|(cases h;done)|exact BindsTo.of_defaults rfl (X _ _ e) rfl rfl rfl):∃ fd tk,FunD K x q st f fd/\Meth K C x f/\ay K fd ps []/\ay K fd ps [.int i tk]:=by
 obtain ⟨a,j,e,tk,n,oc',od',sl',⟨oc,od,kV,dc,pm,an,cd,ct,sl,l,c,k⟩,g⟩:=d
 obtain ⟨b1,b2⟩:=hb _ _ _ _ _ _ kV dc pm an cd ct g
 exact ⟨_,tk,⟨⟨_,_,_,_,_,_,_,_,_,_,rfl,l,c⟩⟩,⟨a,j,k⟩,b1,b2⟩
theorem hid {G:Prop}(h:∀ P:Prop,(G->P)->P):G:=h G id
theorem Cn.cl (c:Cn K x C):Cls K C:=⟨c.2.1,c.2.2.1,c.2.2.2.1,c.2.2.2.2.1⟩
theorem Cn.mk (c:Cn K x C) (m:Meth K C "__init__" f):Mk K C f:=⟨c.2.2.2.2.2.1,m.at_,m.fn,c.2.2.2.2.2.2⟩
end
set_option hygiene false in
local macro_rules|`(‹$f:ident›)=>`($f (P:=l.prog) (w:=w) (mg:=mg) (base:=base))
theorem DK {l:W.OpenLaw}{w:World}{K:W.Frag}{h:Heap}{mg:Str->Option Value}{fa:Addr}(X:K.In h) (G:h.Ns mainGlobals mg) (hfa:mg "law"=some (.ref fa)) (hF:Fx K) :
  ∃ fd:FuncData,(∀ (s:Shared) (v:Value),BindsTo s fd ⟨[v],[]⟩ [("_law_script",v)])/\∀ base:Heap,K.In base->base.Ns mainGlobals mg->FnOk l.prog w K mg base CX0 32 fa fd ["_law_script"] (lSp K spLaw):=by
 refine hid λP hP=>hF P ?_
 intro fr fao fb frn f1 f2 f3 f4 f5 fgr flg fbb ffg fnb fro fwt frw fra fwp fud ffl ffn fca fbx fta fiw fwd fnx fco fdd flo fal fts fnr flw fwi fwm fwq fwu fwz fwf fwe fwh fwo fwb fww fwT fwt2 fwc Mh Mi LO LP Ln m_wi m_wm m_wq m_wu m_wz m_wf m_we m_wh m_wo m_wb m_ww m_wT m_wt2 m_wc Kq Lp d_r d_ao d_b d_rn d_1 d_2 d_3 d_4 d_5 d_gr d_lg d_bb d_fg d_nb d_ro d_wt d_rw d_ra d_wp d_ud d_fl d_fn d_ca d_bx d_ta d_iw d_wd d_nx d_co d_dd d_lo d_al d_ts d_nr d_lw z_len MC z_all z_max z_min L8 Kr z_int z_str Nw KY Nx t_ss t_ib t_nb Ks Kt J9 Ka
 have e:=hfa.symm.trans (W.mg_of X G d_lw.1)
 cases e
 have T:Txt K mg:=⟨Ph X G z_len,Ph X G MC,Ph X G z_all,Ph X G z_max,Ph X G z_min,Ph X G L8,Ph X G Kr,Ph X G z_int,Ph X G z_str,Ph X G Nw,Ph X G KY,Ph X G Nx,t_ss,t_ib,t_nb,⟨_,W.mg_of X G Ks⟩,⟨_,W.mg_of X G Kt⟩,⟨_,W.mg_of X G J9⟩,⟨_,W.mg_of X G Ka⟩,W.mg_of X G Ln.1,Ln.cl,Kq,Lp⟩
 obtain ⟨_,Fwi,Mwi,Bwi⟩:=m_wi.mk ["self"]
 have Lx:=Ln.mk Mwi
 obtain ⟨_,Fwm,Mwm,Bwm⟩:=m_wm.mk ["self","word"]
 obtain ⟨_,Fwq,Mwq,Bwq⟩:=m_wq.mk ["self","word","count"]
 obtain ⟨_,_,Fwu,Mwu,Bwu,B0wu⟩:=m_wu.mk ["self","word","times"]
 obtain ⟨_,Fwz,Mwz,Bwz⟩:=m_wz.mk ["self","word"]
 obtain ⟨_,_,Fwf,Mwf,Bwf,B0wf⟩:=m_wf.mk ["self","times"]
 obtain ⟨_,Fwe,Mwe,Bwe⟩:=m_we.mk ["self"]
 obtain ⟨_,Fwh,Mwh,Bwh⟩:=m_wh.mk ["self","word"]
 obtain ⟨_,Fwo,Mwo,Bwo⟩:=m_wo.mk ["self","word"]
 obtain ⟨_,Fwb,Mwb,Bwb⟩:=m_wb.mk ["self","beginning"]
 obtain ⟨_,Fww,Mww,Bww⟩:=m_ww.mk ["self"]
 obtain ⟨_,FwT,MwT,BwT⟩:=m_wT.mk ["self","beginning"]
 obtain ⟨_,Fwt2,Mwt2,Bwt2⟩:=m_wt2.mk ["self","beginning","many"]
 obtain ⟨_,Fwc,Mwc,Bwc⟩:=m_wc.mk ["self","beginning","many"]
 obtain ⟨_,Fr,Dr⟩:=d_r.mk X G ["pair"]
 obtain ⟨_,Fao,Dao⟩:=d_ao.mk X G ["one","other"]
 obtain ⟨_,Fb,Db⟩:=d_b.mk X G ["rated","many"]
 obtain ⟨_,Frn,Drn⟩:=d_rn.mk X G ["rated","word"]
 obtain ⟨_,F1,D1⟩:=d_1.mk X G ["sign"]
 obtain ⟨_,F2,D2⟩:=d_2.mk X G ["text"]
 obtain ⟨_,F3,D3⟩:=d_3.mk X G ["thing"]
 obtain ⟨_,F4,D4⟩:=d_4.mk X G ["mark","era"]
 obtain ⟨_,F5,D5⟩:=d_5.mk X G ["mark","era","times"]
 obtain ⟨_,Fgr,Dgr⟩:=d_gr.mk X G ["marks","era"]
 obtain ⟨_,Flg,Dlg⟩:=d_lg.mk X G ["text","rated"]
 obtain ⟨_,Fbb,Dbb⟩:=d_bb.mk X G ["last","text","rated"]
 obtain ⟨_,Ffg,Dfg⟩:=d_fg.mk X G ["sign"]
 obtain ⟨_,Fnb,Dnb⟩:=d_nb.mk X G ["text","most_figures"]
 obtain ⟨_,Fro,Dro⟩:=d_ro.mk X G ["text"]
 obtain ⟨_,Fwt,Dwt⟩:=d_wt.mk X G ["wood"]
 obtain ⟨_,Frw,Drw⟩:=d_rw.mk X G ["texts"]
 obtain ⟨_,Fra,Dra⟩:=d_ra.mk X G ["wood","beginning","word"]
 obtain ⟨_,Fwp,Dwp⟩:=d_wp.mk X G ["word","last"]
 obtain ⟨_,Fud,Dud⟩:=d_ud.mk X G ["wood","beginning","word","many"]
 obtain ⟨_,Ffl,Dfl⟩:=d_fl.mk X G ["rated","eras"]
 obtain ⟨_,Ffn,Dfn⟩:=d_fn.mk X G ["wood","beginning","word","many"]
 obtain ⟨_,Fca,Dca⟩:=d_ca.mk X G ["_law_script","_law_k"]
 obtain ⟨_,Fbx,Dbx⟩:=d_bx.mk X G ["_law_cell"]
 obtain ⟨_,Fta,Dta⟩:=d_ta.mk X G ["_law_box_here","_law_many"]
 obtain ⟨_,Fiw,Diw⟩:=d_iw.mk X G ["_law_thing"]
 obtain ⟨_,Fwd,Dwd⟩:=d_wd.mk X G ["_law_box_here"]
 obtain ⟨_,Fnx,Dnx⟩:=d_nx.mk X G ["_law_box_here","_law_words"]
 obtain ⟨_,Fco,Dco⟩:=d_co.mk X G ["_law_box_here"]
 obtain ⟨_,Fdd,Ddd⟩:=d_dd.mk X G ["_law_box_here","_law_woods"]
 obtain ⟨_,Flo,Dlo⟩:=d_lo.mk X G ["_law_wood","_law_text","_law_many"]
 obtain ⟨_,Fal,Dal⟩:=d_al.mk X G ["_law_box_here","_law_woods"]
 obtain ⟨_,Fts,Dts⟩:=d_ts.mk X G ["_law_rows","_law_word_here","_law_text","_law_many"]
 obtain ⟨_,Fnr,Dnr⟩:=d_nr.mk X G ["_law_woods","_law_word_here","_law_text","_law_many"]
 obtain ⟨_,oc,od,kV,dc,pm,an,cd,ct,sl,le,c,k⟩:=d_lw
 have Flw:=qw le c k
 refine hP ⟨W.fnOf "law" "law" (bZ eF) (bE eF) (am eF) .none kV dc pm an cd ct,λs v=>.of_eq rfl,λbase _ _=>?_⟩
 have Gta:=‹AE› Fta
 have Gbx:=‹Dm› Fbx
 have Gca:=‹AF› Fca T
 have G1:=‹wX› F1
 have G2:=‹wY› F2 T G1 D1
 have G3:=‹wZ› F3 T G2 D2
 have G4:=‹yx› F4
 have G5:=‹AG› F5 G4 D4
 have Gwi:=‹AH› Fwi T
 have Gwm:=‹AI› Fwm T
 have Gwq:=‹Do› Fwq T G3 D3
 have Gwu:=‹Dp› Fwu T G5 D5 Gwm Mwm Bwm
 have Gwz:=‹w5› Fwz T Gwm Mwm Bwm
 have Gwf:=‹AJ› Fwf T
 have Gwb:=‹yy› Fwb T G4 D4
 have Gwh:=‹Dq› Fwh T
 have Gr:=‹AK› Fr
 have Gb:=‹AL› Fb T Gr Dr
 have Ggr:=‹yA› Fgr T G4 D4
 have GwT:=‹Ds› FwT T Ggr Dgr
 have Gww:=‹w6› Fww T Gwb Mwb Bwb
 have Gwt2:=‹AM› Fwt2 T Gwb Mwb Bwb Gb Db
 have Gwe:=‹Du› Fwe T
 have Gwd:=‹AO› Fwd T Gta Dta
 have Giw:=‹Dv› Fiw T
 have Gnx:=‹AQ› Fnx T Gta Dta Gwd Dwd Giw Diw
 have Gco:=‹yE› Fco Gta Dta
 have Gfg:=‹w9› Ffg
 have Gnb:=‹xa› Fnb T Gfg Dfg
 have Gro:=‹vM› Fro T Gnb Dnb G3 D3
 have Grw:=‹AR› Frw T Gro Dro Gwi Lx Bwi Gwq Mwq Bwq
 have Gwt:=‹xb› Fwt T Gww Mww Bww
 have Gao:=‹yH› Fao T Gr Dr
 have Glg:=‹xc› Flg T
 have Gbb:=‹sR› Fbb T Gao Dao Glg Dlg Dbb 25
 have Gwc:=‹DB› Fwc T Gwb Mwb Bwb Gwt2 Mwt2 Bwt2 Gbb Dbb
 have Gwo:=‹DC› Fwo T G4 D4 Gwm Mwm Bwm
 have Gra:=‹xh› Fra T Gwh Mwh Bwh Gwb Mwb Bwb
 have Gwp:=‹A0› Fwp T Gao Dao
 have Gud:=‹A8› Fud T Gra Dra Gb Db Gwp Dwp Gwo Mwo Bwo
 have Gfl:=‹xi› Ffl T G4 D4
 have Grn:=‹xj› Frn T Gao Dao
 have Gfn:=‹yN› Ffn T Gra Dra Grn Drn Gfl Dfl GwT MwT BwT
 have Glo:=‹Be› Flo T Gww Mww Bww Gwc Mwc Bwc
 have Gts:=‹FK› Fts T
 have Gnr:=‹FM› Fnr T Gww Mww Bww Gud Dud Gfn Dfn Gts Dts
 have Gdd:=‹FN› Fdd T Gnx Dnx Gta Dta Gco Dco Gww Mww Bww Gwq Mwq Bwq Gwu Mwu Bwu Gwz Mwz Bwz Gwf Mwf Bwf
 have Gal:=‹FP› Fal T Gta Dta Gww Mww Bww GwT MwT BwT Gwt2 Mwt2 Bwt2 Glo Dlo Gnr Dnr
 exact DJ Flw T Gbx Dbx Gca Dca Gwi Lx Bwi Gta Dta Gnx Dnx Gco Dco Gwq Mwq Bwq Gwf Mwf Bwf Gww Mww Bww Gwe Mwe Bwe Grw Drw Gwt Dwt Gdd Ddd Gal Dal
theorem GZ {l:PySem.W.OpenLaw}{q:Program}{loose:List Str}{XP:(Str->Option Value)->Heap->Prop}{YP:World->Heap->Prop}{d:DefRec}{K:Params->PySem.W.Frag}(hn:l.most=some 63) (hdf:d.params.defaults=[])
  (hY:∀ (w:World) (h:Heap),YP w h->(K w.params).In h)
  (F:∀ (w:World) (mg:Str->Option Value) (fa:Addr) (h:Heap),(K w.params).In h->h.Ns mainGlobals mg->mg d.name=some (.ref fa) ->
   ∃ fd:FuncData,(∀ (s:Shared) (u:Value),BindsTo s fd ⟨[u],[]⟩ [("_law_script",u)])/\∀ base:Heap,(K w.params).In base->base.Ns mainGlobals mg->FnOk l.prog w (K w.params) mg base CX0 32 fa fd ["_law_script"] (T2.lSp (K w.params) spLaw)) :
  PySem.W.WalkO q loose XP YP l.row.toRowW d [] (λf vs=>PySem.call f vs) :=
 L2.zv (n:=63) (k:=32) (x:="_law_script") (CX:=λ_=>CX0) (sp:=λw=>T2.lSp (K w.params) spLaw) hn (by decide) hdf ⟨rfl,by decide,by decide,rfl⟩ hY F (λ_ _ a ns hl hO hS=>xl hl hO hS) λ_ _ _ _ _ z=>z
end My
theorem PySem.Challenge.cw_aheadword_k91_whole_read_and_gone_on_holds : PySem.Challenge.rw_aheadword_k91_whole_read_and_gone_on.Holds :=
 My.headL λ_ _ _ _ d K h1 h2 hd hK hF=>My.GZ (l:=PySem.Challenge.rw_aheadword_k91_whole_read_and_gone_on) h1 h2 hK λw mg fa h KX G hmg=>My.DK KX G (by rw [hd] at hmg;exact hmg) (hF w)
end

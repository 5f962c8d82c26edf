import PyProof.Rows.All
import Wide.All
import OpenK.AllK
import Wide.FinOn
import Lean
import PyProof.EqAt
import PyProof.EqKinds
import PyProof.TupleCall
import KE.KRevIter
import KE.KUnpack
import KE.KIntText
import KE.KSortKey
import PySem.Challenge.RW_strandwright_k14_deeds_done
set_option maxHeartbeats 2000000
set_option Elab.async false
set_option linter.all false
set_option maxRecDepth 100000
set_option genSizeOfSpec false
noncomputable section
abbrev Se(α:Type _):=List α
abbrev Sf(α:Type _):=Option α
abbrev Sh:=PySem.Value
abbrev Si:=PySem.Shared
abbrev Sj(α:Type _):=Array α
abbrev Sk:=PySem.Addr
abbrev Ss:=Bool
abbrev Su:=PySem.Program
abbrev Sv:=PySem.Heap
abbrev Sx:=PySem.World
set_option hygiene false
local macro_rules|`(tactic|walk_at "0")=>`(tactic|intro Y H x y d1 d2 z Q lv b1 b2 e q)|`(tactic|walk_at "1")=>`(tactic|intro X hP hw hK hc i VU s σ H E I hf st hg)|`(tactic|walk_at "2")=>`(tactic|obtain⟨f0,f1,f2,f3,f4,f5⟩:=hf it (by simp))|`(tactic|walk_at "3")=>`(tactic|intro VU s σ H x y v u Q I rx ry h)|`(tactic|walk_at "4")=>`(tactic|dsimp (config:={ zeta:=false,zetaHave:=false }) only)|`(tactic|walk_at "5")=>`(tactic|obtain⟨c,e⟩:=aQ e)|`(tactic|walk_at "6")=>`(tactic|obtain⟨p,xs,rfl,hp,el⟩:=b1)|`(tactic|walk_at "7")=>`(tactic|intro Y H xs ds z Q lv bs e q)|`(tactic|walk_at "8")=>`(tactic|obtain⟨x,H1,I1,r1,q1⟩:=zz9)|`(tactic|walk_at "9")=>`(tactic|intro VU s σ H Q I h)|`(tactic|walk_at "a")=>`(tactic|obtain⟨u,rfl,ru⟩:=vals1 rv)|`(tactic|walk_at "b")=>`(tactic|obtain⟨t,rfl⟩:=rx)|`(tactic|walk_at "c")=>`(tactic|obtain⟨O2,x2,k2,E2,el⟩:=rvs.esc E1 e2)|`(tactic|walk_at "d")=>`(tactic|exact q v H3 O2 ((x1.trans x2).trans (VZ.ext s)) (k1.trans k2) E3 rv3<|hres.fsh.back<|x1.trans x2)|`(tactic|walk_at "e")=>`(tactic|cases (show u=Value.ref a from rx))|`(tactic|walk_at "f")=>`(tactic|intro VU s σ H x vs v us Q I rx rv h)|`(tactic|walk_at "g")=>`(tactic|rw[show its.toArray.any (Tz x)=its.any (Tz x) by simp,mU r fs])|`(tactic|walk_at "h")=>`(tactic|intro st σ H O Z R E items VX e q)|`(tactic|walk_at "i")=>`(tactic|intro st σ H O Z Dn E o e q)|`(tactic|walk_at "j")=>`(tactic|intro st σ H O Z Q E r VX h q)|`(tactic|walk_at "k")=>`(tactic|obtain⟨ω,rfl,J⟩:=L)|`(tactic|walk_at "l")=>`(tactic|refine SN e λc1 V1 e1 e=>(h st σ H O Z _ E c1 V1 e1 λH1 O1 x1 k1 E1=>?_))|`(tactic|walk_at "m")=>`(tactic|obtain⟨v,e3,rv⟩:=dw r i u e1)|`(tactic|walk_at "n")=>`(tactic|exact⟨o,e,λv z=>by rw[d]at z;cases z⟩)|`(tactic|walk_at "o")=>`(tactic|intro st σ H O Z Q E r0 VX h q)|`(tactic|walk_at "p")=>`(tactic|exact I1.fpOk (Qa _)<|I1.hok.fresh<|Qa _)|`(tactic|walk_at "q")=>`(tactic|have e:b=it:=by simpa using hb)|`(tactic|walk_at "t")=>`(tactic|obtain⟨t',rfl⟩:=ry)|`(tactic|walk_at "u")=>`(tactic|show(if k=.free then _ else _)=_)|`(tactic|walk_at "v")=>`(tactic|obtain⟨z,its,n,r,hl,e⟩:=I.lstM hH)|`(tactic|walk_at "w")=>`(tactic|obtain⟨h1,h2⟩:=qp (A:=X.A) hn f p1 p2 (b1.rh p1 I h rx) hu)|`(tactic|walk_at "x")=>`(tactic|intro st σ H O Z Q E c VX e q)|`(tactic|walk_at "y")=>`(tactic|obtain⟨p,g1,g2,g3⟩:=E.own i _ _ h2 rfl)|`(tactic|walk_at "z")=>`(tactic|rcases Qb.mp hg with hg|hg)|`(tactic|walk_at "A")=>`(tactic|obtain⟨i,y1,y2,y3⟩:=gO hg)|`(tactic|walk_at "B")=>`(tactic|have h2:(SX ss).length=(ss.flatMap (·.2)).length:=Ya _)|`(tactic|walk_at "C")=>`(tactic|obtain⟨o',e1⟩:=I.base.there b o e hx)|`(tactic|walk_at "D")=>`(tactic|obtain⟨O2,x2,k2,E2,da⟩:=rv.esc E1 e2)|`(tactic|walk_at "E")=>`(tactic|intro VU s σ H x v vl vu lo hi sl Q I rx hs pl pu h)|`(tactic|walk_at "F")=>`(tactic|exact⟨by rw[e];simp,λ_ z=>by rw[e]at z;cases z⟩)|`(tactic|walk_at "G")=>`(tactic|rcases Vc.mp hz with rfl|hz)|`(tactic|walk_at "H")=>`(tactic|intro VU s σ H D I h)|`(tactic|walk_at "I")=>`(tactic|intro value slice VU s σ H x y v u Q I rx ry h hs)|`(tactic|walk_at "J")=>`(tactic|obtain⟨v,r,rfl,da,el⟩:=el.uncons)|`(tactic|walk_at "K")=>`(tactic|intro Y H x xs d ds z Q lv b1 bs e q)|`(tactic|walk_at "L")=>`(tactic|intro VU s σ H xs us Q I r h)|`(tactic|walk_at "M")=>`(tactic|exact(el.2 i v d e3 e2).rh (p d<|Va e2) I hK rv)|`(tactic|walk_at "N")=>`(tactic|obtain⟨its,r,pl,hz⟩:=I.list hq)
set_option hygiene true
namespace PySem.W.Fast
def tw961929942238886426:=0
def tw12266312577679666100:=0
def tw7487534077814438352:=0
def tw6514345257672897124:=0
def tw14886201914753026297:=0
def tw13810927034835872400:=0
def tw2949340272267355863:=0
def tw4947486922169492511:=0
def tw12392638267711292940:=0
def tw2840455246188741344:=0
def tw13411363552992684284:=0
def tw9151055225248932673:=0
def tw14240594439217869960:=0
def tw17533105909380739533:=0
def tw1143399542707899415:=0
def tw3387609898262152330:=0
def tw17167472365259450038:=0
def tw12026288770817463418:=0
def tw8919502637841916687:=0
def tw2459923161862676667:=0
def tw2206122371022069897:=0
def tw974625759507718597:=0
def tw8755912554571457280:=0
def tw14386092624079259773:=0
def tw16757515852630798176:=0
def tw1805679938458867447:=0
def tw7916110359169345834:=0
def tw6657819296482147284:=0
def tw18147020398543437468:=0
def tw11559019320791641020:=0
def tw10377904351445205412:=0
def tw8946926441733746391:=0
def tw13507748938674733773:=0
def tw9539659773270924296:=0
def tw11802720958886248749:=0
def tw10250041188769559962:=0
def tw8638259067742391808:=0
def tw4631991466477954049:=0
def tw10282297756614247846:=0
def tw10286819418954837679:=0
def tw1166263683979094453:=0
def tw12038934653948929486:=0
def tw12208093035604925503:=0
def tw12837551761419304094:=0
def tw13001945866146691664:=0
def tw13193078225668309014:=0
def tw13345646168866476821:=0
def tw1441037556074791851:=0
def tw16319977462326714185:=0
def tw16487369314505938161:=0
def tw16556479391816132354:=0
def tw17249142027615455019:=0
def tw17860015465135168048:=0
def tw18062232147402475247:=0
def tw1829344059206934600:=0
def tw3171394654613826843:=0
def tw3683170758998264630:=0
def tw4477766693830011240:=0
def tw4963142304006055472:=0
def tw5186005969612316131:=0
def tw5202812262216133175:=0
def tw5509495311367954069:=0
def tw5859408987083106509:=0
def tw5884431891962686703:=0
def tw6797234324272547434:=0
def tw7044737608556442168:=0
def tw7117676951855840925:=0
def tw8318537960971406499:=0
def tw835920451573028457:=0
def tw9000125717540583710:=0
def tw9400655939246384568:=0
end PySem.W.Fast
abbrev Aa:=@PySem.wpAny_bind
abbrev Ab:=@PySem.W.Frag
abbrev Ac:=@PySem.Heap.get?_push_of_some
abbrev Ad:=@PySem.wpAny_pure
abbrev Ae:=@decide_eq_false
abbrev Af:=@decide_eq_true
abbrev Ag:=@if_pos
abbrev Ah:=@PySem.Heap.get?_push_size
abbrev Ai:=@PyProof.Rows.wpS_pure
abbrev Aj:=@PySem.Heap.lt_size
abbrev Ak:=@if_neg
abbrev Al:=@PyProof.Rows.wpS_bind
abbrev Am:=@PySem.PassesOwn.never
abbrev An:=@of_decide_eq_true
abbrev Ao:=@PySem.W.mg_none_of
abbrev Ap:=@PySem.wpAny_callSpecial?_slot
abbrev Aq:=@PySem.wpAny_call_entry
abbrev Ar:=@PySem.wpAny_newObj_type
abbrev As:=@PySem.wpAny_field
abbrev At:=@PySem.W.kia_one
abbrev Au:=@PySem.F.plainAttrs_list
abbrev Av:=@PyProof.Rows.wpS_mono
abbrev Aw:=@PyProof.Rows.wpS_forRange
abbrev Ax:=@PySem.wpAny_truthy_bool
abbrev Ay:=@PySem.wpAny_mono
abbrev Az:=@Ne.symm
abbrev AA:=@PySem.mem_of_lookup
abbrev AB:=@PySem.Heap.get?_update_ne
abbrev AC:=@PySem.Obj.data_mapFields
abbrev AD:=@PySem.wpAny_holding
abbrev AE:=@List.getElem?_replicate
abbrev AF:=@PySem.wpAny_rule
abbrev AG:=@List.mem_map_of_mem
abbrev AH:=@PySem.Heap.SameBut.update
abbrev AI:=@List.flatMap_singleton
abbrev AJ:=@Array.toList_range
abbrev AK:=@List.length_filter_le
abbrev AL:=@List.Perm.append_left
abbrev AM:=@List.find?_cons
abbrev AN:=@PySem.Str.length_append
abbrev AO:=@List.length_range
abbrev AQ:=@PySem.wpAny_attempt
abbrev AR:=@PySem.W.mg_of
abbrev AT:=@PyProof.Rows.slot_tuple_getitem
abbrev AU:=@Nat.add_sub_cancel'
abbrev AV:=@PySem.wpAny_seqItems
abbrev AW:=@Nat.lt_succ_self
abbrev AX:=@PySem.wpAny_typeNameOfWhole_keyiter
abbrev AY:=@List.map_id
abbrev AZ:=@PySem.wpAny_setField_rec
abbrev A6:=@Nat.lt_of_le_of_lt
abbrev A7:=@PySem.Heap.get?_update_other
abbrev A8:=@Exists.choose_spec
abbrev A9:=@PySem.wpAny_passesOwn
abbrev Ba:=@Nat.min_eq_left
abbrev Bb:=@PyProof.Rows.listUpdate_at
abbrev Bc:=@PySem.Heap.get?_update_self
abbrev Be:=@PyProof.Rows.callWith_type1
abbrev Bg:=@Int.toNat_natCast
abbrev Bh:=@PySem.wpAny_setField
abbrev Bi:=@PySem.wpAny_of_eq
abbrev Bj:=@List.perm_ext_iff_of_nodup
abbrev Bk:=@PySem.wpAny_typeOf
abbrev Bl:=@PyProof.Rows.listItems_at
abbrev Bm:=@Nat.lt_of_not_le
abbrev Bo:=@Array.toList_append
abbrev Bp:=@List.getElem?_take
abbrev Bq:=@Array.getElem?_map
abbrev Br:=@PySem.wpAny_getItem_str_slice
abbrev Bs:=@Nat.lt_succ_of_lt
abbrev Bt:=@Nat.lt_of_succ_lt
abbrev Bu:=@List.nodup_nil
abbrev Bv:=@List.getElem?_set
abbrev Bw:=@PySem.Heap.size_push
abbrev Bx:=@List.eraseIdx_eq_take_drop_succ
abbrev Bz:=@PySem.builtinLookup_eq_fast
abbrev BB:=@PySem.Obj.isFreed_of_fields
abbrev BC:=@PyProof.Rows.wpS_modify
abbrev BE:=@List.zipIdx_cons
abbrev BF:=@List.ext_getElem
abbrev BG:=@PySem.wpAny_newList
abbrev BH:=@Nat.add_assoc
abbrev BI:=@List.any_cons
abbrev BJ:=@List.mem_of_mem_drop
abbrev BK:=@Array.getElem?_range
abbrev BL:=@PyProof.Rows.get?_update_seq
abbrev BM:=@Int.emod_nonneg
abbrev BN:=@List.length_reverse
abbrev BO:=@List.filter_sublist
abbrev BP:=@PyProof.Rows.wpS_get
abbrev BQ:=@List.map_id'
abbrev BR:=@PySem.wpAny_Call_Name_kw
abbrev BS:=@PySem.Str.cps_append
abbrev BT:=@Nat.sub_add_cancel
abbrev BU:=@Nat.pos_of_ne_zero
abbrev BV:=@Nat.lt_of_le_of_ne
abbrev BW:=@List.zip_cons_cons
abbrev BX:=@List.drop_drop
abbrev BY:=@Bool.false_eq_true
abbrev BZ:=@List.getElem?_zip_eq_some
abbrev B0:=@List.getElem?_append_left
abbrev B1:=@PySem.wpAny_pyIter_list
abbrev B2:=@List.size_toArray
abbrev B3:=@List.foldl_append
abbrev B4:=@List.ext_getElem?
abbrev B5:=@PySem.F.type_list_extend
abbrev B6:=@PySem.F.slot_list_extend
abbrev B7:=@PySem.F.args_tuple_add_2
abbrev B8:=@List.getElem?_eq_getElem
abbrev B9:=@List.all_cons
abbrev Ca:=@PySem.wpAny_isInstance
abbrev Cb:=@PySem.F.entry_tuple_add
abbrev Cc:=@Nat.le_of_not_lt
abbrev Cd:=@List.getElem_map
abbrev Ce:=@List.filter_cons
abbrev Cf:=@PySem.call_meets
abbrev Cg:=@PySem.F.slot_tuple_add
abbrev Ch:=@PySem.F.plainAttrs_str
abbrev Ci:=@Nat.sub_self
abbrev Cj:=@Nat.lt_trans
abbrev Ck:=@List.getElem?_set_self
abbrev Cn:=@List.flatten_singleton
abbrev Co:=@PySem.wpAny_specialOf
abbrev Cq:=@PySem.wpAny_loadPart'
abbrev Cr:=@PySem.wpAny_execs_nil
abbrev Cs:=@PySem.typeLookup_type
abbrev Ct:=@PySem.post_val_or_str
abbrev Cu:=@List.of_mem_zip
abbrev Cw:=@List.forIn_cons
abbrev Cy:=@PySem.F.type_list_pop
abbrev Cz:=@PySem.F.slot_list_pop
abbrev CB:=@List.perm_append_comm
abbrev CC:=@List.Pairwise.sublist
abbrev CD:=@PyProof.Rows.wpS_lift
abbrev CF:=@PySem.wpAny_updateSeq_pair
abbrev CG:=@PySem.sizeLine_eq
abbrev CH:=@PyProof.Rows.seqEpoch_at
abbrev CJ:=@PySem.isSubtype_type
abbrev CK:=@Array.size_map
abbrev CL:=@LawfulBEq.eq_of_beq
abbrev CM:=@List.reverse_append
abbrev CN:=@List.filterMap_cons
abbrev CO:=@PySem.wpAny_onRaise
abbrev CP:=@List.map_drop
abbrev CQ:=@Array.map_map
abbrev CS:=@PySem.tupleKind_room_in1
abbrev CT:=@PySem.SeqAt.EqAt.str_int
abbrev CU:=@PySem.SeqAt.EqAt.int_str
abbrev CV:=@List.append_of_mem
abbrev CW:=@Int.natCast_nonneg
abbrev CY:=@Int.emod_lt_of_pos
abbrev CZ:=@PySem.wpAny_dictEntries
abbrev C0:=@PySem.codeAny_mono
abbrev C1:=@bne_self_eq_false
abbrev C2:=@PySem.Txt.slice_le
abbrev C3:=@PySem.W.kitx_list
abbrev C4:=@Option.isSome_map
abbrev C5:=@PySem.Obj.cls_mapFields
abbrev C6:=@Nat.pred_lt_of_lt
abbrev C7:=@Nat.add_comm
abbrev C8:=@List.reverse_cons
abbrev C9:=@List.map_nil
abbrev Db:=@List.mapM_toArray
abbrev Dc:=@List.getElem?_map
abbrev De:=@List.all_map
abbrev Df:=@PySem.noFill_tuple_add
abbrev Dg:=@map_eq_pure_bind
abbrev Dh:=@beq_self_eq_true
abbrev Di:=@PySem.SeqAt.in_tupleAt
abbrev Dj:=@Nat.succ_le_succ
abbrev Dk:=@Nat.not_le_of_lt
abbrev Dl:=@Nat.min_le_right
abbrev Dm:=@Nat.min_eq_right
abbrev Do:=@List.drop_length
abbrev Dq:=@PySem.Heap.size_update
abbrev Dr:=@PySem.wpAny_letGo
abbrev Ds:=@PySem.seqIndex_of
abbrev Dt:=@PySem.wpAny_dictEpoch
abbrev Du:=@List.foldl_cons
abbrev Dv:=@List.Perm.of_eq
abbrev Dw:=@PySem.wpAny_newTuple
abbrev Dx:=@PySem.typeIs_str
abbrev Dy:=@PySem.isSubtype_stop
abbrev Dz:=@PySem.SeqAt.RcNeAt.lists_lengths
abbrev DB:=@Nat.mul_le_mul
abbrev DC:=@List.take_zero
abbrev DD:=@List.mapM_cons
abbrev DE:=@List.getElem?_append_right
abbrev DF:=@PySem.Calls.Name_function_global
abbrev DG:=@List.sublist_append_right
abbrev DH:=@List.getLastD_eq_getLast?
abbrev DI:=@PySem.Calls.call_function_entry
abbrev DJ:=@List.map_take
abbrev DK:=@List.mapM_nil
abbrev DL:=@List.eq_of_mem_replicate
abbrev DM:=@Int.lt_irrefl
abbrev DN:=@PySem.F.slot_list_index
abbrev DO:=@List.mem_singleton_self
abbrev DP:=@Int.eq_ofNat_of_zero_le
abbrev DQ:=@PySem.W.cellsFrom_some
abbrev DR:=@Nat.zero_add
abbrev DS:=@Nat.le_of_eq
abbrev DT:=@List.range_succ_eq_map
abbrev DU:=@List.length_pos_of_mem
abbrev DV:=@List.drop_eq_nil_of_le
abbrev DW:=@List.any_map
abbrev DX:=@Int.zero_add
abbrev DY:=@Array.getElem?_eq_none
abbrev DZ:=@List.getElem?_toArray
abbrev D0:=@List.eq_nil_or_concat
abbrev D1:=@List.concat_eq_append
abbrev Za:=@B8
abbrev Ya:=@List.length_map
abbrev Xa:=@List.length_append
abbrev Wa:=@List.mem_singleton
abbrev Va:=@List.mem_of_getElem?
abbrev Qa:=@Nat.le_refl
abbrev Yb:=@List.getD_eq_getElem?_getD
abbrev Xb:=@Option.bind_some
abbrev Wb:=@List.mem_cons_of_mem
abbrev Vb:=@List.getElem?_eq_some_iff
abbrev Qb:=@List.mem_append
abbrev Zc:=@List.mem_cons_self
abbrev Yc:=@List.map_append
abbrev Xc:=@B2
abbrev Wc:=@List.length_cons
abbrev Vc:=@List.mem_cons
abbrev Qc:=@List.mem_map
abbrev Zd:=@Array.length_toList
abbrev Yd:=@List.append_assoc
abbrev Xd:=@Dc
abbrev Wd:=@Option.map_eq_some_iff
abbrev Vd:=@List.mem_append_right
abbrev Qd:=@Nat.lt_of_lt_of_le
abbrev Ze:=@Bool.false_ne_true
abbrev Ye:=@List.pairwise_cons
abbrev Xe:=@List.eq_nil_of_length_eq_zero
abbrev We:=@List.append_nil
abbrev Ve:=@Nat.le_trans
abbrev Qe:=@Nat.exists_eq_add_one_of_ne_zero
abbrev Zf:=@List.map_map
abbrev Yf:=@List.flatMap_cons
abbrev Xf:=@Bool.eq_iff_iff
abbrev Wf:=@BY
abbrev Vf:=@List.length_singleton
abbrev Qf:=@DE
abbrev Zg:=@List.getElem?_drop
abbrev Yg:=@List.mem_append_left
abbrev Xg:=@Array.getElem?_toList
abbrev Wg:=@List.mem_flatten
abbrev Vg:=@List.length_nil
abbrev Qg:=@List.flatMap_append
abbrev Zh:=@Nat.ne_of_lt
abbrev Yh:=@Array.perm_iff_toList_perm
abbrev Xh:=@B0
abbrev Wh:=@List.map_cons
abbrev Vh:=@Nat.zero_le
abbrev Qh:=@List.pairwise_append
abbrev Zi:=@List.length_pos_iff
abbrev Yi:=@List.flatten_append
abbrev Xi:=@List.length_drop
abbrev Wi:=@List.flatten_cons
abbrev Vi:=@Array.getElem?_eq_getElem
abbrev Qi:=@List.pairwise_iff_getElem
abbrev Zj:=@Bool.and_eq_true
abbrev Yj:=@Nat.lt_irrefl
abbrev Xj:=@List.nodup_cons
abbrev Wj:=@List.nil_append
abbrev Vj:=@List.all_eq_true
abbrev Qj:=@List.map_congr_left
abbrev Zk:=@Nat.add_le_add_left
abbrev Yk:=@List.pairwise_map
abbrev Xk:=@List.nodup_append
abbrev Vk:=@List.take_append_drop
abbrev Qk:=@List.getElem_mem
abbrev Zl:=@Array.size_range
abbrev Yl:=@Nat.ne_of_gt
abbrev Xl:=@List.take_of_length_le
abbrev Wl:=@List.mem_filter
abbrev Vl:=@List.drop_eq_getElem_cons
abbrev Ql:=@List.length_replicate
abbrev Zm:=@List.getElem?_eq_none
abbrev Ym:=@Nat.le_of_lt
abbrev Xm:=@List.length_take
abbrev Wm:=@Nat.le_add_right
abbrev Vm:=@List.perm_middle
abbrev Qm:=@List.mem_flatMap
abbrev Zn:=@List.mem_range
abbrev Yn:=@List.getElem?_of_mem
abbrev Xn:=@List.mem_iff_getElem
abbrev Wn:=@List.pairwise_singleton
namespace L2
open PySem PySem.Spec PyProof.Rows
abbrev Key:=Sum Int Str
def rV:Key->Sh->Ss|.inl k,v=>Value.isInt k v|.inr x,v=>Value.isStrOf x v
def R4(w:Sx):Key->Int|.inl k=>hashInt k|.inr x=>hashStr w x
theorem cJ:∀{k:Key}{v:Sh},rV k v=true->(∃i t,k=Sum.inl i/\v=Value.int i t)\/(∃x t,k=Sum.inr x/\v=Value.str x t)
 | .inl i,v,h=>by
  obtain⟨t,e⟩:=Value.isInt_shape (k:=i) (v:=v) h;exact .inl ⟨i,t,rfl,e⟩
 | .inr x,v,h=>by
  obtain⟨t,e⟩:=Value.isStrOf_shape (x:=x) (v:=v) h;exact .inr ⟨x,t,rfl,e⟩
def Eu(i:Int)(t:Tok):rV (.inl i) (.int i t)=true:=by simp[rV,Value.isInt]
def Ev(x:Str)(t:Tok):rV (.inr x) (.str x t)=true:=by simp[rV,Value.isStrOf]
def Nh(a b:Int):decide ((Sum.inl a:Key)=Sum.inl b)=(a == b):=by
 by_cases e:a=b
 ·subst e;simp
 ·have h:¬ (Sum.inl a:Key)=Sum.inl b:=λq=>e<|Sum.inl.inj q;rw[Ae h];exact(beq_eq_false_iff_ne.mpr e).symm
def Ni(a b:Str):decide ((Sum.inr a:Key)=Sum.inr b)=decide (a=b):=by
 by_cases e:a=b
 ·subst e;simp
 ·have h:¬ (Sum.inr a:Key)=Sum.inr b:=λq=>e<|Sum.inr.inj q;rw[Ae h,Ae e]
def Nj(a:Int)(b:Str):decide ((Sum.inl a:Key)=Sum.inr b)=false:=Ae (λq=>nomatch q)
def Nk(a:Str)(b:Int):decide ((Sum.inr a:Key)=Sum.inl b)=false:=Ae (λq=>nomatch q)
def cQ(prog:Su)(w:Sx):PySem.KeyKind prog w Key where
 is:=rV
 hash:=R4 w
 inj:=λv a b ha hb=>by
  rcases cJ ha with⟨i,t,rfl,rfl⟩|⟨x,t,rfl,rfl⟩
  ·rcases cJ hb with⟨j,u,rfl,e⟩|⟨y,u,rfl,e⟩
   ·injection e with e1 _;rw[e1]
   ·exact nomatch e
  ·rcases cJ hb with⟨j,u,rfl,e⟩|⟨y,u,rfl,e⟩
   ·exact nomatch e
   ·injection e with e1 _;rw[e1]
 byValue:=λk v h=>by
  rcases cJ h with⟨i,t,rfl,rfl⟩|⟨x,t,rfl,rfl⟩<;>rfl
 pyHash:=λhv h=>by
  rcases cJ hv with⟨i,t,rfl,rfl⟩|⟨x,t,rfl,rfl⟩
  ·exact wpAny_pyHash_int h
  ·exact wpAny_pyHash_str h
 eqBool:=λhu hv h=>by
  rcases cJ hu with⟨i,t,rfl,rfl⟩|⟨x,t,rfl,rfl⟩
  ·rcases cJ hv with⟨j,u,rfl,rfl⟩|⟨y,u,rfl,rfl⟩
   ·rw[Nh]at h;exact wpAny_eqBool_int h
   ·rw[Nj]at h;exact CU i t y u _ _ _ _ h
  ·rcases cJ hv with⟨j,u,rfl,rfl⟩|⟨y,u,rfl,rfl⟩
   ·rw[Nk]at h;exact CT x t j u _ _ _ _ h
   ·rw[Ni]at h;exact wpAny_eqBool_str h
 «strs»:=λk x t v h=>by
  rcases cJ h with⟨i,u,rfl,e⟩|⟨y,u,rfl,e⟩
  ·exact nomatch e
  ·injection e with e1 _
   subst e1;cases v<;>rfl
def vt(prog:Su)(w:Sx)(i:Int)(t:Tok):(cQ prog w).is (.inl i) (.int i t)=true:=Eu i t
def vx(prog:Su)(w:Sx)(x:Str)(t:Tok):(cQ prog w).is (.inr x) (.str x t)=true:=Ev x t
inductive V where
 | non|bl (b:Bool)|int (i:Int)|str (x:Str)|byt (b:Array UInt8)|flt (b:UInt64)|ref (a:Addr)|ty (n:String)
 deriving DecidableEq
def RelV:V->Sh->Prop|.non,u=>u=Value.none|.bl b,u=>u=Value.bool b|.int i,u=>∃t,u=Value.int i t|.str x,u=>∃t,u=Value.str x t|.byt b,u=>∃t,u=Value.bytes b t|.flt b,u=>∃t,u=Value.float b t|.ref a,u=>u=Value.ref a|.ty n,u=>u=Value.type n
abbrev V0:List V->List Value->Prop:=Paired RelV
theorem V0.length{xs:Se V}{us:Se Sh}(r:V0 xs us):xs.length=us.length:=Paired.length r
theorem V0.get:∀{xs:Se V}{us:Se Sh}{i:Nat}{x:V},V0 xs us->xs[i]?=some x->∃u,us[i]?=some u/\RelV x u
 |_,_,_,_,.nil,e=>by simp at e
 |_,_,0,_,.cons r _,e=>by simp at e;subst e;exact⟨_,rfl,r⟩
 | _,_,i+1,x,.cons _ t,e=>by
  obtain⟨u,h1,h2⟩:=V0.get (i:=i) (x:=x) t (by simpa using e)
  exact⟨u,by simpa using h1,h2⟩
theorem V0.set(r:RelV x u):∀{xs:Se V}{us:Se Sh}(i:Nat),V0 xs us->V0 (xs.set i x) (us.set i u)|_,_,_,.nil=>.nil|_,_,0,.cons _ t=>.cons r t|_,_,i+1,.cons q t=>.cons q<|V0.set r i t
theorem V0.append:∀{xs ys:Se V}{us ws:Se Sh},V0 xs us->V0 ys ws->V0 (xs++ys) (us++ws)|_,_,_,_,.nil,s=>s|_,_,_,_,.cons r t,s=>.cons r<|V0.append t s
theorem V0.take:∀{xs:Se V}{us:Se Sh}(n:Nat),V0 xs us->V0 (xs.take n) (us.take n)|_,_,0,_=>.nil|_,_,_+1,.nil=>.nil|_,_,n+1,.cons r t=>.cons r<|V0.take n t
theorem V0.drop:∀{xs:Se V}{us:Se Sh}(n:Nat),V0 xs us->V0 (xs.drop n) (us.drop n)|_,_,0,r=>r|_,_,_+1,.nil=>.nil|_,_,n+1,.cons _ t=>V0.drop n t
def WV:Sf V->Sf Sh->Prop|some v,some u=>RelV v u|none,none=>True|_,_=>False
def KV{κ:Type}:Se (κ×V)->Se (κ×Sh)->Prop:=Paired λ(p:κ×V) (q:κ×Sh)=>p.1=q.1/\RelV p.2 q.2
def kV:Key->V|.inl i=>.int i|.inr x=>.str x
inductive HO where
  | lst (xs:List V)
  | tup (xs:List V)
  | dK (VV:List (Key×V))|dT (ep:Nat×List Addr) (VV:List (List Key×V))
  | set (S:Int->Bool) (n:Nat)
  | ins (C dx:Addr) (fs:List (Str×V))
  | own (x:Addr)
  | xd (fs:List (Str×V))
  | met (f x:Addr)
  | rng (lo hi:Int)
  | frz (o:Obj) (u:HO)
  | tbl (ps:Array Value)
  | ext (φ:Heap->Prop)
abbrev Hp:=Addr->Option HO
def upd(H:Hp)(a:Sk)(o:HO):Hp:=λb=>if b=a then some o else H b
def bH:upd H a o a=some o:=by unfold upd;rw[Ag rfl]
def aV(h:b≠a):upd H a o b=H b:=by unfold upd;rw[Ak h]
def PZ{H:Hp}{a b:Sk}{o u:HO}(h:H a=some o)(h':H b=some u)(d:o≠u):a≠b:=by
 intro e;subst e;rw[h]at h';exact d<|Option.some.inj h'
def bJ{H:Hp}{a b:Sk}{o:HO}(h:H a=some o)(h':H b=none):a≠b:=by
 intro e;subst e;rw[h]at h';cases h'
section
variable (P:Su)(w:Sx)
def V3(H:Hp)(h:Sv)(a:Sk):HO->Prop
 |.lst xs=>xs.length<=sizeLine/\∃(its:Se Sh)(n:Nat),V0 xs its/\h.get? a=some { cls:=.type "list",data:=.seq its.toArray n }
 |.tup xs=>xs.length<=sizeLine/\∃its:Se Sh,V0 xs its/\IsTup h a its.toArray
 |.dK VV=>VV.length<=sizeLine/\(a == sysModules)=false/\∃vs,KV VV vs/\h.DictOf (cQ P w) a vs
 | .dT ep VV=>VV.length<=sizeLine/\(a == sysModules)=false/\∃xs:Se (Se Key×Sk×Sh),
   Paired (λ(p:Se Key×V) (q:Se Key×Sk×Sh)=>p.1=q.1/\H q.2.1=some (.tup<|p.1.map kV)/\RelV p.2 q.2.2) VV xs /\
   xs.map (·.2.1)=ep.2/\∃o es,h.get? a=some o/\o.ExactDict/\o.data=.dict es ep.1/\es.toList=xs.map (entryOfKey<|tupleKind<|cQ P w)/\(xs.map (·.1)).Nodup
 |.set S n=>h.SetOf (intKind P w) a S n
 | .ins C dx fs=>H dx=some (.own a)/\fs.length<=1000/\dx≠a/\h.get? a=some (PySem.W.instObj C dx) /\
   ∃mA,h.Ns1 dx mA/\(∀f,WV (fs.lookup f)<|mA f)/\PySem.Within mA (fs.map (·.1))
 |.own _=>∃o,h.get? a=some o
 |.xd fs=>∃mA,h.Ns1 a mA/\∀f,WV (fs.lookup f)<|mA f
 |.rng lo hi=>∃t u v,h.get? a=some { cls:=.type "range",data:=.fields #[.int lo t,.int hi u,.int 1 v] }
 |.frz o u=>h.get? a=some o/\V3 H h a u
 |.tbl ps=>h.get? a=some { cls:=.none,data:=.fields ps }
 |.met f x=>h.get? a=some (PySem.W.methodObj (.ref f)<|.ref x)
 |.ext φ=>φ h/\(∃o,h.get? a=some o)/\∀h1 h2:Sv,φ h1->(∀o,h1.get? a=some o->h2.get? a=some o)->φ h2
def HOk(H:Hp)(h:Sv):Prop:=∀a o,H a=some o->V3 P w H h a o
end
section
variable {h h':Sv}
theorem V3.lt(x:V3 P w H h a o):a<h.objs.size:=by
 cases o with
 |lst xs=>obtain⟨_,_,_,_,e⟩:=x;exact Aj e
 |tup xs=>obtain⟨_,_,_,p⟩:=x;exact p.lt
 |dK VV=>obtain⟨_,_,_,_,o,_,_,e,_⟩:=x;exact Aj e
 |dT ep VV=>obtain⟨_,_,_,_,_,o,_,e,_⟩:=x;exact Aj e
 |set S n=>obtain⟨o,_,_,_,e,_⟩:=x;exact Aj e
 |ins C dx fs=>obtain⟨_,_,_,e,_⟩:=x;exact Aj e
 |own y=>obtain⟨_,e⟩:=x;exact Aj e
 |xd fs=>obtain⟨_,⟨_,_,_,e,_⟩,_⟩:=x;exact Aj e
 |rng lo hi=>obtain⟨_,_,_,e⟩:=x;exact Aj e
 |frz ob u=>obtain⟨e,_⟩:=x;exact Aj e
 |tbl ps=>exact Aj<|show h.get? a=some _ from x
 |met f y=>exact Aj<|show h.get? a=some _ from x
 |ext φ=>obtain⟨_,⟨_,e⟩,_⟩:=x;exact Aj e
theorem Paired.mapP:∀{l₁:Se α}{l₂:Se β},Paired F l₁ l₂->(∀a b,F a b->G a b)->Paired G l₁ l₂|_,_,.nil,_=>.nil|_,_,.cons r t,f=>.cons (f _ _ r)<|Paired.mapP t f
def V3.stay(x:V3 P w H h a o)(k:∀b u,(b=a\/H b=some (.own a))->h.get? b=some u->h'.get? b=some u)
  (ho:∀b,H b=some (.own a)->H' b=some (.own a))(ht:∀b xs,H b=some (.tup xs)->H' b=some (.tup xs)):V3 P w H' h' a o:=by
 induction o with
 |lst xs=>obtain⟨z,its,n,r,e⟩:=x;exact⟨z,its,n,r,k _ _ (.inl rfl) e⟩
 |tup xs=>obtain⟨z,its,r,ob,e,c⟩:=x;exact⟨z,its,r,ob,k _ _ (.inl rfl) e,c⟩
 |dK VV=>obtain⟨z,y,vs,r,ob,es,ep,e,c⟩:=x;exact⟨z,y,vs,r,ob,es,ep,k _ _ (.inl rfl) e,c⟩
 |dT ep VV=>
  obtain⟨z,y,xs,r,ra,ob,es,e,c⟩:=x;exact⟨z,y,xs,Paired.mapP r λp q z=>⟨z.1,ht _ _ z.2.1,z.2.2⟩,ra,ob,es,k _ _ (.inl rfl) e,c⟩
 |set S n=>obtain⟨ob,es,ep,t,e,c⟩:=x;exact⟨ob,es,ep,t,k _ _ (.inl rfl) e,c⟩
 |ins C dx fs=>
  obtain⟨d,z,ne,e,mA,⟨od,es,ep,e2,c⟩,r⟩:=x;exact⟨ho _ d,z,ne,k _ _ (.inl rfl) e,mA,⟨od,es,ep,k _ _ (.inr d) e2,c⟩,r⟩
 |own y=>obtain⟨ob,e⟩:=x;exact⟨ob,k _ _ (.inl rfl) e⟩
 |xd fs=>obtain⟨mA,⟨od,es,ep,e,c⟩,r⟩:=x;exact⟨mA,⟨od,es,ep,k _ _ (.inl rfl) e,c⟩,r⟩
 |rng lo hi=>obtain⟨t,u,v,e⟩:=x;exact⟨t,u,v,k _ _ (.inl rfl) e⟩
 |frz ob u ih=>obtain⟨e,q⟩:=x;exact⟨k _ _ (.inl rfl) e,ih q⟩
 |tbl ps=>
  have e:h.get? a=some { cls:=.none,data:=.fields ps }:=x;show h'.get? a=some { cls:=.none,data:=.fields ps };exact k a _ (.inl rfl) e
 |met f y=>
  have e:h.get? a=some (PySem.W.methodObj (.ref f)<|.ref y):=x;show h'.get? a=some (PySem.W.methodObj (.ref f)<|.ref y);exact k a _ (.inl rfl) e
 |ext φ=>obtain⟨p,⟨o,e⟩,st⟩:=x;exact⟨st _ _ p λo q=>k _ _ (.inl rfl) q,⟨o,k _ _ (.inl rfl) e⟩,st⟩
theorem HOk.lt(x:HOk P w H h)(e:H a=some o):a<h.objs.size:=(x a o e).lt
theorem HOk.fresh(x:HOk P w H h)(e:h.objs.size<=a):H a=none:=by
 cases q:H a with|none=>rfl|some u=>exact absurd (Qd (x.lt q) e)<|Yj _
def HOk.kept(x:HOk P w H h)(k:∀b u,h.get? b=some u->h'.get? b=some u):HOk P w H h':=λa o e=>
 (x a o e).stay (λb u _ q=>k b u q) (λ_ q=>q) λ_ _ q=>q
def HOk.laid(x:HOk P w H h)(k:∀b u,h.get? b=some u->h'.get? b=some u)(hp:h.objs.size<=a)(new:V3 P w (upd H a o) h' a o):HOk P w (upd H a o) h':=λb u e=>by
 have hn:=x.fresh hp;by_cases hb:b=a
 ·subst hb;rw[bH]at e;cases e;exact new
 ·rw[aV hb]at e;exact(x b u e).stay (λc v _ q=>k c v q) (λc q=>by rw[aV<|bJ q hn];exact q) λc xs q=>by rw[aV<|bJ q hn];exact q
end
def Rd(H:Hp)(a:Sk)(u:HO):Prop:=H a=some u\/∃o,H a=some (.frz o u)
def Rd.ok(r:Rd H a u)(x:HOk P w H h):V3 P w H h a u:=by
 rcases r with r|⟨o,r⟩
 ·exact x a u r
 ·obtain⟨_,q⟩:=x a _ r;exact q
def UF:Sf HO->Prop|some (.lst _)=>True|some (.dK _)=>True|some (.dT _ _)=>True|some (.set _ _)=>True|some (.ins _ _ _)=>True|some (.ext _)=>True|_=>False
section
variable {h h':Sv}
def HOk.write(ok:HOk P w H h)(mu:UF (H x))(he:e=x\/H e=some (.own x))(k:∀b u,b≠e->h.get? b=some u->h'.get? b=some u)(heo:∃u,h'.get? e=some u)
  (new:V3 P w (upd H x o') h' x o'):HOk P w (upd H x o') h':=λb u q=>by
 have nown:∀c y,H c=some (.own y)->c≠x:=λc y r z=>by subst z;rw[r]at mu;exact mu
 have ntup:∀c xs,H c=some (.tup xs)->c≠x:=λc xs r z=>by subst z;rw[r]at mu;exact mu
 by_cases hb:b=x
 ·subst hb;rw[bH]at q;cases q;exact new
 ·rw[aV hb]at q;by_cases hbe:b=e
  ·have q':H b=some (.own x):=by
    rcases he with z|z
    ·exact absurd (hbe.trans z) hb
    ·rw[hbe];exact z
   rw[q]at q';cases q';obtain⟨v,hv⟩:=heo;exact⟨v,by rw[hbe];exact hv⟩
  ·refine(ok b u q).stay (λc v hc r=>k c v ?_ r) (λc r=>by rw[aV<|nown c b r];exact r) λc xs r=>by rw[aV<|ntup c xs r];exact r
   rcases hc with rfl|hc
   ·exact hbe
   ·rintro rfl;rcases he with z|z
    ·exact nown c b hc z
    ·rw[hc]at z;cases z;exact hb rfl
end
structure Un(fs ex:List Addr)(H H':Hp)(h h':Heap):Prop where
 keep:∀b o,h.get? b=some o->H b=none->b∉fs->b∉ex->h'.get? b=some o
 slot:∀b o,h.get? b=some o->H b=none->b∈fs->b∉ex->∃sl,h'.get? b=some { o with slots:=sl }
 free:∀b o,h.get? b=some o->H b=none->b∉ex->H' b=none
 there:∀b o,h.get? b=some o->b∉ex->∃o',h'.get? b=some o'
 tups:∀b xs,H b=some (.tup xs)->H' b=some (.tup xs)
 frzs:∀b o u,H b=some (.frz o u)->H' b=some (.frz o u)
 tbls:∀b ps,H b=some (.tbl ps)->∃more,H' b=some (.tbl<|ps++more)
section
variable {h h1 h2 h':Sv}
def Un.any(u:Un fs ex H H1 h h1)(q:h.get? b=some ob)(n:H b=none)(hx:b∉ex):∃sl,h1.get? b=some { ob with slots:=sl }:=by
 by_cases hb:b∈fs
 ·exact u.slot b ob q n hb hx
 ·exact⟨ob.slots,u.keep b ob q n hb hx⟩
def Un.kept(k:∀b u,h.get? b=some u->h'.get? b=some u):Un fs ex H H h h' :=
 ⟨λb ob q _ _ _=>k b ob q,λb ob q _ _ _=>⟨ob.slots,k b ob q⟩,λ_ _ _ n _=>n,λb ob q _=>⟨ob,k b ob q⟩,λ_ _ q=>q,λ_ _ _ q=>q,λ_ ps q=>⟨#[],by rw[q];simp⟩⟩
def Un.refl:Un fs ex H H h h:=Un.kept λ_ _ q=>q
def Un.laid(k:∀b u,h.get? b=some u->h'.get? b=some u)(hp:h.objs.size<=a)(hn:H a=none):Un fs ex H (upd H a o) h h' where
 keep:=λb u q _ _ _=>k b u q
 slot:=λb u q _ _ _=>⟨u.slots,k b u q⟩
 free:=λb u q n _=>by rw[aV<|Zh<|Qd (Aj q) hp];exact n
 there:=λb u q _=>⟨u,k b u q⟩
 tups:=λb xs q=>by rw[aV<|bJ q hn];exact q
 frzs:=λb u xs q=>by rw[aV<|bJ q hn];exact q
 tbls:=λb ps q=>⟨#[],by rw[aV<|bJ q hn,q];simp⟩
def Un.write(mu:UF (H x))(he:e=x\/H e=some (.own x))(k:∀b u,b≠e->h.get? b=some u->h'.get? b=some u)(heo:∃u,h'.get? e=some u):Un fs ex H (upd H x o) h h':=by
 have hx:∀b,H b=none->b≠x:=λb n z=>by subst z;rw[n]at mu;exact mu
 have hb:∀b,H b=none->b≠e:=λb n z=>by
  subst z;rcases he with r|r
  ·exact hx b n r
  ·rw[n]at r;cases r
 have hm:∀b u,H b=some u->¬ UF (some u)->b≠x:=λb u q nm z=>by subst z;rw[q]at mu;exact nm mu
 refine⟨λb u q n _ _=>k b u (hb b n) q,λb u q n _ _=>⟨u.slots,k b u (hb b n) q⟩,λb u q n _=>by rw[aV (hx b n)];exact n,λb u q _=>?_,
  λb xs q=>by rw[aV (hm b _ q λz=>z)];exact q,λb u xs q=>by rw[aV (hm b _ q λz=>z)];exact q,λb ps q=>⟨#[],by rw[aV (hm b _ q λz=>z),q];simp⟩⟩
 by_cases hbe:b=e
 ·subst hbe;exact heo
 ·exact⟨u,k b u hbe q⟩
end
def UQ(h:Sv)(H:Hp):Se Sk:=(List.range h.objs.size).filter λa=>(H a).isSome
def tH(h:Sv)(H:Hp):Sv:=PySem.W.hideAll h<|UQ h H
def Ew(h:Sv)(H:Hp):(tH h H).objs.size=h.objs.size:=PySem.W.hideAll_size _ _
def F9{h:Sv}(e:h.get? b=some o)(n:H b=none):(tH h H).get? b=some o :=
 PySem.W.hideAll_get _ e λhm=>by
  have q:(H b).isSome=true:=(Wl.mp hm).2;rw[n]at q;simp at q
theorem Kc{h:Sv}(e:(tH h H).get? b=some o):h.get? b=some o/\H b=none:=by
 have e':h.get? b=some o:=PySem.W.of_hideAll (UQ h H) e;refine⟨e',?_⟩;cases q:H b with
 |none=>rfl
 |some x=>
  have hm:b∈UQ h H:=Wl.mpr ⟨Zn.mpr<|Aj e',by simp[q]⟩
  have z:(tH h H).get? b=none:=PySem.W.hideAll_none (UQ h H) hm;rw[z]at e;cases e
structure Mod(K:Ab)(mg:Str->Option Value)(base:Heap):Prop where
 kin:K.In base
 glob:base.Ns mainGlobals mg
 blt:∃mb,base.Ns builtinsNs mb/\∀x:Str,x≠"__name__"->mb x=bootBuiltins x
 nolimit:base.NoLimit
structure Cx where
 prog:Program
 w:World
 K:Ab
 mg:Str->Option Value
 base:Heap
 A:Around
 N:List Str
 s₀:Shared
 H₀:Hp
 env:Env
 outer:List Env
 stack:List Env
 ex:List Addr
 fn:Str->Bool
 calm:Bool
 pn:List (Addr×Obj)
 xe:Value->Shared->Prop
def Tx(l:Se Env):Se Sk:=l.filterMap (·.frame)
abbrev Cx.fs(X:Cx):List Addr:=Tx X.outer
def U0(sc:Scope)(x:Str):Prop:=sc.names.lookup x=some .local\/sc.names.lookup x=some .cell\/sc.names.lookup x=some .free
def Loc(sc:Scope)(x:Str):Prop:=sc.names.lookup x=some .local\/sc.names.lookup x=some .cell
def Look(env:Env)(h:Sv)(m:Str->Sf Sh)(x:Str)(u:Sh):Prop :=
 (env.kindOf x=some .local/\m x=some u)\/((env.kindOf x=some .cell\/env.kindOf x=some .free)/\∃c,env.cells.lookup x=some c/\h.IsCell c (some u))
structure Cx.Ok(X:Cx):Prop where
 mod:Mod X.K X.mg X.base
 kind:X.env.scope.kind=.function
 glob:X.env.globals=mainGlobals
 blt:X.env.builtins=builtinsNs
 above:X.s₀.heap.objs.size<=X.env.locals
 inj:∀x y c,X.env.cells.lookup x=some c->X.env.cells.lookup y=some c->x=y
 has:∀x,(X.env.kindOf x=some .cell\/X.env.kindOf x=some .free)->∃c,X.env.cells.lookup x=some c
 cab:∀x c,X.fn x=true->X.env.cells.lookup x=some c->X.s₀.heap.objs.size<=c
 hd:X.calm=true->X.A.handled=none
 frames:X.A.frames=some X.stack
 stk:X.stack=X.outer\/(X.stack=X.env::X.outer/\X.env.frame=some X.env.locals)
 exf:∀b∈X.ex,b≠X.env.locals/\∀x c,X.env.cells.lookup x=some c->c≠b
 bs:∀b o,X.base.get? b=some o->X.s₀.heap.get? b=some o/\X.H₀ b=none
 bsz:X.base.objs.size<=X.s₀.heap.objs.size
 noex:∀b o,X.base.get? b=some o->b∉X.ex
 exfs:∀b∈X.ex,b∉X.fs
 funs:X.s₀.heap.FunFrames X.base X.outer
 frf:∀b∈X.fs,X.H₀ b=none
structure Inv(X:Cx)(VU:List (Addr×Obj))(σ:List (Option V))(H:Hp)(s:Shared):Prop where
 ok:X.Ok
 os:s.os=X.s₀.os
 bare:AllBare s.gens
 base:Un X.fs X.ex X.H₀ H X.s₀.heap s.heap
 loc:∃m,s.heap.Ns X.env.locals m/\∀(i:Nat)(x:Str)(v:V),X.N[i]?=some x->σ[i]?=some (some v)->U0 X.env.scope x->∃u,RelV v u/\Look X.env s.heap m x u
 cell:∀x c,X.env.cells.lookup x=some c->∃v,s.heap.IsCell c v
 free:H X.env.locals=none
 freeC:∀x c,X.env.cells.lookup x=some c->H c=none
 pin:∀p∈X.pn++VU,s.heap.get? p.1=some p.2/\H p.1=none/\p.1≠X.env.locals/\p.1∉X.fs/\∀v,p.2.data≠.cell v
 hok:HOk X.prog X.w H s.heap
 len:σ.length=X.N.length
section
variable {X:Cx}{σ:Se (Sf V)}{s:Si}{h':Sv}
def Cx.Ok.nofr(ok:X.Ok)(e:X.base.get? b=some o):b∉X.fs:=λhb=>by
 have:=(ok.funs.mem hb).1;rw[e]at this;cases this
theorem Inv.bs(I:Inv X VU σ H s):∀b o,X.base.get? b=some o->s.heap.get? b=some o/\H b=none:=λb o e=>
 ⟨I.base.keep b o (I.ok.bs b o e).1 (I.ok.bs b o e).2 (I.ok.nofr e)<|I.ok.noex b o e,I.base.free b o (I.ok.bs b o e).1 (I.ok.bs b o e).2<|I.ok.noex b o e⟩
def Inv.bk(I:Inv X VU σ H s):∀b o,X.base.get? b=some o->s.heap.get? b=some o:=λb o e=>(I.bs b o e).1
theorem Inv.mod(I:Inv X VU σ H s):Mod X.K X.mg X.base:=I.ok.mod
def Inv.kIn(I:Inv X VU σ H s):X.K.In s.heap:=I.ok.mod.kin.keeps I.bk
theorem Inv.lt(I:Inv X VU σ H s):X.env.locals<s.heap.objs.size:=let⟨_,hn,_⟩:=I.loc;hn.lt
def Inv.sz(I:Inv X VU σ H s):X.s₀.heap.objs.size<=s.heap.objs.size:=Ve I.ok.above<|Ym I.lt
def Inv.nofs(I:Inv X VU σ H s)(h:s.heap.objs.size<=a):a∉X.fs:=λhb=>by
 obtain⟨_,o,ho,_⟩:=I.ok.funs.mem hb;exact absurd (Qd (Aj ho)<|Ve I.sz h)<|Yj _
def Inv.cne(I:Inv X VU σ H s):∀x c,X.env.cells.lookup x=some c->c≠X.env.locals:=λx c e z=>by
 obtain⟨v,o,ho,hd⟩:=I.cell x c e;obtain⟨m,⟨o',es,ep,ho',hd',_⟩,_⟩:=I.loc;rw[z,ho']at ho;cases ho;rw[hd']at hd;cases hd
theorem Inv.funs(I:Inv X VU σ H s):s.heap.FunFrames X.base X.outer:=by
 have all:∀(l:Se Env),(∀b∈Tx l,b∈X.fs)->X.s₀.heap.FunFrames X.base l->s.heap.FunFrames X.base l:=by
  intro l;induction l with
  |nil=>intro _ _;trivial
  |cons env r ih=>
   intro hs hl;obtain⟨hk,⟨L,o,hf,hn,ho,hd⟩,hr⟩:=hl;have hL:L∈X.fs:=hs L (by unfold Tx;rw[CN,hf];exact Zc)
   obtain⟨sl,e⟩:=I.base.slot L o ho (I.ok.frf L hL) hL λz=>I.ok.exfs L z hL;exact⟨hk,⟨L,_,hf,hn,e,hd⟩,ih (λb hb=>hs b (by unfold Tx;rw[CN,hf];exact Wb _ hb)) hr⟩
 exact all X.outer (λ_ hb=>hb) I.ok.funs
theorem Inv.stack(I:Inv X VU σ H s):s.heap.FunFrames X.base X.stack:=by
 rcases I.ok.stk with e|⟨e,hf⟩
 ·rw[e];exact I.funs
 ·rw[e];obtain⟨m,hn,_⟩:=I.loc;exact .cons (by rw[I.ok.kind];decide) hf hn (Heap.get?_none_of_le<|Ve I.ok.bsz I.ok.above) I.funs
def Inv.stkSub(I:Inv X VU σ H s):∀b∈Tx X.stack,b∈X.env.locals::X.fs:=λb hb=>by
 rcases I.ok.stk with e|⟨e,hf⟩
 ·rw[e]at hb;exact Wb _ hb
 ·rw[e]at hb;unfold Tx at hb;rw[CN,hf]at hb;exact hb
def Inv.stkFree(I:Inv X VU σ H s):∀b∈Tx X.stack,H b=none:=λb hb=>by
 rcases Vc.mp (I.stkSub b hb) with e|hb
 ·rw[e];exact I.free
 ·obtain⟨_,o,ho,_⟩:=I.ok.funs.mem hb;exact I.base.free b o ho (I.ok.frf b hb) λz=>I.ok.exfs b z hb
def Inv.step{g':Sj GenState}{t':Nat}{d':Drawn}{ch:Se Sk}(I:Inv X VU σ H s)
  (hch:∀b∈ch,(b∈X.ex\/X.s₀.heap.objs.size<=b)/\b≠X.env.locals/\(∀x c,X.env.cells.lookup x=some c->c≠b)/\∀p∈X.pn++VU,p.1≠b)
  (keep:∀b o,b≠X.env.locals->b∉X.fs->b∉ch->s.heap.get? b=some o->H b=none->h'.get? b=some o)
  (slot:∀b o,b≠X.env.locals->b∈X.fs->b∉ch->s.heap.get? b=some o->H b=none->∃sl,h'.get? b=some { o with slots:=sl }) (free:∀b o,b∉ch->s.heap.get? b=some o->H b=none->H' b=none)
  (there:∀b o,b∉ch->s.heap.get? b=some o->∃o',h'.get? b=some o')
  (tups:∀b xs,H b=some (.tup xs)->H' b=some (.tup xs)) (frzs:∀b o u,H b=some (.frz o u)->H' b=some (.frz o u)) (tbls:∀b ps,H b=some (.tbl ps)->∃more,H' b=some (.tbl<|ps++more))
  (ns:∀m,s.heap.Ns X.env.locals m->h'.Ns X.env.locals m) (hok:HOk X.prog X.w H' h') (hg:AllBare g') :
  Inv X VU σ H' { s with heap:=h',gens:=g',drawn:=d',toks:=t' }:=by
 have neL:∀b o,X.s₀.heap.get? b=some o->b≠X.env.locals:=λb o e=>Zh<|Qd (Aj e) I.ok.above;have neC:∀b o,X.s₀.heap.get? b=some o->b∉X.ex->b∉ch:=λb o e hx hb=>by
  rcases(hch b hb).1 with z|z
  ·exact hx z
  ·exact absurd (Qd (Aj e) z)<|Yj _
 have cellK:∀x c,X.env.cells.lookup x=some c->∀v,s.heap.IsCell c v->h'.IsCell c v:=λx c e v ⟨o,ho,hd⟩=>by
  have nch:c∉ch:=λz=>(hch c z).2.2.1 x c e rfl;by_cases hc:c∈X.fs
  ·obtain⟨sl,q⟩:=slot c o (I.cne x c e) hc nch ho<|I.freeC x c e;exact⟨_,q,hd⟩
  ·exact⟨o,keep c o (I.cne x c e) hc nch ho<|I.freeC x c e,hd⟩
 refine⟨I.ok,I.os,hg,⟨λb o e n hb hx=>?_,λb o e n hb hx=>?_,λb o e n hx=>?_,λb o e hx=>?_,λb xs e=>tups b xs<|I.base.tups b xs e,λb o xs e=>frzs b o xs<|I.base.frzs b o xs e,λb ps e=>?_⟩,?_,λx c e=>?_,?_,λx c e=>?_,λp hp=>?_,hok,I.len⟩
 ·exact keep b o (neL b o e) hb (neC b o e hx) (I.base.keep b o e n hb hx)<|I.base.free b o e n hx
 ·obtain⟨sl,e1⟩:=I.base.slot b o e n hb hx;obtain⟨sl',e2⟩:=slot b _ (neL b o e) hb (neC b o e hx) e1<|I.base.free b o e n hx;exact⟨sl',e2⟩
 ·walk_at "C";exact free b o' (neC b o e hx) e1<|I.base.free b o e n hx
 ·walk_at "C";exact there b o' (neC b o e hx) e1
 ·obtain⟨m1,e1⟩:=I.base.tbls b ps e;obtain⟨m2,e2⟩:=tbls b _ e1;exact⟨m1++m2,by rw[e2,Array.append_assoc]⟩
 ·obtain⟨m,hn,hl⟩:=I.loc;refine⟨m,ns m hn,λi x v e1 e2 e3=>?_⟩;obtain⟨u,r,l⟩:=hl i x v e1 e2 e3;refine⟨u,r,?_⟩;rcases l with l|⟨k,c,e,z⟩
  ·exact .inl l
  ·exact .inr ⟨k,c,e,cellK x c e _ z⟩
 ·obtain⟨v,z⟩:=I.cell x c e;exact⟨v,cellK x c e v z⟩
 ·obtain⟨m,⟨o,_,_,ho,_⟩,_⟩:=I.loc;exact free _ o (λz=>(hch _ z).2.1 rfl) ho I.free
 ·obtain⟨v,o,ho,hd⟩:=I.cell x c e;exact free c o (λz=>(hch c z).2.2.1 x c e rfl) ho<|I.freeC x c e
 ·obtain⟨e,n,ne,nf,d⟩:=I.pin p hp;have nch:p.1∉ch:=λz=>(hch p.1 z).2.2.2 p hp rfl;exact⟨keep p.1 p.2 ne nf nch e n,free p.1 p.2 nch e n,ne,nf,d⟩
def Inv.un{t':Nat}(I:Inv X VU σ H s)(u:Un X.fs [] H H' s.heap h')(hok:HOk X.prog X.w H' h'):Inv X VU σ H' { s with heap:=h',toks:=t' }:=by
 obtain⟨m,⟨o,es,ep,ho,r⟩,_⟩:=id I.loc;obtain⟨sl,hL⟩:=u.any ho I.free (by simp)
 exact I.step (g':=s.gens) (d':=s.drawn) (ch:=[]) (λ_ z=>nomatch z) (λb o _ hb _ e n=>u.keep b o e n hb (by simp)) (λb o _ hb _ e n=>u.slot b o e n hb (by simp)) (λb o _ e n=>u.free b o e n (by simp)) (λb o _ e=>u.there b o e (by simp)) u.tups u.frzs u.tbls (λm' hm=>by
  obtain⟨o',es',ep',ho',r'⟩:=hm;rw[ho]at ho';cases ho'
  exact⟨_,es',ep',hL,r'⟩) hok I.bare
def Inv.call{g':Sj GenState}{t':Nat}{d':Drawn}{ch:Se Sk}(I:Inv X VU σ H s)(u:Un (Tx X.stack) ch H H' s.heap h')(hok:HOk X.prog X.w H' h')(hg:AllBare g')
  (hch:∀b∈ch,(b∈X.ex\/X.s₀.heap.objs.size<=b)/\b≠X.env.locals/\(∀x c,X.env.cells.lookup x=some c->c≠b)/\∀p∈X.pn++VU,p.1≠b) :
  Inv X VU σ H' { s with heap:=h',gens:=g',drawn:=d',toks:=t' }:=by
 obtain⟨m,⟨o,es,ep,ho,r⟩,_⟩:=id I.loc;obtain⟨sl,hL⟩:=u.any ho I.free λz=>(hch _ z).2.1 rfl
 exact I.step (ch:=ch) hch (λb o hL hb hc e n=>u.keep b o e n (λz=>(Vc.mp (I.stkSub b z)).elim hL hb) hc) (λb o _ _ hc e n=>u.any e n hc) (λb o hc e n=>u.free b o e n hc) (λb o hc e=>u.there b o e hc) u.tups u.frzs u.tbls (λm' hm=>by
  obtain⟨o',es',ep',ho',r'⟩:=hm;rw[ho]at ho';cases ho'
  exact⟨_,es',ep',hL,r'⟩) hok hg
def Inv.turned{t':Nat}{it:Sk}(I:Inv X VU σ H s)(k:∀b o,b≠it->s.heap.get? b=some o->h'.get? b=some o)(hn:H it=none)(hL:it≠X.env.locals)
  (h1:it∈X.ex\/X.s₀.heap.objs.size<=it)(h2:∀x c,X.env.cells.lookup x=some c->c≠it)(h3:∀p∈X.pn++VU,p.1≠it):Inv X VU σ H { s with heap:=h',toks:=t' }:=by
 have nit:∀b u,H b=some u->b≠it:=λb u e z=>by rw[z,hn]at e;cases e
 refine I.step (g':=s.gens) (d':=s.drawn) (ch:=[it]) (λb hb=>?_) (λb o _ _ hc e _=>k b o (λz=>hc<|by simp[z]) e) (λb o _ _ hc e _=>⟨o.slots,k b o (λz=>hc<|by simp[z]) e⟩) (λ_ _ _ _ n=>n)
  (λb o hc e=>⟨o,k b o (λz=>hc<|by simp[z]) e⟩) (λ_ _ e=>e) (λ_ _ _ e=>e) (λb ps e=>⟨#[],by rw[e];simp⟩) (λm hm=>?_) (λb u e=>?_) I.bare
 ·have e:b=it:=by simpa using hb
  subst e;exact⟨h1,hL,h2,h3⟩
 ·obtain⟨o,es,ep,ho,r⟩:=hm;exact⟨o,es,ep,k _ o (Az hL) ho,r⟩
 ·refine(I.hok b u e).stay (λc v hc q=>k c v ?_ q) (λ_ q=>q) λ_ _ q=>q;rcases hc with z|z
  ·rw[z];exact nit b u e
  ·exact nit c _ z
def Inv.tok(I:Inv X VU σ H s)(t:Nat):Inv X VU σ H { s with toks:=t }:=I.un (h':=s.heap) (t':=t) Un.refl I.hok
theorem Inv.kept{t':Nat}(I:Inv X VU σ H s)(k:∀b u,s.heap.get? b=some u->h'.get? b=some u):Inv X VU σ H { s with heap:=h',toks:=t' }:=I.un (Un.kept k)<|I.hok.kept k
theorem Inv.laid{t':Nat}(I:Inv X VU σ H s)(k:∀b u,s.heap.get? b=some u->h'.get? b=some u)(hp:s.heap.objs.size<=a)(new:V3 X.prog X.w (upd H a o) h' a o) :
  Inv X VU σ (upd H a o) { s with heap:=h',toks:=t' }:=I.un (Un.laid k hp<|I.hok.fresh hp)<|I.hok.laid k hp new
theorem Inv.write{t':Nat}(I:Inv X VU σ H s)(mu:UF (H x))(he:e=x\/H e=some (.own x))(k:∀b u,b≠e->s.heap.get? b=some u->h'.get? b=some u)(heo:∃u,h'.get? e=some u)
  (new:V3 X.prog X.w (upd H x o) h' x o):Inv X VU σ (upd H x o) { s with heap:=h',toks:=t' }:=I.un (Un.write mu he k heo)<|I.hok.write mu he k heo new
def Inv.weak{σ':Se (Sf V)}(I:Inv X VU σ H s)(hl:σ'.length=σ.length)(w:∀(i:Nat) v,σ'[i]?=some (some v)->σ[i]?=some (some v)):Inv X VU σ' H s :=
 ⟨I.ok,I.os,I.bare,I.base,let⟨m,hn,hl'⟩:=I.loc;⟨m,hn,λi x v e1 e2 e3=>hl' i x v e1 (w i v e2) e3⟩,I.cell,I.free,I.freeC,I.pin,I.hok,hl.trans I.len⟩
def Inv.pins_of(I:Inv X VU σ H s)(h:∀p∈pins',s.heap.get? p.1=some p.2/\H p.1=none/\p.1≠X.env.locals/\p.1∉X.fs/\∀v,p.2.data≠.cell v):Inv X pins' σ H s :=
 ⟨I.ok,I.os,I.bare,I.base,I.loc,I.cell,I.free,I.freeC,λp hp=>(Qb.mp hp).elim (λz=>I.pin p<|Yg _ z) (h p),I.hok,I.len⟩
def vy{N:Se Str}(hN:N.Nodup){i j:Nat}{x:Str}(a:N[i]?=some x)(b:N[j]?=some x):i=j:=by
 obtain⟨h1,e1⟩:=Vb.mp a;obtain⟨h2,e2⟩:=Vb.mp b;exact(List.getElem_inj hN).mp (e1.trans e2.symm)
def rW{M:Model}{A:Around}{E:Sh->Si->Prop}{i:Nat}{x:Str}{v:V}{u:Sh}{Q:Unit->Si->Prop}(I:Inv X VU σ H s)(hN:X.N.Nodup)(hi:X.N[i]?=some x)(hx:Loc X.env.scope x)(r:RelV v u)
  (h:∀s',Inv X VU (σ.set i<|some v) H s'->(∃a,Heap.SameBut a s.heap s'.heap/\(a=X.env.locals\/X.env.cells.lookup x=some a))->Q () s')(hf:X.fn x=true\/X.env.scope.names.lookup x=some .local:=by first|exact .inl rfl|exact .inr rfl|assumption):wpAny M A (storeName X.env x u) Q E s:=by
 obtain⟨m,hn,hl⟩:=id I.loc;have hcls:(X.env.scope.kind == .class||(X.env.scope.kind == .module&&X.env.locals != X.env.globals))=false:=by rw[I.ok.kind];rfl
 have hiσ:i<σ.length:=by rw[I.len];exact(Vb.mp hi).1
 have cne:=I.cne;have tracked:∀{a:Sk}{h':Sv},(∃o,s.heap.get? a=some o/\H a=none)->Heap.SameBut a s.heap h'->HOk X.prog X.w H h':=λ{a h'} ha hs b ob e=>by
  obtain⟨_,_,hfree⟩:=ha;refine(I.hok b ob e).stay (λc w' hc q=>(hs.2 c ?_).trans q) (λ_ q=>q) λ_ _ q=>q;rintro rfl;rcases hc with rfl|hc
  ·rw[hfree]at e;cases e
  ·rw[hfree]at hc;cases hc
 rcases hx with hk|hk
 ·refine wpAny_storeName_local hk hn (λh' hn' hs=>?_) hcls;obtain⟨oL,_,_,hoL,_⟩:=id hn;refine h _ ⟨I.ok,I.os,I.bare,⟨λb o e n hb hx=>?_,λb o e n hb hx=>?_,I.base.free,λb o e hx=>?_,I.base.tups,I.base.frzs,I.base.tbls⟩,⟨_,hn',λj y v' e1 e2 e3=>?_⟩,λy c e=>?_,I.free,I.freeC,λp hp=>?_,tracked ⟨oL,hoL,I.free⟩ hs,by simpa using I.len⟩ ⟨_,hs,.inl rfl⟩
  ·exact(hs.2 b<|Zh<|Qd (Aj e) I.ok.above).trans (I.base.keep b o e n hb hx)
  ·obtain⟨sl,e1⟩:=I.base.slot b o e n hb hx;exact⟨sl,(hs.2 b<|Zh<|Qd (Aj e) I.ok.above).trans e1⟩
  ·walk_at "C";exact⟨o',(hs.2 b<|Zh<|Qd (Aj e) I.ok.above).trans e1⟩
  ·by_cases hj:j=i
   ·subst hj;rw[hi]at e1;cases e1;rw[Ck hiσ]at e2;cases e2;exact⟨u,r,.inl ⟨hk,by simp⟩⟩
   ·rw[List.getElem?_set_ne<|Az hj]at e2;obtain⟨u',r',q⟩:=hl j y v' e1 e2 e3;refine⟨u',r',?_⟩;rcases q with⟨k,e⟩|⟨k,c,e,z⟩
    ·refine .inl ⟨k,?_⟩;have:y≠x:=λe=>hj<|vy hN e1<|e ▸ hi;simp[this,e]
    ·exact .inr ⟨k,c,e,z.sameBut hs<|cne y c e⟩
  ·obtain⟨w',z⟩:=I.cell y c e;exact⟨w',z.sameBut hs<|cne y c e⟩
  ·obtain⟨e,n,ne,nf,d⟩:=I.pin p hp;exact⟨(hs.2 p.1 ne).trans e,n,ne,nf,d⟩
 ·have hfn:X.fn x=true:=by
   rcases hf with z|z
   ·exact z
   ·rw[z]at hk;cases hk
  obtain⟨c,hc⟩:=I.ok.has x<|.inl hk;obtain⟨w',z⟩:=I.cell x c hc;refine wpAny_storeName_cell I.ok.kind hk hc z<|λh' hc' hs=>?_;obtain⟨oc,hoc,hocd⟩:=id z;refine h { s with heap:=h' } ⟨I.ok,I.os,I.bare,⟨λb o e n hb hx=>?_,λb o e n hb hx=>?_,I.base.free,λb o e hx=>?_,I.base.tups,I.base.frzs,I.base.tbls⟩,⟨m,hn.sameBut hs<|Az<|cne x c hc,λj y v' e1 e2 e3=>?_⟩,λy c' e=>?_,I.free,I.freeC,λp hp=>?_,tracked ⟨oc,hoc,I.freeC x c hc⟩ hs,by simpa using I.len⟩ ⟨c,hs,.inr hc⟩
  ·exact(hs.2 b<|Zh<|Qd (Aj e)<|I.ok.cab x c hfn hc).trans (I.base.keep b o e n hb hx)
  ·obtain⟨sl,e1⟩:=I.base.slot b o e n hb hx;exact⟨sl,(hs.2 b<|Zh<|Qd (Aj e)<|I.ok.cab x c hfn hc).trans e1⟩
  ·walk_at "C";exact⟨o',(hs.2 b<|Zh<|Qd (Aj e)<|I.ok.cab x c hfn hc).trans e1⟩
  ·by_cases hj:j=i
   ·subst hj;rw[hi]at e1;cases e1;rw[Ck hiσ]at e2;cases e2;exact⟨u,r,.inr ⟨.inl hk,c,hc,hc'⟩⟩
   ·rw[List.getElem?_set_ne<|Az hj]at e2;obtain⟨u',r',q⟩:=hl j y v' e1 e2 e3;refine⟨u',r',?_⟩;rcases q with q|⟨k,c',e,z'⟩
    ·exact .inl q
    ·refine .inr ⟨k,c',e,z'.sameBut hs ?_⟩;rintro rfl;exact hj<|vy hN e1<|I.ok.inj _ _ _ e hc ▸ hi
  ·by_cases hcc:c'=c
   ·subst hcc;exact⟨_,hc'⟩
   ·obtain⟨w2,z2⟩:=I.cell y c' e;exact⟨w2,z2.sameBut hs hcc⟩
  ·obtain⟨e,n,ne,nf,d⟩:=I.pin p hp;refine⟨(hs.2 p.1 ?_).trans e,n,ne,nf,d⟩;intro q;rw[q,hoc]at e;have q':oc=p.2:=Option.some.inj e;exact d w' (by rw[<-q'];exact hocd)
def Ga(I:Inv X VU σ H s)(hN:X.N.Nodup)(hi:X.N[i]?=some x)(hx:Loc X.env.scope x)(r:RelV v u)
  (h:∀s',Inv X VU (σ.set i<|some v) H s'->Q () s')(hf:X.fn x=true\/X.env.scope.names.lookup x=some .local:=by first|exact .inl rfl|exact .inr rfl|assumption):wpAny M A (storeName X.env x u) Q E s :=
 rW I hN hi hx r (λs' I' _=>h s' I') hf
def Inv.call'{s':Si}(I:Inv X VU σ H s)(ho:s'.os=s.os)(u:Un (Tx X.stack) ch H H' s.heap s'.heap)(hok:HOk X.prog X.w H' s'.heap)(hg:AllBare s'.gens)
  (hch:∀b∈ch,(b∈X.ex\/X.s₀.heap.objs.size<=b)/\b≠X.env.locals/\(∀x c,X.env.cells.lookup x=some c->c≠b)/\∀p∈X.pn++VU,p.1≠b):Inv X VU σ H' s':=by
 obtain⟨h',g',d',t',o'⟩:=s';have e:o'=s.os:=ho;subst e;exact I.call (g':=g') (t':=t') (d':=d') u hok hg hch
end
abbrev XK:=Value->Option Addr->Hp->Prop
abbrev St:=List<|Option V
abbrev VK:=V->Hp->Prop
abbrev TE:=St->Hp->VK->Prop
abbrev TT:=St->Hp->(Bool->Hp->Prop)->Prop
abbrev TA:=St->Hp->(List V->Hp->Prop)->Prop
structure Ends where
 nx:St->Hp->Prop
 rt:VK
 bk:St->Hp->Prop:=λ_ _=>False
 ct:St->Hp->Prop:=λ_ _=>False
abbrev TS:=Ends->St->Hp->Prop
inductive EP(X:Cx)(VU:List (Addr×Obj))(σ:St)(Q:VK)(u:Value)(s':Shared):Prop
 | mk (v:V) (H':Hp) (I:Inv X VU σ H' s') (r:RelV v u) (q:Q v H')
def TP(X:Cx)(VU:Se (Sk×Obj))(σ:St)(Q:Ss->Hp->Prop)(b:Ss)(s':Si):Prop:=∃H',Inv X VU σ H' s'/\Q b H'
inductive AP(X:Cx)(VU:List (Addr×Obj))(σ:St)(Q:List V->Hp->Prop)(us:List Value)(s':Shared):Prop
 | mk (vs:List V) (H':Hp) (I:Inv X VU σ H' s') (r:V0 vs us) (q:Q vs H')
def SP(X:Cx)(VU:Se (Sk×Obj))(D:Ends)(f:Flow)(s':Si):Prop :=
 match f with|.next=>∃σ' H',Inv X VU σ' H' s'/\D.nx σ' H'|.brk=>∃σ' H',Inv X VU σ' H' s'/\D.bk σ' H'|.cont=>∃σ' H',Inv X VU σ' H' s'/\D.ct σ' H'|.ret u=>∃v σ' H',Inv X VU σ' H' s'/\RelV v u/\D.rt v H'
def PE(X:Cx)(e:Expr)(t:TE):Prop :=
 ∀(VU:Se (Sk×Obj))(s:Si)(σ:St)(H:Hp)(Q:VK),Inv X VU σ H s->t σ H Q->wpAny (model X.prog X.w) X.A (eval e X.env) (EP X VU σ Q) X.xe s
def PT(X:Cx)(e:Expr)(t:TT):Prop :=
 ∀(VU:Se (Sk×Obj))(s:Si)(σ:St)(H:Hp)(Q:Ss->Hp->Prop),Inv X VU σ H s->t σ H Q->wpAny (model X.prog X.w) X.A (isTrue e X.env<|eval e X.env) (TP X VU σ Q) X.xe s
def PW(X:Cx)(e:Expr)(t:TT):Prop :=
 ∀(whole:Sem Sh)(VU:Se (Sk×Obj))(s:Si)(σ:St)(H:Hp)(Q:Ss->Hp->Prop),Inv X VU σ H s->t σ H Q->wpAny (model X.prog X.w) X.A (isTrue e X.env whole) (TP X VU σ Q) X.xe s
def PW.pt(h:PW X e t):PT X e t:=h _
def PA(X:Cx)(es:Se Expr)(t:TA):Prop :=
 ∀(pos:Pos)(VU:Se (Sk×Obj))(s:Si)(σ:St)(H:Hp)(Q:Se V->Hp->Prop),Inv X VU σ H s->t σ H Q->wpAny (model X.prog X.w) X.A (spliced<|backTo pos<|starEach es X.env) (AP X VU σ Q) X.xe s
def PS(X:Cx)(st:Stmt)(t:TS):Prop :=
 ∀(VU:Se (Sk×Obj))(s:Si)(σ:St)(H:Hp)(D:Ends),Inv X VU σ H s->t D σ H->wpAny (model X.prog X.w) X.A (exec st X.env) (SP X VU D) X.xe s
def W5(X:Cx)(st:Se Stmt)(t:TS):Prop :=
 ∀(VU:Se (Sk×Obj))(s:Si)(σ:St)(H:Hp)(D:Ends),Inv X VU σ H s->t D σ H->wpAny (model X.prog X.w) X.A (execs st X.env) (SP X VU D) X.xe s
def SM(h:wpAny M A t Q E s)(hQ:∀a s,Q a s->Q' a s):wpAny M A t Q' E s:=Ay h hQ λ_ _ x=>x
section
variable {X:Cx}
def xi(i:Nat):TE:=λσ H Q=>∃v,σ[i]?=some (some v)/\Q v H
def tC(v:V):TE:=λ_ H Q=>Q v H
def Nl(hN:X.N[i]?=some x)(hv:U0 X.env.scope x)(hd:(x == ("__debug__":Str))=false:=by decide)(hcd:(x == ("__classdict__":Str))=false:=by decide):PE X (.Name x pos) (xi i):=by
 walk_at "9";obtain⟨v,e,h⟩:=h;obtain⟨m,hn,hl⟩:=I.loc;obtain⟨u,r,l⟩:=hl i x v hN e hv;have fin:EP X VU σ Q u s:=⟨v,H,I,r,h⟩;rcases l with⟨hk,hm⟩|⟨hk,c,hc,hcell⟩
 ·exact wpAny_Name (wpAny_loadName_local I.ok.kind hk hn hm fin) hd
 ·rcases hk with hk|hk
  ·exact wpAny_Name (wpAny_loadName_cell I.ok.kind hk hc hcell fin) hd
  ·exact wpAny_Name (wpAny_loadName_free I.ok.kind hk hc hcell fin hcd) hd
def ai{i j pos}:PE X (.Constant (.int i) j pos) (tC<|.int i):=λ_ _ _ H _ I h=>wpAny_Constant_int ⟨.int i,H,I.tok _,⟨_,rfl⟩,h⟩
def jP{b j pos}:PE X (.Constant (.bool b) j pos) (tC<|.bl b):=λ_ _ _ H _ I h=>Constant_bool ⟨.bl b,H,I,rfl,h⟩
def lW{j pos}:PE X (.Constant .none j pos) (tC .non):=λ_ _ _ H _ I h=>Constant_none ⟨.non,H,I,rfl,h⟩
def cj{x j pos}:PE X (.Constant (.str x) j pos) (tC<|.str x):=λ_ _ _ H _ I h=>Calls.Constant_str ⟨.str x,H,I.tok _,⟨_,rfl⟩,h⟩
def Gl(X:Cx)(x:Str):Prop:=X.env.kindOf x=some .globalImplicit
def pj(I:Inv X VU σ H s)(hg:Gl X x)(hm:X.mg x=some u)(h:Q u s)
  (hd:(x == ("__debug__":Str))=false:=by decide):wpAny (model X.prog X.w) X.A (eval (.Name x pos) X.env) Q E s :=
 DF I.ok.kind hg (Calls.loadGlobal_global (by rw[I.ok.glob];exact I.mod.glob.keeps I.bk) hm h) hd
def lX(I:Inv X VU σ H s)(hg:Gl X x)(hm:X.mg x=none)(hv:bootBuiltins x=some u)(h:Q u s)
  (hn:x≠"__name__":=by decide)(hd:(x == ("__debug__":Str))=false:=by decide):wpAny (model X.prog X.w) X.A (eval (.Name x pos) X.env) Q E s:=by
 obtain⟨mb,h1,h2⟩:=I.mod.blt;exact DF I.ok.kind hg (Calls.loadGlobal_builtin (by rw[I.ok.glob];exact I.mod.glob.keeps I.bk) hm (by rw[I.ok.blt];exact h1.keeps I.bk) ((h2 x hn).trans hv) h) hd
def yx(hg:Gl X x)(hm:X.mg x=some u)(r:RelV v u)(hd:(x == ("__debug__":Str))=false:=by decide):PE X (.Name x pos) (tC v) :=
 λ_ _ _ H _ I h=>pj I hg hm ⟨v,H,I,r,h⟩ hd
def Ke(hg:Gl X x)(hm:X.mg x=none)(hv:bootBuiltins x=some u)(r:RelV v u)(hn:x≠"__name__":=by decide)(hd:(x == ("__debug__":Str))=false:=by decide):PE X (.Name x pos) (tC v) :=
 λ_ _ _ H _ I h=>lX I hg hm hv ⟨v,H,I,r,h⟩ hn hd
variable {a b:Expr}{ta tb:TE}{pos:Pos}
def tB(t:TE):TT:=λσ H Q=>t σ H λx H1=>∃c,x=.bl c/\Q c H1
def cL{e:Expr}(h:PE X e t)(he:∀whole,isTrue e X.env whole=(do let v <-whole;standAt e.pos;holding [v] (truthy v)):=by intro _;rfl):PT X e (tB t):=by
 intro VU s σ H Q I hw;refine isTrue_plain (SM (h VU s σ H _ I hw) λv s1 zz9=>?_)<|he _;walk_at "8";obtain⟨d,rfl,q⟩:=q1;cases r1;exact Ax ⟨H1,I1,q⟩
variable {tA tB':TT}{rest:Se Expr}
def P0(t u:TT):TT:=λσ H Q=>t σ H λc H1=>if c=true then u σ H1 Q else Q false H1
def Vp(t u:TT):TT:=λσ H Q=>t σ H λc H1=>if c=true then Q true H1 else u σ H1 Q
def P1(t:TT):TT:=λσ H Q=>t σ H λc H1=>Q (!c) H1
theorem tI(ha:PT X a tA):PW X (.BoolOp .And [a] pos) tA:=by
 intro wh VU s σ H Q I h;refine isTrue_and<|SM (ha VU s σ H Q I h) λc s1 e=>?_;cases c with|true=>exact isTrue_and_nil e|false=>exact e
theorem jb(ha:PT X a tA):PW X (.BoolOp .Or [a] pos) tA:=by
 intro wh VU s σ H Q I h;refine isTrue_or<|SM (ha VU s σ H Q I h) λc s1 e=>?_;cases c with|false=>exact isTrue_or_nil e|true=>exact e
theorem xj(ha:PT X a tA)(hb:PW X (.BoolOp .And (b::rest) pos) tB'):PW X (.BoolOp .And (a::b::rest) pos) (P0 tA tB'):=by
 intro wh VU s σ H Q I h;refine isTrue_and<|SM (ha VU s σ H _ I h) λc s1 zz9=>?_;obtain⟨H1,I1,q1⟩:=zz9;cases c with|true=>exact hb wh VU s1 σ H1 Q I1 q1|false=>exact⟨H1,I1,q1⟩
theorem jQ(ha:PT X a tA)(hb:PW X (.BoolOp .Or (b::rest) pos) tB'):PW X (.BoolOp .Or (a::b::rest) pos) (Vp tA tB'):=by
 intro wh VU s σ H Q I h;refine isTrue_or<|SM (ha VU s σ H _ I h) λc s1 zz9=>?_;obtain⟨H1,I1,q1⟩:=zz9;cases c with|true=>exact⟨H1,I1,q1⟩|false=>exact hb wh VU s1 σ H1 Q I1 q1
def fT(ha:PT X a tA):PT X (.UnaryOp .Not a pos) (P1 tA):=by
 walk_at "9";exact isTrue_not<|ha VU s σ H (λc H1=>Q (!c) H1) I h
def Mp(ta tb:TE):TE:=λσ H Q=>ta σ H λx H1=>∃c,x=.bl c/\if c=true then tb σ H1 Q else Q (.bl false) H1
def Mq(ta:TE):TE:=λσ H Q=>ta σ H λx H1=>∃c,x=.bl c/\Q (.bl<|!c) H1
def jc{op}(h:PE X a t):PE X (.BoolOp op [a] pos) t:=λVU s σ H Q I hw=>BoolOp_one<|h VU s σ H Q I hw
theorem iE(ha:PE X a ta)(hb:PE X (.BoolOp .And (b::rest) pos) tb):PE X (.BoolOp .And (a::b::rest) pos) (Mp ta tb):=by
 walk_at "9";refine BoolOp_and<|SM (ha VU s σ H _ I h) λv s1 zz9=>?_;walk_at "8";obtain⟨c,rfl,q1⟩:=q1;cases r1;refine Ax ?_;cases c with|true=>exact hb VU s1 σ H1 Q I1 q1|false=>exact⟨.bl false,H1,I1,rfl,q1⟩
def Nn(ha:PE X a ta):PE X (.UnaryOp .Not a pos) (Mq ta):=by
 walk_at "9";refine UnaryOp_<|SM (ha VU s σ H _ I h) λv s1 zz9=>?_;walk_at "8";obtain⟨c,rfl,q1⟩:=q1;cases r1;exact not_of<|Ax ⟨.bl<|!c,H1,I1,rfl,q1⟩
def Vq(t:TT)(ta tb:TE):TE:=λσ H Q=>t σ H λc H1=>if c=true then ta σ H1 Q else tb σ H1 Q
theorem eK(hc:PT X c tA)(ha:PE X a ta)(hb:PE X b tb):PE X (.IfExp c a b pos) (Vq tA ta tb):=by
 walk_at "9";refine wpAny_IfExp<|SM (hc VU s σ H _ I h) λd s1 zz9=>?_;obtain⟨H1,I1,q1⟩:=zz9;cases d with|true=>exact ha VU s1 σ H1 Q I1 q1|false=>exact hb VU s1 σ H1 Q I1 q1
end
def SW(K:Ab)(H:Hp)(a:Sk)(xs:Se V):Prop :=
 Rd H a (.lst xs) \/
  ∃(o:Obj)(its:Sj Sh)(n:Nat),K.lookup a=some o/\o.cls=.type "list"/\o.dict=none/\o.data=.seq its n/\its.size<=sizeLine/\V0 xs its.toList
def S8(K:Ab)(H:Hp)(a:Sk)(xs:Se V):Prop :=
 Rd H a (.tup xs) \/
  ∃(o:Obj)(its:Sj Sh)(n:Nat),K.lookup a=some o/\o.cls=.type "tuple"/\o.data=.seq its n/\its.size<=sizeLine/\V0 xs its.toList
def R5:Sh->Sf V|.none=>some .non|.bool b=>some (.bl b)|.int i _=>some (.int i)|.str x _=>some (.str x)|.bytes b _=>some (.byt b)|.float b _=>some (.flt b)|.ref a=>some (.ref a)|.type n=>some (.ty n)|_=>none
theorem RelV.abs(r:RelV x u):R5 u=some x:=by
 cases x with
 |non=>cases r;rfl
 |bl _=>cases r;rfl
 |int _=>obtain⟨t,rfl⟩:=r;rfl
 |str _=>obtain⟨t,rfl⟩:=r;rfl
 |byt _=>obtain⟨t,rfl⟩:=r;rfl
 |flt _=>obtain⟨t,rfl⟩:=r;rfl
 |ref _=>cases r;rfl
 |ty _=>cases r;rfl
theorem RelV.inj(r:RelV x u)(q:RelV y u):x=y:=Option.some.inj<|r.abs.symm.trans q.abs
theorem V0.inj:∀{xs ys:Se V}{us:Se Sh},V0 xs us->V0 ys us->xs=ys|_,_,_,.nil,.nil=>rfl|_,_,_,.cons r t,.cons r' t'=>by rw[r.inj r',V0.inj t t']
section
variable {X:Cx}{s:Si}{xs ys:Se V}
def Inv.list(I:Inv X VU σ H s)(h:SW X.K H a xs):∃its:Se Sh,V0 xs its/\PlainL s.heap a its.toArray/\xs.length<=sizeLine:=by
 rcases h with h|⟨o,its,n,hk,hc,hd,hs,hz,r⟩
 ·obtain⟨z,its,n,r,e⟩:=h.ok I.hok;exact⟨its,r,⟨_,n,e,rfl,rfl,rfl⟩,z⟩
 ·refine⟨its.toList,r,⟨o,n,I.kIn a o hk,hc,hd,by simpa using hs⟩,?_⟩
  have e:=r.length;simp only[Zd]at e;lia
def Inv.tuple(I:Inv X VU σ H s)(h:S8 X.K H a xs):∃its:Se Sh,V0 xs its/\IsTup s.heap a its.toArray/\xs.length<=sizeLine:=by
 rcases h with h|⟨o,its,n,hk,hc,hs,hz,r⟩
 ·obtain⟨z,its,r,p⟩:=h.ok I.hok;exact⟨its,r,p,z⟩
 ·refine⟨its.toList,r,⟨o,I.kIn a o hk,hc,n,by simpa using hs⟩,?_⟩
  have e:=r.length;simp only[Zd]at e;lia
def Inv.list_inj(I:Inv X VU σ H s)(h:SW X.K H a xs)(h':SW X.K H a ys):xs=ys:=by
 obtain⟨its,r,⟨o,n,e,_,_,d⟩,_⟩:=I.list h;obtain⟨its',r',⟨o',n',e',_,_,d'⟩,_⟩:=I.list h';rw[e]at e';cases e';rw[d]at d';injection d' with d1 _;have:its=its':=by simpa using congrArg Array.toList d1
 subst this;exact r.inj r'
def Inv.tuple_inj(I:Inv X VU σ H s)(h:S8 X.K H a xs)(h':S8 X.K H a ys):xs=ys:=by
 obtain⟨its,r,⟨o,e,_,n,d⟩,_⟩:=I.tuple h;obtain⟨its',r',⟨o',e',_,n',d'⟩,_⟩:=I.tuple h';rw[e]at e';cases e';rw[d]at d';injection d' with d1 _;have:its=its':=by simpa using congrArg Array.toList d1
 subst this;exact r.inj r'
end
abbrev Cx.wish(X:Cx)(E:Value->Shared->Prop):Cx:={ X with xe:=E }
abbrev Cx.nox(X:Cx):Cx:=X.wish λ_ _=>False
theorem Cx.Ok.wish{X:Cx}(ok:X.Ok)(E:Sh->Si->Prop):(X.wish E).Ok :=
 ⟨ok.mod,ok.kind,ok.glob,ok.blt,ok.above,ok.inj,ok.has,ok.cab,ok.hd,ok.frames,ok.stk,ok.exf,ok.bs,ok.bsz,ok.noex,ok.exfs,ok.funs,ok.frf⟩
def Cx.Ok.unwish{X:Cx}(ok:(X.wish E).Ok):X.Ok :=
 ⟨ok.mod,ok.kind,ok.glob,ok.blt,ok.above,ok.inj,ok.has,ok.cab,ok.hd,ok.frames,ok.stk,ok.exf,ok.bs,ok.bsz,ok.noex,ok.exfs,ok.funs,ok.frf⟩
section
variable {X:Cx}
theorem Inv.wish(I:Inv X VU σ H s)(E:Sh->Si->Prop):Inv (X.wish E) VU σ H s:=⟨I.ok.wish E,I.os,I.bare,I.base,I.loc,I.cell,I.free,I.freeC,I.pin,I.hok,I.len⟩
theorem Inv.unwish(I:Inv (X.wish E) VU σ H s):Inv X VU σ H s:=⟨I.ok.unwish,I.os,I.bare,I.base,I.loc,I.cell,I.free,I.freeC,I.pin,I.hok,I.len⟩
theorem SP.unwish(h:SP (X.wish E) VU D f s'):SP X VU D f s':=by
 cases f with
 |next=>obtain⟨σ',H',I,q⟩:=h;exact⟨σ',H',I.unwish,q⟩
 |brk=>obtain⟨σ',H',I,q⟩:=h;exact⟨σ',H',I.unwish,q⟩
 |cont=>obtain⟨σ',H',I,q⟩:=h;exact⟨σ',H',I.unwish,q⟩
 |ret u=>obtain⟨v,σ',H',I,r,q⟩:=h;exact⟨v,σ',H',I.unwish,r,q⟩
theorem W5.nox{st:Se Stmt}{t:TS}(h:W5 X.nox st t):W5 X st t:=λVU s σ H D I hw=>
 Ay (h VU s σ H D (I.wish _) hw) (λ_ _ q=>q.unwish) λ_ _ z=>False.elim z
end
section
variable {X:Cx}{st:Stmt}{rest:Se Stmt}{t u:TS}{e:Expr}{te:TE}{pos:Pos}
def Mr:TS:=λD σ H=>D.nx σ H
def P2(t u:TS):TS:=λD σ H=>t { D with nx:=u D } σ H
def bo:W5 X [] Mr:=λ_ _ σ H _ I h=>Cr ⟨σ,H,I,h⟩
theorem ah(h1:PS X st t)(h2:W5 X rest u):W5 X (st::rest) (P2 t u):=by
 walk_at "H";refine wpAny_execs_cons<|SM (h1 VU s σ H { D with nx:=u D } I h) λf s1 q=>?_;cases f with
 |next=>
  obtain⟨σ',H',I',q⟩:=q;exact h2 VU s1 σ' H' D I' q
 |ret v=>exact q
 |brk=>exact q
 |cont=>exact q
theorem ak(h1:PS X st t):W5 X [st] t:=by
 walk_at "H";refine wpAny_execs_cons<|SM (h1 VU s σ H D I h) λf s1 q=>?_;cases f with|next=>exact Cr q|ret v=>exact q|brk=>exact q|cont=>exact q
def Inv.quiet(I:Inv X VU σ H s):interactive X.env=false:=by simp[interactive,I.ok.kind]
def Ms(te:TE):TS:=λD σ H=>te σ H λ_ H1=>D.nx σ H1
def bO(he:PE X e te)(hs:swapsWith e none pos.line X.env=pure false:=by rfl):PS X (.Expr e pos) (Ms te):=by
 walk_at "H";exact wpAny_Expr_any (SM (he VU s σ H _ I h) λv s1 ⟨x,H1,I1,r1,q1⟩=>⟨σ,H1,I1,q1⟩) I.quiet hs
def P3(te:TE):TS:=λD σ H=>te σ H D.rt
def aG(he:PE X e te):PS X (.Return (some e) pos) (P3 te):=by
 walk_at "H";exact wpAny_Return_some<|SM (he VU s σ H _ I h) λv s1 ⟨x,H1,I1,r1,q1⟩=>⟨x,σ,H1,I1,r1,q1⟩
def P4(c:TT)(t u:TS):TS:=λD σ H=>c σ H λb H1=>if b=true then t D σ H1 else u D σ H1
theorem bX(hc:PT X c tc)(ha:W5 X a t)(hb:W5 X b u):PS X (.If c a b pos) (P4 tc t u):=by
 walk_at "H";refine wpAny_If<|SM (hc VU s σ H _ I h) λd s1 zz9=>?_;obtain⟨H1,I1,q1⟩:=zz9;cases d with|true=>exact ha VU s1 σ H1 D I1 q1|false=>exact hb VU s1 σ H1 D I1 q1
def Gb:TS:=λ_ _ _=>False
def Gc:PS X st Gb:=λ_ _ _ _ _ _ h=>h.elim
end
abbrev TG:=V->St->Hp->(St->Hp->Prop)->Prop
abbrev Us:=List V->St->Hp->(St->Hp->Prop)->Prop
def PG(X:Cx)(target:Expr)(t:TG):Prop :=
 ∀(VU:Se (Sk×Obj))(s:Si)(σ:St)(H:Hp)(v:V)(u:Sh)(Q:St->Hp->Prop),Inv X VU σ H s->RelV v u->t v σ H Q->
  wpAny (model X.prog X.w) X.A (assign target X.env u) (λ_ s'=>∃σ' H',Inv X VU σ' H' s'/\Q σ' H') X.xe s
def UG(X:Cx)(ts:Se Expr)(t:Us):Prop :=
 ∀(VU:Se (Sk×Obj))(s:Si)(σ:St)(H:Hp)(vs:Se V)(us:Se Sh)(Q:St->Hp->Prop),Inv X VU σ H s->V0 vs us->t vs σ H Q->
  wpAny (model X.prog X.w) X.A (assignInOrder ((assignEach ts X.env).map (·.2)) us) (λ_ s'=>∃σ' H',Inv X VU σ' H' s'/\Q σ' H') X.xe s
abbrev Kf:=V->V->V->Hp->(Hp->Prop)->Prop
def No(X:Cx)(t:Kf):Prop :=
 ∀(VU:Se (Sk×Obj))(s:Si)(σ:St)(H:Hp)(o i v:V)(ov iv u:Sh)(Q:Hp->Prop),Inv X VU σ H s->RelV o ov->RelV i iv->RelV v u->t o i v H Q->
  wpAny (model X.prog X.w) X.A (setItem ov iv u) (λ_ s'=>∃H',Inv X VU σ H' s'/\Q H') X.xe s
section
variable {X:Cx}{pos:Pos}
def p8(i:Nat):TG:=λv σ H Q=>Q (σ.set i<|some v) H
def yy(hN:X.N.Nodup)(hi:X.N[i]?=some x)(hx:Loc X.env.scope x)(hf:X.fn x=true\/X.env.scope.names.lookup x=some .local:=by first|exact .inl rfl|exact .inr rfl|assumption):PG X (.Name x pos) (p8 i):=by
 intro VU s σ H v u Q I r h;exact wpAny_assign_Name<|Ga I hN hi hx r (λs' I'=>⟨_,H,I',h⟩) hf
def P5:Us:=λvs σ H Q=>vs=[]/\Q σ H
def Mu(t:TG)(u:Us):Us:=λvs σ H Q=>∃v r,vs=v::r/\t v σ H λσ' H'=>u r σ' H' Q
def tJ:UG X [] P5:=by
 intro VU s σ H vs us Q I r h;obtain⟨e,h⟩:=h;subst e;cases r;exact assignInOrder_nil ⟨σ,H,I,h⟩
def iT(h1:PG X e t)(h2:UG X es u)
  (hs:(assignEach (e::es) X.env).map (·.2)=assign e X.env::(assignEach es X.env).map (·.2):=by rfl):UG X (e::es) (Mu t u):=by
 intro VU s σ H vs us Q I r h;obtain⟨v,vr,e1,h⟩:=h;subst e1;cases r with
 |cons r rr=>
  rw[hs];refine assignInOrder_cons<|SM (h1 VU s σ H _ _ _ I r h) λ_ s1 zz9=>?_;obtain⟨σ1,H1,I1,q1⟩:=zz9;exact h2 VU s1 σ1 H1 _ _ Q I1 rr q1
def Np(K:Ab)(n:Nat)(t:Us):TG:=λv σ H Q=>∃a xs,v=.ref a/\S8 K H a xs/\xs.length=n/\t xs σ H Q
def Nq(hc:X.calm=true)(h:UG X es t)
  (hn:(assignEach es X.env).length=n:=by rfl)(hst:(assignEach es X.env).findIdx? (·.1)=none:=by rfl):PG X (.Tuple es k pos) (Np X.K n t):=by
 intro VU s σ H v u Q I r hw;obtain⟨a,xs,e1,hq,hl,hw⟩:=hw;subst e1;cases r;obtain⟨its,rv,ht,hz⟩:=I.tuple hq;refine assign_Tuple_tuple (I.ok.hd hc) ht (by simp[hn,<-hl,rv.length]) hst λh' hx=>?_
 have I1:Inv X VU σ H { s with heap:=h' }:=I.kept (t':=s.toks) λb o e=>hx b o (Zh<|Aj e) e;exact h VU _ σ H xs _ Q I1 (by simpa using rv) hw
def P6(to ti:TE)(t:Kf):TG:=λv σ H Q=>to σ H λo H1=>ti σ H1 λi H2=>t o i v H2 λH3=>Q σ H3
def gC(ho:PE X o to)(hi:PE X i ti)(hs:No X t)
  (ha:∀v,assign (.Subscript o i pos) X.env v=(do
   let ov <-holding [v] (eval o X.env)
   let iv <-holding [v,ov] (eval i X.env)
   standAt pos
   holding [v,ov,iv] (setItem ov iv v)
   release [v,ov,iv] []):=by intro _;rfl):PG X (.Subscript o i pos) (P6 to ti t):=by
 intro VU s σ H v u Q I r h;rw[ha];refine Aa<|AD<|SM (ho VU s σ H _ I h) λov s1 zz9=>?_;walk_at "8";refine Aa<|AD<|SM (hi VU s1 σ H1 _ I1 q1) λiv s2 zz9=>?_;obtain⟨y,H2,I2,r2,q2⟩:=zz9;refine Aa<|wpAny_standAt<|Aa<|AD<|SM (hs VU s2 σ H2 x y v ov iv u _ I2 r1 r2 r q2) λ_ s3 zz9=>?_;obtain⟨H3,I3,q3⟩:=zz9;exact wpAny_release ⟨σ,H3,I3,q3⟩
def Ex(te:TE)(g:TG):TS:=λD σ H=>te σ H λx H1=>g x σ H1 D.nx
def fU(he:PE X e te)(hg:PG X tg g)(hs:swapsWithSole [tg] e pos.line X.env=pure false:=by rfl)(hw:swappedStores [tg] e X.env=pure none:=by rfl)
  (h1:(assignEach [tg] X.env).map (·.2)=[assign tg X.env]:=by rfl):PS X (.Assign [tg] e pos) (Ex te g):=by
 walk_at "H";refine wpAny_Assign_stores (SM (he VU s σ H _ I h) λv s1 zz9=>?_) hs hw;walk_at "8";rw[h1];exact SM (hg VU s1 σ H1 x v _ I1 r1 q1) λ_ s2 q=>q
end
section
variable {X:Cx}
def Ge(c:TT)(tb:TS):TS:=λD σ H=>∃W:Nat->St->Hp->Prop,(∃m,W m σ H)/\∀m σ H,W m σ H->
 c σ H λb H1=>if b=true then ∃N:St->Hp->Prop,(∀σ' H',N σ' H'->∃m',m'<m/\W m' σ' H')/\tb { D with nx:=N,ct:=N,bk:=D.nx } σ H1 else D.nx σ H1
theorem mP(hp:PassesOwn (model X.prog X.w) X.A X.env X.xe)(hc:PT X c tc)(hb:W5 X body tb):PS X (.While c body [] pos) (Ge tc tb):=by
 walk_at "H";obtain⟨W,⟨m0,w0⟩,turn⟩:=h;refine wpAny_While<|codeAny_whileLoop (λn s'=>∃σ' H',Inv X VU σ' H' s'/\W n σ' H') ?_ m0 ⟨σ,H,I,w0⟩;rintro n s1 ⟨σ1,H1,I1,w1⟩;refine A9 hp<|SM (hc VU s1 σ1 H1 _ I1<|turn n σ1 H1 w1) λb s2 zz9=>?_;obtain⟨H2,I2,q2⟩:=zz9;cases b with
 |true=>
  obtain⟨N,hN,q2⟩:=q2;rw[Ag rfl];refine A9 hp<|SM (hb VU s2 σ1 H2 _ I2 q2) λf s3 q3=>?_;cases f with
  |next=>
   obtain⟨σ3,H3,I3,n3⟩:=q3;obtain⟨m',hm,w3⟩:=hN σ3 H3 n3;exact⟨m',hm,σ3,H3,I3,w3⟩
  |cont=>
   obtain⟨σ3,H3,I3,n3⟩:=q3;obtain⟨m',hm,w3⟩:=hN σ3 H3 n3;exact⟨m',hm,σ3,H3,I3,w3⟩
  |brk=>exact q3
  |ret v=>exact q3
 |false=>
  rw[Ak Ze];exact Cr ⟨σ1,H2,I2,q2⟩
end
structure It where
 go:Nat->Hp->Prop
 yld:Nat->Hp->V->Hp->Prop
 stop:Nat->Hp->Prop
def jR(X:Cx)(VU:Se (Sk×Obj))(H:Hp)(b:Sk):Prop :=
 H b=none/\b≠X.env.locals/\b∉X.fs/\(b∈X.ex\/X.s₀.heap.objs.size<=b)/\(∀x c,X.env.cells.lookup x=some c->c≠b)/\∀p∈X.pn++VU,p.1≠b
def Inv.fpOk{s:Si}(I:Inv X VU σ H s)(hb:s.heap.objs.size<=b)(hn:H' b=none):jR X VU H' b:=by
 refine⟨hn,Yl<|Qd I.lt hb,I.nofs hb,.inr<|Ve I.sz hb,λx c e z=>?_,λp hp z=>?_⟩
 ·obtain⟨v,q⟩:=I.cell x c e;exact absurd (Qd q.lt (by rw[z];exact hb))<|Yj _
 ·exact absurd (Qd (Aj (I.pin p hp).1) (by rw[z];exact hb))<|Yj _
structure Turn(P:Program)(w:World)(K:Ab)(tg:Expr)(J:It)(fp:List Addr)(it:Addr)(tn:Nat->Heap->Prop):Prop where
 mem:it∈fp
 obj:∀i h,tn i h->∀b∈fp,∃o,h.get? b=some o/\∀v,o.data≠.cell v
 keep:∀i h h',tn i h->(∀b∈fp,∀o,h.get? b=some o->h'.get? b=some o)->tn i h'
 item:∀(X:Cx),X.prog=P->X.w=w->X.K=K->X.calm=true->∀(i:Nat)(VU:List (Addr×Obj))(s:Shared)(σ:St)(H:Hp)(E:Value->Shared->Prop),Inv X VU σ H s->(∀b∈fp,jR X VU H b)->tn i s.heap->J.go i H->
  wpAny (model P w) X.A (pyNext (.ref it)) (λr s1=>∃u,r=some u /\
   wpAny (model P w) X.A (letOwnedTupleGo tg (.ref it) u) (λ_ s2=>∃x H',Inv X VU σ H' s2/\RelV x u/\J.yld i H x H'/\tn (i+1) s2.heap/\∀b∈fp,H' b=none) E s1) E s
 done:∀(X:Cx),X.prog=P->X.w=w->X.K=K->X.calm=true->∀(i:Nat)(VU:List (Addr×Obj))(s:Shared)(σ:St)(H:Hp)(E:Value->Shared->Prop),Inv X VU σ H s->(∀b∈fp,jR X VU H b)->tn i s.heap->J.stop i H->
  wpAny (model P w) X.A (pyNext<|.ref it) (λr s1=>r=none/\Inv X VU σ H s1) E s
 self:∀(A:Around)(i:Nat)(s:Shared)(Q:Value->Shared->Prop)(E:Value->Shared->Prop),tn i s.heap->Q (.ref it) s->wpAny (model P w) A (pyIter<|.ref it) Q E s
abbrev TI:=St->Hp->(It->Hp->Prop)->Prop
inductive Yx(X:Cx)(VU:List (Addr×Obj))(σ:St)(tg:Expr)(R:It->Hp->Prop)(itv:Value)(s2:Shared):Prop
 | mk (it:Addr) (fp:List Addr) (tn:Nat->Heap->Prop) (J:It) (H':Hp) (e:itv=.ref it) (I:Inv X VU σ H' s2) (T:Turn X.prog X.w X.K tg J fp it tn) (t0:tn 0 s2.heap) (fo:∀b∈fp,jR X VU H' b) (r:R J H')
def PI(X:Cx)(tg iter:Expr)(wi:TI):Prop :=
 ∀(VU:Se (Sk×Obj))(s:Si)(σ:St)(H:Hp)(R:It->Hp->Prop),Inv X VU σ H s->wi σ H R->
  wpAny (model X.prog X.w) X.A (eval iter X.env) (λv s1=>wpAny (model X.prog X.w) X.A (pyIter v) (Yx X VU σ tg R) X.xe s1) X.xe s
def rX{s : Si}{o : Obj}(ho : s.heap.get? it = some o)(hc : o.cls = .type n)(hd : o.data = .fields vs)
    (hn : ["enumerate", "zip", "dict_itemiterator", "dict_reverseitemiterator", "odict_iterator", "itertools.zip_longest", "itertools.pairwise"].contains n = false)(hQ : Q () s) : wpAny M A (letOwnedTupleGo tg (.ref it) u) Q E s := by
  unfold letOwnedTupleGo;cases tg <;> first
    | exact Ad hQ
    | (cases u <;> first
        | exact Ad hQ
        | (refine Aa (wpAny_load ho ?_)
           rw [hc, hd];show wpAny M A (if (["enumerate", "zip", "dict_itemiterator", "dict_reverseitemiterator", "odict_iterator", "itertools.zip_longest", "itertools.pairwise"].contains n && vs[0]? == some (rawInt _)) = true then _ else _) Q E s;rw [Ak (by intro h; rw [hn, Bool.false_and] at h; cases h)]
           exact Ad hQ))
def Vr(K:Ab)(a:Sk):It :=
 ⟨λi H=>∃xs x,SW K H a xs/\xs[i]?=some x,λi H x H'=>H'=H/\∀xs,SW K H a xs->xs[i]?=some x,λi H=>∃xs,SW K H a xs/\xs.length<=i⟩
def Vs(K:Ab)(a:Sk):It :=
 ⟨λi H=>∃xs x,S8 K H a xs/\xs[i]?=some x,λi H x H'=>H'=H/\∀xs,S8 K H a xs->xs[i]?=some x,λi H=>∃xs,S8 K H a xs/\xs.length<=i⟩
def UR(lo:Int)(n:Nat):It:=⟨λi _=>i<n,λi H x H'=>H'=H/\x=.int (lo+i),λi _=>n<=i⟩
def Ey{P:Su}{w:Sx}{K:Ab}{tg:Expr}(a it:Sk):Turn P w K tg (Vr K a) [it] it (λi h=>h.IsListIter it a i) where
 mem:=by simp
 obj:=λi h st b hb=>by
  walk_at "q"
  subst e;obtain⟨o,e,c,d⟩:=st;walk_at "n"
 keep:=λi h h' st k=>st.at λo e=>k it (by simp) o e
 item:=by
  walk_at "1";subst hP hw hK;obtain⟨xs,x,hq,hx⟩:=hg;obtain⟨its,rv,p,hz⟩:=I.list hq;obtain⟨u,hu,ru⟩:=rv.get hx;walk_at "2"
  refine wpAny_pyNext_list_item st p.isList (x:=u) (by simpa using hu) λh' VX sb=>?_
  have I1:Inv X VU σ H { s with heap:=h' }:=I.turned (t':=s.toks) (λb o hb e=>(sb.2 b hb).trans e) f0 f1 f3 f4 f5;obtain⟨o,e,c,d⟩:=id VX;exact⟨u,rfl,rX (s:={ s with heap:=h' }) e c d (by decide) ⟨x,H,I1,ru,⟨rfl,λys hy=>by rw[I.list_inj hy hq];exact hx⟩,VX,λb hb=>(hf b hb).1⟩⟩
 done:=by
  walk_at "1";subst hP hw hK;obtain⟨xs,hq,hx⟩:=hg;obtain⟨its,rv,p,hz⟩:=I.list hq;walk_at "2"
  have hl:=rv.length;exact wpAny_pyNext_list_end (I.ok.hd hc) st p.isList (by simp;lia) λh' eb=>⟨rfl,I.turned (t':=s.toks) (λb o hb e=>eb b o hb e) f0 f1 f3 f4 f5⟩
 self:=λ_ _ _ _ _ st h=>wpAny_pyIter_listiter st h
def xk{P:Su}{w:Sx}{K:Ab}{tg:Expr}(a it:Sk):Turn P w K tg (Vs K a) [it] it (λi h=>h.IsTupleIter it a i) where
 mem:=by simp
 obj:=λi h st b hb=>by
  walk_at "q"
  subst e;obtain⟨o,e,c,d⟩:=st;walk_at "n"
 keep:=λi h h' st k=>st.at λo e=>k it (by simp) o e
 item:=by
  walk_at "1";subst hP hw hK;obtain⟨xs,x,hq,hx⟩:=hg;obtain⟨its,rv,p,hz⟩:=I.tuple hq;obtain⟨u,hu,ru⟩:=rv.get hx;walk_at "2"
  refine wpAny_pyNext_tuple_item st (show s.heap.IsTuple a its.toArray from p) (x:=u) (by simpa using hu) λh' VX sb=>?_
  have I1:Inv X VU σ H { s with heap:=h' }:=I.turned (t':=s.toks) (λb o hb e=>(sb.2 b hb).trans e) f0 f1 f3 f4 f5;obtain⟨o,e,c,d⟩:=id VX;exact⟨u,rfl,rX (s:={ s with heap:=h' }) e c d (by decide) ⟨x,H,I1,ru,⟨rfl,λys hy=>by rw[I.tuple_inj hy hq];exact hx⟩,VX,λb hb=>(hf b hb).1⟩⟩
 done:=by
  walk_at "1";subst hP hw hK;obtain⟨xs,hq,hx⟩:=hg;obtain⟨its,rv,p,hz⟩:=I.tuple hq;walk_at "2"
  have hl:=rv.length;exact wpAny_pyNext_tuple_end (I.ok.hd hc) st (show s.heap.IsTuple a its.toArray from p) (by simp;lia) λh' eb=>⟨rfl,I.turned (t':=s.toks) (λb o hb e=>eb b o hb e) f0 f1 f3 f4 f5⟩
 self:=λ_ _ _ _ _ st h=>wpAny_pyIter_tupleiter st h
def xn{P:Su}{w:Sx}{K:Ab}{tg:Expr}(it:Sk)(lo:Int)(n:Nat):Turn P w K tg (UR lo n) [it] it (λi h=>IsRangeIter h it (lo+(i:Nat)*1) ((n:Int)-(i:Nat)) 1) where
 mem:=by simp
 obj:=λi h st b hb=>by
  walk_at "q"
  subst e
  exact⟨_,st,λv z=>by
   have z':Data.fields _=Data.cell v:=z
   cases z'⟩
 keep:=λi h h' st k=>k it (by simp) _ st
 item:=by
  walk_at "1";subst hP hw hK;walk_at "2"
  refine(Walks.range (prog:=X.prog) (w:=X.w) (I.ok.hd hc) it lo 1 n).item i s _ _ hg st λv h' tk hv VX kk=>?_;obtain⟨t,rfl⟩:=hv;have I1:Inv X VU σ H { s with heap:=h',toks:=tk }:=I.turned (λb o hb e=>kk b o (by simpa using hb) e) f0 f1 f3 f4 f5
  refine⟨_,rfl,rX (s:={ s with heap:=h',toks:=tk }) (n:="range_iterator") VX rfl rfl (by decide) ⟨.int<|lo+i,H,I1,⟨t,?_⟩,⟨rfl,rfl⟩,VX,λb hb=>(hf b hb).1⟩⟩
  rw[Int.mul_one]
 done:=by
  walk_at "1";subst hP hw hK;walk_at "2"
  exact wpAny_pyNext_range_end (I.ok.hd hc) st (by have:n<=i:=hg;lia) λh' eb=>⟨rfl,I.turned (t':=s.toks) (λb o hb e=>eb b o hb e) f0 f1 f3 f4 f5⟩
 self:=λ_ _ _ _ _ st h=>wpAny_pyIter_rangeiter st h
section
variable {X:Cx}
def yz(K:Ab)(tl:TE):TI:=λσ H R=>tl σ H λx H1=>∃a,x=.ref a/\(∃xs,SW K H1 a xs)/\R (Vr K a) H1
def Nr(K:Ab)(tl:TE):TI:=λσ H R=>tl σ H λx H1=>∃a,x=.ref a/\(∃xs,S8 K H1 a xs)/\R (Vs K a) H1
def Kg{l:Expr}{tl:TE}(hl:PE X l tl):PI X tg l (yz X.K tl):=by
 intro VU s σ H R I h;refine SM (hl VU s σ H _ I h) λv s1 zz9=>?_;walk_at "8";obtain⟨a,e,⟨xs,hq⟩,q⟩:=q1;subst e;cases r1;obtain⟨its,rv,p,hz⟩:=I1.list hq;refine B1 p.isList<|⟨s1.heap.objs.size,[s1.heap.objs.size],_,_,H1,rfl,I1.kept (t':=s1.toks) λb o e=>Ac _ e,Ey a _,⟨_,Ah _ rfl,rfl,rfl⟩,λb hb=>?_,q⟩;have e:b=s1.heap.objs.size:=by simpa using hb
 subst e;walk_at "p"
def Nt{l:Expr}{tl:TE}(hl:PE X l tl):PI X tg l (Nr X.K tl):=by
 intro VU s σ H R I h;refine SM (hl VU s σ H _ I h) λv s1 zz9=>?_;walk_at "8";obtain⟨a,e,⟨xs,hq⟩,q⟩:=q1;subst e;cases r1;obtain⟨its,rv,p,hz⟩:=I1.tuple hq;refine wpAny_pyIter_tuple (show s1.heap.IsTuple a its.toArray from p)<|⟨s1.heap.objs.size,[s1.heap.objs.size],_,_,H1,rfl,I1.kept (t':=s1.toks) λb o e=>Ac _ e,xk a _,⟨_,Ah _ rfl,rfl,rfl⟩,λb hb=>?_,q⟩;have e:b=s1.heap.objs.size:=by simpa using hb
 subst e;walk_at "p"
def Gf{s:Si}{R:It->Hp->Prop}{E:Sh->Si->Prop}{lo hi:Int}{t u v:Tok}{tk:Nat}(I:Inv X VU σ H s)(h1:-(2 ^ 62)<=lo)(h2:lo<2 ^ 62)(h3:-(2 ^ 62)<=hi)(h4:hi<2 ^ 62)
  (q:R (UR lo (hi-lo).toNat) H):wpAny (model X.prog X.w) X.A (pyIter<|.ref s.heap.objs.size) (Yx X VU σ tg R) E { s with heap:=s.heap.push { cls:=.type "range",data:=.fields #[.int lo t,.int hi u,.int 1 v] },toks:=tk }:=by
 refine wpAny_pyIter_range (IsRange.new ..) (small_one h1 h2 h3 h4) ?_;have I1:Inv X VU σ H { s with heap:=s.heap.push { cls:=.type "range",data:=.fields #[.int lo t,.int hi u,.int 1 v] },toks:=tk }:=I.kept λb o e=>Ac _ e
 refine⟨(s.heap.push { cls:=.type "range",data:=.fields #[.int lo t,.int hi u,.int 1 v] }).objs.size,[(s.heap.push { cls:=.type "range",data:=.fields #[.int lo t,.int hi u,.int 1 v] }).objs.size],_,_,H,rfl,
  I1.kept (t':=tk) λb o e=>Ac _ e,xn _ lo (hi-lo).toNat,?_,λb hb=>?_,q⟩
 ·have e1:lo+((0:Nat):Int)*1=lo:=by simp
  have e2:(((hi-lo).toNat:Nat):Int)-((0:Nat):Int)=Builtin.Range.rangeSize lo hi 1:=by rw[rangeSize_one];split<;>lia
  show IsRangeIter _ _ (lo+((0:Nat):Int)*1) ((((hi-lo).toNat:Nat):Int)-((0:Nat):Int)) 1;rw[e1,e2];exact Ah _ rfl
 ·have e:b=(s.heap.push { cls:=.type "range",data:=.fields #[.int lo t,.int hi u,.int 1 v] }).objs.size:=by simpa using hb
  subst e;walk_at "p"
def Mv(ta:TA):TI:=λσ H R=>ta σ H λvs H1=>∃j:Int,vs=[.int j]/\-(2 ^ 62)<=j/\j<2 ^ 62/\R (UR 0 j.toNat) H1
theorem eE{ta:TA}(hg:Gl X "range")(hm:X.mg "range"=none)(ha:PA X [a] ta)(hs:starEach [a] X.env=[(false,eval a X.env)]:=by rfl):PI X tg (.Call (.Name "range" p) [a] [] pos) (Mv ta):=by
 intro VU s σ H R I h;refine Call_<|lX I hg hm boot_range<|Be (SM (ha pos VU s σ H _ I h) λus s1 zz9=>?_) hs rfl;obtain⟨vs,H1,I1,r1,q1⟩:=zz9;obtain⟨j,e,q1,q2,q⟩:=q1;subst e;cases r1 with
 |cons r rr=>
  cases rr;obtain⟨t,rfl⟩:=r;exact call_range_1<|Gf I1 (by lia) (by lia) q1 q2<|by simpa using q
def P7(wi:TI)(g:TG)(tb:TS):TS:=λD σ H=>wi σ H λJ H1=>∃W:Nat->Nat->St->Hp->Prop,(∃m,W 0 m σ H1)/\∀i m σ H,W i m σ H->
 (J.stop i H/\D.nx σ H)\/(J.go i H/\∃N:St->Hp->Prop,(∀σ' H',N σ' H'->∃m',m'<m/\W (i+1) m' σ' H')/\∀x H',J.yld i H x H'->g x σ H' λσ2 H2=>tb { D with nx:=N,ct:=N,bk:=D.nx } σ2 H2)
def p9(fp:Se Sk)(h:Sv):Se (Sk×Obj):=fp.filterMap λb=>(h.get? b).map λo=>(b,o)
def jd{h:Sv}(hb:b∈fp)(e:h.get? b=some o):(b,o)∈p9 fp h:=List.mem_filterMap.mpr ⟨b,hb,by rw[e];rfl⟩
theorem Ez{h:Sv}(hp:p∈p9 fp h):p.1∈fp/\h.get? p.1=some p.2:=by
 obtain⟨b,hb,e⟩:=List.mem_filterMap.mp hp;cases q:h.get? b with
 |none=>rw[q]at e;cases e
 |some o=>
  rw[q]at e;have e':(b,o)=p:=Option.some.inj e;subst e';exact⟨hb,q⟩
def Inv.pinned{s:Si}(I:Inv X VU σ H s)(hf:∀b∈fp,jR X VU H b)(ho:∀b∈fp,∃o,s.heap.get? b=some o/\∀v,o.data≠.cell v):Inv X (VU++p9 fp s.heap) σ H s :=
 I.pins_of λp hp=>(Qb.mp hp).elim (λz=>I.pin p<|Vd _ z) λz=>by
  obtain⟨hb,e⟩:=Ez z;obtain⟨f0,f1,f2,_⟩:=hf p.1 hb;obtain⟨o,e',d⟩:=ho p.1 hb;rw[e]at e';cases e';exact⟨e,f0,f1,f2,d⟩
def Inv.unpinned(I:Inv X (VU++pl) σ H s):Inv X VU σ H s:=I.pins_of λp hp=>I.pin p<|Vd _<|Yg _ hp
def dj(hp:PassesOwn (model X.prog X.w) X.A X.env X.xe)(hc:X.calm=true)(hi:PI X tg iter wi)(hg:PG X tg g)(hb:W5 X body tb)
  (hs:∀x,foldedSetIterable iter X.env x=pure x:=by intro _;rfl):PS X (.For tg iter body [] pos) (P7 wi g tb):=by
 walk_at "H";refine wpAny_For (SM (hi VU s σ H _ I h) λv s1 h1=>SM h1 λitv s2 h2=>?_) hs;obtain⟨it,fp,tn,J,H2,e,I2,T,V4,f2,W,⟨m0,w0⟩,turn⟩:=h2;subst e;have stat:∀{H':Hp},(∀b∈fp,H' b=none)->∀b∈fp,jR X VU H' b:=λhn b hb=>⟨hn b hb,(f2 b hb).2⟩;refine codeAny_forLoop_any (λn s'=>∃i σ' H',Inv X VU σ' H' s'/\tn i s'.heap/\(∀b∈fp,H' b=none)/\W i n σ' H') ?_ m0 ⟨0,σ,H2,I2,V4,λb hb=>(f2 b hb).1,w0⟩;rintro n s3 ⟨i,σ3,H3,I3,Wq,fr3,w3⟩;rcases turn i n σ3 H3 w3 with⟨stop,qn⟩|⟨go,N,hN,step⟩
 ·refine A9 hp<|SM (T.done X rfl rfl rfl hc i VU s3 σ3 H3 X.xe I3 (stat fr3) Wq stop) λr s4 zz9=>?_;obtain⟨hr,I4⟩:=zz9;subst hr;exact Cr ⟨σ3,H3,I4,qn⟩
 ·refine A9 hp<|SM (T.item X rfl rfl rfl hc i VU s3 σ3 H3 X.xe I3 (stat fr3) Wq go) λr s4 zz9=>?_;obtain⟨u,hr,h4⟩:=zz9;subst hr;refine A9 hp<|SM h4 λ_ s5 zz9=>?_;obtain⟨x,H5,I5,r5,y5,st5,fr5⟩:=zz9;refine A9 hp<|SM (hg _ s5 σ3 H5 x u _ (I5.pinned (stat fr5)<|T.obj _ _ st5) r5<|step x H5 y5) λ_ s6 zz9=>?_;obtain⟨σ6,H6,I6,q6⟩:=zz9;refine A9 hp<|SM (hb _ s6 σ6 H6 _ I6 q6) λf s7 q7=>?_;have again:∀{σ7:St}{H7:Hp},Inv X (VU++p9 fp s5.heap) σ7 H7 s7->N σ7 H7->∃m,m<n/\∃i σ' H',Inv X VU σ' H' s7/\tn i s7.heap/\(∀b∈fp,H' b=none)/\W i m σ' H':=λ{σ7 H7} I7 n7=>by
   obtain⟨m',hm,w7⟩:=hN σ7 H7 n7;refine⟨m',hm,i+1,σ7,H7,I7.unpinned,T.keep _ _ _ st5 λb hb o e=>(I7.pin (b,o)<|Vd _<|Vd _<|jd hb e).1,λb hb=>?_,w7⟩;obtain⟨o,e,d⟩:=T.obj _ _ st5 b hb;exact(I7.pin (b,o)<|Vd _<|Vd _<|jd hb e).2.1
  cases f with
  |next=>obtain⟨σ7,H7,I7,n7⟩:=q7;exact again I7 n7
  |cont=>obtain⟨σ7,H7,I7,n7⟩:=q7;exact again I7 n7
  |brk=>obtain⟨σ7,H7,I7,q7⟩:=q7;exact⟨σ7,H7,I7.unpinned,q7⟩
  |ret v=>obtain⟨x7,σ7,H7,I7,r7,q7⟩:=q7;exact⟨x7,σ7,H7,I7.unpinned,r7,q7⟩
end
abbrev R2:=V->V->Hp->VK->Prop
def Wx(X:Cx)(f:Sh->Sh->Sem Sh)(r:R2):Prop :=
 ∀(VU:Se (Sk×Obj))(s:Si)(σ:St)(H:Hp)(x y:V)(v u:Sh)(Q:VK),Inv X VU σ H s->RelV x v->RelV y u->r x y H Q->
  wpAny (model X.prog X.w) X.A (f v u) (EP X VU σ Q) X.xe s
def U1(X:Cx)(f:Sh->Sem Sh)(r:V->Hp->VK->Prop):Prop :=
 ∀(VU:Se (Sk×Obj))(s:Si)(σ:St)(H:Hp)(x:V)(v:Sh)(Q:VK),Inv X VU σ H s->RelV x v->r x H Q->
  wpAny (model X.prog X.w) X.A (f v) (EP X VU σ Q) X.xe s
def V9(X:Cx)(f:Sh)(r:Se V->Hp->VK->Prop):Prop :=
 ∀(VU:Se (Sk×Obj))(s:Si)(σ:St)(H:Hp)(xs:Se V)(us:Se Sh)(Q:VK),Inv X VU σ H s->V0 xs us->r xs H Q->
  wpAny (model X.prog X.w) X.A (call f us) (EP X VU σ Q) X.xe s
def TQ(r:R2)(ta tb:TE):TE:=λσ H Q=>ta σ H λx H1=>tb σ H1 λy H2=>r x y H2 Q
def Vt(r:V->Hp->VK->Prop)(ta:TE):TE:=λσ H Q=>ta σ H λx H1=>r x H1 Q
def rI(C:Int->Int->Prop)(g:Int->Int->V):R2:=λx y H Q=>∃i j,x=.int i/\y=.int j/\C i j/\Q (g i j) H
def Tt(g:Int->Int->V):R2:=λx y H Q=>∃i j,x=.int i/\y=.int j/\Q (g i j) H
def rU(g:Int->V):V->Hp->VK->Prop:=λx H Q=>∃i,x=.int i/\Q (g i) H
section
variable {X:Cx}
def Nu(ha:PE X a ta)(hb:PE X b tb){R:V->V->Hp->Prop}(I:Inv X VU σ H s)
  (h:ta σ H λx H1=>tb σ H1 λy H2=>R x y H2){Q:Sh->Si->Prop}{f:Sh->Sh->Sem Sh}
  (hf:∀v u s2 x y H2,Inv X VU σ H2 s2->RelV x v->RelV y u->R x y H2->wpAny (model X.prog X.w) X.A (f v u) Q X.xe s2) :
  wpAny (model X.prog X.w) X.A (eval a X.env) (λv s₁=>wpAny (model X.prog X.w) X.A (eval b X.env) (λu s₂=>wpAny (model X.prog X.w) X.A (f v u) Q X.xe s₂) X.xe s₁) X.xe s:=by
 refine SM (ha VU s σ H _ I h) λv s1 zz9=>?_;walk_at "8";refine SM (hb VU s1 σ H1 _ I1 q1) λu s2 zz9=>?_;obtain⟨y,H2,I2,r2,q2⟩:=zz9;exact hf v u s2 x y H2 I2 r1 r2 q2
def ck{op:Operator}{r:R2}(ho:Wx X (binaryOp op) r)(ha:PE X a ta)(hb:PE X b tb):PE X (.BinOp a op b pos) (TQ r ta tb):=by
 walk_at "9";exact wpAny_BinOp<|Nu ha hb I h λv u s2 x y H2 I2 rx ry q=>ho VU s2 σ H2 x y v u Q I2 rx ry q
def ox(ho:U1 X (unaryOp op) r)(ha:PE X a ta):PE X (.UnaryOp op a pos) (Vt r ta):=by
 walk_at "9";exact UnaryOp_<|SM (ha VU s σ H _ I h) λv s1 ⟨x,H1,I1,r1,q1⟩=>ho VU s1 σ H1 x v Q I1 r1 q1
def US{f:Sh->Sh->Sem Sh}{C:Int->Int->Prop}{g:Int->Int->Int}
  (rule:∀(i j:Int)(t u:Tok)(s:Si)(Q:Sh->Si->Prop)(E:Sh->Si->Prop),C i j->Q (.int (g i j) s.toks) { s with toks:=s.toks+1 }->wpAny (model X.prog X.w) X.A (f (.int i t)<|.int j u) Q E s) :
  Wx X f (rI C λi j=>.int<|g i j):=by
 walk_at "3";obtain⟨i,j,rfl,rfl,hc,q⟩:=h;walk_at "b";walk_at "t";exact rule i j t t' s _ _ hc ⟨.int<|g i j,H,I.tok _,⟨_,rfl⟩,q⟩
def P8{f:Sh->Sh->Sem Sh}{g:Int->Int->Int}
  (rule:∀(i j:Int)(t u:Tok)(s:Si)(Q:Sh->Si->Prop)(E:Sh->Si->Prop),Q (.int (g i j) s.toks) { s with toks:=s.toks+1 }->wpAny (model X.prog X.w) X.A (f (.int i t)<|.int j u) Q E s) :
  Wx X f (Tt λi j=>.int<|g i j):=by
 walk_at "3";obtain⟨i,j,rfl,rfl,q⟩:=h;walk_at "b";walk_at "t";exact rule i j t t' s _ _ ⟨.int<|g i j,H,I.tok _,⟨_,rfl⟩,q⟩
def Kh{f:Sh->Sh->Sem Sh}{g:Int->Int->Ss}
  (rule:∀(i j:Int)(t u:Tok)(s:Si)(Q:Sh->Si->Prop)(E:Sh->Si->Prop),Q (.bool<|g i j) s->wpAny (model X.prog X.w) X.A (f (.int i t)<|.int j u) Q E s) :
  Wx X f (Tt λi j=>.bl<|g i j):=by
 walk_at "3";obtain⟨i,j,rfl,rfl,q⟩:=h;walk_at "b";walk_at "t";exact rule i j t t' s _ _ ⟨.bl<|g i j,H,I,rfl,q⟩
def xo(i j:Int):Prop:=0<j/\j<1073741824
def Gg(i j:Int):Prop:=0<=j/\j<=1000000/\i.natAbs<2 ^ 64
def WW(i j:Int):Prop:=(-(2 ^ 64)<i/\i<2 ^ 64)\/(-(2 ^ 64)<j/\j<2 ^ 64)
def WW.ok(h:WW i j):IntMulOk i j:=by
 rcases h with⟨h1,h2⟩|⟨h1,h2⟩
 ·exact .of_left<|intBits_le_64 h1 h2
 ·exact .of_right<|intBits_le_64 h1 h2
def XT:Wx X (binaryOp .Add) (Tt λi j=>.int<|i+j):=P8 λ_ _ _ _ _ _ _ q=>add_int q
def nN:Wx X (binaryOp .Sub) (Tt λi j=>.int<|i-j):=P8 λ_ _ _ _ _ _ _ q=>sub_int q
def XU:Wx X (binaryOp .Mult) (rI WW λi j=>.int<|i*j):=US λ_ _ _ _ _ _ _ hc q=>mul_int q hc.ok
def pq:Wx X (binaryOp .FloorDiv) (rI xo λi j=>.int<|i / j):=US λi j _ _ _ _ _ hc q=>by
 have h1:(0:Int)<j:=hc.1;have h2:j<1073741824:=hc.2;exact floordiv_int (by lia) (by rw[Int.fdiv_eq_ediv_of_nonneg i<|by lia];exact q)<|.inl<|PyProof.noPylong_small<|by lia
def jS:Wx X (binaryOp .Mod) (rI (λ_ j=>0<j) λi j=>.int<|i % j):=US λi j _ _ _ _ _ hc q=>by
 have h1:(0:Int)<j:=hc;exact mod_int' (by lia) (by rw[Int.fmod_eq_emod_of_nonneg i<|by lia];exact q)
def Nv:Wx X (binaryOp .Pow) (rI Gg λi j=>.int<|i ^ j.toNat):=US λ_ _ _ _ _ _ _ hc q=>pow_int_small hc.1 hc.2.1 hc.2.2 q
def VJ{f:Sh->Sem Sh}{g:Int->Int}
  (rule:∀(i:Int)(t:Tok)(s:Si)(Q:Sh->Si->Prop)(E:Sh->Si->Prop),Q (.int (g i) s.toks) { s with toks:=s.toks+1 }->wpAny (model X.prog X.w) X.A (f<|.int i t) Q E s) :
  U1 X f (rU λi=>.int<|g i):=by
 intro VU s σ H x v Q I rx h;obtain⟨i,rfl,q⟩:=h;walk_at "b";exact rule i t s _ _ ⟨.int<|g i,H,I.tok _,⟨_,rfl⟩,q⟩
def jT:U1 X (unaryOp .USub) (rU λi=>.int<|-i):=VJ λ_ _ _ _ _ q=>neg_int q
end
def Nw:V->V->Ss|.non,.non=>true|.non,.int _=>true|.int _,.non=>true|.non,.bl _=>true|.bl _,.non=>true|.non,.str _=>true|.str _,.non=>true|.int _,.int _=>true|.bl _,.bl _=>true|.str _,.str _=>true|.byt _,.byt _=>true|.int _,.str _=>true|.str _,.int _=>true|.bl _,.str _=>true|.str _,.bl _=>true|_,_=>false
def UH:R2:=λx y H Q=>Nw x y=true/\Q (.bl<|decide<|x=y) H
def U2:R2:=λx y H Q=>Nw x y=true/\Q (.bl<|!decide (x=y)) H
def yA:decide (V.int i=V.int j)=(i == j):=by
 rw[Xf];simp
def Gh:decide (V.bl i=V.bl j)=(i == j):=by
 rw[Xf];simp
def yB:decide (V.str i=V.str j)=(i == j):=by
 rw[Xf];simp
def yC{i j:Sj UInt8}:decide (V.byt i=V.byt j)=(i.toList == j.toList):=by
 rw[Xf];cases i;cases j;simp
section
variable {X:Cx}{a b c:Expr}
def bE(I:Inv X VU σ H s)(q:Q (.bl k) H)(e:k=k'):EP X VU σ Q (.bool k') s:=by
 subst e;exact⟨.bl k,H,I,rfl,q⟩
theorem eG:Wx X (compareOp .Eq) UH:=by
 walk_at "3";obtain⟨hs,q⟩:=h;cases x with
 |non=>
  cases rx;cases y with
  |non=>cases ry;exact PySem.EqNone.eq_none_none<|bE I q<|by simp
  |bl j=>cases ry;exact PySem.EqNone.eq_none_bool<|bE I q<|by simp
  |int j=>obtain⟨t',rfl⟩:=ry;exact PySem.EqNone.eq_none_int<|bE I q<|by simp
  |str j=>obtain⟨t',rfl⟩:=ry;exact PySem.EqNone.eq_none_str<|bE I q<|by simp
  |_=>exact absurd (show false=true from hs) Ze
 |bl i=>
  cases rx;cases y with
  |non=>cases ry;exact PySem.EqNone.eq_bool_none<|bE I q<|by simp
  |bl j=>cases ry;exact eq_bool<|bE I q Gh
  |str j=>obtain⟨t',rfl⟩:=ry;exact PySem.EqMixed.eq_bool_str<|bE I q<|by simp
  |_=>exact absurd (show false=true from hs) Ze
 |int i=>
  walk_at "b";cases y with
  |non=>cases ry;exact PySem.EqNone.eq_int_none<|bE I q<|by simp
  |int j=>obtain⟨t',rfl⟩:=ry;exact eq_int<|bE I q yA
  |str j=>obtain⟨t',rfl⟩:=ry;exact PySem.EqMixed.eq_int_str<|bE I q<|by simp
  |_=>exact absurd (show false=true from hs) Ze
 |str i=>
  walk_at "b";cases y with
  |non=>cases ry;exact PySem.EqNone.eq_str_none<|bE I q<|by simp
  |bl j=>cases ry;exact PySem.EqMixed.eq_str_bool<|bE I q<|by simp
  |int j=>obtain⟨t',rfl⟩:=ry;exact PySem.EqMixed.eq_str_int<|bE I q<|by simp
  |str j=>obtain⟨t',rfl⟩:=ry;exact eq_str<|bE I q yB
  |_=>exact absurd (show false=true from hs) Ze
 |byt i=>
  walk_at "b";cases y with
  |byt j=>obtain⟨t',rfl⟩:=ry;exact PySem.W.eq_bytes<|bE I q yC
  |_=>exact absurd (show false=true from hs) Ze
 |_=>cases y<;>exact absurd (show false=true from hs) Ze
theorem Yr:Wx X (compareOp .NotEq) U2:=by
 walk_at "3";obtain⟨hs,q⟩:=h;cases x with
 |non=>
  cases rx;cases y with
  |non=>cases ry;exact PySem.EqNone.ne_none_none<|bE I q<|by simp
  |bl j=>cases ry;exact PySem.EqNone.ne_none_bool<|bE I q<|by simp
  |int j=>obtain⟨t',rfl⟩:=ry;exact PySem.EqNone.ne_none_int<|bE I q<|by simp
  |str j=>obtain⟨t',rfl⟩:=ry;exact PySem.EqNone.ne_none_str<|bE I q<|by simp
  |_=>exact absurd (show false=true from hs) Ze
 |bl i=>
  cases rx;cases y with
  |non=>cases ry;exact PySem.EqNone.ne_bool_none<|bE I q<|by simp
  |bl j=>cases ry;exact ne_bool<|bE I q<|congrArg not Gh
  |str j=>obtain⟨t',rfl⟩:=ry;exact PySem.EqMixed.ne_bool_str<|bE I q<|by simp
  |_=>exact absurd (show false=true from hs) Ze
 |int i=>
  walk_at "b";cases y with
  |non=>cases ry;exact PySem.EqNone.ne_int_none<|bE I q<|by simp
  |int j=>obtain⟨t',rfl⟩:=ry;exact ne_int<|bE I q<|congrArg not yA
  |str j=>obtain⟨t',rfl⟩:=ry;exact PySem.EqMixed.ne_int_str<|bE I q<|by simp
  |_=>exact absurd (show false=true from hs) Ze
 |str i=>
  walk_at "b";cases y with
  |non=>cases ry;exact PySem.EqNone.ne_str_none<|bE I q<|by simp
  |bl j=>cases ry;exact PySem.EqMixed.ne_str_bool<|bE I q<|by simp
  |int j=>obtain⟨t',rfl⟩:=ry;exact PySem.EqMixed.ne_str_int<|bE I q<|by simp
  |str j=>obtain⟨t',rfl⟩:=ry;exact ne_str<|bE I q<|congrArg not yB
  |_=>exact absurd (show false=true from hs) Ze
 |byt i=>
  walk_at "b";cases y with
  |byt j=>obtain⟨t',rfl⟩:=ry;exact PySem.W.ne_bytes<|bE I q<|congrArg not yC
  |_=>exact absurd (show false=true from hs) Ze
 |_=>cases y<;>exact absurd (show false=true from hs) Ze
def Ys:Wx X (compareOp .Lt) (Tt λi j=>.bl<|decide<|i<j):=Kh λ_ _ _ _ _ _ _ q=>lt_int q
def Mw:Wx X (compareOp .LtE) (Tt λi j=>.bl<|decide<|i<=j):=Kh λ_ _ _ _ _ _ _ q=>le_int q
def P9:Wx X (compareOp .Gt) (Tt λi j=>.bl<|decide<|j<i):=Kh λ_ _ _ _ _ _ _ q=>gt_int q
def Qn:Wx X (compareOp .GtE) (Tt λi j=>.bl<|decide<|j<=i):=Kh λ_ _ _ _ _ _ _ q=>ge_int q
def EA:Wx X (compareOp .Lt) (λx y H Q=>∃i j,x=.str i/\y=.str j/\Q (.bl<|decide<|i.cps.toList<j.cps.toList) H):=by
 walk_at "3";obtain⟨i,j,rfl,rfl,q⟩:=h;walk_at "b";walk_at "t";exact lt_str<|bE I q rfl
def Xt:Wx X (compareOp .In) (λx y H Q=>∃i j,x=.str i/\y=.str j/\Q (.bl<|!(Builtin.Str.occurrences j i 0 j.length 1).isEmpty) H):=by
 walk_at "3";obtain⟨i,j,rfl,rfl,q⟩:=h;walk_at "b";walk_at "t";exact in_str<|bE I q rfl
theorem tK:Wx X (compareOp .Is) (λx y H Q=>y=.non/\Q (.bl<|decide<|x=.non) H):=by
 walk_at "3";obtain⟨rfl,q⟩:=h;cases ry;refine is_none_gen<|bE I q ?_;cases x<;>first
  | (cases rx;rfl)
  | (obtain⟨t,rfl⟩:=rx;rfl)
theorem Ki:Wx X (compareOp .IsNot) (λx y H Q=>y=.non/\Q (.bl<|!decide (x=.non)) H):=by
 walk_at "3";obtain⟨rfl,q⟩:=h;cases ry;refine isnot_none_gen<|bE I q ?_;cases x<;>first
  | (cases rx;rfl)
  | (obtain⟨t,rfl⟩:=rx;rfl)
def WY:Wx X (compareOp .NotIn) (λx y H Q=>∃i j,x=.str i/\y=.str j/\Q (.bl<|!(!(Builtin.Str.occurrences j i 0 j.length 1).isEmpty)) H):=by
 walk_at "3";obtain⟨i,j,rfl,rfl,q⟩:=h;walk_at "b";walk_at "t";exact notIn_str<|bE I q rfl
def Wx.or(h:Wx X f r)(h':Wx X f r'):Wx X f (λx y H Q=>r x y H Q\/r' x y H Q):=by
 intro VU s σ H x y v u Q I rx ry q;rcases q with q|q
 ·exact h VU s σ H x y v u Q I rx ry q
 ·exact h' VU s σ H x y v u Q I rx ry q
def Gi(b:Expr)(h:op≠.In:=by decide)(h2:op≠.NotIn:=by decide):behindInMarks op b=false:=by
 have e1:(op == CmpOp.In)=false:=by cases op<;>first|rfl|exact absurd rfl h
 have e2:(op == CmpOp.NotIn)=false:=by cases op<;>first|rfl|exact absurd rfl h2
 cases b<;>simp[behindInMarks,e1,e2]
def mQ(ho:Wx X (compareOp op) r)(ha:PE X a ta)(hb:PE X b tb)(hm:behindInMarks op b=false):PE X (.Compare a [op] [b] pos) (TQ r ta tb):=by
 walk_at "9";exact wpAny_Compare1 (Nu ha hb I h λv u s2 x y H2 I2 rx ry q=>ho VU s2 σ H2 x y v u Q I2 rx ry q) hm
def yD(t:TE):TT:=λσ H Q=>t σ H λx H'=>∃k,x=.bl k/\Q k H'
def ig(ho:Wx X (compareOp op) r)(ha:PE X a ta)(hb:PE X b tb)(hm:behindInMarks op b=false):PT X (.Compare a [op] [b] pos) (yD<|TQ r ta tb):=by
 walk_at "9"
 refine wpAny_isTrue_Compare1 (SM (ha VU s σ H _ I h) λv s1 ⟨x,H1,I1,r1,q1⟩=>SM (hb VU s1 σ H1 _ I1 q1) λu s2 ⟨y,H2,I2,r2,q2⟩=>
  SM (ho VU s2 σ H2 x y v u _ I2 r1 r2 q2) λc s3 ⟨z,H3,I3,r3,k,e,q3⟩=>?_) hm
 subst e;cases r3;exact Ax ⟨H3,I3,q3⟩
def Gj(r r':R2)(ta tb tc:TE):TE:=λσ H Q=>ta σ H λx H1=>tb σ H1 λy H2=>r x y H2 λz H3=>∃k,z=.bl k /\
 (if k=true then tc σ H3 λw' H4=>r' y w' H4 Q else Q (.bl false) H3)
def Gk(ho:Wx X (compareOp op) r)(ho':Wx X (compareOp op') r')(ha:PE X a ta)(hb:PE X b tb)(hc:PE X c tc)
  (hm:lastMarks [op,op'] [b,c]=false:=by with_unfolding_all rfl):PT X (.Compare a [op,op'] [b,c] pos) (yD<|Gj r r' ta tb tc):=by
 walk_at "9"
 refine isTrue_chain (SM (ha VU s σ H _ I h) λv s1 ⟨x,H1,I1,r1,q1⟩=>test_link (SM (hb VU s1 σ H1 _ I1 q1) λu s2 ⟨y,H2,I2,r2,q2⟩=>
  SM (ho VU s2 σ H2 x y v u _ I2 r1 r2 q2) λd s3 ⟨z,H3,I3,r3,k,e,q3⟩=>?_)) hm
 subst e;cases r3;refine Ax ?_;cases k with
 |false=>
  obtain⟨k',e',q'⟩:=q3;cases e';exact ite_ff ⟨H3,I3,q'⟩
 |true=>
  refine ite_tt<|test_last<|SM (hc VU s3 σ H3 _ I3 q3) λw' s4 ⟨z',H4,I4,r4,q4⟩=>SM (ho' VU s4 σ H4 y z' u w' _ I4 r2 r4 q4) λd' s5 zz9=>?_;obtain⟨z2,H5,I5,r5,k2,e2,q5⟩:=zz9;subst e2;cases r5;exact Ax ⟨H5,I5,q5⟩
def nO:(sizeLine:Nat)<2 ^ 63:=by rw[CG];decide
def W6:Wx X (binaryOp .Add) (λx y H Q=>∃i j,x=.str i/\y=.str j/\i.length+j.length<=sizeLine/\Q (.str<|i++j) H):=by
 walk_at "3";obtain⟨i,j,rfl,rfl,hz,q⟩:=h;walk_at "b";walk_at "t";exact add_str (λt' tk=>⟨.str<|i++j,H,I.tok _,⟨_,rfl⟩,q⟩) hz
theorem vals1(r:V0 [x] us):∃u,us=[u]/\RelV x u:=by
 cases r with|cons r1 r2=>cases r2;exact⟨_,rfl,r1⟩
theorem vals2(r:V0 [x,y] us):∃u w',us=[u,w']/\RelV x u/\RelV y w':=by
 cases r with
 |cons r1 r2=>
  cases r2 with|cons r3 r4=>cases r4;exact⟨_,_,rfl,r1,r3⟩
def EB:V9 X (.type "int") (λxs H Q=>(∃i,xs=[.int i]/\Q (.int i) H)\/∃k,xs=[.bl k]/\Q (.int (if k then 1 else 0)) H):=by
 walk_at "L";rcases h with⟨i,rfl,q⟩|⟨k,rfl,q⟩
 ·obtain⟨u,rfl,t,rfl⟩:=vals1 r;exact call_int_int ⟨.int i,H,I,⟨_,rfl⟩,q⟩
 ·obtain⟨u,rfl,r1⟩:=vals1 r;cases r1;exact call_int_bool ⟨.int (if k then 1 else 0),H,I.tok _,⟨_,rfl⟩,q⟩
end
structure XW(h:Heap)(x dx C:Addr)(mA:Str->Option Value):Prop where
 obj:h.get? x=some (PySem.W.instObj C dx)
 ns:h.Ns1 dx mA
 ne:dx≠x
def EC{h:Sv}(n:h.Ns1 dx mA):∃od,h.get? dx=some od/\∀name,PySem.W.lookIn name od=some (mA name):=by
 obtain⟨o,es,ep,ho,hd,hk,_,hm⟩:=n;refine⟨o,ho,λname=>?_⟩;have e:=hm name;unfold nsFind findBy at e;rw[<-Array.find?_toList]at e;unfold PySem.W.lookIn;rw[hd];dsimp only;split
 ·rename_i y q
  rw[q]at e;exact congrArg some e
 ·rename_i q
  rw[q]at e;have a:es.toList.any (·.refKey)=false:=by
   rw[List.any_eq_false];intro y hy;obtain⟨z,t,hkey⟩:=hk y<|Array.mem_toList_iff.mp hy;simp[DictEntry.refKey,hkey]
  have a':¬ es.toList.any (·.refKey)=true:=by rw[a];exact Ze
  rw[Ak a'];exact congrArg some e
def XW.look(I:XW h x dx C mA):∃od,PySem.W.InstAt h x (PySem.W.instObj C dx) C (some od)/\∀name,PySem.W.lookIn name od=some (mA name) :=
 let⟨od,ho,hl⟩:=EC I.ns
 ⟨od,⟨I.obj,rfl,rfl,ho⟩,hl⟩
theorem WV.some_of(r:WV (some v) o):∃u,o=some u/\RelV v u:=by
 cases o with|none=>exact(show False from r).elim|some u=>exact⟨u,rfl,r⟩
section
variable {fs fs':Se (Str×V)}
def Kj(hok:HOk P w H h)(e:H a=some (.ins C dx fs)):∃mA,XW h a dx C mA/\(∀f,WV (fs.lookup f)<|mA f)/\PySem.Within mA (fs.map (·.1))/\fs.length<=1000/\H dx=some (.own a):=by
 obtain⟨d,z,ne,ob,mA,n,r,q⟩:=(show V3 P w H h a (.ins C dx fs) from hok a _ e);exact⟨mA,⟨ob,n,ne⟩,r,q,z,d⟩
end
structure Yv(K:Ab)(C:Addr):Prop where
 pg:PySem.W.plainGet K C Str.empty=true
 hd:PySem.W.hasDictIn K C=true
 po:PySem.W.plainOver K C=true
 sa:PySem.W.findIn K (.ref C) "__setattr__"=some (some<|.builtin "object.__setattr__")
def Yv.get{K:Ab}{C:Sk}(c:Yv K C)(f:Str):PySem.W.plainGet K C f=true:=c.pg
section
variable {X:Cx}
inductive WU(K:Ab)(H:Hp):V->Value->Prop where
 | non:WU K H .non (.type "NoneType")
 | bl (x:Bool):WU K H (.bl x) (.type "bool")
 | int (i:Int):WU K H (.int i) (.type "int")
 | str (x:Str):WU K H (.str x) (.type "str")
 | flt (x:UInt64):WU K H (.flt x) (.type "float")
 | lst {a:Addr} {xs:List V} (e:H a=some (.lst xs)):WU K H (.ref a) (.type "list")
 | frz {a:Addr} {o:Obj} {xs:List V} (e:H a=some (.frz o<|.lst xs)):WU K H (.ref a) (.type "list")
 | tup {a:Addr} {xs:List V} (e:H a=some (.tup xs)):WU K H (.ref a) (.type "tuple")
 | dK {a:Addr} {VV:List (Key×V)} (e:H a=some (.dK VV)):WU K H (.ref a) (.type "dict")
 | dT {a:Addr} {ep:Nat×List Addr} {VV:List (List Key×V)} (e:H a=some (.dT ep VV)):WU K H (.ref a) (.type "dict")
 | ins {a C dx:Addr} {fs:List (Str×V)} (e:H a=some (.ins C dx fs)) (cl:Yv K C) (ha:PySem.W.findIn K (.ref C) "__class__"=some (some<|.builtin "object.__class__"))
   (hn:PySem.W.specialIn K (.builtin "object.__class__") "__get__"=some (some<|.builtin "getset_descriptor.__get__")) (htk:PySem.W.takesIn K (.builtin "object.__class__")=some true)
   (hm:PySem.W.mroIn K C (.type "object")=some true):WU K H (.ref a) (.ref C)
def fq(I:Inv X VU σ H s)(rx:RelV x u)(ty:WU X.K H x t)(e:PySem.W.kitOne X.K t c=some b)(h:∀tk,Q (.bool b) { s with toks:=tk }) :
  wpAny (model X.prog X.w) A (call (.builtin "isinstance") [u,c]) Q E s:=by
 cases ty with
 |non=>cases (show u=Value.none from rx);exact At PySem.W.kitx_none I.kIn True.intro e (λz=>nomatch z) h
 |bl y=>cases (show u=Value.bool y from rx);exact At PySem.W.kitx_bool I.kIn True.intro e (λz=>nomatch z) h
 |int i=>obtain⟨t,q⟩:=(show ∃t,u=Value.int i t from rx);cases q;exact At PySem.W.kitx_int I.kIn True.intro e (λz=>nomatch z) h
 |str y=>obtain⟨t,q⟩:=(show ∃t,u=Value.str y t from rx);cases q;exact At PySem.W.kitx_str I.kIn True.intro e (λz=>nomatch z) h
 |flt y=>obtain⟨t,q⟩:=(show ∃t,u=Value.float y t from rx);cases q;exact At PySem.W.kitx_float I.kIn True.intro e (λz=>nomatch z) h
 |@lst a xs ea=>
  walk_at "e";obtain⟨_,_,n,_,h1⟩:=(show V3 X.prog X.w H s.heap a (.lst xs) from I.hok a _ ea);exact At C3 I.kIn ⟨_,h1,rfl⟩ e (λz=>nomatch z) h
 |@frz a ob xs ea=>
  walk_at "e";obtain⟨_,_,_,n,_,h1⟩:=(show V3 X.prog X.w H s.heap a (.frz ob<|.lst xs) from I.hok a _ ea);exact At C3 I.kIn ⟨_,h1,rfl⟩ e (λz=>nomatch z) h
 |@tup a xs ea=>
  walk_at "e";obtain⟨_,_,_,p⟩:=(show V3 X.prog X.w H s.heap a (.tup xs) from I.hok a _ ea);obtain⟨o,h1,h2,_⟩:=p;exact At PySem.W.kitx_tuple I.kIn ⟨o,h1,h2⟩ e (λz=>nomatch z) h
 |@dK a VV ea=>
  walk_at "e";obtain⟨_,_,vs,_,p⟩:=(show V3 X.prog X.w H s.heap a (.dK VV) from I.hok a _ ea);obtain⟨o,es,ep,h1,h2,_⟩:=p;exact At PySem.W.kitx_dict I.kIn ⟨o,h1,h2.1⟩ e (λz=>nomatch z) h
 |@dT a ep VV ea=>
  walk_at "e";obtain⟨_,_,xs,_,_,o,es,h1,h2,_⟩:=(show V3 X.prog X.w H s.heap a (.dT ep VV) from I.hok a _ ea);exact At PySem.W.kitx_dict I.kIn ⟨o,h1,h2.1⟩ e (λz=>nomatch z) h
 |@ins a C dx fs ea cl ha hn htk hm=>
  walk_at "e";obtain⟨mA,O,_⟩:=Kj I.hok ea;obtain⟨od,J,_⟩:=O.look;exact At (PySem.W.kitx_own (cl.get _) cl.hd ha hn htk hm) I.kIn J e (λz=>nomatch z) h
end
structure Ww(k:Nat)(A:Around):Prop where
 hd:A.handled=none
 dp:A.depth+3*k+5<recursionLimit
 un:A.units+16*k+200<cLine
def Ww.mono(r:Ww k A)(h:j<=k):Ww j A:=⟨r.hd,by have:=r.dp;lia,by have:=r.un;lia⟩
theorem Ww.deeper{A:Around}(r:Ww (k+1) A)(env:Env):Ww k (A.deeper env) :=
 ⟨r.hd,by have:=r.dp;show A.depth+1+3*k+5<_;lia,by have:=r.un;show A.units+3+16*k+200<_;lia⟩
theorem Ww.in1{A:Around}(r:Ww (k+1) A):Ww k A.in1 :=
 ⟨r.hd,by have:=r.dp;show A.depth+3*k+5<_;lia,by have:=r.un;show A.units+1+16*k+200<_;lia⟩
theorem Ww.depth{A:Around}(r:Ww k A):A.depth<recursionLimit:=by have:=r.dp;lia
theorem Ww.units{A:Around}(r:Ww k A):A.units+64<cLine:=by have:=r.un;lia
def rB:TA:=λ_ H Q=>Q [] H
def gE(ta:TE)(tr:TA):TA:=λσ H Q=>ta σ H λx H1=>tr σ H1 λxs H2=>Q (x::xs) H2
section
variable {X:Cx}
def ae:PA X [] rB:=λ_ _ _ _ H Q I h=>Calls.spliced_nil ⟨[],H,I,.nil,h⟩
def mR(ha:PE X e te)(hr:PA X es t)(hs:starEach (e::es) X.env=(false,eval e X.env)::starEach es X.env:=by rfl):PA X (e::es) (gE te t):=by
 intro pos VU s σ H Q I h;rw[hs];show wpAny _ _ (spliced ((false,eval e X.env)::backTo pos (starEach es X.env))) _ _ s;refine Calls.spliced_cons<|SM (ha VU s σ H _ I h) λu s1 zz9=>?_;walk_at "8";exact SM (hr pos VU s1 σ H1 _ I1 q1) λus s2 ⟨xs,H2,I2,r2,q2⟩=>⟨x::xs,H2,I2,.cons r1 r2,q2⟩
def Qo(t:TA):TE:=λσ H Q=>t σ H λxs H1=>xs.length<=sizeLine/\∀p,H1 p=none->Q (.ref p) (upd H1 p<|.tup xs)
def Nx(t:TA):TE:=λσ H Q=>t σ H λxs H1=>xs.length<=sizeLine/\∀p,H1 p=none->Q (.ref p) (upd H1 p<|.lst xs)
def aZ{x1}(h:PA X es t):PE X (.Tuple es x1 pos) (Qo t):=by
 intro VU s σ H Q I hq;refine wpAny_Tuple_spliced<|SM (h pos VU s σ H _ I hq) λus s1 ⟨xs,H1,I1,r,z,q⟩=>⟨by rw[<-r.length];exact z,?_⟩
 have hf:H1 s1.heap.objs.size=none:=I1.hok.fresh<|Qa _;refine⟨.ref s1.heap.objs.size,upd H1 s1.heap.objs.size<|.tup xs,I1.laid (t':=s1.toks) (λb u e=>Ac _ e) (Qa _) ?_,rfl,q _ hf⟩;exact⟨z,us,r,⟨_,Ah _ rfl,rfl,_,rfl⟩⟩
def bK(h:PA X es t):PE X (.List es pos) (Nx t):=by
 intro VU s σ H Q I hq;refine wpAny_List_spliced<|SM (h pos VU s σ H _ I hq) λus s1 ⟨xs,H1,I1,r,z,q⟩=>⟨by rw[<-r.length];exact z,?_⟩
 have hf:H1 s1.heap.objs.size=none:=I1.hok.fresh<|Qa _;refine⟨.ref s1.heap.objs.size,upd H1 s1.heap.objs.size<|.lst xs,I1.laid (t':=s1.toks) (λb u e=>Ac _ e) (Qa _) ?_,rfl,q _ hf⟩;exact⟨z,us,0,r,Ah _ rfl⟩
end
abbrev Sp:=List V->Hp->VK->XK->Prop
abbrev T7:=List Env->Hp->Shared->XK->Value->Shared->Prop
structure W7(P:Program)(w:World)(K:Ab)(mg:Str->Option Value)(base:Heap)(A:Around)(outer:List Env)(s:Shared)(H:Hp):Prop where
 frames:A.frames=some outer
 mod:Mod K mg base
 bs:∀b o,base.get? b=some o->s.heap.get? b=some o/\H b=none
 bsz:base.objs.size<=s.heap.objs.size
 funs:s.heap.FunFrames base outer
 frf:∀b∈Tx outer,H b=none
 hok:HOk P w H s.heap
 bare:AllBare s.gens
def CE(outer:Se Env)(P:Su)(w:Sx)(H:Hp)(s:Si)(Q:VK)(u:Sh)(s':Si):Prop :=
 ∃v H',s'.os=s.os/\AllBare s'.gens/\Un (Tx outer) [] H H' s.heap s'.heap/\HOk P w H' s'.heap/\RelV v u/\Q v H'
def CR(CX:T7)(outer:Se Env)(P:Su)(w:Sx)(H:Hp)(s:Si)(Q:VK)(E:XK)(r:Result)(s':Si):Prop :=
 match r with|.ok (.ret u)=>CE outer P w H s Q u s'|.ok _=>False|.error e=>CX outer H s E e s'
structure WH(P:Program)(w:World)(K:Ab)(mg:Str->Option Value)(base:Heap)(CX:T7)(k:Nat)(f:Addr)(fd:FuncData)(ps:List Str)(sp:Sp):Prop where
 len:∀vs H Q E,sp vs H Q E->vs.length=ps.length
 run:∀(A:Around)(outer:List Env)(s:Shared)(H:Hp)(args:Args)(us:List Value)(vs:List V)(Q:VK)(E:XK),Ww k A->W7 P w K mg base A outer s H->BindsTo s fd args (ps.zip us)->V0 vs us->sp vs H Q E->
  codeAny (model P w) A (.call (.ref f) args) (CR CX outer P w H s Q E) s
def WH.imp{P:Su}{w:Sx}{K:Ab}{mg:Str->Sf Sh}{base:Sv}{CX:T7}{k:Nat}{f:Sk}{fd:FuncData}{ps:Se Str}{sp sp':Sp}(F:WH P w K mg base CX k f fd ps sp)
  (h:∀vs H Q E,sp' vs H Q E->sp vs H Q E):WH P w K mg base CX k f fd ps sp' :=
 ⟨λvs H Q E q=>F.len vs H Q E<|h _ _ _ _ q,λA outer s H args us vs Q E hr he hb hv hs=>F.run A outer s H args us vs Q E hr he hb hv<|h _ _ _ _ hs⟩
theorem W7.in1{P:Su}{w:Sx}{K:Ab}{mg:Str->Sf Sh}{base:Sv}{A:Around}{outer:Se Env}{s:Si}{H:Hp}(e:W7 P w K mg base A outer s H) :
  W7 P w K mg base A.in1 outer s H:=⟨e.frames,e.mod,e.bs,e.bsz,e.funs,e.frf,e.hok,e.bare⟩
section
variable {X:Cx}
def Inv.env0(I:Inv X VU σ H s):W7 X.prog X.w X.K X.mg X.base X.A X.stack s H :=
 ⟨I.ok.frames,I.ok.mod,I.bs,Ve I.ok.bsz I.sz,I.stack,I.stkFree,I.hok,I.bare⟩
def Inv.after(I:Inv X VU σ H s)(h:CE X.stack X.prog X.w H s Q u s'):EP X VU σ Q u s':=by
 obtain⟨v,H',os,bare,un,hok,r,q⟩:=h;obtain⟨hh,g,d,t,os'⟩:=s';obtain rfl:os'=s.os:=os;exact⟨v,H',I.call (h':=hh) (g':=g) (d':=d) (t':=t) (ch:=[]) un hok bare<|λb z=>absurd z<|by simp,r,q⟩
end
def Gm(sp:Sp)(dvs:Se V)(E:XK)(t:TA):TE:=λσ H Q=>t σ H λvs H1=>sp (vs++dvs) H1 Q E
def Binds(K:Ab)(fd:FuncData)(ps:Se Str)(ds:Se Sh):Prop :=
 ∀(s:Si)(us:Se Sh),K.In s.heap->(us++ds).length=ps.length->BindsTo s fd ⟨us,[]⟩ (ps.zip<|us++ds)
def Binds.all{K:Ab}{fd:FuncData}{ps:Se Str}(h:∀us:Se Sh,us.length=ps.length->bindArgs fd ⟨us,[]⟩=pure (ps.zip us)):Binds K fd ps []:=λs us _ hl=>by
 rw[We]at hl ⊢;exact .of_eq<|h us hl
def xp(CX:T7)(X:Cx)(E:XK):Prop:=∀(VU:Se (Sk×Obj))(σ:St)(H:Hp)(s:Si)(e:Sh)(s':Si),Inv X VU σ H s->CX X.stack H s E e s'->X.xe e s'
section
variable {X:Cx}{p pos apos:Pos}
def Ny(F:WH X.prog X.w X.K X.mg X.base CX k f fd ps sp)(hr:Ww k X.A)(hb:Binds X.K fd ps ds)(hd:V0 dvs ds)(hx:xp CX X E)
  (I:Inv X VU σ H s)(r:V0 vs us)(h:sp (vs++dvs) H Q E):wpAny (model X.prog X.w) X.A (call (.ref f) us) (EP X VU σ Q) X.xe s:=by
 have r2:V0 (vs++dvs) (us++ds):=r.append hd;have hl:(us++ds).length=ps.length:=by rw[<-r2.length];exact F.len _ _ _ _ h
 refine wpAny_call<|C0 (F.run X.A X.stack s H ⟨us,[]⟩ (us++ds) (vs++dvs) Q E hr I.env0 (hb s us I.kIn hl) r2 h) λr s' hq=>?_;cases r with
 |error e=>exact hx VU σ H s e s' I hq
 |ok fl=>
  cases fl with|ret u=>exact I.after hq|next=>exact False.elim hq|brk=>exact False.elim hq|cont=>exact False.elim hq
def yE(F:WH X.prog X.w X.K X.mg X.base CX k f fd ps sp)(hr:Ww k X.A)(hg:Gl X x)(hm:X.mg x=some (.ref f))(hk:PySem.W.keepIn X.K (.ref f)=true)(hb:Binds X.K fd ps ds)(hd:V0 dvs ds)(hx:xp CX X E)
  (ha:PA X (e::es) t)(hdb:(x == ("__debug__":Str))=false:=by decide)(he:starEach (e::es) X.env=(false,eval e X.env)::starEach es X.env:=by rfl)(hpl:(backTo pos<|starEach es X.env).any (·.1)=false:=by rfl) :
  PE X (.Call (.Name x p) (e::es) [] pos) (Gm sp dvs E t):=by
 walk_at "9";exact BR<|pj I hg hm (PySem.W.callWith_K (h₀:=X.base) I.ok.mod.kin hk (SM (ha pos VU s σ H _ I h) λus s1 ⟨vs,H1,I1,r,q⟩=>⟨I1.kIn,(Ny F hr hb hd hx I1 r q)⟩) he hpl) hdb
end
structure VY(N P:List Str)(sc:Scope):Prop where
 kind:sc.kind=.function
 co:sc.isCoroutine=false
 gen:sc.isGenerator=false
 nd:N.Nodup
 pre:N.take P.length=P
 par:∀x∈P,sc.names.lookup x=some .local\/sc.names.lookup x=some .cell
 nofree:∀y∈sc.names,y.2≠.free
theorem rY{kindOf:Str->Sf NameKind}{x:Str}:∀{binds:Se (Str×Sh)}{m:Str->Sf Sh},(∀v,(x,v)∉binds)->bindL kindOf binds m x=m x
 |[],_,_=>rfl
 | (n,v)::r,m,h=>by
  unfold bindL;rw[rY λw hw=>h w<|Wb _ hw];split
  ·have:x≠n:=by rintro rfl;exact h v Zc
   simp[this]
  ·rfl
theorem rZ{kindOf:Str->Sf NameKind}{x:Str}:∀{binds:Se (Str×Sh)}{m:Str->Sf Sh},(∀v,(x,v)∉binds)->bindC kindOf binds m x=m x
 |[],_,_=>rfl
 | (n,v)::r,m,h=>by
  unfold bindC;rw[rZ λw hw=>h w<|Wb _ hw];split
  ·rfl
  ·have:x≠n:=by rintro rfl;exact h v Zc
   simp[this]
theorem r6{kindOf:Str->Sf NameKind}{x:Str}{v:Sh}:∀{P:Se Str}{vs:Se Sh}{i:Nat}{m:Str->Sf Sh},P.Nodup->P[i]?=some x->vs[i]?=some v->kindOf x=some .local->
  bindL kindOf (P.zip vs) m x=some v
 |[],_,_,_,_,h,_,_=>by simp at h
 |_::_,[],_,_,_,_,h,_=>by simp at h
 | p::P,w::vs,0,m,nd,h1,h2,hk=>by
  simp at h1 h2;subst h1;subst h2;show bindL kindOf ((p,w)::P.zip vs) m p=_;unfold bindL;rw[rY λv hv=>(Xj.mp nd).1 (Cu hv).1,Ag hk];simp
 | p::P,w::vs,i+1,m,nd,h1,h2,hk=>by
  show bindL kindOf ((p,w)::P.zip vs) m x=_;unfold bindL;exact r6 (i:=i) (Xj.mp nd).2 (by simpa using h1) (by simpa using h2) hk
theorem r9{kindOf:Str->Sf NameKind}{x:Str}{v:Sh}:∀{P:Se Str}{vs:Se Sh}{i:Nat}{m:Str->Sf Sh},P.Nodup->P[i]?=some x->vs[i]?=some v->kindOf x≠some .local->
  bindC kindOf (P.zip vs) m x=some v
 |[],_,_,_,_,h,_,_=>by simp at h
 |_::_,[],_,_,_,_,h,_=>by simp at h
 | p::P,w::vs,0,m,nd,h1,h2,hk=>by
  simp at h1 h2;subst h1;subst h2;show bindC kindOf ((p,w)::P.zip vs) m p=_;unfold bindC;rw[rZ λv hv=>(Xj.mp nd).1 (Cu hv).1,Ak hk];simp
 | p::P,w::vs,i+1,m,nd,h1,h2,hk=>by
  show bindC kindOf ((p,w)::P.zip vs) m x=_;unfold bindC;exact r9 (i:=i) (Xj.mp nd).2 (by simpa using h1) (by simpa using h2) hk
def start(N:Se Str)(vs:Se V):St:=vs.map some++List.replicate (N.length-vs.length) none
def vz(CX:T7)(P:Su)(w:Sx)(K:Ab)(mg:Str->Sf Sh)(base:Sv)(N:Se Str)(qual:Str)(scope:Scope)(f:Sk)(cd:Sh)(A:Around)(outer:Se Env)(s:Si)(H:Hp)(E:XK):Cx where
 prog:=P
 w:=w
 K:=K
 mg:=mg
 base:=base
 A:=A.deeper<|envOfC qual scope s.heap.objs.size f cd
 N:=N
 s₀:=s
 H₀:=H
 env:=envOfC qual scope s.heap.objs.size f cd
 outer:=outer
 stack:=envOfC qual scope s.heap.objs.size f cd::outer
 ex:=[]
 calm:=true
 fn:=λ_=>true
 pn:=[]
 xe:=λe s'=>wpAny (model P w) (A.deeper<|envOfC qual scope s.heap.objs.size f cd) (leaving (envOfC qual scope s.heap.objs.size f cd) e) (λ_ s''=>CX outer H s E e s'') (λe' s''=>CX outer H s E e' s'') s'
def vA{sc:Scope}(h:sc.names.lookup x=some .cell):∃c,(cellsFrom n sc.names []).lookup x=some c:=by
 exact Option.isSome_iff_exists.mp<|DQ sc.names n []<|.inl h
def ED{CX:T7}{P:Su}{w:Sx}{K:Ab}{mg:Str->Sf Sh}{base:Sv}{N ps:Se Str}{qual:Str}{scope:Scope}{f:Sk}{cd:Sh}{A:Around}{outer:Se Env}{s s1:Si}{H:Hp}{E:XK}{us:Se Sh}{vs:Se V}
  (S:VY N ps scope)(hd:A.handled=none)(e0:W7 P w K mg base A outer s H)(hl:vs.length=ps.length)(r:V0 vs us)
  (x:InCallC s s.heap.objs.size (bindL (envOfC qual scope s.heap.objs.size f cd).kindOf (ps.zip us) λ_=>none) (cellsFrom (s.heap.objs.size+1) scope.names []) (bindC (envOfC qual scope s.heap.objs.size f cd).kindOf (ps.zip us) λ_=>none) s1) :
  Inv (vz CX P w K mg base N qual scope f cd A outer s H E) [] (start N vs) H s1:=by
 have hpl:ps.length<=N.length:=by have:=congrArg List.length S.pre;rw[Xm]at this;lia
 obtain⟨h1,tk,rfl,hk⟩:=x.done;have noA:∀b:Sk,b∉(vz CX P w K mg base N qual scope f cd A outer s H E).ex:=λb z=>absurd (show b∈([]:Se Sk) from z) (by simp)
 refine⟨⟨e0.mod,S.kind,rfl,rfl,Qa _,λy z c h1 h2=>?_,λy hy=>?_,λy c _ h=>?_,λ_=>hd,Around.frames_deeper e0.frames,.inr ⟨rfl,rfl⟩,λb z=>absurd z (noA b),e0.bs,e0.bsz,λb _ _=>noA b,λb z=>absurd z (noA b),e0.funs,e0.frf⟩,
  rfl,e0.bare,Un.kept hk,⟨_,x.toInCall.ns,λi y v h1 h2 h3=>?_⟩,λy c h=>⟨_,x.cell y c h⟩,e0.hok.fresh (Qa _),λy c h=>?_,λp hp=>absurd (show p∈([]:Se (Sk×Obj)) from hp) (by simp),e0.hok.kept hk,?_⟩
 ·exact name_of_addr x.apart (AA h1)<|AA h2
 ·have hy:scope.names.lookup y=some .cell\/scope.names.lookup y=some .free:=hy;rcases hy with hy|hy
  ·exact vA hy
  ·exact absurd rfl<|S.nofree _<|AA hy
 ·exact Ym<|x.above y c<|AA h
 ·have hi:i<vs.length:=by
   unfold start at h2;by_cases hi:i<vs.length
   ·exact hi
   ·rw[Qf<|by simpa using hi]at h2
    rw[AE]at h2;split at h2<;>cases h2
  have ha:vs[i]?=some v:=by
   unfold start at h2;rw[Xh<|by simpa using hi,Xd]at h2
   cases e:vs[i]? with|none=>rw[e]at h2;cases h2|some a=>rw[e]at h2;cases h2;rfl
  obtain⟨u,hu,rv⟩:=r.get ha;have hp:ps[i]?=some y:=by
   rw[<-S.pre,List.getElem?_take_of_lt<|by lia];exact h1
  have ndP:ps.Nodup:=by rw[<-S.pre];exact S.nd.sublist<|List.take_sublist _ _
  refine⟨u,rv,?_⟩;rcases S.par y (Va hp) with k|k
  ·exact .inl ⟨k,r6 ndP hp hu k⟩
  ·obtain⟨c,e⟩:=vA (n:=s.heap.objs.size+1) k;refine .inr ⟨.inl k,c,e,?_⟩;have q:=x.cell y c e;rw[r9 ndP hp hu (by show scope.names.lookup y≠_;rw[k];decide)]at q
   exact q
 ·exact e0.hok.fresh<|Ym<|x.above y c<|AA h
 ·unfold start;show _=N.length;rw[Xa,Ya,Ql];lia
def Mx{CX:T7}{K:Ab}{mg:Str->Sf Sh}{k:Nat}{f:Sk}{name qual:Str}{params:Arguments}{body:Se Stmt}{scope:Scope}{dV kV doc pm cdv ct oc:Sh}{an od:Sf Sk}
  {osl:Sj (Sf Sh)}{N ps:Se Str}{sp:Sp}(lk:K.lookup f=some ⟨oc,od,.func<|PySem.W.fnOf name qual params body scope dV kV doc pm an cdv ct,osl⟩)(hcd:PySem.W.codeIn K cdv qual=true)(S:VY N ps scope)
  (len:∀vs H Q E,sp vs H Q E->vs.length=ps.length)
  (hbody:∀(A:Around)(outer:Se Env)(s:Si)(H:Hp)(vs:Se V)(Q:VK)(E:XK),Ww k (A.deeper (envOfC qual scope s.heap.objs.size f cdv))->sp vs H Q E->
   ∃t,W5 (vz CX P w K mg base N qual scope f cdv A outer s H E) body t/\t { nx:=λ_ H'=>Q .non H',rt:=Q } (start N vs) H) :
  WH P w K mg base CX (k+1) f (PySem.W.fnOf name qual params body scope dV kV doc pm an cdv ct) ps sp:=by
 refine⟨len,λA outer s H args us vs Q E hr e0 hb r hsp=>?_⟩;have KX:K.In s.heap:=e0.mod.kin.keeps λb o e=>(e0.bs b o e).1;have lim:s.heap.NoLimit:=e0.mod.nolimit.keeps λb o e=>(e0.bs b o e).1;have hkind:∀y∈ps.zip us,scope.names.lookup y.1=some .local\/(scope.names.lookup y.1=some .cell/\((cellsFrom (s.heap.objs.size+1) scope.names []).lookup y.1).isSome=true):=λ⟨n,v⟩ hy=>by
  rcases S.par n (Cu hy).1 with q|q
  ·exact .inl q
  ·exact .inr ⟨q,DQ _ _ _<|.inl q⟩
 refine codeAny_call_function hr.depth (KX _ _ lk) rfl S.co S.gen rfl (PySem.W.codeRec_of KX hcd)<|hb _ _ _ _<|wpAny_newFunctionEnv_cells S.kind hkind λenv he s1 x=>?_;subst he;refine⟨lim.keeps x.toInCall.keep,codeAny_func ?_⟩;obtain⟨t,ht,hq⟩:=hbody A outer s H vs Q E (hr.deeper _) hsp;have I:Inv (vz CX P w K mg base N qual scope f cdv A outer s H E) [] (start N vs) H s1:=ED S hr.hd e0 (len _ _ _ _ hsp) r x;refine Ay (ht [] s1 (start N vs) H _ I hq) (λfl s' hs=>?_) λe s' hs=>hs;have fin:∀{σ':St}{H':Hp}{v:V}{u:Sh},Inv (vz CX P w K mg base N qual scope f cdv A outer s H E) [] σ' H' s'->RelV v u->Q v H'->CE outer P w H s Q u s' :=
  λ{σ' H' v u} J rv q=>⟨v,H',J.os,J.bare,J.base,J.hok,rv,q⟩
 cases fl with
 |ret u=>
  obtain⟨v,σ',H',J,rv,q⟩:=hs;exact fin J rv q
 |next=>
  obtain⟨σ',H',J,q⟩:=hs;exact fin (v:=V.non) (u:=Value.none) J rfl q
 |brk=>
  obtain⟨_,_,_,q⟩:=hs;exact False.elim q
 |cont=>
  obtain⟨_,_,_,q⟩:=hs;exact False.elim q
section
variable {X:Cx}{x:Str}{p pos:Pos}{e:Expr}{es:Se Expr}{t:TA}{id T:String}{r:Se V->Hp->VK->Prop}
def Ui(r:Se V->Hp->VK->Prop)(t:TA):TE:=λσ H Q=>t σ H λvs H1=>r vs H1 Q
def aW(hc:V9 X (.builtin id) r)(hg:Gl X x)(hm:X.mg x=none)(hv:bootBuiltins x=some (.builtin id))(ha:PA X (e::es) t)(hn:x≠"__name__":=by decide)(hdb:(x == ("__debug__":Str))=false:=by decide)
  (he:starEach (e::es) X.env=(false,eval e X.env)::starEach es X.env:=by rfl) (hpl:(backTo pos<|starEach es X.env).any (·.1)=false:=by rfl):PE X (.Call (.Name x p) (e::es) [] pos) (Ui r t):=by
 walk_at "9";exact BR<|lX I hg hm hv (PyProof.Rows.callWith_builtin1 (SM (ha pos VU s σ H _ I h) λus s1 ⟨vs,H1,I1,r1,q1⟩=>hc VU s1 σ H1 vs us Q I1 r1 q1) he hpl) hn hdb
def eI(hc:V9 X (.type T) r)(hg:Gl X x)(hm:X.mg x=none)(hv:bootBuiltins x=some (.type T))(ha:PA X (e::es) t)(hn:x≠"__name__":=by decide)(hdb:(x == ("__debug__":Str))=false:=by decide)
  (he:starEach (e::es) X.env=(false,eval e X.env)::starEach es X.env:=by rfl) (hpl:(backTo pos<|starEach es X.env).any (·.1)=false:=by rfl):PE X (.Call (.Name x p) (e::es) [] pos) (Ui r t):=by
 walk_at "9";exact BR<|lX I hg hm hv (Be (SM (ha pos VU s σ H _ I h) λus s1 ⟨vs,H1,I1,r1,q1⟩=>hc VU s1 σ H1 vs us Q I1 r1 q1) he hpl) hn hdb
end
section
variable {κ:Type}[DecidableEq κ]
def lK(VV:Se (κ×V))(k:κ):Sf V:=(VV.find? λkv=>decide<|kv.1=k).map (·.2)
def putK(VV:Se (κ×V))(k:κ)(v:V):Se (κ×V) :=
 if (VV.any λkv=>decide<|kv.1=k)=true then VV.map (λkv=>if kv.1=k then(kv.1,v) else kv) else VV++[(k,v)]
def mS{p:κ×V}{r:Se (κ×V)}{k:κ}(e:p.1=k):lK (p::r) k=some p.2:=by simp[lK,AM,e]
def mT{p:κ×V}{r:Se (κ×V)}{k:κ}(e:¬ p.1=k):lK (p::r) k=lK r k:=by simp[lK,AM,e]
theorem vB(k:κ):∀VV:Se (κ×V),(VV.any λkv=>decide<|kv.1=k)=(lK VV k).isSome
 |[]=>rfl
 | p::r=>by
  rw[BI];by_cases e:p.1=k
  ·simp only[mS e,Af e,Bool.true_or,Option.isSome_some]
  ·rw[mT e,Ae e,Bool.false_or];exact vB k r
def oy(VV:Se (κ×V))(k:κ)(v:V):(putK VV k v).length<=VV.length+1:=by
 unfold putK;split
 ·rw[Ya];lia
 ·rw[Xa,Wc,Vg];lia
theorem WV.isSome_eq{o:Sf V}{u:Sf Sh}(r:WV o u):o.isSome=u.isSome:=by
 cases o with
 | none=>cases u with|none=>rfl|some _=>exact(show False from r).elim
 | some _=>cases u with|none=>exact(show False from r).elim|some _=>rfl
theorem KV.val{VV:Se (κ×V)}{vs:Se (κ×Sh)}(r:KV VV vs)(k:κ):WV (lK VV k) (valueAt vs k):=by
 unfold KV at r;induction r with
 |nil=>exact True.intro
 |@cons p q ps qs h t ih=>
  obtain⟨h1,h2⟩:=h;by_cases e:p.1=k
  ·have e':q.1=k:=h1.symm.trans e;have b:valueAt (q::qs) k=some q.2:=by simp[valueAt,AM,e']
   rw[mS e,b];exact h2
  ·have e':¬ q.1=k:=λz=>e<|h1.trans z;have b:valueAt (q::qs) k=valueAt qs k:=by simp[valueAt,AM,e']
   rw[mT e,b];exact ih
theorem KV.any{VV:Se (κ×V)}{vs:Se (κ×Sh)}(r:KV VV vs)(k:κ):(VV.any λkv=>decide<|kv.1=k)=vs.any λkv=>decide (kv.1=k):=by
 unfold KV at r;induction r with|nil=>rfl|cons h t ih=>rw[BI,BI,ih,h.1]
def KV.repl{VV:Se (κ×V)}{vs:Se (κ×Sh)}(r:KV VV vs)(k:κ)(ry:RelV y u) :
  KV (VV.map λkv=>if kv.1=k then(kv.1,y) else kv) (vs.map λkv=>if kv.1=k then(kv.1,u) else kv):=by
 unfold KV at r ⊢;induction r with
 |nil=>exact .nil
 |@cons p q ps qs h t ih=>
  rw[Wh,Wh];refine .cons ?_ ih;obtain⟨h1,h2⟩:=h;by_cases e:p.1=k
  ·rw[Ag e,Ag<|h1.symm.trans e];exact⟨h1,ry⟩
  ·rw[Ak e,Ak<|λz=>e<|h1.trans z];exact⟨h1,h2⟩
def KV.put(r:KV VV vs)(k:κ)(ry:RelV y u):KV (putK VV k y) (stored vs k u):=by
 unfold putK stored;rw[r.any k];by_cases e:(vs.any λkv=>decide<|kv.1=k)=true
 ·rw[Ag e,Ag e];exact r.repl k ry
 ·rw[Ak e,Ak e];exact Paired.snoc r ⟨rfl,ry⟩
theorem KV.length{VV:Se (κ×V)}{vs:Se (κ×Sh)}(r:KV VV vs):VV.length=vs.length:=Paired.length r
end
theorem yF(r:RelV (kV k) u):(cQ P w).is k u=true:=by
 cases k with
 |inl i=>obtain⟨t,e⟩:=(show ∃t,u=Value.int i t from r);subst e;exact vt P w i t
 |inr x=>obtain⟨t,e⟩:=(show ∃t,u=Value.str x t from r);subst e;exact vx P w x t
theorem se:∀{ks:Se Key}{us:Se Sh},V0 (ks.map kV) us->ItemsAre (cQ P w) ks us
 |[],_,r=>by rw[C9]at r;cases r;exact .nil
 | k::ks,_,r=>by
  rw[Wh]at r;cases r with|cons h t=>exact .cons (yF h)<|se t
abbrev KT(H:Hp):List (List Key×V)->List (List Key×Addr×Value)->Prop:=Paired λp q=>p.1=q.1/\H q.2.1=some (.tup<|p.1.map kV)/\RelV p.2 q.2.2
theorem KT.val{VV:Se (Se Key×V)}{xs:Se (Se Key×Sk×Sh)}(r:KT H VV xs)(k:Se Key):WV (lK VV k) ((atKey xs k).map (·.2)):=by
 induction r with
 |nil=>exact True.intro
 |@cons p q ps qs h t ih=>
  obtain⟨h1,_,h2⟩:=h;by_cases e:p.1=k
  ·have e':q.1=k:=h1.symm.trans e;have b:atKey (q::qs) k=some q.2:=by simp[atKey,AM,e']
   rw[mS e,b];exact h2
  ·have e':¬ q.1=k:=λz=>e<|h1.trans z;have b:atKey (q::qs) k=atKey qs k:=by simp[atKey,AM,e']
   rw[mT e,b];exact ih
def KT.repl{VV:Se (Se Key×V)}{xs:Se (Se Key×Sk×Sh)}(r:KT H VV xs)(k:Se Key)(ry:RelV y u) :
  KT H (VV.map λkv=>if kv.1=k then(kv.1,y) else kv) (xs.map<|putAt k u):=by
 induction r with
 |nil=>exact .nil
 |@cons p q ps qs h t ih=>
  rw[Wh,Wh];refine .cons ?_ ih;obtain⟨h1,h2,h3⟩:=h;unfold putAt;by_cases e:p.1=k
  ·rw[Ag e,Ag<|h1.symm.trans e];exact⟨h1,h2,ry⟩
  ·rw[Ak e,Ak<|λz=>e<|h1.trans z];exact⟨h1,h2,h3⟩
def KT.put(r:KT H VV xs)(k:Se Key)(hb:H b=some (.tup<|k.map kV))(ry:RelV y u) :
  KT H (putK VV k y) (storedH xs k b u):=by
 have e:(VV.any λkv=>decide<|kv.1=k)=(atKey xs k).isSome:=by
  rw[vB,(r.val k).isSome_eq,C4]
 unfold putK storedH;rw[e];by_cases q:(atKey xs k).isSome=true
 ·rw[Ag q,Ag q];exact r.repl k ry
 ·rw[Ak q,Ak q];exact Paired.snoc r ⟨rfl,hb,ry⟩
def KT.keeps(r:KT H VV xs)(ht:∀b ys,H b=some (.tup ys)->H' b=some (.tup ys)):KT H' VV xs :=
 Paired.mapP r λ_ _ z=>⟨z.1,ht _ _ z.2.1,z.2.2⟩
section
variable {h:Sv}
def My(ok:HOk P w H h)(e:Rd H a u):V3 P w H h a u:=e.ok ok
def yG{VV:Se (Key×V)}(ok:HOk P w H h)(e:Rd H a (.dK VV)):VV.length<=sizeLine/\(a == sysModules)=false/\∃vs,KV VV vs/\h.DictOf (cQ P w) a vs :=
 show V3 P w H h a (.dK VV) from My ok e
def Qp{VV:Se (Key×V)}(ok:HOk P w H h)(e:H a=some (.dK VV)):VV.length<=sizeLine/\(a == sysModules)=false/\∃vs,KV VV vs/\h.DictOf (cQ P w) a vs:=yG ok<|.inl e
def qa{ks:Se Key}(ok:HOk P w H h)(e:H a=some (.tup<|ks.map kV)):(tupleKind<|cQ P w).is h ks a:=by
 obtain⟨_,its,r,o,h1,h2,n,h3⟩:=(show V3 P w H h a (.tup<|ks.map kV) from ok a _ e);exact⟨o,its.toArray,n,h1,h2,h3,by simpa using se r⟩
def Gn{VV:Se (Se Key×V)}(ok:HOk P w H h)(e:Rd H a (.dT ep VV)):VV.length<=sizeLine/\(a == sysModules)=false /\
  ∃xs,KT H VV xs/\h.DictOfH (tupleKind<|cQ P w) a xs:=by
 obtain⟨z,y,xs,r,_,o,es,h1,h2,h3,h4,h5⟩:=(show V3 P w H h a (.dT ep VV) from My ok e);refine⟨z,y,xs,r,o,es,ep.1,h1,h2,h3,h4,λx hx=>?_,h5⟩;have all:∀{l:Se (Se Key×V)}{m:Se (Se Key×Sk×Sh)},KT H l m->∀x∈m,(tupleKind<|cQ P w).is h x.1 x.2.1:=by
  intro l m q;induction q with
  |nil=>intro x hx;exact nomatch hx
  |@cons p q ps qs hq t ih=>
   intro x hx;rcases Vc.mp hx with e|hx
   ·subst e;exact qa ok (by rw[<-hq.1];exact hq.2.1)
   ·exact ih x hx
 exact all r x hx
end
section
variable {h:Sv}
def Qq{VV:Se (Se Key×V)}(ok:HOk P w H h)(e:H a=some (.dT ep VV)):VV.length<=sizeLine/\(a == sysModules)=false /\
  ∃xs,KT H VV xs/\xs.map (·.2.1)=ep.2/\h.DictOfH (tupleKind<|cQ P w) a xs:=by
 obtain⟨z,y,xs,r,ra,o,es,h1,h2,h3,h4,h5⟩:=(show V3 P w H h a (.dT ep VV) from ok a _ e);refine⟨z,y,xs,r,ra,o,es,ep.1,h1,h2,h3,h4,λx hx=>?_,h5⟩;have all:∀{l:Se (Se Key×V)}{m:Se (Se Key×Sk×Sh)},KT H l m->∀x∈m,(tupleKind<|cQ P w).is h x.1 x.2.1:=λ{l m} q=>by
  induction q with
  |nil=>exact λx hx=>nomatch hx
  |cons hq t ih=>
   intro x hx;rcases Vc.mp hx with e'|hx
   ·subst e';exact qa ok (by rw[<-hq.1];exact hq.2.1)
   ·exact ih x hx
 exact all r x hx
end
def WR(H:Hp)(a:Sk)(y:V)(r:Sf V):Prop :=
 (∃VV k,Rd H a (.dK VV)/\y=kV k/\r=lK VV k)\/∃ep VV k b,Rd H a (.dT ep VV)/\y=.ref b/\H b=some (.tup<|k.map kV)/\r=lK VV k
def EE(as:Se Sk)(VV:Se (Se Key×V))(k:Se Key)(b:Sk):Se Sk:=if (lK VV k).isSome=true then as else as++[b]
def Qr(H:Hp)(a:Sk)(y v:V)(R:Hp->Prop):Prop :=
 (∃VV k,H a=some (.dK VV)/\y=kV k/\VV.length<sizeLine/\R (upd H a<|.dK<|putK VV k v)) \/
 ∃ep VV k b,H a=some (.dT ep VV)/\y=.ref b/\H b=some (.tup<|k.map kV)/\VV.length<sizeLine/\∀n,R<|upd H a<|.dT (n,EE ep.2 VV k b)<|putK VV k v
theorem WR.k{a:Sk}{VV:Se (Key×V)}{k:Key}(e:H a=some (.dK VV)):WR H a (kV k) (lK VV k):=.inl ⟨VV,k,.inl e,rfl,rfl⟩
def WR.t{k:Se Key}(e:H a=some (.dT ep VV))(eb:H b=some (.tup<|k.map kV)):WR H a (.ref b) (lK VV k):=.inr ⟨ep,VV,k,b,.inl e,rfl,eb,rfl⟩
def Nz{xs:Se (Se Key×Sk×Sh)}(ra:xs.map (·.2.1)=as)(rel:KT H VV xs):(storedH xs k b u).map (·.2.1)=EE as VV k b:=by
 have e:(lK VV k).isSome=(atKey xs k).isSome:=by rw[(rel.val k).isSome_eq,C4]
 unfold storedH EE;rw[e];by_cases q:(atKey xs k).isSome=true
 ·rw[Ag q,Ag q,<-ra,Zf];refine Qj λx _=>?_;show(putAt k u x).2.1=x.2.1;unfold putAt;split<;>rfl
 ·rw[Ak q,Ak q,Yc,ra];rfl
section
variable {X:Cx}{s:Si}{o:Sf V}{A:Around}
def Inv.big(I:Inv X VU σ H s):sysModules<s.heap.objs.size:=by
 have h:mainGlobals<s.heap.objs.size:=(I.mod.glob.keeps I.bk).lt;exact Cj (by decide) h
def EF(hu:A.units+1<cLine)(I:Inv X VU σ H s)(g:WR H a y (some v))(ry:RelV y u)(h:∀w' s',Inv X VU σ H s'->RelV v w'->Q w' s') :
  wpAny (model X.prog X.w) A (getItem (.ref a) u) Q E s:=by
 rcases g with⟨VV,k,e,ey,l⟩|⟨ep,VV,k,b,e,ey,eb,l⟩
 ·subst ey;obtain⟨z,hd,vs,rel,dd⟩:=yG I.hok e;obtain⟨w',hw,rw'⟩:=WV.some_of (v:=v) (o:=valueAt vs k) (by rw[l];exact rel.val k)
  exact wpAny_getItem_of (yF ry) dd.mapOf hw<|h w' _ (I.tok _) rw'
 ·subst ey;cases (show u=Value.ref b from ry);obtain⟨z,hd,xs,rel,dd⟩:=Gn I.hok e;obtain⟨w',hw,rw'⟩:=WV.some_of (v:=v) (o:=(atKey xs k).map (·.2)) (by rw[l];exact rel.val k)
  obtain⟨p,hp,hp2⟩:=Wd.mp hw;refine wpAny_getItem_heap (CS hu) (qa I.hok eb) dd hp ?_;rw[hp2];exact h w' _ (I.tok _) rw'
def Kk(hu:A.units+1<cLine)(I:Inv X VU σ H s)(g:WR H a y o)(ry:RelV y u)(h:∀s',Inv X VU σ H s'->Q (.bool<|!o.isSome) s') :
  wpAny (model X.prog X.w) A (compareOp .NotIn u<|.ref a) Q E s:=by
 rcases g with⟨VV,k,e,ey,l⟩|⟨ep,VV,k,b,e,ey,eb,l⟩
 ·subst ey;obtain⟨z,hd,vs,rel,dd⟩:=yG I.hok e;refine wpAny_notIn_of (yF ry) hd dd.mapOf ?_;rw[<-(rel.val k).isSome_eq,<-l];exact h _<|I.tok _
 ·subst ey;cases (show u=Value.ref b from ry);obtain⟨z,hd,xs,rel,dd⟩:=Gn I.hok e;refine wpAny_notIn_heap (CS hu) (qa I.hok eb) hd dd ?_;have q:=(rel.val k).isSome_eq;rw[C4]at q;rw[<-q,<-l];exact h _<|I.tok _
def yH{h':Sv}{t':Nat}(I:Inv X VU σ H s)(mu:UF (H a))(hs:Heap.SameBut a s.heap h')(he:∃q,h'.get? a=some q)(new:V3 X.prog X.w (upd H a ob) h' a ob) :
  Inv X VU σ (upd H a ob) { s with heap:=h',toks:=t' } :=
 I.write (x:=a) (e:=a) mu (.inl rfl) (λb q hb z=>(hs.2 b hb).trans z) he new
def NA{h':Sv}{VV:Se (Key×V)}(z:VV.length<=sizeLine)(hd:(a == sysModules)=false)(rel:KV VV vs)(dd:h'.DictOf (cQ P w) a vs) :
  V3 P w H' h' a (.dK VV):=⟨z,hd,vs,rel,dd⟩
def EG{R:Hp->Prop}{Q:Unit->Si->Prop}(hu:A.units+1<cLine)(I:Inv X VU σ H s)(g:Qr H a y v R)(ry:RelV y u)(rv:RelV v r)(h:∀s' H',Inv X VU σ H' s'->R H'->Q () s') :
  wpAny (model X.prog X.w) A (setItem (.ref a) u r) Q E s:=by
 rcases g with⟨VV,k,e,ey,l,eH⟩|⟨ep,VV,k,b,e,ey,eb,l,eH⟩
 ·subst ey;obtain⟨z,hd,vs,rel,dd⟩:=Qp I.hok e;have hz:vs.length<=sizeLine:=by rw[<-rel.length];exact z
  have hl:(putK VV k v).length<=sizeLine:=by have:=oy VV k v;lia
  refine wpAny_setItem_pairs (hsz:=hz) (yF ry) dd λh' dd' hs=>h _ _ ?_ eH;have he:∃q,h'.get? a=some q:=let⟨q,_,_,hq,_⟩:=dd';⟨q,hq⟩;exact yH I (by rw[e];exact True.intro) hs he<|NA hl hd (rel.put k rv) dd'
 ·subst ey;cases (show u=Value.ref b from ry);obtain⟨z,hd,xs,rel,ra0,dd⟩:=Qq I.hok e;have hz:xs.length<=sizeLine:=by rw[<-Paired.length rel];exact z
  have hl:(putK VV k v).length<=sizeLine:=by have:=oy VV k v;lia
  have ra:xs.map (·.2.1)=ep.2:=ra0;refine wpAny_setItem_heap (hsz:=hz) (CS hu) (qa I.hok eb) dd λh' dd' hs=>?_;obtain⟨q,es,ep',hq,h2,h3,h4,_,h5⟩:=dd';refine h _ _ ?_<|eH ep';refine yH I (by rw[e];exact True.intro) hs ⟨q,hq⟩ ⟨hl,hd,_,(rel.put k eb rv).keeps λc ys ec=>?_,Nz ra rel,q,es,hq,h2,h3,h4,h5⟩
  rw[aV<|PZ ec e (λz=>nomatch z)];exact ec
end
def NB(i:Expr):Prop:=∀ov iv,subscripted i false ov iv=operate [ov,iv] (getItem ov iv)
def Kl{A:Around}{E:Sh->Si->Prop}{T id:String}{Q:Sh->Si->Prop}
  (hl:typeLookup (.type T) "__getitem__"=pure (some<|.builtin id))(hs:NB slice)
  (h:wpAny (model prog w) A (eval value env) (λo s₁=>wpAny (model prog w) A (eval slice env) (λi s₂=>s₂.TypeIs o T/\wpAny (model prog w) A (getItem o i) Q E s₂) E s₁) E s) :
  wpAny (model prog w) A (eval (.Subscript value slice pos) env) Q E s:=by
 refine Subscript_<|Ay h (λo s₁ h₁=>Ay h₁ (λi s₂ h₂=>?_) λ_ _ x=>x) λ_ _ x=>x;obtain⟨hT,h₂⟩:=h₂;unfold subscriptTail;refine Aa ?_;rw[getitemInPython_of_ne hT.not_modules];refine Aa<|Co hT hl ?_;have fin:wpAny (model prog w) A (subscripted slice false o i) (λr s₃=>wpAny (model prog w) A (letTemporaryGo value o r >>= λ_=>pure r) Q E s₃) E s₂:=by
  rw[hs o i];exact wpAny_operating<|Ay h₂ (λr s₃ h₃=>Aa<|wpAny_letTemporaryGo<|Ad h₃) λ_ _ x=>x
 first
  | exact Ad<|Aa fin
  | exact Aa<|Ad<|Aa fin
  | exact Aa fin
def vC{s:Si}(I:Inv X VU σ H s)(g:WR H a y o):s.TypeIs (.ref a) "dict":=by
 rcases g with⟨VV,k,e,_,_⟩|⟨ep,VV,k,b,e,_,_,_⟩
 ·obtain⟨_,_,vs,_,dd⟩:=yG I.hok e;exact dd.typeIs
 ·obtain⟨_,_,xs,_,dd⟩:=Gn I.hok e;exact dd.typeIs
def Qs(td ty:TE):TE:=λσ H Q=>td σ H λx H1=>ty σ H1 λy H2=>∃a v,x=.ref a/\WR H2 a y (some v)/\Q v H2
section
variable {X:Cx}{pos pos' tpos:Pos}
def Km(hu:X.A.units+1<cLine)(ho:PE X o td)(hi:PE X i ty)(hs:NB i):PE X (.Subscript o i pos) (Qs td ty):=by
 walk_at "9";refine Kl PySem.F.slot_dict_getitem.lookup hs<|SM (ho VU s σ H _ I h) λu s1 ⟨x,H1,I1,rx,q1⟩=>SM (hi VU s1 σ H1 _ I1 q1) λiv s2 zz9=>?_;obtain⟨y,H2,I2,ry,a,v,ex,g,q2⟩:=zz9;subst ex;obtain rfl:u=Value.ref a:=rx;exact⟨vC I2 g,EF hu I2 g ry λw' s3 I3 rw'=>⟨v,H2,I3,rw',q2⟩⟩
end
def Gp(h:Sv)(hb:sysModules<h.objs.size):V3 P w H (h.push { cls:=.type "dict",data:=.dict #[] }) h.objs.size (.dK []) :=
 ⟨Vh _,beq_eq_false_iff_ne.mpr<|Az<|Zh hb,[],.nil,Heap.DictOf.new h⟩
def Gq(h:Sv)(hb:sysModules<h.objs.size):V3 P w H (h.push { cls:=.type "dict",data:=.dict #[] }) h.objs.size (.dT (0,[]) []) :=
 ⟨Vh _,beq_eq_false_iff_ne.mpr<|Az<|Zh hb,[],.nil,rfl,_,#[],Ah _ rfl,⟨rfl,rfl,rfl⟩,rfl,rfl,Bu⟩
def Gr:TE:=λ_ H Q=>∀p,H p=none->Q (.ref p) (upd H p<|.dK [])
def Gs:TE:=λ_ H Q=>∀p,H p=none->Q (.ref p) (upd H p<|.dT (0,[]) [])
section
def vD:PE X (.Dict [] [] pos) Gr:=λVU s σ H Q I h=>
 wpAny_Dict_empty ⟨.ref s.heap.objs.size,_,I.laid (a:=s.heap.objs.size) (o:=.dK []) (t':=s.toks) (λ_ _ q=>Ac _ q) (Qa _)<|Gp s.heap I.big,rfl,h _<|I.hok.fresh<|Qa _⟩
def vE:PE X (.Dict [] [] pos) Gs:=λVU s σ H Q I h=>
 wpAny_Dict_empty ⟨.ref s.heap.objs.size,_,I.laid (a:=s.heap.objs.size) (o:=.dT (0,[]) []) (t':=s.toks) (λ_ _ q=>Ac _ q) (Qa _)<|Gq s.heap I.big,rfl,h _<|I.hok.fresh<|Qa _⟩
end
end L2
namespace HT
open PySem PyProof.Rows
def rcLt_int(A:Around)(s:Si)(a:Int)(t:Tok)(c:Int)(u:Tok)(prog:Su)(w:Sx)(E:Sh->Si->Prop)(Q:Sh->Si->Prop)(h:Q (.bool<|decide<|a<c) s) :
  wpAny (model prog w) A (richCompare .Lt (.int a t)<|.int c u) Q E s :=
 (PyProof.Rows.lt_int h:wpAny (model prog w) A (compareOp .Lt (.int a t)<|.int c u) Q E s)
section
variable {A:Around}{s:Si}
def cat_tup{vs ws:Se Sh}(ht:IsTup s.heap t vs.toArray)(hb:IsTup s.heap b ws.toArray)(hv:vs≠[])
  (h1:ws=[]->Q (.ref t) s)(h2:ws≠[]->Q (.ref s.heap.objs.size) { s with heap:=s.heap.push { cls:=.type "tuple",data:=.seq (vs++ws).toArray } })
  (hsz:vs.length+ws.length<=sizeLine):wpAny (model prog w) A (binaryOp .Add (.ref t)<|.ref b) Q E s:=by
 obtain⟨⟨cls,dd,data,sl⟩,ho,hc,n,hd⟩:=id ht;obtain⟨⟨cls2,dd2,data2,sl2⟩,ho2,hc2,n2,hd2⟩:=id hb;simp only at hc hd hc2 hd2;subst hc hd hc2 hd2;have e:vs.toArray++ws.toArray=(vs++ws).toArray:=by simp
 by_cases hw:ws=[]
 ·exact concat_meets ⟨_,ho,rfl⟩ ⟨_,ho2,rfl⟩ Df seq_tuple_add Cg Cb (B7 _ _)
   (tuple_addW1 t b vs.toArray ws.toArray n n2 dd dd2 sl sl2 (by simpa using hv)<|by simp[hw]) ⟨ho,ho2,h1 hw⟩
 ·refine concat_meets ⟨_,ho,rfl⟩ ⟨_,ho2,rfl⟩ Df seq_tuple_add Cg Cb (B7 _ _)
   (tuple_addW2 t b vs.toArray ws.toArray n n2 dd dd2 sl sl2 (by simpa using hv) (by simpa using hw) (by rw[Xc,Xc];exact hsz)) ⟨ho,ho2,?_⟩
  rw[e];exact h2 hw
def sIx(n d:Nat):Sf Int->Nat|none=>d|some v=>if v<0 then(v+(n:Int)).toNat else min v.toNat n
def sIx_none(n d:Nat):sIx n d none=d:=rfl
def sIx_nat(n d k:Nat):sIx n d (some (k:Int))=min k n:=by
 show(if (k:Int)<0 then((k:Int)+(n:Int)).toNat else min (k:Int).toNat n)=min k n;rw[Ak<|by lia,Bg]
theorem NC(n d:Nat)(hd:d<=n)(o:Sf Int):sIx n d o<=n:=by
 cases o with
 |none=>exact hd
 |some v=>
  show(if v<0 then(v+(n:Int)).toNat else min v.toNat n)<=n;by_cases hv:v<0
  ·rw[Ag hv];lia
  ·rw[Ak hv];exact Dl _ _
def clip_nat(v:Int)(n:Nat)(hv:¬ v<0):min v (n:Int)=((min v.toNat n:Nat):Int):=by
 obtain⟨k,rfl⟩:=DP<|Int.not_lt.mp hv;rw[Bg];rcases Nat.le_total k n with h|h
 ·rw[Ba h];exact Int.min_eq_left<|Int.ofNat_le.mpr h
 ·rw[Dm h];exact Int.min_eq_right<|Int.ofNat_le.mpr h
def yI(v:Int)(n d:Nat):(if v<0 then max (v+(n:Int)) 0 else min v (n:Int))=((sIx n d (some v):Nat):Int):=by
 show(if v<0 then max (v+(n:Int)) 0 else min v (n:Int))=(((if v<0 then(v+(n:Int)).toNat else min v.toNat n):Nat):Int);by_cases hv:v<0
 ·rw[Ag hv,Ag hv];exact(Int.ofNat_toNat _).symm
 ·rw[Ak hv,Ak hv];exact clip_nat v n hv
def xq(lo hi:Sf Int)(n:Nat):Builtin.Slice.sliceAdjust lo hi 1 (n:Int)=(((sIx n 0 lo:Nat):Int),((sIx n n hi:Nat):Int)):=by
 have h1:¬ ((1:Int)<0):=by lia
 unfold Builtin.Slice.sliceAdjust;simp only[h1,if_false];refine Prod.ext ?_ ?_
 ·cases lo with|none=>rfl|some v=>exact yI v n 0
 ·cases hi with|none=>rfl|some v=>exact yI v n n
def xt(i j:Nat):Builtin.Slice.slicePlaces (i:Int) (j:Int) 1=j-i:=by
 unfold Builtin.Slice.slicePlaces;have h1:(1:Int) > 0:=by lia
 simp only[h1,if_true,Int.ediv_one];split<;>lia
theorem qb(p:IsPart v o)(h:Q o s):wpAny (model prog w) A (Builtin.Slice.slicePartIndex v) Q E s:=by
 cases p with|none=>exact slicePart_none h|int i t=>exact slicePart_int h
def iU{sl:Sk}{vl vu:Sh}{lo hi:Sf Int}{n:Nat}{Q:Int×Int×Nat->Si->Prop}(hs:s.heap.IsSliceOf sl vl vu .none)(pl:IsPart vl lo)(pu:IsPart vu hi)
  (h:Q (((sIx n 0 lo:Nat):Int),1,sIx n n hi-sIx n 0 lo) s):wpAny (model prog w) A (Builtin.Slice.sliceApplied (.ref sl)<|pure (n:Int)) Q E s:=by
 obtain⟨os,hos,hcs,hds⟩:=id hs;unfold Builtin.Slice.sliceApplied Builtin.Slice.sliceFields;refine Aa<|Aa<|As hos hds (x:=vl) rfl<|Aa<|As hos hds (x:=vu) rfl<|Aa<|As hos hds (x:=.none) rfl<|Ad<|Aa<|slicePart_none ?_;show wpAny _ _ (if ((1:Int) == 0)=true then _ else _) _ _ s;rw[Ak<|by decide]
 refine Aa<|qb pl<|Aa<|qb pu<|Aa<|Ad ?_;show wpAny _ _ (match Builtin.Slice.sliceAdjust lo hi 1 (n:Int) with|(lo,hi)=>pure (lo,(1:Int),Builtin.Slice.slicePlaces lo hi 1)) _ _ s
 rw[xq lo hi n];show wpAny _ _ (pure (((sIx n 0 lo:Nat):Int),(1:Int),Builtin.Slice.slicePlaces ((sIx n 0 lo:Nat):Int) ((sIx n n hi:Nat):Int) 1)) _ _ s;rw[xt];exact Ad h
def Gu(xs:Sj Sh)(i k:Nat):((List.range k).filterMap λ(m:Nat)=>xs[((i:Int)+(m:Int)*1).toNat]?).toArray=((xs.toList.drop i).take k).toArray:=by
 have e:(λ(m:Nat)=>xs[((i:Int)+(m:Int)*1).toNat]?)=λm=>xs[i+m]?:=by
  funext m
  have:((i:Int)+(m:Int)*1).toNat=i+m:=by lia
  rw[this]
 rw[e];have:=pick_run xs i k;rw[List.filterMap_map]at this;have e2:((λx=>xs[x]?) ∘ λx=>i+x)=λm=>xs[i+m]?:=rfl;rw[e2]at this;rw[this]
def getItem_tuple_cut{t sl:Sk}{items:Sj Sh}{vl vu:Sh}{lo hi:Sf Int}{Q:Sh->Si->Prop}(ht:IsTup s.heap t items)(hs:s.heap.IsSliceOf sl vl vu .none)(pl:IsPart vl lo)(pu:IsPart vu hi)
  (hw:¬ (sIx items.size 0 lo=0/\sIx items.size items.size hi=items.size))
  (h:Q (.ref s.heap.objs.size) { s with heap:=s.heap.push { cls:=.type "tuple",data:=.seq ((items.toList.drop<|sIx items.size 0 lo).take (sIx items.size items.size hi-sIx items.size 0 lo)).toArray } })
  (hsz:items.size<=sizeLine):wpAny (model prog w) A (getItem (.ref t)<|.ref sl) Q E s:=by
 have htake:sizeOk (.seq ((items.toList.drop<|sIx items.size 0 lo).take (sIx items.size items.size hi-sIx items.size 0 lo)).toArray):=by
  show((items.toList.drop<|sIx items.size 0 lo).take (sIx items.size items.size hi-sIx items.size 0 lo)).toArray.size<=sizeLine;rw[Xc,Xm,Xi,Zd];exact Ve (Dl _ _)<|Ve (Nat.sub_le _ _) hsz
 have hj:sIx items.size items.size hi<=items.size:=NC _ _ (Qa _) hi;obtain⟨os,hos,hcs,hds⟩:=id hs;have hTs:s.TypeIs (.ref sl) "slice":=⟨os,hos,hcs⟩;unfold getItem
 try with_reducible refine AD ?_
 first|refine Aa (Ad ?_)|skip
 refine Aa<|wpAny_sequenceKey ht.typeIs (by decide) ?_
 refine Aa (Ap (name:=Str.ofString "__getitem__") ht.typeIs AT
  (Aq AT ht.typeIs entry_tuple_getitem ?_ (args_tuple_getitem _ _)))
 show wpAny _ _ (Builtin.Tuple.tupleItemsOf (.ref t) >>= _) _ _ s;refine Aa<|tupleItemsOf_ ht<|Aa<|Bk hTs ?_;rw[Ag<|by decide]
 refine Aa<|iU hs pl pu ?_;have hno:¬ ((((sIx items.size 0 lo:Nat):Int) == 0&&(1:Int) == 1&&(sIx items.size items.size hi-sIx items.size 0 lo) == items.size)=true):=by
  intro q;rw[Zj,Zj]at q;have q1:((sIx items.size 0 lo:Nat):Int)=0:=CL q.1.1;have q2:sIx items.size items.size hi-sIx items.size 0 lo=items.size:=CL q.2;exact hw ⟨by lia,by lia⟩
 show wpAny _ _ (if (((sIx items.size 0 lo:Nat):Int) == 0&&(1:Int) == 1&&(sIx items.size items.size hi-sIx items.size 0 lo) == items.size)=true then _ else _) _ _ s;rw[Ak hno,Gu]
 first
  | exact Aa (m:=Builtin.Tuple.tupleExact _)<|Ar (Ad ⟨_,rfl,Ad h⟩) htake
  | exact Aa (m:=Builtin.Tuple.tupleExact _)<|Ar (Aa<|Ad<|Ad ⟨_,rfl,Ad h⟩) htake
  | exact Aa<|Aa (m:=Builtin.Tuple.tupleExact _)<|Ar (Ad<|Ad ⟨_,rfl,Ad h⟩) htake
  | exact Aa<|Aa (m:=Builtin.Tuple.tupleExact _)<|Ar (Ad ⟨_,rfl,Ad h⟩) htake
end
end HT
namespace L2
open PySem PySem.Spec PyProof.Rows
abbrev TO:=St->Hp->(Option Int->Hp->Prop)->Prop
def PO(X:Cx)(e:Sf Expr)(t:TO):Prop :=
 ∀(VU:Se (Sk×Obj))(s:Si)(σ:St)(H:Hp)(Q:Sf Int->Hp->Prop),Inv X VU σ H s->t σ H Q->
  wpAny (model X.prog X.w) X.A (evalPart e X.env) (λu s'=>∃o H',Inv X VU σ H' s'/\IsPart u o/\Q o H') X.xe s
def yJ:TO:=λ_ H Q=>Q none H
def Mz(t:TE):TO:=λσ H Q=>t σ H λx H1=>∃i,x=.int i/\Q (some i) H1
section
variable {X:Cx}{e:Expr}{te:TE}{lo hi:Sf Expr}{tl th:TO}{pos p2:Pos}
def ii:PO X none yJ:=by
 walk_at "9";rw[evalPart_none];exact Ad ⟨none,H,I,.none,h⟩
def ik(h:PE X e te):PO X (some e) (Mz te):=by
 intro VU s σ H Q I hw;rw[evalPart_some];refine SM (h VU s σ H _ I hw) λu s1 zz9=>?_;walk_at "8";obtain⟨i,rfl,q⟩:=q1;obtain⟨t,rfl⟩:=r1;exact⟨some i,H1,I1,.int i t,q⟩
def Xp(X:Cx)(r:V->Sf Int->Sf Int->Hp->VK->Prop):Prop :=
 ∀(VU:Se (Sk×Obj))(s:Si)(σ:St)(H:Hp)(x:V)(v vl vu:Sh)(lo hi:Sf Int)(sl:Sk)(Q:VK),Inv X VU σ H s->RelV x v->s.heap.IsSliceOf sl vl vu .none->IsPart vl lo->IsPart vu hi->r x lo hi H Q->
  ∃T id,typeLookup (.type T) "__getitem__"=pure (some<|.builtin id)/\s.TypeIs v T/\wpAny (model X.prog X.w) X.A (getItem v<|.ref sl) (EP X VU σ Q) X.xe s
def Xp.or(h:Xp X r)(h':Xp X r'):Xp X (λx lo hi H Q=>r x lo hi H Q\/r' x lo hi H Q):=by
 intro VU s σ H x v vl vu lo hi sl Q I rx hs pl pu q;rcases q with q|q
 ·exact h VU s σ H x v vl vu lo hi sl Q I rx hs pl pu q
 ·exact h' VU s σ H x v vl vu lo hi sl Q I rx hs pl pu q
def Vu(r:V->Sf Int->Sf Int->Hp->VK->Prop)(te:TE)(tl th:TO):TE:=λσ H Q=>te σ H λx H1=>tl σ H1 λl H2=>th σ H2 λu H3=>r x l u H3 Q
def fN(hr:Xp X r)(he:PE X e te)(hl:PO X lo tl)(hu:PO X hi th):PE X (.Subscript e (.Slice lo hi none p2) pos) (Vu r te tl th):=by
 walk_at "9";refine Subscript_<|SM (he VU s σ H _ I h) λv s1 zz9=>?_;walk_at "8";refine wpAny_Slice<|SM (hl VU s1 σ H1 _ I1 q1) λvl s2 ⟨l,H2,I2,pl,q2⟩=>SM (hu VU s2 σ H2 _ I2 q2) λvu s3 zz9=>?_;obtain⟨u,H3,I3,pu,q3⟩:=zz9;rw[evalPart_none];refine Ad ?_;have I4:Inv X VU σ H3 { s3 with heap:=s3.heap.push { cls:=.type "slice",data:=.fields #[vl,vu,.none] } }:=I3.kept (t':=s3.toks) λb ob q=>Ac _ q;obtain⟨T,id,hT,ht,hg⟩:=hr VU { s3 with heap:=s3.heap.push { cls:=.type "slice",data:=.fields #[vl,vu,.none] } } σ H3 x v vl vu l u s3.heap.objs.size Q I4 r1 (Heap.IsSliceOf.new ..) pl pu q3;show wpAny (model X.prog X.w) X.A (subscriptTail e (.Slice lo hi none p2) v<|.ref s3.heap.objs.size) (EP X VU σ Q) X.xe { s3 with heap:=s3.heap.push { cls:=.type "slice",data:=.fields #[vl,vu,.none] } };exact tail_any (ops:=[.ref s3.heap.objs.size,v]) ht hT hg (by with_unfolding_all rfl)
def vF(xs:Se V)(lo hi:Sf Int):Se V:=(xs.drop<|HT.sIx xs.length 0 lo).take (HT.sIx xs.length xs.length hi-HT.sIx xs.length 0 lo)
def oz(xs:Se V)(lo hi:Sf Int):(vF xs lo hi).length<=xs.length:=by
 unfold vF;rw[Xm,Xi];lia
def ND(K:Ab):V->Sf Int->Sf Int->Hp->VK->Prop:=λx lo hi H Q=>∃a xs,x=.ref a/\S8 K H a xs /\
 ¬ (HT.sIx xs.length 0 lo=0/\HT.sIx xs.length xs.length hi=xs.length)/\∀p,H p=none->Q (.ref p) (upd H p<|.tup<|vF xs lo hi)
def NE:Xp X (ND X.K):=by
 walk_at "E";obtain⟨a,xs,rfl,hx,hw,q⟩:=h;cases rx;obtain⟨its,r,ht,hz⟩:=I.tuple hx;have hlen:its.toArray.size=xs.length:=by rw[Xc];exact r.length.symm
 refine⟨"tuple",_,AT.lookup,ht.typeIs,(HT.getItem_tuple_cut ht hs pl pu (by rw[hlen];exact hw) ?_ (by rw[hlen];exact hz))⟩
 rw[hlen];refine⟨.ref s.heap.objs.size,_,I.laid (t':=s.toks) (o:=.tup<|vF xs lo hi) (λb ob q=>Ac _ q) (Qa _) ?_,rfl,q _<|I.hok.fresh<|Qa _⟩;exact⟨Ve (oz xs lo hi) hz,_,(r.drop<|HT.sIx xs.length 0 lo).take (HT.sIx xs.length xs.length hi-HT.sIx xs.length 0 lo),IsTup.new _ _⟩
def Gv(K:Ab):R2:=λx y H Q=>∃a b xs ys,x=.ref a/\y=.ref b/\S8 K H a xs/\S8 K H b ys/\xs≠[]/\xs.length+ys.length<=sizeLine /\
 (ys=[]->Q (.ref a) H)/\(ys≠[]->∀p,H p=none->Q (.ref p) (upd H p<|.tup<|xs++ys))
theorem V0.nil_iff(r:V0 xs us):us=[]↔xs=[]:=by
 cases r with|nil=>simp|cons _ _=>simp
def Kn:Wx X (binaryOp .Add) (Gv X.K):=by
 walk_at "3";obtain⟨a,b,xs,ys,rfl,rfl,ha,hb,hx,hz,q1,q2⟩:=h;cases rx;cases ry;obtain⟨its,r1,p1,_⟩:=I.tuple ha;obtain⟨its2,r2,p2,_⟩:=I.tuple hb;refine HT.cat_tup p1 p2 (λz=>hx<|r1.nil_iff.mp z) (λz=>⟨.ref a,H,I,rfl,q1<|r2.nil_iff.mp z⟩) (λz=>(⟨.ref s.heap.objs.size,_,I.laid (t':=s.toks) (o:=.tup<|xs++ys) (λb ob q=>Ac _ q) (Qa _) ?_,rfl,q2 (λw=>z<|r2.nil_iff.mpr w) _<|I.hok.fresh<|Qa _⟩)) (by rw[<-r1.length,<-r2.length];exact hz)
 exact⟨by rw[Xa];exact hz,_,r1.append r2,IsTup.new _ _⟩
end
def T8(n:Nat)(i:Int):Sf Nat:=if 0<=i then(if i<n then some i.toNat else none) else if -(n:Int)<=i then some (i+n).toNat else none
def Tb{α:Type}(xs:Se α)(i:Int):Sf α:=(T8 xs.length i).bind λj=>xs[j]?
def yK(h:T8 n i=some j):seqIndex? i n=some j/\j<n/\-(n:Int)<=i/\i<n:=by
 unfold T8 at h;by_cases h0:0<=i
 ·rw[Ag h0]at h;by_cases h1:i<n
  ·rw[Ag h1]at h;have e:i.toNat=j:=Option.some.inj h;exact⟨by rw[Ds h0 h1,e],by lia,by lia,h1⟩
  ·rw[Ak h1]at h;cases h
 ·rw[Ak h0]at h;by_cases h1:-(n:Int)<=i
  ·rw[Ag h1]at h;have e:(i+n).toNat=j:=Option.some.inj h;exact⟨by rw[seqIndex_neg (by lia) h1,e],by lia,h1,by lia⟩
  ·rw[Ak h1]at h;cases h
theorem tL{xs:Se α}(h:Tb xs i=some v):∃j,seqIndex? i xs.length=some j/\xs[j]?=some v/\j<xs.length/\-(xs.length:Int)<=i/\i<xs.length:=by
 unfold Tb at h;cases e:T8 xs.length i with
 |none=>rw[e]at h;cases h
 |some j=>
  rw[e]at h;obtain⟨h1,h2,h3,h4⟩:=yK e;exact⟨j,h1,h,h2,h3,h4⟩
def im{α:Type}{xs:Se α}{j:Nat}{v:α}(h:xs[j]?=some v):Tb xs (j:Int)=some v:=by
 have hj:j<xs.length:=(Vb.mp h).1;have e:T8 xs.length (j:Int)=some j:=by
  unfold T8;rw[Ag<|by lia,Ag<|by lia];simp
 unfold Tb;rw[e];exact h
def yL(b:Expr):Prop:=∀o i,subscripted b false o i=operate [o,i] (getItem o i)
def XF(X:Cx)(r:R2):Prop :=
 ∀(value slice:Expr)(VU:Se (Sk×Obj))(s:Si)(σ:St)(H:Hp)(x y:V)(v u:Sh)(Q:VK),Inv X VU σ H s->RelV x v->RelV y u->r x y H Q->
  subscripted slice false v u=operate [v,u] (getItem v u)->wpAny (model X.prog X.w) X.A (subscriptTail value slice v u) (EP X VU σ Q) X.xe s
def UI(X:Cx)(id:String)(r:V->Se V->Hp->VK->Prop):Prop :=
 ∀(VU:Se (Sk×Obj))(s:Si)(σ:St)(H:Hp)(x:V)(xs:Se V)(v:Sh)(us:Se Sh)(Q:VK),Inv X VU σ H s->RelV x v->V0 xs us->r x xs H Q->
  wpAny (model X.prog X.w) X.A (call (.builtin id) (v::us)) (EP X VU σ Q) X.xe s
section
variable {X:Cx}{a b:Expr}{ta tb:TE}{pos:Pos}
def XF.or(h:XF X r)(h':XF X r'):XF X (λx y H Q=>r x y H Q\/r' x y H Q):=by
 intro value slice VU s σ H x y v u Q I rx ry q hs;rcases q with q|q
 ·exact h value slice VU s σ H x y v u Q I rx ry q hs
 ·exact h' value slice VU s σ H x y v u Q I rx ry q hs
def Qt(hr:XF X r)(ha:PE X a ta)(hb:PE X b tb)(hs:yL b):PE X (.Subscript a b pos) (TQ r ta tb):=by
 walk_at "9";exact Subscript_<|Nu ha hb I h λv u s2 x y H2 I2 rx ry q=>hr a b VU s2 σ H2 x y v u Q I2 rx ry q<|hs _ _
def NF(K:Ab):R2:=λx y H Q=>∃p xs i v,x=.ref p/\y=.int i/\SW K H p xs/\Tb xs i=some v/\Q v H
def NG(K:Ab):R2:=λx y H Q=>∃p xs i v,x=.ref p/\y=.int i/\S8 K H p xs/\Tb xs i=some v/\Q v H
def NH:R2:=λx y H Q=>∃z i c,x=.str z/\y=.int i/\z.length<=sizeLine/\Tb z.cps.toList i=some c/\Q (.str ⟨#[c]⟩) H
def XG:XF X (NF X.K):=by
 walk_at "I";obtain⟨p,xs,i,z,rfl,rfl,hq,he,q⟩:=h;cases rx;obtain⟨t,rfl⟩:=ry;walk_at "N";obtain⟨j,h1,h2,h3,h4,h5⟩:=tL he;obtain⟨w,ew,rw'⟩:=r.get h2;have hl:=r.length;have hn:=nO;have fin:EP X VU σ Q w s:=⟨z,H,I,rw',q⟩;by_cases h0:0<=i
 ·have hj:i.toNat=j:=by
   rw[Ds h0 h5]at h1;exact Option.some.inj h1
  exact item_listR pl.isList h0 (by lia) (by rw[hj];simpa using ew) fin hs
 ·have hj:(i+(its.toArray.size:Int)).toNat=j:=by
   rw[seqIndex_neg (by lia) h4]at h1
   rw[Xc,<-hl];exact Option.some.inj h1
  exact subscriptTail_builtinR (x:=w) pl.isList.typeIs slot_list_getitem.lookup
   (wpAny_getItem_list_neg (Q:=λr s'=>r=w/\EP X VU σ Q r s') pl.isList (by lia) (by rw[Xc]<;>lia) (by lia) (by rw[hj];simpa using ew) ⟨rfl,fin⟩) hs
def ix_tup:XF X (NG X.K):=by
 walk_at "I";obtain⟨p,xs,i,z,rfl,rfl,hq,he,q⟩:=h;cases rx;obtain⟨t,rfl⟩:=ry;obtain⟨its,r,pl,hz⟩:=I.tuple hq;obtain⟨j,h1,h2,h3,h4,h5⟩:=tL he;obtain⟨w,ew,rw'⟩:=r.get h2;have hl:=r.length;have hn:=nO;have fin:EP X VU σ Q w s:=⟨z,H,I,rw',q⟩;exact subscriptTail_builtinR (x:=w) pl.typeIs slot_tuple_getitem.lookup
  (getItem_tuple (j:=j) (Q:=λr s'=>r=w/\EP X VU σ Q r s') pl (by lia) (by lia) (by rw[Xc,<-hl];exact h1) (by simpa using ew) ⟨rfl,fin⟩) hs
def ix_str:XF X NH:=by
 walk_at "I";obtain⟨z,i,c,rfl,rfl,hz,he,q⟩:=h;walk_at "b";walk_at "t";obtain⟨j,h1,h2,h3,h4,h5⟩:=tL he;have hl:z.cps.toList.length=z.length:=by simp[Str.length]
 rw[hl]at h1 h4 h5;have hn:=nO
 exact tail_any (Dx s z t) slot_str_getitem.lookup (getItem_str (c:=c) (by
  have e1:decide (i < -(2 ^ 63:Int))=false:=Ae (by lia)
  have e2:decide (i ≥ 2 ^ 63)=false:=Ae (by lia)
  rw[e1,e2,Bool.or_false]) (by rw[h1];simpa using h2) ⟨.str ⟨#[c]⟩,H,I.tok _,⟨_,rfl⟩,q⟩) hs
def UT(K:Ab):R2:=λx y H Q=>NF K x y H Q\/NG K x y H Q\/NH x y H Q
def NI:XF X (UT X.K):=XG.or<|ix_tup.or ix_str
def xu(its:Se Sh)(n j:Nat)(u:Sh):Obj.mapSeq (·.setIfInBounds j u) { cls:=.type "list",data:=.seq its.toArray n }={ cls:=.type "list",data:=.seq (its.set j u).toArray n }:=by
 simp[Obj.mapSeq]
theorem Inv.lst{s:Si}(I:Inv X VU σ H s)(h:H p=some (.lst xs)) :
  ∃(its:Se Sh)(n:Nat),V0 xs its/\s.heap.get? p=some { cls:=.type "list",data:=.seq its.toArray n }/\xs.length<=sizeLine:=by
 obtain⟨z,its,n,r,e⟩:=I.hok p _ h;exact⟨its,n,r,e,z⟩
def Inv.lstUpd{s:Si}{xs ys:Se V}{its its':Se Sh}(I:Inv X VU σ H s)(h:H p=some (.lst xs))
  (ho:s.heap.get? p=some { cls:=.type "list",data:=.seq its.toArray n })(hf:f { cls:=.type "list",data:=.seq its.toArray n }={ cls:=.type "list",data:=.seq its'.toArray n' })(r:V0 ys its')(hz:ys.length<=sizeLine)(t:Nat) :
  Inv X VU σ (upd H p<|.lst ys) { s with heap:=s.heap.update p f,toks:=t }:=by
 have e:(s.heap.update p f).get? p=some { cls:=.type "list",data:=.seq its'.toArray n' }:=by
  rw[Bc f ho (by rw[hf]<;>rfl),hf]
 refine I.write (x:=p) (e:=p) (by rw[h];trivial) (.inl rfl) (λb u hb q=>(A7 _ _<|Az hb).trans q) ⟨_,e⟩ ?_
 exact⟨hz,its',n',r,e⟩
def MA:V->V->V->Hp->(Hp->Prop)->Prop:=λo i v H Q=>∃p xs k j,o=.ref p/\i=.int k/\H p=some (.lst xs)/\T8 xs.length k=some j/\Q (upd H p<|.lst<|xs.set j v)
def set_list:No X MA:=by
 intro VU s σ H o i v ov iv u Q I ro ri rv h;obtain⟨p,xs,k,j,rfl,rfl,hp,hj,q⟩:=h;cases ro;obtain⟨t,rfl⟩:=ri;obtain⟨its,n,r,ho,hz⟩:=I.lst hp;obtain⟨h1,h2,h3,h4⟩:=yK hj;have hl:=r.length;have hn:=nO;have I':Inv X VU σ (upd H p<|.lst<|xs.set j v) { s with heap:=s.heap.update p (Obj.mapSeq (·.setIfInBounds j u)) } :=
  I.lstUpd hp ho (xu its n j u) (r.set rv j) (by rw[List.length_set];exact hz) s.toks
 by_cases h0:0<=k
 ·have hk:k.toNat=j:=by
   rw[Ds h0 h4]at h1;exact Option.some.inj h1
  exact PySem.W.ki_setAt ho h0 (by lia) (by rw[Xc,<-hl];exact h4) (by rw[hk];exact⟨_,I',q⟩)
 ·have hk:(k+(its.toArray.size:Int)).toNat=j:=by
   rw[seqIndex_neg (by lia) h3]at h1
   rw[Xc,<-hl];exact Option.some.inj h1
  exact PySem.W.ki_setBack ho (by lia) (by rw[Xc,<-hl];exact h3) (by lia) (by rw[hk];exact⟨_,I',q⟩)
def Gw(i:Int)(n:Nat):max 0 (min (if i<0 then i+(n:Int) else i) (n:Int))=(((if i<0 then(i+(n:Int)).toNat else min i.toNat n):Nat):Int):=by
 by_cases h:i<0
 ·rw[Ag h,Ag h,Int.min_eq_left<|by lia,Int.max_comm];exact(Int.ofNat_toNat _).symm
 ·rw[Ak h,Ak h,HT.clip_nat i n h];exact Int.max_eq_right<|CW _
def tM(lo hi:Sf Int)(n:Nat):(sliceBounds lo hi none n).1=((HT.sIx n 0 lo:Nat):Int)/\(sliceBounds lo hi none n).2.1=((HT.sIx n n hi:Nat):Int)/\(sliceBounds lo hi none n).2.2=1:=by
 refine⟨?_,?_,rfl⟩
 ·cases lo with|none=>simp[sliceBounds,HT.sIx]|some i=>exact Gw i n
 ·cases hi with|none=>simp[sliceBounds,HT.sIx]|some i=>exact Gw i n
def rC(its:Se Sh)(lo hi:Sf Int):slicePick its.toArray lo hi none=((its.drop<|HT.sIx its.length 0 lo).take (HT.sIx its.length its.length hi-HT.sIx its.length 0 lo)).toArray:=by
 obtain⟨h1,h2,h3⟩:=tM lo hi its.toArray.size;unfold slicePick;rw[h1,h2,h3];simp only[sliceRange_one,pick_run,Xc]<;>rfl
def NJ(K:Ab):V->Sf Int->Sf Int->Hp->VK->Prop:=λx lo hi H Q=>∃a xs,x=.ref a/\SW K H a xs/\∀p,H p=none->Q (.ref p) (upd H p<|.lst<|vF xs lo hi)
def Ko:Xp X (NJ X.K):=by
 walk_at "E";obtain⟨a,xs,rfl,hx,q⟩:=h;cases rx;obtain⟨its,r,ht,hz⟩:=I.list hx;have hlen:=r.length;refine⟨"list",_,slot_list_getitem.lookup,ht.isList.typeIs,?_⟩;refine wpAny_getItem_list_slice ht.isList hs pl pu .none (by simp) ?_ (by rw[Xc]<;>lia)
 rw[rC,<-hlen];refine⟨.ref s.heap.objs.size,_,I.laid (t':=s.toks) (o:=.lst<|vF xs lo hi) (λb ob q=>Ac _ q) (Qa _) ?_,rfl,q _<|I.hok.fresh<|Qa _⟩;exact⟨Ve (oz xs lo hi) hz,_,0,(r.drop<|HT.sIx xs.length 0 lo).take (HT.sIx xs.length xs.length hi-HT.sIx xs.length 0 lo),Ah _ rfl⟩
def lN:V->Ss|.non=>true|.bl _=>true|.int _=>true|.str _=>true|_=>false
def Uc:V->V->Ss|.non,.non=>true|.bl a,.bl b=>a == b|.bl a,.int b=>(if a then 1 else 0) == b|.int a,.bl b=>a == (if b then 1 else 0)|.int a,.int b=>a == b|.str a,.str b=>a == b|_,_=>false
theorem NK(ry:RelV y u)(rx:RelV x v)(fy:lN y=true)(fx:lN x=true):SeqAt.EqAt A s u v (Uc y x):=by
 cases y with
 |non=>
  cases ry;cases x with
  |non=>cases rx;exact SeqAt.EqAt.same _
  |bl b=>cases rx;exact SeqAt.EqAt.none_bool b
  |int b=>obtain⟨t,rfl⟩:=rx;exact SeqAt.EqAt.none_int b t
  |str b=>obtain⟨t,rfl⟩:=rx;exact SeqAt.EqAt.none_str b t
  |_=>exact absurd (show false=true from fx) Ze
 |bl a=>
  cases ry;cases x with
  |non=>cases rx;exact SeqAt.EqAt.bool_none a
  |bl b=>cases rx;exact SeqAt.EqAt.bool_bool a b
  |int b=>obtain⟨t,rfl⟩:=rx;exact SeqAt.EqAt.bool_int a b t
  |str b=>obtain⟨t,rfl⟩:=rx;exact SeqAt.EqAt.bool_str a b t
  |_=>exact absurd (show false=true from fx) Ze
 |int a=>
  walk_at "t";cases x with
  |non=>cases rx;exact SeqAt.EqAt.int_none a t'
  |bl b=>cases rx;exact SeqAt.EqAt.int_bool a t' b
  |int b=>obtain⟨t,rfl⟩:=rx;exact SeqAt.EqAt.int_int a t' b t
  |str b=>obtain⟨t,rfl⟩:=rx;exact CU a t' b t
  |_=>exact absurd (show false=true from fx) Ze
 |str a=>
  walk_at "t";cases x with
  |non=>cases rx;exact SeqAt.EqAt.str_none a t'
  |bl b=>cases rx;exact SeqAt.EqAt.str_bool a t' b
  |int b=>obtain⟨t,rfl⟩:=rx;exact CT a t' b t
  |str b=>obtain⟨t,rfl⟩:=rx;exact SeqAt.EqAt.str_str a t' b t
  |_=>exact absurd (show false=true from fx) Ze
 |_=>exact absurd (show false=true from fy) Ze
def Tz(x:V)(u:Sh):Ss:=match u with|.none=>Uc .non x|.bool b=>Uc (.bl b) x|.int i _=>Uc (.int i) x|.str z _=>Uc (.str z) x|_=>false
theorem Gx(r:RelV y u)(f:lN y=true):Tz x u=Uc y x:=by
 cases y with
 |non=>cases r;rfl
 |bl b=>cases r;rfl
 |int i=>obtain⟨t,rfl⟩:=r;rfl
 |str z=>obtain⟨t,rfl⟩:=r;rfl
 |_=>exact absurd (show false=true from f) Ze
theorem mU:∀{xs:Se V}{us:Se Sh},V0 xs us->xs.all lN=true->us.any (Tz x)=xs.any λy=>Uc y x
 |_,_,.nil,_=>rfl
 | y::xs,u::us,.cons r t,f=>by
  rw[B9,Zj]at f;rw[BI,BI,Gx r f.1,mU t f.2]
theorem jU(rx:RelV x v)(fx:lN x=true):∀{xs:Se V}{us:Se Sh},V0 xs us->xs.all lN=true->∀u∈us,SeqAt.EqAt A s u v (Tz x u)
 |_,_,.nil,_=>λu hu=>by cases hu
 | y::xs,u::us,.cons r t,f=>λu' hu=>by
  rw[B9,Zj]at f;rcases Vc.mp hu with rfl|hu
  ·rw[Gx r f.1];exact NK r rx f.1 fx
  ·exact jU rx fx t f.2 u' hu
def Ud(x:V)(xs:Se V):Ss:=xs.any λy=>Uc y x
def UJ(K:Ab)(neg:Ss):R2:=λx y H Q=>∃p xs,y=.ref p/\(SW K H p xs\/S8 K H p xs)/\lN x=true/\xs.all lN=true/\Q (.bl (if neg then !Ud x xs else Ud x xs)) H
def EH:Wx X (compareOp .In) (UJ X.K false):=by
 walk_at "3";obtain⟨p,xs,rfl,hq,fx,fs,q⟩:=h;cases ry;rcases hq with hq|hq
 ·walk_at "N";refine SeqAt.in_listAt (Tz x) pl.isList (λw hw=>jU rx fx r fs w<|by simpa using hw) ⟨.bl _,H,I,rfl,?_⟩
  walk_at "g"
  exact q
 ·obtain⟨its,r,pl,hz⟩:=I.tuple hq;refine Di (Tz x) pl (λw hw=>jU rx fx r fs w<|by simpa using hw) ⟨.bl _,H,I,rfl,?_⟩
  walk_at "g"
  exact q
def tO:Wx X (compareOp .NotIn) (UJ X.K true):=by
 walk_at "3";obtain⟨p,xs,rfl,hq,fx,fs,q⟩:=h;cases ry;rcases hq with hq|hq
 ·walk_at "N";refine SeqAt.notIn_listAt (Tz x) pl.isList (λw hw=>jU rx fx r fs w<|by simpa using hw) ⟨.bl _,H,I,rfl,?_⟩
  walk_at "g"
  exact q
 ·obtain⟨its,r,pl,hz⟩:=I.tuple hq;refine SeqAt.notIn_tupleAt (Tz x) pl (λw hw=>jU rx fx r fs w<|by simpa using hw) ⟨.bl _,H,I,rfl,?_⟩
  walk_at "g"
  exact q
def tP:V9 X (.builtin "len") (λxs H Q=>∃p ys,xs=[.ref p]/\(SW X.K H p ys\/S8 X.K H p ys)/\Q (.int ys.length) H):=by
 walk_at "L";obtain⟨p,ys,rfl,hq,q⟩:=h;obtain⟨u,rfl,rx⟩:=vals1 r;cases rx;have hn:=nO;rcases hq with hq|hq
 ·obtain⟨its,r',pl,hz⟩:=I.list hq;have hlen:=r'.length;exact Calls.call_len_list pl.isList (by simp only[Xc]<;>lia) ⟨.int ys.length,H,I.tok _,⟨s.toks+1,by rw[Xc,hlen]⟩,q⟩
 ·obtain⟨its,r',pl,hz⟩:=I.tuple hq;have hlen:=r'.length;exact len_tuple pl (by simp only[Xc]<;>lia) ⟨.int ys.length,H,I.tok _,⟨s.toks+1,by rw[Xc,hlen]⟩,q⟩
def tQ:V9 X (.builtin "len") (λxs H Q=>∃z,xs=[.str z]/\z.length<=sizeLine/\Q (.int z.length) H):=by
 walk_at "L";obtain⟨z,rfl,hz,q⟩:=h;obtain⟨u,rfl,t,rfl⟩:=vals1 r;have hn:=nO;exact len_str (by lia) ⟨.int z.length,H,I.tok _,⟨_,rfl⟩,q⟩
def V9.or(h:V9 X f r)(h':V9 X f r'):V9 X f (λxs H Q=>r xs H Q\/r' xs H Q):=by
 intro VU s σ H xs us Q I rs q;rcases q with q|q
 ·exact h VU s σ H xs us Q I rs q
 ·exact h' VU s σ H xs us Q I rs q
def tR:V9 X (.type "list") (λxs H Q=>∃p ys,xs=[.ref p]/\(SW X.K H p ys\/S8 X.K H p ys)/\∀l,H l=none->Q (.ref l) (upd H l<|.lst ys)):=by
 walk_at "L";obtain⟨p,ys,rfl,hq,q⟩:=h;obtain⟨u,rfl,rx⟩:=vals1 r;cases rx;have fin:∀(its:Se Sh),V0 ys its->ys.length<=sizeLine->∀(h':Sv)(c':Nat),(∀b o',s.heap.get? b=some o'->h'.get? b=some o')->
   h'.get? s.heap.objs.size=some { cls:=.type "list",dict:=none,data:=.seq its.toArray c',slots:=#[] }->EP X VU σ Q (.ref s.heap.objs.size) { s with heap:=h' }:=λits r' hz h' c' kp e=>
  ⟨.ref s.heap.objs.size,_,I.laid (t':=s.toks) kp (Qa _)<|show V3 X.prog X.w _ h' _ (.lst ys) from⟨hz,its,c',r',e⟩,rfl,q _<|I.hok.fresh<|Qa _⟩
 rcases hq with hq|hq
 ·obtain⟨its,r',pl,hz⟩:=I.list hq;have hlen:=r'.length;obtain⟨o,ho,hc,n,hd⟩:=pl.isList;exact call_list_seq p (.inl rfl) ho hc hd (λh' c' kp e=>fin its r' hz h' c' kp e) (by simp only[Xc]<;>lia)
 ·obtain⟨its,r',pl,hz⟩:=I.tuple hq;have hlen:=r'.length;obtain⟨o,ho,hc,n,hd⟩:=pl;exact call_list_seq p (.inr rfl) ho hc hd (λh' c' kp e=>fin its r' hz h' c' kp e) (by simp only[Xc]<;>lia)
def rD:V9 X (.type "tuple") (λxs H Q=>∃p ys,xs=[.ref p]/\((SW X.K H p ys/\∀l,H l=none->Q (.ref l) (upd H l<|.tup ys))\/(S8 X.K H p ys/\Q (.ref p) H))):=by
 walk_at "L";obtain⟨p,ys,rfl,h⟩:=h;obtain⟨u,rfl,rx⟩:=vals1 r;cases rx;rcases h with⟨hq,q⟩|⟨hq,q⟩
 ·obtain⟨its,r',pl,hz⟩:=I.list hq;have hlen:=r'.length;refine call_tuple_list pl.isList (λh' kp=>?_) (by simp only[Xc]<;>lia)
  have I1:Inv X VU σ H { s with heap:=h' }:=I.kept (t':=s.toks) kp;have I2:Inv X VU σ (upd H h'.objs.size<|.tup ys) { s with heap:=h'.push { cls:=.type "tuple",data:=.seq its.toArray } } :=
   I1.laid (t':=s.toks) (λb o e=>Ac _ e) (Qa _) (show V3 X.prog X.w _ _ _ (.tup ys) from⟨hz,its,r',IsTup.new _ _⟩)
  exact⟨.ref h'.objs.size,_,I2,rfl,q _<|I1.hok.fresh<|Qa _⟩
 ·obtain⟨its,r',pl,hz⟩:=I.tuple hq;exact call_tuple_same pl ⟨.ref p,H,I,rfl,q⟩
def UK(K:Ab)(T:String)(x:V)(H:Hp):Prop:=match x with
 |.str _=>T="str"
 |.int _=>T="int"
 | .ref p=>(T="list"/\∃xs,SW K H p xs)\/(T="tuple"/\∃o,K.lookup p=some o/\o.cls=.type "tuple"/\o.dict=none) \/
   (T="dict"/\((∃VV,H p=some (.dK VV))\/∃ep VV,H p=some (.dT ep VV)))\/(T="set"/\∃S n,H p=some (.set S n))
 |_=>False
def NM{s:Si}(I:Inv X VU σ H s)(r:RelV x v)(ty:UK X.K T x H) :
  s.TypeIs v T/\∀a,v=.ref a->∃ob,s.heap.get? a=some ob/\ob.dict=none:=by
 cases x with
 |str z=>
  obtain⟨t,rfl⟩:=r;cases (show T="str" from ty);exact⟨Dx s z t,λ_ e=>nomatch e⟩
 |int i=>
  obtain⟨t,rfl⟩:=r;cases (show T="int" from ty);exact⟨typeIs_int s i t,λ_ e=>nomatch e⟩
 |ref p=>
  cases r;rcases ty with⟨rfl,xs,hq⟩|⟨rfl,o,hk,hc,hd⟩|⟨rfl,hk⟩|⟨rfl,S,n,hk⟩
  ·obtain⟨its,_,pl,_⟩:=I.list hq;refine⟨pl.isList.typeIs,λa e=>?_⟩;cases e;obtain⟨o,n,e,c,hd,_⟩:=pl;exact⟨o,e,hd⟩
  ·refine⟨⟨o,I.kIn p o hk,hc⟩,λa e=>?_⟩;cases e;exact⟨o,I.kIn _ o hk,hd⟩
  ·have z:∃o,s.heap.get? p=some o/\o.ExactDict:=by
    rcases hk with⟨VV,hk⟩|⟨ep,VV,hk⟩
    ·obtain⟨_,_,_,_,o,_,_,e,ex,_⟩:=I.hok p _ hk;exact⟨o,e,ex⟩
    ·obtain⟨_,_,_,_,_,o,_,e,ex,_⟩:=I.hok p _ hk;exact⟨o,e,ex⟩
   obtain⟨o,e,ex⟩:=z;refine⟨⟨o,e,ex.1⟩,λa e2=>?_⟩;cases e2;exact⟨o,e,ex.2.1⟩
  ·obtain⟨o,_,_,_,e,ex,_⟩:=I.hok p _ hk;refine⟨⟨o,e,ex.1⟩,λa e2=>?_⟩;cases e2;exact⟨o,e,ex.2.1⟩
 |_=>exact False.elim ty
def UU(K:Ab)(T:String)(r:V->Se V->Hp->VK->Prop)(to:TE)(t:TA):TE:=λσ H Q=>to σ H λx H1=>UK K T x H1/\t σ H1 λxs H2=>r x xs H2 Q
variable {o e:Expr}{es:Se Expr}{to:TE}{t:TA}{name:Str}{apos cpos:Pos}{T id:String}{r:V->Se V->Hp->VK->Prop}
def jV(pa:PlainAttrs T)(slot:Slot T name id)(hty:typeOf (.builtin id)=pure (.type "method_descriptor"))(hm:UI X id r)(ho:PE X o to)(ha:PA X (e::es) t)
  (hbase:attributeBase o name X.env (eval o X.env)=eval o X.env:=by rfl)
  (hfew:((backTo cpos (starEach (e::es) X.env)).all (λx=>!x.1)&&(backToKw cpos (keywordEach [] X.env)).all (λx=>x.1.isSome)
   && decide ((e::es).length+([]:Se Keyword).length+(if ([]:Se Keyword).isEmpty then 0 else 1)<30))=true:=by rfl)
  (hline:(apos.endLine == cpos.line)=true:=by rfl) (hs:starEach (e::es) X.env=(false,eval e X.env)::starEach es X.env:=by rfl) (hplain:(backTo cpos<|starEach es X.env).any (·.1)=false:=by rfl) :
  PE X (.Call (.Attribute o name apos) (e::es) [] cpos) (UU X.K T r to t):=by
 walk_at "9";refine wpAny_Call_method_late hbase hfew hline rfl<|SM (ho VU s σ H _ I h) λv s1 zz9=>?_;obtain⟨x,H1,I1,r1,ty,q1⟩:=zz9;obtain⟨h1,h2⟩:=NM I1 r1 ty;refine⟨T,id,pa,slot,hty,h1,h2,?_⟩;have hA:=ha cpos VU s1 σ H1 _ I1 q1;rw[hs]at hA ⊢;refine Calls.callWith_builtin (by show(false||(backTo cpos<|starEach es X.env).any (·.1))=false;rw[hplain]<;>rfl)<|Calls.evalArgs_plain ?_
 exact SM hA λus s2 ⟨vs,H2,I2,r2,q2⟩=>hm VU s2 σ H2 x vs v us Q I2 r1 r2 q2
end
def UL(X:Cx)(id:String)(r:V->Se V->Hp->VK->Prop):Prop :=
 ∀(VU:Se (Sk×Obj))(s:Si)(σ:St)(H:Hp)(x:V)(xs:Se V)(v:Sh)(us:Se Sh)(Q:VK),Inv X VU σ H s->RelV x v->V0 xs us->r x xs H Q->
  wpAny (model X.prog X.w) X.A (call (.builtin id) (v::us)) (EP X VU σ Q) X.xe s
theorem V0.one:∀{x:V}{us:Se Sh},V0 [x] us->∃u,us=[u]/\RelV x u|_,_,.cons r .nil=>⟨_,rfl,r⟩
theorem V0.eraseIdx:∀{xs:Se V}{us:Se Sh}(i:Nat),V0 xs us->V0 (xs.eraseIdx i) (us.eraseIdx i)|_,_,_,.nil=>.nil|_,_,0,.cons _ t=>t|_,_,i+1,.cons r t=>.cons r<|V0.eraseIdx i t
theorem sh:∀(l:Se α)(i:Nat),(l.eraseIdx i).length<=l.length|[],_=>Qa _|_::_,0=>Nat.le_succ _|_::r,i+1=>Dj<|sh r i
section
variable {s:Si}{xs ys zs:Se V}
def Inv.lset{its its':Se Sh}{t':Nat}(I:Inv X VU σ H s)(hH:H l=some (.lst xs))
  (e:s.heap.get? l=some { cls:=.type "list",data:=.seq its.toArray n })(hf:f its.toArray=its'.toArray)(hv:V0 ys its')(hz:ys.length<=sizeLine) :
  Inv X VU σ (upd H l<|.lst ys) { s with heap:=s.heap.update l<|Obj.mapSeq f,toks:=t' }:=by
 have q:=PySem.IsL.update e f;rw[hf]at q;refine I.write (x:=l) (e:=l) (by rw[hH];exact trivial) (.inl rfl) (λb' u hb hu=>(A7 s.heap (Obj.mapSeq f)<|Az hb).trans hu) ⟨_,q⟩ ?_
 exact⟨hz,its',_,hv,q⟩
def Inv.lnew{t':Nat}(I:Inv X VU σ H s)(hv:V0 ys its)(hz:ys.length<=sizeLine) :
  Inv X VU σ (upd H s.heap.objs.size<|.lst ys) { s with heap:=s.heap.push { cls:=.type "list",data:=.seq its.toArray },toks:=t' } :=
 I.laid (λ_ _ q=>Ac _ q) (Qa _) ⟨hz,its,0,hv,Ah _ rfl⟩
theorem Inv.fresh(I:Inv X VU σ H s):H s.heap.objs.size=none:=I.hok.fresh<|Qa _
def Inv.lstM(I:Inv X VU σ H s)(hH:H l=some (.lst xs)):xs.length<=sizeLine/\∃(its:Se Sh)(n:Nat),V0 xs its/\xs.length=its.length/\s.heap.get? l=some { cls:=.type "list",data:=.seq its.toArray n }:=by
 obtain⟨z,its,n,r,e⟩:=I.hok l _ hH;exact⟨z,its,n,r,r.length,e⟩
def vG(h:n<=sizeLine):Builtin.List.listTooLong n=false:=by
 unfold Builtin.List.listTooLong;exact Ae (by lia)
end
section
variable {X:Cx}
def tS:V->Se V->Hp->VK->Prop:=λx vs H Q=>∃l xs y,x=.ref l/\vs=[y]/\H l=some (.lst xs)/\xs.length<sizeLine/\Q .non (upd H l<|.lst<|xs++[y])
def EI:UL X "list.append" tS:=by
 walk_at "f";obtain⟨l,xs,y,rfl,rfl,hH,hz,q⟩:=h;cases rx;obtain⟨u,rfl,ru⟩:=rv.one;walk_at "v";refine Cf F.slot_list_append ⟨_,e,rfl⟩ F.entry_list_append (F.args_list_append_2 _ _) (PySem.list_append l its.toArray n u (by rw[Xc];lia)) ⟨e,(⟨.non,_,I.lset (its':=its++[u]) hH e (by simp) (r.append<|.cons ru .nil) ?_,rfl,q⟩)⟩
 rw[Xa,Vf];lia
def yM:V->Se V->Hp->VK->Prop:=λx vs H Q=>∃l b xs zs,x=.ref l/\vs=[.ref b]/\H l=some (.lst xs)/\H b=some (.lst zs)/\xs.length+zs.length<=sizeLine/\Q .non (upd H l<|.lst<|xs++zs)
def EJ:UL X "list.extend" yM:=by
 walk_at "f";obtain⟨l,b,xs,zs,rfl,rfl,hH,hB,hz,q⟩:=h;cases rx;obtain⟨u,rfl,ru⟩:=rv.one;cases ru;walk_at "v";obtain⟨z2,its2,n2,r2,hl2,e2⟩:=I.lstM hB;have hsz:its.toArray.size+its2.toArray.size<=sizeLine:=by rw[Xc,Xc];lia
 have hlong:¬ (!its.toArray.isEmpty&&Builtin.List.listTooLong (its.toArray.size+its2.toArray.size))=true:=by
  rw[vG hsz,Bool.and_false];exact Ze
 refine Cf F.slot_list_extend ⟨_,e,rfl⟩ F.entry_list_extend (F.args_list_extend_2 _ _)
  (AutoSeq1.list_extend_list_list_0 l its.toArray n b its2.toArray n2 hlong (by rw[Xc];lia)<|by lia) ⟨e,e2,?_⟩
 refine⟨.non,_,I.lset (its':=its++its2) hH e (by simp) (r.append r2) ?_,rfl,q⟩
 rw[Xa];lia
def Gy:V->Se V->Hp->VK->Prop:=λx vs H Q=>∃l xs i k y,x=.ref l/\vs=[.int i]/\H l=some (.lst xs)/\-(2 ^ 63)<=i/\i<2 ^ 63/\seqIndex? i xs.length=some k/\xs[k]?=some y/\Q y (upd H l<|.lst<|xs.eraseIdx k)
def qc:UL X "list.pop" Gy:=by
 walk_at "f";obtain⟨l,xs,i,k,y,rfl,rfl,hH,h1,h2,hk,hy,q⟩:=h;cases rx;obtain⟨u,rfl,ru⟩:=rv.one;obtain⟨t,rfl⟩:=ru;walk_at "v";obtain⟨w,hw,rw'⟩:=r.get hy;refine Cf F.slot_list_pop ⟨_,e,rfl⟩ F.entry_list_pop (F.args_list_pop_2 _ _)
  (MeetsSeq.list_pop_at l its.toArray n i t k w (fitsIndex_both h1 h2) (by rw[Xc,<-hl];exact hk) (by rw[<-Xg];exact hw) (by rw[Xc];lia)) ⟨e,?_⟩
 refine⟨y,_,I.lset (its':=its.eraseIdx k) hH e ?_ (r.eraseIdx k) ?_,rw',q⟩
 ·show its.toArray.eraseIdxIfInBounds k=(its.eraseIdx k).toArray;rw[List.eraseIdxIfInBounds_toArray]
 ·have:=sh xs k;lia
def NN:R2:=λx y H Q=>∃l b xs zs,x=.ref l/\y=.ref b/\H l=some (.lst xs)/\H b=some (.lst zs)/\xs.length+zs.length<=sizeLine/\∀p,H p=none->Q (.ref p) (upd H p<|.lst<|xs++zs)
def XX:Wx X (binaryOp .Add) NN:=by
 walk_at "3";obtain⟨l,b,xs,zs,rfl,rfl,hH,hB,hz,q⟩:=h;cases rx;cases ry;walk_at "v";obtain⟨z2,its2,n2,r2,hl2,e2⟩:=I.lstM hB;refine PySem.P.add_list e e2 ?_ (by rw[Xc,Xc];lia)
 have ea:its.toArray++its2.toArray=(its++its2).toArray:=by simp
 rw[ea];exact⟨.ref _,_,I.lnew (t':=s.toks) (r.append r2) (by rw[Xa];lia),rfl,q _ I.fresh⟩
end
end L2
namespace Att
open PySem PySem.W PySem.Calls PyProof.Rows
theorem oU:∀(ns:Se Int)(vs:Se Sh),WellAll P h vs (ns.map WData.int)->IntsAre vs ns:=by
 intro ns;induction ns with
 |nil=>
  intro vs w;rw[C9]at w;cases w;exact .nil
 |cons n ns ih=>
  intro vs w;rw[Wh]at w;cases w with
  |cons a b=>
   cases a;exact .cons _ _<|ih _ b
def EK{l:OpenLaw}(hn:l.most=some n){h:Sv}
  (hpre:l.row.toRowW.claim.pre args=true)(hwl:WellAll P h vals args) :
  ∃a vs ns,vals=[Value.ref a]/\args=[WData.list<|ns.map WData.int]/\h.get? a=some { cls:=.type "list",data:=.seq vs.toArray }/\IntsAre vs ns/\ns.length<=n:=by
 have hsh:WShape.hasAll [] args [.list .int]=true:=(pre_splitW hpre).1;have hc:l.pre.holds [] { args:=args }=true:=(pre_splitW hpre).2;obtain⟨d,r,rfl,h1,h2⟩:=hasAllW_cons hsh;obtain rfl:=hasAllW_nil h2;obtain⟨xs,rfl,h3⟩:=hasW_list h1;obtain⟨ns,rfl⟩:=items_int h3;have hlen:ns.length<=n:=by
  unfold OpenLaw.pre at hc;have h4:(WTm.not<|.lt (.lit<|.int (n:Int))<|.len<|.arg 0).holds [] { args:=[.list<|ns.map .int] }=true:=by
   have h4:=(holds_andW hc).1;rw[hn]at h4;exact h4
  have h5:=condW_of h4<|w_not<|w_lt w_lit<|w_len_list<|w_arg rfl;rw[Ya]at h5;refine Cc λq=>?_;have q':(n:Int)<((ns.length:Nat):Int):=by lia
  first
   | (rw[Af q']at h5;exact absurd h5<|by decide)
   | (simp at h5;lia)
 cases hwl with
 |cons w1 w2=>
  cases w2;cases w1 with|list ho hall=>exact⟨_,_,ns,rfl,rfl,ho,oU ns _ hall,hlen⟩
def EL(l:OpenLaw)(args:Se WData):l.row.toRowW.claim.post args (.bool true) args=true :=
 postW_of (r:=l.row.toRowW) (X:=(true == true))
  (show WShape.has [] (.bool true) .bool=true by first|rfl|decide|simp[WShape.has,WShape.arms,WShape.armsAll])
  (show(WTm.eq .res<|.lit<|.bool true).value [] { args:=args,res:=some<|.bool true,after:=args }=some (.bool<|true == true) from w_eq_bool (w_res rfl) w_lit) rfl
def attach_call{l:OpenLaw}{d:DefRec}
  (hn:l.most=some n)(hdf:d.params.defaults=[])
  (call:∀(w:Sx)(s₀ s₁:Si)(mg mb:Str->Sf Sh)(fa:Sk)(o:Obj)(pm cd doc:Sh)(a:Sk)(vs:Se Sh)(ns:Se Int),
   Ground q loose [] XP w s₀ mg mb s₁.heap->YP w s₁.heap->
   s₁.heap.get? fa=some o->o.data=.func (docDef d.name d.params d.body d.scope pm cd doc)->s₁.heap.CodeRec cd d.name->mg d.name=some (.ref fa)->
   s₁.heap.get? a=some { cls:=.type "list",data:=.seq vs.toArray }->IntsAre vs ns->ns.length<=n->s₁.gens=#[]->
   codeAny (model l.prog w) callerA (.call (.ref fa) ⟨[.ref a],[]⟩) (λr s'=>r=.ok (.ret (.bool true))/\OldK s₁.heap s'.heap/\s'.os=s₁.os/\AllBare s'.gens) s₁) :
  WalkO q loose XP YP l.row.toRowW d [] (λf vs=>PySem.call f vs):=by
 intro w s₀ s₁ mg mb G Y fa o pm cd doc dV kV ho hd hcd hD hmg hg args vals as hpre hlay hrd hwl hlo;obtain rfl:dV=.none:=Dflts.none hD hdf;obtain rfl:kV=.none:=Dflts.noKw hD;obtain⟨a,vs,ns,rfl,rfl,hobj,hints,hlen⟩:=EK hn hpre hwl;refine enter_call<|C0 (call w s₀ s₁ mg mb fa o pm cd doc a vs ns G Y ho (fd_plain hd) hcd hmg hobj hints hlen hg) λr s' hq=>?_;obtain⟨rfl,h2,h3,h4⟩:=hq;exact⟨.inl ⟨.bool true,.bool true,[],rfl,λ_=>rfl,.bool true,EL l _,λ_=>⟨List.Pairwise.nil,λ_ hm=>(nomatch hm)⟩⟩,h2,h3,h4⟩
end Att
namespace L2
open PySem PySem.Spec PyProof.Rows
theorem si:∀{vs:Se Sh}{ns:Se Int},IntsAre vs ns->V0 (ns.map V.int) vs|_,_,.nil=>.nil|_,_,.cons n t h=>.cons ⟨t,rfl⟩<|si h
def NO(H:Hp):Prop:=∀b,H b=none\/∃o xs,H b=some (.frz o<|.lst xs)
def Gz{K:Ab}{s₁:Si}{vs:Se Sh}{ns:Se Int}
  (KX:K.In s₁.heap)(hns:s₁.heap.Ns mainGlobals mg)(hb:s₁.heap.Ns builtinsNs mb)(hbb:∀x:Str,x≠"__name__"->mb x=bootBuiltins x)(hlim:s₁.heap.NoLimit)(hg:s₁.gens=#[])
  (ha:s₁.heap.get? a=some { cls:=.type "list",data:=.seq vs.toArray }) (hi:IntsAre vs ns) (hl:ns.length<=sizeLine) (hr:Ww k callerA)
  (F:∀base:Sv,K.In base->base.Ns mainGlobals mg->WH P w K mg base CX k fa fd [x] sp) (hbind:∀(s:Si)(u:Sh),BindsTo s fd ⟨[u],[]⟩ [(x,u)])
  (hsp:∀H:Hp,NO H->SW K H a (ns.map V.int)->sp [.ref a] H (λv _=>v=.bl true) λ_ _ _=>False)
  (hCX:∀H e s',CX [] H s₁ (λ_ _ _=>False) e s'->False) :
  codeAny (model P w) callerA (.call (.ref fa) ⟨[.ref a],[]⟩) (λr s'=>r=.ok (.ret<|.bool true)/\OldK s₁.heap s'.heap/\s'.os=s₁.os/\AllBare s'.gens) s₁:=by
 have rv:=si hi;have N7:=hi.length;have core:∀H:Hp,NO H->SW K H a (ns.map V.int)->HOk P w H s₁.heap->(∀b,H b≠none->b=a)->(H a≠none->K.lookup a=none)->
   codeAny (model P w) callerA (.call (.ref fa) ⟨[.ref a],[]⟩) (λr s'=>r=.ok (.ret<|.bool true)/\OldK s₁.heap s'.heap/\s'.os=s₁.os/\AllBare s'.gens) s₁:=by
  intro H hO hS hok hA hK;have base_of:∀{b:Sk}{o:Obj},s₁.heap.get? b=some o->H b=none->(tH s₁.heap H).get? b=some o:=λe n=>F9 e n;have noA:∀{b:Sk}{o:Obj}{es:Sj DictEntry}{ep:Nat},s₁.heap.get? b=some o->o.data=.dict es ep->H b=none:=λ{b o es ep} e d=>by
   cases q:H b with
   |none=>rfl
   |some u=>
    have e':b=a:=hA b (by rw[q];simp)
    subst e';rw[ha]at e;cases e;have d':Data.seq vs.toArray _=Data.dict es ep:=d;cases d'
  have nsK:∀{b:Sk}{m:Str->Sf Sh},s₁.heap.Ns b m->(tH s₁.heap H).Ns b m:=λ{b m} ⟨o,es,ep,e,d,r⟩=>⟨o,es,ep,base_of e<|noA e d,d,r⟩
  have hKb:K.In (tH s₁.heap H):=λb o e=>base_of (KX b o e) (by
   cases q:H b with
   |none=>rfl
   |some u=>
    have e':b=a:=hA b (by rw[q];simp)
    subst e'
    rw[hK (by rw[q];simp)]at e;cases e)
  have hM:Mod K mg (tH s₁.heap H):=⟨hKb,nsK hns,⟨mb,nsK hb,hbb⟩,let⟨mc,h1,h2⟩:=hlim;⟨mc,nsK h1,h2⟩⟩;have e0:W7 P w K mg (tH s₁.heap H) callerA [] s₁ H:=⟨rfl,hM,λb o e=>Kc e,DS<|Ew _ _,trivial,λb hb=>absurd (show b∈([]:Se Sk) from hb)<|by simp,hok,.of_eq hg⟩
  refine C0 ((F _ hKb<|nsK hns).run callerA [] s₁ H ⟨[.ref a],[]⟩ [.ref a] [.ref a] _ _ hr e0 (hbind s₁<|.ref a) (.cons rfl .nil) (hsp H hO hS)) λr s' h=>?_;cases r with
  |error e=>exact(hCX H e s' h).elim
  |ok fl=>
   cases fl with
   |next=>exact False.elim h
   |brk=>exact False.elim h
   |cont=>exact False.elim h
   |ret u=>
    obtain⟨v,H',os,bare,un,hok',r',q⟩:=h;have q':v=.bl true:=q;subst q';obtain rfl:u=Value.bool true:=r';refine⟨rfl,OldK.of_keep λb o e=>?_,os,bare⟩;cases q:H b with
    |none=>exact un.keep b o e q (by intro z;exact absurd (show b∈([]:Se Sk) from z)<|by simp) (by simp)
    |some u=>
     rcases hO b with z|⟨ob,xs,z⟩
     ·rw[q]at z;cases z
     ·have z2:=un.frzs b ob _ z;obtain⟨e1,_⟩:=hok b _ z;obtain⟨e2,_⟩:=hok' b _ z2;rw[e]at e1;cases e1;exact e2
 cases hk:K.lookup a with
 |some o=>
  have e:=KX a o hk;rw[ha]at e;cases e;refine core (λ_=>none) (λ_=>.inl rfl) (.inr ⟨_,vs.toArray,_,hk,rfl,rfl,rfl,by rw[Xc,N7];exact hl,by simpa using rv⟩) (λb u z=>by have z':(none:Sf HO)=some u:=z;cases z') (λb z=>absurd rfl z) λz=>absurd rfl z
 |none=>
  refine core (λb=>if b=a then some (.frz { cls:=.type "list",data:=.seq vs.toArray }<|.lst<|ns.map V.int) else none) (λb=>?_) (.inl<|.inr ⟨{ cls:=.type "list",data:=.seq vs.toArray },Ag rfl⟩) (λb u z=>?_) (λb z=>?_) λ_=>hk
  ·by_cases hb:b=a
   ·exact .inr ⟨_,_,Ag hb⟩
   ·exact .inl<|Ak hb
  ·by_cases hb:b=a
   ·have z':=(Ag hb).symm.trans z;cases z';subst hb;exact⟨ha,by rw[Ya];exact hl,vs,_,rv,ha⟩
   ·have z':=(Ak hb).symm.trans z;cases z'
  ·by_cases hb:b=a
   ·exact hb
   ·exact absurd (Ak hb) z
def walk_of{l:PySem.W.OpenLaw}{n k:Nat}{loose:Se Str}{XP:(Str->Sf Sh)->Sv->Prop}{YP:Sx->Sv->Prop}{d:DefRec}{K:Params->Ab}{CX:Sx->T7}{sp:Sx->Sp}{x:Str}
  (hn:l.most=some n)(hn2:n<=sizeLine)(hdf:d.params.defaults=[])(hr:Ww k callerA)
  (hY:∀(w:Sx)(h:Sv),YP w h->(K w.params).In h)
  (F:∀(w:Sx)(mg:Str->Sf Sh)(fa:Sk)(h:Sv),(K w.params).In h->h.Ns mainGlobals mg->mg d.name=some (.ref fa)->
   ∃fd:FuncData,(∀(s:Si)(u:Sh),BindsTo s fd ⟨[u],[]⟩ [(x,u)]) /\
    ∀base:Sv,(K w.params).In base->base.Ns mainGlobals mg->WH l.prog w (K w.params) mg base (CX w) k fa fd [x] (sp w))
  (hsp:∀(w:Sx)(H:Hp)(a:Sk)(ns:Se Int),ns.length<=n->NO H->SW (K w.params) H a (ns.map V.int)->sp w [.ref a] H (λv _=>v=.bl true) λ_ _ _=>False)
  (hCX:∀(w:Sx)(H:Hp)(s:Si)(e:Sh)(s':Si),CX w [] H s (λ_ _ _=>False) e s'->False) :
  PySem.W.WalkO q loose XP YP l.row.toRowW d [] (λf vs=>PySem.call f vs):=by
 refine Att.attach_call hn hdf λw s₀ s₁ mg mb fa o pm cd doc a vs ns G Y ho hd hcd hmg hobj hints hlen hg=>?_;have KX:=hY w _ Y;obtain⟨fd,hb,hF⟩:=F w mg fa _ KX G.T.g hmg;exact Gz KX G.T.g G.T.b G.T.builtins G.T.nolimit hg hobj hints (Ve hlen hn2) hr hF hb (λH hO hS=>hsp w H a ns hlen hO hS) λH e s'=>hCX w H s₁ e s'
def fB(s:Stmt):Arguments:=match s with|.FunctionDef _ a _ _ _ _ _ _ _ _=>a|_=>{ posonlyargs:=[],args:=[],vararg:=none,kwonlyargs:=[],kw_defaults:=[],kwarg:=none,defaults:=[] }
def dM(s:Stmt):Se Stmt:=match s with|.FunctionDef _ _ b _ _ _ _ _ _ _=>b|_=>[]
def aq(s:Stmt):Scope:=match s with|.FunctionDef _ _ _ _ _ _ sc _ _ _=>sc|_=>{ kind:=.function,names:=[],isGenerator:=false,isCoroutine:=false }
abbrev Tu:T7:=λ_ _ _ _ _ _=>False
abbrev E0:XK:=λ_ _ _=>False
def MB:xp Tu X E0:=λ_ _ _ _ _ _ _ h=>h.elim
structure XR(K:Ab)(x qual:Str)(st:Stmt)(f:Addr)(fd:FuncData):Prop where
 ex:∃(oc:Value)(od:Option Addr)(kV doc pm:Value)(an:Option Addr)(cdv ct:Value)(osl:Array (Option Value)),
  fd=PySem.W.fnOf x qual (fB st) (dM st) (aq st) .none kV doc pm an cdv ct/\K.lookup f=some ⟨oc,od,.func fd,osl⟩/\PySem.W.codeIn K cdv qual=true
 kp:PySem.W.keepIn K (.ref f)=true
section
variable {K:Ab}
def XR.ok{x qual:Str}{st:Stmt}{f:Sk}{fd:FuncData}{N ps:Se Str}{k:Nat}{sp:Sp}(F:XR K x qual st f fd)(S:VY N ps (aq st))(len:∀vs H Q E,sp vs H Q E->vs.length=ps.length)
  (hbody:∀(cdv:Sh)(A:Around)(outer:Se Env)(s:Si)(H:Hp)(vs:Se V)(Q:VK)(E:XK),Ww k (A.deeper (envOfC qual (aq st) s.heap.objs.size f cdv))->sp vs H Q E->
   ∃t,W5 (vz Tu P w K mg base N qual (aq st) f cdv A outer s H E).nox (dM st) t/\t { nx:=λ_ H'=>Q .non H',rt:=Q } (start N vs) H):WH P w K mg base Tu (k+1) f fd ps sp:=by
 obtain⟨oc,od,kV,doc,pm,an,cdv,ct,osl,rfl,lk,hcd⟩:=F.ex;refine Mx lk hcd S len λA outer s H vs Q E hr hsp=>?_;obtain⟨t,h,q⟩:=hbody cdv A outer s H vs Q E hr hsp;exact⟨t,h.nox,q⟩
def XR.binds{x qual:Str}{st:Stmt}{f:Sk}{fd:FuncData}{ps:Se Str}(F:XR K x qual st f fd)
  (h:∀(kV doc pm:Sh)(an:Sf Sk)(cdv ct:Sh)(us:Se Sh),us.length=ps.length->bindArgs (PySem.W.fnOf x qual (fB st) (dM st) (aq st) .none kV doc pm an cdv ct) ⟨us,[]⟩=pure (ps.zip us)):Binds K fd ps []:=by
 obtain⟨oc,od,kV,doc,pm,an,cdv,ct,osl,rfl,lk,hcd⟩:=F.ex;exact .all<|h kV doc pm an cdv ct
def NP{x qual:Str}{st:Stmt}{f:Sk}{oc:Sh}{od an:Sf Sk}{osl:Sj (Sf Sh)}{kV doc pm cdv ct:Sh}(l:K.lookup f=some ⟨oc,od,.func<|PySem.W.fnOf x qual (fB st) (dM st) (aq st) .none kV doc pm an cdv ct,osl⟩)
  (c:PySem.W.codeIn K cdv qual=true)(k:PySem.W.keepIn K (.ref f)=true):XR K x qual st f (PySem.W.fnOf x qual (fB st) (dM st) (aq st) .none kV doc pm an cdv ct):=⟨⟨oc,od,kV,doc,pm,an,cdv,ct,osl,rfl,l,c⟩,k⟩
end
def jL{A:Around}(hr:Ww k A):A.units+1<cLine:=A6 (Zk (by decide:1<=64) _) hr.units
def EM(h:n<=1000):n<sizeLine:=A6 h (by decide)
section
variable {X:Cx}
def pv(i:Nat)(hN:X.N[i]?=some x:=by rfl)(hv:U0 X.env.scope x:=by first|exact Or.inl rfl|exact Or.inr (Or.inl rfl)|exact Or.inr<|Or.inr rfl)(hd:(x == ("__debug__":Str))=false:=by decide)
  (hcd:(x == ("__classdict__":Str))=false:=by decide):PE X (.Name x pos) (xi i):=Nl hN hv hd hcd
end
def VZ(H H':Hp):Prop:=∀b o,H b=some o->H' b=some o
def VZ.refl(H:Hp):VZ H H:=λ_ _ h=>h
def cz(env:Env):Se (Str×NameKind)->Se (Str×Sk)->Se (Str×Sk)|[],acc=>acc|(n,k)::r,acc=>if k=.free then cz env r ((n,(env.cells.lookup n).getD 0)::acc) else cz env r acc
theorem je{env:Env}{f:Str×NameKind->Se (Str×Sk)->Sem (ForInStep<|Se<|Str×Sk)}
  (h1:∀n k cs c,k=NameKind.free->env.cells.lookup n=some c->f (n,k) cs=pure (.yield ((n,c)::cs)))
  (h2:∀n k cs,k≠NameKind.free->f (n,k) cs=pure (.yield cs)) :
  ∀(names:Se (Str×NameKind))(acc:Se (Str×Sk)),(∀x∈names,x.2=.free->∃c,env.cells.lookup x.1=some c)->forIn names acc f=pure (cz env names acc)
 |[],_,_=>rfl
 | (n,k)::r,acc,h=>by
  have hr:∀x∈r,x.2=.free->∃c,env.cells.lookup x.1=some c:=λx hx=>h x<|Wb _ hx;by_cases hk:k=.free
  ·obtain⟨c,hc⟩:=h (n,k) Zc hk;have e:cz env ((n,k)::r) acc=cz env r ((n,c)::acc):=by
    walk_at "u";rw[Ag hk];have hc':env.cells.lookup n=some c:=hc;rw[hc'];rfl
   rw[Cw,h1 n k acc c hk hc,pure_bind,e];exact je h1 h2 r _ hr
  ·have e:cz env ((n,k)::r) acc=cz env r acc:=by
    walk_at "u";rw[Ak hk]
   rw[Cw,h2 n k acc hk,pure_bind,e];exact je h1 h2 r _ hr
def mV{scope:Scope}{env:Env}(h:∀x∈scope.names,x.2=.free->∃c,env.cells.lookup x.1=some c):closureFor scope env=pure (cz env scope.names []):=by
 simp only[closureFor];have key:=λf h1 h2=>je (env:=env) (f:=f) h1 h2 scope.names [] h
 rw[key _ (λn k cs c hk hc=>by subst hk;simp[cellOf,hc]) (λn k cs hk=>by
  have:(k == NameKind.free)=false:=by simpa using hk
  simp only[this,Wf,if_false])]
 rfl
def cU{α β:Type}[BEq α]{x n:α}{k:β}{r:Se (α×β)}:List.lookup x ((n,k)::r)=if (x == n)=true then some k else List.lookup x r:=by
 rw[List.lookup_cons];cases x == n<;>rfl
theorem iF{env:Env}{x:Str}{c:Sk}:∀(names:Se (Str×NameKind))(acc:Se (Str×Sk)),(∀x∈names,x.2=.free->∃c,env.cells.lookup x.1=some c)->
  (∀y c,acc.lookup y=some c->env.cells.lookup y=some c)->(cz env names acc).lookup x=some c->env.cells.lookup x=some c
 |[],acc,_,ha,e=>ha x c e
 | (n,k)::r,acc,h,ha,e=>by
  have hr:∀x∈r,x.2=.free->∃c,env.cells.lookup x.1=some c:=λx hx=>h x<|Wb _ hx;by_cases hk:k=.free
  ·obtain⟨c',hc⟩:=h (n,k) Zc hk;have hc':env.cells.lookup n=some c':=hc;have q:cz env ((n,k)::r) acc=cz env r ((n,c')::acc):=by
    walk_at "u";rw[Ag hk,hc'];rfl
   rw[q]at e;refine iF r _ hr (λy d hy=>?_) e;rw[cU]at hy;by_cases hyn:(y == n)=true
   ·rw[Ag hyn]at hy;have:y=n:=by simpa using hyn
    rw[this,hc',hy]
   ·rw[Ak hyn]at hy;exact ha y d hy
  ·have q:cz env ((n,k)::r) acc=cz env r acc:=by
    walk_at "u";rw[Ak hk]
   rw[q]at e;exact iF r _ hr ha e
theorem lY{env:Env}{x:Str}{c:Sk}(hx:env.cells.lookup x=some c):∀(names:Se (Str×NameKind))(acc:Se (Str×Sk)),(acc.lookup x=some c\/(x,NameKind.free)∈names)->(cz env names acc).lookup x=some c
 | [],acc,h=>by
  rcases h with h|h
  ·exact h
  ·cases h
 | (n,k)::r,acc,h=>by
  by_cases hk:k=.free
  ·have q:cz env ((n,k)::r) acc=cz env r ((n,(env.cells.lookup n).getD 0)::acc):=by
    walk_at "u";rw[Ag hk]
   rw[q];refine lY hx r _ ?_;by_cases hxn:(x == n)=true
   ·left;have e:x=n:=by simpa using hxn
    rw[cU,Ag hxn,<-e,hx];rfl
   ·rcases h with h|h
    ·left;rw[cU,Ak hxn];exact h
    ·right;rcases Vc.mp h with h|h
     ·cases h;exact absurd (by simp) hxn
     ·exact h
  ·have q:cz env ((n,k)::r) acc=cz env r acc:=by
    walk_at "u";rw[Ak hk]
   rw[q];refine lY hx r _ ?_;rcases h with h|h
   ·exact .inl h
   ·rcases Vc.mp h with h|h
    ·cases h;exact absurd rfl hk
    ·exact .inr h
theorem gF{env:Env}{x:Str}:∀(names:Se (Str×NameKind)),
  ((names.map λ(n,k)=>if (k == NameKind.free&&env.scope.kind == .function&&env.kindOf n == some .cell) then(n,NameKind.cell) else(n,k)).lookup x=none/\names.lookup x=none) \/
  ∃k k',names.lookup x=some k/\(names.map λ(n,k)=>if (k == NameKind.free&&env.scope.kind == .function&&env.kindOf n == some .cell) then(n,NameKind.cell) else(n,k)).lookup x=some k'/\(k'=k\/(k=.free/\k'=.cell))
 |[]=>.inl ⟨rfl,rfl⟩
 | (n,k)::r=>by
  have ih:=@gF env x r;show(List.lookup x ((if (k == NameKind.free&&env.scope.kind == .function&&env.kindOf n == some .cell)=true then(n,NameKind.cell) else(n,k))::_)=none/\_)\/∃k' k'',_/\List.lookup x ((if (k == NameKind.free&&env.scope.kind == .function&&env.kindOf n == some .cell)=true then(n,NameKind.cell) else(n,k))::_)=_/\_;by_cases hc:(k == NameKind.free&&env.scope.kind == .function&&env.kindOf n == some .cell)=true
  ·rw[Ag hc,cU,cU];have hk:k=.free:=by
    simp only[Zj]at hc;simpa using hc.1.1
   by_cases hx:(x == n)=true
   ·rw[Ag hx,Ag hx];exact .inr ⟨k,.cell,rfl,rfl,.inr ⟨hk,rfl⟩⟩
   ·rw[Ak hx,Ak hx];exact ih
  ·rw[Ak hc,cU,cU];by_cases hx:(x == n)=true
   ·rw[Ag hx,Ag hx];exact .inr ⟨k,k,rfl,rfl,.inl rfl⟩
   ·rw[Ak hx,Ak hx];exact ih
abbrev Td(X:Cx)(N:List Str)(scope:Scope)(C:Addr)(s:Shared)(H:Hp)(fp:List Addr):Cx :=
 { X with N:=N,s₀:=s,H₀:=H,env:=compEnvC scope (cz X.env scope.names []) C X.env,outer:=X.stack,stack:=X.stack,ex:=fp,fn:=λ_=>false,pn:=[],xe:=λ_ _=>False }
structure V5(X:Cx)(N:List Str)(k:Nat)(VW:List Nat)(scope:Scope):Prop where
 kind:scope.kind=.function
 nocell:∀y∈scope.names,y.2≠.cell
 loc:∀y∈scope.names,y.2=.local->scope.names.lookup y.1=some .local
 free:∀y∈scope.names,y.2=.free->(X.env.kindOf y.1=some .cell\/X.env.kindOf y.1=some .free)
 len:N.length=k+VW.length
 cap:∀(j i:Nat),VW[j]?=some i->∃x,N[k+j]?=some x/\X.N[i]?=some x/\scope.names.lookup x=some .free
def Te(k:Nat)(VW:Se Nat)(σ:St):St:=List.replicate k none++VW.map λi=>(σ[i]?).getD none
section
variable {X:Cx}{VW:Se Nat}{scope:Scope}
theorem V5.cells(S:V5 X N k VW scope)(ok:X.Ok):∀x∈scope.names,x.2=.free->∃c,X.env.cells.lookup x.1=some c:=λx hx hk=>ok.has x.1<|S.free x hx hk
def V5.sub(S:V5 X N k VW scope)(ok:X.Ok)(e:(cz X.env scope.names []).lookup x=some c):X.env.cells.lookup x=some c :=
 iF _ _ (S.cells ok) (λy c h=>by cases h) e
def V5.has(S:V5 X N k VW scope)(ok:X.Ok)(h:scope.names.lookup x=some .free):∃c,X.env.cells.lookup x=some c/\(cz X.env scope.names []).lookup x=some c:=by
 have hm:=AA h;obtain⟨c,hc⟩:=S.cells ok _ hm rfl;exact⟨c,hc,lY hc _ _<|.inr hm⟩
def yN(σ:St):(Te k VW σ).length=k+VW.length:=by unfold Te;simp
def yO(h:(Te k VW σ)[i]?=some (some v)):∃j i',i=k+j/\VW[j]?=some i'/\σ[i']?=some (some v):=by grind [Te]
def NQ{s:Si}(S:V5 X N k VW scope)(I:Inv X VU σ H s)(hf:∀b∈fp,jR X VU H b)(hlt:∀b∈fp,b<s.heap.objs.size)(hC:s.heap.objs.size<=C) :
  (Td X N scope C s H fp).Ok:=by
 have nfs:∀b∈fp,b∉Tx X.stack:=λb hb z=>by
  rcases Vc.mp (I.stkSub b z) with e|e
  ·exact(hf b hb).2.1 e
  ·exact(hf b hb).2.2.1 e
 refine⟨I.ok.mod,S.kind,I.ok.glob,I.ok.blt,hC,λx y c h1 h2=>I.ok.inj x y c (S.sub I.ok h1)<|S.sub I.ok h2,λx hx=>?_,λx c h=>(by cases h),I.ok.hd,I.ok.frames,.inl rfl,λb hb=>⟨?_,λx c e=>?_⟩,I.bs,Ve I.ok.bsz I.sz,λb o e hb=>?_,nfs,I.stack,I.stkFree⟩
 ·have hx':(relabel scope X.env).names.lookup x=some .cell\/(relabel scope X.env).names.lookup x=some .free:=hx;rcases gF (env:=X.env) (x:=x) scope.names with⟨e,_⟩|⟨k1,k2,e1,e2,e3⟩
  ·rcases hx' with z|z<;>(have z':=e.symm.trans z;cases z')
  ·have hk2:k2=.cell\/k2=.free:=by
    rcases hx' with z|z
    ·exact .inl<|Option.some.inj<|e2.symm.trans z
    ·exact .inr<|Option.some.inj<|e2.symm.trans z
   have hfree:k1=.free:=by
    rcases e3 with z|⟨z,_⟩
    ·rcases hk2 with q|q
     ·exact absurd (z.symm.trans q)<|S.nocell _<|AA e1
     ·exact z.symm.trans q
    ·exact z
   rw[hfree]at e1;obtain⟨c,_,hc⟩:=S.has I.ok e1;exact⟨c,hc⟩
 ·exact Zh<|Qd (hlt b hb) hC
 ·exact(hf b hb).2.2.2.2.1 x c (S.sub I.ok e)
 ·rcases(hf b hb).2.2.2.1 with z|z
  ·exact I.ok.noex b o e z
  ·exact absurd (Qd (Aj (I.ok.bs b o e).1) z)<|Yj _
def Kr{s s3:Si}(S:V5 X N k VW scope)(I:Inv X VU σ H s)(hf:∀b∈fp,jR X VU H b)(hlt:∀b∈fp,b<s.heap.objs.size)
  (hC:s.heap.objs.size<=C)(hos:s3.os=s.os)(hg:s3.gens=s.gens)(kp:∀b o,s.heap.get? b=some o->s3.heap.get? b=some o)(hn:s3.heap.Ns C m):Inv (Td X N scope C s H fp) [] (Te k VW σ) H s3:=by
 refine⟨NQ S I hf hlt hC,hos,by rw[hg];exact I.bare,Un.kept kp,⟨m,hn,λi x v e1 e2 e3=>?_⟩,λx c e=>?_,I.hok.fresh hC,λx c e=>I.freeC x c<|S.sub I.ok e,λp hp=>absurd hp<|by simp,I.hok.kept kp,by rw[yN];exact S.len.symm⟩
 ·obtain⟨j,i',rfl,hc,hv⟩:=yO e2;obtain⟨y,h1,h2,h3⟩:=S.cap j i' hc;have exy:y=x:=Option.some.inj<|h1.symm.trans e1;subst exy;obtain⟨c,hc1,hc2⟩:=S.has I.ok h3;obtain⟨m0,hn0,hl0⟩:=I.loc;have hkind:=S.free _ (AA h3) rfl;obtain⟨u,ru,lu⟩:=hl0 i' y v h2 hv<|hkind.elim (λz=>.inr<|.inl z)<|λz=>.inr<|.inr z;refine⟨u,ru,.inr ⟨?_,c,hc2,?_⟩⟩
  ·rcases gF (env:=X.env) (x:=y) scope.names with⟨_,e⟩|⟨k1,k2,q1,q2,q3⟩
   ·rw[e]at h3;cases h3
   ·have hk1:k1=.free:=Option.some.inj<|q1.symm.trans h3;rcases q3 with z|⟨_,z⟩
    ·right;show(relabel scope X.env).names.lookup y=_;exact q2.trans (by rw[z,hk1])
    ·left;show(relabel scope X.env).names.lookup y=_;exact q2.trans (by rw[z])
  ·rcases lu with⟨hk,_⟩|⟨_,c',hc',cell⟩
   ·rcases hkind with z|z<;>(have z':=hk.symm.trans z;cases z')
   ·have:c'=c:=Option.some.inj<|hc'.symm.trans hc1;subst this;obtain⟨o,ho,hd⟩:=cell;exact⟨o,kp _ o ho,hd⟩
 ·obtain⟨v,o,ho,hd⟩:=I.cell x c<|S.sub I.ok e;exact⟨v,o,kp _ o ho,hd⟩
end
def Ut(X:Cx)(ifs:Se Expr)(t:TT):Prop :=
 ∀(VU:Se (Sk×Obj))(s:Si)(σ:St)(H:Hp)(Q:Ss->Hp->Prop),Inv X VU σ H s->t σ H Q->
  wpAny (model X.prog X.w) X.A (forIn ifs true λc r=>if r=true then do let ok <-isTrue c X.env (eval c X.env);pure (ForInStep.yield ok) else pure (ForInStep.yield r)) (TP X VU σ Q) X.xe s
def Qu:TT:=λ_ H Q=>Q true H
def cV:Ut X [] Qu:=λ_ _ _ H _ I h=>wpAny_tests_nil ⟨H,I,h⟩
def pA(h:PT X c t):Ut X [c] t:=λVU s σ H Q I hw=>wpAny_tests_one<|h VU s σ H Q I hw
theorem jW(I:Nat->Si->Prop)
  (turn:∀n s,I n s->wpAny (model prog w) A (pyNext it) (λr s₁=>match r with
   |none=>R (.ok .next) s₁
   |some v=>wpAny (model prog w) A (letOwnedTupleGo target it v) (λ_ s₀=>wpAny (model prog w) A (assign target env v) (λ_ s₂=>
     wpAny (model prog w) A (forIn ifs true λc r=>if r=true then do let ok <-isTrue c env (eval c env);pure (ForInStep.yield ok) else pure (ForInStep.yield r)) (λok s₃=>
      if ok=true then wpAny (model prog w) A (eval elt env) (λx s₄=>
       wpAny (model prog w) A (call (.builtin "list.append") [acc,x]) (λ_ s₅=>∃m,m<n/\I m s₅) (λ_ _=>False) s₄) (λ_ _=>False) s₃
      else ∃m,m<n/\I m s₃) (λ_ _=>False) s₂) (λ_ _=>False) s₀) (λ_ _=>False) s₁) (λ_ _=>False) s)
  (n:Nat) (h:I n s) :
  codeAny (model prog w) A (.compLoop (.ListComp elt [⟨target,iter,ifs,0⟩] scope pos) 0 it acc env) R s:=by
 refine codeAny_loop rfl I (λn s hI=>?_) n h;show wpAny _ A ((compTurn (.ListComp elt [⟨target,iter,ifs,0⟩] scope pos) 0 it acc env).onRaise (λx=>do noteFrame x env;theTreesLotGoes x)) _ _ s
 refine wpAny_noted ?_;rw[compTurn_list];refine Aa<|wpAny_standAt<|Aa<|Ay (turn n s hI) (λr s₁ h₁=>?_) λ_ _ h'=>False.elim h';cases r with
 |none=>exact Ad h₁
 |some v=>
  refine Aa<|Ay h₁ (λ_ s₀ h₀=>(Aa<|Ay h₀ (λ_ s₂ h₂=>Aa<|Ay h₂ (λok s₃ h₃=>?_) λ_ _ h'=>False.elim h') λ_ _ h'=>False.elim h')) λ_ _ h'=>False.elim h';cases ok with
  |false=>exact Ad ⟨rfl,h₃⟩
  |true=>
   exact Aa<|Aa<|Ay h₃ (λx s₄ h₄=>Aa<|Ay h₄ (λ_ s₅ h₅=>Ad<|Ad ⟨rfl,h₅⟩) λ_ _ h'=>False.elim h') λ_ _ h'=>False.elim h'
def sr(k:Nat)(VW:Se Nat)(wi:TI)(g:TG)(tc:TT)(te:TE):TE:=λσ H Q=>wi σ H λJ H1=>∃(n:Nat)(W:Nat->Se V->Hp->Prop),W 0 [] H1 /\
 (∀xs H,W n xs H->J.stop n H/\∀p,H p=none->Q (.ref p) (upd H p<|.lst xs)) /\
 ∀i xs H,i<n->W i xs H->J.go i H/\xs.length<sizeLine/\∀x H',J.yld i H x H'->g x (Te k VW σ) H' λσ2 H2=>tc σ2 H2 λok H3=>
  if ok=true then te σ2 H3 λy H4=>σ2.drop k=(Te k VW σ).drop k/\W (i+1) (xs++[y]) H4
  else σ2.drop k=(Te k VW σ).drop k/\W (i+1) xs H3
abbrev fV(its:List Value)(n:Nat):Obj:={ cls:=.type "list",data:=.seq its.toArray n }
def MC(X:Cx)(VU:Se (Sk×Obj))(H:Hp)(C:Sk):Prop :=
 H C=none/\C≠X.env.locals/\(C∈X.ex\/X.s₀.heap.objs.size<=C)/\(∀x c,X.env.cells.lookup x=some c->c≠C)/\∀p∈X.pn++VU,p.1≠C
inductive CI(X':Cx)(A:Addr)(σ:St)(tn:Nat->Heap->Prop)(fp:List Addr)(n0:Nat)(W:Nat->List V->Hp->Prop)(n:Nat)(s':Shared):Prop
 | mk (i:Nat) (xs:List V) (its:List Value) (nn:Nat) (H':Hp) (J:Inv X' [(A,fV its nn)] σ H' s') (st:tn i s'.heap) (fr:∀b∈fp,H' b=none) (vs:V0 xs its) (hz:xs.length<=sizeLine) (hn:n=n0-i) (hi:i<=n0) (w:W i xs H')
def vH{X:Cx}
  (S:V5 X N k VW scope)(hc:X.calm=true)(hi:PI X tg iter wi)
  (hg:∀C s H fp,PG (Td X N scope C s H fp) tg g) (ht:∀C s H fp,Ut (Td X N scope C s H fp) ifs tc) (he:∀C s H fp,PE (Td X N scope C s H fp) elt te)
  (hs:∀x,foldedSetIterable iter X.env x=pure x) (I:Inv X VU σ H s) (h:sr k VW wi g tc te σ H Q)
  (fin:∀(D C:Sk)(H4:Hp)(s4:Si)(m:Str->Sf Sh),Inv X VU σ H4 s4->s4.heap.Ns C m->MC X VU H4 C->Q (.ref D) H4->compPost (model X.prog X.w) X.A X.xe use Q' (.ref D) C (.ok .next) s4) :
  wpAny (model X.prog X.w) X.A (comprehension (.ListComp elt [⟨tg,iter,ifs,0⟩] scope pos) scope X.env cpos (newList []) false (eval iter X.env) use) Q' X.xe s:=by
 refine wpAny_comprehension_free rfl hs (mV<|S.cells I.ok) S.kind S.loc<|SM (hi VU s σ H _ I h) λv s1 h1=>SM h1 λitv s2 h2=>?_;obtain⟨it,fp,tn,J,H2,e,I2,T,V4,f2,n0,W,w0,wstop,turn⟩:=h2;subst e;refine Ar<|wpAny_newFunctionEnv S.nocell (by intro y hy;simp at hy) (λh₁ hns₁ hsb₁=>?_) S.kind
 dsimp only at hns₁ hsb₁ ⊢;generalize hG:s2.heap.push { cls:=.type "list",dict:=none,data:=.seq ([]:Se Sh).toArray }=G at hns₁ hsb₁ ⊢;have hCG:G.objs.size=s2.heap.objs.size+1:=by rw[<-hG,Bw]
 have hDC:s2.heap.objs.size≠G.objs.size:=by lia
 have below:∀b,b<s2.heap.objs.size->b≠G.objs.size/\b≠s2.heap.objs.size:=λb hb=>⟨by lia,by lia⟩
 have old:∀b o,s2.heap.get? b=some o->h₁.get? b=some o:=λb o e=>hsb₁.extBut b o (below b<|Aj e).1<|Ac _<|hG ▸ Ac _ e;have hacc:h₁.get? s2.heap.objs.size=some (fV [] 0):=hsb₁.extBut _ _ hDC<|Ac _<|hG ▸ Ah _ rfl;have hlt:∀b∈fp,b<s2.heap.objs.size:=λb hb=>by obtain⟨o,ho,_⟩:=T.obj 0 _ V4 b hb;exact Aj ho
 have hDf:s2.heap.objs.size∉fp:=λz=>Yj _<|hlt _ z;have hle:s2.heap.objs.size<=G.objs.size:=by lia
 have hDcell:∀x c,(cz X.env scope.names []).lookup x=some c->c≠s2.heap.objs.size:=λx c e z=>by
  obtain⟨v,q⟩:=I2.cell x c<|S.sub I2.ok e;exact absurd q.lt (by rw[z];exact Yj _)
 have hDfs:s2.heap.objs.size∉Tx X.stack:=λz=>by
  obtain⟨_,o,ho,_⟩:=I2.stack.mem z;exact absurd (Aj ho)<|Yj _
 have nfs:∀b∈fp,b∉Tx X.stack:=λb hb z=>by
  rcases Vc.mp (I2.stkSub b z) with e|e
  ·exact(f2 b hb).2.1 e
  ·exact(f2 b hb).2.2.1 e
 have fpk:∀{H':Hp}{its:Se Sh}{n:Nat},(∀b∈fp,H' b=none)->∀b∈fp,jR (Td X N scope G.objs.size s2 H2 fp) [(s2.heap.objs.size,fV its n)] H' b:=λ{H' its n} hn b hb=>
  ⟨hn b hb,(below b (hlt b hb)).1,nfs b hb,.inl hb,λx c e=>(f2 b hb).2.2.2.2.1 x c (S.sub I2.ok e),λp hp=>by
   have e:p=(s2.heap.objs.size,fV its n):=by simpa using hp
   rw[e];exact Az (below b (hlt b hb)).2⟩
 have pinD:∀{H':Hp}{s':Si}{σ':St}{its:Se Sh}{n:Nat},Inv (Td X N scope G.objs.size s2 H2 fp) [] σ' H' s'->s'.heap.get? s2.heap.objs.size=some (fV its n)->H' s2.heap.objs.size=none->Inv (Td X N scope G.objs.size s2 H2 fp) [(s2.heap.objs.size,fV its n)] σ' H' s':=λ{H' s' σ' its n} J e hn=>
  J.pins_of λp hp=>by
   have q:p=(s2.heap.objs.size,fV its n):=by simpa using hp
   rw[q];exact⟨e,hn,hDC,hDfs,λv z=>by cases z⟩
 have I3:Inv (Td X N scope G.objs.size s2 H2 fp) [] (Te k VW σ) H2 { s2 with heap:=h₁,toks:=s2.toks+([]:Se (Str×Sh)).length }:=Kr S I2 f2 hlt hle rfl rfl old hns₁;have loop:codeAny (model X.prog X.w) X.A (.compLoop (.ListComp elt [⟨tg,iter,ifs,0⟩] scope pos) 0 (.ref it) (.ref s2.heap.objs.size)<|compEnvC scope (cz X.env scope.names []) G.objs.size X.env)
   (compPost (model X.prog X.w) X.A X.xe use Q' (.ref s2.heap.objs.size) G.objs.size) { s2 with heap:=h₁,toks:=s2.toks+([]:Se (Str×Sh)).length }:=by
  refine jW (CI (Td X N scope G.objs.size s2 H2 fp) s2.heap.objs.size (Te k VW σ) tn fp n0 W) ?_ n0
   ⟨0,[],[],0,H2,pinD I3 hacc<|I2.hok.fresh<|Qa _,T.keep _ _ _ V4 λb _ o e=>old b o e,λb hb=>(f2 b hb).1,.nil,Vh _,rfl,Vh _,w0⟩
  rintro n s3 ⟨i,xs,its,nn,H3,J3,Wq,fr3,vs3,hz3,hn3,hi3,w3⟩;by_cases hin:i<n0
  rotate_left
  ·have ein:i=n0:=by lia
   subst ein;obtain⟨stop,qn⟩:=wstop xs H3 w3;refine SM (T.done (Td X N scope G.objs.size s2 H2 fp) rfl rfl rfl hc i _ s3 _ H3 _ J3 (fpk fr3) Wq stop) λr s4 zz9=>?_;obtain⟨hr,J4⟩:=zz9;subst hr;obtain⟨eD,nD,_⟩:=J4.pin (s2.heap.objs.size,fV its nn) (by simp)
   have eD:s4.heap.get? s2.heap.objs.size=some (fV its nn):=eD;have nD:H3 s2.heap.objs.size=none:=nD;obtain⟨m4,hm4,_⟩:=J4.loc;have U:Un (Tx X.stack) fp H2 H3 s2.heap s4.heap:=J4.base;have neC:∀b o,s2.heap.get? b=some o->b≠G.objs.size:=λb o e=>(below b<|Aj e).1;have neD:∀b o,s2.heap.get? b=some o->b≠s2.heap.objs.size:=λb o e=>(below b<|Aj e).2;have H2D:H2 s2.heap.objs.size=none:=I2.hok.fresh<|Qa _;have HC:H3 G.objs.size=none:=J4.free;refine fin s2.heap.objs.size G.objs.size (upd H3 s2.heap.objs.size<|.lst xs) s4 m4 (I2.call' (s':=s4) (ch:=fp) J4.os ?_ ?_ J4.bare ?_) hm4 ?_<|qn _ nD
   ·refine⟨λb o e n hb hx=>U.keep b o e n hb hx,λb o e n hb hx=>U.slot b o e n hb hx,λb o e n hx=>?_,λb o e hx=>U.there b o e hx,λb ys e=>?_,λb o u e=>?_,λb ps e=>?_⟩
    ·rw[aV<|neD b o e];exact U.free b o e n hx
    ·rw[aV<|bJ e H2D];exact U.tups b ys e
    ·rw[aV<|bJ e H2D];exact U.frzs b o u e
    ·obtain⟨more,q⟩:=U.tbls b ps e;exact⟨more,by rw[aV<|bJ e H2D];exact q⟩
   ·intro b u e;by_cases hb:b=s2.heap.objs.size
    ·subst hb;rw[bH]at e;cases e;exact⟨hz3,its,nn,vs3,eD⟩
    ·rw[aV hb]at e;exact(J4.hok b u e).stay (λc v _ q=>q) (λc q=>by rw[aV<|bJ q nD];exact q) λc ys q=>by rw[aV<|bJ q nD];exact q
   ·exact λb hb=>⟨(f2 b hb).2.2.2.1,(f2 b hb).2.1,(f2 b hb).2.2.2.2.1,(f2 b hb).2.2.2.2.2⟩
   ·refine⟨by rw[aV<|Az hDC];exact HC,Yl<|Qd I2.lt hle,.inr<|Ve I2.sz hle,λx c e z=>?_,λp hp z=>?_⟩
    ·obtain⟨v,q⟩:=I2.cell x c e;exact absurd (Qd q.lt (by rw[z];exact hle))<|Yj _
    ·exact absurd (Qd (Aj (I2.pin p hp).1) (by rw[z];exact hle))<|Yj _
  ·obtain⟨go,hz,step⟩:=turn i xs H3 hin w3;refine SM (T.item (Td X N scope G.objs.size s2 H2 fp) rfl rfl rfl hc i _ s3 _ H3 _ J3 (fpk fr3) Wq go) λr s4 zz9=>?_;obtain⟨u,hr,h4⟩:=zz9;subst hr;refine SM h4 λ_ s5 zz9=>?_;obtain⟨x,H5,J5,r5,y5,st5,fr5⟩:=zz9;refine SM (hg _ _ _ _ _ s5 _ H5 x u _ (J5.pinned (fpk fr5)<|T.obj _ _ st5) r5<|step x H5 y5) λ_ s6 zz9=>?_;obtain⟨σ6,H6,J6,q6⟩:=zz9;refine SM (ht _ _ _ _ _ s6 σ6 H6 _ J6 q6) λok s7 zz9=>?_;obtain⟨H7,J7,q7⟩:=zz9;have wk:∀{σ8:St}{H8:Hp}{s8:Si}{pl:Se (Sk×Obj)},Inv (Td X N scope G.objs.size s2 H2 fp) pl σ8 H8 s8->σ8.drop k=(Te k VW σ).drop k->Inv (Td X N scope G.objs.size s2 H2 fp) pl (Te k VW σ) H8 s8:=λ{σ8 H8 s8 pl} J8 hd=>
    J8.weak (by rw[yN,J8.len];exact S.len.symm) λj v e=>by
     obtain⟨j',i',rfl,hc',hv'⟩:=yO e;have e1:((Te k VW σ).drop k)[j']?=some (some v):=by rw[Zg];exact e
     rw[<-hd,Zg]at e1;exact e1
   have recs:∀{σ8:St}{H8:Hp}{s8:Si},Inv (Td X N scope G.objs.size s2 H2 fp) ([(s2.heap.objs.size,fV its nn)]++p9 fp s5.heap) σ8 H8 s8->(∀b∈fp,∀o,s5.heap.get? b=some o->s8.heap.get? b=some o)/\(∀b∈fp,H8 b=none):=λ{σ8 H8 s8} J8=>
    ⟨λb hb o e=>(J8.pin (b,o) (Vd _ (Vd _ (jd hb e)))).1,λb hb=>by
     obtain⟨o,e,d⟩:=T.obj _ _ st5 b hb
     exact(J8.pin (b,o) (Vd _ (Vd _ (jd hb e)))).2.1⟩
   cases ok with
   |false=>
    rw[Ak<|by decide]at q7 ⊢
    obtain⟨hd,w7⟩:=q7;obtain⟨k1,k2⟩:=recs J7;exact⟨n0-(i+1),by lia,i+1,xs,its,nn,H7,wk J7.unpinned hd,T.keep _ _ _ st5 k1,k2,vs3,hz3,rfl,hin,w7⟩
   |true=>
    rw[Ag rfl]at q7 ⊢;refine SM (he _ _ _ _ _ s7 σ6 H7 _ J7 q7) λuy s8 zz9=>?_;obtain⟨y,H8,J8,r8,hd,w8⟩:=zz9;obtain⟨k1,k2⟩:=recs J8;obtain⟨eD,nD,_⟩:=J8.pin (s2.heap.objs.size,fV its nn) (by simp)
    have eD:s8.heap.get? s2.heap.objs.size=some (fV its nn):=eD;have nD:H8 s2.heap.objs.size=none:=nD;have hl3:=vs3.length;refine Cf F.slot_list_append ⟨_,eD,rfl⟩ F.entry_list_append (F.args_list_append_2 _ _) (PySem.list_append s2.heap.objs.size its.toArray nn uy (by rw[Xc];lia)) ⟨eD,?_⟩
    have q:=PySem.IsL.update eD (λa:Sj Sh=>a.push uy);have qe:its.toArray.push uy=(its++[uy]).toArray:=by simp
    rw[qe]at q;have oth:∀b o,b≠s2.heap.objs.size->s8.heap.get? b=some o->(s8.heap.update s2.heap.objs.size<|Obj.mapSeq λa=>a.push uy).get? b=some o:=λb o hb e=>(A7 s8.heap _<|Az hb).trans e;have J9:Inv (Td X N scope G.objs.size s2 H2 fp) [] σ6 H8 { s8 with heap:=s8.heap.update s2.heap.objs.size<|Obj.mapSeq λa=>a.push uy,toks:=s8.toks } :=
     (J8.pins_of (pins':=[]) λp hp=>absurd hp<|by simp).turned oth nD hDC (.inr<|Qa _) hDcell (λp hp=>absurd hp<|by simp)
    refine⟨n0-(i+1),by lia,i+1,xs++[y],its++[uy],_,H8,wk (pinD J9 q nD) hd,T.keep _ _ _ st5 λb hb o e=>oth b o (λz=>hDf<|z ▸ hb)<|k1 b hb o e,k2,vs3.append<|.cons r8 .nil,?_,rfl,hin,w8⟩
    rw[Xa,Vf];lia
 exact codeAny_compStart_list loop<|T.self _ 0 _ _ _ (T.keep _ _ _ V4 λb _ o e=>old b o e) loop
def Inv.aside{s:Si}(I:Inv X VU σ H s)(a:MC X VU H C)(hs:Heap.SameBut C s.heap h'):Inv X VU σ H { s with heap:=h' } :=
 I.turned (t':=s.toks) (λb o hb e=>hs.extBut b o hb e) a.1 a.2.1 a.2.2.1 a.2.2.2.1 a.2.2.2.2
def cW{X:Cx}(S:V5 X N k VW scope)(hc:X.calm=true)(hi:PI X tg iter wi)
  (hg:∀C s H fp,PG (Td X N scope C s H fp) tg g)(ht:∀C s H fp,Ut (Td X N scope C s H fp) ifs tc)(he:∀C s H fp,PE (Td X N scope C s H fp) elt te)
  (hs:∀x,foldedSetIterable iter X.env x=pure x:=by intro _;rfl):PE X (.ListComp elt [⟨tg,iter,ifs,0⟩] scope pos) (sr k VW wi g tc te):=by
 walk_at "9";rw[eval_ListComp];exact vH (use:=none) S hc hi hg ht he hs I h λD C H4 s4 m I4 hm a q=>⟨m,hm,λh' hs'=>⟨.ref D,H4,I4.aside a hs',rfl,q⟩⟩
def Ks{X:Cx}{pos py spos:Pos}(S:V5 X N k VW scope)(hc:X.calm=true)(hN:X.N.Nodup)(hi':X.N[i]?=some y)(hy:Loc X.env.scope y)(hi:PI X tg iter wi)
  (hg:∀C s H fp,PG (Td X N scope C s H fp) tg g)(ht:∀C s H fp,Ut (Td X N scope C s H fp) ifs tc)(he:∀C s H fp,PE (Td X N scope C s H fp) elt te)
  (hs:∀x,foldedSetIterable iter X.env x=pure x:=by intro _;rfl) (hsw:swapsWith (.ListComp elt [⟨tg,iter,ifs,0⟩] scope pos) (some<|.Name y py) spos.line X.env=pure true:=by rfl)
  (hf:X.fn y=true\/X.env.scope.names.lookup y=some .local:=by first|exact .inl rfl|exact .inr rfl|assumption) :
  PS X (.Assign [.Name y py] (.ListComp elt [⟨tg,iter,ifs,0⟩] scope pos) spos) (Ex (sr k VW wi g tc te)<|p8 i):=by
 walk_at "H";rw[exec_Assign_Name_used _ _ _ _ hsw];refine Aa<|wpAny_standAt<|Aa ?_;show wpAny _ X.A (do let _ <-comprehension (.ListComp elt [⟨tg,iter,ifs,0⟩] scope pos) scope X.env _ (newList []) false (eval iter X.env) (some<|assign (.Name y py) X.env)) _ _ s
 refine Aa<|Ay (vH (use:=some<|assign (.Name y py) X.env) (Q':=λ_ s'=>SP X VU D .next s') S hc hi hg ht he hs I h ?_) (λ_ s' hq=>Ad<|Ad hq) λ_ _ e=>e
 intro Da C H4 s4 m I4 hm a q;refine wpAny_assign_Name<|rW I4 hN hi' hy (show RelV (.ref Da) (.ref Da) from rfl) (λs5 I5 zz9=>?_) hf;obtain⟨b,sb,hb⟩:=zz9;have hbC:C≠b:=by
  rcases hb with z|z
  ·rw[z];exact a.2.1
  ·exact λe=>a.2.2.2.1 _ _ z e.symm
 exact⟨m,hm.sameBut sb hbC,λh' hs'=>⟨_,H4,I5.aside a hs',q⟩⟩
def U3(x:Str):It:=⟨λi _=>i<x.cps.size,λi H v H'=>H'=H/\∃c,x.cps[i]?=some c/\v=.str ⟨#[c]⟩,λi _=>x.cps.size<=i⟩
def EN{P:Su}{w:Sx}{K:Ab}{tg:Expr}(it:Sk)(x:Str)(t:Tok):Turn P w K tg (U3 x) [it] it (λi h=>h.IsStrIter it "str_ascii_iterator" x t i) where
 mem:=by simp
 obj:=λi h st b hb=>by
  walk_at "q"
  subst e;obtain⟨o,e,c,d⟩:=st;walk_at "n"
 keep:=λi h h' st k=>let⟨o,ho,r⟩:=st;⟨o,k it (by simp) o ho,r⟩
 item:=by
  walk_at "1";subst hP hw hK;walk_at "2"
  have hg':i<x.cps.size:=hg;refine wpAny_pyNext_ascii_item st (c:=x.cps[i]) (by simp[hg']) λh' VX sb=>?_
  have I1:Inv X VU σ H { s with heap:=h',toks:=s.toks+1 }:=I.turned (λb o hb e=>sb.extBut b o hb e) f0 f1 f3 f4 f5;obtain⟨o,e,c,d⟩:=id VX;exact⟨_,rfl,rX (s:={ s with heap:=h',toks:=s.toks+1 }) e c d (by decide) ⟨.str ⟨#[x.cps[i]]⟩,H,I1,⟨_,rfl⟩,⟨rfl,_,by simp[hg'],rfl⟩,VX,λb hb=>(hf b hb).1⟩⟩
 done:=by
  walk_at "1";subst hP hw hK;walk_at "2"
  have hg':x.cps.size<=i:=hg;exact wpAny_pyNext_ascii_end (I.ok.hd hc) st (by simp[hg']) λh' eb=>⟨rfl,I.turned (t':=s.toks) (λb o hb e=>eb b o hb e) f0 f1 f3 f4 f5⟩
 self:=λ_ _ _ _ _ st h=>wpAny_pyIter_striter_ascii st h
def EO{P:Su}{w:Sx}{K:Ab}{tg:Expr}(it:Sk)(x:Str)(t:Tok):Turn P w K tg (U3 x) [it] it (λi h=>h.IsStrIter it "str_iterator" x t i) where
 mem:=by simp
 obj:=λi h st b hb=>by
  walk_at "q"
  subst e;obtain⟨o,e,c,d⟩:=st;walk_at "n"
 keep:=λi h h' st k=>let⟨o,ho,r⟩:=st;⟨o,k it (by simp) o ho,r⟩
 item:=by
  walk_at "1";subst hP hw hK;walk_at "2"
  have hg':i<x.cps.size:=hg;refine wpAny_pyNext_wide_item st (c:=x.cps[i]) (by simp[hg']) λh' VX sb=>?_
  have I1:Inv X VU σ H { s with heap:=h',toks:=s.toks+1 }:=I.turned (λb o hb e=>sb.extBut b o hb e) f0 f1 f3 f4 f5;obtain⟨o,e,c,d⟩:=id VX;exact⟨_,rfl,rX (s:={ s with heap:=h',toks:=s.toks+1 }) e c d (by decide) ⟨.str ⟨#[x.cps[i]]⟩,H,I1,⟨_,rfl⟩,⟨rfl,_,by simp[hg'],rfl⟩,VX,λb hb=>(hf b hb).1⟩⟩
 done:=by
  walk_at "1";subst hP hw hK;walk_at "2"
  have hg':x.cps.size<=i:=hg;exact wpAny_pyNext_wide_end (I.ok.hd hc) st (by simp[hg']) λh' eb=>⟨rfl,I.turned (t':=s.toks) (λb o hb e=>eb b o hb e) f0 f1 f3 f4 f5⟩
 self:=λ_ _ _ _ _ st h=>wpAny_pyIter_striter_wide st h
section
variable {X:Cx}
def NR(tl:TE):TI:=λσ H R=>tl σ H λx H1=>∃z,x=.str z/\R (U3 z) H1
def NS{l:Expr}{tl:TE}(hl:PE X l tl):PI X tg l (NR tl):=by
 intro VU s σ H R I h;refine SM (hl VU s σ H _ I h) λv s1 zz9=>?_;walk_at "8";obtain⟨z,e,q⟩:=q1;subst e;obtain⟨t,rfl⟩:=r1;have fpk:∀b∈[s1.heap.objs.size],jR X VU H1 b:=λb hb=>by
  have e:b=s1.heap.objs.size:=by simpa using hb
  subst e;walk_at "p"
 cases ha:z.cps.all (·<128) with|true=>exact wpAny_pyIter_ascii ha ⟨s1.heap.objs.size,[s1.heap.objs.size],_,_,H1,rfl,I1.kept (t':=s1.toks) λb o e=>Ac _ e,EN _ z t,⟨_,Ah _ rfl,rfl,rfl⟩,fpk,q⟩|false=>exact wpAny_pyIter_wide ha ⟨s1.heap.objs.size,[s1.heap.objs.size],_,_,H1,rfl,I1.kept (t':=s1.toks) λb o e=>Ac _ e,EO _ z t,⟨_,Ah _ rfl,rfl,rfl⟩,fpk,q⟩
theorem range_all(bs:Se Ss):(List.range bs.length).all (λi=>bs.getD i true)=bs.all id:=by
 induction bs with
 |nil=>rfl
 |cons b r ih=>
  rw[Wc,DT,B9,De,B9,<-ih];rfl
def gG(hc:X.calm=true):V9 X (.builtin "all") (λxs H Q=>∃(p:Sk)(bs:Se Ss),xs=[.ref p]/\SW X.K H p (bs.map V.bl)/\Q (.bl<|bs.all id) H):=by
 intro VU s σ H xs us Q I rv h;obtain⟨p,bs,rfl,hq,q⟩:=h;walk_at "a";cases ru;walk_at "N";have hlen:its.length=bs.length:=by have:=r.length;simpa using this.symm
 obtain⟨op,np,ep,cp,dp,sp⟩:=id pl;have hne:p≠s.heap.objs.size:=Zh<|Aj ep;refine call_all_walk<|B1 pl.isList<|⟨s.heap.objs.size,_,_,_,_,_,λi=>bs.getD i true,rfl,Walks.list (show X.A.in1.handled=none from I.ok.hd hc) s.heap.objs.size p hne its.toArray,⟨⟨_,Ah _ rfl,rfl,rfl⟩,⟨op,Ac _ ep,cp,np,sp⟩⟩,?_,λh' tk kp=>?_⟩
 ·intro i v s' Q' E' hv hQ';have hv':its[i]?=some v:=by simpa using hv
  have hi:i<its.length:=(Vb.mp hv').1;have hb:(bs.map V.bl)[i]?=some (V.bl<|bs[i]'(by lia)):=by
   rw[Xd,Za<|by lia];rfl
  obtain⟨u',e1,e2⟩:=r.get hb;rw[hv']at e1;cases e1;cases e2;have:bs.getD i true=bs[i]'(by lia):=by rw[Yb,Za<|by lia];rfl
  have hQ2:Q' (bs.getD i true) s':=hQ';rw[this]at hQ2;exact Ax hQ2
 ·have e:(List.range its.toArray.size).all (λi=>bs.getD i true)=bs.all id:=by
   rw[Xc,hlen];exact range_all bs
  rw[e]
  exact⟨.bl (bs.all id),H,I.kept (λb o e=>kp b o (by
   intro z;have z':b=s.heap.objs.size:=by simpa using z
   exact absurd (Aj e) (by rw[z'];exact Yj _)) (Ac _ e)),rfl,q⟩
theorem qd:∀{ys:Se Str}{us:Se Sh},V0 (ys.map V.str) us->StrsAre us ys
 |[],_,r=>by cases r;exact .nil
 | y::ys,_,r=>by
  cases r with
  |cons a b=>
   obtain⟨t,rfl⟩:=a;exact .cons y t<|qd b
def Kt:UI X "str.join" (λx vs H Q=>∃(sep:Str)(p:Sk)(ys:Se Str),x=.str sep/\vs=[.ref p]/\SW X.K H p (ys.map V.str)/\(ys.map (·.length)).sum+ys.length*sep.length<=16777216/\Q (.str<|Txt.join sep ys) H):=by
 walk_at "f";obtain⟨sep,p,ys,rfl,rfl,hq,hz,q⟩:=h;walk_at "b";walk_at "a";cases ru;obtain⟨its,r,pl,_⟩:=I.list hq;exact join_list pl.isList (qd<|by simpa using r) hz λt' k=>⟨.str _,H,I.tok k,⟨t',rfl⟩,q⟩
def sgn(x:Str):Se V:=x.cps.toList.map λc=>.str ⟨#[c]⟩
def vI{x:Str}{acc:Sj Sh}(h:ItemsOf (SignAt x) acc x.cps.size):V0 (sgn x) acc.toList:=by
 obtain⟨h1,h2⟩:=h;have gen:∀(cs:Se Nat)(us:Se Sh),us.length=cs.length->(∀(j:Nat) v,us[j]?=some v->∃c u,cs[j]?=some c/\v=Value.str ⟨#[c]⟩ u)->V0 (cs.map λc=>V.str ⟨#[c]⟩) us:=by
  intro cs;induction cs with
  | nil=>intro us hl _;cases us with|nil=>exact .nil|cons _ _=>cases hl
  |cons c cs ih=>
   intro us hl hu;cases us with
   |nil=>cases hl
   |cons u us=>
    obtain⟨c',tk,e1,e2⟩:=hu 0 u rfl;have:c=c':=by simpa using e1
    subst this;subst e2;refine .cons ⟨tk,rfl⟩<|ih us (by simpa using hl) λj v e=>?_
    have:=hu (j+1) v (by simpa using e)
    simpa using this
 refine gen x.cps.toList acc.toList (by simp[h1]) λj v e=>?_
 obtain⟨c,u,e1,e2⟩:=h2 j v (by simpa using e)
 exact⟨c,u,by simpa using e1,e2⟩
def yP(x:Str):(sgn x).length=x.cps.size:=by simp[sgn]
def qf(hc:X.calm=true):V9 X (.type "list") (λxs H Q=>∃z:Str,xs=[.str z]/\z.cps.size<=sizeLine/\∀l,H l=none->Q (.ref l) (upd H l<|.lst<|sgn z)):=by
 intro VU s σ H xs us Q I rv h;obtain⟨z,rfl,hz,q⟩:=h;walk_at "a";obtain⟨t,rfl⟩:=ru;refine call_list_str (I.ok.hd hc) z t (λh' tk acc' c' kp hS hi=>(⟨.ref s.heap.objs.size,upd H s.heap.objs.size<|.lst<|sgn z,I.laid kp (Qa _) ⟨by rw[yP];exact hz,acc'.toList,c',vI hi,by simpa using hS⟩,rfl,q _<|I.hok.fresh<|Qa _⟩)) hz
theorem V3.there{h:Sv}(x:V3 P w H h a o):∃ob,h.get? a=some ob:=by
 cases o with
 |lst xs=>obtain⟨_,_,_,_,e⟩:=x;exact⟨_,e⟩
 |tup xs=>obtain⟨_,_,_,o,e,_⟩:=x;exact⟨_,e⟩
 |dK VV=>obtain⟨_,_,_,_,o,_,_,e,_⟩:=x;exact⟨_,e⟩
 |dT ep VV=>obtain⟨_,_,_,_,_,o,_,e,_⟩:=x;exact⟨_,e⟩
 |set S n=>obtain⟨o,_,_,_,e,_⟩:=x;exact⟨_,e⟩
 |ins C dx fs=>obtain⟨_,_,_,e,_⟩:=x;exact⟨_,e⟩
 |own y=>exact x
 |xd fs=>obtain⟨_,⟨_,_,_,e,_⟩,_⟩:=x;exact⟨_,e⟩
 |rng lo hi=>obtain⟨_,_,_,e⟩:=x;exact⟨_,e⟩
 |frz ob u=>obtain⟨e,_⟩:=x;exact⟨_,e⟩
 |tbl ps=>exact⟨_,x⟩
 |met f y=>exact⟨_,x⟩
 |ext φ=>obtain⟨_,e,_⟩:=x;exact e
def Inv.laid2{s:Si}{h':Sv}{t':Nat}(I:Inv X VU σ H s)(k:∀b u,s.heap.get? b=some u->h'.get? b=some u)(hne:∀b u,s.heap.get? b=some u->b≠a)(hn:H a=none)(new:V3 X.prog X.w (upd H a o) h' a o) :
  Inv X VU σ (upd H a o) { s with heap:=h',toks:=t' }:=by
 refine I.un ⟨λb u e _ _ _=>k b u e,λb u e _ _ _=>⟨u.slots,k b u e⟩,λb u e n _=>by rw[aV<|hne b u e];exact n,λb u e _=>⟨u,k b u e⟩,λb xs e=>by rw[aV<|bJ e hn];exact e,λb u v e=>by rw[aV<|bJ e hn];exact e,λb ps e=>⟨#[],by rw[aV<|bJ e hn,e];simp⟩⟩ ?_
 intro b u e;by_cases hb:b=a
 ·subst hb;rw[bH]at e;cases e;exact new
 ·rw[aV hb]at e;exact(I.hok b u e).stay (λc v _ q=>k c v q) (λc q=>by rw[aV<|bJ q hn];exact q) λc xs q=>by rw[aV<|bJ q hn];exact q
def oV(hc:X.calm=true):V9 X (.type "tuple") (λxs H Q=>∃z:Str,xs=[.str z]/\z.cps.size<=sizeLine/\∀l,H l=none->Q (.ref l) (upd H l<|.tup<|sgn z)):=by
 intro VU s σ H xs us Q I rv h;obtain⟨z,rfl,hz,q⟩:=h;walk_at "a";obtain⟨t,rfl⟩:=ru;refine call_tuple_str (I.ok.hd hc) z t (λh' tk acc kp hi=>?_) hz;have hne:∀b u,s.heap.get? b=some u->b≠h'.objs.size:=λb u e z=>absurd (Aj<|kp b u e) (by rw[z];exact Yj _)
 have hn:H h'.objs.size=none:=by
  cases e:H h'.objs.size with
  |none=>rfl
  |some o=>
   obtain⟨ob,eo⟩:=(I.hok _ _ e).there;exact absurd rfl<|hne _ _ eo
 refine⟨.ref h'.objs.size,upd H h'.objs.size<|.tup<|sgn z,I.laid2 (λb u e=>Ac _<|kp b u e) hne hn ⟨by rw[yP];exact hz,acc.toList,vI hi,⟨_,Ah _ rfl,rfl,0,by simp⟩⟩,rfl,q _ hn⟩
def NT:Xp X (λx lo hi H Q=>∃z:Str,x=.str z/\z.length<=sizeLine/\Q (.str<|Txt.slice z lo hi) H):=by
 walk_at "E";obtain⟨z,rfl,hz,q⟩:=h;walk_at "b";refine⟨"str",_,F.slot_str_getitem.lookup,Dx _ _ _,?_⟩;have fin:∀(o p:Sf Int),lo=o->hi=p->∀t' k,EP X VU σ Q (.str (Txt.slice z o p) t') { s with toks:=k }:=λo p e1 e2 t' k=>⟨.str _,H,I.tok k,⟨t',rfl⟩,by rw[<-e1,<-e2];exact q⟩
 cases pl with
 |none=>
  cases pu with|none=>exact Br (l:=none) (u:=none) (st:=none) hs rfl (Ct ⟨Ve (C2 z _ _) hz,λt' k=>fin _ _ rfl rfl t' k⟩)|int j uj=>exact Br (l:=none) (u:=some (j,uj)) (st:=none) hs rfl<|Ct ⟨Ve (C2 z _ _) hz,λt' k=>fin _ _ rfl rfl t' k⟩
 |int i ui=>
  cases pu with|none=>exact Br (l:=some (i,ui)) (u:=none) (st:=none) hs rfl (Ct ⟨Ve (C2 z _ _) hz,λt' k=>fin _ _ rfl rfl t' k⟩)|int j uj=>exact Br (l:=some (i,ui)) (u:=some (j,uj)) (st:=none) hs rfl<|Ct ⟨Ve (C2 z _ _) hz,λt' k=>fin _ _ rfl rfl t' k⟩
end
structure Wy(P:Program)(w:World)(K:Ab)(mg:Str->Option Value)(base:Heap)(x:Str)(k:Nat)(ps:List Str)(sp:Sp):Prop where
 ex:∃f fd,WH P w K mg base Tu k f fd ps sp/\mg x=some (.ref f)/\PySem.W.keepIn K (.ref f)=true/\Binds K fd ps []
def EQ(sp:Sp)(t:TA):TE:=λσ H Q=>t σ H λvs H1=>sp vs H1 Q E0
section
variable {X:Cx}
def aA(C:Wy X.prog X.w X.K X.mg X.base x k ps sp)(hr:Ww k' X.A)(hg:Gl X x)(ha:PA X (e::es) t)(hk:k<=k':=by decide)
  (hdb:(x == ("__debug__":Str))=false:=by decide) (he:starEach (e::es) X.env=(false,eval e X.env)::starEach es X.env:=by rfl) (hpl:(backTo pos<|starEach es X.env).any (·.1)=false:=by rfl) :
  PE X (.Call (.Name x p) (e::es) [] pos) (EQ sp t):=by
 obtain⟨f,fd,F,hm,hkp,hb⟩:=C.ex;walk_at "9";refine yE F (hr.mono hk) hg hm hkp hb .nil MB ha hdb he hpl VU s σ H Q I ?_;have e0:EQ sp t=Gm sp [] E0 t:=by
  funext σ H Q
  unfold EQ Gm;simp only[We]
 rw[e0]at h;exact h
def jX:Expr->Ss|.Starred ..=>false|_=>true
def gz(h:jX e=true):starEach (e::es) env=(false,eval e env)::starEach es env:=by
 cases e<;>first|rfl|cases h
def ao(ha:PE X e te)(hr:PA X es t)(h:jX e=true:=by rfl):PA X (e::es) (gE te t):=mR ha hr<|gz h
def strsOf:Se Expr->Sf (Se Str)|[]=>some []|.Constant (.str x) _ _::r=>(strsOf r).map (x::·)|_=>none
def MD(xs:Se Str):TA:=λ_ H Q=>Q (xs.map V.str) H
theorem tT:∀{es:Se Expr}{xs:Se Str},strsOf es=some xs->PA X es (MD xs)
 | [],xs,h=>by
  have e:xs=[]:=(Option.some.inj h).symm;subst e;exact λpos VU s σ H Q I q=>ae pos VU s σ H Q I q
 | e::r,xs,h=>by
  cases e with
  |Constant c j p=>
   cases c with
   |str x=>
    have h':(strsOf r).map (x::·)=some xs:=h;obtain⟨ys,h1,h2⟩:=Wd.mp h';subst h2;intro pos VU s σ H Q I q;exact mR (cj (x:=x)) (tT h1) (gz rfl) pos VU s σ H Q I q
   |_=>cases h
  |_=>cases h
def Ku(hg:Gl X x)(hm:∃t,X.mg x=some (.str z t))(hd:(x == ("__debug__":Str))=false:=by decide):PE X (.Name x pos) (tC<|.str z):=by
 obtain⟨t,h⟩:=hm;exact yx hg h ⟨t,rfl⟩ hd
def Kv(hg:Gl X x)(hm:∃t,X.mg x=some (.int i t))(hd:(x == ("__debug__":Str))=false:=by decide):PE X (.Name x pos) (tC<|.int i):=by
 obtain⟨t,h⟩:=hm;exact yx hg h ⟨t,rfl⟩ hd
def aS(i:Nat){pos' pos:Pos}(hN:X.N.Nodup)(he:PE X e te)(hi:X.N[i]?=some x:=by rfl)(hx:Loc X.env.scope x:=by first|exact Or.inl rfl|exact Or.inr rfl)(hf:X.fn x=true\/X.env.scope.names.lookup x=some .local:=by first|exact .inl rfl|exact .inr rfl|assumption)
  (hs:swapsWithSole [.Name x pos'] e pos.line X.env=pure false:=by rfl) (hw:swappedStores [.Name x pos'] e X.env=pure none:=by rfl) (h1:(assignEach [.Name x pos'] X.env).map (·.2)=[assign (.Name x pos') X.env]:=by rfl) :
  PS X (.Assign [.Name x pos'] e pos) (Ex te<|p8 i):=fU he (yy hN hi hx hf) hs hw h1
def bT(i:Nat)(hN:X.N.Nodup)(hi:X.N[i]?=some x:=by rfl)(hx:Loc X.env.scope x:=by first|exact Or.inl rfl|exact Or.inr rfl)(hf:X.fn x=true\/X.env.scope.names.lookup x=some .local:=by first|exact .inl rfl|exact .inr rfl|assumption):PG X (.Name x pos) (p8 i):=yy hN hi hx hf
def tU(i:Nat){pos py spos:Pos}(S:V5 X N k VW scope)(hc:X.calm=true)(hN:X.N.Nodup)(hi:PI X tg iter wi)
  (hg:∀C s H fp,PG (Td X N scope C s H fp) tg g)(ht:∀C s H fp,Ut (Td X N scope C s H fp) ifs tc)(he:∀C s H fp,PE (Td X N scope C s H fp) elt te)
  (hi':X.N[i]?=some y:=by rfl) (hy:Loc X.env.scope y:=by first|exact Or.inl rfl|exact Or.inr rfl)
  (hs:∀x,foldedSetIterable iter X.env x=pure x:=by intro _;rfl) (hsw:swapsWith (.ListComp elt [⟨tg,iter,ifs,0⟩] scope pos) (some<|.Name y py) spos.line X.env=pure true:=by rfl)
  (hf:X.fn y=true\/X.env.scope.names.lookup y=some .local:=by first|exact .inl rfl|exact .inr rfl|assumption) :
  PS X (.Assign [.Name y py] (.ListComp elt [⟨tg,iter,ifs,0⟩] scope pos) spos) (Ex (sr k VW wi g tc te)<|p8 i):=Ks S hc hN hi' hy hi hg ht he hs hsw hf
end
def dC:bootBuiltins "list"=some (.type "list"):=by decide +kernel
def dE:bootBuiltins "tuple"=some (.type "tuple"):=by decide +kernel
def nP:bootBuiltins "str"=some (.type "str"):=by decide +kernel
def lf:bootBuiltins "int"=some (.type "int"):=by decide +kernel
def gH:bootBuiltins "bool"=some (.type "bool"):=by decide +kernel
def NU{K:Ab}{T S:String}{b:Ss}(h:(if (Value.type T == Value.type S)=true then some true else if PySem.W.kitMeta S=true then(fastBuiltinMro T).map (·.contains (Value.type S)) else none)=some b):PySem.W.kitOne K (.type T) (.type S)=some b:=h
def boot_isinstance:bootBuiltins "isinstance"=some (.builtin "isinstance"):=by decide +kernel
def boot_all:bootBuiltins "all"=some (.builtin "all"):=by decide +kernel
def ME(osc:Scope)(ON N:Se Str)(k:Nat)(VW:Se Nat)(scope:Scope):Ss :=
 decide (scope.kind=.function)&&scope.names.all (λy=>decide<|y.2≠.cell)&&scope.names.all (λy=>decide<|y.2=.local->scope.names.lookup y.1=some .local) &&
 scope.names.all (λy=>decide<|y.2=.free->(osc.names.lookup y.1=some .cell\/osc.names.lookup y.1=some .free))&&decide (N.length=k+VW.length) &&
 (List.range VW.length).all λj=>match VW[j]?,N[k+j]? with|some i,some x=>decide (ON[i]?=some x)&&decide (scope.names.lookup x=some .free)|_,_=>false
def cX{X:Cx}(h:ME osc ON N k VW scope=true)(ho:X.env.scope=osc)(hN:X.N=ON):V5 X N k VW scope:=by
 unfold ME at h;simp only[Zj,decide_eq_true_eq,Vj]at h;obtain⟨⟨⟨⟨⟨h1,h2⟩,h3⟩,h4⟩,h5⟩,h6⟩:=h;refine⟨h1,h2,h3,λy hy hf=>?_,h5,λj i hj=>?_⟩
 ·show X.env.scope.names.lookup y.1=_\/X.env.scope.names.lookup y.1=_;rw[ho];exact h4 y hy hf
 ·have hlt:j<VW.length:=(Vb.mp hj).1;have q:=h6 j<|Zn.mpr hlt;rw[hj]at q;cases e:N[k+j]? with
  |none=>rw[e]at q;cases q
  |some x=>
   rw[e]at q;have q':(decide (ON[i]?=some x)&&decide (scope.names.lookup x=some .free))=true:=q;simp only[Zj,decide_eq_true_eq]at q';exact⟨x,rfl,by rw[hN];exact q'.1,q'.2⟩
def bq(h:H p=none)(o:HO):VZ H (upd H p o):=λb u q=>by rw[aV<|bJ q h];exact q
def Qv:Tb (x::r) 0=some x:=im (j:=0) rfl
def xw{xs:Se α}{i:Int}(h0:0<=i)(h1:i<xs.length):∃v,Tb xs i=some v/\v∈xs/\xs[i.toNat]?=some v:=by
 have hk:i.toNat<xs.length:=by lia
 have ek:i=((i.toNat:Nat):Int):=by lia
 refine⟨xs[i.toNat],?_,Qk hk,Za hk⟩;have q:Tb xs ((i.toNat:Nat):Int)=some xs[i.toNat]:=im<|Za hk;rw[<-ek]at q;exact q
section
variable {X:Cx}
def rE:UI X "str.startswith" (λx vs H Q=>∃(a b:Str),x=.str a/\vs=[.str b]/\Q (.bl<|Txt.startswith a b) H):=by
 walk_at "f";obtain⟨a,b,rfl,rfl,q⟩:=h;walk_at "b";walk_at "a";obtain⟨t',rfl⟩:=ru;exact SC.startswith ⟨.bl _,H,I,rfl,q⟩
def mulOk_of{x:Str}(h0:0<=n)(hn:n<=1000)(hx:x.length<=1000):MulOk x n:=by
 have hx':(x.length:Int)<=1000:=by lia
 have hm:(x.length:Int)*n<=1000*1000:=Int.mul_le_mul hx' hn h0 (by decide)
 have hm2:x.length*n.toNat<=1000*1000:=DB hx (by lia)
 refine⟨?_,λh1 _=>?_,λh1 h2=>?_⟩
 ·rw[Ae<|by lia,Ae<|by lia];rfl
 ·have:(x.length:Int)<=(2 ^ 63-1) / n:=(Int.le_ediv_iff_mul_le<|by lia).mpr (Int.le_trans hm<|by decide)
  lia
 ·unfold Builtin.Str.tooLong;have:=EM<|Qa 1000;exact Ae (by rw[CG];lia)
def xz:Wx X (binaryOp .Mult) (λx y H Q=>∃(a:Str)(n:Int),x=.str a/\y=.int n/\MulOk a n/\Q (.str<|Txt.mul a n) H):=by
 walk_at "3";obtain⟨a,n,rfl,rfl,hok,q⟩:=h;walk_at "b";walk_at "t";exact SB.mul hok λt2 k=>⟨.str _,H,I.tok k,⟨t2,rfl⟩,q⟩
theorem NV(hu:X.A.units<cLine):Wx X (compareOp .NotEq) (λx y H Q=>∃(a b:Sk)(xs:Se V),x=.ref a/\y=.ref b/\SW X.K H a xs/\SW X.K H b []/\Q (.bl<|!xs.isEmpty) H):=by
 walk_at "3";obtain⟨a,b,xs,rfl,rfl,ha,hb,q⟩:=h;cases rx;cases ry;obtain⟨its,r,pl,_⟩:=I.list ha;obtain⟨its2,r2,pl2,_⟩:=I.list hb;cases r2;cases xs with
 |nil=>
  cases r;exact SeqAt.RcNeAt.lists (e:=λ_=>true) pl.isList pl2.isList rfl hu (λj h1 _=>absurd h1<|by simp) _ _ _ _ ⟨.bl _,H,I,rfl,q⟩
 |cons x1 xr=>
  cases r;exact Dz pl.isList pl2.isList (by simp) hu _ _ _ _ ⟨.bl _,H,I,rfl,q⟩
end
def Kw{X:Cx}{K:Ab}(h:X.K=K):XF X (UT K):=h ▸ NI
structure Xv(K:Ab)(x qual:Str)(st:Stmt)(ds:List Value)(f:Addr)(fd:FuncData):Prop where
 ex:∃(oc:Value)(od:Option Addr)(T:Addr)(oT:Obj)(nT:Nat)(kV doc pm:Value)(an:Option Addr)(cdv ct:Value)(osl:Array (Option Value)),
  fd=PySem.W.fnOf x qual (fB st) (dM st) (aq st) (.ref T) kV doc pm an cdv ct/\K.lookup f=some ⟨oc,od,.func fd,osl⟩/\PySem.W.codeIn K cdv qual=true/\K.lookup T=some oT/\oT.data=.seq ds.toArray nT
 kp:PySem.W.keepIn K (.ref f)=true
structure XY(P:Program)(w:World)(K:Ab)(mg:Str->Option Value)(base:Heap)(x:Str)(k:Nat)(ps:List Str)(dvs:List V)(sp:Sp):Prop where
 ex:∃f fd ds,WH P w K mg base Tu k f fd ps sp/\mg x=some (.ref f)/\PySem.W.keepIn K (.ref f)=true/\Binds K fd ps ds/\V0 dvs ds
def MF(sp:Sp)(dvs:Se V)(t:TA):TE:=λσ H Q=>t σ H λvs H1=>sp (vs++dvs) H1 Q E0
section
variable {P:Su}{w:Sx}{K:Ab}{mg:Str->Sf Sh}{base:Sv}
def Xv.ok{x qual:Str}{st:Stmt}{ds:Se Sh}{f:Sk}{fd:FuncData}{N ps:Se Str}{k:Nat}{sp:Sp}(F:Xv K x qual st ds f fd)(S:VY N ps (aq st))(len:∀vs H Q E,sp vs H Q E->vs.length=ps.length)
  (hbody:∀(cdv:Sh)(A:Around)(outer:Se Env)(s:Si)(H:Hp)(vs:Se V)(Q:VK)(E:XK),Ww k (A.deeper (envOfC qual (aq st) s.heap.objs.size f cdv))->sp vs H Q E->
   ∃t,W5 (vz Tu P w K mg base N qual (aq st) f cdv A outer s H E).nox (dM st) t/\t { nx:=λ_ H'=>Q .non H',rt:=Q } (start N vs) H):WH P w K mg base Tu (k+1) f fd ps sp:=by
 obtain⟨oc,od,T,oT,nT,kV,doc,pm,an,cdv,ct,osl,rfl,lk,hcd,_,_⟩:=F.ex;refine Mx lk hcd S len λA outer s H vs Q E hr hsp=>?_;obtain⟨t,h,q⟩:=hbody cdv A outer s H vs Q E hr hsp;exact⟨t,h.nox,q⟩
def Xv.binds{x qual:Str}{st:Stmt}{ds:Se Sh}{f:Sk}{fd:FuncData}{ps:Se Str}(F:Xv K x qual st ds f fd)
  (h:∀(T:Sk)(kV doc pm:Sh)(an:Sf Sk)(cdv ct:Sh)(us:Se Sh),(us++ds).length=ps.length->
   ∃k:Sf (Sj Sh)->Sem (Se (Str×Sh)),bindArgs (PySem.W.fnOf x qual (fB st) (dM st) (aq st) (.ref T) kV doc pm an cdv ct) ⟨us,[]⟩=seqItems? (.ref T) >>= k/\k (some ds.toArray)=pure (ps.zip (us++ds))):Binds K fd ps ds:=by
 obtain⟨oc,od,T,oT,nT,kV,doc,pm,an,cdv,ct,osl,rfl,lk,hcd,hT,hS⟩:=F.ex;intro s us hK hl;obtain⟨k,h1,h2⟩:=h T kV doc pm an cdv ct us hl;exact BindsTo.of_defaults (T:=T) rfl (hK T oT hT) hS h1 h2
end
def Kx{X:Cx}(C:XY X.prog X.w X.K X.mg X.base x k ps dvs sp)(hr:Ww k' X.A)(hg:Gl X x)(ha:PA X (e::es) t)(hk:k<=k':=by decide)
  (hdb:(x == ("__debug__":Str))=false:=by decide) (he:starEach (e::es) X.env=(false,eval e X.env)::starEach es X.env:=by rfl) (hpl:(backTo pos<|starEach es X.env).any (·.1)=false:=by rfl) :
  PE X (.Call (.Name x p) (e::es) [] pos) (MF sp dvs t):=by
 obtain⟨f,fd,ds,F,hm,hkp,hb,hv⟩:=C.ex;walk_at "9";exact yE F (hr.mono hk) hg hm hkp hb hv MB ha hdb he hpl VU s σ H Q I h
theorem jY[DecidableEq α]:∀(l m:Se α),l.Nodup->(∀x∈l,x∈m)->l.length<=m.length
 |[],_,_,_=>Vh _
 | a::l,m,h,hs=>by
  have hm:a∈m:=hs a Zc;have h1:=Xj.mp h;have ih:=jY l (m.erase a) h1.2 λx hx=>by
   have hne:x≠a:=λe=>h1.1<|e ▸ hx;exact(List.mem_erase_of_ne hne).mpr (hs x<|Wb _ hx)
  have hl:=List.length_erase_of_mem hm;have hp:0<m.length:=DU hm;rw[Wc];lia
end L2
namespace VF
open PySem L2
abbrev AS:=Addr->Prop
def SN{α β γ:Type}{o:Sf (α×β)}{f:α×β->Sf γ}{z:γ}{P:Prop}(h:o.bind f=some z)(k:∀a b,o=some (a,b)->f (a,b)=some z->P):P:=by
 obtain⟨⟨a,b⟩,e,h⟩:=Option.bind_eq_some_iff.mp h;exact k a b e h
def SK{α γ:Type}{o:Sf α}{f:α->Sf γ}{z:γ}{P:Prop}(h:o.bind f=some z)(k:∀a,o=some a->f a=some z->P):P:=by
 obtain⟨a,e,h⟩:=Option.bind_eq_some_iff.mp h;exact k a e h
def aQ{i:Decidable c}(h:(if c then x else none)=some z):c/\x=some z:=by simp_all
abbrev U(O Z:AS):AS:=λp=>O p\/Z p
abbrev ins(p:Addr)(O:AS):AS:=λb=>b=p\/O b
inductive D where
 | non|bl (b:Bool)|int (i:Int)|str (x:Str)|tup (ds:List D)|lst (ds:List D)|fl (ds:List D)|ty (n:String)|dk (VV:List (Key×D))|dt (VV:List (List Key×D))
def WZ(K:Ab)(Y:AS)(H:Hp)(a:Sk)(vs:Se V):Prop:=H a=some (.tup vs)/\¬ Y a
def W8(K:Ab)(Y:AS)(H:Hp)(a:Sk)(vs:Se V):Prop:=(Rd H a (.lst vs)/\¬ Y a)\/∀H',SW K H' a vs
def WZ.sq(h:WZ K Y H a vs):S8 K H a vs:=.inl<|.inl h.1
def W8.sq(h:W8 K Y H a vs):SW K H a vs:=by
 rcases h with h|h
 ·exact .inl h.1
 ·exact h H
def KA(Y:AS)(H:Hp)(as:Se Sk):Prop:=∀b∈as,¬ Y b/\H b≠none
theorem KA.go(h:KA Y H as)(k:∀b o,H b=some o->¬ Y b->H' b=some o)(n:∀b,Y' b->Y b\/H b=none):KA Y' H' as:=λb hb=>by
 obtain⟨h1,h2⟩:=h b hb;refine⟨λz=>(n b z).elim h1 h2,?_⟩;cases e:H b with|none=>exact absurd e h2|some o=>rw[k b o e h1];simp
def KA.less(h:KA Y H as)(n:∀b,Y' b->Y b):KA Y' H as:=λb hb=>⟨λz=>(h b hb).1 (n b z),(h b hb).2⟩
inductive DA(K:Ab)(Y:AS)(H:Hp):V->D->Prop where
 | non:DA K Y H .non .non
 | bl (b:Bool):DA K Y H (.bl b) (.bl b)
 | int (i:Int):DA K Y H (.int i) (.int i)
 | str (x:Str):DA K Y H (.str x) (.str x)
 | tup {a:Addr} {vs:List V} {ds:List D}:WZ K Y H a vs->vs.length=ds.length->(∀(i:Nat) v d,vs[i]?=some v->ds[i]?=some d->DA K Y H v d)->DA K Y H (.ref a) (.tup ds)
 | ty (n:String):DA K Y H (.ty n) (.ty n)
 | lst {a:Addr} {vs:List V} {ds:List D}:¬ Y a->H a=some (.lst vs)->vs.length=ds.length->(∀(i:Nat) v d,vs[i]?=some v->ds[i]?=some d->DA K Y H v d)->DA K Y H (.ref a) (.lst ds)
 | fl {a:Addr} {vs:List V} {ds:List D}:W8 K Y H a vs->vs.length=ds.length->(∀(i:Nat) v d,vs[i]?=some v->ds[i]?=some d->DA K Y H v d)->DA K Y H (.ref a) (.fl ds)
 | dk {a:Addr} {VV:List (Key×V)} {ds:List (Key×D)}:¬ Y a->H a=some (.dK VV)->VV.map (·.1)=ds.map (·.1)->(∀(i:Nat) v d,VV[i]?=some v->ds[i]?=some d->DA K Y H v.2 d.2)->DA K Y H (.ref a) (.dk ds)
 | dt {a:Addr} {ep:Nat×List Addr} {VV:List (List Key×V)} {ds:List (List Key×D)}:¬ Y a->KA Y H ep.2->H a=some (.dT ep VV)->VV.map (·.1)=ds.map (·.1)->(∀(i:Nat) v d,VV[i]?=some v->ds[i]?=some d->DA K Y H v.2 d.2)->DA K Y H (.ref a) (.dt ds)
def El(K:Ab)(Y:AS)(H:Hp)(vs:Se V)(ds:Se D):Prop:=vs.length=ds.length/\∀(i:Nat) v d,vs[i]?=some v->ds[i]?=some d->DA K Y H v d
def Lv(H:Hp)(p:Sk):Prop:=H p≠none/\∀vs,H p≠some (.tup vs)
theorem Lv.same(h:Lv H p)(s:∀o,H p=some o->H' p=some o):Lv H' p:=by
 cases e:H p with
 |none=>exact absurd e h.1
 |some o=>
  refine⟨by rw[s o e];simp,λvs z=>h.2 vs ?_⟩
  rw[s o e]at z;rw[e];exact z
structure Wr(O:AS)(H:Hp)(O':AS)(H':Hp):Prop where
 kp:∀b o,H b=some o->¬ O b->H' b=some o
 nw:∀b,O' b->O b\/H b=none
 al:∀b,H b≠none->H' b≠none
 lv:∀b,Lv H b->Lv H' b
section
variable {vs:Se V}{ds:Se D}
def Wr.refl(O:AS)(H:Hp):Wr O H O H:=⟨λ_ _ h _=>h,λ_ h=>.inl h,λ_ h=>h,λ_ h=>h⟩
def Wr.trans(a:Wr O H O1 H1)(b:Wr O1 H1 O2 H2):Wr O H O2 H2:=by
 refine⟨λc o h n=>b.kp c o (a.kp c o h n) λz=>?_,λc h=>?_,λc h=>b.al c<|a.al c h,λc h=>b.lv c<|a.lv c h⟩
 ·rcases a.nw c z with q|q
  ·exact n q
  ·rw[h]at q;cases q
 ·rcases b.nw c h with q|q
  ·exact a.nw c q
  ·right;cases e:H c with|none=>rfl|some o=>exact absurd q<|a.al c (by rw[e];simp)
theorem VZ.ext(h:VZ H H'):Wr O H O H':=⟨λb o e _=>h b o e,λ_ z=>.inl z,λb z=>by
 cases e:H b with|none=>exact absurd e z|some o=>rw[h b o e];simp,λb z=>z.same λo e=>h b o e⟩
def Rd.keep(r:Rd H a u)(k:∀o,H a=some o->H' a=some o):Rd H' a u:=by
 rcases r with r|⟨o,r⟩
 ·exact .inl<|k _ r
 ·exact .inr ⟨o,k _ r⟩
def Rd.live(r:Rd H a u):H a≠none:=by
 rcases r with r|⟨o,r⟩<;>(rw[r];simp)
def WZ.go(h:WZ K Y H a vs)(k:∀b o,H b=some o->¬ Y b->H' b=some o)(n:∀b,Y' b->Y b\/H b=none):WZ K Y' H' a vs:=by grind [WZ]
def W8.go(h:W8 K Y H a vs)(k:∀b o,H b=some o->¬ Y b->H' b=some o)(n:∀b,Y' b->Y b\/H b=none):W8 K Y' H' a vs:=by
 rcases h with⟨h1,h2⟩|h
 ·refine .inl ⟨Rd.keep h1 λo e=>k a o e h2,λz=>?_⟩;rcases n a z with q|q
  ·exact h2 q
  ·exact Rd.live h1 q
 ·exact .inr h
theorem DA.go(h:DA K Y H v d)(k:∀b o,H b=some o->¬ Y b->H' b=some o)(n:∀b,Y' b->Y b\/H b=none):DA K Y' H' v d:=by
 have no:∀a u,H a=some u->¬ Y a->¬ Y' a:=λa u e ny z=>by
  rcases n a z with q|q
  ·exact ny q
  ·rw[e]at q;cases q
 induction h with|non=>exact .non|bl b=>exact .bl b|int i=>exact .int i|str x=>exact .str x|tup h1 h2 _ ih=>exact .tup (h1.go k n) h2 ih|ty n=>exact .ty n|lst h0 h1 h2 _ ih=>exact .lst (no _ _ h1 h0) (k _ _ h1 h0) h2 ih|fl h1 h2 _ ih=>exact .fl (h1.go k n) h2 ih|dk h0 h1 h2 _ ih=>exact .dk (no _ _ h1 h0) (k _ _ h1 h0) h2 ih|dt h0 ka h1 h2 _ ih=>exact .dt (no _ _ h1 h0) (ka.go k n) (k _ _ h1 h0) h2 ih
def DA.ext(h:DA K (U O Z) H v d)(e:Wr O H O' H'):DA K (U O' Z) H' v d :=
 h.go (λb o q n=>e.kp b o q λz=>n<|.inl z) λb z=>z.elim (λq=>(e.nw b q).elim (λx=>.inl<|.inl x) .inr) λq=>.inl<|.inr q
def DA.less(h:DA K Y H v d)(n:∀b,Y' b->Y b):DA K Y' H v d:=h.go (λ_ _ e _=>e) λb z=>.inl<|n b z
def DA.same(h:DA K Y H v d)(s:VZ H H'):DA K Y H' v d:=h.go (λb o e _=>s b o e) λ_ z=>.inl z
def DA.away(h:DA K Y H v d)(s:VZ H H')(hp:H p=none):DA K (ins p Y) H' v d:=h.go (λb o e _=>s b o e) λb z=>z.elim (λq=>.inr<|q ▸ hp) .inl
theorem El.go(h:El K Y H vs ds)(k:∀b o,H b=some o->¬ Y b->H' b=some o)(n:∀b,Y' b->Y b\/H b=none):El K Y' H' vs ds:=⟨h.1,λi v d a b=>(h.2 i v d a b).go k n⟩
theorem El.ext(h:El K (U O Z) H vs ds)(e:Wr O H O' H'):El K (U O' Z) H' vs ds:=⟨h.1,λi v d a b=>(h.2 i v d a b).ext e⟩
theorem El.less(h:El K Y H vs ds)(n:∀b,Y' b->Y b):El K Y' H vs ds:=⟨h.1,λi v d a b=>(h.2 i v d a b).less n⟩
theorem El.same(h:El K Y H vs ds)(s:VZ H H'):El K Y H' vs ds:=⟨h.1,λi v d a b=>(h.2 i v d a b).same s⟩
theorem El.away(h:El K Y H vs ds)(s:VZ H H')(hp:H p=none):El K (ins p Y) H' vs ds:=⟨h.1,λi v d a b=>(h.2 i v d a b).away s hp⟩
def El.nil:El K Y H [] []:=⟨rfl,λi v d h=>by simp at h⟩
def El.cons(h:DA K Y H v d)(r:El K Y H vs ds):El K Y H (v::vs) (d::ds):=by grind [El]
theorem El.uncons(h:El K Y H vs (d::ds)):∃v r,vs=v::r/\DA K Y H v d/\El K Y H r ds:=by
 cases vs with
 |nil=>have:=h.1;simp at this
 |cons v r=>
  refine⟨v,r,rfl,h.2 0 v d rfl rfl,?_,λi v' d' h1 h2=>h.2 (i+1) v' d' (by simpa using h1)<|by simpa using h2⟩
  have:=h.1;simpa using this
def El.unnil(h:El K Y H vs []):vs=[]:=by
 have:=h.1;simpa using this
def El.app(h:El K Y H vs ds)(r:El K Y H ws es):El K Y H (vs++ws) (ds++es):=by grind [El]
def El.at(h:El K Y H vs ds){i:Nat}{d:D}(e:ds[i]?=some d):∃v,vs[i]?=some v/\DA K Y H v d:=by
 have hi:i<ds.length:=(Vb.mp e).1;have hv:i<vs.length:=by rw[h.1];exact hi
 exact⟨vs[i],Za hv,h.2 i _ d (Za hv) e⟩
def El.one(h:DA K Y H v d):El K Y H [v] [d]:=El.cons h El.nil
def El.rev(h:El K Y H vs ds):El K Y H vs.reverse ds.reverse:=by grind [El]
theorem El.take(h:El K Y H vs ds)(n:Nat):El K Y H (vs.take n) (ds.take n):=by grind [El]
theorem El.drop(h:El K Y H vs ds)(n:Nat):El K Y H (vs.drop n) (ds.drop n):=by
 refine⟨by simp[h.1],λi v d h1 h2=>?_⟩
 rw[Zg]at h1 h2;exact h.2 _ v d h1 h2
theorem El.set(h:El K Y H vs ds)(hv:DA K Y H v d)(j:Nat):El K Y H (vs.set j v) (ds.set j d):=by grind [El]
def El.erase(h:El K Y H vs ds)(j:Nat):El K Y H (vs.eraseIdx j) (ds.eraseIdx j):=by grind [El]
def OA(K:Ab)(Y:AS)(H:Hp)(p:Sk):D->Prop|.lst ds=>∃vs,H p=some (.lst vs)/\El K Y H vs ds|.dk ds=>∃VV,H p=some (.dK VV)/\VV.map (·.1)=ds.map (·.1)/\∀(i:Nat) v d,VV[i]?=some v->ds[i]?=some d->DA K Y H v.2 d.2|.dt ds=>∃ep VV,KA Y H ep.2/\H p=some (.dT ep VV)/\VV.map (·.1)=ds.map (·.1)/\∀(i:Nat) v d,VV[i]?=some v->ds[i]?=some d->DA K Y H v.2 d.2|_=>False
theorem OA.live(h:OA K Y H p d):H p≠none:=by
 cases d with
 |lst ds=>obtain⟨vs,e,_⟩:=h;rw[e];simp
 |dk ds=>obtain⟨vs,e,_⟩:=h;rw[e];simp
 |dt ds=>obtain⟨_,vs,_,e,_⟩:=h;rw[e];simp
 |_=>exact h.elim
theorem OA.lv(h:OA K Y H p d):Lv H p:=by
 cases d with
 |lst ds=>obtain⟨vs,e,_⟩:=h;walk_at "F"
 |dk ds=>obtain⟨vs,e,_⟩:=h;walk_at "F"
 |dt ds=>obtain⟨_,vs,_,e,_⟩:=h;walk_at "F"
 |_=>exact h.elim
theorem OA.go(h:OA K Y H p d)(hp:H' p=H p)(k:∀b o,H b=some o->¬ Y b->H' b=some o)(n:∀b,Y' b->Y b\/H b=none):OA K Y' H' p d:=by
 cases d with
 |lst ds=>obtain⟨vs,e,q⟩:=h;exact⟨vs,hp.trans e,q.go k n⟩
 |dk ds=>obtain⟨vs,e,q1,q2⟩:=h;exact⟨vs,hp.trans e,q1,λi v d a b=>(q2 i v d a b).go k n⟩
 |dt ds=>obtain⟨ep,vs,ka,e,q1,q2⟩:=h;exact⟨ep,vs,ka.go k n,hp.trans e,q1,λi v d a b=>(q2 i v d a b).go k n⟩
 |_=>exact h.elim
theorem OA.da(h:OA K Y H p d)(hp:¬ Y' p)(n:∀b,Y' b->Y b):DA K Y' H (.ref p) d:=by
 cases d with
 |lst ds=>obtain⟨vs,e,q⟩:=h;exact .lst hp e q.1 (q.less n).2
 |dk ds=>obtain⟨vs,e,q1,q2⟩:=h;exact .dk hp e q1 λi v d a b=>(q2 i v d a b).less n
 |dt ds=>obtain⟨ep,vs,ka,e,q1,q2⟩:=h;exact .dt hp (ka.less n) e q1 λi v d a b=>(q2 i v d a b).less n
 |_=>exact h.elim
def BA(K:Ab)(Y:AS)(H:Hp)(v:V):D->Prop|.non=>v=.non|.bl b=>v=.bl b|.int i=>v=.int i|.str x=>v=.str x|.tup ds=>∃a vs,v=.ref a/\WZ K Y H a vs/\El K Y H vs ds|.ty n=>v=.ty n|.lst ds=>∃a vs,v=.ref a/\H a=some (.lst vs)/\El K Y H vs ds|.fl ds=>∃a vs,v=.ref a/\W8 K Y H a vs/\El K Y H vs ds|.dk ds=>∃a VV,v=.ref a/\H a=some (.dK VV)/\VV.map (·.1)=ds.map (·.1)/\∀(i:Nat) v d,VV[i]?=some v->ds[i]?=some d->DA K Y H v.2 d.2|.dt ds=>∃a ep VV,v=.ref a/\KA Y H ep.2/\H a=some (.dT ep VV)/\VV.map (·.1)=ds.map (·.1)/\∀(i:Nat) v d,VV[i]?=some v->ds[i]?=some d->DA K Y H v.2 d.2
theorem DA.ba(h:DA K Y H v d):BA K Y H v d:=by
 cases h with|non=>rfl|bl b=>rfl|int i=>rfl|str x=>rfl|tup h1 h2 h3=>exact⟨_,_,rfl,h1,h2,h3⟩|ty n=>rfl|lst h0 h1 h2 h3=>exact⟨_,_,rfl,h1,h2,h3⟩|fl h1 h2 h3=>exact⟨_,_,rfl,h1,h2,h3⟩|dk h0 h1 h2 h3=>exact⟨_,_,rfl,h1,h2,h3⟩|dt h0 ka h1 h2 h3=>exact⟨_,_,_,rfl,ka,h1,h2,h3⟩
theorem OA.ba(h:OA K Y H p d):BA K Y H (.ref p) d:=by
 cases d with
 |lst ds=>obtain⟨vs,e,q⟩:=h;exact⟨p,vs,rfl,e,q⟩
 |dk ds=>obtain⟨vs,e,q1,q2⟩:=h;exact⟨p,vs,rfl,e,q1,q2⟩
 |dt ds=>obtain⟨ep,vs,ka,e,q1,q2⟩:=h;exact⟨p,ep,vs,rfl,ka,e,q1,q2⟩
 |_=>exact h.elim
end
inductive Sl where
 | e|v (d:D)|o (d:D)|io (d:D)
abbrev En:=List Sl
def Sl.get:Sl->Sf D|.e=>none|.v d=>some d|.o d=>some d|.io d=>some d
def Sl.ow:Sl->Sf D|.o d=>some d|.io d=>some d|_=>none
def Sl.put(y:D):Sl->Sl|.io _=>.io y|_=>.o y
def Sl.put_ow(y:D)(s:Sl):(s.put y).ow=some y:=by cases s<;>rfl
def Sl.put_v(y z:D)(s:Sl):s.put y≠.v z:=by cases s<;>(intro e;cases e)
inductive Rs where
 | d (x:D)|f (x:D)|s (i:Nat)
structure ER(K:Ab)(st:En)(σ:St)(H:Hp)(O Z:AS):Prop where
 len:st.length=σ.length
 val:∀(i:Nat) d,st[i]?=some (.v d)->∃v,σ[i]?=some (some v)/\DA K (U O Z) H v d
 own:∀(i:Nat) s d,st[i]?=some s->s.ow=some d->∃p,σ[i]?=some (some<|.ref p)/\O p/\OA K (U O Z) H p d
 uni:∀(i j:Nat) s t d d' p,st[i]?=some s->s.ow=some d->st[j]?=some t->t.ow=some d'->σ[i]?=some (some<|.ref p)->σ[j]?=some (some<|.ref p)->i=j
 dis:∀p,O p->¬ Z p
 liv:∀p,U O Z p->Lv H p
structure Kp(st VX:En):Prop where
 len:VX.length=st.length
 has:∀(i:Nat) s,st[i]?=some s->s.get≠none->∃s',VX[i]?=some s'/\s'.get≠none
 io:∀(i:Nat) d,st[i]?=some (.io d)->∃d',VX[i]?=some (.io d')
def Kp.refl(st:En):Kp st st:=⟨rfl,λi s h g=>⟨s,h,g⟩,λi d h=>⟨d,h⟩⟩
theorem Kp.trans(x:Kp a b)(y:Kp b c):Kp a c:=by
 refine⟨y.len.trans x.len,λi s h g=>?_,λi d h=>?_⟩
 ·obtain⟨s',h',g'⟩:=x.has i s h g;exact y.has i s' h' g'
 ·obtain⟨d',h'⟩:=x.io i d h;exact y.io i d' h'
def WB(K:Ab)(Z:AS)(st:En)(σ:St)(H:Hp)(O:AS)(v:V):Rs->Prop|.d x=>DA K (U O Z) H v x|.f x=>∃p,v=.ref p/\¬ O p/\¬ Z p/\OA K (ins p<|U O Z) H p x/\ER K st σ H (ins p O) Z|.s i=>σ[i]?=some (some v)/\∃s,st[i]?=some s/\s.get≠none
def cont(st:En):Rs->Sf D|.d x=>some x|.f x=>some x|.s i=>(st[i]?).bind Sl.get
def Rs.nf:Rs->Rs|.f x=>.d x|r=>r
section
variable {st VX V1 V4:En}
def ip(st:En)(r:Rs):cont st r.nf=cont st r:=by cases r<;>rfl
theorem WB.nf{r:Rs}(h:WB K Z st σ H O v r):WB K Z st σ H O v r.nf:=by
 cases r with
 |d x=>exact h
 |s i=>exact h
 |f x=>
  obtain⟨p,rfl,h1,h2,h3,_⟩:=h;exact h3.da (λz=>z.elim h1 h2) λb z=>.inr z
theorem WB.ba(h:WB K Z st σ H O v r)(E:ER K st σ H O Z)(c:cont st r=some d):BA K (U O Z) H v d:=by
 cases r with
 |d x=>cases c;exact DA.ba h
 |f x=>
  cases c;have:=WB.nf h;exact DA.ba<|show DA K (U O Z) H v _ from this
 |s i=>
  obtain⟨h1,s,h2,h3⟩:=h;have c':(st[i]?).bind Sl.get=some d:=c;rw[h2]at c';cases s with
  |e=>cases c'
  |v x=>
   cases c';obtain⟨u,g1,g2⟩:=E.val i _ h2;rw[h1]at g1;cases g1;exact g2.ba
  |o x=>
   cases c';walk_at "y";rw[h1]at g1;cases g1;exact g3.ba
  |io x=>
   cases c';walk_at "y";rw[h1]at g1;cases g1;exact g3.ba
theorem WB.ext{r:Rs}(h:WB K Z st σ H O v r.nf)(e:Wr O H O' H')(k:Kp st VX):WB K Z VX σ H' O' v r.nf:=by
 cases r with
 |d x=>exact DA.ext (show DA K (U O Z) H v x from h) e
 |f x=>exact DA.ext (show DA K (U O Z) H v x from h) e
 |s i=>
  obtain⟨h1,s,h2,h3⟩:=h;exact⟨h1,k.has i s h2 h3⟩
theorem ER.same(E:ER K st σ H O Z)(s:VZ H H'):ER K st σ H' O Z:=by
 refine⟨E.len,λi d h=>?_,λi s' d h1 h2=>?_,E.uni,E.dis,λp hp=>?_⟩
 ·obtain⟨v,h1,h2⟩:=E.val i d h;exact⟨v,h1,h2.same s⟩
 ·obtain⟨p,g1,g2,g3⟩:=E.own i s' d h1 h2;refine⟨p,g1,g2,g3.go ?_ (λb o e _=>s b o e) λb z=>.inl z⟩;cases e:H p with|none=>exact absurd e g3.live|some o=>exact s p o e
 ·exact(E.liv p hp).same λo e=>s p o e
theorem ER.away(E:ER K st σ H O Z)(s:VZ H H')(hp:H p=none)(hp':Lv H' p):ER K st σ H' (ins p O) Z:=by
 have sub:∀b,U (ins p O) Z b->ins p (U O Z) b:=λb z=>by
  rcases z with(z|z)|z
  ·exact .inl z
  ·exact .inr<|.inl z
  ·exact .inr<|.inr z
 refine⟨E.len,λi d h=>?_,λi s' d h1 h2=>?_,E.uni,λq hq=>?_,λq hq=>?_⟩
 ·obtain⟨v,h1,h2⟩:=E.val i d h;exact⟨v,h1,(h2.away s hp).less sub⟩
 ·obtain⟨q,g1,g2,g3⟩:=E.own i s' d h1 h2;refine⟨q,g1,.inr g2,g3.go ?_ (λb o e _=>s b o e) λb z=>?_⟩
  ·cases e:H q with|none=>exact absurd e g3.live|some o=>exact s q o e
  ·rcases sub b z with z|z
   ·exact .inr<|z ▸ hp
   ·exact .inl z
 ·rcases hq with rfl|hq
  ·exact λz=>(E.liv _<|.inr z).1 hp
  ·exact E.dis q hq
 ·rcases hq with(rfl|hq)|hq
  ·exact hp'
  ·exact(E.same s).liv q (.inl hq)
  ·exact(E.same s).liv q (.inr hq)
def ER.free(E:ER K st σ H O Z)(hp:H p=none):¬ O p/\¬ Z p:=⟨λz=>(E.liv p<|.inl z).1 hp,λz=>(E.liv p<|.inr z).1 hp⟩
def ER.new(E:ER K st σ H O Z)(hp:H p=none)(el:El K (U O Z) H vs ds):ER K st σ (upd H p<|.lst vs) O Z/\WB K Z st σ (upd H p<|.lst vs) O (.ref p) (.f<|.lst ds):=by
 have s:=bq hp<|.lst vs;have hf:=E.free hp;refine⟨E.same s,p,rfl,hf.1,hf.2,⟨vs,bH,el.away s hp⟩,E.away s hp ⟨by rw[bH];simp,λ_ z=>by rw[bH]at z;cases z⟩⟩
def ER.newT(E:ER K st σ H O Z)(hp:H p=none)(el:El K (U O Z) H vs ds):ER K st σ (upd H p<|.tup vs) O Z/\WB K Z st σ (upd H p<|.tup vs) O (.ref p) (.d<|.tup ds):=by
 have s:=bq hp<|.tup vs;have hf:=E.free hp;exact⟨E.same s,.tup ⟨bH,λz=>z.elim hf.1 hf.2⟩ el.1 (el.same s).2⟩
def ES(st:En)(i:Nat):Sf En:=match st[i]? with|some (.v _)=>some st|some (.o d)=>some (st.set i<|.v d)|_=>none
def GA(st:En):Rs->Sf En|.s i=>ES st i|_=>some st
def aE{l:Se α}(h:i≠j):(l.set i x)[j]?=l[j]?:=by rw[Bv,Ak h]
def bA{l:Se α}(h:l[i]?=some y):(l.set i x)[i]?=some x:=by
 have hi:=(Vb.mp h).1;rw[Bv,Ag rfl,Ag hi]
def Ky(h:ES st i=some VX):Kp st VX/\∃d,VX[i]?=some (.v d)/\(st[i]?).bind Sl.get=some d:=by
 unfold ES at h;split at h
 ·rename_i d e
  cases h;exact⟨Kp.refl st,d,e,by rw[e];rfl⟩
 ·rename_i d e
  cases h;refine⟨⟨by simp,λj s hj g=>?_,λj d' hj=>?_⟩,d,bA e,by rw[e];rfl⟩
  ·by_cases q:i=j
   ·subst q;exact⟨.v d,bA e,by simp[Sl.get]⟩
   ·exact⟨s,by rw[aE q];exact hj,g⟩
  ·have q:i≠j:=λz=>by subst z;rw[e]at hj;cases hj
   exact⟨d',by rw[aE q];exact hj⟩
 ·cases h
def ER.frz(E:ER K st σ H O Z)(h:ES st i=some VX):∃O',Wr O H O' H/\ER K VX σ H O' Z/\(∀b,O' b->O b):=by
 unfold ES at h;split at h
 ·cases h;exact⟨O,Wr.refl O H,E,λ_ z=>z⟩
 ·rename_i d e
  cases h;obtain⟨p,g1,g2,g3⟩:=E.own i _ _ e rfl;have less:∀b,U (λb=>O b/\b≠p) Z b->U O Z b:=λb z=>z.elim (λq=>.inl q.1) .inr;refine⟨λb=>O b/\b≠p,⟨λb o q _=>q,λb z=>.inl z.1,λb z=>z,λb z=>z⟩,⟨by simp[E.len],λj x hj=>?_,λj s x hj hs=>?_,λj k s t x y q hj hs hk ht e1 e2=>?_,λq hq=>E.dis q hq.1,λq hq=>E.liv q<|less q hq⟩,λb z=>z.1⟩
  ·by_cases q:i=j
   ·subst q;rw[bA e]at hj;cases hj;exact⟨.ref p,g1,g3.da (λz=>z.elim (λy=>y.2 rfl)<|E.dis p g2) less⟩
   ·rw[aE q]at hj;obtain⟨v,h1,h2⟩:=E.val j x hj;exact⟨v,h1,h2.less less⟩
  ·have q:i≠j:=λz=>by
    subst z;rw[bA e]at hj;cases hj;cases hs
   rw[aE q]at hj;obtain⟨r,h1,h2,h3⟩:=E.own j s x hj hs;refine⟨r,h1,⟨h2,λz=>q ?_⟩,h3.go rfl (λ_ _ e _=>e) λb z=>.inl<|less b z⟩;subst z;exact E.uni i j _ _ _ _ r e rfl hj hs g1 h1
  ·have q1:i≠j:=λz=>by
    subst z;rw[bA e]at hj;cases hj;cases hs
   have q2:i≠k:=λz=>by
    subst z;rw[bA e]at hk;cases hk;cases ht
   rw[aE q1]at hj;rw[aE q2]at hk;exact E.uni j k s t x y q hj hs hk ht e1 e2
 ·cases h
theorem WB.frz(h:WB K Z st σ H O v r)(E:ER K st σ H O Z)(f:GA st r=some VX)(c:cont st r=some d):∃O',Wr O H O' H/\Kp st VX/\ER K VX σ H O' Z/\DA K (U O' Z) H v d:=by
 cases r with
 |d x=>cases f;cases c;exact⟨O,Wr.refl O H,Kp.refl st,E,h⟩
 |f x=>cases f;cases c;exact⟨O,Wr.refl O H,Kp.refl st,E,WB.nf h⟩
 |s i=>
  obtain⟨h1,s,h2,h3⟩:=h;have f':ES st i=some VX:=f;obtain⟨k,x,k1,k2⟩:=Ky f';obtain⟨O',e1,e2,_⟩:=E.frz f';have c':(st[i]?).bind Sl.get=some d:=c;have ex:x=d:=Option.some.inj<|k2.symm.trans c';subst ex;obtain⟨u,g1,g2⟩:=e2.val i _ k1;rw[h1]at g1;cases g1;exact⟨O',e1,k,e2,g2⟩
def ER.write{s:Sl}(E:ER K st σ H O Z)(hs:st[i]?=some s)(ho:s.ow=some x)(hp:σ[i]?=some (some<|.ref p))(new:OA K (U O Z) (upd H p o) p y) :
  ER K (st.set i<|s.put y) σ (upd H p o) O Z/\Wr O H O (upd H p o)/\Kp st (st.set i<|s.put y):=by
 obtain⟨q,g1,g2,g3⟩:=E.own i s x hs ho;have eq:q=p:=by rw[hp]at g1;cases g1;rfl
 subst eq;have keep:∀b u,H b=some u->¬ U O Z b->upd H q o b=some u:=λb u e n=>by
  have hb:b≠q:=λz=>n<|.inl (by rw[z];exact g2)
  rw[aV hb];exact e
 refine⟨⟨by simp[E.len],λj d hj=>?_,λj t d hj ht=>?_,λj k t t' d d' r hj ht hk ht' e1 e2=>?_,E.dis,λr hr=>?_⟩,⟨λb u e n=>?_,λb z=>.inl z,λb z=>?_,λb z=>?_⟩,⟨by simp,λj t hj ht=>?_,λj d hj=>?_⟩⟩
 ·by_cases e:i=j
  ·subst e;rw[bA hs]at hj;exact absurd (Option.some.inj hj)<|Sl.put_v _ _ _
  ·rw[aE e]at hj;obtain⟨v,h1,h2⟩:=E.val j d hj;exact⟨v,h1,h2.go keep λb z=>.inl z⟩
 ·by_cases e:i=j
  ·subst e;rw[bA hs]at hj;have:=Option.some.inj hj;subst this;rw[Sl.put_ow]at ht;cases ht;exact⟨q,hp,g2,new⟩
  ·rw[aE e]at hj;obtain⟨r,h1,h2,h3⟩:=E.own j t d hj ht;have hne:r≠q:=λz=>by subst z;exact e (E.uni i j s t x d r hs ho hj ht hp h1)
   exact⟨r,h1,h2,h3.go (aV hne) keep λb z=>.inl z⟩
 ·have own':∀(m:Nat)(t:Sl)(d:D),(st.set i<|s.put y)[m]?=some t->t.ow=some d->∃t2 d2,st[m]?=some t2/\t2.ow=some d2:=λm t d hm ht=>by
   by_cases e:i=m
   ·subst e;exact⟨s,x,hs,ho⟩
   ·rw[aE e]at hm;exact⟨t,d,hm,ht⟩
  obtain⟨t1,d1,a1,b1⟩:=own' j t d hj ht;obtain⟨t2,d2,a2,b2⟩:=own' k t' d' hk ht';exact E.uni j k t1 t2 d1 d2 r a1 b1 a2 b2 e1 e2
 ·by_cases e:r=q
  ·subst e;exact new.lv
  ·exact(E.liv r hr).same λo' eo=>by rw[aV e];exact eo
 ·have hb:b≠q:=λz=>n (by rw[z];exact g2)
  rw[aV hb];exact e
 ·by_cases e:b=q
  ·subst e;rw[bH];simp
  ·rw[aV e];exact z
 ·by_cases e:b=q
  ·subst e;exact new.lv
  ·exact z.same λo' eo=>by rw[aV e];exact eo
 ·by_cases e:i=j
  ·subst e;exact⟨s.put y,bA hs,by cases s<;>simp[Sl.put,Sl.get]⟩
  ·exact⟨t,by rw[aE e];exact hj,ht⟩
 ·by_cases e:i=j
  ·subst e;rw[hs]at hj;cases hj;exact⟨y,bA hs⟩
  ·exact⟨d,by rw[aE e];exact hj⟩
end
abbrev FE:=En->Option (Rs×En)
abbrev FA:=En->Option (List Rs×En)
abbrev FT:=En->Option (Bool×En)
abbrev Rz:=D×Bool
def mk:Rz->Rs|(d,true)=>.f d|(d,false)=>.d d
def Xq(K:Ab)(Y:AS)(H H':Hp)(v:V):Rz->Prop|(d,true)=>∃p,v=.ref p/\H p=none/\OA K (ins p Y) H' p d|(d,false)=>DA K Y H' v d
def XZ(H:Hp)(v:V):Rs->Prop|.f _=>∀p,v=.ref p->H p=none|_=>True
theorem Wr.dead(e:Wr O H O' H')(h:H' p=none):H p=none:=by
 cases q:H p with|none=>rfl|some o=>exact absurd h<|e.al p (by rw[q];simp)
theorem XZ.back(h:XZ H' v r)(e:Wr O H O' H'):XZ H v r:=by
 cases r with|f x=>exact λp hp=>e.dead (h p hp)|d x=>trivial|s i=>trivial
def SO(K:Ab)(te:TE)(f:FE):Prop:=∀(st:En)(σ:St)(H:Hp)(O Z:AS)(Q:VK),ER K st σ H O Z->∀r VX,f st=some (r,VX)->
 (∀v H' O',Wr O H O' H'->Kp st VX->ER K VX σ H' O' Z->WB K Z VX σ H' O' v r->XZ H v r->Q v H')->te σ H Q
inductive Xr(K:Ab)(Z:AS)(st:En)(σ:St)(H:Hp)(O:AS):List V->List Rs->Prop where
 | nil:Xr K Z st σ H O [] []
 | cons {v:V} {vs:List V} {r:Rs} {rs:List Rs}:WB K Z st σ H O v r.nf->Xr K Z st σ H O vs rs->Xr K Z st σ H O (v::vs) (r::rs)
def TB(K:Ab)(ta:TA)(f:FA):Prop:=∀(st:En)(σ:St)(H:Hp)(O Z:AS)(Q:Se V->Hp->Prop),ER K st σ H O Z->∀rs VX,f st=some (rs,VX)->
 (∀vs H' O',Wr O H O' H'->Kp st VX->ER K VX σ H' O' Z->Xr K Z VX σ H' O' vs rs->Q vs H')->ta σ H Q
def Tw(K:Ab)(tt:TT)(f:FT):Prop:=∀(st:En)(σ:St)(H:Hp)(O Z:AS)(Q:Ss->Hp->Prop),ER K st σ H O Z->∀c VX,f st=some (c,VX)->
 (∀H' O',Wr O H O' H'->Kp st VX->ER K VX σ H' O' Z->Q c H')->tt σ H Q
def V2(K:Ab)(r:R2)(b:D->D->Sf Rz):Prop:=∀(Y:AS)(H:Hp)(x y:V)(d1 d2:D)(z:Rz)(Q:VK),(∀p,Y p->Lv H p)->BA K Y H x d1->BA K Y H y d2->b d1 d2=some z->
 (∀v H',VZ H H'->Xq K Y H H' v z->Q v H')->r x y H Q
def Qw(K:Ab)(r:V->Hp->VK->Prop)(b:D->Sf Rz):Prop:=∀(Y:AS)(H:Hp)(x:V)(d1:D)(z:Rz)(Q:VK),(∀p,Y p->Lv H p)->BA K Y H x d1->b d1=some z->
 (∀v H',VZ H H'->Xq K Y H H' v z->Q v H')->r x H Q
inductive X8(K:Ab)(Y:AS)(H:Hp):List V->List D->Prop where
 | nil:X8 K Y H [] []
 | cons {v:V} {vs:List V} {d:D} {ds:List D}:BA K Y H v d->X8 K Y H vs ds->X8 K Y H (v::vs) (d::ds)
def WC(K:Ab)(r:Se V->Hp->VK->Prop)(b:Se D->Sf Rz):Prop:=∀(Y:AS)(H:Hp)(xs:Se V)(ds:Se D)(z:Rz)(Q:VK),(∀p,Y p->Lv H p)->X8 K Y H xs ds->b ds=some z->
 (∀v H',VZ H H'->Xq K Y H H' v z->Q v H')->r xs H Q
section
variable {vs:Se V}{ds:Se D}
theorem Xq.rv(E:ER K st σ H O Z)(s:VZ H H')(h:Xq K (U O Z) H H' v z):ER K st σ H' O Z/\WB K Z st σ H' O v (mk z):=by
 obtain⟨d,fr⟩:=z;cases fr with
 |false=>exact⟨E.same s,h⟩
 |true=>
  obtain⟨p,rfl,hp,ho⟩:=h;have hf:=E.free hp;exact⟨E.same s,p,rfl,hf.1,hf.2,ho,E.away s hp ho.lv⟩
theorem Xq.fsh(h:Xq K Y H H' v z):XZ H v (mk z):=by
 obtain⟨d,fr⟩:=z;cases fr with
 |false=>trivial
 |true=>obtain⟨p,rfl,hp,_⟩:=h;exact λq e=>by cases e;exact hp
theorem Xr.ext(h:Xr K Z st σ H O vs rs)(e:Wr O H O' H')(k:Kp st VX):Xr K Z VX σ H' O' vs rs:=by
 induction h with|nil=>exact .nil|cons h1 _ ih=>exact .cons (h1.ext e k) ih
def eM(st:En):Se Rs->Sf (Se D)|[]=>some []|r::rs=>(cont st r).bind λd=>(eM st rs).bind λds=>some (d::ds)
theorem Xr.bas(h:Xr K Z st σ H O vs rs)(E:ER K st σ H O Z):∀{ds:Se D},eM st rs=some ds->X8 K (U O Z) H vs ds:=by
 induction h with
 |nil=>intro ds e;cases e;exact .nil
 |@cons v vs r rs h1 _ ih=>
  intro ds e;refine SK e λd e1 e=>(SK e λds' e2 e=>?_);cases e;exact .cons (h1.ba E (by rw[ip];exact e1))<|ih e2
def dP:Se Rs->En->Sf (Se D×En)|[],st=>some ([],st)|r::rs,st=>(cont st r).bind λd=>(GA st r).bind λV1=>(dP rs V1).bind λx=>some (d::x.1,x.2)
def Kz(st:En)(r:Rs):GA st r.nf=GA st r:=by cases r<;>rfl
theorem Xr.esc:∀{rs:Se Rs}{vs:Se V}{st:En}{O:AS}{ds:Se D}{VX:En},Xr K Z st σ H O vs rs->ER K st σ H O Z->dP rs st=some (ds,VX)->∃O',Wr O H O' H/\Kp st VX/\ER K VX σ H O' Z/\El K (U O' Z) H vs ds
 |[],_,st,O,ds,VX,.nil,E,e=>by cases e;exact⟨O,Wr.refl O H,Kp.refl _,E,El.nil⟩
 | r::rs,_,st,O,ds,VX,.cons h1 h2,E,e=>by
  refine SK e λd e1 e=>(SK e λV1 e2 e=>(SN e λds2 V4 e3 e=>?_));cases e;obtain⟨O1,x1,k1,E1,da⟩:=h1.frz E (by rw[Kz];exact e2) (by rw[ip];exact e1)
  obtain⟨O2,x2,k2,E2,el⟩:=Xr.esc (h2.ext x1 k1) E1 e3;exact⟨O2,x1.trans x2,k1.trans k2,E2,El.cons (da.ext x2) el⟩
def aF(i:Nat):FE:=λst=>match st[i]? with|some (.v d)=>some (.d d,st)|some (.o _)=>some (.s i,st)|some (.io _)=>some (.s i,st)|_=>none
def NW(i:Nat):SO K (xi i) (aF i):=by
 walk_at "j";unfold aF at h;split at h
 ·rename_i d e
  cases h;obtain⟨v,h1,h2⟩:=E.val i d e;exact⟨v,h1,q v H O (Wr.refl O H) (Kp.refl _) E h2 True.intro⟩
 ·rename_i d e
  cases h;obtain⟨p,h1,h2,h3⟩:=E.own i _ _ e rfl;exact⟨.ref p,h1,q _ H O (Wr.refl O H) (Kp.refl _) E ⟨h1,_,e,by simp[Sl.get]⟩ True.intro⟩
 ·rename_i d e
  cases h;obtain⟨p,h1,h2,h3⟩:=E.own i _ _ e rfl;exact⟨.ref p,h1,q _ H O (Wr.refl O H) (Kp.refl _) E ⟨h1,_,e,by simp[Sl.get]⟩ True.intro⟩
 ·cases h
def fC(d:D):FE:=λst=>some (.d d,st)
def xA(h:∀Y H,DA K Y H v d):SO K (tC v) (fC d):=by
 intro st σ H O Z Q E r VX e q;cases e;exact q v H O (Wr.refl O H) (Kp.refl _) E (h _ _) True.intro
def NX(i:Int):SO K (tC<|.int i) (fC<|.int i):=xA λ_ _=>.int i
def NY(x:Str):SO K (tC<|.str x) (fC<|.str x):=xA λ_ _=>.str x
def Qx(b:Ss):SO K (tC<|.bl b) (fC<|.bl b):=xA λ_ _=>.bl b
def NZ:SO K (tC .non) (fC .non):=xA λ_ _=>.non
def Sy(b:D->D->Sf Rz)(fa fb:FE):FE:=λst=>(fa st).bind λx=>(fb x.2).bind λy=>(cont y.2 x.1).bind λd1=>(cont y.2 y.1).bind λd2=>(b d1 d2).bind λz=>some (mk z,y.2)
def MG(hr:V2 K r b)(ha:SO K ta fa)(hb:SO K tb fb):SO K (TQ r ta tb) (Sy b fa fb):=by
 intro st σ H O Z Q E r' VX h q;refine SN h λr1 V1 e1 h=>(SN h λr2 V4 e2 h=>(SK h λd1 e3 h=>(SK h λd2 e4 h=>(SK h λz e5 h=>?_))));cases h;refine ha st σ H O Z _ E r1 V1 e1 λv1 H1 O1 x1 k1 E1 rv1 w1=>(hb V1 σ H1 O1 Z _ E1 r2 V4 e2 λv2 H2 O2 x2 k2 E2 rv2 w2=>?_);have b1:=(rv1.nf.ext x2 k2).ba E2 (by rw[ip];exact e3)
 refine hr (U O2 Z) H2 v1 v2 d1 d2 z _ E2.liv b1 (rv2.ba E2 e4) e5 λv H3 s hres=>?_;obtain⟨E3,rv3⟩:=hres.rv E2 s;walk_at "d"
def TL(b:D->Sf Rz)(fa:FE):FE:=λst=>(fa st).bind λx=>(cont x.2 x.1).bind λd1=>(b d1).bind λz=>some (mk z,x.2)
def MH(hr:Qw K r b)(ha:SO K ta fa):SO K (Vt r ta) (TL b fa):=by
 intro st σ H O Z Q E r' VX h q;refine SN h λr1 V1 e1 h=>(SK h λd1 e3 h=>(SK h λz e5 h=>?_));cases h;refine ha st σ H O Z _ E r1 V1 e1 λv1 H1 O1 x1 k1 E1 rv1 w1=>(hr (U O1 Z) H1 v1 d1 z _ E1.liv (rv1.ba E1 e3) e5 λv H3 s hres=>?_);obtain⟨E3,rv3⟩:=hres.rv E1 s;exact q v H3 O1 (x1.trans<|VZ.ext s) k1 E3 rv3<|hres.fsh.back x1
def Uj(st:En)(r:Rs):Sf Ss:=match cont st r with|some (.bl c)=>some c|_=>none
def GB(E:ER K st σ H O Z)(h:WB K Z st σ H O v r)(t:Uj st r=some c):v=.bl c:=by
 unfold Uj at t;split at t
 ·rename_i b e
  cases t;exact h.ba E e
 ·cases t
def aC(fa:FE):FT:=λst=>(fa st).bind λx=>(Uj x.2 x.1).bind λc=>some (c,x.2)
def tV(ha:SO K ta fa):Tw K (yD ta) (aC fa):=by
 intro st σ H O Z Q E c VX h q;refine SN h λr1 V1 e1 h=>(SK h λc' e2 h=>?_);cases h;exact ha st σ H O Z _ E r1 V1 e1 λv1 H1 O1 x1 k1 E1 rv1 w1=>⟨c,GB E1 rv1 e2,q H1 O1 x1 k1 E1⟩
def MI(ha:SO K ta fa):Tw K (tB ta) (aC fa):=tV ha
def gI(f:FT):FT:=λst=>(f st).bind λx=>some (!x.1,x.2)
def yQ(h:Tw K t f):Tw K (P1 t) (gI f):=by
 walk_at "x";refine SN e λc1 V1 e1 e=>?_;cases e;exact h st σ H O Z _ E c1 V1 e1 q
def lO(f g:FT):FT:=λst=>(f st).bind λx=>if x.1=true then g x.2 else some (false,x.2)
theorem yR(h:Tw K t f)(h':Tw K u g):Tw K (P0 t u) (lO f g):=by
 walk_at "x";walk_at "l";cases c1 with
 |true=>
  rw[Ag rfl]at e ⊢;exact h' V1 σ H1 O1 Z _ E1 c VX e λH2 O2 x2 k2 E2=>q H2 O2 (x1.trans x2) (k1.trans k2) E2
 |false=>
  simp only[Wf,if_false]at e ⊢;cases e;exact q H1 O1 x1 k1 E1
def mW(f g:FT):FT:=λst=>(f st).bind λx=>if x.1=true then some (true,x.2) else g x.2
theorem GC(h:Tw K t f)(h':Tw K u g):Tw K (Vp t u) (mW f g):=by
 walk_at "x";walk_at "l";cases c1 with
 |true=>
  rw[Ag rfl]at e ⊢;cases e;exact q H1 O1 x1 k1 E1
 |false=>
  simp only[Wf,if_false]at e ⊢;exact h' V1 σ H1 O1 Z _ E1 c VX e λH2 O2 x2 k2 E2=>q H2 O2 (x1.trans x2) (k1.trans k2) E2
def cM:FT:=λst=>some (true,st)
def N0:Tw K Qu cM:=by
 walk_at "x";cases e;exact q H O (Wr.refl O H) (Kp.refl _) E
def iV(fa fb:FE):FE:=λst=>(fa st).bind λx=>(Uj x.2 x.1).bind λc=>if c=true then fb x.2 else some (.d<|.bl false,x.2)
theorem yS(ha:SO K ta fa)(hb:SO K tb fb):SO K (Mp ta tb) (iV fa fb):=by
 walk_at "j";refine SN h λr1 V1 e1 h=>(SK h λc e2 h=>(ha st σ H O Z _ E r1 V1 e1 λv1 H1 O1 x1 k1 E1 rv1 w1=>⟨c,GB E1 rv1 e2,?_⟩));cases c with
 |true=>
  rw[Ag rfl]at h ⊢;exact hb V1 σ H1 O1 Z _ E1 r VX h λv H2 O2 x2 k2 E2 rv w2=>q v H2 O2 (x1.trans x2) (k1.trans k2) E2 rv<|w2.back x1
 |false=>
  rw[Ak<|by decide]at h ⊢
  cases h;exact q _ H1 O1 x1 k1 E1 (.bl false) True.intro
def MJ(fa:FE):FE:=λst=>(fa st).bind λx=>(Uj x.2 x.1).bind λc=>some (.d<|.bl<|!c,x.2)
def yT(ha:SO K ta fa):SO K (Mq ta) (MJ fa):=by
 walk_at "j";refine SN h λr1 V1 e1 h=>(SK h λc e2 h=>?_);cases h;exact ha st σ H O Z _ E r1 V1 e1 λv1 H1 O1 x1 k1 E1 rv1 w1=>⟨c,GB E1 rv1 e2,q _ H1 O1 x1 k1 E1 (.bl _) True.intro⟩
def Tn(f:FT)(fa fb:FE):FE:=λst=>(f st).bind λx=>if x.1=true then fa x.2 else fb x.2
theorem MK(h:Tw K t f)(ha:SO K ta fa)(hb:SO K tb fb):SO K (Vq t ta tb) (Tn f fa fb):=by
 intro st σ H O Z Q E r VX e q;walk_at "l";cases c1 with
 |true=>
  rw[Ag rfl]at e ⊢;exact ha V1 σ H1 O1 Z _ E1 r VX e λv H2 O2 x2 k2 E2 rv w2=>q v H2 O2 (x1.trans x2) (k1.trans k2) E2 rv<|w2.back x1
 |false=>
  simp only[Wf,if_false]at e ⊢;exact hb V1 σ H1 O1 Z _ E1 r VX e λv H2 O2 x2 k2 E2 rv w2=>q v H2 O2 (x1.trans x2) (k1.trans k2) E2 rv<|w2.back x1
def tW(b b':D->D->Sf Rz)(fa fb fc:FE):FE:=λst=>(fa st).bind λx=>(fb x.2).bind λy=>(cont y.2 x.1).bind λd1=>(cont y.2 y.1).bind λd2=>(b d1 d2).bind λz=>match z with|(.bl true,false)=>(fc y.2).bind λw=>(cont w.2 y.1).bind λd2'=>(cont w.2 w.1).bind λd3=>(b' d2' d3).bind λz'=>some (mk z',w.2)|(.bl false,false)=>some (.d<|.bl false,y.2)|_=>none
def vJ(hr:V2 K r b)(hr':V2 K r' b')(ha:SO K ta fa)(hb:SO K tb fb)(hc:SO K tc fc):SO K (Gj r r' ta tb tc) (tW b b' fa fb fc):=by
 walk_at "o";refine SN h λr1 V1 e1 h=>(SN h λr2 V4 e2 h=>(SK h λd1 e3 h=>(SK h λd2 e4 h=>(SK h λz e5 h=>(ha st σ H O Z _ E r1 V1 e1 λv1 H1 O1 x1 k1 E1 rv1 w1=>(hb V1 σ H1 O1 Z _ E1 r2 V4 e2 λv2 H2 O2 x2 k2 E2 rv2 w2=>?_))))));have b1:=(rv1.nf.ext x2 k2).ba E2 (by rw[ip];exact e3)
 refine hr (U O2 Z) H2 v1 v2 d1 d2 z _ E2.liv b1 (rv2.ba E2 e4) e5 λv H3 s hres=>?_;obtain⟨dz,fr⟩:=z;cases dz with
 |bl c=>
  cases fr with
  |true=>cases c<;>cases h
  |false=>
   have ev:v=.bl c:=DA.ba<|show DA K (U O2 Z) H3 v (.bl c) from hres;refine⟨c,ev,?_⟩;have E3:=E2.same s;have x3:Wr O2 H2 O2 H3:=VZ.ext s;cases c with
   |false=>
    rw[Ak<|by decide]
    cases h;exact q _ H3 O2 ((x1.trans x2).trans x3) (k1.trans k2) E3 (.bl false) True.intro
   |true=>
    rw[Ag rfl];refine SN h λr3 Wq g1 h=>(SK h λd2' g2 h=>(SK h λd3 g3 h=>(SK h λz' g4 h=>?_)));cases h;refine hc V4 σ H3 O2 Z _ E3 r3 Wq g1 λv3 H4 O4 x4 k4 E4 rv4 w4=>?_;have b2:=(rv2.nf.ext (x3.trans x4) k4).ba E4 (by rw[ip];exact g2)
    refine hr' (U O4 Z) H4 v2 v3 d2' d3 z' _ E4.liv b2 (rv4.ba E4 g3) g4 λw H5 s5 hres5=>?_;obtain⟨E5,rv5⟩:=hres5.rv E4 s5;exact q w H5 O4 ((((x1.trans x2).trans x3).trans x4).trans (VZ.ext s5)) ((k1.trans k2).trans k4) E5 rv5<|hres5.fsh.back<|((x1.trans x2).trans x3).trans x4
 |_=>cases fr<;>cases h
def ag:FA:=λst=>some ([],st)
def N1:TB K rB ag:=by
 intro st σ H O Z Q E rs VX e q;cases e;exact q [] H O (Wr.refl O H) (Kp.refl _) E .nil
def aa(fa:FE)(fr:FA):FA:=λst=>(fa st).bind λx=>(fr x.2).bind λy=>some (x.1::y.1,y.2)
def yU(ha:SO K ta fa)(hr:TB K tr fr):TB K (gE ta tr) (aa fa fr):=by
 intro st σ H O Z Q E rs VX h q;refine SN h λr1 V1 e1 h=>(SN h λrs2 V4 e2 h=>?_);cases h;exact ha st σ H O Z _ E r1 V1 e1 λv1 H1 O1 x1 k1 E1 rv1 w1=>(hr V1 σ H1 O1 Z _ E1 rs2 V4 e2 λvs H2 O2 x2 k2 E2 rvs=>(q (v1::vs) H2 O2 (x1.trans x2) (k1.trans k2) E2<|.cons (rv1.nf.ext x2 k2) rvs))
def few(h:n<=1000000):n<=sizeLine:=Ve h (by decide)
def bU(fa:FA):FE:=λst=>(fa st).bind λx=>(dP x.1 x.2).bind λy=>if y.1.length<=1000000 then some (.d<|.tup y.1,y.2) else none
def GD(ha:TB K ta fa):SO K (Qo ta) (bU fa):=by
 walk_at "j";refine SN h λrs V1 e1 h=>(SN h λds V4 e2 h=>(ha st σ H O Z _ E rs V1 e1 λvs H1 O1 x1 k1 E1 rvs=>?_));walk_at "c";obtain⟨hz,h⟩:=aQ h;cases h;refine⟨by rw[el.1];exact few hz,λp hp=>?_⟩
 obtain⟨E3,rv⟩:=E2.newT hp el;exact q _ _ O2 ((x1.trans x2).trans (VZ.ext<|bq hp _)) (k1.trans k2) E3 rv True.intro
def cP(fa:FA):FE:=λst=>(fa st).bind λx=>(dP x.1 x.2).bind λy=>if y.1.length<=1000000 then some (.f<|.lst y.1,y.2) else none
def GE(ha:TB K ta fa):SO K (Nx ta) (cP fa):=by
 walk_at "j";refine SN h λrs V1 e1 h=>(SN h λds V4 e2 h=>(ha st σ H O Z _ E rs V1 e1 λvs H1 O1 x1 k1 E1 rvs=>?_));walk_at "c";obtain⟨hz,h⟩:=aQ h;cases h;refine⟨by rw[el.1];exact few hz,λp hp=>?_⟩
 obtain⟨E3,rv⟩:=E2.new hp el;exact q _ _ O2 ((x1.trans x2).trans (VZ.ext<|bq hp _)) (k1.trans k2) E3 rv λp' e=>by cases e;exact(x1.trans x2).dead hp
def SF(b:Se D->Sf Rz)(fa:FA):FE:=λst=>(fa st).bind λx=>(eM x.2 x.1).bind λds=>(b ds).bind λz=>some (mk z,x.2)
def ML(hr:WC K r b)(ha:TB K ta fa):SO K (Ui r ta) (SF b fa):=by
 walk_at "o";refine SN h λrs V1 e1 h=>(SK h λds e2 h=>(SK h λz e3 h=>?_));cases h;refine ha st σ H O Z _ E rs V1 e1 λvs H1 O1 x1 k1 E1 rvs=>(hr (U O1 Z) H1 vs ds z _ E1.liv (rvs.bas E1 e2) e3 λv H3 s hres=>?_);obtain⟨E3,rv3⟩:=hres.rv E1 s;exact q v H3 O1 (x1.trans<|VZ.ext s) k1 E3 rv3<|hres.fsh.back x1
end
def D.isSc:D->Ss|.non=>true|.bl _=>true|.int _=>true|.str _=>true|.ty _=>true|_=>false
def SR(K:Ab)(g:Se D->Sf Rz):Sp:=λvs H Q _=>∃(Z:AS)(ds:Se D)(z:Rz),El K Z H vs ds/\(∀p,Z p->Lv H p)/\g ds=some z/\∀v H',VZ H H'->Xq K Z H H' v z->Q v H'
def R6(K:Ab)(Y:AS)(f:Sk)(x':D)(H H':Hp)(v:V):Rz->Prop|(d,true)=>∃p,v=.ref p/\H p=none/\OA K (ins p Y) H' p d/\OA K (ins p Y) H' f x'|(d,false)=>DA K Y H' v d/\OA K Y H' f x'
def lZ(K:Ab)(g:D->Se D->Sf (Rz×D)):Sp:=λvs H Q _=>∃(f:Sk)(ws:Se V)(Z:AS)(x:D)(ds:Se D)(z:Rz)(x':D),vs=.ref f::ws/\¬ Z f/\OA K (ins f Z) H f x/\El K (ins f Z) H ws ds/\(∀p,Z p->Lv H p)/\g x ds=some (z,x') /\
 ∀v H',(∀b o,H b=some o->b≠f->H' b=some o)->R6 K (ins f Z) f x' H H' v z->Q v H'
section
variable {d:D}{st VX V1 V4:En}
def bj(g:Se D->Sf Rz)(fa:FA):FE:=λst=>(fa st).bind λx=>(dP x.1 x.2).bind λy=>(g y.1).bind λz=>some (mk z,y.2)
def yV(ha:TB K ta fa):SO K (EQ (SR K g) ta) (bj g fa):=by
 walk_at "o";refine SN h λrs V1 e1 h=>(SN h λds V4 e2 h=>(SK h λz e3 h=>?_));cases h;refine ha st σ H O Z _ E rs V1 e1 λvs H1 O1 x1 k1 E1 rvs=>?_;walk_at "c";refine⟨U O2 Z,ds,z,el,E2.liv,e3,λv H3 s hres=>?_⟩;obtain⟨E3,rv3⟩:=hres.rv E2 s;walk_at "d"
theorem WB.da0(h:WB K Z st σ H O v r)(E:ER K st σ H O Z)(c:cont st r=some d):DA K (λ_=>False) H v d:=by
 cases r with
 |d x=>cases c;exact DA.less (show DA K (U O Z) H v d from h) λb z=>z.elim
 |f x=>cases c;exact DA.less (show DA K (U O Z) H v d from WB.nf h) λb z=>z.elim
 |s i=>
  obtain⟨h1,s,h2,h3⟩:=h;have c':(st[i]?).bind Sl.get=some d:=c;rw[h2]at c';cases s with
  |e=>cases c'
  |v x=>
   cases c';obtain⟨u,g1,g2⟩:=E.val i _ h2;rw[h1]at g1;cases g1;exact g2.less λb z=>z.elim
  |o x=>
   cases c';walk_at "y";rw[h1]at g1;cases g1;exact g3.da (λz=>z) λb z=>z.elim
  |io x=>
   cases c';walk_at "y";rw[h1]at g1;cases g1;exact g3.da (λz=>z) λb z=>z.elim
theorem Xr.el0(h:Xr K Z st σ H O vs rs)(E:ER K st σ H O Z):∀{ds:Se D},eM st rs=some ds->El K (λ_=>False) H vs ds:=by
 induction h with
 |nil=>intro ds e;cases e;exact El.nil
 |@cons v vs r rs h1 _ ih=>
  intro ds e;refine SK e λd e1 e=>(SK e λds' e2 e=>?_);cases e;exact El.cons (h1.da0 E (by rw[ip];exact e1))<|ih e2
theorem DA.sc(h:DA K Y H v d)(s:d.isSc=true):DA K Y' H' v d:=by
 cases h with|non=>exact .non|bl b=>exact .bl b|int i=>exact .int i|str x=>exact .str x|ty n=>exact .ty n|_=>cases s
def aX(g:Se D->Sf Rz)(fa:FA):FE:=λst=>(fa st).bind λx=>(eM x.2 x.1).bind λds=>(g ds).bind λz=>if (z.1.isSc&&!z.2)=true then some (.d z.1,x.2) else none
def vK(ha:TB K ta fa):SO K (EQ (SR K g) ta) (aX g fa):=by
 walk_at "o";refine SN h λrs V1 e1 h=>(SK h λds e2 h=>(SN h λdz fr e3 h=>?_));obtain⟨hc,h⟩:=aQ h;cases h;have h1:dz.isSc=true/\fr=false:=by simpa using hc
 obtain⟨h1,rfl⟩:=h1;exact ha st σ H O Z _ E rs _ e1 λvs H1 O1 x1 k1 E1 rvs=>(⟨λ_=>False,ds,(dz,false),rvs.el0 E1 e2,λp z=>z.elim,e3,λv H3 s hres=>(q v H3 O1 (x1.trans<|VZ.ext s) k1 (E1.same s) (DA.sc (show DA K (λ_=>False) H3 v dz from hres) h1) True.intro)⟩)
def oA{s:Sl}(E:ER K st σ H O Z)(hs:st[i]?=some s)(hx:s.ow=some x)(hv:σ[i]?=some (some v))(el:El K (U O Z) H ws ds)(hg:g x ds=some (z,x'))
  (q:∀v H' O',Wr O H O' H'->Kp st (st.set i<|s.put x')->ER K (st.set i<|s.put x') σ H' O' Z->WB K Z (st.set i<|s.put x') σ H' O' v (mk z)->XZ H v (mk z)->Q v H'):lZ K g (v::ws) H Q XE:=by
 obtain⟨p,g1,g2,g3⟩:=E.own i s x hs hx;have ev:v=.ref p:=by rw[hv]at g1;cases g1;rfl
 subst ev;have a1:∀b,ins p (λb=>U O Z b/\b≠p) b->U O Z b:=λb z=>z.elim (λq=>by rw[q];exact .inl g2) λq=>q.1
 have a2:∀b,U O Z b->ins p (λb=>U O Z b/\b≠p) b:=λb z=>by
  by_cases e:b=p
  ·exact .inl e
  ·exact .inr ⟨z,e⟩
 refine⟨p,ws,λb=>U O Z b/\b≠p,x,ds,z,x',rfl,λz=>z.2 rfl,g3.go rfl (λ_ _ e _=>e)<|λb z=>.inl<|a1 b z,el.less a1,λb z=>E.liv b z.1,hg,λu H' kp hres=>?_⟩;have ho:OA K (ins p λb=>U O Z b/\b≠p) H' p x':=by
  obtain⟨dz,fr⟩:=z;cases fr with
  |false=>exact hres.2
  |true=>obtain⟨r,_,_,_,h⟩:=hres;exact h.go rfl (λ_ _ e _=>e) λb z=>.inl<|.inr z
 have kp':∀b o,H b=some o->¬ U O Z b->H' b=some o:=λb o e n=>kp b o e λz=>n (by rw[z];exact .inl g2)
 have al:∀b,H b≠none->H' b≠none:=λb hb=>by
  by_cases e:b=p
  ·rw[e];exact ho.live
  ·cases eb:H b with|none=>exact absurd eb hb|some o=>rw[kp b o eb e];simp
 have al':∀b,Lv H b->Lv H' b:=λb hb=>by
  by_cases e:b=p
  ·rw[e];exact ho.lv
  ·exact hb.same λo eb=>kp b o eb e
 have ex:Wr O H O H':=⟨λb o e n=>kp b o e λz=>n (by rw[z];exact g2),λb z=>.inl z,al,al'⟩
 have ho':OA K (U O Z) H' p x':=ho.go rfl (λ_ _ e _=>e) λb z=>.inl<|a2 b z;have mkE:∀(O2:AS),(∀b,O b->O2 b)->(∀b,O2 b->O b\/H b=none)->(∀b,O2 b->¬ Z b)->(∀b,O2 b->Lv H' b)->OA K (U O2 Z) H' p x'->ER K (st.set i<|s.put x') σ H' O2 Z:=λO2 up dn ds lv ho2=>by
  have nn:∀b,U O2 Z b->U O Z b\/H b=none:=λb z=>z.elim (λy=>(dn b y).elim (λw=>.inl<|.inl w) .inr) λy=>.inl<|.inr y;refine⟨by simp[E.len],λj d hj=>?_,λj t d hj ht=>?_,λj k t t' d d' r hj ht hk ht' e1 e2=>?_,ds,λr hr=>hr.elim (lv r) λy=>al' r<|E.liv r<|.inr y⟩
  ·by_cases e:i=j
   ·subst e;rw[bA hs]at hj;exact absurd (Option.some.inj hj)<|Sl.put_v _ _ _
   ·rw[aE e]at hj;obtain⟨v,h1,h2⟩:=E.val j d hj;exact⟨v,h1,h2.go kp' nn⟩
  ·by_cases e:i=j
   ·subst e;rw[bA hs]at hj;have:=Option.some.inj hj;subst this;rw[Sl.put_ow]at ht;cases ht;exact⟨p,g1,up p g2,ho2⟩
   ·rw[aE e]at hj;obtain⟨r,h1,h2,h3⟩:=E.own j t d hj ht;have hne:r≠p:=λz=>by subst z;exact e (E.uni i j s t x d r hs hx hj ht g1 h1)
    refine⟨r,h1,up r h2,h3.go ?_ kp' nn⟩;cases er:H r with|none=>exact absurd er h3.live|some o=>exact kp r o er hne
  ·have own':∀(m:Nat)(t:Sl)(d:D),(st.set i<|s.put x')[m]?=some t->t.ow=some d->∃t2 d2,st[m]?=some t2/\t2.ow=some d2:=λm t d hm ht=>by
    by_cases e:i=m
    ·subst e;exact⟨s,x,hs,hx⟩
    ·rw[aE e]at hm;exact⟨t,d,hm,ht⟩
   obtain⟨t1,d1,a1,b1⟩:=own' j t d hj ht;obtain⟨t2,d2,a2,b2⟩:=own' k t' d' hk ht';exact E.uni j k t1 t2 d1 d2 r a1 b1 a2 b2 e1 e2
 have kk:Kp st (st.set i<|s.put x'):=by
  refine⟨by simp,λj t hj ht=>?_,λj d hj=>?_⟩
  ·by_cases e:i=j
   ·subst e;exact⟨s.put x',bA hs,by cases s<;>simp[Sl.put,Sl.get]⟩
   ·exact⟨t,by rw[aE e];exact hj,ht⟩
  ·by_cases e:i=j
   ·subst e;rw[hs]at hj;cases hj;exact⟨x',bA hs⟩
   ·exact⟨d,by rw[aE e];exact hj⟩
 refine q u H' O ex kk (mkE O (λ_ z=>z) (λ_ z=>.inl z) E.dis (λb z=>al' b<|E.liv b<|.inl z) ho') ?_ ?_
 rotate_left
 ·obtain⟨dz,fr⟩:=z;cases fr with
  |false=>trivial
  |true=>obtain⟨r,rfl,hr,_⟩:=hres;exact λq e=>by cases e;exact hr
 obtain⟨dz,fr⟩:=z;cases fr with
 |false=>exact DA.less (show DA K _ H' u dz from hres.1) a2
 |true=>
  obtain⟨r,rfl,hr,hor,hof⟩:=hres;have hf:=E.free hr;have a3:∀b,ins r (U O Z) b->ins r (ins p λb=>U O Z b/\b≠p) b:=λb z=>z.elim .inl λy=>.inr<|a2 b y;exact⟨r,rfl,hf.1,hf.2,hor.go rfl (λ_ _ e _=>e)<|λb z=>.inl<|a3 b z,mkE (ins r O) (λ_ z=>.inr z) (λb z=>z.elim (λy=>.inr (by rw[y];exact hr)) .inl) (λb z=>z.elim (λy=>by rw[y];exact hf.2)<|E.dis b) (λb z=>z.elim (λy=>by rw[y];exact hor.lv) λy=>al' b<|E.liv b<|.inl y)<|hof.go rfl (λ_ _ e _=>e) λb z=>.inl<|a3 b<|z.elim (λy=>y.elim .inl λw=>.inr<|.inl w) λy=>.inr<|.inr y⟩
def S5(g:D->Se D->Sf (Rz×D))(i:Nat)(fr:FA):FE:=λst=>(st[i]?).bind λs0=>(s0.ow).bind λ_=>(fr st).bind λx=>(dP x.1 x.2).bind λy=>(y.2[i]?).bind λs=>(s.ow).bind λd=>(g d y.1).bind λz=>some (mk z.1,y.2.set i<|s.put z.2)
def MM(hr:TB K tr fr):SO K (EQ (lZ K g)<|gE (xi i) tr) (S5 g i fr):=by
 walk_at "o";refine SK h λs0 f1 h=>(SK h λx0 f2 h=>(SN h λrs V1 e1 h=>(SN h λds V4 e2 h=>(SK h λs e3 h=>(SK h λx e4 h=>(SN h λz x' e5 h=>?_))))));cases h;obtain⟨p,g1,_,_⟩:=E.own i s0 x0 f1 f2;refine⟨.ref p,g1,(hr st σ H O Z _ E rs V1 e1 λvs H1 O1 x1 k1 E1 rvs=>?_)⟩;walk_at "c";exact oA E2 e3 e4 g1 el e5 λv H' O' ex kk E' rv w=>q v H' O' ((x1.trans x2).trans ex) ((k1.trans k2).trans kk) E' rv<|w.back<|x1.trans x2
end
structure Kq(st:En)(σ:St)(VX:En)(σ':St):Prop where
 len:VX.length=st.length
 io:∀(i:Nat) d,st[i]?=some (.io d)->σ'[i]?=σ[i]?/\∃d',VX[i]?=some (.io d')
def Kq.refl(st:En)(σ:St):Kq st σ st σ:=⟨rfl,λi d h=>⟨rfl,d,h⟩⟩
theorem Kq.trans(h:Kq a x b y)(g:Kq b y c z):Kq a x c z:=by
 refine⟨g.len.trans h.len,λi d e=>?_⟩;obtain⟨e1,d1,e2⟩:=h.io i d e;obtain⟨e3,d2,e4⟩:=g.io i d1 e2;exact⟨e3.trans e1,d2,e4⟩
def Kp.kq(k:Kp st VX):Kq st σ VX σ:=⟨k.len,λi d h=>⟨rfl,k.io i d h⟩⟩
abbrev FG:=D->En->Option En
def Uu(K:Ab)(g:TG)(fg:FG)(tg:Se Nat):Prop:=∀(st:En)(σ:St)(H:Hp)(O Z:AS)(x:V)(d:D)(Q:St->Hp->Prop),ER K st σ H O Z->DA K (U O Z) H x d->∀VX,fg d st=some VX->
 (∀σ',(∀j,j∉tg->σ'[j]?=σ[j]?/\VX[j]?=st[j]?)->Kq st σ VX σ'->ER K VX σ' H O Z->Q σ' H)->g x σ H Q
def Sl.isIo:Sl->Ss|.io _=>true|_=>false
def rF(i:Nat)(s:Sl)(st:En):Sf En:=(st[i]?).bind λt=>if t.isIo=true then none else some (st.set i s)
section
variable {st VX V1 V4:En}{σ σ':St}
def pB(h:rF i s st=some VX):∃t,st[i]?=some t/\t.isIo=false/\VX=st.set i s:=by grind [rF]
def tX{s t:Sl}(e:st[i]?=some t)(n:t.isIo=false):Kq st σ (st.set i s) (σ.set i w):=by
 refine⟨by simp,λj d h=>?_⟩
 have q:i≠j:=λz=>by subst z;rw[e]at h;cases h;cases n
 exact⟨aE q,d,by rw[aE q];exact h⟩
def ER.asg(E:ER K st σ H O Z)(e:st[i]?=some t)(h:DA K (U O Z) H v d):ER K (st.set i<|.v d) (σ.set i<|some v) H O Z:=by
 have hi:i<σ.length:=by rw[<-E.len];exact(Vb.mp e).1
 have sg:(σ.set i<|some v)[i]?=some (some v):=by rw[Bv,Ag rfl,Ag hi]
 have ne:∀(j:Nat) s x,(st.set i<|.v d)[j]?=some s->s.ow=some x->i≠j/\st[j]?=some s:=λj s x h1 h2=>by
  by_cases q:i=j
  ·subst q;rw[bA e]at h1;cases h1;cases h2
  ·exact⟨q,by rw[aE q]at h1;exact h1⟩
 refine⟨by simp[E.len],λj x hj=>?_,λj s x h1 h2=>?_,λj k s s' x x' r h1 h2 h3 h4 h5 h6=>?_,E.dis,E.liv⟩
 ·by_cases q:i=j
  ·subst q;rw[bA e]at hj;cases hj;exact⟨v,sg,h⟩
  ·rw[aE q]at hj;obtain⟨w,g1,g2⟩:=E.val j x hj;exact⟨w,by rw[aE q];exact g1,g2⟩
 ·obtain⟨q,h1⟩:=ne j s x h1 h2;obtain⟨r,g1,g2⟩:=E.own j s x h1 h2;exact⟨r,by rw[aE q];exact g1,g2⟩
 ·obtain⟨q1,h1⟩:=ne j s x h1 h2;obtain⟨q2,h3⟩:=ne k s' x' h3 h4;rw[aE q1]at h5;rw[aE q2]at h6;exact E.uni j k s s' x x' r h1 h2 h3 h4 h5 h6
def ER.asgF(E0:ER K st σ H O Z)(E:ER K st σ H (ins p O) Z)(np:¬ O p)(e:st[i]?=some t)(h:OA K (ins p<|U O Z) H p x):ER K (st.set i<|.o x) (σ.set i<|some<|.ref p) H (ins p O) Z:=by
 have hi:i<σ.length:=by rw[<-E.len];exact(Vb.mp e).1
 have sg:(σ.set i<|some<|V.ref p)[i]?=some (some<|.ref p):=by rw[Bv,Ag rfl,Ag hi]
 have fresh:∀(j:Nat) s y,st[j]?=some s->s.ow=some y->σ[j]?≠some (some<|.ref p):=λj s y h1 h2 z=>by
  obtain⟨r,g1,g2,_⟩:=E0.own j s y h1 h2;rw[z]at g1;cases g1;exact np g2
 refine⟨by simp[E.len],λj y hj=>?_,λj s y h1 h2=>?_,λj k s s' y y' r h1 h2 h3 h4 h5 h6=>?_,E.dis,E.liv⟩
 ·by_cases q:i=j
  ·subst q;rw[bA e]at hj;cases hj
  ·rw[aE q]at hj;obtain⟨w,g1,g2⟩:=E.val j y hj;exact⟨w,by rw[aE q];exact g1,g2⟩
 ·by_cases q:i=j
  ·subst q;rw[bA e]at h1;cases h1;cases h2;refine⟨p,sg,.inl rfl,h.go rfl (λ_ _ e _=>e) λb z=>.inl ?_⟩;rcases z with(z|z)|z
   ·exact .inl z
   ·exact .inr<|.inl z
   ·exact .inr<|.inr z
  ·rw[aE q]at h1;obtain⟨r,g1,g2⟩:=E.own j s y h1 h2;exact⟨r,by rw[aE q];exact g1,g2⟩
 ·by_cases q1:i=j
  ·by_cases q2:i=k
   ·exact q1.symm.trans q2
   ·subst q1;rw[aE q2]at h3 h6;rw[sg]at h5;cases h5;exact absurd h6<|fresh k s' y' h3 h4
  ·by_cases q2:i=k
   ·subst q2;rw[aE q1]at h1 h5;rw[sg]at h6;cases h6;exact absurd h5<|fresh j s y h1 h2
   ·rw[aE q1]at h1 h5;rw[aE q2]at h3 h6;exact E.uni j k s s' y y' r h1 h2 h3 h4 h5 h6
def gN(i:Nat):FG:=λd st=>rF i (.v d) st
def dX(i:Nat):Uu K (p8 i) (gN i) [i]:=by
 intro st σ H O Z x d Q E da VX h q;obtain⟨t,e,n,rfl⟩:=pB h;refine q (σ.set i<|some x) (λj hj=>?_) (tX e n)<|E.asg e da;have q:i≠j:=λz=>hj (by rw[z];simp)
 exact⟨aE q,aE q⟩
def KC(K:Ab)(g:Us)(fg:Se D->En->Sf En)(tg:Se Nat):Prop:=∀(st:En)(σ:St)(H:Hp)(O Z:AS)(xs:Se V)(ds:Se D)(Q:St->Hp->Prop),ER K st σ H O Z->El K (U O Z) H xs ds->∀VX,fg ds st=some VX->
 (∀σ',(∀j,j∉tg->σ'[j]?=σ[j]?/\VX[j]?=st[j]?)->Kq st σ VX σ'->ER K VX σ' H O Z->Q σ' H)->g xs σ H Q
def TR:Se D->En->Sf En:=λds st=>match ds with|[]=>some st|_=>none
theorem pC:KC K P5 TR []:=by
 intro st σ H O Z xs ds Q E el VX h q;cases ds with
 |nil=>
  cases h;exact⟨el.unnil,q σ (λj _=>⟨rfl,rfl⟩) (Kq.refl _ _) E⟩
 |cons d ds=>cases h
def Ti(fg:FG)(fgs:Se D->En->Sf En):Se D->En->Sf En:=λds st=>match ds with|d::r=>(fg d st).bind λV1=>fgs r V1|[]=>none
theorem fO(h1:Uu K g fg t1)(h2:KC K gs fgs t2):KC K (Mu g gs) (Ti fg fgs) (t1++t2):=by
 intro st σ H O Z xs ds Q E el VX h q;cases ds with
 |nil=>cases h
 |cons d ds=>
  refine SK h λV1 e1 h=>?_;walk_at "J";refine⟨v,r,rfl,h1 st σ H O Z v d _ E da V1 e1 λσ1 k1 q1 E1=>(h2 V1 σ1 H O Z r ds _ E1 el VX h λσ2 k2 q2 E2=>q σ2 (λj hj=>?_) (q1.trans q2) E2)⟩;have a:=k1 j λz=>hj<|Yg _ z;have b:=k2 j λz=>hj<|Vd _ z;exact⟨b.1.trans a.1,b.2.trans a.2⟩
def gT(n:Nat)(fgs:Se D->En->Sf En):FG:=λd st=>match d with|.tup ds=>if ds.length=n then fgs ds st else none|_=>none
theorem tY(h:KC K gs fgs t):Uu K (Np K n gs) (gT n fgs) t:=by
 intro st σ H O Z x d Q E da VX e q;cases d with
 |tup ds=>
  obtain⟨hn,e⟩:=aQ e;cases da with|tup h1 h2 h3=>exact⟨_,_,rfl,h1.sq,h2.trans hn,h st σ H O Z _ ds Q E ⟨h2,h3⟩ VX e q⟩
 |_=>cases e
abbrev FI:=En->Option (List D×En)
def Qy(K:Ab)(Z:AS)(J:It)(items:Se D)(H:Hp)(O:AS):Prop:=∀H' O',Wr O H O' H'->(∀p,U O' Z p->Lv H' p)->(∀i,items.length<=i->J.stop i H')/\∀(i:Nat) d,items[i]?=some d->J.go i H'/\∀x H'',J.yld i H' x H''->VZ H' H''/\DA K (U O' Z) H'' x d
def Xw(K:Ab)(wi:TI)(fi:FI):Prop:=∀(st:En)(σ:St)(H:Hp)(O Z:AS)(R:It->Hp->Prop),ER K st σ H O Z->∀items VX,fi st=some (items,VX)->
 (∀J H' O',Wr O H O' H'->Kp st VX->ER K VX σ H' O' Z->Qy K Z J items H' O'->R J H')->wi σ H R
def esc(r:Rs)(st:En):Sf (D×En):=(cont st r).bind λd=>(GA st r).bind λV1=>some (d,V1)
theorem WB.esc(h:WB K Z st σ H O v r)(E:ER K st σ H O Z)(e:esc r st=some (d,VX)):∃O',Wr O H O' H/\Kp st VX/\ER K VX σ H O' Z/\DA K (U O' Z) H v d:=by
 refine SK e λx e1 e=>(SK e λs1 e2 e=>?_);cases e;exact h.frz E e2 e1
def D.its:D->Sf (Se D)|.lst ds=>some ds|.fl ds=>some ds|_=>none
def D.itt:D->Sf (Se D)|.tup ds=>some ds|_=>none
def Uv(fe:FE):FI:=λst=>(fe st).bind λx=>(esc x.1 x.2).bind λy=>(y.1.its).bind λds=>some (ds,y.2)
def KF(h:SO K te fe):Xw K (yz K te) (Uv fe):=by
 walk_at "h";refine SN e λr V1 e1 e=>(SN e λd V4 e2 e=>(SK e λds e3 e=>?_));cases e;refine h st σ H O Z _ E r V1 e1 λv H1 O1 x1 k1 E1 rv w1=>?_;walk_at "D";have fin:∀{a:Sk}{vs:Se V},El K (U O2 Z) H1 vs items->(∀H' O',Wr O2 H1 O' H'->SW K H' a vs)->yz K (λ_ H Q=>Q (.ref a) H) σ H1 R:=λ{a vs} el sq=>by
  refine⟨a,rfl,⟨vs,sq H1 O2<|Wr.refl _ _⟩,q _ H1 O2 (x1.trans x2) (k1.trans k2) E2 λH' O' ex _=>?_⟩;have g1:=sq H' O' ex;have el':=el.ext ex;have hl:=el.1;refine⟨λi hi=>⟨vs,g1,by lia⟩,λi d hd=>?_⟩
  obtain⟨v,hv,hdv⟩:=el'.at hd;refine⟨⟨vs,v,g1,hv⟩,λx H'' hx=>?_⟩;obtain⟨rfl,hx⟩:=hx;have:=hx vs g1;rw[hv]at this;cases this;exact⟨VZ.refl _,hdv⟩
 cases d with
 |lst ds'=>
  cases e3;cases da with|@lst a vs _ h0 h1 h2 h3=>exact fin ⟨h2,h3⟩ λH' O' ex=>.inl<|.inl<|ex.kp a _ h1 λz=>h0<|.inl z
 |fl ds'=>
  cases e3;cases da with
  |@fl a vs _ h1 h2 h3=>
   refine fin ⟨h2,h3⟩ λH' O' ex=>?_;rcases h1 with⟨h1,hn⟩|h1
   ·exact .inl<|Rd.keep h1 λo e=>ex.kp a o e λz=>hn<|.inl z
   ·exact h1 H'
 |_=>cases e3
def UV(fe:FE):FI:=λst=>(fe st).bind λx=>(esc x.1 x.2).bind λy=>(y.1.itt).bind λds=>some (ds,y.2)
theorem N2(h:SO K te fe):Xw K (Nr K te) (UV fe):=by
 walk_at "h";refine SN e λr V1 e1 e=>(SN e λd V4 e2 e=>(SK e λds e3 e=>?_));cases e;refine h st σ H O Z _ E r V1 e1 λv H1 O1 x1 k1 E1 rv w1=>?_;walk_at "D";cases d with
 |tup ds'=>
  cases e3;cases da with
  |@tup a vs _ h1 h2 h3=>
   refine⟨a,rfl,⟨vs,h1.sq⟩,q _ H1 O2 (x1.trans x2) (k1.trans k2) E2 λH' O' ex _=>?_⟩;have da':=(DA.tup h1 h2 h3).ext ex;cases da' with
   |@tup _ ws _ g1 g2 g3=>
    refine⟨λi hi=>⟨ws,g1.sq,by lia⟩,λi d hd=>?_⟩
    obtain⟨v,hv,hdv⟩:=El.at ⟨g2,g3⟩ hd;refine⟨⟨ws,v,g1.sq,hv⟩,λx H'' hx=>?_⟩;obtain⟨rfl,hx⟩:=hx;have:=hx ws g1.sq;rw[hv]at this;cases this;exact⟨VZ.refl _,hdv⟩
 |_=>cases e3
def rng(lo:Int)(n:Nat):Se D:=(List.range n).map λ(i:Nat)=>D.int<|lo+(i:Int)
def GF(h:(rng lo n)[i]?=some d):i<n/\d=.int (lo+i):=by grind [rng]
def iq(lo:Int)(n:Nat):(rng lo n).length=n:=by simp[rng]
def GG:Qy K Z (UR lo n) (rng lo n) H O:=λH' O' ex _=>by
 refine⟨λi hi=>by rw[iq]at hi;exact hi,λi d hd=>?_⟩
 obtain⟨h1,rfl⟩:=GF hd;refine⟨h1,λx H'' hx=>?_⟩;obtain⟨rfl,rfl⟩:=hx;exact⟨VZ.refl _,.int _⟩
def N3:Se D->Sf Int|[.int j]=>some j|_=>none
def nQ(fa:FA):FI:=λst=>(fa st).bind λx=>(eM x.2 x.1).bind λds=>(N3 ds).bind λj=>if -(2 ^ 62)<=j/\j<2 ^ 62 then some (rng 0 j.toNat,x.2) else none
def yW(h:TB K ta fa):Xw K (Mv ta) (nQ fa):=by
 walk_at "h";refine SN e λrs V1 e1 e=>(SK e λds e2 e=>(SK e λj e3 e=>?_));obtain⟨hc,e⟩:=aQ e;cases e;refine h st σ H O Z _ E rs _ e1 λvs H1 O1 x1 k1 E1 rvs=>?_;have bs:=rvs.bas E1 e2;have ed:ds=[.int j]:=by
  unfold N3 at e3;split at e3
  ·cases e3;rfl
  ·cases e3
 subst ed;cases bs with
 |cons b1 b2=>
  cases b2;obtain rfl:=(show _=V.int j from b1);exact⟨j,rfl,hc.1,hc.2,q _ H1 O1 x1 k1 E1 GG⟩
def qg(x:Str):Se D:=x.cps.toList.map λc=>D.str ⟨#[c]⟩
def Vv(fe:FE):FI:=λst=>(fe st).bind λx=>match cont x.2 x.1 with|some (.str z)=>some (qg z,x.2)|_=>none
def N4(h:SO K te fe):Xw K (NR te) (Vv fe):=by
 walk_at "h";refine SN e λr V1 e1 e=>(h st σ H O Z _ E r V1 e1 λv H1 O1 x1 k1 E1 rv w1=>?_);dsimp only at e;split at e
 ·rename_i z ez
  cases e;have ev:v=.str z:=rv.ba E1 ez;refine⟨z,ev,q _ H1 O1 x1 k1 E1 λH' O' ex _=>⟨λi hi=>?_,λi d hd=>?_⟩⟩
  ·show z.cps.size<=i;simpa[qg]using hi
  ·unfold qg at hd;rw[Xd]at hd;obtain⟨c,hc,rfl⟩:=Wd.mp hd;have hc':z.cps[i]?=some c:=by simpa using hc
   refine⟨(Array.getElem?_eq_some_iff.mp hc').1,λx H'' hx=>?_⟩;obtain⟨rfl,c',h1,rfl⟩:=hx;rw[hc']at h1;cases h1;exact⟨VZ.refl _,.str _⟩
 ·cases e
inductive Ot where
 | nx (st:En)|rt (r:Rs) (st:En)|bk (st:En)|ct (st:En)
abbrev FS:=En->Option Ot
def Out(K:Ab)(Z O:AS)(H:Hp)(st:En)(σ:St)(Dn:Ends):Ot->Prop|.nx VX=>∀σ' H' O',Wr O H O' H'->Kq st σ VX σ'->ER K VX σ' H' O' Z->Dn.nx σ' H'|.rt r VX=>∀v σ' H' O',Wr O H O' H'->Kq st σ VX σ'->ER K VX σ' H' O' Z->WB K Z VX σ' H' O' v r->XZ H v r->Dn.rt v H'|.bk VX=>∀σ' H' O',Wr O H O' H'->Kq st σ VX σ'->ER K VX σ' H' O' Z->Dn.bk σ' H'|.ct VX=>∀σ' H' O',Wr O H O' H'->Kq st σ VX σ'->ER K VX σ' H' O' Z->Dn.ct σ' H'
def Tp(K:Ab)(ts:TS)(F:FS):Prop:=∀(st:En)(σ:St)(H:Hp)(O Z:AS)(Dn:Ends),ER K st σ H O Z->∀o,F st=some o->Out K Z O H st σ Dn o->ts Dn σ H
theorem Out.trans(h:Out K Z O H st σ Dn o)(x:Wr O H O1 H1)(k:Kq st σ V1 σ'):Out K Z O1 H1 V1 σ' Dn o:=by
 cases o with|nx s=>exact λσ2 H2 O2 x2 k2 E2=>h σ2 H2 O2 (x.trans x2) (k.trans k2) E2|bk s=>exact λσ2 H2 O2 x2 k2 E2=>h σ2 H2 O2 (x.trans x2) (k.trans k2) E2|ct s=>exact λσ2 H2 O2 x2 k2 E2=>h σ2 H2 O2 (x.trans x2) (k.trans k2) E2|rt r s=>exact λv σ2 H2 O2 x2 k2 E2 rv w=>h v σ2 H2 O2 (x.trans x2) (k.trans k2) E2 rv<|w.back x
def b8:FS:=λst=>some<|.nx st
def KG:Tp K Mr b8:=by
 walk_at "i";cases e;exact q σ H O (Wr.refl _ _) (Kq.refl _ _) E
def aH(F G:FS):FS:=λst=>(F st).bind λo=>match o with|.nx s=>G s|o=>some o
theorem GH(h1:Tp K t F)(h2:Tp K u G):Tp K (P2 t u) (aH F G):=by
 walk_at "i";refine SK e λo1 e1 e=>(h1 st σ H O Z _ E o1 e1 ?_);cases o1 with|nx s=>exact λσ1 H1 O1 x1 k1 E1=>h2 s σ1 H1 O1 Z Dn E1 o e (q.trans x1 k1)|bk s=>cases e;exact q|ct s=>cases e;exact q|rt r s=>cases e;exact q
def bY(fe:FE):FS:=λst=>(fe st).bind λx=>some<|.nx x.2
def yX(h:SO K te fe):Tp K (Ms te) (bY fe):=by
 walk_at "i";refine SN e λr V1 e1 e=>?_;cases e;exact h st σ H O Z _ E r V1 e1 λv H1 O1 x1 k1 E1 rv w1=>q σ H1 O1 x1 k1.kq E1
def bx(fe:FE):FS:=λst=>(fe st).bind λx=>some<|.rt x.1 x.2
def GI(h:SO K te fe):Tp K (P3 te) (bx fe):=by
 walk_at "i";refine SN e λr V1 e1 e=>?_;cases e;exact h st σ H O Z _ E r V1 e1 λv H1 O1 x1 k1 E1 rv w1=>q v σ H1 O1 x1 k1.kq E1 rv w1
def SV(f:FT)(F G:FS):FS:=λst=>(f st).bind λx=>if x.1=true then F x.2 else G x.2
theorem MN(hc:Tw K c f)(h1:Tp K t F)(h2:Tp K u G):Tp K (P4 c t u) (SV f F G):=by
 walk_at "i";refine SN e λb V1 e1 e=>(hc st σ H O Z _ E b V1 e1 λH1 O1 x1 k1 E1=>?_);cases b with
 |true=>
  rw[Ag rfl]at e ⊢;exact h1 V1 σ H1 O1 Z Dn E1 o e<|q.trans x1 k1.kq
 |false=>
  simp only[Wf,if_false]at e ⊢;exact h2 V1 σ H1 O1 Z Dn E1 o e<|q.trans x1 k1.kq
def bc(fe:FE)(i:Nat):FS:=λst=>(fe st).bind λx=>match x.1 with|.d y=>(rF i (.v y) x.2).bind λs=>some (.nx s)|.f y=>(rF i (.o y) x.2).bind λs=>some (.nx s)|.s j=>(esc (.s j) x.2).bind λy=>(rF i (.v y.1) y.2).bind λs=>some<|.nx s
theorem GJ(h:SO K te fe):Tp K (Ex te<|p8 i) (bc fe i):=by
 walk_at "i";refine SN e λr V1 e1 e=>(h st σ H O Z _ E r V1 e1 λv H1 O1 x1 k1 E1 rv w1=>?_);show Dn.nx (σ.set i<|some v) H1;cases r with
 |d y=>
  refine SK e λs e2 e=>?_;cases e;obtain⟨t,f1,f2,rfl⟩:=pB e2;exact q _ H1 O1 x1 (k1.kq.trans<|tX f1 f2)<|E1.asg f1 rv
 |f y=>
  refine SK e λs e2 e=>?_;cases e;obtain⟨t,f1,f2,rfl⟩:=pB e2;obtain⟨p,rfl,np,nz,ho,E2⟩:=rv;have hp:H p=none:=w1 p rfl;exact q _ H1 (ins p O1) ⟨x1.kp,λb z=>z.elim (λy=>by rw[y];exact .inr hp)<|x1.nw b,x1.al,x1.lv⟩ (k1.kq.trans<|tX f1 f2)<|E1.asgF E2 np f1 ho
 |s j=>
  refine SN e λd V4 e2 e=>(SK e λs e3 e=>?_);cases e;walk_at "D";obtain⟨t,f1,f2,rfl⟩:=pB e3;exact q _ H1 O2 (x1.trans x2) ((k1.kq.trans k2.kq).trans (tX f1 f2))<|E2.asg f1 da
end
section
variable {st VX V1 V4:En}
def eZ(fg:FG)(B:FS):Se D->FS
 |[],st=>some<|.nx st
 | x::r,st=>(fg x st).bind λs1=>(B s1).bind λo=>match o with|.nx s2=>eZ fg B r s2|.ct s2=>eZ fg B r s2|.bk s2=>some (.nx s2)|.rt y s2=>some<|.rt y s2
def fP(fi:FI)(fg:FG)(B:FS):FS:=λst=>(fi st).bind λx=>eZ fg B x.1 x.2
def tZ(hi:Xw K wi fi)(hg:Uu K g fg tg)(hb:Tp K tb B):Tp K (P7 wi g tb) (fP fi fg B):=by
 walk_at "i";refine SN e λitems V1 e1 e=>(hi st σ H O Z _ E items V1 e1 λJ H1 O1 x1 k1 E1 it=>?_);have q1:=q.trans x1<|k1.kq (σ:=σ);refine⟨λi m σ' H'=>m=items.length-i/\i<=items.length/\∃s O',Wr O1 H1 O' H'/\Kq V1 σ s σ'/\ER K s σ' H' O' Z/\eZ fg B (items.drop i) s=some o,⟨items.length,by simp,Vh _,V1,O1,Wr.refl _ _,Kq.refl _ _,E1,e⟩,?_⟩
 rintro i m σ' H' ⟨rfl,hle,s,O',x2,k2,E2,e2⟩;obtain⟨stop,go⟩:=it H' O' x2 E2.liv;by_cases hlt:i<items.length
 ·right;have hd:items.drop i=items[i]::items.drop (i+1):=Vl hlt;rw[hd]at e2;refine SK e2 λs1 e3 e2=>(SK e2 λo1 e4 e2=>?_);obtain⟨g1,g2⟩:=go i _<|Za hlt;refine⟨g1,λσ3 H3=>∃s O3,Wr O1 H1 O3 H3/\Kq V1 σ s σ3/\ER K s σ3 H3 O3 Z/\eZ fg B (items.drop<|i+1) s=some o,λσ3 H3 ⟨s3,O3,x3,k3,E3,e3'⟩=>⟨items.length-(i+1),by lia,rfl,hlt,s3,O3,x3,k3,E3,e3'⟩,λx H'' hy=>?_⟩
  obtain⟨sm,da⟩:=g2 x H'' hy;have xm:Wr O' H' O' H'':=VZ.ext sm;refine hg s σ' H'' O' Z x _ _ (E2.same sm) da s1 e3 λσ4 _ k4 E4=>(hb s1 σ4 H'' O' Z _ E4 o1 e4 ?_);have xx:=x2.trans xm;cases o1 with
  |nx s2=>exact λσ5 H5 O5 x5 k5 E5=>⟨s2,O5,xx.trans x5,(k2.trans k4).trans k5,E5,e2⟩
  |ct s2=>exact λσ5 H5 O5 x5 k5 E5=>⟨s2,O5,xx.trans x5,(k2.trans k4).trans k5,E5,e2⟩
  |bk s2=>
   cases e2;exact λσ5 H5 O5 x5 k5 E5=>q1 σ5 H5 O5 (xx.trans x5) ((k2.trans k4).trans k5) E5
  |rt y s2=>
   cases e2;exact λv σ5 H5 O5 x5 k5 E5 rv w=>q1 v σ5 H5 O5 (xx.trans x5) ((k2.trans k4).trans k5) E5 rv<|w.back xx
 ·left;have hn:items.drop i=[]:=DV (by lia)
  rw[hn]at e2;cases e2;exact⟨stop i<|by lia,q1 σ' H' O' x2 k2 E2⟩
def TC(f:FT)(B:FS):Nat->FS
 |0,_=>none
 | n+1,st=>(f st).bind λx=>if x.1=true then(B x.2).bind λo=>match o with|.nx s2=>TC f B n s2|.ct s2=>TC f B n s2|.bk s2=>some (.nx s2)|.rt y s2=>some (.rt y s2)
  else some (.nx x.2)
theorem vL(n:Nat)(hc:Tw K c f)(hb:Tp K tb B):Tp K (Ge c tb) (TC f B n):=by
 walk_at "i";refine⟨λm σ' H'=>∃s O',Wr O H O' H'/\Kq st σ s σ'/\ER K s σ' H' O' Z/\TC f B m s=some o,⟨n,st,O,Wr.refl _ _,Kq.refl _ _,E,e⟩,?_⟩;rintro m σ' H' ⟨s,O',x2,k2,E2,e2⟩;cases m with
 |zero=>cases e2
 |succ m=>
  refine SN e2 λb s1 e3 e2=>(hc s σ' H' O' Z _ E2 b s1 e3 λH3 O3 x3 k3 E3=>?_);have xx:=x2.trans x3;have kk:=k2.trans<|k3.kq (σ:=σ');cases b with
  |false=>
   simp only[Wf,if_false]at e2 ⊢;cases e2;exact q σ' H3 O3 xx kk E3
  |true=>
   rw[Ag rfl]at e2 ⊢;refine SK e2 λo1 e4 e2=>(⟨λσ5 H5=>∃s O5,Wr O H O5 H5/\Kq st σ s σ5/\ER K s σ5 H5 O5 Z/\TC f B m s=some o,λσ5 H5 h=>⟨m,AW _,h⟩,(hb s1 σ' H3 O3 Z _ E3 o1 e4 ?_)⟩);cases o1 with
   |nx s2=>exact λσ5 H5 O5 x5 k5 E5=>⟨s2,O5,xx.trans x5,kk.trans k5,E5,e2⟩
   |ct s2=>exact λσ5 H5 O5 x5 k5 E5=>⟨s2,O5,xx.trans x5,kk.trans k5,E5,e2⟩
   |bk s2=>
    cases e2;exact λσ5 H5 O5 x5 k5 E5=>q σ5 H5 O5 (xx.trans x5) (kk.trans k5) E5
   |rt y s2=>
    cases e2;exact λv σ5 H5 O5 x5 k5 E5 rv w=>q v σ5 H5 O5 (xx.trans x5) (kk.trans k5) E5 rv<|w.back xx
structure Yt(K:Ab)(T:String)(r:V->List V->Hp->VK->Prop)(ok:D->Bool)(m:D->List D->Option (D×D)):Prop where
 ty:∀(Y:AS)(H:Hp)(p:Addr)(x:D),OA K Y H p x->ok x=true->UK K T (.ref p) H
 run:∀(Y:AS)(H:Hp)(p:Addr)(x:D)(vs:List V)(ds:List D)(y x':D)(Q:VK),Y p->OA K Y H p x->El K Y H vs ds->m x ds=some (y,x')->
  (∀v o,DA K Y (upd H p o) v y->OA K Y (upd H p o) p x'->Q v (upd H p o))->r (.ref p) vs H Q
def fM(ok:D->Ss)(m:D->Se D->Sf (D×D))(i:Nat)(fa:FA):FE:=λst=>(st[i]?).bind λs0=>(s0.ow).bind λx0=>if ok x0=true then(fa st).bind λx=>(dP x.1 x.2).bind λy=>(y.2[i]?).bind λs=>(s.ow).bind λd=>(m d y.1).bind λz=>some (.d z.1,y.2.set i<|s.put z.2) else none
def Qz(hm:Yt K T r ok m)(ha:TB K ta fa):SO K (UU K T r (xi i) ta) (fM ok m i fa):=by
 walk_at "o";refine SK h λs0 f1 h=>(SK h λx0 f2 h=>?_);obtain⟨hok,h⟩:=aQ h;refine SN h λrs V1 e1 h=>(SN h λds V4 e2 h=>(SK h λs e3 h=>(SK h λx e4 h=>(SN h λy x' e5 h=>?_))));cases h;obtain⟨p,g1,g2,g3⟩:=E.own i s0 x0 f1 f2;refine⟨.ref p,g1,hm.ty _ _ _ _ g3 hok,(ha st σ H O Z _ E rs V1 e1 λvs H1 O1 x1 k1 E1 rvs=>?_)⟩;walk_at "c";obtain⟨p',j1,j2,j3⟩:=E2.own i s x e3 e4;have ep:p'=p:=by rw[g1]at j1;cases j1;rfl
 subst ep;refine hm.run (U O2 Z) H1 p' x vs ds y x' _ (.inl j2) j3 el e5 λv o da ho=>?_;obtain⟨E3,x3,k3⟩:=E2.write e3 e4 g1 ho;exact q v _ O2 ((x1.trans x2).trans x3) ((k1.trans k2).trans k3) E3 da True.intro
def GK(K:Ab)(t:Kf)(m:D->D->D->Sf D):Prop:=∀(Y:AS)(H:Hp)(p:Sk)(x:D)(k v:V)(dk dv x':D)(Q:Hp->Prop),Y p->OA K Y H p x->BA K Y H k dk->DA K Y H v dv->m x dk dv=some x'->
 (∀o,OA K Y (upd H p o) p x'->Q (upd H p o))->t (.ref p) k v H Q
def mX(m:D->D->D->Sf D)(fe:FE)(i:Nat)(fi:FE):FS:=λst=>(fe st).bind λx=>(esc x.1 x.2).bind λy=>(y.2[i]?).bind λs0=>(s0.ow).bind λ_=>(fi y.2).bind λw=>(cont w.2 w.1).bind λdk=>(w.2[i]?).bind λs=>(s.ow).bind λz=>(m z dk y.1).bind λz'=>some<|.nx<|w.2.set i<|s.put z'
def GL(hm:GK K t m)(he:SO K te fe)(hi:SO K ti fi):Tp K (Ex te<|P6 (xi i) ti t) (mX m fe i fi):=by
 walk_at "i";refine SN e λr V1 e1 e=>(SN e λdv V4 e2 e=>(SK e λs0 e3 e=>(SK e λx0 e4 e=>(SN e λrk Wq e5 e=>(SK e λdk e6 e=>(SK e λs e7 e=>(SK e λx e8 e=>(SK e λx' e9 e=>?_))))))));cases e;refine he st σ H O Z _ E r V1 e1 λv H1 O1 x1 k1 E1 rv w1=>?_;walk_at "D";obtain⟨p,g1,g2,g3⟩:=E2.own i s0 x0 e3 e4;refine⟨.ref p,g1,(hi V4 σ H1 O2 Z _ E2 rk Wq e5 λk H3 O3 x3 k3 E3 rk' w3=>?_)⟩;obtain⟨p',j1,j2,j3⟩:=E3.own i s x e7 e8;have ep:p'=p:=by rw[g1]at j1;cases j1;rfl
 subst ep;refine hm (U O3 Z) H3 p' x k v dk dv x' _ (.inl j2) j3 (rk'.ba E3 e6) (da.ext x3) e9 λo ho=>?_;obtain⟨E4,x4,k4⟩:=E3.write e7 e8 g1 ho;exact q σ _ O3 (((x1.trans x2).trans x3).trans x4) (((k1.trans k2).trans k3).trans k4).kq E4
def lL(k:Nat)(VW:Se Nat)(st:En):En:=List.replicate k Sl.e++VW.map λi=>(st[i]?).getD .e
def Tj(k:Nat)(s:En):En:=List.replicate k Sl.e++s.drop k
def wb:Se Nat->En->En->En|i::r,s::sb,st=>wb r sb (st.set i s)|_,_,st=>st
def cA(fg:FG)(fc:FT)(fe:FE)(k:Nat):Se D->En->Sf (Se D×En)
 |[],sb=>some ([],sb)
 | x::r,sb=>(fg x sb).bind λs1=>(fc s1).bind λc=>if c.1=true then(fe c.2).bind λy=>(esc y.1 y.2).bind λw=>(cA fg fc fe k r<|Tj k w.2).bind λz=>some (w.1::z.1,z.2)
  else cA fg fc fe k r (Tj k c.2)
def t8(VW:Se Nat)(n:Nat):Ss:=decide VW.Nodup&&VW.all λi=>decide<|i<n
def dr(k:Nat)(VW:Se Nat)(fi:FI)(fg:FG)(fc:FT)(fe:FE):FE:=λst=>(fi st).bind λx=>if (t8 VW x.2.length&&decide (x.1.length<=1000000))=true then(cA fg fc fe k x.1<|lL k VW x.2).bind λy=>some (.f<|.lst y.1,wb VW (y.2.drop k) x.2) else none
theorem xB:∀(VW:Se Nat)(sb st:En),(wb VW sb st).length=st.length|[],_,_=>by simp[wb]|_::_,[],_=>by simp[wb]|i::r,s::sb,st=>by rw[wb,xB r sb];simp
theorem qh:∀(VW:Se Nat)(sb st:En){i:Nat},i∉VW->(wb VW sb st)[i]?=st[i]?
 |[],_,_,_,_=>by simp[wb]
 |_::_,[],_,_,_=>by simp[wb]
 | j::r,s::sb,st,i,h=>by
  rw[wb,qh r sb _<|λz=>h<|Wb _ z];exact aE λz=>h (by rw[z];simp)
theorem GM:∀(VW:Se Nat)(sb st:En){j i:Nat},VW.Nodup->sb.length=VW.length->VW[j]?=some i->i<st.length->(wb VW sb st)[i]?=sb[j]?
 |[],_,_,_,_,_,_,h,_=>by simp at h
 |_::_,[],_,_,_,_,h,_,_=>by simp at h
 | c::r,s::sb,st,0,i,nd,hl,h,hi=>by
  have e:c=i:=by simpa using h
  subst e;rw[wb,qh r sb _ (Xj.mp nd).1];rw[Bv,Ag rfl,Ag hi];rfl
 | c::r,s::sb,st,j+1,i,nd,hl,h,hi=>by
  rw[wb,GM r sb _ (j:=j) (Xj.mp nd).2 (by simpa using hl) (by simpa using h)<|by simpa using hi];rfl
def yY(h:VW[j]?=some i):(lL k VW st)[k+j]?=some ((st[i]?).getD .e):=by grind [lL]
def mY{s:Sl}(h:(lL k VW st)[i]?=some s)(n:s.get≠none):∃j i',i=k+j/\VW[j]?=some i'/\st[i']?=some s:=by
 unfold lL at h;by_cases hi:i<k
 ·rw[Xh<|by simpa using hi,AE,Ag hi]at h
  cases h;exact absurd rfl n
 ·rw[Qf<|by simpa using hi,Ql,Xd]at h
  refine⟨i-k,?_⟩;obtain⟨i',e1,e2⟩:=Wd.mp h;refine⟨i',by lia,e1,?_⟩
  cases q:st[i']? with|none=>rw[q]at e2;subst e2;exact absurd rfl n|some t=>rw[q]at e2;subst e2;rfl
def md(h:VW[j]?=some i):(Te k VW σ)[k+j]?=some ((σ[i]?).getD none):=by grind [Te]
def jZ{s:Sl}(h:s.ow=some d):s.get≠none:=by cases s<;>first|(cases h;done)|simp[Sl.get]
def GN{l:Se Nat}{j j' i:Nat}(nd:l.Nodup)(h:l[j]?=some i)(h':l[j']?=some i):j=j':=by
 obtain⟨h1,h2⟩:=Vb.mp h;obtain⟨h3,h4⟩:=Vb.mp h';exact(List.getElem_inj nd).mp (h2.trans h4.symm)
def Ob(VW:Se Nat)(st:En)(σ:St):AS:=λp=>∃i∈VW,∃s d,st[i]?=some s/\s.ow=some d/\σ[i]?=some (some<|.ref p)
def Zb(VW:Se Nat)(st:En)(σ:St)(O Z:AS):AS:=λp=>Z p\/(O p/\¬ Ob VW st σ p)
def Ob.o(E:ER K st σ H O Z)(h:Ob VW st σ q):O q:=by
 obtain⟨i,_,s,d,h1,h2,h3⟩:=h;obtain⟨p,g1,g2,_⟩:=E.own i s d h1 h2;rw[h3]at g1;cases g1;exact g2
def N5{k:Nat}{VW:Se Nat}(E:ER K st σ H O Z)(nd:VW.Nodup):ER K (lL k VW st) (Te k VW σ) H (Ob VW st σ) (Zb VW st σ O Z):=by
 have up:∀b,U (Ob VW st σ) (Zb VW st σ O Z) b->U O Z b:=λb z=>z.elim (λy=>.inl<|Ob.o E y) λy=>y.elim .inr λw=>.inl w.1;refine⟨by simp[lL,Te],λi d h=>?_,λi s d h1 h2=>?_,λi j s t d d' p h1 h2 h3 h4 h5 h6=>?_,λp h z=>?_,λp h=>E.liv p<|up p h⟩
 ·obtain⟨j,i',rfl,hc,hs⟩:=mY h (by simp[Sl.get])
  obtain⟨v,g1,g2⟩:=E.val i' d hs;exact⟨v,by rw[md hc,g1];rfl,g2.less up⟩
 ·obtain⟨j,i',rfl,hc,hs⟩:=mY h1<|jZ h2;obtain⟨p,g1,g2,g3⟩:=E.own i' s d hs h2;exact⟨p,by rw[md hc,g1];rfl,⟨i',Va hc,s,d,hs,h2,g1⟩,g3.go rfl (λ_ _ e _=>e) λb z=>.inl<|up b z⟩
 ·obtain⟨j1,i1,rfl,c1,s1⟩:=mY h1<|jZ h2;obtain⟨j2,i2,rfl,c2,s2⟩:=mY h3<|jZ h4;obtain⟨p1,g1,_⟩:=E.own i1 s d s1 h2;obtain⟨p2,g2,_⟩:=E.own i2 t d' s2 h4;rw[md c1,g1]at h5;rw[md c2,g2]at h6;have e1:p1=p:=by simpa using h5
  have e2:p2=p:=by simpa using h6
  subst e1;subst e2;have e:=E.uni i1 i2 s t d d' _ s1 h2 s2 h4 g1 g2;subst e;rw[GN nd c1 c2]
 ·rcases z with z|z
  ·exact E.dis p (Ob.o E h) z
  ·exact z.2 h
def GO{τ τ':St}(E:ER K st τ H O Z)(hl:τ'.length=τ.length)(hk:k<=st.length)(h:∀j,k<=j->τ'[j]?=τ[j]?):ER K (Tj k st) τ' H O Z:=by
 have at_:∀(i:Nat) s,(Tj k st)[i]?=some s->s.get≠none->k<=i/\st[i]?=some s:=λi s e n=>by
  unfold Tj at e;by_cases hi:i<k
  ·rw[Xh<|by simpa using hi,AE,Ag hi]at e
   cases e;exact absurd rfl n
  ·rw[Qf<|by simpa using hi,Ql,Zg]at e
   have:k+(i-k)=i:=by lia
   rw[this]at e;exact⟨by lia,e⟩
 refine⟨?_,λi d e=>?_,λi s d e1 e2=>?_,λi j s t d d' p e1 e2 e3 e4 e5 e6=>?_,E.dis,E.liv⟩
 ·rw[hl,<-E.len];simp[Tj];lia
 ·obtain⟨hk,e⟩:=at_ i _ e (by simp[Sl.get])
  obtain⟨v,g1,g2⟩:=E.val i d e;exact⟨v,by rw[h i hk];exact g1,g2⟩
 ·obtain⟨hk,e⟩:=at_ i _ e1<|jZ e2;obtain⟨p,g1,g2⟩:=E.own i s d e e2;exact⟨p,by rw[h i hk];exact g1,g2⟩
 ·obtain⟨hk1,e1⟩:=at_ i _ e1<|jZ e2;obtain⟨hk2,e3⟩:=at_ j _ e3<|jZ e4;rw[h i hk1]at e5;rw[h j hk2]at e6;exact E.uni i j s t d d' p e1 e2 e3 e4 e5 e6
def Oo(VW:Se Nat)(st:En)(σ:St)(O Oi:AS):AS:=λp=>Oi p\/(O p/\¬ Ob VW st σ p)
def xC(E:ER K st σ H O Z)(x:Wr (Ob VW st σ) H Oi H'):Wr O H (Oo VW st σ O Oi) H' :=
 ⟨λb o e n=>x.kp b o e λz=>n<|Ob.o E z,λb z=>z.elim (λy=>(x.nw b y).elim (λw=>.inl<|Ob.o E w) .inr) λy=>.inl y.1,x.al,x.lv⟩
def GP{VW:Se Nat}{sb:En}(E:ER K st σ H O Z)(nd:VW.Nodup)(lt:∀i∈VW,i<st.length)(hl:sb.length=k+VW.length)(x:Wr (Ob VW st σ) H Oi H')(B:ER K sb (Te k VW σ) H' Oi (Zb VW st σ O Z)) :
  ER K (wb VW (sb.drop k) st) σ H' (Oo VW st σ O Oi) Z:=by
 have dl:(sb.drop k).length=VW.length:=by rw[Xi];lia
 have cap:∀(j i:Nat),VW[j]?=some i->(wb VW (sb.drop k) st)[i]?=sb[k+j]?:=λj i h=>by
  rw[GM VW _ st nd dl h<|lt i<|Va h,Zg]
 have out:∀i,i∉VW->(wb VW (sb.drop k) st)[i]?=st[i]?:=λi h=>qh VW _ st h;have same:∀b,U (Oo VW st σ O Oi) Z b->U Oi (Zb VW st σ O Z) b:=λb z=>by
  rcases z with(z|z)|z
  ·exact .inl z
  ·exact .inr<|.inr z
  ·exact .inr<|.inl z
 have kp:∀b o,H b=some o->¬ U O Z b->H' b=some o:=λb o e n=>x.kp b o e λz=>n<|.inl<|Ob.o E z;have nn:∀b,U (Oo VW st σ O Oi) Z b->U O Z b\/H b=none:=λb z=>by
  rcases z with z|z
  ·exact((xC E x).nw b z).elim (λy=>.inl<|.inl y) .inr
  ·exact .inl<|.inr z
 have nob:∀(i:Nat) s d p,i∉VW->st[i]?=some s->s.ow=some d->σ[i]?=some (some<|.ref p)->¬ Ob VW st σ p:=λi s d p hn h1 h2 h3 z=>by
  obtain⟨i0,hm,s0,d0,g1,g2,g3⟩:=z;have:=E.uni i i0 s s0 d d0 p h1 h2 g1 g2 h3 g3;subst this;exact hn hm
 have bget:∀{j i:Nat}{v:V},VW[j]?=some i->(Te k VW σ)[k+j]?=some (some v)->σ[i]?=some (some v):=λ{j i v} hc hb=>by
  rw[md hc]at hb;have hb':=Option.some.inj hb;cases q:σ[i]? with|none=>rw[q]at hb';cases hb'|some w=>rw[q]at hb';have:w=some v:=hb';rw[this]
 have own:∀(i:Nat) s d,(wb VW (sb.drop k) st)[i]?=some s->s.ow=some d->(∃j,VW[j]?=some i/\sb[k+j]?=some s)\/(i∉VW/\st[i]?=some s):=λi s d h1 _=>by
  by_cases hc:i∈VW
  ·obtain⟨j,hj⟩:=Yn hc;rw[cap j i hj]at h1;exact .inl ⟨j,hj,h1⟩
  ·rw[out i hc]at h1;exact .inr ⟨hc,h1⟩
 refine⟨by rw[xB];exact E.len,λi d h=>?_,λi s d h1 h2=>?_,λi j s t d d' p h1 h2 h3 h4 h5 h6=>?_,λp h=>?_,λp h=>?_⟩
 ·by_cases hc:i∈VW
  ·obtain⟨j,hj⟩:=Yn hc;rw[cap j i hj]at h;obtain⟨v,g1,g2⟩:=B.val _ d h;exact⟨v,bget hj g1,g2.less same⟩
  ·rw[out i hc]at h;obtain⟨v,g1,g2⟩:=E.val i d h;exact⟨v,g1,g2.go kp nn⟩
 ·rcases own i s d h1 h2 with⟨j,hj,hs⟩|⟨hc,hs⟩
  ·obtain⟨p,g1,g2,g3⟩:=B.own _ s d hs h2;exact⟨p,bget hj g1,.inl g2,g3.go rfl (λ_ _ e _=>e) λb z=>.inl<|same b z⟩
  ·obtain⟨p,g1,g2,g3⟩:=E.own i s d hs h2;have nb:=nob i s d p hc hs h2 g1;refine⟨p,g1,.inr ⟨g2,nb⟩,g3.go ?_ kp nn⟩;cases q:H p with|none=>exact absurd q g3.live|some o=>exact x.kp p o q nb
 ·rcases own i s d h1 h2 with⟨j1,c1,s1⟩|⟨c1,s1⟩<;>rcases own j t d' h3 h4 with⟨j2,c2,s2⟩|⟨c2,s2⟩
  ·have e:=B.uni _ _ s t d d' p s1 h2 s2 h4 (by rw[md c1,h5];rfl) (by rw[md c2,h6];rfl)
   have e':j1=j2:=by lia
   subst e';rw[c1]at c2;exact Option.some.inj c2
  ·exfalso
   obtain⟨q,g1,g2,_⟩:=B.own _ s d s1 h2;have:=bget c1 g1;rw[h5]at this;cases this;obtain⟨q2,k1,_,k3⟩:=E.own j t d' s2 h4;rw[h6]at k1;cases k1;exact(x.nw p g2).elim (nob j t d' p c2 s2 h4 h6) k3.live
  ·exfalso
   obtain⟨q,g1,g2,_⟩:=B.own _ t d' s2 h4;have:=bget c2 g1;rw[h6]at this;cases this;obtain⟨q2,k1,_,k3⟩:=E.own i s d s1 h2;rw[h5]at k1;cases k1;exact(x.nw p g2).elim (nob i s d p c1 s1 h2 h5) k3.live
  ·exact E.uni i j s t d d' p s1 h2 s2 h4 h5 h6
 ·rcases h with h|h
  ·exact λz=>B.dis p h<|.inl z
  ·exact E.dis p h.1
 ·rcases h with(h|h)|h
  ·exact B.liv p<|.inl h
  ·exact x.lv p<|E.liv p<|.inl h.1
  ·exact x.lv p<|E.liv p<|.inr h
def GQ{a b:En}(h0:∀(i:Nat) s,a[i]?=some s->i<k->s=.e)(h:Kp a b)(hk:k<=b.length):Kp a (Tj k b):=by
 have lk:(Tj k b).length=b.length:=by simp[Tj];lia
 have at_:∀i,k<=i->(Tj k b)[i]?=b[i]?:=λi hi=>by
  unfold Tj;rw[Qf<|by simpa using hi,Ql,Zg]
  congr 1;lia
 refine⟨lk.trans h.len,λi s e g=>?_,λi d e=>?_⟩
 ·by_cases hi:i<k
  ·have:=h0 i s e hi;subst this;exact absurd rfl g
  ·obtain⟨s',e',g'⟩:=h.has i s e g;exact⟨s',by rw[at_ i<|by lia];exact e',g'⟩
 ·by_cases hi:i<k
  ·have:=h0 i _ e hi;cases this
  ·obtain⟨d',e'⟩:=h.io i d e;exact⟨d',by rw[at_ i<|by lia];exact e'⟩
def QA{VW:Se Nat}{sb:En}(nd:VW.Nodup)(lt:∀i∈VW,i<st.length)(hl:sb.length=k+VW.length)(h:Kp (lL k VW st) sb):Kp st (wb VW (sb.drop k) st):=by
 have dl:(sb.drop k).length=VW.length:=by rw[Xi];lia
 have cap:∀(j i:Nat),VW[j]?=some i->(wb VW (sb.drop k) st)[i]?=sb[k+j]?:=λj i h=>by
  rw[GM VW _ st nd dl h<|lt i<|Va h,Zg]
 refine⟨xB _ _ _,λi s e g=>?_,λi d e=>?_⟩
 ·by_cases hc:i∈VW
  ·obtain⟨j,hj⟩:=Yn hc;rw[cap j i hj];exact h.has (k+j) s (by rw[yY hj,e];rfl) g
  ·exact⟨s,by rw[qh _ _ _ hc];exact e,g⟩
 ·by_cases hc:i∈VW
  ·obtain⟨j,hj⟩:=Yn hc;rw[cap j i hj];exact h.io (k+j) d (by rw[yY hj,e];rfl)
  ·exact⟨d,by rw[qh _ _ _ hc];exact e⟩
end
section
variable {vs:Se V}
def t9(i:Nat)(s:Sl)(h:(lL k VW st)[i]?=some s)(hi:i<k):s=.e:=by grind [Sl,lL]
def VM(K:Ab)(Z:AS)(VW:Se Nat)(st:En)(σ:St)(J:It)(items:Se D)(H:Hp)(O:AS):Prop:=∀H' Oi,Wr (Ob VW st σ) H Oi H'->(∀p,U (Oo VW st σ O Oi) Z p->Lv H' p)->(∀i,items.length<=i->J.stop i H')/\∀(i:Nat) d,items[i]?=some d->J.go i H'/\∀x H'',J.yld i H' x H''->VZ H' H''/\DA K (U (Oo VW st σ O Oi) Z) H'' x d
def QB(K:Ab)(VW:Se Nat)(wi:TI)(fi:FI):Prop:=∀(st:En)(σ:St)(H:Hp)(O Z:AS)(R:It->Hp->Prop),ER K st σ H O Z->∀items VX,fi st=some (items,VX)->
 (∀J H' O',Wr O H O' H'->Kp st VX->ER K VX σ H' O' Z->VM K Z VW VX σ J items H' O'->R J H')->wi σ H R
def Xw.ic(h:Xw K wi fi):QB K VW wi fi:=λst σ H O Z R E items VX e q=>
 h st σ H O Z R E items VX e λJ H1 O1 x1 k1 E1 it=>q J H1 O1 x1 k1 E1 λH' Oi x2 lv=>it H' _ (xC E1 x2) lv
def GR(hi:QB K VW wi fi)(hg:Uu K g fg tg)(ht:∀j∈tg,j<k)(hc:Tw K tc fc)(he:SO K te fe) :
  SO K (sr k VW wi g tc te) (dr k VW fi fg fc fe):=by
 walk_at "j";refine SN h λitems V1 e1 h=>?_;by_cases hok:(t8 VW V1.length&&decide (items.length<=1000000))=true
 rotate_left
 ·simp only[Ak hok]at h;cases h
 simp only[Ag hok]at h;refine SN h λtotal sf e2 h=>?_;cases h;have hok1:VW.Nodup/\(∀i∈VW,i<V1.length)/\items.length<=1000000:=by
  rw[Zj,decide_eq_true_eq]at hok;unfold t8 at hok;rw[Zj,decide_eq_true_eq,Vj]at hok;exact⟨hok.1.1,λi hi=>An<|hok.1.2 i hi,hok.2⟩
 obtain⟨nd,lt,hfew⟩:=hok1;refine hi st σ H O Z _ E items V1 e1 λJ H1 O1 x1 k1 E1 it=>?_;have bl:(Te k VW σ).length=k+VW.length:=by simp[Te]
 have el:(lL k VW V1).length=k+VW.length:=by simp[lL]
 refine⟨items.length,λi xs H'=>∃sb Oi ds ds2,Wr (Ob VW V1 σ) H1 Oi H'/\ER K sb (Te k VW σ) H' Oi (Zb VW V1 σ O1 Z)/\El K (U Oi (Zb VW V1 σ O1 Z)) H' xs ds/\cA fg fc fe k (items.drop i) sb=some (ds2,sf)/\ds++ds2=total/\Kp (lL k VW V1) sb/\xs.length<=i,
  ⟨lL k VW V1,Ob VW V1 σ,[],total,Wr.refl _ _,N5 E1 nd,El.nil,e2,rfl,Kp.refl _,Qa _⟩,?_,?_⟩
 ·rintro xs H' ⟨sb,Oi,ds,ds2,x2,B,exs,e3,ed,kb,_⟩;rw[DV<|Qa _]at e3;obtain⟨rfl,rfl⟩:([]:Se D)=ds2/\sb=sf:=by
   have:=Option.some.inj e3;exact⟨congrArg Prod.fst this,congrArg Prod.snd this⟩
  rw[We]at ed;subst ed;obtain⟨stop,_⟩:=it H' Oi x2 (GP E1 nd lt (kb.len.trans el) x2 B).liv;refine⟨stop _<|Qa _,λp hp=>?_⟩;have sl:sb.length=k+VW.length:=kb.len.trans el;have ko:=QA nd lt sl kb;have el2:El K (U (Oo VW V1 σ O1 Oi) Z) H' xs ds:=exs.less λb z=>by
   rcases z with(z|z)|z
   ·exact .inl z
   ·exact .inr<|.inr z
   ·exact .inr<|.inl z
  obtain⟨E3,rv⟩:=(GP E1 nd lt sl x2 B).new hp el2;have xx:=x1.trans<|xC E1 x2;exact q _ _ _ (xx.trans<|VZ.ext<|bq hp _) (k1.trans ko) E3 rv λp' e=>by cases e;exact xx.dead hp
 ·rintro i xs H' hlt ⟨sb,Oi,ds,ds2,x2,B,exs,e3,ed,kb,hxl⟩;have hd:items.drop i=items[i]::items.drop (i+1):=Vl hlt;rw[hd]at e3;refine SK e3 λs1 e4 e3=>(SN e3 λc s2 e5 e3=>?_);obtain⟨_,go⟩:=it H' Oi x2 (GP E1 nd lt (kb.len.trans el) x2 B).liv;obtain⟨g1,g2⟩:=go i _<|Za hlt;refine⟨g1,A6 hxl<|Qd hlt<|few hfew,λx H'' hy=>?_⟩;obtain⟨sm,da⟩:=g2 x H'' hy;have xm:Wr Oi H' Oi H'':=VZ.ext sm;have da':DA K (U Oi<|Zb VW V1 σ O1 Z) H'' x items[i]:=da.less λb z=>by
   rcases z with z|z|z
   ·exact .inl<|.inl z
   ·exact .inr z
   ·exact .inl<|.inr z
  refine hg sb _ H'' Oi _ x _ _ (B.same sm) da' s1 e4 λτ kt kq3 E4=>?_;have sl:sb.length=k+VW.length:=kb.len.trans el;have tl:τ.length=(Te k VW σ).length:=by rw[<-E4.len,kq3.len,sl,bl]
  have tk:∀j,k<=j->(Te k VW σ)[j]?=τ[j]?:=λj hj=>((kt j λz=>absurd (ht j z)<|by lia).1).symm
  have drop:τ.drop k=(Te k VW σ).drop k:=by
   refine B4 λj=>?_;rw[Zg,Zg];exact(tk _<|by lia).symm
  have kp1:Kp (lL k VW V1) s1:=by
   refine⟨kq3.len.trans kb.len,λj s e g=>?_,λj d e=>?_⟩
   ·by_cases hj:j<k
    ·have:=t9 j s e hj;subst this;exact absurd rfl g
    ·obtain⟨s',e',g'⟩:=kb.has j s e g;exact⟨s',by rw[(kt j λz=>absurd (ht j z)<|by lia).2];exact e',g'⟩
   ·by_cases hj:j<k
    ·have:=t9 j _ e hj;cases this
    ·obtain⟨d',e'⟩:=kb.io j d e;exact⟨d',by rw[(kt j λz=>absurd (ht j z)<|by lia).2];exact e'⟩
  refine hc s1 τ H'' Oi _ _ E4 c s2 e5 λH3 O3 x3 k3 E5=>?_;have kp2:=kp1.trans k3;cases c with
  |false=>
   simp only[Wf,if_false]at e3 ⊢;have hs2:k<=s2.length:=by rw[kp2.len,el];lia
   exact⟨drop,Tj k s2,O3,ds,ds2,(x2.trans xm).trans x3,GO E5 tl.symm hs2 tk,exs.ext<|xm.trans x3,e3,ed,GQ t9 kp2 hs2,by lia⟩
  |true=>
   rw[Ag rfl]at e3 ⊢;refine SN e3 λry s3 e6 e3=>(SN e3 λdy s4 e7 e3=>(SN e3 λds3 sf' e8 e3=>?_));cases e3;refine he s2 τ H3 O3 _ _ E5 ry s3 e6 λy H4 O4 x4 k4 E6 rv w=>?_;obtain⟨O5,x5,k5,E7,day⟩:=rv.esc E6 e7;have kp3:=(kp2.trans k4).trans k5;have hs4:k<=s4.length:=by rw[kp3.len,el];lia
   refine⟨drop,Tj k s4,O5,ds++[dy],ds3,(((x2.trans xm).trans x3).trans x4).trans x5,GO E7 tl.symm hs4 tk,(exs.ext<|((xm.trans x3).trans x4).trans x5).app (El.one day),e8,by rw[Yd];exact ed,GQ t9 kp3 hs4,by simp;lia⟩
def pD(hi:Xw K wi fi)(hg:Uu K g fg tg)(ht:∀j∈tg,j<k)(hc:Tw K tc fc)(he:SO K te fe) :
  SO K (sr k VW wi g tc te) (dr k VW fi fg fc fe):=GR hi.ic hg ht hc he
def jf(n:Nat)(ds:Se D):En:=ds.map Sl.v++List.replicate (n-ds.length) Sl.e
def N6(st:En):Rs->Sf Rz
 |.d x=>some (x,false)
 |.f x=>some (x,true)
 | .s i=>match st[i]? with|some (.o x)=>some (x,true)|some (.v x)=>some (x,false)|_=>none
def fin:Ot->Sf Rz|.nx _=>some (.non,false)|.rt r st=>N6 st r|_=>none
def bp(F:FS)(n m:Nat):Se D->Sf Rz:=λds=>if ds.length=m then(F<|jf n ds).bind fin else none
def GS{N:Se Str}(el:El K Z H vs ds)(lv:∀p,Z p->Lv H p):ER K (jf N.length ds) (L2.start N vs) H (λ_=>False) Z:=by
 have gv:∀(i:Nat) s,(jf N.length ds)[i]?=some s->s.get≠none->∃d,s=.v d/\ds[i]?=some d:=λi s e n=>by
  unfold jf at e;by_cases hi:i<ds.length
  ·rw[Xh<|by simpa using hi,Xd]at e
   obtain⟨d,h1,h2⟩:=Wd.mp e;exact⟨d,h2.symm,h1⟩
  ·rw[Qf<|by simpa using hi,AE]at e
   by_cases hz:i-(ds.map Sl.v).length<N.length-ds.length
   ·rw[Ag hz]at e;cases e;exact absurd rfl n
   ·rw[Ak hz]at e;cases e
 have no:∀(i:Nat) s d,(jf N.length ds)[i]?=some s->s.ow=some d->False:=λi s d e h=>by
  obtain⟨x,rfl,_⟩:=gv i s e<|jZ h;cases h
 refine⟨by simp[jf,L2.start,el.1],λi d e=>?_,λi s d e h=>(no i s d e h).elim,λi j s t d d' p e h=>(no i s d e h).elim,λp h=>h.elim,λp h=>h.elim (λz=>z.elim)<|lv p⟩
 obtain⟨x,h1,h2⟩:=gv i _ e (by simp[Sl.get])
 cases h1;obtain⟨v,g1,g2⟩:=el.at h2;refine⟨v,?_,g2.less λb z=>z.elim (λy=>y.elim) λy=>y⟩;unfold L2.start;have hi:=(Vb.mp g1).1;rw[Xh<|by simpa using hi,Xd,g1];rfl
def KJ{N:Se Str}(h:Tp K ts F)(sp:SR K (bp F N.length m) vs H Q XE):ts { nx:=λ_ H'=>Q .non H',rt:=Q } (L2.start N vs) H:=by
 obtain⟨Z,ds,z,el,lv,e,q⟩:=sp;have hm:ds.length=m:=by
  by_cases hm:ds.length=m
  ·exact hm
  ·simp only[bp,Ak hm]at e;cases e
 simp only[bp,Ag hm]at e;refine SK e λo e1 e2=>?_;have same:∀{O':AS}{H':Hp},Wr (λ_=>False) H O' H'->VZ H H':=λ{O' H'} x b o e=>x.kp b o e λz=>z;refine h _ _ H _ Z _ (GS el lv) o e1 ?_;cases o with
 |nx s=>
  cases e2;exact λσ' H' O' x _ _=>q .non H' (same x) .non
 |bk s=>cases e2
 |ct s=>cases e2
 |rt r s=>
  intro v σ' H' O' x k E rv w;have sub:∀b,Z b->U O' Z b:=λb z=>.inr z;cases r with
  |d y=>cases e2;exact q v H' (same x)<|DA.less (show DA K (U O' Z) H' v y from rv) sub
  |f y=>
   cases e2;obtain⟨p,rfl,h1,h2,h3,_⟩:=rv;exact q _ H' (same x) ⟨p,rfl,w p rfl,h3.go rfl (λ_ _ e _=>e) λb z=>.inl<|z.elim .inl λy=>.inr<|.inr y⟩
  |s i=>
   obtain⟨h1,t,h2,h3⟩:=rv
   have e2':(match s[i]? with|some (.o x)=>some (x,true)|some (.v x)=>some (x,false)|_=>none)=some z:=e2
   rw[h2]at e2';cases t with
   |e=>cases e2'
   |io y=>cases e2'
   |v y=>
    cases e2';obtain⟨u,g1,g2⟩:=E.val i y h2;rw[h1]at g1;cases g1;exact q v H' (same x)<|g2.less sub
   |o y=>
    cases e2';obtain⟨p,g1,g2,g3⟩:=E.own i _ y h2 rfl;rw[h1]at g1;cases g1;refine q _ H' (same x) ⟨p,rfl,(x.nw p g2).elim (λz=>z.elim) (λz=>z),g3.go rfl (λ_ _ e _=>e) λb z=>.inl<|z.elim (λy=>.inl (by rw[y];exact g2)) λy=>.inr y⟩
def iG(n:Nat)(x:D)(ds:Se D):En:=Sl.io x::(ds.map Sl.v++List.replicate (n-(ds.length+1)) Sl.e)
def ET(z:Sf Rz)(st:En):Sf (Rz×D):=match st[0]? with|some (Sl.io x)=>z.bind λy=>some (y,x)|_=>none
def MO:Ot->Sf (Rz×D)|.nx st=>ET (some (.non,false)) st|.rt r st=>ET (N6 st r) st|_=>none
def dF(F:FS)(n m:Nat):D->Se D->Sf (Rz×D):=λx ds=>if ds.length+1=m then(F<|iG n x ds).bind MO else none
def EU{N : Se Str}(nz : ¬ Z f)(ho : OA K (ins f Z) H f x)(el : El K (ins f Z) H ws ds)(lv : ∀ p, Z p → Lv H p) : ER K (iG N.length x ds) (L2.start N (.ref f :: ws)) H (λb => b = f) Z := by
  have gv : ∀ (i : Nat) s, (iG N.length x ds)[i]? = some s → s.get ≠ none → (i = 0 ∧ s = .io x)\/∃ j d, i = j + 1 ∧ s = .v d ∧ ds[j]? = some d := λi s e n => by
    cases i with
    | zero => left; exact ⟨rfl, by have : Sl.io x = s := by simpa [iG] using e
                                   exact this.symm⟩
    |succ j=>
      right;have e : (ds.map Sl.v ++ List.replicate (N.length - (ds.length + 1)) Sl.e)[j]? = some s := by simpa [iG] using e
      by_cases hi : j < ds.length
      · rw [B0<|by simpa using hi, Dc] at e
        obtain ⟨d, h1, h2⟩ := Option.map_eq_some_iff.mp e;exact ⟨j, d, rfl, h2.symm, h1⟩
      · rw [DE<|by simpa using hi, AE] at e
        by_cases hz : j - (ds.map Sl.v).length < N.length - (ds.length + 1)
        · rw [Ag hz] at e; cases e; exact absurd rfl n
        · rw [Ak hz] at e; cases e
  have s0 : (L2.start N (.ref f :: ws))[0]? = some (some<|.ref f) := by simp [L2.start]
  have own0 : ∀ (i : Nat) s d, (iG N.length x ds)[i]? = some s → s.ow = some d → i = 0 ∧ d = x := λi s d e h => by
    rcases gv i s e (jZ h) with ⟨h1, rfl⟩ | ⟨j, d', _, rfl, _⟩
    · cases h; exact ⟨h1, rfl⟩
    · cases h
  refine ⟨by simp [iG, L2.start, el.1], λi d e => ?_, λi s d e h => ?_, λi j s t d d' p e h e' h' _ _ => ?_, λp h => by rw [h]; exact nz, λp h => ?_⟩
  · rcases gv i _ e (by simp [Sl.get]) with ⟨_, h⟩ | ⟨j, d', rfl, h, h2⟩
    · cases h
    · cases h
      obtain ⟨v, g1, g2⟩ := el.at h2;refine ⟨v, ?_, g2⟩;have hi := (List.getElem?_eq_some_iff.mp g1).1;unfold L2.start;rw [B0 (by simp; lia), Dc]
      simp [g1]
  · obtain ⟨rfl, rfl⟩ := own0 i s d e h
    exact ⟨f, s0, rfl, ho⟩
  · rw [(own0 i s d e h).1, (own0 j t d' e' h').1]
  · rcases h with h | h
    · rw [h]; exact ho.lv
    · exact lv p h
def su{N:Se Str}(h:Tp K ts F)(sp:lZ K (dF F N.length m) vs H Q XE):ts { nx:=λ_ H'=>Q .non H',rt:=Q } (L2.start N vs) H:=by
 obtain⟨f,ws,Z,x,ds,z,x',rfl,nz,ho,el,lv,e,q⟩:=sp;have hm:ds.length+1=m:=by
  by_cases hm:ds.length+1=m
  ·exact hm
  ·simp only[dF,Ak hm]at e;cases e
 simp only[dF,Ag hm]at e;refine SK e λo e1 e2=>?_;have but:∀{O':AS}{H':Hp},Wr (λb=>b=f) H O' H'->∀b o,H b=some o->b≠f->H' b=some o:=λ{O' H'} x b o e n=>x.kp b o e n;have i0:(iG N.length x ds)[0]?=some (.io x):=rfl;have s0:(L2.start N (.ref f::ws))[0]?=some (some<|.ref f):=by simp[L2.start]
 have f0:∀{s:En}{σ':St}{H':Hp}{O':AS}{y:D},Kq (iG N.length x ds) (L2.start N (.ref f::ws)) s σ'->ER K s σ' H' O' Z->s[0]?=some (.io y)->O' f/\OA K (U O' Z) H' f y:=λ{s σ' H' O' y} k E e=>by
  obtain⟨g1,_⟩:=k.io 0 x i0;obtain⟨p,h1,h2,h3⟩:=E.own 0 _ y e rfl;rw[g1,s0]at h1;cases h1;exact⟨h2,h3⟩
 refine h _ _ H _ Z _ (EU nz ho el lv) o e1 ?_;cases o with
 |bk s=>cases e2
 |ct s=>cases e2
 |nx s=>
  intro σ' H' O' x2 k E;have e3:ET (some (.non,false)) s=some (z,x'):=e2;unfold ET at e3;split at e3
  ·rename_i y ey
   cases e3;obtain⟨h1,h2⟩:=f0 k E ey;exact q .non H' (but x2) ⟨.non,h2.go rfl (λ_ _ e _=>e) λb z=>.inl<|z.elim (λw=>.inl (by rw[w];exact h1)) .inr⟩
  ·cases e3
 |rt r s=>
  intro v σ' H' O' x2 k E rv w;have e3:ET (N6 s r) s=some (z,x'):=e2;unfold ET at e3;split at e3
  ·rename_i y ey
   refine SK e3 λz' e4 e3=>?_;cases e3;obtain⟨h1,h2⟩:=f0 k E ey;have sub:∀b,ins f Z b->U O' Z b:=λb z=>z.elim (λw=>.inl (by rw[w];exact h1)) .inr
   cases r with
   |d u=>cases e4;exact q v H' (but x2) ⟨DA.less (show DA K (U O' Z) H' v u from rv) sub,h2.go rfl (λ_ _ e _=>e) λb z=>.inl<|sub b z⟩
   |f u=>
    cases e4;obtain⟨p,rfl,g1,g2,g3,E2⟩:=rv;obtain⟨h3,h4⟩:=f0 k E2 ey;exact q _ H' (but x2) ⟨p,rfl,w p rfl,g3.go rfl (λ_ _ e _=>e)<|λb z=>.inl<|z.elim .inl λy=>.inr<|sub b y,h4.go rfl (λ_ _ e _=>e) λb z=>.inl<|z.elim (λy=>.inl<|.inl y) λy=>(sub b y).elim (λa=>.inl<|.inr a) .inr⟩
   |s i=>
    obtain⟨g1,t,g2,g3⟩:=rv
    have e5:(match s[i]? with|some (.o x)=>some (x,true)|some (.v x)=>some (x,false)|_=>none)=some z:=e4
    rw[g2]at e5;cases t with
    |e=>cases e5
    |io u=>cases e5
    |v u=>
     cases e5;obtain⟨u',j1,j2⟩:=E.val i u g2;rw[g1]at j1;cases j1;exact q v H' (but x2) ⟨j2.less sub,h2.go rfl (λ_ _ e _=>e) λb z=>.inl<|sub b z⟩
    |o u=>
     cases e5;obtain⟨p,j1,j2,j3⟩:=E.own i _ u g2 rfl;rw[g1]at j1;cases j1;have npf:p≠f:=λz=>by
      subst z;obtain⟨p0,l1,_⟩:=E.own 0 _ _ ey rfl;obtain⟨l2,_⟩:=k.io 0 x i0;rw[l2,s0]at l1;cases l1;have:=E.uni i 0 _ _ u _ _ g2 rfl ey rfl g1 (by rw[l2,s0])
      subst this;rw[ey]at g2;cases g2
     have hp:H p=none:=(x2.nw p j2).elim (λz=>absurd z npf) (λz=>z);have sub2:∀b,ins p (ins f Z) b->U O' Z b:=λb z=>z.elim (λy=>.inl (by rw[y];exact j2))<|sub b
     exact q _ H' (but x2) ⟨p,rfl,hp,j3.go rfl (λ_ _ e _=>e)<|λb z=>.inl<|sub2 b z,h2.go rfl (λ_ _ e _=>e) λb z=>.inl<|sub2 b z⟩
  ·cases e3
def N7(sp:SR K (bp F n m) vs H Q XE):vs.length=m:=by
 obtain⟨Z,ds,z,el,lv,e,q⟩:=sp;by_cases hm:ds.length=m
 ·exact el.1.trans hm
 ·simp only[bp,Ak hm]at e;cases e
def MP(sp:lZ K (dF F n m) vs H Q XE):vs.length=m:=by
 obtain⟨f,ws,Z,x,ds,z,x',rfl,nz,ho,el,lv,e,q⟩:=sp;by_cases hm:ds.length+1=m
 ·have:=el.1;simp;lia
 ·simp only[dF,Ak hm]at e;cases e
end
section
variable {d:D}
def S6(b b':D->D->Sf Rz):D->D->Sf Rz:=λx y=>match b x y with|some z=>some z|none=>b' x y
def V2.or(h:V2 K r b)(h':V2 K r' b'):V2 K (λx y H Q=>r x y H Q\/r' x y H Q) (S6 b b'):=by grind [V2,S6]
def Uw(b b':Se D->Sf Rz):Se D->Sf Rz:=λx=>match b x with|some z=>some z|none=>b' x
def WC.or(h:WC K r b)(h':WC K r' b'):WC K (λxs H Q=>r xs H Q\/r' xs H Q) (Uw b b'):=by grind [WC,Uw]
def Uk(g:Int->Int->D):D->D->Sf Rz|.int i,.int j=>some (g i j,false)|_,_=>none
theorem sv(h:∀Y H i j,DA K Y H (gV i j)<|gD i j):V2 K (Tt gV) (Uk gD):=by
 walk_at "0";cases d1 with
 |int i=>
  cases d2 with
  |int j=>
   cases e;exact⟨i,j,b1,b2,q _ H (VZ.refl H)<|h Y H i j⟩
  |_=>cases e
 |_=>cases e
def bI(C:Int->Int->Prop)[∀i j,Decidable<|C i j](g:Int->Int->D):D->D->Sf Rz|.int i,.int j=>if C i j then some (g i j,false) else none|_,_=>none
theorem KK[dc:∀i j,Decidable<|C i j](h:∀Y H i j,DA K Y H (gV i j)<|gD i j):V2 K (rI C gV) (bI C gD):=by
 walk_at "0";cases d1 with
 |int i=>
  cases d2 with
  |int j=>
   walk_at "5";cases e;exact⟨i,j,b1,b2,c,q _ H (VZ.refl H)<|h Y H i j⟩
  |_=>cases e
 |_=>cases e
instance (i j:Int):Decidable (WW i j):=by unfold WW;infer_instance
instance (i j:Int):Decidable (xo i j):=by unfold xo;infer_instance
instance (i j:Int):Decidable (Gg i j):=by unfold Gg;infer_instance
def sA:=Uk λi j=>.int<|i+j
def rG:=Uk λi j=>.int<|i-j
def yZ:=bI WW λi j=>.int<|i*j
def xD:=bI xo λi j=>.int<|i / j
def qi:=bI (λ_ j=>0<j) λi j=>.int<|i % j
def QC:=bI Gg λi j=>.int<|i ^ j.toNat
def N8:=Uk λi j=>.bl<|decide<|i<j
def Ul:=Uk λi j=>.bl<|decide<|i<=j
def Vw:=Uk λi j=>.bl<|decide<|j<i
def Vx:=Uk λi j=>.bl<|decide<|j<=i
def XH:V2 K (Tt λi j=>.int<|i+j) sA:=sv λ_ _ _ _=>.int _
def N9:V2 K (Tt λi j=>.int<|i-j) rG:=sv λ_ _ _ _=>.int _
def XI:V2 K (rI WW λi j=>.int<|i*j) yZ:=KK λ_ _ _ _=>.int _
def Oa:V2 K (rI xo λi j=>.int<|i / j) xD:=KK λ_ _ _ _=>.int _
def Oc:V2 K (rI (λ_ j=>0<j) λi j=>.int<|i % j) qi:=KK λ_ _ _ _=>.int _
def Od:V2 K (rI Gg λi j=>.int<|i ^ j.toNat) QC:=KK λ_ _ _ _=>.int _
def X0:V2 K (Tt λi j=>.bl<|decide<|i<j) N8:=sv λ_ _ _ _=>.bl _
def QD:V2 K (Tt λi j=>.bl<|decide<|i<=j) Ul:=sv λ_ _ _ _=>.bl _
def QE:V2 K (Tt λi j=>.bl<|decide<|j<i) Vw:=sv λ_ _ _ _=>.bl _
def QF:V2 K (Tt λi j=>.bl<|decide<|j<=i) Vx:=sv λ_ _ _ _=>.bl _
def rH:D->Sf Rz|.int i=>some (.int<|-i,false)|_=>none
theorem Oe:Qw K (rU λi=>.int<|-i) rH:=by
 intro Y H x d1 z Q lv b1 e q;cases d1 with|int i=>cases e;exact⟨i,b1,q _ H (VZ.refl H)<|.int _⟩|_=>cases e
def Ux:D->Sf V|.non=>some .non|.bl b=>some (.bl b)|.int i=>some (.int i)|.str x=>some (.str x)|_=>none
theorem nR(h:BA K Y H v d)(e:Ux d=some w):v=w:=by
 cases d with|non=>cases e;exact h|bl b=>cases e;exact h|int i=>cases e;exact h|str x=>cases e;exact h|_=>cases e
theorem vM(e:Ux d=some w):lN w=true:=by
 cases d with|non=>cases e;rfl|bl b=>cases e;rfl|int i=>cases e;rfl|str x=>cases e;rfl|_=>cases e
def EV(neg:Ss):D->D->Sf Rz:=λa b=>(Ux a).bind λx=>(Ux b).bind λy=>if Nw x y=true then some (.bl (if neg then !decide (x=y) else decide (x=y)),false) else none
def Of:V2 K UH (EV false):=by
 walk_at "0";refine SK e λx' e1 e=>(SK e λy' e2 e=>?_);walk_at "5";cases e;obtain rfl:=nR b1 e1;obtain rfl:=nR b2 e2;exact⟨c,q _ H (VZ.refl H)<|.bl _⟩
def X1:V2 K U2 (EV true):=by
 walk_at "0";refine SK e λx' e1 e=>(SK e λy' e2 e=>?_);walk_at "5";cases e;obtain rfl:=nR b1 e1;obtain rfl:=nR b2 e2;exact⟨c,q _ H (VZ.refl H)<|.bl _⟩
def D.isN:D->Ss|.non=>true|_=>false
theorem GU(h:BA K Y H v d):decide (v=.non)=d.isN:=by
 cases d with
 |non=>rw[show v=V.non from h];rfl
 |bl b=>rw[show v=V.bl b from h];rfl
 |int i=>rw[show v=V.int i from h];rfl
 |str x=>rw[show v=V.str x from h];rfl
 |ty x=>rw[show v=V.ty x from h];rfl
 |tup ds=>obtain⟨a,_,rfl,_⟩:=h;rfl
 |lst ds=>obtain⟨a,_,rfl,_⟩:=h;rfl
 |fl ds=>obtain⟨a,_,rfl,_⟩:=h;rfl
 |dk ds=>obtain⟨a,_,rfl,_⟩:=h;rfl
 |dt ds=>obtain⟨a,_,_,rfl,_⟩:=h;rfl
def oW(neg:Ss):D->D->Sf Rz|a,.non=>some (.bl (if neg then !a.isN else a.isN),false)|_,_=>none
theorem Og:V2 K (λx y H Q=>y=.non/\Q (.bl<|decide<|x=.non) H) (oW false):=by
 walk_at "0";cases d2 with
 |non=>
  cases e;refine⟨b2,?_⟩;rw[GU b1];exact q _ H (VZ.refl H)<|.bl _
 |_=>cases e
theorem KM:V2 K (λx y H Q=>y=.non/\Q (.bl<|!decide (x=.non)) H) (oW true):=by
 walk_at "0";cases d2 with
 |non=>
  cases e;refine⟨b2,?_⟩;rw[GU b1];exact q _ H (VZ.refl H)<|.bl _
 |_=>cases e
def sB:D->D->Sf Rz|.str a,.str b=>if a.length+b.length<=1000000 then some (.str<|a++b,false) else none|_,_=>none
theorem XJ:V2 K (λx y H Q=>∃i j,x=.str i/\y=.str j/\i.length+j.length<=sizeLine/\Q (.str<|i++j) H) sB:=by
 walk_at "0";cases d1 with
 |str a=>
  cases d2 with
  |str b=>
   walk_at "5";cases e;exact⟨a,b,b1,b2,few c,q _ H (VZ.refl H)<|.str _⟩
  |_=>cases e
 |_=>cases e
def gf(el:El K Y H vs ds)(hp:H p=none):Xq K Y H (upd H p<|.lst vs) (.ref p) (.lst ds,true) :=
 ⟨p,rfl,hp,vs,bH,el.away (bq hp _) hp⟩
def j0(el:El K Y H vs ds)(hp:H p=none)(lv:∀p,Y p->Lv H p):Xq K Y H (upd H p<|.tup vs) (.ref p) (.tup ds,false) :=
 .tup ⟨bH,λz=>(lv p z).1 hp⟩ el.1 (el.same<|bq hp _).2
def xE:D->D->Sf Rz|.lst a,.lst b=>if a.length+b.length<=1000000 then some (.lst<|a++b,true) else none|_,_=>none
theorem X2:V2 K NN xE:=by
 walk_at "0";cases d1 with
 |lst a=>
  cases d2 with
  |lst b=>
   walk_at "5";cases e;walk_at "6";obtain⟨p2,ys,rfl,hp2,el2⟩:=b2;exact⟨p,p2,xs,ys,rfl,rfl,hp,hp2,by rw[el.1,el2.1];exact few c,λr hr=>q _ _ (bq hr _)<|gf (el.app el2) hr⟩
  |_=>cases e
 |_=>cases e
def sC:D->D->Sf Rz|.tup (x::a),.tup (y::b)=>if a.length+b.length<=999998 then some (.tup<|(x::a)++(y::b),false) else none|.tup (x::a),.tup []=>if a.length<=999998 then some (.tup (x::a),false) else none|_,_=>none
theorem KN:V2 K (Gv K) sC:=by
 walk_at "0";cases d1 with
 |tup a=>
  cases a with
  |nil=>cases e
  |cons a0 a=>
  cases d2 with
  |tup b=>
   walk_at "6";obtain⟨p2,ys,rfl,hp2,el2⟩:=b2;have hx:xs≠[]:=λz=>by have:=el.1;rw[z]at this;cases this
   cases b with
   |nil=>
    walk_at "5";cases e;obtain rfl:=el2.unnil;exact⟨p,p2,xs,[],rfl,rfl,hp.sq,hp2.sq,hx,by rw[el.1];exact few (by simp;lia),λ_=>q _ H (VZ.refl H)<|.tup hp el.1 el.2,λz=>absurd rfl z⟩
   |cons b0 b=>
    walk_at "5";cases e;have hy:ys≠[]:=λz=>by have:=el2.1;rw[z]at this;cases this
    exact⟨p,p2,xs,ys,rfl,rfl,hp.sq,hp2.sq,hx,by rw[el.1,el2.1];exact few (by simp;lia),λz=>absurd z hy,λ_ r hr=>q _ _ (bq hr _)<|j0 (el.app el2) hr lv⟩
  |_=>cases e
 |_=>cases e
def cK:=S6 sA<|S6 sB<|S6 xE sC
def GW:D->D->Sf Rz|.str a,.int n=>if 0<=n/\n<=1000/\a.length<=1000 then some (.str<|Txt.mul a n,false) else none|_,_=>none
theorem KO:V2 K (λx y H Q=>∃(a:Str)(n:Int),x=.str a/\y=.int n/\MulOk a n/\Q (.str<|Txt.mul a n) H) GW:=by
 walk_at "0";cases d1 with
 |str a=>
  cases d2 with
  |int n=>
   walk_at "5";cases e;exact⟨a,n,b1,b2,mulOk_of c.1 c.2.1 c.2.2,q _ H (VZ.refl H)<|.str _⟩
  |_=>cases e
 |_=>cases e
def mZ:=S6 yZ GW
def QG:D->D->Sf Rz|.str a,.str b=>some (.bl<|decide<|a.cps.toList<b.cps.toList,false)|_,_=>none
theorem Oh:V2 K (λx y H Q=>∃i j,x=.str i/\y=.str j/\Q (.bl<|decide<|i.cps.toList<j.cps.toList) H) QG:=by
 walk_at "0";cases d1 with
 |str a=>
  cases d2 with|str b=>cases e;exact⟨a,b,b1,b2,q _ H (VZ.refl H)<|.bl _⟩|_=>cases e
 |_=>cases e
def Uy:=S6 N8 QG
def GX(neg:Ss):D->D->Sf Rz|.str a,.str b=>some (.bl (if neg then !(!(Builtin.Str.occurrences b a 0 b.length 1).isEmpty) else !(Builtin.Str.occurrences b a 0 b.length 1).isEmpty),false)|_,_=>none
theorem X3:V2 K (λx y H Q=>∃i j,x=.str i/\y=.str j/\Q (.bl<|!(Builtin.Str.occurrences j i 0 j.length 1).isEmpty) H) (GX false):=by
 walk_at "0";cases d1 with
 |str a=>
  cases d2 with|str b=>cases e;exact⟨a,b,b1,b2,q _ H (VZ.refl H)<|.bl _⟩|_=>cases e
 |_=>cases e
theorem Xu:V2 K (λx y H Q=>∃i j,x=.str i/\y=.str j/\Q (.bl<|!(!(Builtin.Str.occurrences j i 0 j.length 1).isEmpty)) H) (GX true):=by
 walk_at "0";cases d1 with
 |str a=>
  cases d2 with|str b=>cases e;exact⟨a,b,b1,b2,q _ H (VZ.refl H)<|.bl _⟩|_=>cases e
 |_=>cases e
def sD:Se D->Sf (Se V)|[]=>some []|d::r=>(Ux d).bind λv=>(sD r).bind λvs=>some (v::vs)
theorem vN:∀{ds:Se D}{vs ws:Se V},El K Y H vs ds->sD ds=some ws->vs=ws/\ws.all lN=true
 |[],vs,ws,el,e=>by cases e;exact⟨el.unnil,rfl⟩
 | d::r,vs,ws,el,e=>by
  refine SK e λw e1 e=>(SK e λws' e2 e=>?_);cases e;obtain⟨v,t,rfl,da,el⟩:=el.uncons;obtain⟨rfl,h⟩:=vN el e2;have hv:=nR da.ba e1;subst hv;exact⟨rfl,by rw[B9,vM e1,h];rfl⟩
def D.seq:D->Sf (Se D)|.lst ds=>some ds|.tup ds=>some ds|.fl ds=>some ds|_=>none
theorem qj(h:BA K Y H v d)(e:d.seq=some ds):∃a vs,v=.ref a/\(SW K H a vs\/S8 K H a vs)/\El K Y H vs ds:=by
 cases d with
 |lst _=>cases e;obtain⟨a,vs,h1,h2,h3⟩:=h;exact⟨a,vs,h1,.inl<|.inl<|.inl h2,h3⟩
 |tup _=>cases e;obtain⟨a,vs,h1,h2,h3⟩:=h;exact⟨a,vs,h1,.inr h2.sq,h3⟩
 |fl _=>cases e;obtain⟨a,vs,h1,h2,h3⟩:=h;exact⟨a,vs,h1,.inl h2.sq,h3⟩
 |_=>cases e
def KP(neg:Ss):D->D->Sf Rz:=λa b=>(Ux a).bind λx=>(b.seq).bind λds=>(sD ds).bind λws=>some (.bl (if neg then !Ud x ws else Ud x ws),false)
def GY(neg:Ss):V2 K (UJ K neg) (KP neg):=by
 walk_at "0";refine SK e λx' e1 e=>(SK e λds e2 e=>(SK e λws e3 e=>?_));cases e;obtain⟨a,vs,rfl,sq,el⟩:=qj b2 e2;obtain rfl:=nR b1 e1;obtain⟨rfl,h⟩:=vN el e3;exact⟨a,vs,rfl,sq,vM e1,h,q _ H (VZ.refl H)<|.bl _⟩
def TY:=S6 (GX false)<|KP false
def me:=S6 (GX true)<|KP true
def GZ:D->D->Sf Rz|.lst ds,.int i=>(Tb ds i).bind λd=>some (d,false)|.fl ds,.int i=>(Tb ds i).bind λd=>some (d,false)|_,_=>none
def KQ:D->D->Sf Rz|.tup ds,.int i=>(Tb ds i).bind λd=>some (d,false)|_,_=>none
def Oj:D->D->Sf Rz|.str z,.int i=>if z.length<=1000000 then(Tb z.cps.toList i).bind λc=>some (.str ⟨#[c]⟩,false) else none|_,_=>none
def xF(el:El K Y H vs ds)(e:Tb ds i=some d):∃v,Tb vs i=some v/\DA K Y H v d:=by
 unfold Tb at e ⊢;rw[el.1];refine SK e λj e1 e2=>?_;obtain⟨v,h1,h2⟩:=el.at e2;exact⟨v,by rw[e1];exact h1,h2⟩
theorem X4:V2 K (NF K) GZ:=by
 walk_at "0";cases d1 with
 |lst a=>
  cases d2 with
  |int i=>
   refine SK e λd e1 e=>?_;cases e;walk_at "6";obtain⟨v,h1,h2⟩:=xF el e1;exact⟨p,xs,i,v,rfl,b2,.inl<|.inl hp,h1,q v H (VZ.refl H) h2⟩
  |_=>cases e
 |fl a=>
  cases d2 with
  |int i=>
   refine SK e λd e1 e=>?_;cases e;walk_at "6";obtain⟨v,h1,h2⟩:=xF el e1;exact⟨p,xs,i,v,rfl,b2,hp.sq,h1,q v H (VZ.refl H) h2⟩
  |_=>cases e
 |_=>cases e
theorem X5:V2 K (NG K) KQ:=by
 walk_at "0";cases d1 with
 |tup a=>
  cases d2 with
  |int i=>
   refine SK e λd e1 e=>?_;cases e;walk_at "6";obtain⟨v,h1,h2⟩:=xF el e1;exact⟨p,xs,i,v,rfl,b2,hp.sq,h1,q v H (VZ.refl H) h2⟩
  |_=>cases e
 |_=>cases e
theorem Ol:V2 K NH Oj:=by
 walk_at "0";cases d1 with
 |str a=>
  cases d2 with
  |int i=>
   walk_at "5";refine SK e λch e1 e=>?_;cases e;exact⟨a,i,ch,b1,b2,few c,e1,q _ H (VZ.refl H)<|.str _⟩
  |_=>cases e
 |_=>cases e
def SA:=S6 GZ<|S6 KQ Oj
def QH:V2 K (UT K) SA:=X4.or<|X5.or Ol
abbrev FO:=En->Option (Option Int×En)
def UW(K:Ab)(t:TO)(f:FO):Prop:=∀(st:En)(σ:St)(H:Hp)(O Z:AS)(Q:Sf Int->Hp->Prop),ER K st σ H O Z->∀c VX,f st=some (c,VX)->
 (∀H' O',Wr O H O' H'->Kp st VX->ER K VX σ H' O' Z->Q c H')->t σ H Q
def TD:FO:=λst=>some (none,st)
def Om:UW K yJ TD:=by
 walk_at "x";cases e;exact q H O (Wr.refl _ _) (Kp.refl _) E
def asInt(st:En)(r:Rs):Sf Int:=match cont st r with|some (.int i)=>some i|_=>none
def fQ(fe:FE):FO:=λst=>(fe st).bind λx=>(asInt x.2 x.1).bind λi=>some (some i,x.2)
def vO(h:SO K te fe):UW K (Mz te) (fQ fe):=by
 walk_at "x";refine SN e λr V1 e1 e=>(SK e λi e2 e=>?_);cases e;refine h st σ H O Z _ E r _ e1 λv H1 O1 x1 k1 E1 rv w=>?_;have ev:v=.int i:=by
  unfold asInt at e2;split at e2
  ·rename_i j ej
   cases e2;exact rv.ba E1 ej
  ·cases e2
 exact⟨i,ev,q H1 O1 x1 k1 E1⟩
def WN(K:Ab)(r:V->Sf Int->Sf Int->Hp->VK->Prop)(b:D->Sf Int->Sf Int->Sf Rz):Prop:=∀(Y:AS)(H:Hp)(x:V)(lo hi:Sf Int)(d1:D)(z:Rz)(Q:VK),(∀p,Y p->Lv H p)->BA K Y H x d1->b d1 lo hi=some z->
 (∀v H',VZ H H'->Xq K Y H H' v z->Q v H')->r x lo hi H Q
def Tv(b:D->Sf Int->Sf Int->Sf Rz)(fe:FE)(fl fh:FO):FE:=λst=>(fe st).bind λx=>(fl x.2).bind λl=>(fh l.2).bind λu=>(cont u.2 x.1).bind λd=>(b d l.1 u.1).bind λz=>some (mk z,u.2)
def vP(hr:WN K r b)(he:SO K te fe)(hl:UW K tl fl)(hh:UW K th fh):SO K (Vu r te tl th) (Tv b fe fl fh):=by
 intro st σ H O Z Q E r' VX h q;refine SN h λr1 V1 e1 h=>(SN h λlo V4 e2 h=>(SN h λhi Wq e3 h=>(SK h λd1 e4 h=>(SK h λz e5 h=>?_))));cases h;refine he st σ H O Z _ E r1 V1 e1 λv1 H1 O1 x1 k1 E1 rv1 w1=>(hl V1 σ H1 O1 Z _ E1 lo V4 e2 λH2 O2 x2 k2 E2=>(hh V4 σ H2 O2 Z _ E2 hi _ e3 λH3 O3 x3 k3 E3=>?_));have b1:=(rv1.nf.ext (x2.trans x3)<|k2.trans k3).ba E3 (by rw[ip];exact e4)
 refine hr (U O3 Z) H3 v1 lo hi d1 z _ E3.liv b1 e5 λv H4 s hres=>?_;obtain⟨E4,rv4⟩:=hres.rv E3 s;have xx:=(x1.trans x2).trans x3;exact q v H4 O3 (xx.trans<|VZ.ext s) ((k1.trans k2).trans k3) E4 rv4<|hres.fsh.back xx
def cutD(xs:Se D)(lo hi:Sf Int):Se D:=(xs.drop<|HT.sIx xs.length 0 lo).take (HT.sIx xs.length xs.length hi-HT.sIx xs.length 0 lo)
def El.cut(el:El K Y H vs ds)(lo hi:Sf Int):El K Y H (vF vs lo hi) (cutD ds lo hi):=by
 unfold vF cutD;rw[el.1];exact(el.drop _).take _
def TU(b b':D->Sf Int->Sf Int->Sf Rz):D->Sf Int->Sf Int->Sf Rz:=λx l h=>match b x l h with|some z=>some z|none=>b' x l h
def WN.or(h:WN K r b)(h':WN K r' b'):WN K (λx lo hi H Q=>r x lo hi H Q\/r' x lo hi H Q) (TU b b'):=by grind [WN,TU]
def EW:D->Sf Int->Sf Int->Sf Rz|.lst ds,lo,hi=>some (.lst<|cutD ds lo hi,true)|.fl ds,lo,hi=>some (.lst<|cutD ds lo hi,true)|_,_,_=>none
theorem QI:WN K (NJ K) EW:=by
 intro Y H x lo hi d1 z Q lv b1 e q;cases d1 with
 |lst a=>
  cases e;walk_at "6";exact⟨p,xs,rfl,.inl<|.inl hp,λr hr=>q _ _ (bq hr _)<|gf (el.cut lo hi) hr⟩
 |fl a=>
  cases e;walk_at "6";exact⟨p,xs,rfl,hp.sq,λr hr=>q _ _ (bq hr _)<|gf (el.cut lo hi) hr⟩
 |_=>cases e
def oX:D->Sf Int->Sf Int->Sf Rz|.tup ds,lo,hi=>if HT.sIx ds.length 0 lo=0/\HT.sIx ds.length ds.length hi=ds.length then none else some (.tup<|cutD ds lo hi,false)|_,_,_=>none
theorem QJ:WN K (ND K) oX:=by
 intro Y H x lo hi d1 z Q lv b1 e q;cases d1 with
 |tup a=>
  by_cases c:HT.sIx a.length 0 lo=0/\HT.sIx a.length a.length hi=a.length
  ·simp only[oX,Ag c]at e;cases e
  ·simp only[oX,Ak c]at e;cases e;walk_at "6";exact⟨p,xs,rfl,hp.sq,by rw[el.1];exact c,λr hr=>q _ _ (bq hr _)<|j0 (el.cut lo hi) hr lv⟩
 |_=>cases e
def G0:D->Sf Int->Sf Int->Sf Rz|.str z,lo,hi=>if z.length<=1000000 then some (.str<|Txt.slice z lo hi,false) else none|_,_,_=>none
theorem QK:WN K (λx lo hi H Q=>∃z:Str,x=.str z/\z.length<=sizeLine/\Q (.str<|Txt.slice z lo hi) H) G0:=by
 intro Y H x lo hi d1 z Q lv b1 e q;cases d1 with
 |str a=>
  walk_at "5";cases e;exact⟨a,b1,few c,q _ H (VZ.refl H)<|.str _⟩
 |_=>cases e
def Tl:=TU EW<|TU oX G0
def G1:Se D->Sf Rz|[d]=>(d.seq).bind λds=>some (.int ds.length,false)|_=>none
theorem XM:WC K (λxs H Q=>∃p ys,xs=[.ref p]/\(SW K H p ys\/S8 K H p ys)/\Q (.int ys.length) H) G1:=by
 walk_at "7";cases bs with
 |nil=>cases e
 |cons b1 bs=>
  cases bs with
  |cons _ _=>cases e
  |nil=>
   refine SK e λes e1 e=>?_;cases e;obtain⟨a,vs,rfl,sq,el⟩:=qj b1 e1;refine⟨a,vs,rfl,sq,?_⟩;rw[el.1];exact q _ H (VZ.refl H)<|.int _
def G2:Se D->Sf Rz|[.str z]=>if z.length<=1000000 then some (.int z.length,false) else none|_=>none
theorem KR:WC K (λxs H Q=>∃z:Str,xs=[.str z]/\z.length<=sizeLine/\Q (.int z.length) H) G2:=by
 walk_at "7";cases bs with
 |nil=>cases e
 |@cons v vs d ds b1 bs=>
  cases bs with
  |cons _ _=>cases d<;>cases e
  |nil=>
   cases d with
   |str a=>
    walk_at "5";cases e;exact⟨a,by rw[show v=V.str a from b1],few c,q _ H (VZ.refl H)<|.int _⟩
   |_=>cases e
def b9:=Uw G1 G2
def MQ:Se D->Sf Rz|[d]=>(d.seq).bind λds=>some (.lst ds,true)|_=>none
theorem XN:WC K (λxs H Q=>∃p ys,xs=[.ref p]/\(SW K H p ys\/S8 K H p ys)/\∀l,H l=none->Q (.ref l) (upd H l<|.lst ys)) MQ:=by
 walk_at "7";cases bs with
 |nil=>cases e
 |cons b1 bs=>
  cases bs with
  |cons _ _=>cases e
  |nil=>
   refine SK e λes e1 e=>?_;cases e;obtain⟨a,vs,rfl,sq,el⟩:=qj b1 e1;exact⟨a,vs,rfl,sq,λr hr=>q _ _ (bq hr _)<|gf el hr⟩
def G3:Se D->Sf Rz|[.lst ds]=>some (.tup ds,false)|[.fl ds]=>some (.tup ds,false)|[.tup ds]=>some (.tup ds,false)|_=>none
theorem Xx:WC K (λxs H Q=>∃p ys,xs=[.ref p]/\((SW K H p ys/\∀l,H l=none->Q (.ref l) (upd H l<|.tup ys))\/(S8 K H p ys/\Q (.ref p) H))) G3:=by
 walk_at "7";cases bs with
 |nil=>cases e
 |@cons v vs d ds b1 bs=>
  cases bs with
  |cons _ _=>cases d<;>cases e
  |nil=>
   cases d with
   |lst a=>
    cases e;walk_at "6";exact⟨p,xs,rfl,.inl ⟨.inl<|.inl hp,λr hr=>q _ _ (bq hr _)<|j0 el hr lv⟩⟩
   |fl a=>
    cases e;walk_at "6";exact⟨p,xs,rfl,.inl ⟨hp.sq,λr hr=>q _ _ (bq hr _)<|j0 el hr lv⟩⟩
   |tup a=>
    cases e;walk_at "6";exact⟨p,xs,rfl,.inr ⟨hp.sq,q _ H (VZ.refl H)<|.tup hp el.1 el.2⟩⟩
   |_=>cases e
def m5:Se D->Sf (Se Ss)|[]=>some []|.bl b::r=>(m5 r).bind λbs=>some (b::bs)|_=>none
theorem vQ:∀{ds:Se D}{vs:Se V}{bs:Se Ss},El K Y H vs ds->m5 ds=some bs->vs=bs.map V.bl
 |[],vs,bs,el,e=>by cases e;exact el.unnil
 | d::r,vs,bs,el,e=>by
  obtain⟨v,t,rfl,da,el2⟩:=el.uncons;cases d with
  |bl b=>
   refine SK e λbs' e1 e=>?_;cases e;have h:=vQ el2 e1;rw[h,show v=V.bl b from da.ba];rfl
  |_=>cases e
def qk:Se D->Sf Rz|[.lst ds]=>(m5 ds).bind λbs=>some (.bl<|bs.all id,false)|_=>none
theorem G4:WC K (λxs H Q=>∃(p:Sk)(bs:Se Ss),xs=[.ref p]/\SW K H p (bs.map V.bl)/\Q (.bl<|bs.all id) H) qk:=by
 walk_at "7";cases bs with
 |nil=>cases e
 |@cons v vs d ds b1 bs=>
  cases bs with
  |cons _ _=>cases d<;>cases e
  |nil=>
   cases d with
   |lst a=>
    refine SK e λbs e1 e=>?_;cases e;walk_at "6";obtain rfl:=vQ el e1;exact⟨p,bs,rfl,.inl<|.inl hp,q _ H (VZ.refl H)<|.bl _⟩
   |_=>cases e
def G5(K:Ab)(r:V->Se V->Hp->VK->Prop)(b:D->Se D->Sf Rz):Prop:=∀(Y:AS)(H:Hp)(x:V)(xs:Se V)(d:D)(ds:Se D)(z:Rz)(Q:VK),(∀p,Y p->Lv H p)->BA K Y H x d->X8 K Y H xs ds->b d ds=some z->
 (∀v H',VZ H H'->Xq K Y H H' v z->Q v H')->r x xs H Q
def On(T:String):D->Ss|.str _=>decide (T="str")|.lst _=>decide (T="list")|.dk _=>decide (T="dict")|.dt _=>decide (T="dict")|_=>false
theorem QL(h:BA K Y H v d)(e:On T d=true):UK K T v H:=by
 cases d with
 |str x=>
  have e':T="str":=An e;rw[show v=V.str x from h];exact e'
 |lst x=>obtain⟨a,vs,rfl,h1,_⟩:=h;exact .inl ⟨An e,vs,.inl<|.inl h1⟩
 |dk x=>obtain⟨a,vs,rfl,h1,_⟩:=h;exact .inr<|.inr<|.inl ⟨An e,.inl ⟨vs,h1⟩⟩
 |dt x=>obtain⟨a,ep,vs,rfl,_,h1,_⟩:=h;exact .inr<|.inr<|.inl ⟨An e,.inr ⟨ep,vs,h1⟩⟩
 |_=>cases e
def Um(T:String)(b:D->Se D->Sf Rz)(fo:FE)(fa:FA):FE:=λst=>(fo st).bind λx=>(cont x.2 x.1).bind λd0=>if On T d0=true then(fa x.2).bind λy=>(cont y.2 x.1).bind λd=>(eM y.2 y.1).bind λds=>(b d ds).bind λz=>some (mk z,y.2) else none
def MR(hr:G5 K r b)(ho:SO K to fo)(ha:TB K ta fa):SO K (UU K T r to ta) (Um T b fo fa):=by
 intro st σ H O Z Q E r' VX h q;refine SN h λr1 V1 e1 h=>(SK h λd0 e2 h=>?_);obtain⟨c,h⟩:=aQ h;refine SN h λrs V4 e3 h=>(SK h λd e4 h=>(SK h λds e5 h=>(SK h λz e6 h=>?_)));cases h;refine ho st σ H O Z _ E r1 V1 e1 λv1 H1 O1 x1 k1 E1 rv1 w1=>⟨QL (rv1.ba E1 e2) c,(ha V1 σ H1 O1 Z _ E1 rs _ e3 λvs H2 O2 x2 k2 E2 rvs=>?_)⟩;have b1:=(rv1.nf.ext x2 k2).ba E2 (by rw[ip];exact e4)
 refine hr (U O2 Z) H2 v1 vs d ds z _ E2.liv b1 (rvs.bas E2 e5) e6 λv H3 s hres=>?_;obtain⟨E3,rv3⟩:=hres.rv E2 s;walk_at "d"
def iH:Se D->Sf (Se Str)|[]=>some []|.str x::r=>(iH r).bind λxs=>some (x::xs)|_=>none
theorem lg:∀{ds:Se D}{vs:Se V}{xs:Se Str},El K Y H vs ds->iH ds=some xs->vs=xs.map V.str
 |[],vs,xs,el,e=>by cases e;exact el.unnil
 | d::r,vs,xs,el,e=>by
  obtain⟨v,t,rfl,da,el2⟩:=el.uncons;cases d with
  |str b=>
   refine SK e λxs' e1 e=>?_;cases e;have h:=lg el2 e1;rw[h,show v=V.str b from da.ba];rfl
  |_=>cases e
def G6:D->Se D->Sf Rz|.str sep,[.lst ds]=>(iH ds).bind λys=>if (ys.map (·.length)).sum+ys.length*sep.length<=16777216 then some (.str<|Txt.join sep ys,false) else none|_,_=>none
theorem y7:G5 K (λx vs H Q=>∃(sep:Str)(p:Sk)(ys:Se Str),x=.str sep/\vs=[.ref p]/\SW K H p (ys.map V.str)/\(ys.map (·.length)).sum+ys.length*sep.length<=16777216/\Q (.str<|Txt.join sep ys) H) G6:=by
 walk_at "K";cases d with
 |str sep=>
  cases bs with
  |nil=>cases e
  |@cons v vs d ds b2 bs=>
   cases bs with
   |cons _ _=>cases d<;>cases e
   |nil=>
    cases d with
    |lst es=>
     refine SK e λys e1 e=>?_;walk_at "5";cases e;obtain⟨p,ws,rfl,hp,el⟩:=b2;obtain rfl:=lg el e1;exact⟨sep,p,ys,b1,rfl,.inl<|.inl hp,c,q _ H (VZ.refl H)<|.str _⟩
    |_=>cases e
 |_=>cases e
def y8:D->Se D->Sf Rz|.str a,[.str b]=>some (.bl<|Txt.startswith a b,false)|_,_=>none
theorem sE:G5 K (λx vs H Q=>∃(a b:Str),x=.str a/\vs=[.str b]/\Q (.bl<|Txt.startswith a b) H) y8:=by
 walk_at "K";cases d with
 |str a=>
  cases bs with
  |nil=>cases e
  |@cons v vs d ds b2 bs=>
   cases bs with
   |cons _ _=>cases d<;>cases e
   |nil=>
    cases d with|str b=>cases e;exact⟨a,b,b1,by rw[show v=V.str b from b2],q _ H (VZ.refl H)<|.bl _⟩|_=>cases e
 |_=>cases e
def SY:D->Ss|.lst _=>true|_=>false
theorem U4(h:OA K Y H p x)(e:SY x=true):UK K "list" (.ref p) H:=by
 cases x with
 |lst ds=>obtain⟨vs,h1,_⟩:=h;exact .inl ⟨rfl,vs,.inl<|.inl h1⟩
 |_=>cases e
theorem El.upd(h:El K Y H vs ds)(hp:Y p):El K Y (L2.upd H p o) vs ds:=h.go (λb u e n=>by
 have hb:b≠p:=λz=>n (by rw[z];exact hp)
 rw[aV hb];exact e) λb z=>.inl z
theorem DA.upd(h:DA K Y H v d)(hp:Y p):DA K Y (L2.upd H p o) v d:=h.go (λb u e n=>by
 have hb:b≠p:=λz=>n (by rw[z];exact hp)
 rw[aV hb];exact e) λb z=>.inl z
def br:D->Se D->Sf (D×D)|.lst xs,[y]=>if xs.length<1000000 then some (.non,.lst<|xs++[y]) else none|_,_=>none
theorem sF:Yt K "list" tS SY br:=⟨λY H p x h e=>U4 h e,λY H p x vs ds y x' Q hp ho el e q=>by
 cases x with
 |lst xs=>
  cases ds with
  |nil=>cases e
  |cons d ds=>
   cases ds with
   |cons _ _=>cases e
   |nil=>
    walk_at "5";cases e;obtain⟨ws,h1,h2⟩:=ho;walk_at "J";obtain rfl:=el.unnil;exact⟨p,ws,v,rfl,rfl,h1,by rw[h2.1];exact few<|by lia,q .non _ .non ⟨_,bH,(h2.app<|El.one da).upd hp⟩⟩
 |_=>cases e⟩
def j8:D->Se D->Sf (D×D)|.lst xs,[.int i]=>if -(2 ^ 63)<=i/\i<2 ^ 63 then(seqIndex? i xs.length).bind λk=>(xs[k]?).bind λy=>some (y,.lst<|xs.eraseIdx k) else none|_,_=>none
theorem vR:Yt K "list" Gy SY j8:=⟨λY H p x h e=>U4 h e,λY H p x vs ds y x' Q hp ho el e q=>by
 cases x with
 |lst xs=>
  cases ds with
  |nil=>cases e
  |cons d ds=>
   cases d with
   |int i=>
    cases ds with
    |cons _ _=>cases e
    |nil=>
     walk_at "5";refine SK e λk e1 e=>(SK e λy' e2 e=>?_);cases e;obtain⟨ws,h1,h2⟩:=ho;walk_at "J";obtain rfl:=el.unnil;obtain rfl:=(show v=V.int i from da.ba);obtain⟨u,g1,g2⟩:=h2.at e2;exact⟨p,ws,i,k,u,rfl,rfl,h1,c.1,c.2,by rw[h2.1];exact e1,g1,q u _ (g2.upd hp) ⟨_,bH,(h2.erase k).upd hp⟩⟩
   |_=>cases ds<;>cases e
 |_=>cases e⟩
def ql:D->D->D->Sf D|.lst xs,.int k,v=>(T8 xs.length k).bind λj=>some (.lst<|xs.set j v)|_,_,_=>none
theorem EX:GK K MA ql:=by
 intro Y H p x k v dk dv x' Q hp ho bk da e q;cases x with
 |lst xs=>
  cases dk with
  |int i=>
   refine SK e λj e1 e=>?_;cases e;obtain⟨ws,h1,h2⟩:=ho;exact⟨p,ws,i,j,rfl,bk,h1,by rw[h2.1];exact e1,q _ ⟨_,bH,(h2.set da j).upd hp⟩⟩
  |_=>cases e
 |_=>cases e
def G7(xs:Se Str):FA:=λst=>some (xs.map λx=>.d<|.str x,st)
theorem KS:TB K (MD xs) (G7 xs):=by
 intro st σ H O Z Q E rs VX e q;cases e;refine q _ H O (Wr.refl _ _) (Kp.refl _) E ?_;clear q;induction xs with|nil=>exact .nil|cons x r ih=>exact .cons (show DA K _ H (.str x) (.str x) from .str x) ih
end
open PySem.Spec PyProof.Rows
section
variable {X:Cx}{K:Ab}{Y:AS}{H:Hp}{v:V}{d:D}{vs:Se V}{ds:Se D}
def y9(K:Ab):R2:=λx y H Q=>(Tt λi j=>.int<|i+j) x y H Q\/((∃i j,x=.str i/\y=.str j/\i.length+j.length<=sizeLine/\Q (.str<|i++j) H)\/(NN x y H Q\/Gv K x y H Q))
def zc(h:X.K=K):Wx X (binaryOp .Add) (y9 K):=XT.or<|W6.or<|XX.or<|h ▸ Kn
def Xs:V2 K (y9 K) cK:=XH.or<|XJ.or<|X2.or KN
def MS:R2:=λx y H Q=>(rI WW λi j=>.int<|i*j) x y H Q\/(∃(a:Str)(n:Int),x=.str a/\y=.int n/\MulOk a n/\Q (.str<|Txt.mul a n) H)
def lh:Wx X (binaryOp .Mult) MS:=XU.or xz
def KU:V2 K MS mZ:=XI.or KO
def QM:R2:=λx y H Q=>(Tt λi j=>.bl<|decide<|i<j) x y H Q\/(∃i j,x=.str i/\y=.str j/\Q (.bl<|decide<|i.cps.toList<j.cps.toList) H)
def G8:Wx X (compareOp .Lt) QM:=Ys.or EA
def Op:V2 K QM Uy:=X0.or Oh
def Oq(K:Ab):R2:=λx y H Q=>(∃i j,x=.str i/\y=.str j/\Q (.bl<|!(Builtin.Str.occurrences j i 0 j.length 1).isEmpty) H)\/UJ K false x y H Q
def ua(h:X.K=K):Wx X (compareOp .In) (Oq K):=Xt.or<|h ▸ EH
def Xy:V2 K (Oq K) TY:=X3.or<|GY false
def ub(K:Ab):R2:=λx y H Q=>(∃i j,x=.str i/\y=.str j/\Q (.bl<|!(!(Builtin.Str.occurrences j i 0 j.length 1).isEmpty)) H)\/UJ K true x y H Q
def nS(h:X.K=K):Wx X (compareOp .NotIn) (ub K):=WY.or<|h ▸ tO
def WX:V2 K (ub K) me:=Xu.or<|GY true
def S9:=EV false
def Os(_:X.K=K)(_:X.A.units+64<cLine):Wx X (compareOp .Eq) UH:=eG
def Xz:V2 K UH S9:=Of
def Ou:D->D->Sf Rz|.lst xs,.lst []=>some (.bl<|!xs.isEmpty,false)|_,_=>none
def QN(K:Ab):R2:=λx y H Q=>∃(a b:Sk)(xs:Se V),x=.ref a/\y=.ref b/\SW K H a xs/\SW K H b []/\Q (.bl<|!xs.isEmpty) H
theorem Ov:V2 K (QN K) Ou:=by
 walk_at "0";cases d1 with
 |lst xs=>
  cases d2 with
  |lst ys=>
   cases ys with
   |nil=>
    cases e;obtain⟨p,ws,rfl,hp,el⟩:=b1;obtain⟨p2,zs,rfl,hp2,el2⟩:=b2;obtain rfl:=el2.unnil;refine⟨p,p2,ws,rfl,rfl,.inl<|.inl hp,.inl<|.inl hp2,?_⟩;have e:ws.isEmpty=xs.isEmpty:=by
     cases ws with
     | nil=>cases xs with|nil=>rfl|cons _ _=>cases el.1
     | cons _ _=>cases xs with|nil=>cases el.1|cons _ _=>rfl
    rw[e];exact q _ H (VZ.refl H)<|.bl _
   |cons _ _=>cases e
  |_=>cases e
 |_=>cases e
def TF:=S6 (EV true) Ou
def Ox(K:Ab):R2:=λx y H Q=>U2 x y H Q\/QN K x y H Q
def j9(h:X.K=K)(hu:X.A.units+64<cLine):Wx X (compareOp .NotEq) (Ox K):=Yr.or (by subst h;exact NV<|by lia)
def XA:V2 K (Ox K) TF:=X1.or Ov
def Oy(K:Ab):V->Sf Int->Sf Int->Hp->VK->Prop:=λx lo hi H Q=>NJ K x lo hi H Q\/(ND K x lo hi H Q\/(∃z:Str,x=.str z/\z.length<=sizeLine/\Q (.str<|Txt.slice z lo hi) H))
def nU(h:X.K=K):Xp X (Oy K):=Xp.or (h ▸ Ko)<|Xp.or (h ▸ NE) NT
def zd:WN K (Oy K) Tl:=WN.or QI<|WN.or QJ QK
def G9(K:Ab):Se V->Hp->VK->Prop:=λxs H Q=>(∃p ys,xs=[.ref p]/\(SW K H p ys\/S8 K H p ys)/\Q (.int ys.length) H)\/(∃z:Str,xs=[.str z]/\z.length<=sizeLine/\Q (.int z.length) H)
def EY(h:X.K=K):V9 X (.builtin "len") (G9 K):=V9.or (h ▸ tP) tQ
def Oz:WC K (G9 K) b9:=XM.or KR
def Ha(z:Str):El K Y H (sgn z) (qg z):=by
 refine⟨by simp[sgn,qg],λi v d h1 h2=>?_⟩
 unfold sgn at h1;unfold qg at h2;rw[Xd]at h1 h2;obtain⟨c,e1,rfl⟩:=Wd.mp h1;rw[e1]at h2;obtain rfl:=Option.some.inj h2;exact .str _
def Hb:Se D->Sf Rz|[.str z]=>if z.cps.size<=1000000 then some (.lst<|qg z,true) else none|_=>none
def Hc:Se V->Hp->VK->Prop:=λxs H Q=>∃z:Str,xs=[.str z]/\z.cps.size<=sizeLine/\∀l,H l=none->Q (.ref l) (upd H l<|.lst<|sgn z)
theorem Hd:WC K Hc Hb:=by
 walk_at "7";cases bs with
 |nil=>cases e
 |@cons v vs d ds b1 bs=>
  cases bs with
  |cons _ _=>cases d<;>cases e
  |nil=>
   cases d with
   |str a=>
    walk_at "5";cases e;exact⟨a,by rw[show v=V.str a from b1],few c,λr hr=>q _ _ (bq hr _)<|gf (Ha a) hr⟩
   |_=>cases e
def ze:Se D->Sf Rz|[.str z]=>if z.cps.size<=1000000 then some (.tup<|qg z,false) else none|_=>none
def zf:Se V->Hp->VK->Prop:=λxs H Q=>∃z:Str,xs=[.str z]/\z.cps.size<=sizeLine/\∀l,H l=none->Q (.ref l) (upd H l<|.tup<|sgn z)
theorem EZ:WC K zf ze:=by
 walk_at "7";cases bs with
 |nil=>cases e
 |@cons v vs d ds b1 bs=>
  cases bs with
  |cons _ _=>cases d<;>cases e
  |nil=>
   cases d with
   |str a=>
    walk_at "5";cases e;exact⟨a,by rw[show v=V.str a from b1],few c,λr hr=>q _ _ (bq hr _)<|j0 (Ha a) hr lv⟩
   |_=>cases e
def kc:=Uw MQ Hb
def bn:=Uw G3 ze
def He(K:Ab):Se V->Hp->VK->Prop:=λxs H Q=>(∃p ys,xs=[.ref p]/\(SW K H p ys\/S8 K H p ys)/\∀l,H l=none->Q (.ref l) (upd H l<|.lst ys))\/Hc xs H Q
def uc(K:Ab):Se V->Hp->VK->Prop:=λxs H Q=>(∃p ys,xs=[.ref p]/\((SW K H p ys/\∀l,H l=none->Q (.ref l) (upd H l<|.tup ys))\/(S8 K H p ys/\Q (.ref p) H)))\/zf xs H Q
def gJ(h:X.K=K)(hc:X.calm=true):V9 X (.type "list") (He K):=V9.or (h ▸ tR)<|qf hc
def vS(h:X.K=K)(hc:X.calm=true):V9 X (.type "tuple") (uc K):=V9.or (h ▸ rD)<|oV hc
def Hg:WC K (He K) kc:=XN.or Hd
def E8:WC K (uc K) bn:=Xx.or EZ
def Ue:D->String|.non=>"NoneType"|.bl _=>"bool"|.int _=>"int"|.str _=>"str"|.tup _=>"tuple"|.lst _=>"list"|.fl _=>"list"|.dk _=>"dict"|.dt _=>"dict"|.ty _=>"type"
def Hh(n T:String):Ss:=n == T||(n == "bool"&&T == "int")
def OB:∀n∈["NoneType","bool","int","str","tuple","list","dict"],∀T∈["bool","int","str","tuple","list","dict"],
  (if (Value.type n == Value.type T)=true then some true else if PySem.W.kitMeta T=true then(fastBuiltinMro n).map (·.contains (Value.type T)) else none)=some (Hh n T):=by decide +kernel
def R7:Se D->Sf Rz|[d,.ty T]=>if (["bool","int","str","tuple","list","dict"].contains T&&Ue d != "type")=true then some (.bl<|Hh (Ue d) T,false) else none|_=>none
def cg:=R7
def OC(K:Ab):Se V->Hp->VK->Prop:=λxs H Q=>∃(Y:AS)(x:V)(d:D)(T:String),xs=[x,.ty T]/\BA K Y H x d/\(["bool","int","str","tuple","list","dict"].contains T&&Ue d != "type")=true/\Q (.bl<|Hh (Ue d) T) H
theorem E9:WC K (OC K) cg:=by
 walk_at "7";cases bs with
 |nil=>cases e
 |@cons v vs d ds b1 bs=>
  cases bs with
  |nil=>cases e
  |@cons v2 vs2 d2 ds2 b2 bs=>
   cases bs with
   |cons _ _=>cases d2<;>cases e
   |nil=>
    cases d2 with
    |ty T=>
     walk_at "5";cases e;exact⟨Y,v,d,T,by rw[show v2=V.ty T from b2],b1,c,q _ H (VZ.refl H)<|.bl _⟩
    |_=>cases e
def ud(h:X.K=K):V9 X (.builtin "isinstance") (OC K):=by
 subst h;intro VU s σ H xs us Q I rv h;obtain⟨Y,x,d,T,rfl,b1,c,q⟩:=h;obtain⟨u,w',rfl,rx,ry⟩:=vals2 rv;cases (show w'=Value.type T from ry);rw[Zj]at c;have hT:T∈["bool","int","str","tuple","list","dict"]:=List.contains_iff_mem.mp c.1;have fin:∀tk,EP X VU σ Q (.bool<|Hh (Ue d) T) { s with toks:=tk }:=λtk=>⟨.bl _,H,I.tok tk,rfl,q⟩;have ko:∀n∈["NoneType","bool","int","str","tuple","list","dict"],Ue d=n->PySem.W.kitOne X.K (.type n) (.type T)=some (Hh (Ue d) T):=λn hn e=>by
  rw[e];exact NU<|OB n hn T hT
 cases d with
 |non=>
  obtain rfl:=(show x=V.non from b1);exact fq I rx .non (ko "NoneType" (by decide) rfl) fin
 |bl b=>
  obtain rfl:=(show x=V.bl b from b1);exact fq I rx (.bl b) (ko "bool" (by decide) rfl) fin
 |int i=>
  obtain rfl:=(show x=V.int i from b1);exact fq I rx (.int i) (ko "int" (by decide) rfl) fin
 |str z=>
  obtain rfl:=(show x=V.str z from b1);exact fq I rx (.str z) (ko "str" (by decide) rfl) fin
 |ty n=>exact absurd c.2 (by simp[Ue])
 |lst ds=>
  obtain⟨a,vs,rfl,h1,_⟩:=b1;exact fq I rx (.lst h1) (ko "list" (by decide) rfl) fin
 |fl ds=>
  obtain⟨a,vs,rfl,h1,_⟩:=b1;walk_at "e";obtain⟨its,_,pl,_⟩:=I.list h1.sq;obtain⟨o,ho,hc,_⟩:=pl.isList;exact At C3 I.kIn ⟨o,ho,hc⟩ (ko "list" (by decide) rfl) (λz=>nomatch z) fin
 |tup ds=>
  obtain⟨a,vs,rfl,h1,_⟩:=b1;walk_at "e";obtain⟨its,_,pl,_⟩:=I.tuple h1.sq;obtain⟨o,ho,hc,_⟩:=pl;exact At PySem.W.kitx_tuple I.kIn ⟨o,ho,hc⟩ (ko "tuple" (by decide) rfl) (λz=>nomatch z) fin
 |dk ds=>
  obtain⟨a,vs,rfl,h1,_⟩:=b1;exact fq I rx (.dK h1) (ko "dict" (by decide) rfl) fin
 |dt ds=>
  obtain⟨a,ep,vs,rfl,_,h1,_⟩:=b1;exact fq I rx (.dT h1) (ko "dict" (by decide) rfl) fin
def oY(l:Sk)(its:Sj Sh)(n:Nat)(b:Sk)(more:Sj Sh)(m:Nat)(dd:Sf Sk)(sl:Sj (Sf Sh))(h0:¬(!its.isEmpty&&Builtin.List.listTooLong (its.size+more.size))=true)(h1:its.size<=sizeLine)(h2:its.size+more.size<=sizeLine+1) :
  Meets (Builtin.«list.extend» ⟨[.ref l,.ref b],[]⟩) (λ_ R s=>s.heap.get? l=some { cls:=.type "list",dict:=none,data:=.seq its n,slots:=#[] }/\s.heap.get? b=some { cls:=.type "tuple",dict:=dd,data:=.seq more m,slots:=sl }/\R (.ok<|.ret Value.none) { s with heap:=s.heap.update l<|Obj.mapSeq λx=>x++more,toks:=s.toks }) :=
 .of_wp λprog w A R s0 hh=>by
  obtain⟨hp,gg,dp,tks,oo⟩:=s0;obtain⟨hl,hb,hR⟩:=hh;have a1:=AutoSeq1.idx_int;have a2:=AutoSeq1.sub_tuple_tuple;have a3:=AutoSeq1.sub_list_list;have a4:=AutoSeq1.sub_tuple_list;have a5:=AutoSeq1.sub_list_tuple;have fits:(its++more).size<=sizeLine+1:=by
   rw[Array.size_append];exact h2
  wp_walk using (wpAny_updateSeq hl rfl (hz:=h1) (_hz':=fits)),Cq hl,Cq hb
  exact⟨_,rfl,hR⟩
def MT(K:Ab):V->Se V->Hp->VK->Prop:=λx vs H Q=>∃l b xs zs,x=.ref l/\vs=[.ref b]/\H l=some (.lst xs)/\S8 K H b zs/\xs.length+zs.length<=sizeLine/\Q .non (upd H l<|.lst<|xs++zs)
def KW(h:X.K=K):UL X "list.extend" (MT K):=by
 subst h;walk_at "f";obtain⟨l,b,xs,zs,rfl,rfl,hH,hB,hz,q⟩:=h;cases rx;obtain⟨u,rfl,ru⟩:=rv.one;cases ru;walk_at "v";obtain⟨its2,r2,pl,hz2⟩:=I.tuple hB;obtain⟨⟨c2,dd2,d2,sl2⟩,ho2,hc2,n2,hd2⟩:=id pl;obtain rfl:c2=.type "tuple":=hc2;obtain rfl:d2=.seq its2.toArray n2:=hd2;have hl2:=r2.length;have hsz:its.toArray.size+its2.toArray.size<=sizeLine:=by rw[Xc,Xc];lia
 have hlong:¬ (!its.toArray.isEmpty&&Builtin.List.listTooLong (its.toArray.size+its2.toArray.size))=true:=by
  rw[vG hsz,Bool.and_false];exact Ze
 refine Cf F.slot_list_extend ⟨_,e,rfl⟩ F.entry_list_extend (F.args_list_extend_2 _ _)
  (oY l its.toArray n b its2.toArray n2 dd2 sl2 hlong (by rw[Xc];lia)<|by lia) ⟨e,ho2,?_⟩
 refine⟨.non,_,I.lset (its':=its++its2) hH e (by simp) (r.append r2) ?_,rfl,q⟩
 rw[Xa];lia
def MU(K:Ab):V->Se V->Hp->VK->Prop:=λx vs H Q=>yM x vs H Q\/MT K x vs H Q
def mf(h:X.K=K)(_:X.calm=true):UL X "list.extend" (MU K):=by
 intro VU s σ H x vs v us Q I rx rv hh;rcases hh with hh|hh
 ·exact EJ VU s σ H x vs v us Q I rx rv hh
 ·exact KW h VU s σ H x vs v us Q I rx rv hh
def jg:D->Se D->Sf (D×D)|.lst xs,[.lst ys]=>if xs.length+ys.length<=1000000 then some (.non,.lst<|xs++ys) else none|.lst xs,[.tup ys]=>if xs.length+ys.length<=1000000 then some (.non,.lst<|xs++ys) else none|_,_=>none
theorem sG:Yt K "list" (MU K) SY jg:=⟨λY H p x h e=>U4 h e,λY H p x vs ds y x' Q hp ho el e q=>by
 cases x with
 |lst xs=>
  cases ds with
  |nil=>cases e
  |cons d ds=>
   cases ds with
   |cons _ _=>cases d<;>cases e
   |nil=>
    obtain⟨ws,h1,h2⟩:=ho;walk_at "J";obtain rfl:=el.unnil;cases d with
    |lst ys=>
     walk_at "5";cases e;cases da with|@lst a us _ g0 g1 g2 g3=>exact .inl ⟨p,a,ws,us,rfl,rfl,h1,g1,by rw[h2.1,g2];exact few c,q .non _ .non ⟨_,bH,(h2.app ⟨g2,g3⟩).upd hp⟩⟩
    |tup ys=>
     walk_at "5";cases e;cases da with|@tup a us _ g1 g2 g3=>exact .inr ⟨p,a,ws,us,rfl,rfl,h1,g1.sq,by rw[h2.1,g2];exact few c,q .non _ .non ⟨_,bH,(h2.app ⟨g2,g3⟩).upd hp⟩⟩
    |_=>cases e
 |_=>cases e⟩
def QO(K:Ab)(tl:TE):TI:=λσ H R=>yz K tl σ H R\/(Nr K tl σ H R\/NR tl σ H R)
def ce(h:X.K=K)(hl:PE X l tl):PI X tg l (QO K tl):=by
 subst h;intro VU s σ H R I hh;rcases hh with hh|hh|hh
 ·exact Kg hl VU s σ H R I hh
 ·exact Nt hl VU s σ H R I hh
 ·exact NS hl VU s σ H R I hh
def S7(fe:FE):FI:=λst=>match Uv fe st with
 |some z=>some z
 | none=>match UV fe st with|some z=>some z|none=>Vv fe st
def Hj(h:SO K te fe):Xw K (QO K te) (S7 fe):=by
 walk_at "h";unfold S7 at e;split at e
 ·rename_i z ez
  cases e;exact .inl<|KF h st σ H O Z R E items VX ez q
 ·split at e
  ·rename_i z ez
   cases e;exact .inr<|.inl<|N2 h st σ H O Z R E items VX ez q
  ·exact .inr<|.inr<|N4 h st σ H O Z R E items VX e q
end
section
def WP:Slot "reversed" "__next__" "reversed.__next__":=by
 refine .of (owner:="reversed") (n:="__next__") ?_ ?_ ?_ ?_ ?_ ?_
 ·rw[Cs,Bz]
  kernel_rfl
 ·decide +kernel
 ·decide +kernel
 ·decide +kernel
 ·first
   | exact .inl (by decide +kernel)
   | exact .inr (by decide +kernel)
 ·rw[CJ]
  kernel_rfl
def zg:Slot "reversed" "__iter__" "reversed.__iter__":=by
 refine .of (owner:="reversed") (n:="__iter__") ?_ ?_ ?_ ?_ ?_ ?_
 ·rw[Cs,Bz]
  kernel_rfl
 ·decide +kernel
 ·decide +kernel
 ·decide +kernel
 ·first
   | exact .inl (by decide +kernel)
   | exact .inr (by decide +kernel)
 ·rw[CJ]
  kernel_rfl
def vT:entryFor table "reversed.__next__"=some Builtin.«reversed.__next__»:=by
 refine entryFor_of_tree ?_
 kernel_rfl
def zh(a:Sh):argsOk "reversed.__next__" ⟨[a],[]⟩:=by
 unfold argsOk
 kernel_rfl
def KY(a:Sh):argsOk "reversed.__iter__" ⟨[a],[]⟩:=by
 unfold argsOk
 kernel_rfl
def Hk:entryFor table "reversed.__iter__"=some Builtin.«dict_keyiterator.__iter__»:=by
 refine entryFor_alias (id':="dict_keyiterator.__iter__") ?_ ?_ ?_ ?_
 ·kernel_rfl
 ·first
   | rfl
   | decide +kernel
   | (unfold String.splitOn;simp +decide [String.splitOnAux])
 ·decide +kernel
 ·kernel_rfl
variable {A:Around}{s:Si}
def W0(h:Sv)(it a:Sk)(i:Int):Prop:=∃o,h.get? it=some o/\o.cls=.type "reversed"/\o.data=.fields #[.ref a,rawInt i]
def W0.ty(x:W0 s.heap it a i):s.TypeIs (.ref it) "reversed":=by
 obtain⟨o,ho,hc,_⟩:=x;exact⟨o,ho,hc⟩
def KZ{it a:Sk}{i:Nat}{items:Sj Sh}{x:Sh}{Q:Sf Sh->Si->Prop}(hit:W0 s.heap it a (i:Int))(ht:IsTup s.heap a items)(hx:items[i]?=some x)(hz:items.size<=sizeLine)
  (hQ:∀h' t',W0 h' it a ((i:Int)-1)->Heap.SameBut it s.heap h'->Q (some x) { s with heap:=h',toks:=t' }):wpAny (model prog w) A (pyNext<|.ref it) Q E s:=by
 obtain⟨o,ho,hc,hd⟩:=id hit;have hi:i<items.size:=(Array.getElem?_eq_some_iff.mp hx).1;have hs:=CG;unfold pyNext;refine Aa<|AQ<|Ap (name:=Str.ofString "__next__") hit.ty WP<|Aq WP hit.ty vT ?_<|zh _;unfold Builtin.«reversed.__next__»;refine Aa<|Bi (a:=(Value.ref it,[])) rfl ?_
 try dsimp only
 refine Aa<|As ho hd (x:=.ref a) rfl<|Aa<|As ho hd (x:=rawInt (i:Int)) rfl ?_;show wpAny _ _ (if (i:Int)<0 then _ else _) _ _ s;rw[Ak<|show ¬ ((i:Int)<0) by lia]
 refine Aa<|Co ht.typeIs F.slot_tuple_getitem.lookup ?_
 try dsimp only
 rw[Ak<|by simp]
 refine Aa<|wpAny_mkInt<|Aa<|AQ<|getItem_tuple (s:={ s with toks:=s.toks+1 }) (show IsTup s.heap a items from ht) (by lia) (by lia) (Ds (by lia)<|by lia) (by simpa using hx)<|Aa<|As (s:={ s with toks:=s.toks+1 }) ho hd (x:=rawInt (i:Int)) rfl ?_
 show wpAny _ _ (setField (Value.ref it) 1 (rawInt<|(i:Int)-1) >>= _) _ _ _;refine Aa<|Bh (s:={ s with toks:=s.toks+1 }) ho hd (by simp)<|Ad ⟨x,rfl,Ad<|hQ _ _ (⟨_,Bc _ ho<|BB<|AC hd _,(C5 ..).trans hc,?_⟩)<|AH ..⟩
 rw[AC hd];simp
def OD(hh:A.handled=none)(hit:W0 s.heap it a j)(hj:j<0)
  (hQ:∀h',Heap.ExtBut it s.heap h'->Q none { s with heap:=h' }):wpAny (model prog w) A (pyNext<|.ref it) Q E s:=by
 obtain⟨o,ho,hc,hd⟩:=id hit;unfold pyNext;refine Aa<|AQ<|Ap (name:=Str.ofString "__next__") hit.ty WP<|Aq WP hit.ty vT ?_<|zh _;unfold Builtin.«reversed.__next__»;refine Aa<|Bi (a:=(Value.ref it,[])) rfl ?_
 try dsimp only
 refine Aa<|As ho hd (x:=.ref a) rfl ?_;refine Aa<|As ho hd (x:=rawInt j) rfl ?_;show wpAny _ _ (if j<0 then _ else _) _ _ s;rw[Ag hj];refine Aa<|AF ?_;refine Aa ?_;show wpAny _ _ (setField (Value.ref it) 1 (rawInt<|-1) >>= λ_=>setField (Value.ref it) 0 .none) _ _ s;refine Aa<|Bh ho hd (by simp) ?_
 have g1:=Bc (Obj.mapFields (·.setIfInBounds 1 (rawInt<|-1))) ho<|BB<|AC hd _;refine Bh g1 (AC hd _) (by simp) ?_
 refine Aa ?_;show wpAny _ _ (newExc (.type "StopIteration") [] >>= _) _ _ _;refine Aa ?_;simp only[newExc,newTuple];refine Aa<|Ar ?_<|by size_fits
 refine Aa (m:=firstArgMember _ _)<|Bi (a:=Value.none) (by first|rfl|(simp only[firstArgMember];rfl)) ?_
 refine Ar ?_ (by size_fits)
 simp only[raiseNew];refine Aa<|wpAny_handled ?_
 first|rw[show A.in1.handled=none from hh]|rw[hh]
 refine Aa<|Ad<|wpAny_throw ?_;refine Aa<|Ca (T:="StopIteration") (b:=true) ⟨_,Ah _ rfl,rfl⟩ Dy ?_;refine Ad<|hQ _ ?_;have e1:Heap.ExtBut it s.heap (s.heap.update it (Obj.mapFields (·.setIfInBounds 1 (rawInt<|-1)))):=λb o2 hb e=>(A7 s.heap _<|Az hb).trans e;have e2:Heap.ExtBut it s.heap ((s.heap.update it (Obj.mapFields (·.setIfInBounds 1 (rawInt<|-1)))).update it (Obj.mapFields (·.setIfInBounds 0 .none))):=λb o2 hb e=>(A7 _ _<|Az hb).trans (e1 b o2 hb e);exact(e2.push _).push _
def zi(hit:W0 s.heap it a i)(h:Q (.ref it) s):wpAny (model prog w) A (pyIter<|.ref it) Q E s:=by
 refine wpAny_pyIter_slot hit.ty zg<|Aq zg hit.ty Hk ?_<|KY _;show wpAny _ _ (ret<|.ref it) _ _ s;exact Ad ⟨_,rfl,"reversed",_,hit.ty,WP.lookup,h⟩
def OE:typeLookup (.type "tuple") "__reversed__"=pure none:=by
 rw[Cs,Bz]
 kernel_rfl
def OF:isSubtype (.type "tuple") (.type "dict")=pure false:=by
 rw[CJ]
 kernel_rfl
def vU(a:Sk)(i:Int):Obj:={ cls:=.type "reversed",data:=.fields #[.ref a,rawInt i] }
def Hl(a:Sk)(items:Sj Sh)(hz:items.size<=sizeLine) :
  Meets (Builtin.«reversed.__new__» ⟨[.type "reversed",.ref a],[]⟩) (λ_ R s=>IsTup s.heap a items/\∀t',R (.ok<|.ret<|.ref s.heap.objs.size) { s with heap:=s.heap.push<|vU a<|(items.size:Int)-1,toks:=t' }):=by
 have hs:=CG;refine .of_wp λprog w A R s h=>?_;obtain⟨ht,hR⟩:=h;unfold Builtin.«reversed.__new__»;refine Aa<|Bi (PySem.newClass_reversed _) ?_
 try dsimp only
 refine Aa<|Bi (a:=()) (by first|rfl|kernel_rfl)<|Aa<|Bi (a:=()) (by first|rfl|kernel_rfl) ?_
 try dsimp only
 refine Aa<|Co ht.typeIs OE ?_
 try dsimp only
 refine Aa ?_;show wpAny _ _ (isInstance (.ref a) (.type "dict") >>= _) _ _ s;refine Aa<|Ca (T:="tuple") (b:=false) ht.typeIs OF ?_;rw[Ak<|by decide]
 refine Aa<|Co ht.typeIs F.slot_tuple_getitem.lookup<|Ad ?_;rw[Ak<|by decide]
 refine Aa<|len_tuple ht (by lia)<|Aa<|Bi (a:=some ((items.size:Nat):Int)) rfl ?_
 show wpAny _ _ (newObj (.type "reversed") (.fields #[.ref a,rawInt<|(items.size:Int)-1]) >>= _) _ _ _;exact Aa<|Ar<|Ad ⟨_,rfl,hR _⟩
def K1:Slot "reversed" "__init__" "object.__init__":=by
 refine .of (owner:="object") (n:="__init__") ?_ ?_ ?_ ?_ ?_ ?_
 ·rw[Cs,Bz]
  kernel_rfl
 ·decide +kernel
 ·decide +kernel
 ·decide +kernel
 ·first
   | exact .inl (by decide +kernel)
   | exact .inr (by decide +kernel)
 ·rw[CJ]
  kernel_rfl
def Fb:TypeCalled "reversed" "reversed.__new__" "object.__init__":=by
 refine⟨?_,?_,⟨_,_,F.mro_reversed⟩,F.made_reversed,F.plain_reversed_new,F.sub_reversed_self,K1⟩
 ·decide +kernel
 ·exact F.create_reversed
def K2{items:Sj Sh}(ht:IsTup s.heap a items)(hz:items.size<=sizeLine)
  (h:∀t',Q (.ref s.heap.objs.size) { s with heap:=s.heap.push<|vU a<|(items.size:Int)-1,toks:=t' }):wpAny (model prog w) A (call (.type "reversed") [.ref a]) Q E s :=
 callType_new Fb (by decide) (F.typeCall_reversed_1 _) (F.newCall_reversed_1 _) (λobj=>F.args_object_init_2 obj _) F.entry_reversed_new (Hl a items hz) ⟨ht,λt'=>⟨⟨_,Ah _ rfl,rfl⟩,h t'⟩⟩
def Vy(K:Ab)(a:Sk)(xs:Se V):It:=⟨λi H=>S8 K H a xs/\i<xs.length,λi H v H'=>H'=H/\xs.reverse[i]?=some v,λi _=>xs.length<=i⟩
def K3{P:Su}{w:Sx}{K:Ab}{tg:Expr}(a it:Sk)(xs:Se V):Turn P w K tg (Vy K a xs) [it] it (λi h=>W0 h it a<|(xs.length:Int)-1-(i:Nat)) where
 mem:=by simp
 obj:=λi h st b hb=>by
  walk_at "q"
  subst e;obtain⟨o,e,c,d⟩:=st;walk_at "n"
 keep:=λi h h' st k=>by
  obtain⟨o,e,r⟩:=st;exact⟨o,k it (by simp) o e,r⟩
 item:=by
  walk_at "1";subst hP hw hK;walk_at "2"
  obtain⟨hq,hi⟩:=hg;obtain⟨its,rv,p,hz⟩:=I.tuple hq;have hl:=rv.length;have e1:((xs.length:Int)-1-(i:Nat))=((xs.length-1-i:Nat):Int):=by lia
  rw[e1]at st;have hx:xs.reverse[i]?=some (xs[xs.length-1-i]'(by lia)):=by
   rw[List.getElem?_reverse hi,Za<|by lia]
  obtain⟨u,hu,ru⟩:=rv.get<|Za<|show xs.length-1-i<xs.length by lia
  refine KZ st p (x:=u) (by simpa using hu) (by rw[Xc];lia) λh' t' VX sb=>?_
  have I1:Inv X VU σ H { s with heap:=h',toks:=t' }:=I.turned (λb o hb e=>sb.extBut b o hb e) f0 f1 f3 f4 f5;obtain⟨o,e,c,d⟩:=id VX;have e2:(((xs.length-1-i:Nat):Int)-1)=((xs.length:Int)-1-((i+1:Nat):Int)):=by lia
  rw[e2]at VX;exact⟨u,rfl,rX (s:={ s with heap:=h',toks:=t' }) e c d (by decide) ⟨_,H,I1,ru,⟨rfl,hx⟩,VX,λb hb=>(hf b hb).1⟩⟩
 done:=by
  walk_at "1";subst hP hw hK;walk_at "2"
  have hg':xs.length<=i:=hg;exact OD (I.ok.hd hc) st (by lia) λh' eb=>⟨rfl,I.turned (t':=s.toks) (λb o hb e=>eb b o hb e) f0 f1 f3 f4 f5⟩
 self:=λ_ _ _ _ _ st h=>zi st h
end
section
variable {X:Cx}{K:Ab}
def OG(K:Ab)(ta:TA):TI:=λσ H R=>ta σ H λvs H1=>∃a xs,vs=[.ref a]/\S8 K H1 a xs/\R (Vy K a xs) H1
def boot_reversed:bootBuiltins "reversed"=some (.type "reversed"):=by decide +kernel
theorem K4{tg a:Expr}{ta:TA}{p pos:Pos}(hg:Gl X "reversed")(hm:X.mg "reversed"=none)(ha:PA X [a] ta)(hs:starEach [a] X.env=[(false,eval a X.env)]:=by rfl):PI X tg (.Call (.Name "reversed" p) [a] [] pos) (OG X.K ta):=by
 intro VU s σ H R I h;refine Call_<|lX I hg hm boot_reversed<|Be (SM (ha pos VU s σ H _ I h) λus s1 ⟨vs,H1,I1,r1,q1⟩=>?_) hs rfl;obtain⟨b,xs,e,hq,q⟩:=q1;subst e;cases r1 with
 |cons r rr=>
  cases rr;cases r;obtain⟨its,rv,pt,hz⟩:=I1.tuple hq;have hl:=rv.length;refine K2 pt (by rw[Xc];lia) λt'=>?_
  have I2:Inv X VU σ H1 { s1 with heap:=s1.heap.push<|vU b<|(its.toArray.size:Int)-1,toks:=t' }:=I1.kept λc o e=>Ac _ e;have st:W0 (s1.heap.push<|vU b<|(its.toArray.size:Int)-1) s1.heap.objs.size b ((xs.length:Int)-1-((0:Nat):Int)):=by
   refine⟨_,Ah _ rfl,rfl,?_⟩;show Data.fields #[.ref b,rawInt<|(its.toArray.size:Int)-1]=_;rw[Xc,<-hl];simp
  refine zi (s:={ s1 with heap:=s1.heap.push<|vU b<|(its.toArray.size:Int)-1,toks:=t' }) st ⟨s1.heap.objs.size,[s1.heap.objs.size],_,_,H1,rfl,I2,K3 b _ xs,st,λc hc=>?_,q⟩;have e:c=s1.heap.objs.size:=by simpa using hc
  subst e;walk_at "p"
def vV(h:X.K=K)(hg:Gl X "reversed")(hs:starEach [a] X.env=[(false,eval a X.env)])(hm:X.mg "reversed"=none)(ha:PE X a te):PI X tg (.Call (.Name "reversed" p) [a] [] pos) (OG K<|gE te rB):=by
 subst h;exact K4 hg hm (mR ha ae hs) hs
def zj(fe:FE):FI:=λst=>(fe st).bind λx=>(cont x.2 x.1).bind λd=>(d.itt).bind λds=>some (ds.reverse,x.2)
theorem Hm(h:SO K te fe):Xw K (OG K<|gE te rB) (zj fe):=by
 walk_at "h";refine SN e λr V1 e1 e=>(SK e λd e2 e=>(SK e λds e3 e=>?_));cases e;refine h st σ H O Z _ E r _ e1 λv H1 O1 x1 k1 E1 rv w1=>?_;cases d with
 |tup ds'=>
  cases e3;obtain⟨a,vs,rfl,h1,el⟩:=rv.ba E1 e2;refine⟨a,vs,rfl,h1.sq,q _ H1 O1 x1 k1 E1 λH' O' ex _=>?_⟩;have da':=(DA.tup h1 el.1 el.2).ext ex;have hl:=el.1;have sq:S8 K H' a vs:=WZ.sq (Y:=U O1 Z)<|h1.go (λb o e ny=>ex.kp b o e λz=>ny<|.inl z) λb z=>.inl z;refine⟨λi hi=>?_,λi d hd=>?_⟩
  ·show vs.length<=i;rw[BN]at hi;lia
  ·have hi:i<vs.length:=by
    have:=(Vb.mp hd).1;rw[BN]at this;lia
   refine⟨⟨sq,hi⟩,λx H'' hx=>?_⟩;obtain⟨rfl,hx⟩:=hx;exact⟨VZ.refl _,(el.ext ex).rev.2 i x d hx hd⟩
 |_=>cases e3
end
section
variable {X:Cx}{K:Ab}{Y:AS}{H:Hp}{v:V}{d:D}{vs:Se V}{ds:Se D}
def UM(a b:Str):Prop:=¬ b.cps.toList<a.cps.toList
instance (a b:Str):Decidable (UM a b):=by unfold UM;infer_instance
def Ho(h:UM a b)(g:UM b a):a=b:=by
 unfold UM at *;rw[List.not_lt]at *;cases a;cases b;exact congrArg Str.mk<|Array.toList_inj.mp<|List.le_antisymm h g
def boot_sorted:bootBuiltins "sorted"=some (.builtin "sorted"):=by decide +kernel
end
end VF
namespace VF
open PySem L2
section
def K5(g:D->Se D->Sf (Rz×D))(i:Nat)(dds:Se D)(fr:FA):FE:=λst=>(st[i]?).bind λs0=>(s0.ow).bind λ_=>(fr st).bind λx=>(dP x.1 x.2).bind λy=>(y.2[i]?).bind λs=>(s.ow).bind λd=>(g d<|y.1++dds).bind λz=>some (mk z.1,y.2.set i<|s.put z.2)
def Hq(hd:∀Y H,El K Y H dvs dds)(hr:TB K tr fr):SO K (MF (lZ K g) dvs<|gE (xi i) tr) (K5 g i dds fr):=by
 walk_at "o";refine SK h λs0 f1 h=>(SK h λx0 f2 h=>(SN h λrs V1 e1 h=>(SN h λds V4 e2 h=>(SK h λs e3 h=>(SK h λx e4 h=>(SN h λz x' e5 h=>?_))))));cases h;obtain⟨p,g1,_,_⟩:=E.own i s0 x0 f1 f2;refine⟨.ref p,g1,(hr st σ H O Z _ E rs V1 e1 λvs H1 O1 x1 k1 E1 rvs=>?_)⟩;walk_at "c";exact oA E2 e3 e4 g1 (el.app<|hd _ _) e5 λv H' O' ex kk E' rv w=>q v H' O' ((x1.trans x2).trans ex) ((k1.trans k2).trans kk) E' rv<|w.back<|x1.trans x2
def eN{X:Cx}(hg:Gl X x)(hm:X.mg x=none)(hv:bootBuiltins x=some (.type T))(hn:x≠"__name__":=by decide)(hd:(x == ("__debug__":Str))=false:=by decide):PE X (.Name x pos) (tC<|.ty T):=Ke hg hm hv rfl hn hd
def zk(K:Ab):Sp:=λvs H Q _=>∃(a:Sk)(ns:Se Int),vs=[.ref a]/\SW K H a (ns.map V.int)/\ns.length<=63/\∀H',Q (.bl true) H'
end
inductive Dp:Nat->D->Prop where
 | bl (n:Nat) (b:Bool):Dp (n+1) (.bl b)
 | int (n:Nat) (i:Int):Dp (n+1) (.int i)
 | str (n:Nat) (x:Str):Dp (n+1) (.str x)
 | non (n:Nat):Dp (n+1) .non
 | tup {n:Nat} {ds:List D}:ds.length<=1000000->(∀d∈ds,Dp n d)->Dp (n+1) (.tup ds)
 | lst {n:Nat} {ds:List D}:ds.length<=1000000->(∀d∈ds,Dp n d)->Dp (n+1) (.lst ds)
open Classical in
def dQ(n:Nat):Se D->Sf Rz
 |[u,v]=>if u=v/\Dp n u then some (.bl true,false) else none
 |_=>none
open Classical in
def qm(h:Dp n u):dQ n [u,u]=some (.bl true,false):=by
 show(if u=u/\Dp n u then some (D.bl true,false) else none)=_;rw[Ag ⟨rfl,h⟩]
def sH(h:dQ n ds=some z):∃u,ds=[u,u]/\Dp n u/\z=(.bl true,false):=by
 unfold dQ at h;split at h
 ·rename_i u v
  by_cases c:u=v/\Dp n u
  ·rw[Ag c]at h;obtain⟨rfl,c⟩:=c;exact⟨u,rfl,c,(Option.some.inj h).symm⟩
  ·rw[Ak c]at h;cases h
 ·cases h
section
variable {st V1 V4 Wq s s1 s2:En}{d d1 d2 x y x':D}{ds es:Se D}
def aj(h:F st=some (.nx s))(h2:G s=a):aH F G st=a:=by simp only[aH,h,Xb];exact h2
def gK(h:F st=some (.rt r s)):aH F G st=some (.rt r s):=by simp only[aH,h,Xb]
def eO(h:f st=some (true,s))(h2:F s=a):SV f F G st=a:=by simp only[SV,h,Xb,if_true];exact h2
def dm(h:f st=some (false,s))(h2:G s=a):SV f F G st=a:=by simp only[SV,h,Xb,Wf,if_false];exact h2
def cO(h:fe st=some (.d x,s))(h2:rF i (.v x) s=some s1):bc fe i st=some (.nx s1):=by simp only[bc,h,Xb,h2]
def fj(h:fe st=some (.f x,s))(h2:rF i (.o x) s=some s1):bc fe i st=some (.nx s1):=by simp only[bc,h,Xb,h2]
def bM(h:fe st=some (r,s)):bY fe st=some (.nx s):=by simp only[bY,h,Xb]
def aO(h:fe st=some (r,s)):bx fe st=some (.rt r s):=by simp only[bx,h,Xb]
def ay(h1:fa st=some (r1,s1))(h2:fb s1=some (r2,s2))(h3:cont s2 r1=some d1)(h4:cont s2 r2=some d2)(h5:b d1 d2=some z)(hz:mk z=r:=by rfl):Sy b fa fb st=some (r,s2):=by
 simp only[Sy,h1,h2,h3,h4,h5,hz,Xb]
def af(h1:fa st=some (r,s1))(h2:fr s1=some (rs,s2)):aa fa fr st=some (r::rs,s2):=by simp only[aa,h1,h2,Xb]
def aL(h1:fr st=some (rs,s1))(h2:eM s1 rs=some ds)(h3:b ds=some z)(hz:mk z=r:=by rfl):SF b fr st=some (r,s1):=by simp only[SF,h1,h2,h3,hz,Xb]
def aT(h1:fr st=some (rs,s1))(h2:dP rs s1=some (ds,s2))(h3:b ds=some z)(hz:mk z=r:=by rfl):bj b fr st=some (r,s2):=by simp only[bj,h1,h2,h3,hz,Xb]
def aY(h1:fr st=some (rs,s1))(h2:eM s1 rs=some ds)(h3:b ds=some (d,false))(h4:d.isSc=true):aX b fr st=some (.d d,s1):=by
 simp only[aX,h1,h2,h3,Xb,h4];rfl
def cC{t t0:Sl}(h0:st[i]?=some t0)(h00:t0.ow=some x0)(h1:fr st=some (rs,s1))(h2:dP rs s1=some (ds,s2))(h3:s2[i]?=some t)(h4:t.ow=some x)(h5:b x ds=some (z,x'))(hz:mk z=r:=by rfl)(h6:s2.set i (t.put x')=Wq:=by rfl):S5 b i fr st=some (r,Wq):=by
 simp only[S5,h0,h00,h1,h2,h3,h4,h5,h6,hz,Xb]
def OH{t t0:Sl}(h0:st[i]?=some t0)(h00:t0.ow=some x0)(h1:fr st=some (rs,s1))(h2:dP rs s1=some (ds,s2))(h3:s2[i]?=some t)(h4:t.ow=some x)(h5:b x (ds++es)=some (z,x'))(hz:mk z=r:=by rfl)(h6:s2.set i (t.put x')=Wq:=by rfl):K5 b i es fr st=some (r,Wq):=by
 simp only[K5,h0,h00,h1,h2,h3,h4,h5,h6,hz,Xb]
def eY{t t0:Sl}(h0:st[i]?=some t0)(h00:t0.ow=some x0)(hk:ok x0=true)(h1:fr st=some (rs,s1))(h2:dP rs s1=some (ds,s2))(h3:s2[i]?=some t)(h4:t.ow=some x)(h5:mm x ds=some (y,x'))(h6:s2.set i (t.put x')=Wq:=by rfl):fM ok mm i fr st=some (.d y,Wq):=by
 simp only[fM,h0,h00,hk,h1,h2,h3,h4,h5,h6,Xb,if_true]
def aI(h:fe st=some (r,s))(h2:Uj s r=some c):aC fe st=some (c,s):=by simp only[aC,h,h2,Xb]
def kf(h:f st=some (c,s)):gI f st=some (!c,s):=by simp only[gI,h,Xb]
def sI(h:f st=some (true,s))(h2:g s=a):lO f g st=a:=by simp only[lO,h,Xb,if_true];exact h2
def MV(h:f st=some (false,s)):lO f g st=some (false,s):=by simp only[lO,h,Xb,Wf,if_false]
def rJ(h:f st=some (false,s))(h2:g s=a):mW f g st=a:=by simp only[mW,h,Xb,Wf,if_false];exact h2
def jh(h:fa st=some (r,s))(h1:Uj s r=some true)(h2:fb s=a):iV fa fb st=a:=by simp only[iV,h,h1,Xb,if_true];exact h2
def cb(h1:fi st=some (ds,s1))(h2:(t8 VW s1.length&&decide (ds.length<=1000000))=true)(h3:cA fg fc fe k ds (lL k VW s1)=some (es,s2))(h4:wb VW (s2.drop k) s1=Wq:=by rfl):dr k VW fi fg fc fe st=some (.f<|.lst es,Wq):=by
 simp only[dr,h1,Xb];rw[Ag h2,h3,<-h4];rfl
def cY(h1:fi st=some (ds,s1))(h2:eZ fg B ds s1=some o):fP fi fg B st=some o:=by simp only[fP,h1,Xb];exact h2
def aN(h0:ds.length=m)(h1:F (jf n ds)=some o)(h2:fin o=some z):bp F n m ds=some z:=by
 simp only[bp,Ag h0,h1,Xb];exact h2
def de(h0:ds.length+1=m)(h1:F (iG n x ds)=some o)(h2:MO o=some w):dF F n m x ds=some w:=by
 simp only[dF,Ag h0,h1,Xb];exact h2
theorem nV(h:D->D):∀(items:Se D)(sb:En),(∀x∈items,∃s1 s2 y s3 s4,fg x sb=some s1/\fc s1=some (true,s2)/\fe s2=some (y,s3)/\esc y s3=some (h x,s4)/\Tj k s4=sb)->cA fg fc fe k items sb=some (items.map h,sb)
 |[],sb,_=>rfl
 | x::r,sb,hh=>by
  obtain⟨s1,s2,y,s3,s4,e1,e2,e3,e4,e5⟩:=hh x Zc;have ih:=nV h r sb λz hz=>hh z<|Wb _ hz;simp only[cA,e1,e2,e3,e4,Xb,if_true,e5,ih,Wh]
theorem sJ(I:Se D->En->Prop)(step:∀(pre:Se D)(x:D)(sb:En),I pre sb->∃s1 s2 y s3 d s4,fg x sb=some s1/\fc s1=some (true,s2)/\fe s2=some (y,s3)/\esc y s3=some (d,s4)/\I (pre++[d]) (Tj k s4)) :
  ∀(items:Se D)(pre:Se D)(sb:En),I pre sb->∃ds sf,cA fg fc fe k items sb=some (ds,sf)/\ds.length=items.length/\I (pre++ds) sf
 |[],pre,sb,h=>⟨[],sb,rfl,rfl,by rw[We];exact h⟩
 | x::r,pre,sb,h=>by
  obtain⟨s1,s2,y,s3,d,s4,e1,e2,e3,e4,e5⟩:=step pre x sb h;obtain⟨ds,sf,e6,e7,e8⟩:=sJ I step r (pre++[d]) (Tj k s4) e5;refine⟨d::ds,sf,?_,by simp[e7],by rw[Yd]at e8;exact e8⟩
  simp only[cA,e1,e2,e3,e4,Xb,if_true,e6]
theorem ue(I:Nat->En->Prop)(Out:En->Prop)(step:∀(m:Nat)(st:En),I m st->(∃s1,f st=some (false,s1)/\Out s1)\/∃s1 s2 m',f st=some (true,s1)/\B s1=some (.nx s2)/\m'<m/\I m' s2) :
  ∀(n m:Nat)(st:En),m<n->I m st->∃sf,TC f B n st=some (.nx sf)/\Out sf
 |0,m,st,hn,_=>absurd hn<|Nat.not_lt_zero _
 | n+1,m,st,hn,h=>by
  rcases step m st h with⟨s1,e1,ho⟩|⟨s1,s2,m',e1,e2,hm,h2⟩
  ·exact⟨s1,by simp only[TC,e1,Xb,Wf,if_false],ho⟩
  ·obtain⟨sf,e3,ho⟩:=ue I Out step n m' s2 (by lia) h2
   exact⟨sf,by simp only[TC,e1,e2,Xb,if_true];exact e3,ho⟩
end
def ix_str{z:Str}(hz:z.length<=1000000)(h:Tb z.cps.toList i=some c):SA (.str z) (.int i)=some (.str ⟨#[c]⟩,false):=by
 have e1:GZ (.str z) (.int i)=none:=rfl;have e2:KQ (.str z) (.int i)=none:=rfl;have e3:Oj (.str z) (.int i)=some (.str ⟨#[c]⟩,false):=by
  show(if z.length<=1000000 then(Tb z.cps.toList i).bind (λc=>some (D.str ⟨#[c]⟩,false)) else none)=_;rw[Ag hz,h];rfl
 unfold SA S6;rw[e1,e2];exact e3
def pE{a b:Str}(h:a.length+b.length<=1000000):cK (.str a) (.str b)=some (.str<|a++b,false):=by
 have e1:sA (.str a) (.str b)=none:=rfl;have e2:sB (.str a) (.str b)=some (.str<|a++b,false):=by
  show(if a.length+b.length<=1000000 then some (D.str<|a++b,false) else none)=_;rw[Ag h]
 unfold cK S6;rw[e1,e2]
def uf{a:Str}(h:0<=n/\n<=1000/\a.length<=1000):mZ (.str a) (.int n)=some (.str<|Txt.mul a n,false):=by
 have e1:yZ (.str a) (.int n)=none:=rfl;have e2:GW (.str a) (.int n)=some (.str<|Txt.mul a n,false):=by
  show(if 0<=n/\n<=1000/\a.length<=1000 then some (D.str<|Txt.mul a n,false) else none)=_;rw[Ag h]
 unfold mZ S6;rw[e1,e2]
theorem ji:∀xs:Se Str,iH (xs.map D.str)=some xs
 |[]=>rfl
 | x::r=>by
  show(iH<|r.map D.str).bind (λxs=>some (x::xs))=_;rw[ji r];rfl
theorem sK:∀xs:Se Str,sD (xs.map D.str)=some (xs.map V.str)
 |[]=>rfl
 | x::r=>by
  show(sD<|r.map D.str).bind (λvs=>some (V.str x::vs))=_;rw[sK r];rfl
theorem sL:∀n:Nat,m5 (List.replicate n<|D.bl true)=some (List.replicate n true)
 |0=>rfl
 | n+1=>by
  show(m5<|List.replicate n<|D.bl true).bind (λbs=>some (true::bs))=_;rw[sL n];rfl
def ki(n:Nat):qk [.lst<|List.replicate n<|D.bl true]=some (.bl true,false):=by
 show(m5<|List.replicate n<|D.bl true).bind (λbs=>some (D.bl<|bs.all id,false))=_;rw[sL];show some (D.bl<|(List.replicate n true).all id,false)=_;have:(List.replicate n true).all id=true:=by
  rw[Vj];intro b hb;exact DL hb
 rw[this]
def MW{xs:Se Str}:TY (.str x) (.lst<|xs.map D.str)=some (.bl<|decide<|x∈xs,false):=by
 have e1:GX false (.str x) (.lst<|xs.map D.str)=none:=rfl;have e2:KP false (.str x) (.lst<|xs.map D.str)=some (.bl<|decide<|x∈xs,false):=by
  show(sD<|xs.map D.str).bind (λws=>some (D.bl<|Ud (.str x) ws,false))=_;rw[sK];show some (D.bl<|Ud (.str x)<|xs.map V.str,false)=_;have e:Ud (.str x) (xs.map V.str)=decide (x∈xs):=by
   unfold Ud;rw[DW];induction xs with
   |nil=>rfl
   |cons y r ih=>
    rw[BI,ih rfl];show((y == x)||decide (x∈r))=_;by_cases e:y=x
    ·subst e;simp
    ·have e':¬ x=y:=λz=>e z.symm;simp[e,e']
  rw[e]
 unfold TY S6;rw[e1];exact e2
def Hr{z:Str}(h:z.length<=1000000):Tl (.str z) lo hi=some (.str<|Txt.slice z lo hi,false):=by
 have e1:EW (.str z) lo hi=none:=rfl;have e2:oX (.str z) lo hi=none:=rfl;have e3:G0 (.str z) lo hi=some (.str<|Txt.slice z lo hi,false):=by
  show(if z.length<=1000000 then some (D.str<|Txt.slice z lo hi,false) else none)=_;rw[Ag h]
 unfold Tl TU;rw[e1,e2];exact e3
section
variable {ds:Se D}
def Hs(h1:fo st=some (r1,s1))(h2:cont s1 r1=some d0)(h3:On T d0=true)(h4:fa s1=some (rs,s2))(h5:cont s2 r1=some d)(h6:eM s2 rs=some ds)(h7:b d ds=some z)(hz:mk z=r:=by rfl):Um T b fo fa st=some (r,s2):=by
 simp only[Um,h1,h2,h3,h4,h5,h6,h7,hz,Xb,if_true]
def fD{j:Int}(h1:fa st=some (rs,s1))(h2:eM s1 rs=some [.int j])(h3:-(2 ^ 62)<=j/\j<2 ^ 62):nQ fa st=some (rng 0 j.toNat,s1):=by
 simp only[nQ,h1,h2,Xb,N3];rw[Ag h3]
def oB(h1:fe st=some (r,s1))(h2:fl s1=some (lo,s2))(h3:fh s2=some (hi,s3))(h4:cont s3 r=some d)(h5:b d lo hi=some z)(hz:mk z=r':=by rfl):Tv b fe fl fh st=some (r',s3):=by
 simp only[Tv,h1,h2,h3,h4,h5,hz,Xb]
def m6{f:FT}{fa fb:FE}{a:Sf (Rs×En)}(h:f st=some (true,s))(h2:fa s=a):Tn f fa fb st=a:=by simp only[Tn,h,Xb,if_true];exact h2
def oC{f:FT}{fa fb:FE}{a:Sf (Rs×En)}(h:f st=some (false,s))(h2:fb s=a):Tn f fa fb st=a:=by simp only[Tn,h,Xb,Wf,if_false];exact h2
def vW(h1:fe st=some (r,s1))(h2:esc r s1=some (.lst ds,s2)):S7 fe st=some (ds,s2):=by
 have:Uv fe st=some (ds,s2):=by simp only[Uv,h1,h2,Xb,D.its]
 unfold S7;rw[this]
def dS(h1:fe st=some (r,s1))(h2:esc r s1=some (.tup ds,s2)):S7 fe st=some (ds,s2):=by
 have e1:Uv fe st=none:=by simp only[Uv,h1,h2,Xb,D.its,Option.bind_none]
 have e2:UV fe st=some (ds,s2):=by simp only[UV,h1,h2,Xb,D.itt]
 unfold S7;rw[e1,e2]
def K6(h1:fe st=some (r,s1))(h2:cont s1 r=some (.tup ds)):zj fe st=some (ds.reverse,s1):=by
 simp only[zj,h1,h2,Xb,D.itt]
def bB(h1:fa st=some (rs,s1))(h2:dP rs s1=some (ds,s2))(h3:ds.length<=1000000):bU fa st=some (.d<|.tup ds,s2):=by
 simp only[bU,h1,h2,Xb];rw[Ag h3]
end
theorem qo(all:Se D)(I:Se D->En->Prop)(step:∀(gone:Se D)(x:D)(rest:Se D)(st:En),all=gone++x::rest->I gone st->∃s1 s2,fg x st=some s1/\B s1=some (.nx s2)/\I (gone++[x]) s2) :
  ∀(items gone:Se D)(st:En),all=gone++items->I gone st->∃sf,eZ fg B items st=some (.nx sf)/\I all sf
 |[],gone,st,ha,h=>⟨st,rfl,by rw[ha,We];exact h⟩
 | x::r,gone,st,ha,h=>by
  obtain⟨s1,s2,e1,e2,e3⟩:=step gone x r st ha h;obtain⟨sf,e4,e5⟩:=qo all I step r (gone++[x]) s2 (by rw[Yd];exact ha) e3
  refine⟨sf,?_,e5⟩;simp only[eZ,e1,e2,Xb];exact e4
theorem sM(all:Se D)(I:Se D->Se D->En->Prop)(step:∀(gone:Se D)(x:D)(rest pre:Se D)(sb:En),all=gone++x::rest->I gone pre sb->∃s1 s2 y s3 d s4,fg x sb=some s1/\fc s1=some (true,s2)/\fe s2=some (y,s3)/\esc y s3=some (d,s4)/\I (gone++[x]) (pre++[d]) (Tj k s4)) :
  ∀(items gone pre:Se D)(sb:En),all=gone++items->I gone pre sb->∃ds sf,cA fg fc fe k items sb=some (ds,sf)/\I all (pre++ds) sf
 |[],gone,pre,sb,ha,h=>⟨[],sb,rfl,by rw[ha,We,We];exact h⟩
 | x::r,gone,pre,sb,ha,h=>by
  obtain⟨s1,s2,y,s3,d,s4,e1,e2,e3,e4,e5⟩:=step gone x r pre sb ha h;obtain⟨ds,sf,e6,e8⟩:=sM all I step r (gone++[x]) (pre++[d]) (Tj k s4) (by rw[Yd];exact ha) e5
  refine⟨d::ds,sf,?_,by rw[Yd]at e8;exact e8⟩
  simp only[cA,e1,e2,e3,e4,Xb,if_true,e6]
section
def b1(g:D->Sf D):Se D->Sf Rz|[d]=>(g d).map λr=>(r,false)|_=>none
theorem OJ(h:∀(Y:AS)(H:Hp)(v:V)(d o:D)(Q:VK),BA K Y H v d->g d=some o->(∀u,DA K Y H u o->Q u H)->r [v] H Q):WC K r (b1 g):=by
 walk_at "7";cases bs with
 |nil=>cases e
 |@cons v vs d ds c1 bs=>
  cases bs with
  |cons _ _=>cases e
  |nil=>
   obtain⟨o,eo,rfl⟩:=Wd.mp e;exact h Y H v d o Q c1 eo λu hu=>q u H (VZ.refl H) hu
def OK:D->Sf D|.int i=>some (.int i)|.bl k=>some (.int (if k then 1 else 0))|_=>none
theorem K7:WC K (λxs H Q=>(∃i,xs=[.int i]/\Q (.int i) H)\/∃k,xs=[.bl k]/\Q (.int (if k then 1 else 0)) H) (b1 OK):=OJ λY H v d o Q c e q=>by
 cases d with|int i=>cases e;exact .inl ⟨i,by rw[show v=V.int i from c],q _<|.int _⟩|bl k=>cases e;exact .inr ⟨k,by rw[show v=V.bl k from c],q _<|.int _⟩|_=>cases e
end
inductive Pl:Nat->D->Prop where
 | non (n:Nat):Pl (n+1) .non
 | int (n:Nat) (i:Int):Pl (n+1) (.int i)
 | str (n:Nat) (x:Str):Pl (n+1) (.str x)
 | tup {n:Nat} {ds:List D}:(∀d∈ds,Pl n d)->Pl (n+1) (.tup ds)
 | lst {n:Nat} {ds:List D}:(∀d∈ds,Pl n d)->Pl (n+1) (.lst ds)
inductive RH(h:Heap):Value->D->Prop where
 | non:RH h .none .non
 | int (i:Int) (t:Tok):RH h (.int i t) (.int i)
 | str (x:Str) (t:Tok):RH h (.str x t) (.str x)
 | tup {a:Addr} {its:List Value} {ds:List D}:h.IsTuple a its.toArray->its.length=ds.length->(∀(i:Nat) u d,its[i]?=some u->ds[i]?=some d->RH h u d)->RH h (.ref a) (.tup ds)
 | lst {a:Addr} {its:List Value} {ds:List D}:h.IsList a its.toArray->its.length=ds.length->(∀(i:Nat) u d,its[i]?=some u->ds[i]?=some d->RH h u d)->RH h (.ref a) (.lst ds)
section
variable {X:Cx}{s:Si}
theorem Pl.up(h:Pl n d):Pl (n+1) d:=by
 induction h with|non n=>exact .non _|int n i=>exact .int _ i|str n x=>exact .str _ x|tup _ ih=>exact .tup ih|lst _ ih=>exact .lst ih
theorem dw:∀{vs:Se V}{us:Se Sh},V0 vs us->∀(i:Nat) u,us[i]?=some u->∃v,vs[i]?=some v/\RelV v u
 |_,_,.nil,i,u,h=>by simp at h
 | v::_,w::_,.cons r rs,0,u,h=>by
  have e:w=u:=by simpa using h
  exact⟨v,rfl,e ▸ r⟩
 | _::_,_::_,.cons r rs,i+1,u,h=>by
  obtain⟨v,h1,h2⟩:=dw rs i u (by simpa using h)
  exact⟨v,by simpa using h1,h2⟩
theorem DA.rh(h:DA K Y H v d)(p:Pl n d)(I:Inv X VU σ H s)(hK:X.K=K):∀{u:Sh},RelV v u->RH s.heap u d:=by
 induction h generalizing n with
 |non=>intro u r;cases r;exact .non
 |bl b=>cases p
 |int i=>intro u r;obtain⟨t,rfl⟩:=r;exact .int i t
 |str x=>intro u r;obtain⟨t,rfl⟩:=r;exact .str x t
 |ty n=>cases p
 |fl _ _ _ _=>cases p
 |dk _ _ _ _ _=>cases p
 |dt _ _ _ _ _ _=>cases p
 |@tup a vs ds h1 h2 h3 ih=>
  intro u r;cases r;cases p with
  |tup p=>
   obtain⟨its,r,t,_⟩:=I.tuple<|hK ▸ h1.sq;refine .tup t (r.length.symm.trans h2) λi u d e1 e2=>?_;walk_at "m";exact ih i v d e3 e2 (p d<|Va e2) rv
 |@lst a vs ds h0 h1 h2 h3 ih=>
  intro u r;cases r;cases p with
  |lst p=>
   obtain⟨its,r,t,_⟩:=I.list<|show SW X.K H a vs from .inl (.inl h1);refine .lst t.isList (r.length.symm.trans h2) λi u d e1 e2=>?_;walk_at "m";exact ih i v d e3 e2 (p d<|Va e2) rv
theorem BA.rh(h:BA K Y H v d)(p:Pl n d)(I:Inv X VU σ H s)(hK:X.K=K)(ru:RelV v u):RH s.heap u d:=by
 cases p with
 |non=>cases (show v=.non from h);cases ru;exact .non
 |int _ i=>cases (show v=.int i from h);obtain⟨t,rfl⟩:=ru;exact .int i t
 |str _ x=>cases (show v=.str x from h);obtain⟨t,rfl⟩:=ru;exact .str x t
 |tup p=>
  obtain⟨a,vs,rfl,h1,el⟩:=h;cases ru;obtain⟨its,r,t,_⟩:=I.tuple<|hK ▸ h1.sq;refine .tup t (r.length.symm.trans el.1) λi u d e1 e2=>?_;walk_at "m";walk_at "M"
 |lst p=>
  obtain⟨a,vs,rfl,h1,el⟩:=h;cases ru;obtain⟨its,r,t,_⟩:=I.list<|show SW X.K H a vs from .inl (.inl h1);refine .lst t.isList (r.length.symm.trans el.1) λi u d e1 e2=>?_;walk_at "m";walk_at "M"
def Fc{h:Sv}(h1:h.IsTuple a x)(h2:h.IsTuple a y):x=y:=by
 obtain⟨o,e1,_,n,d1⟩:=h1;obtain⟨o',e2,_,n',d2⟩:=h2;rw[e1]at e2;cases e2;rw[d1]at d2;cases d2;rfl
def xG{h:Sv}(h1:h.IsList a x)(h2:h.IsList a y):x=y:=by
 obtain⟨o,e1,_,n,d1⟩:=h1;obtain⟨o',e2,_,n',d2⟩:=h2;rw[e1]at e2;cases e2;rw[d1]at d2;cases d2;rfl
def vX{h:Sv}(h1:h.IsList a x)(h2:h.IsTuple a y):False:=by
 obtain⟨o,e1,c1,_⟩:=h1;obtain⟨o',e2,c2,_⟩:=h2;rw[e1]at e2;cases e2;rw[c1]at c2;injection c2 with c2;exact absurd c2 (by decide)
theorem RH.inj(r:RH h u d):∀{d':D},RH h u d'->d=d':=by
 induction r with
 |non=>intro d' r';cases r';rfl
 |int i t=>intro d' r';cases r';rfl
 |str x t=>intro d' r';cases r';rfl
 |@tup a its ds t hl _ ih=>
  intro d' r';cases r' with
  |@tup _ its' ds' t' hl' f=>
   have e:its=its':=by simpa using Fc t t'
   subst e;have:ds=ds':=by
    exact BF (hl.symm.trans hl') λi h1 h2=>(ih i its[i] ds[i] (Za<|by lia) (Za h1)<|f i its[i] ds'[i] (Za<|by lia)<|Za h2)
   rw[this]
  |lst t' _ _=>exact(vX t' t).elim
 |@lst a its ds t hl _ ih=>
  intro d' r';cases r' with
  |@lst _ its' ds' t' hl' f=>
   have e:its=its':=by simpa using xG t t'
   subst e;have:ds=ds':=by
    exact BF (hl.symm.trans hl') λi h1 h2=>(ih i its[i] ds[i] (Za<|by lia) (Za h1)<|f i its[i] ds'[i] (Za<|by lia)<|Za h2)
   rw[this]
  |tup t' _ _=>exact(vX t t').elim
open Classical in
def Ht{xs ys:Se D}(h:xs.length=ys.length):((List.range xs.length).all λj=>decide<|xs[j]?=ys[j]?)=decide (xs=ys):=by
 rw[Xf,Vj,decide_eq_true_eq];constructor
 ·intro e;refine B4 λj=>?_;by_cases hj:j<xs.length
  ·exact An<|e j<|Zn.mpr hj
  ·rw[Zm<|by lia,Zm<|by lia]
 ·rintro rfl j _;exact Af rfl
open Classical in
def eq3{d1 d2:D}{u1 u2:Sh}{A:Around}(h:¬ d1=d2)(a:SeqAt.EqAt A s u1 u2 false)(b:SeqAt.RcAt A s u1 u2 false)(c:SeqAt.RcNeAt A s u1 u2 true) :
  SeqAt.EqAt A s u1 u2 (decide<|d1=d2)/\SeqAt.RcAt A s u1 u2 (decide<|d1=d2)/\SeqAt.RcNeAt A s u1 u2 (!decide (d1=d2)):=by
 rw[Ae h];exact⟨a,b,c⟩
open Classical in
def Vz{s:Si}{its its':Se Sh}{ds ds':Se D}(hl:its.length=ds.length)(hl':its'.length=ds'.length)(f:∀(j:Nat) u d,its[j]?=some u->ds[j]?=some d->RH s.heap u d)(f':∀(j:Nat) u d,its'[j]?=some u->ds'[j]?=some d->RH s.heap u d)(p1:∀d∈ds,Pl n d)(p2:∀d∈ds',Pl n d)
  (ih:∀{d1 d2:D}{u1 u2:Sh},Pl n d1->Pl n d2->RH s.heap u1 d1->RH s.heap u2 d2->SeqAt.EqAt A s u1 u2 (decide<|d1=d2))(j:Nat)(h1:j<its.toArray.size)(h2:j<its'.toArray.size):SeqAt.EqAt A s its.toArray[j] its'.toArray[j] (decide<|ds[j]?=ds'[j]?):=by
 have h1':j<its.length:=by simpa using h1
 have h2':j<its'.length:=by simpa using h2
 have e1:ds[j]?=some ds[j]:=Za<|hl ▸ h1';have e2:ds'[j]?=some ds'[j]:=Za<|hl' ▸ h2';have z:=ih (p1 _<|Va e1) (p2 _<|Va e2) (f j its[j] _ (Za h1') e1)<|f' j its'[j] _ (Za h2') e2;have e:decide (ds[j]?=ds'[j]?)=decide (ds[j]=ds'[j]):=by rw[e1,e2,Xf];simp
 rw[e];exact z
open Classical in
def RH.eqAt:∀(n:Nat){s:Si}{d1 d2:D}{u1 u2:Sh}{A:Around},Pl n d1->Pl n d2->RH s.heap u1 d1->RH s.heap u2 d2->A.units+n<cLine->
  SeqAt.EqAt A s u1 u2 (decide<|d1=d2)/\SeqAt.RcAt A s u1 u2 (decide<|d1=d2)/\SeqAt.RcNeAt A s u1 u2 (!decide (d1=d2)):=by
 intro n;induction n with
 |zero=>intro s d1 d2 u1 u2 A p;cases p
 |succ n ih=>
  intro s d1 d2 u1 u2 A p1 p2 r1 r2 hu;have hu':A.units<cLine:=by lia
  cases r1 with
  |non=>
   cases r2 with|non=>rw[Af rfl];exact⟨SeqAt.EqAt.same _,SeqAt.RcAt.none_none,SeqAt.RcNeAt.none_none⟩|int i t=>exact eq3 (by intro z;cases z) (SeqAt.EqAt.none_int _ _) (SeqAt.RcAt.none_int _ _) (SeqAt.RcNeAt.none_int _ _)|str x t=>exact eq3 (by intro z;cases z) (SeqAt.EqAt.none_str _ _) (SeqAt.RcAt.none_str _ _) (SeqAt.RcNeAt.none_str _ _)|tup t _ _=>exact eq3 (by intro z;cases z) (SeqAt.EqAt.none_tuple t hu') (SeqAt.RcAt.none_tuple t hu') (SeqAt.RcNeAt.none_tuple t hu')|lst t _ _=>exact eq3 (by intro z;cases z) (SeqAt.EqAt.none_list t hu') (SeqAt.RcAt.none_list t hu')<|SeqAt.RcNeAt.none_list t hu'
  |int i t=>
   cases r2 with
   |non=>exact eq3 (by intro z;cases z) (SeqAt.EqAt.int_none _ _) (SeqAt.RcAt.int_none _ _)<|SeqAt.RcNeAt.int_none _ _
   |int j t'=>
    have e:decide (D.int i=D.int j)=(i == j):=by rw[Xf];simp
    rw[e];exact⟨SeqAt.EqAt.int_int _ _ _ _,SeqAt.RcAt.int_int _ _ _ _,SeqAt.RcNeAt.int_int _ _ _ _⟩
   |str x t'=>exact eq3 (by intro z;cases z) (CU _ _ _ _) (SeqAt.RcAt.int_str _ _ _ _)<|SeqAt.RcNeAt.int_str _ _ _ _
   |tup t' _ _=>exact eq3 (by intro z;cases z) (SeqAt.EqAt.int_tuple _ _ t' hu') (SeqAt.RcAt.int_tuple _ _ t' hu')<|SeqAt.RcNeAt.int_tuple _ _ t' hu'
   |lst t' _ _=>exact eq3 (by intro z;cases z) (SeqAt.EqAt.int_list _ _ t' hu') (SeqAt.RcAt.int_list _ _ t' hu')<|SeqAt.RcNeAt.int_list _ _ t' hu'
  |str x t=>
   cases r2 with
   |non=>exact eq3 (by intro z;cases z) (SeqAt.EqAt.str_none _ _) (SeqAt.RcAt.str_none _ _)<|SeqAt.RcNeAt.str_none _ _
   |int j t'=>exact eq3 (by intro z;cases z) (CT _ _ _ _) (SeqAt.RcAt.str_int _ _ _ _)<|SeqAt.RcNeAt.str_int _ _ _ _
   |str y t'=>
    have e:decide (D.str x=D.str y)=(x == y):=by rw[Xf];simp
    rw[e];exact⟨SeqAt.EqAt.str_str _ _ _ _,SeqAt.RcAt.str_str _ _ _ _,SeqAt.RcNeAt.str_str _ _ _ _⟩
   |tup t' _ _=>exact eq3 (by intro z;cases z) (SeqAt.EqAt.str_tuple _ _ t' hu') (SeqAt.RcAt.str_tuple _ _ t' hu')<|SeqAt.RcNeAt.str_tuple _ _ t' hu'
   |lst t' _ _=>exact eq3 (by intro z;cases z) (SeqAt.EqAt.str_list _ _ t' hu') (SeqAt.RcAt.str_list _ _ t' hu')<|SeqAt.RcNeAt.str_list _ _ t' hu'
  |@tup a its ds t hl f=>
   cases r2 with
   |non=>exact eq3 (by intro z;cases z) (SeqAt.EqAt.tuple_none t hu') (SeqAt.RcAt.tuple_none t hu')<|SeqAt.RcNeAt.tuple_none t hu'
   |int j t'=>exact eq3 (by intro z;cases z) (SeqAt.EqAt.tuple_int _ _ t hu') (SeqAt.RcAt.tuple_int _ _ t hu')<|SeqAt.RcNeAt.tuple_int _ _ t hu'
   |str y t'=>exact eq3 (by intro z;cases z) (SeqAt.EqAt.tuple_str _ _ t hu') (SeqAt.RcAt.tuple_str _ _ t hu')<|SeqAt.RcNeAt.tuple_str _ _ t hu'
   |lst t' _ _=>exact eq3 (by intro z;cases z) (SeqAt.EqAt.tuple_list t t' hu') (SeqAt.RcAt.tuple_list t t' hu')<|SeqAt.RcNeAt.tuple_list t t' hu'
   |@tup b its' ds' t' hl' f'=>
    cases p1 with
    |tup p1=>
    cases p2 with
    |tup p2=>
    have it:=Vz (A:=A.in1) hl hl' f f' p1 p2 λq1 q2 q3 q4=>(ih (A:=A.in1) q1 q2 q3 q4 (by show A.units+1+n<cLine;lia)).1
    have e:decide (D.tup ds=D.tup ds')=((List.range<|min its.toArray.size its'.toArray.size).all (λj=>decide<|ds[j]?=ds'[j]?)&&its.toArray.size == its'.toArray.size):=by
     simp only[Xc];by_cases hh:its.length=its'.length
     ·rw[<-hh,Nat.min_self,hl,Ht<|by lia,Xf];simp
     ·have:ds≠ds':=λz=>hh (by rw[hl,hl',z])
      rw[Xf];simp[hh,this]
    have rc:SeqAt.RcAt A s (.ref a) (.ref b) (decide<|D.tup ds=D.tup ds'):=by
     rw[e];exact SeqAt.RcAt.tuples (A:=A) (e:=λj=>decide<|ds[j]?=ds'[j]?) t t' hu' it
    have rn:SeqAt.RcNeAt A s (.ref a) (.ref b) (!decide (D.tup ds=D.tup ds')):=by
     rw[e];exact SeqAt.RcNeAt.tuples (A:=A) (e:=λj=>decide<|ds[j]?=ds'[j]?) t t' hu' it
    refine⟨?_,rc,rn⟩;by_cases hab:a=b
    ·subst hab;have:=RH.inj (RH.tup t hl f)<|RH.tup t' hl' f';rw[this,Af rfl];exact SeqAt.EqAt.same _
    ·exact SeqAt.EqAt.of_refs hab rc
  |@lst a its ds t hl f=>
   cases r2 with
   |non=>exact eq3 (by intro z;cases z) (SeqAt.EqAt.list_none t hu') (SeqAt.RcAt.list_none t hu')<|SeqAt.RcNeAt.list_none t hu'
   |int j t'=>exact eq3 (by intro z;cases z) (SeqAt.EqAt.list_int _ _ t hu') (SeqAt.RcAt.list_int _ _ t hu')<|SeqAt.RcNeAt.list_int _ _ t hu'
   |str y t'=>exact eq3 (by intro z;cases z) (SeqAt.EqAt.list_str _ _ t hu') (SeqAt.RcAt.list_str _ _ t hu')<|SeqAt.RcNeAt.list_str _ _ t hu'
   |tup t' _ _=>exact eq3 (by intro z;cases z) (SeqAt.EqAt.list_tuple t t' hu') (SeqAt.RcAt.list_tuple t t' hu')<|SeqAt.RcNeAt.list_tuple t t' hu'
   |@lst b its' ds' t' hl' f'=>
    cases p1 with
    |lst p1=>
    cases p2 with
    |lst p2=>
    have it:=Vz (A:=A.in1) hl hl' f f' p1 p2 λq1 q2 q3 q4=>(ih (A:=A.in1) q1 q2 q3 q4 (by show A.units+1+n<cLine;lia)).1
    have both:SeqAt.RcAt A s (.ref a) (.ref b) (decide<|D.lst ds=D.lst ds')/\SeqAt.RcNeAt A s (.ref a) (.ref b) (!decide (D.lst ds=D.lst ds')):=by
     by_cases hh:its.length=its'.length
     ·have e:decide (D.lst ds=D.lst ds')=(List.range its.toArray.size).all λj=>decide (ds[j]?=ds'[j]?):=by
       simp only[Xc];rw[hl,Ht<|by lia,Xf];simp
      rw[e];exact⟨SeqAt.RcAt.lists (A:=A) (e:=λj=>decide<|ds[j]?=ds'[j]?) t t' (by simpa using hh) hu' it,SeqAt.RcNeAt.lists (A:=A) (e:=λj=>decide<|ds[j]?=ds'[j]?) t t' (by simpa using hh) hu' it⟩
     ·have:ds≠ds':=λz=>hh (by rw[hl,hl',z])
      rw[Ae (by intro z;cases z;exact this rfl)]
      exact⟨SeqAt.RcAt.lists_lengths t t' (by simpa using hh) hu',Dz t t' (by simpa using hh) hu'⟩
    obtain⟨rc,rn⟩:=both;refine⟨?_,rc,rn⟩;by_cases hab:a=b
    ·subst hab;have:=RH.inj (RH.lst t hl f)<|RH.lst t' hl' f';rw[this,Af rfl];exact SeqAt.EqAt.same _
    ·exact SeqAt.EqAt.of_refs hab rc
open Classical in
def vY(neg:Ss):D->D->Sf Rz:=λa b=>if Pl 40 a/\Pl 40 b then some (.bl (if neg then !decide (a=b) else decide (a=b)),false) else none
open Classical in
def Hu(K:Ab)(neg:Ss):R2:=λx y H Q=>∃(Y:AS)(a b:D),BA K Y H x a/\BA K Y H y b/\Pl 40 a/\Pl 40 b/\Q (.bl (if neg then !decide (a=b) else decide (a=b))) H
def Hv(neg:Ss):V2 K (Hu K neg) (vY neg):=by
 walk_at "0";unfold vY at e;walk_at "5";cases e;exact⟨Y,d1,d2,b1,b2,c.1,c.2,q _ H (VZ.refl H)<|.bl _⟩
def OL(h:X.K=K)(hu:X.A.units+64<cLine):Wx X (compareOp .Eq) (Hu K false):=by
 intro VU s σ H x y v u Q I rx ry ⟨Y,a,b,b1,b2,p1,p2,q⟩;exact(RH.eqAt 40 (A:=X.A) p1 p2 (b1.rh p1 I h rx) (b2.rh p2 I h ry)<|by lia).2.1 _ _ _ _ ⟨.bl _,H,I,rfl,q⟩
def OM(h:X.K=K)(hu:X.A.units+64<cLine):Wx X (compareOp .NotEq) (Hu K true):=by
 intro VU s σ H x y v u Q I rx ry ⟨Y,a,b,b1,b2,p1,p2,q⟩;exact(RH.eqAt 40 (A:=X.A) p1 p2 (b1.rh p1 I h rx) (b2.rh p2 I h ry)<|by lia).2.2 _ _ _ _ ⟨.bl _,H,I,rfl,q⟩
def iI:=S6 S9<|vY false
def kj:=S6 TF<|vY true
def QP(K:Ab):R2:=λx y H Q=>UH x y H Q\/Hu K false x y H Q
def QQ(K:Ab):R2:=λx y H Q=>Ox K x y H Q\/Hu K true x y H Q
def km(h:X.K=K)(hu:X.A.units+64<cLine):Wx X (compareOp .Eq) (QP K):=(Os h hu).or (OL h hu)
def OO:V2 K (QP K) iI:=Xz.or<|Hv false
def uk(h:X.K=K)(hu:X.A.units+64<cLine):Wx X (compareOp .NotEq) (QQ K):=(j9 h hu).or (OM h hu)
def OP:V2 K (QQ K) kj:=XA.or<|Hv true
open Classical in
def Fe(neg:Ss):D->D->Sf Rz:=λa b=>match b.seq with|some ds=>if Pl 40 a/\(∀d∈ds,Pl 40 d) then some (.bl (if neg then !decide (a∈ds) else decide (a∈ds)),false) else none|none=>none
open Classical in
def Hx(K:Ab)(neg:Ss):R2:=λx y H Q=>∃(Y:AS)(a b:D)(ds:Se D),BA K Y H x a/\BA K Y H y b/\b.seq=some ds/\Pl 40 a/\(∀d∈ds,Pl 40 d)/\Q (.bl (if neg then !decide (a∈ds) else decide (a∈ds))) H
def Hy(neg:Ss):V2 K (Hx K neg) (Fe neg):=by
 walk_at "0";unfold Fe at e;split at e
 ·rename_i ds hs
  walk_at "5";cases e;exact⟨Y,d1,d2,ds,b1,b2,hs,c.1,c.2,q _ H (VZ.refl H)<|.bl _⟩
 ·cases e
open Classical in
def qp{ds:Se D}{its:Se Sh}{A:Around}(hl:its.length=ds.length)(f:∀(i:Nat) u d,its[i]?=some u->ds[i]?=some d->RH s.heap u d)(p1:Pl 40 a)(p2:∀d∈ds,Pl 40 d)(r:RH s.heap u a)(hu:A.units+64<cLine) :
  (∀y,y∈its.toArray->SeqAt.EqAt A.in1 s y u (decide<|RH s.heap y a))/\its.toArray.any (λy=>decide<|RH s.heap y a)=decide (a∈ds):=by
 constructor
 ·intro y hy;obtain⟨i,hi,rfl⟩:=Xn.mp (show y∈its by simpa using hy)
  have e1:ds[i]?=some ds[i]:=Za (by lia)
  have ry:=f i its[i] _ (Za hi) e1;have z:=(RH.eqAt 40 (A:=A.in1) (p2 _<|Va e1) p1 ry r (by show A.units+1+40<cLine;lia)).1
  have e:decide (ds[i]=a)=decide (RH s.heap its[i] a):=by
   rw[Xf,decide_eq_true_eq,decide_eq_true_eq];exact⟨λe=>e ▸ ry,λr'=>ry.inj r'⟩
  rw[<-e];exact z
 ·rw[Xf,decide_eq_true_eq];simp only[List.any_toArray,List.any_eq_true,decide_eq_true_eq];constructor
  ·rintro⟨y,hy,ry⟩;obtain⟨i,hi,rfl⟩:=Xn.mp hy;have e1:ds[i]?=some ds[i]:=Za (by lia)
   have:=(f i its[i] _ (Za hi) e1).inj ry;rw[<-this];exact Va e1
  ·intro ha;obtain⟨i,hi,rfl⟩:=Xn.mp ha;exact⟨its[i],Qk _,f i _ _ (Za<|by lia)<|Za hi⟩
def sN{d:D}{ds:Se D}(h:BA K Y H v d)(e:d.seq=some ds)(p:∀x∈ds,Pl 40 x)(I:Inv X VU σ H s)(hK:X.K=K)(ru:RelV v u) :
  ∃a its,u=.ref a/\(s.heap.IsList a (List.toArray its)\/s.heap.IsTuple a its.toArray)/\its.length=ds.length/\∀(i:Nat) u d,its[i]?=some u->ds[i]?=some d->RH s.heap u d:=by
 obtain⟨a,vs,rfl,sq,el⟩:=qj h e;cases ru;have rest:∀{its:Se Sh},V0 vs its->its.length=ds.length/\∀(i:Nat) u d,its[i]?=some u->ds[i]?=some d->RH s.heap u d:=λ{its} r=>by
  refine⟨r.length.symm.trans el.1,λi u d e1 e2=>?_⟩;walk_at "m";walk_at "M"
 rcases sq with sq|sq
 ·obtain⟨its,r,t,_⟩:=I.list<|hK ▸ sq;exact⟨a,its,rfl,.inl t.isList,rest r⟩
 ·obtain⟨its,r,t,_⟩:=I.tuple<|hK ▸ sq;exact⟨a,its,rfl,.inr t,rest r⟩
def OQ(h:X.K=K)(hu:X.A.units+64<cLine):Wx X (compareOp .In) (Hx K false):=by
 intro VU s σ H x y v u Q I rx ry ⟨Y,a,b,ds,b1,b2,hs,p1,p2,q⟩;obtain⟨l,its,rfl,hl,hn,f⟩:=sN b2 hs p2 I h ry;walk_at "w";rcases hl with hl|hl
 ·refine SeqAt.in_listAt _ hl h1 ?_;rw[h2];exact⟨.bl _,H,I,rfl,q⟩
 ·refine Di _ hl h1 ?_;rw[h2];exact⟨.bl _,H,I,rfl,q⟩
def Ff(h:X.K=K)(hu:X.A.units+64<cLine):Wx X (compareOp .NotIn) (Hx K true):=by
 intro VU s σ H x y v u Q I rx ry ⟨Y,a,b,ds,b1,b2,hs,p1,p2,q⟩;obtain⟨l,its,rfl,hl,hn,f⟩:=sN b2 hs p2 I h ry;walk_at "w";rcases hl with hl|hl
 ·refine SeqAt.notIn_listAt _ hl h1 ?_;rw[h2];exact⟨.bl _,H,I,rfl,q⟩
 ·refine SeqAt.notIn_tupleAt _ hl h1 ?_;rw[h2];exact⟨.bl _,H,I,rfl,q⟩
def Hz:=S6 TY<|Fe false
def lw:=S6 me<|Fe true
def QR(K:Ab):R2:=λx y H Q=>Oq K x y H Q\/Hx K false x y H Q
def zm(K:Ab):R2:=λx y H Q=>ub K x y H Q\/Hx K true x y H Q
def OR(h:X.K=K)(hu:X.A.units+64<cLine):Wx X (compareOp .In) (QR K):=(ua h).or (OQ h hu)
def OS:V2 K (QR K) Hz:=Xy.or<|Hy false
def sO(h:X.K=K)(hu:X.A.units+64<cLine):Wx X (compareOp .NotIn) (zm K):=(nS h).or (Ff h hu)
def Fg:V2 K (zm K) lw:=WX.or<|Hy true
end
open PySem.Spec
section
variable {X:Cx}
def ul(hK:X.K=K)(hc:X.calm=true)(h:UG X es t)
  (hn:(assignEach es X.env).length=n:=by rfl)(hst:(assignEach es X.env).findIdx? (·.1)=none:=by rfl):PG X (.Tuple es k pos) (Np K n t):=hK ▸ Nq hc h hn hst
end
section
def HA:FS:=λ_=>none
def HB:Tp K Gb HA:=by
 intro st σ H O Z Dn E o e;cases e
end
section
variable {X:Cx}
def HD(K:Ab):R2:=λx y H Q=>∃a b ys,x=.ref a/\y=.ref b/\S8 K H a []/\S8 K H b ys/\Q (.ref b) H
def K8(h:X.K=K):Wx X (binaryOp .Add) (HD K):=by
 intro VU s σ H x y v u Q I rx ry hh;obtain⟨a,b,ys,rfl,rfl,ha,hb,q⟩:=hh;cases rx;cases ry;subst h;obtain⟨its,r1,p1,_⟩:=I.tuple ha;obtain⟨its2,r2,p2,_⟩:=I.tuple hb;cases r1;obtain⟨⟨cls,dd,data,sl⟩,ho,hc,n,hd⟩:=id p1;obtain⟨⟨cls2,dd2,data2,sl2⟩,ho2,hc2,n2,hd2⟩:=id p2;simp only at hc hd hc2 hd2;subst hc hd hc2 hd2;exact concat_meets ⟨_,ho,rfl⟩ ⟨_,ho2,rfl⟩ Df seq_tuple_add Cg Cb (B7 _ _)
   (PyProof.Rows.tuple_addW0 a b _ _ n n2 dd dd2 sl sl2 rfl) ⟨ho,ho2,.ref b,H,I,rfl,q⟩
def MX:D->D->Sf Rz|.tup [],.tup b=>some (.tup b,false)|_,_=>none
theorem K9:V2 K (HD K) MX:=by
 walk_at "0";cases d1 with
 |tup a=>
  cases a with
  |cons a0 a=>cases e
  |nil=>
   cases d2 with
   |tup b=>
    cases e;walk_at "6";obtain⟨p2,ys,rfl,hp2,el2⟩:=b2;obtain rfl:=el.unnil;exact⟨p,p2,ys,rfl,rfl,hp.sq,hp2.sq,q _ H (VZ.refl H)<|.tup hp2 el2.1 el2.2⟩
   |_=>cases e
 |_=>cases e
def gL:=S6 cK MX
def MY(K:Ab):R2:=λx y H Q=>y9 K x y H Q\/HD K x y H Q
def jj(h:X.K=K):Wx X (binaryOp .Add) (MY K):=(zc h).or (K8 h)
def La:V2 K (MY K) gL:=Xs.or K9
def OT(K:Ab):V->Sf Int->Sf Int->Hp->VK->Prop:=λx lo hi H Q=>∃a xs,x=.ref a/\S8 K H a xs/\(HT.sIx xs.length 0 lo=0/\HT.sIx xs.length xs.length hi=xs.length)/\Q (.ref a) H
end
end VF
namespace HT
open PySem PyProof.Rows
section
variable {s:Si}
def getItem_tuple_all{t sl:Sk}{items:Sj Sh}{vl vu:Sh}{lo hi:Sf Int}{Q:Sh->Si->Prop}(ht:IsTup s.heap t items)(hs:s.heap.IsSliceOf sl vl vu .none)(pl:IsPart vl lo)(pu:IsPart vu hi)
  (hw:sIx items.size 0 lo=0/\sIx items.size items.size hi=items.size)(h:Q (.ref t) s):wpAny (model prog w) A (getItem (.ref t)<|.ref sl) Q E s:=by
 obtain⟨os,hos,hcs,hds⟩:=id hs;have hTs:s.TypeIs (.ref sl) "slice":=⟨os,hos,hcs⟩;unfold getItem
 try with_reducible refine AD ?_
 first|refine Aa (Ad ?_)|skip
 refine Aa<|wpAny_sequenceKey ht.typeIs (by decide) ?_
 refine Aa (Ap (name:=Str.ofString "__getitem__") ht.typeIs AT
  (Aq AT ht.typeIs entry_tuple_getitem ?_ (args_tuple_getitem _ _)))
 show wpAny _ _ (Builtin.Tuple.tupleItemsOf (.ref t) >>= _) _ _ s;refine Aa<|tupleItemsOf_ ht<|Aa<|Bk hTs ?_;rw[Ag<|by decide]
 refine Aa<|iU hs pl pu ?_;have hyes:(((sIx items.size 0 lo:Nat):Int) == 0&&(1:Int) == 1&&(sIx items.size items.size hi-sIx items.size 0 lo) == items.size)=true:=by
  rw[hw.1,hw.2];simp
 show wpAny _ _ (if (((sIx items.size 0 lo:Nat):Int) == 0&&(1:Int) == 1&&(sIx items.size items.size hi-sIx items.size 0 lo) == items.size)=true then _ else _) _ _ s;rw[Ag hyes];unfold Builtin.Tuple.tupleIsExact;refine Aa<|Aa<|Bk ht.typeIs<|Ad ?_;rw[Ag<|by decide]
 exact Aa<|AF<|Ad ⟨_,rfl,Ad h⟩
end
end HT
namespace VF
open PySem L2
section
variable {X:Cx}
def HE(h:X.K=K):Xp X (OT K):=by
 intro VU s σ H x v vl vu lo hi sl Q I rx hs pl pu hh;obtain⟨a,xs,rfl,hx,hw,q⟩:=hh;cases rx;subst h;obtain⟨its,r,ht,hz⟩:=I.tuple hx;have hlen:its.toArray.size=xs.length:=by rw[Xc];exact r.length.symm
 exact⟨"tuple",_,AT.lookup,ht.typeIs,(HT.getItem_tuple_all ht hs pl pu (by rw[hlen];exact hw) ⟨.ref a,H,I,rfl,q⟩)⟩
def Lb:D->Sf Int->Sf Int->Sf Rz|.tup ds,lo,hi=>if HT.sIx ds.length 0 lo=0/\HT.sIx ds.length ds.length hi=ds.length then some (.tup ds,false) else none|_,_,_=>none
theorem QS:WN K (OT K) Lb:=by
 intro Y H x lo hi d1 z Q lv b1 e q;cases d1 with
 |tup a=>
  walk_at "5";cases e;walk_at "6";exact⟨p,xs,rfl,hp.sq,by rw[el.1];exact c,q _ H (VZ.refl H)<|.tup hp el.1 el.2⟩
 |_=>cases e
def rK:=TU Tl Lb
def QT(K:Ab):V->Sf Int->Sf Int->Hp->VK->Prop:=λx lo hi H Q=>Oy K x lo hi H Q\/OT K x lo hi H Q
def um(h:X.K=K):Xp X (QT K):=Xp.or (nU h)<|HE h
def HF:WN K (QT K) rK:=WN.or zd QS
def uo(ds:Se D)(lo hi:Sf Int):rK (.tup ds) lo hi=some (.tup<|cutD ds lo hi,false):=by
 have e1:EW (.tup ds) lo hi=none:=rfl;have e3:G0 (.tup ds) lo hi=none:=rfl;by_cases c:HT.sIx ds.length 0 lo=0/\HT.sIx ds.length ds.length hi=ds.length
 ·have e2:oX (.tup ds) lo hi=none:=by simp only[oX,Ag c]
  have e4:Lb (.tup ds) lo hi=some (.tup ds,false):=by simp only[Lb,Ag c]
  have e5:cutD ds lo hi=ds:=by
   unfold cutD;rw[c.1,c.2];simp
  unfold rK Tl TU;rw[e1,e2,e3,e4,e5]
 ·have e2:oX (.tup ds) lo hi=some (.tup<|cutD ds lo hi,false):=by simp only[oX,Ak c]
  unfold rK Tl TU;rw[e1,e2]
theorem zn{a b:Se D}(h:a.length+b.length<=100000):gL (.tup a) (.tup b)=some (.tup<|a++b,false):=by
 have e1:sA (.tup a) (.tup b)=none:=rfl;have e2:sB (.tup a) (.tup b)=none:=rfl;have e3:xE (.tup a) (.tup b)=none:=rfl;cases a with
 |nil=>
  have e4:sC (.tup []) (.tup b)=none:=rfl;unfold gL cK S6;rw[e1,e2,e3,e4];rfl
 |cons x a=>
  have e4:sC (.tup (x::a)) (.tup b)=some (.tup (x::a++b),false):=by
   simp only[Wc]at h;cases b with
   |nil=>simp only[sC,We];rw[Ag<|by lia]
   |cons y b=>
    simp only[Wc]at h;simp only[sC];rw[Ag<|by lia]
  unfold gL cK S6;rw[e1,e2,e3,e4]
def vZ{a b:Se D}(h:a.length+b.length<=1000000):gL (.lst a) (.lst b)=some (.lst<|a++b,true):=by
 have e1:sA (.lst a) (.lst b)=none:=rfl;have e2:sB (.lst a) (.lst b)=none:=rfl;have e3:xE (.lst a) (.lst b)=some (.lst<|a++b,true):=by simp only[xE];rw[Ag h]
 unfold gL cK S6;rw[e1,e2,e3]
def OU{ds:Se D}(h:j<=ds.length):cutD ds none (some (j:Int))=ds.take j:=by
 unfold cutD;rw[HT.sIx_none,HT.sIx_nat,Ba h];simp
def v0{ds:Se D}(h:i<=ds.length):cutD ds (some (i:Int)) none=ds.drop i:=by
 unfold cutD;rw[HT.sIx_none,HT.sIx_nat,Ba h,Xl];rw[Xi];lia
end
section
variable {α:Type}
theorem bZ(f:α->D)(all:Se α)(I:Se α->En->Prop)(step:∀(gone:Se α)(x:α)(rest:Se α)(st:En),all=gone++x::rest->I gone st->∃s1 s2,fg (f x) st=some s1/\B s1=some (.nx s2)/\I (gone++[x]) s2) :
  ∀(items gone:Se α)(st:En),all=gone++items->I gone st->∃sf,eZ fg B (items.map f) st=some (.nx sf)/\I all sf
 |[],gone,st,ha,h=>⟨st,rfl,by rw[ha,We];exact h⟩
 | x::r,gone,st,ha,h=>by
  obtain⟨s1,s2,e1,e2,e3⟩:=step gone x r st ha h;obtain⟨sf,e4,e5⟩:=bZ f all I step r (gone++[x]) s2 (by rw[Yd];exact ha) e3
  refine⟨sf,?_,e5⟩;simp only[Wh,eZ,e1,e2,Xb];exact e4
theorem ft(f g:α->D)(p:α->Ss)(sb:En):∀(xs:Se α),(∀x∈xs,∃s1 s2,fg (f x) sb=some s1/\fc s1=some (p x,s2)/\(p x=false->Tj k s2=sb)/\(p x=true->∃y s3 s4,fe s2=some (y,s3)/\esc y s3=some (g x,s4)/\Tj k s4=sb))->
  cA fg fc fe k (xs.map f) sb=some ((xs.filter p).map g,sb)
 |[],_=>rfl
 | x::r,h=>by
  obtain⟨s1,s2,e1,e2,hf,ht⟩:=h x Zc;have ih:=ft f g p sb r λy hy=>h y<|Wb _ hy;cases hp:p x with
  |false=>
   rw[hp]at e2;simp only[Wh,cA,e1,e2,Xb,Wf,if_false,hf hp,ih,Ce,hp]
  |true=>
   rw[hp]at e2;obtain⟨y,s3,s4,e3,e4,e5⟩:=ht hp;simp only[Wh,cA,e1,e2,Xb,if_true,e3,e4,e5,ih,Ce,hp]
def cE(f g:α->D)(sb:En)(xs:Se α)(h:∀x∈xs,∃s1 s2 y s3 s4,fg (f x) sb=some s1/\fc s1=some (true,s2)/\fe s2=some (y,s3)/\esc y s3=some (g x,s4)/\Tj k s4=sb) :
  cA fg fc fe k (xs.map f) sb=some (xs.map g,sb):=by
 have:=ft (fg:=fg) (fc:=fc) (fe:=fe) (k:=k) f g (λ_=>true) sb xs λx hx=>by
  obtain⟨s1,s2,y,s3,s4,e1,e2,e3,e4,e5⟩:=h x hx;exact⟨s1,s2,e1,e2,λz=>(Bool.noConfusion z),λ_=>⟨y,s3,s4,e3,e4,e5⟩⟩
 rw[this,List.filter_eq_self.mpr λ_ _=>rfl]
end
section
variable {st s1:En}
def uq{xs ys:Se D}(h:xs.length+ys.length<=1000000):jg (.lst xs) [.lst ys]=some (.non,.lst<|xs++ys):=by
 show(if xs.length+ys.length<=1000000 then some (D.non,D.lst<|xs++ys) else none)=_;rw[Ag h]
end
def Lc(a n:Nat):rng (a:Int) n=(List.range n).map λt=>D.int ((a+t:Nat):Int):=by
 unfold rng;exact Qj λt _=>by rw[Int.natCast_add]
end VF
namespace VF22
open PySem PySem.Spec PyProof.Rows L2 VF
def VA(t:Ss):String:=if t then "tuple_iterator" else "list_iterator"
def VN(t:Ss):String:=if t then "tuple" else "list"
def Io(t:Ss)(h:Sv)(a l:Sk)(i:Nat):Prop:=∃o,h.get? a=some o/\o.cls=.type (VA t)/\o.data=.fields #[.ref l,.int i 0]
def So(t:Ss)(h:Sv)(l:Sk)(xs:Sj Sh):Prop:=∃o,h.get? l=some o/\o.cls=.type (VN t)/\∃n,o.data=.seq xs n
variable {h h':Sv}
theorem Io.by(a:Io t h it l i)(k:∀o,h.get? it=some o->h'.get? it=some o):Io t h' it l i:=by
 obtain⟨o,e,r⟩:=a;exact⟨o,k o e,r⟩
theorem So.by(a:So t h l xs)(k:∀o,h.get? l=some o->h'.get? l=some o):So t h' l xs:=by
 obtain⟨o,e,r⟩:=a;exact⟨o,k o e,r⟩
section
variable {A:Around}{s:Si}
def HG(a:Io t s.heap it l i)(b:So t s.heap l xs)(hx:xs[i]?=some x)
  (q:∀h1,Io t h1 it l (i+1)->Heap.SameBut it s.heap h1->Q x { s with heap:=h1 }):wpAny (model P w) A (Builtin.SmallTypes.nextOf<|.ref it) Q E s:=by
 cases t with
 |false=>exact wpAny_nextOf_list_item (i:=i) (l:=l) (items:=xs) a b hx q
 |true=>
  obtain⟨u,hu,cu,du⟩:=id a;obtain⟨v,hv,cv,nv,dv⟩:=b;have ty:s.heap.IsTupleIter it l i:=⟨u,hu,cu,du⟩;unfold Builtin.SmallTypes.nextOf;refine Aa<|Ap (name:=Str.ofString "__next__") ty.typeIs F.slot_tuple_iterator_next<|Aq F.slot_tuple_iterator_next ty.typeIs F.entry_tuple_iterator_next ?_<|F.args_tuple_iterator_next_1 _;show wpAny _ _ (field (.ref it) 0 >>= _) _ _ _;refine Aa<|As hu du (x:=.ref l) rfl ?_;show wpAny _ _ (if (Value.ref l == Value.none)=true then _ else _) _ _ _;rw[Ak<|show ¬ ((Value.ref l == .none)=true) from Ze];show wpAny _ _ (field (.ref it) 1 >>= _) _ _ _;refine Aa<|As hu du (x:=.int i 0) rfl ?_;show wpAny _ _ (seqItems? (.ref l) >>= _) _ _ _;refine Aa<|AV hv dv ?_;simp only[hx,Bg];refine Aa<|Bh hu du (by simp)<|Ad ⟨x,rfl,Ad<|q _ (⟨_,Bc _ hu<|BB<|AC du _,(C5 ..).trans cu,?_⟩)<|AH ..⟩
  rw[AC du];simp[rawInt]
def HH(hh:A.handled=none)(a:Io t s.heap it l i)(b:So t s.heap l xs)(hx:xs[i]?=none)
  (q:∀h1 e,Heap.ExtBut it s.heap h1->(∃o,h1.get? e=some o/\o.cls=.type "StopIteration")->E (.ref e) { s with heap:=h1 }):wpAny (model P w) A (Builtin.SmallTypes.nextOf<|.ref it) Q E s:=by
 cases t with
 |false=>exact wpAny_nextOf_list_end (i:=i) (l:=l) (items:=xs) hh a b hx q
 |true=>
  obtain⟨u,hu,cu,du⟩:=id a;obtain⟨v,hv,cv,nv,dv⟩:=b;have ty:s.heap.IsTupleIter it l i:=⟨u,hu,cu,du⟩;unfold Builtin.SmallTypes.nextOf;refine Aa<|Ap (name:=Str.ofString "__next__") ty.typeIs F.slot_tuple_iterator_next<|Aq F.slot_tuple_iterator_next ty.typeIs F.entry_tuple_iterator_next ?_<|F.args_tuple_iterator_next_1 _;show wpAny _ _ (field (.ref it) 0 >>= _) _ _ _;refine Aa<|As hu du (x:=.ref l) rfl ?_;show wpAny _ _ (if (Value.ref l == Value.none)=true then _ else _) _ _ _;rw[Ak<|show ¬ ((Value.ref l == .none)=true) from Ze];show wpAny _ _ (field (.ref it) 1 >>= _) _ _ _;refine Aa<|As hu du (x:=.int i 0) rfl ?_;show wpAny _ _ (seqItems? (.ref l) >>= _) _ _ _;refine Aa<|AV hv dv ?_;simp only[hx,Bg];refine Aa<|AF<|Aa<|Bh hu du (by simp) ?_
  show wpAny _ _ (newExc (.type "StopIteration") [] >>= _) _ _ _;refine Aa ?_;simp only[newExc,newTuple];refine Aa<|Ar (Aa (m:=firstArgMember _ _)<|Bi (a:=.none) (by first|rfl|(simp only[firstArgMember];rfl))<|Ar ?_<|by size_fits)<|by size_fits
  simp only[raiseNew];refine Aa<|wpAny_handled ?_
  first|rw[show A.in1.handled=none from hh]|rw[hh]
  exact Aa<|Ad<|wpAny_throw<|q _ _ (((AH ..).extBut.push _).push _) ⟨_,Ah _ rfl,rfl⟩
def QU(W:ZipApart z T1 T2 i1 i2 l1 l2)(hz:IsZip s.heap z T1 T2 .none)(p1:IsPair s.heap T1 (.ref i1) (.ref i2))(p2:IsPair s.heap T2 a b)
  (u1:Io t1 s.heap i1 l1 k)(u2:Io t2 s.heap i2 l2 k)(v1:So t1 s.heap l1 xs)(v2:So t2 s.heap l2 ys)(hx:xs[k]?=some x)(hy:ys[k]?=some y)
  (q:∀g,IsZip g z T1 T2 (rawInt s.heap.objs.size)->IsPair g T2 x y->Io t1 g i1 l1 (k+1)->Io t2 g i2 l2 (k+1)->IsPair g s.heap.objs.size x y->
   (∀c o,c≠z->c≠T2->c≠i1->c≠i2->s.heap.get? c=some o->g.get? c=some o)->Q (some (.ref s.heap.objs.size)) { s with heap:=g }):wpAny (model P w) A (pyNext (.ref z)) Q E s:=by
 have ty:s.TypeIs (.ref z) "zip":=⟨_,hz,rfl⟩;unfold pyNext;refine Aa<|AQ<|Ap (name:=Str.ofString "__next__") ty F.slot_zip_next<|Aq F.slot_zip_next ty F.entry_zip_next ?_<|F.args_zip_next_1 _;show wpAny _ _ (field (.ref z) 2 >>= _) _ _ s;refine Aa<|As hz rfl (x:=.bool false) rfl ?_;show wpAny _ _ (field (.ref z) 3 >>= _) _ _ s;refine Aa<|As hz rfl (x:=.ref T1) rfl<|Aa<|AV p1 rfl ?_;show wpAny _ _ (Builtin.SmallTypes.ownedTupleIsFree (.ref z) >>= _) _ _ s;refine Aa ?_;unfold Builtin.SmallTypes.ownedTupleIsFree;refine Aa<|As hz rfl (x:=Value.none) rfl<|Ad ?_;simp only[if_true];refine Aa<|AF<|Aa<|As hz rfl (x:=.ref T2) rfl<|Aa<|AZ hz (by simp) λg1 z1 s1=>?_
 replace z1:IsZip g1 z T1 T2 .ellipsis:=z1
 refine Aa ?_;simp only[Cw,List.forIn_nil,BE,List.zipIdx_nil];refine Aa<|Aa<|CO ?_;show wpAny _ _ (Builtin.SmallTypes.nextOf (.ref i1) >>= _) _ _ { s with heap:=g1 };refine Aa<|HG (s:={ s with heap:=g1 }) (u1.by λo e=>s1.extBut _ o W.i1z e) (v1.by λo e=>s1.extBut _ o W.l1z e) hx λg2 n1 s2=>Ad ?_
 have p22:IsPair g2 T2 a b:=s2.extBut _ _ W.TOi1<|s1.extBut _ _ W.TOz p2;refine Aa<|AV p22 rfl<|Aa<|CF p22 λg3 p23 s3=>?_;replace p23:IsPair g3 T2 x b:=p23;refine Aa<|Dr<|Ad<|Aa<|Aa<|CO ?_;show wpAny _ _ (Builtin.SmallTypes.nextOf (.ref i2) >>= _) _ _ { s with heap:=g3 };refine Aa<|HG (s:={ s with heap:=g3 }) (u2.by λo e=>s3.extBut _ o W.TOi2.symm<|s2.extBut _ o W.i12.symm<|s1.extBut _ o W.i2z e) (v2.by λo e=>s3.extBut _ o W.l2TO<|s2.extBut _ o W.l2i1<|s1.extBut _ o W.l2z e) hy λg4 n2 s4=>Ad ?_
 have p24:IsPair g4 T2 x b:=s4.extBut _ _ W.TOi2 p23;refine Aa<|AV p24 rfl<|Aa<|CF p24 λg5 p25 s5=>?_;replace p25:IsPair g5 T2 x y:=p25;refine Aa<|Dr<|Ad<|Ad<|Aa<|AV p25 rfl<|Aa<|Dw ?_;have sz:g5.objs.size=s.heap.objs.size:=by rw[s5.1,s4.1,s3.1,s2.1,s1.1]
 have z5:IsZip g5 z T1 T2 .ellipsis:=s5.extBut _ _ W.TOz.symm<|s4.extBut _ _ W.i2z.symm<|s3.extBut _ _ W.TOz.symm<|s2.extBut _ _ W.i1z.symm z1;have k5:∀c o,c≠z->c≠T2->c≠i1->c≠i2->s.heap.get? c=some o->g5.get? c=some o:=λc o c1 c2 c3 c4 e=>s5.extBut _ _ c2<|s4.extBut _ _ c4<|s3.extBut _ _ c2<|s2.extBut _ _ c3<|s1.extBut _ _ c1 e;have n15:Io t1 g5 i1 l1 (k+1):=n1.by λo e=>s5.extBut _ o W.TOi1.symm<|s4.extBut _ o W.i12<|s3.extBut _ o W.TOi1.symm e
 have n25:Io t2 g5 i2 l2 (k+1):=n2.by λo e=>s5.extBut _ o W.TOi2.symm e
 have zl:z<g5.objs.size:=Aj z5;show wpAny _ _ (Builtin.SmallTypes.ownedTupleHandOut (.ref z) (.ref g5.objs.size) >>= _) _ _ _;refine Aa ?_;unfold Builtin.SmallTypes.ownedTupleHandOut;have z6:IsZip (g5.push { cls:=.type "tuple",data:=.seq #[x,y] }) z T1 T2 .ellipsis:=Ac _ z5;refine Aa<|AZ z6 (by simp) λg7 z7 s7=>?_
 replace z7:IsZip g7 z T1 T2 (rawInt g5.objs.size):=z7
 refine AZ z7 (by simp) λg8 z8 s8=>?_
 replace z8:IsZip g8 z T1 T2 (rawInt g5.objs.size):=z8
 have up:∀c o,c≠z->g5.get? c=some o->g8.get? c=some o:=λc o c1 e=>s8.extBut _ _ c1<|s7.extBut _ _ c1<|Ac _ e;have pT:IsPair g8 g5.objs.size x y:=s8.extBut _ _ (Yl zl)<|s7.extBut _ _ (Yl zl)<|Ah _ rfl;rw[sz]at z8 pT;refine Ad ⟨_,rfl,Ad ?_⟩;show Q (some<|.ref g5.objs.size) _;rw[sz];exact q g8 z8 (up _ _ W.TOz p25) (n15.by λo e=>up _ o W.i1z e) (n25.by λo e=>up _ o W.i2z e) pT λc o c1 c2 c3 c4 e=>up c o c1<|k5 c o c1 c2 c3 c4 e
def OV(hh:A.handled=none)(W:ZipApart z T1 T2 i1 i2 l1 l2)(hz:IsZip s.heap z T1 T2 .none)(p1:IsPair s.heap T1 (.ref i1) (.ref i2))(p2:IsPair s.heap T2 a b)
  (u1:Io t1 s.heap i1 l1 k)(u2:Io t2 s.heap i2 l2 k)(v1:So t1 s.heap l1 xs)(v2:So t2 s.heap l2 ys)(hend:xs[k]?=none\/ys[k]?=none)
  (q:∀g,(∀c o,c≠z->c≠T2->c≠i1->c≠i2->s.heap.get? c=some o->g.get? c=some o)->Q none { s with heap:=g }):wpAny (model P w) A (pyNext<|.ref z) Q E s:=by
 have ty:s.TypeIs (.ref z) "zip":=⟨_,hz,rfl⟩;unfold pyNext;have fin:∀g e,(∀c o,c≠z->c≠T2->c≠i1->c≠i2->s.heap.get? c=some o->g.get? c=some o)->(∃o,g.get? e=some o/\o.cls=.type "StopIteration")->wpAny (model P w) A (do if (<-isInstance (.ref e) (.type "StopIteration")) then return none else throw (.ref e)) Q E { s with heap:=g }:=λg e kp ⟨o,ho,ho2⟩=>
  Aa (Ca (T:="StopIteration") (b:=true) ⟨o,ho,ho2⟩ Dy<|Ad<|q g kp)
 refine Aa<|AQ<|Ap (name:=Str.ofString "__next__") ty F.slot_zip_next<|Aq F.slot_zip_next ty F.entry_zip_next ?_<|F.args_zip_next_1 _;show wpAny _ _ (field (.ref z) 2 >>= _) _ _ s;refine Aa<|As hz rfl (x:=.bool false) rfl ?_;show wpAny _ _ (field (.ref z) 3 >>= _) _ _ s;refine Aa<|As hz rfl (x:=.ref T1) rfl<|Aa<|AV p1 rfl ?_;show wpAny _ _ (Builtin.SmallTypes.ownedTupleIsFree (.ref z) >>= _) _ _ s;refine Aa ?_;unfold Builtin.SmallTypes.ownedTupleIsFree;refine Aa<|As hz rfl (x:=Value.none) rfl<|Ad ?_;simp only[if_true];refine Aa<|AF<|Aa<|As hz rfl (x:=.ref T2) rfl<|Aa<|AZ hz (by simp) λg1 z1 s1=>?_
 replace z1:IsZip g1 z T1 T2 .ellipsis:=z1
 refine Aa ?_;simp only[Cw,List.forIn_nil,BE,List.zipIdx_nil];refine Aa<|Aa<|CO ?_;show wpAny _ _ (Builtin.SmallTypes.nextOf (.ref i1) >>= _) _ _ { s with heap:=g1 };have w1:Io t1 g1 i1 l1 k:=u1.by λo e=>s1.extBut _ o W.i1z e
 have w2:So t1 g1 l1 xs:=v1.by λo e=>s1.extBut _ o W.l1z e
 cases hx:xs[k]? with
 |none=>
  refine Aa<|HH (s:={ s with heap:=g1 }) hh w1 w2 hx λg2 e s2 he=>?_;obtain⟨oe,he1,he2⟩:=he;have z2:IsZip g2 z T1 T2 .ellipsis:=s2 _ _ W.i1z.symm z1;have ne:e≠z:=λm=>by subst m;rw[z2]at he1;cases he1;simp at he2
  exact AZ z2 (by simp) λg3 _ s3=>fin g3 e (λc o c1 _ c3 _ m=>s3.extBut _ _ c1<|s2 _ _ c3<|s1.extBut _ _ c1 m) ⟨oe,s3.extBut _ _ ne he1,he2⟩
 |some x=>
  have hy:ys[k]?=none:=by
   rcases hend with m|m
   ·rw[hx]at m;cases m
   ·exact m
  refine Aa<|HG (s:={ s with heap:=g1 }) w1 w2 hx λg2 n1 s2=>Ad ?_;have p22:IsPair g2 T2 a b:=s2.extBut _ _ W.TOi1<|s1.extBut _ _ W.TOz p2;refine Aa<|AV p22 rfl<|Aa<|CF p22 λg3 p23 s3=>(Aa<|Dr<|Ad<|Aa<|Aa<|CO ?_);show wpAny _ _ (Builtin.SmallTypes.nextOf (.ref i2) >>= _) _ _ { s with heap:=g3 };refine Aa<|HH (s:={ s with heap:=g3 }) hh (u2.by λo e=>s3.extBut _ o W.TOi2.symm<|s2.extBut _ o W.i12.symm<|s1.extBut _ o W.i2z e) (v2.by λo e=>s3.extBut _ o W.l2TO<|s2.extBut _ o W.l2i1<|s1.extBut _ o W.l2z e) hy λg4 e s4 he=>?_
  obtain⟨oe,he1,he2⟩:=he;have z4:IsZip g4 z T1 T2 .ellipsis:=s4 _ _ W.i2z.symm<|s3.extBut _ _ W.TOz.symm<|s2.extBut _ _ W.i1z.symm z1;have ne:e≠z:=λm=>by subst m;rw[z4]at he1;cases he1;simp at he2
  exact AZ z4 (by simp) λg5 _ s5=>fin g5 e (λc o c1 c2 c3 c4 m=>s5.extBut _ _ c1<|s4 _ _ c4<|s3.extBut _ _ c2<|s2.extBut _ _ c3<|s1.extBut _ _ c1 m) ⟨oe,s5.extBut _ _ ne he1,he2⟩
end
section
variable {s:Si}
def zI(t:Ss)(l:Sk):Obj:={ cls:=.type<|VA t,data:=.fields #[.ref l,.int 0 0] }
theorem zo(b:So t s.heap l xs)(q:Q (.ref s.heap.objs.size) { s with heap:=s.heap.push (zI t l) }):wpAny (model P w) A (pyIter<|.ref l) Q E s:=by
 cases t with|false=>exact B1 (items:=xs) b q|true=>exact wpAny_pyIter_tuple (items:=xs) b q
abbrev zA(t1:Bool)(h:Heap)(l1:Addr):Heap:=h.push<|zI t1 l1
abbrev zB(t1 t2:Bool)(h:Heap)(l1 l2:Addr):Heap:=(zA t1 h l1).push (zI t2 l2)
abbrev zC(t1 t2:Bool)(h:Heap)(l1 l2:Addr):Heap:=(zB t1 t2 h l1 l2).push { cls:=.type "tuple",data:=.seq #[.ref h.objs.size,.ref (zA t1 h l1).objs.size] }
abbrev zD(t1 t2:Bool)(h:Heap)(l1 l2:Addr):Heap:=(zC t1 t2 h l1 l2).push { cls:=.type "tuple",data:=.seq #[.none,.none] }
abbrev zE(t1 t2:Bool)(h:Heap)(l1 l2:Addr):Heap:=(zD t1 t2 h l1 l2).push { cls:=.type "zip",data:=.fields #[.none,.bool false,.bool false,.ref (zB t1 t2 h l1 l2).objs.size,.ref (zC t1 t2 h l1 l2).objs.size] }
def HI(t1 t2:Ss)(l1 l2:Sk)(xs ys:Sj Sh):Meets (Builtin.«zip.__new__» ⟨[.type "zip",.ref l1,.ref l2],[]⟩) (λ_ R s=>So t1 s.heap l1 xs/\So t2 s.heap l2 ys /\
   R (.ok (.ret (.ref (zD t1 t2 s.heap l1 l2).objs.size))) { s with heap:=zE t1 t2 s.heap l1 l2 }) :=
 .of_wp λprog w A R s h=>by
  obtain⟨hp,g,d,tk,os⟩:=s;obtain⟨v1,v2,h⟩:=h;have hsub:=sub_zip;have L1:So t1 (Shared.heap ⟨hp,g,d,tk,os⟩) l1 xs:=v1;have L2:So t2 (Shared.heap ⟨hp.push<|zI t1 l1,g,d,tk,os⟩) l2 ys:=So.by v2 λo e=>Ac _ e
  wp_walk using zo L1,zo L2
  exact⟨_,rfl,h⟩
def HJ(v1:So t1 s.heap l1 xs)(v2:So t2 s.heap l2 ys)
  (q:∀g,IsZip g (s.heap.objs.size+4) (s.heap.objs.size+2) (s.heap.objs.size+3) .none->IsPair g (s.heap.objs.size+2) (.ref s.heap.objs.size) (.ref (s.heap.objs.size+1))->IsPair g (s.heap.objs.size+3) .none .none->
   Io t1 g s.heap.objs.size l1 0->Io t2 g (s.heap.objs.size+1) l2 0->(∀c o,s.heap.get? c=some o->g.get? c=some o)->Q (.ref (s.heap.objs.size+4)) { s with heap:=g }) :
  wpAny (model P w) A (call (.type "zip") [.ref l1,.ref l2]) Q E s:=by
 refine callType_new F.called_zip (by decide) (F.typeCall_zip_2 _ _) (F.newCall_zip_2 _ _) (λobj=>F.args_object_init_3 obj _ _) F.entry_zip_new (HI t1 t2 l1 l2 xs ys) ⟨v1,v2,?_⟩
 have m1:(zA t1 s.heap l1).objs.size=s.heap.objs.size+1:=Bw ..;have m2:(zB t1 t2 s.heap l1 l2).objs.size=s.heap.objs.size+2:=by rw[Bw,m1]
 have m3:(zC t1 t2 s.heap l1 l2).objs.size=s.heap.objs.size+3:=by rw[Bw,m2]
 have m4:(zD t1 t2 s.heap l1 l2).objs.size=s.heap.objs.size+4:=by rw[Bw,m3]
 have g5:(zE t1 t2 s.heap l1 l2).get? (zD t1 t2 s.heap l1 l2).objs.size=some _:=Ah _ rfl;have g4:(zE t1 t2 s.heap l1 l2).get? (zC t1 t2 s.heap l1 l2).objs.size=some _:=Ac _<|Ah _ rfl;have g3:(zE t1 t2 s.heap l1 l2).get? (zB t1 t2 s.heap l1 l2).objs.size=some _:=Ac _<|Ac _<|Ah _ rfl;have g2:(zE t1 t2 s.heap l1 l2).get? (zA t1 s.heap l1).objs.size=some (zI t2 l2):=Ac _<|Ac _<|Ac _<|Ah _ rfl;have g1:(zE t1 t2 s.heap l1 l2).get? s.heap.objs.size=some (zI t1 l1):=Ac _<|Ac _<|Ac _<|Ac _<|Ah _ rfl;show _/\_;rw[m2,m3,m4]at g5;rw[m1,m2]at g3;rw[m3]at g4;rw[m1]at g2;rw[m4];exact⟨⟨_,g5,rfl⟩,q _ g5 g3 g4 ⟨_,g1,rfl,rfl⟩ ⟨_,g2,rfl,rfl⟩ λc o e=>Ac _<|Ac _<|Ac _<|Ac _<|Ac _ e⟩
end
section
variable {X:Cx}{K:Ab}{t t1 t2:Ss}{VU:Se (Sk×Obj)}{σ:L2.St}{H:Hp}{s:Si}{h':Sv}
def zp{t':Nat}{ch:Se Sk}(I:L2.Inv X VU σ H s)(f:∀b∈ch,jR X VU H b)(k:∀b o,b∉ch->s.heap.get? b=some o->h'.get? b=some o):L2.Inv X VU σ H { s with heap:=h',toks:=t' }:=by
 have nit:∀b u,H b=some u->b∉ch:=λb u e z=>by rw[(f b z).1]at e;cases e
 refine I.step (g':=s.gens) (d':=s.drawn) (ch:=ch) (λb hb=>?_) (λb o _ _ hc e _=>k b o hc e) (λb o _ _ hc e _=>⟨o.slots,k b o hc e⟩) (λ_ _ _ _ n=>n)
  (λb o hc e=>⟨o,k b o hc e⟩) (λ_ _ e=>e) (λ_ _ _ e=>e) (λb ps e=>⟨#[],by rw[e];simp⟩) (λm hm=>?_) (λb u e=>?_) I.bare
 ·obtain⟨_,f1,_,f3,f4,f5⟩:=f b hb;exact⟨f3,f1,f4,f5⟩
 ·obtain⟨o,es,ep,ho,r⟩:=hm;exact⟨o,es,ep,k _ o (λz=>(f _ z).2.1 rfl) ho,r⟩
 ·refine(I.hok b u e).stay (λc v hc q=>k c v ?_ q) (λ_ q=>q) λ_ _ q=>q;rcases hc with z|z
  ·rw[z];exact nit b u e
  ·exact nit c _ z
def Sq(K:Ab)(t:Ss)(H:Hp)(a:Sk)(xs:Se V):Prop:=if t then S8 K H a xs else SW K H a xs
theorem Sq.so(I:L2.Inv X VU σ H s)(h:Sq X.K t H l xs):∃its:Se Sh,V0 xs its/\So t s.heap l its.toArray:=by
 cases t with
 |false=>
  obtain⟨its,rv,p,_⟩:=I.list h;exact⟨its,rv,p.isList⟩
 |true=>
  obtain⟨its,rv,p,_⟩:=I.tuple h;exact⟨its,rv,p⟩
theorem Sq.inj(I:L2.Inv X VU σ H s)(h:Sq X.K t H l xs)(h2:Sq X.K t H l ys):xs=ys:=by
 cases t with|false=>exact I.list_inj h h2|true=>exact I.tuple_inj h h2
def VB(K : Ab)(t1 t2 : Ss)(l1 l2 : Sk) : It :=
  ⟨λi H => ∃ xs ys x y, Sq K t1 H l1 xs ∧ Sq K t2 H l2 ys ∧ xs[i]? = some x ∧ ys[i]? = some y,
   λi H v H' => ∃ p x y, v = .ref p ∧ H p = none ∧ H' = upd H p (.tup [x, y]) ∧ (∀ xs, Sq K t1 H l1 xs → xs[i]? = some x) ∧ ∀ ys, Sq K t2 H l2 ys → ys[i]? = some y,
   λi H => ∃ xs ys, Sq K t1 H l1 xs ∧ Sq K t2 H l2 ys ∧ (xs.length ≤ i\/ys.length ≤ i)⟩
def Zs(t1 t2:Ss)(z T1 T2 i1 i2 l1 l2:Sk)(i:Nat)(h:Sv):Prop:=IsZip h z T1 T2 .none/\IsPair h T1 (.ref i1) (.ref i2)/\(∃a b,IsPair h T2 a b)/\Io t1 h i1 l1 i/\Io t2 h i2 l2 i
def QV(h:b∈[z,T1,T2,i1,i2]):b=z\/b=T1\/b=T2\/b=i1\/b=i2:=by simpa using h
theorem Zs.at{h:Sv}(st:Zs t1 t2 z T1 T2 i1 i2 l1 l2 i h)(hb:b∈[z,T1,T2,i1,i2]):∃o,h.get? b=some o/\∀v,o.data≠.cell v:=by
 obtain⟨a1,a2,⟨_,_,a3⟩,⟨o1,a4,_,d4⟩,⟨o2,a5,_,d5⟩⟩:=st;rcases QV hb with rfl|rfl|rfl|rfl|rfl
 ·exact⟨_,a1,λv m=>by cases m⟩
 ·exact⟨_,a2,λv m=>by cases m⟩
 ·exact⟨_,a3,λv m=>by cases m⟩
 ·exact⟨_,a4,λv m=>by rw[d4]at m;cases m⟩
 ·exact⟨_,a5,λv m=>by rw[d5]at m;cases m⟩
def HK{es:Se Expr}{x1}{z T1 T2 i1 i2 l1 l2:Sk}(W:ZipApart z T1 T2 i1 i2 l1 l2):Turn P w K (.Tuple es x1 ps) (VB K t1 t2 l1 l2) [z,T1,T2,i1,i2] z (Zs t1 t2 z T1 T2 i1 i2 l1 l2) where
 mem:=.head _
 obj:=λi h st b hb=>st.at hb
 keep:=λi h h' st k=>by
  obtain⟨a1,a2,⟨a,b,a3⟩,a4,a5⟩:=st;exact⟨k z (.head _) _ a1,k T1 (.tail _<|.head _) _ a2,⟨a,b,k T2 (.tail _<|.tail _<|.head _) _ a3⟩,a4.by λo e=>k i1 (.tail _<|.tail _<|.tail _<|.head _) o e,a5.by λo e=>k i2 (.tail _<|.tail _<|.tail _<|.tail _<|.head _) o e⟩
 item:=by
  walk_at "1";subst hP hw hK;obtain⟨xs,ys,x,y,q1,q2,e1,e2⟩:=hg;obtain⟨is,r1,v1⟩:=q1.so I;obtain⟨js,r2,v2⟩:=q2.so I;obtain⟨u,hu,ru⟩:=r1.get e1;obtain⟨v,hv,rv⟩:=r2.get e2;have hn:H s.heap.objs.size=none:=I.hok.fresh<|Qa _;have lt:∀b∈[z,T1,T2,i1,i2],b≠s.heap.objs.size:=λb hb=>by
   obtain⟨o,ho,_⟩:=Zs.at st hb;exact Zh<|Aj ho
  obtain⟨a1,a2,⟨a,b,a3⟩,a4,a5⟩:=st;refine QU W a1 a2 a3 a4 a5 v1 v2 (x:=u) (y:=v) (by simpa using hu) (by simpa using hv) λg z1 p2 n1 n2 pT kp=>(⟨_,rfl,wpAny_letOwnedTupleGo_zip (s:={ s with heap:=g }) z1 λg2 z2 sb=>?_⟩)
  have kk:∀c o,c≠z->c≠T2->c≠i1->c≠i2->s.heap.get? c=some o->g2.get? c=some o:=λc o c1 c2 c3 c4 e=>sb.extBut _ _ c1<|kp c o c1 c2 c3 c4 e;have pT2:IsPair g2 s.heap.objs.size u v:=sb.extBut _ _ (Az<|lt z<|.head _) pT;have I1:L2.Inv X VU σ (upd H s.heap.objs.size<|.tup [x,y]) { s with heap:=s.heap.push { cls:=.type "tuple",data:=.seq #[u,v] },toks:=s.toks } :=
   I.laid (λb o e=>Ac _ e) (Qa _) ⟨show 2<=sizeLine by decide,[u,v],.cons ru<|.cons rv .nil,⟨_,Ah _ rfl,rfl,_,rfl⟩⟩
  have ff:∀b∈[z,T1,T2,i1,i2],jR X VU (upd H s.heap.objs.size<|.tup [x,y]) b:=λb hb=>by
   obtain⟨f0,f1,f2,f3,f4,f5⟩:=hf b hb;exact⟨by rw[aV<|lt b hb];exact f0,f1,f2,f3,f4,f5⟩
  have I2:L2.Inv X VU σ (upd H s.heap.objs.size<|.tup [x,y]) { s with heap:=g2 }:=by
   refine zp (s:={ s with heap:=s.heap.push { cls:=.type "tuple",data:=.seq #[u,v] } }) (t':=s.toks) I1 ff λc o hc e=>?_;rcases Heap.get?_push_cases e with⟨rfl,rfl⟩|e
   ·exact pT2
   ·exact kk c o (λm=>hc<|m ▸ .head _) (λm=>hc<|m ▸ .tail _ (.tail _<|.head _)) (λm=>hc<|m ▸ .tail _ (.tail _<|.tail _<|.head _)) (λm=>hc<|m ▸ .tail _ (.tail _<|.tail _<|.tail _<|.head _)) e
  exact⟨.ref s.heap.objs.size,_,I2,rfl,⟨_,x,y,rfl,hn,rfl,λzs hz=>by rw[hz.inj I q1];exact e1,λzs hz=>by rw[hz.inj I q2];exact e2⟩,(⟨z2,sb.extBut _ _ W.TIz<|kp _ _ W.TIz W.TITO W.TIi1 W.TIi2 a2,⟨_,_,sb.extBut _ _ W.TOz p2⟩,n1.by λo e=>sb.extBut _ o W.i1z e,n2.by λo e=>sb.extBut _ o W.i2z e⟩),λb hb=>(ff b hb).1⟩
 done:=by
  walk_at "1";subst hP hw hK;obtain⟨xs,ys,q1,q2,hl⟩:=hg;obtain⟨a1,a2,⟨a,b,a3⟩,a4,a5⟩:=st;obtain⟨is,r1,v1⟩:=q1.so I;obtain⟨js,r2,v2⟩:=q2.so I;have l1:=r1.length;have l2:=r2.length;refine OV (I.ok.hd hc) W a1 a2 a3 a4 a5 v1 v2 (hl.imp (λm=>by rw[DZ];exact Zm<|l1 ▸ m) λm=>by rw[DZ];exact Zm<|l2 ▸ m) λg kp=>⟨rfl,zp (t':=s.toks) I hf λc o hc e=>?_⟩
  exact kp c o (λm=>hc<|m ▸ .head _) (λm=>hc<|m ▸ .tail _ (.tail _<|.head _)) (λm=>hc<|m ▸ .tail _ (.tail _<|.tail _<|.head _)) (λm=>hc<|m ▸ .tail _ (.tail _<|.tail _<|.tail _<|.head _)) e
 self:=λ_ _ _ _ _ st h=>wpAny_pyIter_zip st.1 h
def OW(K:Ab)(ta:TA):TI:=λσ H R=>ta σ H λvs H1=>∃t1 t2 l1 l2 xs ys,vs=[.ref l1,.ref l2]/\Sq K t1 H1 l1 xs/\Sq K t2 H1 l2 ys/\R (VB K t1 t2 l1 l2) H1
def boot_zip:bootBuiltins "zip"=some (.type "zip"):=by decide +kernel
def Ld{x1}(hg:Gl X "zip")(hm:X.mg "zip"=none)(ha:PA X [a,b] ta)(hs:starEach [a,b] X.env=[(false,eval a X.env),(false,eval b X.env)])(hs2:starEach [b] X.env=[(false,eval b X.env)]) :
  PI X (.Tuple es x1 ps) (.Call (.Name "zip" p) [a,b] [] pos) (OW X.K ta):=by
 intro VU s σ H R I h;refine Call_<|lX I hg hm boot_zip<|Be (SM (ha pos VU s σ H _ I h) λus s1 ⟨vs,H1,I1,r1,q1⟩=>?_) (by rw[hs,hs2]) (by rw[hs2];rfl)
 obtain⟨t1,t2,l1,l2,xs,ys,e,w1,w2,q⟩:=q1;subst e;cases r1 with
 |cons r rr=>
  cases rr with
  |cons r' rr=>
   cases rr;cases r;cases r';obtain⟨is,r1,v1⟩:=w1.so I1;obtain⟨js,r2,v2⟩:=w2.so I1;refine HJ v1 v2 λg z p1 p2 n1 n2 kp=>?_;obtain⟨o1,ho1,_⟩:=id v1;obtain⟨o2,ho2,_⟩:=id v2;refine wpAny_pyIter_zip (s:={ s1 with heap:=g }) z ⟨_,[s1.heap.objs.size+4,s1.heap.objs.size+2,s1.heap.objs.size+3,s1.heap.objs.size,s1.heap.objs.size+1],_,_,H1,rfl,I1.kept (t':=s1.toks) kp,HK<|PySem.W.ktu_apart _ _ _ (Aj ho1)<|Aj ho2,⟨z,p1,⟨_,_,p2⟩,n1,n2⟩,λb hb=>?_,q⟩;have hb':=QV hb;have le:s1.heap.objs.size<=b:=by
    rcases hb' with m|m|m|m|m<;>(rw[m];first|exact Wm _ _|exact Qa _)
   exact I1.fpOk le<|I1.hok.fresh le
end
end VF22
namespace VF22
open PySem L2 VF
section
variable {X:Cx}
def U5:D->Sf (Se D)|.lst ds=>some ds|.fl ds=>some ds|.tup ds=>some ds|_=>none
def OX:Se D->Sf (Se D×Se D)|[a,b]=>(U5 a).bind λx=>(U5 b).bind λy=>some (x,y)|_=>none
def pr(a b:D):D:=.tup [a,b]
def UN(fa:FA):FI:=λst=>(fa st).bind λx=>(dP x.1 x.2).bind λy=>(OX y.1).bind λw=>some (List.zipWith pr w.1 w.2,y.2)
theorem MZ(da:DA K (U O Z) H v d)(e:U5 d=some is):∃t l ws,v=.ref l/\∀H' O',Wr O H O' H'->Sq K t H' l ws/\El K (U O' Z) H' ws is:=by
 cases d with
 |lst ds=>
  cases e;cases da with|@lst a vs _ h0 h1 h2 h3=>exact⟨false,a,vs,rfl,λH' O' ex=>⟨.inl<|.inl<|ex.kp a _ h1 λz=>h0<|.inl z,El.ext ⟨h2,h3⟩ ex⟩⟩
 |fl ds=>
  cases e;cases da with
  |@fl a vs _ h1 h2 h3=>
   refine⟨false,a,vs,rfl,λH' O' ex=>⟨?_,El.ext ⟨h2,h3⟩ ex⟩⟩;rcases h1 with⟨h1,hn⟩|h1
   ·exact .inl<|Rd.keep h1 λo e=>ex.kp a o e λz=>hn<|.inl z
   ·exact h1 H'
 |tup ds=>
  cases e;cases da with
  |@tup a vs _ h1 h2 h3=>
   exact⟨true,a,vs,rfl,λH' O' ex=>⟨(.inl<|.inl<|ex.kp a _ h1.1 λz=>h1.2<|.inl z),El.ext ⟨h2,h3⟩ ex⟩⟩
 |_=>cases e
def QW{as bs:Se D}{i:Nat}{d:D}(h:(List.zipWith pr as bs)[i]?=some d):∃a b,as[i]?=some a/\bs[i]?=some b/\d=.tup [a,b]:=by grind [D,pr]
def HL{ta:TA}{fa:FA}(h:TB K ta fa):Xw K (OW K ta) (UN fa):=by
 walk_at "h";refine SN e λrs V1 e1 e=>(SN e λds V4 e2 e=>(SN e λas bs e3 e=>?_));cases e;refine h st σ H O Z _ E rs V1 e1 λvs H1 O1 x1 k1 E1 rvs=>?_;walk_at "c";replace e3:OX ds=some (as,bs):=e3;unfold OX at e3;split at e3
 ·rename_i a b
  refine SK e3 λas' e4 e3=>(SK e3 λbs' e5 e3=>?_);cases e3;obtain⟨v1,r,rfl,da1,el⟩:=el.uncons;obtain⟨v2,r,rfl,da2,el⟩:=el.uncons;obtain rfl:=el.unnil;obtain⟨t1,l1,xs,rfl,k3⟩:=MZ da1 e4;obtain⟨t2,l2,ys,rfl,k4⟩:=MZ da2 e5;refine⟨t1,t2,l1,l2,xs,ys,rfl,(k3 H1 O2<|Wr.refl _ _).1,(k4 H1 O2<|Wr.refl _ _).1,q _ H1 O2 (x1.trans x2) (k1.trans k2) E2 λH' O' ex liv=>?_⟩;obtain⟨s1,el1⟩:=k3 H' O' ex;obtain⟨s2,el2⟩:=k4 H' O' ex;have n1:=el1.1;have n2:=el2.1;refine⟨λi hi=>⟨xs,ys,s1,s2,?_⟩,λi d hd=>?_⟩
  ·replace hi:(List.zipWith pr as bs).length<=i:=hi
   rw[List.length_zipWith]at hi;lia
  ·obtain⟨a,b,ha,hb,rfl⟩:=QW hd;obtain⟨x,hx,dx⟩:=el1.at ha;obtain⟨y,hy,dy⟩:=el2.at hb;refine⟨⟨xs,ys,x,y,s1,s2,hx,hy⟩,?_⟩;rintro v H'' ⟨p,x',y',rfl,hn,rfl,f1,f2⟩;have ex':=f1 xs s1;have ey':=f2 ys s2;rw[hx]at ex';rw[hy]at ey';cases ex';cases ey';have sm:=bq hn<|.tup [x,y];exact⟨sm,.tup ⟨bH,λz=>(liv p z).1 hn⟩ rfl ((El.cons dx<|El.one dy).same sm).2⟩
 ·cases e3
def HM{x1}(h:X.K=K)(hg:Gl X "zip")(hs:starEach [a,b] X.env=[(false,eval a X.env),(false,eval b X.env)])(hs2:starEach [b] X.env=[(false,eval b X.env)])(hm:X.mg "zip"=none)(ha:PE X a te)(hb:PE X b te2) :
  PI X (.Tuple es x1 ps) (.Call (.Name "zip" p) [a,b] [] pos) (OW K<|gE te<|gE te2 rB):=by
 subst h;exact Ld hg hm (mR ha (mR hb ae hs2)<|by rw[hs,hs2]) hs hs2
end
end VF22
namespace TS
open PySem PyProof.Rows
def fR{M:Model}{A:Around}{E:Sh->Si->Prop}{σ γ:Type}{X Y:StateT σ Sem γ}{p:Prop}{d:Decidable p}{Q:γ->σ->Prop}{st:σ}(h:p)(k:wpS M A E s X Q st):wpS M A E s (@ite _ p d X Y) Q st:=by rw[Ag h];exact k
def eP{M:Model}{A:Around}{E:Sh->Si->Prop}{σ γ:Type}{X Y:StateT σ Sem γ}{p:Prop}{d:Decidable p}{Q:γ->σ->Prop}{st:σ}(h:¬ p)(k:wpS M A E s Y Q st):wpS M A E s (@ite _ p d X Y) Q st:=by rw[Ak h];exact k
def HN{α β:Type}(f:α->β)(x:Sj α)(i j:Nat):(x.map f).swapIfInBounds i j=(x.swapIfInBounds i j).map f:=by grind
theorem nW{α β γ:Type}(f:α->β)(p q:γ->Nat):∀(l:Se γ)(x:Sj α),l.foldl (λa k=>a.swapIfInBounds (p k)<|q k) (x.map f)=(l.foldl (λa k=>a.swapIfInBounds (p k)<|q k) x).map f
 |[],x=>rfl
 | k::l,x=>by
  rw[Du,Du,HN];exact nW f p q l _
def xH(f:α->β)(x:Sj α)(i d:Nat):bubble (x.map f) i d=(bubble x i d).map f:=nW f _ _ _ x
def jk(f:α->β)(x:Sj α)(i j d:Nat):mirror (x.map f) i j d=(mirror x i j d).map f:=nW f _ _ _ x
structure Cm(prog:Program)(w:World)(A:Around)(s:Shared)(k:SortKind)(f:Nat->Keyed)(N:Nat)(c:Nat->Nat->Bool):Prop where
 lt:∀(E:Value->Shared->Prop)(Q:Bool->Shared->Prop)(g h:Nat),g<N->h<N->Q (c g h) s->wpAny (model prog w) A (keyLt' k (f g).1 (f h).1) Q E s
 irr:∀g,c g g=false
 tra:∀g h i,c g h=true->c h i=true->c g i=true
 neg:∀g h i,c g i=true->c g h=true\/c h i=true
def Bf(c:Nat->Nat->Ss)(g h:Nat):Prop:=c g h=true\/(c h g=false/\g<h)
structure Rp(k:SortKind)(f:Nat->Keyed)(N:Nat)(st:SortSt)(γ:Array Nat):Prop where
 arr:arrOf st=γ.map f
 kind:kindOf st=k
 fine:failedOf st=none
 perm:γ.Perm (Array.range N)
section
variable {prog:Su}{w:Sx}{A:Around}{E:Sh->Si->Prop}{s:Si}{k:SortKind}{f:Nat->Keyed}{N:Nat}{c:Nat->Nat->Ss}{st:SortSt}{γ:Sj Nat}
theorem Cm.asy(C:Cm prog w A s k f N c)(e:c g h=true):c h g=false:=by
 cases e':c h g with|false=>rfl|true=>exact absurd (C.tra g h g e e') (by rw[C.irr];exact Bool.noConfusion)
def Cm.le(C:Cm prog w A s k f N c)(e:Bf c g h):c h g=false:=by
 rcases e with e|e
 ·exact C.asy e
 ·exact e.1
theorem Cm.letr(C:Cm prog w A s k f N c)(e:c h g=false)(e':c i h=false):c i g=false:=by
 cases e2:c i g with
 |false=>rfl
 |true=>
  rcases C.neg i h g e2 with q|q
  ·rw[q]at e';exact e'
  ·rw[q]at e;exact e
theorem Cm.trans(C:Cm prog w A s k f N c)(e:Bf c g h)(e':Bf c h i):Bf c g i:=by
 cases e2:c g i with
 |true=>exact .inl e2
 |false=>
  refine .inr ⟨(C.letr (C.le e)<|C.le e'),?_⟩;rcases e with e|e
  ·rcases C.neg g i h e with q|q
   ·rw[q]at e2;cases e2
   ·rw[C.le e']at q;cases q
  ·rcases e' with e'|e'
   ·rcases C.neg h g i e' with q|q
    ·rw[e.1]at q;cases q
    ·rw[q]at e2;cases e2
   ·exact Cj e.2 e'.2
theorem Rp.size(R:Rp k f N st γ):γ.size=N:=by rw[R.perm.size_eq,Zl]
def Rp.bnd(R:Rp k f N st γ){i g:Nat}(e:γ[i]?=some g):g<N:=by
 have hm:g∈γ:=Array.mem_of_getElem? e;exact Array.mem_range.mp<|R.perm.mem_iff.mp hm
def Rp.at(R:Rp k f N st γ){i g:Nat}(e:γ[i]?=some g):(arrOf st)[i]?=some (f g):=by rw[R.arr,Bq,e];rfl
def Rp.put(R:Rp k f N st γ){γ':Sj Nat}(p:γ'.Perm γ)(e:x=γ'.map f):Rp k f N (setArr st x) γ':=⟨e,R.kind,R.fine,p.trans R.perm⟩
def v4(C:Cm prog w A s k f N c)(hk:kindOf st=k)(bg:g<N)(bh:h<N)(q:Q (some<|c g h) st):wpS (model prog w) A E s (lt' (f g)<|f h) Q st:=by
 rw[lt'_eq];refine Al<|BP ?_;subst hk;exact Al<|CD<|AQ<|C.lt _ _ g h bg bh ⟨rfl,Ai q⟩
def ly(C:Cm prog w A s k f N c)(R:Rp k f N st γ){i j g h:Nat}(ei:γ[i]?=some g)(ej:γ[j]?=some h){Q:Sf Ss->SortSt->Prop}(q:Q (some<|c g h) st):wpS (model prog w) A E s (ltAt' i j) Q st:=by
 rw[ltAt'_eq];refine Al<|BP ?_;dsimp only;rw[elem'_eq,elem'_eq,R.at ei,R.at ej];exact Al<|Ai<|Al<|Ai<|v4 C R.kind (R.bnd ei) (R.bnd ej) q
end
def Sg(c:Nat->Nat->Ss)(γ:Sj Nat)(lo hi:Nat):Prop:=∀i j g h,lo<=i->i<j->j<hi->γ[i]?=some g->γ[j]?=some h->Bf c g h
def Ow(γ:Sj Nat)(lo hi:Nat):Prop:=∀i g,lo<=i->i<hi->γ[i]?=some g->lo<=g/\g<hi
def Raw(γ:Sj Nat)(lo hi:Nat):Prop:=∀i,lo<=i->i<hi->γ[i]?=some i
def Out(γ γ':Sj Nat)(lo hi:Nat):Prop:=∀i,i<lo\/hi<=i->γ'[i]?=γ[i]?
def Out.refl(γ:Sj Nat)(lo hi:Nat):Out γ γ lo hi:=λ_ _=>rfl
section
variable {prog:Su}{w:Sx}{A:Around}{E:Sh->Si->Prop}{s:Si}{k:SortKind}{f:Nat->Keyed}{N:Nat}{c:Nat->Nat->Ss}{st:SortSt}{γ:Sj Nat}
def kn{γ:Sj Nat}(h:i<γ.size):∃g,γ[i]?=some g:=⟨_,Vi h⟩
def mid(h:l<u):l<=(l+u) / 2/\(l+u) / 2<u:=by lia
def QX(h:u-l<=m-y)(h1:t<u)(h2:l<=t):t-l<=m-(y+1):=by lia
def QY(h:u-l<=m-y)(h1:l<=t)(h2:t<u):u-(t+1)<=m-(y+1):=by lia
inductive Yz(γ:Array Nat)(a b i g:Nat):Prop
 | at_ (h:i=a) (e:γ[b]?=some g)
 | mid (j:Nat) (h:i=j+1) (k:a<=j) (l:j<b) (e:γ[j]?=some g)
 | lo (h:i<a) (e:γ[i]?=some g)
 | hi (h:b<i)
def qq(e:(if i=a then γ[b]? else if a<i/\i<=b then γ[i-1]? else γ[i]?)=some g):Yz γ a b i g:=by
 by_cases h:i=a
 ·rw[Ag h]at e;exact .at_ h e
 ·rw[Ak h]at e;by_cases h2:a<i/\i<=b
  ·rw[Ag h2]at e;obtain⟨j,rfl⟩:=Qe<|Yl<|A6 (Vh _) h2.1;exact .mid j rfl (Nat.le_of_lt_succ h2.1) h2.2 e
  ·rw[Ak h2]at e;by_cases h3:i<a
   ·exact .lo h3 e
   ·exact .hi<|Bm λz=>h2 ⟨BV (Cc h3)<|Az h,z⟩
def HP(hab:a<=b)(h:b<i):(if i=a then γ[b]? else if a<i/\i<=b then γ[i-1]? else γ[i]?)=γ[i]?:=by
 rw[Ak<|Yl<|A6 hab h,Ak λz=>Dk h z.2]
def OY(h:i<a):(if i=a then γ[b]? else if a<i/\i<=b then γ[i-1]? else γ[i]?)=γ[i]?:=by
 rw[Ak<|Zh h,Ak λz=>Nat.lt_asymm h z.1]
def Le(C:Cm prog w A s k f N c)(R:Rp k f N st γ){lo n ok:Nat}(hn:lo+n<=N)(h1:1<=ok)(hok:ok<=n)(sg:Sg c γ lo (lo+ok))(ow:Ow γ lo (lo+ok))(raw:Raw γ (lo+ok) N)
  {Q:Ss->SortSt->Prop}(q:∀(x:Sj Keyed)(γ':Sj Nat),Rp k f N (setArr st x) γ'->Sg c γ' lo (lo+n)->Ow γ' lo (lo+n)->Raw γ' (lo+n) N->Out γ γ' lo (lo+n)->Q true (setArr st x)) :
  wpS (model prog w) A E s (binarySort' lo n ok) Q st:=by
 rw[binarySort'_eq]
 refine Al (Av (Aw (I:=λm r VX=>r=(none,())/\∃x γ',VX=setArr st x/\Rp k f N VX γ'/\Sg c γ' lo (lo+m)/\Ow γ' lo (lo+m)/\Raw γ' (lo+m) N/\Out γ γ' lo (lo+m))
  (Q:=λr VX=>r=(none,())/\∃x γ',VX=setArr st x/\Rp k f N VX γ'/\Sg c γ' lo (lo+n)/\Ow γ' lo (lo+n)/\Raw γ' (lo+n) N/\Out γ γ' lo (lo+n)) ?step ?fin ?init) ?post)
 case post=>
  rintro r VX ⟨rfl,x,γ',rfl,R',a1,a2,a3,a4⟩;exact Ai<|q x γ' R' a1 a2 a3 a4
 case init=>
  rw[show max ok 1=ok by lia]
  exact⟨rfl,arrOf st,γ,rfl,R,sg,ow,raw,Out.refl _ _ _⟩
 case fin=>
  rintro r VX h;rw[show max (max ok 1) n=n by lia]at h
  exact h
 case step=>
  rintro m r VX hm hmn ⟨rfl,x,γ',rfl,R',a1,a2,a3,a4⟩;have em:γ'[lo+m]?=some (lo+m):=a3 (lo+m) (Qa _) (by lia)
  refine Al (Av (Aw (I:=λy r st''=>st''=setArr st x/\∃l u,r=(none,l,u)/\l<=u/\u<=m/\u-l<=m-y /\
    (∀i g,lo<=i->i<lo+l->γ'[i]?=some g->c (lo+m) g=false)/\(∀i g,lo+u<=i->i<lo+m->γ'[i]?=some g->c (lo+m) g=true))
   (Q:=λr st''=>st''=setArr st x/\∃l u,r=(none,l,u)/\l<=m /\
    (∀i g,lo<=i->i<lo+l->γ'[i]?=some g->c (lo+m) g=false)/\(∀i g,lo+l<=i->i<lo+m->γ'[i]?=some g->c (lo+m) g=true)) ?istep ?ifin ?iinit) ?ipost)
  case iinit=>exact⟨rfl,0,m,rfl,by lia,by lia,by lia,λi g p1 p2=>by lia,λi g p1 p2=>by lia⟩
  case ifin=>
   rintro r st'' ⟨rfl,l,u,rfl,b1,b2,b3,b4,b5⟩;obtain rfl:l=u:=by lia
   exact⟨rfl,l,l,rfl,b2,b4,b5⟩
  case istep=>
   rintro y r st'' _ hy ⟨rfl,l,u,rfl,b1,b2,b3,b4,b5⟩;dsimp only;by_cases hge:l ≥ u
   ·refine fR hge ?_;obtain rfl:l=u:=by lia
    exact Ai ⟨rfl,l,l,rfl,b2,b4,b5⟩
   ·refine eP hge ?_;have hq:l<=(l+u) / 2/\(l+u) / 2<u:=mid<|Bm hge;generalize (l+u) / 2=t at hq;obtain⟨q1,q2⟩:=hq;have q3:t-l<=m-(y+1):=QX b3 q2 q1;have q4:u-(t+1)<=m-(y+1):=QY b3 q1 q2;obtain⟨g,eg⟩:=kn (γ:=γ') (i:=lo+t) (by rw[R'.size];lia)
    refine Al<|ly C R' em eg ?_;cases hc:c (lo+m) g with
    |true=>
     refine Ai ⟨rfl,l,t,rfl,q1,by lia,q3,b4,λi g' p1 p2 e=>?_⟩
     by_cases hi:i=lo+t
     ·subst hi;rw[eg]at e;cases e;exact hc
     ·have bf:=a1 _ i g g' (by lia) (by lia) p2 eg e
      rcases C.neg _ g' _ hc with z|z
      ·exact z
      ·rw[C.le bf]at z;cases z
    |false=>
     refine Ai ⟨rfl,t+1,u,rfl,q2,b2,q4,λi g' p1 p2 e=>?_,b5⟩;by_cases hi:i=lo+t
     ·subst hi;rw[eg]at e;cases e;exact hc
     ·have bf:=a1 i _ g' g p1 (by lia) (by lia) e eg
      exact C.letr (C.le bf) hc
  case ipost=>
   rintro r st'' ⟨rfl,l,u,rfl,b2,b4,b5⟩;show wpS _ _ _ _ (do moveDown' (lo+m)<|lo+l;pure (ForInStep.yield (none,()))) _ _
   rw[moveDown'_eq];have hs:lo+m<γ'.size:=by rw[R'.size];lia
   have gb:=getElem?_bubble hs (lo+m-(lo+l))<|Nat.sub_le _ _;rw[Nat.sub_sub_self<|Zk b2 lo]at gb;refine Al<|BC<|Ai ⟨rfl,bubble x (lo+m)<|lo+m-(lo+l),bubble γ' (lo+m)<|lo+m-(lo+l),rfl,R'.put (bubble_perm _ _ _) ?_,?_,?_,?_,?_⟩
   ·rw[R'.arr,xH]
   ·intro i j g h p1 p2 p3 e1 e2;rw[gb]at e1 e2;cases qq e1 with
    |at_ y e1=>
     rw[em]at e1;cases e1;cases qq e2 with|at_ z e2=>lia|mid j' z z1 z2 e2=>exact .inl (b5 _ h z1 z2 e2)|lo z e2=>lia|hi z=>lia
    |mid i' y y1 y2 e1=>
     cases qq e2 with|at_ z e2=>lia|mid j' z z1 z2 e2=>exact a1 _ _ g h (Ve (Wm _ _) y1) (by lia) z2 e1 e2|lo z e2=>lia|hi z=>lia
    |lo y e1=>
     have ym:i<lo+m:=Qd y<|Zk b2 lo;cases qq e2 with
     |at_ z e2=>
      rw[em]at e2;cases e2;exact .inr ⟨b4 i g p1 y e1,(a2 i g p1 ym e1).2⟩
     |mid j' z z1 z2 e2=>exact a1 i _ g h p1 (Qd y z1) z2 e1 e2
     |lo z e2=>exact a1 i j g h p1 p2 (Qd z<|Zk b2 lo) e1 e2
     |hi z=>lia
    |hi y=>lia
   ·intro i g p1 p2 e;rw[gb]at e;cases qq e with
    |at_ z e=>rw[em]at e;cases e;exact⟨Wm _ _,AW _⟩
    |mid j z z1 z2 e=>exact⟨(a2 _ g (Ve (Wm _ _) z1) z2 e).1,Bs (a2 _ g (Ve (Wm _ _) z1) z2 e).2⟩
    |lo z e=>
     have ym:i<lo+m:=Qd z<|Zk b2 lo;exact⟨(a2 i g p1 ym e).1,Bs (a2 i g p1 ym e).2⟩
    |hi z=>lia
   ·intro i p1 p2;rw[gb,HP (Zk b2 lo) p1];exact a3 i (Ym p1) p2
   ·intro i p;rw[gb];rcases p with p|p
    ·rw[OY<|Qd p<|Wm _ _];exact a4 i<|.inl p
    ·rw[HP (Zk b2 lo) p];exact a4 i<|.inr<|Ym p
end
section
variable {γ:Sj Nat}
def Sg.more(C:Cm prog w A s k f N c){lo n g h:Nat}(sg:Sg c γ lo n)(h1:lo<n)(e:γ[n-1]?=some g)(e':γ[n]?=some h)(b:Bf c g h):Sg c γ lo (n+1):=by
 intro i j g' h' p1 p2 p3 e1 e2;by_cases hj:j<n
 ·exact sg i j g' h' p1 p2 hj e1 e2
 ·obtain rfl:j=n:=by lia
  rw[e']at e2;cases e2;by_cases hi:i=j-1
  ·subst hi;rw[e]at e1;cases e1;exact b
  ·exact C.trans (sg i (j-1) g' g p1 (by lia) (by lia) e1 e) b
def v6(C:Cm prog w A s k f N c){lo x h:Nat}(sg:Sg c γ lo (lo+x))(ow:Ow γ lo (lo+x))(raw:Raw γ (lo+x) N)(h1:1<=x)(hx:lo+x<N)(e:γ[lo+x-1]?=some h)(hc:c (lo+x) h=false) :
  Sg c γ lo (lo+(x+1))/\Ow γ lo (lo+(x+1))/\Raw γ (lo+(x+1)) N:=by
 have en:=raw (lo+x) (Qa _) hx;refine⟨sg.more C (by lia) e en<|.inr ⟨hc,(ow _ h (by lia) (by lia) e).2⟩,λi g p1 p2 e1=>?_,λi p1 p2=>raw i (by lia) p2⟩
 by_cases hi:i<lo+x
 ·have:=ow i g p1 hi e1;lia
 ·obtain rfl:i=lo+x:=by lia
  rw[en]at e1;cases e1;lia
structure Fl(c:Nat->Nat->Bool)(γ:Array Nat)(lo m n:Nat):Prop where
 le:lo<=m
 lt:m<n
 fall:∀i j g h,lo<=i->i<j->j<m->γ[i]?=some g->γ[j]?=some h->Bf c h g
 cross:∀i j g h,lo<=i->i<m->m<=j->j<n->γ[i]?=some g->γ[j]?=some h->c h g=true
 same:∀i j g h,m<=i->i<n->m<=j->j<n->γ[i]?=some g->γ[j]?=some h->c g h=false
 raw:Raw γ m n
 own:Ow γ lo n
def Fa(c:Nat->Nat->Ss)(γ:Sj Nat)(lo n:Nat):Prop:=∀i j g h,lo<=i->i<j->j<n->γ[i]?=some g->γ[j]?=some h->Bf c h g
def mi(hn:n<=γ.size)(h1:a<=i)(h2:i<n):∃i',a<=i'/\i'<n/\i+i'+1=a+n/\(mirror γ a n<|(n-a) / 2)[i]?=γ[i']? :=
 ⟨a+n-1-i,by lia,by lia,by lia,by rw[getElem?_mirror_all hn,Ag ⟨h1,h2⟩]⟩
def jm(hn:n<=γ.size)(h:i<a\/n<=i):(mirror γ a n<|(n-a) / 2)[i]?=γ[i]?:=by
 rw[getElem?_mirror_all hn,Ak λz=>h.elim (λq=>Dk q z.1) λq=>Dk z.2 q]
def Fh{lo n:Nat}(fa:Fa c γ lo n)(hn:n<=γ.size):Sg c (mirror γ lo n<|(n-lo) / 2) lo n:=by
 intro i j g h p1 p2 p3 e1 e2;obtain⟨i',a1,a2,a3,a4⟩:=mi (γ:=γ) hn p1<|Cj p2 p3;obtain⟨j',b1,b2,b3,b4⟩:=mi (γ:=γ) hn (Ve p1<|Ym p2) p3;exact fa j' i' h g b1 (by lia) a2 (b4 ▸ e2)<|a4 ▸ e1
def lz{lo a n:Nat}(ow:Ow γ lo n)(ha:lo<=a)(hn:n<=γ.size):Ow (mirror γ a n<|(n-a) / 2) lo n:=by
 intro i g p1 p2 e;by_cases hi:a<=i
 ·obtain⟨i',a1,a2,a3,a4⟩:=mi (γ:=γ) hn hi p2;exact ow i' g (Ve ha a1) a2<|a4 ▸ e
 ·rw[jm hn<|.inl<|Bm hi]at e;exact ow i g p1 p2 e
def gM(raw:Raw γ n m)(hn:n<=γ.size):Raw (mirror γ a n<|(n-a) / 2) n m:=by
 intro i p1 p2;rw[jm hn<|.inr p1];exact raw i p1 p2
def jn{lo a n:Nat}{γ':Sj Nat}(o:Out γ γ' lo n)(ha:lo<=a)(hn:n<=γ'.size):Out γ (mirror γ' a n<|(n-a) / 2) lo n:=by
 intro i p;rw[jm hn<|p.imp (λq=>Qd q ha) id];exact o i p
def Out.wide{lo n n':Nat}{γ':Sj Nat}(o:Out γ γ' lo n)(h:n<=n'):Out γ γ' lo n':=λi p=>o i (by lia)
def Fl.turn{lo m n:Nat}(F:Fl c γ lo m n)(hn:n<=γ.size):Fa c (mirror γ m n<|(n-m) / 2) lo n:=by
 intro i j g h p1 p2 p3 e1 e2;by_cases hj:j<m
 ·rw[jm hn<|.inl<|Cj p2 hj]at e1;rw[jm hn<|.inl hj]at e2;exact F.fall i j g h p1 p2 hj e1 e2
 obtain⟨j',b1,b2,b3,b4⟩:=mi (γ:=γ) hn (Cc hj) p3;rw[b4]at e2;by_cases hi:i<m
 ·rw[jm hn<|.inl hi]at e1;exact .inl<|F.cross i j' g h p1 hi b1 b2 e1 e2
 ·obtain⟨i',a1,a2,a3,a4⟩:=mi (γ:=γ) hn (Cc hi)<|Cj p2 p3;rw[a4]at e1;refine .inr ⟨F.same i' j' g h a1 a2 b1 b2 e1 e2,?_⟩;rw[F.raw i' a1 a2]at e1;rw[F.raw j' b1 b2]at e2;cases e1;cases e2;lia
def Fl.fa1{lo m:Nat}(F:Fl c γ lo m (m+1)):Fa c γ lo (m+1):=by
 intro i j g h p1 p2 p3 e1 e2;by_cases hj:j<m
 ·exact F.fall i j g h p1 p2 hj e1 e2
 ·exact .inl<|F.cross i j g h p1 (by lia) (by lia) p3 e1 e2
def Fa.next(C:Cm prog w A s k f N c){lo n g:Nat}(fa:Fa c γ lo n)(ow:Ow γ lo n)(raw:Raw γ n N)(hl:lo<n)(hn:n<N)(z:∀i g,lo<=i->i<n->γ[i]?=some g->c n g=true):Fl c γ lo n (n+1):=by
 have en:=raw n (Qa _) hn;refine⟨by lia,by lia,fa,λi j g h p1 p2 p3 p4 e1 e2=>?_,λi j g h p1 p2 p3 p4 e1 e2=>?_,λi p1 p2=>raw i p1<|by lia,λi g p1 p2 e=>?_⟩
 ·obtain rfl:j=n:=by lia
  rw[en]at e2;cases e2;exact z i g p1 p2 e1
 ·obtain rfl:i=n:=by lia
  obtain rfl:j=i:=by lia
  rw[en]at e1 e2;cases e1;cases e2;exact C.irr _
 ·by_cases hi:i<n
  ·have:=ow i g p1 hi e;lia
  ·obtain rfl:i=n:=by lia
   rw[en]at e;cases e;lia
def Fl.more(C:Cm prog w A s k f N c){lo m n:Nat}(F:Fl c γ lo m n)(raw:Raw γ n N)(hn:n<N)(z1:c n (n-1)=false)(z2:c (n-1) n=false):Fl c γ lo m (n+1):=by
 have en:=raw n (Qa _) hn;have ep:=F.raw (n-1) (by have:=F.lt;lia) (by have:=F.lt;lia)
 have hlt:=F.lt;have hle:=F.le;refine⟨hle,by lia,F.fall,λi j g h p1 p2 p3 p4 e1 e2=>?_,λi j g h p1 p2 p3 p4 e1 e2=>?_,λi p1 p2=>?_,λi g p1 p2 e=>?_⟩
 ·by_cases hj:j<n
  ·exact F.cross i j g h p1 p2 p3 hj e1 e2
  ·obtain rfl:j=n:=by lia
   rw[en]at e2;cases e2;rcases C.neg _ j _ (F.cross i (j-1) g (j-1) p1 p2 (by lia) (by lia) e1 ep) with q|q
   ·rw[z2]at q;cases q
   ·exact q
 ·have key:∀a g,m<=a->a<n+1->γ[a]?=some g->c g (n-1)=false/\c (n-1) g=false:=by
   intro a g q1 q2 e;by_cases ha:a<n
   ·exact⟨F.same a (n-1) g (n-1) q1 ha (by lia) (by lia) e ep,F.same (n-1) a (n-1) g (by lia) (by lia) q1 ha ep e⟩
   ·obtain rfl:a=n:=by lia
    rw[en]at e;cases e;exact⟨z1,z2⟩
  exact C.letr (key j h p3 p4 e2).2 (key i g p1 p2 e1).1
 ·by_cases hi:i<n
  ·exact F.raw i p1 hi
  ·exact raw i (by lia) (by lia)
 ·by_cases hi:i<n
  ·have:=F.own i g p1 hi e;lia
  ·obtain rfl:i=n:=by lia
   rw[en]at e;cases e;lia
def Fl.below(C:Cm prog w A s k f N c){lo m n x:Nat}(F:Fl c γ lo m n)(z:c x (n-1)=true):∀i g,lo<=i->i<n->γ[i]?=some g->c x g=true:=by
 have hlt:=F.lt;have ep:=F.raw (n-1) (by lia) (by lia)
 intro i g p1 p2 e;rcases C.neg x g _ z with q|q
 ·exact q
 ·by_cases hi:i<m
  ·exact absurd (F.cross i (n-1) g (n-1) p1 hi (by lia) (by lia) e ep) (by rw[C.asy q];exact Bool.noConfusion)
  ·rw[F.same i (n - 1) g (n - 1) (by lia) p2 (by lia) (by lia) e ep]at q;cases q
end
section
variable {prog:Su}{w:Sx}{A:Around}{E:Sh->Si->Prop}{s:Si}{k:SortKind}{f:Nat->Keyed}{N:Nat}{c:Nat->Nat->Ss}{st:SortSt}{γ:Sj Nat}
def Rn(k:SortKind)(f:Nat->Keyed)(N:Nat)(c:Nat->Nat->Ss)(lo:Nat)(st:SortSt)(γ:Sj Nat)(n:Nat)(VX:SortSt):Prop :=
 ∃x γ',VX=setArr st x/\Rp k f N VX γ'/\Sg c γ' lo (lo+n)/\Ow γ' lo (lo+n)/\Raw γ' (lo+n) N/\Out γ γ' lo (lo+n)
def v8(lo n nrem:Nat):StateT SortSt Sem (Sf Nat):=do
 reverseSlice' lo (lo+n)
 let r <-forIn [n:nrem] ((none,n):Sf (Sf Nat)×Nat) λ_ r=>do
  match <-ltAt' (lo+r.2) (lo+r.2-1) with|some smaller=>if smaller=true then pure (ForInStep.done (none,r.2)) else pure (ForInStep.yield (none,r.2+1))|_=>pure<|ForInStep.done (some none,r.2)
 match r.1 with|some z=>pure z|none=>pure<|some r.2
def qr(lo x nrem:Nat):StateT SortSt Sem (Sf Nat):=do
 liftM (rule "list.sort.descending-run")
 let r <-forIn [x+1:nrem] ((none,x+1,0):Sf (Sf Nat)×Nat×Nat) λ_ r=>do
  match <-ltAt' (lo+r.2.1) (lo+r.2.1-1) with
  |some smaller=>
   if smaller=true then
    if r.2.2 > 0 then do
     reverseSlice' (lo+r.2.1-(r.2.2+1)) (lo+r.2.1)
     pure (ForInStep.yield (none,r.2.1+1,0))
    else pure (ForInStep.yield (none,r.2.1+1,0))
   else do
    match <-ltAt' (lo+r.2.1-1) (lo+r.2.1) with|some larger=>if larger=true then pure (ForInStep.done (none,r.2.1,r.2.2)) else pure (ForInStep.yield (none,r.2.1+1,r.2.2+1))|_=>pure<|ForInStep.done (some none,r.2.1,r.2.2)
  |_=>pure<|ForInStep.done (some none,r.2.1,r.2.2)
 match r.1 with
 |some z=>pure z
 |none=>
  if r.2.2 > 0 then do
   reverseSlice' (lo+r.2.1-(r.2.2+1)) (lo+r.2.1)
   v8 lo r.2.1 nrem
  else v8 lo r.2.1 nrem
def ut(h:Q () (setArr st<|mirror (arrOf st) i j<|(j-i) / 2)):wpS (model prog w) A E s (reverseSlice' i j) Q st:=by
 rw[reverseSlice'_eq];exact BC h
def zq(C:Cm prog w A s k f N c){st₀:SortSt}{γ₀:Sj Nat}{lo n:Nat}{y:Sj Keyed}(R:Rp k f N (setArr st₀ y) γ)(h1:1<=n)(hn:lo+n<=N)(fa:Fa c γ lo (lo+n))(ow:Ow γ lo (lo+n))(raw:Raw γ (lo+n) N)(out:Out γ₀ γ lo (lo+n))
  {Q:Sf Nat->SortSt->Prop}(q:∀n VX,1<=n->lo+n<=N->Rn k f N c lo st₀ γ₀ n VX->Q (some n) VX):wpS (model prog w) A E s (v8 lo n<|N-lo) Q (setArr st₀ y):=by
 have hs:lo+n<=γ.size:=by rw[R.size];exact hn
 refine Al<|ut ?_;have R1:Rp k f N (setArr st₀<|mirror y lo (lo+n)<|(lo+n-lo) / 2) (mirror γ lo (lo+n)<|(lo+n-lo) / 2):=R.put (mirror_perm _ _ _ _) (by rw[show y=γ.map f from R.arr,jk])
 have sg:=Fh fa hs;have ow':=lz ow (Qa lo) hs;have raw':=gM (a:=lo) raw hs;have out':=jn out (Qa lo) hs;generalize mirror γ lo (lo+n) ((lo+n-lo) / 2)=δ at R1 sg ow' raw' out';generalize mirror y lo (lo+n) ((lo+n-lo) / 2)=y' at R1
 refine Al (Av (Aw (I:=λx r VX=>VX=setArr st₀ y'/\r=(none,x)/\n<=x/\lo+x<=N/\Sg c δ lo (lo+x)/\Ow δ lo (lo+x)/\Raw δ (lo+x) N)
  (Q:=λr VX=>VX=setArr st₀ y'/\∃x,r=(none,x)/\n<=x/\lo+x<=N/\Sg c δ lo (lo+x)/\Ow δ lo (lo+x)/\Raw δ (lo+x) N) ?step ?fin ?init) ?post)
 case init=>exact⟨rfl,rfl,Qa _,hn,sg,ow',raw'⟩
 case fin=>
  rintro r VX ⟨rfl,rfl,b1,b2,b3,b4,b5⟩;exact⟨rfl,_,rfl,b1,b2,b3,b4,b5⟩
 case step=>
  rintro x r VX p1 p2 ⟨rfl,rfl,b1,b2,b3,b4,b5⟩;dsimp only;have en:=b5 (lo+x) (by lia) (by lia)
  obtain⟨g,ep⟩:=kn (γ:=δ) (i:=lo+x-1) (by rw[R1.size];lia)
  refine Al<|ly C R1 en ep ?_;cases hc:c (lo+x) g with
  |true=>exact Ai ⟨rfl,x,rfl,b1,b2,b3,b4,b5⟩
  |false=>
   obtain⟨a1,a2,a3⟩:=v6 C b3 b4 b5 (by lia) (by lia) ep hc
   exact Ai ⟨rfl,rfl,by lia,by lia,a1,a2,a3⟩
 case post=>
  rintro r VX ⟨rfl,x,rfl,b1,b2,b3,b4,b5⟩;exact Ai<|q x _ (by lia) b2 ⟨y',δ,rfl,R1,b3,b4,b5,out'.wide<|by lia⟩
def zr(C:Cm prog w A s k f N c){st₀:SortSt}{γ₀:Sj Nat}{lo x:Nat}{y:Sj Keyed}(R:Rp k f N (setArr st₀ y) γ)(hx:lo+x<N)(F:Fl c γ lo (lo+x) (lo+x+1))(raw:Raw γ (lo+x+1) N)(out:Out γ₀ γ lo (lo+x+1))
  {Q:Sf Nat->SortSt->Prop}(q:∀n VX,1<=n->lo+n<=N->Rn k f N c lo st₀ γ₀ n VX->Q (some n) VX):wpS (model prog w) A E s (qr lo x<|N-lo) Q (setArr st₀ y):=by
 refine Al<|CD<|AF ⟨rfl,?_⟩
 refine Al (Av (Aw (I:=λn r VX=>∃e y' δ,r=(none,n,e)/\VX=setArr st₀ y'/\Rp k f N (setArr st₀ y') δ/\e+1<=n/\lo+n<=N/\Fl c δ lo (lo+n-(e+1)) (lo+n)/\Raw δ (lo+n) N/\Out γ₀ δ lo (lo+n))
  (Q:=λr VX=>∃n e y' δ,r=(none,n,e)/\VX=setArr st₀ y'/\Rp k f N (setArr st₀ y') δ/\e+1<=n/\lo+n<=N/\Fl c δ lo (lo+n-(e+1)) (lo+n)/\Raw δ (lo+n) N/\Out γ₀ δ lo (lo+n)) ?step ?fin ?init) ?post)
 case init=>exact⟨0,y,γ,rfl,rfl,R,by lia,by lia,F,raw,out⟩
 case fin=>
  rintro r VX ⟨e,y',δ,h⟩;exact⟨_,e,y',δ,h⟩
 case step=>
  rintro n r VX p1 p2 ⟨e,y',δ,rfl,rfl,R1,b1,b2,F1,raw1,out1⟩;dsimp only;have en:=raw1 (lo+n) (Qa _) (by lia)
  have s1:1<=lo+n:=by lia
  have ep:=F1.raw (lo+n-1) (Nat.sub_le_sub_left (Dj<|Vh e) _)<|Nat.sub_lt s1 Nat.one_pos;have hs:lo+n<=δ.size:=by rw[R1.size];exact b2
  refine Al<|ly C R1 en ep ?_;cases hc:c (lo+n) (lo+n-1) with
  |true=>
   dsimp only;refine fR rfl ?_;have bl:=F1.below C hc;by_cases he:e > 0
   ·refine fR he<|Al<|ut<|Ai ?_;have fa:=F1.turn hs;have ow':=lz F1.own F1.le hs;have raw':=gM (a:=lo+n-(e+1)) raw1 hs;have out':=jn out1 F1.le hs;refine⟨0,_,mirror δ (lo+n-(e+1)) (lo+n)<|(lo+n-(lo+n-(e+1))) / 2,rfl,rfl,R1.put (mirror_perm _ _ _ _)<|by rw[show arrOf (setArr st₀ y')=δ.map f from R1.arr,jk],by lia,by lia,(fa.next C (g:=0) ow' raw' (by lia) (by lia) λi g q1 q2 e1=>?_),λi q1 q2=>raw' i (by lia) q2,out'.wide<|by lia⟩
    by_cases hi:lo+n-(e+1)<=i
    ·obtain⟨i',a1,a2,_,a4⟩:=mi (γ:=δ) hs hi q2;exact bl i' g (Ve F1.le a1) a2<|a4 ▸ e1
    ·rw[jm hs<|.inl<|Bm hi]at e1;exact bl i g q1 q2 e1
   ·obtain rfl:e=0:=by lia
    refine eP he ?_;have F2:Fl c δ lo (lo+n-1) (lo+n-1+1):=by rw[BT s1];exact F1
    have fa:=F2.fa1;rw[BT s1]at fa;exact Ai ⟨0,y',δ,rfl,rfl,R1,by lia,by lia,fa.next C (g:=0) F1.own raw1 (by lia) (by lia) bl,λi q1 q2=>raw1 i (by lia) q2,out1.wide<|by lia⟩
  |false=>
   dsimp only;refine eP Bool.noConfusion<|Al<|ly C R1 ep en ?_;cases hc2:c (lo+n-1) (lo+n) with
   |true=>exact Ai ⟨n,e,y',δ,rfl,rfl,R1,b1,b2,F1,raw1,out1⟩
   |false=>
    refine Ai ⟨e+1,y',δ,rfl,rfl,R1,by lia,by lia,?_,λi q1 q2=>raw1 i (by lia) q2,out1.wide<|by lia⟩
    rw[show lo+(n+1) - (e+1+1)=lo+n - (e+1) from Nat.succ_sub_succ _ _];exact F1.more C raw1 (by lia) hc hc2
 case post=>
  rintro r VX ⟨n,e,y',δ,rfl,rfl,R1,b1,b2,F1,raw1,out1⟩;have hs:lo+n<=δ.size:=by rw[R1.size];exact b2
  have s1:1<=lo+n:=by lia
  dsimp only;by_cases he:e > 0
  ·exact fR he<|Al<|ut<|zq C (γ:=mirror δ (lo+n-(e+1)) (lo+n)<|(lo+n-(lo+n-(e+1))) / 2) (R1.put (mirror_perm _ _ _ _)<|by rw[show arrOf (setArr st₀ y')=δ.map f from R1.arr,jk]) (by lia) b2 (F1.turn hs) (lz F1.own F1.le hs) (gM (a:=lo+n-(e+1)) raw1 hs) (jn out1 F1.le hs) q
  ·obtain rfl:e=0:=by lia
   refine eP he ?_;have F2:Fl c δ lo (lo+n-1) (lo+n-1+1):=by rw[BT s1];exact F1
   have fa:=F2.fa1;rw[BT s1]at fa;exact zq C R1 (by lia) b2 fa F1.own raw1 out1 q
def OZ(C:Cm prog w A s k f N c)(R:Rp k f N st γ){lo:Nat}(hl:lo<N)(raw:Raw γ lo N)
  {Q:Sf Nat->SortSt->Prop}(q:∀n VX,1<=n->lo+n<=N->Rn k f N c lo st γ n VX->Q (some n) VX):wpS (model prog w) A E s (countRun' lo<|N-lo) Q st:=by
 rw[countRun'_eq];have sg1:Sg c γ lo (lo+1):=λi j g h p1 p2 p3=>by lia
 have ow1:Ow γ lo (lo+1):=λi g p1 p2 e=>by
  obtain rfl:i=lo:=by lia
  rw[raw i (Qa _) hl]at e;cases e;lia
 refine Al (Av (Aw (I:=λx r VX=>VX=st/\r=(none,x)/\1<=x/\lo+x<=N/\Sg c γ lo (lo+x)/\Ow γ lo (lo+x)/\∀i g h,lo<=i->i+1<lo+x->γ[i]?=some g->γ[i+1]?=some h->c h g=false)
  (Q:=λr VX=>VX=st/\∃x,r=(none,x)/\1<=x/\lo+x<=N/\Sg c γ lo (lo+x)/\Ow γ lo (lo+x)/\(lo+x=N\/c (lo+x) (lo+x-1)=true)) ?step ?fin ?init) ?post)
 case init=>exact⟨rfl,rfl,by lia,by lia,sg1,ow1,λi g h p1 p2=>by lia⟩
 case fin=>
  rintro r VX ⟨rfl,rfl,b1,b2,b3,b4,b5⟩;exact⟨rfl,_,rfl,b1,b2,b3,b4,.inl<|by lia⟩
 case step=>
  rintro x r VX p1 p2 ⟨rfl,rfl,b1,b2,b3,b4,b5⟩;dsimp only;have en:=raw (lo+x) (by lia) (by lia)
  have ep:=raw (lo+x-1) (by lia) (by lia)
  refine Al<|ly C R en ep ?_;cases hc:c (lo+x) (lo+x-1) with
  |true=>exact Ai ⟨rfl,x,rfl,b1,b2,b3,b4,.inr hc⟩
  |false=>
   obtain⟨a1,a2,_⟩:=v6 C b3 b4 (λi q1 q2=>raw i (by lia) q2) b1 (by lia) ep hc
   refine Ai ⟨rfl,rfl,by lia,by lia,a1,a2,λi g h q1 q2 e1 e2=>?_⟩
   rw[raw i q1<|by lia]at e1
   rw[raw (i+1) (by lia)<|by lia]at e2
   cases e1;cases e2;by_cases hi:i+1<lo+x
   ·exact b5 i i (i+1) q1 hi (raw _ q1<|by lia)<|raw _ (by lia)<|by lia
   ·obtain rfl:i=lo+x-1:=by lia
    rw[show lo+x - 1+1=lo+x by lia];exact hc
 case post=>
  rintro r VX ⟨rfl,x,rfl,b1,b2,b3,b4,b6⟩;dsimp only;by_cases hx:lo+x=N
  ·exact fR (by simp;lia)<|Ai<|q x _ b1 b2 ⟨_,γ,rfl,R,b3,b4,λi q1 q2=>raw i (by lia) q2,Out.refl _ _ _⟩
  ·refine eP (by simp;lia) ?_
   have hc:c (lo+x) (lo+x-1)=true:=b6.resolve_left hx;have hs:lo+x<=γ.size:=by rw[R.size];exact b2
   have raw':Raw γ (lo+x) N:=λi q1 q2=>raw i (by lia) q2
   by_cases h1:x > 1
   ·refine fR h1 (Al<|ly C R (raw lo (Qa _) hl) (raw (lo+x-1) (by lia)<|by lia) ?_)
    cases hr:c lo (lo+x-1) with
    |true=>exact Ai<|q x _ b1 b2 ⟨_,γ,rfl,R,b3,b4,raw',Out.refl _ _ _⟩
    |false=>
     dsimp only;refine eP Bool.noConfusion ?_;have le:∀a b,lo<=a->a<lo+x->lo<=b->b<lo+x->a<=b->c b a=false:=λa b p1 p2 p3 p4 p5=>by
      by_cases ab:a=b
      ·subst ab;exact C.irr _
      ·exact C.le<|b3 a b a b p1 (by lia) p4 (raw a p1<|by lia)<|raw b p3<|by lia
     have al:∀a b,lo<=a->a<lo+x->lo<=b->b<lo+x->c a b=false:=λa b p1 p2 p3 p4=>by
      by_cases ab:b<=a
      ·exact le b a p3 p4 p1 p2 ab
      ·cases hab:c a b with
       |false=>rfl
       |true=>
        rcases C.neg a lo b hab with z|z
        ·rw[le lo a (Qa _) (by lia) p1 p2 p1]at z;exact z.symm
        ·rcases C.neg lo (lo+x-1) b z with z|z
         ·rw[hr]at z;exact z.symm
         ·rw[le b (lo+x - 1) p3 p4 (by lia) (by lia)<|by lia]at z;exact z.symm
     have F0:Fl c γ lo lo (lo+x):=⟨Qa _,by lia,λi j g h p1 p2 p3=>by lia,λi j g h p1 p2=>by lia,λi j g h p1 p2 p3 p4 e1 e2=>by
      rw[raw i p1<|by lia]at e1
      rw[raw j p3<|by lia]at e2
      cases e1;cases e2
      exact al i j p1 p2 p3 p4,λi p1 p2=>raw i p1 (by lia),b4⟩
     refine Al<|ut ?_;refine(show ∀{m:StateT SortSt Sem (Sf Nat)}{t:SortSt},m=qr lo x (N-lo)->wpS (model prog w) A E s (qr lo x<|N-lo) Q t->wpS (model prog w) A E s m Q t from λe h=>e ▸ h) ?_
      (zr C (st₀:=VX) (γ₀:=γ) (γ:=mirror γ lo (lo+x) ((lo+x-lo) / 2)) (R.put (mirror_perm _ _ _ _) (by rw[R.arr,jk])) (by lia)
       ((F0.turn hs).next C (g:=0) (lz b4 (Qa _) hs) (gM (a:=lo) raw' hs) (by lia) (by lia) λi g p1 p2 e=>?_) (λi q1 q2=>gM (a:=lo) raw' hs i (by lia) q2) ((jn (Out.refl γ lo (lo+x)) (Qa _) hs).wide (by lia)) q)
     ·unfold qr v8;congr 1;funext _v;congr 1;funext z;obtain⟨z1,z2,z3⟩:=z;cases z1 with
      |some z1=>rfl
      |none=>
       dsimp only;split
       ·congr 1;funext _y;congr 1;funext _u;congr 1;funext z;obtain⟨z1,z2⟩:=z;cases z1<;>rfl
       ·congr 1;funext _u;congr 1;funext z;obtain⟨z1,z2⟩:=z;cases z1<;>rfl
     ·obtain⟨i',a1,a2,_,a4⟩:=mi (γ:=γ) hs p1 p2;exact F0.below C hc i' g a1 a2<|a4 ▸ e
   ·obtain rfl:x=1:=by lia
    refine eP h1 ?_;have fa:Fa c γ lo (lo+1):=λi j g h p1 p2 p3=>by lia
    refine(show ∀{m:StateT SortSt Sem (Sf Nat)},m=qr lo 1 (N-lo)->wpS (model prog w) A E s (qr lo 1<|N-lo) Q VX->wpS (model prog w) A E s m Q VX from λe h=>e ▸ h) ?_ (zr C (st₀:=VX) (y:=arrOf VX) (γ₀:=γ) (γ:=γ) R (by lia) (fa.next C (g:=0) b4 raw' (by lia) (by lia) λi g p1 p2 e=>?_) (λi q1 q2=>raw i (by lia) q2) (Out.refl _ _ _) q)
    ·unfold qr v8;congr 1;funext _v;congr 1;funext z;obtain⟨z1,z2,z3⟩:=z;cases z1 with
     |some z1=>rfl
     |none=>
      dsimp only;split
      ·congr 1;funext _y;congr 1;funext _u;congr 1;funext z;obtain⟨z1,z2⟩:=z;cases z1<;>rfl
      ·congr 1;funext _u;congr 1;funext z;obtain⟨z1,z2⟩:=z;cases z1<;>rfl
    obtain rfl:i=lo:=by lia
    rw[raw i (Qa _) hl]at e;cases e;exact hc
end
def By(left:Ss)(key:Keyed)(arr:Sj Keyed)(base i:Nat):StateT SortSt Sem (Sf Ss):=do
 let p <-elem' arr (base+i)
 if left then lt' p key else return (<-lt' key p).map (!·)
def VC:Ss->Keyed->Sj Keyed->Nat->Nat->Nat->StateT SortSt Sem (Sf Nat):=sortPriv% PySem.Builtin.gallop
section
variable {prog:Su}{w:Sx}{A:Around}{E:Sh->Si->Prop}{s:Si}{k:SortKind}{f:Nat->Keyed}{N:Nat}{c:Nat->Nat->Ss}{st:SortSt}{δ:Sj Nat}
def bb(c:Nat->Nat->Ss)(left:Ss)(t g:Nat):Ss:=if left then c g t else !c t g
def zt(C:Cm prog w A s k f N c)(hk:kindOf st=k)(ht:t<N)(hg:g<N)(e:δ[base+i]?=some g)(q:Q (some<|bb c left t g) st) :
  wpS (model prog w) A E s (By left (f t) (δ.map f) base i) Q st:=by
 unfold By;rw[elem'_eq,Bq,e];refine Al<|Ai ?_;cases left with|true=>exact v4 C hk hg ht q|false=>exact Al<|v4 C hk ht hg<|Ai q
def HQ(left:Ss)(key:Keyed)(arr:Sj Keyed)(base n l h:Nat):StateT SortSt Sem (Sf Nat):=do
 let r <-forIn [0:n] ((none,l,h):Sf (Sf Nat)×Nat×Nat) λ_ r=>do
  if r.2.1 ≥ r.2.2 then pure (ForInStep.done (none,r.2.1,r.2.2)) else do
   match <-By left key arr base (r.2.1+(r.2.2-r.2.1) / 2) with|some mo=>if mo=true then pure (ForInStep.yield (none,r.2.1+(r.2.2-r.2.1) / 2+1,r.2.2)) else pure (ForInStep.yield (none,r.2.1,r.2.1+(r.2.2-r.2.1) / 2))|_=>pure<|ForInStep.done (some none,r.2.1,r.2.2)
 match r.1 with|some z=>pure z|none=>pure<|some r.2.2
def Tr(c:Nat->Nat->Ss)(left:Ss)(t base:Nat)(δ:Sj Nat)(m:Nat):Prop:=∀(i g:Nat),base<=i->i<base+m->δ[i]?=some g->bb c left t g=true
def Fs(c:Nat->Nat->Ss)(left:Ss)(t base n:Nat)(δ:Sj Nat)(m:Nat):Prop:=∀(i g:Nat),base+m<=i->i<base+n->δ[i]?=some g->bb c left t g=false
def Mo(c:Nat->Nat->Ss)(left:Ss)(t base n:Nat)(δ:Sj Nat):Prop:=∀(i j g h:Nat),base<=i->i<j->j<base+n->δ[i]?=some g->δ[j]?=some h->bb c left t h=true->bb c left t g=true
def Mo.tr(mo:Mo c left t base n δ)(hm:m<n)(e:δ[base+m]?=some g)(h:bb c left t g=true):Tr c left t base δ (m+1):=by grind [Mo,bb,Tr]
def Mo.fs(mo:Mo c left t base n δ)(hm:m<n)(e:δ[base+m]?=some g)(h:bb c left t g=false):Fs c left t base n δ m:=by grind [Mo,bb,Fs]
def R8(q:l<h):l<=l+(h-l) / 2/\l+(h-l) / 2<h:=by lia
def zu(C:Cm prog w A s k f N c)(hk:kindOf st=k)(ht:t<N)(hb:∀(i g:Nat),δ[i]?=some g->g<N)(hs:base+n<=δ.size)(mo:Mo c left t base n δ)
  (h1:l<=h)(h2:h<=n)(tr:Tr c left t base δ l)(fs:Fs c left t base n δ h)(q:∀m,m<=n->Tr c left t base δ m->Fs c left t base n δ m->Q (some m) st) :
  wpS (model prog w) A E s (HQ left (f t) (δ.map f) base n l h) Q st:=by
 refine Al (Av (Aw (I:=λx r VX=>VX=st/\∃l h,r=(none,l,h)/\l<=h/\h<=n/\h-l<=n-x/\Tr c left t base δ l/\Fs c left t base n δ h)
  (Q:=λr VX=>VX=st/\∃l,r=(none,l,l)/\l<=n/\Tr c left t base δ l/\Fs c left t base n δ l) ?step ?fin ?init) ?post)
 case init=>exact⟨rfl,l,h,rfl,h1,h2,by lia,tr,fs⟩
 case fin=>
  rintro r VX ⟨rfl,l,h,rfl,b1,b2,b3,b4,b5⟩;obtain rfl:l=h:=by lia
  exact⟨rfl,l,rfl,b2,b4,b5⟩
 case step=>
  rintro x r VX p1 p2 ⟨rfl,l,h,rfl,b1,b2,b3,b4,b5⟩;dsimp only;by_cases hlh:l ≥ h
  ·refine fR hlh ?_;obtain rfl:l=h:=by lia
   exact Ai ⟨rfl,l,rfl,b2,b4,b5⟩
  ·refine eP hlh ?_;obtain⟨q1,q2⟩:=R8<|Bm hlh;generalize l+(h-l) / 2=t' at q1 q2 ⊢;have q5:t'<n:=Qd q2 b2;obtain⟨g,e⟩:=kn (γ:=δ) (i:=base+t')<|Qd (Nat.add_lt_add_left q5 base) hs;refine Al<|zt C hk ht (hb _ _ e) e ?_;cases hc:bb c left t g with|true=>exact Ai ⟨rfl,_,_,rfl,q2,b2,QY b3 q1 q2,mo.tr q5 e hc,b5⟩|false=>exact Ai ⟨rfl,_,_,rfl,q1,Ym q5,QX b3 q2 q1,b4,mo.fs q5 e hc⟩
 case post=>
  rintro r VX ⟨rfl,l,rfl,b1,b2,b3⟩;exact Ai<|q l b1 b2 b3
def HR(C:Cm prog w A s k f N c)(hk:kindOf st=k)(ht:t<N)(hb:∀(i g:Nat),δ[i]?=some g->g<N)(hs:base+n<=δ.size)(hh:hint<n)(mo:Mo c left t base n δ)
  (q:∀m,m<=n->Tr c left t base δ m->Fs c left t base n δ m->Q (some m) st) :
  wpS (model prog w) A E s (VC left (f t) (δ.map f) base n hint) Q st:=by
 obtain⟨g0,e0⟩:=kn (γ:=δ) (i:=base+hint) (by lia)
 refine Al<|zt C hk ht (hb _ _ e0) e0 ?_;have sw:∀{m m':StateT SortSt Sem (Sf Nat)},m=m'->wpS (model prog w) A E s m' Q st->wpS (model prog w) A E s m Q st:=λe h=>e ▸ h;dsimp only;cases hc:bb c left t g0 with
 |true=>
  refine fR rfl ?_
  refine Al (Av (Aw (I:=λx r VX=>VX=st/\∃a o,r=(none,a,o)/\a<o/\x<o/\a<n-hint/\Tr c left t base δ (hint+a+1))
   (Q:=λr VX=>VX=st/\∃a o,r=(none,a,o)/\a<o/\a<n-hint/\Tr c left t base δ (hint+a+1)/\(n-hint<=o\/Fs c left t base n δ (hint+o))) ?step ?fin ?init) ?post)
  case init=>exact⟨rfl,0,1,rfl,by lia,by lia,by lia,mo.tr hh e0 hc⟩
  case fin=>
   rintro r VX ⟨rfl,a,o,rfl,b1,b2,b3,b4⟩;exact⟨rfl,a,o,rfl,b1,b3,b4,.inl<|by lia⟩
  case step=>
   rintro x r VX p1 p2 ⟨rfl,a,o,rfl,b1,b2,b3,b4⟩;dsimp only;by_cases ho:o ≥ n-hint
   ·exact fR ho<|Ai ⟨rfl,a,o,rfl,b1,b3,b4,.inl ho⟩
   ·refine eP ho ?_;obtain⟨g,e⟩:=kn (γ:=δ) (i:=base+(hint+o)) (by lia)
    refine Al<|zt C hk ht (hb _ _ e) e ?_;cases hc:bb c left t g with|true=>exact Ai ⟨rfl,o,2*o+1,rfl,by lia,by lia,by lia,mo.tr (by lia) e hc⟩|false=>exact Ai ⟨rfl,a,o,rfl,b1,b3,b4,.inr<|mo.fs (by lia) e hc⟩
  case post=>
   rintro r VX ⟨rfl,a,o,rfl,b1,b3,b4,b5⟩;refine sw (m':=HQ left (f t) (δ.map f) base n (hint+a+1)<|hint+min o (n-hint)) (by unfold HQ;dsimp only;congr 1;funext z;obtain⟨z1,z2,z3⟩:=z;cases z1<;>rfl)<|zu C hk ht hb hs mo (Zk (Nat.lt_min.mpr ⟨b1,b3⟩) hint) (Ve (Zk (Dl _ _) _)<|DS<|AU<|Ym hh) b4 ?_ q
   by_cases ho:n-hint<=o
   ·intro i g p1 p2;rw[Dm ho,AU<|Ym hh]at p1;exact absurd p2<|Nat.not_lt_of_le p1
   ·rw[Ba<|Nat.le_of_not_le ho];exact b5.resolve_left ho
 |false=>
  refine eP Bool.noConfusion ?_
  refine Al (Av (Aw (I:=λx r VX=>VX=st/\∃a o,r=(none,a,o)/\a<o/\x<o/\a<hint+1/\Fs c left t base n δ (hint-a))
   (Q:=λr VX=>VX=st/\∃a o,r=(none,a,o)/\a<o/\a<hint+1/\Fs c left t base n δ (hint-a)/\(hint+1<=o\/Tr c left t base δ (hint-o+1))) ?step ?fin ?init) ?post)
  case init=>exact⟨rfl,0,1,rfl,by lia,by lia,by lia,mo.fs hh e0 hc⟩
  case fin=>
   rintro r VX ⟨rfl,a,o,rfl,b1,b2,b3,b4⟩;exact⟨rfl,a,o,rfl,b1,b3,b4,.inl<|by lia⟩
  case step=>
   rintro x r VX p1 p2 ⟨rfl,a,o,rfl,b1,b2,b3,b4⟩;dsimp only;by_cases ho:o ≥ hint+1
   ·exact fR ho<|Ai ⟨rfl,a,o,rfl,b1,b3,b4,.inl ho⟩
   ·refine eP ho ?_;obtain⟨g,e⟩:=kn (γ:=δ) (i:=base+(hint-o)) (by lia)
    refine Al<|zt C hk ht (hb _ _ e) e ?_;cases hc:bb c left t g with|true=>exact Ai ⟨rfl,a,o,rfl,b1,b3,b4,.inr<|mo.tr (by lia) e hc⟩|false=>exact Ai ⟨rfl,o,2*o+1,rfl,by lia,by lia,by lia,mo.fs (by lia) e hc⟩
  case post=>
   rintro r VX ⟨rfl,a,o,rfl,b1,b3,b4,b5⟩;refine sw (m':=HQ left (f t) (δ.map f) base n (hint+1-min o (hint+1))<|hint-a) (by unfold HQ;dsimp only;congr 1;funext z;obtain⟨z1,z2,z3⟩:=z;cases z1<;>rfl)<|zu C hk ht hb hs mo (Nat.succ_sub_succ hint a ▸ Nat.sub_le_sub_left (Nat.lt_min.mpr ⟨b1,b3⟩) _) (Ve (Nat.sub_le _ _)<|Ym hh) ?_ b4 q
   by_cases ho:hint+1<=o
   ·intro i g p1 p2;rw[Dm ho,Ci]at p2;exact absurd p2<|Nat.not_lt_of_le p1
   ·rw[Ba<|Nat.le_of_not_le ho,Nat.succ_sub<|Nat.le_of_lt_succ<|Bm ho];exact b5.resolve_left ho
end
structure Mg(c:Nat->Nat->Bool)(α β ω la lb:List Nat):Prop where
 so:ω.Pairwise (Bf c)
 sa:la.Pairwise (Bf c)
 sb:lb.Pairwise (Bf c)
 xa:∀g∈ω,∀h∈la,Bf c g h
 xb:∀g∈ω,∀h∈lb,Bf c g h
 tag:∀g∈la,∀h∈lb,g<h
 perm:(ω++la++lb).Perm (α++β)
def Gd(c:Nat->Nat->Ss)(α β l:Se Nat):Prop:=l.Pairwise (Bf c)/\l.Perm (α++β)
section
def Mg.takeB(C:Cm prog w A s k f N c)(J:Mg c α β ω (x::la) (y::lb))(h:c y x=true):Mg c α β (ω++[y]) (x::la) lb:=by
 have sb:=Ye.mp J.sb;have ya:∀z∈x::la,Bf c y z:=λz hz=>by
  walk_at "G"
  ·exact .inl h
  ·exact C.trans (.inl h)<|(Ye.mp J.sa).1 z hz
 refine⟨?_,J.sa,sb.2,λg hg z hz=>?_,λg hg z hz=>?_,λg hg z hz=>J.tag g hg z<|Wb _ hz,?_⟩
 ·rw[Qh];exact⟨J.so,Wn _ _,λg hg z hz=>by rw[Wa.mp hz];exact J.xb g hg y Zc⟩
 ·walk_at "z"
  ·exact J.xa g hg z hz
  ·rw[Wa.mp hg];exact ya z hz
 ·walk_at "z"
  ·exact J.xb g hg z<|Wb _ hz
  ·rw[Wa.mp hg];exact sb.1 z hz
 ·refine List.Perm.trans ?_ J.perm;rw[Yd,Yd,Yd];exact AL ω<|(Vm (l₁:=x::la) (a:=y) (l₂:=lb)).symm
def Mg.takeA(C:Cm prog w A s k f N c)(J:Mg c α β ω (x::la) (y::lb))(h:c y x=false):Mg c α β (ω++[x]) la (y::lb):=by
 have sa:=Ye.mp J.sa;have xy:Bf c x y:=.inr ⟨h,J.tag x Zc y Zc⟩;refine⟨?_,sa.2,J.sb,λg hg z hz=>?_,λg hg z hz=>?_,λg hg z hz=>J.tag g (Wb _ hg) z hz,?_⟩
 ·rw[Qh];exact⟨J.so,Wn _ _,λg hg z hz=>by rw[Wa.mp hz];exact J.xa g hg x Zc⟩
 ·walk_at "z"
  ·exact J.xa g hg z<|Wb _ hz
  ·rw[Wa.mp hg];exact sa.1 z hz
 ·walk_at "z"
  ·exact J.xb g hg z hz
  ·rw[Wa.mp hg];walk_at "G"
   ·exact xy
   ·exact C.trans xy<|(Ye.mp J.sb).1 z hz
 ·refine List.Perm.trans ?_ J.perm;rw[Yd ω [x] la];exact List.Perm.refl _
theorem Mg.takeAs(C:Cm prog w A s k f N c):∀(l:Se Nat){ω la:Se Nat},Mg c α β ω (l++la) (y::lb)->(∀g∈l,c y g=false)->Mg c α β (ω++l) la (y::lb)
 |[],ω,la,J,_=>by rw[We];exact J
 | x::l,ω,la,J,h=>by
  have:=Mg.takeAs C l (J.takeA C<|h x Zc) λg hg=>h g<|Wb _ hg;rwa [Yd]at this
theorem Mg.takeBs(C:Cm prog w A s k f N c):∀(l:Se Nat){ω lb:Se Nat},Mg c α β ω (x::la) (l++lb)->(∀g∈l,c g x=true)->Mg c α β (ω++l) (x::la) lb
 |[],ω,lb,J,_=>by rw[We];exact J
 | y::l,ω,lb,J,h=>by
  have:=Mg.takeBs C l (J.takeB C<|h y Zc) λg hg=>h g<|Wb _ hg;rwa [Yd]at this
def Mg.doneA(J:Mg c α β ω la []):Gd c α β (ω++la):=by
 refine⟨Qh.mpr ⟨J.so,J.sa,J.xa⟩,?_⟩;have:=J.perm;rwa [We]at this
def Mg.doneB(J:Mg c α β ω [] lb):Gd c α β (ω++lb):=by
 refine⟨Qh.mpr ⟨J.so,J.sb,J.xb⟩,?_⟩;have:=J.perm;rwa [We]at this
def Mg.last(C:Cm prog w A s k f N c)(J:Mg c α β ω [x] lb)(h:∀g∈lb,c g x=true):Gd c α β (ω++lb++[x]):=by
 have J':Mg c α β ω [x] (lb++[]):=by rw[We];exact J
 exact(J'.takeBs C lb h).doneA
end
def ar(f:Nat->Keyed)(l:Se Nat):Sj Keyed:=l.toArray.map f
def Lw(f:Nat->Keyed)(c:Nat->Nat->Ss)(α β:Se Nat)(o:Sj Keyed)(i j:Nat):Prop:=∃ω,o=ar f ω/\Mg c α β ω (α.drop i) (β.drop j)
def Rt(f:Nat->Keyed)(c:Nat->Nat->Ss)(α β:Se Nat)(o:Sj Keyed):Prop:=∃l,o=ar f l/\Gd c α β l
section
variable {α β:Se Nat}{o:Sj Keyed}
def gh(l:Se Nat):(ar f l).size=l.length:=by simp[ar]
def pF(l:Se Nat)(g:Nat):(ar f l).push (f g)=ar f (l++[g]):=by simp[ar]
def fW(l m:Se Nat):ar f l++ar f m=ar f (l++m):=by simp[ar]
def mj(l:Se Nat)(p q:Nat):(ar f l).extract p q=ar f ((l.drop p).take (q-p)):=by simp[ar,List.extract]
def uu(l:Se Nat)(p:Nat):(ar f l).extract p (ar f l).size=ar f (l.drop p):=by
 rw[mj,gh,Xl (by rw[Xi];exact Qa _)]
def QZ{l:Se Nat}{p g:Nat}(e:l[p]?=some g):(ar f l)[p]?=some (f g):=by simp[ar,e]
def qt{l:Se Nat}(e:l[p]?=some g):l.drop p=g::l.drop (p+1):=by
 obtain⟨h,rfl⟩:=Vb.mp e;exact Vl h
def Lw.b(C:Cm prog w A s k f N c)(L:Lw f c α β o i j)(hx:α[i]?=some x)(hy:β[j]?=some y)(h:c y x=true):Lw f c α β (o.push<|f y) i (j+1):=by
 walk_at "k";refine⟨ω++[y],pF _ _,?_⟩;rw[qt hx]at J ⊢;rw[qt hy]at J;exact J.takeB C h
def Lw.a(C:Cm prog w A s k f N c)(L:Lw f c α β o i j)(hx:α[i]?=some x)(hy:β[j]?=some y)(h:c y x=false):Lw f c α β (o.push<|f x) (i+1) j:=by
 walk_at "k";refine⟨ω++[x],pF _ _,?_⟩;rw[qt hy]at J ⊢;rw[qt hx]at J;exact J.takeA C h
def Lw.as(C:Cm prog w A s k f N c)(L:Lw f c α β o i j)(hy:β[j]?=some y)(h:∀p g,i<=p->p<i+u->α[p]?=some g->c y g=false):Lw f c α β (o++(ar f α).extract i (i+u)) (i+u) j:=by
 walk_at "k";refine⟨ω++(α.drop i).take u,by rw[mj,show i+u - i=u by lia,fW],?_⟩
 rw[qt hy]at J ⊢;refine Mg.takeAs C _ (la:=α.drop<|i+u) (by rw[<-BX,Vk];exact J) λg hg=>?_
 obtain⟨p,hp⟩:=List.mem_iff_getElem?.mp hg;rw[Bp]at hp;split at hp
 ·rw[Zg]at hp;exact h (i+p) g (by lia) (by lia) hp
 ·cases hp
def Lw.bs(C:Cm prog w A s k f N c)(L:Lw f c α β o i j)(hx:α[i]?=some x)(h:∀p g,j<=p->p<j+u->β[p]?=some g->c g x=true):Lw f c α β (o++(ar f β).extract j (j+u)) i (j+u):=by
 walk_at "k";refine⟨ω++(β.drop j).take u,by rw[mj,show j+u - j=u by lia,fW],?_⟩
 rw[qt hx]at J ⊢;refine Mg.takeBs C _ (lb:=β.drop<|j+u) (by rw[<-BX (i:=u) (j:=j),Vk];exact J) λg hg=>?_
 obtain⟨p,hp⟩:=List.mem_iff_getElem?.mp hg;rw[Bp]at hp;split at hp
 ·rw[Zg]at hp;exact h (j+p) g (by lia) (by lia) hp
 ·cases hp
def Lw.dn(L:Lw f c α β o i j)(h:j=β.length\/i=α.length):Rt f c α β (o++(ar f α).extract i (ar f α).size++(ar f β).extract j (ar f β).size):=by
 walk_at "k";rw[uu,uu,fW,fW];refine⟨_,rfl,?_⟩;rcases h with rfl|rfl
 ·rw[Do]at J ⊢;rw[We];exact J.doneA
 ·rw[Do]at J ⊢;rw[We];exact J.doneB
def Lw.la(C:Cm prog w A s k f N c)(L:Lw f c α β o i j)(hx:α[i]?=some x)(h:i+1=α.length)(z:∀g∈β,c g x=true):Rt f c α β (o++(ar f β).extract j (ar f β).size++(ar f α).extract i (ar f α).size):=by
 walk_at "k";rw[uu,uu,fW,fW];refine⟨_,rfl,?_⟩;rw[qt hx,h,Do]at J ⊢;exact J.last C λg hg=>z g<|BJ hg
end
inductive X6{A B R:Type}(g:A->B->R)(p:A->B->Prop):R->Prop|mk (a b) (h:p a b):X6 g p (g a b)
inductive XO{A B C D R:Type}(g:A->B->C->D->R)(p:A->B->C->D->Prop):R->Prop|mk (a b c d) (h:p a b c d):XO g p (g a b c d)
inductive X9{A B C D E R:Type}(g:A->B->C->D->E->R)(p:A->B->C->D->E->Prop):R->Prop|mk (a b c d e) (h:p a b c d e):X9 g p (g a b c d e)
inductive Yo{A B C D E F R:Type}(g:A->B->C->D->E->F->R)(p:A->B->C->D->E->F->Prop):R->Prop|mk (a b c d e f) (h:p a b c d e f):Yo g p (g a b c d e f)
def VO:Sj Keyed->Sj Keyed->StateT SortSt Sem (Sj Keyed):=sortPriv% PySem.Builtin.mergeLo
structure Sm(a b:SortSt):Prop where
 arr:arrOf b=arrOf a
 kind:kindOf b=kindOf a
 pend:pendingOf b=pendingOf a
 fine:failedOf b=failedOf a
def qu{M:Model}{A:Around}{E:Sh->Si->Prop}{σ γ:Type}{B:Nat->StateT σ Sem γ}{p:Prop}{d:Decidable p}{m2:Nat}{Q:γ->σ->Prop}{st:σ}(h:∀m,wpS M A E s (B m) Q st):∀m1,wpS M A E s (@ite _ p d (B m1)<|B m2) Q st:=by
 intro m1;by_cases hp:p
 ·rw[Ag hp];exact h _
 ·rw[Ak hp];exact h _
def pG{M:Model}{A:Around}{E:Sh->Si->Prop}{σ γ:Type}{X:StateT σ Sem γ}{B:Sj Keyed->Nat->StateT σ Sem γ}{p:Prop}{d:Decidable p}{o:Sj Keyed}{i:Nat}{Q:γ->σ->Prop}{st:σ}(I:Sj Keyed->Nat->Prop)
  (h:p->(∀o i,I o i->wpS M A E s (B o i) Q st)->wpS M A E s X Q st)(g:¬ p->I o i)(hB:∀o i,I o i->wpS M A E s (B o i) Q st):wpS M A E s (@ite _ p d X<|B o i) Q st:=by
 by_cases hp:p
 ·rw[Ag hp];exact h hp hB
 ·rw[Ak hp];exact hB _ _<|g hp
def Q0{M:Model}{A:Around}{E:Sh->Si->Prop}{σ γ O ρ A0 A1 A2 A3:Type}{lo hi:Nat}{F:Nat->Sf O×ρ->StateT σ Sem (ForInStep<|Sf O×ρ)}{K:Sf O×ρ->StateT σ Sem γ}(S:σ->Prop)(R:O->Prop)(g:A0->A1->A2->A3->ρ)(p:Nat->A0->A1->A2->A3->Prop)(p':A0->A1->A2->A3->Prop){Q:γ->σ->Prop}
  (step:∀x a b c d st,S st->p x a b c d->wpS M A E s (F x (none,g a b c d)) (λr VX=>match r with|.done c'=>S VX/\(X6 (λo z=>(some o,z)) (λo _=>R o) c'\/XO (λa b c d=>(none,g a b c d)) p' c')|.yield c'=>S VX/\XO (λa b c d=>(none,g a b c d)) (p<|x+1) c') st)
  (fin:∀a b c d,p (max lo hi) a b c d->False) {r:Sf O×ρ} {st:σ} (hS:S st) (init:XO (λa b c d=>(none,g a b c d)) (p lo) r) (sm:∀o z VX,S VX->R o->wpS M A E s (K (some o,z)) Q VX) (nn:∀a b c d VX,S VX->p' a b c d->wpS M A E s (K (none,g a b c d)) Q VX):wpS M A E s (forIn [lo:hi] r F >>= K) Q st:=by
 refine Al<|Av (Aw (I:=λx r st=>S st/\XO (λa b c d=>(none,g a b c d)) (p x) r) (Q:=λr st=>S st/\(X6 (λo z=>(some o,z)) (λo _=>R o) r\/XO (λa b c d=>(none,g a b c d)) p' r)) ?_ ?_ ⟨hS,init⟩) ?_
 ·rintro x r st _ _ ⟨h,a,b,c,d,z⟩;exact Av (step x a b c d st h z) λr VX h=>by cases r<;>exact h
 ·rintro r st ⟨_,a,b,c,d,z⟩;exact(fin a b c d z).elim
 ·rintro r st ⟨h,⟨o,z,h1⟩|⟨a,b,c,d,h1⟩⟩
  ·exact sm o z st h h1
  ·exact nn a b c d st h h1
def Q1{M:Model}{A:Around}{E:Sh->Si->Prop}{σ γ O ρ A0 A1 A2 A3 A4:Type}{lo hi:Nat}{F:Nat->Sf O×ρ->StateT σ Sem (ForInStep<|Sf O×ρ)}{K:Sf O×ρ->StateT σ Sem γ}(S:σ->Prop)(R:O->Prop)(g:A0->A1->A2->A3->A4->ρ)(p:Nat->A0->A1->A2->A3->A4->Prop)(p':A0->A1->A2->A3->A4->Prop){Q:γ->σ->Prop}
  (step:∀x a b c d e st,S st->p x a b c d e->wpS M A E s (F x (none,g a b c d e)) (λr VX=>match r with|.done c'=>S VX/\(X6 (λo z=>(some o,z)) (λo _=>R o) c'\/X9 (λa b c d e=>(none,g a b c d e)) p' c')|.yield c'=>S VX/\X9 (λa b c d e=>(none,g a b c d e)) (p<|x+1) c') st)
  (fin:∀a b c d e,p (max lo hi) a b c d e->False) {r:Sf O×ρ} {st:σ} (hS:S st) (init:X9 (λa b c d e=>(none,g a b c d e)) (p lo) r) (sm:∀o z VX,S VX->R o->wpS M A E s (K (some o,z)) Q VX) (nn:∀a b c d e VX,S VX->p' a b c d e->wpS M A E s (K (none,g a b c d e)) Q VX):wpS M A E s (forIn [lo:hi] r F >>= K) Q st:=by
 refine Al<|Av (Aw (I:=λx r st=>S st/\X9 (λa b c d e=>(none,g a b c d e)) (p x) r) (Q:=λr st=>S st/\(X6 (λo z=>(some o,z)) (λo _=>R o) r\/X9 (λa b c d e=>(none,g a b c d e)) p' r)) ?_ ?_ ⟨hS,init⟩) ?_
 ·rintro x r st _ _ ⟨h,a,b,c,d,e,z⟩;exact Av (step x a b c d e st h z) λr VX h=>by cases r<;>exact h
 ·rintro r st ⟨_,a,b,c,d,e,z⟩;exact(fin a b c d e z).elim
 ·rintro r st ⟨h,⟨o,z,h1⟩|⟨a,b,c,d,e,h1⟩⟩
  ·exact sm o z st h h1
  ·exact nn a b c d e st h h1
def Q2{M:Model}{A:Around}{E:Sh->Si->Prop}{σ γ O ρ A0 A1 A2 A3 A4 A5:Type}{lo hi:Nat}{F:Nat->Sf O×ρ->StateT σ Sem (ForInStep<|Sf O×ρ)}{K:Sf O×ρ->StateT σ Sem γ}(S:σ->Prop)(R:O->Prop)(g:A0->A1->A2->A3->A4->A5->ρ)(p:Nat->A0->A1->A2->A3->A4->A5->Prop)(p':A0->A1->A2->A3->A4->A5->Prop){Q:γ->σ->Prop}
  (step:∀x a b c d e f st,S st->p x a b c d e f->wpS M A E s (F x (none,g a b c d e f)) (λr VX=>match r with|.done c'=>S VX/\(X6 (λo z=>(some o,z)) (λo _=>R o) c'\/Yo (λa b c d e f=>(none,g a b c d e f)) p' c')|.yield c'=>S VX/\Yo (λa b c d e f=>(none,g a b c d e f)) (p<|x+1) c') st)
  (fin:∀a b c d e f,p (max lo hi) a b c d e f->False) {r:Sf O×ρ} {st:σ} (hS:S st) (init:Yo (λa b c d e f=>(none,g a b c d e f)) (p lo) r) (sm:∀o z VX,S VX->R o->wpS M A E s (K (some o,z)) Q VX) (nn:∀a b c d e f VX,S VX->p' a b c d e f->wpS M A E s (K (none,g a b c d e f)) Q VX):wpS M A E s (forIn [lo:hi] r F >>= K) Q st:=by
 refine Al<|Av (Aw (I:=λx r st=>S st/\Yo (λa b c d e f=>(none,g a b c d e f)) (p x) r) (Q:=λr st=>S st/\(X6 (λo z=>(some o,z)) (λo _=>R o) r\/Yo (λa b c d e f=>(none,g a b c d e f)) p' r)) ?_ ?_ ⟨hS,init⟩) ?_
 ·rintro x r st _ _ ⟨h,a,b,c,d,e,f,z⟩;exact Av (step x a b c d e f st h z) λr VX h=>by cases r<;>exact h
 ·rintro r st ⟨_,a,b,c,d,e,f,z⟩;exact(fin a b c d e f z).elim
 ·rintro r st ⟨h,⟨o,z,h1⟩|⟨a,b,c,d,e,f,h1⟩⟩
  ·exact sm o z st h h1
  ·exact nn a b c d e f st h h1
section
variable {prog:Su}{w:Sx}{A:Around}{E:Sh->Si->Prop}{s:Si}{k:SortKind}{f:Nat->Keyed}{N:Nat}{c:Nat->Nat->Ss}{st:SortSt}{α β:Se Nat}
def Sm.refl(a:SortSt):Sm a a:=⟨rfl,rfl,rfl,rfl⟩
theorem Sm.trans(x:Sm a b)(y:Sm b d):Sm a d:=⟨y.arr.trans x.arr,y.kind.trans x.kind,y.pend.trans x.pend,y.fine.trans x.fine⟩
structure Yp(c:Nat->Nat->Bool)(N:Nat)(α β:List Nat):Prop where
 sa:α.Pairwise (Bf c)
 sb:β.Pairwise (Bf c)
 tag:∀g∈α,∀h∈β,g<h
 ba:∀g∈α,g<N
 bb:∀g∈β,g<N
 na:α≠[]
 nb:β≠[]
 first:∀x y,α[0]?=some x->β[0]?=some y->c y x=true
 last:∀x,α[α.length-1]?=some x->∀g∈β,c g x=true
def Q3(e:l[i]?=some g)(q:Q (f g) st):wpS (model prog w) A E s (elem' (ar f l) i) Q st:=by
 rw[elem'_eq,QZ e];exact Ai q
def HS(C:Cm prog w A s k f N c){l:Se Nat}(hs:l.Pairwise (Bf c))(t base n:Nat):Mo c false t base n l.toArray:=by
 intro i j g h p1 p2 p3 e1 e2 z;have e1':l[i]?=some g:=by simpa using e1
 have e2':l[j]?=some h:=by simpa using e2
 obtain⟨hi,rfl⟩:=Vb.mp e1';obtain⟨hj,rfl⟩:=Vb.mp e2';have b:=C.le<|Qi.mp hs i j hi hj p2;simp only[bb,Wf,if_false,Bool.not_eq_true']at z ⊢;cases z2:c t l[i] with
 |false=>rfl
 |true=>
  rcases C.neg t l[j] l[i] z2 with q|q
  ·rw[z]at q;cases q
  ·rw[b]at q;cases q
def Lf(C:Cm prog w A s k f N c){l:Se Nat}(hs:l.Pairwise (Bf c))(t base n:Nat):Mo c true t base n l.toArray:=by
 intro i j g h p1 p2 p3 e1 e2 z;have e1':l[i]?=some g:=by simpa using e1
 have e2':l[j]?=some h:=by simpa using e2
 obtain⟨hi,rfl⟩:=Vb.mp e1';obtain⟨hj,rfl⟩:=Vb.mp e2';have b:=C.le<|Qi.mp hs i j hi hj p2;simp only[bb,if_true]at z ⊢;rcases C.neg l[j] l[i] t z with q|q
 ·rw[b]at q;cases q
 ·exact q
def O0(C:Cm prog w A s k f N c)(hk:kindOf st=k){l:Se Nat}(hs:l.Pairwise (Bf c))(hb:∀g∈l,g<N)(ht:t<N)(hz:base+n<=l.length)(hh:hint<n)
  (q:∀m,m<=n->(∀i g,base<=i->i<base+m->l[i]?=some g->bb c left t g=true)->(∀i g,base+m<=i->i<base+n->l[i]?=some g->bb c left t g=false)->Q (some m) st) :
  wpS (model prog w) A E s ((sortPriv% PySem.Builtin.gallop) left (f t) (ar f l) base n hint) Q st:=by
 show wpS (model prog w) A E s (VC left (f t) (ar f l) base n hint) Q st;have mo:Mo c left t base n l.toArray:=by
  cases left with|true=>exact Lf C hs t base n|false=>exact HS C hs t base n
 exact HR C hk ht (δ:=l.toArray) (λi g e=>hb g<|Va<|by simpa using e) (by simpa using hz) hh mo λm h1 h2 h3=>q m h1 (λi g p1 p2 e=>h2 i g p1 p2<|by simpa using e) λi g p1 p2 e=>h3 i g p1 p2 (by simpa using e)
def Q4(q:∀VX,Sm st VX->Q ⟨⟩ VX):wpS (model prog w) A E s ((sortPriv% PySem.Builtin.setMinGallop) g) Q st:=BC<|q _ ⟨rfl,rfl,rfl,rfl⟩
def fE{M:Model}{σ γ:Type}{X Y:StateT σ Sem γ}{p:Prop}{d:Decidable p}{Q:γ->σ->Prop}{st:σ}(t:p->wpS M A E s X Q st)(e:¬ p->wpS M A E s Y Q st):wpS M A E s (@ite _ p d X Y) Q st:=by
 by_cases h:p
 ·exact fR h<|t h
 ·exact eP h<|e h
def cG{M:Model}{σ γ:Type}{X Y:StateT σ Sem γ}{a b:Nat}{d:Decidable ((a == b)=true)}{Q:γ->σ->Prop}{st:σ}(t:a=b->wpS M A E s X Q st)(e:a≠b->wpS M A E s Y Q st):wpS M A E s (@ite _ ((a == b)=true) d X Y) Q st :=
 fE (λh=>t<|CL h) λh=>e λz=>h<|z ▸ Dh _
section
variable {γ:Type}{Q:γ->SortSt->Prop}{l:Se Nat}{i:Nat}{K:Keyed->StateT SortSt Sem γ}
def TV(e:l[i]?=some g)(q:wpS (model prog w) A E s (K<|f g) Q st):wpS (model prog w) A E s (elem' (ar f l) i >>= K) Q st:=Al<|Q3 e q
def Ug(h:i<l.length)(q:∀g,l[i]?=some g->wpS (model prog w) A E s (K<|f g) Q st):wpS (model prog w) A E s (elem' (ar f l) i >>= K) Q st:=TV (Za h)<|q _<|Za h
def UX{g:Nat}{K:Unit->StateT SortSt Sem γ}(q:∀VX,Sm st VX->wpS (model prog w) A E s (K ⟨⟩) Q VX):wpS (model prog w) A E s ((sortPriv% PySem.Builtin.setMinGallop) g >>= K) Q st:=Al<|Q4 q
def glob(C:Cm prog w A s k f N c)(hk:kindOf st=k)(hs:l.Pairwise (Bf c))(hb:∀g∈l,g<N){left:Ss}{t base n hint:Nat}(ht:t<N)(hz:base+n<=l.length)(hh:hint<n){K:Sf Nat->StateT SortSt Sem γ}
  (q:∀m,m<=n->(∀i g,base<=i->i<base+m->l[i]?=some g->bb c left t g=true)->(∀i g,base+m<=i->i<base+n->l[i]?=some g->bb c left t g=false)->wpS (model prog w) A E s (K<|some m) Q st) :
  wpS (model prog w) A E s ((sortPriv% PySem.Builtin.gallop) left (f t) (ar f l) base n hint >>= K) Q st:=Al<|O0 C hk hs hb ht hz hh q
end
def XO.of{r a b c d}(e:r=g a b c d)(h:p a b c d):XO g p r:=e ▸ ⟨a,b,c,d,h⟩
def Lw.bv(C:Cm prog w A s k f N c){o:Sj Keyed}(L:Lw f c α β o i j)(hl:i<α.length)(hy:β[j]?=some y)(h:∀x,α[i]?=some x->c y x=true):Lw f c α β (o.push<|f y) i (j+1):=L.b C (Za hl) hy<|h _<|Za hl
def Lw.av(C:Cm prog w A s k f N c){o:Sj Keyed}(L:Lw f c α β o i j)(hl:j<β.length)(hx:α[i]?=some x)(h:∀y,β[j]?=some y->c y x=false):Lw f c α β (o.push<|f x) (i+1) j:=L.a C hx (Za hl)<|h _<|Za hl
def Lw.dq(L:Lw f c α β o i j)(h:j=(ar f β).size\/i=(ar f α).size):Rt f c α β (o++(ar f α).extract i (ar f α).size++(ar f β).extract j (ar f β).size):=L.dn (h.imp (·.trans (gh _)) (·.trans (gh _)))
def Lw.lq(C:Cm prog w A s k f N c)(T:Yp c N α β)(L:Lw f c α β o i j)(h:i+1=(ar f α).size):Rt f c α β (o++(ar f β).extract j (ar f β).size++(ar f α).extract i (ar f α).size):=by
 rw[gh]at h;obtain⟨x,hx⟩:∃x,α[i]?=some x:=⟨_,Za<|h ▸ AW i⟩;exact L.la C hx h<|T.last x (by rw[<-h];exact hx)
set_option maxHeartbeats 1000000 in
def O6(C:Cm prog w A s k f N c)(hk:kindOf st=k)(T:Yp c N α β){Q:Sj Keyed->SortSt->Prop}(q:∀o VX,Sm st VX->Rt f c α β o->Q o VX):wpS (model prog w) A E s (VO (ar f α)<|ar f β) Q st:=by
 have la:0<α.length:=Zi.mpr T.na;have lb:0<β.length:=Zi.mpr T.nb;obtain⟨x0,hx0⟩:∃x,α[0]?=some x:=⟨_,Za la⟩;obtain⟨y0,hy0⟩:∃y,β[0]?=some y:=⟨_,Za lb⟩;have M0:Mg c α β [] α β:=⟨List.Pairwise.nil,T.sa,T.sb,λg hg=>by simp at hg,λg hg=>by simp at hg,T.tag,List.Perm.refl _⟩
 have L0:Lw f c α β #[] 0 0:=⟨[],by simp[ar],by simpa using M0⟩
 have L1:Lw f c α β #[f y0] 0 1:=by have:=L0.b C hx0 hy0<|T.first _ _ hx0 hy0;simpa using this
 have za:(ar f α).size=α.length:=gh _;have zb:(ar f β).size=β.length:=gh _;refine Al<|CD<|AF ⟨rfl,TV hy0<|cG (λh1=>Ai<|q _ _ (Sm.refl _)<|L1.dq<|.inl h1) λh1=>cG (λh2=>Ai<|q _ _ (Sm.refl _)<|L1.lq C T h2) λh2=>Al<|BP<|Q0 (Sm st) (Rt f c α β) (λo i j m=>(o,i,j,m)) (λx o i j _=>Lw f c α β o i j/\i+1<α.length/\j<β.length/\x<i+j) (λ_ _ _ _=>False) ?step ?fin (Sm.refl _) ?init (λo z VX sm R=>Ai<|q _ _ sm R) λ_ _ _ _ _ _ z=>z.elim⟩
 case init=>exact⟨_,_,_,_,L1,by lia,by lia,Qa _⟩
 case fin=>
  rintro o i j m ⟨L,b1,b2,b3⟩;lia
 case step=>
  intro x o i j m VX sm hI;have hk':kindOf VX=k:=sm.kind.trans hk;walk_at "4";refine Q1 (λV4=>V4=VX) (Rt f c α β) (λo' i' j' a b=>(o',i',j',a,b)) (λy o' i' j' _ _=>Lw f c α β o' i' j'/\i'+1<α.length/\j'<β.length/\i'+j'=i+j+y)
   (λo' i' j' _ _=>Lw f c α β o' i' j'/\i'+1<α.length/\j'<β.length/\i+j<i'+j') ?step1 ?fin1 rfl ?init1 (λo' z V4 e R=>Ai ⟨e ▸ sm,.inl ⟨o',_,R⟩⟩) ?post1
  case init1=>exact⟨_,_,_,_,_,hI.1,hI.2.1,hI.2.2.1,rfl⟩
  case fin1=>
   rintro o' i' j' a b ⟨L',c1,c2,c3⟩;lia
  case step1=>
   intro y o' i' j' a b V4 e hI;subst e;have L':=hI.1;have c1:=hI.2.1;have c2:=hI.2.2.1;have c3:=hI.2.2.2;walk_at "4";refine Ug c2 λyv hy=>Ug (Bt c1) λxv hx=>Al<|v4 C hk' (T.bb _<|Va hy) (T.ba _<|Va hx) ?_;walk_at "4";refine fE (λhc=>?_) λhc=>?_
   ·have L2:=L'.b C hx hy hc;refine TV hy<|cG (λe1=>Ai ⟨rfl,.inl ⟨_,_,L2.dq<|.inl e1⟩⟩) λe1=>?_;have c2':j'+1<β.length:=BV c2<|zb ▸ e1;exact fE (λ_=>Ai ⟨rfl,.inr ⟨_,_,_,_,_,L2,c1,c2',by lia⟩⟩) λ_=>Ai ⟨rfl,_,_,_,_,_,L2,c1,c2',congrArg Nat.succ c3⟩
   ·have L2:=L'.a C hx hy<|Bool.eq_false_iff.mpr hc;refine TV hx<|cG (λe1=>Ai ⟨rfl,.inl ⟨_,_,L2.lq C T e1⟩⟩) λe1=>?_;have c1':i'+1+1<α.length:=BV c1<|za ▸ e1;exact fE (λ_=>Ai ⟨rfl,.inr ⟨_,_,_,_,_,L2,c1',c2,by lia⟩⟩) λ_=>Ai ⟨rfl,_,_,_,_,_,L2,c1',c2,by lia⟩
  case post1=>
   intro o' i' j' a b V4 e hI';subst e;walk_at "4";refine Al<|CD<|AF ⟨rfl,?_⟩;refine Q2 (Sm st) (Rt f c α β) (λo2 i2 j2 m2 a2 b2=>(o2,i2,j2,m2,a2,b2)) (λy o2 i2 j2 _ _ _=>Lw f c α β o2 i2 j2/\i2+1<α.length/\j2<β.length/\i'+j'+y<=i2+j2)
    (λo2 i2 j2 _ _ _=>Lw f c α β o2 i2 j2/\i2+1<α.length/\j2<β.length/\i'+j'<=i2+j2) ?step2 ?fin2 sm ?init2 (λo' z V4 sm R=>Ai ⟨sm,.inl ⟨o',_,R⟩⟩) ?post2
   case init2=>exact⟨_,_,_,_,_,_,hI'.1,hI'.2.1,hI'.2.2.1,Qa _⟩
   case fin2=>
    rintro o2 i2 j2 m2 a2 b2 ⟨L2,d1,d2,d3⟩;lia
   case post2=>
    intro o2 i2 j2 m2 a2 b2 Wq sm3 hI2;dsimp only;exact UX λst4 sm4'=>Ai ⟨sm3.trans sm4',_,_,_,_,hI2.1,hI2.2.1,hI2.2.2.1,Qd (A6 (hI.2.2.2) hI'.2.2.2) hI2.2.2.2⟩
   case step2=>
    intro y o2 i2 j2 m2 a2 b2 Wq sm3 hI2;have L2:=hI2.1;have d1:=hI2.2.1;have d3:=hI2.2.2.2;dsimp only;generalize m2-1=m1;revert m1;apply qu;intro m3;refine UX λst4 sm4'=>Ug (hI2.2.2.1) λyv hy=>?_;have sm4:Sm st st4:=sm3.trans sm4';have hk4:kindOf st4=k:=sm4.kind.trans hk;refine glob C hk4 T.sa T.ba (T.bb _<|Va hy) (left:=false) (base:=i2) (n:=(ar f α).size-i2) (hint:=0) (by lia) (by lia) λu hu tr fs=>?_
    have L3:=L2.as C hy (u:=u) λp g z1 z2 z3=>by simpa[bb]using tr p g z1 z2 z3
    dsimp only;apply pG (o:=o2) (i:=i2) (I:=λo i=>Lw f c α β o i j2/\i=i2+u/\i+1<α.length)
    case g=>exact λhu0=>⟨L2,by lia,d1⟩
    case h=>exact λ_ key=>cG (λe1=>Ai ⟨sm4,.inl ⟨_,_,L3.lq C T e1⟩⟩) λe1=>cG (λe2=>Ai ⟨sm4,.inl ⟨_,_,L3.dq<|.inr e2⟩⟩) λe2=>key _ _ ⟨L3,rfl,by lia⟩
    intro o i hJ;have L3:=hJ.1;have hi:=hJ.2.1;have hl:=Bt hJ.2.2;have L4:=L3.bv C hl hy λx hx=>by simpa[bb]using fs i x (by lia) (by lia) hx
    refine TV hy ?_;generalize hj4:j2+1=j4 at L4 ⊢;generalize o.push (f yv)=o4 at L4 ⊢;refine cG (λe3=>Ai ⟨sm4,.inl ⟨_,_,L4.dq<|.inl e3⟩⟩) λe3=>Ug hl λxv hx=>(glob C hk4 T.sb T.bb (T.ba _<|Va hx) (left:=true) (base:=j4) (n:=(ar f β).size-j4) (hint:=0) (by lia) (by lia) λv hv tr2 fs2=>?_)
    have L5:=L4.bs C hx (u:=v) λp g z1 z2 z3=>by simpa[bb]using tr2 p g z1 z2 z3
    dsimp only;apply pG (o:=o4) (i:=j4) (I:=λo j=>Lw f c α β o i j/\j=j4+v/\j<β.length)
    case g=>exact λhv0=>⟨L4,by lia,by lia⟩
    case h=>exact λ_ key=>cG (λe4=>Ai ⟨sm4,.inl ⟨_,_,L5.dq<|.inl e4⟩⟩) λe4=>key _ _ ⟨L5,rfl,by lia⟩
    intro o5 j5 hJ5;have hj5:=hJ5.2.1;have hl5:=hJ5.2.2;have L6:=hJ5.1.av C hl5 hx λy hy=>by simpa[bb]using fs2 j5 y (by lia) (by lia) hy
    refine TV hx<|cG (λe5=>Ai ⟨sm4,.inl ⟨_,_,L6.lq C T e5⟩⟩) λe5=>?_;have w1:i+1+1<α.length:=BV hJ.2.2<|za ▸ e5;have w2:i'+j'+(y+1)<=i+1+j5:=by lia
    exact fE (λ_=>Ai ⟨sm4,.inr ⟨_,_,_,_,_,_,L6,w1,hl5,Ve (Wm _ _) w2⟩⟩) λ_=>Ai ⟨sm4,_,_,_,_,_,_,L6,w1,hl5,w2⟩
end
structure Mh(c:Nat->Nat->Bool)(α β la lb ω:List Nat):Prop where
 so:ω.Pairwise (Bf c)
 sa:la.Pairwise (Bf c)
 sb:lb.Pairwise (Bf c)
 xa:∀g∈la,∀h∈ω,Bf c g h
 xb:∀g∈lb,∀h∈ω,Bf c g h
 tag:∀g∈la,∀h∈lb,g<h
 perm:(la++lb++ω).Perm (α++β)
section
def pH{l:Se Nat}(h:(l++[x]).Pairwise (Bf c)):l.Pairwise (Bf c)/\∀g∈l,Bf c g x:=by
 have:=Qh.mp h;exact⟨this.1,λg hg=>this.2.2 g hg x<|Wa.mpr rfl⟩
def Mh.takeA(C:Cm prog w A s k f N c)(J:Mh c α β (la++[x]) (lb++[y]) ω)(h:c y x=true):Mh c α β la (lb++[y]) (x::ω):=by
 have sa:=pH J.sa;refine⟨Ye.mpr ⟨λg hg=>J.xa x (by simp) g hg,J.so⟩,sa.1,J.sb,λg hg z hz=>?_,λg hg z hz=>?_,λg hg z hz=>J.tag g (by simp[hg]) z hz,?_⟩
 ·walk_at "G"
  ·exact sa.2 g hg
  ·exact J.xa g (by simp[hg]) z hz
 ·walk_at "G"
  ·walk_at "z"
   ·exact C.trans ((pH J.sb).2 g hg)<|.inl h
   ·rw[Wa.mp hg];exact .inl h
  ·exact J.xb g hg z hz
 ·refine List.Perm.trans ?_ J.perm;have p:(la++(lb++[y])++x::ω).Perm (x::(la++(lb++[y])++ω)):=Vm;have q:(la++[x]++(lb++[y])++ω).Perm (x::(la++(lb++[y])++ω)):=by
   rw[Yd la,Yd la];exact List.perm_middle.trans (by rw[Yd la];exact List.Perm.refl _)
  exact p.trans q.symm
def Mh.takeB(C:Cm prog w A s k f N c)(J:Mh c α β (la++[x]) (lb++[y]) ω)(h:c y x=false):Mh c α β (la++[x]) lb (y::ω):=by
 have sb:=pH J.sb;have xy:Bf c x y:=.inr ⟨h,J.tag x (by simp) y<|by simp⟩
 refine⟨Ye.mpr ⟨λg hg=>J.xb y (by simp) g hg,J.so⟩,J.sa,sb.1,λg hg z hz=>?_,λg hg z hz=>?_,λg hg z hz=>J.tag g hg z<|by simp[hz],?_⟩
 ·walk_at "G"
  ·walk_at "z"
   ·exact C.trans ((pH J.sa).2 g hg) xy
   ·rw[Wa.mp hg];exact xy
  ·exact J.xa g hg z hz
 ·walk_at "G"
  ·exact sb.2 g hg
  ·exact J.xb g (by simp[hg]) z hz
 ·refine List.Perm.trans ?_ J.perm;have e:la++[x]++lb++y::ω=la++[x]++(lb++[y])++ω:=by simp
  rw[e]
theorem Mh.takeAs(C:Cm prog w A s k f N c):∀(n:Nat)(l:Se Nat),l.length=n->∀{ω la:Se Nat},Mh c α β (la++l) (lb++[y]) ω->(∀g∈l,c y g=true)->Mh c α β la (lb++[y]) (l++ω)
 | 0,l,hn,ω,la,J,_=>by
  obtain rfl:=Xe hn;simpa using J
 | n+1,l,hn,ω,la,J,h=>by
  rcases D0 l with rfl|⟨l',x,rfl⟩
  ·simp at hn
  ·rw[D1]at J h hn ⊢;rw[<-Yd]at J;have:=Mh.takeAs C n l' (by simpa using hn) (J.takeA C<|h x<|by simp) λg hg=>h g (by simp[hg])
   simpa using this
theorem Mh.takeBs(C:Cm prog w A s k f N c):∀(n:Nat)(l:Se Nat),l.length=n->∀{ω lb:Se Nat},Mh c α β (la++[x]) (lb++l) ω->(∀g∈l,c g x=false)->Mh c α β (la++[x]) lb (l++ω)
 | 0,l,hn,ω,lb,J,_=>by
  obtain rfl:=Xe hn;simpa using J
 | n+1,l,hn,ω,lb,J,h=>by
  rcases D0 l with rfl|⟨l',y,rfl⟩
  ·simp at hn
  ·rw[D1]at J h hn ⊢;rw[<-Yd]at J;have:=Mh.takeBs C n l' (by simpa using hn) (J.takeB C<|h y<|by simp) λg hg=>h g (by simp[hg])
   simpa using this
def Mh.doneA(J:Mh c α β la [] ω):Gd c α β (la++ω):=by
 refine⟨Qh.mpr ⟨J.sa,J.so,J.xa⟩,?_⟩;have:=J.perm;rwa [We]at this
def Mh.doneB(J:Mh c α β [] lb ω):Gd c α β (lb++ω):=⟨Qh.mpr ⟨J.sb,J.so,J.xb⟩,by have:=J.perm;rwa [Wj]at this⟩
def Mh.firstB(C:Cm prog w A s k f N c)(J:Mh c α β la [y] ω)(h:∀g∈la,c y g=true):Gd c α β ([y]++la++ω):=by
 have J':Mh c α β ([]++la) ([]++[y]) ω:=by simpa using J
 have:=(Mh.takeAs C la.length la rfl J' h).doneB;simpa using this
end
def Hw(f:Nat->Keyed)(c:Nat->Nat->Ss)(α β:Se Nat)(o:Sj Keyed)(i j:Nat):Prop:=∃ω,o=ar f ω.reverse/\Mh c α β (α.take i) (β.take j) ω
section
variable {o:Sj Keyed}
def uv(l:Se Nat):(ar f l).reverse=ar f l.reverse:=by simp[ar]
def zv(l:Se Nat)(p:Nat):(ar f l).extract 0 p=ar f (l.take p):=by rw[mj];simp
def qv{l:Se Nat}(e:l[p]?=some g):l.take (p+1)=l.take p++[g]:=by rw[List.take_succ,e];rfl
def Hw.a(C:Cm prog w A s k f N c)(L:Hw f c α β o (i+1) (j+1))(hx:α[i]?=some x)(hy:β[j]?=some y)(h:c y x=true):Hw f c α β (o.push<|f x) i (j+1):=by
 walk_at "k";refine⟨x::ω,by rw[pF,C8],?_⟩
 rw[qv hx]at J;rw[qv hy]at J ⊢;exact J.takeA C h
def Hw.b(C:Cm prog w A s k f N c)(L:Hw f c α β o (i+1) (j+1))(hx:α[i]?=some x)(hy:β[j]?=some y)(h:c y x=false):Hw f c α β (o.push<|f y) (i+1) j:=by
 walk_at "k";refine⟨y::ω,by rw[pF,C8],?_⟩
 rw[qv hy]at J;rw[qv hx]at J ⊢;exact J.takeB C h
def v9{l:Se Nat}(h:u<=i):l.take i=l.take u++(l.drop u).take (i-u):=by
 rw[List.take_drop,show u+(i - u)=i by lia]
 have:=Vk u<|l.take i;rw[List.take_take,Ba h]at this;exact this.symm
def uw{l:Se Nat}(h:g∈(l.drop u).take n):∃p,u<=p/\p<u+n/\l[p]?=some g:=by
 obtain⟨p,hp⟩:=List.mem_iff_getElem?.mp h;rw[Bp]at hp;split at hp
 ·rw[Zg]at hp;exact⟨u+p,by lia,by lia,hp⟩
 ·cases hp
def Hw.as(C:Cm prog w A s k f N c)(L:Hw f c α β o i (j+1))(hy:β[j]?=some y)(hu:u<=i)(h:∀p g,u<=p->p<i->α[p]?=some g->c y g=true):Hw f c α β (o++((ar f α).extract u i).reverse) u (j+1):=by
 walk_at "k";refine⟨(α.drop u).take (i-u)++ω,by rw[mj,uv,fW,CM],?_⟩
 rw[qv hy]at J ⊢;rw[v9 hu]at J;exact Mh.takeAs C _ _ rfl J λg hg=>by
  obtain⟨p,p1,p2,p3⟩:=uw hg;exact h p g p1 (by lia) p3
def Hw.bs(C:Cm prog w A s k f N c)(L:Hw f c α β o (i+1) j)(hx:α[i]?=some x)(hu:u<=j)(h:∀p g,u<=p->p<j->β[p]?=some g->c g x=false):Hw f c α β (o++((ar f β).extract u j).reverse) (i+1) u:=by
 walk_at "k";refine⟨(β.drop u).take (j-u)++ω,by rw[mj,uv,fW,CM],?_⟩
 rw[qv hx]at J ⊢;rw[v9 hu]at J;exact Mh.takeBs C _ _ rfl J λg hg=>by
  obtain⟨p,p1,p2,p3⟩:=uw hg;exact h p g p1 (by lia) p3
def Hw.dn(L:Hw f c α β o i j)(h:i=0\/j=0):Rt f c α β ((ar f α).extract 0 i++(ar f β).extract 0 j++o.reverse):=by
 walk_at "k";rw[zv,zv,uv,List.reverse_reverse,fW,fW];refine⟨_,rfl,?_⟩;rcases h with rfl|rfl
 ·rw[DC]at J ⊢;rw[Wj];exact J.doneB
 ·rw[DC]at J ⊢;rw[We];exact J.doneA
def Hw.fb(C:Cm prog w A s k f N c)(T:Yp c N α β)(L:Hw f c α β o i 1):Rt f c α β ((ar f β).extract 0 1++(ar f α).extract 0 i++o.reverse):=by
 have lb:0<β.length:=Zi.mpr T.nb;have la:0<α.length:=Zi.mpr T.na;obtain⟨y0,hy0⟩:∃y,β[0]?=some y:=⟨_,Za lb⟩;obtain⟨x0,hx0⟩:∃x,α[0]?=some x:=⟨_,Za la⟩;have hc:=T.first _ _ hx0 hy0
 walk_at "k";rw[zv,zv,uv,List.reverse_reverse,fW,fW];refine⟨_,rfl,?_⟩;have e:β.take 1=[y0]:=by have:=qv hy0;simpa using this
 rw[e]at J ⊢;refine J.firstB C λg hg=>?_;obtain⟨p,hp⟩:=List.mem_iff_getElem?.mp<|List.mem_of_mem_take hg;by_cases h0:p=0
 ·subst h0;rw[hx0]at hp;cases hp;exact hc
 ·obtain⟨hp1,rfl⟩:=Vb.mp hp;obtain⟨hx1,rfl⟩:=Vb.mp hx0;have b:=C.le (Qi.mp T.sa 0 p hx1 hp1<|by lia)
  rcases C.neg y0 α[p] α[0] hc with q|q
  ·exact q
  ·rw[b]at q;cases q
end
def VP:Sj Keyed->Sj Keyed->StateT SortSt Sem (Sj Keyed):=sortPriv% PySem.Builtin.mergeHi
section
variable {prog:Su}{w:Sx}{A:Around}{E:Sh->Si->Prop}{s:Si}{k:SortKind}{f:Nat->Keyed}{N:Nat}{c:Nat->Nat->Ss}{st:SortSt}{α β:Se Nat}
def Hw.fc(C:Cm prog w A s k f N c)(T:Yp c N α β){o:Sj Keyed}(L:Hw f c α β o i j)(h:j=1):Rt f c α β ((ar f β).extract 0 j++(ar f α).extract 0 i++o.reverse):=by subst h;exact L.fb C T
def Hw.bu(C:Cm prog w A s k f N c){o:Sj Keyed}(L:Hw f c α β o i j)(h0:0<i)(h1:j=j'+1)(hy:β[j']?=some y)(hl:i-1<α.length)(h:∀x,α[i-1]?=some x->c y x=false):Hw f c α β (o.push<|f y) i j':=by
 subst h1;obtain⟨i,rfl⟩:=Qe<|Yl h0;have e:α[i]?=some α[i]:=Za hl;exact L.b C e hy<|h _ e
def Hw.au(C:Cm prog w A s k f N c){o:Sj Keyed}(L:Hw f c α β o i j)(h0:0<i)(h1:0<j)(hx:α[i-1]?=some x)(hl:j-1<β.length)(h:∀y,β[j-1]?=some y->c y x=true):Hw f c α β (o.push<|f x) (i-1) j:=by
 obtain⟨i,rfl⟩:=Qe<|Yl h0;obtain⟨j,rfl⟩:=Qe<|Yl h1;have e:β[j]?=some β[j]:=Za hl;exact L.a C hx e<|h _ e
def Hw.bt(C:Cm prog w A s k f N c)(L:Hw f c α β o i j)(h0:0<i)(hx:α[i-1]?=some x)(hu:u<=j)(h:∀p g,u<=p->p<j->β[p]?=some g->c g x=false):Hw f c α β (o++((ar f β).extract u j).reverse) i u:=by
 obtain⟨i,rfl⟩:=Qe<|Yl h0;exact L.bs C hx hu h
set_option maxHeartbeats 1000000 in
def O7(C:Cm prog w A s k f N c)(hk:kindOf st=k)(T:Yp c N α β)(q:∀o VX,Sm st VX->Rt f c α β o->Q o VX):wpS (model prog w) A E s (VP (ar f α)<|ar f β) Q st:=by
 have la:0<α.length:=Zi.mpr T.na;have lb:0<β.length:=Zi.mpr T.nb;obtain⟨n,hn⟩:∃n,α.length=n+1:=Qe<|Yl la;obtain⟨b,hb⟩:∃b,β.length=b+1:=Qe<|Yl lb;obtain⟨xl,hxl⟩:∃x,α[n]?=some x:=⟨_,Za<|hn ▸ AW n⟩;obtain⟨yl,hyl⟩:∃y,β[b]?=some y:=⟨_,Za<|hb ▸ AW b⟩;have M0:Mh c α β α β []:=⟨List.Pairwise.nil,T.sa,T.sb,λg hg h hh=>by simp at hh,λg hg h hh=>by simp at hh,T.tag,by simp⟩
 have L0:Hw f c α β #[] (n+1) (b+1):=⟨[],by simp[ar],by rw[<-hn,<-hb,List.take_length,List.take_length];exact M0⟩
 have hcl:c yl xl=true:=T.last xl (by rw[hn];exact hxl) yl<|Va hyl
 have sa:(ar f α).size-1=n:=by rw[gh,hn];rfl
 have sb:(ar f β).size=b+1:=by rw[gh,hb]
 have L1:Hw f c α β #[f xl] ((ar f α).size-1) (ar f β).size:=by rw[sa,sb];have:=L0.a C hxl hyl hcl;simpa using this
 refine Al<|CD<|AF ⟨rfl,TV (by rw[sa];exact hxl)<|cG (λh1=>Ai<|q _ _ (Sm.refl _)<|L1.dn<|.inl h1) λh1=>cG (λh2=>Ai<|q _ _ (Sm.refl _)<|L1.fc C T h2) λh2=>Al<|BP ?_⟩
 have za:(ar f α).size=α.length:=gh _;refine Q0 (Sm st) (Rt f c α β) (λo i j m=>(i+1,j+1+1,o,m)) (λx o i j _=>Hw f c α β o (i+1) (j+1+1)/\i<α.length/\j+1<β.length/\x+i+j+3<α.length+β.length) (λ_ _ _ _=>False) ?step ?fin (Sm.refl _) ?init (λo z VX sm R=>Ai<|q _ _ sm R) λ_ _ _ _ _ _ z=>z.elim
 case init=>
  rw[sa]at h1 L1;rw[sb]at h2 L1;obtain⟨n1,rfl⟩:=Qe h1;obtain⟨b1,rfl⟩:∃m,b=m+1:=Qe λz=>h2 (by rw[z])
  exact XO.of (by rw[sa,sb]) ⟨L1,by lia,by lia,by lia⟩
 case fin=>
  rintro o i j m ⟨L,b1,b2,b3⟩;lia
 case step=>
  intro x o i j m VX sm hI;have hk':kindOf VX=k:=sm.kind.trans hk;walk_at "4";refine Q1 (λV4=>V4=VX) (Rt f c α β) (λo' i' j' a b=>(i'+1,j'+1+1,o',a,b)) (λy o' i' j' _ _=>Hw f c α β o' (i'+1) (j'+1+1)/\i'<α.length/\j'+1<β.length/\y+i'+j'=i+j)
   (λo' i' j' _ _=>Hw f c α β o' (i'+1) (j'+1+1)/\i'<α.length/\j'+1<β.length/\i'+j'<i+j) ?step1 ?fin1 rfl ?init1 (λo' z V4 e R=>Ai ⟨e ▸ sm,.inl ⟨o',_,R⟩⟩) ?post1
  case init1=>exact⟨_,_,_,_,_,hI.1,hI.2.1,hI.2.2.1,DR _ ▸ rfl⟩
  case fin1=>
   rintro o' i' j' a b ⟨L',c1,c2,c3⟩;lia
  case step1=>
   intro y o' i' j' a b V4 e hI;subst e;have L':=hI.1;have c1:=hI.2.1;have c2:=hI.2.2.1;have c3:=hI.2.2.2;walk_at "4";refine Ug c2 λyv hy=>Ug c1 λxv hx=>Al<|v4 C hk' (T.bb _<|Va hy) (T.ba _<|Va hx) ?_;walk_at "4";refine fE (λhc=>?_) λhc=>?_
   ·have L2:=L'.a C hx hy hc;refine TV hx<|cG (λe1=>Ai ⟨rfl,.inl ⟨_,_,L2.dn<|.inl e1⟩⟩) λe1=>?_;obtain⟨i1,rfl⟩:=Qe e1;have c1':i1<α.length:=Bt c1;exact fE (λ_=>Ai ⟨rfl,.inr ⟨_,i1,j',_,_,L2,c1',c2,by lia⟩⟩) λ_=>Ai ⟨rfl,_,i1,j',_,_,L2,c1',c2,by lia⟩
   ·have L2:=L'.b C hx hy<|Bool.eq_false_iff.mpr hc;refine TV hy<|cG (λe1=>Ai ⟨rfl,.inl ⟨_,_,L2.fc C T e1⟩⟩) λe1=>?_;obtain⟨j1,rfl⟩:∃m,j'=m+1:=Qe λz=>e1 (by rw[z])
    have c2':j1+1<β.length:=Bt c2;exact fE (λ_=>Ai ⟨rfl,.inr ⟨_,i',j1,_,_,L2,c1,c2',by lia⟩⟩) λ_=>Ai ⟨rfl,_,i',j1,_,_,L2,c1,c2',by lia⟩
  case post1=>
   intro o' i' j' a b V4 e hI';subst e;walk_at "4";refine Al<|CD<|AF ⟨rfl,?_⟩;refine Q2 (Sm st) (Rt f c α β) (λo2 i2 j2 m2 a2 b2=>(i2,j2,o2,m2,a2,b2)) (λy o2 i2 j2 _ _ _=>Hw f c α β o2 i2 j2/\0<i2/\i2<=α.length/\1<j2/\j2<=β.length/\i2+j2+y<=i'+1+(j'+1+1))
    (λo2 i2 j2 _ _ _=>Hw f c α β o2 i2 j2/\0<i2/\i2<=α.length/\1<j2/\j2<=β.length/\i2+j2<=i'+1+(j'+1+1)) ?step2 ?fin2 sm ?init2 (λo' z V4 sm R=>Ai ⟨sm,.inl ⟨o',_,R⟩⟩) ?post2
   case init2=>exact⟨_,_,_,_,_,_,hI'.1,Nat.succ_pos _,hI'.2.1,Nat.succ_lt_succ<|Nat.succ_pos _,hI'.2.2.1,Qa _⟩
   case fin2=>
    rintro o2 i2 j2 m2 a2 b2 ⟨L2,d1,d2,d3,d4,d5⟩;have:=hI'.2.1;have:=hI'.2.2.1;lia
   case post2=>
    intro o2 i2 j2 m2 a2 b2 Wq sm3 hI2;dsimp only;refine UX λst4 sm4'=>Ai ⟨sm3.trans sm4',?_⟩;obtain⟨L2,d1,d2,d3,d4,d5⟩:=hI2;obtain⟨i3,rfl⟩:=Qe<|Yl d1;obtain⟨j3,rfl⟩:∃m,j2=m+1+1:=⟨j2-2,by lia⟩
    have:=hI.2.2.2;have:=hI'.2.2.2;exact⟨_,i3,j3,_,L2,d2,d4,by lia⟩
   case step2=>
    intro y o2 i2 j2 m2 a2 b2 Wq sm3 hI2;have L2:=hI2.1;have d1:=hI2.2.1;have d3:=hI2.2.2.2.1;have d4:=hI2.2.2.2.2.1;have d5:=hI2.2.2.2.2.2;dsimp only;generalize hj3:j2-1=j3;have ej:j2=j3+1:=by lia
    have hjl:j3<β.length:=by lia
    generalize m2-1=m1;revert m1;apply qu;intro m3;refine UX λst4 sm4'=>Ug hjl λyv hy=>?_;have sm4:Sm st st4:=sm3.trans sm4';have hk4:kindOf st4=k:=sm4.kind.trans hk;refine glob C hk4 T.sa T.ba (T.bb _<|Va hy) (left:=false) (by lia) (C6 d1) λu hu tr fs=>?_
    have L3:=(ej ▸ L2:Hw f c α β o2 i2 (j3+1)).as C hy hu λp g z1 z2 z3=>by simpa[bb]using fs p g (by lia) (by lia) z3
    rw[<-ej]at L3;dsimp only;generalize hk1:i2-u=k1;apply pG (o:=o2) (i:=i2) (I:=λo i=>Hw f c α β o i j2/\i=u/\0<i)
    case g=>exact λhu0=>⟨L2,by lia,d1⟩
    case h=>exact λ_ key=>cG (λe1=>Ai ⟨sm4,.inl ⟨_,_,L3.dn<|.inl e1⟩⟩) λe1=>key _ u ⟨L3,rfl,BU e1⟩
    rintro o i ⟨L3,hi,hl⟩;have hj0:0<j3:=by lia
    have hi2:i-1<i:=C6 hl;have hiu:i<=i2:=hi ▸ hu;have hia:i-1<α.length:=Qd hi2<|Ve hiu<|hI2.2.2.1;have L4:=L3.bu C hl ej hy hia λx hx=>by simpa[bb]using tr _ x (Vh _) (by lia) hx
    refine TV hy ?_;generalize o.push (f yv)=o4 at L4 ⊢;refine cG (λe3=>Ai ⟨sm4,.inl ⟨_,_,L4.fc C T e3⟩⟩) λe3=>Ug hia λxv hx=>(glob C hk4 T.sb T.bb (T.ba _<|Va hx) (left:=true) (base:=0) (n:=j3) (by lia) (C6 hj0) λv hv tr2 fs2=>?_)
    have L5:=L4.bt C hl hx hv λp g z1 z2 z3=>by simpa[bb]using fs2 p g (by lia) (by lia) z3
    dsimp only;generalize hk2:j3-v=k2;apply pG (o:=o4) (i:=j3) (I:=λo j=>Hw f c α β o i j/\j=v/\1<j)
    case g=>exact λhv0=>⟨L4,by lia,by lia⟩
    case h=>exact λ_ key=>cG (λe4=>Ai ⟨sm4,.inl ⟨_,_,L5.fc C T e4⟩⟩) λe4=>cG (λe7=>Ai ⟨sm4,.inl ⟨_,_,L5.dn<|.inr e7⟩⟩) λe7=>key _ v ⟨L5,rfl,by lia⟩
    rintro o5 j5 ⟨L5,hj5,hl5⟩;have hj7:0<j5:=Bt hl5;have hj6:j5-1<β.length:=by lia
    have L6:=L5.au C hl hj7 hx hj6 λy hy=>by simpa[bb]using tr2 _ y (Vh _) (by lia) hy
    refine TV hx<|cG (λe5=>Ai ⟨sm4,.inl ⟨_,_,L6.dn<|.inl e5⟩⟩) λe5=>?_;have w1:=BU e5;have w3:j5<=β.length:=by lia
    have w2:i-1+j5+(y+1)<=i'+1+(j'+1+1):=by lia
    exact fE (λ_=>Ai ⟨sm4,.inr ⟨_,_,_,_,_,_,L6,w1,Ym hia,hl5,w3,Ve (Wm _ _) w2⟩⟩) λ_=>Ai ⟨sm4,_,_,_,_,_,_,L6,w1,Ym hia,hl5,w3,w2⟩
end
theorem wa(sa:Nat):∀(ms:Se α)(j:Nat)(x:Sj α),sa+j+ms.length<=x.size->
  ((ms.zipIdx j).foldl (λa (p:α×Nat)=>a.setIfInBounds (sa+p.2) p.1) x).toList=x.toList.take (sa+j)++ms++x.toList.drop (sa+j+ms.length)
 |[],j,x,_=>by simp
 | m::ms,j,x,h=>by
  rw[Wc]at h;rw[BE,Du,wa sa ms (j+1) _ (by rw[Array.size_setIfInBounds];lia)]
  have hl:sa+j<x.toList.length:=by rw[Zd];lia
  have e:(x.setIfInBounds (sa+j) m).toList=x.toList.set (sa+j) m:=by simp
  have e1:(x.toList.set (sa+j) m).take (sa+(j+1))=x.toList.take (sa+j)++[m]:=by
   rw[show sa+(j+1)=sa+j+1 by lia,List.take_succ,List.take_set_of_le<|Qa _,Ck hl];rfl
  have e2:(x.toList.set (sa+j) m).drop (sa+(j+1)+ms.length)=x.toList.drop (sa+j+(ms.length+1)):=by
   rw[List.drop_set_of_lt<|by lia,show sa+(j+1)+ms.length=sa+j+(ms.length+1) by lia]
  rw[e,e1,e2,Wc];simp
def pc(γ:Sj Nat)(lo n:Nat):Se Nat:=(γ.toList.drop lo).take n
section
variable {γ:Sj Nat}
def ml{lo n:Nat}(h:lo+n<=γ.size):(pc γ lo n).length=n:=by
 unfold pc;rw[Xm,Xi,Zd];lia
def zw{lo n i:Nat}(h:i<n):(pc γ lo n)[i]?=γ[lo+i]?:=by
 unfold pc;rw[Bp,Ag h,Zg];simp
def qw(lo:Nat)(n m:Nat):pc γ lo (n+m)=pc γ lo n++pc γ (lo+n) m:=by
 unfold pc;rw[List.take_add,BX]
def zx{lo n:Nat}(sg:Sg c γ lo (lo+n)):(pc γ lo n).Pairwise (Bf c):=by
 rw[Qi];intro i j hi hj hij;have li:i<n:=by have:=List.length_take_le n<|γ.toList.drop lo;unfold pc at hi;lia
 have lj:j<n:=by have:=List.length_take_le n<|γ.toList.drop lo;unfold pc at hj;lia
 exact sg (lo+i) (lo+j) _ _ (by lia) (by lia) (by lia) (by rw[<-zw li];exact Za hi) (by rw[<-zw lj];exact Za hj)
def gO{lo n g:Nat}(h:g∈pc γ lo n):∃i,lo<=i/\i<lo+n/\γ[i]?=some g:=by
 obtain⟨p,h1,h2,h3⟩:=uw h;exact⟨p,h1,h2,by simpa using h3⟩
def M1(lo n:Nat):(γ.map f).extract lo (lo+n)=ar f (pc γ lo n):=by
 have e:γ.map f=ar f γ.toList:=by simp[ar]
 rw[e,mj,show lo+n - lo=n by lia];rfl
theorem Q5(C:Cm prog w A s k f N c){lo n:Nat}(sg:Sg c γ lo (lo+n))(left:Ss)(t:Nat):Mo c left t lo n γ:=by
 intro i j g h p1 p2 p3 e1 e2 z;have b:=C.le<|sg i j g h p1 p2 p3 e1 e2;cases left with
 |false=>
  simp only[bb,Wf,if_false,Bool.not_eq_true']at z ⊢;cases z2:c t g with
  |false=>rfl
  |true=>
   rcases C.neg t h g z2 with q|q
   ·rw[z]at q;cases q
   ·rw[b]at q;cases q
 |true=>
  simp only[bb,if_true]at z ⊢;rcases C.neg h g t z with q|q
  ·rw[b]at q;cases q
  ·exact q
def whole{lo n:Nat}(h:lo+n<=γ.size):γ.toList=γ.toList.take lo++pc γ lo n++γ.toList.drop (lo+n):=by
 unfold pc;rw[<-BX,Yd,Vk,Vk]
def Fi{lo n:Nat}(h:lo+n<=γ.size){X:Se Nat}(p:X.Perm (pc γ lo n)){γ':Sj Nat}(e:γ'.toList=γ.toList.take lo++X++γ.toList.drop (lo+n)) :
  γ'.Perm γ/\Out γ γ' lo (lo+n)/\(∀i,i<n->γ'[lo+i]?=X[i]?):=by
 have hX:X.length=n:=by rw[p.length_eq,ml h]
 have hlo:(γ.toList.take lo).length=lo:=by rw[Xm,Zd];lia
 have hg:∀i:Nat,γ'[i]?=γ'.toList[i]?:=λi=>Xg.symm;have hg2:∀i:Nat,γ[i]?=γ.toList[i]?:=λi=>Xg.symm;refine⟨?_,λi hi=>?_,λi hi=>?_⟩
 ·rw[Yh,e]
  conv=>rhs;rw[whole h]
  exact(p.append_left _).append_right _
 ·rw[hg,hg2,e];rcases hi with hi|hi
  ·rw[Yd,Xh<|by lia,Bp,Ag hi]
  ·rw[Qf (by rw[Xa];lia),Xa,hlo,hX,Zg]
   congr 1;lia
 ·rw[hg,e,Yd,Qf<|by lia,hlo,Xh<|by lia]
  congr 1;lia
def O8{lo n:Nat}{X:Se Nat}{γ':Sj Nat}(hX:X.length=n)(at':∀i,i<n->γ'[lo+i]?=X[i]?)(pw:X.Pairwise (Bf c)):Sg c γ' lo (lo+n):=by
 intro i j g h p1 p2 p3 e1 e2;have e1':X[i - lo]?=some g:=by rw[<-at' (i - lo) (by lia),show lo+(i - lo)=i by lia];exact e1
 have e2':X[j - lo]?=some h:=by rw[<-at' (j - lo) (by lia),show lo+(j - lo)=j by lia];exact e2
 obtain⟨hi,rfl⟩:=Vb.mp e1';obtain⟨hj,rfl⟩:=Vb.mp e2';exact Qi.mp pw _ _ hi hj (by lia)
def O9{lo n:Nat}{X:Se Nat}{γ':Sj Nat}(at':∀i,i<n->γ'[lo+i]?=X[i]?)(ow:∀g∈X,lo<=g/\g<lo+n):Ow γ' lo (lo+n):=by
 intro i g p1 p2 e;refine ow g<|Va (i:=i-lo) ?_;rw[<-at' (i - lo) (by lia),show lo+(i - lo)=i by lia];exact e
end
def VQ:Nat->StateT SortSt Sem Ss:=sortPriv% PySem.Builtin.mergeAt
section
variable {prog:Su}{w:Sx}{A:Around}{E:Sh->Si->Prop}{s:Si}{k:SortKind}{f:Nat->Keyed}{N:Nat}{c:Nat->Nat->Ss}{st:SortSt}{γ:Sj Nat}
def Lg{σ:Type}{VX st0:σ}{Q:PUnit->σ->Prop}(h:Q ⟨⟩ VX):wpS (model prog w) A E s (set VX:StateT σ Sem PUnit) Q st0:=by
 unfold wpS;rw[StateT.run_set];exact Ad ⟨rfl,h⟩
def HU(e:γ[i]?=some g)(q:Q (f g) st):wpS (model prog w) A E s (elem' (γ.map f) i) Q st:=by
 rw[elem'_eq,Bq,e];exact Ai q
def HV(C:Cm prog w A s k f N c)(hk:kindOf st=k)(ht:t<N)(hb:∀(i g:Nat),γ[i]?=some g->g<N)(hs:base+n<=γ.size)(hh:hint<n)(sg:Sg c γ base (base+n))
  (q:∀m,m<=n->Tr c left t base γ m->Fs c left t base n γ m->Q (some m) st) :
  wpS (model prog w) A E s ((sortPriv% PySem.Builtin.gallop) left (f t) (γ.map f) base n hint) Q st:=HR C hk ht hb hs hh (Q5 C sg left t) q
structure Yw(k:SortKind)(f:Nat->Keyed)(N:Nat)(c:Nat->Nat->Bool)(γ:Array Nat)(lo n:Nat)(VX:SortSt)(γ':Array Nat):Prop where
 rp:Rp k f N VX γ'
 sg:Sg c γ' lo (lo+n)
 ow:Ow γ' lo (lo+n)
 out:Out γ γ' lo (lo+n)
def Pa(C:Cm prog w A s k f N c)(R:Rp k f N st γ){i sa na p1 nb p2:Nat}(e1:(pendingOf st)[i]?=some (sa,na,p1))(e2:(pendingOf st)[i+1]?=some (sa+na,nb,p2))(ha:1<=na)(hb:1<=nb)(hN:sa+na+nb<=N)
  (ga:Sg c γ sa (sa+na))(oa:Ow γ sa (sa+na))(gb:Sg c γ (sa+na) (sa+na+nb))(ob:Ow γ (sa+na) (sa+na+nb))
  {Q:Ss->SortSt->Prop} (q:∀VX γ',Yw k f N c γ sa (na+nb) VX γ'->pendingOf VX=((pendingOf st).setIfInBounds i (sa,na+nb,p1)).eraseIdxIfInBounds (i+1)->Q true VX) :
  wpS (model prog w) A E s (VQ i) Q st:=by
 have hsz:=R.size;have bnd:∀(i g:Nat),γ[i]?=some g->g<N:=λi g e=>R.bnd e;obtain⟨t,ht⟩:=kn (γ:=γ) (i:=sa+na) (by lia)
 obtain⟨x,hx⟩:=kn (γ:=γ) (i:=sa+na-1) (by lia)
 have tN:=bnd _ _ ht;have xN:=bnd _ _ hx;have tagab:∀i j g h,sa<=i->i<sa+na->sa+na<=j->j<sa+na+nb->γ[i]?=some g->γ[j]?=some h->g<h:=λi j g h a1 a2 a3 a4 z1 z2=>by
  have:=oa i g a1 a2 z1;have:=ob j h a3 a4 z2;lia
 have tb:∀j h,sa+na<=j->j<sa+na+nb->γ[j]?=some h->c h t=false:=λj h a3 a4 z=>by
  by_cases hj:j=sa+na
  ·subst hj;rw[ht]at z;cases z;exact C.irr _
  ·exact C.le<|gb (sa+na) j t h (Qa _) (by lia) a4 ht z
 have ax:∀i g,sa<=i->i<sa+na->γ[i]?=some g->c x g=false:=λi g a1 a2 z=>by
  by_cases hi:i=sa+na-1
  ·subst hi;rw[hx]at z;cases z;exact C.irr _
  ·exact C.le<|ga i (sa+na-1) g x a1 (by lia) (by lia) z hx
 have idle:(∀i j g h,sa<=i->i<sa+na->sa+na<=j->j<sa+na+nb->γ[i]?=some g->γ[j]?=some h->c h g=false)->∀V1,arrOf V1=arrOf st->kindOf V1=kindOf st->failedOf V1=failedOf st->Yw k f N c γ sa (na+nb) V1 γ:=λhc V1 a1 k1 f1=>by
  refine⟨⟨a1.trans R.arr,k1.trans R.kind,f1.trans R.fine,R.perm⟩,λi j g h z1 z2 z3 z4 z5=>?_,λi g z1 z2 z3=>?_,Out.refl _ _ _⟩
  ·by_cases hi:i<sa+na
   ·by_cases hj:j<sa+na
    ·exact ga i j g h z1 z2 hj z4 z5
    ·exact .inr ⟨hc i j g h z1 hi (by lia) (by lia) z4 z5,tagab i j g h z1 hi (by lia) (by lia) z4 z5⟩
   ·exact gb i j g h (by lia) z2 (by lia) z4 z5
  ·by_cases hi:i<sa+na
   ·have:=oa i g z1 hi z3;lia
   ·have:=ob i g (by lia) (by lia) z3;lia
 have ra:(sortPriv% PySem.Builtin.SortState.a) st=γ.map f:=R.arr;refine Al<|BP ?_;dsimp only;rw[e1,e2];dsimp only;refine Al<|Av (Q:=λ_ V1=>arrOf V1=arrOf st/\kindOf V1=kindOf st/\failedOf V1=failedOf st/\pendingOf V1=((pendingOf st).setIfInBounds i (sa,na+nb,p1)).eraseIdxIfInBounds (i+1)) (Lg ⟨rfl,rfl,rfl,rfl⟩) ?_;rintro _ V1 ⟨a1,k1,f1,pd1⟩;have hk1:kindOf V1=k:=k1.trans R.kind;rw[ra];refine Al<|HU ht<|Al<|HV C hk1 tN bnd (left:=false) (base:=sa) (n:=na) (hint:=0) (by lia) (by lia) ga λu hu tr fs=>?_
 dsimp only;have tr':∀i g,sa<=i->i<sa+u->γ[i]?=some g->c t g=false:=λi g z1 z2 z3=>by simpa[bb]using tr i g z1 z2 z3
 have fs':∀i g,sa+u<=i->i<sa+na->γ[i]?=some g->c t g=true:=λi g z1 z2 z3=>by simpa[bb]using fs i g z1 z2 z3
 by_cases e3:(na-u == 0)=true
 ·refine fR e3 ?_;have e3':na-u=0:=CL e3;exact Ai<|q V1 γ (idle (λi j g h z1 z2 z3 z4 z5 z6=>(C.letr (tr' i g z1 (by lia) z5)<|tb j h z3 z4 z6)) V1 a1 k1 f1) pd1
 refine eP e3 ?_;have e3':na-u≠0:=λz=>e3 (by rw[z];rfl)
 have eu:sa+u+(na-u)=sa+na:=by rw[BH,AU hu]
 rw[eu];refine Al<|HU hx<|Al<|HV C hk1 xN bnd (left:=true) (base:=sa+na) (n:=nb) (hint:=nb-1) (by lia) (by lia) gb λv hv tr2 fs2=>?_
 dsimp only;have tr2':∀i g,sa+na<=i->i<sa+na+v->γ[i]?=some g->c g x=true:=λi g z1 z2 z3=>by simpa[bb]using tr2 i g z1 z2 z3
 have fs2':∀i g,sa+na+v<=i->i<sa+na+nb->γ[i]?=some g->c g x=false:=λi g z1 z2 z3=>by simpa[bb]using fs2 i g z1 z2 z3
 by_cases e4:(v == 0)=true
 ·refine fR e4 ?_;have e4':v=0:=CL e4;exact Ai<|q V1 γ (idle (λi j g h z1 z2 z3 z4 z5 z6=>(C.letr (ax i g z1 z2 z5)<|fs2' j h (by lia) z4 z6)) V1 a1 k1 f1) pd1
 refine eP e4 ?_;have e4':v≠0:=λz=>e4 (by rw[z];rfl)
 have ex:(γ.map f).extract (sa+u) (sa+na)=ar f (pc γ (sa+u)<|na-u):=by
  have:=M1 (γ:=γ) (f:=f) (sa+u)<|na-u;rwa [eu]at this
 have ey:(γ.map f).extract (sa+na) (sa+na+v)=ar f (pc γ (sa+na) v):=M1 _ _;rw[ex,ey];have T:Yp c N (pc γ (sa+u)<|na-u) (pc γ (sa+na) v):=by
  refine⟨zx λi j g h z1 z2 z3=>ga i j g h (by lia) z2<|by lia,zx λi j g h z1 z2 z3=>gb i j g h z1 z2<|by lia,λg hg h hh=>?_,λg hg=>?_,λg hg=>?_,λz=>?_,λz=>?_,λx' y' z1 z2=>?_,λx' z1 g hg=>?_⟩
  ·walk_at "A";obtain⟨j,y4,y5,y6⟩:=gO hh;exact tagab i j g h (by lia) (by lia) y4 (by lia) y3 y6
  ·walk_at "A";exact bnd i g y3
  ·walk_at "A";exact bnd i g y3
  ·have:=ml (γ:=γ) (lo:=sa+u) (n:=na-u) (by lia)
   rw[z]at this;simp at this;lia
  ·have:=ml (γ:=γ) (lo:=sa+na) (n:=v) (by lia)
   rw[z]at this;simp at this;lia
  ·rw[zw<|by lia]at z1 z2
   rw[Nat.add_zero]at z1 z2;rw[ht]at z2;cases z2;exact fs' (sa+u) x' (Qa _) (by lia) z1
  ·rw[ml<|by lia,zw<|Nat.sub_lt (BU e3') Nat.one_pos,show sa+u+(na - u - 1)=sa+na - 1 by rw[<-Nat.add_sub_assoc (BU e3'),eu],hx]at z1
   cases z1;walk_at "A";exact tr2' i g y1 y2 y3
 have fin:∀(o:Sj Keyed)(V4:SortSt),Sm V1 V4->Rt f c (pc γ (sa+u)<|na-u) (pc γ (sa+na) v) o->∀Wq:SortSt,arrOf Wq=o.toList.zipIdx.foldl (λa (p:Keyed×Nat)=>a.setIfInBounds (sa+u+p.2) p.1) (arrOf V4)->kindOf Wq=kindOf V4->pendingOf Wq=pendingOf V4->failedOf Wq=failedOf V4->
   ∃γ',Yw k f N c γ sa (na+nb) Wq γ':=λo V4 sm2 rt Wq a3 k3 _ f3=>by
  obtain⟨l,rfl,gd⟩:=rt;have hl:l.length=na-u+v:=by rw[gd.2.length_eq,Xa,ml<|by lia,ml<|by lia]
  have sp:pc γ sa (na+nb)=pc γ sa u++(pc γ (sa+u) (na-u)++pc γ (sa+na) v)++pc γ (sa+na+v) (nb-v):=by
   have h1:na+nb=u+((na-u)+(v+(nb-v))):=by rw[AU hv,<-BH,AU hu]
   rw[h1,qw,qw<|sa+u,qw<|sa+u+(na - u),eu];simp
  have pX:(pc γ sa u++l++pc γ (sa+na+v) (nb-v)).Perm (pc γ sa<|na+nb):=by
   rw[sp];exact(gd.2.append_left _).append_right _
  have hX:(pc γ sa u++l++pc γ (sa+na+v) (nb-v)).length=na+nb:=by rw[pX.length_eq,ml<|by lia]
  let γ':Sj Nat:=(γ.toList.take sa++(pc γ sa u++l++pc γ (sa+na+v) (nb-v))++γ.toList.drop (sa+(na+nb))).toArray
  have eγ:γ'.toList=γ.toList.take sa++(pc γ sa u++l++pc γ (sa+na+v) (nb-v))++γ.toList.drop (sa+(na+nb)):=rfl;obtain⟨n1,n2,n3⟩:=Fi (γ:=γ) (lo:=sa) (n:=na+nb) (by lia) pX eγ
  have pw:(pc γ sa u++l++pc γ (sa+na+v) (nb-v)).Pairwise (Bf c):=by
   have inl:∀h∈l,(∃i,sa+u<=i/\i<sa+na/\γ[i]?=some h)\/∃j,sa+na<=j/\j<sa+na+v/\γ[j]?=some h:=λh hh=>by
    rcases Qb.mp (gd.2.mem_iff.mp hh) with hh|hh
    ·obtain⟨i,y1,y2,y3⟩:=gO hh;exact .inl ⟨i,y1,by lia,y3⟩
    ·obtain⟨i,y1,y2,y3⟩:=gO hh;exact .inr ⟨i,y1,y2,y3⟩
   rw[Qh,Qh];refine⟨⟨zx λi j g h z1 z2 z3=>ga i j g h z1 z2<|by lia,gd.1,λg hg h hh=>?_⟩,zx λi j g h z1 z2 z3=>gb i j g h (by lia) z2<|by lia,λg hg h hh=>?_⟩
   ·walk_at "A";rcases inl h hh with⟨j,y4,y5,y6⟩|⟨j,y4,y5,y6⟩
    ·exact ga i j g h y1 (by lia) y5 y3 y6
    ·exact .inr ⟨C.letr (tr' i g y1 y2 y3)<|tb j h y4 (by lia) y6,tagab i j g h y1 (by lia) y4 (by lia) y3 y6⟩
   ·obtain⟨j,y4,y5,y6⟩:=gO hh;walk_at "z"
    ·walk_at "A";exact .inr ⟨C.letr (ax i g y1 (by lia) y3)<|fs2' j h y4 (by lia) y6,tagab i j g h y1 (by lia) (by lia) (by lia) y3 y6⟩
    ·rcases inl g hg with⟨i,y1,y2,y3⟩|⟨i,y1,y2,y3⟩
     ·exact .inr ⟨C.letr (ax i g (by lia) y2 y3)<|fs2' j h y4 (by lia) y6,tagab i j g h (by lia) y2 (by lia) (by lia) y3 y6⟩
     ·exact gb i j g h y1 (by lia) (by lia) y3 y6
  refine⟨γ',⟨?_,(k3.trans sm2.kind).trans hk1,(f3.trans sm2.fine).trans (f1.trans R.fine),n1.trans R.perm⟩,O8 hX n3 pw,O9 n3 λg hg=>?_,n2⟩
  ·have Uz:arrOf V4=γ.map f:=(sm2.arr.trans a1).trans R.arr;rw[a3,Uz];apply Array.toList_inj.mp;have:=wa (sa+u) (ar f l).toList 0 (γ.map f) (by rw[CK,hsz];simp[ar,hl];lia)
   rw[Nat.add_zero]at this;rw[this];have el:(ar f l).toList=l.map f:=by simp[ar]
   rw[el,Ya,hl,Array.toList_map,Array.toList_map,eγ];rw[<-DJ,<-CP,<-Yc,<-Yc];congr 1;have t1:γ.toList.take (sa+u)=γ.toList.take sa++pc γ sa u:=by
    unfold pc;rw[List.take_add]
   have t2:γ.toList.drop (sa+u+(na-u+v))=pc γ (sa+na+v) (nb-v)++γ.toList.drop (sa+(na+nb)):=by
    unfold pc;have h:=Vk (nb-v)<|γ.toList.drop<|sa+na+v;rw[BX,show sa+na+v+(nb - v)=sa+(na+nb) by rw[BH,AU hv,BH]]at h
    rw[show sa+u+(na - u+v)=sa+na+v by rw[<-BH,eu],h]
   rw[t1,t2];simp
  ·have hg':=pX.mem_iff.mp hg;obtain⟨i,y1,y2,y3⟩:=gO hg';by_cases hi:i<sa+na
   ·have:=oa i g y1 hi y3;lia
   ·have:=ob i g (by lia) (by lia) y3;lia
 by_cases e5:na-u<=v
 ·refine fR e5<|Al<|O6 C hk1 T λo V4 sm2 rt=>(Al<|Av (Q:=λ_ Wq=>arrOf Wq=o.toList.zipIdx.foldl (λa (p:Keyed×Nat)=>a.setIfInBounds (sa+u+p.2) p.1) (arrOf V4)/\kindOf Wq=kindOf V4/\pendingOf Wq=pendingOf V4/\failedOf Wq=failedOf V4) (BC ⟨rfl,rfl,rfl,rfl⟩) ?_);rintro _ Wq ⟨a3,k3,p3,f3⟩;obtain⟨γ',M⟩:=fin o V4 sm2 rt Wq a3 k3 p3 f3;refine Al<|BP ?_;have hf:failedOf Wq=none:=M.rp.fine;have:=q Wq γ' M<|p3.trans<|sm2.pend.trans pd1;refine Ai ?_;rw[show((sortPriv% PySem.Builtin.SortState.failed) Wq).isNone=true by rw[show(sortPriv% PySem.Builtin.SortState.failed) Wq=none from hf];rfl]
  exact this
 ·refine eP e5<|Al<|O7 C hk1 T λo V4 sm2 rt=>(Al<|Av (Q:=λ_ Wq=>arrOf Wq=o.toList.zipIdx.foldl (λa (p:Keyed×Nat)=>a.setIfInBounds (sa+u+p.2) p.1) (arrOf V4)/\kindOf Wq=kindOf V4/\pendingOf Wq=pendingOf V4/\failedOf Wq=failedOf V4) (BC ⟨rfl,rfl,rfl,rfl⟩) ?_);rintro _ Wq ⟨a3,k3,p3,f3⟩;obtain⟨γ',M⟩:=fin o V4 sm2 rt Wq a3 k3 p3 f3;refine Al<|BP ?_;have hf:failedOf Wq=none:=M.rp.fine;have:=q Wq γ' M<|p3.trans<|sm2.pend.trans pd1;refine Ai ?_;rw[show((sortPriv% PySem.Builtin.SortState.failed) Wq).isNone=true by rw[show(sortPriv% PySem.Builtin.SortState.failed) Wq=none from hf];rfl]
  exact this
end
def R9:StateT SortSt Sem Unit:=sortPriv% PySem.Builtin.sortRuns
abbrev Run:=Nat×Nat×Nat
def Cv(c:Nat->Nat->Ss)(γ:Sj Nat):Nat->Se Run->Nat->Prop|a,[],b=>a=b|a,r::l,b=>r.1=a/\1<=r.2.1/\Sg c γ a (a+r.2.1)/\Ow γ a (a+r.2.1)/\Cv c γ (a+r.2.1) l b
section
variable {prog:Su}{w:Sx}{A:Around}{E:Sh->Si->Prop}{s:Si}{k:SortKind}{f:Nat->Keyed}{N:Nat}{c:Nat->Nat->Ss}{st:SortSt}{γ γ':Sj Nat}
theorem Cv.le:∀{l:Se Run}{a b:Nat},Cv c γ a l b->a+l.length<=b
 |[],a,b,h=>by cases h;simp
 | r::l,a,b,h=>by
  have:=Cv.le h.2.2.2.2;have:=h.2.1;rw[Wc];lia
theorem Cv.congr:∀{l:Se Run}{a b:Nat},Cv c γ a l b->(∀i,a<=i->i<b->γ'[i]?=γ[i]?)->Cv c γ' a l b
 |[],a,b,h,_=>h
 | r::l,a,b,⟨h1,h2,h3,h4,h5⟩,e=>by
  have hb:=Cv.le h5;refine⟨h1,h2,λi j g h z1 z2 z3 z4 z5=>h3 i j g h z1 z2 z3 (by rw[<-e i z1 (by lia)];exact z4) (by rw[<-e j (by lia) (by lia)];exact z5),λi g z1 z2 z3=>h4 i g z1 z2 (by rw[<-e i z1 (by lia)];exact z3),Cv.congr h5 λi z1 z2=>e i (by lia) z2⟩
theorem Cv.app:∀{l m:Se Run}{a b:Nat},Cv c γ a (l++m) b↔∃d,Cv c γ a l d/\Cv c γ d m b
 |[],m,a,b=>⟨λh=>⟨a,rfl,h⟩,λ⟨d,h1,h2⟩=>by cases h1;exact h2⟩
 | r::l,m,a,b=>by
  constructor
  ·rintro⟨h1,h2,h3,h4,h5⟩;obtain⟨d,h6,h7⟩:=Cv.app.mp h5;exact⟨d,⟨h1,h2,h3,h4,h6⟩,h7⟩
  ·rintro⟨d,⟨h1,h2,h3,h4,h6⟩,h7⟩;exact⟨h1,h2,h3,h4,Cv.app.mpr ⟨d,h6,h7⟩⟩
structure Sr(k:SortKind)(f:Nat->Keyed)(N:Nat)(c:Nat->Nat->Bool)(lo:Nat)(δ:Array Nat)(st:SortSt)(γ:Array Nat):Prop where
 rp:Rp k f N st γ
 cv:Cv c γ 0 (pendingOf st).toList lo
 tl:∀i,lo<=i->γ[i]?=δ[i]?
 le:lo<=N
def Pb{l:Se Run}(h:i+1<l.length):∃l1 r1 r2 l2,l=l1++r1::r2::l2/\l1.length=i:=by
 refine⟨l.take i,l[i],l[i+1],l.drop<|i+2,?_,by rw[Xm];lia⟩
 have h1:=Vk i l;rw[Vl (by lia:i<l.length),Vl (by lia:i+1<l.length)]at h1
 exact h1.symm
def Fj(l1 l2:Se Run)(r1 r2 r:Run):((l1++r1::r2::l2).set l1.length r).eraseIdx (l1.length+1)=l1++r::l2:=by
 rw[List.set_append_right _ _<|Qa _,Ci,List.set_cons_zero,List.eraseIdx_append_of_length_le<|by lia]
 congr 1;rw[show l1.length+1 - l1.length=1 by lia];rfl
def wc(C:Cm prog w A s k f N c){lo i:Nat}{δ:Sj Nat}(S:Sr k f N c lo δ st γ)(hi:i+1<(pendingOf st).size){Q:Ss->SortSt->Prop}
  (q:∀VX γ',Sr k f N c lo δ VX γ'->(pendingOf VX).size+1=(pendingOf st).size->Q true VX):wpS (model prog w) A E s ((sortPriv% PySem.Builtin.mergeAt) i) Q st:=by
 obtain⟨l1,⟨sa,na,p1⟩,⟨sb,nb,p2⟩,l2,hl,hl1⟩:=Pb (l:=(pendingOf st).toList) (i:=i) (by rw[Zd];exact hi)
 have cv:=S.cv;rw[hl]at cv;obtain⟨d,c1,c2⟩:=Cv.app.mp cv;obtain⟨h1,h2,h3,h4,h5,h6,h7,h8,h9⟩:=c2;dsimp only at h1 h2 h3 h4 h5 h6 h7 h8 h9;subst h1 h5;have hle:=Cv.le h9;have hN:=S.le;have e1:(pendingOf st)[i]?=some (sa,na,p1):=by rw[<-Xg,hl,<-hl1,Qf<|Qa _,Ci];rfl
 have e2:(pendingOf st)[i+1]?=some (sa+na,nb,p2):=by rw[<-Xg,hl,<-hl1,Qf<|by lia,show l1.length+1 - l1.length=1 by lia];rfl
 refine Pa C S.rp e1 e2 h2 h6 (by lia) h3 h4 h7 h8 λVX γ' M pd=>?_
 have out:∀i,i<sa\/sa+(na+nb)<=i->γ'[i]?=γ[i]?:=M.out;have hp:(pendingOf VX).toList=l1++(sa,na+nb,p1)::l2:=by
  rw[pd,Array.toList_eraseIdxIfInBounds,Array.toList_setIfInBounds,hl,<-hl1,Fj]
 refine q VX γ' ⟨M.rp,?_,λi z1=>?_,S.le⟩ ?_
 ·rw[hp];refine Cv.app.mpr ⟨sa,c1.congr λi z1 z2=>out i<|.inl z2,rfl,by show 1<=na+nb;lia,M.sg,M.ow,?_⟩
  show Cv c γ' (sa+(na+nb)) l2 lo;rw[<-BH];exact h9.congr λi z1 z2=>out i<|.inr<|by lia
 ·rw[out i<|.inr<|by lia];exact S.tl i z1
 ·have a1:(pendingOf VX).size=(l1++(sa,na+nb,p1)::l2).length:=by rw[<-hp,Zd]
  have a2:(pendingOf st).size=(l1++(sa,na,p1)::(sa+na,nb,p2)::l2).length:=by rw[<-hl,Zd]
  rw[a1,a2];simp only[Xa,Wc];lia
theorem Cv.modify(hg:∀r,(g r).1=r.1/\(g r).2.1=r.2.1):∀{l:Se Run}{i a b:Nat},Cv c γ a l b->Cv c γ a (l.modify i g) b
 |[],i,a,b,h=>by simpa using h
 | r::l,0,a,b,⟨h1,h2,h3,h4,h5⟩=>by
  rw[List.modify_zero_cons];have:=hg r;exact⟨this.1.trans h1,by rw[this.2];exact h2,by rw[this.2];exact h3,by rw[this.2];exact h4,by rw[this.2];exact h5⟩
 | r::l,i+1,a,b,⟨h1,h2,h3,h4,h5⟩=>by
  rw[List.modify_succ_cons];exact⟨h1,h2,h3,h4,Cv.modify hg h5⟩
def Pc(C:Cm prog w A s k f N c)(R:Rp k f N st γ){lo n ok:Nat}(hn:lo+n<=N)(h1:1<=ok)(hok:ok<=n)(sg:Sg c γ lo (lo+ok))(ow:Ow γ lo (lo+ok))(raw:Raw γ (lo+ok) N)
  {Q:Ss->SortSt->Prop}(q:∀(x:Sj Keyed)(γ':Sj Nat),Rp k f N (setArr st x) γ'->Sg c γ' lo (lo+n)->Ow γ' lo (lo+n)->Raw γ' (lo+n) N->Out γ γ' lo (lo+n)->Q true (setArr st x)) :
  wpS (model prog w) A E s ((sortPriv% PySem.Builtin.binarySort) lo n ok) Q st:=Le C R hn h1 hok sg ow raw q
def Pd(C:Cm prog w A s k f N c)(R:Rp k f N st γ){lo:Nat}(hl:lo<N)(raw:Raw γ lo N)
  {Q:Sf Nat->SortSt->Prop}(q:∀n VX,1<=n->lo+n<=N->Rn k f N c lo st γ n VX->Q (some n) VX):wpS (model prog w) A E s ((sortPriv% PySem.Builtin.countRun) lo (N-lo)) Q st:=OZ C R hl raw q
def HW{M:Model}{σ γ:Type}{X:StateT σ Sem γ}{B:Nat->StateT σ Sem γ}{p:Prop}{d:Decidable p}{n:Nat}{Q:γ->σ->Prop}{st:σ}(I:Nat->σ->Prop)
  (h:p->(∀n st,I n st->wpS M A E s (B n) Q st)->wpS M A E s X Q st)(g:¬ p->I n st)(hB:∀n st,I n st->wpS M A E s (B n) Q st):wpS M A E s (@ite _ p d X<|B n) Q st:=fE (λz=>h z hB) λz=>hB _ _<|g z
def zy(C:Cm prog w A s k f N c)(R:Rp k f N st γ)(hp:pendingOf st=#[])(raw:Raw γ 0 N){Q:Unit->SortSt->Prop}(q:∀VX γ',Rp k f N VX γ'->Sg c γ' 0 N->Q ⟨⟩ VX):wpS (model prog w) A E s R9 Q st:=by
 have hsz:((sortPriv% PySem.Builtin.SortState.a) st).size=N:=by
  have:=congrArg Array.size R.arr;rw[CK,R.size]at this;exact this
 refine Al<|BP ?_;dsimp only;rw[hsz];refine Al<|Av (Aw (I:=λx r VX=>∃lo,r=(none,lo)/\x<=lo/\∃γ',Sr k f N c lo γ' VX γ'/\Raw γ' lo N) (Q:=λr VX=>r=(none,N)/\∃γ',Sr k f N c N γ' VX γ') ?step ?fin ?init) ?post
 case init=>exact⟨0,rfl,Qa _,γ,⟨R,by rw[hp];rfl,λ_ _=>rfl,Vh _⟩,raw⟩
 case fin=>
  rintro r VX ⟨lo,rfl,hx,γ',S,rw'⟩;have:=S.le;obtain rfl:lo=N:=by lia
  exact⟨rfl,γ',S⟩
 case step=>
  rintro x r VX _ hxN ⟨lo,rfl,hx,γ',S,raw'⟩;dsimp only;by_cases hl:lo ≥ N
  ·refine fR hl ?_;have:=S.le;obtain rfl:lo=N:=by lia
   exact Ai ⟨rfl,γ',S⟩
  refine eP hl ?_;refine Al<|Pd C S.rp (by lia) raw' λn V1 hn1 hn2 rn=>?_
  dsimp only;apply HW (n:=n) (I:=λn V1=>∃γ1,Rp k f N V1 γ1/\pendingOf V1=pendingOf VX/\1<=n/\lo+n<=N/\Sg c γ1 lo (lo+n)/\Ow γ1 lo (lo+n)/\Raw γ1 (lo+n) N/\Out γ' γ1 lo (lo+n))
  case g=>
   obtain⟨xa,γ1,hst1,R1,sg1,ow1,raw1,out1⟩:=rn;exact λ_=>⟨γ1,R1,by rw[hst1],hn1,hn2,sg1,ow1,raw1,out1⟩
  case h=>
   intro hm key;obtain⟨xa,γ1,hst1,R1,sg1,ow1,raw1,out1⟩:=rn;refine Al<|CD<|AF ⟨rfl,?_⟩;generalize hm2:min (N-lo) ((sortPriv% PySem.Builtin.minRun) N N 0)=n2;have hn3:n<=n2:=by rw[<-hm2];lia
   have hn4:lo+n2<=N:=by rw[<-hm2];lia
   exact Al<|Pc C R1 hn4 hn1 hn3 sg1 ow1 raw1 λxb γ2b R2 sg2 ow2 raw2 out2=>eP (by decide)<|key n2 _ ⟨γ2b,R2,by rw[hst1],Ve hn1 hn3,hn4,sg2,ow2,raw2,λi hi=>(out2 i hi).trans (out1 i<|by lia)⟩
  clear rn hn1 hn2;intro n V1 hJ;obtain⟨γ1,hJ⟩:=hJ;have R1:=hJ.1;have pd1:=hJ.2.1;have hn1:=hJ.2.2.1;have hn2:=hJ.2.2.2.1;have sg1:=hJ.2.2.2.2.1;have ow1:=hJ.2.2.2.2.2.1;have raw1:=hJ.2.2.2.2.2.2.1;have out1:=hJ.2.2.2.2.2.2.2;refine Al<|BP ?_;have cv1:Cv c γ1 0 (pendingOf V1).toList lo:=by rw[pd1];exact S.cv.congr λi _ z2=>out1 i<|.inl z2
  have S1:Sr k f N c lo γ1 V1 γ1:=⟨R1,cv1,λ_ _=>rfl,S.le⟩;have push:∀(V4:SortSt)(γ2:Sj Nat),Sr k f N c lo γ1 V4 γ2->∀Wq:SortSt,arrOf Wq=arrOf V4->kindOf Wq=kindOf V4->failedOf Wq=failedOf V4->pendingOf Wq=(pendingOf V4).push (lo,n,0)->∃γ',Sr k f N c (lo+n) γ' Wq γ'/\Raw γ' (lo+n) N:=λV4 γ2 S2 Wq a3 k3 f3 p3=>by
   refine⟨γ2,⟨⟨a3.trans S2.rp.arr,k3.trans S2.rp.kind,f3.trans S2.rp.fine,S2.rp.perm⟩,?_,λ_ _=>rfl,hn2⟩,λi z1 z2=>?_⟩
   ·rw[p3,Array.toList_push];refine Cv.app.mpr ⟨lo,S2.cv,rfl,hn1,λi j g h z1 z2 z3 z4 z5=>?_,λi g z1 z2 z3=>?_,rfl⟩
    ·exact sg1 i j g h z1 z2 z3 (by rw[<-S2.tl i z1];exact z4) (by rw[<-S2.tl j (by lia)];exact z5)
    ·exact ow1 i g z1 z2 (by rw[<-S2.tl i z1];exact z3)
   ·rw[S2.tl i<|by lia];exact raw1 i z1 z2
  split
  ·rename_i s1 n1 sd hback
   refine Al<|Av (Aw (I:=λ_ r V4=>r=(none,())/\∃γ2,Sr k f N c lo γ1 V4 γ2) (Q:=λr V4=>r=(none,())/\∃γ2,Sr k f N c lo γ1 V4 γ2) ?step2 ?fin2 ?init2) ?post2
   case init2=>exact⟨rfl,γ1,S1⟩
   case fin2=>exact λr V4 h=>h
   case step2=>
    rintro y r V4 _ _ ⟨rfl,γ2,S2⟩;refine Al<|BP ?_;split
    ·rename_i o1 o2 older hold
     have hsz2:(pendingOf V4).size > 1:=by
      by_cases hz:(pendingOf V4).size > 1
      ·exact hz
      ·rw[Ak hz]at hold;cases hold
     by_cases ho:older<=(sortPriv% PySem.Builtin.power) N (2*s1+n1) (2*s1+n1+n1+n) N
     ·refine fR ho ?_;exact Ai ⟨rfl,γ2,S2⟩
     ·refine eP ho ?_;refine Al (wc C S2 (i:=(pendingOf V4).size-2) (by lia) λWq γ3 S3 _=>?_)
      exact Ai ⟨rfl,γ3,S3⟩
    ·exact Ai ⟨rfl,γ2,S2⟩
   case post2=>
    rintro r V4 ⟨rfl,γ2,S2⟩;dsimp only;refine Al<|Av (Q:=λ_ Wq=>∃γ3,Sr k f N c lo γ1 Wq γ3) (BC ⟨γ2,⟨S2.rp.arr,S2.rp.kind,S2.rp.fine,S2.rp.perm⟩,?_,S2.tl,S2.le⟩) ?_
    ·show Cv c γ2 0 ((pendingOf V4).modify ((pendingOf V4).size-1) _).toList lo;rw[Array.toList_modify];refine Cv.modify (g:=λx=>(x.1,x.2.1,_)) (λr=>?_) S2.cv;exact⟨rfl,rfl⟩
    rintro _ Wq ⟨γ3,S3⟩;refine Al<|Av (Q:=λ_ st4=>∃γ',Sr k f N c (lo+n) γ' st4 γ'/\Raw γ' (lo+n) N) (BC<|push Wq γ3 S3 _ rfl rfl rfl rfl) ?_;rintro _ st4 ⟨γ4,S4,raw4⟩;exact Ai ⟨_,rfl,by lia,γ4,S4,raw4⟩
  ·refine Al<|Av (Q:=λ_ st4=>∃γ',Sr k f N c (lo+n) γ' st4 γ'/\Raw γ' (lo+n) N) (BC<|push V1 γ1 S1 _ rfl rfl rfl rfl) ?_;rintro _ st4 ⟨γ4,S4,raw4⟩;exact Ai ⟨_,rfl,by lia,γ4,S4,raw4⟩
 case post=>
  rintro r VX ⟨rfl,γ',S⟩;dsimp only;refine Al<|Av (Aw (I:=λx r V4=>r=(none,())/\∃γ2,Sr k f N c N γ' V4 γ2/\(pendingOf V4).size+x<=N) (Q:=λr V4=>r=(none,())/\∃γ2,Sr k f N c N γ' V4 γ2/\(pendingOf V4).size<=1) ?step3 ?fin3 ?init3) ?post3
  case init3=>
   refine⟨rfl,γ',S,?_⟩;have:=S.cv.le;rw[Zd]at this;lia
  case fin3=>
   rintro r V4 ⟨rfl,γ2,S2,hz⟩;exact⟨rfl,γ2,S2,by lia⟩
  case step3=>
   rintro y r V4 _ _ ⟨rfl,γ2,S2,hz⟩;refine Al<|BP ?_;by_cases h1:((sortPriv% PySem.Builtin.SortState.pending) V4).size<=1
   ·refine fR h1 ?_;exact Ai ⟨rfl,γ2,S2,h1⟩
   refine eP h1 ?_;have h1':¬ (pendingOf V4).size<=1:=h1;refine Al<|wc C S2 ?_ λWq γ3 S3 hs3=>Ai ⟨rfl,γ3,S3,by lia⟩
   have pick:∀(p:Prop) [Decidable p],(if p then(pendingOf V4).size-2-1 else(pendingOf V4).size-2)+1<(pendingOf V4).size:=λp _=>by
    split<;>lia
   exact pick _
  case post3=>
   rintro r V4 ⟨rfl,γ2,S2,hz⟩;dsimp only;refine Ai<|q V4 γ2 S2.rp ?_;have cv:=S2.cv;rw[<-Zd]at hz;generalize (pendingOf V4).toList=l at cv hz;cases l with
   |nil=>
    have:0=N:=cv;subst this;exact λi j g h z1 z2 z3=>by lia
   |cons r l=>
    cases l with
    |cons _ _=>simp at hz
    |nil=>
     obtain⟨h1,h2,h3,h4,h5⟩:=cv;have e:0+r.2.1=N:=h5;rw[e]at h3;exact h3
end
end TS
namespace VF
open PySem L2
open Classical in
def Tc(lt:D->D->Ss):Se D->Se D->Ss
 |[],[]=>false
 |[],_::_=>true
 |_::_,[]=>false
 |x::xs,y::ys=>if x=y then Tc lt xs ys else lt x y
def ltN:Nat->D->D->Ss
 |0,_,_=>false
 |_+1,.int i,.int j=>decide<|i<j
 |_+1,.str x,.str y=>decide<|x.cps.toList<y.cps.toList
 |n+1,.tup xs,.tup ys=>Tc (ltN n) xs ys
 |_+1,_,_=>false
def Cp:Nat->D->D->Prop|0,_,_=>False|_+1,.int _,.int _=>True|_+1,.str _,.str _=>True|n+1,.tup xs,.tup ys=>∀(i:Nat) x y,xs[i]?=some x->ys[i]?=some y->Cp n x y|_+1,_,_=>False
theorem zz:∀(xs:Se D),Tc lt xs xs=false
 |[]=>rfl
 | x::xs=>by
  unfold Tc;rw[Ag rfl];exact zz xs
theorem pI:∀(n:Nat)(a:D),ltN n a a=false
 |0,_=>rfl
 | n+1,a=>by
  cases a with|int i=>exact Ae (DM i)|str x=>exact Ae (List.lt_irrefl _)|tup xs=>exact zz xs|_=>rfl
structure Or(n:Nat):Prop where
 tri:∀{a b:D},Cp n a b->a=b\/ltN n a b=true\/ltN n b a=true
 tra:∀{a b c:D},Cp n a b->Cp n b c->Cp n a c->ltN n a b=true->ltN n b c=true->ltN n a c=true
abbrev Cl(n:Nat)(xs ys:List D):Prop:=∀(i:Nat) x y,xs[i]?=some x->ys[i]?=some y->Cp n x y
def Cl.tail(h:Cl n (x::xs) (y::ys)):Cl n xs ys:=λi a b e1 e2=>h (i+1) a b (by simpa using e1) (by simpa using e2)
def Cl.head(h:Cl n (x::xs) (y::ys)):Cp n x y:=h 0 x y rfl rfl
open Classical in
def bW:Tc lt (x::xs) (x::ys)=Tc lt xs ys:=by
 show(if x=x then Tc lt xs ys else lt x x)=_;rw[Ag rfl]
open Classical in
def bz(h:x≠y):Tc lt (x::xs) (y::ys)=lt x y:=by
 show(if x=y then Tc lt xs ys else lt x y)=_;rw[Ak h]
theorem zF(O:Or n):∀{xs ys:Se D},Cl n xs ys->xs=ys\/Tc (ltN n) xs ys=true\/Tc (ltN n) ys xs=true
 |[],[],_=>.inl rfl
 |[],_::_,_=>.inr<|.inl rfl
 |_::_,[],_=>.inr<|.inr rfl
 | x::xs,y::ys,h=>by
  by_cases e:x=y
  ·subst e;rw[bW,bW];rcases zF O h.tail with q|q
   ·exact .inl (by rw[q])
   ·exact .inr q
  ·rw[bz e,bz<|Az e];rcases O.tri h.head with q|q
   ·exact absurd q e
   ·exact .inr q
theorem zG(O:Or n):∀{xs ys zs:Se D},Cl n xs ys->Cl n ys zs->Cl n xs zs->Tc (ltN n) xs ys=true->Tc (ltN n) ys zs=true->Tc (ltN n) xs zs=true
 |[],[],[],_,_,_,h1,_=>h1
 |[],_::_,[],_,_,_,_,h2=>h2
 |[],_,_::_,_,_,_,_,_=>rfl
 |_::_,[],_,_,_,_,h1,_=>by cases h1
 |_::_,_::_,[],_,_,_,_,h2=>by cases h2
 | x::xs,y::ys,z::zs,c1,c2,c3,h1,h2=>by
  by_cases e1:x=y
  ·subst e1;rw[bW]at h1;by_cases e2:x=z
   ·subst e2;rw[bW]at h2 ⊢;exact zG O c1.tail c2.tail c3.tail h1 h2
   ·rw[bz e2]at h2 ⊢;exact h2
  ·rw[bz e1]at h1;by_cases e2:y=z
   ·subst e2;rw[bz e1];exact h1
   ·rw[bz e2]at h2;have h3:=O.tra c1.head c2.head c3.head h1 h2;have e3:x≠z:=λe=>by subst e;rw[pI]at h3;cases h3
    rw[bz e3];exact h3
theorem kr:∀n,Or n
 |0=>⟨λh=>h.elim,λh=>h.elim⟩
 | n+1=>by
  have O:=kr n;refine⟨λ{a b} h=>?_,λ{a b c} h1 h2 h3 l1 l2=>?_⟩
  ·cases a with
   |int i=>
    cases b with
    |int j=>
     rcases Int.lt_trichotomy i j with q|q|q
     ·exact .inr<|.inl<|Af q
     ·exact .inl (by rw[q])
     ·exact .inr<|.inr<|Af q
    |_=>exact h.elim
   |str x=>
    cases b with
    |str y=>
     by_cases q:x.cps.toList<y.cps.toList
     ·exact .inr<|.inl<|Af q
     ·by_cases q':y.cps.toList<x.cps.toList
      ·exact .inr<|.inr<|Af q'
      ·refine .inl ?_;have:=Ho (a:=x) (b:=y) q' q;rw[this]
    |_=>exact h.elim
   |tup xs=>
    cases b with
    |tup ys=>
     rcases zF O h with q|q
     ·exact .inl (by rw[q])
     ·exact .inr q
    |_=>exact h.elim
   |_=>exact h.elim
  ·cases a with
   |int i=>
    cases b with
    |int j=>
     cases c with
     |int k=>
      exact Af<|Int.lt_trans (An l1)<|An l2
     |_=>exact h2.elim
    |_=>exact h1.elim
   |str x=>
    cases b with
    |str y=>
     cases c with
     |str z=>
      exact Af<|List.lt_trans (An l1)<|An l2
     |_=>exact h2.elim
    |_=>exact h1.elim
   |tup xs=>
    cases b with
    |tup ys=>
     cases c with|tup zs=>exact zG O h1 h2 h3 l1 l2|_=>exact h2.elim
    |_=>exact h1.elim
   |_=>exact h1.elim
theorem zH(h:∀a b,lt a b=true->lt b a=false):∀(xs ys:Se D),Tc lt xs ys=true->Tc lt ys xs=false
 |[],[],l=>by cases l
 |[],_::_,_=>rfl
 |_::_,[],l=>by cases l
 | x::xs,y::ys,l=>by
  by_cases e:x=y
  ·subst e;rw[bW]at l ⊢;exact zH h xs ys l
  ·rw[bz e]at l;rw[bz<|Az e];exact h x y l
theorem ux:∀(n:Nat)(a b:D),ltN n a b=true->ltN n b a=false
 |0,_,_,l=>by cases l
 | n+1,a,b,l=>by
  cases a with
  |int i=>
   cases b with
   |int j=>
    have q:=An l;exact Ae (by lia)
   |_=>cases l
  |str x=>
   cases b with
   |str y=>
    exact Ae<|List.lt_asymm<|An l
   |_=>cases l
  |tup xs=>
   cases b with|tup ys=>exact zH (ux n) xs ys l|_=>cases l
  |_=>cases l
def T9(n:Nat)(es:Se D):Prop:=es.Pairwise λa b=>ltN n b a=false
open Classical in
def dA(n:Nat)(ds:Se D):Se D:=if h:∃es:Se D,es.Perm ds/\T9 n es then h.choose else ds
def mn(n:Nat)(ds:Se D):(dA n ds).Perm ds:=by
 unfold dA;split
 ·rename_i h;exact h.choose_spec.1
 ·exact List.Perm.refl _
def CA(n:Nat)(ds:Se D):Prop:=∀a∈ds,∀b∈ds,Cp n a b
def CA.neg(h:CA n ds)(ha:a∈ds)(hb:b∈ds)(hc:c∈ds)(l:ltN n a c=true):ltN n a b=true\/ltN n b c=true:=by
 rcases(kr n).tri (h a ha b hb) with q|q|q
 ·subst q;exact .inr l
 ·exact .inl q
 ·exact .inr<|(kr n).tra (h b hb a ha) (h a ha c hc) (h b hb c hc) q l
def d7{ds es:Se D}(h:CA n ds)(p:es.Perm ds)(s:T9 n es):es=dA n ds:=by
 have ex:∃es:Se D,es.Perm ds/\T9 n es:=⟨es,p,s⟩;have e:dA n ds=ex.choose:=by unfold dA;rw[dif_pos ex]
 obtain⟨p2,s2⟩:=ex.choose_spec;rw[e];refine(p.trans p2.symm).eq_of_pairwise (λa b ha hb h1 h2=>?_) s s2;rcases(kr n).tri (h a (p.mem_iff.mp ha) b<|p2.mem_iff.mp hb) with q|q|q
 ·exact q
 ·rw[h2]at q;cases q
 ·rw[h1]at q;cases q
open PySem.SeqAt
open PySem.AutoSeq1 (wpAny_loadPart')
open PySem.MeetsSeq PySem.MeetsSeq2 PySem.MeetsSeq3
def W9(A:Around)(s:Si)(u v:Sh)(b:Ss):Prop:=∀(prog:Su)(w:Sx)(E:Sh->Si->Prop)(Q:Sh->Si->Prop),Q (.bool b) s->wpAny (model prog w) A (richCompare .Lt u v) Q E s
open Classical in
inductive IL(A:Around)(s:Shared)(lt:D->D->Bool):List Value->List Value->List D->List D->Prop where
 | left {ws:List Value} {es:List D}:ws.length=es.length->IL A s lt [] ws [] es
 | right {vs:List Value} {ds:List D}:vs.length=ds.length->IL A s lt vs [] ds []
 | cons {v w:Value} {vs ws:List Value} {d e:D} {ds es:List D}:EqAt A.in1 s v w (decide<|d=e)->(d≠e->W9 A.in1 s v w (lt d e))->IL A s lt vs ws ds es->IL A s lt (v::vs) (w::ws) (d::ds) (e::es)
open Classical in
inductive KL(A:Around)(s:Shared)(lt:D->D->Bool)(n m:Nat)(R:Result->Shared->Prop){α β:Type}(rest:List (Value×Value))(b:Option α×β)(s':Shared):Prop
 | mk (vs ws:List Value) (ds' es':List D) (e1:b.1=none) (e2:s'=s) (hz:rest=vs.zip ws) (hi:IL A s lt vs ws ds' es') (hlen:vs.length+m=ws.length+n) (hR:R (.ok<|.ret<|.bool<|Tc lt ds' es') s)
open Classical in
def rL(l b:Sk)(items items2:Sj Sh)(n n2:Nat)(dd dd2:Sf Sk)(sl sl2:Sj (Sf Sh))(lt:D->D->Ss)(ds es:Se D) :
  Meets (Builtin.«tuple.__lt__» ⟨[.ref l,.ref b],[]⟩)
   (λA R s=>s.heap.get? l=some { cls:=.type "tuple",dict:=dd,data:=.seq items n,slots:=sl }/\s.heap.get? b=some { cls:=.type "tuple",dict:=dd2,data:=.seq items2 n2,slots:=sl2 } /\
    IL A s lt items.toList items2.toList ds es/\R (.ok (.ret (.bool (Tc lt ds es)))) s) :=
 .of_wp λprog w A R s h=>by
  obtain⟨hp,g,d,tk,os⟩:=s;obtain⟨hl,hb,hI,h⟩:=h;have f2:=AutoSeq1.sub_tuple_tuple
  wp_walk using Cq hl,Cq hb,wpAny_forIn_list _ (KL A ⟨hp,g,d,tk,os⟩ lt items.size items2.size R) _
  case turn=>
   rintro⟨y,x⟩ rest b s' ⟨vs,ws,ds',es',hb',rfl,hz,hi,hlen,hR⟩;cases hi with
   |left _=>rw[List.zip_nil_left]at hz;cases hz
   |right _=>rw[List.zip_nil_right]at hz;cases hz
   |@cons v w' vs' ws' d' e' ds2 es2 he hlt hi'=>
    rw[BW]at hz;injection hz with hyx hrest;injection hyx with hy hx;subst hy hx;simp only[Wc]at hlen;refine Aa<|he prog w _ _ ?_;by_cases hde:d'=e'
    ·subst hde;rw[Af rfl];rw[bW]at hR
     wp_walk
     exact⟨_,_,_,_,rfl,rfl,hrest,hi',by lia,hR⟩
    ·rw[Ae hde];rw[bz hde]at hR;have hri:=hlt hde prog w
     wp_walk using hri
     exact⟨_,rfl,by simpa using hR⟩
  case fin=>
   rintro⟨b1,b2⟩ s' ⟨vs,ws,ds',es',hb',rfl,hz,hi,hlen,hR⟩;simp only at hb';subst hb';have hv:Tc lt ds' es'=decide (items.size<items2.size):=by
    cases hi with
    |left hl2=>
     cases es' with
     |nil=>
      simp only[Vg]at hlen hl2;exact(Ae<|by lia).symm
     |cons e0 e1=>
      simp only[Vg,Wc]at hlen hl2;exact(Af<|by lia).symm
    |right hl2=>
     cases ds' with
     |nil=>
      simp only[Vg]at hlen hl2;exact(Ae<|by lia).symm
     |cons e0 e1=>
      simp only[Vg,Wc]at hlen hl2;exact(Ae<|by lia).symm
    |cons _ _ _=>
     rw[BW]at hz;cases hz
   rw[hv]at hR
   wp_walk
   exact⟨_,rfl,by simpa[Builtin.Tuple.tupleCompareSizes]using hR⟩
  case h=>
   exact⟨items.toList,items2.toList,ds,es,rfl,rfl,rfl,hI,by rw[Zd,Zd,C7],h⟩
def W9.tuples{A:Around}{s:Si}{items items2:Sj Sh}(hl:s.heap.IsTuple l items)(hb:s.heap.IsTuple b items2)(hu:A.units<cLine)(hI:IL A s lt items.toList items2.toList ds es) :
  W9 A s (.ref l) (.ref b) (Tc lt ds es):=λprog w E Q h=>by
 obtain⟨⟨cls,dd,data,sl⟩,ho,hc,n,hd⟩:=id hl;obtain⟨⟨cls2,dd2,data2,sl2⟩,ho2,hc2,n2,hd2⟩:=id hb;simp only at hc hd hc2 hd2;subst hc hd hc2 hd2;exact richCompare_meets_room (op:=.Lt) ⟨_,ho,rfl⟩ ⟨_,ho2,rfl⟩ PySem.F.slot_tuple_lt PySem.F.entry_tuple_lt (PySem.F.args_tuple_lt_2 _ _) (rL l b items items2 n n2 dd dd2 sl sl2 lt ds es)
  ⟨ho,ho2,hI,show Value.bool (Tc lt ds es)≠Value.notImplemented/\Q (.bool<|Tc lt ds es) s from⟨(λx=>nomatch x),h⟩⟩ hu
theorem M2{A:Around}:∀{vs ws:Se Sh}{ds es:Se D},vs.length=ds.length->ws.length=es.length->
  (∀(i:Nat) v w d e,vs[i]?=some v->ws[i]?=some w->ds[i]?=some d->es[i]?=some e->(∀b,(b=true↔d=e)->EqAt A.in1 s v w b)/\(d≠e->W9 A.in1 s v w (lt d e)))->IL A s lt vs ws ds es
 |[],_,[],_,_,h2,_=>.left h2
 |_::_,[],_::_,[],h1,_,_=>.right h1
 | v::vs,w::ws,d::ds,e::es,h1,h2,h=>by
  obtain⟨a1,a2⟩:=h 0 v w d e rfl rfl rfl rfl;exact .cons (a1 _<|by simp) a2<|M2 (by simpa using h1) (by simpa using h2) λi v' w' d' e' z1 z2 z3 z4=>h (i+1) v' w' d' e' (by simpa using z1) (by simpa using z2) (by simpa using z3)<|by simpa using z4
 |[],_,_::_,_,h1,_,_=>by simp at h1
 |_::_,_,[],_,h1,_,_=>by simp at h1
 |_::_,[],_::_,_::_,_,h2,_=>by simp at h2
 |_::_,_::_,_::_,[],_,h2,_=>by simp at h2
open Classical in
def wd{A:Around}{u v:Sh}{d e:D}(h:EqAt A s u v (decide<|d=e))(b:Ss)(hb:b=true↔d=e):EqAt A s u v b:=by
 have:b=decide (d=e):=by rw[Xf,hb,decide_eq_true_eq]
 rw[this];exact h
theorem RH.ltAt:∀(n:Nat){s:Si}{d1 d2:D}{u1 u2:Sh}{A:Around},Pl n d1->Pl n d2->Cp n d1 d2->RH s.heap u1 d1->RH s.heap u2 d2->A.units+n<cLine->W9 A s u1 u2 (ltN n d1 d2):=by
 intro n;induction n with
 |zero=>intro s d1 d2 u1 u2 A p;cases p
 |succ n ih=>
  intro s d1 d2 u1 u2 A p1 p2 cp r1 r2 hu;cases r1 with
  |non=>exact cp.elim
  |int i t=>
   cases r2 with|int j t'=>exact λprog w E Q h=>HT.rcLt_int A s i t j t' prog w E Q h|_=>exact cp.elim
  |str x t=>
   cases r2 with|str y t'=>exact λprog w E Q h=>(PyProof.Rows.lt_str h:wpAny (model prog w) A (compareOp .Lt (.str x t)<|.str y t') Q E s)|_=>exact cp.elim
  |lst _ _ _=>exact cp.elim
  |@tup a its ds t hl f=>
   cases r2 with
   |@tup b its' ds' t' hl' f'=>
    cases p1 with
    |tup p1=>
    cases p2 with
    |tup p2=>
    refine W9.tuples t t' (by lia)<|M2 (by simpa using hl) (by simpa using hl') λi v w d e z1 z2 z3 z4=>?_
    have z1':its[i]?=some v:=by simpa using z1
    have z2':its'[i]?=some w:=by simpa using z2
    have m1:=p1 d<|Va z3;have m2:=p2 e<|Va z4;have hu':A.in1.units+n<cLine:=by show A.units+1+n<cLine;lia
    exact⟨wd (RH.eqAt n m1 m2 (f i v d z1' z3) (f' i w e z2' z4) hu').1,λ_=>ih m1 m2 (cp i d e z3 z4) (f i v d z1' z3) (f' i w e z2' z4) hu'⟩
   |_=>exact cp.elim
end VF
namespace VF
open PySem L2 PyProof.Rows PySem.SeqAt
def sP(A:Around)(s:Si)(fl:Ss)(u v:Sh)(c:Ss):Prop:=∀(prog:Su)(w:Sx)(E:Sh->Si->Prop)(Q:Ss->Si->Prop),Q c s->wpAny (model prog w) A (oneLt' fl u v) Q E s
open Classical in
inductive IK(A:Around)(s:Shared)(b:Bool)(lt:D->D->Bool):Nat->List Value->List Value->List D->List D->Prop where
 | left {i:Nat} {ws:List Value} {es:List D}:ws.length=es.length->IK A s b lt i [] ws [] es
 | right {i:Nat} {vs:List Value} {ds:List D}:vs.length=ds.length->IK A s b lt i vs [] ds []
 | cons {i:Nat} {v w:Value} {vs ws:List Value} {d e:D} {ds es:List D}:EqAt A s v w (decide<|d=e)->(d≠e->sP A s (b&&i == 0) v w (lt d e))->IK A s b lt (i+1) vs ws ds es->IK A s b lt i (v::vs) (w::ws) (d::ds) (e::es)
section
variable {A:Around}{s:Si}
def zJ(h:W9 A s u v c):sP A s false u v c:=λprog w E Q q=>by
 rw[oneLt'_eq];dsimp only;rw[Ak Bool.noConfusion];exact Aa<|h prog w _ _<|Ax q
theorem zK(fl:Ss):sP A s fl (.int a t) (.int b u) (decide<|a<b):=λprog w E Q q=>by
 cases fl with|true=>exact oneLt_int q|false=>exact zJ (λprog w E Q h=>HT.rcLt_int A s a t b u prog w E Q h) prog w E Q q
theorem uz{a b:Str}(fl:Ss):sP A s fl (.str a t) (.str b u) (decide<|a.cps.toList<b.cps.toList):=λprog w E Q q=>by
 cases fl with|true=>exact oneLt_str q|false=>exact zJ (λprog w E Q h=>(PyProof.Rows.lt_str h:wpAny (model prog w) A (compareOp .Lt (.str a t)<|.str b u) Q E s)) prog w E Q q
inductive KI(A:Around)(s:Shared)(b:Bool)(lt:D->D->Bool)(n m:Nat)(Q:Bool->Shared->Prop)(rest:List ((Value×Value)×Nat))(r:Option Bool×Unit)(s':Shared):Prop
 | mk (i:Nat) (vs ws:List Value) (ds' es':List D) (e1:s'=s) (e2:r=(none,())) (hz:rest=(vs.zip ws).zipIdx i) (hi:IK A s b lt i vs ws ds' es') (hlen:vs.length+m=ws.length+n) (hR:Q (Tc lt ds' es') s)
open Classical in
def zL{xs ys:Sj Sh}(hl:s.heap.IsTuple l xs)(hr:s.heap.IsTuple r ys)(hI:IK A s b lt 0 xs.toList ys.toList ds es)(q:Q (Tc lt ds es) s) :
  wpAny (model prog w) A (keyLt' (tuples' b) (.ref l)<|.ref r) Q E s:=by
 obtain⟨o1,g1,_,n1,d1⟩:=hl;obtain⟨o2,g2,_,n2,d2⟩:=hr;refine Aa<|Bl g1 d1<|Aa<|Bl g2 d2<|Aa<|wpAny_forIn_list _ (KI A s b lt xs.size ys.size Q) _ ?_ ?_ _ _ ?_
 ·rintro⟨⟨y,x⟩,j⟩ rest r s' ⟨i,vs,ws,ds',es',rfl,rfl,hz,hi,hlen,hR⟩;cases hi with
  |left _=>rw[List.zip_nil_left]at hz;cases hz
  |right _=>rw[List.zip_nil_right]at hz;cases hz
  |@cons _ v w' vs' ws' d' e' ds2 es2 he hlt hi'=>
   rw[BW,BE]at hz;injection hz with hyx hrest;injection hyx with hy hj;injection hy with hy hx;subst hy hx hj;simp only[Wc]at hlen;dsimp only;refine Aa<|he prog w _ _ ?_;by_cases hde:d'=e'
   ·subst hde;rw[Af rfl];rw[bW]at hR;exact Ad ⟨_,_,_,_,_,rfl,rfl,hrest,hi',by lia,hR⟩
   ·rw[Ae hde];rw[bz hde]at hR;exact Aa<|hlt hde prog w _ _<|Ad<|Ad hR
 ·rintro r s' ⟨i,vs,ws,ds',es',rfl,rfl,hz,hi,hlen,hR⟩;have hv:Tc lt ds' es'=decide (xs.size<ys.size):=by
   cases hi with
   |left hl2=>
    cases es' with
    |nil=>
     simp only[Vg]at hlen hl2;exact(Ae<|by lia).symm
    |cons e0 e1=>
     simp only[Vg,Wc]at hlen hl2;exact(Af<|by lia).symm
   |right hl2=>
    cases ds' with
    |nil=>
     simp only[Vg]at hlen hl2;exact(Ae<|by lia).symm
    |cons e0 e1=>
     simp only[Vg,Wc]at hlen hl2;exact(Ae<|by lia).symm
   |cons _ _ _=>
    rw[BW,BE]at hz;cases hz
  rw[hv]at hR;exact Ad hR
 ·exact⟨0,xs.toList,ys.toList,ds,es,rfl,rfl,rfl,hI,by rw[Zd,Zd,C7],q⟩
theorem M3:∀{i:Nat}{vs ws:Se Sh}{ds es:Se D},vs.length=ds.length->ws.length=es.length->
  (∀(j:Nat) v w d e,vs[j]?=some v->ws[j]?=some w->ds[j]?=some d->es[j]?=some e->(∀c,(c=true↔d=e)->EqAt A s v w c)/\(d≠e->sP A s (b&&(i+j) == 0) v w (lt d e)))->IK A s b lt i vs ws ds es
 |_,[],_,[],_,_,h2,_=>.left h2
 |_,_::_,[],_::_,[],h1,_,_=>.right h1
 | i,v::vs,w::ws,d::ds,e::es,h1,h2,h=>by
  obtain⟨a1,a2⟩:=h 0 v w d e rfl rfl rfl rfl;refine .cons (a1 _<|by simp) a2<|M3 (by simpa using h1) (by simpa using h2) λj v' w' d' e' z1 z2 z3 z4=>?_
  have:=h (j+1) v' w' d' e' (by simpa using z1) (by simpa using z2) (by simpa using z3) (by simpa using z4)
  rwa [show i+(j+1)=i+1+j by lia]at this
 |_,[],_,_::_,_,h1,_,_=>by simp at h1
 |_,_::_,_,[],_,h1,_,_=>by simp at h1
 |_,_::_,[],_::_,_::_,_,h2,_=>by simp at h2
 |_,_::_,_::_,_::_,[],_,h2,_=>by simp at h2
def Pe(d:D):Prop:=match d with|.tup (.int _::_)=>True|_=>False
def Pf(d:D):Prop:=match d with|.tup (.str _::_)=>True|_=>False
theorem zM(h:Pe d):∃i r,d=.tup (.int i::r):=by
 cases d with
 |tup l=>
  cases l with
  |nil=>exact h.elim
  |cons x r=>
   cases x with|int i=>exact⟨_,_,rfl⟩|_=>exact h.elim
 |_=>exact h.elim
theorem zN(h:Pf d):∃i r,d=.tup (.str i::r):=by
 cases d with
 |tup l=>
  cases l with
  |nil=>exact h.elim
  |cons x r=>
   cases x with|str i=>exact⟨_,_,rfl⟩|_=>exact h.elim
 |_=>exact h.elim
def HX(p1:Pl (n+1) d1)(p2:Pl (n+1) d2)(cp:Cp (n+1) d1 d2)(r1:RH s.heap u1 d1)(r2:RH s.heap u2 d2)(hu:A.units+(n+1)<cLine)
  (ht:∃xs,d1=.tup xs)(hb:b=true->(Pe d1/\Pe d2)\/(Pf d1/\Pf d2))(q:Q (ltN (n+1) d1 d2) s):wpAny (model prog w) A (keyLt' (tuples' b) u1 u2) Q E s:=by
 obtain⟨xs,rfl⟩:=ht;cases r1 with
 |@tup a its ds t hl f=>
  cases r2 with
  |@tup a2 its' ds' t' hl' f'=>
   cases p1 with
   |tup p1=>
   cases p2 with
   |tup p2=>
   refine zL (lt:=ltN n) (ds:=xs) (es:=ds') t t' (M3 (by simpa using hl) (by simpa using hl') λj v w' d e z1 z2 z3 z4=>?_) q
   have z1':its[j]?=some v:=by simpa using z1
   have z2':its'[j]?=some w':=by simpa using z2
   have m1:=p1 d<|Va z3;have m2:=p2 e<|Va z4;have k1:=f j v d z1' z3;have k2:=f' j w' e z2' z4;have c1:=cp j d e z3 z4;refine⟨wd (RH.eqAt n m1 m2 k1 k2<|by lia).1,λ_=>?_⟩
   cases hfl:(b&&(0+j) == 0) with
   |false=>exact zJ<|RH.ltAt n m1 m2 c1 k1 k2<|by lia
   |true=>
    rw[Zj]at hfl;have hj:j=0:=by have:=CL hfl.2;lia
    subst hj;rcases hb hfl.1 with⟨g1,g2⟩|⟨g1,g2⟩
    ·obtain⟨i,r,e1⟩:=zM g1;obtain⟨i2,r2,e2⟩:=zM g2;cases e1;cases e2;cases z3;cases z4;cases k1;cases k2;cases n with|zero=>cases m1|succ n=>exact zK true
    ·obtain⟨i,r,e1⟩:=zN g1;obtain⟨i2,r2,e2⟩:=zN g2;cases e1;cases e2;cases z3;cases z4;cases k1;cases k2;cases n with|zero=>cases m1|succ n=>exact uz true
  |_=>exact cp.elim
end
end VF
namespace VF
open PySem L2 PyProof.Rows
section
variable {s:Si}
theorem zO:∀(l:Se α),(∀v∈l,∀Q:β->Si->Prop,Q (g v) s->wpAny M A (f v) Q E s)->∀Q:Se β->Si->Prop,Q (l.map g) s->wpAny M A (l.mapM f) Q E s
 |[],_,Q,q=>by rw[DK];exact Ad q
 | v::l,h,Q,q=>by
  rw[DD];exact Aa<|h v Zc _<|Aa<|zO l (λu hu=>h u<|Wb _ hu) _<|Ad q
def uA{l:Se α}(h:∀v∈l,∀Q:β->Si->Prop,Q (g v) s->wpAny M A (f v) Q E s)(q:Q (l.map g).toArray s):wpAny M A (l.toArray.mapM f) Q E s:=by
 rw[Db,Dg];exact Aa<|zO l h _<|Ad q
def TH:D->String|.int _=>"int"|.str _=>"str"|.tup _=>"tuple"|_=>"list"
theorem RH.ty(r:RH s.heap u d)(h:d≠.non):s.TypeIs u (TH d):=by
 cases r with
 |non=>exact absurd rfl h
 |int i t=>exact typeIs_int s i t
 |str x t=>exact Dx s x t
 |tup t _ _=>obtain⟨o,h1,h2,_⟩:=t;exact⟨o,h1,h2⟩
 |lst t _ _=>obtain⟨o,h1,h2,_⟩:=t;exact⟨o,h1,h2⟩
def one_ok{us:Se Sh}{ds:Se D}(hne:us≠[])(hl:us.length=ds.length)(r:∀(i:Nat) u d,us[i]?=some u->ds[i]?=some d->RH s.heap u d/\d≠.non/\TH d=T)(q:Q (some<|.type T) s) :
  wpAny M A (oneTypeOnly' us.toArray) Q E s:=by
 rw[oneTypeOnly'_eq];refine Aa<|uA (g:=λ_=>Value.type T) (λv hv Q q=>?_) ?_
 ·obtain⟨i,hi,rfl⟩:=Xn.mp hv;obtain⟨r1,r2,r3⟩:=r i us[i] ds[i] (Za hi) (Za<|by lia)
  exact Bk (r3 ▸ r1.ty r2) q
 ·cases us with
  |nil=>exact absurd rfl hne
  |cons u us=>
   have h0:(List.map (λ_=>Value.type T) (u::us)).toArray[0]?=some (Value.type T):=by simp
   rw[h0];have hall:((List.map (λ_=>Value.type T) (u::us)).toArray.all λx=>x == Value.type T)=true:=by
    simp only[List.all_toArray,De,Vj];intro _ _;exact Dh _
   dsimp only;rw[hall,Ag rfl];exact Ad q
def HY(r:RH s.heap u d)(h:d≠.non)(ht:TH d≠"tuple")(q:Q none s):wpAny M A (firstOfTuple' u) Q E s:=by
 refine Aa<|Bk (r.ty h) ?_;rw[Ag (by rw[bne_iff_ne];intro e;injection e with e;exact ht e)]
 exact Ad q
def sQ{its:Se Sh}(t:s.heap.IsTuple a its.toArray)(e:its=u::us)(q:Q (some u) s):wpAny M A (firstOfTuple'<|.ref a) Q E s:=by
 obtain⟨o,h1,h2,n,h3⟩:=t;refine Aa<|Bk (T:="tuple") ⟨o,h1,h2⟩ ?_;rw[Ak (by rw[bne_iff_ne];intro z;exact z rfl)]
 refine Aa<|Bl h1 h3 ?_;subst e;exact Ad q
inductive Kd:List D->SortKind->Prop where
 | sc {ds:List D} {T:String}:T≠"tuple"->(∀d∈ds,d≠.non/\TH d=T)->Kd ds oneType'
 | tp {ds:List D} {T:String}:(∀d∈ds,∃x xs,d=.tup (x::xs)/\x≠.non/\TH x=T)->Kd ds (tuples'<|T != "tuple")
def Q6{us:Se Sh}{ds:Se D}(hne:us≠[])(hl:us.length=ds.length)(r:∀(i:Nat) u d,us[i]?=some u->ds[i]?=some d->RH s.heap u d)(hk:Kd ds κ)(q:Q κ s) :
  wpAny M A (keyKind' us.toArray) Q E s:=by
 rw[keyKind'_eq];cases hk with
 |@sc T hT h=>
  refine Aa<|uA (g:=λ_=>none) (λv hv Q q=>?_) ?_
  ·obtain⟨i,hi,rfl⟩:=Xn.mp hv;have hd:=h ds[i]<|Qk _;exact HY (r i _ _ (Za hi)<|Za<|by lia) hd.1 (by rw[hd.2];exact hT) q
  ·cases us with
   |nil=>exact absurd rfl hne
   |cons u us=>
    rw[Ak<|by simp,Ak<|by simp]
    refine Aa<|one_ok (T:=T) hne hl (λi u d e1 e2=>⟨r i u d e1 e2,h d<|Va e2⟩) ?_;exact Ad q
 |@tp T h=>
  have hx:∀(i:Nat)(hi:i<us.length),∃u0 x xs,(∀Q:Sf Sh->Si->Prop,Q (some u0) s->wpAny M A (firstOfTuple' us[i]) Q E s)/\ds[i]?=some (.tup (x::xs))/\RH s.heap u0 x/\x≠.non/\TH x=T:=λi hi=>by
   have hd:i<ds.length:=by lia
   obtain⟨x,xs,e,h1,h2⟩:=h ds[i]<|Qk _;have rr:=r i us[i] ds[i] (Za hi)<|Za hd;rw[e]at rr;generalize us[i]=v at rr;cases rr with
   |@tup a its _ t hl f=>
    cases its with|nil=>simp at hl|cons u0 ur=>exact⟨u0,x,xs,λQ q=>sQ t rfl q,by rw[Za hd,e],f 0 u0 x rfl rfl,h1,h2⟩
  have hf:∃fs:Se Sh,fs.length=us.length/\(∀Q:Sj (Sf Sh)->Si->Prop,Q (fs.map some).toArray s->wpAny M A (us.toArray.mapM firstOfTuple') Q E s)/\∀(i:Nat) u,fs[i]?=some u->∃x,RH s.heap u x/\x≠.non/\TH x=T:=by
   have:∀l:Se Sh,(∀v∈l,∃u0 x,(∀Q:Sf Sh->Si->Prop,Q (some u0) s->wpAny M A (firstOfTuple' v) Q E s)/\RH s.heap u0 x/\x≠.non/\TH x=T)->
     ∃fs:Se Sh,fs.length=l.length/\(∀Q:Se (Sf Sh)->Si->Prop,Q (fs.map some) s->wpAny M A (l.mapM firstOfTuple') Q E s)/\∀(i:Nat) u,fs[i]?=some u->∃x,RH s.heap u x/\x≠.non/\TH x=T:=λl=>by
    induction l with
    |nil=>exact λ_=>⟨[],rfl,λQ q=>by rw[DK];exact Ad q,λi u e=>by simp at e⟩
    |cons v l ih=>
     intro hv;obtain⟨fs,f1,f2,f3⟩:=ih λu hu=>hv u<|Wb _ hu;obtain⟨u0,x,g1,g2⟩:=hv v Zc;refine⟨u0::fs,by simp[f1],λQ q=>?_,λi u e=>?_⟩
     ·rw[DD];exact Aa<|g1 _<|Aa<|f2 _<|Ad q
     ·cases i with
      |zero=>
       have:u0=u:=by simpa using e
       subst this;exact⟨x,g2⟩
      |succ i=>exact f3 i u (by simpa using e)
   obtain⟨fs,f1,f2,f3⟩:=this us λv hv=>by
    obtain⟨i,hi,rfl⟩:=Xn.mp hv;obtain⟨u0,x,xs,a1,_,a2⟩:=hx i hi;exact⟨u0,x,a1,a2⟩
   refine⟨fs,f1,λQ q=>?_,f3⟩;rw[Db,Dg];exact Aa<|f2 _<|Ad q
  obtain⟨fs,f1,f2,f3⟩:=hf;refine Aa<|f2 _ ?_;rw[Ag<|by simp]
  refine Aa<|AF ?_;have e1:(fs.map some).toArray.filterMap id=fs.toArray:=by simp
  rw[e1];have hne':fs≠[]:=λz=>by
   rw[z]at f1;exact hne<|Xe f1.symm
  obtain⟨xs,hxs,hxx⟩:∃xs:Se D,fs.length=xs.length/\∀(i:Nat) u d,fs[i]?=some u->xs[i]?=some d->RH s.heap u d/\d≠.non/\TH d=T:=by
   have:∀l:Se Sh,(∀(i:Nat) u,l[i]?=some u->∃x,RH s.heap u x/\x≠.non/\TH x=T)->∃xs:Se D,l.length=xs.length/\∀(i:Nat) u d,l[i]?=some u->xs[i]?=some d->RH s.heap u d/\d≠.non/\TH d=T:=λl=>by
    induction l with
    |nil=>exact λ_=>⟨[],rfl,λi u d e=>by simp at e⟩
    |cons v l ih=>
     intro hv;obtain⟨xs,x1,x2⟩:=ih λi u e=>hv (i+1) u (by simpa using e)
     obtain⟨x,hx⟩:=hv 0 v rfl;refine⟨x::xs,by simp[x1],λi u d e1 e2=>?_⟩
     cases i with
     |zero=>
      have a1:v=u:=by simpa using e1
      have a2:x=d:=by simpa using e2
      subst a1 a2;exact hx
     |succ i=>exact x2 i u d (by simpa using e1) (by simpa using e2)
   exact this fs f3
  refine Aa<|one_ok (T:=T) hne' hxs hxx ?_;have e2:(Option.any (λx=>x != Value.type "tuple")<|some<|Value.type T)=(T != "tuple"):=by
   show(Value.type T != Value.type "tuple")=_;rw[Xf,bne_iff_ne,bne_iff_ne];constructor
   ·exact λh e=>h (by rw[e])
   ·exact λh e=>h (by injection e)
  rw[e2];exact Ad q
end
open TS
section
variable {A:Around}{s:Si}
theorem RH.kept{h h':Sv}(k:∀b o,h.get? b=some o->h'.get? b=some o)(r:RH h u d):RH h' u d:=by
 induction r with
 |non=>exact .non
 |int i t=>exact .int i t
 |str x t=>exact .str x t
 |tup t hl _ ih=>obtain⟨o,h1,h2⟩:=t;exact .tup ⟨o,k _ o h1,h2⟩ hl ih
 |lst t hl _ ih=>obtain⟨o,h1,h2⟩:=t;exact .lst ⟨o,k _ o h1,h2⟩ hl ih
def dk(ds:Se D)(g:Nat):D:=ds.getD g<|ds.headD .non
def oD(h:ds[g]?=some d):dk ds g=d:=by
 unfold dk;rw[Yb,h];rfl
theorem jp(h:ds≠[])(g:Nat):dk ds g∈ds:=by
 cases e:ds[g]? with
 |some d=>rw[oD e];exact Va e
 |none=>
  cases ds with
  |nil=>exact absurd rfl h
  |cons x xs=>
   unfold dk;rw[Yb,e];simp
def cD(ds:Se D)(g h:Nat):Ss:=ltN 40 (dk ds g)<|dk ds h
theorem HZ(h:Cp n d e)(ht:TH d≠"tuple"):(∃i j,d=.int i/\e=.int j)\/∃x y,d=.str x/\e=.str y:=by
 cases n with
 |zero=>exact h.elim
 |succ n=>
  cases d with
  |int i=>
   cases e with|int j=>exact .inl ⟨i,j,rfl,rfl⟩|_=>exact h.elim
  |str x=>
   cases e with|str y=>exact .inr ⟨x,y,rfl,rfl⟩|_=>exact h.elim
  |tup xs=>exact absurd rfl ht
  |_=>exact h.elim
def Lh{us vs:Se Sh}{ds:Se D}(hl:us.length=ds.length)(r:∀(i:Nat) u d,us[i]?=some u->ds[i]?=some d->RH s.heap u d)(pl:∀d∈ds,Pl 40 d)(ca:CA 40 ds)(hk:Kd ds κ)(hu:A.units+40<cLine) :
  Cm prog w A s κ (λg=>(us.getD g .none,vs.getD g .none)) us.length (cD ds):=by
 refine⟨λE Q g h hg hh q=>?_,λg=>pI _ _,λg h i h1 h2=>?_,λg h i h1=>?_⟩
 ·have eg:us[g]?=some us[g]:=Za hg;have eh:us[h]?=some us[h]:=Za hh;have dg:ds[g]?=some ds[g]:=Za (by lia)
  have dh:ds[h]?=some ds[h]:=Za (by lia)
  have q':Q (ltN 40 ds[g] ds[h]) s:=by unfold cD at q;rw[oD dg,oD dh]at q;exact q
  have rg:=r g _ _ eg dg;have rh:=r h _ _ eh dh;have mg:=Va dg;have mh:=Va dh;have cp:=ca _ mg _ mh;show wpAny (model prog w) A (keyLt' κ (us.getD g .none)<|us.getD h .none) Q E s;rw[Yb,Yb,eg,eh];show wpAny (model prog w) A (keyLt' κ us[g] us[h]) Q E s;generalize us[g]=ug at rg;generalize us[h]=uh at rh;generalize ds[g]=a at *;generalize ds[h]=b at *;cases hk with
  |@sc T hT hd=>
   rw[keyLt'_oneType];rcases HZ cp (by rw[(hd a mg).2];exact hT) with⟨i,j,rfl,rfl⟩|⟨x,y,rfl,rfl⟩
   ·cases rg;cases rh;exact zK true prog w E Q q'
   ·cases rg;cases rh;exact uz true prog w E Q q'
  |@tp T hd=>
   obtain⟨x,xs,rfl,nx,tx⟩:=hd a mg;obtain⟨y,ys,rfl,ny,ty⟩:=hd b mh;refine HX (n:=39) (pl _ mg) (pl _ mh) cp rg rh (by lia) ⟨_,rfl⟩ (λhb=>?_) q'
   have hT:T≠"tuple":=by rwa [bne_iff_ne]at hb
   rcases HZ (cp 0 x y rfl rfl) (by rw[tx];exact hT) with⟨i,j,rfl,rfl⟩|⟨x,y,rfl,rfl⟩
   ·exact .inl ⟨trivial,trivial⟩
   ·exact .inr ⟨trivial,trivial⟩
 ·by_cases hne:ds=[]
  ·subst hne;have:cD [] g h=false:=pI 40 .non;rw[this]at h1;cases h1
  ·exact(kr 40).tra (ca _ (jp hne g) _<|jp hne h) (ca _ (jp hne h) _<|jp hne i) (ca _ (jp hne g) _<|jp hne i) h1 h2
 ·by_cases hne:ds=[]
  ·subst hne;have:cD [] g i=false:=pI 40 .non;rw[this]at h1;cases h1
  ·exact ca.neg (jp hne g) (jp hne h) (jp hne i) h1
def bR(vs:Se Sh)(γ:Sj Nat):Sj Sh:=γ.map λg=>vs.getD g .none
def sR{vs : Se Sh}{ds : Se D}(ho : s.heap.get? a = some (seqObj "list" vs.toArray n))(hz : vs.length ≤ sizeLine)
    (hl : vs.length = ds.length)(r : ∀ (i : Nat) u d, vs[i]? = some u → ds[i]? = some d → RH (((s.heap.update a<|Obj.mapSeq λ_ => #[]).push (seqObj "tuple" vs.toArray 0)).push (seqObj "list" #[] 0)) u d)
    (pl : ∀ d ∈ ds, Pl 40 d) (ca : CA 40 ds) (hk : Kd ds κ) (hu : A.units + 40 < cLine)
    (fin : ∀ γ : Sj Nat, γ.Perm (Array.range vs.length) → Sg (cD ds) γ 0 vs.length → P (.done<|.ret .none) { s with heap := sortedHeap s.heap a vs (bR vs γ) }) :
    wpAny (model prog w) A (Builtin.«list.sort» ⟨[.ref a], []⟩) P E s := by
  rw [list_sort_plain];have small := Aj ho;refine Aa<|Bl ho rfl<|Aa<|Bb ho rfl ?_;obtain ⟨ep, hE⟩ : ∃ ep, (s.heap.update a (Obj.mapSeq λ_ => #[])).get? a = some (seqObj "list" #[] ep) := ⟨_, BL ho (λ_ => #[])⟩;refine Aa<|CH hE rfl<|Aa<|Dw<|Aa<|BG<|AD ?_;have hE2 : (((s.heap.update a<|Obj.mapSeq λ_ => #[]).push (seqObj "tuple" vs.toArray 0)).push (seqObj "list" #[] 0)).get? a = some (seqObj "list" #[] ep) :=
    Ac _ (Ac _ hE)
  generalize hH : ((s.heap.update a<|Obj.mapSeq λ_ => #[]).push (seqObj "tuple" vs.toArray 0)).push (seqObj "list" #[] 0) = h6 at r hE2;show wpAny (model prog w) A _ P E { s with heap := h6 };dsimp only;have hsz : vs.toArray.size = vs.length := by simp
  have zs : ∀ γ : Sj Nat, γ.Perm (Array.range vs.length) → (bR vs γ).size ≤ sizeLine + 1 := λγ p => by
    unfold bR;rw [CK, p.size_eq, Array.size_range]; lia
  have done : ∀ γ : Sj Nat, γ.Perm (Array.range vs.length) → Sg (cD ds) γ 0 vs.length → P (.done<|.ret .none) { s with heap := h6.update a (Obj.mapSeq λ_ => bR vs γ) } := λγ p g => by
    have := fin γ p g;unfold sortedHeap at this;rw [<-hH]; exact this
  have e0 : vs.toArray.zip vs.toArray = (Array.range vs.length).map λg => (vs.getD g .none, vs.getD g .none) := by
    apply Array.ext_getElem?
    intro i;rw [Bq, BK];by_cases hi : i < vs.length
    · rw [Ag hi]; simp [hi]
    · rw [Ak hi]; simp [hi]
  by_cases few : vs.toArray.size < 2
  · rw [Ag few, Ag few]
    refine Aa<|Ad ?_;rw [StateT.run_pure];refine Aa<|Ad ?_;dsimp only;have em : (vs.toArray.zip vs.toArray).map (λx => x.2) = bR vs (Array.range vs.length) := by
      rw [e0, CQ]; rfl
    refine Aa<|CH hE2 rfl<|Aa<|Bb hE2 rfl ?_ (hsz2 := ?_)
    · simp only [C1, BY, if_false]
      refine Ad ?_;rw [em];exact done _ (Array.Perm.refl _) λi j g h z1 z2 z3 => by lia
    · rw [em]; exact zs _<|Array.Perm.refl _
  · rw [Ak few, Ak few]
    have hne : vs ≠ [] := λz => few (by rw [z]; decide)
    refine Aa<|Q6 (s := { s with heap := h6 }) hne hl r hk ?_;have C : Cm prog w A { s with heap := h6 } κ (λg => (vs.getD g .none, vs.getD g .none)) vs.length (cD ds) := Lh (s := { s with heap := h6 }) hl r pl ca hk hu
    refine Aa (Ay (zy (st := SortSt.mk' κ (vs.toArray.zip vs.toArray) #[] 7 none) C (γ := Array.range vs.length) ⟨e0, rfl, rfl, Array.Perm.refl _⟩ rfl (λi _ z => by rw [BK, Ag z])
      (Q := λ_ VX => ∃ γ, Rp κ (λg => (vs.getD g .none, vs.getD g .none)) vs.length VX γ ∧ Sg (cD ds) γ 0 vs.length) λVX γ' R g => ⟨γ', R, g⟩) ?_ λ_ _ e => e)
    rintro ⟨⟨⟩, VX⟩ s' ⟨rfl, γ, R, g⟩;dsimp only;have em : (arrOf VX).map (λx => x.2) = bR vs γ := by
      rw [R.arr, CQ]; rfl
    refine Aa<|CH hE2 rfl<|Aa<|Bb hE2 rfl ?_ (hsz2 := ?_)
    · rw [show failedOf VX = none from R.fine]
      simp only [C1, BY, if_false];refine Ad ?_;show P (.done<|.ret .none) { s with heap := h6.update a (Obj.mapSeq λ_ => (arrOf VX).map (λx => x.2)) };rw [em];exact done γ R.perm g
    · show ((arrOf VX).map (λx => x.2)).size ≤ sizeLine + 1
      rw [em]; exact zs γ R.perm
end
section
variable {A:Around}{s:Si}
def we{vs:Se Sh}(hl:s.heap.IsList l vs.toArray\/s.heap.IsTuple l vs.toArray)(hz:vs.length<=sizeLine)
  (q:Q vs { s with heap:=(s.heap.push<|seqObj "list" #[] 0).update s.heap.objs.size (Obj.mapSeq (·++vs.toArray)) }):wpAny (model prog w) A (collect<|.ref l) Q E s:=by
 rcases hl with hl|hl
 ·exact collect_list hl q hz
 obtain⟨o,ho,hc,m,hd⟩:=id hl;have kept:=Ac (seqObj "list" #[] 0) ho;have new:(s.heap.push<|seqObj "list" #[] 0).get? s.heap.objs.size=some (seqObj "list" #[] 0):=Ah _ rfl;unfold collect;refine Aa<|wpAny_runValue<|codeAny_builtin entry_proto_collect'<|Aa<|BG<|Ad ⟨Code.quiet_builtin _<|by decide +kernel,codeAny_builtin entry_list_iadd' ?_⟩
 show wpAny _ _ (Builtin.List.listExtendWith (.ref s.heap.objs.size) (.ref l)<|.ref s.heap.objs.size) _ _ { s with heap:=s.heap.push (seqObj "list" #[] 0) };unfold Builtin.List.listExtendWith;refine Aa<|Bk (T:="tuple") ⟨o,kept,hc⟩ ?_;rw[Ag<|by rw[show(Value.type "tuple" == Value.type "tuple")=true from rfl,Bool.or_true]]
 refine Aa<|Bl kept hd<|Aa<|Bl new rfl ?_;rw[Ak<|by simp]
 have room:((#[]:Sj Sh)++vs.toArray).size<=sizeLine+1:=by
  rw[Array.size_append,Xc];simp;lia
 refine Aa<|Bb new rfl (Ad ?_) (Vh _) room;have at':=BL new<|λx=>x++vs.toArray;refine Aa<|wpAny_load at' ?_;show wpAny _ _ (pure ((#[]:Sj Sh)++vs.toArray).toList) Q E _;have e:((#[]:Sj Sh)++vs.toArray).toList=vs:=by simp
 rw[e];exact Ad q
def wf{vs:Se Sh}{ds:Se D}(hl:s.heap.IsList l vs.toArray\/s.heap.IsTuple l vs.toArray)(hz:vs.length<=sizeLine)
  (hn:vs.length=ds.length)(r:∀(i:Nat) u d,vs[i]?=some u->ds[i]?=some d->RH s.heap u d)(pl:∀d∈ds,Pl 40 d)(ca:CA 40 ds)(hk:Kd ds κ)(hu:A.units+64<cLine)
  (fin:∀γ:Sj Nat,γ.Perm (Array.range vs.length)->Sg (cD ds) γ 0 vs.length->Q (.ref<|s.heap.objs.size+1) { s with heap:=sortedAll s.heap vs (bR vs γ) }) :
  wpAny (model prog w) A (call (.builtin "sorted") [.ref l]) Q E s:=by
 refine DI kind_sorted plain_sorted entry_sorted (args_sorted1 _)<|Aa (m:=checkCount "sorted" 1 1 _)<|Ad<|Aa<|we hl hz<|Aa<|BG ?_;generalize hg:(s.heap.push<|seqObj "list" #[] 0).update s.heap.objs.size (Obj.mapSeq (·++vs.toArray))=h1;have z1:h1.objs.size=s.heap.objs.size+1:=by rw[<-hg,Dq,size_push']
 have old:∀b o,s.heap.get? b=some o->h1.get? b=some o:=λb o e=>by
  rw[<-hg];exact(AB _ _ _ _<|Zh<|Aj e).trans (Ac _ e)
 have mine:(h1.push<|seqObj "list" vs.toArray 0).get? (s.heap.objs.size+1)=some (seqObj "list" vs.toArray 0):=by rw[<-z1];exact Ah _ rfl
 show wpAny _ _ _ _ _ { s with heap:=h1.push (seqObj "list" vs.toArray 0) };rw[z1];refine Aa<|AD<|Aq slot_list_sort ⟨_,mine,rfl⟩ entry_list_sort (sR (s:={ s with heap:=h1.push (seqObj "list" vs.toArray 0) }) mine hz hn (λi u d e1 e2=>(r i u d e1 e2).kept λb o e=>?_) pl ca hk (by show A.units+1+1+40<cLine;lia) λγ p g=>?_)<|args_list_sort _
 ·have hb:=Aj e;refine Ac _<|Ac _ ?_;have hne:b≠s.heap.objs.size+1:=Zh<|Bs hb;exact(AB _ _ _ _ hne).trans (Ac _<|old b o e)
 ·refine⟨_,rfl,Ad ⟨_,rfl,?_⟩⟩;have:=fin γ p g;unfold sortedAll at this;rw[hg]at this;exact this
end
def H9{ds:Se D}{γ:Sj Nat}(ca:CA 40 ds)(p:γ.Perm (Array.range ds.length))(g:Sg (cD ds) γ 0 ds.length):(γ.toList.map<|dk ds)=dA 40 ds:=by
 have hsz:γ.size=ds.length:=by rw[p.size_eq,Zl]
 refine d7 ca ?_ ?_
 ·have p1:(γ.toList.map<|dk ds).Perm ((List.range ds.length).map (dk ds)):=by
   have:=Yh.mp p;rw[AJ]at this;exact this.map _
  have e:(List.range ds.length).map (dk ds)=ds:=by
   refine BF (by simp) λi h1 h2=>?_
   rw[Cd,List.getElem_range,oD<|Za h2]
  rwa [e]at p1
 ·unfold T9;rw[Yk,Qi];intro i j hi hj hij;rw[Zd]at hi hj;have b:=g i j γ.toList[i] γ.toList[j] (Vh _) hij (by lia) (by rw[<-Xg];exact Za _) (by rw[<-Xg];exact Za _)
  rcases b with b|b
  ·exact ux _ _ _ b
  ·exact b.1
section
variable {X:Cx}{K:Ab}{Y:AS}{H:Hp}
def Ia(K:Ab):Se V->Hp->VK->Prop:=λxs H Q=>∃(Y:AS)(v:V)(d:D)(ds:Se D)(κ:SortKind),xs=[v]/\BA K Y H v d/\d.seq=some ds/\(∀x∈ds,Pl 40 x)/\CA 40 ds/\Kd ds κ /\
 ∀(p:Sk)(vs:Se V),H p=none->El K Y H vs (dA 40 ds)->Q (.ref p) (upd H p<|.lst vs)
def bw(h:X.K=K)(hr:Ww n X.A):V9 X (.builtin "sorted") (Ia K):=by
 intro VU s σ H xs us Q I rv hh;obtain⟨Y,v,d,ds,κ,rfl,ba,hs,pl,ca,hk,q⟩:=hh;walk_at "a";obtain⟨a,vs,rfl,sq,el⟩:=qj ba hs;cases ru;have main:∀its:Se Sh,V0 vs its->(s.heap.IsList a its.toArray\/s.heap.IsTuple a its.toArray)->vs.length<=sizeLine->wpAny (model X.prog X.w) X.A (call (.builtin "sorted") [.ref a]) (EP X VU σ Q) X.xe s:=λits r t hz=>by
  have hn:its.length=ds.length:=r.length.symm.trans el.1;have rr:∀(i:Nat) u d,its[i]?=some u->ds[i]?=some d->RH s.heap u d:=λi u d e1 e2=>by
   walk_at "m";exact(el.2 i v d e3 e2).rh (pl d<|Va e2) I h rv
  have hz':its.length<=sizeLine:=by rw[<-r.length];exact hz
  refine wf t hz' hn rr pl ca hk hr.units λγ p g=>?_;rw[hn]at p g;obtain⟨e,he⟩:=sortedAll_at s.heap its<|bR its γ;have hγ:∀g∈γ.toList,g<ds.length:=λg hg=>by
   have:=(Yh.mp p).mem_iff.mp hg;rw[AJ]at this;exact Zn.mp this
  have eo:=H9 ca p g
  let ws:Se V:=γ.toList.map λg=>vs.getD g .non
  have vw:V0 ws (bR its γ).toList:=by
   have e2:(bR its γ).toList=γ.toList.map λg=>its.getD g .none:=by unfold bR;simp
   rw[e2];have:∀l:Se Nat,(∀g∈l,g<ds.length)->V0 (l.map λg=>vs.getD g .non) (l.map λg=>its.getD g .none):=λl=>by
    induction l with
    |nil=>exact λ_=>.nil
    |cons g l ih=>
     intro hl;have hg:g<ds.length:=hl g Zc;have a1:its[g]?=some its[g]:=Za (by lia)
     obtain⟨v,e3,rv⟩:=dw r g _ a1;refine .cons ?_<|ih λx hx=>hl x<|Wb _ hx;show RelV (vs.getD g .non) (its.getD g .none);rw[Yb,Yb,e3,a1];exact rv
   exact this _ hγ
  have elw:El K Y H ws (dA 40 ds):=by
   rw[<-eo];refine⟨by simp[ws],λi v d h1 h2=>?_⟩
   rw[Xd]at h1 h2;obtain⟨g1,k1,k2⟩:=Wd.mp h1;obtain⟨g2,k3,k4⟩:=Wd.mp h2;rw[k1]at k3;cases k3;have hg:g1<ds.length:=hγ g1<|Va k1;have d1:ds[g1]?=some ds[g1]:=Za hg;obtain⟨v',e3,da⟩:=el.at d1;rw[oD d1]at k4;rw[Yb,e3]at k2;subst k4;have:v'=v:=k2;subst this;exact da
  have hlw:ws.length=ds.length:=by
   show(γ.toList.map _).length=_;rw[Ya,Zd,p.size_eq,Zl]
  refine⟨.ref<|s.heap.objs.size+1,upd H (s.heap.objs.size+1)<|.lst ws,I.laid (t':=s.toks) (λb o z=>sortedAll_old z) (Nat.le_succ _) ⟨by lia,(bR its γ).toList,e,vw,by simpa using he⟩,rfl,q _ ws (I.hok.fresh<|Nat.le_succ _) elw⟩
 rcases sq with sq|sq
 ·obtain⟨its,r,t,hz⟩:=I.list<|h ▸ sq;exact main its r (.inl t.isList) hz
 ·obtain⟨its,r,t,hz⟩:=I.tuple<|h ▸ sq;exact main its r (.inr t) hz
open Classical in
def bL:Se D->Sf Rz
 | [d]=>match d.seq with|some ds=>if (∀x∈ds,Pl 40 x)/\CA 40 ds/\∃κ,Kd ds κ then some (.lst<|dA 40 ds,true) else none|none=>none
 |_=>none
theorem Ib:WC K (Ia K) bL:=by
 walk_at "7";cases bs with
 |nil=>cases e
 |@cons v vs d ds b1 bs=>
  cases bs with
  |cons _ _=>cases e
  |nil=>
   unfold bL at e;dsimp only at e;split at e
   ·rename_i xs hs
    walk_at "5";cases e;obtain⟨c1,c2,κ,c3⟩:=c;exact⟨Y,v,d,xs,κ,rfl,b1,hs,c1,c2,c3,λp ws hp el=>q _ _ (bq hp _)<|gf el hp⟩
   ·cases e
end
end VF
namespace VF22
open PySem PySem.Spec PyProof.Rows L2 VF
def keyD:D->Sf Key|.int i=>some (.inl i)|.str x=>some (.inr x)|_=>none
def zP:Se D->Sf (Se Key)|[]=>some []|d::r=>(keyD d).bind λk=>(zP r).bind λks=>some (k::ks)
section
variable {κ:Type}[DecidableEq κ]
def cF(VV:Se (κ×D))(k:κ):Sf D:=(VV.find? λkv=>decide<|kv.1=k).map (·.2)
def ie(VV:Se (κ×D))(k:κ)(d:D):Se (κ×D):=if (VV.any λkv=>decide<|kv.1=k)=true then VV.map (λkv=>if kv.1=k then(kv.1,d) else kv) else VV++[(k,d)]
def Go(R:V->D->Prop)(VV:Se (κ×V))(ds:Se (κ×D)):Prop:=VV.map (·.1)=ds.map (·.1)/\∀(i:Nat) v d,VV[i]?=some v->ds[i]?=some d->R v.2 d.2
def Go.nil:Go R ([]:Se (κ×V)) []:=⟨rfl,λi v d h _=>by simp at h⟩
def Go.cons(h1:p.1=q.1)(h2:R p.2 q.2)(t:Go R VV ds):Go R (p::VV) (q::ds):=by grind [Go]
def Go.un(h:Go R (p::VV) (q::ds)):p.1=q.1/\R p.2 q.2/\Go R VV ds:=by
 obtain⟨h1,h2⟩:=h;rw[Wh,Wh]at h1;injection h1 with a b;exact⟨a,h2 0 p q rfl rfl,b,λi v d x y=>h2 (i+1) v d x y⟩
theorem Go.look:∀{VV:Se (κ×V)}{ds:Se (κ×D)}(k:κ),Go R VV ds->(lK VV k=none/\cF ds k=none)\/∃v d,lK VV k=some v/\cF ds k=some d/\R v d
 |[],[],_,_=>.inl ⟨rfl,rfl⟩
 |[],_::_,_,h=>by have:=h.1;simp at this
 |_::_,[],_,h=>by have:=h.1;simp at this
 | p::ps,q::qs,k,h=>by
  obtain⟨h1,h2,h3⟩:=h.un;by_cases e:p.1=k
  ·refine .inr ⟨p.2,q.2,mS e,?_,h2⟩;simp[cF,AM,h1.symm.trans e]
  ·have e':¬ q.1=k:=λz=>e<|h1.trans z;rw[mT e,show cF (q::qs) k=cF qs k by simp[cF,AM,e']]
   exact h3.look k
theorem Go.any{VV:Se (κ×V)}{ds:Se (κ×D)}(h:Go R VV ds)(k:κ):(VV.any λkv=>decide<|kv.1=k)=ds.any λkv=>decide (kv.1=k):=by
 have a:∀l:Se (κ×V),(l.any λkv=>decide<|kv.1=k)=(l.map (·.1)).any λx=>decide (x=k):=λl=>by rw[DW];rfl
 rw[a,h.1,DW];rfl
theorem Go.repl(k:κ)(r:R y d):∀{VV:Se (κ×V)}{ds:Se (κ×D)},Go R VV ds->Go R (VV.map λkv=>if kv.1=k then(kv.1,y) else kv) (ds.map λkv=>if kv.1=k then(kv.1,d) else kv)
 |[],[],_=>Go.nil
 |[],_::_,h=>by have:=h.1;simp at this
 |_::_,[],h=>by have:=h.1;simp at this
 | p::ps,q::qs,h=>by
  obtain⟨h1,h2,h3⟩:=h.un;rw[Wh,Wh];by_cases e:p.1=k
  ·rw[Ag e,Ag<|h1.symm.trans e];exact Go.cons h1 r<|h3.repl k r
  ·rw[Ak e,Ak λz=>e<|h1.trans z];exact Go.cons h1 h2<|h3.repl k r
theorem Go.snoc(k:κ)(r:R y d):∀{VV:Se (κ×V)}{ds:Se (κ×D)},Go R VV ds->Go R (VV++[(k,y)]) (ds++[(k,d)])
 |[],[],_=>Go.cons rfl r Go.nil
 |[],_::_,h=>by have:=h.1;simp at this
 |_::_,[],h=>by have:=h.1;simp at this
 | p::ps,q::qs,h=>by
  obtain⟨h1,h2,h3⟩:=h.un;exact Go.cons h1 h2<|h3.snoc k r
def Go.put(k:κ)(h:Go R VV ds)(r:R y d):Go R (putK VV k y) (ie ds k d):=by
 unfold putK ie;rw[h.any k];split
 ·exact h.repl k r
 ·exact h.snoc k r
def Go.len{VV:Se (κ×V)}{ds:Se (κ×D)}(h:Go R VV ds):VV.length=ds.length:=by
 have:=congrArg List.length h.1;rwa [Ya,Ya]at this
def Go.map(h:Go R VV ds)(f:∀v d,R v d->S v d):Go S VV ds:=⟨h.1,λi v d a b=>f _ _<|h.2 i v d a b⟩
end
section
variable {K:Ab}{Y:AS}{H:Hp}
theorem Q7(h:DA K Y H v d)(e:keyD d=some k):v=kV k:=by
 cases d with|int i=>cases e;cases h;rfl|str x=>cases e;cases h;rfl|_=>cases e
theorem M4(h:BA K Y H v d)(e:keyD d=some k):v=kV k:=by
 cases d with|int i=>cases e;exact h|str x=>cases e;exact h|_=>cases e
theorem xI:∀{ds:Se D}{vs:Se V}{ks:Se Key},El K Y H vs ds->zP ds=some ks->vs=ks.map kV
 | [],vs,ks,h,e=>by
  cases e;obtain rfl:=h.unnil;rfl
 | d::r,vs,ks,h,e=>by
  refine SK e λk e1 e=>(SK e λks' e2 e=>?_);cases e;obtain⟨v,vr,rfl,da,el⟩:=h.uncons;rw[Q7 da e1,xI el e2];rfl
def U6:D->D->Sf (Sf D)|.dt VV,.tup ds=>(zP ds).bind λks=>some (cF VV ks)|.dk VV,d=>(keyD d).bind λk=>some (cF VV k)|_,_=>none
theorem Q8(b1:BA K Y H x d1)(b2:BA K Y H y d2)(e:U6 d1 d2=some o):∃(a:Sk)(r:Sf V),x=.ref a/\WR H a y r/\((r=none/\o=none)\/∃v d,r=some v/\o=some d/\DA K Y H v d):=by
 cases d1 with
 |dt VV=>
  cases d2 with
  |tup ds=>
   refine SK e λks e1 e=>?_;cases e;obtain⟨a,ep,kv,rfl,_,h1,h2,h3⟩:=b1;obtain⟨b,vs,rfl,t,el⟩:=b2;have:=xI el e1;subst this;exact⟨a,_,rfl,WR.t h1 t.1,Go.look ks ⟨h2,h3⟩⟩
  |_=>cases e
 |dk VV=>
  refine SK e λk e1 e=>?_;cases e;obtain⟨a,kv,rfl,h1,h2,h3⟩:=b1;have:=M4 b2 e1;subst this;exact⟨a,_,rfl,WR.k h1,Go.look k ⟨h2,h3⟩⟩
 |_=>cases e
def VD:R2:=λx y H Q=>∃a v,x=.ref a/\WR H a y (some v)/\Q v H
def jM:D->D->Sf Rz:=λd1 d2=>(U6 d1 d2).bind λo=>o.bind λd=>some (d,false)
def Li:V2 K VD jM:=by
 walk_at "0";refine SK e λo e1 e=>?_;obtain⟨d,rfl,e⟩:=Option.bind_eq_some_iff.mp e;cases e;obtain⟨a,r,rfl,g,h|⟨v,d',rfl,h2,da⟩⟩:=Q8 b1 b2 e1
 ·cases h.2
 ·cases h2;exact⟨a,v,rfl,g,q v H (VZ.refl H) da⟩
def Q9(neg:Ss):R2:=λy x H Q=>∃(a:Sk)(o:Sf V),x=.ref a/\WR H a y o/\Q (.bl (if neg then !o.isSome else o.isSome)) H
def Ic(neg:Ss):D->D->Sf Rz:=λd2 d1=>(U6 d1 d2).bind λo=>some (.bl (if neg then !o.isSome else o.isSome),false)
def Pg(neg:Ss):V2 K (Q9 neg) (Ic neg):=by
 intro Y H y x d2 d1 z Q lv b2 b1 e q;refine SK e λo e1 e=>?_;cases e;obtain⟨a,r,rfl,g,h⟩:=Q8 b1 b2 e1;refine⟨a,r,rfl,g,?_⟩;have:r.isSome=o.isSome:=by
  rcases h with⟨rfl,rfl⟩|⟨v,d,rfl,rfl,_⟩<;>rfl
 rw[this];exact q _ H (VZ.refl H)<|.bl _
def M5:Kf:=λx k v H Q=>∃a,x=.ref a/\Qr H a k v Q
def m7:D->D->D->Sf D|.dt VV,.tup ds,v=>(zP ds).bind λks=>if VV.length<100000 then some (.dt<|ie VV ks v) else none|.dk VV,d,v=>(keyD d).bind λk=>if VV.length<100000 then some (.dk<|ie VV k v) else none|_,_,_=>none
def Fk:GK K M5 m7:=by
 intro Y H p x k v dk dv x' Q hp ho bk da e q;have lim:(100000:Nat)<=sizeLine:=by rw[CG];decide
 cases x with
 |dt VV=>
  cases dk with
  |tup ds=>
   refine SK e λks e1 e=>?_;by_cases c:VV.length<100000
   ·rw[Ag c]at e;cases e;obtain⟨ep,kv,ka,h1,h2,h3⟩:=ho;obtain⟨b,vs,rfl,t,el⟩:=bk;have:=xI el e1;subst this;have g:Go (DA K Y H) kv VV:=⟨h2,h3⟩;refine⟨p,rfl,.inr ⟨ep,kv,ks,b,h1,rfl,t.1,by have:=g.len;lia,λn=>q _ ?_⟩⟩
    have g':=(g.put ks da).map (S:=DA K Y<|upd H p<|.dT (n,EE ep.2 kv ks b)<|putK kv ks v) λv d h=>h.upd hp;refine⟨(n,EE ep.2 kv ks b),_,KA.go (Y:=Y) (H:=H) (λc hc=>?_) (λc o e n=>by rw[aV λz=>n (by rw[z];exact hp)];exact e)<|λc z=>.inl z,bH,g'.1,g'.2⟩
    unfold EE at hc;split at hc
    ·exact ka c hc
    ·rcases Qb.mp hc with hc|hc
     ·exact ka c hc
     ·rw[Wa.mp hc];exact⟨t.2,by rw[t.1];simp⟩
   ·rw[Ak c]at e;cases e
  |_=>cases e
 |dk VV=>
  refine SK e λkk e1 e=>?_;by_cases c:VV.length<100000
  ·rw[Ag c]at e;cases e;obtain⟨kv,h1,h2,h3⟩:=ho;have:=M4 bk e1;subst this;have g:Go (DA K Y H) kv VV:=⟨h2,h3⟩;refine⟨p,rfl,.inl ⟨kv,kk,h1,rfl,by have:=g.len;lia,q _ ?_⟩⟩
   have g':=(g.put kk da).map (S:=DA K Y<|upd H p<|.dK<|putK kv kk v) λv d h=>h.upd hp;exact⟨_,bH,g'.1,g'.2⟩
  ·rw[Ak c]at e;cases e
 |_=>cases e
def sS(d:D):FE:=λst=>some (.f d,st)
def Id:SO K Gs (sS<|.dt []):=by
 walk_at "j";cases h;intro p hp;have hres:Xq K (U O Z) H (upd H p<|.dT (0,[]) []) (.ref p) (.dt [],true):=⟨p,rfl,hp,(0,[]),[],(λ_ z=>nomatch z),bH,rfl,λi v d a _=>by simp at a⟩
 obtain⟨E3,rv⟩:=hres.rv E<|bq hp _;exact q _ _ O (VZ.ext<|bq hp _) (Kp.refl _) E3 rv λp' e=>by cases e;exact hp
def Ie:SO K Gr (sS<|.dk []):=by
 walk_at "j";cases h;intro p hp;have hres:Xq K (U O Z) H (upd H p<|.dK []) (.ref p) (.dk [],true):=⟨p,rfl,hp,[],bH,rfl,λi v d a _=>by simp at a⟩
 obtain⟨E3,rv⟩:=hres.rv E<|bq hp _;exact q _ _ O (VZ.ext<|bq hp _) (Kp.refl _) E3 rv λp' e=>by cases e;exact hp
end
section
variable {X:Cx}
def ku(hu:X.A.units+1<cLine)(ho:PE X o td)(hi:PE X i ty)(hs:NB i):PE X (.Subscript o i pos) (TQ VD td ty):=Km hu ho hi hs
def sT(hu:X.A.units+1<cLine):Wx X (compareOp .NotIn) (Q9 true):=by
 intro VU s σ H y x v u Q I ry rx h;obtain⟨a,o,rfl,g,q⟩:=h;cases rx;exact Kk hu I g ry λs' I'=>⟨.bl<|!o.isSome,H,I',rfl,q⟩
def iW(hu:X.A.units+1<cLine):No X M5:=by
 intro VU s σ H o i v ov iv u Q I ro ri rv h;obtain⟨a,rfl,g⟩:=h;cases ro;exact EG hu I g ri rv λs' H' I' q=>⟨H',I',q⟩
end
section
variable {A:Around}{s:Si}
def WQ(h:Sv)(d:Sk)(es:Sj DictEntry)(ep:Nat):Prop:=∃o,h.get? d=some o/\o.ExactDict/\o.data=.dict es ep
def WQ.at{h h':Sv}(x:WQ h d es ep)(e:∀o,h.get? d=some o->h'.get? d=some o):WQ h' d es ep:=let⟨o,ho,r⟩:=x;⟨o,e _ ho,r⟩
def WQ.typeIs(x:WQ s.heap d es ep):s.TypeIs (.ref d) "dict":=let⟨o,ho,c,_⟩:=x;⟨o,ho,c.1⟩
def Ig{es:Sj DictEntry}(hd:(d == sysModules)=false)(hm:WQ s.heap d es ep)
  (q:Q (.ref s.heap.objs.size) { s with heap:=s.heap.push { cls:=.type "dict_keyiterator",data:=.fields #[.ref d,.int 0 0,.int es.size 0,.int ep 0] } }) :
  wpAny (model prog w) A (pyIter<|.ref d) Q E s:=by
 have ty:=hm.typeIs;obtain⟨o,ho,hc,dat⟩:=hm;refine wpAny_pyIter_slot ty F.slot_dict_iter<|Aq F.slot_dict_iter ty F.entry_dict_iter ?_<|F.args_dict_iter_1 _;unfold Builtin.«dict.__iter__»;refine Aa ?_;unfold Builtin.Dict.dictSlotNone;refine Aa<|wpAny_notOrdered_dict ty ?_;show wpAny _ _ (pure<|Value.ref d) _ _ s;refine Ad ?_;show wpAny _ _ (Builtin.Dict.showsAll d >>= _) _ _ s;unfold Builtin.Dict.showsAll;rw[Ak (by rw[hd];exact Ze)]
 refine Aa<|Ad<|Aa<|CZ ho dat<|Aa<|Dt ho dat<|Aa<|Ar<|Ad ⟨_,rfl,"dict_keyiterator",_,⟨_,Ah _ rfl,rfl⟩,F.slot_dict_keyiterator_next.lookup,?_⟩;simpa[rawInt]using q
def Ih{es:Sj DictEntry}{x:DictEntry}(hit:s.heap.IsKeyIter it d i es.size ep)(hm:WQ s.heap d es ep)(hx:es[i]?=some x)
  (q:∀h',h'.IsKeyIter it d (i+1) es.size ep->Heap.SameBut it s.heap h'->Q (some x.key) { s with heap:=h' }):wpAny (model prog w) A (pyNext<|.ref it) Q E s:=by
 obtain⟨o,ho,hc,hd⟩:=id hit;obtain⟨od,hod,hcd,hdd⟩:=hm;unfold pyNext;refine Aa<|AQ<|Ap (name:=Str.ofString "__next__") hit.typeIs F.slot_dict_keyiterator_next<|Aq F.slot_dict_keyiterator_next hit.typeIs F.entry_dict_keyiterator_next ?_<|F.args_dict_keyiterator_next_1 _;refine Aa<|Ad<|Aa<|Aa<|Aa<|AX hit.typeIs<|Ad<|Aa<|wpAny_fieldsOf ho hd ?_;have own:Builtin.Dict_items.ownsTuple "dict_keyiterator"=false:=by decide
 simp only[own,Wf,if_false];show wpAny _ _ (if (Value.ref d == Value.none)=true then _ else _) _ _ s;rw[Ak<|show ¬ ((Value.ref d == Value.none)=true) from Ze];refine Aa<|Ad<|Aa<|CZ hod hdd ?_;rw[Ak<|by simp];refine Aa<|Ad<|Aa<|Dt hod hdd ?_
 rw[Ak<|by simp];refine Ad ?_
 have hlt:i<es.size:=(Array.getElem?_eq_some_iff.mp hx).1;have ex:es[i]=x:=(Array.getElem?_eq_some_iff.mp hx).2;simp only[show ¬ ((i:Int)<0) from by lia,if_false,Bg,hx]
 refine Aa<|Aa<|AX hit.typeIs<|Ad<|Aa<|wpAny_isOneOf_keyiter hit.typeIs ?_;show wpAny _ _ (setField (.ref it) 1 (rawInt<|(i:Int)+1) >>= _) _ _ s;refine Aa<|Bh ho hd (by simp) ?_
 have hit':(s.heap.update it (Obj.mapFields (·.setIfInBounds 1 (rawInt<|(i:Int)+1)))).IsKeyIter it d (i+1) es.size ep:=⟨_,Bc _ ho<|BB<|AC hd _,(C5 ..).trans hc,by rw[AC hd];simp[rawInt]⟩
 refine Aa (AD (Aa (wpAny_isOneOf_keyiter (s:={ s with heap:=s.heap.update it (Obj.mapFields (·.setIfInBounds 1 (rawInt<|(i:Int)+1))) }) hit'.typeIs ?_)));show wpAny _ _ (pure x.key) _ _ _;exact Ad<|Ad ⟨_,rfl,Ad<|q _ hit'<|AH ..⟩
def Lj{es:Sj DictEntry}(hh:A.handled=none)(hit:s.heap.IsKeyIter it d i es.size ep)(hm:WQ s.heap d es ep)(hx:es.size<=i)
  (q:∀h',Heap.ExtBut it s.heap h'->Q none { s with heap:=h' }):wpAny (model prog w) A (pyNext<|.ref it) Q E s:=by
 obtain⟨o,ho,hc,hd⟩:=id hit;obtain⟨od,hod,hcd,hdd⟩:=hm;unfold pyNext;refine Aa<|AQ<|Ap (name:=Str.ofString "__next__") hit.typeIs F.slot_dict_keyiterator_next<|Aq F.slot_dict_keyiterator_next hit.typeIs F.entry_dict_keyiterator_next ?_<|F.args_dict_keyiterator_next_1 _;refine Aa<|Ad<|Aa<|Aa<|Aa<|AX hit.typeIs<|Ad<|Aa<|wpAny_fieldsOf ho hd ?_;have own:Builtin.Dict_items.ownsTuple "dict_keyiterator"=false:=by decide
 simp only[own,Wf,if_false];show wpAny _ _ (if (Value.ref d == Value.none)=true then _ else _) _ _ s;rw[Ak<|show ¬ ((Value.ref d == Value.none)=true) from Ze];refine Aa<|Ad<|Aa<|CZ hod hdd ?_;rw[Ak<|by simp];refine Aa<|Ad<|Aa<|Dt hod hdd ?_
 rw[Ak<|by simp];refine Ad ?_
 simp only[show ¬ ((i:Int)<0) from by lia,if_false,Bg,DY hx]
 refine Aa<|Aa<|AX hit.typeIs<|Ad ?_;show wpAny _ _ (setField (.ref it) 0 .none >>= _) _ _ s;refine Aa<|Bh ho hd (by simp) ?_
 show wpAny _ _ (newExc (.type "StopIteration") [] >>= _) _ _ _;refine Aa ?_;simp only[newExc,newTuple];refine Aa<|Ar ?_<|by size_fits
 refine Aa (m:=firstArgMember _ _)<|Bi (a:=Value.none) (by first|rfl|(simp only[firstArgMember];rfl))<|Ar ?_<|by size_fits
 simp only[raiseNew];refine Aa<|wpAny_handled ?_;rw[show A.in1.handled=none from hh];refine Aa<|Ad<|wpAny_throw ?_;refine Aa<|Ca (T:="StopIteration") (b:=true) ⟨_,Ah _ rfl,rfl⟩ Dy<|Ad<|q _ ?_;exact((AH ..).extBut.push _).push _
def Fm(hh:A.handled=none)(I d:Sk)(hne:d≠I)(es:Sj DictEntry)(ep:Nat) :
  Walks prog w A I [I,d] [I] es.size (λi v=>(es[i]?).map (·.key)=some v) (λi h=>h.IsKeyIter I d i es.size ep/\WQ h d es ep) where
 sub:=λb hb=>by simp at hb;simp[hb]
 frame:=λ_ _ _ st hk=>⟨st.1.at λo e=>hk I (by simp) o e,st.2.at λo e=>hk d (by simp) o e⟩
 item:=λi s Q E hi st hQ=>by
  have hx:es[i]?=some es[i]:=Vi hi;refine Ih st.1 st.2 hx λh' hit' hs'=>hQ _ h' s.toks (by rw[hx];rfl) ⟨hit',st.2.at λo e=>hs'.extBut d o hne e⟩ λb o hb e=>hs'.extBut b o (λz=>hb<|by simp[z]) e
 done:=λs Q E st hQ=>Lj hh st.1 st.2 (Qa _) λh' he'=>hQ h' s.toks λb o hb e=>he' b o (λz=>hb<|by simp[z]) e
 self:=λ_ _ _ _ st hQ=>wpAny_pyIter_keyiter st.1 hQ
end
section
variable {P:Su}{w:Sx}{H:Hp}{h:Sv}{a:Sk}{ep:Nat×Se Sk}{VV:Se (Se Key×V)}
def Ij(ok:HOk P w H h)(e:H a=some (.dT ep VV)):VV.length<=sizeLine/\(a == sysModules)=false/\∃(xs:Se (Se Key×Sk×Sh))(es:Sj DictEntry),KT H VV xs/\xs.map (·.2.1)=ep.2/\es.toList=xs.map (entryOfKey<|tupleKind<|cQ P w)/\WQ h a es ep.1/\es.size=VV.length:=by
 obtain⟨z,y,xs,r,ra,o,es,h1,h2,h3,h4,h5⟩:=(show V3 P w H h a (.dT ep VV) from ok a _ e);refine⟨z,y,xs,es,r,ra,h4,⟨o,h1,h2,h3⟩,?_⟩;have:=congrArg List.length h4;rw[Ya,Zd]at this;rw[this,<-Paired.length r]
def Ik{xs:Se (Se Key×Sk×Sh)}{es:Sj DictEntry}(r:KT H VV xs)(ra:xs.map (·.2.1)=ep.2)(he:es.toList=xs.map (entryOfKey<|tupleKind<|cQ P w)){i:Nat}{x:DictEntry}(hx:es[i]?=some x) :
  ∃k v b,VV[i]?=some (k,v)/\ep.2[i]?=some b/\x.key=.ref b/\H b=some (.tup<|k.map kV):=by
 rw[<-Xg,he,Xd]at hx;obtain⟨q,e1,e2⟩:=Wd.mp hx;have hb:ep.2[i]?=some q.2.1:=by rw[<-ra,Xd,e1];rfl
 have hl:=Paired.length r;have hi:i<VV.length:=by rw[hl];exact(Vb.mp e1).1
 have go:∀{l:Se (Se Key×V)}{m:Se (Se Key×Sk×Sh)},KT H l m->∀{j:Nat}{p:Se Key×V}{q:Se Key×Sk×Sh},l[j]?=some p->m[j]?=some q->H q.2.1=some (.tup<|p.1.map kV):=λ{l m} t=>by
  induction t with
  |nil=>intro j p q h1;simp at h1
  |cons hq t ih=>
   intro j p q h1 h2;cases j with
   |zero=>
    cases h1;cases h2;exact hq.2.1
   |succ j=>exact ih (by simpa using h1) (by simpa using h2)
 have ek:VV[i]?=some (VV[i].1,VV[i].2):=Za hi;refine⟨VV[i].1,VV[i].2,q.2.1,ek,hb,by rw[<-e2];rfl,go r ek e1⟩
end
section
variable {X:Cx}{K:Ab}{O O' Z:AS}{H H':Hp}{tg:Expr}
def fX:Key->D|.inl i=>.int i|.inr x=>.str x
theorem Ph(k:Key):DA K Y H (kV k) (fX k):=by
 cases k with|inl i=>exact .int i|inr x=>exact .str x
theorem uB:∀ks:Se Key,El K Y H (ks.map kV) (ks.map fX)|[]=>El.nil|k::r=>El.cons (Ph k)<|uB r
def qx{k:Se Key}(h:H b=some (.tup<|k.map kV))(n:¬ Y b):DA K Y H (.ref b) (.tup<|k.map fX):=.tup ⟨h,n⟩ (uB (K:=K) (H:=H) (Y:=Y) k).1 (uB k).2
def pJ:D->Sf (Se D)|.dt VV=>some (VV.map λkv=>.tup<|kv.1.map fX)|_=>none
end
open TS
section
variable {A:Around}{s:Si}
def WQ.lt{h:Sv}(x:WQ h d es ep):d<h.objs.size:=let⟨_,ho,_⟩:=x;Aj ho
def zQ{es:Sj DictEntry}(lo:(d == sysModules)=false):PySem.W.KdlSrc prog w "dict" d d es.size (λi v=>(es[i]?).map (·.key)=some v) (λh=>WQ h d es ep) where
 type:=λ_ m=>m.typeIs
 there:=λ_ m=>⟨m.lt,m.lt⟩
 keep:=λ_ _ m k=>m.at λo e=>k d (.inl rfl) o e
 notList:=by decide
 notTuple:=by decide
 hint:=λ_ _ _ _ m q=>PySem.W.kdl_hint_dict m.typeIs q
 iter:=λ_ _ hh m=>⟨_,_,(λ_ _ q=>Ig lo m q),Fm hh _ d (Zh m.lt) es ep,⟨⟨_,Ah _ rfl,rfl,rfl⟩,m.at λo e=>Ac _ e⟩⟩
def wg{es:Sj DictEntry}(hh:A.handled=none)(lo:(d == sysModules)=false)(hm:WQ s.heap d es ep)(hz:es.size<=sizeLine)
  (q:∀h' tk,(∀b o,s.heap.get? b=some o->h'.get? b=some o)->Q (es.toList.map (·.key)) { s with heap:=h',toks:=tk }):wpAny (model prog w) A (collect<|.ref d) Q E s:=by
 refine PySem.W.kdu_collect (zQ lo) hh hm hz λh' tk acc' kp hi=>?_;have e:acc'.toList=es.toList.map (·.key):=by
  refine BF (by rw[Zd,hi.1,Ya,Zd]) λi h1 h2=>?_
  have a:(es[i]?).map (·.key)=some acc'[i]:=hi.2 i acc'[i]<|Vi<|by simpa using h1
  rw[Vi (by rw[Ya,Zd]at h2;exact h2)]at a
  have a':=Option.some.inj a;rw[Array.getElem_toList,Cd,Array.getElem_toList];exact a'.symm
 rw[e];exact q h' tk kp
def Fn{vs:Se Sh}{ds:Se D}(hh:A.handled=none)
  (coll:∀(A:Around)(E:Sh->Si->Prop)(Q:Se Sh->Si->Prop),A.handled=none->(∀h' tk,(∀b o,s.heap.get? b=some o->h'.get? b=some o)->Q vs { s with heap:=h',toks:=tk })->wpAny (model prog w) A (collect x) Q E s)(hz:vs.length<=sizeLine)
  (hn:vs.length=ds.length) (r:∀(i:Nat) u d,vs[i]?=some u->ds[i]?=some d->RH s.heap u d) (pl:∀d∈ds,Pl 40 d) (ca:CA 40 ds) (hk:Kd ds κ) (hu:A.units+64<cLine)
  (fin:∀(γ:Sj Nat)(h':Sv)(a:Sk)(n tk:Nat),γ.Perm (Array.range vs.length)->Sg (cD ds) γ 0 vs.length->(∀b o,s.heap.get? b=some o->h'.get? b=some o)->(∀b o,s.heap.get? b=some o->b≠a)->h'.get? a=some (seqObj "list" (bR vs γ) n)->Q (.ref a) { s with heap:=h',toks:=tk }) :
  wpAny (model prog w) A (call (.builtin "sorted") [x]) Q E s:=by
 refine DI kind_sorted plain_sorted entry_sorted (args_sorted1 _)<|Aa (m:=checkCount "sorted" 1 1 _)<|Ad<|Aa<|coll _ _ _ hh λh1 tk kp=>Aa<|BG ?_;have mine:(h1.push<|seqObj "list" vs.toArray 0).get? h1.objs.size=some (seqObj "list" vs.toArray 0):=Ah _ rfl;show wpAny _ _ _ _ _ { s with heap:=h1.push<|seqObj "list" vs.toArray 0,toks:=tk };refine Aa<|AD<|Aq slot_list_sort ⟨_,mine,rfl⟩ entry_list_sort ?_<|args_list_sort _;have old2:∀b o,s.heap.get? b=some o->b≠h1.objs.size:=λb o e=>Zh<|Aj<|kp b o e;refine sR (s:={ s with heap:=h1.push<|seqObj "list" vs.toArray 0,toks:=tk }) mine hz hn (λi u d e1 e2=>(r i u d e1 e2).kept λb o e=>?_) pl ca hk (by show A.units+1+1+40<cLine;lia) λγ p g=>?_
 ·exact Ac _<|Ac _<|(AB _ _ _ _<|old2 b o e).trans (Ac _<|kp b o e)
 ·obtain⟨n,hn'⟩:=sortedHeap_at (n:=0) (vs:=vs) (out:=bR vs γ) mine;refine⟨_,rfl,Ad ⟨_,rfl,fin γ _ _ n tk p g (λb o e=>?_) old2 hn'⟩⟩;have hb:b<(h1.push<|seqObj "list" vs.toArray 0).objs.size:=by rw[size_push'];exact Bs (Aj<|kp b o e)
  rw[sortedHeap_old (old2 b o e) hb];exact Ac _<|kp b o e
end
section
variable {X:Cx}{K:Ab}{Y:AS}{H:Hp}
def Il:Se V->Hp->VK->Prop:=λxs H Q=>∃(a:Sk)(ep:Nat×Se Sk)(VV:Se (Se Key×V))(κ:SortKind),xs=[.ref a]/\H a=some (.dT ep VV)/\(∀x∈VV.map (λkv=>D.tup<|kv.1.map fX),Pl 40 x)/\CA 40 (VV.map λkv=>D.tup<|kv.1.map fX)/\Kd (VV.map λkv=>D.tup<|kv.1.map fX) κ /\
 ∀(p:Sk)(bs:Se Sk),H p=none->(∀b∈bs,b∈ep.2)->(∃ks:Se (Se Key),ks.map (λk=>D.tup<|k.map fX)=dA 40 (VV.map λkv=>D.tup<|kv.1.map fX)/\bs.length=ks.length/\∀(i:Nat) b k,bs[i]?=some b->ks[i]?=some k->H b=some (.tup<|k.map kV))->Q (.ref p) (upd H p<|.lst<|bs.map V.ref)
def qy(h:X.K=K)(hc:X.calm=true)(hr:Ww n X.A):V9 X (.builtin "sorted") Il:=by
 intro VU s σ H xs us Q I rv hh;obtain⟨a,ep,VV,κ,rfl,ha,pl,ca,hk,q⟩:=hh;walk_at "a";cases ru;obtain⟨hz,lo,xs,es,rk,ra,he,rw',esz⟩:=Ij I.hok ha;have key:∀(i:Nat)(x:DictEntry),es[i]?=some x->∃k v b,VV[i]?=some (k,v)/\ep.2[i]?=some b/\x.key=.ref b/\H b=some (.tup<|k.map kV):=λi x hx=>Ik rk ra he hx;have ln:(es.toList.map (·.key)).length=(VV.map λkv=>D.tup<|kv.1.map fX).length:=by rw[Ya,Ya,Zd,esz]
 have at_:∀(i:Nat) u,(es.toList.map (·.key))[i]?=some u->∃k v b,VV[i]?=some (k,v)/\ep.2[i]?=some b/\u=.ref b/\H b=some (.tup<|k.map kV):=λi u e=>by
  rw[Xd]at e;obtain⟨x,e1,e2⟩:=Wd.mp e;obtain⟨k,v,b,g1,g2,g3,g4⟩:=key i x (by rw[<-Xg];exact e1)
  exact⟨k,v,b,g1,g2,by rw[<-e2];exact g3,g4⟩
 refine Fn (vs:=es.toList.map (·.key)) (ds:=VV.map λkv=>D.tup<|kv.1.map fX) (κ:=κ) (I.ok.hd hc) (λA E Q hA q=>wg hA lo rw' (by rw[esz];exact hz) q) (by rw[Ya,Zd,esz];exact hz) ln (λi u d e1 e2=>?_) pl ca hk hr.units λγ h' p n tk pm g kp ge hat=>?_
 ·obtain⟨k,v,b,g1,g2,rfl,g4⟩:=at_ i u e1;have e2':=e2;rw[Xd,g1]at e2;cases e2;have da:DA K (λ_=>False) H (.ref b) (.tup<|k.map fX):=qx g4 λz=>z;exact da.rh (pl _<|Va e2') I h rfl
 ·rw[ln]at pm g;have hpn:H p=none:=by
   cases e:H p with
   |none=>rfl
   |some o=>
    obtain⟨ob,e'⟩:=(I.hok p o e).there;exact absurd rfl<|ge p ob e'
  have eo:=H9 ca pm g;have hγ:∀g∈γ.toList,g<VV.length:=λg hg=>by
   have:=(Yh.mp pm).mem_iff.mp hg;rw[AJ,Ya]at this;exact Zn.mp this
  have las:ep.2.length=VV.length:=by rw[<-ra,Ya,<-Paired.length rk]
  have e2:(bR (es.toList.map (·.key)) γ).toList=γ.toList.map λg=>(es.toList.map (·.key)).getD g .none:=by unfold bR;simp
  have vw:V0 ((γ.toList.map λg=>ep.2.getD g 0).map V.ref) (bR (es.toList.map (·.key)) γ).toList:=by
   rw[e2,Zf];have:∀l:Se Nat,(∀g∈l,g<VV.length)->V0 (l.map<|V.ref ∘ λg=>ep.2.getD g 0) (l.map λg=>(es.toList.map (·.key)).getD g .none):=λl=>by
    induction l with
    |nil=>exact λ_=>.nil
    |cons g l ih=>
     intro hl;have hg:g<VV.length:=hl g Zc;have a1:(es.toList.map (·.key))[g]?=some ((es.toList.map (·.key))[g]'(by rw[ln,Ya];exact hg)):=Za _
     obtain⟨k,v,b,g1,g2,g3,g4⟩:=at_ g _ a1;refine .cons ?_<|ih λx hx=>hl x<|Wb _ hx;show(es.toList.map (·.key)).getD g .none=Value.ref (ep.2.getD g 0);rw[Yb,Yb,a1,g2,Option.getD_some,g3];rfl
   exact this _ hγ
  refine⟨.ref p,upd H p<|.lst<|(γ.toList.map λg=>ep.2.getD g 0).map V.ref,I.laid2 kp ge hpn ⟨?_,(bR (es.toList.map (·.key)) γ).toList,n,vw,by simpa using hat⟩,rfl,q p _ hpn (λb hb=>?_) ⟨γ.toList.map λg=>(VV.map (·.1)).getD g [],?_,by simp,λi b k h1 h2=>?_⟩⟩
  ·rw[Ya,Ya,Zd,pm.size_eq,Zl,Ya];exact hz
  ·obtain⟨g,hg,rfl⟩:=Qc.mp hb;have hg':=hγ g hg;rw[Yb,Za<|by lia]
   exact Qk _
  ·rw[<-eo,Zf];refine Qj λg hg=>?_;have hg':=hγ g hg;show D.tup (((VV.map (·.1)).getD g []).map fX)=_;rw[oD (d:=D.tup<|VV[g].1.map fX) (by rw[Xd,Za hg'];rfl),Yb,Xd,Za hg'];rfl
  ·rw[Xd]at h1 h2;obtain⟨g1,k1,k2⟩:=Wd.mp h1;obtain⟨g2,k3,k4⟩:=Wd.mp h2;rw[k1]at k3;cases k3;have hg':=hγ g1<|Va k1;have a1:(es.toList.map (·.key))[g1]?=some ((es.toList.map (·.key))[g1]'(by rw[ln,Ya];exact hg')):=Za _
   obtain⟨k',v,b',f1,f2,f3,f4⟩:=at_ g1 _ a1;rw[Yb,f2]at k2;rw[Yb,Xd,f1]at k4;subst k2 k4;exact f4
open Classical in
def mq:Se D->Sf Rz
 | [d]=>match pJ d with|some ds=>if (∀x∈ds,Pl 40 x)/\CA 40 ds/\∃κ,Kd ds κ then some (.lst<|dA 40 ds,true) else none|none=>none
 |_=>none
theorem Im:WC K Il mq:=by
 walk_at "7";cases bs with
 |nil=>cases e
 |@cons v vs d ds b1 bs=>
  cases bs with
  |cons _ _=>cases e
  |nil=>
   cases d with
   |dt kd=>
    unfold mq at e;dsimp only[pJ]at e;obtain⟨a,ep,VV,rfl,ka,h1,h2,h3⟩:=b1;have ek:(kd.map λkv=>D.tup<|kv.1.map fX)=VV.map λkv=>D.tup (kv.1.map fX):=by
     have:∀{α:Type}(l:Se (Se Key×α)),(l.map λkv=>D.tup<|kv.1.map fX)=(l.map (·.1)).map λk=>D.tup (k.map fX):=λl=>by rw[Zf];rfl
     rw[this,this,h2]
    rw[ek]at e;walk_at "5";cases e;obtain⟨c1,c2,κ,c3⟩:=c;refine⟨a,ep,VV,κ,rfl,h1,c1,c2,c3,λp bs hp hb ⟨ks,k1,k2,k3⟩=>q _ _ (bq hp _)<|gf ?_ hp⟩;rw[<-k1];refine⟨by rw[Ya,Ya,k2],λi v d e1 e2=>?_⟩
    rw[Xd]at e1 e2;obtain⟨b,f1,rfl⟩:=Wd.mp e1;obtain⟨k,f2,rfl⟩:=Wd.mp e2;exact qx (k3 i b k f1 f2) (ka b<|hb b<|Va f1).1
   |_=>cases e
end
end VF22
namespace VF22
open PySem PySem.Spec PyProof.Rows L2 VF
section
@[irreducible] def Uo(X:Cx)(es:Se Expr)(t:TA):Prop:=PA X es t
def Lk:Uo X [] rB:=by unfold Uo;exact ae
def wj(ha:PE X e te)(hr:Uo X es t)(h:jX e=true):Uo X (e::es) (gE te t):=by
 unfold Uo at *;exact ao ha hr h
def Ll(h:Uo X es t):PE X (.List es pos) (Nx t):=by
 unfold Uo at h;exact bK h
end
section
variable {X:Cx}{K:Ab}{Y:AS}{H:Hp}
def Ip:Se V->Hp->VK->Prop:=λxs H Q=>∃(a:Sk)(ep:Nat×Se Sk)(VV:Se (Se Key×V)),xs=[.ref a]/\H a=some (.dT ep VV) /\
 ∀(p:Sk),H p=none->ep.2.length=VV.length->(∀(i:Nat) b k v,ep.2[i]?=some b->VV[i]?=some (k,v)->H b=some (.tup<|k.map kV))->Q (.ref p) (upd H p<|.lst<|ep.2.map V.ref)
def xJ(h:X.K=K)(hc:X.calm=true):V9 X (.type "list") Ip:=by
 intro VU s σ H xs us Q I rv hh;obtain⟨a,ep,VV,rfl,ha,q⟩:=hh;walk_at "a";cases ru;obtain⟨hz,lo,xs,es,rk,ra,he,rw',esz⟩:=Ij I.hok ha;have las:ep.2.length=VV.length:=by rw[<-ra,Ya,<-Paired.length rk]
 have key:∀(i:Nat)(x:DictEntry),es[i]?=some x->∃k v b,VV[i]?=some (k,v)/\ep.2[i]?=some b/\x.key=.ref b/\H b=some (.tup<|k.map kV):=λi x hx=>Ik rk ra he hx;refine PySem.W.kdl_call (zQ lo) (I.ok.hd hc) rw' (by rw[esz];exact hz) λh' tk acc c kp hS hacc=>?_
 have hpn:H s.heap.objs.size=none:=I.hok.fresh<|Qa _;have al:acc.toList=ep.2.map Value.ref:=by
  refine B4 λi=>?_;by_cases hi:i<es.size
  ·have hi':i<acc.size:=by rw[hacc.1];exact hi
   have a2:es[i]?=some es[i]:=Vi hi;obtain⟨k,v,b,g1,g2,g3,g4⟩:=key i es[i] a2;have a3:(es[i]?).map (·.key)=some acc[i]:=(hacc.2 i acc[i]<|Vi hi');rw[a2]at a3;have a4:es[i].key=acc[i]:=Option.some.inj a3;rw[Xg,Vi hi',Xd,g2,<-a4,g3];rfl
  ·rw[Xg,DY (by rw[hacc.1];lia),Zm (by rw[Ya];lia)]
 have vw:V0 (ep.2.map V.ref) acc.toList:=by
  rw[al];have:∀l:Se Sk,V0 (l.map V.ref) (l.map Value.ref):=λl=>by
   induction l with|nil=>exact .nil|cons b l ih=>exact .cons rfl ih
  exact this _
 refine⟨.ref s.heap.objs.size,upd H s.heap.objs.size<|.lst<|ep.2.map V.ref,I.laid (λb o e=>kp b o e) (Qa _) ⟨by rw[Ya,las];exact hz,acc.toList,c,vw,by simpa using hS⟩,rfl,q _ hpn las λi b k v e1 e2=>?_⟩
 have hi:i<es.size:=by rw[esz];exact(Vb.mp e2).1
 obtain⟨k',v',b',g1,g2,g3,g4⟩:=key i es[i]<|Vi hi;rw[e2]at g1;rw[e1]at g2;cases g1;cases g2;exact g4
def xK:Se D->Sf Rz|[d]=>(pJ d).bind λds=>some (.lst ds,true)|_=>none
theorem Iq:WC K Ip xK:=by
 walk_at "7";cases bs with
 |nil=>cases e
 |@cons v vs d ds b1 bs=>
  cases bs with
  |cons _ _=>cases e
  |nil=>
   cases d with
   |dt kd=>
    replace e:some (D.lst<|kd.map λkv=>D.tup<|kv.1.map fX,true)=some z:=e
    cases e;obtain⟨a,ep,VV,rfl,ka,h1,h2,h3⟩:=b1;refine⟨a,ep,VV,rfl,h1,λp hp las k3=>q _ _ (bq hp _)<|gf ?_ hp⟩;have ln:VV.length=kd.length:=by have:=congrArg List.length h2;rwa [Ya,Ya]at this
    refine⟨by rw[Ya,Ya,las,ln],λi v d e1 e2=>?_⟩
    rw[Xd]at e1 e2;obtain⟨b,f1,rfl⟩:=Wd.mp e1;obtain⟨kv,f2,rfl⟩:=Wd.mp e2;have hk:∃w,VV[i]?=some (kv.1,w):=by
     have:(VV.map (·.1))[i]?=some kv.1:=by rw[h2,Xd,f2];rfl
     rw[Xd]at this;obtain⟨x,g1,g2⟩:=Wd.mp this;exact⟨x.2,by rw[g1,<-g2]⟩
    obtain⟨w,hk⟩:=hk;exact qx (k3 i b kv.1 w f1 hk) (ka b<|Va f1).1
   |_=>cases e
end
end VF22
namespace VF
open PySem L2 PySem.Spec PyProof.Rows
section
variable {X:Cx}{K:Ab}
def Ir:V->Se V->Hp->VK->Prop:=λx vs H Q=>∃(a b:Str),x=.str a/\vs=[.str b]/\a.length<=1000000/\Q (.str<|Txt.stripChars a b) H
def Iu:UI X "str.strip" Ir:=by
 walk_at "f";obtain⟨a,b,rfl,rfl,hz,q⟩:=h;walk_at "b";walk_at "a";obtain⟨t',rfl⟩:=ru;exact SC.stripChars (λt' k=>⟨.str _,H,I.tok k,⟨t',rfl⟩,q⟩)<|Ve hz<|by decide
def xL:D->Se D->Sf Rz|.str a,[.str b]=>if a.length<=1000000 then some (.str<|Txt.stripChars a b,false) else none|_,_=>none
theorem wm:G5 K Ir xL:=by
 walk_at "K";cases d with
 |str a=>
  cases bs with
  |nil=>cases e
  |@cons v vs d ds b2 bs=>
   cases bs with
   |cons _ _=>cases d<;>cases e
   |nil=>
    cases d with
    |str b=>
     walk_at "5";cases e;exact⟨a,b,b1,by rw[show v=V.str b from b2],c,q _ H (VZ.refl H)<|.str _⟩
    |_=>cases e
 |_=>cases e
def Iv(K:Ab):V->Se V->Hp->VK->Prop:=λx vs H Q=>∃(p:Sk)(ys:Se Str)(b:Str),x=.ref p/\vs=[.str b]/\SW K H p (ys.map V.str)/\b∈ys/\Q (.int (ys.idxOf b:Nat)) H
def Iw(h:X.K=K):UI X "list.index" (Iv K):=by
 intro VU s σ H x vs v us Q I rx rv hh;obtain⟨p,ys,b,rfl,rfl,sq,hb,q⟩:=hh;subst h;cases rx;walk_at "a";obtain⟨t,rfl⟩:=ru;obtain⟨its,r,pl,hz⟩:=I.list sq;obtain⟨o,n,e,hc,hd,hs⟩:=id pl;have hlen:its.length=ys.length:=by have:=r.length;simpa using this.symm
 have hj:ys.idxOf b<ys.length:=List.idxOf_lt_length_iff.mpr hb;obtain⟨cls,dd,data,sl⟩:=o;simp only at hc hs;subst hc hs;have itAt:∀(i:Nat) v,its[i]?=some v->∃y t',ys[i]?=some y/\v=.str y t':=λi v hv=>by
  obtain⟨w,e1,rw'⟩:=dw r i v hv;rw[Xd]at e1;obtain⟨y,e2,rfl⟩:=Wd.mp e1;obtain⟨t',rfl⟩:=rw';exact⟨y,t',e2,rfl⟩
 have hyl:ys.length<=2 ^ 24:=by rw[Ya]at hz;exact hz
 let is:Sh->Ss:=λv=>match v with|.str y _=>y == b|_=>false
 refine Cf DN ⟨_,e,rfl⟩ PySem.F.entry_list_index (PySem.F.args_list_index_2 _ _)
  (PySem.SeqAt.list_indexAt p its.toArray n dd sl (.str b t) is (ys.idxOf b) (by simpa[hlen]using hj) (by lia) ?_ ?_) ⟨e,λy hy=>?_,?_⟩
 ·have hv:its[ys.idxOf b]?=some its[ys.idxOf b]:=Za (by lia)
  obtain⟨y,t',e1,e2⟩:=itAt _ _ hv;show is its[ys.idxOf b]=true;rw[e2];have:y=b:=by
   rw[Za hj]at e1;have:=Option.some.inj e1;rw[<-this];exact List.getElem_idxOf hj
  show(y == b)=true;rw[this];simp
 ·intro m hm hlt;have hm':m<its.length:=by simpa using hm
  have hv:its[m]?=some its[m]:=Za hm';obtain⟨y,t',e1,e2⟩:=itAt _ _ hv;show is its[m]=false;rw[e2];show(y == b)=false;have hmy:m<ys.length:=by lia
  have:=List.not_of_lt_findIdx (p:=(· == b)) (xs:=ys) (i:=m) hlt;rw[Za hmy]at e1;rw[<-Option.some.inj e1];simpa using this
 ·obtain⟨i,hi⟩:=Yn (show y∈its by simpa using hy)
  obtain⟨z,t',_,rfl⟩:=itAt i y hi;exact PySem.SeqAt.EqAt.str_str _ _ _ _
 ·exact⟨.int _,H,I.tok _,⟨_,rfl⟩,q⟩
def bIndex:D->Se D->Sf Rz|.lst ds,[.str b]=>(iH ds).bind λys=>if b∈ys then some (.int (ys.idxOf b:Nat),false) else none|_,_=>none
theorem wn:G5 K (Iv K) bIndex:=by
 walk_at "K";cases d with
 |lst es=>
  cases bs with
  |nil=>cases e
  |@cons v vs d ds b2 bs=>
   cases bs with
   |cons _ _=>cases d<;>cases e
   |nil=>
    cases d with
    |str b=>
     refine SK e λys e1 e=>?_;walk_at "5";cases e;obtain⟨p,ws,rfl,hp,el⟩:=b1;obtain rfl:=lg el e1;exact⟨p,ys,b,rfl,by rw[show v=V.str b from b2],.inl<|.inl hp,c,q _ H (VZ.refl H)<|.int _⟩
    |_=>cases e
 |_=>cases e
def Ta(x y:Str):Ss:=decide<|x.cps.toList<y.cps.toList
def zR(ys:Se Str):Nat:=argBest (λi j=>Ta (ys.getD i Str.empty)<|ys.getD j Str.empty)<|ys.length-1
def lM(ys:Se Str):Str:=ys.getD (zR ys) Str.empty
def M6(K:Ab):Se V->Hp->VK->Prop:=λxs H Q=>∃(p:Sk)(ys:Se Str),xs=[.ref p]/\SW K H p (ys.map V.str)/\ys≠[]/\Q (.str<|lM ys) H
def Fo(h:X.K=K)(hc:X.calm=true):V9 X (.builtin "min") (M6 K):=by
 intro VU s σ H xs us Q I rv hh;obtain⟨p,ys,rfl,sq,hne,q⟩:=hh;subst h;walk_at "a";cases ru;obtain⟨its,r,pl,hz⟩:=I.list sq;have hlen:its.length=ys.length:=by have:=r.length;simpa using this.symm
 obtain⟨op,np,ep,cp,dp,sp⟩:=id pl;have hpn:p≠s.heap.objs.size:=Zh<|Aj ep;have hpos:=Zi.mpr hne;have itAt:∀(i:Nat) v,its.toArray[i]?=some v->∃t',v=.str (ys.getD i Str.empty) t':=λi v hv=>by
  obtain⟨w,e1,rw'⟩:=dw r i v (by simpa using hv)
  rw[Xd]at e1;obtain⟨y,e2,rfl⟩:=Wd.mp e1;obtain⟨t',rfl⟩:=rw';exact⟨t',by rw[Yb,e2];rfl⟩
 refine call_min_walk<|B1 pl.isList<|⟨s.heap.objs.size,_,_,_,_,_,λi j=>Ta (ys.getD i Str.empty)<|ys.getD j Str.empty,rfl,Walks.list (show X.A.in1.handled=none from I.ok.hd hc) s.heap.objs.size p hpn its.toArray,⟨⟨_,Ah _ rfl,rfl,rfl⟩,⟨op,Ac _ ep,cp,np,sp⟩⟩,λb hb=>?_,by rw[Xc];lia,?_,λv h' tk hv kp=>?_⟩
 ·show b<(s.heap.push _).objs.size;rw[Bw];rcases Vc.mp hb with rfl|hb
  ·exact AW _
  ·obtain rfl:=Wa.mp hb;exact Bs<|Aj ep
 ·intro i j vi vj s' Q' E' hi hj hq;obtain⟨t1,rfl⟩:=itAt i vi hi;obtain⟨t2,rfl⟩:=itAt j vj hj;exact PyProof.Rows.lt_str hq
 ·obtain⟨t',rfl⟩:=itAt _ v hv;rw[Xc,hlen];refine⟨.str _,H,I.kept (t':=tk) λb o e=>(kp b o (λhm=>?_)<|Ac _ e),⟨t',rfl⟩,q⟩;have:=Aj e;obtain rfl:=Wa.mp hm;exact Yj _ this
def Ix:Se D->Sf Rz|[.lst ds]=>(iH ds).bind λys=>if ys=[] then none else some (.str<|lM ys,false)|_=>none
theorem Lm:WC K (M6 K) Ix:=by
 walk_at "7";cases bs with
 |nil=>cases e
 |@cons v vs d ds c1 bs=>
  cases bs with
  |cons _ _=>cases d<;>cases e
  |nil=>
   cases d with
   |lst es=>
    refine SK e λys e1 e=>?_;by_cases c:ys=[]
    ·simp only[Ag c]at e;cases e
    ·simp only[Ak c]at e;cases e;obtain⟨p,ws,rfl,hp,el⟩:=c1;obtain rfl:=lg el e1;exact⟨p,ys,rfl,.inl<|.inl hp,c,q _ H (VZ.refl H)<|.str _⟩
   |_=>cases e
end
def ST{N P:Se Str}{sc:Scope}(h:N.Nodup/\(∀x∈P,sc.names.lookup x=some .local\/sc.names.lookup x=some .cell)/\∀y∈sc.names,y.2≠.free)(a:sc.kind=.function:=by rfl)(b:sc.isCoroutine=false:=by rfl)(c:sc.isGenerator=false:=by rfl)(d:N.take P.length=P:=by rfl):VY N P sc:=⟨a,b,c,h.1,d,h.2.1,h.2.2⟩
structure FH(K:Ab)(x:Str)(st:Stmt):Prop where
 ex:∃f fd,XR K x x st f fd/\PySem.W.nsIn K mainGlobals x=some (some<|.ref f)
def fh{K:Ab}{x:Str}{st:Stmt}{f:Sk}{oc:Sh}{od an:Sf Sk}{osl:Sj (Sf Sh)}{kV doc pm cdv ct:Sh}(a:PySem.W.nsIn K mainGlobals x=some (some<|.ref f))
  (l:K.lookup f=some ⟨oc,od,.func<|PySem.W.fnOf x x (fB st) (dM st) (aq st) .none kV doc pm an cdv ct,osl⟩)(c:PySem.W.codeIn K cdv x=true)(k:PySem.W.keepIn K (.ref f)=true):FH K x st:=⟨f,_,NP l c k,a⟩
def Bn(x:Str)(st:Stmt)(ps:Se Str):Prop:=∀(kV doc pm:Sh)(an:Sf Sk)(cdv ct:Sh)(us:Se Sh),us.length=ps.length->bindArgs (PySem.W.fnOf x x (fB st) (dM st) (aq st) .none kV doc pm an cdv ct) ⟨us,[]⟩=pure (ps.zip us)
theorem VE{n:Nat}{P:Se Sh->Prop}{us:Se Sh}(hl:us.length=n+1)(h:∀a r,r.length=n->P (a::r)):P us:=by
 cases us with|nil=>cases hl|cons a r=>exact h a r<|Nat.succ.inj hl
def Uz{P:Se Sh->Prop}(h:∀a,P [a])(us:Se Sh)(hl:us.length=1):P us:=VE hl λa r hr=>by
 rw[Xe hr];exact h a
def U7{P:Se Sh->Prop}(h:∀a b,P [a,b])(us:Se Sh)(hl:us.length=2):P us:=VE hl λa r hr=>Uz (P:=λr=>P (a::r)) (h a) r hr
section
variable {P:Su}{w:Sx}{K:Ab}{mg:Str->Sf Sh}{base h:Sv}{x:Str}{st:Stmt}{N ps:Se Str}{k:Nat}{F:FS}
abbrev SQ(P:Program)(w:World)(K:Ab)(mg:Str->Option Value)(base:Heap)(x:Str)(st:Stmt)(N:List Str)(k:Nat)(F:FS):Prop :=
 ∀{f:Addr}{cdv:Value}{A:Around}{outer:List Env}{s:Shared}{H:Hp}{E:XK},Ww k (A.deeper<|envOfC x (aq st) s.heap.objs.size f cdv)->∃t,W5 (vz Tu P w K mg base N x (aq st) f cdv A outer s H E).nox (dM st) t/\Tp K t F
def U8(F':XR K x x st f fd)(S:VY N ps (aq st))(hB:SQ P w K mg base x st N k F):WH P w K mg base Tu (k+1) f fd ps (SR K<|bp F N.length ps.length):=by
 refine F'.ok S (λvs H Q E h=>N7 h) λcdv A outer s H vs Q E hr h=>?_;obtain⟨t,h1,h2⟩:=hB hr;exact⟨t,h1,KJ h2 h⟩
def FH.cal(h':FH K x st)(X:K.In h)(G:h.Ns mainGlobals mg)(S:VY N ps (aq st))(hB:SQ P w K mg base x st N k F)(hb:Bn x st ps:=by first|exact λ_ _ _ _ _ _=>Uz λ_=>rfl|exact λ_ _ _ _ _ _=>U7 λ_ _=>rfl|exact λ_ _ _ _ _ _=>ar3 λ_ _ _=>rfl):Wy P w K mg base x (k+1) ps (SR K<|bp F N.length ps.length):=by
 obtain⟨f,fd,F',a⟩:=h'.ex;exact⟨f,fd,U8 F' S hB,AR X G a,F'.kp,F'.binds hb⟩
def FH.calI(h':FH K x st)(X:K.In h)(G:h.Ns mainGlobals mg)(S:VY N ps (aq st))(hB:SQ P w K mg base x st N k F)(hb:Bn x st ps:=by first|exact λ_ _ _ _ _ _=>Uz λ_=>rfl|exact λ_ _ _ _ _ _=>U7 λ_ _=>rfl|exact λ_ _ _ _ _ _=>ar3 λ_ _ _=>rfl):Wy P w K mg base x (k+1) ps (lZ K<|dF F N.length ps.length):=by
 obtain⟨f,fd,F',a⟩:=h'.ex;refine⟨f,fd,F'.ok S (λvs H Q E h=>MP h) λcdv A outer s H vs Q E hr h=>?_,AR X G a,F'.kp,F'.binds hb⟩;obtain⟨t,h1,h2⟩:=hB hr;exact⟨t,h1,su h2 h⟩
theorem FH.calR{sp:Nat->Sp}(h':FH K x st)(X:K.In h)(G:h.Ns mainGlobals mg)(hb:Bn x st ps)(m:Nat)(h0:∀f fd,WH P w K mg base Tu 0 f fd ps<|sp 0)(h1:∀n,n<=m->Wy P w K mg base x n ps (sp n)->∀f fd,XR K x x st f fd->WH P w K mg base Tu (n+1) f fd ps (sp<|n+1)):∀n,n<=m+1->Wy P w K mg base x n ps (sp n):=by
 obtain⟨f,fd,F',a⟩:=h'.ex;intro n;induction n with|zero=>exact λ_=>⟨f,fd,h0 f fd,AR X G a,F'.kp,F'.binds hb⟩|succ n ih=>exact λhn=>⟨f,fd,h1 n (Nat.le_of_succ_le_succ hn) (ih<|Nat.le_of_succ_le hn) f fd F',AR X G a,F'.kp,F'.binds hb⟩
def Ln:WH P w K mg base Tu 0 f fd ps (SR K<|dQ 0):=by
 have no:∀vs H Q E,¬ SR K (dQ 0) vs H Q E:=λvs H Q E h=>by
  obtain⟨Z,ds,z,el,lv,e,q⟩:=h;obtain⟨u,_,hd,_⟩:=sH e;cases hd
 exact⟨λvs H Q E h=>absurd h<|no vs H Q E,λA outer s H args us vs Q E _ _ _ _ h=>absurd h<|no vs H Q E⟩
def FH.alike{F:(Se D->Sf Rz)->FS}(h':FH K x st)(X:K.In h)(G:h.Ns mainGlobals mg)(S:VY N ps (aq st))(hb:Bn x st ps)(m:Nat)(hv:∀n u,Dp (n+1) u->bp (F<|dQ n) N.length ps.length [u,u]=some (.bl true,false))
  (hB:∀n g,n<=m->Wy P w K mg base x n ps (SR K g)->SQ P w K mg base x st N n (F g)):∀n,n<=m+1->Wy P w K mg base x n ps (SR K<|dQ n) :=
 h'.calR X G hb m (λ_ _=>Ln) λn hn c f fd F'=>(U8 F' S<|hB n _ hn c).imp λvs H Q E hs=>by
  obtain⟨Z,ds,z,el,lv,e,q⟩:=hs;obtain⟨u,rfl,hd,rfl⟩:=sH e;exact⟨Z,[u,u],(.bl true,false),el,lv,hv n u hd,q⟩
theorem FH.law(h':FH K "law" st)(X:K.In h)(G:h.Ns mainGlobals mg)(hfa:mg "law"=some (.ref fa))(S:VY N ["_law_script"] (aq st))(hb:Bn "law" st ["_law_script"])(lv:∀ns:Se Int,bp F N.length 1 [.fl<|ns.map D.int]=some (.bl true,false))
  (hB:∀base:Sv,SQ P w K mg base "law" st N k F):∃fd:FuncData,(∀(s:Si)(v:Sh),BindsTo s fd ⟨[v],[]⟩ [("_law_script",v)])/\∀base:Sv,K.In base->base.Ns mainGlobals mg->WH P w K mg base Tu (k+1) fa fd ["_law_script"] (zk K):=by
 obtain⟨f,fd,F',a⟩:=h'.ex;have e:=hfa.symm.trans<|AR X G a;cases e;refine⟨fd,λs v=>?_,λbase _ _=>(U8 F' S<|hB base).imp λvs H Q E h=>?_⟩
 ·obtain⟨oc,od,kV,doc,pm,an,cdv,ct,osl,rfl,lk,hcd⟩:=F'.ex;exact .of_eq<|hb kV doc pm an cdv ct [v] rfl
 ·obtain⟨a,ns,rfl,sq,_,q⟩:=h;refine⟨λ_=>False,[.fl<|ns.map D.int],(.bl true,false),El.one<|.fl (vs:=ns.map V.int) ?_ (by simp) λi v d h1 h2=>?_,λp z=>z.elim,lv ns,λv H' _ r=>?_⟩
  ·rcases sq with s|s
   ·exact .inl ⟨s,λz=>z⟩
   ·exact .inr λH'=>.inr s
  ·rw[Xd]at h1 h2;obtain⟨c,e1,rfl⟩:=Wd.mp h1;rw[e1]at h2;obtain rfl:=Option.some.inj h2;exact .int _
  ·obtain rfl:=(show v=V.bl true from DA.ba (show DA K (λ_=>False) H' v (.bl true) from r));exact q H'
end
def walkL{l:PySem.W.OpenLaw}{loose:Se Str}{XP:(Str->Sf Sh)->Sv->Prop}{YP:Sx->Sv->Prop}{d:DefRec}{K:Params->Ab}{k:Nat}(hn:l.most=some 63)(hdf:d.params.defaults=[])(hr:Ww k callerA)
  (hY:∀(w:Sx)(h:Sv),YP w h->(K w.params).In h)
  (F:∀(w:Sx)(mg:Str->Sf Sh)(fa:Sk)(h:Sv),(K w.params).In h->h.Ns mainGlobals mg->mg d.name=some (.ref fa)->
   ∃fd:FuncData,(∀(s:Si)(u:Sh),BindsTo s fd ⟨[u],[]⟩ [("_law_script",u)])/\∀base:Sv,(K w.params).In base->base.Ns mainGlobals mg->WH l.prog w (K w.params) mg base Tu k fa fd ["_law_script"] (zk (K w.params))) :
  PySem.W.WalkO q loose XP YP l.row.toRowW d [] (λf vs=>PySem.call f vs) :=
 L2.walk_of (n:=63) (k:=k) (x:="_law_script") (CX:=λ_=>Tu) (sp:=λw=>zk<|K w.params) hn (by decide) hdf hr hY F (λ_ _ a ns hl _ hS=>⟨a,ns,rfl,hS,hl,λ_=>rfl⟩) λ_ _ _ _ _ z=>z
end VF
namespace VF22
open PySem PySem.Spec PyProof.Rows L2 VF TS
section
variable {X:Cx}{K:Ab}{Y:AS}{H:Hp}{s:Si}{VU:Se (Sk×Obj)}{σ:L2.St}
open Classical in
def qz:D->D->Sf Rz:=λa b=>if Pl 40 a/\Pl 40 b/\Cp 40 a b then some (.bl<|ltN 40 a b,false) else none
def Ra(K:Ab):R2:=λx y H Q=>∃(Y:AS)(a b:D),BA K Y H x a/\BA K Y H y b/\Pl 40 a/\Pl 40 b/\Cp 40 a b/\Q (.bl<|ltN 40 a b) H
def Pi:V2 K (Ra K) qz:=by
 walk_at "0";unfold qz at e;walk_at "5";cases e;exact⟨Y,d1,d2,b1,b2,c.1,c.2.1,c.2.2,q _ H (VZ.refl H)<|.bl _⟩
def Pj(h:X.K=K)(hu:X.A.units+64<cLine):Wx X (compareOp .Lt) (Ra K):=by
 intro VU s σ H x y v u Q I rx ry ⟨Y,a,b,b1,b2,p1,p2,c,q⟩;exact RH.ltAt 40 (A:=X.A) p1 p2 c (b1.rh p1 I h rx) (b2.rh p2 I h ry) (by lia) _ _ _ _ ⟨.bl _,H,I,rfl,q⟩
inductive GT(K:Ab):V->D->Prop where
 | int (i:Int):GT K (.int i) (.int i)
 | str (x:Str):GT K (.str x) (.str x)
 | tup {a:Addr} {vs:List V} {ds:List D}:(∀H,S8 K H a vs)->vs.length=ds.length->(∀(i:Nat) v d,vs[i]?=some v->ds[i]?=some d->GT K v d)->GT K (.ref a) (.tup ds)
theorem GT.rh(h:GT K v d)(I:Inv X VU σ H s)(hK:X.K=K):∀{u:Sh},RelV v u->RH s.heap u d:=by
 induction h with
 |int i=>intro u r;obtain⟨t,rfl⟩:=r;exact .int i t
 |str x=>intro u r;obtain⟨t,rfl⟩:=r;exact .str x t
 |@tup a vs ds h1 h2 h3 ih=>
  intro u r;cases r;obtain⟨its,r,t,_⟩:=I.tuple<|hK ▸ h1 H;refine .tup t (r.length.symm.trans h2) λi u d e1 e2=>?_;walk_at "m";exact ih i v d e3 e2 rv
def U9(K:Ab)(mg:Str->Sf Sh)(x:Str)(ds:Se D):Prop:=∃a,mg x=some (.ref a)/\GT K (.ref a) (.tup ds)
def VG(K:Ab)(ds:Se D):TE:=λ_ H Q=>∀a,GT K (.ref a) (.tup ds)->Q (.ref a) H
def Rb(hg:Gl X x)(hm:U9 K X.mg x ds)(hd:(x == ("__debug__":Str))=false:=by decide):PE X (.Name x pos) (VG K ds):=by
 obtain⟨a,e,g⟩:=hm;exact λ_ _ _ H _ I q=>pj I hg e ⟨.ref a,H,I,rfl,q a g⟩ hd
open Classical in
def Rc(K:Ab)(ds:Se D):R2:=λx y H Q=>∃(Y:AS)(a:D),BA K Y H x a/\Pl 40 a/\GT K y (.tup ds)/\(∀d∈ds,Pl 40 d)/\Q (.bl<|decide<|a∈ds) H
open Classical in
theorem Pk(h:X.K=K)(hu:X.A.units+64<cLine):Wx X (compareOp .In) (Rc K ds):=by
 intro VU s σ H x y v u Q I rx ry ⟨Y,a,b1,p1,g,p2,q⟩;have r:=g.rh I h ry;cases r with
 |@tup l its _ hl hn f=>
  walk_at "w";refine Di _ hl h1 ?_;rw[h2];exact⟨.bl _,H,I,rfl,q⟩
open Classical in
def Lo(ds:Se D)(fe:FE):FE:=λst=>(fe st).bind λx=>(cont x.2 x.1).bind λd=>if Pl 40 d/\∀e∈ds,Pl 40 e then some (.d<|.bl<|decide<|d∈ds,x.2) else none
def Iy(h:SO K te fe):SO K (TQ (Rc K ds) te<|VG K ds) (Lo ds fe):=by
 intro st σ H O Z Q E r' VX h' q;refine SN h' λr1 V1 e1 h'=>(SK h' λd1 e3 h'=>?_);obtain⟨c,h'⟩:=aQ h';cases h';exact h st σ H O Z _ E r1 V1 e1 λv1 H1 O1 x1 k1 E1 rv1 w1=>λa g=>(⟨_,d1,rv1.ba E1 e3,c.1,g,c.2,q _ H1 O1 x1 k1 E1 (.bl _) True.intro⟩)
end
end VF22
namespace VF22
open PySem PySem.Spec PyProof.Rows L2 VF
section
variable {K:Ab}
def GV(K:Ab)(u:Sh)(d:D):Prop:=∃v,RelV v u/\GT K v d
inductive Yq(K:Ab):List Value->List D->Prop where
 | nil:Yq K [] []
 | cons {u:Value} {d:D} {us:List Value} {ds:List D}:GV K u d->Yq K us ds->Yq K (u::us) (d::ds)
def gv_int:GV K (.int i t) (.int i):=⟨.int i,⟨t,rfl⟩,.int i⟩
theorem Yq.ex:∀{us:Se Sh}{ds:Se D},Yq K us ds->∃vs,V0 vs us/\vs.length=ds.length/\∀(i:Nat) v d,vs[i]?=some v->ds[i]?=some d->GT K v d
 |_,_,.nil=>⟨[],.nil,rfl,λi v d h=>by simp at h⟩
 | _,_,.cons h r=>by
  obtain⟨v,h1,h2⟩:=h;obtain⟨vs,r1,r2,r3⟩:=r.ex;refine⟨v::vs,.cons h1 r1,by rw[Wc,Wc,r2],λi w d e1 e2=>?_⟩
  cases i with|zero=>cases e1;cases e2;exact h2|succ i=>exact r3 i w d (by simpa using e1) (by simpa using e2)
def gv_tup{us:Se Sh}{ds:Se D}(h1:K.lookup a=some ⟨.type "tuple",td,.seq us.toArray n,sl⟩)(h:Yq K us ds)(h4:ds.length<=1000:=by decide):GV K (.ref a) (.tup ds):=by
 obtain⟨vs,r1,r2,r3⟩:=h.ex;have h4:us.toArray.size<=sizeLine:=by
  rw[Xc,<-r1.length,r2];exact Ve h4 (by decide)
 exact⟨.ref a,rfl,.tup (λH=>.inr ⟨_,us.toArray,n,h1,rfl,rfl,h4,r1⟩) r2 r3⟩
theorem GV.glt(h:GV K (.ref a) (.tup ds))(e:mg x=some (.ref a)):U9 K mg x ds:=by
 obtain⟨v,r,g⟩:=h;cases g with
 |@tup b vs _ h1 h2 h3=>
  cases r;exact⟨a,e,.tup h1 h2 h3⟩
structure Yu(K:Ab)(x:Str)(st:Stmt)(ds:List Value):Prop where
 ex:∃f fd,Xv K x x st ds f fd/\PySem.W.nsIn K mainGlobals x=some (some<|.ref f)
def fhd{x:Str}{st:Stmt}{ds:Se Sh}{f T:Sk}{nT:Nat}{oc tc:Sh}{od an td:Sf Sk}{osl tsl:Sj (Sf Sh)}{kV doc pm cdv ct:Sh}(a:PySem.W.nsIn K mainGlobals x=some (some<|.ref f))
  (l:K.lookup f=some ⟨oc,od,.func<|PySem.W.fnOf x x (fB st) (dM st) (aq st) (.ref T) kV doc pm an cdv ct,osl⟩)(c:PySem.W.codeIn K cdv x=true)(k:PySem.W.keepIn K (.ref f)=true)(t:K.lookup T=some ⟨tc,td,.seq ds.toArray nT,tsl⟩):Yu K x st ds :=
 ⟨f,_,⟨⟨_,_,_,_,_,_,_,_,_,_,_,_,rfl,l,c,t,rfl⟩,k⟩,a⟩
def VR(x:Str)(st:Stmt)(ps:Se Str)(ds:Se Sh):Prop:=∀(T:Sk)(kV doc pm:Sh)(an:Sf Sk)(cdv ct:Sh)(us:Se Sh),(us++ds).length=ps.length->
 ∃k:Sf (Sj Sh)->Sem (Se<|Str×Sh),bindArgs (PySem.W.fnOf x x (fB st) (dM st) (aq st) (.ref T) kV doc pm an cdv ct) ⟨us,[]⟩=seqItems? (.ref T) >>= k/\k (some ds.toArray)=pure (ps.zip<|us++ds)
variable {P:Su}{w:Sx}{mg:Str->Sf Sh}{base h:Sv}{x:Str}{st:Stmt}{N ps:Se Str}{k:Nat}{F:FS}{ds:Se Sh}{dvs:Se V}
def Yu.calI(h':Yu K x st ds)(X:K.In h)(G:h.Ns mainGlobals mg)(S:VY N ps (aq st))(hb:VR x st ps ds)(hv:V0 dvs ds)(hB:SQ P w K mg base x st N k F):XY P w K mg base x (k+1) ps dvs (lZ K<|dF F N.length ps.length):=by
 obtain⟨f,fd,F',a⟩:=h'.ex;refine⟨f,fd,ds,F'.ok S (λvs H Q E h=>MP h) λcdv A outer s H vs Q E hr h=>?_,AR X G a,F'.kp,F'.binds hb,hv⟩;obtain⟨t,h1,h2⟩:=hB hr;exact⟨t,h1,su h2 h⟩
def Pm{st s:En}{r:Rs}{d:D}{ds:Se D}{b:Ss}(h:fe st=some (r,s))(h1:cont s r=some d)(h2:Pl 40 d)(h3:∀e∈ds,Pl 40 e)(h4:b=true↔d∈ds):Lo ds fe st=some (.d<|.bl b,s):=by
 classical
 simp only[Lo,h,h1,Xb];rw[Ag ⟨h2,h3⟩];have:decide (d∈ds)=b:=by
  rw[Xf,decide_eq_true_eq];exact h4.symm
 rw[<-this]
def Iz(h1:Pl 40 a)(h2:Pl 40 b)(h3:Cp 40 a b):qz a b=some (.bl<|ltN 40 a b,false):=by
 unfold qz;rw[Ag ⟨h1,h2,h3⟩]
end
section
variable (K:Ab){X:Cx}
def az(ha:PE X a ta)(hb:PE X b tb)(h:X.K=K:=by rfl)(hs:yL b:=by exact λ_ _=>rfl):PE X (.Subscript a b pos) (TQ (UT K) ta tb):=Qt (Kw h) ha hb hs
def bF(hm:X.mg "len"=none)(ha:PE X a ta)(h:X.K=K:=by rfl)(hg:Gl X "len":=by rfl)(n:jX a=true:=by rfl):PE X (.Call (.Name "len" p) [a] [] pos) (Ui (G9 K)<|gE ta rB) :=
 aW (EY h) hg hm PySem.boot_len (ao ha ae n) (by decide) (by decide) (gz n) rfl
def bD(hm:X.mg "tuple"=none)(ha:PE X a ta)(h:X.K=K:=by rfl)(c:X.calm=true:=by rfl)(hg:Gl X "tuple":=by rfl)(n:jX a=true:=by rfl):PE X (.Call (.Name "tuple" p) [a] [] pos) (Ui (uc K)<|gE ta rB) :=
 eI (vS h c) hg hm dE (ao ha ae n) (by decide) (by decide) (gz n) rfl
def cx(hm:X.mg "isinstance"=none)(ha:PE X a ta)(hb:PE X b tb)(h:X.K=K:=by rfl)(hg:Gl X "isinstance":=by rfl)(n:jX a=true:=by rfl)(n':jX b=true:=by rfl)(hpl:(backTo pos<|starEach [b] X.env).any (·.1)=false:=by rfl) :
  PE X (.Call (.Name "isinstance" p) [a,b] [] pos) (Ui (OC K)<|gE ta<|gE tb rB) :=
 aW (ud h) hg hm L2.boot_isinstance (ao ha (ao hb ae n') n) (by decide) (by decide) (gz n) hpl
def bP(ha:PE X a ta)(hb:PE X b tb)(h:X.K=K:=by rfl):PE X (.BinOp a .Add b pos) (TQ (y9 K) ta tb):=ck (zc h) ha hb
def gi(ho:Wx X (compareOp op) r)(ha:PE X a ta)(hb:PE X b tb)(h:op≠.In:=by decide)(h2:op≠.NotIn:=by decide):PE X (.Compare a [op] [b] pos) (TQ r ta tb):=mQ ho ha hb<|Gi _ h h2
def aU(ho:Wx X (compareOp op) r)(ha:PE X a ta)(hb:PE X b tb)(h:op≠.In:=by decide)(h2:op≠.NotIn:=by decide):PT X (.Compare a [op] [b] pos) (yD<|TQ r ta tb):=ig ho ha hb<|Gi _ h h2
def cc(ho:PE X o to)(ha:PE X a ta)(n:jX a=true:=by rfl)(hbase:attributeBase o "append" X.env (eval o X.env)=eval o X.env:=by rfl)
  (hfew:((backTo cpos (starEach [a] X.env)).all (λx=>!x.1)&&(backToKw cpos (keywordEach [] X.env)).all (λx=>x.1.isSome)
   && decide (([a]:Se Expr).length+([]:Se Keyword).length+(if ([]:Se Keyword).isEmpty then 0 else 1)<30))=true:=by rfl)
  (hline:(apos.endLine == cpos.line)=true:=by rfl):PE X (.Call (.Attribute o "append" apos) [a] [] cpos) (UU X.K "list" tS to (gE ta rB)) :=
 jV Au PySem.F.slot_list_append PySem.F.type_list_append EI ho (ao ha ae n) hbase hfew hline (gz n) rfl
end
end VF22
namespace VF
open PySem L2 PyProof.Rows TS PySem.SeqAt
abbrev KB:=Bool×Str
def ltB(p q:KB):Ss:=(!p.1&&q.1)||(p.1 == q.1&&Ta p.2 q.2)
def pK(x:Str):Ta x x=false:=Ae<|List.lt_irrefl _
def uC{x y z:Str}(h1:Ta x y=true)(h2:Ta y z=true):Ta x z=true:=Af<|List.lt_trans (An h1)<|An h2
def zS{x y z:Str}(h:Ta x z=true):Ta x y=true\/Ta y z=true:=by grind [Ta]
def m8(p:KB):ltB p p=false:=by
 obtain⟨b,x⟩:=p;unfold ltB;dsimp only;rw[pK];cases b<;>rfl
def m9{p q r:KB}(h1:ltB p q=true)(h2:ltB q r=true):ltB p r=true:=by
 obtain⟨a,x⟩:=p;obtain⟨b,y⟩:=q;obtain⟨c,z⟩:=r;cases a<;>cases b<;>cases c<;>simp[ltB]at h1 h2 ⊢
 ·exact uC h1 h2
 ·exact uC h1 h2
def pN{p q r:KB}(h:ltB p r=true):ltB p q=true\/ltB q r=true:=by
 obtain⟨a,x⟩:=p;obtain⟨b,y⟩:=q;obtain⟨c,z⟩:=r;cases a<;>cases b<;>cases c<;>simp[ltB]at h ⊢
 ·exact zS h
 ·exact zS h
def KH(h:Sv)(u:Sh)(p:KB):Prop:=∃a t,u=.ref a/\h.IsTuple a #[.bool p.1,.str p.2 t]
section
variable {s:Si}
def Pn(a b:Ss):decide (b2i a<b2i b)=(!a&&b):=by cases a<;>cases b<;>rfl
theorem IA{a b:Ss}(fl:Ss):sP A s fl (.bool a) (.bool b) (!a&&b):=λprog w E Q q=>by
 rw[<-Pn]at q;cases fl with
 |true=>
  rw[oneLt'_eq];simp only[if_true];refine Aa<|wpAny_cRoomFor_byValue rfl<|Aa<|wpAny_callSpecialIfBound?_slot (typeIs_bool' s a) PySem.F.slot_bool_lt<|call_gives PySem.F.slot_bool_lt (typeIs_bool' s a) PySem.F.entry_int_lt (PySem.F.args_int_lt_2 _ _) (gives_int_lt_bools a b) ?_;exact Ax q
 |false=>exact zJ (λprog w E Q h=>(lt_bool h:wpAny (model prog w) A (compareOp .Lt (.bool a)<|.bool b) Q E s)) prog w E Q q
def Lp:D->D->Ss|.bl a,.bl b=>!a&&b|.str x,.str y=>Ta x y|_,_=>false
def Po(p q:KB):Tc Lp [.bl p.1,.str p.2] [.bl q.1,.str q.2]=ltB p q:=by
 obtain⟨a,x⟩:=p;obtain⟨b,y⟩:=q;by_cases e:a=b
 ·subst e;rw[bW];by_cases e2:x=y
  ·subst e2;rw[bW,m8];rfl
  ·rw[bz (by intro z;injection z with z;exact e2 z)]
   unfold ltB;cases a<;>simp[Lp]
 ·rw[bz (by intro z;injection z with z;exact e z)]
  unfold ltB;cases a<;>cases b<;>first|exact absurd rfl e|simp[Lp]
open Classical in
def Re{u v:Sh}{p q:KB}{Q:Ss->Si->Prop}(h1:KH s.heap u p)(h2:KH s.heap v q)(hq:Q (ltB p q) s):wpAny (model prog w) A (keyLt' (tuples' true) u v) Q E s:=by
 obtain⟨a,t,rfl,ha⟩:=h1;obtain⟨b,t',rfl,hb⟩:=h2;have e1:EqAt A s (.bool p.1) (.bool q.1) (decide<|D.bl p.1=D.bl q.1):=by
  have:decide (D.bl p.1=D.bl q.1)=(p.1 == q.1):=by rw[Xf];simp
  rw[this];exact EqAt.bool_bool _ _
 have e2:EqAt A s (.str p.2 t) (.str q.2 t') (decide<|D.str p.2=D.str q.2):=by
  have:decide (D.str p.2=D.str q.2)=(p.2 == q.2):=by rw[Xf];simp
  rw[this];exact EqAt.str_str _ _ _ _
 exact zL (lt:=Lp) (ds:=[.bl p.1,.str p.2]) (es:=[.bl q.1,.str q.2]) ha hb (.cons e1 (λ_=>IA _)<|.cons e2 (λ_=>uz _)<|.left rfl) (by rw[Po];exact hq)
def cB(ks:Se KB)(g h:Nat):Ss:=ltB (ks.getD g (false,Str.empty))<|ks.getD h (false,Str.empty)
def Sa{us vs:Se Sh}{ks:Se KB}(hl:us.length=ks.length)(r:∀(i:Nat) u p,us[i]?=some u->ks[i]?=some p->KH s.heap u p) :
  Cm prog w A s (tuples' true) (λg=>(us.getD g .none,vs.getD g .none)) us.length (cB ks):=by
 refine⟨λE Q g h hg hh q=>?_,λg=>m8 _,λg h i h1 h2=>m9 h1 h2,λg h i h1=>pN h1⟩;have eg:us[g]?=some us[g]:=Za hg;have eh:us[h]?=some us[h]:=Za hh;have kg:ks[g]?=some ks[g]:=Za (by lia)
 have kh:ks[h]?=some ks[h]:=Za (by lia)
 have q':Q (ltB ks[g] ks[h]) s:=by
  unfold cB at q;rw[Yb,Yb,kg,kh]at q;exact q
 show wpAny (model prog w) A (keyLt' (tuples' true) (us.getD g .none)<|us.getD h .none) Q E s;rw[Yb,Yb,eg,eh];exact Re (r g _ _ eg kg) (r h _ _ eh kh) q'
def Sb{us:Se Sh}{ks:Se KB}(hne:us≠[])(hl:us.length=ks.length)(r:∀(i:Nat) u p,us[i]?=some u->ks[i]?=some p->KH s.heap u p){M:Model}{Q:SortKind->Si->Prop}(q:Q (tuples' true) s):wpAny M A (keyKind' us.toArray) Q E s:=by
 rw[keyKind'_eq];have hf:∀(us:Se Sh)(ks:Se KB),us.length=ks.length->(∀(i:Nat) u p,us[i]?=some u->ks[i]?=some p->KH s.heap u p)->∀Q:Se (Sf Sh)->Si->Prop,Q (ks.map λp=>some<|.bool p.1) s->wpAny M A (us.mapM firstOfTuple') Q E s:=λus=>by
  induction us with
  |nil=>
   intro ks hl _ Q q;obtain rfl:ks=[]:=Xe hl.symm;rw[DK];exact Ad q
  |cons u us ih=>
   intro ks hl r Q q;cases ks with
   |nil=>simp at hl
   |cons p ks=>
    rw[DD];obtain⟨a,t,rfl,ht⟩:=r 0 u p rfl rfl;exact Aa<|sQ (its:=[.bool p.1,.str p.2 t]) ht rfl<|Aa<|ih ks (by simpa using hl) (λi u p e1 e2=>r (i+1) u p (by simpa using e1)<|by simpa using e2) _<|Ad q
 rw[Db,Dg];refine Aa<|Aa<|hf us ks hl r _<|Ad ?_;have hnk:ks≠[]:=λz=>by
  rw[z]at hl;exact hne<|Xe hl
 rw[Ag<|by simp]
 refine Aa<|AF ?_;have e1:(ks.map λp=>some<|Value.bool p.1).toArray.filterMap id=(ks.map λp=>Value.bool p.1).toArray:=by
  rw[show(ks.map λp=>some<|Value.bool p.1)=(ks.map λp=>Value.bool p.1).map some by rw[Zf];rfl]
  simp
 rw[e1,oneTypeOnly'_eq];refine Aa<|Aa<|uA (g:=λ_=>Value.type "bool") (λv hv Q q=>?_) ?_
 ·obtain⟨p,_,rfl⟩:=Qc.mp hv;exact Bk (typeIs_bool' s p.1) q
 ·cases ks with
  |nil=>exact absurd rfl hnk
  |cons p ks=>
   have h0:(List.map (λ_=>Value.type "bool")<|List.map (λp:KB=>Value.bool p.1) (p::ks)).toArray[0]?=some (Value.type "bool"):=by simp
   rw[h0];have hall:((List.map (λ_=>Value.type "bool")<|List.map (λp:KB=>Value.bool p.1) (p::ks)).toArray.all λx=>x == Value.type "bool")=true:=by
    simp only[List.all_toArray,De,Vj];intro _ _;exact Dh _
   dsimp only;rw[hall,Ag rfl];exact Ad<|Ad q
end
end VF
namespace VF
open PySem L2 PyProof.Rows TS
section
variable {s:Si}
def qA{a kS:Sk}{vs:Se Sh}{ks:Se KB}{kA:Sj Sh}{e e1:Nat}{st:SortSt}{γ:Sj Nat}{P:Fin->Si->Prop}(hka:kS≠a)
  (g1:s.heap.get? kS=some (seqObj "list" kA e))(g2:s.heap.get? a=some (seqObj "list" #[] e1))(hz:vs.length<=sizeLine)(hk:kA.size=vs.length)
  (hf:failedOf st=none) (ha:(arrOf st).map (·.2)=bR vs γ) (hp:γ.Perm (Array.range vs.length))
  (fin:∀tk,P (.done<|.ret .none) { s with heap:=(s.heap.update kS<|Obj.mapSeq λ_=>#[]).update a (Obj.mapSeq λ_=>bR vs γ),toks:=tk }) :
  wpAny (model prog w) A (ksk_tail a false e1 (.ref kS) st) P E s:=by
 have na1:(s.heap.update kS<|Obj.mapSeq λ_=>(#[]:Sj Sh)).get? a=some (seqObj "list" #[] e1):=((AH s.heap kS<|Obj.mapSeq λ_=>(#[]:Sj Sh)).2 a hka.symm).trans g2;have hsz:(bR vs γ).size=vs.length:=by
  unfold bR;rw[CK,hp.size_eq,Zl]
 unfold ksk_tail;dsimp only;refine Aa<|Bb g1 rfl (Aa<|Dr<|Aa<|CH na1 rfl ?_) (by rw[hk];lia)<|Vh _
 refine Aa (Bb na1 rfl ?_ (Vh _) (by
  show(if false=true then((arrOf st).map (·.2)).reverse else(arrOf st).map (·.2)).size<=_
  rw[Ak Bool.noConfusion,ha,hsz];lia))
 rw[hf];simp only[C1,Wf,if_false];rw[ha];exact Ad<|fin _
def Fp{a kS : Sk}{vs : Se Sh}{ks : Se KB}{kA : Sj Sh}{e e1 : Nat}{P : Fin → Si → Prop}(hka : kS ≠ a)
    (g1 : s.heap.get? kS = some (seqObj "list" kA e))(g2 : s.heap.get? a = some (seqObj "list" #[] e1))(hz : vs.length ≤ sizeLine)(hk : kA.size = vs.length)(hl : ks.length = vs.length)
    (r : ∀ (i : Nat) u p, kA[i]? = some u → ks[i]? = some p → KH s.heap u p)
    (fin : ∀ (γ : Sj Nat) tk, γ.Perm (Array.range vs.length) → Sg (cB ks) γ 0 vs.length → P (.done<|.ret .none) { s with heap := (s.heap.update kS<|Obj.mapSeq λ_ => #[]).update a (Obj.mapSeq λ_ => bR vs γ), toks := tk }) :
    wpAny (model prog w) A (ksk_end a false vs.toArray e1 (.ref kS) kA) P E s := by
  obtain ⟨us, rfl⟩ : ∃ us : Se Sh, kA = us.toArray := ⟨kA.toList, by simp⟩
  rw [B2] at hk;have r' : ∀ (i : Nat) u p, us[i]? = some u → ks[i]? = some p → KH s.heap u p := λi u p e1 e2 => r i u p (by simpa using e1) e2
  have e0 : us.toArray.zip vs.toArray = (Array.range vs.length).map λg => (us.getD g .none, vs.getD g .none) := by
    apply Array.ext_getElem?
    intro i;rw [Bq, BK];by_cases hi : i < vs.length
    · rw [Ag hi]
      have hi' : i < us.length := by lia
      simp [hi, hi'];rw [BZ];exact ⟨B8 hi', B8 hi⟩
    · rw [Ak hi]
      simp [hi];lia
  unfold ksk_end;dsimp only;simp only [BY, if_false];by_cases few : vs.toArray.size < 2
  · rw [Ag few, Ag few]
    refine Aa<|Ad ?_;rw [StateT.run_pure];refine Aa<|Ad ?_;dsimp only;rw [B2] at few;refine qA (ks := ks) (γ := Array.range vs.length) hka g1 g2 hz (by simpa using hk) rfl ?_ (Array.Perm.refl _) λtk => fin _ tk (Array.Perm.refl _) λi j g h z1 z2 z3 => by lia
    show (us.toArray.zip vs.toArray).map (·.2) = _;rw [e0, CQ]; rfl
  · rw [Ak few, Ak few]
    rw [B2] at few;have hne : us ≠ [] := λz => few (by rw [z] at hk; simp at hk; lia)
    refine Aa<|Sb hne (by lia) r' ?_
    have C : Cm prog w A s (tuples' true) (λg => (us.getD g .none, vs.getD g .none)) us.length (cB ks) := Sa (by lia) r'
    rw [hk] at C
    refine Aa (Ay (zy (st := SortSt.mk' (tuples' true) (us.toArray.zip vs.toArray) #[] 7 none) C (γ := Array.range vs.length) ⟨e0, rfl, rfl, Array.Perm.refl _⟩ rfl (λi _ z => by rw [BK, Ag z])
      (Q := λ_ VX => ∃ γ, Rp (tuples' true) (λg => (us.getD g .none, vs.getD g .none)) vs.length VX γ ∧ Sg (cB ks) γ 0 vs.length) λVX γ' R g => ⟨γ', R, g⟩) ?_ λ_ _ e => e)
    rintro ⟨⟨⟩, VX⟩ s' ⟨rfl, γ, R, g⟩;dsimp only;refine qA (ks := ks) (γ := γ) hka g1 g2 hz (by simpa using hk) R.fine ?_ R.perm λtk => fin γ tk R.perm g
    rw [R.arr, CQ]; rfl
def xM{a kS:Sk}{f:Sh}{vs:Se Sh}{ks:Se KB}{e1:Nat}{P:Fin->Si->Prop}(hka:kS≠a)(hz:vs.length<=sizeLine)(hl:ks.length=vs.length)(J:Nat->Sj Sh->Si->Prop)
  (hJ:∀i kA s',J i kA s'->(∃e,s'.heap.get? kS=some (seqObj "list" kA e))/\s'.heap.get? a=some (seqObj "list" #[] e1)/\kA.size=i)
  (turn:∀i kA v s',vs[i]?=some v->J i kA s'->wpAny (model prog w) A (call f [v]) (λu s''=>(∃e,s''.heap.get? kS=some (seqObj "list" kA e))/\J (i+1) (kA.push u) { s'' with heap:=s''.heap.update kS (Obj.mapSeq (·.push u)) }) (λ_ _=>False) s')
  (keys:∀kA s',J vs.length kA s'->∀(i:Nat) u p,kA[i]?=some u->ks[i]?=some p->KH s'.heap u p)
  (fin:∀kA s' (γ:Sj Nat) tk,J vs.length kA s'->γ.Perm (Array.range vs.length)->Sg (cB ks) γ 0 vs.length->P (.done<|.ret .none) { s' with heap:=(s'.heap.update kS<|Obj.mapSeq λ_=>#[]).update a (Obj.mapSeq λ_=>bR vs γ),toks:=tk })
  (h0:J 0 #[] s):wpAny (model prog w) A (ksk_rest a f false vs.toArray e1<|.ref kS) P E s:=by
 unfold ksk_rest;refine Aa<|AF ?_
 first
  | rw[List.forIn_toArray]
  | (rw[<-Array.forIn_toList];simp only[List.toList_toArray])
  | rw[<-Array.forIn_toList]
 refine Aa<|ksk_fold (λi s'=>∃kA,J i kA s') vs 0 s ⟨#[],h0⟩ ?step ?done
 case step=>
  rintro j x s' hx ⟨kA,hj⟩;rw[DR]at hj ⊢;have hjl:j<vs.length:=(Vb.mp hx).1;obtain⟨_,_,hks⟩:=hJ _ _ _ hj;refine Aa<|AQ<|Ay (turn j kA x s' hx hj) (λu s'' he=>?_) λ_ _ hF=>hF.elim;obtain⟨⟨e,g1⟩,hj'⟩:=he;dsimp only;exact Aa<|Bb g1 rfl (Ad ⟨rfl,kA.push u,hj'⟩) (by lia)<|Ve (DS<|Array.size_push ..)<|by lia
 case done=>
  rintro s' ⟨kA,hj⟩;rw[DR]at hj;obtain⟨⟨e,g1⟩,g2,hks⟩:=hJ _ _ _ hj;exact Aa<|Bl g1 rfl<|Fp hka g1 g2 hz hks hl (keys kA s' hj) λγ tk p g=>fin kA s' γ tk hj p g
end
section
variable {X:Cx}{s:Si}
def Rf{H0:Hp}{kS a:Sk}{oa ok ok':Obj}{φ:Obj->Obj}{t:Nat}(I:L2.Inv X (VU++[(kS,ok),(a,oa)]) σ H s)(fk:jR X VU H0 kS)(hka:kS≠a)(hg:(s.heap.update kS φ).get? kS=some ok')(hc:∀v,ok'.data≠.cell v) :
  L2.Inv X (VU++[(kS,ok'),(a,oa)]) σ H { s with heap:=s.heap.update kS φ,toks:=t }:=by
 obtain⟨_,f1,f2,f3,f4,f5⟩:=fk;have pk:=I.pin (kS,ok) (by simp)
 have pa:=I.pin (a,oa) (by simp)
 have old:∀p∈VU,s.heap.get? p.1=some p.2/\H p.1=none/\p.1≠X.env.locals/\p.1∉X.fs/\∀v,p.2.data≠.cell v:=λp hp=>I.pin p<|Vd _<|Yg _ hp;have I1:L2.Inv X (VU++[(a,oa)]) σ H s:=I.pins_of λp hp=>by
  rcases Qb.mp hp with z|z
  ·exact old p z
  ·rw[Wa.mp z];exact pa
 have I2:=I1.turned (t':=t) (it:=kS) (h':=s.heap.update kS φ) (λb o hb e=>(AB _ _ _ _ hb).trans e) pk.2.1 f1 f3 f4 λp hp=>by
  rcases Qb.mp hp with z|z
  ·exact f5 p<|Yg _ z
  ·rcases Qb.mp z with z|z
   ·exact f5 p<|Vd _ z
   ·rw[Wa.mp z];exact hka.symm
 refine I2.pins_of λp hp=>?_;rcases Qb.mp hp with z|z
 ·exact I2.pin p<|Vd _<|Yg _ z
 ·rcases Vc.mp z with rfl|z
  ·exact⟨hg,pk.2.1,f1,f2,hc⟩
  ·rw[Wa.mp z];exact I2.pin (a,oa) (by simp)
def tracked{H0:Hp}{kS a:Sk}{oa ok:Obj}{h':Sv}{ws:Se V}{t:Nat}(I:L2.Inv X (VU++[(kS,ok),(a,oa)]) σ H s)(fk:jR X VU H0 kS)(fa:jR X VU H0 a)
  (k:∀b o,b≠kS->b≠a->s.heap.get? b=some o->h'.get? b=some o)(new:V3 X.prog X.w (upd H a<|.lst ws) h' a (.lst ws)) :
  L2.Inv X VU σ (upd H a<|.lst ws) { s with heap:=h',toks:=t }:=by
 obtain⟨_,f1,f2,f3,f4,f5⟩:=fk;obtain⟨_,g1,g2,g3,g4,g5⟩:=fa;have pk:=I.pin (kS,ok) (by simp)
 have pa:=I.pin (a,oa) (by simp)
 have I1:L2.Inv X VU σ H s:=I.pins_of λp hp=>I.pin p<|Vd _<|Yg _ hp;have nk:H kS=none:=pk.2.1;have na:H a=none:=pa.2.1;have ne:∀b u,H b=some u->b≠a:=λb u e z=>by rw[z,na]at e;cases e
 have nek:∀b u,H b=some u->b≠kS:=λb u e z=>by rw[z,nk]at e;cases e
 have two:∀b,b∉[kS,a]->b≠kS/\b≠a:=λb hb=>⟨λz=>hb<|by simp[z],λz=>hb<|by simp[z]⟩
 refine I1.step (g':=s.gens) (d':=s.drawn) (ch:=[kS,a]) (λb hb=>?_) (λb o _ _ hc e _=>k b o (two b hc).1 (two b hc).2 e) (λb o _ _ hc e _=>⟨o.slots,k b o (two b hc).1 (two b hc).2 e⟩) (λb o hc _ n=>by rw[aV (two b hc).2];exact n)
  (λb o hc e=>⟨o,k b o (two b hc).1 (two b hc).2 e⟩) (λb xs e=>by rw[aV<|ne b _ e];exact e) (λb o u e=>by rw[aV<|ne b _ e];exact e) (λb ps e=>⟨#[],by rw[aV<|ne b _ e,e];simp⟩) (λm hm=>?_) (λb u e=>?_) I1.bare
 ·rcases Vc.mp hb with rfl|hb
  ·exact⟨f3,f1,f4,f5⟩
  ·obtain rfl:=Wa.mp hb;exact⟨g3,g1,g4,g5⟩
 ·obtain⟨o,es,ep,ho,r⟩:=hm;exact⟨o,es,ep,k _ o (Az f1) (Az g1) ho,r⟩
 ·by_cases hb:b=a
  ·subst hb;rw[bH]at e;cases e;exact new
  ·rw[aV hb]at e;refine(I1.hok b u e).stay (λc v hc q=>?_) (λc q=>by rw[aV<|ne c _ q];exact q) λc xs q=>by rw[aV<|ne c _ q];exact q
   rcases hc with z|z
   ·rw[z]at q ⊢;exact k b v (nek b u e) hb q
   ·exact k c v (nek c _ z) (ne c _ z) q
end
section
variable {X:Cx}{K:Ab}{VU:Se (Sk×Obj)}{σ:L2.St}{H:Hp}{s:Si}
def keyD(p:KB):D:=.tup [.bl p.1,.str p.2]
theorem Rg{Z:AS}{v:V}{u:Sh}{p:KB}(h:X.K=K)(I:L2.Inv X VU σ H s)(da:DA K Z H v (keyD p))(ru:RelV v u):KH s.heap u p:=by
 obtain⟨a,xs,rfl,sq,el⟩:=(show BA K Z H v (.tup [.bl p.1,.str p.2]) from da.ba);cases ru;obtain⟨its,r,t,_⟩:=I.tuple<|h ▸ sq.sq;obtain⟨v1,r1,rfl,d1,el⟩:=el.uncons;obtain⟨v2,r2,rfl,d2,el⟩:=el.uncons;obtain rfl:=el.unnil;obtain rfl:v1=V.bl p.1:=d1.ba;obtain rfl:v2=V.str p.2:=d2.ba;cases r with
 |cons a1 r=>
  cases r with
  |cons a2 r=>
   cases r;obtain rfl:=(show _=Value.bool p.1 from a1);obtain⟨tt,rfl⟩:=(show ∃t,_=Value.str p.2 t from a2);exact⟨a,tt,rfl,t⟩
inductive SJ(X:Cx)(K:Ab)(VU:List (Addr×Obj))(σ:L2.St)(H:Hp)(a:Addr)(e1:Nat)(ks:List KB)(Z:AS)(i:Nat)(kA:Array Value)(s':Shared):Prop
 | mk (Hi:Hp) (e:Nat) (VV:List V) (I:L2.Inv X (VU++[(a+2,seqObj "list" kA e),(a,seqObj "list" #[] e1)]) σ Hi s') (sm:VZ H Hi) (hsz:kA.size=i) (rk:V0 VV kA.toList) (hd:∀(j:Nat) v p,VV[j]?=some v->ks[j]?=some p->DA K Z Hi v (keyD p))
def Rh{X:Cx}{VU:Se (Sk×Obj)}{σ:L2.St}{Hi:Hp}{s':Si}{p q:Sk×Obj}(I:L2.Inv X (VU++[p,q]) σ Hi s'):s'.heap.get? p.1=some p.2:=(I.pin p<|Vd _<|Vd _<|.head _).1
def Ri{X:Cx}{VU:Se (Sk×Obj)}{σ:L2.St}{Hi:Hp}{s':Si}{p q:Sk×Obj}(I:L2.Inv X (VU++[p,q]) σ Hi s'):s'.heap.get? q.1=some q.2/\Hi q.1=none:=by
 have:=I.pin q<|Vd _<|Vd _<|.tail _<|.head _;exact⟨this.1,this.2.1⟩
def xO{k:Nat}{f l:Sk}{fd:FuncData}{x:Str}{g:Se D->Sf Rz}{Q:VK}(h:X.K=K)(F:WH X.prog X.w X.K X.mg X.base Tu k f fd [x] (SR K g))(hr:Ww (k+2) X.A)(hb:Binds X.K fd [x] [])
  (I:L2.Inv X VU σ H s){Z:AS}{vs:Se V}{ds:Se D}{ks:Se KB}(sq:SW K H l vs)(el:El K Z H vs ds)(lv:∀p,Z p->Lv H p)(hk:ks.length=ds.length)(hg:∀(i:Nat) d p,ds[i]?=some d->ks[i]?=some p->g [d]=some (keyD p,false))
  (q:∀(γ:Sj Nat)(H':Hp)(p:Sk)(ws:Se V),γ.Perm (Array.range ds.length)->Sg (cB ks) γ 0 ds.length->VZ H H'->H' p=none->El K Z H' ws (γ.toList.map<|dk ds)->Q (.ref p) (upd H' p<|.lst ws)) :
  wpAny (model X.prog X.w) X.A (call (.builtin "sorted") [.ref l] [(Str.ofString "key",.ref f)]) (EP X VU σ Q) X.xe s:=by
 obtain⟨its,r,pl,hz⟩:=I.list<|h ▸ sq;have hn:its.length=ds.length:=r.length.symm.trans el.1;have hz':its.length<=sizeLine:=by rw[<-r.length];exact hz
 refine call_function_entry_kw kind_sorted plain_sorted entry_sorted (ksk_s1 _ _) ?_;unfold Builtin.«sorted»;refine Aa (m:=checkCount "sorted" 1 1 _)<|Ad<|Aa<|collect_list pl.isList (Aa<|BG ?_ hz') hz';generalize hg1:(s.heap.push<|seqObj "list" #[] 0).update s.heap.objs.size (Obj.mapSeq (·++its.toArray))=h1;have z1:h1.objs.size=s.heap.objs.size+1:=by rw[<-hg1,Dq,size_push']
 have old1:∀b o,s.heap.get? b=some o->h1.get? b=some o:=λb o e=>by
  rw[<-hg1];exact(AB _ _ _ _<|Zh<|Aj e).trans (Ac _ e)
 generalize ha:s.heap.objs.size+1=a at z1;have mine:(h1.push<|seqObj "list" its.toArray 0).get? a=some (seqObj "list" its.toArray 0):=by rw[<-z1];exact Ah _ rfl
 show wpAny _ _ _ _ _ { s with heap:=h1.push (seqObj "list" its.toArray 0) };rw[z1];refine Aa<|AD<|wpAny_call_entry_kw slot_list_sort ⟨_,mine,rfl⟩ entry_list_sort ?body<|ksk_l1 _ _;show wpAny (model X.prog X.w) X.A.in1.in1 (Builtin.«list.sort» ⟨[.ref a],[(Str.ofString "key",.ref f)]⟩) _ _ _;rw[ksk_t1];generalize hh2:h1.push (seqObj "list" its.toArray 0)=h2 at mine;have z2:h2.objs.size=a+1:=by rw[<-hh2,size_push',z1]
 have old2:∀b o,s.heap.get? b=some o->h2.get? b=some o:=λb o e=>by rw[<-hh2];exact Ac _<|old1 b o e
 unfold ksk_tree;refine Aa<|Bl mine rfl<|Aa<|Bb mine rfl ?_ (by rw[Xc];lia)<|Vh _
 obtain⟨e1,hE⟩:∃e1,(h2.update a (Obj.mapSeq λ_=>#[])).get? a=some (seqObj "list" #[] e1):=⟨_,BL mine<|λ_=>#[]⟩;refine Aa<|CH hE rfl<|Aa<|Dw (Aa<|BG (AD ?_)<|Vh _) (by show its.length<=_;lia)
 have hT:((h2.update a<|Obj.mapSeq λ_=>#[]).push (seqObj "tuple" its.toArray 0)).objs.size=a+2:=by rw[size_push',Dq,z2]
 generalize hh3:((h2.update a<|Obj.mapSeq λ_=>#[]).push (seqObj "tuple" its.toArray 0)).push (seqObj "list" #[] 0)=h3;have gk:h3.get? (a+2)=some (seqObj "list" #[] 0):=by rw[<-hh3,<-hT];exact Ah _ rfl
 have ga:h3.get? a=some (seqObj "list" #[] e1):=by rw[<-hh3];exact Ac _<|Ac _ hE
 have hbig:s.heap.objs.size<=a:=by lia
 have old3:∀b o,s.heap.get? b=some o->h3.get? b=some o:=λb o e=>by
  rw[<-hh3];refine Ac _<|Ac _ ?_;have:=Aj e;exact(AB _ _ _ _<|Zh<|Qd this hbig).trans (old2 b o e)
 have hbig2:s.heap.objs.size<=a+2:=Ve hbig<|Wm _ _;have fk:jR X VU H (a+2):=I.fpOk hbig2<|I.hok.fresh hbig2;have fa:jR X VU H a:=I.fpOk hbig<|I.hok.fresh hbig;have hka:a+2≠a:=by lia
 have I3:L2.Inv X (VU++[(a+2,seqObj "list" #[] 0),(a,seqObj "list" #[] e1)]) σ H { s with heap:=h3 }:=by
  refine(I.kept (t':=s.toks) old3).pins_of λp hp=>?_;rcases Qb.mp hp with z|z
  ·exact(I.kept (h':=h3) (t':=s.toks) old3).pin p (Vd _ z)
  ·rcases Vc.mp z with rfl|z
   ·exact⟨gk,fk.1,fk.2.1,fk.2.2.1,λv z=>by cases z⟩
   ·rw[Wa.mp z];exact⟨ga,fa.1,fa.2.1,fa.2.2.1,λv z=>by cases z⟩
 show wpAny (model X.prog X.w) X.A.in1.in1 (ksk_rest a (.ref f) false its.toArray e1<|.ref<|((h2.update a<|Obj.mapSeq λ_=>#[]).push (seqObj "tuple" its.toArray 0)).objs.size) _ _ { s with heap:=h3 };rw[hT];refine xM (ks:=ks) hka hz' (by lia) (SJ X K VU σ H a e1 ks Z) ?hJ ?turn ?keys ?fin ⟨H,0,[],I3,VZ.refl H,rfl,.nil,λj v p e=>by simp at e⟩
 case hJ=>
  rintro i kA s' ⟨Hi,e,VV,Ii,_,hsz,_⟩;exact⟨⟨e,Rh Ii⟩,(Ri Ii).1,hsz⟩
 case keys=>
  rintro kA s' ⟨Hi,e,VV,Ii,_,hsz,rk,hd⟩ i u p e2 e3;obtain⟨v,e4,rv⟩:=dw rk i u (by simpa using e2)
  exact Rg h Ii (hd i v p e4 e3) rv
 case turn=>
  rintro i kA v s' hv ⟨Hi,e,VV,Ii,sm,hsz,rk,hd⟩;have hi:i<its.length:=(Vb.mp hv).1;obtain⟨vv,e4,rv⟩:=dw r i v hv;obtain⟨d,e5⟩:∃d,ds[i]?=some d:=⟨_,Za<|by lia⟩
  obtain⟨p,e6⟩:∃p,ks[i]?=some p:=⟨_,Za<|by lia⟩
  have da:DA K Z Hi vv d:=(el.2 i vv d e4 e5).same sm;have hsp:SR K g [vv] Hi (λv H'=>VZ Hi H'/\DA K Z H' v (keyD p)) E0:=⟨Z,[d],(keyD p,false),El.one da,λb zb=>(lv b zb).same (sm b),hg i d p e5 e6,λv H' s2 res=>⟨s2,res⟩⟩;refine wpAny_call<|C0 (F.run X.A.in1.in1 X.stack s' Hi ⟨[v],[]⟩ [v] [vv] _ E0 hr.in1.in1 Ii.env0.in1.in1 (hb s' [v] Ii.kIn rfl) (.cons rv .nil) hsp) λrr s'' hq=>?_;cases rr with
  |error e=>exact hq.elim
  |ok fl=>
   cases fl with
   |next=>exact False.elim hq
   |brk=>exact False.elim hq
   |cont=>exact False.elim hq
   |ret u=>
    obtain⟨nv,Hn,In,ru,sm2,dn⟩:=Ii.after hq;have gk2:s''.heap.get? (a+2)=some (seqObj "list" kA e):=Rh In;refine⟨⟨e,gk2⟩,?_⟩;obtain⟨e',ge⟩:∃e',(s''.heap.update (a+2) (Obj.mapSeq (·.push u))).get? (a+2)=some (seqObj "list" (kA.push u) e'):=⟨_,BL gk2 (·.push u)⟩;refine⟨Hn,e',VV++[nv],Rf (t:=s''.toks) In fk hka ge (λv z=>by cases z),λb o eb=>sm2 b o<|sm b o eb,by rw[Array.size_push,hsz],?_,λj v p' e7 e8=>?_⟩
    ·rw[Array.toList_push];exact rk.append<|.cons ru .nil
    ·have hlk:VV.length=i:=by rw[rk.length,Zd,hsz]
     by_cases hj:j<VV.length
     ·rw[Xh hj]at e7;exact(hd j v p' e7 e8).same sm2
     ·rw[Qf<|by lia]at e7
      have hj0:j-VV.length=0:=by
       have:=(Vb.mp e7).1;rw[Vf]at this;lia
      rw[hj0]at e7;have e9:nv=v:=by simpa using e7
      have e10:j=i:=by lia
      subst e9 e10;rw[e6]at e8;cases e8;exact dn
 case fin=>
  rintro kA s' γ tk ⟨Hi,e,VV,Ii,sm,hsz,rk,hd⟩ p gS;refine⟨_,rfl,Ad ⟨_,rfl,?_⟩⟩;rw[hn]at p gS;have hγ:∀g∈γ.toList,g<ds.length:=λg hg=>by
   have:=(Yh.mp p).mem_iff.mp hg;rw[AJ]at this;exact Zn.mp this
  have vw:∀l:Se Nat,(∀g∈l,g<ds.length)->V0 (l.map λg=>vs.getD g .non) (l.map λg=>its.getD g .none):=λl=>by
   induction l with
   |nil=>exact λ_=>.nil
   |cons g l ih=>
    intro hl;have hgd:g<ds.length:=hl g Zc;have a1:its[g]?=some its[g]:=Za (by lia)
    obtain⟨v,e3,rv⟩:=dw r g _ a1;refine .cons ?_<|ih λx hx=>hl x<|Wb _ hx;show RelV (vs.getD g .non) (its.getD g .none);rw[Yb,Yb,e3,a1];exact rv
  obtain⟨ga2,na2⟩:=Ri Ii;have na1:(s'.heap.update (a+2)<|Obj.mapSeq λ_=>(#[]:Sj Sh)).get? a=some (seqObj "list" #[] e1):=((AH s'.heap (a+2)<|Obj.mapSeq λ_=>(#[]:Sj Sh)).2 a hka.symm).trans ga2;obtain⟨e2,ge⟩:∃e2,((s'.heap.update (a+2) (Obj.mapSeq λ_=>#[])).update a (Obj.mapSeq λ_=>bR its γ)).get? a=some (seqObj "list" (bR its γ) e2):=⟨_,BL na1<|λ_=>bR its γ⟩;have elw:El K Z Hi (γ.toList.map λg=>vs.getD g .non) (γ.toList.map<|dk ds):=by
   refine⟨by simp,λi v d h1 h2=>?_⟩
   rw[Xd]at h1 h2;obtain⟨g1,k1,k2⟩:=Wd.mp h1;obtain⟨g2,k3,k4⟩:=Wd.mp h2;rw[k1]at k3;cases k3;have hgd:g1<ds.length:=hγ g1<|Va k1;have d1:ds[g1]?=some ds[g1]:=Za hgd;obtain⟨v',e3,da⟩:=el.at d1;rw[oD d1]at k4;rw[Yb,e3]at k2;subst k4;have:v'=v:=k2;subst this;exact da.same sm
  have hlw:(γ.toList.map λg=>vs.getD g .non).length<=sizeLine:=by rw[Ya,Zd,p.size_eq,Zl];lia
  refine⟨.ref a,upd Hi a<|.lst<|γ.toList.map λg=>vs.getD g .non,tracked (t:=tk) Ii fk fa (λb o n1 n2 eb=>(AB _ _ _ _ n2).trans ((AB _ _ _ _ n1).trans eb)) ⟨hlw,(bR its γ).toList,e2,?_,by simpa using ge⟩,rfl,q γ Hi a _ p gS sm na2 elw⟩
  have e3:(bR its γ).toList=γ.toList.map λg=>its.getD g .none:=by unfold bR;simp
  rw[e3];exact vw _ hγ
end
section
variable {X:Cx}{K:Ab}
open Classical in
def oE(ks:Se KB)(ds:Se D):Se D:=if h:∃γ:Sj Nat,γ.Perm (Array.range ds.length)/\Sg (cB ks) γ 0 ds.length then h.choose.toList.map (dk ds) else []
def uD{c:Nat->Nat->Ss}{γ:Sj Nat}{n:Nat}(hn:γ.size=n)(g:Sg c γ 0 n):γ.toList.Pairwise (Bf c):=by
 rw[Qi];intro i j hi hj hij;rw[Zd]at hi hj;exact g i j γ.toList[i] γ.toList[j] (Vh _) hij (by lia) (by rw[<-Xg];exact Za _) (by rw[<-Xg];exact Za _)
def wo{ks:Se KB}{ds:Se D}{γ:Sj Nat}(p:γ.Perm (Array.range ds.length))(g:Sg (cB ks) γ 0 ds.length):γ.toList.map (dk ds)=oE ks ds:=by
 have ex:∃γ:Sj Nat,γ.Perm (Array.range ds.length)/\Sg (cB ks) γ 0 ds.length:=⟨γ,p,g⟩;have e:oE ks ds=ex.choose.toList.map (dk ds):=by unfold oE;rw[dif_pos ex]
 obtain⟨p2,g2⟩:=ex.choose_spec;rw[e];congr 1;have s1:=uD (by rw[p.size_eq,Zl]) g
 have s2:=uD (by rw[p2.size_eq,Zl]) g2
 refine((Yh.mp p).trans (Yh.mp p2).symm).eq_of_pairwise (λa b _ _ h1 h2=>?_) s1 s2;have asy:∀x y,cB ks x y=true->cB ks y x=true->False:=λx y z1 z2=>by
  have:=m9 z1 z2;rw[m8]at this;cases this
 rcases h1 with h1|h1
 ·rcases h2 with h2|h2
  ·exact(asy _ _ h1 h2).elim
  ·rw[h2.1]at h1;cases h1
 ·rcases h2 with h2|h2
  ·rw[h1.1]at h2;cases h2
  ·lia
def Pp:Sf Rz->Sf KB|some (.tup [.bl b,.str x],false)=>some (b,x)|_=>none
def Lq{z:Sf Rz}{p:KB}(h:Pp z=some p):z=some (keyD p,false):=by
 unfold Pp at h;split at h
 ·cases h;rfl
 ·cases h
def keysOf(g:Se D->Sf Rz):Se D->Sf (Se KB)|[]=>some []|d::ds=>(Pp<|g [d]).bind λp=>(keysOf g ds).bind λps=>some (p::ps)
theorem sU{g:Se D->Sf Rz}:∀{ds:Se D}{ks:Se KB},keysOf g ds=some ks->ks.length=ds.length/\∀(i:Nat) d p,ds[i]?=some d->ks[i]?=some p->g [d]=some (keyD p,false)
 |[],ks,h=>by cases h;exact⟨rfl,λi d p e=>by simp at e⟩
 | d::ds,ks,h=>by
  refine SK h λp e1 h=>(SK h λps e2 h=>?_);cases h;obtain⟨l,r⟩:=sU e2;refine⟨by rw[Wc,Wc,l],λi d' p' a b=>?_⟩
  cases i with
  |zero=>
   have a1:d=d':=by simpa using a
   have a2:p=p':=by simpa using b
   subst a1 a2;exact Lq e1
  |succ i=>exact r i d' p' (by simpa using a) (by simpa using b)
def xP(g:Se D->Sf Rz):Se D->Sf Rz
 |[.lst ds]=>(keysOf g ds).bind λks=>some (.lst<|oE ks ds,true)
 |_=>none
def IB(K:Ab)(g:Se D->Sf Rz):Se V->Hp->VK->Prop:=λxs H Q=>∃(l:Sk)(Z:AS)(vs:Se V)(ds:Se D)(ks:Se KB),xs=[.ref l]/\SW K H l vs/\El K Z H vs ds/\(∀p,Z p->Lv H p)/\keysOf g ds=some ks /\
 ∀(H':Hp)(p:Sk)(ws:Se V),VZ H H'->H' p=none->El K Z H' ws (oE ks ds)->Q (.ref p) (upd H' p<|.lst ws)
theorem IC{g:Se D->Sf Rz}:WC K (IB K g) (xP g):=by
 walk_at "7";cases bs with
 |nil=>cases e
 |@cons v vs d ds b1 bs=>
  cases bs with
  |cons _ _=>cases d<;>cases e
  |nil=>
   cases d with
   |lst es=>
    refine SK e λks e1 e=>?_;cases e;obtain⟨p,ws,rfl,hp,el⟩:=b1;refine⟨p,Y,ws,es,ks,rfl,.inl<|.inl hp,el,lv,e1,λH' p' ws' sm hn el'=>q _ _ (λb o eb=>(bq hn _) b o (sm b o eb)) ?_⟩;have hH:H p'=none:=by
     cases e7:H p' with|none=>rfl|some o=>rw[sm p' o e7]at hn;cases hn
    obtain⟨p2,a1,_,a3⟩:=gf (K:=K) (Y:=Y) el' hn;exact⟨p2,a1,by cases a1;exact hH,a3⟩
   |_=>cases e
def ID{x y:Str}{k k':Nat}{g:Se D->Sf Rz}{e:Expr}{es:Se Expr}{t:TA}{p p2 kp pos:Pos}(h:X.K=K)(C:Wy X.prog X.w X.K X.mg X.base x k [y] (SR K g))(hr:Ww k' X.A)(hgs:Gl X "sorted")(hms:X.mg "sorted"=none)(hgf:Gl X x)(ha:PA X (e::es) t)(hk:k+2<=k':=by decide)
  (hdb:(x == ("__debug__":Str))=false:=by decide)
  (he:backTo pos (starEach (e::es) X.env)=(false,eval e X.env)::backTo pos (starEach es X.env):=by rfl) (hpl:(backTo pos<|starEach (e::es) X.env).any (·.1)=false:=by rfl) :
  PE X (.Call (.Name "sorted" p) (e::es) [⟨some "key",.Name x p2,kp⟩] pos) (Ui (IB K g) t):=by
 intro VU s σ H Q I hw;obtain⟨f,fd,F,hm,hkp,hb⟩:=C.ex;refine BR<|lX I hgs hms boot_sorted<|PyProof.Rows.callWith_kw (SM (ha pos VU s σ H _ I hw) λus s1 ⟨vs,H1,I1,r1,q1⟩=>(PyProof.Rows.kws_cons<|pj I1 hgf hm (PyProof.Rows.kws_nil ?_) hdb)) he hpl;obtain⟨l,Z,ws,ds,ks,rfl,sq,el,lv,hks,q⟩:=q1;obtain⟨u,rfl,ru⟩:=vals1 r1;cases ru;obtain⟨hl,hg⟩:=sU hks;exact xO h F (hr.mono hk) hb I1 sq el lv hl hg λγ H' p' ws' pm sg sm hn el'=>q H' p' ws' sm hn (by rw[<-wo pm sg];exact el')
end
end VF
namespace VL
open PySem L2 VF
def Lw(x:Str):Prop:=∀c∈x.cps.toList,97<=c/\c<=122
abbrev X7:Str:=Str.ofString "abcdefghijklmnopqrstuvwxyz"
def qB:X7.cps.toList=List.range' 97 26:=by decide +kernel
def Nm(x:Str):Prop:=1<=x.length/\x.length<=6/\Lw x
def IE{ys:Se Str}(h:∀y∈ys,∃c,y=⟨#[c]⟩/\97<=c/\c<=122):Lw (Txt.join (Str.ofString "") ys):=by
 intro c hc;have e:Txt.join (Str.ofString "") ys=Str.join (Str.ofString "") ys:=StrLaws.glued_eq_join _ _;rw[e]at hc;rcases(PyProof.Rows.mem_join _ _ _).mp hc with⟨t,ht,hct⟩|⟨_,z⟩
 ·obtain⟨c',rfl,h1⟩:=h t ht;have:c=c':=by simpa using hct
  rw[this];exact h1
 ·have hE:(Str.ofString "").cps.toList=[]:=by decide +kernel
  rw[hE]at z;cases z
theorem join_ones{ys:Se Str}(h:∀y∈ys,∃c,y=(⟨#[c]⟩:Str)):(Txt.join (Str.ofString "") ys).length=ys.length :=
 PySem.W.KT.join_ones ys λa ha=>by obtain⟨c,rfl⟩:=h a ha;rfl
theorem IF{ys:Se Str}(h:∀y∈ys,∃c,y=(⟨#[c]⟩:Str)):(ys.map (·.length)).sum=ys.length:=by
 induction ys with
 |nil=>rfl
 |cons y r ih=>
  obtain⟨c,rfl⟩:=h y Zc;rw[Wh,List.sum_cons,ih λz hz=>h z<|Wb _ hz];show 1+r.length=r.length+1;lia
def Lw.app{x y:Str}(a:Lw x)(b:Lw y):Lw (x++y):=λc hc=>by
 rw[BS,Bo]at hc;rcases Qb.mp hc with z|z
 ·exact a c z
 ·exact b c z
def IG:Lw (Str.ofString ""):=λc hc=>by
 have hE:(Str.ofString "").cps.toList=[]:=by decide +kernel
 rw[hE]at hc;cases hc
def word(s:Nat):Str:=Txt.mul ⟨#[97+s % 26]⟩<|1+((s:Nat):Int) / 26
def lB(s:Nat):(word s).cps.toList=List.replicate (1+s / 26) (97+s % 26):=by
 unfold word;rw[PyProof.Rows.mul_one_list];have e:(1+((s:Nat):Int) / 26).toNat=1+s / 26:=by lia
 rw[e]
def wp(s:Nat):(word s).length=1+s / 26:=by
 have:=congrArg List.length<|lB s;rw[Ql,Zd]at this;exact this
def IH{a b:Nat}(h:word a=word b):a=b:=by
 have h1:(word a).cps.toList=(word b).cps.toList:=by rw[h]
 rw[lB,lB]at h1;have h2:=congrArg List.length h1;rw[Ql,Ql]at h2;have h3:=congrArg (λl=>l[0]?) h1;simp only[AE]at h3;rw[Ag<|by lia,Ag<|by lia]at h3
 have h4:=Option.some.inj h3;lia
def Lr{s:Nat}(h:s<=120):Nm (word s):=by
 refine⟨by rw[wp];lia,by rw[wp];lia,λc hc=>?_⟩
 rw[lB]at hc;have:=DL hc;lia
def Fq{xs:Se Str}{s:Nat}(h:∀j,j<s->word j∈xs):s<=xs.length:=by
 have:=jY ((List.range s).map word) xs (by
  show List.Pairwise _ _;rw[Yk];exact List.nodup_range.imp λhne e=>hne (IH e)) (λx hx=>by
  obtain⟨j,hj,rfl⟩:=Qc.mp hx
  exact h j (Zn.mp hj))
 rw[Ya,AO]at this;exact this
def Pq(s:Nat):Tb X7.cps.toList (((s:Nat):Int) % 26)=some (97+s % 26):=by
 have e:((s:Nat):Int) % 26=(((s % 26:Nat)):Int):=by lia
 rw[e];refine im ?_;rw[qB,List.getElem?_range'<|by lia]
 congr 1;lia
theorem qC{α:Type}:∀{l:Se α}{i:Nat}(h:i<l.length),(l[i]::l.eraseIdx i).Perm l|_::_,0,_=>List.Perm.refl _|x::r,i+1,h=>(List.Perm.swap x _ _).trans (List.Perm.cons x<|qC (l:=r) (i:=i)<|Nat.lt_of_succ_lt_succ h)
abbrev minus:Str:=Str.ofString "-"
def bd(p:Ss×Str):Str:=if p.1 then minus++p.2 else p.2
def fu:minus.cps.toList=[45]:=by decide +kernel
def qD{p:Ss×Str}(h:Nm p.2):1<=(bd p).length/\(bd p).length<=7:=by
 have e:minus.length=1:=by decide +kernel
 unfold bd;split
 ·rw[AN,e];have:=h.1;have:=h.2.1;lia
 ·have:=h.1;have:=h.2.1;lia
def zT{x y:Str}(h:x.cps.toList=y.cps.toList):x=y:=by
 cases x;cases y;have:_=_:=Array.toList_inj.mp h;exact congrArg Str.mk this
def II{n:Str}:Txt.slice (minus++n) (some 1) none=n:=by
 have e:minus.length=1:=by decide +kernel
 rw[PyProof.Rows.slice_from_eq (i:=1) (b:=((minus++n).length:Int)) (by decide) (by rw[AN,e];lia) rfl]
 refine zT ?_;show((List.drop 1 (minus++n).cps.toList).take _).toArray.toList=_;rw[BS,Bo,fu,AN,e];show List.take _ n.cps.toList=_;refine Xl ?_;rw[Zd];show n.length<=_;lia
def IJ{p:Ss×Str}(h:Nm p.2):∃c,Tb (bd p).cps.toList 0=some c/\(V.str ⟨#[c]⟩=V.str minus↔p.1=true):=by
 obtain⟨t,n⟩:=p;have em:(⟨#[45]⟩:Str)=minus:=by decide +kernel
 cases t with
 |true=>
  refine⟨45,?_,λ_=>rfl,λ_=>by rw[em]⟩
  show Tb (minus++n).cps.toList 0=_;rw[BS,Bo,fu];exact Qv
 |false=>
  have h1:1<=n.length:=h.1;cases e:n.cps.toList with
  |nil=>
   have:=congrArg List.length e;rw[Zd]at this;have h2:n.cps.size=n.length:=rfl;rw[h2]at this;simp at this;lia
  |cons c r=>
   refine⟨c,?_,λz=>?_,λz=>by cases z⟩
   ·show Tb n.cps.toList 0=_;rw[e];exact Qv
   ·have hc:=h.2.2 c (by show c∈n.cps.toList;rw[e];exact Zc)
    have z1:(⟨#[c]⟩:Str)=minus:=V.str.inj z;rw[<-em]at z1;have z2:c=45:=by simpa using z1
    lia
def sV{d:Int}{n:Str}(d0:0<=d)(d1:d<2):Txt.mul minus d++n=bd (decide<|d=1,n):=by
 have h:d=0\/d=1:=by lia
 rcases h with rfl|rfl
 ·show(if (0:Int)<1 then Str.empty else _)++n=_;rw[Ag<|by decide]
  exact Str.empty_append n
 ·rfl
theorem Ls{n:Str}(h:Nm n):∃c r,n.cps.toList=c::r/\c≠45:=by
 cases e:n.cps.toList with
 |nil=>
  have h1:1<=n.length:=h.1;have:=congrArg List.length e;rw[Zd]at this;have h2:n.cps.size=n.length:=rfl;rw[h2]at this;simp at this;lia
 |cons c r=>
  refine⟨c,r,rfl,λz=>?_⟩;have hc:=h.2.2 c (by rw[e];exact Zc)
  lia
def Fr{t:Ss}{n:Str}(h:Nm n):Txt.startswith (bd (t,n)) minus=t:=by
 have e1:minus.length=1:=by decide +kernel
 have hl:=(qD (p:=(t,n)) h).1;unfold Txt.startswith
 rw[Af<|show 0+minus.length<=(bd (t,n)).length by lia,Bool.true_and,StrLaws.subAt_eq,fu,e1]
 cases t with
 |true=>
  show((((minus++n).cps.toList).drop 0).take 1 == [45])=true;rw[BS,Bo,fu];rfl
 |false=>
  obtain⟨c,r,e,hc⟩:=Ls h;show(((n.cps.toList).drop 0).take 1 == [45])=false;rw[e];show([c] == [45])=false;simp[hc]
end VL
namespace K14
open PySem L2 VF VF22
section
abbrev aw:FE:=aF 0
abbrev aM:FE:=aF 1
abbrev bi:FE:=aF 2
abbrev bm:FE:=aF 3
abbrev bQ:FE:=aF 4
abbrev dR:FE:=aF 5
abbrev fY:FE:=aF 6
abbrev xQ:FE:=aF 7
abbrev aJ:FE:=fC<|.int 0
abbrev aB:FE:=fC<|.int 1
abbrev cH:FE:=fC<|.int 2
abbrev fF:FE:=fC<|.int 3
abbrev pO:FE:=fC<|.int 4
abbrev uE:FE:=fC<|.int 6
abbrev zU:FE:=fC<|.int 7
abbrev Lu:FE:=fC<|.int 8
abbrev Lx:FE:=fC<|.int 9
abbrev IM:FE:=fC<|.int 10
abbrev IN:FE:=fC<|.int 18
abbrev IO:FE:=fC<|.int 23
abbrev qE:FE:=fC<|.int 26
abbrev IP:FE:=fC<|.int 40
abbrev xR:FE:=fC<|.int 7919
abbrev wq:FE:=fC<|.int 40013
abbrev wr:FE:=fC<|.int 48271
abbrev oF:FE:=fC<|.int 65521
abbrev lP:FE:=fC<|.int 1000003
abbrev qF:FE:=fC<|.int 12820163
abbrev iX:FE:=fC<|.int 2147483647
def oG:FE :=
  (Sy TY aw<|fC<|.str "abcdefghijklmnopqrstuvwxyz")
def nX:FS :=
  (aH (SV (mW (gI (aC (SF cg (aa aw (aa (fC (.ty "str")) ag))))) (gI (aC (tW Ul Ul aB (SF b9 (aa aw ag)) uE)))) (bx (fC (.bl false))) b8)
  (bx (SF qk (aa (dr 1 [] (S7 aw) (gN 0) cM oG) ag))))
def lC:Se D->Sf Rz:=bp nX 1 1
def kw:FS :=
  (bx<|Um "str" y8 aw (aa (fC<|.str "-") ag))
def cy:Se D->Sf Rz:=bp kw 1 1
def nY:FS :=
  (bx<|Tn (aC<|aX cy<|aa aw ag) (Tv Tl aw (fQ aB) TD) aw)
def b7:Se D->Sf Rz:=bp nY 1 1
def mr:FS :=
  (bx<|Tn (aC<|aX cy<|aa aw ag) (aX b7<|aa aw ag)<|Sy cK (fC<|.str "-") aw)
def d8:Se D->Sf Rz:=bp mr 1 1
def gP:FS :=
  (bx<|SF bn<|aa (dr 1 [] (zj aw) (gN 0) cM<|aX d8<|aa aw ag) ag)
def dH:Se D->Sf Rz:=bp gP 1 1
def jq:FS :=
  (aH (SV (aC (Sy S9 (SF b9 (aa aw ag)) aB)) (bx (bU (aa (aX b7 (aa (Sy SA aw aJ) ag)) ag))) b8)
  (aH (SV (aC (Sy Uy (aX b7 (aa (Sy SA aw aJ) ag)) (aX b7 (aa (Sy SA aw (TL rH aB)) ag)))) (bx (SF bn (aa aw ag))) b8)
  (bx (bj dH (aa aw ag)))))
def jr:Se D->Sf Rz:=bp jq 1 1
def iJ:FS :=
  (aH (bc (dr 1 [] (S7 aw) (gN 0) cM (aX b7 (aa aw ag))) 1)
  (bx (Um "list" bIndex aM (aa (SF Ix (aa aM ag)) ag))))
def df:Se D->Sf Rz:=bp iJ 2 1
def jt:FS :=
  (aH (bc (Tn (aC (aX cy (aa (Sy SA aw (aX df (aa aw ag))) ag))) (bj dH (aa aw ag)) (SF bn (aa aw ag))) 1)
  (aH (bc (aX df (aa aM ag)) 2)
  (bx (Sy gL (Tv rK aM (fQ bi) TD) (Tv rK aM TD (fQ bi))))))
def ju:Se D->Sf Rz:=bp jt 3 1
def gQ:FS :=
  (aH (SV (aC (Sy S9 (Sy SA aw aJ) (fC (.str "open")))) (bx (bU (aa (fC (.str "open")) (aa (bj jr (aa (Sy SA aw aB) ag)) ag)))) b8)
  (bx (bU (aa (fC (.str "ring")) (aa (bj ju (aa (Sy SA aw aB) ag)) ag)))))
def dI:Se D->Sf Rz:=bp gQ 1 1
def iK:FS :=
  (bx<|bU<|aa (Sy S9 (Sy SA aw aJ)<|fC<|.str "ring")<|aa (aX b7<|aa (Sy SA (Sy SA aw aB) aJ) ag) ag)
def di:Se D->Sf Rz:=bp iK 1 1
def uF:FS :=
  (bx<|SF bn<|aa (SF (xP di)<|aa (dr 1 [] (S7 aw) (gN 0) cM<|bj dI<|aa aw ag) ag) ag)
def uG:Se D->Sf Rz:=bp uF 1 1
def mv:FS :=
  (bx<|iV (SF cg<|aa aw<|aa (fC<|.ty "int") ag)<|MJ<|SF cg<|aa aw<|aa (fC<|.ty "bool") ag)
def qG:Se D->Sf Rz:=bp mv 1 1
def mw:FS :=
  (bx<|bU<|aa (aX b7<|aa aw ag)<|aa (Tn (aC<|aX cy<|aa aw ag) aB aJ) ag)
def d9:Se D->Sf Rz:=bp mw 1 1
def kx:FS :=
  (bx<|bj d9<|aa (aX d8<|aa aw ag) ag)
def eJ:Se D->Sf Rz:=bp kx 1 1
def mx:FS :=
  (bx<|SF bn<|aa (SF bL<|aa aw ag) ag)
def fv:Se D->Sf Rz:=bp mx 1 1
def jv:FE :=
  (Sy qz aw aM)
def qH:FS :=
  (bx<|SF qk<|aa (dr 2 [] (UN<|aa aw<|aa (Tv Tl aw (fQ aB) TD) ag) (gT 2<|Ti (gN 0)<|Ti (gN 1) TR) cM jv) ag)
def cZ:Se D->Sf Rz:=bp qH 1 1
def qI:FS :=
  (aH (SV (mW (gI (aC (SF cg (aa aw (aa (fC (.ty "tuple")) ag))))) (mW (aC (Sy TF (SF b9 (aa aw ag)) cH)) (gI (aC (aX lC (aa (Sy SA aw aJ) ag)))))) (bx (fC (.bl false))) b8)
  (bx (iV (aX qG (aa (Sy SA aw aB) ag)) (Sy TY (Sy SA aw aB) (bU (aa aJ (aa aB ag)))))))
def qJ:Se D->Sf Rz:=bp qI 1 1
def gj:FE :=
  (aX qJ<|aa aw ag)
def my:FS :=
  (aH (SV (mW (gI (aC (SF cg (aa aw (aa (fC (.ty "tuple")) ag))))) (aC (Sy me (SF b9 (aa aw ag)) (bU (aa aB (aa cH ag)))))) (bx (fC (.bl false))) b8)
  (bx (iV (SF qk (aa (dr 1 [] (S7 aw) (gN 0) cM gj) ag)) (aX cZ (aa aw ag)))))
def gR:Se D->Sf Rz:=bp my 1 1
def gU:FS :=
  (bx<|dr 2 [] (UN<|aa aw<|aa (Tv Tl aw (fQ aB) TD) ag) (gT 2<|Ti (gN 0)<|Ti (gN 1) TR) cM<|bj fv<|aa (bU<|aa (bj eJ<|aa aw ag)<|aa (bj d9<|aa aM ag) ag) ag)
def eQ:Se D->Sf Rz:=bp gU 1 1
def fZ:FS :=
  (aH (bc (Sy SA aw aB) 1)
  (aH (bc (bj d9 (aa (Sy SA aM aJ) ag)) 2)
  (aH (bc (bj eJ (aa (Sy SA aM (TL rH aB)) ag)) 3)
  (aH (bc (Tn (aC (Sy S9 (Sy SA aw aJ) (fC (.str "open")))) (cP (aa (bU (aa bi ag)) (aa (bU (aa bm ag)) ag))) (cP (aa (bj fv (aa (bU (aa bi (aa bm ag))) ag)) ag))) 4)
  (bx (Sy cK (bj eQ (aa aM ag)) bQ))))))
def dY:Se D->Sf Rz:=bp fZ 5 1
def ky:FS :=
  (aH (bc (cP ag) 1)
  (aH (fP (S7 aw) (gN 2) (bY (fM SY jg 1 (aa (bj dY (aa bi ag)) ag))))
  (bx (SF bn (aa (SF bL (aa aM ag)) ag)))))
def iu:Se D->Sf Rz:=bp ky 3 1
def f6:FS :=
  (aH (mX m7 (Tn (aC (Sy S9 (SF b9 (aa bi ag)) cH)) (Sy SA bi aB) (fC .non)) 1 (Sy SA bi aJ))
  (mX m7 (Tn (aC (Sy S9 (SF b9 (aa bi ag)) cH)) (Sy SA bi aJ) (fC .non)) 1 (Sy SA bi (TL rH aB))))
def iL:FS :=
  (aH (bc (sS (.dt [])) 1)
  (aH (fP (S7 aw) (gN 2) f6)
  (bx aM)))
def iM:Se D->Sf Rz:=bp iL 3 1
def nZ:FS :=
  (bx<|Tn (aC<|Sy S9 (Sy SA aw aB) aJ) (Sy SA aw aJ)<|aX d8<|aa (Sy SA aw aJ) ag)
def lD:Se D->Sf Rz:=bp nZ 1 1
def qK:FS :=
  (bx<|bU<|aa (Sy SA aw aJ)<|aa (Sy rG aB<|Sy SA aw aB) ag)
def ng:Se D->Sf Rz:=bp qK 1 1
def gW:FS :=
  (aH (bY (fM SY br 2 (aa (bj lD (aa bm ag)) ag)))
  (bc (Sy jM aM (bj ng (aa bm ag))) 3))
def jw:FS :=
  (aH (bc (cP (aa (bj lD (aa aw ag)) ag)) 2)
  (aH (bc (Sy jM aM (bj ng (aa aw ag))) 3)
  (aH (TC (lO (aC (Sy (oW true) bm (fC .non))) (aC (Sy kj bm aw))) gW 100)
  (bx (SF bn (aa bi ag))))))
def gm:Se D->Sf Rz:=bp jw 4 2
def jx:FT :=
  (aC<|Sy (oW false) (Sy jM aM aw)<|fC .non)
def jy:FE :=
  aw
def jz:FS :=
  (mX m7 (fC<|.bl true) 4<|aX b7<|aa xQ ag)
def mz:FS :=
  (SV (aC (Sy (Ic true) (Sy SA dR aJ) bQ)) (aH (bc (bj gm (aa dR (aa aM ag))) 6)
  (aH (bY (fM SY br 3 (aa (bU (aa (Tn (aC (Sy (oW false) (Sy jM aM dR) (fC .non))) (fC (.str "open")) (fC (.str "ring"))) (aa fY ag))) ag)))
  (fP (S7 fY) (gN 7) jz))) b8)
def qL:FS :=
  (aH (bc (bj iM (aa aw ag)) 1)
  (aH (bc (dr 1 [1] (S7 (SF mq (aa aM ag))) (gN 0) jx jy) 2)
  (aH (bc (cP ag) 3)
  (aH (bc (sS (.dk [])) 4)
  (aH (fP (S7 (Sy cK bi (SF mq (aa aM ag)))) (gN 5) mz)
  (bx (bj uG (aa bm ag))))))))
def qM:Se D->Sf Rz:=bp qL 8 1
def iw:FE :=
  (aX gR<|aa aw ag)
def n4:FS :=
  (aH (SV (mW (gI (aC (SF cg (aa aw (aa (fC (.ty "tuple")) ag))))) (aC (Sy me (SF b9 (aa aw ag)) (bU (aa aB (aa cH ag)))))) (bx (fC (.bl false))) b8)
  (bx (iV (SF qk (aa (dr 1 [] (S7 aw) (gN 0) cM iw) ag)) (aX cZ (aa aw ag)))))
def iY:Se D->Sf Rz:=bp n4 1 1
def lE:FE :=
  (SF b9<|aa aw ag)
def uH:FS :=
  (bx<|SF bn<|aa (SF bL<|aa (dr 1 [] (S7 aw) (gN 0) cM lE) ag) ag)
def pP:Se D->Sf Rz:=bp uH 1 1
def kz:FS :=
  (bY<|fM SY jg 1<|aa bi ag)
def n5:FS :=
  (aH (bc (cP ag) 1)
  (aH (fP (S7 aw) (gN 2) kz)
  (bx (SF bL (aa aM ag)))))
def iZ:Se D->Sf Rz:=bp n5 3 1
def iy:FE :=
  (aX iY<|aa aw ag)
def n6:FS :=
  (aH (SV (mW (gI (aC (SF cg (aa aw (aa (fC (.ty "tuple")) ag))))) (mW (aC (Sy kj (SF b9 (aa aw ag)) cH)) (gI (aC (SF qk (aa (dr 1 [] (S7 aw) (gN 0) cM iy) ag)))))) (bx (fC (.bl false))) b8)
  (aH (bc (Sy SA aw aJ) 1)
  (aH (bc (Sy SA aw aB) 2)
  (aH (bc (bj iZ (aa aM ag)) 3)
  (aH (SV (mW (gI (aC (aX cZ (aa bm ag)))) (aC (Sy kj bm (bj iZ (aa bi ag))))) (bx (fC (.bl false))) b8)
  (bx (iV (Lo [.tup [.tup [.int 2],.tup [.int 1,.int 1]],.tup [.tup [.int 1,.int 1],.tup [.int 2]],.tup [.tup [.int 2,.int 2],.tup [.int 2,.int 2]],.tup [.tup [.int 1,.int 2],.tup [.int 1,.int 2]]] (bU (aa (bj pP (aa aM ag)) (aa (bj pP (aa bi ag)) ag)))) (Sy kj aM bi))))))))
def i9:Se D->Sf Rz:=bp n6 4 1
def cR:FE :=
  (Sy Hz aw aM)
def eS:FS :=
  (SV (mW (gI<|aC<|aX i9<|aa aM ag)<|gI<|aC<|SF qk<|aa (dr 1 [0] (S7<|Sy SA aM aJ) (gN 0) cM cR) ag) HA b8)
def eT:Se D->Sf Rz:=bp eS 2 2
def dN:FT :=
  (aC<|Sy lw aw<|Sy SA aM aJ)
def dO:FE :=
  aw
def gX:FS :=
  (aH (bc (dr 1 [1] (S7 aw) (gN 0) dN dO) 2)
  (bx (SF bn (aa (SF bL (aa (Sy gL bi (SF kc (aa (Sy SA aM aB) ag))) ag)) ag))))
def gY:Se D->Sf Rz:=bp gX 3 2
def xS:FS :=
  (aH (bc (bj iu (aa aw ag)) 2)
  (aH (bY (bj eT (aa bi (aa aM ag))))
  (bx (bj qM (aa (bj gY (aa bi (aa aM ag))) ag)))))
def qN:Se D->Sf Rz:=bp xS 3 2
def mB:FS :=
  (bx<|cP<|aa (SF kc<|aa aw ag)<|aa aJ<|aa aJ<|aa aB<|aa aJ ag)
def mC:Se D->Sf Rz:=bp mB 1 1
def jA:FS :=
  (aH (SV (lO (aC (Sy S9 (Sy SA aw cH) aJ)) (aC (Sy Uy (Sy SA aw aB) (SF b9 (aa (Sy SA aw aJ) ag))))) (aH (bc (Sy SA (Sy SA aw aJ) (Sy SA aw aB)) 2)
  (aH (mX ql (Sy cK (Sy SA aw aB) aB) 0 aB)
  (SV (aC (Sy Vx bi (Sy QC IM IN))) (mX ql bi 0 cH) (mX ql (Sy qi (Sy cK (Sy cK (Sy mZ (Sy SA aw fF) wq) (Sy qi bi lP)) aB) iX) 0 fF)))) b8)
  (aH (SV (aC (Sy Vw (Sy SA aw cH) aJ)) (aH (bc (Sy qi (Sy SA aw cH) aM) 3)
  (aH (mX ql (Sy xD (Sy SA aw cH) aM) 0 cH)
  (bx bm))) b8)
  (aH (mX ql (Sy cK (Sy SA aw pO) aB) 0 pO)
  (aH (mX ql (Sy qi (Sy cK (Sy cK (Sy mZ (Sy SA aw fF) wr) qF) (Sy SA aw pO)) iX) 0 fF)
  (bx (Sy qi (Sy xD (Sy qi (Sy mZ (Sy cK (Sy qi (Sy SA aw fF) oF) aB) (Sy cK (Sy xD (Sy SA aw fF) oF) xR)) lP) zU) aM))))))
def aP:D->Se D->Sf (Rz×D):=dF jA 4 2
def iN:FS :=
  (bx<|Um "str" G6 (fC<|.str "") (aa (dr 1 [0] (nQ<|aa aM ag) (gN 0) cM<|Sy SA (fC<|.str "abcdefghijklmnopqrstuvwxyz")<|S5 aP 1<|aa qE ag) ag))
def dU:D->Se D->Sf (Rz×D):=dF iN 2 2
def mD:FS :=
  (aH (SV (aC (Sy TF aM (fC (.str "")))) (bx (Sy cK aM (S5 dU 0 (aa (Sy cK aB (S5 aP 0 (aa cH ag))) ag)))) b8)
  (aH (SV (aC (Sy S9 (S5 aP 0 (aa zU ag)) aJ)) (aH (bc (cP (G7 ["to","turn","turns","ring","rings","odd","ours","row","rows","cuts","knots","cover"])) 2)
  (aH (bc (Sy cK bi (cP (G7 ["change","joins","theirs","one","two","home","none","open","keep","tox","onex"]))) 2)
  (bx (Sy SA bi (S5 aP 0 (aa IO ag)))))) b8)
  (bx (S5 dU 0 (aa (Sy cK aB (S5 aP 0 (aa uE ag))) ag)))))
def mE:D->Se D->Sf (Rz×D):=dF mD 3 2
def iz:FS :=
  (aH (bc (fC (.str "")) 2)
  (aH (SV (aC (Sy S9 (S5 aP 0 (aa fF ag)) aJ)) (bc (S5 dU 0 (aa (Sy cK aB (S5 aP 0 (aa pO ag))) ag)) 2) b8)
  (aH (bc (cP ag) 3)
  (aH (fP (nQ (aa aM ag)) (gN 4) (aH (bc (S5 mE 0 (aa bi ag)) 5)
  (aH (bc aJ 6)
  (aH (TC (aC (Sy TY dR bm)) (aH (bc (Sy mZ (Sy SA (fC (.str "abcdefghijklmnopqrstuvwxyz")) (Sy qi fY qE)) (Sy cK aB (Sy xD fY qE))) 5)
  (bc (Sy cK fY aB) 6)) 200)
  (bY (fM SY br 3 (aa dR ag)))))))
  (bx bm)))))
def kB:D->Se D->Sf (Rz×D):=dF iz 7 2
def gZ:FS :=
  (aH (bc (SF kc (aa aM ag)) 2)
  (aH (bc (cP ag) 3)
  (aH (TC (aC (Sy TF bi (cP ag))) (bY (fM SY br 3 (aa (fM SY j8 2 (aa (S5 aP 0 (aa (SF b9 (aa bi ag)) ag)) ag)) ag))) 300)
  (bx bm))))
def g6:D->Se D->Sf (Rz×D):=dF gZ 4 2
def mF:FS :=
  (bx<|SF bn<|aa (dr 1 [0] (S7<|S5 g6 0<|aa aM ag) (gN 0) cM<|Sy cK (Sy mZ (fC<|.str "-")<|S5 aP 1<|aa cH ag) aw) ag)
def g9:D->Se D->Sf (Rz×D):=dF mF 2 2
def lF:FS :=
  (aH (bc (cP ag) 3)
  (aH (bc (cP ag) 4)
  (aH (fP (S7 (S5 g9 0 (aa aM ag))) (gN 5) (aH (bY (fM SY br 4 (aa dR ag)))
  (SV (aC (Sy S9 (S5 aP 0 (aa fF ag)) aJ)) (aH (bY (fM SY br 3 (aa (bU (aa (fC (.str "open")) (aa (SF bn (aa bQ ag)) ag))) ag)))
  (bc (cP ag) 4)) (SV (lO (aC bi) (aC (Sy S9 (S5 aP 0 (aa fF ag)) aJ))) (aH (bY (fM SY br 3 (aa (bU (aa (fC (.str "ring")) (aa (SF bn (aa bQ ag)) ag))) ag)))
  (bc (cP ag) 4)) b8))))
  (aH (SV (aC (Sy TF bQ (cP ag))) (bY (fM SY br 3 (aa (bU (aa (fC (.str "open")) (aa (SF bn (aa bQ ag)) ag))) ag))) b8)
  (bx (SF bn (aa bm ag)))))))
def n8:D->Se D->Sf (Rz×D):=dF lF 6 3
def kC(gs:Se D->Sf Rz):FS :=
  (aH (SV (aC (Sy (oW false) aM (fC .non))) (bx (Sy (oW false) aw (fC .non))) b8)
  (aH (SV (mW (aC (SF cg (aa aM (aa (fC (.ty "bool")) ag)))) (aC (SF cg (aa aw (aa (fC (.ty "bool")) ag))))) (bx (iV (SF cg (aa aM (aa (fC (.ty "bool")) ag))) (iV (SF cg (aa aw (aa (fC (.ty "bool")) ag))) (Sy S9 aw aM)))) b8)
  (aH (SV (aC (SF cg (aa aM (aa (fC (.ty "int")) ag)))) (bx (iV (SF cg (aa aw (aa (fC (.ty "int")) ag))) (Sy S9 aw aM))) b8)
  (aH (SV (aC (SF cg (aa aM (aa (fC (.ty "str")) ag)))) (bx (iV (SF cg (aa aw (aa (fC (.ty "str")) ag))) (Sy S9 aw aM))) b8)
  (aH (SV (mW (aC (Sy TF (SF cg (aa aM (aa (fC (.ty "tuple")) ag))) (SF cg (aa aw (aa (fC (.ty "tuple")) ag))))) (aC (Sy TF (SF cg (aa aM (aa (fC (.ty "list")) ag))) (SF cg (aa aw (aa (fC (.ty "list")) ag)))))) (bx (fC (.bl false))) b8)
  (bx (iV (Sy S9 (SF b9 (aa aw ag)) (SF b9 (aa aM ag))) (SF qk (aa (dr 1 [0,1] (nQ (aa (SF b9 (aa aM ag)) ag)) (gN 0) cM (aX gs (aa (Sy SA aM aw) (aa (Sy SA bi aw) ag)))) ag)))))))))
def mG:FS :=
  (aH (SV (aC (Sy S9 (Sy SA aw aJ) (fC (.str "-")))) (bx (bU (aa (bU (aa (Tv Tl aw (fQ aB) TD) (aa aB ag))) (aa (bU (aa (Tv Tl aw (fQ aB) TD) (aa aJ ag))) ag)))) b8)
  (bx (bU (aa (bU (aa aw (aa aJ ag))) (aa (bU (aa aw (aa aB ag))) ag)))))
def hV:Se D->Sf Rz:=bp mG 1 1
def gn:FS :=
  (aH (bc (cP ag) 1)
  (aH (fP (S7 aw) (gT 2 (Ti (gN 2) (Ti (gN 3) TR))) (aH (bc (dr 1 [] (S7 bm) (gN 0) cM (bj hV (aa aw ag))) 4)
  (aH (fP (nQ (aa (Sy rG (SF b9 (aa bQ ag)) aB) ag)) (gN 5) (bY (fM SY br 1 (aa (SF bn (aa (SF bL (aa (cP (aa (Sy SA (Sy SA bQ dR) aB) (aa (Sy SA (Sy SA bQ (Sy cK dR aB)) aJ) ag))) ag)) ag)) ag))))
  (SV (aC (Sy S9 bi (fC (.str "ring")))) (bY (fM SY br 1 (aa (SF bn (aa (SF bL (aa (cP (aa (Sy SA (Sy SA bQ (TL rH aB)) aB) (aa (Sy SA (Sy SA bQ aJ) aJ) ag))) ag)) ag)) ag))) (aH (bY (fM SY br 1 (aa (bU (aa (Sy SA (Sy SA bQ aJ) aJ) ag)) ag)))
  (bY (fM SY br 1 (aa (bU (aa (Sy SA (Sy SA bQ (TL rH aB)) aB) ag)) ag))))))))
  (bx (SF bn (aa (SF bL (aa aM ag)) ag)))))
def jB:Se D->Sf Rz:=bp gn 6 1
def eU:FT :=
  (aC<|Sy lw aw<|Sy SA aM aJ)
def eV:FE :=
  aw
def jC:FS :=
  (bx<|SF bn<|aa (SF bL<|aa (Sy gL (dr 1 [1] (S7 aw) (gN 0) eU eV)<|SF kc<|aa (Sy SA aM aB) ag) ag) ag)
def jE:Se D->Sf Rz:=bp jC 2 2
def fG:FS :=
  (aH (bc (cP (aa (SF bn (aa (SF bL (aa (cP (aa (Sy SA bi dR) (aa (Sy SA bm aJ) ag))) ag)) ag)) (aa (bU (aa (Sy SA bi (Sy rG aB dR)) ag)) ag))) 6)
  (bY (fM SY br 4 (aa (bU (aa (bU (aa aw (aa aM ag))) (aa (SF bn (aa (SF bL (aa fY ag)) ag)) ag))) ag))))
def kD:FS :=
  (aH (bc aw 2)
  (aH (bc aM 3)
  (aH (SV (aC (Sy S9 (SF b9 (aa aw ag)) aB)) (aH (bc aM 2)
  (bc aw 3)) b8)
  (aH (bc (cP ag) 4)
  (aH (fP (nQ (aa cH ag)) (gN 5) fG)
  (bx bQ))))))
def kF:Se D->Sf Rz:=bp kD 7 2
def iO:FS :=
  (aH (bc (cP (aa (SF bn (aa (SF bL (aa (cP (aa (Sy SA bm aJ) (aa (Sy SA bQ dR) ag))) ag)) ag)) (aa (SF bn (aa (SF bL (aa (cP (aa (Sy SA bm aB) (aa (Sy SA bQ (Sy rG aB dR)) ag))) ag)) ag)) ag))) 6)
  (bY (fM SY br 1 (aa (bU (aa (bU (aa bm (aa bQ ag))) (aa (SF bn (aa (SF bL (aa fY ag)) ag)) ag))) ag))))
def dW:FS :=
  (SV (aC<|Sy iI (Sy gL (SF b9<|aa bm ag)<|SF b9<|aa bQ ag) cH) (bY<|fM SY br 1<|aa (bU<|aa (bU<|aa bm<|aa bQ ag)<|aa (bU<|aa (SF bn<|aa (SF bL<|aa (Sy gL bm bQ) ag) ag) ag) ag) ag)<|SV (aC<|Sy iI (Sy gL (SF b9<|aa bm ag)<|SF b9<|aa bQ ag) fF) (bY<|fM SY jg 1<|aa (bj kF<|aa bm<|aa bQ ag) ag)<|fP (nQ<|aa cH ag) (gN 5) iO)
def iP:FS :=
  (aH (bc (Sy SA aw bi) 3)
  (aH (SV (aC (Sy iI (SF b9 (aa bm ag)) cH)) (bY (fM SY br 1 (aa (bU (aa (bU (aa bm ag)) (aa (bU (aa (bU (aa (Sy SA bm aJ) ag)) (aa (bU (aa (Sy SA bm aB) ag)) ag))) ag))) ag))) b8)
  (fP (S7 (Tv rK aw (fQ (Sy gL bi aB)) TD)) (gN 4) dW)))
def kG:FS :=
  (aH (bc (cP ag) 1)
  (aH (fP (nQ (aa (SF b9 (aa aw ag)) ag)) (gN 2) iP)
  (bx (SF bL (aa aM ag)))))
def kH:Se D->Sf Rz:=bp kG 7 1
def hW:FS :=
  (aH (bc (SF kc (aa aM ag)) 2)
  (aH (bc (cP (aa (fM SY j8 2 (aa (S5 aP 0 (aa (SF b9 (aa bi ag)) ag)) ag)) ag)) 3)
  (aH (SV (aC (Sy TF bi (cP ag))) (bY (fM SY br 3 (aa (fM SY j8 2 (aa (S5 aP 0 (aa (SF b9 (aa bi ag)) ag)) ag)) ag))) b8)
  (aH (bc (bj kH (aa (SF bn (aa (SF bL (aa bm ag)) ag)) ag)) 4)
  (bx (Sy SA bQ (S5 aP 0 (aa (SF b9 (aa bQ ag)) ag))))))))
def hZ:D->Se D->Sf (Rz×D):=dF hW 5 2
def ia:FS :=
  (aH (bY (fM SY br 2 (aa (Sy cK (Sy mZ (fC (.str "-")) (Sy SA bm aB)) (Sy SA bm aJ)) ag)))
  (aH (bc (Sy jM aw (bU (aa (Sy SA bm aJ) (aa (Sy rG aB (Sy SA bm aB)) ag)))) 4)
  (aH (SV (aC (Sy iI (SF b9 (aa bQ ag)) aB)) (bx (bU (aa (fC (.str "open")) (aa (SF bn (aa bi ag)) ag)))) b8)
  (aH (bc (Sy SA bQ (SF (b1 OK) (aa (Sy iI (Sy SA bQ aJ) (bU (aa (Sy SA bm aJ) (aa (Sy rG aB (Sy SA bm aB)) ag)))) ag))) 3)
  (SV (aC (Sy iI bm aM)) (bx (bU (aa (fC (.str "ring")) (aa (SF bn (aa bi ag)) ag)))) b8)))))
def jF:FS :=
  (aH (bc (cP ag) 2)
  (aH (bc aM 3)
  (TC (aC (fC (.bl true))) ia 100)))
def gq:Se D->Sf Rz:=bp jF 5 2
def fH:FS :=
  (mX m7 bi 1 bm)
def fI:FS :=
  (fP (S7 bi) (gN 3) fH)
def fJ:FT :=
  (aC<|Sy iI (SF b9<|aa aw ag) aB)
def fK:FE :=
  (Sy SA aw aJ)
def fL:FS :=
  (mX m7 (fC<|.bl true) 5<|Um "str" xL xQ (aa (fC<|.str "-") ag))
def iQ:FS :=
  (SV (aC (Sy (Ic true) (Sy SA bm aJ) dR)) (aH (bY (fM SY br 6 (aa (bj gq (aa aM (aa bm ag))) ag)))
  (fP (S7 (Sy SA (Sy SA fY (TL rH aB)) aB)) (gN 7) fL)) b8)
def kI:FS :=
  (aH (bc (sS (.dt [])) 1)
  (aH (fP (S7 aw) (gN 2) fI)
  (aH (bc (SF bL (aa (dr 1 [] (S7 aw) (gN 0) fJ fK) ag)) 4)
  (aH (bc (sS (.dk [])) 5)
  (aH (bc (cP ag) 6)
  (aH (fP (S7 (Sy cK bQ (SF bL (aa (SF xK (aa aM ag)) ag)))) (gN 3) iQ)
  (bx (SF bn (aa fY ag)))))))))
def iA:Se D->Sf Rz:=bp kI 8 1
def pQ:FS :=
  (aH (bY (fM SY br 6 (aa (S5 hZ 1 (aa bQ ag)) ag)))
  (aH (bc (bj jE (aa bQ (aa (Sy SA fY (TL rH aB)) ag))) 4)
  (aH (bc (bj qN (aa dR (aa (Sy SA fY (TL rH aB)) ag))) 5)
  (aH (bY (fM SY br 7 (aa dR ag)))
  (SV (gI (aC (aX (dQ 6) (aa dR (aa (bj iA (aa bQ ag)) ag))))) (bx (fC (.bl false))) b8)))))
def IQ:FS :=
  (aH (bc (bj mC (aa aw ag)) 1)
  (aH (bc (Sy cK aB (S5 aP 1 (aa Lx ag))) 2)
  (aH (SV (aC (Sy iI (S5 aP 1 (aa Lu ag)) aJ)) (bc (Sy cK aB (S5 aP 1 (aa IP ag))) 2) b8)
  (aH (bc (K5 n8 1 [.bl true] (aa (S5 kB 1 (aa bi ag)) ag)) 3)
  (aH (bc (bj jB (aa bm ag)) 4)
  (aH (bc bm 5)
  (aH (bc (cP ag) 6)
  (aH (bc (cP ag) 7)
  (aH (fP (nQ (aa (Sy cK aB (S5 aP 1 (aa uE ag))) ag)) (gN 8) pQ)
  (bx (aX (dQ 6) (aa (bj qN (aa bm (aa (Sy SA fY aJ) ag))) (aa (Sy SA xQ aJ) ag)))))))))))))
def Rj:Se D->Sf Rz:=bp IQ 9 1
end
abbrev Tf:List Str:=["thing"]
abbrev Tg:List Str:=["bead"]
abbrev Tq:List Str:=["beads"]
abbrev TN:List Str:=["strand"]
abbrev TX:List Str:=["joints"]
abbrev TZ:List Str:=["end"]
abbrev Ua:List Str:=["_law_flow_here","_law_many"]
abbrev Up:List Str:=["joints","deed"]
abbrev UA:List Str:=["_law_script"]
abbrev UB:List Str:=["_law_found","_law_due"]
abbrev Ft:List Str:=["_law_bead"]
abbrev Fu:List Str:=["one","other"]
abbrev IR:List Str:=["_law_flow_here","_law_names_here"]
abbrev IS:List Str:=["_law_joints_here","_law_deed"]
abbrev Ly:List Str:=["_law_joints_here"]
abbrev Pr:List Str:=["joints","beyond","free","strands","seen","end","beads","bead"]
abbrev Ps:List Str:=["thing","gone","come","ends"]
abbrev Pt:List Str:=["joints","deed","stay"]
abbrev Pu:List Str:=["_law_some","_law_joints_here","_law_kind","_law_beads","_law_ends_here","_law_k"]
abbrev Pv:List Str:=["_law_joints_here","_law_stand","_law_joint","_law_end","_law_begins","_law_seen","_law_strands","_law_bead"]
abbrev Rk:List Str:=["strand","beads","begin","end","outer"]
abbrev Rl:List Str:=["_law_flow_here","_law_many","_law_cell","_law_digit"]
abbrev Rm:List Str:=["_law_flow_here","_law_stem","_law_words"]
abbrev Ro:List Str:=["_law_flow_here","_law_many","_law_stem","_law_names_here","_law_k","_law_name_here","_law_spare"]
abbrev Rq:List Str:=["_law_flow_here","_law_things","_law_left","_law_told"]
abbrev Rr:List Str:=["_law_flow_here","_law_names_here","_law_rings","_law_strands","_law_piece","_law_bead"]
abbrev Ru:List Str:=["_law_flow_here","_law_names_here","_law_rings"]
abbrev Rv:List Str:=["_law_one","_law_other","_law_pair","_law_free","_law_told","_law_k","_law_come"]
abbrev Rw:List Str:=["_law_joints_here","_law_found","_law_k","_law_one","_law_other","_law_way","_law_come"]
abbrev Rx:List Str:=["_law_flow_here","_law_joints_here","_law_left","_law_some","_law_every"]
abbrev Ry:List Str:=["_law_flow_here","_law_joints_here"]
abbrev RA:List Str:=["_law_stand","_law_begin","_law_beads","_law_end","_law_joint"]
abbrev RB:List Str:=["_law_script","_law_flow_here","_law_many","_law_first","_law_joints_here","_law_some","_law_steps","_law_sets","_law_k"]
def top(i:Nat):Stmt:=PySem.Challenge.pw_strandwright_k14_deeds_done.main.body.getD i<|.Pass ⟨0,0,0,0⟩
abbrev pR:Stmt:=top 6
abbrev n9:Stmt:=top 7
abbrev uI:Stmt:=top 8
abbrev og:Stmt:=top 9
abbrev gr:Stmt:=top 10
abbrev mH:Stmt:=top 12
abbrev iB:Stmt:=top 13
abbrev mI:Stmt:=top 14
abbrev jG:Stmt:=top 15
abbrev kJ:Stmt:=top 16
abbrev uJ:Stmt:=top 17
abbrev qO:Stmt:=top 19
abbrev qP:Stmt:=top 21
abbrev oh:Stmt:=top 22
abbrev qQ:Stmt:=top 23
abbrev pS:Stmt:=top 24
abbrev xT:Stmt:=top 25
abbrev nh:Stmt:=top 26
abbrev gu:Stmt:=top 27
abbrev iR:Stmt:=top 28
abbrev oi:Stmt:=top 29
abbrev kK:Stmt:=top 30
abbrev uK:Stmt:=top 31
abbrev uL:Stmt:=top 32
abbrev mJ:Stmt:=top 33
abbrev uM:Stmt:=top 34
abbrev pU:Stmt:=top 37
abbrev uN:Stmt:=top 38
abbrev uO:Stmt:=top 39
abbrev pV:Stmt:=top 40
abbrev dZ:Stmt:=top 41
abbrev iC:Stmt:=top 42
abbrev IT:Stmt:=top 43
abbrev xU:Stmt:=top 45
abbrev xV:Stmt:=top 46
abbrev lG:Stmt:=top 47
abbrev xW:Stmt:=top 48
abbrev uP:Stmt:=top 49
abbrev mK:Stmt:=top 50
abbrev uQ:Stmt:=top 51
abbrev IU:Stmt:=top 52
abbrev pW:Stmt:=top 53
abbrev xX:Stmt:=top 54
abbrev ni:Stmt:=top 55
abbrev nj:Stmt:=top 56
abbrev uR:Stmt:=top 58
abbrev uS:Stmt:=top 57
abbrev oj:Stmt:=top 59
abbrev qR:Stmt:=top 60
abbrev pY:Stmt:=top 61
abbrev Pw:Stmt:=top 62
def xY:VY Tf Tf (aq pR):=ST (by decide +kernel)
def uT:VY Tg Tg (aq n9):=ST (by decide +kernel)
def xZ:VY Tg Tg (aq uI):=ST (by decide +kernel)
def uU:VY Tg Tg (aq og):=ST (by decide +kernel)
def oZ:VY Tq Tq (aq gr):=ST (by decide +kernel)
def rM:VY Tq Tq (aq mH):=ST (by decide +kernel)
def WL:VY ["beads","names"] Tq (aq iB):=ST (by decide +kernel)
def WF:VY ["beads","side","begin"] Tq (aq mI):=ST (by decide +kernel)
def o0:VY TN TN (aq jG):=ST (by decide +kernel)
def qS:VY TN TN (aq kJ):=ST (by decide +kernel)
def Fv:VY ["some"] ["some"] (aq uJ):=ST (by decide +kernel)
def wt:VY Tf Tf (aq qO):=ST (by decide +kernel)
def wu:VY Tg Tg (aq qP):=ST (by decide +kernel)
def uV:VY Tg Tg (aq oh):=ST (by decide +kernel)
def wv:VY ["ends"] ["ends"] (aq qQ):=ST (by decide +kernel)
def x8:VY ["things"] ["things"] (aq pS):=ST (by decide +kernel)
def Fw:VY Tf Tf (aq xT):=ST (by decide +kernel)
def ww:VY Tf Tf (aq nh):=ST (by decide +kernel)
def o3:VY Tq Tq (aq gu):=ST (by decide +kernel)
def V6:VY Rk TN (aq iR):=ST (by decide +kernel)
def WJ:VY ["some","joints","strand"] ["some"] (aq oi):=ST (by decide +kernel)
def WE:VY ["joints","beyond","joint"] TX (aq kK):=ST (by decide +kernel)
def x9:VY TZ TZ (aq uK):=ST (by decide +kernel)
def yb:VY TZ TZ (aq uL):=ST (by decide +kernel)
def Wz:VY ["begin","beyond","beads","here"] ["begin","beyond"] (aq mJ):=ST (by decide +kernel)
def Wu:VY Pr TX (aq uM):=ST (by decide +kernel)
def yc:VY Tf Tf (aq pU):=ST (by decide +kernel)
def Fx:VY TX TX (aq uN):=ST (by decide +kernel)
def WO:VY ["joints","ends","joint"] TX (aq uO):=ST (by decide +kernel)
def WK:VY Ps Tf (aq pV):=ST (by decide +kernel)
def mL:VY Up Up (aq dZ):=ST (by decide +kernel)
def WM:VY Pt Up (aq iC):=ST (by decide +kernel)
def W1:VY ["some","deed","joints"] ["some","deed"] (aq IT):=ST (by decide +kernel)
def Fy:VY UA UA (aq xU):=ST (by decide +kernel)
def WS:VY Rl Ua (aq xV):=ST (by decide +kernel)
def uW:VY Ua Ua (aq lG):=ST (by decide +kernel)
def WT:VY Rm ["_law_flow_here","_law_stem"] (aq xW):=ST (by decide +kernel)
def V7:VY Ro Ua (aq uP):=ST (by decide +kernel)
def WG:VY Rq ["_law_flow_here","_law_things"] (aq mK):=ST (by decide +kernel)
def Fz:VY IR IR (aq uQ):=ST (by decide +kernel)
def WI:VY Rr Ru (aq IU):=ST (by decide +kernel)
def yd:VY UB UB (aq pW):=ST (by decide +kernel)
def FB:VY Ft Ft (aq xX):=ST (by decide +kernel)
def Wv:VY Pu ["_law_some"] (aq ni):=ST (by decide +kernel)
def wx:VY IS IS (aq nj):=ST (by decide +kernel)
def Wo:VY Rv ["_law_one","_law_other"] (aq uR):=ST (by decide +kernel)
def Wt:VY Rw Ly (aq uS):=ST (by decide +kernel)
def WD:VY Rx Ry (aq oj):=ST (by decide +kernel)
def WA:VY RA ["_law_stand","_law_begin"] (aq qR):=ST (by decide +kernel)
def V8:VY Pv Ly (aq pY):=ST (by decide +kernel)
def Ws:VY RB UA (aq Pw):=ST (by decide +kernel)
structure Md(K:Ab)(mg:Str->Option Value):Prop where
 n_all:mg "all"=none
 n_bool:mg "bool"=none
 n_int:mg "int"=none
 n_isinstance:mg "isinstance"=none
 n_len:mg "len"=none
 n_list:mg "list"=none
 n_min:mg "min"=none
 n_range:mg "range"=none
 n_reversed:mg "reversed"=none
 n_sorted:mg "sorted"=none
 n_str:mg "str"=none
 n_tuple:mg "tuple"=none
 n_zip:mg "zip"=none
 c_LETTERS:∃t,mg "LETTERS"=some (.str "abcdefghijklmnopqrstuvwxyz" t)
 c_LONGEST_NAME:∃t,mg "LONGEST_NAME"=some (.int 6 t)
 c_FORMS:U9 K mg "FORMS" [.tup [.tup [.int 2],.tup [.int 1,.int 1]],.tup [.tup [.int 1,.int 1],.tup [.int 2]],.tup [.tup [.int 2,.int 2],.tup [.int 2,.int 2]],.tup [.tup [.int 1,.int 2],.tup [.int 1,.int 2]]]
end K14
namespace VF
open PySem L2
def ye(h:WW i j):mZ (.int i) (.int j)=some (.int<|i*j,false):=by
 have:yZ (.int i) (.int j)=some (.int<|i*j,false):=by
  show(if WW i j then some (D.int<|i*j,false) else none)=_;rw[Ag h]
 unfold mZ S6;rw[this]
def IV(h:0<j):qi (.int i) (.int j)=some (.int<|i % j,false):=by
 show(if 0<j then some (D.int<|i % j,false) else none)=_;rw[Ag h]
def Px(h:xo i j):xD (.int i) (.int j)=some (.int<|i / j,false):=by
 show(if xo i j then some (D.int<|i / j,false) else none)=_;rw[Ag h]
def fw(h:Tb ds i=some d):SA (.lst ds) (.int i)=some (d,false):=by
 have:GZ (.lst ds) (.int i)=some (d,false):=by
  show(Tb ds i).bind (λd=>some (d,false))=_;rw[h];rfl
 unfold SA S6;rw[this]
def ix_tup(h:Tb ds i=some d):SA (.tup ds) (.int i)=some (d,false):=by
 have e1:GZ (.tup ds) (.int i)=none:=rfl;have:KQ (.tup ds) (.int i)=some (d,false):=by
  show(Tb ds i).bind (λd=>some (d,false))=_;rw[h];rfl
 unfold SA S6;rw[e1,this]
def eW{f:FT}{st s:En}{b c:Ss}(h:f st=some (b,s))(e:b=c):f st=some (c,s):=e ▸ h
def iS{mm:D->D->D->Sf D}{i:Nat}{st s1 s2 s3:En}{r rk:Rs}{dv dk z z':D}{t t0:Sl}{x0:D}(h1:fe st=some (r,s1))(h2:esc r s1=some (dv,s2))(h0:s2[i]?=some t0)(h00:t0.ow=some x0)(h3:fi s2=some (rk,s3))(h4:cont s3 rk=some dk)(h5:s3[i]?=some t)(h6:t.ow=some z)(h7:mm z dk dv=some z'){s4:En}(h8:s3.set i (t.put z')=s4:=by rfl):mX mm fe i fi st=some (.nx s4):=by
 simp only[mX,h1,h2,h0,h00,h3,h4,h5,h6,h7,h8,Xb]
end VF
namespace K14
open PySem L2 VF
def Fl(ns:Se Int)(i m sd c:Int):D:=.lst [.lst<|ns.map D.int,.int i,.int m,.int sd,.int c]
def cT(φ:D):Prop:=∃ns i m sd c,φ=Fl ns i m sd c/\0<=i/\0<=m/\0<=sd/\0<=c
def Lz(ns:Se Int):mC [.fl<|ns.map D.int]=some (Fl ns 0 0 1 0,true):=rfl
def cI{φ : D}{n : Int}(hφ : cT φ)(h0 : 0 < n)(h1 : n ≤ 1000) : ∃ d φ', aP φ [.int n] = some ((.int d, false), φ') ∧ 0 ≤ d ∧ d < n ∧ cT φ' := by
  obtain ⟨ns, i, m, sd, c, rfl, hi, hm, hs, hc⟩ := hφ;have sp : ∃ A B, jA = aH A B ∧
     (∃ o i' m' sd', A [.io<|Fl ns i m sd c, .v (.int n), .e, .e] = some (.nx [.io<|Fl ns i' m' sd' c, .v (.int n), o, .e]) ∧ 0 ≤ i' ∧ 0 ≤ m' ∧ 0 ≤ sd') ∧
     (∀ o i m sd, 0 ≤ i → 0 ≤ m → 0 ≤ sd → ∃ d φ' s3, B [.io<|Fl ns i m sd c, .v (.int n), o, .e] = some (.rt (.d<|.int d) [.io φ', .v (.int n), o, s3]) ∧ 0 ≤ d ∧ d < n ∧ cT φ') := by
    refine ⟨_, _, rfl, ?_, ?_⟩
    · by_cases c1 : m = 0
      · subst c1
        by_cases c2 : i < ((ns.map D.int).length : Int)
        · obtain ⟨v, hv, hm', _⟩ := xw hi c2
          obtain ⟨z, _, rfl⟩ := List.mem_map.mp hm';have t2 : lO (aC<|Sy S9 (Sy SA (aF 0)<|fC<|.int 2)<|fC<|.int 0) (aC<|Sy Uy (Sy SA (aF 0)<|fC<|.int 1)<|SF b9<|aa (Sy SA (aF 0)<|fC<|.int 0) ag) [.io<|Fl ns i 0 sd c, .v (.int n), .e, .e] = some (true, [.io<|Fl ns i 0 sd c, .v (.int n), .e, .e]) :=
            sI rfl (eW (b := decide (i < ((ns.map D.int).length : Int))) rfl<|Af c2)
          by_cases c3 : (10 : Int) ^ (18 : Int).toNat ≤ z
          · have p18 : (0 : Int) ≤ 10 ^ (18 : Int).toNat := by decide
            refine ⟨.v<|.int z, i + 1, z, sd, (eO t2<|aj (cO (x := .int z) (ay rfl rfl rfl rfl<|fw hv) rfl)<|aj rfl<|eO (eW (b := decide ((10 : Int) ^ (18 : Int).toNat ≤ z)) rfl<|Af c3) ?_), by lia, by lia, hs⟩
            rfl
          · exact ⟨.v<|.int z, i + 1, 0, (sd * 40013 + z % 1000003 + 1) % 2147483647, (eO t2<|aj (cO (x := .int z) (ay rfl rfl rfl rfl<|fw hv) rfl)<|aj rfl<|dm (eW (b := decide ((10 : Int) ^ (18 : Int).toNat ≤ z)) rfl<|Ae c3)<|iS (ay (ay (ay (ay rfl rfl rfl rfl<|ye (j := 40013)<|.inr ⟨by decide, by decide⟩) rfl rfl rfl rfl) rfl rfl rfl rfl) rfl rfl rfl rfl) rfl rfl rfl rfl rfl rfl rfl rfl), by lia, by lia, BM _ (by decide)⟩
        · exact ⟨.e, i, 0, sd, (dm (sI rfl<|eW (b := decide (i < ((ns.map D.int).length : Int))) rfl<|Ae c2) rfl), hi, hm, hs⟩
      · refine ⟨.e, i, m, sd, ?_, hi, hm, hs⟩
        have e : decide (V.int m = V.int 0) = false := Ae λz => c1 (V.int.inj z);exact dm (MV<|eW (b := decide (V.int m = V.int 0)) rfl e) rfl
    · intro o i m sd hi hm hs
      by_cases c1 : 0 < m
      · refine ⟨m % n, Fl ns i (m / n) sd c, .v (.int<|m % n), (gK<|eO (eW (b := decide (0 < m)) rfl<|Af c1)<|aj (cO (ay rfl rfl rfl rfl<|IV h0) rfl)<|aj (iS (ay rfl rfl rfl rfl<|Px ⟨h0, by lia⟩) rfl rfl rfl rfl rfl rfl rfl rfl) ?_), BM _ (by lia), CY _ h0, ⟨ns, i, m / n, sd, c, rfl, hi, Int.ediv_nonneg hm (by lia), hs, hc⟩⟩
        rfl
      · refine ⟨(((sd * 48271 + 12820163 + (c + 1)) % 2147483647 % 65521 + 1) * ((sd * 48271 + 12820163 + (c + 1)) % 2147483647 / 65521 + 7919) % 1000003 / 7) % n, Fl ns i m ((sd * 48271 + 12820163 + (c + 1)) % 2147483647) (c + 1), .e, ?_, ?_, ?_, ⟨ns, i, m, _, _, rfl, hi, hm, BM _ (by decide), by lia⟩⟩
        · refine aj (dm (eW (b := decide (0 < m)) rfl<|Ae c1) rfl) (aj rfl<|aj (iS (ay (ay (ay (ay rfl rfl rfl rfl<|ye (j := 48271)<|.inr ⟨by decide, by decide⟩) rfl rfl rfl rfl) rfl rfl rfl rfl) rfl rfl rfl rfl) rfl rfl rfl rfl rfl rfl rfl rfl) ?_)
          have a := BM ((sd * 48271 + 12820163 + (c + 1)) % 2147483647) (show (65521 : Int) ≠ 0 by decide)
          have b := CY ((sd * 48271 + 12820163 + (c + 1)) % 2147483647) (show (0 : Int) < 65521 by decide)
          exact aO<|ay (ay (ay (ay rfl rfl rfl rfl<|ye<|.inl ⟨by lia, by lia⟩) rfl rfl rfl rfl) rfl rfl rfl rfl) rfl rfl rfl<|IV h0
        · exact BM _ (by lia)
        · exact CY _ h0
  obtain ⟨A, B, eF, ⟨o, i', m', sd', eA, hi', hm', hs'⟩, hB⟩ := sp;obtain ⟨d, φ', s3, eB, h2, h3, h4⟩ := hB o i' m' sd' hi' hm' hs';refine ⟨d, φ', (de (o := .rt (.d<|.int d) [.io φ', .v (.int n), o, s3]) rfl ?_ rfl), h2, h3, h4⟩;rw [eF];exact aj eA eB
open VL
def mM(hφ:cT φ)(h0:0<=k)(h1:k<=100):∃x φ',dU φ [.int k]=some ((.str x,false),φ')/\(x.length:Int)=k/\Lw x/\cT φ':=by
 have hE:(Str.ofString "").length=0:=by decide +kernel
 have cl:=sJ (fg:=gN 0) (fc:=cM) (k:=1) (fe:=Sy SA (fC<|.str "abcdefghijklmnopqrstuvwxyz")<|S5 aP 1<|aa (fC<|.int 26) ag)
  (λpre sb=>∃φ' ys,sb=[.e,.io φ']/\cT φ'/\pre=ys.map D.str/\∀y∈ys,∃c,y=(⟨#[c]⟩:Str)/\97<=c/\c<=122) (by
   rintro pre x sb ⟨φ',ys,rfl,hf,rfl,hy⟩;obtain⟨d,φ2,e,d0,d1,hf2⟩:=cI (n:=26) hf (by decide) (by decide)
   obtain⟨c,hc,hm,_⟩:=xw (xs:=X7.cps.toList) d0 (by rw[qB,List.length_range'];exact d1)
   refine⟨[.v x,.io φ'],[.v x,.io φ'],.d<|.str ⟨#[c]⟩,[.v x,.io φ2],.str ⟨#[c]⟩,[.v x,.io φ2],rfl,rfl,ay rfl (cC rfl rfl rfl rfl rfl rfl e) rfl rfl<|ix_str (by decide +kernel) hc,rfl,φ2,ys++[⟨#[c]⟩],rfl,hf2,by rw[Yc];rfl,λy hy2=>?_⟩
   rcases Qb.mp hy2 with z|z
   ·exact hy y z
   ·have:y=⟨#[c]⟩:=by simpa using z
    rw[qB,List.mem_range'_1]at hm
    exact⟨c,this,by lia⟩)
  (rng 0 k.toNat) [] [.e,.io φ] ⟨φ,[],rfl,hφ,rfl,λy hy=>by cases hy⟩
 obtain⟨ds,sf,e1,e2,φ',ys,rfl,hf,e3,hy⟩:=cl;rw[Wj]at e3;subst e3;rw[iq,Ya]at e2;have hy':∀y∈ys,∃c,y=(⟨#[c]⟩:Str):=λy h=>by obtain⟨c,e,_⟩:=hy y h;exact⟨c,e⟩
 refine⟨Txt.join (Str.ofString "") ys,φ',?_,by rw[join_ones hy'];lia,IE hy,hf⟩
 have hj:G6 (.str "") [.lst<|ys.map D.str]=some (.str<|Txt.join (Str.ofString "") ys,false):=by
  show(iH<|ys.map D.str).bind (λys=>if (ys.map (·.length)).sum+ys.length*(Str.ofString "").length<=16777216 then some (D.str<|Txt.join (Str.ofString "") ys,false) else none)=_;rw[ji];show(if _ then _ else _)=_;rw[Ag (by rw[IF hy',hE];lia)]
 refine de (o:=.rt (.d<|.str<|Txt.join (Str.ofString "") ys) [.io φ',.v<|.int k]) rfl ?_ rfl
 exact aO (Hs rfl rfl rfl (af (cb (fD rfl rfl ⟨by lia,by lia⟩) (by
  show(true&&decide ((rng 0 k.toNat).length<=1000000))=true
  rw[iq,Af (by lia)];rfl) e1) rfl) rfl rfl hj)
abbrev w1:List Str:=["to","turn","turns","ring","rings","odd","ours","row","rows","cuts","knots","cover"]
abbrev w2:List Str:=["change","joins","theirs","one","two","home","none","open","keep","tox","onex"]
abbrev Xo:List Str:=w1++w2
def okN(x:Str):Ss:=decide (1<=x.length/\x.length<=6)&&x.cps.toList.all λc=>decide<|97<=c/\c<=122
def Py(h:okN x=true):Nm x:=by
 unfold okN at h;rw[Zj,decide_eq_true_eq,Vj]at h;exact⟨h.1.1,h.1.2,λc hc=>An<|h.2 c hc⟩
def IW:∀v∈Xo,okN v=true:=Vj.mp (by decide +kernel)
def LA{st:Str}(hφ:cT φ)(hst:st.length<=4)(lst:Lw st):∃x φ',mE φ [.str st]=some ((.str x,false),φ')/\Nm x/\cT φ':=by
 by_cases c0:st=""
 ·subst c0;obtain⟨d,φ1,e1,d0,d1,f1⟩:=cI (n:=7) hφ (by decide) (by decide)
  by_cases c1:d=0
  ·subst c1;obtain⟨d2,φ2,e2,d20,d21,f2⟩:=cI (n:=23) f1 (by decide) (by decide)
   obtain⟨v,hv,hm,_⟩:=xw (xs:=Xo.map D.str) d20 (by rw[Ya];exact d21)
   obtain⟨x,hx,rfl⟩:=Qc.mp hm;exact⟨x,φ2,(de (o:=.rt (.d<|.str x) [.io φ2,.v<|.str "",.o<|.lst<|Xo.map D.str]) rfl (aj rfl<|gK<|eO (aI (ay (cC rfl rfl rfl rfl rfl rfl e1) rfl rfl rfl rfl) rfl)<|aj rfl<|aj rfl<|aO<|ay rfl (cC rfl rfl rfl rfl rfl rfl e2) rfl rfl<|fw hv) rfl),Py<|IW x hx,f2⟩
  ·obtain⟨d2,φ2,e2,d20,d21,f2⟩:=cI (n:=6) f1 (by decide) (by decide)
   obtain⟨x,φ3,e3,hx,lx,f3⟩:=mM (k:=1+d2) f2 (by lia) (by lia)
   refine⟨x,φ3,(de (o:=.rt (.d<|.str x) [.io φ3,.v<|.str "",.e]) rfl (aj rfl ?_) rfl),⟨by lia,by lia,lx⟩,f3⟩
   have t:decide (V.int d=V.int 0)=false:=Ae λz=>c1<|V.int.inj z;exact aj (dm (eW (b:=decide<|V.int d=V.int 0) (aI (ay (cC rfl rfl rfl rfl rfl rfl e1) rfl rfl rfl rfl) rfl) t) rfl)<|aO<|cC rfl rfl (af (ay rfl (cC rfl rfl rfl rfl rfl rfl e2) rfl rfl rfl) rfl) rfl rfl rfl e3
 ·obtain⟨d,φ1,e1,d0,d1,f1⟩:=cI (n:=2) hφ (by decide) (by decide)
  obtain⟨x,φ2,e2,hx,lx,f2⟩:=mM (k:=1+d) f1 (by lia) (by lia)
  refine⟨st++x,φ2,(de (o:=.rt (.d<|.str<|st++x) [.io φ2,.v<|.str st,.e]) rfl (gK ?_) rfl),⟨by rw[AN];lia,by rw[AN];lia,lst.app lx⟩,f2⟩
  have t:(!decide (V.str st=V.str ""))=true:=by rw[Ae<|λz=>c0<|V.str.inj z];rfl
  exact eO (eW (b:=!decide (V.str st=V.str "")) rfl t)<|aO<|ay rfl (cC rfl rfl (af (ay rfl (cC rfl rfl rfl rfl rfl rfl e1) rfl rfl rfl) rfl) rfl rfl rfl e2) rfl rfl<|pE<|by lia
end K14
namespace VF
open PySem L2
def bG{s t:Sl}{st s1:En}(h:st[i]?=some t)(n:t.isIo=false)(e:st.set i s=s1:=by rfl):rF i s st=some s1:=by
 unfold rF;rw[h];show(if t.isIo=true then none else some (st.set i s))=_;rw[Ak (by rw[n];decide),e]
def cN{xs:Se D}(h:xs.length<1000000):br (.lst xs) [y]=some (.non,.lst<|xs++[y]):=by
 show(if xs.length<1000000 then some (D.non,D.lst<|xs++[y]) else none)=_;rw[Ag h]
def wy{xs:Se D}{i:Int}(h0:0<=i)(h1:i<xs.length)(h2:xs.length<=1000000)(hk:i.toNat<xs.length):j8 (.lst xs) [.int i]=some (xs[i.toNat],.lst<|xs.eraseIdx i.toNat):=by
 show(if -(2 ^ 63)<=i/\i<2 ^ 63 then(seqIndex? i xs.length).bind λk=>(xs[k]?).bind λy=>some (y,D.lst<|xs.eraseIdx k) else none)=_;rw[Ag ⟨by lia,by lia⟩,PySem.seqIndex_of h0 h1]
 show(xs[i.toNat]?).bind (λy=>some (y,D.lst<|xs.eraseIdx i.toNat))=_;rw[Za hk];rfl
def jH{α:Type}{f:α->D}{g:D->α}(hg:∀a,g (f a)=a){ys:Se D}{xs:Se α}(p:ys.Perm (xs.map f)):∃zs:Se α,ys=zs.map f/\zs.Perm xs:=by
 have h1:∀y∈ys,∃z,y=f z:=λy hy=>by
  obtain⟨z,_,rfl⟩:=Qc.mp<|p.mem_iff.mp hy;exact⟨z,rfl⟩
 refine⟨ys.map g,?_,?_⟩
 ·rw[Zf];refine(BQ ys).symm.trans (Qj λy hy=>?_);obtain⟨z,rfl⟩:=h1 y hy;show f z=f (g<|f z);rw[hg]
 ·have:=p.map g;rw[Zf]at this;exact this.trans<|Dv<|(Qj λz _=>hg z).trans (BQ xs)
end VF
namespace K14
open PySem L2 VF VL
def IX(hφ:cT φ)(h0:0<=n)(h1:n<=100):∃(xs:Se Str)(φ':D),kB φ [.int n]=some ((.lst<|xs.map D.str,true),φ')/\(xs.length:Int)=n/\(∀x∈xs,Nm x)/\xs.Nodup/\cT φ':=by
 obtain⟨d,φ1,e1,d0,d1,f1⟩:=cI (n:=3) hφ (by decide) (by decide)
 have sp:∃A B C R,iz=aH A (aH B<|aH C R) /\
   (∃st φ2,A [.io φ,.v (.int n),.e,.e,.e,.e,.e]=some (.nx [.io φ,.v (.int n),.v (.str ""),.e,.e,.e,.e])/\B [.io φ,.v (.int n),.v (.str ""),.e,.e,.e,.e]=some (.nx [.io φ2,.v (.int n),.v (.str st),.e,.e,.e,.e]) /\
    C [.io φ2,.v (.int n),.v (.str st),.e,.e,.e,.e]=some (.nx [.io φ2,.v (.int n),.v (.str st),.o (.lst []),.e,.e,.e])/\cT φ2/\st.length<=4/\Lw st) /\
   (∀st φ2,cT φ2->st.length<=4->Lw st->∃(xs:Se Str)(φ':D)(o4 o5 o6:Sl),R [.io φ2,.v<|.int n,.v<|.str st,.o<|.lst [],.e,.e,.e]=some (.rt (.s 3) [.io φ',.v<|.int n,.v<|.str st,.o<|.lst<|xs.map D.str,o4,o5,o6])/\(xs.length:Int)=n/\(∀x∈xs,Nm x)/\xs.Nodup/\cT φ'):=by
  refine⟨_,_,_,_,rfl,?_,?_⟩
  ·by_cases c:d=0
   ·subst c;obtain⟨d2,φ2,e2,d20,d21,f2⟩:=cI (n:=4) f1 (by decide) (by decide)
    obtain⟨x,φ3,e3,hx,lx,f3⟩:=mM (k:=1+d2) f2 (by lia) (by lia)
    exact⟨x,φ3,rfl,(eO (aI (ay (cC rfl rfl rfl rfl rfl rfl e1) rfl rfl rfl rfl) rfl)<|cO (cC rfl rfl (af (ay rfl (cC rfl rfl rfl rfl rfl rfl e2) rfl rfl rfl) rfl) rfl rfl rfl e3) rfl),rfl,f3,by lia,lx⟩
   ·refine⟨"",φ1,rfl,?_,rfl,f1,by decide +kernel,IG⟩
    have t:decide (V.int d=V.int 0)=false:=Ae λz=>c<|V.int.inj z;exact dm (eW (b:=decide<|V.int d=V.int 0) (aI (ay (cC rfl rfl rfl rfl rfl rfl e1) rfl rfl rfl rfl) rfl) t) rfl
  ·intro st φ2 f2 hst lst
   have lp:∀(fg:FG)(B:FS),fg=gN 4->(∀(φ':D)(xs:Se Str)(k:D)(o5 o6:Sl),cT φ'->xs.length<=200->(∀x∈xs,Nm x)->xs.Nodup->xs.length<=110->o5.isIo=false->o6.isIo=false->
     ∃φ2 x o6',B [.io φ',.v (.int n),.v (.str st),.o (.lst (xs.map D.str)),.v k,o5,o6]=some (.nx [.io φ2,.v (.int n),.v (.str st),.o (.lst ((xs++[x]).map D.str)),.v k,.v (.str x),.v o6'])/\cT φ2/\Nm x/\x∉xs)->
     ∃(xs:Se Str)(φ':D)(o4 o5 o6:Sl),aH (fP (nQ<|aa (aF 1) ag) fg B) (bx<|aF 3) [.io φ2,.v<|.int n,.v<|.str st,.o<|.lst [],.e,.e,.e]=some (.rt (.s 3) [.io φ',.v<|.int n,.v<|.str st,.o<|.lst<|xs.map D.str,o4,o5,o6])/\(xs.length:Int)=n/\(∀x∈xs,Nm x)/\xs.Nodup/\cT φ':=by
    intro fg B hfg hB;subst hfg;obtain⟨sf,e,φ',xs,o4,o5,o6,rfl,hf,hl,hx,nd,_⟩:=qo (fg:=gN 4) (B:=B) (rng 0 n.toNat) (λgone s=>∃(φ':D)(xs:Se Str)(o4 o5 o6:Sl),s=[.io φ',.v<|.int n,.v<|.str st,.o<|.lst<|xs.map D.str,o4,o5,o6]/\cT φ'/\xs.length=gone.length/\(∀x∈xs,Nm x)/\xs.Nodup/\o4.isIo=false/\o5.isIo=false/\o6.isIo=false)
     (λgone x rest s ha zz8=>by
      obtain⟨φ',xs,o4,o5,o6,hs,hf,hl,hx,nd,q4,q5,q6⟩:=zz8;subst hs;have hg:=congrArg List.length ha;rw[iq,Xa,Wc]at hg;obtain⟨φ3,y,o6',eB,f3,ny,hy⟩:=hB φ' xs x o5 o6 hf (by lia) hx nd (by lia) q5 q6
      refine⟨_,_,bG rfl q4,eB,φ3,xs++[y],.v x,.v<|.str y,.v o6',rfl,f3,by simp[hl],λz hz=>?_,?_,rfl,rfl,rfl⟩
      ·rcases Qb.mp hz with w|w
       ·exact hx z w
       ·have:z=y:=by simpa using w
        rw[this];exact ny
      ·rw[Xk]
       exact⟨nd,by simp,λa ha b hb e=>by
        have:b=y:=by simpa using hb
        subst this;subst e;exact hy ha⟩) (rng 0 n.toNat) [] [.io φ2,.v (.int n),.v (.str st),.o (.lst []),.e,.e,.e] rfl ⟨φ2,[],.e,.e,.e,rfl,f2,rfl,λx hx=>(by cases hx),Bu,rfl,rfl,rfl⟩
    rw[iq]at hl;exact⟨xs,φ',o4,o5,o6,aj (cY (fD rfl rfl ⟨by lia,by lia⟩) e) rfl,by lia,hx,nd,hf⟩
   refine lp _ _ rfl ?_;intro φ' xs k o5 o6 hf _ hx nd hl q5 q6;obtain⟨x,φ3,e3,nx,f3⟩:=LA hf hst lst;obtain⟨sf,ew,s',y,rfl,ny,hy⟩:=ue (f:=aC<|Sy TY (aF 5)<|aF 3) (B:=aH (bc (Sy mZ (Sy SA (fC<|.str "abcdefghijklmnopqrstuvwxyz")<|Sy qi (aF 6)<|fC<|.int 26)<|Sy cK (fC<|.int 1)<|Sy xD (aF 6)<|fC<|.int 26) 5)<|bc (Sy cK (aF 6)<|fC<|.int 1) 6)
    (λm s=>∃(j:Nat)(x:Str),s=[.io φ3,.v<|.int n,.v<|.str st,.o<|.lst<|xs.map D.str,.v k,.v<|.str x,.v<|.int j]/\Nm x/\m+j=xs.length+2/\j<=xs.length+1/\(∀i,i+1<j->word i∈xs)/\(j=0\/x=word (j-1)))
    (λs=>∃(j:Nat)(x:Str),s=[.io φ3,.v<|.int n,.v<|.str st,.o<|.lst<|xs.map D.str,.v k,.v<|.str x,.v<|.int j]/\Nm x/\x∉xs)
    (by
     rintro m s ⟨j,x,rfl,nx,hm,hj,hw,hxj⟩;by_cases c:x∈xs
     ·right;have hall:∀i,i<j->word i∈xs:=λi hi=>by
       rcases hxj with z|z
       ·lia
       ·by_cases e:i+1<j
        ·exact hw i e
        ·have:i=j-1:=by lia
         rw[this,<-z];exact c
      have hle:=Fq hall;obtain⟨m',rfl⟩:∃m',m=m'+1:=⟨m-1,by lia⟩
      have d0:(0:Int)<=1+(j:Int) / 26:=Int.add_nonneg (by decide)<|Int.ediv_nonneg (CW j)<|by decide
      have d1:1+(j:Int) / 26<=1000:=Int.le_trans (Int.add_le_add_left (Int.ediv_le_self 26<|CW j) 1) (by lia)
      refine⟨_,[.io φ3,.v<|.int n,.v<|.str st,.o<|.lst<|xs.map D.str,.v k,.v<|.str<|word j,.v<|.int ((j+1:Nat):Int)],m',eW (aI (ay rfl rfl rfl rfl MW) rfl)<|Af c,(aj (cO (ay (ay rfl rfl rfl rfl<|ix_str (by decide +kernel)<|Pq j) (ay rfl rfl rfl rfl rfl) rfl rfl<|uf ⟨d0,d1,(by show 1<=1000;decide)⟩) rfl) ?_),AW _,j+1,word j,rfl,Lr<|by lia,by lia,Dj hle,λi hi=>hall i<|by lia,.inr rfl⟩
      rfl
     ·left
      exact⟨_,eW (aI (ay rfl rfl rfl rfl MW) rfl) (Ae c),j,x,rfl,nx,c⟩)
    200 (xs.length+2) [.io φ3,.v<|.int n,.v<|.str st,.o<|.lst<|xs.map D.str,.v k,.v<|.str x,.v<|.int 0] (by lia) ⟨0,x,rfl,nx,rfl,Vh _,λi hi=>absurd hi<|by lia,.inl rfl⟩
   refine⟨φ3,y,.int s',(aj (cO (cC rfl rfl rfl rfl rfl rfl e3)<|bG rfl q5)<|aj (cO (x:=.int 0) rfl<|bG rfl q6)<|aj ew<|bM<|eY rfl rfl rfl rfl rfl rfl rfl (cN (by rw[Ya];lia)) ?_),f3,ny,hy⟩
   rw[Yc];rfl
 obtain⟨A,B,C,R,eF,⟨st,φ2,eA,eB,eC,f2,hst,lst⟩,hR⟩:=sp;obtain⟨xs,φ',o4,o5,o6,eR,hl,hx,nd,hf⟩:=hR st φ2 f2 hst lst;refine⟨xs,φ',(de (o:=.rt (.s 3) [.io φ',.v<|.int n,.v<|.str st,.o<|.lst<|xs.map D.str,o4,o5,o6]) rfl ?_ rfl),hl,hx,nd,hf⟩;rw[eF];exact aj eA<|aj eB<|aj eC eR
def LB{xs:Se D}(hφ:cT φ)(hx:xs.length<=200):∃(ys:Se D)(φ':D),g6 φ [.lst xs]=some ((.lst ys,true),φ')/\ys.Perm xs/\cT φ':=by
 obtain⟨sf,ew,ts,φ',rfl,pm,hf⟩:=ue (f:=aC<|Sy TF (aF 2)<|cP ag) (B:=bY<|fM SY br 3<|aa (fM SY j8 2<|aa (S5 aP 0<|aa (SF b9<|aa (aF 2) ag) ag) ag) ag)
  (λm s=>∃(ls ts:Se D)(φ':D),s=[.io φ',.v<|.lst xs,.o<|.lst ls,.o<|.lst ts]/\cT φ'/\(ts++ls).Perm xs/\m=ls.length)
  (λs=>∃(ts:Se D)(φ':D),s=[.io φ',.v<|.lst xs,.o<|.lst [],.o<|.lst ts]/\ts.Perm xs/\cT φ')
  (by
   rintro m s ⟨ls,ts,φ',rfl,hf,pm,rfl⟩;have hlen:ts.length+ls.length=xs.length:=by have:=pm.length_eq;rw[Xa]at this;exact this
   cases ls with
   |nil=>
    rw[We]at pm;exact .inl ⟨_,rfl,ts,φ',rfl,pm,hf⟩
   |cons y lr=>
    right;have hl0:(y::lr).length=lr.length+1:=rfl;obtain⟨d,φ2,e,d0,d1,f2⟩:=cI (n:=((y::lr).length:Int)) hf (by lia) (by lia)
    have hk:d.toNat<(y::lr).length:=by lia
    refine⟨_,[.io φ2,.v<|.lst xs,.o<|.lst<|(y::lr).eraseIdx d.toNat,.o<|.lst<|ts++[(y::lr)[d.toNat]]],((y::lr).eraseIdx d.toNat).length,rfl,?_,?_,_,_,φ2,rfl,f2,?_,rfl⟩
    ·exact bM<|eY rfl rfl rfl (af (eY rfl rfl rfl (af (cC rfl rfl rfl rfl rfl rfl e) rfl) rfl rfl rfl<|wy d0 d1 (by lia) hk) rfl) rfl rfl rfl<|cN<|by lia
    ·rw[List.length_eraseIdx_of_lt hk];lia
    ·refine List.Perm.trans ?_ pm;rw[Yd]
     exact AL ts (qC hk))
  300 xs.length [.io φ,.v<|.lst xs,.o<|.lst xs,.o<|.lst []] (by lia) ⟨xs,[],φ,rfl,hφ,List.Perm.refl _,rfl⟩
 exact⟨ts,φ',(de (o:=.rt (.s 3) [.io φ',.v<|.lst xs,.o<|.lst [],.o<|.lst ts]) rfl (aj rfl<|aj rfl<|aj ew rfl) rfl),pm,hf⟩
end K14
namespace VF
open PySem L2
def wz(xs:Se D):bn [.lst xs]=some (.tup xs,false):=rfl
def Pz{xs ys:Se D}(h:xs.length+ys.length<=1000000):jg (.lst xs) [.tup ys]=some (.non,.lst<|xs++ys):=by
 show(if xs.length+ys.length<=1000000 then some (D.non,D.lst<|xs++ys) else none)=_;rw[Ag h]
end VF
namespace K14
open PySem L2 VF VL
abbrev Sz(p:Bool×Str):D:=.str<|bd p
abbrev aR:=Bool×List (Bool×Str)
def kd(r:Ss):Str:=if r then "ring" else "open"
def SH(s:aR):D:=.tup [.str<|kd s.1,.tup<|s.2.map Sz]
def kL(h:Nm p.2):(bd p).length<=1000000:=by have:=(qD h).2;lia
def LC{xs:Se Str}(hφ:cT φ)(hx:xs.length<=200)(nm:∀x∈xs,Nm x):∃(ps:Se (Ss×Str))(φ':D),g9 φ [.lst<|xs.map D.str]=some ((.tup<|ps.map Sz,false),φ')/\(ps.map (·.2)).Perm xs/\cT φ':=by
 obtain⟨ys,φ1,e1,pm,f1⟩:=LB (xs:=xs.map D.str) hφ (by rw[Ya];exact hx)
 obtain⟨zs,rfl,pz⟩:=jH (g:=λd=>match d with|.str z=>z|_=>Str.empty) (λ_=>rfl) pm
 have hzl:=pz.length_eq;have nz:∀z∈zs,Nm z:=λz hz=>nm z<|pz.mem_iff.mp hz;obtain⟨ds,sf,ec,φ2,ps,rfl,f2,e3,e4⟩:=sM (fg:=gN 0) (fc:=cM) (k:=1) (fe:=Sy cK (Sy mZ (fC<|.str "-")<|S5 aP 1<|aa (fC<|.int 2) ag)<|aF 0) (zs.map D.str)
  (λgone pre sb=>∃(φ':D)(ps:Se (Ss×Str)),sb=[.e,.io φ']/\cT φ'/\pre=ps.map Sz/\gone=(ps.map (·.2)).map D.str)
  (by
   rintro gone x rest pre sb ha ⟨φ',ps,rfl,hf,rfl,rfl⟩;obtain⟨d,φ2,e,d0,d1,f2⟩:=cI (n:=2) hf (by decide) (by decide)
   have hxm:x∈zs.map D.str:=by rw[ha];simp
   obtain⟨z,hz,rfl⟩:=Qc.mp hxm;have hm:=sV (d:=d) (n:=z) d0 d1;refine⟨[.v<|.str z,.io φ'],[.v<|.str z,.io φ'],.d<|Sz (decide<|d=1,z),[.v<|.str z,.io φ2],Sz (decide<|d=1,z),[.v<|.str z,.io φ2],rfl,rfl,(ay (ay rfl (cC rfl rfl rfl rfl rfl rfl e) rfl rfl<|uf ⟨d0,by lia,by decide +kernel⟩) rfl rfl rfl (pE ?_) ?_),rfl,φ2,ps++[(decide<|d=1,z)],rfl,f2,by rw[Yc];rfl,by rw[Yc,Yc];rfl⟩
   ·have:=(qD (p:=(decide<|d=1,z))<|nz z hz).2;rw[<-hm,AN]at this;show(Txt.mul minus d).length+z.length<=_;lia
   ·show Rs.d (D.str<|Txt.mul minus d++z)=_
    rw[hm])
  (zs.map D.str) [] [] [.e,.io φ1] rfl ⟨φ1,[],rfl,f1,rfl,rfl⟩
 rw[Wj]at e3;subst e3;have e5:zs=ps.map (·.2):=by
  have:=congrArg (List.map (λd:D=>match d with|.str z=>z|_=>Str.empty)) e4
  rw[Zf,Zf]at this;exact((BQ zs).symm.trans this).trans (BQ _)
 refine⟨ps,φ2,(de (o:=.rt (.d<|.tup<|ps.map Sz) [.io φ2,.v<|.lst<|xs.map D.str]) rfl (aO<|aL (af (cb (vW (cC rfl rfl rfl rfl rfl rfl e1) rfl) ?_ ec) rfl) rfl rfl) rfl),by rw[<-e5];exact pz,f2⟩
 show(true&&decide ((zs.map D.str).length<=1000000))=true;rw[Ya,Af<|by lia];rfl
theorem jI:∀(ss:Se aR),(∀s∈ss,s.2≠[])->ss.length<=(ss.flatMap (·.2)).length
 |[],_=>Qa _
 | s::r,h=>by
  have ih:=jI r λx hx=>h x<|Wb _ hx;have hs:1<=s.2.length:=by
   cases e:s.2 with|nil=>exact absurd e (h s Zc)|cons _ _=>simp
  rw[Yf,Xa,Wc];lia
def PB{xs:Se Str}(hφ:cT φ)(hx:xs.length<=200)(nm:∀x∈xs,Nm x):∃(ss:Se aR)(φ':D),n8 φ [.lst<|xs.map D.str,.bl true]=some ((.tup<|ss.map SH,false),φ')/\(∀s∈ss,s.2≠[])/\((ss.flatMap (·.2)).map (·.2)).Perm xs/\cT φ':=by
 obtain⟨ps,φ1,e1,pm,f1⟩:=LC hφ hx nm;have hpl:ps.length=xs.length:=by have:=pm.length_eq;rw[Ya]at this;exact this
 have lp:∀(B:FS),(∀(φ':D)(ss:Se aR)(piece:Se (Ss×Str))(b:Ss×Str),cT φ'->(∀s∈ss,s.2≠[])->ss.length<=300->piece.length<=300->
    ∃(φ2:D)(ss2:Se aR)(piece2:Se (Ss×Str)),B [.io φ',.v (.lst (xs.map D.str)),.v (.bl true),.o (.lst (ss.map SH)),.o (.lst (piece.map Sz)),.v (Sz b)]=some (.nx [.io φ2,.v (.lst (xs.map D.str)),.v (.bl true),.o (.lst (ss2.map SH)),.o (.lst (piece2.map Sz)),.v (Sz b)])/\cT φ2/\(∀s∈ss2,s.2≠[])/\ss2.flatMap (·.2)++piece2=ss.flatMap (·.2)++piece++[b])->
   ∃(φ':D)(ss:Se aR)(piece:Se (Ss×Str))(o5:Sl),fP (S7<|S5 g9 0<|aa (aF 1) ag) (gN 5) B [.io φ,.v<|.lst<|xs.map D.str,.v<|.bl true,.o<|.lst [],.o<|.lst [],.e]=some (.nx [.io φ',.v<|.lst<|xs.map D.str,.v<|.bl true,.o<|.lst<|ss.map SH,.o<|.lst<|piece.map Sz,o5])/\cT φ'/\(∀s∈ss,s.2≠[])/\ss.flatMap (·.2)++piece=ps:=by
  intro B hB;obtain⟨sf,e,φ',ss,piece,o5,gp,rfl,hf,hne,hg,hgp,hgp3,_⟩:=qo (fg:=gN 5) (B:=B) (ps.map Sz) (λgone s=>∃(φ':D)(ss:Se aR)(piece:Se (Ss×Str))(o5:Sl)(gp:Se (Ss×Str)),s=[.io φ',.v<|.lst<|xs.map D.str,.v<|.bl true,.o<|.lst<|ss.map SH,.o<|.lst<|piece.map Sz,o5]/\cT φ'/\(∀s∈ss,s.2≠[])/\ss.flatMap (·.2)++piece=gp/\(∃r,gp++r=ps)/\gone=gp.map Sz/\o5.isIo=false)
   (by
    rintro gone x rest s ha ⟨φ',ss,piece,o5,gp,rfl,hf,hne,hg,⟨r,hr⟩,rfl,q5⟩;cases r with
    |nil=>
     rw[We]at hr;subst hr;have:=congrArg List.length ha;simp at this
    |cons b r=>
     have hb:Sz b=x:=by
      rw[<-hr,Yc]at ha;have:=List.append_cancel_left ha;exact(List.cons.inj this).1
     have hlen:=congrArg List.length hr;rw[Xa,Wc]at hlen;have hl2:=congrArg List.length hg;rw[Xa]at hl2;have hl3:=jI ss hne;obtain⟨φ2,ss2,piece2,eB,f2,hne2,hfl⟩:=hB φ' ss piece b hf hne (by lia) (by lia)
     subst hb
     exact⟨_,_,bG rfl q5,eB,φ2,ss2,piece2,.v (Sz b),gp++[b],rfl,f2,hne2,by rw[hfl,hg],⟨r,by rw[Yd];exact hr⟩,by rw[Yc];rfl,rfl⟩)
   (ps.map Sz) [] [.io φ1,.v<|.lst<|xs.map D.str,.v<|.bl true,.o<|.lst [],.o<|.lst [],.e] rfl ⟨φ1,[],[],.e,[],rfl,f1,λs hs=>(by cases hs),rfl,⟨ps,rfl⟩,rfl,rfl⟩
  obtain⟨⟨r,hr⟩,hgp2⟩:(∃r,gp++r=ps)/\ps.map Sz=gp.map Sz:=⟨hgp,hgp3⟩;have hlen:=congrArg List.length hgp2;rw[Ya,Ya]at hlen;have hl2:=congrArg List.length hr;rw[Xa]at hl2;have:r=[]:=Xe (by lia)
  subst this;rw[We]at hr;exact⟨φ',ss,piece,o5,cY (dS (cC rfl rfl rfl rfl rfl rfl e1) rfl) e,hf,hne,by rw[hg,hr]⟩
 have sp:∃B R,lF=aH (bc (cP ag) 3) (aH (bc (cP ag) 4)<|aH (fP (S7<|S5 g9 0<|aa (aF 1) ag) (gN 5) B) R) /\
   (∀(φ':D)(ss:Se aR)(piece:Se (Ss×Str))(b:Ss×Str),cT φ'->(∀s∈ss,s.2≠[])->ss.length<=300->piece.length<=300->
    ∃(φ2:D)(ss2:Se aR)(piece2:Se (Ss×Str)),B [.io φ',.v (.lst (xs.map D.str)),.v (.bl true),.o (.lst (ss.map SH)),.o (.lst (piece.map Sz)),.v (Sz b)]=some (.nx [.io φ2,.v (.lst (xs.map D.str)),.v (.bl true),.o (.lst (ss2.map SH)),.o (.lst (piece2.map Sz)),.v (Sz b)])/\cT φ2/\(∀s∈ss2,s.2≠[])/\ss2.flatMap (·.2)++piece2=ss.flatMap (·.2)++piece++[b]) /\
   (∀(φ':D)(ss:Se aR)(piece:Se (Ss×Str))(o5:Sl),ss.length<=300->(∀s∈ss,s.2≠[])->∃(ss2:Se aR)(s':En),R [.io φ',.v<|.lst<|xs.map D.str,.v<|.bl true,.o<|.lst<|ss.map SH,.o<|.lst<|piece.map Sz,o5]=some (.rt (.d<|.tup<|ss2.map SH) (.io φ'::s'))/\(∀s∈ss2,s.2≠[])/\ss2.flatMap (·.2)=ss.flatMap (·.2)++piece):=by
  refine⟨_,_,rfl,?_,?_⟩
  ·intro φ' ss piece b hf hne hs hp;have ap:bY (fM SY br 4<|aa (aF 5) ag) [.io φ',.v<|.lst<|xs.map D.str,.v<|.bl true,.o<|.lst<|ss.map SH,.o<|.lst<|piece.map Sz,.v<|Sz b]=some (.nx [.io φ',.v<|.lst<|xs.map D.str,.v<|.bl true,.o<|.lst<|ss.map SH,.o<|.lst<|(piece++[b]).map Sz,.v<|Sz b]) :=
    bM (eY rfl rfl rfl rfl rfl rfl rfl (cN (by rw[Ya];lia)) (by rw[Yc];rfl))
   have nw:∀(r:Ss),∀s∈ss++[(r,piece++[b])],s.2≠[]:=λr s hs=>by
    rcases Qb.mp hs with z|z
    ·exact hne s z
    ·have:s=(r,piece++[b]):=by simpa using z
     rw[this];simp
   have fl:∀(r:Ss),(ss++[(r,piece++[b])]).flatMap (·.2)++[]=ss.flatMap (·.2)++piece++[b]:=λr=>by
    rw[Qg];simp
   have ms:∀r,(ss++[(r,piece++[b])]).map SH=ss.map SH++[SH (r,piece++[b])]:=λr=>by rw[Yc];rfl
   have lss:(ss.map SH).length<1000000:=by rw[Ya];lia
   obtain⟨d,φ2,e2,d0,d1,f2⟩:=cI (n:=3) hf (by decide) (by decide)
   by_cases c:d=0
   ·subst c;refine⟨φ2,ss++[(false,piece++[b])],[],aj ap<|eO (aI (ay (cC rfl rfl rfl rfl rfl rfl e2) rfl rfl rfl rfl) rfl)<|aj (bM<|eY rfl rfl rfl rfl rfl rfl rfl (cN lss) (Wq:=[.io φ2,.v<|.lst<|xs.map D.str,.v<|.bl true,.o<|.lst<|(ss++[(false,piece++[b])]).map SH,.o<|.lst<|(piece++[b]).map Sz,.v<|Sz b]) (by rw[ms];rfl)) ?_,f2,nw false,fl false⟩
    rfl
   ·have t:decide (V.int d=V.int 0)=false:=Ae λz=>c<|V.int.inj z;obtain⟨d2,φ3,e3,d20,d21,f3⟩:=cI (n:=3) f2 (by decide) (by decide)
    have tst:∀s,aC (Sy S9 (S5 aP 0<|aa (fC<|.int 3) ag)<|fC<|.int 0) (.io φ2::s)=some (decide<|V.int d2=V.int 0,.io φ3::s):=λs=>aI (ay (cC rfl rfl rfl rfl rfl rfl e3) rfl rfl rfl rfl) rfl;by_cases c2:d2=0
    ·subst c2;refine⟨φ3,ss++[(true,piece++[b])],[],aj ap<|dm (eW (aI (ay (cC rfl rfl rfl rfl rfl rfl e2) rfl rfl rfl rfl) rfl) t)<|eO (sI rfl<|tst _)<|aj (bM<|eY rfl rfl rfl rfl rfl rfl rfl (cN lss) (Wq:=[.io φ3,.v<|.lst<|xs.map D.str,.v<|.bl true,.o<|.lst<|(ss++[(true,piece++[b])]).map SH,.o<|.lst<|(piece++[b]).map Sz,.v<|Sz b]) (by rw[ms];rfl)) ?_,f3,nw true,fl true⟩
     rfl
    ·have t2:decide (V.int d2=V.int 0)=false:=Ae λz=>c2<|V.int.inj z;exact⟨φ3,ss,piece++[b],aj ap<|dm (eW (aI (ay (cC rfl rfl rfl rfl rfl rfl e2) rfl rfl rfl rfl) rfl) t)<|dm (sI rfl<|eW (tst _) t2) rfl,f3,hne,by rw[Yd]⟩
  ·intro φ' ss piece o5 hs hne;cases piece with
   |nil=>
    exact⟨ss,_,aj (dm rfl rfl)<|aO<|aL rfl rfl rfl,hne,by rw[We]⟩
   |cons p pr=>
    refine⟨ss++[(false,p::pr)],[.v<|.lst<|xs.map D.str,.v<|.bl true,.o<|.lst<|(ss++[(false,p::pr)]).map SH,.o<|.lst<|(p::pr).map Sz,o5],?_,λs hs=>?_,by rw[Qg];simp⟩
    ·exact aj (eO rfl<|bM<|eY rfl rfl rfl rfl rfl rfl rfl (cN (by rw[Ya];lia)) (Wq:=[.io φ',.v<|.lst<|xs.map D.str,.v<|.bl true,.o<|.lst<|(ss++[(false,p::pr)]).map SH,.o<|.lst<|(p::pr).map Sz,o5]) (by rw[show(ss++[(false,p::pr)]).map SH=ss.map SH++[SH (false,p::pr)] from by rw[Yc];rfl];rfl))<|aO<|aL rfl rfl rfl
    ·rcases Qb.mp hs with z|z
     ·exact hne s z
     ·have:s=(false,p::pr):=by simpa using z
      rw[this];simp
 obtain⟨B,R,eF,hB,hR⟩:=sp;obtain⟨φ',ss,piece,o5,eL,hf,hne,hps⟩:=lp B hB;have hl2:=congrArg List.length hps;rw[Xa]at hl2;have hl3:=jI ss hne;obtain⟨ss2,s',eR,hne2,hfl⟩:=hR φ' ss piece o5 (by lia) hne
 refine⟨ss2,φ',(de (o:=.rt (.d<|.tup<|ss2.map SH) (.io φ'::s')) rfl ?_ rfl),hne2,by rw[hfl,hps];exact pm,hf⟩
 rw[eF];exact aj rfl<|aj rfl<|aj eL eR
end K14
namespace VF
open PySem L2
def LD(h:x∈rng 0 n):∃i:Nat,i<n/\x=.int i:=by
 obtain⟨i,hi⟩:=Yn h;obtain⟨h1,h2⟩:=GF hi;exact⟨i,h1,by rw[h2,DX]⟩
theorem pZ(xs:Se α)(d:D):xs.map (λ_=>d)=List.replicate xs.length d:=by
 induction xs with|nil=>rfl|cons x r ih=>rw[Wh,ih];rfl
end VF
namespace K14
open PySem L2 VF VL
def FC(h:Dp (n+1) u):bp (kC<|dQ n) 2 2 [u,u]=some (.bl true,false):=by
 have seqs:∀(ds:Se D),ds.length<=1000000->(∀d∈ds,Dp n d)->∀(u:D),(∀i d,Tb ds i=some d->SA u (.int i)=some (d,false))->
   cA (gN 0) cM (aX (dQ n)<|aa (Sy SA (aF 1)<|aF 0)<|aa (Sy SA (aF 2)<|aF 0) ag) 1 (rng 0 ((ds.length:Int)).toNat) [.e,.v u,.v u]=some (List.replicate ds.length<|D.bl true,[.e,.v u,.v u]):=λds hl hd u hu=>by
  have e:=nV (fg:=gN 0) (fc:=cM) (k:=1) (fe:=aX (dQ n) (aa (Sy SA (aF 1) (aF 0)) (aa (Sy SA (aF 2) (aF 0)) ag))) (λ_=>D.bl true) (rng 0 ((ds.length:Int)).toNat) [.e,.v u,.v u] (λx hx=>by
   obtain⟨i,hi,rfl⟩:=LD hx;have hi':i<ds.length:=by lia
   have ha:Tb ds (i:Int)=some ds[i]:=im<|Za hi';refine⟨[.v<|.int i,.v u,.v u],[.v<|.int i,.v u,.v u],.d<|.bl true,[.v<|.int i,.v u,.v u],[.v<|.int i,.v u,.v u],rfl,rfl,?_,rfl,rfl⟩
   exact aY (af (ay rfl rfl rfl rfl (hu _ _ ha)) (af (ay rfl rfl rfl rfl (hu _ _ ha)) rfl)) rfl (qm (hd _ (Qk hi'))) rfl)
  rw[e,pZ,iq];have:((ds.length:Int)).toNat=ds.length:=by lia
  rw[this]
 cases h with
 |bl _ b=>cases b<;>rfl
 |int _ i=>
  refine aN (o:=.rt (.d<|.bl true) [.v<|.int i,.v<|.int i]) rfl (aj rfl<|aj rfl<|gK<|eO rfl<|aO<|jh rfl rfl<|ay rfl rfl rfl rfl (z:=(.bl<|decide<|V.int i=V.int i,false)) rfl ?_) rfl;rw[Af rfl];rfl
 |non _=>rfl
 |str _ x=>
  refine aN (o:=.rt (.d<|.bl true) [.v<|.str x,.v<|.str x]) rfl (aj rfl<|aj rfl<|aj rfl<|gK<|eO rfl<|aO<|jh rfl rfl<|ay rfl rfl rfl rfl (z:=(.bl<|decide<|V.str x=V.str x,false)) rfl ?_) rfl;rw[Af rfl];rfl
 |@tup _ ds hl hd=>
  refine aN (o:=.rt (.d<|.bl true) [.v<|.tup ds,.v<|.tup ds]) rfl (aj rfl<|aj rfl<|aj rfl<|aj rfl<|aj rfl<|aO<|jh (s:=[.v<|.tup ds,.v<|.tup ds]) (r:=.d<|.bl<|decide<|V.int ds.length=V.int ds.length) rfl (by rw[Af rfl];rfl) ?_) rfl
  refine aL (af (cb (fD (j:=(ds.length:Int)) rfl rfl ⟨by lia,by lia⟩) (by
   show(true&&decide ((rng 0 ((ds.length:Int)).toNat).length<=1000000))=true
   rw[iq,Af (by lia)];rfl) (seqs ds hl hd (.tup ds) λi d h=>VF.ix_tup h)) rfl) rfl (ki _)
 |@lst _ ds hl hd=>
  refine aN (o:=.rt (.d<|.bl true) [.v<|.lst ds,.v<|.lst ds]) rfl (aj rfl<|aj rfl<|aj rfl<|aj rfl<|aj rfl<|aO<|jh (s:=[.v<|.lst ds,.v<|.lst ds]) (r:=.d<|.bl<|decide<|V.int ds.length=V.int ds.length) rfl (by rw[Af rfl];rfl) ?_) rfl
  refine aL (af (cb (fD (j:=(ds.length:Int)) rfl rfl ⟨by lia,by lia⟩) (by
   show(true&&decide ((rng 0 ((ds.length:Int)).toNat).length<=1000000))=true
   rw[iq,Af (by lia)];rfl) (seqs ds hl hd (.lst ds) λi d h=>fw h)) rfl) rfl (ki _)
end K14
namespace VF
open PySem L2
theorem IY{n:Nat}{d:D}:∀(es:Se D),CA n (d::es)->T9 n es->∃fs:Se D,fs.Perm (d::es)/\T9 n fs
 |[],_,_=>⟨[d],List.Perm.refl _,Wn _ _⟩
 | e::es,h,s=>by
  obtain⟨s1,s2⟩:=Ye.mp s;cases c:ltN n e d with
  |true=>
   have up:∀x∈d::es,x∈d::e::es:=λx hx=>by
    rcases Vc.mp hx with m|m
    ·rw[m];exact Zc
    ·exact Wb _<|Wb _ m
   obtain⟨fs,p,q⟩:=IY (n:=n) (d:=d) es (λa ha b hb=>h a (up a ha) b<|up b hb) s2;refine⟨e::fs,(p.cons e).trans (List.Perm.swap d e es),Ye.mpr ⟨λf hf=>?_,q⟩⟩;rcases Vc.mp (p.mem_iff.mp hf) with m|m
   ·rw[m];exact ux n e d c
   ·exact s1 f m
  |false=>
   refine⟨d::e::es,List.Perm.refl _,Ye.mpr ⟨λb hb=>?_,s⟩⟩;rcases Vc.mp hb with m|m
   ·rw[m];exact c
   ·cases k:ltN n b d with
    |false=>rfl
    |true=>
     rcases h.neg (a:=b) (b:=e) (c:=d) (by simp[m]) (by simp) (by simp) k with z|z
     ·rw[s1 b m]at z;cases z
     ·rw[c]at z;cases z
theorem yf{n:Nat}:∀(ds:Se D),CA n ds->∃es:Se D,es.Perm ds/\T9 n es
 |[],_=>⟨[],List.Perm.refl _,List.Pairwise.nil⟩
 | d::ds,h=>by
  obtain⟨es,p,q⟩:=yf ds λa ha b hb=>h a (Wb _ ha) b<|Wb _ hb;have pd:(d::es).Perm (d::ds):=p.cons d;obtain⟨fs,p2,q2⟩:=IY (n:=n) (d:=d) es (λa ha b hb=>h a (pd.mem_iff.mp ha) b<|pd.mem_iff.mp hb) q;exact⟨fs,p2.trans pd,q2⟩
def kM{n:Nat}{ds es:Se D}(h:CA n ds)(p:ds.Perm es):dA n ds=dA n es:=by
 obtain⟨fs,p1,q⟩:=yf ds h;rw[<-d7 h p1 q];exact d7 (λa ha b hb=>h a (p.mem_iff.mpr ha) b<|p.mem_iff.mpr hb) (p1.trans p) q
end VF
namespace K14
open PySem L2 VF VL
abbrev End:=Str×Int
def eD(e:End):D:=.tup [.str e.1,.int e.2]
abbrev SE:=List End
def jD(j:SE):D:=.tup<|j.map eD
def nq(n:Nat)(e:End):Pl (n+2) (eD e):=.tup λd hd=>by
 rcases Vc.mp hd with rfl|hd
 ·exact .str _ _
 ·obtain rfl:=Wa.mp hd;exact .int _ _
def oH(n:Nat)(j:SE):Pl (n+3) (jD j):=.tup λd hd=>by
 obtain⟨e,_,rfl⟩:=Qc.mp hd;exact nq n e
def T3:D->End|.tup [.str n,.int i]=>(n,i)|_=>(Str.empty,0)
def T4:D->SE|.tup es=>es.map T3|_=>[]
def IZ(e:End):T3 (eD e)=e:=rfl
def kN(j:SE):T4 (jD j)=j:=by
 show(j.map eD).map T3=j;rw[Zf];exact BQ j
def zV(n:Nat)(a b:End):Cp (n+2) (eD a) (eD b):=by
 intro i x y e1 e2
 match i,e1,e2 with
 |0,e1,e2=>
  have q1:D.str a.1=x:=by simpa using e1
  have q2:D.str b.1=y:=by simpa using e2
  subst q1 q2;trivial
 |1,e1,e2=>
  have q1:D.int a.2=x:=by simpa using e1
  have q2:D.int b.2=y:=by simpa using e2
  subst q1 q2;trivial
 |i+2,e1,_=>simp at e1
def zW(n:Nat)(a b:SE):Cp (n+3) (jD a) (jD b):=by
 intro i x y e1 e2;rw[Xd]at e1 e2;obtain⟨c,_,rfl⟩:=Wd.mp e1;obtain⟨d,_,rfl⟩:=Wd.mp e2;exact zV n c d
section
def aD(xs:Se End):Se End:=(dA 40<|xs.map eD).map T3
def bC(xs:Se SE):Se SE:=(dA 40<|xs.map jD).map T4
def I0(xs:Se End):CA 40 (xs.map eD):=λa ha b hb=>by
 obtain⟨e,_,rfl⟩:=Qc.mp ha;obtain⟨e',_,rfl⟩:=Qc.mp hb;exact zV 38 e e'
def I8(xs:Se SE):CA 40 (xs.map jD):=λa ha b hb=>by
 obtain⟨e,_,rfl⟩:=Qc.mp ha;obtain⟨e',_,rfl⟩:=Qc.mp hb;exact zW 37 e e'
def aK(xs:Se End):dA 40 (xs.map eD)=(aD xs).map eD/\(aD xs).Perm xs:=by
 obtain⟨ys,e,p⟩:=jH (f:=eD) (g:=T3) IZ<|mn 40<|xs.map eD;have h:aD xs=ys:=by
  unfold aD;rw[e,Zf];exact BQ ys
 rw[h];exact⟨e,p⟩
def bV(xs:Se SE):dA 40 (xs.map jD)=(bC xs).map jD/\(bC xs).Perm xs:=by
 obtain⟨ys,e,p⟩:=jH (f:=jD) (g:=T4) kN<|mn 40<|xs.map jD;have h:bC xs=ys:=by
  unfold bC;rw[e,Zf,show(T4 ∘ jD)=id from funext kN,AY]
 rw[h];exact⟨e,p⟩
def fz{xs ys:Se End}(p:xs.Perm ys):aD xs=aD ys:=by
 unfold aD;rw[kM (I0 xs)<|p.map eD]
def mN{xs ys:Se SE}(p:xs.Perm ys):bC xs=bC ys:=by
 unfold bC;rw[kM (I8 xs)<|p.map jD]
def cS{d:D}(xs:Se End)(h0:d.seq=some (xs.map eD)):bL [d]=some (.lst<|(aD xs).map eD,true):=by
 rw[<-(aK xs).1];unfold bL;dsimp only;rw[h0];dsimp only;refine Ag ⟨λx hx=>?_,I0 xs,⟨_,.tp (T:="str") λd hd=>?_⟩⟩
 ·obtain⟨e,_,rfl⟩:=Qc.mp hx;exact nq 38 e
 ·obtain⟨e,_,rfl⟩:=Qc.mp hd;exact⟨_,_,rfl,λz=>(by cases z),rfl⟩
def gA{d:D}(xs:Se SE)(hn:∀j∈xs,j≠[])(h0:d.seq=some (xs.map jD)):bL [d]=some (.lst<|(bC xs).map jD,true):=by
 rw[<-(bV xs).1];unfold bL;dsimp only;rw[h0];dsimp only;refine Ag ⟨λx hx=>?_,I8 xs,⟨_,.tp (T:="tuple") λd hd=>?_⟩⟩
 ·obtain⟨e,_,rfl⟩:=Qc.mp hx;exact oH 37 e
 ·obtain⟨j,hj,rfl⟩:=Qc.mp hd;cases j with|nil=>exact absurd rfl (hn _ hj)|cons e r=>exact⟨eD e,r.map eD,rfl,λz=>(by cases z),rfl⟩
end
def gB(h:Nm n):cy [Sz (t,n)]=some (.bl t,false):=by
 have e:cy [Sz (t,n)]=some (.bl<|Txt.startswith (bd (t,n)) minus,false):=rfl;rw[e,Fr h]
theorem fA(h:Nm n):b7 [Sz (t,n)]=some (.str n,false):=by
 refine aN (o:=.rt (.d<|.str n) [.v<|Sz (t,n)]) rfl ?_ rfl;cases t with
 |true=>
  refine aO<|m6 (aI (aY rfl rfl (gB h) rfl) rfl)<|oB rfl rfl rfl rfl (Hr<|kL h) ?_;show Rs.d (D.str<|Txt.slice (minus++n) (some 1) none)=_;rw[II]
 |false=>exact aO<|oC (aI (aY rfl rfl (gB h) rfl) rfl) rfl
def yg(h:Nm n):d8 [Sz (t,n)]=some (Sz (!t,n),false):=by
 have e1:minus.length=1:=by decide +kernel
 refine aN (o:=.rt (.d<|Sz (!t,n)) [.v<|Sz (t,n)]) rfl ?_ rfl;cases t with
 |true=>exact aO<|m6 (aI (aY rfl rfl (gB h) rfl) rfl)<|aY rfl rfl (fA h) rfl
 | false=>exact aO (oC (aI (aY rfl rfl (gB h) rfl) rfl) (ay rfl rfl rfl rfl (pE (by
   have:=(qD (p:=(false,n)) h).2;show minus.length+(bd (false,n)).length<=_
   lia))))
def SG(p:Ss×Str):End:=(p.2,if p.1 then 1 else 0)
def SL(p:Ss×Str):End:=(p.2,if p.1 then 0 else 1)
def uX(h:Nm n):d9 [Sz (t,n)]=some (eD<|SG (t,n),false):=by
 refine aN (o:=.rt (.d<|eD<|SG (t,n)) [.v<|Sz (t,n)]) rfl (aO ?_) rfl;have h1:aC (aX cy<|aa (aF 0) ag) [.v<|Sz (t,n)]=some (t,[.v<|Sz (t,n)]):=aI (aY rfl rfl (gB h) rfl) rfl;refine bB (af (aY rfl rfl (fA h) rfl)<|af (r:=.d<|.int (if t then 1 else 0)) ?_ rfl) rfl (by show 2<=1000000;decide)
 cases t with|true=>exact m6 h1 rfl|false=>exact oC h1 rfl
def wA(h:Nm n):eJ [Sz (t,n)]=some (eD<|SL (t,n),false):=by
 have e:SL (t,n)=SG (!t,n):=by cases t<;>rfl
 rw[e];exact aN (o:=.rt (.d<|eD<|SG (!t,n)) [.v<|Sz (t,n)]) rfl (aO<|aT (af (aY rfl rfl (yg h) rfl) rfl) rfl<|uX h) rfl
def wB:fv [.tup [eD a,eD b]]=some (jD<|aD [a,b],false):=by
 refine aN (o:=.rt (.d<|jD<|aD [a,b]) [.v<|.tup [eD a,eD b]]) rfl (aO<|aL (af (aL (af rfl rfl) rfl<|cS [a,b] rfl) rfl) rfl rfl) rfl
open VF22
section
def S0(ps:Se (Ss×Str)):Se SE:=(ps.zip<|ps.drop 1).map λq=>aD [SL q.1,SG q.2]
def RC(xs ys:Se (Ss×Str)):List.zipWith pr (xs.map Sz) (ys.map Sz)=(xs.zip ys).map λq=>pr (Sz q.1) (Sz q.2):=by
 rw[List.zipWith_map,List.zip,List.map_zipWith]
def I9{ps:Se (Ss×Str)}(hn:∀p∈ps,Nm p.2)(hl:ps.length<=100)(hs:Tl (.tup<|ps.map Sz) (some 1) none=some (.tup<|(ps.drop 1).map Sz,false)) :
  eQ [.tup<|ps.map Sz]=some (.lst<|(S0 ps).map jD,true):=by
 have ec:cA (gT 2<|Ti (gN 0)<|Ti (gN 1) TR) cM (bj fv<|aa (bU<|aa (bj eJ<|aa (aF 0) ag)<|aa (bj d9<|aa (aF 1) ag) ag) ag) 2 ((ps.zip<|ps.drop 1).map λq=>pr (Sz q.1)<|Sz q.2) [.e,.e]=some ((S0 ps).map jD,[.e,.e]):=by
  have:=cE (fg:=gT 2<|Ti (gN 0)<|Ti (gN 1) TR) (fc:=cM) (fe:=bj fv<|aa (bU<|aa (bj eJ<|aa (aF 0) ag)<|aa (bj d9<|aa (aF 1) ag) ag) ag) (k:=2)
   (λq:(Ss×Str)×(Ss×Str)=>pr (Sz q.1)<|Sz q.2) (λq=>jD<|aD [SL q.1,SG q.2]) [.e,.e] (ps.zip<|ps.drop 1) λq hq=>by
    have m:=Cu hq;exact⟨[.v<|Sz q.1,.v<|Sz q.2],[.v<|Sz q.1,.v<|Sz q.2],.d<|jD<|aD [SL q.1,SG q.2],[.v<|Sz q.1,.v<|Sz q.2],[.v<|Sz q.1,.v<|Sz q.2],rfl,rfl,(aT (af (bB (af (aT rfl rfl<|wA<|hn q.1 m.1)<|af (aT rfl rfl<|uX<|hn q.2<|BJ m.2) rfl) rfl (by show 2<=1000000;decide)) rfl) rfl wB),rfl,rfl⟩
  rw[this,S0,Zf];rfl
 refine aN (o:=.rt (.f<|.lst<|(S0 ps).map jD) [.v<|.tup<|ps.map Sz]) rfl (aO<|cb (s1:=[.v<|.tup<|ps.map Sz]) (ds:=(ps.zip<|ps.drop 1).map λq=>pr (Sz q.1)<|Sz q.2) ?_ ?_ ec) rfl
 ·have e1:(aa (aF 0)<|aa (Tv Tl (aF 0) (fQ<|fC<|.int 1) TD) ag) (jf 1 [.tup<|ps.map Sz])=some (_,_):=af rfl<|af (oB rfl rfl rfl rfl hs) rfl;show((aa (aF 0)<|aa (Tv Tl (aF 0) (fQ<|fC<|.int 1) TD) ag) (jf 1 [.tup<|ps.map Sz])).bind _=_;rw[e1,<-RC];rfl
 ·show(true&&decide (((ps.zip<|ps.drop 1).map λq=>pr (Sz q.1)<|Sz q.2).length<=1000000))=true;rw[Ya,List.length_zip,Af<|by lia];rfl
end
end K14
namespace K14
open PySem L2 VF VL
def zX:Tl (.tup (d::ds)) (some 1) none=some (.tup ds,false):=by
 have h:=uo (d::ds) (some 1) none;have e1:EW (.tup (d::ds)) (some 1) none=none:=rfl;have c:¬ (HT.sIx (d::ds).length 0 (some 1)=0/\HT.sIx (d::ds).length (d::ds).length none=(d::ds).length):=λz=>by
  have m:min 1 (d::ds).length=0:=(HT.sIx_nat (d::ds).length 0 1).symm.trans z.1;rw[Wc]at m;lia
 have e2:oX (.tup (d::ds)) (some 1) none=some (.tup<|cutD (d::ds) (some 1) none,false):=by simp only[oX,Ak c]
 have e3:cutD (d::ds) (some 1) none=ds:=v0 (i:=1) (by rw[Wc];lia)
 rw[e3]at e2;show TU EW (TU oX G0) _ _ _=_;simp only[TU,e1,e2]
end K14
namespace VF
open PySem L2
def gc{ds:Se D}(h1:fa st=some (rs,s1))(h2:dP rs s1=some (ds,s2))(h3:ds.length<=1000000):cP fa st=some (.f<|.lst ds,s2):=by
 simp only[cP,h1,h2,Xb];rw[Ag h3]
def nr(h1:fa st=some (r,s))(h2:cont s r=some d)(h3:b d=some z)(hz:mk z=r':=by rfl):TL b fa st=some (r',s):=by
 simp only[TL,h1,h2,h3,hz,Xb]
def uY{a b:Se D}(h:a.length+b.length<=1000000):cK (.lst a) (.lst b)=some (.lst<|a++b,true):=by
 have e1:sA (.lst a) (.lst b)=none:=rfl;have e2:sB (.lst a) (.lst b)=none:=rfl;have e3:xE (.lst a) (.lst b)=some (.lst<|a++b,true):=by simp only[xE];rw[Ag h]
 unfold cK S6;rw[e1,e2,e3]
end VF
namespace K14
open PySem L2 VF VL VF22
def rN{l:Se D}(hl:l.length<=n)(hn:n<=1000000:=by decide)(hb:b=true):(b&&decide (l.length<=1000000))=true:=by rw[hb,Af<|by lia];rfl
def kO{α:Type}{f:α->D}{xs:Se α}{i:Nat}{x:α}(h:xs[i]?=some x):Tb (xs.map f) (i:Int)=some (f x):=im (xs:=xs.map f) (j:=i) (by rw[Xd,h];rfl)
def jJ{xs:Se α}(h:xs[xs.length-1]?=some x):Tb (xs.map f) (-1)=some (f x):=by
 have hl:=(Vb.mp h).1;unfold Tb T8;rw[Ak<|by lia,Ag (by rw[Ya];lia)]
 show(xs.map f)[(-1+((xs.map f).length:Int)).toNat]?=_;rw[Ya,show(-1+(xs.length:Int)).toNat=xs.length - 1 by lia,Xd,h];rfl
section
abbrev z0:Bool×Str:=(false,Str.empty)
def FD(s:aR):Se SE:=if s.1 then [aD [SG<|s.2.headD z0,SL<|s.2.getLastD z0]] else [[SG<|s.2.headD z0],[SL<|s.2.getLastD z0]]
def sj(s:aR):Se SE:=S0 s.2++FD s
theorem d6{ps:Se (Ss×Str)}(h:ps≠[]):ps[0]?=some (ps.headD z0):=by
 cases ps with|nil=>exact absurd rfl h|cons p r=>rfl
theorem gw{ps:Se (Ss×Str)}(h:ps≠[]):ps[ps.length-1]?=some (ps.getLastD z0):=by
 rw[<-List.getLast?_eq_getElem?,DH];cases ps with|nil=>exact absurd rfl h|cons p r=>rw[List.getLast?_cons];rfl
def nu(ps:Se (Ss×Str)):(S0 ps).length=ps.length-1:=by
 unfold S0;rw[Ya,List.length_zip,Xi];lia
def PC(h:s.2≠[]):(sj s).length<=s.2.length+1:=by
 have:=Zi.mpr h;unfold sj FD;rw[Xa,nu];split<;>(simp only[Wc,Vg];lia)
def uZ(a b:End):(aD [a,b]).length=2:=(aK [a,b]).2.length_eq
def Ja(h:j∈sj s):j≠[]:=by
 have two:∀a b:End,aD [a,b]≠[]:=λa b z=>by have:=uZ a b;rw[z]at this;cases this
 unfold sj at h;rcases Qb.mp h with h|h
 ·unfold S0 at h;obtain⟨q,_,rfl⟩:=Qc.mp h;exact two _ _
 ·unfold FD at h;split at h
  ·obtain rfl:=Wa.mp h;exact two _ _
  ·simp at h;rcases h with rfl|rfl<;>simp
def FF{s:aR}(hs:s.2≠[])(hn:∀p∈s.2,Nm p.2)(hl:s.2.length<=100):dY [SH s]=some (.lst<|(sj s).map jD,true):=by
 obtain⟨r,ps⟩:=s;dsimp only at hs hn hl;have h0:=d6 hs;have hL:=gw hs;have n0:=hn _<|Va h0;have nl:=hn _<|Va hL;generalize e0:ps.headD z0=p0 at h0 n0;generalize eL:ps.getLastD z0=pl at hL nl;have i0:SA (.tup<|ps.map Sz) (.int 0)=some (Sz p0,false):=VF.ix_tup<|kO (i:=0) h0;have il:SA (.tup<|ps.map Sz) (.int<|-1)=some (Sz pl,false):=VF.ix_tup<|jJ hL;have hsl:Tl (.tup<|ps.map Sz) (some 1) none=some (.tup<|(ps.drop 1).map Sz,false):=by
  cases ps with|nil=>exact absurd rfl hs|cons p q=>exact zX
 have hll:(S0 ps).length<=100:=by rw[nu];lia
 have eo:FD (r,ps)=if r then [aD [SG p0,SL pl]] else [[SG p0],[SL pl]]:=by unfold FD;dsimp only;rw[e0,eL]
 unfold sj;rw[eo];dsimp only;refine aN (o:=.rt (.f<|.lst<|(S0 ps++(if r then [aD [SG p0,SL pl]] else [[SG p0],[SL pl]])).map jD) [.v<|SH (r,ps),.v<|.tup<|ps.map Sz,.v<|eD<|SG p0,.v<|eD<|SL pl,.o<|.lst<|(if r then [aD [SG p0,SL pl]] else [[SG p0],[SL pl]]).map jD]) rfl (aj (cO rfl rfl)<|aj (cO (aT (af (ay rfl rfl rfl rfl i0) rfl) rfl<|uX (t:=p0.1) (n:=p0.2) n0) rfl)<|aj (cO (aT (af (ay rfl (nr rfl rfl rfl) rfl rfl il) rfl) rfl<|wA (t:=pl.1) (n:=pl.2) nl) rfl) ?_) rfl;have fin:∀os:Se SE,os.length<=2->(bx<|Sy cK (bj eQ<|aa (aF 1) ag)<|aF 4) [.v<|SH (r,ps),.v<|.tup<|ps.map Sz,.v<|eD<|SG p0,.v<|eD<|SL pl,.o<|.lst<|os.map jD]=some (.rt (.f<|.lst<|(S0 ps++os).map jD) [.v<|SH (r,ps),.v<|.tup<|ps.map Sz,.v<|eD<|SG p0,.v<|eD<|SL pl,.o<|.lst<|os.map jD]):=λos ho=>by
  refine aO<|ay (aT rfl rfl<|I9 hn hl hsl) rfl rfl rfl (uY ?_) ?_
  ·rw[Ya,Ya];lia
  ·rw[Yc];rfl
 cases r with
 |true=>
  exact aj (fj (oC rfl<|gc (af (aT (af (bB rfl rfl (by show 2<=1000000;decide)) rfl) rfl wB) rfl) rfl (by show 1<=1000000;decide)) rfl)<|fin [aD [SG p0,SL pl]] (by show 1<=2;decide)
 |false=>
  exact aj (fj (m6 rfl<|gc (af (bB rfl rfl (by show 1<=1000000;decide))<|af (bB rfl rfl (by show 1<=1000000;decide)) rfl) rfl (by show 2<=1000000;decide)) rfl)<|fin [[SG p0],[SL pl]] (by show 2<=2;decide)
theorem u4:∀{ss:Se aR},(∀s∈ss,s.2≠[])->(ss.flatMap sj).length<=2*(ss.flatMap (·.2)).length
 |[],_=>Qa _
 | s::r,h=>by
  have ih:=u4 λx hx=>h x<|Wb _ hx;have h1:=h s Zc;have h2:=PC h1;have:=Zi.mpr h1;rw[Yf,Yf,Xa,Xa];lia
def jo(ss:Se aR):Se SE:=bC<|ss.flatMap sj
def FJ{ss:Se aR}(hne:∀s∈ss,s.2≠[])(hn:∀s∈ss,∀p∈s.2,Nm p.2)(hl:(ss.flatMap (·.2)).length<=100):iu [.tup<|ss.map SH]=some (.tup<|(jo ss).map jD,false):=by
 have hj:=u4 hne;obtain⟨sf,e,s2,rfl,q2⟩:=bZ (fg:=gN 2) (B:=bY<|fM SY jg 1<|aa (bj dY<|aa (aF 2) ag) ag) SH ss
  (λgone st=>∃s2:Sl,st=[.v<|.tup<|ss.map SH,.o<|.lst<|(gone.flatMap sj).map jD,s2]/\s2.isIo=false)
  (by
   rintro gone s rest st ha ⟨s2,rfl,q2⟩;have hm:s∈ss:=by rw[ha];simp
   have hsl:s.2.length<=100:=by
    have:=congrArg (λl=>(List.flatMap (λx:aR=>x.2) l).length) ha;simp only[Qg,Yf,Xa]at this;lia
   have hgl:(gone.flatMap sj).length+(sj s).length<=200:=by
    have:=congrArg (λl=>(List.flatMap sj l).length) ha;simp only[Qg,Yf,Xa]at this;lia
   refine⟨_,[.v<|.tup<|ss.map SH,.o<|.lst<|((gone++[s]).flatMap sj).map jD,.v<|SH s],bG rfl q2,(bM<|eY rfl rfl rfl (af (aT rfl rfl<|FF (hne s hm) (hn s hm) hsl) rfl) rfl rfl rfl (uq ?_) ?_),.v<|SH s,rfl,rfl⟩
   ·rw[Ya,Ya];lia
   ·rw[Qg,AI,Yc];rfl)
  ss [] [.v<|.tup<|ss.map SH,.o<|.lst [],.e] rfl ⟨.e,rfl,rfl⟩
 refine aN (o:=.rt (.d<|.tup<|(jo ss).map jD) [.v<|.tup<|ss.map SH,.o<|.lst<|(ss.flatMap sj).map jD,s2]) rfl (aj rfl<|aj (cY (dS rfl rfl) e)<|aO<|aL (af (aL rfl rfl<|gA (ss.flatMap sj) (λj hj=>?_) rfl) rfl) rfl rfl) rfl;obtain⟨s,_,h⟩:=Qm.mp hj;exact Ja h
end
section
def dB(p:Ss×Str):D:=.tup [eD<|SG p,eD<|SL p]
theorem LE(h:Nm p.2):hV [Sz p]=some (dB p,false):=by
 obtain⟨t,n⟩:=p;obtain⟨c,hc,hcm⟩:=IJ (p:=(t,n)) h;refine aN (o:=.rt (.d<|dB (t,n)) [.v<|Sz (t,n)]) rfl ?_ rfl;cases t with
 |true=>
  have hs:Tl (Sz (true,n)) (some 1) none=some (.str n,false):=by
   rw[Hr<|kL h];show some (D.str<|Txt.slice (minus++n) (some 1) none,false)=_;rw[II]
  exact gK<|eO (eW (aI (ay (ay rfl rfl rfl rfl<|ix_str (kL h) hc) rfl rfl rfl rfl) rfl)<|Af<|hcm.mpr rfl)<|aO<|bB (af (bB (af (oB rfl rfl rfl rfl hs) rfl) rfl (by show 2<=1000000;decide))<|af (bB (af (oB rfl rfl rfl rfl hs) rfl) rfl (by show 2<=1000000;decide)) rfl) rfl (by show 2<=1000000;decide)
 |false=>
  exact aj (dm (eW (aI (ay (ay rfl rfl rfl rfl<|ix_str (kL h) hc) rfl rfl rfl rfl) rfl)<|Ae λz=>by cases (hcm.mp z)) rfl)<|aO<|bB (af (bB rfl rfl (by show 2<=1000000;decide))<|af (bB rfl rfl (by show 2<=1000000;decide)) rfl) rfl (by show 2<=1000000;decide)
def Jb{ps:Se (Ss×Str)}(hp:∀p∈ps,Nm p.2):cA (gN 0) cM (bj hV<|aa (aF 0) ag) 1 (ps.map Sz) [.e]=some (ps.map dB,[.e]) :=
 cE (fg:=gN 0) (fc:=cM) (fe:=bj hV<|aa (aF 0) ag) (k:=1) Sz dB [.e] ps λp hpp=>⟨[.v<|Sz p],[.v<|Sz p],.d<|dB p,[.v<|Sz p],[.v<|Sz p],rfl,rfl,aT rfl rfl<|LE<|hp p hpp,rfl,rfl⟩
def Jn(p q:Ss×Str):SE:=aD [SL p,SG q]
def Jc(h1:ps[i]?=some a)(h2:ps[i+1]?=some b):(S0 ps).take (i+1)=(S0 ps).take i++[Jn a b]:=by
 rw[List.take_add_one];congr 1;unfold S0;rw[Xd];have:(ps.zip<|ps.drop 1)[i]?=some (a,b):=by
  rw[BZ];refine⟨h1,?_⟩;rw[Zg,C7];exact h2
 rw[this];rfl
def FK{S kd bs:D}{ps:Se (Ss×Str)}(h1:1<=ps.length)(hl:ps.length<=100)(B:FS)
  (hB:B=bY (fM SY br 1<|aa (SF bn<|aa (SF bL<|aa (cP<|aa (Sy SA (Sy SA (aF 4)<|aF 5)<|fC<|.int 1)<|aa (Sy SA (Sy SA (aF 4)<|Sy cK (aF 5)<|fC<|.int 1)<|fC<|.int 0) ag) ag) ag) ag))
  (js:Se SE) (hj:js.length<=500) (s5:Sl) (q5:s5.isIo=false) :
  ∃(s5':Sl),eZ (gN 5) B (rng 0<|ps.length-1) [.v S,.o<|.lst<|js.map jD,.v kd,.v bs,.o<|.lst<|ps.map dB,s5]=some (.nx [.v S,.o<|.lst<|(js++S0 ps).map jD,.v kd,.v bs,.o<|.lst<|ps.map dB,s5'])/\s5'.isIo=false:=by
 have e0:rng 0 (ps.length-1)=(List.range<|ps.length-1).map λt:Nat=>D.int (t:Int):=by
  unfold rng;exact Qj λt _=>by rw[DX]
 rw[e0];obtain⟨sf,e,s5',rfl,q5'⟩:=bZ (fg:=gN 5) (B:=B) (λt:Nat=>D.int (t:Int)) (List.range<|ps.length-1)
  (λgone st=>∃(s5':Sl),st=[.v S,.o<|.lst<|(js++(S0 ps).take gone.length).map jD,.v kd,.v bs,.o<|.lst<|ps.map dB,s5']/\s5'.isIo=false)
  (by
   rintro gone x rest st ha ⟨s5',rfl,q5'⟩;have hx:x<ps.length-1:=Zn.mp (by rw[ha];simp)
   have hg:x=gone.length:=by
    have:=congrArg (λl=>l[gone.length]?) ha;rw[List.getElem?_range (by have:=congrArg List.length ha;rw[AO,Xa,Wc]at this;lia)]at this
    simpa using this.symm
   have a1:ps[x]?=some ps[x]:=Za (by lia)
   have a2:ps[x+1]?=some ps[x+1]:=Za (by lia)
   have i1:SA (.lst<|ps.map dB) (.int (x:Int))=some (dB ps[x],false):=fw<|kO a1;have i2:SA (.lst<|ps.map dB) (.int<|(x:Int)+1)=some (dB ps[x+1],false):=by
    have:=kO (f:=dB) a2;rw[Int.natCast_add]at this;exact fw this
   refine⟨_,[.v S,.o<|.lst<|(js++(S0 ps).take (gone++[x]).length).map jD,.v kd,.v bs,.o<|.lst<|ps.map dB,.v<|.int (x:Int)],bG rfl q5',?_,.v<|.int (x:Int),rfl,rfl⟩;rw[hB];refine bM<|eY rfl rfl rfl (af (aL (af (aL (af (gc (af (ay (ay rfl rfl rfl rfl i1) rfl rfl rfl rfl)<|af (ay (ay rfl (ay rfl rfl rfl rfl rfl) rfl rfl i2) rfl rfl rfl rfl) rfl) rfl (by show 2<=1000000;decide)) rfl) rfl<|cS (d:=.lst [eD<|SL ps[x],eD<|SG ps[x+1]]) [SL ps[x],SG ps[x+1]] rfl) rfl) rfl rfl) rfl) rfl rfl rfl (cN ?_) ?_
   ·rw[Ya,Xa,Xm,nu];lia
   ·rw[Xa,Vf,<-hg,Jc a1 a2,<-Yd,Yc (l₁:=js++_)];rfl)
  (List.range<|ps.length-1) [] [.v S,.o<|.lst<|js.map jD,.v kd,.v bs,.o<|.lst<|ps.map dB,s5] rfl ⟨s5,by rw[Vg,DC,We],q5⟩
 rw[AO,Xl (by rw[nu];lia)]at e
 exact⟨s5',e,q5'⟩
def yh{ss:Se aR}(hne:∀s∈ss,s.2≠[])(hn:∀s∈ss,∀p∈s.2,Nm p.2)(hl:(ss.flatMap (·.2)).length<=100):jB [.tup<|ss.map SH]=some (.tup<|(jo ss).map jD,false):=by
 have hj:=u4 hne;have sp:∃B,gn=aH (bc (cP ag) 1) (aH (fP (S7<|aF 0) (VF.gT 2<|Ti (gN 2)<|Ti (gN 3) TR) B)<|bx<|SF bn<|aa (SF bL<|aa (aF 1) ag) ag) /\
   ∀(S:D)(js:Se SE)(s:aR)(s4 s5:Sl),s.2≠[]->(∀p∈s.2,Nm p.2)->s.2.length<=100->js.length<=300->s4.isIo=false->s5.isIo=false->
    ∃(s4' s5':Sl),B [.v S,.o<|.lst<|js.map jD,.v<|.str<|kd s.1,.v<|.tup<|s.2.map Sz,s4,s5]=some (.nx [.v S,.o<|.lst<|(js++sj s).map jD,.v<|.str<|kd s.1,.v<|.tup<|s.2.map Sz,s4',s5'])/\s4'.isIo=false/\s5'.isIo=false:=by
  refine⟨_,rfl,λS js s s4 s5 hs hp hsl hj q4 q5=>?_⟩;obtain⟨r,ps⟩:=s;dsimp only at hs hp hsl ⊢;have hps:1<=ps.length:=Zi.mpr hs;have cm:=Jb hp;obtain⟨s5',e1,q5'⟩:=FK (S:=S) (kd:=.str<|kd r) (bs:=.tup<|ps.map Sz) hps hsl _ rfl js (by lia) s5 q5
  have i0:SA (.lst<|ps.map dB) (.int 0)=some (dB<|ps.headD z0,false):=fw<|kO (i:=0)<|d6 hs;have il:SA (.lst<|ps.map dB) (.int<|-1)=some (dB<|ps.getLastD z0,false):=fw<|jJ<|gw hs;have len4:b9 [.lst<|ps.map dB]=some (.int ps.length,false):=by
   show some (D.int ((ps.map dB).length:Nat),false)=_;rw[Ya]
  have esub:((ps.length:Int)-1).toNat=ps.length-1:=by lia
  have hil:(js++S0 ps).length<=500:=by rw[Xa,nu];lia
  cases r with
  |true=>
   have ej:=cS (d:=.lst [eD<|SL<|ps.getLastD z0,eD<|SG<|ps.headD z0]) [SL<|ps.getLastD z0,SG<|ps.headD z0] rfl;have es:sj (true,ps)=S0 ps++[aD [SL<|ps.getLastD z0,SG<|ps.headD z0]]:=by
    show S0 ps++[aD [SG<|ps.headD z0,SL<|ps.getLastD z0]]=_;rw[fz<|List.Perm.swap _ _ []]
   refine⟨.o<|.lst<|ps.map dB,s5',(aj (fj (cb (dS rfl rfl) (rN (n:=100) (by rw[Ya];exact hsl) (by decide) rfl) cm)<|bG rfl q4)<|aj (cY (fD (j:=(ps.length:Int)-1) (af (ay (aL rfl rfl len4) rfl rfl rfl rfl) rfl) rfl ⟨by lia,by lia⟩) (by rw[esub];exact e1))<|eO rfl<|bM<|eY rfl rfl rfl (af (aL (af (aL (af (gc (af (ay (ay rfl (nr rfl rfl rfl) rfl rfl il) rfl rfl rfl rfl)<|af (ay (ay rfl rfl rfl rfl i0) rfl rfl rfl rfl) rfl) rfl (by show 2<=1000000;decide)) rfl) rfl ej) rfl) rfl rfl) rfl) rfl rfl rfl (cN ?_) ?_),rfl,q5'⟩
   ·rw[Ya];lia
   ·rw[es,<-Yd,Yc (l₁:=js++S0 ps)];rfl
  |false=>
   have es:sj (false,ps)=S0 ps++[[SG<|ps.headD z0],[SL<|ps.getLastD z0]]:=rfl;refine⟨.o<|.lst<|ps.map dB,s5',(aj (fj (cb (dS rfl rfl) (rN (n:=100) (by rw[Ya];exact hsl) (by decide) rfl) cm)<|bG rfl q4)<|aj (cY (fD (j:=(ps.length:Int)-1) (af (ay (aL rfl rfl len4) rfl rfl rfl rfl) rfl) rfl ⟨by lia,by lia⟩) (by rw[esub];exact e1))<|dm rfl<|aj (s:=[.v S,.o<|.lst<|(js++S0 ps++[[SG<|ps.headD z0]]).map jD,.v<|.str<|kd false,.v<|.tup<|ps.map Sz,.o<|.lst<|ps.map dB,s5']) (bM<|eY rfl rfl rfl (af (bB (af (ay (ay rfl rfl rfl rfl i0) rfl rfl rfl rfl) rfl) rfl (by show 1<=1000000;decide)) rfl) rfl rfl rfl (cN ?_) ?_) ?_),rfl,q5'⟩
   ·rw[Ya];lia
   ·rw[Yc (l₁:=js++S0 ps)];rfl
   refine bM<|eY rfl rfl rfl (af (bB (af (ay (ay rfl (nr rfl rfl rfl) rfl rfl il) rfl rfl rfl rfl) rfl) rfl (by show 1<=1000000;decide)) rfl) rfl rfl rfl (cN ?_) ?_
   ·rw[Ya,Xa,Vf];lia
   ·rw[es,show js++(S0 ps++[[SG<|ps.headD z0],[SL<|ps.getLastD z0]])=js++S0 ps++[[SG<|ps.headD z0]]++[[SL<|ps.getLastD z0]] by simp,Yc (l₁:=js++S0 ps++[[SG<|ps.headD z0]])];rfl
 obtain⟨B,eF,hB⟩:=sp;obtain⟨sf,e,s2,s3,s4,s5,rfl,q2,q3,q4,q5⟩:=bZ (fg:=VF.gT 2<|Ti (gN 2)<|Ti (gN 3) TR) (B:=B) SH ss
  (λgone st=>∃(s2 s3 s4 s5:Sl),st=[.v<|.tup<|ss.map SH,.o<|.lst<|(gone.flatMap sj).map jD,s2,s3,s4,s5]/\s2.isIo=false/\s3.isIo=false/\s4.isIo=false/\s5.isIo=false)
  (by
   rintro gone s rest st ha ⟨s2,s3,s4,s5,rfl,q2,q3,q4,q5⟩;have hm:s∈ss:=by rw[ha];simp
   have hsl:s.2.length<=100:=by
    have:=congrArg (λl=>(List.flatMap (λx:aR=>x.2) l).length) ha;simp only[Qg,Yf,Xa]at this;lia
   have hgl:(gone.flatMap sj).length<=200:=by
    have:=congrArg (λl=>(List.flatMap sj l).length) ha;simp only[Qg,Yf,Xa]at this;lia
   obtain⟨s4',s5',eb,q4',q5'⟩:=hB (.tup<|ss.map SH) (gone.flatMap sj) s s4 s5 (hne s hm) (hn s hm) hsl (by lia) q4 q5
   refine⟨[.v<|.tup<|ss.map SH,.o<|.lst<|(gone.flatMap sj).map jD,.v<|.str<|kd s.1,.v<|.tup<|s.2.map Sz,s4,s5],_,?_,eb,.v<|.str<|kd s.1,.v<|.tup<|s.2.map Sz,s4',s5',by rw[Qg,AI],rfl,rfl,q4',q5'⟩
   show(if 2=2 then Ti (gN 2) (Ti (gN 3) TR) [.str<|kd s.1,.tup<|s.2.map Sz] _ else none)=_;rw[Ag rfl];show(gN 2 (.str<|kd s.1) _).bind _=_;rw[show gN 2 (.str<|kd s.1) [.v<|.tup<|ss.map SH,.o<|.lst<|(gone.flatMap sj).map jD,s2,s3,s4,s5]=some [.v<|.tup<|ss.map SH,.o<|.lst<|(gone.flatMap sj).map jD,.v<|.str<|kd s.1,s3,s4,s5] from bG rfl q2];show(gN 3 (.tup<|s.2.map Sz) _).bind _=_;rw[show gN 3 (.tup<|s.2.map Sz) [.v<|.tup<|ss.map SH,.o<|.lst<|(gone.flatMap sj).map jD,.v<|.str<|kd s.1,s3,s4,s5]=some [.v<|.tup<|ss.map SH,.o<|.lst<|(gone.flatMap sj).map jD,.v<|.str<|kd s.1,.v<|.tup<|s.2.map Sz,s4,s5] from bG rfl q3]
   rfl)
  ss [] [.v<|.tup<|ss.map SH,.o<|.lst [],.e,.e,.e,.e] rfl ⟨.e,.e,.e,.e,rfl,rfl,rfl,rfl,rfl⟩
 refine aN (o:=.rt (.d<|.tup<|(jo ss).map jD) [.v<|.tup<|ss.map SH,.o<|.lst<|(ss.flatMap sj).map jD,s2,s3,s4,s5]) rfl ?_ rfl;rw[eF];refine aj rfl<|aj (cY (dS rfl rfl) e)<|aO<|aL (af (aL rfl rfl<|gA (ss.flatMap sj) (λj hj=>?_) rfl) rfl) rfl rfl;obtain⟨s,_,h⟩:=Qm.mp hj;exact Ja h
abbrev Bd:=Bool×Str
def LF(p q:Bd)(r:Se Bd):S0 (p::q::r)=Jn p q::S0 (q::r):=rfl
theorem zY:∀(xs:Se Bd)(y:Bd)(ys:Se Bd),xs≠[]->S0 (xs++y::ys)=S0 xs++Jn (xs.getLastD z0) y::S0 (y::ys)
 |[],_,_,h=>absurd rfl h
 |[x],y,ys,_=>rfl
 | x::x'::r,y,ys,_=>by
  have ih:=zY (x'::r) y ys (by simp)
  show Jn x x'::S0 (x'::r++y::ys)=Jn x x'::(S0 (x'::r)++_);rw[ih];rfl
def UY(p:Bd):Bd:=(!p.1,p.2)
def dJ(ps:Se Bd):Se Bd:=ps.reverse.map UY
def Jd(p:Bd)(r:Se Bd):dJ (p::r)=dJ r++[UY p]:=by unfold dJ;rw[C8,Yc];rfl
def wC(xs:Se α)(x z:α):(xs++[x]).getLastD z=x:=by rw[DH];simp
def ja(ps:Se Bd):Se End:=ps.map SG++ps.map SL
theorem wD:∀(p:Bd)(r:Se Bd),((S0 (p::r)).flatten++[SG p]++[SL<|(p::r).getLastD z0]).Perm (ja (p::r))
 |p,[]=>List.Perm.refl _
 | p,q::r=>by
  have ih:=wD q r;have e:((p::q::r).getLastD z0)=(q::r).getLastD z0:=rfl;rw[LF,e,Wi];generalize (S0 (q::r)).flatten=A at ih ⊢;generalize (q::r).getLastD z0=l at ih ⊢;have h1:(Jn p q).Perm [SL p,SG q]:=(aK _).2;have h2:(ja (p::q::r)).Perm (SL p::SG p::ja (q::r)):=by
   show(SG p::((q::r).map SG++SL p::(q::r).map SL)).Perm _;exact((Vm).cons _).trans (List.Perm.swap _ _ _)
  refine List.Perm.trans ?_ h2.symm;have h3:(Jn p q++A++[SG p]++[SL l]).Perm (SL p::SG p::(A++[SG q]++[SL l])):=by
   refine((((h1.append_right A).append_right [SG p]).append_right [SL l])).trans ?_;show(SL p::SG q::(A++[SG p]++[SL l])).Perm _;refine List.Perm.cons _ ?_;have e1:SG q::(A++[SG p]++[SL l])=(SG q::A)++SG p::[SL l]:=by simp
   have e2:SG p::(A++[SG q]++[SL l])=SG p::(A++SG q::[SL l]):=by simp
   rw[e1,e2];exact(Vm).trans ((Vm.symm).cons _)
  exact h3.trans<|(ih.cons _).cons _
theorem LG(h:s.2≠[]):((sj s).flatten).Perm (ja s.2):=by
 obtain⟨b,ps⟩:=s;cases ps with
 |nil=>exact absurd rfl h
 |cons p r=>
  refine List.Perm.trans ?_<|wD p r;unfold sj;rw[Yi,Yd];refine AL _ ?_;cases b with
  |true=>
   show([aD [SG p,SL<|(p::r).getLastD z0]].flatten).Perm ([SG p]++[SL<|(p::r).getLastD z0]);rw[Cn];exact(aK _).2
  |false=>exact List.Perm.refl _
def zero(x:Str):End:=(x,0)
def one(x:Str):End:=(x,1)
theorem jK:∀ps:Se Bd,(ja ps).Perm ((ps.map (·.2)).map zero++(ps.map (·.2)).map one)
 |[]=>List.Perm.refl _
 | p::r=>by
  have ih:=jK r;have h1:(ja (p::r)).Perm (SG p::SL p::ja r):=(Vm).cons _;refine h1.trans ?_;have h2:((((p::r).map (·.2)).map zero++((p::r).map (·.2)).map one)).Perm (zero p.2::one p.2::((r.map (·.2)).map zero++(r.map (·.2)).map one)):=(Vm).cons _;refine List.Perm.trans ?_ h2.symm;obtain⟨t,n⟩:=p;cases t with|true=>exact(List.Perm.swap _ _ _).trans ((ih.cons _).cons _)|false=>exact(ih.cons _).cons _
def Je(a b:Se Bd):(ja<|a++b).Perm (ja a++ja b):=by
 unfold ja;rw[Yc,Yc];have e1:a.map SG++b.map SG++(a.map SL++b.map SL)=a.map SG++(b.map SG++a.map SL)++b.map SL:=by simp
 have e2:a.map SG++a.map SL++(b.map SG++b.map SL)=a.map SG++(a.map SL++b.map SG)++b.map SL:=by simp
 rw[e1,e2];exact(AL _ CB).append_right _
theorem lH:∀{ss:Se aR},(∀s∈ss,s.2≠[])->((ss.flatMap sj).flatten).Perm (ja (ss.flatMap (·.2)))
 |[],_=>List.Perm.refl _
 | s::r,h=>by
  rw[Yf,Yf,Yi];exact((LG<|h s Zc).append (lH λx hx=>h x<|Wb _ hx)).trans (Je _ _).symm
def LH{ss:Se aR}(h:∀s∈ss,s.2≠[]){xs:Se Str}(p:((ss.flatMap (·.2)).map (·.2)).Perm xs):((jo ss).flatten).Perm (xs.map zero++xs.map one):=by
 have h1:(jo ss).Perm (ss.flatMap sj):=(bV _).2;exact(h1.flatten).trans ((lH h).trans ((jK _).trans ((p.map zero).append (p.map one))))
end
end K14
namespace K14
open PySem L2 VF VL
section
def M7{ps:Se Bd}(hn:∀p∈ps,Nm p.2)(hl:ps.length<=100):dH [.tup<|ps.map Sz]=some (.tup<|(dJ ps).map Sz,false):=by
 have cm:cA (gN 0) cM (aX d8<|aa (aF 0) ag) 1 (ps.reverse.map Sz) [.e]=some ((dJ ps).map Sz,[.e]):=by
  have:=cE (fg:=gN 0) (fc:=cM) (fe:=aX d8<|aa (aF 0) ag) (k:=1) Sz (λp=>Sz<|UY p) [.e] ps.reverse λp hpp=>⟨[.v<|Sz p],[.v<|Sz p],.d<|Sz<|UY p,[.v<|Sz p],[.v<|Sz p],rfl,rfl,aY rfl rfl (yg (t:=p.1) (n:=p.2)<|hn p<|List.mem_reverse.mp hpp) rfl,rfl,rfl⟩;rw[this];unfold dJ;rw[Zf];rfl
 refine aN (o:=.rt (.d<|.tup<|(dJ ps).map Sz) [.v<|.tup<|ps.map Sz]) rfl (aO<|aL (af (cb (s1:=[.v<|.tup<|ps.map Sz]) (ds:=ps.reverse.map Sz) ?_ (rN (n:=100) ?_ (by decide) rfl) cm) rfl) rfl rfl) rfl
 ·have:=K6 (st:=[.v<|.tup<|ps.map Sz]) (s1:=[.v<|.tup<|ps.map Sz]) (fe:=aF 0) (ds:=ps.map Sz) (r:=.d<|.tup<|ps.map Sz) rfl rfl;rw[<-List.map_reverse]at this;exact this
 ·rw[Ya,BN];exact hl
def co(ps:Se Bd):Se Bd:=if ps.length=1 then [(false,(ps.headD z0).2)] else if Ta (ps.headD z0).2 (ps.getLastD z0).2 then ps else dJ ps
def lt_str(h:Ta x y=b):Uy (.str x) (.str y)=some (.bl b,false):=by
 rw[<-h];have e1:N8 (.str x) (.str y)=none:=rfl;unfold Uy S6;rw[e1];rfl
def RD{ps:Se Bd}(hs:ps≠[])(hn:∀p∈ps,Nm p.2)(hl:ps.length<=100):jr [.tup<|ps.map Sz]=some (.tup<|(co ps).map Sz,false):=by
 have h0:=d6 hs;have hL:=gw hs;have n0:=hn _<|Va h0;have nl:=hn _<|Va hL;have len1:b9 [.tup<|ps.map Sz]=some (.int ps.length,false):=by
  show some (D.int ((ps.map Sz).length:Nat),false)=_;rw[Ya]
 unfold co;generalize ps.headD z0=p0 at h0 n0 ⊢;generalize ps.getLastD z0=pl at hL nl ⊢;have i0:SA (.tup<|ps.map Sz) (.int 0)=some (Sz p0,false):=VF.ix_tup<|kO (i:=0) h0;have il:SA (.tup<|ps.map Sz) (.int<|-1)=some (Sz pl,false):=VF.ix_tup<|jJ hL;have nm0:∀st:En,st=[.v<|.tup<|ps.map Sz]->aX b7 (aa (Sy SA (aF 0)<|fC<|.int 0) ag) st=some (.d<|.str p0.2,st):=λst hst=>by
  subst hst;exact aY (af (ay rfl rfl rfl rfl i0) rfl) rfl (fA (t:=p0.1) (n:=p0.2) n0) rfl
 have nml:∀st:En,st=[.v<|.tup<|ps.map Sz]->aX b7 (aa (Sy SA (aF 0)<|TL rH<|fC<|.int 1) ag) st=some (.d<|.str pl.2,st):=λst hst=>by
  subst hst;exact aY (af (ay rfl (nr rfl rfl rfl) rfl rfl il) rfl) rfl (fA (t:=pl.1) (n:=pl.2) nl) rfl
 have eqn:S9 (.int ps.length) (.int 1)=some (.bl<|decide<|ps.length=1,false):=by
  show some (D.bl<|decide<|V.int (ps.length:Int)=V.int 1,false)=_;congr 2;congr 1;rw[Xf,decide_eq_true_eq,decide_eq_true_eq];exact⟨λz=>by have:=V.int.inj z;lia,λz=>by rw[z];rfl⟩
 by_cases c:ps.length=1
 ·rw[Ag c];rw[Af c]at eqn;exact aN (o:=.rt (.d<|.tup [.str p0.2]) [.v<|.tup<|ps.map Sz]) rfl (gK<|eO (aI (ay (aL rfl rfl len1) rfl rfl rfl eqn) rfl)<|aO<|bB (af (nm0 _ rfl) rfl) rfl (by show 1<=1000000;decide)) rfl
 ·rw[Ak c];rw[Ae c]at eqn;have t1:aC (Sy S9 (SF b9<|aa (aF 0) ag)<|fC<|.int 1) [.v<|.tup<|ps.map Sz]=some (false,[.v<|.tup<|ps.map Sz]):=aI (ay (aL rfl rfl len1) rfl rfl rfl eqn) rfl;cases e:Ta p0.2 pl.2 with
  |true=>
   exact aN (o:=.rt (.d<|.tup<|ps.map Sz) [.v<|.tup<|ps.map Sz]) rfl (aj (dm t1 rfl)<|gK<|eO (aI (ay (nm0 _ rfl) (nml _ rfl) rfl rfl<|lt_str e) rfl)<|aO<|aL rfl rfl rfl) rfl
  |false=>
   exact aN (o:=.rt (.d<|.tup<|(dJ ps).map Sz) [.v<|.tup<|ps.map Sz]) rfl (aj (dm t1 rfl)<|aj (dm (aI (ay (nm0 _ rfl) (nml _ rfl) rfl rfl<|lt_str e) rfl) rfl)<|aO<|aT rfl rfl<|M7 hn hl) rfl
end
end K14
namespace VF
open PySem L2
theorem zZ(bt:Nat->Nat->Ss):∀k,argBest bt k<=k
 |0=>Qa _
 | k+1=>by
  unfold argBest;split
  ·exact Qa _
  ·exact Nat.le_succ_of_le<|zZ bt k
theorem qT{bt:Nat->Nat->Ss}(tr:∀a b c,bt a b=true->bt c b=false->bt c a=true->False)(ir:∀a,bt a a=false):∀k j,j<=k->bt j (argBest bt k)=false
 | 0,j,h=>by
  obtain rfl:j=0:=by lia
  exact ir 0
 | k+1,j,h=>by
  unfold argBest;cases e:bt (k+1) (argBest bt k) with
  |true=>
   rw[Ag rfl];by_cases hj:j=k+1
   ·subst hj;exact ir _
   ·have:=qT tr ir k j (by lia)
    cases e2:bt j (k+1) with|false=>rfl|true=>exact(tr _ _ _ e this e2).elim
  |false=>
   rw[Ak Bool.noConfusion];by_cases hj:j=k+1
   ·subst hj;exact e
   ·exact qT tr ir k j (by lia)
def kP(h:ys≠[]):lM ys∈ys:=by
 have hp:=Zi.mpr h;have hb:=zZ (λi j=>Ta (ys.getD i Str.empty)<|ys.getD j Str.empty)<|ys.length-1;have hlt:zR ys<ys.length:=by unfold zR;lia
 unfold lM;rw[Yb,Za hlt];exact Qk hlt
def u5{ys:Se Str}{y:Str}(h:y∈ys):Ta y (lM ys)=false:=by
 obtain⟨j,hj,rfl⟩:=Xn.mp h
 have:=qT (bt:=λi j=>Ta (ys.getD i Str.empty) (ys.getD j Str.empty)) (λa b c h1 h2 h3=>by
  have:=uC h3 h1
  rw[h2]at this;cases this) (λa=>pK _) (ys.length-1) j (by lia)
 have e:ys.getD j Str.empty=ys[j]:=by rw[Yb,Za hj];rfl
 have t:Ta (ys.getD j Str.empty) (ys.getD (zR ys) Str.empty)=false:=this;rw[e]at t;exact t
def Jf{ys:Se Str}(h:b∈ys):bIndex (.lst<|ys.map D.str) [.str b]=some (.int (ys.idxOf b:Nat),false):=by
 show(iH<|ys.map D.str).bind (λys=>if b∈ys then some (D.int (ys.idxOf b:Nat),false) else none)=_;rw[ji];show(if b∈ys then _ else _)=_;rw[Ag h]
def PD{ys:Se Str}(h:ys≠[]):Ix [.lst<|ys.map D.str]=some (.str<|lM ys,false):=by
 show(iH<|ys.map D.str).bind (λys=>if ys=[] then none else some (D.str<|lM ys,false))=_;rw[ji];show(if ys=[] then _ else _)=_;rw[Ak h]
end VF
namespace K14
open PySem L2 VF VL
section
def SU(ps:Se Bd):Se Str:=ps.map (·.2)
def fp(ps:Se Bd):Nat:=(SU ps).idxOf (lM<|SU ps)
def u8(h:ps≠[]):SU ps≠[]:=λz=>h<|List.map_eq_nil_iff.mp z
def Jg{ps:Se Bd}(h:ps≠[]):fp ps<ps.length:=by
 have:=List.idxOf_lt_length_iff.mpr<|kP<|u8 h;unfold fp;rwa [show(SU ps).length=ps.length from Ya ..]at this
def M8{ps:Se Bd}(hs:ps≠[])(hn:∀p∈ps,Nm p.2)(hl:ps.length<=100):df [.tup<|ps.map Sz]=some (.int (fp ps:Nat),false):=by
 have cm:cA (gN 0) cM (aX b7<|aa (aF 0) ag) 1 (ps.map Sz) [.e]=some ((SU ps).map D.str,[.e]):=by
  have:=cE (fg:=gN 0) (fc:=cM) (fe:=aX b7<|aa (aF 0) ag) (k:=1) Sz (λp=>D.str p.2) [.e] ps λp hpp=>⟨[.v<|Sz p],[.v<|Sz p],.d<|.str p.2,[.v<|Sz p],[.v<|Sz p],rfl,rfl,aY rfl rfl (fA (t:=p.1) (n:=p.2)<|hn p hpp) rfl,rfl,rfl⟩;rw[this];unfold SU;rw[Zf];rfl
 exact aN (o:=.rt (.d<|.int (fp ps:Nat)) [.v<|.tup<|ps.map Sz,.o<|.lst<|(SU ps).map D.str]) rfl (aj (fj (cb (dS rfl rfl) (rN (n:=100) (by rw[Ya];exact hl) (by decide) rfl) cm) rfl)<|aO<|Hs rfl rfl rfl (af (aL rfl rfl<|PD<|u8 hs) rfl) rfl rfl<|Jf<|kP<|u8 hs) rfl
def side(ps:Se Bd):Se Bd:=if (ps.getD (fp ps) z0).1 then dJ ps else ps
def cr(ps:Se Bd):Se Bd:=(side ps).drop (fp<|side ps)++(side ps).take (fp<|side ps)
def nA(ps:Se Bd):(dJ ps).length=ps.length:=by unfold dJ;rw[Ya,BN]
def z9(hn:∀p∈ps,Nm p.2):∀p∈dJ ps,Nm p.2:=λp hp=>by
 obtain⟨q,hq,rfl⟩:=Qc.mp hp;exact hn q<|List.mem_reverse.mp hq
def D2{ps:Se Bd}(hs:ps≠[])(hn:∀p∈ps,Nm p.2):side ps≠[]/\(∀p∈side ps,Nm p.2)/\(side ps).length=ps.length:=by
 unfold side;split
 ·refine⟨λz=>hs ?_,z9 hn,nA ps⟩;have:=nA ps;rw[z]at this;exact Xe this.symm
 ·exact⟨hs,hn,rfl⟩
def RE{ps:Se Bd}(hs:ps≠[])(hn:∀p∈ps,Nm p.2)(hl:ps.length<=100):ju [.tup<|ps.map Sz]=some (.tup<|(cr ps).map Sz,false):=by
 obtain⟨s1,s2,s3⟩:=D2 hs hn;have hf:=Jg hs;have a1:ps[fp ps]?=some (ps.getD (fp ps) z0):=by rw[Yb,Za hf];rfl
 have i1:SA (.tup<|ps.map Sz) (.int (fp ps:Nat))=some (Sz<|ps.getD (fp ps) z0,false):=VF.ix_tup<|kO a1;have t1:aC (aX cy<|aa (Sy SA (aF 0)<|aX df<|aa (aF 0) ag) ag) [.v<|.tup<|ps.map Sz,.e,.e]=some ((ps.getD (fp ps) z0).1,[.v<|.tup<|ps.map Sz,.e,.e]) :=
  aI (aY (af (ay rfl (aY rfl rfl (M8 hs hn hl) rfl) rfl rfl i1) rfl) rfl (gB (t:=(ps.getD (fp ps) z0).1) (n:=(ps.getD (fp ps) z0).2)<|hn _<|Va a1) rfl) rfl
 have V1:bc (Tn (aC<|aX cy<|aa (Sy SA (aF 0)<|aX df<|aa (aF 0) ag) ag) (bj dH<|aa (aF 0) ag)<|SF bn<|aa (aF 0) ag) 1 [.v<|.tup<|ps.map Sz,.e,.e]=some (.nx [.v<|.tup<|ps.map Sz,.v<|.tup<|(side ps).map Sz,.e]):=by
  unfold side;cases e:(ps.getD (fp ps) z0).1 with
  |true=>
   rw[e]at t1;exact cO (m6 t1<|aT rfl rfl<|M7 hn hl) rfl
  |false=>
   rw[e]at t1;exact cO (oC t1<|aL rfl rfl rfl) rfl
 have f2:=M8 s1 s2 (by lia)
 have hf2:=Jg s1;have hk:fp (side ps)<=((side ps).map Sz).length:=by rw[Ya];lia
 have c1:rK (.tup<|(side ps).map Sz) (some ((fp (side ps):Nat):Int)) none=some (.tup<|((side ps).drop (fp<|side ps)).map Sz,false):=by rw[uo,v0 hk,CP]
 have c2:rK (.tup<|(side ps).map Sz) none (some ((fp (side ps):Nat):Int))=some (.tup<|((side ps).take (fp<|side ps)).map Sz,false):=by rw[uo,OU hk,DJ]
 have ct:gL (.tup<|((side ps).drop (fp<|side ps)).map Sz) (.tup<|((side ps).take (fp<|side ps)).map Sz)=some (.tup<|(cr ps).map Sz,false):=by
  rw[zn (by rw[Ya,Ya,Xi,Xm];lia)]
  unfold cr;rw[Yc]
 exact aN (o:=.rt (.d<|.tup<|(cr ps).map Sz) [.v<|.tup<|ps.map Sz,.v<|.tup<|(side ps).map Sz,.v<|.int (fp (side ps):Nat)]) rfl (aj V1<|aj (cO (aY rfl rfl f2 rfl) rfl)<|aO<|ay (oB rfl rfl rfl rfl c1) (oB rfl rfl rfl rfl c2) rfl rfl ct) rfl
def cs(s:aR):aR:=(s.1,if s.1 then cr s.2 else co s.2)
theorem RF(hs:s.2≠[])(hn:∀p∈s.2,Nm p.2)(hl:s.2.length<=100):dI [SH s]=some (SH<|cs s,false):=by
 obtain⟨r,ps⟩:=s;dsimp only at hs hn hl;refine aN (o:=.rt (.d<|SH<|cs (r,ps)) [.v<|SH (r,ps)]) rfl ?_ rfl;cases r with|true=>exact aj (dm rfl rfl) (aO<|bB (af rfl<|af (aT (af (ay rfl rfl rfl rfl rfl) rfl) rfl<|RE hs hn hl) rfl) rfl (by show 2<=1000000;decide))|false=>exact gK<|eO rfl<|aO<|bB (af rfl<|af (aT (af (ay rfl rfl rfl rfl rfl) rfl) rfl<|RD hs hn hl) rfl) rfl (by show 2<=1000000;decide)
def rk(s:aR):KB:=(s.1,(s.2.headD z0).2)
def RG(hs:s.2≠[])(hn:∀p∈s.2,Nm p.2):di [SH s]=some (keyD<|rk s,false):=by
 obtain⟨r,ps⟩:=s;dsimp only at hs hn;have h0:=d6 hs;have i0:SA (.tup<|ps.map Sz) (.int 0)=some (Sz<|ps.headD z0,false):=VF.ix_tup<|kO (i:=0) h0;have nm:aX b7 (aa (Sy SA (Sy SA (aF 0)<|fC<|.int 1)<|fC<|.int 0) ag) [.v<|SH (r,ps)]=some (.d<|.str (ps.headD z0).2,[.v<|SH (r,ps)]):=aY (af (ay (ay rfl rfl rfl rfl rfl) rfl rfl rfl i0) rfl) rfl (fA (t:=(ps.headD z0).1) (n:=(ps.headD z0).2)<|hn _<|Va h0) rfl;have eq:Sy S9 (Sy SA (aF 0)<|fC<|.int 0) (fC<|.str "ring") [.v<|SH (r,ps)]=some (.d<|.bl r,[.v<|SH (r,ps)]):=by cases r<;>rfl
 refine aN (o:=.rt (.d<|keyD<|rk (r,ps)) [.v<|SH (r,ps)]) rfl (aO<|bB (af eq<|af nm rfl) rfl (by show 2<=1000000;decide)) rfl
end
end K14
namespace VF
open PySem L2 TS
section
def PF(g h:Nat)(n:g≠h):Bf (cB ks) g h\/Bf (cB ks) h g:=by grind [Bf,cB]
def PH(h1:Bf (cB ks) a b)(h2:Bf (cB ks) b c):Bf (cB ks) a c:=by
 have asy:∀x y,cB ks x y=true->cB ks y x=false:=λx y z=>by
  cases e:cB ks y x with
  |false=>rfl
  |true=>
   have:=m9 z e;rw[m8]at this;cases this
 rcases h1 with h1|⟨h1,l1⟩
 ·rcases h2 with h2|⟨h2,l2⟩
  ·exact .inl<|m9 h1 h2
  ·rcases pN (q:=ks.getD c (false,Str.empty)) h1 with q|q
   ·exact .inl q
   ·have:cB ks c b=true:=q;rw[h2]at this;cases this
 ·rcases h2 with h2|⟨h2,l2⟩
  ·rcases pN (q:=ks.getD a (false,Str.empty)) h2 with q|q
   ·have:cB ks b a=true:=q;rw[h1]at this;cases this
   ·exact .inl q
  ·refine .inr ⟨?_,by lia⟩
   cases e:cB ks c a with
   |false=>rfl
   |true=>
    rcases pN (q:=ks.getD b (false,Str.empty)) e with q|q
    ·have:cB ks c b=true:=q;rw[h2]at this;cases this
    ·have:cB ks b a=true:=q;rw[h1]at this;cases this
theorem Jh:∀(l:Se Nat),g∉l->l.Pairwise (Bf<|cB ks)->∃m:Se Nat,m.Perm (g::l)/\m.Pairwise (Bf<|cB ks)
 |[],_,_=>⟨[g],List.Perm.refl _,Wn _ _⟩
 | h::l,n,s=>by
  obtain⟨s1,s2⟩:=Ye.mp s;have ne:g≠h:=λz=>n (by simp[z])
  rcases PF (ks:=ks) g h ne with q|q
  ·refine⟨g::h::l,List.Perm.refl _,Ye.mpr ⟨λb hb=>?_,s⟩⟩;rcases Vc.mp hb with rfl|hb
   ·exact q
   ·exact PH q<|s1 b hb
  ·obtain⟨m,p,sm⟩:=Jh l (λz=>n<|Wb _ z) s2;refine⟨h::m,(p.cons h).trans (List.Perm.swap _ _ _),Ye.mpr ⟨λb hb=>?_,sm⟩⟩;rcases Vc.mp (p.mem_iff.mp hb) with rfl|hb
   ·exact q
   ·exact s1 b hb
theorem M9:∀(l:Se Nat),l.Nodup->∃m:Se Nat,m.Perm l/\m.Pairwise (Bf<|cB ks)
 |[],_=>⟨[],List.Perm.refl _,List.Pairwise.nil⟩
 | g::l,n=>by
  obtain⟨n1,n2⟩:=Xj.mp n;obtain⟨m,p,s⟩:=M9 l n2;obtain⟨m',p',s'⟩:=Jh (ks:=ks) (g:=g) m (λz=>n1<|p.mem_iff.mp z) s;exact⟨m',p'.trans<|p.cons g,s'⟩
def Ji(ds:Se D):∃γ:Sj Nat,γ.Perm (Array.range ds.length)/\Sg (cB ks) γ 0 ds.length:=by
 obtain⟨m,p,s⟩:=M9 (ks:=ks) (List.range ds.length) List.nodup_range;refine⟨m.toArray,Yh.mpr (by rw[AJ];exact p),λi j g h _ hij hj e1 e2=>?_⟩
 have e1':m[i]?=some g:=by simpa using e1
 have e2':m[j]?=some h:=by simpa using e2
 obtain⟨i1,rfl⟩:=Vb.mp e1';obtain⟨i2,rfl⟩:=Vb.mp e2';exact Qi.mp s i j i1 i2 hij
def qU(f:α->D)(k:α->KB)(l:Se α):∃m:Se α,m.Perm l/\oE (l.map k) (l.map f)=m.map f/\m.Pairwise (λa b=>ltB (k b) (k a)=false):=by
 obtain⟨γ,p,g⟩:=Ji (ks:=l.map k)<|l.map f;rw[<-wo p g];rw[Ya]at p g;have hγ:∀x∈γ.toList,x<l.length:=λx hx=>by
  have:=(Yh.mp p).mem_iff.mp hx;rw[AJ]at this;exact Zn.mp this
 cases l with
 |nil=>
  have:γ.toList=[]:=Xe (by rw[Zd,p.size_eq,Zl];rfl)
  exact⟨[],List.Perm.refl _,by rw[this];rfl,List.Pairwise.nil⟩
 |cons x0 l0=>
  refine⟨γ.toList.map λg=>(x0::l0).getD g x0,?_,?_,?_⟩
  ·have:=(Yh.mp p).map λg=>(x0::l0).getD g x0;rw[AJ]at this;refine this.trans (Dv<|BF (by simp) λi h1 h2=>?_)
   rw[Cd,List.getElem_range,Yb,Za h2];rfl
  ·rw[Zf];refine Qj λg hg=>?_;have hgl:=hγ g hg;refine oD ?_;rw[Xd,Za hgl];show some _=some (f<|(x0::l0).getD g x0);rw[Yb,Za hgl];rfl
  ·rw[Yk];refine(uD (by rw[p.size_eq,Zl]) g).imp_of_mem λ{a b} ha hb h=>?_
   have ea:((x0::l0).map k).getD a (false,Str.empty)=k ((x0::l0).getD a x0):=by
    rw[Yb,Xd,Yb,Za<|hγ a ha];rfl
   have eb:((x0::l0).map k).getD b (false,Str.empty)=k ((x0::l0).getD b x0):=by
    rw[Yb,Xd,Yb,Za<|hγ b hb];rfl
   have asy:cB ((x0::l0).map k) b a=false:=by
    rcases h with h|h
    ·cases e:cB ((x0::l0).map k) b a with
     |false=>rfl
     |true=>
      have:=m9 h e;rw[m8]at this;cases this
    ·exact h.1
   unfold cB at asy;rw[ea,eb]at asy;exact asy
end
end VF
namespace K14
open PySem L2 VF VL
section
def LJ{ps:Se Bd}(hs:ps≠[])(hn:∀p∈ps,Nm p.2):co ps≠[]/\(∀p∈co ps,Nm p.2)/\(co ps).length=ps.length:=by
 have n0:=hn _<|Va<|d6 hs;unfold co;split
 ·rename_i c
  exact⟨by simp,λp hp=>by rw[Wa.mp hp];exact n0,c.symm⟩
 ·split
  ·exact⟨hs,hn,rfl⟩
  ·refine⟨λz=>hs ?_,z9 hn,nA ps⟩;have:=nA ps;rw[z]at this;exact Xe this.symm
def LK{ps:Se Bd}(hs:ps≠[])(hn:∀p∈ps,Nm p.2):cr ps≠[]/\(∀p∈cr ps,Nm p.2)/\(cr ps).length=ps.length:=by
 obtain⟨s1,s2,s3⟩:=D2 hs hn;have hf:=Jg s1;have ln:(cr ps).length=ps.length:=by
  unfold cr;rw[Xa,Xi,Xm];lia
 refine⟨λz=>hs ?_,λp hp=>?_,ln⟩
 ·rw[z]at ln;exact Xe ln.symm
 ·rcases Qb.mp hp with m|m
  ·exact s2 p<|BJ m
  ·exact s2 p<|List.mem_of_mem_take m
theorem D3(hs:s.2≠[])(hn:∀p∈s.2,Nm p.2):(cs s).2≠[]/\(∀p∈(cs s).2,Nm p.2)/\(cs s).2.length=s.2.length:=by
 obtain⟨r,ps⟩:=s;cases r with|true=>exact LK hs hn|false=>exact LJ hs hn
def cn(ss:Se aR):Se aR:=(qU SH rk<|ss.map cs).choose
def D4(ss:Se aR):(cn ss).Perm (ss.map cs)/\oE ((ss.map cs).map rk) ((ss.map cs).map SH)=(cn ss).map SH/\(cn ss).Pairwise (λa b=>ltB (rk b) (rk a)=false):=(qU SH rk<|ss.map cs).choose_spec
theorem D5:∀{ss:Se aR},(∀s∈ss,s.2≠[])->(∀s∈ss,∀p∈s.2,Nm p.2)->keysOf di (ss.map SH)=some (ss.map rk)
 |[],_,_=>rfl
 | s::ss,h1,h2=>by
  have ih:=D5 (ss:=ss) (λx hx=>h1 x<|Wb _ hx) λx hx=>h2 x<|Wb _ hx;have e:=RG (h1 s Zc)<|h2 s Zc;rw[Wh,keysOf,e,ih];rfl
def Jj{ss:Se aR}(hne:∀s∈ss,s.2≠[])(hn:∀s∈ss,∀p∈s.2,Nm p.2)(hl:(ss.flatMap (·.2)).length<=100):uG [.lst<|ss.map SH]=some (.tup<|(cn ss).map SH,false):=by
 have hsl:=jI ss hne;have len:∀s∈ss,s.2.length<=100:=λs hs=>by
  obtain⟨a,b,e⟩:=CV hs;rw[e,Qg,Yf,Xa,Xa]at hl;lia
 have cm:cA (gN 0) cM (bj dI<|aa (aF 0) ag) 1 (ss.map SH) [.e]=some ((ss.map cs).map SH,[.e]):=by
  have:=cE (fg:=gN 0) (fc:=cM) (fe:=bj dI<|aa (aF 0) ag) (k:=1) SH (λs=>SH<|cs s) [.e] ss λs hs=>⟨[.v<|SH s],[.v<|SH s],.d<|SH<|cs s,[.v<|SH s],[.v<|SH s],rfl,rfl,aT rfl rfl<|RF (hne s hs) (hn s hs)<|len s hs,rfl,rfl⟩;rw[this,Zf];rfl
 have ke:=D5 (ss:=ss.map cs) (λs hs=>by
  obtain⟨t,ht,rfl⟩:=Qc.mp hs;exact(D3 (hne t ht) (hn t ht)).1) (λs hs=>by
  obtain⟨t,ht,rfl⟩:=Qc.mp hs
  exact(D3 (hne t ht) (hn t ht)).2.1)
 have so:xP di [.lst<|(ss.map cs).map SH]=some (.lst<|(cn ss).map SH,true):=by
  show(keysOf di<|(ss.map cs).map SH).bind _=_;rw[ke];show some (D.lst<|oE ((ss.map cs).map rk)<|(ss.map cs).map SH,true)=_;rw[(D4 ss).2.1]
 refine aN (o:=.rt (.d<|.tup<|(cn ss).map SH) [.v<|.lst<|ss.map SH]) rfl (aO<|aL (af (aL (af (cb (vW rfl rfl) (rN (n:=100) (by rw[Ya];lia) (by decide) rfl) cm) rfl) rfl so) rfl) rfl rfl) rfl
end
end K14
namespace VF
open PySem L2
def nB(h1:Ta x y=false)(h2:Ta y x=false):x=y:=by
 rcases(kr 1).tri (a:=.str x) (b:=.str y) trivial with q|q|q
 ·injection q
 ·have:Ta x y=true:=q;rw[h1]at this;cases this
 ·have:Ta y x=true:=q;rw[h2]at this;cases this
def LL(hy:ys≠[])(hz:zs≠[])(h:∀y,y∈ys↔y∈zs):lM ys=lM zs :=
 nB (u5<|(h _).mp (kP hy)) (u5<|(h _).mpr (kP hz))
def Jk{u v:Se Str}(h:a∉u):(u++a::v).idxOf a=u.length:=by
 rw[List.idxOf_append,Ak h,List.idxOf_cons_self];lia
end VF
namespace K14
open PySem L2 VF VL
section
def LM(a b:Se Bd):dJ (a++b)=dJ b++dJ a:=by unfold dJ;rw[CM,Yc]
def u9(ps:Se Bd):SU (dJ ps)=(SU ps).reverse:=by
 unfold SU dJ;rw[Zf,<-List.map_reverse];rfl
def lI(a b:Se Bd):SU (a++b)=SU a++SU b:=Yc ..
def RI(hm:lM (SU (u++(b,n)::v))=n)(hu:n∉SU u)(hv:n∉SU v):cr (u++(b,n)::v)=(false,n)::(if b then dJ u++dJ v else v++u):=by
 have f1:fp (u++(b,n)::v)=u.length:=by
  unfold fp;rw[hm,lI];have:=Jk (v:=SU v) hu;rw[show(SU u).length=u.length from Ya ..]at this;exact this
 have g1:(u++(b,n)::v).getD (fp (u++(b,n)::v)) z0=(b,n):=by
  rw[f1,Yb,Qf<|Qa _,Ci];rfl
 cases b with
 |false=>
  have sd:side (u++(false,n)::v)=u++(false,n)::v:=by unfold side;rw[g1];rfl
  unfold cr;rw[sd,f1,List.drop_left,List.take_left];rfl
 |true=>
  have sd:side (u++(true,n)::v)=dJ v++(false,n)::dJ u:=by
   unfold side;rw[g1];show dJ (u++(true,n)::v)=_;rw[LM,Jd,Yd];rfl
  have hv':n∉SU (dJ v):=by rw[u9];exact λz=>hv<|List.mem_reverse.mp z
  have hm2:lM (SU (dJ v++(false,n)::dJ u))=n:=by
   refine Eq.trans (LL ?_ ?_ λy=>?_) hm
   ·rw[lI];simp[SU]
   ·rw[lI];simp[SU]
   ·rw[lI,lI];show y∈SU (dJ v)++n::SU (dJ u)↔y∈SU u++n::SU v;rw[u9,u9];simp only[Qb,Vc,List.mem_reverse];exact⟨λz=>by rcases z with z|z|z<;>simp[z],λz=>by rcases z with z|z|z<;>simp[z]⟩
  have f2:fp (dJ v++(false,n)::dJ u)=(dJ v).length:=by
   unfold fp;rw[hm2,lI];have:=Jk (v:=SU<|dJ u) hv';rw[show(SU<|dJ v).length=(dJ v).length from Ya ..]at this;exact this
  unfold cr;rw[sd,f2,List.drop_left,List.take_left];rfl
theorem LN{ps:Se Bd}(nd:(SU ps).Nodup)(hl:ps.length≠1)(hs:ps≠[]):(ps.headD z0).2≠(ps.getLastD z0).2:=by
 cases ps with
 |nil=>exact absurd rfl hs
 |cons p r=>
  cases r with
  |nil=>exact absurd rfl hl
  |cons q r=>
   have hL:(q::r).getLastD z0∈q::r:=Va<|gw<|by simp
   intro z;refine(Xj.mp nd).1 ?_;have:(p::q::r).getLastD z0=(q::r).getLastD z0:=rfl;rw[this]at z;show p.2∈SU (q::r);have z':p.2=((q::r).getLastD z0).2:=z;rw[z'];exact AG hL
theorem LO{ss:Se aR}(nd:(ss.flatMap λs=>SU s.2).Nodup)(ha:a∈ss)(hb:b∈ss)(h1:n∈SU a.2)(h2:n∈SU b.2):a=b:=by
 induction ss with
 |nil=>cases ha
 |cons s r ih=>
  rw[Yf,Xk]at nd;rcases Vc.mp ha with rfl|ha'
  ·rcases Vc.mp hb with rfl|hb'
   ·rfl
   ·exact absurd rfl<|nd.2.2 n h1 n<|Qm.mpr ⟨b,hb',h2⟩
  ·rcases Vc.mp hb with rfl|hb'
   ·exact absurd rfl<|nd.2.2 n h2 n<|Qm.mpr ⟨a,ha',h1⟩
   ·exact ih nd.2.1 ha' hb'
def LP{l m m':Se aR}(hne:∀s∈l,s.2≠[])(nd:(l.flatMap λs=>SU s.2).Nodup)(p:m.Perm l)(p':m'.Perm l)(h:m.Pairwise (λa b=>ltB (rk b) (rk a)=false))(h':m'.Pairwise (λa b=>ltB (rk b) (rk a)=false)):m=m':=by
 refine(p.trans p'.symm).eq_of_pairwise (λa b ha hb h1 h2=>?_) h h';have ma:=p.mem_iff.mp ha;have mb:=p'.mem_iff.mp hb;have e:rk a=rk b:=by
  have t:∀x y:KB,ltB x y=false->ltB y x=false->x=y:=λx y z1 z2=>by
   obtain⟨b1,x⟩:=x;obtain⟨b2,y⟩:=y;cases b1<;>cases b2<;>simp[ltB]at z1 z2 ⊢
   ·exact nB z1 z2
   ·exact nB z1 z2
  exact t _ _ h2 h1
 have hd:∀s:aR,s.2≠[]->(rk s).2∈SU s.2:=λs hs=>Qc.mpr ⟨s.2.headD z0,Va<|d6 hs,rfl⟩;refine LO nd ma mb (hd a<|hne a ma) ?_;rw[e];exact hd b<|hne b mb
end
def D6(c:Nat):minus.cps.contains c=true↔c=45:=by
 rw[Array.contains_iff_mem,<-Array.mem_toList_iff,fu];simp
theorem LQ(h:97<=c/\c<=122):minus.cps.contains c=false:=by
 cases e:minus.cps.contains c with|false=>rfl|true=>have:=(D6 c).mp e;lia
theorem p6{l:Se Nat}(h:∀c∈l,97<=c/\c<=122):l.takeWhile (λc=>minus.cps.contains c)=[]:=by
 cases l with|nil=>rfl|cons c r=>rw[List.takeWhile_cons,LQ<|h c Zc];rfl
theorem Jl(h:Nm p.2):Txt.stripChars (bd p) minus=p.2:=by
 obtain⟨t,n⟩:=p;have hl:∀c∈n.cps.toList,97<=c/\c<=122:=h.2.2;have hr:∀c∈n.cps.toList.reverse,97<=c/\c<=122:=λc hc=>hl c<|List.mem_reverse.mp hc;unfold Txt.stripChars;rw[PySem.W.stripBy_eq];refine zT ?_;unfold PySem.W.stripped;dsimp only;rw[Ag rfl,Ag rfl,StrLaws.strSub_toList];have g:(λc=>minus.cps.contains c)=minus.cps.contains:=rfl;cases t with
 |false=>
  have e:(bd (false,n)).cps.toList=n.cps.toList:=rfl;rw[e,<-g,p6 hl,Vg,List.drop_zero,p6 hr,Vg];show List.take (n.length-0-0) n.cps.toList=n.cps.toList;exact Xl (by show n.cps.toList.length<=n.cps.size-0-0;rw[Zd];lia)
 |true=>
  have e:(bd (true,n)).cps.toList=45::n.cps.toList:=by
   show(minus++n).cps.toList=_;rw[BS,Bo,fu];rfl
  have tk:(45::n.cps.toList).takeWhile (λc=>minus.cps.contains c)=[45]:=by
   rw[List.takeWhile_cons,(D6 45).mpr rfl,Ag rfl,p6 hl]
  have len:(bd (true,n)).length=n.cps.toList.length+1:=by
   show(bd (true,n)).cps.size=_;rw[<-Zd,e,Wc]
  rw[e,<-g,tk];show List.take ((bd (true,n)).length-(List.takeWhile _ (List.drop 1 (45::n.cps.toList)).reverse).length-1) (List.drop 1 (45::n.cps.toList))=n.cps.toList;rw[List.drop_succ_cons,List.drop_zero,p6 hr,Vg,len];exact Xl (by lia)
def Jm(h:Nm p.2):xL (Sz p) [.str minus]=some (.str p.2,false):=by
 show(if (bd p).length<=1000000 then some (D.str<|Txt.stripChars (bd p) minus,false) else none)=_;rw[Ag<|kL h,Jl h]
end K14
namespace VF
open PySem L2
def ci{ds:Se D}{i:Nat}{d:D}(h:ds[i]?=some d):SA (.tup ds) (.int i)=some (d,false):=VF.ix_tup<|im h
def Jo(ne:xs≠[])(pa:Pl 40 (.tup xs))(pb:Pl 40 (.tup ys))(h:c=true↔D.tup xs=D.tup ys):kj (.tup xs) (.tup ys)=some (.bl<|!c,false):=by
 have e1:TF (.tup xs) (.tup ys)=none:=by
  cases xs with|nil=>exact absurd rfl ne|cons _ _=>rfl
 unfold kj S6;rw[e1];unfold vY;dsimp only;have dc:∀i:Decidable (D.tup xs=D.tup ys),@decide _ i=c:=λi=>by rw[Xf,decide_eq_true_eq];exact h.symm
 rw[Ag ⟨pa,pb⟩,dc];rfl
end VF
namespace K14
open PySem L2 VF VL VF22
theorem ol{j:SE}(h:j.length=1\/j.length=2):(∃a,j=[a])\/∃a b,j=[a,b]:=by
 cases j with
 |nil=>rcases h with z|z<;>cases z
 |cons a r=>
  cases r with
  |nil=>exact .inl ⟨a,rfl⟩
  |cons b r=>
   cases r with
   |nil=>exact .inr ⟨a,b,rfl⟩
   |cons c r=>
    rw[Wc,Wc,Wc]at h;lia
def om(e:End)(es:SE):SA (jD (e::es)) (.int 0)=some (eD e,false):=ci (i:=0) rfl
def wE(e f:End)(es:SE):SA (jD (e::f::es)) (.int 1)=some (eD f,false):=ci (i:=1) rfl
def fS(es:Se End):(aD es).length=es.length:=(aK es).2.length_eq
def bN(a b:End):aD [a,b]=aD [b,a]:=fz<|List.Perm.swap b a []
def on(j:SE):b9 [jD j]=some (.int (j.length:Int),false):=by
 show some (D.int (((j.map eD).length:Nat):Int),false)=_;rw[Ya]
def Ub(js:Se SE):Prop:=∀j∈js,j.length=1\/j.length=2
def D7(h:f st=some (r,s))(c:cont s r=some (.int i)):aC (Sy S9 f<|fC<|.int i) st=some (true,s):=by
 refine aI (ay h rfl c rfl (z:=(.bl true,false)) ?_) rfl;show some (D.bl<|decide<|V.int i=V.int i,false)=_;rw[Af rfl]
def Jp(h:f st=some (r,s))(c:cont s r=some (.int i))(ne:i≠j):aC (Sy S9 f<|fC<|.int j) st=some (false,s):=by
 refine aI (ay h rfl c rfl (z:=(.bl false,false)) ?_) rfl;show some (D.bl<|decide<|V.int i=V.int j,false)=_;rw[Ae λz=>ne<|by injection z]
def VS:kj (eD a) (eD b)=some (.bl<|!decide (a=b),false):=by
 refine Jo (by simp) (nq 38 a) (nq 38 b) ?_
 rw[decide_eq_true_eq];exact⟨λh=>by rw[h],λh=>by have:=congrArg T3 h;exact this⟩
theorem kQ:∀{js:Se (Se α)},js.flatten.Nodup->∀{j j':Se α}{e:α},j∈js->j'∈js->e∈j->e∈j'->j=j'
 |[],_,_,_,_,h,_,_,_=>nomatch h
 | k::r,nd,j,j',e,h,h',he,he'=>by
  rw[Wi,Xk]at nd;obtain⟨_,n2,n3⟩:=nd;rcases Vc.mp h with a|a<;>rcases Vc.mp h' with b|b
  ·rw[a,b]
  ·exact absurd rfl<|n3 e (a ▸ he) e<|Wg.mpr ⟨j',b,he'⟩
  ·exact absurd rfl<|n3 e (b ▸ he') e<|Wg.mpr ⟨j,a,he⟩
  ·exact kQ n2 a b he he'
def qV:∀{js:Se (Se α)},js.flatten.Nodup->∀{j:Se α},j∈js->j.Nodup:=by grind
theorem kR:∀{js:Se (Se α)},js.flatten.Nodup->(∀j∈js,j≠[])->js.Nodup
 |[],_,_=>Bu
 | k::r,nd,h=>by
  rw[Wi,Xk]at nd;refine Xj.mpr ⟨λhk=>?_,kR nd.2.1 λj hj=>h j<|Wb _ hj⟩;cases e:k with
  |nil=>exact h k Zc e
  |cons a t=>
   have:a∈k:=by rw[e];exact Zc
   exact nd.2.2 a this a (Wg.mpr ⟨k,hk,this⟩) rfl
structure Js(js:List SE)(xs:List Str):Prop where
 ln:Ub js
 pf:js.flatten.Perm (xs.map zero++xs.map one)
 so:∀j∈js,aD j=j
 nx:xs.Nodup
section
variable {js:Se SE}{xs:Se Str}
def LR(h:xs.Nodup):(xs.map zero++xs.map one).Nodup:=by grind [zero,one]
def Js.nd(J:Js js xs):js.flatten.Nodup:=J.pf.nodup_iff.mpr<|LR J.nx
def wF:e∈xs.map zero++xs.map one↔e.1∈xs/\(e.2=0\/e.2=1):=by grind [zero,one]
def Js.en(J:Js js xs):e∈js.flatten↔e.1∈xs/\(e.2=0\/e.2=1):=J.pf.mem_iff.trans wF
def Mt(js:Se SE)(e f:End):Prop:=aD [e,f]∈js
def Jq(e f:End):e∈aD [e,f]:=(aK [e,f]).2.mem_iff.mpr (by simp)
def Jr(e f:End):f∈aD [e,f]:=(aK [e,f]).2.mem_iff.mpr (by simp)
def Mt.sym(h:Mt js e f):Mt js f e:=by unfold Mt;rw[bN];exact h
def Mt.uni(J:Js js xs)(h:Mt js e f)(h':Mt js e g):f=g:=by
 have:=kQ J.nd h h' (Jq e f)<|Jq e g;have p:[e,f].Perm [e,g]:=(aK _).2.symm.trans ((Dv this).trans (aK _).2);have:=List.Perm.cons_inv p;simpa using this.singleton_eq
def Mt.irr(J:Js js xs)(h:Mt js e e):False:=by
 have:=(aK [e,e]).2.nodup_iff.mp (qV J.nd h);simp at this
def Mt.free(J:Js js xs)(h:Mt js e f)(h':[f]∈js):False:=by
 have:=kQ J.nd h h' (Jr e f) (by simp)
 have:=congrArg List.length this;rw[fS]at this;simp at this
def Mt.end(J:Js js xs)(h:Mt js e f):f.1∈xs/\(f.2=0\/f.2=1):=J.en.mp<|Wg.mpr ⟨_,h,Jr e f⟩
def Jt(J:Js js xs)(h:[a,b]∈js)(he:e∈[a,b]):Mt js e (if a=e then b else a):=by
 have hs:=J.so _ h;by_cases c:a=e
 ·rw[Ag c,<-c];unfold Mt;rw[hs];exact h
 ·rw[Ak c];have:e=b:=by
   rcases Vc.mp he with z|z
   ·exact absurd z.symm c
   ·simpa using z
  rw[this];unfold Mt;rw[bN,hs];exact h
def dL(e:End):Bd:=(decide<|e.2=1,e.1)
def nC(h:e.2=0\/e.2=1):SG (dL e)=e:=by
 obtain⟨n,i⟩:=e;dsimp only at h;rcases h with rfl|rfl<;>rfl
def RJ(p:Bd):SG p≠SL p:=λh=>by
 obtain⟨t,n⟩:=p;have:=congrArg Prod.snd h;cases t<;>(simp[SG,SL]at this)
def RK(h:e.2=0\/e.2=1)(hn:e.1=q.2):e=SG q\/e=SL q:=by grind [SG,SL]
def Ju(p:Bd):(SG p).2=0\/(SG p).2=1:=by obtain⟨t,n⟩:=p;cases t<;>simp[SG]
def Jv(p:Bd):(SL p).2=0\/(SL p).2=1:=by obtain⟨t,n⟩:=p;cases t<;>simp[SL]
def Jw(h1:ps[i]?=some p)(h2:ps[i+1]?=some q):Jn p q∈S0 ps:=by
 refine Qc.mpr ⟨(p,q),Va (i:=i) ?_,rfl⟩;rw[BZ];exact⟨h1,by rw[Zg,C7];exact h2⟩
structure Wk(js:List SE)(xs:List Str)(S:Str->Prop)(ps:List Bd):Prop where
 ne:ps≠[]
 ij:∀j∈S0 ps,j∈js
 nd:(ps.map (·.2)).Nodup
 xs:∀p∈ps,p.2∈xs
 ns:∀p∈ps,¬ S p.2
variable {ps:Se Bd}
def Jx(nd:(ps.map (·.2)).Nodup){i k:Nat}{p q:Bd}(h1:ps[i]?=some p)(h2:ps[k]?=some q)(e:p.2=q.2):i=k:=by
 have hi:i<(ps.map (·.2)).length:=by rw[Ya];exact(Vb.mp h1).1
 refine(List.getElem?_inj hi nd).mp ?_;rw[Xd,Xd,h1,h2];show some p.2=some q.2;rw[e]
def Jy(J:Js js xs)(W:Wk js xs S ps){e:End}(m:Mt js (SL<|ps.getLastD z0) e)(hb:e≠SG (ps.headD z0)):e.1∉ps.map (·.2):=by
 intro hm;obtain⟨q,hq,hn⟩:=Qc.mp hm;obtain⟨i,hi⟩:=Yn hq;have hl:=gw W.ne;have li:=(Vb.mp hi).1;rcases RK (m.end J).2 hn.symm with z|z
 ·cases i with
  |zero=>
   rw[d6 W.ne]at hi;cases hi;exact hb z
  |succ k=>
   have hk:ps[k]?=some ps[k]:=Za (by lia)
   have m2:Mt js (SL ps[k]) (SG q):=W.ij _<|Jw hk hi;rw[<-z]at m2;have:=Jx W.nd hk hl<|congrArg Prod.fst<|Mt.uni J m2.sym m.sym;lia
 ·by_cases c:i=ps.length-1
  ·rw[c,hl]at hi;cases hi;rw[z]at m;exact m.irr J
  ·obtain⟨r,hk⟩:∃r,ps[i+1]?=some r:=⟨_,Za<|by lia⟩
   have m2:Mt js (SL q) (SG r):=W.ij _<|Jw hi hk;rw[z]at m;have e1:=Mt.uni J m2 m.sym;have:=Jx W.nd hk hl<|congrArg Prod.fst e1;rw[this,hl]at hk;have h2:=Option.some.inj hk;rw[<-h2]at e1;exact RJ _ e1
def Wk.step(J:Js js xs)(cl:∀e f,Mt js e f->S f.1->S e.1)(W:Wk js xs S ps)(m:Mt js (SL<|ps.getLastD z0) e)(hb:e≠SG (ps.headD z0)):Wk js xs S (ps++[dL e])/\SG (dL e)=e:=by
 have nn:=Jy J W m hb;have le:=nC (m.end J).2;have lm:ps.getLastD z0∈ps:=Va<|gw W.ne;refine⟨⟨by simp,λj hj=>?_,?_,λp hp=>?_,λp hp=>?_⟩,le⟩
 ·rw[zY ps _ [] W.ne]at hj;rcases Qb.mp hj with hj|hj
  ·exact W.ij j hj
  ·have:j=Jn (ps.getLastD z0) (dL e):=by
    rcases Vc.mp hj with z|z
    ·exact z
    ·cases z
   rw[this];unfold Jn;rw[le];exact m
 ·rw[Yc,Xk]
  exact⟨W.nd,by simp,λa ha b hb z=>by
   have:b=e.1:=Wa.mp hb;subst this;subst z
   exact nn ha⟩
 ·rcases Qb.mp hp with hp|hp
  ·exact W.xs p hp
  ·rw[Wa.mp hp];exact(m.end J).1
 ·rcases Qb.mp hp with hp|hp
  ·exact W.ns p hp
  ·rw[Wa.mp hp];exact λz=>W.ns _ lm<|cl _ _ m z
def Wk.len(W:Wk js xs S ps):ps.length<=xs.length:=by
 have:=jY (ps.map (·.2)) xs W.nd λx hx=>by
  obtain⟨p,hp,rfl⟩:=Qc.mp hx;exact W.xs p hp
 rwa [Ya]at this
end
def SX(ss:Se aR):Se Str:=(ss.flatMap (·.2)).map (·.2)
section
variable {ss:Se aR}
def LS{bs:Se Bd}:e∈ja bs↔e.1∈bs.map (·.2)/\(e.2=0\/e.2=1):=(jK bs).mem_iff.trans wF
def sW(ne:∀s∈ss,s.2≠[]):e∈(ss.flatMap sj).flatten↔e.1∈SX ss/\(e.2=0\/e.2=1):=(lH ne).mem_iff.trans LS
def gx(J:Js js xs)(ne:∀s∈ss,s.2≠[])(sub:∀j∈ss.flatMap sj,j∈js):∀e f,Mt js e f->f.1∈SX ss->e.1∈SX ss:=by
 intro e f m hf;obtain⟨j,hj,hfj⟩:=Wg.mp<|(sW ne).mpr ⟨hf,(m.end J).2⟩;have:=kQ J.nd (sub j hj) m hfj<|Jr e f;have h2:e∈(ss.flatMap sj).flatten:=Wg.mpr ⟨j,hj,by rw[this];exact Jq e f⟩
 exact((sW ne).mp h2).1
def FL(J:Js js xs)(ne:∀s∈ss,s.2≠[])(sub:∀j∈ss.flatMap sj,j∈js)(pm:(SX ss).Perm xs):(ss.flatMap sj).Perm js:=by
 have pf:((ss.flatMap sj).flatten).Perm js.flatten:=((lH ne).trans ((jK _).trans ((pm.map zero).append (pm.map one)))).trans J.pf.symm;have e1:∀j∈ss.flatMap sj,j≠[]:=λj hj=>by
  obtain⟨s,_,h⟩:=Qm.mp hj;exact Ja h
 have e2:∀j∈js,j≠[]:=λj hj z=>by
  have:=J.ln j hj;rw[z]at this;simp at this
 refine(Bj (kR (pf.nodup_iff.mpr J.nd) e1)<|kR J.nd e2).mpr λj=>⟨sub j,λhj=>?_⟩;cases e:j with
 |nil=>exact absurd e<|e2 j hj
 |cons a t=>
  have ha:a∈j:=by rw[e];exact Zc
  obtain⟨j',hj',ha'⟩:=Wg.mp<|pf.mem_iff.mpr<|Wg.mpr ⟨j,hj,ha⟩;rw[<-e,kQ J.nd hj (sub j' hj') ha ha'];exact hj'
end
def kE(e:End):Se Key:=[.inr e.1,.inl e.2]
def yi(h:kE a=kE b):a=b:=by grind [kE]
section
variable {κ:Type}[DecidableEq κ]
def nE{VV:Se (κ×D)}(h:k∉VV.map (·.1)):cF (VV++[(k,d)]) k=some d:=by grind [D,cF]
def db{VV:Se (κ×D)}{k k':κ}{d d':D}(h:cF VV k=some d):cF (VV++[(k',d')]) k=some d:=by grind [D,cF]
def D8{VV:Se (κ×D)}:(cF VV k).isSome=decide (k∈VV.map (·.1)):=by grind [D,cF]
def p7{VV:Se (κ×D)}(h:k∉VV.map (·.1)):ie VV k d=VV++[(k,d)]:=by grind [D,ie]
def wG{VV:Se (κ×D)}:∀x,x∈(ie VV k d).map (·.1)↔x=k\/x∈VV.map (·.1):=by grind [D,ie]
def D9{VV:Se (κ×D)}:(ie VV k d).length<=VV.length+1:=by
 unfold ie;split
 ·rw[Ya];lia
 ·rw[Xa];exact Qa _
end
def FM[DecidableEq κ]{VV:Se (κ×D)}(h:k∉VV.map (·.1)):ie (VV++[(k,d)]) k d'=VV++[(k,d')]:=by
 have c:((VV++[(k,d)]).any λkv=>decide<|kv.1=k)=true:=by rw[List.any_append];simp
 unfold ie;rw[Ag c,Yc];congr 1
 ·exact(Qj λkv hk=>(Ak λz=>h<|Qc.mpr ⟨kv,hk,z⟩)).trans (AY VV)
 ·show [if k=k then(k,d') else(k,d)]=_;rw[Ag rfl]
structure Sd(js:List SE)(VV:List (List Key×D)):Prop where
 ks:VV.map (·.1)=js.flatten.map kE
 a1:∀a,[a]∈js->cF VV (kE a)=some .non
 a2:∀a b,[a,b]∈js->cF VV (kE a)=some (eD b)/\cF VV (kE b)=some (eD a)
section
variable {js:Se SE}{xs:Se Str}{VV:Se (Se Key×D)}
def va(h:cF VV (kE e)=some d):jM (.dt VV) (eD e)=some (d,false):=by
 show((some<|cF VV<|kE e).bind λo=>o.bind λd=>some (d,false))=_;rw[h];rfl
def Sd.two(J:Js js xs)(T:Sd js VV)(h:e∈js.flatten):([e]∈js/\cF VV (kE e)=some .non)\/∃f,Mt js e f/\cF VV (kE e)=some (eD f):=by
 obtain⟨j,hj,he⟩:=Wg.mp h;rcases ol (J.ln j hj) with⟨a,rfl⟩|⟨a,b,rfl⟩
 ·rw[Wa.mp he];exact .inl ⟨hj,T.a1 a hj⟩
 ·obtain⟨h1,h2⟩:=T.a2 a b hj;have m:Mt js a b:=by unfold Mt;rw[J.so _ hj];exact hj
  rcases Vc.mp he with z|z
  ·rw[z];exact .inr ⟨b,m,h1⟩
  ·rw[Wa.mp z];exact .inr ⟨a,m.sym,h2⟩
def Jz(h:VV.length<100000):m7 (.dt VV) (eD e) d=some (.dt<|ie VV (kE e) d):=by
 show(if VV.length<100000 then some (D.dt<|ie VV (kE e) d) else none)=_;rw[Ag h]
abbrev bS(js:List SE)(k:List (List Key×D))(s2:Sl):En:=[.v<|.tup<|js.map jD,.o<|.dt k,s2]
def oq(h12:Ub js)(nd:js.flatten.Nodup)(hl:js.flatten.length<1000):∃VV,iM [.tup<|js.map jD]=some (.dt VV,true)/\Sd js VV:=by
 obtain⟨sf,el,k,t2,rfl,T,i2⟩:=bZ (fg:=gN 2) (B:=f6) jD js (λg st=>∃k s2,st=(bS js k s2)/\Sd g k/\s2.isIo=false)
  (by
   rintro g j r st ha ⟨k,s2,rfl,T,i2⟩;have e1:js.flatten=(g.flatten++j)++r.flatten:=by rw[ha,Yi,Wi];simp
   rw[e1,Xk]at nd;rw[e1,Xa,Xa]at hl;have nd:=nd.1;have kl:k.length=g.flatten.length:=by
    have:=congrArg List.length T.ks;rwa [Ya,Ya]at this
   have hk:∀e,e∉g.flatten->kE e∉k.map (·.1):=λe he z=>by
    rw[T.ks]at z;obtain⟨f,hf,e'⟩:=Qc.mp z;exact he<|yi e' ▸ hf
   rw[Xk]at nd;rcases ol (h12 j (by rw[ha];simp)) with⟨a,rfl⟩|⟨a,b,rfl⟩
   ·have na:=hk a λz=>nd.2.2 a z a (by simp) rfl
    have v:∀(o:D)(f:FE),Tn (aC<|Sy S9 (SF b9<|aa (aF 2) ag)<|fC<|.int 2) f (fC .non) [.v<|.tup<|js.map jD,.o o,.v<|jD [a]]=some (.d .non,[.v<|.tup<|js.map jD,.o o,.v<|jD [a]]):=λo f=>oC (Jp (i:=1) (aL rfl rfl<|on [a]) rfl<|by decide) rfl
    have il:SA (jD [a]) (.int<|-1)=some (eD a,false):=VF.ix_tup<|jJ (xs:=[a]) rfl;refine⟨(bS js k<|.v<|jD [a]),(bS js (k++[(kE a,.non)])<|.v<|jD [a]),bG (t:=s2) rfl i2,?_,k++[(kE a,.non)],.v<|jD [a],rfl,⟨?_,λc hc=>?_,λc d hc=>?_⟩,rfl⟩
    ·exact aj (iS (v _ _) rfl rfl rfl (ay rfl rfl rfl rfl<|om a []) rfl rfl rfl<|by rw[Jz<|by lia,p7 na])<|iS (v _ _) rfl rfl rfl (ay rfl (nr rfl rfl rfl) rfl rfl il) rfl rfl rfl<|by rw[Jz (by rw[Xa,Vf];lia),FM na]
    ·rw[Yc,T.ks,Yi,Yc];rfl
    ·rcases Qb.mp hc with z|z
     ·exact db<|T.a1 c z
     ·cases Wa.mp z;exact nE na
    ·rcases Qb.mp hc with z|z
     ·exact⟨db (T.a2 c d z).1,db (T.a2 c d z).2⟩
     ·cases Wa.mp z
   ·have na:=hk a λz=>nd.2.2 a z a (by simp) rfl
    have nb:=hk b λz=>nd.2.2 b z b (by simp) rfl
    have ab:a≠b:=λz=>by
     have:=nd.2.1;rw[z]at this;simp at this
    have nb2:kE b∉(k++[(kE a,eD b)]).map (·.1):=by
     rw[Yc];intro z;rcases Qb.mp z with z|z
     ·exact nb z
     ·exact ab<|yi (Wa.mp z).symm
    have il:SA (jD [a,b]) (.int<|-1)=some (eD b,false):=VF.ix_tup<|jJ (xs:=[a,b]) rfl;have v1:∀o:D,Tn (aC<|Sy S9 (SF b9<|aa (aF 2) ag)<|fC<|.int 2) (Sy SA (aF 2)<|fC<|.int 1) (fC .non) [.v<|.tup<|js.map jD,.o o,.v<|jD [a,b]]=some (.d<|eD b,[.v<|.tup<|js.map jD,.o o,.v<|jD [a,b]]):=λo=>m6 (D7 (i:=2) (aL rfl rfl<|on [a,b]) rfl)<|ay rfl rfl rfl rfl<|wE a b [];have v2:∀o:D,Tn (aC<|Sy S9 (SF b9<|aa (aF 2) ag)<|fC<|.int 2) (Sy SA (aF 2)<|fC<|.int 0) (fC .non) [.v<|.tup<|js.map jD,.o o,.v<|jD [a,b]]=some (.d<|eD a,[.v<|.tup<|js.map jD,.o o,.v<|jD [a,b]]):=λo=>m6 (D7 (i:=2) (aL rfl rfl<|on [a,b]) rfl)<|ay rfl rfl rfl rfl<|om a [b];refine⟨(bS js k<|.v<|jD [a,b]),(bS js ((k++[(kE a,eD b)])++[(kE b,eD a)])<|.v<|jD [a,b]),bG (t:=s2) rfl i2,?_,(k++[(kE a,eD b)])++[(kE b,eD a)],.v<|jD [a,b],rfl,⟨?_,λc hc=>?_,λc d hc=>?_⟩,rfl⟩
    ·exact aj (iS (v1 _) rfl rfl rfl (ay rfl rfl rfl rfl<|om a [b]) rfl rfl rfl<|by rw[Jz<|by lia,p7 na])<|iS (v2 _) rfl rfl rfl (ay rfl (nr rfl rfl rfl) rfl rfl il) rfl rfl rfl<|by rw[Jz (by rw[Xa,Vf];lia),p7 nb2]
    ·rw[Yc,Yc,T.ks,Yi,Yc,Yd];rfl
    ·rcases Qb.mp hc with z|z
     ·exact db<|db<|T.a1 c z
     ·cases Wa.mp z
    ·rcases Qb.mp hc with z|z
     ·exact⟨db<|db (T.a2 c d z).1,db<|db (T.a2 c d z).2⟩
     ·cases Wa.mp z
      exact⟨db (nE na),nE nb2⟩)
  js [] (bS js [] .e) rfl ⟨[],.e,rfl,⟨rfl,(λa hj=>by cases hj),λa b hj=>by cases hj⟩,rfl⟩
 exact⟨k,aN (o:=.rt (.s 1)<|bS js k t2) rfl (aj rfl<|aj (cY (dS rfl rfl) el) rfl) rfl,T⟩
def Na(p:Bd):SL p=((SG p).1,1-(SG p).2):=by obtain⟨t,n⟩:=p;cases t<;>rfl
theorem Ea(h:Nm p.2):lD [eD<|SG p]=some (Sz p,false):=by
 obtain⟨t,n⟩:=p;have i0:SA (eD<|SG (t,n)) (.int 0)=some (Sz (false,n),false):=ci (i:=0) rfl;have i1:SA (eD<|SG (t,n)) (.int 1)=some (.int (if t then 1 else 0),false):=ci (i:=1) rfl;refine aN (o:=.rt (.d<|Sz (t,n)) [.v<|eD<|SG (t,n)]) rfl (aO ?_) rfl;cases t with|false=>exact m6 (D7 (i:=0) (ay rfl rfl rfl rfl i1) rfl) (ay rfl rfl rfl rfl i0)|true=>exact oC (Jp (i:=1) (ay rfl rfl rfl rfl i1) rfl<|by decide)<|aY (af (ay rfl rfl rfl rfl i0) rfl) rfl (yg (t:=false) h) rfl
def sX(p:Bd):ng [eD<|SG p]=some (eD<|SL p,false):=by
 have i0:SA (eD<|SG p) (.int 0)=some (.str (SG p).1,false):=ci (i:=0) rfl;have i1:SA (eD<|SG p) (.int 1)=some (.int (SG p).2,false):=ci (i:=1) rfl;rw[Na];exact aN (o:=.rt (.d<|eD ((SG p).1,1-(SG p).2)) [.v<|eD<|SG p]) rfl (aO<|bB (af (ay rfl rfl rfl rfl i0)<|af (ay rfl (ay rfl rfl rfl rfl i1) rfl rfl rfl) rfl) rfl<|by simp) rfl
theorem wH{ps:Se Bd}(h:ps≠[]):(ps++[q]).headD z0=ps.headD z0:=by
 cases ps with|nil=>exact absurd rfl h|cons _ _=>rfl
open Classical in
def Ts(M:End->End->Prop)(b:End):Nat->Se Bd->Se Bd
 |0,ps=>ps
 |n+1,ps=>if h:∃f,M (SL<|ps.getLastD z0) f/\f≠b then Ts M b n (ps++[dL h.choose]) else ps
structure Fd(js:List SE)(xs:List Str)(S:Str->Prop)(b:End)(ps:List Bd):Prop where
 wk:Wk js xs S ps
 hd:SG (ps.headD z0)=b
 la:[SL<|ps.getLastD z0]∈js\/Mt js (SL<|ps.getLastD z0) b
abbrev wS(b:End)(VV:List (List Key×D))(ps:List Bd)(d:D):En:=[.v<|eD b,.v<|.dt VV,.o<|.lst<|ps.map Sz,.v d]
def vb(J:Js js xs)(T:Sd js VV)(cl:∀e f,Mt js e f->S f.1->S e.1)(nm:∀x∈xs,Nm x)(hx:xs.length<=60)(hb:b∈js.flatten)(hs:¬ S b.1):gm [eD b,.dt VV]=some (.tup<|(Ts (Mt js) b 69 [dL b]).map Sz,false)/\Fd js xs S b (Ts (Mt js) b 69 [dL b]):=by
 have b2:=J.en.mp hb;have w0:Wk js xs S [dL b]:=⟨by simp,(λj hj=>by cases hj),by simp,λp hp=>by rw[Wa.mp hp];exact b2.1,λp hp=>by rw[Wa.mp hp];exact hs⟩
 have nx:∀ps,Wk js xs S ps->∃d,cF VV (kE<|SL<|ps.getLastD z0)=some d/\(([SL<|ps.getLastD z0]∈js/\d=.non)\/∃f,Mt js (SL<|ps.getLastD z0) f/\d=eD f):=λps W=>by
  rcases Sd.two J T (J.en.mpr ⟨W.xs _<|Va<|gw W.ne,Jv _⟩) with⟨h1,h2⟩|⟨g,h1,h2⟩
  ·exact⟨_,h2,.inl ⟨h1,rfl⟩⟩
  ·exact⟨_,h2,.inr ⟨g,h1,rfl⟩⟩
 obtain⟨d0,g0,h0⟩:=nx _ w0;have g0:cF VV (kE<|SL<|dL b)=some d0:=g0
 let I:Nat->En->Prop:=λm st=>∃ps d,st=(wS b VV ps d)/\Wk js xs S ps/\SG (ps.headD z0)=b/\(([SL<|ps.getLastD z0]∈js/\d=.non)\/∃f,Mt js (SL<|ps.getLastD z0) f/\d=eD f)/\Ts (Mt js) b m ps=Ts (Mt js) b 69 [dL b]/\m=70-ps.length
 obtain⟨sf,ew,ps,d,rfl,fd,fe⟩:=ue (f:=lO (aC<|Sy (oW true) (aF 3)<|fC .non)<|aC<|Sy kj (aF 3)<|aF 0) (B:=gW) I
  (λst=>∃ps d,st=(wS b VV ps d)/\Fd js xs S b ps/\ps=Ts (Mt js) b 69 [dL b]) (by
   rintro m st ⟨ps,d,rfl,W,hd,h,hw,rfl⟩;have wl:=W.len;have e70:70-ps.length=(69-ps.length)+1:=by lia
   rw[e70,Ts]at hw;rcases h with⟨h,rfl⟩|⟨f,m,rfl⟩
   ·rw[dif_neg λz=>(A8 z).1.sym.free J h]at hw;exact .inl ⟨_,MV<|aI (ay rfl rfl rfl rfl rfl) rfl,ps,.non,rfl,⟨W,hd,.inl h⟩,hw⟩
   ·have t1:aC (Sy (oW true) (aF 3)<|fC .non) (wS b VV ps<|eD f)=some (true,(wS b VV ps<|eD f)):=aI (ay rfl rfl rfl rfl rfl) rfl;have t2:aC (Sy kj (aF 3)<|aF 0) (wS b VV ps<|eD f)=some (!decide (f=b),(wS b VV ps<|eD f)):=aI (ay rfl rfl rfl rfl VS) rfl;by_cases q:f=b
    ·rw[dif_neg λz=>(A8 z).2 ((Mt.uni J (A8 z).1 m).trans q)]at hw;exact .inl ⟨_,sI t1<|eW t2 (by rw[Af q];rfl),ps,eD f,rfl,⟨W,hd,.inr<|q ▸ m⟩,hw⟩
    ·right;have hz:∃g,Mt js (SL<|ps.getLastD z0) g/\g≠b:=⟨f,m,q⟩;rw[dif_pos hz,Mt.uni J hz.choose_spec.1 m]at hw;obtain⟨W2,le⟩:=W.step J cl (e:=f) m (by rw[hd];exact q)
     have l2:=W2.len;rw[Xa,Vf]at l2;have np:Nm (dL f).2:=nm _<|W2.xs _<|by simp
     have be:=Ea np;have ac:=sX<|dL f;rw[le]at be ac;have la:(ps++[dL f]).getLastD z0=dL f:=wC ps _ z0;obtain⟨d,h1,h2⟩:=nx _ W2;have h1:cF VV (kE<|SL<|dL f)=some d:=by rw[<-h1,la]
     refine⟨_,(wS b VV (ps++[dL f]) d),69-ps.length,sI t1<|eW t2 (by rw[Ae q];rfl),(aj (s:=(wS b VV (ps++[dL f])<|eD f)) (bM<|eY rfl rfl rfl (af (aT rfl rfl be) rfl) rfl rfl rfl (cN (by rw[Ya];lia)) (by unfold wS;rw[Yc];rfl)) ?_),by lia,ps++[dL f],d,rfl,W2,by rw[wH W.ne];exact hd,h2,hw,by rw[Xa,Vf];lia⟩
     exact cO (ay rfl (aT rfl rfl ac) rfl rfl (va h1)) rfl)
  100 69 (wS b VV [dL b] d0) (by lia) ⟨[dL b],d0,rfl,w0,nC b2.2,h0,rfl,rfl⟩
 rw[<-fe];refine⟨?_,fd⟩;have be:=Ea (p:=dL b)<|nm _ b2.1;have ac:=sX<|dL b;rw[nC b2.2]at be ac;exact aN (o:=.rt (.d<|.tup<|ps.map Sz)<|wS b VV ps d) rfl (aj (fj (gc (af (aT rfl rfl be) rfl) rfl<|by simp) rfl)<|aj (cO (ay rfl (aT rfl rfl ac) rfl rfl<|va g0) rfl)<|aj ew<|aO<|aL rfl rfl rfl) rfl
end
section
variable {js:Se SE}{xs:Se Str}
def FN(T:Sd js VV):mq [.dt VV]=some (.lst<|(aD js.flatten).map eD,true):=by
 have ek:(VV.map λkv=>D.tup<|kv.1.map fX)=js.flatten.map eD:=by
  have:(VV.map λkv=>D.tup<|kv.1.map fX)=(VV.map (·.1)).map λk=>D.tup (k.map fX):=by rw[Zf];rfl
  rw[this,T.ks,Zf];rfl
 have:=cS (d:=.lst<|js.flatten.map eD) js.flatten rfl;unfold bL at this;unfold mq;dsimp only[pJ];rw[ek];exact this
def SZ(js:Se SE)(e:End):Ss:=decide<|[e]∈js
def fr(js:Se SE):Se End:=(aD js.flatten).filter (SZ js)
def Wp:f∈fr js↔[f]∈js:=by
 unfold fr;rw[Wl,(aK js.flatten).2.mem_iff];exact⟨λh=>An h.2,λh=>⟨Wg.mpr ⟨[f],h,by simp⟩,Af h⟩⟩
def Eb(J:Js js xs)(T:Sd js VV)(h:e∈js.flatten)(h1:aF i st=some (r,st))(h2:cont st r=some (.dt VV))(h3:f st=some (.d<|eD e,st)):aC (Sy (oW false) (Sy jM (aF i) f)<|fC .non) st=some (SZ js e,st):=by
 rcases Sd.two J T h with⟨h4,h5⟩|⟨g,h4,h5⟩
 ·rw[show SZ js e=true from Af h4];exact aI (ay (ay h1 h3 h2 rfl<|va h5) rfl rfl rfl rfl) rfl
 ·rw[show SZ js e=false from Ae λz=>h4.sym.free J z];exact aI (ay (ay h1 h3 h2 rfl<|va h5) rfl rfl rfl rfl) rfl
def FP(J:Js js xs)(T:Sd js VV):cA (gN 0) jx jy 1 ((aD js.flatten).map eD) [.e,.o<|.dt VV]=some ((fr js).map eD,[.e,.o<|.dt VV]) :=
 ft (fg:=gN 0) (fc:=jx) (fe:=jy) (k:=1) eD eD (SZ js) [.e,.o<|.dt VV] (aD js.flatten) λe he=>⟨[.v<|eD e,.o<|.dt VV],[.v<|eD e,.o<|.dt VV],rfl,Eb J T ((aK js.flatten).2.mem_iff.mp he) rfl rfl rfl,λ_=>rfl,λ_=>⟨.d<|eD e,[.v<|eD e,.o<|.dt VV],[.v<|eD e,.o<|.dt VV],rfl,rfl,rfl⟩⟩
structure So(js:List SE)(xs:List Str)(ss:List aR):Prop where
 ne:∀s∈ss,s.2≠[]
 sub:∀j∈ss.flatMap sj,j∈js
 nd:(SX ss).Nodup
 xs:∀n∈SX ss,n∈xs
def gy(ss:Se aR)(s:aR):SX (ss++[s])=SX ss++s.2.map (·.2):=by
 unfold SX;rw[Qg,AI,Yc]
def So.step(J:Js js xs)(o:So js xs ss)(fd:Fd js xs (·∈SX ss) e ps)(he:[e]∈js\/∀f,[f]∈js->f.1∈SX ss):So js xs (ss++[(!SZ js e,ps)]):=by
 have lm:ps.getLastD z0∈ps:=Va<|gw fd.wk.ne;refine⟨λt ht=>?_,λj hj=>?_,?_,λn hn=>?_⟩
 ·rcases Qb.mp ht with z|z
  ·exact o.ne t z
  ·rw[Wa.mp z];exact fd.wk.ne
 ·rw[Qg,AI]at hj;rcases Qb.mp hj with z|z
  ·exact o.sub j z
  ·rcases Qb.mp z with z|z
   ·exact fd.wk.ij j z
   ·by_cases c:[e]∈js
    ·rw[show SZ js e=true from Af c]at z;have:j=[SG<|ps.headD z0]\/j=[SL<|ps.getLastD z0]:=by
      rcases Vc.mp z with z|z
      ·exact .inl z
      ·exact .inr<|Wa.mp z
     rcases this with rfl|rfl
     ·rw[fd.hd];exact c
     ·exact fd.la.elim id λm=>(m.free J c).elim
    ·rw[show SZ js e=false from Ae c]at z;have:j=aD [SG<|ps.headD z0,SL<|ps.getLastD z0]:=Wa.mp z;rw[this,fd.hd];exact fd.la.elim (λl=>(absurd ((he.resolve_left c) _ l)<|fd.wk.ns _ lm)) λm=>m.sym
 ·rw[gy,Xk]
  exact⟨o.nd,fd.wk.nd,λa ha b hb z=>by
   obtain⟨p,hp,rfl⟩:=Qc.mp hb
   exact fd.wk.ns p hp (z ▸ ha)⟩
 ·rw[gy]at hn;rcases Qb.mp hn with z|z
  ·exact o.xs n z
  ·obtain⟨p,hp,rfl⟩:=Qc.mp z;exact fd.wk.xs p hp
theorem yj:∀{a b g r:Se α}{e:α},a++b=g++e::r->e∈a\/∀x∈a,x∈g
 |[],_,_,_,_,_=>.inr λx hx=>by cases hx
 | x::a,b,[],r,e,h=>by
  injection h with h1 _
  exact .inl (by rw[h1];exact Zc)
 | x::a,b,y::g,r,e,h=>by
  injection h with h1 h2
  rcases yj h2 with z|z
  ·exact .inl<|Wb _ z
  ·right;intro w hw;rcases Vc.mp hw with q|q
   ·rw[q,h1];exact Zc
   ·exact Wb _<|z w q
structure Sn(sk:List (Key×D))(ns:List Str):Prop where
 ks:∀n:Str,(.inr n:Key)∈sk.map (·.1)↔n∈ns
 ln:sk.length<=ns.length
def LT{a0 a1 a2 a3 a5 a6 s7:Sl}{ps:Se Bd}(hp:∀p∈ps,Nm p.2)(hl:ps.length<=100){ns:Se Str}(hn:ns.length<=100)(hk:Sn sk ns)(i7:s7.isIo=false) :
  ∃sk' t7,eZ (gN 7) jz (ps.map Sz) [a0,a1,a2,a3,.o<|.dk sk,a5,a6,s7]=some (.nx [a0,a1,a2,a3,.o<|.dk sk',a5,a6,t7])/\Sn sk' (ns++ps.map (·.2))/\t7.isIo=false:=by
 obtain⟨sf,el,sk',t7,rfl,h1,i7'⟩:=bZ (fg:=gN 7) (B:=jz) Sz ps (λg st=>∃sk s7,st=[a0,a1,a2,a3,.o<|.dk sk,a5,a6,s7]/\Sn sk (ns++g.map (·.2))/\s7.isIo=false)
  (by
   rintro g p r st ha ⟨sk,s7,rfl,h1,i7⟩;have np:=hp p (by rw[ha];simp)
   have gl:=congrArg List.length ha;rw[Xa,Wc]at gl;have kl:=h1.ln;rw[Xa,Ya]at kl;have VX:m7 (.dk sk) (.str p.2) (.bl true)=some (.dk<|ie sk (.inr p.2)<|.bl true):=by
    show(if sk.length<100000 then some (D.dk<|ie sk (.inr p.2)<|.bl true) else none)=_;rw[Ag<|by lia]
   refine⟨[a0,a1,a2,a3,.o<|.dk sk,a5,a6,.v<|Sz p],[a0,a1,a2,a3,.o<|.dk<|ie sk (.inr p.2)<|.bl true,a5,a6,.v<|Sz p],bG (t:=s7) rfl i7,?_,ie sk (.inr p.2)<|.bl true,.v<|Sz p,rfl,⟨λn=>?_,?_⟩,rfl⟩
   ·exact iS rfl rfl rfl rfl (aY rfl rfl (fA (t:=p.1) np) rfl) rfl rfl rfl VX
   ·rw[wG,h1.ks n,Yc,<-Yd,Qb (s:=ns++g.map (·.2))];show(Sum.inr n:Key)=.inr p.2\/_↔_\/n∈[p.2];rw[Wa];exact⟨λh=>h.elim (λz=>.inr<|Sum.inr.inj z) .inl,λh=>h.elim .inr λz=>.inl<|by rw[z]⟩
   ·have:=D9 (VV:=sk) (k:=(.inr p.2:Key)) (d:=.bl true);rw[Yc,Xa,Xa,Ya];show _<=ns.length+(g.length+1)
    lia)
  ps [] [a0,a1,a2,a3,.o<|.dk sk,a5,a6,s7] rfl ⟨sk,s7,rfl,by rw[C9,We];exact hk,i7⟩
 exact⟨sk',t7,el,h1,i7'⟩
def nF(M:End->End->Prop)(F:End->Ss)(ss:Se aR)(e:End):Se aR:=if e.1∈SX ss then ss else ss++[(!F e,Ts M e 69 [dL e])]
def SS(js:Se SE):Se aR:=(fr js++aD js.flatten).foldl (nF (Mt js)<|SZ js) []
abbrev oS(a0 x1 a2:Sl)(ss:List aR)(sk:List (Key×D))(x5 x6 x7:Sl):En:=[a0,x1,a2,.o<|.lst<|ss.map SH,.o<|.dk sk,x5,x6,x7]
inductive OI(js:List SE)(xs:List Str)(VV:List (List Key×D))(a0 a2:Sl)(gone:List End)(st:En):Prop
 | mk (x1 x5 x6 x7:Sl) (ss:List aR) (sk:List (Key×D)) (e:st=oS a0 x1 a2 ss sk x5 x6 x7) (hx:x1=.o (.dt VV)\/x1=.v (.dt VV)) (hs:gone.foldl (nF (Mt js)<|SZ js) []=ss) (o:So js xs ss) (hk:Sn sk (SX ss)) (hg:∀e∈gone,e.1∈SX ss) (j5:x5.isIo=false) (j6:x6.isIo=false) (j7:x7.isIo=false)
def wI(J:Js js xs)(nm:∀x∈xs,Nm x)(hx:xs.length<=60):qM [.tup<|js.map jD]=some (.tup<|(cn<|SS js).map SH,false)/\So js xs (SS js)/\(SX<|SS js).Perm xs:=by
 have fl:js.flatten.length<=120:=by
  have:=J.pf.length_eq;rw[Xa,Ya,Ya]at this;lia
 obtain⟨VV,be,T⟩:=oq J.ln J.nd (by lia)
 have sok:=FN T;have frl:(fr js).length<=120:=by
  have:=AK (SZ js)<|aD js.flatten;rw[fS]at this;unfold fr;lia
 have ad:cK (.lst<|(fr js).map eD) (.lst<|(aD js.flatten).map eD)=some (.lst<|(fr js++aD js.flatten).map eD,true):=by
  rw[uY (by rw[Ya,Ya,fS js.flatten];lia),Yc]
 have JS:∃z:Sl,z=.v (.tup<|js.map jD):=⟨_,rfl⟩;obtain⟨a0,ha0⟩:=JS;have FR:∃z:Sl,z=.o (.lst<|(fr js).map eD):=⟨_,rfl⟩;obtain⟨a2,ha2⟩:=FR;obtain⟨sf,el,x1,x5,x6,x7,ss,sk,rfl,hx1,hss,o,hk,hg,j5,j6,j7⟩:=bZ (fg:=gN 5) (B:=mz) eD (fr js++aD js.flatten) (OI js xs VV a0 a2)
  (by
   rintro gone e rest st ha ⟨x1,x5,x6,x7,ss,sk,rfl,hx1,hss,o,hk,hg,j5,j6,j7⟩;have hst:(gone++[e]).foldl (nF (Mt js)<|SZ js) []=nF (Mt js) (SZ js) ss e:=by rw[B3,hss];rfl
   have hne:e∈js.flatten:=by
    have:e∈fr js++aD js.flatten:=by rw[ha];simp
    rcases Qb.mp this with z|z
    ·exact Wg.mpr ⟨[e],Wp.mp z,by simp⟩
    ·exact(aK js.flatten).2.mem_iff.mp z
   have ix:SA (eD e) (.int 0)=some (.str e.1,false):=ci (i:=0) rfl;have tst:aC (Sy (Ic true) (Sy SA (aF 5)<|fC<|.int 0)<|aF 4) (oS a0 x1 a2 ss sk (.v<|eD e) x6 x7)=some (!decide (e.1∈SX ss),(oS a0 x1 a2 ss sk (.v<|eD e) x6 x7)):=by
    refine aI (ay (ay rfl rfl rfl rfl ix) rfl rfl rfl (z:=(.bl<|!decide (e.1∈SX ss),false)) ?_) rfl;show some (D.bl<|!(cF sk<|.inr e.1).isSome,false)=_;rw[D8];congr 4;exact decide_eq_decide.mpr<|hk.ks e.1
   by_cases c:e.1∈SX ss
   ·refine⟨_,(oS a0 x1 a2 ss sk (.v<|eD e) x6 x7),bG (t:=x5) rfl j5,dm (eW tst (by rw[Af c];rfl)) rfl,x1,.v<|eD e,x6,x7,ss,sk,rfl,hx1,by rw[hst];exact Ag c,o,hk,λf hf=>?_,rfl,j6,j7⟩
    rcases Qb.mp hf with z|z
    ·exact hg f z
    ·rw[Wa.mp z];exact c
   ·obtain⟨ew,fd⟩:=vb (S:=(·∈SX ss)) J T (gx J o.ne o.sub) nm hx hne c;have hst:=hst.trans<|Ak c;generalize Ts (Mt js) e 69 [dL e]=ps at ew fd hst
    have o2:=o.step J fd (by
     rcases yj ha with z|z
     ·exact .inl<|Wp.mp z
     ·exact .inr λf hf=>hg f (z f (Wp.mpr hf)))
    have nl:(SX<|ss++[(!SZ js e,ps)]).length<=60:=by
     have:=jY _ xs o2.nd o2.xs;lia
    rw[gy,Xa,Ya]at nl;have sl:ss.length<=60:=by
     have:=jI ss o.ne;walk_at "B";lia
    have pn:∀p∈ps,Nm p.2:=λp hp=>nm _<|fd.wk.xs p hp;dsimp only at nl;obtain⟨sk',t7,e7,hk',i7⟩:=LT (a0:=a0) (a1:=.v<|.dt VV) (a2:=a2) (a3:=.o<|.lst<|(ss++[(!SZ js e,ps)]).map SH) (a5:=.v<|eD e) (a6:=.v<|.tup<|ps.map Sz) (s7:=x7) pn (by lia) (ns:=SX ss) (by lia) hk j7
    have bf:bc (bj gm<|aa (aF 5)<|aa (aF 1) ag) 6 (oS a0 x1 a2 ss sk (.v<|eD e) x6 x7)=some (.nx<|oS a0 (.v<|.dt VV) a2 ss sk (.v<|eD e) (.v<|.tup<|ps.map Sz) x7):=by
     rcases hx1 with rfl|rfl<;>exact cO (aT (af rfl<|af rfl rfl) rfl ew)<|bG (t:=x6) rfl j6
    have kd':Tn (aC<|Sy (oW false) (Sy jM (aF 1)<|aF 5)<|fC .non) (fC<|.str "open") (fC<|.str "ring") (oS a0 (.v<|.dt VV) a2 ss sk (.v<|eD e) (.v<|.tup<|ps.map Sz) x7)=some (.d<|.str<|kd<|!SZ js e,(oS a0 (.v<|.dt VV) a2 ss sk (.v<|eD e) (.v<|.tup<|ps.map Sz) x7)):=by
     have t:=Eb J T hne (i:=1) (f:=aF 5) (st:=(oS a0 (.v<|.dt VV) a2 ss sk (.v<|eD e) (.v<|.tup<|ps.map Sz) x7)) rfl rfl rfl;cases q:SZ js e with|true=>exact m6 (eW t q) rfl|false=>exact oC (eW t q) rfl
    have ap:bY (fM SY br 3<|aa (bU<|aa (Tn (aC<|Sy (oW false) (Sy jM (aF 1)<|aF 5)<|fC .non) (fC<|.str "open")<|fC<|.str "ring")<|aa (aF 6) ag) ag) (oS a0 (.v<|.dt VV) a2 ss sk (.v<|eD e) (.v<|.tup<|ps.map Sz) x7)=some (.nx [a0,.v<|.dt VV,a2,.o<|.lst<|(ss++[(!SZ js e,ps)]).map SH,.o<|.dk sk,.v<|eD e,.v<|.tup<|ps.map Sz,x7]) :=
     bM (eY rfl rfl rfl (af (bB (af kd' rfl) rfl<|by simp) rfl) rfl rfl rfl (cN (by rw[Ya];lia)) (by rw[Yc];rfl))
    refine⟨_,_,bG (t:=x5) rfl j5,eO (eW tst (by rw[Ae c];rfl))<|aj bf<|aj ap<|cY (dS rfl rfl) e7,.v<|.dt VV,.v<|eD e,.v<|.tup<|ps.map Sz,t7,ss++[(!SZ js e,ps)],sk',rfl,.inr rfl,hst,o2,by rw[gy];exact hk',λf hf=>?_,rfl,rfl,i7⟩
    rw[gy];rcases Qb.mp hf with z|z
    ·exact Yg _<|hg f z
    ·refine Vd _ (Qc.mpr ⟨ps.headD z0,Va<|d6 fd.wk.ne,?_⟩)
     rw[Wa.mp z,<-fd.hd];rfl)
  (fr js++aD js.flatten) [] [a0,.o<|.dt VV,a2,.o<|.lst [],.o<|.dk [],.e,.e,.e] rfl ⟨.o<|.dt VV,.e,.e,.e,[],[],rfl,.inl rfl,rfl,⟨λs hs=>(by cases hs),λj hj=>(by cases hj),Bu,λn hn=>(by cases hn)⟩,⟨λn=>⟨λh=>(by cases h),λh=>(by cases h)⟩,Qa _⟩,λf hf=>(by cases hf),rfl,rfl,rfl⟩
 have pm:(SX ss).Perm xs:=(Bj o.nd J.nx).mpr λn=>⟨o.xs n,λhn=>hg (n,0)<|Vd _<|(aK js.flatten).2.mem_iff.mpr (J.en.mpr ⟨hn,.inl rfl⟩)⟩;rw[show SS js=ss from hss];refine⟨?_,o,pm⟩
 have ca:=Jj o.ne (λs hs p hp=>nm _ (o.xs _ (Qc.mpr ⟨p,Qm.mpr ⟨s,hs,hp⟩,rfl⟩))) (by
  have h1:=pm.length_eq;walk_at "B"
  lia)
 refine aN (o:=.rt (.d<|.tup<|(cn ss).map SH) [a0,x1,a2,.v<|.lst<|ss.map SH,.o<|.dk sk,x5,x6,x7]) rfl (aj (s:=[a0,.o<|.dt VV,.e,.e,.e,.e,.e,.e]) (fj (aT rfl rfl be) (by rw[ha0];rfl))<|aj (s:=[a0,.o<|.dt VV,a2,.e,.e,.e,.e,.e]) (fj (cb (vW (aL rfl rfl sok) rfl) (rN (n:=120) (by rw[Ya,fS];exact fl) (by decide) rfl)<|FP J T) (by rw[ha2];rfl))<|aj rfl<|aj rfl ?_) rfl
 have ev:Sy cK (aF 2) (SF mq<|aa (aF 1) ag) [a0,.o<|.dt VV,a2,.o<|.lst [],.o<|.dk [],.e,.e,.e]=some (.f<|.lst<|(fr js++aD js.flatten).map eD,[a0,.o<|.dt VV,a2,.o<|.lst [],.o<|.dk [],.e,.e,.e]):=by
  subst ha2;exact ay rfl (aL rfl rfl sok) rfl rfl ad
 exact aj (cY (vW ev rfl) el)<|aO<|aT rfl rfl ca
end
end K14
namespace VF
open PySem L2
theorem sY(f:α->Ss):∀xs:Se α,m5 (xs.map λx=>D.bl<|f x)=some (xs.map f)
 |[]=>rfl
 | x::r=>by
  show(m5<|r.map λx=>D.bl<|f x).bind _=_;rw[sY f r];rfl
def JA(f:α->Ss)(xs:Se α):qk [.lst<|xs.map λx=>D.bl<|f x]=some (.bl<|xs.all f,false):=by
 show(m5 _).bind _=_;rw[sY];show some (D.bl<|(xs.map f).all id,false)=_;rw[De];rfl
def JB(h:∀d∈ds,Pl n d)(hn:n<=39):kj (.lst ds) (.lst ds)=some (.bl false,false):=by
 have up:∀(k:Nat){m:Nat}{d:D},Pl m d->Pl (m+k) d:=λk=>by
  induction k with|zero=>intro m d h;exact h|succ k ih=>intro m d h;exact(ih h).up
 have e1:EV true (.lst ds) (.lst ds)=none:=rfl;have p:Pl 40 (.lst ds):=.lst λd hd=>by
  have:=up (39-n)<|h d hd;rwa [show n+(39-n)=39 by lia]at this
 cases ds with
 |nil=>
  unfold kj TF S6;rw[e1];rfl
 |cons x r=>
  have e2:Ou (.lst (x::r)) (.lst (x::r))=none:=rfl;have e3:vY true (.lst (x::r)) (.lst (x::r))=some (.bl false,false):=by
   unfold vY;rw[Ag ⟨p,p⟩];simp
  unfold kj TF S6;rw[e1,e2];exact e3
def LU{xs L:Se Int}(pm:L.Perm xs)(pw:L.Pairwise (·<=·)){d:D}(hd:d.seq=some (xs.map D.int)):bL [d]=some (.lst<|L.map D.int,true):=by
 have ca:CA 40 (xs.map D.int):=λa ha b hb=>by
  obtain⟨p,_,rfl⟩:=Qc.mp ha;obtain⟨q,_,rfl⟩:=Qc.mp hb;trivial
 have es:L.map D.int=dA 40 (xs.map D.int):=d7 ca (pm.map _) (by
  unfold T9;rw[Yk]
  exact List.Pairwise.imp (λ{a b} (hab:a<=b)=>Ae (by lia)) pw)
 unfold bL;simp only[hd]
 rw[Ag ⟨λx hx=>by obtain⟨p,_,rfl⟩:=Qc.mp hx;exact .int _ _,ca,⟨_,.sc (T:="int") (by decide) λd hd=>by
  obtain⟨p,_,rfl⟩:=Qc.mp hd
  exact⟨by simp,rfl⟩⟩⟩,<-es]
def JC(i:Int):kj (.int i) (.int i)=some (.bl false,false):=by
 have e1:EV true (.int i) (.int i)=some (.bl false,false):=by
  show some (D.bl<|!decide (V.int i=V.int i),false)=_;rw[Af rfl];rfl
 unfold kj TF S6;rw[e1]
def Vn:Nat->D->Ss|n+1,.tup ds=>ds.all (Vn n)|_+1,.int _=>true|_,_=>false
theorem JE:∀{n:Nat}{d:D},Vn n d=true->Pl n d
 |0,d,h=>by cases d<;>cases h
 | n+1,d,h=>by
  cases d with|int i=>exact .int n i|tup ds=>exact .tup λe he=>JE (Vj.mp h e he)|_=>cases h
def lJ(h:CA n ds):T9 n (dA n ds):=by
 obtain⟨es,p,q⟩:=yf ds h;rw[<-d7 h p q];exact q
end VF
namespace K14
open PySem L2 VF VL VF22
section
def UC(c:Nat):Ss:=!(Builtin.Str.occurrences ("abcdefghijklmnopqrstuvwxyz":Str) ⟨#[c]⟩ 0 ("abcdefghijklmnopqrstuvwxyz":Str).length 1).isEmpty
def LV:∀c:Nat,c<123->97<=c->UC c=true:=by decide +kernel
def UO(x:Str):Ss:=(decide (1<=x.length)&&decide (x.length<=6))&&x.cps.toList.all UC
def PJ(h:Nm x):UO x=true:=by
 obtain⟨h1,h2,h3⟩:=h;unfold UO;rw[Af h1,Af h2];simp only[Bool.and_self,Bool.true_and];rw[Vj];intro c hc;have:=h3 c hc;exact LV c (by lia) this.1
theorem len_str{x:Str}(h:x.length<=1000000):b9 [.str x]=some (.int (x.length:Int),false):=by
 first
  | rfl
  | (unfold b9 Uw;simp[G1,D.seq,G2,h])
def JF{x:Str}(h:x.length<=1000000):lC [.str x]=some (.bl<|UO x,false):=by
 have hc:dr 1 [] (S7<|aF 0) (gN 0) cM (Sy TY (aF 0)<|fC<|.str "abcdefghijklmnopqrstuvwxyz") [.v<|.str x]=some (.f<|.lst<|x.cps.toList.map λc=>D.bl<|UC c,[.v<|.str x]):=by
  refine cb (s1:=[.v (.str x)]) (ds:=qg x) (s2:=[.e]) rfl (by
   have:(qg x).length=x.length:=by unfold qg;rw[Ya,Zd];rfl
   rw[this,Af h];rfl) ?_
  exact cE (λc=>D.str ⟨#[c]⟩) (λc=>D.bl<|UC c) [.e] x.cps.toList λc _=>⟨[.v<|.str ⟨#[c]⟩],[.v<|.str ⟨#[c]⟩],.d<|.bl<|UC c,[.v<|.str ⟨#[c]⟩],[.v<|.str ⟨#[c]⟩],rfl,rfl,ay rfl rfl rfl rfl rfl,rfl,rfl⟩
 have ch:aC (tW Ul Ul (fC<|.int 1) (SF b9<|aa (aF 0) ag)<|fC<|.int 6) [.v<|.str x]=some (decide (1<=x.length)&&decide (x.length<=6),[.v<|.str x]):=by
  have l1:SF b9 (aa (aF 0) ag) [.v<|.str x]=some (.d<|.int (x.length:Int),[.v<|.str x]):=aL rfl rfl<|len_str h;have b1:Ul (.int 1) (.int (x.length:Int))=some (.bl<|decide<|1<=x.length,false):=by
   show some (D.bl<|decide<|(1:Int)<=(x.length:Int),false)=_;congr 3;rw[decide_eq_decide];lia
  have b2:Ul (.int (x.length:Int)) (.int 6)=some (.bl<|decide<|x.length<=6,false):=by
   show some (D.bl<|decide<|(x.length:Int)<=6,false)=_;congr 3;rw[decide_eq_decide];lia
  refine aI (r:=.d<|.bl<|decide (1<=x.length)&&decide (x.length<=6)) ?_ rfl;unfold tW;simp only[fC,l1,Xb,cont,b1];cases decide (1<=x.length) with
  |false=>rfl
  |true=>
   simp only[b2,Xb];rfl
 refine aN (o:=.rt (.d<|.bl<|UO x) [.v<|.str x]) rfl ?_ rfl;unfold UO;cases e:(decide (1<=x.length)&&decide (x.length<=6)) with
 |false=>
  rw[e]at ch;exact gK<|eO (rJ rfl<|kf ch) rfl
 |true=>
  rw[e]at ch;exact aj (dm (rJ rfl<|kf ch) rfl)<|aO<|aL (af hc rfl) rfl<|JA UC x.cps.toList
def JG(h:Nm x):lC [.str x]=some (.bl true,false):=by
 rw[JF (by have:=h.2.1;lia),PJ h]
def Uq(e:End):Prop:=Nm e.1/\(e.2=0\/e.2=1)
def LW(h:Uq e):qJ [eD e]=some (.bl true,false):=by
 obtain⟨x,i⟩:=e;obtain⟨h1,h2⟩:=h;refine aN (o:=.rt (.d<|.bl true) [.v<|eD (x,i)]) rfl (aj (dm (rJ rfl<|rJ rfl<|kf<|aI (aY (af (ay rfl rfl rfl rfl<|ci (i:=0) rfl) rfl) rfl (JG h1) rfl) rfl) rfl) ?_) rfl;rcases h2 with h2|h2
 ·have h2:i=0:=h2;subst h2;exact aO<|jh rfl rfl rfl
 ·have h2:i=1:=h2;subst h2;exact aO<|jh rfl rfl rfl
def JH{qs:Se (D×D)}(hz:UN (aa (aF 0)<|aa (Tv Tl (aF 0) (fQ<|fC<|.int 1) TD) ag) [.v d]=some (qs.map λq=>pr q.1 q.2,[.v d]))(hl:qs.length<=9)(hq:∀q∈qs,qz q.1 q.2=some (.bl true,false)):cZ [d]=some (.bl true,false):=by
 have ec:cA (gT 2<|Ti (gN 0)<|Ti (gN 1) TR) cM jv 2 (qs.map λq=>pr q.1 q.2) [.e,.e]=some (qs.map λ_=>D.bl true,[.e,.e]) :=
  cE (fg:=gT 2<|Ti (gN 0)<|Ti (gN 1) TR) (fc:=cM) (fe:=jv) (k:=2) (λq:D×D=>pr q.1 q.2) (λ_=>D.bl true) [.e,.e] qs λq h=>
   ⟨[.v q.1,.v q.2],[.v q.1,.v q.2],.d<|.bl true,[.v q.1,.v q.2],[.v q.1,.v q.2],rfl,rfl,ay rfl rfl rfl rfl<|hq q h,rfl,rfl⟩
 refine aN (o:=.rt (.d<|.bl true) [.v d]) rfl (aO<|aL (z:=(.bl true,false)) (af (cb hz ?_ ec) rfl) rfl ?_) rfl
 ·show(true&&decide ((qs.map λq=>pr q.1 q.2).length<=1000000))=true;rw[Ya,Af<|by lia];rfl
 ·show qk [.lst<|qs.map λ_=>D.bl true]=_;rw[pZ];exact ki _
def JI{qs:Se (D×D)}(hz:UN (aa (aF 0)<|aa (Tv Tl (aF 0) (fQ<|fC<|.int 1) TD) ag) [.v d]=some (qs.map λq=>pr q.1 q.2,[.v d]))(hl:qs.length<=2)(hq:∀q∈qs,qz q.1 q.2=some (.bl true,false)):cZ [d]=some (.bl true,false):=JH hz (by lia) hq
def Ec(x:D):cZ [.tup [x]]=some (.bl true,false):=rfl
def Ed(h:qz x y=some (.bl true,false)):cZ [.tup [x,y]]=some (.bl true,false):=by
 refine JI (qs:=[(x,y)]) ?_ (by show 1<=2;decide) λq hq=>by rw[Wa.mp hq];exact h
 have e1:(aa (aF 0)<|aa (Tv Tl (aF 0) (fQ<|fC<|.int 1) TD) ag) [.v<|.tup [x,y]]=some (_,_):=af rfl<|af (oB rfl rfl rfl rfl zX) rfl;show((aa (aF 0)<|aa (Tv Tl (aF 0) (fQ<|fC<|.int 1) TD) ag) [.v<|.tup [x,y]]).bind _=_;rw[e1];rfl
def LX(h:qz x y=some (.bl true,false)):cZ [.lst [x,y]]=some (.bl true,false):=by
 refine JI (qs:=[(x,y)]) ?_ (by show 1<=2;decide) λq hq=>by rw[Wa.mp hq];exact h
 rfl
def Ur(h:ltN 40 (eD a) (eD b)=true):qz (eD a) (eD b)=some (.bl true,false):=by
 rw[Iz (nq 38 a) (nq 38 b)<|zV 38 a b,h]
def JJ{j:SE}(h:∀e∈j,Uq e):cA (gN 0) cM gj 1 (j.map eD) [.e]=some (j.map λ_=>D.bl true,[.e]) :=
 cE (fg:=gN 0) (fc:=cM) (fe:=gj) (k:=1) eD (λ_=>D.bl true) [.e] j λe he=>⟨[.v<|eD e],[.v<|eD e],.d<|.bl true,[.v<|eD e],[.v<|eD e],rfl,rfl,aY rfl rfl (LW<|h e he) rfl,rfl,rfl⟩
def FQ{j:SE}(hl:j.length=1\/j.length=2)(h:∀e∈j,Uq e)(hr:cZ [jD j]=some (.bl true,false)):gR [jD j]=some (.bl true,false):=by
 refine aN (o:=.rt (.d<|.bl true) [.v<|jD j]) rfl ?_ rfl;have t:aC (Sy me (SF b9<|aa (aF 0) ag)<|bU<|aa (fC<|.int 1)<|aa (fC<|.int 2) ag) [.v<|jD j]=some (false,[.v<|jD j]):=by
  rcases hl with hl|hl
  ·exact aI (ay (aL rfl rfl<|on j) rfl rfl rfl (z:=(.bl false,false)) (by rw[hl];rfl)) rfl
  ·exact aI (ay (aL rfl rfl<|on j) rfl rfl rfl (z:=(.bl false,false)) (by rw[hl];rfl)) rfl
 refine aj (dm (rJ rfl t) rfl)<|aO<|jh (aL (af (cb (dS rfl rfl) ?_<|JJ h) rfl) rfl (by rw[pZ];exact ki _)) rfl<|aY rfl rfl hr rfl
 show(true&&decide ((j.map eD).length<=1000000))=true;rw[Ya,Af<|by lia];rfl
def JK{js:Se SE}(hl:js.length=1\/js.length=2)(h:∀j∈js,gR [jD j]=some (.bl true,false))(hr:cZ [.tup<|js.map jD]=some (.bl true,false)):iY [.tup<|js.map jD]=some (.bl true,false):=by
 have ec:cA (gN 0) cM iw 1 (js.map jD) [.e]=some (js.map λ_=>D.bl true,[.e]) :=
  cE (fg:=gN 0) (fc:=cM) (fe:=iw) (k:=1) jD (λ_=>D.bl true) [.e] js λe he=>⟨[.v<|jD e],[.v<|jD e],.d<|.bl true,[.v<|jD e],[.v<|jD e],rfl,rfl,aY rfl rfl (h e he) rfl,rfl,rfl⟩
 have ln:b9 [.tup<|js.map jD]=some (.int (js.length:Int),false):=by
  show some (D.int (((js.map jD).length:Nat):Int),false)=_;rw[Ya]
 refine aN (o:=.rt (.d<|.bl true) [.v<|.tup<|js.map jD]) rfl ?_ rfl;have t:aC (Sy me (SF b9<|aa (aF 0) ag)<|bU<|aa (fC<|.int 1)<|aa (fC<|.int 2) ag) [.v<|.tup<|js.map jD]=some (false,[.v<|.tup<|js.map jD]):=by
  rcases hl with hl|hl
  ·exact aI (ay (aL rfl rfl ln) rfl rfl rfl (z:=(.bl false,false)) (by rw[hl];rfl)) rfl
  ·exact aI (ay (aL rfl rfl ln) rfl rfl rfl (z:=(.bl false,false)) (by rw[hl];rfl)) rfl
 refine aj (dm (rJ rfl t) rfl)<|aO<|jh (aL (af (cb (dS rfl rfl) ?_ ec) rfl) rfl (by rw[pZ];exact ki _)) rfl<|aY rfl rfl hr rfl
 show(true&&decide ((js.map jD).length<=1000000))=true;rw[Ya,Af<|by lia];rfl
def wJ{js:Se SE}{L:Se Int}(hl:js.length<=2)(pm:L.Perm (js.map λj=>(j.length:Int)))(pw:L.Pairwise (·<=·)):pP [.tup<|js.map jD]=some (.tup<|L.map D.int,false):=by
 have ec:cA (gN 0) cM lE 1 (js.map jD) [.e]=some (js.map λj=>D.int (j.length:Int),[.e]) :=
  cE (fg:=gN 0) (fc:=cM) (fe:=lE) (k:=1) jD (λj=>D.int (j.length:Int)) [.e] js λe _=>⟨[.v<|jD e],[.v<|jD e],.d<|.int (e.length:Int),[.v<|jD e],[.v<|jD e],rfl,rfl,aL rfl rfl<|on e,rfl,rfl⟩
 refine aN (o:=.rt (.d<|.tup<|L.map D.int) [.v<|.tup<|js.map jD]) rfl (aO<|aL (af (aL (af (cb (dS rfl rfl) ?_ ec) rfl) rfl<|LU pm pw ?_) rfl) rfl rfl) rfl
 ·show(true&&decide ((js.map jD).length<=1000000))=true;rw[Ya,Af<|by lia];rfl
 ·show some (js.map λj=>D.int (j.length:Int))=_;rw[Zf];rfl
def sZ{js:Se SE}(hl:js.flatten.length<64):iZ [.tup<|js.map jD]=some (.lst<|(aD js.flatten).map eD,true):=by
 obtain⟨sf,e,s2,rfl,_⟩:=bZ (fg:=gN 2) (B:=kz) jD js
  (λgone st=>∃s2:Sl,st=[.v<|.tup<|js.map jD,.o<|.lst<|gone.flatten.map eD,s2]/\s2.isIo=false)
  (by
   rintro gone j rest st ha ⟨s2,rfl,q⟩;have hg:=congrArg (λl=>l.flatten.length) ha;simp only[Yi,Wi,Xa]at hg;refine⟨_,[.v<|.tup<|js.map jD,.o<|.lst<|(gone++[j]).flatten.map eD,.v<|jD j],bG rfl q,(bM<|eY rfl rfl rfl rfl rfl rfl rfl (Pz (ys:=j.map eD) (by rw[Ya,Ya];lia)) ?_),.v<|jD j,rfl,rfl⟩
   rw[Yi,Yc,Cn];rfl)
  js [] [.v<|.tup<|js.map jD,.o<|.lst [],.e] rfl ⟨.e,rfl,rfl⟩
 exact aN (o:=.rt (.f<|.lst<|(aD js.flatten).map eD) [.v<|.tup<|js.map jD,.o<|.lst<|js.flatten.map eD,s2]) rfl (aj (fj (gc rfl rfl (by show 0<=1000000;decide)) rfl)<|aj (cY (dS rfl rfl) e)<|aO<|aL rfl rfl<|cS js.flatten rfl) rfl
def RL(h:a≠b):eD a≠eD b:=λz=>h (by have:=congrArg T3 z;exact this)
def RM(h:a≠b):jD a≠jD b:=λz=>h (by have:=congrArg T4 z;rwa [kN,kN]at this)
def JL{L:Se End}(so:aD L=L)(nd:L.Nodup):L.Pairwise λa b=>ltN 40 (eD a) (eD b)=true:=by
 have hs:=lJ<|I0 L;rw[(aK L).1,so]at hs;have h2:L.Pairwise λa b=>ltN 40 (eD b) (eD a)=false:=Yk.mp hs;refine List.Pairwise.imp ?_<|List.Pairwise.and h2 nd;rintro a b ⟨h1,hn⟩;rcases(kr 40).tri (zV 38 a b) with z|z|z
 ·exact absurd z<|RL hn
 ·exact z
 ·rw[h1]at z;cases z
def LY{L:Se SE}(so:bC L=L)(nd:L.Nodup):L.Pairwise λa b=>ltN 40 (jD a) (jD b)=true:=by
 have hs:=lJ<|I8 L;rw[(bV L).1,so]at hs;have h2:L.Pairwise λa b=>ltN 40 (jD b) (jD a)=false:=Yk.mp hs;refine List.Pairwise.imp ?_<|List.Pairwise.and h2 nd;rintro a b ⟨h1,hn⟩;rcases(kr 40).tri (zW 37 a b) with z|z|z
 ·exact absurd z<|RM hn
 ·exact z
 ·rw[h1]at z;cases z
def VT(h:ltN 40 (jD a) (jD b)=true):qz (jD a) (jD b)=some (.bl true,false):=by
 rw[Iz (oH 37 a) (oH 37 b)<|zW 37 a b,h]
structure Yy(j:SE):Prop where
 hl:j.length=1\/j.length=2
 ok:∀e∈j,Uq e
 nd:j.Nodup
 so:aD j=j
structure HOk(js:List SE):Prop where
 hl:js.length=1\/js.length=2
 ok:∀j∈js,Yy j
 nd:js.Nodup
 so:bC js=js
def JM(h:Yy j):gR [jD j]=some (.bl true,false):=by
 refine FQ h.hl h.ok ?_;rcases ol h.hl with⟨a,rfl⟩|⟨a,b,rfl⟩
 ·exact Ec _
 ·exact Ed<|Ur<|(Ye.mp<|JL h.so h.nd).1 b (DO b)
def Ee{js:Se SE}(h:HOk js):iY [.tup<|js.map jD]=some (.bl true,false):=by
 refine JK h.hl (λj hj=>JM<|h.ok j hj) ?_;rcases h.hl with z|z
 ·obtain⟨j,rfl⟩:=List.length_eq_one_iff.mp z;exact Ec _
 ·match js,z with|[j,k],_=>exact Ed<|VT<|(Ye.mp<|LY h.so h.nd).1 k (DO k)
theorem FU{L:Se End}(hl:2<=L.length/\L.length<=4)(lt:L.Pairwise λa b=>ltN 40 (eD a) (eD b)=true):cZ [.lst<|L.map eD]=some (.bl true,false):=by
 match L,hl with
 |[a,b],_=>
  exact LX<|Ur<|(Ye.mp lt).1 b (by simp)
 |[a,b,c],_=>
  obtain⟨l1,lt⟩:=Ye.mp lt;obtain⟨l2,_⟩:=Ye.mp lt;refine JI (qs:=[(eD a,eD b),(eD b,eD c)]) rfl (by show 2<=2;decide) λq hq=>?_
  rcases Vc.mp hq with z|z
  ·rw[z];exact Ur<|l1 b<|by simp
  ·rw[Wa.mp z];exact Ur<|l2 c<|by simp
 |[a,b,c,d],_=>
  obtain⟨l1,lt⟩:=Ye.mp lt;obtain⟨l2,lt⟩:=Ye.mp lt;obtain⟨l3,_⟩:=Ye.mp lt;refine JH (qs:=[(eD a,eD b),(eD b,eD c),(eD c,eD d)]) rfl (by show 3<=9;decide) λq hq=>?_
  rcases Vc.mp hq with z|z
  ·rw[z];exact Ur<|l1 b<|by simp
  ·rcases Vc.mp z with z|z
   ·rw[z];exact Ur<|l2 c<|by simp
   ·rw[Wa.mp z];exact Ur<|l3 d<|by simp
def Ef(js:Se SE):Pl (n+4) (.tup<|js.map jD):=.tup λd hd=>by
 obtain⟨j,_,rfl⟩:=Qc.mp hd;exact oH n j
def UD:Se (Se Int×Se Int):=[([2],[1,1]),([1,1],[2]),([2,2],[2,2]),([1,2],[1,2])]
def dG(g c:Se SE):D:=.tup [.tup<|g.map jD,.tup<|c.map jD]
def LZ{g c:Se SE}{L M:Se Int}(hg:HOk g)(hc:HOk c)(nd:g.flatten.Nodup)(pm:c.flatten.Perm g.flatten)(ln:2<=g.flatten.length/\g.flatten.length<=4)
  (pL:L.Perm (g.map λj=>(j.length:Int)))(wL:L.Pairwise (·<=·))(pM:M.Perm (c.map λj=>(j.length:Int)))(wM:M.Pairwise (·<=·))(fm:(L,M)∈UD)(ne:g≠c):i9 [dG g c]=some (.bl true,false):=by
 have g2:g.length<=2:=by rcases hg.hl with z|z<;>lia
 have c2:c.length<=2:=by rcases hc.hl with z|z<;>lia
 have ec:cA (gN 0) cM iy 1 [.tup<|g.map jD,.tup<|c.map jD] [.e]=some ([.bl true,.bl true],[.e]) :=
  nV (fg:=gN 0) (fc:=cM) (fe:=iy) (k:=1) (λ_=>D.bl true) [.tup<|g.map jD,.tup<|c.map jD] [.e] λx hx=>by
   have hx':iY [x]=some (.bl true,false):=by
    rcases Vc.mp hx with z|z
    ·rw[z];exact Ee hg
    ·rw[Wa.mp z];exact Ee hc
   exact⟨[.v x],[.v x],.d<|.bl true,[.v x],[.v x],rfl,rfl,aY rfl rfl hx' rfl,rfl,rfl⟩
 have so:=fz pm;have e0:=sZ (js:=g) (by lia)
 have e1:iZ [.tup<|c.map jD]=some (.lst<|(aD g.flatten).map eD,true):=by rw[sZ (js:=c) (by rw[pm.length_eq];lia),so]
 have again:aD (aD g.flatten)=aD g.flatten:=fz (aK _).2;have ri:=FU (L:=aD g.flatten) (by rw[fS];exact ln)<|JL again<|(aK _).2.nodup_iff.mpr nd
 have nl:kj (.lst ((aD g.flatten).map eD)) (.lst ((aD g.flatten).map eD))=some (.bl false,false):=JB (n:=2) (λd hd=>by
  obtain⟨e,_,rfl⟩:=Qc.mp hd
  exact nq 0 e) (by decide)
 have nt:kj (.tup (g.map jD)) (.tup (c.map jD))=some (.bl true,false):=Jo (c:=false) (by
  have:=hg.hl;intro z;have z:=congrArg List.length z;rw[Ya,Vg]at z
  lia) (Ef (n:=36) g) (Ef (n:=36) c) ⟨λz=>(by cases z),λz=>absurd (by
   injection z with z
   have:=congrArg (List.map T4) z;rw[Zf,Zf,show(T4 ∘ jD)=id from funext kN,AY,AY]at this
   exact this) ne⟩
 refine aN (o:=.rt (.d<|.bl true) [.v<|dG g c,.v<|.tup<|g.map jD,.v<|.tup<|c.map jD,.o<|.lst<|(aD g.flatten).map eD]) rfl (aj (dm (rJ rfl<|rJ (aI (ay (aL rfl rfl (z:=(.int 2,false)) rfl) rfl rfl rfl<|JC 2) rfl)<|kf<|aI (aL (af (cb (dS rfl rfl) rfl ec) rfl) rfl (z:=(.bl true,false)) rfl) rfl) rfl)<|aj (cO (ay rfl rfl rfl rfl<|ci (i:=0) rfl) rfl)<|aj (cO (ay rfl rfl rfl rfl<|ci (i:=1) rfl) rfl)<|aj (fj (aT rfl rfl e0) rfl)<|aj (dm (rJ (kf<|aI (aY rfl rfl ri rfl) rfl)<|aI (ay rfl (aT rfl rfl e1) rfl rfl nl) rfl) rfl) ?_) rfl;have hin:∀{e:D},e∈[D.tup [.tup [.int 2],.tup [.int 1,.int 1]],.tup [.tup [.int 1,.int 1],.tup [.int 2]],.tup [.tup [.int 2,.int 2],.tup [.int 2,.int 2]],.tup [.tup [.int 1,.int 2],.tup [.int 1,.int 2]]]->Vn 40 e=true:=λ{e} he=>by
  simp only[Vc,List.not_mem_nil,or_false]at he;rcases he with rfl|rfl|rfl|rfl<;>rfl
 have hm:D.tup [.tup<|L.map D.int,.tup<|M.map D.int]∈[D.tup [.tup [.int 2],.tup [.int 1,.int 1]],.tup [.tup [.int 1,.int 1],.tup [.int 2]],.tup [.tup [.int 2,.int 2],.tup [.int 2,.int 2]],.tup [.tup [.int 1,.int 2],.tup [.int 1,.int 2]]]:=by
  have:=AG (f:=λp:Se Int×Se Int=>D.tup [.tup<|p.1.map D.int,.tup<|p.2.map D.int]) fm;exact this
 exact aO<|jh (Pm (b:=true) (bB (af (aT rfl rfl<|wJ g2 pL wL)<|af (aT rfl rfl<|wJ c2 pM wM) rfl) rfl (by show 2<=1000000;decide)) rfl (JE<|hin hm) (λe he=>JE<|hin he) ⟨λ_=>hm,λ_=>rfl⟩) rfl<|ay rfl rfl rfl rfl nt
end
end K14
namespace VF
open PySem L2
def PK(pa:Pl 40 (.tup xs))(pb:Pl 40 (.tup ys))(h:c=true↔D.tup xs=D.tup ys):iI (.tup xs) (.tup ys)=some (.bl c,false):=by
 have e1:S9 (.tup xs) (.tup ys)=none:=rfl;unfold iI S6;rw[e1];unfold vY;dsimp only;have dc:∀i:Decidable (D.tup xs=D.tup ys),@decide _ i=c:=λi=>by rw[Xf,decide_eq_true_eq];exact h.symm
 rw[Ag ⟨pa,pb⟩,dc];rfl
theorem JN(I:Nat->En->Prop)(Out:Rs->En->Prop)(step:∀(m:Nat)(st:En),I m st->∃s1,f st=some (true,s1)/\((∃r s2,B s1=some (.rt r s2)/\Out r s2)\/∃s2 m',B s1=some (.nx s2)/\m'<m/\I m' s2)) :
  ∀(n m:Nat)(st:En),m<n->I m st->∃r sf,TC f B n st=some (.rt r sf)/\Out r sf
 |0,m,st,hn,_=>absurd hn<|Nat.not_lt_zero _
 | n+1,m,st,hn,h=>by
  obtain⟨s1,e1,⟨r,s2,e2,ho⟩|⟨s2,m',e2,hm,h2⟩⟩:=step m st h
  ·exact⟨r,s2,by simp only[TC,e1,e2,Xb,if_true],ho⟩
  ·obtain⟨r,sf,e3,ho⟩:=JN I Out step n m' s2 (by lia) h2
   exact⟨r,sf,by simp only[TC,e1,e2,Xb,if_true];exact e3,ho⟩
end VF
namespace K14
open PySem L2 VF VL VF22
def VH:iI (eD a) (eD b)=some (.bl<|decide<|a=b,false):=by
 refine PK (nq 38 a) (nq 38 b) ?_;rw[decide_eq_true_eq];exact⟨λh=>by rw[h],λh=>by have:=congrArg T3 h;exact this⟩
def FV:iI (.int i) (.int j)=some (.bl<|decide<|i=j,false):=by
 have e:S9 (.int i) (.int j)=some (.bl<|decide<|i=j,false):=by
  show some (D.bl<|decide<|V.int i=V.int j,false)=_;by_cases h:i=j
  ·subst h;simp
  ·rw[Ae h,Ae<|λz=>h<|V.int.inj z]
 unfold iI S6;rw[e]
def UZ{j:SE}(h:j.length=2):∃a b,j=[a,b]:=by
 rcases ol (.inr h) with⟨a,rfl⟩|z
 ·cases h
 ·exact z
def UP{j:SE}(h:j.length=1):∃a,j=[a]:=by
 rcases ol (.inl h) with z|⟨a,b,rfl⟩
 ·exact z
 ·cases h
def VI{j:SE}(h:j.length=1\/j.length=2):∃o os,j=o::os/\os.length<=1:=by
 rcases ol h with⟨a,rfl⟩|⟨a,b,rfl⟩
 ·exact⟨a,[],rfl,Vh _⟩
 ·exact⟨a,[b],rfl,Qa _⟩
structure Sw(js:List SE)(VV:List (List Key×D)):Prop where
 ks:VV.map (·.1)=js.flatten.map kE
 at':∀j∈js,∀e∈j,cF VV (kE e)=some (jD j)
section
variable {js:Se SE}{xs:Se Str}{VV:Se (Se Key×D)}{S:Str->Prop}
def Sw.get(T:Sw js VV)(hj:j∈js)(he:e∈j):jM (.dt VV) (eD e)=some (jD j,false):=by
 show((some<|cF VV<|kE e).bind λo=>o.bind λd=>some (d,false))=_;rw[T.at' j hj e he];rfl
def Nb(p:Bd):Txt.mul minus (SG p).2++(SG p).1=bd p:=by
 obtain⟨t,n⟩:=p;have h:=Ju (t,n);have:=sV (d:=(SG (t,n)).2) (n:=n) (by lia) (by lia)
 show Txt.mul minus (SG (t,n)).2++n=_;rw[this];cases t<;>rfl
def FW(J:Js js xs)(T:Sw js VV)(cl:∀e f,Mt js e f->S f.1->S e.1)(nm:∀x∈xs,Nm x)(hx:xs.length<=60)(hb:b∈js.flatten)(hs:¬ S b.1)(he:[b]∈js\/∀f,[f]∈js->S f.1):gq [.dt VV,eD b]=some (SH (!SZ js b,Ts (Mt js) b 69 [dL b]),false):=by
 have b2:=J.en.mp hb;have w0:Wk js xs S [dL b]:=⟨by simp,(λj hj=>by cases hj),by simp,λp hp=>by rw[Wa.mp hp];exact b2.1,λp hp=>by rw[Wa.mp hp];exact hs⟩
 obtain⟨r,sf,ew,rfl⟩:=JN (f:=aC<|fC<|.bl true) (B:=ia)
  (λm st=>∃ps p s4,st=[.v<|.dt VV,.v<|eD b,.o<|.lst<|ps.map Sz,.v<|eD<|SG p,s4]/\Wk js xs S (ps++[p])/\SG ((ps++[p]).headD z0)=b/\s4.isIo=false/\m=70-ps.length/\Ts (Mt js) b (69-ps.length) (ps++[p])=Ts (Mt js) b 69 [dL b])
  (λr sf=>r=.d (SH (!SZ js b,Ts (Mt js) b 69 [dL b]))) (by
   rintro m st ⟨ps,p,s4,rfl,W,hd,i4,rfl,hw⟩;refine⟨_,rfl,?_⟩;have np:Nm p.2:=nm _<|W.xs p<|by simp
   have ln:=W.len;rw[Xa,Vf]at ln;have i0:SA (eD<|SG p) (.int 0)=some (.str (SG p).1,false):=ci (i:=0) rfl;have i1:SA (eD<|SG p) (.int 1)=some (.int (SG p).2,false):=ci (i:=1) rfl;have l2:=Ju p;have ap:bY (fM SY br 2<|aa (Sy cK (Sy mZ (fC<|.str "-")<|Sy SA (aF 3)<|fC<|.int 1)<|Sy SA (aF 3)<|fC<|.int 0) ag) [.v<|.dt VV,.v<|eD b,.o<|.lst<|ps.map Sz,.v<|eD<|SG p,s4]=some (.nx [.v<|.dt VV,.v<|eD b,.o<|.lst<|(ps++[p]).map Sz,.v<|eD<|SG p,s4]):=by
    refine bM<|eY rfl rfl rfl (af (ay (ay rfl (ay rfl rfl rfl rfl i1) rfl rfl<|uf ⟨by lia,by lia,by decide +kernel⟩) (ay rfl rfl rfl rfl i0) rfl rfl<|pE ?_) rfl) rfl rfl rfl (cN (by rw[Ya];lia)) ?_
    ·have:=(qD (p:=p) np).2;rw[<-Nb p,AN]at this;show(Txt.mul minus (SG p).2).length+(SG p).1.length<=_;lia
    ·rw[Yc];show [_,_,Sl.o<|.lst<|ps.map Sz++[D.str<|Txt.mul minus (SG p).2++(SG p).1],_,_]=_;rw[Nb];rfl
   have hr:SL p∈js.flatten:=J.en.mpr ⟨W.xs p<|by simp,Jv p⟩
   obtain⟨j,hj,hrj⟩:=Wg.mp hr;have tu:∀x2 x4,bU (aa (Sy SA (aF 3)<|fC<|.int 0)<|aa (Sy rG (fC<|.int 1)<|Sy SA (aF 3)<|fC<|.int 1) ag) [.v<|.dt VV,.v<|eD b,x2,.v<|eD<|SG p,x4]=some (.d<|eD<|SL p,[.v<|.dt VV,.v<|eD b,x2,.v<|eD<|SG p,x4]):=λx2 x4=>by
    rw[Na];exact bB (af (ay rfl rfl rfl rfl i0)<|af (ay rfl (ay rfl rfl rfl rfl i1) rfl rfl rfl) rfl) rfl (by simp)
   have gt:bc (Sy jM (aF 0)<|bU<|aa (Sy SA (aF 3)<|fC<|.int 0)<|aa (Sy rG (fC<|.int 1)<|Sy SA (aF 3)<|fC<|.int 1) ag) 4 [.v<|.dt VV,.v<|eD b,.o<|.lst<|(ps++[p]).map Sz,.v<|eD<|SG p,s4]=some (.nx [.v<|.dt VV,.v<|eD b,.o<|.lst<|(ps++[p]).map Sz,.v<|eD<|SG p,.v<|jD j]) :=
    cO (ay rfl (tu _ _) rfl rfl<|T.get hj hrj) (bG (t:=s4) rfl i4)
   have la:(ps++[p]).getLastD z0=p:=wC ps p z0;have tst:aC (Sy iI (SF b9<|aa (aF 4) ag)<|fC<|.int 1) [.v<|.dt VV,.v<|eD b,.o<|.lst<|(ps++[p]).map Sz,.v<|eD<|SG p,.v<|jD j]=some (decide<|(j.length:Int)=1,[.v<|.dt VV,.v<|eD b,.o<|.lst<|(ps++[p]).map Sz,.v<|eD<|SG p,.v<|jD j]):=aI (ay (aL rfl rfl<|on j) rfl rfl rfl FV) rfl;rw[show 69 - ps.length=(68 - ps.length)+1 by lia,Ts,la]at hw
   rcases J.ln j hj with lj|lj
   ·left;obtain⟨a,rfl⟩:=UP lj;have ea:SL p=a:=Wa.mp hrj;have hj':[SL p]∈js:=by rw[ea];exact hj
    rw[dif_neg λz=>(A8 z).1.sym.free J hj']at hw;have fb:SZ js b=true:=Af<|he.resolve_right λz=>W.ns p (by simp)<|z _ hj'
    exact⟨.d<|SH (false,ps++[p]),[.v<|.dt VV,.v<|eD b,.o<|.lst<|(ps++[p]).map Sz,.v<|eD<|SG p,.v<|jD [a]],(aj ap<|aj gt<|gK<|eO tst<|aO<|bB (af rfl<|af (aL rfl rfl rfl) rfl) rfl<|by simp),by rw[fb,<-hw];rfl⟩
   ·obtain⟨a,c,rfl⟩:=UZ lj;have mt:=Jt J hj hrj;have ix:SA (jD [a,c]) (.int (if decide (a=SL p) then 1 else 0))=some (eD (if a=SL p then c else a),false):=by
     by_cases q:a=SL p
     ·rw[Ag q,Af q];exact wE a c []
     ·rw[Ak q,Ae q];exact om a [c]
    generalize hf:(if a=SL p then c else a)=f at mt ix;have Wq:bc (Sy SA (aF 4)<|SF (b1 OK)<|aa (Sy iI (Sy SA (aF 4)<|fC<|.int 0)<|bU<|aa (Sy SA (aF 3)<|fC<|.int 0)<|aa (Sy rG (fC<|.int 1)<|Sy SA (aF 3)<|fC<|.int 1) ag) ag) 3 [.v<|.dt VV,.v<|eD b,.o<|.lst<|(ps++[p]).map Sz,.v<|eD<|SG p,.v<|jD [a,c]]=some (.nx [.v<|.dt VV,.v<|eD b,.o<|.lst<|(ps++[p]).map Sz,.v<|eD f,.v<|jD [a,c]]) :=
     cO (ay rfl (aL (af (ay (ay rfl rfl rfl rfl<|om a [c]) (tu _ _) rfl rfl VH) rfl) rfl rfl) rfl rfl ix) rfl
    have t5:aC (Sy iI (aF 3)<|aF 1) [.v<|.dt VV,.v<|eD b,.o<|.lst<|(ps++[p]).map Sz,.v<|eD f,.v<|jD [a,c]]=some (decide<|f=b,[.v<|.dt VV,.v<|eD b,.o<|.lst<|(ps++[p]).map Sz,.v<|eD f,.v<|jD [a,c]]):=aI (ay rfl rfl rfl rfl VH) rfl;by_cases q:f=b
    ·left;rw[dif_neg λz=>(A8 z).2 ((Mt.uni J (A8 z).1 mt).trans q)]at hw;have fb:SZ js b=false:=Ae λz=>mt.free J<|q ▸ z;exact⟨.d<|SH (true,ps++[p]),[.v<|.dt VV,.v<|eD b,.o<|.lst<|(ps++[p]).map Sz,.v<|eD f,.v<|jD [a,c]],(aj ap<|aj gt<|aj (dm tst rfl)<|aj Wq<|eO (eW t5<|Af q)<|aO<|bB (af rfl<|af (aL rfl rfl rfl) rfl) rfl<|by simp),by rw[fb,<-hw];rfl⟩
    ·right;have hz:∃g,Mt js (SL p) g/\g≠b:=⟨f,mt,q⟩;rw[dif_pos hz,Mt.uni J hz.choose_spec.1 mt]at hw;obtain⟨W2,le⟩:=W.step J cl (e:=f) (by rw[la];exact mt) (by rw[hd];exact q)
     have l2:=W2.len;rw[Xa,Xa,Vf,Vf]at l2
     refine⟨[.v (.dt VV),.v (eD b),.o (.lst ((ps++[p]).map Sz)),.v (eD f),.v (jD [a,c])],70-(ps++[p]).length,aj ap (aj gt (aj (dm tst rfl) (aj Wq (dm (eW t5 (Ae q)) rfl)))),by rw[Xa,Vf];lia,ps++[p],dL f,.v (jD [a,c]),by rw[le],W2,by rw[wH W.ne];exact hd,rfl,rfl,by rw[Xa,Vf,<-hw];congr 1;lia⟩)
  100 70 [.v<|.dt VV,.v<|eD b,.o<|.lst [],.v<|eD b,.e] (by lia) ⟨[],dL b,.e,by rw[nC b2.2];rfl,w0,by exact nC b2.2,rfl,rfl,rfl⟩
 exact aN (o:=.rt (.d<|SH (!SZ js b,Ts (Mt js) b 69 [dL b])) sf) rfl (aj rfl<|aj rfl ew) rfl
def JO{gone:Se SE}{j:SE}{a4 a5 a6 a7 s3:Sl}(nd:(gone.flatten++j).Nodup)(hl:(gone.flatten++j).length<100000)(i3:s3.isIo=false)(k0:Se (Se Key×D))(T:Sw gone k0) :
  ∃k1 t3,eZ (gN 3) fH (j.map eD) [.v JS,.o<|.dt k0,.v<|jD j,s3,a4,a5,a6,a7]=some (.nx [.v JS,.o<|.dt k1,.v<|jD j,t3,a4,a5,a6,a7])/\Sw (gone++[j]) k1/\t3.isIo=false:=by
 obtain⟨sf,el,k1,t3,rfl,h1,h2,h3,i3'⟩:=bZ (fg:=gN 3) (B:=fH) eD j (λg st=>∃k s3,st=[.v JS,.o<|.dt k,.v<|jD j,s3,a4,a5,a6,a7]/\k.map (·.1)=(gone.flatten++g).map kE/\(∀j'∈gone,∀e∈j',cF k (kE e)=some (jD j'))/\(∀e∈g,cF k (kE e)=some (jD j))/\s3.isIo=false)
  (by
   rintro g e r st ha ⟨k,s3,rfl,h1,h2,h3,i3⟩;have hk:kE e∉k.map (·.1):=by
    rw[h1];intro z;obtain⟨f,hf,e'⟩:=Qc.mp z;have:=yi e';subst this;rw[ha,show gone.flatten++(g++f::r)=(gone.flatten++g)++f::r by simp,Xk]at nd
    exact nd.2.2 f hf f Zc rfl
   have kl:k.length<100000:=by
    have e1:=congrArg List.length h1;rw[Ya,Ya,Xa]at e1;have e2:=congrArg List.length ha;rw[Xa]at hl e2;lia
   refine⟨[.v JS,.o<|.dt k,.v<|jD j,.v<|eD e,a4,a5,a6,a7],[.v JS,.o<|.dt<|k++[(kE e,jD j)],.v<|jD j,.v<|eD e,a4,a5,a6,a7],bG (t:=s3) rfl i3,?_,k++[(kE e,jD j)],.v<|eD e,rfl,?_,λj' hj' f hf=>db<|h2 j' hj' f hf,λf hf=>?_,rfl⟩
   ·exact iS rfl rfl rfl rfl rfl rfl rfl rfl (by rw[Jz kl,p7 hk])
   ·rw[Yc,h1,<-Yd,Yc (l₁:=gone.flatten++g)];rfl
   ·rcases Qb.mp hf with hf|hf
    ·exact db<|h3 f hf
    ·rw[Wa.mp hf];exact nE hk)
  j [] [.v JS,.o<|.dt k0,.v<|jD j,s3,a4,a5,a6,a7] rfl ⟨k0,s3,rfl,by rw[We];exact T.ks,T.at',(λe he=>by cases he),i3⟩
 refine⟨k1,t3,el,⟨?_,λj' hj' e he=>?_⟩,i3'⟩
 ·rw[h1,Yi];simp
 ·rcases Qb.mp hj' with z|z
  ·exact h2 j' z e he
  ·rw[Wa.mp z]at he ⊢;exact h3 e he
def JP(nd:js.flatten.Nodup)(hl:js.flatten.length<100000):∃k t2 t3,eZ (gN 2) fI (js.map jD) [.v JS,.o<|.dt [],.e,.e,a4,a5,a6,a7]=some (.nx [.v JS,.o<|.dt k,t2,t3,a4,a5,a6,a7])/\Sw js k/\t2.isIo=false/\t3.isIo=false:=by
 obtain⟨sf,el,k,t2,t3,rfl,T,i2,i3⟩:=bZ (fg:=gN 2) (B:=fI) jD js (λg st=>∃k s2 s3,st=[.v JS,.o<|.dt k,s2,s3,a4,a5,a6,a7]/\Sw g k/\s2.isIo=false/\s3.isIo=false)
  (by
   rintro g j r st ha ⟨k,s2,s3,rfl,T,i2,i3⟩;have e1:js.flatten=(g.flatten++j)++r.flatten:=by rw[ha,Yi,Wi];simp
   rw[e1,Xk]at nd;rw[e1,Xa]at hl;obtain⟨k1,t3,e2,T2,i3'⟩:=JO (JS:=JS) (a4:=a4) (a5:=a5) (a6:=a6) (a7:=a7) nd.1 (by lia) i3 k T
   exact⟨_,_,bG (t:=s2) rfl i2,cY (dS rfl rfl) e2,k1,.v (jD j),t3,rfl,T2,rfl,i3'⟩)
  js [] [.v JS,.o<|.dt [],.e,.e,a4,a5,a6,a7] rfl ⟨[],.e,.e,rfl,⟨rfl,λj hj=>by cases hj⟩,rfl,rfl⟩
 exact⟨k,t2,t3,el,T,i2,i3⟩
def RN(j:SE):Ss:=decide<|(j.length:Int)=1
def Vo(j:SE):End:=j.headD (Str.empty,0)
def T5(js:Se SE):Se End:=(js.filter RN).map Vo
def XQ:f∈T5 js↔[f]∈js:=by
 unfold T5;constructor
 ·intro h;obtain⟨j,hj,rfl⟩:=Qc.mp h;obtain⟨h1,h2⟩:=Wl.mp hj;have:(j.length:Int)=1:=An h2;obtain⟨a,rfl⟩:=UP (by lia:j.length=1)
  exact h1
 ·intro h;exact Qc.mpr ⟨[f],Wl.mpr ⟨h,rfl⟩,rfl⟩
def L7(h:Ub js):cA (gN 0) fJ fK 1 (js.map jD) [.e]=some ((T5 js).map eD,[.e]):=by
 have:=ft (fg:=gN 0) (fc:=fJ) (fe:=fK) (k:=1) jD (λj=>eD<|Vo j) RN [.e] js λj hj=>by
  refine⟨[.v<|jD j],[.v<|jD j],rfl,aI (ay (aL rfl rfl<|on j) rfl rfl rfl FV) rfl,λ_=>rfl,λ_=>⟨.d<|eD<|Vo j,[.v<|jD j],[.v<|jD j],?_,rfl,rfl⟩⟩;obtain⟨a,r,rfl,_⟩:=VI<|h j hj;exact ay rfl rfl rfl rfl<|om a r
 rw[this];unfold T5;rw[Zf];rfl
theorem Eg:∀js:Se SE,(T5 js).Sublist js.flatten
 |[]=>List.Sublist.refl _
 | j::r=>by
  have ih:=Eg r;unfold T5 at ih ⊢;rw[Wi,Ce];split
  ·rename_i h
   have:(j.length:Int)=1:=An h;obtain⟨a,rfl⟩:=UP (by lia:j.length=1)
   exact ih.cons₂ a
  ·exact ih.trans<|DG _ _
def nG(L:Se End):(aD L).Pairwise λa b=>ltN 40 (eD b) (eD a)=false:=by
 have hs:=lJ<|I0 L;rw[(aK L).1]at hs;exact Yk.mp hs
def L8{L:Se End}(h:L.Pairwise λa b=>ltN 40 (eD b) (eD a)=false):aD L=L:=by
 have e:=d7 (I0 L) (List.Perm.refl _)<|Yk.mpr h;rw[(aK L).1]at e;have:=congrArg (List.map T3) e;rw[Zf,Zf,show(T3 ∘ eD)=id from funext IZ,AY,AY]at this;exact this.symm
def L9(nd:js.flatten.Nodup):aD (T5 js)=fr js:=by
 have h1:aD (fr js)=fr js:=L8<|(nG js.flatten).sublist BO;have nf:(fr js).Nodup:=CC BO<|(aK js.flatten).2.nodup_iff.mpr nd;have n1:(T5 js).Nodup:=nd.sublist<|Eg js;rw[<-h1];exact fz<|(Bj n1 nf).mpr λe=>XQ.trans Wp.symm
def Ma{s1 s2 s3 s7:Sl}{ps:Se Bd}(hp:∀p∈ps,Nm p.2)(hl:ps.length<=100){ns:Se Str}(hn:ns.length<=100)(hk:Sn sk ns)(i7:s7.isIo=false) :
  ∃sk' t7,eZ (gN 7) fL (ps.map Sz) [JS,s1,s2,s3,a4,.o<|.dk sk,a6,s7]=some (.nx [JS,s1,s2,s3,a4,.o<|.dk sk',a6,t7])/\Sn sk' (ns++ps.map (·.2))/\t7.isIo=false:=by
 obtain⟨sf,el,sk',t7,rfl,h1,i7'⟩:=bZ (fg:=gN 7) (B:=fL) Sz ps (λg st=>∃sk s7,st=[JS,s1,s2,s3,a4,.o<|.dk sk,a6,s7]/\Sn sk (ns++g.map (·.2))/\s7.isIo=false)
  (by
   rintro g p r st ha ⟨sk,s7,rfl,h1,i7⟩;have np:=hp p (by rw[ha];simp)
   have gl:=congrArg List.length ha;rw[Xa,Wc]at gl;have kl:=h1.ln;rw[Xa,Ya]at kl;have VX:m7 (.dk sk) (.str p.2) (.bl true)=some (.dk<|ie sk (.inr p.2)<|.bl true):=by
    show(if sk.length<100000 then some (D.dk<|ie sk (.inr p.2)<|.bl true) else none)=_;rw[Ag<|by lia]
   refine⟨[JS,s1,s2,s3,a4,.o<|.dk sk,a6,.v<|Sz p],[JS,s1,s2,s3,a4,.o<|.dk<|ie sk (.inr p.2)<|.bl true,a6,.v<|Sz p],bG (t:=s7) rfl i7,?_,ie sk (.inr p.2)<|.bl true,.v<|Sz p,rfl,⟨λn=>?_,?_⟩,rfl⟩
   ·exact iS rfl rfl rfl rfl (Hs rfl rfl rfl rfl rfl rfl<|Jm np) rfl rfl rfl VX
   ·rw[wG,h1.ks n,Yc,<-Yd,Qb (s:=ns++g.map (·.2))];show(Sum.inr n:Key)=.inr p.2\/_↔_\/n∈[p.2];rw[Wa];exact⟨λh=>h.elim (λz=>.inr<|Sum.inr.inj z) .inl,λh=>h.elim .inr λz=>.inl<|by rw[z]⟩
   ·have:=D9 (VV:=sk) (k:=(.inr p.2:Key)) (d:=.bl true);rw[Yc,Xa,Xa,Ya];show _<=ns.length+(g.length+1)
    lia)
  ps [] [JS,s1,s2,s3,a4,.o<|.dk sk,a6,s7] rfl ⟨sk,s7,rfl,by rw[C9,We];exact hk,i7⟩
 exact⟨sk',t7,el,h1,i7'⟩
def Nc:Sl->Rs|.v d=>.d d|_=>.s 1
def FX(J:Js js xs)(nm:∀x∈xs,Nm x)(hx:xs.length<=60):iA [.tup<|js.map jD]=some (.tup<|(SS js).map SH,false):=by
 have fl:js.flatten.length<=120:=by
  have:=J.pf.length_eq;rw[Xa,Ya,Ya]at this;lia
 have jl:js.length<=120:=by
  have:∀l:Se SE,Ub l->l.length<=l.flatten.length:=λl=>by
   induction l with
   |nil=>intro _;simp
   |cons j r ih=>
    intro h;have h1:=ih λx hx=>h x<|Wb _ hx;have h2:=h j Zc;rw[Wi,Xa,Wc];lia
  have:=this js J.ln;lia
 obtain⟨VV,t2,t3,es,T,i2,i3⟩:=JP (js:=js) (JS:=.tup<|js.map jD) (a4:=.e) (a5:=.e) (a6:=.e) (a7:=.e) J.nd (by lia)
 have lT:xK [.dt VV]=some (.lst<|js.flatten.map eD,true):=by
  show some (D.lst<|VV.map λkv=>D.tup<|kv.1.map fX,true)=_;have:(VV.map λkv=>D.tup<|kv.1.map fX)=(VV.map (·.1)).map λk=>D.tup (k.map fX):=by rw[Zf];rfl
  rw[this,T.ks,Zf];rfl
 have s1:=cS (d:=.lst<|(T5 js).map eD) (T5 js) rfl;rw[L9 J.nd]at s1;have s2:=cS (d:=.lst<|js.flatten.map eD) js.flatten rfl;have frl:(fr js).length<=120:=by
  have:=AK (SZ js)<|aD js.flatten;rw[fS]at this;unfold fr;lia
 have ad:cK (.lst<|(fr js).map eD) (.lst<|(aD js.flatten).map eD)=some (.lst<|(fr js++aD js.flatten).map eD,true):=by
  rw[uY (by rw[Ya,Ya,fS js.flatten];lia),Yc]
 obtain⟨sf,el,x1,x3,x7,ss,sk,rfl,hx1,hss,o,hk,hg,j3,j7⟩:=bZ (fg:=gN 3) (B:=iQ) eD (fr js++aD js.flatten) (λgone st=>∃x1 x3 x7 ss sk,st=[.v<|.tup<|js.map jD,x1,t2,x3,.o<|.lst<|(fr js).map eD,.o<|.dk sk,.o<|.lst<|ss.map SH,x7]/\(x1=.o (.dt VV)\/x1=.v (.dt VV))/\gone.foldl (nF (Mt js)<|SZ js) []=ss/\So js xs ss/\Sn sk (SX ss)/\(∀e∈gone,e.1∈SX ss)/\x3.isIo=false/\x7.isIo=false)
  (by
   rintro gone e rest st ha ⟨x1,x3,x7,ss,sk,rfl,hx1,hss,o,hk,hg,j3,j7⟩;have hne:e∈js.flatten:=by
    have:e∈fr js++aD js.flatten:=by rw[ha];simp
    rcases Qb.mp this with z|z
    ·have:=Wp.mp z;exact Wg.mpr ⟨[e],this,by simp⟩
    ·exact(aK js.flatten).2.mem_iff.mp z
   have ix:SA (eD e) (.int 0)=some (.str e.1,false):=ci (i:=0) rfl;have tst:∀st:En,st[3]?=some (.v<|eD e)->st[5]?=some (.o<|.dk sk)->aC (Sy (Ic true) (Sy SA (aF 3)<|fC<|.int 0)<|aF 5) st=some (!decide (e.1∈SX ss),st):=λst h3 h5=>by
    have v3:aF 3 st=some (.d<|eD e,st):=by unfold aF;rw[h3]
    have v5:aF 5 st=some (.s 5,st):=by unfold aF;rw[h5]
    refine aI (ay (ay v3 rfl rfl rfl ix) v5 rfl (by show(st[5]?).bind Sl.get=_;rw[h5];rfl) (z:=(.bl<|!decide (e.1∈SX ss),false)) ?_) rfl
    show some (D.bl<|!(cF sk<|.inr e.1).isSome,false)=_;rw[D8];congr 4;exact decide_eq_decide.mpr<|hk.ks e.1
   by_cases c:e.1∈SX ss
   ·refine⟨[.v<|.tup<|js.map jD,x1,t2,.v<|eD e,.o<|.lst<|(fr js).map eD,.o<|.dk sk,.o<|.lst<|ss.map SH,x7],[.v<|.tup<|js.map jD,x1,t2,.v<|eD e,.o<|.lst<|(fr js).map eD,.o<|.dk sk,.o<|.lst<|ss.map SH,x7],bG (t:=x3) rfl j3,dm (eW (tst _ rfl rfl) (by rw[Af c];rfl)) rfl,x1,.v<|eD e,x7,ss,sk,rfl,hx1,by rw[B3,hss];exact Ag c,o,hk,λf hf=>?_,rfl,j7⟩
    rcases Qb.mp hf with z|z
    ·exact hg f z
    ·rw[Wa.mp z];exact c
   ·have he:[e]∈js\/∀f,[f]∈js->f.1∈SX ss:=by
     rcases yj ha with z|z
     ·exact .inl<|Wp.mp z
     ·exact .inr λf hf=>hg f<|z f<|Wp.mpr hf
    have ew:=FW (S:=(·∈SX ss)) J T (gx J o.ne o.sub) nm (by lia) hne c he
    obtain⟨kv2,_,T2⟩:=oq J.ln J.nd (by lia)
    have fd:=(vb (S:=(·∈SX ss)) J T2 (gx J o.ne o.sub) nm (by lia) hne c).2
    have o2:=o.step J fd he;have hst:(gone++[e]).foldl (nF (Mt js)<|SZ js) []=ss++[(!SZ js e,Ts (Mt js) e 69 [dL e])]:=by rw[B3,hss];exact Ak c
    generalize hps:Ts (Mt js) e 69 [dL e]=ps at ew fd o2 hst;generalize hs':(!SZ js e,ps)=s at ew o2 hst;have sp:s.2=ps:=by rw[<-hs']
    rw[<-sp]at fd;have nl:(SX<|ss++[s]).length<=60:=by
     have:=jY _ xs o2.nd o2.xs;lia
    rw[gy,Xa,Ya]at nl;have sl:ss.length<=60:=by
     have:=jI ss o.ne;walk_at "B";lia
    have pn:∀p∈s.2,Nm p.2:=λp hp=>nm _<|fd.wk.xs p hp;obtain⟨sk',t7,e7,hk',i7⟩:=Ma (JS:=.v<|.tup<|js.map jD) (s1:=.v<|.dt VV) (s3:=.v<|eD e) (a4:=.o<|.lst<|(fr js).map eD) (a6:=.o<|.lst<|(ss++[s]).map SH) (s7:=x7) pn (by lia) (ns:=SX ss) (by lia) hk j7
    have es:dP [Nc x1,.d<|eD e] [.v<|.tup<|js.map jD,x1,t2,.v<|eD e,.o<|.lst<|(fr js).map eD,.o<|.dk sk,.o<|.lst<|ss.map SH,x7]=some ([.dt VV,eD e],[.v<|.tup<|js.map jD,.v<|.dt VV,t2,.v<|eD e,.o<|.lst<|(fr js).map eD,.o<|.dk sk,.o<|.lst<|ss.map SH,x7]):=by
     rcases hx1 with rfl|rfl<;>rfl
    have v1:aF 1 [.v<|.tup<|js.map jD,x1,t2,.v<|eD e,.o<|.lst<|(fr js).map eD,.o<|.dk sk,.o<|.lst<|ss.map SH,x7]=some (Nc x1,[.v<|.tup<|js.map jD,x1,t2,.v<|eD e,.o<|.lst<|(fr js).map eD,.o<|.dk sk,.o<|.lst<|ss.map SH,x7]):=by
     rcases hx1 with rfl|rfl<;>rfl
    have ap:bY (fM SY br 6<|aa (bj gq<|aa (aF 1)<|aa (aF 3) ag) ag) [.v<|.tup<|js.map jD,x1,t2,.v<|eD e,.o<|.lst<|(fr js).map eD,.o<|.dk sk,.o<|.lst<|ss.map SH,x7]=some (.nx [.v<|.tup<|js.map jD,.v<|.dt VV,t2,.v<|eD e,.o<|.lst<|(fr js).map eD,.o<|.dk sk,.o<|.lst<|(ss++[s]).map SH,x7]) :=
     bM (eY rfl rfl rfl (af (aT (af v1 rfl) es ew) rfl) rfl rfl rfl (cN (by rw[Ya];lia)) (by rw[Yc];rfl))
    have il:SA (.lst<|(ss++[s]).map SH) (.int<|-1)=some (SH s,false):=fw<|jJ (by rw[Xa,Vf,Nat.add_sub_cancel,Qf<|Qa _,Ci];rfl)
    have ib:SA (SH s) (.int 1)=some (.tup<|s.2.map Sz,false):=ci (i:=1) rfl;refine⟨[.v<|.tup<|js.map jD,x1,t2,.v<|eD e,.o<|.lst<|(fr js).map eD,.o<|.dk sk,.o<|.lst<|ss.map SH,x7],_,bG (t:=x3) rfl j3,eO (eW (tst _ rfl rfl) (by rw[Ae c];rfl))<|aj ap<|cY (dS (ay (ay rfl (nr rfl rfl rfl) rfl rfl il) rfl rfl rfl ib) rfl) e7,.v<|.dt VV,.v<|eD e,t7,ss++[s],sk',rfl,.inr rfl,hst,o2,by rw[gy];exact hk',λf hf=>?_,rfl,i7⟩
    rw[gy];rcases Qb.mp hf with z|z
    ·exact Yg _<|hg f z
    ·refine Vd _ (Qc.mpr ⟨s.2.headD z0,Va<|d6 fd.wk.ne,?_⟩)
     rw[Wa.mp z,<-fd.hd];rfl)
  (fr js++aD js.flatten) [] [.v<|.tup<|js.map jD,.o<|.dt VV,t2,t3,.o<|.lst<|(fr js).map eD,.o<|.dk [],.o<|.lst [],.e] rfl ⟨.o<|.dt VV,t3,.e,[],[],rfl,.inl rfl,rfl,⟨λs hs=>(by cases hs),λj hj=>(by cases hj),Bu,λn hn=>(by cases hn)⟩,⟨λn=>⟨λh=>(by cases h),λh=>(by cases h)⟩,Qa _⟩,λf hf=>(by cases hf),i3,rfl⟩
 rw[show SS js=ss from hss];exact aN (o:=.rt (.d<|.tup<|ss.map SH) [.v<|.tup<|js.map jD,x1,t2,x3,.o<|.lst<|(fr js).map eD,.o<|.dk sk,.o<|.lst<|ss.map SH,x7]) rfl (aj rfl<|aj (cY (dS rfl rfl) es)<|aj (fj (aL (af (cb (dS rfl rfl) (rN (n:=120) (by rw[Ya];exact jl) (by decide) rfl)<|L7 J.ln) rfl) rfl s1) rfl)<|aj rfl<|aj rfl<|aj (cY (vW (ay rfl (aL (af (aL rfl rfl lT) rfl) rfl s2) rfl rfl ad) rfl) el)<|aO<|aL rfl rfl rfl) rfl
end
section
variable {js:Se SE}{xs:Se Str}
def FY(a b:End):ltN 40 (eD a) (eD b)=true↔Ta a.1 b.1=true\/(a.1=b.1/\a.2<b.2):=by
 show Tc (ltN 39) [.str a.1,.int a.2] [.str b.1,.int b.2]=true↔_;by_cases e:a.1=b.1
 ·rw[e,bW,pK];by_cases e2:a.2=b.2
  ·rw[e2,bW];exact⟨λz=>(by cases z),λz=>by rcases z with z|z;(· cases z);exact absurd z.2<|DM _⟩
  ·rw[bz (by intro z;injection z with z;exact e2 z)]
   show decide (a.2<b.2)=true↔_;rw[decide_eq_true_eq];exact⟨λz=>.inr ⟨rfl,z⟩,λz=>by rcases z with z|z;(· cases z);exact z.2⟩
 ·rw[bz (by intro z;injection z with z;exact e z)]
  show Ta a.1 b.1=true↔_;exact⟨.inl,λz=>z.elim id λw=>absurd w.1 e⟩
theorem RO:∀{a b g r:Se α}{e:α},a++b=g++e::r->a.Pairwise R->b.Pairwise R->
  (e∈a/\(∀f∈g,f∈a/\R f e)/\∀x∈a,x∉g->x=e\/R e x)\/((∀x∈a,x∈g)/\(∀f∈g,f∈a\/R f e)/\∀x∈b,x∉g->x=e\/R e x)
 | [],b,g,r,e,h,_,pb=>by
  rw[Wj]at h;rw[h,Qh,Ye]at pb;refine .inr ⟨λx hx=>(by cases hx),λf hf=>.inr<|pb.2.2 f hf e<|.head _,λx hx n=>?_⟩
  rw[h]at hx;rcases Qb.mp hx with z|z
  ·exact absurd z n
  ·rcases Vc.mp z with z|z
   ·exact .inl z
   ·exact .inr<|pb.2.1.1 x z
 | y::a,b,[],r,e,h,pa,_=>by
  injection h with h1 _
  subst h1;rw[Ye]at pa;refine .inl ⟨.head _,λf hf=>(by cases hf),λx hx _=>?_⟩
  rcases Vc.mp hx with z|z
  ·exact .inl z
  ·exact .inr<|pa.1 x z
 | y::a,b,z::g,r,e,h,pa,pb=>by
  injection h with h1 h2
  subst h1;rw[Ye]at pa;rcases RO h2 pa.2 pb with⟨c1,c2,c3⟩|⟨c1,c2,c3⟩
  ·refine .inl ⟨Wb _ c1,λf hf=>?_,λx hx n=>?_⟩
   ·rcases Vc.mp hf with z|z
    ·rw[z];exact⟨.head _,pa.1 e c1⟩
    ·exact⟨Wb _ (c2 f z).1,(c2 f z).2⟩
   ·rcases Vc.mp hx with z|z
    ·exact absurd (z ▸ Zc) n
    ·exact c3 x z λw=>n<|Wb _ w
  ·refine .inr ⟨λx hx=>?_,λf hf=>?_,λx hx n=>c3 x hx λw=>n<|Wb _ w⟩
   ·rcases Vc.mp hx with z|z
    ·rw[z];exact .head _
    ·exact Wb _<|c1 x z
   ·rcases Vc.mp hf with z|z
    ·exact .inl<|z ▸ Zc
    ·exact(c2 f z).imp (Wb _) id
abbrev NL(a b:End):Prop:=ltN 40 (eD b) (eD a)=false
def RP{ps:Se Bd}(hs:ps≠[])(nd:(SU ps).Nodup)(h:NL (SG<|ps.headD z0) (SL<|ps.getLastD z0)):co ps=ps:=by
 unfold co;by_cases l1:ps.length=1
 ·rw[Ag l1];obtain⟨p,rfl⟩:=List.length_eq_one_iff.mp l1;obtain⟨t,n⟩:=p;cases t with
  |false=>rfl
  |true=>
   have:ltN 40 (eD<|SL (true,n)) (eD<|SG (true,n))=true:=(FY _ _).mpr (.inr ⟨rfl,(by decide:(0:Int)<1)⟩)
   exact absurd (this.symm.trans h) nofun
 ·rw[Ak l1];have:Ta (ps.headD z0).2 (ps.getLastD z0).2=true:=by
   cases c:Ta (ps.headD z0).2 (ps.getLastD z0).2 with
   |true=>rfl
   |false=>
    cases d:Ta (ps.getLastD z0).2 (ps.headD z0).2 with
    |true=>
     have:ltN 40 (eD<|SL<|ps.getLastD z0) (eD<|SG<|ps.headD z0)=true:=(FY _ _).mpr (.inl d);exact absurd (this.symm.trans h) nofun
    |false=>exact absurd (nB c d)<|LN nd l1 hs
  rw[Ag this]
theorem RQ{ps:Se Bd}(hs:ps≠[])(nd:(SU ps).Nodup)(h:∀x:End,x.1∈SU ps->(x.2=0\/x.2=1)->NL (SG<|ps.headD z0) x):cr ps=ps:=by
 cases ps with
 |nil=>exact absurd rfl hs
 |cons p v=>
  obtain⟨t,n⟩:=p;have t0:t=false:=by
   cases t with
   |false=>rfl
   |true=>
    have:=h (n,0) (by unfold SU;simp)<|.inl rfl
    have l:ltN 40 (eD (n,0)) (eD<|SG (true,n))=true:=(FY _ _).mpr (.inr ⟨rfl,(by decide:(0:Int)<1)⟩)
    exact absurd (l.symm.trans this) nofun
  subst t0;have hm:lM (SU ([]++(false,n)::v))=n:=by
   refine nB ?_ ?_
   ·have m:=kP (ys:=SU ((false,n)::v)) (u8<|by simp)
    have:=h (lM<|SU ((false,n)::v),0) m<|.inl rfl;cases c:Ta (lM<|SU ((false,n)::v)) n with
    |false=>exact c
    |true=>
     have l:ltN 40 (eD (lM<|SU ((false,n)::v),0)) (eD<|SG (false,n))=true:=(FY _ _).mpr (.inl c);exact absurd (l.symm.trans this) nofun
   ·exact u5 (by unfold SU;simp)
  have nv:n∉SU v:=by
   have:(n::SU v).Nodup:=nd;exact(Xj.mp this).1
  have:=RI (u:=[]) (v:=v) (b:=false) hm (by unfold SU;simp) nv
  rw[Wj]at this;rw[this];simp
structure SI(js:List SE)(xs:List Str)(g:List End)(ss:List aR):Prop where
 so:So js xs ss
 sn:∀e∈g,e.1∈SX ss
 cf:∀s∈ss,cs s=s
 hd:∀s∈ss,SG (s.2.headD z0)∈g/\s.1=!SZ js (SG<|s.2.headD z0)
 pw:ss.Pairwise λa b=>ltB (rk b) (rk a)=false
def Mb(J:Js js xs)(nm:∀x∈xs,Nm x)(hx:xs.length<=60)(ha:fr js++aD js.flatten=g++e::r)(I:SI js xs g ss):SI js xs (g++[e]) (nF (Mt js) (SZ js) ss e):=by
 unfold nF;by_cases c:e.1∈SX ss
 ·rw[Ag c];exact⟨I.so,λf hf=>(Qb.mp hf).elim (I.sn f) λz=>by rw[Wa.mp z];exact c,I.cf,λs hs=>⟨Yg _ (I.hd s hs).1,(I.hd s hs).2⟩,I.pw⟩
 ·rw[Ak c];have fl:js.flatten.length<=120:=by
   have:=J.pf.length_eq;rw[Xa,Ya,Ya]at this;lia
  obtain⟨VV,_,T⟩:=oq J.ln J.nd (by lia)
  have he:e∈js.flatten:=by
   have:e∈fr js++aD js.flatten:=by rw[ha];simp
   rcases Qb.mp this with z|z
   ·exact Wg.mpr ⟨[e],Wp.mp z,by simp⟩
   ·exact(aK js.flatten).2.mem_iff.mp z
  have fd:=(vb (S:=(·∈SX ss)) J T (gx J I.so.ne I.so.sub) nm (by lia) he c).2
  generalize Ts (Mt js) e 69 [dL e]=ps at fd;have c3:=RO ha ((nG js.flatten).sublist BO)<|nG js.flatten;have hf:[e]∈js\/∀f,[f]∈js->f.1∈SX ss:=by
   rcases c3 with⟨c1,_,_⟩|⟨c1,_,_⟩
   ·exact .inl<|Wp.mp c1
   ·exact .inr λf hf=>I.sn f<|c1 f<|Wp.mpr hf
  have lm:ps.getLastD z0∈ps:=Va<|gw fd.wk.ne;have unseen:∀x:End,x.1∈SU ps->x∉g:=λx hx hg=>by
   obtain⟨p,hp,e1⟩:=Qc.mp hx;exact fd.wk.ns p hp<|e1 ▸ I.sn x hg
  have irr:NL e e:=by
   cases q:ltN 40 (eD e) (eD e) with
   |false=>exact q
   |true=>
    rcases(FY e e).mp q with z|z
    ·rw[pK]at z;cases z
    ·exact absurd z.2<|DM _
  have cfn:cs (!SZ js e,ps)=(!SZ js e,ps):=by
   unfold cs;dsimp only;rcases c3 with⟨c1,c2,c3⟩|⟨c1,c2,c3⟩
   ·have fe:[e]∈js:=Wp.mp c1;rw[show SZ js e=true from Af fe];have la:[SL<|ps.getLastD z0]∈js:=fd.la.elim id λm=>(m.free J fe).elim;have:=c3 _ (Wp.mpr la)<|unseen _<|AG lm;have:=RP fd.wk.ne fd.wk.nd (by rw[fd.hd];exact this.elim (λz=>by rw[z];exact irr) id)
    rw[this];rfl
   ·have fe:[e]∉js:=λz=>unseen e (by rw[<-fd.hd];exact AG<|Va<|d6 fd.wk.ne) (c1 e<|Wp.mpr z)
    rw[show SZ js e=false from Ae fe]
    have:=RQ fd.wk.ne fd.wk.nd (λx h1 h2=>by
     obtain⟨p,hp,e1⟩:=Qc.mp h1;have hm:x∈js.flatten:=J.en.mpr ⟨e1 ▸ fd.wk.xs p hp,h2⟩;rw[fd.hd]
     exact(c3 x ((aK js.flatten).2.mem_iff.mpr hm) (unseen x h1)).elim (λz=>by rw[z];exact irr) id)
    rw[this];rfl
  refine⟨(I.so.step J fd hf),λf hf=>?_,λs hs=>?_,λs hs=>?_,Qh.mpr ⟨I.pw,Wn _ _,λs hs t ht=>?_⟩⟩
  ·rw[gy];rcases Qb.mp hf with z|z
   ·exact Yg _<|I.sn f z
   ·refine Vd _<|Qc.mpr ⟨ps.headD z0,Va<|d6 fd.wk.ne,?_⟩;rw[Wa.mp z,<-fd.hd];rfl
  ·rcases Qb.mp hs with z|z
   ·exact I.cf s z
   ·rw[Wa.mp z];exact cfn
  ·rcases Qb.mp hs with z|z
   ·exact⟨Yg _ (I.hd s z).1,(I.hd s z).2⟩
   ·rw[Wa.mp z];dsimp only;rw[fd.hd];exact⟨by simp,rfl⟩
  ·rw[Wa.mp ht];obtain⟨h1,h2⟩:=I.hd s hs;have hn:(ps.headD z0).2=e.1:=by rw[<-fd.hd];rfl
   show ltB (!SZ js e,(ps.headD z0).2) (s.1,(s.2.headD z0).2)=false;rw[hn,h2];have nle:NL (SG<|s.2.headD z0) e->Ta e.1 (s.2.headD z0).2=false:=λz=>by
    cases q:Ta e.1 (s.2.headD z0).2 with|false=>rfl|true=>exact absurd (((FY e<|SG<|s.2.headD z0).mpr (.inl q)).symm.trans z) nofun
   rcases c3 with⟨c1,c2,c3⟩|⟨c1,c2,c3⟩
   ·have q:=c2 _ h1;rw[show SZ js e=true from Af (Wp.mp c1),show SZ js (SG<|s.2.headD z0)=true from Af (Wp.mp q.1)];show(_||(_&&Ta e.1 (s.2.headD z0).2))=false;rw[nle q.2];rfl
   ·have fe:[e]∉js:=λz=>unseen e (by rw[<-fd.hd];exact AG<|Va<|d6 fd.wk.ne) (c1 e<|Wp.mpr z)
    rw[show SZ js e=false from Ae fe];by_cases q:[SG<|s.2.headD z0]∈js
    ·rw[show SZ js (SG<|s.2.headD z0)=true from Af q];rfl
    ·rw[show SZ js (SG<|s.2.headD z0)=false from Ae q];have:=(c2 _ h1).resolve_left λz=>q<|Wp.mp z;show(_||(_&&Ta e.1 (s.2.headD z0).2))=false;rw[nle this];rfl
theorem Eh{P:Se End->Prop}{L:Se End}(step:∀g e r,L=g++e::r->P g->P (g++[e])):∀(r l:Se End),L=l++r->P l->P L|[],l,h,p=>by rw[We]at h;rw[h];exact p|e::r,l,h,p=>Eh step r (l++[e]) (by rw[h];simp)<|step l e r h p
def RR(J:Js js xs)(nm:∀x∈xs,Nm x)(hx:xs.length<=60):SI js xs (fr js++aD js.flatten) (SS js) :=
 Eh (P:=λg=>SI js xs g (g.foldl (nF (Mt js) (SZ js)) [])) (λg e r h p=>by
  rw[B3]
  exact Mb J nm hx h p) _ [] rfl ⟨⟨λs hs=>(by cases hs),λj hj=>(by cases hj),Bu,λn hn=>(by cases hn)⟩,λe h=>(by cases h),λs h=>(by cases h),λs h=>(by cases h),.nil⟩
def RS(J:Js js xs)(nm:∀x∈xs,Nm x)(hx:xs.length<=60):cn (SS js)=SS js:=by
 have I:=RR J nm hx;obtain⟨cp,_,cw⟩:=D4<|SS js;have e:(SS js).map cs=SS js:=by
  have:=Qj (l:=SS js) (f:=cs) (g:=id) I.cf;rw[this,AY]
 rw[e]at cp;refine LP (l:=SS js) I.so.ne ?_ cp (List.Perm.refl _) cw I.pw;have:=I.so.nd;unfold SX at this;rw[List.map_flatMap]at this;exact this
end
end K14
namespace VF
open PySem L2
section
def JQ(h:fe st=some (r,s))(h2:cont s r=some (.int i)):fQ fe st=some (some i,s):=by
 simp only[fQ,h,Xb,asInt,h2]
end
end VF
namespace K14
open PySem L2 VF VF22
abbrev jO:=List SE×List SE
def TJ(js:Se SE):D:=.tup<|js.map jD
def dD(p:jO):D:=.tup [TJ p.1,TJ p.2]
def vc(h:es≠[]):aD es≠[]:=λz=>h<|Xe (by rw[<-fS,z];rfl)
def xc(o:End)(os:Se End)(x y:End):Se SE:=bC [aD [o,x],aD<|os++[y]]
def UE:SE->SE->Se (Se SE)
 |[a,b],o::os=>[xc o os a b,xc o os b a]
 |[x],[a,b]=>[xc x [] a b,xc x [] b a]
 |[x],[y]=>[[aD [x,y]]]
 |_,_=>[]
def dn(one other:SE):Se jO:=(UE one other).map λc=>([one,other],c)
def Nd(n:Nat)(js:Se SE):Pl (n+4) (TJ js):=.tup λd hd=>by
 obtain⟨j,_,rfl⟩:=Qc.mp hd;exact oH n j
def RT(n:Nat)(p:jO):Pl (n+5) (dD p):=.tup λd hd=>by
 rcases Vc.mp hd with rfl|hd
 ·exact Nd n _
 ·obtain rfl:=Wa.mp hd;exact Nd n _
def Nf(n:Nat)(a b:Se SE):Cp (n+4) (TJ a) (TJ b):=by
 intro i x y e1 e2;rw[Xd]at e1 e2;obtain⟨c,_,rfl⟩:=Wd.mp e1;obtain⟨d,_,rfl⟩:=Wd.mp e2;exact zW n c d
def RU(n:Nat)(a b:jO):Cp (n+5) (dD a) (dD b):=by
 intro i x y e1 e2
 match i,e1,e2 with
 |0,e1,e2=>
  have q1:TJ a.1=x:=by simpa using e1
  have q2:TJ b.1=y:=by simpa using e2
  subst q1 q2;exact Nf n _ _
 |1,e1,e2=>
  have q1:TJ a.2=x:=by simpa using e1
  have q2:TJ b.2=y:=by simpa using e2
  subst q1 q2;exact Nf n _ _
 |i+2,e1,_=>simp at e1
def RV(ps:Se jO):CA 40 (ps.map dD):=λa ha b hb=>by
 obtain⟨e,_,rfl⟩:=Qc.mp ha;obtain⟨e',_,rfl⟩:=Qc.mp hb;exact RU 35 e e'
def yk{d:D}(ps:Se jO)(h0:d.seq=some (ps.map dD)):bL [d]=some (.lst<|dA 40<|ps.map dD,true):=by
 unfold bL;dsimp only;rw[h0];dsimp only;refine Ag ⟨λx hx=>?_,RV ps,⟨_,.tp (T:="tuple") λd hd=>?_⟩⟩
 ·obtain⟨e,_,rfl⟩:=Qc.mp hx;exact RT 35 e
 ·obtain⟨p,hp,rfl⟩:=Qc.mp hd;exact⟨TJ p.1,[TJ p.2],rfl,λz=>(by cases z),rfl⟩
def wK{ps qs:Se jO}(h:ps.Perm qs):dA 40 (ps.map dD)=dA 40 (qs.map dD):=kM (RV ps)<|h.map dD
def Uh(j:SE):Ss:=decide<|j.length=2
def yn:SE->jO|[a,b]=>([[a,b]],[[a],[b]])|_=>([],[])
def T6(js:Se SE)(k:Nat):Se jO:=(js.drop<|k+1).flatMap (dn<|js.getD k [])
def am(js:Se SE):Se jO:=(js.filter Uh).map yn++(List.range js.length).flatMap (T6 js)
def qW(a b:SE):(dn a b).length<=2:=by
 unfold dn;rw[Ya];unfold UE;split<;>simp
def RW{ds:Se D}(h:k<=ds.length):rK (.tup ds) (some (k:Int)) none=some (.tup<|ds.drop k,false):=by
 rw[uo];congr 3;unfold cutD;rw[HT.sIx_nat,HT.sIx_none,Ba h];exact Xl (by rw[Xi];lia)
def Mc(js:Se SE)(k:Nat):(T6 js k).length<=2*js.length:=by
 unfold T6;have gl:∀(one:SE)(g:Se SE),(g.flatMap<|dn one).length<=2*g.length:=λone g=>by
  induction g with
  |nil=>simp
  |cons x g ih=>
   rw[Yf,Xa,Wc];have:=qW one x;lia
 have:=gl (js.getD k [])<|js.drop<|k+1;rw[Xi]at this;lia
def eX(y:End):aD [y]=[y]:=List.perm_singleton.mp (aK [y]).2
def kT(a b:SE):bC [a,b]=bC [b,a]:=mN<|List.Perm.swap b a []
def PL(o x y:End):xc o [] x y=bC [aD [x,o],[y]]:=by
 unfold xc;rw[bN o x,Wj,eX]
def Ei{one other:SE}{a b o x y:End}{acc:Se D}{k k':Int}{s6:Sl}(hx:SA (jD [a,b]) (.int k)=some (eD x,false))(hk:1-k=k')(hy:SA (jD [a,b]) (.int k')=some (eD y,false))(ha:acc.length<1000)(i6:s6.isIo=false) :
  ∃t6,fG [.v<|jD one,.v<|jD other,.v<|jD [a,b],.v<|jD [o],.o<|.lst acc,.v<|.int k,s6]=some (.nx [.v<|jD one,.v<|jD other,.v<|jD [a,b],.v<|jD [o],.o<|.lst<|acc++[dD ([one,other],xc o [] x y)],.v<|.int k,t6])/\t6.isIo=false:=by
 have s1:=cS (d:=.lst [eD x,eD o]) [x,o] rfl
 have srt:=gA (d:=.lst [jD (aD [x,o]),jD [y]]) [aD [x,o],[y]] (λj hj=>by
  rcases Vc.mp hj with rfl|hj
  ·exact vc (by simp)
  ·rw[Wa.mp hj];simp) rfl
 refine⟨.o<|.lst [jD<|aD [x,o],jD [y]],(aj (fj (x:=.lst [jD<|aD [x,o],jD [y]]) (gc (af (aL (af (aL (af (gc (af (ay rfl rfl rfl rfl hx)<|af (ay rfl rfl rfl rfl<|om o []) rfl) rfl<|by simp) rfl) rfl s1) rfl) rfl (z:=(jD<|aD [x,o],false)) rfl)<|af (bB (af (ay rfl (ay rfl rfl rfl rfl (z:=(.int k',false)) (by rw[<-hk];rfl)) rfl rfl hy) rfl) rfl<|by simp) rfl) rfl<|by simp)<|bG (t:=s6) rfl i6) ?_),rfl⟩
 rw[PL];exact bM<|eY rfl rfl rfl (af (bB (af (bB rfl rfl<|by simp)<|af (aL (af (aL rfl rfl srt) rfl) rfl (z:=(TJ<|bC [aD [x,o],[y]],false)) rfl) rfl) rfl<|by simp) rfl) rfl rfl rfl<|cN<|by lia
def qX{one other:SE}(a b o:End):∃u6,(fP (nQ<|aa (fC<|.int 2) ag) (gN 5) fG) [.v<|jD one,.v<|jD other,.v<|jD [a,b],.v<|jD [o],.o<|.lst [],.e,.e]=some (.nx [.v<|jD one,.v<|jD other,.v<|jD [a,b],.v<|jD [o],.o<|.lst [dD ([one,other],xc o [] a b),dD ([one,other],xc o [] b a)],.v<|.int 1,u6]):=by
 obtain⟨t6,e1,i6⟩:=Ei (one:=one) (other:=other) (a:=a) (b:=b) (o:=o) (acc:=[]) (k:=0) (s6:=.e) (om a [b]) rfl (wE a b []) (by decide) rfl
 obtain⟨u6,e2,_⟩:=Ei (one:=one) (other:=other) (a:=a) (b:=b) (o:=o) (acc:=[dD ([one,other],xc o [] a b)]) (k:=1) (s6:=t6) (wE a b []) rfl (om a [b]) (by simp) i6
 refine⟨u6,cY (ds:=[.int 0,.int 1]) (s1:=[.v<|jD one,.v<|jD other,.v<|jD [a,b],.v<|jD [o],.o<|.lst [],.e,.e]) (fD (j:=2) rfl rfl ⟨by decide,by decide⟩) ?_⟩
 have g1:gN 5 (.int 0) [.v<|jD one,.v<|jD other,.v<|jD [a,b],.v<|jD [o],.o<|.lst [],.e,.e]=some [.v<|jD one,.v<|jD other,.v<|jD [a,b],.v<|jD [o],.o<|.lst [],.v<|.int 0,.e]:=rfl;have g2:gN 5 (.int 1) [.v<|jD one,.v<|jD other,.v<|jD [a,b],.v<|jD [o],.o<|.lst [dD ([one,other],xc o [] a b)],.v<|.int 0,t6]=some [.v<|jD one,.v<|jD other,.v<|jD [a,b],.v<|jD [o],.o<|.lst [dD ([one,other],xc o [] a b)],.v<|.int 1,t6]:=rfl;simp only[Wj]at e1;simp only[eZ,g1,e1,g2,e2,Xb];rfl
def wN{one other:SE}(h:(one.length=2/\other.length=1)\/(one.length=1/\other.length=2)):kF [jD one,jD other]=some (.lst<|(dn one other).map dD,true):=by
 rcases h with⟨h1,h2⟩|⟨h1,h2⟩
 ·obtain⟨a,b,rfl⟩:=UZ h1;obtain⟨o,rfl⟩:=UP h2;obtain⟨u6,e⟩:=qX (one:=[a,b]) (other:=[o]) a b o;exact aN (o:=.rt (.s 4) [.v<|jD [a,b],.v<|jD [o],.v<|jD [a,b],.v<|jD [o],.o<|.lst<|(dn [a,b] [o]).map dD,.v<|.int 1,u6]) rfl (aj rfl<|aj rfl<|aj (dm (Jp (i:=2) (aL rfl rfl<|on [a,b]) rfl<|by decide) rfl)<|aj rfl<|aj e rfl) rfl
 ·obtain⟨o,rfl⟩:=UP h1;obtain⟨a,b,rfl⟩:=UZ h2;obtain⟨u6,e⟩:=qX (one:=[o]) (other:=[a,b]) a b o;exact aN (o:=.rt (.s 4) [.v<|jD [o],.v<|jD [a,b],.v<|jD [a,b],.v<|jD [o],.o<|.lst<|(dn [o] [a,b]).map dD,.v<|.int 1,u6]) rfl (aj rfl<|aj rfl<|aj (eO (D7 (aL rfl rfl<|on [o]) rfl)<|aj rfl rfl)<|aj rfl<|aj e rfl) rfl
def Ej{acc:Se D}{s6:Sl}(hx:SA (jD [c,d]) (.int k)=some (eD x,false))(hk:1-k=k')(hy:SA (jD [c,d]) (.int k')=some (eD y,false))(ha:acc.length<100000)(i6:s6.isIo=false) :
  ∃t6,iO [.v JS,.o<|.lst acc,.v K0,.v<|jD [a,b],.v<|jD [c,d],.v<|.int k,s6]=some (.nx [.v JS,.o<|.lst<|acc++[dD ([[a,b],[c,d]],bC [aD [a,x],aD [b,y]])],.v K0,.v<|jD [a,b],.v<|jD [c,d],.v<|.int k,t6])/\t6.isIo=false:=by
 have s1:=cS (d:=.lst [eD a,eD x]) [a,x] rfl;have s2:=cS (d:=.lst [eD b,eD y]) [b,y] rfl
 have srt:=gA (d:=.lst [jD (aD [a,x]),jD (aD [b,y])]) [aD [a,x],aD [b,y]] (λj hj=>by
  rcases Vc.mp hj with rfl|hj
  ·exact vc (by simp)
  ·rw[Wa.mp hj];exact vc (by simp)) rfl
 exact⟨.o<|.lst [jD<|aD [a,x],jD<|aD [b,y]],(aj (fj (x:=.lst [jD<|aD [a,x],jD<|aD [b,y]]) (gc (af (aL (af (aL (af (gc (af (ay rfl rfl rfl rfl<|om a [b])<|af (ay rfl rfl rfl rfl hx) rfl) rfl<|by simp) rfl) rfl s1) rfl) rfl (z:=(jD<|aD [a,x],false)) rfl)<|af (aL (af (aL (af (gc (af (ay rfl rfl rfl rfl<|wE a b [])<|af (ay rfl (ay rfl rfl rfl rfl (z:=(.int k',false)) (by rw[<-hk];rfl)) rfl rfl hy) rfl) rfl<|by simp) rfl) rfl s2) rfl) rfl (z:=(jD<|aD [b,y],false)) rfl) rfl) rfl<|by simp)<|bG (t:=s6) rfl i6)<|bM<|eY rfl rfl rfl (af (bB (af (bB rfl rfl<|by simp)<|af (aL (af (aL rfl rfl srt) rfl) rfl (z:=(TJ<|bC [aD [a,x],aD [b,y]],false)) rfl) rfl) rfl<|by simp) rfl) rfl rfl rfl<|cN<|by lia),rfl⟩
def Me{one other:SE}{acc:Se D}{s5 s6:Sl}(h1:one.length=1\/one.length=2)(h2:other.length=1\/other.length=2)(ha:acc.length+2<=100000)(i5:s5.isIo=false)(i6:s6.isIo=false) :
  ∃t5 t6,dW [.v JS,.o<|.lst acc,.v K0,.v<|jD one,.v<|jD other,s5,s6]=some (.nx [.v JS,.o<|.lst<|acc++(dn one other).map dD,.v K0,.v<|jD one,.v<|jD other,t5,t6])/\t5.isIo=false/\t6.isIo=false:=by
 have tst:∀m:Int,aC (Sy iI (Sy gL (SF b9<|aa (aF 3) ag)<|SF b9<|aa (aF 4) ag)<|fC<|.int m) [.v JS,.o<|.lst acc,.v K0,.v<|jD one,.v<|jD other,s5,s6]=some (decide<|((one.length:Int)+(other.length:Int))=m,[.v JS,.o<|.lst acc,.v K0,.v<|jD one,.v<|jD other,s5,s6]):=λm=>
  aI (ay (ay (aL rfl rfl<|on one) (aL rfl rfl<|on other) rfl rfl (z:=(.int<|(one.length:Int)+(other.length:Int),false)) rfl) rfl rfl rfl FV) rfl
 have t2:=tst 2;have t3:=tst 3;rcases ol h1 with⟨x,rfl⟩|⟨a,b,rfl⟩<;>rcases ol h2 with⟨y,rfl⟩|⟨c,d,rfl⟩
 ·have s1:=cS (d:=.tup<|[eD x]++[eD y]) [x,y] rfl;exact⟨s5,s6,eO t2<|bM<|eY rfl rfl rfl (af (r:=.d<|dD ([[x],[y]],[aD [x,y]])) (bB (af (bB rfl rfl<|by simp)<|af (bB (af (aL (af (aL (af (ay rfl rfl rfl rfl<|zn (a:=[eD x]) (b:=[eD y])<|by simp) rfl) rfl s1) rfl) rfl (z:=(jD<|aD [x,y],false)) rfl) rfl) rfl<|by simp) rfl) rfl<|by simp) rfl) rfl rfl rfl<|cN<|by lia,i5,i6⟩
 ·exact⟨s5,s6,dm t2<|eO t3<|bM<|eY rfl rfl rfl (af (aT rfl rfl<|wN (one:=[x]) (other:=[c,d])<|.inr ⟨rfl,rfl⟩) rfl) rfl rfl rfl<|uq (by rw[Ya];have:=qW [x] [c,d];lia),i5,i6⟩
 ·exact⟨s5,s6,dm t2<|eO t3<|bM<|eY rfl rfl rfl (af (aT rfl rfl<|wN (one:=[a,b]) (other:=[y])<|.inl ⟨rfl,rfl⟩) rfl) rfl rfl rfl<|uq (by rw[Ya];have:=qW [a,b] [y];lia),i5,i6⟩
 ·obtain⟨t6,e1,i6'⟩:=Ej (JS:=JS) (K0:=K0) (a:=a) (b:=b) (c:=c) (d:=d) (acc:=acc) (k:=0) (s6:=s6) (om c [d]) rfl (wE c d []) (by lia) i6
  obtain⟨u6,e2,j6⟩:=Ej (JS:=JS) (K0:=K0) (a:=a) (b:=b) (c:=c) (d:=d) (acc:=acc++[dD ([[a,b],[c,d]],bC [aD [a,c],aD [b,d]])]) (k:=1) (s6:=t6) (wE c d []) rfl (om c [d]) (by rw[Xa];simp only[Wc,Vg];lia) i6'
  have x1:bC [aD [a,c],aD [b,d]]=xc c [d] a b:=by
   unfold xc;rw[bN a c,bN b d];rfl
  have x2:bC [aD [a,d],aD [b,c]]=xc c [d] b a:=by
   unfold xc;rw[kT,bN b c,bN a d];rfl
  rw[x1]at e1 e2;rw[x2]at e2;have ef:(dn [a,b] [c,d]).map dD=[dD ([[a,b],[c,d]],xc c [d] a b)]++[dD ([[a,b],[c,d]],xc c [d] b a)]:=rfl;refine⟨.v<|.int 1,u6,dm t2<|dm t3<|cY (ds:=[.int 0,.int 1]) (s1:=[.v JS,.o<|.lst acc,.v K0,.v<|jD [a,b],.v<|jD [c,d],s5,s6]) (fD (j:=2) rfl rfl ⟨by decide,by decide⟩) ?_,rfl,j6⟩
  have g1:gN 5 (.int 0) [.v JS,.o<|.lst acc,.v K0,.v<|jD [a,b],.v<|jD [c,d],s5,s6]=some [.v JS,.o<|.lst acc,.v K0,.v<|jD [a,b],.v<|jD [c,d],.v<|.int 0,s6]:=by
   show(if s5.isIo=true then none else _)=_;rw[i5];rfl
  have g2:gN 5 (.int 1) [.v JS,.o<|.lst<|acc++[dD ([[a,b],[c,d]],xc c [d] a b)],.v K0,.v<|jD [a,b],.v<|jD [c,d],.v<|.int 0,t6]=some [.v JS,.o<|.lst<|acc++[dD ([[a,b],[c,d]],xc c [d] a b)],.v K0,.v<|jD [a,b],.v<|jD [c,d],.v<|.int 1,t6]:=rfl;rw[ef,<-Yd];simp only[eZ,g1,e1,g2,e2,Xb]
theorem s9(f g:α->Se β):∀l:Se α,(l.flatMap λx=>f x++g x).Perm (l.flatMap f++l.flatMap g)
 |[]=>List.Perm.refl _
 | x::r=>by
  rw[Yf,Yf,Yf];refine(AL (f x++g x)<|s9 f g r).trans ?_;rw[Yd,Yd];refine AL _ ?_;rw[<-Yd,<-Yd];exact List.Perm.append_right _ CB
def TK(j:SE):Se jO:=if Uh j=true then [yn j] else []
theorem Ek:∀js:Se SE,js.flatMap TK=(js.filter Uh).map yn
 |[]=>rfl
 | j::r=>by
  rw[Yf,Ek r,Ce];unfold TK;cases Uh j<;>rfl
def PM(js:Se SE):(List.range js.length).map (λk=>js.getD k [])=js:=by
 refine B4 λi=>?_;rw[Xd];by_cases hi:i<js.length
 ·rw[List.getElem?_range hi,Za hi];show some (js.getD i [])=_;rw[Yb,Za hi];rfl
 ·rw[Zm (by rw[AO];lia),Zm<|by lia];rfl
def To(js:Se SE)(k:Nat):Se jO:=TK (js.getD k [])++T6 js k
def Mf(js:Se SE):((List.range js.length).flatMap (To js)).Perm (am js):=by
 refine(s9 (λk=>TK<|js.getD k []) (T6 js)<|List.range js.length).trans ?_;unfold am;rw[<-Ek];have e:(List.range js.length).flatMap (λk=>TK<|js.getD k [])=js.flatMap TK:=by
  have:=congrArg (λl=>l.flatMap TK)<|PM js;simp only[List.flatMap_map]at this;exact this
 rw[e]
def Em(j:SE):(TK j).length<=1:=by unfold TK;split<;>simp
def JR{rest:Se SE}{one:SE}{acc:Se D}{s4 s5 s6:Sl}(h1:one.length=1\/one.length=2)(hr:Ub rest)(hl:acc.length+2*rest.length<=99000)(i4:s4.isIo=false)(i5:s5.isIo=false)(i6:s6.isIo=false) :
  ∃t4 t5 t6,eZ (gN 4) dW (rest.map jD) [.v JS,.o<|.lst acc,.v K0,.v<|jD one,s4,s5,s6]=some (.nx [.v JS,.o<|.lst<|acc++(rest.flatMap<|dn one).map dD,.v K0,.v<|jD one,t4,t5,t6])/\t4.isIo=false/\t5.isIo=false/\t6.isIo=false:=by
 obtain⟨sf,el,t4,t5,t6,rfl,j4,j5,j6⟩:=bZ (fg:=gN 4) (B:=dW) jD rest (λgone st=>∃s4 s5 s6,st=[.v JS,.o<|.lst<|acc++(gone.flatMap<|dn one).map dD,.v K0,.v<|jD one,s4,s5,s6]/\s4.isIo=false/\s5.isIo=false/\s6.isIo=false)
  (by
   rintro gone j rs st ha ⟨s4,s5,s6,rfl,i4,i5,i6⟩;have hj:=hr j (by rw[ha];exact Vd _ Zc)
   have ln:=congrArg List.length ha;rw[Xa,Wc]at ln;have gl:∀g:Se SE,(g.flatMap<|dn one).length<=2*g.length:=λg=>by
    induction g with
    |nil=>simp
    |cons x g ih=>
     rw[Yf,Xa,Wc];have:=qW one x;lia
   have g1:=gl gone;obtain⟨t5,t6,e1,k5,k6⟩:=Me (JS:=JS) (K0:=K0) (one:=one) (other:=j) (acc:=acc++(gone.flatMap<|dn one).map dD) (s5:=s5) (s6:=s6) h1 hj (by rw[Xa,Ya];lia) i5 i6
   refine⟨[.v JS,.o<|.lst<|acc++(gone.flatMap<|dn one).map dD,.v K0,.v<|jD one,.v<|jD j,s5,s6],_,by show(if s4.isIo=true then none else _)=_;rw[i4];rfl,e1,.v<|jD j,t5,t6,?_,rfl,k5,k6⟩
   rw[Qg,AI,Yc,<-Yd])
  rest [] [.v JS,.o<|.lst acc,.v K0,.v<|jD one,s4,s5,s6] rfl ⟨s4,s5,s6,by simp,i4,i5,i6⟩
 exact⟨t4,t5,t6,el,j4,j5,j6⟩
def FZ{js:Se SE}(h:Ub js)(hl:js.length<=200):kH [.tup<|js.map jD]=some (.lst<|dA 40<|(am js).map dD,true):=by
 have big:∀g:Se Nat,g.length<=js.length->(g.flatMap<|To js).length<=80200:=λg hg=>by
  have:∀g:Se Nat,(g.flatMap<|To js).length<=g.length*(2*js.length+1):=λg=>by
   induction g with
   |nil=>simp
   |cons x g ih=>
    rw[Yf,Xa,Wc,Nat.succ_mul];have a:=Mc js x;have b:=Em<|js.getD x [];have c:(To js x).length=(TK<|js.getD x []).length+(T6 js x).length:=by unfold To;rw[Xa]
    lia
  have h1:=this g;have h2:g.length*(2*js.length+1)<=200*401:=DB (by lia) (by lia)
  lia
 obtain⟨sf,el,s2,s3,s4,s5,s6,rfl,_⟩:=bZ (fg:=gN 2) (B:=iP) (λk:Nat=>D.int<|0+(k:Int)) (List.range js.length) (λgone st=>∃s2 s3 s4 s5 s6,st=[.v<|.tup<|js.map jD,.o<|.lst<|(gone.flatMap<|To js).map dD,s2,s3,s4,s5,s6]/\s2.isIo=false/\s3.isIo=false/\s4.isIo=false/\s5.isIo=false/\s6.isIo=false)
  (by
   rintro gone k rest st ha ⟨s2,s3,s4,s5,s6,rfl,i2,i3,i4,i5,i6⟩;have hk:k<js.length:=by
    have:k∈List.range js.length:=by rw[ha];exact Vd _ Zc
    exact Zn.mp this
   have gl:gone.length<=js.length:=by
    have:=congrArg List.length ha;rw[AO,Xa,Wc]at this;lia
   have hone:(js.getD k []).length=1\/(js.getD k []).length=2:=by
    rw[Yb,Za hk];exact h _<|Qk hk
   have ix:SA (.tup (js.map jD)) (.int (k:Int))=some (jD (js.getD k []),false):=ci (i:=k) (by
    rw[Xd,Za hk,Yb,Za hk];rfl)
   have bg:=big gone gl;have cutS:(SV (aC<|Sy iI (SF b9<|aa (aF 3) ag)<|fC<|.int 2) (bY<|fM SY br 1<|aa (bU<|aa (bU<|aa (aF 3) ag)<|aa (bU<|aa (bU<|aa (Sy SA (aF 3)<|fC<|.int 0) ag)<|aa (bU<|aa (Sy SA (aF 3)<|fC<|.int 1) ag) ag) ag) ag) b8) [.v<|.tup<|js.map jD,.o<|.lst<|(gone.flatMap<|To js).map dD,.v<|.int (k:Int),.v<|jD<|js.getD k [],s4,s5,s6]=some (.nx [.v<|.tup<|js.map jD,.o<|.lst<|(gone.flatMap<|To js).map dD++(TK<|js.getD k []).map dD,.v<|.int (k:Int),.v<|jD<|js.getD k [],s4,s5,s6]):=by
    generalize js.getD k []=one at hone;have tst:aC (Sy iI (SF b9<|aa (aF 3) ag)<|fC<|.int 2) [.v<|.tup<|js.map jD,.o<|.lst<|(gone.flatMap<|To js).map dD,.v<|.int (k:Int),.v<|jD one,s4,s5,s6]=some (decide<|(one.length:Int)=2,[.v<|.tup<|js.map jD,.o<|.lst<|(gone.flatMap<|To js).map dD,.v<|.int (k:Int),.v<|jD one,s4,s5,s6]):=aI (ay (aL rfl rfl<|on one) rfl rfl rfl FV) rfl;rcases ol hone with⟨x,rfl⟩|⟨a,b,rfl⟩
    ·refine dm tst ?_;show some _=some (Ot.nx [_,.o<|.lst<|(gone.flatMap<|To js).map dD++[],_,_,_,_,_]);rw[We]
    ·exact eO tst<|bM<|eY rfl rfl rfl (af (r:=.d<|dD<|yn [a,b]) (bB (af (bB rfl rfl<|by simp)<|af (bB (af (bB (af (ay rfl rfl rfl rfl<|om a [b]) rfl) rfl<|by simp)<|af (bB (af (ay rfl rfl rfl rfl<|wE a b []) rfl) rfl<|by simp) rfl) rfl<|by simp) rfl) rfl<|by simp) rfl) rfl rfl rfl<|cN (by rw[Ya];lia)
   have c1:=Em<|js.getD k []
   obtain⟨t4,t5,t6,e1,j4,j5,j6⟩:=JR (JS:=.tup (js.map jD)) (K0:=.int (k:Int)) (rest:=js.drop (k+1)) (one:=js.getD k []) (acc:=(gone.flatMap (To js)).map dD++(TK (js.getD k [])).map dD) (s4:=s4) (s5:=s5) (s6:=s6) hone (λj hj=>h j (BJ hj)) (by
    rw[Xa,Ya,Ya,Xi];lia) i4 i5 i6
   have sl:=RW (ds:=js.map jD) (k:=k+1) (by rw[Ya];lia)
   rw[<-CP]at sl;refine⟨[.v<|.tup<|js.map jD,.o<|.lst<|(gone.flatMap<|To js).map dD,.v<|.int (k:Int),s3,s4,s5,s6],[.v<|.tup<|js.map jD,.o<|.lst<|((gone++[k]).flatMap (To js)).map dD,.v<|.int (k:Int),.v<|jD<|js.getD k [],t4,t5,t6],by rw[DX];show(if s2.isIo=true then none else _)=_;rw[i2];rfl,(aj (cO (ay rfl rfl rfl rfl ix)<|bG (t:=s3) rfl i3)<|aj cutS ?_),.v<|.int (k:Int),.v<|jD<|js.getD k [],t4,t5,t6,rfl,rfl,rfl,j4,j5,j6⟩
   have ee:((gone++[k]).flatMap (To js)).map dD=(gone.flatMap<|To js).map dD++(TK<|js.getD k []).map dD++((js.drop<|k+1).flatMap (dn<|js.getD k [])).map dD:=by
    rw[Qg,AI,Yc];unfold To T6;rw[Yc,<-Yd]
   rw[ee]
   exact cY (dS (oB rfl (JQ (i:=((k+1:Nat):Int)) rfl rfl) rfl rfl sl) rfl) e1)
  (List.range js.length) [] [.v<|.tup<|js.map jD,.o<|.lst [],.e,.e,.e,.e,.e] rfl ⟨.e,.e,.e,.e,.e,rfl,rfl,rfl,rfl,rfl,rfl⟩
 rw[<-wK (Mf js)];refine aN (o:=.rt (.f<|.lst<|dA 40<|((List.range js.length).flatMap (To js)).map dD) [.v<|.tup<|js.map jD,.o<|.lst<|((List.range js.length).flatMap (To js)).map dD,s2,s3,s4,s5,s6]) rfl (aj rfl ?_) rfl;have lt:b9 [.tup<|js.map jD]=some (.int (js.length:Int),false):=by
  show some (D.int (((js.map jD).length:Nat):Int),false)=_;rw[Ya]
 exact aj (cY (fD (j:=(js.length:Int)) (af (aL rfl rfl lt) rfl) rfl ⟨by lia,by lia⟩) el)<|aO<|aL rfl rfl<|yk ((List.range js.length).flatMap (To js)) rfl
open VL
section
def Th(J g c:Se SE):Se SE:=bC<|J.filter (λj=>!decide (j∈g))++c
def pw:Se SE->Se jO|[]=>[]|x::r=>r.flatMap (dn x)++pw r
theorem Ng:∀js:Se SE,(List.range js.length).flatMap (T6 js)=pw js
 |[]=>rfl
 | x::r=>by
  rw[Wc,DT,Yf];have:(List.map Nat.succ<|List.range r.length).flatMap (T6 (x::r))=(List.range r.length).flatMap (T6 r):=by
   rw[List.flatMap_map];rfl
  rw[this,Ng r];rfl
theorem W3:∀{js:Se SE}{p:jO},p∈pw js↔∃x y,[x,y].Sublist js/\p∈dn x y
 |[],p=>⟨λh=>(by cases h),λ⟨_,_,h,_⟩=>(by cases h)⟩
 | x::r,p=>by
  show p∈r.flatMap (dn x)++pw r↔_;rw[Qb,Qm,W3];constructor
  ·rintro(⟨y,hy,hp⟩|⟨a,b,hs,e⟩)
   ·exact⟨x,y,(List.singleton_sublist.mpr hy).cons_cons _,hp⟩
   ·exact⟨a,b,hs.cons x,e⟩
  ·rintro⟨a,b,hs,e⟩;cases hs with|cons _ h=>exact .inr ⟨a,b,h,e⟩|cons_cons _ h=>exact .inl ⟨b,List.singleton_sublist.mp h,e⟩
def PN(h:p∈dn x y):p.1=[x,y]/\p.2∈UE x y:=by
 obtain⟨c,hc,rfl⟩:=Qc.mp h;exact⟨rfl,hc⟩
theorem Eo(x:SE):∀r:Se SE,(r.flatMap<|dn x).length<=2*r.length
 |[]=>Qa _
 | y::r=>by
  have:=Eo x r;have:=qW x y;rw[Yf,Xa,Wc];lia
theorem JT:∀js:Se SE,(pw js).length+js.length<=js.length*js.length
 |[]=>Qa _
 | x::r=>by
  have:=JT r;have:=Eo x r;show(r.flatMap (dn x)++pw r).length+(r.length+1)<=(r.length+1)*(r.length+1);rw[Xa,Nat.add_mul,Nat.mul_add];lia
def wO(js:Se SE):am js=(js.filter Uh).map yn++pw js:=by unfold am;rw[Ng]
theorem vd:∀{J:Se SE},x∈J->y∈J->x≠y->[x,y].Sublist J\/[y,x].Sublist J
 | z::r,hx,hy,h=>by
  rcases Vc.mp hx with e1|hx'<;>rcases Vc.mp hy with e2|hy'
  ·exact absurd (e1.trans e2.symm) h
  ·rw[e1];exact .inl<|(List.singleton_sublist.mpr hy').cons_cons _
  ·rw[e2];exact .inr<|(List.singleton_sublist.mpr hx').cons_cons _
  ·rcases vd hx' hy' h with q|q
   ·exact .inl<|q.cons _
   ·exact .inr<|q.cons _
def qY(y:SE):bC [y]=[y]:=List.perm_singleton.mp (bV [y]).2
def ot(L:Se SE):bC (bC L)=bC L:=mN (bV L).2
def tf(L:Se End):aD (aD L)=aD L:=fz (aK L).2
def Ep{L:Se SE}(h:L.Pairwise λa b=>ltN 40 (jD b) (jD a)=false):bC L=L:=by
 have e:=d7 (I8 L) (List.Perm.refl _)<|Yk.mpr h;rw[(bV L).1]at e;have:=congrArg (List.map T4) e;rw[Zf,Zf,show(T4 ∘ jD)=id from funext kN,AY,AY]at this;exact this.symm
def JU{L:Se SE}(h:bC L=L):L.Pairwise λa b=>ltN 40 (jD b) (jD a)=false:=by
 have hs:=lJ<|I8 L;rw[(bV L).1,h]at hs;exact Yk.mp hs
def wP{L M:Se SE}(h:bC L=L)(s:M.Sublist L):bC M=M:=Ep<|(JU h).sublist s
def W4:j∈bC [x,y]↔j=x\/j=y:=by rw[(bV [x,y]).2.mem_iff];simp
def XS:j∈aD [x,y]↔j=x\/j=y:=by rw[(aK [x,y]).2.mem_iff];simp
def oI(x y:SE):(bC [x,y]).flatten.Perm (x++y):=by
 have:=(bV [x,y]).2.flatten;simpa using this
def Mi(h:aD [a,b]=[a,b]):bC [[a],[b]]=[[a],[b]]:=by
 refine Ep<|Ye.mpr ⟨λd hd=>?_,Wn _ _⟩;rw[Wa.mp hd];have hs:=nG [a,b];rw[h]at hs;have h4:ltN 40 (eD b) (eD a)=false:=(Ye.mp hs).1 b (by simp)
 show Tc (ltN 39) [eD b] [eD a]=false;by_cases e:eD b=eD a
 ·rw[e,bW];rfl
 ·rw[bz e];exact h4
inductive Dd:jO->Prop
 | cut (a b:End) (h:a≠b):Dd ([aD [a,b]],bC [[a],[b]])
 | join (a b:End) (h:a≠b):Dd (bC [[a],[b]],[aD [a,b]])
 | two (a b c d:End) (h:[a,b,c,d].Nodup):Dd (bC [aD [a,b],aD [c,d]],bC [aD [a,c],aD [b,d]])
 | one (a b c:End) (h:[a,b,c].Nodup):Dd (bC [aD [a,b],[c]],bC [aD [a,c],[b]])
theorem Dd.sw(h:Dd p):Dd (p.2,p.1):=by
 cases h with|cut a b h=>exact .join a b h|join a b h=>exact .cut a b h|two a b c d h=>exact .two a c b d ((((List.Perm.swap c b [d]).cons a).nodup_iff).mp h)|one a b c h=>exact .one a c b<|(((List.Perm.swap c b []).cons a).nodup_iff).mp h
def kU:(aD [a,b]).length=2/\aD (aD [a,b])=aD [a,b]:=⟨uZ a b,tf _⟩
structure Hf(g:List SE):Prop where
 ln:∀j∈g,j.length=1\/j.length=2
 so:∀j∈g,aD j=j
 nd:g.flatten.Nodup
 st:bC g=g
 sz:g.length=1\/g.length=2
def Hf.two{x y:SE}(hx:x.length=1\/x.length=2)(hy:y.length=1\/y.length=2)(sx:aD x=x)(sy:aD y=y)(nd:(x++y).Nodup):Hf (bC [x,y]) :=
 ⟨λj hj=>by rcases W4.mp hj with rfl|rfl<;>assumption,λj hj=>by rcases W4.mp hj with rfl|rfl<;>assumption,(oI x y).nodup_iff.mpr nd,ot _,.inr (bV [x,y]).2.length_eq⟩
def Mj{L:Se End}(h:L.Nodup):(aD L).Nodup:=(aK L).2.nodup_iff.mpr h
theorem Dd.hf(h:Dd p):Hf p.1:=by
 cases h with|cut a b h=>exact⟨λj hj=>by rw[Wa.mp hj];exact .inr kU.1,λj hj=>by rw[Wa.mp hj];exact kU.2,by simpa using Mj (L:=[a,b]) (by simpa using h),qY _,.inl rfl⟩|join a b h=>exact .two (.inl rfl) (.inl rfl) (eX a) (eX b) (by simpa using h)|two a b c d h=>exact .two (.inr kU.1) (.inr kU.1) kU.2 kU.2 (((aK [a,b]).2.append (aK [c,d]).2).nodup_iff.mpr h)|one a b c h=>exact .two (.inr kU.1) (.inl rfl) kU.2 (eX c)<|((aK [a,b]).2.append (List.Perm.refl [c])).nodup_iff.mpr h
def Dd.pf(h:Dd p):p.2.flatten.Perm p.1.flatten:=by
 have tw:∀a b:End,([aD [a,b]]:Se SE).flatten.Perm [a,b]:=λa b=>by simpa using (aK [a,b]).2
 cases h with
 |cut a b h=>exact(oI [a] [b]).trans (tw a b).symm
 |join a b h=>exact(tw a b).trans (oI [a] [b]).symm
 |two a b c d h=>
  exact(oI _ _).trans (((aK [a,c]).2.append (aK [b,d]).2).trans (.trans ((List.Perm.swap b c [d]).cons a) ((oI _ _).trans ((aK [a,b]).2.append (aK [c,d]).2)).symm))
 |one a b c h=>
  exact(oI _ _).trans (((aK [a,c]).2.append (List.Perm.refl [b])).trans (.trans ((List.Perm.swap b c []).cons a) ((oI _ _).trans ((aK [a,b]).2.append (List.Perm.refl [c]))).symm))
def Dd.dis(h:Dd p)(h2:j∈p.2)(h1:j∈p.1):False:=by
 have no:∀{a b c d:End},aD [a,b]=aD [c,d]->a≠c->a≠d->False:=λ{a b c d} e n1 n2=>by
  have:a∈aD [c,d]:=e ▸ XS.mpr (.inl rfl);rcases XS.mp this with z|z
  ·exact n1 z
  ·exact n2 z
 have ln:∀{a b c:End},aD [a,b]≠[c]:=λ{a b c} z=>by have:=uZ a b;rw[z]at this;cases this
 cases h with
 |cut a b h=>
  have e:=Wa.mp h1;rcases W4.mp h2 with z|z<;>exact ln<|e.symm.trans z
 |join a b h=>
  have e:=Wa.mp h2;rcases W4.mp h1 with z|z<;>exact ln<|e.symm.trans z
 |two a b c d h=>
  simp at h;rcases W4.mp h2 with z|z<;>rcases W4.mp h1 with w|w
  ·exact no ((bN c a).trans (z.symm.trans w)) (Az h.1.2.1)<|Az h.2.1.1
  ·exact no (z.symm.trans w) h.1.2.1 h.1.2.2
  ·exact no ((bN d b).trans (z.symm.trans w)) (Az h.1.2.2)<|Az h.2.1.2
  ·exact no (z.symm.trans w) h.2.1.1 h.2.1.2
 |one a b c h=>
  simp at h;rcases W4.mp h2 with z|z<;>rcases W4.mp h1 with w|w
  ·exact no ((bN c a).trans (z.symm.trans w)) (Az h.1.2)<|Az h.2
  ·exact ln<|z.symm.trans w
  ·exact ln<|w.symm.trans z
  ·rw[z]at w;injection w with w;exact h.2 w
def Dd.eo(h:Dd p):∃L M:Se Int,L.Perm (p.1.map λj=>(j.length:Int))/\L.Pairwise (·<=·)/\M.Perm (p.2.map λj=>(j.length:Int))/\M.Pairwise (·<=·)/\(L,M)∈UD:=by
 have tw:∀(x y:SE),((bC [x,y]).map λj=>(j.length:Int)).Perm [(x.length:Int),(y.length:Int)]:=λx y=>(bV [x,y]).2.map _;have s2:∀a b:End,((aD [a,b]).length:Int)=2:=λa b=>by rw[uZ];rfl
 cases h with|cut a b h=>exact⟨[2],[1,1],by rw[List.map_singleton,s2],by simp,(tw [a] [b]).symm,by simp,by simp[UD]⟩|join a b h=>exact⟨[1,1],[2],(tw [a] [b]).symm,by simp,by rw[List.map_singleton,s2],by simp,by simp[UD]⟩|two a b c d h=>exact⟨[2,2],[2,2],by have:=(tw (aD [a,b])<|aD [c,d]).symm;rwa [s2,s2]at this,by simp,by have:=(tw (aD [a,c])<|aD [b,d]).symm;rwa [s2,s2]at this,by simp,by simp[UD]⟩|one a b c h=>exact⟨[1,2],[1,2],by have:=((tw (aD [a,b]) [c]).trans (List.Perm.swap _ _ _)).symm;rwa [s2]at this,by simp,by have:=((tw (aD [a,c]) [b]).trans (List.Perm.swap _ _ _)).symm;rwa [s2]at this,by simp,by simp[UD]⟩
def Js.few{js:Se SE}{xs:Se Str}(J:Js js xs)(hx:xs.length<=40):js.flatten.length<=80/\js.length<=80:=by
 have h1:=J.pf.length_eq;rw[Xa,Ya,Ya]at h1;have h2:∀l:Se SE,Ub l->l.length<=l.flatten.length:=λl=>by
  induction l with
  |nil=>intro _;simp
  |cons j r ih=>
   intro h;have h1:=ih λx hx=>h x<|Wb _ hx;have h2:=h j Zc;rw[Wi,Xa,Wc];lia
 have:=h2 js J.ln;lia
end
section
variable {js:Se SE}
theorem JV{a b:Se (Se α)}(h:a.Sublist b):a.flatten.Sublist b.flatten:=by
 induction h with|slnil=>exact List.Sublist.refl _|cons x _ ih=>rw[Wi];exact ih.trans (DG _ _)|cons_cons x _ ih=>rw[Wi,Wi];exact(List.Sublist.refl x).append ih
def Js.ndj(J:Js js xs):js.Nodup:=kR J.nd λj hj z=>by have:=J.ln j hj;rw[z]at this;simp at this
def JW(J:Js js xs)(st:bC js=js)(h:p∈am js):Dd p/\∀j∈p.1,j∈js:=by
 rw[wO]at h;rcases Qb.mp h with h|h
 ·obtain⟨j,hj,rfl⟩:=Qc.mp h;obtain⟨h1,h2⟩:=Wl.mp hj;obtain⟨a,b,rfl⟩:=UZ<|An h2;have so:=J.so _ h1;have ab:a≠b:=by simpa using qV J.nd h1
  refine⟨?_,λk hk=>by rw[Wa.mp hk];exact h1⟩
  have:=Dd.cut a b ab;rw[so,Mi so]at this;exact this
 ·obtain⟨x,y,hs,hd⟩:=W3.mp h;obtain⟨g,c⟩:=p;obtain⟨e1,e2⟩:=PN hd;dsimp only at e1 e2;subst e1;have hx:x∈js:=hs.subset (by simp)
  have hy:y∈js:=hs.subset (by simp)
  have so:bC [x,y]=[x,y]:=wP st hs;have ndf:(x++y).Nodup:=by
   have:[x,y].flatten.Nodup:=CC (JV hs) J.nd;simpa using this
  refine⟨?_,λk hk=>hs.subset hk⟩;have sx:=J.so _ hx;have sy:=J.so _ hy;rcases ol (J.ln x hx) with⟨a,rfl⟩|⟨a,b,rfl⟩<;>rcases ol (J.ln y hy) with⟨c',rfl⟩|⟨c',d,rfl⟩
  ·have e:=Wa.mp e2;subst e;have:=Dd.join a c' (by simpa using ndf)
   rwa [so]at this
  ·have ex:xc a [] c' d=bC [aD [c',a],[d]]:=by unfold xc;rw[Wj,eX,bN]
   have ey:xc a [] d c'=bC [aD [d,a],[c']]:=by unfold xc;rw[Wj,eX,bN]
   have e2:c=xc a [] c' d\/c=xc a [] d c':=by simpa[UE]using e2
   have n1:[c',d,a].Nodup:=((CB (l₁:=[a]) (l₂:=[c',d])).nodup_iff).mp ndf;rcases e2 with rfl|rfl
   ·have:=Dd.one c' d a n1;rw[kT,sy,so]at this;rw[ex];exact this
   ·have:=Dd.one d c' a<|((List.Perm.swap c' d [a]).nodup_iff).mpr n1;rw[kT,bN d c',sy,so]at this;rw[ey];exact this
  ·have ex:xc c' [] a b=bC [aD [a,c'],[b]]:=by unfold xc;rw[Wj,eX,bN]
   have ey:xc c' [] b a=bC [aD [b,c'],[a]]:=by unfold xc;rw[Wj,eX,bN]
   have e2:c=xc c' [] a b\/c=xc c' [] b a:=by simpa[UE]using e2
   rcases e2 with rfl|rfl
   ·have:=Dd.one a b c' ndf;rw[sx,so]at this;rw[ex];exact this
   ·have:=Dd.one b a c'<|((List.Perm.swap a b [c']).nodup_iff).mpr ndf;rw[bN b a,sx,so]at this;rw[ey];exact this
  ·have ex:xc c' [d] a b=bC [aD [a,c'],aD [b,d]]:=by unfold xc;rw[bN c' a];show bC [_,aD [d,b]]=_;rw[bN d b]
   have ey:xc c' [d] b a=bC [aD [b,c'],aD [a,d]]:=by unfold xc;rw[bN c' b];show bC [_,aD [d,a]]=_;rw[bN d a]
   have e2:c=xc c' [d] a b\/c=xc c' [d] b a:=by simpa[UE]using e2
   rcases e2 with rfl|rfl
   ·have:=Dd.two a b c' d ndf;rw[sx,sy,so]at this;rw[ex];exact this
   ·have:=Dd.two b a c' d<|((List.Perm.swap a b [c',d]).nodup_iff).mpr ndf;rw[bN b a,sx,sy,so]at this;rw[ey];exact this
def XB:x∈Th J g c↔(x∈J/\x∉g)\/x∈c:=by
 unfold Th;rw[(bV _).2.mem_iff,Qb,Wl];simp
def ve(J g c:Se SE):bC (Th J g c)=Th J g c:=ot _
def Hf.ndj{g:Se SE}(h:Hf g):g.Nodup:=kR h.nd λj hj z=>by have:=h.ln j hj;rw[z]at this;simp at this
def vf(J:Js js xs)(h:Dd p)(sb:∀j∈p.1,j∈js):Js (Th js p.1 p.2) xs:=by
 have h2:=h.sw.hf;refine⟨λj hj=>?_,?_,λj hj=>?_,J.nx⟩
 ·rcases XB.mp hj with z|z
  ·exact J.ln j z.1
  ·exact h2.ln j z
 ·refine .trans ?_ J.pf;have e1:(js.filter<|λj=>decide<|j∈p.1).Perm p.1:=(Bj (CC BO J.ndj) h.hf.ndj).mpr λx=>by
   rw[Wl,decide_eq_true_eq];exact⟨λz=>z.2,λz=>⟨sb x z,z⟩⟩
  unfold Th;refine((bV _).2.flatten).trans ?_;rw[Yi];refine(h.pf.append_left _).trans (CB.trans ?_);have:=(e1.symm.append_right<|js.filter λj=>!decide (j∈p.1)).trans (List.filter_append_perm (λj=>decide<|j∈p.1) js);have:=this.flatten;rwa [Yi]at this
 ·rcases XB.mp hj with z|z
  ·exact J.so j z.1
  ·exact h2.so j z
end
section
variable {js:Se SE}{xs:Se Str}{p:jO}{ss:Se aR}
def PP{d:D}(hs:d.seq=some ds)(e1:TY (.tup x) d=none)(px:Pl 40 (.tup x))(pd:∀e∈ds,Pl 40 e)(h:c=true↔D.tup x∈ds):Hz (.tup x) d=some (.bl c,false):=by
 unfold Hz S6;rw[e1];unfold Fe;rw[hs];dsimp only;have dc:∀i:Decidable (D.tup x∈ds),@decide _ i=c:=λi=>by rw[Xf,decide_eq_true_eq];exact h.symm
 rw[Ag ⟨px,pd⟩,dc];rfl
def F3{d:D}(hs:d.seq=some ds)(e1:me (.tup x) d=none)(px:Pl 40 (.tup x))(pd:∀e∈ds,Pl 40 e)(h:c=true↔D.tup x∈ds):lw (.tup x) d=some (.bl<|!c,false):=by
 unfold lw S6;rw[e1];unfold Fe;rw[hs];dsimp only;have dc:∀i:Decidable (D.tup x∈ds),@decide _ i=c:=λi=>by rw[Xf,decide_eq_true_eq];exact h.symm
 rw[Ag ⟨px,pd⟩,dc];rfl
def XC{b:Se SE}:jD j∈b.map jD↔j∈b:=by
 constructor
 ·intro h;obtain⟨k,hk,e⟩:=Qc.mp h;have:=congrArg T4 e;rw[kN,kN]at this;exact this ▸ hk
 ·exact λh=>AG h
def JX{b:Se SE}:∀d∈b.map jD,Pl 40 d:=λd hd=>by
 obtain⟨k,_,rfl⟩:=Qc.mp hd;exact oH 37 k
def wQ(j:SE)(b:Se SE):lw (jD j) (.tup<|b.map jD)=some (.bl<|!decide (j∈b),false) :=
 F3 rfl rfl (oH 37 j) JX (by rw[decide_eq_true_eq];exact XC.symm)
def PQ(j:SE)(b:Se SE):Hz (jD j) (.tup<|b.map jD)=some (.bl<|decide<|j∈b,false) :=
 PP rfl rfl (oH 37 j) JX (by rw[decide_eq_true_eq];exact XC.symm)
def Dd.fl(h:Dd p):2<=p.1.flatten.length/\p.1.flatten.length<=4:=by
 have f2:∀x y:SE,(bC [x,y]).flatten.length=x.length+y.length:=λx y=>by rw[(oI x y).length_eq,Xa]
 cases h with|cut a b h=>simp[uZ]|join a b h=>dsimp only;rw[f2];simp|two a b c d h=>dsimp only;rw[f2,uZ,uZ];lia|one a b c h=>dsimp only;rw[f2,uZ];simp
theorem Dd.some(h:Dd p):∃x,x∈p.1:=by
 have:=h.hf.sz;cases e:p.1 with|nil=>rw[e]at this;simp at this|cons x r=>exact⟨x,Zc⟩
def Hf.hok{g:Se SE}(h:Hf g)(ok:∀e∈g.flatten,Uq e):HOk g :=
 ⟨h.sz,λj hj=>⟨h.ln j hj,λe he=>ok e<|Wg.mpr ⟨j,hj,he⟩,qV h.nd hj,h.so j hj⟩,h.ndj,h.st⟩
def Mk(h:Dd p)(ok:∀e∈p.1.flatten,Uq e):i9 [dD p]=some (.bl true,false):=by
 obtain⟨L,M,pL,wL,pM,wM,fm⟩:=h.eo;exact LZ (h.hf.hok ok) (h.sw.hf.hok λe he=>ok e<|h.pf.mem_iff.mp he) h.hf.nd h.pf h.fl pL wL pM wM fm λe=>by
  obtain⟨x,hx⟩:=h.some;exact h.dis (e ▸ hx) hx
def PR(hd:i9 [dD p]=some (.bl true,false))(sz:p.1.length<=2)(sb:∀j∈p.1,j∈js):eT [.tup<|js.map jD,dD p]=some (.non,false):=by
 have ec:cA (gN 0) cM cR 1 (p.1.map jD) [.e,.v<|.tup<|js.map jD]=some (p.1.map λ_=>D.bl true,[.e,.v<|.tup<|js.map jD]) :=
  cE (fg:=gN 0) (fc:=cM) (fe:=cR) (k:=1) jD (λ_=>D.bl true) [.e,.v<|.tup<|js.map jD] p.1 λj hj=>⟨[.v<|jD j,.v<|.tup<|js.map jD],[.v<|jD j,.v<|.tup<|js.map jD],.d<|.bl true,[.v<|jD j,.v<|.tup<|js.map jD],[.v<|jD j,.v<|.tup<|js.map jD],rfl,rfl,ay rfl rfl rfl rfl<|by rw[PQ,Af<|sb j hj],rfl,rfl⟩
 have al:=JA (λ_:SE=>true) p.1;rw[Vj.mpr λ_ _=>rfl]at al;exact aN (o:=.nx [.v<|.tup<|js.map jD,.v<|dD p]) rfl (dm (rJ (kf<|aI (aY rfl rfl hd rfl) rfl)<|kf<|aI (aL (af (cb (dS (ay rfl rfl rfl rfl<|ci (i:=0) rfl) rfl) (rN (l:=p.1.map jD) (n:=2) (by rw[Ya];exact sz) (by decide) rfl) ec) rfl) rfl al) rfl) rfl) rfl
def tj(xs:Se D):kc [.tup xs]=some (.lst xs,true):=rfl
def JY{J g c:Se SE}(hl:J.length<=100)(hc:c.length<=2)(ne:∀j∈J,j≠[])(nc:∀j∈c,j≠[]):bL [.lst<|(J.filter<|λj=>!decide (j∈g)).map jD++c.map jD]=some (.lst<|(Th J g c).map jD,true):=by
 have hf:=AK (λj=>!decide (j∈g)) J;refine gA (J.filter (λj=>!decide (j∈g))++c) (λj hj=>?_) (by rw[Yc];rfl)
 rcases Qb.mp hj with z|z
 ·exact ne j (Wl.mp z).1
 ·exact nc j z
def F4{J:Se SE}(hl:J.length<=100)(hc:p.2.length<=2)(ne:∀j∈J,j≠[])(nc:∀j∈p.2,j≠[]):jE [.tup<|J.map jD,dD p]=some (.tup<|(Th J p.1 p.2).map jD,false):=by
 obtain⟨g,c⟩:=p;have ec:cA (gN 0) eU eV 1 (J.map jD) [.e,.v<|dD (g,c)]=some ((J.filter<|λj=>!decide (j∈g)).map jD,[.e,.v<|dD (g,c)]) :=
  ft (fg:=gN 0) (fc:=eU) (fe:=eV) (k:=1) jD jD (λj=>!decide (j∈g)) [.e,.v<|dD (g,c)] J λj _=>
   ⟨[.v<|jD j,.v<|dD (g,c)],[.v<|jD j,.v<|dD (g,c)],rfl,aI (ay rfl (ay rfl rfl rfl rfl<|ci (i:=0) rfl) rfl rfl<|wQ j g) rfl,λ_=>rfl,λ_=>⟨.d<|jD j,[.v<|jD j,.v<|dD (g,c)],[.v<|jD j,.v<|dD (g,c)],rfl,rfl,rfl⟩⟩
 have hf:=AK (λj=>!decide (j∈g)) J;exact aN (o:=.rt (.d<|.tup<|(Th J g c).map jD) [.v<|.tup<|J.map jD,.v<|dD (g,c)]) rfl (aO<|aL (af (aL (af (ay (cb (dS rfl rfl) (rN (n:=100) (by rw[Ya];exact hl) (by decide) rfl) ec) (aL (af (ay rfl rfl rfl rfl<|ci (i:=1) rfl) rfl) rfl<|tj _) rfl rfl<|vZ (b:=c.map jD) (by rw[Ya,Ya];dsimp only at hc;lia)) rfl) rfl<|JY hl hc ne nc) rfl) rfl<|wz _) rfl
def PU{J:Se SE}(hl:J.length<=100)(hc:p.2.length<=2)(ne:∀j∈J,j≠[])(nc:∀j∈p.2,j≠[]):gY [.tup<|J.map jD,dD p]=some (.tup<|(Th J p.1 p.2).map jD,false):=by
 obtain⟨g,c⟩:=p;have ec:cA (gN 0) dN dO 1 (J.map jD) [.e,.v<|dD (g,c)]=some ((J.filter<|λj=>!decide (j∈g)).map jD,[.e,.v<|dD (g,c)]) :=
  ft (fg:=gN 0) (fc:=dN) (fe:=dO) (k:=1) jD jD (λj=>!decide (j∈g)) [.e,.v<|dD (g,c)] J λj _=>
   ⟨[.v<|jD j,.v<|dD (g,c)],[.v<|jD j,.v<|dD (g,c)],rfl,aI (ay rfl (ay rfl rfl rfl rfl<|ci (i:=0) rfl) rfl rfl<|wQ j g) rfl,λ_=>rfl,λ_=>⟨.d<|jD j,[.v<|jD j,.v<|dD (g,c)],[.v<|jD j,.v<|dD (g,c)],rfl,rfl,rfl⟩⟩
 have hf:=AK (λj=>!decide (j∈g)) J;exact aN (o:=.rt (.d<|.tup<|(Th J g c).map jD) [.v<|.tup<|J.map jD,.v<|dD (g,c),.o<|.lst<|(J.filter<|λj=>!decide (j∈g)).map jD]) rfl (aj (fj (cb (dS rfl rfl) (rN (n:=100) (by rw[Ya];exact hl) (by decide) rfl) ec) rfl)<|aO<|aL (af (aL (af (ay rfl (aL (af (ay rfl rfl rfl rfl<|ci (i:=1) rfl) rfl) rfl<|tj _) rfl rfl<|vZ (b:=c.map jD) (by rw[Ya,Ya];dsimp only at hc;lia)) rfl) rfl<|JY hl hc ne nc) rfl) rfl<|wz _) rfl
structure St(js:List SE)(xs:List Str)(ss:List aR):Prop where
 ne:∀s∈ss,s.2≠[]
 pm:(SX ss).Perm xs
 jo:jo ss=js
theorem St.nm(S:St js xs ss)(nm:∀x∈xs,Nm x):∀s∈ss,∀p∈s.2,Nm p.2:=λs hs p hp=>nm _<|S.pm.mem_iff.mp<|AG<|Qm.mpr ⟨s,hs,hp⟩
def St.len(S:St js xs ss):(ss.flatMap (·.2)).length=xs.length:=by have:=S.pm.length_eq;unfold SX at this;rw[Ya]at this;exact this
def St.jnts(S:St js xs ss)(nm:∀x∈xs,Nm x)(hx:xs.length<=40):iu [.tup<|ss.map SH]=some (.tup<|js.map jD,false):=by
 have:=FJ S.ne (S.nm nm) (by rw[S.len];lia)
 rwa [S.jo]at this
def JZ(J:Js js xs)(st:bC js=js)(nm:∀x∈xs,Nm x)(hx:xs.length<=40):St js xs (SS js):=by
 obtain⟨_,o,pm⟩:=wI J nm (by lia)
 have e:jo (SS js)=bC js:=mN<|FL J o.ne o.sub pm;exact⟨o.ne,pm,e.trans st⟩
def Js.eok(J:Js js xs)(nm:∀x∈xs,Nm x)(sb:∀j∈p.1,j∈js):∀e∈p.1.flatten,Uq e:=λe he=>by
 obtain⟨j,hj,hej⟩:=Wg.mp he;have:=J.en.mp<|Wg.mpr ⟨j,sb j hj,hej⟩;exact⟨nm _ this.1,this.2⟩
def Ml(h:Ub g):∀j∈g,j≠[]:=λj hj z=>by have:=h j hj;rw[z]at this;simp at this
def Er(J:Js js xs)(nm:∀x∈xs,Nm x)(hx:xs.length<=40)(S:St js xs ss)(h:Dd p)(sb:∀j∈p.1,j∈js):qN [.tup<|ss.map SH,dD p]=some (.tup<|(SS<|Th js p.1 p.2).map SH,false):=by
 have J2:=vf J h sb;have f:=J.few hx;have e1:=S.jnts nm (by lia)
 have c2:p.2.length<=2:=by have:=h.sw.hf.sz;dsimp only at this;lia
 have c1:p.1.length<=2:=by have:=h.hf.sz;lia
 have e3:=PU (p:=p) (J:=js) (by lia) c2 (Ml J.ln)<|Ml h.sw.hf.ln
 have e4:=(wI J2 nm<|by lia).1
 rw[RS J2 nm<|by lia]at e4
 exact aN (o:=.rt (.d<|.tup<|(SS<|Th js p.1 p.2).map SH) [.v<|.tup<|ss.map SH,.v<|dD p,.v<|.tup<|js.map jD]) rfl (aj (cO (aT rfl rfl e1) rfl)<|aj (bM<|aT rfl rfl<|PR (js:=js) (Mk h<|J.eok nm sb) c1 sb)<|aO<|aT (af (aT rfl rfl e3) rfl) rfl e4) rfl
end
section
variable {js:Se SE}{xs:Se Str}
theorem tm:∀{ys:Se β}{xs:Se α},ys.Perm (xs.map f)->∃zs:Se α,ys=zs.map f/\zs.Perm xs
 |[],xs,h=>⟨[],rfl,by have:=h.length_eq;rw[Vg,Ya]at this;rw[Xe this.symm]⟩
 | y::ys,xs,h=>by
  obtain⟨x,hx,rfl⟩:=Qc.mp<|h.mem_iff.mp Zc;obtain⟨a,b,rfl⟩:=CV hx
  have h2:(f x::ys).Perm (f x::(a++b).map f):=h.trans (by
   have:=(Vm (a:=x) (l₁:=a) (l₂:=b)).map f
   exact this)
  obtain⟨zs,rfl,p⟩:=tm<|h2.cons_inv;exact⟨x::zs,rfl,(p.cons x).trans Vm.symm⟩
def RX{j:SE}(h:j∈sj s):(j.length=1\/j.length=2)/\aD j=j:=by
 have two:∀a b:End,((aD [a,b]).length=1\/(aD [a,b]).length=2)/\aD (aD [a,b])=aD [a,b]:=λa b=>⟨.inr<|uZ a b,tf _⟩;unfold sj at h;rcases Qb.mp h with h|h
 ·unfold S0 at h;obtain⟨q,_,rfl⟩:=Qc.mp h;exact two _ _
 ·unfold FD at h;split at h
  ·obtain rfl:=Wa.mp h;exact two _ _
  ·simp at h;rcases h with rfl|rfl<;>exact⟨.inl rfl,eX _⟩
def RY(hne:∀s∈ss,s.2≠[])(pm:(SX ss).Perm xs)(nd:xs.Nodup):Js (jo ss) xs:=by
 have a:∀j∈jo ss,(j.length=1\/j.length=2)/\aD j=j:=λj hj=>by
  obtain⟨s,_,h⟩:=Qm.mp<|(bV _).2.mem_iff.mp hj;exact RX h
 exact⟨λj hj=>(a j hj).1,LH hne pm,λj hj=>(a j hj).2,nd⟩
def RZ{a b:SE}(h1:a.length=1\/a.length=2)(h2:b.length=1\/b.length=2):∃p,p∈dn a b:=by
 unfold dn;rcases ol h1 with⟨x,rfl⟩|⟨x,y,rfl⟩
 ·rcases ol h2 with⟨y,rfl⟩|⟨y,z,rfl⟩<;>exact⟨_,Zc⟩
 ·obtain⟨o,os,rfl,_⟩:=VI h2;exact⟨_,Zc⟩
def PV{S:Se SE}(h:S.Sublist js)(hp:p∈am S):p∈am js:=by
 rw[wO]at hp ⊢;rcases Qb.mp hp with z|z
 ·exact Yg _<|((h.filter Uh).map yn).subset z
 ·obtain⟨x,y,s,d⟩:=W3.mp z;exact Vd _<|W3.mpr ⟨x,y,s.trans h,d⟩
def R0{l:Se SE}{i:Int}(h0:0<=i)(h1:i<l.length)(h2:l.length<=1000):∃x,x∈l/\(x::l.eraseIdx i.toNat).Perm l/\j8 (.lst<|l.map jD) [.int i]=some (jD x,.lst<|(l.eraseIdx i.toNat).map jD):=by
 have hk:i.toNat<l.length:=by lia
 refine⟨l[i.toNat],Qk hk,?_,?_⟩
 ·rw[Bx];refine List.perm_middle.symm.trans<|.of_eq ?_;rw[<-Vl hk,Vk]
 ·rw[wy h0 (by rw[Ya];exact h1) (by rw[Ya];lia) (by rw[Ya];exact hk),Cd,Bx,Bx,Yc,DJ,CP]
def R3(l:Se D):b9 [.lst l]=some (.int (l.length:Int),false):=rfl
def one_ok(hφ:cT φ)(J:Js js xs)(st:bC js=js)(h1:1<=xs.length)(hx:xs.length<=40):∃(p:jO)(φ':D),hZ φ [.tup<|js.map jD]=some ((dD p,false),φ')/\p∈am js/\cT φ':=by
 have few:=J.few hx;have pos:0<js.length:=by
  have:=J.pf.length_eq;rw[Xa,Ya,Ya]at this;cases js with|nil=>simp at this;lia|cons _ _=>simp
 have lA:kc [.tup<|js.map jD]=some (.lst<|js.map jD,true):=rfl;generalize hT:D.tup (js.map jD)=T at lA;obtain⟨i,φ1,e1,i0,i1,f1⟩:=cI (n:=(js.length:Int)) hφ (by lia) (by lia)
 obtain⟨x,hx1,px,ex⟩:=R0 (l:=js) i0 i1 (by lia)
 generalize js.eraseIdx i.toNat=left at px ex;have ll:left.length+1=js.length:=px.length_eq;have ln:∀l:Se SE,b9 [.lst<|l.map jD]=some (.int (l.length:Int),false):=λl=>by rw[R3,Ya]
 have mid:∃(S M:Se SE)(φ2:D),SV (aC<|Sy TF (aF 2)<|cP ag) (bY<|fM SY br 3<|aa (fM SY j8 2<|aa (S5 aP 0<|aa (SF b9<|aa (aF 2) ag) ag) ag) ag) b8 [.io φ1,.v T,.o<|.lst<|left.map jD,.o<|.lst [jD x],.e]=some (.nx [.io φ2,.v T,.o<|.lst<|M.map jD,.o<|.lst<|S.map jD,.e])/\cT φ2/\(bC S).Sublist js/\(∃p,p∈am (bC S))/\S.length<=2:=by
  cases left with
  |nil=>
   refine⟨[x],[],φ1,dm rfl rfl,f1,by rw[qY];exact List.singleton_sublist.mpr hx1,?_,by simp⟩
   have e:=List.perm_singleton.mp px.symm;have fl:=J.pf.length_eq;rw[e,Cn,Xa,Ya,Ya]at fl;rw[qY,wO];refine⟨yn x,Yg _<|Qc.mpr ⟨x,Wl.mpr ⟨Zc,?_⟩,rfl⟩⟩;have:=J.ln x hx1;unfold Uh;exact Af (by lia)
  |cons l0 lr=>
   obtain⟨k,φ2,e2,k0,k1,f2⟩:=cI (n:=((l0::lr).length:Int)) f1 (by rw[Wc];lia) (by lia)
   obtain⟨y,hy,_,ey⟩:=R0 (l:=l0::lr) k0 k1 (by lia)
   have hy':y∈js:=px.mem_iff.mp<|Wb _ hy;have xy:x≠y:=λz=>by
    have:=px.nodup_iff.mpr<|J.ndj;exact(Xj.mp this).1 (z ▸ hy)
   refine⟨[x,y],(l0::lr).eraseIdx k.toNat,φ2,eO rfl<|bM<|eY rfl rfl rfl (af (eY rfl rfl rfl (af (cC rfl rfl (af (aL rfl rfl<|ln _) rfl) rfl rfl rfl e2) rfl) rfl rfl rfl ey) rfl) rfl rfl rfl<|cN (by show 1<1000000;decide),f2,?_⟩
   have two:∀a b:SE,a∈js->b∈js->[a,b].Sublist js->(bC [a,b]).Sublist js/\∃p,p∈am (bC [a,b]):=λa b ha hb s=>by
    rw[wP st s];obtain⟨p,hp⟩:=RZ (J.ln a ha)<|J.ln b hb;exact⟨s,p,by rw[wO];exact Vd _<|W3.mpr ⟨a,b,List.Sublist.refl _,hp⟩⟩
   refine⟨?_,?_,by simp⟩
   ·rcases vd hx1 hy' xy with s|s
    ·exact(two x y hx1 hy' s).1
    ·rw[kT];exact(two y x hy' hx1 s).1
   ·rcases vd hx1 hy' xy with s|s
    ·exact(two x y hx1 hy' s).2
    ·rw[kT];exact(two y x hy' hx1 s).2
 obtain⟨S,M,φ2,em,f2,sb,⟨p0,hp0⟩,hS⟩:=mid;have sl:(bC S).length=S.length:=(bV S).2.length_eq;have j12:Ub (bC S):=λj hj=>J.ln j<|sb.subset hj;have e3:=FZ j12 (by lia)
 have s3:=gA (d:=.lst<|S.map jD) S (λj hj z=>by have:=j12 j<|(bV S).2.mem_iff.mpr hj;rw[z]at this;simp at this) rfl
 obtain⟨ps,ep,pp⟩:=tm<|mn 40<|(am<|bC S).map dD;rw[ep]at e3;have al:(am<|bC S).length<=6:=by
  have a:=JT<|bC S;have b:=AK Uh<|bC S;have c:(bC S).length*(bC S).length<=2*2:=DB (by lia) (by lia)
  rw[wO,Xa,Ya];lia
 have pn:0<ps.length:=DU<|pp.mem_iff.mpr hp0;have pl:=pp.length_eq;obtain⟨a,φ3,e4,a0,a1,f3⟩:=cI (n:=(ps.length:Int)) f2 (by lia) (by lia)
 obtain⟨a,rfl⟩:=DP a0;have ha:a<ps.length:=by lia
 have lp:b9 [.lst<|ps.map dD]=some (.int (ps.length:Int),false):=by rw[R3,Ya]
 exact⟨ps[a],φ3,(de (o:=.rt (.d<|dD ps[a]) [.io φ3,.v T,.o<|.lst<|M.map jD,.o<|.lst<|S.map jD,.o<|.lst<|ps.map dD]) rfl (aj (fj (aL rfl rfl lA) rfl)<|aj (fj (gc (af (eY rfl rfl rfl (af (cC rfl rfl (af (aL rfl rfl<|ln js) rfl) rfl rfl rfl e1) rfl) rfl rfl rfl ex) rfl) rfl (by show 1<=1000000;decide)) rfl)<|aj em<|aj (fj (aT (af (aL (af (aL rfl rfl s3) rfl) rfl rfl) rfl) rfl e3) rfl)<|aO<|ay rfl (cC rfl rfl (af (aL rfl rfl lp) rfl) rfl rfl rfl e4) rfl rfl<|fw<|kO<|Za ha) rfl),PV sb<|pp.mem_iff.mp<|Qk ha,f3⟩
end
section
variable {js:Se SE}{xs:Se Str}{ss:Se aR}
def SD(B:Se SE):D:=.tup<|(SS B).map SH
def PX{ss:Se aR}(h:ss.length<=1000)(h2:∀s∈ss,s.2.length<=1000):Dp 6 (.tup<|ss.map SH) :=
 .tup (by rw[Ya];lia) λd hd=>by
  obtain⟨s,hs,rfl⟩:=Qc.mp hd;refine .tup (by show 2<=1000000;decide) λd hd=>?_
  rcases Vc.mp hd with rfl|hd
  ·exact .str _ _
  ·obtain rfl:=Wa.mp hd;refine .tup (by rw[Ya];have:=h2 s hs;lia) λd hd=>?_
   obtain⟨p,_,rfl⟩:=Qc.mp hd;exact .str _ _
def St.al(S:St js xs ss)(hx:xs.length<=40):dQ 6 [.tup<|ss.map SH,.tup<|ss.map SH]=some (.bl true,false):=by
 refine qm<|PX ?_ λs hs=>?_
 ·have:=jI ss S.ne;have:=S.len;lia
 ·have:=S.len;obtain⟨a,b,e⟩:=CV hs;rw[e,Qg,Yf,Xa,Xa]at this;lia
def turn{T U:Se D}(hφ:cT φ)(J:Js js xs)(st:bC js=js)(nm:∀x∈xs,Nm x)(h1:1<=xs.length)(hx:xs.length<=40)(Y:St js xs ss)(hT:T.length<=1000)(hU:U.length<=1000) :
  ∃(p:jO)(φ':D),pQ [.v S,.o φ,.v M,.v X,.v<|.tup<|js.map jD,.v<|.tup<|ss.map SH,.o<|.lst T,.o<|.lst U,.v k]=some (.nx [.v S,.o φ',.v M,.v X,.v<|.tup<|(Th js p.1 p.2).map jD,.v<|SD<|Th js p.1 p.2,.o<|.lst<|T++[dD p],.o<|.lst<|U++[SD<|Th js p.1 p.2],.v k])/\p∈am js/\cT φ':=by
 obtain⟨p,φ',e1,hp,f1⟩:=one_ok hφ J st h1 hx;obtain⟨dd,sb⟩:=JW J st hp;have few:=J.few hx;have J2:=vf J dd sb;have c2:p.2.length<=2:=by have:=dd.sw.hf.sz;dsimp only at this;lia
 have e2:=F4 (p:=p) (J:=js) (by lia) c2 (Ml J.ln)<|Ml dd.sw.hf.ln
 have e3:=Er J nm hx Y dd sb;have e4:=FX J2 nm (by lia)
 have al:=(JZ J2 (ve _ _ _) nm hx).al hx;refine⟨p,φ',?_,hp,f1⟩
 have ix:SA (.lst (T++[dD p])) (.int (-1))=some (dD p,false):=fw (by
  have:=jJ (f:=id) (xs:=T++[dD p]) (x:=dD p) (by simp)
  rwa [AY]at this)
 generalize hB:Th js p.1 p.2=B at *;change qN _=some (SD B,false) at e3;change iA _=some (SD B,false) at e4;change dQ 6 [SD B,SD B]=_ at al;generalize SD B=BD at *;generalize D.tup (ss.map SH)=XD at *;generalize D.tup (js.map jD)=JD at *;generalize D.tup (B.map jD)=KD at *;generalize dD p=P at *;exact aj (bM<|eY rfl rfl rfl (af (cC rfl rfl rfl rfl rfl rfl e1) rfl) rfl rfl rfl<|cN<|by lia)<|aj (cO (aT (af rfl<|af (ay rfl (nr rfl rfl rfl) rfl rfl ix) rfl) rfl e2) rfl)<|aj (cO (aT (af rfl<|af (ay rfl (nr rfl rfl rfl) rfl rfl ix) rfl) rfl e3) rfl)<|aj (bM<|eY rfl rfl rfl rfl rfl rfl rfl<|cN<|by lia)<|dm (kf (c:=true)<|aI (aY (af rfl<|af (aT rfl rfl e4) rfl) rfl al rfl) rfl) rfl
abbrev lS(S φ M X:D)(js:List SE)(ss:List aR)(T U:List D)(s8:Sl):En:=[.v S,.o φ,.v M,.v X,.v<|.tup<|js.map jD,.v<|.tup<|ss.map SH,.o<|.lst T,.o<|.lst U,s8]
inductive LI(xs:List Str)(js0:List SE)(ss0:List aR)(S M X:D)(gone:List Nat)(s:En):Prop
 | mk (js:List SE) (ss:List aR) (φ:D) (T U:List D) (s8:Sl) (e:s=lS S φ M X js ss T U s8) (J:Js js xs) (st:bC js=js) (Y:St js xs ss) (f:cT φ) (hT:T.length=gone.length) (hU:U.length=gone.length) (i8:s8.isIo=false)
   (h:(gone=[]/\js=js0/\ss=ss0)\/∃p,p∈am js0/\T[0]?=some (dD p)/\U[0]?=some (SD<|Th js0 p.1 p.2))
def Mm(ns:Se Int):Rj [.fl<|ns.map D.int]=some (.bl true,false):=by
 have f0:cT (Fl ns 0 0 1 0):=⟨ns,0,0,1,0,rfl,by decide,by decide,by decide,by decide⟩
 obtain⟨n1,φ1,e1,u1,v1,f1⟩:=cI (n:=9) f0 (by decide) (by decide)
 obtain⟨n2,φ2,e2,u2,v2,f2⟩:=cI (n:=8) f1 (by decide) (by decide)
 obtain⟨n3,φ3,e3,u3,v3,f3⟩:=cI (n:=40) f2 (by decide) (by decide)
 generalize hS:D.fl (ns.map D.int)=S;have many:∃(m:Int)(φ:D),1<=m/\m<=40/\cT φ/\SV (aC<|Sy iI (S5 aP 1<|aa (fC<|.int 8) ag)<|fC<|.int 0) (bc (Sy cK (fC<|.int 1)<|S5 aP 1<|aa (fC<|.int 40) ag) 2) b8 [.v S,.o φ1,.v<|.int<|1+n1,.e,.e,.e,.e,.e,.e]=some (.nx [.v S,.o φ,.v<|.int m,.e,.e,.e,.e,.e,.e]):=by
  by_cases c:n2=0
  ·exact⟨1+n3,φ3,by lia,by lia,f3,eO (eW (aI (ay (cC rfl rfl rfl rfl rfl rfl e2) rfl rfl rfl FV) rfl)<|Af c)<|cO (ay rfl (cC rfl rfl rfl rfl rfl rfl e3) rfl rfl rfl) rfl⟩
  ·exact⟨1+n1,φ2,by lia,by lia,f2,dm (eW (aI (ay (cC rfl rfl rfl rfl rfl rfl e2) rfl rfl rfl FV) rfl)<|Ae c) rfl⟩
 obtain⟨m,φ,m1,m2,fm,em⟩:=many;obtain⟨xs,φ4,e4,hxl,nm,nd,f4⟩:=IX (n:=m) fm (by lia) (by lia)
 obtain⟨ss,φ5,e5,hne,pm,f5⟩:=PB f4 (by lia) nm
 have J:=RY hne pm nd;have hx:xs.length<=40:=by lia
 have h1:1<=xs.length:=by lia
 have X:St (jo ss) xs ss:=⟨hne,pm,rfl⟩;have st:bC (jo ss)=jo ss:=ot _;have e6:=yh hne (X.nm nm) (by rw[X.len];lia)
 obtain⟨n7,φ7,e7,u7,v7,f7⟩:=cI (n:=6) f5 (by decide) (by decide)
 generalize jo ss=js at *;obtain⟨sf,el,js',ss',φ8,T,U,s8,rfl,J',VX,Y',f8,hT,hU,i8,h⟩:=bZ (fg:=gN 8) (B:=pQ) (λk:Nat=>D.int ((0+k:Nat):Int)) (List.range (1+n7).toNat) (LI xs js ss S (.int m)<|.tup<|ss.map SH)
  (by
   rintro gone k rest s ha ⟨js1,ss1,φ8,T,U,s8,rfl,J1,V1,Y1,f8,hT,hU,i8,h⟩;have gl:=congrArg List.length ha;rw[AO,Xa,Wc]at gl;obtain⟨p,φ9,et,hp,f9⟩:=turn (S:=S) (M:=.int m) (X:=.tup<|ss.map SH) (k:=.int ((0+k:Nat):Int)) (T:=T) (U:=U) f8 J1 V1 nm h1 hx Y1 (by lia) (by lia)
   obtain⟨dd,sb⟩:=JW J1 V1 hp;have J2:=vf J1 dd sb;refine⟨_,_,bG (t:=s8) rfl i8,et,Th js1 p.1 p.2,SS<|Th js1 p.1 p.2,φ9,T++[dD p],U++[SD<|Th js1 p.1 p.2],_,rfl,J2,ve _ _ _,JZ J2 (ve _ _ _) nm hx,f9,by simp[hT],by simp[hU],rfl,.inr ?_⟩
   rcases h with⟨h,rfl,rfl⟩|⟨q,hq,t0,u0⟩
   ·subst h;obtain rfl:=Xe hT;obtain rfl:=Xe hU;exact⟨p,hp,rfl,rfl⟩
   ·exact⟨q,hq,by rw[Xh (Vb.mp t0).1];exact t0,by rw[Xh (Vb.mp u0).1];exact u0⟩)
  (List.range (1+n7).toNat) [] (lS S φ7 (.int m) (.tup<|ss.map SH) js ss [] [] .e) rfl ⟨js,ss,φ7,[],[],.e,rfl,J,st,X,f7,rfl,rfl,rfl,.inl ⟨rfl,rfl,rfl⟩⟩
 rcases h with⟨h,_⟩|⟨p,hp,t0,u0⟩
 ·have:=congrArg List.length h;rw[AO,Vg]at this;lia
 obtain⟨dd,sb⟩:=JW J st hp;have e9:=Er J nm hx X dd sb;have al:=(JZ (vf J dd sb) (ve _ _ _) nm hx).al hx;have i1:SA (.lst T) (.int 0)=some (dD p,false):=fw<|im (j:=0) t0;have i2:SA (.lst U) (.int 0)=some (SD<|Th js p.1 p.2,false):=fw<|im (j:=0) u0;change dQ 6 [SD<|Th js p.1 p.2,SD<|Th js p.1 p.2]=_ at al;exact aN (o:=.rt (.d<|.bl true)<|lS S φ8 (.int m) (.tup<|ss.map SH) js' ss' T U s8) rfl (aj (fj (aT rfl rfl<|hS ▸ Lz ns) rfl)<|aj (cO (ay rfl (cC rfl rfl rfl rfl rfl rfl e1) rfl rfl rfl) rfl)<|aj em<|aj (cO (OH rfl rfl (af (cC rfl rfl rfl rfl rfl rfl e4) rfl) rfl rfl rfl e5) rfl)<|aj (cO (aT rfl rfl e6) rfl)<|aj rfl<|aj rfl<|aj rfl<|aj (cY (fD (j:=1+n7) (af (ay rfl (cC rfl rfl rfl rfl rfl rfl e7) rfl rfl rfl) rfl) rfl<|by lia) (by rw[show rng 0 (1+n7).toNat=_ from Lc 0 (1+n7).toNat];exact el))<|aO<|aY (af (aT (af rfl<|af (ay rfl rfl rfl rfl i1) rfl) rfl e9)<|af (ay rfl rfl rfl rfl i2) rfl) rfl al rfl) rfl
end
end K14
namespace K14
open PySem L2 VF VF22
local macro_rules|`(tactic| walk_at "r")=>`(tactic| repeat' first|(with_reducible first|refine yU ?_ ?_|exact NW _|exact N1|refine MG ?_ ?_ ?_|exact NX _|refine GH ?_ ?_|refine ML ?_ ?_|exact QH|refine GJ ?_|refine GI ?_|refine tV ?_|refine GD ?_|refine yV ?_|refine MN ?_ ?_ ?_|refine GE ?_|exact KG|refine vK ?_|exact E8|exact Oz|refine Qz ?_ ?_|refine Hj ?_|refine MM ?_|exact Xs|refine yX ?_|exact NY _|refine MI ?_|exact sF|exact E9|exact xA λ_ _=>.ty _|exact Xz|exact Ib|refine pD ?_ (dX _) (by decide) ?_ ?_|refine tZ ?_ (dX _) ?_|exact N0|refine yQ ?_|refine GC ?_ ?_|exact Qx _|refine GL ?_ ?_ ?_|refine yS ?_ ?_|refine MK ?_ ?_ ?_|refine vO ?_|exact Om|refine vP ?_ ?_ ?_ ?_|exact Oe|refine MH ?_ ?_|exact Oc|refine yW ?_|exact OO|exact G4|exact La|exact XA|exact NZ|exact N9|exact EX|exact KU|exact zd|exact Fk|exact Li|exact Hg|refine MR ?_ ?_ ?_|exact OP|refine vL _ ?_ ?_|exact Og|exact Oa|exact Xy|exact HF|exact sG|refine yR ?_ ?_|exact vR|exact QD|exact Op|refine HL ?_|refine pD ?_ (tY (fO (dX _) (fO (dX _) pC))) (by decide) ?_ ?_|exact WX|exact Id|exact Im|exact Ie|exact Pg true|exact Fg|exact KS|exact xA λ_ _=>.int _|refine vJ ?_ ?_ ?_ ?_ ?_|exact xA λ_ _=>.str _|exact sE|refine Hm ?_|exact wn|exact Lm|exact IC|refine yT ?_|exact Pi|exact KM|refine Iy ?_|exact OS|exact HB|exact QF|exact Od|exact QE|exact y7|refine tZ ?_ (tY (fO (dX _) (fO (dX _) pC))) ?_|exact K7|exact Iq|exact wm|refine Hq (λ_ _=>El.one (.bl _)) ?_)|walk_at "s")
local macro_rules|`(tactic| walk_at "s")=>`(tactic| first|refine Qz ?_ ?_|exact sF|refine pD ?_ (dX _) (by decide) ?_ ?_|refine tZ ?_ (dX _) ?_|refine vP ?_ ?_ ?_ ?_|exact G4|refine MR ?_ ?_ ?_|refine vL _ ?_ ?_|exact sG|exact vR|refine pD ?_ (tY (fO (dX _) (fO (dX _) pC))) (by decide) ?_ ?_|exact sE|exact wn|refine Iy ?_|exact y7|refine tZ ?_ (tY (fO (dX _) (fO (dX _) pC))) ?_|exact wm|refine yU ?_ ?_|refine MG ?_ ?_ ?_|refine GH ?_ ?_|refine ML ?_ ?_|refine GJ ?_|refine GI ?_|refine tV ?_|refine GD ?_|refine yV ?_|refine MN ?_ ?_ ?_|refine GE ?_|refine vK ?_|refine Hj ?_|refine MM ?_|refine yX ?_|refine MI ?_|refine yQ ?_|refine GC ?_ ?_|refine GL ?_ ?_ ?_|refine yS ?_ ?_|refine MK ?_ ?_ ?_|refine vO ?_|refine MH ?_ ?_|refine yW ?_|refine yR ?_ ?_|refine HL ?_|refine vJ ?_ ?_ ?_ ?_ ?_|refine Hm ?_|refine yT ?_|refine Hq (λ_ _=>El.one (.bl _)) ?_)
section
variable (P:Su)(w:Sx)(K:Ab)(mg:Str->Sf Sh)(base:Sv)
abbrev tq:=Wy P w K mg base "is_name" 1 Tf (SR K lC)
abbrev oJ:=Wy P w K mg base "is_turned" 1 Tg (SR K cy)
abbrev tv:=Wy P w K mg base "name_of" 2 Tg (SR K b7)
abbrev qZ:=Wy P w K mg base "mirrored" 3 Tg (SR K d8)
abbrev kW:=Wy P w K mg base "turned_beads" 4 Tq (SR K dH)
abbrev nH:=Wy P w K mg base "canon_open" 5 Tq (SR K jr)
abbrev lQ:=Wy P w K mg base "first_place" 3 Tq (SR K df)
abbrev nI:=Wy P w K mg base "canon_ring" 5 Tq (SR K ju)
abbrev kX:=Wy P w K mg base "canon_strand" 6 TN (SR K dI)
abbrev lR:=Wy P w K mg base "strand_rank" 3 TN (SR K di)
abbrev Es:=Wy P w K mg base "canon" 7 ["some"] (SR K uG)
abbrev q0:=Wy P w K mg base "is_whole" 1 Tf (SR K qG)
abbrev q8:=Wy P w K mg base "left_end" 3 Tg (SR K d9)
abbrev oK:=Wy P w K mg base "right_end" 4 Tg (SR K eJ)
abbrev q9:=Wy P w K mg base "joint_of" 1 ["ends"] (SR K fv)
abbrev wR:=Wy P w K mg base "rising" 1 ["things"] (SR K cZ)
abbrev wT:=Wy P w K mg base "is_end" 2 Tf (SR K qJ)
abbrev rb:=Wy P w K mg base "is_joint" 3 Tf (SR K gR)
abbrev kY:=Wy P w K mg base "inner_joints" 5 Tq (SR K eQ)
abbrev jN:=Wy P w K mg base "strand_joints" 6 TN (SR K dY)
abbrev oM:=Wy P w K mg base "joints_of" 7 ["some"] (SR K iu)
abbrev lU:=Wy P w K mg base "ends_beyond" 1 TX (SR K iM)
abbrev tz:=Wy P w K mg base "bead_at" 4 TZ (SR K lD)
abbrev wU:=Wy P w K mg base "across" 1 TZ (SR K ng)
abbrev nJ:=Wy P w K mg base "beads_from" 5 ["begin","beyond"] (SR K gm)
abbrev wV:=Wy P w K mg base "set_of" 8 TX (SR K qM)
abbrev tD:=Wy P w K mg base "is_half" 4 Tf (SR K iY)
abbrev Et:=Wy P w K mg base "sizes" 1 TX (SR K pP)
abbrev tE:=Wy P w K mg base "ends_of" 1 TX (SR K iZ)
abbrev tF:=Wy P w K mg base "is_deed" 5 Tf (SR K i9)
abbrev iD:=Wy P w K mg base "refuse_undoable" 6 Up (SR K eT)
abbrev kZ:=Wy P w K mg base "put_in_place" 1 Up (SR K gY)
abbrev J0:=Wy P w K mg base "done" 9 ["some","deed"] (SR K qN)
abbrev rd:=Wy P w K mg base "_law_flow" 1 UA (SR K mC)
abbrev re:=Wy P w K mg base "_law_pick" 1 Ua (lZ K aP)
abbrev lV:=Wy P w K mg base "_law_letters" 2 Ua (lZ K dU)
abbrev rf:=Wy P w K mg base "_law_name" 3 ["_law_flow_here","_law_stem"] (lZ K mE)
abbrev oN:=Wy P w K mg base "_law_names" 4 Ua (lZ K kB)
abbrev lc:=Wy P w K mg base "_law_shuffled" 2 ["_law_flow_here","_law_things"] (lZ K g6)
abbrev rj:=Wy P w K mg base "_law_line" 3 IR (lZ K g9)
abbrev tG:=XY P w K mg base "_law_set" 4 Ru [.bl true] (lZ K n8)
abbrev oO:=Wy P w K mg base "_law_alike" 6 UB (SR K<|dQ 6)
abbrev rl:=Wy P w K mg base "_law_ends" 1 Ft (SR K hV)
abbrev nK:=Wy P w K mg base "_law_joints" 2 ["_law_some"] (SR K jB)
abbrev nL:=Wy P w K mg base "_law_behind" 1 IS (SR K jE)
abbrev oP:=Wy P w K mg base "_law_three" 1 ["_law_one","_law_other"] (SR K kF)
abbrev oQ:=Wy P w K mg base "_law_deeds" 2 Ly (SR K kH)
abbrev ld:=Wy P w K mg base "_law_one_deed" 3 Ry (lZ K hZ)
abbrev nM:=Wy P w K mg base "_law_walked" 1 ["_law_stand","_law_begin"] (SR K gq)
abbrev oR:=Wy P w K mg base "_law_canon" 2 Ly (SR K iA)
end
section
variable {P:Su}{w:Sx}{K:Ab}{mg:Str->Sf Sh}{base:Sv}
variable (M:Md K mg)(c0:tq P w K mg base)(c1:oJ P w K mg base)(c2:tv P w K mg base)(c3:qZ P w K mg base)(c4:kW P w K mg base)(c5:nH P w K mg base)(c6:lQ P w K mg base)(c7:nI P w K mg base)(c8:kX P w K mg base)(c9:lR P w K mg base)(c10:Es P w K mg base)(c11:q0 P w K mg base)(c12:q8 P w K mg base)(c13:oK P w K mg base)(c14:q9 P w K mg base)(c15:wR P w K mg base)(c16:wT P w K mg base)(c17:rb P w K mg base)(c18:kY P w K mg base)(c19:jN P w K mg base)(c20:oM P w K mg base)(c21:lU P w K mg base)(c22:tz P w K mg base)(c23:wU P w K mg base)(c24:nJ P w K mg base)(c25:wV P w K mg base)(c26:tD P w K mg base)(c27:Et P w K mg base)(c28:tE P w K mg base)(c29:tF P w K mg base)(c30:iD P w K mg base)(c31:kZ P w K mg base)(c32:J0 P w K mg base)(c33:rd P w K mg base)(c34:re P w K mg base)(c35:lV P w K mg base)(c36:rf P w K mg base)(c37:oN P w K mg base)(c38:lc P w K mg base)(c39:rj P w K mg base)(c40:tG P w K mg base)(c41:oO P w K mg base)(c42:rl P w K mg base)(c43:nK P w K mg base)(c44:nL P w K mg base)(c45:oQ P w K mg base)(c46:oP P w K mg base)(c47:ld P w K mg base)(c48:nM P w K mg base)(c49:oR P w K mg base)
def yo:SQ P w K mg base "is_name" pR Tf 0 nX:=λhr=>⟨_,(ah (bX (PW.pt (jQ (fT (cL (cx K M.n_isinstance (pv 0) (eN rfl M.n_str nP)))) (jb (fT (Gk Mw Mw ai (bF K M.n_len (pv 0)) (Kv rfl M.c_LONGEST_NAME)))))) (ak (aG jP)) bo)
   (ak (aG (aW (gG rfl) rfl M.n_all boot_all (ao (cW (cX (osc:=(aq pR)) (ON:=Tf) (N:=["letter"]) (k:=1) (VW:=[]) (by decide +kernel) rfl rfl) rfl (ce (K:=K) rfl (pv 0)) (λ_ _ _ _=>(bT 0 (by show(["letter"]:Se Str).Nodup;decide +kernel))) (λ_ _ _ _=>cV) (λ_ _ _ _=>(mQ (ua (K:=K) rfl) (pv 0) (Ku rfl M.c_LETTERS) (by with_unfolding_all rfl)))) ae))))),by delta nX;delta oG;walk_at "r"⟩
def vg:SQ P w K mg base "is_turned" n9 Tg 0 kw:=λhr=>⟨_,(ak<|aG<|jV Ch PySem.F.slot_str_startswith PySem.F.type_str_startswith rE (pv 0)<|ao cj ae),by delta kw;walk_at "r"⟩
def yp:SQ P w K mg base "name_of" uI Tg 1 nY:=λhr=>⟨_,(ak<|aG<|eK (cL<|aA c1 hr rfl<|ao (pv 0) ae) (fN (nU (K:=K) rfl) (pv 0) (ik ai) ii)<|pv 0),by delta nY;walk_at "r"⟩
def wW:SQ P w K mg base "mirrored" og Tg 2 mr:=λhr=>⟨_,(ak<|aG<|eK (cL<|aA c1 hr rfl<|ao (pv 0) ae) (aA c2 hr rfl<|ao (pv 0) ae)<|bP K cj<|pv 0),by delta mr;walk_at "r"⟩
def o7:SQ P w K mg base "turned_beads" gr Tq 3 gP:=λhr=>⟨_,(ak<|aG<|bD K M.n_tuple<|cW (cX (osc:=(aq gr)) (ON:=Tq) (N:=Tg) (k:=1) (VW:=[]) (by decide +kernel) rfl rfl) rfl (vV (K:=K) rfl rfl rfl M.n_reversed<|pv 0) (λ_ _ _ _=>(bT 0 (by show(Tg:Se Str).Nodup;decide +kernel))) (λ_ _ _ _=>cV)<|λ_ _ _ _=>(aA c3 hr rfl<|ao (pv 0) ae)),by delta gP;walk_at "r"⟩
def rO:SQ P w K mg base "canon_open" mH Tq 4 jq:=λhr=>⟨_,(ah (bX (aU eG (bF K M.n_len (pv 0)) ai) (ak (aG (aZ (ao (aA c2 hr rfl (ao (az K (pv 0) ai) ae)) ae)))) bo)
   (ah (bX (aU G8 (aA c2 hr rfl (ao (az K (pv 0) ai) ae)) (aA c2 hr rfl (ao (az K (pv 0) (ox jT ai)) ae))) (ak (aG (bD K M.n_tuple (pv 0)))) bo)
   (ak (aG (aA c4 hr rfl (ao (pv 0) ae)))))),by delta jq;walk_at "r"⟩
def rm:SQ P w K mg base "first_place" iB ["beads","names"] 2 iJ:=λhr=>⟨_,(ah (tU 1 (cX (osc:=(aq iB)) (ON:=["beads","names"]) (N:=Tg) (k:=1) (VW:=[]) (by decide +kernel) rfl rfl) rfl WL.nd (ce (K:=K) rfl (pv 0)) (λ_ _ _ _=>(bT 0 (by show(Tg:Se Str).Nodup;decide +kernel))) (λ_ _ _ _=>cV) (λ_ _ _ _=>(aA c2 hr rfl (ao (pv 0) ae))))
   (ak (aG (jV Au DN PySem.F.type_list_index (Iw (K:=K) rfl) (pv 1) (ao (aW (Fo (K:=K) rfl rfl) rfl M.n_min PyProof.Rows.boot_min (ao (pv 1) ae)) ae))))),by delta iJ;walk_at "r"⟩
def rP:SQ P w K mg base "canon_ring" mI ["beads","side","begin"] 4 jt:=λhr=>⟨_,(ah (aS 1 WF.nd (eK (cL (aA c1 hr rfl (ao (az K (pv 0) (aA c6 hr rfl (ao (pv 0) ae))) ae))) (aA c4 hr rfl (ao (pv 0) ae)) (bD K M.n_tuple (pv 0))))
   (ah (aS 2 WF.nd (aA c6 hr rfl (ao (pv 1) ae)))
   (ak (aG (ck (jj (K:=K) rfl) (fN (um (K:=K) rfl) (pv 1) (ik (pv 2)) ii) (fN (um (K:=K) rfl) (pv 1) ii (ik (pv 2)))))))),by delta jt;walk_at "r"⟩
def o8:SQ P w K mg base "canon_strand" jG TN 5 gQ:=λhr=>⟨_,(ah (bX (aU eG (az K (pv 0) ai) cj) (ak (aG (aZ (ao cj (ao (aA c5 hr rfl (ao (az K (pv 0) ai) ae)) ae))))) bo)
   (ak (aG (aZ (ao cj (ao (aA c7 hr rfl (ao (az K (pv 0) ai) ae)) ae)))))),by delta gQ;walk_at "r"⟩
def rq:SQ P w K mg base "strand_rank" kJ TN 2 iK:=λhr=>⟨_,(ak<|aG<|aZ<|ao (gi eG (az K (pv 0) ai) cj)<|ao (aA c2 hr rfl<|ao (az K (az K (pv 0) ai) ai) ae) ae),by delta iK;walk_at "r"⟩
def Ka:SQ P w K mg base "canon" uJ ["some"] 6 uF:=λhr=>⟨_,(ak<|aG<|bD K M.n_tuple<|ID (K:=K) rfl c9 hr rfl M.n_sorted rfl<|ao (cW (cX (osc:=(aq uJ)) (ON:=["some"]) (N:=TN) (k:=1) (VW:=[]) (by decide +kernel) rfl rfl) rfl (ce (K:=K) rfl<|pv 0) (λ_ _ _ _=>(bT 0 (by show(TN:Se Str).Nodup;decide +kernel))) (λ_ _ _ _=>cV)<|λ_ _ _ _=>(aA c8 hr rfl<|ao (pv 0) ae)) ae),by delta uF;walk_at "r"⟩
def wX:SQ P w K mg base "is_whole" qO Tf 0 mv:=λhr=>⟨_,(ak<|aG<|iE (cx K M.n_isinstance (pv 0)<|eN rfl M.n_int lf)<|jc<|Nn<|cx K M.n_isinstance (pv 0)<|eN rfl M.n_bool gH),by delta mv;walk_at "r"⟩
def wY:SQ P w K mg base "left_end" qP Tg 2 mw:=λhr=>⟨_,(ak<|aG<|aZ<|ao (aA c2 hr rfl<|ao (pv 0) ae)<|ao (eK (cL<|aA c1 hr rfl<|ao (pv 0) ae) ai ai) ae),by delta mw;walk_at "r"⟩
def vh:SQ P w K mg base "right_end" oh Tg 3 kx:=λhr=>⟨_,(ak<|aG<|aA c12 hr rfl<|ao (aA c3 hr rfl<|ao (pv 0) ae) ae),by delta kx;walk_at "r"⟩
def wZ:SQ P w K mg base "joint_of" qQ ["ends"] 0 mx:=λhr=>⟨_,(ak<|aG<|bD K M.n_tuple<|aW (bw (K:=K) rfl hr) rfl M.n_sorted boot_sorted<|ao (pv 0) ae),by delta mx;walk_at "r"⟩
def F5:SQ P w K mg base "rising" pS ["things"] 0 qH:=λhr=>⟨_,(ak<|aG<|aW (gG rfl) rfl M.n_all boot_all<|ao (cW (cX (osc:=(aq pS)) (ON:=["things"]) (N:=Fu) (k:=2) (VW:=[]) (by decide +kernel) rfl rfl) rfl (HM (K:=K) rfl rfl rfl rfl M.n_zip (pv 0)<|fN (nU (K:=K) rfl) (pv 0) (ik ai) ii) (λ_ _ _ _=>(ul (K:=K) (n:=2) rfl rfl<|iT (bT 0 (by show(Fu:Se Str).Nodup;decide +kernel))<|iT (bT 1 (by show(Fu:Se Str).Nodup;decide +kernel)) tJ)) (λ_ _ _ _=>cV)<|λ_ _ _ _=>(gi (Pj (K:=K) rfl hr.units) (pv 0)<|pv 1)) ae),by delta qH;delta jv;walk_at "r"⟩
def F6:SQ P w K mg base "is_end" xT Tf 1 qI:=λhr=>⟨_,(ah (bX (PW.pt (jQ (fT (cL (cx K M.n_isinstance (pv 0) (eN rfl M.n_tuple dE)))) (jQ (aU (j9 (K:=K) rfl hr.units) (bF K M.n_len (pv 0)) ai) (jb (fT (cL (aA c0 hr rfl (ao (az K (pv 0) ai) ae)))))))) (ak (aG jP)) bo)
   (ak (aG (iE (aA c11 hr rfl (ao (az K (pv 0) ai) ae)) (jc (mQ (ua (K:=K) rfl) (az K (pv 0) ai) (aZ (ao ai (ao ai ae))) (by with_unfolding_all rfl))))))),by delta qI;walk_at "r"⟩
def w5:SQ P w K mg base "is_joint" nh Tf 2 my:=λhr=>⟨_,(ah (bX (PW.pt (jQ (fT (cL (cx K M.n_isinstance (pv 0) (eN rfl M.n_tuple dE)))) (jb (ig (nS (K:=K) rfl) (bF K M.n_len (pv 0)) (aZ (ao ai (ao ai ae))) (by with_unfolding_all rfl))))) (ak (aG jP)) bo)
   (ak (aG (iE (aW (gG rfl) rfl M.n_all boot_all (ao (cW (cX (osc:=(aq nh)) (ON:=Tf) (N:=TZ) (k:=1) (VW:=[]) (by decide +kernel) rfl rfl) rfl (ce (K:=K) rfl (pv 0)) (λ_ _ _ _=>(bT 0 (by show(TZ:Se Str).Nodup;decide +kernel))) (λ_ _ _ _=>cV) (λ_ _ _ _=>(aA c16 hr rfl (ao (pv 0) ae)))) ae)) (jc (aA c15 hr rfl (ao (pv 0) ae))))))),by delta my;delta gj;walk_at "r"⟩
def o9:SQ P w K mg base "inner_joints" gu Tq 4 gU:=λhr=>⟨_,(ak<|aG<|cW (cX (osc:=(aq gu)) (ON:=Tq) (N:=Fu) (k:=2) (VW:=[]) (by decide +kernel) rfl rfl) rfl (HM (K:=K) rfl rfl rfl rfl M.n_zip (pv 0)<|fN (nU (K:=K) rfl) (pv 0) (ik ai) ii) (λ_ _ _ _=>(ul (K:=K) (n:=2) rfl rfl<|iT (bT 0 (by show(Fu:Se Str).Nodup;decide +kernel))<|iT (bT 1 (by show(Fu:Se Str).Nodup;decide +kernel)) tJ)) (λ_ _ _ _=>cV)<|λ_ _ _ _=>(aA c14 hr rfl<|ao (aZ<|ao (aA c13 hr rfl<|ao (pv 0) ae)<|ao (aA c12 hr rfl<|ao (pv 1) ae) ae) ae)),by delta gU;walk_at "r"⟩
def ou:SQ P w K mg base "strand_joints" iR Rk 5 fZ:=λhr=>⟨_,(ah (aS 1 V6.nd (az K (pv 0) ai))
   (ah (aS 2 V6.nd (aA c12 hr rfl (ao (az K (pv 1) ai) ae)))
   (ah (aS 3 V6.nd (aA c13 hr rfl (ao (az K (pv 1) (ox jT ai)) ae)))
   (ah (aS 4 V6.nd (eK (aU eG (az K (pv 0) ai) cj) (bK (ao (aZ (ao (pv 2) ae)) (ao (aZ (ao (pv 3) ae)) ae))) (bK (ao (aA c14 hr rfl (ao (aZ (ao (pv 2) (ao (pv 3) ae))) ae)) ae))))
   (ak (aG (bP K (aA c18 hr rfl (ao (pv 1) ae)) (pv 4)))))))),by delta fZ;walk_at "r"⟩
def vk:SQ P w K mg base "joints_of" oi ["some","joints","strand"] 6 ky:=λhr=>⟨_,(ah (aS 1 WJ.nd (bK ae))
   (ah (dj Am rfl (ce (K:=K) rfl (pv 0)) (bT 2 WJ.nd) (ak (bO (jV Au B6 B5 (mf (K:=K) rfl rfl) (pv 1) (ao (aA c19 hr rfl (ao (pv 2) ae)) ae)))))
   (ak (aG (bD K M.n_tuple (aW (bw (K:=K) rfl hr) rfl M.n_sorted boot_sorted (ao (pv 1) ae))))))),by delta ky;walk_at "r"⟩
def rz:SQ P w K mg base "ends_beyond" kK ["joints","beyond","joint"] 0 iL:=λhr=>⟨_,(ah (aS 1 WE.nd vE)
   (ah (dj Am rfl (ce (K:=K) rfl (pv 0)) (bT 2 WE.nd) (ah (fU (eK (aU eG (bF K M.n_len (pv 2)) ai) (az K (pv 2) ai) lW) (gC (pv 1) (az K (pv 2) ai) (iW (jL hr))))
   (ak (fU (eK (aU eG (bF K M.n_len (pv 2)) ai) (az K (pv 2) ai) lW) (gC (pv 1) (az K (pv 2) (ox jT ai)) (iW (jL hr)))))))
   (ak (aG (pv 1))))),by delta iL;delta f6;walk_at "r"⟩
def yq:SQ P w K mg base "bead_at" uK TZ 3 nZ:=λhr=>⟨_,(ak<|aG<|eK (aU eG (az K (pv 0) ai) ai) (az K (pv 0) ai)<|aA c3 hr rfl<|ao (az K (pv 0) ai) ae),by delta nZ;walk_at "r"⟩
def F7:SQ P w K mg base "across" uL TZ 0 qK:=λhr=>⟨_,(ak<|aG<|aZ<|ao (az K (pv 0) ai)<|ao (ck nN ai<|az K (pv 0) ai) ae),by delta qK;walk_at "r"⟩
def rQ:SQ P w K mg base "beads_from" mJ ["begin","beyond","beads","here"] 4 jw:=λhr=>⟨_,(ah (aS 2 Wz.nd (bK (ao (aA c22 hr rfl (ao (pv 0) ae)) ae)))
   (ah (aS 3 Wz.nd (ku (jL hr) (pv 1) (aA c23 hr rfl (ao (pv 0) ae)) (λ_ _=>rfl)))
   (ah (mP Am (PW.pt (xj (aU Ki (pv 3) lW) (tI (aU (uk (K:=K) rfl hr.units) (pv 3) (pv 0))))) (ah (bO (cc (pv 2) (aA c22 hr rfl (ao (pv 3) ae))))
   (ak (aS 3 Wz.nd (ku (jL hr) (pv 1) (aA c23 hr rfl (ao (pv 3) ae)) (λ_ _=>rfl))))))
   (ak (aG (bD K M.n_tuple (pv 2))))))),by delta jw;delta gW;walk_at "r"⟩
def F8:SQ P w K mg base "set_of" uM Pr 7 qL:=λhr=>⟨_,(ah (aS 1 Wu.nd (aA c21 hr rfl (ao (pv 0) ae)))
   (ah (tU 2 (cX (osc:=(aq uM)) (ON:=Pr) (N:=["end","beyond"]) (k:=1) (VW:=[1]) (by decide +kernel) rfl rfl) rfl Wu.nd (ce (K:=K) rfl (aW (qy (K:=K) rfl rfl hr) rfl M.n_sorted boot_sorted (ao (pv 1) ae))) (λ_ _ _ _=>(bT 0 (by show(["end","beyond"]:Se Str).Nodup;decide +kernel))) (λ_ _ _ _=>pA (aU tK (ku (jL hr) (pv 1) (pv 0) (λ_ _=>rfl)) lW)) (λ_ _ _ _=>(pv 0)))
   (ah (aS 3 Wu.nd (bK ae))
   (ah (aS 4 Wu.nd vD)
   (ah (dj Am rfl (ce (K:=K) rfl (bP K (pv 2) (aW (qy (K:=K) rfl rfl hr) rfl M.n_sorted boot_sorted (ao (pv 1) ae)))) (bT 5 Wu.nd) (ak (bX (ig (sT (jL hr)) (az K (pv 5) ai) (pv 4) (by with_unfolding_all rfl)) (ah (aS 6 Wu.nd (aA c24 hr rfl (ao (pv 5) (ao (pv 1) ae))))
   (ah (bO (cc (pv 3) (aZ (ao (eK (aU tK (ku (jL hr) (pv 1) (pv 5) (λ_ _=>rfl)) lW) cj cj) (ao (pv 6) ae)))))
   (ak (dj Am rfl (ce (K:=K) rfl (pv 6)) (bT 7 Wu.nd) (ak (fU jP (gC (pv 4) (aA c2 hr rfl (ao (pv 7) ae)) (iW (jL hr))))))))) bo)))
   (ak (aG (aA c10 hr rfl (ao (pv 3) ae))))))))),by delta qL;delta mz;delta jz;delta jy;delta jx;walk_at "r"⟩
def yr:SQ P w K mg base "is_half" pU Tf 3 n4:=λhr=>⟨_,(ah (bX (PW.pt (jQ (fT (cL (cx K M.n_isinstance (pv 0) (eN rfl M.n_tuple dE)))) (jb (ig (nS (K:=K) rfl) (bF K M.n_len (pv 0)) (aZ (ao ai (ao ai ae))) (by with_unfolding_all rfl))))) (ak (aG jP)) bo)
   (ak (aG (iE (aW (gG rfl) rfl M.n_all boot_all (ao (cW (cX (osc:=(aq pU)) (ON:=Tf) (N:=["joint"]) (k:=1) (VW:=[]) (by decide +kernel) rfl rfl) rfl (ce (K:=K) rfl (pv 0)) (λ_ _ _ _=>(bT 0 (by show(["joint"]:Se Str).Nodup;decide +kernel))) (λ_ _ _ _=>cV) (λ_ _ _ _=>(aA c17 hr rfl (ao (pv 0) ae)))) ae)) (jc (aA c15 hr rfl (ao (pv 0) ae))))))),by delta n4;delta iw;walk_at "r"⟩
def Kb:SQ P w K mg base "sizes" uN TX 0 uH:=λhr=>⟨_,(ak<|aG<|bD K M.n_tuple<|aW (bw (K:=K) rfl hr) rfl M.n_sorted boot_sorted<|ao (cW (cX (osc:=(aq uN)) (ON:=TX) (N:=["joint"]) (k:=1) (VW:=[]) (by decide +kernel) rfl rfl) rfl (ce (K:=K) rfl<|pv 0) (λ_ _ _ _=>(bT 0 (by show(["joint"]:Se Str).Nodup;decide +kernel))) (λ_ _ _ _=>cV)<|λ_ _ _ _=>(bF K M.n_len<|pv 0)) ae),by delta uH;delta lE;walk_at "r"⟩
def yt:SQ P w K mg base "ends_of" uO ["joints","ends","joint"] 0 n5:=λhr=>⟨_,(ah (aS 1 WO.nd (bK ae))
   (ah (dj Am rfl (ce (K:=K) rfl (pv 0)) (bT 2 WO.nd) (ak (bO (jV Au B6 B5 (mf (K:=K) rfl rfl) (pv 1) (ao (pv 2) ae)))))
   (ak (aG (aW (bw (K:=K) rfl hr) rfl M.n_sorted boot_sorted (ao (pv 1) ae)))))),by delta n5;delta kz;walk_at "r"⟩
def yu:SQ P w K mg base "is_deed" pV Ps 4 n6:=λhr=>⟨_,(ah (bX (PW.pt (jQ (fT (cL (cx K M.n_isinstance (pv 0) (eN rfl M.n_tuple dE)))) (jQ (aU (uk (K:=K) rfl hr.units) (bF K M.n_len (pv 0)) ai) (jb (fT (cL (aW (gG rfl) rfl M.n_all boot_all (ao (cW (cX (osc:=(aq pV)) (ON:=Ps) (N:=["half"]) (k:=1) (VW:=[]) (by decide +kernel) rfl rfl) rfl (ce (K:=K) rfl (pv 0)) (λ_ _ _ _=>(bT 0 (by show(["half"]:Se Str).Nodup;decide +kernel))) (λ_ _ _ _=>cV) (λ_ _ _ _=>(aA c26 hr rfl (ao (pv 0) ae)))) ae)))))))) (ak (aG jP)) bo)
   (ah (aS 1 WK.nd (az K (pv 0) ai))
   (ah (aS 2 WK.nd (az K (pv 0) ai))
   (ah (aS 3 WK.nd (aA c28 hr rfl (ao (pv 1) ae)))
   (ah (bX (PW.pt (jQ (fT (cL (aA c15 hr rfl (ao (pv 3) ae)))) (jb (aU (uk (K:=K) rfl hr.units) (pv 3) (aA c28 hr rfl (ao (pv 2) ae)))))) (ak (aG jP)) bo)
   (ak (aG (iE (mQ (Pk (K:=K) rfl hr.units) (aZ (ao (aA c27 hr rfl (ao (pv 1) ae)) (ao (aA c27 hr rfl (ao (pv 2) ae)) ae))) (Rb rfl M.c_FORMS) (by with_unfolding_all rfl)) (jc (gi (uk (K:=K) rfl hr.units) (pv 1) (pv 2))))))))))),by delta n6;delta iy;walk_at "r"⟩
def mO:SQ P w K mg base "refuse_undoable" dZ Up 5 eS:=λhr=>⟨_,(ak<|bX (PW.pt<|jQ (fT<|cL<|aA c29 hr rfl<|ao (pv 1) ae)<|jb<|fT<|cL<|aW (gG rfl) rfl M.n_all boot_all<|ao (cW (cX (osc:=(aq dZ)) (ON:=Up) (N:=["joint","joints"]) (k:=1) (VW:=[0]) (by decide +kernel) rfl rfl) rfl (ce (K:=K) rfl<|az K (pv 1) ai) (λ_ _ _ _=>(bT 0 (by show(["joint","joints"]:Se Str).Nodup;decide +kernel))) (λ_ _ _ _=>cV)<|λ_ _ _ _=>(mQ (OR (K:=K) rfl hr.units) (pv 0) (pv 1)<|by with_unfolding_all rfl)) ae) (ak Gc) bo),by delta eS;delta cR;walk_at "r"⟩
def pe:SQ P w K mg base "put_in_place" iC Pt 0 gX:=λhr=>⟨_,(ah (tU 2 (cX (osc:=(aq iC)) (ON:=Pt) (N:=["joint","deed"]) (k:=1) (VW:=[1]) (by decide +kernel) rfl rfl) rfl WM.nd (ce (K:=K) rfl (pv 0)) (λ_ _ _ _=>(bT 0 (by show(["joint","deed"]:Se Str).Nodup;decide +kernel))) (λ_ _ _ _=>pA (ig (sO (K:=K) rfl hr.units) (pv 0) (az K (pv 1) ai) (by with_unfolding_all rfl))) (λ_ _ _ _=>(pv 0)))
   (ak (aG (bD K M.n_tuple (aW (bw (K:=K) rfl hr) rfl M.n_sorted boot_sorted (ao (ck (jj (K:=K) rfl) (pv 2) (eI (gJ (K:=K) rfl rfl) rfl M.n_list dC (ao (az K (pv 1) ai) ae))) ae)))))),by delta gX;delta dO;delta dN;walk_at "r"⟩
def Mn:SQ P w K mg base "done" IT ["some","deed","joints"] 8 xS:=λhr=>⟨_,(ah (aS 2 W1.nd (aA c20 hr rfl (ao (pv 0) ae)))
   (ah (bO (aA c30 hr rfl (ao (pv 2) (ao (pv 1) ae))))
   (ak (aG (aA c25 hr rfl (ao (aA c31 hr rfl (ao (pv 2) (ao (pv 1) ae))) ae)))))),by delta xS;walk_at "r"⟩
def w6:SQ P w K mg base "_law_flow" xU UA 0 mB:=λhr=>⟨_,(ak<|aG<|Ll<|wj (eI (gJ (K:=K) rfl rfl) rfl M.n_list dC<|ao (pv 0) ae) (wj ai (wj ai (wj ai (wj ai Lk rfl) rfl) rfl) rfl) rfl),by delta mB;walk_at "r"⟩
def w9:SQ P w K mg base "_law_pick" xV Rl 0 jA:=λhr=>⟨_,(ah (bX (PW.pt (xj (aU eG (az K (pv 0) ai) ai) (tI (aU G8 (az K (pv 0) ai) (bF K M.n_len (az K (pv 0) ai)))))) (ah (aS 2 WS.nd (az K (az K (pv 0) ai) (az K (pv 0) ai)))
   (ah (fU (bP K (az K (pv 0) ai) ai) (gC (pv 0) ai set_list))
   (ak (bX (aU Qn (pv 2) (ck Nv ai ai)) (ak (fU (pv 2) (gC (pv 0) ai set_list))) (ak (fU (ck jS (bP K (bP K (ck lh (az K (pv 0) ai) ai) (ck jS (pv 2) ai)) ai) ai) (gC (pv 0) ai set_list))))))) bo)
   (ah (bX (aU P9 (az K (pv 0) ai) ai) (ah (aS 3 WS.nd (ck jS (az K (pv 0) ai) (pv 1)))
   (ah (fU (ck pq (az K (pv 0) ai) (pv 1)) (gC (pv 0) ai set_list))
   (ak (aG (pv 3))))) bo)
   (ah (fU (bP K (az K (pv 0) ai) ai) (gC (pv 0) ai set_list))
   (ah (fU (ck jS (bP K (bP K (ck lh (az K (pv 0) ai) ai) ai) (az K (pv 0) ai)) ai) (gC (pv 0) ai set_list))
   (ak (aG (ck jS (ck pq (ck jS (ck lh (bP K (ck jS (az K (pv 0) ai) ai) ai) (bP K (ck pq (az K (pv 0) ai) ai) ai)) ai) ai) (pv 1)))))))),by delta jA;walk_at "r"⟩
def rA:SQ P w K mg base "_law_letters" lG Ua 1 iN:=λhr=>⟨_,(ak<|aG<|jV Ch PySem.F.slot_str_join PySem.F.type_str_join Kt cj<|ao (cW (cX (osc:=(aq lG)) (ON:=Ua) (N:=["_law_k","_law_flow_here"]) (k:=1) (VW:=[0]) (by decide +kernel) rfl rfl) rfl (eE rfl M.n_range<|ao (pv 1) ae) (λ_ _ _ _=>(bT 0 (by show(["_law_k","_law_flow_here"]:Se Str).Nodup;decide +kernel))) (λ_ _ _ _=>cV)<|λ_ _ _ _=>(az K cj<|aA c34 hr rfl<|ao (pv 1)<|ao ai ae)) ae),by delta iN;walk_at "r"⟩
def xf:SQ P w K mg base "_law_name" xW Rm 2 mD:=λhr=>⟨_,(ah (bX (aU (j9 (K:=K) rfl hr.units) (pv 1) cj) (ak (aG (bP K (pv 1) (aA c35 hr rfl (ao (pv 0) (ao (bP K ai (aA c34 hr rfl (ao (pv 0) (ao ai ae)))) ae)))))) bo)
   (@ah _ _ _ _ _ (bX (aU eG (aA c34 hr rfl (ao (pv 0) (ao ai ae))) ai) (@ah _ _ _ _ _ (@aS _ _ _ _ 2 _ _ WT.nd (@bK _ _ _ _ (@tT _ _ _ (by rfl))) (by rfl) (by first|exact Or.inl rfl|exact Or.inr rfl) (by first|exact .inl rfl|exact .inr rfl) (by rfl) (by rfl) (by rfl))
   (ah (aS 2 WT.nd (bP K (pv 2) (@bK _ _ _ _ (@tT _ _ _ (by rfl)))))
   (ak (aG (az K (pv 2) (aA c34 hr rfl (ao (pv 0) (ao ai ae)))))))) bo)
   (ak (aG (aA c35 hr rfl (ao (pv 0) (ao (bP K ai (aA c34 hr rfl (ao (pv 0) (ao ai ae)))) ae))))))),by delta mD;walk_at "r"⟩
def vm:SQ P w K mg base "_law_names" uP Ro 3 iz:=λhr=>⟨_,(ah (aS 2 V7.nd cj)
   (ah (bX (aU eG (aA c34 hr rfl (ao (pv 0) (ao ai ae))) ai) (ak (aS 2 V7.nd (aA c35 hr rfl (ao (pv 0) (ao (bP K ai (aA c34 hr rfl (ao (pv 0) (ao ai ae)))) ae))))) bo)
   (ah (aS 3 V7.nd (bK ae))
   (ah (dj Am rfl (eE rfl M.n_range (ao (pv 1) ae)) (bT 4 V7.nd) (ah (aS 5 V7.nd (aA c36 hr rfl (ao (pv 0) (ao (pv 2) ae))))
   (ah (aS 6 V7.nd ai)
   (ah (mP Am (ig (ua (K:=K) rfl) (pv 5) (pv 3) (by with_unfolding_all rfl)) (ah (aS 5 V7.nd (ck lh (az K cj (ck jS (pv 6) ai)) (bP K ai (ck pq (pv 6) ai))))
   (ak (aS 6 V7.nd (bP K (pv 6) ai)))))
   (ak (bO (cc (pv 3) (pv 5))))))))
   (ak (aG (pv 3))))))),by delta iz;walk_at "r"⟩
def ph:SQ P w K mg base "_law_shuffled" mK Rq 1 gZ:=λhr=>⟨_,(ah (aS 2 WG.nd (eI (gJ (K:=K) rfl rfl) rfl M.n_list dC (ao (pv 1) ae)))
   (ah (aS 3 WG.nd (bK ae))
   (ah (mP Am (aU (j9 (K:=K) rfl hr.units) (pv 2) (bK ae)) (ak (bO (cc (pv 3) (jV Au Cz Cy qc (pv 2) (ao (aA c34 hr rfl (ao (pv 0) (ao (bF K M.n_len (pv 2)) ae))) ae))))))
   (ak (aG (pv 3)))))),by delta gZ;walk_at "r"⟩
def xg:SQ P w K mg base "_law_line" uQ IR 2 mF:=λhr=>⟨_,(ak<|aG<|bD K M.n_tuple<|cW (cX (osc:=(aq uQ)) (ON:=IR) (N:=["_law_name_here","_law_flow_here"]) (k:=1) (VW:=[0]) (by decide +kernel) rfl rfl) rfl (ce (K:=K) rfl<|aA c38 hr rfl<|ao (pv 0)<|ao (pv 1) ae) (λ_ _ _ _=>(bT 0 (by show(["_law_name_here","_law_flow_here"]:Se Str).Nodup;decide +kernel))) (λ_ _ _ _=>cV)<|λ_ _ _ _=>(bP K (ck lh cj<|aA c34 hr rfl<|ao (pv 1)<|ao ai ae)<|pv 0)),by delta mF;walk_at "r"⟩
def yw:SQ P w K mg base "_law_set" IU Rr 3 lF:=λhr=>⟨_,(ah (aS 3 WI.nd (bK ae))
   (ah (aS 4 WI.nd (bK ae))
   (ah (dj Am rfl (ce (K:=K) rfl (aA c39 hr rfl (ao (pv 0) (ao (pv 1) ae)))) (bT 5 WI.nd) (ah (bO (cc (pv 4) (pv 5)))
   (ak (bX (aU eG (aA c34 hr rfl (ao (pv 0) (ao ai ae))) ai) (ah (bO (cc (pv 3) (aZ (ao cj (ao (bD K M.n_tuple (pv 4)) ae)))))
   (ak (aS 4 WI.nd (bK ae)))) (ak (bX (PW.pt (xj (cL (pv 2)) (tI (aU eG (aA c34 hr rfl (ao (pv 0) (ao ai ae))) ai)))) (ah (bO (cc (pv 3) (aZ (ao cj (ao (bD K M.n_tuple (pv 4)) ae)))))
   (ak (aS 4 WI.nd (bK ae)))) bo))))))
   (ah (bX (aU (j9 (K:=K) rfl hr.units) (pv 4) (bK ae)) (ak (bO (cc (pv 3) (aZ (ao cj (ao (bD K M.n_tuple (pv 4)) ae)))))) bo)
   (ak (aG (bD K M.n_tuple (pv 3)))))))),by delta lF;walk_at "r"⟩
def vn{n:Nat}{gs:Se D->Sf Rz}(M:Md K mg)(c41:Wy P w K mg base "_law_alike" n UB (SR K gs)):SQ P w K mg base "_law_alike" pW UB n (kC gs):=λhr=>⟨_,(ah (bX (aU tK (pv 1) lW) (ak (aG (gi tK (pv 0) lW))) bo)
   (ah (bX (PW.pt (jQ (cL (cx K M.n_isinstance (pv 1) (eN rfl M.n_bool gH))) (jb (cL (cx K M.n_isinstance (pv 0) (eN rfl M.n_bool gH)))))) (ak (aG (iE (cx K M.n_isinstance (pv 1) (eN rfl M.n_bool gH)) (iE (cx K M.n_isinstance (pv 0) (eN rfl M.n_bool gH)) (jc (gi eG (pv 0) (pv 1))))))) bo)
   (ah (bX (cL (cx K M.n_isinstance (pv 1) (eN rfl M.n_int lf))) (ak (aG (iE (cx K M.n_isinstance (pv 0) (eN rfl M.n_int lf)) (jc (gi eG (pv 0) (pv 1)))))) bo)
   (ah (bX (cL (cx K M.n_isinstance (pv 1) (eN rfl M.n_str nP))) (ak (aG (iE (cx K M.n_isinstance (pv 0) (eN rfl M.n_str nP)) (jc (gi eG (pv 0) (pv 1)))))) bo)
   (ah (bX (PW.pt (jQ (aU (j9 (K:=K) rfl hr.units) (cx K M.n_isinstance (pv 1) (eN rfl M.n_tuple dE)) (cx K M.n_isinstance (pv 0) (eN rfl M.n_tuple dE))) (jb (aU (j9 (K:=K) rfl hr.units) (cx K M.n_isinstance (pv 1) (eN rfl M.n_list dC)) (cx K M.n_isinstance (pv 0) (eN rfl M.n_list dC)))))) (ak (aG jP)) bo)
   (ak (aG (iE (gi eG (bF K M.n_len (pv 0)) (bF K M.n_len (pv 1))) (jc (aW (gG rfl) rfl M.n_all boot_all (ao (cW (cX (osc:=(aq pW)) (ON:=UB) (N:=["_law_k","_law_found","_law_due"]) (k:=1) (VW:=[0,1]) (by decide +kernel) rfl rfl) rfl (eE rfl M.n_range (ao (bF K M.n_len (pv 1)) ae)) (λ_ _ _ _=>(bT 0 (by show(["_law_k","_law_found","_law_due"]:Se Str).Nodup;decide +kernel))) (λ_ _ _ _=>cV) (λ_ _ _ _=>(aA c41 hr rfl (ao (az K (pv 1) (pv 0)) (ao (az K (pv 2) (pv 0)) ae)) (Qa _)))) ae))))))))))),by delta kC;walk_at "r"⟩
def xh:SQ P w K mg base "_law_ends" xX Ft 0 mG:=λhr=>⟨_,(ah (bX (aU eG (az K (pv 0) ai) cj) (ak (aG (aZ (ao (aZ (ao (fN (nU (K:=K) rfl) (pv 0) (ik ai) ii) (ao ai ae))) (ao (aZ (ao (fN (nU (K:=K) rfl) (pv 0) (ik ai) ii) (ao ai ae))) ae))))) bo)
   (ak (aG (aZ (ao (aZ (ao (pv 0) (ao ai ae))) (ao (aZ (ao (pv 0) (ao ai ae))) ae)))))),by delta mG;walk_at "r"⟩
def rR:SQ P w K mg base "_law_joints" ni Pu 1 gn:=λhr=>⟨_,(ah (aS 1 Wv.nd (bK ae))
   (ah (dj Am rfl (ce (K:=K) rfl (pv 0)) (ul (K:=K) (n:=2) rfl rfl (iT (bT 2 Wv.nd) (iT (bT 3 Wv.nd) tJ))) (ah (tU 4 (cX (osc:=(aq ni)) (ON:=Pu) (N:=Ft) (k:=1) (VW:=[]) (by decide +kernel) rfl rfl) rfl Wv.nd (ce (K:=K) rfl (pv 3)) (λ_ _ _ _=>(bT 0 (by show(Ft:Se Str).Nodup;decide +kernel))) (λ_ _ _ _=>cV) (λ_ _ _ _=>(aA c42 hr rfl (ao (pv 0) ae))))
   (ah (dj Am rfl (eE rfl M.n_range (ao (ck nN (bF K M.n_len (pv 4)) ai) ae)) (bT 5 Wv.nd) (ak (bO (cc (pv 1) (bD K M.n_tuple (aW (bw (K:=K) rfl hr) rfl M.n_sorted boot_sorted (ao (bK (ao (az K (az K (pv 4) (pv 5)) ai) (ao (az K (az K (pv 4) (bP K (pv 5) ai)) ai) ae))) ae)))))))
   (ak (bX (aU eG (pv 2) cj) (ak (bO (cc (pv 1) (bD K M.n_tuple (aW (bw (K:=K) rfl hr) rfl M.n_sorted boot_sorted (ao (bK (ao (az K (az K (pv 4) (ox jT ai)) ai) (ao (az K (az K (pv 4) ai) ai) ae))) ae)))))) (ah (bO (cc (pv 1) (aZ (ao (az K (az K (pv 4) ai) ai) ae))))
   (ak (bO (cc (pv 1) (aZ (ao (az K (az K (pv 4) (ox jT ai)) ai) ae)))))))))))
   (ak (aG (bD K M.n_tuple (aW (bw (K:=K) rfl hr) rfl M.n_sorted boot_sorted (ao (pv 1) ae))))))),by delta gn;walk_at "r"⟩
def rS:SQ P w K mg base "_law_behind" nj IS 0 jC:=λhr=>⟨_,(ak<|aG<|bD K M.n_tuple<|aW (bw (K:=K) rfl hr) rfl M.n_sorted boot_sorted<|ao (ck (jj (K:=K) rfl) (cW (cX (osc:=(aq nj)) (ON:=IS) (N:=["_law_joint","_law_deed"]) (k:=1) (VW:=[1]) (by decide +kernel) rfl rfl) rfl (ce (K:=K) rfl<|pv 0) (λ_ _ _ _=>(bT 0 (by show(["_law_joint","_law_deed"]:Se Str).Nodup;decide +kernel))) (λ_ _ _ _=>pA<|ig (sO (K:=K) rfl hr.units) (pv 0) (az K (pv 1) ai)<|by with_unfolding_all rfl)<|λ_ _ _ _=>(pv 0))<|eI (gJ (K:=K) rfl rfl) rfl M.n_list dC<|ao (az K (pv 1) ai) ae) ae),by delta jC;delta eV;delta eU;walk_at "r"⟩
def vo:SQ P w K mg base "_law_three" uR Rv 0 kD:=λhr=>⟨_,(ah (aS 2 Wo.nd (pv 0))
   (ah (aS 3 Wo.nd (pv 1))
   (ah (bX (aU eG (bF K M.n_len (pv 0)) ai) (ah (aS 2 Wo.nd (pv 1))
   (ak (aS 3 Wo.nd (pv 0)))) bo)
   (ah (aS 4 Wo.nd (bK ae))
   (ah (dj Am rfl (eE rfl M.n_range (ao ai ae)) (bT 5 Wo.nd) (ah (aS 6 Wo.nd (bK (ao (bD K M.n_tuple (aW (bw (K:=K) rfl hr) rfl M.n_sorted boot_sorted (ao (bK (ao (az K (pv 2) (pv 5)) (ao (az K (pv 3) ai) ae))) ae))) (ao (aZ (ao (az K (pv 2) (ck nN ai (pv 5))) ae)) ae))))
   (ak (bO (cc (pv 4) (aZ (ao (aZ (ao (pv 0) (ao (pv 1) ae))) (ao (bD K M.n_tuple (aW (bw (K:=K) rfl hr) rfl M.n_sorted boot_sorted (ao (pv 6) ae))) ae))))))))
   (ak (aG (pv 4)))))))),by delta kD;delta fG;walk_at "r"⟩
def vp:SQ P w K mg base "_law_deeds" uS Rw 1 kG:=λhr=>⟨_,(ah (aS 1 Wt.nd (bK ae))
   (ah (dj Am rfl (eE rfl M.n_range (ao (bF K M.n_len (pv 0)) ae)) (bT 2 Wt.nd) (ah (aS 3 Wt.nd (az K (pv 0) (pv 2)))
   (ah (bX (aU (km (K:=K) rfl hr.units) (bF K M.n_len (pv 3)) ai) (ak (bO (cc (pv 1) (aZ (ao (aZ (ao (pv 3) ae)) (ao (aZ (ao (aZ (ao (az K (pv 3) ai) ae)) (ao (aZ (ao (az K (pv 3) ai) ae)) ae))) ae)))))) bo)
   (ak (dj Am rfl (ce (K:=K) rfl (fN (um (K:=K) rfl) (pv 0) (ik (ck (jj (K:=K) rfl) (pv 2) ai)) ii)) (bT 4 Wt.nd) (ak (bX (aU (km (K:=K) rfl hr.units) (ck (jj (K:=K) rfl) (bF K M.n_len (pv 3)) (bF K M.n_len (pv 4))) ai) (ak (bO (cc (pv 1) (aZ (ao (aZ (ao (pv 3) (ao (pv 4) ae))) (ao (aZ (ao (bD K M.n_tuple (aW (bw (K:=K) rfl hr) rfl M.n_sorted boot_sorted (ao (ck (jj (K:=K) rfl) (pv 3) (pv 4)) ae))) ae)) ae)))))) (ak (bX (aU (km (K:=K) rfl hr.units) (ck (jj (K:=K) rfl) (bF K M.n_len (pv 3)) (bF K M.n_len (pv 4))) ai) (ak (bO (jV Au B6 B5 (mf (K:=K) rfl rfl) (pv 1) (ao (aA c46 hr rfl (ao (pv 3) (ao (pv 4) ae))) ae)))) (ak (dj Am rfl (eE rfl M.n_range (ao ai ae)) (bT 5 Wt.nd) (ah (aS 6 Wt.nd (bK (ao (bD K M.n_tuple (aW (bw (K:=K) rfl hr) rfl M.n_sorted boot_sorted (ao (bK (ao (az K (pv 3) ai) (ao (az K (pv 4) (pv 5)) ae))) ae))) (ao (bD K M.n_tuple (aW (bw (K:=K) rfl hr) rfl M.n_sorted boot_sorted (ao (bK (ao (az K (pv 3) ai) (ao (az K (pv 4) (ck nN ai (pv 5))) ae))) ae))) ae))))
   (ak (bO (cc (pv 1) (aZ (ao (aZ (ao (pv 3) (ao (pv 4) ae))) (ao (bD K M.n_tuple (aW (bw (K:=K) rfl hr) rfl M.n_sorted boot_sorted (ao (pv 6) ae))) ae))))))))))))))))))
   (ak (aG (aW (bw (K:=K) rfl hr) rfl M.n_sorted boot_sorted (ao (pv 1) ae)))))),by delta kG;delta iP;delta dW;delta iO;walk_at "r"⟩
def pi:SQ P w K mg base "_law_one_deed" oj Rx 2 hW:=λhr=>⟨_,(ah (aS 2 WD.nd (eI (gJ (K:=K) rfl rfl) rfl M.n_list dC (ao (pv 1) ae)))
   (ah (aS 3 WD.nd (bK (ao (jV Au Cz Cy qc (pv 2) (ao (aA c34 hr rfl (ao (pv 0) (ao (bF K M.n_len (pv 2)) ae))) ae)) ae)))
   (ah (bX (aU (j9 (K:=K) rfl hr.units) (pv 2) (bK ae)) (ak (bO (cc (pv 3) (jV Au Cz Cy qc (pv 2) (ao (aA c34 hr rfl (ao (pv 0) (ao (bF K M.n_len (pv 2)) ae))) ae))))) bo)
   (ah (aS 4 WD.nd (aA c45 hr rfl (ao (bD K M.n_tuple (aW (bw (K:=K) rfl hr) rfl M.n_sorted boot_sorted (ao (pv 3) ae))) ae)))
   (ak (aG (az K (pv 4) (aA c34 hr rfl (ao (pv 0) (ao (bF K M.n_len (pv 4)) ae)))))))))),by delta hW;walk_at "r"⟩
def rT:SQ P w K mg base "_law_walked" qR RA 0 jF:=λhr=>⟨_,(ah (aS 2 WA.nd (bK ae))
   (ah (aS 3 WA.nd (pv 1))
   (ak (mP Am (cL jP) (ah (bO (cc (pv 2) (bP K (ck lh cj (az K (pv 3) ai)) (az K (pv 3) ai))))
   (ah (aS 4 WA.nd (ku (jL hr) (pv 0) (aZ (ao (az K (pv 3) ai) (ao (ck nN ai (az K (pv 3) ai)) ae))) (λ_ _=>rfl)))
   (ah (bX (aU (km (K:=K) rfl hr.units) (bF K M.n_len (pv 4)) ai) (ak (aG (aZ (ao cj (ao (bD K M.n_tuple (pv 2)) ae))))) bo)
   (ah (aS 3 WA.nd (az K (pv 4) (eI EB rfl M.n_int lf (ao (gi (km (K:=K) rfl hr.units) (az K (pv 4) ai) (aZ (ao (az K (pv 3) ai) (ao (ck nN ai (az K (pv 3) ai)) ae)))) ae))))
   (ak (bX (aU (km (K:=K) rfl hr.units) (pv 3) (pv 1)) (ak (aG (aZ (ao cj (ao (bD K M.n_tuple (pv 2)) ae))))) bo)))))))))),by delta jF;delta ia;walk_at "r"⟩
def vq:SQ P w K mg base "_law_canon" pY Pv 1 kI:=λhr=>⟨_,(ah (aS 1 V8.nd vE)
   (ah (dj Am rfl (ce (K:=K) rfl (pv 0)) (bT 2 V8.nd) (ak (dj Am rfl (ce (K:=K) rfl (pv 2)) (bT 3 V8.nd) (ak (fU (pv 2) (gC (pv 1) (pv 3) (iW (jL hr))))))))
   (ah (aS 4 V8.nd (aW (bw (K:=K) rfl hr) rfl M.n_sorted boot_sorted (ao (cW (cX (osc:=(aq pY)) (ON:=Pv) (N:=["_law_joint"]) (k:=1) (VW:=[]) (by decide +kernel) rfl rfl) rfl (ce (K:=K) rfl (pv 0)) (λ_ _ _ _=>(bT 0 (by show(["_law_joint"]:Se Str).Nodup;decide +kernel))) (λ_ _ _ _=>pA (aU (km (K:=K) rfl hr.units) (bF K M.n_len (pv 0)) ai)) (λ_ _ _ _=>(az K (pv 0) ai))) ae)))
   (ah (aS 5 V8.nd vD)
   (ah (aS 6 V8.nd (bK ae))
   (ah (dj Am rfl (ce (K:=K) rfl (bP K (pv 4) (aW (bw (K:=K) rfl hr) rfl M.n_sorted boot_sorted (ao (eI (xJ (K:=K) rfl rfl) rfl M.n_list dC (ao (pv 1) ae)) ae)))) (bT 3 V8.nd) (ak (bX (ig (sT (jL hr)) (az K (pv 3) ai) (pv 5) (by with_unfolding_all rfl)) (ah (bO (cc (pv 6) (aA c48 hr rfl (ao (pv 1) (ao (pv 3) ae)))))
   (ak (dj Am rfl (ce (K:=K) rfl (az K (az K (pv 6) (ox jT ai)) ai)) (bT 7 V8.nd) (ak (fU jP (gC (pv 5) (jV Ch PySem.F.slot_str_strip PySem.F.type_str_strip Iu (pv 7) (ao cj ae)) (iW (jL hr)))))))) bo)))
   (ak (aG (bD K M.n_tuple (pv 6)))))))))),by delta kI;delta iQ;delta fL;delta fK;delta fJ;delta fI;delta fH;walk_at "r"⟩
def PY:SQ P w K mg base "law" Pw RB 9 IQ:=λhr=>⟨_,(ah (aS 1 Ws.nd (aA c33 hr rfl (ao (pv 0) ae)))
   (ah (aS 2 Ws.nd (bP K ai (aA c34 hr rfl (ao (pv 1) (ao ai ae)))))
   (ah (bX (aU (km (K:=K) rfl hr.units) (aA c34 hr rfl (ao (pv 1) (ao ai ae))) ai) (ak (aS 2 Ws.nd (bP K ai (aA c34 hr rfl (ao (pv 1) (ao ai ae)))))) bo)
   (ah (aS 3 Ws.nd (Kx c40 hr rfl (ao (pv 1) (ao (aA c37 hr rfl (ao (pv 1) (ao (pv 2) ae))) ae))))
   (ah (aS 4 Ws.nd (aA c43 hr rfl (ao (pv 3) ae)))
   (ah (aS 5 Ws.nd (pv 3))
   (ah (aS 6 Ws.nd (bK ae))
   (ah (aS 7 Ws.nd (bK ae))
   (ah (dj Am rfl (eE rfl M.n_range (ao (bP K ai (aA c34 hr rfl (ao (pv 1) (ao ai ae)))) ae)) (bT 8 Ws.nd) (ah (bO (cc (pv 6) (aA c47 hr rfl (ao (pv 1) (ao (pv 4) ae)))))
   (ah (aS 4 Ws.nd (aA c44 hr rfl (ao (pv 4) (ao (az K (pv 6) (ox jT ai)) ae))))
   (ah (aS 5 Ws.nd (aA c32 hr rfl (ao (pv 5) (ao (az K (pv 6) (ox jT ai)) ae))))
   (ah (bO (cc (pv 7) (pv 5)))
   (ak (bX (fT (cL (aA c41 hr rfl (ao (pv 5) (ao (aA c49 hr rfl (ao (pv 4) ae)) ae))))) (ak (aG jP)) bo)))))))
   (ak (aG (aA c41 hr rfl (ao (aA c32 hr rfl (ao (pv 3) (ao (az K (pv 6) ai) ae))) (ao (az K (pv 7) ai) ae)))))))))))))),by delta IQ;delta pQ;walk_at "r"⟩
end
set_option maxHeartbeats 0 in
def all_mk{l:PySem.W.OpenLaw}{w:Sx}{K:Ab}{h:Sv}{mg:Str->Sf Sh}{fa:Sk}(X:K.In h)(G:h.Ns mainGlobals mg)(hfa:mg "law"=some (.ref fa))
  (h1:FH K "is_name" pR)(h2:FH K "is_turned" n9)(h3:FH K "name_of" uI)(h4:FH K "mirrored" og)(h5:FH K "turned_beads" gr)(h6:FH K "canon_open" mH)(h7:FH K "first_place" iB)(h8:FH K "canon_ring" mI)(h9:FH K "canon_strand" jG)(h10:FH K "strand_rank" kJ)(h11:FH K "canon" uJ)(h12:FH K "is_whole" qO)(h13:FH K "left_end" qP)(h14:FH K "right_end" oh)(h15:FH K "joint_of" qQ)(h16:FH K "rising" pS)(h17:FH K "is_end" xT)(h18:FH K "is_joint" nh)(h19:FH K "inner_joints" gu)(h20:FH K "strand_joints" iR)(h21:FH K "joints_of" oi)(h22:FH K "ends_beyond" kK)(h23:FH K "bead_at" uK)(h24:FH K "across" uL)(h25:FH K "beads_from" mJ)(h26:FH K "set_of" uM)(h27:FH K "is_half" pU)(h28:FH K "sizes" uN)(h29:FH K "ends_of" uO)(h30:FH K "is_deed" pV)(h31:FH K "refuse_undoable" dZ)(h32:FH K "put_in_place" iC)(h33:FH K "done" IT)(h34:FH K "_law_flow" xU)(h35:FH K "_law_pick" xV)(h36:FH K "_law_letters" lG)(h37:FH K "_law_name" xW)(h38:FH K "_law_names" uP)(h39:FH K "_law_shuffled" mK)(h40:FH K "_law_line" uQ)(h41:Yu K "_law_set" IU [.bool true])(h42:FH K "_law_alike" pW)(h43:FH K "_law_ends" xX)(h44:FH K "_law_joints" ni)(h45:FH K "_law_behind" nj)(h46:FH K "_law_three" uR)(h47:FH K "_law_deeds" uS)(h48:FH K "_law_one_deed" oj)(h49:FH K "_law_walked" qR)(h50:FH K "_law_canon" pY)(h51:FH K "law" Pw){ct_LETTERS:Tok}(cv_LETTERS:PySem.W.nsIn K mainGlobals "LETTERS"=some (some<|.str "abcdefghijklmnopqrstuvwxyz" ct_LETTERS)){ct_LONGEST_NAME:Tok}(cv_LONGEST_NAME:PySem.W.nsIn K mainGlobals "LONGEST_NAME"=some (some<|.int 6 ct_LONGEST_NAME)){cA_FORMS:Sk}(ca_FORMS:PySem.W.nsIn K mainGlobals "FORMS"=some (some<|.ref cA_FORMS))(cg_FORMS:GV K (.ref cA_FORMS) (.tup [.tup [.tup [.int 2],.tup [.int 1,.int 1]],.tup [.tup [.int 1,.int 1],.tup [.int 2]],.tup [.tup [.int 2,.int 2],.tup [.int 2,.int 2]],.tup [.tup [.int 1,.int 2],.tup [.int 1,.int 2]]]))
  (z_all:PySem.W.nsIn K mainGlobals "all"=some none) (z_bool:PySem.W.nsIn K mainGlobals "bool"=some none) (z_int:PySem.W.nsIn K mainGlobals "int"=some none) (z_isinstance:PySem.W.nsIn K mainGlobals "isinstance"=some none) (z_len:PySem.W.nsIn K mainGlobals "len"=some none) (z_list:PySem.W.nsIn K mainGlobals "list"=some none) (z_min:PySem.W.nsIn K mainGlobals "min"=some none) (z_range:PySem.W.nsIn K mainGlobals "range"=some none) (z_reversed:PySem.W.nsIn K mainGlobals "reversed"=some none) (z_sorted:PySem.W.nsIn K mainGlobals "sorted"=some none) (z_str:PySem.W.nsIn K mainGlobals "str"=some none) (z_tuple:PySem.W.nsIn K mainGlobals "tuple"=some none) (z_zip:PySem.W.nsIn K mainGlobals "zip"=some none) :
  ∃fd:FuncData,(∀(s:Si)(v:Sh),BindsTo s fd ⟨[v],[]⟩ [("_law_script",v)])/\∀base:Sv,K.In base->base.Ns mainGlobals mg->WH l.prog w K mg base Tu 10 fa fd UA (zk K):=by
 have M:Md K mg:=⟨Ao X G z_all,Ao X G z_bool,Ao X G z_int,Ao X G z_isinstance,Ao X G z_len,Ao X G z_list,Ao X G z_min,Ao X G z_range,Ao X G z_reversed,Ao X G z_sorted,Ao X G z_str,Ao X G z_tuple,Ao X G z_zip,⟨_,AR X G cv_LETTERS⟩,⟨_,AR X G cv_LONGEST_NAME⟩,cg_FORMS.glt<|AR X G ca_FORMS⟩;refine h51.law X G hfa Ws (λ_ _ _ _ _ _=>Uz λ_=>rfl) Mm λbase=>?_;have c0:tq l.prog w K mg base:=h1.cal X G xY<|yo M;have c1:oJ l.prog w K mg base:=h2.cal X G uT vg;have c2:tv l.prog w K mg base:=h3.cal X G xZ<|yp c1;have c3:qZ l.prog w K mg base:=h4.cal X G uU<|wW c1 c2;have c4:kW l.prog w K mg base:=h5.cal X G oZ<|o7 M c3;have c5:nH l.prog w K mg base:=h6.cal X G rM<|rO M c2 c4;have c6:lQ l.prog w K mg base:=h7.cal X G WL<|rm M c2;have c7:nI l.prog w K mg base:=h8.cal X G WF<|rP M c1 c4 c6;have c8:kX l.prog w K mg base:=h9.cal X G o0<|o8 c5 c7;have c9:lR l.prog w K mg base:=h10.cal X G qS<|rq c2;have c10:Es l.prog w K mg base:=h11.cal X G Fv<|Ka M c8 c9;have c11:q0 l.prog w K mg base:=h12.cal X G wt<|wX M;have c12:q8 l.prog w K mg base:=h13.cal X G wu<|wY c1 c2;have c13:oK l.prog w K mg base:=h14.cal X G uV<|vh c3 c12;have c14:q9 l.prog w K mg base:=h15.cal X G wv<|wZ M;have c15:wR l.prog w K mg base:=h16.cal X G x8<|F5 M;have c16:wT l.prog w K mg base:=h17.cal X G Fw<|F6 M c0 c11;have c17:rb l.prog w K mg base:=h18.cal X G ww<|w5 M c15 c16;have c18:kY l.prog w K mg base:=h19.cal X G o3<|o9 M c12 c13 c14;have c19:jN l.prog w K mg base:=h20.cal X G V6<|ou c12 c13 c14 c18;have c20:oM l.prog w K mg base:=h21.cal X G WJ<|vk M c19;have c21:lU l.prog w K mg base:=h22.cal X G WE<|rz M;have c22:tz l.prog w K mg base:=h23.cal X G x9<|yq c3;have c23:wU l.prog w K mg base:=h24.cal X G yb F7;have c24:nJ l.prog w K mg base:=h25.cal X G Wz<|rQ M c22 c23;have c25:wV l.prog w K mg base:=h26.cal X G Wu<|F8 M c2 c10 c21 c24;have c26:tD l.prog w K mg base:=h27.cal X G yc<|yr M c15 c17;have c27:Et l.prog w K mg base:=h28.cal X G Fx<|Kb M
 have c28:tE l.prog w K mg base:=h29.cal X G WO<|yt M;have c29:tF l.prog w K mg base:=h30.cal X G WK<|yu M c15 c26 c27 c28;have c30:iD l.prog w K mg base:=h31.cal X G mL<|mO M c29;have c31:kZ l.prog w K mg base:=h32.cal X G WM<|pe M;have c32:J0 l.prog w K mg base:=h33.cal X G W1<|Mn c20 c25 c30 c31;have c33:rd l.prog w K mg base:=h34.cal X G Fy<|w6 M;have c34:re l.prog w K mg base:=h35.calI X G WS<|w9 M;have c35:lV l.prog w K mg base:=h36.calI X G uW<|rA M c34;have c36:rf l.prog w K mg base:=h37.calI X G WT<|xf c34 c35;have c37:oN l.prog w K mg base:=h38.calI X G V7<|vm M c34 c35 c36;have c38:lc l.prog w K mg base:=h39.calI X G WG<|ph M c34;have c39:rj l.prog w K mg base:=h40.calI X G Fz<|xg M c34 c38;have c40:tG l.prog w K mg base:=h41.calI X G WI (λ_ _ _ _ _ _ _ us hl=>match us,(show us.length=2 by simpa using hl) with|[_,_],_=>⟨_,rfl,rfl⟩) (.cons rfl .nil)<|yw M c34 c39
 have c41:oO l.prog w K mg base:=h42.alike X G yd (λ_ _ _ _ _ _=>U7 λ_ _=>rfl) 20 (λn u h=>FC h) (λn gs hn=>vn M) 6 (by decide)
 have c42:rl l.prog w K mg base:=h43.cal X G FB xh;have c43:nK l.prog w K mg base:=h44.cal X G Wv<|rR M c42;have c44:nL l.prog w K mg base:=h45.cal X G wx<|rS M;have c46:oP l.prog w K mg base:=h46.cal X G Wo<|vo M;have c45:oQ l.prog w K mg base:=h47.cal X G Wt<|vp M c46;have c47:ld l.prog w K mg base:=h48.calI X G WD<|pi M c34 c45;have c48:nM l.prog w K mg base:=h49.cal X G WA<|rT M;have c49:oR l.prog w K mg base:=h50.cal X G V8<|vq M c48;intro _ _ _ _ _ _ _;exact PY M c32 c33 c34 c37 c40 c41 c43 c44 c47 c49
end K14
open PySem PySem.W PyProof.Rows
set_option maxRecDepth 100000 in
set_option maxHeartbeats 0 in
theorem PySem.Challenge.cw_strandwright_k14_deeds_done_holds : PySem.Challenge.rw_strandwright_k14_deeds_done.Holds := by
 w_on;o_law;k_head;(case hw=>w_witness2)
 k_fill
 refine VF.walkL (l:=PySem.Challenge.rw_strandwright_k14_deeds_done) (k:=10) rfl rfl ⟨rfl,by decide,by decide⟩ (λw h Y=>PySem.W.kIn_of Y) ?F
 case F =>
  intro w mg fa h KX G hmg;refine' K14.all_mk KX G hmg (VF.fh ?a1 ?l1 ?c1 ?k1) (VF.fh ?a2 ?l2 ?c2 ?k2) (VF.fh ?a3 ?l3 ?c3 ?k3) (VF.fh ?a4 ?l4 ?c4 ?k4) (VF.fh ?a5 ?l5 ?c5 ?k5) (VF.fh ?a6 ?l6 ?c6 ?k6) (VF.fh ?a7 ?l7 ?c7 ?k7) (VF.fh ?a8 ?l8 ?c8 ?k8) (VF.fh ?a9 ?l9 ?c9 ?k9) (VF.fh ?a10 ?l10 ?c10 ?k10) (VF.fh ?a11 ?l11 ?c11 ?k11) (VF.fh ?a12 ?l12 ?c12 ?k12) (VF.fh ?a13 ?l13 ?c13 ?k13) (VF.fh ?a14 ?l14 ?c14 ?k14) (VF.fh ?a15 ?l15 ?c15 ?k15) (VF.fh ?a16 ?l16 ?c16 ?k16) (VF.fh ?a17 ?l17 ?c17 ?k17) (VF.fh ?a18 ?l18 ?c18 ?k18) (VF.fh ?a19 ?l19 ?c19 ?k19) (VF.fh ?a20 ?l20 ?c20 ?k20) (VF.fh ?a21 ?l21 ?c21 ?k21) (VF.fh ?a22 ?l22 ?c22 ?k22) (VF.fh ?a23 ?l23 ?c23 ?k23) (VF.fh ?a24 ?l24 ?c24 ?k24) (VF.fh ?a25 ?l25 ?c25 ?k25) (VF.fh ?a26 ?l26 ?c26 ?k26) (VF.fh ?a27 ?l27 ?c27 ?k27) (VF.fh ?a28 ?l28 ?c28 ?k28) (VF.fh ?a29 ?l29 ?c29 ?k29) (VF.fh ?a30 ?l30 ?c30 ?k30) (VF.fh ?a31 ?l31 ?c31 ?k31) (VF.fh ?a32 ?l32 ?c32 ?k32) (VF.fh ?a33 ?l33 ?c33 ?k33) (VF.fh ?a34 ?l34 ?c34 ?k34) (VF.fh ?a35 ?l35 ?c35 ?k35) (VF.fh ?a36 ?l36 ?c36 ?k36) (VF.fh ?a37 ?l37 ?c37 ?k37) (VF.fh ?a38 ?l38 ?c38 ?k38) (VF.fh ?a39 ?l39 ?c39 ?k39) (VF.fh ?a40 ?l40 ?c40 ?k40) (VF22.fhd ?a41 ?l41 ?c41 ?k41 ?t41) (VF.fh ?a42 ?l42 ?c42 ?k42) (VF.fh ?a43 ?l43 ?c43 ?k43) (VF.fh ?a44 ?l44 ?c44 ?k44) (VF.fh ?a45 ?l45 ?c45 ?k45) (VF.fh ?a46 ?l46 ?c46 ?k46) (VF.fh ?a47 ?l47 ?c47 ?k47) (VF.fh ?a48 ?l48 ?c48 ?k48) (VF.fh ?a49 ?l49 ?c49 ?k49) (VF.fh ?a50 ?l50 ?c50 ?k50) (VF.fh ?a51 ?l51 ?c51 ?k51) ?cv_LETTERS ?cv_LONGEST_NAME ?ca_FORMS (VF22.gv_tup ?cq<|.cons (VF22.gv_tup ?cq0<|.cons (VF22.gv_tup ?cq00<|.cons VF22.gv_int .nil)<|.cons (VF22.gv_tup ?cq01<|.cons VF22.gv_int<|.cons VF22.gv_int .nil) .nil)<|.cons (VF22.gv_tup ?cq1<|.cons (VF22.gv_tup ?cq10<|.cons VF22.gv_int<|.cons VF22.gv_int .nil)<|.cons (VF22.gv_tup ?cq11<|.cons VF22.gv_int .nil) .nil)<|.cons (VF22.gv_tup ?cq2<|.cons (VF22.gv_tup ?cq20<|.cons VF22.gv_int<|.cons VF22.gv_int .nil)<|.cons (VF22.gv_tup ?cq21<|.cons VF22.gv_int<|.cons VF22.gv_int .nil) .nil)<|.cons (VF22.gv_tup ?cq3<|.cons (VF22.gv_tup ?cq30<|.cons VF22.gv_int<|.cons VF22.gv_int .nil)<|.cons (VF22.gv_tup ?cq31<|.cons VF22.gv_int<|.cons VF22.gv_int .nil) .nil) .nil) ?z_all ?z_bool ?z_int ?z_isinstance ?z_len ?z_list ?z_min ?z_range ?z_reversed ?z_sorted ?z_str ?z_tuple ?z_zip
  all_goals try k_is

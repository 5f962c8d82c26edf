import PyProof.Rows.All
import Wide.All
import OpenK.AllK
import Wide.FinOn
import Lean
import PyProof.EqAt
import PyProof.EqKinds
import PyProof.TupleCall
import KE.KRevIter
import KE.KUnpack
import KE.KIntText
import PyProof.SeqI3
import PySem.Challenge.RW_strandwright_k50_whole_first_changes
set_option maxHeartbeats 2000000
set_option Elab.async false
set_option linter.all false
set_option maxRecDepth 100000
set_option genSizeOfSpec false
abbrev S8(α:Type _):=List α
abbrev S9(α:Type _):=Option α
abbrev Ta:=PySem.Value
abbrev Tb:=PySem.Shared
abbrev Tc(α:Type _):=Array α
abbrev Td:=PySem.Addr
abbrev Te:=Bool
abbrev Tf:=PySem.Program
abbrev Tg:=PySem.Heap
abbrev Th:=PySem.World
namespace PySem.W.Fast
def tw10038483567666938794:=0
def tw12133329261753203648:=0
def tw3897527635402039082:=0
def tw14181900905200155812:=0
def tw18379061906121617572:=0
def tw15711699437711210233:=0
def tw9051351489876154884:=0
def tw16598604506157524350:=0
def tw15873795563659476003:=0
def tw1909837541833754461:=0
def tw3855927290071655497:=0
def tw15240991770685681297:=0
def tw17010478767681050207:=0
def tw3497243494082207635:=0
def tw17521455704592260622:=0
def tw12600037538011408704:=0
def tw14232815468763309217:=0
def tw17192167792180897613:=0
def tw17994593717822302505:=0
def tw290912688566716629:=0
def tw12146173321689639404:=0
def tw4384533148700373167:=0
def tw235788776127817641:=0
def tw3016173473884856718:=0
def tw8576957486756868087:=0
def tw4029954792426151369:=0
def tw3471574087756371905:=0
def tw1358784312498763314:=0
def tw15863038994559884107:=0
def tw15437126801236238777:=0
def tw18164914925621335367:=0
def tw16023120895201017276:=0
def tw5893516380002344471:=0
def tw17868467681520999289:=0
def tw15695783055664662474:=0
def tw13090040786613093907:=0
def tw4347934488617266156:=0
def tw11749394065168115354:=0
def tw17613254370514013556:=0
def tw2867969902311408406:=0
def tw5292230644905187701:=0
def tw175456926344481005:=0
def tw3651223202301384800:=0
def tw11027840471454496290:=0
def tw15549234834716258344:=0
def tw9187188367967265314:=0
def tw2461217667521226098:=0
def tw1649152981651090833:=0
def tw7455751810101194504:=0
def tw5096033037606780114:=0
def tw11390555521986569406:=0
def tw14207078050026414965:=0
def tw11378758269946818765:=0
def tw17185005426698872180:=0
def tw8141976270769500591:=0
def tw8862174976646001980:=0
def tw8778693358009421413:=0
def tw16058099256898157360:=0
def tw11777947312875191021:=0
def tw13326124252631267638:=0
def tw12028334035733619947:=0
def tw338369399308631264:=0
def tw5315929969638597809:=0
def tw4024451266177814447:=0
def tw7553200987768094117:=0
def tw6676186830408913040:=0
def tw990560400362687892:=0
def tw1595639909775539550:=0
def tw9898380487588026855:=0
def tw5147814659021355634:=0
def tw2184463241584442786:=0
def tw13814715146640403501:=0
def tw4433526916790497598:=0
def tw5903382626515730480:=0
end PySem.W.Fast
abbrev Aa:=@PySem.wpAny_bind
abbrev Ab:=@PySem.Heap.get?_push_of_some
abbrev Ac:=@PySem.wpAny_pure
abbrev Ad:=@decide_eq_false
abbrev Ae:=@decide_eq_true
abbrev Af:=@if_pos
abbrev Ag:=@PySem.Heap.get?_push_size
abbrev Ah:=@if_neg
abbrev Ai:=@PySem.Heap.lt_size
abbrev Aj:=@of_decide_eq_true
abbrev Ak:=@PySem.PassesOwn.never
abbrev Al:=@PySem.AutoSeq1.wpAny_loadPart'
abbrev Am:=@PySem.wpAny_newObj_type
abbrev An:=@PySem.wpAny_call_entry
abbrev Ao:=@PySem.wpAny_callSpecial?_slot
abbrev Ap:=@PySem.wpAny_field
abbrev Aq:=@PySem.wpAny_loadPart'
abbrev Ar:=@PyProof.Rows.wpS_bind
abbrev As:=@PyProof.Rows.callWith_type1
abbrev At:=@PyProof.Rows.slot_tuple_getitem
abbrev Au:=@PyProof.Rows.wpS_pure
abbrev Av:=@PySem.wpAny_truthy_bool
abbrev Aw:=@PySem.wpAny_holding
abbrev Ax:=@PySem.wpAny_mono
abbrev Ay:=@PySem.Obj.data_mapFields
abbrev Az:=@PySem.wpAny_seqItems
abbrev AA:=@PySem.wpAny_attempt
abbrev AB:=@List.Pairwise.imp_of_mem
abbrev AC:=@PySem.wpAny_isInstance
abbrev AD:=@PySem.Heap.size_push
abbrev AE:=@PySem.wpAny_typeNameOfWhole_keyiter
abbrev AF:=@PySem.wpAny_of_eq
abbrev AG:=@PySem.wpAny_setField_rec
abbrev AH:=@PySem.Heap.get?_update_other
abbrev AI:=@PySem.wpAny_specialOf
abbrev AJ:=@PySem.wpAny_passesOwn
abbrev AK:=@PySem.Heap.get?_update_self
abbrev AL:=@PySem.Str.length_append
abbrev AM:=@PySem.wpAny_setField
abbrev AN:=@PySem.wpAny_rule
abbrev AO:=@PySem.sizeLine_eq
abbrev AQ:=@PySem.wpAny_typeOf
abbrev AR:=@Array.size_range
abbrev AT:=@PySem.Heap.SameBut.update
abbrev AU:=@Nat.not_lt_zero
abbrev AV:=@List.nil_append
abbrev AW:=@PySem.wpAny_Call_Name_kw
abbrev AX:=@PySem.wpAny_getItem_str_slice
abbrev AY:=@PyProof.Rows.wpS_forRange
abbrev AZ:=@Option.isSome_map
abbrev A0:=@Nat.lt_succ_of_lt
abbrev A3:=@Nat.lt_of_succ_lt
abbrev A4:=@List.pairwise_lt_range
abbrev A5:=@List.getElem?_set
abbrev A6:=@PySem.builtinLookup_eq_fast
abbrev A7:=@PySem.Obj.isFreed_of_fields
abbrev A8:=@PySem.wpAny_forIn_list
abbrev A9:=@decide_eq_decide
abbrev Ba:=@PySem.call_meets
abbrev Bb:=@List.map_flatMap
abbrev Bc:=@PySem.codeAny_builtin
abbrev Be:=@List.forIn_cons
abbrev Bg:=@Int.emod_nonneg
abbrev Bh:=@PyProof.Rows.listItems_at
abbrev Bi:=@Nat.zero_add
abbrev Bj:=@Nat.ne_of_gt
abbrev Bk:=@PySem.wpAny_Constant_int
abbrev Bl:=@PySem.SeqAt.EqAt.of_refs
abbrev Bm:=@Nat.sub_add_cancel
abbrev Bo:=@List.zip_cons_cons
abbrev Bp:=@List.getElem_idxOf
abbrev Bq:=@Array.toList_range
abbrev Br:=@List.mem_of_find?_eq_some
abbrev Bt:=@List.getElem?_append_left
abbrev Bu:=@Classical.byContradiction
abbrev Bv:=@PySem.wpAny_pyIter_list
abbrev Bw:=@PySem.wpAny_pyIter_enum
abbrev Bx:=@List.all_cons
abbrev By:=@Nat.lt_of_not_le
abbrev Bz:=@Nat.le_of_not_lt
abbrev BB:=@List.zipIdx_cons
abbrev BC:=@List.filter_cons
abbrev BD:=@List.ext_getElem
abbrev BE:=@PySem.codeAny_mono
abbrev BF:=@Nat.lt_trans
abbrev BG:=@Nat.add_comm
abbrev BH:=@List.range_succ_eq_map
abbrev BI:=@List.length_pos_of_mem
abbrev BJ:=@List.flatMap_singleton
abbrev BK:=@PySem.Calls.callWith_builtin
abbrev BL:=@PySem.wpAny_stack_any
abbrev BM:=@PySem.wpAny_execs_nil
abbrev BN:=@PySem.typeLookup_type
abbrev BO:=@PySem.post_val_or_str
abbrev BP:=@List.range_succ
abbrev BQ:=@List.getElem?_reverse
abbrev BR:=@PyProof.Rows.wpS_mono
abbrev BS:=@PySem.wpAny_updateSeq_pair
abbrev BT:=@PySem.isSubtype_type
abbrev BU:=@PySem.isSubtype_stop
abbrev BV:=@Nat.le_succ
abbrev BW:=@List.mem_append_left
abbrev BX:=@PySem.Heap.get?_push_cases
abbrev BY:=@PyProof.Rows.entry_tuple_getitem
abbrev BZ:=@List.mem_map_of_mem
abbrev B0:=@List.flatten_append
abbrev B1:=@List.filter_sublist
abbrev B3:=@PySem.Heap.get?_update_ne
abbrev B4:=@Array.toList_append
abbrev B5:=@PySem.wpAny_standAt
abbrev B6:=@PySem.wpAny_onRaise
abbrev B7:=@PySem.wpAny_newList
abbrev B8:=@PyProof.Rows.listUpdate_at
abbrev B9:=@PySem.evalPart_none
abbrev Ca:=@PySem.wpAny_tupleItemsOf
abbrev Cb:=@PyProof.Rows.args_tuple_getitem
abbrev Cc:=@PyProof.Rows.Subscript_
abbrev Cd:=@PySem.SeqAt.EqAt.str_int
abbrev Ce:=@PySem.SeqAt.EqAt.int_str
abbrev Cf:=@List.filterMap_map
abbrev Cg:=@Int.emod_lt_of_pos
abbrev Ch:=@PySem.Calls.spliced_cons
abbrev Ci:=@Bool.false_eq_true
abbrev Cj:=@PySem.wpAny_sequenceKey
abbrev Ck:=@PySem.wpAny_dictEntries
abbrev Co:=@PySem.Txt.slice_le
abbrev Cq:=@PySem.Obj.cls_mapFields
abbrev Cr:=@Nat.lt_trichotomy
abbrev Cs:=@List.map_id'
abbrev Ct:=@List.getElem?_map
abbrev Cu:=@List.count_append
abbrev Cv:=@List.any_map
abbrev Cw:=@Int.zero_add
abbrev Cy:=@List.eraseIdxIfInBounds_toArray
abbrev Cz:=@PySem.noFill_tuple_add
abbrev CB:=@Option.getD_some
abbrev CC:=@Nat.not_le_of_lt
abbrev CF:=@Nat.lt_succ_self
abbrev CG:=@List.not_mem_nil
abbrev CH:=@List.getElem_inj
abbrev CJ:=@PySem.seqIndex_of
abbrev CK:=@List.not_lt
abbrev CL:=@List.eq_nil_of_length_eq_zero
abbrev CM:=@PySem.wpAny_dictEpoch
abbrev CN:=@List.of_mem_zip
abbrev CO:=@List.mem_filter
abbrev CP:=@List.map_append
abbrev CQ:=@List.find?_some
abbrev CS:=@Int.natCast_add
abbrev CT:=@PySem.wpAny_letOwnedTupleGo_enum
abbrev CU:=@PySem.typeIs_str
abbrev CV:=@PySem.Str.cps_append
abbrev CW:=@PySem.SeqAt.RcNeAt.lists_lengths
abbrev CY:=@List.nodup_nil
abbrev CZ:=@List.length_eraseIdx_of_lt
abbrev C0:=@List.getElem?_append_right
abbrev C1:=@List.forIn_nil
abbrev C3:=@List.foldl_nil
abbrev C4:=@PySem.Calls.Name_function_global
abbrev C5:=@Bool.and_false
abbrev C6:=@PySem.Calls.call_function_entry
abbrev C7:=@List.length_erase_of_mem
abbrev C8:=@List.eq_of_mem_replicate
abbrev C9:=@Array.getElem_mem_toList
abbrev Db:=@List.getElem?_replicate
abbrev Dc:=@List.take_of_length_le
abbrev Dd:=@List.getElem?_set_self
abbrev De:=@List.flatten_singleton
abbrev Df:=@List.drop_eq_nil_of_le
abbrev Dg:=@Int.ediv_one
abbrev Dh:=@PyProof.Rows.boot_abs
abbrev Dj:=@List.take_append_drop
abbrev Dk:=@List.getElem?_toArray
abbrev Dl:=@List.eq_nil_or_concat
abbrev Dm:=@List.dropLast_eq_take
abbrev Do:=@List.concat_eq_append
abbrev Dq:=@List.Perm.append_left
abbrev Za:=@List.length_map
abbrev Ya:=@List.getElem?_eq_getElem
abbrev Xa:=@Nat.le_refl
abbrev Wa:=@Option.bind_some
abbrev Va:=@List.mem_map
abbrev Qa:=@List.length_append
abbrev Yb:=@List.size_toArray
abbrev Xb:=@Ct
abbrev Wb:=@List.mem_cons_of_mem
abbrev Vb:=@List.getD_eq_getElem?_getD
abbrev Qb:=@List.mem_range
abbrev Zc:=@List.mem_cons
abbrev Yc:=@List.mem_of_getElem?
abbrev Xc:=@Option.map_eq_some_iff
abbrev Wc:=@List.mem_cons_self
abbrev Vc:=@Nat.lt_of_lt_of_le
abbrev Qc:=@List.length_cons
abbrev Zd:=@List.map_cons
abbrev Yd:=@Array.length_toList
abbrev Xd:=@Bool.false_ne_true
abbrev Wd:=@List.getElem?_eq_some_iff
abbrev Vd:=@CP
abbrev Qd:=@List.map_map
abbrev Ze:=@List.length_range
abbrev Ye:=@Nat.le_trans
abbrev Xe:=@Ci
abbrev We:=@List.map_congr_left
abbrev Ve:=@List.length_singleton
abbrev Qe:=@List.mem_append
abbrev Zf:=@List.mem_singleton
abbrev Yf:=@List.getElem?_eq_none
abbrev Xf:=@List.append_assoc
abbrev Wf:=@List.length_nil
abbrev Vf:=@Nat.ne_of_lt
abbrev Qf:=@Bool.and_eq_true
abbrev Zg:=@List.append_nil
abbrev Yg:=@List.find?_cons
abbrev Xg:=@List.mem_append_right
abbrev Wg:=@Bool.eq_iff_iff
abbrev Vg:=@List.pairwise_map
abbrev Qg:=@List.foldl_cons
abbrev Zh:=@List.getElem?_range
abbrev Yh:=@Int.eq_ofNat_of_zero_le
abbrev Xh:=@Nat.lt_irrefl
abbrev Wh:=@C0
abbrev Vh:=@Nat.succ_pos
abbrev Qh:=@List.nodup_cons
abbrev Zi:=@List.getElem?_drop
abbrev Yi:=@Nat.zero_le
abbrev Xi:=@List.length_drop
abbrev Wi:=@List.getElem_mem
abbrev Vi:=@List.mem_flatten
abbrev Qi:=@List.length_replicate
abbrev Zj:=@Array.getElem?_toList
abbrev Yj:=@Nat.le_of_lt
abbrev Xj:=@Nat.le_add_right
abbrev Wj:=@List.ext_getElem?
abbrev Vj:=@List.nodup_append
abbrev Qj:=@Nat.add_le_add_left
abbrev Zk:=@List.length_reverse
abbrev Yk:=@List.flatMap_append
abbrev Xk:=@List.length_take
abbrev Wk:=@Bt
abbrev Vk:=@Array.getElem?_eq_getElem
abbrev Qk:=@List.getElem?_mapIdx
abbrev Zl:=@Int.toNat_natCast
abbrev Yl:=@List.flatMap_cons
abbrev Xl:=@Db
abbrev Wl:=@Option.bind_eq_some_iff
abbrev Vl:=@List.filterMap_cons
abbrev Ql:=@List.all_eq_true
abbrev Zm:=@Nat.min_eq_left
abbrev Ym:=@List.any_cons
abbrev Xm:=@Array.getElem?_eq_some_iff
abbrev Wm:=@Array.perm_iff_toList_perm
abbrev Vm:=@List.flatten_cons
abbrev Qm:=@List.drop_eq_getElem_cons
abbrev Zn:=@List.getElem?_of_mem
abbrev Yn:=@Option.isSome_iff_exists
abbrev Xn:=@Nat.lt_of_le_of_lt
namespace PySem
theorem Runs.toks{s s':Tb}(h:Runs M Γ p t fs s e s'):s.toks<=s'.toks:=by
 induction h with|done=>exact Xa _|raise=>exact Xa _|yield=>exact Xa _|fresh _ ih=>exact Nat.le_of_succ_le ih|call _ _ ih1 ih2=>exact Ye ih1 ih2|resumeFresh _ _ _ _ ih1 ih2=>exact Ye ih1 ih2|resumeSuspended _ _ _ _ ih1 ih2=>exact Ye ih1 ih2|segRet _ _ ih1 ih2=>exact Ye ih1 ih2|segGen _ _ ih1 ih2=>exact Ye ih1 ih2|segSuspGen _ _ _ _ ih1 ih2=>exact Ye ih1 ih2|_=>assumption
theorem Wakes.toks{s s':Tb}(h:Wakes M Γ p g r s res s'):s.toks<=s'.toks:=by
 unfold Wakes at h;split at h
 ·exact h.elim
 ·split at h
  ·obtain⟨e,s1,h1,_,_,rfl⟩:=h;exact h1.toks
  ·rw[h.2];exact Xa _
  ·rw[h.2];exact Xa _
 ·obtain⟨e,s1,h1,_,_,rfl⟩:=h;exact h1.toks
 ·rw[h.2];exact Xa _
 ·rw[h.2];exact Xa _
open Sem in
theorem Pp(t:Sem α):∀{p:Pos}{s:Tb},n<=s.toks->wp M Γ t (λa p' s'=>n<=s'.toks->Q a p' s') (λe p' s'=>n<=s'.toks->E e p' s') p s->wp M Γ t Q E p s:=by
 induction t with
 |pure a=>intro p s hs h;rw[wp]at h ⊢;exact h hs
 |raise e=>intro p s hs h;rw[wp]at h ⊢;exact h hs
 |unsupported w=>intro p s hs h;rw[wp]at h;exact h.elim
 |finish e=>intro p s hs h;rw[wp]at h;exact h.elim
 |rule tag k ih=>intro p s hs h;rw[wp]at h ⊢;exact ih _ hs h
 |«at» pos k ih=>intro p s hs h;rw[wp]at h ⊢;exact ih _ hs h
 |load a part k ih=>intro p s hs h;rw[wp]at h ⊢;obtain⟨o,e,h⟩:=h;exact⟨o,e,ih _ hs h⟩
 |update a part f k ih=>intro p s hs h;rw[wp]at h ⊢;exact⟨h.1,ih _ hs h.2⟩
 |alloc o k ih=>intro p s hs h;rw[wp]at h ⊢;exact ih _ hs h
 |loadIfAlive a k ih=>intro p s hs h;rw[wp]at h ⊢;exact ih _ hs h
 |point l k ih=>intro p s hs h;rw[wp]at h ⊢;exact ih _ hs h
 |register a k ih=>intro p s hs h;rw[wp]at h;exact h.elim
 |fresh k ih=>intro p s hs h;rw[wp]at h ⊢;exact ih _ (Nat.le_succ_of_le hs) h
 |ask k ih=>intro p s hs h;rw[wp]at h ⊢;exact ih _ hs h
 |choose src n k ih=>intro p s hs h;rw[wp]at h ⊢;exact⟨h.1,ih _ hs h.2⟩
 |os q l k ih=>intro p s hs h;rw[wp]at h ⊢;exact ih _ hs h
 |call c hd g l k ih=>intro p s hs h;rw[wp]at h ⊢;obtain⟨r,s',h1,h2⟩:=h;exact⟨r,s',h1,ih _ (Ye hs h1.toks) h2⟩
 |handled own k ih=>intro p s hs h;rw[wp]at h ⊢;exact ih _ hs h
 |newGen c k ih=>intro p s hs h;rw[wp]at h ⊢;exact ih _ hs h
 |genState g k ih=>intro p s hs h;rw[wp]at h ⊢;obtain⟨st,e,h⟩:=h;exact⟨st,e,ih _ hs h⟩
 |resume g r l k ih=>intro p s hs h;rw[wp]at h ⊢;obtain⟨res,s',h1,h2⟩:=h;exact⟨res,s',h1,ih _ (Ye hs h1.toks) h2⟩
 |yield v g l k ih=>intro p s hs h;rw[wp]at h;exact h.elim
 |stack k ih=>intro p s hs h;rw[wp]at h ⊢;exact ih _ hs h
 |fork c k ih=>intro p s hs h;rw[wp]at h;exact h.elim
 |thread k ih=>intro p s hs h;rw[wp]at h ⊢;exact ih _ hs h
 |await a t b l k ih=>intro p s hs h;rw[wp]at h;exact h.elim
def bJ{s:Tb}(h:wpAny M A t (λa s'=>s.toks<=s'.toks->Q a s') (λe s'=>s.toks<=s'.toks->E e s') s):wpAny M A t Q E s :=
 λΓ p hi=>Pp t (Xa _) (h Γ p hi)
def wQ{s:Tb}(h:codeAny M A c (λr s'=>s.toks<=s'.toks->R r s') s):codeAny M A c R s:=λΓ p hc hb=>by
 obtain⟨r,s',h1,h2⟩:=h Γ p hc hb;exact⟨r,s',h1,h2 h1.toks⟩
end PySem
namespace L2
open PySem PySem.Spec PyProof.Rows
abbrev Key:=Sum Int Str
def pH:Key->Ta->Te|.inl k,v=>Value.isInt k v|.inr x,v=>Value.isStrOf x v
def RY(w:Th):Key->Int|.inl k=>hashInt k|.inr x=>hashStr w x
theorem bM:∀{k:Key}{v:Ta},pH k v=true->(∃i t,k=Sum.inl i/\v=Value.int i t)\/(∃x t,k=Sum.inr x/\v=Value.str x t)
 | .inl i,v,h=>by
  obtain⟨t,e⟩:=Value.isInt_shape (k:=i) (v:=v) h;exact .inl ⟨i,t,rfl,e⟩
 | .inr x,v,h=>by
  obtain⟨t,e⟩:=Value.isStrOf_shape (x:=x) (v:=v) h;exact .inr ⟨x,t,rfl,e⟩
def zU(i:Int)(t:Tok):pH (.inl i) (.int i t)=true:=by simp[pH,Value.isInt]
def zV(x:Str)(t:Tok):pH (.inr x) (.str x t)=true:=by simp[pH,Value.isStrOf]
def Mf(a b:Int):decide ((Sum.inl a:Key)=Sum.inl b)=(a == b):=by
 by_cases e:a=b
 ·subst e;simp
 ·have h:¬ (Sum.inl a:Key)=Sum.inl b:=λq=>e (Sum.inl.inj q);rw[Ad h];exact(beq_eq_false_iff_ne.mpr e).symm
def Mg(a b:Str):decide ((Sum.inr a:Key)=Sum.inr b)=decide (a=b):=by
 by_cases e:a=b
 ·subst e;simp
 ·have h:¬ (Sum.inr a:Key)=Sum.inr b:=λq=>e (Sum.inr.inj q);rw[Ad h,Ad e]
def Mh(a:Int)(b:Str):decide ((Sum.inl a:Key)=Sum.inr b)=false:=Ad (λq=>nomatch q)
def Mi(a:Str)(b:Int):decide ((Sum.inr a:Key)=Sum.inl b)=false:=Ad (λq=>nomatch q)
def aM(prog:Tf)(w:Th):PySem.KeyKind prog w Key where
 is:=pH
 hash:=RY w
 inj:=λv a b ha hb=>by
  rcases bM ha with⟨i,t,rfl,rfl⟩|⟨x,t,rfl,rfl⟩
  ·rcases bM hb with⟨j,u,rfl,e⟩|⟨y,u,rfl,e⟩
   ·injection e with e1 _;rw[e1]
   ·exact nomatch e
  ·rcases bM hb with⟨j,u,rfl,e⟩|⟨y,u,rfl,e⟩
   ·exact nomatch e
   ·injection e with e1 _;rw[e1]
 byValue:=λk v h=>by
  rcases bM h with⟨i,t,rfl,rfl⟩|⟨x,t,rfl,rfl⟩<;>rfl
 pyHash:=λhv h=>by
  rcases bM hv with⟨i,t,rfl,rfl⟩|⟨x,t,rfl,rfl⟩
  ·exact wpAny_pyHash_int h
  ·exact wpAny_pyHash_str h
 eqBool:=λhu hv h=>by
  rcases bM hu with⟨i,t,rfl,rfl⟩|⟨x,t,rfl,rfl⟩
  ·rcases bM hv with⟨j,u,rfl,rfl⟩|⟨y,u,rfl,rfl⟩
   ·rw[Mf]at h;exact wpAny_eqBool_int h
   ·rw[Mh]at h;exact Ce i t y u _ _ _ _ h
  ·rcases bM hv with⟨j,u,rfl,rfl⟩|⟨y,u,rfl,rfl⟩
   ·rw[Mi]at h;exact Cd x t j u _ _ _ _ h
   ·rw[Mg]at h;exact wpAny_eqBool_str h
 «strs»:=λk x t v h=>by
  rcases bM h with⟨i,u,rfl,e⟩|⟨y,u,rfl,e⟩
  ·exact nomatch e
  ·injection e with e1 _
   subst e1;cases v<;>rfl
def uW(prog:Tf)(w:Th)(i:Int)(t:Tok):(aM prog w).is (.inl i) (.int i t)=true:=zU i t
def uX(prog:Tf)(w:Th)(x:Str)(t:Tok):(aM prog w).is (.inr x) (.str x t)=true:=zV x t
end L2
namespace VN
open PySem
section
variable {prog:Tf}{w:Th}{K:Type}[DecidableEq K](knd:KeyKind prog w K)
inductive Uy(h:Heap):List (List K)->List Value->Prop
 | nil:Uy h [] []
 | cons {k:List K} {ks:List (List K)} {b:Addr} {vs:List Value}:IsTupleKey knd h k b->Uy h ks vs->Uy h (k::ks) (Value.ref b::vs)
def Ut(h:Tg)(ks:S8 (S8 K))(a:Td):Prop:=∃o its n,h.get? a=some o/\o.cls=.type "tuple"/\o.data=.seq its n/\Uy knd h ks its.toList
variable {knd}
theorem Uy.one(p:Uy knd h x vs):Uy knd h y vs->x=y:=by
 induction p generalizing y with
 |nil=>intro q;cases q;rfl
 |cons p1 _ ih=>
  intro q;cases q with|cons q1 q2=>rw[p1.inj q1,ih q2]
theorem Uy.len{x:S8 (S8 K)}{vs:S8 Ta}(p:Uy knd h x vs):vs.length=x.length:=by
 induction p with|nil=>rfl|cons _ _ ih=>rw[Qc,Qc,ih]
theorem Uy.stay(p:Uy knd h x vs)(f:∀k b,IsTupleKey knd h k b->IsTupleKey knd h' k b):Uy knd h' x vs:=by
 induction p with|nil=>exact .nil|cons p1 _ ih=>exact .cons (f _ _ p1) ih
def Ut.ty{s:Tb}(x:Ut knd s.heap ks a):s.TypeIs (.ref a) "tuple":=by
 obtain⟨o,_,_,e,c,_⟩:=x;exact⟨o,e,c⟩
theorem Ut.one(p:Ut knd h x a)(q:Ut knd h y a):x=y:=by
 obtain⟨o1,i1,n1,e1,_,d1,p1⟩:=p;obtain⟨o2,i2,n2,e2,_,d2,p2⟩:=q;rw[e1]at e2;cases e2;rw[d1]at d2;cases d2;exact p1.one p2
theorem Ut.stay{h h':Tg}{o:Obj}{es ep}(x:Ut knd h k a)(ho:h.get? d=some o)(hd:o.data=.dict es ep)(hs:Heap.SameBut d h h'):Ut knd h' k a:=by
 obtain⟨o1,i1,n1,e1,c1,d1,p1⟩:=x;refine⟨o1,i1,n1,?_,c1,d1,p1.stay λk b z=>z.keeps ho hd hs⟩;refine(hs.2 a λz=>?_).trans e1;rw[z,ho]at e1;cases e1;rw[hd]at d1;cases d1
def Ez(knd:KeyKind prog w K)(ks:S8 (S8 K)):Int:=reduceHash (Builtin.Tuple.tupleHashOf (ks.map (tupleKeyHash knd)))
def EA(ks:S8 (S8 K)):Nat:=(ks.map λk=>k.length+1).sum+1
variable {A:Around}{E:Ta->Tb->Prop}{s:Tb}
def Mj(hu:A.units<cLine)(hv:A.in1.units<cLine)(x:Ut knd s.heap ks a)(q:Q (Ez knd ks) { s with toks:=s.toks+EA ks }):wpAny (model prog w) A (pyHash (.ref a)) Q E s:=by
 have ty:=x.ty;obtain⟨o,its,n,e,_,d,p⟩:=x;unfold pyHash
 try unfold pyHashByItsType
 try refine Aa (wpAny_cRoomFor_or (.inr hu) ?_)
 refine Aa (AI ty F.slot_tuple_hash.lookup ?_);rw[show(some (Value.builtin "tuple.__hash__") == some Value.none)=false from by decide +kernel]
 simp only[Xe,if_false];refine Aa (AI ty F.slot_tuple_hash.lookup ?_);simp only[Option.isNone_some,Xe,if_false];refine Aa (wpAny_callSpecialIfBoundUnlessNone?_slot ty F.slot_tuple_hash (An F.slot_tuple_hash ty F.entry_tuple_hash ?_ (F.args_tuple_hash_1 _)));show wpAny _ A.in1 (Builtin.Tuple.tupleItemsOf (.ref a) >>= λits=>_) _ E s;refine Aa (Ca e d (Aa ?_));rw[<-Array.forIn_toList];refine A8 _ (λvs (b:Tc Int) s'=>∃g r,g++r=ks/\Uy knd s.heap r vs/\b.toList=g.map (tupleKeyHash knd)/\s'={ s with toks:=s.toks+(g.map λk=>k.length+1).sum }) _ ?_ ?_ _ _ ⟨[],ks,rfl,p,rfl,rfl⟩
 ·rintro x vs b s' ⟨g,r,e1,p1,e2,rfl⟩;cases p1 with
  |@cons k r c _ k1 p2=>
   refine Aa (wpAny_pyHash_tuple hv (show IsTupleKey knd s.heap k c from k1) ?_);refine Ac ⟨g++[k],r,by rw[<-e1];simp,p2,by simp[e2],?_⟩
   simp only[Vd,List.sum_append,List.map_singleton,List.sum_singleton,Nat.add_assoc]
 ·rintro b s' ⟨g,r,e1,p1,e2,rfl⟩;cases p1;rw[Zg]at e1;subst e1;show wpAny _ A.in1 (retInt (Builtin.Tuple.tupleHashOf b.toList)) _ E _;rw[e2];refine wpAny_ret_mkInt ?_;dsimp only;unfold Ez reduceHash at q;generalize Builtin.Tuple.tupleHashOf (g.map (tupleKeyHash knd))=t at q ⊢;unfold pyHashByItsType.reduced;have q':∀z,Q z { s with toks:=s.toks+EA g }->Q z { s with toks:=s.toks+(g.map λk=>k.length+1).sum+1 }:=λz y=>y;split at q
  ·next c=>
   rw[Af c];exact Ac (q' _ q)
  ·next c=>
   rw[Ah c];exact Aa (AN (Ac (q' _ q)))
def uY(m:Nat){its:Tc Ta}{o:Obj}(ty:s.TypeIs (.ref a) "tuple")(e:s.heap.get? a=some o)(d:o.data=.seq its n)(h:∀v∈its.toList,∀Q':Te->Tb->Prop,Q' true s->wpAny (model prog w) A (eqIsQuiet m v) Q' E s)(q:Q true s):wpAny (model prog w) A (eqIsQuiet (m+1) (.ref a)) Q E s:=by
 unfold eqIsQuiet;refine Aa (AI ty F.slot_tuple_eq.lookup ?_);show wpAny _ A (isInstance (.ref a) (.type "tuple") >>= λb=>_) Q E s;refine Aa (AC ty isSubtype_tuple_tuple ?_);simp only[Bool.not_true,Xe,if_false];refine Aa (Az e d (Aa ?_));show wpAny _ A (forIn its _ _) _ E s;rw[<-Array.forIn_toList];refine A8 _ (λr b s'=>s'=s/\b.1=none/\∀v∈r,v∈its.toList) _ ?_ ?_ _ _ ⟨rfl,rfl,λv z=>z⟩
 ·rintro v r b s' ⟨rfl,_,hr⟩;refine Aa (h v (hr v (Wc ..)) _ ?_);rw[Ah (by decide)]
  exact Ac ⟨rfl,rfl,λu hu=>hr u (Wb _ hu)⟩
 ·rintro⟨b,u⟩ s' ⟨rfl,hb,_⟩;cases (show b=none from hb);exact Ac q
def yi(m:Nat)(x:IsTupleKey knd s.heap ks a)(q:Q true s):wpAny (model prog w) A (eqIsQuiet (m+1) (.ref a)) Q E s:=by
 have ty:=x.typeIs;obtain⟨o,its,n,e,_,d,p⟩:=x;refine uY m ty e d (λv hv Q' q'=>?_) q;rw[eqIsQuiet_byValue m (p.byValue v hv)];exact Ac q'
theorem Uy.each(p:Uy knd h x vs):∀v∈vs,∃k b,v=.ref b/\IsTupleKey knd h k b:=by
 induction p with
 |nil=>intro v hv;cases hv
 |cons p1 _ ih=>
  intro v hv;rcases Zc.mp hv with rfl|hv
  ·exact⟨_,_,rfl,p1⟩
  ·exact ih v hv
def Iy(x:Ut knd s.heap ks a)(q:Q true s):wpAny (model prog w) A (eqIsQuiet 8 (.ref a)) Q E s:=by
 have ty:=x.ty;obtain⟨o,its,n,e,_,d,p⟩:=x;refine uY 7 ty e d (λv hv Q' q'=>?_) q;obtain⟨k,b,rfl,z⟩:=p.each v hv;exact yi 6 z q'
def RZ(hv:A.units<cLine)(p:Ut knd s.heap x a)(r:Ut knd s.heap y b)(q:P (.done (.ret (.bool (decide (x=y))))) s):wpAny (model prog w) A (Builtin.«tuple.__eq__» ⟨[.ref a,.ref b],[]⟩) P E s:=by
 have ty:=r.ty;obtain⟨o1,i1,n1,e1,_,d1,p1⟩:=p;obtain⟨o2,i2,n2,e2,_,d2,p2⟩:=r;show wpAny _ A (isInstance (.ref b) (.type "tuple") >>= λz=>_) P E s;refine Aa (AC ty isSubtype_tuple_tuple ?_);simp only[Bool.not_true,Xe,if_false];refine Aa (Ca e1 d1 (Aa (Ca e2 d2 (Aa ?_))));refine A8 _ (λr c s'=>s'=s/\c.1=none/\∃x' y' u v,r=u.zip v/\Uy knd s.heap x' u/\Uy knd s.heap y' v/\(x'=y'↔x=y)/\(u.length=v.length↔i1.size=i2.size)) _ ?_ ?_ _ _ ⟨rfl,rfl,x,y,i1.toList,i2.toList,rfl,p1,p2,Iff.rfl,by rw[Yd,Yd]⟩
 ·rintro⟨g,g'⟩ r c s' ⟨rfl,_,x',y',u,v,ez,h1,h2,hx,hl⟩;cases h1 with
  |nil=>cases ez
  |@cons k1 ks1 c1 vs1 k1' t1=>
   cases h2 with
   |nil=>cases ez
   |@cons k2 ks2 c2 vs2 k2' t2=>
    cases ez;refine Aa (wpAny_eqBool_tuple hv k1' k2' ?_);by_cases c:k1=k2
    ·rw[Ae c,Ah (by decide)]
     refine Ac ⟨rfl,rfl,ks1,ks2,vs1,vs2,rfl,t1,t2,?_,?_⟩
     ·rw[<-hx,c];simp
     ·rw[<-hl];simp
    ·have no:decide (x=y)=false:=Ad λz=>c (List.cons.inj (hx.mpr z)).1;rw[no]at q;rw[Ad c,Af (by decide)]
     exact Aa (Ac (Ac (Ac q)))
 ·rintro⟨c,_⟩ s' ⟨rfl,hc,x',y',u,v,ez,h1,h2,hx,hl⟩;cases (show c=none from hc);have fin:decide (i1.size=i2.size)=decide (x=y):=by
   rw[A9,<-hl,<-hx];cases h1 with
   |nil=>
    cases h2 with|nil=>simp|cons _ _=>simp
   |cons _ _=>
    cases h2 with|nil=>simp|cons _ _=>cases ez
  rw[<-fin]at q;refine Ac ?_;show P (.done (.ret (.bool (i1.size == i2.size)))) s';rw[show(i1.size == i2.size)=decide (i1.size=i2.size) from rfl];exact q
def Pq(hu:A.units<cLine)(hv:A.in1.units<cLine)(p:Ut knd s.heap x a)(r:Ut knd s.heap y b)(q:Q (decide (x=y)) s):wpAny (model prog w) A (eqBool (.ref a) (.ref b)) Q E s:=by
 unfold eqBool
 try with_reducible refine Aw ?_
 by_cases c:a=b
 ·subst c;have:=p.one r;subst this;rw[Ae rfl]at q;rw[show(Value.ref a == Value.ref a)=true from by simp,Af rfl]
  exact Aa (AN (Ac q))
 ·rw[show(Value.ref a == Value.ref b)=false from by simp[c],Ah (by decide)]
  exact Aa (wpAny_richCompare_same_room (op:=.Eq) p.ty r.ty F.slot_tuple_eq (An F.slot_tuple_eq p.ty F.entry_tuple_eq (RZ hv p r ⟨_,rfl,nofun,Av q⟩) (F.args_tuple_eq_2 _ _)) hu)
end
end VN
namespace L2
open PySem PySem.Spec PyProof.Rows VN
abbrev bC:=List Key ⊕ List (List Key)
section
variable {prog:Tf}{w:Th}
def R0(h:Tg):bC->Td->Prop|.inl ks,a=>IsTupleKey (aM prog w) h ks a|.inr ks,a=>ks≠[]/\Ut (aM prog w) h ks a
theorem EB(p:ItemsAre (aM prog w) ks vs):∀v∈vs,(∃i t,v=.int i t)\/∃x t,v=.str x t:=by
 induction p with
 |nil=>intro v hv;cases hv
 |cons p1 _ ih=>
  intro v hv;rcases Zc.mp hv with rfl|hv
  ·rcases bM p1 with⟨i,t,_,e⟩|⟨x,t,_,e⟩
   ·exact .inl ⟨i,t,e⟩
   ·exact .inr ⟨x,t,e⟩
  ·exact ih v hv
theorem wR(p:IsTupleKey (aM prog w) h x a)(q:y≠[]/\Ut (aM prog w) h y a):False:=by
 obtain⟨o1,i1,n1,e1,_,d1,p1⟩:=p;obtain⟨hy,o2,i2,n2,e2,_,d2,p2⟩:=q;rw[e1]at e2;cases e2;rw[d1]at d2;cases d2;have b:=EB p1;cases hl:i1.toList with
 |nil=>
  rw[hl]at p2;cases p2;exact hy rfl
 |cons v r=>
  rw[hl]at p2 b;cases p2 with
  |cons _ _=>
   rcases b _ (Wc ..) with⟨_,_,z⟩|⟨_,_,z⟩<;>cases z
def EC{A:Around}{s:Tb}(hu:A.units<cLine)(hv:A.in1.units<cLine)(p:IsTupleKey (aM prog w) s.heap x a)(q:y≠[]/\Ut (aM prog w) s.heap y b):SeqAt.EqAt A s (.ref a) (.ref b) false/\SeqAt.EqAt A s (.ref b) (.ref a) false:=by
 have ne:a≠b:=λz=>by subst z;exact wR p q
 obtain⟨o1,i1,n1,e1,c1,d1,p1⟩:=p;obtain⟨hy,o2,i2,n2,e2,c2,d2,p2⟩:=q;have t1:s.heap.IsTuple a i1:=⟨o1,e1,c1,n1,d1⟩;have t2:s.heap.IsTuple b i2:=⟨o2,e2,c2,n2,d2⟩;have b1:=EB p1;have b2:=p2.each;have at1:∀j (h:j<i1.size),(∃i t,i1[j]=.int i t)\/∃x t,i1[j]=.str x t:=λj h=>b1 _ (C9 h);have at2:∀j (h:j<i2.size),∃(c:Td)(its:Tc Ta),i2[j]=.ref c/\s.heap.IsTuple c its:=λj h=>by
  obtain⟨k,c,e,z⟩:=b2 _ (C9 h);obtain⟨o,its,n,e3,c3,d3,_⟩:=z;exact⟨c,its,e,o,e3,c3,n,d3⟩
 have n0:0<i2.size:=by
  have:=p2.len;rw[Yd]at this;rw[this];exact List.length_pos_iff.mpr hy
 have fin:∀(k m:Nat),0<m->((List.range (min k m)).all (λ_=>false)&&k == m)=false:=λk m hm=>by
  by_cases c:k=0
  ·subst c;have:(0 == m)=false:=by rw[beq_eq_false_iff_ne];lia
   rw[this,C5]
  ·rw[Bool.and_eq_false_iff];left;rw[List.all_eq_false];exact⟨0,Qb.mpr (by lia),by decide⟩
 constructor
 ·refine Bl ne ?_;rw[<-fin i1.size i2.size n0];refine SeqAt.RcAt.tuples t1 t2 hu λj h1 h2=>?_;obtain⟨c,its,e,t⟩:=at2 j h2;rw[e];rcases at1 j h1 with⟨i,tt,z⟩|⟨x,tt,z⟩<;>rw[z]
  ·exact SeqAt.EqAt.int_tuple _ _ t hv
  ·exact SeqAt.EqAt.str_tuple _ _ t hv
 ·refine Bl (Ne.symm ne) ?_;have fin2:((List.range (min i2.size i1.size)).all (λ_=>false)&&i2.size == i1.size)=false:=by
   rw[Nat.min_comm,show(i2.size == i1.size)=(i1.size == i2.size) from Bool.beq_comm ..];exact fin _ _ n0
  rw[<-fin2];refine SeqAt.RcAt.tuples t2 t1 hu λj h1 h2=>?_;obtain⟨c,its,e,t⟩:=at2 j h1;rw[e];rcases at1 j h2 with⟨i,tt,z⟩|⟨x,tt,z⟩<;>rw[z]
  ·exact SeqAt.EqAt.tuple_int _ _ t hv
  ·exact SeqAt.EqAt.tuple_str _ _ t hv
end
def jr(prog:Tf)(w:Th):HeapKind prog w bC where
 is:=R0 (prog:=prog) (w:=w)
 hash:=λk=>match k with|.inl ks=>tupleKeyHash (aM prog w) ks|.inr ks=>Ez (aM prog w) ks
 draws:=λk=>match k with|.inl ks=>ks.length+1|.inr ks=>EA ks
 room:=λA=>A.units<cLine/\A.in1.units<cLine
 inj:=λ{h a x y} p q=>by
  cases x with
  |inl x=>
   cases y with|inl y=>exact congrArg Sum.inl (IsTupleKey.inj (show IsTupleKey (aM prog w) h x a from p) (show IsTupleKey (aM prog w) h y a from q))|inr y=>exact(wR (show IsTupleKey (aM prog w) h x a from p) q).elim
  |inr x=>
   cases y with|inl y=>exact(wR (show IsTupleKey (aM prog w) h y a from q) p).elim|inr y=>exact congrArg Sum.inr (Ut.one (show Ut (aM prog w) h x a from p.2) (show Ut (aM prog w) h y a from q.2))
 keeps:=λ{h h' k a d o es ep} x ho hd hs=>by
  cases k with|inl k=>exact IsTupleKey.keeps (show IsTupleKey (aM prog w) h k a from x) ho hd hs|inr k=>exact⟨x.1,Ut.stay x.2 ho hd hs⟩
 pyHash:=λ{A E s k a Q} hu x q=>by
  cases k with|inl k=>exact wpAny_pyHash_tuple hu.1 (show IsTupleKey (aM prog w) s.heap k a from x) q|inr k=>exact Mj hu.1 hu.2 x.2 q
 eqBool:=λ{A E s x y a b Q} hu p r q=>by
  cases x with
  |inl x=>
   cases y with|inl y=>exact wpAny_eqBool_tuple hu.1 (show IsTupleKey (aM prog w) s.heap x a from p) (show IsTupleKey (aM prog w) s.heap y b from r) (by rw[show decide (x=y)=decide ((Sum.inl x:bC)=Sum.inl y) from by simp];exact q)|inr y=>exact(EC hu.1 hu.2 (show IsTupleKey (aM prog w) s.heap x a from p) r).1 _ _ _ _ (by rw[show decide ((Sum.inl x:bC)=Sum.inr y)=false from Ad nofun]at q;exact q)
  |inr x=>
   cases y with|inl y=>exact(EC hu.1 hu.2 (show IsTupleKey (aM prog w) s.heap y b from r) p).2 _ _ _ _ (by rw[show decide ((Sum.inr x:bC)=Sum.inl y)=false from Ad nofun]at q;exact q)|inr y=>exact Pq hu.1 hu.2 p.2 r.2 (by rw[show decide (x=y)=decide ((Sum.inr x:bC)=Sum.inr y) from by simp];exact q)
 quiet:=λ{A E s k a Q} x q=>by
  cases k with|inl k=>exact yi 7 (show IsTupleKey (aM prog w) s.heap k a from x) q|inr k=>exact Iy x.2 q
def iF{A:Around}(hu:A.units+2<cLine):(jr prog w).room A.in1:=⟨A3 hu,hu⟩
end L2
namespace L2
open PySem PySem.Spec PyProof.Rows
inductive V where
 | non|bl (b:Bool)|int (i:Int)|str (x:Str)|byt (b:Array UInt8)|flt (b:UInt64)|ref (a:Addr)|ty (n:String)
 deriving DecidableEq
def RelV:V->Ta->Prop|.non,u=>u=Value.none|.bl b,u=>u=Value.bool b|.int i,u=>∃t,u=Value.int i t|.str x,u=>∃t,u=Value.str x t|.byt b,u=>∃t,u=Value.bytes b t|.flt b,u=>∃t,u=Value.float b t|.ref a,u=>u=Value.ref a|.ty n,u=>u=Value.type n
abbrev Tp:List V->List Value->Prop:=Paired RelV
theorem Tp.length{xs:S8 V}{us:S8 Ta}(r:Tp xs us):xs.length=us.length:=Paired.length r
theorem Tp.get:∀{xs:S8 V}{us:S8 Ta}{i:Nat}{x:V},Tp xs us->xs[i]?=some x->∃u,us[i]?=some u/\RelV x u
 |_,_,_,_,.nil,e=>by simp at e
 |_,_,0,_,.cons r _,e=>by simp at e;subst e;exact⟨_,rfl,r⟩
 | _,_,i+1,x,.cons _ t,e=>by
  obtain⟨u,h1,h2⟩:=Tp.get (i:=i) (x:=x) t (by simpa using e)
  exact⟨u,by simpa using h1,h2⟩
theorem Tp.set(r:RelV x u):∀{xs:S8 V}{us:S8 Ta}(i:Nat),Tp xs us->Tp (xs.set i x) (us.set i u)|_,_,_,.nil=>.nil|_,_,0,.cons _ t=>.cons r t|_,_,i+1,.cons q t=>.cons q (Tp.set r i t)
theorem Tp.append:∀{xs ys:S8 V}{us ws:S8 Ta},Tp xs us->Tp ys ws->Tp (xs++ys) (us++ws)|_,_,_,_,.nil,s=>s|_,_,_,_,.cons r t,s=>.cons r (Tp.append t s)
theorem Tp.take:∀{xs:S8 V}{us:S8 Ta}(n:Nat),Tp xs us->Tp (xs.take n) (us.take n)|_,_,0,_=>.nil|_,_,_+1,.nil=>.nil|_,_,n+1,.cons r t=>.cons r (Tp.take n t)
theorem Tp.drop:∀{xs:S8 V}{us:S8 Ta}(n:Nat),Tp xs us->Tp (xs.drop n) (us.drop n)|_,_,0,r=>r|_,_,_+1,.nil=>.nil|_,_,n+1,.cons _ t=>Tp.drop n t
def Ue:S9 V->S9 Ta->Prop|some v,some u=>RelV v u|none,none=>True|_,_=>False
def KV{κ:Type}:S8 (κ×V)->S8 (κ×Ta)->Prop:=Paired λ(p:κ×V) (q:κ×Ta)=>p.1=q.1/\RelV p.2 q.2
def kV:Key->V|.inl i=>.int i|.inr x=>.str x
inductive HO where
  | lst (xs:List V)
  | tup (xs:List V)
  | dK (Tj:List (Key×V))|dT (ep:Nat×List Addr) (Tj:List (bC×V))
  | set (S:Int->Bool) (n:Nat)
  | ins (C dx:Addr) (fs:List (Str×V))
  | own (x:Addr)
  | xd (fs:List (Str×V))
  | met (f x:Addr)
  | rng (lo hi:Int)
  | frz (o:Obj) (u:HO)
  | tbl (ps:Array Value)
  | ext (φ:Heap->Prop)
abbrev Hp:=Addr->Option HO
def T5(H:Hp)(a:Td):bC->Prop|.inl ks=>H a=some (.tup (ks.map kV))|.inr ks=>ks≠[]/\∃bs:S8 Td,H a=some (.tup (bs.map V.ref))/\Paired (λb k=>H b=some (.tup (List.map kV k))) bs ks
def upd(H:Hp)(a:Td)(o:HO):Hp:=λb=>if b=a then some o else H b
def aS:upd H a o a=some o:=by unfold upd;rw[Af rfl]
def aO(h:b≠a):upd H a o b=H b:=by unfold upd;rw[Ah h]
def KK{H:Hp}{a b:Td}{o u:HO}(h:H a=some o)(h':H b=some u)(d:o≠u):a≠b:=by
 intro e;subst e;rw[h]at h';exact d (Option.some.inj h')
def bu{H:Hp}{a b:Td}{o:HO}(h:H a=some o)(h':H b=none):a≠b:=by
 intro e;subst e;rw[h]at h';cases h'
section
variable (P:Tf)(w:Th)
def Tt(H:Hp)(h:Tg)(a:Td):HO->Prop
 |.lst xs=>xs.length<=sizeLine/\∃(its:S8 Ta)(n:Nat),Tp xs its/\h.get? a=some { cls:=.type "list",data:=.seq its.toArray n }
 |.tup xs=>xs.length<=sizeLine/\∃its:S8 Ta,Tp xs its/\IsTup h a its.toArray
 |.dK Tj=>Tj.length<=sizeLine/\(a == sysModules)=false/\∃vs,KV Tj vs/\h.DictOf (aM P w) a vs
 | .dT ep Tj=>Tj.length<=sizeLine/\(a == sysModules)=false/\∃xs:S8 (bC×Td×Ta),
   Paired (λ(p:bC×V) (q:bC×Td×Ta)=>p.1=q.1/\T5 H q.2.1 p.1/\RelV p.2 q.2.2) Tj xs /\
   xs.map (·.2.1)=ep.2/\∃o es,h.get? a=some o/\o.ExactDict/\o.data=.dict es ep.1/\es.toList=xs.map (entryOfKey (jr P w))/\(xs.map (·.1)).Nodup
 |.set S n=>h.SetOf (intKind P w) a S n
 | .ins C dx fs=>H dx=some (.own a)/\fs.length<=1000/\dx≠a/\h.get? a=some (PySem.W.instObj C dx) /\
   ∃mA,h.Ns1 dx mA/\(∀f,Ue (fs.lookup f) (mA f))/\PySem.Within mA (fs.map (·.1))
 |.own _=>∃o,h.get? a=some o
 |.xd fs=>∃mA,h.Ns1 a mA/\∀f,Ue (fs.lookup f) (mA f)
 |.rng lo hi=>∃t u v,h.get? a=some { cls:=.type "range",data:=.fields #[.int lo t,.int hi u,.int 1 v] }
 |.frz o u=>h.get? a=some o/\Tt H h a u
 |.tbl ps=>h.get? a=some { cls:=.none,data:=.fields ps }
 |.met f x=>h.get? a=some (PySem.W.methodObj (.ref f) (.ref x))
 |.ext φ=>φ h/\(∃o,h.get? a=some o)/\∀h1 h2:Tg,φ h1->(∀o,h1.get? a=some o->h2.get? a=some o)->φ h2
def Ud(H:Hp)(h:Tg):Prop:=∀a o,H a=some o->Tt P w H h a o
end
section
variable {P:Tf}{w:Th}{H H':Hp}{h h':Tg}{a:Td}{o:HO}
theorem Tt.lt(x:Tt P w H h a o):a<h.objs.size:=by
 cases o with
 |lst xs=>obtain⟨_,_,_,_,e⟩:=x;exact Ai e
 |tup xs=>obtain⟨_,_,_,p⟩:=x;exact p.lt
 |dK Tj=>obtain⟨_,_,_,_,o,_,_,e,_⟩:=x;exact Ai e
 |dT ep Tj=>obtain⟨_,_,_,_,_,o,_,e,_⟩:=x;exact Ai e
 |set S n=>obtain⟨o,_,_,_,e,_⟩:=x;exact Ai e
 |ins C dx fs=>obtain⟨_,_,_,e,_⟩:=x;exact Ai e
 |own y=>obtain⟨_,e⟩:=x;exact Ai e
 |xd fs=>obtain⟨_,⟨_,_,_,e,_⟩,_⟩:=x;exact Ai e
 |rng lo hi=>obtain⟨_,_,_,e⟩:=x;exact Ai e
 |frz ob u=>obtain⟨e,_⟩:=x;exact Ai e
 |tbl ps=>exact Ai (show h.get? a=some _ from x)
 |met f y=>exact Ai (show h.get? a=some _ from x)
 |ext φ=>obtain⟨_,⟨_,e⟩,_⟩:=x;exact Ai e
theorem Paired.mapP:∀{l₁:S8 α}{l₂:S8 β},Paired F l₁ l₂->(∀a b,F a b->G a b)->Paired G l₁ l₂|_,_,.nil,_=>.nil|_,_,.cons r t,f=>.cons (f _ _ r) (Paired.mapP t f)
theorem T5.stay(ht:∀b xs,H b=some (.tup xs)->H' b=some (.tup xs)):∀{k:bC},T5 H a k->T5 H' a k|.inl _,h=>ht _ _ h|.inr _,h=>let ⟨n,bs,e,r⟩:=h;⟨n,bs,ht _ _ e,Paired.mapP r λ_ _ z=>ht _ _ z⟩
theorem Tt.stay(x:Tt P w H h a o)(k:∀b u,(b=a\/H b=some (.own a))->h.get? b=some u->h'.get? b=some u)
  (ho:∀b,H b=some (.own a)->H' b=some (.own a))(ht:∀b xs,H b=some (.tup xs)->H' b=some (.tup xs)):Tt P w H' h' a o:=by
 induction o with
 |lst xs=>obtain⟨z,its,n,r,e⟩:=x;exact⟨z,its,n,r,k _ _ (.inl rfl) e⟩
 |tup xs=>obtain⟨z,its,r,ob,e,c⟩:=x;exact⟨z,its,r,ob,k _ _ (.inl rfl) e,c⟩
 |dK Tj=>obtain⟨z,y,vs,r,ob,es,ep,e,c⟩:=x;exact⟨z,y,vs,r,ob,es,ep,k _ _ (.inl rfl) e,c⟩
 |dT ep Tj=>
  obtain⟨z,y,xs,r,ra,ob,es,e,c⟩:=x;exact⟨z,y,xs,Paired.mapP r λp q z=>⟨z.1,T5.stay ht z.2.1,z.2.2⟩,ra,ob,es,k _ _ (.inl rfl) e,c⟩
 |set S n=>obtain⟨ob,es,ep,t,e,c⟩:=x;exact⟨ob,es,ep,t,k _ _ (.inl rfl) e,c⟩
 |ins C dx fs=>
  obtain⟨d,z,ne,e,mA,⟨od,es,ep,e2,c⟩,r⟩:=x;exact⟨ho _ d,z,ne,k _ _ (.inl rfl) e,mA,⟨od,es,ep,k _ _ (.inr d) e2,c⟩,r⟩
 |own y=>obtain⟨ob,e⟩:=x;exact⟨ob,k _ _ (.inl rfl) e⟩
 |xd fs=>obtain⟨mA,⟨od,es,ep,e,c⟩,r⟩:=x;exact⟨mA,⟨od,es,ep,k _ _ (.inl rfl) e,c⟩,r⟩
 |rng lo hi=>obtain⟨t,u,v,e⟩:=x;exact⟨t,u,v,k _ _ (.inl rfl) e⟩
 |frz ob u ih=>obtain⟨e,q⟩:=x;exact⟨k _ _ (.inl rfl) e,ih q⟩
 |tbl ps=>
  have e:h.get? a=some { cls:=.none,data:=.fields ps }:=x;show h'.get? a=some { cls:=.none,data:=.fields ps };exact k a _ (.inl rfl) e
 |met f y=>
  have e:h.get? a=some (PySem.W.methodObj (.ref f) (.ref y)):=x;show h'.get? a=some (PySem.W.methodObj (.ref f) (.ref y));exact k a _ (.inl rfl) e
 |ext φ=>obtain⟨p,⟨o,e⟩,st⟩:=x;exact⟨st _ _ p λo q=>k _ _ (.inl rfl) q,⟨o,k _ _ (.inl rfl) e⟩,st⟩
theorem Ud.lt(x:Ud P w H h)(e:H a=some o):a<h.objs.size:=(x a o e).lt
theorem Ud.fresh(x:Ud P w H h)(e:h.objs.size<=a):H a=none:=by
 cases q:H a with|none=>rfl|some u=>exact absurd (Vc (x.lt q) e) (Xh _)
def Ud.kept(x:Ud P w H h)(k:∀b u,h.get? b=some u->h'.get? b=some u):Ud P w H h':=λa o e=>
 (x a o e).stay (λb u _ q=>k b u q) (λ_ q=>q) λ_ _ q=>q
def Ud.laid(x:Ud P w H h)(k:∀b u,h.get? b=some u->h'.get? b=some u)(hp:h.objs.size<=a)(new:Tt P w (upd H a o) h' a o):Ud P w (upd H a o) h':=λb u e=>by
 have hn:=x.fresh hp;by_cases hb:b=a
 ·subst hb;rw[aS]at e;cases e;exact new
 ·rw[aO hb]at e;exact(x b u e).stay (λc v _ q=>k c v q) (λc q=>by rw[aO (bu q hn)];exact q) λc xs q=>by rw[aO (bu q hn)];exact q
end
def Rd(H:Hp)(a:Td)(u:HO):Prop:=H a=some u\/∃o,H a=some (.frz o u)
def Rd.ok(r:Rd H a u)(x:Ud P w H h):Tt P w H h a u:=by
 rcases r with r|⟨o,r⟩
 ·exact x a u r
 ·obtain⟨_,q⟩:=x a _ r;exact q
def Pr:S9 HO->Prop|some (.lst _)=>True|some (.dK _)=>True|some (.dT _ _)=>True|some (.set _ _)=>True|some (.ins _ _ _)=>True|some (.ext _)=>True|_=>False
section
variable {P:Tf}{w:Th}{H:Hp}{h h':Tg}{x e:Td}{o':HO}
def Ud.write(ok:Ud P w H h)(mu:Pr (H x))(he:e=x\/H e=some (.own x))(k:∀b u,b≠e->h.get? b=some u->h'.get? b=some u)(heo:∃u,h'.get? e=some u)
  (new:Tt P w (upd H x o') h' x o'):Ud P w (upd H x o') h':=λb u q=>by
 have nown:∀c y,H c=some (.own y)->c≠x:=λc y r z=>by subst z;rw[r]at mu;exact mu
 have ntup:∀c xs,H c=some (.tup xs)->c≠x:=λc xs r z=>by subst z;rw[r]at mu;exact mu
 by_cases hb:b=x
 ·subst hb;rw[aS]at q;cases q;exact new
 ·rw[aO hb]at q;by_cases hbe:b=e
  ·have q':H b=some (.own x):=by
    rcases he with z|z
    ·exact absurd (hbe.trans z) hb
    ·rw[hbe];exact z
   rw[q]at q';cases q';obtain⟨v,hv⟩:=heo;exact⟨v,by rw[hbe];exact hv⟩
  ·refine(ok b u q).stay (λc v hc r=>k c v ?_ r) (λc r=>by rw[aO (nown c b r)];exact r) λc xs r=>by rw[aO (ntup c xs r)];exact r
   rcases hc with rfl|hc
   ·exact hbe
   ·rintro rfl;rcases he with z|z
    ·exact nown c b hc z
    ·rw[hc]at z;cases z;exact hb rfl
end
structure Un(fs ex:List Addr)(H H':Hp)(h h':Heap):Prop where
 keep:∀b o,h.get? b=some o->H b=none->b∉fs->b∉ex->h'.get? b=some o
 slot:∀b o,h.get? b=some o->H b=none->b∈fs->b∉ex->∃sl,h'.get? b=some { o with slots:=sl }
 free:∀b o,h.get? b=some o->H b=none->b∉ex->H' b=none
 there:∀b o,h.get? b=some o->b∉ex->∃o',h'.get? b=some o'
 tups:∀b xs,H b=some (.tup xs)->H' b=some (.tup xs)
 frzs:∀b o u,H b=some (.frz o u)->H' b=some (.frz o u)
 tbls:∀b ps,H b=some (.tbl ps)->∃more,H' b=some (.tbl (ps++more))
section
variable {fs fs' ex ex':S8 Td}{H H1 H2:Hp}{h h1 h2 h':Tg}{a x e:Td}{o:HO}
def Un.any(u:Un fs ex H H1 h h1)(q:h.get? b=some ob)(n:H b=none)(hx:b∉ex):∃sl,h1.get? b=some { ob with slots:=sl }:=by
 by_cases hb:b∈fs
 ·exact u.slot b ob q n hb hx
 ·exact⟨ob.slots,u.keep b ob q n hb hx⟩
def Un.kept(k:∀b u,h.get? b=some u->h'.get? b=some u):Un fs ex H H h h' :=
 ⟨λb ob q _ _ _=>k b ob q,λb ob q _ _ _=>⟨ob.slots,k b ob q⟩,λ_ _ _ n _=>n,λb ob q _=>⟨ob,k b ob q⟩,λ_ _ q=>q,λ_ _ _ q=>q,λ_ ps q=>⟨#[],by rw[q];simp⟩⟩
def Un.refl:Un fs ex H H h h:=Un.kept λ_ _ q=>q
def Un.laid(k:∀b u,h.get? b=some u->h'.get? b=some u)(hp:h.objs.size<=a)(hn:H a=none):Un fs ex H (upd H a o) h h' where
 keep:=λb u q _ _ _=>k b u q
 slot:=λb u q _ _ _=>⟨u.slots,k b u q⟩
 free:=λb u q n _=>by rw[aO (Vf (Vc (Ai q) hp))];exact n
 there:=λb u q _=>⟨u,k b u q⟩
 tups:=λb xs q=>by rw[aO (bu q hn)];exact q
 frzs:=λb u xs q=>by rw[aO (bu q hn)];exact q
 tbls:=λb ps q=>⟨#[],by rw[aO (bu q hn),q];simp⟩
def Un.write(mu:Pr (H x))(he:e=x\/H e=some (.own x))(k:∀b u,b≠e->h.get? b=some u->h'.get? b=some u)(heo:∃u,h'.get? e=some u):Un fs ex H (upd H x o) h h':=by
 have hx:∀b,H b=none->b≠x:=λb n z=>by subst z;rw[n]at mu;exact mu
 have hb:∀b,H b=none->b≠e:=λb n z=>by
  subst z;rcases he with r|r
  ·exact hx b n r
  ·rw[n]at r;cases r
 have hm:∀b u,H b=some u->¬ Pr (some u)->b≠x:=λb u q nm z=>by subst z;rw[q]at mu;exact nm mu
 refine⟨λb u q n _ _=>k b u (hb b n) q,λb u q n _ _=>⟨u.slots,k b u (hb b n) q⟩,λb u q n _=>by rw[aO (hx b n)];exact n,λb u q _=>?_,
  λb xs q=>by rw[aO (hm b _ q λz=>z)];exact q,λb u xs q=>by rw[aO (hm b _ q λz=>z)];exact q,λb ps q=>⟨#[],by rw[aO (hm b _ q λz=>z),q];simp⟩⟩
 by_cases hbe:b=e
 ·subst hbe;exact heo
 ·exact⟨u,k b u hbe q⟩
end
def RK(h:Tg)(H:Hp):S8 Td:=(List.range h.objs.size).filter λa=>(H a).isSome
def s9(h:Tg)(H:Hp):Tg:=PySem.W.hideAll h (RK h H)
def zW(h:Tg)(H:Hp):(s9 h H).objs.size=h.objs.size:=PySem.W.hideAll_size _ _
def ED{h:Tg}(e:h.get? b=some o)(n:H b=none):(s9 h H).get? b=some o :=
 PySem.W.hideAll_get _ e λhm=>by
  have q:(H b).isSome=true:=(CO.mp hm).2;rw[n]at q;simp at q
theorem Iz{h:Tg}(e:(s9 h H).get? b=some o):h.get? b=some o/\H b=none:=by
 have e':h.get? b=some o:=PySem.W.of_hideAll (RK h H) e;refine⟨e',?_⟩;cases q:H b with
 |none=>rfl
 |some x=>
  have hm:b∈RK h H:=CO.mpr ⟨Qb.mpr (Ai e'),by simp[q]⟩
  have z:(s9 h H).get? b=none:=PySem.W.hideAll_none (RK h H) hm;rw[z]at e;cases e
structure Mod(K:PySem.W.Frag)(mg:Str->Option Value)(base:Heap):Prop where
 kin:K.In base
 glob:base.Ns mainGlobals mg
 blt:∃mb,base.Ns builtinsNs mb/\∀x:Str,x≠"__name__"->mb x=bootBuiltins x
 nolimit:base.NoLimit
structure Cx where
 prog:Program
 w:World
 K:PySem.W.Frag
 mg:Str->Option Value
 base:Heap
 A:Around
 N:List Str
 s₀:Shared
 H₀:Hp
 env:Env
 outer:List Env
 stack:List Env
 ex:List Addr
 fn:Str->Bool
 calm:Bool
 pn:List (Addr×Obj)
 xe:Value->Shared->Prop
def wS(l:S8 Env):S8 Td:=l.filterMap (·.frame)
abbrev Cx.fs(X:Cx):List Addr:=wS X.outer
def R3(sc:Scope)(x:Str):Prop:=sc.names.lookup x=some .local\/sc.names.lookup x=some .cell\/sc.names.lookup x=some .free
def Loc(sc:Scope)(x:Str):Prop:=sc.names.lookup x=some .local\/sc.names.lookup x=some .cell
def Look(env:Env)(h:Tg)(m:Str->S9 Ta)(x:Str)(u:Ta):Prop :=
 (env.kindOf x=some .local/\m x=some u)\/((env.kindOf x=some .cell\/env.kindOf x=some .free)/\∃c,env.cells.lookup x=some c/\h.IsCell c (some u))
structure Cx.Ok(X:Cx):Prop where
 mod:Mod X.K X.mg X.base
 kind:X.env.scope.kind=.function
 glob:X.env.globals=mainGlobals
 blt:X.env.builtins=builtinsNs
 above:X.s₀.heap.objs.size<=X.env.locals
 inj:∀x y c,X.env.cells.lookup x=some c->X.env.cells.lookup y=some c->x=y
 has:∀x,(X.env.kindOf x=some .cell\/X.env.kindOf x=some .free)->∃c,X.env.cells.lookup x=some c
 cab:∀x c,X.fn x=true->X.env.cells.lookup x=some c->X.s₀.heap.objs.size<=c
 hd:X.calm=true->X.A.handled=none
 frames:X.A.frames=some X.stack
 stk:X.stack=X.outer\/(X.stack=X.env::X.outer/\X.env.frame=some X.env.locals)
 exf:∀b∈X.ex,b≠X.env.locals/\∀x c,X.env.cells.lookup x=some c->c≠b
 bs:∀b o,X.base.get? b=some o->X.s₀.heap.get? b=some o/\X.H₀ b=none
 bsz:X.base.objs.size<=X.s₀.heap.objs.size
 noex:∀b o,X.base.get? b=some o->b∉X.ex
 exfs:∀b∈X.ex,b∉X.fs
 funs:X.s₀.heap.FunFrames X.base X.outer
 frf:∀b∈X.fs,X.H₀ b=none
structure Inv(X:Cx)(Ti:List (Addr×Obj))(σ:List (Option V))(H:Hp)(s:Shared):Prop where
 ok:X.Ok
 os:s.os=X.s₀.os
 bare:AllBare s.gens
 base:Un X.fs X.ex X.H₀ H X.s₀.heap s.heap
 loc:∃m,s.heap.Ns X.env.locals m/\∀(i:Nat)(x:Str)(v:V),X.N[i]?=some x->σ[i]?=some (some v)->R3 X.env.scope x->∃u,RelV v u/\Look X.env s.heap m x u
 cell:∀x c,X.env.cells.lookup x=some c->∃v,s.heap.IsCell c v
 free:H X.env.locals=none
 freeC:∀x c,X.env.cells.lookup x=some c->H c=none
 pin:∀p∈X.pn++Ti,s.heap.get? p.1=some p.2/\H p.1=none/\p.1≠X.env.locals/\p.1∉X.fs/\∀v,p.2.data≠.cell v
 hok:Ud X.prog X.w H s.heap
 len:σ.length=X.N.length
 tk:0<s.toks
def Inv.tkl'{s:Tb}(I:Inv X Ti σ H s)(h:s.toks<=n):0<n:=Vc I.tk h
def Inv.tkl{s:Tb}(h:s.toks<=n)(I:Inv X Ti σ H s):0<n:=Vc I.tk h
section
variable {X:Cx}{Ti:S8 (Td×Obj)}{σ:S8 (S9 V)}{H H':Hp}{s:Tb}{h':Tg}
def Cx.Ok.nofr(ok:X.Ok)(e:X.base.get? b=some o):b∉X.fs:=λhb=>by
 have:=(ok.funs.mem hb).1;rw[e]at this;cases this
theorem Inv.bs(I:Inv X Ti σ H s):∀b o,X.base.get? b=some o->s.heap.get? b=some o/\H b=none:=λb o e=>
 ⟨I.base.keep b o (I.ok.bs b o e).1 (I.ok.bs b o e).2 (I.ok.nofr e) (I.ok.noex b o e),I.base.free b o (I.ok.bs b o e).1 (I.ok.bs b o e).2 (I.ok.noex b o e)⟩
def Inv.bk(I:Inv X Ti σ H s):∀b o,X.base.get? b=some o->s.heap.get? b=some o:=λb o e=>(I.bs b o e).1
theorem Inv.mod(I:Inv X Ti σ H s):Mod X.K X.mg X.base:=I.ok.mod
def Inv.kIn(I:Inv X Ti σ H s):X.K.In s.heap:=I.ok.mod.kin.keeps I.bk
theorem Inv.lt(I:Inv X Ti σ H s):X.env.locals<s.heap.objs.size:=let ⟨_,hn,_⟩:=I.loc;hn.lt
def Inv.sz(I:Inv X Ti σ H s):X.s₀.heap.objs.size<=s.heap.objs.size:=Ye I.ok.above (Yj I.lt)
def Inv.nofs(I:Inv X Ti σ H s)(h:s.heap.objs.size<=a):a∉X.fs:=λhb=>by
 obtain⟨_,o,ho,_⟩:=I.ok.funs.mem hb;exact absurd (Vc (Ai ho) (Ye I.sz h)) (Xh _)
def Inv.cne(I:Inv X Ti σ H s):∀x c,X.env.cells.lookup x=some c->c≠X.env.locals:=λx c e z=>by
 obtain⟨v,o,ho,hd⟩:=I.cell x c e;obtain⟨m,⟨o',es,ep,ho',hd',_⟩,_⟩:=I.loc;rw[z,ho']at ho;cases ho;rw[hd']at hd;cases hd
theorem Inv.funs(I:Inv X Ti σ H s):s.heap.FunFrames X.base X.outer:=by
 have all:∀(l:S8 Env),(∀b∈wS l,b∈X.fs)->X.s₀.heap.FunFrames X.base l->s.heap.FunFrames X.base l:=by
  intro l;induction l with
  |nil=>intro _ _;trivial
  |cons env r ih=>
   intro hs hl;obtain⟨hk,⟨L,o,hf,hn,ho,hd⟩,hr⟩:=hl;have hL:L∈X.fs:=hs L (by unfold wS;rw[Vl,hf];exact Wc)
   obtain⟨sl,e⟩:=I.base.slot L o ho (I.ok.frf L hL) hL λz=>I.ok.exfs L z hL;exact⟨hk,⟨L,_,hf,hn,e,hd⟩,ih (λb hb=>hs b (by unfold wS;rw[Vl,hf];exact Wb _ hb)) hr⟩
 exact all X.outer (λ_ hb=>hb) I.ok.funs
theorem Inv.stack(I:Inv X Ti σ H s):s.heap.FunFrames X.base X.stack:=by
 rcases I.ok.stk with e|⟨e,hf⟩
 ·rw[e];exact I.funs
 ·rw[e];obtain⟨m,hn,_⟩:=I.loc;refine .cons (by rw[I.ok.kind];decide) hf hn ?_ I.funs
  exact Heap.get?_none_of_le (Ye I.ok.bsz I.ok.above)
def Inv.stkSub(I:Inv X Ti σ H s):∀b∈wS X.stack,b∈X.env.locals::X.fs:=λb hb=>by
 rcases I.ok.stk with e|⟨e,hf⟩
 ·rw[e]at hb;exact Wb _ hb
 ·rw[e]at hb;unfold wS at hb;rw[Vl,hf]at hb;exact hb
def Inv.stkFree(I:Inv X Ti σ H s):∀b∈wS X.stack,H b=none:=λb hb=>by
 rcases Zc.mp (I.stkSub b hb) with e|hb
 ·rw[e];exact I.free
 ·obtain⟨_,o,ho,_⟩:=I.ok.funs.mem hb;exact I.base.free b o ho (I.ok.frf b hb) λz=>I.ok.exfs b z hb
def Inv.step{g':Tc GenState}{t':Nat}{d':Drawn}{ch:S8 Td}(I:Inv X Ti σ H s)
  (hch:∀b∈ch,(b∈X.ex\/X.s₀.heap.objs.size<=b)/\b≠X.env.locals/\(∀x c,X.env.cells.lookup x=some c->c≠b)/\∀p∈X.pn++Ti,p.1≠b)
  (keep:∀b o,b≠X.env.locals->b∉X.fs->b∉ch->s.heap.get? b=some o->H b=none->h'.get? b=some o)
  (slot:∀b o,b≠X.env.locals->b∈X.fs->b∉ch->s.heap.get? b=some o->H b=none->∃sl,h'.get? b=some { o with slots:=sl }) (free:∀b o,b∉ch->s.heap.get? b=some o->H b=none->H' b=none)
  (there:∀b o,b∉ch->s.heap.get? b=some o->∃o',h'.get? b=some o')
  (tups:∀b xs,H b=some (.tup xs)->H' b=some (.tup xs)) (frzs:∀b o u,H b=some (.frz o u)->H' b=some (.frz o u)) (tbls:∀b ps,H b=some (.tbl ps)->∃more,H' b=some (.tbl (ps++more)))
  (ns:∀m,s.heap.Ns X.env.locals m->h'.Ns X.env.locals m) (hok:Ud X.prog X.w H' h') (hg:AllBare g') (ht:0<t':=by first|assumption|exact Vh _|exact Inv.tk (by assumption)|exact Inv.tkl (by assumption) (by assumption)|lia) :
  Inv X Ti σ H' { s with heap:=h',gens:=g',drawn:=d',toks:=t' }:=by
 have neL:∀b o,X.s₀.heap.get? b=some o->b≠X.env.locals:=λb o e=>Vf (Vc (Ai e) I.ok.above);have neC:∀b o,X.s₀.heap.get? b=some o->b∉X.ex->b∉ch:=λb o e hx hb=>by
  rcases(hch b hb).1 with z|z
  ·exact hx z
  ·exact absurd (Vc (Ai e) z) (Xh _)
 have cellK:∀x c,X.env.cells.lookup x=some c->∀v,s.heap.IsCell c v->h'.IsCell c v:=λx c e v ⟨o,ho,hd⟩=>by
  have nch:c∉ch:=λz=>(hch c z).2.2.1 x c e rfl;by_cases hc:c∈X.fs
  ·obtain⟨sl,q⟩:=slot c o (I.cne x c e) hc nch ho (I.freeC x c e);exact⟨_,q,hd⟩
  ·exact⟨o,keep c o (I.cne x c e) hc nch ho (I.freeC x c e),hd⟩
 refine⟨I.ok,I.os,hg,⟨λb o e n hb hx=>?_,λb o e n hb hx=>?_,λb o e n hx=>?_,λb o e hx=>?_,λb xs e=>tups b xs (I.base.tups b xs e),λb o xs e=>frzs b o xs (I.base.frzs b o xs e),λb ps e=>?_⟩,?_,λx c e=>?_,?_,λx c e=>?_,λp hp=>?_,hok,I.len,ht⟩
 ·exact keep b o (neL b o e) hb (neC b o e hx) (I.base.keep b o e n hb hx) (I.base.free b o e n hx)
 ·obtain⟨sl,e1⟩:=I.base.slot b o e n hb hx;obtain⟨sl',e2⟩:=slot b _ (neL b o e) hb (neC b o e hx) e1 (I.base.free b o e n hx);exact⟨sl',e2⟩
 ·obtain⟨o',e1⟩:=I.base.there b o e hx;exact free b o' (neC b o e hx) e1 (I.base.free b o e n hx)
 ·obtain⟨o',e1⟩:=I.base.there b o e hx;exact there b o' (neC b o e hx) e1
 ·obtain⟨m1,e1⟩:=I.base.tbls b ps e;obtain⟨m2,e2⟩:=tbls b _ e1;exact⟨m1++m2,by rw[e2,Array.append_assoc]⟩
 ·obtain⟨m,hn,hl⟩:=I.loc;refine⟨m,ns m hn,λi x v e1 e2 e3=>?_⟩;obtain⟨u,r,l⟩:=hl i x v e1 e2 e3;refine⟨u,r,?_⟩;rcases l with l|⟨k,c,e,z⟩
  ·exact .inl l
  ·exact .inr ⟨k,c,e,cellK x c e _ z⟩
 ·obtain⟨v,z⟩:=I.cell x c e;exact⟨v,cellK x c e v z⟩
 ·obtain⟨m,⟨o,_,_,ho,_⟩,_⟩:=I.loc;exact free _ o (λz=>(hch _ z).2.1 rfl) ho I.free
 ·obtain⟨v,o,ho,hd⟩:=I.cell x c e;exact free c o (λz=>(hch c z).2.2.1 x c e rfl) ho (I.freeC x c e)
 ·obtain⟨e,n,ne,nf,d⟩:=I.pin p hp;have nch:p.1∉ch:=λz=>(hch p.1 z).2.2.2 p hp rfl;exact⟨keep p.1 p.2 ne nf nch e n,free p.1 p.2 nch e n,ne,nf,d⟩
def Inv.un{t':Nat}(I:Inv X Ti σ H s)(u:Un X.fs [] H H' s.heap h')(hok:Ud X.prog X.w H' h')(ht:0<t':=by first|assumption|exact Vh _|exact Inv.tk (by assumption)|exact Inv.tkl (by assumption) (by assumption)|lia):Inv X Ti σ H' { s with heap:=h',toks:=t' }:=by
 obtain⟨m,⟨o,es,ep,ho,r⟩,_⟩:=id I.loc;obtain⟨sl,hL⟩:=u.any ho I.free (by simp)
 exact I.step (g':=s.gens) (d':=s.drawn) (ch:=[]) (λ_ z=>nomatch z) (λb o _ hb _ e n=>u.keep b o e n hb (by simp)) (λb o _ hb _ e n=>u.slot b o e n hb (by simp)) (λb o _ e n=>u.free b o e n (by simp)) (λb o _ e=>u.there b o e (by simp)) u.tups u.frzs u.tbls (λm' hm=>by
  obtain⟨o',es',ep',ho',r'⟩:=hm;rw[ho]at ho';cases ho'
  exact⟨_,es',ep',hL,r'⟩) hok I.bare
def Inv.call{g':Tc GenState}{t':Nat}{d':Drawn}{ch:S8 Td}(I:Inv X Ti σ H s)(u:Un (wS X.stack) ch H H' s.heap h')(hok:Ud X.prog X.w H' h')(hg:AllBare g')
  (hch:∀b∈ch,(b∈X.ex\/X.s₀.heap.objs.size<=b)/\b≠X.env.locals/\(∀x c,X.env.cells.lookup x=some c->c≠b)/\∀p∈X.pn++Ti,p.1≠b)(ht:0<t':=by first|assumption|exact Vh _|exact Inv.tk (by assumption)|exact Inv.tkl (by assumption) (by assumption)|lia) :
  Inv X Ti σ H' { s with heap:=h',gens:=g',drawn:=d',toks:=t' }:=by
 obtain⟨m,⟨o,es,ep,ho,r⟩,_⟩:=id I.loc;obtain⟨sl,hL⟩:=u.any ho I.free λz=>(hch _ z).2.1 rfl
 exact I.step (ch:=ch) hch (λb o hL hb hc e n=>u.keep b o e n (λz=>(Zc.mp (I.stkSub b z)).elim hL hb) hc) (λb o _ _ hc e n=>u.any e n hc) (λb o hc e n=>u.free b o e n hc) (λb o hc e=>u.there b o e hc) u.tups u.frzs u.tbls (λm' hm=>by
  obtain⟨o',es',ep',ho',r'⟩:=hm;rw[ho]at ho';cases ho'
  exact⟨_,es',ep',hL,r'⟩) hok hg
def Inv.turned{t':Nat}{it:Td}(I:Inv X Ti σ H s)(k:∀b o,b≠it->s.heap.get? b=some o->h'.get? b=some o)(hn:H it=none)(hL:it≠X.env.locals)
  (h1:it∈X.ex\/X.s₀.heap.objs.size<=it)(h2:∀x c,X.env.cells.lookup x=some c->c≠it)(h3:∀p∈X.pn++Ti,p.1≠it)(ht:0<t':=by first|assumption|exact Vh _|exact Inv.tk (by assumption)|exact Inv.tkl (by assumption) (by assumption)|lia):Inv X Ti σ H { s with heap:=h',toks:=t' }:=by
 have nit:∀b u,H b=some u->b≠it:=λb u e z=>by rw[z,hn]at e;cases e
 refine I.step (g':=s.gens) (d':=s.drawn) (ch:=[it]) (λb hb=>?_) (λb o _ _ hc e _=>k b o (λz=>hc (by simp[z])) e) (λb o _ _ hc e _=>⟨o.slots,k b o (λz=>hc (by simp[z])) e⟩) (λ_ _ _ _ n=>n)
  (λb o hc e=>⟨o,k b o (λz=>hc (by simp[z])) e⟩) (λ_ _ e=>e) (λ_ _ _ e=>e) (λb ps e=>⟨#[],by rw[e];simp⟩) (λm hm=>?_) (λb u e=>?_) I.bare
 ·have e:b=it:=by simpa using hb
  subst e;exact⟨h1,hL,h2,h3⟩
 ·obtain⟨o,es,ep,ho,r⟩:=hm;exact⟨o,es,ep,k _ o (Ne.symm hL) ho,r⟩
 ·refine(I.hok b u e).stay (λc v hc q=>k c v ?_ q) (λ_ q=>q) λ_ _ q=>q;rcases hc with z|z
  ·rw[z];exact nit b u e
  ·exact nit c _ z
def Inv.tok(I:Inv X Ti σ H s)(t':Nat)(ht:0<t':=by first|assumption|exact Vh _|exact Inv.tk (by assumption)|exact Inv.tkl (by assumption) (by assumption)|lia):Inv X Ti σ H { s with toks:=t' }:=I.un (h':=s.heap) (t':=t') Un.refl I.hok
theorem Inv.kept(I:Inv X Ti σ H s)(k:∀b u,s.heap.get? b=some u->h'.get? b=some u)(ht:0<t':=by first|assumption|exact Vh _|exact Inv.tk (by assumption)|exact Inv.tkl (by assumption) (by assumption)|lia):Inv X Ti σ H { s with heap:=h',toks:=t' }:=I.un (Un.kept k) (I.hok.kept k)
theorem Inv.laid(I:Inv X Ti σ H s)(k:∀b u,s.heap.get? b=some u->h'.get? b=some u)(hp:s.heap.objs.size<=a)(new:Tt X.prog X.w (upd H a o) h' a o)(ht:0<t':=by first|assumption|exact Vh _|exact Inv.tk (by assumption)|exact Inv.tkl (by assumption) (by assumption)|lia) :
  Inv X Ti σ (upd H a o) { s with heap:=h',toks:=t' }:=I.un (Un.laid k hp (I.hok.fresh hp)) (I.hok.laid k hp new)
theorem Inv.write(I:Inv X Ti σ H s)(mu:Pr (H x))(he:e=x\/H e=some (.own x))(k:∀b u,b≠e->s.heap.get? b=some u->h'.get? b=some u)(heo:∃u,h'.get? e=some u)
  (new:Tt X.prog X.w (upd H x o) h' x o)(ht:0<t':=by first|assumption|exact Vh _|exact Inv.tk (by assumption)|exact Inv.tkl (by assumption) (by assumption)|lia):Inv X Ti σ (upd H x o) { s with heap:=h',toks:=t' }:=I.un (Un.write mu he k heo) (I.hok.write mu he k heo new)
def Inv.weak{σ':S8 (S9 V)}(I:Inv X Ti σ H s)(hl:σ'.length=σ.length)(w:∀(i:Nat) v,σ'[i]?=some (some v)->σ[i]?=some (some v)):Inv X Ti σ' H s :=
 ⟨I.ok,I.os,I.bare,I.base,let ⟨m,hn,hl'⟩:=I.loc;⟨m,hn,λi x v e1 e2 e3=>hl' i x v e1 (w i v e2) e3⟩,I.cell,I.free,I.freeC,I.pin,I.hok,hl.trans I.len,I.tk⟩
def Inv.pins_of(I:Inv X Ti σ H s)(h:∀p∈pins',s.heap.get? p.1=some p.2/\H p.1=none/\p.1≠X.env.locals/\p.1∉X.fs/\∀v,p.2.data≠.cell v):Inv X pins' σ H s :=
 ⟨I.ok,I.os,I.bare,I.base,I.loc,I.cell,I.free,I.freeC,λp hp=>(Qe.mp hp).elim (λz=>I.pin p (BW _ z)) (h p),I.hok,I.len,I.tk⟩
def uZ{N:S8 Str}(hN:N.Nodup){i j:Nat}{x:Str}(a:N[i]?=some x)(b:N[j]?=some x):i=j:=by
 obtain⟨h1,e1⟩:=Wd.mp a;obtain⟨h2,e2⟩:=Wd.mp b;exact(CH hN).mp (e1.trans e2.symm)
def rM{M:Model}{A:Around}{E:Ta->Tb->Prop}{i:Nat}{x:Str}{v:V}{u:Ta}{Q:Unit->Tb->Prop}(I:Inv X Ti σ H s)(hN:X.N.Nodup)(hi:X.N[i]?=some x)(hx:Loc X.env.scope x)(r:RelV v u)
  (h:∀s',Inv X Ti (σ.set i (some v)) H s'->(∃a,Heap.SameBut a s.heap s'.heap/\(a=X.env.locals\/X.env.cells.lookup x=some a))->(∃m,s'.heap.Ns X.env.locals m/\Look X.env s'.heap m x u)->Q () s')(hf:X.fn x=true\/X.env.scope.names.lookup x=some .local:=by first|exact .inl rfl|exact .inr rfl|assumption):wpAny M A (storeName X.env x u) Q E s:=by
 obtain⟨m,hn,hl⟩:=id I.loc;have hcls:(X.env.scope.kind == .class||(X.env.scope.kind == .module&&X.env.locals != X.env.globals))=false:=by rw[I.ok.kind];rfl
 have hiσ:i<σ.length:=by rw[I.len];exact(Wd.mp hi).1
 have cne:=I.cne;have tracked:∀{a:Td}{h':Tg},(∃o,s.heap.get? a=some o/\H a=none)->Heap.SameBut a s.heap h'->Ud X.prog X.w H h':=λ{a h'} ha hs b ob e=>by
  obtain⟨_,_,hfree⟩:=ha;refine(I.hok b ob e).stay (λc w' hc q=>(hs.2 c ?_).trans q) (λ_ q=>q) λ_ _ q=>q;rintro rfl;rcases hc with rfl|hc
  ·rw[hfree]at e;cases e
  ·rw[hfree]at hc;cases hc
 rcases hx with hk|hk
 ·refine wpAny_storeName_local hk hn (λh' hn' hs=>?_) hcls;obtain⟨oL,_,_,hoL,_⟩:=id hn;refine h _ ⟨I.ok,I.os,I.bare,⟨λb o e n hb hx=>?_,λb o e n hb hx=>?_,I.base.free,λb o e hx=>?_,I.base.tups,I.base.frzs,I.base.tbls⟩,⟨_,hn',λj y v' e1 e2 e3=>?_⟩,λy c e=>?_,I.free,I.freeC,λp hp=>?_,tracked ⟨oL,hoL,I.free⟩ hs,by simpa using I.len,Vh _⟩ ⟨_,hs,.inl rfl⟩ ⟨_,hn',.inl ⟨hk,by simp⟩⟩
  ·exact(hs.2 b (Vf (Vc (Ai e) I.ok.above))).trans (I.base.keep b o e n hb hx)
  ·obtain⟨sl,e1⟩:=I.base.slot b o e n hb hx;exact⟨sl,(hs.2 b (Vf (Vc (Ai e) I.ok.above))).trans e1⟩
  ·obtain⟨o',e1⟩:=I.base.there b o e hx;exact⟨o',(hs.2 b (Vf (Vc (Ai e) I.ok.above))).trans e1⟩
  ·by_cases hj:j=i
   ·subst hj;rw[hi]at e1;cases e1;rw[Dd hiσ]at e2;cases e2;exact⟨u,r,.inl ⟨hk,by simp⟩⟩
   ·rw[List.getElem?_set_ne (Ne.symm hj)]at e2;obtain⟨u',r',q⟩:=hl j y v' e1 e2 e3;refine⟨u',r',?_⟩;rcases q with⟨k,e⟩|⟨k,c,e,z⟩
    ·refine .inl ⟨k,?_⟩;have:y≠x:=λe=>hj (uZ hN e1 (e ▸ hi));simp[this,e]
    ·exact .inr ⟨k,c,e,z.sameBut hs (cne y c e)⟩
  ·obtain⟨w',z⟩:=I.cell y c e;exact⟨w',z.sameBut hs (cne y c e)⟩
  ·obtain⟨e,n,ne,nf,d⟩:=I.pin p hp;exact⟨(hs.2 p.1 ne).trans e,n,ne,nf,d⟩
 ·have hfn:X.fn x=true:=by
   rcases hf with z|z
   ·exact z
   ·rw[z]at hk;cases hk
  obtain⟨c,hc⟩:=I.ok.has x (.inl hk);obtain⟨w',z⟩:=I.cell x c hc;refine wpAny_storeName_cell I.ok.kind hk hc z (λh' hc' hs=>?_);obtain⟨oc,hoc,hocd⟩:=id z;refine h { s with heap:=h' } ⟨I.ok,I.os,I.bare,⟨λb o e n hb hx=>?_,λb o e n hb hx=>?_,I.base.free,λb o e hx=>?_,I.base.tups,I.base.frzs,I.base.tbls⟩,⟨m,hn.sameBut hs (Ne.symm (cne x c hc)),λj y v' e1 e2 e3=>?_⟩,λy c' e=>?_,I.free,I.freeC,λp hp=>?_,tracked ⟨oc,hoc,I.freeC x c hc⟩ hs,by simpa using I.len,I.tk⟩ ⟨c,hs,.inr hc⟩ ⟨m,hn.sameBut hs (Ne.symm (cne x c hc)),.inr ⟨.inl hk,c,hc,hc'⟩⟩
  ·exact(hs.2 b (Vf (Vc (Ai e) (I.ok.cab x c hfn hc)))).trans (I.base.keep b o e n hb hx)
  ·obtain⟨sl,e1⟩:=I.base.slot b o e n hb hx;exact⟨sl,(hs.2 b (Vf (Vc (Ai e) (I.ok.cab x c hfn hc)))).trans e1⟩
  ·obtain⟨o',e1⟩:=I.base.there b o e hx;exact⟨o',(hs.2 b (Vf (Vc (Ai e) (I.ok.cab x c hfn hc)))).trans e1⟩
  ·by_cases hj:j=i
   ·subst hj;rw[hi]at e1;cases e1;rw[Dd hiσ]at e2;cases e2;exact⟨u,r,.inr ⟨.inl hk,c,hc,hc'⟩⟩
   ·rw[List.getElem?_set_ne (Ne.symm hj)]at e2;obtain⟨u',r',q⟩:=hl j y v' e1 e2 e3;refine⟨u',r',?_⟩;rcases q with q|⟨k,c',e,z'⟩
    ·exact .inl q
    ·refine .inr ⟨k,c',e,z'.sameBut hs ?_⟩;rintro rfl;exact hj (uZ hN e1 (I.ok.inj _ _ _ e hc ▸ hi))
  ·by_cases hcc:c'=c
   ·subst hcc;exact⟨_,hc'⟩
   ·obtain⟨w2,z2⟩:=I.cell y c' e;exact⟨w2,z2.sameBut hs hcc⟩
  ·obtain⟨e,n,ne,nf,d⟩:=I.pin p hp;refine⟨(hs.2 p.1 ?_).trans e,n,ne,nf,d⟩;intro q;rw[q,hoc]at e;have q':oc=p.2:=Option.some.inj e;exact d w' (by rw[<-q'];exact hocd)
def EE(I:Inv X Ti σ H s)(hN:X.N.Nodup)(hi:X.N[i]?=some x)(hx:Loc X.env.scope x)(r:RelV v u)
  (h:∀s',Inv X Ti (σ.set i (some v)) H s'->Q () s')(hf:X.fn x=true\/X.env.scope.names.lookup x=some .local:=by first|exact .inl rfl|exact .inr rfl|assumption):wpAny M A (storeName X.env x u) Q E s :=
 rM I hN hi hx r (λs' I' _ _=>h s' I') hf
def Inv.call'{s':Tb}(I:Inv X Ti σ H s)(ho:s'.os=s.os)(u:Un (wS X.stack) ch H H' s.heap s'.heap)(hok:Ud X.prog X.w H' s'.heap)(hg:AllBare s'.gens)
  (hch:∀b∈ch,(b∈X.ex\/X.s₀.heap.objs.size<=b)/\b≠X.env.locals/\(∀x c,X.env.cells.lookup x=some c->c≠b)/\∀p∈X.pn++Ti,p.1≠b)(ht:0<s'.toks):Inv X Ti σ H' s':=by
 obtain⟨h',g',d',t',o'⟩:=s';have e:o'=s.os:=ho;subst e;exact I.call (g':=g') (t':=t') (d':=d') u hok hg hch ht
end
abbrev XK:=Value->Option Addr->Hp->Prop
abbrev St:=List (Option V)
abbrev VK:=V->Hp->Prop
abbrev TE:=St->Hp->VK->Prop
abbrev TT:=St->Hp->(Bool->Hp->Prop)->Prop
abbrev TA:=St->Hp->(List V->Hp->Prop)->Prop
structure Ends where
 nx:St->Hp->Prop
 rt:VK
 bk:St->Hp->Prop:=λ_ _=>False
 ct:St->Hp->Prop:=λ_ _=>False
abbrev TS:=Ends->St->Hp->Prop
inductive EP(X:Cx)(Ti:List (Addr×Obj))(σ:St)(Q:VK)(u:Value)(s':Shared):Prop
 | mk (v:V) (H':Hp) (I:Inv X Ti σ H' s') (r:RelV v u) (q:Q v H')
def TP(X:Cx)(Ti:S8 (Td×Obj))(σ:St)(Q:Te->Hp->Prop)(b:Te)(s':Tb):Prop:=∃H',Inv X Ti σ H' s'/\Q b H'
inductive AP(X:Cx)(Ti:List (Addr×Obj))(σ:St)(Q:List V->Hp->Prop)(us:List Value)(s':Shared):Prop
 | mk (vs:List V) (H':Hp) (I:Inv X Ti σ H' s') (r:Tp vs us) (q:Q vs H')
def SP(X:Cx)(Ti:S8 (Td×Obj))(D:Ends)(f:Flow)(s':Tb):Prop :=
 match f with|.next=>∃σ' H',Inv X Ti σ' H' s'/\D.nx σ' H'|.brk=>∃σ' H',Inv X Ti σ' H' s'/\D.bk σ' H'|.cont=>∃σ' H',Inv X Ti σ' H' s'/\D.ct σ' H'|.ret u=>∃v σ' H',Inv X Ti σ' H' s'/\RelV v u/\D.rt v H'
def PE(X:Cx)(e:Expr)(t:TE):Prop :=
 ∀(Ti:S8 (Td×Obj))(s:Tb)(σ:St)(H:Hp)(Q:VK),Inv X Ti σ H s->t σ H Q->wpAny (model X.prog X.w) X.A (eval e X.env) (EP X Ti σ Q) X.xe s
def PT(X:Cx)(e:Expr)(t:TT):Prop :=
 ∀(Ti:S8 (Td×Obj))(s:Tb)(σ:St)(H:Hp)(Q:Te->Hp->Prop),Inv X Ti σ H s->t σ H Q->wpAny (model X.prog X.w) X.A (isTrue e X.env (eval e X.env)) (TP X Ti σ Q) X.xe s
def PW(X:Cx)(e:Expr)(t:TT):Prop :=
 ∀(whole:Sem Ta)(Ti:S8 (Td×Obj))(s:Tb)(σ:St)(H:Hp)(Q:Te->Hp->Prop),Inv X Ti σ H s->t σ H Q->wpAny (model X.prog X.w) X.A (isTrue e X.env whole) (TP X Ti σ Q) X.xe s
def PW.pt(h:PW X e t):PT X e t:=h _
def PA(X:Cx)(es:S8 Expr)(t:TA):Prop :=
 ∀(pos:Pos)(Ti:S8 (Td×Obj))(s:Tb)(σ:St)(H:Hp)(Q:S8 V->Hp->Prop),Inv X Ti σ H s->t σ H Q->wpAny (model X.prog X.w) X.A (spliced (backTo pos (starEach es X.env))) (AP X Ti σ Q) X.xe s
def PS(X:Cx)(st:Stmt)(t:TS):Prop :=
 ∀(Ti:S8 (Td×Obj))(s:Tb)(σ:St)(H:Hp)(D:Ends),Inv X Ti σ H s->t D σ H->wpAny (model X.prog X.w) X.A (exec st X.env) (SP X Ti D) X.xe s
def UG(X:Cx)(st:S8 Stmt)(t:TS):Prop :=
 ∀(Ti:S8 (Td×Obj))(s:Tb)(σ:St)(H:Hp)(D:Ends),Inv X Ti σ H s->t D σ H->wpAny (model X.prog X.w) X.A (execs st X.env) (SP X Ti D) X.xe s
def cb(h:wpAny M A t Q E s)(hQ:∀a s,Q a s->Q' a s):wpAny M A t Q' E s:=Ax h hQ λ_ _ x=>x
section
variable {X:Cx}
def tf(i:Nat):TE:=λσ H Q=>∃v,σ[i]?=some (some v)/\Q v H
def tC(v:V):TE:=λ_ H Q=>Q v H
def Mk(hN:X.N[i]?=some x)(hv:R3 X.env.scope x)(hd:(x == ("__debug__":Str))=false:=by decide)(hcd:(x == ("__classdict__":Str))=false:=by decide):PE X (.Name x pos) (tf i):=by
 intro Ti s σ H Q I h;obtain⟨v,e,h⟩:=h;obtain⟨m,hn,hl⟩:=I.loc;obtain⟨u,r,l⟩:=hl i x v hN e hv;have fin:EP X Ti σ Q u s:=⟨v,H,I,r,h⟩;rcases l with⟨hk,hm⟩|⟨hk,c,hc,hcell⟩
 ·exact wpAny_Name (wpAny_loadName_local I.ok.kind hk hn hm fin) hd
 ·rcases hk with hk|hk
  ·exact wpAny_Name (wpAny_loadName_cell I.ok.kind hk hc hcell fin) hd
  ·exact wpAny_Name (wpAny_loadName_free I.ok.kind hk hc hcell fin hcd) hd
def ah{i j pos}:PE X (.Constant (.int i) j pos) (tC (.int i)):=λ_ _ _ H _ I h=>Bk ⟨.int i,H,I.tok _,⟨_,rfl⟩,h⟩
def mB{b j pos}:PE X (.Constant (.bool b) j pos) (tC (.bl b)):=λ_ _ _ H _ I h=>Constant_bool ⟨.bl b,H,I,rfl,h⟩
def EF{j pos}:PE X (.Constant .none j pos) (tC .non):=λ_ _ _ H _ I h=>Constant_none ⟨.non,H,I,rfl,h⟩
def cn{x j pos}:PE X (.Constant (.str x) j pos) (tC (.str x)):=λ_ _ _ H _ I h=>Calls.Constant_str ⟨.str x,H,I.tok _,⟨_,rfl⟩,h⟩
def Gl(X:Cx)(x:Str):Prop:=X.env.kindOf x=some .globalImplicit
def yj(I:Inv X Ti σ H s)(hg:Gl X x)(hm:X.mg x=some u)(h:Q u s)
  (hd:(x == ("__debug__":Str))=false:=by decide):wpAny (model X.prog X.w) X.A (eval (.Name x pos) X.env) Q E s :=
 C4 I.ok.kind hg (Calls.loadGlobal_global (by rw[I.ok.glob];exact I.mod.glob.keeps I.bk) hm h) hd
def hV(I:Inv X Ti σ H s)(hg:Gl X x)(hm:X.mg x=none)(hv:bootBuiltins x=some u)(h:Q u s)
  (hn:x≠"__name__":=by decide)(hd:(x == ("__debug__":Str))=false:=by decide):wpAny (model X.prog X.w) X.A (eval (.Name x pos) X.env) Q E s:=by
 obtain⟨mb,h1,h2⟩:=I.mod.blt;exact C4 I.ok.kind hg (Calls.loadGlobal_builtin (by rw[I.ok.glob];exact I.mod.glob.keeps I.bk) hm (by rw[I.ok.blt];exact h1.keeps I.bk) ((h2 x hn).trans hv) h) hd
def yk(hg:Gl X x)(hm:X.mg x=some u)(r:RelV v u)(hd:(x == ("__debug__":Str))=false:=by decide):PE X (.Name x pos) (tC v) :=
 λ_ _ _ H _ I h=>yj I hg hm ⟨v,H,I,r,h⟩ hd
def IA(hg:Gl X x)(hm:X.mg x=none)(hv:bootBuiltins x=some u)(r:RelV v u)(hn:x≠"__name__":=by decide)(hd:(x == ("__debug__":Str))=false:=by decide):PE X (.Name x pos) (tC v) :=
 λ_ _ _ H _ I h=>hV I hg hm hv ⟨v,H,I,r,h⟩ hn hd
variable {a b:Expr}{ta tb:TE}{pos:Pos}
def tB(t:TE):TT:=λσ H Q=>t σ H λx H1=>∃c,x=.bl c/\Q c H1
def iG{e:Expr}(h:PE X e t)(he:∀whole,isTrue e X.env whole=(do let v <-whole;standAt e.pos;holding [v] (truthy v)):=by intro _;rfl):PT X e (tB t):=by
 intro Ti s σ H Q I hw;refine isTrue_plain (cb (h Ti s σ H _ I hw) λv s1 zz9=>?_) (he _);obtain⟨x,H1,I1,r1,q1⟩:=zz9;obtain⟨d,rfl,q⟩:=q1;cases r1;exact Av ⟨H1,I1,q⟩
variable {tA tB':TT}{rest:S8 Expr}
def Ps(t u:TT):TT:=λσ H Q=>t σ H λc H1=>if c=true then u σ H1 Q else Q false H1
def SJ(t u:TT):TT:=λσ H Q=>t σ H λc H1=>if c=true then Q true H1 else u σ H1 Q
def Pt(t:TT):TT:=λσ H Q=>t σ H λc H1=>Q (!c) H1
theorem yl(ha:PT X a tA):PW X (.BoolOp .And [a] pos) tA:=by
 intro wh Ti s σ H Q I h;refine isTrue_and (cb (ha Ti s σ H Q I h) λc s1 e=>?_);cases c with|true=>exact isTrue_and_nil e|false=>exact e
theorem EG(ha:PT X a tA):PW X (.BoolOp .Or [a] pos) tA:=by
 intro wh Ti s σ H Q I h;refine isTrue_or (cb (ha Ti s σ H Q I h) λc s1 e=>?_);cases c with|false=>exact isTrue_or_nil e|true=>exact e
theorem EH(ha:PT X a tA)(hb:PW X (.BoolOp .And (b::rest) pos) tB'):PW X (.BoolOp .And (a::b::rest) pos) (Ps tA tB'):=by
 intro wh Ti s σ H Q I h;refine isTrue_and (cb (ha Ti s σ H _ I h) λc s1 zz9=>?_);obtain⟨H1,I1,q1⟩:=zz9;cases c with|true=>exact hb wh Ti s1 σ H1 Q I1 q1|false=>exact⟨H1,I1,q1⟩
theorem KM(ha:PT X a tA)(hb:PW X (.BoolOp .Or (b::rest) pos) tB'):PW X (.BoolOp .Or (a::b::rest) pos) (SJ tA tB'):=by
 intro wh Ti s σ H Q I h;refine isTrue_or (cb (ha Ti s σ H _ I h) λc s1 zz9=>?_);obtain⟨H1,I1,q1⟩:=zz9;cases c with|true=>exact⟨H1,I1,q1⟩|false=>exact hb wh Ti s1 σ H1 Q I1 q1
def tm(ha:PT X a tA):PT X (.UnaryOp .Not a pos) (Pt tA):=by
 intro Ti s σ H Q I h;exact isTrue_not (ha Ti s σ H (λc H1=>Q (!c) H1) I h)
def KN(ta tb:TE):TE:=λσ H Q=>ta σ H λx H1=>∃c,x=.bl c/\if c=true then tb σ H1 Q else Q (.bl false) H1
def pI{op}(h:PE X a t):PE X (.BoolOp op [a] pos) t:=λTi s σ H Q I hw=>BoolOp_one (h Ti s σ H Q I hw)
theorem nH(ha:PE X a ta)(hb:PE X (.BoolOp .And (b::rest) pos) tb):PE X (.BoolOp .And (a::b::rest) pos) (KN ta tb):=by
 intro Ti s σ H Q I h;refine BoolOp_and (cb (ha Ti s σ H _ I h) λv s1 zz9=>?_);obtain⟨x,H1,I1,r1,q1⟩:=zz9;obtain⟨c,rfl,q1⟩:=q1;cases r1;refine Av ?_;cases c with|true=>exact hb Ti s1 σ H1 Q I1 q1|false=>exact⟨.bl false,H1,I1,rfl,q1⟩
def SK(t:TT)(ta tb:TE):TE:=λσ H Q=>t σ H λc H1=>if c=true then ta σ H1 Q else tb σ H1 Q
theorem mC(hc:PT X c tA)(ha:PE X a ta)(hb:PE X b tb):PE X (.IfExp c a b pos) (SK tA ta tb):=by
 intro Ti s σ H Q I h;refine wpAny_IfExp (cb (hc Ti s σ H _ I h) λd s1 zz9=>?_);obtain⟨H1,I1,q1⟩:=zz9;cases d with|true=>exact ha Ti s1 σ H1 Q I1 q1|false=>exact hb Ti s1 σ H1 Q I1 q1
end
def gR(K:PySem.W.Frag)(H:Hp)(a:Td)(xs:S8 V):Prop :=
 Rd H a (.lst xs) \/
  ∃(o:Obj)(its:Tc Ta)(n:Nat),K.lookup a=some o/\o.cls=.type "list"/\o.dict=none/\o.data=.seq its n/\its.size<=sizeLine/\Tp xs its.toList
def iH(K:PySem.W.Frag)(H:Hp)(a:Td)(xs:S8 V):Prop :=
 Rd H a (.tup xs) \/
  ∃(o:Obj)(its:Tc Ta)(n:Nat),K.lookup a=some o/\o.cls=.type "tuple"/\o.data=.seq its n/\its.size<=sizeLine/\Tp xs its.toList
def R4:Ta->S9 V|.none=>some .non|.bool b=>some (.bl b)|.int i _=>some (.int i)|.str x _=>some (.str x)|.bytes b _=>some (.byt b)|.float b _=>some (.flt b)|.ref a=>some (.ref a)|.type n=>some (.ty n)|_=>none
theorem RelV.abs(r:RelV x u):R4 u=some x:=by
 cases x with
 |non=>cases r;rfl
 |bl _=>cases r;rfl
 |int _=>obtain⟨t,rfl⟩:=r;rfl
 |str _=>obtain⟨t,rfl⟩:=r;rfl
 |byt _=>obtain⟨t,rfl⟩:=r;rfl
 |flt _=>obtain⟨t,rfl⟩:=r;rfl
 |ref _=>cases r;rfl
 |ty _=>cases r;rfl
theorem RelV.inj(r:RelV x u)(q:RelV y u):x=y:=Option.some.inj (r.abs.symm.trans q.abs)
theorem Tp.inj:∀{xs ys:S8 V}{us:S8 Ta},Tp xs us->Tp ys us->xs=ys|_,_,_,.nil,.nil=>rfl|_,_,_,.cons r t,.cons r' t'=>by rw[r.inj r',Tp.inj t t']
section
variable {X:Cx}{Ti:S8 (Td×Obj)}{σ:St}{H:Hp}{s:Tb}{a:Td}{xs ys:S8 V}
def Inv.list(I:Inv X Ti σ H s)(h:gR X.K H a xs):∃its:S8 Ta,Tp xs its/\PlainL s.heap a its.toArray/\xs.length<=sizeLine:=by
 rcases h with h|⟨o,its,n,hk,hc,hd,hs,hz,r⟩
 ·obtain⟨z,its,n,r,e⟩:=h.ok I.hok;exact⟨its,r,⟨_,n,e,rfl,rfl,rfl⟩,z⟩
 ·refine⟨its.toList,r,⟨o,n,I.kIn a o hk,hc,hd,by simpa using hs⟩,?_⟩
  have e:=r.length;simp only[Yd]at e;lia
def Inv.tuple(I:Inv X Ti σ H s)(h:iH X.K H a xs):∃its:S8 Ta,Tp xs its/\IsTup s.heap a its.toArray/\xs.length<=sizeLine:=by
 rcases h with h|⟨o,its,n,hk,hc,hs,hz,r⟩
 ·obtain⟨z,its,r,p⟩:=h.ok I.hok;exact⟨its,r,p,z⟩
 ·refine⟨its.toList,r,⟨o,I.kIn a o hk,hc,n,by simpa using hs⟩,?_⟩
  have e:=r.length;simp only[Yd]at e;lia
def Inv.list_inj(I:Inv X Ti σ H s)(h:gR X.K H a xs)(h':gR X.K H a ys):xs=ys:=by
 obtain⟨its,r,⟨o,n,e,_,_,d⟩,_⟩:=I.list h;obtain⟨its',r',⟨o',n',e',_,_,d'⟩,_⟩:=I.list h';rw[e]at e';cases e';rw[d]at d';injection d' with d1 _;have:its=its':=by simpa using congrArg Array.toList d1
 subst this;exact r.inj r'
def Inv.tuple_inj(I:Inv X Ti σ H s)(h:iH X.K H a xs)(h':iH X.K H a ys):xs=ys:=by
 obtain⟨its,r,⟨o,e,_,n,d⟩,_⟩:=I.tuple h;obtain⟨its',r',⟨o',e',_,n',d'⟩,_⟩:=I.tuple h';rw[e]at e';cases e';rw[d]at d';injection d' with d1 _;have:its=its':=by simpa using congrArg Array.toList d1
 subst this;exact r.inj r'
end
abbrev Cx.wish(X:Cx)(E:Value->Shared->Prop):Cx:={ X with xe:=E }
abbrev Cx.nox(X:Cx):Cx:=X.wish λ_ _=>False
theorem Cx.Ok.wish{X:Cx}(ok:X.Ok)(E:Ta->Tb->Prop):(X.wish E).Ok :=
 ⟨ok.mod,ok.kind,ok.glob,ok.blt,ok.above,ok.inj,ok.has,ok.cab,ok.hd,ok.frames,ok.stk,ok.exf,ok.bs,ok.bsz,ok.noex,ok.exfs,ok.funs,ok.frf⟩
def Cx.Ok.unwish{X:Cx}(ok:(X.wish E).Ok):X.Ok :=
 ⟨ok.mod,ok.kind,ok.glob,ok.blt,ok.above,ok.inj,ok.has,ok.cab,ok.hd,ok.frames,ok.stk,ok.exf,ok.bs,ok.bsz,ok.noex,ok.exfs,ok.funs,ok.frf⟩
section
variable {X:Cx}{Ti:S8 (Td×Obj)}{σ:St}{H:Hp}{s:Tb}{E:Ta->Tb->Prop}
theorem Inv.wish(I:Inv X Ti σ H s)(E:Ta->Tb->Prop):Inv (X.wish E) Ti σ H s:=⟨I.ok.wish E,I.os,I.bare,I.base,I.loc,I.cell,I.free,I.freeC,I.pin,I.hok,I.len,I.tk⟩
theorem Inv.unwish(I:Inv (X.wish E) Ti σ H s):Inv X Ti σ H s:=⟨I.ok.unwish,I.os,I.bare,I.base,I.loc,I.cell,I.free,I.freeC,I.pin,I.hok,I.len,I.tk⟩
theorem SP.unwish(h:SP (X.wish E) Ti D f s'):SP X Ti D f s':=by
 cases f with
 |next=>obtain⟨σ',H',I,q⟩:=h;exact⟨σ',H',I.unwish,q⟩
 |brk=>obtain⟨σ',H',I,q⟩:=h;exact⟨σ',H',I.unwish,q⟩
 |cont=>obtain⟨σ',H',I,q⟩:=h;exact⟨σ',H',I.unwish,q⟩
 |ret u=>obtain⟨v,σ',H',I,r,q⟩:=h;exact⟨v,σ',H',I.unwish,r,q⟩
theorem UG.nox{st:S8 Stmt}{t:TS}(h:UG X.nox st t):UG X st t:=λTi s σ H D I hw=>
 Ax (h Ti s σ H D (I.wish _) hw) (λ_ _ q=>q.unwish) λ_ _ z=>False.elim z
end
section
variable {X:Cx}{st:Stmt}{rest:S8 Stmt}{t u:TS}{e:Expr}{te:TE}{pos:Pos}
def KO:TS:=λD σ H=>D.nx σ H
def Pu(t u:TS):TS:=λD σ H=>t { D with nx:=u D } σ H
def bn:UG X [] KO:=λ_ _ σ H _ I h=>BM ⟨σ,H,I,h⟩
theorem af(h1:PS X st t)(h2:UG X rest u):UG X (st::rest) (Pu t u):=by
 intro Ti s σ H D I h;refine wpAny_execs_cons (cb (h1 Ti s σ H { D with nx:=u D } I h) λf s1 q=>?_);cases f with
 |next=>
  obtain⟨σ',H',I',q⟩:=q;exact h2 Ti s1 σ' H' D I' q
 |ret v=>exact q
 |brk=>exact q
 |cont=>exact q
theorem ak(h1:PS X st t):UG X [st] t:=by
 intro Ti s σ H D I h;refine wpAny_execs_cons (cb (h1 Ti s σ H D I h) λf s1 q=>?_);cases f with|next=>exact BM q|ret v=>exact q|brk=>exact q|cont=>exact q
def Inv.quiet(I:Inv X Ti σ H s):interactive X.env=false:=by simp[interactive,I.ok.kind]
def KQ(te:TE):TS:=λD σ H=>te σ H λ_ H1=>D.nx σ H1
def dL(he:PE X e te)(hs:swapsWith e none pos.line X.env=pure false:=by rfl):PS X (.Expr e pos) (KQ te):=by
 intro Ti s σ H D I h;exact wpAny_Expr_any (cb (he Ti s σ H _ I h) λv s1 ⟨x,H1,I1,r1,q1⟩=>⟨σ,H1,I1,q1⟩) I.quiet hs
def Pv(te:TE):TS:=λD σ H=>te σ H D.rt
def aD(he:PE X e te):PS X (.Return (some e) pos) (Pv te):=by
 intro Ti s σ H D I h;exact wpAny_Return_some (cb (he Ti s σ H _ I h) λv s1 ⟨x,H1,I1,r1,q1⟩=>⟨x,σ,H1,I1,r1,q1⟩)
def Pw(c:TT)(t u:TS):TS:=λD σ H=>c σ H λb H1=>if b=true then t D σ H1 else u D σ H1
theorem bZ(hc:PT X c tc)(ha:UG X a t)(hb:UG X b u):PS X (.If c a b pos) (Pw tc t u):=by
 intro Ti s σ H D I h;refine wpAny_If (cb (hc Ti s σ H _ I h) λd s1 zz9=>?_);obtain⟨H1,I1,q1⟩:=zz9;cases d with|true=>exact ha Ti s1 σ H1 D I1 q1|false=>exact hb Ti s1 σ H1 D I1 q1
def EI:TS:=λ_ _ _=>False
def mE:PS X st EI:=λ_ _ _ _ _ _ h=>h.elim
end
abbrev TG:=V->St->Hp->(St->Hp->Prop)->Prop
abbrev O9:=List V->St->Hp->(St->Hp->Prop)->Prop
def PG(X:Cx)(target:Expr)(t:TG):Prop :=
 ∀(Ti:S8 (Td×Obj))(s:Tb)(σ:St)(H:Hp)(v:V)(u:Ta)(Q:St->Hp->Prop),Inv X Ti σ H s->RelV v u->t v σ H Q->
  wpAny (model X.prog X.w) X.A (assign target X.env u) (λ_ s'=>∃σ' H',Inv X Ti σ' H' s'/\Q σ' H') X.xe s
def Px(X:Cx)(ts:S8 Expr)(t:O9):Prop :=
 ∀(Ti:S8 (Td×Obj))(s:Tb)(σ:St)(H:Hp)(vs:S8 V)(us:S8 Ta)(Q:St->Hp->Prop),Inv X Ti σ H s->Tp vs us->t vs σ H Q->
  wpAny (model X.prog X.w) X.A (assignInOrder ((assignEach ts X.env).map (·.2)) us) (λ_ s'=>∃σ' H',Inv X Ti σ' H' s'/\Q σ' H') X.xe s
abbrev IB:=V->V->V->Hp->(Hp->Prop)->Prop
def Ml(X:Cx)(t:IB):Prop :=
 ∀(Ti:S8 (Td×Obj))(s:Tb)(σ:St)(H:Hp)(o i v:V)(ov iv u:Ta)(Q:Hp->Prop),Inv X Ti σ H s->RelV o ov->RelV i iv->RelV v u->t o i v H Q->
  wpAny (model X.prog X.w) X.A (setItem ov iv u) (λ_ s'=>∃H',Inv X Ti σ H' s'/\Q H') X.xe s
section
variable {X:Cx}{pos:Pos}
def pJ(i:Nat):TG:=λv σ H Q=>Q (σ.set i (some v)) H
def yn(hN:X.N.Nodup)(hi:X.N[i]?=some x)(hx:Loc X.env.scope x)(hf:X.fn x=true\/X.env.scope.names.lookup x=some .local:=by first|exact .inl rfl|exact .inr rfl|assumption):PG X (.Name x pos) (pJ i):=by
 intro Ti s σ H v u Q I r h;exact wpAny_assign_Name (EE I hN hi hx r (λs' I'=>⟨_,H,I',h⟩) hf)
def Py:O9:=λvs σ H Q=>vs=[]/\Q σ H
def KR(t:TG)(u:O9):O9:=λvs σ H Q=>∃v r,vs=v::r/\t v σ H λσ' H'=>u r σ' H' Q
def ke:Px X [] Py:=by
 intro Ti s σ H vs us Q I r h;obtain⟨e,h⟩:=h;subst e;cases r;exact assignInOrder_nil ⟨σ,H,I,h⟩
def bW(h1:PG X e t)(h2:Px X es u)
  (hs:(assignEach (e::es) X.env).map (·.2)=assign e X.env::(assignEach es X.env).map (·.2):=by rfl):Px X (e::es) (KR t u):=by
 intro Ti s σ H vs us Q I r h;obtain⟨v,vr,e1,h⟩:=h;subst e1;cases r with
 |cons r rr=>
  rw[hs];refine assignInOrder_cons (cb (h1 Ti s σ H _ _ _ I r h) λ_ s1 zz9=>?_);obtain⟨σ1,H1,I1,q1⟩:=zz9;exact h2 Ti s1 σ1 H1 _ _ Q I1 rr q1
def Mm(K:PySem.W.Frag)(n:Nat)(t:O9):TG:=λv σ H Q=>∃a xs,v=.ref a/\iH K H a xs/\xs.length=n/\t xs σ H Q
def Mn(hc:X.calm=true)(h:Px X es t)
  (hn:(assignEach es X.env).length=n:=by rfl)(hst:(assignEach es X.env).findIdx? (·.1)=none:=by rfl):PG X (.Tuple es k pos) (Mm X.K n t):=by
 intro Ti s σ H v u Q I r hw;obtain⟨a,xs,e1,hq,hl,hw⟩:=hw;subst e1;cases r;obtain⟨its,rv,ht,hz⟩:=I.tuple hq;refine assign_Tuple_tuple (I.ok.hd hc) ht (by simp[hn,<-hl,rv.length]) hst λh' hx=>?_
 have I1:Inv X Ti σ H { s with heap:=h' }:=I.kept (t':=s.toks) λb o e=>hx b o (Vf (Ai e)) e;exact h Ti _ σ H xs _ Q I1 (by simpa using rv) hw
def Pz(to ti:TE)(t:IB):TG:=λv σ H Q=>to σ H λo H1=>ti σ H1 λi H2=>t o i v H2 λH3=>Q σ H3
def cR(ho:PE X o to)(hi:PE X i ti)(hs:Ml X t)
  (ha:∀v,assign (.Subscript o i pos) X.env v=(do
   let ov <-holding [v] (eval o X.env)
   let iv <-holding [v,ov] (eval i X.env)
   standAt pos
   holding [v,ov,iv] (setItem ov iv v)
   release [v,ov,iv] []):=by intro _;rfl):PG X (.Subscript o i pos) (Pz to ti t):=by
 intro Ti s σ H v u Q I r h;rw[ha];refine Aa (Aw (cb (ho Ti s σ H _ I h) λov s1 zz9=>?_));obtain⟨x,H1,I1,r1,q1⟩:=zz9;refine Aa (Aw (cb (hi Ti s1 σ H1 _ I1 q1) λiv s2 zz9=>?_));obtain⟨y,H2,I2,r2,q2⟩:=zz9;refine Aa (B5 (Aa (Aw (cb (hs Ti s2 σ H2 x y v ov iv u _ I2 r1 r2 r q2) λ_ s3 zz9=>?_))));obtain⟨H3,I3,q3⟩:=zz9;exact wpAny_release ⟨σ,H3,I3,q3⟩
def wT(te:TE)(g:TG):TS:=λD σ H=>te σ H λx H1=>g x σ H1 D.nx
def cA(he:PE X e te)(hg:PG X tg g)(hs:swapsWithSole [tg] e pos.line X.env=pure false:=by rfl)(hw:swappedStores [tg] e X.env=pure none:=by rfl)
  (h1:(assignEach [tg] X.env).map (·.2)=[assign tg X.env]:=by rfl):PS X (.Assign [tg] e pos) (wT te g):=by
 intro Ti s σ H D I h;refine wpAny_Assign_stores (cb (he Ti s σ H _ I h) λv s1 zz9=>?_) hs hw;obtain⟨x,H1,I1,r1,q1⟩:=zz9;rw[h1];exact cb (hg Ti s1 σ H1 x v _ I1 r1 q1) λ_ s2 q=>q
end
section
variable {X:Cx}{pos:Pos}
def EJ(c:TT)(tb:TS):TS:=λD σ H=>∃W:Nat->St->Hp->Prop,(∃m,W m σ H)/\∀m σ H,W m σ H->
 c σ H λb H1=>if b=true then ∃N:St->Hp->Prop,(∀σ' H',N σ' H'->∃m',m'<m/\W m' σ' H')/\tb { D with nx:=N,ct:=N,bk:=D.nx } σ H1 else D.nx σ H1
theorem mF(hp:PassesOwn (model X.prog X.w) X.A X.env X.xe)(hc:PT X c tc)(hb:UG X body tb):PS X (.While c body [] pos) (EJ tc tb):=by
 intro Ti s σ H D I h;obtain⟨W,⟨m0,w0⟩,turn⟩:=h;refine wpAny_While (codeAny_whileLoop (λn s'=>∃σ' H',Inv X Ti σ' H' s'/\W n σ' H') ?_ m0 ⟨σ,H,I,w0⟩);rintro n s1 ⟨σ1,H1,I1,w1⟩;refine AJ hp (cb (hc Ti s1 σ1 H1 _ I1 (turn n σ1 H1 w1)) λb s2 zz9=>?_);obtain⟨H2,I2,q2⟩:=zz9;cases b with
 |true=>
  obtain⟨N,hN,q2⟩:=q2;rw[Af rfl];refine AJ hp (cb (hb Ti s2 σ1 H2 _ I2 q2) λf s3 q3=>?_);cases f with
  |next=>
   obtain⟨σ3,H3,I3,n3⟩:=q3;obtain⟨m',hm,w3⟩:=hN σ3 H3 n3;exact⟨m',hm,σ3,H3,I3,w3⟩
  |cont=>
   obtain⟨σ3,H3,I3,n3⟩:=q3;obtain⟨m',hm,w3⟩:=hN σ3 H3 n3;exact⟨m',hm,σ3,H3,I3,w3⟩
  |brk=>exact q3
  |ret v=>exact q3
 |false=>
  rw[Ah Xd];exact BM ⟨σ1,H2,I2,q2⟩
end
structure It where
 go:Nat->Hp->Prop
 yld:Nat->Hp->V->Hp->Prop
 stop:Nat->Hp->Prop
def mG(X:Cx)(Ti:S8 (Td×Obj))(H:Hp)(b:Td):Prop :=
 H b=none/\b≠X.env.locals/\b∉X.fs/\(b∈X.ex\/X.s₀.heap.objs.size<=b)/\(∀x c,X.env.cells.lookup x=some c->c≠b)/\∀p∈X.pn++Ti,p.1≠b
def Inv.fpOk{s:Tb}(I:Inv X Ti σ H s)(hb:s.heap.objs.size<=b)(hn:H' b=none):mG X Ti H' b:=by
 refine⟨hn,Bj (Vc I.lt hb),I.nofs hb,.inr (Ye I.sz hb),λx c e z=>?_,λp hp z=>?_⟩
 ·obtain⟨v,q⟩:=I.cell x c e;exact absurd (Vc q.lt (by rw[z];exact hb)) (Xh _)
 ·exact absurd (Vc (Ai (I.pin p hp).1) (by rw[z];exact hb)) (Xh _)
structure Turn(P:Program)(w:World)(K:PySem.W.Frag)(tg:Expr)(J:It)(fp:List Addr)(it:Addr)(tn:Nat->Heap->Prop):Prop where
 mem:it∈fp
 obj:∀i h,tn i h->∀b∈fp,∃o,h.get? b=some o/\∀v,o.data≠.cell v
 keep:∀i h h',tn i h->(∀b∈fp,∀o,h.get? b=some o->h'.get? b=some o)->tn i h'
 item:∀(X:Cx),X.prog=P->X.w=w->X.K=K->X.calm=true->∀(i:Nat)(Ti:List (Addr×Obj))(s:Shared)(σ:St)(H:Hp)(E:Value->Shared->Prop),Inv X Ti σ H s->(∀b∈fp,mG X Ti H b)->tn i s.heap->J.go i H->
  wpAny (model P w) X.A (pyNext (.ref it)) (λr s1=>∃u,r=some u /\
   wpAny (model P w) X.A (letOwnedTupleGo tg (.ref it) u) (λ_ s2=>∃x H',Inv X Ti σ H' s2/\RelV x u/\J.yld i H x H'/\tn (i+1) s2.heap/\∀b∈fp,H' b=none) E s1) E s
 done:∀(X:Cx),X.prog=P->X.w=w->X.K=K->X.calm=true->∀(i:Nat)(Ti:List (Addr×Obj))(s:Shared)(σ:St)(H:Hp)(E:Value->Shared->Prop),Inv X Ti σ H s->(∀b∈fp,mG X Ti H b)->tn i s.heap->J.stop i H->
  wpAny (model P w) X.A (pyNext (.ref it)) (λr s1=>r=none/\Inv X Ti σ H s1) E s
 self:∀(A:Around)(i:Nat)(s:Shared)(Q:Value->Shared->Prop)(E:Value->Shared->Prop),tn i s.heap->Q (.ref it) s->wpAny (model P w) A (pyIter (.ref it)) Q E s
abbrev TI:=St->Hp->(It->Hp->Prop)->Prop
inductive Vv(X:Cx)(Ti:List (Addr×Obj))(σ:St)(tg:Expr)(R:It->Hp->Prop)(itv:Value)(s2:Shared):Prop
 | mk (it:Addr) (fp:List Addr) (tn:Nat->Heap->Prop) (J:It) (H':Hp) (e:itv=.ref it) (I:Inv X Ti σ H' s2) (T:Turn X.prog X.w X.K tg J fp it tn) (t0:tn 0 s2.heap) (fo:∀b∈fp,mG X Ti H' b) (r:R J H')
def PI(X:Cx)(tg iter:Expr)(wi:TI):Prop :=
 ∀(Ti:S8 (Td×Obj))(s:Tb)(σ:St)(H:Hp)(R:It->Hp->Prop),Inv X Ti σ H s->wi σ H R->
  wpAny (model X.prog X.w) X.A (eval iter X.env) (λv s1=>wpAny (model X.prog X.w) X.A (pyIter v) (Vv X Ti σ tg R) X.xe s1) X.xe s
def pK{s : Tb}{o : Obj}(ho : s.heap.get? it = some o)(hc : o.cls = .type n)(hd : o.data = .fields vs)
    (hn : ["enumerate", "zip", "dict_itemiterator", "dict_reverseitemiterator", "odict_iterator", "itertools.zip_longest", "itertools.pairwise"].contains n = false)(hQ : Q () s) : wpAny M A (letOwnedTupleGo tg (.ref it) u) Q E s := by
  unfold letOwnedTupleGo;cases tg <;> first
    | exact Ac hQ
    | (cases u <;> first
        | exact Ac hQ
        | (refine Aa (wpAny_load ho ?_)
           rw [hc, hd];show wpAny M A (if (["enumerate", "zip", "dict_itemiterator", "dict_reverseitemiterator", "odict_iterator", "itertools.zip_longest", "itertools.pairwise"].contains n && vs[0]? == some (rawInt _)) = true then _ else _) Q E s;rw [Ah (by intro h; rw [hn, Bool.false_and] at h; cases h)]
           exact Ac hQ))
def SL(K:PySem.W.Frag)(a:Td):It :=
 ⟨λi H=>∃xs x,gR K H a xs/\xs[i]?=some x,λi H x H'=>H'=H/\∀xs,gR K H a xs->xs[i]?=some x,λi H=>∃xs,gR K H a xs/\xs.length<=i⟩
def SM(K:PySem.W.Frag)(a:Td):It :=
 ⟨λi H=>∃xs x,iH K H a xs/\xs[i]?=some x,λi H x H'=>H'=H/\∀xs,iH K H a xs->xs[i]?=some x,λi H=>∃xs,iH K H a xs/\xs.length<=i⟩
def PB(lo:Int)(n:Nat):It:=⟨λi _=>i<n,λi H x H'=>H'=H/\x=.int (lo+i),λi _=>n<=i⟩
def zX{P:Tf}{w:Th}{K:PySem.W.Frag}{tg:Expr}(a it:Td):Turn P w K tg (SL K a) [it] it (λi h=>h.IsListIter it a i) where
 mem:=by simp
 obj:=λi h st b hb=>by
  have e:b=it:=by simpa using hb
  subst e;obtain⟨o,e,c,d⟩:=st;exact⟨o,e,λv z=>by rw[d]at z;cases z⟩
 keep:=λi h h' st k=>st.at λo e=>k it (by simp) o e
 item:=by
  intro X hP hw hK hc i Ti s σ H E I hf st hg;subst hP hw hK;obtain⟨xs,x,hq,hx⟩:=hg;obtain⟨its,rv,p,hz⟩:=I.list hq;obtain⟨u,hu,ru⟩:=rv.get hx;obtain⟨f0,f1,f2,f3,f4,f5⟩:=hf it (by simp)
  refine wpAny_pyNext_list_item st p.isList (x:=u) (by simpa using hu) λh' Tn sb=>?_
  have I1:Inv X Ti σ H { s with heap:=h' }:=I.turned (t':=s.toks) (λb o hb e=>(sb.2 b hb).trans e) f0 f1 f3 f4 f5;obtain⟨o,e,c,d⟩:=id Tn;exact⟨u,rfl,pK (s:={ s with heap:=h' }) e c d (by decide) ⟨x,H,I1,ru,⟨rfl,λys hy=>by rw[I.list_inj hy hq];exact hx⟩,Tn,λb hb=>(hf b hb).1⟩⟩
 done:=by
  intro X hP hw hK hc i Ti s σ H E I hf st hg;subst hP hw hK;obtain⟨xs,hq,hx⟩:=hg;obtain⟨its,rv,p,hz⟩:=I.list hq;obtain⟨f0,f1,f2,f3,f4,f5⟩:=hf it (by simp)
  have hl:=rv.length;exact wpAny_pyNext_list_end (I.ok.hd hc) st p.isList (by simp;lia) λh' eb=>⟨rfl,I.turned (t':=s.toks) (λb o hb e=>eb b o hb e) f0 f1 f3 f4 f5⟩
 self:=λ_ _ _ _ _ st h=>wpAny_pyIter_listiter st h
def wU{P:Tf}{w:Th}{K:PySem.W.Frag}{tg:Expr}(a it:Td):Turn P w K tg (SM K a) [it] it (λi h=>h.IsTupleIter it a i) where
 mem:=by simp
 obj:=λi h st b hb=>by
  have e:b=it:=by simpa using hb
  subst e;obtain⟨o,e,c,d⟩:=st;exact⟨o,e,λv z=>by rw[d]at z;cases z⟩
 keep:=λi h h' st k=>st.at λo e=>k it (by simp) o e
 item:=by
  intro X hP hw hK hc i Ti s σ H E I hf st hg;subst hP hw hK;obtain⟨xs,x,hq,hx⟩:=hg;obtain⟨its,rv,p,hz⟩:=I.tuple hq;obtain⟨u,hu,ru⟩:=rv.get hx;obtain⟨f0,f1,f2,f3,f4,f5⟩:=hf it (by simp)
  refine wpAny_pyNext_tuple_item st (show s.heap.IsTuple a its.toArray from p) (x:=u) (by simpa using hu) λh' Tn sb=>?_
  have I1:Inv X Ti σ H { s with heap:=h' }:=I.turned (t':=s.toks) (λb o hb e=>(sb.2 b hb).trans e) f0 f1 f3 f4 f5;obtain⟨o,e,c,d⟩:=id Tn;exact⟨u,rfl,pK (s:={ s with heap:=h' }) e c d (by decide) ⟨x,H,I1,ru,⟨rfl,λys hy=>by rw[I.tuple_inj hy hq];exact hx⟩,Tn,λb hb=>(hf b hb).1⟩⟩
 done:=by
  intro X hP hw hK hc i Ti s σ H E I hf st hg;subst hP hw hK;obtain⟨xs,hq,hx⟩:=hg;obtain⟨its,rv,p,hz⟩:=I.tuple hq;obtain⟨f0,f1,f2,f3,f4,f5⟩:=hf it (by simp)
  have hl:=rv.length;exact wpAny_pyNext_tuple_end (I.ok.hd hc) st (show s.heap.IsTuple a its.toArray from p) (by simp;lia) λh' eb=>⟨rfl,I.turned (t':=s.toks) (λb o hb e=>eb b o hb e) f0 f1 f3 f4 f5⟩
 self:=λ_ _ _ _ _ st h=>wpAny_pyIter_tupleiter st h
def wV{P:Tf}{w:Th}{K:PySem.W.Frag}{tg:Expr}(it:Td)(lo:Int)(n:Nat):Turn P w K tg (PB lo n) [it] it (λi h=>IsRangeIter h it (lo+(i:Nat)*1) ((n:Int)-(i:Nat)) 1) where
 mem:=by simp
 obj:=λi h st b hb=>by
  have e:b=it:=by simpa using hb
  subst e
  exact⟨_,st,λv z=>by
   have z':Data.fields _=Data.cell v:=z
   cases z'⟩
 keep:=λi h h' st k=>k it (by simp) _ st
 item:=by
  intro X hP hw hK hc i Ti s σ H E I hf st hg;subst hP hw hK;obtain⟨f0,f1,f2,f3,f4,f5⟩:=hf it (by simp)
  have W:=Walks.range (prog:=X.prog) (w:=X.w) (I.ok.hd hc) it lo 1 n;refine bJ (W.item i s _ _ hg st λv h' tk hv Tn kk hle=>?_);have hle:s.toks<=tk:=hle;obtain⟨t,rfl⟩:=hv;have I1:Inv X Ti σ H { s with heap:=h',toks:=tk }:=I.turned (λb o hb e=>kk b o (by simpa using hb) e) f0 f1 f3 f4 f5
  refine⟨_,rfl,pK (s:={ s with heap:=h',toks:=tk }) (n:="range_iterator") Tn rfl rfl (by decide) ⟨.int (lo+i),H,I1,⟨t,?_⟩,⟨rfl,rfl⟩,Tn,λb hb=>(hf b hb).1⟩⟩
  rw[Int.mul_one]
 done:=by
  intro X hP hw hK hc i Ti s σ H E I hf st hg;subst hP hw hK;obtain⟨f0,f1,f2,f3,f4,f5⟩:=hf it (by simp)
  exact wpAny_pyNext_range_end (I.ok.hd hc) st (by have:n<=i:=hg;lia) λh' eb=>⟨rfl,I.turned (t':=s.toks) (λb o hb e=>eb b o hb e) f0 f1 f3 f4 f5⟩
 self:=λ_ _ _ _ _ st h=>wpAny_pyIter_rangeiter st h
section
variable {X:Cx}{tg:Expr}
def yo(K:PySem.W.Frag)(tl:TE):TI:=λσ H R=>tl σ H λx H1=>∃a,x=.ref a/\(∃xs,gR K H1 a xs)/\R (SL K a) H1
def Mo(K:PySem.W.Frag)(tl:TE):TI:=λσ H R=>tl σ H λx H1=>∃a,x=.ref a/\(∃xs,iH K H1 a xs)/\R (SM K a) H1
def IC{l:Expr}{tl:TE}(hl:PE X l tl):PI X tg l (yo X.K tl):=by
 intro Ti s σ H R I h;refine cb (hl Ti s σ H _ I h) λv s1 zz9=>?_;obtain⟨x,H1,I1,r1,q1⟩:=zz9;obtain⟨a,e,⟨xs,hq⟩,q⟩:=q1;subst e;cases r1;obtain⟨its,rv,p,hz⟩:=I1.list hq;refine Bv p.isList ?_;refine⟨s1.heap.objs.size,[s1.heap.objs.size],_,_,H1,rfl,I1.kept (t':=s1.toks) λb o e=>Ab _ e,zX a _,⟨_,Ag _ rfl,rfl,rfl⟩,λb hb=>?_,q⟩;have e:b=s1.heap.objs.size:=by simpa using hb
 subst e;exact I1.fpOk (Xa _) (I1.hok.fresh (Xa _))
def Mp{l:Expr}{tl:TE}(hl:PE X l tl):PI X tg l (Mo X.K tl):=by
 intro Ti s σ H R I h;refine cb (hl Ti s σ H _ I h) λv s1 zz9=>?_;obtain⟨x,H1,I1,r1,q1⟩:=zz9;obtain⟨a,e,⟨xs,hq⟩,q⟩:=q1;subst e;cases r1;obtain⟨its,rv,p,hz⟩:=I1.tuple hq;refine wpAny_pyIter_tuple (show s1.heap.IsTuple a its.toArray from p) ?_;refine⟨s1.heap.objs.size,[s1.heap.objs.size],_,_,H1,rfl,I1.kept (t':=s1.toks) λb o e=>Ab _ e,wU a _,⟨_,Ag _ rfl,rfl,rfl⟩,λb hb=>?_,q⟩;have e:b=s1.heap.objs.size:=by simpa using hb
 subst e;exact I1.fpOk (Xa _) (I1.hok.fresh (Xa _))
def u5{s:Tb}{R:It->Hp->Prop}{E:Ta->Tb->Prop}{lo hi:Int}{t u v:Tok}{tk:Nat}(I:Inv X Ti σ H s)(h1:-(2 ^ 62)<=lo)(h2:lo<2 ^ 62)(h3:-(2 ^ 62)<=hi)(h4:hi<2 ^ 62)(ht:0<tk)
  (q:R (PB lo (hi-lo).toNat) H):wpAny (model X.prog X.w) X.A (pyIter (.ref s.heap.objs.size)) (Vv X Ti σ tg R) E { s with heap:=s.heap.push { cls:=.type "range",data:=.fields #[.int lo t,.int hi u,.int 1 v] },toks:=tk }:=by
 refine wpAny_pyIter_range (IsRange.new ..) (small_one h1 h2 h3 h4) ?_;have I1:Inv X Ti σ H { s with heap:=s.heap.push { cls:=.type "range",data:=.fields #[.int lo t,.int hi u,.int 1 v] },toks:=tk }:=I.kept λb o e=>Ab _ e
 refine⟨(s.heap.push { cls:=.type "range",data:=.fields #[.int lo t,.int hi u,.int 1 v] }).objs.size,[(s.heap.push { cls:=.type "range",data:=.fields #[.int lo t,.int hi u,.int 1 v] }).objs.size],_,_,H,rfl,
  I1.kept (t':=tk) λb o e=>Ab _ e,wV _ lo (hi-lo).toNat,?_,λb hb=>?_,q⟩
 ·have e1:lo+((0:Nat):Int)*1=lo:=by simp
  have e2:(((hi-lo).toNat:Nat):Int)-((0:Nat):Int)=Builtin.Range.rangeSize lo hi 1:=by rw[rangeSize_one];split<;>lia
  show IsRangeIter _ _ (lo+((0:Nat):Int)*1) ((((hi-lo).toNat:Nat):Int)-((0:Nat):Int)) 1;rw[e1,e2];exact Ag _ rfl
 ·have e:b=(s.heap.push { cls:=.type "range",data:=.fields #[.int lo t,.int hi u,.int 1 v] }).objs.size:=by simpa using hb
  subst e;exact I1.fpOk (Xa _) (I1.hok.fresh (Xa _))
def KS(ta:TA):TI:=λσ H R=>ta σ H λvs H1=>∃j:Int,vs=[.int j]/\-(2 ^ 62)<=j/\j<2 ^ 62/\R (PB 0 j.toNat) H1
def KU(ta:TA):TI:=λσ H R=>ta σ H λvs H1=>∃i j:Int,vs=[.int i,.int j]/\(-(2 ^ 62)<=i/\i<2 ^ 62/\-(2 ^ 62)<=j/\j<2 ^ 62)/\R (PB i (j-i).toNat) H1
theorem eU{ta:TA}(hg:Gl X "range")(hm:X.mg "range"=none)(ha:PA X [a] ta)(hs:starEach [a] X.env=[(false,eval a X.env)]:=by rfl):PI X tg (.Call (.Name "range" p) [a] [] pos) (KS ta):=by
 intro Ti s σ H R I h;refine Call_ (hV I hg hm boot_range (As (cb (ha pos Ti s σ H _ I h) λus s1 zz9=>?_) hs rfl));obtain⟨vs,H1,I1,r1,q1⟩:=zz9;obtain⟨j,e,q1,q2,q⟩:=q1;subst e;cases r1 with
 |cons r rr=>
  cases rr;obtain⟨t,rfl⟩:=r;exact call_range_1 (u5 I1 (by lia) (by lia) q1 q2 (Vc I1.tk (by first|exact Xa _|lia)) (by simpa using q))
def kf(hg:Gl X "range")(hm:X.mg "range"=none)(ha:PA X [a,b] ta)(hs:starEach [a,b] X.env=[(false,eval a X.env),(false,eval b X.env)]:=by rfl)(hs2:starEach [b] X.env=[(false,eval b X.env)]:=by rfl) :
  PI X tg (.Call (.Name "range" p) [a,b] [] pos) (KU ta):=by
 intro Ti s σ H R I h;refine Call_ (hV I hg hm boot_range (As (cb (ha pos Ti s σ H _ I h) λus s1 zz9=>?_) (by rw[hs,hs2]) (by rw[hs2];rfl)))
 obtain⟨vs,H1,I1,r1,q1⟩:=zz9;obtain⟨i,j,e,⟨q1,q2,q3,q4⟩,q⟩:=q1;subst e;cases r1 with
 |cons r rr=>
  cases rr with
  |cons r' rr=>
   cases rr;obtain⟨t,rfl⟩:=r;obtain⟨t',rfl⟩:=r';exact call_range_2 (u5 I1 q1 q2 q3 q4 (Vc I1.tk (by first|exact Xa _|lia)) q)
def PC(wi:TI)(g:TG)(tb:TS):TS:=λD σ H=>wi σ H λJ H1=>∃W:Nat->Nat->St->Hp->Prop,(∃m,W 0 m σ H1)/\∀i m σ H,W i m σ H->
 (J.stop i H/\D.nx σ H)\/(J.go i H/\∃N:St->Hp->Prop,(∀σ' H',N σ' H'->∃m',m'<m/\W (i+1) m' σ' H')/\∀x H',J.yld i H x H'->g x σ H' λσ2 H2=>tb { D with nx:=N,ct:=N,bk:=D.nx } σ2 H2)
def pL(fp:S8 Td)(h:Tg):S8 (Td×Obj):=fp.filterMap λb=>(h.get? b).map λo=>(b,o)
def iI{h:Tg}(hb:b∈fp)(e:h.get? b=some o):(b,o)∈pL fp h:=List.mem_filterMap.mpr ⟨b,hb,by rw[e];rfl⟩
theorem zY{h:Tg}(hp:p∈pL fp h):p.1∈fp/\h.get? p.1=some p.2:=by
 obtain⟨b,hb,e⟩:=List.mem_filterMap.mp hp;cases q:h.get? b with
 |none=>rw[q]at e;cases e
 |some o=>
  rw[q]at e;have e':(b,o)=p:=Option.some.inj e;subst e';exact⟨hb,q⟩
def Inv.pinned{s:Tb}(I:Inv X Ti σ H s)(hf:∀b∈fp,mG X Ti H b)(ho:∀b∈fp,∃o,s.heap.get? b=some o/\∀v,o.data≠.cell v):Inv X (Ti++pL fp s.heap) σ H s :=
 I.pins_of λp hp=>(Qe.mp hp).elim (λz=>I.pin p (Xg _ z)) λz=>by
  obtain⟨hb,e⟩:=zY z;obtain⟨f0,f1,f2,_⟩:=hf p.1 hb;obtain⟨o,e',d⟩:=ho p.1 hb;rw[e]at e';cases e';exact⟨e,f0,f1,f2,d⟩
def Inv.unpinned(I:Inv X (Ti++pl) σ H s):Inv X Ti σ H s:=I.pins_of λp hp=>I.pin p (Xg _ (BW _ hp))
def cc(hp:PassesOwn (model X.prog X.w) X.A X.env X.xe)(hc:X.calm=true)(hi:PI X tg iter wi)(hg:PG X tg g)(hb:UG X body tb)
  (hs:∀x,foldedSetIterable iter X.env x=pure x:=by intro _;rfl):PS X (.For tg iter body [] pos) (PC wi g tb):=by
 intro Ti s σ H D I h;refine wpAny_For (cb (hi Ti s σ H _ I h) λv s1 h1=>cb h1 λitv s2 h2=>?_) hs;obtain⟨it,fp,tn,J,H2,e,I2,T,TR,f2,W,⟨m0,w0⟩,turn⟩:=h2;subst e;have stat:∀{H':Hp},(∀b∈fp,H' b=none)->∀b∈fp,mG X Ti H' b:=λhn b hb=>⟨hn b hb,(f2 b hb).2⟩;refine codeAny_forLoop_any (λn s'=>∃i σ' H',Inv X Ti σ' H' s'/\tn i s'.heap/\(∀b∈fp,H' b=none)/\W i n σ' H') ?_ m0 ⟨0,σ,H2,I2,TR,λb hb=>(f2 b hb).1,w0⟩;rintro n s3 ⟨i,σ3,H3,I3,Us,fr3,w3⟩;rcases turn i n σ3 H3 w3 with⟨stop,qn⟩|⟨go,N,hN,step⟩
 ·refine AJ hp (cb (T.done X rfl rfl rfl hc i Ti s3 σ3 H3 X.xe I3 (stat fr3) Us stop) λr s4 zz9=>?_);obtain⟨hr,I4⟩:=zz9;subst hr;exact BM ⟨σ3,H3,I4,qn⟩
 ·refine AJ hp (cb (T.item X rfl rfl rfl hc i Ti s3 σ3 H3 X.xe I3 (stat fr3) Us go) λr s4 zz9=>?_);obtain⟨u,hr,h4⟩:=zz9;subst hr;refine AJ hp (cb h4 λ_ s5 zz9=>?_);obtain⟨x,H5,I5,r5,y5,st5,fr5⟩:=zz9;have I5':=I5.pinned (stat fr5) (T.obj _ _ st5);refine AJ hp (cb (hg _ s5 σ3 H5 x u _ I5' r5 (step x H5 y5)) λ_ s6 zz9=>?_);obtain⟨σ6,H6,I6,q6⟩:=zz9;refine AJ hp (cb (hb _ s6 σ6 H6 _ I6 q6) λf s7 q7=>?_);have again:∀{σ7:St}{H7:Hp},Inv X (Ti++pL fp s5.heap) σ7 H7 s7->N σ7 H7->∃m,m<n/\∃i σ' H',Inv X Ti σ' H' s7/\tn i s7.heap/\(∀b∈fp,H' b=none)/\W i m σ' H':=λ{σ7 H7} I7 n7=>by
   obtain⟨m',hm,w7⟩:=hN σ7 H7 n7;refine⟨m',hm,i+1,σ7,H7,I7.unpinned,T.keep _ _ _ st5 λb hb o e=>(I7.pin (b,o) (Xg _ (Xg _ (iI hb e)))).1,λb hb=>?_,w7⟩;obtain⟨o,e,d⟩:=T.obj _ _ st5 b hb;exact(I7.pin (b,o) (Xg _ (Xg _ (iI hb e)))).2.1
  cases f with
  |next=>obtain⟨σ7,H7,I7,n7⟩:=q7;exact again I7 n7
  |cont=>obtain⟨σ7,H7,I7,n7⟩:=q7;exact again I7 n7
  |brk=>obtain⟨σ7,H7,I7,q7⟩:=q7;exact⟨σ7,H7,I7.unpinned,q7⟩
  |ret v=>obtain⟨x7,σ7,H7,I7,r7,q7⟩:=q7;exact⟨x7,σ7,H7,I7.unpinned,r7,q7⟩
end
abbrev R2:=V->V->Hp->VK->Prop
def T4(X:Cx)(f:Ta->Ta->Sem Ta)(r:R2):Prop :=
 ∀(Ti:S8 (Td×Obj))(s:Tb)(σ:St)(H:Hp)(x y:V)(v u:Ta)(Q:VK),Inv X Ti σ H s->RelV x v->RelV y u->r x y H Q->
  wpAny (model X.prog X.w) X.A (f v u) (EP X Ti σ Q) X.xe s
def R5(X:Cx)(f:Ta->Sem Ta)(r:V->Hp->VK->Prop):Prop :=
 ∀(Ti:S8 (Td×Obj))(s:Tb)(σ:St)(H:Hp)(x:V)(v:Ta)(Q:VK),Inv X Ti σ H s->RelV x v->r x H Q->
  wpAny (model X.prog X.w) X.A (f v) (EP X Ti σ Q) X.xe s
def TB(X:Cx)(f:Ta)(r:S8 V->Hp->VK->Prop):Prop :=
 ∀(Ti:S8 (Td×Obj))(s:Tb)(σ:St)(H:Hp)(xs:S8 V)(us:S8 Ta)(Q:VK),Inv X Ti σ H s->Tp xs us->r xs H Q->
  wpAny (model X.prog X.w) X.A (call f us) (EP X Ti σ Q) X.xe s
def R6(X:Cx)(r:V->Hp->(Te->Hp->Prop)->Prop):Prop :=
 ∀(Ti:S8 (Td×Obj))(s:Tb)(σ:St)(H:Hp)(x:V)(v:Ta)(Q:Te->Hp->Prop),Inv X Ti σ H s->RelV x v->r x H Q->
  wpAny (model X.prog X.w) X.A (truthy v) (TP X Ti σ Q) X.xe s
def Pb(r:R2)(ta tb:TE):TE:=λσ H Q=>ta σ H λx H1=>tb σ H1 λy H2=>r x y H2 Q
def SN(r:V->Hp->VK->Prop)(ta:TE):TE:=λσ H Q=>ta σ H λx H1=>r x H1 Q
def rI(C:Int->Int->Prop)(g:Int->Int->V):R2:=λx y H Q=>∃i j,x=.int i/\y=.int j/\C i j/\Q (g i j) H
def u9(g:Int->Int->V):R2:=λx y H Q=>∃i j,x=.int i/\y=.int j/\Q (g i j) H
def rU(g:Int->V):V->Hp->VK->Prop:=λx H Q=>∃i,x=.int i/\Q (g i) H
section
variable {X:Cx}{a b c:Expr}{ta tb tc:TE}{pos:Pos}
def Mq(ha:PE X a ta)(hb:PE X b tb){R:V->V->Hp->Prop}(I:Inv X Ti σ H s)
  (h:ta σ H λx H1=>tb σ H1 λy H2=>R x y H2){Q:Ta->Tb->Prop}{f:Ta->Ta->Sem Ta}
  (hf:∀v u s2 x y H2,Inv X Ti σ H2 s2->RelV x v->RelV y u->R x y H2->wpAny (model X.prog X.w) X.A (f v u) Q X.xe s2) :
  wpAny (model X.prog X.w) X.A (eval a X.env) (λv s₁=>wpAny (model X.prog X.w) X.A (eval b X.env) (λu s₂=>wpAny (model X.prog X.w) X.A (f v u) Q X.xe s₂) X.xe s₁) X.xe s:=by
 refine cb (ha Ti s σ H _ I h) λv s1 zz9=>?_;obtain⟨x,H1,I1,r1,q1⟩:=zz9;refine cb (hb Ti s1 σ H1 _ I1 q1) λu s2 zz9=>?_;obtain⟨y,H2,I2,r2,q2⟩:=zz9;exact hf v u s2 x y H2 I2 r1 r2 q2
def az{op:Operator}{r:R2}(ho:T4 X (binaryOp op) r)(ha:PE X a ta)(hb:PE X b tb):PE X (.BinOp a op b pos) (Pb r ta tb):=by
 intro Ti s σ H Q I h;exact wpAny_BinOp (Mq ha hb I h λv u s2 x y H2 I2 rx ry q=>ho Ti s2 σ H2 x y v u Q I2 rx ry q)
def PD(ho:R5 X (unaryOp op) r)(ha:PE X a ta):PE X (.UnaryOp op a pos) (SN r ta):=by
 intro Ti s σ H Q I h;exact UnaryOp_ (cb (ha Ti s σ H _ I h) λv s1 ⟨x,H1,I1,r1,q1⟩=>ho Ti s1 σ H1 x v Q I1 r1 q1)
def RL{f:Ta->Ta->Sem Ta}{C:Int->Int->Prop}{g:Int->Int->Int}
  (rule:∀(i j:Int)(t u:Tok)(s:Tb)(Q:Ta->Tb->Prop)(E:Ta->Tb->Prop),C i j->Q (.int (g i j) s.toks) { s with toks:=s.toks+1 }->wpAny (model X.prog X.w) X.A (f (.int i t) (.int j u)) Q E s) :
  T4 X f (rI C λi j=>.int (g i j)):=by
 intro Ti s σ H x y v u Q I rx ry h;obtain⟨i,j,rfl,rfl,hc,q⟩:=h;obtain⟨t,rfl⟩:=rx;obtain⟨t',rfl⟩:=ry;exact rule i j t t' s _ _ hc ⟨.int (g i j),H,I.tok _,⟨_,rfl⟩,q⟩
def PF{f:Ta->Ta->Sem Ta}{g:Int->Int->Int}
  (rule:∀(i j:Int)(t u:Tok)(s:Tb)(Q:Ta->Tb->Prop)(E:Ta->Tb->Prop),Q (.int (g i j) s.toks) { s with toks:=s.toks+1 }->wpAny (model X.prog X.w) X.A (f (.int i t) (.int j u)) Q E s) :
  T4 X f (u9 λi j=>.int (g i j)):=by
 intro Ti s σ H x y v u Q I rx ry h;obtain⟨i,j,rfl,rfl,q⟩:=h;obtain⟨t,rfl⟩:=rx;obtain⟨t',rfl⟩:=ry;exact rule i j t t' s _ _ ⟨.int (g i j),H,I.tok _,⟨_,rfl⟩,q⟩
def ID{f:Ta->Ta->Sem Ta}{g:Int->Int->Te}
  (rule:∀(i j:Int)(t u:Tok)(s:Tb)(Q:Ta->Tb->Prop)(E:Ta->Tb->Prop),Q (.bool (g i j)) s->wpAny (model X.prog X.w) X.A (f (.int i t) (.int j u)) Q E s) :
  T4 X f (u9 λi j=>.bl (g i j)):=by
 intro Ti s σ H x y v u Q I rx ry h;obtain⟨i,j,rfl,rfl,q⟩:=h;obtain⟨t,rfl⟩:=rx;obtain⟨t',rfl⟩:=ry;exact rule i j t t' s _ _ ⟨.bl (g i j),H,I,rfl,q⟩
def wW(i j:Int):Prop:=0<j/\j<1073741824
def EL(i j:Int):Prop:=0<=j/\j<=1000000/\i.natAbs<2 ^ 64
def Uu(i j:Int):Prop:=(-(2 ^ 64)<i/\i<2 ^ 64)\/(-(2 ^ 64)<j/\j<2 ^ 64)
def Uu.ok(h:Uu i j):IntMulOk i j:=by
 rcases h with⟨h1,h2⟩|⟨h1,h2⟩
 ·exact .of_left (intBits_le_64 h1 h2)
 ·exact .of_right (intBits_le_64 h1 h2)
def U2:T4 X (binaryOp .Add) (u9 λi j=>.int (i+j)):=PF λ_ _ _ _ _ _ _ q=>add_int q
def dU:T4 X (binaryOp .Sub) (u9 λi j=>.int (i-j)):=PF λ_ _ _ _ _ _ _ q=>sub_int q
def U3:T4 X (binaryOp .Mult) (rI Uu λi j=>.int (i*j)):=RL λ_ _ _ _ _ _ _ hc q=>mul_int q hc.ok
def kg:T4 X (binaryOp .FloorDiv) (rI wW λi j=>.int (i / j)):=RL λi j _ _ _ _ _ hc q=>by
 have h1:(0:Int)<j:=hc.1;have h2:j<1073741824:=hc.2;exact floordiv_int (by lia) (by rw[Int.fdiv_eq_ediv_of_nonneg i (by lia)];exact q) (.inl (PyProof.noPylong_small (by lia)))
def ju:T4 X (binaryOp .Mod) (rI (λ_ j=>0<j) λi j=>.int (i % j)):=RL λi j _ _ _ _ _ hc q=>by
 have h1:(0:Int)<j:=hc;exact mod_int' (by lia) (by rw[Int.fmod_eq_emod_of_nonneg i (by lia)];exact q)
def Mr:T4 X (binaryOp .Pow) (rI EL λi j=>.int (i ^ j.toNat)):=RL λ_ _ _ _ _ _ _ hc q=>pow_int_small hc.1 hc.2.1 hc.2.2 q
def S5{f:Ta->Sem Ta}{g:Int->Int}
  (rule:∀(i:Int)(t:Tok)(s:Tb)(Q:Ta->Tb->Prop)(E:Ta->Tb->Prop),Q (.int (g i) s.toks) { s with toks:=s.toks+1 }->wpAny (model X.prog X.w) X.A (f (.int i t)) Q E s) :
  R5 X f (rU λi=>.int (g i)):=by
 intro Ti s σ H x v Q I rx h;obtain⟨i,rfl,q⟩:=h;obtain⟨t,rfl⟩:=rx;exact rule i t s _ _ ⟨.int (g i),H,I.tok _,⟨_,rfl⟩,q⟩
def Ms:R5 X (unaryOp .USub) (rU λi=>.int (-i)):=S5 λ_ _ _ _ _ q=>neg_int q
end
def Mt:V->V->Te|.non,.non=>true|.non,.int _=>true|.int _,.non=>true|.non,.bl _=>true|.bl _,.non=>true|.non,.str _=>true|.str _,.non=>true|.int _,.int _=>true|.bl _,.bl _=>true|.str _,.str _=>true|.byt _,.byt _=>true|.int _,.str _=>true|.str _,.int _=>true|.bl _,.str _=>true|.str _,.bl _=>true|_,_=>false
def PH:R2:=λx y H Q=>Mt x y=true/\Q (.bl (decide (x=y))) H
def R7:R2:=λx y H Q=>Mt x y=true/\Q (.bl (!decide (x=y))) H
def yp:decide (V.int i=V.int j)=(i == j):=by
 rw[Wg];simp
def EM:decide (V.bl i=V.bl j)=(i == j):=by
 rw[Wg];simp
def yq:decide (V.str i=V.str j)=(i == j):=by
 rw[Wg];simp
def yr{i j:Tc UInt8}:decide (V.byt i=V.byt j)=(i.toList == j.toList):=by
 rw[Wg];cases i;cases j;simp
section
variable {X:Cx}{a b c:Expr}{ta tb tc:TE}{pos:Pos}
def bv(I:Inv X Ti σ H s)(q:Q (.bl k) H)(e:k=k'):EP X Ti σ Q (.bool k') s:=by
 subst e;exact⟨.bl k,H,I,rfl,q⟩
theorem PJ:T4 X (compareOp .Eq) PH:=by
 intro Ti s σ H x y v u Q I rx ry h;obtain⟨hs,q⟩:=h;cases x with
 |non=>
  cases rx;cases y with
  |non=>cases ry;exact PySem.EqNone.eq_none_none (bv I q (by simp))
  |bl j=>cases ry;exact PySem.EqNone.eq_none_bool (bv I q (by simp))
  |int j=>obtain⟨t',rfl⟩:=ry;exact PySem.EqNone.eq_none_int (bv I q (by simp))
  |str j=>obtain⟨t',rfl⟩:=ry;exact PySem.EqNone.eq_none_str (bv I q (by simp))
  |_=>exact absurd (show false=true from hs) Xd
 |bl i=>
  cases rx;cases y with
  |non=>cases ry;exact PySem.EqNone.eq_bool_none (bv I q (by simp))
  |bl j=>cases ry;exact eq_bool (bv I q EM)
  |str j=>obtain⟨t',rfl⟩:=ry;exact PySem.EqMixed.eq_bool_str (bv I q (by simp))
  |_=>exact absurd (show false=true from hs) Xd
 |int i=>
  obtain⟨t,rfl⟩:=rx;cases y with
  |non=>cases ry;exact PySem.EqNone.eq_int_none (bv I q (by simp))
  |int j=>obtain⟨t',rfl⟩:=ry;exact eq_int (bv I q yp)
  |str j=>obtain⟨t',rfl⟩:=ry;exact PySem.EqMixed.eq_int_str (bv I q (by simp))
  |_=>exact absurd (show false=true from hs) Xd
 |str i=>
  obtain⟨t,rfl⟩:=rx;cases y with
  |non=>cases ry;exact PySem.EqNone.eq_str_none (bv I q (by simp))
  |bl j=>cases ry;exact PySem.EqMixed.eq_str_bool (bv I q (by simp))
  |int j=>obtain⟨t',rfl⟩:=ry;exact PySem.EqMixed.eq_str_int (bv I q (by simp))
  |str j=>obtain⟨t',rfl⟩:=ry;exact eq_str (bv I q yq)
  |_=>exact absurd (show false=true from hs) Xd
 |byt i=>
  obtain⟨t,rfl⟩:=rx;cases y with
  |byt j=>obtain⟨t',rfl⟩:=ry;exact PySem.W.eq_bytes (bv I q yr)
  |_=>exact absurd (show false=true from hs) Xd
 |_=>cases y<;>exact absurd (show false=true from hs) Xd
theorem Vs:T4 X (compareOp .NotEq) R7:=by
 intro Ti s σ H x y v u Q I rx ry h;obtain⟨hs,q⟩:=h;cases x with
 |non=>
  cases rx;cases y with
  |non=>cases ry;exact PySem.EqNone.ne_none_none (bv I q (by simp))
  |bl j=>cases ry;exact PySem.EqNone.ne_none_bool (bv I q (by simp))
  |int j=>obtain⟨t',rfl⟩:=ry;exact PySem.EqNone.ne_none_int (bv I q (by simp))
  |str j=>obtain⟨t',rfl⟩:=ry;exact PySem.EqNone.ne_none_str (bv I q (by simp))
  |_=>exact absurd (show false=true from hs) Xd
 |bl i=>
  cases rx;cases y with
  |non=>cases ry;exact PySem.EqNone.ne_bool_none (bv I q (by simp))
  |bl j=>cases ry;exact ne_bool (bv I q (congrArg not EM))
  |str j=>obtain⟨t',rfl⟩:=ry;exact PySem.EqMixed.ne_bool_str (bv I q (by simp))
  |_=>exact absurd (show false=true from hs) Xd
 |int i=>
  obtain⟨t,rfl⟩:=rx;cases y with
  |non=>cases ry;exact PySem.EqNone.ne_int_none (bv I q (by simp))
  |int j=>obtain⟨t',rfl⟩:=ry;exact ne_int (bv I q (congrArg not yp))
  |str j=>obtain⟨t',rfl⟩:=ry;exact PySem.EqMixed.ne_int_str (bv I q (by simp))
  |_=>exact absurd (show false=true from hs) Xd
 |str i=>
  obtain⟨t,rfl⟩:=rx;cases y with
  |non=>cases ry;exact PySem.EqNone.ne_str_none (bv I q (by simp))
  |bl j=>cases ry;exact PySem.EqMixed.ne_str_bool (bv I q (by simp))
  |int j=>obtain⟨t',rfl⟩:=ry;exact PySem.EqMixed.ne_str_int (bv I q (by simp))
  |str j=>obtain⟨t',rfl⟩:=ry;exact ne_str (bv I q (congrArg not yq))
  |_=>exact absurd (show false=true from hs) Xd
 |byt i=>
  obtain⟨t,rfl⟩:=rx;cases y with
  |byt j=>obtain⟨t',rfl⟩:=ry;exact PySem.W.ne_bytes (bv I q (congrArg not yr))
  |_=>exact absurd (show false=true from hs) Xd
 |_=>cases y<;>exact absurd (show false=true from hs) Xd
def Vt:T4 X (compareOp .Lt) (u9 λi j=>.bl (decide (i<j))):=ID λ_ _ _ _ _ _ _ q=>lt_int q
def rO:T4 X (compareOp .LtE) (u9 λi j=>.bl (decide (i<=j))):=ID λ_ _ _ _ _ _ _ q=>le_int q
def KW:T4 X (compareOp .Gt) (u9 λi j=>.bl (decide (j<i))):=ID λ_ _ _ _ _ _ _ q=>gt_int q
def yt:T4 X (compareOp .GtE) (u9 λi j=>.bl (decide (j<=i))):=ID λ_ _ _ _ _ _ _ q=>ge_int q
def zZ:T4 X (compareOp .Lt) (λx y H Q=>∃i j,x=.str i/\y=.str j/\Q (.bl (decide (i.cps.toList<j.cps.toList))) H):=by
 intro Ti s σ H x y v u Q I rx ry h;obtain⟨i,j,rfl,rfl,q⟩:=h;obtain⟨t,rfl⟩:=rx;obtain⟨t',rfl⟩:=ry;exact lt_str (bv I q rfl)
def UK:T4 X (compareOp .In) (λx y H Q=>∃i j,x=.str i/\y=.str j/\Q (.bl (!(Builtin.Str.occurrences j i 0 j.length 1).isEmpty)) H):=by
 intro Ti s σ H x y v u Q I rx ry h;obtain⟨i,j,rfl,rfl,q⟩:=h;obtain⟨t,rfl⟩:=rx;obtain⟨t',rfl⟩:=ry;exact in_str (bv I q rfl)
theorem EN:T4 X (compareOp .Is) (λx y H Q=>y=.non/\Q (.bl (decide (x=.non))) H):=by
 intro Ti s σ H x y v u Q I rx ry h;obtain⟨rfl,q⟩:=h;cases ry;refine is_none_gen (bv I q ?_);cases x<;>first
  | (cases rx;rfl)
  | (obtain⟨t,rfl⟩:=rx;rfl)
def T4.or(h:T4 X f r)(h':T4 X f r'):T4 X f (λx y H Q=>r x y H Q\/r' x y H Q):=by
 intro Ti s σ H x y v u Q I rx ry q;rcases q with q|q
 ·exact h Ti s σ H x y v u Q I rx ry q
 ·exact h' Ti s σ H x y v u Q I rx ry q
def aZ(b:Expr)(h:op≠.In:=by decide)(h2:op≠.NotIn:=by decide):behindInMarks op b=false:=by
 have e1:(op == CmpOp.In)=false:=by cases op<;>first|rfl|exact absurd rfl h
 have e2:(op == CmpOp.NotIn)=false:=by cases op<;>first|rfl|exact absurd rfl h2
 cases b<;>simp[behindInMarks,e1,e2]
def iJ(ho:T4 X (compareOp op) r)(ha:PE X a ta)(hb:PE X b tb)(hm:behindInMarks op b=false):PE X (.Compare a [op] [b] pos) (Pb r ta tb):=by
 intro Ti s σ H Q I h;exact wpAny_Compare1 (Mq ha hb I h λv u s2 x y H2 I2 rx ry q=>ho Ti s2 σ H2 x y v u Q I2 rx ry q) hm
def EO(t:TE):TT:=λσ H Q=>t σ H λx H'=>∃k,x=.bl k/\Q k H'
def aQ(ho:T4 X (compareOp op) r)(ha:PE X a ta)(hb:PE X b tb)(hm:behindInMarks op b=false):PT X (.Compare a [op] [b] pos) (EO (Pb r ta tb)):=by
 intro Ti s σ H Q I h
 refine wpAny_isTrue_Compare1 (cb (ha Ti s σ H _ I h) λv s1 ⟨x,H1,I1,r1,q1⟩=>cb (hb Ti s1 σ H1 _ I1 q1) λu s2 ⟨y,H2,I2,r2,q2⟩=>
  cb (ho Ti s2 σ H2 x y v u _ I2 r1 r2 q2) λc s3 ⟨z,H3,I3,r3,k,e,q3⟩=>?_) hm
 subst e;cases r3;exact Av ⟨H3,I3,q3⟩
def Mu(K:PySem.W.Frag)(x:V)(H:Hp)(k:Te):Prop :=
 match x with|.non=>k=false|.bl b=>k=b|.int i=>k=(i != 0)|.str y=>y.length<=sizeLine/\k=((y.length:Int) != 0)|.byt y=>y.size<=sizeLine/\k=((y.size:Int) != 0)|.ref p=>(∃xs,gR K H p xs/\k=!xs.isEmpty)\/(∃xs,iH K H p xs/\k=!xs.isEmpty)\/∃Tj,H p=some (.dK Tj)/\k=!Tj.isEmpty|_=>False
def wX{Tj:S8 (κ×V)}{vs:S8 (κ×Ta)}(r:KV Tj vs):(!vs.isEmpty)=!Tj.isEmpty:=by
 cases r<;>rfl
def pM{xs:S8 V}{its:S8 Ta}(r:Tp xs its):(!its.toArray.isEmpty)=!xs.isEmpty:=by
 cases r<;>simp
def lq:(sizeLine:Nat)<2 ^ 63:=by rw[AO];decide
theorem Mv:R6 X (λx H Q=>∃k,Mu X.K x H k/\Q k H):=by
 intro Ti s σ H x v Q I rx h;obtain⟨k,e,q⟩:=h;have hl:=lq;have hs:sizeLine=16777216:=AO;cases x with
 |non=>
  cases rx;have e':k=false:=e;subst e';exact truthy_none ⟨H,I,q⟩
 |bl b=>
  cases rx;have e':k=b:=e;subst e';exact Av ⟨H,I,q⟩
 |int i=>
  obtain⟨t,rfl⟩:=rx;have e':k=(i != 0):=e;subst e';exact PySem.P.truthy_int ⟨H,I,q⟩
 |str y=>
  obtain⟨t,rfl⟩:=rx;obtain⟨hy,e'⟩:y.length<=sizeLine/\k=((y.length:Int) != 0):=e;subst e';exact PySem.P.truthy_str (by lia) ⟨H,I.tok _,q⟩
 |byt y=>
  obtain⟨t,rfl⟩:=rx;obtain⟨hy,e'⟩:y.size<=sizeLine/\k=((y.size:Int) != 0):=e;subst e';exact PySem.W.truthy_bytes (by lia) ⟨H,I.tok _,q⟩
 |ref p=>
  cases rx;have e':(∃xs,gR X.K H p xs/\k=!xs.isEmpty)\/(∃xs,iH X.K H p xs/\k=!xs.isEmpty)\/∃Tj,H p=some (.dK Tj)/\k=!Tj.isEmpty:=e;rcases e' with⟨xs,hx,e'⟩|⟨xs,hx,e'⟩|⟨Tj,hx,e'⟩
  ·subst e';obtain⟨its,r,pl,hz⟩:=I.list hx;have hlen:=r.length;exact wpAny_truthy_list pl.isList (by simp only[Yb];lia) ⟨H,I.tok _,by rw[pM r];exact q⟩
  ·subst e';obtain⟨its,r,pl,hz⟩:=I.tuple hx;have hlen:=r.length;exact truthy_tuple pl (by simp only[Yb];lia) ⟨H,I.tok _,by rw[pM r];exact q⟩
  ·subst e';obtain⟨hz,hS,vs,r,m⟩:Tj.length<=sizeLine/\(p == sysModules)=false/\∃vs,KV Tj vs/\s.heap.DictOf (aM X.prog X.w) p vs:=I.hok p _ hx;have hlen:Tj.length=vs.length:=Paired.length r;exact wpAny_truthy_dict hS m (by lia) ⟨H,I.tok _,by rw[wX r];exact q⟩
 |_=>exact(show False from e).elim
def EQ(ha:PE X a ta)(he:∀whole,isTrue a X.env whole=(do let v <-whole;standAt a.pos;holding [v] (truthy v))) :
  PT X a (λσ H Q=>ta σ H λx H'=>∃k,Mu X.K x H' k/\Q k H'):=by
 intro Ti s σ H Q I h;exact isTrue_plain (cb (ha Ti s σ H _ I h) λv s1 ⟨x,H1,I1,r1,q1⟩=>Mv Ti s1 σ H1 x v Q I1 r1 q1) (he _)
def UA:T4 X (binaryOp .Add) (λx y H Q=>∃i j,x=.str i/\y=.str j/\i.length+j.length<=sizeLine/\Q (.str (i++j)) H):=by
 intro Ti s σ H x y v u Q I rx ry h;obtain⟨i,j,rfl,rfl,hz,q⟩:=h;obtain⟨t,rfl⟩:=rx;obtain⟨t',rfl⟩:=ry;exact bJ (add_str (λt' tk hle=>⟨.str (i++j),H,I.tok _ (I.tkl' hle),⟨_,rfl⟩,q⟩) hz)
theorem vals1(r:Tp [x] us):∃u,us=[u]/\RelV x u:=by
 cases r with|cons r1 r2=>cases r2;exact⟨_,rfl,r1⟩
theorem vals2(r:Tp [x,y] us):∃u w',us=[u,w']/\RelV x u/\RelV y w':=by
 cases r with
 |cons r1 r2=>
  cases r2 with|cons r3 r4=>cases r4;exact⟨_,_,rfl,r1,r3⟩
def va:TB X (.builtin "abs") (λxs H Q=>∃i,xs=[.int i]/\Q (.int (if i<0 then -i else i)) H):=by
 intro Ti s σ H xs us Q I r h;obtain⟨i,rfl,q⟩:=h;obtain⟨u,rfl,t,rfl⟩:=vals1 r;exact bJ (call_abs_int λu tk hle=>⟨.int (if i<0 then -i else i),H,I.tok _ (I.tkl' hle),⟨_,rfl⟩,q⟩)
end
structure U4(h:Heap)(x dx C:Addr)(mA:Str->Option Value):Prop where
 obj:h.get? x=some (PySem.W.instObj C dx)
 ns:h.Ns1 dx mA
 ne:dx≠x
def z0{h:Tg}(n:h.Ns1 dx mA):∃od,h.get? dx=some od/\∀name,PySem.W.lookIn name od=some (mA name):=by
 obtain⟨o,es,ep,ho,hd,hk,_,hm⟩:=n;refine⟨o,ho,λname=>?_⟩;have e:=hm name;unfold nsFind findBy at e;rw[<-Array.find?_toList]at e;unfold PySem.W.lookIn;rw[hd];dsimp only;split
 ·rename_i y q
  rw[q]at e;exact congrArg some e
 ·rename_i q
  rw[q]at e;have a:es.toList.any (·.refKey)=false:=by
   rw[List.any_eq_false];intro y hy;obtain⟨z,t,hkey⟩:=hk y (Array.mem_toList_iff.mp hy);simp[DictEntry.refKey,hkey]
  have a':¬ es.toList.any (·.refKey)=true:=by rw[a];exact Xd
  rw[Ah a'];exact congrArg some e
def U4.look(I:U4 h x dx C mA):∃od,PySem.W.InstAt h x (PySem.W.instObj C dx) C (some od)/\∀name,PySem.W.lookIn name od=some (mA name) :=
 let ⟨od,ho,hl⟩:=z0 I.ns
 ⟨od,⟨I.obj,rfl,rfl,ho⟩,hl⟩
theorem Ue.some_of(r:Ue (some v) o):∃u,o=some u/\RelV v u:=by
 cases o with|none=>exact(show False from r).elim|some u=>exact⟨u,rfl,r⟩
section
variable {P:Tf}{w:Th}{H H':Hp}{h h':Tg}{a C dx:Td}{fs fs':S8 (Str×V)}
def IE(hok:Ud P w H h)(e:H a=some (.ins C dx fs)):∃mA,U4 h a dx C mA/\(∀f,Ue (fs.lookup f) (mA f))/\PySem.Within mA (fs.map (·.1))/\fs.length<=1000/\H dx=some (.own a):=by
 obtain⟨d,z,ne,ob,mA,n,r,q⟩:=(show Tt P w H h a (.ins C dx fs) from hok a _ e);exact⟨mA,⟨ob,n,ne⟩,r,q,z,d⟩
end
structure Vu(K:PySem.W.Frag)(C:Addr):Prop where
 pg:PySem.W.plainGet K C Str.empty=true
 hd:PySem.W.hasDictIn K C=true
 po:PySem.W.plainOver K C=true
 sa:PySem.W.findIn K (.ref C) "__setattr__"=some (some (.builtin "object.__setattr__"))
def Vu.get{K:PySem.W.Frag}{C:Td}(c:Vu K C)(f:Str):PySem.W.plainGet K C f=true:=c.pg
section
variable {X:Cx}{Ti:S8 (Td×Obj)}{σ:St}{H:Hp}{s:Tb}{A:Around}{E:Ta->Tb->Prop}{Q:Ta->Tb->Prop}{c:Ta}{b:Te}
inductive Ur(K:PySem.W.Frag)(H:Hp):V->Value->Prop where
 | non:Ur K H .non (.type "NoneType")
 | bl (x:Bool):Ur K H (.bl x) (.type "bool")
 | int (i:Int):Ur K H (.int i) (.type "int")
 | str (x:Str):Ur K H (.str x) (.type "str")
 | flt (x:UInt64):Ur K H (.flt x) (.type "float")
 | lst {a:Addr} {xs:List V} (e:H a=some (.lst xs)):Ur K H (.ref a) (.type "list")
 | frz {a:Addr} {o:Obj} {xs:List V} (e:H a=some (.frz o (.lst xs))):Ur K H (.ref a) (.type "list")
 | tup {a:Addr} {xs:List V} (e:H a=some (.tup xs)):Ur K H (.ref a) (.type "tuple")
 | dK {a:Addr} {Tj:List (Key×V)} (e:H a=some (.dK Tj)):Ur K H (.ref a) (.type "dict")
 | dT {a:Addr} {ep:Nat×List Addr} {Tj:List (bC×V)} (e:H a=some (.dT ep Tj)):Ur K H (.ref a) (.type "dict")
 | ins {a C dx:Addr} {fs:List (Str×V)} (e:H a=some (.ins C dx fs)) (cl:Vu K C) (ha:PySem.W.findIn K (.ref C) "__class__"=some (some (.builtin "object.__class__")))
   (hn:PySem.W.specialIn K (.builtin "object.__class__") "__get__"=some (some (.builtin "getset_descriptor.__get__"))) (htk:PySem.W.takesIn K (.builtin "object.__class__")=some true)
   (hm:PySem.W.mroIn K C (.type "object")=some true):Ur K H (.ref a) (.ref C)
def eV(I:Inv X Ti σ H s)(rx:RelV x u)(ty:Ur X.K H x t)(e:PySem.W.kitOne X.K t c=some b)(h:∀tk,Q (.bool b) { s with toks:=tk }) :
  wpAny (model X.prog X.w) A (call (.builtin "isinstance") [u,c]) Q E s:=by
 cases ty with
 |non=>cases (show u=Value.none from rx);exact PySem.W.kia_one PySem.W.kitx_none I.kIn True.intro e (λz=>nomatch z) h
 |bl y=>cases (show u=Value.bool y from rx);exact PySem.W.kia_one PySem.W.kitx_bool I.kIn True.intro e (λz=>nomatch z) h
 |int i=>obtain⟨t,q⟩:=(show ∃t,u=Value.int i t from rx);cases q;exact PySem.W.kia_one PySem.W.kitx_int I.kIn True.intro e (λz=>nomatch z) h
 |str y=>obtain⟨t,q⟩:=(show ∃t,u=Value.str y t from rx);cases q;exact PySem.W.kia_one PySem.W.kitx_str I.kIn True.intro e (λz=>nomatch z) h
 |flt y=>obtain⟨t,q⟩:=(show ∃t,u=Value.float y t from rx);cases q;exact PySem.W.kia_one PySem.W.kitx_float I.kIn True.intro e (λz=>nomatch z) h
 |@lst a xs ea=>
  cases (show u=Value.ref a from rx);obtain⟨_,_,n,_,h1⟩:=(show Tt X.prog X.w H s.heap a (.lst xs) from I.hok a _ ea);exact PySem.W.kia_one PySem.W.kitx_list I.kIn ⟨_,h1,rfl⟩ e (λz=>nomatch z) h
 |@frz a ob xs ea=>
  cases (show u=Value.ref a from rx);obtain⟨_,_,_,n,_,h1⟩:=(show Tt X.prog X.w H s.heap a (.frz ob (.lst xs)) from I.hok a _ ea);exact PySem.W.kia_one PySem.W.kitx_list I.kIn ⟨_,h1,rfl⟩ e (λz=>nomatch z) h
 |@tup a xs ea=>
  cases (show u=Value.ref a from rx);obtain⟨_,_,_,p⟩:=(show Tt X.prog X.w H s.heap a (.tup xs) from I.hok a _ ea);obtain⟨o,h1,h2,_⟩:=p;exact PySem.W.kia_one PySem.W.kitx_tuple I.kIn ⟨o,h1,h2⟩ e (λz=>nomatch z) h
 |@dK a Tj ea=>
  cases (show u=Value.ref a from rx);obtain⟨_,_,vs,_,p⟩:=(show Tt X.prog X.w H s.heap a (.dK Tj) from I.hok a _ ea);obtain⟨o,es,ep,h1,h2,_⟩:=p;exact PySem.W.kia_one PySem.W.kitx_dict I.kIn ⟨o,h1,h2.1⟩ e (λz=>nomatch z) h
 |@dT a ep Tj ea=>
  cases (show u=Value.ref a from rx);obtain⟨_,_,xs,_,_,o,es,h1,h2,_⟩:=(show Tt X.prog X.w H s.heap a (.dT ep Tj) from I.hok a _ ea);exact PySem.W.kia_one PySem.W.kitx_dict I.kIn ⟨o,h1,h2.1⟩ e (λz=>nomatch z) h
 |@ins a C dx fs ea cl ha hn htk hm=>
  cases (show u=Value.ref a from rx);obtain⟨mA,O,_⟩:=IE I.hok ea;obtain⟨od,J,_⟩:=O.look;exact PySem.W.kia_one (PySem.W.kitx_own (cl.get _) cl.hd ha hn htk hm) I.kIn J e (λz=>nomatch z) h
end
structure TX(k:Nat)(A:Around):Prop where
 hd:A.handled=none
 dp:A.depth+3*k+5<recursionLimit
 un:A.units+16*k+200<cLine
def TX.mono(r:TX k A)(h:j<=k):TX j A:=⟨r.hd,by have:=r.dp;lia,by have:=r.un;lia⟩
theorem TX.deeper{A:Around}(r:TX (k+1) A)(env:Env):TX k (A.deeper env) :=
 ⟨r.hd,by have:=r.dp;show A.depth+1+3*k+5<_;lia,by have:=r.un;show A.units+3+16*k+200<_;lia⟩
theorem TX.depth{A:Around}(r:TX k A):A.depth<recursionLimit:=by have:=r.dp;lia
theorem TX.units{A:Around}(r:TX k A):A.units+64<cLine:=by have:=r.un;lia
def rf:TA:=λ_ H Q=>Q [] H
def iy(ta:TE)(tr:TA):TA:=λσ H Q=>ta σ H λx H1=>tr σ H1 λxs H2=>Q (x::xs) H2
section
variable {X:Cx}{e:Expr}{es:S8 Expr}{te:TE}{t:TA}{pos:Pos}
def ae:PA X [] rf:=λ_ _ _ _ H Q I h=>Calls.spliced_nil ⟨[],H,I,.nil,h⟩
def kh(ha:PE X e te)(hr:PA X es t)(hs:starEach (e::es) X.env=(false,eval e X.env)::starEach es X.env:=by rfl):PA X (e::es) (iy te t):=by
 intro pos Ti s σ H Q I h;rw[hs];show wpAny _ _ (spliced ((false,eval e X.env)::backTo pos (starEach es X.env))) _ _ s;refine Ch (cb (ha Ti s σ H _ I h) λu s1 zz9=>?_);obtain⟨x,H1,I1,r1,q1⟩:=zz9;exact cb (hr pos Ti s1 σ H1 _ I1 q1) λus s2 ⟨xs,H2,I2,r2,q2⟩=>⟨x::xs,H2,I2,.cons r1 r2,q2⟩
def PK(t:TA):TE:=λσ H Q=>t σ H λxs H1=>xs.length<=sizeLine/\∀p,H1 p=none->Q (.ref p) (upd H1 p (.tup xs))
def Mw(t:TA):TE:=λσ H Q=>t σ H λxs H1=>xs.length<=sizeLine/\∀p,H1 p=none->Q (.ref p) (upd H1 p (.lst xs))
def hW{x1}(h:PA X es t):PE X (.Tuple es x1 pos) (PK t):=by
 intro Ti s σ H Q I hq;refine wpAny_Tuple_spliced (cb (h pos Ti s σ H _ I hq) λus s1 ⟨xs,H1,I1,r,z,q⟩=>⟨by rw[<-r.length];exact z,?_⟩)
 have hf:H1 s1.heap.objs.size=none:=I1.hok.fresh (Xa _);refine⟨.ref s1.heap.objs.size,upd H1 s1.heap.objs.size (.tup xs),I1.laid (t':=s1.toks) (λb u e=>Ab _ e) (Xa _) ?_,rfl,q _ hf⟩;exact⟨z,us,r,⟨_,Ag _ rfl,rfl,_,rfl⟩⟩
def cK(h:PA X es t):PE X (.List es pos) (Mw t):=by
 intro Ti s σ H Q I hq;refine wpAny_List_spliced (cb (h pos Ti s σ H _ I hq) λus s1 ⟨xs,H1,I1,r,z,q⟩=>⟨by rw[<-r.length];exact z,?_⟩)
 have hf:H1 s1.heap.objs.size=none:=I1.hok.fresh (Xa _);refine⟨.ref s1.heap.objs.size,upd H1 s1.heap.objs.size (.lst xs),I1.laid (t':=s1.toks) (λb u e=>Ab _ e) (Xa _) ?_,rfl,q _ hf⟩;exact⟨z,us,0,r,Ag _ rfl⟩
end
abbrev Sp:=List V->Hp->VK->XK->Prop
abbrev Iu:=List Env->Hp->Shared->XK->Value->Shared->Prop
structure UR(P:Program)(w:World)(K:PySem.W.Frag)(mg:Str->Option Value)(base:Heap)(A:Around)(outer:List Env)(s:Shared)(H:Hp):Prop where
 frames:A.frames=some outer
 mod:Mod K mg base
 bs:∀b o,base.get? b=some o->s.heap.get? b=some o/\H b=none
 bsz:base.objs.size<=s.heap.objs.size
 funs:s.heap.FunFrames base outer
 frf:∀b∈wS outer,H b=none
 hok:Ud P w H s.heap
 bare:AllBare s.gens
 tk:0<s.toks
def CE(outer:S8 Env)(P:Tf)(w:Th)(H:Hp)(s:Tb)(Q:VK)(u:Ta)(s':Tb):Prop :=
 ∃v H',s'.os=s.os/\AllBare s'.gens/\Un (wS outer) [] H H' s.heap s'.heap/\Ud P w H' s'.heap/\RelV v u/\Q v H'
def CR(CX:Iu)(outer:S8 Env)(P:Tf)(w:Th)(H:Hp)(s:Tb)(Q:VK)(E:XK)(r:Result)(s':Tb):Prop :=
 match r with|.ok (.ret u)=>CE outer P w H s Q u s'|.ok _=>False|.error e=>CX outer H s E e s'
structure T9(P:Program)(w:World)(K:PySem.W.Frag)(mg:Str->Option Value)(base:Heap)(CX:Iu)(k:Nat)(f:Addr)(fd:FuncData)(ps:List Str)(sp:Sp):Prop where
 len:∀vs H Q E,sp vs H Q E->vs.length=ps.length
 run:∀(A:Around)(outer:List Env)(s:Shared)(H:Hp)(args:Args)(us:List Value)(vs:List V)(Q:VK)(E:XK),TX k A->UR P w K mg base A outer s H->BindsTo s fd args (ps.zip us)->Tp vs us->sp vs H Q E->
  codeAny (model P w) A (.call (.ref f) args) (CR CX outer P w H s Q E) s
def T9.imp{P:Tf}{w:Th}{K:PySem.W.Frag}{mg:Str->S9 Ta}{base:Tg}{CX:Iu}{k:Nat}{f:Td}{fd:FuncData}{ps:S8 Str}{sp sp':Sp}(F:T9 P w K mg base CX k f fd ps sp)
  (h:∀vs H Q E,sp' vs H Q E->sp vs H Q E):T9 P w K mg base CX k f fd ps sp' :=
 ⟨λvs H Q E q=>F.len vs H Q E (h _ _ _ _ q),λA outer s H args us vs Q E hr he hb hv hs=>F.run A outer s H args us vs Q E hr he hb hv (h _ _ _ _ hs)⟩
section
variable {X:Cx}{Ti:S8 (Td×Obj)}{σ:St}{H:Hp}{s s':Tb}
def Inv.env0(I:Inv X Ti σ H s):UR X.prog X.w X.K X.mg X.base X.A X.stack s H :=
 ⟨I.ok.frames,I.ok.mod,I.bs,Ye I.ok.bsz I.sz,I.stack,I.stkFree,I.hok,I.bare,I.tk⟩
def Inv.after(I:Inv X Ti σ H s)(h:CE X.stack X.prog X.w H s Q u s')(hle:s.toks<=s'.toks):EP X Ti σ Q u s':=by
 obtain⟨v,H',os,bare,un,hok,r,q⟩:=h;obtain⟨hh,g,d,t,os'⟩:=s';obtain rfl:os'=s.os:=os;exact⟨v,H',I.call (h':=hh) (g':=g) (d':=d) (t':=t) (ch:=[]) un hok bare (λb z=>absurd z (by simp)) (I.tkl' hle),r,q⟩
end
def ES(sp:Sp)(dvs:S8 V)(E:XK)(t:TA):TE:=λσ H Q=>t σ H λvs H1=>sp (vs++dvs) H1 Q E
def Binds(K:PySem.W.Frag)(fd:FuncData)(ps:S8 Str)(ds:S8 Ta):Prop :=
 ∀(s:Tb)(us:S8 Ta),K.In s.heap->(us++ds).length=ps.length->BindsTo s fd ⟨us,[]⟩ (ps.zip (us++ds))
def Binds.all{K:PySem.W.Frag}{fd:FuncData}{ps:S8 Str}(h:∀us:S8 Ta,us.length=ps.length->bindArgs fd ⟨us,[]⟩=pure (ps.zip us)):Binds K fd ps []:=λs us _ hl=>by
 rw[Zg]at hl ⊢;exact .of_eq (h us hl)
def wY(CX:Iu)(X:Cx)(E:XK):Prop:=∀(Ti:S8 (Td×Obj))(σ:St)(H:Hp)(s:Tb)(e:Ta)(s':Tb),Inv X Ti σ H s->CX X.stack H s E e s'->X.xe e s'
section
variable {X:Cx}{CX:Iu}{k:Nat}{f C:Td}{fd:FuncData}{ps:S8 Str}{sp:Sp}{dvs:S8 V}{ds:S8 Ta}{E:XK}{x m:Str}{p pos apos:Pos}{e o:Expr}{es:S8 Expr}{ta:TE}{t:TA}
def ET(F:T9 X.prog X.w X.K X.mg X.base CX k f fd ps sp)(hr:TX k X.A)(hb:Binds X.K fd ps ds)(hd:Tp dvs ds)(hx:wY CX X E)
  (I:Inv X Ti σ H s)(r:Tp vs us)(h:sp (vs++dvs) H Q E):wpAny (model X.prog X.w) X.A (call (.ref f) us) (EP X Ti σ Q) X.xe s:=by
 have r2:Tp (vs++dvs) (us++ds):=r.append hd;have hl:(us++ds).length=ps.length:=by rw[<-r2.length];exact F.len _ _ _ _ h
 refine wpAny_call (wQ (BE (F.run X.A X.stack s H ⟨us,[]⟩ (us++ds) (vs++dvs) Q E hr I.env0 (hb s us I.kIn hl) r2 h) λr s' hq hle=>?_));cases r with
 |error e=>exact hx Ti σ H s e s' I hq
 |ok fl=>
  cases fl with|ret u=>exact I.after hq hle|next=>exact False.elim hq|brk=>exact False.elim hq|cont=>exact False.elim hq
def IF(F:T9 X.prog X.w X.K X.mg X.base CX k f fd ps sp)(hr:TX k X.A)(hg:Gl X x)(hm:X.mg x=some (.ref f))(hk:PySem.W.keepIn X.K (.ref f)=true)(hb:Binds X.K fd ps ds)(hd:Tp dvs ds)(hx:wY CX X E)
  (ha:PA X (e::es) t)(hdb:(x == ("__debug__":Str))=false:=by decide)(he:starEach (e::es) X.env=(false,eval e X.env)::starEach es X.env:=by rfl)(hpl:(backTo pos (starEach es X.env)).any (·.1)=false:=by rfl) :
  PE X (.Call (.Name x p) (e::es) [] pos) (ES sp dvs E t):=by
 intro Ti s σ H Q I h;refine AW (yj I hg hm ?_ hdb);refine PySem.W.callWith_K (h₀:=X.base) I.ok.mod.kin hk (cb (ha pos Ti s σ H _ I h) λus s1 ⟨vs,H1,I1,r,q⟩=>⟨I1.kIn,?_⟩) he hpl;exact ET F hr hb hd hx I1 r q
end
structure To(N P:List Str)(sc:Scope):Prop where
 kind:sc.kind=.function
 co:sc.isCoroutine=false
 gen:sc.isGenerator=false
 nd:N.Nodup
 pre:N.take P.length=P
 par:∀x∈P,sc.names.lookup x=some .local\/sc.names.lookup x=some .cell
 nofree:∀y∈sc.names,y.2≠.free
theorem rP{kindOf:Str->S9 NameKind}{x:Str}:∀{binds:S8 (Str×Ta)}{m:Str->S9 Ta},(∀v,(x,v)∉binds)->bindL kindOf binds m x=m x
 |[],_,_=>rfl
 | (n,v)::r,m,h=>by
  unfold bindL;rw[rP λw hw=>h w (Wb _ hw)];split
  ·have:x≠n:=by rintro rfl;exact h v Wc
   simp[this]
  ·rfl
theorem rQ{kindOf:Str->S9 NameKind}{x:Str}:∀{binds:S8 (Str×Ta)}{m:Str->S9 Ta},(∀v,(x,v)∉binds)->bindC kindOf binds m x=m x
 |[],_,_=>rfl
 | (n,v)::r,m,h=>by
  unfold bindC;rw[rQ λw hw=>h w (Wb _ hw)];split
  ·rfl
  ·have:x≠n:=by rintro rfl;exact h v Wc
   simp[this]
theorem rR{kindOf:Str->S9 NameKind}{x:Str}{v:Ta}:∀{P:S8 Str}{vs:S8 Ta}{i:Nat}{m:Str->S9 Ta},P.Nodup->P[i]?=some x->vs[i]?=some v->kindOf x=some .local->
  bindL kindOf (P.zip vs) m x=some v
 |[],_,_,_,_,h,_,_=>by simp at h
 |_::_,[],_,_,_,_,h,_=>by simp at h
 | p::P,w::vs,0,m,nd,h1,h2,hk=>by
  simp at h1 h2;subst h1;subst h2;show bindL kindOf ((p,w)::P.zip vs) m p=_;unfold bindL;rw[rP λv hv=>(Qh.mp nd).1 (CN hv).1,Af hk];simp
 | p::P,w::vs,i+1,m,nd,h1,h2,hk=>by
  show bindL kindOf ((p,w)::P.zip vs) m x=_;unfold bindL;exact rR (i:=i) (Qh.mp nd).2 (by simpa using h1) (by simpa using h2) hk
theorem rS{kindOf:Str->S9 NameKind}{x:Str}{v:Ta}:∀{P:S8 Str}{vs:S8 Ta}{i:Nat}{m:Str->S9 Ta},P.Nodup->P[i]?=some x->vs[i]?=some v->kindOf x≠some .local->
  bindC kindOf (P.zip vs) m x=some v
 |[],_,_,_,_,h,_,_=>by simp at h
 |_::_,[],_,_,_,_,h,_=>by simp at h
 | p::P,w::vs,0,m,nd,h1,h2,hk=>by
  simp at h1 h2;subst h1;subst h2;show bindC kindOf ((p,w)::P.zip vs) m p=_;unfold bindC;rw[rQ λv hv=>(Qh.mp nd).1 (CN hv).1,Ah hk];simp
 | p::P,w::vs,i+1,m,nd,h1,h2,hk=>by
  show bindC kindOf ((p,w)::P.zip vs) m x=_;unfold bindC;exact rS (i:=i) (Qh.mp nd).2 (by simpa using h1) (by simpa using h2) hk
def start(N:S8 Str)(vs:S8 V):St:=vs.map some++List.replicate (N.length-vs.length) none
def wZ(CX:Iu)(P:Tf)(w:Th)(K:PySem.W.Frag)(mg:Str->S9 Ta)(base:Tg)(N:S8 Str)(qual:Str)(scope:Scope)(f:Td)(cd:Ta)(A:Around)(outer:S8 Env)(s:Tb)(H:Hp)(E:XK):Cx where
 prog:=P
 w:=w
 K:=K
 mg:=mg
 base:=base
 A:=A.deeper (envOfC qual scope s.heap.objs.size f cd)
 N:=N
 s₀:=s
 H₀:=H
 env:=envOfC qual scope s.heap.objs.size f cd
 outer:=outer
 stack:=envOfC qual scope s.heap.objs.size f cd::outer
 ex:=[]
 calm:=true
 fn:=λ_=>true
 pn:=[]
 xe:=λe s'=>wpAny (model P w) (A.deeper (envOfC qual scope s.heap.objs.size f cd)) (leaving (envOfC qual scope s.heap.objs.size f cd) e) (λ_ s''=>CX outer H s E e s'') (λe' s''=>CX outer H s E e' s'') s'
def vb{sc:Scope}(h:sc.names.lookup x=some .cell):∃c,(cellsFrom n sc.names []).lookup x=some c:=by
 have q:=PySem.W.cellsFrom_some sc.names n [] (.inl h);exact Yn.mp q
def z9{CX:Iu}{P:Tf}{w:Th}{K:PySem.W.Frag}{mg:Str->S9 Ta}{base:Tg}{N ps:S8 Str}{qual:Str}{scope:Scope}{f:Td}{cd:Ta}{A:Around}{outer:S8 Env}{s s1:Tb}{H:Hp}{E:XK}{us:S8 Ta}{vs:S8 V}
  (S:To N ps scope)(hd:A.handled=none)(e0:UR P w K mg base A outer s H)(hl:vs.length=ps.length)(r:Tp vs us)
  (x:InCallC s s.heap.objs.size (bindL (envOfC qual scope s.heap.objs.size f cd).kindOf (ps.zip us) λ_=>none) (cellsFrom (s.heap.objs.size+1) scope.names []) (bindC (envOfC qual scope s.heap.objs.size f cd).kindOf (ps.zip us) λ_=>none) s1) (ht:0<s1.toks) :
  Inv (wZ CX P w K mg base N qual scope f cd A outer s H E) [] (start N vs) H s1:=by
 have hpl:ps.length<=N.length:=by have:=congrArg List.length S.pre;rw[Xk]at this;lia
 obtain⟨h1,tk,rfl,hk⟩:=x.done;have noA:∀b:Td,b∉(wZ CX P w K mg base N qual scope f cd A outer s H E).ex:=λb z=>absurd (show b∈([]:S8 Td) from z) (by simp)
 refine⟨⟨e0.mod,S.kind,rfl,rfl,Xa _,λy z c h1 h2=>?_,λy hy=>?_,λy c _ h=>?_,λ_=>hd,Around.frames_deeper e0.frames,.inr ⟨rfl,rfl⟩,λb z=>absurd z (noA b),e0.bs,e0.bsz,λb _ _=>noA b,λb z=>absurd z (noA b),e0.funs,e0.frf⟩,
  rfl,e0.bare,Un.kept hk,⟨_,x.toInCall.ns,λi y v h1 h2 h3=>?_⟩,λy c h=>⟨_,x.cell y c h⟩,e0.hok.fresh (Xa _),λy c h=>?_,λp hp=>absurd (show p∈([]:S8 (Td×Obj)) from hp) (by simp),e0.hok.kept hk,?_,ht⟩
 ·exact name_of_addr x.apart (PySem.mem_of_lookup h1) (PySem.mem_of_lookup h2)
 ·have hy:scope.names.lookup y=some .cell\/scope.names.lookup y=some .free:=hy;rcases hy with hy|hy
  ·exact vb hy
  ·exact absurd rfl (S.nofree _ (PySem.mem_of_lookup hy))
 ·exact Yj (x.above y c (PySem.mem_of_lookup h))
 ·have hi:i<vs.length:=by
   unfold start at h2;by_cases hi:i<vs.length
   ·exact hi
   ·rw[Wh (by simpa using hi)]at h2
    rw[Xl]at h2;split at h2<;>cases h2
  have ha:vs[i]?=some v:=by
   unfold start at h2;rw[Wk (by simpa using hi),Xb]at h2
   cases e:vs[i]? with|none=>rw[e]at h2;cases h2|some a=>rw[e]at h2;cases h2;rfl
  obtain⟨u,hu,rv⟩:=r.get ha;have hp:ps[i]?=some y:=by
   rw[<-S.pre,List.getElem?_take_of_lt (by lia)];exact h1
  have ndP:ps.Nodup:=by rw[<-S.pre];exact S.nd.sublist (List.take_sublist _ _)
  refine⟨u,rv,?_⟩;rcases S.par y (Yc hp) with k|k
  ·exact .inl ⟨k,rR ndP hp hu k⟩
  ·obtain⟨c,e⟩:=vb (n:=s.heap.objs.size+1) k;refine .inr ⟨.inl k,c,e,?_⟩;have q:=x.cell y c e;rw[rS ndP hp hu (by show scope.names.lookup y≠_;rw[k];decide)]at q
   exact q
 ·exact e0.hok.fresh (Yj (x.above y c (PySem.mem_of_lookup h)))
 ·unfold start;show _=N.length;rw[Qa,Za,Qi];lia
def PL{CX:Iu}{K:PySem.W.Frag}{mg:Str->S9 Ta}{k:Nat}{f:Td}{name qual:Str}{params:Arguments}{body:S8 Stmt}{scope:Scope}{dV kV doc pm cdv ct oc:Ta}{an od:S9 Td}
  {osl:Tc (S9 Ta)}{N ps:S8 Str}{sp:Sp}(lk:K.lookup f=some ⟨oc,od,.func (PySem.W.fnOf name qual params body scope dV kV doc pm an cdv ct),osl⟩)(hcd:PySem.W.codeIn K cdv qual=true)(S:To N ps scope)
  (len:∀vs H Q E,sp vs H Q E->vs.length=ps.length)
  (hbody:∀(A:Around)(outer:S8 Env)(s:Tb)(H:Hp)(vs:S8 V)(Q:VK)(E:XK),TX k (A.deeper (envOfC qual scope s.heap.objs.size f cdv))->sp vs H Q E->
   ∃t,UG (wZ CX P w K mg base N qual scope f cdv A outer s H E) body t/\t { nx:=λ_ H'=>Q .non H',rt:=Q } (start N vs) H) :
  T9 P w K mg base CX (k+1) f (PySem.W.fnOf name qual params body scope dV kV doc pm an cdv ct) ps sp:=by
 refine⟨len,λA outer s H args us vs Q E hr e0 hb r hsp=>?_⟩;have hl:=len _ _ _ _ hsp;have KX:K.In s.heap:=e0.mod.kin.keeps λb o e=>(e0.bs b o e).1;have lim:s.heap.NoLimit:=e0.mod.nolimit.keeps λb o e=>(e0.bs b o e).1;have hkind:∀y∈ps.zip us,scope.names.lookup y.1=some .local\/(scope.names.lookup y.1=some .cell/\((cellsFrom (s.heap.objs.size+1) scope.names []).lookup y.1).isSome=true):=λ⟨n,v⟩ hy=>by
  rcases S.par n (CN hy).1 with q|q
  ·exact .inl q
  ·exact .inr ⟨q,PySem.W.cellsFrom_some _ _ _ (.inl q)⟩
 refine codeAny_call_function hr.depth (KX _ _ lk) rfl S.co S.gen rfl (PySem.W.codeRec_of KX hcd) (hb _ _ _ _ ?_);refine bJ (wpAny_newFunctionEnv_cells S.kind hkind λenv he s1 x hle=>?_);subst he;refine⟨lim.keeps x.toInCall.keep,codeAny_func ?_⟩;obtain⟨t,ht,hq⟩:=hbody A outer s H vs Q E (hr.deeper _) hsp;have I:Inv (wZ CX P w K mg base N qual scope f cdv A outer s H E) [] (start N vs) H s1:=z9 S hr.hd e0 hl r x (Vc e0.tk hle);refine Ax (ht [] s1 (start N vs) H _ I hq) (λfl s' hs=>?_) λe s' hs=>hs;have fin:∀{σ':St}{H':Hp}{v:V}{u:Ta},Inv (wZ CX P w K mg base N qual scope f cdv A outer s H E) [] σ' H' s'->RelV v u->Q v H'->CE outer P w H s Q u s' :=
  λ{σ' H' v u} J rv q=>⟨v,H',J.os,J.bare,J.base,J.hok,rv,q⟩
 cases fl with
 |ret u=>
  obtain⟨v,σ',H',J,rv,q⟩:=hs;exact fin J rv q
 |next=>
  obtain⟨σ',H',J,q⟩:=hs;exact fin (v:=V.non) (u:=Value.none) J rfl q
 |brk=>
  obtain⟨_,_,_,q⟩:=hs;exact False.elim q
 |cont=>
  obtain⟨_,_,_,q⟩:=hs;exact False.elim q
section
variable {X:Cx}{x:Str}{p pos:Pos}{e:Expr}{es:S8 Expr}{t:TA}{id T:String}{r:S8 V->Hp->VK->Prop}
def RM(r:S8 V->Hp->VK->Prop)(t:TA):TE:=λσ H Q=>t σ H λvs H1=>r vs H1 Q
def ax(hc:TB X (.builtin id) r)(hg:Gl X x)(hm:X.mg x=none)(hv:bootBuiltins x=some (.builtin id))(ha:PA X (e::es) t)(hn:x≠"__name__":=by decide)(hdb:(x == ("__debug__":Str))=false:=by decide)
  (he:starEach (e::es) X.env=(false,eval e X.env)::starEach es X.env:=by rfl) (hpl:(backTo pos (starEach es X.env)).any (·.1)=false:=by rfl):PE X (.Call (.Name x p) (e::es) [] pos) (RM r t):=by
 intro Ti s σ H Q I h;refine AW (hV I hg hm hv ?_ hn hdb);exact PyProof.Rows.callWith_builtin1 (cb (ha pos Ti s σ H _ I h) λus s1 ⟨vs,H1,I1,r1,q1⟩=>hc Ti s1 σ H1 vs us Q I1 r1 q1) he hpl
def cI(hc:TB X (.type T) r)(hg:Gl X x)(hm:X.mg x=none)(hv:bootBuiltins x=some (.type T))(ha:PA X (e::es) t)(hn:x≠"__name__":=by decide)(hdb:(x == ("__debug__":Str))=false:=by decide)
  (he:starEach (e::es) X.env=(false,eval e X.env)::starEach es X.env:=by rfl) (hpl:(backTo pos (starEach es X.env)).any (·.1)=false:=by rfl):PE X (.Call (.Name x p) (e::es) [] pos) (RM r t):=by
 intro Ti s σ H Q I h;refine AW (hV I hg hm hv ?_ hn hdb);exact As (cb (ha pos Ti s σ H _ I h) λus s1 ⟨vs,H1,I1,r1,q1⟩=>hc Ti s1 σ H1 vs us Q I1 r1 q1) he hpl
end
section
variable {κ:Type}[DecidableEq κ]
def jv(Tj:S8 (κ×V))(k:κ):S9 V:=(Tj.find? λkv=>decide (kv.1=k)).map (·.2)
def putK(Tj:S8 (κ×V))(k:κ)(v:V):S8 (κ×V) :=
 if (Tj.any λkv=>decide (kv.1=k))=true then Tj.map (λkv=>if kv.1=k then(kv.1,v) else kv) else Tj++[(k,v)]
def jw{p:κ×V}{r:S8 (κ×V)}{k:κ}(e:p.1=k):jv (p::r) k=some p.2:=by simp[jv,Yg,e]
def jx{p:κ×V}{r:S8 (κ×V)}{k:κ}(e:¬ p.1=k):jv (p::r) k=jv r k:=by simp[jv,Yg,e]
theorem vc(k:κ):∀Tj:S8 (κ×V),(Tj.any λkv=>decide (kv.1=k))=(jv Tj k).isSome
 |[]=>rfl
 | p::r=>by
  rw[Ym];by_cases e:p.1=k
  ·simp only[jw e,Ae e,Bool.true_or,Option.isSome_some]
  ·rw[jx e,Ad e,Bool.false_or];exact vc k r
def ot(Tj:S8 (κ×V))(k:κ)(v:V):(putK Tj k v).length<=Tj.length+1:=by
 unfold putK;split
 ·rw[Za];lia
 ·rw[Qa,Qc,Wf];lia
theorem Ue.isSome_eq{o:S9 V}{u:S9 Ta}(r:Ue o u):o.isSome=u.isSome:=by
 cases o with
 | none=>cases u with|none=>rfl|some _=>exact(show False from r).elim
 | some _=>cases u with|none=>exact(show False from r).elim|some _=>rfl
theorem Ue.getD{o:S9 V}{u:S9 Ta}(r:Ue o u)(rd:RelV d d'):RelV (o.getD d) (u.getD d'):=by
 cases o with
 | none=>cases u with|none=>exact rd|some _=>exact(show False from r).elim
 | some _=>cases u with|none=>exact(show False from r).elim|some _=>exact r
theorem KV.val{Tj:S8 (κ×V)}{vs:S8 (κ×Ta)}(r:KV Tj vs)(k:κ):Ue (jv Tj k) (valueAt vs k):=by
 unfold KV at r;induction r with
 |nil=>exact True.intro
 |@cons p q ps qs h t ih=>
  obtain⟨h1,h2⟩:=h;by_cases e:p.1=k
  ·have e':q.1=k:=h1.symm.trans e;have b:valueAt (q::qs) k=some q.2:=by simp[valueAt,Yg,e']
   rw[jw e,b];exact h2
  ·have e':¬ q.1=k:=λz=>e (h1.trans z);have b:valueAt (q::qs) k=valueAt qs k:=by simp[valueAt,Yg,e']
   rw[jx e,b];exact ih
theorem KV.any{Tj:S8 (κ×V)}{vs:S8 (κ×Ta)}(r:KV Tj vs)(k:κ):(Tj.any λkv=>decide (kv.1=k))=vs.any λkv=>decide (kv.1=k):=by
 unfold KV at r;induction r with|nil=>rfl|cons h t ih=>rw[Ym,Ym,ih,h.1]
def KV.repl{Tj:S8 (κ×V)}{vs:S8 (κ×Ta)}(r:KV Tj vs)(k:κ)(ry:RelV y u) :
  KV (Tj.map λkv=>if kv.1=k then(kv.1,y) else kv) (vs.map λkv=>if kv.1=k then(kv.1,u) else kv):=by
 unfold KV at r ⊢;induction r with
 |nil=>exact .nil
 |@cons p q ps qs h t ih=>
  rw[Zd,Zd];refine .cons ?_ ih;obtain⟨h1,h2⟩:=h;by_cases e:p.1=k
  ·rw[Af e,Af (h1.symm.trans e)];exact⟨h1,ry⟩
  ·rw[Ah e,Ah (λz=>e (h1.trans z))];exact⟨h1,h2⟩
def KV.put(r:KV Tj vs)(k:κ)(ry:RelV y u):KV (putK Tj k y) (stored vs k u):=by
 unfold putK stored;rw[r.any k];by_cases e:(vs.any λkv=>decide (kv.1=k))=true
 ·rw[Af e,Af e];exact r.repl k ry
 ·rw[Ah e,Ah e];exact Paired.snoc r ⟨rfl,ry⟩
theorem KV.length{Tj:S8 (κ×V)}{vs:S8 (κ×Ta)}(r:KV Tj vs):Tj.length=vs.length:=Paired.length r
end
theorem vd(r:RelV (kV k) u):(aM P w).is k u=true:=by
 cases k with
 |inl i=>obtain⟨t,e⟩:=(show ∃t,u=Value.int i t from r);subst e;exact uW P w i t
 |inr x=>obtain⟨t,e⟩:=(show ∃t,u=Value.str x t from r);subst e;exact uX P w x t
theorem nI:∀{ks:S8 Key}{us:S8 Ta},Tp (ks.map kV) us->ItemsAre (aM P w) ks us
 |[],_,r=>by rw[List.map_nil]at r;cases r;exact .nil
 | k::ks,_,r=>by
  rw[Zd]at r;cases r with|cons h t=>exact .cons (vd h) (nI t)
abbrev KT(H:Hp):List (bC×V)->List (bC×Addr×Value)->Prop:=Paired λp q=>p.1=q.1/\T5 H q.2.1 p.1/\RelV p.2 q.2.2
theorem KT.val{Tj:S8 (bC×V)}{xs:S8 (bC×Td×Ta)}(r:KT H Tj xs)(k:bC):Ue (jv Tj k) ((atKey xs k).map (·.2)):=by
 induction r with
 |nil=>exact True.intro
 |@cons p q ps qs h t ih=>
  obtain⟨h1,_,h2⟩:=h;by_cases e:p.1=k
  ·have e':q.1=k:=h1.symm.trans e;have b:atKey (q::qs) k=some q.2:=by simp[atKey,Yg,e']
   rw[jw e,b];exact h2
  ·have e':¬ q.1=k:=λz=>e (h1.trans z);have b:atKey (q::qs) k=atKey qs k:=by simp[atKey,Yg,e']
   rw[jx e,b];exact ih
def KT.repl{Tj:S8 (bC×V)}{xs:S8 (bC×Td×Ta)}(r:KT H Tj xs)(k:bC)(ry:RelV y u) :
  KT H (Tj.map λkv=>if kv.1=k then(kv.1,y) else kv) (xs.map (putAt k u)):=by
 induction r with
 |nil=>exact .nil
 |@cons p q ps qs h t ih=>
  rw[Zd,Zd];refine .cons ?_ ih;obtain⟨h1,h2,h3⟩:=h;unfold putAt;by_cases e:p.1=k
  ·rw[Af e,Af (h1.symm.trans e)];exact⟨h1,h2,ry⟩
  ·rw[Ah e,Ah (λz=>e (h1.trans z))];exact⟨h1,h2,h3⟩
def KT.put(r:KT H Tj xs)(k:bC)(hb:T5 H b k)(ry:RelV y u) :
  KT H (putK Tj k y) (storedH xs k b u):=by
 have e:(Tj.any λkv=>decide (kv.1=k))=(atKey xs k).isSome:=by
  rw[vc,(r.val k).isSome_eq,AZ]
 unfold putK storedH;rw[e];by_cases q:(atKey xs k).isSome=true
 ·rw[Af q,Af q];exact r.repl k ry
 ·rw[Ah q,Ah q];exact Paired.snoc r ⟨rfl,hb,ry⟩
def KT.keeps(r:KT H Tj xs)(ht:∀b ys,H b=some (.tup ys)->H' b=some (.tup ys)):KT H' Tj xs :=
 Paired.mapP r λ_ _ z=>⟨z.1,T5.stay ht z.2.1,z.2.2⟩
section
variable {P:Tf}{w:Th}{H:Hp}{h:Tg}{a:Td}
def KY(ok:Ud P w H h)(e:Rd H a u):Tt P w H h a u:=e.ok ok
def rT{Tj:S8 (Key×V)}(ok:Ud P w H h)(e:Rd H a (.dK Tj)):Tj.length<=sizeLine/\(a == sysModules)=false/\∃vs,KV Tj vs/\h.DictOf (aM P w) a vs :=
 show Tt P w H h a (.dK Tj) from KY ok e
def KZ{Tj:S8 (Key×V)}(ok:Ud P w H h)(e:H a=some (.dK Tj)):Tj.length<=sizeLine/\(a == sysModules)=false/\∃vs,KV Tj vs/\h.DictOf (aM P w) a vs:=rT ok (.inl e)
def ve{ks:S8 Key}(ok:Ud P w H h)(e:H a=some (.tup (ks.map kV))):IsTupleKey (aM P w) h ks a:=by
 obtain⟨_,its,r,o,h1,h2,n,h3⟩:=(show Tt P w H h a (.tup (ks.map kV)) from ok a _ e);exact⟨o,its.toArray,n,h1,h2,h3,by simpa using nI r⟩
theorem lw(ok:Ud P w H h)(e:T5 H a k):(jr P w).is h k a:=by
 cases k with
 |inl ks=>exact ve ok e
 |inr ks=>
  obtain⟨n0,bs,e,r⟩:=e;obtain⟨lz,its,q,o,h1,h2,n,h3⟩:=(show Tt P w H h a (.tup (bs.map V.ref)) from ok a _ e);refine⟨n0,o,its.toArray,n,h1,h2,h3,?_⟩;clear e n0 h3 lz;rw[List.toList_toArray];induction r generalizing its with
  |nil=>cases q;exact .nil
  |cons z _ ih=>
   rw[Zd]at q;cases q with
   |cons q1 q2=>
    cases (show _=Value.ref _ from q1);exact .cons (ve ok z) (ih _ q2)
def vf{Tj:S8 (bC×V)}(ok:Ud P w H h)(e:Rd H a (.dT ep Tj)):Tj.length<=sizeLine/\(a == sysModules)=false /\
  ∃xs,KT H Tj xs/\h.DictOfH (jr P w) a xs:=by
 obtain⟨z,y,xs,r,_,o,es,h1,h2,h3,h4,h5⟩:=(show Tt P w H h a (.dT ep Tj) from KY ok e);refine⟨z,y,xs,r,o,es,ep.1,h1,h2,h3,h4,λx hx=>?_,h5⟩;have all:∀{l:S8 (bC×V)}{m:S8 (bC×Td×Ta)},KT H l m->∀x∈m,(jr P w).is h x.1 x.2.1:=by
  intro l m q;induction q with
  |nil=>intro x hx;exact nomatch hx
  |@cons p q ps qs hq t ih=>
   intro x hx;rcases Zc.mp hx with e|hx
   ·subst e;exact lw ok (by rw[<-hq.1];exact hq.2.1)
   ·exact ih x hx
 exact all r x hx
end
section
variable {P:Tf}{w:Th}{H:Hp}{h:Tg}{a:Td}
def K1{Tj:S8 (bC×V)}(ok:Ud P w H h)(e:H a=some (.dT ep Tj)):Tj.length<=sizeLine/\(a == sysModules)=false /\
  ∃xs,KT H Tj xs/\xs.map (·.2.1)=ep.2/\h.DictOfH (jr P w) a xs:=by
 obtain⟨z,y,xs,r,ra,o,es,h1,h2,h3,h4,h5⟩:=(show Tt P w H h a (.dT ep Tj) from ok a _ e);refine⟨z,y,xs,r,ra,o,es,ep.1,h1,h2,h3,h4,λx hx=>?_,h5⟩;have all:∀{l:S8 (bC×V)}{m:S8 (bC×Td×Ta)},KT H l m->∀x∈m,(jr P w).is h x.1 x.2.1:=λ{l m} q=>by
  induction q with
  |nil=>exact λx hx=>nomatch hx
  |cons hq t ih=>
   intro x hx;rcases Zc.mp hx with e'|hx
   ·subst e';exact lw ok (by rw[<-hq.1];exact hq.2.1)
   ·exact ih x hx
 exact all r x hx
end
def Ug(H:Hp)(a:Td)(y:V)(r:S9 V):Prop :=
 (∃Tj k,Rd H a (.dK Tj)/\y=kV k/\r=jv Tj k)\/∃ep Tj k b,Rd H a (.dT ep Tj)/\y=.ref b/\T5 H b k/\r=jv Tj k
def Dr(as:S8 Td)(Tj:S8 (bC×V))(k:bC)(b:Td):S8 Td:=if (jv Tj k).isSome=true then as else as++[b]
def PM(H:Hp)(a:Td)(y v:V)(R:Hp->Prop):Prop :=
 (∃Tj k,H a=some (.dK Tj)/\y=kV k/\Tj.length<sizeLine/\R (upd H a (.dK (putK Tj k v)))) \/
 ∃ep Tj k b,H a=some (.dT ep Tj)/\y=.ref b/\T5 H b k/\Tj.length<sizeLine/\∀n,R (upd H a (.dT (n,Dr ep.2 Tj k b) (putK Tj k v)))
theorem Ug.k{a:Td}{Tj:S8 (Key×V)}{k:Key}(e:H a=some (.dK Tj)):Ug H a (kV k) (jv Tj k):=.inl ⟨Tj,k,.inl e,rfl,rfl⟩
def Ug.t{a b:Td}{ep:Nat×S8 Td}{Tj:S8 (bC×V)}{k:bC}(e:H a=some (.dT ep Tj))(eb:T5 H b k):Ug H a (.ref b) (jv Tj k):=.inr ⟨ep,Tj,k,b,.inl e,rfl,eb,rfl⟩
def Mx{xs:S8 (bC×Td×Ta)}(ra:xs.map (·.2.1)=as)(rel:KT H Tj xs):(storedH xs k b u).map (·.2.1)=Dr as Tj k b:=by
 have e:(jv Tj k).isSome=(atKey xs k).isSome:=by rw[(rel.val k).isSome_eq,AZ]
 unfold storedH Dr;rw[e];by_cases q:(atKey xs k).isSome=true
 ·rw[Af q,Af q,<-ra,Qd];refine We λx _=>?_;show(putAt k u x).2.1=x.2.1;unfold putAt;split<;>rfl
 ·rw[Ah q,Ah q,Vd,ra];rfl
section
variable {X:Cx}{Ti:S8 (Td×Obj)}{σ:St}{H:Hp}{s:Tb}{a:Td}{y v:V}{u r:Ta}{o:S9 V}{A:Around}{E:Ta->Tb->Prop}
def Inv.big(I:Inv X Ti σ H s):sysModules<s.heap.objs.size:=by
 have h:mainGlobals<s.heap.objs.size:=(I.mod.glob.keeps I.bk).lt;exact BF (by decide) h
def Ds(hu:A.units+2<cLine)(I:Inv X Ti σ H s)(g:Ug H a y (some v))(ry:RelV y u)(h:∀w' s',Inv X Ti σ H s'->RelV v w'->Q w' s') :
  wpAny (model X.prog X.w) A (getItem (.ref a) u) Q E s:=by
 rcases g with⟨Tj,k,e,ey,l⟩|⟨ep,Tj,k,b,e,ey,eb,l⟩
 ·subst ey;obtain⟨z,hd,vs,rel,dd⟩:=rT I.hok e;obtain⟨w',hw,rw'⟩:=Ue.some_of (v:=v) (o:=valueAt vs k) (by rw[l];exact rel.val k)
  exact wpAny_getItem_of (vd ry) dd.mapOf hw (h w' _ (I.tok _) rw')
 ·subst ey;cases (show u=Value.ref b from ry);obtain⟨z,hd,xs,rel,dd⟩:=vf I.hok e;have tkp:=I.tk;obtain⟨w',hw,rw'⟩:=Ue.some_of (v:=v) (o:=(atKey xs k).map (·.2)) (by rw[l];exact rel.val k)
  obtain⟨p,hp,hp2⟩:=Xc.mp hw;refine wpAny_getItem_heap (iF hu) (lw I.hok eb) dd hp ?_;rw[hp2];exact h w' _ (I.tok _) rw'
def IG(hu:A.units+2<cLine)(I:Inv X Ti σ H s)(g:Ug H a y o)(ry:RelV y u)(h:∀s',Inv X Ti σ H s'->Q (.bool (!o.isSome)) s') :
  wpAny (model X.prog X.w) A (compareOp .NotIn u (.ref a)) Q E s:=by
 rcases g with⟨Tj,k,e,ey,l⟩|⟨ep,Tj,k,b,e,ey,eb,l⟩
 ·subst ey;obtain⟨z,hd,vs,rel,dd⟩:=rT I.hok e;refine wpAny_notIn_of (vd ry) hd dd.mapOf ?_;rw[<-(rel.val k).isSome_eq,<-l];exact h _ (I.tok _)
 ·subst ey;cases (show u=Value.ref b from ry);obtain⟨z,hd,xs,rel,dd⟩:=vf I.hok e;have tkp:=I.tk;refine wpAny_notIn_heap (iF hu) (lw I.hok eb) hd dd ?_;have q:=(rel.val k).isSome_eq;rw[AZ]at q;rw[<-q,<-l];exact h _ (I.tok _)
def tq{h':Tg}(I:Inv X Ti σ H s)(mu:Pr (H a))(hs:Heap.SameBut a s.heap h')(he:∃q,h'.get? a=some q)(new:Tt X.prog X.w (upd H a ob) h' a ob)(ht:0<t':=by first|assumption|exact Vh _|exact Inv.tk (by assumption)|exact Inv.tkl (by assumption) (by assumption)|lia) :
  Inv X Ti σ (upd H a ob) { s with heap:=h',toks:=t' } :=
 I.write (x:=a) (e:=a) mu (.inl rfl) (λb q hb z=>(hs.2 b hb).trans z) he new
def My{h':Tg}{Tj:S8 (Key×V)}(z:Tj.length<=sizeLine)(hd:(a == sysModules)=false)(rel:KV Tj vs)(dd:h'.DictOf (aM P w) a vs) :
  Tt P w H' h' a (.dK Tj):=⟨z,hd,vs,rel,dd⟩
def Dt{R:Hp->Prop}{Q:Unit->Tb->Prop}(hu:A.units+2<cLine)(I:Inv X Ti σ H s)(g:PM H a y v R)(ry:RelV y u)(rv:RelV v r)(h:∀s' H',Inv X Ti σ H' s'->R H'->Q () s') :
  wpAny (model X.prog X.w) A (setItem (.ref a) u r) Q E s:=by
 rcases g with⟨Tj,k,e,ey,l,eH⟩|⟨ep,Tj,k,b,e,ey,eb,l,eH⟩
 ·subst ey;obtain⟨z,hd,vs,rel,dd⟩:=KZ I.hok e;have hz:vs.length<=sizeLine:=by rw[<-rel.length];exact z
  have hl:(putK Tj k v).length<=sizeLine:=by have:=ot Tj k v;lia
  refine wpAny_setItem_pairs (hsz:=hz) (vd ry) dd λh' dd' hs=>h _ _ ?_ eH;have he:∃q,h'.get? a=some q:=let ⟨q,_,_,hq,_⟩:=dd';⟨q,hq⟩;exact tq I (by rw[e];exact True.intro) hs he (My hl hd (rel.put k rv) dd')
 ·subst ey;cases (show u=Value.ref b from ry);obtain⟨z,hd,xs,rel,ra0,dd⟩:=K1 I.hok e;have tkp:=I.tk;have hz:xs.length<=sizeLine:=by rw[<-Paired.length rel];exact z
  have hl:(putK Tj k v).length<=sizeLine:=by have:=ot Tj k v;lia
  have ra:xs.map (·.2.1)=ep.2:=ra0;refine wpAny_setItem_heap (hsz:=hz) (iF hu) (lw I.hok eb) dd λh' dd' hs=>?_;obtain⟨q,es,ep',hq,h2,h3,h4,_,h5⟩:=dd';refine h _ _ ?_ (eH ep');refine tq I (by rw[e];exact True.intro) hs ⟨q,hq⟩ ⟨hl,hd,_,(rel.put k eb rv).keeps λc ys ec=>?_,Mx ra rel,q,es,hq,h2,h3,h4,h5⟩
  rw[aO (KK ec e (λz=>nomatch z))];exact ec
end
def IH(i:Expr):Prop:=∀ov iv,subscripted i false ov iv=operate [ov,iv] (getItem ov iv)
def yu{A:Around}{E:Ta->Tb->Prop}{T id:String}{Q:Ta->Tb->Prop}
  (hl:typeLookup (.type T) "__getitem__"=pure (some (.builtin id)))(hs:IH slice)
  (h:wpAny (model prog w) A (eval value env) (λo s₁=>wpAny (model prog w) A (eval slice env) (λi s₂=>s₂.TypeIs o T/\wpAny (model prog w) A (getItem o i) Q E s₂) E s₁) E s) :
  wpAny (model prog w) A (eval (.Subscript value slice pos) env) Q E s:=by
 refine Cc (Ax h (λo s₁ h₁=>Ax h₁ (λi s₂ h₂=>?_) λ_ _ x=>x) λ_ _ x=>x);obtain⟨hT,h₂⟩:=h₂;unfold subscriptTail;refine Aa ?_;rw[getitemInPython_of_ne hT.not_modules];refine Aa (AI hT hl ?_);have fin:wpAny (model prog w) A (subscripted slice false o i) (λr s₃=>wpAny (model prog w) A (letTemporaryGo value o r >>= λ_=>pure r) Q E s₃) E s₂:=by
  rw[hs o i];exact wpAny_operating (Ax h₂ (λr s₃ h₃=>Aa (wpAny_letTemporaryGo (Ac h₃))) λ_ _ x=>x)
 first
  | exact Ac (Aa fin)
  | exact Aa (Ac (Aa fin))
  | exact Aa fin
def vg{s:Tb}(I:Inv X Ti σ H s)(g:Ug H a y o):s.TypeIs (.ref a) "dict":=by
 rcases g with⟨Tj,k,e,_,_⟩|⟨ep,Tj,k,b,e,_,_,_⟩
 ·obtain⟨_,_,vs,_,dd⟩:=rT I.hok e;exact dd.typeIs
 ·obtain⟨_,_,xs,_,dd⟩:=vf I.hok e;exact dd.typeIs
def PN(td ty:TE):TE:=λσ H Q=>td σ H λx H1=>ty σ H1 λy H2=>∃a v,x=.ref a/\Ug H2 a y (some v)/\Q v H2
section
variable {X:Cx}{o i e value:Expr}{pos pos' tpos:Pos}{td ty tv:TE}
def II(hu:X.A.units+2<cLine)(ho:PE X o td)(hi:PE X i ty)(hs:IH i):PE X (.Subscript o i pos) (PN td ty):=by
 intro Ti s σ H Q I h;refine yu PySem.F.slot_dict_getitem.lookup hs (cb (ho Ti s σ H _ I h) λu s1 ⟨x,H1,I1,rx,q1⟩=>cb (hi Ti s1 σ H1 _ I1 q1) λiv s2 zz9=>?_);obtain⟨y,H2,I2,ry,a,v,ex,g,q2⟩:=zz9;subst ex;obtain rfl:u=Value.ref a:=rx;exact⟨vg I2 g,Ds hu I2 g ry λw' s3 I3 rw'=>⟨v,H2,I3,rw',q2⟩⟩
end
def EU(h:Tg)(hb:sysModules<h.objs.size):Tt P w H (h.push { cls:=.type "dict",data:=.dict #[] }) h.objs.size (.dK []) :=
 ⟨Yi _,beq_eq_false_iff_ne.mpr (Ne.symm (Vf hb)),[],.nil,Heap.DictOf.new h⟩
def vh(h:Tg)(hb:sysModules<h.objs.size):Tt P w H (h.push { cls:=.type "dict",data:=.dict #[] }) h.objs.size (.dT (0,[]) []) :=
 ⟨Yi _,beq_eq_false_iff_ne.mpr (Ne.symm (Vf hb)),[],.nil,rfl,_,#[],Ag _ rfl,⟨rfl,rfl,rfl⟩,rfl,rfl,CY⟩
def EV:TE:=λ_ H Q=>∀p,H p=none->Q (.ref p) (upd H p (.dK []))
def EW:TE:=λ_ H Q=>∀p,H p=none->Q (.ref p) (upd H p (.dT (0,[]) []))
section
variable {X:Cx}{pos:Pos}
def jy:PE X (.Dict [] [] pos) EV:=λTi s σ H Q I h=>
 wpAny_Dict_empty ⟨.ref s.heap.objs.size,_,I.laid (a:=s.heap.objs.size) (o:=.dK []) (t':=s.toks) (λ_ _ q=>Ab _ q) (Xa _) (EU s.heap I.big),rfl,h _ (I.hok.fresh (Xa _))⟩
def mH:PE X (.Dict [] [] pos) EW:=λTi s σ H Q I h=>
 wpAny_Dict_empty ⟨.ref s.heap.objs.size,_,I.laid (a:=s.heap.objs.size) (o:=.dT (0,[]) []) (t':=s.toks) (λ_ _ q=>Ab _ q) (Xa _) (vh s.heap I.big),rfl,h _ (I.hok.fresh (Xa _))⟩
end
def EX:S8 (TE×TE)->St->Hp->(S8 (V×V)->Hp->Prop)->Prop|[],_,H,Q=>Q [] H|(tk,tv)::r,σ,H,Q=>tk σ H λx H1=>tv σ H1 λy H2=>EX r σ H2 λps H3=>Q ((x,y)::ps) H3
abbrev VV:List (V×V)->List (Value×Value)->Prop:=Paired λp q=>RelV p.1 q.1/\RelV p.2 q.2
def RN(X:Cx)(pos:Pos)(keys:S8 (S9 Expr))(values:S8 Expr)(trs:S8 (TE×TE)):Prop :=
 ∀(Ti:S8 (Td×Obj))(s:Tb)(σ:St)(H:Hp)(Q:S8 (V×V)->Hp->Prop),Inv X Ti σ H s->EX trs σ H Q->
  wpAny (model X.prog X.w) X.A (evalPairs (pairTrees keys values X.env pos)) (λvs s'=>∃ps H',Inv X Ti σ H' s'/\VV ps vs/\Q ps H') X.xe s
def IJ:RN X pos [] [] []:=λTi s σ H Q I h=>pairTrees_nil_walk ⟨[],H,I,.nil,h⟩
def EY(hk:PE X k tk)(hv:PE X v tv)(hr:RN X pos ks vs trs) :
  RN X pos (some k::ks) (v::vs) ((tk,tv)::trs):=λTi s σ H Q I h=>
 pairTrees_cons_walk (cb (hk Ti s σ H _ I h) λu s1 ⟨x,H1,I1,rx,q1⟩=>cb (hv Ti s1 σ H1 _ I1 q1) λw2 s2 ⟨y,H2,I2,ry,q2⟩=>
  cb (hr Ti s2 σ H2 _ I2 q2) λws s3 ⟨ps,H3,I3,rel,q3⟩=>⟨(x,y)::ps,H3,I3,.cons ⟨rx,ry⟩ rel,q3⟩)
structure M2(X:Cx)(o:Expr)(m:Str)(apos:Pos)(e f:Expr)(cpos:Pos):Prop where
 base:attributeBase o m X.env (eval o X.env)=eval o X.env
 few:((backTo cpos (starEach [e,f] X.env)).all (λx=>!x.1)&&(backToKw cpos (keywordEach [] X.env)).all (λx=>x.1.isSome)
  && decide (([e,f]:List Expr).length+([]:List Keyword).length+(if ([]:List Keyword).isEmpty then 0 else 1)<30))=true
 line:(apos.endLine == cpos.line)=true
 trees:backTo cpos (starEach [e,f] X.env)=[(false,eval e X.env),(false,eval f X.env)]
def R8(H:Hp)(a:Td):Prop:=(∃Tj,Rd H a (.dK Tj))\/∃ep Tj,Rd H a (.dT ep Tj)
def Mz{s:Tb}(I:Inv X Ti σ H s)(d:R8 H a) :
  s.TypeIs (.ref a) "dict"/\(∀b,Value.ref a=.ref b->∃ob,s.heap.get? b=some ob/\ob.dict=none)/\(a == sysModules)=false:=by
 rcases d with⟨Tj,e⟩|⟨ep,Tj,e⟩
 ·obtain⟨_,hd,vs,_,dd⟩:=rT I.hok e;refine⟨dd.typeIs,λb q=>?_,hd⟩;cases q;obtain⟨ob,_,_,h1,h2,_⟩:=dd;exact⟨ob,h1,h2.2.1⟩
 ·obtain⟨_,hd,xs,_,dd⟩:=vf I.hok e;refine⟨dd.typeIs,λb q=>?_,hd⟩;cases q;obtain⟨ob,_,_,h1,h2,_⟩:=dd;exact⟨ob,h1,h2.2.1⟩
section
variable {X:Cx}{Ti:S8 (Td×Obj)}{σ:St}{H:Hp}{s:Tb}{a:Td}{y d:V}{u r:Ta}{o:S9 V}{A:Around}{E:Ta->Tb->Prop}
def MA(hu:A.units+2<cLine)(I:Inv X Ti σ H s)(g:Ug H a y o)(ry:RelV y u)(rd:RelV d r)(h:∀w' s',Inv X Ti σ H s'->RelV (o.getD d) w'->Q w' s') :
  wpAny (model X.prog X.w) A (call (.builtin "dict.get") [.ref a,u,r]) Q E s:=by
 rcases g with⟨Tj,k,e,ey,l⟩|⟨ep,Tj,k,b,e,ey,eb,l⟩
 ·subst ey;obtain⟨z,hd,vs,rel,dd⟩:=rT I.hok e;refine call_meetsIn PySem.F.slot_dict_get dd.typeIs PySem.F.entry_dict_get (PySem.F.args_dict_get_3 _ _ _) (meets_dict_get_default (aM X.prog X.w) a (vd ry) hd r) ⟨_,dd.mapOf,h _ _ (I.tok _) ?_⟩;rw[l];exact(rel.val k).getD rd
 ·subst ey;cases (show u=Value.ref b from ry);obtain⟨z,hd,xs,rel,dd⟩:=vf I.hok e;have tkp:=I.tk;refine call_meetsIn PySem.F.slot_dict_get dd.typeIs PySem.F.entry_dict_get (PySem.F.args_dict_get_3 _ _ _) (meetsH_dict_get_default (jr X.prog X.w) a b hd r) ⟨iF hu,k,xs,lw I.hok eb,dd,h _ _ (I.tok _) ?_⟩;rw[l];exact(rel.val k).getD rd
end
def EZ(td ty tx:TE):TE:=λσ H Q=>td σ H λx H1=>∃a,x=.ref a/\R8 H1 a/\ty σ H1 λy H2=>tx σ H2 λz H3=>∃o,Ug H3 a y o/\Q (o.getD z) H3
section
variable {X:Cx}{o e f:Expr}{apos cpos:Pos}{td ty tx:TE}
def E8(hu:X.A.units+2<cLine)(ho:PE X o td)(he:PE X e ty)(hf:PE X f tx)(m:M2 X o "get" apos e f cpos):PE X (.Call (.Attribute o "get" apos) [e,f] [] cpos) (EZ td ty tx):=by
 intro Ti s σ H Q I h;refine wpAny_Call_method m.base m.few m.line PySem.F.plainAttrs_dict PySem.F.slot_dict_get PySem.F.type_dict_get (cb (ho Ti s σ H _ I h) λu s1 zz9=>?_);obtain⟨x,H1,I1,rx,a,ex,d,q1⟩:=zz9;subst ex;obtain rfl:u=Value.ref a:=rx;obtain⟨t1,t2,_⟩:=Mz I1 d;refine⟨t1,t2,?_⟩;rw[m.trees]
 refine BK rfl (Calls.evalArgs_plain (Ch (cb (he Ti s1 σ H1 _ I1 q1) λiv s2 ⟨y,H2,I2,ry,q2⟩=>
  Ch (cb (hf Ti s2 σ H2 _ I2 q2) λfv s3 ⟨z,H3,I3,rz,ov,g,q3⟩=>Calls.spliced_nil ?_))))
 exact MA hu I3 g ry rz λw' s4 I4 rw'=>⟨_,H3,I4,rw',q3⟩
end
end L2
namespace HT
open PySem PyProof.Rows
def rcLt_int(A:Around)(s:Tb)(a:Int)(t:Tok)(c:Int)(u:Tok)(prog:Tf)(w:Th)(E:Ta->Tb->Prop)(Q:Ta->Tb->Prop)(h:Q (.bool (decide (a<c))) s) :
  wpAny (model prog w) A (richCompare .Lt (.int a t) (.int c u)) Q E s :=
 (PyProof.Rows.lt_int h:wpAny (model prog w) A (compareOp .Lt (.int a t) (.int c u)) Q E s)
section
variable {prog:Tf}{w:Th}{A:Around}{E:Ta->Tb->Prop}{s:Tb}
def cat_tup{vs ws:S8 Ta}(ht:IsTup s.heap t vs.toArray)(hb:IsTup s.heap b ws.toArray)(hv:vs≠[])
  (h1:ws=[]->Q (.ref t) s)(h2:ws≠[]->Q (.ref s.heap.objs.size) { s with heap:=s.heap.push { cls:=.type "tuple",data:=.seq (vs++ws).toArray } })
  (hsz:vs.length+ws.length<=sizeLine):wpAny (model prog w) A (binaryOp .Add (.ref t) (.ref b)) Q E s:=by
 obtain⟨⟨cls,dd,data,sl⟩,ho,hc,n,hd⟩:=id ht;obtain⟨⟨cls2,dd2,data2,sl2⟩,ho2,hc2,n2,hd2⟩:=id hb;simp only at hc hd hc2 hd2;subst hc hd hc2 hd2;have e:vs.toArray++ws.toArray=(vs++ws).toArray:=by simp
 by_cases hw:ws=[]
 ·exact concat_meets ⟨_,ho,rfl⟩ ⟨_,ho2,rfl⟩ Cz seq_tuple_add PySem.F.slot_tuple_add PySem.F.entry_tuple_add (PySem.F.args_tuple_add_2 _ _)
   (tuple_addW1 t b vs.toArray ws.toArray n n2 dd dd2 sl sl2 (by simpa using hv) (by simp[hw])) ⟨ho,ho2,h1 hw⟩
 ·refine concat_meets ⟨_,ho,rfl⟩ ⟨_,ho2,rfl⟩ Cz seq_tuple_add PySem.F.slot_tuple_add PySem.F.entry_tuple_add (PySem.F.args_tuple_add_2 _ _)
   (tuple_addW2 t b vs.toArray ws.toArray n n2 dd dd2 sl sl2 (by simpa using hv) (by simpa using hw) (by rw[Yb,Yb];exact hsz)) ⟨ho,ho2,?_⟩
  rw[e];exact h2 hw
def sIx(n d:Nat):S9 Int->Nat|none=>d|some v=>if v<0 then(v+(n:Int)).toNat else min v.toNat n
def sIx_none(n d:Nat):sIx n d none=d:=rfl
def sIx_nat(n d k:Nat):sIx n d (some (k:Int))=min k n:=by
 show(if (k:Int)<0 then((k:Int)+(n:Int)).toNat else min (k:Int).toNat n)=min k n;rw[Ah (by lia),Zl]
theorem MB(n d:Nat)(hd:d<=n)(o:S9 Int):sIx n d o<=n:=by
 cases o with
 |none=>exact hd
 |some v=>
  show(if v<0 then(v+(n:Int)).toNat else min v.toNat n)<=n;by_cases hv:v<0
  ·rw[Af hv];lia
  ·rw[Ah hv];exact Nat.min_le_right _ _
def clip_nat(v:Int)(n:Nat)(hv:¬ v<0):min v (n:Int)=((min v.toNat n:Nat):Int):=by
 obtain⟨k,rfl⟩:=Yh (Int.not_lt.mp hv);rw[Zl];rcases Nat.le_total k n with h|h
 ·rw[Zm h];exact Int.min_eq_left (Int.ofNat_le.mpr h)
 ·rw[Nat.min_eq_right h];exact Int.min_eq_right (Int.ofNat_le.mpr h)
def yv(v:Int)(n d:Nat):(if v<0 then max (v+(n:Int)) 0 else min v (n:Int))=((sIx n d (some v):Nat):Int):=by
 show(if v<0 then max (v+(n:Int)) 0 else min v (n:Int))=(((if v<0 then(v+(n:Int)).toNat else min v.toNat n):Nat):Int);by_cases hv:v<0
 ·rw[Af hv,Af hv];exact(Int.ofNat_toNat _).symm
 ·rw[Ah hv,Ah hv];exact clip_nat v n hv
def w5(lo hi:S9 Int)(n:Nat):Builtin.Slice.sliceAdjust lo hi 1 (n:Int)=(((sIx n 0 lo:Nat):Int),((sIx n n hi:Nat):Int)):=by
 have h1:¬ ((1:Int)<0):=by lia
 unfold Builtin.Slice.sliceAdjust;simp only[h1,if_false];refine Prod.ext ?_ ?_
 ·cases lo with|none=>rfl|some v=>exact yv v n 0
 ·cases hi with|none=>rfl|some v=>exact yv v n n
def w6(i j:Nat):Builtin.Slice.slicePlaces (i:Int) (j:Int) 1=j-i:=by
 unfold Builtin.Slice.slicePlaces;have h1:(1:Int) > 0:=by lia
 simp only[h1,if_true,Dg];split<;>lia
theorem slicePart_(p:IsPart v o)(h:Q o s):wpAny (model prog w) A (Builtin.Slice.slicePartIndex v) Q E s:=by
 cases p with|none=>exact slicePart_none h|int i t=>exact slicePart_int h
def iz{sl:Td}{vl vu:Ta}{lo hi:S9 Int}{n:Nat}{Q:Int×Int×Nat->Tb->Prop}(hs:s.heap.IsSliceOf sl vl vu .none)(pl:IsPart vl lo)(pu:IsPart vu hi)
  (h:Q (((sIx n 0 lo:Nat):Int),1,sIx n n hi-sIx n 0 lo) s):wpAny (model prog w) A (Builtin.Slice.sliceApplied (.ref sl) (pure (n:Int))) Q E s:=by
 obtain⟨os,hos,hcs,hds⟩:=id hs;unfold Builtin.Slice.sliceApplied Builtin.Slice.sliceFields;refine Aa (Aa (Ap hos hds (x:=vl) rfl (Aa (Ap hos hds (x:=vu) rfl (Aa (Ap hos hds (x:=.none) rfl (Ac ?_)))))));refine Aa (slicePart_none ?_);show wpAny _ _ (if ((1:Int) == 0)=true then _ else _) _ _ s;rw[Ah (by decide)]
 refine Aa (slicePart_ pl (Aa (slicePart_ pu (Aa (Ac ?_)))));show wpAny _ _ (match Builtin.Slice.sliceAdjust lo hi 1 (n:Int) with|(lo,hi)=>pure (lo,(1:Int),Builtin.Slice.slicePlaces lo hi 1)) _ _ s
 rw[w5 lo hi n];show wpAny _ _ (pure (((sIx n 0 lo:Nat):Int),(1:Int),Builtin.Slice.slicePlaces ((sIx n 0 lo:Nat):Int) ((sIx n n hi:Nat):Int) 1)) _ _ s;rw[w6];exact Ac h
def E9(xs:Tc Ta)(i k:Nat):((List.range k).filterMap λ(m:Nat)=>xs[((i:Int)+(m:Int)*1).toNat]?).toArray=((xs.toList.drop i).take k).toArray:=by
 have e:(λ(m:Nat)=>xs[((i:Int)+(m:Int)*1).toNat]?)=λm=>xs[i+m]?:=by
  funext m
  have:((i:Int)+(m:Int)*1).toNat=i+m:=by lia
  rw[this]
 rw[e];have:=pick_run xs i k;rw[Cf]at this;have e2:((λx=>xs[x]?) ∘ λx=>i+x)=λm=>xs[i+m]?:=rfl;rw[e2]at this;rw[this]
def getItem_tuple_cut{t sl:Td}{items:Tc Ta}{vl vu:Ta}{lo hi:S9 Int}{Q:Ta->Tb->Prop}(ht:IsTup s.heap t items)(hs:s.heap.IsSliceOf sl vl vu .none)(pl:IsPart vl lo)(pu:IsPart vu hi)
  (hw:¬ (sIx items.size 0 lo=0/\sIx items.size items.size hi=items.size))
  (h:Q (.ref s.heap.objs.size) { s with heap:=s.heap.push { cls:=.type "tuple",data:=.seq ((items.toList.drop (sIx items.size 0 lo)).take (sIx items.size items.size hi-sIx items.size 0 lo)).toArray } })
  (hsz:items.size<=sizeLine):wpAny (model prog w) A (getItem (.ref t) (.ref sl)) Q E s:=by
 have htake:sizeOk (.seq ((items.toList.drop (sIx items.size 0 lo)).take (sIx items.size items.size hi-sIx items.size 0 lo)).toArray):=by
  show((items.toList.drop (sIx items.size 0 lo)).take (sIx items.size items.size hi-sIx items.size 0 lo)).toArray.size<=sizeLine;rw[Yb,Xk,Xi,Yd];exact Ye (Nat.min_le_right _ _) (Ye (Nat.sub_le _ _) hsz)
 have hj:sIx items.size items.size hi<=items.size:=MB _ _ (Xa _) hi;obtain⟨os,hos,hcs,hds⟩:=id hs;have hTs:s.TypeIs (.ref sl) "slice":=⟨os,hos,hcs⟩;unfold getItem
 try with_reducible refine Aw ?_
 first|refine Aa (Ac ?_)|skip
 refine Aa (Cj ht.typeIs (by decide) ?_)
 refine Aa (Ao (name:=Str.ofString "__getitem__") ht.typeIs At
  (An At ht.typeIs BY ?_ (Cb _ _)))
 show wpAny _ _ (Builtin.Tuple.tupleItemsOf (.ref t) >>= _) _ _ s;refine Aa (tupleItemsOf_ ht ?_);refine Aa (AQ hTs ?_);rw[Af (by decide)]
 refine Aa (iz hs pl pu ?_);have hno:¬ ((((sIx items.size 0 lo:Nat):Int) == 0&&(1:Int) == 1&&(sIx items.size items.size hi-sIx items.size 0 lo) == items.size)=true):=by
  intro q;rw[Qf,Qf]at q;have q1:((sIx items.size 0 lo:Nat):Int)=0:=eq_of_beq q.1.1;have q2:sIx items.size items.size hi-sIx items.size 0 lo=items.size:=eq_of_beq q.2;exact hw ⟨by lia,by lia⟩
 show wpAny _ _ (if (((sIx items.size 0 lo:Nat):Int) == 0&&(1:Int) == 1&&(sIx items.size items.size hi-sIx items.size 0 lo) == items.size)=true then _ else _) _ _ s;rw[Ah hno,E9]
 first
  | exact Aa (m:=Builtin.Tuple.tupleExact _) (Am (Ac ⟨_,rfl,Ac h⟩) htake)
  | exact Aa (m:=Builtin.Tuple.tupleExact _) (Am (Aa (Ac (Ac ⟨_,rfl,Ac h⟩))) htake)
  | exact Aa (Aa (m:=Builtin.Tuple.tupleExact _) (Am (Ac (Ac ⟨_,rfl,Ac h⟩)) htake))
  | exact Aa (Aa (m:=Builtin.Tuple.tupleExact _) (Am (Ac ⟨_,rfl,Ac h⟩) htake))
end
end HT
namespace L2
open PySem PySem.Spec PyProof.Rows
abbrev TO:=St->Hp->(Option Int->Hp->Prop)->Prop
def PO(X:Cx)(e:S9 Expr)(t:TO):Prop :=
 ∀(Ti:S8 (Td×Obj))(s:Tb)(σ:St)(H:Hp)(Q:S9 Int->Hp->Prop),Inv X Ti σ H s->t σ H Q->
  wpAny (model X.prog X.w) X.A (evalPart e X.env) (λu s'=>∃o H',Inv X Ti σ H' s'/\IsPart u o/\Q o H') X.xe s
def yw:TO:=λ_ H Q=>Q none H
def K2(t:TE):TO:=λσ H Q=>t σ H λx H1=>∃i,x=.int i/\Q (some i) H1
section
variable {X:Cx}{e:Expr}{te:TE}{lo hi:S9 Expr}{tl th:TO}{pos p2:Pos}
def dW:PO X none yw:=by
 intro Ti s σ H Q I h;rw[B9];exact Ac ⟨none,H,I,.none,h⟩
def bo(h:PE X e te):PO X (some e) (K2 te):=by
 intro Ti s σ H Q I hw;rw[evalPart_some];refine cb (h Ti s σ H _ I hw) λu s1 zz9=>?_;obtain⟨x,H1,I1,r1,q1⟩:=zz9;obtain⟨i,rfl,q⟩:=q1;obtain⟨t,rfl⟩:=r1;exact⟨some i,H1,I1,.int i t,q⟩
def UH(X:Cx)(r:V->S9 Int->S9 Int->Hp->VK->Prop):Prop :=
 ∀(Ti:S8 (Td×Obj))(s:Tb)(σ:St)(H:Hp)(x:V)(v vl vu:Ta)(lo hi:S9 Int)(sl:Td)(Q:VK),Inv X Ti σ H s->RelV x v->s.heap.IsSliceOf sl vl vu .none->IsPart vl lo->IsPart vu hi->r x lo hi H Q->
  ∃T id,typeLookup (.type T) "__getitem__"=pure (some (.builtin id))/\s.TypeIs v T/\wpAny (model X.prog X.w) X.A (getItem v (.ref sl)) (EP X Ti σ Q) X.xe s
def UH.or(h:UH X r)(h':UH X r'):UH X (λx lo hi H Q=>r x lo hi H Q\/r' x lo hi H Q):=by
 intro Ti s σ H x v vl vu lo hi sl Q I rx hs pl pu q;rcases q with q|q
 ·exact h Ti s σ H x v vl vu lo hi sl Q I rx hs pl pu q
 ·exact h' Ti s σ H x v vl vu lo hi sl Q I rx hs pl pu q
def SO(r:V->S9 Int->S9 Int->Hp->VK->Prop)(te:TE)(tl th:TO):TE:=λσ H Q=>te σ H λx H1=>tl σ H1 λl H2=>th σ H2 λu H3=>r x l u H3 Q
def bD(hr:UH X r)(he:PE X e te)(hl:PO X lo tl)(hu:PO X hi th):PE X (.Subscript e (.Slice lo hi none p2) pos) (SO r te tl th):=by
 intro Ti s σ H Q I h;refine Cc (cb (he Ti s σ H _ I h) λv s1 zz9=>?_);obtain⟨x,H1,I1,r1,q1⟩:=zz9;refine wpAny_Slice (cb (hl Ti s1 σ H1 _ I1 q1) λvl s2 ⟨l,H2,I2,pl,q2⟩=>cb (hu Ti s2 σ H2 _ I2 q2) λvu s3 zz9=>?_);obtain⟨u,H3,I3,pu,q3⟩:=zz9;rw[B9];refine Ac ?_;have I4:Inv X Ti σ H3 { s3 with heap:=s3.heap.push { cls:=.type "slice",data:=.fields #[vl,vu,.none] } }:=I3.kept (t':=s3.toks) λb ob q=>Ab _ q;obtain⟨T,id,hT,ht,hg⟩:=hr Ti { s3 with heap:=s3.heap.push { cls:=.type "slice",data:=.fields #[vl,vu,.none] } } σ H3 x v vl vu l u s3.heap.objs.size Q I4 r1 (Heap.IsSliceOf.new ..) pl pu q3;show wpAny (model X.prog X.w) X.A (subscriptTail e (.Slice lo hi none p2) v (.ref s3.heap.objs.size)) (EP X Ti σ Q) X.xe { s3 with heap:=s3.heap.push { cls:=.type "slice",data:=.fields #[vl,vu,.none] } };exact tail_any (ops:=[.ref s3.heap.objs.size,v]) ht hT hg (by with_unfolding_all rfl)
def vm(xs:S8 V)(lo hi:S9 Int):S8 V:=(xs.drop (HT.sIx xs.length 0 lo)).take (HT.sIx xs.length xs.length hi-HT.sIx xs.length 0 lo)
def ou(xs:S8 V)(lo hi:S9 Int):(vm xs lo hi).length<=xs.length:=by
 unfold vm;rw[Xk,Xi];lia
def MC(K:PySem.W.Frag):V->S9 Int->S9 Int->Hp->VK->Prop:=λx lo hi H Q=>∃a xs,x=.ref a/\iH K H a xs /\
 ¬ (HT.sIx xs.length 0 lo=0/\HT.sIx xs.length xs.length hi=xs.length)/\∀p,H p=none->Q (.ref p) (upd H p (.tup (vm xs lo hi)))
def MD:UH X (MC X.K):=by
 intro Ti s σ H x v vl vu lo hi sl Q I rx hs pl pu h;obtain⟨a,xs,rfl,hx,hw,q⟩:=h;cases rx;obtain⟨its,r,ht,hz⟩:=I.tuple hx;have hlen:its.toArray.size=xs.length:=by rw[Yb];exact r.length.symm
 refine⟨"tuple",_,At.lookup,ht.typeIs,?_⟩;refine HT.getItem_tuple_cut ht hs pl pu (by rw[hlen];exact hw) ?_ (by rw[hlen];exact hz)
 rw[hlen];refine⟨.ref s.heap.objs.size,_,I.laid (t':=s.toks) (o:=.tup (vm xs lo hi)) (λb ob q=>Ab _ q) (Xa _) ?_,rfl,q _ (I.hok.fresh (Xa _))⟩;exact⟨Ye (ou xs lo hi) hz,_,(r.drop (HT.sIx xs.length 0 lo)).take (HT.sIx xs.length xs.length hi-HT.sIx xs.length 0 lo),IsTup.new _ _⟩
def Fb(K:PySem.W.Frag):R2:=λx y H Q=>∃a b xs ys,x=.ref a/\y=.ref b/\iH K H a xs/\iH K H b ys/\xs≠[]/\xs.length+ys.length<=sizeLine /\
 (ys=[]->Q (.ref a) H)/\(ys≠[]->∀p,H p=none->Q (.ref p) (upd H p (.tup (xs++ys))))
theorem Tp.nil_iff(r:Tp xs us):us=[]↔xs=[]:=by
 cases r with|nil=>simp|cons _ _=>simp
def IM:T4 X (binaryOp .Add) (Fb X.K):=by
 intro Ti s σ H x y v u Q I rx ry h;obtain⟨a,b,xs,ys,rfl,rfl,ha,hb,hx,hz,q1,q2⟩:=h;cases rx;cases ry;obtain⟨its,r1,p1,_⟩:=I.tuple ha;obtain⟨its2,r2,p2,_⟩:=I.tuple hb;refine HT.cat_tup p1 p2 (λz=>hx (r1.nil_iff.mp z)) (λz=>⟨.ref a,H,I,rfl,q1 (r2.nil_iff.mp z)⟩) (λz=>?_) (by rw[<-r1.length,<-r2.length];exact hz)
 refine⟨.ref s.heap.objs.size,_,I.laid (t':=s.toks) (o:=.tup (xs++ys)) (λb ob q=>Ab _ q) (Xa _) ?_,rfl,q2 (λw=>z (r2.nil_iff.mpr w)) _ (I.hok.fresh (Xa _))⟩;exact⟨by rw[Qa];exact hz,_,r1.append r2,IsTup.new _ _⟩
end
def K3(n:Nat)(i:Int):S9 Nat:=if 0<=i then(if i<n then some i.toNat else none) else if -(n:Int)<=i then some (i+n).toNat else none
def oF{α:Type}(xs:S8 α)(i:Int):S9 α:=(K3 xs.length i).bind λj=>xs[j]?
def yx(h:K3 n i=some j):seqIndex? i n=some j/\j<n/\-(n:Int)<=i/\i<n:=by
 unfold K3 at h;by_cases h0:0<=i
 ·rw[Af h0]at h;by_cases h1:i<n
  ·rw[Af h1]at h;have e:i.toNat=j:=Option.some.inj h;exact⟨by rw[CJ h0 h1,e],by lia,by lia,h1⟩
  ·rw[Ah h1]at h;cases h
 ·rw[Ah h0]at h;by_cases h1:-(n:Int)<=i
  ·rw[Af h1]at h;have e:(i+n).toNat=j:=Option.some.inj h;exact⟨by rw[seqIndex_neg (by lia) h1,e],by lia,h1,by lia⟩
  ·rw[Ah h1]at h;cases h
theorem tz{xs:S8 α}(h:oF xs i=some v):∃j,seqIndex? i xs.length=some j/\xs[j]?=some v/\j<xs.length/\-(xs.length:Int)<=i/\i<xs.length:=by
 unfold oF at h;cases e:K3 xs.length i with
 |none=>rw[e]at h;cases h
 |some j=>
  rw[e]at h;obtain⟨h1,h2,h3,h4⟩:=yx e;exact⟨j,h1,h,h2,h3,h4⟩
def mI{α:Type}{xs:S8 α}{j:Nat}{v:α}(h:xs[j]?=some v):oF xs (j:Int)=some v:=by
 have hj:j<xs.length:=(Wd.mp h).1;have e:K3 xs.length (j:Int)=some j:=by
  unfold K3;rw[Af (by lia),Af (by lia)];simp
 unfold oF;rw[e];exact h
def IN(b:Expr):Prop:=∀o i,subscripted b false o i=operate [o,i] (getItem o i)
def UQ(X:Cx)(r:R2):Prop :=
 ∀(value slice:Expr)(Ti:S8 (Td×Obj))(s:Tb)(σ:St)(H:Hp)(x y:V)(v u:Ta)(Q:VK),Inv X Ti σ H s->RelV x v->RelV y u->r x y H Q->
  subscripted slice false v u=operate [v,u] (getItem v u)->wpAny (model X.prog X.w) X.A (subscriptTail value slice v u) (EP X Ti σ Q) X.xe s
def RO(X:Cx)(id:String)(r:V->S8 V->Hp->VK->Prop):Prop :=
 ∀(Ti:S8 (Td×Obj))(s:Tb)(σ:St)(H:Hp)(x:V)(xs:S8 V)(v:Ta)(us:S8 Ta)(Q:VK),Inv X Ti σ H s->RelV x v->Tp xs us->r x xs H Q->
  wpAny (model X.prog X.w) X.A (call (.builtin id) (v::us)) (EP X Ti σ Q) X.xe s
section
variable {X:Cx}{a b:Expr}{ta tb:TE}{pos:Pos}
def UQ.or(h:UQ X r)(h':UQ X r'):UQ X (λx y H Q=>r x y H Q\/r' x y H Q):=by
 intro value slice Ti s σ H x y v u Q I rx ry q hs;rcases q with q|q
 ·exact h value slice Ti s σ H x y v u Q I rx ry q hs
 ·exact h' value slice Ti s σ H x y v u Q I rx ry q hs
def bA(hr:UQ X r)(ha:PE X a ta)(hb:PE X b tb)(hs:IN b):PE X (.Subscript a b pos) (Pb r ta tb):=by
 intro Ti s σ H Q I h;exact Cc (Mq ha hb I h λv u s2 x y H2 I2 rx ry q=>hr a b Ti s2 σ H2 x y v u Q I2 rx ry q (hs _ _))
def ME(K:PySem.W.Frag):R2:=λx y H Q=>∃p xs i v,x=.ref p/\y=.int i/\gR K H p xs/\oF xs i=some v/\Q v H
def MF(K:PySem.W.Frag):R2:=λx y H Q=>∃p xs i v,x=.ref p/\y=.int i/\iH K H p xs/\oF xs i=some v/\Q v H
def MG:R2:=λx y H Q=>∃z i c,x=.str z/\y=.int i/\z.length<=sizeLine/\oF z.cps.toList i=some c/\Q (.str ⟨#[c]⟩) H
def US:UQ X (ME X.K):=by
 intro value slice Ti s σ H x y v u Q I rx ry h hs;obtain⟨p,xs,i,z,rfl,rfl,hq,he,q⟩:=h;cases rx;obtain⟨t,rfl⟩:=ry;obtain⟨its,r,pl,hz⟩:=I.list hq;obtain⟨j,h1,h2,h3,h4,h5⟩:=tz he;obtain⟨w,ew,rw'⟩:=r.get h2;have hl:=r.length;have hn:=lq;have fin:EP X Ti σ Q w s:=⟨z,H,I,rw',q⟩;by_cases h0:0<=i
 ·have hj:i.toNat=j:=by
   rw[CJ h0 h5]at h1;exact Option.some.inj h1
  exact item_listR pl.isList h0 (by lia) (by rw[hj];simpa using ew) fin hs
 ·have hj:(i+(its.toArray.size:Int)).toNat=j:=by
   rw[seqIndex_neg (by lia) h4]at h1
   rw[Yb,<-hl];exact Option.some.inj h1
  exact subscriptTail_builtinR (x:=w) pl.isList.typeIs slot_list_getitem.lookup
   (wpAny_getItem_list_neg (Q:=λr s'=>r=w/\EP X Ti σ Q r s') pl.isList (by lia) (by rw[Yb]<;>lia) (by lia) (by rw[hj];simpa using ew) ⟨rfl,fin⟩) hs
def ix_tup:UQ X (MF X.K):=by
 intro value slice Ti s σ H x y v u Q I rx ry h hs;obtain⟨p,xs,i,z,rfl,rfl,hq,he,q⟩:=h;cases rx;obtain⟨t,rfl⟩:=ry;obtain⟨its,r,pl,hz⟩:=I.tuple hq;obtain⟨j,h1,h2,h3,h4,h5⟩:=tz he;obtain⟨w,ew,rw'⟩:=r.get h2;have hl:=r.length;have hn:=lq;have fin:EP X Ti σ Q w s:=⟨z,H,I,rw',q⟩;exact subscriptTail_builtinR (x:=w) pl.typeIs slot_tuple_getitem.lookup
  (getItem_tuple (j:=j) (Q:=λr s'=>r=w/\EP X Ti σ Q r s') pl (by lia) (by lia) (by rw[Yb,<-hl];exact h1) (by simpa using ew) ⟨rfl,fin⟩) hs
def ix_str:UQ X MG:=by
 intro value slice Ti s σ H x y v u Q I rx ry h hs;obtain⟨z,i,c,rfl,rfl,hz,he,q⟩:=h;obtain⟨t,rfl⟩:=rx;obtain⟨t',rfl⟩:=ry;obtain⟨j,h1,h2,h3,h4,h5⟩:=tz he;have hl:z.cps.toList.length=z.length:=by simp[Str.length]
 rw[hl]at h1 h4 h5;have hn:=lq
 exact tail_any (CU s z t) slot_str_getitem.lookup (getItem_str (c:=c) (by
  have e1:decide (i < -(2 ^ 63:Int))=false:=Ad (by lia)
  have e2:decide (i ≥ 2 ^ 63)=false:=Ad (by lia)
  rw[e1,e2,Bool.or_false]) (by rw[h1];simpa using h2) ⟨.str ⟨#[c]⟩,H,I.tok _,⟨_,rfl⟩,q⟩) hs
def R9(K:PySem.W.Frag):R2:=λx y H Q=>ME K x y H Q\/MF K x y H Q\/MG x y H Q
def MH:UQ X (R9 X.K):=US.or (ix_tup.or ix_str)
def w9(its:S8 Ta)(n j:Nat)(u:Ta):Obj.mapSeq (·.setIfInBounds j u) { cls:=.type "list",data:=.seq its.toArray n }={ cls:=.type "list",data:=.seq (its.set j u).toArray n }:=by
 simp[Obj.mapSeq]
theorem Inv.lst{s:Tb}(I:Inv X Ti σ H s)(h:H p=some (.lst xs)) :
  ∃(its:S8 Ta)(n:Nat),Tp xs its/\s.heap.get? p=some { cls:=.type "list",data:=.seq its.toArray n }/\xs.length<=sizeLine:=by
 obtain⟨z,its,n,r,e⟩:=I.hok p _ h;exact⟨its,n,r,e,z⟩
def Inv.lstUpd{s:Tb}{xs ys:S8 V}{its its':S8 Ta}(I:Inv X Ti σ H s)(h:H p=some (.lst xs))
  (ho:s.heap.get? p=some { cls:=.type "list",data:=.seq its.toArray n })(hf:f { cls:=.type "list",data:=.seq its.toArray n }={ cls:=.type "list",data:=.seq its'.toArray n' })(r:Tp ys its')(hz:ys.length<=sizeLine)(t':Nat)(ht:0<t':=by first|assumption|exact Vh _|exact Inv.tk (by assumption)|exact Inv.tkl (by assumption) (by assumption)|lia) :
  Inv X Ti σ (upd H p (.lst ys)) { s with heap:=s.heap.update p f,toks:=t' }:=by
 have e:(s.heap.update p f).get? p=some { cls:=.type "list",data:=.seq its'.toArray n' }:=by
  rw[AK f ho (by rw[hf]<;>rfl),hf]
 refine I.write (x:=p) (e:=p) (by rw[h];trivial) (.inl rfl) (λb u hb q=>(AH _ _ (Ne.symm hb)).trans q) ⟨_,e⟩ ?_
 exact⟨hz,its',n',r,e⟩
def K4:V->V->V->Hp->(Hp->Prop)->Prop:=λo i v H Q=>∃p xs k j,o=.ref p/\i=.int k/\H p=some (.lst xs)/\K3 xs.length k=some j/\Q (upd H p (.lst (xs.set j v)))
def set_list:Ml X K4:=by
 intro Ti s σ H o i v ov iv u Q I ro ri rv h;obtain⟨p,xs,k,j,rfl,rfl,hp,hj,q⟩:=h;cases ro;obtain⟨t,rfl⟩:=ri;obtain⟨its,n,r,ho,hz⟩:=I.lst hp;obtain⟨h1,h2,h3,h4⟩:=yx hj;have hl:=r.length;have hn:=lq;have I':Inv X Ti σ (upd H p (.lst (xs.set j v))) { s with heap:=s.heap.update p (Obj.mapSeq (·.setIfInBounds j u)) } :=
  I.lstUpd hp ho (w9 its n j u) (r.set rv j) (by rw[List.length_set];exact hz) s.toks
 by_cases h0:0<=k
 ·have hk:k.toNat=j:=by
   rw[CJ h0 h4]at h1;exact Option.some.inj h1
  exact PySem.W.ki_setAt ho h0 (by lia) (by rw[Yb,<-hl];exact h4) (by rw[hk];exact⟨_,I',q⟩)
 ·have hk:(k+(its.toArray.size:Int)).toNat=j:=by
   rw[seqIndex_neg (by lia) h3]at h1
   rw[Yb,<-hl];exact Option.some.inj h1
  exact PySem.W.ki_setBack ho (by lia) (by rw[Yb,<-hl];exact h3) (by lia) (by rw[hk];exact⟨_,I',q⟩)
def Fc(i:Int)(n:Nat):max 0 (min (if i<0 then i+(n:Int) else i) (n:Int))=(((if i<0 then(i+(n:Int)).toNat else min i.toNat n):Nat):Int):=by
 by_cases h:i<0
 ·rw[Af h,Af h,Int.min_eq_left (by lia),Int.max_comm];exact(Int.ofNat_toNat _).symm
 ·rw[Ah h,Ah h,HT.clip_nat i n h];exact Int.max_eq_right (Int.natCast_nonneg _)
def tD(lo hi:S9 Int)(n:Nat):(sliceBounds lo hi none n).1=((HT.sIx n 0 lo:Nat):Int)/\(sliceBounds lo hi none n).2.1=((HT.sIx n n hi:Nat):Int)/\(sliceBounds lo hi none n).2.2=1:=by
 refine⟨?_,?_,rfl⟩
 ·cases lo with|none=>simp[sliceBounds,HT.sIx]|some i=>exact Fc i n
 ·cases hi with|none=>simp[sliceBounds,HT.sIx]|some i=>exact Fc i n
def rj(its:S8 Ta)(lo hi:S9 Int):slicePick its.toArray lo hi none=((its.drop (HT.sIx its.length 0 lo)).take (HT.sIx its.length its.length hi-HT.sIx its.length 0 lo)).toArray:=by
 obtain⟨h1,h2,h3⟩:=tD lo hi its.toArray.size;unfold slicePick;rw[h1,h2,h3];simp only[sliceRange_one,pick_run,Yb]<;>rfl
def MI(K:PySem.W.Frag):V->S9 Int->S9 Int->Hp->VK->Prop:=λx lo hi H Q=>∃a xs,x=.ref a/\gR K H a xs/\∀p,H p=none->Q (.ref p) (upd H p (.lst (vm xs lo hi)))
def IO:UH X (MI X.K):=by
 intro Ti s σ H x v vl vu lo hi sl Q I rx hs pl pu h;obtain⟨a,xs,rfl,hx,q⟩:=h;cases rx;obtain⟨its,r,ht,hz⟩:=I.list hx;have hlen:=r.length;refine⟨"list",_,slot_list_getitem.lookup,ht.isList.typeIs,?_⟩;refine wpAny_getItem_list_slice ht.isList hs pl pu .none (by simp) ?_ (by rw[Yb]<;>lia)
 rw[rj,<-hlen];refine⟨.ref s.heap.objs.size,_,I.laid (t':=s.toks) (o:=.lst (vm xs lo hi)) (λb ob q=>Ab _ q) (Xa _) ?_,rfl,q _ (I.hok.fresh (Xa _))⟩;exact⟨Ye (ou xs lo hi) hz,_,0,(r.drop (HT.sIx xs.length 0 lo)).take (HT.sIx xs.length xs.length hi-HT.sIx xs.length 0 lo),Ag _ rfl⟩
def kN:V->Te|.non=>true|.bl _=>true|.int _=>true|.str _=>true|_=>false
def K5:V->V->Te|.non,.non=>true|.bl a,.bl b=>a == b|.bl a,.int b=>(if a then 1 else 0) == b|.int a,.bl b=>a == (if b then 1 else 0)|.int a,.int b=>a == b|.str a,.str b=>a == b|_,_=>false
theorem MJ(ry:RelV y u)(rx:RelV x v)(fy:kN y=true)(fx:kN x=true):SeqAt.EqAt A s u v (K5 y x):=by
 cases y with
 |non=>
  cases ry;cases x with
  |non=>cases rx;exact SeqAt.EqAt.same _
  |bl b=>cases rx;exact SeqAt.EqAt.none_bool b
  |int b=>obtain⟨t,rfl⟩:=rx;exact SeqAt.EqAt.none_int b t
  |str b=>obtain⟨t,rfl⟩:=rx;exact SeqAt.EqAt.none_str b t
  |_=>exact absurd (show false=true from fx) Xd
 |bl a=>
  cases ry;cases x with
  |non=>cases rx;exact SeqAt.EqAt.bool_none a
  |bl b=>cases rx;exact SeqAt.EqAt.bool_bool a b
  |int b=>obtain⟨t,rfl⟩:=rx;exact SeqAt.EqAt.bool_int a b t
  |str b=>obtain⟨t,rfl⟩:=rx;exact SeqAt.EqAt.bool_str a b t
  |_=>exact absurd (show false=true from fx) Xd
 |int a=>
  obtain⟨t',rfl⟩:=ry;cases x with
  |non=>cases rx;exact SeqAt.EqAt.int_none a t'
  |bl b=>cases rx;exact SeqAt.EqAt.int_bool a t' b
  |int b=>obtain⟨t,rfl⟩:=rx;exact SeqAt.EqAt.int_int a t' b t
  |str b=>obtain⟨t,rfl⟩:=rx;exact Ce a t' b t
  |_=>exact absurd (show false=true from fx) Xd
 |str a=>
  obtain⟨t',rfl⟩:=ry;cases x with
  |non=>cases rx;exact SeqAt.EqAt.str_none a t'
  |bl b=>cases rx;exact SeqAt.EqAt.str_bool a t' b
  |int b=>obtain⟨t,rfl⟩:=rx;exact Cd a t' b t
  |str b=>obtain⟨t,rfl⟩:=rx;exact SeqAt.EqAt.str_str a t' b t
  |_=>exact absurd (show false=true from fx) Xd
 |_=>exact absurd (show false=true from fy) Xd
def IP(x:V)(u:Ta):Te:=match u with|.none=>K5 .non x|.bool b=>K5 (.bl b) x|.int i _=>K5 (.int i) x|.str z _=>K5 (.str z) x|_=>false
theorem Fd(r:RelV y u)(f:kN y=true):IP x u=K5 y x:=by
 cases y with
 |non=>cases r;rfl
 |bl b=>cases r;rfl
 |int i=>obtain⟨t,rfl⟩:=r;rfl
 |str z=>obtain⟨t,rfl⟩:=r;rfl
 |_=>exact absurd (show false=true from f) Xd
theorem tF:∀{xs:S8 V}{us:S8 Ta},Tp xs us->xs.all kN=true->us.any (IP x)=xs.any λy=>K5 y x
 |_,_,.nil,_=>rfl
 | y::xs,u::us,.cons r t,f=>by
  rw[Bx,Qf]at f;rw[Ym,Ym,Fd r f.1,tF t f.2]
theorem pN(rx:RelV x v)(fx:kN x=true):∀{xs:S8 V}{us:S8 Ta},Tp xs us->xs.all kN=true->∀u∈us,SeqAt.EqAt A s u v (IP x u)
 |_,_,.nil,_=>λu hu=>by cases hu
 | y::xs,u::us,.cons r t,f=>λu' hu=>by
  rw[Bx,Qf]at f;rcases Zc.mp hu with rfl|hu
  ·rw[Fd r f.1];exact MJ r rx f.1 fx
  ·exact pN rx fx t f.2 u' hu
def K6(x:V)(xs:S8 V):Te:=xs.any λy=>K5 y x
def Sa(K:PySem.W.Frag)(neg:Te):R2:=λx y H Q=>∃p xs,y=.ref p/\(gR K H p xs\/iH K H p xs)/\kN x=true/\xs.all kN=true/\Q (.bl (if neg then !K6 x xs else K6 x xs)) H
def Du:T4 X (compareOp .In) (Sa X.K false):=by
 intro Ti s σ H x y v u Q I rx ry h;obtain⟨p,xs,rfl,hq,fx,fs,q⟩:=h;cases ry;rcases hq with hq|hq
 ·obtain⟨its,r,pl,hz⟩:=I.list hq;refine SeqAt.in_listAt (IP x) pl.isList (λw hw=>pN rx fx r fs w (by simpa using hw)) ⟨.bl _,H,I,rfl,?_⟩
  rw[show its.toArray.any (IP x)=its.any (IP x) by simp,tF r fs]
  exact q
 ·obtain⟨its,r,pl,hz⟩:=I.tuple hq;refine SeqAt.in_tupleAt (IP x) pl (λw hw=>pN rx fx r fs w (by simpa using hw)) ⟨.bl _,H,I,rfl,?_⟩
  rw[show its.toArray.any (IP x)=its.any (IP x) by simp,tF r fs]
  exact q
def tG:TB X (.builtin "len") (λxs H Q=>∃p ys,xs=[.ref p]/\(gR X.K H p ys\/iH X.K H p ys)/\Q (.int ys.length) H):=by
 intro Ti s σ H xs us Q I r h;obtain⟨p,ys,rfl,hq,q⟩:=h;obtain⟨u,rfl,rx⟩:=vals1 r;cases rx;have hn:=lq;rcases hq with hq|hq
 ·obtain⟨its,r',pl,hz⟩:=I.list hq;have hlen:=r'.length;exact Calls.call_len_list pl.isList (by simp only[Yb]<;>lia) ⟨.int ys.length,H,I.tok _,⟨s.toks+1,by rw[Yb,hlen]⟩,q⟩
 ·obtain⟨its,r',pl,hz⟩:=I.tuple hq;have hlen:=r'.length;exact len_tuple pl (by simp only[Yb]<;>lia) ⟨.int ys.length,H,I.tok _,⟨s.toks+1,by rw[Yb,hlen]⟩,q⟩
def tH:TB X (.builtin "len") (λxs H Q=>∃z,xs=[.str z]/\z.length<=sizeLine/\Q (.int z.length) H):=by
 intro Ti s σ H xs us Q I r h;obtain⟨z,rfl,hz,q⟩:=h;obtain⟨u,rfl,t,rfl⟩:=vals1 r;have hn:=lq;exact len_str (by lia) ⟨.int z.length,H,I.tok _,⟨_,rfl⟩,q⟩
def TB.or(h:TB X f r)(h':TB X f r'):TB X f (λxs H Q=>r xs H Q\/r' xs H Q):=by
 intro Ti s σ H xs us Q I rs q;rcases q with q|q
 ·exact h Ti s σ H xs us Q I rs q
 ·exact h' Ti s σ H xs us Q I rs q
def tI:TB X (.type "list") (λxs H Q=>∃p ys,xs=[.ref p]/\(gR X.K H p ys\/iH X.K H p ys)/\∀l,H l=none->Q (.ref l) (upd H l (.lst ys))):=by
 intro Ti s σ H xs us Q I r h;obtain⟨p,ys,rfl,hq,q⟩:=h;obtain⟨u,rfl,rx⟩:=vals1 r;cases rx;have fin:∀(its:S8 Ta),Tp ys its->ys.length<=sizeLine->∀(h':Tg)(c':Nat),(∀b o',s.heap.get? b=some o'->h'.get? b=some o')->
   h'.get? s.heap.objs.size=some { cls:=.type "list",dict:=none,data:=.seq its.toArray c',slots:=#[] }->EP X Ti σ Q (.ref s.heap.objs.size) { s with heap:=h' }:=λits r' hz h' c' kp e=>
  ⟨.ref s.heap.objs.size,_,I.laid (t':=s.toks) kp (Xa _) (show Tt X.prog X.w _ h' _ (.lst ys) from⟨hz,its,c',r',e⟩),rfl,q _ (I.hok.fresh (Xa _))⟩
 rcases hq with hq|hq
 ·obtain⟨its,r',pl,hz⟩:=I.list hq;have hlen:=r'.length;obtain⟨o,ho,hc,n,hd⟩:=pl.isList;exact call_list_seq p (.inl rfl) ho hc hd (λh' c' kp e=>fin its r' hz h' c' kp e) (by simp only[Yb]<;>lia)
 ·obtain⟨its,r',pl,hz⟩:=I.tuple hq;have hlen:=r'.length;obtain⟨o,ho,hc,n,hd⟩:=pl;exact call_list_seq p (.inr rfl) ho hc hd (λh' c' kp e=>fin its r' hz h' c' kp e) (by simp only[Yb]<;>lia)
def rm:TB X (.type "tuple") (λxs H Q=>∃p ys,xs=[.ref p]/\((gR X.K H p ys/\∀l,H l=none->Q (.ref l) (upd H l (.tup ys)))\/(iH X.K H p ys/\Q (.ref p) H))):=by
 intro Ti s σ H xs us Q I r h;obtain⟨p,ys,rfl,h⟩:=h;obtain⟨u,rfl,rx⟩:=vals1 r;cases rx;rcases h with⟨hq,q⟩|⟨hq,q⟩
 ·obtain⟨its,r',pl,hz⟩:=I.list hq;have hlen:=r'.length;refine call_tuple_list pl.isList (λh' kp=>?_) (by simp only[Yb]<;>lia)
  have I1:Inv X Ti σ H { s with heap:=h' }:=I.kept (t':=s.toks) kp;have I2:Inv X Ti σ (upd H h'.objs.size (.tup ys)) { s with heap:=h'.push { cls:=.type "tuple",data:=.seq its.toArray } } :=
   I1.laid (t':=s.toks) (λb o e=>Ab _ e) (Xa _) (show Tt X.prog X.w _ _ _ (.tup ys) from⟨hz,its,r',IsTup.new _ _⟩)
  exact⟨.ref h'.objs.size,_,I2,rfl,q _ (I1.hok.fresh (Xa _))⟩
 ·obtain⟨its,r',pl,hz⟩:=I.tuple hq;exact call_tuple_same pl ⟨.ref p,H,I,rfl,q⟩
def Pd(K:PySem.W.Frag)(T:String)(x:V)(H:Hp):Prop:=match x with
 |.str _=>T="str"
 |.int _=>T="int"
 | .ref p=>(T="list"/\∃xs,gR K H p xs)\/(T="tuple"/\∃o,K.lookup p=some o/\o.cls=.type "tuple"/\o.dict=none) \/
   (T="dict"/\((∃Tj,H p=some (.dK Tj))\/∃ep Tj,H p=some (.dT ep Tj)))\/(T="set"/\∃S n,H p=some (.set S n))
 |_=>False
def Fe{s:Tb}(I:Inv X Ti σ H s)(r:RelV x v)(ty:Pd X.K T x H) :
  s.TypeIs v T/\∀a,v=.ref a->∃ob,s.heap.get? a=some ob/\ob.dict=none:=by
 cases x with
 |str z=>
  obtain⟨t,rfl⟩:=r;cases (show T="str" from ty);exact⟨CU s z t,λ_ e=>nomatch e⟩
 |int i=>
  obtain⟨t,rfl⟩:=r;cases (show T="int" from ty);exact⟨typeIs_int s i t,λ_ e=>nomatch e⟩
 |ref p=>
  cases r;rcases ty with⟨rfl,xs,hq⟩|⟨rfl,o,hk,hc,hd⟩|⟨rfl,hk⟩|⟨rfl,S,n,hk⟩
  ·obtain⟨its,_,pl,_⟩:=I.list hq;refine⟨pl.isList.typeIs,λa e=>?_⟩;cases e;obtain⟨o,n,e,c,hd,_⟩:=pl;exact⟨o,e,hd⟩
  ·refine⟨⟨o,I.kIn p o hk,hc⟩,λa e=>?_⟩;cases e;exact⟨o,I.kIn _ o hk,hd⟩
  ·have z:∃o,s.heap.get? p=some o/\o.ExactDict:=by
    rcases hk with⟨Tj,hk⟩|⟨ep,Tj,hk⟩
    ·obtain⟨_,_,_,_,o,_,_,e,ex,_⟩:=I.hok p _ hk;exact⟨o,e,ex⟩
    ·obtain⟨_,_,_,_,_,o,_,e,ex,_⟩:=I.hok p _ hk;exact⟨o,e,ex⟩
   obtain⟨o,e,ex⟩:=z;refine⟨⟨o,e,ex.1⟩,λa e2=>?_⟩;cases e2;exact⟨o,e,ex.2.1⟩
  ·obtain⟨o,_,_,_,e,ex,_⟩:=I.hok p _ hk;refine⟨⟨o,e,ex.1⟩,λa e2=>?_⟩;cases e2;exact⟨o,e,ex.2.1⟩
 |_=>exact False.elim ty
def PP(K:PySem.W.Frag)(T:String)(r:V->S8 V->Hp->VK->Prop)(to:TE):TE:=λσ H Q=>to σ H λx H1=>Pd K T x H1/\r x [] H1 Q
def Sb(K:PySem.W.Frag)(T:String)(r:V->S8 V->Hp->VK->Prop)(to:TE)(t:TA):TE:=λσ H Q=>to σ H λx H1=>Pd K T x H1/\t σ H1 λxs H2=>r x xs H2 Q
variable {o e:Expr}{es:S8 Expr}{to:TE}{t:TA}{name:Str}{apos cpos:Pos}{T id:String}{r:V->S8 V->Hp->VK->Prop}
def Ff(pa:PlainAttrs T)(slot:Slot T name id)(hty:typeOf (.builtin id)=pure (.type "method_descriptor"))(hm:RO X id r)(ho:PE X o to)
  (hbase:attributeBase o name X.env (eval o X.env)=eval o X.env:=by rfl)(hline:(apos.endLine == cpos.line)=true:=by rfl):PE X (.Call (.Attribute o name apos) [] [] cpos) (PP X.K T r to):=by
 intro Ti s σ H Q I h;refine wpAny_Call_method0_late hbase hline (cb (ho Ti s σ H _ I h) λv s1 zz9=>?_);obtain⟨x,H1,I1,r1,ty,q1⟩:=zz9;obtain⟨h1,h2⟩:=Fe I1 r1 ty;exact⟨T,id,pa,slot,hty,h1,h2,BK rfl (PySem.evalArgs_none (hm Ti s1 σ H1 x [] v [] Q I1 r1 .nil q1))⟩
def jm(pa:PlainAttrs T)(slot:Slot T name id)(hty:typeOf (.builtin id)=pure (.type "method_descriptor"))(hm:RO X id r)(ho:PE X o to)(ha:PA X (e::es) t)
  (hbase:attributeBase o name X.env (eval o X.env)=eval o X.env:=by rfl)
  (hfew:((backTo cpos (starEach (e::es) X.env)).all (λx=>!x.1)&&(backToKw cpos (keywordEach [] X.env)).all (λx=>x.1.isSome)
   && decide ((e::es).length+([]:S8 Keyword).length+(if ([]:S8 Keyword).isEmpty then 0 else 1)<30))=true:=by rfl)
  (hline:(apos.endLine == cpos.line)=true:=by rfl) (hs:starEach (e::es) X.env=(false,eval e X.env)::starEach es X.env:=by rfl) (hplain:(backTo cpos (starEach es X.env)).any (·.1)=false:=by rfl) :
  PE X (.Call (.Attribute o name apos) (e::es) [] cpos) (Sb X.K T r to t):=by
 intro Ti s σ H Q I h;refine wpAny_Call_method_late hbase hfew hline rfl (cb (ho Ti s σ H _ I h) λv s1 zz9=>?_);obtain⟨x,H1,I1,r1,ty,q1⟩:=zz9;obtain⟨h1,h2⟩:=Fe I1 r1 ty;refine⟨T,id,pa,slot,hty,h1,h2,?_⟩;have hA:=ha cpos Ti s1 σ H1 _ I1 q1;rw[hs]at hA ⊢;refine BK (by show(false||(backTo cpos (starEach es X.env)).any (·.1))=false;rw[hplain]<;>rfl) (Calls.evalArgs_plain ?_)
 exact cb hA λus s2 ⟨vs,H2,I2,r2,q2⟩=>hm Ti s2 σ H2 x vs v us Q I2 r1 r2 q2
end
def MK(X:Cx)(id:String)(r:V->S8 V->Hp->VK->Prop):Prop :=
 ∀(Ti:S8 (Td×Obj))(s:Tb)(σ:St)(H:Hp)(x:V)(xs:S8 V)(v:Ta)(us:S8 Ta)(Q:VK),Inv X Ti σ H s->RelV x v->Tp xs us->r x xs H Q->
  wpAny (model X.prog X.w) X.A (call (.builtin id) (v::us)) (EP X Ti σ Q) X.xe s
theorem Tp.one:∀{x:V}{us:S8 Ta},Tp [x] us->∃u,us=[u]/\RelV x u|_,_,.cons r .nil=>⟨_,rfl,r⟩
theorem Tp.zero:∀{us:S8 Ta},Tp [] us->us=[]|_,.nil=>rfl
theorem Tp.dropLast{xs:S8 V}{us:S8 Ta}(h:Tp xs us):Tp xs.dropLast us.dropLast:=by
 induction h with
 |nil=>exact .nil
 |cons r t ih=>
  cases t with|nil=>exact .nil|cons q t'=>exact .cons r ih
theorem Tp.eraseIdx:∀{xs:S8 V}{us:S8 Ta}(i:Nat),Tp xs us->Tp (xs.eraseIdx i) (us.eraseIdx i)|_,_,_,.nil=>.nil|_,_,0,.cons _ t=>t|_,_,i+1,.cons r t=>.cons r (Tp.eraseIdx i t)
theorem Tp.reverse{xs:S8 V}{us:S8 Ta}(h:Tp xs us):Tp xs.reverse us.reverse:=by
 induction h with|nil=>exact .nil|cons r t ih=>rw[List.reverse_cons,List.reverse_cons];exact Tp.append ih (.cons r .nil)
theorem xc(l:S8 α):l.eraseIdx (l.length-1)=l.dropLast:=by
 induction l with
 |nil=>rfl
 |cons a r ih=>
  cases r with
  |nil=>rfl
  |cons b r=>
   have e:(a::b::r).length-1=((b::r).length-1)+1:=by
    have h1:(a::b::r).length=r.length+2:=rfl;have h2:(b::r).length=r.length+1:=rfl;lia
   rw[e,List.eraseIdx_cons_succ,ih]
   all_goals rfl
theorem rV:∀(l:S8 α)(i:Nat),(l.eraseIdx i).length<=l.length|[],_=>Xa _|_::_,0=>BV _|_::r,i+1=>Nat.succ_le_succ (rV r i)
section
variable {X:Cx}{Ti:S8 (Td×Obj)}{σ:St}{H:Hp}{s:Tb}{l b:Td}{xs ys zs:S8 V}
def Inv.lset{its its':S8 Ta}(I:Inv X Ti σ H s)(hH:H l=some (.lst xs))
  (e:s.heap.get? l=some { cls:=.type "list",data:=.seq its.toArray n })(hf:f its.toArray=its'.toArray)(hv:Tp ys its')(hz:ys.length<=sizeLine)(ht:0<t':=by first|assumption|exact Vh _|exact Inv.tk (by assumption)|exact Inv.tkl (by assumption) (by assumption)|lia) :
  Inv X Ti σ (upd H l (.lst ys)) { s with heap:=s.heap.update l (Obj.mapSeq f),toks:=t' }:=by
 have q:=PySem.IsL.update e f;rw[hf]at q;refine I.write (x:=l) (e:=l) (by rw[hH];exact trivial) (.inl rfl) (λb' u hb hu=>(AH s.heap (Obj.mapSeq f) (Ne.symm hb)).trans hu) ⟨_,q⟩ ?_
 exact⟨hz,its',_,hv,q⟩
def Inv.lnew(I:Inv X Ti σ H s)(hv:Tp ys its)(hz:ys.length<=sizeLine)(ht:0<t':=by first|assumption|exact Vh _|exact Inv.tk (by assumption)|exact Inv.tkl (by assumption) (by assumption)|lia) :
  Inv X Ti σ (upd H s.heap.objs.size (.lst ys)) { s with heap:=s.heap.push { cls:=.type "list",data:=.seq its.toArray },toks:=t' } :=
 I.laid (λ_ _ q=>Ab _ q) (Xa _) ⟨hz,its,0,hv,Ag _ rfl⟩
theorem Inv.fresh(I:Inv X Ti σ H s):H s.heap.objs.size=none:=I.hok.fresh (Xa _)
def Inv.lstM(I:Inv X Ti σ H s)(hH:H l=some (.lst xs)):xs.length<=sizeLine/\∃(its:S8 Ta)(n:Nat),Tp xs its/\xs.length=its.length/\s.heap.get? l=some { cls:=.type "list",data:=.seq its.toArray n }:=by
 obtain⟨z,its,n,r,e⟩:=I.hok l _ hH;exact⟨z,its,n,r,r.length,e⟩
def vn(h:n<=sizeLine):Builtin.List.listTooLong n=false:=by
 unfold Builtin.List.listTooLong;exact Ad (by lia)
end
section
variable {X:Cx}
def yy:V->S8 V->Hp->VK->Prop:=λx vs H Q=>∃l xs y,x=.ref l/\vs=[y]/\H l=some (.lst xs)/\xs.length<sizeLine/\Q .non (upd H l (.lst (xs++[y])))
def iA:MK X "list.append" yy:=by
 intro Ti s σ H x vs v us Q I rx rv h;obtain⟨l,xs,y,rfl,rfl,hH,hz,q⟩:=h;cases rx;obtain⟨u,rfl,ru⟩:=rv.one;obtain⟨z,its,n,r,hl,e⟩:=I.lstM hH;refine Ba F.slot_list_append ⟨_,e,rfl⟩ F.entry_list_append (F.args_list_append_2 _ _) (PySem.list_append l its.toArray n u (by rw[Yb];lia)) ⟨e,?_⟩
 refine⟨.non,_,I.lset (its':=its++[u]) hH e (by simp) (r.append (.cons ru .nil)) ?_,rfl,q⟩
 rw[Qa,Ve];lia
def yz:V->S8 V->Hp->VK->Prop:=λx vs H Q=>∃l b xs zs,x=.ref l/\vs=[.ref b]/\H l=some (.lst xs)/\H b=some (.lst zs)/\xs.length+zs.length<=sizeLine/\Q .non (upd H l (.lst (xs++zs)))
def Dv:MK X "list.extend" yz:=by
 intro Ti s σ H x vs v us Q I rx rv h;obtain⟨l,b,xs,zs,rfl,rfl,hH,hB,hz,q⟩:=h;cases rx;obtain⟨u,rfl,ru⟩:=rv.one;cases ru;obtain⟨z,its,n,r,hl,e⟩:=I.lstM hH;obtain⟨z2,its2,n2,r2,hl2,e2⟩:=I.lstM hB;have hsz:its.toArray.size+its2.toArray.size<=sizeLine:=by rw[Yb,Yb];lia
 have hlong:¬ (!its.toArray.isEmpty&&Builtin.List.listTooLong (its.toArray.size+its2.toArray.size))=true:=by
  rw[vn hsz,C5];exact Xd
 refine Ba F.slot_list_extend ⟨_,e,rfl⟩ F.entry_list_extend (F.args_list_extend_2 _ _)
  (AutoSeq1.list_extend_list_list_0 l its.toArray n b its2.toArray n2 hlong (by rw[Yb];lia) (by lia)) ⟨e,e2,?_⟩
 refine⟨.non,_,I.lset (its':=its++its2) hH e (by simp) (r.append r2) ?_,rfl,q⟩
 rw[Qa];lia
def PQ:V->S8 V->Hp->VK->Prop:=λx vs H Q=>∃l xs y,x=.ref l/\vs=[]/\H l=some (.lst xs)/\xs[xs.length-1]?=some y/\Q y (upd H l (.lst xs.dropLast))
def ML:MK X "list.pop" PQ:=by
 intro Ti s σ H x vs v us Q I rx rv h;obtain⟨l,xs,y,rfl,rfl,hH,hy,q⟩:=h;cases rx;have hus:=rv.zero;subst hus;obtain⟨z,its,n,r,hl,e⟩:=I.lstM hH;obtain⟨u,hu,ru⟩:=r.get hy;have hy':its.toArray[its.toArray.size-1]?=some u:=by
  show its.toArray[its.length-1]?=some u;rw[<-Zj,<-hl];exact hu
 refine Ba F.slot_list_pop ⟨_,e,rfl⟩ F.entry_list_pop (F.args_list_pop_1 _) (MeetsSeq.list_pop_last l its.toArray n u hy' (by rw[Yb];lia)) ⟨e,?_⟩
 refine⟨y,_,I.lset (its':=its.dropLast) hH e ?_ r.dropLast ?_,ru,q⟩
 ·show its.toArray.eraseIdxIfInBounds (its.toArray.size-1)=its.dropLast.toArray;rw[Yb,Cy,xc]
 ·rw[List.length_dropLast];lia
def Fg:V->S8 V->Hp->VK->Prop:=λx vs H Q=>∃l xs i k y,x=.ref l/\vs=[.int i]/\H l=some (.lst xs)/\-(2 ^ 63)<=i/\i<2 ^ 63/\seqIndex? i xs.length=some k/\xs[k]?=some y/\Q y (upd H l (.lst (xs.eraseIdx k)))
def Fh:MK X "list.pop" Fg:=by
 intro Ti s σ H x vs v us Q I rx rv h;obtain⟨l,xs,i,k,y,rfl,rfl,hH,h1,h2,hk,hy,q⟩:=h;cases rx;obtain⟨u,rfl,ru⟩:=rv.one;obtain⟨t,rfl⟩:=ru;obtain⟨z,its,n,r,hl,e⟩:=I.lstM hH;obtain⟨w,hw,rw'⟩:=r.get hy;refine Ba F.slot_list_pop ⟨_,e,rfl⟩ F.entry_list_pop (F.args_list_pop_2 _ _)
  (MeetsSeq.list_pop_at l its.toArray n i t k w (fitsIndex_both h1 h2) (by rw[Yb,<-hl];exact hk) (by rw[<-Zj];exact hw) (by rw[Yb];lia)) ⟨e,?_⟩
 refine⟨y,_,I.lset (its':=its.eraseIdx k) hH e ?_ (r.eraseIdx k) ?_,rw',q⟩
 ·show its.toArray.eraseIdxIfInBounds k=(its.eraseIdx k).toArray;rw[Cy]
 ·have:=rV xs k;lia
def Fi:V->S8 V->Hp->VK->Prop:=λx vs H Q=>∃l xs,x=.ref l/\vs=[]/\H l=some (.lst xs)/\Q .non (upd H l (.lst []))
def Fj:MK X "list.clear" Fi:=by
 intro Ti s σ H x vs v us Q I rx rv h;obtain⟨l,xs,rfl,rfl,hH,q⟩:=h;cases rx;have hus:=rv.zero;subst hus;obtain⟨z,its,n,r,hl,e⟩:=I.lstM hH;refine Ba F.slot_list_clear ⟨_,e,rfl⟩ F.entry_list_clear (F.args_list_clear_1 _) (AutoSeq1.list_clear_list_0 l its.toArray n (by rw[Yb];lia)) ⟨e,?_⟩
 exact⟨.non,_,I.lset (its':=[]) (ys:=[]) hH e rfl .nil (Yi _),rfl,q⟩
def MM:R2:=λx y H Q=>∃l b xs zs,x=.ref l/\y=.ref b/\H l=some (.lst xs)/\H b=some (.lst zs)/\xs.length+zs.length<=sizeLine/\∀p,H p=none->Q (.ref p) (upd H p (.lst (xs++zs)))
def U5:T4 X (binaryOp .Add) MM:=by
 intro Ti s σ H x y v u Q I rx ry h;obtain⟨l,b,xs,zs,rfl,rfl,hH,hB,hz,q⟩:=h;cases rx;cases ry;obtain⟨z,its,n,r,hl,e⟩:=I.lstM hH;obtain⟨z2,its2,n2,r2,hl2,e2⟩:=I.lstM hB;refine PySem.P.add_list e e2 ?_ (by rw[Yb,Yb];lia)
 have ea:its.toArray++its2.toArray=(its++its2).toArray:=by simp
 rw[ea];exact⟨.ref _,_,I.lnew (t':=s.toks) (r.append r2) (by rw[Qa];lia),rfl,q _ I.fresh⟩
end
end L2
namespace Att
open PySem PySem.W PySem.Calls PyProof.Rows
theorem oG:∀(ns:S8 Int)(vs:S8 Ta),WellAll P h vs (ns.map WData.int)->IntsAre vs ns:=by
 intro ns;induction ns with
 |nil=>
  intro vs w;rw[List.map_nil]at w;cases w;exact .nil
 |cons n ns ih=>
  intro vs w;rw[Zd]at w;cases w with
  |cons a b=>
   cases a;exact .cons _ _ (ih _ b)
def script_of{l:OpenLaw}(hn:l.most=some n){h:Tg}
  (hpre:l.row.toRowW.claim.pre args=true)(hwl:WellAll P h vals args) :
  ∃a vs ns,vals=[Value.ref a]/\args=[WData.list (ns.map WData.int)]/\h.get? a=some { cls:=.type "list",data:=.seq vs.toArray }/\IntsAre vs ns/\ns.length<=n:=by
 have hsh:WShape.hasAll [] args [.list .int]=true:=(pre_splitW hpre).1;have hc:l.pre.holds [] { args:=args }=true:=(pre_splitW hpre).2;obtain⟨d,r,rfl,h1,h2⟩:=hasAllW_cons hsh;obtain rfl:=hasAllW_nil h2;obtain⟨xs,rfl,h3⟩:=hasW_list h1;obtain⟨ns,rfl⟩:=items_int h3;have hlen:ns.length<=n:=by
  unfold OpenLaw.pre at hc;have h4:(WTm.not (.lt (.lit (.int (n:Int))) (.len (.arg 0)))).holds [] { args:=[.list (ns.map .int)] }=true:=by
   have h4:=(holds_andW hc).1;rw[hn]at h4;exact h4
  have h5:=condW_of h4 (w_not (w_lt w_lit (w_len_list (w_arg rfl))));rw[Za]at h5;refine Bz λq=>?_;have q':(n:Int)<((ns.length:Nat):Int):=by lia
  first
   | (rw[Ae q']at h5;exact absurd h5 (by decide))
   | (simp at h5;lia)
 cases hwl with
 |cons w1 w2=>
  cases w2;cases w1 with|list ho hall=>exact⟨_,_,ns,rfl,rfl,ho,oG ns _ hall,hlen⟩
def post_true(l:OpenLaw)(args:S8 WData):l.row.toRowW.claim.post args (.bool true) args=true :=
 postW_of (r:=l.row.toRowW) (X:=(true == true))
  (show WShape.has [] (.bool true) .bool=true by first|rfl|decide|simp[WShape.has,WShape.arms,WShape.armsAll])
  (show(WTm.eq .res (.lit (.bool true))).value [] { args:=args,res:=some (.bool true),after:=args }=some (.bool (true == true)) from w_eq_bool (w_res rfl) w_lit) rfl
end Att
namespace L2
open PySem PySem.Spec PyProof.Rows
theorem rW:∀{vs:S8 Ta}{ns:S8 Int},IntsAre vs ns->Tp (ns.map V.int) vs|_,_,.nil=>.nil|_,_,.cons n t h=>.cons ⟨t,rfl⟩ (rW h)
def MN(H:Hp):Prop:=∀b,H b=none\/∃o xs,H b=some (.frz o (.lst xs))
def Fk{K:PySem.W.Frag}{s₁:Tb}{vs:S8 Ta}{ns:S8 Int}
  (KX:K.In s₁.heap)(hns:s₁.heap.Ns mainGlobals mg)(hb:s₁.heap.Ns builtinsNs mb)(hbb:∀x:Str,x≠"__name__"->mb x=bootBuiltins x)(hlim:s₁.heap.NoLimit)(hg:s₁.gens=#[])(htk:0<s₁.toks)
  (ha:s₁.heap.get? a=some { cls:=.type "list",data:=.seq vs.toArray }) (hi:IntsAre vs ns) (hl:ns.length<=sizeLine) (hr:TX k callerA)
  (F:∀base:Tg,K.In base->base.Ns mainGlobals mg->T9 P w K mg base CX k fa fd [x] sp) (hbind:∀(s:Tb)(u:Ta),BindsTo s fd ⟨[u],[]⟩ [(x,u)])
  (hsp:∀H:Hp,MN H->gR K H a (ns.map V.int)->sp [.ref a] H (λv _=>v=.bl true) λ_ _ _=>False)
  (hCX:∀H e s',CX [] H s₁ (λ_ _ _=>False) e s'->False) :
  codeAny (model P w) callerA (.call (.ref fa) ⟨[.ref a],[]⟩) (λr s'=>r=.ok (.ret (.bool true))/\OldK s₁.heap s'.heap/\s'.os=s₁.os/\AllBare s'.gens) s₁:=by
 have rv:=rW hi;have Nc:=hi.length;have core:∀H:Hp,MN H->gR K H a (ns.map V.int)->Ud P w H s₁.heap->(∀b,H b≠none->b=a)->(H a≠none->K.lookup a=none)->
   codeAny (model P w) callerA (.call (.ref fa) ⟨[.ref a],[]⟩) (λr s'=>r=.ok (.ret (.bool true))/\OldK s₁.heap s'.heap/\s'.os=s₁.os/\AllBare s'.gens) s₁:=by
  intro H hO hS hok hA hK;have base_of:∀{b:Td}{o:Obj},s₁.heap.get? b=some o->H b=none->(s9 s₁.heap H).get? b=some o:=λe n=>ED e n;have noA:∀{b:Td}{o:Obj}{es:Tc DictEntry}{ep:Nat},s₁.heap.get? b=some o->o.data=.dict es ep->H b=none:=λ{b o es ep} e d=>by
   cases q:H b with
   |none=>rfl
   |some u=>
    have e':b=a:=hA b (by rw[q];simp)
    subst e';rw[ha]at e;cases e;have d':Data.seq vs.toArray _=Data.dict es ep:=d;cases d'
  have nsK:∀{b:Td}{m:Str->S9 Ta},s₁.heap.Ns b m->(s9 s₁.heap H).Ns b m:=λ{b m} ⟨o,es,ep,e,d,r⟩=>⟨o,es,ep,base_of e (noA e d),d,r⟩
  have hKb:K.In (s9 s₁.heap H):=λb o e=>base_of (KX b o e) (by
   cases q:H b with
   |none=>rfl
   |some u=>
    have e':b=a:=hA b (by rw[q];simp)
    subst e'
    rw[hK (by rw[q];simp)]at e;cases e)
  have hM:Mod K mg (s9 s₁.heap H):=⟨hKb,nsK hns,⟨mb,nsK hb,hbb⟩,let ⟨mc,h1,h2⟩:=hlim;⟨mc,nsK h1,h2⟩⟩;have e0:UR P w K mg (s9 s₁.heap H) callerA [] s₁ H:=⟨rfl,hM,λb o e=>Iz e,Nat.le_of_eq (zW _ _),trivial,λb hb=>absurd (show b∈([]:S8 Td) from hb) (by simp),hok,.of_eq hg,htk⟩
  refine BE ((F _ hKb (nsK hns)).run callerA [] s₁ H ⟨[.ref a],[]⟩ [.ref a] [.ref a] _ _ hr e0 (hbind s₁ (.ref a)) (.cons rfl .nil) (hsp H hO hS)) λr s' h=>?_;cases r with
  |error e=>exact(hCX H e s' h).elim
  |ok fl=>
   cases fl with
   |next=>exact False.elim h
   |brk=>exact False.elim h
   |cont=>exact False.elim h
   |ret u=>
    obtain⟨v,H',os,bare,un,hok',r',q⟩:=h;have q':v=.bl true:=q;subst q';obtain rfl:u=Value.bool true:=r';refine⟨rfl,OldK.of_keep λb o e=>?_,os,bare⟩;cases q:H b with
    |none=>exact un.keep b o e q (by intro z;exact absurd (show b∈([]:S8 Td) from z) (by simp)) (by simp)
    |some u=>
     rcases hO b with z|⟨ob,xs,z⟩
     ·rw[q]at z;cases z
     ·have z2:=un.frzs b ob _ z;obtain⟨e1,_⟩:=hok b _ z;obtain⟨e2,_⟩:=hok' b _ z2;rw[e]at e1;cases e1;exact e2
 cases hk:K.lookup a with
 |some o=>
  have e:=KX a o hk;rw[ha]at e;cases e;refine core (λ_=>none) (λ_=>.inl rfl) (.inr ⟨_,vs.toArray,_,hk,rfl,rfl,rfl,by rw[Yb,Nc];exact hl,by simpa using rv⟩) (λb u z=>by have z':(none:S9 HO)=some u:=z;cases z') (λb z=>absurd rfl z) λz=>absurd rfl z
 |none=>
  refine core (λb=>if b=a then some (.frz { cls:=.type "list",data:=.seq vs.toArray } (.lst (ns.map V.int))) else none) (λb=>?_) (.inl (.inr ⟨{ cls:=.type "list",data:=.seq vs.toArray },Af rfl⟩)) (λb u z=>?_) (λb z=>?_) λ_=>hk
  ·by_cases hb:b=a
   ·exact .inr ⟨_,_,Af hb⟩
   ·exact .inl (Ah hb)
  ·by_cases hb:b=a
   ·have z':=(Af hb).symm.trans z;cases z';subst hb;exact⟨ha,by rw[Za];exact hl,vs,_,rv,ha⟩
   ·have z':=(Ah hb).symm.trans z;cases z'
  ·by_cases hb:b=a
   ·exact hb
   ·exact absurd (Ah hb) z
theorem vo:∀ns:S8 Int,PySem.W.ofPys (ns.map PyData.int)=ns.map PySem.W.WData.int
 |[]=>rfl
 | n::r=>by
  show PySem.W.WData.int n::PySem.W.ofPys (r.map PyData.int)=_;rw[vo r];rfl
def walk_of{l:PySem.W.OpenLaw}{n k:Nat}{loose:S8 Str}{XP:(Str->S9 Ta)->Tg->Prop}{d:DefRec}{K:Params->PySem.W.Frag}{CX:Th->Iu}{sp:Th->Sp}{x:Str}{as:S8 Td}{sz t:Nat}
  (hn:l.most=some n)(hn2:n<=sizeLine)(hdf:d.params.defaults=[])(hr:TX k callerA)(ht:0<t)(hK:∀P,as=(K P).map (·.1))
  (F:∀(w:Th)(mg:Str->S9 Ta)(fa:Td)(h:Tg),(K w.params).In h->h.Ns mainGlobals mg->mg d.name=some (.ref fa)->
   ∃fd:FuncData,(∀(s:Tb)(u:Ta),BindsTo s fd ⟨[u],[]⟩ [(x,u)]) /\
    ∀base:Tg,(K w.params).In base->base.Ns mainGlobals mg->T9 l.prog w (K w.params) mg base (CX w) k fa fd [x] (sp w))
  (hsp:∀(w:Th)(H:Hp)(a:Td)(ns:S8 Int),ns.length<=n->MN H->gR (K w.params) H a (ns.map V.int)->sp w [.ref a] H (λv _=>v=.bl true) λ_ _ _=>False)
  (hCX:∀(w:Th)(H:Hp)(s:Tb)(e:Ta)(s':Tb),CX w [] H s (λ_ _ _=>False) e s'->False) :
  PySem.W.WalkX q loose XP (PySem.W.X.obsZ as) (PySem.W.X.valZ K sz t) l.row.toRowW d [] (λf vs=>PySem.call f vs):=by
 intro w s₀ s₁ mg mb G y fa o pm cd doc dV kV ho hd hcd hD hmg hg args vals as' L hpre hlay hrd hwl hlo;obtain rfl:dV=.none:=PySem.W.Dflts.none hD hdf;obtain rfl:kV=.none:=PySem.W.Dflts.noKw hD;obtain⟨a,vs,ns,rfl,rfl,hobj,hints,hlen⟩:=Att.script_of hn hpre hwl;obtain⟨_,K0,_,T0⟩:=PySem.W.X.z_facts hK y;have KX:(K w.params).In s₁.heap:=λb o e=>L.keeps b o ((show(K w.params).In s₀.heap from K0) b o e);have tk:0<s₁.toks:=by
  have e:[PySem.W.WData.list (ns.map PySem.W.WData.int)]=[PySem.W.ofPy (PyData.list (ns.map PyData.int))]:=by
   show _=[PySem.W.WData.list (PySem.W.ofPys (ns.map PyData.int))];rw[vo]
  rw[e]at L;exact Vc ht (PySem.W.X.script_toks L T0)
 obtain⟨fd,hb,hF⟩:=F w mg fa _ KX G.T.g hmg;refine PySem.W.enter_call (BE (Fk KX G.T.g G.T.b G.T.builtins G.T.nolimit hg tk hobj hints (Ye hlen hn2) hr hF hb (λH hO hS=>hsp w H a ns hlen hO hS) λH e s'=>hCX w H s₁ e s') λr s' hq=>?_);obtain⟨rfl,h2,h3,h4⟩:=hq;exact⟨.inl ⟨.bool true,.bool true,[],rfl,λ_=>rfl,.bool true,Att.post_true l _,λ_=>⟨List.Pairwise.nil,λ_ hm=>(nomatch hm)⟩⟩,h2,h3,h4⟩
def ki(s:Stmt):Arguments:=match s with|.FunctionDef _ a _ _ _ _ _ _ _ _=>a|_=>{ posonlyargs:=[],args:=[],vararg:=none,kwonlyargs:=[],kw_defaults:=[],kwarg:=none,defaults:=[] }
def gU(s:Stmt):S8 Stmt:=match s with|.FunctionDef _ _ b _ _ _ _ _ _ _=>b|_=>[]
def ao(s:Stmt):Scope:=match s with|.FunctionDef _ _ _ _ _ _ sc _ _ _=>sc|_=>{ kind:=.function,names:=[],isGenerator:=false,isCoroutine:=false }
abbrev Dx:Iu:=λ_ _ _ _ _ _=>False
abbrev E0:XK:=λ_ _ _=>False
def K7:wY Dx X E0:=λ_ _ _ _ _ _ _ h=>h.elim
structure U0(K:PySem.W.Frag)(x qual:Str)(st:Stmt)(f:Addr)(fd:FuncData):Prop where
 ex:∃(oc:Value)(od:Option Addr)(kV doc pm:Value)(an:Option Addr)(cdv ct:Value)(osl:Array (Option Value)),
  fd=PySem.W.fnOf x qual (ki st) (gU st) (ao st) .none kV doc pm an cdv ct/\K.lookup f=some ⟨oc,od,.func fd,osl⟩/\PySem.W.codeIn K cdv qual=true
 kp:PySem.W.keepIn K (.ref f)=true
section
variable {P:Tf}{w:Th}{K:PySem.W.Frag}{mg:Str->S9 Ta}{base:Tg}
def U0.ok{x qual:Str}{st:Stmt}{f:Td}{fd:FuncData}{N ps:S8 Str}{k:Nat}{sp:Sp}(F:U0 K x qual st f fd)(S:To N ps (ao st))(len:∀vs H Q E,sp vs H Q E->vs.length=ps.length)
  (hbody:∀(cdv:Ta)(A:Around)(outer:S8 Env)(s:Tb)(H:Hp)(vs:S8 V)(Q:VK)(E:XK),TX k (A.deeper (envOfC qual (ao st) s.heap.objs.size f cdv))->sp vs H Q E->
   ∃t,UG (wZ Dx P w K mg base N qual (ao st) f cdv A outer s H E).nox (gU st) t/\t { nx:=λ_ H'=>Q .non H',rt:=Q } (start N vs) H):T9 P w K mg base Dx (k+1) f fd ps sp:=by
 obtain⟨oc,od,kV,doc,pm,an,cdv,ct,osl,rfl,lk,hcd⟩:=F.ex;refine PL lk hcd S len λA outer s H vs Q E hr hsp=>?_;obtain⟨t,h,q⟩:=hbody cdv A outer s H vs Q E hr hsp;exact⟨t,h.nox,q⟩
def U0.binds{x qual:Str}{st:Stmt}{f:Td}{fd:FuncData}{ps:S8 Str}(F:U0 K x qual st f fd)
  (h:∀(kV doc pm:Ta)(an:S9 Td)(cdv ct:Ta)(us:S8 Ta),us.length=ps.length->bindArgs (PySem.W.fnOf x qual (ki st) (gU st) (ao st) .none kV doc pm an cdv ct) ⟨us,[]⟩=pure (ps.zip us)):Binds K fd ps []:=by
 obtain⟨oc,od,kV,doc,pm,an,cdv,ct,osl,rfl,lk,hcd⟩:=F.ex;exact .all (h kV doc pm an cdv ct)
def MO{x qual:Str}{st:Stmt}{f:Td}{oc:Ta}{od an:S9 Td}{osl:Tc (S9 Ta)}{kV doc pm cdv ct:Ta}(l:K.lookup f=some ⟨oc,od,.func (PySem.W.fnOf x qual (ki st) (gU st) (ao st) .none kV doc pm an cdv ct),osl⟩)
  (c:PySem.W.codeIn K cdv qual=true)(k:PySem.W.keepIn K (.ref f)=true):U0 K x qual st f (PySem.W.fnOf x qual (ki st) (gU st) (ao st) .none kV doc pm an cdv ct):=⟨⟨oc,od,kV,doc,pm,an,cdv,ct,osl,rfl,l,c⟩,k⟩
end
def cE{A:Around}(hr:TX k A):A.units+2<cLine:=Xn (Qj (by decide:2<=64) _) hr.units
def Dy(h:n<=1000):n<sizeLine:=Xn h (by decide)
section
variable {X:Cx}
def pv(i:Nat)(hN:X.N[i]?=some x:=by rfl)(hv:R3 X.env.scope x:=by first|exact Or.inl rfl|exact Or.inr (Or.inl rfl)|exact Or.inr (Or.inr rfl))(hd:(x == ("__debug__":Str))=false:=by decide)
  (hcd:(x == ("__classdict__":Str))=false:=by decide):PE X (.Name x pos) (tf i):=Mk hN hv hd hcd
end
def Ts(H H':Hp):Prop:=∀b o,H b=some o->H' b=some o
def Ts.refl(H:Hp):Ts H H:=λ_ _ h=>h
def bX(env:Env):S8 (Str×NameKind)->S8 (Str×Td)->S8 (Str×Td)|[],acc=>acc|(n,k)::r,acc=>if k=.free then bX env r ((n,(env.cells.lookup n).getD 0)::acc) else bX env r acc
theorem iK{env:Env}{f:Str×NameKind->S8 (Str×Td)->Sem (ForInStep (S8 (Str×Td)))}
  (h1:∀n k cs c,k=NameKind.free->env.cells.lookup n=some c->f (n,k) cs=pure (.yield ((n,c)::cs)))
  (h2:∀n k cs,k≠NameKind.free->f (n,k) cs=pure (.yield cs)) :
  ∀(names:S8 (Str×NameKind))(acc:S8 (Str×Td)),(∀x∈names,x.2=.free->∃c,env.cells.lookup x.1=some c)->forIn names acc f=pure (bX env names acc)
 |[],_,_=>rfl
 | (n,k)::r,acc,h=>by
  have hr:∀x∈r,x.2=.free->∃c,env.cells.lookup x.1=some c:=λx hx=>h x (Wb _ hx);by_cases hk:k=.free
  ·obtain⟨c,hc⟩:=h (n,k) Wc hk;have e:bX env ((n,k)::r) acc=bX env r ((n,c)::acc):=by
    show(if k=.free then _ else _)=_;rw[Af hk];have hc':env.cells.lookup n=some c:=hc;rw[hc'];rfl
   rw[Be,h1 n k acc c hk hc,pure_bind,e];exact iK h1 h2 r _ hr
  ·have e:bX env ((n,k)::r) acc=bX env r acc:=by
    show(if k=.free then _ else _)=_;rw[Ah hk]
   rw[Be,h2 n k acc hk,pure_bind,e];exact iK h1 h2 r _ hr
def mJ{scope:Scope}{env:Env}(h:∀x∈scope.names,x.2=.free->∃c,env.cells.lookup x.1=some c):closureFor scope env=pure (bX env scope.names []):=by
 simp only[closureFor];have key:=λf h1 h2=>iK (env:=env) (f:=f) h1 h2 scope.names [] h
 rw[key _ (λn k cs c hk hc=>by subst hk;simp[cellOf,hc]) (λn k cs hk=>by
  have:(k == NameKind.free)=false:=by simpa using hk
  simp only[this,Xe,if_false])]
 rfl
def cB{α β:Type}[BEq α]{x n:α}{k:β}{r:S8 (α×β)}:List.lookup x ((n,k)::r)=if (x == n)=true then some k else List.lookup x r:=by
 rw[List.lookup_cons];cases x == n<;>rfl
theorem hX{env:Env}{x:Str}{c:Td}:∀(names:S8 (Str×NameKind))(acc:S8 (Str×Td)),(∀x∈names,x.2=.free->∃c,env.cells.lookup x.1=some c)->
  (∀y c,acc.lookup y=some c->env.cells.lookup y=some c)->(bX env names acc).lookup x=some c->env.cells.lookup x=some c
 |[],acc,_,ha,e=>ha x c e
 | (n,k)::r,acc,h,ha,e=>by
  have hr:∀x∈r,x.2=.free->∃c,env.cells.lookup x.1=some c:=λx hx=>h x (Wb _ hx);by_cases hk:k=.free
  ·obtain⟨c',hc⟩:=h (n,k) Wc hk;have hc':env.cells.lookup n=some c':=hc;have q:bX env ((n,k)::r) acc=bX env r ((n,c')::acc):=by
    show(if k=.free then _ else _)=_;rw[Af hk,hc'];rfl
   rw[q]at e;refine hX r _ hr (λy d hy=>?_) e;rw[cB]at hy;by_cases hyn:(y == n)=true
   ·rw[Af hyn]at hy;have:y=n:=by simpa using hyn
    rw[this,hc',hy]
   ·rw[Ah hyn]at hy;exact ha y d hy
  ·have q:bX env ((n,k)::r) acc=bX env r acc:=by
    show(if k=.free then _ else _)=_;rw[Ah hk]
   rw[q]at e;exact hX r _ hr ha e
theorem ly{env:Env}{x:Str}{c:Td}(hx:env.cells.lookup x=some c):∀(names:S8 (Str×NameKind))(acc:S8 (Str×Td)),(acc.lookup x=some c\/(x,NameKind.free)∈names)->(bX env names acc).lookup x=some c
 | [],acc,h=>by
  rcases h with h|h
  ·exact h
  ·cases h
 | (n,k)::r,acc,h=>by
  by_cases hk:k=.free
  ·have q:bX env ((n,k)::r) acc=bX env r ((n,(env.cells.lookup n).getD 0)::acc):=by
    show(if k=.free then _ else _)=_;rw[Af hk]
   rw[q];refine ly hx r _ ?_;by_cases hxn:(x == n)=true
   ·left;have e:x=n:=by simpa using hxn
    rw[cB,Af hxn,<-e,hx];rfl
   ·rcases h with h|h
    ·left;rw[cB,Ah hxn];exact h
    ·right;rcases Zc.mp h with h|h
     ·cases h;exact absurd (by simp) hxn
     ·exact h
  ·have q:bX env ((n,k)::r) acc=bX env r acc:=by
    show(if k=.free then _ else _)=_;rw[Ah hk]
   rw[q];refine ly hx r _ ?_;rcases h with h|h
   ·exact .inl h
   ·rcases Zc.mp h with h|h
    ·cases h;exact absurd rfl hk
    ·exact .inr h
theorem dX{env:Env}{x:Str}:∀(names:S8 (Str×NameKind)),
  ((names.map λ(n,k)=>if (k == NameKind.free&&env.scope.kind == .function&&env.kindOf n == some .cell) then(n,NameKind.cell) else(n,k)).lookup x=none/\names.lookup x=none) \/
  ∃k k',names.lookup x=some k/\(names.map λ(n,k)=>if (k == NameKind.free&&env.scope.kind == .function&&env.kindOf n == some .cell) then(n,NameKind.cell) else(n,k)).lookup x=some k'/\(k'=k\/(k=.free/\k'=.cell))
 |[]=>.inl ⟨rfl,rfl⟩
 | (n,k)::r=>by
  have ih:=@dX env x r;show(List.lookup x ((if (k == NameKind.free&&env.scope.kind == .function&&env.kindOf n == some .cell)=true then(n,NameKind.cell) else(n,k))::_)=none/\_)\/∃k' k'',_/\List.lookup x ((if (k == NameKind.free&&env.scope.kind == .function&&env.kindOf n == some .cell)=true then(n,NameKind.cell) else(n,k))::_)=_/\_;by_cases hc:(k == NameKind.free&&env.scope.kind == .function&&env.kindOf n == some .cell)=true
  ·rw[Af hc,cB,cB];have hk:k=.free:=by
    simp only[Qf]at hc;simpa using hc.1.1
   by_cases hx:(x == n)=true
   ·rw[Af hx,Af hx];exact .inr ⟨k,.cell,rfl,rfl,.inr ⟨hk,rfl⟩⟩
   ·rw[Ah hx,Ah hx];exact ih
  ·rw[Ah hc,cB,cB];by_cases hx:(x == n)=true
   ·rw[Af hx,Af hx];exact .inr ⟨k,k,rfl,rfl,.inl rfl⟩
   ·rw[Ah hx,Ah hx];exact ih
abbrev oH(X:Cx)(N:List Str)(scope:Scope)(C:Addr)(s:Shared)(H:Hp)(fp:List Addr):Cx :=
 { X with N:=N,s₀:=s,H₀:=H,env:=compEnvC scope (bX X.env scope.names []) C X.env,outer:=X.stack,stack:=X.stack,ex:=fp,fn:=λ_=>false,pn:=[],xe:=λ_ _=>False }
structure Tz(X:Cx)(N:List Str)(k:Nat)(Tl:List Nat)(scope:Scope):Prop where
 kind:scope.kind=.function
 nocell:∀y∈scope.names,y.2≠.cell
 loc:∀y∈scope.names,y.2=.local->scope.names.lookup y.1=some .local
 free:∀y∈scope.names,y.2=.free->(X.env.kindOf y.1=some .cell\/X.env.kindOf y.1=some .free)
 len:N.length=k+Tl.length
 cap:∀(j i:Nat),Tl[j]?=some i->∃x,N[k+j]?=some x/\X.N[i]?=some x/\scope.names.lookup x=some .free
def oI(k:Nat)(Tl:S8 Nat)(σ:St):St:=List.replicate k none++Tl.map λi=>(σ[i]?).getD none
section
variable {X:Cx}{N:S8 Str}{k:Nat}{Tl:S8 Nat}{scope:Scope}
theorem Tz.cells(S:Tz X N k Tl scope)(ok:X.Ok):∀x∈scope.names,x.2=.free->∃c,X.env.cells.lookup x.1=some c:=λx hx hk=>ok.has x.1 (S.free x hx hk)
def Tz.sub(S:Tz X N k Tl scope)(ok:X.Ok)(e:(bX X.env scope.names []).lookup x=some c):X.env.cells.lookup x=some c :=
 hX _ _ (S.cells ok) (λy c h=>by cases h) e
def Tz.has(S:Tz X N k Tl scope)(ok:X.Ok)(h:scope.names.lookup x=some .free):∃c,X.env.cells.lookup x=some c/\(bX X.env scope.names []).lookup x=some c:=by
 have hm:=PySem.mem_of_lookup h;obtain⟨c,hc⟩:=S.cells ok _ hm rfl;exact⟨c,hc,ly hc _ _ (.inr hm)⟩
def yA(σ:St):(oI k Tl σ).length=k+Tl.length:=by unfold oI;simp
def yB(h:(oI k Tl σ)[i]?=some (some v)):∃j i',i=k+j/\Tl[j]?=some i'/\σ[i']?=some (some v):=by grind [oI]
def MP{s:Tb}(S:Tz X N k Tl scope)(I:Inv X Ti σ H s)(hf:∀b∈fp,mG X Ti H b)(hlt:∀b∈fp,b<s.heap.objs.size)(hC:s.heap.objs.size<=C) :
  (oH X N scope C s H fp).Ok:=by
 have nfs:∀b∈fp,b∉wS X.stack:=λb hb z=>by
  rcases Zc.mp (I.stkSub b z) with e|e
  ·exact(hf b hb).2.1 e
  ·exact(hf b hb).2.2.1 e
 refine⟨I.ok.mod,S.kind,I.ok.glob,I.ok.blt,hC,λx y c h1 h2=>I.ok.inj x y c (S.sub I.ok h1) (S.sub I.ok h2),λx hx=>?_,λx c h=>(by cases h),I.ok.hd,I.ok.frames,.inl rfl,λb hb=>⟨?_,λx c e=>?_⟩,I.bs,Ye I.ok.bsz I.sz,λb o e hb=>?_,nfs,I.stack,I.stkFree⟩
 ·have hx':(relabel scope X.env).names.lookup x=some .cell\/(relabel scope X.env).names.lookup x=some .free:=hx;rcases dX (env:=X.env) (x:=x) scope.names with⟨e,_⟩|⟨k1,k2,e1,e2,e3⟩
  ·rcases hx' with z|z<;>(have z':=e.symm.trans z;cases z')
  ·have hk2:k2=.cell\/k2=.free:=by
    rcases hx' with z|z
    ·exact .inl (Option.some.inj (e2.symm.trans z))
    ·exact .inr (Option.some.inj (e2.symm.trans z))
   have hfree:k1=.free:=by
    rcases e3 with z|⟨z,_⟩
    ·rcases hk2 with q|q
     ·exact absurd (z.symm.trans q) (S.nocell _ (PySem.mem_of_lookup e1))
     ·exact z.symm.trans q
    ·exact z
   rw[hfree]at e1;obtain⟨c,_,hc⟩:=S.has I.ok e1;exact⟨c,hc⟩
 ·exact Vf (Vc (hlt b hb) hC)
 ·exact(hf b hb).2.2.2.2.1 x c (S.sub I.ok e)
 ·rcases(hf b hb).2.2.2.1 with z|z
  ·exact I.ok.noex b o e z
  ·exact absurd (Vc (Ai (I.ok.bs b o e).1) z) (Xh _)
def IQ{s s3:Tb}(S:Tz X N k Tl scope)(I:Inv X Ti σ H s)(hf:∀b∈fp,mG X Ti H b)(hlt:∀b∈fp,b<s.heap.objs.size)
  (hC:s.heap.objs.size<=C)(hos:s3.os=s.os)(hg:s3.gens=s.gens)(kp:∀b o,s.heap.get? b=some o->s3.heap.get? b=some o)(hn:s3.heap.Ns C m)(ht:0<s3.toks):Inv (oH X N scope C s H fp) [] (oI k Tl σ) H s3:=by
 refine⟨MP S I hf hlt hC,hos,by rw[hg];exact I.bare,Un.kept kp,⟨m,hn,λi x v e1 e2 e3=>?_⟩,λx c e=>?_,I.hok.fresh hC,λx c e=>I.freeC x c (S.sub I.ok e),λp hp=>absurd hp (by simp),I.hok.kept kp,by rw[yA];exact S.len.symm,ht⟩
 ·obtain⟨j,i',rfl,hc,hv⟩:=yB e2;obtain⟨y,h1,h2,h3⟩:=S.cap j i' hc;have exy:y=x:=Option.some.inj (h1.symm.trans e1);subst exy;obtain⟨c,hc1,hc2⟩:=S.has I.ok h3;obtain⟨m0,hn0,hl0⟩:=I.loc;have hkind:=S.free _ (PySem.mem_of_lookup h3) rfl;obtain⟨u,ru,lu⟩:=hl0 i' y v h2 hv (hkind.elim (λz=>.inr (.inl z)) (λz=>.inr (.inr z)));refine⟨u,ru,.inr ⟨?_,c,hc2,?_⟩⟩
  ·rcases dX (env:=X.env) (x:=y) scope.names with⟨_,e⟩|⟨k1,k2,q1,q2,q3⟩
   ·rw[e]at h3;cases h3
   ·have hk1:k1=.free:=Option.some.inj (q1.symm.trans h3);rcases q3 with z|⟨_,z⟩
    ·right;show(relabel scope X.env).names.lookup y=_;exact q2.trans (by rw[z,hk1])
    ·left;show(relabel scope X.env).names.lookup y=_;exact q2.trans (by rw[z])
  ·rcases lu with⟨hk,_⟩|⟨_,c',hc',cell⟩
   ·rcases hkind with z|z<;>(have z':=hk.symm.trans z;cases z')
   ·have:c'=c:=Option.some.inj (hc'.symm.trans hc1);subst this;obtain⟨o,ho,hd⟩:=cell;exact⟨o,kp _ o ho,hd⟩
 ·obtain⟨v,o,ho,hd⟩:=I.cell x c (S.sub I.ok e);exact⟨v,o,kp _ o ho,hd⟩
end
def Pe(X:Cx)(ifs:S8 Expr)(t:TT):Prop :=
 ∀(Ti:S8 (Td×Obj))(s:Tb)(σ:St)(H:Hp)(Q:Te->Hp->Prop),Inv X Ti σ H s->t σ H Q->
  wpAny (model X.prog X.w) X.A (forIn ifs true λc r=>if r=true then do let ok <-isTrue c X.env (eval c X.env);pure (ForInStep.yield ok) else pure (ForInStep.yield r)) (TP X Ti σ Q) X.xe s
def PR:TT:=λ_ H Q=>Q true H
def cC:Pe X [] PR:=λ_ _ _ H _ I h=>wpAny_tests_nil ⟨H,I,h⟩
def mK(h:PT X c t):Pe X [c] t:=λTi s σ H Q I hw=>wpAny_tests_one (h Ti s σ H Q I hw)
theorem jz(I:Nat->Tb->Prop)
  (turn:∀n s,I n s->wpAny (model prog w) A (pyNext it) (λr s₁=>match r with
   |none=>R (.ok .next) s₁
   |some v=>wpAny (model prog w) A (letOwnedTupleGo target it v) (λ_ s₀=>wpAny (model prog w) A (assign target env v) (λ_ s₂=>
     wpAny (model prog w) A (forIn ifs true λc r=>if r=true then do let ok <-isTrue c env (eval c env);pure (ForInStep.yield ok) else pure (ForInStep.yield r)) (λok s₃=>
      if ok=true then wpAny (model prog w) A (eval elt env) (λx s₄=>
       wpAny (model prog w) A (call (.builtin "list.append") [acc,x]) (λ_ s₅=>∃m,m<n/\I m s₅) (λ_ _=>False) s₄) (λ_ _=>False) s₃
      else ∃m,m<n/\I m s₃) (λ_ _=>False) s₂) (λ_ _=>False) s₀) (λ_ _=>False) s₁) (λ_ _=>False) s)
  (n:Nat) (h:I n s) :
  codeAny (model prog w) A (.compLoop (.ListComp elt [⟨target,iter,ifs,0⟩] scope pos) 0 it acc env) R s:=by
 refine codeAny_loop rfl I (λn s hI=>?_) n h;show wpAny _ A ((compTurn (.ListComp elt [⟨target,iter,ifs,0⟩] scope pos) 0 it acc env).onRaise (λx=>do noteFrame x env;theTreesLotGoes x)) _ _ s
 refine wpAny_noted ?_;rw[compTurn_list];refine Aa (B5 (Aa (Ax (turn n s hI) (λr s₁ h₁=>?_) λ_ _ h'=>False.elim h')));cases r with
 |none=>exact Ac h₁
 |some v=>
  refine Aa (Ax h₁ (λ_ s₀ h₀=>?_) λ_ _ h'=>False.elim h');refine Aa (Ax h₀ (λ_ s₂ h₂=>Aa (Ax h₂ (λok s₃ h₃=>?_) λ_ _ h'=>False.elim h')) λ_ _ h'=>False.elim h');cases ok with
  |false=>exact Ac ⟨rfl,h₃⟩
  |true=>
   exact Aa (Aa (Ax h₃ (λx s₄ h₄=>Aa (Ax h₄ (λ_ s₅ h₅=>Ac (Ac ⟨rfl,h₅⟩)) λ_ _ h'=>False.elim h')) λ_ _ h'=>False.elim h'))
def rX(k:Nat)(Tl:S8 Nat)(wi:TI)(g:TG)(tc:TT)(te:TE):TE:=λσ H Q=>wi σ H λJ H1=>∃(n:Nat)(W:Nat->S8 V->Hp->Prop),W 0 [] H1 /\
 (∀xs H,W n xs H->J.stop n H/\∀p,H p=none->Q (.ref p) (upd H p (.lst xs))) /\
 ∀i xs H,i<n->W i xs H->J.go i H/\xs.length<sizeLine/\∀x H',J.yld i H x H'->g x (oI k Tl σ) H' λσ2 H2=>tc σ2 H2 λok H3=>
  if ok=true then te σ2 H3 λy H4=>σ2.drop k=(oI k Tl σ).drop k/\W (i+1) (xs++[y]) H4
  else σ2.drop k=(oI k Tl σ).drop k/\W (i+1) xs H3
abbrev fK(its:List Value)(n:Nat):Obj:={ cls:=.type "list",data:=.seq its.toArray n }
def K8(X:Cx)(Ti:S8 (Td×Obj))(H:Hp)(C:Td):Prop :=
 H C=none/\C≠X.env.locals/\(C∈X.ex\/X.s₀.heap.objs.size<=C)/\(∀x c,X.env.cells.lookup x=some c->c≠C)/\∀p∈X.pn++Ti,p.1≠C
inductive CI(X':Cx)(A:Addr)(σ:St)(tn:Nat->Heap->Prop)(fp:List Addr)(n0:Nat)(W:Nat->List V->Hp->Prop)(n:Nat)(s':Shared):Prop
 | mk (i:Nat) (xs:List V) (its:List Value) (nn:Nat) (H':Hp) (J:Inv X' [(A,fK its nn)] σ H' s') (st:tn i s'.heap) (fr:∀b∈fp,H' b=none) (vs:Tp xs its) (hz:xs.length<=sizeLine) (hn:n=n0-i) (hi:i<=n0) (w:W i xs H')
def vp{X:Cx}
  (S:Tz X N k Tl scope)(hc:X.calm=true)(hi:PI X tg iter wi)
  (hg:∀C s H fp,PG (oH X N scope C s H fp) tg g) (ht:∀C s H fp,Pe (oH X N scope C s H fp) ifs tc) (he:∀C s H fp,PE (oH X N scope C s H fp) elt te)
  (hs:∀x,foldedSetIterable iter X.env x=pure x) (I:Inv X Ti σ H s) (h:rX k Tl wi g tc te σ H Q)
  (fin:∀(D C:Td)(H4:Hp)(s4:Tb)(m:Str->S9 Ta),Inv X Ti σ H4 s4->s4.heap.Ns C m->K8 X Ti H4 C->Q (.ref D) H4->compPost (model X.prog X.w) X.A X.xe use Q' (.ref D) C (.ok .next) s4) :
  wpAny (model X.prog X.w) X.A (comprehension (.ListComp elt [⟨tg,iter,ifs,0⟩] scope pos) scope X.env cpos (newList []) false (eval iter X.env) use) Q' X.xe s:=by
 refine wpAny_comprehension_free rfl hs (mJ (S.cells I.ok)) S.kind S.loc ?_;refine cb (hi Ti s σ H _ I h) λv s1 h1=>cb h1 λitv s2 h2=>?_;obtain⟨it,fp,tn,J,H2,e,I2,T,TR,f2,n0,W,w0,wstop,turn⟩:=h2;subst e;refine Am (wpAny_newFunctionEnv S.nocell (by intro y hy;simp at hy) (λh₁ hns₁ hsb₁=>?_) S.kind)
 dsimp only at hns₁ hsb₁ ⊢;generalize hG:s2.heap.push { cls:=.type "list",dict:=none,data:=.seq ([]:S8 Ta).toArray }=G at hns₁ hsb₁ ⊢;have hCG:G.objs.size=s2.heap.objs.size+1:=by rw[<-hG,AD]
 have hDC:s2.heap.objs.size≠G.objs.size:=by lia
 have below:∀b,b<s2.heap.objs.size->b≠G.objs.size/\b≠s2.heap.objs.size:=λb hb=>⟨by lia,by lia⟩
 have old:∀b o,s2.heap.get? b=some o->h₁.get? b=some o:=λb o e=>hsb₁.extBut b o (below b (Ai e)).1 (Ab _ (hG ▸ Ab _ e));have hacc:h₁.get? s2.heap.objs.size=some (fK [] 0):=hsb₁.extBut _ _ hDC (Ab _ (hG ▸ Ag _ rfl));have hlt:∀b∈fp,b<s2.heap.objs.size:=λb hb=>by obtain⟨o,ho,_⟩:=T.obj 0 _ TR b hb;exact Ai ho
 have hDf:s2.heap.objs.size∉fp:=λz=>Xh _ (hlt _ z);have hle:s2.heap.objs.size<=G.objs.size:=by lia
 have hDcell:∀x c,(bX X.env scope.names []).lookup x=some c->c≠s2.heap.objs.size:=λx c e z=>by
  obtain⟨v,q⟩:=I2.cell x c (S.sub I2.ok e);exact absurd q.lt (by rw[z];exact Xh _)
 have hDfs:s2.heap.objs.size∉wS X.stack:=λz=>by
  obtain⟨_,o,ho,_⟩:=I2.stack.mem z;exact absurd (Ai ho) (Xh _)
 have nfs:∀b∈fp,b∉wS X.stack:=λb hb z=>by
  rcases Zc.mp (I2.stkSub b z) with e|e
  ·exact(f2 b hb).2.1 e
  ·exact(f2 b hb).2.2.1 e
 have fpk:∀{H':Hp}{its:S8 Ta}{n:Nat},(∀b∈fp,H' b=none)->∀b∈fp,mG (oH X N scope G.objs.size s2 H2 fp) [(s2.heap.objs.size,fK its n)] H' b:=λ{H' its n} hn b hb=>
  ⟨hn b hb,(below b (hlt b hb)).1,nfs b hb,.inl hb,λx c e=>(f2 b hb).2.2.2.2.1 x c (S.sub I2.ok e),λp hp=>by
   have e:p=(s2.heap.objs.size,fK its n):=by simpa using hp
   rw[e];exact Ne.symm (below b (hlt b hb)).2⟩
 have pinD:∀{H':Hp}{s':Tb}{σ':St}{its:S8 Ta}{n:Nat},Inv (oH X N scope G.objs.size s2 H2 fp) [] σ' H' s'->s'.heap.get? s2.heap.objs.size=some (fK its n)->H' s2.heap.objs.size=none->Inv (oH X N scope G.objs.size s2 H2 fp) [(s2.heap.objs.size,fK its n)] σ' H' s':=λ{H' s' σ' its n} J e hn=>
  J.pins_of λp hp=>by
   have q:p=(s2.heap.objs.size,fK its n):=by simpa using hp
   rw[q];exact⟨e,hn,hDC,hDfs,λv z=>by cases z⟩
 have I3:Inv (oH X N scope G.objs.size s2 H2 fp) [] (oI k Tl σ) H2 { s2 with heap:=h₁,toks:=s2.toks+([]:S8 (Str×Ta)).length }:=IQ S I2 f2 hlt hle rfl rfl old hns₁ (Vc I2.tk (Xj _ _));have loop:codeAny (model X.prog X.w) X.A (.compLoop (.ListComp elt [⟨tg,iter,ifs,0⟩] scope pos) 0 (.ref it) (.ref s2.heap.objs.size) (compEnvC scope (bX X.env scope.names []) G.objs.size X.env))
   (compPost (model X.prog X.w) X.A X.xe use Q' (.ref s2.heap.objs.size) G.objs.size) { s2 with heap:=h₁,toks:=s2.toks+([]:S8 (Str×Ta)).length }:=by
  refine jz (CI (oH X N scope G.objs.size s2 H2 fp) s2.heap.objs.size (oI k Tl σ) tn fp n0 W) ?_ n0
   ⟨0,[],[],0,H2,pinD I3 hacc (I2.hok.fresh (Xa _)),T.keep _ _ _ TR λb _ o e=>old b o e,λb hb=>(f2 b hb).1,.nil,Yi _,rfl,Yi _,w0⟩
  rintro n s3 ⟨i,xs,its,nn,H3,J3,Us,fr3,vs3,hz3,hn3,hi3,w3⟩;by_cases hin:i<n0
  rotate_left
  ·have ein:i=n0:=by lia
   subst ein;obtain⟨stop,qn⟩:=wstop xs H3 w3;refine cb (T.done (oH X N scope G.objs.size s2 H2 fp) rfl rfl rfl hc i _ s3 _ H3 _ J3 (fpk fr3) Us stop) λr s4 zz9=>?_;obtain⟨hr,J4⟩:=zz9;subst hr;obtain⟨eD,nD,_⟩:=J4.pin (s2.heap.objs.size,fK its nn) (by simp)
   have eD:s4.heap.get? s2.heap.objs.size=some (fK its nn):=eD;have nD:H3 s2.heap.objs.size=none:=nD;obtain⟨m4,hm4,_⟩:=J4.loc;have U:Un (wS X.stack) fp H2 H3 s2.heap s4.heap:=J4.base;have neC:∀b o,s2.heap.get? b=some o->b≠G.objs.size:=λb o e=>(below b (Ai e)).1;have neD:∀b o,s2.heap.get? b=some o->b≠s2.heap.objs.size:=λb o e=>(below b (Ai e)).2;have H2D:H2 s2.heap.objs.size=none:=I2.hok.fresh (Xa _);have HC:H3 G.objs.size=none:=J4.free;refine fin s2.heap.objs.size G.objs.size (upd H3 s2.heap.objs.size (.lst xs)) s4 m4 (I2.call' (s':=s4) (ch:=fp) J4.os ?_ ?_ J4.bare ?_ J4.tk) hm4 ?_ (qn _ nD)
   ·refine⟨λb o e n hb hx=>U.keep b o e n hb hx,λb o e n hb hx=>U.slot b o e n hb hx,λb o e n hx=>?_,λb o e hx=>U.there b o e hx,λb ys e=>?_,λb o u e=>?_,λb ps e=>?_⟩
    ·rw[aO (neD b o e)];exact U.free b o e n hx
    ·rw[aO (bu e H2D)];exact U.tups b ys e
    ·rw[aO (bu e H2D)];exact U.frzs b o u e
    ·obtain⟨more,q⟩:=U.tbls b ps e;exact⟨more,by rw[aO (bu e H2D)];exact q⟩
   ·intro b u e;by_cases hb:b=s2.heap.objs.size
    ·subst hb;rw[aS]at e;cases e;exact⟨hz3,its,nn,vs3,eD⟩
    ·rw[aO hb]at e;exact(J4.hok b u e).stay (λc v _ q=>q) (λc q=>by rw[aO (bu q nD)];exact q) λc ys q=>by rw[aO (bu q nD)];exact q
   ·exact λb hb=>⟨(f2 b hb).2.2.2.1,(f2 b hb).2.1,(f2 b hb).2.2.2.2.1,(f2 b hb).2.2.2.2.2⟩
   ·refine⟨by rw[aO (Ne.symm hDC)];exact HC,Bj (Vc I2.lt hle),.inr (Ye I2.sz hle),λx c e z=>?_,λp hp z=>?_⟩
    ·obtain⟨v,q⟩:=I2.cell x c e;exact absurd (Vc q.lt (by rw[z];exact hle)) (Xh _)
    ·exact absurd (Vc (Ai (I2.pin p hp).1) (by rw[z];exact hle)) (Xh _)
  ·obtain⟨go,hz,step⟩:=turn i xs H3 hin w3;refine cb (T.item (oH X N scope G.objs.size s2 H2 fp) rfl rfl rfl hc i _ s3 _ H3 _ J3 (fpk fr3) Us go) λr s4 zz9=>?_;obtain⟨u,hr,h4⟩:=zz9;subst hr;refine cb h4 λ_ s5 zz9=>?_;obtain⟨x,H5,J5,r5,y5,st5,fr5⟩:=zz9;have J5':=J5.pinned (fpk fr5) (T.obj _ _ st5);refine cb (hg _ _ _ _ _ s5 _ H5 x u _ J5' r5 (step x H5 y5)) λ_ s6 zz9=>?_;obtain⟨σ6,H6,J6,q6⟩:=zz9;refine cb (ht _ _ _ _ _ s6 σ6 H6 _ J6 q6) λok s7 zz9=>?_;obtain⟨H7,J7,q7⟩:=zz9;have wk:∀{σ8:St}{H8:Hp}{s8:Tb}{pl:S8 (Td×Obj)},Inv (oH X N scope G.objs.size s2 H2 fp) pl σ8 H8 s8->σ8.drop k=(oI k Tl σ).drop k->Inv (oH X N scope G.objs.size s2 H2 fp) pl (oI k Tl σ) H8 s8:=λ{σ8 H8 s8 pl} J8 hd=>
    J8.weak (by rw[yA,J8.len];exact S.len.symm) λj v e=>by
     obtain⟨j',i',rfl,hc',hv'⟩:=yB e;have e1:((oI k Tl σ).drop k)[j']?=some (some v):=by rw[Zi];exact e
     rw[<-hd,Zi]at e1;exact e1
   have recs:∀{σ8:St}{H8:Hp}{s8:Tb},Inv (oH X N scope G.objs.size s2 H2 fp) ([(s2.heap.objs.size,fK its nn)]++pL fp s5.heap) σ8 H8 s8->(∀b∈fp,∀o,s5.heap.get? b=some o->s8.heap.get? b=some o)/\(∀b∈fp,H8 b=none):=λ{σ8 H8 s8} J8=>
    ⟨λb hb o e=>(J8.pin (b,o) (Xg _ (Xg _ (iI hb e)))).1,λb hb=>by
     obtain⟨o,e,d⟩:=T.obj _ _ st5 b hb
     exact(J8.pin (b,o) (Xg _ (Xg _ (iI hb e)))).2.1⟩
   cases ok with
   |false=>
    rw[Ah (by decide)]at q7 ⊢
    obtain⟨hd,w7⟩:=q7;obtain⟨k1,k2⟩:=recs J7;exact⟨n0-(i+1),by lia,i+1,xs,its,nn,H7,wk J7.unpinned hd,T.keep _ _ _ st5 k1,k2,vs3,hz3,rfl,hin,w7⟩
   |true=>
    rw[Af rfl]at q7 ⊢;refine cb (he _ _ _ _ _ s7 σ6 H7 _ J7 q7) λuy s8 zz9=>?_;obtain⟨y,H8,J8,r8,hd,w8⟩:=zz9;obtain⟨k1,k2⟩:=recs J8;obtain⟨eD,nD,_⟩:=J8.pin (s2.heap.objs.size,fK its nn) (by simp)
    have eD:s8.heap.get? s2.heap.objs.size=some (fK its nn):=eD;have nD:H8 s2.heap.objs.size=none:=nD;have hl3:=vs3.length;refine Ba F.slot_list_append ⟨_,eD,rfl⟩ F.entry_list_append (F.args_list_append_2 _ _) (PySem.list_append s2.heap.objs.size its.toArray nn uy (by rw[Yb];lia)) ⟨eD,?_⟩
    have q:=PySem.IsL.update eD (λa:Tc Ta=>a.push uy);have qe:its.toArray.push uy=(its++[uy]).toArray:=by simp
    rw[qe]at q;have oth:∀b o,b≠s2.heap.objs.size->s8.heap.get? b=some o->(s8.heap.update s2.heap.objs.size (Obj.mapSeq λa=>a.push uy)).get? b=some o:=λb o hb e=>(AH s8.heap _ (Ne.symm hb)).trans e;have J9:Inv (oH X N scope G.objs.size s2 H2 fp) [] σ6 H8 { s8 with heap:=s8.heap.update s2.heap.objs.size (Obj.mapSeq λa=>a.push uy),toks:=s8.toks } :=
     (J8.pins_of (pins':=[]) λp hp=>absurd hp (by simp)).turned oth nD hDC (.inr (Xa _)) hDcell (λp hp=>absurd hp (by simp))
    refine⟨n0-(i+1),by lia,i+1,xs++[y],its++[uy],_,H8,wk (pinD J9 q nD) hd,T.keep _ _ _ st5 λb hb o e=>oth b o (λz=>hDf (z ▸ hb)) (k1 b hb o e),k2,vs3.append (.cons r8 .nil),?_,rfl,hin,w8⟩
    rw[Qa,Ve];lia
 exact codeAny_compStart_list loop (T.self _ 0 _ _ _ (T.keep _ _ _ TR λb _ o e=>old b o e) loop)
def Inv.aside{s:Tb}(I:Inv X Ti σ H s)(a:K8 X Ti H C)(hs:Heap.SameBut C s.heap h'):Inv X Ti σ H { s with heap:=h' } :=
 I.turned (t':=s.toks) (λb o hb e=>hs.extBut b o hb e) a.1 a.2.1 a.2.2.1 a.2.2.2.1 a.2.2.2.2
def bR{X:Cx}(S:Tz X N k Tl scope)(hc:X.calm=true)(hi:PI X tg iter wi)
  (hg:∀C s H fp,PG (oH X N scope C s H fp) tg g)(ht:∀C s H fp,Pe (oH X N scope C s H fp) ifs tc)(he:∀C s H fp,PE (oH X N scope C s H fp) elt te)
  (hs:∀x,foldedSetIterable iter X.env x=pure x:=by intro _;rfl):PE X (.ListComp elt [⟨tg,iter,ifs,0⟩] scope pos) (rX k Tl wi g tc te):=by
 intro Ti s σ H Q I h;rw[eval_ListComp];exact vp (use:=none) S hc hi hg ht he hs I h λD C H4 s4 m I4 hm a q=>⟨m,hm,λh' hs'=>⟨.ref D,H4,I4.aside a hs',rfl,q⟩⟩
def IR{X:Cx}{pos py spos:Pos}(S:Tz X N k Tl scope)(hc:X.calm=true)(hN:X.N.Nodup)(hi':X.N[i]?=some y)(hy:Loc X.env.scope y)(hi:PI X tg iter wi)
  (hg:∀C s H fp,PG (oH X N scope C s H fp) tg g)(ht:∀C s H fp,Pe (oH X N scope C s H fp) ifs tc)(he:∀C s H fp,PE (oH X N scope C s H fp) elt te)
  (hs:∀x,foldedSetIterable iter X.env x=pure x:=by intro _;rfl) (hsw:swapsWith (.ListComp elt [⟨tg,iter,ifs,0⟩] scope pos) (some (.Name y py)) spos.line X.env=pure true:=by rfl)
  (hf:X.fn y=true\/X.env.scope.names.lookup y=some .local:=by first|exact .inl rfl|exact .inr rfl|assumption) :
  PS X (.Assign [.Name y py] (.ListComp elt [⟨tg,iter,ifs,0⟩] scope pos) spos) (wT (rX k Tl wi g tc te) (pJ i)):=by
 intro Ti s σ H D I h;rw[exec_Assign_Name_used _ _ _ _ hsw];refine Aa (B5 (Aa ?_));show wpAny _ X.A (do let _ <-comprehension (.ListComp elt [⟨tg,iter,ifs,0⟩] scope pos) scope X.env _ (newList []) false (eval iter X.env) (some (assign (.Name y py) X.env))) _ _ s
 refine Aa (Ax (vp (use:=some (assign (.Name y py) X.env)) (Q':=λ_ s'=>SP X Ti D .next s') S hc hi hg ht he hs I h ?_) (λ_ s' hq=>Ac (Ac hq)) λ_ _ e=>e)
 intro Da C H4 s4 m I4 hm a q;refine wpAny_assign_Name (rM I4 hN hi' hy (show RelV (.ref Da) (.ref Da) from rfl) (λs5 I5 zz9 _=>?_) hf);obtain⟨b,sb,hb⟩:=zz9;have hbC:C≠b:=by
  rcases hb with z|z
  ·rw[z];exact a.2.1
  ·exact λe=>a.2.2.2.1 _ _ z e.symm
 exact⟨m,hm.sameBut sb hbC,λh' hs'=>⟨_,H4,I5.aside a hs',q⟩⟩
def Sc(x:Str):It:=⟨λi _=>i<x.cps.size,λi H v H'=>H'=H/\∃c,x.cps[i]?=some c/\v=.str ⟨#[c]⟩,λi _=>x.cps.size<=i⟩
def Dz{P:Tf}{w:Th}{K:PySem.W.Frag}{tg:Expr}(it:Td)(x:Str)(t:Tok):Turn P w K tg (Sc x) [it] it (λi h=>h.IsStrIter it "str_ascii_iterator" x t i) where
 mem:=by simp
 obj:=λi h st b hb=>by
  have e:b=it:=by simpa using hb
  subst e;obtain⟨o,e,c,d⟩:=st;exact⟨o,e,λv z=>by rw[d]at z;cases z⟩
 keep:=λi h h' st k=>let ⟨o,ho,r⟩:=st;⟨o,k it (by simp) o ho,r⟩
 item:=by
  intro X hP hw hK hc i Ti s σ H E I hf st hg;subst hP hw hK;obtain⟨f0,f1,f2,f3,f4,f5⟩:=hf it (by simp)
  have hg':i<x.cps.size:=hg;refine wpAny_pyNext_ascii_item st (c:=x.cps[i]) (by simp[hg']) λh' Tn sb=>?_
  have I1:Inv X Ti σ H { s with heap:=h',toks:=s.toks+1 }:=I.turned (λb o hb e=>sb.extBut b o hb e) f0 f1 f3 f4 f5;obtain⟨o,e,c,d⟩:=id Tn;exact⟨_,rfl,pK (s:={ s with heap:=h',toks:=s.toks+1 }) e c d (by decide) ⟨.str ⟨#[x.cps[i]]⟩,H,I1,⟨_,rfl⟩,⟨rfl,_,by simp[hg'],rfl⟩,Tn,λb hb=>(hf b hb).1⟩⟩
 done:=by
  intro X hP hw hK hc i Ti s σ H E I hf st hg;subst hP hw hK;obtain⟨f0,f1,f2,f3,f4,f5⟩:=hf it (by simp)
  have hg':x.cps.size<=i:=hg;exact wpAny_pyNext_ascii_end (I.ok.hd hc) st (by simp[hg']) λh' eb=>⟨rfl,I.turned (t':=s.toks) (λb o hb e=>eb b o hb e) f0 f1 f3 f4 f5⟩
 self:=λ_ _ _ _ _ st h=>wpAny_pyIter_striter_ascii st h
def DB{P:Tf}{w:Th}{K:PySem.W.Frag}{tg:Expr}(it:Td)(x:Str)(t:Tok):Turn P w K tg (Sc x) [it] it (λi h=>h.IsStrIter it "str_iterator" x t i) where
 mem:=by simp
 obj:=λi h st b hb=>by
  have e:b=it:=by simpa using hb
  subst e;obtain⟨o,e,c,d⟩:=st;exact⟨o,e,λv z=>by rw[d]at z;cases z⟩
 keep:=λi h h' st k=>let ⟨o,ho,r⟩:=st;⟨o,k it (by simp) o ho,r⟩
 item:=by
  intro X hP hw hK hc i Ti s σ H E I hf st hg;subst hP hw hK;obtain⟨f0,f1,f2,f3,f4,f5⟩:=hf it (by simp)
  have hg':i<x.cps.size:=hg;refine wpAny_pyNext_wide_item st (c:=x.cps[i]) (by simp[hg']) λh' Tn sb=>?_
  have I1:Inv X Ti σ H { s with heap:=h',toks:=s.toks+1 }:=I.turned (λb o hb e=>sb.extBut b o hb e) f0 f1 f3 f4 f5;obtain⟨o,e,c,d⟩:=id Tn;exact⟨_,rfl,pK (s:={ s with heap:=h',toks:=s.toks+1 }) e c d (by decide) ⟨.str ⟨#[x.cps[i]]⟩,H,I1,⟨_,rfl⟩,⟨rfl,_,by simp[hg'],rfl⟩,Tn,λb hb=>(hf b hb).1⟩⟩
 done:=by
  intro X hP hw hK hc i Ti s σ H E I hf st hg;subst hP hw hK;obtain⟨f0,f1,f2,f3,f4,f5⟩:=hf it (by simp)
  have hg':x.cps.size<=i:=hg;exact wpAny_pyNext_wide_end (I.ok.hd hc) st (by simp[hg']) λh' eb=>⟨rfl,I.turned (t':=s.toks) (λb o hb e=>eb b o hb e) f0 f1 f3 f4 f5⟩
 self:=λ_ _ _ _ _ st h=>wpAny_pyIter_striter_wide st h
section
variable {X:Cx}{tg:Expr}
def MQ(tl:TE):TI:=λσ H R=>tl σ H λx H1=>∃z,x=.str z/\R (Sc z) H1
def MR{l:Expr}{tl:TE}(hl:PE X l tl):PI X tg l (MQ tl):=by
 intro Ti s σ H R I h;refine cb (hl Ti s σ H _ I h) λv s1 zz9=>?_;obtain⟨x,H1,I1,r1,q1⟩:=zz9;obtain⟨z,e,q⟩:=q1;subst e;obtain⟨t,rfl⟩:=r1;have fpk:∀b∈[s1.heap.objs.size],mG X Ti H1 b:=λb hb=>by
  have e:b=s1.heap.objs.size:=by simpa using hb
  subst e;exact I1.fpOk (Xa _) (I1.hok.fresh (Xa _))
 cases ha:z.cps.all (·<128) with|true=>exact wpAny_pyIter_ascii ha ⟨s1.heap.objs.size,[s1.heap.objs.size],_,_,H1,rfl,I1.kept (t':=s1.toks) λb o e=>Ab _ e,Dz _ z t,⟨_,Ag _ rfl,rfl,rfl⟩,fpk,q⟩|false=>exact wpAny_pyIter_wide ha ⟨s1.heap.objs.size,[s1.heap.objs.size],_,_,H1,rfl,I1.kept (t':=s1.toks) λb o e=>Ab _ e,DB _ z t,⟨_,Ag _ rfl,rfl,rfl⟩,fpk,q⟩
theorem range_all(bs:S8 Te):(List.range bs.length).all (λi=>bs.getD i true)=bs.all id:=by
 induction bs with
 |nil=>rfl
 |cons b r ih=>
  rw[Qc,BH,Bx,List.all_map,Bx,<-ih];rfl
def Fm(hc:X.calm=true):TB X (.builtin "all") (λxs H Q=>∃(p:Td)(bs:S8 Te),xs=[.ref p]/\gR X.K H p (bs.map V.bl)/\Q (.bl (bs.all id)) H):=by
 intro Ti s σ H xs us Q I rv h;obtain⟨p,bs,rfl,hq,q⟩:=h;obtain⟨u,rfl,ru⟩:=vals1 rv;cases ru;obtain⟨its,r,pl,hz⟩:=I.list hq;have hlen:its.length=bs.length:=by have:=r.length;simpa using this.symm
 obtain⟨op,np,ep,cp,dp,sp⟩:=id pl;have hne:p≠s.heap.objs.size:=Vf (Ai ep);refine bJ (call_all_walk (Bv pl.isList ?_));refine⟨s.heap.objs.size,_,_,_,_,_,λi=>bs.getD i true,rfl,Walks.list (show X.A.in1.handled=none from I.ok.hd hc) s.heap.objs.size p hne its.toArray,⟨⟨_,Ag _ rfl,rfl,rfl⟩,⟨op,Ab _ ep,cp,np,sp⟩⟩,?_,λh' tk kp hle=>?_⟩
 ·intro i v s' Q' E' hv hQ';have hv':its[i]?=some v:=by simpa using hv
  have hi:i<its.length:=(Wd.mp hv').1;have hb:(bs.map V.bl)[i]?=some (V.bl (bs[i]'(by lia))):=by
   rw[Xb,Ya (by lia)];rfl
  obtain⟨u',e1,e2⟩:=r.get hb;rw[hv']at e1;cases e1;cases e2;have:bs.getD i true=bs[i]'(by lia):=by rw[Vb,Ya (by lia)];rfl
  have hQ2:Q' (bs.getD i true) s':=hQ';rw[this]at hQ2;exact Av hQ2
 ·have e:(List.range its.toArray.size).all (λi=>bs.getD i true)=bs.all id:=by
   rw[Yb,hlen];exact range_all bs
  rw[e]
  exact⟨.bl (bs.all id),H,I.kept (λb o e=>kp b o (by
   intro z;have z':b=s.heap.objs.size:=by simpa using z
   exact absurd (Ai e) (by rw[z'];exact Xh _)) (Ab _ e)) (I.tkl' hle),rfl,q⟩
theorem lA:∀{ys:S8 Str}{us:S8 Ta},Tp (ys.map V.str) us->StrsAre us ys
 |[],_,r=>by cases r;exact .nil
 | y::ys,_,r=>by
  cases r with
  |cons a b=>
   obtain⟨t,rfl⟩:=a;exact .cons y t (lA b)
def IS:RO X "str.join" (λx vs H Q=>∃(sep:Str)(p:Td)(ys:S8 Str),x=.str sep/\vs=[.ref p]/\gR X.K H p (ys.map V.str)/\(ys.map (·.length)).sum+ys.length*sep.length<=16777216/\Q (.str (Txt.join sep ys)) H):=by
 intro Ti s σ H x vs v us Q I rx rv h;obtain⟨sep,p,ys,rfl,rfl,hq,hz,q⟩:=h;obtain⟨t,rfl⟩:=rx;obtain⟨u,rfl,ru⟩:=vals1 rv;cases ru;obtain⟨its,r,pl,_⟩:=I.list hq;exact bJ (join_list pl.isList (lA (by simpa using r)) hz λt' k hle=>⟨.str _,H,I.tok k (I.tkl' hle),⟨t',rfl⟩,q⟩)
def sgn(x:Str):S8 V:=x.cps.toList.map λc=>.str ⟨#[c]⟩
def vq{x:Str}{acc:Tc Ta}(h:ItemsOf (SignAt x) acc x.cps.size):Tp (sgn x) acc.toList:=by
 obtain⟨h1,h2⟩:=h;have gen:∀(cs:S8 Nat)(us:S8 Ta),us.length=cs.length->(∀(j:Nat) v,us[j]?=some v->∃c u,cs[j]?=some c/\v=Value.str ⟨#[c]⟩ u)->Tp (cs.map λc=>V.str ⟨#[c]⟩) us:=by
  intro cs;induction cs with
  | nil=>intro us hl _;cases us with|nil=>exact .nil|cons _ _=>cases hl
  |cons c cs ih=>
   intro us hl hu;cases us with
   |nil=>cases hl
   |cons u us=>
    obtain⟨c',tk,e1,e2⟩:=hu 0 u rfl;have:c=c':=by simpa using e1
    subst this;subst e2;refine .cons ⟨tk,rfl⟩ (ih us (by simpa using hl) λj v e=>?_)
    have:=hu (j+1) v (by simpa using e)
    simpa using this
 refine gen x.cps.toList acc.toList (by simp[h1]) λj v e=>?_
 obtain⟨c,u,e1,e2⟩:=h2 j v (by simpa using e)
 exact⟨c,u,by simpa using e1,e2⟩
def yC(x:Str):(sgn x).length=x.cps.size:=by simp[sgn]
def pP(hc:X.calm=true):TB X (.type "list") (λxs H Q=>∃z:Str,xs=[.str z]/\z.cps.size<=sizeLine/\∀l,H l=none->Q (.ref l) (upd H l (.lst (sgn z)))):=by
 intro Ti s σ H xs us Q I rv h;obtain⟨z,rfl,hz,q⟩:=h;obtain⟨u,rfl,ru⟩:=vals1 rv;obtain⟨t,rfl⟩:=ru;refine bJ (call_list_str (I.ok.hd hc) z t (λh' tk acc' c' kp hS hi hle=>?_) hz);refine⟨.ref s.heap.objs.size,upd H s.heap.objs.size (.lst (sgn z)),I.laid kp (Xa _) ⟨by rw[yC];exact hz,acc'.toList,c',vq hi,by simpa using hS⟩ (I.tkl' hle),rfl,q _ (I.hok.fresh (Xa _))⟩
theorem Tt.there{h:Tg}(x:Tt P w H h a o):∃ob,h.get? a=some ob:=by
 cases o with
 |lst xs=>obtain⟨_,_,_,_,e⟩:=x;exact⟨_,e⟩
 |tup xs=>obtain⟨_,_,_,o,e,_⟩:=x;exact⟨_,e⟩
 |dK Tj=>obtain⟨_,_,_,_,o,_,_,e,_⟩:=x;exact⟨_,e⟩
 |dT ep Tj=>obtain⟨_,_,_,_,_,o,_,e,_⟩:=x;exact⟨_,e⟩
 |set S n=>obtain⟨o,_,_,_,e,_⟩:=x;exact⟨_,e⟩
 |ins C dx fs=>obtain⟨_,_,_,e,_⟩:=x;exact⟨_,e⟩
 |own y=>exact x
 |xd fs=>obtain⟨_,⟨_,_,_,e,_⟩,_⟩:=x;exact⟨_,e⟩
 |rng lo hi=>obtain⟨_,_,_,e⟩:=x;exact⟨_,e⟩
 |frz ob u=>obtain⟨e,_⟩:=x;exact⟨_,e⟩
 |tbl ps=>exact⟨_,x⟩
 |met f y=>exact⟨_,x⟩
 |ext φ=>obtain⟨_,e,_⟩:=x;exact e
def Inv.laid2{s:Tb}{h':Tg}(I:Inv X Ti σ H s)(k:∀b u,s.heap.get? b=some u->h'.get? b=some u)(hne:∀b u,s.heap.get? b=some u->b≠a)(hn:H a=none)(new:Tt X.prog X.w (upd H a o) h' a o)(ht:0<t':=by first|assumption|exact Vh _|exact Inv.tk (by assumption)|exact Inv.tkl (by assumption) (by assumption)|lia) :
  Inv X Ti σ (upd H a o) { s with heap:=h',toks:=t' }:=by
 refine I.un ⟨λb u e _ _ _=>k b u e,λb u e _ _ _=>⟨u.slots,k b u e⟩,λb u e n _=>by rw[aO (hne b u e)];exact n,λb u e _=>⟨u,k b u e⟩,λb xs e=>by rw[aO (bu e hn)];exact e,λb u v e=>by rw[aO (bu e hn)];exact e,λb ps e=>⟨#[],by rw[aO (bu e hn),e];simp⟩⟩ ?_
 intro b u e;by_cases hb:b=a
 ·subst hb;rw[aS]at e;cases e;exact new
 ·rw[aO hb]at e;exact(I.hok b u e).stay (λc v _ q=>k c v q) (λc q=>by rw[aO (bu q hn)];exact q) λc xs q=>by rw[aO (bu q hn)];exact q
def oK(hc:X.calm=true):TB X (.type "tuple") (λxs H Q=>∃z:Str,xs=[.str z]/\z.cps.size<=sizeLine/\∀l,H l=none->Q (.ref l) (upd H l (.tup (sgn z)))):=by
 intro Ti s σ H xs us Q I rv h;obtain⟨z,rfl,hz,q⟩:=h;obtain⟨u,rfl,ru⟩:=vals1 rv;obtain⟨t,rfl⟩:=ru;refine bJ (call_tuple_str (I.ok.hd hc) z t (λh' tk acc kp hi hle=>?_) hz);have hne:∀b u,s.heap.get? b=some u->b≠h'.objs.size:=λb u e z=>absurd (Ai (kp b u e)) (by rw[z];exact Xh _)
 have hn:H h'.objs.size=none:=by
  cases e:H h'.objs.size with
  |none=>rfl
  |some o=>
   obtain⟨ob,eo⟩:=(I.hok _ _ e).there;exact absurd rfl (hne _ _ eo)
 refine⟨.ref h'.objs.size,upd H h'.objs.size (.tup (sgn z)),I.laid2 (λb u e=>Ab _ (kp b u e)) hne hn ⟨by rw[yC];exact hz,acc.toList,vq hi,⟨_,Ag _ rfl,rfl,0,by simp⟩⟩ (I.tkl' hle),rfl,q _ hn⟩
def MS:UH X (λx lo hi H Q=>∃z:Str,x=.str z/\z.length<=sizeLine/\Q (.str (Txt.slice z lo hi)) H):=by
 intro Ti s σ H x v vl vu lo hi sl Q I rx hs pl pu h;obtain⟨z,rfl,hz,q⟩:=h;obtain⟨t,rfl⟩:=rx;refine⟨"str",_,F.slot_str_getitem.lookup,CU _ _ _,?_⟩;have fin:∀(o p:S9 Int),lo=o->hi=p->∀t' k,s.toks<=k->EP X Ti σ Q (.str (Txt.slice z o p) t') { s with toks:=k }:=λo p e1 e2 t' k hle=>⟨.str _,H,I.tok k (I.tkl' hle),⟨t',rfl⟩,by rw[<-e1,<-e2];exact q⟩
 refine bJ ?_;cases pl with
 |none=>
  cases pu with|none=>exact AX (l:=none) (u:=none) (st:=none) hs rfl (BO ⟨Ye (Co z _ _) hz,λt' k=>fin _ _ rfl rfl t' k⟩)|int j uj=>exact AX (l:=none) (u:=some (j,uj)) (st:=none) hs rfl (BO ⟨Ye (Co z _ _) hz,λt' k=>fin _ _ rfl rfl t' k⟩)
 |int i ui=>
  cases pu with|none=>exact AX (l:=some (i,ui)) (u:=none) (st:=none) hs rfl (BO ⟨Ye (Co z _ _) hz,λt' k=>fin _ _ rfl rfl t' k⟩)|int j uj=>exact AX (l:=some (i,ui)) (u:=some (j,uj)) (st:=none) hs rfl (BO ⟨Ye (Co z _ _) hz,λt' k=>fin _ _ rfl rfl t' k⟩)
theorem nJ:∀l:S8 α,(List.range l.length).filterMap (λk=>l[k]?)=l
 |[]=>rfl
 | x::r=>by
  rw[Qc,BH,Vl,Cf];show x::List.filterMap (λk=>(x::r)[k+1]?) _=_;have e:(λk=>(x::r)[k+1]?)=λk=>r[k]?:=by funext k;simp
  rw[e,nJ r]
theorem hY:∀{l:S8 α},(∀a∈l,f a=g a)->l.filterMap f=l.filterMap g
 |[],_=>rfl
 | a::r,h=>by
  rw[Vl,Vl,h a Wc,hY λb hb=>h b (Wb _ hb)]
def Fn(its:S8 Ta):slicePick its.toArray none none (some (-1))=its.reverse.toArray:=by
 unfold slicePick;have e:sliceBounds none none (some (-1)) its.toArray.size=((its.length:Int)-1,-1,-1):=by
  unfold sliceBounds;simp
 rw[e];have r:sliceRange ((its.length:Int)-1) (-1) (-1)=(List.range its.length).map λk=>its.length-1-k:=by
  unfold sliceRange;have hc:(if (-1:Int) > 0 then(if ((its.length:Int)-1) < -1 then(-1-((its.length:Int)-1)+-1-1) / -1 else 0) else(if ((its.length:Int)-1) > -1 then(((its.length:Int)-1) - -1 - -1-1) / (- -1) else 0))=(its.length:Int):=by
   rw[Ah (by decide)]
   rw[show(- -1:Int)=1 from rfl,Dg];split<;>lia
  simp only[hc,Zl];refine We λk hk=>?_;have:=Qb.mp hk;lia
 show((sliceRange ((its.length:Int)-1) (-1) (-1)).filterMap λi=>its.toArray[i]?).toArray=_;rw[r,Cf];congr 1;refine Eq.trans (hY (g:=λk=>its.reverse[k]?) λk hk=>?_) ?_
 ·have hk':=Qb.mp hk;show its.toArray[its.length-1-k]?=_;rw[BQ hk'];simp
 ·have:=nJ its.reverse;rw[Zk]at this;exact this
def K9(K:PySem.W.Frag)(te:TE):TE:=λσ H Q=>te σ H λx H1=>∃a xs,x=.ref a/\gR K H1 a xs/\∀p,H1 p=none->Q (.ref p) (upd H1 p (.lst xs.reverse))
def MT(he:PE X e te):PE X (.Subscript e (.Slice none none (some (.UnaryOp .USub (.Constant (.int 1) j p1) p2)) p3) pos) (K9 X.K te):=by
 intro Ti s σ H Q I h;refine Cc (cb (he Ti s σ H _ I h) λv s1 zz9=>?_);obtain⟨x,H1,I1,r1,q1⟩:=zz9;obtain⟨a,xs,rfl,hx,q⟩:=q1;cases r1;refine wpAny_Slice ?_;rw[B9];refine Ac ?_;refine Ac ?_;rw[evalPart_some];refine UnaryOp_ (Bk (neg_int ?_));have I2:=I1.tok (s1.toks+1+1);have I4:=I2.kept (t':=s1.toks+1+1) (h':=s1.heap.push { cls:=.type "slice",data:=.fields #[.none,.none,.int (-1) (s1.toks+1)] }) λb ob q=>Ab _ q;obtain⟨its,r,ht,hz⟩:=I4.list hx;have hlen:=r.length;refine tail_any (ops:=[.ref a,.ref s1.heap.objs.size]) ht.isList.typeIs slot_list_getitem.lookup ?_ (by with_unfolding_all rfl)
 refine wpAny_getItem_list_slice ht.isList (Heap.IsSliceOf.new ..) .none .none (.int (-1) _) (by simp) ?_ (by rw[Yb]<;>lia)
 rw[Fn];refine⟨.ref _,_,I4.laid (t':=s1.toks+1+1) (o:=.lst xs.reverse) (λb ob q=>Ab _ q) (Xa _) ?_,rfl,q _ (I4.hok.fresh (Xa _))⟩;exact⟨by rw[Zk];exact hz,_,0,r.reverse,Ag _ rfl⟩
end
structure TY(P:Program)(w:World)(K:PySem.W.Frag)(mg:Str->Option Value)(base:Heap)(x:Str)(k:Nat)(ps:List Str)(sp:Sp):Prop where
 ex:∃f fd,T9 P w K mg base Dx k f fd ps sp/\mg x=some (.ref f)/\PySem.W.keepIn K (.ref f)=true/\Binds K fd ps []
def DC(sp:Sp)(t:TA):TE:=λσ H Q=>t σ H λvs H1=>sp vs H1 Q E0
section
variable {X:Cx}
def aq(C:TY X.prog X.w X.K X.mg X.base x k ps sp)(hr:TX k' X.A)(hg:Gl X x)(ha:PA X (e::es) t)(hk:k<=k':=by decide)
  (hdb:(x == ("__debug__":Str))=false:=by decide) (he:starEach (e::es) X.env=(false,eval e X.env)::starEach es X.env:=by rfl) (hpl:(backTo pos (starEach es X.env)).any (·.1)=false:=by rfl) :
  PE X (.Call (.Name x p) (e::es) [] pos) (DC sp t):=by
 obtain⟨f,fd,F,hm,hkp,hb⟩:=C.ex;intro Ti s σ H Q I h;refine IF F (hr.mono hk) hg hm hkp hb .nil K7 ha hdb he hpl Ti s σ H Q I ?_;have e0:DC sp t=ES sp [] E0 t:=by
  funext σ H Q
  unfold DC ES;simp only[Zg]
 rw[e0]at h;exact h
def tL:Expr->Te|.Starred ..=>false|_=>true
def rY(h:tL e=true):starEach (e::es) env=(false,eval e env)::starEach es env:=by
 cases e<;>first|rfl|cases h
def ag(ha:PE X e te)(hr:PA X es t)(h:tL e=true:=by rfl):PA X (e::es) (iy te t):=kh ha hr (rY h)
def strsOf:S8 Expr->S9 (S8 Str)|[]=>some []|.Constant (.str x) _ _::r=>(strsOf r).map (x::·)|_=>none
def La(xs:S8 Str):TA:=λ_ H Q=>Q (xs.map V.str) H
theorem tM:∀{es:S8 Expr}{xs:S8 Str},strsOf es=some xs->PA X es (La xs)
 | [],xs,h=>by
  have e:xs=[]:=(Option.some.inj h).symm;subst e;exact λpos Ti s σ H Q I q=>ae pos Ti s σ H Q I q
 | e::r,xs,h=>by
  cases e with
  |Constant c j p=>
   cases c with
   |str x=>
    have h':(strsOf r).map (x::·)=some xs:=h;obtain⟨ys,h1,h2⟩:=Xc.mp h';subst h2;intro pos Ti s σ H Q I q;exact kh (cn (x:=x)) (tM h1) (rY rfl) pos Ti s σ H Q I q
   |_=>cases h
  |_=>cases h
def aN(i:Nat){pos' pos:Pos}(hN:X.N.Nodup)(he:PE X e te)(hi:X.N[i]?=some x:=by rfl)(hx:Loc X.env.scope x:=by first|exact Or.inl rfl|exact Or.inr rfl)(hf:X.fn x=true\/X.env.scope.names.lookup x=some .local:=by first|exact .inl rfl|exact .inr rfl|assumption)
  (hs:swapsWithSole [.Name x pos'] e pos.line X.env=pure false:=by rfl) (hw:swappedStores [.Name x pos'] e X.env=pure none:=by rfl) (h1:(assignEach [.Name x pos'] X.env).map (·.2)=[assign (.Name x pos') X.env]:=by rfl) :
  PS X (.Assign [.Name x pos'] e pos) (wT te (pJ i)):=cA he (yn hN hi hx hf) hs hw h1
def aV(i:Nat)(hN:X.N.Nodup)(hi:X.N[i]?=some x:=by rfl)(hx:Loc X.env.scope x:=by first|exact Or.inl rfl|exact Or.inr rfl)(hf:X.fn x=true\/X.env.scope.names.lookup x=some .local:=by first|exact .inl rfl|exact .inr rfl|assumption):PG X (.Name x pos) (pJ i):=yn hN hi hx hf
def MU(i:Nat){pos py spos:Pos}(S:Tz X N k Tl scope)(hc:X.calm=true)(hN:X.N.Nodup)(hi:PI X tg iter wi)
  (hg:∀C s H fp,PG (oH X N scope C s H fp) tg g)(ht:∀C s H fp,Pe (oH X N scope C s H fp) ifs tc)(he:∀C s H fp,PE (oH X N scope C s H fp) elt te)
  (hi':X.N[i]?=some y:=by rfl) (hy:Loc X.env.scope y:=by first|exact Or.inl rfl|exact Or.inr rfl)
  (hs:∀x,foldedSetIterable iter X.env x=pure x:=by intro _;rfl) (hsw:swapsWith (.ListComp elt [⟨tg,iter,ifs,0⟩] scope pos) (some (.Name y py)) spos.line X.env=pure true:=by rfl)
  (hf:X.fn y=true\/X.env.scope.names.lookup y=some .local:=by first|exact .inl rfl|exact .inr rfl|assumption) :
  PS X (.Assign [.Name y py] (.ListComp elt [⟨tg,iter,ifs,0⟩] scope pos) spos) (wT (rX k Tl wi g tc te) (pJ i)):=IR S hc hN hi' hy hi hg ht he hs hsw hf
end
def gj:bootBuiltins "list"=some (.type "list"):=by decide +kernel
def b8:bootBuiltins "tuple"=some (.type "tuple"):=by decide +kernel
def nK:bootBuiltins "str"=some (.type "str"):=by decide +kernel
def rZ:bootBuiltins "int"=some (.type "int"):=by decide +kernel
def iL:bootBuiltins "bool"=some (.type "bool"):=by decide +kernel
def MV{K:PySem.W.Frag}{T S:String}{b:Te}(h:(if (Value.type T == Value.type S)=true then some true else if PySem.W.kitMeta S=true then(fastBuiltinMro T).map (·.contains (Value.type S)) else none)=some b):PySem.W.kitOne K (.type T) (.type S)=some b:=h
def boot_isinstance:bootBuiltins "isinstance"=some (.builtin "isinstance"):=by decide +kernel
def boot_all:bootBuiltins "all"=some (.builtin "all"):=by decide +kernel
def Fo(osc:Scope)(ON N:S8 Str)(k:Nat)(Tl:S8 Nat)(scope:Scope):Te :=
 decide (scope.kind=.function)&&scope.names.all (λy=>decide (y.2≠.cell))&&scope.names.all (λy=>decide (y.2=.local->scope.names.lookup y.1=some .local)) &&
 scope.names.all (λy=>decide (y.2=.free->(osc.names.lookup y.1=some .cell\/osc.names.lookup y.1=some .free)))&&decide (N.length=k+Tl.length) &&
 (List.range Tl.length).all λj=>match Tl[j]?,N[k+j]? with|some i,some x=>decide (ON[i]?=some x)&&decide (scope.names.lookup x=some .free)|_,_=>false
def cq{X:Cx}(h:Fo osc ON N k Tl scope=true)(ho:X.env.scope=osc)(hN:X.N=ON):Tz X N k Tl scope:=by
 unfold Fo at h;simp only[Qf,decide_eq_true_eq,Ql]at h;obtain⟨⟨⟨⟨⟨h1,h2⟩,h3⟩,h4⟩,h5⟩,h6⟩:=h;refine⟨h1,h2,h3,λy hy hf=>?_,h5,λj i hj=>?_⟩
 ·show X.env.scope.names.lookup y.1=_\/X.env.scope.names.lookup y.1=_;rw[ho];exact h4 y hy hf
 ·have hlt:j<Tl.length:=(Wd.mp hj).1;have q:=h6 j (Qb.mpr hlt);rw[hj]at q;cases e:N[k+j]? with
  |none=>rw[e]at q;cases q
  |some x=>
   rw[e]at q;have q':(decide (ON[i]?=some x)&&decide (scope.names.lookup x=some .free))=true:=q;simp only[Qf,decide_eq_true_eq]at q';exact⟨x,rfl,by rw[hN];exact q'.1,q'.2⟩
def aF(h:H p=none)(o:HO):Ts H (upd H p o):=λb u q=>by rw[aO (bu q h)];exact q
def xf{xs:S8 α}{i:Int}(h0:0<=i)(h1:i<xs.length):∃v,oF xs i=some v/\v∈xs/\xs[i.toNat]?=some v:=by
 have hk:i.toNat<xs.length:=by lia
 have ek:i=((i.toNat:Nat):Int):=by lia
 refine⟨xs[i.toNat],?_,Wi hk,Ya hk⟩;have q:oF xs ((i.toNat:Nat):Int)=some xs[i.toNat]:=mI (Ya hk);rw[<-ek]at q;exact q
section
variable {X:Cx}
def rq:RO X "str.startswith" (λx vs H Q=>∃(a b:Str),x=.str a/\vs=[.str b]/\Q (.bl (Txt.startswith a b)) H):=by
 intro Ti s σ H x vs v us Q I rx rv h;obtain⟨a,b,rfl,rfl,q⟩:=h;obtain⟨t,rfl⟩:=rx;obtain⟨u,rfl,ru⟩:=vals1 rv;obtain⟨t',rfl⟩:=ru;exact SC.startswith ⟨.bl _,H,I,rfl,q⟩
def mulOk_of{x:Str}(h0:0<=n)(hn:n<=1000)(hx:x.length<=1000):MulOk x n:=by
 have hx':(x.length:Int)<=1000:=by lia
 have hm:(x.length:Int)*n<=1000*1000:=Int.mul_le_mul hx' hn h0 (by decide)
 have hm2:x.length*n.toNat<=1000*1000:=Nat.mul_le_mul hx (by lia)
 refine⟨?_,λh1 _=>?_,λh1 h2=>?_⟩
 ·rw[Ad (by lia),Ad (by lia)];rfl
 ·have:(x.length:Int)<=(2 ^ 63-1) / n:=(Int.le_ediv_iff_mul_le (by lia)).mpr (Int.le_trans hm (by decide))
  lia
 ·unfold Builtin.Str.tooLong;have:=Dy (Xa 1000);exact Ad (by rw[AO];lia)
def xg:T4 X (binaryOp .Mult) (λx y H Q=>∃(a:Str)(n:Int),x=.str a/\y=.int n/\MulOk a n/\Q (.str (Txt.mul a n)) H):=by
 intro Ti s σ H x y v u Q I rx ry h;obtain⟨a,n,rfl,rfl,hok,q⟩:=h;obtain⟨t,rfl⟩:=rx;obtain⟨t',rfl⟩:=ry;exact bJ (SB.mul hok λt2 k hle=>⟨.str _,H,I.tok k (I.tkl' hle),⟨t2,rfl⟩,q⟩)
theorem MW(hu:X.A.units<cLine):T4 X (compareOp .NotEq) (λx y H Q=>∃(a b:Td)(xs:S8 V),x=.ref a/\y=.ref b/\gR X.K H a xs/\gR X.K H b []/\Q (.bl (!xs.isEmpty)) H):=by
 intro Ti s σ H x y v u Q I rx ry h;obtain⟨a,b,xs,rfl,rfl,ha,hb,q⟩:=h;cases rx;cases ry;obtain⟨its,r,pl,_⟩:=I.list ha;obtain⟨its2,r2,pl2,_⟩:=I.list hb;cases r2;cases xs with
 |nil=>
  cases r;exact SeqAt.RcNeAt.lists (e:=λ_=>true) pl.isList pl2.isList rfl hu (λj h1 _=>absurd h1 (by simp)) _ _ _ _ ⟨.bl _,H,I,rfl,q⟩
 |cons x1 xr=>
  cases r;exact CW pl.isList pl2.isList (by simp) hu _ _ _ _ ⟨.bl _,H,I,rfl,q⟩
end
def aI{X:Cx}{K:PySem.W.Frag}(h:X.K=K):UQ X (R9 K):=h ▸ MH
theorem vt[DecidableEq α]:∀(l m:S8 α),l.Nodup->(∀x∈l,x∈m)->l.length<=m.length
 |[],_,_,_=>Yi _
 | a::l,m,h,hs=>by
  have hm:a∈m:=hs a Wc;have h1:=Qh.mp h;have ih:=vt l (m.erase a) h1.2 λx hx=>by
   have hne:x≠a:=λe=>h1.1 (e ▸ hx);exact(List.mem_erase_of_ne hne).mpr (hs x (Wb _ hx))
  have hl:=C7 hm;have hp:0<m.length:=BI hm;rw[Qc];lia
end L2
namespace VF
open PySem L2
abbrev AS:=Addr->Prop
def cx{α β γ:Type}{o:S9 (α×β)}{f:α×β->S9 γ}{z:γ}{P:Prop}(h:o.bind f=some z)(k:∀a b,o=some (a,b)->f (a,b)=some z->P):P:=by
 obtain⟨⟨a,b⟩,e,h⟩:=Wl.mp h;exact k a b e h
def bB{α γ:Type}{o:S9 α}{f:α->S9 γ}{z:γ}{P:Prop}(h:o.bind f=some z)(k:∀a,o=some a->f a=some z->P):P:=by
 obtain⟨a,e,h⟩:=Wl.mp h;exact k a e h
def aG{i:Decidable c}(h:(if c then x else none)=some z):c/\x=some z:=by simp_all
abbrev U(O Z:AS):AS:=λp=>O p\/Z p
abbrev ins(p:Addr)(O:AS):AS:=λb=>b=p\/O b
inductive D where
 | non|bl (b:Bool)|int (i:Int)|str (x:Str)|tup (ds:List D)|lst (ds:List D)|fl (ds:List D)|ty (n:String)|dk (Tj:List (Key×D))|dt (Tj:List (bC×D))|fn (n:Str)
def Uw(K:PySem.W.Frag)(Y:AS)(H:Hp)(a:Td)(vs:S8 V):Prop:=H a=some (.tup vs)/\¬ Y a
def UB(K:PySem.W.Frag)(Y:AS)(H:Hp)(a:Td)(vs:S8 V):Prop:=(Rd H a (.lst vs)/\¬ Y a)\/∀H',gR K H' a vs
def Uw.sq(h:Uw K Y H a vs):iH K H a vs:=.inl (.inl h.1)
def UB.sq(h:UB K Y H a vs):gR K H a vs:=by
 rcases h with h|h
 ·exact .inl h.1
 ·exact h H
def KA(Y:AS)(H:Hp)(as:S8 Td):Prop:=∀b∈as,(¬ Y b/\H b≠none)/\∀xs,H b=some (.tup xs)->∀c,V.ref c∈xs->¬ Y c/\H c≠none
def KA.go(h:KA Y H as)(k:∀b o,H b=some o->¬ Y b->H' b=some o)(n:∀b,Y' b->Y b\/H b=none):KA Y' H' as:=λb hb=>by
 obtain⟨⟨h1,h2⟩,h3⟩:=h b hb;have one:∀b,¬ Y b->H b≠none->¬ Y' b/\H' b≠none:=λb h1 h2=>by
  refine⟨λz=>(n b z).elim h1 h2,?_⟩;cases e:H b with|none=>exact absurd e h2|some o=>rw[k b o e h1];simp
 refine⟨one b h1 h2,λxs e c hc=>?_⟩;cases e':H b with
 |none=>exact absurd e' h2
 |some o=>
  rw[k b o e' h1]at e;cases e;obtain⟨g1,g2⟩:=h3 xs e' c hc;exact one c g1 g2
def KA.less(h:KA Y H as)(n:∀b,Y' b->Y b):KA Y' H as:=λb hb=>⟨⟨λz=>(h b hb).1.1 (n b z),(h b hb).1.2⟩,λxs e c hc=>⟨λz=>((h b hb).2 xs e c hc).1 (n c z),((h b hb).2 xs e c hc).2⟩⟩
inductive DA(K:PySem.W.Frag)(Y:AS)(H:Hp):V->D->Prop where
 | non:DA K Y H .non .non
 | bl (b:Bool):DA K Y H (.bl b) (.bl b)
 | int (i:Int):DA K Y H (.int i) (.int i)
 | str (x:Str):DA K Y H (.str x) (.str x)
 | tup {a:Addr} {vs:List V} {ds:List D}:Uw K Y H a vs->vs.length=ds.length->(∀(i:Nat) v d,vs[i]?=some v->ds[i]?=some d->DA K Y H v d)->DA K Y H (.ref a) (.tup ds)
 | ty (n:String):DA K Y H (.ty n) (.ty n)
 | lst {a:Addr} {vs:List V} {ds:List D}:¬ Y a->H a=some (.lst vs)->vs.length=ds.length->(∀(i:Nat) v d,vs[i]?=some v->ds[i]?=some d->DA K Y H v d)->DA K Y H (.ref a) (.lst ds)
 | fl {a:Addr} {vs:List V} {ds:List D}:UB K Y H a vs->vs.length=ds.length->(∀(i:Nat) v d,vs[i]?=some v->ds[i]?=some d->DA K Y H v d)->DA K Y H (.ref a) (.fl ds)
 | dk {a:Addr} {Tj:List (Key×V)} {ds:List (Key×D)}:¬ Y a->H a=some (.dK Tj)->Tj.map (·.1)=ds.map (·.1)->(∀(i:Nat) v d,Tj[i]?=some v->ds[i]?=some d->DA K Y H v.2 d.2)->DA K Y H (.ref a) (.dk ds)
 | dt {a:Addr} {ep:Nat×List Addr} {Tj:List (bC×V)} {ds:List (bC×D)}:¬ Y a->KA Y H ep.2->H a=some (.dT ep Tj)->Tj.map (·.1)=ds.map (·.1)->(∀(i:Nat) v d,Tj[i]?=some v->ds[i]?=some d->DA K Y H v.2 d.2)->DA K Y H (.ref a) (.dt ds)
 | fn {a:Addr} {n:Str}:PySem.W.nsIn K mainGlobals n=some (some (.ref a))->DA K Y H (.ref a) (.fn n)
def El(K:PySem.W.Frag)(Y:AS)(H:Hp)(vs:S8 V)(ds:S8 D):Prop:=vs.length=ds.length/\∀(i:Nat) v d,vs[i]?=some v->ds[i]?=some d->DA K Y H v d
def Lv(H:Hp)(p:Td):Prop:=H p≠none/\∀vs,H p≠some (.tup vs)
theorem Lv.same(h:Lv H p)(s:∀o,H p=some o->H' p=some o):Lv H' p:=by
 cases e:H p with
 |none=>exact absurd e h.1
 |some o=>
  refine⟨by rw[s o e];simp,λvs z=>h.2 vs ?_⟩
  rw[s o e]at z;rw[e];exact z
structure TK(O:AS)(H:Hp)(O':AS)(H':Hp):Prop where
 kp:∀b o,H b=some o->¬ O b->H' b=some o
 nw:∀b,O' b->O b\/H b=none
 al:∀b,H b≠none->H' b≠none
 lv:∀b,Lv H b->Lv H' b
section
variable {K:PySem.W.Frag}{Y Y' O O' O1 O2 Z:AS}{H H' H1 H2:Hp}{v:V}{d:D}{vs:S8 V}{ds:S8 D}{a p:Td}
def TK.refl(O:AS)(H:Hp):TK O H O H:=⟨λ_ _ h _=>h,λ_ h=>.inl h,λ_ h=>h,λ_ h=>h⟩
def TK.trans(a:TK O H O1 H1)(b:TK O1 H1 O2 H2):TK O H O2 H2:=by
 refine⟨λc o h n=>b.kp c o (a.kp c o h n) λz=>?_,λc h=>?_,λc h=>b.al c (a.al c h),λc h=>b.lv c (a.lv c h)⟩
 ·rcases a.nw c z with q|q
  ·exact n q
  ·rw[h]at q;cases q
 ·rcases b.nw c h with q|q
  ·exact a.nw c q
  ·right;cases e:H c with|none=>rfl|some o=>exact absurd q (a.al c (by rw[e];simp))
theorem Ts.ext(h:Ts H H'):TK O H O H':=⟨λb o e _=>h b o e,λ_ z=>.inl z,λb z=>by
 cases e:H b with|none=>exact absurd e z|some o=>rw[h b o e];simp,λb z=>z.same λo e=>h b o e⟩
def Rd.keep(r:Rd H a u)(k:∀o,H a=some o->H' a=some o):Rd H' a u:=by
 rcases r with r|⟨o,r⟩
 ·exact .inl (k _ r)
 ·exact .inr ⟨o,k _ r⟩
def Rd.live(r:Rd H a u):H a≠none:=by
 rcases r with r|⟨o,r⟩<;>(rw[r];simp)
def Uw.go(h:Uw K Y H a vs)(k:∀b o,H b=some o->¬ Y b->H' b=some o)(n:∀b,Y' b->Y b\/H b=none):Uw K Y' H' a vs:=by grind [Uw]
def UB.go(h:UB K Y H a vs)(k:∀b o,H b=some o->¬ Y b->H' b=some o)(n:∀b,Y' b->Y b\/H b=none):UB K Y' H' a vs:=by
 rcases h with⟨h1,h2⟩|h
 ·refine .inl ⟨Rd.keep h1 λo e=>k a o e h2,λz=>?_⟩;rcases n a z with q|q
  ·exact h2 q
  ·exact Rd.live h1 q
 ·exact .inr h
theorem DA.go(h:DA K Y H v d)(k:∀b o,H b=some o->¬ Y b->H' b=some o)(n:∀b,Y' b->Y b\/H b=none):DA K Y' H' v d:=by
 have no:∀a u,H a=some u->¬ Y a->¬ Y' a:=λa u e ny z=>by
  rcases n a z with q|q
  ·exact ny q
  ·rw[e]at q;cases q
 induction h with|non=>exact .non|bl b=>exact .bl b|int i=>exact .int i|str x=>exact .str x|tup h1 h2 _ ih=>exact .tup (h1.go k n) h2 ih|ty n=>exact .ty n|lst h0 h1 h2 _ ih=>exact .lst (no _ _ h1 h0) (k _ _ h1 h0) h2 ih|fl h1 h2 _ ih=>exact .fl (h1.go k n) h2 ih|dk h0 h1 h2 _ ih=>exact .dk (no _ _ h1 h0) (k _ _ h1 h0) h2 ih|dt h0 ka h1 h2 _ ih=>exact .dt (no _ _ h1 h0) (ka.go k n) (k _ _ h1 h0) h2 ih|fn h=>exact .fn h
def DA.ext(h:DA K (U O Z) H v d)(e:TK O H O' H'):DA K (U O' Z) H' v d :=
 h.go (λb o q n=>e.kp b o q λz=>n (.inl z)) λb z=>z.elim (λq=>(e.nw b q).elim (λx=>.inl (.inl x)) .inr) λq=>.inl (.inr q)
def DA.less(h:DA K Y H v d)(n:∀b,Y' b->Y b):DA K Y' H v d:=h.go (λ_ _ e _=>e) λb z=>.inl (n b z)
def DA.same(h:DA K Y H v d)(s:Ts H H'):DA K Y H' v d:=h.go (λb o e _=>s b o e) λ_ z=>.inl z
def DA.away(h:DA K Y H v d)(s:Ts H H')(hp:H p=none):DA K (ins p Y) H' v d:=h.go (λb o e _=>s b o e) λb z=>z.elim (λq=>.inr (q ▸ hp)) .inl
theorem El.go(h:El K Y H vs ds)(k:∀b o,H b=some o->¬ Y b->H' b=some o)(n:∀b,Y' b->Y b\/H b=none):El K Y' H' vs ds:=⟨h.1,λi v d a b=>(h.2 i v d a b).go k n⟩
theorem El.ext(h:El K (U O Z) H vs ds)(e:TK O H O' H'):El K (U O' Z) H' vs ds:=⟨h.1,λi v d a b=>(h.2 i v d a b).ext e⟩
theorem El.less(h:El K Y H vs ds)(n:∀b,Y' b->Y b):El K Y' H vs ds:=⟨h.1,λi v d a b=>(h.2 i v d a b).less n⟩
theorem El.same(h:El K Y H vs ds)(s:Ts H H'):El K Y H' vs ds:=⟨h.1,λi v d a b=>(h.2 i v d a b).same s⟩
theorem El.away(h:El K Y H vs ds)(s:Ts H H')(hp:H p=none):El K (ins p Y) H' vs ds:=⟨h.1,λi v d a b=>(h.2 i v d a b).away s hp⟩
def El.nil:El K Y H [] []:=⟨rfl,λi v d h=>by simp at h⟩
def El.cons(h:DA K Y H v d)(r:El K Y H vs ds):El K Y H (v::vs) (d::ds):=by grind [El]
theorem El.uncons(h:El K Y H vs (d::ds)):∃v r,vs=v::r/\DA K Y H v d/\El K Y H r ds:=by
 cases vs with
 |nil=>have:=h.1;simp at this
 |cons v r=>
  refine⟨v,r,rfl,h.2 0 v d rfl rfl,?_,λi v' d' h1 h2=>h.2 (i+1) v' d' (by simpa using h1) (by simpa using h2)⟩
  have:=h.1;simpa using this
def El.unnil(h:El K Y H vs []):vs=[]:=by
 have:=h.1;simpa using this
def El.app(h:El K Y H vs ds)(r:El K Y H ws es):El K Y H (vs++ws) (ds++es):=by grind [El]
def El.at(h:El K Y H vs ds){i:Nat}{d:D}(e:ds[i]?=some d):∃v,vs[i]?=some v/\DA K Y H v d:=by
 have hi:i<ds.length:=(Wd.mp e).1;have hv:i<vs.length:=by rw[h.1];exact hi
 exact⟨vs[i],Ya hv,h.2 i _ d (Ya hv) e⟩
def El.one(h:DA K Y H v d):El K Y H [v] [d]:=El.cons h El.nil
def El.rev(h:El K Y H vs ds):El K Y H vs.reverse ds.reverse:=by grind [El]
theorem El.take(h:El K Y H vs ds)(n:Nat):El K Y H (vs.take n) (ds.take n):=by grind [El]
theorem El.drop(h:El K Y H vs ds)(n:Nat):El K Y H (vs.drop n) (ds.drop n):=by
 refine⟨by simp[h.1],λi v d h1 h2=>?_⟩
 rw[Zi]at h1 h2;exact h.2 _ v d h1 h2
theorem El.set(h:El K Y H vs ds)(hv:DA K Y H v d)(j:Nat):El K Y H (vs.set j v) (ds.set j d):=by grind [El]
def El.erase(h:El K Y H vs ds)(j:Nat):El K Y H (vs.eraseIdx j) (ds.eraseIdx j):=by grind [El]
def OA(K:PySem.W.Frag)(Y:AS)(H:Hp)(p:Td):D->Prop|.lst ds=>∃vs,H p=some (.lst vs)/\El K Y H vs ds|.dk ds=>∃Tj,H p=some (.dK Tj)/\Tj.map (·.1)=ds.map (·.1)/\∀(i:Nat) v d,Tj[i]?=some v->ds[i]?=some d->DA K Y H v.2 d.2|.dt ds=>∃ep Tj,KA Y H ep.2/\H p=some (.dT ep Tj)/\Tj.map (·.1)=ds.map (·.1)/\∀(i:Nat) v d,Tj[i]?=some v->ds[i]?=some d->DA K Y H v.2 d.2|_=>False
theorem OA.live(h:OA K Y H p d):H p≠none:=by
 cases d with
 |lst ds=>obtain⟨vs,e,_⟩:=h;rw[e];simp
 |dk ds=>obtain⟨vs,e,_⟩:=h;rw[e];simp
 |dt ds=>obtain⟨_,vs,_,e,_⟩:=h;rw[e];simp
 |_=>exact h.elim
theorem OA.lv(h:OA K Y H p d):Lv H p:=by
 cases d with
 |lst ds=>obtain⟨vs,e,_⟩:=h;exact⟨by rw[e];simp,λ_ z=>by rw[e]at z;cases z⟩
 |dk ds=>obtain⟨vs,e,_⟩:=h;exact⟨by rw[e];simp,λ_ z=>by rw[e]at z;cases z⟩
 |dt ds=>obtain⟨_,vs,_,e,_⟩:=h;exact⟨by rw[e];simp,λ_ z=>by rw[e]at z;cases z⟩
 |_=>exact h.elim
theorem OA.go(h:OA K Y H p d)(hp:H' p=H p)(k:∀b o,H b=some o->¬ Y b->H' b=some o)(n:∀b,Y' b->Y b\/H b=none):OA K Y' H' p d:=by
 cases d with
 |lst ds=>obtain⟨vs,e,q⟩:=h;exact⟨vs,hp.trans e,q.go k n⟩
 |dk ds=>obtain⟨vs,e,q1,q2⟩:=h;exact⟨vs,hp.trans e,q1,λi v d a b=>(q2 i v d a b).go k n⟩
 |dt ds=>obtain⟨ep,vs,ka,e,q1,q2⟩:=h;exact⟨ep,vs,ka.go k n,hp.trans e,q1,λi v d a b=>(q2 i v d a b).go k n⟩
 |_=>exact h.elim
theorem OA.da(h:OA K Y H p d)(hp:¬ Y' p)(n:∀b,Y' b->Y b):DA K Y' H (.ref p) d:=by
 cases d with
 |lst ds=>obtain⟨vs,e,q⟩:=h;exact .lst hp e q.1 (q.less n).2
 |dk ds=>obtain⟨vs,e,q1,q2⟩:=h;exact .dk hp e q1 λi v d a b=>(q2 i v d a b).less n
 |dt ds=>obtain⟨ep,vs,ka,e,q1,q2⟩:=h;exact .dt hp (ka.less n) e q1 λi v d a b=>(q2 i v d a b).less n
 |_=>exact h.elim
def BA(K:PySem.W.Frag)(Y:AS)(H:Hp)(v:V):D->Prop|.non=>v=.non|.bl b=>v=.bl b|.int i=>v=.int i|.str x=>v=.str x|.tup ds=>∃a vs,v=.ref a/\Uw K Y H a vs/\El K Y H vs ds|.ty n=>v=.ty n|.lst ds=>∃a vs,v=.ref a/\H a=some (.lst vs)/\El K Y H vs ds|.fl ds=>∃a vs,v=.ref a/\UB K Y H a vs/\El K Y H vs ds|.dk ds=>∃a Tj,v=.ref a/\H a=some (.dK Tj)/\Tj.map (·.1)=ds.map (·.1)/\∀(i:Nat) v d,Tj[i]?=some v->ds[i]?=some d->DA K Y H v.2 d.2|.dt ds=>∃a ep Tj,v=.ref a/\KA Y H ep.2/\H a=some (.dT ep Tj)/\Tj.map (·.1)=ds.map (·.1)/\∀(i:Nat) v d,Tj[i]?=some v->ds[i]?=some d->DA K Y H v.2 d.2|.fn n=>∃a,v=.ref a/\PySem.W.nsIn K mainGlobals n=some (some (.ref a))
theorem DA.ba(h:DA K Y H v d):BA K Y H v d:=by
 cases h with|non=>rfl|bl b=>rfl|int i=>rfl|str x=>rfl|tup h1 h2 h3=>exact⟨_,_,rfl,h1,h2,h3⟩|ty n=>rfl|lst h0 h1 h2 h3=>exact⟨_,_,rfl,h1,h2,h3⟩|fl h1 h2 h3=>exact⟨_,_,rfl,h1,h2,h3⟩|dk h0 h1 h2 h3=>exact⟨_,_,rfl,h1,h2,h3⟩|dt h0 ka h1 h2 h3=>exact⟨_,_,_,rfl,ka,h1,h2,h3⟩|fn h=>exact⟨_,rfl,h⟩
theorem OA.ba(h:OA K Y H p d):BA K Y H (.ref p) d:=by
 cases d with
 |lst ds=>obtain⟨vs,e,q⟩:=h;exact⟨p,vs,rfl,e,q⟩
 |dk ds=>obtain⟨vs,e,q1,q2⟩:=h;exact⟨p,vs,rfl,e,q1,q2⟩
 |dt ds=>obtain⟨ep,vs,ka,e,q1,q2⟩:=h;exact⟨p,ep,vs,rfl,ka,e,q1,q2⟩
 |_=>exact h.elim
end
inductive Sl where
 | e|v (d:D)|o (d:D)|io (d:D)
abbrev En:=List Sl
def Sl.get:Sl->S9 D|.e=>none|.v d=>some d|.o d=>some d|.io d=>some d
def Sl.ow:Sl->S9 D|.o d=>some d|.io d=>some d|_=>none
def Sl.put(y:D):Sl->Sl|.io _=>.io y|_=>.o y
def Sl.put_ow(y:D)(s:Sl):(s.put y).ow=some y:=by cases s<;>rfl
def Sl.put_v(y z:D)(s:Sl):s.put y≠.v z:=by cases s<;>(intro e;cases e)
inductive Rs where
 | d (x:D)|f (x:D)|s (i:Nat)
structure ER(K:PySem.W.Frag)(st:En)(σ:St)(H:Hp)(O Z:AS):Prop where
 len:st.length=σ.length
 val:∀(i:Nat) d,st[i]?=some (.v d)->∃v,σ[i]?=some (some v)/\DA K (U O Z) H v d
 own:∀(i:Nat) s d,st[i]?=some s->s.ow=some d->∃p,σ[i]?=some (some (.ref p))/\O p/\OA K (U O Z) H p d
 uni:∀(i j:Nat) s t d d' p,st[i]?=some s->s.ow=some d->st[j]?=some t->t.ow=some d'->σ[i]?=some (some (.ref p))->σ[j]?=some (some (.ref p))->i=j
 dis:∀p,O p->¬ Z p
 liv:∀p,U O Z p->Lv H p
structure Kp(st Tn:En):Prop where
 len:Tn.length=st.length
 has:∀(i:Nat) s,st[i]?=some s->s.get≠none->∃s',Tn[i]?=some s'/\s'.get≠none
 io:∀(i:Nat) d,st[i]?=some (.io d)->∃d',Tn[i]?=some (.io d')
def Kp.refl(st:En):Kp st st:=⟨rfl,λi s h g=>⟨s,h,g⟩,λi d h=>⟨d,h⟩⟩
theorem Kp.trans(x:Kp a b)(y:Kp b c):Kp a c:=by
 refine⟨y.len.trans x.len,λi s h g=>?_,λi d h=>?_⟩
 ·obtain⟨s',h',g'⟩:=x.has i s h g;exact y.has i s' h' g'
 ·obtain⟨d',h'⟩:=x.io i d h;exact y.io i d' h'
def TU(K:PySem.W.Frag)(Z:AS)(st:En)(σ:St)(H:Hp)(O:AS)(v:V):Rs->Prop|.d x=>DA K (U O Z) H v x|.f x=>∃p,v=.ref p/\¬ O p/\¬ Z p/\OA K (ins p (U O Z)) H p x/\ER K st σ H (ins p O) Z|.s i=>σ[i]?=some (some v)/\∃s,st[i]?=some s/\s.get≠none
def cont(st:En):Rs->S9 D|.d x=>some x|.f x=>some x|.s i=>(st[i]?).bind Sl.get
def Rs.nf:Rs->Rs|.f x=>.d x|r=>r
section
variable {K:PySem.W.Frag}{Y Y' O O' O1 O2 Z:AS}{H H' H1 H2:Hp}{v:V}{d:D}{vs:S8 V}{ds:S8 D}{a p:Td}{st Tn Tr TR:En}{σ σ':St}
def fu(st:En)(r:Rs):cont st r.nf=cont st r:=by cases r<;>rfl
theorem TU.nf{r:Rs}(h:TU K Z st σ H O v r):TU K Z st σ H O v r.nf:=by
 cases r with
 |d x=>exact h
 |s i=>exact h
 |f x=>
  obtain⟨p,rfl,h1,h2,h3,_⟩:=h;exact h3.da (λz=>z.elim h1 h2) λb z=>.inr z
theorem TU.ba(h:TU K Z st σ H O v r)(E:ER K st σ H O Z)(c:cont st r=some d):BA K (U O Z) H v d:=by
 cases r with
 |d x=>cases c;exact DA.ba h
 |f x=>
  cases c;have:=TU.nf h;exact DA.ba (show DA K (U O Z) H v _ from this)
 |s i=>
  obtain⟨h1,s,h2,h3⟩:=h;have c':(st[i]?).bind Sl.get=some d:=c;rw[h2]at c';cases s with
  |e=>cases c'
  |v x=>
   cases c';obtain⟨u,g1,g2⟩:=E.val i _ h2;rw[h1]at g1;cases g1;exact g2.ba
  |o x=>
   cases c';obtain⟨p,g1,g2,g3⟩:=E.own i _ _ h2 rfl;rw[h1]at g1;cases g1;exact g3.ba
  |io x=>
   cases c';obtain⟨p,g1,g2,g3⟩:=E.own i _ _ h2 rfl;rw[h1]at g1;cases g1;exact g3.ba
theorem TU.ext{r:Rs}(h:TU K Z st σ H O v r.nf)(e:TK O H O' H')(k:Kp st Tn):TU K Z Tn σ H' O' v r.nf:=by
 cases r with
 |d x=>exact DA.ext (show DA K (U O Z) H v x from h) e
 |f x=>exact DA.ext (show DA K (U O Z) H v x from h) e
 |s i=>
  obtain⟨h1,s,h2,h3⟩:=h;exact⟨h1,k.has i s h2 h3⟩
theorem ER.same(E:ER K st σ H O Z)(s:Ts H H'):ER K st σ H' O Z:=by
 refine⟨E.len,λi d h=>?_,λi s' d h1 h2=>?_,E.uni,E.dis,λp hp=>?_⟩
 ·obtain⟨v,h1,h2⟩:=E.val i d h;exact⟨v,h1,h2.same s⟩
 ·obtain⟨p,g1,g2,g3⟩:=E.own i s' d h1 h2;refine⟨p,g1,g2,g3.go ?_ (λb o e _=>s b o e) λb z=>.inl z⟩;cases e:H p with|none=>exact absurd e g3.live|some o=>exact s p o e
 ·exact(E.liv p hp).same λo e=>s p o e
theorem ER.away(E:ER K st σ H O Z)(s:Ts H H')(hp:H p=none)(hp':Lv H' p):ER K st σ H' (ins p O) Z:=by
 have sub:∀b,U (ins p O) Z b->ins p (U O Z) b:=λb z=>by
  rcases z with(z|z)|z
  ·exact .inl z
  ·exact .inr (.inl z)
  ·exact .inr (.inr z)
 refine⟨E.len,λi d h=>?_,λi s' d h1 h2=>?_,E.uni,λq hq=>?_,λq hq=>?_⟩
 ·obtain⟨v,h1,h2⟩:=E.val i d h;exact⟨v,h1,(h2.away s hp).less sub⟩
 ·obtain⟨q,g1,g2,g3⟩:=E.own i s' d h1 h2;refine⟨q,g1,.inr g2,g3.go ?_ (λb o e _=>s b o e) λb z=>?_⟩
  ·cases e:H q with|none=>exact absurd e g3.live|some o=>exact s q o e
  ·rcases sub b z with z|z
   ·exact .inr (z ▸ hp)
   ·exact .inl z
 ·rcases hq with rfl|hq
  ·exact λz=>(E.liv _ (.inr z)).1 hp
  ·exact E.dis q hq
 ·rcases hq with(rfl|hq)|hq
  ·exact hp'
  ·exact(E.same s).liv q (.inl hq)
  ·exact(E.same s).liv q (.inr hq)
def ER.free(E:ER K st σ H O Z)(hp:H p=none):¬ O p/\¬ Z p:=⟨λz=>(E.liv p (.inl z)).1 hp,λz=>(E.liv p (.inr z)).1 hp⟩
def ER.new(E:ER K st σ H O Z)(hp:H p=none)(el:El K (U O Z) H vs ds):ER K st σ (upd H p (.lst vs)) O Z/\TU K Z st σ (upd H p (.lst vs)) O (.ref p) (.f (.lst ds)):=by
 have s:=aF hp (.lst vs);have hf:=E.free hp;refine⟨E.same s,p,rfl,hf.1,hf.2,⟨vs,aS,el.away s hp⟩,E.away s hp ⟨by rw[aS];simp,λ_ z=>by rw[aS]at z;cases z⟩⟩
def ER.newT(E:ER K st σ H O Z)(hp:H p=none)(el:El K (U O Z) H vs ds):ER K st σ (upd H p (.tup vs)) O Z/\TU K Z st σ (upd H p (.tup vs)) O (.ref p) (.d (.tup ds)):=by
 have s:=aF hp (.tup vs);have hf:=E.free hp;exact⟨E.same s,.tup ⟨aS,λz=>z.elim hf.1 hf.2⟩ el.1 (el.same s).2⟩
def DD(st:En)(i:Nat):S9 En:=match st[i]? with|some (.v _)=>some st|some (.o d)=>some (st.set i (.v d))|_=>none
def Fp(st:En):Rs->S9 En|.s i=>DD st i|_=>some st
def aw{l:S8 α}(h:i≠j):(l.set i x)[j]?=l[j]?:=by rw[A5,Ah h]
def aY{l:S8 α}(h:l[i]?=some y):(l.set i x)[i]?=some x:=by
 have hi:=(Wd.mp h).1;rw[A5,Af rfl,Af hi]
def IT(h:DD st i=some Tn):Kp st Tn/\∃d,Tn[i]?=some (.v d)/\(st[i]?).bind Sl.get=some d:=by
 unfold DD at h;split at h
 ·rename_i d e
  cases h;exact⟨Kp.refl st,d,e,by rw[e];rfl⟩
 ·rename_i d e
  cases h;refine⟨⟨by simp,λj s hj g=>?_,λj d' hj=>?_⟩,d,aY e,by rw[e];rfl⟩
  ·by_cases q:i=j
   ·subst q;exact⟨.v d,aY e,by simp[Sl.get]⟩
   ·exact⟨s,by rw[aw q];exact hj,g⟩
  ·have q:i≠j:=λz=>by subst z;rw[e]at hj;cases hj
   exact⟨d',by rw[aw q];exact hj⟩
 ·cases h
def ER.frz(E:ER K st σ H O Z)(h:DD st i=some Tn):∃O',TK O H O' H/\ER K Tn σ H O' Z/\(∀b,O' b->O b):=by
 unfold DD at h;split at h
 ·cases h;exact⟨O,TK.refl O H,E,λ_ z=>z⟩
 ·rename_i d e
  cases h;obtain⟨p,g1,g2,g3⟩:=E.own i _ _ e rfl;have less:∀b,U (λb=>O b/\b≠p) Z b->U O Z b:=λb z=>z.elim (λq=>.inl q.1) .inr;refine⟨λb=>O b/\b≠p,⟨λb o q _=>q,λb z=>.inl z.1,λb z=>z,λb z=>z⟩,⟨by simp[E.len],λj x hj=>?_,λj s x hj hs=>?_,λj k s t x y q hj hs hk ht e1 e2=>?_,λq hq=>E.dis q hq.1,λq hq=>E.liv q (less q hq)⟩,λb z=>z.1⟩
  ·by_cases q:i=j
   ·subst q;rw[aY e]at hj;cases hj;exact⟨.ref p,g1,g3.da (λz=>z.elim (λy=>y.2 rfl) (E.dis p g2)) less⟩
   ·rw[aw q]at hj;obtain⟨v,h1,h2⟩:=E.val j x hj;exact⟨v,h1,h2.less less⟩
  ·have q:i≠j:=λz=>by
    subst z;rw[aY e]at hj;cases hj;cases hs
   rw[aw q]at hj;obtain⟨r,h1,h2,h3⟩:=E.own j s x hj hs;refine⟨r,h1,⟨h2,λz=>q ?_⟩,h3.go rfl (λ_ _ e _=>e) λb z=>.inl (less b z)⟩;subst z;exact E.uni i j _ _ _ _ r e rfl hj hs g1 h1
  ·have q1:i≠j:=λz=>by
    subst z;rw[aY e]at hj;cases hj;cases hs
   have q2:i≠k:=λz=>by
    subst z;rw[aY e]at hk;cases hk;cases ht
   rw[aw q1]at hj;rw[aw q2]at hk;exact E.uni j k s t x y q hj hs hk ht e1 e2
 ·cases h
theorem TU.frz(h:TU K Z st σ H O v r)(E:ER K st σ H O Z)(f:Fp st r=some Tn)(c:cont st r=some d):∃O',TK O H O' H/\Kp st Tn/\ER K Tn σ H O' Z/\DA K (U O' Z) H v d:=by
 cases r with
 |d x=>cases f;cases c;exact⟨O,TK.refl O H,Kp.refl st,E,h⟩
 |f x=>cases f;cases c;exact⟨O,TK.refl O H,Kp.refl st,E,TU.nf h⟩
 |s i=>
  obtain⟨h1,s,h2,h3⟩:=h;have f':DD st i=some Tn:=f;obtain⟨k,x,k1,k2⟩:=IT f';obtain⟨O',e1,e2,_⟩:=E.frz f';have c':(st[i]?).bind Sl.get=some d:=c;have ex:x=d:=Option.some.inj (k2.symm.trans c');subst ex;obtain⟨u,g1,g2⟩:=e2.val i _ k1;rw[h1]at g1;cases g1;exact⟨O',e1,k,e2,g2⟩
def ER.write{s:Sl}(E:ER K st σ H O Z)(hs:st[i]?=some s)(ho:s.ow=some x)(hp:σ[i]?=some (some (.ref p)))(new:OA K (U O Z) (upd H p o) p y) :
  ER K (st.set i (s.put y)) σ (upd H p o) O Z/\TK O H O (upd H p o)/\Kp st (st.set i (s.put y)):=by
 obtain⟨q,g1,g2,g3⟩:=E.own i s x hs ho;have eq:q=p:=by rw[hp]at g1;cases g1;rfl
 subst eq;have keep:∀b u,H b=some u->¬ U O Z b->upd H q o b=some u:=λb u e n=>by
  have hb:b≠q:=λz=>n (.inl (by rw[z];exact g2))
  rw[aO hb];exact e
 refine⟨⟨by simp[E.len],λj d hj=>?_,λj t d hj ht=>?_,λj k t t' d d' r hj ht hk ht' e1 e2=>?_,E.dis,λr hr=>?_⟩,⟨λb u e n=>?_,λb z=>.inl z,λb z=>?_,λb z=>?_⟩,⟨by simp,λj t hj ht=>?_,λj d hj=>?_⟩⟩
 ·by_cases e:i=j
  ·subst e;rw[aY hs]at hj;exact absurd (Option.some.inj hj) (Sl.put_v _ _ _)
  ·rw[aw e]at hj;obtain⟨v,h1,h2⟩:=E.val j d hj;exact⟨v,h1,h2.go keep λb z=>.inl z⟩
 ·by_cases e:i=j
  ·subst e;rw[aY hs]at hj;have:=Option.some.inj hj;subst this;rw[Sl.put_ow]at ht;cases ht;exact⟨q,hp,g2,new⟩
  ·rw[aw e]at hj;obtain⟨r,h1,h2,h3⟩:=E.own j t d hj ht;have hne:r≠q:=λz=>by subst z;exact e (E.uni i j s t x d r hs ho hj ht hp h1)
   exact⟨r,h1,h2,h3.go (aO hne) keep λb z=>.inl z⟩
 ·have own':∀(m:Nat)(t:Sl)(d:D),(st.set i (s.put y))[m]?=some t->t.ow=some d->∃t2 d2,st[m]?=some t2/\t2.ow=some d2:=λm t d hm ht=>by
   by_cases e:i=m
   ·subst e;exact⟨s,x,hs,ho⟩
   ·rw[aw e]at hm;exact⟨t,d,hm,ht⟩
  obtain⟨t1,d1,a1,b1⟩:=own' j t d hj ht;obtain⟨t2,d2,a2,b2⟩:=own' k t' d' hk ht';exact E.uni j k t1 t2 d1 d2 r a1 b1 a2 b2 e1 e2
 ·by_cases e:r=q
  ·subst e;exact new.lv
  ·exact(E.liv r hr).same λo' eo=>by rw[aO e];exact eo
 ·have hb:b≠q:=λz=>n (by rw[z];exact g2)
  rw[aO hb];exact e
 ·by_cases e:b=q
  ·subst e;rw[aS];simp
  ·rw[aO e];exact z
 ·by_cases e:b=q
  ·subst e;exact new.lv
  ·exact z.same λo' eo=>by rw[aO e];exact eo
 ·by_cases e:i=j
  ·subst e;exact⟨s.put y,aY hs,by cases s<;>simp[Sl.put,Sl.get]⟩
  ·exact⟨t,by rw[aw e];exact hj,ht⟩
 ·by_cases e:i=j
  ·subst e;rw[hs]at hj;cases hj;exact⟨y,aY hs⟩
  ·exact⟨d,by rw[aw e];exact hj⟩
end
abbrev FE:=En->Option (Rs×En)
abbrev FA:=En->Option (List Rs×En)
abbrev FT:=En->Option (Bool×En)
abbrev Rz:=D×Bool
def mk:Rz->Rs|(d,true)=>.f d|(d,false)=>.d d
def UC(K:PySem.W.Frag)(Y:AS)(H H':Hp)(v:V):Rz->Prop|(d,true)=>∃p,v=.ref p/\H p=none/\OA K (ins p Y) H' p d|(d,false)=>DA K Y H' v d
def UT(H:Hp)(v:V):Rs->Prop|.f _=>∀p,v=.ref p->H p=none|_=>True
theorem TK.dead(e:TK O H O' H')(h:H' p=none):H p=none:=by
 cases q:H p with|none=>rfl|some o=>exact absurd h (e.al p (by rw[q];simp))
theorem UT.back(h:UT H' v r)(e:TK O H O' H'):UT H v r:=by
 cases r with|f x=>exact λp hp=>e.dead (h p hp)|d x=>trivial|s i=>trivial
def dC(K:PySem.W.Frag)(te:TE)(f:FE):Prop:=∀(st:En)(σ:St)(H:Hp)(O Z:AS)(Q:VK),ER K st σ H O Z->∀r Tn,f st=some (r,Tn)->
 (∀v H' O',TK O H O' H'->Kp st Tn->ER K Tn σ H' O' Z->TU K Z Tn σ H' O' v r->UT H v r->Q v H')->te σ H Q
inductive UI(K:PySem.W.Frag)(Z:AS)(st:En)(σ:St)(H:Hp)(O:AS):List V->List Rs->Prop where
 | nil:UI K Z st σ H O [] []
 | cons {v:V} {vs:List V} {r:Rs} {rs:List Rs}:TU K Z st σ H O v r.nf->UI K Z st σ H O vs rs->UI K Z st σ H O (v::vs) (r::rs)
def tN(K:PySem.W.Frag)(ta:TA)(f:FA):Prop:=∀(st:En)(σ:St)(H:Hp)(O Z:AS)(Q:S8 V->Hp->Prop),ER K st σ H O Z->∀rs Tn,f st=some (rs,Tn)->
 (∀vs H' O',TK O H O' H'->Kp st Tn->ER K Tn σ H' O' Z->UI K Z Tn σ H' O' vs rs->Q vs H')->ta σ H Q
def vv(K:PySem.W.Frag)(tt:TT)(f:FT):Prop:=∀(st:En)(σ:St)(H:Hp)(O Z:AS)(Q:Te->Hp->Prop),ER K st σ H O Z->∀c Tn,f st=some (c,Tn)->
 (∀H' O',TK O H O' H'->Kp st Tn->ER K Tn σ H' O' Z->Q c H')->tt σ H Q
def Tw(K:PySem.W.Frag)(r:R2)(b:D->D->S9 Rz):Prop:=∀(Y:AS)(H:Hp)(x y:V)(d1 d2:D)(z:Rz)(Q:VK),(∀p,Y p->Lv H p)->BA K Y H x d1->BA K Y H y d2->b d1 d2=some z->
 (∀v H',Ts H H'->UC K Y H H' v z->Q v H')->r x y H Q
def PU(K:PySem.W.Frag)(r:V->Hp->VK->Prop)(b:D->S9 Rz):Prop:=∀(Y:AS)(H:Hp)(x:V)(d1:D)(z:Rz)(Q:VK),(∀p,Y p->Lv H p)->BA K Y H x d1->b d1=some z->
 (∀v H',Ts H H'->UC K Y H H' v z->Q v H')->r x H Q
inductive U6(K:PySem.W.Frag)(Y:AS)(H:Hp):List V->List D->Prop where
 | nil:U6 K Y H [] []
 | cons {v:V} {vs:List V} {d:D} {ds:List D}:BA K Y H v d->U6 K Y H vs ds->U6 K Y H (v::vs) (d::ds)
def TZ(K:PySem.W.Frag)(r:S8 V->Hp->VK->Prop)(b:S8 D->S9 Rz):Prop:=∀(Y:AS)(H:Hp)(xs:S8 V)(ds:S8 D)(z:Rz)(Q:VK),(∀p,Y p->Lv H p)->U6 K Y H xs ds->b ds=some z->
 (∀v H',Ts H H'->UC K Y H H' v z->Q v H')->r xs H Q
section
variable {K:PySem.W.Frag}{Y Y' O O' O1 O2 Z:AS}{H H' H1 H2:Hp}{v:V}{d:D}{vs:S8 V}{ds:S8 D}{a p:Td}{st Tn Tr TR:En}{σ σ':St}
theorem UC.rv(E:ER K st σ H O Z)(s:Ts H H')(h:UC K (U O Z) H H' v z):ER K st σ H' O Z/\TU K Z st σ H' O v (mk z):=by
 obtain⟨d,fr⟩:=z;cases fr with
 |false=>exact⟨E.same s,h⟩
 |true=>
  obtain⟨p,rfl,hp,ho⟩:=h;have hf:=E.free hp;exact⟨E.same s,p,rfl,hf.1,hf.2,ho,E.away s hp ho.lv⟩
theorem UC.fsh(h:UC K Y H H' v z):UT H v (mk z):=by
 obtain⟨d,fr⟩:=z;cases fr with
 |false=>trivial
 |true=>obtain⟨p,rfl,hp,_⟩:=h;exact λq e=>by cases e;exact hp
theorem UI.ext(h:UI K Z st σ H O vs rs)(e:TK O H O' H')(k:Kp st Tn):UI K Z Tn σ H' O' vs rs:=by
 induction h with|nil=>exact .nil|cons h1 _ ih=>exact .cons (h1.ext e k) ih
def cj(st:En):S8 Rs->S9 (S8 D)|[]=>some []|r::rs=>(cont st r).bind λd=>(cj st rs).bind λds=>some (d::ds)
theorem UI.bas(h:UI K Z st σ H O vs rs)(E:ER K st σ H O Z):∀{ds:S8 D},cj st rs=some ds->U6 K (U O Z) H vs ds:=by
 induction h with
 |nil=>intro ds e;cases e;exact .nil
 |@cons v vs r rs h1 _ ih=>
  intro ds e;refine bB e λd e1 e=>?_;refine bB e λds' e2 e=>?_;cases e;exact .cons (h1.ba E (by rw[fu];exact e1)) (ih e2)
def cS:S8 Rs->En->S9 (S8 D×En)|[],st=>some ([],st)|r::rs,st=>(cont st r).bind λd=>(Fp st r).bind λTr=>(cS rs Tr).bind λx=>some (d::x.1,x.2)
def IU(st:En)(r:Rs):Fp st r.nf=Fp st r:=by cases r<;>rfl
theorem UI.esc:∀{rs:S8 Rs}{vs:S8 V}{st:En}{O:AS}{ds:S8 D}{Tn:En},UI K Z st σ H O vs rs->ER K st σ H O Z->cS rs st=some (ds,Tn)->∃O',TK O H O' H/\Kp st Tn/\ER K Tn σ H O' Z/\El K (U O' Z) H vs ds
 |[],_,st,O,ds,Tn,.nil,E,e=>by cases e;exact⟨O,TK.refl O H,Kp.refl _,E,El.nil⟩
 | r::rs,_,st,O,ds,Tn,.cons h1 h2,E,e=>by
  refine bB e λd e1 e=>?_;refine bB e λTr e2 e=>?_;refine cx e λds2 TR e3 e=>?_;cases e;obtain⟨O1,x1,k1,E1,da⟩:=h1.frz E (by rw[IU];exact e2) (by rw[fu];exact e1)
  obtain⟨O2,x2,k2,E2,el⟩:=UI.esc (h2.ext x1 k1) E1 e3;exact⟨O2,x1.trans x2,k1.trans k2,E2,El.cons (da.ext x2) el⟩
def aB(i:Nat):FE:=λst=>match st[i]? with|some (.v d)=>some (.d d,st)|some (.o _)=>some (.s i,st)|some (.io _)=>some (.s i,st)|_=>none
def MX(i:Nat):dC K (tf i) (aB i):=by
 intro st σ H O Z Q E r Tn h q;unfold aB at h;split at h
 ·rename_i d e
  cases h;obtain⟨v,h1,h2⟩:=E.val i d e;exact⟨v,h1,q v H O (TK.refl O H) (Kp.refl _) E h2 True.intro⟩
 ·rename_i d e
  cases h;obtain⟨p,h1,h2,h3⟩:=E.own i _ _ e rfl;exact⟨.ref p,h1,q _ H O (TK.refl O H) (Kp.refl _) E ⟨h1,_,e,by simp[Sl.get]⟩ True.intro⟩
 ·rename_i d e
  cases h;obtain⟨p,h1,h2,h3⟩:=E.own i _ _ e rfl;exact⟨.ref p,h1,q _ H O (TK.refl O H) (Kp.refl _) E ⟨h1,_,e,by simp[Sl.get]⟩ True.intro⟩
 ·cases h
def fC(d:D):FE:=λst=>some (.d d,st)
def DE(h:∀Y H,DA K Y H v d):dC K (tC v) (fC d):=by
 intro st σ H O Z Q E r Tn e q;cases e;exact q v H O (TK.refl O H) (Kp.refl _) E (h _ _) True.intro
def MY(i:Int):dC K (tC (.int i)) (fC (.int i)):=DE λ_ _=>.int i
def MZ(x:Str):dC K (tC (.str x)) (fC (.str x)):=DE λ_ _=>.str x
def PV(b:Te):dC K (tC (.bl b)) (fC (.bl b)):=DE λ_ _=>.bl b
def M1:dC K (tC .non) (fC .non):=DE λ_ _=>.non
def aE(b:D->D->S9 Rz)(fa fb:FE):FE:=λst=>(fa st).bind λx=>(fb x.2).bind λy=>(cont y.2 x.1).bind λd1=>(cont y.2 y.1).bind λd2=>(b d1 d2).bind λz=>some (mk z,y.2)
def Lb(hr:Tw K r b)(ha:dC K ta fa)(hb:dC K tb fb):dC K (Pb r ta tb) (aE b fa fb):=by
 intro st σ H O Z Q E r' Tn h q;refine cx h λr1 Tr e1 h=>?_;refine cx h λr2 TR e2 h=>?_;refine bB h λd1 e3 h=>?_;refine bB h λd2 e4 h=>?_;refine bB h λz e5 h=>?_;cases h;refine ha st σ H O Z _ E r1 Tr e1 λv1 H1 O1 x1 k1 E1 rv1 w1=>?_;refine hb Tr σ H1 O1 Z _ E1 r2 TR e2 λv2 H2 O2 x2 k2 E2 rv2 w2=>?_;have b1:=(rv1.nf.ext x2 k2).ba E2 (by rw[fu];exact e3)
 refine hr (U O2 Z) H2 v1 v2 d1 d2 z _ E2.liv b1 (rv2.ba E2 e4) e5 λv H3 s hres=>?_;obtain⟨E3,rv3⟩:=hres.rv E2 s;exact q v H3 O2 ((x1.trans x2).trans (Ts.ext s)) (k1.trans k2) E3 rv3 (hres.fsh.back (x1.trans x2))
def RP(b:D->S9 Rz)(fa:FE):FE:=λst=>(fa st).bind λx=>(cont x.2 x.1).bind λd1=>(b d1).bind λz=>some (mk z,x.2)
def Lc(hr:PU K r b)(ha:dC K ta fa):dC K (SN r ta) (RP b fa):=by
 intro st σ H O Z Q E r' Tn h q;refine cx h λr1 Tr e1 h=>?_;refine bB h λd1 e3 h=>?_;refine bB h λz e5 h=>?_;cases h;refine ha st σ H O Z _ E r1 Tr e1 λv1 H1 O1 x1 k1 E1 rv1 w1=>?_;refine hr (U O1 Z) H1 v1 d1 z _ E1.liv (rv1.ba E1 e3) e5 λv H3 s hres=>?_;obtain⟨E3,rv3⟩:=hres.rv E1 s;exact q v H3 O1 (x1.trans (Ts.ext s)) k1 E3 rv3 (hres.fsh.back x1)
def Pf(st:En)(r:Rs):S9 Te:=match cont st r with|some (.bl c)=>some c|_=>none
def Ld(E:ER K st σ H O Z)(h:TU K Z st σ H O v r)(t:Pf st r=some c):v=.bl c:=by
 unfold Pf at t;split at t
 ·rename_i b e
  cases t;exact h.ba E e
 ·cases t
def aJ(fa:FE):FT:=λst=>(fa st).bind λx=>(Pf x.2 x.1).bind λc=>some (c,x.2)
def tO(ha:dC K ta fa):vv K (EO ta) (aJ fa):=by
 intro st σ H O Z Q E c Tn h q;refine cx h λr1 Tr e1 h=>?_;refine bB h λc' e2 h=>?_;cases h;exact ha st σ H O Z _ E r1 Tr e1 λv1 H1 O1 x1 k1 E1 rv1 w1=>⟨c,Ld E1 rv1 e2,q H1 O1 x1 k1 E1⟩
def Le(ha:dC K ta fa):vv K (tB ta) (aJ fa):=tO ha
def mL(f:FT):FT:=λst=>(f st).bind λx=>some (!x.1,x.2)
def yD(h:vv K t f):vv K (Pt t) (mL f):=by
 intro st σ H O Z Q E c Tn e q;refine cx e λc1 Tr e1 e=>?_;cases e;exact h st σ H O Z _ E c1 Tr e1 q
def kO(f g:FT):FT:=λst=>(f st).bind λx=>if x.1=true then g x.2 else some (false,x.2)
theorem yE(h:vv K t f)(h':vv K u g):vv K (Ps t u) (kO f g):=by
 intro st σ H O Z Q E c Tn e q;refine cx e λc1 Tr e1 e=>?_;refine h st σ H O Z _ E c1 Tr e1 λH1 O1 x1 k1 E1=>?_;cases c1 with
 |true=>
  rw[Af rfl]at e ⊢;exact h' Tr σ H1 O1 Z _ E1 c Tn e λH2 O2 x2 k2 E2=>q H2 O2 (x1.trans x2) (k1.trans k2) E2
 |false=>
  simp only[Xe,if_false]at e ⊢;cases e;exact q H1 O1 x1 k1 E1
def M3(f g:FT):FT:=λst=>(f st).bind λx=>if x.1=true then some (true,x.2) else g x.2
theorem Fq(h:vv K t f)(h':vv K u g):vv K (SJ t u) (M3 f g):=by
 intro st σ H O Z Q E c Tn e q;refine cx e λc1 Tr e1 e=>?_;refine h st σ H O Z _ E c1 Tr e1 λH1 O1 x1 k1 E1=>?_;cases c1 with
 |true=>
  rw[Af rfl]at e ⊢;cases e;exact q H1 O1 x1 k1 E1
 |false=>
  simp only[Xe,if_false]at e ⊢;exact h' Tr σ H1 O1 Z _ E1 c Tn e λH2 O2 x2 k2 E2=>q H2 O2 (x1.trans x2) (k1.trans k2) E2
def cT:FT:=λst=>some (true,st)
def M4:vv K PR cT:=by
 intro st σ H O Z Q E c Tn e q;cases e;exact q H O (TK.refl O H) (Kp.refl _) E
def kP(fa fb:FE):FE:=λst=>(fa st).bind λx=>(Pf x.2 x.1).bind λc=>if c=true then fb x.2 else some (.d (.bl false),x.2)
theorem yF(ha:dC K ta fa)(hb:dC K tb fb):dC K (KN ta tb) (kP fa fb):=by
 intro st σ H O Z Q E r Tn h q;refine cx h λr1 Tr e1 h=>?_;refine bB h λc e2 h=>?_;refine ha st σ H O Z _ E r1 Tr e1 λv1 H1 O1 x1 k1 E1 rv1 w1=>⟨c,Ld E1 rv1 e2,?_⟩;cases c with
 |true=>
  rw[Af rfl]at h ⊢;exact hb Tr σ H1 O1 Z _ E1 r Tn h λv H2 O2 x2 k2 E2 rv w2=>q v H2 O2 (x1.trans x2) (k1.trans k2) E2 rv (w2.back x1)
 |false=>
  rw[Ah (by decide)]at h ⊢
  cases h;exact q _ H1 O1 x1 k1 E1 (.bl false) True.intro
def IV(f:FT)(fa fb:FE):FE:=λst=>(f st).bind λx=>if x.1=true then fa x.2 else fb x.2
theorem Lf(h:vv K t f)(ha:dC K ta fa)(hb:dC K tb fb):dC K (SK t ta tb) (IV f fa fb):=by
 intro st σ H O Z Q E r Tn e q;refine cx e λc1 Tr e1 e=>?_;refine h st σ H O Z _ E c1 Tr e1 λH1 O1 x1 k1 E1=>?_;cases c1 with
 |true=>
  rw[Af rfl]at e ⊢;exact ha Tr σ H1 O1 Z _ E1 r Tn e λv H2 O2 x2 k2 E2 rv w2=>q v H2 O2 (x1.trans x2) (k1.trans k2) E2 rv (w2.back x1)
 |false=>
  simp only[Xe,if_false]at e ⊢;exact hb Tr σ H1 O1 Z _ E1 r Tn e λv H2 O2 x2 k2 E2 rv w2=>q v H2 O2 (x1.trans x2) (k1.trans k2) E2 rv (w2.back x1)
def ai:FA:=λst=>some ([],st)
def M5:tN K rf ai:=by
 intro st σ H O Z Q E rs Tn e q;cases e;exact q [] H O (TK.refl O H) (Kp.refl _) E .nil
def aa(fa:FE)(fr:FA):FA:=λst=>(fa st).bind λx=>(fr x.2).bind λy=>some (x.1::y.1,y.2)
def yG(ha:dC K ta fa)(hr:tN K tr fr):tN K (iy ta tr) (aa fa fr):=by
 intro st σ H O Z Q E rs Tn h q;refine cx h λr1 Tr e1 h=>?_;refine cx h λrs2 TR e2 h=>?_;cases h;refine ha st σ H O Z _ E r1 Tr e1 λv1 H1 O1 x1 k1 E1 rv1 w1=>?_;refine hr Tr σ H1 O1 Z _ E1 rs2 TR e2 λvs H2 O2 x2 k2 E2 rvs=>?_;exact q (v1::vs) H2 O2 (x1.trans x2) (k1.trans k2) E2 (.cons (rv1.nf.ext x2 k2) rvs)
def few(h:n<=1000000):n<=sizeLine:=Ye h (by decide)
def jA(fa:FA):FE:=λst=>(fa st).bind λx=>(cS x.1 x.2).bind λy=>if y.1.length<=1000000 then some (.d (.tup y.1),y.2) else none
def Fr(ha:tN K ta fa):dC K (PK ta) (jA fa):=by
 intro st σ H O Z Q E r Tn h q;refine cx h λrs Tr e1 h=>?_;refine cx h λds TR e2 h=>?_;refine ha st σ H O Z _ E rs Tr e1 λvs H1 O1 x1 k1 E1 rvs=>?_;obtain⟨O2,x2,k2,E2,el⟩:=rvs.esc E1 e2;obtain⟨hz,h⟩:=aG h;cases h;refine⟨by rw[el.1];exact few hz,λp hp=>?_⟩
 obtain⟨E3,rv⟩:=E2.newT hp el;exact q _ _ O2 ((x1.trans x2).trans (Ts.ext (aF hp _))) (k1.trans k2) E3 rv True.intro
def dY(fa:FA):FE:=λst=>(fa st).bind λx=>(cS x.1 x.2).bind λy=>if y.1.length<=1000000 then some (.f (.lst y.1),y.2) else none
def Fs(ha:tN K ta fa):dC K (Mw ta) (dY fa):=by
 intro st σ H O Z Q E r Tn h q;refine cx h λrs Tr e1 h=>?_;refine cx h λds TR e2 h=>?_;refine ha st σ H O Z _ E rs Tr e1 λvs H1 O1 x1 k1 E1 rvs=>?_;obtain⟨O2,x2,k2,E2,el⟩:=rvs.esc E1 e2;obtain⟨hz,h⟩:=aG h;cases h;refine⟨by rw[el.1];exact few hz,λp hp=>?_⟩
 obtain⟨E3,rv⟩:=E2.new hp el;exact q _ _ O2 ((x1.trans x2).trans (Ts.ext (aF hp _))) (k1.trans k2) E3 rv λp' e=>by cases e;exact(x1.trans x2).dead hp
def dM(b:S8 D->S9 Rz)(fa:FA):FE:=λst=>(fa st).bind λx=>(cj x.2 x.1).bind λds=>(b ds).bind λz=>some (mk z,x.2)
def Lg(hr:TZ K r b)(ha:tN K ta fa):dC K (RM r ta) (dM b fa):=by
 intro st σ H O Z Q E r0 Tn h q;refine cx h λrs Tr e1 h=>?_;refine bB h λds e2 h=>?_;refine bB h λz e3 h=>?_;cases h;refine ha st σ H O Z _ E rs Tr e1 λvs H1 O1 x1 k1 E1 rvs=>?_;refine hr (U O1 Z) H1 vs ds z _ E1.liv (rvs.bas E1 e2) e3 λv H3 s hres=>?_;obtain⟨E3,rv3⟩:=hres.rv E1 s;exact q v H3 O1 (x1.trans (Ts.ext s)) k1 E3 rv3 (hres.fsh.back x1)
end
def D.isSc:D->Te|.non=>true|.bl _=>true|.int _=>true|.str _=>true|.ty _=>true|_=>false
def gk(K:PySem.W.Frag)(g:S8 D->S9 Rz):Sp:=λvs H Q _=>∃(Z:AS)(ds:S8 D)(z:Rz),El K Z H vs ds/\(∀p,Z p->Lv H p)/\g ds=some z/\∀v H',Ts H H'->UC K Z H H' v z->Q v H'
def Sd(K:PySem.W.Frag)(Y:AS)(f:Td)(x':D)(H H':Hp)(v:V):Rz->Prop|(d,true)=>∃p,v=.ref p/\H p=none/\OA K (ins p Y) H' p d/\OA K (ins p Y) H' f x'|(d,false)=>DA K Y H' v d/\OA K Y H' f x'
def oM(K:PySem.W.Frag)(g:D->S8 D->S9 (Rz×D)):Sp:=λvs H Q _=>∃(f:Td)(ws:S8 V)(Z:AS)(x:D)(ds:S8 D)(z:Rz)(x':D),vs=.ref f::ws/\¬ Z f/\OA K (ins f Z) H f x/\El K (ins f Z) H ws ds/\(∀p,Z p->Lv H p)/\g x ds=some (z,x') /\
 ∀v H',(∀b o,H b=some o->b≠f->H' b=some o)->Sd K (ins f Z) f x' H H' v z->Q v H'
section
variable {K:PySem.W.Frag}{Y Y' O O' O1 O2 Z:AS}{H H' H1 H2:Hp}{v:V}{d:D}{vs:S8 V}{ds:S8 D}{a p:Td}{st Tn Tr TR:En}{σ σ':St}
def bb(g:S8 D->S9 Rz)(fa:FA):FE:=λst=>(fa st).bind λx=>(cS x.1 x.2).bind λy=>(g y.1).bind λz=>some (mk z,y.2)
def yH(ha:tN K ta fa):dC K (DC (gk K g) ta) (bb g fa):=by
 intro st σ H O Z Q E r0 Tn h q;refine cx h λrs Tr e1 h=>?_;refine cx h λds TR e2 h=>?_;refine bB h λz e3 h=>?_;cases h;refine ha st σ H O Z _ E rs Tr e1 λvs H1 O1 x1 k1 E1 rvs=>?_;obtain⟨O2,x2,k2,E2,el⟩:=rvs.esc E1 e2;refine⟨U O2 Z,ds,z,el,E2.liv,e3,λv H3 s hres=>?_⟩;obtain⟨E3,rv3⟩:=hres.rv E2 s;exact q v H3 O2 ((x1.trans x2).trans (Ts.ext s)) (k1.trans k2) E3 rv3 (hres.fsh.back (x1.trans x2))
theorem TU.da0(h:TU K Z st σ H O v r)(E:ER K st σ H O Z)(c:cont st r=some d):DA K (λ_=>False) H v d:=by
 cases r with
 |d x=>cases c;exact DA.less (show DA K (U O Z) H v d from h) λb z=>z.elim
 |f x=>cases c;exact DA.less (show DA K (U O Z) H v d from TU.nf h) λb z=>z.elim
 |s i=>
  obtain⟨h1,s,h2,h3⟩:=h;have c':(st[i]?).bind Sl.get=some d:=c;rw[h2]at c';cases s with
  |e=>cases c'
  |v x=>
   cases c';obtain⟨u,g1,g2⟩:=E.val i _ h2;rw[h1]at g1;cases g1;exact g2.less λb z=>z.elim
  |o x=>
   cases c';obtain⟨p,g1,g2,g3⟩:=E.own i _ _ h2 rfl;rw[h1]at g1;cases g1;exact g3.da (λz=>z) λb z=>z.elim
  |io x=>
   cases c';obtain⟨p,g1,g2,g3⟩:=E.own i _ _ h2 rfl;rw[h1]at g1;cases g1;exact g3.da (λz=>z) λb z=>z.elim
theorem UI.el0(h:UI K Z st σ H O vs rs)(E:ER K st σ H O Z):∀{ds:S8 D},cj st rs=some ds->El K (λ_=>False) H vs ds:=by
 induction h with
 |nil=>intro ds e;cases e;exact El.nil
 |@cons v vs r rs h1 _ ih=>
  intro ds e;refine bB e λd e1 e=>?_;refine bB e λds' e2 e=>?_;cases e;exact El.cons (h1.da0 E (by rw[fu];exact e1)) (ih e2)
theorem DA.sc(h:DA K Y H v d)(s:d.isSc=true):DA K Y' H' v d:=by
 cases h with|non=>exact .non|bl b=>exact .bl b|int i=>exact .int i|str x=>exact .str x|ty n=>exact .ty n|_=>cases s
def bx(g:S8 D->S9 Rz)(fa:FA):FE:=λst=>(fa st).bind λx=>(cj x.2 x.1).bind λds=>(g ds).bind λz=>if (z.1.isSc&&!z.2)=true then some (.d z.1,x.2) else none
def pQ(ha:tN K ta fa):dC K (DC (gk K g) ta) (bx g fa):=by
 intro st σ H O Z Q E r0 Tn h q;refine cx h λrs Tr e1 h=>?_;refine bB h λds e2 h=>?_;refine cx h λdz fr e3 h=>?_;obtain⟨hc,h⟩:=aG h;cases h;have h1:dz.isSc=true/\fr=false:=by simpa using hc
 obtain⟨h1,rfl⟩:=h1;refine ha st σ H O Z _ E rs _ e1 λvs H1 O1 x1 k1 E1 rvs=>?_;refine⟨λ_=>False,ds,(dz,false),rvs.el0 E1 e2,λp z=>z.elim,e3,λv H3 s hres=>?_⟩;exact q v H3 O1 (x1.trans (Ts.ext s)) k1 (E1.same s) (DA.sc (show DA K (λ_=>False) H3 v dz from hres) h1) True.intro
def vx{s:Sl}(E:ER K st σ H O Z)(hs:st[i]?=some s)(hx:s.ow=some x)(hv:σ[i]?=some (some v))(el:El K (U O Z) H ws ds)(hg:g x ds=some (z,x'))
  (q:∀v H' O',TK O H O' H'->Kp st (st.set i (s.put x'))->ER K (st.set i (s.put x')) σ H' O' Z->TU K Z (st.set i (s.put x')) σ H' O' v (mk z)->UT H v (mk z)->Q v H'):oM K g (v::ws) H Q XE:=by
 obtain⟨p,g1,g2,g3⟩:=E.own i s x hs hx;have ev:v=.ref p:=by rw[hv]at g1;cases g1;rfl
 subst ev;have a1:∀b,ins p (λb=>U O Z b/\b≠p) b->U O Z b:=λb z=>z.elim (λq=>by rw[q];exact .inl g2) λq=>q.1
 have a2:∀b,U O Z b->ins p (λb=>U O Z b/\b≠p) b:=λb z=>by
  by_cases e:b=p
  ·exact .inl e
  ·exact .inr ⟨z,e⟩
 refine⟨p,ws,λb=>U O Z b/\b≠p,x,ds,z,x',rfl,λz=>z.2 rfl,g3.go rfl (λ_ _ e _=>e) (λb z=>.inl (a1 b z)),el.less a1,λb z=>E.liv b z.1,hg,λu H' kp hres=>?_⟩;have ho:OA K (ins p λb=>U O Z b/\b≠p) H' p x':=by
  obtain⟨dz,fr⟩:=z;cases fr with
  |false=>exact hres.2
  |true=>obtain⟨r,_,_,_,h⟩:=hres;exact h.go rfl (λ_ _ e _=>e) λb z=>.inl (.inr z)
 have kp':∀b o,H b=some o->¬ U O Z b->H' b=some o:=λb o e n=>kp b o e λz=>n (by rw[z];exact .inl g2)
 have al:∀b,H b≠none->H' b≠none:=λb hb=>by
  by_cases e:b=p
  ·rw[e];exact ho.live
  ·cases eb:H b with|none=>exact absurd eb hb|some o=>rw[kp b o eb e];simp
 have al':∀b,Lv H b->Lv H' b:=λb hb=>by
  by_cases e:b=p
  ·rw[e];exact ho.lv
  ·exact hb.same λo eb=>kp b o eb e
 have ex:TK O H O H':=⟨λb o e n=>kp b o e λz=>n (by rw[z];exact g2),λb z=>.inl z,al,al'⟩
 have ho':OA K (U O Z) H' p x':=ho.go rfl (λ_ _ e _=>e) λb z=>.inl (a2 b z);have mkE:∀(O2:AS),(∀b,O b->O2 b)->(∀b,O2 b->O b\/H b=none)->(∀b,O2 b->¬ Z b)->(∀b,O2 b->Lv H' b)->OA K (U O2 Z) H' p x'->ER K (st.set i (s.put x')) σ H' O2 Z:=λO2 up dn ds lv ho2=>by
  have nn:∀b,U O2 Z b->U O Z b\/H b=none:=λb z=>z.elim (λy=>(dn b y).elim (λw=>.inl (.inl w)) .inr) λy=>.inl (.inr y);refine⟨by simp[E.len],λj d hj=>?_,λj t d hj ht=>?_,λj k t t' d d' r hj ht hk ht' e1 e2=>?_,ds,λr hr=>hr.elim (lv r) λy=>al' r (E.liv r (.inr y))⟩
  ·by_cases e:i=j
   ·subst e;rw[aY hs]at hj;exact absurd (Option.some.inj hj) (Sl.put_v _ _ _)
   ·rw[aw e]at hj;obtain⟨v,h1,h2⟩:=E.val j d hj;exact⟨v,h1,h2.go kp' nn⟩
  ·by_cases e:i=j
   ·subst e;rw[aY hs]at hj;have:=Option.some.inj hj;subst this;rw[Sl.put_ow]at ht;cases ht;exact⟨p,g1,up p g2,ho2⟩
   ·rw[aw e]at hj;obtain⟨r,h1,h2,h3⟩:=E.own j t d hj ht;have hne:r≠p:=λz=>by subst z;exact e (E.uni i j s t x d r hs hx hj ht g1 h1)
    refine⟨r,h1,up r h2,h3.go ?_ kp' nn⟩;cases er:H r with|none=>exact absurd er h3.live|some o=>exact kp r o er hne
  ·have own':∀(m:Nat)(t:Sl)(d:D),(st.set i (s.put x'))[m]?=some t->t.ow=some d->∃t2 d2,st[m]?=some t2/\t2.ow=some d2:=λm t d hm ht=>by
    by_cases e:i=m
    ·subst e;exact⟨s,x,hs,hx⟩
    ·rw[aw e]at hm;exact⟨t,d,hm,ht⟩
   obtain⟨t1,d1,a1,b1⟩:=own' j t d hj ht;obtain⟨t2,d2,a2,b2⟩:=own' k t' d' hk ht';exact E.uni j k t1 t2 d1 d2 r a1 b1 a2 b2 e1 e2
 have kk:Kp st (st.set i (s.put x')):=by
  refine⟨by simp,λj t hj ht=>?_,λj d hj=>?_⟩
  ·by_cases e:i=j
   ·subst e;exact⟨s.put x',aY hs,by cases s<;>simp[Sl.put,Sl.get]⟩
   ·exact⟨t,by rw[aw e];exact hj,ht⟩
  ·by_cases e:i=j
   ·subst e;rw[hs]at hj;cases hj;exact⟨x',aY hs⟩
   ·exact⟨d,by rw[aw e];exact hj⟩
 have E':=mkE O (λ_ z=>z) (λ_ z=>.inl z) E.dis (λb z=>al' b (E.liv b (.inl z))) ho';refine q u H' O ex kk E' ?_ ?_
 rotate_left
 ·obtain⟨dz,fr⟩:=z;cases fr with
  |false=>trivial
  |true=>obtain⟨r,rfl,hr,_⟩:=hres;exact λq e=>by cases e;exact hr
 obtain⟨dz,fr⟩:=z;cases fr with
 |false=>exact DA.less (show DA K _ H' u dz from hres.1) a2
 |true=>
  obtain⟨r,rfl,hr,hor,hof⟩:=hres;have hf:=E.free hr;have a3:∀b,ins r (U O Z) b->ins r (ins p λb=>U O Z b/\b≠p) b:=λb z=>z.elim .inl λy=>.inr (a2 b y);refine⟨r,rfl,hf.1,hf.2,hor.go rfl (λ_ _ e _=>e) (λb z=>.inl (a3 b z)),mkE (ins r O) (λ_ z=>.inr z) (λb z=>z.elim (λy=>.inr (by rw[y];exact hr)) .inl) (λb z=>z.elim (λy=>by rw[y];exact hf.2) (E.dis b)) (λb z=>z.elim (λy=>by rw[y];exact hor.lv) λy=>al' b (E.liv b (.inl y))) ?_⟩
  exact hof.go rfl (λ_ _ e _=>e) λb z=>.inl (a3 b (z.elim (λy=>y.elim .inl λw=>.inr (.inl w)) λy=>.inr (.inr y)))
def gW(g:D->S8 D->S9 (Rz×D))(i:Nat)(fr:FA):FE:=λst=>(st[i]?).bind λs0=>(s0.ow).bind λ_=>(fr st).bind λx=>(cS x.1 x.2).bind λy=>(y.2[i]?).bind λs=>(s.ow).bind λd=>(g d y.1).bind λz=>some (mk z.1,y.2.set i (s.put z.2))
def Lh(hr:tN K tr fr):dC K (DC (oM K g) (iy (tf i) tr)) (gW g i fr):=by
 intro st σ H O Z Q E r0 Tn h q;refine bB h λs0 f1 h=>?_;refine bB h λx0 f2 h=>?_;refine cx h λrs Tr e1 h=>?_;refine cx h λds TR e2 h=>?_;refine bB h λs e3 h=>?_;refine bB h λx e4 h=>?_;refine cx h λz x' e5 h=>?_;cases h;obtain⟨p,g1,_,_⟩:=E.own i s0 x0 f1 f2;refine⟨.ref p,g1,?_⟩;refine hr st σ H O Z _ E rs Tr e1 λvs H1 O1 x1 k1 E1 rvs=>?_;obtain⟨O2,x2,k2,E2,el⟩:=rvs.esc E1 e2;exact vx E2 e3 e4 g1 el e5 λv H' O' ex kk E' rv w=>q v H' O' ((x1.trans x2).trans ex) ((k1.trans k2).trans kk) E' rv (w.back (x1.trans x2))
end
structure Kq(st:En)(σ:St)(Tn:En)(σ':St):Prop where
 len:Tn.length=st.length
 io:∀(i:Nat) d,st[i]?=some (.io d)->σ'[i]?=σ[i]?/\∃d',Tn[i]?=some (.io d')
def Kq.refl(st:En)(σ:St):Kq st σ st σ:=⟨rfl,λi d h=>⟨rfl,d,h⟩⟩
theorem Kq.trans(h:Kq a x b y)(g:Kq b y c z):Kq a x c z:=by
 refine⟨g.len.trans h.len,λi d e=>?_⟩;obtain⟨e1,d1,e2⟩:=h.io i d e;obtain⟨e3,d2,e4⟩:=g.io i d1 e2;exact⟨e3.trans e1,d2,e4⟩
def Kp.kq(k:Kp st Tn):Kq st σ Tn σ:=⟨k.len,λi d h=>⟨rfl,k.io i d h⟩⟩
abbrev FG:=D->En->Option En
def M6(K:PySem.W.Frag)(g:TG)(fg:FG)(tg:S8 Nat):Prop:=∀(st:En)(σ:St)(H:Hp)(O Z:AS)(x:V)(d:D)(Q:St->Hp->Prop),ER K st σ H O Z->DA K (U O Z) H x d->∀Tn,fg d st=some Tn->
 (∀σ',(∀j,j∉tg->σ'[j]?=σ[j]?/\Tn[j]?=st[j]?)->Kq st σ Tn σ'->ER K Tn σ' H O Z->Q σ' H)->g x σ H Q
def Sl.isIo:Sl->Te|.io _=>true|_=>false
def kL(i:Nat)(s:Sl)(st:En):S9 En:=(st[i]?).bind λt=>if t.isIo=true then none else some (st.set i s)
section
variable {K:PySem.W.Frag}{Y Y' O O' O1 O2 Z:AS}{H H' H1 H2:Hp}{v:V}{d:D}{vs:S8 V}{ds:S8 D}{a p:Td}{st Tn Tr TR:En}{σ σ':St}
def o3(h:kL i s st=some Tn):∃t,st[i]?=some t/\t.isIo=false/\Tn=st.set i s:=by grind [kL]
def tP{s t:Sl}(e:st[i]?=some t)(n:t.isIo=false):Kq st σ (st.set i s) (σ.set i w):=by
 refine⟨by simp,λj d h=>?_⟩
 have q:i≠j:=λz=>by subst z;rw[e]at h;cases h;cases n
 exact⟨aw q,d,by rw[aw q];exact h⟩
def ER.asg(E:ER K st σ H O Z)(e:st[i]?=some t)(h:DA K (U O Z) H v d):ER K (st.set i (.v d)) (σ.set i (some v)) H O Z:=by
 have hi:i<σ.length:=by rw[<-E.len];exact(Wd.mp e).1
 have sg:(σ.set i (some v))[i]?=some (some v):=by rw[A5,Af rfl,Af hi]
 have ne:∀(j:Nat) s x,(st.set i (.v d))[j]?=some s->s.ow=some x->i≠j/\st[j]?=some s:=λj s x h1 h2=>by
  by_cases q:i=j
  ·subst q;rw[aY e]at h1;cases h1;cases h2
  ·exact⟨q,by rw[aw q]at h1;exact h1⟩
 refine⟨by simp[E.len],λj x hj=>?_,λj s x h1 h2=>?_,λj k s s' x x' r h1 h2 h3 h4 h5 h6=>?_,E.dis,E.liv⟩
 ·by_cases q:i=j
  ·subst q;rw[aY e]at hj;cases hj;exact⟨v,sg,h⟩
  ·rw[aw q]at hj;obtain⟨w,g1,g2⟩:=E.val j x hj;exact⟨w,by rw[aw q];exact g1,g2⟩
 ·obtain⟨q,h1⟩:=ne j s x h1 h2;obtain⟨r,g1,g2⟩:=E.own j s x h1 h2;exact⟨r,by rw[aw q];exact g1,g2⟩
 ·obtain⟨q1,h1⟩:=ne j s x h1 h2;obtain⟨q2,h3⟩:=ne k s' x' h3 h4;rw[aw q1]at h5;rw[aw q2]at h6;exact E.uni j k s s' x x' r h1 h2 h3 h4 h5 h6
def ER.asgF(E0:ER K st σ H O Z)(E:ER K st σ H (ins p O) Z)(np:¬ O p)(e:st[i]?=some t)(h:OA K (ins p (U O Z)) H p x):ER K (st.set i (.o x)) (σ.set i (some (.ref p))) H (ins p O) Z:=by
 have hi:i<σ.length:=by rw[<-E.len];exact(Wd.mp e).1
 have sg:(σ.set i (some (V.ref p)))[i]?=some (some (.ref p)):=by rw[A5,Af rfl,Af hi]
 have fresh:∀(j:Nat) s y,st[j]?=some s->s.ow=some y->σ[j]?≠some (some (.ref p)):=λj s y h1 h2 z=>by
  obtain⟨r,g1,g2,_⟩:=E0.own j s y h1 h2;rw[z]at g1;cases g1;exact np g2
 refine⟨by simp[E.len],λj y hj=>?_,λj s y h1 h2=>?_,λj k s s' y y' r h1 h2 h3 h4 h5 h6=>?_,E.dis,E.liv⟩
 ·by_cases q:i=j
  ·subst q;rw[aY e]at hj;cases hj
  ·rw[aw q]at hj;obtain⟨w,g1,g2⟩:=E.val j y hj;exact⟨w,by rw[aw q];exact g1,g2⟩
 ·by_cases q:i=j
  ·subst q;rw[aY e]at h1;cases h1;cases h2;refine⟨p,sg,.inl rfl,h.go rfl (λ_ _ e _=>e) λb z=>.inl ?_⟩;rcases z with(z|z)|z
   ·exact .inl z
   ·exact .inr (.inl z)
   ·exact .inr (.inr z)
  ·rw[aw q]at h1;obtain⟨r,g1,g2⟩:=E.own j s y h1 h2;exact⟨r,by rw[aw q];exact g1,g2⟩
 ·by_cases q1:i=j
  ·by_cases q2:i=k
   ·exact q1.symm.trans q2
   ·subst q1;rw[aw q2]at h3 h6;rw[sg]at h5;cases h5;exact absurd h6 (fresh k s' y' h3 h4)
  ·by_cases q2:i=k
   ·subst q2;rw[aw q1]at h1 h5;rw[sg]at h6;cases h6;exact absurd h5 (fresh j s y h1 h2)
   ·rw[aw q1]at h1 h5;rw[aw q2]at h3 h6;exact E.uni j k s s' y y' r h1 h2 h3 h4 h5 h6
def gN(i:Nat):FG:=λd st=>kL i (.v d) st
def bH(i:Nat):M6 K (pJ i) (gN i) [i]:=by
 intro st σ H O Z x d Q E da Tn h q;obtain⟨t,e,n,rfl⟩:=o3 h;refine q (σ.set i (some x)) (λj hj=>?_) (tP e n) (E.asg e da);have q:i≠j:=λz=>hj (by rw[z];simp)
 exact⟨aw q,aw q⟩
def IW(K:PySem.W.Frag)(g:O9)(fg:S8 D->En->S9 En)(tg:S8 Nat):Prop:=∀(st:En)(σ:St)(H:Hp)(O Z:AS)(xs:S8 V)(ds:S8 D)(Q:St->Hp->Prop),ER K st σ H O Z->El K (U O Z) H xs ds->∀Tn,fg ds st=some Tn->
 (∀σ',(∀j,j∉tg->σ'[j]?=σ[j]?/\Tn[j]?=st[j]?)->Kq st σ Tn σ'->ER K Tn σ' H O Z->Q σ' H)->g xs σ H Q
def xh:S8 D->En->S9 En:=λds st=>match ds with|[]=>some st|_=>none
theorem kj:IW K Py xh []:=by
 intro st σ H O Z xs ds Q E el Tn h q;cases ds with
 |nil=>
  cases h;exact⟨el.unnil,q σ (λj _=>⟨rfl,rfl⟩) (Kq.refl _ _) E⟩
 |cons d ds=>cases h
def jB(fg:FG)(fgs:S8 D->En->S9 En):S8 D->En->S9 En:=λds st=>match ds with|d::r=>(fg d st).bind λTr=>fgs r Tr|[]=>none
theorem bK(h1:M6 K g fg t1)(h2:IW K gs fgs t2):IW K (KR g gs) (jB fg fgs) (t1++t2):=by
 intro st σ H O Z xs ds Q E el Tn h q;cases ds with
 |nil=>cases h
 |cons d ds=>
  refine bB h λTr e1 h=>?_;obtain⟨v,r,rfl,da,el⟩:=el.uncons;refine⟨v,r,rfl,h1 st σ H O Z v d _ E da Tr e1 λσ1 k1 q1 E1=>?_⟩;refine h2 Tr σ1 H O Z r ds _ E1 el Tn h λσ2 k2 q2 E2=>q σ2 (λj hj=>?_) (q1.trans q2) E2;have a:=k1 j λz=>hj (BW _ z);have b:=k2 j λz=>hj (Xg _ z);exact⟨b.1.trans a.1,b.2.trans a.2⟩
def gT(n:Nat)(fgs:S8 D->En->S9 En):FG:=λd st=>match d with|.tup ds=>if ds.length=n then fgs ds st else none|_=>none
theorem nL(h:IW K gs fgs t):M6 K (Mm K n gs) (gT n fgs) t:=by
 intro st σ H O Z x d Q E da Tn e q;cases d with
 |tup ds=>
  obtain⟨hn,e⟩:=aG e;cases da with|tup h1 h2 h3=>exact⟨_,_,rfl,h1.sq,h2.trans hn,h st σ H O Z _ ds Q E ⟨h2,h3⟩ Tn e q⟩
 |_=>cases e
abbrev FI:=En->Option (List D×En)
def PX(K:PySem.W.Frag)(Z:AS)(J:It)(items:S8 D)(H:Hp)(O:AS):Prop:=∀H' O',TK O H O' H'->(∀p,U O' Z p->Lv H' p)->(∀i,items.length<=i->J.stop i H')/\∀(i:Nat) d,items[i]?=some d->J.go i H'/\∀x H'',J.yld i H' x H''->Ts H' H''/\DA K (U O' Z) H'' x d
def UD(K:PySem.W.Frag)(wi:TI)(fi:FI):Prop:=∀(st:En)(σ:St)(H:Hp)(O Z:AS)(R:It->Hp->Prop),ER K st σ H O Z->∀items Tn,fi st=some (items,Tn)->
 (∀J H' O',TK O H O' H'->Kp st Tn->ER K Tn σ H' O' Z->PX K Z J items H' O'->R J H')->wi σ H R
def esc(r:Rs)(st:En):S9 (D×En):=(cont st r).bind λd=>(Fp st r).bind λTr=>some (d,Tr)
theorem TU.esc(h:TU K Z st σ H O v r)(E:ER K st σ H O Z)(e:esc r st=some (d,Tn)):∃O',TK O H O' H/\Kp st Tn/\ER K Tn σ H O' Z/\DA K (U O' Z) H v d:=by
 refine bB e λx e1 e=>?_;refine bB e λs1 e2 e=>?_;cases e;exact h.frz E e2 e1
def D.its:D->S9 (S8 D)|.lst ds=>some ds|.fl ds=>some ds|_=>none
def D.itt:D->S9 (S8 D)|.tup ds=>some ds|_=>none
def Pg(fe:FE):FI:=λst=>(fe st).bind λx=>(esc x.1 x.2).bind λy=>(y.1.its).bind λds=>some (ds,y.2)
def IX(h:dC K te fe):UD K (yo K te) (Pg fe):=by
 intro st σ H O Z R E items Tn e q;refine cx e λr Tr e1 e=>?_;refine cx e λd TR e2 e=>?_;refine bB e λds e3 e=>?_;cases e;refine h st σ H O Z _ E r Tr e1 λv H1 O1 x1 k1 E1 rv w1=>?_;obtain⟨O2,x2,k2,E2,da⟩:=rv.esc E1 e2;have fin:∀{a:Td}{vs:S8 V},El K (U O2 Z) H1 vs items->(∀H' O',TK O2 H1 O' H'->gR K H' a vs)->yo K (λ_ H Q=>Q (.ref a) H) σ H1 R:=λ{a vs} el sq=>by
  refine⟨a,rfl,⟨vs,sq H1 O2 (TK.refl _ _)⟩,q _ H1 O2 (x1.trans x2) (k1.trans k2) E2 λH' O' ex _=>?_⟩;have g1:=sq H' O' ex;have el':=el.ext ex;have hl:=el.1;refine⟨λi hi=>⟨vs,g1,by lia⟩,λi d hd=>?_⟩
  obtain⟨v,hv,hdv⟩:=el'.at hd;refine⟨⟨vs,v,g1,hv⟩,λx H'' hx=>?_⟩;obtain⟨rfl,hx⟩:=hx;have:=hx vs g1;rw[hv]at this;cases this;exact⟨Ts.refl _,hdv⟩
 cases d with
 |lst ds'=>
  cases e3;cases da with|@lst a vs _ h0 h1 h2 h3=>exact fin ⟨h2,h3⟩ λH' O' ex=>.inl (.inl (ex.kp a _ h1 λz=>h0 (.inl z)))
 |fl ds'=>
  cases e3;cases da with
  |@fl a vs _ h1 h2 h3=>
   refine fin ⟨h2,h3⟩ λH' O' ex=>?_;rcases h1 with⟨h1,hn⟩|h1
   ·exact .inl (Rd.keep h1 λo e=>ex.kp a o e λz=>hn (.inl z))
   ·exact h1 H'
 |_=>cases e3
def RQ(fe:FE):FI:=λst=>(fe st).bind λx=>(esc x.1 x.2).bind λy=>(y.1.itt).bind λds=>some (ds,y.2)
theorem M7(h:dC K te fe):UD K (Mo K te) (RQ fe):=by
 intro st σ H O Z R E items Tn e q;refine cx e λr Tr e1 e=>?_;refine cx e λd TR e2 e=>?_;refine bB e λds e3 e=>?_;cases e;refine h st σ H O Z _ E r Tr e1 λv H1 O1 x1 k1 E1 rv w1=>?_;obtain⟨O2,x2,k2,E2,da⟩:=rv.esc E1 e2;cases d with
 |tup ds'=>
  cases e3;cases da with
  |@tup a vs _ h1 h2 h3=>
   refine⟨a,rfl,⟨vs,h1.sq⟩,q _ H1 O2 (x1.trans x2) (k1.trans k2) E2 λH' O' ex _=>?_⟩;have da':=(DA.tup h1 h2 h3).ext ex;cases da' with
   |@tup _ ws _ g1 g2 g3=>
    refine⟨λi hi=>⟨ws,g1.sq,by lia⟩,λi d hd=>?_⟩
    obtain⟨v,hv,hdv⟩:=El.at ⟨g2,g3⟩ hd;refine⟨⟨ws,v,g1.sq,hv⟩,λx H'' hx=>?_⟩;obtain⟨rfl,hx⟩:=hx;have:=hx ws g1.sq;rw[hv]at this;cases this;exact⟨Ts.refl _,hdv⟩
 |_=>cases e3
def rng(lo:Int)(n:Nat):S8 D:=(List.range n).map λ(i:Nat)=>D.int (lo+(i:Int))
def Ft(h:(rng lo n)[i]?=some d):i<n/\d=.int (lo+i):=by grind [rng]
def fz(lo:Int)(n:Nat):(rng lo n).length=n:=by simp[rng]
def vy:PX K Z (PB lo n) (rng lo n) H O:=λH' O' ex _=>by
 refine⟨λi hi=>by rw[fz]at hi;exact hi,λi d hd=>?_⟩
 obtain⟨h1,rfl⟩:=Ft hd;refine⟨h1,λx H'' hx=>?_⟩;obtain⟨rfl,rfl⟩:=hx;exact⟨Ts.refl _,.int _⟩
def xi:S8 D->S9 Int|[.int j]=>some j|_=>none
def M8:S8 D->S9 (Int×Int)|[.int i,.int j]=>some (i,j)|_=>none
def mM(fa:FA):FI:=λst=>(fa st).bind λx=>(cj x.2 x.1).bind λds=>(xi ds).bind λj=>if -(2 ^ 62)<=j/\j<2 ^ 62 then some (rng 0 j.toNat,x.2) else none
def yI(h:tN K ta fa):UD K (KS ta) (mM fa):=by
 intro st σ H O Z R E items Tn e q;refine cx e λrs Tr e1 e=>?_;refine bB e λds e2 e=>?_;refine bB e λj e3 e=>?_;obtain⟨hc,e⟩:=aG e;cases e;refine h st σ H O Z _ E rs _ e1 λvs H1 O1 x1 k1 E1 rvs=>?_;have bs:=rvs.bas E1 e2;have ed:ds=[.int j]:=by
  unfold xi at e3;split at e3
  ·cases e3;rfl
  ·cases e3
 subst ed;cases bs with
 |cons b1 b2=>
  cases b2;obtain rfl:=(show _=V.int j from b1);exact⟨j,rfl,hc.1,hc.2,q _ H1 O1 x1 k1 E1 vy⟩
def lB(fa:FA):FI:=λst=>(fa st).bind λx=>(cj x.2 x.1).bind λds=>(M8 ds).bind λw=>if -(2 ^ 62)<=w.1/\w.1<2 ^ 62/\-(2 ^ 62)<=w.2/\w.2<2 ^ 62 then some (rng w.1 (w.2-w.1).toNat,x.2) else none
def yJ(h:tN K ta fa):UD K (KU ta) (lB fa):=by
 intro st σ H O Z R E items Tn e q;refine cx e λrs Tr e1 e=>?_;refine bB e λds e2 e=>?_;refine cx e λi j e3 e=>?_;obtain⟨hc,e⟩:=aG e;cases e;refine h st σ H O Z _ E rs _ e1 λvs H1 O1 x1 k1 E1 rvs=>?_;have bs:=rvs.bas E1 e2;have ed:ds=[.int i,.int j]:=by
  unfold M8 at e3;split at e3
  ·cases e3;rfl
  ·cases e3
 subst ed;cases bs with
 |cons b1 b2=>
  cases b2 with
  |cons b2 b3=>
   cases b3;obtain rfl:=(show _=V.int i from b1);obtain rfl:=(show _=V.int j from b2);exact⟨i,j,rfl,hc,q _ H1 O1 x1 k1 E1 vy⟩
def vz(x:Str):S8 D:=x.cps.toList.map λc=>D.str ⟨#[c]⟩
def SQ(fe:FE):FI:=λst=>(fe st).bind λx=>match cont x.2 x.1 with|some (.str z)=>some (vz z,x.2)|_=>none
def M9(h:dC K te fe):UD K (MQ te) (SQ fe):=by
 intro st σ H O Z R E items Tn e q;refine cx e λr Tr e1 e=>?_;refine h st σ H O Z _ E r Tr e1 λv H1 O1 x1 k1 E1 rv w1=>?_;dsimp only at e;split at e
 ·rename_i z ez
  cases e;have ev:v=.str z:=rv.ba E1 ez;refine⟨z,ev,q _ H1 O1 x1 k1 E1 λH' O' ex _=>⟨λi hi=>?_,λi d hd=>?_⟩⟩
  ·show z.cps.size<=i;simpa[vz]using hi
  ·unfold vz at hd;rw[Xb]at hd;obtain⟨c,hc,rfl⟩:=Xc.mp hd;have hc':z.cps[i]?=some c:=by simpa using hc
   refine⟨(Xm.mp hc').1,λx H'' hx=>?_⟩;obtain⟨rfl,c',h1,rfl⟩:=hx;rw[hc']at h1;cases h1;exact⟨Ts.refl _,.str _⟩
 ·cases e
inductive Ot where
 | nx (st:En)|rt (r:Rs) (st:En)|bk (st:En)|ct (st:En)
abbrev FS:=En->Option Ot
def Out(K:PySem.W.Frag)(Z O:AS)(H:Hp)(st:En)(σ:St)(Dn:Ends):Ot->Prop|.nx Tn=>∀σ' H' O',TK O H O' H'->Kq st σ Tn σ'->ER K Tn σ' H' O' Z->Dn.nx σ' H'|.rt r Tn=>∀v σ' H' O',TK O H O' H'->Kq st σ Tn σ'->ER K Tn σ' H' O' Z->TU K Z Tn σ' H' O' v r->UT H v r->Dn.rt v H'|.bk Tn=>∀σ' H' O',TK O H O' H'->Kq st σ Tn σ'->ER K Tn σ' H' O' Z->Dn.bk σ' H'|.ct Tn=>∀σ' H' O',TK O H O' H'->Kq st σ Tn σ'->ER K Tn σ' H' O' Z->Dn.ct σ' H'
def r6(K:PySem.W.Frag)(ts:TS)(F:FS):Prop:=∀(st:En)(σ:St)(H:Hp)(O Z:AS)(Dn:Ends),ER K st σ H O Z->∀o,F st=some o->Out K Z O H st σ Dn o->ts Dn σ H
theorem Out.trans(h:Out K Z O H st σ Dn o)(x:TK O H O1 H1)(k:Kq st σ Tr σ'):Out K Z O1 H1 Tr σ' Dn o:=by
 cases o with|nx s=>exact λσ2 H2 O2 x2 k2 E2=>h σ2 H2 O2 (x.trans x2) (k.trans k2) E2|bk s=>exact λσ2 H2 O2 x2 k2 E2=>h σ2 H2 O2 (x.trans x2) (k.trans k2) E2|ct s=>exact λσ2 H2 O2 x2 k2 E2=>h σ2 H2 O2 (x.trans x2) (k.trans k2) E2|rt r s=>exact λv σ2 H2 O2 x2 k2 E2 rv w=>h v σ2 H2 O2 (x.trans x2) (k.trans k2) E2 rv (w.back x)
def bN:FS:=λst=>some (.nx st)
def IY:r6 K KO bN:=by
 intro st σ H O Z Dn E o e q;cases e;exact q σ H O (TK.refl _ _) (Kq.refl _ _) E
def ay(F G:FS):FS:=λst=>(F st).bind λo=>match o with|.nx s=>G s|o=>some o
theorem Fu(h1:r6 K t F)(h2:r6 K u G):r6 K (Pu t u) (ay F G):=by
 intro st σ H O Z Dn E o e q;refine bB e λo1 e1 e=>?_;refine h1 st σ H O Z _ E o1 e1 ?_;cases o1 with|nx s=>exact λσ1 H1 O1 x1 k1 E1=>h2 s σ1 H1 O1 Z Dn E1 o e (q.trans x1 k1)|bk s=>cases e;exact q|ct s=>cases e;exact q|rt r s=>cases e;exact q
def eS(fe:FE):FS:=λst=>(fe st).bind λx=>some (.nx x.2)
def yK(h:dC K te fe):r6 K (KQ te) (eS fe):=by
 intro st σ H O Z Dn E o e q;refine cx e λr Tr e1 e=>?_;cases e;exact h st σ H O Z _ E r Tr e1 λv H1 O1 x1 k1 E1 rv w1=>q σ H1 O1 x1 k1.kq E1
def bj(fe:FE):FS:=λst=>(fe st).bind λx=>some (.rt x.1 x.2)
def Fv(h:dC K te fe):r6 K (Pv te) (bj fe):=by
 intro st σ H O Z Dn E o e q;refine cx e λr Tr e1 e=>?_;cases e;exact h st σ H O Z _ E r Tr e1 λv H1 O1 x1 k1 E1 rv w1=>q v σ H1 O1 x1 k1.kq E1 rv w1
def hZ(f:FT)(F G:FS):FS:=λst=>(f st).bind λx=>if x.1=true then F x.2 else G x.2
theorem Li(hc:vv K c f)(h1:r6 K t F)(h2:r6 K u G):r6 K (Pw c t u) (hZ f F G):=by
 intro st σ H O Z Dn E o e q;refine cx e λb Tr e1 e=>?_;refine hc st σ H O Z _ E b Tr e1 λH1 O1 x1 k1 E1=>?_;cases b with
 |true=>
  rw[Af rfl]at e ⊢;exact h1 Tr σ H1 O1 Z Dn E1 o e (q.trans x1 k1.kq)
 |false=>
  simp only[Xe,if_false]at e ⊢;exact h2 Tr σ H1 O1 Z Dn E1 o e (q.trans x1 k1.kq)
def aU(fe:FE)(i:Nat):FS:=λst=>(fe st).bind λx=>match x.1 with|.d y=>(kL i (.v y) x.2).bind λs=>some (.nx s)|.f y=>(kL i (.o y) x.2).bind λs=>some (.nx s)|.s j=>(esc (.s j) x.2).bind λy=>(kL i (.v y.1) y.2).bind λs=>some (.nx s)
theorem Fw(h:dC K te fe):r6 K (wT te (pJ i)) (aU fe i):=by
 intro st σ H O Z Dn E o e q;refine cx e λr Tr e1 e=>?_;refine h st σ H O Z _ E r Tr e1 λv H1 O1 x1 k1 E1 rv w1=>?_;show Dn.nx (σ.set i (some v)) H1;cases r with
 |d y=>
  refine bB e λs e2 e=>?_;cases e;obtain⟨t,f1,f2,rfl⟩:=o3 e2;exact q _ H1 O1 x1 (k1.kq.trans (tP f1 f2)) (E1.asg f1 rv)
 |f y=>
  refine bB e λs e2 e=>?_;cases e;obtain⟨t,f1,f2,rfl⟩:=o3 e2;obtain⟨p,rfl,np,nz,ho,E2⟩:=rv;have hp:H p=none:=w1 p rfl;exact q _ H1 (ins p O1) ⟨x1.kp,λb z=>z.elim (λy=>by rw[y];exact .inr hp) (x1.nw b),x1.al,x1.lv⟩ (k1.kq.trans (tP f1 f2)) (E1.asgF E2 np f1 ho)
 |s j=>
  refine cx e λd TR e2 e=>?_;refine bB e λs e3 e=>?_;cases e;obtain⟨O2,x2,k2,E2,da⟩:=rv.esc E1 e2;obtain⟨t,f1,f2,rfl⟩:=o3 e3;exact q _ H1 O2 (x1.trans x2) ((k1.kq.trans k2.kq).trans (tP f1 f2)) (E2.asg f1 da)
end
section
variable {K:PySem.W.Frag}{Y Y' O O' O1 O2 Z:AS}{H H' H1 H2:Hp}{v:V}{d:D}{vs:S8 V}{ds:S8 D}{a p:Td}{st Tn Tr TR:En}{σ σ':St}
def Fx(fe:FE)(fg:FG):FS:=λst=>(fe st).bind λx=>(esc x.1 x.2).bind λy=>(fg y.1 y.2).bind λs=>some (.nx s)
def Fy(h:dC K te fe)(hg:M6 K g fg tg):r6 K (wT te g) (Fx fe fg):=by
 intro st σ H O Z Dn E o e q;refine cx e λr Tr e1 e=>?_;refine cx e λd TR e2 e=>?_;refine bB e λs e3 e=>?_;cases e;refine h st σ H O Z _ E r Tr e1 λv H1 O1 x1 k1 E1 rv w1=>?_;obtain⟨O2,x2,k2,E2,da⟩:=rv.esc E1 e2;exact hg TR σ H1 O2 Z v d _ E2 da s e3 λσ' _ k3 E3=>q σ' H1 O2 (x1.trans x2) ((k1.kq.trans k2.kq).trans k3) E3
def dZ(fg:FG)(B:FS):S8 D->FS
 |[],st=>some (.nx st)
 | x::r,st=>(fg x st).bind λs1=>(B s1).bind λo=>match o with|.nx s2=>dZ fg B r s2|.ct s2=>dZ fg B r s2|.bk s2=>some (.nx s2)|.rt y s2=>some (.rt y s2)
def cL(fi:FI)(fg:FG)(B:FS):FS:=λst=>(fi st).bind λx=>dZ fg B x.1 x.2
def tQ(hi:UD K wi fi)(hg:M6 K g fg tg)(hb:r6 K tb B):r6 K (PC wi g tb) (cL fi fg B):=by
 intro st σ H O Z Dn E o e q;refine cx e λitems Tr e1 e=>?_;refine hi st σ H O Z _ E items Tr e1 λJ H1 O1 x1 k1 E1 it=>?_;have q1:=q.trans x1 (k1.kq (σ:=σ));refine⟨λi m σ' H'=>m=items.length-i/\i<=items.length/\∃s O',TK O1 H1 O' H'/\Kq Tr σ s σ'/\ER K s σ' H' O' Z/\dZ fg B (items.drop i) s=some o,⟨items.length,by simp,Yi _,Tr,O1,TK.refl _ _,Kq.refl _ _,E1,e⟩,?_⟩
 rintro i m σ' H' ⟨rfl,hle,s,O',x2,k2,E2,e2⟩;obtain⟨stop,go⟩:=it H' O' x2 E2.liv;by_cases hlt:i<items.length
 ·right;have hd:items.drop i=items[i]::items.drop (i+1):=Qm hlt;rw[hd]at e2;refine bB e2 λs1 e3 e2=>?_;refine bB e2 λo1 e4 e2=>?_;obtain⟨g1,g2⟩:=go i _ (Ya hlt);refine⟨g1,λσ3 H3=>∃s O3,TK O1 H1 O3 H3/\Kq Tr σ s σ3/\ER K s σ3 H3 O3 Z/\dZ fg B (items.drop (i+1)) s=some o,λσ3 H3 ⟨s3,O3,x3,k3,E3,e3'⟩=>⟨items.length-(i+1),by lia,rfl,hlt,s3,O3,x3,k3,E3,e3'⟩,λx H'' hy=>?_⟩
  obtain⟨sm,da⟩:=g2 x H'' hy;have xm:TK O' H' O' H'':=Ts.ext sm;refine hg s σ' H'' O' Z x _ _ (E2.same sm) da s1 e3 λσ4 _ k4 E4=>?_;refine hb s1 σ4 H'' O' Z _ E4 o1 e4 ?_;have xx:=x2.trans xm;cases o1 with
  |nx s2=>exact λσ5 H5 O5 x5 k5 E5=>⟨s2,O5,xx.trans x5,(k2.trans k4).trans k5,E5,e2⟩
  |ct s2=>exact λσ5 H5 O5 x5 k5 E5=>⟨s2,O5,xx.trans x5,(k2.trans k4).trans k5,E5,e2⟩
  |bk s2=>
   cases e2;exact λσ5 H5 O5 x5 k5 E5=>q1 σ5 H5 O5 (xx.trans x5) ((k2.trans k4).trans k5) E5
  |rt y s2=>
   cases e2;exact λv σ5 H5 O5 x5 k5 E5 rv w=>q1 v σ5 H5 O5 (xx.trans x5) ((k2.trans k4).trans k5) E5 rv (w.back xx)
 ·left;have hn:items.drop i=[]:=Df (by lia)
  rw[hn]at e2;cases e2;exact⟨stop i (by lia),q1 σ' H' O' x2 k2 E2⟩
def yL(f:FT)(B:FS):Nat->FS
 |0,_=>none
 | n+1,st=>(f st).bind λx=>if x.1=true then(B x.2).bind λo=>match o with|.nx s2=>yL f B n s2|.ct s2=>yL f B n s2|.bk s2=>some (.nx s2)|.rt y s2=>some (.rt y s2)
  else some (.nx x.2)
theorem vA(n:Nat)(hc:vv K c f)(hb:r6 K tb B):r6 K (EJ c tb) (yL f B n):=by
 intro st σ H O Z Dn E o e q;refine⟨λm σ' H'=>∃s O',TK O H O' H'/\Kq st σ s σ'/\ER K s σ' H' O' Z/\yL f B m s=some o,⟨n,st,O,TK.refl _ _,Kq.refl _ _,E,e⟩,?_⟩;rintro m σ' H' ⟨s,O',x2,k2,E2,e2⟩;cases m with
 |zero=>cases e2
 |succ m=>
  refine cx e2 λb s1 e3 e2=>?_;refine hc s σ' H' O' Z _ E2 b s1 e3 λH3 O3 x3 k3 E3=>?_;have xx:=x2.trans x3;have kk:=k2.trans (k3.kq (σ:=σ'));cases b with
  |false=>
   simp only[Xe,if_false]at e2 ⊢;cases e2;exact q σ' H3 O3 xx kk E3
  |true=>
   rw[Af rfl]at e2 ⊢;refine bB e2 λo1 e4 e2=>?_;refine⟨λσ5 H5=>∃s O5,TK O H O5 H5/\Kq st σ s σ5/\ER K s σ5 H5 O5 Z/\yL f B m s=some o,λσ5 H5 h=>⟨m,CF _,h⟩,?_⟩;refine hb s1 σ' H3 O3 Z _ E3 o1 e4 ?_;cases o1 with
   |nx s2=>exact λσ5 H5 O5 x5 k5 E5=>⟨s2,O5,xx.trans x5,kk.trans k5,E5,e2⟩
   |ct s2=>exact λσ5 H5 O5 x5 k5 E5=>⟨s2,O5,xx.trans x5,kk.trans k5,E5,e2⟩
   |bk s2=>
    cases e2;exact λσ5 H5 O5 x5 k5 E5=>q σ5 H5 O5 (xx.trans x5) (kk.trans k5) E5
   |rt y s2=>
    cases e2;exact λv σ5 H5 O5 x5 k5 E5 rv w=>q v σ5 H5 O5 (xx.trans x5) (kk.trans k5) E5 rv (w.back xx)
structure U7(K:PySem.W.Frag)(T:String)(r:V->List V->Hp->VK->Prop)(ok:D->Bool)(m:D->List D->Option (D×D)):Prop where
 ty:∀(Y:AS)(H:Hp)(p:Addr)(x:D),OA K Y H p x->ok x=true->Pd K T (.ref p) H
 run:∀(Y:AS)(H:Hp)(p:Addr)(x:D)(vs:List V)(ds:List D)(y x':D)(Q:VK),Y p->OA K Y H p x->El K Y H vs ds->m x ds=some (y,x')->
  (∀v o,DA K Y (upd H p o) v y->OA K Y (upd H p o) p x'->Q v (upd H p o))->r (.ref p) vs H Q
def fM(ok:D->Te)(m:D->S8 D->S9 (D×D))(i:Nat)(fa:FA):FE:=λst=>(st[i]?).bind λs0=>(s0.ow).bind λx0=>if ok x0=true then(fa st).bind λx=>(cS x.1 x.2).bind λy=>(y.2[i]?).bind λs=>(s.ow).bind λd=>(m d y.1).bind λz=>some (.d z.1,y.2.set i (s.put z.2)) else none
def PY(hm:U7 K T r ok m)(ha:tN K ta fa):dC K (Sb K T r (tf i) ta) (fM ok m i fa):=by
 intro st σ H O Z Q E r0 Tn h q;refine bB h λs0 f1 h=>?_;refine bB h λx0 f2 h=>?_;obtain⟨hok,h⟩:=aG h;refine cx h λrs Tr e1 h=>?_;refine cx h λds TR e2 h=>?_;refine bB h λs e3 h=>?_;refine bB h λx e4 h=>?_;refine cx h λy x' e5 h=>?_;cases h;obtain⟨p,g1,g2,g3⟩:=E.own i s0 x0 f1 f2;refine⟨.ref p,g1,hm.ty _ _ _ _ g3 hok,?_⟩;refine ha st σ H O Z _ E rs Tr e1 λvs H1 O1 x1 k1 E1 rvs=>?_;obtain⟨O2,x2,k2,E2,el⟩:=rvs.esc E1 e2;obtain⟨p',j1,j2,j3⟩:=E2.own i s x e3 e4;have ep:p'=p:=by rw[g1]at j1;cases j1;rfl
 subst ep;refine hm.run (U O2 Z) H1 p' x vs ds y x' _ (.inl j2) j3 el e5 λv o da ho=>?_;obtain⟨E3,x3,k3⟩:=E2.write e3 e4 g1 ho;exact q v _ O2 ((x1.trans x2).trans x3) ((k1.trans k2).trans k3) E3 da True.intro
def Ph(ok:D->Te)(m:D->S8 D->S9 (D×D))(i:Nat):FE:=λst=>(st[i]?).bind λs=>(s.ow).bind λx=>if ok x=true then(m x []).bind λz=>some (.d z.1,st.set i (s.put z.2)) else none
def Lj(hm:U7 K T r ok m):dC K (PP K T r (tf i)) (Ph ok m i):=by
 intro st σ H O Z Q E r0 Tn h q;refine bB h λs e3 h=>?_;refine bB h λx e4 h=>?_;obtain⟨hok,h⟩:=aG h;refine cx h λy x' e5 h=>?_;cases h;obtain⟨p,g1,g2,g3⟩:=E.own i s x e3 e4;refine⟨.ref p,g1,hm.ty _ _ _ _ g3 hok,?_⟩;refine hm.run (U O Z) H p x [] [] y x' _ (.inl g2) g3 El.nil e5 λv o da ho=>?_;obtain⟨E3,x3,k3⟩:=E.write e3 e4 g1 ho;exact q v _ O x3 k3 E3 da True.intro
def Fz(K:PySem.W.Frag)(t:IB)(m:D->D->D->S9 D):Prop:=∀(Y:AS)(H:Hp)(p:Td)(x:D)(k v:V)(dk dv x':D)(Q:Hp->Prop),Y p->OA K Y H p x->BA K Y H k dk->DA K Y H v dv->m x dk dv=some x'->
 (∀o,OA K Y (upd H p o) p x'->Q (upd H p o))->t (.ref p) k v H Q
def gS(m:D->D->D->S9 D)(fe:FE)(i:Nat)(fi:FE):FS:=λst=>(fe st).bind λx=>(esc x.1 x.2).bind λy=>(y.2[i]?).bind λs0=>(s0.ow).bind λ_=>(fi y.2).bind λw=>(cont w.2 w.1).bind λdk=>(w.2[i]?).bind λs=>(s.ow).bind λz=>(m z dk y.1).bind λz'=>some (.nx (w.2.set i (s.put z')))
def FB(hm:Fz K t m)(he:dC K te fe)(hi:dC K ti fi):r6 K (wT te (Pz (tf i) ti t)) (gS m fe i fi):=by
 intro st σ H O Z Dn E o e q;refine cx e λr Tr e1 e=>?_;refine cx e λdv TR e2 e=>?_;refine bB e λs0 e3 e=>?_;refine bB e λx0 e4 e=>?_;refine cx e λrk Us e5 e=>?_;refine bB e λdk e6 e=>?_;refine bB e λs e7 e=>?_;refine bB e λx e8 e=>?_;refine bB e λx' e9 e=>?_;cases e;refine he st σ H O Z _ E r Tr e1 λv H1 O1 x1 k1 E1 rv w1=>?_;obtain⟨O2,x2,k2,E2,da⟩:=rv.esc E1 e2;obtain⟨p,g1,g2,g3⟩:=E2.own i s0 x0 e3 e4;refine⟨.ref p,g1,?_⟩;refine hi TR σ H1 O2 Z _ E2 rk Us e5 λk H3 O3 x3 k3 E3 rk' w3=>?_;obtain⟨p',j1,j2,j3⟩:=E3.own i s x e7 e8;have ep:p'=p:=by rw[g1]at j1;cases j1;rfl
 subst ep;refine hm (U O3 Z) H3 p' x k v dk dv x' _ (.inl j2) j3 (rk'.ba E3 e6) (da.ext x3) e9 λo ho=>?_;obtain⟨E4,x4,k4⟩:=E3.write e7 e8 g1 ho;exact q σ _ O3 (((x1.trans x2).trans x3).trans x4) (((k1.trans k2).trans k3).trans k4).kq E4
def kM(k:Nat)(Tl:S8 Nat)(st:En):En:=List.replicate k Sl.e++Tl.map λi=>(st[i]?).getD .e
def re(k:Nat)(s:En):En:=List.replicate k Sl.e++s.drop k
def wb:S8 Nat->En->En->En|i::r,s::sb,st=>wb r sb (st.set i s)|_,_,st=>st
def cF(fg:FG)(fc:FT)(fe:FE)(k:Nat):S8 D->En->S9 (S8 D×En)
 |[],sb=>some ([],sb)
 | x::r,sb=>(fg x sb).bind λs1=>(fc s1).bind λc=>if c.1=true then(fe c.2).bind λy=>(esc y.1 y.2).bind λw=>(cF fg fc fe k r (re k w.2)).bind λz=>some (w.1::z.1,z.2)
  else cF fg fc fe k r (re k c.2)
def tR(Tl:S8 Nat)(n:Nat):Te:=decide Tl.Nodup&&Tl.all λi=>decide (i<n)
def cG(k:Nat)(Tl:S8 Nat)(fi:FI)(fg:FG)(fc:FT)(fe:FE):FE:=λst=>(fi st).bind λx=>if (tR Tl x.2.length&&decide (x.1.length<=1000000))=true then(cF fg fc fe k x.1 (kM k Tl x.2)).bind λy=>some (.f (.lst y.1),wb Tl (y.2.drop k) x.2) else none
theorem xj:∀(Tl:S8 Nat)(sb st:En),(wb Tl sb st).length=st.length|[],_,_=>by simp[wb]|_::_,[],_=>by simp[wb]|i::r,s::sb,st=>by rw[wb,xj r sb];simp
theorem pR:∀(Tl:S8 Nat)(sb st:En){i:Nat},i∉Tl->(wb Tl sb st)[i]?=st[i]?
 |[],_,_,_,_=>by simp[wb]
 |_::_,[],_,_,_=>by simp[wb]
 | j::r,s::sb,st,i,h=>by
  rw[wb,pR r sb _ (λz=>h (Wb _ z))];exact aw λz=>h (by rw[z];simp)
theorem FC:∀(Tl:S8 Nat)(sb st:En){j i:Nat},Tl.Nodup->sb.length=Tl.length->Tl[j]?=some i->i<st.length->(wb Tl sb st)[i]?=sb[j]?
 |[],_,_,_,_,_,_,h,_=>by simp at h
 |_::_,[],_,_,_,_,h,_,_=>by simp at h
 | c::r,s::sb,st,0,i,nd,hl,h,hi=>by
  have e:c=i:=by simpa using h
  subst e;rw[wb,pR r sb _ (Qh.mp nd).1];rw[A5,Af rfl,Af hi];rfl
 | c::r,s::sb,st,j+1,i,nd,hl,h,hi=>by
  rw[wb,FC r sb _ (j:=j) (Qh.mp nd).2 (by simpa using hl) (by simpa using h) (by simpa using hi)];rfl
def yM(h:Tl[j]?=some i):(kM k Tl st)[k+j]?=some ((st[i]?).getD .e):=by grind [kM]
def mN{s:Sl}(h:(kM k Tl st)[i]?=some s)(n:s.get≠none):∃j i',i=k+j/\Tl[j]?=some i'/\st[i']?=some s:=by
 unfold kM at h;by_cases hi:i<k
 ·rw[Wk (by simpa using hi),Xl,Af hi]at h
  cases h;exact absurd rfl n
 ·rw[Wh (by simpa using hi),Qi,Xb]at h
  refine⟨i-k,?_⟩;obtain⟨i',e1,e2⟩:=Xc.mp h;refine⟨i',by lia,e1,?_⟩
  cases q:st[i']? with|none=>rw[q]at e2;subst e2;exact absurd rfl n|some t=>rw[q]at e2;subst e2;rfl
def lC(h:Tl[j]?=some i):(oI k Tl σ)[k+j]?=some ((σ[i]?).getD none):=by grind [oI]
def jC{s:Sl}(h:s.ow=some d):s.get≠none:=by cases s<;>first|(cases h;done)|simp[Sl.get]
def FD{l:S8 Nat}{j j' i:Nat}(nd:l.Nodup)(h:l[j]?=some i)(h':l[j']?=some i):j=j':=by
 obtain⟨h1,h2⟩:=Wd.mp h;obtain⟨h3,h4⟩:=Wd.mp h';exact(CH nd).mp (h2.trans h4.symm)
def Ob(Tl:S8 Nat)(st:En)(σ:St):AS:=λp=>∃i∈Tl,∃s d,st[i]?=some s/\s.ow=some d/\σ[i]?=some (some (.ref p))
def Zb(Tl:S8 Nat)(st:En)(σ:St)(O Z:AS):AS:=λp=>Z p\/(O p/\¬ Ob Tl st σ p)
def Ob.o(E:ER K st σ H O Z)(h:Ob Tl st σ q):O q:=by
 obtain⟨i,_,s,d,h1,h2,h3⟩:=h;obtain⟨p,g1,g2,_⟩:=E.own i s d h1 h2;rw[h3]at g1;cases g1;exact g2
def Na{k:Nat}{Tl:S8 Nat}(E:ER K st σ H O Z)(nd:Tl.Nodup):ER K (kM k Tl st) (oI k Tl σ) H (Ob Tl st σ) (Zb Tl st σ O Z):=by
 have up:∀b,U (Ob Tl st σ) (Zb Tl st σ O Z) b->U O Z b:=λb z=>z.elim (λy=>.inl (Ob.o E y)) λy=>y.elim .inr λw=>.inl w.1;refine⟨by simp[kM,oI],λi d h=>?_,λi s d h1 h2=>?_,λi j s t d d' p h1 h2 h3 h4 h5 h6=>?_,λp h z=>?_,λp h=>E.liv p (up p h)⟩
 ·obtain⟨j,i',rfl,hc,hs⟩:=mN h (by simp[Sl.get])
  obtain⟨v,g1,g2⟩:=E.val i' d hs;exact⟨v,by rw[lC hc,g1];rfl,g2.less up⟩
 ·obtain⟨j,i',rfl,hc,hs⟩:=mN h1 (jC h2);obtain⟨p,g1,g2,g3⟩:=E.own i' s d hs h2;exact⟨p,by rw[lC hc,g1];rfl,⟨i',Yc hc,s,d,hs,h2,g1⟩,g3.go rfl (λ_ _ e _=>e) λb z=>.inl (up b z)⟩
 ·obtain⟨j1,i1,rfl,c1,s1⟩:=mN h1 (jC h2);obtain⟨j2,i2,rfl,c2,s2⟩:=mN h3 (jC h4);obtain⟨p1,g1,_⟩:=E.own i1 s d s1 h2;obtain⟨p2,g2,_⟩:=E.own i2 t d' s2 h4;rw[lC c1,g1]at h5;rw[lC c2,g2]at h6;have e1:p1=p:=by simpa using h5
  have e2:p2=p:=by simpa using h6
  subst e1;subst e2;have e:=E.uni i1 i2 s t d d' _ s1 h2 s2 h4 g1 g2;subst e;rw[FD nd c1 c2]
 ·rcases z with z|z
  ·exact E.dis p (Ob.o E h) z
  ·exact z.2 h
def FF{τ τ':St}(E:ER K st τ H O Z)(hl:τ'.length=τ.length)(hk:k<=st.length)(h:∀j,k<=j->τ'[j]?=τ[j]?):ER K (re k st) τ' H O Z:=by
 have at_:∀(i:Nat) s,(re k st)[i]?=some s->s.get≠none->k<=i/\st[i]?=some s:=λi s e n=>by
  unfold re at e;by_cases hi:i<k
  ·rw[Wk (by simpa using hi),Xl,Af hi]at e
   cases e;exact absurd rfl n
  ·rw[Wh (by simpa using hi),Qi,Zi]at e
   have:k+(i-k)=i:=by lia
   rw[this]at e;exact⟨by lia,e⟩
 refine⟨?_,λi d e=>?_,λi s d e1 e2=>?_,λi j s t d d' p e1 e2 e3 e4 e5 e6=>?_,E.dis,E.liv⟩
 ·rw[hl,<-E.len];simp[re];lia
 ·obtain⟨hk,e⟩:=at_ i _ e (by simp[Sl.get])
  obtain⟨v,g1,g2⟩:=E.val i d e;exact⟨v,by rw[h i hk];exact g1,g2⟩
 ·obtain⟨hk,e⟩:=at_ i _ e1 (jC e2);obtain⟨p,g1,g2⟩:=E.own i s d e e2;exact⟨p,by rw[h i hk];exact g1,g2⟩
 ·obtain⟨hk1,e1⟩:=at_ i _ e1 (jC e2);obtain⟨hk2,e3⟩:=at_ j _ e3 (jC e4);rw[h i hk1]at e5;rw[h j hk2]at e6;exact E.uni i j s t d d' p e1 e2 e3 e4 e5 e6
def Oo(Tl:S8 Nat)(st:En)(σ:St)(O Oi:AS):AS:=λp=>Oi p\/(O p/\¬ Ob Tl st σ p)
def xk(E:ER K st σ H O Z)(x:TK (Ob Tl st σ) H Oi H'):TK O H (Oo Tl st σ O Oi) H' :=
 ⟨λb o e n=>x.kp b o e λz=>n (Ob.o E z),λb z=>z.elim (λy=>(x.nw b y).elim (λw=>.inl (Ob.o E w)) .inr) λy=>.inl y.1,x.al,x.lv⟩
def FJ{Tl:S8 Nat}{sb:En}(E:ER K st σ H O Z)(nd:Tl.Nodup)(lt:∀i∈Tl,i<st.length)(hl:sb.length=k+Tl.length)(x:TK (Ob Tl st σ) H Oi H')(B:ER K sb (oI k Tl σ) H' Oi (Zb Tl st σ O Z)) :
  ER K (wb Tl (sb.drop k) st) σ H' (Oo Tl st σ O Oi) Z:=by
 have dl:(sb.drop k).length=Tl.length:=by rw[Xi];lia
 have cap:∀(j i:Nat),Tl[j]?=some i->(wb Tl (sb.drop k) st)[i]?=sb[k+j]?:=λj i h=>by
  rw[FC Tl _ st nd dl h (lt i (Yc h)),Zi]
 have out:∀i,i∉Tl->(wb Tl (sb.drop k) st)[i]?=st[i]?:=λi h=>pR Tl _ st h;have same:∀b,U (Oo Tl st σ O Oi) Z b->U Oi (Zb Tl st σ O Z) b:=λb z=>by
  rcases z with(z|z)|z
  ·exact .inl z
  ·exact .inr (.inr z)
  ·exact .inr (.inl z)
 have kp:∀b o,H b=some o->¬ U O Z b->H' b=some o:=λb o e n=>x.kp b o e λz=>n (.inl (Ob.o E z));have nn:∀b,U (Oo Tl st σ O Oi) Z b->U O Z b\/H b=none:=λb z=>by
  rcases z with z|z
  ·exact((xk E x).nw b z).elim (λy=>.inl (.inl y)) .inr
  ·exact .inl (.inr z)
 have nob:∀(i:Nat) s d p,i∉Tl->st[i]?=some s->s.ow=some d->σ[i]?=some (some (.ref p))->¬ Ob Tl st σ p:=λi s d p hn h1 h2 h3 z=>by
  obtain⟨i0,hm,s0,d0,g1,g2,g3⟩:=z;have:=E.uni i i0 s s0 d d0 p h1 h2 g1 g2 h3 g3;subst this;exact hn hm
 have bget:∀{j i:Nat}{v:V},Tl[j]?=some i->(oI k Tl σ)[k+j]?=some (some v)->σ[i]?=some (some v):=λ{j i v} hc hb=>by
  rw[lC hc]at hb;have hb':=Option.some.inj hb;cases q:σ[i]? with|none=>rw[q]at hb';cases hb'|some w=>rw[q]at hb';have:w=some v:=hb';rw[this]
 have own:∀(i:Nat) s d,(wb Tl (sb.drop k) st)[i]?=some s->s.ow=some d->(∃j,Tl[j]?=some i/\sb[k+j]?=some s)\/(i∉Tl/\st[i]?=some s):=λi s d h1 _=>by
  by_cases hc:i∈Tl
  ·obtain⟨j,hj⟩:=Zn hc;rw[cap j i hj]at h1;exact .inl ⟨j,hj,h1⟩
  ·rw[out i hc]at h1;exact .inr ⟨hc,h1⟩
 refine⟨by rw[xj];exact E.len,λi d h=>?_,λi s d h1 h2=>?_,λi j s t d d' p h1 h2 h3 h4 h5 h6=>?_,λp h=>?_,λp h=>?_⟩
 ·by_cases hc:i∈Tl
  ·obtain⟨j,hj⟩:=Zn hc;rw[cap j i hj]at h;obtain⟨v,g1,g2⟩:=B.val _ d h;exact⟨v,bget hj g1,g2.less same⟩
  ·rw[out i hc]at h;obtain⟨v,g1,g2⟩:=E.val i d h;exact⟨v,g1,g2.go kp nn⟩
 ·rcases own i s d h1 h2 with⟨j,hj,hs⟩|⟨hc,hs⟩
  ·obtain⟨p,g1,g2,g3⟩:=B.own _ s d hs h2;exact⟨p,bget hj g1,.inl g2,g3.go rfl (λ_ _ e _=>e) λb z=>.inl (same b z)⟩
  ·obtain⟨p,g1,g2,g3⟩:=E.own i s d hs h2;have nb:=nob i s d p hc hs h2 g1;refine⟨p,g1,.inr ⟨g2,nb⟩,g3.go ?_ kp nn⟩;cases q:H p with|none=>exact absurd q g3.live|some o=>exact x.kp p o q nb
 ·rcases own i s d h1 h2 with⟨j1,c1,s1⟩|⟨c1,s1⟩<;>rcases own j t d' h3 h4 with⟨j2,c2,s2⟩|⟨c2,s2⟩
  ·have e:=B.uni _ _ s t d d' p s1 h2 s2 h4 (by rw[lC c1,h5];rfl) (by rw[lC c2,h6];rfl)
   have e':j1=j2:=by lia
   subst e';rw[c1]at c2;exact Option.some.inj c2
  ·exfalso
   obtain⟨q,g1,g2,_⟩:=B.own _ s d s1 h2;have:=bget c1 g1;rw[h5]at this;cases this;have nb:=nob j t d' p c2 s2 h4 h6;obtain⟨q2,k1,_,k3⟩:=E.own j t d' s2 h4;rw[h6]at k1;cases k1;exact(x.nw p g2).elim nb k3.live
  ·exfalso
   obtain⟨q,g1,g2,_⟩:=B.own _ t d' s2 h4;have:=bget c2 g1;rw[h6]at this;cases this;have nb:=nob i s d p c1 s1 h2 h5;obtain⟨q2,k1,_,k3⟩:=E.own i s d s1 h2;rw[h5]at k1;cases k1;exact(x.nw p g2).elim nb k3.live
  ·exact E.uni i j s t d d' p s1 h2 s2 h4 h5 h6
 ·rcases h with h|h
  ·exact λz=>B.dis p h (.inl z)
  ·exact E.dis p h.1
 ·rcases h with(h|h)|h
  ·exact B.liv p (.inl h)
  ·exact x.lv p (E.liv p (.inl h.1))
  ·exact x.lv p (E.liv p (.inr h))
def FK{a b:En}(h0:∀(i:Nat) s,a[i]?=some s->i<k->s=.e)(h:Kp a b)(hk:k<=b.length):Kp a (re k b):=by
 have lk:(re k b).length=b.length:=by simp[re];lia
 have at_:∀i,k<=i->(re k b)[i]?=b[i]?:=λi hi=>by
  unfold re;rw[Wh (by simpa using hi),Qi,Zi]
  congr 1;lia
 refine⟨lk.trans h.len,λi s e g=>?_,λi d e=>?_⟩
 ·by_cases hi:i<k
  ·have:=h0 i s e hi;subst this;exact absurd rfl g
  ·obtain⟨s',e',g'⟩:=h.has i s e g;exact⟨s',by rw[at_ i (by lia)];exact e',g'⟩
 ·by_cases hi:i<k
  ·have:=h0 i _ e hi;cases this
  ·obtain⟨d',e'⟩:=h.io i d e;exact⟨d',by rw[at_ i (by lia)];exact e'⟩
def PZ{Tl:S8 Nat}{sb:En}(nd:Tl.Nodup)(lt:∀i∈Tl,i<st.length)(hl:sb.length=k+Tl.length)(h:Kp (kM k Tl st) sb):Kp st (wb Tl (sb.drop k) st):=by
 have dl:(sb.drop k).length=Tl.length:=by rw[Xi];lia
 have cap:∀(j i:Nat),Tl[j]?=some i->(wb Tl (sb.drop k) st)[i]?=sb[k+j]?:=λj i h=>by
  rw[FC Tl _ st nd dl h (lt i (Yc h)),Zi]
 refine⟨xj _ _ _,λi s e g=>?_,λi d e=>?_⟩
 ·by_cases hc:i∈Tl
  ·obtain⟨j,hj⟩:=Zn hc;rw[cap j i hj];exact h.has (k+j) s (by rw[yM hj,e];rfl) g
  ·exact⟨s,by rw[pR _ _ _ hc];exact e,g⟩
 ·by_cases hc:i∈Tl
  ·obtain⟨j,hj⟩:=Zn hc;rw[cap j i hj];exact h.io (k+j) d (by rw[yM hj,e];rfl)
  ·exact⟨d,by rw[pR _ _ _ hc];exact e⟩
def tS(i:Nat)(s:Sl)(h:(kM k Tl st)[i]?=some s)(hi:i<k):s=.e:=by grind [Sl,kM]
def S6(K:PySem.W.Frag)(Z:AS)(Tl:S8 Nat)(st:En)(σ:St)(J:It)(items:S8 D)(H:Hp)(O:AS):Prop:=∀H' Oi,TK (Ob Tl st σ) H Oi H'->(∀p,U (Oo Tl st σ O Oi) Z p->Lv H' p)->(∀i,items.length<=i->J.stop i H')/\∀(i:Nat) d,items[i]?=some d->J.go i H'/\∀x H'',J.yld i H' x H''->Ts H' H''/\DA K (U (Oo Tl st σ O Oi) Z) H'' x d
def P0(K:PySem.W.Frag)(Tl:S8 Nat)(wi:TI)(fi:FI):Prop:=∀(st:En)(σ:St)(H:Hp)(O Z:AS)(R:It->Hp->Prop),ER K st σ H O Z->∀items Tn,fi st=some (items,Tn)->
 (∀J H' O',TK O H O' H'->Kp st Tn->ER K Tn σ H' O' Z->S6 K Z Tl Tn σ J items H' O'->R J H')->wi σ H R
def UD.ic(h:UD K wi fi):P0 K Tl wi fi:=λst σ H O Z R E items Tn e q=>
 h st σ H O Z R E items Tn e λJ H1 O1 x1 k1 E1 it=>q J H1 O1 x1 k1 E1 λH' Oi x2 lv=>it H' _ (xk E1 x2) lv
def FL(hi:P0 K Tl wi fi)(hg:M6 K g fg tg)(ht:∀j∈tg,j<k)(hc:vv K tc fc)(he:dC K te fe) :
  dC K (rX k Tl wi g tc te) (cG k Tl fi fg fc fe):=by
 intro st σ H O Z Q E r Tn h q;refine cx h λitems Tr e1 h=>?_;by_cases hok:(tR Tl Tr.length&&decide (items.length<=1000000))=true
 rotate_left
 ·simp only[Ah hok]at h;cases h
 simp only[Af hok]at h;refine cx h λtotal sf e2 h=>?_;cases h;have hok1:Tl.Nodup/\(∀i∈Tl,i<Tr.length)/\items.length<=1000000:=by
  rw[Qf,decide_eq_true_eq]at hok;unfold tR at hok;rw[Qf,decide_eq_true_eq,Ql]at hok;exact⟨hok.1.1,λi hi=>Aj (hok.1.2 i hi),hok.2⟩
 obtain⟨nd,lt,hfew⟩:=hok1;refine hi st σ H O Z _ E items Tr e1 λJ H1 O1 x1 k1 E1 it=>?_;have bl:(oI k Tl σ).length=k+Tl.length:=by simp[oI]
 have el:(kM k Tl Tr).length=k+Tl.length:=by simp[kM]
 refine⟨items.length,λi xs H'=>∃sb Oi ds ds2,TK (Ob Tl Tr σ) H1 Oi H'/\ER K sb (oI k Tl σ) H' Oi (Zb Tl Tr σ O1 Z)/\El K (U Oi (Zb Tl Tr σ O1 Z)) H' xs ds/\cF fg fc fe k (items.drop i) sb=some (ds2,sf)/\ds++ds2=total/\Kp (kM k Tl Tr) sb/\xs.length<=i,
  ⟨kM k Tl Tr,Ob Tl Tr σ,[],total,TK.refl _ _,Na E1 nd,El.nil,e2,rfl,Kp.refl _,Xa _⟩,?_,?_⟩
 ·rintro xs H' ⟨sb,Oi,ds,ds2,x2,B,exs,e3,ed,kb,_⟩;rw[Df (Xa _)]at e3;obtain⟨rfl,rfl⟩:([]:S8 D)=ds2/\sb=sf:=by
   have:=Option.some.inj e3;exact⟨congrArg Prod.fst this,congrArg Prod.snd this⟩
  rw[Zg]at ed;subst ed;obtain⟨stop,_⟩:=it H' Oi x2 (FJ E1 nd lt (kb.len.trans el) x2 B).liv;refine⟨stop _ (Xa _),λp hp=>?_⟩;have sl:sb.length=k+Tl.length:=kb.len.trans el;have Eo:=FJ E1 nd lt sl x2 B;have ko:=PZ nd lt sl kb;have el2:El K (U (Oo Tl Tr σ O1 Oi) Z) H' xs ds:=exs.less λb z=>by
   rcases z with(z|z)|z
   ·exact .inl z
   ·exact .inr (.inr z)
   ·exact .inr (.inl z)
  obtain⟨E3,rv⟩:=Eo.new hp el2;have xx:=x1.trans (xk E1 x2);exact q _ _ _ (xx.trans (Ts.ext (aF hp _))) (k1.trans ko) E3 rv λp' e=>by cases e;exact xx.dead hp
 ·rintro i xs H' hlt ⟨sb,Oi,ds,ds2,x2,B,exs,e3,ed,kb,hxl⟩;have hd:items.drop i=items[i]::items.drop (i+1):=Qm hlt;rw[hd]at e3;refine bB e3 λs1 e4 e3=>?_;refine cx e3 λc s2 e5 e3=>?_;obtain⟨_,go⟩:=it H' Oi x2 (FJ E1 nd lt (kb.len.trans el) x2 B).liv;obtain⟨g1,g2⟩:=go i _ (Ya hlt);refine⟨g1,Xn hxl (Vc hlt (few hfew)),λx H'' hy=>?_⟩;obtain⟨sm,da⟩:=g2 x H'' hy;have xm:TK Oi H' Oi H'':=Ts.ext sm;have da':DA K (U Oi (Zb Tl Tr σ O1 Z)) H'' x items[i]:=da.less λb z=>by
   rcases z with z|z|z
   ·exact .inl (.inl z)
   ·exact .inr z
   ·exact .inl (.inr z)
  refine hg sb _ H'' Oi _ x _ _ (B.same sm) da' s1 e4 λτ kt kq3 E4=>?_;have sl:sb.length=k+Tl.length:=kb.len.trans el;have tl:τ.length=(oI k Tl σ).length:=by rw[<-E4.len,kq3.len,sl,bl]
  have tk:∀j,k<=j->(oI k Tl σ)[j]?=τ[j]?:=λj hj=>((kt j λz=>absurd (ht j z) (by lia)).1).symm
  have drop:τ.drop k=(oI k Tl σ).drop k:=by
   refine Wj λj=>?_;rw[Zi,Zi];exact(tk _ (by lia)).symm
  have kp1:Kp (kM k Tl Tr) s1:=by
   refine⟨kq3.len.trans kb.len,λj s e g=>?_,λj d e=>?_⟩
   ·by_cases hj:j<k
    ·have:=tS j s e hj;subst this;exact absurd rfl g
    ·obtain⟨s',e',g'⟩:=kb.has j s e g;exact⟨s',by rw[(kt j λz=>absurd (ht j z) (by lia)).2];exact e',g'⟩
   ·by_cases hj:j<k
    ·have:=tS j _ e hj;cases this
    ·obtain⟨d',e'⟩:=kb.io j d e;exact⟨d',by rw[(kt j λz=>absurd (ht j z) (by lia)).2];exact e'⟩
  refine hc s1 τ H'' Oi _ _ E4 c s2 e5 λH3 O3 x3 k3 E5=>?_;have kp2:=kp1.trans k3;cases c with
  |false=>
   simp only[Xe,if_false]at e3 ⊢;have hs2:k<=s2.length:=by rw[kp2.len,el];lia
   exact⟨drop,re k s2,O3,ds,ds2,(x2.trans xm).trans x3,FF E5 tl.symm hs2 tk,exs.ext (xm.trans x3),e3,ed,FK tS kp2 hs2,by lia⟩
  |true=>
   rw[Af rfl]at e3 ⊢;refine cx e3 λry s3 e6 e3=>?_;refine cx e3 λdy s4 e7 e3=>?_;refine cx e3 λds3 sf' e8 e3=>?_;cases e3;refine he s2 τ H3 O3 _ _ E5 ry s3 e6 λy H4 O4 x4 k4 E6 rv w=>?_;obtain⟨O5,x5,k5,E7,day⟩:=rv.esc E6 e7;have kp3:=(kp2.trans k4).trans k5;have hs4:k<=s4.length:=by rw[kp3.len,el];lia
   refine⟨drop,re k s4,O5,ds++[dy],ds3,(((x2.trans xm).trans x3).trans x4).trans x5,FF E7 tl.symm hs4 tk,(exs.ext (((xm.trans x3).trans x4).trans x5)).app (El.one day),e8,by rw[Xf];exact ed,FK tS kp3 hs4,by simp;lia⟩
def o7(hi:UD K wi fi)(hg:M6 K g fg tg)(ht:∀j∈tg,j<k)(hc:vv K tc fc)(he:dC K te fe) :
  dC K (rX k Tl wi g tc te) (cG k Tl fi fg fc fe):=FL hi.ic hg ht hc he
def lD(n:Nat)(ds:S8 D):En:=ds.map Sl.v++List.replicate (n-ds.length) Sl.e
def Nb(st:En):Rs->S9 Rz
 |.d x=>some (x,false)
 |.f x=>some (x,true)
 | .s i=>match st[i]? with|some (.o x)=>some (x,true)|some (.v x)=>some (x,false)|_=>none
def fin:Ot->S9 Rz|.nx _=>some (.non,false)|.rt r st=>Nb st r|_=>none
def bi(F:FS)(n m:Nat):S8 D->S9 Rz:=λds=>if ds.length=m then(F (lD n ds)).bind fin else none
def FM{N:S8 Str}(el:El K Z H vs ds)(lv:∀p,Z p->Lv H p):ER K (lD N.length ds) (L2.start N vs) H (λ_=>False) Z:=by
 have gv:∀(i:Nat) s,(lD N.length ds)[i]?=some s->s.get≠none->∃d,s=.v d/\ds[i]?=some d:=λi s e n=>by
  unfold lD at e;by_cases hi:i<ds.length
  ·rw[Wk (by simpa using hi),Xb]at e
   obtain⟨d,h1,h2⟩:=Xc.mp e;exact⟨d,h2.symm,h1⟩
  ·rw[Wh (by simpa using hi),Xl]at e
   by_cases hz:i-(ds.map Sl.v).length<N.length-ds.length
   ·rw[Af hz]at e;cases e;exact absurd rfl n
   ·rw[Ah hz]at e;cases e
 have no:∀(i:Nat) s d,(lD N.length ds)[i]?=some s->s.ow=some d->False:=λi s d e h=>by
  obtain⟨x,rfl,_⟩:=gv i s e (jC h);cases h
 refine⟨by simp[lD,L2.start,el.1],λi d e=>?_,λi s d e h=>(no i s d e h).elim,λi j s t d d' p e h=>(no i s d e h).elim,λp h=>h.elim,λp h=>h.elim (λz=>z.elim) (lv p)⟩
 obtain⟨x,h1,h2⟩:=gv i _ e (by simp[Sl.get])
 cases h1;obtain⟨v,g1,g2⟩:=el.at h2;refine⟨v,?_,g2.less λb z=>z.elim (λy=>y.elim) λy=>y⟩;unfold L2.start;have hi:=(Wd.mp g1).1;rw[Wk (by simpa using hi),Xb,g1];rfl
def IZ{N:S8 Str}(h:r6 K ts F)(sp:gk K (bi F N.length m) vs H Q XE):ts { nx:=λ_ H'=>Q .non H',rt:=Q } (L2.start N vs) H:=by
 obtain⟨Z,ds,z,el,lv,e,q⟩:=sp;have hm:ds.length=m:=by
  by_cases hm:ds.length=m
  ·exact hm
  ·simp only[bi,Ah hm]at e;cases e
 simp only[bi,Af hm]at e;refine bB e λo e1 e2=>?_;have same:∀{O':AS}{H':Hp},TK (λ_=>False) H O' H'->Ts H H':=λ{O' H'} x b o e=>x.kp b o e λz=>z;refine h _ _ H _ Z _ (FM el lv) o e1 ?_;cases o with
 |nx s=>
  cases e2;exact λσ' H' O' x _ _=>q .non H' (same x) .non
 |bk s=>cases e2
 |ct s=>cases e2
 |rt r s=>
  intro v σ' H' O' x k E rv w;have sub:∀b,Z b->U O' Z b:=λb z=>.inr z;cases r with
  |d y=>cases e2;exact q v H' (same x) (DA.less (show DA K (U O' Z) H' v y from rv) sub)
  |f y=>
   cases e2;obtain⟨p,rfl,h1,h2,h3,_⟩:=rv;exact q _ H' (same x) ⟨p,rfl,w p rfl,h3.go rfl (λ_ _ e _=>e) λb z=>.inl (z.elim .inl λy=>.inr (.inr y))⟩
  |s i=>
   obtain⟨h1,t,h2,h3⟩:=rv
   have e2':(match s[i]? with|some (.o x)=>some (x,true)|some (.v x)=>some (x,false)|_=>none)=some z:=e2
   rw[h2]at e2';cases t with
   |e=>cases e2'
   |io y=>cases e2'
   |v y=>
    cases e2';obtain⟨u,g1,g2⟩:=E.val i y h2;rw[h1]at g1;cases g1;exact q v H' (same x) (g2.less sub)
   |o y=>
    cases e2';obtain⟨p,g1,g2,g3⟩:=E.own i _ y h2 rfl;rw[h1]at g1;cases g1;refine q _ H' (same x) ⟨p,rfl,(x.nw p g2).elim (λz=>z.elim) (λz=>z),g3.go rfl (λ_ _ e _=>e) λb z=>.inl (z.elim (λy=>.inl (by rw[y];exact g2)) λy=>.inr y)⟩
def ia(n:Nat)(x:D)(ds:S8 D):En:=Sl.io x::(ds.map Sl.v++List.replicate (n-(ds.length+1)) Sl.e)
def DF(z:S9 Rz)(st:En):S9 (Rz×D):=match st[0]? with|some (Sl.io x)=>z.bind λy=>some (y,x)|_=>none
def Lk:Ot->S9 (Rz×D)|.nx st=>DF (some (.non,false)) st|.rt r st=>DF (Nb st r) st|_=>none
def dO(F:FS)(n m:Nat):D->S8 D->S9 (Rz×D):=λx ds=>if ds.length+1=m then(F (ia n x ds)).bind Lk else none
def DG{N : S8 Str}(nz : ¬ Z f)(ho : OA K (ins f Z) H f x)(el : El K (ins f Z) H ws ds)(lv : ∀ p, Z p → Lv H p) : ER K (ia N.length x ds) (L2.start N (.ref f :: ws)) H (λb => b = f) Z := by
  have gv : ∀ (i : Nat) s, (ia N.length x ds)[i]? = some s → s.get ≠ none → (i = 0 ∧ s = .io x)\/∃ j d, i = j + 1 ∧ s = .v d ∧ ds[j]? = some d := λi s e n => by
    cases i with
    | zero => left; exact ⟨rfl, by have : Sl.io x = s := by simpa [ia] using e
                                   exact this.symm⟩
    |succ j=>
      right;have e : (ds.map Sl.v ++ List.replicate (N.length - (ds.length + 1)) Sl.e)[j]? = some s := by simpa [ia] using e
      by_cases hi : j < ds.length
      · rw [Bt (by simpa using hi), Ct] at e
        obtain ⟨d, h1, h2⟩ := Option.map_eq_some_iff.mp e;exact ⟨j, d, rfl, h2.symm, h1⟩
      · rw [C0 (by simpa using hi), Db] at e
        by_cases hz : j - (ds.map Sl.v).length < N.length - (ds.length + 1)
        · rw [Af hz] at e; cases e; exact absurd rfl n
        · rw [Ah hz] at e; cases e
  have s0 : (L2.start N (.ref f :: ws))[0]? = some (some (.ref f)) := by simp [L2.start]
  have own0 : ∀ (i : Nat) s d, (ia N.length x ds)[i]? = some s → s.ow = some d → i = 0 ∧ d = x := λi s d e h => by
    rcases gv i s e (jC h) with ⟨h1, rfl⟩ | ⟨j, d', _, rfl, _⟩
    · cases h; exact ⟨h1, rfl⟩
    · cases h
  refine ⟨by simp [ia, L2.start, el.1], λi d e => ?_, λi s d e h => ?_, λi j s t d d' p e h e' h' _ _ => ?_, λp h => by rw [h]; exact nz, λp h => ?_⟩
  · rcases gv i _ e (by simp [Sl.get]) with ⟨_, h⟩ | ⟨j, d', rfl, h, h2⟩
    · cases h
    · cases h
      obtain ⟨v, g1, g2⟩ := el.at h2;refine ⟨v, ?_, g2⟩;have hi := (List.getElem?_eq_some_iff.mp g1).1;unfold L2.start;rw [Bt (by simp; lia), Ct]
      simp [g1]
  · obtain ⟨rfl, rfl⟩ := own0 i s d e h
    exact ⟨f, s0, rfl, ho⟩
  · rw [(own0 i s d e h).1, (own0 j t d' e' h').1]
  · rcases h with h | h
    · rw [h]; exact ho.lv
    · exact lv p h
def DH{N:S8 Str}(h:r6 K ts F)(sp:oM K (dO F N.length m) vs H Q XE):ts { nx:=λ_ H'=>Q .non H',rt:=Q } (L2.start N vs) H:=by
 obtain⟨f,ws,Z,x,ds,z,x',rfl,nz,ho,el,lv,e,q⟩:=sp;have hm:ds.length+1=m:=by
  by_cases hm:ds.length+1=m
  ·exact hm
  ·simp only[dO,Ah hm]at e;cases e
 simp only[dO,Af hm]at e;refine bB e λo e1 e2=>?_;have but:∀{O':AS}{H':Hp},TK (λb=>b=f) H O' H'->∀b o,H b=some o->b≠f->H' b=some o:=λ{O' H'} x b o e n=>x.kp b o e n;have i0:(ia N.length x ds)[0]?=some (.io x):=rfl;have s0:(L2.start N (.ref f::ws))[0]?=some (some (.ref f)):=by simp[L2.start]
 have f0:∀{s:En}{σ':St}{H':Hp}{O':AS}{y:D},Kq (ia N.length x ds) (L2.start N (.ref f::ws)) s σ'->ER K s σ' H' O' Z->s[0]?=some (.io y)->O' f/\OA K (U O' Z) H' f y:=λ{s σ' H' O' y} k E e=>by
  obtain⟨g1,_⟩:=k.io 0 x i0;obtain⟨p,h1,h2,h3⟩:=E.own 0 _ y e rfl;rw[g1,s0]at h1;cases h1;exact⟨h2,h3⟩
 refine h _ _ H _ Z _ (DG nz ho el lv) o e1 ?_;cases o with
 |bk s=>cases e2
 |ct s=>cases e2
 |nx s=>
  intro σ' H' O' x2 k E;have e3:DF (some (.non,false)) s=some (z,x'):=e2;unfold DF at e3;split at e3
  ·rename_i y ey
   cases e3;obtain⟨h1,h2⟩:=f0 k E ey;exact q .non H' (but x2) ⟨.non,h2.go rfl (λ_ _ e _=>e) λb z=>.inl (z.elim (λw=>.inl (by rw[w];exact h1)) .inr)⟩
  ·cases e3
 |rt r s=>
  intro v σ' H' O' x2 k E rv w;have e3:DF (Nb s r) s=some (z,x'):=e2;unfold DF at e3;split at e3
  ·rename_i y ey
   refine bB e3 λz' e4 e3=>?_;cases e3;obtain⟨h1,h2⟩:=f0 k E ey;have sub:∀b,ins f Z b->U O' Z b:=λb z=>z.elim (λw=>.inl (by rw[w];exact h1)) .inr
   cases r with
   |d u=>cases e4;exact q v H' (but x2) ⟨DA.less (show DA K (U O' Z) H' v u from rv) sub,h2.go rfl (λ_ _ e _=>e) λb z=>.inl (sub b z)⟩
   |f u=>
    cases e4;obtain⟨p,rfl,g1,g2,g3,E2⟩:=rv;obtain⟨h3,h4⟩:=f0 k E2 ey;exact q _ H' (but x2) ⟨p,rfl,w p rfl,g3.go rfl (λ_ _ e _=>e) (λb z=>.inl (z.elim .inl λy=>.inr (sub b y))),h4.go rfl (λ_ _ e _=>e) λb z=>.inl (z.elim (λy=>.inl (.inl y)) λy=>(sub b y).elim (λa=>.inl (.inr a)) .inr)⟩
   |s i=>
    obtain⟨g1,t,g2,g3⟩:=rv
    have e5:(match s[i]? with|some (.o x)=>some (x,true)|some (.v x)=>some (x,false)|_=>none)=some z:=e4
    rw[g2]at e5;cases t with
    |e=>cases e5
    |io u=>cases e5
    |v u=>
     cases e5;obtain⟨u',j1,j2⟩:=E.val i u g2;rw[g1]at j1;cases j1;exact q v H' (but x2) ⟨j2.less sub,h2.go rfl (λ_ _ e _=>e) λb z=>.inl (sub b z)⟩
    |o u=>
     cases e5;obtain⟨p,j1,j2,j3⟩:=E.own i _ u g2 rfl;rw[g1]at j1;cases j1;have npf:p≠f:=λz=>by
      subst z;obtain⟨p0,l1,_⟩:=E.own 0 _ _ ey rfl;obtain⟨l2,_⟩:=k.io 0 x i0;rw[l2,s0]at l1;cases l1;have:=E.uni i 0 _ _ u _ _ g2 rfl ey rfl g1 (by rw[l2,s0])
      subst this;rw[ey]at g2;cases g2
     have hp:H p=none:=(x2.nw p j2).elim (λz=>absurd z npf) (λz=>z);have sub2:∀b,ins p (ins f Z) b->U O' Z b:=λb z=>z.elim (λy=>.inl (by rw[y];exact j2)) (sub b)
     exact q _ H' (but x2) ⟨p,rfl,hp,j3.go rfl (λ_ _ e _=>e) (λb z=>.inl (sub2 b z)),h2.go rfl (λ_ _ e _=>e) λb z=>.inl (sub2 b z)⟩
  ·cases e3
def Nc(sp:gk K (bi F n m) vs H Q XE):vs.length=m:=by
 obtain⟨Z,ds,z,el,lv,e,q⟩:=sp;by_cases hm:ds.length=m
 ·exact el.1.trans hm
 ·simp only[bi,Ah hm]at e;cases e
def P1(sp:oM K (dO F n m) vs H Q XE):vs.length=m:=by
 obtain⟨f,ws,Z,x,ds,z,x',rfl,nz,ho,el,lv,e,q⟩:=sp;by_cases hm:ds.length+1=m
 ·have:=el.1;simp;lia
 ·simp only[dO,Ah hm]at e;cases e
end
section
variable {K:PySem.W.Frag}{Y Y':AS}{H H':Hp}{v:V}{d:D}{vs:S8 V}{ds:S8 D}
def nM(b b':D->D->S9 Rz):D->D->S9 Rz:=λx y=>match b x y with|some z=>some z|none=>b' x y
def Tw.or(h:Tw K r b)(h':Tw K r' b'):Tw K (λx y H Q=>r x y H Q\/r' x y H Q) (nM b b'):=by grind [Tw,nM]
def P2(b b':S8 D->S9 Rz):S8 D->S9 Rz:=λx=>match b x with|some z=>some z|none=>b' x
def TZ.or(h:TZ K r b)(h':TZ K r' b'):TZ K (λxs H Q=>r xs H Q\/r' xs H Q) (P2 b b'):=by grind [TZ,P2]
def Nd(g:Int->Int->D):D->D->S9 Rz|.int i,.int j=>some (g i j,false)|_,_=>none
theorem se(h:∀Y H i j,DA K Y H (gV i j) (gD i j)):Tw K (u9 gV) (Nd gD):=by
 intro Y H x y d1 d2 z Q lv b1 b2 e q;cases d1 with
 |int i=>
  cases d2 with
  |int j=>
   cases e;exact⟨i,j,b1,b2,q _ H (Ts.refl H) (h Y H i j)⟩
  |_=>cases e
 |_=>cases e
def bI(C:Int->Int->Prop)[∀i j,Decidable (C i j)](g:Int->Int->D):D->D->S9 Rz|.int i,.int j=>if C i j then some (g i j,false) else none|_,_=>none
theorem I0[dc:∀i j,Decidable (C i j)](h:∀Y H i j,DA K Y H (gV i j) (gD i j)):Tw K (rI C gV) (bI C gD):=by
 intro Y H x y d1 d2 z Q lv b1 b2 e q;cases d1 with
 |int i=>
  cases d2 with
  |int j=>
   obtain⟨c,e⟩:=aG e;cases e;exact⟨i,j,b1,b2,c,q _ H (Ts.refl H) (h Y H i j)⟩
  |_=>cases e
 |_=>cases e
instance (i j:Int):Decidable (Uu i j):=by unfold Uu;infer_instance
instance (i j:Int):Decidable (wW i j):=by unfold wW;infer_instance
instance (i j:Int):Decidable (EL i j):=by unfold EL;infer_instance
def vB:=Nd λi j=>.int (i+j)
def jE:=Nd λi j=>.int (i-j)
def yN:=bI Uu λi j=>.int (i*j)
def rA:=bI wW λi j=>.int (i / j)
def pU:=bI (λ_ j=>0<j) λi j=>.int (i % j)
def P3:=bI EL λi j=>.int (i ^ j.toNat)
def P4:=Nd λi j=>.bl (decide (i<j))
def Iv:=Nd λi j=>.bl (decide (i<=j))
def RR:=Nd λi j=>.bl (decide (j<i))
def Pi:=Nd λi j=>.bl (decide (j<=i))
def UU:Tw K (u9 λi j=>.int (i+j)) vB:=se λ_ _ _ _=>.int _
def Nf:Tw K (u9 λi j=>.int (i-j)) jE:=se λ_ _ _ _=>.int _
def UV:Tw K (rI Uu λi j=>.int (i*j)) yN:=I0 λ_ _ _ _=>.int _
def Ng:Tw K (rI wW λi j=>.int (i / j)) rA:=I0 λ_ _ _ _=>.int _
def Nh:Tw K (rI (λ_ j=>0<j) λi j=>.int (i % j)) pU:=I0 λ_ _ _ _=>.int _
def Ni:Tw K (rI EL λi j=>.int (i ^ j.toNat)) P3:=I0 λ_ _ _ _=>.int _
def U8:Tw K (u9 λi j=>.bl (decide (i<j))) P4:=se λ_ _ _ _=>.bl _
def P5:Tw K (u9 λi j=>.bl (decide (i<=j))) Iv:=se λ_ _ _ _=>.bl _
def P6:Tw K (u9 λi j=>.bl (decide (j<i))) RR:=se λ_ _ _ _=>.bl _
def P7:Tw K (u9 λi j=>.bl (decide (j<=i))) Pi:=se λ_ _ _ _=>.bl _
def P8:D->S9 Rz|.int i=>some (.int (-i),false)|_=>none
theorem Nj:PU K (rU λi=>.int (-i)) P8:=by
 intro Y H x d1 z Q lv b1 e q;cases d1 with|int i=>cases e;exact⟨i,b1,q _ H (Ts.refl H) (.int _)⟩|_=>cases e
def Pj:D->S9 V|.non=>some .non|.bl b=>some (.bl b)|.int i=>some (.int i)|.str x=>some (.str x)|_=>none
theorem nN(h:BA K Y H v d)(e:Pj d=some w):v=w:=by
 cases d with|non=>cases e;exact h|bl b=>cases e;exact h|int i=>cases e;exact h|str x=>cases e;exact h|_=>cases e
theorem vC(e:Pj d=some w):kN w=true:=by
 cases d with|non=>cases e;rfl|bl b=>cases e;rfl|int i=>cases e;rfl|str x=>cases e;rfl|_=>cases e
def FN(neg:Te):D->D->S9 Rz:=λa b=>(Pj a).bind λx=>(Pj b).bind λy=>if Mt x y=true then some (.bl (if neg then !decide (x=y) else decide (x=y)),false) else none
def Nk:Tw K PH (FN false):=by
 intro Y H x y d1 d2 z Q lv b1 b2 e q;refine bB e λx' e1 e=>?_;refine bB e λy' e2 e=>?_;obtain⟨c,e⟩:=aG e;cases e;obtain rfl:=nN b1 e1;obtain rfl:=nN b2 e2;exact⟨c,q _ H (Ts.refl H) (.bl _)⟩
def U9:Tw K R7 (FN true):=by
 intro Y H x y d1 d2 z Q lv b1 b2 e q;refine bB e λx' e1 e=>?_;refine bB e λy' e2 e=>?_;obtain⟨c,e⟩:=aG e;cases e;obtain rfl:=nN b1 e1;obtain rfl:=nN b2 e2;exact⟨c,q _ H (Ts.refl H) (.bl _)⟩
def D.isN:D->Te|.non=>true|_=>false
theorem Nl(h:BA K Y H v d):decide (v=.non)=d.isN:=by
 cases d with
 |non=>rw[show v=V.non from h];rfl
 |bl b=>rw[show v=V.bl b from h];rfl
 |int i=>rw[show v=V.int i from h];rfl
 |str x=>rw[show v=V.str x from h];rfl
 |ty x=>rw[show v=V.ty x from h];rfl
 |tup ds=>obtain⟨a,_,rfl,_⟩:=h;rfl
 |lst ds=>obtain⟨a,_,rfl,_⟩:=h;rfl
 |fl ds=>obtain⟨a,_,rfl,_⟩:=h;rfl
 |dk ds=>obtain⟨a,_,rfl,_⟩:=h;rfl
 |dt ds=>obtain⟨a,_,_,rfl,_⟩:=h;rfl
 |fn _=>obtain⟨a,rfl,_⟩:=h;rfl
def Nn(neg:Te):D->D->S9 Rz|a,.non=>some (.bl (if neg then !a.isN else a.isN),false)|_,_=>none
theorem No:Tw K (λx y H Q=>y=.non/\Q (.bl (decide (x=.non))) H) (Nn false):=by
 intro Y H x y d1 d2 z Q lv b1 b2 e q;cases d2 with
 |non=>
  cases e;refine⟨b2,?_⟩;rw[Nl b1];exact q _ H (Ts.refl H) (.bl _)
 |_=>cases e
def vD:D->D->S9 Rz|.str a,.str b=>if a.length+b.length<=1000000 then some (.str (a++b),false) else none|_,_=>none
theorem UW:Tw K (λx y H Q=>∃i j,x=.str i/\y=.str j/\i.length+j.length<=sizeLine/\Q (.str (i++j)) H) vD:=by
 intro Y H x y d1 d2 z Q lv b1 b2 e q;cases d1 with
 |str a=>
  cases d2 with
  |str b=>
   obtain⟨c,e⟩:=aG e;cases e;exact⟨a,b,b1,b2,few c,q _ H (Ts.refl H) (.str _)⟩
  |_=>cases e
 |_=>cases e
def fR(el:El K Y H vs ds)(hp:H p=none):UC K Y H (upd H p (.lst vs)) (.ref p) (.lst ds,true) :=
 ⟨p,rfl,hp,vs,aS,el.away (aF hp _) hp⟩
def jF(el:El K Y H vs ds)(hp:H p=none)(lv:∀p,Y p->Lv H p):UC K Y H (upd H p (.tup vs)) (.ref p) (.tup ds,false) :=
 .tup ⟨aS,λz=>(lv p z).1 hp⟩ el.1 (el.same (aF hp _)).2
def FP:D->D->S9 Rz|.lst a,.lst b=>if a.length+b.length<=1000000 then some (.lst (a++b),true) else none|_,_=>none
theorem Vn:Tw K MM FP:=by
 intro Y H x y d1 d2 z Q lv b1 b2 e q;cases d1 with
 |lst a=>
  cases d2 with
  |lst b=>
   obtain⟨c,e⟩:=aG e;cases e;obtain⟨p,xs,rfl,hp,el⟩:=b1;obtain⟨p2,ys,rfl,hp2,el2⟩:=b2;exact⟨p,p2,xs,ys,rfl,rfl,hp,hp2,by rw[el.1,el2.1];exact few c,λr hr=>q _ _ (aF hr _) (fR (el.app el2) hr)⟩
  |_=>cases e
 |_=>cases e
def sh:D->D->S9 Rz|.tup (x::a),.tup (y::b)=>if a.length+b.length<=999998 then some (.tup ((x::a)++(y::b)),false) else none|.tup (x::a),.tup []=>if a.length<=999998 then some (.tup (x::a),false) else none|_,_=>none
theorem I8:Tw K (Fb K) sh:=by
 intro Y H x y d1 d2 z Q lv b1 b2 e q;cases d1 with
 |tup a=>
  cases a with
  |nil=>cases e
  |cons a0 a=>
  cases d2 with
  |tup b=>
   obtain⟨p,xs,rfl,hp,el⟩:=b1;obtain⟨p2,ys,rfl,hp2,el2⟩:=b2;have hx:xs≠[]:=λz=>by have:=el.1;rw[z]at this;cases this
   cases b with
   |nil=>
    obtain⟨c,e⟩:=aG e;cases e;obtain rfl:=el2.unnil;exact⟨p,p2,xs,[],rfl,rfl,hp.sq,hp2.sq,hx,by rw[el.1];exact few (by simp;lia),λ_=>q _ H (Ts.refl H) (.tup hp el.1 el.2),λz=>absurd rfl z⟩
   |cons b0 b=>
    obtain⟨c,e⟩:=aG e;cases e;have hy:ys≠[]:=λz=>by have:=el2.1;rw[z]at this;cases this
    exact⟨p,p2,xs,ys,rfl,rfl,hp.sq,hp2.sq,hx,by rw[el.1,el2.1];exact few (by simp;lia),λz=>absurd z hy,λ_ r hr=>q _ _ (aF hr _) (jF (el.app el2) hr lv)⟩
  |_=>cases e
 |_=>cases e
def bF:=nM vB (nM vD (nM FP sh))
def FQ:D->D->S9 Rz|.str a,.int n=>if 0<=n/\n<=1000/\a.length<=1000 then some (.str (Txt.mul a n),false) else none|_,_=>none
theorem I9:Tw K (λx y H Q=>∃(a:Str)(n:Int),x=.str a/\y=.int n/\MulOk a n/\Q (.str (Txt.mul a n)) H) FQ:=by
 intro Y H x y d1 d2 z Q lv b1 b2 e q;cases d1 with
 |str a=>
  cases d2 with
  |int n=>
   obtain⟨c,e⟩:=aG e;cases e;exact⟨a,n,b1,b2,mulOk_of c.1 c.2.1 c.2.2,q _ H (Ts.refl H) (.str _)⟩
  |_=>cases e
 |_=>cases e
def oN:=nM yN FQ
def P9:D->D->S9 Rz|.str a,.str b=>some (.bl (decide (a.cps.toList<b.cps.toList)),false)|_,_=>none
theorem Np:Tw K (λx y H Q=>∃i j,x=.str i/\y=.str j/\Q (.bl (decide (i.cps.toList<j.cps.toList))) H) P9:=by
 intro Y H x y d1 d2 z Q lv b1 b2 e q;cases d1 with
 |str a=>
  cases d2 with|str b=>cases e;exact⟨a,b,b1,b2,q _ H (Ts.refl H) (.bl _)⟩|_=>cases e
 |_=>cases e
def xl:=nM P4 P9
def Nr(neg:Te):D->D->S9 Rz|.str a,.str b=>some (.bl (if neg then !(!(Builtin.Str.occurrences b a 0 b.length 1).isEmpty) else !(Builtin.Str.occurrences b a 0 b.length 1).isEmpty),false)|_,_=>none
theorem Vo:Tw K (λx y H Q=>∃i j,x=.str i/\y=.str j/\Q (.bl (!(Builtin.Str.occurrences j i 0 j.length 1).isEmpty)) H) (Nr false):=by
 intro Y H x y d1 d2 z Q lv b1 b2 e q;cases d1 with
 |str a=>
  cases d2 with|str b=>cases e;exact⟨a,b,b1,b2,q _ H (Ts.refl H) (.bl _)⟩|_=>cases e
 |_=>cases e
def sn:S8 D->S9 (S8 V)|[]=>some []|d::r=>(Pj d).bind λv=>(sn r).bind λvs=>some (v::vs)
theorem vE:∀{ds:S8 D}{vs ws:S8 V},El K Y H vs ds->sn ds=some ws->vs=ws/\ws.all kN=true
 |[],vs,ws,el,e=>by cases e;exact⟨el.unnil,rfl⟩
 | d::r,vs,ws,el,e=>by
  refine bB e λw e1 e=>?_;refine bB e λws' e2 e=>?_;cases e;obtain⟨v,t,rfl,da,el⟩:=el.uncons;obtain⟨rfl,h⟩:=vE el e2;have hv:=nN da.ba e1;subst hv;exact⟨rfl,by rw[Bx,vC e1,h];rfl⟩
def D.seq:D->S9 (S8 D)|.lst ds=>some ds|.tup ds=>some ds|.fl ds=>some ds|_=>none
theorem pV(h:BA K Y H v d)(e:d.seq=some ds):∃a vs,v=.ref a/\(gR K H a vs\/iH K H a vs)/\El K Y H vs ds:=by
 cases d with
 |lst _=>cases e;obtain⟨a,vs,h1,h2,h3⟩:=h;exact⟨a,vs,h1,.inl (.inl (.inl h2)),h3⟩
 |tup _=>cases e;obtain⟨a,vs,h1,h2,h3⟩:=h;exact⟨a,vs,h1,.inr h2.sq,h3⟩
 |fl _=>cases e;obtain⟨a,vs,h1,h2,h3⟩:=h;exact⟨a,vs,h1,.inl h2.sq,h3⟩
 |_=>cases e
def Nt(neg:Te):D->D->S9 Rz:=λa b=>(Pj a).bind λx=>(b.seq).bind λds=>(sn ds).bind λws=>some (.bl (if neg then !K6 x ws else K6 x ws),false)
def Nu(neg:Te):Tw K (Sa K neg) (Nt neg):=by
 intro Y H x y d1 d2 z Q lv b1 b2 e q;refine bB e λx' e1 e=>?_;refine bB e λds e2 e=>?_;refine bB e λws e3 e=>?_;cases e;obtain⟨a,vs,rfl,sq,el⟩:=pV b2 e2;obtain rfl:=nN b1 e1;obtain⟨rfl,h⟩:=vE el e3;exact⟨a,vs,rfl,sq,vC e1,h,q _ H (Ts.refl H) (.bl _)⟩
def Qn:=nM (Nr false) (Nt false)
def FR:D->D->S9 Rz|.lst ds,.int i=>(oF ds i).bind λd=>some (d,false)|.fl ds,.int i=>(oF ds i).bind λd=>some (d,false)|_,_=>none
def Ja:D->D->S9 Rz|.tup ds,.int i=>(oF ds i).bind λd=>some (d,false)|_,_=>none
def Nv:D->D->S9 Rz|.str z,.int i=>if z.length<=1000000 then(oF z.cps.toList i).bind λc=>some (.str ⟨#[c]⟩,false) else none|_,_=>none
def xn(el:El K Y H vs ds)(e:oF ds i=some d):∃v,oF vs i=some v/\DA K Y H v d:=by
 unfold oF at e ⊢;rw[el.1];refine bB e λj e1 e2=>?_;obtain⟨v,h1,h2⟩:=el.at e2;exact⟨v,by rw[e1];exact h1,h2⟩
theorem Vp:Tw K (ME K) FR:=by
 intro Y H x y d1 d2 z Q lv b1 b2 e q;cases d1 with
 |lst a=>
  cases d2 with
  |int i=>
   refine bB e λd e1 e=>?_;cases e;obtain⟨p,xs,rfl,hp,el⟩:=b1;obtain⟨v,h1,h2⟩:=xn el e1;exact⟨p,xs,i,v,rfl,b2,.inl (.inl hp),h1,q v H (Ts.refl H) h2⟩
  |_=>cases e
 |fl a=>
  cases d2 with
  |int i=>
   refine bB e λd e1 e=>?_;cases e;obtain⟨p,xs,rfl,hp,el⟩:=b1;obtain⟨v,h1,h2⟩:=xn el e1;exact⟨p,xs,i,v,rfl,b2,hp.sq,h1,q v H (Ts.refl H) h2⟩
  |_=>cases e
 |_=>cases e
theorem Vq:Tw K (MF K) Ja:=by
 intro Y H x y d1 d2 z Q lv b1 b2 e q;cases d1 with
 |tup a=>
  cases d2 with
  |int i=>
   refine bB e λd e1 e=>?_;cases e;obtain⟨p,xs,rfl,hp,el⟩:=b1;obtain⟨v,h1,h2⟩:=xn el e1;exact⟨p,xs,i,v,rfl,b2,hp.sq,h1,q v H (Ts.refl H) h2⟩
  |_=>cases e
 |_=>cases e
theorem Nw:Tw K MG Nv:=by
 intro Y H x y d1 d2 z Q lv b1 b2 e q;cases d1 with
 |str a=>
  cases d2 with
  |int i=>
   obtain⟨c,e⟩:=aG e;refine bB e λch e1 e=>?_;cases e;exact⟨a,i,ch,b1,b2,few c,e1,q _ H (Ts.refl H) (.str _)⟩
  |_=>cases e
 |_=>cases e
def dG:=nM FR (nM Ja Nv)
def Qo:Tw K (R9 K) dG:=Vp.or (Vq.or Nw)
abbrev FO:=En->Option (Option Int×En)
def RS(K:PySem.W.Frag)(t:TO)(f:FO):Prop:=∀(st:En)(σ:St)(H:Hp)(O Z:AS)(Q:S9 Int->Hp->Prop),ER K st σ H O Z->∀c Tn,f st=some (c,Tn)->
 (∀H' O',TK O H O' H'->Kp st Tn->ER K Tn σ H' O' Z->Q c H')->t σ H Q
def yO:FO:=λst=>some (none,st)
def Nx:RS K yw yO:=by
 intro st σ H O Z Q E c Tn e q;cases e;exact q H O (TK.refl _ _) (Kp.refl _) E
def asInt(st:En)(r:Rs):S9 Int:=match cont st r with|some (.int i)=>some i|_=>none
def bU(fe:FE):FO:=λst=>(fe st).bind λx=>(asInt x.2 x.1).bind λi=>some (some i,x.2)
def vF(h:dC K te fe):RS K (K2 te) (bU fe):=by
 intro st σ H O Z Q E c Tn e q;refine cx e λr Tr e1 e=>?_;refine bB e λi e2 e=>?_;cases e;refine h st σ H O Z _ E r _ e1 λv H1 O1 x1 k1 E1 rv w=>?_;have ev:v=.int i:=by
  unfold asInt at e2;split at e2
  ·rename_i j ej
   cases e2;exact rv.ba E1 ej
  ·cases e2
 exact⟨i,ev,q H1 O1 x1 k1 E1⟩
def Uh(K:PySem.W.Frag)(r:V->S9 Int->S9 Int->Hp->VK->Prop)(b:D->S9 Int->S9 Int->S9 Rz):Prop:=∀(Y:AS)(H:Hp)(x:V)(lo hi:S9 Int)(d1:D)(z:Rz)(Q:VK),(∀p,Y p->Lv H p)->BA K Y H x d1->b d1 lo hi=some z->
 (∀v H',Ts H H'->UC K Y H H' v z->Q v H')->r x lo hi H Q
def o8(b:D->S9 Int->S9 Int->S9 Rz)(fe:FE)(fl fh:FO):FE:=λst=>(fe st).bind λx=>(fl x.2).bind λl=>(fh l.2).bind λu=>(cont u.2 x.1).bind λd=>(b d l.1 u.1).bind λz=>some (mk z,u.2)
def vG(hr:Uh K r b)(he:dC K te fe)(hl:RS K tl fl)(hh:RS K th fh):dC K (SO r te tl th) (o8 b fe fl fh):=by
 intro st σ H O Z Q E r' Tn h q;refine cx h λr1 Tr e1 h=>?_;refine cx h λlo TR e2 h=>?_;refine cx h λhi Us e3 h=>?_;refine bB h λd1 e4 h=>?_;refine bB h λz e5 h=>?_;cases h;refine he st σ H O Z _ E r1 Tr e1 λv1 H1 O1 x1 k1 E1 rv1 w1=>?_;refine hl Tr σ H1 O1 Z _ E1 lo TR e2 λH2 O2 x2 k2 E2=>?_;refine hh TR σ H2 O2 Z _ E2 hi _ e3 λH3 O3 x3 k3 E3=>?_;have b1:=(rv1.nf.ext (x2.trans x3) (k2.trans k3)).ba E3 (by rw[fu];exact e4)
 refine hr (U O3 Z) H3 v1 lo hi d1 z _ E3.liv b1 e5 λv H4 s hres=>?_;obtain⟨E4,rv4⟩:=hres.rv E3 s;have xx:=(x1.trans x2).trans x3;exact q v H4 O3 (xx.trans (Ts.ext s)) ((k1.trans k2).trans k3) E4 rv4 (hres.fsh.back xx)
def cutD(xs:S8 D)(lo hi:S9 Int):S8 D:=(xs.drop (HT.sIx xs.length 0 lo)).take (HT.sIx xs.length xs.length hi-HT.sIx xs.length 0 lo)
def El.cut(el:El K Y H vs ds)(lo hi:S9 Int):El K Y H (vm vs lo hi) (cutD ds lo hi):=by
 unfold vm cutD;rw[el.1];exact(el.drop _).take _
def Jb(b b':D->S9 Int->S9 Int->S9 Rz):D->S9 Int->S9 Int->S9 Rz:=λx l h=>match b x l h with|some z=>some z|none=>b' x l h
def Uh.or(h:Uh K r b)(h':Uh K r' b'):Uh K (λx lo hi H Q=>r x lo hi H Q\/r' x lo hi H Q) (Jb b b'):=by grind [Uh,Jb]
def FU:D->S9 Int->S9 Int->S9 Rz|.lst ds,lo,hi=>some (.lst (cutD ds lo hi),true)|.fl ds,lo,hi=>some (.lst (cutD ds lo hi),true)|_,_,_=>none
theorem Qp:Uh K (MI K) FU:=by
 intro Y H x lo hi d1 z Q lv b1 e q;cases d1 with
 |lst a=>
  cases e;obtain⟨p,xs,rfl,hp,el⟩:=b1;exact⟨p,xs,rfl,.inl (.inl hp),λr hr=>q _ _ (aF hr _) (fR (el.cut lo hi) hr)⟩
 |fl a=>
  cases e;obtain⟨p,xs,rfl,hp,el⟩:=b1;exact⟨p,xs,rfl,hp.sq,λr hr=>q _ _ (aF hr _) (fR (el.cut lo hi) hr)⟩
 |_=>cases e
def tT:D->S9 Int->S9 Int->S9 Rz|.tup ds,lo,hi=>if HT.sIx ds.length 0 lo=0/\HT.sIx ds.length ds.length hi=ds.length then none else some (.tup (cutD ds lo hi),false)|_,_,_=>none
theorem Qq:Uh K (MC K) tT:=by
 intro Y H x lo hi d1 z Q lv b1 e q;cases d1 with
 |tup a=>
  by_cases c:HT.sIx a.length 0 lo=0/\HT.sIx a.length a.length hi=a.length
  ·simp only[tT,Af c]at e;cases e
  ·simp only[tT,Ah c]at e;cases e;obtain⟨p,xs,rfl,hp,el⟩:=b1;exact⟨p,xs,rfl,hp.sq,by rw[el.1];exact c,λr hr=>q _ _ (aF hr _) (jF (el.cut lo hi) hr lv)⟩
 |_=>cases e
def Jc:D->S9 Int->S9 Int->S9 Rz|.str z,lo,hi=>if z.length<=1000000 then some (.str (Txt.slice z lo hi),false) else none|_,_,_=>none
theorem Qr:Uh K (λx lo hi H Q=>∃z:Str,x=.str z/\z.length<=sizeLine/\Q (.str (Txt.slice z lo hi)) H) Jc:=by
 intro Y H x lo hi d1 z Q lv b1 e q;cases d1 with
 |str a=>
  obtain⟨c,e⟩:=aG e;cases e;exact⟨a,b1,few c,q _ H (Ts.refl H) (.str _)⟩
 |_=>cases e
def DI:=Jb FU (Jb tT Jc)
def Lm:S8 D->S9 Rz|[d]=>(d.seq).bind λds=>some (.int ds.length,false)|_=>none
theorem UX:TZ K (λxs H Q=>∃p ys,xs=[.ref p]/\(gR K H p ys\/iH K H p ys)/\Q (.int ys.length) H) Lm:=by
 intro Y H xs ds z Q lv bs e q;cases bs with
 |nil=>cases e
 |cons b1 bs=>
  cases bs with
  |cons _ _=>cases e
  |nil=>
   refine bB e λes e1 e=>?_;cases e;obtain⟨a,vs,rfl,sq,el⟩:=pV b1 e1;refine⟨a,vs,rfl,sq,?_⟩;rw[el.1];exact q _ H (Ts.refl H) (.int _)
def Lo:S8 D->S9 Rz|[.str z]=>if z.length<=1000000 then some (.int z.length,false) else none|_=>none
theorem Jd:TZ K (λxs H Q=>∃z:Str,xs=[.str z]/\z.length<=sizeLine/\Q (.int z.length) H) Lo:=by
 intro Y H xs ds z Q lv bs e q;cases bs with
 |nil=>cases e
 |@cons v vs d ds b1 bs=>
  cases bs with
  |cons _ _=>cases d<;>cases e
  |nil=>
   cases d with
   |str a=>
    obtain⟨c,e⟩:=aG e;cases e;exact⟨a,by rw[show v=V.str a from b1],few c,q _ H (Ts.refl H) (.int _)⟩
   |_=>cases e
def dS:=P2 Lm Lo
def Lp:S8 D->S9 Rz|[d]=>(d.seq).bind λds=>some (.lst ds,true)|_=>none
theorem UY:TZ K (λxs H Q=>∃p ys,xs=[.ref p]/\(gR K H p ys\/iH K H p ys)/\∀l,H l=none->Q (.ref l) (upd H l (.lst ys))) Lp:=by
 intro Y H xs ds z Q lv bs e q;cases bs with
 |nil=>cases e
 |cons b1 bs=>
  cases bs with
  |cons _ _=>cases e
  |nil=>
   refine bB e λes e1 e=>?_;cases e;obtain⟨a,vs,rfl,sq,el⟩:=pV b1 e1;exact⟨a,vs,rfl,sq,λr hr=>q _ _ (aF hr _) (fR el hr)⟩
def FV:S8 D->S9 Rz|[.lst ds]=>some (.tup ds,false)|[.fl ds]=>some (.tup ds,false)|[.tup ds]=>some (.tup ds,false)|_=>none
theorem UL:TZ K (λxs H Q=>∃p ys,xs=[.ref p]/\((gR K H p ys/\∀l,H l=none->Q (.ref l) (upd H l (.tup ys)))\/(iH K H p ys/\Q (.ref p) H))) FV:=by
 intro Y H xs ds z Q lv bs e q;cases bs with
 |nil=>cases e
 |@cons v vs d ds b1 bs=>
  cases bs with
  |cons _ _=>cases d<;>cases e
  |nil=>
   cases d with
   |lst a=>
    cases e;obtain⟨p,xs,rfl,hp,el⟩:=b1;exact⟨p,xs,rfl,.inl ⟨.inl (.inl hp),λr hr=>q _ _ (aF hr _) (jF el hr lv)⟩⟩
   |fl a=>
    cases e;obtain⟨p,xs,rfl,hp,el⟩:=b1;exact⟨p,xs,rfl,.inl ⟨hp.sq,λr hr=>q _ _ (aF hr _) (jF el hr lv)⟩⟩
   |tup a=>
    cases e;obtain⟨p,xs,rfl,hp,el⟩:=b1;exact⟨p,xs,rfl,.inr ⟨hp.sq,q _ H (Ts.refl H) (.tup hp el.1 el.2)⟩⟩
   |_=>cases e
def sr:S8 D->S9 (S8 Te)|[]=>some []|.bl b::r=>(sr r).bind λbs=>some (b::bs)|_=>none
theorem vH:∀{ds:S8 D}{vs:S8 V}{bs:S8 Te},El K Y H vs ds->sr ds=some bs->vs=bs.map V.bl
 |[],vs,bs,el,e=>by cases e;exact el.unnil
 | d::r,vs,bs,el,e=>by
  obtain⟨v,t,rfl,da,el2⟩:=el.uncons;cases d with
  |bl b=>
   refine bB e λbs' e1 e=>?_;cases e;have h:=vH el2 e1;rw[h,show v=V.bl b from da.ba];rfl
  |_=>cases e
def Ny:S8 D->S9 Rz|[.lst ds]=>(sr ds).bind λbs=>some (.bl (bs.all id),false)|_=>none
theorem FW:TZ K (λxs H Q=>∃(p:Td)(bs:S8 Te),xs=[.ref p]/\gR K H p (bs.map V.bl)/\Q (.bl (bs.all id)) H) Ny:=by
 intro Y H xs ds z Q lv bs e q;cases bs with
 |nil=>cases e
 |@cons v vs d ds b1 bs=>
  cases bs with
  |cons _ _=>cases d<;>cases e
  |nil=>
   cases d with
   |lst a=>
    refine bB e λbs e1 e=>?_;cases e;obtain⟨p,xs,rfl,hp,el⟩:=b1;obtain rfl:=vH el e1;exact⟨p,bs,rfl,.inl (.inl hp),q _ H (Ts.refl H) (.bl _)⟩
   |_=>cases e
def Nz(K:PySem.W.Frag)(r:V->S8 V->Hp->VK->Prop)(b:D->S8 D->S9 Rz):Prop:=∀(Y:AS)(H:Hp)(x:V)(xs:S8 V)(d:D)(ds:S8 D)(z:Rz)(Q:VK),(∀p,Y p->Lv H p)->BA K Y H x d->U6 K Y H xs ds->b d ds=some z->
 (∀v H',Ts H H'->UC K Y H H' v z->Q v H')->r x xs H Q
def NA(T:String):D->Te|.str _=>decide (T="str")|.lst _=>decide (T="list")|.dk _=>decide (T="dict")|.dt _=>decide (T="dict")|_=>false
theorem Qs(h:BA K Y H v d)(e:NA T d=true):Pd K T v H:=by
 cases d with
 |str x=>
  have e':T="str":=Aj e;rw[show v=V.str x from h];exact e'
 |lst x=>obtain⟨a,vs,rfl,h1,_⟩:=h;exact .inl ⟨Aj e,vs,.inl (.inl h1)⟩
 |dk x=>obtain⟨a,vs,rfl,h1,_⟩:=h;exact .inr (.inr (.inl ⟨Aj e,.inl ⟨vs,h1⟩⟩))
 |dt x=>obtain⟨a,ep,vs,rfl,_,h1,_⟩:=h;exact .inr (.inr (.inl ⟨Aj e,.inr ⟨ep,vs,h1⟩⟩))
 |_=>cases e
def Qt(T:String)(b:D->S8 D->S9 Rz)(fo:FE)(fa:FA):FE:=λst=>(fo st).bind λx=>(cont x.2 x.1).bind λd0=>if NA T d0=true then(fa x.2).bind λy=>(cont y.2 x.1).bind λd=>(cj y.2 y.1).bind λds=>(b d ds).bind λz=>some (mk z,y.2) else none
def Lq(hr:Nz K r b)(ho:dC K to fo)(ha:tN K ta fa):dC K (Sb K T r to ta) (Qt T b fo fa):=by
 intro st σ H O Z Q E r' Tn h q;refine cx h λr1 Tr e1 h=>?_;refine bB h λd0 e2 h=>?_;obtain⟨c,h⟩:=aG h;refine cx h λrs TR e3 h=>?_;refine bB h λd e4 h=>?_;refine bB h λds e5 h=>?_;refine bB h λz e6 h=>?_;cases h;refine ho st σ H O Z _ E r1 Tr e1 λv1 H1 O1 x1 k1 E1 rv1 w1=>⟨Qs (rv1.ba E1 e2) c,?_⟩;refine ha Tr σ H1 O1 Z _ E1 rs _ e3 λvs H2 O2 x2 k2 E2 rvs=>?_;have b1:=(rv1.nf.ext x2 k2).ba E2 (by rw[fu];exact e4)
 refine hr (U O2 Z) H2 v1 vs d ds z _ E2.liv b1 (rvs.bas E2 e5) e6 λv H3 s hres=>?_;obtain⟨E3,rv3⟩:=hres.rv E2 s;exact q v H3 O2 ((x1.trans x2).trans (Ts.ext s)) (k1.trans k2) E3 rv3 (hres.fsh.back (x1.trans x2))
def jG:S8 D->S9 (S8 Str)|[]=>some []|.str x::r=>(jG r).bind λxs=>some (x::xs)|_=>none
theorem nO:∀{ds:S8 D}{vs:S8 V}{xs:S8 Str},El K Y H vs ds->jG ds=some xs->vs=xs.map V.str
 |[],vs,xs,el,e=>by cases e;exact el.unnil
 | d::r,vs,xs,el,e=>by
  obtain⟨v,t,rfl,da,el2⟩:=el.uncons;cases d with
  |str b=>
   refine bB e λxs' e1 e=>?_;cases e;have h:=nO el2 e1;rw[h,show v=V.str b from da.ba];rfl
  |_=>cases e
def FX:D->S8 D->S9 Rz|.str sep,[.lst ds]=>(jG ds).bind λys=>if (ys.map (·.length)).sum+ys.length*sep.length<=16777216 then some (.str (Txt.join sep ys),false) else none|_,_=>none
theorem yP:Nz K (λx vs H Q=>∃(sep:Str)(p:Td)(ys:S8 Str),x=.str sep/\vs=[.ref p]/\gR K H p (ys.map V.str)/\(ys.map (·.length)).sum+ys.length*sep.length<=16777216/\Q (.str (Txt.join sep ys)) H) FX:=by
 intro Y H x xs d ds z Q lv b1 bs e q;cases d with
 |str sep=>
  cases bs with
  |nil=>cases e
  |@cons v vs d ds b2 bs=>
   cases bs with
   |cons _ _=>cases d<;>cases e
   |nil=>
    cases d with
    |lst es=>
     refine bB e λys e1 e=>?_;obtain⟨c,e⟩:=aG e;cases e;obtain⟨p,ws,rfl,hp,el⟩:=b2;obtain rfl:=nO el e1;exact⟨sep,p,ys,b1,rfl,.inl (.inl hp),c,q _ H (Ts.refl H) (.str _)⟩
    |_=>cases e
 |_=>cases e
def yQ:D->S8 D->S9 Rz|.str a,[.str b]=>some (.bl (Txt.startswith a b),false)|_,_=>none
theorem su:Nz K (λx vs H Q=>∃(a b:Str),x=.str a/\vs=[.str b]/\Q (.bl (Txt.startswith a b)) H) yQ:=by
 intro Y H x xs d ds z Q lv b1 bs e q;cases d with
 |str a=>
  cases bs with
  |nil=>cases e
  |@cons v vs d ds b2 bs=>
   cases bs with
   |cons _ _=>cases d<;>cases e
   |nil=>
    cases d with|str b=>cases e;exact⟨a,b,b1,by rw[show v=V.str b from b2],q _ H (Ts.refl H) (.bl _)⟩|_=>cases e
 |_=>cases e
def pW:D->Te|.lst _=>true|_=>false
theorem Qu(h:OA K Y H p x)(e:pW x=true):Pd K "list" (.ref p) H:=by
 cases x with
 |lst ds=>obtain⟨vs,h1,_⟩:=h;exact .inl ⟨rfl,vs,.inl (.inl h1)⟩
 |_=>cases e
theorem El.upd(h:El K Y H vs ds)(hp:Y p):El K Y (L2.upd H p o) vs ds:=h.go (λb u e n=>by
 have hb:b≠p:=λz=>n (by rw[z];exact hp)
 rw[aO hb];exact e) λb z=>.inl z
theorem DA.upd(h:DA K Y H v d)(hp:Y p):DA K Y (L2.upd H p o) v d:=h.go (λb u e n=>by
 have hb:b≠p:=λz=>n (by rw[z];exact hp)
 rw[aO hb];exact e) λb z=>.inl z
def fB:D->S8 D->S9 (D×D)|.lst xs,[y]=>if xs.length<1000000 then some (.non,.lst (xs++[y])) else none|_,_=>none
theorem sw:U7 K "list" yy pW fB:=⟨λY H p x h e=>Qu h e,λY H p x vs ds y x' Q hp ho el e q=>by
 cases x with
 |lst xs=>
  cases ds with
  |nil=>cases e
  |cons d ds=>
   cases ds with
   |cons _ _=>cases e
   |nil=>
    obtain⟨c,e⟩:=aG e;cases e;obtain⟨ws,h1,h2⟩:=ho;obtain⟨v,r,rfl,da,el⟩:=el.uncons;obtain rfl:=el.unnil;exact⟨p,ws,v,rfl,rfl,h1,by rw[h2.1];exact few (by lia),q .non _ .non ⟨_,aS,(h2.app (El.one da)).upd hp⟩⟩
 |_=>cases e⟩
def NB:D->S8 D->S9 (D×D)|.lst xs,[]=>(xs[xs.length-1]?).bind λy=>some (y,.lst xs.dropLast)|_,_=>none
theorem FY:U7 K "list" PQ pW NB:=⟨λY H p x h e=>Qu h e,λY H p x vs ds y x' Q hp ho el e q=>by
 cases x with
 |lst xs=>
  cases ds with
  |cons _ _=>cases e
  |nil=>
   refine bB e λy' e1 e=>?_;cases e;obtain⟨ws,h1,h2⟩:=ho;obtain rfl:=el.unnil;obtain⟨v,g1,g2⟩:=h2.at e1;refine⟨p,ws,v,rfl,rfl,h1,by rw[h2.1];exact g1,q v _ (g2.upd hp) ⟨_,aS,?_⟩⟩
   rw[Dm,Dm,h2.1];exact(h2.take _).upd hp
 |_=>cases e⟩
def pX:D->S8 D->S9 (D×D)|.lst xs,[.int i]=>if -(2 ^ 63)<=i/\i<2 ^ 63 then(seqIndex? i xs.length).bind λk=>(xs[k]?).bind λy=>some (y,.lst (xs.eraseIdx k)) else none|_,_=>none
theorem vI:U7 K "list" Fg pW pX:=⟨λY H p x h e=>Qu h e,λY H p x vs ds y x' Q hp ho el e q=>by
 cases x with
 |lst xs=>
  cases ds with
  |nil=>cases e
  |cons d ds=>
   cases d with
   |int i=>
    cases ds with
    |cons _ _=>cases e
    |nil=>
     obtain⟨c,e⟩:=aG e;refine bB e λk e1 e=>?_;refine bB e λy' e2 e=>?_;cases e;obtain⟨ws,h1,h2⟩:=ho;obtain⟨v,r,rfl,da,el⟩:=el.uncons;obtain rfl:=el.unnil;obtain rfl:=(show v=V.int i from da.ba);obtain⟨u,g1,g2⟩:=h2.at e2;exact⟨p,ws,i,k,u,rfl,rfl,h1,c.1,c.2,by rw[h2.1];exact e1,g1,q u _ (g2.upd hp) ⟨_,aS,(h2.erase k).upd hp⟩⟩
   |_=>cases ds<;>cases e
 |_=>cases e⟩
def pY:D->D->D->S9 D|.lst xs,.int k,v=>(K3 xs.length k).bind λj=>some (.lst (xs.set j v))|_,_,_=>none
theorem DJ:Fz K K4 pY:=by
 intro Y H p x k v dk dv x' Q hp ho bk da e q;cases x with
 |lst xs=>
  cases dk with
  |int i=>
   refine bB e λj e1 e=>?_;cases e;obtain⟨ws,h1,h2⟩:=ho;exact⟨p,ws,i,j,rfl,bk,h1,by rw[h2.1];exact e1,q _ ⟨_,aS,(h2.set da j).upd hp⟩⟩
  |_=>cases e
 |_=>cases e
def FZ(xs:S8 Str):FA:=λst=>some (xs.map λx=>.d (.str x),st)
theorem Je:tN K (La xs) (FZ xs):=by
 intro st σ H O Z Q E rs Tn e q;cases e;refine q _ H O (TK.refl _ _) (Kp.refl _) E ?_;clear q;induction xs with|nil=>exact .nil|cons x r ih=>exact .cons (show DA K _ H (.str x) (.str x) from .str x) ih
end
open PySem.Spec PyProof.Rows
section
variable {X:Cx}{K:PySem.W.Frag}{Y:AS}{H:Hp}{v:V}{d:D}{vs:S8 V}{ds:S8 D}
def F3(K:PySem.W.Frag):R2:=λx y H Q=>(u9 λi j=>.int (i+j)) x y H Q\/((∃i j,x=.str i/\y=.str j/\i.length+j.length<=sizeLine/\Q (.str (i++j)) H)\/(MM x y H Q\/Fb K x y H Q))
def aK(h:X.K=K):T4 X (binaryOp .Add) (F3 K):=U2.or (UA.or (U5.or (h ▸ IM)))
def UJ:Tw K (F3 K) bF:=UU.or (UW.or (Vn.or I8))
def Lr:R2:=λx y H Q=>(rI Uu λi j=>.int (i*j)) x y H Q\/(∃(a:Str)(n:Int),x=.str a/\y=.int n/\MulOk a n/\Q (.str (Txt.mul a n)) H)
def mO:T4 X (binaryOp .Mult) Lr:=U3.or xg
def Jf:Tw K Lr oN:=UV.or I9
def Qv:R2:=λx y H Q=>(u9 λi j=>.bl (decide (i<j))) x y H Q\/(∃i j,x=.str i/\y=.str j/\Q (.bl (decide (i.cps.toList<j.cps.toList))) H)
def iM:T4 X (compareOp .Lt) Qv:=Vt.or zZ
def NC:Tw K Qv xl:=U8.or Np
def Qw(K:PySem.W.Frag):R2:=λx y H Q=>(∃i j,x=.str i/\y=.str j/\Q (.bl (!(Builtin.Str.occurrences j i 0 j.length 1).isEmpty)) H)\/Sa K false x y H Q
def ND(h:X.K=K):T4 X (compareOp .In) (Qw K):=UK.or (h ▸ Du)
def NE:Tw K (Qw K) Qn:=Vo.or (Nu false)
def uV:=FN false
def d6(_:X.K=K)(_:X.A.units+64<cLine):T4 X (compareOp .Eq) PH:=PJ
def UM:Tw K PH uV:=Nk
def NF:D->D->S9 Rz|.lst xs,.lst []=>some (.bl (!xs.isEmpty),false)|_,_=>none
def Qx(K:PySem.W.Frag):R2:=λx y H Q=>∃(a b:Td)(xs:S8 V),x=.ref a/\y=.ref b/\gR K H a xs/\gR K H b []/\Q (.bl (!xs.isEmpty)) H
theorem NG:Tw K (Qx K) NF:=by
 intro Y H x y d1 d2 z Q lv b1 b2 e q;cases d1 with
 |lst xs=>
  cases d2 with
  |lst ys=>
   cases ys with
   |nil=>
    cases e;obtain⟨p,ws,rfl,hp,el⟩:=b1;obtain⟨p2,zs,rfl,hp2,el2⟩:=b2;obtain rfl:=el2.unnil;refine⟨p,p2,ws,rfl,rfl,.inl (.inl hp),.inl (.inl hp2),?_⟩;have e:ws.isEmpty=xs.isEmpty:=by
     cases ws with
     | nil=>cases xs with|nil=>rfl|cons _ _=>cases el.1
     | cons _ _=>cases xs with|nil=>cases el.1|cons _ _=>rfl
    rw[e];exact q _ H (Ts.refl H) (.bl _)
   |cons _ _=>cases e
  |_=>cases e
 |_=>cases e
def Iw:=nM (FN true) NF
def NH(K:PySem.W.Frag):R2:=λx y H Q=>R7 x y H Q\/Qx K x y H Q
def pZ(h:X.K=K)(hu:X.A.units+64<cLine):T4 X (compareOp .NotEq) (NH K):=Vs.or (by subst h;exact MW (by lia))
def UN:Tw K (NH K) Iw:=U9.or NG
def NI(K:PySem.W.Frag):V->S9 Int->S9 Int->Hp->VK->Prop:=λx lo hi H Q=>MI K x lo hi H Q\/(MC K x lo hi H Q\/(∃z:Str,x=.str z/\z.length<=sizeLine/\Q (.str (Txt.slice z lo hi)) H))
def tU(h:X.K=K):UH X (NI K):=UH.or (h ▸ IO) (UH.or (h ▸ MD) MS)
def yR:Uh K (NI K) DI:=Uh.or Qp (Uh.or Qq Qr)
def Ls(K:PySem.W.Frag):S8 V->Hp->VK->Prop:=λxs H Q=>(∃p ys,xs=[.ref p]/\(gR K H p ys\/iH K H p ys)/\Q (.int ys.length) H)\/(∃z:Str,xs=[.str z]/\z.length<=sizeLine/\Q (.int z.length) H)
def bc(h:X.K=K):TB X (.builtin "len") (Ls K):=TB.or (h ▸ tG) tH
def NJ:TZ K (Ls K) dS:=UX.or Jd
def F4(z:Str):El K Y H (sgn z) (vz z):=by
 refine⟨by simp[sgn,vz],λi v d h1 h2=>?_⟩
 unfold sgn at h1;unfold vz at h2;rw[Xb]at h1 h2;obtain⟨c,e1,rfl⟩:=Xc.mp h1;rw[e1]at h2;obtain rfl:=Option.some.inj h2;exact .str _
def F5:S8 D->S9 Rz|[.str z]=>if z.cps.size<=1000000 then some (.lst (vz z),true) else none|_=>none
def F6:S8 V->Hp->VK->Prop:=λxs H Q=>∃z:Str,xs=[.str z]/\z.cps.size<=sizeLine/\∀l,H l=none->Q (.ref l) (upd H l (.lst (sgn z)))
theorem F7:TZ K F6 F5:=by
 intro Y H xs ds z Q lv bs e q;cases bs with
 |nil=>cases e
 |@cons v vs d ds b1 bs=>
  cases bs with
  |cons _ _=>cases d<;>cases e
  |nil=>
   cases d with
   |str a=>
    obtain⟨c,e⟩:=aG e;cases e;exact⟨a,by rw[show v=V.str a from b1],few c,λr hr=>q _ _ (aF hr _) (fR (F4 a) hr)⟩
   |_=>cases e
def yS:S8 D->S9 Rz|[.str z]=>if z.cps.size<=1000000 then some (.tup (vz z),false) else none|_=>none
def yT:S8 V->Hp->VK->Prop:=λxs H Q=>∃z:Str,xs=[.str z]/\z.cps.size<=sizeLine/\∀l,H l=none->Q (.ref l) (upd H l (.tup (sgn z)))
theorem DK:TZ K yT yS:=by
 intro Y H xs ds z Q lv bs e q;cases bs with
 |nil=>cases e
 |@cons v vs d ds b1 bs=>
  cases bs with
  |cons _ _=>cases d<;>cases e
  |nil=>
   cases d with
   |str a=>
    obtain⟨c,e⟩:=aG e;cases e;exact⟨a,by rw[show v=V.str a from b1],few c,λr hr=>q _ _ (aF hr _) (jF (F4 a) hr lv)⟩
   |_=>cases e
def xo:=P2 Lp F5
def fS:=P2 FV yS
def F8(K:PySem.W.Frag):S8 V->Hp->VK->Prop:=λxs H Q=>(∃p ys,xs=[.ref p]/\(gR K H p ys\/iH K H p ys)/\∀l,H l=none->Q (.ref l) (upd H l (.lst ys)))\/F6 xs H Q
def yU(K:PySem.W.Frag):S8 V->Hp->VK->Prop:=λxs H Q=>(∃p ys,xs=[.ref p]/\((gR K H p ys/\∀l,H l=none->Q (.ref l) (upd H l (.tup ys)))\/(iH K H p ys/\Q (.ref p) H)))\/yT xs H Q
def p6(h:X.K=K)(hc:X.calm=true):TB X (.type "list") (F8 K):=TB.or (h ▸ tI) (pP hc)
def cU(h:X.K=K)(hc:X.calm=true):TB X (.type "tuple") (yU K):=TB.or (h ▸ rm) (oK hc)
def F9:TZ K (F8 K) xo:=UY.or F7
def DL:TZ K (yU K) fS:=UL.or DK
def Jg:D->String|.non=>"NoneType"|.bl _=>"bool"|.int _=>"int"|.str _=>"str"|.tup _=>"tuple"|.lst _=>"list"|.fl _=>"list"|.dk _=>"dict"|.dt _=>"dict"|.ty _=>"type"|.fn _=>"type"
def Ga(n T:String):Te:=n == T||(n == "bool"&&T == "int")
def NK:∀n∈["NoneType","bool","int","str","tuple","list","dict"],∀T∈["bool","int","str","tuple","list","dict"],
  (if (Value.type n == Value.type T)=true then some true else if PySem.W.kitMeta T=true then(fastBuiltinMro n).map (·.contains (Value.type T)) else none)=some (Ga n T):=by decide +kernel
def Se:S8 D->S9 Rz|[d,.ty T]=>if (["bool","int","str","tuple","list","dict"].contains T&&Jg d != "type")=true then some (.bl (Ga (Jg d) T),false) else none|_=>none
def cO:=Se
def Qy(K:PySem.W.Frag):S8 V->Hp->VK->Prop:=λxs H Q=>∃(Y:AS)(x:V)(d:D)(T:String),xs=[x,.ty T]/\BA K Y H x d/\(["bool","int","str","tuple","list","dict"].contains T&&Jg d != "type")=true/\Q (.bl (Ga (Jg d) T)) H
theorem DM:TZ K (Qy K) cO:=by
 intro Y H xs ds z Q lv bs e q;cases bs with
 |nil=>cases e
 |@cons v vs d ds b1 bs=>
  cases bs with
  |nil=>cases e
  |@cons v2 vs2 d2 ds2 b2 bs=>
   cases bs with
   |cons _ _=>cases d2<;>cases e
   |nil=>
    cases d2 with
    |ty T=>
     obtain⟨c,e⟩:=aG e;cases e;exact⟨Y,v,d,T,by rw[show v2=V.ty T from b2],b1,c,q _ H (Ts.refl H) (.bl _)⟩
    |_=>cases e
def bp(h:X.K=K):TB X (.builtin "isinstance") (Qy K):=by
 subst h;intro Ti s σ H xs us Q I rv h;obtain⟨Y,x,d,T,rfl,b1,c,q⟩:=h;obtain⟨u,w',rfl,rx,ry⟩:=vals2 rv;cases (show w'=Value.type T from ry);rw[Qf]at c;have hT:T∈["bool","int","str","tuple","list","dict"]:=List.contains_iff_mem.mp c.1;refine bJ ?_;have fin:∀tk,s.toks<=tk->EP X Ti σ Q (.bool (Ga (Jg d) T)) { s with toks:=tk }:=λtk hle=>⟨.bl _,H,I.tok tk (I.tkl' hle),rfl,q⟩;have ko:∀n∈["NoneType","bool","int","str","tuple","list","dict"],Jg d=n->PySem.W.kitOne X.K (.type n) (.type T)=some (Ga (Jg d) T):=λn hn e=>by
  rw[e];exact MV (NK n hn T hT)
 cases d with
 |non=>
  obtain rfl:=(show x=V.non from b1);exact eV I rx .non (ko "NoneType" (by decide) rfl) fin
 |bl b=>
  obtain rfl:=(show x=V.bl b from b1);exact eV I rx (.bl b) (ko "bool" (by decide) rfl) fin
 |int i=>
  obtain rfl:=(show x=V.int i from b1);exact eV I rx (.int i) (ko "int" (by decide) rfl) fin
 |str z=>
  obtain rfl:=(show x=V.str z from b1);exact eV I rx (.str z) (ko "str" (by decide) rfl) fin
 |ty n=>exact absurd c.2 (by simp[Jg])
 |fn _=>exact absurd c.2 (by simp[Jg])
 |lst ds=>
  obtain⟨a,vs,rfl,h1,_⟩:=b1;exact eV I rx (.lst h1) (ko "list" (by decide) rfl) fin
 |fl ds=>
  obtain⟨a,vs,rfl,h1,_⟩:=b1;cases (show u=Value.ref a from rx);obtain⟨its,_,pl,_⟩:=I.list h1.sq;obtain⟨o,ho,hc,_⟩:=pl.isList;exact PySem.W.kia_one PySem.W.kitx_list I.kIn ⟨o,ho,hc⟩ (ko "list" (by decide) rfl) (λz=>nomatch z) fin
 |tup ds=>
  obtain⟨a,vs,rfl,h1,_⟩:=b1;cases (show u=Value.ref a from rx);obtain⟨its,_,pl,_⟩:=I.tuple h1.sq;obtain⟨o,ho,hc,_⟩:=pl;exact PySem.W.kia_one PySem.W.kitx_tuple I.kIn ⟨o,ho,hc⟩ (ko "tuple" (by decide) rfl) (λz=>nomatch z) fin
 |dk ds=>
  obtain⟨a,vs,rfl,h1,_⟩:=b1;exact eV I rx (.dK h1) (ko "dict" (by decide) rfl) fin
 |dt ds=>
  obtain⟨a,ep,vs,rfl,_,h1,_⟩:=b1;exact eV I rx (.dT h1) (ko "dict" (by decide) rfl) fin
def oO(l:Td)(its:Tc Ta)(n:Nat)(b:Td)(more:Tc Ta)(m:Nat)(dd:S9 Td)(sl:Tc (S9 Ta))(h0:¬(!its.isEmpty&&Builtin.List.listTooLong (its.size+more.size))=true)(h1:its.size<=sizeLine)(h2:its.size+more.size<=sizeLine+1) :
  Meets (Builtin.«list.extend» ⟨[.ref l,.ref b],[]⟩) (λ_ R s=>s.heap.get? l=some { cls:=.type "list",dict:=none,data:=.seq its n,slots:=#[] }/\s.heap.get? b=some { cls:=.type "tuple",dict:=dd,data:=.seq more m,slots:=sl }/\R (.ok (.ret Value.none)) { s with heap:=s.heap.update l (Obj.mapSeq λx=>x++more),toks:=s.toks }) :=
 .of_wp λprog w A R s0 hh=>by
  obtain⟨hp,gg,dp,tks,oo⟩:=s0;obtain⟨hl,hb,hR⟩:=hh;have a1:=AutoSeq1.idx_int;have a2:=AutoSeq1.sub_tuple_tuple;have a3:=AutoSeq1.sub_list_list;have a4:=AutoSeq1.sub_tuple_list;have a5:=AutoSeq1.sub_list_tuple;have fits:(its++more).size<=sizeLine+1:=by
   rw[Array.size_append];exact h2
  wp_walk using (wpAny_updateSeq hl rfl (hz:=h1) (_hz':=fits)),Aq hl,Aq hb
  exact⟨_,rfl,hR⟩
def Lu(K:PySem.W.Frag):V->S8 V->Hp->VK->Prop:=λx vs H Q=>∃l b xs zs,x=.ref l/\vs=[.ref b]/\H l=some (.lst xs)/\iH K H b zs/\xs.length+zs.length<=sizeLine/\Q .non (upd H l (.lst (xs++zs)))
def Jh(h:X.K=K):MK X "list.extend" (Lu K):=by
 subst h;intro Ti s σ H x vs v us Q I rx rv h;obtain⟨l,b,xs,zs,rfl,rfl,hH,hB,hz,q⟩:=h;cases rx;obtain⟨u,rfl,ru⟩:=rv.one;cases ru;obtain⟨z,its,n,r,hl,e⟩:=I.lstM hH;obtain⟨its2,r2,pl,hz2⟩:=I.tuple hB;obtain⟨⟨c2,dd2,d2,sl2⟩,ho2,hc2,n2,hd2⟩:=id pl;obtain rfl:c2=.type "tuple":=hc2;obtain rfl:d2=.seq its2.toArray n2:=hd2;have hl2:=r2.length;have hsz:its.toArray.size+its2.toArray.size<=sizeLine:=by rw[Yb,Yb];lia
 have hlong:¬ (!its.toArray.isEmpty&&Builtin.List.listTooLong (its.toArray.size+its2.toArray.size))=true:=by
  rw[vn hsz,C5];exact Xd
 refine Ba F.slot_list_extend ⟨_,e,rfl⟩ F.entry_list_extend (F.args_list_extend_2 _ _)
  (oO l its.toArray n b its2.toArray n2 dd2 sl2 hlong (by rw[Yb];lia) (by lia)) ⟨e,ho2,?_⟩
 refine⟨.non,_,I.lset (its':=its++its2) hH e (by simp) (r.append r2) ?_,rfl,q⟩
 rw[Qa];lia
def Lx(K:PySem.W.Frag):V->S8 V->Hp->VK->Prop:=λx vs H Q=>yz x vs H Q\/Lu K x vs H Q
def iN(h:X.K=K)(_:X.calm=true):MK X "list.extend" (Lx K):=by
 intro Ti s σ H x vs v us Q I rx rv hh;rcases hh with hh|hh
 ·exact Dv Ti s σ H x vs v us Q I rx rv hh
 ·exact Jh h Ti s σ H x vs v us Q I rx rv hh
def kl:D->S8 D->S9 (D×D)|.lst xs,[.lst ys]=>if xs.length+ys.length<=1000000 then some (.non,.lst (xs++ys)) else none|.lst xs,[.tup ys]=>if xs.length+ys.length<=1000000 then some (.non,.lst (xs++ys)) else none|_,_=>none
theorem sx:U7 K "list" (Lx K) pW kl:=⟨λY H p x h e=>Qu h e,λY H p x vs ds y x' Q hp ho el e q=>by
 cases x with
 |lst xs=>
  cases ds with
  |nil=>cases e
  |cons d ds=>
   cases ds with
   |cons _ _=>cases d<;>cases e
   |nil=>
    obtain⟨ws,h1,h2⟩:=ho;obtain⟨v,r,rfl,da,el⟩:=el.uncons;obtain rfl:=el.unnil;cases d with
    |lst ys=>
     obtain⟨c,e⟩:=aG e;cases e;cases da with|@lst a us _ g0 g1 g2 g3=>exact .inl ⟨p,a,ws,us,rfl,rfl,h1,g1,by rw[h2.1,g2];exact few c,q .non _ .non ⟨_,aS,(h2.app ⟨g2,g3⟩).upd hp⟩⟩
    |tup ys=>
     obtain⟨c,e⟩:=aG e;cases e;cases da with|@tup a us _ g1 g2 g3=>exact .inr ⟨p,a,ws,us,rfl,rfl,h1,g1.sq,by rw[h2.1,g2];exact few c,q .non _ .non ⟨_,aS,(h2.app ⟨g2,g3⟩).upd hp⟩⟩
    |_=>cases e
 |_=>cases e⟩
def Qz(K:PySem.W.Frag)(tl:TE):TI:=λσ H R=>yo K tl σ H R\/(Mo K tl σ H R\/MQ tl σ H R)
def bY(h:X.K=K)(hl:PE X l tl):PI X tg l (Qz K tl):=by
 subst h;intro Ti s σ H R I hh;rcases hh with hh|hh|hh
 ·exact IC hl Ti s σ H R I hh
 ·exact Mp hl Ti s σ H R I hh
 ·exact MR hl Ti s σ H R I hh
def kQ(fe:FE):FI:=λst=>match Pg fe st with
 |some z=>some z
 | none=>match RQ fe st with|some z=>some z|none=>SQ fe st
def Gb(h:dC K te fe):UD K (Qz K te) (kQ fe):=by
 intro st σ H O Z R E items Tn e q;unfold kQ at e;split at e
 ·rename_i z ez
  cases e;exact .inl (IX h st σ H O Z R E items Tn ez q)
 ·split at e
  ·rename_i z ez
   cases e;exact .inr (.inl (M7 h st σ H O Z R E items Tn ez q))
  ·exact .inr (.inr (M9 h st σ H O Z R E items Tn e q))
end
section
def Uj:Slot "reversed" "__next__" "reversed.__next__":=by
 refine .of (owner:="reversed") (n:="__next__") ?_ ?_ ?_ ?_ ?_ ?_
 ·rw[BN,A6]
  kernel_rfl
 ·decide +kernel
 ·decide +kernel
 ·decide +kernel
 ·first
   | exact .inl (by decide +kernel)
   | exact .inr (by decide +kernel)
 ·rw[BT]
  kernel_rfl
def yV:Slot "reversed" "__iter__" "reversed.__iter__":=by
 refine .of (owner:="reversed") (n:="__iter__") ?_ ?_ ?_ ?_ ?_ ?_
 ·rw[BN,A6]
  kernel_rfl
 ·decide +kernel
 ·decide +kernel
 ·decide +kernel
 ·first
   | exact .inl (by decide +kernel)
   | exact .inr (by decide +kernel)
 ·rw[BT]
  kernel_rfl
def vJ:entryFor table "reversed.__next__"=some Builtin.«reversed.__next__»:=by
 refine entryFor_of_tree ?_
 kernel_rfl
def yW(a:Ta):argsOk "reversed.__next__" ⟨[a],[]⟩:=by
 unfold argsOk
 kernel_rfl
def Ji(a:Ta):argsOk "reversed.__iter__" ⟨[a],[]⟩:=by
 unfold argsOk
 kernel_rfl
def Gc:entryFor table "reversed.__iter__"=some Builtin.«dict_keyiterator.__iter__»:=by
 refine entryFor_alias (id':="dict_keyiterator.__iter__") ?_ ?_ ?_ ?_
 ·kernel_rfl
 ·first
   | rfl
   | decide +kernel
   | (unfold String.splitOn;simp +decide [String.splitOnAux])
 ·decide +kernel
 ·kernel_rfl
variable {prog:Tf}{w:Th}{A:Around}{E:Ta->Tb->Prop}{s:Tb}
def Uz(h:Tg)(it a:Td)(i:Int):Prop:=∃o,h.get? it=some o/\o.cls=.type "reversed"/\o.data=.fields #[.ref a,rawInt i]
def Uz.ty(x:Uz s.heap it a i):s.TypeIs (.ref it) "reversed":=by
 obtain⟨o,ho,hc,_⟩:=x;exact⟨o,ho,hc⟩
def Jj{it a:Td}{i:Nat}{items:Tc Ta}{x:Ta}{Q:S9 Ta->Tb->Prop}(hit:Uz s.heap it a (i:Int))(ht:IsTup s.heap a items)(hx:items[i]?=some x)(hz:items.size<=sizeLine)
  (hQ:∀h' t',Uz h' it a ((i:Int)-1)->Heap.SameBut it s.heap h'->Q (some x) { s with heap:=h',toks:=t' }):wpAny (model prog w) A (pyNext (.ref it)) Q E s:=by
 obtain⟨o,ho,hc,hd⟩:=id hit;have hi:i<items.size:=(Xm.mp hx).1;have hs:=AO;unfold pyNext;refine Aa (AA (Ao (name:=Str.ofString "__next__") hit.ty Uj (An Uj hit.ty vJ ?_ (yW _))));unfold Builtin.«reversed.__next__»;refine Aa (AF (a:=(Value.ref it,[])) rfl ?_)
 try dsimp only
 refine Aa (Ap ho hd (x:=.ref a) rfl ?_);refine Aa (Ap ho hd (x:=rawInt (i:Int)) rfl ?_);show wpAny _ _ (if (i:Int)<0 then _ else _) _ _ s;rw[Ah (show ¬ ((i:Int)<0) by lia)]
 refine Aa (AI ht.typeIs F.slot_tuple_getitem.lookup ?_)
 try dsimp only
 rw[Ah (by simp)]
 refine Aa (wpAny_mkInt ?_);refine Aa (AA (getItem_tuple (s:={ s with toks:=s.toks+1 }) (show IsTup s.heap a items from ht) (by lia) (by lia) (CJ (by lia) (by lia)) (by simpa using hx) ?_))
 refine Aa (Ap (s:={ s with toks:=s.toks+1 }) ho hd (x:=rawInt (i:Int)) rfl ?_);show wpAny _ _ (setField (Value.ref it) 1 (rawInt ((i:Int)-1)) >>= _) _ _ _;refine Aa (AM (s:={ s with toks:=s.toks+1 }) ho hd (by simp) ?_)
 refine Ac ⟨x,rfl,Ac (hQ _ _ ?_ (AT ..))⟩;refine⟨_,AK _ ho (A7 (Ay hd _)),(Cq ..).trans hc,?_⟩;rw[Ay hd];simp
def NM(hh:A.handled=none)(hit:Uz s.heap it a j)(hj:j<0)
  (hQ:∀h',Heap.ExtBut it s.heap h'->Q none { s with heap:=h' }):wpAny (model prog w) A (pyNext (.ref it)) Q E s:=by
 obtain⟨o,ho,hc,hd⟩:=id hit;unfold pyNext;refine Aa (AA (Ao (name:=Str.ofString "__next__") hit.ty Uj (An Uj hit.ty vJ ?_ (yW _))));unfold Builtin.«reversed.__next__»;refine Aa (AF (a:=(Value.ref it,[])) rfl ?_)
 try dsimp only
 refine Aa (Ap ho hd (x:=.ref a) rfl ?_);refine Aa (Ap ho hd (x:=rawInt j) rfl ?_);show wpAny _ _ (if j<0 then _ else _) _ _ s;rw[Af hj];refine Aa (AN ?_);refine Aa ?_;show wpAny _ _ (setField (Value.ref it) 1 (rawInt (-1)) >>= λ_=>setField (Value.ref it) 0 .none) _ _ s;refine Aa (AM ho hd (by simp) ?_)
 have g1:=AK (Obj.mapFields (·.setIfInBounds 1 (rawInt (-1)))) ho (A7 (Ay hd _));refine AM g1 (Ay hd _) (by simp) ?_
 refine Aa ?_;show wpAny _ _ (newExc (.type "StopIteration") [] >>= _) _ _ _;refine Aa ?_;simp only[newExc,newTuple];refine Aa (Am ?_ (by size_fits))
 refine Aa (m:=firstArgMember _ _) (AF (a:=Value.none) (by first|rfl|(simp only[firstArgMember];rfl)) ?_)
 refine Am ?_ (by size_fits)
 simp only[raiseNew];refine Aa (wpAny_handled ?_)
 first|rw[show A.in1.handled=none from hh]|rw[hh]
 refine Aa (Ac (wpAny_throw ?_));refine Aa (AC (T:="StopIteration") (b:=true) ⟨_,Ag _ rfl,rfl⟩ BU ?_);refine Ac (hQ _ ?_);have e1:Heap.ExtBut it s.heap (s.heap.update it (Obj.mapFields (·.setIfInBounds 1 (rawInt (-1))))):=λb o2 hb e=>(AH s.heap _ (Ne.symm hb)).trans e;have e2:Heap.ExtBut it s.heap ((s.heap.update it (Obj.mapFields (·.setIfInBounds 1 (rawInt (-1))))).update it (Obj.mapFields (·.setIfInBounds 0 .none))):=λb o2 hb e=>(AH _ _ (Ne.symm hb)).trans (e1 b o2 hb e);exact(e2.push _).push _
def yX(hit:Uz s.heap it a i)(h:Q (.ref it) s):wpAny (model prog w) A (pyIter (.ref it)) Q E s:=by
 refine wpAny_pyIter_slot hit.ty yV (An yV hit.ty Gc ?_ (Ji _));show wpAny _ _ (ret (.ref it)) _ _ s;exact Ac ⟨_,rfl,"reversed",_,hit.ty,Uj.lookup,h⟩
def NN:typeLookup (.type "tuple") "__reversed__"=pure none:=by
 rw[BN,A6]
 kernel_rfl
def NO:isSubtype (.type "tuple") (.type "dict")=pure false:=by
 rw[BT]
 kernel_rfl
def vK(a:Td)(i:Int):Obj:={ cls:=.type "reversed",data:=.fields #[.ref a,rawInt i] }
def Gd(a:Td)(items:Tc Ta)(hz:items.size<=sizeLine) :
  Meets (Builtin.«reversed.__new__» ⟨[.type "reversed",.ref a],[]⟩) (λ_ R s=>IsTup s.heap a items/\∀t',R (.ok (.ret (.ref s.heap.objs.size))) { s with heap:=s.heap.push (vK a ((items.size:Int)-1)),toks:=t' }):=by
 have hs:=AO;refine .of_wp λprog w A R s h=>?_;obtain⟨ht,hR⟩:=h;unfold Builtin.«reversed.__new__»;refine Aa (AF (PySem.newClass_reversed _) ?_)
 try dsimp only
 refine Aa (AF (a:=()) (by first|rfl|kernel_rfl) ?_)
 refine Aa (AF (a:=()) (by first|rfl|kernel_rfl) ?_)
 try dsimp only
 refine Aa (AI ht.typeIs NN ?_)
 try dsimp only
 refine Aa ?_;show wpAny _ _ (isInstance (.ref a) (.type "dict") >>= _) _ _ s;refine Aa (AC (T:="tuple") (b:=false) ht.typeIs NO ?_);rw[Ah (by decide)]
 refine Aa (AI ht.typeIs F.slot_tuple_getitem.lookup ?_);refine Ac ?_;rw[Ah (by decide)]
 refine Aa (len_tuple ht (by lia) ?_)
 refine Aa (AF (a:=some ((items.size:Nat):Int)) rfl ?_);show wpAny _ _ (newObj (.type "reversed") (.fields #[.ref a,rawInt ((items.size:Int)-1)]) >>= _) _ _ _;exact Aa (Am (Ac ⟨_,rfl,hR _⟩))
def Jl:Slot "reversed" "__init__" "object.__init__":=by
 refine .of (owner:="object") (n:="__init__") ?_ ?_ ?_ ?_ ?_ ?_
 ·rw[BN,A6]
  kernel_rfl
 ·decide +kernel
 ·decide +kernel
 ·decide +kernel
 ·first
   | exact .inl (by decide +kernel)
   | exact .inr (by decide +kernel)
 ·rw[BT]
  kernel_rfl
def DN:TypeCalled "reversed" "reversed.__new__" "object.__init__":=by
 refine⟨?_,?_,⟨_,_,F.mro_reversed⟩,F.made_reversed,F.plain_reversed_new,F.sub_reversed_self,Jl⟩
 ·decide +kernel
 ·exact F.create_reversed
def Jm{items:Tc Ta}(ht:IsTup s.heap a items)(hz:items.size<=sizeLine)
  (h:∀t',Q (.ref s.heap.objs.size) { s with heap:=s.heap.push (vK a ((items.size:Int)-1)),toks:=t' }):wpAny (model prog w) A (call (.type "reversed") [.ref a]) Q E s :=
 callType_new DN (by decide) (F.typeCall_reversed_1 _) (F.newCall_reversed_1 _) (λobj=>F.args_object_init_2 obj _) F.entry_reversed_new (Gd a items hz) ⟨ht,λt'=>⟨⟨_,Ag _ rfl,rfl⟩,h t'⟩⟩
def SR(K:PySem.W.Frag)(a:Td)(xs:S8 V):It:=⟨λi H=>iH K H a xs/\i<xs.length,λi H v H'=>H'=H/\xs.reverse[i]?=some v,λi _=>xs.length<=i⟩
def Jn{P:Tf}{w:Th}{K:PySem.W.Frag}{tg:Expr}(a it:Td)(xs:S8 V):Turn P w K tg (SR K a xs) [it] it (λi h=>Uz h it a ((xs.length:Int)-1-(i:Nat))) where
 mem:=by simp
 obj:=λi h st b hb=>by
  have e:b=it:=by simpa using hb
  subst e;obtain⟨o,e,c,d⟩:=st;exact⟨o,e,λv z=>by rw[d]at z;cases z⟩
 keep:=λi h h' st k=>by
  obtain⟨o,e,r⟩:=st;exact⟨o,k it (by simp) o e,r⟩
 item:=by
  intro X hP hw hK hc i Ti s σ H E I hf st hg;subst hP hw hK;obtain⟨f0,f1,f2,f3,f4,f5⟩:=hf it (by simp)
  obtain⟨hq,hi⟩:=hg;obtain⟨its,rv,p,hz⟩:=I.tuple hq;have hl:=rv.length;have e1:((xs.length:Int)-1-(i:Nat))=((xs.length-1-i:Nat):Int):=by lia
  rw[e1]at st;have hx:xs.reverse[i]?=some (xs[xs.length-1-i]'(by lia)):=by
   rw[BQ hi,Ya (by lia)]
  obtain⟨u,hu,ru⟩:=rv.get (Ya (show xs.length-1-i<xs.length by lia))
  refine bJ (Jj st p (x:=u) (by simpa using hu) (by rw[Yb];lia) λh' t' Tn sb hle=>?_)
  have hle:s.toks<=t':=hle;have I1:Inv X Ti σ H { s with heap:=h',toks:=t' }:=I.turned (λb o hb e=>sb.extBut b o hb e) f0 f1 f3 f4 f5;obtain⟨o,e,c,d⟩:=id Tn;have e2:(((xs.length-1-i:Nat):Int)-1)=((xs.length:Int)-1-((i+1:Nat):Int)):=by lia
  rw[e2]at Tn;exact⟨u,rfl,pK (s:={ s with heap:=h',toks:=t' }) e c d (by decide) ⟨_,H,I1,ru,⟨rfl,hx⟩,Tn,λb hb=>(hf b hb).1⟩⟩
 done:=by
  intro X hP hw hK hc i Ti s σ H E I hf st hg;subst hP hw hK;obtain⟨f0,f1,f2,f3,f4,f5⟩:=hf it (by simp)
  have hg':xs.length<=i:=hg;exact NM (I.ok.hd hc) st (by lia) λh' eb=>⟨rfl,I.turned (t':=s.toks) (λb o hb e=>eb b o hb e) f0 f1 f3 f4 f5⟩
 self:=λ_ _ _ _ _ st h=>yX st h
end
section
variable {X:Cx}{K:PySem.W.Frag}
def NP(K:PySem.W.Frag)(ta:TA):TI:=λσ H R=>ta σ H λvs H1=>∃a xs,vs=[.ref a]/\iH K H1 a xs/\R (SR K a xs) H1
def boot_reversed:bootBuiltins "reversed"=some (.type "reversed"):=by decide +kernel
theorem Jo{tg a:Expr}{ta:TA}{p pos:Pos}(hg:Gl X "reversed")(hm:X.mg "reversed"=none)(ha:PA X [a] ta)(hs:starEach [a] X.env=[(false,eval a X.env)]:=by rfl):PI X tg (.Call (.Name "reversed" p) [a] [] pos) (NP X.K ta):=by
 intro Ti s σ H R I h;refine Call_ (hV I hg hm boot_reversed (As (cb (ha pos Ti s σ H _ I h) λus s1 ⟨vs,H1,I1,r1,q1⟩=>?_) hs rfl));obtain⟨b,xs,e,hq,q⟩:=q1;subst e;cases r1 with
 |cons r rr=>
  cases rr;cases r;obtain⟨its,rv,pt,hz⟩:=I1.tuple hq;have hl:=rv.length;refine bJ (Jm pt (by rw[Yb];lia) λt' hle=>?_)
  have hle:s1.toks<=t':=hle;have I2:Inv X Ti σ H1 { s1 with heap:=s1.heap.push (vK b ((its.toArray.size:Int)-1)),toks:=t' }:=I1.kept λc o e=>Ab _ e;have st:Uz (s1.heap.push (vK b ((its.toArray.size:Int)-1))) s1.heap.objs.size b ((xs.length:Int)-1-((0:Nat):Int)):=by
   refine⟨_,Ag _ rfl,rfl,?_⟩;show Data.fields #[.ref b,rawInt ((its.toArray.size:Int)-1)]=_;rw[Yb,<-hl];simp
  refine yX (s:={ s1 with heap:=s1.heap.push (vK b ((its.toArray.size:Int)-1)),toks:=t' }) st ⟨s1.heap.objs.size,[s1.heap.objs.size],_,_,H1,rfl,I2,Jn b _ xs,st,λc hc=>?_,q⟩;have e:c=s1.heap.objs.size:=by simpa using hc
  subst e;exact I1.fpOk (Xa _) (I1.hok.fresh (Xa _))
def vL(h:X.K=K)(hg:Gl X "reversed")(hs:starEach [a] X.env=[(false,eval a X.env)])(hm:X.mg "reversed"=none)(ha:PE X a te):PI X tg (.Call (.Name "reversed" p) [a] [] pos) (NP K (iy te rf)):=by
 subst h;exact Jo hg hm (kh ha ae hs) hs
def Ly(fe:FE):FI:=λst=>(fe st).bind λx=>(cont x.2 x.1).bind λd=>(d.itt).bind λds=>some (ds.reverse,x.2)
theorem Ge(h:dC K te fe):UD K (NP K (iy te rf)) (Ly fe):=by
 intro st σ H O Z R E items Tn e q;refine cx e λr Tr e1 e=>?_;refine bB e λd e2 e=>?_;refine bB e λds e3 e=>?_;cases e;refine h st σ H O Z _ E r _ e1 λv H1 O1 x1 k1 E1 rv w1=>?_;cases d with
 |tup ds'=>
  cases e3;obtain⟨a,vs,rfl,h1,el⟩:=rv.ba E1 e2;refine⟨a,vs,rfl,h1.sq,q _ H1 O1 x1 k1 E1 λH' O' ex _=>?_⟩;have da':=(DA.tup h1 el.1 el.2).ext ex;have el':=el.ext ex;have hl:=el.1;have sq:iH K H' a vs:=Uw.sq (Y:=U O1 Z) (h1.go (λb o e ny=>ex.kp b o e λz=>ny (.inl z)) λb z=>.inl z);refine⟨λi hi=>?_,λi d hd=>?_⟩
  ·show vs.length<=i;rw[Zk]at hi;lia
  ·have hi:i<vs.length:=by
    have:=(Wd.mp hd).1;rw[Zk]at this;lia
   refine⟨⟨sq,hi⟩,λx H'' hx=>?_⟩;obtain⟨rfl,hx⟩:=hx;exact⟨Ts.refl _,el'.rev.2 i x d hx hd⟩
 |_=>cases e3
end
section
variable {prog:Tf}{w:Th}{A:Around}{E:Ta->Tb->Prop}{s:Tb}
def xp(n:Nat):Builtin.Slice.slicePlaces ((n:Int)-1) (-1) (-1)=n:=by
 unfold Builtin.Slice.slicePlaces;rw[Ah (by decide)]
 have e:(- (-1):Int)=1:=rfl;rw[e,Dg];split<;>lia
def xq(n:Nat):Builtin.Slice.sliceAdjust none none (-1) (n:Int)=((n:Int)-1,-1):=by
 unfold Builtin.Slice.sliceAdjust;simp
def vM{sl:Td}{n:Nat}{t:Tok}{Q:Int×Int×Nat->Tb->Prop}(hs:s.heap.IsSliceOf sl .none .none (.int (-1) t))(h:Q ((n:Int)-1,-1,n) s) :
  wpAny (model prog w) A (Builtin.Slice.sliceApplied (.ref sl) (pure (n:Int))) Q E s:=by
 obtain⟨os,hos,hcs,hds⟩:=id hs;unfold Builtin.Slice.sliceApplied Builtin.Slice.sliceFields;refine Aa (Aa (Ap hos hds (x:=.none) rfl (Aa (Ap hos hds (x:=.none) rfl (Aa (Ap hos hds (x:=.int (-1) t) rfl (Ac ?_)))))));refine Aa (HT.slicePart_ (.int (-1) t) ?_);show wpAny _ _ (if ((-1:Int) == 0)=true then _ else _) _ _ s;rw[Ah (by decide)]
 refine Aa (HT.slicePart_ .none (Aa (HT.slicePart_ .none (Aa (Ac ?_)))));show wpAny _ _ (match Builtin.Slice.sliceAdjust none none (-1) (n:Int) with|(lo,hi)=>pure (lo,(-1:Int),Builtin.Slice.slicePlaces lo hi (-1))) _ _ s
 rw[xq];show wpAny _ _ (pure ((n:Int)-1,(-1:Int),Builtin.Slice.slicePlaces ((n:Int)-1) (-1) (-1))) _ _ s;rw[xp];exact Ac h
def picked_rev(its:S8 Ta):((List.range its.length).filterMap λ(k:Nat)=>its.toArray[((its.length:Int)-1+(k:Int)*(-1)).toNat]?).toArray=its.reverse.toArray:=by
 congr 1;refine Eq.trans (hY (g:=λk=>its.reverse[k]?) λk hk=>?_) ?_
 ·have hk':=Qb.mp hk;have e:((its.length:Int)-1+(k:Int)*(-1)).toNat=its.length-1-k:=by lia
  rw[e,BQ hk'];simp
 ·have:=nJ its.reverse;rw[Zk]at this;exact this
def lE{its:S8 Ta}(ht:IsTup s.heap t its.toArray)(hs:s.heap.IsSliceOf sl .none .none (.int (-1) u))(hsz:its.length<=sizeLine)
  (h:Q (.ref s.heap.objs.size) { s with heap:=s.heap.push { cls:=.type "tuple",data:=.seq its.reverse.toArray } }):wpAny (model prog w) A (getItem (.ref t) (.ref sl)) Q E s:=by
 have fits:sizeOk (.seq its.reverse.toArray):=by
  show its.reverse.toArray.size<=sizeLine;rw[Yb,Zk];exact hsz
 obtain⟨os,hos,hcs,hds⟩:=id hs;have hT:s.TypeIs (.ref sl) "slice":=⟨os,hos,hcs⟩;unfold getItem
 try with_reducible refine Aw ?_
 first
  | refine Aa (Ac ?_)
  | skip
 refine Aa (Cj ht.typeIs (by decide) ?_)
 refine Aa (Ao (name:=Str.ofString "__getitem__") ht.typeIs At (An At ht.typeIs BY ?_ (Cb _ _)));show wpAny _ _ (Builtin.Tuple.tupleItemsOf (.ref t) >>= _) _ _ s;refine Aa (tupleItemsOf_ ht ?_);refine Aa (AQ hT ?_);rw[Af (by decide)]
 refine Aa (vM hs ?_);have hno:¬ ((((its.toArray.size:Int)-1) == 0&&(-1:Int) == 1&&its.toArray.size == its.toArray.size)=true):=by
  intro q;rw[Qf,Qf]at q;exact absurd q.1.2 (by decide)
 show wpAny _ _ (if (((its.toArray.size:Int)-1) == 0&&(-1:Int) == 1&&its.toArray.size == its.toArray.size)=true then _ else _) _ _ s;rw[Ah hno];show wpAny _ _ (Builtin.Tuple.tupleExact ((List.range its.toArray.size).filterMap λ(k:Nat)=>its.toArray[((its.toArray.size:Int)-1+(k:Int)*(-1)).toNat]?).toArray >>= _) _ _ s;have e:((List.range its.toArray.size).filterMap λ(k:Nat)=>its.toArray[((its.toArray.size:Int)-1+(k:Int)*(-1)).toNat]?).toArray=its.reverse.toArray:=picked_rev its;rw[e]
 first
  | exact Aa (m:=Builtin.Tuple.tupleExact _) (Am (Ac ⟨_,rfl,Ac h⟩) fits)
  | exact Aa (m:=Builtin.Tuple.tupleExact _) (Am (Aa (Ac (Ac ⟨_,rfl,Ac h⟩))) fits)
  | exact Aa (Aa (m:=Builtin.Tuple.tupleExact _) (Am (Ac (Ac ⟨_,rfl,Ac h⟩)) fits))
  | exact Aa (Aa (m:=Builtin.Tuple.tupleExact _) (Am (Ac ⟨_,rfl,Ac h⟩) fits))
end
section
variable {X:Cx}{K:PySem.W.Frag}{Y:AS}{H:Hp}{v:V}{d:D}{vs:S8 V}{ds:S8 D}
def Lz(K:PySem.W.Frag)(te:TE):TE:=λσ H Q=>te σ H λx H1=>∃a xs,x=.ref a/\iH K H1 a xs/\∀p,H1 p=none->Q (.ref p) (upd H1 p (.tup xs.reverse))
def Jp(he:PE X e te):PE X (.Subscript e (.Slice none none (some (.UnaryOp .USub (.Constant (.int 1) j p1) p2)) p3) pos) (Lz X.K te):=by
 intro Ti s σ H Q I h;refine Cc (cb (he Ti s σ H _ I h) λv s1 zz9=>?_);obtain⟨x,H1,I1,r1,q1⟩:=zz9;obtain⟨a,xs,rfl,hx,q⟩:=q1;cases r1;refine wpAny_Slice ?_;rw[B9];refine Ac ?_;refine Ac ?_;rw[evalPart_some];refine UnaryOp_ (Bk (neg_int ?_));have I2:=I1.tok (s1.toks+1+1);have I4:=I2.kept (t':=s1.toks+1+1) (h':=s1.heap.push { cls:=.type "slice",data:=.fields #[.none,.none,.int (-1) (s1.toks+1)] }) λb ob q=>Ab _ q;obtain⟨its,r,ht,hz⟩:=I4.tuple hx;have hlen:=r.length;refine tail_any (ops:=[.ref a,.ref s1.heap.objs.size]) ht.typeIs At.lookup ?_ (by with_unfolding_all rfl)
 refine lE ht (Heap.IsSliceOf.new ..) (by lia) ?_
 refine⟨.ref _,_,I4.laid (t':=s1.toks+1+1) (o:=.tup xs.reverse) (λb ob q=>Ab _ q) (Xa _) ?_,rfl,q _ (I4.hok.fresh (Xa _))⟩;exact⟨by rw[Zk];exact hz,_,r.reverse,IsTup.new _ _⟩
def LA(K:PySem.W.Frag)(te:TE):TE:=λσ H Q=>K9 K te σ H Q\/Lz K te σ H Q
def Jq(h:X.K=K)(he:PE X e te):PE X (.Subscript e (.Slice none none (some (.UnaryOp .USub (.Constant (.int 1) j p1) p2)) p3) pos) (LA K te):=by
 subst h;intro Ti s σ H Q I hh;rcases hh with hh|hh
 ·exact MT he Ti s σ H Q I hh
 ·exact Jp he Ti s σ H Q I hh
def Sf:D->S9 Rz|.lst ds=>some (.lst ds.reverse,true)|.fl ds=>some (.lst ds.reverse,true)|.tup ds=>some (.tup ds.reverse,false)|_=>none
def QA(fe:FE):FE:=λst=>(fe st).bind λx=>(cont x.2 x.1).bind λd=>(Sf d).bind λz=>some (mk z,x.2)
theorem Gf(h:dC K te fe):dC K (LA K te) (QA fe):=by
 intro st σ H O Z Q E r Tn e q;refine cx e λr1 Tr e1 e=>?_;refine bB e λd e2 e=>?_;refine bB e λz e3 e=>?_;cases e;cases d with
 |lst ds=>
  cases e3;refine .inl (h st σ H O Z _ E r1 _ e1 λv H1 O1 x1 k1 E1 rv w1=>?_);obtain⟨a,vs,rfl,h1,el⟩:=rv.ba E1 e2;refine⟨a,vs,rfl,.inl (.inl h1),λp hp=>?_⟩;obtain⟨E3,rv3⟩:=E1.new hp el.rev;exact q _ _ O1 (x1.trans (Ts.ext (aF hp _))) k1 E3 rv3 λp' e=>by cases e;exact x1.dead hp
 |fl ds=>
  cases e3;refine .inl (h st σ H O Z _ E r1 _ e1 λv H1 O1 x1 k1 E1 rv w1=>?_);obtain⟨a,vs,rfl,h1,el⟩:=rv.ba E1 e2;refine⟨a,vs,rfl,h1.sq,λp hp=>?_⟩;obtain⟨E3,rv3⟩:=E1.new hp el.rev;exact q _ _ O1 (x1.trans (Ts.ext (aF hp _))) k1 E3 rv3 λp' e=>by cases e;exact x1.dead hp
 |tup ds=>
  cases e3;refine .inr (h st σ H O Z _ E r1 _ e1 λv H1 O1 x1 k1 E1 rv w1=>?_);obtain⟨a,vs,rfl,h1,el⟩:=rv.ba E1 e2;refine⟨a,vs,rfl,h1.sq,λp hp=>?_⟩;obtain⟨E3,rv3⟩:=E1.newT hp el.rev;exact q _ _ O1 (x1.trans (Ts.ext (aF hp _))) k1 E3 rv3 True.intro
 |_=>cases e3
def sy(a b:Str):Prop:=¬ b.cps.toList<a.cps.toList
instance (a b:Str):Decidable (sy a b):=by unfold sy;infer_instance
def sA(h:sy a b)(g:sy b c):sy a c:=by
 unfold sy at *;rw[CK]at *;exact List.le_trans h g
def DO(a b:Str):sy a b\/sy b a:=by
 unfold sy;rw[CK,CK];exact List.le_total _ _
def vN(h:sy a b)(g:sy b a):a=b:=by
 unfold sy at *;rw[CK]at *;have e:=List.le_antisymm h g;cases a;cases b;exact congrArg Str.mk (Array.toList_inj.mp e)
def bm(xs:S8 Str):S8 Str:=xs.mergeSort λa b=>decide (sy a b)
def ce(xs:S8 Str):(bm xs).Perm xs:=List.mergeSort_perm xs _
def lF(xs:S8 Str):(bm xs).Pairwise sy:=by
 have:=List.pairwise_mergeSort (le:=λa b=>decide (sy a b)) (λa b c h g=>Ae (sA (Aj h) (Aj g))) (λa b=>by
  rcases DO a b with h|h
  ·rw[Ae h];rfl
  ·rw[Ae h,Bool.or_true]) xs
 exact this.imp λh=>Aj h
def p7{xs zs:S8 Str}(p:zs.Perm xs)(h:zs.Pairwise sy):zs=bm xs :=
 (p.trans (ce xs).symm).eq_of_pairwise (λa b _ _ h g=>vN h g) h (lF xs)
theorem ox:∀(l:S8 Str)(p:Str),risingS p l=true->(p::l).Pairwise sy
 |[],p,_=>by simp
 | x::l,p,h=>by
  have h0:(!ltCps x.cps.toList p.cps.toList&&risingS x l)=true:=h;have h':(decide (sy p x)&&risingS x l)=true:=by
   rw[ltCps_eq]at h0;rw[Qf]at h0 ⊢;refine⟨Ae ?_,h0.2⟩;have:=h0.1;simpa[sy]using this
  rw[Qf]at h';have ih:=ox l x h'.2;rw[List.pairwise_cons]at ih ⊢;refine⟨λy hy=>?_,List.pairwise_cons.mpr ih⟩;rcases Zc.mp hy with rfl|hy
  ·exact Aj h'.1
  ·exact sA (Aj h'.1) (ih.1 y hy)
def yY(K:PySem.W.Frag):S8 V->Hp->VK->Prop:=λxs H Q=>∃(p:Td)(ys:S8 Str),xs=[.ref p]/\gR K H p (ys.map V.str)/\ys.length<64/\∀l,H l=none->Q (.ref l) (upd H l (.lst ((bm ys).map V.str)))
theorem sB:∀{us:S8 Ta}{ys:S8 Str},StrsAre us ys->Tp (ys.map V.str) us|_,_,.nil=>.nil|_,_,.cons x t r=>.cons ⟨t,rfl⟩ (sB r)
def boot_sorted:bootBuiltins "sorted"=some (.builtin "sorted"):=by decide +kernel
def tV(h:X.K=K)(_:X.calm=true)(_:TX n X.A):TB X (.builtin "sorted") (yY K):=by
 subst h;intro Ti s σ H xs us Q I rv h;obtain⟨p,ys,rfl,hq,hn,q⟩:=h;obtain⟨u,rfl,ru⟩:=vals1 rv;cases ru;obtain⟨its,r,pl,hz⟩:=I.list hq;have hl:its.length=ys.length:=by have:=r.length;rw[Za]at this;exact this.symm
 have hs:=AO;refine sorted_strs pl.isList (lA r) (by lia) λout ss' a1 a2 a3=>?_
 obtain⟨e,he⟩:=sortedAll_at s.heap its out;have pw:ss'.Pairwise sy:=by
  cases ss' with|nil=>exact List.Pairwise.nil|cons x l=>exact ox l x a3
 have eq:ss'=bm ys:=p7 a2 pw;subst eq;have hlen:(bm ys).length=ys.length:=(ce ys).length_eq;refine⟨.ref (s.heap.objs.size+1),upd H (s.heap.objs.size+1) (.lst ((bm ys).map V.str)),I.laid (t':=s.toks) (λb o z=>sortedAll_old z) (BV _) ⟨by rw[Za];lia,out.toList,e,sB a1,by simpa using he⟩,rfl,q _ (I.hok.fresh (BV _))⟩
def Jr(xs:S8 Str):El K Y H (xs.map V.str) (xs.map D.str):=by
 refine⟨by simp,λi v d h1 h2=>?_⟩
 rw[Xb]at h1 h2;obtain⟨c,e1,rfl⟩:=Xc.mp h1;rw[e1]at h2;obtain rfl:=Option.some.inj h2;exact .str _
def tW:S8 D->S9 Rz|[.lst ds]=>(jG ds).bind λys=>if ys.length<64 then some (.lst ((bm ys).map D.str),true) else none|_=>none
theorem DP:TZ K (yY K) tW:=by
 intro Y H xs ds z Q lv bs e q;cases bs with
 |nil=>cases e
 |@cons v vs d ds b1 bs=>
  cases bs with
  |cons _ _=>cases d<;>cases e
  |nil=>
   cases d with
   |lst a=>
    refine bB e λys e1 e=>?_;obtain⟨c,e⟩:=aG e;cases e;obtain⟨p,xs,rfl,hp,el⟩:=b1;obtain rfl:=nO el e1;exact⟨p,ys,rfl,.inl (.inl hp),c,λr hr=>q _ _ (aF hr _) (fR (Jr _) hr)⟩
   |_=>cases e
end
end VF
namespace VF
open PySem L2
section
variable {K:PySem.W.Frag}
def iB{X:Cx}(hg:Gl X x)(hm:X.mg x=none)(hv:bootBuiltins x=some (.type T))(hn:x≠"__name__":=by decide)(hd:(x == ("__debug__":Str))=false:=by decide):PE X (.Name x pos) (tC (.ty T)):=IA hg hm hv rfl hn hd
def yZ(K:PySem.W.Frag):Sp:=λvs H Q _=>∃(a:Td)(ns:S8 Int),vs=[.ref a]/\gR K H a (ns.map V.int)/\ns.length<=63/\∀H',Q (.bl true) H'
end
inductive Dp:Nat->D->Prop where
 | bl (n:Nat) (b:Bool):Dp (n+1) (.bl b)
 | int (n:Nat) (i:Int):Dp (n+1) (.int i)
 | str (n:Nat) (x:Str):Dp (n+1) (.str x)
 | non (n:Nat):Dp (n+1) .non
 | tup {n:Nat} {ds:List D}:ds.length<=1000000->(∀d∈ds,Dp n d)->Dp (n+1) (.tup ds)
 | lst {n:Nat} {ds:List D}:ds.length<=1000000->(∀d∈ds,Dp n d)->Dp (n+1) (.lst ds)
open Classical in
noncomputable def cV(n:Nat):S8 D->S9 Rz
 |[u,v]=>if u=v/\Dp n u then some (.bl true,false) else none
 |_=>none
open Classical in
def iO(h:Dp n u):cV n [u,u]=some (.bl true,false):=by
 show(if u=u/\Dp n u then some (D.bl true,false) else none)=_;rw[Af ⟨rfl,h⟩]
def sC(h:cV n ds=some z):∃u,ds=[u,u]/\Dp n u/\z=(.bl true,false):=by
 unfold cV at h;split at h
 ·rename_i u v
  by_cases c:u=v/\Dp n u
  ·rw[Af c]at h;obtain⟨rfl,c⟩:=c;exact⟨u,rfl,c,(Option.some.inj h).symm⟩
  ·rw[Ah c]at h;cases h
 ·cases h
section
variable {st Tr TR Us s s1 s2:En}{r r1 r2:Rs}{d d1 d2 x y x':D}{ds es:S8 D}{rs:S8 Rs}{z:Rz}{o:Ot}{i k n m:Nat}{F G B:FS}{fa fb fe fi':FE}{fr:FA}{f g:FT}{fi:FI}{fg:FG}{Tl:S8 Nat}
def aj(h:F st=some (.nx s))(h2:G s=a):ay F G st=a:=by simp only[ay,h,Wa];exact h2
def nP(h:F st=some (.rt r s)):ay F G st=some (.rt r s):=by simp only[ay,h,Wa]
def jH(h:f st=some (true,s))(h2:F s=a):hZ f F G st=a:=by simp only[hZ,h,Wa,if_true];exact h2
def fI(h:f st=some (false,s))(h2:G s=a):hZ f F G st=a:=by simp only[hZ,h,Wa,Xe,if_false];exact h2
def cy(h:fe st=some (.d x,s))(h2:kL i (.v x) s=some s1):aU fe i st=some (.nx s1):=by simp only[aU,h,Wa,h2]
def jn(h:fe st=some (.f x,s))(h2:kL i (.o x) s=some s1):aU fe i st=some (.nx s1):=by simp only[aU,h,Wa,h2]
def df(h:fe st=some (r,s)):eS fe st=some (.nx s):=by simp only[eS,h,Wa]
def aW(h:fe st=some (r,s)):bj fe st=some (.rt r s):=by simp only[bj,h,Wa]
def ar(h1:fa st=some (r1,s1))(h2:fb s1=some (r2,s2))(h3:cont s2 r1=some d1)(h4:cont s2 r2=some d2)(h5:b d1 d2=some z)(hz:mk z=r:=by rfl):aE b fa fb st=some (r,s2):=by
 simp only[aE,h1,h2,h3,h4,h5,hz,Wa]
def ap(h1:fa st=some (r,s1))(h2:fr s1=some (rs,s2)):aa fa fr st=some (r::rs,s2):=by simp only[aa,h1,h2,Wa]
def bO(h1:fr st=some (rs,s1))(h2:cj s1 rs=some ds)(h3:b ds=some z)(hz:mk z=r:=by rfl):dM b fr st=some (r,s1):=by simp only[dM,h1,h2,h3,hz,Wa]
def aR(h1:fr st=some (rs,s1))(h2:cS rs s1=some (ds,s2))(h3:b ds=some z)(hz:mk z=r:=by rfl):bb b fr st=some (r,s2):=by simp only[bb,h1,h2,h3,hz,Wa]
def bz(h1:fr st=some (rs,s1))(h2:cj s1 rs=some ds)(h3:b ds=some (d,false))(h4:d.isSc=true):bx b fr st=some (.d d,s1):=by
 simp only[bx,h1,h2,h3,Wa,h4];rfl
def bQ{t t0:Sl}(h0:st[i]?=some t0)(h00:t0.ow=some x0)(h1:fr st=some (rs,s1))(h2:cS rs s1=some (ds,s2))(h3:s2[i]?=some t)(h4:t.ow=some x)(h5:b x ds=some (z,x'))(hz:mk z=r:=by rfl)(h6:s2.set i (t.put x')=Us:=by rfl):gW b i fr st=some (r,Us):=by
 simp only[gW,h0,h00,h1,h2,h3,h4,h5,h6,hz,Wa]
def p8{t t0:Sl}(h0:st[i]?=some t0)(h00:t0.ow=some x0)(hk:ok x0=true)(h1:fr st=some (rs,s1))(h2:cS rs s1=some (ds,s2))(h3:s2[i]?=some t)(h4:t.ow=some x)(h5:mm x ds=some (y,x'))(h6:s2.set i (t.put x')=Us:=by rfl):fM ok mm i fr st=some (.d y,Us):=by
 simp only[fM,h0,h00,hk,h1,h2,h3,h4,h5,h6,Wa,if_true]
def aH(h:fe st=some (r,s))(h2:Pf s r=some c):aJ fe st=some (c,s):=by simp only[aJ,h,h2,Wa]
def p9(h:f st=some (c,s)):mL f st=some (!c,s):=by simp only[mL,h,Wa]
def Gg(h:f st=some (true,s))(h2:g s=a):kO f g st=a:=by simp only[kO,h,Wa,if_true];exact h2
def LB(h:f st=some (false,s)):kO f g st=some (false,s):=by simp only[kO,h,Wa,Xe,if_false]
def qa(h:fa st=some (r,s))(h1:Pf s r=some true)(h2:fb s=a):kP fa fb st=a:=by simp only[kP,h,h1,Wa,if_true];exact h2
def bS(h1:fi st=some (ds,s1))(h2:(tR Tl s1.length&&decide (ds.length<=1000000))=true)(h3:cF fg fc fe k ds (kM k Tl s1)=some (es,s2))(h4:wb Tl (s2.drop k) s1=Us:=by rfl):cG k Tl fi fg fc fe st=some (.f (.lst es),Us):=by
 simp only[cG,h1,Wa];rw[Af h2,h3,<-h4];rfl
def cg(h1:fi st=some (ds,s1))(h2:dZ fg B ds s1=some o):cL fi fg B st=some o:=by simp only[cL,h1,Wa];exact h2
def aP(h0:ds.length=m)(h1:F (lD n ds)=some o)(h2:fin o=some z):bi F n m ds=some z:=by
 simp only[bi,Af h0,h1,Wa];exact h2
def cJ(h0:ds.length+1=m)(h1:F (ia n x ds)=some o)(h2:Lk o=some w):dO F n m x ds=some w:=by
 simp only[dO,Af h0,h1,Wa];exact h2
theorem sD(h:D->D):∀(items:S8 D)(sb:En),(∀x∈items,∃s1 s2 y s3 s4,fg x sb=some s1/\fc s1=some (true,s2)/\fe s2=some (y,s3)/\esc y s3=some (h x,s4)/\re k s4=sb)->cF fg fc fe k items sb=some (items.map h,sb)
 |[],sb,_=>rfl
 | x::r,sb,hh=>by
  obtain⟨s1,s2,y,s3,s4,e1,e2,e3,e4,e5⟩:=hh x Wc;have ih:=sD h r sb λz hz=>hh z (Wb _ hz);simp only[cF,e1,e2,e3,e4,Wa,if_true,e5,ih,Zd]
theorem sE(I:S8 D->En->Prop)(step:∀(pre:S8 D)(x:D)(sb:En),I pre sb->∃s1 s2 y s3 d s4,fg x sb=some s1/\fc s1=some (true,s2)/\fe s2=some (y,s3)/\esc y s3=some (d,s4)/\I (pre++[d]) (re k s4)) :
  ∀(items:S8 D)(pre:S8 D)(sb:En),I pre sb->∃ds sf,cF fg fc fe k items sb=some (ds,sf)/\ds.length=items.length/\I (pre++ds) sf
 |[],pre,sb,h=>⟨[],sb,rfl,rfl,by rw[Zg];exact h⟩
 | x::r,pre,sb,h=>by
  obtain⟨s1,s2,y,s3,d,s4,e1,e2,e3,e4,e5⟩:=step pre x sb h;obtain⟨ds,sf,e6,e7,e8⟩:=sE I step r (pre++[d]) (re k s4) e5;refine⟨d::ds,sf,?_,by simp[e7],by rw[Xf]at e8;exact e8⟩
  simp only[cF,e1,e2,e3,e4,Wa,if_true,e6]
theorem nQ(I:Nat->En->Prop)(Out:En->Prop)(step:∀(m:Nat)(st:En),I m st->(∃s1,f st=some (false,s1)/\Out s1)\/∃s1 s2 m',f st=some (true,s1)/\B s1=some (.nx s2)/\m'<m/\I m' s2) :
  ∀(n m:Nat)(st:En),m<n->I m st->∃sf,yL f B n st=some (.nx sf)/\Out sf
 |0,m,st,hn,_=>absurd hn (AU _)
 | n+1,m,st,hn,h=>by
  rcases step m st h with⟨s1,e1,ho⟩|⟨s1,s2,m',e1,e2,hm,h2⟩
  ·exact⟨s1,by simp only[yL,e1,Wa,Xe,if_false],ho⟩
  ·obtain⟨sf,e3,ho⟩:=nQ I Out step n m' s2 (by lia) h2
   exact⟨sf,by simp only[yL,e1,e2,Wa,if_true];exact e3,ho⟩
end
def ix_str{z:Str}(hz:z.length<=1000000)(h:oF z.cps.toList i=some c):dG (.str z) (.int i)=some (.str ⟨#[c]⟩,false):=by
 have e1:FR (.str z) (.int i)=none:=rfl;have e2:Ja (.str z) (.int i)=none:=rfl;have e3:Nv (.str z) (.int i)=some (.str ⟨#[c]⟩,false):=by
  show(if z.length<=1000000 then(oF z.cps.toList i).bind (λc=>some (D.str ⟨#[c]⟩,false)) else none)=_;rw[Af hz,h];rfl
 unfold dG nM;rw[e1,e2];exact e3
def tX{a b:Str}(h:a.length+b.length<=1000000):bF (.str a) (.str b)=some (.str (a++b),false):=by
 have e1:vB (.str a) (.str b)=none:=rfl;have e2:vD (.str a) (.str b)=some (.str (a++b),false):=by
  show(if a.length+b.length<=1000000 then some (D.str (a++b),false) else none)=_;rw[Af h]
 unfold bF nM;rw[e1,e2]
def y0{a:Str}(h:0<=n/\n<=1000/\a.length<=1000):oN (.str a) (.int n)=some (.str (Txt.mul a n),false):=by
 have e1:yN (.str a) (.int n)=none:=rfl;have e2:FQ (.str a) (.int n)=some (.str (Txt.mul a n),false):=by
  show(if 0<=n/\n<=1000/\a.length<=1000 then some (D.str (Txt.mul a n),false) else none)=_;rw[Af h]
 unfold oN nM;rw[e1,e2]
theorem lG:∀xs:S8 Str,jG (xs.map D.str)=some xs
 |[]=>rfl
 | x::r=>by
  show(jG (r.map D.str)).bind (λxs=>some (x::xs))=_;rw[lG r];rfl
theorem sF:∀xs:S8 Str,sn (xs.map D.str)=some (xs.map V.str)
 |[]=>rfl
 | x::r=>by
  show(sn (r.map D.str)).bind (λvs=>some (V.str x::vs))=_;rw[sF r];rfl
theorem sG:∀n:Nat,sr (List.replicate n (D.bl true))=some (List.replicate n true)
 |0=>rfl
 | n+1=>by
  show(sr (List.replicate n (D.bl true))).bind (λbs=>some (true::bs))=_;rw[sG n];rfl
def vO(n:Nat):Ny [.lst (List.replicate n (D.bl true))]=some (.bl true,false):=by
 show(sr (List.replicate n (D.bl true))).bind (λbs=>some (D.bl (bs.all id),false))=_;rw[sG];show some (D.bl ((List.replicate n true).all id),false)=_;have:(List.replicate n true).all id=true:=by
  rw[Ql];intro b hb;exact C8 hb
 rw[this]
def LC{xs:S8 Str}:Qn (.str x) (.lst (xs.map D.str))=some (.bl (decide (x∈xs)),false):=by
 have e1:Nr false (.str x) (.lst (xs.map D.str))=none:=rfl;have e2:Nt false (.str x) (.lst (xs.map D.str))=some (.bl (decide (x∈xs)),false):=by
  show(sn (xs.map D.str)).bind (λws=>some (D.bl (K6 (.str x) ws),false))=_;rw[sF];show some (D.bl (K6 (.str x) (xs.map V.str)),false)=_;have e:K6 (.str x) (xs.map V.str)=decide (x∈xs):=by
   unfold K6;rw[Cv];induction xs with
   |nil=>rfl
   |cons y r ih=>
    rw[Ym,ih rfl];show((y == x)||decide (x∈r))=_;by_cases e:y=x
    ·subst e;simp
    ·have e':¬ x=y:=λz=>e z.symm;simp[e,e']
  rw[e]
 unfold Qn nM;rw[e1];exact e2
def NQ{z:Str}(h:z.length<=1000000):DI (.str z) lo hi=some (.str (Txt.slice z lo hi),false):=by
 have e1:FU (.str z) lo hi=none:=rfl;have e2:tT (.str z) lo hi=none:=rfl;have e3:Jc (.str z) lo hi=some (.str (Txt.slice z lo hi),false):=by
  show(if z.length<=1000000 then some (D.str (Txt.slice z lo hi),false) else none)=_;rw[Af h]
 unfold DI Jb;rw[e1,e2];exact e3
section
variable {st s s1 s2 s3:En}{r r1:Rs}{rs:S8 Rs}{d d0 d1:D}{ds:S8 D}{z:Rz}{fe fo:FE}{fa:FA}{fl fh:FO}
def QB(h1:fo st=some (r1,s1))(h2:cont s1 r1=some d0)(h3:NA T d0=true)(h4:fa s1=some (rs,s2))(h5:cont s2 r1=some d)(h6:cj s2 rs=some ds)(h7:b d ds=some z)(hz:mk z=r:=by rfl):Qt T b fo fa st=some (r,s2):=by
 simp only[Qt,h1,h2,h3,h4,h5,h6,h7,hz,Wa,if_true]
def gX{j:Int}(h1:fa st=some (rs,s1))(h2:cj s1 rs=some [.int j])(h3:-(2 ^ 62)<=j/\j<2 ^ 62):mM fa st=some (rng 0 j.toNat,s1):=by
 simp only[mM,h1,h2,Wa,xi];rw[Af h3]
def jo(h1:fe st=some (r,s1))(h2:fl s1=some (lo,s2))(h3:fh s2=some (hi,s3))(h4:cont s3 r=some d)(h5:b d lo hi=some z)(hz:mk z=r':=by rfl):o8 b fe fl fh st=some (r',s3):=by
 simp only[o8,h1,h2,h3,h4,h5,hz,Wa]
def y3{f:FT}{fa fb:FE}{a:S9 (Rs×En)}(h:f st=some (true,s))(h2:fa s=a):IV f fa fb st=a:=by simp only[IV,h,Wa,if_true];exact h2
def y4{f:FT}{fa fb:FE}{a:S9 (Rs×En)}(h:f st=some (false,s))(h2:fb s=a):IV f fa fb st=a:=by simp only[IV,h,Wa,Xe,if_false];exact h2
def gl(h1:fe st=some (r,s1))(h2:esc r s1=some (.lst ds,s2)):kQ fe st=some (ds,s2):=by
 have:Pg fe st=some (ds,s2):=by simp only[Pg,h1,h2,Wa,D.its]
 unfold kQ;rw[this]
def oy(h1:fe st=some (r,s1))(h2:esc r s1=some (.tup ds,s2)):kQ fe st=some (ds,s2):=by
 have e1:Pg fe st=none:=by simp only[Pg,h1,h2,Wa,D.its,Option.bind_none]
 have e2:RQ fe st=some (ds,s2):=by simp only[RQ,h1,h2,Wa,D.itt]
 unfold kQ;rw[e1,e2]
def gm(h1:fa st=some (rs,s1))(h2:cS rs s1=some (ds,s2))(h3:ds.length<=1000000):jA fa st=some (.d (.tup ds),s2):=by
 simp only[jA,h1,h2,Wa];rw[Af h3]
end
theorem vP(all:S8 D)(I:S8 D->En->Prop)(step:∀(gone:S8 D)(x:D)(rest:S8 D)(st:En),all=gone++x::rest->I gone st->∃s1 s2,fg x st=some s1/\B s1=some (.nx s2)/\I (gone++[x]) s2) :
  ∀(items gone:S8 D)(st:En),all=gone++items->I gone st->∃sf,dZ fg B items st=some (.nx sf)/\I all sf
 |[],gone,st,ha,h=>⟨st,rfl,by rw[ha,Zg];exact h⟩
 | x::r,gone,st,ha,h=>by
  obtain⟨s1,s2,e1,e2,e3⟩:=step gone x r st ha h;obtain⟨sf,e4,e5⟩:=vP all I step r (gone++[x]) s2 (by rw[Xf];exact ha) e3
  refine⟨sf,?_,e5⟩;simp only[dZ,e1,e2,Wa];exact e4
theorem sH(all:S8 D)(I:S8 D->S8 D->En->Prop)(step:∀(gone:S8 D)(x:D)(rest pre:S8 D)(sb:En),all=gone++x::rest->I gone pre sb->∃s1 s2 y s3 d s4,fg x sb=some s1/\fc s1=some (true,s2)/\fe s2=some (y,s3)/\esc y s3=some (d,s4)/\I (gone++[x]) (pre++[d]) (re k s4)) :
  ∀(items gone pre:S8 D)(sb:En),all=gone++items->I gone pre sb->∃ds sf,cF fg fc fe k items sb=some (ds,sf)/\I all (pre++ds) sf
 |[],gone,pre,sb,ha,h=>⟨[],sb,rfl,by rw[ha,Zg,Zg];exact h⟩
 | x::r,gone,pre,sb,ha,h=>by
  obtain⟨s1,s2,y,s3,d,s4,e1,e2,e3,e4,e5⟩:=step gone x r pre sb ha h;obtain⟨ds,sf,e6,e8⟩:=sH all I step r (gone++[x]) (pre++[d]) (re k s4) (by rw[Xf];exact ha) e5
  refine⟨d::ds,sf,?_,by rw[Xf]at e8;exact e8⟩
  simp only[cF,e1,e2,e3,e4,Wa,if_true,e6]
section
variable {K:PySem.W.Frag}
def b1(g:D->S9 D):S8 D->S9 Rz|[d]=>(g d).map λr=>(r,false)|_=>none
theorem NR(h:∀(Y:AS)(H:Hp)(v:V)(d o:D)(Q:VK),BA K Y H v d->g d=some o->(∀u,DA K Y H u o->Q u H)->r [v] H Q):TZ K r (b1 g):=by
 intro Y H xs ds z Q lv bs e q;cases bs with
 |nil=>cases e
 |@cons v vs d ds c1 bs=>
  cases bs with
  |cons _ _=>cases e
  |nil=>
   obtain⟨o,eo,rfl⟩:=Xc.mp e;exact h Y H v d o Q c1 eo λu hu=>q u H (Ts.refl H) hu
def Js:D->S9 D|.int i=>some (.int (if i<0 then -i else i))|_=>none
theorem NS:TZ K (λxs H Q=>∃i,xs=[.int i]/\Q (.int (if i<0 then -i else i)) H) (b1 Js):=NR λY H v d o Q c e q=>by
 cases d with|int i=>cases e;exact⟨i,by rw[show v=V.int i from c],q _ (.int _)⟩|_=>cases e
end
inductive Pl:Nat->D->Prop where
 | non (n:Nat):Pl (n+1) .non
 | int (n:Nat) (i:Int):Pl (n+1) (.int i)
 | str (n:Nat) (x:Str):Pl (n+1) (.str x)
 | tup {n:Nat} {ds:List D}:(∀d∈ds,Pl n d)->Pl (n+1) (.tup ds)
 | lst {n:Nat} {ds:List D}:(∀d∈ds,Pl n d)->Pl (n+1) (.lst ds)
inductive RH(h:Heap):Value->D->Prop where
 | non:RH h .none .non
 | int (i:Int) (t:Tok):RH h (.int i t) (.int i)
 | str (x:Str) (t:Tok):RH h (.str x t) (.str x)
 | tup {a:Addr} {its:List Value} {ds:List D}:h.IsTuple a its.toArray->its.length=ds.length->(∀(i:Nat) u d,its[i]?=some u->ds[i]?=some d->RH h u d)->RH h (.ref a) (.tup ds)
 | lst {a:Addr} {its:List Value} {ds:List D}:h.IsList a its.toArray->its.length=ds.length->(∀(i:Nat) u d,its[i]?=some u->ds[i]?=some d->RH h u d)->RH h (.ref a) (.lst ds)
section
variable {X:Cx}{K:PySem.W.Frag}{Y:AS}{H:Hp}{s:Tb}{Ti:S8 (Td×Obj)}{σ:St}
theorem Pl.up(h:Pl n d):Pl (n+1) d:=by
 induction h with|non n=>exact .non _|int n i=>exact .int _ i|str n x=>exact .str _ x|tup _ ih=>exact .tup ih|lst _ ih=>exact .lst ih
theorem fD:∀{vs:S8 V}{us:S8 Ta},Tp vs us->∀(i:Nat) u,us[i]?=some u->∃v,vs[i]?=some v/\RelV v u
 |_,_,.nil,i,u,h=>by simp at h
 | v::_,w::_,.cons r rs,0,u,h=>by
  have e:w=u:=by simpa using h
  exact⟨v,rfl,e ▸ r⟩
 | _::_,_::_,.cons r rs,i+1,u,h=>by
  obtain⟨v,h1,h2⟩:=fD rs i u (by simpa using h)
  exact⟨v,by simpa using h1,h2⟩
theorem DA.rh(h:DA K Y H v d)(p:Pl n d)(I:Inv X Ti σ H s)(hK:X.K=K):∀{u:Ta},RelV v u->RH s.heap u d:=by
 induction h generalizing n with
 |non=>intro u r;cases r;exact .non
 |bl b=>cases p
 |int i=>intro u r;obtain⟨t,rfl⟩:=r;exact .int i t
 |str x=>intro u r;obtain⟨t,rfl⟩:=r;exact .str x t
 |ty n=>cases p
 |fl _ _ _ _=>cases p
 |dk _ _ _ _ _=>cases p
 |dt _ _ _ _ _ _=>cases p
 |fn _=>cases p
 |@tup a vs ds h1 h2 h3 ih=>
  intro u r;cases r;cases p with
  |tup p=>
   obtain⟨its,r,t,_⟩:=I.tuple (hK ▸ h1.sq);refine .tup t (r.length.symm.trans h2) λi u d e1 e2=>?_;obtain⟨v,e3,rv⟩:=fD r i u e1;exact ih i v d e3 e2 (p d (Yc e2)) rv
 |@lst a vs ds h0 h1 h2 h3 ih=>
  intro u r;cases r;cases p with
  |lst p=>
   obtain⟨its,r,t,_⟩:=I.list (show gR X.K H a vs from .inl (.inl h1));refine .lst t.isList (r.length.symm.trans h2) λi u d e1 e2=>?_;obtain⟨v,e3,rv⟩:=fD r i u e1;exact ih i v d e3 e2 (p d (Yc e2)) rv
theorem BA.rh(h:BA K Y H v d)(p:Pl n d)(I:Inv X Ti σ H s)(hK:X.K=K)(ru:RelV v u):RH s.heap u d:=by
 cases p with
 |non=>cases (show v=.non from h);cases ru;exact .non
 |int _ i=>cases (show v=.int i from h);obtain⟨t,rfl⟩:=ru;exact .int i t
 |str _ x=>cases (show v=.str x from h);obtain⟨t,rfl⟩:=ru;exact .str x t
 |tup p=>
  obtain⟨a,vs,rfl,h1,el⟩:=h;cases ru;obtain⟨its,r,t,_⟩:=I.tuple (hK ▸ h1.sq);refine .tup t (r.length.symm.trans el.1) λi u d e1 e2=>?_;obtain⟨v,e3,rv⟩:=fD r i u e1;exact(el.2 i v d e3 e2).rh (p d (Yc e2)) I hK rv
 |lst p=>
  obtain⟨a,vs,rfl,h1,el⟩:=h;cases ru;obtain⟨its,r,t,_⟩:=I.list (show gR X.K H a vs from .inl (.inl h1));refine .lst t.isList (r.length.symm.trans el.1) λi u d e1 e2=>?_;obtain⟨v,e3,rv⟩:=fD r i u e1;exact(el.2 i v d e3 e2).rh (p d (Yc e2)) I hK rv
def DQ{h:Tg}(h1:h.IsTuple a x)(h2:h.IsTuple a y):x=y:=by
 obtain⟨o,e1,_,n,d1⟩:=h1;obtain⟨o',e2,_,n',d2⟩:=h2;rw[e1]at e2;cases e2;rw[d1]at d2;cases d2;rfl
def xt{h:Tg}(h1:h.IsList a x)(h2:h.IsList a y):x=y:=by
 obtain⟨o,e1,_,n,d1⟩:=h1;obtain⟨o',e2,_,n',d2⟩:=h2;rw[e1]at e2;cases e2;rw[d1]at d2;cases d2;rfl
def vQ{h:Tg}(h1:h.IsList a x)(h2:h.IsTuple a y):False:=by
 obtain⟨o,e1,c1,_⟩:=h1;obtain⟨o',e2,c2,_⟩:=h2;rw[e1]at e2;cases e2;rw[c1]at c2;injection c2 with c2;exact absurd c2 (by decide)
theorem RH.inj(r:RH h u d):∀{d':D},RH h u d'->d=d':=by
 induction r with
 |non=>intro d' r';cases r';rfl
 |int i t=>intro d' r';cases r';rfl
 |str x t=>intro d' r';cases r';rfl
 |@tup a its ds t hl _ ih=>
  intro d' r';cases r' with
  |@tup _ its' ds' t' hl' f=>
   have e:its=its':=by simpa using DQ t t'
   subst e;have:ds=ds':=by
    refine BD (hl.symm.trans hl') λi h1 h2=>?_;exact ih i its[i] ds[i] (Ya (by lia)) (Ya h1) (f i its[i] ds'[i] (Ya (by lia)) (Ya h2))
   rw[this]
  |lst t' _ _=>exact(vQ t' t).elim
 |@lst a its ds t hl _ ih=>
  intro d' r';cases r' with
  |@lst _ its' ds' t' hl' f=>
   have e:its=its':=by simpa using xt t t'
   subst e;have:ds=ds':=by
    refine BD (hl.symm.trans hl') λi h1 h2=>?_;exact ih i its[i] ds[i] (Ya (by lia)) (Ya h1) (f i its[i] ds'[i] (Ya (by lia)) (Ya h2))
   rw[this]
  |tup t' _ _=>exact(vQ t t').elim
open Classical in
def Gh{xs ys:S8 D}(h:xs.length=ys.length):((List.range xs.length).all λj=>decide (xs[j]?=ys[j]?))=decide (xs=ys):=by
 rw[Wg,Ql,decide_eq_true_eq];constructor
 ·intro e;refine Wj λj=>?_;by_cases hj:j<xs.length
  ·exact Aj (e j (Qb.mpr hj))
  ·rw[Yf (by lia),Yf (by lia)]
 ·rintro rfl j _;exact Ae rfl
open Classical in
def eq3{d1 d2:D}{u1 u2:Ta}{A:Around}(h:¬ d1=d2)(a:SeqAt.EqAt A s u1 u2 false)(b:SeqAt.RcAt A s u1 u2 false)(c:SeqAt.RcNeAt A s u1 u2 true) :
  SeqAt.EqAt A s u1 u2 (decide (d1=d2))/\SeqAt.RcAt A s u1 u2 (decide (d1=d2))/\SeqAt.RcNeAt A s u1 u2 (!decide (d1=d2)):=by
 rw[Ad h];exact⟨a,b,c⟩
open Classical in
def SS{s:Tb}{its its':S8 Ta}{ds ds':S8 D}(hl:its.length=ds.length)(hl':its'.length=ds'.length)(f:∀(j:Nat) u d,its[j]?=some u->ds[j]?=some d->RH s.heap u d)(f':∀(j:Nat) u d,its'[j]?=some u->ds'[j]?=some d->RH s.heap u d)(p1:∀d∈ds,Pl n d)(p2:∀d∈ds',Pl n d)
  (ih:∀{d1 d2:D}{u1 u2:Ta},Pl n d1->Pl n d2->RH s.heap u1 d1->RH s.heap u2 d2->SeqAt.EqAt A s u1 u2 (decide (d1=d2)))(j:Nat)(h1:j<its.toArray.size)(h2:j<its'.toArray.size):SeqAt.EqAt A s its.toArray[j] its'.toArray[j] (decide (ds[j]?=ds'[j]?)):=by
 have h1':j<its.length:=by simpa using h1
 have h2':j<its'.length:=by simpa using h2
 have e1:ds[j]?=some ds[j]:=Ya (hl ▸ h1');have e2:ds'[j]?=some ds'[j]:=Ya (hl' ▸ h2');have z:=ih (p1 _ (Yc e1)) (p2 _ (Yc e2)) (f j its[j] _ (Ya h1') e1) (f' j its'[j] _ (Ya h2') e2);have e:decide (ds[j]?=ds'[j]?)=decide (ds[j]=ds'[j]):=by rw[e1,e2,Wg];simp
 rw[e];exact z
open Classical in
def RH.eqAt:∀(n:Nat){s:Tb}{d1 d2:D}{u1 u2:Ta}{A:Around},Pl n d1->Pl n d2->RH s.heap u1 d1->RH s.heap u2 d2->A.units+n<cLine->
  SeqAt.EqAt A s u1 u2 (decide (d1=d2))/\SeqAt.RcAt A s u1 u2 (decide (d1=d2))/\SeqAt.RcNeAt A s u1 u2 (!decide (d1=d2)):=by
 intro n;induction n with
 |zero=>intro s d1 d2 u1 u2 A p;cases p
 |succ n ih=>
  intro s d1 d2 u1 u2 A p1 p2 r1 r2 hu;have hu':A.units<cLine:=by lia
  cases r1 with
  |non=>
   cases r2 with|non=>rw[Ae rfl];exact⟨SeqAt.EqAt.same _,SeqAt.RcAt.none_none,SeqAt.RcNeAt.none_none⟩|int i t=>exact eq3 (by intro z;cases z) (SeqAt.EqAt.none_int _ _) (SeqAt.RcAt.none_int _ _) (SeqAt.RcNeAt.none_int _ _)|str x t=>exact eq3 (by intro z;cases z) (SeqAt.EqAt.none_str _ _) (SeqAt.RcAt.none_str _ _) (SeqAt.RcNeAt.none_str _ _)|tup t _ _=>exact eq3 (by intro z;cases z) (SeqAt.EqAt.none_tuple t hu') (SeqAt.RcAt.none_tuple t hu') (SeqAt.RcNeAt.none_tuple t hu')|lst t _ _=>exact eq3 (by intro z;cases z) (SeqAt.EqAt.none_list t hu') (SeqAt.RcAt.none_list t hu') (SeqAt.RcNeAt.none_list t hu')
  |int i t=>
   cases r2 with
   |non=>exact eq3 (by intro z;cases z) (SeqAt.EqAt.int_none _ _) (SeqAt.RcAt.int_none _ _) (SeqAt.RcNeAt.int_none _ _)
   |int j t'=>
    have e:decide (D.int i=D.int j)=(i == j):=by rw[Wg];simp
    rw[e];exact⟨SeqAt.EqAt.int_int _ _ _ _,SeqAt.RcAt.int_int _ _ _ _,SeqAt.RcNeAt.int_int _ _ _ _⟩
   |str x t'=>exact eq3 (by intro z;cases z) (Ce _ _ _ _) (SeqAt.RcAt.int_str _ _ _ _) (SeqAt.RcNeAt.int_str _ _ _ _)
   |tup t' _ _=>exact eq3 (by intro z;cases z) (SeqAt.EqAt.int_tuple _ _ t' hu') (SeqAt.RcAt.int_tuple _ _ t' hu') (SeqAt.RcNeAt.int_tuple _ _ t' hu')
   |lst t' _ _=>exact eq3 (by intro z;cases z) (SeqAt.EqAt.int_list _ _ t' hu') (SeqAt.RcAt.int_list _ _ t' hu') (SeqAt.RcNeAt.int_list _ _ t' hu')
  |str x t=>
   cases r2 with
   |non=>exact eq3 (by intro z;cases z) (SeqAt.EqAt.str_none _ _) (SeqAt.RcAt.str_none _ _) (SeqAt.RcNeAt.str_none _ _)
   |int j t'=>exact eq3 (by intro z;cases z) (Cd _ _ _ _) (SeqAt.RcAt.str_int _ _ _ _) (SeqAt.RcNeAt.str_int _ _ _ _)
   |str y t'=>
    have e:decide (D.str x=D.str y)=(x == y):=by rw[Wg];simp
    rw[e];exact⟨SeqAt.EqAt.str_str _ _ _ _,SeqAt.RcAt.str_str _ _ _ _,SeqAt.RcNeAt.str_str _ _ _ _⟩
   |tup t' _ _=>exact eq3 (by intro z;cases z) (SeqAt.EqAt.str_tuple _ _ t' hu') (SeqAt.RcAt.str_tuple _ _ t' hu') (SeqAt.RcNeAt.str_tuple _ _ t' hu')
   |lst t' _ _=>exact eq3 (by intro z;cases z) (SeqAt.EqAt.str_list _ _ t' hu') (SeqAt.RcAt.str_list _ _ t' hu') (SeqAt.RcNeAt.str_list _ _ t' hu')
  |@tup a its ds t hl f=>
   cases r2 with
   |non=>exact eq3 (by intro z;cases z) (SeqAt.EqAt.tuple_none t hu') (SeqAt.RcAt.tuple_none t hu') (SeqAt.RcNeAt.tuple_none t hu')
   |int j t'=>exact eq3 (by intro z;cases z) (SeqAt.EqAt.tuple_int _ _ t hu') (SeqAt.RcAt.tuple_int _ _ t hu') (SeqAt.RcNeAt.tuple_int _ _ t hu')
   |str y t'=>exact eq3 (by intro z;cases z) (SeqAt.EqAt.tuple_str _ _ t hu') (SeqAt.RcAt.tuple_str _ _ t hu') (SeqAt.RcNeAt.tuple_str _ _ t hu')
   |lst t' _ _=>exact eq3 (by intro z;cases z) (SeqAt.EqAt.tuple_list t t' hu') (SeqAt.RcAt.tuple_list t t' hu') (SeqAt.RcNeAt.tuple_list t t' hu')
   |@tup b its' ds' t' hl' f'=>
    cases p1 with
    |tup p1=>
    cases p2 with
    |tup p2=>
    have it:=SS (A:=A.in1) hl hl' f f' p1 p2 λq1 q2 q3 q4=>(ih (A:=A.in1) q1 q2 q3 q4 (by show A.units+1+n<cLine;lia)).1
    have e:decide (D.tup ds=D.tup ds')=((List.range (min its.toArray.size its'.toArray.size)).all (λj=>decide (ds[j]?=ds'[j]?))&&its.toArray.size == its'.toArray.size):=by
     simp only[Yb];by_cases hh:its.length=its'.length
     ·rw[<-hh,Nat.min_self,hl,Gh (by lia),Wg];simp
     ·have:ds≠ds':=λz=>hh (by rw[hl,hl',z])
      rw[Wg];simp[hh,this]
    have rc:SeqAt.RcAt A s (.ref a) (.ref b) (decide (D.tup ds=D.tup ds')):=by
     rw[e];exact SeqAt.RcAt.tuples (A:=A) (e:=λj=>decide (ds[j]?=ds'[j]?)) t t' hu' it
    have rn:SeqAt.RcNeAt A s (.ref a) (.ref b) (!decide (D.tup ds=D.tup ds')):=by
     rw[e];exact SeqAt.RcNeAt.tuples (A:=A) (e:=λj=>decide (ds[j]?=ds'[j]?)) t t' hu' it
    refine⟨?_,rc,rn⟩;by_cases hab:a=b
    ·subst hab;have:=RH.inj (RH.tup t hl f) (RH.tup t' hl' f');rw[this,Ae rfl];exact SeqAt.EqAt.same _
    ·exact Bl hab rc
  |@lst a its ds t hl f=>
   cases r2 with
   |non=>exact eq3 (by intro z;cases z) (SeqAt.EqAt.list_none t hu') (SeqAt.RcAt.list_none t hu') (SeqAt.RcNeAt.list_none t hu')
   |int j t'=>exact eq3 (by intro z;cases z) (SeqAt.EqAt.list_int _ _ t hu') (SeqAt.RcAt.list_int _ _ t hu') (SeqAt.RcNeAt.list_int _ _ t hu')
   |str y t'=>exact eq3 (by intro z;cases z) (SeqAt.EqAt.list_str _ _ t hu') (SeqAt.RcAt.list_str _ _ t hu') (SeqAt.RcNeAt.list_str _ _ t hu')
   |tup t' _ _=>exact eq3 (by intro z;cases z) (SeqAt.EqAt.list_tuple t t' hu') (SeqAt.RcAt.list_tuple t t' hu') (SeqAt.RcNeAt.list_tuple t t' hu')
   |@lst b its' ds' t' hl' f'=>
    cases p1 with
    |lst p1=>
    cases p2 with
    |lst p2=>
    have it:=SS (A:=A.in1) hl hl' f f' p1 p2 λq1 q2 q3 q4=>(ih (A:=A.in1) q1 q2 q3 q4 (by show A.units+1+n<cLine;lia)).1
    have both:SeqAt.RcAt A s (.ref a) (.ref b) (decide (D.lst ds=D.lst ds'))/\SeqAt.RcNeAt A s (.ref a) (.ref b) (!decide (D.lst ds=D.lst ds')):=by
     by_cases hh:its.length=its'.length
     ·have e:decide (D.lst ds=D.lst ds')=(List.range its.toArray.size).all λj=>decide (ds[j]?=ds'[j]?):=by
       simp only[Yb];rw[hl,Gh (by lia),Wg];simp
      rw[e];exact⟨SeqAt.RcAt.lists (A:=A) (e:=λj=>decide (ds[j]?=ds'[j]?)) t t' (by simpa using hh) hu' it,SeqAt.RcNeAt.lists (A:=A) (e:=λj=>decide (ds[j]?=ds'[j]?)) t t' (by simpa using hh) hu' it⟩
     ·have:ds≠ds':=λz=>hh (by rw[hl,hl',z])
      rw[Ad (by intro z;cases z;exact this rfl)]
      exact⟨SeqAt.RcAt.lists_lengths t t' (by simpa using hh) hu',CW t t' (by simpa using hh) hu'⟩
    obtain⟨rc,rn⟩:=both;refine⟨?_,rc,rn⟩;by_cases hab:a=b
    ·subst hab;have:=RH.inj (RH.lst t hl f) (RH.lst t' hl' f');rw[this,Ae rfl];exact SeqAt.EqAt.same _
    ·exact Bl hab rc
open Classical in
noncomputable def xu(neg:Te):D->D->S9 Rz:=λa b=>if Pl 40 a/\Pl 40 b then some (.bl (if neg then !decide (a=b) else decide (a=b)),false) else none
open Classical in
def Gi(K:PySem.W.Frag)(neg:Te):R2:=λx y H Q=>∃(Y:AS)(a b:D),BA K Y H x a/\BA K Y H y b/\Pl 40 a/\Pl 40 b/\Q (.bl (if neg then !decide (a=b) else decide (a=b))) H
def Gj(neg:Te):Tw K (Gi K neg) (xu neg):=by
 intro Y H x y d1 d2 z Q lv b1 b2 e q;unfold xu at e;obtain⟨c,e⟩:=aG e;cases e;exact⟨Y,d1,d2,b1,b2,c.1,c.2,q _ H (Ts.refl H) (.bl _)⟩
def NT(h:X.K=K)(hu:X.A.units+64<cLine):T4 X (compareOp .Eq) (Gi K false):=by
 intro Ti s σ H x y v u Q I rx ry ⟨Y,a,b,b1,b2,p1,p2,q⟩;exact(RH.eqAt 40 (A:=X.A) p1 p2 (b1.rh p1 I h rx) (b2.rh p2 I h ry) (by lia)).2.1 _ _ _ _ ⟨.bl _,H,I,rfl,q⟩
def NU(h:X.K=K)(hu:X.A.units+64<cLine):T4 X (compareOp .NotEq) (Gi K true):=by
 intro Ti s σ H x y v u Q I rx ry ⟨Y,a,b,b1,b2,p1,p2,q⟩;exact(RH.eqAt 40 (A:=X.A) p1 p2 (b1.rh p1 I h rx) (b2.rh p2 I h ry) (by lia)).2.2 _ _ _ _ ⟨.bl _,H,I,rfl,q⟩
noncomputable def rB:=nM uV (xu false)
noncomputable def vR:=nM Iw (xu true)
def QC(K:PySem.W.Frag):R2:=λx y H Q=>PH x y H Q\/Gi K false x y H Q
def QD(K:PySem.W.Frag):R2:=λx y H Q=>NH K x y H Q\/Gi K true x y H Q
def xv(h:X.K=K)(hu:X.A.units+64<cLine):T4 X (compareOp .Eq) (QC K):=(d6 h hu).or (NT h hu)
def NV:Tw K (QC K) rB:=UM.or (Gj false)
def NW(h:X.K=K)(hu:X.A.units+64<cLine):T4 X (compareOp .NotEq) (QD K):=(pZ h hu).or (NU h hu)
def NX:Tw K (QD K) vR:=UN.or (Gj true)
end
open PySem.Spec
abbrev Pk:=V->St->Hp->VK->Prop
def Gk(r:R2)(te:TE):Pk:=λy σ H Q=>te σ H λw H1=>r y w H1 Q
def Gm(r:R2)(te:TE)(rest:Pk):Pk:=λy σ H Q=>te σ H λw H1=>r y w H1 λz H2=>∃k,z=.bl k/\(if k=true then rest w σ H2 Q else Q (.bl false) H2)
def QE(ta:TE)(rest:Pk):TE:=λσ H Q=>ta σ H λx H1=>rest x σ H1 Q
section
variable {X:Cx}{a b e:Expr}{ta te:TE}
def Jt(X:Cx)(ops:S8 CmpOp)(es:S8 Expr)(t:Pk):Prop:=∀(Ti:S8 (Td×Obj))(s:Tb)(σ:St)(H:Hp)(y:V)(u:Ta)(Q:Te->Hp->Prop)(pos:Pos),Inv X Ti σ H s->RelV y u->t y σ H (λx H'=>∃k,x=.bl k/\Q k H')->
 wpAny (model X.prog X.w) X.A (testChain pos u ops (evalEach es X.env)) (TP X Ti σ Q) X.xe s
def sI(ho:T4 X (compareOp op) r)(he:PE X e te):Jt X [op] [e] (Gk r te):=by
 intro Ti s σ H y u Q pos I ru h;refine PyProof.Rows.test_last (cb (he Ti s σ H _ I h) λw s1 ⟨z,H1,I1,r1,q1⟩=>cb (ho Ti s1 σ H1 y z u w _ I1 ru r1 q1) λd s3 zz9=>?_);obtain⟨z',H3,I3,r3,k,e,q3⟩:=zz9;subst e;cases r3;exact Av ⟨H3,I3,q3⟩
theorem gh(ho:T4 X (compareOp op) r)(he:PE X e te)(ht:Jt X (op'::ops) (e'::es) t):Jt X (op::op'::ops) (e::e'::es) (Gm r te t):=by
 intro Ti s σ H y u Q pos I ru h;refine PyProof.Rows.test_link (cb (he Ti s σ H _ I h) λw s1 ⟨z,H1,I1,r1,q1⟩=>cb (ho Ti s1 σ H1 y z u w _ I1 ru r1 q1) λd s3 zz9=>?_);obtain⟨z',H3,I3,r3,k,e,q3⟩:=zz9;subst e;cases r3;refine Av ?_;cases k with
 |false=>
  obtain⟨k',e',q'⟩:=q3;cases e';exact PyProof.Rows.ite_ff ⟨H3,I3,q'⟩
 |true=>exact PyProof.Rows.ite_tt (ht Ti s3 σ H3 z w Q pos I3 r1 q3)
def Gp(ha:PE X a ta)(ht:Jt X (op::op'::ops) (e::e'::es) t)(hm:lastMarks (op::op'::ops) (e::e'::es)=false:=by with_unfolding_all rfl):PT X (.Compare a (op::op'::ops) (e::e'::es) pos) (EO (QE ta t)):=by
 intro Ti s σ H Q I h;exact PyProof.Rows.isTrue_chain (cb (ha Ti s σ H _ I h) λv s1 ⟨x,H1,I1,r1,q1⟩=>ht Ti s1 σ H1 x v Q pos I1 r1 q1) hm
def km(hK:X.K=K)(hc:X.calm=true)(h:Px X es t)
  (hn:(assignEach es X.env).length=n:=by rfl)(hst:(assignEach es X.env).findIdx? (·.1)=none:=by rfl):PG X (.Tuple es k pos) (Mm K n t):=hK ▸ Mn hc h hn hst
end
section
variable {K:PySem.W.Frag}{Y O O' Z:AS}{H H':Hp}{v:V}{d:D}{st Tn:En}{σ:St}
abbrev Pn:=Rs->FE
def Ju(K:PySem.W.Frag)(t:Pk)(f:Pn):Prop:=∀(st:En)(σ:St)(H:Hp)(O Z:AS)(Q:VK)(y:V)(ry:Rs),ER K st σ H O Z->TU K Z st σ H O y ry.nf->∀r Tn,f ry st=some (r,Tn)->
 (∀v H' O',TK O H O' H'->Kp st Tn->ER K Tn σ H' O' Z->TU K Z Tn σ H' O' v r->UT H v r->Q v H')->t y σ H Q
def mP(b:D->D->S9 Rz)(fe:FE):Pn:=λry st=>(fe st).bind λx=>(cont x.2 ry).bind λd1=>(cont x.2 x.1).bind λd2=>(b d1 d2).bind λz=>some (mk z,x.2)
def vS(hr:Tw K r b)(he:dC K te fe):Ju K (Gk r te) (mP b fe):=by
 intro st σ H O Z Q y ry E rv0 r0 Tn h q;refine cx h λr2 TR e2 h=>?_;refine bB h λd1 e3 h=>?_;refine bB h λd2 e4 h=>?_;refine bB h λz e5 h=>?_;cases h;refine he st σ H O Z _ E r2 TR e2 λv2 H2 O2 x2 k2 E2 rv2 w2=>?_;have b1:=(rv0.ext x2 k2).ba E2 (by rw[fu];exact e3)
 refine hr (U O2 Z) H2 y v2 d1 d2 z _ E2.liv b1 (rv2.ba E2 e4) e5 λv H3 s hres=>?_;obtain⟨E3,rv3⟩:=hres.rv E2 s;exact q v H3 O2 (x2.trans (Ts.ext s)) k2 E3 rv3 (hres.fsh.back x2)
def fT(b:D->D->S9 Rz)(fe:FE)(rest:Pn):Pn:=λry st=>(fe st).bind λx=>(cont x.2 ry).bind λd1=>(cont x.2 x.1).bind λd2=>(b d1 d2).bind λz=>match z with|(.bl true,false)=>rest x.1 x.2|(.bl false,false)=>some (.d (.bl false),x.2)|_=>none
def vT(hr:Tw K r b)(he:dC K te fe)(ht:Ju K t f):Ju K (Gm r te t) (fT b fe f):=by
 intro st σ H O Z Q y ry E rv0 r0 Tn h q;refine cx h λr2 TR e2 h=>?_;refine bB h λd1 e3 h=>?_;refine bB h λd2 e4 h=>?_;refine bB h λz e5 h=>?_;refine he st σ H O Z _ E r2 TR e2 λv2 H2 O2 x2 k2 E2 rv2 w2=>?_;have b1:=(rv0.ext x2 k2).ba E2 (by rw[fu];exact e3)
 refine hr (U O2 Z) H2 y v2 d1 d2 z _ E2.liv b1 (rv2.ba E2 e4) e5 λv H3 s hres=>?_;obtain⟨dz,fr⟩:=z;cases dz with
 |bl c=>
  cases fr with
  |true=>cases c<;>cases h
  |false=>
   have ev:v=.bl c:=DA.ba (show DA K (U O2 Z) H3 v (.bl c) from hres);refine⟨c,ev,?_⟩;have E3:=E2.same s;have x3:TK O2 H2 O2 H3:=Ts.ext s;cases c with
   |false=>
    rw[Ah (by decide)]
    cases h;exact q _ H3 O2 (x2.trans x3) k2 E3 (.bl false) True.intro
   |true=>
    rw[Af rfl];exact ht TR σ H3 O2 Z Q v2 r2 E3 (rv2.nf.ext x3 (Kp.refl _)) r0 Tn h λw H4 O4 x4 k4 E4 rv4 w4=>q w H4 O4 ((x2.trans x3).trans x4) (k2.trans k4) E4 rv4 (w4.back (x2.trans x3))
 |_=>cases fr<;>cases h
def Gq(fa:FE)(f:Pn):FE:=λst=>(fa st).bind λx=>f x.1 x.2
def Gr(ha:dC K ta fa)(ht:Ju K t f):dC K (QE ta t) (Gq fa f):=by
 intro st σ H O Z Q E r0 Tn h q;refine cx h λr1 Tr e1 h=>?_;refine ha st σ H O Z _ E r1 Tr e1 λv1 H1 O1 x1 k1 E1 rv1 w1=>?_;exact ht Tr σ H1 O1 Z Q v1 r1 E1 rv1.nf r0 Tn h λw H4 O4 x4 k4 E4 rv4 w4=>q w H4 O4 (x1.trans x4) (k1.trans k4) E4 rv4 (w4.back x1)
def qb:FS:=λ_=>none
def Gs:r6 K EI qb:=by
 intro st σ H O Z Dn E o e;cases e
def xw:D->S8 D->S9 (D×D)|.lst _,[]=>some (.non,.lst [])|_,_=>none
theorem vU:U7 K "list" Fi pW xw:=⟨λY H p x h e=>Qu h e,λY H p x vs ds y x' Q hp ho el e q=>by
 cases x with
 |lst xs=>
  cases ds with
  |cons _ _=>cases e
  |nil=>
   cases e;obtain⟨ws,h1,h2⟩:=ho;obtain rfl:=el.unnil;exact⟨p,ws,rfl,rfl,h1,q .non _ .non ⟨[],aS,El.nil⟩⟩
 |_=>cases e⟩
end
section
variable {X:Cx}{K:PySem.W.Frag}
def Gu(K:PySem.W.Frag):R2:=λx y H Q=>∃a b ys,x=.ref a/\y=.ref b/\iH K H a []/\iH K H b ys/\Q (.ref b) H
def Jv(h:X.K=K):T4 X (binaryOp .Add) (Gu K):=by
 intro Ti s σ H x y v u Q I rx ry hh;obtain⟨a,b,ys,rfl,rfl,ha,hb,q⟩:=hh;cases rx;cases ry;subst h;obtain⟨its,r1,p1,_⟩:=I.tuple ha;obtain⟨its2,r2,p2,_⟩:=I.tuple hb;cases r1;obtain⟨⟨cls,dd,data,sl⟩,ho,hc,n,hd⟩:=id p1;obtain⟨⟨cls2,dd2,data2,sl2⟩,ho2,hc2,n2,hd2⟩:=id p2;simp only at hc hd hc2 hd2;subst hc hd hc2 hd2;exact concat_meets ⟨_,ho,rfl⟩ ⟨_,ho2,rfl⟩ Cz seq_tuple_add PySem.F.slot_tuple_add PySem.F.entry_tuple_add (PySem.F.args_tuple_add_2 _ _)
   (PyProof.Rows.tuple_addW0 a b _ _ n n2 dd dd2 sl sl2 rfl) ⟨ho,ho2,.ref b,H,I,rfl,q⟩
def LE:D->D->S9 Rz|.tup [],.tup b=>some (.tup b,false)|_,_=>none
theorem Jw:Tw K (Gu K) LE:=by
 intro Y H x y d1 d2 z Q lv b1 b2 e q;cases d1 with
 |tup a=>
  cases a with
  |cons a0 a=>cases e
  |nil=>
   cases d2 with
   |tup b=>
    cases e;obtain⟨p,xs,rfl,hp,el⟩:=b1;obtain⟨p2,ys,rfl,hp2,el2⟩:=b2;obtain rfl:=el.unnil;exact⟨p,p2,ys,rfl,rfl,hp.sq,hp2.sq,q _ H (Ts.refl H) (.tup hp2 el2.1 el2.2)⟩
   |_=>cases e
 |_=>cases e
def dH:=nM bF LE
def LF(K:PySem.W.Frag):R2:=λx y H Q=>F3 K x y H Q\/Gu K x y H Q
def cP(h:X.K=K):T4 X (binaryOp .Add) (LF K):=(aK h).or (Jv h)
def Jx:Tw K (LF K) dH:=UJ.or Jw
def NY(K:PySem.W.Frag):V->S9 Int->S9 Int->Hp->VK->Prop:=λx lo hi H Q=>∃a xs,x=.ref a/\iH K H a xs/\(HT.sIx xs.length 0 lo=0/\HT.sIx xs.length xs.length hi=xs.length)/\Q (.ref a) H
end
end VF
namespace HT
open PySem PyProof.Rows
section
variable {prog:Tf}{w:Th}{A:Around}{E:Ta->Tb->Prop}{s:Tb}
def getItem_tuple_all{t sl:Td}{items:Tc Ta}{vl vu:Ta}{lo hi:S9 Int}{Q:Ta->Tb->Prop}(ht:IsTup s.heap t items)(hs:s.heap.IsSliceOf sl vl vu .none)(pl:IsPart vl lo)(pu:IsPart vu hi)
  (hw:sIx items.size 0 lo=0/\sIx items.size items.size hi=items.size)(h:Q (.ref t) s):wpAny (model prog w) A (getItem (.ref t) (.ref sl)) Q E s:=by
 obtain⟨os,hos,hcs,hds⟩:=id hs;have hTs:s.TypeIs (.ref sl) "slice":=⟨os,hos,hcs⟩;unfold getItem
 try with_reducible refine Aw ?_
 first|refine Aa (Ac ?_)|skip
 refine Aa (Cj ht.typeIs (by decide) ?_)
 refine Aa (Ao (name:=Str.ofString "__getitem__") ht.typeIs At
  (An At ht.typeIs BY ?_ (Cb _ _)))
 show wpAny _ _ (Builtin.Tuple.tupleItemsOf (.ref t) >>= _) _ _ s;refine Aa (tupleItemsOf_ ht ?_);refine Aa (AQ hTs ?_);rw[Af (by decide)]
 refine Aa (iz hs pl pu ?_);have hyes:(((sIx items.size 0 lo:Nat):Int) == 0&&(1:Int) == 1&&(sIx items.size items.size hi-sIx items.size 0 lo) == items.size)=true:=by
  rw[hw.1,hw.2];simp
 show wpAny _ _ (if (((sIx items.size 0 lo:Nat):Int) == 0&&(1:Int) == 1&&(sIx items.size items.size hi-sIx items.size 0 lo) == items.size)=true then _ else _) _ _ s;rw[Af hyes];unfold Builtin.Tuple.tupleIsExact;refine Aa (Aa (AQ ht.typeIs (Ac ?_)));rw[Af (by decide)]
 exact Aa (AN (Ac ⟨_,rfl,Ac h⟩))
end
end HT
namespace VF
open PySem L2
section
variable {X:Cx}{K:PySem.W.Frag}
def Gv(h:X.K=K):UH X (NY K):=by
 intro Ti s σ H x v vl vu lo hi sl Q I rx hs pl pu hh;obtain⟨a,xs,rfl,hx,hw,q⟩:=hh;cases rx;subst h;obtain⟨its,r,ht,hz⟩:=I.tuple hx;have hlen:its.toArray.size=xs.length:=by rw[Yb];exact r.length.symm
 refine⟨"tuple",_,At.lookup,ht.typeIs,?_⟩;exact HT.getItem_tuple_all ht hs pl pu (by rw[hlen];exact hw) ⟨.ref a,H,I,rfl,q⟩
def Jy:D->S9 Int->S9 Int->S9 Rz|.tup ds,lo,hi=>if HT.sIx ds.length 0 lo=0/\HT.sIx ds.length ds.length hi=ds.length then some (.tup ds,false) else none|_,_,_=>none
theorem QF:Uh K (NY K) Jy:=by
 intro Y H x lo hi d1 z Q lv b1 e q;cases d1 with
 |tup a=>
  obtain⟨c,e⟩:=aG e;cases e;obtain⟨p,xs,rfl,hp,el⟩:=b1;exact⟨p,xs,rfl,hp.sq,by rw[el.1];exact c,q _ H (Ts.refl H) (.tup hp el.1 el.2)⟩
 |_=>cases e
def gn:=Jb DI Jy
def QG(K:PySem.W.Frag):V->S9 Int->S9 Int->Hp->VK->Prop:=λx lo hi H Q=>NI K x lo hi H Q\/NY K x lo hi H Q
def ck(h:X.K=K):UH X (QG K):=UH.or (tU h) (Gv h)
def Gx:Uh K (QG K) gn:=Uh.or yR QF
def xy(ds:S8 D)(lo hi:S9 Int):gn (.tup ds) lo hi=some (.tup (cutD ds lo hi),false):=by
 have e1:FU (.tup ds) lo hi=none:=rfl;have e3:Jc (.tup ds) lo hi=none:=rfl;by_cases c:HT.sIx ds.length 0 lo=0/\HT.sIx ds.length ds.length hi=ds.length
 ·have e2:tT (.tup ds) lo hi=none:=by simp only[tT,Af c]
  have e4:Jy (.tup ds) lo hi=some (.tup ds,false):=by simp only[Jy,Af c]
  have e5:cutD ds lo hi=ds:=by
   unfold cutD;rw[c.1,c.2];simp
  unfold gn DI Jb;rw[e1,e2,e3,e4,e5]
 ·have e2:tT (.tup ds) lo hi=some (.tup (cutD ds lo hi),false):=by simp only[tT,Ah c]
  unfold gn DI Jb;rw[e1,e2]
theorem tY{a b:S8 D}(h:a.length+b.length<=100000):dH (.tup a) (.tup b)=some (.tup (a++b),false):=by
 have e1:vB (.tup a) (.tup b)=none:=rfl;have e2:vD (.tup a) (.tup b)=none:=rfl;have e3:FP (.tup a) (.tup b)=none:=rfl;cases a with
 |nil=>
  have e4:sh (.tup []) (.tup b)=none:=rfl;unfold dH bF nM;rw[e1,e2,e3,e4];rfl
 |cons x a=>
  have e4:sh (.tup (x::a)) (.tup b)=some (.tup (x::a++b),false):=by
   simp only[Qc]at h;cases b with
   |nil=>simp only[sh,Zg];rw[Af (by lia)]
   |cons y b=>
    simp only[Qc]at h;simp only[sh];rw[Af (by lia)]
  unfold dH bF nM;rw[e1,e2,e3,e4]
def NZ{ds:S8 D}(h:j<=ds.length):cutD ds none (some (j:Int))=ds.take j:=by
 unfold cutD;rw[HT.sIx_none,HT.sIx_nat,Zm h];simp
def Gy{ds:S8 D}(h:i<=ds.length):cutD ds (some (i:Int)) none=ds.drop i:=by
 unfold cutD;rw[HT.sIx_none,HT.sIx_nat,Zm h,Dc];rw[Xi];lia
def Jz{ds:S8 D}(h:i<=ds.length)(h':j<=ds.length):cutD ds (some (i:Int)) (some (j:Int))=(ds.drop i).take (j-i):=by
 unfold cutD;rw[HT.sIx_nat,HT.sIx_nat,Zm h,Zm h']
end
section
variable {α:Type}{fg:FG}{B:FS}{fc:FT}{fe:FE}{k:Nat}
theorem bP(f:α->D)(all:S8 α)(I:S8 α->En->Prop)(step:∀(gone:S8 α)(x:α)(rest:S8 α)(st:En),all=gone++x::rest->I gone st->∃s1 s2,fg (f x) st=some s1/\B s1=some (.nx s2)/\I (gone++[x]) s2) :
  ∀(items gone:S8 α)(st:En),all=gone++items->I gone st->∃sf,dZ fg B (items.map f) st=some (.nx sf)/\I all sf
 |[],gone,st,ha,h=>⟨st,rfl,by rw[ha,Zg];exact h⟩
 | x::r,gone,st,ha,h=>by
  obtain⟨s1,s2,e1,e2,e3⟩:=step gone x r st ha h;obtain⟨sf,e4,e5⟩:=bP f all I step r (gone++[x]) s2 (by rw[Xf];exact ha) e3
  refine⟨sf,?_,e5⟩;simp only[Zd,dZ,e1,e2,Wa];exact e4
theorem dP(f g:α->D)(p:α->Te)(sb:En):∀(xs:S8 α),(∀x∈xs,∃s1 s2,fg (f x) sb=some s1/\fc s1=some (p x,s2)/\(p x=false->re k s2=sb)/\(p x=true->∃y s3 s4,fe s2=some (y,s3)/\esc y s3=some (g x,s4)/\re k s4=sb))->
  cF fg fc fe k (xs.map f) sb=some ((xs.filter p).map g,sb)
 |[],_=>rfl
 | x::r,h=>by
  obtain⟨s1,s2,e1,e2,hf,ht⟩:=h x Wc;have ih:=dP f g p sb r λy hy=>h y (Wb _ hy);cases hp:p x with
  |false=>
   rw[hp]at e2;simp only[Zd,cF,e1,e2,Wa,Xe,if_false,hf hp,ih,BC,hp]
  |true=>
   rw[hp]at e2;obtain⟨y,s3,s4,e3,e4,e5⟩:=ht hp;simp only[Zd,cF,e1,e2,Wa,if_true,e3,e4,e5,ih,BC,hp]
def ci(f g:α->D)(sb:En)(xs:S8 α)(h:∀x∈xs,∃s1 s2 y s3 s4,fg (f x) sb=some s1/\fc s1=some (true,s2)/\fe s2=some (y,s3)/\esc y s3=some (g x,s4)/\re k s4=sb) :
  cF fg fc fe k (xs.map f) sb=some (xs.map g,sb):=by
 have:=dP (fg:=fg) (fc:=fc) (fe:=fe) (k:=k) f g (λ_=>true) sb xs λx hx=>by
  obtain⟨s1,s2,y,s3,s4,e1,e2,e3,e4,e5⟩:=h x hx;exact⟨s1,s2,e1,e2,λz=>(Bool.noConfusion z),λ_=>⟨y,s3,s4,e3,e4,e5⟩⟩
 rw[this,List.filter_eq_self.mpr λ_ _=>rfl]
end
theorem jI(S:S8 D->En->Prop)(all:S8 α)(bound:Nat)
  (step:∀acc x st,x∈all->acc.length+(g x).length<=bound->S acc st->∃s1 s2,fg (f x) st=some s1/\B s1=some (.nx s2)/\S (acc++g x) s2) :
  ∀(xs:S8 α)(base:S8 D)(st:En),(∀x∈xs,x∈all)->base.length+(xs.flatMap g).length<=bound->S base st->∃sf,dZ fg B (xs.map f) st=some (.nx sf)/\S (base++xs.flatMap g) sf
 |[],base,st,_,_,h=>⟨st,rfl,by simpa using h⟩
 | x::r,base,st,ha,hb,h=>by
  rw[Yl,Qa]at hb;obtain⟨s1,s2,e1,e2,e3⟩:=step base x st (ha x Wc) (by lia) h
  obtain⟨sf,e4,e5⟩:=jI S all bound step r (base++g x) s2 (λy hy=>ha y (Wb _ hy)) (by rw[Qa];lia) e3
  refine⟨sf,?_,by rw[Yl,<-Xf];exact e5⟩
  simp only[Zd,dZ,e1,e2,Wa];exact e4
section
variable {st s1:En}{rs:S8 Rs}{fa:FA}
def o9(h1:fa st=some (rs,s1))(h2:cj s1 rs=some [.int i,.int j])(h3:-(2 ^ 62)<=i/\i<2 ^ 62/\-(2 ^ 62)<=j/\j<2 ^ 62):lB fa st=some (rng i (j-i).toNat,s1):=by
 simp only[lB,h1,h2,Wa,M8];rw[Af h3]
def Gz{t:Sl}(h0:st[i]?=some t)(h00:t.ow=some x)(hk:ok x=true)(h5:mm x []=some (y,x'))(h6:st.set i (t.put x')=Us:=by rfl):Ph ok mm i st=some (.d y,Us):=by
 simp only[Ph,h0,h00,hk,h5,h6,Wa,if_true]
def tZ{xs ys:S8 D}(h:xs.length+ys.length<=1000000):kl (.lst xs) [.lst ys]=some (.non,.lst (xs++ys)):=by
 show(if xs.length+ys.length<=1000000 then some (D.non,D.lst (xs++ys)) else none)=_;rw[Af h]
end
def pb(a n:Nat):rng (a:Int) n=(List.range n).map λt=>D.int ((a+t:Nat):Int):=by
 unfold rng;exact We λt _=>by rw[CS]
end VF
namespace VF22
open PySem PySem.Spec PyProof.Rows L2 VF
def ST(t:Te):String:=if t then "tuple_iterator" else "list_iterator"
def Sh(t:Te):String:=if t then "tuple" else "list"
def Io(t:Te)(h:Tg)(a l:Td)(i:Nat):Prop:=∃o,h.get? a=some o/\o.cls=.type (ST t)/\o.data=.fields #[.ref l,.int i 0]
def So(t:Te)(h:Tg)(l:Td)(xs:Tc Ta):Prop:=∃o,h.get? l=some o/\o.cls=.type (Sh t)/\∃n,o.data=.seq xs n
variable {t t1 t2:Te}{h h':Tg}
theorem Io.by(a:Io t h it l i)(k:∀o,h.get? it=some o->h'.get? it=some o):Io t h' it l i:=by
 obtain⟨o,e,r⟩:=a;exact⟨o,k o e,r⟩
theorem So.by(a:So t h l xs)(k:∀o,h.get? l=some o->h'.get? l=some o):So t h' l xs:=by
 obtain⟨o,e,r⟩:=a;exact⟨o,k o e,r⟩
section
variable {P:Tf}{w:Th}{A:Around}{E:Ta->Tb->Prop}{s:Tb}
def y6(a:Io t s.heap it l i)(b:So t s.heap l xs)(hx:xs[i]?=some x)
  (q:∀h1,Io t h1 it l (i+1)->Heap.SameBut it s.heap h1->Q x { s with heap:=h1 }):wpAny (model P w) A (Builtin.SmallTypes.nextOf (.ref it)) Q E s:=by
 cases t with
 |false=>exact wpAny_nextOf_list_item (i:=i) (l:=l) (items:=xs) a b hx q
 |true=>
  obtain⟨u,hu,cu,du⟩:=id a;obtain⟨v,hv,cv,nv,dv⟩:=b;have ty:s.heap.IsTupleIter it l i:=⟨u,hu,cu,du⟩;unfold Builtin.SmallTypes.nextOf;refine Aa (Ao (name:=Str.ofString "__next__") ty.typeIs F.slot_tuple_iterator_next (An F.slot_tuple_iterator_next ty.typeIs F.entry_tuple_iterator_next ?_ (F.args_tuple_iterator_next_1 _)));show wpAny _ _ (field (.ref it) 0 >>= _) _ _ _;refine Aa (Ap hu du (x:=.ref l) rfl ?_);show wpAny _ _ (if (Value.ref l == Value.none)=true then _ else _) _ _ _;rw[Ah (show ¬ ((Value.ref l == .none)=true) from Xd)];show wpAny _ _ (field (.ref it) 1 >>= _) _ _ _;refine Aa (Ap hu du (x:=.int i 0) rfl ?_);show wpAny _ _ (seqItems? (.ref l) >>= _) _ _ _;refine Aa (Az hv dv ?_);simp only[hx,Zl];refine Aa (AM hu du (by simp) (Ac ⟨x,rfl,Ac (q _ ?_ (AT ..))⟩))
  refine⟨_,AK _ hu (A7 (Ay du _)),(Cq ..).trans cu,?_⟩;rw[Ay du];simp[rawInt]
def t9(hh:A.handled=none)(a:Io t s.heap it l i)(b:So t s.heap l xs)(hx:xs[i]?=none)
  (q:∀h1 e,Heap.ExtBut it s.heap h1->(∃o,h1.get? e=some o/\o.cls=.type "StopIteration")->E (.ref e) { s with heap:=h1 }):wpAny (model P w) A (Builtin.SmallTypes.nextOf (.ref it)) Q E s:=by
 cases t with
 |false=>exact wpAny_nextOf_list_end (i:=i) (l:=l) (items:=xs) hh a b hx q
 |true=>
  obtain⟨u,hu,cu,du⟩:=id a;obtain⟨v,hv,cv,nv,dv⟩:=b;have ty:s.heap.IsTupleIter it l i:=⟨u,hu,cu,du⟩;unfold Builtin.SmallTypes.nextOf;refine Aa (Ao (name:=Str.ofString "__next__") ty.typeIs F.slot_tuple_iterator_next (An F.slot_tuple_iterator_next ty.typeIs F.entry_tuple_iterator_next ?_ (F.args_tuple_iterator_next_1 _)));show wpAny _ _ (field (.ref it) 0 >>= _) _ _ _;refine Aa (Ap hu du (x:=.ref l) rfl ?_);show wpAny _ _ (if (Value.ref l == Value.none)=true then _ else _) _ _ _;rw[Ah (show ¬ ((Value.ref l == .none)=true) from Xd)];show wpAny _ _ (field (.ref it) 1 >>= _) _ _ _;refine Aa (Ap hu du (x:=.int i 0) rfl ?_);show wpAny _ _ (seqItems? (.ref l) >>= _) _ _ _;refine Aa (Az hv dv ?_);simp only[hx,Zl];refine Aa (AN (Aa (AM hu du (by simp) ?_)))
  show wpAny _ _ (newExc (.type "StopIteration") [] >>= _) _ _ _;refine Aa ?_;simp only[newExc,newTuple];refine Aa (Am ?_ (by size_fits))
  refine Aa (m:=firstArgMember _ _) (AF (a:=.none) (by first|rfl|(simp only[firstArgMember];rfl)) ?_)
  refine Am ?_ (by size_fits)
  simp only[raiseNew];refine Aa (wpAny_handled ?_)
  first|rw[show A.in1.handled=none from hh]|rw[hh]
  refine Aa (Ac (wpAny_throw ?_));exact q _ _ (((AT ..).extBut.push _).push _) ⟨_,Ag _ rfl,rfl⟩
def QH(W:ZipApart z T1 T2 i1 i2 l1 l2)(hz:IsZip s.heap z T1 T2 .none)(p1:IsPair s.heap T1 (.ref i1) (.ref i2))(p2:IsPair s.heap T2 a b)
  (u1:Io t1 s.heap i1 l1 k)(u2:Io t2 s.heap i2 l2 k)(v1:So t1 s.heap l1 xs)(v2:So t2 s.heap l2 ys)(hx:xs[k]?=some x)(hy:ys[k]?=some y)
  (q:∀g,IsZip g z T1 T2 (rawInt s.heap.objs.size)->IsPair g T2 x y->Io t1 g i1 l1 (k+1)->Io t2 g i2 l2 (k+1)->IsPair g s.heap.objs.size x y->
   (∀c o,c≠z->c≠T2->c≠i1->c≠i2->s.heap.get? c=some o->g.get? c=some o)->Q (some (.ref s.heap.objs.size)) { s with heap:=g }):wpAny (model P w) A (pyNext (.ref z)) Q E s:=by
 have ty:s.TypeIs (.ref z) "zip":=⟨_,hz,rfl⟩;unfold pyNext;refine Aa (AA (Ao (name:=Str.ofString "__next__") ty F.slot_zip_next (An F.slot_zip_next ty F.entry_zip_next ?_ (F.args_zip_next_1 _))));show wpAny _ _ (field (.ref z) 2 >>= _) _ _ s;refine Aa (Ap hz rfl (x:=.bool false) rfl ?_);show wpAny _ _ (field (.ref z) 3 >>= _) _ _ s;refine Aa (Ap hz rfl (x:=.ref T1) rfl ?_);refine Aa (Az p1 rfl ?_);show wpAny _ _ (Builtin.SmallTypes.ownedTupleIsFree (.ref z) >>= _) _ _ s;refine Aa ?_;unfold Builtin.SmallTypes.ownedTupleIsFree;refine Aa (Ap hz rfl (x:=Value.none) rfl (Ac ?_));simp only[if_true];refine Aa (AN ?_);refine Aa (Ap hz rfl (x:=.ref T2) rfl ?_);refine Aa (AG hz (by simp) λg1 z1 s1=>?_)
 replace z1:IsZip g1 z T1 T2 .ellipsis:=z1
 refine Aa ?_;simp only[Be,C1,BB,List.zipIdx_nil];refine Aa (Aa (B6 ?_));show wpAny _ _ (Builtin.SmallTypes.nextOf (.ref i1) >>= _) _ _ { s with heap:=g1 };refine Aa (y6 (s:={ s with heap:=g1 }) (u1.by λo e=>s1.extBut _ o W.i1z e) (v1.by λo e=>s1.extBut _ o W.l1z e) hx λg2 n1 s2=>Ac ?_)
 have p22:IsPair g2 T2 a b:=s2.extBut _ _ W.TOi1 (s1.extBut _ _ W.TOz p2);refine Aa (Az p22 rfl ?_);refine Aa (BS p22 λg3 p23 s3=>?_);replace p23:IsPair g3 T2 x b:=p23;refine Aa (wpAny_letGo (Ac ?_));refine Aa (Aa (B6 ?_));show wpAny _ _ (Builtin.SmallTypes.nextOf (.ref i2) >>= _) _ _ { s with heap:=g3 };refine Aa (y6 (s:={ s with heap:=g3 }) (u2.by λo e=>s3.extBut _ o W.TOi2.symm (s2.extBut _ o W.i12.symm (s1.extBut _ o W.i2z e))) (v2.by λo e=>s3.extBut _ o W.l2TO (s2.extBut _ o W.l2i1 (s1.extBut _ o W.l2z e))) hy λg4 n2 s4=>Ac ?_)
 have p24:IsPair g4 T2 x b:=s4.extBut _ _ W.TOi2 p23;refine Aa (Az p24 rfl ?_);refine Aa (BS p24 λg5 p25 s5=>?_);replace p25:IsPair g5 T2 x y:=p25;refine Aa (wpAny_letGo (Ac (Ac ?_)));refine Aa (Az p25 rfl ?_);refine Aa (wpAny_newTuple ?_);have sz:g5.objs.size=s.heap.objs.size:=by rw[s5.1,s4.1,s3.1,s2.1,s1.1]
 have z5:IsZip g5 z T1 T2 .ellipsis:=s5.extBut _ _ W.TOz.symm (s4.extBut _ _ W.i2z.symm (s3.extBut _ _ W.TOz.symm (s2.extBut _ _ W.i1z.symm z1)));have k5:∀c o,c≠z->c≠T2->c≠i1->c≠i2->s.heap.get? c=some o->g5.get? c=some o:=λc o c1 c2 c3 c4 e=>s5.extBut _ _ c2 (s4.extBut _ _ c4 (s3.extBut _ _ c2 (s2.extBut _ _ c3 (s1.extBut _ _ c1 e))));have n15:Io t1 g5 i1 l1 (k+1):=n1.by λo e=>s5.extBut _ o W.TOi1.symm (s4.extBut _ o W.i12 (s3.extBut _ o W.TOi1.symm e))
 have n25:Io t2 g5 i2 l2 (k+1):=n2.by λo e=>s5.extBut _ o W.TOi2.symm e
 have zl:z<g5.objs.size:=Ai z5;show wpAny _ _ (Builtin.SmallTypes.ownedTupleHandOut (.ref z) (.ref g5.objs.size) >>= _) _ _ _;refine Aa ?_;unfold Builtin.SmallTypes.ownedTupleHandOut;have z6:IsZip (g5.push { cls:=.type "tuple",data:=.seq #[x,y] }) z T1 T2 .ellipsis:=Ab _ z5;refine Aa (AG z6 (by simp) λg7 z7 s7=>?_)
 replace z7:IsZip g7 z T1 T2 (rawInt g5.objs.size):=z7
 refine AG z7 (by simp) λg8 z8 s8=>?_
 replace z8:IsZip g8 z T1 T2 (rawInt g5.objs.size):=z8
 have up:∀c o,c≠z->g5.get? c=some o->g8.get? c=some o:=λc o c1 e=>s8.extBut _ _ c1 (s7.extBut _ _ c1 (Ab _ e));have pT:IsPair g8 g5.objs.size x y:=s8.extBut _ _ (Bj zl) (s7.extBut _ _ (Bj zl) (Ag _ rfl));rw[sz]at z8 pT;refine Ac ⟨_,rfl,Ac ?_⟩;show Q (some (.ref g5.objs.size)) _;rw[sz];exact q g8 z8 (up _ _ W.TOz p25) (n15.by λo e=>up _ o W.i1z e) (n25.by λo e=>up _ o W.i2z e) pT λc o c1 c2 c3 c4 e=>up c o c1 (k5 c o c1 c2 c3 c4 e)
def N0(hh:A.handled=none)(W:ZipApart z T1 T2 i1 i2 l1 l2)(hz:IsZip s.heap z T1 T2 .none)(p1:IsPair s.heap T1 (.ref i1) (.ref i2))(p2:IsPair s.heap T2 a b)
  (u1:Io t1 s.heap i1 l1 k)(u2:Io t2 s.heap i2 l2 k)(v1:So t1 s.heap l1 xs)(v2:So t2 s.heap l2 ys)(hend:xs[k]?=none\/ys[k]?=none)
  (q:∀g,(∀c o,c≠z->c≠T2->c≠i1->c≠i2->s.heap.get? c=some o->g.get? c=some o)->Q none { s with heap:=g }):wpAny (model P w) A (pyNext (.ref z)) Q E s:=by
 have ty:s.TypeIs (.ref z) "zip":=⟨_,hz,rfl⟩;unfold pyNext;have fin:∀g e,(∀c o,c≠z->c≠T2->c≠i1->c≠i2->s.heap.get? c=some o->g.get? c=some o)->(∃o,g.get? e=some o/\o.cls=.type "StopIteration")->wpAny (model P w) A (do if (<-isInstance (.ref e) (.type "StopIteration")) then return none else throw (.ref e)) Q E { s with heap:=g }:=λg e kp ⟨o,ho,ho2⟩=>
  Aa (AC (T:="StopIteration") (b:=true) ⟨o,ho,ho2⟩ BU (Ac (q g kp)))
 refine Aa (AA (Ao (name:=Str.ofString "__next__") ty F.slot_zip_next (An F.slot_zip_next ty F.entry_zip_next ?_ (F.args_zip_next_1 _))));show wpAny _ _ (field (.ref z) 2 >>= _) _ _ s;refine Aa (Ap hz rfl (x:=.bool false) rfl ?_);show wpAny _ _ (field (.ref z) 3 >>= _) _ _ s;refine Aa (Ap hz rfl (x:=.ref T1) rfl ?_);refine Aa (Az p1 rfl ?_);show wpAny _ _ (Builtin.SmallTypes.ownedTupleIsFree (.ref z) >>= _) _ _ s;refine Aa ?_;unfold Builtin.SmallTypes.ownedTupleIsFree;refine Aa (Ap hz rfl (x:=Value.none) rfl (Ac ?_));simp only[if_true];refine Aa (AN ?_);refine Aa (Ap hz rfl (x:=.ref T2) rfl ?_);refine Aa (AG hz (by simp) λg1 z1 s1=>?_)
 replace z1:IsZip g1 z T1 T2 .ellipsis:=z1
 refine Aa ?_;simp only[Be,C1,BB,List.zipIdx_nil];refine Aa (Aa (B6 ?_));show wpAny _ _ (Builtin.SmallTypes.nextOf (.ref i1) >>= _) _ _ { s with heap:=g1 };have w1:Io t1 g1 i1 l1 k:=u1.by λo e=>s1.extBut _ o W.i1z e
 have w2:So t1 g1 l1 xs:=v1.by λo e=>s1.extBut _ o W.l1z e
 cases hx:xs[k]? with
 |none=>
  refine Aa (t9 (s:={ s with heap:=g1 }) hh w1 w2 hx λg2 e s2 he=>?_);obtain⟨oe,he1,he2⟩:=he;have z2:IsZip g2 z T1 T2 .ellipsis:=s2 _ _ W.i1z.symm z1;have ne:e≠z:=λm=>by subst m;rw[z2]at he1;cases he1;simp at he2
  exact AG z2 (by simp) λg3 _ s3=>fin g3 e (λc o c1 _ c3 _ m=>s3.extBut _ _ c1 (s2 _ _ c3 (s1.extBut _ _ c1 m))) ⟨oe,s3.extBut _ _ ne he1,he2⟩
 |some x=>
  have hy:ys[k]?=none:=by
   rcases hend with m|m
   ·rw[hx]at m;cases m
   ·exact m
  refine Aa (y6 (s:={ s with heap:=g1 }) w1 w2 hx λg2 n1 s2=>Ac ?_);have p22:IsPair g2 T2 a b:=s2.extBut _ _ W.TOi1 (s1.extBut _ _ W.TOz p2);refine Aa (Az p22 rfl ?_);refine Aa (BS p22 λg3 p23 s3=>?_);refine Aa (wpAny_letGo (Ac ?_));refine Aa (Aa (B6 ?_));show wpAny _ _ (Builtin.SmallTypes.nextOf (.ref i2) >>= _) _ _ { s with heap:=g3 };refine Aa (t9 (s:={ s with heap:=g3 }) hh (u2.by λo e=>s3.extBut _ o W.TOi2.symm (s2.extBut _ o W.i12.symm (s1.extBut _ o W.i2z e))) (v2.by λo e=>s3.extBut _ o W.l2TO (s2.extBut _ o W.l2i1 (s1.extBut _ o W.l2z e))) hy λg4 e s4 he=>?_)
  obtain⟨oe,he1,he2⟩:=he;have z4:IsZip g4 z T1 T2 .ellipsis:=s4 _ _ W.i2z.symm (s3.extBut _ _ W.TOz.symm (s2.extBut _ _ W.i1z.symm z1));have ne:e≠z:=λm=>by subst m;rw[z4]at he1;cases he1;simp at he2
  exact AG z4 (by simp) λg5 _ s5=>fin g5 e (λc o c1 c2 c3 c4 m=>s5.extBut _ _ c1 (s4 _ _ c4 (s3.extBut _ _ c2 (s2.extBut _ _ c3 (s1.extBut _ _ c1 m))))) ⟨oe,s5.extBut _ _ ne he1,he2⟩
end
section
variable {t t1 t2:Te}{P:Tf}{w:Th}{A:Around}{E:Ta->Tb->Prop}{s:Tb}
def zI(t:Te)(l:Td):Obj:={ cls:=.type (ST t),data:=.fields #[.ref l,.int 0 0] }
theorem fE(b:So t s.heap l xs)(q:Q (.ref s.heap.objs.size) { s with heap:=s.heap.push (zI t l) }):wpAny (model P w) A (pyIter (.ref l)) Q E s:=by
 cases t with|false=>exact Bv (items:=xs) b q|true=>exact wpAny_pyIter_tuple (items:=xs) b q
abbrev zA(t1:Bool)(h:Heap)(l1:Addr):Heap:=h.push (zI t1 l1)
abbrev zB(t1 t2:Bool)(h:Heap)(l1 l2:Addr):Heap:=(zA t1 h l1).push (zI t2 l2)
abbrev zC(t1 t2:Bool)(h:Heap)(l1 l2:Addr):Heap:=(zB t1 t2 h l1 l2).push { cls:=.type "tuple",data:=.seq #[.ref h.objs.size,.ref (zA t1 h l1).objs.size] }
abbrev zD(t1 t2:Bool)(h:Heap)(l1 l2:Addr):Heap:=(zC t1 t2 h l1 l2).push { cls:=.type "tuple",data:=.seq #[.none,.none] }
abbrev zE(t1 t2:Bool)(h:Heap)(l1 l2:Addr):Heap:=(zD t1 t2 h l1 l2).push { cls:=.type "zip",data:=.fields #[.none,.bool false,.bool false,.ref (zB t1 t2 h l1 l2).objs.size,.ref (zC t1 t2 h l1 l2).objs.size] }
def GA(t1 t2:Te)(l1 l2:Td)(xs ys:Tc Ta):Meets (Builtin.«zip.__new__» ⟨[.type "zip",.ref l1,.ref l2],[]⟩) (λ_ R s=>So t1 s.heap l1 xs/\So t2 s.heap l2 ys /\
   R (.ok (.ret (.ref (zD t1 t2 s.heap l1 l2).objs.size))) { s with heap:=zE t1 t2 s.heap l1 l2 }) :=
 .of_wp λprog w A R s h=>by
  obtain⟨hp,g,d,tk,os⟩:=s;obtain⟨v1,v2,h⟩:=h;have hsub:=sub_zip;have L1:So t1 (Shared.heap ⟨hp,g,d,tk,os⟩) l1 xs:=v1;have L2:So t2 (Shared.heap ⟨hp.push (zI t1 l1),g,d,tk,os⟩) l2 ys:=So.by v2 λo e=>Ab _ e
  wp_walk using fE L1,fE L2
  exact⟨_,rfl,h⟩
def GB(v1:So t1 s.heap l1 xs)(v2:So t2 s.heap l2 ys)
  (q:∀g,IsZip g (s.heap.objs.size+4) (s.heap.objs.size+2) (s.heap.objs.size+3) .none->IsPair g (s.heap.objs.size+2) (.ref s.heap.objs.size) (.ref (s.heap.objs.size+1))->IsPair g (s.heap.objs.size+3) .none .none->
   Io t1 g s.heap.objs.size l1 0->Io t2 g (s.heap.objs.size+1) l2 0->(∀c o,s.heap.get? c=some o->g.get? c=some o)->Q (.ref (s.heap.objs.size+4)) { s with heap:=g }) :
  wpAny (model P w) A (call (.type "zip") [.ref l1,.ref l2]) Q E s:=by
 refine callType_new F.called_zip (by decide) (F.typeCall_zip_2 _ _) (F.newCall_zip_2 _ _) (λobj=>F.args_object_init_3 obj _ _) F.entry_zip_new (GA t1 t2 l1 l2 xs ys) ⟨v1,v2,?_⟩
 have m1:(zA t1 s.heap l1).objs.size=s.heap.objs.size+1:=AD ..;have m2:(zB t1 t2 s.heap l1 l2).objs.size=s.heap.objs.size+2:=by rw[AD,m1]
 have m3:(zC t1 t2 s.heap l1 l2).objs.size=s.heap.objs.size+3:=by rw[AD,m2]
 have m4:(zD t1 t2 s.heap l1 l2).objs.size=s.heap.objs.size+4:=by rw[AD,m3]
 have g5:(zE t1 t2 s.heap l1 l2).get? (zD t1 t2 s.heap l1 l2).objs.size=some _:=Ag _ rfl;have g4:(zE t1 t2 s.heap l1 l2).get? (zC t1 t2 s.heap l1 l2).objs.size=some _:=Ab _ (Ag _ rfl);have g3:(zE t1 t2 s.heap l1 l2).get? (zB t1 t2 s.heap l1 l2).objs.size=some _:=Ab _ (Ab _ (Ag _ rfl));have g2:(zE t1 t2 s.heap l1 l2).get? (zA t1 s.heap l1).objs.size=some (zI t2 l2):=Ab _ (Ab _ (Ab _ (Ag _ rfl)));have g1:(zE t1 t2 s.heap l1 l2).get? s.heap.objs.size=some (zI t1 l1):=Ab _ (Ab _ (Ab _ (Ab _ (Ag _ rfl))));show _/\_;rw[m2,m3,m4]at g5;rw[m1,m2]at g3;rw[m3]at g4;rw[m1]at g2;rw[m4];exact⟨⟨_,g5,rfl⟩,q _ g5 g3 g4 ⟨_,g1,rfl,rfl⟩ ⟨_,g2,rfl,rfl⟩ λc o e=>Ab _ (Ab _ (Ab _ (Ab _ (Ab _ e))))⟩
end
section
variable {X:Cx}{K:PySem.W.Frag}{t t1 t2:Te}{Ti:S8 (Td×Obj)}{σ:L2.St}{H:Hp}{s:Tb}{h':Tg}
def kn{t':Nat}{ch:S8 Td}(I:L2.Inv X Ti σ H s)(f:∀b∈ch,mG X Ti H b)(k:∀b o,b∉ch->s.heap.get? b=some o->h'.get? b=some o)(ht:0<t':=by first|assumption|exact Vh _|exact Inv.tk (by assumption)|exact Inv.tkl (by assumption) (by assumption)|lia):L2.Inv X Ti σ H { s with heap:=h',toks:=t' }:=by
 have nit:∀b u,H b=some u->b∉ch:=λb u e z=>by rw[(f b z).1]at e;cases e
 refine I.step (g':=s.gens) (d':=s.drawn) (ch:=ch) (λb hb=>?_) (λb o _ _ hc e _=>k b o hc e) (λb o _ _ hc e _=>⟨o.slots,k b o hc e⟩) (λ_ _ _ _ n=>n)
  (λb o hc e=>⟨o,k b o hc e⟩) (λ_ _ e=>e) (λ_ _ _ e=>e) (λb ps e=>⟨#[],by rw[e];simp⟩) (λm hm=>?_) (λb u e=>?_) I.bare
 ·obtain⟨_,f1,_,f3,f4,f5⟩:=f b hb;exact⟨f3,f1,f4,f5⟩
 ·obtain⟨o,es,ep,ho,r⟩:=hm;exact⟨o,es,ep,k _ o (λz=>(f _ z).2.1 rfl) ho,r⟩
 ·refine(I.hok b u e).stay (λc v hc q=>k c v ?_ q) (λ_ q=>q) λ_ _ q=>q;rcases hc with z|z
  ·rw[z];exact nit b u e
  ·exact nit c _ z
def Sq(K:PySem.W.Frag)(t:Te)(H:Hp)(a:Td)(xs:S8 V):Prop:=if t then iH K H a xs else gR K H a xs
theorem Sq.so(I:L2.Inv X Ti σ H s)(h:Sq X.K t H l xs):∃its:S8 Ta,Tp xs its/\So t s.heap l its.toArray:=by
 cases t with
 |false=>
  obtain⟨its,rv,p,_⟩:=I.list h;exact⟨its,rv,p.isList⟩
 |true=>
  obtain⟨its,rv,p,_⟩:=I.tuple h;exact⟨its,rv,p⟩
theorem Sq.inj(I:L2.Inv X Ti σ H s)(h:Sq X.K t H l xs)(h2:Sq X.K t H l ys):xs=ys:=by
 cases t with|false=>exact I.list_inj h h2|true=>exact I.tuple_inj h h2
def SU(K : PySem.W.Frag)(t1 t2 : Te)(l1 l2 : Td) : It :=
  ⟨λi H => ∃ xs ys x y, Sq K t1 H l1 xs ∧ Sq K t2 H l2 ys ∧ xs[i]? = some x ∧ ys[i]? = some y,
   λi H v H' => ∃ p x y, v = .ref p ∧ H p = none ∧ H' = upd H p (.tup [x, y]) ∧ (∀ xs, Sq K t1 H l1 xs → xs[i]? = some x) ∧ ∀ ys, Sq K t2 H l2 ys → ys[i]? = some y,
   λi H => ∃ xs ys, Sq K t1 H l1 xs ∧ Sq K t2 H l2 ys ∧ (xs.length ≤ i\/ys.length ≤ i)⟩
def Zs(t1 t2:Te)(z T1 T2 i1 i2 l1 l2:Td)(i:Nat)(h:Tg):Prop:=IsZip h z T1 T2 .none/\IsPair h T1 (.ref i1) (.ref i2)/\(∃a b,IsPair h T2 a b)/\Io t1 h i1 l1 i/\Io t2 h i2 l2 i
def QI(h:b∈[z,T1,T2,i1,i2]):b=z\/b=T1\/b=T2\/b=i1\/b=i2:=by simpa using h
theorem Zs.at{h:Tg}(st:Zs t1 t2 z T1 T2 i1 i2 l1 l2 i h)(hb:b∈[z,T1,T2,i1,i2]):∃o,h.get? b=some o/\∀v,o.data≠.cell v:=by
 obtain⟨a1,a2,⟨_,_,a3⟩,⟨o1,a4,_,d4⟩,⟨o2,a5,_,d5⟩⟩:=st;rcases QI hb with rfl|rfl|rfl|rfl|rfl
 ·exact⟨_,a1,λv m=>by cases m⟩
 ·exact⟨_,a2,λv m=>by cases m⟩
 ·exact⟨_,a3,λv m=>by cases m⟩
 ·exact⟨_,a4,λv m=>by rw[d4]at m;cases m⟩
 ·exact⟨_,a5,λv m=>by rw[d5]at m;cases m⟩
def GC{es:S8 Expr}{x1}{z T1 T2 i1 i2 l1 l2:Td}(W:ZipApart z T1 T2 i1 i2 l1 l2):Turn P w K (.Tuple es x1 ps) (SU K t1 t2 l1 l2) [z,T1,T2,i1,i2] z (Zs t1 t2 z T1 T2 i1 i2 l1 l2) where
 mem:=.head _
 obj:=λi h st b hb=>st.at hb
 keep:=λi h h' st k=>by
  obtain⟨a1,a2,⟨a,b,a3⟩,a4,a5⟩:=st;exact⟨k z (.head _) _ a1,k T1 (.tail _ (.head _)) _ a2,⟨a,b,k T2 (.tail _ (.tail _ (.head _))) _ a3⟩,a4.by λo e=>k i1 (.tail _ (.tail _ (.tail _ (.head _)))) o e,a5.by λo e=>k i2 (.tail _ (.tail _ (.tail _ (.tail _ (.head _))))) o e⟩
 item:=by
  intro X hP hw hK hc i Ti s σ H E I hf st hg;subst hP hw hK;obtain⟨xs,ys,x,y,q1,q2,e1,e2⟩:=hg;obtain⟨is,r1,v1⟩:=q1.so I;obtain⟨js,r2,v2⟩:=q2.so I;obtain⟨u,hu,ru⟩:=r1.get e1;obtain⟨v,hv,rv⟩:=r2.get e2;have hn:H s.heap.objs.size=none:=I.hok.fresh (Xa _);have lt:∀b∈[z,T1,T2,i1,i2],b≠s.heap.objs.size:=λb hb=>by
   obtain⟨o,ho,_⟩:=Zs.at st hb;exact Vf (Ai ho)
  obtain⟨a1,a2,⟨a,b,a3⟩,a4,a5⟩:=st;refine QH W a1 a2 a3 a4 a5 v1 v2 (x:=u) (y:=v) (by simpa using hu) (by simpa using hv) λg z1 p2 n1 n2 pT kp=>?_
  refine⟨_,rfl,wpAny_letOwnedTupleGo_zip (s:={ s with heap:=g }) z1 λg2 z2 sb=>?_⟩;have kk:∀c o,c≠z->c≠T2->c≠i1->c≠i2->s.heap.get? c=some o->g2.get? c=some o:=λc o c1 c2 c3 c4 e=>sb.extBut _ _ c1 (kp c o c1 c2 c3 c4 e);have pT2:IsPair g2 s.heap.objs.size u v:=sb.extBut _ _ (Ne.symm (lt z (.head _))) pT;have I1:L2.Inv X Ti σ (upd H s.heap.objs.size (.tup [x,y])) { s with heap:=s.heap.push { cls:=.type "tuple",data:=.seq #[u,v] },toks:=s.toks } :=
   I.laid (λb o e=>Ab _ e) (Xa _) ⟨show 2<=sizeLine by decide,[u,v],.cons ru (.cons rv .nil),⟨_,Ag _ rfl,rfl,_,rfl⟩⟩
  have ff:∀b∈[z,T1,T2,i1,i2],mG X Ti (upd H s.heap.objs.size (.tup [x,y])) b:=λb hb=>by
   obtain⟨f0,f1,f2,f3,f4,f5⟩:=hf b hb;exact⟨by rw[aO (lt b hb)];exact f0,f1,f2,f3,f4,f5⟩
  have I2:L2.Inv X Ti σ (upd H s.heap.objs.size (.tup [x,y])) { s with heap:=g2 }:=by
   refine kn (s:={ s with heap:=s.heap.push { cls:=.type "tuple",data:=.seq #[u,v] } }) (t':=s.toks) I1 ff λc o hc e=>?_;rcases BX e with⟨rfl,rfl⟩|e
   ·exact pT2
   ·exact kk c o (λm=>hc (m ▸ .head _)) (λm=>hc (m ▸ .tail _ (.tail _ (.head _)))) (λm=>hc (m ▸ .tail _ (.tail _ (.tail _ (.head _))))) (λm=>hc (m ▸ .tail _ (.tail _ (.tail _ (.tail _ (.head _)))))) e
  refine⟨.ref s.heap.objs.size,_,I2,rfl,⟨_,x,y,rfl,hn,rfl,λzs hz=>by rw[hz.inj I q1];exact e1,λzs hz=>by rw[hz.inj I q2];exact e2⟩,?_,λb hb=>(ff b hb).1⟩
  exact⟨z2,sb.extBut _ _ W.TIz (kp _ _ W.TIz W.TITO W.TIi1 W.TIi2 a2),⟨_,_,sb.extBut _ _ W.TOz p2⟩,n1.by λo e=>sb.extBut _ o W.i1z e,n2.by λo e=>sb.extBut _ o W.i2z e⟩
 done:=by
  intro X hP hw hK hc i Ti s σ H E I hf st hg;subst hP hw hK;obtain⟨xs,ys,q1,q2,hl⟩:=hg;obtain⟨a1,a2,⟨a,b,a3⟩,a4,a5⟩:=st;obtain⟨is,r1,v1⟩:=q1.so I;obtain⟨js,r2,v2⟩:=q2.so I;have l1:=r1.length;have l2:=r2.length;refine N0 (I.ok.hd hc) W a1 a2 a3 a4 a5 v1 v2 (hl.imp (λm=>by rw[Dk];exact Yf (l1 ▸ m)) λm=>by rw[Dk];exact Yf (l2 ▸ m)) λg kp=>⟨rfl,kn (t':=s.toks) I hf λc o hc e=>?_⟩
  exact kp c o (λm=>hc (m ▸ .head _)) (λm=>hc (m ▸ .tail _ (.tail _ (.head _)))) (λm=>hc (m ▸ .tail _ (.tail _ (.tail _ (.head _))))) (λm=>hc (m ▸ .tail _ (.tail _ (.tail _ (.tail _ (.head _)))))) e
 self:=λ_ _ _ _ _ st h=>wpAny_pyIter_zip st.1 h
def N1(K:PySem.W.Frag)(ta:TA):TI:=λσ H R=>ta σ H λvs H1=>∃t1 t2 l1 l2 xs ys,vs=[.ref l1,.ref l2]/\Sq K t1 H1 l1 xs/\Sq K t2 H1 l2 ys/\R (SU K t1 t2 l1 l2) H1
def boot_zip:bootBuiltins "zip"=some (.type "zip"):=by decide +kernel
def JA{x1}(hg:Gl X "zip")(hm:X.mg "zip"=none)(ha:PA X [a,b] ta)(hs:starEach [a,b] X.env=[(false,eval a X.env),(false,eval b X.env)])(hs2:starEach [b] X.env=[(false,eval b X.env)]) :
  PI X (.Tuple es x1 ps) (.Call (.Name "zip" p) [a,b] [] pos) (N1 X.K ta):=by
 intro Ti s σ H R I h;refine Call_ (hV I hg hm boot_zip (As (cb (ha pos Ti s σ H _ I h) λus s1 ⟨vs,H1,I1,r1,q1⟩=>?_) (by rw[hs,hs2]) (by rw[hs2];rfl)))
 obtain⟨t1,t2,l1,l2,xs,ys,e,w1,w2,q⟩:=q1;subst e;cases r1 with
 |cons r rr=>
  cases rr with
  |cons r' rr=>
   cases rr;cases r;cases r';obtain⟨is,r1,v1⟩:=w1.so I1;obtain⟨js,r2,v2⟩:=w2.so I1;refine GB v1 v2 λg z p1 p2 n1 n2 kp=>?_;obtain⟨o1,ho1,_⟩:=id v1;obtain⟨o2,ho2,_⟩:=id v2;refine wpAny_pyIter_zip (s:={ s1 with heap:=g }) z ⟨_,[s1.heap.objs.size+4,s1.heap.objs.size+2,s1.heap.objs.size+3,s1.heap.objs.size,s1.heap.objs.size+1],_,_,H1,rfl,I1.kept (t':=s1.toks) kp,GC (PySem.W.ktu_apart _ _ _ (Ai ho1) (Ai ho2)),⟨z,p1,⟨_,_,p2⟩,n1,n2⟩,λb hb=>?_,q⟩;have hb':=QI hb;have le:s1.heap.objs.size<=b:=by
    rcases hb' with m|m|m|m|m<;>(rw[m];first|exact Xj _ _|exact Xa _)
   exact I1.fpOk le (I1.hok.fresh le)
end
end VF22
namespace VF22
open PySem L2 VF
section
variable {X:Cx}{K:PySem.W.Frag}{O O' Z:AS}{H H':Hp}{v:V}{d:D}
def LG:D->S9 (S8 D)|.lst ds=>some ds|.fl ds=>some ds|.tup ds=>some ds|_=>none
def N2:S8 D->S9 (S8 D×S8 D)|[a,b]=>(LG a).bind λx=>(LG b).bind λy=>some (x,y)|_=>none
def pr(a b:D):D:=.tup [a,b]
def SV(fa:FA):FI:=λst=>(fa st).bind λx=>(cS x.1 x.2).bind λy=>(N2 y.1).bind λw=>some (List.zipWith pr w.1 w.2,y.2)
theorem y7(da:DA K (U O Z) H v d)(e:LG d=some is):∃t l ws,v=.ref l/\∀H' O',TK O H O' H'->Sq K t H' l ws/\El K (U O' Z) H' ws is:=by
 cases d with
 |lst ds=>
  cases e;cases da with|@lst a vs _ h0 h1 h2 h3=>exact⟨false,a,vs,rfl,λH' O' ex=>⟨.inl (.inl (ex.kp a _ h1 λz=>h0 (.inl z))),El.ext ⟨h2,h3⟩ ex⟩⟩
 |fl ds=>
  cases e;cases da with
  |@fl a vs _ h1 h2 h3=>
   refine⟨false,a,vs,rfl,λH' O' ex=>⟨?_,El.ext ⟨h2,h3⟩ ex⟩⟩;rcases h1 with⟨h1,hn⟩|h1
   ·exact .inl (Rd.keep h1 λo e=>ex.kp a o e λz=>hn (.inl z))
   ·exact h1 H'
 |tup ds=>
  cases e;cases da with
  |@tup a vs _ h1 h2 h3=>
   refine⟨true,a,vs,rfl,λH' O' ex=>⟨?_,El.ext ⟨h2,h3⟩ ex⟩⟩;exact .inl (.inl (ex.kp a _ h1.1 λz=>h1.2 (.inl z)))
 |_=>cases e
def QJ{as bs:S8 D}{i:Nat}{d:D}(h:(List.zipWith pr as bs)[i]?=some d):∃a b,as[i]?=some a/\bs[i]?=some b/\d=.tup [a,b]:=by grind [D,pr]
def GD{ta:TA}{fa:FA}(h:tN K ta fa):UD K (N1 K ta) (SV fa):=by
 intro st σ H O Z R E items Tn e q;refine cx e λrs Tr e1 e=>?_;refine cx e λds TR e2 e=>?_;refine cx e λas bs e3 e=>?_;cases e;refine h st σ H O Z _ E rs Tr e1 λvs H1 O1 x1 k1 E1 rvs=>?_;obtain⟨O2,x2,k2,E2,el⟩:=rvs.esc E1 e2;replace e3:N2 ds=some (as,bs):=e3;unfold N2 at e3;split at e3
 ·rename_i a b
  refine bB e3 λas' e4 e3=>?_;refine bB e3 λbs' e5 e3=>?_;cases e3;obtain⟨v1,r,rfl,da1,el⟩:=el.uncons;obtain⟨v2,r,rfl,da2,el⟩:=el.uncons;obtain rfl:=el.unnil;obtain⟨t1,l1,xs,rfl,k3⟩:=y7 da1 e4;obtain⟨t2,l2,ys,rfl,k4⟩:=y7 da2 e5;refine⟨t1,t2,l1,l2,xs,ys,rfl,(k3 H1 O2 (TK.refl _ _)).1,(k4 H1 O2 (TK.refl _ _)).1,q _ H1 O2 (x1.trans x2) (k1.trans k2) E2 λH' O' ex liv=>?_⟩;obtain⟨s1,el1⟩:=k3 H' O' ex;obtain⟨s2,el2⟩:=k4 H' O' ex;have n1:=el1.1;have n2:=el2.1;refine⟨λi hi=>⟨xs,ys,s1,s2,?_⟩,λi d hd=>?_⟩
  ·replace hi:(List.zipWith pr as bs).length<=i:=hi
   rw[List.length_zipWith]at hi;lia
  ·obtain⟨a,b,ha,hb,rfl⟩:=QJ hd;obtain⟨x,hx,dx⟩:=el1.at ha;obtain⟨y,hy,dy⟩:=el2.at hb;refine⟨⟨xs,ys,x,y,s1,s2,hx,hy⟩,?_⟩;rintro v H'' ⟨p,x',y',rfl,hn,rfl,f1,f2⟩;have ex':=f1 xs s1;have ey':=f2 ys s2;rw[hx]at ex';rw[hy]at ey';cases ex';cases ey';have sm:=aF hn (.tup [x,y]);exact⟨sm,.tup ⟨aS,λz=>(liv p z).1 hn⟩ rfl ((El.cons dx (El.one dy)).same sm).2⟩
 ·cases e3
def N3{x1}(h:X.K=K)(hg:Gl X "zip")(hs:starEach [a,b] X.env=[(false,eval a X.env),(false,eval b X.env)])(hs2:starEach [b] X.env=[(false,eval b X.env)])(hm:X.mg "zip"=none)(ha:PE X a te)(hb:PE X b te2) :
  PI X (.Tuple es x1 ps) (.Call (.Name "zip" p) [a,b] [] pos) (N1 K (iy te (iy te2 rf))):=by
 subst h;exact JA hg hm (kh ha (kh hb ae hs2) (by rw[hs,hs2])) hs hs2
end
end VF22
namespace TS
open PySem PyProof.Rows
def sJ{M:Model}{A:Around}{E:Ta->Tb->Prop}{σ γ:Type}{X Y:StateT σ Sem γ}{p:Prop}{d:Decidable p}{Q:γ->σ->Prop}{st:σ}(h:p)(k:wpS M A E s X Q st):wpS M A E s (@ite _ p d X Y) Q st:=by rw[Af h];exact k
def qc{M:Model}{A:Around}{E:Ta->Tb->Prop}{σ γ:Type}{X Y:StateT σ Sem γ}{p:Prop}{d:Decidable p}{Q:γ->σ->Prop}{st:σ}(h:¬ p)(k:wpS M A E s Y Q st):wpS M A E s (@ite _ p d X Y) Q st:=by rw[Ah h];exact k
def GE{α β:Type}(f:α->β)(x:Tc α)(i j:Nat):(x.map f).swapIfInBounds i j=(x.swapIfInBounds i j).map f:=by grind
theorem nR{α β γ:Type}(f:α->β)(p q:γ->Nat):∀(l:S8 γ)(x:Tc α),l.foldl (λa k=>a.swapIfInBounds (p k) (q k)) (x.map f)=(l.foldl (λa k=>a.swapIfInBounds (p k) (q k)) x).map f
 |[],x=>rfl
 | k::l,x=>by
  rw[Qg,Qg,GE];exact nR f p q l _
def xz(f:α->β)(x:Tc α)(i d:Nat):bubble (x.map f) i d=(bubble x i d).map f:=nR f _ _ _ x
def iP(f:α->β)(x:Tc α)(i j d:Nat):mirror (x.map f) i j d=(mirror x i j d).map f:=nR f _ _ _ x
structure Cm(prog:Program)(w:World)(A:Around)(s:Shared)(k:SortKind)(f:Nat->Keyed)(N:Nat)(c:Nat->Nat->Bool):Prop where
 lt:∀(E:Value->Shared->Prop)(Q:Bool->Shared->Prop)(g h:Nat),g<N->h<N->Q (c g h) s->wpAny (model prog w) A (keyLt' k (f g).1 (f h).1) Q E s
 irr:∀g,c g g=false
 tra:∀g h i,c g h=true->c h i=true->c g i=true
 neg:∀g h i,c g i=true->c g h=true\/c h i=true
def Bf(c:Nat->Nat->Te)(g h:Nat):Prop:=c g h=true\/(c h g=false/\g<h)
structure Rp(k:SortKind)(f:Nat->Keyed)(N:Nat)(st:SortSt)(γ:Array Nat):Prop where
 arr:arrOf st=γ.map f
 kind:kindOf st=k
 fine:failedOf st=none
 perm:γ.Perm (Array.range N)
section
variable {prog:Tf}{w:Th}{A:Around}{E:Ta->Tb->Prop}{s:Tb}{k:SortKind}{f:Nat->Keyed}{N:Nat}{c:Nat->Nat->Te}{st:SortSt}{γ:Tc Nat}
theorem Cm.asy(C:Cm prog w A s k f N c)(e:c g h=true):c h g=false:=by
 cases e':c h g with|false=>rfl|true=>exact absurd (C.tra g h g e e') (by rw[C.irr];exact Bool.noConfusion)
def Cm.le(C:Cm prog w A s k f N c)(e:Bf c g h):c h g=false:=by
 rcases e with e|e
 ·exact C.asy e
 ·exact e.1
theorem Cm.letr(C:Cm prog w A s k f N c)(e:c h g=false)(e':c i h=false):c i g=false:=by
 cases e2:c i g with
 |false=>rfl
 |true=>
  rcases C.neg i h g e2 with q|q
  ·rw[q]at e';exact e'
  ·rw[q]at e;exact e
theorem Cm.trans(C:Cm prog w A s k f N c)(e:Bf c g h)(e':Bf c h i):Bf c g i:=by
 have l:=C.letr (C.le e) (C.le e');cases e2:c g i with
 |true=>exact .inl e2
 |false=>
  refine .inr ⟨l,?_⟩;rcases e with e|e
  ·rcases C.neg g i h e with q|q
   ·rw[q]at e2;cases e2
   ·rw[C.le e']at q;cases q
  ·rcases e' with e'|e'
   ·rcases C.neg h g i e' with q|q
    ·rw[e.1]at q;cases q
    ·rw[q]at e2;cases e2
   ·exact BF e.2 e'.2
theorem Rp.size(R:Rp k f N st γ):γ.size=N:=by rw[R.perm.size_eq,AR]
def Rp.bnd(R:Rp k f N st γ){i g:Nat}(e:γ[i]?=some g):g<N:=by
 have hm:g∈γ:=Array.mem_of_getElem? e;exact Array.mem_range.mp (R.perm.mem_iff.mp hm)
def Rp.at(R:Rp k f N st γ){i g:Nat}(e:γ[i]?=some g):(arrOf st)[i]?=some (f g):=by rw[R.arr,Array.getElem?_map,e];rfl
def Rp.put(R:Rp k f N st γ){γ':Tc Nat}(p:γ'.Perm γ)(e:x=γ'.map f):Rp k f N (setArr st x) γ':=⟨e,R.kind,R.fine,p.trans R.perm⟩
def QK(C:Cm prog w A s k f N c)(hk:kindOf st=k)(bg:g<N)(bh:h<N)(q:Q (some (c g h)) st):wpS (model prog w) A E s (lt' (f g) (f h)) Q st:=by
 rw[lt'_eq];refine Ar (wpS_get ?_);subst hk;exact Ar (wpS_lift (AA (C.lt _ _ g h bg bh ⟨rfl,Au q⟩)))
def kr(C:Cm prog w A s k f N c)(R:Rp k f N st γ){i j g h:Nat}(ei:γ[i]?=some g)(ej:γ[j]?=some h){Q:S9 Te->SortSt->Prop}(q:Q (some (c g h)) st):wpS (model prog w) A E s (ltAt' i j) Q st:=by
 rw[ltAt'_eq];refine Ar (wpS_get ?_);dsimp only;rw[elem'_eq,elem'_eq,R.at ei,R.at ej];exact Ar (Au (Ar (Au (QK C R.kind (R.bnd ei) (R.bnd ej) q))))
end
def Sg(c:Nat->Nat->Te)(γ:Tc Nat)(lo hi:Nat):Prop:=∀i j g h,lo<=i->i<j->j<hi->γ[i]?=some g->γ[j]?=some h->Bf c g h
def Ow(γ:Tc Nat)(lo hi:Nat):Prop:=∀i g,lo<=i->i<hi->γ[i]?=some g->lo<=g/\g<hi
def Raw(γ:Tc Nat)(lo hi:Nat):Prop:=∀i,lo<=i->i<hi->γ[i]?=some i
def Out(γ γ':Tc Nat)(lo hi:Nat):Prop:=∀i,i<lo\/hi<=i->γ'[i]?=γ[i]?
def Out.refl(γ:Tc Nat)(lo hi:Nat):Out γ γ lo hi:=λ_ _=>rfl
section
variable {prog:Tf}{w:Th}{A:Around}{E:Ta->Tb->Prop}{s:Tb}{k:SortKind}{f:Nat->Keyed}{N:Nat}{c:Nat->Nat->Te}{st:SortSt}{γ:Tc Nat}
def GF{γ:Tc Nat}(h:i<γ.size):∃g,γ[i]?=some g:=⟨_,Vk h⟩
def mid(h:l<u):l<=(l+u) / 2/\(l+u) / 2<u:=by lia
def Si(h:u-l<=m-y)(h1:t<u)(h2:l<=t):t-l<=m-(y+1):=by lia
def Sj(h:u-l<=m-y)(h1:l<=t)(h2:t<u):u-(t+1)<=m-(y+1):=by lia
inductive Vw(γ:Array Nat)(a b i g:Nat):Prop
 | at_ (h:i=a) (e:γ[b]?=some g)
 | mid (j:Nat) (h:i=j+1) (k:a<=j) (l:j<b) (e:γ[j]?=some g)
 | lo (h:i<a) (e:γ[i]?=some g)
 | hi (h:b<i)
def qd(e:(if i=a then γ[b]? else if a<i/\i<=b then γ[i-1]? else γ[i]?)=some g):Vw γ a b i g:=by
 by_cases h:i=a
 ·rw[Af h]at e;exact .at_ h e
 ·rw[Ah h]at e;by_cases h2:a<i/\i<=b
  ·rw[Af h2]at e;obtain⟨j,rfl⟩:=Nat.exists_eq_add_one_of_ne_zero (Bj (Xn (Yi _) h2.1));exact .mid j rfl (Nat.le_of_lt_succ h2.1) h2.2 e
  ·rw[Ah h2]at e;by_cases h3:i<a
   ·exact .lo h3 e
   ·exact .hi (By λz=>h2 ⟨Nat.lt_of_le_of_ne (Bz h3) (Ne.symm h),z⟩)
def GG(hab:a<=b)(h:b<i):(if i=a then γ[b]? else if a<i/\i<=b then γ[i-1]? else γ[i]?)=γ[i]?:=by
 rw[Ah (Bj (Xn hab h)),Ah λz=>CC h z.2]
def N4(h:i<a):(if i=a then γ[b]? else if a<i/\i<=b then γ[i-1]? else γ[i]?)=γ[i]?:=by
 rw[Ah (Vf h),Ah λz=>Nat.lt_asymm h z.1]
def JB(C:Cm prog w A s k f N c)(R:Rp k f N st γ){lo n ok:Nat}(hn:lo+n<=N)(h1:1<=ok)(hok:ok<=n)(sg:Sg c γ lo (lo+ok))(ow:Ow γ lo (lo+ok))(raw:Raw γ (lo+ok) N)
  {Q:Te->SortSt->Prop}(q:∀(x:Tc Keyed)(γ':Tc Nat),Rp k f N (setArr st x) γ'->Sg c γ' lo (lo+n)->Ow γ' lo (lo+n)->Raw γ' (lo+n) N->Out γ γ' lo (lo+n)->Q true (setArr st x)) :
  wpS (model prog w) A E s (binarySort' lo n ok) Q st:=by
 rw[binarySort'_eq]
 refine Ar (BR (AY (I:=λm r Tn=>r=(none,())/\∃x γ',Tn=setArr st x/\Rp k f N Tn γ'/\Sg c γ' lo (lo+m)/\Ow γ' lo (lo+m)/\Raw γ' (lo+m) N/\Out γ γ' lo (lo+m))
  (Q:=λr Tn=>r=(none,())/\∃x γ',Tn=setArr st x/\Rp k f N Tn γ'/\Sg c γ' lo (lo+n)/\Ow γ' lo (lo+n)/\Raw γ' (lo+n) N/\Out γ γ' lo (lo+n)) ?step ?fin ?init) ?post)
 case post=>
  rintro r Tn ⟨rfl,x,γ',rfl,R',a1,a2,a3,a4⟩;exact Au (q x γ' R' a1 a2 a3 a4)
 case init=>
  rw[show max ok 1=ok by lia]
  exact⟨rfl,arrOf st,γ,rfl,R,sg,ow,raw,Out.refl _ _ _⟩
 case fin=>
  rintro r Tn h;rw[show max (max ok 1) n=n by lia]at h
  exact h
 case step=>
  rintro m r Tn hm hmn ⟨rfl,x,γ',rfl,R',a1,a2,a3,a4⟩;have em:γ'[lo+m]?=some (lo+m):=a3 (lo+m) (Xa _) (by lia)
  refine Ar (BR (AY (I:=λy r st''=>st''=setArr st x/\∃l u,r=(none,l,u)/\l<=u/\u<=m/\u-l<=m-y /\
    (∀i g,lo<=i->i<lo+l->γ'[i]?=some g->c (lo+m) g=false)/\(∀i g,lo+u<=i->i<lo+m->γ'[i]?=some g->c (lo+m) g=true))
   (Q:=λr st''=>st''=setArr st x/\∃l u,r=(none,l,u)/\l<=m /\
    (∀i g,lo<=i->i<lo+l->γ'[i]?=some g->c (lo+m) g=false)/\(∀i g,lo+l<=i->i<lo+m->γ'[i]?=some g->c (lo+m) g=true)) ?istep ?ifin ?iinit) ?ipost)
  case iinit=>exact⟨rfl,0,m,rfl,by lia,by lia,by lia,λi g p1 p2=>by lia,λi g p1 p2=>by lia⟩
  case ifin=>
   rintro r st'' ⟨rfl,l,u,rfl,b1,b2,b3,b4,b5⟩;obtain rfl:l=u:=by lia
   exact⟨rfl,l,l,rfl,b2,b4,b5⟩
  case istep=>
   rintro y r st'' _ hy ⟨rfl,l,u,rfl,b1,b2,b3,b4,b5⟩;dsimp only;by_cases hge:l ≥ u
   ·refine sJ hge ?_;obtain rfl:l=u:=by lia
    exact Au ⟨rfl,l,l,rfl,b2,b4,b5⟩
   ·refine qc hge ?_;have hq:l<=(l+u) / 2/\(l+u) / 2<u:=mid (By hge);generalize (l+u) / 2=t at hq;obtain⟨q1,q2⟩:=hq;have q3:t-l<=m-(y+1):=Si b3 q2 q1;have q4:u-(t+1)<=m-(y+1):=Sj b3 q1 q2;obtain⟨g,eg⟩:=GF (γ:=γ') (i:=lo+t) (by rw[R'.size];lia)
    refine Ar (kr C R' em eg ?_);cases hc:c (lo+m) g with
    |true=>
     refine Au ⟨rfl,l,t,rfl,q1,by lia,q3,b4,λi g' p1 p2 e=>?_⟩
     by_cases hi:i=lo+t
     ·subst hi;rw[eg]at e;cases e;exact hc
     ·have bf:=a1 _ i g g' (by lia) (by lia) p2 eg e
      rcases C.neg _ g' _ hc with z|z
      ·exact z
      ·rw[C.le bf]at z;cases z
    |false=>
     refine Au ⟨rfl,t+1,u,rfl,q2,b2,q4,λi g' p1 p2 e=>?_,b5⟩;by_cases hi:i=lo+t
     ·subst hi;rw[eg]at e;cases e;exact hc
     ·have bf:=a1 i _ g' g p1 (by lia) (by lia) e eg
      exact C.letr (C.le bf) hc
  case ipost=>
   rintro r st'' ⟨rfl,l,u,rfl,b2,b4,b5⟩;show wpS _ _ _ _ (do moveDown' (lo+m) (lo+l);pure (ForInStep.yield (none,()))) _ _
   rw[moveDown'_eq];have hs:lo+m<γ'.size:=by rw[R'.size];lia
   have gb:=getElem?_bubble hs (lo+m-(lo+l)) (Nat.sub_le _ _);rw[Nat.sub_sub_self (Qj b2 lo)]at gb;refine Ar (wpS_modify (Au ⟨rfl,bubble x (lo+m) (lo+m-(lo+l)),bubble γ' (lo+m) (lo+m-(lo+l)),rfl,R'.put (bubble_perm _ _ _) ?_,?_,?_,?_,?_⟩))
   ·rw[R'.arr,xz]
   ·intro i j g h p1 p2 p3 e1 e2;rw[gb]at e1 e2;cases qd e1 with
    |at_ y e1=>
     rw[em]at e1;cases e1;cases qd e2 with|at_ z e2=>lia|mid j' z z1 z2 e2=>exact .inl (b5 _ h z1 z2 e2)|lo z e2=>lia|hi z=>lia
    |mid i' y y1 y2 e1=>
     cases qd e2 with|at_ z e2=>lia|mid j' z z1 z2 e2=>exact a1 _ _ g h (Ye (Xj _ _) y1) (by lia) z2 e1 e2|lo z e2=>lia|hi z=>lia
    |lo y e1=>
     have ym:i<lo+m:=Vc y (Qj b2 lo);cases qd e2 with
     |at_ z e2=>
      rw[em]at e2;cases e2;exact .inr ⟨b4 i g p1 y e1,(a2 i g p1 ym e1).2⟩
     |mid j' z z1 z2 e2=>exact a1 i _ g h p1 (Vc y z1) z2 e1 e2
     |lo z e2=>exact a1 i j g h p1 p2 (Vc z (Qj b2 lo)) e1 e2
     |hi z=>lia
    |hi y=>lia
   ·intro i g p1 p2 e;rw[gb]at e;cases qd e with
    |at_ z e=>rw[em]at e;cases e;exact⟨Xj _ _,CF _⟩
    |mid j z z1 z2 e=>exact⟨(a2 _ g (Ye (Xj _ _) z1) z2 e).1,A0 (a2 _ g (Ye (Xj _ _) z1) z2 e).2⟩
    |lo z e=>
     have ym:i<lo+m:=Vc z (Qj b2 lo);exact⟨(a2 i g p1 ym e).1,A0 (a2 i g p1 ym e).2⟩
    |hi z=>lia
   ·intro i p1 p2;rw[gb,GG (Qj b2 lo) p1];exact a3 i (Yj p1) p2
   ·intro i p;rw[gb];rcases p with p|p
    ·rw[N4 (Vc p (Xj _ _))];exact a4 i (.inl p)
    ·rw[GG (Qj b2 lo) p];exact a4 i (.inr (Yj p))
end
section
variable {prog:Tf}{w:Th}{A:Around}{E:Ta->Tb->Prop}{s:Tb}{k:SortKind}{f:Nat->Keyed}{N:Nat}{c:Nat->Nat->Te}{st:SortSt}{γ:Tc Nat}
def Sg.more(C:Cm prog w A s k f N c){lo n g h:Nat}(sg:Sg c γ lo n)(h1:lo<n)(e:γ[n-1]?=some g)(e':γ[n]?=some h)(b:Bf c g h):Sg c γ lo (n+1):=by
 intro i j g' h' p1 p2 p3 e1 e2;by_cases hj:j<n
 ·exact sg i j g' h' p1 p2 hj e1 e2
 ·obtain rfl:j=n:=by lia
  rw[e']at e2;cases e2;by_cases hi:i=j-1
  ·subst hi;rw[e]at e1;cases e1;exact b
  ·exact C.trans (sg i (j-1) g' g p1 (by lia) (by lia) e1 e) b
def vV(C:Cm prog w A s k f N c){lo x h:Nat}(sg:Sg c γ lo (lo+x))(ow:Ow γ lo (lo+x))(raw:Raw γ (lo+x) N)(h1:1<=x)(hx:lo+x<N)(e:γ[lo+x-1]?=some h)(hc:c (lo+x) h=false) :
  Sg c γ lo (lo+(x+1))/\Ow γ lo (lo+(x+1))/\Raw γ (lo+(x+1)) N:=by
 have en:=raw (lo+x) (Xa _) hx;refine⟨sg.more C (by lia) e en (.inr ⟨hc,(ow _ h (by lia) (by lia) e).2⟩),λi g p1 p2 e1=>?_,λi p1 p2=>raw i (by lia) p2⟩
 by_cases hi:i<lo+x
 ·have:=ow i g p1 hi e1;lia
 ·obtain rfl:i=lo+x:=by lia
  rw[en]at e1;cases e1;lia
structure Fl(c:Nat->Nat->Bool)(γ:Array Nat)(lo m n:Nat):Prop where
 le:lo<=m
 lt:m<n
 fall:∀i j g h,lo<=i->i<j->j<m->γ[i]?=some g->γ[j]?=some h->Bf c h g
 cross:∀i j g h,lo<=i->i<m->m<=j->j<n->γ[i]?=some g->γ[j]?=some h->c h g=true
 same:∀i j g h,m<=i->i<n->m<=j->j<n->γ[i]?=some g->γ[j]?=some h->c g h=false
 raw:Raw γ m n
 own:Ow γ lo n
def Fa(c:Nat->Nat->Te)(γ:Tc Nat)(lo n:Nat):Prop:=∀i j g h,lo<=i->i<j->j<n->γ[i]?=some g->γ[j]?=some h->Bf c h g
def lH(hn:n<=γ.size)(h1:a<=i)(h2:i<n):∃i',a<=i'/\i'<n/\i+i'+1=a+n/\(mirror γ a n ((n-a) / 2))[i]?=γ[i']? :=
 ⟨a+n-1-i,by lia,by lia,by lia,by rw[getElem?_mirror_all hn,Af ⟨h1,h2⟩]⟩
def iQ(hn:n<=γ.size)(h:i<a\/n<=i):(mirror γ a n ((n-a) / 2))[i]?=γ[i]?:=by
 rw[getElem?_mirror_all hn,Ah λz=>h.elim (λq=>CC q z.1) λq=>CC z.2 q]
def DR{lo n:Nat}(fa:Fa c γ lo n)(hn:n<=γ.size):Sg c (mirror γ lo n ((n-lo) / 2)) lo n:=by
 intro i j g h p1 p2 p3 e1 e2;obtain⟨i',a1,a2,a3,a4⟩:=lH (γ:=γ) hn p1 (BF p2 p3);obtain⟨j',b1,b2,b3,b4⟩:=lH (γ:=γ) hn (Ye p1 (Yj p2)) p3;exact fa j' i' h g b1 (by lia) a2 (b4 ▸ e2) (a4 ▸ e1)
def ku{lo a n:Nat}(ow:Ow γ lo n)(ha:lo<=a)(hn:n<=γ.size):Ow (mirror γ a n ((n-a) / 2)) lo n:=by
 intro i g p1 p2 e;by_cases hi:a<=i
 ·obtain⟨i',a1,a2,a3,a4⟩:=lH (γ:=γ) hn hi p2;exact ow i' g (Ye ha a1) a2 (a4 ▸ e)
 ·rw[iQ hn (.inl (By hi))]at e;exact ow i g p1 p2 e
def gp(raw:Raw γ n m)(hn:n<=γ.size):Raw (mirror γ a n ((n-a) / 2)) n m:=by
 intro i p1 p2;rw[iQ hn (.inr p1)];exact raw i p1 p2
def iR{lo a n:Nat}{γ':Tc Nat}(o:Out γ γ' lo n)(ha:lo<=a)(hn:n<=γ'.size):Out γ (mirror γ' a n ((n-a) / 2)) lo n:=by
 intro i p;rw[iQ hn (p.imp (λq=>Vc q ha) id)];exact o i p
def Out.wide{lo n n':Nat}{γ':Tc Nat}(o:Out γ γ' lo n)(h:n<=n'):Out γ γ' lo n':=λi p=>o i (by lia)
def Fl.turn{lo m n:Nat}(F:Fl c γ lo m n)(hn:n<=γ.size):Fa c (mirror γ m n ((n-m) / 2)) lo n:=by
 intro i j g h p1 p2 p3 e1 e2;by_cases hj:j<m
 ·rw[iQ hn (.inl (BF p2 hj))]at e1;rw[iQ hn (.inl hj)]at e2;exact F.fall i j g h p1 p2 hj e1 e2
 obtain⟨j',b1,b2,b3,b4⟩:=lH (γ:=γ) hn (Bz hj) p3;rw[b4]at e2;by_cases hi:i<m
 ·rw[iQ hn (.inl hi)]at e1;exact .inl (F.cross i j' g h p1 hi b1 b2 e1 e2)
 ·obtain⟨i',a1,a2,a3,a4⟩:=lH (γ:=γ) hn (Bz hi) (BF p2 p3);rw[a4]at e1;refine .inr ⟨F.same i' j' g h a1 a2 b1 b2 e1 e2,?_⟩;rw[F.raw i' a1 a2]at e1;rw[F.raw j' b1 b2]at e2;cases e1;cases e2;lia
def Fl.fa1{lo m:Nat}(F:Fl c γ lo m (m+1)):Fa c γ lo (m+1):=by
 intro i j g h p1 p2 p3 e1 e2;by_cases hj:j<m
 ·exact F.fall i j g h p1 p2 hj e1 e2
 ·exact .inl (F.cross i j g h p1 (by lia) (by lia) p3 e1 e2)
def Fa.next(C:Cm prog w A s k f N c){lo n g:Nat}(fa:Fa c γ lo n)(ow:Ow γ lo n)(raw:Raw γ n N)(hl:lo<n)(hn:n<N)(z:∀i g,lo<=i->i<n->γ[i]?=some g->c n g=true):Fl c γ lo n (n+1):=by
 have en:=raw n (Xa _) hn;refine⟨by lia,by lia,fa,λi j g h p1 p2 p3 p4 e1 e2=>?_,λi j g h p1 p2 p3 p4 e1 e2=>?_,λi p1 p2=>raw i p1 (by lia),λi g p1 p2 e=>?_⟩
 ·obtain rfl:j=n:=by lia
  rw[en]at e2;cases e2;exact z i g p1 p2 e1
 ·obtain rfl:i=n:=by lia
  obtain rfl:j=i:=by lia
  rw[en]at e1 e2;cases e1;cases e2;exact C.irr _
 ·by_cases hi:i<n
  ·have:=ow i g p1 hi e;lia
  ·obtain rfl:i=n:=by lia
   rw[en]at e;cases e;lia
def Fl.more(C:Cm prog w A s k f N c){lo m n:Nat}(F:Fl c γ lo m n)(raw:Raw γ n N)(hn:n<N)(z1:c n (n-1)=false)(z2:c (n-1) n=false):Fl c γ lo m (n+1):=by
 have en:=raw n (Xa _) hn;have ep:=F.raw (n-1) (by have:=F.lt;lia) (by have:=F.lt;lia)
 have hlt:=F.lt;have hle:=F.le;refine⟨hle,by lia,F.fall,λi j g h p1 p2 p3 p4 e1 e2=>?_,λi j g h p1 p2 p3 p4 e1 e2=>?_,λi p1 p2=>?_,λi g p1 p2 e=>?_⟩
 ·by_cases hj:j<n
  ·exact F.cross i j g h p1 p2 p3 hj e1 e2
  ·obtain rfl:j=n:=by lia
   rw[en]at e2;cases e2;rcases C.neg _ j _ (F.cross i (j-1) g (j-1) p1 p2 (by lia) (by lia) e1 ep) with q|q
   ·rw[z2]at q;cases q
   ·exact q
 ·have key:∀a g,m<=a->a<n+1->γ[a]?=some g->c g (n-1)=false/\c (n-1) g=false:=by
   intro a g q1 q2 e;by_cases ha:a<n
   ·exact⟨F.same a (n-1) g (n-1) q1 ha (by lia) (by lia) e ep,F.same (n-1) a (n-1) g (by lia) (by lia) q1 ha ep e⟩
   ·obtain rfl:a=n:=by lia
    rw[en]at e;cases e;exact⟨z1,z2⟩
  exact C.letr (key j h p3 p4 e2).2 (key i g p1 p2 e1).1
 ·by_cases hi:i<n
  ·exact F.raw i p1 hi
  ·exact raw i (by lia) (by lia)
 ·by_cases hi:i<n
  ·have:=F.own i g p1 hi e;lia
  ·obtain rfl:i=n:=by lia
   rw[en]at e;cases e;lia
def Fl.below(C:Cm prog w A s k f N c){lo m n x:Nat}(F:Fl c γ lo m n)(z:c x (n-1)=true):∀i g,lo<=i->i<n->γ[i]?=some g->c x g=true:=by
 have hlt:=F.lt;have ep:=F.raw (n-1) (by lia) (by lia)
 intro i g p1 p2 e;rcases C.neg x g _ z with q|q
 ·exact q
 ·by_cases hi:i<m
  ·exact absurd (F.cross i (n-1) g (n-1) p1 hi (by lia) (by lia) e ep) (by rw[C.asy q];exact Bool.noConfusion)
  ·rw[F.same i (n - 1) g (n - 1) (by lia) p2 (by lia) (by lia) e ep]at q;cases q
def Rn(k:SortKind)(f:Nat->Keyed)(N:Nat)(c:Nat->Nat->Te)(lo:Nat)(st:SortSt)(γ:Tc Nat)(n:Nat)(Tn:SortSt):Prop :=
 ∃x γ',Tn=setArr st x/\Rp k f N Tn γ'/\Sg c γ' lo (lo+n)/\Ow γ' lo (lo+n)/\Raw γ' (lo+n) N/\Out γ γ' lo (lo+n)
def vW(lo n nrem:Nat):StateT SortSt Sem (S9 Nat):=do
 reverseSlice' lo (lo+n)
 let r <-forIn [n:nrem] ((none,n):S9 (S9 Nat)×Nat) λ_ r=>do
  match <-ltAt' (lo+r.2) (lo+r.2-1) with|some smaller=>if smaller=true then pure (ForInStep.done (none,r.2)) else pure (ForInStep.yield (none,r.2+1))|_=>pure (ForInStep.done (some none,r.2))
 match r.1 with|some z=>pure z|none=>pure (some r.2)
def qg(lo x nrem:Nat):StateT SortSt Sem (S9 Nat):=do
 liftM (rule "list.sort.descending-run")
 let r <-forIn [x+1:nrem] ((none,x+1,0):S9 (S9 Nat)×Nat×Nat) λ_ r=>do
  match <-ltAt' (lo+r.2.1) (lo+r.2.1-1) with
  |some smaller=>
   if smaller=true then
    if r.2.2 > 0 then do
     reverseSlice' (lo+r.2.1-(r.2.2+1)) (lo+r.2.1)
     pure (ForInStep.yield (none,r.2.1+1,0))
    else pure (ForInStep.yield (none,r.2.1+1,0))
   else do
    match <-ltAt' (lo+r.2.1-1) (lo+r.2.1) with|some larger=>if larger=true then pure (ForInStep.done (none,r.2.1,r.2.2)) else pure (ForInStep.yield (none,r.2.1+1,r.2.2+1))|_=>pure (ForInStep.done (some none,r.2.1,r.2.2))
  |_=>pure (ForInStep.done (some none,r.2.1,r.2.2))
 match r.1 with
 |some z=>pure z
 |none=>
  if r.2.2 > 0 then do
   reverseSlice' (lo+r.2.1-(r.2.2+1)) (lo+r.2.1)
   vW lo r.2.1 nrem
  else vW lo r.2.1 nrem
def ua(h:Q () (setArr st (mirror (arrOf st) i j ((j-i) / 2)))):wpS (model prog w) A E s (reverseSlice' i j) Q st:=by
 rw[reverseSlice'_eq];exact wpS_modify h
def y8(C:Cm prog w A s k f N c){st₀:SortSt}{γ₀:Tc Nat}{lo n:Nat}{y:Tc Keyed}(R:Rp k f N (setArr st₀ y) γ)(h1:1<=n)(hn:lo+n<=N)(fa:Fa c γ lo (lo+n))(ow:Ow γ lo (lo+n))(raw:Raw γ (lo+n) N)(out:Out γ₀ γ lo (lo+n))
  {Q:S9 Nat->SortSt->Prop}(q:∀n Tn,1<=n->lo+n<=N->Rn k f N c lo st₀ γ₀ n Tn->Q (some n) Tn):wpS (model prog w) A E s (vW lo n (N-lo)) Q (setArr st₀ y):=by
 have hs:lo+n<=γ.size:=by rw[R.size];exact hn
 refine Ar (ua ?_);have R1:Rp k f N (setArr st₀ (mirror y lo (lo+n) ((lo+n-lo) / 2))) (mirror γ lo (lo+n) ((lo+n-lo) / 2)):=R.put (mirror_perm _ _ _ _) (by rw[show y=γ.map f from R.arr,iP])
 have sg:=DR fa hs;have ow':=ku ow (Xa lo) hs;have raw':=gp (a:=lo) raw hs;have out':=iR out (Xa lo) hs;generalize mirror γ lo (lo+n) ((lo+n-lo) / 2)=δ at R1 sg ow' raw' out';generalize mirror y lo (lo+n) ((lo+n-lo) / 2)=y' at R1
 refine Ar (BR (AY (I:=λx r Tn=>Tn=setArr st₀ y'/\r=(none,x)/\n<=x/\lo+x<=N/\Sg c δ lo (lo+x)/\Ow δ lo (lo+x)/\Raw δ (lo+x) N)
  (Q:=λr Tn=>Tn=setArr st₀ y'/\∃x,r=(none,x)/\n<=x/\lo+x<=N/\Sg c δ lo (lo+x)/\Ow δ lo (lo+x)/\Raw δ (lo+x) N) ?step ?fin ?init) ?post)
 case init=>exact⟨rfl,rfl,Xa _,hn,sg,ow',raw'⟩
 case fin=>
  rintro r Tn ⟨rfl,rfl,b1,b2,b3,b4,b5⟩;exact⟨rfl,_,rfl,b1,b2,b3,b4,b5⟩
 case step=>
  rintro x r Tn p1 p2 ⟨rfl,rfl,b1,b2,b3,b4,b5⟩;dsimp only;have en:=b5 (lo+x) (by lia) (by lia)
  obtain⟨g,ep⟩:=GF (γ:=δ) (i:=lo+x-1) (by rw[R1.size];lia)
  refine Ar (kr C R1 en ep ?_);cases hc:c (lo+x) g with
  |true=>exact Au ⟨rfl,x,rfl,b1,b2,b3,b4,b5⟩
  |false=>
   obtain⟨a1,a2,a3⟩:=vV C b3 b4 b5 (by lia) (by lia) ep hc
   exact Au ⟨rfl,rfl,by lia,by lia,a1,a2,a3⟩
 case post=>
  rintro r Tn ⟨rfl,x,rfl,b1,b2,b3,b4,b5⟩;exact Au (q x _ (by lia) b2 ⟨y',δ,rfl,R1,b3,b4,b5,out'.wide (by lia)⟩)
def y9(C:Cm prog w A s k f N c){st₀:SortSt}{γ₀:Tc Nat}{lo x:Nat}{y:Tc Keyed}(R:Rp k f N (setArr st₀ y) γ)(hx:lo+x<N)(F:Fl c γ lo (lo+x) (lo+x+1))(raw:Raw γ (lo+x+1) N)(out:Out γ₀ γ lo (lo+x+1))
  {Q:S9 Nat->SortSt->Prop}(q:∀n Tn,1<=n->lo+n<=N->Rn k f N c lo st₀ γ₀ n Tn->Q (some n) Tn):wpS (model prog w) A E s (qg lo x (N-lo)) Q (setArr st₀ y):=by
 refine Ar (wpS_lift (AN ⟨rfl,?_⟩))
 refine Ar (BR (AY (I:=λn r Tn=>∃e y' δ,r=(none,n,e)/\Tn=setArr st₀ y'/\Rp k f N (setArr st₀ y') δ/\e+1<=n/\lo+n<=N/\Fl c δ lo (lo+n-(e+1)) (lo+n)/\Raw δ (lo+n) N/\Out γ₀ δ lo (lo+n))
  (Q:=λr Tn=>∃n e y' δ,r=(none,n,e)/\Tn=setArr st₀ y'/\Rp k f N (setArr st₀ y') δ/\e+1<=n/\lo+n<=N/\Fl c δ lo (lo+n-(e+1)) (lo+n)/\Raw δ (lo+n) N/\Out γ₀ δ lo (lo+n)) ?step ?fin ?init) ?post)
 case init=>exact⟨0,y,γ,rfl,rfl,R,by lia,by lia,F,raw,out⟩
 case fin=>
  rintro r Tn ⟨e,y',δ,h⟩;exact⟨_,e,y',δ,h⟩
 case step=>
  rintro n r Tn p1 p2 ⟨e,y',δ,rfl,rfl,R1,b1,b2,F1,raw1,out1⟩;dsimp only;have en:=raw1 (lo+n) (Xa _) (by lia)
  have s1:1<=lo+n:=by lia
  have ep:=F1.raw (lo+n-1) (Nat.sub_le_sub_left (Nat.succ_le_succ (Yi e)) _) (Nat.sub_lt s1 Nat.one_pos);have hs:lo+n<=δ.size:=by rw[R1.size];exact b2
  refine Ar (kr C R1 en ep ?_);cases hc:c (lo+n) (lo+n-1) with
  |true=>
   dsimp only;refine sJ rfl ?_;have bl:=F1.below C hc;by_cases he:e > 0
   ·refine sJ he ?_;refine Ar (ua (Au ?_));have fa:=F1.turn hs;have ow':=ku F1.own F1.le hs;have raw':=gp (a:=lo+n-(e+1)) raw1 hs;have out':=iR out1 F1.le hs;refine⟨0,_,mirror δ (lo+n-(e+1)) (lo+n) ((lo+n-(lo+n-(e+1))) / 2),rfl,rfl,R1.put (mirror_perm _ _ _ _) (by rw[show arrOf (setArr st₀ y')=δ.map f from R1.arr,iP]),by lia,by lia,?_,λi q1 q2=>raw' i (by lia) q2,out'.wide (by lia)⟩
    refine fa.next C (g:=0) ow' raw' (by lia) (by lia) λi g q1 q2 e1=>?_
    by_cases hi:lo+n-(e+1)<=i
    ·obtain⟨i',a1,a2,_,a4⟩:=lH (γ:=δ) hs hi q2;exact bl i' g (Ye F1.le a1) a2 (a4 ▸ e1)
    ·rw[iQ hs (.inl (By hi))]at e1;exact bl i g q1 q2 e1
   ·obtain rfl:e=0:=by lia
    refine qc he ?_;have F2:Fl c δ lo (lo+n-1) (lo+n-1+1):=by rw[Bm s1];exact F1
    have fa:=F2.fa1;rw[Bm s1]at fa;exact Au ⟨0,y',δ,rfl,rfl,R1,by lia,by lia,fa.next C (g:=0) F1.own raw1 (by lia) (by lia) bl,λi q1 q2=>raw1 i (by lia) q2,out1.wide (by lia)⟩
  |false=>
   dsimp only;refine qc Bool.noConfusion ?_;refine Ar (kr C R1 ep en ?_);cases hc2:c (lo+n-1) (lo+n) with
   |true=>exact Au ⟨n,e,y',δ,rfl,rfl,R1,b1,b2,F1,raw1,out1⟩
   |false=>
    refine Au ⟨e+1,y',δ,rfl,rfl,R1,by lia,by lia,?_,λi q1 q2=>raw1 i (by lia) q2,out1.wide (by lia)⟩
    rw[show lo+(n+1) - (e+1+1)=lo+n - (e+1) from Nat.succ_sub_succ _ _];exact F1.more C raw1 (by lia) hc hc2
 case post=>
  rintro r Tn ⟨n,e,y',δ,rfl,rfl,R1,b1,b2,F1,raw1,out1⟩;have hs:lo+n<=δ.size:=by rw[R1.size];exact b2
  have s1:1<=lo+n:=by lia
  dsimp only;by_cases he:e > 0
  ·refine sJ he ?_;refine Ar (ua ?_);exact y8 C (γ:=mirror δ (lo+n-(e+1)) (lo+n) ((lo+n-(lo+n-(e+1))) / 2)) (R1.put (mirror_perm _ _ _ _) (by rw[show arrOf (setArr st₀ y')=δ.map f from R1.arr,iP])) (by lia) b2 (F1.turn hs) (ku F1.own F1.le hs) (gp (a:=lo+n-(e+1)) raw1 hs) (iR out1 F1.le hs) q
  ·obtain rfl:e=0:=by lia
   refine qc he ?_;have F2:Fl c δ lo (lo+n-1) (lo+n-1+1):=by rw[Bm s1];exact F1
   have fa:=F2.fa1;rw[Bm s1]at fa;exact y8 C R1 (by lia) b2 fa F1.own raw1 out1 q
def N5(C:Cm prog w A s k f N c)(R:Rp k f N st γ){lo:Nat}(hl:lo<N)(raw:Raw γ lo N)
  {Q:S9 Nat->SortSt->Prop}(q:∀n Tn,1<=n->lo+n<=N->Rn k f N c lo st γ n Tn->Q (some n) Tn):wpS (model prog w) A E s (countRun' lo (N-lo)) Q st:=by
 rw[countRun'_eq];have sg1:Sg c γ lo (lo+1):=λi j g h p1 p2 p3=>by lia
 have ow1:Ow γ lo (lo+1):=λi g p1 p2 e=>by
  obtain rfl:i=lo:=by lia
  rw[raw i (Xa _) hl]at e;cases e;lia
 refine Ar (BR (AY (I:=λx r Tn=>Tn=st/\r=(none,x)/\1<=x/\lo+x<=N/\Sg c γ lo (lo+x)/\Ow γ lo (lo+x)/\∀i g h,lo<=i->i+1<lo+x->γ[i]?=some g->γ[i+1]?=some h->c h g=false)
  (Q:=λr Tn=>Tn=st/\∃x,r=(none,x)/\1<=x/\lo+x<=N/\Sg c γ lo (lo+x)/\Ow γ lo (lo+x)/\(lo+x=N\/c (lo+x) (lo+x-1)=true)) ?step ?fin ?init) ?post)
 case init=>exact⟨rfl,rfl,by lia,by lia,sg1,ow1,λi g h p1 p2=>by lia⟩
 case fin=>
  rintro r Tn ⟨rfl,rfl,b1,b2,b3,b4,b5⟩;exact⟨rfl,_,rfl,b1,b2,b3,b4,.inl (by lia)⟩
 case step=>
  rintro x r Tn p1 p2 ⟨rfl,rfl,b1,b2,b3,b4,b5⟩;dsimp only;have en:=raw (lo+x) (by lia) (by lia)
  have ep:=raw (lo+x-1) (by lia) (by lia)
  refine Ar (kr C R en ep ?_);cases hc:c (lo+x) (lo+x-1) with
  |true=>exact Au ⟨rfl,x,rfl,b1,b2,b3,b4,.inr hc⟩
  |false=>
   obtain⟨a1,a2,_⟩:=vV C b3 b4 (λi q1 q2=>raw i (by lia) q2) b1 (by lia) ep hc
   refine Au ⟨rfl,rfl,by lia,by lia,a1,a2,λi g h q1 q2 e1 e2=>?_⟩
   rw[raw i q1 (by lia)]at e1
   rw[raw (i+1) (by lia) (by lia)]at e2
   cases e1;cases e2;by_cases hi:i+1<lo+x
   ·exact b5 i i (i+1) q1 hi (raw _ q1 (by lia)) (raw _ (by lia) (by lia))
   ·obtain rfl:i=lo+x-1:=by lia
    rw[show lo+x - 1+1=lo+x by lia];exact hc
 case post=>
  rintro r Tn ⟨rfl,x,rfl,b1,b2,b3,b4,b6⟩;dsimp only;by_cases hx:lo+x=N
  ·refine sJ (by simp;lia) ?_
   exact Au (q x _ b1 b2 ⟨_,γ,rfl,R,b3,b4,λi q1 q2=>raw i (by lia) q2,Out.refl _ _ _⟩)
  ·refine qc (by simp;lia) ?_
   have hc:c (lo+x) (lo+x-1)=true:=b6.resolve_left hx;have hs:lo+x<=γ.size:=by rw[R.size];exact b2
   have raw':Raw γ (lo+x) N:=λi q1 q2=>raw i (by lia) q2
   by_cases h1:x > 1
   ·refine sJ h1 ?_;refine Ar (kr C R (raw lo (Xa _) hl) (raw (lo+x-1) (by lia) (by lia)) ?_)
    cases hr:c lo (lo+x-1) with
    |true=>exact Au (q x _ b1 b2 ⟨_,γ,rfl,R,b3,b4,raw',Out.refl _ _ _⟩)
    |false=>
     dsimp only;refine qc Bool.noConfusion ?_;have le:∀a b,lo<=a->a<lo+x->lo<=b->b<lo+x->a<=b->c b a=false:=λa b p1 p2 p3 p4 p5=>by
      by_cases ab:a=b
      ·subst ab;exact C.irr _
      ·exact C.le (b3 a b a b p1 (by lia) p4 (raw a p1 (by lia)) (raw b p3 (by lia)))
     have al:∀a b,lo<=a->a<lo+x->lo<=b->b<lo+x->c a b=false:=λa b p1 p2 p3 p4=>by
      by_cases ab:b<=a
      ·exact le b a p3 p4 p1 p2 ab
      ·cases hab:c a b with
       |false=>rfl
       |true=>
        rcases C.neg a lo b hab with z|z
        ·rw[le lo a (Xa _) (by lia) p1 p2 p1]at z;exact z.symm
        ·rcases C.neg lo (lo+x-1) b z with z|z
         ·rw[hr]at z;exact z.symm
         ·rw[le b (lo+x - 1) p3 p4 (by lia) (by lia) (by lia)]at z;exact z.symm
     have F0:Fl c γ lo lo (lo+x):=⟨Xa _,by lia,λi j g h p1 p2 p3=>by lia,λi j g h p1 p2=>by lia,λi j g h p1 p2 p3 p4 e1 e2=>by
      rw[raw i p1 (by lia)]at e1
      rw[raw j p3 (by lia)]at e2
      cases e1;cases e2
      exact al i j p1 p2 p3 p4,λi p1 p2=>raw i p1 (by lia),b4⟩
     refine Ar (ua ?_);refine(show ∀{m:StateT SortSt Sem (S9 Nat)}{t:SortSt},m=qg lo x (N-lo)->wpS (model prog w) A E s (qg lo x (N-lo)) Q t->wpS (model prog w) A E s m Q t from λe h=>e ▸ h) ?_
      (y9 C (st₀:=Tn) (γ₀:=γ) (γ:=mirror γ lo (lo+x) ((lo+x-lo) / 2)) (R.put (mirror_perm _ _ _ _) (by rw[R.arr,iP])) (by lia)
       ((F0.turn hs).next C (g:=0) (ku b4 (Xa _) hs) (gp (a:=lo) raw' hs) (by lia) (by lia) λi g p1 p2 e=>?_) (λi q1 q2=>gp (a:=lo) raw' hs i (by lia) q2) ((iR (Out.refl γ lo (lo+x)) (Xa _) hs).wide (by lia)) q)
     ·unfold qg vW;congr 1;funext _v;congr 1;funext z;obtain⟨z1,z2,z3⟩:=z;cases z1 with
      |some z1=>rfl
      |none=>
       dsimp only;split
       ·congr 1;funext _y;congr 1;funext _u;congr 1;funext z;obtain⟨z1,z2⟩:=z;cases z1<;>rfl
       ·congr 1;funext _u;congr 1;funext z;obtain⟨z1,z2⟩:=z;cases z1<;>rfl
     ·obtain⟨i',a1,a2,_,a4⟩:=lH (γ:=γ) hs p1 p2;exact F0.below C hc i' g a1 a2 (a4 ▸ e)
   ·obtain rfl:x=1:=by lia
    refine qc h1 ?_;have fa:Fa c γ lo (lo+1):=λi j g h p1 p2 p3=>by lia
    refine(show ∀{m:StateT SortSt Sem (S9 Nat)},m=qg lo 1 (N-lo)->wpS (model prog w) A E s (qg lo 1 (N-lo)) Q Tn->wpS (model prog w) A E s m Q Tn from λe h=>e ▸ h) ?_ (y9 C (st₀:=Tn) (y:=arrOf Tn) (γ₀:=γ) (γ:=γ) R (by lia) (fa.next C (g:=0) b4 raw' (by lia) (by lia) λi g p1 p2 e=>?_) (λi q1 q2=>raw i (by lia) q2) (Out.refl _ _ _) q)
    ·unfold qg vW;congr 1;funext _v;congr 1;funext z;obtain⟨z1,z2,z3⟩:=z;cases z1 with
     |some z1=>rfl
     |none=>
      dsimp only;split
      ·congr 1;funext _y;congr 1;funext _u;congr 1;funext z;obtain⟨z1,z2⟩:=z;cases z1<;>rfl
      ·congr 1;funext _u;congr 1;funext z;obtain⟨z1,z2⟩:=z;cases z1<;>rfl
    obtain rfl:i=lo:=by lia
    rw[raw i (Xa _) hl]at e;cases e;exact hc
end
def Sk:StateT SortSt Sem Unit:=sortPriv% PySem.Builtin.sortRuns
section
variable {prog:Tf}{w:Th}{A:Around}{E:Ta->Tb->Prop}{s:Tb}{k:SortKind}{f:Nat->Keyed}{N:Nat}{c:Nat->Nat->Te}{st:SortSt}{γ:Tc Nat}
def N6(C:Cm prog w A s k f N c)(R:Rp k f N st γ){lo n ok:Nat}(hn:lo+n<=N)(h1:1<=ok)(hok:ok<=n)(sg:Sg c γ lo (lo+ok))(ow:Ow γ lo (lo+ok))(raw:Raw γ (lo+ok) N)
  {Q:Te->SortSt->Prop}(q:∀(x:Tc Keyed)(γ':Tc Nat),Rp k f N (setArr st x) γ'->Sg c γ' lo (lo+n)->Ow γ' lo (lo+n)->Raw γ' (lo+n) N->Out γ γ' lo (lo+n)->Q true (setArr st x)) :
  wpS (model prog w) A E s ((sortPriv% PySem.Builtin.binarySort) lo n ok) Q st:=JB C R hn h1 hok sg ow raw q
def N7(C:Cm prog w A s k f N c)(R:Rp k f N st γ){lo:Nat}(hl:lo<N)(raw:Raw γ lo N)
  {Q:S9 Nat->SortSt->Prop}(q:∀n Tn,1<=n->lo+n<=N->Rn k f N c lo st γ n Tn->Q (some n) Tn):wpS (model prog w) A E s ((sortPriv% PySem.Builtin.countRun) lo (N-lo)) Q st:=N5 C R hl raw q
def JC(h64:N<64)(C:Cm prog w A s k f N c)(R:Rp k f N st γ)(hp:pendingOf st=#[])(raw:Raw γ 0 N){Q:Unit->SortSt->Prop}(q:∀Tn γ',Rp k f N Tn γ'->Sg c γ' 0 N->Q ⟨⟩ Tn):wpS (model prog w) A E s Sk Q st:=by
 have hsz:((sortPriv% PySem.Builtin.SortState.a) st).size=N:=by
  have:=congrArg Array.size R.arr;rw[Array.size_map,R.size]at this;exact this
 have hmin:(sortPriv% PySem.Builtin.minRun) N N 0=N:=by
  cases N with
  |zero=>rfl
  |succ m=>
   show minRun' (m+1) (m+1) 0=m+1;rw[minRun'_succ,Af h64]
 refine Ar (wpS_get ?_);dsimp only;rw[hsz,hmin]
 refine Ar (BR (AY (I:=λx r Tn=>(r=(none,0)/\Tn=st/\x=0)\/(r=(none,N)/\(pendingOf Tn).size<=1/\∃γ',Rp k f N Tn γ'/\Sg c γ' 0 N))
  (Q:=λr Tn=>r.1=none/\(pendingOf Tn).size<=1/\∃γ',Rp k f N Tn γ'/\Sg c γ' 0 N) ?step ?fin ?init) ?post)
 case init=>exact .inl ⟨rfl,rfl,rfl⟩
 case fin=>
  rintro r Tn (⟨rfl,rfl,hx⟩|⟨rfl,hz,γ',R',g'⟩)
  ·have hN:N=0:=by lia
   subst hN;exact⟨rfl,by rw[hp];exact Yi _,γ,R,λi j g h z1 z2 z3=>by lia⟩
  ·exact⟨rfl,hz,γ',R',g'⟩
 case step=>
  rintro x r Tn _ hxN (⟨rfl,rfl,hx⟩|⟨rfl,hz,γ',R',g'⟩)
  ·dsimp only;have hpos:0<N:=by lia
   rw[Ah (by lia)]
   refine Ar (N7 C R hpos raw λn Tr hn1 hn2 rn=>?_);obtain⟨xa,γ1,hst1,R1,sg1,ow1,raw1,out1⟩:=rn;have pd1:pendingOf Tr=#[]:=by rw[hst1];exact hp
   dsimp only;by_cases hm:n<N
   ·rw[Af hm];refine Ar (wpS_lift (AN ⟨rfl,?_⟩));rw[show min (N - 0) N=N by lia]
    refine Ar (N6 C R1 (n:=N) (by lia) hn1 (by lia) sg1 ow1 raw1 λxb γ2 R2 sg2 ow2 raw2 out2=>?_)
    rw[Ah (by decide)]
    refine Ar (wpS_get ?_);have hb:((sortPriv% PySem.Builtin.SortState.pending) (setArr Tr xb)).back?=none:=by
     show(pendingOf Tr).back?=none;rw[pd1];rfl
    rw[hb];refine Ar (wpS_modify (Au (.inr ⟨by rw[Bi],?_,γ2,⟨R2.arr,R2.kind,R2.fine,R2.perm⟩,by rw[Bi]at sg2;exact sg2⟩)))
    show((pendingOf Tr).push _).size<=1;rw[pd1];exact Xa _
   ·rw[Ah hm];obtain rfl:n=N:=by lia
    refine Ar (wpS_get ?_);have hb:((sortPriv% PySem.Builtin.SortState.pending) Tr).back?=none:=by
     show(pendingOf Tr).back?=none;rw[pd1];rfl
    rw[hb];refine Ar (wpS_modify (Au (.inr ⟨by rw[Bi],?_,γ1,⟨R1.arr,R1.kind,R1.fine,R1.perm⟩,by rw[Bi]at sg1;exact sg1⟩)))
    show((pendingOf Tr).push _).size<=1;rw[pd1];exact Xa _
  ·dsimp only;rw[Af (Xa N)];exact Au ⟨rfl,hz,γ',R',g'⟩
 case post=>
  rintro⟨r1,r2⟩ Tn ⟨hr,hz,γ',R',g'⟩;dsimp only at hr;subst hr;dsimp only;refine Ar (BR (AY (I:=λ_ r TR=>r=(none,())/\TR=Tn) (Q:=λr TR=>r=(none,())/\TR=Tn) ?step3 ?fin3 ?init3) ?post3)
  case init3=>exact⟨rfl,rfl⟩
  case fin3=>exact λr TR h=>h
  case step3=>
   rintro y r TR _ _ ⟨rfl,rfl⟩;refine Ar (wpS_get ?_);rw[Af (show((sortPriv% PySem.Builtin.SortState.pending) TR).size<=1 from hz)];exact Au ⟨rfl,rfl⟩
  case post3=>
   rintro r TR ⟨rfl,rfl⟩;exact Au (q TR γ' R' g')
end
end TS
namespace VF
open PySem L2
open Classical in
noncomputable def jq(lt:D->D->Te):S8 D->S8 D->Te
 |[],[]=>false
 |[],_::_=>true
 |_::_,[]=>false
 |x::xs,y::ys=>if x=y then jq lt xs ys else lt x y
noncomputable def ltN:Nat->D->D->Te
 |0,_,_=>false
 |_+1,.int i,.int j=>decide (i<j)
 |_+1,.str x,.str y=>decide (x.cps.toList<y.cps.toList)
 |n+1,.tup xs,.tup ys=>jq (ltN n) xs ys
 |n+1,.lst xs,.lst ys=>jq (ltN n) xs ys
 |_+1,_,_=>false
def Cp:Nat->D->D->Prop|0,_,_=>False|_+1,.int _,.int _=>True|_+1,.str _,.str _=>True|n+1,.tup xs,.tup ys=>∀(i:Nat) x y,xs[i]?=some x->ys[i]?=some y->Cp n x y|n+1,.lst xs,.lst ys=>∀(i:Nat) x y,xs[i]?=some x->ys[i]?=some y->Cp n x y|_+1,_,_=>False
theorem ub:∀(xs:S8 D),jq lt xs xs=false
 |[]=>rfl
 | x::xs=>by
  unfold jq;rw[Af rfl];exact ub xs
theorem pc:∀(n:Nat)(a:D),ltN n a a=false
 |0,_=>rfl
 | n+1,a=>by
  cases a with|int i=>exact Ad (Int.lt_irrefl i)|str x=>exact Ad (List.lt_irrefl _)|tup xs=>exact ub xs|lst xs=>exact ub xs|_=>rfl
structure Or(n:Nat):Prop where
 tri:∀{a b:D},Cp n a b->a=b\/ltN n a b=true\/ltN n b a=true
 tra:∀{a b c:D},Cp n a b->Cp n b c->Cp n a c->ltN n a b=true->ltN n b c=true->ltN n a c=true
abbrev Cl(n:Nat)(xs ys:List D):Prop:=∀(i:Nat) x y,xs[i]?=some x->ys[i]?=some y->Cp n x y
def Cl.tail(h:Cl n (x::xs) (y::ys)):Cl n xs ys:=λi a b e1 e2=>h (i+1) a b (by simpa using e1) (by simpa using e2)
def Cl.head(h:Cl n (x::xs) (y::ys)):Cp n x y:=h 0 x y rfl rfl
open Classical in
def cz:jq lt (x::xs) (x::ys)=jq lt xs ys:=by
 show(if x=x then jq lt xs ys else lt x x)=_;rw[Af rfl]
open Classical in
def bG(h:x≠y):jq lt (x::xs) (y::ys)=lt x y:=by
 show(if x=y then jq lt xs ys else lt x y)=_;rw[Ah h]
theorem uc(O:Or n):∀{xs ys:S8 D},Cl n xs ys->xs=ys\/jq (ltN n) xs ys=true\/jq (ltN n) ys xs=true
 |[],[],_=>.inl rfl
 |[],_::_,_=>.inr (.inl rfl)
 |_::_,[],_=>.inr (.inr rfl)
 | x::xs,y::ys,h=>by
  by_cases e:x=y
  ·subst e;rw[cz,cz];rcases uc O h.tail with q|q
   ·exact .inl (by rw[q])
   ·exact .inr q
  ·rw[bG e,bG (Ne.symm e)];rcases O.tri h.head with q|q
   ·exact absurd q e
   ·exact .inr q
theorem ud(O:Or n):∀{xs ys zs:S8 D},Cl n xs ys->Cl n ys zs->Cl n xs zs->jq (ltN n) xs ys=true->jq (ltN n) ys zs=true->jq (ltN n) xs zs=true
 |[],[],[],_,_,_,h1,_=>h1
 |[],_::_,[],_,_,_,_,h2=>h2
 |[],_,_::_,_,_,_,_,_=>rfl
 |_::_,[],_,_,_,_,h1,_=>by cases h1
 |_::_,_::_,[],_,_,_,_,h2=>by cases h2
 | x::xs,y::ys,z::zs,c1,c2,c3,h1,h2=>by
  by_cases e1:x=y
  ·subst e1;rw[cz]at h1;by_cases e2:x=z
   ·subst e2;rw[cz]at h2 ⊢;exact ud O c1.tail c2.tail c3.tail h1 h2
   ·rw[bG e2]at h2 ⊢;exact h2
  ·rw[bG e1]at h1;by_cases e2:y=z
   ·subst e2;rw[bG e1];exact h1
   ·rw[bG e2]at h2;have h3:=O.tra c1.head c2.head c3.head h1 h2;have e3:x≠z:=λe=>by subst e;rw[pc]at h3;cases h3
    rw[bG e3];exact h3
theorem qh:∀n,Or n
 |0=>⟨λh=>h.elim,λh=>h.elim⟩
 | n+1=>by
  have O:=qh n;refine⟨λ{a b} h=>?_,λ{a b c} h1 h2 h3 l1 l2=>?_⟩
  ·cases a with
   |int i=>
    cases b with
    |int j=>
     rcases Int.lt_trichotomy i j with q|q|q
     ·exact .inr (.inl (Ae q))
     ·exact .inl (by rw[q])
     ·exact .inr (.inr (Ae q))
    |_=>exact h.elim
   |str x=>
    cases b with
    |str y=>
     by_cases q:x.cps.toList<y.cps.toList
     ·exact .inr (.inl (Ae q))
     ·by_cases q':y.cps.toList<x.cps.toList
      ·exact .inr (.inr (Ae q'))
      ·refine .inl ?_;have:=vN (a:=x) (b:=y) q' q;rw[this]
    |_=>exact h.elim
   |tup xs=>
    cases b with
    |tup ys=>
     rcases uc O h with q|q
     ·exact .inl (by rw[q])
     ·exact .inr q
    |_=>exact h.elim
   |lst xs=>
    cases b with
    |lst ys=>
     rcases uc O h with q|q
     ·exact .inl (by rw[q])
     ·exact .inr q
    |_=>exact h.elim
   |_=>exact h.elim
  ·cases a with
   |int i=>
    cases b with
    |int j=>
     cases c with
     |int k=>
      have q1:=Aj l1;have q2:=Aj l2;exact Ae (Int.lt_trans q1 q2)
     |_=>exact h2.elim
    |_=>exact h1.elim
   |str x=>
    cases b with
    |str y=>
     cases c with
     |str z=>
      have q1:=Aj l1;have q2:=Aj l2;exact Ae (List.lt_trans q1 q2)
     |_=>exact h2.elim
    |_=>exact h1.elim
   |tup xs=>
    cases b with
    |tup ys=>
     cases c with|tup zs=>exact ud O h1 h2 h3 l1 l2|_=>exact h2.elim
    |_=>exact h1.elim
   |lst xs=>
    cases b with
    |lst ys=>
     cases c with|lst zs=>exact ud O h1 h2 h3 l1 l2|_=>exact h2.elim
    |_=>exact h1.elim
   |_=>exact h1.elim
theorem ue(h:∀a b,lt a b=true->lt b a=false):∀(xs ys:S8 D),jq lt xs ys=true->jq lt ys xs=false
 |[],[],l=>by cases l
 |[],_::_,_=>rfl
 |_::_,[],l=>by cases l
 | x::xs,y::ys,l=>by
  by_cases e:x=y
  ·subst e;rw[cz]at l ⊢;exact ue h xs ys l
  ·rw[bG e]at l;rw[bG (Ne.symm e)];exact h x y l
theorem pe:∀(n:Nat)(a b:D),ltN n a b=true->ltN n b a=false
 |0,_,_,l=>by cases l
 | n+1,a,b,l=>by
  cases a with
  |int i=>
   cases b with
   |int j=>
    have q:=Aj l;exact Ad (by lia)
   |_=>cases l
  |str x=>
   cases b with
   |str y=>
    have q:=Aj l;exact Ad (List.lt_asymm q)
   |_=>cases l
  |tup xs=>
   cases b with|tup ys=>exact ue (pe n) xs ys l|_=>cases l
  |lst xs=>
   cases b with|lst ys=>exact ue (pe n) xs ys l|_=>cases l
  |_=>cases l
def LH(n:Nat)(es:S8 D):Prop:=es.Pairwise λa b=>ltN n b a=false
open Classical in
noncomputable def dD(n:Nat)(ds:S8 D):S8 D:=if h:∃es:S8 D,es.Perm ds/\LH n es then h.choose else ds
def lI(n:Nat)(ds:S8 D):(dD n ds).Perm ds:=by
 unfold dD;split
 ·rename_i h;exact h.choose_spec.1
 ·exact List.Perm.refl _
def CA(n:Nat)(ds:S8 D):Prop:=∀a∈ds,∀b∈ds,Cp n a b
def CA.neg(h:CA n ds)(ha:a∈ds)(hb:b∈ds)(hc:c∈ds)(l:ltN n a c=true):ltN n a b=true\/ltN n b c=true:=by
 rcases(qh n).tri (h a ha b hb) with q|q|q
 ·subst q;exact .inr l
 ·exact .inl q
 ·exact .inr ((qh n).tra (h b hb a ha) (h a ha c hc) (h b hb c hc) q l)
def dQ{ds es:S8 D}(h:CA n ds)(p:es.Perm ds)(s:LH n es):es=dD n ds:=by
 have ex:∃es:S8 D,es.Perm ds/\LH n es:=⟨es,p,s⟩;have e:dD n ds=ex.choose:=by unfold dD;rw[dif_pos ex]
 obtain⟨p2,s2⟩:=ex.choose_spec;rw[e];refine(p.trans p2.symm).eq_of_pairwise (λa b ha hb h1 h2=>?_) s s2;rcases(qh n).tri (h a (p.mem_iff.mp ha) b (p2.mem_iff.mp hb)) with q|q|q
 ·exact q
 ·rw[h2]at q;cases q
 ·rw[h1]at q;cases q
open PySem.SeqAt
open PySem.AutoSeq1 (wpAny_loadPart')
open PySem.MeetsSeq PySem.MeetsSeq2 PySem.MeetsSeq3
def Uv(A:Around)(s:Tb)(u v:Ta)(b:Te):Prop:=∀(prog:Tf)(w:Th)(E:Ta->Tb->Prop)(Q:Ta->Tb->Prop),Q (.bool b) s->wpAny (model prog w) A (richCompare .Lt u v) Q E s
open Classical in
inductive IL(A:Around)(s:Shared)(lt:D->D->Bool):List Value->List Value->List D->List D->Prop where
 | left {ws:List Value} {es:List D}:ws.length=es.length->IL A s lt [] ws [] es
 | right {vs:List Value} {ds:List D}:vs.length=ds.length->IL A s lt vs [] ds []
 | cons {v w:Value} {vs ws:List Value} {d e:D} {ds es:List D}:EqAt A.in1 s v w (decide (d=e))->(d≠e->Uv A.in1 s v w (lt d e))->IL A s lt vs ws ds es->IL A s lt (v::vs) (w::ws) (d::ds) (e::es)
open Classical in
inductive KL(A:Around)(s:Shared)(lt:D->D->Bool)(n m:Nat)(R:Result->Shared->Prop){α β:Type}(rest:List (Value×Value))(b:Option α×β)(s':Shared):Prop
 | mk (vs ws:List Value) (ds' es':List D) (e1:b.1=none) (e2:s'=s) (hz:rest=vs.zip ws) (hi:IL A s lt vs ws ds' es') (hlen:vs.length+m=ws.length+n) (hR:R (.ok (.ret (.bool (jq lt ds' es')))) s)
open Classical in
def rC(l b:Td)(items items2:Tc Ta)(n n2:Nat)(dd dd2:S9 Td)(sl sl2:Tc (S9 Ta))(lt:D->D->Te)(ds es:S8 D) :
  Meets (Builtin.«tuple.__lt__» ⟨[.ref l,.ref b],[]⟩)
   (λA R s=>s.heap.get? l=some { cls:=.type "tuple",dict:=dd,data:=.seq items n,slots:=sl }/\s.heap.get? b=some { cls:=.type "tuple",dict:=dd2,data:=.seq items2 n2,slots:=sl2 } /\
    IL A s lt items.toList items2.toList ds es/\R (.ok (.ret (.bool (jq lt ds es)))) s) :=
 .of_wp λprog w A R s h=>by
  obtain⟨hp,g,d,tk,os⟩:=s;obtain⟨hl,hb,hI,h⟩:=h;have f2:=AutoSeq1.sub_tuple_tuple
  wp_walk using Aq hl,Aq hb,A8 _ (KL A ⟨hp,g,d,tk,os⟩ lt items.size items2.size R) _
  case turn=>
   rintro⟨y,x⟩ rest b s' ⟨vs,ws,ds',es',hb',rfl,hz,hi,hlen,hR⟩;cases hi with
   |left _=>rw[List.zip_nil_left]at hz;cases hz
   |right _=>rw[List.zip_nil_right]at hz;cases hz
   |@cons v w' vs' ws' d' e' ds2 es2 he hlt hi'=>
    rw[Bo]at hz;injection hz with hyx hrest;injection hyx with hy hx;subst hy hx;simp only[Qc]at hlen;refine Aa (he prog w _ _ ?_);by_cases hde:d'=e'
    ·subst hde;rw[Ae rfl];rw[cz]at hR
     wp_walk
     exact⟨_,_,_,_,rfl,rfl,hrest,hi',by lia,hR⟩
    ·rw[Ad hde];rw[bG hde]at hR;have hri:=hlt hde prog w
     wp_walk using hri
     exact⟨_,rfl,by simpa using hR⟩
  case fin=>
   rintro⟨b1,b2⟩ s' ⟨vs,ws,ds',es',hb',rfl,hz,hi,hlen,hR⟩;simp only at hb';subst hb';have hv:jq lt ds' es'=decide (items.size<items2.size):=by
    cases hi with
    |left hl2=>
     cases es' with
     |nil=>
      simp only[Wf]at hlen hl2;exact(Ad (by lia)).symm
     |cons e0 e1=>
      simp only[Wf,Qc]at hlen hl2;exact(Ae (by lia)).symm
    |right hl2=>
     cases ds' with
     |nil=>
      simp only[Wf]at hlen hl2;exact(Ad (by lia)).symm
     |cons e0 e1=>
      simp only[Wf,Qc]at hlen hl2;exact(Ad (by lia)).symm
    |cons _ _ _=>
     rw[Bo]at hz;cases hz
   rw[hv]at hR
   wp_walk
   exact⟨_,rfl,by simpa[Builtin.Tuple.tupleCompareSizes]using hR⟩
  case h=>
   exact⟨items.toList,items2.toList,ds,es,rfl,rfl,rfl,hI,by rw[Yd,Yd,BG],h⟩
def Uv.tuples{A:Around}{s:Tb}{items items2:Tc Ta}(hl:s.heap.IsTuple l items)(hb:s.heap.IsTuple b items2)(hu:A.units<cLine)(hI:IL A s lt items.toList items2.toList ds es) :
  Uv A s (.ref l) (.ref b) (jq lt ds es):=λprog w E Q h=>by
 obtain⟨⟨cls,dd,data,sl⟩,ho,hc,n,hd⟩:=id hl;obtain⟨⟨cls2,dd2,data2,sl2⟩,ho2,hc2,n2,hd2⟩:=id hb;simp only at hc hd hc2 hd2;subst hc hd hc2 hd2;exact richCompare_meets_room (op:=.Lt) ⟨_,ho,rfl⟩ ⟨_,ho2,rfl⟩ PySem.F.slot_tuple_lt PySem.F.entry_tuple_lt (PySem.F.args_tuple_lt_2 _ _) (rC l b items items2 n n2 dd dd2 sl sl2 lt ds es)
  ⟨ho,ho2,hI,show Value.bool (jq lt ds es)≠Value.notImplemented/\Q (.bool (jq lt ds es)) s from⟨(λx=>nomatch x),h⟩⟩ hu
open Classical in
def JD(l b:Td)(items items2:Tc Ta)(n n2:Nat)(dd dd2:S9 Td)(sl sl2:Tc (S9 Ta))(lt:D->D->Te)(k:Nat) :
  ∀(i:Nat)(ds es:S8 D),items.size-i=k->i<=items.size->i<=items2.size->Meets (Builtin.«list.__eq__.loop» ⟨[.ref l,.ref b,rawInt i,rawInt 0],[]⟩)
   (λA R s=>s.heap.get? l=some { cls:=.type "list",dict:=dd,data:=.seq items n,slots:=sl }/\s.heap.get? b=some { cls:=.type "list",dict:=dd2,data:=.seq items2 n2,slots:=sl2 } /\
    IL A s lt (items.toList.drop i) (items2.toList.drop i) ds es/\R (.ok (.ret (.bool (jq lt ds es)))) s):=by
 induction k with
 |zero=>
  intro i ds es hk q1 q2 prog w A R s h;obtain⟨hp,g,d,tk,os⟩:=s;obtain⟨hl,hb,hI,h⟩:=h
  wp_walk using Aq hl,Aq hb
  have hi1:items[((i:Nat):Int).toNat]?=none:=by simp;lia
  rw[hi1]
  wp_walk using Aq hl,Aq hb
  show R (.ok (.ret (.bool (decide (items.size<items2.size))))) _;have e1:items.toList.drop i=[]:=by simp;lia
  rw[e1]at hI;have lz:(items2.toList.drop i).length=items2.size-i:=by rw[Xi,Yd]
  generalize items2.toList.drop i=zs at hI lz;have hv:jq lt ds es=decide (items.size<items2.size):=by
   cases hI with
   |left hl2=>
    cases es with
    |nil=>
     rw[Wf]at hl2;exact(Ad (by lia)).symm
    |cons e0 e1=>
     rw[Qc]at hl2;exact(Ae (by lia)).symm
   |right hl2=>
    cases ds with
    |nil=>
     rw[Wf]at lz;exact(Ad (by lia)).symm
    |cons e0 e1=>cases hl2
  rw[<-hv];exact h
 |succ k ih=>
  intro i ds es hk q1 q2 prog w A R s h;obtain⟨hp,g,d,tk,os⟩:=s;obtain⟨hl,hb,hI,h⟩:=h
  wp_walk using Aq hl,Aq hb
  have hlt:i<items.size:=by lia
  have hi1:items[((i:Nat):Int).toNat]?=some items[i]:=by simp[hlt]
  have d1:items.toList.drop i=items[i]::items.toList.drop (i+1):=by rw[Qm (by simpa using hlt)];rfl
  rw[d1]at hI;by_cases hlt2:i<items2.size
  ·have hi2:items2[((i:Nat):Int).toNat]?=some items2[i]:=by simp[hlt2]
   have d2:items2.toList.drop i=items2[i]::items2.toList.drop (i+1):=by rw[Qm (by simpa using hlt2)];rfl
   rw[d2]at hI;cases hI with
   |@cons _ _ _ _ d' e' ds' es' he hn hI'=>
    have hc:((i:Int)+1)=((i+1:Nat):Int):=by push_cast;rfl
    rw[hi1,hi2];refine Aa (he prog w _ _ ?_);by_cases hde:d'=e'
    ·subst hde;rw[Ae rfl];rw[cz]at h
     wp_walk
     rw[hc]
     exact⟨plainId_quiet plain_eq_loop _,Bc entry_eq_loop (by
      rw[Around.under_plainId plain_eq_loop _]
      exact ih (i+1) ds' es' (by lia) (by lia) (by lia) prog w A R _ ⟨hl,hb,hI',h⟩)⟩
    ·rw[Ad hde];rw[bG hde]at h;have hri:=hn hde prog w
     wp_walk using Aq hl,Aq hb
     rw[hi1,hi2]
     wp_walk using hri
     exact h
  ·have hi2:items2[((i:Nat):Int).toNat]?=none:=by simp;lia
   rw[hi1,hi2]
   wp_walk using Aq hl,Aq hb
   show R (.ok (.ret (.bool (decide (items.size<items2.size))))) _;have e2:items2.toList.drop i=[]:=by simp;lia
   rw[e2]at hI;cases hI with
   |right hl2=>
    cases ds with|nil=>cases hl2|cons e0 e1=>rw[Ad (by lia)];exact h
open Classical in
def mQ(l b:Td)(items items2:Tc Ta)(n n2:Nat)(dd dd2:S9 Td)(sl sl2:Tc (S9 Ta))(lt:D->D->Te)(ds es:S8 D) :
  Meets (Builtin.«list.__lt__» ⟨[.ref l,.ref b],[]⟩)
   (λA R s=>s.heap.get? l=some { cls:=.type "list",dict:=dd,data:=.seq items n,slots:=sl }/\s.heap.get? b=some { cls:=.type "list",dict:=dd2,data:=.seq items2 n2,slots:=sl2 } /\
    IL A s lt items.toList items2.toList ds es/\R (.ok (.ret (.bool (jq lt ds es)))) s):=by
 intro prog w A R s h;obtain⟨hp,g,d,tk,os⟩:=s;obtain⟨hl,hb,hI,h⟩:=h;have f3:=AutoSeq1.sub_list_list
 wp_walk using Aq hl,Aq hb
 exact⟨plainId_quiet plain_eq_loop _,Bc entry_eq_loop (by
  rw[Around.under_plainId plain_eq_loop _]
  exact JD l b items items2 n n2 dd dd2 sl sl2 lt _ 0 ds es rfl (Yi _) (Yi _) prog w A R _ ⟨hl,hb,hI,h⟩)⟩
def Uv.lists{A:Around}{s:Tb}{items items2:Tc Ta}(hl:s.heap.IsList l items)(hb:s.heap.IsList b items2)(hu:A.units<cLine)(hI:IL A s lt items.toList items2.toList ds es) :
  Uv A s (.ref l) (.ref b) (jq lt ds es):=λprog w E Q h=>by
 obtain⟨⟨cls,dd,data,sl⟩,ho,hc,n,hd⟩:=id hl;obtain⟨⟨cls2,dd2,data2,sl2⟩,ho2,hc2,n2,hd2⟩:=id hb;simp only at hc hd hc2 hd2;subst hc hd hc2 hd2;exact richCompare_meets_room (op:=.Lt) ⟨_,ho,rfl⟩ ⟨_,ho2,rfl⟩ PySem.F.slot_list_lt PySem.F.entry_list_lt (PySem.F.args_list_lt_2 _ _) (mQ l b items items2 n n2 dd dd2 sl sl2 lt ds es)
  ⟨ho,ho2,hI,show Value.bool (jq lt ds es)≠Value.notImplemented/\Q (.bool (jq lt ds es)) s from⟨(λx=>nomatch x),h⟩⟩ hu
theorem za{A:Around}:∀{vs ws:S8 Ta}{ds es:S8 D},vs.length=ds.length->ws.length=es.length->
  (∀(i:Nat) v w d e,vs[i]?=some v->ws[i]?=some w->ds[i]?=some d->es[i]?=some e->(∀b,(b=true↔d=e)->EqAt A.in1 s v w b)/\(d≠e->Uv A.in1 s v w (lt d e)))->IL A s lt vs ws ds es
 |[],_,[],_,_,h2,_=>.left h2
 |_::_,[],_::_,[],h1,_,_=>.right h1
 | v::vs,w::ws,d::ds,e::es,h1,h2,h=>by
  obtain⟨a1,a2⟩:=h 0 v w d e rfl rfl rfl rfl;exact .cons (a1 _ (by simp)) a2 (za (by simpa using h1) (by simpa using h2) λi v' w' d' e' z1 z2 z3 z4=>h (i+1) v' w' d' e' (by simpa using z1) (by simpa using z2) (by simpa using z3) (by simpa using z4))
 |[],_,_::_,_,h1,_,_=>by simp at h1
 |_::_,_,[],_,h1,_,_=>by simp at h1
 |_::_,[],_::_,_::_,_,h2,_=>by simp at h2
 |_::_,_::_,_::_,[],_,h2,_=>by simp at h2
open Classical in
def mR{A:Around}{u v:Ta}{d e:D}(h:EqAt A s u v (decide (d=e)))(b:Te)(hb:b=true↔d=e):EqAt A s u v b:=by
 have:b=decide (d=e):=by rw[Wg,hb,decide_eq_true_eq]
 rw[this];exact h
theorem RH.ltAt:∀(n:Nat){s:Tb}{d1 d2:D}{u1 u2:Ta}{A:Around},Pl n d1->Pl n d2->Cp n d1 d2->RH s.heap u1 d1->RH s.heap u2 d2->A.units+n<cLine->Uv A s u1 u2 (ltN n d1 d2):=by
 intro n;induction n with
 |zero=>intro s d1 d2 u1 u2 A p;cases p
 |succ n ih=>
  intro s d1 d2 u1 u2 A p1 p2 cp r1 r2 hu;cases r1 with
  |non=>exact cp.elim
  |int i t=>
   cases r2 with|int j t'=>exact λprog w E Q h=>HT.rcLt_int A s i t j t' prog w E Q h|_=>exact cp.elim
  |str x t=>
   cases r2 with|str y t'=>exact λprog w E Q h=>(PyProof.Rows.lt_str h:wpAny (model prog w) A (compareOp .Lt (.str x t) (.str y t')) Q E s)|_=>exact cp.elim
  |@tup a its ds t hl f=>
   cases r2 with
   |@tup b its' ds' t' hl' f'=>
    cases p1 with
    |tup p1=>
    cases p2 with
    |tup p2=>
    refine Uv.tuples t t' (by lia) (za (by simpa using hl) (by simpa using hl') λi v w d e z1 z2 z3 z4=>?_)
    have z1':its[i]?=some v:=by simpa using z1
    have z2':its'[i]?=some w:=by simpa using z2
    have m1:=p1 d (Yc z3);have m2:=p2 e (Yc z4);have hu':A.in1.units+n<cLine:=by show A.units+1+n<cLine;lia
    exact⟨mR (RH.eqAt n m1 m2 (f i v d z1' z3) (f' i w e z2' z4) hu').1,λ_=>ih m1 m2 (cp i d e z3 z4) (f i v d z1' z3) (f' i w e z2' z4) hu'⟩
   |_=>exact cp.elim
  |@lst a its ds t hl f=>
   cases r2 with
   |@lst b its' ds' t' hl' f'=>
    cases p1 with
    |lst p1=>
    cases p2 with
    |lst p2=>
    refine Uv.lists t t' (by lia) (za (by simpa using hl) (by simpa using hl') λi v w d e z1 z2 z3 z4=>?_)
    have z1':its[i]?=some v:=by simpa using z1
    have z2':its'[i]?=some w:=by simpa using z2
    have m1:=p1 d (Yc z3);have m2:=p2 e (Yc z4);have hu':A.in1.units+n<cLine:=by show A.units+1+n<cLine;lia
    exact⟨mR (RH.eqAt n m1 m2 (f i v d z1' z3) (f' i w e z2' z4) hu').1,λ_=>ih m1 m2 (cp i d e z3 z4) (f i v d z1' z3) (f' i w e z2' z4) hu'⟩
   |_=>exact cp.elim
end VF
namespace VF
open PySem L2 PyProof.Rows PySem.SeqAt
def sK(A:Around)(s:Tb)(fl:Te)(u v:Ta)(c:Te):Prop:=∀(prog:Tf)(w:Th)(E:Ta->Tb->Prop)(Q:Te->Tb->Prop),Q c s->wpAny (model prog w) A (oneLt' fl u v) Q E s
open Classical in
inductive IK(A:Around)(s:Shared)(b:Bool)(lt:D->D->Bool):Nat->List Value->List Value->List D->List D->Prop where
 | left {i:Nat} {ws:List Value} {es:List D}:ws.length=es.length->IK A s b lt i [] ws [] es
 | right {i:Nat} {vs:List Value} {ds:List D}:vs.length=ds.length->IK A s b lt i vs [] ds []
 | cons {i:Nat} {v w:Value} {vs ws:List Value} {d e:D} {ds es:List D}:EqAt A s v w (decide (d=e))->(d≠e->sK A s (b&&i == 0) v w (lt d e))->IK A s b lt (i+1) vs ws ds es->IK A s b lt i (v::vs) (w::ws) (d::ds) (e::es)
section
variable {prog:Tf}{w:Th}{A:Around}{E:Ta->Tb->Prop}{s:Tb}
def zb(h:Uv A s u v c):sK A s false u v c:=λprog w E Q q=>by
 rw[oneLt'_eq];dsimp only;rw[Ah Bool.noConfusion];exact Aa (h prog w _ _ (Av q))
theorem zc(fl:Te):sK A s fl (.int a t) (.int b u) (decide (a<b)):=λprog w E Q q=>by
 cases fl with|true=>exact oneLt_int q|false=>exact zb (λprog w E Q h=>HT.rcLt_int A s a t b u prog w E Q h) prog w E Q q
theorem zd{a b:Str}(fl:Te):sK A s fl (.str a t) (.str b u) (decide (a.cps.toList<b.cps.toList)):=λprog w E Q q=>by
 cases fl with|true=>exact oneLt_str q|false=>exact zb (λprog w E Q h=>(PyProof.Rows.lt_str h:wpAny (model prog w) A (compareOp .Lt (.str a t) (.str b u)) Q E s)) prog w E Q q
theorem JE(p1:Pl (n+1) (.lst xs))(p2:Pl (n+1) (.lst ys))(cp:Cp (n+1) (.lst xs) (.lst ys))(r1:RH s.heap u1 (.lst xs))(r2:RH s.heap u2 (.lst ys))(hu:A.units+(n+1)<cLine)(fl:Te):sK A s fl u1 u2 (jq (ltN n) xs ys):=λprog w E Q q=>by
 cases fl with
 |false=>exact zb (RH.ltAt (n+1) p1 p2 cp r1 r2 hu) prog w E Q q
 |true=>
  cases r1 with
  |@lst a its _ t hl f=>
  cases r2 with
  |@lst b its' _ t' hl' f'=>
  cases p1 with
  |lst p1=>
  cases p2 with
  |lst p2=>
  have hI:IL A s (ltN n) its its' xs ys:=za hl hl' λi v w d e z1 z2 z3 z4=>by
   have m1:=p1 d (Yc z3);have m2:=p2 e (Yc z4);have hu':A.in1.units+n<cLine:=by show A.units+1+n<cLine;lia
   exact⟨mR (RH.eqAt n m1 m2 (f i v d z1 z3) (f' i w e z2 z4) hu').1,λ_=>RH.ltAt n m1 m2 (cp i d e z3 z4) (f i v d z1 z3) (f' i w e z2 z4) hu'⟩
  rw[oneLt'_eq];simp only[if_true];refine Aa (wpAny_cRoomFor (by lia) ?_)
  obtain⟨⟨cls,dd,data,sl⟩,ho,hc,m,hd⟩:=id t;obtain⟨⟨cls2,dd2,data2,sl2⟩,ho2,hc2,m2,hd2⟩:=id t';simp only at hc hd hc2 hd2;subst hc hd hc2 hd2;refine Aa (wpAny_callSpecialIfBound?_slot (T:="list") ⟨_,ho,rfl⟩ PySem.F.slot_list_lt (Ba PySem.F.slot_list_lt ⟨_,ho,rfl⟩ PySem.F.entry_list_lt (PySem.F.args_list_lt_2 _ _) (mQ a b its.toArray its'.toArray m m2 dd dd2 sl sl2 (ltN n) xs ys) ⟨ho,ho2,by simpa using hI,?_⟩))
  exact Av q
inductive KI(A:Around)(s:Shared)(b:Bool)(lt:D->D->Bool)(n m:Nat)(Q:Bool->Shared->Prop)(rest:List ((Value×Value)×Nat))(r:Option Bool×Unit)(s':Shared):Prop
 | mk (i:Nat) (vs ws:List Value) (ds' es':List D) (e1:s'=s) (e2:r=(none,())) (hz:rest=(vs.zip ws).zipIdx i) (hi:IK A s b lt i vs ws ds' es') (hlen:vs.length+m=ws.length+n) (hR:Q (jq lt ds' es') s)
open Classical in
def JF{xs ys:Tc Ta}(hl:s.heap.IsTuple l xs)(hr:s.heap.IsTuple r ys)(hI:IK A s b lt 0 xs.toList ys.toList ds es)(q:Q (jq lt ds es) s) :
  wpAny (model prog w) A (keyLt' (tuples' b) (.ref l) (.ref r)) Q E s:=by
 obtain⟨o1,g1,_,n1,d1⟩:=hl;obtain⟨o2,g2,_,n2,d2⟩:=hr;refine Aa (Bh g1 d1 ?_);refine Aa (Bh g2 d2 ?_);refine Aa (A8 _ (KI A s b lt xs.size ys.size Q) _ ?_ ?_ _ _ ?_)
 ·rintro⟨⟨y,x⟩,j⟩ rest r s' ⟨i,vs,ws,ds',es',rfl,rfl,hz,hi,hlen,hR⟩;cases hi with
  |left _=>rw[List.zip_nil_left]at hz;cases hz
  |right _=>rw[List.zip_nil_right]at hz;cases hz
  |@cons _ v w' vs' ws' d' e' ds2 es2 he hlt hi'=>
   rw[Bo,BB]at hz;injection hz with hyx hrest;injection hyx with hy hj;injection hy with hy hx;subst hy hx hj;simp only[Qc]at hlen;dsimp only;refine Aa (he prog w _ _ ?_);by_cases hde:d'=e'
   ·subst hde;rw[Ae rfl];rw[cz]at hR;exact Ac ⟨_,_,_,_,_,rfl,rfl,hrest,hi',by lia,hR⟩
   ·rw[Ad hde];rw[bG hde]at hR;exact Aa (hlt hde prog w _ _ (Ac (Ac hR)))
 ·rintro r s' ⟨i,vs,ws,ds',es',rfl,rfl,hz,hi,hlen,hR⟩;have hv:jq lt ds' es'=decide (xs.size<ys.size):=by
   cases hi with
   |left hl2=>
    cases es' with
    |nil=>
     simp only[Wf]at hlen hl2;exact(Ad (by lia)).symm
    |cons e0 e1=>
     simp only[Wf,Qc]at hlen hl2;exact(Ae (by lia)).symm
   |right hl2=>
    cases ds' with
    |nil=>
     simp only[Wf]at hlen hl2;exact(Ad (by lia)).symm
    |cons e0 e1=>
     simp only[Wf,Qc]at hlen hl2;exact(Ad (by lia)).symm
   |cons _ _ _=>
    rw[Bo,BB]at hz;cases hz
  rw[hv]at hR;exact Ac hR
 ·exact⟨0,xs.toList,ys.toList,ds,es,rfl,rfl,rfl,hI,by rw[Yd,Yd,BG],q⟩
theorem LI:∀{i:Nat}{vs ws:S8 Ta}{ds es:S8 D},vs.length=ds.length->ws.length=es.length->
  (∀(j:Nat) v w d e,vs[j]?=some v->ws[j]?=some w->ds[j]?=some d->es[j]?=some e->(∀c,(c=true↔d=e)->EqAt A s v w c)/\(d≠e->sK A s (b&&(i+j) == 0) v w (lt d e)))->IK A s b lt i vs ws ds es
 |_,[],_,[],_,_,h2,_=>.left h2
 |_,_::_,[],_::_,[],h1,_,_=>.right h1
 | i,v::vs,w::ws,d::ds,e::es,h1,h2,h=>by
  obtain⟨a1,a2⟩:=h 0 v w d e rfl rfl rfl rfl;refine .cons (a1 _ (by simp)) a2 (LI (by simpa using h1) (by simpa using h2) λj v' w' d' e' z1 z2 z3 z4=>?_)
  have:=h (j+1) v' w' d' e' (by simpa using z1) (by simpa using z2) (by simpa using z3) (by simpa using z4)
  rwa [show i+(j+1)=i+1+j by lia]at this
 |_,[],_,_::_,_,h1,_,_=>by simp at h1
 |_,_::_,_,[],_,h1,_,_=>by simp at h1
 |_,_::_,[],_::_,_::_,_,h2,_=>by simp at h2
 |_,_::_,_::_,_::_,[],_,h2,_=>by simp at h2
def N8(d:D):Prop:=match d with|.tup (.int _::_)=>True|_=>False
def N9(d:D):Prop:=match d with|.tup (.str _::_)=>True|_=>False
theorem ze(h:N8 d):∃i r,d=.tup (.int i::r):=by
 cases d with
 |tup l=>
  cases l with
  |nil=>exact h.elim
  |cons x r=>
   cases x with|int i=>exact⟨_,_,rfl⟩|_=>exact h.elim
 |_=>exact h.elim
theorem zf(h:N9 d):∃i r,d=.tup (.str i::r):=by
 cases d with
 |tup l=>
  cases l with
  |nil=>exact h.elim
  |cons x r=>
   cases x with|str i=>exact⟨_,_,rfl⟩|_=>exact h.elim
 |_=>exact h.elim
def GH(p1:Pl (n+1) d1)(p2:Pl (n+1) d2)(cp:Cp (n+1) d1 d2)(r1:RH s.heap u1 d1)(r2:RH s.heap u2 d2)(hu:A.units+(n+1)<cLine)
  (ht:∃xs,d1=.tup xs)(hb:b=true->(N8 d1/\N8 d2)\/(N9 d1/\N9 d2))(q:Q (ltN (n+1) d1 d2) s):wpAny (model prog w) A (keyLt' (tuples' b) u1 u2) Q E s:=by
 obtain⟨xs,rfl⟩:=ht;cases r1 with
 |@tup a its ds t hl f=>
  cases r2 with
  |@tup a2 its' ds' t' hl' f'=>
   cases p1 with
   |tup p1=>
   cases p2 with
   |tup p2=>
   refine JF (lt:=ltN n) (ds:=xs) (es:=ds') t t' (LI (by simpa using hl) (by simpa using hl') λj v w' d e z1 z2 z3 z4=>?_) q
   have z1':its[j]?=some v:=by simpa using z1
   have z2':its'[j]?=some w':=by simpa using z2
   have m1:=p1 d (Yc z3);have m2:=p2 e (Yc z4);have k1:=f j v d z1' z3;have k2:=f' j w' e z2' z4;have c1:=cp j d e z3 z4;refine⟨mR (RH.eqAt n m1 m2 k1 k2 (by lia)).1,λ_=>?_⟩
   cases hfl:(b&&(0+j) == 0) with
   |false=>exact zb (RH.ltAt n m1 m2 c1 k1 k2 (by lia))
   |true=>
    rw[Qf]at hfl;have hj:j=0:=by have:=eq_of_beq hfl.2;lia
    subst hj;rcases hb hfl.1 with⟨g1,g2⟩|⟨g1,g2⟩
    ·obtain⟨i,r,e1⟩:=ze g1;obtain⟨i2,r2,e2⟩:=ze g2;cases e1;cases e2;cases z3;cases z4;cases k1;cases k2;cases n with|zero=>cases m1|succ n=>exact zc true
    ·obtain⟨i,r,e1⟩:=zf g1;obtain⟨i2,r2,e2⟩:=zf g2;cases e1;cases e2;cases z3;cases z4;cases k1;cases k2;cases n with|zero=>cases m1|succ n=>exact zd true
  |_=>exact cp.elim
end
end VF
namespace VF
open PySem L2 PyProof.Rows
section
variable {M:Model}{prog:Tf}{w:Th}{A:Around}{E:Ta->Tb->Prop}{s:Tb}
theorem zg:∀(l:S8 α),(∀v∈l,∀Q:β->Tb->Prop,Q (g v) s->wpAny M A (f v) Q E s)->∀Q:S8 β->Tb->Prop,Q (l.map g) s->wpAny M A (l.mapM f) Q E s
 |[],_,Q,q=>by rw[List.mapM_nil];exact Ac q
 | v::l,h,Q,q=>by
  rw[List.mapM_cons];exact Aa (h v Wc _ (Aa (zg l (λu hu=>h u (Wb _ hu)) _ (Ac q))))
def zh{l:S8 α}(h:∀v∈l,∀Q:β->Tb->Prop,Q (g v) s->wpAny M A (f v) Q E s)(q:Q (l.map g).toArray s):wpAny M A (l.toArray.mapM f) Q E s:=by
 rw[List.mapM_toArray,map_eq_pure_bind];exact Aa (zg l h _ (Ac q))
def DS:D->String|.int _=>"int"|.str _=>"str"|.tup _=>"tuple"|_=>"list"
theorem RH.ty(r:RH s.heap u d)(h:d≠.non):s.TypeIs u (DS d):=by
 cases r with
 |non=>exact absurd rfl h
 |int i t=>exact typeIs_int s i t
 |str x t=>exact CU s x t
 |tup t _ _=>obtain⟨o,h1,h2,_⟩:=t;exact⟨o,h1,h2⟩
 |lst t _ _=>obtain⟨o,h1,h2,_⟩:=t;exact⟨o,h1,h2⟩
def GI{us:S8 Ta}{ds:S8 D}(hne:us≠[])(hl:us.length=ds.length)(r:∀(i:Nat) u d,us[i]?=some u->ds[i]?=some d->RH s.heap u d/\d≠.non/\DS d=T)(q:Q (some (.type T)) s) :
  wpAny M A (oneTypeOnly' us.toArray) Q E s:=by
 rw[oneTypeOnly'_eq];refine Aa (zh (g:=λ_=>Value.type T) (λv hv Q q=>?_) ?_)
 ·obtain⟨i,hi,rfl⟩:=List.mem_iff_getElem.mp hv;obtain⟨r1,r2,r3⟩:=r i us[i] ds[i] (Ya hi) (Ya (by lia))
  exact AQ (r3 ▸ r1.ty r2) q
 ·cases us with
  |nil=>exact absurd rfl hne
  |cons u us=>
   have h0:(List.map (λ_=>Value.type T) (u::us)).toArray[0]?=some (Value.type T):=by simp
   rw[h0];have hall:((List.map (λ_=>Value.type T) (u::us)).toArray.all λx=>x == Value.type T)=true:=by
    simp only[List.all_toArray,List.all_map,Ql];intro _ _;exact beq_self_eq_true _
   dsimp only;rw[hall,Af rfl];exact Ac q
def GJ(r:RH s.heap u d)(h:d≠.non)(ht:DS d≠"tuple")(q:Q none s):wpAny M A (firstOfTuple' u) Q E s:=by
 refine Aa (AQ (r.ty h) ?_);rw[Af (by rw[bne_iff_ne];intro e;injection e with e;exact ht e)]
 exact Ac q
def DT{its:S8 Ta}(t:s.heap.IsTuple a its.toArray)(e:its=u::us)(q:Q (some u) s):wpAny M A (firstOfTuple' (.ref a)) Q E s:=by
 obtain⟨o,h1,h2,n,h3⟩:=t;refine Aa (AQ (T:="tuple") ⟨o,h1,h2⟩ ?_);rw[Ah (by rw[bne_iff_ne];intro z;exact z rfl)]
 refine Aa (Bh h1 h3 ?_);subst e;exact Ac q
inductive Kd:List D->SortKind->Prop where
 | sc {ds:List D} {T:String}:T≠"tuple"->(∀d∈ds,d≠.non/\DS d=T)->Kd ds oneType'
 | tp {ds:List D} {T:String} (h:∀d∈ds,∃x xs,d=.tup (x::xs)/\x≠.non/\DS x=T) (hT:T≠"list":=by decide):Kd ds (tuples' (T != "tuple"))
def QL{us:S8 Ta}{ds:S8 D}(hne:us≠[])(hl:us.length=ds.length)(r:∀(i:Nat) u d,us[i]?=some u->ds[i]?=some d->RH s.heap u d)(hk:Kd ds κ)(q:Q κ s) :
  wpAny M A (keyKind' us.toArray) Q E s:=by
 rw[keyKind'_eq];cases hk with
 |@sc T hT h=>
  refine Aa (zh (g:=λ_=>none) (λv hv Q q=>?_) ?_)
  ·obtain⟨i,hi,rfl⟩:=List.mem_iff_getElem.mp hv;have hd:=h ds[i] (Wi _);exact GJ (r i _ _ (Ya hi) (Ya (by lia))) hd.1 (by rw[hd.2];exact hT) q
  ·cases us with
   |nil=>exact absurd rfl hne
   |cons u us=>
    rw[Ah (by simp),Ah (by simp)]
    refine Aa (GI (T:=T) hne hl (λi u d e1 e2=>⟨r i u d e1 e2,h d (Yc e2)⟩) ?_);exact Ac q
 |@tp T h hT=>
  have hx:∀(i:Nat)(hi:i<us.length),∃u0 x xs,(∀Q:S9 Ta->Tb->Prop,Q (some u0) s->wpAny M A (firstOfTuple' us[i]) Q E s)/\ds[i]?=some (.tup (x::xs))/\RH s.heap u0 x/\x≠.non/\DS x=T:=λi hi=>by
   have hd:i<ds.length:=by lia
   obtain⟨x,xs,e,h1,h2⟩:=h ds[i] (Wi _);have rr:=r i us[i] ds[i] (Ya hi) (Ya hd);rw[e]at rr;generalize us[i]=v at rr;cases rr with
   |@tup a its _ t hl f=>
    cases its with|nil=>simp at hl|cons u0 ur=>exact⟨u0,x,xs,λQ q=>DT t rfl q,by rw[Ya hd,e],f 0 u0 x rfl rfl,h1,h2⟩
  have hf:∃fs:S8 Ta,fs.length=us.length/\(∀Q:Tc (S9 Ta)->Tb->Prop,Q (fs.map some).toArray s->wpAny M A (us.toArray.mapM firstOfTuple') Q E s)/\∀(i:Nat) u,fs[i]?=some u->∃x,RH s.heap u x/\x≠.non/\DS x=T:=by
   have:∀l:S8 Ta,(∀v∈l,∃u0 x,(∀Q:S9 Ta->Tb->Prop,Q (some u0) s->wpAny M A (firstOfTuple' v) Q E s)/\RH s.heap u0 x/\x≠.non/\DS x=T)->
     ∃fs:S8 Ta,fs.length=l.length/\(∀Q:S8 (S9 Ta)->Tb->Prop,Q (fs.map some) s->wpAny M A (l.mapM firstOfTuple') Q E s)/\∀(i:Nat) u,fs[i]?=some u->∃x,RH s.heap u x/\x≠.non/\DS x=T:=λl=>by
    induction l with
    |nil=>exact λ_=>⟨[],rfl,λQ q=>by rw[List.mapM_nil];exact Ac q,λi u e=>by simp at e⟩
    |cons v l ih=>
     intro hv;obtain⟨fs,f1,f2,f3⟩:=ih λu hu=>hv u (Wb _ hu);obtain⟨u0,x,g1,g2⟩:=hv v Wc;refine⟨u0::fs,by simp[f1],λQ q=>?_,λi u e=>?_⟩
     ·rw[List.mapM_cons];exact Aa (g1 _ (Aa (f2 _ (Ac q))))
     ·cases i with
      |zero=>
       have:u0=u:=by simpa using e
       subst this;exact⟨x,g2⟩
      |succ i=>exact f3 i u (by simpa using e)
   obtain⟨fs,f1,f2,f3⟩:=this us λv hv=>by
    obtain⟨i,hi,rfl⟩:=List.mem_iff_getElem.mp hv;obtain⟨u0,x,xs,a1,_,a2⟩:=hx i hi;exact⟨u0,x,a1,a2⟩
   refine⟨fs,f1,λQ q=>?_,f3⟩;rw[List.mapM_toArray,map_eq_pure_bind];exact Aa (f2 _ (Ac q))
  obtain⟨fs,f1,f2,f3⟩:=hf;refine Aa (f2 _ ?_);rw[Af (by simp)]
  refine Aa (AN ?_);have e1:(fs.map some).toArray.filterMap id=fs.toArray:=by simp
  rw[e1];have hne':fs≠[]:=λz=>by
   rw[z]at f1;exact hne (CL f1.symm)
  obtain⟨xs,hxs,hxx⟩:∃xs:S8 D,fs.length=xs.length/\∀(i:Nat) u d,fs[i]?=some u->xs[i]?=some d->RH s.heap u d/\d≠.non/\DS d=T:=by
   have:∀l:S8 Ta,(∀(i:Nat) u,l[i]?=some u->∃x,RH s.heap u x/\x≠.non/\DS x=T)->∃xs:S8 D,l.length=xs.length/\∀(i:Nat) u d,l[i]?=some u->xs[i]?=some d->RH s.heap u d/\d≠.non/\DS d=T:=λl=>by
    induction l with
    |nil=>exact λ_=>⟨[],rfl,λi u d e=>by simp at e⟩
    |cons v l ih=>
     intro hv;obtain⟨xs,x1,x2⟩:=ih λi u e=>hv (i+1) u (by simpa using e)
     obtain⟨x,hx⟩:=hv 0 v rfl;refine⟨x::xs,by simp[x1],λi u d e1 e2=>?_⟩
     cases i with
     |zero=>
      have a1:v=u:=by simpa using e1
      have a2:x=d:=by simpa using e2
      subst a1 a2;exact hx
     |succ i=>exact x2 i u d (by simpa using e1) (by simpa using e2)
   exact this fs f3
  refine Aa (GI (T:=T) hne' hxs hxx ?_);have e2:(Option.any (λx=>x != Value.type "tuple") (some (Value.type T)))=(T != "tuple"):=by
   show(Value.type T != Value.type "tuple")=_;rw[Wg,bne_iff_ne,bne_iff_ne];constructor
   ·exact λh e=>h (by rw[e])
   ·exact λh e=>h (by injection e)
  rw[e2];exact Ac q
end
open TS
section
variable {prog:Tf}{w:Th}{A:Around}{E:Ta->Tb->Prop}{s:Tb}
theorem RH.kept{h h':Tg}(k:∀b o,h.get? b=some o->h'.get? b=some o)(r:RH h u d):RH h' u d:=by
 induction r with
 |non=>exact .non
 |int i t=>exact .int i t
 |str x t=>exact .str x t
 |tup t hl _ ih=>obtain⟨o,h1,h2⟩:=t;exact .tup ⟨o,k _ o h1,h2⟩ hl ih
 |lst t hl _ ih=>obtain⟨o,h1,h2⟩:=t;exact .lst ⟨o,k _ o h1,h2⟩ hl ih
def dk(ds:S8 D)(g:Nat):D:=ds.getD g (ds.headD .non)
def qm(h:ds[g]?=some d):dk ds g=d:=by
 unfold dk;rw[Vb,h];rfl
theorem iS(h:ds≠[])(g:Nat):dk ds g∈ds:=by
 cases e:ds[g]? with
 |some d=>rw[qm e];exact Yc e
 |none=>
  cases ds with
  |nil=>exact absurd rfl h
  |cons x xs=>
   unfold dk;rw[Vb,e];simp
noncomputable def cD(ds:S8 D)(g h:Nat):Te:=ltN 40 (dk ds g) (dk ds h)
theorem GK(h:Cp n d e)(ht:DS d≠"tuple"):(∃i j,d=.int i/\e=.int j)\/(∃x y,d=.str x/\e=.str y)\/∃x y,d=.lst x/\e=.lst y:=by
 cases n with
 |zero=>exact h.elim
 |succ n=>
  cases d with
  |int i=>
   cases e with|int j=>exact .inl ⟨i,j,rfl,rfl⟩|_=>exact h.elim
  |str x=>
   cases e with|str y=>exact .inr (.inl ⟨x,y,rfl,rfl⟩)|_=>exact h.elim
  |tup xs=>exact absurd rfl ht
  |lst xs=>
   cases e with|lst ys=>exact .inr (.inr ⟨xs,ys,rfl,rfl⟩)|_=>exact h.elim
  |_=>exact h.elim
def JG{us vs:S8 Ta}{ds:S8 D}(hl:us.length=ds.length)(r:∀(i:Nat) u d,us[i]?=some u->ds[i]?=some d->RH s.heap u d)(pl:∀d∈ds,Pl 40 d)(ca:CA 40 ds)(hk:Kd ds κ)(hu:A.units+40<cLine) :
  Cm prog w A s κ (λg=>(us.getD g .none,vs.getD g .none)) us.length (cD ds):=by
 refine⟨λE Q g h hg hh q=>?_,λg=>pc _ _,λg h i h1 h2=>?_,λg h i h1=>?_⟩
 ·have eg:us[g]?=some us[g]:=Ya hg;have eh:us[h]?=some us[h]:=Ya hh;have dg:ds[g]?=some ds[g]:=Ya (by lia)
  have dh:ds[h]?=some ds[h]:=Ya (by lia)
  have q':Q (ltN 40 ds[g] ds[h]) s:=by unfold cD at q;rw[qm dg,qm dh]at q;exact q
  have rg:=r g _ _ eg dg;have rh:=r h _ _ eh dh;have mg:=Yc dg;have mh:=Yc dh;have cp:=ca _ mg _ mh;show wpAny (model prog w) A (keyLt' κ (us.getD g .none) (us.getD h .none)) Q E s;rw[Vb,Vb,eg,eh];show wpAny (model prog w) A (keyLt' κ us[g] us[h]) Q E s;generalize us[g]=ug at rg;generalize us[h]=uh at rh;generalize ds[g]=a at *;generalize ds[h]=b at *;cases hk with
  |@sc T hT hd=>
   rw[keyLt'_oneType];rcases GK cp (by rw[(hd a mg).2];exact hT) with⟨i,j,rfl,rfl⟩|⟨x,y,rfl,rfl⟩|⟨x,y,rfl,rfl⟩
   ·cases rg;cases rh;exact zc true prog w E Q q'
   ·cases rg;cases rh;exact zd true prog w E Q q'
   ·exact JE (n:=39) (pl _ mg) (pl _ mh) cp rg rh (by lia) true prog w E Q q'
  |@tp T hd hL=>
   obtain⟨x,xs,rfl,nx,tx⟩:=hd a mg;obtain⟨y,ys,rfl,ny,ty⟩:=hd b mh;refine GH (n:=39) (pl _ mg) (pl _ mh) cp rg rh (by lia) ⟨_,rfl⟩ (λhb=>?_) q'
   have hT:T≠"tuple":=by rwa [bne_iff_ne]at hb
   rcases GK (cp 0 x y rfl rfl) (by rw[tx];exact hT) with⟨i,j,rfl,rfl⟩|⟨x,y,rfl,rfl⟩|⟨x,y,rfl,rfl⟩
   ·exact .inl ⟨trivial,trivial⟩
   ·exact .inr ⟨trivial,trivial⟩
   ·exact absurd tx.symm hL
 ·by_cases hne:ds=[]
  ·subst hne;have:cD [] g h=false:=pc 40 .non;rw[this]at h1;cases h1
  ·exact(qh 40).tra (ca _ (iS hne g) _ (iS hne h)) (ca _ (iS hne h) _ (iS hne i)) (ca _ (iS hne g) _ (iS hne i)) h1 h2
 ·by_cases hne:ds=[]
  ·subst hne;have:cD [] g i=false:=pc 40 .non;rw[this]at h1;cases h1
  ·exact ca.neg (iS hne g) (iS hne h) (iS hne i) h1
def b7(vs:S8 Ta)(γ:Tc Nat):Tc Ta:=γ.map λg=>vs.getD g .none
def sL{vs : S8 Ta}{ds : S8 D}(ho : s.heap.get? a = some (seqObj "list" vs.toArray n))(hz : vs.length ≤ sizeLine)
    (hl : vs.length = ds.length)(r : ∀ (i : Nat) u d, vs[i]? = some u → ds[i]? = some d → RH (((s.heap.update a (Obj.mapSeq λ_ => #[])).push (seqObj "tuple" vs.toArray 0)).push (seqObj "list" #[] 0)) u d)
    (pl : ∀ d ∈ ds, Pl 40 d) (ca : CA 40 ds) (hk : Kd ds κ) (hu : A.units + 40 < cLine) (h64 : vs.length < 64)
    (fin : ∀ γ : Tc Nat, γ.Perm (Array.range vs.length) → Sg (cD ds) γ 0 vs.length → P (.done (.ret .none)) { s with heap := sortedHeap s.heap a vs (b7 vs γ) }) :
    wpAny (model prog w) A (Builtin.«list.sort» ⟨[.ref a], []⟩) P E s := by
  rw [list_sort_plain];have small := Ai ho;refine Aa (Bh ho rfl (Aa (B8 ho rfl ?_)));obtain ⟨ep, hE⟩ : ∃ ep, (s.heap.update a (Obj.mapSeq λ_ => #[])).get? a = some (seqObj "list" #[] ep) := ⟨_, get?_update_seq ho (λ_ => #[])⟩;refine Aa (seqEpoch_at hE rfl (Aa (wpAny_newTuple (Aa (B7 (Aw ?_))))));have hE2 : (((s.heap.update a (Obj.mapSeq λ_ => #[])).push (seqObj "tuple" vs.toArray 0)).push (seqObj "list" #[] 0)).get? a = some (seqObj "list" #[] ep) :=
    Ab _ (Ab _ hE)
  generalize hH : ((s.heap.update a (Obj.mapSeq λ_ => #[])).push (seqObj "tuple" vs.toArray 0)).push (seqObj "list" #[] 0) = h6 at r hE2;show wpAny (model prog w) A _ P E { s with heap := h6 };dsimp only;have hsz : vs.toArray.size = vs.length := by simp
  have zs : ∀ γ : Tc Nat, γ.Perm (Array.range vs.length) → (b7 vs γ).size ≤ sizeLine + 1 := λγ p => by
    unfold b7;rw [Array.size_map, p.size_eq, AR]; lia
  have done : ∀ γ : Tc Nat, γ.Perm (Array.range vs.length) → Sg (cD ds) γ 0 vs.length → P (.done (.ret .none)) { s with heap := h6.update a (Obj.mapSeq λ_ => b7 vs γ) } := λγ p g => by
    have := fin γ p g;unfold sortedHeap at this;rw [<-hH]; exact this
  have e0 : vs.toArray.zip vs.toArray = (Array.range vs.length).map λg => (vs.getD g .none, vs.getD g .none) := by
    apply Array.ext_getElem?
    intro i;rw [Array.getElem?_map, Array.getElem?_range];by_cases hi : i < vs.length
    · rw [Af hi]; simp [hi]
    · rw [Ah hi]; simp [hi]
  by_cases few : vs.toArray.size < 2
  · rw [Af few, Af few]
    refine Aa (Ac ?_);rw [StateT.run_pure];refine Aa (Ac ?_);dsimp only;have em : (vs.toArray.zip vs.toArray).map (λx => x.2) = b7 vs (Array.range vs.length) := by
      rw [e0, Array.map_map]; rfl
    refine Aa (seqEpoch_at hE2 rfl (Aa (B8 hE2 rfl ?_ (hsz2 := ?_))))
    · simp only [bne_self_eq_false, Ci, if_false]
      refine Ac ?_;rw [em];exact done _ (Array.Perm.refl _) λi j g h z1 z2 z3 => by lia
    · rw [em]; exact zs _ (Array.Perm.refl _)
  · rw [Ah few, Ah few]
    have hne : vs ≠ [] := λz => few (by rw [z]; decide)
    refine Aa (QL (s := { s with heap := h6 }) hne hl r hk ?_);have C : Cm prog w A { s with heap := h6 } κ (λg => (vs.getD g .none, vs.getD g .none)) vs.length (cD ds) := JG (s := { s with heap := h6 }) hl r pl ca hk hu
    refine Aa (Ax (JC h64 (st := SortSt.mk' κ (vs.toArray.zip vs.toArray) #[] 7 none) C (γ := Array.range vs.length) ⟨e0, rfl, rfl, Array.Perm.refl _⟩ rfl (λi _ z => by rw [Array.getElem?_range, Af z])
      (Q := λ_ Tn => ∃ γ, Rp κ (λg => (vs.getD g .none, vs.getD g .none)) vs.length Tn γ ∧ Sg (cD ds) γ 0 vs.length) λTn γ' R g => ⟨γ', R, g⟩) ?_ λ_ _ e => e)
    rintro ⟨⟨⟩, Tn⟩ s' ⟨rfl, γ, R, g⟩;dsimp only;have em : (arrOf Tn).map (λx => x.2) = b7 vs γ := by
      rw [R.arr, Array.map_map]; rfl
    refine Aa (seqEpoch_at hE2 rfl (Aa (B8 hE2 rfl ?_ (hsz2 := ?_))))
    · rw [show failedOf Tn = none from R.fine]
      simp only [bne_self_eq_false, Ci, if_false];refine Ac ?_;show P (.done (.ret .none)) { s with heap := h6.update a (Obj.mapSeq λ_ => (arrOf Tn).map (λx => x.2)) };rw [em];exact done γ R.perm g
    · show ((arrOf Tn).map (λx => x.2)).size ≤ sizeLine + 1
      rw [em]; exact zs γ R.perm
end
section
variable {prog:Tf}{w:Th}{A:Around}{E:Ta->Tb->Prop}{s:Tb}
def vX{vs:S8 Ta}(hl:s.heap.IsList l vs.toArray\/s.heap.IsTuple l vs.toArray)(hz:vs.length<=sizeLine)
  (q:Q vs { s with heap:=(s.heap.push (seqObj "list" #[] 0)).update s.heap.objs.size (Obj.mapSeq (·++vs.toArray)) }):wpAny (model prog w) A (collect (.ref l)) Q E s:=by
 rcases hl with hl|hl
 ·exact collect_list hl q hz
 obtain⟨o,ho,hc,m,hd⟩:=id hl;have kept:=Ab (seqObj "list" #[] 0) ho;have new:(s.heap.push (seqObj "list" #[] 0)).get? s.heap.objs.size=some (seqObj "list" #[] 0):=Ag _ rfl;unfold collect;refine Aa (wpAny_runValue (Bc entry_proto_collect' ?_));refine Aa (B7 (Ac ⟨Code.quiet_builtin _ (by decide +kernel),Bc entry_list_iadd' ?_⟩))
 show wpAny _ _ (Builtin.List.listExtendWith (.ref s.heap.objs.size) (.ref l) (.ref s.heap.objs.size)) _ _ { s with heap:=s.heap.push (seqObj "list" #[] 0) };unfold Builtin.List.listExtendWith;refine Aa (AQ (T:="tuple") ⟨o,kept,hc⟩ ?_);rw[Af (by rw[show(Value.type "tuple" == Value.type "tuple")=true from rfl,Bool.or_true])]
 refine Aa (Bh kept hd (Aa (Bh new rfl ?_)));rw[Ah (by simp)]
 have room:((#[]:Tc Ta)++vs.toArray).size<=sizeLine+1:=by
  rw[Array.size_append,Yb];simp;lia
 refine Aa (B8 new rfl ?_ (Yi _) room);refine Ac ?_;have at':=get?_update_seq new (λx=>x++vs.toArray);refine Aa (wpAny_load at' ?_);show wpAny _ _ (pure ((#[]:Tc Ta)++vs.toArray).toList) Q E _;have e:((#[]:Tc Ta)++vs.toArray).toList=vs:=by simp
 rw[e];exact Ac q
def vY{vs:S8 Ta}{ds:S8 D}(hl:s.heap.IsList l vs.toArray\/s.heap.IsTuple l vs.toArray)(hz:vs.length<=sizeLine)
  (hn:vs.length=ds.length)(r:∀(i:Nat) u d,vs[i]?=some u->ds[i]?=some d->RH s.heap u d)(pl:∀d∈ds,Pl 40 d)(ca:CA 40 ds)(hk:Kd ds κ)(hu:A.units+64<cLine)(h64:vs.length<64)
  (fin:∀γ:Tc Nat,γ.Perm (Array.range vs.length)->Sg (cD ds) γ 0 vs.length->Q (.ref (s.heap.objs.size+1)) { s with heap:=sortedAll s.heap vs (b7 vs γ) }) :
  wpAny (model prog w) A (call (.builtin "sorted") [.ref l]) Q E s:=by
 refine C6 kind_sorted plain_sorted entry_sorted (args_sorted1 _) ?_;refine Aa (m:=checkCount "sorted" 1 1 _) (Ac (Aa (vX hl hz (Aa (B7 ?_)))));generalize hg:(s.heap.push (seqObj "list" #[] 0)).update s.heap.objs.size (Obj.mapSeq (·++vs.toArray))=h1;have z1:h1.objs.size=s.heap.objs.size+1:=by rw[<-hg,Heap.size_update,size_push']
 have old:∀b o,s.heap.get? b=some o->h1.get? b=some o:=λb o e=>by
  rw[<-hg];exact(B3 _ _ _ _ (Vf (Ai e))).trans (Ab _ e)
 have mine:(h1.push (seqObj "list" vs.toArray 0)).get? (s.heap.objs.size+1)=some (seqObj "list" vs.toArray 0):=by rw[<-z1];exact Ag _ rfl
 show wpAny _ _ _ _ _ { s with heap:=h1.push (seqObj "list" vs.toArray 0) };rw[z1];refine Aa (Aw (An slot_list_sort ⟨_,mine,rfl⟩ entry_list_sort ?_ (args_list_sort _)));refine sL (s:={ s with heap:=h1.push (seqObj "list" vs.toArray 0) }) mine hz hn (λi u d e1 e2=>(r i u d e1 e2).kept λb o e=>?_) pl ca hk (by show A.units+1+1+40<cLine;lia) h64 λγ p g=>?_
 ·have hb:=Ai e;refine Ab _ (Ab _ ?_);have hne:b≠s.heap.objs.size+1:=Vf (A0 hb);exact(B3 _ _ _ _ hne).trans (Ab _ (old b o e))
 ·refine⟨_,rfl,Ac ⟨_,rfl,?_⟩⟩;have:=fin γ p g;unfold sortedAll at this;rw[hg]at this;exact this
end
def xA{ds:S8 D}{γ:Tc Nat}(ca:CA 40 ds)(p:γ.Perm (Array.range ds.length))(g:Sg (cD ds) γ 0 ds.length):(γ.toList.map (dk ds))=dD 40 ds:=by
 have hsz:γ.size=ds.length:=by rw[p.size_eq,AR]
 refine dQ ca ?_ ?_
 ·have p1:(γ.toList.map (dk ds)).Perm ((List.range ds.length).map (dk ds)):=by
   have:=Wm.mp p;rw[Bq]at this;exact this.map _
  have e:(List.range ds.length).map (dk ds)=ds:=by
   refine BD (by simp) λi h1 h2=>?_
   rw[List.getElem_map,List.getElem_range,qm (Ya h2)]
  rwa [e]at p1
 ·unfold LH;rw[Vg,List.pairwise_iff_getElem];intro i j hi hj hij;rw[Yd]at hi hj;have b:=g i j γ.toList[i] γ.toList[j] (Yi _) hij (by lia) (by rw[<-Zj];exact Ya _) (by rw[<-Zj];exact Ya _)
  rcases b with b|b
  ·exact pe _ _ _ b
  ·exact b.1
section
variable {X:Cx}{K:PySem.W.Frag}{Y:AS}{H:Hp}
def GL(K:PySem.W.Frag):S8 V->Hp->VK->Prop:=λxs H Q=>∃(Y:AS)(v:V)(d:D)(ds:S8 D)(κ:SortKind),xs=[v]/\BA K Y H v d/\d.seq=some ds/\(∀x∈ds,Pl 40 x)/\CA 40 ds/\Kd ds κ/\ds.length<64 /\
 ∀(p:Td)(vs:S8 V),H p=none->El K Y H vs (dD 40 ds)->Q (.ref p) (upd H p (.lst vs))
def iT(h:X.K=K)(hr:TX n X.A):TB X (.builtin "sorted") (GL K):=by
 intro Ti s σ H xs us Q I rv hh;obtain⟨Y,v,d,ds,κ,rfl,ba,hs,pl,ca,hk,h64,q⟩:=hh;obtain⟨u,rfl,ru⟩:=vals1 rv;obtain⟨a,vs,rfl,sq,el⟩:=pV ba hs;cases ru;have main:∀its:S8 Ta,Tp vs its->(s.heap.IsList a its.toArray\/s.heap.IsTuple a its.toArray)->vs.length<=sizeLine->wpAny (model X.prog X.w) X.A (call (.builtin "sorted") [.ref a]) (EP X Ti σ Q) X.xe s:=λits r t hz=>by
  have hn:its.length=ds.length:=r.length.symm.trans el.1;have rr:∀(i:Nat) u d,its[i]?=some u->ds[i]?=some d->RH s.heap u d:=λi u d e1 e2=>by
   obtain⟨v,e3,rv⟩:=fD r i u e1;exact(el.2 i v d e3 e2).rh (pl d (Yc e2)) I h rv
  have hz':its.length<=sizeLine:=by rw[<-r.length];exact hz
  refine vY t hz' hn rr pl ca hk hr.units (by lia) λγ p g=>?_
  rw[hn]at p g;obtain⟨e,he⟩:=sortedAll_at s.heap its (b7 its γ);have hγ:∀g∈γ.toList,g<ds.length:=λg hg=>by
   have:=(Wm.mp p).mem_iff.mp hg;rw[Bq]at this;exact Qb.mp this
  have eo:=xA ca p g
  let ws:S8 V:=γ.toList.map λg=>vs.getD g .non
  have vw:Tp ws (b7 its γ).toList:=by
   have e2:(b7 its γ).toList=γ.toList.map λg=>its.getD g .none:=by unfold b7;simp
   rw[e2];have:∀l:S8 Nat,(∀g∈l,g<ds.length)->Tp (l.map λg=>vs.getD g .non) (l.map λg=>its.getD g .none):=λl=>by
    induction l with
    |nil=>exact λ_=>.nil
    |cons g l ih=>
     intro hl;have hg:g<ds.length:=hl g Wc;have a1:its[g]?=some its[g]:=Ya (by lia)
     obtain⟨v,e3,rv⟩:=fD r g _ a1;refine .cons ?_ (ih λx hx=>hl x (Wb _ hx));show RelV (vs.getD g .non) (its.getD g .none);rw[Vb,Vb,e3,a1];exact rv
   exact this _ hγ
  have elw:El K Y H ws (dD 40 ds):=by
   rw[<-eo];refine⟨by simp[ws],λi v d h1 h2=>?_⟩
   rw[Xb]at h1 h2;obtain⟨g1,k1,k2⟩:=Xc.mp h1;obtain⟨g2,k3,k4⟩:=Xc.mp h2;rw[k1]at k3;cases k3;have hg:g1<ds.length:=hγ g1 (Yc k1);have d1:ds[g1]?=some ds[g1]:=Ya hg;obtain⟨v',e3,da⟩:=el.at d1;rw[qm d1]at k4;rw[Vb,e3]at k2;subst k4;have:v'=v:=k2;subst this;exact da
  have hlw:ws.length=ds.length:=by
   show(γ.toList.map _).length=_;rw[Za,Yd,p.size_eq,AR]
  refine⟨.ref (s.heap.objs.size+1),upd H (s.heap.objs.size+1) (.lst ws),I.laid (t':=s.toks) (λb o z=>sortedAll_old z) (BV _) ⟨by lia,(b7 its γ).toList,e,vw,by simpa using he⟩,rfl,q _ ws (I.hok.fresh (BV _)) elw⟩
 rcases sq with sq|sq
 ·obtain⟨its,r,t,hz⟩:=I.list (h ▸ sq);exact main its r (.inl t.isList) hz
 ·obtain⟨its,r,t,hz⟩:=I.tuple (h ▸ sq);exact main its r (.inr t) hz
open Classical in
noncomputable def d7:S8 D->S9 Rz
 | [d]=>match d.seq with|some ds=>if (∀x∈ds,Pl 40 x)/\CA 40 ds/\(∃κ,Kd ds κ)/\ds.length<64 then some (.lst (dD 40 ds),true) else none|none=>none
 |_=>none
theorem GM:TZ K (GL K) d7:=by
 intro Y H xs ds z Q lv bs e q;cases bs with
 |nil=>cases e
 |@cons v vs d ds b1 bs=>
  cases bs with
  |cons _ _=>cases e
  |nil=>
   unfold d7 at e;dsimp only at e;split at e
   ·rename_i xs hs
    obtain⟨c,e⟩:=aG e;cases e;obtain⟨c1,c2,⟨κ,c3⟩,c4⟩:=c;exact⟨Y,v,d,xs,κ,rfl,b1,hs,c1,c2,c3,c4,λp ws hp el=>q _ _ (aF hp _) (fR el hp)⟩
   ·cases e
end
end VF
namespace VF22
open PySem PySem.Spec PyProof.Rows L2 VF
def DU:D->S9 Key|.int i=>some (.inl i)|.str x=>some (.inr x)|_=>none
def mS:S8 D->S9 (S8 Key)|[]=>some []|d::r=>(DU d).bind λk=>(mS r).bind λks=>some (k::ks)
section
variable {κ:Type}[DecidableEq κ]
def br(Tj:S8 (κ×D))(k:κ):S9 D:=(Tj.find? λkv=>decide (kv.1=k)).map (·.2)
def dE(Tj:S8 (κ×D))(k:κ)(d:D):S8 (κ×D):=if (Tj.any λkv=>decide (kv.1=k))=true then Tj.map (λkv=>if kv.1=k then(kv.1,d) else kv) else Tj++[(k,d)]
def Go(R:V->D->Prop)(Tj:S8 (κ×V))(ds:S8 (κ×D)):Prop:=Tj.map (·.1)=ds.map (·.1)/\∀(i:Nat) v d,Tj[i]?=some v->ds[i]?=some d->R v.2 d.2
def Go.nil:Go R ([]:S8 (κ×V)) []:=⟨rfl,λi v d h _=>by simp at h⟩
def Go.cons(h1:p.1=q.1)(h2:R p.2 q.2)(t:Go R Tj ds):Go R (p::Tj) (q::ds):=by grind [Go]
def Go.un(h:Go R (p::Tj) (q::ds)):p.1=q.1/\R p.2 q.2/\Go R Tj ds:=by
 obtain⟨h1,h2⟩:=h;rw[Zd,Zd]at h1;injection h1 with a b;exact⟨a,h2 0 p q rfl rfl,b,λi v d x y=>h2 (i+1) v d x y⟩
theorem Go.look:∀{Tj:S8 (κ×V)}{ds:S8 (κ×D)}(k:κ),Go R Tj ds->(jv Tj k=none/\br ds k=none)\/∃v d,jv Tj k=some v/\br ds k=some d/\R v d
 |[],[],_,_=>.inl ⟨rfl,rfl⟩
 |[],_::_,_,h=>by have:=h.1;simp at this
 |_::_,[],_,h=>by have:=h.1;simp at this
 | p::ps,q::qs,k,h=>by
  obtain⟨h1,h2,h3⟩:=h.un;by_cases e:p.1=k
  ·refine .inr ⟨p.2,q.2,jw e,?_,h2⟩;simp[br,Yg,h1.symm.trans e]
  ·have e':¬ q.1=k:=λz=>e (h1.trans z);rw[jx e,show br (q::qs) k=br qs k by simp[br,Yg,e']]
   exact h3.look k
theorem Go.any{Tj:S8 (κ×V)}{ds:S8 (κ×D)}(h:Go R Tj ds)(k:κ):(Tj.any λkv=>decide (kv.1=k))=ds.any λkv=>decide (kv.1=k):=by
 have a:∀l:S8 (κ×V),(l.any λkv=>decide (kv.1=k))=(l.map (·.1)).any λx=>decide (x=k):=λl=>by rw[Cv];rfl
 rw[a,h.1,Cv];rfl
theorem Go.repl(k:κ)(r:R y d):∀{Tj:S8 (κ×V)}{ds:S8 (κ×D)},Go R Tj ds->Go R (Tj.map λkv=>if kv.1=k then(kv.1,y) else kv) (ds.map λkv=>if kv.1=k then(kv.1,d) else kv)
 |[],[],_=>Go.nil
 |[],_::_,h=>by have:=h.1;simp at this
 |_::_,[],h=>by have:=h.1;simp at this
 | p::ps,q::qs,h=>by
  obtain⟨h1,h2,h3⟩:=h.un;rw[Zd,Zd];by_cases e:p.1=k
  ·rw[Af e,Af (h1.symm.trans e)];exact Go.cons h1 r (h3.repl k r)
  ·rw[Ah e,Ah λz=>e (h1.trans z)];exact Go.cons h1 h2 (h3.repl k r)
theorem Go.snoc(k:κ)(r:R y d):∀{Tj:S8 (κ×V)}{ds:S8 (κ×D)},Go R Tj ds->Go R (Tj++[(k,y)]) (ds++[(k,d)])
 |[],[],_=>Go.cons rfl r Go.nil
 |[],_::_,h=>by have:=h.1;simp at this
 |_::_,[],h=>by have:=h.1;simp at this
 | p::ps,q::qs,h=>by
  obtain⟨h1,h2,h3⟩:=h.un;exact Go.cons h1 h2 (h3.snoc k r)
def Go.put(k:κ)(h:Go R Tj ds)(r:R y d):Go R (putK Tj k y) (dE ds k d):=by
 unfold putK dE;rw[h.any k];split
 ·exact h.repl k r
 ·exact h.snoc k r
def Go.len{Tj:S8 (κ×V)}{ds:S8 (κ×D)}(h:Go R Tj ds):Tj.length=ds.length:=by
 have:=congrArg List.length h.1;rwa [Za,Za]at this
def Go.map(h:Go R Tj ds)(f:∀v d,R v d->S v d):Go S Tj ds:=⟨h.1,λi v d a b=>f _ _ (h.2 i v d a b)⟩
end
section
variable {K:PySem.W.Frag}{Y:AS}{H:Hp}
theorem QM(h:DA K Y H v d)(e:DU d=some k):v=kV k:=by
 cases d with|int i=>cases e;cases h;rfl|str x=>cases e;cases h;rfl|_=>cases e
theorem LJ(h:BA K Y H v d)(e:DU d=some k):v=kV k:=by
 cases d with|int i=>cases e;exact h|str x=>cases e;exact h|_=>cases e
theorem uf:∀{ds:S8 D}{vs:S8 V}{ks:S8 Key},El K Y H vs ds->mS ds=some ks->vs=ks.map kV
 | [],vs,ks,h,e=>by
  cases e;obtain rfl:=h.unnil;rfl
 | d::r,vs,ks,h,e=>by
  refine bB e λk e1 e=>?_;refine bB e λks' e2 e=>?_;cases e;obtain⟨v,vr,rfl,da,el⟩:=h.uncons;rw[QM da e1,uf el e2];rfl
def vZ:S8 D->S9 (S8 (S8 Key))|[]=>some []|.tup es::r=>(mS es).bind λk=>(vZ r).bind λks=>some (k::ks)|_=>none
def gq(ds:S8 D):S9 bC:=match mS ds with|some ks=>some (.inl ks)|none=>(vZ ds).bind λks=>if ks=[] then none else some (.inr ks)
theorem GN:∀{ds:S8 D}{vs:S8 V}{ks:S8 (S8 Key)},El K Y H vs ds->vZ ds=some ks->∃bs:S8 Td,vs=bs.map V.ref/\Paired (λb k=>H b=some (.tup (List.map kV k))) bs ks/\∀b∈bs,¬ Y b/\H b≠none
 | [],vs,ks,h,e=>by
  cases e;obtain rfl:=h.unnil;exact⟨[],rfl,.nil,λb z=>(by cases z)⟩
 | d::r,vs,ks,h,e=>by
  cases d with
  |tup es=>
   refine bB e λk e1 e=>?_;refine bB e λks' e2 e=>?_;cases e;obtain⟨v,vr,rfl,da,el⟩:=h.uncons;obtain⟨bs,rfl,p,q⟩:=GN el e2;cases da with
   |@tup a us _ t l f=>
    have:=uf (⟨l,f⟩:El K Y H us es) e1;subst this;refine⟨a::bs,rfl,.cons t.1 p,λb hb=>?_⟩;rcases Zc.mp hb with rfl|hb
    ·exact⟨t.2,by rw[t.1];simp⟩
    ·exact q b hb
  |_=>cases e
def xB(t:H b=some (.tup vs))(h:El K Y H vs ds)(e:gq ds=some k):T5 H b k/\∀c,V.ref c∈vs->¬ Y c/\H c≠none:=by
 unfold gq at e;split at e
 ·next ks e1=>
  cases e;have:=uf h e1;subst this;refine⟨t,λc hc=>?_⟩;obtain⟨k,_,e⟩:=Va.mp hc;cases k<;>cases e
 ·refine bB e λks e1 e=>?_;by_cases c:ks=[]
  ·rw[Af c]at e;cases e
  ·rw[Ah c]at e;cases e;obtain⟨bs,rfl,p,q⟩:=GN h e1;refine⟨⟨c,bs,t,p⟩,λc hc=>?_⟩;obtain⟨b,hb,e⟩:=Va.mp hc;cases e;exact q c hb
def Po:D->D->S9 (S9 D)|.dt Tj,.tup ds=>(gq ds).bind λks=>some (br Tj ks)|.dk Tj,d=>(DU d).bind λk=>some (br Tj k)|_,_=>none
theorem Oa(b1:BA K Y H x d1)(b2:BA K Y H y d2)(e:Po d1 d2=some o):∃(a:Td)(r:S9 V),x=.ref a/\Ug H a y r/\((r=none/\o=none)\/∃v d,r=some v/\o=some d/\DA K Y H v d):=by
 cases d1 with
 |dt Tj=>
  cases d2 with
  |tup ds=>
   refine bB e λks e1 e=>?_;cases e;obtain⟨a,ep,kv,rfl,_,h1,h2,h3⟩:=b1;obtain⟨b,vs,rfl,t,el⟩:=b2;exact⟨a,_,rfl,Ug.t h1 (xB t.1 el e1).1,Go.look ks ⟨h2,h3⟩⟩
  |_=>cases e
 |dk Tj=>
  refine bB e λk e1 e=>?_;cases e;obtain⟨a,kv,rfl,h1,h2,h3⟩:=b1;have:=LJ b2 e1;subst this;exact⟨a,_,rfl,Ug.k h1,Go.look k ⟨h2,h3⟩⟩
 |_=>cases e
def SW:R2:=λx y H Q=>∃a v,x=.ref a/\Ug H a y (some v)/\Q v H
def gY:D->D->S9 Rz:=λd1 d2=>(Po d1 d2).bind λo=>o.bind λd=>some (d,false)
def JH:Tw K SW gY:=by
 intro Y H x y d1 d2 z Q lv b1 b2 e q;refine bB e λo e1 e=>?_;obtain⟨d,rfl,e⟩:=Wl.mp e;cases e;obtain⟨a,r,rfl,g,h|⟨v,d',rfl,h2,da⟩⟩:=Oa b1 b2 e1
 ·cases h.2
 ·cases h2;exact⟨a,v,rfl,g,q v H (Ts.refl H) da⟩
def QN(neg:Te):R2:=λy x H Q=>∃(a:Td)(o:S9 V),x=.ref a/\Ug H a y o/\Q (.bl (if neg then !o.isSome else o.isSome)) H
def uk(neg:Te):D->D->S9 Rz:=λd2 d1=>(Po d1 d2).bind λo=>some (.bl (if neg then !o.isSome else o.isSome),false)
def Oc(neg:Te):Tw K (QN neg) (uk neg):=by
 intro Y H y x d2 d1 z Q lv b2 b1 e q;refine bB e λo e1 e=>?_;cases e;obtain⟨a,r,rfl,g,h⟩:=Oa b1 b2 e1;refine⟨a,r,rfl,g,?_⟩;have:r.isSome=o.isSome:=by
  rcases h with⟨rfl,rfl⟩|⟨v,d,rfl,rfl,_⟩<;>rfl
 rw[this];exact q _ H (Ts.refl H) (.bl _)
def LK:IB:=λx k v H Q=>∃a,x=.ref a/\PM H a k v Q
def dR:D->D->D->S9 D|.dt Tj,.tup ds,v=>(gq ds).bind λks=>if Tj.length<100000 then some (.dt (dE Tj ks v)) else none|.dk Tj,d,v=>(DU d).bind λk=>if Tj.length<100000 then some (.dk (dE Tj k v)) else none|_,_,_=>none
def DV:Fz K LK dR:=by
 intro Y H p x k v dk dv x' Q hp ho bk da e q;have lim:(100000:Nat)<=sizeLine:=by rw[AO];decide
 cases x with
 |dt Tj=>
  cases dk with
  |tup ds=>
   refine bB e λks e1 e=>?_;by_cases c:Tj.length<100000
   ·rw[Af c]at e;cases e;obtain⟨ep,kv,ka,h1,h2,h3⟩:=ho;obtain⟨b,vs,rfl,t,el⟩:=bk;obtain⟨tk,tc⟩:=xB t.1 el e1;have g:Go (DA K Y H) kv Tj:=⟨h2,h3⟩;refine⟨p,rfl,.inr ⟨ep,kv,ks,b,h1,rfl,tk,by have:=g.len;lia,λn=>q _ ?_⟩⟩
    have g':=(g.put ks da).map (S:=DA K Y (upd H p (.dT (n,Dr ep.2 kv ks b) (putK kv ks v)))) λv d h=>h.upd hp;refine⟨(n,Dr ep.2 kv ks b),_,KA.go (Y:=Y) (H:=H) (λc hc=>?_) (λc o e n=>by rw[aO λz=>n (by rw[z];exact hp)];exact e) (λc z=>.inl z),aS,g'.1,g'.2⟩
    unfold Dr at hc;split at hc
    ·exact ka c hc
    ·rcases Qe.mp hc with hc|hc
     ·exact ka c hc
     ·rw[Zf.mp hc];refine⟨⟨t.2,by rw[t.1];simp⟩,λxs e2 c2 hc2=>?_⟩
      rw[t.1]at e2;cases e2;exact tc c2 hc2
   ·rw[Ah c]at e;cases e
  |_=>cases e
 |dk Tj=>
  refine bB e λkk e1 e=>?_;by_cases c:Tj.length<100000
  ·rw[Af c]at e;cases e;obtain⟨kv,h1,h2,h3⟩:=ho;have:=LJ bk e1;subst this;have g:Go (DA K Y H) kv Tj:=⟨h2,h3⟩;refine⟨p,rfl,.inl ⟨kv,kk,h1,rfl,by have:=g.len;lia,q _ ?_⟩⟩
   have g':=(g.put kk da).map (S:=DA K Y (upd H p (.dK (putK kv kk v)))) λv d h=>h.upd hp;exact⟨_,aS,g'.1,g'.2⟩
  ·rw[Ah c]at e;cases e
 |_=>cases e
def jJ(d:D):FE:=λst=>some (.f d,st)
def GO:dC K EW (jJ (.dt [])):=by
 intro st σ H O Z Q E r Tn h q;cases h;intro p hp;have hres:UC K (U O Z) H (upd H p (.dT (0,[]) [])) (.ref p) (.dt [],true):=⟨p,rfl,hp,(0,[]),[],(λ_ z=>nomatch z),aS,rfl,λi v d a _=>by simp at a⟩
 obtain⟨E3,rv⟩:=hres.rv E (aF hp _);exact q _ _ O (Ts.ext (aF hp _)) (Kp.refl _) E3 rv λp' e=>by cases e;exact hp
def GP:dC K EV (jJ (.dk [])):=by
 intro st σ H O Z Q E r Tn h q;cases h;intro p hp;have hres:UC K (U O Z) H (upd H p (.dK [])) (.ref p) (.dk [],true):=⟨p,rfl,hp,[],aS,rfl,λi v d a _=>by simp at a⟩
 obtain⟨E3,rv⟩:=hres.rv E (aF hp _);exact q _ _ O (Ts.ext (aF hp _)) (Kp.refl _) E3 rv λp' e=>by cases e;exact hp
end
section
variable {X:Cx}
def gr(hu:X.A.units+2<cLine)(ho:PE X o td)(hi:PE X i ty)(hs:IH i):PE X (.Subscript o i pos) (Pb SW td ty):=II hu ho hi hs
def kx(hu:X.A.units+2<cLine):T4 X (compareOp .NotIn) (QN true):=by
 intro Ti s σ H y x v u Q I ry rx h;obtain⟨a,o,rfl,g,q⟩:=h;cases rx;exact IG hu I g ry λs' I'=>⟨.bl (!o.isSome),H,I',rfl,q⟩
def cr(hu:X.A.units+2<cLine):Ml X LK:=by
 intro Ti s σ H o i v ov iv u Q I ro ri rv h;obtain⟨a,rfl,g⟩:=h;cases ro;exact Dt hu I g ri rv λs' H' I' q=>⟨H',I',q⟩
end
section
variable {prog:Tf}{w:Th}{A:Around}{E:Ta->Tb->Prop}{s:Tb}
def Uk(h:Tg)(d:Td)(es:Tc DictEntry)(ep:Nat):Prop:=∃o,h.get? d=some o/\o.ExactDict/\o.data=.dict es ep
def Uk.at{h h':Tg}(x:Uk h d es ep)(e:∀o,h.get? d=some o->h'.get? d=some o):Uk h' d es ep:=let ⟨o,ho,r⟩:=x;⟨o,e _ ho,r⟩
def Uk.typeIs(x:Uk s.heap d es ep):s.TypeIs (.ref d) "dict":=let ⟨o,ho,c,_⟩:=x;⟨o,ho,c.1⟩
def v0{es:Tc DictEntry}(hd:(d == sysModules)=false)(hm:Uk s.heap d es ep)
  (q:Q (.ref s.heap.objs.size) { s with heap:=s.heap.push { cls:=.type "dict_keyiterator",data:=.fields #[.ref d,.int 0 0,.int es.size 0,.int ep 0] } }) :
  wpAny (model prog w) A (pyIter (.ref d)) Q E s:=by
 have ty:=hm.typeIs;obtain⟨o,ho,hc,dat⟩:=hm;refine wpAny_pyIter_slot ty F.slot_dict_iter (An F.slot_dict_iter ty F.entry_dict_iter ?_ (F.args_dict_iter_1 _));unfold Builtin.«dict.__iter__»;refine Aa ?_;unfold Builtin.Dict.dictSlotNone;refine Aa (wpAny_notOrdered_dict ty ?_);show wpAny _ _ (pure (Value.ref d)) _ _ s;refine Ac ?_;show wpAny _ _ (Builtin.Dict.showsAll d >>= _) _ _ s;unfold Builtin.Dict.showsAll;rw[Ah (by rw[hd];exact Xd)]
 refine Aa (Ac (Aa (Ck ho dat (Aa (CM ho dat ?_)))));refine Aa (Am (Ac ⟨_,rfl,"dict_keyiterator",_,⟨_,Ag _ rfl,rfl⟩,F.slot_dict_keyiterator_next.lookup,?_⟩));simpa[rawInt]using q
def v5{es:Tc DictEntry}{x:DictEntry}(hit:s.heap.IsKeyIter it d i es.size ep)(hm:Uk s.heap d es ep)(hx:es[i]?=some x)
  (q:∀h',h'.IsKeyIter it d (i+1) es.size ep->Heap.SameBut it s.heap h'->Q (some x.key) { s with heap:=h' }):wpAny (model prog w) A (pyNext (.ref it)) Q E s:=by
 obtain⟨o,ho,hc,hd⟩:=id hit;obtain⟨od,hod,hcd,hdd⟩:=hm;unfold pyNext;refine Aa (AA (Ao (name:=Str.ofString "__next__") hit.typeIs F.slot_dict_keyiterator_next (An F.slot_dict_keyiterator_next hit.typeIs F.entry_dict_keyiterator_next ?_ (F.args_dict_keyiterator_next_1 _))));refine Aa (Ac (Aa (Aa ?_)));refine Aa (AE hit.typeIs (Ac (Aa (wpAny_fieldsOf ho hd ?_))));have own:Builtin.Dict_items.ownsTuple "dict_keyiterator"=false:=by decide
 simp only[own,Xe,if_false];show wpAny _ _ (if (Value.ref d == Value.none)=true then _ else _) _ _ s;rw[Ah (show ¬ ((Value.ref d == Value.none)=true) from Xd)];refine Aa (Ac (Aa (Ck hod hdd ?_)));rw[Ah (by simp)];refine Aa (Ac (Aa (CM hod hdd ?_)))
 rw[Ah (by simp)];refine Ac ?_
 have hlt:i<es.size:=(Xm.mp hx).1;have ex:es[i]=x:=(Xm.mp hx).2;simp only[show ¬ ((i:Int)<0) from by lia,if_false,Zl,hx]
 refine Aa (Aa (AE hit.typeIs (Ac (Aa (wpAny_isOneOf_keyiter hit.typeIs ?_)))));show wpAny _ _ (setField (.ref it) 1 (rawInt ((i:Int)+1)) >>= _) _ _ s;refine Aa (AM ho hd (by simp) ?_)
 have hit':(s.heap.update it (Obj.mapFields (·.setIfInBounds 1 (rawInt ((i:Int)+1))))).IsKeyIter it d (i+1) es.size ep:=⟨_,AK _ ho (A7 (Ay hd _)),(Cq ..).trans hc,by rw[Ay hd];simp[rawInt]⟩
 refine Aa (Aw (Aa (wpAny_isOneOf_keyiter (s:={ s with heap:=s.heap.update it (Obj.mapFields (·.setIfInBounds 1 (rawInt ((i:Int)+1)))) }) hit'.typeIs ?_)));show wpAny _ _ (pure x.key) _ _ _;exact Ac (Ac ⟨_,rfl,Ac (q _ hit' (AT ..))⟩)
def zi{es:Tc DictEntry}(hh:A.handled=none)(hit:s.heap.IsKeyIter it d i es.size ep)(hm:Uk s.heap d es ep)(hx:es.size<=i)
  (q:∀h',Heap.ExtBut it s.heap h'->Q none { s with heap:=h' }):wpAny (model prog w) A (pyNext (.ref it)) Q E s:=by
 obtain⟨o,ho,hc,hd⟩:=id hit;obtain⟨od,hod,hcd,hdd⟩:=hm;unfold pyNext;refine Aa (AA (Ao (name:=Str.ofString "__next__") hit.typeIs F.slot_dict_keyiterator_next (An F.slot_dict_keyiterator_next hit.typeIs F.entry_dict_keyiterator_next ?_ (F.args_dict_keyiterator_next_1 _))));refine Aa (Ac (Aa (Aa ?_)));refine Aa (AE hit.typeIs (Ac (Aa (wpAny_fieldsOf ho hd ?_))));have own:Builtin.Dict_items.ownsTuple "dict_keyiterator"=false:=by decide
 simp only[own,Xe,if_false];show wpAny _ _ (if (Value.ref d == Value.none)=true then _ else _) _ _ s;rw[Ah (show ¬ ((Value.ref d == Value.none)=true) from Xd)];refine Aa (Ac (Aa (Ck hod hdd ?_)));rw[Ah (by simp)];refine Aa (Ac (Aa (CM hod hdd ?_)))
 rw[Ah (by simp)];refine Ac ?_
 simp only[show ¬ ((i:Int)<0) from by lia,if_false,Zl,Array.getElem?_eq_none hx]
 refine Aa (Aa (AE hit.typeIs (Ac ?_)));show wpAny _ _ (setField (.ref it) 0 .none >>= _) _ _ s;refine Aa (AM ho hd (by simp) ?_)
 show wpAny _ _ (newExc (.type "StopIteration") [] >>= _) _ _ _;refine Aa ?_;simp only[newExc,newTuple];refine Aa (Am ?_ (by size_fits))
 refine Aa (m:=firstArgMember _ _) (AF (a:=Value.none) (by first|rfl|(simp only[firstArgMember];rfl)) (Am ?_ (by size_fits)))
 simp only[raiseNew];refine Aa (wpAny_handled ?_);rw[show A.in1.handled=none from hh];refine Aa (Ac (wpAny_throw ?_));refine Aa (AC (T:="StopIteration") (b:=true) ⟨_,Ag _ rfl,rfl⟩ BU (Ac (q _ ?_)));exact((AT ..).extBut.push _).push _
def DW(hh:A.handled=none)(I d:Td)(hne:d≠I)(es:Tc DictEntry)(ep:Nat) :
  Walks prog w A I [I,d] [I] es.size (λi v=>(es[i]?).map (·.key)=some v) (λi h=>h.IsKeyIter I d i es.size ep/\Uk h d es ep) where
 sub:=λb hb=>by simp at hb;simp[hb]
 frame:=λ_ _ _ st hk=>⟨st.1.at λo e=>hk I (by simp) o e,st.2.at λo e=>hk d (by simp) o e⟩
 item:=λi s Q E hi st hQ=>by
  have hx:es[i]?=some es[i]:=Vk hi;refine v5 st.1 st.2 hx λh' hit' hs'=>hQ _ h' s.toks (by rw[hx];rfl) ⟨hit',st.2.at λo e=>hs'.extBut d o hne e⟩ λb o hb e=>hs'.extBut b o (λz=>hb (by simp[z])) e
 done:=λs Q E st hQ=>zi hh st.1 st.2 (Xa _) λh' he'=>hQ h' s.toks λb o hb e=>he' b o (λz=>hb (by simp[z])) e
 self:=λ_ _ _ _ st hQ=>wpAny_pyIter_keyiter st.1 hQ
end
def SX(a:Td)(ep:Nat×S8 Td)(Tj:S8 (bC×V)):It :=
 ⟨λi H=>H a=some (.dT ep Tj)/\i<Tj.length,λi H x H'=>H'=H/\∃k v b,Tj[i]?=some (k,v)/\x=.ref b/\ep.2[i]?=some b/\T5 H b k,λi H=>H a=some (.dT ep Tj)/\Tj.length<=i⟩
section
variable {P:Tf}{w:Th}{H:Hp}{h:Tg}{a:Td}{ep:Nat×S8 Td}{Tj:S8 (bC×V)}
def ul(ok:Ud P w H h)(e:H a=some (.dT ep Tj)):Tj.length<=sizeLine/\(a == sysModules)=false/\∃(xs:S8 (bC×Td×Ta))(es:Tc DictEntry),KT H Tj xs/\xs.map (·.2.1)=ep.2/\es.toList=xs.map (entryOfKey (jr P w))/\Uk h a es ep.1/\es.size=Tj.length:=by
 obtain⟨z,y,xs,r,ra,o,es,h1,h2,h3,h4,h5⟩:=(show Tt P w H h a (.dT ep Tj) from ok a _ e);refine⟨z,y,xs,es,r,ra,h4,⟨o,h1,h2,h3⟩,?_⟩;have:=congrArg List.length h4;rw[Za,Yd]at this;rw[this,<-Paired.length r]
def GQ{xs:S8 (bC×Td×Ta)}{es:Tc DictEntry}(r:KT H Tj xs)(ra:xs.map (·.2.1)=ep.2)(he:es.toList=xs.map (entryOfKey (jr P w))){i:Nat}{x:DictEntry}(hx:es[i]?=some x) :
  ∃k v b,Tj[i]?=some (k,v)/\ep.2[i]?=some b/\x.key=.ref b/\T5 H b k:=by
 rw[<-Zj,he,Xb]at hx;obtain⟨q,e1,e2⟩:=Xc.mp hx;have hb:ep.2[i]?=some q.2.1:=by rw[<-ra,Xb,e1];rfl
 have hl:=Paired.length r;have hi:i<Tj.length:=by rw[hl];exact(Wd.mp e1).1
 have go:∀{l:S8 (bC×V)}{m:S8 (bC×Td×Ta)},KT H l m->∀{j:Nat}{p:bC×V}{q:bC×Td×Ta},l[j]?=some p->m[j]?=some q->T5 H q.2.1 p.1:=λ{l m} t=>by
  induction t with
  |nil=>intro j p q h1;simp at h1
  |cons hq t ih=>
   intro j p q h1 h2;cases j with
   |zero=>
    cases h1;cases h2;exact hq.2.1
   |succ j=>exact ih (by simpa using h1) (by simpa using h2)
 have ek:Tj[i]?=some (Tj[i].1,Tj[i].2):=Ya hi;refine⟨Tj[i].1,Tj[i].2,q.2.1,ek,hb,by rw[<-e2];rfl,go r ek e1⟩
end
section
variable {X:Cx}{K:PySem.W.Frag}{O O' Z:AS}{H H':Hp}{tg:Expr}
def DX(a it:Td)(ep:Nat×S8 Td)(Tj:S8 (bC×V)):Turn P w K tg (SX a ep Tj) [it] it (λi h=>h.IsKeyIter it a i Tj.length ep.1) where
 mem:=by simp
 obj:=λi h st b hb=>by
  have e:b=it:=by simpa using hb
  subst e;obtain⟨o,e,c,d⟩:=st;exact⟨o,e,λv z=>by rw[d]at z;cases z⟩
 keep:=λi h h' st k=>st.at λo e=>k it (by simp) o e
 item:=by
  intro X hP hw hK hc i Ti s σ H E I hf st hg;subst hP hw hK;obtain⟨ha,hi⟩:=hg;obtain⟨_,_,xs,es,r,ra,he,rw',hz⟩:=ul I.hok ha;obtain⟨f0,f1,f2,f3,f4,f5⟩:=hf it (by simp)
  have hx:es[i]?=some (es[i]'(by lia)):=Vk (by lia)
  obtain⟨k,v,b,g1,g2,g3,g4⟩:=GQ r ra he hx;refine v5 (by rw[hz];exact st) rw' hx λh' Tn sb=>?_
  rw[hz]at Tn;have I1:L2.Inv X Ti σ H { s with heap:=h' }:=I.turned (t':=s.toks) (λb o hb e=>(sb.2 b hb).trans e) f0 f1 f3 f4 f5;obtain⟨o,e,c,d⟩:=id Tn;exact⟨_,rfl,pK (s:={ s with heap:=h' }) e c d (by decide) ⟨.ref b,H,I1,g3,⟨rfl,k,v,b,g1,rfl,g2,g4⟩,Tn,λb hb=>(hf b hb).1⟩⟩
 done:=by
  intro X hP hw hK hc i Ti s σ H E I hf st hg;subst hP hw hK;obtain⟨ha,hi⟩:=hg;obtain⟨_,_,xs,es,r,ra,he,rw',hz⟩:=ul I.hok ha;obtain⟨f0,f1,f2,f3,f4,f5⟩:=hf it (by simp)
  exact zi (I.ok.hd hc) (by rw[hz];exact st) rw' (by lia) λh' eb=>⟨rfl,I.turned (t':=s.toks) (λb o hb e=>eb b o hb e) f0 f1 f3 f4 f5⟩
 self:=λ_ _ _ _ _ st h=>wpAny_pyIter_keyiter st h
def QO(tl:TE):TI:=λσ H R=>tl σ H λx H1=>∃a ep Tj,x=.ref a/\H1 a=some (.dT ep Tj)/\R (SX a ep Tj) H1
def JI(hl:PE X l tl):PI X tg l (QO tl):=by
 intro Ti s σ H R I h;refine cb (hl Ti s σ H _ I h) λv s1 zz9=>?_;obtain⟨x,H1,I1,r1,q1⟩:=zz9;obtain⟨a,ep,Tj,rfl,ha,q⟩:=q1;cases r1;obtain⟨_,hd,xs,es,r,ra,he,rw',hz⟩:=ul I1.hok ha;refine v0 hd rw' ?_;rw[hz];refine⟨s1.heap.objs.size,[s1.heap.objs.size],_,_,H1,rfl,I1.kept (t':=s1.toks) λb o e=>Ab _ e,DX a _ ep Tj,⟨_,Ag _ rfl,rfl,rfl⟩,λb hb=>?_,q⟩;have e:b=s1.heap.objs.size:=by simpa using hb
 subst e;exact I1.fpOk (Xa _) (I1.hok.fresh (Xa _))
def di:Key->D|.inl i=>.int i|.inr x=>.str x
theorem xC(k:Key):DA K Y H (kV k) (di k):=by
 cases k with|inl i=>exact .int i|inr x=>exact .str x
theorem um:∀ks:S8 Key,El K Y H (ks.map kV) (ks.map di)|[]=>El.nil|k::r=>El.cons (xC k) (um r)
def iU:bC->D|.inl ks=>.tup (ks.map di)|.inr kss=>.tup (kss.map λks=>.tup (ks.map di))
def sM{k:S8 Key}(h:H b=some (.tup (k.map kV)))(n:¬ Y b):DA K Y H (.ref b) (.tup (k.map di)):=.tup ⟨h,n⟩ (um (K:=K) (H:=H) (Y:=Y) k).1 (um k).2
theorem qo(h:T5 H b k)(n:¬ Y b)(m:∀xs,H b=some (.tup xs)->∀c,V.ref c∈xs->¬ Y c):DA K Y H (.ref b) (iU k):=by
 cases k with
 |inl k=>exact sM h n
 |inr k=>
  obtain⟨hk,bs,e,r⟩:=h;have mm:=m _ e;clear hk;have el:El K Y H (bs.map V.ref) (k.map λks=>.tup (ks.map di)):=by
   clear e m;induction r with|nil=>exact El.nil|cons z _ ih=>exact El.cons (sM z (mm _ (Wc ..))) (ih λc hc=>mm c (Wb _ hc))
  exact .tup ⟨e,n⟩ el.1 el.2
def mT:D->S9 (S8 D)|.dt Tj=>some (Tj.map λkv=>iU kv.1)|_=>none
def RT(fe:FE):FI:=λst=>(fe st).bind λx=>(esc x.1 x.2).bind λy=>(mT y.1).bind λds=>some (ds,y.2)
theorem zj(h:dC K te fe):UD K (QO te) (RT fe):=by
 intro st σ H O Z R E items Tn e q;refine cx e λr Tr e1 e=>?_;refine cx e λd TR e2 e=>?_;refine bB e λds e3 e=>?_;cases e;refine h st σ H O Z _ E r Tr e1 λv H1 O1 x1 k1 E1 rv w1=>?_;obtain⟨O2,x2,k2,E2,da⟩:=rv.esc E1 e2;cases d with
 |dt ds'=>
  cases e3;cases da with
  |@dt a ep Tj _ h0 ka h1 h2 h3=>
   have hl:Tj.length=ds'.length:=by have:=congrArg List.length h2;rwa [Za,Za]at this
   refine⟨a,ep,Tj,rfl,h1,q _ H1 O2 (x1.trans x2) (k1.trans k2) E2 λH' O' ex _=>?_⟩;have g1:H' a=some (.dT ep Tj):=ex.kp a _ h1 λz=>h0 (.inl z);refine⟨λi hi=>⟨g1,by rw[Za]at hi;lia⟩,λi d hd=>?_⟩
   rw[Xb]at hd;obtain⟨kd,f1,f2⟩:=Xc.mp hd;have hi:i<Tj.length:=by rw[hl];exact(Wd.mp f1).1
   refine⟨⟨g1,hi⟩,λx H'' hx=>?_⟩;obtain⟨rfl,k,v,b,f3,rfl,f5,f4⟩:=hx;have ek:k=kd.1:=by
    have:=congrArg (λl=>l[i]?) h2;simp only[Xb,f1,f3,Option.map_some]at this;exact Option.some.inj this
   subst ek f2;obtain⟨⟨n1,n2⟩,n3⟩:=ka b (Yc f5);have off:∀b,¬ U O2 Z b->H1 b≠none->¬ U O' Z b:=λb n1 n2 z=>by
    rcases z with z|z
    ·rcases ex.nw b z with y|y
     ·exact n1 (.inl y)
     ·exact n2 y
    ·exact n1 (.inr z)
   refine⟨Ts.refl _,qo f4 (off b n1 n2) λxs e c hc=>?_⟩;have e':H1 b=some (.tup xs):=by
    cases eb:H1 b with
    |none=>exact absurd eb n2
    |some o=>
     have:=ex.kp b o eb λz=>n1 (.inl z);rw[this]at e;exact e
   obtain⟨g1,g2⟩:=n3 xs e' c hc;exact off c g1 g2
 |_=>cases e3
end
open TS
section
variable {prog:Tf}{w:Th}{A:Around}{E:Ta->Tb->Prop}{s:Tb}
def Uk.lt{h:Tg}(x:Uk h d es ep):d<h.objs.size:=let ⟨_,ho,_⟩:=x;Ai ho
def JJ{es:Tc DictEntry}(lo:(d == sysModules)=false):PySem.W.KdlSrc prog w "dict" d d es.size (λi v=>(es[i]?).map (·.key)=some v) (λh=>Uk h d es ep) where
 type:=λ_ m=>m.typeIs
 there:=λ_ m=>⟨m.lt,m.lt⟩
 keep:=λ_ _ m k=>m.at λo e=>k d (.inl rfl) o e
 notList:=by decide
 notTuple:=by decide
 hint:=λ_ _ _ _ m q=>PySem.W.kdl_hint_dict m.typeIs q
 iter:=λ_ _ hh m=>⟨_,_,(λ_ _ q=>v0 lo m q),DW hh _ d (Vf m.lt) es ep,⟨⟨_,Ag _ rfl,rfl,rfl⟩,m.at λo e=>Ab _ e⟩⟩
def oz{es:Tc DictEntry}(hh:A.handled=none)(lo:(d == sysModules)=false)(hm:Uk s.heap d es ep)(hz:es.size<=sizeLine)
  (q:∀h' tk,(∀b o,s.heap.get? b=some o->h'.get? b=some o)->Q (es.toList.map (·.key)) { s with heap:=h',toks:=tk }):wpAny (model prog w) A (collect (.ref d)) Q E s:=by
 refine PySem.W.kdu_collect (JJ lo) hh hm hz λh' tk acc' kp hi=>?_;have e:acc'.toList=es.toList.map (·.key):=by
  refine BD (by rw[Yd,hi.1,Za,Yd]) λi h1 h2=>?_
  have a:(es[i]?).map (·.key)=some acc'[i]:=hi.2 i acc'[i] (Vk (by simpa using h1))
  rw[Vk (by rw[Za,Yd]at h2;exact h2)]at a
  have a':=Option.some.inj a;rw[Array.getElem_toList,List.getElem_map,Array.getElem_toList];exact a'.symm
 rw[e];exact q h' tk kp
def sN{vs:S8 Ta}{ds:S8 D}(hh:A.handled=none)
  (coll:∀(A:Around)(E:Ta->Tb->Prop)(Q:S8 Ta->Tb->Prop),A.handled=none->(∀h' tk,(∀b o,s.heap.get? b=some o->h'.get? b=some o)->Q vs { s with heap:=h',toks:=tk })->wpAny (model prog w) A (collect x) Q E s)(hz:vs.length<=sizeLine)
  (hn:vs.length=ds.length) (r:∀(i:Nat) u d,vs[i]?=some u->ds[i]?=some d->RH s.heap u d) (pl:∀d∈ds,Pl 40 d) (ca:CA 40 ds) (hk:Kd ds κ) (hu:A.units+64<cLine) (h64:vs.length<64)
  (fin:∀(γ:Tc Nat)(h':Tg)(a:Td)(n tk:Nat),γ.Perm (Array.range vs.length)->Sg (cD ds) γ 0 vs.length->(∀b o,s.heap.get? b=some o->h'.get? b=some o)->(∀b o,s.heap.get? b=some o->b≠a)->h'.get? a=some (seqObj "list" (b7 vs γ) n)->Q (.ref a) { s with heap:=h',toks:=tk }) :
  wpAny (model prog w) A (call (.builtin "sorted") [x]) Q E s:=by
 refine C6 kind_sorted plain_sorted entry_sorted (args_sorted1 _) ?_;refine Aa (m:=checkCount "sorted" 1 1 _) (Ac (Aa (coll _ _ _ hh λh1 tk kp=>Aa (B7 ?_))));have mine:(h1.push (seqObj "list" vs.toArray 0)).get? h1.objs.size=some (seqObj "list" vs.toArray 0):=Ag _ rfl;show wpAny _ _ _ _ _ { s with heap:=h1.push (seqObj "list" vs.toArray 0),toks:=tk };refine Aa (Aw (An slot_list_sort ⟨_,mine,rfl⟩ entry_list_sort ?_ (args_list_sort _)));have old2:∀b o,s.heap.get? b=some o->b≠h1.objs.size:=λb o e=>Vf (Ai (kp b o e));refine sL (s:={ s with heap:=h1.push (seqObj "list" vs.toArray 0),toks:=tk }) mine hz hn (λi u d e1 e2=>(r i u d e1 e2).kept λb o e=>?_) pl ca hk (by show A.units+1+1+40<cLine;lia) h64 λγ p g=>?_
 ·exact Ab _ (Ab _ ((B3 _ _ _ _ (old2 b o e)).trans (Ab _ (kp b o e))))
 ·obtain⟨n,hn'⟩:=sortedHeap_at (n:=0) (vs:=vs) (out:=b7 vs γ) mine;refine⟨_,rfl,Ac ⟨_,rfl,fin γ _ _ n tk p g (λb o e=>?_) old2 hn'⟩⟩;have hb:b<(h1.push (seqObj "list" vs.toArray 0)).objs.size:=by rw[size_push'];exact A0 (Ai (kp b o e))
  rw[sortedHeap_old (old2 b o e) hb];exact Ab _ (kp b o e)
end
section
variable {X:Cx}{K:PySem.W.Frag}{Y:AS}{H:Hp}
def GR:S8 V->Hp->VK->Prop:=λxs H Q=>∃(a:Td)(ep:Nat×S8 Td)(Tj:S8 (bC×V))(κ:SortKind),xs=[.ref a]/\H a=some (.dT ep Tj)/\(∀x∈Tj.map (λkv=>iU kv.1),Pl 40 x)/\CA 40 (Tj.map λkv=>iU kv.1)/\Kd (Tj.map λkv=>iU kv.1) κ/\(Tj.map λkv=>iU kv.1).length<64 /\
 ∀(p:Td)(bs:S8 Td),H p=none->(∀b∈bs,b∈ep.2)->(∃ks:S8 bC,ks.map (λk=>iU k)=dD 40 (Tj.map λkv=>iU kv.1)/\bs.length=ks.length/\∀(i:Nat) b k,bs[i]?=some b->ks[i]?=some k->T5 H b k)->Q (.ref p) (upd H p (.lst (bs.map V.ref)))
def qp(h:X.K=K)(hc:X.calm=true)(hr:TX n X.A):TB X (.builtin "sorted") GR:=by
 intro Ti s σ H xs us Q I rv hh;obtain⟨a,ep,Tj,κ,rfl,ha,pl,ca,hk,h64,q⟩:=hh;obtain⟨u,rfl,ru⟩:=vals1 rv;cases ru;obtain⟨hz,lo,xs,es,rk,ra,he,rw',esz⟩:=ul I.hok ha;have key:∀(i:Nat)(x:DictEntry),es[i]?=some x->∃k v b,Tj[i]?=some (k,v)/\ep.2[i]?=some b/\x.key=.ref b/\T5 H b k:=λi x hx=>GQ rk ra he hx;have ln:(es.toList.map (·.key)).length=(Tj.map λkv=>iU kv.1).length:=by rw[Za,Za,Yd,esz]
 have at_:∀(i:Nat) u,(es.toList.map (·.key))[i]?=some u->∃k v b,Tj[i]?=some (k,v)/\ep.2[i]?=some b/\u=.ref b/\T5 H b k:=λi u e=>by
  rw[Xb]at e;obtain⟨x,e1,e2⟩:=Xc.mp e;obtain⟨k,v,b,g1,g2,g3,g4⟩:=key i x (by rw[<-Zj];exact e1)
  exact⟨k,v,b,g1,g2,by rw[<-e2];exact g3,g4⟩
 refine bJ (sN (vs:=es.toList.map (·.key)) (ds:=Tj.map λkv=>iU kv.1) (κ:=κ) (I.ok.hd hc) (λA E Q hA q=>oz hA lo rw' (by rw[esz];exact hz) q) (by rw[Za,Yd,esz];exact hz) ln (λi u d e1 e2=>?_) pl ca hk hr.units (ln ▸ h64) λγ h' p n tk pm g kp ge hat hle=>?_)
 ·obtain⟨k,v,b,g1,g2,rfl,g4⟩:=at_ i u e1;have e2':=e2;rw[Xb,g1]at e2;cases e2;have da:DA K (λ_=>False) H (.ref b) (iU k):=qo g4 (λz=>z) λ_ _ _ _ z=>z;exact da.rh (pl _ (Yc e2')) I h rfl
 ·rw[ln]at pm g;have hpn:H p=none:=by
   cases e:H p with
   |none=>rfl
   |some o=>
    obtain⟨ob,e'⟩:=(I.hok p o e).there;exact absurd rfl (ge p ob e')
  have eo:=xA ca pm g;have hγ:∀g∈γ.toList,g<Tj.length:=λg hg=>by
   have:=(Wm.mp pm).mem_iff.mp hg;rw[Bq,Za]at this;exact Qb.mp this
  have RC:ep.2.length=Tj.length:=by rw[<-ra,Za,<-Paired.length rk]
  have e2:(b7 (es.toList.map (·.key)) γ).toList=γ.toList.map λg=>(es.toList.map (·.key)).getD g .none:=by unfold b7;simp
  have vw:Tp ((γ.toList.map λg=>ep.2.getD g 0).map V.ref) (b7 (es.toList.map (·.key)) γ).toList:=by
   rw[e2,Qd];have:∀l:S8 Nat,(∀g∈l,g<Tj.length)->Tp (l.map (V.ref ∘ λg=>ep.2.getD g 0)) (l.map λg=>(es.toList.map (·.key)).getD g .none):=λl=>by
    induction l with
    |nil=>exact λ_=>.nil
    |cons g l ih=>
     intro hl;have hg:g<Tj.length:=hl g Wc;have a1:(es.toList.map (·.key))[g]?=some ((es.toList.map (·.key))[g]'(by rw[ln,Za];exact hg)):=Ya _
     obtain⟨k,v,b,g1,g2,g3,g4⟩:=at_ g _ a1;refine .cons ?_ (ih λx hx=>hl x (Wb _ hx));show(es.toList.map (·.key)).getD g .none=Value.ref (ep.2.getD g 0);rw[Vb,Vb,a1,g2,CB,g3];rfl
   exact this _ hγ
  refine⟨.ref p,upd H p (.lst ((γ.toList.map λg=>ep.2.getD g 0).map V.ref)),I.laid2 kp ge hpn ⟨?_,(b7 (es.toList.map (·.key)) γ).toList,n,vw,by simpa using hat⟩ (I.tkl' hle),rfl,q p _ hpn (λb hb=>?_) ⟨γ.toList.map λg=>(Tj.map (·.1)).getD g (.inl []),?_,by simp,λi b k h1 h2=>?_⟩⟩
  ·rw[Za,Za,Yd,pm.size_eq,AR,Za];exact hz
  ·obtain⟨g,hg,rfl⟩:=Va.mp hb;have hg':=hγ g hg;rw[Vb,Ya (by lia)]
   exact Wi _
  ·rw[<-eo,Qd];refine We λg hg=>?_;have hg':=hγ g hg;show iU ((Tj.map (·.1)).getD g (.inl []))=_;rw[qm (d:=iU Tj[g].1) (by rw[Xb,Ya hg'];rfl),Vb,Xb,Ya hg'];rfl
  ·rw[Xb]at h1 h2;obtain⟨g1,k1,k2⟩:=Xc.mp h1;obtain⟨g2,k3,k4⟩:=Xc.mp h2;rw[k1]at k3;cases k3;have hg':=hγ g1 (Yc k1);have a1:(es.toList.map (·.key))[g1]?=some ((es.toList.map (·.key))[g1]'(by rw[ln,Za];exact hg')):=Ya _
   obtain⟨k',v,b',f1,f2,f3,f4⟩:=at_ g1 _ a1;rw[Vb,f2]at k2;rw[Vb,Xb,f1]at k4;subst k2 k4;exact f4
open Classical in
noncomputable def nS:S8 D->S9 Rz
 | [d]=>match mT d with|some ds=>if (∀x∈ds,Pl 40 x)/\CA 40 ds/\(∃κ,Kd ds κ)/\ds.length<64 then some (.lst (dD 40 ds),true) else none|none=>none
 |_=>none
theorem GS:TZ K GR nS:=by
 intro Y H xs ds z Q lv bs e q;cases bs with
 |nil=>cases e
 |@cons v vs d ds b1 bs=>
  cases bs with
  |cons _ _=>cases e
  |nil=>
   cases d with
   |dt kd=>
    unfold nS at e;dsimp only[mT]at e;obtain⟨a,ep,Tj,rfl,ka,h1,h2,h3⟩:=b1;have ek:(kd.map λkv=>iU kv.1)=Tj.map λkv=>iU kv.1:=by
     have:∀{α:Type}(l:S8 (bC×α)),(l.map λkv=>iU kv.1)=(l.map (·.1)).map λk=>iU k:=λl=>by rw[Qd];rfl
     rw[this,this,h2]
    rw[ek]at e;obtain⟨c,e⟩:=aG e;cases e;obtain⟨c1,c2,⟨κ,c3⟩,c4⟩:=c;refine⟨a,ep,Tj,κ,rfl,h1,c1,c2,c3,c4,λp bs hp hb ⟨ks,k1,k2,k3⟩=>q _ _ (aF hp _) (fR ?_ hp)⟩;rw[<-k1];refine⟨by rw[Za,Za,k2],λi v d e1 e2=>?_⟩
    rw[Xb]at e1 e2;obtain⟨b,f1,rfl⟩:=Xc.mp e1;obtain⟨k,f2,rfl⟩:=Xc.mp e2;exact qo (k3 i b k f1 f2) (ka b (hb b (Yc f1))).1.1 λxs e c hc=>((ka b (hb b (Yc f1))).2 xs e c hc).1
   |_=>cases e
end
end VF22
namespace VF22
open PySem PySem.Spec PyProof.Rows L2 VF
section
variable {X:Cx}{K:PySem.W.Frag}
def DY(lo:Int)(n:Nat):S8 V:=(List.range n).map λi=>V.int (lo+(i:Nat))
def DZ{acc:Tc Ta}{lo:Int}{n:Nat}(hi:ItemsOf (λi v=>∃t,v=Value.int (lo+(i:Nat)*1) t) acc n):Tp (DY lo n) acc.toList:=by
 obtain⟨h1,h2⟩:=hi;have gen:∀(m k:Nat)(l:S8 Ta),l.length=m->(∀(j:Nat) v,l[j]?=some v->∃t,v=Value.int (lo+((k+j:Nat):Int)) t)->Tp ((List.range m).map λi=>V.int (lo+((k+i:Nat):Int))) l:=by
  intro m;induction m with
  |zero=>
   intro k l hl _;cases l with|nil=>exact .nil|cons _ _=>cases hl
  |succ m ih=>
   intro k l hl hv;cases l with
   |nil=>cases hl
   |cons v l=>
    rw[BH,Zd,Qd];refine .cons ?_ ?_
    ·obtain⟨t,e⟩:=hv 0 v rfl;exact⟨t,e⟩
    ·have:=ih (k+1) l (by simpa using hl) λj u e=>by
      obtain⟨t,e'⟩:=hv (j+1) u (by simpa using e)
      exact⟨t,by rw[e',show k+1+j=k+(j+1) by lia]⟩
     refine(congrArg (λz=>Tp z l) (We λi _=>?_)).mp this;show V.int (lo+((k+1+i:Nat):Int))=V.int (lo+((k+(i+1):Nat):Int));rw[show k+1+i=k+(i+1) by lia]
 have:=gen n 0 acc.toList (by rw[Yd];exact h1) λj v e=>by
  obtain⟨t,e'⟩:=h2 j v (by rw[<-Zj];exact e)
  exact⟨t,by rw[e',Int.mul_one,Bi]⟩
 refine(congrArg (λz=>Tp z acc.toList) (We λi _=>?_)).mp this;rw[Bi]
abbrev RB(lo hi:Int):Prop:=-(2 ^ 30)<=lo/\lo<2 ^ 30/\-(2 ^ 30)<=hi/\hi<2 ^ 30/\(hi-lo).toNat<=1000000
def GT(ta:TA):TE:=λσ H Q=>ta σ H λvs H1=>∃j:Int,vs=[.int j]/\(-(2 ^ 30)<=j/\j<2 ^ 30)/\∀p,H1 p=none->Q (.ref p) (upd H1 p (.rng 0 j))
def GU{s:Tb}{lo hi:Int}{t u v:Tok}{tk:Nat}{Q:VK}(I:L2.Inv X Ti σ H s)(q:∀p,H p=none->Q (.ref p) (upd H p (.rng lo hi)))(ht:0<tk) :
  EP X Ti σ Q (.ref s.heap.objs.size) { s with heap:=s.heap.push { cls:=.type "range",data:=.fields #[.int lo t,.int hi u,.int 1 v] },toks:=tk } :=
 ⟨.ref _,_,I.laid (o:=.rng lo hi) (t':=tk) (λb o e=>Ab _ e) (Xa _) ⟨t,u,v,Ag _ rfl⟩,rfl,q _ (I.hok.fresh (Xa _))⟩
theorem GV(hg:Gl X "range")(hm:X.mg "range"=none)(ha:PA X [a] ta)(hs:starEach [a] X.env=[(false,eval a X.env)]:=by rfl):PE X (.Call (.Name "range" p) [a] [] pos) (GT ta):=by
 intro Ti s σ H Q I h;refine Call_ (hV I hg hm boot_range (As (cb (ha pos Ti s σ H _ I h) λus s1 ⟨vs,H1,I1,r1,q1⟩=>?_) hs rfl));obtain⟨j,rfl,⟨h1,h2⟩,q⟩:=q1;cases r1 with
 |cons r rr=>
  cases rr;obtain⟨t,rfl⟩:=r;exact bJ (call_range_1 λhle=>GU I1 q (I1.tkl' hle))
def xD:S8 V->Hp->VK->Prop:=λxs H Q=>∃(p:Td)(lo hi:Int),xs=[.ref p]/\H p=some (.rng lo hi)/\RB lo hi/\∀l,H l=none->Q (.ref l) (upd H l (.lst (DY lo (hi-lo).toNat)))
def xE(hc:X.calm=true):TB X (.type "list") xD:=by
 intro Ti s σ H xs us Q I rv h;obtain⟨p,lo,hi,rfl,hp,b,q⟩:=h;obtain⟨w,rfl,ru⟩:=vals1 rv;cases ru;obtain⟨t,u,v,ho⟩:=(show Tt X.prog X.w H s.heap p (.rng lo hi) from I.hok p _ hp);have hn:Builtin.Range.rangeSize lo hi 1=(((hi-lo).toNat:Nat):Int):=by rw[rangeSize_one];split<;>lia
 refine bJ (call_list_range (I.ok.hd hc) (show IsRange s.heap p lo hi 1 t u v from ho) (small_one (by lia) (by lia) (by lia) (by lia)) hn (by lia) λh' tk' acc' c' kp hS hi' hle=>?_)
 refine⟨.ref _,upd H _ (.lst (DY lo (hi-lo).toNat)),I.laid kp (Xa _) ⟨?_,acc'.toList,c',DZ hi',by simpa using hS⟩ (I.tkl' hle),rfl,q _ (I.hok.fresh (Xa _))⟩
 unfold DY;rw[Za,Ze];exact few b.2.2.2.2
def Od(lo:Int)(n:Nat):El K Y H (DY lo n) (rng lo n):=by
 unfold DY rng;refine⟨by simp,λi v d h1 h2=>?_⟩
 rw[Xb]at h1 h2;obtain⟨x,e1,rfl⟩:=Xc.mp h1;rw[e1]at h2;cases h2;exact .int _
def Oe(bs:U6 K Y H vs ds)(e3:xi ds=some j):vs=[.int j]:=by
 have ed:ds=[.int j]:=by
  unfold xi at e3;split at e3
  ·cases e3;rfl
  ·cases e3
 subst ed;cases bs with
 |cons b1 b2=>
  cases b2;obtain rfl:=(show _=V.int j from b1);rfl
def fLR1(fa:FA):FE:=λst=>(fa st).bind λx=>(cj x.2 x.1).bind λds=>(xi ds).bind λj=>if RB 0 j then some (.f (.lst (rng 0 (j-0).toNat)),x.2) else none
def QP{st:En}{lo hi:Int}{Q:VK}{r:Rs}{Tn:En}(E:ER K Tn σ H1 O1 Z)(x1:TK O H O1 H1)(k1:Kp st Tn)(b:RB lo hi)(he:r=.f (.lst (rng lo (hi-lo).toNat)))
  (q:∀v H' O',TK O H O' H'->Kp st Tn->ER K Tn σ H' O' Z->TU K Z Tn σ H' O' v r->UT H v r->Q v H'):∀p,H1 p=none->xD [.ref p] (upd H1 p (.rng lo hi)) Q:=λp hp=>by
 subst he;refine⟨p,lo,hi,rfl,aS,b,λl hl=>?_⟩;have s1:=aF hp (HO.rng lo hi);have E1:=E.same s1;obtain⟨E2,rv⟩:=E1.new hl (Od lo (hi-lo).toNat);have x2:TK O1 H1 O1 (upd H1 p (.rng lo hi)):=Ts.ext s1;exact q _ _ O1 ((x1.trans x2).trans (Ts.ext (aF hl _))) k1 E2 rv λp' e=>by cases e;exact(x1.trans x2).dead hl
def GW(h:tN K ta fa):dC K (RM xD (iy (GT ta) rf)) (fLR1 fa):=by
 intro st σ H O Z Q E r Tn e q;refine cx e λrs Tr e1 e=>?_;refine bB e λds e2 e=>?_;refine bB e λj e3 e=>?_;obtain⟨c,e⟩:=aG e;cases e;refine h st σ H O Z _ E rs _ e1 λvs H1 O1 x1 k1 E1 rvs=>?_;have hv:=Oe (rvs.bas E1 e2) e3;exact⟨j,hv,⟨c.2.2.1,c.2.2.2.1⟩,QP E1 x1 k1 c rfl q⟩
@[irreducible] def Of(X:Cx)(es:S8 Expr)(t:TA):Prop:=PA X es t
def JK:Of X [] rf:=by unfold Of;exact ae
def v6(ha:PE X e te)(hr:Of X es t)(h:tL e=true):Of X (e::es) (iy te t):=by
 unfold Of at *;exact ag ha hr h
def JL(h:Of X es t):PE X (.List es pos) (Mw t):=by
 unfold Of at h;exact cK h
def nT:S8 D->S9 (S8 Int)|[]=>some []|.int i::r=>(nT r).bind λis=>some (i::is)|_=>none
theorem sO:∀{ds:S8 D}{vs:S8 V}{ns:S8 Int},El K Y H vs ds->nT ds=some ns->vs=ns.map V.int
 |[],vs,ns,el,e=>by cases e;exact el.unnil
 | d::r,vs,ns,el,e=>by
  obtain⟨v,t,rfl,da,el2⟩:=el.uncons;cases d with
  |int b=>
   refine bB e λxs' e1 e=>?_;cases e;have h:=sO el2 e1;rw[h,show v=V.int b from da.ba];rfl
  |_=>cases e
end
section
variable {t:Te}{P:Tf}{w:Th}{A:Around}{E:Ta->Tb->Prop}{s:Tb}
abbrev eE(t:Bool)(h:Heap)(l:Addr):Heap:=(zA t h l).push { cls:=.type "enumerate",data:=.fields #[.none,.bool false,.ref h.objs.size,rawInt 0,.none,.none] }
def D0(t:Te)(l:Td)(xs:Tc Ta):Meets (Builtin.«enumerate.__new__» ⟨[.type "enumerate",.ref l],[]⟩) (λ_ R s=>So t s.heap l xs/\R (.ok (.ret (.ref (zA t s.heap l).objs.size))) { s with heap:=eE t s.heap l }) :=
 .of_wp λprog w A R s h=>by
  obtain⟨hp,g,d,tk,os⟩:=s;obtain⟨v1,q⟩:=h;have hsub:=sub_enumerate;have L1:So t (Shared.heap ⟨hp,g,d,tk,os⟩) l xs:=v1;obtain⟨⟨c0,d0,dt0,sl0⟩,ho,hc0,n0,hd0⟩:=id v1;replace hc0:c0=.type (Sh t):=hc0;replace hd0:dt0=.seq xs n0:=hd0;subst hc0 hd0;cases t with
  |false=>
   wp_walk using Al ho
   refine BL λz=>Ac ?_;split
   ·rename_i u _ _ _ _ _
    cases (u == Value.type "enumerate")<;>(wp_walk using Al ho,fE L1;exact⟨_,rfl,q⟩)
   ·wp_walk using Al ho,fE L1
    exact⟨_,rfl,q⟩
  |true=>
   wp_walk using Al ho
   refine BL λz=>Ac ?_;split
   ·rename_i u _ _ _ _ _
    cases (u == Value.type "enumerate")<;>(wp_walk using Al ho,fE L1;exact⟨_,rfl,q⟩)
   ·wp_walk using Al ho,fE L1
    exact⟨_,rfl,q⟩
def D1(v1:So t s.heap l xs)
  (q:∀g,IsEnum g (s.heap.objs.size+1) s.heap.objs.size 0 .none->Io t g s.heap.objs.size l 0->(∀c o,s.heap.get? c=some o->g.get? c=some o)->Q (.ref (s.heap.objs.size+1)) { s with heap:=g }) :
  wpAny (model P w) A (call (.type "enumerate") [.ref l]) Q E s:=by
 refine callType_new F.called_enumerate (by decide) (F.typeCall_enumerate_1 _) (F.newCall_enumerate_1 _) (λo=>F.args_object_init_2 o _) F.entry_enumerate_new (D0 t l xs) ⟨v1,?_⟩
 have m1:(zA t s.heap l).objs.size=s.heap.objs.size+1:=AD ..;have g2:(eE t s.heap l).get? (zA t s.heap l).objs.size=some _:=Ag _ rfl;have g1:(eE t s.heap l).get? s.heap.objs.size=some (zI t l):=Ab _ (Ag _ rfl);show _/\_;rw[m1]at g2;rw[m1];exact⟨⟨_,g2,rfl⟩,q _ g2 ⟨_,g1,rfl,rfl⟩ λc o e=>Ab _ (Ab _ e)⟩
def LM(a:Io t h it l i)(b:So t h l xs):l≠it:=by grind [Io,So]
def GX(hh:A.handled=none)(he:IsEnum s.heap e it k old)(a:Io t s.heap it l i)(b:So t s.heap l xs)(hx:xs[i]?=none)
  (q:∀g,Heap.ExtBut it s.heap g->Q none { s with heap:=g }):wpAny (model P w) A (pyNext (.ref e)) Q E s:=by
 have ty:s.TypeIs (.ref e) "enumerate":=⟨_,he,rfl⟩;unfold pyNext;refine Aa (AA (Ao (name:=Str.ofString "__next__") ty F.slot_enumerate_next (An F.slot_enumerate_next ty F.entry_enumerate_next ?_ (F.args_enumerate_next_1 _))));show wpAny _ _ (field (.ref e) 2 >>= _) _ _ _;refine Aa (Ap he rfl (x:=.ref it) rfl (Aa (t9 (A:=A.in1) hh a b hx λg y ex hy=>?_)));obtain⟨o,ho,hc⟩:=hy;exact Aa (AC (T:="StopIteration") (b:=true) ⟨o,ho,hc⟩ BU (Ac (q _ ex)))
def QQ{xs:Tc Ta}(hh:A.handled=none)(ne:l≠it):Draws P w A it [it,l] xs.size (λi x=>xs[i]?=some x) (λi h=>Io t h it l i/\So t h l xs) where
 live:=λi h st=>by
  obtain⟨⟨o,ho,_⟩,_⟩:=st;exact⟨o,ho⟩
 frame:=λi h h' st k=>⟨st.1.by λo q=>k it (by simp) o q,st.2.by λo q=>k l (by simp) o q⟩
 item:=λi s Q E hi st hQ=>y6 st.1 st.2 (x:=xs[i]) (by simp[hi]) λh1 i1 sb=>hQ _ h1 s.toks (by simp[hi]) ⟨i1,st.2.by λo q=>(sb.2 l ne).trans q⟩ sb
 done:=λs Q E st hE=>t9 hh st.1 st.2 (by simp) hE
end
section
variable {X:Cx}{K:PySem.W.Frag}{t:Te}{Ti:S8 (Td×Obj)}{σ:L2.St}{H:Hp}{s:Tb}{h':Tg}
def SY(K : PySem.W.Frag)(t : Te)(l : Td) : It :=
  ⟨λi H => ∃ xs x, Sq K t H l xs ∧ xs[i]? = some x,
   λi H v H' => ∃ p x, v = .ref p ∧ H p = none ∧ H' = upd H p (.tup [.int (i : Int), x]) ∧ ∀ xs, Sq K t H l xs → xs[i]? = some x,
   λi H => ∃ xs, Sq K t H l xs ∧ xs.length ≤ i⟩
def Es(t:Te)(e it l:Td)(i:Nat)(h:Tg):Prop:=(∃old,IsEnum h e it (i:Int) old)/\Io t h it l i
def D3{x1}(ne:e≠it):Turn P w K (.Tuple es x1 ps) (SY K t l) [e,it] e (Es t e it l) where
 mem:=by simp
 obj:=λi h st b hb=>by
  obtain⟨⟨old,a1⟩,⟨o2,a2,_,d2⟩⟩:=st;have:b=e\/b=it:=by simpa using hb
  rcases this with rfl|rfl
  ·exact⟨_,a1,λv m=>by simp at m⟩
  ·exact⟨_,a2,λv m=>by rw[d2]at m;cases m⟩
 keep:=λi h h' st k=>by
  obtain⟨⟨old,a1⟩,a2⟩:=st;exact⟨⟨old,k e (by simp) _ a1⟩,a2.by λo q=>k it (by simp) o q⟩
 item:=by
  intro X hP hw hK hc i Ti s σ H E I hf st hg;subst hP hw hK;obtain⟨xs,x,q1,e1⟩:=hg;obtain⟨⟨old,a1⟩,a2⟩:=st;obtain⟨its,rv,p⟩:=q1.so I;obtain⟨u,hu,ru⟩:=rv.get e1;have hn:H s.heap.objs.size=none:=I.hok.fresh (Xa _);have lt:∀b∈[e,it],b≠s.heap.objs.size:=λb hb=>Vf <| by
   have:b=e\/b=it:=by simpa using hb
   obtain⟨o2,b2,_⟩:=id a2;rcases this with rfl|rfl
   ·exact Ai a1
   ·exact Ai b2
  have nl:=LM a2 p;have nel:e≠l:=λz=>by
   obtain⟨o,ho,hd,_⟩:=p;rw[<-z,a1]at ho;cases ho;cases t<;>(injection hd with y;exact absurd y (by decide))
  have hi:i<its.toArray.size:=by
   have:=(Wd.mp hu).1;simpa using this
  refine wpAny_pyNext_enum_itemD (QQ (A:=X.A.in1) (I.ok.hd hc) nl) a1 ⟨a2,p⟩ hi ne (by simp;exact⟨ne,nel⟩) λu' g tk hu' z1 Tr pT _ kp=>?_
  have eu:u'=u:=by
   have e1:its.toArray[i]?=some u:=by simpa using hu
   rw[e1]at hu';exact(Option.some.inj hu').symm
  subst eu;refine⟨_,rfl,CT (s:={ s with heap:=g,toks:=tk+1 }) z1 λg2 z2 sb=>?_⟩;replace sb:Heap.SameBut e g g2:=sb;have kk:∀c o,c≠e->c≠it->s.heap.get? c=some o->g2.get? c=some o:=λc o c1 c2 q=>sb.extBut _ _ c1 (kp c o c1 c2 q);have pT2:g2.get? s.heap.objs.size=some { cls:=.type "tuple",data:=.seq #[.int (i:Int) tk,u'] }:=sb.extBut _ _ (Ne.symm (lt e (by simp))) pT
  have I1:L2.Inv X Ti σ (upd H s.heap.objs.size (.tup [.int (i:Int),x])) { s with heap:=s.heap.push { cls:=.type "tuple",data:=.seq #[.int (i:Int) tk,u'] },toks:=tk+1 } :=
   I.laid (λb o e=>Ab _ e) (Xa _) ⟨show 2<=sizeLine by decide,[.int (i:Int) tk,u'],.cons ⟨_,rfl⟩ (.cons ru .nil),⟨_,Ag _ rfl,rfl,_,rfl⟩⟩
  have ff:∀b∈[e,it],mG X Ti (upd H s.heap.objs.size (.tup [.int (i:Int),x])) b:=λb hb=>by
   obtain⟨f0,f1,f2,f3,f4,f5⟩:=hf b hb;exact⟨by rw[aO (lt b hb)];exact f0,f1,f2,f3,f4,f5⟩
  have I2:L2.Inv X Ti σ (upd H s.heap.objs.size (.tup [.int (i:Int),x])) { s with heap:=g2,toks:=tk+1 }:=by
   refine kn (s:={ s with heap:=s.heap.push { cls:=.type "tuple",data:=.seq #[.int (i:Int) tk,u'] },toks:=tk+1 }) (t':=tk+1) I1 ff λc o hc q=>?_;have hc':¬ (c=e\/c=it):=λm=>hc (by simpa using m)
   rcases BX q with⟨rfl,rfl⟩|q
   ·exact pT2
   ·exact kk c o (λm=>hc' (.inl m)) (λm=>hc' (.inr m)) q
  refine⟨.ref s.heap.objs.size,_,I2,rfl,⟨_,x,rfl,hn,rfl,λzs hz=>by rw[hz.inj I q1];exact e1⟩,?_,λb hb=>(ff b hb).1⟩
  exact⟨⟨_,by rw[CS];exact z2⟩,Tr.1.by λo q=>sb.extBut _ o (Ne.symm ne) q⟩
 done:=by
  intro X hP hw hK hc i Ti s σ H E I hf st hg;subst hP hw hK;obtain⟨xs,q1,hl⟩:=hg;obtain⟨⟨old,a1⟩,a2⟩:=st;obtain⟨its,rv,p⟩:=q1.so I;have l1:=rv.length;refine GX (I.ok.hd hc) a1 a2 p (by simp;lia) λg kp=>⟨rfl,kn (t':=s.toks) I hf λc o hc q=>?_⟩
  have hc':¬ (c=e\/c=it):=λm=>hc (by simpa using m)
  exact kp c o (λm=>hc' (.inr m)) q
 self:=λ_ _ _ _ _ st h=>by
  obtain⟨⟨old,a1⟩,_⟩:=st;exact Bw a1 h
def LN(K:PySem.W.Frag)(ta:TA):TI:=λσ H R=>ta σ H λvs H1=>∃t l xs,vs=[.ref l]/\Sq K t H1 l xs/\R (SY K t l) H1
def sP:bootBuiltins "enumerate"=some (.type "enumerate"):=by decide +kernel
def uo{x1}(h:X.K=K)(hg:Gl X "enumerate")(hm:X.mg "enumerate"=none)(ha:PE X a te)(hs:starEach [a] X.env=[(false,eval a X.env)]:=by rfl) :
  PI X (.Tuple es x1 ps) (.Call (.Name "enumerate" p) [a] [] pos) (LN K (iy te rf)):=by
 subst h;intro Ti s σ H R I h;have ha':PA X [a] (iy te rf):=kh ha ae (hs.trans rfl);refine Call_ (hV I hg hm sP (As (cb (ha' pos Ti s σ H _ I h) λus s1 ⟨vs,H1,I1,r1,q1⟩=>?_) (hs.trans rfl) rfl));obtain⟨t,l,xs,e,w1,q⟩:=q1;subst e;cases r1 with
 |cons r rr=>
  cases rr;cases r;obtain⟨its,rv,p⟩:=w1.so I1;refine D1 p λg z n1 kp=>?_;refine Bw (s:={ s1 with heap:=g }) z ⟨_,[s1.heap.objs.size+1,s1.heap.objs.size],_,_,H1,rfl,I1.kept (t':=s1.toks) kp,D3 (Nat.succ_ne_self _),⟨⟨_,z⟩,n1⟩,λb hb=>?_,q⟩;have hb':b=s1.heap.objs.size+1\/b=s1.heap.objs.size:=by simpa using hb
  have le:s1.heap.objs.size<=b:=by
   rcases hb' with m|m<;>(rw[m];first|exact Xj _ _|exact Xa _)
  exact I1.fpOk le (I1.hok.fresh le)
def v7:S8 D->S9 (S8 D)|[a]=>LG a|_=>none
def Ex(ds:S8 D):S8 D:=ds.mapIdx λi d=>.tup [.int (i:Int),d]
def D4(fa:FA):FI:=λst=>(fa st).bind λx=>(cS x.1 x.2).bind λy=>(v7 y.1).bind λw=>some (Ex w,y.2)
def zk(h:tN K ta fa):UD K (LN K ta) (D4 fa):=by
 intro st σ H O Z R E items Tn e q;refine cx e λrs Tr e1 e=>?_;refine cx e λds TR e2 e=>?_;refine bB e λas e3 e=>?_;cases e;refine h st σ H O Z _ E rs Tr e1 λvs H1 O1 x1 k1 E1 rvs=>?_;obtain⟨O2,x2,k2,E2,el⟩:=rvs.esc E1 e2;have key:∃d,ds=[d]/\LG d=some as:=by
  replace e3:v7 ds=some as:=e3
  unfold v7 at e3;split at e3
  ·exact⟨_,rfl,e3⟩
  ·cases e3
 obtain⟨d,rfl,hd⟩:=key;obtain⟨v1,r,rfl,da1,el⟩:=el.uncons;obtain rfl:=el.unnil;obtain⟨t,l,xs,rfl,k3⟩:=y7 da1 hd;refine⟨t,l,xs,rfl,(k3 H1 O2 (TK.refl _ _)).1,q _ H1 O2 (x1.trans x2) (k1.trans k2) E2 λH' O' ex liv=>?_⟩;obtain⟨s1,el1⟩:=k3 H' O' ex;have n1:=el1.1;refine⟨λi hi=>⟨xs,s1,?_⟩,λi d hd=>?_⟩
 ·replace hi:(Ex as).length<=i:=hi
  unfold Ex at hi;rw[List.length_mapIdx]at hi;lia
 ·replace hd:(Ex as)[i]?=some d:=hd
  unfold Ex at hd;rw[Qk]at hd;obtain⟨a,ha,rfl⟩:=Xc.mp hd;obtain⟨x,hx,dx⟩:=el1.at ha;refine⟨⟨xs,x,s1,hx⟩,?_⟩;rintro v H'' ⟨p,x',rfl,hn,rfl,f1⟩;have ex':=f1 xs s1;rw[hx]at ex';cases ex';have sm:=aF hn (.tup [.int (i:Int),x]);exact⟨sm,.tup ⟨aS,λz=>(liv p z).1 hn⟩ rfl ((El.cons (.int _) (El.one dx)).same sm).2⟩
def GY{fa:FA}{st s1 s2:En}{rs:S8 Rs}{d:D}{ds:S8 D}(h1:fa st=some (rs,s1))(h2:cS rs s1=some ([d],s2))(h3:LG d=some ds):D4 fa st=some (Ex ds,s2):=by
 simp only[D4,h1,h2,Wa,v7,h3]
end
end VF22
namespace VF22
open PySem L2 VF
section
variable {X:Cx}{K:PySem.W.Frag}
def QR:D->Te|.dt _=>true|.dk _=>true|_=>false
def SZ:Rs->S9 D|.d x=>some x|_=>none
def JM(fd fy fx:FE):FE:=λst=>(fd st).bind λx=>(cont x.2 x.1).bind λd0=>if QR d0=true then(fy x.2).bind λy=>(fx y.2).bind λz=>(cont z.2 x.1).bind λd1=>(cont z.2 y.1).bind λd2=>(Po d1 d2).bind λo=>(SZ z.1).bind λdz=>some (.d (o.getD dz),z.2) else none
def v8(hd:dC K td fd)(hy:dC K ty fy)(hx:dC K tx fx):dC K (EZ td ty tx) (JM fd fy fx):=by
 intro st σ H O Z Q E r' Tn h q;refine cx h λr1 Tr e1 h=>?_;refine bB h λd0 e0 h=>?_;obtain⟨c,h⟩:=aG h;refine cx h λr2 TR e2 h=>?_;refine cx h λr3 Us e3 h=>?_;refine bB h λd1 e4 h=>?_;refine bB h λd2 e5 h=>?_;refine bB h λo e6 h=>?_;refine bB h λdz e7 h=>?_;cases h;refine hd st σ H O Z _ E r1 Tr e1 λv1 H1 O1 x1 k1 E1 rv1 w1=>?_;have b0:=rv1.ba E1 e0;have isd:∃a,v1=.ref a/\R8 H1 a:=by
  cases d0 with
  |dt Tj=>
   obtain⟨a,ep,kv,rfl,_,h1,_⟩:=b0;exact⟨a,rfl,.inr ⟨ep,kv,.inl h1⟩⟩
  |dk Tj=>
   obtain⟨a,kv,rfl,h1,_⟩:=b0;exact⟨a,rfl,.inl ⟨kv,.inl h1⟩⟩
  |_=>cases c
 obtain⟨a,rfl,isd⟩:=isd;refine⟨a,rfl,isd,hy Tr σ H1 O1 Z _ E1 r2 TR e2 λv2 H2 O2 x2 k2 E2 rv2 w2=>hx TR σ H2 O2 Z _ E2 r3 Us e3 λv3 H3 O3 x3 k3 E3 rv3 w3=>?_⟩;have b1:=(rv1.nf.ext (x2.trans x3) (k2.trans k3)).ba E3 (by rw[fu];exact e4)
 have b2:=(rv2.nf.ext x3 k3).ba E3 (by rw[fu];exact e5)
 obtain⟨a',r,ea,g,hh⟩:=Oa b1 b2 e6;cases ea;refine⟨r,g,?_⟩;rcases hh with⟨rfl,rfl⟩|⟨v,d,rfl,rfl,da⟩
 ·cases r3 with
  |d x=>
   cases e7;exact q v3 H3 O3 ((x1.trans x2).trans x3) ((k1.trans k2).trans k3) E3 rv3 True.intro
  |f x=>cases e7
  |s i=>cases e7
 ·exact q v H3 O3 ((x1.trans x2).trans x3) ((k1.trans k2).trans k3) E3 da True.intro
end
end VF22
namespace VF
open PySem PySem.Spec PyProof.Rows L2
def ib{N P:S8 Str}{sc:Scope}(h:N.Nodup/\(∀x∈P,sc.names.lookup x=some .local\/sc.names.lookup x=some .cell)/\∀y∈sc.names,y.2≠.free)(a:sc.kind=.function:=by rfl)(b:sc.isCoroutine=false:=by rfl)(c:sc.isGenerator=false:=by rfl)(d:N.take P.length=P:=by rfl):To N P sc:=⟨a,b,c,h.1,d,h.2.1,h.2.2⟩
structure FH(K:PySem.W.Frag)(x:Str)(st:Stmt):Prop where
 ex:∃f fd,U0 K x x st f fd/\PySem.W.nsIn K mainGlobals x=some (some (.ref f))
def fh{K:PySem.W.Frag}{x:Str}{st:Stmt}{f:Td}{oc:Ta}{od an:S9 Td}{osl:Tc (S9 Ta)}{kV doc pm cdv ct:Ta}(a:PySem.W.nsIn K mainGlobals x=some (some (.ref f)))
  (l:K.lookup f=some ⟨oc,od,.func (PySem.W.fnOf x x (ki st) (gU st) (ao st) .none kV doc pm an cdv ct),osl⟩)(c:PySem.W.codeIn K cdv x=true)(k:PySem.W.keepIn K (.ref f)=true):FH K x st:=⟨f,_,MO l c k,a⟩
def Bn(x:Str)(st:Stmt)(ps:S8 Str):Prop:=∀(kV doc pm:Ta)(an:S9 Td)(cdv ct:Ta)(us:S8 Ta),us.length=ps.length->bindArgs (PySem.W.fnOf x x (ki st) (gU st) (ao st) .none kV doc pm an cdv ct) ⟨us,[]⟩=pure (ps.zip us)
theorem QS{n:Nat}{P:S8 Ta->Prop}{us:S8 Ta}(hl:us.length=n+1)(h:∀a r,r.length=n->P (a::r)):P us:=by
 cases us with|nil=>cases hl|cons a r=>exact h a r (Nat.succ.inj hl)
def rD{P:S8 Ta->Prop}(h:∀a,P [a])(us:S8 Ta)(hl:us.length=1):P us:=QS hl λa r hr=>by
 rw[CL hr];exact h a
def v9{P:S8 Ta->Prop}(h:∀a b,P [a,b])(us:S8 Ta)(hl:us.length=2):P us:=QS hl λa r hr=>rD (P:=λr=>P (a::r)) (h a) r hr
def QT{P:S8 Ta->Prop}(h:∀a b c,P [a,b,c])(us:S8 Ta)(hl:us.length=3):P us:=QS hl λa r hr=>v9 (P:=λr=>P (a::r)) (h a) r hr
def S0{P:S8 Ta->Prop}(h:∀a b c d,P [a,b,c,d])(us:S8 Ta)(hl:us.length=4):P us:=QS hl λa r hr=>QT (P:=λr=>P (a::r)) (h a) r hr
def S1{P:S8 Ta->Prop}(h:∀a b c d e,P [a,b,c,d,e])(us:S8 Ta)(hl:us.length=5):P us:=QS hl λa r hr=>S0 (P:=λr=>P (a::r)) (h a) r hr
section
variable {P:Tf}{w:Th}{K:PySem.W.Frag}{mg:Str->S9 Ta}{base h:Tg}{x:Str}{st:Stmt}{N ps:S8 Str}{k:Nat}{F:FS}
abbrev gi(P:Program)(w:World)(K:PySem.W.Frag)(mg:Str->Option Value)(base:Heap)(x:Str)(st:Stmt)(N:List Str)(k:Nat)(F:FS):Prop :=
 ∀{f:Addr}{cdv:Value}{A:Around}{outer:List Env}{s:Shared}{H:Hp}{E:XK},TX k (A.deeper (envOfC x (ao st) s.heap.objs.size f cdv))->∃t,UG (wZ Dx P w K mg base N x (ao st) f cdv A outer s H E).nox (gU st) t/\r6 K t F
def Sm{f:Td}{fd:FuncData}(F':U0 K x x st f fd)(S:To N ps (ao st))(hB:gi P w K mg base x st N k F):T9 P w K mg base Dx (k+1) f fd ps (gk K (bi F N.length ps.length)):=by
 refine F'.ok S (λvs H Q E h=>Nc h) λcdv A outer s H vs Q E hr h=>?_;obtain⟨t,h1,h2⟩:=hB hr;exact⟨t,h1,IZ h2 h⟩
def FH.cal(h':FH K x st)(X:K.In h)(G:h.Ns mainGlobals mg)(S:To N ps (ao st))(hb:Bn x st ps)(hB:gi P w K mg base x st N k F):TY P w K mg base x (k+1) ps (gk K (bi F N.length ps.length)):=by
 obtain⟨f,fd,F',a⟩:=h'.ex;exact⟨f,fd,Sm F' S hB,PySem.W.mg_of X G a,F'.kp,F'.binds hb⟩
def FH.calI(h':FH K x st)(X:K.In h)(G:h.Ns mainGlobals mg)(S:To N ps (ao st))(hb:Bn x st ps)(hB:gi P w K mg base x st N k F):TY P w K mg base x (k+1) ps (oM K (dO F N.length ps.length)):=by
 obtain⟨f,fd,F',a⟩:=h'.ex;refine⟨f,fd,F'.ok S (λvs H Q E h=>P1 h) λcdv A outer s H vs Q E hr h=>?_,PySem.W.mg_of X G a,F'.kp,F'.binds hb⟩;obtain⟨t,h1,h2⟩:=hB hr;exact⟨t,h1,DH h2 h⟩
theorem FH.calR{sp:Nat->Sp}(h':FH K x st)(X:K.In h)(G:h.Ns mainGlobals mg)(hb:Bn x st ps)(m:Nat)(h0:∀f fd,T9 P w K mg base Dx 0 f fd ps (sp 0))(h1:∀n,n<=m->TY P w K mg base x n ps (sp n)->∀f fd,U0 K x x st f fd->T9 P w K mg base Dx (n+1) f fd ps (sp (n+1))):∀n,n<=m+1->TY P w K mg base x n ps (sp n):=by
 obtain⟨f,fd,F',a⟩:=h'.ex;intro n;induction n with|zero=>exact λ_=>⟨f,fd,h0 f fd,PySem.W.mg_of X G a,F'.kp,F'.binds hb⟩|succ n ih=>exact λhn=>⟨f,fd,h1 n (Nat.le_of_succ_le_succ hn) (ih (Nat.le_of_succ_le hn)) f fd F',PySem.W.mg_of X G a,F'.kp,F'.binds hb⟩
def JN{f:Td}{fd:FuncData}:T9 P w K mg base Dx 0 f fd ps (gk K (cV 0)):=by
 have no:∀vs H Q E,¬ gk K (cV 0) vs H Q E:=λvs H Q E h=>by
  obtain⟨Z,ds,z,el,lv,e,q⟩:=h;obtain⟨u,_,hd,_⟩:=sC e;cases hd
 exact⟨λvs H Q E h=>absurd h (no vs H Q E),λA outer s H args us vs Q E _ _ _ _ h=>absurd h (no vs H Q E)⟩
def FH.alike{F:(S8 D->S9 Rz)->FS}(h':FH K x st)(X:K.In h)(G:h.Ns mainGlobals mg)(S:To N ps (ao st))(hb:Bn x st ps)(m:Nat)(hv:∀n u,Dp (n+1) u->bi (F (cV n)) N.length ps.length [u,u]=some (.bl true,false))
  (hB:∀n g,n<=m->TY P w K mg base x n ps (gk K g)->gi P w K mg base x st N n (F g)):∀n,n<=m+1->TY P w K mg base x n ps (gk K (cV n)) :=
 h'.calR X G hb m (λ_ _=>JN) λn hn c f fd F'=>(Sm F' S (hB n _ hn c)).imp λvs H Q E hs=>by
  obtain⟨Z,ds,z,el,lv,e,q⟩:=hs;obtain⟨u,rfl,hd,rfl⟩:=sC e;exact⟨Z,[u,u],(.bl true,false),el,lv,hv n u hd,q⟩
theorem FH.law{fa:Td}(h':FH K "law" st)(X:K.In h)(G:h.Ns mainGlobals mg)(hfa:mg "law"=some (.ref fa))(S:To N ["_law_script"] (ao st))(hb:Bn "law" st ["_law_script"])(lv:∀ns:S8 Int,bi F N.length 1 [.fl (ns.map D.int)]=some (.bl true,false))
  (hB:∀base:Tg,gi P w K mg base "law" st N k F):∃fd:FuncData,(∀(s:Tb)(v:Ta),BindsTo s fd ⟨[v],[]⟩ [("_law_script",v)])/\∀base:Tg,K.In base->base.Ns mainGlobals mg->T9 P w K mg base Dx (k+1) fa fd ["_law_script"] (yZ K):=by
 obtain⟨f,fd,F',a⟩:=h'.ex;have e:=hfa.symm.trans (PySem.W.mg_of X G a);cases e;refine⟨fd,λs v=>?_,λbase _ _=>(Sm F' S (hB base)).imp λvs H Q E h=>?_⟩
 ·obtain⟨oc,od,kV,doc,pm,an,cdv,ct,osl,rfl,lk,hcd⟩:=F'.ex;exact .of_eq (hb kV doc pm an cdv ct [v] rfl)
 ·obtain⟨a,ns,rfl,sq,_,q⟩:=h;refine⟨λ_=>False,[.fl (ns.map D.int)],(.bl true,false),El.one (.fl (vs:=ns.map V.int) ?_ (by simp) λi v d h1 h2=>?_),λp z=>z.elim,lv ns,λv H' _ r=>?_⟩
  ·rcases sq with s|s
   ·exact .inl ⟨s,λz=>z⟩
   ·exact .inr λH'=>.inr s
  ·rw[Xb]at h1 h2;obtain⟨c,e1,rfl⟩:=Xc.mp h1;rw[e1]at h2;obtain rfl:=Option.some.inj h2;exact .int _
  ·obtain rfl:=(show v=V.bl true from DA.ba (show DA K (λ_=>False) H' v (.bl true) from r));exact q H'
end
def walkZ{l:PySem.W.OpenLaw}{q:Tf}{loose:S8 Str}{XP:(Str->S9 Ta)->Tg->Prop}{d:DefRec}{K:Params->PySem.W.Frag}{k:Nat}{as:S8 Td}{sz t:Nat}(hn:l.most=some 63)(hdf:d.params.defaults=[])(hr:TX k callerA)(ht:0<t)(hK:∀P,as=(K P).map (·.1))
  (F:∀(w:Th)(mg:Str->S9 Ta)(fa:Td)(h:Tg),(K w.params).In h->h.Ns mainGlobals mg->mg d.name=some (.ref fa)->
   ∃fd:FuncData,(∀(s:Tb)(u:Ta),BindsTo s fd ⟨[u],[]⟩ [("_law_script",u)])/\∀base:Tg,(K w.params).In base->base.Ns mainGlobals mg->T9 l.prog w (K w.params) mg base Dx k fa fd ["_law_script"] (yZ (K w.params))) :
  PySem.W.WalkX q loose XP (PySem.W.X.obsZ as) (PySem.W.X.valZ K sz t) l.row.toRowW d [] (λf vs=>PySem.call f vs) :=
 L2.walk_of (n:=63) (k:=k) (x:="_law_script") (CX:=λ_=>Dx) (sp:=λw=>yZ (K w.params)) hn (by decide) hdf hr ht hK F (λ_ _ a ns hl _ hS=>⟨a,ns,rfl,hS,hl,λ_=>rfl⟩) λ_ _ _ _ _ z=>z
end VF
namespace VF22
open PySem PySem.Spec PyProof.Rows L2 VF TS
section
variable {X:Cx}{K:PySem.W.Frag}{Y:AS}{H:Hp}{s:Tb}{Ti:S8 (Td×Obj)}{σ:L2.St}
def JO(h:pH k v=true):RelV (kV k) v:=by
 rcases bM h with⟨i,t,rfl,rfl⟩|⟨x,t,rfl,rfl⟩
 ·exact⟨t,rfl⟩
 ·exact⟨t,rfl⟩
theorem prs_at:∀{es:S8 DictEntry}{vs:S8 (Key×Ta)},Pairs (aM P w) es vs->Tp (vs.map λkv=>kV kv.1) (es.map (·.key))|_,_,.nil=>.nil|_,_,.cons h _ r=>.cons (JO h) (prs_at r)
theorem JP{Tj:S8 (Key×V)}{vs:S8 (Key×Ta)}(h:KV Tj vs):vs.map (λkv=>kV kv.1)=Tj.map λkv=>kV kv.1:=by
 induction h with|nil=>rfl|cons h _ ih=>rw[Zd,Zd,ih,h.1]
def GZ(K:PySem.W.Frag):S8 V->Hp->VK->Prop:=λxs H Q=>∃(a:Td)(Tj:S8 (Key×V))(κ:SortKind),xs=[.ref a]/\H a=some (.dK Tj)/\(∀x∈Tj.map (λkv=>di kv.1),Pl 40 x)/\CA 40 (Tj.map λkv=>di kv.1)/\Kd (Tj.map λkv=>di kv.1) κ/\(Tj.map λkv=>di kv.1).length<64 /\
 ∀(p:Td)(ws:S8 V),H p=none->(∀Y:AS,El K Y H ws (dD 40 (Tj.map λkv=>di kv.1)))->Q (.ref p) (upd H p (.lst ws))
def wa(h:X.K=K)(hc:X.calm=true)(hr:TX n X.A):TB X (.builtin "sorted") (GZ K):=by
 intro Ti s σ H xs us Q I rv hh;obtain⟨a,Tj,κ,rfl,ha,pl,ca,hk,h64,q⟩:=hh;obtain⟨u,rfl,ru⟩:=vals1 rv;cases ru;obtain⟨hz,lo,vs,rk,o,es,ep,e1,e2,e3,_,e5,_⟩:=KZ I.hok ha;have vk:Tp (Tj.map λkv=>kV kv.1) (es.toList.map (·.key)):=JP rk ▸ prs_at e5;have esz:(es.toList.map (·.key)).length=Tj.length:=by rw[<-vk.length,Za]
 have esz':es.size=Tj.length:=by rw[Za,Yd]at esz;exact esz
 have ln:(es.toList.map (·.key)).length=(Tj.map λkv=>di kv.1).length:=by rw[esz,Za]
 refine bJ (sN (vs:=es.toList.map (·.key)) (ds:=Tj.map λkv=>di kv.1) (κ:=κ) (I.ok.hd hc) (λA E Q hA q=>oz hA lo ⟨o,e1,e2,e3⟩ (by rw[esz'];exact hz) q) (by rw[esz];exact hz) ln (λi u d g1 g2=>?_) pl ca hk hr.units (by rw[Za]at h64;rw[esz];exact h64) λγ h' p n tk pm g kp ge hat hle=>?_)
 ·obtain⟨v,g3,rv⟩:=fD vk i u g1;have g2':=g2;rw[Xb]at g2 g3;obtain⟨kv,k1,k2⟩:=Xc.mp g2;rw[k1]at g3;cases g3;have da:DA K (λ_=>False) H (kV kv.1) (di kv.1):=xC kv.1;subst k2;exact da.rh (pl _ (Yc g2')) I h rv
 ·rw[ln]at pm g;have hpn:H p=none:=by
   cases e:H p with
   |none=>rfl
   |some o=>
    obtain⟨ob,e'⟩:=(I.hok p o e).there;exact absurd rfl (ge p ob e')
  have eo:=xA ca pm g;have hγ:∀g∈γ.toList,g<Tj.length:=λg hg=>by
   have:=(Wm.mp pm).mem_iff.mp hg;rw[Bq,Za]at this;exact Qb.mp this
  have e2:(b7 (es.toList.map (·.key)) γ).toList=γ.toList.map λg=>(es.toList.map (·.key)).getD g .none:=by unfold b7;simp
  have vw:Tp (γ.toList.map λg=>(Tj.map λkv=>kV kv.1).getD g .non) (b7 (es.toList.map (·.key)) γ).toList:=by
   rw[e2];have:∀l:S8 Nat,(∀g∈l,g<Tj.length)->Tp (l.map λg=>(Tj.map λkv=>kV kv.1).getD g .non) (l.map λg=>(es.toList.map (·.key)).getD g .none):=λl=>by
    induction l with
    |nil=>exact λ_=>.nil
    |cons g l ih=>
     intro hl;have hg:g<Tj.length:=hl g Wc;have a1:(es.toList.map (·.key))[g]?=some ((es.toList.map (·.key))[g]'(by rw[esz];exact hg)):=Ya _
     obtain⟨v,g3,rv⟩:=fD vk g _ a1;refine .cons ?_ (ih λx hx=>hl x (Wb _ hx));show RelV ((Tj.map λkv=>kV kv.1).getD g .non) ((es.toList.map (·.key)).getD g .none);rw[Vb,Vb,a1,g3,CB,CB];exact rv
   exact this _ hγ
  refine⟨.ref p,upd H p (.lst (γ.toList.map λg=>(Tj.map λkv=>kV kv.1).getD g .non)),I.laid2 kp ge hpn ⟨?_,(b7 (es.toList.map (·.key)) γ).toList,n,vw,by simpa using hat⟩ (I.tkl' hle),rfl,q p _ hpn λY=>?_⟩
  ·rw[Za,Yd,pm.size_eq,AR,Za];exact hz
  ·rw[<-eo];have:∀l:S8 Nat,(∀g∈l,g<Tj.length)->El K Y H (l.map λg=>(Tj.map λkv=>kV kv.1).getD g .non) (l.map (dk (Tj.map λkv=>di kv.1))):=λl=>by
    induction l with
    |nil=>exact λ_=>El.nil
    |cons g l ih=>
     intro hl;have hg:g<Tj.length:=hl g Wc;rw[Zd,Zd];refine El.cons ?_ (ih λx hx=>hl x (Wb _ hx));show DA K Y H ((Tj.map λkv=>kV kv.1).getD g .non) _;rw[qm (d:=di Tj[g].1) (by rw[Xb,Ya hg];rfl),Vb,Xb,Ya hg]
     exact xC _
   exact this _ hγ
open Classical in
noncomputable def ky:S8 D->S9 Rz
 |[.dk Tj]=>if (∀x∈Tj.map (λkv=>di kv.1),Pl 40 x)/\CA 40 (Tj.map λkv=>di kv.1)/\(∃κ,Kd (Tj.map λkv=>di kv.1) κ)/\(Tj.map λkv=>di kv.1).length<64 then some (.lst (dD 40 (Tj.map λkv=>di kv.1)),true) else none
 |_=>none
theorem D5:TZ K (GZ K) ky:=by
 intro Y H xs ds z Q lv bs e q;cases bs with
 |nil=>cases e
 |@cons v vs d ds b1 bs=>
  cases bs with
  |cons _ _=>cases d<;>cases e
  |nil=>
   cases d with
   |dk kd=>
    dsimp only[ky]at e;obtain⟨a,Tj,rfl,h1,h2,h3⟩:=b1;have ek:(kd.map λkv=>di kv.1)=Tj.map λkv=>di kv.1:=by
     have:∀{α:Type}(l:S8 (Key×α)),(l.map λkv=>di kv.1)=(l.map (·.1)).map di:=λl=>by rw[Qd];rfl
     rw[this,this,h2]
    rw[ek]at e;obtain⟨c,e⟩:=aG e;cases e;obtain⟨c1,c2,⟨κ,c3⟩,c4⟩:=c;exact⟨a,Tj,κ,rfl,h1,c1,c2,c3,c4,λp ws hp el=>q _ _ (aF hp _) (fR (el _) hp)⟩
   |_=>cases e
end
end VF22
namespace VF22
open PySem PySem.Spec PyProof.Rows L2 VF
section
variable {K:PySem.W.Frag}
variable {P:Tf}{w:Th}{mg:Str->S9 Ta}{base h:Tg}{x:Str}{st:Stmt}{N ps:S8 Str}{k:Nat}{F:FS}{ds:S8 Ta}{dvs:S8 V}
def QU(K:PySem.W.Frag)(ta:TE):TT:=λσ H Q=>ta σ H λx H'=>∃k,Mu K x H' k/\Q k H'
def zm{X:Cx}{a:Expr}(h:X.K=K)(ha:PE X a ta)(he:∀whole,isTrue a X.env whole=(do let v <-whole;standAt a.pos;holding [v] (truthy v)):=by intro _;rfl):PT X a (QU K ta):=h ▸ EQ ha he
def qq(fa:FE):FT:=λst=>(fa st).bind λx=>(cont x.2 x.1).bind λd=>(d.seq).bind λds=>some (!ds.isEmpty,x.2)
def wc(ha:dC K ta fa):vv K (QU K ta) (qq fa):=by
 intro st σ H O Z Q E c Tn h q;refine cx h λr1 Tr e1 h=>bB h λd e2 h=>bB h λds e3 h=>?_;cases h;refine ha st σ H O Z _ E r1 Tr e1 λv1 H1 O1 x1 k1 E1 rv1 w1=>?_;obtain⟨a,vs,rfl,sq,el⟩:=pV (rv1.ba E1 e2) e3;have e:(!ds.isEmpty)=!vs.isEmpty:=by
  have:=el.1;cases vs<;>cases ds<;>first|rfl|cases this
 refine⟨!ds.isEmpty,?_,q H1 O1 x1 k1 E1⟩;rcases sq with sq|sq
 ·exact .inl ⟨vs,sq,e⟩
 ·exact .inr (.inl ⟨vs,sq,e⟩)
def D6{Tj:S8 (Key×D)}(h1:∀x∈Tj.map (λkv=>di kv.1),Pl 40 x)(h2:CA 40 (Tj.map λkv=>di kv.1))(h3:∃κ,Kd (Tj.map λkv=>di kv.1) κ)(h4:(Tj.map λkv=>di kv.1).length<64):ky [.dk Tj]=some (.lst (dD 40 (Tj.map λkv=>di kv.1)),true):=by
 dsimp only[ky];exact Af ⟨h1,h2,h3,h4⟩
end
end VF22
namespace VF22
open PySem L2 VF
def G0{X:Cx}{ON:S8 Str}{S:Scope}{env:Env}{N:S8 Str}{k:Nat}{Tl:S8 Nat}{scope:Scope}(hs:X.env.scope=relabel S env)(hN:X.N=ON)(h:Fo S ON N k Tl scope=true):Tz X N k Tl scope:=by
 have B:=cq (X:={ X with N:=ON,env:={ X.env with scope:=S } }) h rfl rfl;refine⟨B.kind,B.nocell,B.loc,λy hy hf=>?_,B.len,λj i hj=>?_⟩
 ·have q:S.names.lookup y.1=some .cell\/S.names.lookup y.1=some .free:=B.free y hy hf;show X.env.scope.names.lookup y.1=some .cell\/X.env.scope.names.lookup y.1=some .free;rw[hs];rcases dX (env:=env) (x:=y.1) S.names with⟨_,z⟩|⟨a,b,e1,e2,e3⟩
  ·rw[z]at q;rcases q with q|q<;>cases q
  ·have e4:(relabel S env).names.lookup y.1=some b:=e2;rw[e4];rw[e1]at q;rcases e3 with e3|e3
   ·rw[e3];exact q
   ·rw[e3.2];exact .inl rfl
 ·obtain⟨x,h1,h2,h3⟩:=B.cap j i hj;exact⟨x,h1,by rw[hN];exact h2,h3⟩
open PySem.Spec PyProof.Rows
section
variable {t:Te}{P:Tf}{w:Th}{A:Around}{E:Ta->Tb->Prop}{s:Tb}
def G1{T newId:String}{self a:Ta}{rest:S8 Ta}{kw:S8 (Str×Ta)}(hl:typeLookup (.type T) "__init__"=pure (some (.builtin "object.__init__")))(hm:Bind.madeBy (.type T)=pure (some newId))(hne:(some newId != some "object.__new__")=true) :
  Meets (Builtin.«object.__init__» ⟨self::a::rest,kw⟩) (λ_ R s=>s.TypeIs self T/\R (.ok (.ret .none)) s):=by
 refine .of_wp λprog w A R s hs=>?_;obtain⟨hT,hq⟩:=hs
 repeat (any_goals (first|assumption|wp_step))
 exact⟨_,rfl,hq⟩
def G2{T newId:String}{Bn:Builtin}{a:Ta}{rest:S8 Ta}{kw:S8 (Str×Ta)}{S:PySem.Spec}{Q:Ta->Tb->Prop}(ft:TypeCalled T newId "object.__init__")(hne:(some newId != some "object.__new__")=true)(hct:checkTypeCall T ⟨a::rest,kw⟩=pure ())(hcn:checkBuiltinCall newId ⟨.type T::a::rest,kw⟩=pure ())
  (hok:∀obj,argsOk "object.__init__" ⟨obj::a::rest,kw⟩)(en:entryFor table newId=some Bn)(g:Meets (Bn ⟨.type T::a::rest,kw⟩) S)(h:S A.in1 (wants (λobj s₁=>s₁.TypeIs obj T/\Q obj s₁) E) s):wpAny (model P w) A (call (.type T) (a::rest) kw) Q E s:=by
 obtain⟨c,tl,hmro⟩:=ft.mro;have hmade:=ft.made;have hsub:=ft.sub;have h1:=ft.notType;have h2:=ft.canCreate;refine wpAny_call (codeAny_of_tree ?_);show wpAny _ _ (callAny (.type T) _) _ _ _;refine Ac ⟨Code.quiet_builtin _ (by decide +kernel),Bc F.entry_type_call ?_⟩
 rw[Around.under_plain (weight_type_call_type T (a::rest) kw) (units_type_call_type T (a::rest) kw)]
 repeat (any_goals (first|assumption|wp_step))
 refine BE (codeAny_call_builtin ft.plain en (AF hcn (g P w A.in1 _ s h))) λr s₁ hr=>?_;cases r with
 |error e=>exact hr
 |ok fl=>
  cases fl with
  |ret obj=>
   obtain⟨hT,hq⟩:=hr;have hli:=ft.init.lookup;have hbi:=ft.init.bind obj
   repeat (any_goals (first|assumption|wp_step))
   refine BE (codeAny_call_builtin ft.init.plain F.entry_object_init (ft.init.check _ _ _ _ _ _ _ _ hT (hok obj) (G1 ft.init.lookup ft.made hne P w A.in1 (wants (λr s₂=>r=.none/\Q obj s₂) E) s₁ ⟨hT,rfl,hq⟩))) λr₂ s₂ hr₂=>?_;cases r₂ with
   |error e=>exact hr₂
   |ok fl₂=>
    cases fl₂ with
    |ret r=>
     obtain⟨rfl,hq⟩:=hr₂
     repeat (any_goals (first|assumption|wp_step))
    |_=>exact hr₂.elim
  |_=>exact hr.elim
abbrev Sn(t:Bool)(h:Heap)(l:Addr):Heap:=(zA t h l).push { cls:=.type "enumerate",data:=.fields #[.none,.bool false,.ref h.objs.size,rawInt 1,.none,.none] }
def xF(t:Te)(l:Td)(xs:Tc Ta)(tk:Nat):Meets (Builtin.«enumerate.__new__» ⟨[.type "enumerate",.ref l],[(Str.ofString "start",.int 1 tk)]⟩) (λ_ R s=>So t s.heap l xs/\R (.ok (.ret (.ref (zA t s.heap l).objs.size))) { s with heap:=Sn t s.heap l }) :=
 .of_wp λprog w A R s h=>by
  obtain⟨hp,g,d,tk,os⟩:=s;obtain⟨v1,q⟩:=h;have hsub:=sub_enumerate;have L1:So t (Shared.heap ⟨hp,g,d,tk,os⟩) l xs:=v1;obtain⟨⟨c0,d0,dt0,sl0⟩,ho,hc0,n0,hd0⟩:=id v1;replace hc0:c0=.type (Sh t):=hc0;replace hd0:dt0=.seq xs n0:=hd0;subst hc0 hd0;cases t with
  |false=>
   wp_walk using Al ho
   refine BL λz=>Ac ?_;split
   ·rename_i u _ _ _ _ _
    cases (u == Value.type "enumerate")<;>(wp_walk using Al ho,fE L1;exact⟨_,rfl,q⟩)
   ·wp_walk using Al ho,fE L1
    exact⟨_,rfl,q⟩
  |true=>
   wp_walk using Al ho
   refine BL λz=>Ac ?_;split
   ·rename_i u _ _ _ _ _
    cases (u == Value.type "enumerate")<;>(wp_walk using Al ho,fE L1;exact⟨_,rfl,q⟩)
   ·wp_walk using Al ho,fE L1
    exact⟨_,rfl,q⟩
end
section
variable {M:Model}{t:Te}{P:Tf}{w:Th}{A:Around}{E:Ta->Tb->Prop}{s:Tb}{env:Env}
def QV
  (h:wpAny M A (spliced (backTo pos (starEach [e] env))) (λvs s₁=>wpAny M A (evalAll ((backToKw pos (keywordEach kws env)).map (·.2))) (λTj s₂=>wpAny M A (call (.type T) vs (((backToKw pos (keywordEach kws env)).filterMap (·.1)).zip Tj)) Q E s₂) E s₁) E s)
  (he:backTo pos (starEach [e] env)=[(false,eval e env)]) (hall:(backToKw pos (keywordEach kws env)).all (·.1.isSome)=true) (hkw:(backToKw pos (keywordEach kws env)).any (·.1.isNone)=false) :
  wpAny M A (callWith pos (.type T) [] (backTo pos (starEach [e] env)) (backToKw pos (keywordEach kws env))) Q E s:=by
 rw[he]at h ⊢;unfold callWith;refine Aa (Aw (Ax (evalArgs_kwB (Q:=λa s₁=>wpAny M A (call (.type T) a.pos a.kw) Q E s₁) hall h) (λa s₁ h₁=>Aa (B5 ?_)) λ_ _ x=>x));simp only[Ym,List.any_nil,hkw,Bool.or_false];exact Aa (Ac (Aa (Ax h₁ (λr s₂ hr=>Aa (Aw (wpAny_point (Ac hr)))) λ_ _ x=>x)))
def xG(v1:So t s.heap l xs)
  (q:∀g,IsEnum g (s.heap.objs.size+1) s.heap.objs.size 1 .none->Io t g s.heap.objs.size l 0->(∀c o,s.heap.get? c=some o->g.get? c=some o)->Q (.ref (s.heap.objs.size+1)) { s with heap:=g }) :
  wpAny (model P w) A (call (.type "enumerate") [.ref l] [(Str.ofString "start",.int 1 tk)]) Q E s:=by
 refine G2 F.called_enumerate (by decide) (by kernel_rfl) (by kernel_rfl) (λo=>by kernel_rfl) F.entry_enumerate_new (xF t l xs tk) ⟨v1,?_⟩
 have m1:(zA t s.heap l).objs.size=s.heap.objs.size+1:=AD ..;have g2:(Sn t s.heap l).get? (zA t s.heap l).objs.size=some _:=Ag _ rfl;have g1:(Sn t s.heap l).get? s.heap.objs.size=some (zI t l):=Ab _ (Ag _ rfl);show _/\_;rw[m1]at g2;rw[m1];exact⟨⟨_,g2,rfl⟩,q _ g2 ⟨_,g1,rfl,rfl⟩ λc o e=>Ab _ (Ab _ e)⟩
end
section
variable {t:Te}{P:Tf}{w:Th}{A:Around}
def Sr{xs:Tc Ta}(hh:A.handled=none)(ne:l≠it):Draws P w A it [it,l] (xs.size+1) (λj x=>∃i,j=i+1/\xs[i]?=some x) (λj h=>∃i,j=i+1/\Io t h it l i/\So t h l xs) where
 live:=λ_ h ⟨i,_,st⟩=>(QQ (P:=P) (w:=w) hh ne).live i h st
 frame:=λ_ h h' ⟨i,e,st⟩ k=>⟨i,e,(QQ (P:=P) (w:=w) hh ne).frame i h h' st k⟩
 item:=λ_ s Q E hj ⟨i,e,st⟩ hQ=>(QQ (P:=P) (w:=w) hh ne).item i s Q E (by lia) st λx h1 tk hP Tr sb=>hQ x h1 tk ⟨i,e,hP⟩ ⟨i+1,by lia,Tr⟩ sb
 done:=λs Q E ⟨i,e,st⟩ hE=>(QQ (P:=P) (w:=w) hh ne).done s Q E ((show i=xs.size by lia) ▸ st) hE
end
section
variable {X:Cx}{K:PySem.W.Frag}{t:Te}{Ti:S8 (Td×Obj)}{σ:L2.St}{H:Hp}{s:Tb}{h':Tg}
def S2(K : PySem.W.Frag)(t : Te)(l : Td) : It :=
  ⟨λi H => ∃ xs x, Sq K t H l xs ∧ xs[i]? = some x,
   λi H v H' => ∃ p x, v = .ref p ∧ H p = none ∧ H' = upd H p (.tup [.int ((i : Int) + 1), x]) ∧ ∀ xs, Sq K t H l xs → xs[i]? = some x,
   λi H => ∃ xs, Sq K t H l xs ∧ xs.length ≤ i⟩
def S7(t:Te)(e it l:Td)(i:Nat)(h:Tg):Prop:=(∃old,IsEnum h e it ((i:Int)+1) old)/\Io t h it l i
def xH{x1}(ne:e≠it):Turn P w K (.Tuple es x1 ps) (S2 K t l) [e,it] e (S7 t e it l) where
 mem:=by simp
 obj:=λi h st b hb=>by
  obtain⟨⟨old,a1⟩,⟨o2,a2,_,d2⟩⟩:=st;have:b=e\/b=it:=by simpa using hb
  rcases this with rfl|rfl
  ·exact⟨_,a1,λv m=>by simp at m⟩
  ·exact⟨_,a2,λv m=>by rw[d2]at m;cases m⟩
 keep:=λi h h' st k=>by
  obtain⟨⟨old,a1⟩,a2⟩:=st;exact⟨⟨old,k e (by simp) _ a1⟩,a2.by λo q=>k it (by simp) o q⟩
 item:=by
  intro X hP hw hK hc i Ti s σ H E I hf st hg;subst hP hw hK;obtain⟨xs,x,q1,e1⟩:=hg;obtain⟨⟨old,a1⟩,a2⟩:=st;obtain⟨its,rv,p⟩:=q1.so I;obtain⟨u,hu,ru⟩:=rv.get e1;have hn:H s.heap.objs.size=none:=I.hok.fresh (Xa _);have lt:∀b∈[e,it],b≠s.heap.objs.size:=λb hb=>Vf <| by
   have:b=e\/b=it:=by simpa using hb
   obtain⟨o2,b2,_⟩:=id a2;rcases this with rfl|rfl
   ·exact Ai a1
   ·exact Ai b2
  have nl:=LM a2 p;have nel:e≠l:=λz=>by
   obtain⟨o,ho,hd,_⟩:=p;rw[<-z,a1]at ho;cases ho;cases t<;>(injection hd with y;exact absurd y (by decide))
  have hi:i<its.toArray.size:=by
   have:=(Wd.mp hu).1;simpa using this
  refine wpAny_pyNext_enum_itemD (i:=i+1) (Sr (A:=X.A.in1) (I.ok.hd hc) nl) a1 ⟨i,rfl,a2,p⟩ (by lia) ne (by simp;exact⟨ne,nel⟩) λu' g tk ⟨i',ei,hu'⟩ z1 ⟨i'',ei',Tr⟩ pT _ kp=>?_
  obtain rfl:i=i':=by lia
  obtain rfl:i+1=i'':=by lia
  have eu:u'=u:=by
   have e1:its.toArray[i]?=some u:=by simpa using hu
   rw[e1]at hu';exact(Option.some.inj hu').symm
  subst eu;refine⟨_,rfl,CT (s:={ s with heap:=g,toks:=tk+1 }) z1 λg2 z2 sb=>?_⟩;replace sb:Heap.SameBut e g g2:=sb;have kk:∀c o,c≠e->c≠it->s.heap.get? c=some o->g2.get? c=some o:=λc o c1 c2 q=>sb.extBut _ _ c1 (kp c o c1 c2 q);have pT2:g2.get? s.heap.objs.size=some { cls:=.type "tuple",data:=.seq #[.int ((i:Int)+1) tk,u'] }:=sb.extBut _ _ (Ne.symm (lt e (by simp))) pT
  have I1:L2.Inv X Ti σ (upd H s.heap.objs.size (.tup [.int ((i:Int)+1),x])) { s with heap:=s.heap.push { cls:=.type "tuple",data:=.seq #[.int ((i:Int)+1) tk,u'] },toks:=tk+1 } :=
   I.laid (λb o e=>Ab _ e) (Xa _) ⟨show 2<=sizeLine by decide,[.int ((i:Int)+1) tk,u'],.cons ⟨_,rfl⟩ (.cons ru .nil),⟨_,Ag _ rfl,rfl,_,rfl⟩⟩
  have ff:∀b∈[e,it],mG X Ti (upd H s.heap.objs.size (.tup [.int ((i:Int)+1),x])) b:=λb hb=>by
   obtain⟨f0,f1,f2,f3,f4,f5⟩:=hf b hb;exact⟨by rw[aO (lt b hb)];exact f0,f1,f2,f3,f4,f5⟩
  have I2:L2.Inv X Ti σ (upd H s.heap.objs.size (.tup [.int ((i:Int)+1),x])) { s with heap:=g2,toks:=tk+1 }:=by
   refine kn (s:={ s with heap:=s.heap.push { cls:=.type "tuple",data:=.seq #[.int ((i:Int)+1) tk,u'] },toks:=tk+1 }) (t':=tk+1) I1 ff λc o hc q=>?_;have hc':¬ (c=e\/c=it):=λm=>hc (by simpa using m)
   rcases BX q with⟨rfl,rfl⟩|q
   ·exact pT2
   ·exact kk c o (λm=>hc' (.inl m)) (λm=>hc' (.inr m)) q
  refine⟨.ref s.heap.objs.size,_,I2,rfl,⟨_,x,rfl,hn,rfl,λzs hz=>by rw[hz.inj I q1];exact e1⟩,?_,λb hb=>(ff b hb).1⟩
  exact⟨⟨_,by rw[CS];exact z2⟩,Tr.1.by λo q=>sb.extBut _ o (Ne.symm ne) q⟩
 done:=by
  intro X hP hw hK hc i Ti s σ H E I hf st hg;subst hP hw hK;obtain⟨xs,q1,hl⟩:=hg;obtain⟨⟨old,a1⟩,a2⟩:=st;obtain⟨its,rv,p⟩:=q1.so I;have l1:=rv.length;refine GX (I.ok.hd hc) a1 a2 p (by simp;lia) λg kp=>⟨rfl,kn (t':=s.toks) I hf λc o hc q=>?_⟩
  have hc':¬ (c=e\/c=it):=λm=>hc (by simpa using m)
  exact kp c o (λm=>hc' (.inr m)) q
 self:=λ_ _ _ _ _ st h=>by
  obtain⟨⟨old,a1⟩,_⟩:=st;exact Bw a1 h
def G3(K:PySem.W.Frag)(ta:TA):TI:=λσ H R=>ta σ H λvs H1=>∃t l xs,vs=[.ref l]/\Sq K t H1 l xs/\R (S2 K t l) H1
def G4{x1 j kq kp}(h:X.K=K)(hg:Gl X "enumerate")(hm:X.mg "enumerate"=none)(ha:PE X a te)(n:tL a=true:=by rfl)(hs:backTo pos (starEach [a] X.env)=[(false,eval a X.env)]:=by rfl) :
  PI X (.Tuple es x1 ps) (.Call (.Name "enumerate" p) [a] [⟨some "start",.Constant (.int 1) j kq,kp⟩] pos) (G3 K (iy te rf)):=by
 subst h;intro Ti s σ H R I h;refine AW (hV I hg hm sP (QV (cb (ag ha ae n pos Ti s σ H _ I h) λus s1 ⟨vs,H1,I1,r1,q1⟩=>?_) hs rfl rfl));obtain⟨t,l,xs,e,w1,q⟩:=q1;subst e;cases r1 with
 |cons r rr=>
  cases rr;cases r;refine PyProof.Rows.kws_cons (Bk (PyProof.Rows.kws_nil ?_));have I1:=I1.tok (s1.toks+1);generalize hs2:({ s1 with toks:=s1.toks+1 }:Tb)=s2 at I1;obtain⟨its,rv,p⟩:=w1.so I1;refine xG p λg z n1 kp=>?_;refine Bw (s:={ s2 with heap:=g }) z ⟨_,[s2.heap.objs.size+1,s2.heap.objs.size],_,_,H1,rfl,I1.kept (t':=s2.toks) kp,xH (Nat.succ_ne_self _),⟨⟨_,z⟩,n1⟩,λb hb=>?_,q⟩;have hb':b=s2.heap.objs.size+1\/b=s2.heap.objs.size:=by simpa using hb
  have le:s2.heap.objs.size<=b:=by
   rcases hb' with m|m<;>(rw[m];first|exact Xj _ _|exact Xa _)
  exact I1.fpOk le (I1.hok.fresh le)
def wd(ds:S8 D):S8 D:=ds.mapIdx λi d=>.tup [.int ((i:Int)+1),d]
def zn(fa:FA):FI:=λst=>(fa st).bind λx=>(cS x.1 x.2).bind λy=>(v7 y.1).bind λw=>some (wd w,y.2)
def we(h:tN K ta fa):UD K (G3 K ta) (zn fa):=by
 intro st σ H O Z R E items Tn e q;refine cx e λrs Tr e1 e=>?_;refine cx e λds TR e2 e=>?_;refine bB e λas e3 e=>?_;cases e;refine h st σ H O Z _ E rs Tr e1 λvs H1 O1 x1 k1 E1 rvs=>?_;obtain⟨O2,x2,k2,E2,el⟩:=rvs.esc E1 e2;have key:∃d,ds=[d]/\LG d=some as:=by
  replace e3:v7 ds=some as:=e3
  unfold v7 at e3;split at e3
  ·exact⟨_,rfl,e3⟩
  ·cases e3
 obtain⟨d,rfl,hd⟩:=key;obtain⟨v1,r,rfl,da1,el⟩:=el.uncons;obtain rfl:=el.unnil;obtain⟨t,l,xs,rfl,k3⟩:=y7 da1 hd;refine⟨t,l,xs,rfl,(k3 H1 O2 (TK.refl _ _)).1,q _ H1 O2 (x1.trans x2) (k1.trans k2) E2 λH' O' ex liv=>?_⟩;obtain⟨s1,el1⟩:=k3 H' O' ex;have n1:=el1.1;refine⟨λi hi=>⟨xs,s1,?_⟩,λi d hd=>?_⟩
 ·replace hi:(wd as).length<=i:=hi
  unfold wd at hi;rw[List.length_mapIdx]at hi;lia
 ·replace hd:(wd as)[i]?=some d:=hd
  unfold wd at hd;rw[Qk]at hd;obtain⟨a,ha,rfl⟩:=Xc.mp hd;obtain⟨x,hx,dx⟩:=el1.at ha;refine⟨⟨xs,x,s1,hx⟩,?_⟩;rintro v H'' ⟨p,x',rfl,hn,rfl,f1⟩;have ex':=f1 xs s1;rw[hx]at ex';cases ex';have sm:=aF hn (.tup [.int ((i:Int)+1),x]);exact⟨sm,.tup ⟨aS,λz=>(liv p z).1 hn⟩ rfl ((El.cons (.int _) (El.one dx)).same sm).2⟩
def Og{fa:FA}{st s1 s2:En}{rs:S8 Rs}{d:D}{ds:S8 D}(h1:fa st=some (rs,s1))(h2:cS rs s1=some ([d],s2))(h3:LG d=some ds):zn fa st=some (wd ds,s2):=by
 simp only[zn,h1,h2,Wa,v7,h3]
end
section
variable {X:Cx}{K:PySem.W.Frag}
def QW(p:Td)(Q:VK):S8 (V×V)->Hp->Prop|[(y,v)],H2=>∃b k,H2 p=some (.dT (0,[]) [])/\y=.ref b/\T5 H2 b k/\∀n,Q (.ref p) (upd H2 p (.dT (n,[b]) [(k,v)]))|_,_=>False
def G5(tk tv:TE):TE:=λσ H Q=>∀p,H p=none->tk σ (upd H p (.dT (0,[]) [])) λy H1=>tv σ H1 λv H2=>QW p Q [(y,v)] H2
def G6(hu:X.A.units+2<cLine)(hk:PE X k tk)(hv:PE X v tv):PE X (.Dict [some k] [v] pos) (G5 tk tv):=by
 intro Ti s σ H Q I q;have hn:=I.hok.fresh (Xa s.heap.objs.size);have I1:=I.laid (a:=s.heap.objs.size) (o:=.dT (0,[]) []) (h':=s.heap.push { cls:=.type "dict",data:=.dict #[] }) (t':=s.toks) (λ_ _ q=>Ab _ q) (Xa _) (vh s.heap I.big);have P:RN X pos [some k] [v] [(tk,tv)]:=EY hk hv IJ;refine wpAny_Dict_any rfl rfl (by simp) (by simp) (cb (P Ti _ σ _ (QW s.heap.objs.size Q) I1 (q _ hn)) λws s2 zz=>?_)
 obtain⟨ps,H2,I2,rel,zz⟩:=zz;cases rel with
 |nil=>exact zz.elim
 |@cons y z _ _ h t=>
  cases t with
  |cons _ _=>exact zz.elim
  |nil=>
   obtain⟨y,v⟩:=y;obtain⟨b,k,e,ey,eb,q2⟩:=zz;cases ey;obtain⟨u,r⟩:=z;cases (show u=Value.ref b from h.1);obtain⟨z,hd,xs,rel,ra0,dd⟩:=K1 I2.hok e;cases rel;have tkp:=I2.tk;unfold storeAll;rw[Be];refine Aa (Aa (wpAny_dictSet_heap (hsz:=by rw[AO];decide) (show(jr X.prog X.w).room X.A from⟨A3 (A3 hu),A3 hu⟩) (lw I2.hok eb) dd λh' dd' hs=>Ac ?_))
   show wpAny _ _ (forIn ([]:S8 (Ta×Ta)) PUnit.unit _) _ _ _;rw[C1];refine Ac ?_;obtain⟨q,es,ep',hq,h2,h3,h4,_,h5⟩:=dd';refine⟨.ref s.heap.objs.size,_,?_,rfl,q2 ep'⟩;refine tq I2 (by rw[e];exact True.intro) hs ⟨q,hq⟩ ⟨by rw[AO];simp,hd,_,.cons ⟨rfl,T5.stay (λc ys ec=>?_) eb,h.2⟩ .nil,rfl,q,es,hq,h2,h3,h4,h5⟩
   rw[aO (KK ec e (λz=>nomatch z))];exact ec
def Oh(i:Nat)(d:D):FE:=λst=>match st[i]? with|some (.v (.tup ds))=>(gq ds).bind λk=>some (.f (.dt [(k,d)]),st)|_=>none
def D7(i:Nat)(h:∀Y H,DA K Y H c d):dC K (G5 (tf i) (tC c)) (Oh i d):=by
 intro st σ H O Z Q E r Tn e q;unfold Oh at e;split at e
 ·rename_i ds e0
  refine bB e λk e1 e=>?_;cases e;intro p hp;obtain⟨v,h1,da⟩:=E.val i _ e0;cases da with
  |@tup b vs _ g1 g2 g3=>
   have el:El K (U O Z) H vs ds:=⟨g2,g3⟩;obtain⟨tk,tc⟩:=xB g1.1 el e1;refine⟨_,h1,?_⟩;have s1:Ts H (upd H p (.dT (0,[]) [])):=aF hp _;refine⟨b,k,aS,rfl,tk.stay (λc xs ec=>s1 c _ ec),λn=>?_⟩;have uu:upd (upd H p (.dT (0,[]) [])) p (.dT (n,[b]) [(k,c)])=upd H p (.dT (n,[b]) [(k,c)]):=by
    funext x;unfold upd;split<;>rfl
   rw[uu];have hres:UC K (U O Z) H (upd H p (.dT (n,[b]) [(k,c)])) (.ref p) (.dt [(k,d)],true):=by
    refine⟨p,rfl,hp,(n,[b]),[(k,c)],KA.go (Y:=U O Z) (H:=H) (λx hx=>?_) (λx o ex _=>aF hp _ x o ex) (λx z=>z.elim (λw=>.inr (w ▸ hp)) .inl),aS,rfl,λj v' d' a1 a2=>?_⟩
    ·rw[Zf.mp hx];refine⟨⟨g1.2,by rw[g1.1];simp⟩,λxs e2 c2 hc2=>?_⟩
     rw[g1.1]at e2;cases e2;exact tc c2 hc2
    ·cases j with|zero=>cases a1;cases a2;exact h _ _|succ j=>simp at a1
   obtain⟨E3,rv⟩:=hres.rv E (aF hp _);exact q _ _ O (Ts.ext (aF hp _)) (Kp.refl _) E3 rv λp' e=>by cases e;exact hp
 ·cases e
def key_is{s:Tb}{ks:S8 Key}(I:Inv X Ti σ H s)(h:iH X.K H b (ks.map kV)):(tupleKind (aM X.prog X.w)).is s.heap ks b:=by
 obtain⟨its,r,ht,hz⟩:=I.tuple h;obtain⟨o,h1,h2,n,h3⟩:=ht;exact⟨o,its.toArray,n,h1,h2,h3,by simpa using nI r⟩
abbrev KP(K:PySem.W.Frag):List (List Key×V)->List (List Key×Addr×Value)->Prop:=Paired λp q=>p.1=q.1/\(∀H:Hp,iH K H q.2.1 (p.1.map kV))/\RelV p.2 q.2.2
theorem Oj(r:KP K Tj xs)(k:S8 Key):Ue (jv Tj k) ((atKey xs k).map (·.2)):=by
 induction r with
 |nil=>exact True.intro
 |@cons p q ps qs h t ih=>
  obtain⟨h1,_,h2⟩:=h;by_cases e:p.1=k
  ·have b:atKey (q::qs) k=some q.2:=by simp[atKey,Yg,h1.symm.trans e]
   rw[jw e,b];exact h2
  ·have e':¬ q.1=k:=λz=>e (h1.trans z);have b:atKey (q::qs) k=atKey qs k:=by simp[atKey,Yg,e']
   rw[jx e,b];exact ih
def JQ(P:Tf)(w:Th)(K:PySem.W.Frag)(mg:Str->S9 Ta)(x:Str)(rows:S8 (S8 Key×D)):Prop :=
 ∃(C:Td)(o:Obj)(es:Tc DictEntry)(n:Nat)(xs:S8 (S8 Key×Td×Ta))(Tj:S8 (S8 Key×V)),mg x=some (.ref C)/\(C == sysModules)=false/\K.lookup C=some o/\o.ExactDict/\o.data=.dict es n /\
  es.toList=xs.map (entryOfKey (tupleKind (aM P w)))/\(xs.map (·.1)).Nodup/\KP K Tj xs/\Go (λv d=>∀(Y:AS)(H:Hp),DA K Y H v d) Tj rows
theorem Ol{s:Tb}(I:Inv X Ti σ H s)(q:KP X.K l m):∀y∈m,(tupleKind (aM X.prog X.w)).is s.heap y.1 y.2.1:=by
 induction q with
 |nil=>intro y hy;exact nomatch hy
 |@cons a b as bs hq t ih=>
  intro y hy;rcases Zc.mp hy with e|hy
  ·subst e;have:=key_is I (hq.2.1 H);rwa [hq.1]at this
  ·exact ih y hy
def Ss(K:PySem.W.Frag)(rows:S8 (S8 Key×D))(ty:TE):TE:=λσ H Q=>ty σ H λy H1=>∃(b:Td)(ks:S8 Key)(d:D),y=.ref b/\iH K H1 b (ks.map kV)/\br rows ks=some d/\∀v,(∀(Y:AS)(H':Hp),DA K Y H' v d)->Q v H1
def JR(hK:X.K=K)(hg:Gl X x)(hm:JQ X.prog X.w K X.mg x rows)(hu:X.A.units+1<cLine)(hi:PE X i ty)(hs:IH i)
  (hd:(x == ("__debug__":Str))=false:=by decide):PE X (.Subscript (.Name x p) i pos) (Ss K rows ty):=by
 subst hK;obtain⟨C,o,es,n,xs,Tj,hm,hC,k1,k2,k3,k4,k5,rel,g⟩:=hm;intro Ti s σ H Q I h;have ho:PE X (.Name x p) (tC (.ref C)):=yk hg hm rfl hd;refine yu PySem.F.slot_dict_getitem.lookup hs (cb (ho Ti s σ H (λy H1=>y=.ref C/\Ss X.K rows ty σ H1 Q) I ⟨rfl,h⟩) λu s1 ⟨y,H1,I1,rx,ey,q1⟩=>cb (hi Ti s1 σ H1 _ I1 q1) λiv s2 zz9=>?_);subst ey;obtain rfl:u=Value.ref C:=rx;obtain⟨y,H2,I2,ry,b,ks,d,ey,hb,l,q2⟩:=zz9;subst ey;cases (show iv=Value.ref b from ry);have dd:s2.heap.DictOfH (tupleKind (aM X.prog X.w)) C xs:=⟨o,es,n,I2.kIn _ _ k1,k2,k3,k4,Ol I2 rel,k5⟩;refine⟨dd.typeIs,?_⟩;rcases g.look ks with⟨n1,n2⟩|⟨v,d',n1,n2,n3⟩
 ·rw[l]at n2;cases n2
 ·rw[l]at n2;cases n2;have rv:=Oj rel ks;rw[n1]at rv;obtain⟨w',hw,rw'⟩:=Ue.some_of rv;obtain⟨p',hp,hp2⟩:=Xc.mp hw;refine wpAny_getItem_heap (tupleKind_room_in1 hu) (key_is I2 hb) dd hp ?_;rw[hp2];exact⟨v,H2,I2.tok _,rw',q2 v n3⟩
def S3(rows:S8 (S8 Key×D))(fe:FE):FE:=λst=>(fe st).bind λx=>(esc x.1 x.2).bind λy=>match y.1 with|.tup ds=>(mS ds).bind λks=>(br rows ks).bind λd=>some (.d d,y.2)|_=>none
theorem LO(ha:dC K te fe):dC K (Ss K rows te) (S3 rows fe):=by
 intro st σ H O Z Q E r Tn h q;refine cx h λr1 Tr e1 h=>?_;refine cx h λd1 TR e2 h=>?_;cases d1 with
 |tup ts=>
  refine bB h λks e4 h=>?_;refine bB h λd e5 h=>?_;cases h;refine ha st σ H O Z _ E r1 Tr e1 λv H1 O1 x1 k1 E1 rv _=>?_;refine bB e2 λd2 e6 e2=>?_;refine bB e2 λUs e7 e2=>?_;cases e2;obtain⟨O2,x2,k2,E2,da⟩:=rv.frz E1 e7 e6;cases da with
  |tup g1 g2 g3=>
   have kv:=uf (ks:=ks) ⟨g2,g3⟩ e4;subst kv;exact⟨_,ks,d,rfl,g1.sq,e5,λv hv=>q v H1 O2 (x1.trans x2) (k1.trans k2) E2 (hv _ _) True.intro⟩
 |_=>cases h
end
def JS(i j:Int):Int:=PySem.reduceHash (PySem.Builtin.Tuple.tupleHashOf [PySem.hashInt i,PySem.hashInt j])
def ktab_mk4{K:PySem.W.Frag}
  (hm:mg x=some (.ref C))(hl:K.lookup C=some ⟨.type "dict",none,.dict #[⟨h1,.ref a1,.str s1 t1⟩,⟨h2,.ref a2,.str s2 t2⟩,⟨h3,.ref a3,.str s3 t3⟩,⟨h4,.ref a4,.str s4 t4⟩] n,#[]⟩)(hC:(C == sysModules)=false)
  (l1:K.lookup a1=some ⟨.type "tuple",none,.seq #[.int i1 u1,.int j1 v1] m1,#[]⟩) (e1:h1=JS i1 j1) (l2:K.lookup a2=some ⟨.type "tuple",none,.seq #[.int i2 u2,.int j2 v2] m2,#[]⟩) (e2:h2=JS i2 j2) (l3:K.lookup a3=some ⟨.type "tuple",none,.seq #[.int i3 u3,.int j3 v3] m3,#[]⟩) (e3:h3=JS i3 j3) (l4:K.lookup a4=some ⟨.type "tuple",none,.seq #[.int i4 u4,.int j4 v4] m4,#[]⟩) (e4:h4=JS i4 j4) (nd:([[.inl i1,.inl j1],[.inl i2,.inl j2],[.inl i3,.inl j3],[.inl i4,.inl j4]]:S8 (S8 Key)).Nodup:=by decide):JQ P w K mg x [([.inl i1,.inl j1],.str s1),([.inl i2,.inl j2],.str s2),([.inl i3,.inl j3],.str s3),([.inl i4,.inl j4],.str s4)]:=by
 have st:∀(a:Td)(i j:Int)(u v:Tok)(m:Nat),K.lookup a=some ⟨.type "tuple",none,.seq #[.int i u,.int j v] m,#[]⟩->∀H:Hp,iH K H a (([.inl i,.inl j]:S8 Key).map kV):=λa i j u v m l H=>
  .inr ⟨_,_,m,l,rfl,rfl,by show 2<=sizeLine;decide,.cons ⟨u,rfl⟩ (.cons ⟨v,rfl⟩ .nil)⟩
 refine⟨C,_,_,n,[([.inl i1,.inl j1],a1,.str s1 t1),([.inl i2,.inl j2],a2,.str s2 t2),([.inl i3,.inl j3],a3,.str s3 t3),([.inl i4,.inl j4],a4,.str s4 t4)],[([.inl i1,.inl j1],.str s1),([.inl i2,.inl j2],.str s2),([.inl i3,.inl j3],.str s3),([.inl i4,.inl j4],.str s4)],hm,hC,hl,⟨rfl,rfl,rfl⟩,rfl,?_,nd,.cons ⟨rfl,st a1 i1 j1 u1 v1 m1 l1,t1,rfl⟩ (.cons ⟨rfl,st a2 i2 j2 u2 v2 m2 l2,t2,rfl⟩ (.cons ⟨rfl,st a3 i3 j3 u3 v3 m3 l3,t3,rfl⟩ (.cons ⟨rfl,st a4 i4 j4 u4 v4 m4 l4,t4,rfl⟩ (.nil)))),Go.cons rfl (λ_ _=>.str _) (Go.cons rfl (λ_ _=>.str _) (Go.cons rfl (λ_ _=>.str _) (Go.cons rfl (λ_ _=>.str _) ( Go.nil))))⟩;subst e1 e2 e3 e4;rfl
section
variable {X:Cx}{K:PySem.W.Frag}{te:TE}{t:TA}{sp:Sp}{f:Td}{x n:Str}{k k':Nat}{ps:S8 Str}{e:Expr}{es:S8 Expr}{p pos:Pos}
def LP(f:Td)(te:TE)(sp:Sp)(t:TA):TE:=λσ H Q=>te σ H λv H1=>v=.ref f/\t σ H1 λvs H2=>sp vs H2 Q E0
def zo(C:TY X.prog X.w X.K X.mg X.base n k ps sp)(hf:X.mg n=some (.ref f))(hr:TX k' X.A)(hv:PE X (.Name x p) te)(ha:PA X (e::es) t)(hk:k<=k':=by decide)
  (he:starEach (e::es) X.env=(false,eval e X.env)::starEach es X.env:=by rfl) (hpl:(backTo pos (starEach es X.env)).any (·.1)=false:=by rfl) :
  PE X (.Call (.Name x p) (e::es) [] pos) (LP f te sp t):=by
 obtain⟨f',fd,F,hm,hkp,hb⟩:=C.ex;rw[hf]at hm;cases hm;intro Ti s σ H Q I h;refine AW (cb (hv Ti s σ H _ I h) λu s1 zz=>?_);obtain⟨v,H1,I1,rv,ev,q⟩:=zz;subst ev;obtain rfl:u=Value.ref f:=rv;refine PySem.W.callWith_K (h₀:=X.base) I.ok.mod.kin hkp (cb (ha pos Ti s1 σ H1 _ I1 q) λus s2 ⟨vs,H2,I2,r,q2⟩=>⟨I2.kIn,?_⟩) he hpl;exact ET F (hr.mono hk) hb .nil K7 I2 r (by rw[Zg];exact q2)
def nU(n:Str)(g:S8 D->S9 Rz)(i:Nat)(fa:FA):FE:=λst=>match st[i]? with|some (.v (.fn m))=>if m=n then bx g fa st else none|_=>none
def wf(hn:PySem.W.nsIn K mainGlobals n=some (some (.ref f)))(ha:tN K ta fa):dC K (LP f (tf i) (gk K g) ta) (nU n g i fa):=by
 intro st σ H O Z Q E r Tn h q;unfold nU at h;split at h
 ·rename_i m em
  obtain⟨e0,h'⟩:=aG h;subst e0;obtain⟨v,e1,da⟩:=E.val i _ em;cases da with
  |fn hm=>
   rw[hn]at hm;cases hm;exact⟨_,e1,rfl,pQ ha st σ H O Z Q E r Tn h' q⟩
 ·cases h
def QX(hn:PySem.W.nsIn K mainGlobals n=some (some (.ref f))):dC K (tC (.ref f)) (fC (.fn n)):=DE λ_ _=>.fn hn
def QY(hg:Gl X u)(hm:X.mg u=some (.ref c))(hd:(u == ("__debug__":Str))=false:=by decide):PE X (.Name u pos) (tC (.ref c)):=yk hg hm rfl hd
def wg{g:S8 D->S9 Rz}{i:Nat}{fr:FA}{st s1:En}{rs:S8 Rs}{ds:S8 D}{d:D}(h0:st[i]?=some (.v (.fn n)))(h1:fr st=some (rs,s1))(h2:cj s1 rs=some ds)(h3:g ds=some (d,false))(h4:d.isSc=true):nU n g i fr st=some (.d d,s1):=by
 unfold nU;simp only[h0,if_true];exact bz h1 h2 h3 h4
end
section
variable {X:Cx}{K:PySem.W.Frag}
def kR(mx:Te)(ys:S8 Int):Int:=ys.getD (argBest (λi j=>if mx then decide (ys.getD i 0 > ys.getD j 0) else decide (ys.getD i 0<ys.getD j 0)) (ys.length-1)) 0
def G7(h:ys≠[]):kR mx ys∈ys/\∀y∈ys,if mx then y<=kR mx ys else kR mx ys<=y:=by
 have hp:=List.length_pos_iff.mpr h;have key:∃k,k<ys.length/\kR mx ys=ys.getD k 0/\∀j,j<ys.length->if mx then ys.getD j 0<=ys.getD k 0 else ys.getD k 0<=ys.getD j 0:=by
  cases mx with
  |true=>
   obtain⟨h1,h2⟩:=argBest_gt (λi=>ys.getD i 0) (ys.length-1);exact⟨argBest (λi j=>decide (ys.getD i 0 > ys.getD j 0)) (ys.length-1),by lia,rfl,λj hj=>h2 j (by lia)⟩
  |false=>
   obtain⟨h1,h2⟩:=argBest_lt (λi=>ys.getD i 0) (ys.length-1);exact⟨argBest (λi j=>decide (ys.getD i 0<ys.getD j 0)) (ys.length-1),by lia,rfl,λj hj=>h2 j (by lia)⟩
 obtain⟨k,hk,e,hb⟩:=key;have gd:∀j (hj:j<ys.length),ys.getD j 0=ys[j]:=λj hj=>by rw[Vb,Ya hj];rfl
 refine⟨by rw[e,gd k hk];exact Wi hk,λy hy=>?_⟩
 obtain⟨j,hj,rfl⟩:=List.mem_iff_getElem.mp hy;have:=hb j hj;rw[gd j hj]at this;rw[e];exact this
def G8(mx:Te)(K:PySem.W.Frag):S8 V->Hp->VK->Prop:=λxs H Q=>∃(p:Td)(ys:S8 Int),xs=[.ref p]/\gR K H p (ys.map V.int)/\ys≠[]/\Q (.int (kR mx ys)) H
def G9{s:Tb}{ys:S8 Int}(I:L2.Inv X Ti σ H s)(hc:X.calm=true)(sq:gR X.K H p (ys.map V.int))(hne:ys≠[])(q:Q (.int (kR mx ys)) H){E:Ta->Tb->Prop}(hop:∀(a b:Int)(t u:Tok)(s':Tb)(Q':Ta->Tb->Prop)(E':Ta->Tb->Prop),Q' (.bool (if mx then decide (a > b) else decide (a<b))) s'->wpAny (model X.prog X.w) X.A.in1 (richCompare op (.int a t) (.int b u)) Q' E' s') :
  wpAny (model X.prog X.w) X.A.in1 (pyIter (.ref p)) (λit s₂=>∃I fp wr n P St bt,it=.ref I/\Walks X.prog X.w X.A.in1 I fp wr n P St/\St 0 s₂.heap/\(∀b∈fp,b<s₂.heap.objs.size)/\0<n/\CmpOf X.prog X.w X.A.in1 op P bt /\
   ∀v h' tk,P (argBest bt (n-1)) v->(∀b o,b∉wr->s₂.heap.get? b=some o->h'.get? b=some o)->s.toks<=tk->EP X Ti σ Q v { s₂ with heap:=h',toks:=tk }) E s:=by
 obtain⟨its,r,pl,hz⟩:=I.list sq;have hlen:its.length=ys.length:=by have:=r.length;simpa using this.symm
 obtain⟨op,np,ep,cp,dp,sp⟩:=id pl;have hpn:p≠s.heap.objs.size:=Vf (Ai ep);have hpos:=List.length_pos_iff.mpr hne;have itAt:∀(i:Nat) v,its.toArray[i]?=some v->∃t',v=.int (ys.getD i 0) t':=λi v hv=>by
  obtain⟨w,e1,rw'⟩:=fD r i v (by simpa using hv)
  rw[Xb]at e1;obtain⟨y,e2,rfl⟩:=Xc.mp e1;obtain⟨t',rfl⟩:=rw';exact⟨t',by rw[Vb,e2];rfl⟩
 refine Bv pl.isList ?_;refine⟨s.heap.objs.size,_,_,_,_,_,λi j=>if mx then decide (ys.getD i 0 > ys.getD j 0) else decide (ys.getD i 0<ys.getD j 0),rfl,Walks.list (show X.A.in1.handled=none from I.ok.hd hc) s.heap.objs.size p hpn its.toArray,⟨⟨_,Ag _ rfl,rfl,rfl⟩,⟨op,Ab _ ep,cp,np,sp⟩⟩,λb hb=>?_,by rw[Yb];lia,?_,λv h' tk hv kp hle=>?_⟩
 ·show b<(s.heap.push _).objs.size;rw[AD];rcases Zc.mp hb with rfl|hb
  ·exact CF _
  ·obtain rfl:=Zf.mp hb;exact A0 (Ai ep)
 ·intro i j vi vj s' Q' E' hi hj hq;obtain⟨t1,rfl⟩:=itAt i vi hi;obtain⟨t2,rfl⟩:=itAt j vj hj;exact hop _ _ _ _ _ _ _ hq
 ·obtain⟨t',rfl⟩:=itAt _ v hv;rw[Yb,hlen];refine⟨.int _,H,I.kept (t':=tk) (λb o e=>?_) (I.tkl' hle),⟨t',rfl⟩,q⟩;refine kp b o (λhm=>?_) (Ab _ e);have:=Ai e;obtain rfl:=Zf.mp hm;exact Xh _ this
def D8(h:X.K=K)(hc:X.calm=true):TB X (.builtin "min") (G8 false K):=by
 intro Ti s σ H xs us Q I rv hh;obtain⟨p,ys,rfl,sq,hne,q⟩:=hh;subst h;obtain⟨u,rfl,ru⟩:=vals1 rv;cases ru;refine bJ (call_min_walk ?_);have B:=G9 (E:=X.xe) I hc sq hne q (op:=.Lt) λa b t u s' Q' E' hq=>PyProof.Rows.lt_int hq;refine Ax B (λit s2 z=>?_) λ_ _ z _=>z;obtain⟨I',fp,wr,n,P,St,bt,e1,e2,e3,e4,e5,e6,e7⟩:=z;exact⟨I',fp,wr,n,P,St,bt,e1,e2,e3,e4,e5,e6,λv h' tk hv kp hle=>e7 v h' tk hv kp hle⟩
def xI(mx:Te):S8 D->S9 Rz|[.lst ds]=>(nT ds).bind λys=>if ys=[] then none else some (.int (kR mx ys),false)|_=>none
theorem Ha:TZ K (G8 mx K) (xI mx):=by
 intro Y H xs ds z Q lv bs e q;cases bs with
 |nil=>cases e
 |@cons v vs d ds c1 bs=>
  cases bs with
  |cons _ _=>cases d<;>cases e
  |nil=>
   cases d with
   |lst es=>
    refine bB e λys e1 e=>?_;by_cases c:ys=[]
    ·simp only[Af c]at e;cases e
    ·simp only[Ah c]at e;cases e;obtain⟨p,ws,rfl,hp,el⟩:=c1;obtain rfl:=sO el e1;exact⟨p,ys,rfl,.inl (.inl hp),c,q _ H (Ts.refl H) (.int _)⟩
   |_=>cases e
end
end VF22
namespace VL
open PySem L2 VF
def Lw(x:Str):Prop:=∀c∈x.cps.toList,97<=c/\c<=122
abbrev Vr:Str:=Str.ofString "abcdefghijklmnopqrstuvwxyz"
def qr:Vr.cps.toList=List.range' 97 26:=by decide +kernel
def Nm(x:Str):Prop:=1<=x.length/\x.length<=6/\Lw x
def Hb(h:∀y∈ys,∃c,y=⟨#[c]⟩/\97<=c/\c<=122):Lw (Txt.join (Str.ofString "") ys):=by
 intro c hc;have e:Txt.join (Str.ofString "") ys=Str.join (Str.ofString "") ys:=StrLaws.glued_eq_join _ _;rw[e]at hc;rcases(PyProof.Rows.mem_join _ _ _).mp hc with⟨t,ht,hct⟩|⟨_,z⟩
 ·obtain⟨c',rfl,h1⟩:=h t ht;have:c=c':=by simpa using hct
  rw[this];exact h1
 ·have hE:(Str.ofString "").cps.toList=[]:=by decide +kernel
  rw[hE]at z;cases z
theorem join_ones{ys:S8 Str}(h:∀y∈ys,∃c,y=(⟨#[c]⟩:Str)):(Txt.join (Str.ofString "") ys).length=ys.length :=
 PySem.W.KT.join_ones ys λa ha=>by obtain⟨c,rfl⟩:=h a ha;rfl
theorem Hc{ys:S8 Str}(h:∀y∈ys,∃c,y=(⟨#[c]⟩:Str)):(ys.map (·.length)).sum=ys.length:=by
 induction ys with
 |nil=>rfl
 |cons y r ih=>
  obtain⟨c,rfl⟩:=h y Wc;rw[Zd,List.sum_cons,ih λz hz=>h z (Wb _ hz)];show 1+r.length=r.length+1;lia
def Lw.app(a:Lw x)(b:Lw y):Lw (x++y):=λc hc=>by
 rw[CV,B4]at hc;rcases Qe.mp hc with z|z
 ·exact a c z
 ·exact b c z
def Hd:Lw (Str.ofString ""):=λc hc=>by
 have hE:(Str.ofString "").cps.toList=[]:=by decide +kernel
 rw[hE]at hc;cases hc
def word(s:Nat):Str:=Txt.mul ⟨#[97+s % 26]⟩ (1+((s:Nat):Int) / 26)
def kz(s:Nat):(word s).cps.toList=List.replicate (1+s / 26) (97+s % 26):=by
 unfold word;rw[PyProof.Rows.mul_one_list];have e:(1+((s:Nat):Int) / 26).toNat=1+s / 26:=by lia
 rw[e]
def wj(s:Nat):(word s).length=1+s / 26:=by
 have:=congrArg List.length (kz s);rw[Qi,Yd]at this;exact this
def He(h:word a=word b):a=b:=by
 have h1:(word a).cps.toList=(word b).cps.toList:=by rw[h]
 rw[kz,kz]at h1;have h2:=congrArg List.length h1;rw[Qi,Qi]at h2;have h3:=congrArg (λl=>l[0]?) h1;simp only[Xl]at h3;rw[Af (by lia),Af (by lia)]at h3
 have h4:=Option.some.inj h3;lia
def JT(h:s<=120):Nm (word s):=by
 refine⟨by rw[wj];lia,by rw[wj];lia,λc hc=>?_⟩
 rw[kz]at hc;have:=C8 hc;lia
def D9{xs:S8 Str}(h:∀j,j<s->word j∈xs):s<=xs.length:=by
 have:=vt ((List.range s).map word) xs (by
  show List.Pairwise _ _;rw[Vg];exact List.nodup_range.imp λhne e=>hne (He e)) (λx hx=>by
  obtain⟨j,hj,rfl⟩:=Va.mp hx
  exact h j (Qb.mp hj))
 rw[Za,Ze]at this;exact this
def Om(s:Nat):oF Vr.cps.toList (((s:Nat):Int) % 26)=some (97+s % 26):=by
 have e:((s:Nat):Int) % 26=(((s % 26:Nat)):Int):=by lia
 rw[e];refine mI ?_;rw[qr,List.getElem?_range' (by lia)]
 congr 1;lia
theorem lJ:∀{l:S8 α}{i:Nat}(h:i<l.length),(l[i]::l.eraseIdx i).Perm l|_::_,0,_=>List.Perm.refl _|x::r,i+1,h=>(List.Perm.swap x _ _).trans (List.Perm.cons x (lJ (l:=r) (i:=i) (Nat.lt_of_succ_lt_succ h)))
abbrev minus:Str:=Str.ofString "-"
def bd(p:Te×Str):Str:=if p.1 then minus++p.2 else p.2
def lK:minus.cps.toList=[45]:=by decide +kernel
def uq(h:Nm p.2):1<=(bd p).length/\(bd p).length<=7:=by
 have e:minus.length=1:=by decide +kernel
 unfold bd;split
 ·rw[AL,e];have:=h.1;have:=h.2.1;lia
 ·have:=h.1;have:=h.2.1;lia
def JU{x y:Str}(h:x.cps.toList=y.cps.toList):x=y:=by
 cases x;cases y;have:_=_:=Array.toList_inj.mp h;exact congrArg Str.mk this
def xJ:Txt.slice (minus++n) (some 1) none=n:=by
 have e:minus.length=1:=by decide +kernel
 rw[PyProof.Rows.slice_from_eq (i:=1) (b:=((minus++n).length:Int)) (by decide) (by rw[AL,e];lia) rfl]
 refine JU ?_;show((List.drop 1 (minus++n).cps.toList).take _).toArray.toList=_;rw[CV,B4,lK,AL,e];show List.take _ n.cps.toList=_;refine Dc ?_;rw[Yd];show n.length<=_;lia
def Ea(d0:0<=d)(d1:d<2):Txt.mul minus d++n=bd (decide (d=1),n):=by
 have h:d=0\/d=1:=by lia
 rcases h with rfl|rfl
 ·show(if (0:Int)<1 then Str.empty else _)++n=_;rw[Af (by decide)]
  exact Str.empty_append n
 ·rfl
theorem JV{n:Str}(h:Nm n):∃c r,n.cps.toList=c::r/\c≠45:=by
 cases e:n.cps.toList with
 |nil=>
  have h1:1<=n.length:=h.1;have:=congrArg List.length e;rw[Yd]at this;have h2:n.cps.size=n.length:=rfl;rw[h2]at this;simp at this;lia
 |cons c r=>
  refine⟨c,r,rfl,λz=>?_⟩;have hc:=h.2.2 c (by rw[e];exact Wc)
  lia
def nV(h:Nm n):Txt.startswith (bd (t,n)) minus=t:=by
 have e1:minus.length=1:=by decide +kernel
 have hl:=(uq (p:=(t,n)) h).1;unfold Txt.startswith
 rw[Ae (show 0+minus.length<=(bd (t,n)).length by lia),Bool.true_and,StrLaws.subAt_eq,lK,e1]
 cases t with
 |true=>
  show((((minus++n).cps.toList).drop 0).take 1 == [45])=true;rw[CV,B4,lK];rfl
 |false=>
  obtain⟨c,r,e,hc⟩:=JV h;show(((n.cps.toList).drop 0).take 1 == [45])=false;rw[e];show([c] == [45])=false;simp[hc]
end VL
namespace K50
open PySem L2 VF VF22
def xK:S8 (S8 Key×D):=[([.inl 0,.inl 0],.str "ring"),([.inl 1,.inl 1],.str "odd"),([.inl 2,.inl 0],.str "ours"),([.inl 0,.inl 2],.str "theirs")]
noncomputable section
abbrev am:FE:=aB 0
abbrev au:FE:=aB 1
abbrev aL:FE:=aB 2
abbrev aT:FE:=aB 3
abbrev bL:FE:=aB 4
abbrev d8:FE:=aB 5
abbrev gt:FE:=aB 6
abbrev nW:FE:=aB 7
abbrev nX:FE:=aB 8
abbrev ut:FE:=aB 9
abbrev pf:FE:=aB 10
abbrev JW:FE:=aB 11
abbrev zp:FE:=aB 12
abbrev zq:FE:=aB 13
abbrev bq:FE:=fC (.int 0)
abbrev aA:FE:=fC (.int 1)
abbrev cm:FE:=fC (.int 2)
abbrev fU:FE:=fC (.int 3)
abbrev iV:FE:=fC (.int 4)
abbrev zr:FE:=fC (.int 6)
abbrev zt:FE:=fC (.int 7)
abbrev JX:FE:=fC (.int 8)
abbrev JY:FE:=fC (.int 9)
abbrev Hg:FE:=fC (.int 10)
abbrev Hh:FE:=fC (.int 11)
abbrev Hi:FE:=fC (.int 18)
abbrev Hj:FE:=fC (.int 23)
abbrev qt:FE:=fC (.int 26)
abbrev xL:FE:=fC (.int 7919)
abbrev wl:FE:=fC (.int 40013)
abbrev wm:FE:=fC (.int 48271)
abbrev oA:FE:=fC (.int 65521)
abbrev kS:FE:=fC (.int 1000003)
abbrev qu:FE:=fC (.int 12820163)
abbrev iC:FE:=fC (.int 2147483647)
def jK:FS :=
  (bj (Qt "str" yQ am (aa (fC (.str "-")) ai)))
def fJ:S8 D->S9 Rz:=bi jK 1 1
def nY:FS :=
  (bj (IV (aJ (bx fJ (aa am ai))) (o8 DI am (bU aA) yO) am))
def kA:S8 D->S9 Rz:=bi nY 1 1
def lL:FS :=
  (bj (IV (aJ (bx fJ (aa am ai))) (bx kA (aa am ai)) (aE bF (fC (.str "-")) am)))
def iW:S8 D->S9 Rz:=bi lL 1 1
def gu:FS :=
  (bj (dM fS (aa (cG 1 [] (Ly am) (gN 0) cT (bx iW (aa am ai))) ai)))
def jL:S8 D->S9 Rz:=bi gu 1 1
def iX:FS :=
  (hZ (aJ (dM cO (aa aL (aa (fC (.ty "str")) ai)))) (eS (fM pW fB 1 (aa aL ai))) (eS (fM pW kl 1 (aa (aE dG aL aA) ai))))
def lN:FS :=
  (ay (aU (dY ai) 1)
  (ay (cL (kQ am) (gN 2) iX)
  (bj au)))
def lO:S8 D->S9 Rz:=bi lN 3 1
def fV:FE :=
  (bx kA (aa am ai))
def lP:FS :=
  (bj (dM tW (aa (cG 1 [] (kQ (bb lO (aa am ai))) (gN 0) cT fV) ai)))
def lQ:S8 D->S9 Rz:=bi lP 1 1
def dj:FS :=
  (gS dR (aE bF (JM au aT bq) aA) 1 aT)
def dm:FS :=
  (cL (kQ (bb lQ (aa aL ai))) (gN 3) dj)
def dq:FT :=
  (aJ (aE xl (aE gY au am) (dM dS (aa aL ai))))
def dr:FE :=
  am
def gw:FS :=
  (ay (aU (jJ (.dk [])) 1)
  (ay (cL (kQ am) (gN 2) dm)
  (ay (aU (cG 1 [1,0] (kQ (dM ky (aa au ai))) (gN 0) dq dr) 4)
  (hZ (qq bL) qb bN))))
def gx:S8 D->S9 Rz:=bi gw 5 1
def lR:FS :=
  (bj (dM fS (aa (dM d7 (aa am ai)) ai)))
def lT:S8 D->S9 Rz:=bi lR 1 1
def ie:FS :=
  (gS dR aL 1 aT)
def ig:FS :=
  (cL (kQ aL) (gN 3) ie)
def jM:FS :=
  (ay (aU (jJ (.dt [])) 1)
  (ay (cL (kQ am) (gN 2) ig)
  (bj au)))
def gZ:S8 D->S9 Rz:=bi jM 4 1
def gy:FT :=
  (aJ (aE uV (dM dS (aa am ai)) aA))
def gz:FE :=
  am
def iY:FS :=
  (bj (dM dS (aa (cG 1 [] (RT am) (gN 0) gy gz) ai)))
def dA:S8 D->S9 Rz:=bi iY 1 1
def gA:FE :=
  (aE gY au am)
def gB:FE :=
  (aE gY au am)
def d9:FS :=
  (hZ (aJ (aE (uk true) nX aT)) (ay (gS dR (fC (.bl true)) 3 nX)
  (eS (fM pW fB 5 (aa nX ai)))) bN)
def ee:FS :=
  (ay (gS dR (fC (.bl true)) 4 nW)
  (cL (kQ (cG 1 [1] (kQ nW) (gN 0) cT gB)) (gN 8) d9))
def cW:FS :=
  (ay (aU (Ph pW NB 5) 6)
  (cL (kQ (cG 1 [2] (kQ gt) (gN 0) cT gA)) (gN 7) ee))
def iZ:FS :=
  (ay (aU (Oh 0 (.bl true)) 3)
  (ay (aU (jJ (.dt [])) 4)
  (ay (aU (dY (aa am ai)) 5)
  (ay (yL (qq d8) cW 1000)
  (ay (aU (S3 xK (jA (aa (bx dA (aa aT ai)) (aa (bx dA (aa bL ai)) ai)))) 9)
  (bj (jA (aa ut (aa (dM fS (aa (dM nS (aa aT ai)) ai)) (aa (dM fS (aa (dM nS (aa bL ai)) ai)) ai))))))))))
def i9:S8 D->S9 Rz:=bi iZ 10 3
def fW:FS :=
  (gS dR (fC (.bl true)) 5 nX)
def fX:FS :=
  (hZ (aJ (aE (uk true) gt d8)) (ay (aU (bb i9 (aa gt (aa aL (aa aT ai)))) 7)
  (ay (eS (fM pW fB 4 (aa nW ai)))
  (cL (kQ (aE dG nW aA)) (gN 8) fW))) bN)
def lU:FS :=
  (ay (aU (bb gZ (aa am ai)) 2)
  (ay (aU (bb gZ (aa au ai)) 3)
  (ay (aU (dY ai) 4)
  (ay (aU (jJ (.dt [])) 5)
  (ay (cL (kQ am) (gN 6) fX)
  (bj (dM d7 (aa bL ai))))))))
def lV:S8 D->S9 Rz:=bi lU 9 2
def gC:FS :=
  (ay (gS dR aT 2 bL)
  (gS dR (RP P8 aT) 2 (bx iW (aa bL ai))))
def eG:FE :=
  (aE gY au am)
def ja:FS :=
  (ay (eS (bb gx (aa (dY (aa am (aa au ai))) ai)))
  (ay (aU (jJ (.dk [])) 2)
  (ay (cL (zn (aa au ai)) (gT 2 (jB (gN 3) (jB (gN 4) xh))) gC)
  (bj (aE bF (aE bF (dY (aa bq ai)) (cG 1 [2] (kQ am) (gN 0) cT eG)) (dY (aa (aE bF (dM dS (aa am ai)) aA) ai)))))))
def fY:S8 D->S9 Rz:=bi ja 5 2
def ii:FS :=
  (bj (jA (aa (dM (b1 Js) (aa am ai)) (aa (IV (aJ (aE Pi am bq)) bq aA) ai))))
def ij:S8 D->S9 Rz:=bi ii 1 1
def gE:FS :=
  (bj (jA (aa (dM (b1 Js) (aa am ai)) (aa (IV (aJ (aE Pi am bq)) aA bq) ai))))
def gF:S8 D->S9 Rz:=bi gE 1 1
def eW:FE :=
  (bb lT (aa (jA (aa (bb gF (aa am ai)) (aa (bb ij (aa au ai)) ai))) ai))
def gG:FS :=
  (bj (cG 2 [] (SV (aa am (aa (o8 DI am (bU aA) yO) ai))) (gT 2 (jB (gN 0) (jB (gN 1) xh))) cT eW))
def cX:S8 D->S9 Rz:=bi gG 1 1
def fL:FS :=
  (gS dR bL 3 d8)
def fN:FE :=
  (aE gY au am)
def dN:FE :=
  (dM d7 (aa (cG 1 [1] (kQ (aE dG am aA)) (gN 0) cT fN) ai))
def ik:FS :=
  (ay (aU (bb cX (aa am ai)) 1)
  (ay (aU (bb cX (aa (fLR1 (aa (dM dS (aa am ai)) ai)) ai)) 2)
  (ay (aU (jJ (.dt [])) 3)
  (ay (cL (D4 (aa au ai)) (gT 2 (jB (gN 4) (jB (gN 5) xh))) fL)
  (bj (dM d7 (aa (cG 1 [3] (kQ (bb lV (aa au (aa aL ai)))) (gN 0) cT dN) ai)))))))
def fF:S8 D->S9 Rz:=bi ik 6 1
def xM:FS :=
  (ay (hZ (mL (aJ (Gq bq (fT Iv au (fT xl aL (mP Iv (dM dS (aa am ai)))))))) qb bN)
  (bj (aE dH (aE dH (o8 gn am yO (bU au)) (bb jL (aa (o8 gn am (bU au) (bU aL)) ai))) (o8 gn am (bU aL) yO))))
def Hk:S8 D->S9 Rz:=bi xM 3 3
def qv:FS :=
  (ay (hZ (mL (aJ (Gq bq (fT Iv au (fT xl aL (fT Iv aT (fT xl bL (mP Iv (dM dS (aa am ai)))))))))) qb bN)
  (bj (aE dH (aE dH (aE dH (aE dH (o8 gn am yO (bU au)) (o8 gn am (bU aT) (bU bL))) (o8 gn am (bU aL) (bU aT))) (o8 gn am (bU au) (bU aL))) (o8 gn am (bU bL) yO))))
def jN:S8 D->S9 Rz:=bi qv 5 5
def kF:FS :=
  (ay (aU (dY ai) 1)
  (ay (cL (mM (aa (dM dS (aa am ai)) ai)) (gN 2) (eS (fM pW kl 1 (aa (cG 1 [2] (lB (aa (aE bF aL aA) (aa (aE bF (dM dS (aa am ai)) aA) ai))) (gN 0) cT (jA (aa au (aa am ai)))) ai))))
  (bj au)))
def kG:S8 D->S9 Rz:=bi kF 3 1
def eI:FS :=
  (ay (aU (bb kG (aa am ai)) 1)
  (ay (aU (dY ai) 2)
  (ay (cL (kQ au) (gN 3) (eS (fM pW kl 2 (aa (cG 1 [3] (kQ au) (gN 0) (aJ (aE Iv (aE dG au aA) (aE dG am bq))) (aE dH (aE dH (jA (aa (fC (.str "change")) ai)) au) am)) ai))))
  (bj aL))))
def gH:S8 D->S9 Rz:=bi eI 4 1
def im:FS :=
  (ay (hZ (aJ (aE uV (aE dG au bq) (fC (.str "turn")))) (bj (bb Hk (aa am (aa (aE dG au aA) (aa (aE dG au cm) ai))))) bN)
  (bj (bb jN (aa am (aa (aE dG au aA) (aa (aE dG au cm) (aa (aE dG au fU) (aa (aE dG au iV) ai))))))))
def fG:S8 D->S9 Rz:=bi im 2 2
def eX:FS :=
  (hZ (aJ (aE xl (dM (xI false) (aa (bb fY (aa am (aa au ai))) ai)) bq)) qb bN)
def eY:S8 D->S9 Rz:=bi eX 2 2
def eZ:FS :=
  (ay (eS (bb eY (aa am (aa au ai))))
  (ay (aU (bb fY (aa am (aa au ai))) 2)
  (bj (aE rA (aE jE (aE jE (dM dS (aa aL ai)) aA) (dM dS (aa (bb fF (aa aL ai)) ai))) cm))))
def bV:S8 D->S9 Rz:=bi eZ 3 2
def jO:FT :=
  (aJ (aE xl (nU "fewest_changes" bV 1 (aa (bb fG (aa aL (aa am ai))) (aa aT ai))) bL))
def jP:FE :=
  am
def nZ:FS :=
  (ay (aU (nU "fewest_changes" bV 3 (aa am (aa au ai))) 4)
  (bj (cG 1 [3,0,1,4] (kQ aL) (gN 0) jO jP)))
def n4:S8 D->S9 Rz:=bi nZ 5 4
def fk:FS :=
  (bj (bb n4 (aa am (aa au (aa (bb gH (aa am ai)) (aa (fC (.fn "fewest_changes")) ai))))))
def aX:S8 D->S9 Rz:=bi fk 2 2
def jb:FS :=
  (gS dR (aE bF aT aA) 2 bL)
def eJ:FE :=
  (aE gY au am)
def jc:FS :=
  (gS dR aT 6 nW)
def eK:FS :=
  (ay (gS dR (fC (.bl true)) 8 pf)
  (aU (aE jE (aE gY gt (aE bF (aE dG d8 pf) aA)) aA) 10))
def fZ:FS :=
  (hZ (aJ (aE (uk true) aT nX)) (ay (aU (aE bF ut aA) 9)
  (ay (aU aT 10)
  (yL (aJ (aE (uk true) pf nX)) eK 1000))) bN)
def lW:FS :=
  (ay (aU (jJ (.dk [])) 2)
  (ay (cL (D4 (aa au ai)) (gT 2 (jB (gN 3) (jB (gN 4) xh))) jb)
  (ay (aU (aE bF (aE bF (dY (aa bq ai)) (cG 1 [2] (kQ am) (gN 0) cT eJ)) (dY (aa (aE bF (dM dS (aa am ai)) aA) ai))) 5)
  (ay (aU (jJ (.dk [])) 6)
  (ay (cL (D4 (aa d8 ai)) (gT 2 (jB (gN 3) (jB (gN 7) xh))) jc)
  (ay (aU (jJ (.dk [])) 8)
  (ay (aU bq 9)
  (ay (cL (mM (aa (aE jE (dM dS (aa d8 ai)) aA) ai)) (gN 3) fZ)
  (bj (aE rA (aE jE (aE jE (dM dS (aa d8 ai)) aA) ut) cm))))))))))
def cY:S8 D->S9 Rz:=bi lW 11 2
def fH:FS :=
  (ay (aU (dY ai) 1)
  (ay (cL (mM (aa am ai)) (gN 2) (cL (lB (aa (aE bF aL aA) (aa am ai))) (gN 3) (cL (lB (aa aT (aa am ai))) (gN 4) (eS (fM pW kl 1 (aa (cG 1 [2,3,4] (lB (aa (aE bF bL aA) (aa (aE bF am aA) ai))) (gN 0) cT (jA (aa (fC (.str "change")) (aa au (aa aL (aa aT (aa am ai))))))) ai))))))
  (bj au)))
def ip:S8 D->S9 Rz:=bi fH 5 1
def gI:FS :=
  (ay (hZ (aJ (aE uV (aE dG am bq) (fC (.str "-")))) (bj (o8 DI am (bU aA) yO)) bN)
  (bj (aE bF (fC (.str "-")) am)))
def jQ:S8 D->S9 Rz:=bi gI 1 1
def jd:FS :=
  (bj (aE dH (aE dH (o8 gn am yO (bU au)) (dM fS (aa (cG 1 [] (kQ (QA (o8 gn am (bU au) (bU aL)))) (gN 0) cT (bx jQ (aa am ai))) ai))) (o8 gn am (bU aL) yO)))
def mU:S8 D->S9 Rz:=bi jd 3 3
def iq:FS :=
  (ay (aU (aE dH (o8 gn am yO (bU au)) (o8 gn am (bU aT) (bU bL))) 5)
  (bj (aE dH (aE dH (aE dH d8 (o8 gn am (bU aL) (bU aT))) (o8 gn am (bU au) (bU aL))) (o8 gn am (bU bL) yO))))
def ir:S8 D->S9 Rz:=bi iq 6 5
def eL:FS :=
  (ay (hZ (aJ (aE uV (aE dG au bq) (fC (.str "turn")))) (bj (bb mU (aa am (aa (aE dG au aA) (aa (aE dG au cm) ai))))) bN)
  (bj (bb ir (aa am (aa (aE dG au aA) (aa (aE dG au cm) (aa (aE dG au fU) (aa (aE dG au iV) ai))))))))
def b9:S8 D->S9 Rz:=bi eL 2 2
def lX:FS :=
  (bj (dY (aa (dM xo (aa am ai)) (aa bq (aa bq (aa aA (aa bq ai)))))))
def lY:S8 D->S9 Rz:=bi lX 1 1
def je:FS :=
  (ay (hZ (kO (aJ (aE uV (aE dG am cm) bq)) (aJ (aE xl (aE dG am aA) (dM dS (aa (aE dG am bq) ai))))) (ay (aU (aE dG (aE dG am bq) (aE dG am aA)) 2)
  (ay (gS pY (aE bF (aE dG am aA) aA) 0 aA)
  (hZ (aJ (aE Pi aL (aE P3 Hg Hi))) (gS pY aL 0 cm) (gS pY (aE pU (aE bF (aE bF (aE oN (aE dG am fU) wl) (aE pU aL kS)) aA) iC) 0 fU)))) bN)
  (ay (hZ (aJ (aE RR (aE dG am cm) bq)) (ay (aU (aE pU (aE dG am cm) au) 3)
  (ay (gS pY (aE rA (aE dG am cm) au) 0 cm)
  (bj aT))) bN)
  (ay (gS pY (aE bF (aE dG am iV) aA) 0 iV)
  (ay (gS pY (aE pU (aE bF (aE bF (aE oN (aE dG am fU) wm) qu) (aE dG am iV)) iC) 0 fU)
  (bj (aE pU (aE rA (aE pU (aE oN (aE bF (aE pU (aE dG am fU) oA) aA) (aE bF (aE rA (aE dG am fU) oA) xL)) kS) zt) au))))))
def aC:D->S8 D->S9 (Rz×D):=dO je 4 2
def gJ:FS :=
  (ay (aU (dM xo (aa au ai)) 2)
  (ay (aU (dY ai) 3)
  (ay (yL (aJ (aE Iw aL (dY ai))) (eS (fM pW fB 3 (aa (fM pW pX 2 (aa (gW aC 0 (aa (dM dS (aa aL ai)) ai)) ai)) ai))) 300)
  (bj aT))))
def cw:D->S8 D->S9 (Rz×D):=dO gJ 4 2
def lZ:FS :=
  (bj (dM fS (aa (cG 1 [0] (kQ (gW cw 0 (aa au ai))) (gN 0) cT (aE bF (aE oN (fC (.str "-")) (gW aC 1 (aa cm ai))) am)) ai)))
def ma:D->S8 D->S9 (Rz×D):=dO lZ 2 2
def iu:FS :=
  (bj (Qt "str" FX (fC (.str "")) (aa (cG 1 [0] (mM (aa au ai)) (gN 0) cT (aE dG (fC (.str "abcdefghijklmnopqrstuvwxyz")) (gW aC 1 (aa qt ai)))) ai)))
def dI:D->S8 D->S9 (Rz×D):=dO iu 2 2
def md:FS :=
  (ay (hZ (aJ (aE Iw au (fC (.str "")))) (bj (aE bF au (gW dI 0 (aa (aE bF aA (gW aC 0 (aa cm ai))) ai)))) bN)
  (ay (hZ (aJ (aE uV (gW aC 0 (aa zt ai)) bq)) (ay (aU (dY (FZ ["to","turn","turns","ring","rings","odd","ours","row","rows","cuts","knots","cover"])) 2)
  (ay (aU (aE bF aL (dY (FZ ["change","joins","theirs","one","two","home","none","open","keep","tox","onex"]))) 2)
  (bj (aE dG aL (gW aC 0 (aa Hj ai)))))) bN)
  (bj (gW dI 0 (aa (aE bF aA (gW aC 0 (aa zr ai))) ai)))))
def me:D->S8 D->S9 (Rz×D):=dO md 3 2
def g6:FS :=
  (ay (aU (fC (.str "")) 2)
  (ay (hZ (aJ (aE uV (gW aC 0 (aa fU ai)) bq)) (aU (gW dI 0 (aa (aE bF aA (gW aC 0 (aa iV ai))) ai)) 2) bN)
  (ay (aU (dY ai) 3)
  (ay (cL (mM (aa au ai)) (gN 4) (ay (aU (gW me 0 (aa aL ai)) 5)
  (ay (aU bq 6)
  (ay (yL (aJ (aE Qn d8 aT)) (ay (aU (aE oN (aE dG (fC (.str "abcdefghijklmnopqrstuvwxyz")) (aE pU gt qt)) (aE bF aA (aE rA gt qt))) 5)
  (aU (aE bF gt aA) 6)) 200)
  (eS (fM pW fB 3 (aa d8 ai)))))))
  (bj aT)))))
def jR:D->S8 D->S9 (Rz×D):=dO g6 7 2
def fO:FS :=
  (ay (hZ (aJ (aE uV au (fC (.str "turn")))) (ay (aU (gW aC 0 (aa aL ai)) 3)
  (bj (jA (aa (fC (.str "turn")) (aa aT (aa (aE bF (aE bF aT aA) (gW aC 0 (aa (aE jE aL aT) ai))) ai)))))) bN)
  (ay (aU (gW aC 0 (aa (aE jE aL aA) ai)) 3)
  (ay (aU (aE bF (aE bF aT aA) (gW aC 0 (aa (aE jE (aE jE aL aA) aT) ai))) 4)
  (ay (aU (aE bF bL (gW aC 0 (aa (aE jE aL bL) ai))) 5)
  (ay (aU (aE bF (aE bF d8 aA) (gW aC 0 (aa (aE jE aL d8) ai))) 6)
  (bj (jA (aa (fC (.str "change")) (aa aT (aa bL (aa d8 (aa gt ai))))))))))))
def cH:D->S8 D->S9 (Rz×D):=dO fO 7 3
def jS(gs:S8 D->S9 Rz):FS :=
  (ay (hZ (aJ (aE (Nn false) au (fC .non))) (bj (aE (Nn false) am (fC .non))) bN)
  (ay (hZ (M3 (aJ (dM cO (aa au (aa (fC (.ty "bool")) ai)))) (aJ (dM cO (aa am (aa (fC (.ty "bool")) ai))))) (bj (kP (dM cO (aa au (aa (fC (.ty "bool")) ai))) (kP (dM cO (aa am (aa (fC (.ty "bool")) ai))) (aE uV am au)))) bN)
  (ay (hZ (aJ (dM cO (aa au (aa (fC (.ty "int")) ai)))) (bj (kP (dM cO (aa am (aa (fC (.ty "int")) ai))) (aE uV am au))) bN)
  (ay (hZ (aJ (dM cO (aa au (aa (fC (.ty "str")) ai)))) (bj (kP (dM cO (aa am (aa (fC (.ty "str")) ai))) (aE uV am au))) bN)
  (ay (hZ (M3 (aJ (aE Iw (dM cO (aa au (aa (fC (.ty "tuple")) ai))) (dM cO (aa am (aa (fC (.ty "tuple")) ai))))) (aJ (aE Iw (dM cO (aa au (aa (fC (.ty "list")) ai))) (dM cO (aa am (aa (fC (.ty "list")) ai)))))) (bj (fC (.bl false))) bN)
  (bj (kP (aE uV (dM dS (aa am ai)) (dM dS (aa au ai))) (dM Ny (aa (cG 1 [0,1] (mM (aa (dM dS (aa au ai)) ai)) (gN 0) cT (bx gs (aa (aE dG au am) (aa (aE dG aL am) ai)))) ai)))))))))
def cM:FT :=
  (aJ (aE uV (bx cY (aa (bb b9 (aa au (aa am ai))) (aa aL ai))) aT))
def cN:FE :=
  am
def dF:FS :=
  (ay (aU (aE jE (bx cY (aa am (aa au ai))) aA) 2)
  (bj (cG 1 [0,1,2] (kQ (bb ip (aa (dM dS (aa am ai)) ai))) (gN 0) cM cN)))
def bw:S8 D->S9 Rz:=bi dF 3 2
def ph:FS :=
  (aU (bb b9 (aa bL (aa (gW cH 1 (aa (fC (.str "change")) (aa aL ai))) ai))) 4)
def Hl:FS :=
  (ay (aU (bb lY (aa am ai)) 1)
  (ay (aU (gW aC 1 (aa zr ai)) 2)
  (ay (hZ (aJ (aE rB (gW aC 1 (aa JX ai)) bq)) (aU (gW aC 1 (aa Hh ai)) 2) bN)
  (ay (aU (gW ma 1 (aa (gW jR 1 (aa aL ai)) ai)) 3)
  (ay (aU aT 4)
  (ay (hZ (aJ (aE rB (gW aC 1 (aa cm ai)) bq)) (aU (dM fS (aa (gW cw 1 (aa aT ai)) ai)) 4) (hZ (aJ (aE RR aL aA)) (cL (mM (aa (gW aC 1 (aa iV ai)) ai)) (gN 5) ph) bN))
  (ay (aU (bb bw (aa aT (aa bL ai))) 6)
  (ay (aU (bb aX (aa aT (aa bL ai))) 7)
  (ay (hZ (mL (aJ (bx (cV 6) (aa nW (aa gt ai))))) (bj (fC (.bl false))) bN)
  (ay (eS (Ph pW xw 7))
  (ay (hZ (mL (aJ (bx (cV 6) (aa (bb aX (aa bL (aa aT ai))) (aa (bb bw (aa bL (aa aT ai))) ai))))) (bj (fC (.bl false))) bN)
  (ay (hZ (kO (aJ (aE xl aL JY)) (aJ (aE vR (bb aX (aa aT (aa bL ai))) gt))) (bj (fC (.bl false))) bN)
  (ay (hZ (aJ (aE xl aL cm)) (bj (aE rB gt (dY ai))) bN)
  (ay (Fx (gW cH 1 (aa (fC (.str "change")) (aa aL ai))) (gT 5 (jB (gN 8) (jB (gN 9) (jB (gN 10) (jB (gN 5) (jB (gN 11) xh)))))))
  (ay (aU (bb jN (aa aT (aa ut (aa pf (aa d8 (aa JW ai)))))) 12)
  (ay (aU (bx cY (aa zp (aa bL ai))) 13)
  (bj (kP (bx (cV 6) (aa (bx bV (aa zp (aa bL ai))) (aa zq ai))) (aE Pi zq (aE jE (bx cY (aa aT (aa bL ai))) aA))))))))))))))))))))
def QZ:S8 D->S9 Rz:=bi Hl 14 1
end
def top(i:Nat):Stmt:=PySem.Challenge.pw_strandwright_k50_whole_first_changes.main.body.getD i (.Pass ⟨0,0,0,0⟩)
abbrev n5:Stmt:=top 1
abbrev uv:Stmt:=top 2
abbrev n6:Stmt:=top 3
abbrev f8:Stmt:=top 4
abbrev qw:Stmt:=top 5
abbrev mV:Stmt:=top 6
abbrev f9:Stmt:=top 13
abbrev qx:Stmt:=top 15
abbrev n8:Stmt:=top 18
abbrev jf:Stmt:=top 19
abbrev gK:Stmt:=top 20
abbrev qy:Stmt:=top 21
abbrev jg:Stmt:=top 23
abbrev jT:Stmt:=top 24
abbrev jh:Stmt:=top 25
abbrev gc:Stmt:=top 26
abbrev g9:Stmt:=top 27
abbrev Hm:Stmt:=top 29
abbrev uw:Stmt:=top 30
abbrev pi:Stmt:=top 31
abbrev gf:Stmt:=top 32
abbrev jU:Stmt:=top 33
abbrev gL:Stmt:=top 34
abbrev gM:Stmt:=top 35
abbrev mW:Stmt:=top 36
abbrev gO:Stmt:=top 37
abbrev ux:Stmt:=top 39
abbrev kH:Stmt:=top 40
abbrev mf:Stmt:=top 41
abbrev mX:Stmt:=top 42
abbrev n9:Stmt:=top 43
abbrev ji:Stmt:=top 44
abbrev xN:Stmt:=top 45
abbrev xO:Stmt:=top 46
abbrev mi:Stmt:=top 47
abbrev uz:Stmt:=top 48
abbrev kI:Stmt:=top 49
abbrev xP:Stmt:=top 50
abbrev uA:Stmt:=top 51
abbrev mj:Stmt:=top 52
abbrev pk:Stmt:=top 53
abbrev eM:Stmt:=top 54
abbrev On:Stmt:=top 55
def uB:To ["bead"] ["bead"] (ao n5):=ib (by decide +kernel)
def xQ:To ["bead"] ["bead"] (ao uv):=ib (by decide +kernel)
def uC:To ["bead"] ["bead"] (ao n6):=ib (by decide +kernel)
def oP:To ["beads"] ["beads"] (ao f8):=ib (by decide +kernel)
def Ua:To ["thing","beads","part"] ["thing"] (ao qw):=ib (by decide +kernel)
def wn:To ["thing"] ["thing"] (ao mV):=ib (by decide +kernel)
def TH:To ["things","count","thing","name","lacked"] ["things"] (ao f9):=ib (by decide +kernel)
def wo:To ["ends"] ["ends"] (ao qx):=ib (by decide +kernel)
def T3:To ["joints","at","joint","end"] ["joints"] (ao n8):=ib (by decide +kernel)
def rE:To ["joints"] ["joints"] (ao jf):=ib (by decide +kernel)
def Tv:To ["first","ours_at","theirs_at","ours","theirs","todo","joint","their","our","kind"] ["first","ours_at","theirs_at"] (ao gK):=ib (by decide +kernel)
def TD:To ["ours","theirs","ours_at","theirs_at","parts","seen","joint","part","our"] ["ours","theirs"] (ao qy):=ib (by decide +kernel)
def TV:To ["ours","theirs","place","number","bead"] ["ours","theirs"] (ao jg):=ib (by decide +kernel)
def qz:To ["number"] ["number"] (ao jT):=ib (by decide +kernel)
def oQ:To ["number"] ["number"] (ao jh):=ib (by decide +kernel)
def oR:To ["numbers"] ["numbers"] (ao gc):=ib (by decide +kernel)
def TC:To ["numbers","ours","theirs","point_of","point","joint"] ["numbers"] (ao g9):=ib (by decide +kernel)
def Hn:To ["line","i","j"] ["line","i","j"] (ao Hm):=ib (by decide +kernel)
def xR:To ["line","i","j","k","l"] ["line","i","j","k","l"] (ao uw):=ib (by decide +kernel)
def Ui:To ["line","runs","begin"] ["line"] (ao pi):=ib (by decide +kernel)
def TN:To ["line","runs","found","run"] ["line"] (ao gf):=ib (by decide +kernel)
def qA:To ["line","deed"] ["line","deed"] (ao jU):=ib (by decide +kernel)
def mY:To ["ours","theirs"] ["ours","theirs"] (ao gL):=ib (by decide +kernel)
def T6:To ["ours","theirs","numbers"] ["ours","theirs"] (ao gM):=ib (by decide +kernel)
def Uq:To ["ours","theirs","deeds","fewest","here"] ["ours","theirs","deeds","fewest"] (ao mW):=ib (by decide +kernel)
def mZ:To ["ours","theirs"] ["ours","theirs"] (ao gO):=ib (by decide +kernel)
def Tu:To ["_law_ours","_law_theirs","_law_places","_law_k","_law_bead","_law_steps","_law_stands","_law_number","_law_met","_law_rings","_law_at"] ["_law_ours","_law_theirs"] (ao ux):=ib (by decide +kernel)
def TQ:To ["_law_many","_law_found","_law_i","_law_j","_law_k"] ["_law_many"] (ao kH):=ib (by decide +kernel)
def rF:To ["_law_bead"] ["_law_bead"] (ao mf):=ib (by decide +kernel)
def wq:To ["_law_line_here","_law_i","_law_j"] ["_law_line_here","_law_i","_law_j"] (ao mX):=ib (by decide +kernel)
def Ul:To ["_law_line_here","_law_i","_law_j","_law_k","_law_l","_law_ahead"] ["_law_line_here","_law_i","_law_j","_law_k","_law_l"] (ao n9):=ib (by decide +kernel)
def oS:To ["_law_line_here","_law_deed"] ["_law_line_here","_law_deed"] (ao ji):=ib (by decide +kernel)
def Eb:To ["_law_script"] ["_law_script"] (ao xN):=ib (by decide +kernel)
def Uo:To ["_law_flow_here","_law_many","_law_cell","_law_digit"] ["_law_flow_here","_law_many"] (ao xO):=ib (by decide +kernel)
def T8:To ["_law_flow_here","_law_things","_law_left","_law_told"] ["_law_flow_here","_law_things"] (ao mi):=ib (by decide +kernel)
def Ec:To ["_law_flow_here","_law_names_here"] ["_law_flow_here","_law_names_here"] (ao uz):=ib (by decide +kernel)
def uD:To ["_law_flow_here","_law_many"] ["_law_flow_here","_law_many"] (ao kI):=ib (by decide +kernel)
def Up:To ["_law_flow_here","_law_stem","_law_words"] ["_law_flow_here","_law_stem"] (ao xP):=ib (by decide +kernel)
def TF:To ["_law_flow_here","_law_many","_law_stem","_law_names_here","_law_k","_law_name_here","_law_spare"] ["_law_flow_here","_law_many"] (ao uA):=ib (by decide +kernel)
def TJ:To ["_law_flow_here","_law_word","_law_many","_law_i","_law_j","_law_k","_law_l"] ["_law_flow_here","_law_word","_law_many"] (ao mj):=ib (by decide +kernel)
def xS:To ["_law_found","_law_due"] ["_law_found","_law_due"] (ao pk):=ib (by decide +kernel)
def T7:To ["_law_ours","_law_theirs","_law_due"] ["_law_ours","_law_theirs"] (ao eM):=ib (by decide +kernel)
def Tx:To ["_law_script","_law_flow_here","_law_many","_law_ours","_law_theirs","_law_k","_law_due","_law_found","_law_word","_law_i","_law_j","_law_l","_law_then","_law_least"] ["_law_script"] (ao On):=ib (by decide +kernel)
structure Md(P:Program)(w:World)(K:PySem.W.Frag)(mg:Str->Option Value):Prop where
 n_abs:mg "abs"=none
 n_all:mg "all"=none
 n_bool:mg "bool"=none
 n_enumerate:mg "enumerate"=none
 n_int:mg "int"=none
 n_isinstance:mg "isinstance"=none
 n_len:mg "len"=none
 n_list:mg "list"=none
 n_min:mg "min"=none
 n_range:mg "range"=none
 n_reversed:mg "reversed"=none
 n_sorted:mg "sorted"=none
 n_str:mg "str"=none
 n_tuple:mg "tuple"=none
 n_zip:mg "zip"=none
 c_KINDS:JQ P w K mg "KINDS" xK
end K50
namespace VF
open PySem L2
def xT(h:Uu i j):oN (.int i) (.int j)=some (.int (i*j),false):=by
 have:yN (.int i) (.int j)=some (.int (i*j),false):=by
  show(if Uu i j then some (D.int (i*j),false) else none)=_;rw[Af h]
 unfold oN nM;rw[this]
def Ho(h:0<j):pU (.int i) (.int j)=some (.int (i % j),false):=by
 show(if 0<j then some (D.int (i % j),false) else none)=_;rw[Af h]
def xU(h:wW i j):rA (.int i) (.int j)=some (.int (i / j),false):=by
 show(if wW i j then some (D.int (i / j),false) else none)=_;rw[Af h]
def qB(h:oF ds i=some d):dG (.lst ds) (.int i)=some (d,false):=by
 have:FR (.lst ds) (.int i)=some (d,false):=by
  show(oF ds i).bind (λd=>some (d,false))=_;rw[h];rfl
 unfold dG nM;rw[this]
def ix_tup(h:oF ds i=some d):dG (.tup ds) (.int i)=some (d,false):=by
 have e1:FR (.tup ds) (.int i)=none:=rfl;have:Ja (.tup ds) (.int i)=some (d,false):=by
  show(oF ds i).bind (λd=>some (d,false))=_;rw[h];rfl
 unfold dG nM;rw[e1,this]
def of_b{f:FT}{st s:En}{b c:Te}(h:f st=some (b,s))(e:b=c):f st=some (c,s):=e ▸ h
def put_ev{mm:D->D->D->S9 D}{i:Nat}{st s1 s2 s3:En}{r rk:Rs}{dv dk z z':D}{t t0:Sl}{x0:D}(h1:fe st=some (r,s1))(h2:esc r s1=some (dv,s2))(h0:s2[i]?=some t0)(h00:t0.ow=some x0)(h3:fi s2=some (rk,s3))(h4:cont s3 rk=some dk)(h5:s3[i]?=some t)(h6:t.ow=some z)(h7:mm z dk dv=some z'){s4:En}(h8:s3.set i (t.put z')=s4:=by rfl):gS mm fe i fi st=some (.nx s4):=by
 simp only[gS,h1,h2,h0,h00,h3,h4,h5,h6,h7,h8,Wa]
end VF
namespace K50
open PySem L2 VF
def Fl(ns:S8 Int)(i m sd c:Int):D:=.lst [.lst (ns.map D.int),.int i,.int m,.int sd,.int c]
def cQ(φ:D):Prop:=∃ns i m sd c,φ=Fl ns i m sd c/\0<=i/\0<=m/\0<=sd/\0<=c
def JZ(ns:S8 Int):lY [.fl (ns.map D.int)]=some (Fl ns 0 0 1 0,true):=rfl
def bT{φ : D}{n : Int}(hφ : cQ φ)(h0 : 0 < n)(h1 : n ≤ 1000) : ∃ d φ', aC φ [.int n] = some ((.int d, false), φ') ∧ 0 ≤ d ∧ d < n ∧ cQ φ' := by
  obtain ⟨ns, i, m, sd, c, rfl, hi, hm, hs, hc⟩ := hφ;have sp : ∃ A B, je = ay A B ∧
     (∃ o i' m' sd', A [.io (Fl ns i m sd c), .v (.int n), .e, .e] = some (.nx [.io (Fl ns i' m' sd' c), .v (.int n), o, .e]) ∧ 0 ≤ i' ∧ 0 ≤ m' ∧ 0 ≤ sd') ∧
     (∀ o i m sd, 0 ≤ i → 0 ≤ m → 0 ≤ sd → ∃ d φ' s3, B [.io (Fl ns i m sd c), .v (.int n), o, .e] = some (.rt (.d (.int d)) [.io φ', .v (.int n), o, s3]) ∧ 0 ≤ d ∧ d < n ∧ cQ φ') := by
    refine ⟨_, _, rfl, ?_, ?_⟩
    · by_cases c1 : m = 0
      · subst c1
        by_cases c2 : i < ((ns.map D.int).length : Int)
        · obtain ⟨v, hv, hm', _⟩ := xf hi c2
          obtain ⟨z, _, rfl⟩ := List.mem_map.mp hm';have t2 : kO (aJ (aE uV (aE dG (aB 0) (fC (.int 2))) (fC (.int 0)))) (aJ (aE xl (aE dG (aB 0) (fC (.int 1))) (dM dS (aa (aE dG (aB 0) (fC (.int 0))) ai)))) [.io (Fl ns i 0 sd c), .v (.int n), .e, .e] = some (true, [.io (Fl ns i 0 sd c), .v (.int n), .e, .e]) :=
            Gg rfl (of_b (b := decide (i < ((ns.map D.int).length : Int))) rfl (Ae c2))
          by_cases c3 : (10 : Int) ^ (18 : Int).toNat ≤ z
          · have p18 : (0 : Int) ≤ 10 ^ (18 : Int).toNat := by decide
            refine ⟨.v (.int z), i + 1, z, sd, ?_, by lia, by lia, hs⟩
            refine jH t2 ?_;refine aj (cy (x := .int z) (ar rfl rfl rfl rfl (qB hv)) rfl) ?_;refine aj rfl ?_;refine jH (of_b (b := decide ((10 : Int) ^ (18 : Int).toNat ≤ z)) rfl (Ae c3)) ?_;rfl
          · refine ⟨.v (.int z), i + 1, 0, (sd * 40013 + z % 1000003 + 1) % 2147483647, ?_, by lia, by lia, Bg _ (by decide)⟩
            refine jH t2 ?_;refine aj (cy (x := .int z) (ar rfl rfl rfl rfl (qB hv)) rfl) ?_;refine aj rfl ?_;refine fI (of_b (b := decide ((10 : Int) ^ (18 : Int).toNat ≤ z)) rfl (Ad c3)) ?_;exact put_ev (ar (ar (ar (ar rfl rfl rfl rfl (xT (j := 40013) (.inr ⟨by decide, by decide⟩))) rfl rfl rfl rfl) rfl rfl rfl rfl) rfl rfl rfl rfl) rfl rfl rfl rfl rfl rfl rfl rfl
        · refine ⟨.e, i, 0, sd, ?_, hi, hm, hs⟩
          exact fI (Gg rfl (of_b (b := decide (i < ((ns.map D.int).length : Int))) rfl (Ad c2))) rfl
      · refine ⟨.e, i, m, sd, ?_, hi, hm, hs⟩
        have e : decide (V.int m = V.int 0) = false := Ad λz => c1 (V.int.inj z);exact fI (LB (of_b (b := decide (V.int m = V.int 0)) rfl e)) rfl
    · intro o i m sd hi hm hs
      by_cases c1 : 0 < m
      · refine ⟨m % n, Fl ns i (m / n) sd c, .v (.int (m % n)), ?_, Bg _ (by lia), Cg _ h0, ⟨ns, i, m / n, sd, c, rfl, hi, Int.ediv_nonneg hm (by lia), hs, hc⟩⟩
        refine nP ?_;refine jH (of_b (b := decide (0 < m)) rfl (Ae c1)) ?_;refine aj (cy (ar rfl rfl rfl rfl (Ho h0)) rfl) ?_;refine aj (put_ev (ar rfl rfl rfl rfl (xU ⟨h0, by lia⟩)) rfl rfl rfl rfl rfl rfl rfl rfl) ?_
        rfl
      · refine ⟨(((sd * 48271 + 12820163 + (c + 1)) % 2147483647 % 65521 + 1) * ((sd * 48271 + 12820163 + (c + 1)) % 2147483647 / 65521 + 7919) % 1000003 / 7) % n, Fl ns i m ((sd * 48271 + 12820163 + (c + 1)) % 2147483647) (c + 1), .e, ?_, ?_, ?_, ⟨ns, i, m, _, _, rfl, hi, hm, Bg _ (by decide), by lia⟩⟩
        · refine aj (fI (of_b (b := decide (0 < m)) rfl (Ad c1)) rfl) ?_
          refine aj rfl ?_;refine aj (put_ev (ar (ar (ar (ar rfl rfl rfl rfl (xT (j := 48271) (.inr ⟨by decide, by decide⟩))) rfl rfl rfl rfl) rfl rfl rfl rfl) rfl rfl rfl rfl) rfl rfl rfl rfl rfl rfl rfl rfl) ?_
          have a := Bg ((sd * 48271 + 12820163 + (c + 1)) % 2147483647) (show (65521 : Int) ≠ 0 by decide)
          have b := Cg ((sd * 48271 + 12820163 + (c + 1)) % 2147483647) (show (0 : Int) < 65521 by decide)
          exact aW (ar (ar (ar (ar rfl rfl rfl rfl (xT (.inl ⟨by lia, by lia⟩))) rfl rfl rfl rfl) rfl rfl rfl rfl) rfl rfl rfl (Ho h0))
        · exact Bg _ (by lia)
        · exact Cg _ h0
  obtain ⟨A, B, eF, ⟨o, i', m', sd', eA, hi', hm', hs'⟩, hB⟩ := sp;obtain ⟨d, φ', s3, eB, h2, h3, h4⟩ := hB o i' m' sd' hi' hm' hs';refine ⟨d, φ', ?_, h2, h3, h4⟩;refine cJ (o := .rt (.d (.int d)) [.io φ', .v (.int n), o, s3]) rfl ?_ rfl;rw [eF];exact aj eA eB
open VL
def ml(hφ:cQ φ)(h0:0<=k)(h1:k<=100):∃x φ',dI φ [.int k]=some ((.str x,false),φ')/\(x.length:Int)=k/\Lw x/\cQ φ':=by
 have hE:(Str.ofString "").length=0:=by decide +kernel
 have cl:=sE (fg:=gN 0) (fc:=cT) (k:=1) (fe:=aE dG (fC (.str "abcdefghijklmnopqrstuvwxyz")) (gW aC 1 (aa (fC (.int 26)) ai)))
  (λpre sb=>∃φ' ys,sb=[.e,.io φ']/\cQ φ'/\pre=ys.map D.str/\∀y∈ys,∃c,y=(⟨#[c]⟩:Str)/\97<=c/\c<=122) (by
   rintro pre x sb ⟨φ',ys,rfl,hf,rfl,hy⟩;obtain⟨d,φ2,e,d0,d1,hf2⟩:=bT (n:=26) hf (by decide) (by decide)
   obtain⟨c,hc,hm,_⟩:=xf (xs:=Vr.cps.toList) d0 (by rw[qr,List.length_range'];exact d1)
   refine⟨[.v x,.io φ'],[.v x,.io φ'],.d (.str ⟨#[c]⟩),[.v x,.io φ2],.str ⟨#[c]⟩,[.v x,.io φ2],rfl,rfl,ar rfl (bQ rfl rfl rfl rfl rfl rfl e) rfl rfl (ix_str (by decide +kernel) hc),rfl,φ2,ys++[⟨#[c]⟩],rfl,hf2,by rw[Vd];rfl,λy hy2=>?_⟩
   rcases Qe.mp hy2 with z|z
   ·exact hy y z
   ·have:y=⟨#[c]⟩:=by simpa using z
    rw[qr,List.mem_range'_1]at hm
    exact⟨c,this,by lia⟩)
  (rng 0 k.toNat) [] [.e,.io φ] ⟨φ,[],rfl,hφ,rfl,λy hy=>by cases hy⟩
 obtain⟨ds,sf,e1,e2,φ',ys,rfl,hf,e3,hy⟩:=cl;rw[AV]at e3;subst e3;rw[fz,Za]at e2;have hy':∀y∈ys,∃c,y=(⟨#[c]⟩:Str):=λy h=>by obtain⟨c,e,_⟩:=hy y h;exact⟨c,e⟩
 refine⟨Txt.join (Str.ofString "") ys,φ',?_,by rw[join_ones hy'];lia,Hb hy,hf⟩
 have hj:FX (.str "") [.lst (ys.map D.str)]=some (.str (Txt.join (Str.ofString "") ys),false):=by
  show(jG (ys.map D.str)).bind (λys=>if (ys.map (·.length)).sum+ys.length*(Str.ofString "").length<=16777216 then some (D.str (Txt.join (Str.ofString "") ys),false) else none)=_;rw[lG];show(if _ then _ else _)=_;rw[Af (by rw[Hc hy',hE];lia)]
 refine cJ (o:=.rt (.d (.str (Txt.join (Str.ofString "") ys))) [.io φ',.v (.int k)]) rfl ?_ rfl
 exact aW (QB rfl rfl rfl (ap (bS (gX rfl rfl ⟨by lia,by lia⟩) (by
  show(true&&decide ((rng 0 k.toNat).length<=1000000))=true
  rw[fz,Ae (by lia)];rfl) e1) rfl) rfl rfl hj)
abbrev w1:List Str:=["to","turn","turns","ring","rings","odd","ours","row","rows","cuts","knots","cover"]
abbrev w2:List Str:=["change","joins","theirs","one","two","home","none","open","keep","tox","onex"]
abbrev UE:List Str:=w1++w2
def okN(x:Str):Te:=decide (1<=x.length/\x.length<=6)&&x.cps.toList.all λc=>decide (97<=c/\c<=122)
def Op(h:okN x=true):Nm x:=by
 unfold okN at h;rw[Qf,decide_eq_true_eq,Ql]at h;exact⟨h.1.1,h.1.2,λc hc=>Aj (h.2 c hc)⟩
def Hq:∀v∈UE,okN v=true:=Ql.mp (by decide +kernel)
def J0{st:Str}(hφ:cQ φ)(hst:st.length<=4)(lst:Lw st):∃x φ',me φ [.str st]=some ((.str x,false),φ')/\Nm x/\cQ φ':=by
 by_cases c0:st=""
 ·subst c0;obtain⟨d,φ1,e1,d0,d1,f1⟩:=bT (n:=7) hφ (by decide) (by decide)
  by_cases c1:d=0
  ·subst c1;obtain⟨d2,φ2,e2,d20,d21,f2⟩:=bT (n:=23) f1 (by decide) (by decide)
   obtain⟨v,hv,hm,_⟩:=xf (xs:=UE.map D.str) d20 (by rw[Za];exact d21)
   obtain⟨x,hx,rfl⟩:=Va.mp hm;refine⟨x,φ2,?_,Op (Hq x hx),f2⟩;refine cJ (o:=.rt (.d (.str x)) [.io φ2,.v (.str ""),.o (.lst (UE.map D.str))]) rfl ?_ rfl;refine aj rfl ?_;refine nP ?_;refine jH (aH (ar (bQ rfl rfl rfl rfl rfl rfl e1) rfl rfl rfl rfl) rfl) ?_;refine aj rfl ?_;refine aj rfl ?_;exact aW (ar rfl (bQ rfl rfl rfl rfl rfl rfl e2) rfl rfl (qB hv))
  ·obtain⟨d2,φ2,e2,d20,d21,f2⟩:=bT (n:=6) f1 (by decide) (by decide)
   obtain⟨x,φ3,e3,hx,lx,f3⟩:=ml (k:=1+d2) f2 (by lia) (by lia)
   refine⟨x,φ3,?_,⟨by lia,by lia,lx⟩,f3⟩
   refine cJ (o:=.rt (.d (.str x)) [.io φ3,.v (.str ""),.e]) rfl ?_ rfl;refine aj rfl ?_;have t:decide (V.int d=V.int 0)=false:=Ad λz=>c1 (V.int.inj z);refine aj (fI (of_b (b:=decide (V.int d=V.int 0)) (aH (ar (bQ rfl rfl rfl rfl rfl rfl e1) rfl rfl rfl rfl) rfl) t) rfl) ?_;exact aW (bQ rfl rfl (ap (ar rfl (bQ rfl rfl rfl rfl rfl rfl e2) rfl rfl rfl) rfl) rfl rfl rfl e3)
 ·obtain⟨d,φ1,e1,d0,d1,f1⟩:=bT (n:=2) hφ (by decide) (by decide)
  obtain⟨x,φ2,e2,hx,lx,f2⟩:=ml (k:=1+d) f1 (by lia) (by lia)
  refine⟨st++x,φ2,?_,⟨by rw[AL];lia,by rw[AL];lia,lst.app lx⟩,f2⟩
  refine cJ (o:=.rt (.d (.str (st++x))) [.io φ2,.v (.str st),.e]) rfl ?_ rfl;refine nP ?_;have t:(!decide (V.str st=V.str ""))=true:=by rw[Ad (λz=>c0 (V.str.inj z))];rfl
  refine jH (of_b (b:=!decide (V.str st=V.str "")) rfl t) ?_;exact aW (ar rfl (bQ rfl rfl (ap (ar rfl (bQ rfl rfl rfl rfl rfl rfl e1) rfl rfl rfl) rfl) rfl rfl rfl e2) rfl rfl (tX (by lia)))
end K50
namespace VF
open PySem L2
def fPut_ev{s t:Sl}{st s1:En}(h:st[i]?=some t)(n:t.isIo=false)(e:st.set i s=s1:=by rfl):kL i s st=some s1:=by
 unfold kL;rw[h];show(if t.isIo=true then none else some (st.set i s))=_;rw[Ah (by rw[n];decide),e]
def app_ev{xs:S8 D}(h:xs.length<1000000):fB (.lst xs) [y]=some (.non,.lst (xs++[y])):=by
 show(if xs.length<1000000 then some (D.non,D.lst (xs++[y])) else none)=_;rw[Af h]
def wt{xs:S8 D}{i:Int}(h0:0<=i)(h1:i<xs.length)(h2:xs.length<=1000000)(hk:i.toNat<xs.length):pX (.lst xs) [.int i]=some (xs[i.toNat],.lst (xs.eraseIdx i.toNat)):=by
 show(if -(2 ^ 63)<=i/\i<2 ^ 63 then(seqIndex? i xs.length).bind λk=>(xs[k]?).bind λy=>some (y,D.lst (xs.eraseIdx k)) else none)=_;rw[Af ⟨by lia,by lia⟩,PySem.seqIndex_of h0 h1]
 show(xs[i.toNat]?).bind (λy=>some (y,D.lst (xs.eraseIdx i.toNat)))=_;rw[Ya hk];rfl
def uE{α:Type}{f:α->D}{g:D->α}(hg:∀a,g (f a)=a){ys:S8 D}{xs:S8 α}(p:ys.Perm (xs.map f)):∃zs:S8 α,ys=zs.map f/\zs.Perm xs:=by
 have h1:∀y∈ys,∃z,y=f z:=λy hy=>by
  obtain⟨z,_,rfl⟩:=Va.mp (p.mem_iff.mp hy);exact⟨z,rfl⟩
 refine⟨ys.map g,?_,?_⟩
 ·rw[Qd];refine(Cs ys).symm.trans (We λy hy=>?_);obtain⟨z,rfl⟩:=h1 y hy;show f z=f (g (f z));rw[hg]
 ·have:=p.map g;rw[Qd]at this;refine this.trans (List.Perm.of_eq ?_);exact(We λz _=>hg z).trans (Cs xs)
end VF
namespace K50
open PySem L2 VF VL
def Hr(hφ:cQ φ)(h0:0<=n)(h1:n<=100):∃(xs:S8 Str)(φ':D),jR φ [.int n]=some ((.lst (xs.map D.str),true),φ')/\(xs.length:Int)=n/\(∀x∈xs,Nm x)/\xs.Nodup/\cQ φ':=by
 obtain⟨d,φ1,e1,d0,d1,f1⟩:=bT (n:=3) hφ (by decide) (by decide)
 have sp:∃A B C R,g6=ay A (ay B (ay C R)) /\
   (∃st φ2,A [.io φ,.v (.int n),.e,.e,.e,.e,.e]=some (.nx [.io φ,.v (.int n),.v (.str ""),.e,.e,.e,.e])/\B [.io φ,.v (.int n),.v (.str ""),.e,.e,.e,.e]=some (.nx [.io φ2,.v (.int n),.v (.str st),.e,.e,.e,.e]) /\
    C [.io φ2,.v (.int n),.v (.str st),.e,.e,.e,.e]=some (.nx [.io φ2,.v (.int n),.v (.str st),.o (.lst []),.e,.e,.e])/\cQ φ2/\st.length<=4/\Lw st) /\
   (∀st φ2,cQ φ2->st.length<=4->Lw st->∃(xs:S8 Str)(φ':D)(o4 o5 o6:Sl),R [.io φ2,.v (.int n),.v (.str st),.o (.lst []),.e,.e,.e]=some (.rt (.s 3) [.io φ',.v (.int n),.v (.str st),.o (.lst (xs.map D.str)),o4,o5,o6])/\(xs.length:Int)=n/\(∀x∈xs,Nm x)/\xs.Nodup/\cQ φ'):=by
  refine⟨_,_,_,_,rfl,?_,?_⟩
  ·by_cases c:d=0
   ·subst c;obtain⟨d2,φ2,e2,d20,d21,f2⟩:=bT (n:=4) f1 (by decide) (by decide)
    obtain⟨x,φ3,e3,hx,lx,f3⟩:=ml (k:=1+d2) f2 (by lia) (by lia)
    refine⟨x,φ3,rfl,?_,rfl,f3,by lia,lx⟩
    refine jH (aH (ar (bQ rfl rfl rfl rfl rfl rfl e1) rfl rfl rfl rfl) rfl) ?_;exact cy (bQ rfl rfl (ap (ar rfl (bQ rfl rfl rfl rfl rfl rfl e2) rfl rfl rfl) rfl) rfl rfl rfl e3) rfl
   ·refine⟨"",φ1,rfl,?_,rfl,f1,by decide +kernel,Hd⟩
    have t:decide (V.int d=V.int 0)=false:=Ad λz=>c (V.int.inj z);exact fI (of_b (b:=decide (V.int d=V.int 0)) (aH (ar (bQ rfl rfl rfl rfl rfl rfl e1) rfl rfl rfl rfl) rfl) t) rfl
  ·intro st φ2 f2 hst lst
   have lp:∀(fg:FG)(B:FS),fg=gN 4->(∀(φ':D)(xs:S8 Str)(k:D)(o5 o6:Sl),cQ φ'->xs.length<=200->(∀x∈xs,Nm x)->xs.Nodup->xs.length<=110->o5.isIo=false->o6.isIo=false->
     ∃φ2 x o6',B [.io φ',.v (.int n),.v (.str st),.o (.lst (xs.map D.str)),.v k,o5,o6]=some (.nx [.io φ2,.v (.int n),.v (.str st),.o (.lst ((xs++[x]).map D.str)),.v k,.v (.str x),.v o6'])/\cQ φ2/\Nm x/\x∉xs)->
     ∃(xs:S8 Str)(φ':D)(o4 o5 o6:Sl),ay (cL (mM (aa (aB 1) ai)) fg B) (bj (aB 3)) [.io φ2,.v (.int n),.v (.str st),.o (.lst []),.e,.e,.e]=some (.rt (.s 3) [.io φ',.v (.int n),.v (.str st),.o (.lst (xs.map D.str)),o4,o5,o6])/\(xs.length:Int)=n/\(∀x∈xs,Nm x)/\xs.Nodup/\cQ φ':=by
    intro fg B hfg hB;subst hfg;obtain⟨sf,e,φ',xs,o4,o5,o6,rfl,hf,hl,hx,nd,_⟩:=vP (fg:=gN 4) (B:=B) (rng 0 n.toNat) (λgone s=>∃(φ':D)(xs:S8 Str)(o4 o5 o6:Sl),s=[.io φ',.v (.int n),.v (.str st),.o (.lst (xs.map D.str)),o4,o5,o6]/\cQ φ'/\xs.length=gone.length/\(∀x∈xs,Nm x)/\xs.Nodup/\o4.isIo=false/\o5.isIo=false/\o6.isIo=false)
     (λgone x rest s ha ⟨φ',xs,o4,o5,o6,hs,hf,hl,hx,nd,q4,q5,q6⟩=>by
      subst hs;have hg:=congrArg List.length ha;rw[fz,Qa,Qc]at hg;obtain⟨φ3,y,o6',eB,f3,ny,hy⟩:=hB φ' xs x o5 o6 hf (by lia) hx nd (by lia) q5 q6
      refine⟨_,_,fPut_ev rfl q4,eB,φ3,xs++[y],.v x,.v (.str y),.v o6',rfl,f3,by simp[hl],λz hz=>?_,?_,rfl,rfl,rfl⟩
      ·rcases Qe.mp hz with w|w
       ·exact hx z w
       ·have:z=y:=by simpa using w
        rw[this];exact ny
      ·rw[Vj]
       exact⟨nd,by simp,λa ha b hb e=>by
        have:b=y:=by simpa using hb
        subst this;subst e;exact hy ha⟩) (rng 0 n.toNat) [] [.io φ2,.v (.int n),.v (.str st),.o (.lst []),.e,.e,.e] rfl ⟨φ2,[],.e,.e,.e,rfl,f2,rfl,λx hx=>(by cases hx),CY,rfl,rfl,rfl⟩
    rw[fz]at hl;exact⟨xs,φ',o4,o5,o6,aj (cg (gX rfl rfl ⟨by lia,by lia⟩) e) rfl,by lia,hx,nd,hf⟩
   refine lp _ _ rfl ?_;intro φ' xs k o5 o6 hf _ hx nd hl q5 q6;obtain⟨x,φ3,e3,nx,f3⟩:=J0 hf hst lst;obtain⟨sf,ew,s',y,rfl,ny,hy⟩:=nQ (f:=aJ (aE Qn (aB 5) (aB 3))) (B:=ay (aU (aE oN (aE dG (fC (.str "abcdefghijklmnopqrstuvwxyz")) (aE pU (aB 6) (fC (.int 26)))) (aE bF (fC (.int 1)) (aE rA (aB 6) (fC (.int 26))))) 5) (aU (aE bF (aB 6) (fC (.int 1))) 6))
    (λm s=>∃(j:Nat)(x:Str),s=[.io φ3,.v (.int n),.v (.str st),.o (.lst (xs.map D.str)),.v k,.v (.str x),.v (.int j)]/\Nm x/\m=xs.length+2-j/\j<=xs.length+1/\(∀i,i+1<j->word i∈xs)/\(j=0\/x=word (j-1)))
    (λs=>∃(j:Nat)(x:Str),s=[.io φ3,.v (.int n),.v (.str st),.o (.lst (xs.map D.str)),.v k,.v (.str x),.v (.int j)]/\Nm x/\x∉xs)
    (by
     rintro m s ⟨j,x,rfl,nx,rfl,hj,hw,hxj⟩;by_cases c:x∈xs
     ·right;have hall:∀i,i<j->word i∈xs:=λi hi=>by
       rcases hxj with z|z
       ·lia
       ·by_cases e:i+1<j
        ·exact hw i e
        ·have:i=j-1:=by lia
         rw[this,<-z];exact c
      have hle:=D9 hall;refine⟨_,[.io φ3,.v (.int n),.v (.str st),.o (.lst (xs.map D.str)),.v k,.v (.str (word j)),.v (.int ((j+1:Nat):Int))],xs.length+2-(j+1),of_b (aH (ar rfl rfl rfl rfl LC) rfl) (Ae c),?_,by lia,j+1,word j,rfl,JT (by lia),rfl,by lia,λi hi=>hall i (by lia),.inr rfl⟩
      refine aj (cy (ar (ar rfl rfl rfl rfl (ix_str (by decide +kernel) (Om j))) (ar rfl rfl rfl rfl rfl) rfl rfl (y0 ⟨by lia,by lia,(by show 1<=1000;decide)⟩)) rfl) ?_
      rfl
     ·left
      exact⟨_,of_b (aH (ar rfl rfl rfl rfl LC) rfl) (Ad c),j,x,rfl,nx,c⟩)
    200 (xs.length+2) [.io φ3,.v (.int n),.v (.str st),.o (.lst (xs.map D.str)),.v k,.v (.str x),.v (.int 0)] (by lia) ⟨0,x,rfl,nx,rfl,Yi _,λi hi=>absurd hi (by lia),.inl rfl⟩
   refine⟨φ3,y,.int s',?_,f3,ny,hy⟩;refine aj (cy (bQ rfl rfl rfl rfl rfl rfl e3) (fPut_ev rfl q5)) ?_;refine aj (cy (x:=.int 0) rfl (fPut_ev rfl q6)) ?_;refine aj ew ?_;refine df (p8 rfl rfl rfl rfl rfl rfl rfl (app_ev (by rw[Za];lia)) ?_)
   rw[Vd];rfl
 obtain⟨A,B,C,R,eF,⟨st,φ2,eA,eB,eC,f2,hst,lst⟩,hR⟩:=sp;obtain⟨xs,φ',o4,o5,o6,eR,hl,hx,nd,hf⟩:=hR st φ2 f2 hst lst;refine⟨xs,φ',?_,hl,hx,nd,hf⟩;refine cJ (o:=.rt (.s 3) [.io φ',.v (.int n),.v (.str st),.o (.lst (xs.map D.str)),o4,o5,o6]) rfl ?_ rfl;rw[eF];exact aj eA (aj eB (aj eC eR))
def J1{xs:S8 D}(hφ:cQ φ)(hx:xs.length<=200):∃(ys:S8 D)(φ':D),cw φ [.lst xs]=some ((.lst ys,true),φ')/\ys.Perm xs/\cQ φ':=by
 obtain⟨sf,ew,ts,φ',rfl,pm,hf⟩:=nQ (f:=aJ (aE Iw (aB 2) (dY ai))) (B:=eS (fM pW fB 3 (aa (fM pW pX 2 (aa (gW aC 0 (aa (dM dS (aa (aB 2) ai)) ai)) ai)) ai)))
  (λm s=>∃(ls ts:S8 D)(φ':D),s=[.io φ',.v (.lst xs),.o (.lst ls),.o (.lst ts)]/\cQ φ'/\(ts++ls).Perm xs/\m=ls.length)
  (λs=>∃(ts:S8 D)(φ':D),s=[.io φ',.v (.lst xs),.o (.lst []),.o (.lst ts)]/\ts.Perm xs/\cQ φ')
  (by
   rintro m s ⟨ls,ts,φ',rfl,hf,pm,rfl⟩;have hlen:ts.length+ls.length=xs.length:=by have:=pm.length_eq;rw[Qa]at this;exact this
   cases ls with
   |nil=>
    rw[Zg]at pm;exact .inl ⟨_,rfl,ts,φ',rfl,pm,hf⟩
   |cons y lr=>
    right;have hl0:(y::lr).length=lr.length+1:=rfl;obtain⟨d,φ2,e,d0,d1,f2⟩:=bT (n:=((y::lr).length:Int)) hf (by lia) (by lia)
    have hk:d.toNat<(y::lr).length:=by lia
    refine⟨_,[.io φ2,.v (.lst xs),.o (.lst ((y::lr).eraseIdx d.toNat)),.o (.lst (ts++[(y::lr)[d.toNat]]))],((y::lr).eraseIdx d.toNat).length,rfl,?_,?_,_,_,φ2,rfl,f2,?_,rfl⟩
    ·exact df (p8 rfl rfl rfl (ap (p8 rfl rfl rfl (ap (bQ rfl rfl rfl rfl rfl rfl e) rfl) rfl rfl rfl (wt d0 d1 (by lia) hk)) rfl) rfl rfl rfl (app_ev (by lia)))
    ·rw[CZ hk];lia
    ·refine List.Perm.trans ?_ pm;rw[Xf]
     exact Dq ts (lJ hk))
  300 xs.length [.io φ,.v (.lst xs),.o (.lst xs),.o (.lst [])] (by lia) ⟨xs,[],φ,rfl,hφ,List.Perm.refl _,rfl⟩
 refine⟨ts,φ',?_,pm,hf⟩;refine cJ (o:=.rt (.s 3) [.io φ',.v (.lst xs),.o (.lst []),.o (.lst ts)]) rfl ?_ rfl;refine aj rfl ?_;refine aj rfl ?_;exact aj ew rfl
end K50
namespace VF
open PySem L2
def Ed{xs:S8 Str}(h:xs.length<64):tW [.lst (xs.map D.str)]=some (.lst ((bm xs).map D.str),true):=by
 show(jG (xs.map D.str)).bind (λys=>if ys.length<64 then some (D.lst ((bm ys).map D.str),true) else none)=_;rw[lG];show(if xs.length<64 then _ else _)=_;rw[Af h]
def uF{xs ys:S8 Str}(p:xs.Perm ys):bm xs=bm ys:=p7 ((ce xs).trans p) (lF xs)
end VF
namespace K50
open PySem L2 VF VL
abbrev fm(p:Bool×Str):D:=.str (bd p)
def kJ(h:Nm n):fJ [fm (t,n)]=some (.bl t,false):=by
 have e:fJ [fm (t,n)]=some (.bl (Txt.startswith (bd (t,n)) minus),false):=rfl;rw[e,nV h]
def Hs(h:Nm p.2):(bd p).length<=1000000:=by have:=(uq h).2;lia
theorem sQ(h:Nm n):kA [fm (t,n)]=some (.str n,false):=by
 refine aP (o:=.rt (.d (.str n)) [.v (fm (t,n))]) rfl ?_ rfl;cases t with
 |true=>
  refine aW (y3 (aH (bz rfl rfl (kJ h) rfl) rfl) (jo rfl rfl rfl rfl (NQ (Hs h)) ?_));show Rs.d (D.str (Txt.slice (minus++n) (some 1) none))=_;rw[xJ]
 |false=>exact aW (y4 (aH (bz rfl rfl (kJ h) rfl) rfl) rfl)
def Oq(h:Nm n):iW [fm (t,n)]=some (fm (!t,n),false):=by
 have e1:minus.length=1:=by decide +kernel
 refine aP (o:=.rt (.d (fm (!t,n))) [.v (fm (t,n))]) rfl ?_ rfl;cases t with
 |true=>exact aW (y3 (aH (bz rfl rfl (kJ h) rfl) rfl) (bz rfl rfl (sQ h) rfl))
 | false=>exact aW (y4 (aH (bz rfl rfl (kJ h) rfl) rfl) (ar rfl rfl rfl rfl (tX (by
   have:=(uq (p:=(false,n)) h).2;show minus.length+(bd (false,n)).length<=_
   lia))))
def J2{xs:S8 Str}(hφ:cQ φ)(hx:xs.length<=200)(nm:∀x∈xs,Nm x):∃(ps:S8 (Te×Str))(φ':D),ma φ [.lst (xs.map D.str)]=some ((.tup (ps.map fm),false),φ')/\(ps.map (·.2)).Perm xs/\cQ φ':=by
 obtain⟨ys,φ1,e1,pm,f1⟩:=J1 (xs:=xs.map D.str) hφ (by rw[Za];exact hx)
 obtain⟨zs,rfl,pz⟩:=uE (g:=λd=>match d with|.str z=>z|_=>Str.empty) (λ_=>rfl) pm
 have hzl:=pz.length_eq;have nz:∀z∈zs,Nm z:=λz hz=>nm z (pz.mem_iff.mp hz);obtain⟨ds,sf,ec,φ2,ps,rfl,f2,e3,e4⟩:=sH (fg:=gN 0) (fc:=cT) (k:=1) (fe:=aE bF (aE oN (fC (.str "-")) (gW aC 1 (aa (fC (.int 2)) ai))) (aB 0)) (zs.map D.str)
  (λgone pre sb=>∃(φ':D)(ps:S8 (Te×Str)),sb=[.e,.io φ']/\cQ φ'/\pre=ps.map fm/\gone=(ps.map (·.2)).map D.str)
  (by
   rintro gone x rest pre sb ha ⟨φ',ps,rfl,hf,rfl,rfl⟩;obtain⟨d,φ2,e,d0,d1,f2⟩:=bT (n:=2) hf (by decide) (by decide)
   have hxm:x∈zs.map D.str:=by rw[ha];simp
   obtain⟨z,hz,rfl⟩:=Va.mp hxm;have hm:=Ea (d:=d) (n:=z) d0 d1;refine⟨[.v (.str z),.io φ'],[.v (.str z),.io φ'],.d (fm (decide (d=1),z)),[.v (.str z),.io φ2],fm (decide (d=1),z),[.v (.str z),.io φ2],rfl,rfl,?_,rfl,φ2,ps++[(decide (d=1),z)],rfl,f2,by rw[Vd];rfl,by rw[Vd,Vd];rfl⟩
   refine ar (ar rfl (bQ rfl rfl rfl rfl rfl rfl e) rfl rfl (y0 ⟨d0,by lia,by decide +kernel⟩)) rfl rfl rfl (tX ?_) ?_
   ·have:=(uq (p:=(decide (d=1),z)) (nz z hz)).2;rw[<-hm,AL]at this;show(Txt.mul minus d).length+z.length<=_;lia
   ·show Rs.d (D.str (Txt.mul minus d++z))=_
    rw[hm])
  (zs.map D.str) [] [] [.e,.io φ1] rfl ⟨φ1,[],rfl,f1,rfl,rfl⟩
 rw[AV]at e3;subst e3;have e5:zs=ps.map (·.2):=by
  have:=congrArg (List.map (λd:D=>match d with|.str z=>z|_=>Str.empty)) e4
  rw[Qd,Qd]at this;exact((Cs zs).symm.trans this).trans (Cs _)
 refine⟨ps,φ2,?_,by rw[<-e5];exact pz,f2⟩
 refine cJ (o:=.rt (.d (.tup (ps.map fm))) [.io φ2,.v (.lst (xs.map D.str))]) rfl ?_ rfl;refine aW (bO (ap (bS (gl (bQ rfl rfl rfl rfl rfl rfl e1) rfl) ?_ ec) rfl) rfl rfl);show(true&&decide ((zs.map D.str).length<=1000000))=true;rw[Za,Ae (by lia)];rfl
end K50
namespace VF
open PySem L2
def Ka(h:x∈rng 0 n):∃i:Nat,i<n/\x=.int i:=by
 obtain⟨i,hi⟩:=Zn h;obtain⟨h1,h2⟩:=Ft hi;exact⟨i,h1,by rw[h2,Cw]⟩
theorem Kb(xs:S8 α)(d:D):xs.map (λ_=>d)=List.replicate xs.length d:=by
 induction xs with|nil=>rfl|cons x r ih=>rw[Zd,ih];rfl
end VF
namespace K50
open PySem L2 VF VL
def Ee(h:Dp (n+1) u):bi (jS (cV n)) 2 2 [u,u]=some (.bl true,false):=by
 have seqs:∀(ds:S8 D),ds.length<=1000000->(∀d∈ds,Dp n d)->∀(u:D),(∀i d,oF ds i=some d->dG u (.int i)=some (d,false))->
   cF (gN 0) cT (bx (cV n) (aa (aE dG (aB 1) (aB 0)) (aa (aE dG (aB 2) (aB 0)) ai))) 1 (rng 0 ((ds.length:Int)).toNat) [.e,.v u,.v u]=some (List.replicate ds.length (D.bl true),[.e,.v u,.v u]):=λds hl hd u hu=>by
  have e:=sD (fg:=gN 0) (fc:=cT) (k:=1) (fe:=bx (cV n) (aa (aE dG (aB 1) (aB 0)) (aa (aE dG (aB 2) (aB 0)) ai))) (λ_=>D.bl true) (rng 0 ((ds.length:Int)).toNat) [.e,.v u,.v u] (λx hx=>by
   obtain⟨i,hi,rfl⟩:=Ka hx;have hi':i<ds.length:=by lia
   have ha:oF ds (i:Int)=some ds[i]:=mI (Ya hi');refine⟨[.v (.int i),.v u,.v u],[.v (.int i),.v u,.v u],.d (.bl true),[.v (.int i),.v u,.v u],[.v (.int i),.v u,.v u],rfl,rfl,?_,rfl,rfl⟩
   exact bz (ap (ar rfl rfl rfl rfl (hu _ _ ha)) (ap (ar rfl rfl rfl rfl (hu _ _ ha)) rfl)) rfl (iO (hd _ (Wi hi'))) rfl)
  rw[e,Kb,fz];have:((ds.length:Int)).toNat=ds.length:=by lia
  rw[this]
 cases h with
 |bl _ b=>cases b<;>rfl
 |int _ i=>
  refine aP (o:=.rt (.d (.bl true)) [.v (.int i),.v (.int i)]) rfl ?_ rfl;refine aj rfl (aj rfl (nP (jH rfl ?_)));refine aW (qa rfl rfl (ar rfl rfl rfl rfl (z:=(.bl (decide (V.int i=V.int i)),false)) rfl ?_));rw[Ae rfl];rfl
 |non _=>rfl
 |str _ x=>
  refine aP (o:=.rt (.d (.bl true)) [.v (.str x),.v (.str x)]) rfl ?_ rfl;refine aj rfl (aj rfl (aj rfl (nP (jH rfl ?_))));refine aW (qa rfl rfl (ar rfl rfl rfl rfl (z:=(.bl (decide (V.str x=V.str x)),false)) rfl ?_));rw[Ae rfl];rfl
 |@tup _ ds hl hd=>
  refine aP (o:=.rt (.d (.bl true)) [.v (.tup ds),.v (.tup ds)]) rfl ?_ rfl;refine aj rfl (aj rfl (aj rfl (aj rfl (aj rfl ?_))));refine aW (qa (s:=[.v (.tup ds),.v (.tup ds)]) (r:=.d (.bl (decide (V.int ds.length=V.int ds.length)))) rfl (by rw[Ae rfl];rfl) ?_)
  refine bO (ap (bS (gX (j:=(ds.length:Int)) rfl rfl ⟨by lia,by lia⟩) (by
   show(true&&decide ((rng 0 ((ds.length:Int)).toNat).length<=1000000))=true
   rw[fz,Ae (by lia)];rfl) (seqs ds hl hd (.tup ds) λi d h=>VF.ix_tup h)) rfl) rfl (vO _)
 |@lst _ ds hl hd=>
  refine aP (o:=.rt (.d (.bl true)) [.v (.lst ds),.v (.lst ds)]) rfl ?_ rfl;refine aj rfl (aj rfl (aj rfl (aj rfl (aj rfl ?_))));refine aW (qa (s:=[.v (.lst ds),.v (.lst ds)]) (r:=.d (.bl (decide (V.int ds.length=V.int ds.length)))) rfl (by rw[Ae rfl];rfl) ?_)
  refine bO (ap (bS (gX (j:=(ds.length:Int)) rfl rfl ⟨by lia,by lia⟩) (by
   show(true&&decide ((rng 0 ((ds.length:Int)).toNat).length<=1000000))=true
   rw[fz,Ae (by lia)];rfl) (seqs ds hl hd (.lst ds) λi d h=>qB h)) rfl) rfl (vO _)
end K50
namespace VF
open PySem L2
section
variable {st s s1 s2:En}{r ry:Rs}{d1 d2:D}{fe fa:FE}{rest:Pn}{a:S9 (Rs×En)}{b:D->D->S9 Rz}
def Os(h:fa st=some (r,s))(h2:rest r s=a):Gq fa rest st=a:=by simp only[Gq,h,Wa];exact h2
def zu(h:fe st=some (r,s))(h1:cont s ry=some d1)(h2:cont s r=some d2)(h3:b d1 d2=some (.bl true,false))(h4:rest r s=a):fT b fe rest ry st=a:=by
 simp only[fT,h,h1,h2,h3,Wa];exact h4
def Ef(h:fe st=some (r,s))(h1:cont s ry=some d1)(h2:cont s r=some d2)(h3:b d1 d2=some z)(hz:mk z=r':=by rfl):mP b fe ry st=some (r',s):=by
 simp only[mP,h,h1,h2,h3,Wa,hz]
def Ou(h:i<=j):Iv (.int i) (.int j)=some (.bl true,false):=by
 show some (D.bl (decide (i<=j)),false)=_;rw[Ae h]
def Q1(h:i<j):xl (.int i) (.int j)=some (.bl true,false):=by
 show some (D.bl (decide (i<j)),false)=_;rw[Ae h]
end
def qC{l:S8 D}(hl:l.length<=n)(hb:b=true)(hn:n<=1000000:=by decide):(b&&decide (l.length<=1000000))=true:=by rw[hb,Ae (by lia)];rfl
def Ht(h:fe st=some (r,s))(h2:cont s r=some (.int i)):bU fe st=some (some i,s):=by
 simp only[bU,h,Wa,asInt,h2]
def Hu(h:∀d∈ds,Pl n d)(hn:n<=39):vR (.lst ds) (.lst ds)=some (.bl false,false):=by
 have up:∀(k:Nat){m:Nat}{d:D},Pl m d->Pl (m+k) d:=λk=>by
  induction k with|zero=>intro m d h;exact h|succ k ih=>intro m d h;exact(ih h).up
 have e1:FN true (.lst ds) (.lst ds)=none:=rfl;have p:Pl 40 (.lst ds):=.lst λd hd=>by
  have:=up (39-n) (h d hd);rwa [show n+(39-n)=39 by lia]at this
 cases ds with
 |nil=>
  unfold vR Iw nM;rw[e1];rfl
 |cons x r=>
  have e2:NF (.lst (x::r)) (.lst (x::r))=none:=rfl;have e3:xu true (.lst (x::r)) (.lst (x::r))=some (.bl false,false):=by
   unfold xu;rw[Af ⟨p,p⟩];simp
  unfold vR Iw nM;rw[e1,e2];exact e3
end VF
namespace K50
open PySem L2 VF VL
abbrev LD(ps:List (Bool×Str)):D:=.tup (ps.map fm)
abbrev Bs:=List (Bool×Str)
def CD(i j k l:Nat):D:=.tup [.str "change",.int i,.int j,.int k,.int l]
def bE(ps:Bs)(i j k l:Nat):Bs:=ps.take i++(ps.drop k).take (l-k)++(ps.drop j).take (k-j)++(ps.drop i).take (j-i)++ps.drop l
def LQ{ps:Bs}(h:i<=ps.length):gn (LD ps) none (some (i:Int))=some (LD (ps.take i),false):=by
 rw[xy,NZ (by rw[Za];exact h),<-List.map_take]
def zv{ps:Bs}(h:i<=ps.length):gn (LD ps) (some (i:Int)) none=some (LD (ps.drop i),false):=by
 rw[xy,Gy (by rw[Za];exact h),<-List.map_drop]
def oa{ps:Bs}(h:i<=ps.length)(h':j<=ps.length):gn (LD ps) (some (i:Int)) (some (j:Int))=some (LD ((ps.drop i).take (j-i)),false):=by
 rw[xy,Jz (by rw[Za];exact h) (by rw[Za];exact h'),<-List.map_drop,<-List.map_take]
def jV{ps qs:Bs}(h:ps.length+qs.length<=100000):dH (LD ps) (LD qs)=some (LD (ps++qs),false):=by
 rw[tY (by rw[Za,Za];exact h),<-Vd]
def og(ps:Bs):dS [LD ps]=some (.int ps.length,false):=by
 show some (D.int ((ps.map fm).length:Nat),false)=_;rw[Za]
def sR{ps:Bs}(hl:ps.length<=300)(h1:i<j)(h2:j<=k)(h3:k<l)(h4:l<=ps.length):jN [LD ps,.int i,.int j,.int k,.int l]=some (LD (bE ps i j k l),false):=by
 have g0:(0:Int)<=(i:Int):=by lia
 have g1:(i:Int)<(j:Int):=by lia
 have g3:(j:Int)<=(k:Int):=by lia
 have g4:(k:Int)<(l:Int):=by lia
 have g5:(l:Int)<=(ps.length:Int):=by lia
 have hi:i<=ps.length:=by lia
 have hj:j<=ps.length:=by lia
 have hk:k<=ps.length:=by lia
 refine aP (o:=.rt (.d (LD (bE ps i j k l))) [.v (LD ps),.v (.int i),.v (.int j),.v (.int k),.v (.int l)]) rfl ?_ rfl;refine aj (fI (p9 (aH (Os rfl (zu rfl rfl rfl (Ou g0) (zu rfl rfl rfl (Q1 g1) (zu rfl rfl rfl (Ou g3) (zu rfl rfl rfl (Q1 g4) (Ef (bO rfl rfl (og ps)) rfl rfl (Ou g5))))))) rfl)) rfl) ?_;refine aW (ar (ar (ar (ar (jo rfl rfl rfl rfl (LQ hi)) (jo rfl rfl rfl rfl (oa hk h4)) rfl rfl (jV ?_)) (jo rfl rfl rfl rfl (oa hj hk)) rfl rfl (jV ?_)) (jo rfl rfl rfl rfl (oa hi hj)) rfl rfl (jV ?_)) (jo rfl rfl rfl rfl (zv h4)) rfl rfl (jV ?_))
 all_goals simp only[Qa,Xk,Xi];lia
def wu{ps:Bs}(hl:ps.length<=300)(h1:i<j)(h2:j<=k)(h3:k<l)(h4:l<=ps.length):ir [LD ps,.int i,.int j,.int k,.int l]=some (LD (bE ps i j k l),false):=by
 have g0:(0:Int)<=(i:Int):=by lia
 have g1:(i:Int)<(j:Int):=by lia
 have g3:(j:Int)<=(k:Int):=by lia
 have g4:(k:Int)<(l:Int):=by lia
 have g5:(l:Int)<=(ps.length:Int):=by lia
 have hi:i<=ps.length:=by lia
 have hj:j<=ps.length:=by lia
 have hk:k<=ps.length:=by lia
 refine aP (o:=.rt (.d (LD (bE ps i j k l))) [.v (LD ps),.v (.int i),.v (.int j),.v (.int k),.v (.int l),.v (LD (ps.take i++(ps.drop k).take (l-k)))]) rfl ?_ rfl;refine aj (cy (ar (jo rfl rfl rfl rfl (LQ hi)) (jo rfl rfl rfl rfl (oa hk h4)) rfl rfl (jV ?_)) rfl) ?_
 ·simp only[Xk,Xi];lia
 refine aW (ar (ar (ar rfl (jo rfl rfl rfl rfl (oa hj hk)) rfl rfl (jV ?_)) (jo rfl rfl rfl rfl (oa hi hj)) rfl rfl (jV ?_)) (jo rfl rfl rfl rfl (zv h4)) rfl rfl (jV ?_))
 all_goals simp only[Qa,Xk,Xi];lia
def m5{ps:Bs}(hl:ps.length<=300)(h1:i<j)(h2:j<=k)(h3:k<l)(h4:l<=ps.length):fG [LD ps,CD i j k l]=some (LD (bE ps i j k l),false)/\b9 [LD ps,CD i j k l]=some (LD (bE ps i j k l),false):=by
 constructor
 ·refine aP (o:=.rt (.d (LD (bE ps i j k l))) [.v (LD ps),.v (CD i j k l)]) rfl ?_ rfl;exact aj (fI rfl rfl) (aW (aR rfl rfl (sR hl h1 h2 h3 h4)))
 ·refine aP (o:=.rt (.d (LD (bE ps i j k l))) [.v (LD ps),.v (CD i j k l)]) rfl ?_ rfl;exact aj (fI rfl rfl) (aW (aR rfl rfl (wu hl h1 h2 h3 h4)))
def eQ(p:Nat×Nat):D:=.tup [.int p.1,.int p.2]
def rG(n i:Nat):S8 (Nat×Nat):=(List.range (n-i)).map λt=>(i,i+1+t)
def rp(n:Nat):S8 (Nat×Nat):=(List.range n).flatMap (rG n)
def Hv:∀n∈List.range 41,(rp n).length<=1000:=by decide +kernel
def qD(i:Nat):((i:Int)+1)=((i+1:Nat):Int):=by lia
def Eg(hn:n<=40)
  (hB:∀(acc:S8 D)(i:Nat),i<n->acc.length<=1000->B [.v x0,.o (.lst acc),.v (.int i)]=some (.nx [.v x0,.o (.lst (acc++(rG n i).map g)),.v (.int i)])) :
  ∃o2:Sl,dZ (gN 2) B (rng 0 n) [.v x0,.o (.lst []),.e]=some (.nx [.v x0,.o (.lst ((rp n).map g)),o2]):=by
 have hrp:=Hv n (Qb.mpr (by lia))
 have e0:rng 0 n=(List.range n).map λt:Nat=>D.int (t:Int):=by
  unfold rng;exact We λt _=>by rw[Cw]
 rw[e0];obtain⟨sf,e,o2,rfl,_⟩:=bP (fg:=gN 2) (B:=B) (λt:Nat=>D.int (t:Int)) (List.range n)
  (λgone st=>∃o2:Sl,st=[.v x0,.o (.lst ((gone.flatMap (rG n)).map g)),o2]/\o2.isIo=false)
  (by
   rintro gone x rest st ha ⟨o2,rfl,q⟩;have hx:x<n:=Qb.mp (by rw[ha];simp)
   have hl:(gone.flatMap (rG n)).length<=1000:=by
    have h1:=congrArg (λl=>(List.flatMap (rG n) l).length) ha;simp only[Yk,Qa]at h1;have:(rp n).length=((List.range n).flatMap (rG n)).length:=rfl;lia
   refine⟨_,_,fPut_ev rfl q,hB _ x hx (by rw[Za];exact hl),.v (.int x),?_,rfl⟩
   rw[Yk,Vd]
   simp)
  (List.range n) [] _ rfl ⟨.e,rfl,rfl⟩
 exact⟨o2,e⟩
def Hw(g:Nat×Nat->D)(hi:i<n)
  (h:∀j:Nat,∃s1 y s3 s4,gN 0 (.int j) sb=some s1/\fe s1=some (y,s3)/\esc y s3=some (g (i,j),s4)/\re 1 s4=sb) :
  cF (gN 0) cT fe 1 (rng ((i:Int)+1) (((n:Int)+1)-((i:Int)+1)).toNat) sb=some ((rG n i).map g,sb):=by
 have e:(((n:Int)+1)-((i:Int)+1)).toNat=n-i:=by lia
 rw[e,qD,pb];have z:=ci (fg:=gN 0) (fc:=cT) (fe:=fe) (k:=1) (λt:Nat=>D.int ((i+1+t:Nat):Int)) (λt=>g (i,i+1+t)) sb (List.range (n-i)) λt _=>by
  obtain⟨s1,y,s3,s4,e1,e2,e3,e4⟩:=h (i+1+t);exact⟨s1,s1,y,s3,s4,e1,rfl,e2,e3,e4⟩
 rw[z];unfold rG;rw[Qd];rfl
def Kc{ps:Bs}(hl:ps.length<=40):kG [LD ps]=some (.lst ((rp ps.length).map eQ),true):=by
 have sp:∃B,kF=ay (aU (dY ai) 1) (ay (cL (mM (aa (dM dS (aa (aB 0) ai)) ai)) (gN 2) B) (bj (aB 1)))/\∀(acc:S8 D)(i:Nat),i<ps.length->acc.length<=1000->B [.v (LD ps),.o (.lst acc),.v (.int i)]=some (.nx [.v (LD ps),.o (.lst (acc++(rG ps.length i).map eQ)),.v (.int i)]):=by
  refine⟨_,rfl,λacc i hi ha=>?_⟩;refine df (p8 rfl rfl rfl (ap (bS (o9 (i:=(i:Int)+1) (j:=(ps.length:Int)+1) (ap rfl (ap (ar (bO rfl rfl (og ps)) rfl rfl rfl rfl) rfl)) rfl ⟨by lia,by lia,by lia,by lia⟩) (qC (n:=40) (by rw[fz];lia) rfl) (Hw eQ hi λj=>?_)) rfl) rfl rfl rfl (tZ ?_))
  ·exact⟨_,_,_,_,rfl,gm rfl rfl (by show 2<=1000000;decide),rfl,rfl⟩
  ·unfold rG;rw[Za,Za,Ze];lia
 obtain⟨B,eF,hB⟩:=sp;obtain⟨o2,e⟩:=Eg hl hB;refine aP (o:=.rt (.s 1) [.v (LD ps),.o (.lst ((rp ps.length).map eQ)),o2]) rfl ?_ rfl;rw[eF];exact aj rfl (aj (cg (gX (j:=(ps.length:Int)) (ap (bO rfl rfl (og ps)) rfl) rfl ⟨by lia,by lia⟩) e) rfl)
abbrev Q4:=Nat×Nat×Nat×Nat
def cd(q:Q4):D:=CD q.1 q.2.1 q.2.2.1 q.2.2.2
def Ov(n i j k:Nat):S8 Q4:=(List.range (n-k)).map λt=>(i,j,k,k+1+t)
def Ox(n i j:Nat):S8 Q4:=(List.range (n-j)).flatMap λc=>Ov n i j (j+c)
def in1(n i:Nat):S8 Q4:=(List.range (n-(i+1))).flatMap λb=>Ox n i (i+1+b)
def xV(n:Nat):S8 Q4:=(List.range n).flatMap (in1 n)
def Ke(n:Nat)(p:Nat×Nat):S8 Q4:=((rp n).filter λq=>decide (p.2<=q.1)).map λq=>(p.1,p.2,q.1,q.2)
def RU(n:Nat):S8 Q4:=(rp n).flatMap (Ke n)
def wv:∀n∈List.range 11,RU n=xV n/\(xV n).length<=800:=by decide +kernel
def Kf:∀n∈List.range 11,∀q∈xV n,q.1<q.2.1/\q.2.1<=q.2.2.1/\q.2.2.1<q.2.2.2/\q.2.2.2<=n:=by decide +kernel
def Oy(n:Nat):S8 D:=(xV n).map cd
def xW{ps:Bs}(hl:ps.length<=10):gH [LD ps]=some (.lst (Oy ps.length),true):=by
 obtain⟨he,hc⟩:=wv ps.length (Qb.mpr (by lia))
 have hrp:=Hv ps.length (Qb.mpr (by lia))
 have sp:∃B,eI=ay (aU (bb kG (aa (aB 0) ai)) 1) (ay (aU (dY ai) 2) (ay (cL (kQ (aB 1)) (gN 3) B) (bj (aB 2))))/\∀(acc:S8 D)(p:Nat×Nat),acc.length+((Ke ps.length p).map cd).length<=1000->B [.v (LD ps),.v (.lst ((rp ps.length).map eQ)),.o (.lst acc),.v (eQ p)]=some (.nx [.v (LD ps),.v (.lst ((rp ps.length).map eQ)),.o (.lst (acc++(Ke ps.length p).map cd)),.v (eQ p)]):=by
  refine⟨_,rfl,λacc p ha=>?_⟩;refine df (p8 rfl rfl rfl (ap (bS (s2:=[.e,.v (eQ p)]) (es:=(Ke ps.length p).map cd) (gl rfl rfl) (qC (n:=1000) (by rw[Za];exact hrp) rfl) ?_) rfl) rfl rfl rfl (tZ (by lia)))
  have z:=dP (fg:=gN 0) (fc:=aJ (aE Iv (aE dG (aB 1) (fC (.int 1))) (aE dG (aB 0) (fC (.int 0))))) (fe:=aE dH (aE dH (jA (aa (fC (.str "change")) ai)) (aB 1)) (aB 0)) (k:=1) eQ (λq=>cd (p.1,p.2,q.1,q.2)) (λq=>decide (p.2<=q.1)) [.e,.v (eQ p)] (rp ps.length) λq _=>by
   refine⟨[.v (eQ q),.v (eQ p)],[.v (eQ q),.v (eQ p)],rfl,?_,λ_=>rfl,λ_=>⟨.d (cd (p.1,p.2,q.1,q.2)),[.v (eQ q),.v (eQ p)],[.v (eQ q),.v (eQ p)],?_,rfl,rfl⟩⟩
   ·have e:aJ (aE Iv (aE dG (aB 1) (fC (.int 1))) (aE dG (aB 0) (fC (.int 0)))) [.v (eQ q),.v (eQ p)]=some (decide ((p.2:Int)<=(q.1:Int)),[.v (eQ q),.v (eQ p)]):=rfl;rw[e];congr 2;rw[A9];lia
   ·exact ar (ar (gm rfl rfl (by show 1<=1000000;decide)) rfl rfl rfl (tY (by show 1+2<=100000;decide))) rfl rfl rfl (tY (by show 3+2<=100000;decide))
  refine z.trans ?_;unfold Ke;rw[Qd];rfl
 obtain⟨B,eF,hB⟩:=sp;have hlen:((rp ps.length).flatMap λp=>(Ke ps.length p).map cd).length<=1000:=by
  have:((rp ps.length).flatMap λp=>(Ke ps.length p).map cd)=(RU ps.length).map cd:=by unfold RU;rw[Bb]
  rw[this,Za,he];lia
 obtain⟨sf,e,s3,rfl,_⟩:=jI (f:=eQ) (g:=λp=>(Ke ps.length p).map cd) (B:=B) (fg:=gN 3) (λacc st=>∃s3:Sl,st=[.v (LD ps),.v (.lst ((rp ps.length).map eQ)),.o (.lst acc),s3]/\s3.isIo=false) (rp ps.length) 1000
  (by
   rintro acc p st _ ha ⟨s3,rfl,q⟩
   exact⟨_,_,fPut_ev rfl q,hB acc p ha,.v (eQ p),rfl,rfl⟩)
  (rp ps.length) [] [.v (LD ps),.v (.lst ((rp ps.length).map eQ)),.o (.lst []),.e] (λ_ h=>h) (by simpa using hlen) ⟨.e,rfl,rfl⟩
 have e2:([]++(rp ps.length).flatMap λp=>(Ke ps.length p).map cd)=Oy ps.length:=by
  unfold Oy;rw[AV,<-he];unfold RU;rw[Bb]
 rw[e2]at e;refine aP (o:=.rt (.s 2) [.v (LD ps),.v (.lst ((rp ps.length).map eQ)),.o (.lst (Oy ps.length)),s3]) rfl ?_ rfl;rw[eF];exact aj (jn (aR rfl rfl (Kc (by lia))) rfl) (aj rfl (aj (cg (gl rfl rfl) e) rfl))
def ww{n:Nat}(hn:n<=10):ip [.int n]=some (.lst (Oy n),true):=by
 obtain⟨_,hc⟩:=wv n (Qb.mpr (by lia))
 have sub1:∀i,i<n->(in1 n i).length<=800:=λi hi=>by
  have h:=List.append_of_mem (Qb.mpr hi);obtain⟨a,b,h⟩:=h;have h1:=congrArg (λl=>(List.flatMap (in1 n) l).length) h;simp only[Yk,Yl,Qa]at h1;have:(xV n).length=((List.range n).flatMap (in1 n)).length:=rfl;lia
 have sp:∃B,fH=ay (aU (dY ai) 1) (ay (cL (mM (aa (aB 0) ai)) (gN 2) (cL (lB (aa (aE bF (aB 2) (fC (.int 1))) (aa (aB 0) ai))) (gN 3) (cL (lB (aa (aB 3) (aa (aB 0) ai))) (gN 4) B))) (bj (aB 1))) /\
   ∀(acc:S8 D)(i j k:Nat),k<n->acc.length+((Ov n i j k).map cd).length<=1000->B [.v (.int n),.o (.lst acc),.v (.int i),.v (.int j),.v (.int k)]=some (.nx [.v (.int n),.o (.lst (acc++(Ov n i j k).map cd)),.v (.int i),.v (.int j),.v (.int k)]):=by
  refine⟨_,rfl,λacc i j k hk ha=>?_⟩;refine df (p8 rfl rfl rfl (ap (bS (s2:=[.e,.v (.int i),.v (.int j),.v (.int k)]) (es:=(Ov n i j k).map cd) (o9 (i:=(k:Int)+1) (j:=(n:Int)+1) rfl rfl ⟨by lia,by lia,by lia,by lia⟩) (qC (n:=40) (by rw[fz];lia) rfl) ?_) rfl) rfl rfl rfl (tZ (by lia)))
  have e:(((n:Int)+1)-((k:Int)+1)).toNat=n-k:=by lia
  rw[e,qD,pb];have z:=ci (fg:=gN 0) (fc:=cT) (fe:=jA (aa (fC (.str "change")) (aa (aB 1) (aa (aB 2) (aa (aB 3) (aa (aB 0) ai)))))) (k:=1) (λt:Nat=>D.int ((k+1+t:Nat):Int)) (λt=>cd (i,j,k,k+1+t)) [.e,.v (.int i),.v (.int j),.v (.int k)] (List.range (n-k)) λt _=>
   ⟨_,_,_,_,_,rfl,rfl,gm rfl rfl (by show 5<=1000000;decide),rfl,rfl⟩
  refine z.trans ?_;unfold Ov;rw[Qd];rfl
 obtain⟨B,eF,hB⟩:=sp;have l3:∀(acc:S8 D)(i j:Nat)(sk:Sl),sk.isIo=false->j<=n->acc.length+((Ox n i j).map cd).length<=1000->∃sk':Sl,cL (lB (aa (aB 3) (aa (aB 0) ai))) (gN 4) B [.v (.int n),.o (.lst acc),.v (.int i),.v (.int j),sk]=some (.nx [.v (.int n),.o (.lst (acc++(Ox n i j).map cd)),.v (.int i),.v (.int j),sk'])/\sk'.isIo=false:=λacc i j sk q hj ha=>by
  have e:(((n:Int))-((j:Int))).toNat=n-j:=by lia
  have e1:(Ox n i j).map cd=(List.range (n-j)).flatMap λc=>(Ov n i j (j+c)).map cd:=by unfold Ox;rw[Bb]
  obtain⟨sf,ef,sk',rfl,q'⟩:=jI (f:=λt:Nat=>D.int ((j+t:Nat):Int)) (g:=λc=>(Ov n i j (j+c)).map cd) (B:=B) (fg:=gN 4) (λacc st=>∃sk:Sl,st=[.v (.int n),.o (.lst acc),.v (.int i),.v (.int j),sk]/\sk.isIo=false) (List.range (n-j)) 1000
   (by
    rintro acc c st hc ha ⟨sk,rfl,q⟩;have:=Qb.mp hc
    exact⟨_,_,fPut_ev rfl q,hB acc i j (j+c) (by lia) ha,.v (.int ((j+c:Nat):Int)),rfl,rfl⟩)
   (List.range (n-j)) acc [.v (.int n),.o (.lst acc),.v (.int i),.v (.int j),sk] (λ_ h=>h) (by rw[<-e1];exact ha) ⟨sk,rfl,q⟩
  rw[<-e1]at ef;refine⟨sk',cg (o9 (i:=(j:Int)) (j:=(n:Int)) rfl rfl ⟨by lia,by lia,by lia,by lia⟩) ?_,q'⟩
  rw[e,pb];exact ef
 have l2:∀(acc:S8 D)(i:Nat)(sj sk:Sl),sj.isIo=false->sk.isIo=false->i<n->acc.length+((in1 n i).map cd).length<=1000->∃sj' sk':Sl,cL (lB (aa (aE bF (aB 2) (fC (.int 1))) (aa (aB 0) ai))) (gN 3) (cL (lB (aa (aB 3) (aa (aB 0) ai))) (gN 4) B) [.v (.int n),.o (.lst acc),.v (.int i),sj,sk]=some (.nx [.v (.int n),.o (.lst (acc++(in1 n i).map cd)),.v (.int i),sj',sk'])/\sj'.isIo=false/\sk'.isIo=false:=λacc i sj sk qj qk hi ha=>by
  have e:(((n:Int))-((i:Int)+1)).toNat=n-(i+1):=by lia
  have e1:(in1 n i).map cd=(List.range (n-(i+1))).flatMap λc=>(Ox n i (i+1+c)).map cd:=by unfold in1;rw[Bb]
  obtain⟨sf,ef,sj',sk',rfl,qj',qk'⟩:=jI (f:=λt:Nat=>D.int ((i+1+t:Nat):Int)) (g:=λc=>(Ox n i (i+1+c)).map cd) (B:=cL (lB (aa (aB 3) (aa (aB 0) ai))) (gN 4) B) (fg:=gN 3) (λacc st=>∃sj sk:Sl,st=[.v (.int n),.o (.lst acc),.v (.int i),sj,sk]/\sj.isIo=false/\sk.isIo=false) (List.range (n-(i+1))) 1000
   (by
    rintro acc c st hc ha ⟨sj,sk,rfl,qj,qk⟩;have:=Qb.mp hc;obtain⟨sk',e3,qk'⟩:=l3 acc i (i+1+c) sk qk (by lia) ha
    exact⟨_,_,fPut_ev rfl qj,e3,.v (.int ((i+1+c:Nat):Int)),sk',rfl,rfl,qk'⟩)
   (List.range (n-(i+1))) acc [.v (.int n),.o (.lst acc),.v (.int i),sj,sk] (λ_ h=>h) (by rw[<-e1];exact ha) ⟨sj,sk,rfl,qj,qk⟩
  rw[<-e1]at ef;refine⟨sj',sk',cg (o9 (i:=(i:Int)+1) (j:=(n:Int)) rfl rfl ⟨by lia,by lia,by lia,by lia⟩) ?_,qj',qk'⟩
  rw[e,qD,pb];exact ef
 have e0:rng 0 n=(List.range n).map λt:Nat=>D.int (t:Int):=by
  unfold rng;exact We λt _=>by rw[Cw]
 have e1:(xV n).map cd=(List.range n).flatMap λi=>(in1 n i).map cd:=by unfold xV;rw[Bb]
 obtain⟨sf,ef,si,sj,sk,rfl,_⟩:=jI (f:=λt:Nat=>D.int (t:Int)) (g:=λi=>(in1 n i).map cd) (B:=cL (lB (aa (aE bF (aB 2) (fC (.int 1))) (aa (aB 0) ai))) (gN 3) (cL (lB (aa (aB 3) (aa (aB 0) ai))) (gN 4) B)) (fg:=gN 2) (λacc st=>∃si sj sk:Sl,st=[.v (.int n),.o (.lst acc),si,sj,sk]/\si.isIo=false/\sj.isIo=false/\sk.isIo=false) (List.range n) 1000
  (by
   rintro acc i st hi ha ⟨si,sj,sk,rfl,qi,qj,qk⟩;obtain⟨sj',sk',e3,qj',qk'⟩:=l2 acc i sj sk qj qk (Qb.mp hi) ha
   exact⟨_,_,fPut_ev rfl qi,e3,.v (.int (i:Int)),sj',sk',rfl,rfl,qj',qk'⟩)
  (List.range n) [] [.v (.int n),.o (.lst []),.e,.e,.e] (λ_ h=>h) (by rw[<-e1,Za];simp;lia) ⟨.e,.e,.e,rfl,rfl,rfl,rfl⟩
 rw[<-e1,<-e0,AV]at ef;refine aP (o:=.rt (.s 1) [.v (.int n),.o (.lst (Oy n)),si,sj,sk]) rfl ?_ rfl;rw[eF];exact aj rfl (aj (cg (gX (j:=(n:Int)) rfl rfl ⟨by lia,by lia⟩) ef) rfl)
end K50
namespace VF
open PySem L2
def Oz:uV (.int i) (.int j)=some (.bl (decide (i=j)),false):=by
 show some (D.bl (decide (V.int i=V.int j)),false)=_;by_cases h:i=j
 ·subst h;simp
 ·rw[Ad h,Ad (λz=>h (V.int.inj z))]
def OB{ds:S8 D}{i:Nat}{d:D}(h:ds[i]?=some d):dG (.lst ds) (.int i)=some (d,false):=qB (mI h)
def zw{ds:S8 D}{i:Nat}{d:D}(h:ds[i]?=some d):dG (.tup ds) (.int i)=some (d,false):=ix_tup (mI h)
def OC(h1:fa st=some (rs,s))(h2:cj s rs=some [.int j])(h3:VF22.RB 0 j):VF22.fLR1 fa st=some (.f (.lst (rng 0 (j-0).toNat)),s):=by
 simp only[VF22.fLR1,h1,h2,Wa,xi];rw[Af h3]
def qE{ds:S8 D}(h1:fa st=some (rs,s1))(h2:cS rs s1=some (ds,s2))(h3:ds.length<=1000000):dY fa st=some (.f (.lst ds),s2):=by
 simp only[dY,h1,h2,Wa];rw[Af h3]
end VF
namespace K50
open PySem L2 VF VF22
def LR{l:S8 α}(h:(l.map f).Nodup):l.Nodup:=by
 rw[List.Nodup,Vg]at h;exact List.Pairwise.imp (λhne e=>hne (congrArg f e)) h
theorem Hx:∀{l:S8 α},(l.map f).Nodup->∀{x y:α},x∈l->y∈l->f x=f y->x=y
 |[],_,_,_,hx,_,_=>by cases hx
 | a::l,h,x,y,hx,hy,e=>by
  rw[Zd,Qh]at h;rcases Zc.mp hx with h1|h1
  ·rcases Zc.mp hy with h2|h2
   ·rw[h1,h2]
   ·exact absurd (by rw[<-h1,e];exact BZ h2) h.1
  ·rcases Zc.mp hy with h2|h2
   ·exact absurd (by rw[<-h2,<-e];exact BZ h1) h.1
   ·exact Hx h.2 h1 h2 e
def ab(i:Int):Int:=if i<0 then -i else i
structure Nq(c:Int)(ns:List Int):Prop where
 nd:(ns.map ab).Nodup
 le:∀n∈ns,ab n<=c
abbrev IL(xs:List Int):D:=.lst (xs.map D.int)
def uG(i:Int):b1 Js [.int i]=some (.int (ab i),false):=rfl
def zx{st Tn:En}{t:Sl}(h:st[i]?=some t)(hs:t.isIo=false)(h2:st.set i (.v d)=Tn:=by rfl):gN i d st=some Tn:=by
 simp only[gN,kL,h,Wa,hs,Xe,if_false,h2]
def uH(ns:S8 Int):dS [IL ns]=some (.int ns.length,false):=by
 show some (D.int ((ns.map D.int).length:Nat),false)=_;rw[Za]
structure Ln(ns:List Int):Prop where
 nm:Nq ((ns.length:Int)-1) ns
 hd:∃r,ns=0::r
 la:∃r,ns=r++[(ns.length:Int)-1]
 two:2<=ns.length
end K50
set_option linter.all false
namespace K50
theorem fP[DecidableEq α]:∀{l m:S8 α},l.Nodup->l ⊆ m->l.length<=m.length
 |[],_,_,_=>Yi _
 | a::l,m,nd,sub=>by
  rw[Qh]at nd;have ha:a∈m:=sub Wc;have h:=fP (m:=m.erase a) nd.2 λx hx=>(List.mem_erase_of_ne (λe=>nd.1 (by rw[<-e];exact hx))).mpr (sub (Wb _ hx))
  rw[C7 ha]at h;have:=BI ha;rw[Qc];lia
def tw(x:Nat):Nat:=if x % 2=0 then x+1 else x-1
def kT(x:Nat):tw (tw x)=x:=by unfold tw;split<;>split<;>lia
def LS(x:Nat):tw x≠x:=by unfold tw;split<;>lia
def kK(x:Nat):tw x / 2=x / 2:=by unfold tw;split<;>lia
def qF(h:x<2*N):tw x<2*N:=by unfold tw;split<;>lia
def zy(h:x / 2=y / 2):x=y\/x=tw y:=by unfold tw;split<;>lia
structure Pm(N:Nat)(q q':Nat->Nat):Prop where
 lt:∀p,p<2*N->q p<2*N
 lt':∀p,p<2*N->q' p<2*N
 l:∀p,p<2*N->q' (q p)=p
 r:∀p,p<2*N->q (q' p)=p
def ta(q q':Nat->Nat)(p:Nat):Nat:=q' (tw (q p))
section
variable {N:Nat}{q q':Nat->Nat}
def Hy(h:Pm N q q')(hp:p<2*N):ta q q' p<2*N:=h.lt' _ (qF (h.lt p hp))
def sS(h:Pm N q q')(hp:p<2*N):ta q q' (ta q q' p)=p:=by
 unfold ta;rw[h.r _ (qF (h.lt p hp)),kT,h.l p hp]
def Q2(h:Pm N q q')(hp:p<2*N):ta q q' p≠p:=λe=>by
 have:=congrArg q e;unfold ta at this;rw[h.r _ (qF (h.lt p hp))]at this;exact LS _ this
inductive Cn(q q':Nat->Nat)(a:Nat):Nat->Prop
 | refl:Cn q q' a a
 | tw {b:Nat}:Cn q q' a b->Cn q q' a (tw b)
 | ta {b:Nat}:Cn q q' a b->Cn q q' a (ta q q' b)
theorem Cn.trans(h1:Cn q q' a b)(h2:Cn q q' b c):Cn q q' a c:=by
 induction h2 with|refl=>exact h1|tw _ ih=>exact .tw ih|ta _ ih=>exact .ta ih
theorem Cn.lt(h:Pm N q q')(ha:a<2*N)(c:Cn q q' a b):b<2*N:=by
 induction c with|refl=>exact ha|tw _ ih=>exact qF ih|ta _ ih=>exact Hy h ih
theorem Cn.symm(h:Pm N q q')(ha:a<2*N)(c:Cn q q' a b):Cn q q' b a:=by
 induction c with
 |refl=>exact .refl
 |@tw b c ih=>
  have:Cn q q' (K50.tw b) b:=by
   have:=Cn.tw (Cn.refl (q:=q) (q':=q') (a:=K50.tw b));rwa [kT]at this
  exact this.trans ih
 |@ta b c ih=>
  have:Cn q q' (K50.ta q q' b) b:=by
   have:=Cn.ta (Cn.refl (q:=q) (q':=q') (a:=K50.ta q q' b));rwa [sS h (c.lt h ha)]at this
  exact this.trans ih
def Rp(q q':Nat->Nat)(k j:Nat):Prop:=Cn q q' (2*k) (2*j)
def uI(c:Cn q q' a b):Cn q q' a (2*(b / 2)):=by
 by_cases e:b % 2=0
 ·have:2*(b / 2)=b:=by lia
  rwa [this]
 ·have:2*(b / 2)=tw b:=by unfold tw;rw[Ah e];lia
  rw[this];exact .tw c
def Hz(c:Cn q q' a (2*(b / 2))):Cn q q' a b:=by
 by_cases e:b % 2=0
 ·have:2*(b / 2)=b:=by lia
  rwa [this]at c
 ·have:b=tw (2*(b / 2)):=by unfold tw;rw[Af (by lia)];lia
  rw[this];exact .tw c
def uJ(k:Nat):Rp q q' k k:=.refl
def pq(h:Pm N q q')(hk:k<N)(r:Rp q q' k j):Rp q q' j k:=Cn.symm h (by lia) r
def jW(a:Rp q q' i j)(b:Rp q q' j k):Rp q q' i k:=Cn.trans a b
def Q3(h:Pm N q q')(hk:k<N)(r:Rp q q' k j):j<N:=by
 have:=Cn.lt h (by lia) r;lia
def wk(q q':Nat->Nat)(p:Nat):Nat->Nat|0=>p|n+1=>tw (ta q q' (wk q q' p n))
theorem kU(h:Pm N q q')(hp:p<2*N):∀n,wk q q' p n<2*N|0=>hp|n+1=>qF (Hy h (kU h hp n))
theorem HA:∀n,Cn q q' p (wk q q' p n)|0=>.refl|n+1=>.tw (.ta (HA n))
def kW(q q':Nat->Nat)(p m:Nat):S8 Nat:=(List.range m).map λi=>wk q q' p i / 2
def Uc:x∈kW q q' p m↔∃i,i<m/\wk q q' p i / 2=x:=by
 unfold kW;simp[Va,Qb]
def wx(p m:Nat):kW q q' p (m+1)=kW q q' p m++[wk q q' p m / 2]:=by
 unfold kW;rw[BP,Vd];rfl
def m6(p m:Nat):(kW q q' p m).length=m:=by unfold kW;simp
def HB(nd:(kW q q' p m).Nodup)(hi:i<m)(hj:j<m)(e:wk q q' p i / 2=wk q q' p j / 2):i=j:=by
 have h:=CH (h₀:=by rw[m6];exact hi) (h₁:=by rw[m6];exact hj) nd (xs:=kW q q' p m)
 exact h.mp (by unfold kW;simpa using e)
def Kg(h:Pm N q q')(hp:p<2*N)(nd:(kW q q' p m).Nodup)(hm:wk q q' p m / 2∈kW q q' p m):wk q q' p m=p:=by
 obtain⟨j,hj,e⟩:=Uc.mp hm;obtain⟨n,rfl⟩:∃n,m=n+1:=⟨m-1,by lia⟩
 have ln:=kU (q:=q) (q':=q') h hp n;have lj:=kU (q:=q) (q':=q') h hp j;rcases zy e.symm with z|z
 ·cases j with
  |zero=>exact z
  |succ i=>
   exfalso
   have z1:tw (ta q q' (wk q q' p n))=tw (ta q q' (wk q q' p i)):=z;have z2:=congrArg tw z1;rw[kT,kT]at z2;have z3:=congrArg (ta q q') z2;rw[sS h ln,sS h (kU h hp i)]at z3;have:=HB nd (i:=n) (j:=i) (by lia) (by lia) (by rw[z3])
   lia
 ·exfalso
  have z1:tw (ta q q' (wk q q' p n))=tw (wk q q' p j):=z;have z2:=congrArg tw z1;rw[kT,kT]at z2;have z3:ta q q' (wk q q' p j)=wk q q' p n:=by rw[<-z2,sS h ln]
  by_cases c:j=n
  ·rw[c]at z2;exact Q2 h ln z2
  ·have z4:wk q q' p (j+1)=tw (wk q q' p n):=by show tw (ta q q' (wk q q' p j))=_;rw[z3]
   have:=HB nd (i:=j+1) (j:=n) (by lia) (by lia) (by rw[z4,kK])
   rw[this]at z4;exact LS _ z4.symm
def HD(h:Pm N q q')(hp:p<2*N)(nd:(kW q q' p m).Nodup)(hm:wk q q' p m / 2∈kW q q' p m)(x:Nat):x∈kW q q' p m↔Cn q q' p (2*x):=by
 have eb:=Kg h hp nd hm;have m0:0<m:=by obtain⟨j,hj,_⟩:=Uc.mp hm;lia
 constructor
 ·intro z;obtain⟨i,_,rfl⟩:=Uc.mp z;exact uI (HA i)
 ·intro z;have key:∀b,Cn q q' p b->∃i,i<m/\(b=wk q q' p i\/b=tw (wk q q' p i)):=by
   intro b c;induction c with
   |refl=>exact⟨0,m0,.inl rfl⟩
   |tw _ ih=>
    obtain⟨i,hi,z|z⟩:=ih
    ·exact⟨i,hi,.inr (by rw[z])⟩
    ·exact⟨i,hi,.inl (by rw[z,kT])⟩
   |ta _ ih=>
    obtain⟨i,hi,z|z⟩:=ih
    ·have e:ta q q' (wk q q' p i)=tw (wk q q' p (i+1)):=by show _=tw (tw _);rw[kT]
     by_cases c:i+1<m
     ·exact⟨i+1,c,.inr (by rw[z,e])⟩
     ·have:i+1=m:=by lia
      exact⟨0,m0,.inr (by rw[z,e,this,eb];rfl)⟩
    ·cases i with
     |zero=>
      obtain⟨n,rfl⟩:∃n,m=n+1:=⟨m-1,by lia⟩
      refine⟨n,by lia,.inl ?_⟩
      have e:tw (ta q q' (wk q q' p n))=p:=eb;have e2:=congrArg tw e;rw[kT]at e2;rw[z];show ta q q' (tw p)=_;rw[<-e2,sS h (kU h hp n)]
     |succ j=>
      refine⟨j,by lia,.inl ?_⟩
      rw[z];show ta q q' (tw (tw _))=_;rw[kT,sS h (kU h hp j)]
  obtain⟨i,hi,z|z⟩:=key _ z
  ·exact Uc.mpr ⟨i,hi,by rw[<-z];lia⟩
  ·refine Uc.mpr ⟨i,hi,?_⟩;have:=congrArg (· / 2) z;simp only[kK]at this;lia
def oh(h:Pm N q q')(hp:p<2*N)(nd:(kW q q' p m).Nodup):m<=N:=by
 have sub:kW q q' p m ⊆ List.range N:=λx hx=>by
  obtain⟨i,_,rfl⟩:=Uc.mp hx;have:=kU (q:=q) (q':=q') h hp i;exact Qb.mpr (by lia)
 have:=fP nd sub;rwa [m6,Ze]at this
open Classical
noncomputable def cls(N:Nat)(q q':Nat->Nat)(k:Nat):S8 Nat:=(List.range N).filter λj=>decide (Rp q q' k j)
def zF(h:Pm N q q')(hk:k<N):j∈cls N q q' k↔Rp q q' k j:=by
 unfold cls;rw[CO,Qb,decide_eq_true_iff];exact⟨λz=>z.2,λz=>⟨Q3 h hk z,z⟩⟩
noncomputable def rl(N:Nat)(q q':Nat->Nat):Nat->S8 (S8 Nat)
 |0=>[]
 |t+1=>if t∈(rl N q q' t).flatten then rl N q q' t else rl N q q' t++[cls N q q' t]
theorem mn(h:Pm N q q'):∀{t:Nat},t<=N->∀k,k∈(rl N q q' t).flatten↔∃j,j<t/\Rp q q' j k
 |0,_,k=>by simp[rl]
 | t+1,ht,k=>by
  have ih:=mn h (t:=t) (by lia)
  unfold rl;by_cases c:t∈(rl N q q' t).flatten
  ·rw[Af c,ih k];refine⟨λ⟨j,hj,r⟩=>⟨j,by lia,r⟩,λ⟨j,hj,r⟩=>?_⟩
   by_cases e:j=t
   ·subst e;obtain⟨i,hi,ri⟩:=(ih j).mp c;exact⟨i,hi,jW ri r⟩
   ·exact⟨j,by lia,r⟩
  ·rw[Ah c,B0,Qe,ih k];show _\/k∈[cls N q q' t].flatten↔_;rw[De,zF h (by lia)]
   refine⟨λz=>z.elim (λ⟨j,hj,r⟩=>⟨j,by lia,r⟩) λr=>⟨t,by lia,r⟩,λ⟨j,hj,r⟩=>?_⟩
   by_cases e:j=t
   ·subst e;exact .inr r
   ·exact .inl ⟨j,by lia,r⟩
noncomputable def RV(q q':Nat->Nat)(t:Nat):S8 Nat:=(List.range t).filter λk=>decide (∀j,j<k->¬ Rp q q' j k)
theorem HE(h:Pm N q q'):∀{t:Nat},t<=N->(rl N q q' t).length=(RV q q' t).length
 |0,_=>rfl
 | t+1,ht=>by
  have ih:=HE h (t:=t) (by lia)
  unfold rl;have er:RV q q' (t+1)=RV q q' t++if (∀j,j<t->¬ Rp q q' j t) then [t] else []:=by
   unfold RV;rw[BP,List.filter_append];congr 1;by_cases c:∀j,j<t->¬ Rp q q' j t
   ·rw[Af c,BC,Af (Ae c)];rfl
   ·rw[Ah c,BC,Ah (by simpa using c)];rfl
  rw[er,Qa];by_cases c:t∈(rl N q q' t).flatten
  ·rw[Af c];obtain⟨j,hj,r⟩:=(mn h (by lia) t).mp c
   rw[Ah (λz=>z j hj r)];exact ih
  ·rw[Ah c,Af (λj hj r=>c ((mn h (by lia) t).mpr ⟨j,hj,r⟩)),Qa,ih];rfl
theorem least{P:Nat->Prop}:∀n,P n->∃m,m<=n/\P m/\∀j,j<m->¬ P j:=by
 intro n;induction n using Nat.strongRecOn with
 |ind n ih=>
  intro hn;by_cases c:∃j,j<n/\P j
  ·obtain⟨j,hj,pj⟩:=c;obtain⟨m,h1,h2,h3⟩:=ih j hj pj;exact⟨m,by lia,h2,h3⟩
  ·exact⟨n,Xa _,hn,λj hj pj=>c ⟨j,hj,pj⟩⟩
end
end K50
namespace K50
section
open Classical
structure Ev(N:Nat)(R:Nat->Nat->Prop):Prop where
 refl:∀k,k<N->R k k
 symm:∀{i j},i<N->j<N->R i j->R j i
 trans:∀{i j k},i<N->j<N->k<N->R i j->R j k->R i k
noncomputable def dB(R:Nat->Nat->Prop)(N:Nat):S8 Nat:=(List.range N).filter λk=>decide (∀j,j<k->¬ R j k)
def TL:k∈dB R N↔k<N/\∀j,j<k->¬ R j k:=by
 unfold dB;rw[CO,Qb,decide_eq_true_iff]
def px(R:Nat->Nat->Prop)(N:Nat):(dB R N).Nodup:=List.Nodup.sublist B1 List.nodup_range
def sT(h:∀i j,i<N->j<N->R i j->S i j):(dB S N).length<=(dB R N).length :=
 fP (px S N) λk hk=>by
  obtain⟨h1,h2⟩:=TL.mp hk;exact TL.mpr ⟨h1,λj hj r=>h2 j hj (h j k (by lia) h1 r)⟩
def Ey(R:Nat->Nat->Prop)(a b:Nat)(x y:Nat):Prop:=R x y\/(R x a/\R b y)\/(R x b/\R a y)
def HF(E:Ev N R)(ha:a<N)(hb:b<N):(dB R N).length<=(dB (Ey R a b) N).length+1:=by
 have lost:∀k,k∈dB R N->k∉dB (Ey R a b) N->∃j,j<k/\((R k b/\R j a)\/(R k a/\R j b)):=λk hk hn=>by
  obtain⟨h1,h2⟩:=TL.mp hk;have:∃j,j<k/\Ey R a b j k:=Bu λc=>hn (TL.mpr ⟨h1,λj hj r=>c ⟨j,hj,r⟩⟩);obtain⟨j,hj,r⟩:=this;refine⟨j,hj,?_⟩;rcases r with r|r|r
  ·exact absurd r (h2 j hj)
  ·exact .inl ⟨E.symm hb h1 r.2,r.1⟩
  ·exact .inr ⟨E.symm ha h1 r.2,r.1⟩
 have uniq:∀k k',k∈dB R N->k'∈dB R N->k∉dB (Ey R a b) N->k'∉dB (Ey R a b) N->k=k':=λk k' hk hk' hn hn'=>by
  obtain⟨j,hj,r⟩:=lost k hk hn;obtain⟨j',hj',r'⟩:=lost k' hk' hn';obtain⟨l1,m1⟩:=TL.mp hk;obtain⟨l2,m2⟩:=TL.mp hk';have le:∀{x y z:Nat},x<N->y<N->z<N->R x z->R y z->R x y:=λhx hy hz h1 h2=>E.trans hx hz hy h1 (E.symm hy hz h2);have same:∀c,c<N->R k c->R k' c->k=k':=λc hc r1 r2=>by
   have r3:=le l1 l2 hc r1 r2;rcases Cr k k' with z|z|z
   ·exact absurd r3 (m2 k z)
   ·exact z
   ·exact absurd (E.symm l1 l2 r3) (m1 k' z)
  rcases r with⟨r1,r2⟩|⟨r1,r2⟩<;>rcases r' with⟨s1,s2⟩|⟨s1,s2⟩
  ·exact same b hb r1 s1
  ·-- k in b's class,j in a's;k' in a's class,j' in b's
   have x1:R j k':=le (by lia) l2 ha r2 s1
   have x2:R j' k:=le (by lia) l1 hb s2 r1
   have y1:¬ j<k':=λz=>m2 j z x1;have y2:¬ j'<k:=λz=>m1 j' z x2;lia
  ·have x1:R j k':=le (by lia) l2 hb r2 s1
   have x2:R j' k:=le (by lia) l1 ha s2 r1
   have y1:¬ j<k':=λz=>m2 j z x1;have y2:¬ j'<k:=λz=>m1 j' z x2;lia
  ·exact same a ha r1 s1
 by_cases c:∃k,k∈dB R N/\k∉dB (Ey R a b) N
 ·obtain⟨k,hk,hn⟩:=c;have:=fP (m:=k::dB (Ey R a b) N) (px R N) λx hx=>by
   by_cases hx':x∈dB (Ey R a b) N
   ·exact Wb _ hx'
   ·rw[uniq x k hx hk hx' hn];exact Wc
  rwa [Qc]at this
 ·have:=fP (m:=dB (Ey R a b) N) (px R N) λx hx=>Bu λz=>c ⟨x,hx,z⟩;lia
inductive Gn(N:Nat)(E:List (Nat×Nat)):Nat->Nat->Prop
 | refl {k:Nat}:Gn N E k k
 | pair {a b:Nat}:(a,b)∈E->Gn N E a b
 | symm {a b:Nat}:Gn N E a b->Gn N E b a
 | trans {a b c:Nat}:b<N->Gn N E a b->Gn N E b c->Gn N E a c
def HG(N:Nat)(E:S8 (Nat×Nat)):Ev N (Gn N E):=⟨λk _=>.refl,λ_ _ h=>.symm h,λ_ hj _ a b=>.trans hj a b⟩
theorem Kh(h:∀a b,(a,b)∈E->Gn N F a b)(r:Gn N E x y):Gn N F x y:=by
 induction r with|refl=>exact .refl|pair hp=>exact h _ _ hp|symm _ ih=>exact .symm ih|trans hb _ _ ih1 ih2=>exact .trans hb ih1 ih2
def OD(ha:a<N)(hb:b<N)(hx:x<N)(hy:y<N)(r:Gn N ((a,b)::E) x y)(bd:∀p∈E,p.1<N/\p.2<N):Ey (Gn N E) a b x y:=by
 have key:∀x y,Gn N ((a,b)::E) x y->x<N->y<N->Ey (Gn N E) a b x y:=by
  intro x y r;induction r with
  |refl=>intro _ _;exact .inl .refl
  |pair hp=>
   intro _ _;rcases Zc.mp hp with z|z
   ·cases z;exact .inr (.inl ⟨.refl,.refl⟩)
   ·exact .inl (.pair z)
  |symm _ ih=>
   intro h1 h2;rcases ih h2 h1 with z|z|z
   ·exact .inl (.symm z)
   ·exact .inr (.inr ⟨.symm z.2,.symm z.1⟩)
   ·exact .inr (.inl ⟨.symm z.2,.symm z.1⟩)
  |trans hm _ _ ih1 ih2=>
   intro h1 h2;rcases ih1 h1 hm with z|z|z<;>rcases ih2 hm h2 with w|w|w
   ·exact .inl (.trans hm z w)
   ·exact .inr (.inl ⟨.trans hm z w.1,w.2⟩)
   ·exact .inr (.inr ⟨.trans hm z w.1,w.2⟩)
   ·exact .inr (.inl ⟨z.1,.trans hm z.2 w⟩)
   ·exact .inr (.inl ⟨z.1,w.2⟩)
   ·exact .inl (.trans ha z.1 w.2)
   ·exact .inr (.inr ⟨z.1,.trans hm z.2 w⟩)
   ·exact .inl (.trans hb z.1 w.2)
   ·exact .inr (.inr ⟨z.1,w.2⟩)
 exact key x y r hx hy
def HH(ha:a<N)(hb:b<N)(bd:∀p∈E,p.1<N/\p.2<N):(dB (Gn N E) N).length<=(dB (Gn N ((a,b)::E)) N).length+1:=by
 have h1:=HF (HG N E) ha hb;have h2:=sT (R:=Gn N ((a,b)::E)) (S:=Ey (Gn N E) a b) (N:=N) λi j hi hj r=>OD ha hb hi hj r bd;lia
def HI(ha:a<N)(hb:b<N)(hc:c<N)(hd:d<N)(bd:∀p∈F,p.1<N/\p.2<N)(h:∀x y,(x,y)∈E->Gn N ((a,b)::(c,d)::F) x y):(dB (Gn N F) N).length<=(dB (Gn N E) N).length+2:=by
 have h1:=HH hc hd bd;have h2:=HH (E:=(c,d)::F) ha hb λp hp=>by
  rcases Zc.mp hp with rfl|hp
  ·exact⟨hc,hd⟩
  ·exact bd p hp
 have h3:=sT (R:=Gn N E) (S:=Gn N ((a,b)::(c,d)::F)) (N:=N) λi j _ _ r=>Kh h r;lia
def zG(E:Ev N R)(F:Ev N S)(t:Nat->Nat)(ht:∀k,k<N->t k<N)(h:∀i j,i<N->j<N->S (t i) (t j)->R i j):(dB R N).length<=(dB S N).length:=by
 have ex:∀k,∃m,k<N->m<N/\S (t k) m/\∀j,j<m->¬ S (t k) j:=λk=>by
  by_cases hk:k<N
  ·obtain⟨m,h1,h2,h3⟩:=least (P:=λj=>S (t k) j) _ (F.refl _ (ht k hk));exact⟨m,λ_=>⟨by have:=ht k hk;lia,h2,h3⟩⟩
  ·exact⟨0,λz=>absurd z hk⟩
 let f:=λk=>Classical.choose (ex k)
 have hf:∀k,k<N->f k<N/\S (t k) (f k)/\∀j,j<f k->¬ S (t k) j:=λk=>Classical.choose_spec (ex k);have inj:∀a∈dB R N,∀b∈dB R N,f a=f b->a=b:=λa ha b hb e=>by
  obtain⟨la,na⟩:=TL.mp ha;obtain⟨lb,nb⟩:=TL.mp hb;have r1:=(hf a la).2.1;have r2:=(hf b lb).2.1;rw[<-e]at r2;have r3:R a b:=h a b la lb (F.trans (ht a la) (hf a la).1 (ht b lb) r1 (F.symm (ht b lb) (hf a la).1 r2));rcases Cr a b with z|z|z
  ·exact absurd r3 (nb a z)
  ·exact z
  ·exact absurd (E.symm la lb r3) (na b z)
 have nd:((dB R N).map f).Nodup:=by
  show List.Pairwise _ _;rw[Vg];exact AB (λ{a b} ha hb n e=>n (inj a ha b hb e)) (px R N)
 have sub:(dB R N).map f ⊆ dB S N:=λx hx=>by
  obtain⟨k,hk,rfl⟩:=Va.mp hx;obtain⟨lk,_⟩:=TL.mp hk;obtain⟨h1,h2,h3⟩:=hf k lk;exact TL.mpr ⟨h1,λj hj r=>h3 j hj (F.trans (ht k lk) h1 (by lia) h2 (F.symm (by lia) h1 r))⟩
 have:=fP nd sub;rwa [Za]at this
end
end K50
namespace K50
open PySem L2 VF VF22
def of_b{f:FT}{st s:En}{b c:Te}(h:f st=some (b,s))(e:b=c):f st=some (c,s):=e ▸ h
def put_ev{mm:D->D->D->S9 D}{i:Nat}{st s1 s2 s3:En}{r rk:Rs}{dv dk z z':D}{t t0:Sl}{x0:D}(h1:fe st=some (r,s1))(h2:esc r s1=some (dv,s2))(h0:s2[i]?=some t0)(h00:t0.ow=some x0)(h3:fi s2=some (rk,s3))(h4:cont s3 rk=some dk)(h5:s3[i]?=some t)(h6:t.ow=some z)(h7:mm z dk dv=some z'){s4:En}(h8:s3.set i (t.put z')=s4:=by rfl):gS mm fe i fi st=some (.nx s4):=by
 simp only[gS,h1,h2,h0,h00,h3,h4,h5,h6,h7,h8,Wa]
def fPut_ev{s t:Sl}{st s1:En}(h:st[i]?=some t)(n:t.isIo=false)(e:st.set i s=s1:=by rfl):kL i s st=some s1:=by
 unfold kL;rw[h];show(if t.isIo=true then none else some (st.set i s))=_;rw[Ah (by rw[n];decide),e]
def app_ev{xs:S8 D}(h:xs.length<1000000):fB (.lst xs) [y]=some (.non,.lst (xs++[y])):=by
 show(if xs.length<1000000 then some (D.non,D.lst (xs++[y])) else none)=_;rw[Af h]
section
variable {κ:Type}[DecidableEq κ]
def Eh{Tj:S8 (κ×D)}:(br Tj k).isSome=true↔k∈Tj.map (·.1):=by
 unfold br;rw[AZ,List.find?_isSome];exact⟨λ⟨x,hx,e⟩=>Va.mpr ⟨x,hx,Aj e⟩,λz=>let ⟨x,hx,e⟩:=Va.mp z;⟨x,hx,Ae e⟩⟩
def Ki{Tj:S8 (κ×D)}:(br Tj k).isSome=decide (k∈Tj.map (·.1)):=by
 unfold br;rw[AZ];by_cases c:k∈Tj.map (·.1)
 ·rw[Ae c];obtain⟨x,hx,e⟩:=Va.mp c;exact List.find?_isSome.mpr ⟨x,hx,Ae e⟩
 ·rw[Ad c];have:Tj.find? (λkv=>decide (kv.1=k))=none:=List.find?_eq_none.mpr λx hx z=>c (Va.mpr ⟨x,hx,Aj z⟩);rw[this];rfl
def pA{Tj:S8 (κ×D)}(h:k∉Tj.map (·.1)):dE Tj k d=Tj++[(k,d)]:=by
 unfold dE;rw[Ah];intro z;obtain⟨x,hx,e⟩:=List.any_eq_true.mp z;exact h (Va.mpr ⟨x,hx,Aj e⟩)
def m7{Tj:S8 (κ×D)}:(dE Tj k d).length<=Tj.length+1:=by
 unfold dE;split
 ·rw[Za];lia
 ·rw[Qa];exact Xa _
end
structure EK(α:Type) where
 eT:α->List D
 kE:α->List Key
 key:∀e,mS (eT e)=some (kE e)
 inj:∀{a b},kE a=kE b->a=b
 pl:∀n e,Pl (n+2) (.tup (eT e))
 cp:∀n a b,Cp (n+2) (.tup (eT a)) (.tup (eT b))
section
variable {α:Type}(X:EK α)
def EK.eD(e:α):D:=.tup (X.eT e)
def EK.jD(j:S8 α):D:=.tup (j.map X.eD)
def EK.tE(e:α):bC:=.inl (X.kE e)
def EK.tJ(j:S8 α):bC:=.inr (j.map X.kE)
def EK.te(e:α):gq (X.eT e)=some (X.tE e):=by
 unfold gq;rw[X.key];rfl
theorem EK.nest:∀j:S8 α,vZ (j.map X.eD)=some (j.map X.kE)
 |[]=>rfl
 | e::r=>by
  show(mS (X.eT e)).bind (λk=>(vZ (r.map X.eD)).bind λks=>some (k::ks))=_;rw[X.key,EK.nest r];rfl
def EK.tj{j:S8 α}(h:j≠[]):gq (j.map X.eD)=some (X.tJ j):=by
 have e:mS (j.map X.eD)=none:=by
  cases j with|nil=>exact absurd rfl h|cons e r=>rfl
 unfold gq;rw[e,X.nest];show(if j.map X.kE=[] then none else some (Sum.inr (j.map X.kE)))=_;rw[Ah λz=>h (List.map_eq_nil_iff.mp z)];rfl
def EK.te_inj(h:X.tE a=X.tE b):a=b:=X.inj (Sum.inl.inj h)
theorem wy{β γ:Type}{f:β->γ}(h:∀{a b},f a=f b->a=b):∀{xs ys:S8 β},xs.map f=ys.map f->xs=ys
 |[],[],_=>rfl
 |[],_::_,e=>(by cases e)
 |_::_,[],e=>(by cases e)
 | x::xs,y::ys,e=>by
  rw[Zd,Zd]at e;injection e with e1 e2;rw[h e1,wy h e2]
def EK.tj_inj{a b:S8 α}(h:X.tJ a=X.tJ b):a=b:=wy X.inj (Sum.inr.inj h)
variable {X}
def Su(h:br Tj (X.tE e)=some d):gY (.dt Tj) (X.eD e)=some (d,false):=by
 show(((gq (X.eT e)).bind λks=>some (br Tj ks)).bind λo=>o.bind λd=>some (d,false))=_;rw[X.te];show((some (br Tj (X.tE e))).bind λo=>o.bind λd=>some (d,false))=_;rw[h];rfl
def RW{Tj:S8 (bC×D)}(hj:j≠[])(h:c=true↔X.tJ j∈Tj.map (·.1)):uk true (X.jD j) (.dt Tj)=some (.bl (!c),false):=by
 show((gq (j.map X.eD)).bind λks=>some (br Tj ks)).bind (λo=>some (D.bl (if true=true then !o.isSome else o.isSome),false))=_;rw[X.tj hj];show some (D.bl (!(br Tj (X.tJ j)).isSome),false)=_;have e:(br Tj (X.tJ j)).isSome=c:=by
  rw[Wg,h];exact Eh
 rw[e]
def Sv{Tj:S8 (bC×D)}(h:Tj.length<100000):dR (.dt Tj) (X.eD e) d=some (.dt (dE Tj (X.tE e) d)):=by
 show(gq (X.eT e)).bind (λks=>if Tj.length<100000 then some (D.dt (dE Tj ks d)) else none)=_;rw[X.te];show(if Tj.length<100000 then _ else _)=_;rw[Af h]
def OE{Tj:S8 (bC×D)}(hj:j≠[])(h:Tj.length<100000):dR (.dt Tj) (X.jD j) d=some (.dt (dE Tj (X.tJ j) d)):=by
 show(gq (j.map X.eD)).bind (λks=>if Tj.length<100000 then some (D.dt (dE Tj ks d)) else none)=_;rw[X.tj hj];show(if Tj.length<100000 then _ else _)=_;rw[Af h]
variable (X) in
def Ix(j:S8 α)(g:S8 α):S8 (bC×D):=g.map λe=>(X.tE e,X.jD j)
variable (X) in
def cZ(js:S8 (S8 α)):S8 (bC×D):=js.flatMap λj=>Ix X j j
theorem m8:∀js:S8 (S8 α),(cZ X js).map (·.1)=js.flatten.map X.tE
 |[]=>rfl
 | j::r=>by
  unfold cZ;rw[Yl,Vd,Vm,Vd];have:=m8 r;unfold cZ at this;rw[this];unfold Ix;rw[Qd];rfl
def Kj(js:S8 (S8 α)):(cZ X js).length=js.flatten.length:=by
 have:=congrArg List.length (m8 (X:=X) js);rwa [Za,Za]at this
def LT{d:D}{js:S8 (S8 α)}(h0:kQ (aB 0) [.v d,.o (.dt []),.e,.e]=some (js.map X.jD,[.v d,.o (.dt []),.e,.e]))(nd:js.flatten.Nodup)(hl:js.flatten.length<10000):gZ [d]=some (.dt (cZ X js),true):=by
 obtain⟨sf,el,s2,s3,rfl,i2,i3⟩:=bP (fg:=gN 2) (B:=ig) X.jD js (λg st=>∃s2 s3,st=[.v d,.o (.dt (cZ X g)),s2,s3]/\s2.isIo=false/\s3.isIo=false)
  (by
   rintro g j r st ha ⟨s2,s3,rfl,i2,i3⟩;have e1:js.flatten=(g.flatten++j)++r.flatten:=by rw[ha,B0,Vm];simp
   rw[e1]at nd hl;rw[Qa,Qa]at hl;have nd1:=(Vj.mp nd).1;obtain⟨sf,el,t3,rfl,j3⟩:=bP (fg:=gN 3) (B:=ie) X.eD j (λh st=>∃s3,st=[.v d,.o (.dt (cZ X g++Ix X j h)),.v (X.jD j),s3]/\s3.isIo=false)
    (by
     rintro h e r' st hb ⟨s3,rfl,i3⟩;have new:X.tE e∉(cZ X g++Ix X j h).map (·.1):=λz=>by
      rw[Vd,m8]at z;have z2:X.tE e∈(g.flatten++h).map X.tE:=by
       rw[Vd];unfold Ix at z;rw[Qd]at z;exact z
      obtain⟨f,hf,ef⟩:=Va.mp z2;rw[X.te_inj ef]at hf;rw[hb,<-Xf,Vj]at nd1;exact nd1.2.2 e hf e Wc rfl
     have len:(cZ X g++Ix X j h).length<100000:=by
      have hbl:=congrArg List.length hb;rw[Qa,Qc]at hbl;rw[Qa,Kj];unfold Ix;rw[Za];lia
     refine⟨_,_,fPut_ev (t:=s3) rfl i3,put_ev rfl rfl rfl rfl rfl rfl rfl rfl (by rw[Sv len,pA new]),.v (X.eD e),?_,rfl⟩
     show _=([.v d,.o (.dt (cZ X g++Ix X j (h++[e]))),.v (X.jD j),_]:En);unfold Ix
     rw[Vd,<-Xf];rfl)
    j [] [.v d,.o (.dt (cZ X g)),.v (X.jD j),s3] rfl ⟨s3,by simp[Ix],i3⟩
   refine⟨_,_,fPut_ev (t:=s2) rfl i2,cg (oy rfl rfl) el,.v (X.jD j),t3,?_,rfl,j3⟩;unfold cZ
   rw[Yk,BJ])
  js [] [.v d,.o (.dt []),.e,.e] rfl ⟨.e,.e,rfl,rfl,rfl⟩
 refine aP (o:=.rt (.s 1) [.v d,.o (.dt (cZ X js)),s2,s3]) rfl ?_ rfl;exact aj rfl (aj (cg h0 el) rfl)
end
noncomputable section
open Classical in
theorem qG[DecidableEq κ]:∀{Tj:S8 (κ×D)}{k:κ}{d:D},(k,d)∈Tj->(Tj.map (·.1)).Nodup->br Tj k=some d
 |[],_,_,h,_=>(by cases h)
 | (k',d')::r,k,d,h,nd=>by
  rw[Zd,Qh]at nd;unfold br;rw[Yg];rcases Zc.mp h with z|z
  ·cases z;rw[Ae rfl];rfl
  ·have ne:k'≠k:=λq=>nd.1 (q ▸ Va.mpr ⟨_,z,rfl⟩);rw[Ad ne];exact qG z nd.2
section
variable {α:Type}{X:EK α}
def Kk{js:S8 (S8 α)}(nd:js.flatten.Nodup)(hj:j∈js)(he:e∈j):br (cZ X js) (X.tE e)=some (X.jD j):=by
 refine qG (List.mem_flatMap.mpr ⟨j,hj,Va.mpr ⟨e,he,rfl⟩⟩) ?_;rw[m8];show List.Pairwise _ _;rw[Vg];exact nd.imp λn z=>n (X.te_inj z)
variable (X) in
def mo(V:S8 (S8 α)):S8 (bC×D):=V.map λj=>(X.tJ j,.bl true)
def Um{V:S8 (S8 α)}{j:S8 α}:X.tJ j∈(mo X V).map (·.1)↔j∈V:=by
 unfold mo;rw[Qd];constructor
 ·intro z;obtain⟨k,hk,e⟩:=Va.mp z;exact X.tj_inj e ▸ hk
 ·exact λz=>Va.mpr ⟨j,z,rfl⟩
open Classical in
def add(V:S8 (S8 α))(j:S8 α):S8 (S8 α):=if j∈V then V else V++[j]
def zH(V:S8 (S8 α))(j:S8 α):dE (mo X V) (X.tJ j) (.bl true)=mo X (add V j):=by
 unfold add;by_cases c:j∈V
 ·rw[Af c];unfold dE;rw[Af]
  ·unfold mo;rw[Qd];refine We λk _=>?_;show(if X.tJ k=X.tJ j then(X.tJ k,D.bl true) else(X.tJ k,D.bl true))=_;split<;>rfl
  ·refine List.any_eq_true.mpr ⟨(X.tJ j,.bl true),Va.mpr ⟨j,c,rfl⟩,Ae rfl⟩
 ·rw[Ah c,pA λz=>c (Um.mp z)];unfold mo;rw[Vd];rfl
open Classical in
def Tr(p:S8 (S8 α)×S8 (S8 α))(o:S8 α):S8 (S8 α)×S8 (S8 α):=if o∈p.1 then p else(p.1++[o],p.2++[o])
theorem zJ(os:S8 (S8 α)):∀p:S8 (S8 α)×S8 (S8 α),(os.foldl Tr p).1.length<=p.1.length+os.length/\(os.foldl Tr p).2.length<=p.2.length+os.length:=by
 induction os with
 |nil=>exact λp=>⟨Xa _,Xa _⟩
 |cons o r ih=>
  intro p;have h:=ih (Tr p o);have a:(Tr p o).1.length<=p.1.length+1/\(Tr p o).2.length<=p.2.length+1:=by
   unfold Tr;split
   ·exact⟨by lia,by lia⟩
   ·simp
  rw[Qg,Qc];exact⟨by lia,by lia⟩
def Sw{V:S8 (S8 α)}(no:o≠[])(h:V.length<10000)(c:o∉V):dR (.dt (mo X V)) (X.jD o) (.bl true)=some (.dt (mo X (V++[o]))):=by
 have vl:(mo X V).length=V.length:=Za _;rw[OE no (by lia),zH]
 unfold add;rw[Ah c]
def Q5{V:S8 (S8 α)}(no:o≠[])(h:V.length<10000):dR (.dt (mo X V)) (X.jD o) (.bl true)=some (.dt (mo X (add V o))):=by
 have vl:(mo X V).length=V.length:=Za _;rw[OE no (by lia),zH]
variable (X) in
abbrev pS(a0:Sl)(A1 A2:D)(T V Q:List (List α))(s6 s7 s8:Sl):En:=[a0,.v A1,.v A2,.o (.dt (mo X V)),.o (.dt (mo X T)),.o (.lst (Q.map X.jD)),s6,s7,s8,.e]
def mq(h1:fg x st=some s1)(h2:B s1=some (.nx s2)):dZ fg B (x::r) st=dZ fg B r s2:=by
 simp only[dZ,h1,h2,Wa]
variable {a0 s6 s7 s8:Sl}{A1 A2:D}{T V Q:S8 (S8 α)}
def Sx(no:o≠[])(h1:V.length<9000)(h2:Q.length<9000):d9 (pS X a0 A1 A2 T V Q s6 s7 (.v (X.jD o)))=some (.nx (pS X a0 A1 A2 T (Tr (V,Q) o).1 (Tr (V,Q) o).2 s6 s7 (.v (X.jD o)))):=by
 unfold Tr;by_cases c:o∈V
 ·rw[Af c];exact fI (aH (ar rfl rfl rfl rfl (RW (c:=true) no ⟨λ_=>Um.mpr c,λ_=>rfl⟩)) rfl) rfl
 ·rw[Ah c];refine jH (aH (ar rfl rfl rfl rfl (RW (c:=false) no ⟨λz=>(by cases z),λz=>absurd (Um.mp z) c⟩)) rfl) ?_
  refine aj (put_ev rfl rfl rfl rfl rfl rfl rfl rfl (Sw no (by lia) c)) ?_
  exact df (p8 rfl rfl rfl rfl rfl rfl rfl (app_ev (by rw[Za];lia)) (by
   show _=pS X a0 A1 A2 T (V++[o]) (Q++[o]) s6 s7 (.v (X.jD o));unfold pS
   rw[Vd (l₁:=Q)];rfl))
def Sy{os:S8 (S8 α)}(ne:∀o∈os,o≠[])(h1:V.length+os.length<9000)(h2:Q.length+os.length<9000)(i8:s8.isIo=false) :
  ∃t8,dZ (gN 8) d9 (os.map X.jD) (pS X a0 A1 A2 T V Q s6 s7 s8)=some (.nx (pS X a0 A1 A2 T (os.foldl Tr (V,Q)).1 (os.foldl Tr (V,Q)).2 s6 s7 t8))/\t8.isIo=false:=by
 induction os generalizing V Q s8 with
 |nil=>exact⟨s8,rfl,i8⟩
 |cons o r ih=>
  rw[Qc]at h1 h2;have a:=zJ [o] (V,Q);rw[Qg,C3,Ve]at a;have b:(Tr (V,Q) o).1.length<=V.length+1/\(Tr (V,Q) o).2.length<=Q.length+1:=a;obtain⟨t8,e,j⟩:=ih (V:=(Tr (V,Q) o).1) (Q:=(Tr (V,Q) o).2) (s8:=.v (X.jD o)) (λx hx=>ne x (Wb _ hx)) (by lia) (by lia) rfl
  refine⟨t8,?_,j⟩;rw[Zd,mq (fPut_ev (t:=s8) rfl i8) (Sx (ne o Wc) (by lia) (by lia))]
  exact e
end
end
noncomputable section
section
variable {α:Type}
theorem sU:∀{js:S8 (S8 α)},js.flatten.Nodup->∀{j j':S8 α}{e:α},j∈js->j'∈js->e∈j->e∈j'->j=j'
 |[],_,_,_,_,h,_,_,_=>(by cases h)
 | k::r,nd,j,j',e,h1,h2,h3,h4=>by
  rw[Vm,Vj]at nd;rcases Zc.mp h1 with z|z<;>rcases Zc.mp h2 with w|w
  ·rw[z,w]
  ·exact absurd rfl (nd.2.2 e (z ▸ h3) e (Vi.mpr ⟨j',w,h4⟩))
  ·exact absurd rfl (nd.2.2 e (w ▸ h4) e (Vi.mpr ⟨j,z,h3⟩))
  ·exact sU nd.2.1 z w h3 h4
open Classical in
def jt(js:S8 (S8 α))(e:α):S8 α:=(js.find? λj=>decide (e∈j)).getD []
open Classical in
def m9{js:S8 (S8 α)}(h:e∈js.flatten):jt js e∈js/\e∈jt js e:=by
 obtain⟨j,hj,he⟩:=Vi.mp h;obtain⟨k,hk⟩:∃k,js.find? (λj=>decide (e∈j))=some k:=Yn.mp (List.find?_isSome.mpr ⟨j,hj,Ae he⟩);have q:jt js e=k:=by unfold jt;rw[hk];rfl
 rw[q];have h2:=CQ hk;exact⟨Br hk,Aj h2⟩
def LU{js:S8 (S8 α)}(nd:js.flatten.Nodup)(hj:j∈js)(he:e∈j):jt js e=j:=by
 have h:=m9 (Vi.mpr ⟨j,hj,he⟩);exact sU nd h.1 hj h.2 he
theorem Kl(os:S8 (S8 α)):∀(p:S8 (S8 α)×S8 (S8 α))(x:S8 α),x∈(os.foldl Tr p).1↔x∈p.1\/x∈os:=by
 induction os with
 |nil=>intro p x;simp
 |cons o r ih=>
  intro p x;rw[Qg,ih];unfold Tr;by_cases c:o∈p.1
  ·rw[Af c,Zc];exact⟨λz=>z.elim .inl λz=>.inr (.inr z),λz=>z.elim .inl λz=>z.elim (λz=>.inl (z ▸ c)) .inr⟩
  ·rw[Ah c,Zc,Qe,Zf,or_assoc]
theorem OF(os:S8 (S8 α)):∀(p:S8 (S8 α)×S8 (S8 α)),p.1.Nodup->(os.foldl Tr p).1.Nodup:=by
 induction os with
 |nil=>exact λp h=>h
 |cons o r ih=>
  intro p h;rw[Qg];refine ih _ ?_;unfold Tr;by_cases c:o∈p.1
  ·rw[Af c];exact h
  ·rw[Ah c];refine Vj.mpr ⟨h,by simp,λa ha b hb e=>c ?_⟩
   rw[Zf.mp hb]at e;exact e ▸ ha
theorem Q6(os:S8 (S8 α)):∀(p:S8 (S8 α)×S8 (S8 α))(x:S8 α),x∈(os.foldl Tr p).2↔x∈p.2\/(x∈os/\x∉p.1):=by
 induction os with
 |nil=>intro p x;simp
 |cons o r ih=>
  intro p x;rw[Qg,ih];unfold Tr;by_cases c:o∈p.1
  ·rw[Af c,Zc];exact⟨λz=>z.elim .inl λz=>.inr ⟨.inr z.1,z.2⟩,λz=>z.elim .inl λz=>z.1.elim (λw=>absurd (w ▸ c) z.2) λw=>.inr ⟨w,z.2⟩⟩
  ·rw[Ah c,Zc];show x∈p.2++[o]\/(x∈r/\x∉p.1++[o])↔_;rw[Qe,Qe,Zf];by_cases e:x=o
   ·subst e;exact⟨λ_=>.inr ⟨.inl rfl,c⟩,λ_=>.inl (.inr rfl)⟩
   ·exact⟨λz=>z.elim (λz=>z.elim .inl λw=>absurd w e) λz=>.inr ⟨.inr z.1,λw=>z.2 (.inl w)⟩,λz=>z.elim (λz=>.inl (.inl z)) λz=>.inr ⟨z.1.resolve_left e,λw=>w.elim z.2 e⟩⟩
theorem Km(os:S8 (S8 α)):∀(p:S8 (S8 α)×S8 (S8 α)),(os.foldl Tr p).1.length+p.2.length=(os.foldl Tr p).2.length+p.1.length:=by
 induction os with
 |nil=>intro p;exact BG _ _
 |cons o r ih=>
  intro p;rw[Qg];have h:=ih (Tr p o);have a:(Tr p o).1.length+p.2.length=(Tr p o).2.length+p.1.length:=by
   unfold Tr;split
   ·exact BG _ _
   ·simp only[Qa,Ve];lia
  lia
def Kn:x∈add T t↔x∈T\/x=t:=by grind [add]
def OG{T:S8 (S8 α)}(h:T.Nodup):(add T t).Nodup:=by grind [add]
theorem gP:∀(l T:S8 (S8 α))(x:S8 α),x∈l.foldl add T↔x∈T\/x∈l|[],T,x=>by simp|t::l,T,x=>by rw[Qg,gP l,Kn,Zc,or_assoc]
theorem zK:∀(l T:S8 (S8 α)),T.Nodup->(l.foldl add T).Nodup|[],T,h=>h|t::l,T,h=>zK l _ (OG h)
theorem nc:∀(l T:S8 (S8 α)),(l.foldl add T).length<=T.length+l.length
 |[],T=>Xa _
 | t::l,T=>by
  have h:=nc l (add T t);have a:(add T t).length<=T.length+1:=by unfold add;split<;>simp
  rw[Qg,Qc];lia
end
section
variable {α:Type}{X:EK α}{js ts:S8 (S8 α)}{a0 s6 s7 s8:Sl}{A1 A2:D}{T V Q:S8 (S8 α)}
def LV(nd:js.flatten.Nodup)(h:e∈js.flatten):gY (.dt (cZ X js)) (X.eD e)=some (X.jD (jt js e),false) :=
 Su (Kk nd (m9 h).1 (m9 h).2)
def Sz{t:S8 α}(nd:js.flatten.Nodup)(h:∀e∈t,e∈js.flatten):cF (gN 0) cT gB 1 (t.map X.eD) [.e,.v (.dt (cZ X js))]=some (t.map λe=>X.jD (jt js e),[.e,.v (.dt (cZ X js))]) :=
 ci X.eD (λe=>X.jD (jt js e)) _ t λe he=>⟨_,_,_,_,_,rfl,rfl,ar rfl rfl rfl rfl (LV nd (h e he)),rfl,rfl⟩
def SA{t:S8 α}(nd:js.flatten.Nodup)(ne:∀j∈js,j≠[])(nt:t≠[])(ht:∀e∈t,e∈js.flatten)(l0:t.length<1000)(l1:V.length+t.length<9000)(l2:Q.length+t.length<9000)(l3:T.length<9000)(i8:s8.isIo=false) :
  ∃t8,ee (pS X a0 (.dt (cZ X js)) A2 T V Q s6 (.v (X.jD t)) s8)=some (.nx (pS X a0 (.dt (cZ X js)) A2 (add T t) ((t.map (jt js)).foldl Tr (V,Q)).1 ((t.map (jt js)).foldl Tr (V,Q)).2 s6 (.v (X.jD t)) t8))/\t8.isIo=false:=by
 obtain⟨t8,e,j⟩:=Sy (X:=X) (a0:=a0) (A1:=.dt (cZ X js)) (A2:=A2) (T:=add T t) (V:=V) (Q:=Q) (s6:=s6) (s7:=.v (X.jD t)) (s8:=s8) (os:=t.map (jt js)) (λo ho=>by
  obtain⟨e,he,rfl⟩:=Va.mp ho
  exact ne _ (m9 (ht e he)).1) (by rw[Za];exact l1) (by rw[Za];exact l2) i8
 refine⟨t8,?_,j⟩;refine aj (put_ev rfl rfl rfl rfl rfl rfl rfl rfl (Q5 nt (by lia))) ?_
 refine cg (gl (bS (oy rfl rfl) (qC (n:=1000) (by rw[Za];lia) rfl) (Sz nd ht)) rfl) ?_
 rw[Qd]at e;exact e
theorem Q7(nd:js.flatten.Nodup)(ne:∀j∈js,j≠[]):∀(l:S8 (S8 α))(T V Q:S8 (S8 α))(s7 s8:Sl),(∀t∈l,t≠[]/\t.length<1000/\∀e∈t,e∈js.flatten)->V.length+l.flatten.length<9000->Q.length+l.flatten.length<9000->T.length+l.length<9000->s7.isIo=false->s8.isIo=false->
  ∃t7 t8,dZ (gN 7) ee (l.map X.jD) (pS X a0 (.dt (cZ X js)) A2 T V Q s6 s7 s8)=some (.nx (pS X a0 (.dt (cZ X js)) A2 (l.foldl add T) ((l.flatten.map (jt js)).foldl Tr (V,Q)).1 ((l.flatten.map (jt js)).foldl Tr (V,Q)).2 s6 t7 t8))/\t7.isIo=false/\t8.isIo=false
 |[],T,V,Q,s7,s8,_,_,_,_,i7,i8=>⟨s7,s8,rfl,i7,i8⟩
 | t::l,T,V,Q,s7,s8,h,l1,l2,l3,i7,i8=>by
  rw[Vm,Qa]at l1 l2;rw[Qc]at l3;obtain⟨h1,h2,h3⟩:=h t Wc;obtain⟨t8,e,j8⟩:=SA (X:=X) (a0:=a0) (A2:=A2) (T:=T) (V:=V) (Q:=Q) (s6:=s6) nd ne h1 h3 h2 (by lia) (by lia) (by lia) i8
  have a:=zJ (t.map (jt js)) (V,Q);have b:=nc [t] T;rw[Za]at a;rw[Qg,C3,Ve]at b;have a':((t.map (jt js)).foldl Tr (V,Q)).1.length<=V.length+t.length/\((t.map (jt js)).foldl Tr (V,Q)).2.length<=Q.length+t.length:=a;obtain⟨t7,t8',e2,j7,j8'⟩:=Q7 nd ne l (add T t) ((t.map (jt js)).foldl Tr (V,Q)).1 ((t.map (jt js)).foldl Tr (V,Q)).2 (.v (X.jD t)) t8 (λx hx=>h x (Wb _ hx)) (by lia) (by lia) (by lia) rfl j8
  refine⟨t7,t8',?_,j7,j8'⟩;rw[Zd,mq (fPut_ev (t:=s7) rfl i7) e,e2,Vm,Vd,List.foldl_append,Qg]
end
end
noncomputable section
def OH(l:S8 α)(x:α):NB (.lst ((l++[x]).map f)) []=some (f x,.lst (l.map f)):=by
 show(((l++[x]).map f)[((l++[x]).map f).length-1]?).bind (λy=>some (y,D.lst ((l++[x]).map f).dropLast))=_;simp
section
variable {α:Type}{X:EK α}{js ts:S8 (S8 α)}{a0 s6 s7 s8:Sl}{A1 A2:D}{T V Q:S8 (S8 α)}
structure Dw(js ts:List (List α)):Prop where
 nj:js.flatten.Nodup
 nt:ts.flatten.Nodup
 ej:∀j∈js,j≠[]/\j.length<=2
 et:∀j∈ts,j≠[]/\j.length<=2
 jt:∀e,e∈js.flatten->e∈ts.flatten
 tj:∀e,e∈ts.flatten->e∈js.flatten
 fj:js.length<60
 ft:ts.length<60
def nx(js ts:S8 (S8 α))(j:S8 α):S8 (S8 α):=((j.map (jt ts)).flatten).map (jt js)
inductive Rc(js ts:List (List α))(f:List α):List α->Prop
 | refl:Rc js ts f f
 | step {j k:List α}:Rc js ts f j->k∈nx js ts j->Rc js ts f k
def SD{t:S8 α}(nd:ts.flatten.Nodup)(h:∀e∈t,e∈ts.flatten):cF (gN 0) cT gA 1 (t.map X.eD) [.e,.v (.dt (cZ X ts))]=some (t.map λe=>X.jD (jt ts e),[.e,.v (.dt (cZ X ts))]) :=
 ci X.eD (λe=>X.jD (jt ts e)) _ t λe he=>⟨_,_,_,_,_,rfl,rfl,ar rfl rfl rfl rfl (LV nd (h e he)),rfl,rfl⟩
theorem hJ:∀{l:S8 (S8 β)}{n:Nat},(∀t∈l,t.length<=n)->l.flatten.length<=l.length*n
 |[],n,_=>by simp
 | t::l,n,h=>by
  have h1:=h t Wc;have h2:=hJ (l:=l) (n:=n) λx hx=>h x (Wb _ hx);rw[Vm,Qa,Qc,Nat.succ_mul];lia
def qH{l:S8 (S8 α)}(hj:j∈l)(he:e∈j):e∈l.flatten:=Vi.mpr ⟨j,hj,he⟩
def LW(W:Dw js ts)(hj:j∈js)(hk:k∈nx js ts j):k∈js:=by
 obtain⟨e,he,rfl⟩:=Va.mp hk;obtain⟨t,ht,he⟩:=Vi.mp he;obtain⟨e',he',rfl⟩:=Va.mp ht;exact(m9 (W.tj e (qH (m9 (W.jt e' (qH hj he'))).1 he))).1
def turn(W:Dw js ts){j:S8 α}(hj:j∈js)(l1:V.length<100)(l2:Q.length<100)(l3:T.length<100)(i6:s6.isIo=false)(i7:s7.isIo=false)(i8:s8.isIo=false) :
  ∃t6 t7 t8,cW (pS X a0 (.dt (cZ X js)) (.dt (cZ X ts)) T V (Q++[j]) s6 s7 s8)=some (.nx (pS X a0 (.dt (cZ X js)) (.dt (cZ X ts)) ((j.map (jt ts)).foldl add T) ((nx js ts j).foldl Tr (V,Q)).1 ((nx js ts j).foldl Tr (V,Q)).2 t6 t7 t8))/\t6.isIo=false/\t7.isIo=false/\t8.isIo=false:=by
 have inT:∀e∈j,e∈ts.flatten:=λe he=>W.jt e (qH hj he);have l4:=(W.ej j hj).2;have hl:((j.map (jt ts)).flatten).length<=4:=by
  have:=hJ (l:=j.map (jt ts)) (n:=2) λt ht=>by
   obtain⟨e,he,rfl⟩:=Va.mp ht;exact(W.et _ (m9 (inT e he)).1).2
  rw[Za]at this;lia
 obtain⟨t7,t8,e,j7,j8⟩:=Q7 (X:=X) (a0:=a0) (A2:=.dt (cZ X ts)) (s6:=.v (X.jD j)) W.nj (λj hj=>(W.ej j hj).1) (j.map (jt ts)) T V Q s7 s8 (λt ht=>by
  obtain⟨e,he,rfl⟩:=Va.mp ht;have h:=(m9 (inT e he)).1
  exact⟨(W.et _ h).1,by have:=(W.et _ h).2;lia,λe' he'=>W.tj e' (qH h he')⟩) (by lia) (by lia) (by rw[Za];lia) i7 i8
 refine⟨.v (X.jD j),t7,t8,?_,rfl,j7,j8⟩;refine aj (cy (Gz rfl rfl rfl (OH (f:=X.jD) Q j)) (fPut_ev (t:=s6) rfl i6)) ?_;refine cg (gl (bS (oy rfl rfl) (qC (n:=1000) (by rw[Za];lia) rfl) (SD W.nt inT)) rfl) ?_
 rw[Qd]at e;exact e
structure Wy(js ts:List (List α))(f:List α)(m:Nat)(T V Q:List (List α)):Prop where
 nd:V.Nodup
 inn:∀j∈V,j∈js/\Rc js ts f j
 fst:f∈V
 sub:∀j∈Q,j∈V
 cl:∀j∈V,j∈Q\/((∀k∈nx js ts j,k∈V)/\∀e∈j,jt ts e∈T)
 td:T.Nodup
 tin:∀t∈T,∃j∈V,∃e∈j,t=jt ts e
 ql:Q.length<=V.length
 ms:m+V.length=js.length+Q.length
def Wy.t_in(W:Dw js ts)(h:Wy js ts f m T V Q):∀t∈T,t∈ts:=λt ht=>by
 obtain⟨j,hj,e,he,rfl⟩:=h.tin t ht;exact(m9 (W.jt e (qH (h.inn j hj).1 he))).1
open Classical in
def Wy.lens(W:Dw js ts)(h:Wy js ts f m T V Q):V.length<=js.length/\T.length<=ts.length :=
 ⟨fP h.nd λj hj=>(h.inn j hj).1,fP h.td λt ht=>h.t_in W t ht⟩
def Ko(W:Dw js ts){f j:S8 α}(h:Wy js ts f m T V (Q++[j])):∃m',m'<m/\Wy js ts f m' ((j.map (jt ts)).foldl add T) ((nx js ts j).foldl Tr (V,Q)).1 ((nx js ts j).foldl Tr (V,Q)).2:=by
 have hj:j∈V:=h.sub j (by simp)
 obtain⟨hjs,hr⟩:=h.inn j hj;have mem:=Kl (nx js ts j) (V,Q);have memq:=Q6 (nx js ts j) (V,Q);have bal:=Km (nx js ts j) (V,Q);have nd':=OF (nx js ts j) (V,Q) h.nd;have ms:=h.ms;have lens:=h.lens W;have ql:=h.ql;rw[Qa,Ve]at ms ql;generalize (nx js ts j).foldl Tr (V,Q)=r at *;obtain⟨V',Q'⟩:=r;have bal':V'.length+Q.length=Q'.length+V.length:=bal;have inn':∀k∈V',k∈js/\Rc js ts f k:=λk hk=>by
  rcases(mem k).mp hk with z|z
  ·exact h.inn k z
  ·exact⟨LW W hjs z,hr.step z⟩
 have vl:V'.length<=js.length:=@fP _ (λa b=>Classical.propDecidable _) _ _ nd' λk hk=>(inn' k hk).1;have ge:V.length<=V'.length:=@fP _ (λa b=>Classical.propDecidable _) _ _ h.nd λk hk=>(mem k).mpr (.inl hk);refine⟨m-1,by lia,nd',inn',(mem f).mpr (.inl h.fst),λk hk=>?_,λk hk=>?_,zK _ _ h.td,λt ht=>?_,?_,?_⟩
 ·rcases(memq k).mp hk with z|z
  ·exact(mem k).mpr (.inl (h.sub k (by simp[show k∈Q from z])))
  ·exact(mem k).mpr (.inr z.1)
 ·rcases(mem k).mp hk with z|z
  ·rcases h.cl k z with w|⟨w1,w2⟩
   ·rcases Qe.mp w with w|w
    ·exact .inl ((memq k).mpr (.inl w))
    ·rw[Zf.mp w];exact .inr ⟨λk' hk'=>(mem k').mpr (.inr hk'),λe he=>(gP _ _ _).mpr (.inr (Va.mpr ⟨e,he,rfl⟩))⟩
   ·exact .inr ⟨λk' hk'=>(mem k').mpr (.inl (w1 k' hk')),λe he=>(gP _ _ _).mpr (.inl (w2 e he))⟩
  ·by_cases c:k∈V
   ·rcases h.cl k c with w|⟨w1,w2⟩
    ·rcases Qe.mp w with w|w
     ·exact .inl ((memq k).mpr (.inl w))
     ·rw[Zf.mp w];exact .inr ⟨λk' hk'=>(mem k').mpr (.inr hk'),λe he=>(gP _ _ _).mpr (.inr (Va.mpr ⟨e,he,rfl⟩))⟩
    ·exact .inr ⟨λk' hk'=>(mem k').mpr (.inl (w1 k' hk')),λe he=>(gP _ _ _).mpr (.inl (w2 e he))⟩
   ·exact .inl ((memq k).mpr (.inr ⟨z,c⟩))
 ·rcases(gP _ _ _).mp ht with z|z
  ·obtain⟨k,hk,e,he,w⟩:=h.tin t z;exact⟨k,(mem k).mpr (.inl hk),e,he,w⟩
  ·obtain⟨e,he,rfl⟩:=Va.mp z;exact⟨j,(mem j).mpr (.inl hj),e,he,rfl⟩
 ·show Q'.length<=V'.length;lia
 ·show m-1+V'.length=js.length+Q'.length;lia
def HJ(W:Dw js ts)(hf:f∈js):∃V T t6 t7 t8,yL (qq (aB 5)) cW 1000 (pS X a0 (.dt (cZ X js)) (.dt (cZ X ts)) [] [f] [f] .e .e .e)=some (.nx (pS X a0 (.dt (cZ X js)) (.dt (cZ X ts)) T V [] t6 t7 t8))/\Wy js ts f (js.length-V.length) T V []:=by
 have l0:1<=js.length:=BI hf;obtain⟨sf,e,T,V,t6,t7,t8,rfl,h⟩:=nQ (f:=qq (aB 5)) (B:=cW)
  (λm st=>∃T V Q t6 t7 t8,st=pS X a0 (.dt (cZ X js)) (.dt (cZ X ts)) T V Q t6 t7 t8/\Wy js ts f m T V Q/\t6.isIo=false/\t7.isIo=false/\t8.isIo=false)
  (λst=>∃T V t6 t7 t8,st=pS X a0 (.dt (cZ X js)) (.dt (cZ X ts)) T V [] t6 t7 t8/\Wy js ts f (js.length-V.length) T V [])
  (by
   rintro m st ⟨T,V,Q,t6,t7,t8,rfl,h,i6,i7,i8⟩;rcases Dl Q with rfl|⟨Q0,j,rfl⟩
   ·refine .inl ⟨_,rfl,T,V,t6,t7,t8,rfl,h.nd,h.inn,h.fst,h.sub,h.cl,h.td,h.tin,h.ql,?_⟩;have:=h.ms;have:=(h.lens W).1;show js.length-V.length+V.length=js.length+0;lia
   ·rw[Do]at h ⊢;have lens:=h.lens W;have ql:=h.ql;have:=W.fj;have:=W.ft;rw[Qa,Ve]at ql;obtain⟨m',hm,h'⟩:=Ko W h;obtain⟨u6,u7,u8,e,k6,k7,k8⟩:=turn (X:=X) (a0:=a0) (T:=T) (V:=V) (Q:=Q0) (s6:=t6) (s7:=t7) (s8:=t8) W (h.inn j (h.sub j (by simp))).1 (by lia) (by lia) (by lia) i6 i7 i8
    refine .inr ⟨_,_,m',?_,e,hm,_,_,_,u6,u7,u8,rfl,h',k6,k7,k8⟩;show some (!((Q0++[j]).map X.jD).isEmpty,_)=_
    cases Q0<;>rfl)
  1000 js.length _ (by have:=W.fj;lia) ⟨[],[f],[f],.e,.e,.e,rfl,⟨by simp,λj hj=>(by rw[Zf.mp hj];exact⟨hf,.refl⟩),by simp,λj hj=>hj,λj hj=>.inl hj,by simp,λt ht=>(by cases ht),Xa _,rfl⟩,rfl,rfl,rfl⟩
 exact⟨V,T,t6,t7,t8,e,h⟩
theorem Wy.all(h:Wy js ts f m T V [])(j:S8 α):j∈V↔Rc js ts f j:=by
 refine⟨λz=>(h.inn j z).2,λz=>?_⟩;induction z with
 |refl=>exact h.fst
 |step _ hk ih=>
  rcases h.cl _ ih with w|w
  ·cases w
  ·exact w.1 _ hk
end
end
noncomputable section
theorem sV:∀{ds:S8 D}{ks:S8 Key},mS ds=some ks->ks.map di=ds
 |[],ks,h=>by cases h;rfl
 | d::r,ks,h=>by
  obtain⟨k,h1,h⟩:=Wl.mp (show(DU d).bind _=_ from h);obtain⟨ks',h2,h⟩:=Wl.mp h;cases h;rw[Zd,sV h2];cases d<;>first|(cases h1;rfl)|cases h1
def mr:∀{l:S8 β}{V:S8 α},l.Perm (V.map f)->∃W:S8 α,W.Perm V/\l=W.map f:=by
 intro l V h;have key:∀{l m:S8 β},l.Perm m->∀V:S8 α,m=V.map f->∃W:S8 α,W.Perm V/\l=W.map f:=by
  intro l m h;induction h with
  |nil=>intro V e;exact⟨V,List.Perm.refl _,e⟩
  |cons x _ ih=>
   intro V e;cases V with
   |nil=>cases e
   |cons v V=>
    rw[Zd]at e;injection e with e1 e2;obtain⟨W,p,q⟩:=ih V e2;exact⟨v::W,p.cons v,by rw[Zd,q,e1]⟩
  |swap x y l=>
   intro V e;cases V with
   |nil=>cases e
   |cons v V=>
    cases V with
    |nil=>cases e
    |cons w V=>
     rw[Zd,Zd]at e;injection e with e1 e2;injection e2 with e2 e3;exact⟨w::v::V,List.Perm.swap v w V,by rw[Zd,Zd,e1,e2,e3]⟩
  |trans _ _ ih1 ih2=>
   intro V e;obtain⟨W,p,q⟩:=ih2 V e;obtain⟨W',p',q'⟩:=ih1 W q;exact⟨W',p'.trans p,q'⟩
 exact key h V rfl
def Q8(h1:fe st=some (r,s1))(h2:esc r s1=some (d,s2))(h3:mT d=some ds):RT fe st=some (ds,s2):=by
 simp only[RT,h1,h2,h3,Wa]
section
variable {α:Type}{X:EK α}{js ts:S8 (S8 α)}
def Q9(j:S8 α):iU (X.tJ j)=X.jD j:=by
 show D.tup ((j.map X.kE).map λks=>D.tup (ks.map di))=D.tup (j.map X.eD);rw[Qd];congr 1;refine We λe _=>?_;show D.tup ((X.kE e).map di)=D.tup (X.eT e);rw[sV (X.key e)]
def wz(V:S8 (S8 α)):mT (.dt (mo X V))=some (V.map X.jD):=by
 show some ((mo X V).map λkv=>iU kv.1)=_;unfold mo;rw[Qd];congr 1;exact We λj _=>Q9 j
def Ra(n:Nat)(j:S8 α):Pl (n+3) (X.jD j):=.tup λd hd=>by
 obtain⟨e,_,rfl⟩:=Va.mp hd;exact X.pl n e
def HK{β γ:Type}{f:β->D}{n:Nat}(h:∀a b,Cp n (f a) (f b))(xs ys:S8 β):Cp (n+1) (.tup (xs.map f)) (.tup (ys.map f)):=λi x y h1 h2=>by
 rw[Xb]at h1 h2;obtain⟨a,_,rfl⟩:=Xc.mp h1;obtain⟨b,_,rfl⟩:=Xc.mp h2;exact h a b
def Rb(n:Nat)(i j:S8 α):Cp (n+3) (X.jD i) (X.jD j):=HK (γ:=Nat) (X.cp n) i j
def LX(n:Nat)(V:S8 (S8 α)):Pl (n+4) (.tup (V.map X.jD)):=.tup λd hd=>by
 obtain⟨j,_,rfl⟩:=Va.mp hd;exact Ra n j
def LY(n:Nat)(V W:S8 (S8 α)):Cp (n+4) (.tup (V.map X.jD)) (.tup (W.map X.jD)):=HK (γ:=Nat) (Rb n) V W
def wA{V:S8 (S8 α)}(ne:∀j∈V,j≠[])(l:V.length<64):∃W:S8 (S8 α),W.Perm V/\nS [.dt (mo X V)]=some (.lst (W.map X.jD),true):=by
 obtain⟨W,p,e⟩:=mr (lI 40 (V.map X.jD));refine⟨W,p,?_⟩;unfold nS;dsimp only;rw[wz];dsimp only;rw[Af,e];refine⟨λd hd=>?_,λa ha b hb=>?_,⟨_,.tp (T:="tuple") (λd hd=>?_)⟩,by rw[Za];exact l⟩
 ·obtain⟨j,_,rfl⟩:=Va.mp hd;exact Ra 37 j
 ·obtain⟨i,_,rfl⟩:=Va.mp ha;obtain⟨j,_,rfl⟩:=Va.mp hb;exact Rb 37 i j
 ·obtain⟨j,hj,rfl⟩:=Va.mp hd;cases j with|nil=>exact absurd rfl (ne _ hj)|cons e r=>exact⟨_,_,rfl,⟨(λz=>by cases z),rfl⟩⟩
def zL{V:S8 (S8 α)}(two:∀j∈V,j.length=2)(l:V.length<1000):dA [.dt (mo X V)]=some (.int 0,false):=by
 have c:=dP (k:=1) (fg:=gN 0) (fc:=gy) (fe:=gz) X.jD X.jD (λ_=>false) [.e] V λj hj=>⟨_,_,rfl,aH (ar (bO rfl rfl (z:=(.int (2:Nat),false)) (by
  have h:dS [X.jD j]=some (.int (j.map X.eD).length,false):=rfl
  rw[h,Za,two j hj])) rfl rfl rfl rfl) rfl,λ_=>rfl,λz=>by cases z⟩
 have cf:(V.filter λ_=>false)=[]:=by simp
 rw[cf]at c;exact aP rfl (aW (bO (ap (bS (Q8 rfl rfl (wz V)) (qC (n:=1000) (by rw[Za];lia) rfl) c) rfl) rfl rfl)) rfl
end
end
noncomputable section
section
variable {α:Type}{X:EK α}{js ts:S8 (S8 α)}
variable (X) in
def oT(p:S8 (S8 α)×S8 (S8 α)):D:=.tup [.str "ring",.tup (p.1.map X.jD),.tup (p.2.map X.jD)]
def Re(n:Nat)(p:S8 (S8 α)×S8 (S8 α)):Pl (n+5) (oT X p):=.tup λd hd=>by
 rcases Zc.mp hd with rfl|hd
 ·exact .str _ _
 ·rcases Zc.mp hd with rfl|hd
  ·exact LX n p.1
  ·rw[Zf.mp hd];exact LX n p.2
theorem Rf(n:Nat)(p q:S8 (S8 α)×S8 (S8 α)):Cp (n+5) (oT X p) (oT X q):=λi x y h1 h2=>by
 match i,h1,h2 with|0,h1,h2=>cases h1;cases h2;exact True.intro|1,h1,h2=>cases h1;cases h2;exact LY n p.1 q.1|2,h1,h2=>cases h1;cases h2;exact LY n p.2 q.2|i+3,h1,h2=>cases h1
def HL(W:Dw js ts)(two:∀j∈js,j.length=2)(two':∀j∈ts,j.length=2)(hf:f∈js) :
  ∃p:S8 (S8 α)×S8 (S8 α),i9 [X.jD f,.dt (cZ X js),.dt (cZ X ts)]=some (oT X p,false)/\p.1.Nodup/\p.1.length<60/\∀j,j∈p.1↔Rc js ts f j:=by
 have nf:f≠[]:=(W.ej f hf).1;obtain⟨V,T,t6,t7,t8,e,h⟩:=HJ (X:=X) (a0:=.v (X.jD f)) W hf;have lens:=h.lens W;have fj:=W.fj;have ft:=W.ft;obtain⟨V',pv,ev⟩:=wA (X:=X) (V:=V) (λj hj=>(W.ej j (h.inn j hj).1).1) (by lia)
 obtain⟨T',pt,et⟩:=wA (X:=X) (V:=T) (λj hj=>(W.et j (h.t_in W j hj)).1) (by lia)
 refine⟨(V',T'),?_,pv.nodup_iff.mpr h.nd,by rw[pv.length_eq];lia,λj=>by rw[<-h.all j];exact pv.mem_iff⟩
 have c1:=zL (X:=X) (V:=V) (λj hj=>two j (h.inn j hj).1) (by lia)
 have c2:=zL (X:=X) (V:=T) (λj hj=>two' j (h.t_in W j hj)) (by lia)
 refine aP (o:=.rt (.d (oT X (V',T'))) [.v (X.jD f),.v (.dt (cZ X js)),.v (.dt (cZ X ts)),.o (.dt (mo X V)),.o (.dt (mo X T)),.o (.lst []),t6,t7,t8,.v (.str "ring")]) rfl ?_ rfl;refine aj (jn (s:=[.v (X.jD f),.v (.dt (cZ X js)),.v (.dt (cZ X ts)),.e,.e,.e,.e,.e,.e,.e]) (x:=.dt (mo X [f])) ?_ rfl) ?_
 ·show(gq (f.map X.eD)).bind _=_;rw[X.tj nf];rfl
 refine aj rfl ?_;refine aj rfl ?_;refine aj e ?_;refine aj (cy (s:=pS X (.v (X.jD f)) (.dt (cZ X js)) (.dt (cZ X ts)) T V [] t6 t7 t8) (x:=.str "ring") ?_ rfl) ?_
 ·have tu:jA (aa (bx dA (aa (aB 3) ai)) (aa (bx dA (aa (aB 4) ai)) ai)) (pS X (.v (X.jD f)) (.dt (cZ X js)) (.dt (cZ X ts)) T V [] t6 t7 t8)=some (.d (.tup [.int 0,.int 0]),pS X (.v (X.jD f)) (.dt (cZ X js)) (.dt (cZ X ts)) T V [] t6 t7 t8) :=
   gm (ap (bz rfl rfl c1 rfl) (ap (bz rfl rfl c2 rfl) rfl)) rfl (by decide)
  show(jA _ _).bind _=_;rw[tu];rfl
 ·exact aW (gm (ap rfl (ap (bO (ap (bO rfl rfl ev) rfl) rfl rfl) (ap (bO (ap (bO rfl rfl et) rfl) rfl rfl) rfl))) rfl (by show 3<=_;decide))
end
end
noncomputable section
section
variable {α:Type}{X:EK α}{js ts:S8 (S8 α)}
abbrev Pa(α:Type):=List (List α)×List (List α)
inductive Gw(js ts:List (List α)):List (List α)->List (Pa α)->List (List α)->Prop
 | nil:Gw js ts [] [] []
 | old {g S:List (List α)} {P:List (Pa α)} {j:List α}:Gw js ts g P S->j∈S->Gw js ts (g++[j]) P S
 | new {g S:List (List α)} {P:List (Pa α)} {j:List α} {p:Pa α}:Gw js ts g P S->j∉S->p.1.Nodup->p.1.length<60->(∀x,x∈p.1↔Rc js ts j x)->Gw js ts (g++[j]) (P++[p]) (p.1.foldl add S)
theorem Gw.lens{g S:S8 (S8 α)}{P:S8 (Pa α)}(h:Gw js ts g P S):P.length<=g.length/\S.length<=60*g.length:=by
 induction h with
 |nil=>exact⟨Xa _,Xa _⟩
 |old _ _ ih=>rw[Qa,Ve];lia
 |@new g S P j p _ _ _ l _ ih=>
  have:=nc p.1 S;rw[Qa,Qa,Ve,Ve];lia
theorem zM:∀(W S:S8 (S8 α))(s8:Sl),(∀j∈W,j≠[])->S.length+W.length<9000->s8.isIo=false->∃t8,dZ (gN 8) fW (W.map X.jD) [a0,a1,a2,a3,a4,.o (.dt (mo X S)),a6,a7,s8]=some (.nx [a0,a1,a2,a3,a4,.o (.dt (mo X (W.foldl add S))),a6,a7,t8])/\t8.isIo=false
 |[],S,s8,_,_,i=>⟨s8,rfl,i⟩
 | j::W,S,s8,ne,l,i=>by
  rw[Qc]at l;have b:=nc [j] S;rw[Qg,C3,Ve]at b;obtain⟨t8,e,i'⟩:=zM (a0:=a0) (a1:=a1) (a2:=a2) (a3:=a3) (a4:=a4) (a6:=a6) (a7:=a7) W (add S j) (.v (X.jD j)) (λk hk=>ne k (Wb _ hk)) (by lia) rfl
  refine⟨t8,?_,i'⟩;rw[Zd,mq (B:=fW) (s1:=[a0,a1,a2,a3,a4,.o (.dt (mo X S)),a6,a7,.v (X.jD j)]) (fPut_ev (t:=s8) rfl i) (put_ev rfl rfl rfl rfl rfl rfl rfl rfl (Q5 (ne j Wc) (by lia)))]
  exact e
def xX(W:Dw js ts)(two:∀j∈js,j.length=2)(two':∀j∈ts,j.length=2){g S:S8 (S8 α)}{P:S8 (Pa α)}{j:S8 α}(h:Gw js ts g P S)(hj:j∈js)(lg:g.length<60){s2 s3 s7 s8:Sl}(h23:s2=.o (.dt (cZ X js))/\s3=.o (.dt (cZ X ts))\/s2=.v (.dt (cZ X js))/\s3=.v (.dt (cZ X ts)))(i7:s7.isIo=false)(i8:s8.isIo=false) :
  ∃P' S' t2 t3 t7 t8,fX [.v d0,.v d1,s2,s3,.o (.lst (P.map (oT X))),.o (.dt (mo X S)),.v (X.jD j),s7,s8]=some (.nx [.v d0,.v d1,t2,t3,.o (.lst (P'.map (oT X))),.o (.dt (mo X S')),.v (X.jD j),t7,t8])/\Gw js ts (g++[j]) P' S'/\(t2=.o (.dt (cZ X js))/\t3=.o (.dt (cZ X ts))\/t2=.v (.dt (cZ X js))/\t3=.v (.dt (cZ X ts)))/\t7.isIo=false/\t8.isIo=false:=by
 have nj:=(W.ej j hj).1;have ls:=h.lens;by_cases c:j∈S
 ·exact⟨P,S,s2,s3,s7,s8,fI (aH (ar rfl rfl rfl rfl (RW (c:=true) nj ⟨λ_=>Um.mpr c,λ_=>rfl⟩)) rfl) rfl,h.old c,h23,i7,i8⟩
 ·obtain⟨p,e,nd,lp,mem⟩:=HL (X:=X) W two two' hj;have ne:∀k∈p.1,k≠[]:=λk hk=>by
   have key:∀k,Rc js ts j k->k∈js:=λk r=>by
    induction r with|refl=>exact hj|step _ hk ih=>exact LW W ih hk
   exact(W.ej k (key k ((mem k).mp hk))).1
  obtain⟨t8,es,j8⟩:=zM (X:=X) (a0:=.v d0) (a1:=.v d1) (a2:=.v (.dt (cZ X js))) (a3:=.v (.dt (cZ X ts))) (a4:=.o (.lst ((P++[p]).map (oT X)))) (a6:=.v (X.jD j)) (a7:=.v (oT X p)) p.1 S s8 ne (by lia) i8
  refine⟨P++[p],p.1.foldl add S,.v (.dt (cZ X js)),.v (.dt (cZ X ts)),.v (oT X p),t8,?_,h.new c nd lp mem,.inr ⟨rfl,rfl⟩,rfl,j8⟩;refine jH (aH (ar rfl rfl rfl rfl (RW (c:=false) nj ⟨λz=>(by cases z),λz=>absurd (Um.mp z) c⟩)) rfl) ?_
  refine aj (cy (s:=[.v d0,.v d1,.v (.dt (cZ X js)),.v (.dt (cZ X ts)),.o (.lst (P.map (oT X))),.o (.dt (mo X S)),.v (X.jD j),s7,s8]) (x:=oT X p) ?_ (fPut_ev (t:=s7) rfl i7)) ?_
  ·rcases h23 with⟨rfl,rfl⟩|⟨rfl,rfl⟩<;>exact aR rfl rfl e
  refine aj (s:=[.v d0,.v d1,.v (.dt (cZ X js)),.v (.dt (cZ X ts)),.o (.lst ((P++[p]).map (oT X))),.o (.dt (mo X S)),.v (X.jD j),.v (oT X p),s8]) (df (p8 rfl rfl rfl rfl rfl rfl rfl (app_ev (by rw[Za];lia)) (by rw[Vd (l₁:=P)];rfl))) ?_
  exact cg (oy (ar rfl rfl rfl rfl (zw (i:=1) rfl)) rfl) es
def HM(W:Dw js ts)(two:∀j∈js,j.length=2)(two':∀j∈ts,j.length=2):∃(P:S8 (Pa α))(S:S8 (S8 α))(P':S8 (Pa α)),Gw js ts js P S/\P'.Perm P/\lV [.lst (js.map X.jD),.lst (ts.map X.jD)]=some (.lst (P'.map (oT X)),true):=by
 have fj:=W.fj;have ft:=W.ft;have lj:js.flatten.length<10000:=by have:=hJ (l:=js) (n:=2) λj hj=>(W.ej j hj).2;lia
 have lt:ts.flatten.length<10000:=by have:=hJ (l:=ts) (n:=2) λj hj=>(W.et j hj).2;lia
 have e1:=LT (X:=X) (d:=.lst (js.map X.jD)) (js:=js) (gl rfl rfl) W.nj lj;have e2:=LT (X:=X) (d:=.lst (ts.map X.jD)) (js:=ts) (gl rfl rfl) W.nt lt;obtain⟨sf,el,P,S,t2,t3,t6,t7,t8,rfl,G,_⟩:=bP (fg:=gN 6) (B:=fX) X.jD js (λg st=>∃P S s2 s3 s6 s7 s8,st=[.v (.lst (js.map X.jD)),.v (.lst (ts.map X.jD)),s2,s3,.o (.lst (P.map (oT X))),.o (.dt (mo X S)),s6,s7,s8]/\Gw js ts g P S/\(s2=.o (.dt (cZ X js))/\s3=.o (.dt (cZ X ts))\/s2=.v (.dt (cZ X js))/\s3=.v (.dt (cZ X ts)))/\s6.isIo=false/\s7.isIo=false/\s8.isIo=false)
  (by
   rintro g j r st ha ⟨P,S,s2,s3,s6,s7,s8,rfl,G,h23,i6,i7,i8⟩;have hl:=congrArg List.length ha;rw[Qa,Qc]at hl;obtain⟨P',S',t2,t3,t7,t8,e,G',h23',j7,j8⟩:=xX (X:=X) W two two' G (j:=j) (by rw[ha];simp) (by lia) (d0:=.lst (js.map X.jD)) (d1:=.lst (ts.map X.jD)) h23 i7 i8
   exact⟨_,_,fPut_ev (t:=s6) rfl i6,e,P',S',t2,t3,.v (X.jD j),t7,t8,rfl,G',h23',rfl,j7,j8⟩)
  js [] [.v (.lst (js.map X.jD)),.v (.lst (ts.map X.jD)),.o (.dt (cZ X js)),.o (.dt (cZ X ts)),.o (.lst []),.o (.dt []),.e,.e,.e] rfl ⟨[],[],_,_,.e,.e,.e,rfl,.nil,.inl ⟨rfl,rfl⟩,rfl,rfl,rfl⟩
 obtain⟨P',pp,ep⟩:=mr (lI 40 (P.map (oT X)));refine⟨P,S,P',G,pp,?_⟩;have ls:=G.lens;have so:d7 [.lst (P.map (oT X))]=some (.lst (P'.map (oT X)),true):=by
  unfold d7;dsimp only[D.seq];rw[Af,ep];refine⟨λd hd=>?_,λa ha b hb=>?_,⟨_,.tp (T:="str") (λd hd=>?_)⟩,by rw[Za];lia⟩
  ·obtain⟨p,_,rfl⟩:=Va.mp hd;exact Re 35 p
  ·obtain⟨p,_,rfl⟩:=Va.mp ha;obtain⟨q,_,rfl⟩:=Va.mp hb;exact Rf 35 p q
  ·obtain⟨p,_,rfl⟩:=Va.mp hd;exact⟨_,_,rfl,⟨(λz=>by cases z),rfl⟩⟩
 refine aP (o:=.rt (.f (.lst (P'.map (oT X)))) [.v (.lst (js.map X.jD)),.v (.lst (ts.map X.jD)),t2,t3,.o (.lst (P.map (oT X))),.o (.dt (mo X S)),t6,t7,t8]) rfl ?_ rfl;refine aj (jn (aR rfl rfl e1) rfl) ?_;refine aj (jn (aR rfl rfl e2) rfl) ?_;refine aj rfl ?_;refine aj rfl ?_;refine aj (cg (gl rfl rfl) el) ?_;exact aW (bO rfl rfl so)
end
end
noncomputable section
def av(ns:S8 Int)(i:Nat):Int:=ns.getD i 0
def Rg{ns:S8 Int}(h:i<ns.length):(ns.map D.int)[i]?=some (.int (av ns i)):=by grind [av]
def oi{ns:S8 Int}(h:i<ns.length):ns[i]?=some (av ns i):=by
 rw[Ya h];unfold av;rw[Vb,Ya h];rfl
def sW{n t:Nat}{gone rest:S8 Nat}(h:List.range n=gone++t::rest):gone=List.range t/\t<n:=by
 have hl:gone.length<n:=by
  have:=congrArg List.length h;rw[Ze,Qa,Qc]at this;lia
 have ht:t=gone.length:=by
  have h1:(List.range n)[gone.length]?=some t:=by rw[h];simp
  rw[Zh hl]at h1;exact(Option.some.inj h1).symm
 subst ht;refine⟨?_,hl⟩;have h2:(List.range n).take gone.length=gone:=by rw[h];simp
 rw[List.take_range,Zm (by lia)]at h2
 exact h2.symm
def eN(e:Nat):S8 D:=[.int (((e+1) / 2:Nat):Int),.int (((e+1) % 2:Nat):Int)]
def XE:EK Nat where
 eT:=eN
 kE e:=[.inl (((e+1) / 2:Nat):Int),.inl (((e+1) % 2:Nat):Int)]
 key e:=rfl
 inj:=λ{a b} h=>by
  injection h with h1 h2
  injection h2 with h2 _
  injection h1 with h1
  injection h2 with h2
  lia
 pl n e:=.tup λd hd=>by
  rcases Zc.mp hd with rfl|hd
  ·exact .int _ _
  ·rw[Zf.mp hd];exact .int _ _
 cp n a b:=λi x y h1 h2=>by
  match i,h1,h2 with|0,h1,h2=>cases h1;cases h2;exact True.intro|1,h1,h2=>cases h1;cases h2;exact True.intro|i+2,h1,h2=>cases h1
def rc(v:Int):Nat:=if 0<=v then 2*v.natAbs else 2*v.natAbs-1
def lc(v:Int):Nat:=if 0<=v then 2*v.natAbs-1 else 2*v.natAbs
def oj(v:Int):ab v=(v.natAbs:Int):=by unfold ab;split<;>lia
def HN(v:Int):gF [.int v]=some (XE.eD (rc v),false):=by
 by_cases c:0<=v
 ·refine aP (o:=.rt (.d (XE.eD (rc v))) [.v (.int v)]) rfl (aW ?_) rfl;have e:XE.eD (rc v)=.tup [.int (ab v),.int 1]:=by
   show D.tup [.int (((rc v+1) / 2:Nat):Int),.int (((rc v+1) % 2:Nat):Int)]=_;unfold rc;rw[Af c,oj];rw[show(2*v.natAbs+1) / 2=v.natAbs by lia,show(2*v.natAbs+1) % 2=1 by lia];rfl
  rw[e];exact gm (ap (bO rfl rfl (uG v)) (ap (y3 (aH (ar rfl rfl rfl rfl rfl) (c:=true) (by show some (decide (v ≥ 0))=_;rw[Ae c])) rfl) rfl)) rfl (by show 2<=_;decide)
 ·refine aP (o:=.rt (.d (XE.eD (rc v))) [.v (.int v)]) rfl (aW ?_) rfl;have e:XE.eD (rc v)=.tup [.int (ab v),.int 0]:=by
   show D.tup [.int (((rc v+1) / 2:Nat):Int),.int (((rc v+1) % 2:Nat):Int)]=_;unfold rc;rw[Ah c,oj];rw[show(2*v.natAbs - 1+1) / 2=v.natAbs by lia,show(2*v.natAbs - 1+1) % 2=0 by lia];rfl
  rw[e];exact gm (ap (bO rfl rfl (uG v)) (ap (y4 (aH (ar rfl rfl rfl rfl rfl) (c:=false) (by show some (decide (v ≥ 0))=_;rw[Ad c])) rfl) rfl)) rfl (by show 2<=_;decide)
def Kr(h:v≠0):ij [.int v]=some (XE.eD (lc v),false):=by
 by_cases c:0<=v
 ·refine aP (o:=.rt (.d (XE.eD (lc v))) [.v (.int v)]) rfl (aW ?_) rfl;have e:XE.eD (lc v)=.tup [.int (ab v),.int 0]:=by
   show D.tup [.int (((lc v+1) / 2:Nat):Int),.int (((lc v+1) % 2:Nat):Int)]=_;unfold lc;rw[Af c,oj];rw[show(2*v.natAbs - 1+1) / 2=v.natAbs by lia,show(2*v.natAbs - 1+1) % 2=0 by lia];rfl
  rw[e];exact gm (ap (bO rfl rfl (uG v)) (ap (y3 (aH (ar rfl rfl rfl rfl rfl) (c:=true) (by show some (decide (v ≥ 0))=_;rw[Ae c])) rfl) rfl)) rfl (by show 2<=_;decide)
 ·refine aP (o:=.rt (.d (XE.eD (lc v))) [.v (.int v)]) rfl (aW ?_) rfl;have e:XE.eD (lc v)=.tup [.int (ab v),.int 1]:=by
   show D.tup [.int (((lc v+1) / 2:Nat):Int),.int (((lc v+1) % 2:Nat):Int)]=_;unfold lc;rw[Ah c,oj];rw[show(2*v.natAbs+1) / 2=v.natAbs by lia,show(2*v.natAbs+1) % 2=1 by lia];rfl
  rw[e];exact gm (ap (bO rfl rfl (uG v)) (ap (y4 (aH (ar rfl rfl rfl rfl rfl) (c:=false) (by show some (decide (v ≥ 0))=_;rw[Ad c])) rfl) rfl)) rfl (by show 2<=_;decide)
def s2(a b:Nat):S8 Nat:=if a<=b then [a,b] else [b,a]
def OI:x∈s2 a b↔x=a\/x=b:=by unfold s2;split<;>simp[or_comm]
def Rh(h:a<=b):ltN 40 (XE.eD b) (XE.eD a)=false:=by
 show jq (ltN 39) [.int (((b+1) / 2:Nat):Int),.int (((b+1) % 2:Nat):Int)] [.int (((a+1) / 2:Nat):Int),.int (((a+1) % 2:Nat):Int)]=false;unfold jq;by_cases c:(b+1) / 2=(a+1) / 2
 ·rw[Af (by rw[c])]
  unfold jq;by_cases c2:(b+1) % 2=(a+1) % 2
  ·rw[Af (by rw[c2])];rfl
  ·rw[Ah (by intro z;injection z with z;lia)]
   exact Ad (by lia)
 ·rw[Ah (by intro z;injection z with z;lia)]
  exact Ad (by lia)
def HP(a b:Nat):lT [.tup [XE.eD a,XE.eD b]]=some (XE.jD (s2 a b),false):=by
 have ca:CA 40 [XE.eD a,XE.eD b]:=λx hx y hy=>by
  have hx':x∈[a,b].map XE.eD:=hx;have hy':y∈[a,b].map XE.eD:=hy;obtain⟨p,_,rfl⟩:=Va.mp hx';obtain⟨q,_,rfl⟩:=Va.mp hy';exact XE.cp 38 p q
 have es:(s2 a b).map XE.eD=dD 40 [XE.eD a,XE.eD b]:=by
  unfold s2;split
  ·rename_i h
   exact dQ ca (List.Perm.refl _) (by show List.Pairwise _ [XE.eD a,XE.eD b];simp[Rh h])
  ·rename_i h
   exact dQ ca (List.Perm.swap _ _ _) (by show List.Pairwise _ [XE.eD b,XE.eD a];simp[Rh (show b<=a by lia)])
 have so:d7 [.tup [XE.eD a,XE.eD b]]=some (.lst ((s2 a b).map XE.eD),true):=by
  unfold d7;dsimp only[D.seq];rw[Af,<-es];refine⟨λd hd=>?_,ca,⟨_,.tp (T:="int") (λd hd=>?_)⟩,by show 2<64;decide⟩
  ·have hd':d∈[a,b].map XE.eD:=hd;obtain⟨p,_,rfl⟩:=Va.mp hd';exact XE.pl 38 p
  ·have hd':d∈[a,b].map XE.eD:=hd;obtain⟨p,_,rfl⟩:=Va.mp hd';exact⟨_,_,rfl,⟨(λz=>by cases z),rfl⟩⟩
 exact aP rfl (aW (bO (ap (bO rfl rfl so) rfl) rfl rfl)) rfl
def qf(ns:S8 Int)(p:Nat):Nat:=if p % 2=0 then rc (av ns (p / 2)) else lc (av ns (p / 2+1))
def Jk(ns:S8 Int)(k:Nat):S8 Nat:=s2 (qf ns (2*k)) (qf ns (2*k+1))
def Ei(ns:S8 Int)(k:Nat):qf ns (2*k)=rc (av ns k):=by unfold qf;rw[Af (by lia),show 2*k / 2=k by lia]
def Ej(ns:S8 Int)(k:Nat):qf ns (2*k+1)=lc (av ns (k+1)):=by unfold qf;rw[Ah (by lia),show(2*k+1) / 2=k by lia]
def Ks:DI (.lst (x::ds)) (some 1) none=some (.lst ds,true):=by
 have e1:FU (.lst (x::ds)) (some 1) none=some (.lst ds,true):=by
  show some (D.lst (cutD (x::ds) (some ((1:Nat):Int)) none),true)=_;unfold cutD;rw[HT.sIx_nat,HT.sIx_none,Qc,Zm (by lia)]
  simp
 unfold DI Jb;rw[e1]
def Kt{ns:S8 Int}(h:ns≠[]):List.zipWith pr (ns.map D.int) ((ns.drop 1).map D.int)=(List.range (ns.length-1)).map λk=>pr (.int (av ns k)) (.int (av ns (k+1))):=by
 apply Wj
 intro i;rw[List.getElem?_zipWith,Xb,Xb,Xb,Zi];have hp:0<ns.length:=List.length_pos_iff.mpr h;by_cases c:i<ns.length-1
 ·rw[Zh c,oi (show i<ns.length by lia),oi (show 1+i<ns.length by lia),BG 1 i];rfl
 ·rw[Yf (l:=List.range _) (by rw[Ze];lia),Yf (l:=ns) (i:=1+i) (by lia)]
  cases ns[i]?<;>rfl
def LZ{ns:S8 Int}(h:ns≠[])(l:ns.length<1000)(nz:∀k,k+1<ns.length->av ns (k+1)≠0):cX [IL ns]=some (.lst (((List.range (ns.length-1)).map (Jk ns)).map XE.jD),true):=by
 have c:=ci (k:=2) (fg:=gT 2 (jB (gN 0) (jB (gN 1) xh))) (fc:=cT) (fe:=eW) (λk=>pr (.int (av ns k)) (.int (av ns (k+1)))) (λk=>XE.jD (Jk ns k)) [.e,.e] (List.range (ns.length-1)) λk hk=>by
  have hk':=Qb.mp hk;have nz':=nz k (by lia)
  refine⟨[.v (.int (av ns k)),.v (.int (av ns (k+1)))],_,_,_,[.v (.int (av ns k)),.v (.int (av ns (k+1)))],rfl,rfl,aR (ap (gm (ap (aR rfl rfl (HN _)) (ap (aR rfl rfl (Kr nz')) rfl)) rfl (by show 2<=_;decide)) rfl) rfl (HP _ _),?_,rfl⟩
  unfold Jk;rw[Ei,Ej];rfl
 rw[Qd];refine aP rfl (aW (bS (ds:=(List.range (ns.length-1)).map λk=>pr (.int (av ns k)) (.int (av ns (k+1)))) (s1:=[.v (IL ns)]) ?_ (qC (n:=1000) (by rw[Za,Ze];lia) rfl) c)) rfl
 rw[<-Kt h];cases ns with
 |nil=>exact absurd rfl h
 |cons x r=>
  have sl:o8 DI (aB 0) (bU (fC (.int 1))) yO [.v (IL (x::r))]=some (.f (.lst (r.map D.int)),[.v (IL (x::r))]):=jo rfl (Ht (i:=1) rfl rfl) rfl rfl Ks;have fa:aa (aB 0) (aa (o8 DI (aB 0) (bU (fC (.int 1))) yO) ai) [.v (IL (x::r))]=some ([.d (IL (x::r)),.f (.lst (r.map D.int))],[.v (IL (x::r))]):=ap rfl (ap sl rfl);show(aa (aB 0) _ [.v (IL (x::r))]).bind _=_;rw[fa];rfl
end
noncomputable section
section
variable {ns:S8 Int}{N:Nat}{q':Nat->Nat}
abbrev oJ(ns:List Int)(N:Nat):List (List Nat):=(List.range N).map (Jk ns)
def tK(k:Nat):S8 Nat:=[2*k,2*k+1]
abbrev zN(N:Nat):List (List Nat):=(List.range N).map tK
def UF:x∈Jk ns k↔x=qf ns (2*k)\/x=qf ns (2*k+1):=OI
def qI(h:x∈Jk ns k):∃p,p / 2=k/\x=qf ns p:=by
 rcases UF.mp h with z|z
 ·exact⟨2*k,by lia,z⟩
 ·exact⟨2*k+1,by lia,z⟩
def xY(p:Nat):qf ns p∈Jk ns (p / 2):=by
 rw[UF];by_cases c:p % 2=0
 ·left;rw[show 2*(p / 2)=p by lia]
 ·right;rw[show 2*(p / 2)+1=p by lia]
def HQ(P:Pm N (qf ns) q')(ha:a<2*N)(hb:b<2*N)(h:qf ns a=qf ns b):a=b:=by rw[<-P.l a ha,<-P.l b hb,h]
def HR(P:Pm N (qf ns) q'):e∈(oJ ns N).flatten↔e<2*N:=by
 rw[Vi];constructor
 ·rintro⟨j,hj,he⟩;obtain⟨k,hk,rfl⟩:=Va.mp hj;have:=Qb.mp hk;obtain⟨p,hp,rfl⟩:=qI he;exact P.lt p (by lia)
 ·intro h;have h2:=P.lt' e h;refine⟨Jk ns (q' e / 2),Va.mpr ⟨_,Qb.mpr (by lia),rfl⟩,?_⟩
  have:=xY (ns:=ns) (q' e);rwa [P.r e h]at this
def Ub:x∈tK k↔x / 2=k:=by
 unfold tK;simp only[Zc,CG,or_false];lia
def UO:e∈(zN N).flatten↔e<2*N:=by
 rw[Vi];constructor
 ·rintro⟨j,hj,he⟩;obtain⟨k,hk,rfl⟩:=Va.mp hj;have:=Qb.mp hk;have:=Ub.mp he;lia
 ·intro h;exact⟨tK (e / 2),Va.mpr ⟨_,Qb.mpr (by lia),rfl⟩,Ub.mpr rfl⟩
def L0(P:Pm N (qf ns) q'):(oJ ns N).flatten.Nodup:=by
 refine List.pairwise_flatten.mpr ⟨λl hl=>?_,?_⟩
 ·obtain⟨k,hk,rfl⟩:=Va.mp hl;have hk:=Qb.mp hk;have ne:qf ns (2*k)≠qf ns (2*k+1):=λz=>by
   have:=HQ P (by lia) (by lia) z;lia
  unfold Jk s2;split
  ·simp[ne]
  ·simp[Ne.symm ne]
 ·rw[Vg];refine AB (λ{a b} ha hb hab=>?_) (A4 (n:=N));have ha:=Qb.mp ha;have hb:=Qb.mp hb;intro x hx y hy e;obtain⟨p,hp,rfl⟩:=qI hx;obtain⟨r,hr,rfl⟩:=qI hy;have:=HQ P (by lia) (by lia) e
  lia
def L3:(zN N).flatten.Nodup:=by
 refine List.pairwise_flatten.mpr ⟨λl hl=>?_,?_⟩
 ·obtain⟨k,hk,rfl⟩:=Va.mp hl;unfold tK;simp
 ·rw[Vg];refine List.Pairwise.imp (λ{a b} hab=>?_) (A4 (n:=N));intro x hx y hy e;have:=Ub.mp hx;have:=Ub.mp hy;lia
def uK(k:Nat):(Jk ns k).length=2:=by unfold Jk s2;split<;>rfl
def dw(P:Pm N (qf ns) q')(h:N<60):Dw (oJ ns N) (zN N) where
 nj:=L0 P
 nt:=L3
 ej j hj:=by
  obtain⟨k,_,rfl⟩:=Va.mp hj;exact⟨λz=>(by have:=uK (ns:=ns) k;rw[z]at this;cases this),by rw[uK];exact Xa _⟩
 et j hj:=by
  obtain⟨k,_,rfl⟩:=Va.mp hj;exact⟨λz=>(by cases z),Xa _⟩
 jt e he:=UO.mpr ((HR P).mp he)
 tj e he:=(HR P).mpr (UO.mp he)
 fj:=by rw[Za,Ze];exact h
 ft:=by rw[Za,Ze];exact h
def zO(P:Pm N (qf ns) q')(h:e<2*N):jt (oJ ns N) e=Jk ns (q' e / 2):=by
 have h2:=P.lt' e h;refine LU (L0 P) (Va.mpr ⟨_,Qb.mpr (by lia),rfl⟩) ?_
 have:=xY (ns:=ns) (q' e);rwa [P.r e h]at this
def HS(h:e<2*N):jt (zN N) e=tK (e / 2) :=
 LU L3 (Va.mpr ⟨_,Qb.mpr (by lia),rfl⟩) (Ub.mpr rfl)
def uL(P:Pm N (qf ns) q')(ha:a<N)(hb:b<N)(h:Jk ns a=Jk ns b):a=b:=by
 have h1:qf ns (2*a)∈Jk ns b:=h ▸ UF.mpr (.inl rfl);obtain⟨p,hp,e⟩:=qI h1;have:=HQ P (by lia) (by lia) e
 lia
def HU(P:Pm N (qf ns) q')(hj:j<N):x∈nx (oJ ns N) (zN N) (Jk ns j)↔∃p,p / 2=j/\(x=Jk ns j\/x=Jk ns (ta (qf ns) q' p / 2)):=by
 unfold nx;constructor
 ·intro h;obtain⟨e',h1,rfl⟩:=Va.mp h;obtain⟨t,ht,h1⟩:=Vi.mp h1;obtain⟨e,he,rfl⟩:=Va.mp ht;obtain⟨p,hp,rfl⟩:=qI he;have lp:p<2*N:=by lia
  rw[HS (P.lt p lp)]at h1;have h2:=Ub.mp h1;refine⟨p,hp,?_⟩;rcases zy h2 with z|z
  ·left;rw[zO P (by rw[z];exact P.lt p lp),z,P.l p lp,hp]
  ·right;rw[zO P (by rw[z];exact qF (P.lt p lp)),z];rfl
 ·rintro⟨p,hp,h⟩;have lp:p<2*N:=by lia
  have hm:qf ns p∈Jk ns j:=hp ▸ xY p;rcases h with rfl|rfl
  ·refine Va.mpr ⟨qf ns p,Vi.mpr ⟨_,Va.mpr ⟨qf ns p,hm,rfl⟩,?_⟩,?_⟩
   ·rw[HS (P.lt p lp)];exact Ub.mpr rfl
   ·rw[zO P (P.lt p lp),P.l p lp,hp]
  ·refine Va.mpr ⟨tw (qf ns p),Vi.mpr ⟨_,Va.mpr ⟨qf ns p,hm,rfl⟩,?_⟩,?_⟩
   ·rw[HS (P.lt p lp)];exact Ub.mpr (kK _)
   ·rw[zO P (qF (P.lt p lp))];rfl
def L4(P:Pm N (qf ns) q')(hk:k<N):Rc (oJ ns N) (zN N) (Jk ns k) x↔∃j,j<N/\x=Jk ns j/\Rp (qf ns) q' k j:=by
 constructor
 ·intro h;induction h with
  |refl=>exact⟨k,hk,rfl,uJ k⟩
  |step _ hx ih=>
   obtain⟨j,hj,rfl,r⟩:=ih;obtain⟨p,hp,z⟩:=(HU P hj).mp hx;rcases z with rfl|rfl
   ·exact⟨j,hj,rfl,r⟩
   ·have lp:p<2*N:=by lia
    have lt:=Hy P lp;refine⟨ta (qf ns) q' p / 2,by lia,rfl,?_⟩
    have c:Cn (qf ns) q' (2*k) p:=by
     refine Hz ?_;rw[hp];exact r
    exact uI (.ta c)
 ·rintro⟨j,hj,rfl,r⟩;have key:∀b,Cn (qf ns) q' (2*k) b->Rc (oJ ns N) (zN N) (Jk ns k) (Jk ns (b / 2)):=by
   intro b c;induction c with
   |refl=>rw[show 2*k / 2=k by lia];exact .refl
   |tw _ ih=>rw[kK];exact ih
   |@ta b c ih=>
    have lb:=c.lt P (by lia)
    exact ih.step ((HU P (by lia)).mpr ⟨b,rfl,.inr rfl⟩)
  have:=key _ r;rwa [show 2*j / 2=j by lia]at this
end
end
end K50
namespace VF
open PySem L2
theorem HV:∀(es:S8 D),CA n (d::es)->LH n es->∃fs:S8 D,fs.Perm (d::es)/\LH n fs
 |[],_,_=>⟨[d],List.Perm.refl _,List.pairwise_singleton _ _⟩
 | e::es,h,s=>by
  obtain⟨s1,s2⟩:=List.pairwise_cons.mp s;cases c:ltN n e d with
  |true=>
   have up:∀x∈d::es,x∈d::e::es:=λx hx=>by
    rcases Zc.mp hx with m|m
    ·rw[m];exact Wc
    ·exact Wb _ (Wb _ m)
   obtain⟨fs,p,q⟩:=HV (n:=n) (d:=d) es (λa ha b hb=>h a (up a ha) b (up b hb)) s2;refine⟨e::fs,(p.cons e).trans (List.Perm.swap d e es),List.pairwise_cons.mpr ⟨λf hf=>?_,q⟩⟩;rcases Zc.mp (p.mem_iff.mp hf) with m|m
   ·rw[m];exact pe n e d c
   ·exact s1 f m
  |false=>
   refine⟨d::e::es,List.Perm.refl _,List.pairwise_cons.mpr ⟨λb hb=>?_,s⟩⟩;rcases Zc.mp hb with m|m
   ·rw[m];exact c
   ·cases k:ltN n b d with
    |false=>rfl
    |true=>
     rcases h.neg (a:=b) (b:=e) (c:=d) (by simp[m]) (by simp) (by simp) k with z|z
     ·rw[s1 b m]at z;cases z
     ·rw[c]at z;cases z
theorem HW:∀(ds:S8 D),CA n ds->∃es:S8 D,es.Perm ds/\LH n es
 |[],_=>⟨[],List.Perm.refl _,List.Pairwise.nil⟩
 | d::ds,h=>by
  obtain⟨es,p,q⟩:=HW ds λa ha b hb=>h a (Wb _ ha) b (Wb _ hb);have pd:(d::es).Perm (d::ds):=p.cons d;obtain⟨fs,p2,q2⟩:=HV (n:=n) (d:=d) es (λa ha b hb=>h a (pd.mem_iff.mp ha) b (pd.mem_iff.mp hb)) q;exact⟨fs,p2.trans pd,q2⟩
def wB{ds es:S8 D}(h:CA n ds)(p:ds.Perm es):dD n ds=dD n es:=by
 obtain⟨fs,p1,q⟩:=HW ds h;rw[<-dQ h p1 q];exact dQ (λa ha b hb=>h a (p.mem_iff.mpr ha) b (p.mem_iff.mpr hb)) (p1.trans p) q
end VF
namespace K50
open PySem L2 VF VF22
noncomputable section
section
variable {ns:S8 Int}{N:Nat}{q':Nat->Nat}
open Classical in
def Ek(ns:S8 Int)(N:Nat)(p:Pa Nat):S8 Nat:=(List.range N).filter λk=>decide (Jk ns k∈p.1)
open Classical in
def Ri(P : Pm N (qf ns) q'){L : S8 (Pa Nat)}(h : Gw (oJ ns N) (zN N) g L S) : ∀ t, t ≤ N → g = (List.range t).map (Jk ns) →
    L.map (Ek ns N) = rl N (qf ns) q' t ∧ (∀ k, k < N → (Jk ns k ∈ S ↔ ∃ j, j < t ∧ Rp (qf ns) q' j k)) ∧ ∀ p ∈ L, p.1.Nodup ∧ p.1.length < 60 ∧ ∀ x ∈ p.1, ∃ k, k < N ∧ x = Jk ns k := by
  have cut : ∀ {g : S8 (S8 Nat)} {j : S8 Nat} {t : Nat}, g ++ [j] = (List.range t).map (Jk ns) → ∃ t', t = t' + 1 ∧ g = (List.range t').map (Jk ns) ∧ j = Jk ns t' := by
    intro g j t e;cases t with
    |zero => have := congrArg List.length e; simp at this
    |succ t=>
      rw [BP, CP] at e;obtain ⟨e1, e2⟩ := List.append_inj' e rfl;exact ⟨t, rfl, e1, by simpa using e2⟩
  induction h with
  |nil=>
    intro t _ e;have : t = 0 := by have := congrArg List.length e; simpa using this.symm
    subst this;exact ⟨rfl, λk _ => ⟨λz => (by cases z), λ⟨j, hj, _⟩ => absurd hj (AU _)⟩, λp hp => by cases hp⟩
  |@old g S L j _ hj ih=>
    intro t ht e;obtain ⟨t, rfl, e1, rfl⟩ := cut e;obtain ⟨a1, a2, a3⟩ := ih t (by lia) e1
    have c : t ∈ (rl N (qf ns) q' t).flatten := (mn P (by lia) t).mpr ((a2 t (by lia)).mp hj)
    refine ⟨by rw [a1]; conv => rhs; unfold rl
               rw [Af c], λk hk => ?_, a3⟩
    rw [a2 k hk];refine ⟨λ⟨j, h1, h2⟩ => ⟨j, by lia, h2⟩, λ⟨j, h1, h2⟩ => ?_⟩
    by_cases z : j = t
    · subst z
      obtain ⟨i, hi, ri⟩ := (a2 j (by lia)).mp hj
      exact ⟨i, hi, jW ri h2⟩
    · exact ⟨j, by lia, h2⟩
  |@new g S L j p _ hj nd lp mem ih=>
    intro t ht e;obtain ⟨t, rfl, e1, rfl⟩ := cut e;obtain ⟨a1, a2, a3⟩ := ih t (by lia) e1
    have c : t ∉ (rl N (qf ns) q' t).flatten := λz => hj ((a2 t (by lia)).mpr ((mn P (by lia) t).mp z))
    have mm : ∀ k, k < N → (Jk ns k ∈ p.1 ↔ Rp (qf ns) q' t k) := λk hk => by
      rw [mem, L4 P (by lia)]
      refine ⟨λ⟨j, h1, h2, h3⟩ => ?_, λz => ⟨k, hk, rfl, z⟩⟩;rw [uL P hk h1 h2]; exact h3
    have ps : Ek ns N p = cls N (qf ns) q' t := by
      unfold Ek cls;refine List.filter_congr λk hk => ?_;rw [A9];exact mm k (List.mem_range.mp hk)
    refine ⟨?_, λk hk => ?_, λp' hp => ?_⟩
    · rw [CP, a1]
      conv => rhs; unfold rl
      rw [Ah c];show _ ++ [Ek ns N p] = _;rw [ps]
    · rw [gP, a2 k hk, mm k hk]
      refine ⟨λz => z.elim (λ⟨j, h1, h2⟩ => ⟨j, by lia, h2⟩) λz => ⟨t, by lia, z⟩, λ⟨j, h1, h2⟩ => ?_⟩
      by_cases z : j = t
      · subst z; exact .inr h2
      · exact .inl ⟨j, by lia, h2⟩
    · rcases List.mem_append.mp hp with z | z
      · exact a3 p' z
      · rw [List.mem_singleton.mp z]
        refine ⟨nd, lp, λx hx => ?_⟩;obtain ⟨j, h1, h2, _⟩ := (L4 P (by lia)).mp ((mem x).mp hx)
        exact ⟨j, h1, h2⟩
abbrev NL(l:List Nat):List D:=l.map λk:Nat=>D.int (k:Int)
abbrev LL(l:List Nat):D:=.lst (NL l)
def HX{xs L:S8 Nat}(p:L.Perm xs)(s:L.Pairwise (·<·))(l:L.length<64){d:D}(hd:d.seq=some (NL xs)):d7 [d]=some (LL L,true):=by
 have ca:CA 40 (NL xs):=λa ha b hb=>by
  obtain⟨p,_,rfl⟩:=Va.mp ha;obtain⟨q,_,rfl⟩:=Va.mp hb;trivial
 have es:NL L=dD 40 (NL xs):=dQ ca (p.map _) (by
  unfold LH;rw[Vg]
  exact s.imp λ{a b} hab=>Ad (by lia))
 unfold d7;simp only[hd]
 rw[Af ⟨λx hx=>by obtain⟨p,_,rfl⟩:=Va.mp hx;exact .int _ _,ca,⟨_,.sc (T:="int") (by decide) λd hd=>by
  obtain⟨p,_,rfl⟩:=Va.mp hd
  exact⟨by simp,rfl⟩⟩,by rw[Za,<-p.length_eq];exact l⟩,<-es]
def L5(ls:S8 (S8 Nat)):CA 40 (ls.map LL):=λa ha b hb=>by
 obtain⟨x,_,rfl⟩:=Va.mp ha;obtain⟨y,_,rfl⟩:=Va.mp hb;intro i u v h1 h2;rw[Xb]at h1 h2;obtain⟨c,_,rfl⟩:=Xc.mp h1;obtain⟨d,_,rfl⟩:=Xc.mp h2;trivial
def Ku{ls ms:S8 (S8 Nat)}(p:ls.Perm ms)(l:ls.length<64){d:D}(hd:d.seq=some (ls.map LL)):d7 [d]=some (.lst (dD 40 (ms.map LL)),true):=by
 rw[<-wB (L5 ls) (p.map LL)];unfold d7;simp only[hd]
 rw[Af ⟨λx hx=>by
  obtain⟨q,_,rfl⟩:=Va.mp hx;exact .lst λd hd=>by
   obtain⟨k,_,rfl⟩:=Va.mp hd
   exact .int _ _,L5 ls,⟨_,.sc (T:="list") (by decide) λd hd=>by
  obtain⟨q,_,rfl⟩:=Va.mp hd
  exact⟨by simp,rfl⟩⟩,by rw[Za];exact l⟩]
def pO(ns:S8 Int)(t:Nat):S8 (bC×D):=(List.range t).map λk=>(XE.tJ (Jk ns k),.int (k:Int))
def UZ:x∈(pO ns t).map (·.1)↔∃k,k<t/\x=XE.tJ (Jk ns k):=by grind [pO,Jk]
def Rj(P:Pm N (qf ns) q'):((pO ns N).map (·.1)).Nodup:=by
 unfold pO;rw[Qd];show List.Pairwise _ _;rw[Vg];refine AB (λ{a b} ha hb hab e=>?_) (A4 (n:=N));have:=uL P (Qb.mp ha) (Qb.mp hb) (XE.tj_inj e);lia
def L6(k:Nat):Jk ns k≠[]:=λz=>by have:=uK (ns:=ns) k;rw[z]at this;cases this
def SE{X:EK α}(hj:j≠[])(h:br Tj (X.tJ j)=some d):gY (.dt Tj) (X.jD j)=some (d,false):=by
 show(((gq (j.map X.eD)).bind λks=>some (br Tj ks)).bind λo=>o.bind λd=>some (d,false))=_;rw[X.tj hj];show((some (br Tj (X.tJ j))).bind λo=>o.bind λd=>some (d,false))=_;rw[h];rfl
def OJ(P:Pm N (qf ns) q')(hk:k<N):gY (.dt (pO ns N)) (XE.jD (Jk ns k))=some (.int (k:Int),false) :=
 SE (L6 k) (qG (Va.mpr ⟨k,Qb.mpr hk,rfl⟩) (Rj P))
end
end
def OK{st s1 s2:En}{t u:Sl}(h1:st[i]?=some t)(ht:t.isIo=false)(e1:st.set i (.v a)=s1)(h2:s1[j]?=some u)(hu:u.isIo=false)(e2:s1.set j (.v b)=s2):gT 2 (jB (gN i) (jB (gN j) xh)) (.tup [a,b]) st=some s2:=by
 show(gN i a st).bind (λTr=>(gN j b Tr).bind λTR=>some TR)=_;rw[zx h1 ht e1,Wa,zx h2 hu e2];rfl
def HY(n:Nat):S8 Int:=(List.range n).map λt:Nat=>(t:Int)
def pB(n:Nat):(HY n).length=n:=by unfold HY;rw[Za,Ze]
def xZ(h:i<n):av (HY n) i=i:=by
 unfold av HY;rw[Vb,Xb,Zh h];rfl
def L7(n:Nat):rng 0 n=(HY n).map D.int:=by
 unfold rng HY;rw[Qd];exact We λt _=>by show D.int (0+(t:Int))=D.int (t:Int);rw[Cw]
def L8(h:p<2*(n-1)):qf (HY n) p=p:=by
 unfold qf;by_cases c:p % 2=0
 ·rw[Af c,xZ (by lia)]
  unfold rc;rw[Af (by lia)];lia
 ·rw[Ah c,xZ (by lia)]
  unfold lc;rw[Af (by lia)];lia
def Rk(h:k<n-1):Jk (HY n) k=tK k:=by
 unfold Jk;rw[L8 (by lia),L8 (by lia)]
 unfold s2 tK;rw[Af (by lia)]
noncomputable section
section
variable {ns:S8 Int}{N:Nat}{q':Nat->Nat}
open Classical in
def L9(ns:S8 Int)(N:Nat)(j:S8 Nat):Nat:=((List.range N).find? λk=>decide (Jk ns k=j)).getD 0
open Classical in
def qJ(P:Pm N (qf ns) q')(hk:k<N):L9 ns N (Jk ns k)=k:=by
 obtain⟨j,hj⟩:∃j,(List.range N).find? (λi=>decide (Jk ns i=Jk ns k))=some j:=Yn.mp (List.find?_isSome.mpr ⟨k,Qb.mpr hk,Ae rfl⟩);have h2:Jk ns j=Jk ns k:=by simpa using CQ hj
 have h3:=Qb.mp (Br hj);have e:L9 ns N (Jk ns k)=j:=by unfold L9;rw[hj];rfl
 rw[e];exact uL P h3 hk h2
open Classical in
def HZ(P:Pm N (qf ns) q')(nd:p.1.Nodup)(inn:∀x∈p.1,∃k,k<N/\x=Jk ns k):(Ek ns N p).Perm (p.1.map (L9 ns N)):=by
 have n1:(Ek ns N p).Nodup:=List.Nodup.sublist B1 List.nodup_range;have n2:(p.1.map (L9 ns N)).Nodup:=by
  show List.Pairwise _ _;rw[Vg];refine AB (λ{a b} ha hb hab e=>hab ?_) nd;obtain⟨i,hi,rfl⟩:=inn a ha;obtain⟨j,hj,rfl⟩:=inn b hb;rw[qJ P hi,qJ P hj]at e;rw[e]
 rw[List.perm_ext_iff_of_nodup n1 n2];intro k;unfold Ek;rw[CO,Qb,decide_eq_true_iff,Va];constructor
 ·rintro⟨hk,hj⟩;exact⟨_,hj,qJ P hk⟩
 ·rintro⟨x,hx,e⟩;obtain⟨i,hi,rfl⟩:=inn x hx;rw[qJ P hi]at e;subst e;exact⟨hi,hx⟩
def OL(p:Pa Nat):(Ek ns N p).Pairwise (·<·):=List.Pairwise.sublist B1 A4
def H0(P:Pm N (qf ns) q')(hN:N<60)(nd:p.1.Nodup)(lp:p.1.length<60)(inn:∀x∈p.1,∃k,k<N/\x=Jk ns k):dN [.v (oT XE p),.o (.dt (pO ns N))]=some (.f (LL (Ek ns N p)),[.v (oT XE p),.o (.dt (pO ns N))]):=by
 have c:cF (gN 0) cT fN 1 (p.1.map XE.jD) [.e,.o (.dt (pO ns N))]=some (p.1.map λj=>D.int (L9 ns N j:Int),[.e,.o (.dt (pO ns N))]) :=
  ci XE.jD (λj=>D.int (L9 ns N j:Int)) _ p.1 λj hj=>by
   obtain⟨k,hk,rfl⟩:=inn j hj;rw[qJ P hk];exact⟨_,_,_,_,_,rfl,rfl,ar rfl rfl rfl rfl (OJ P hk),rfl,rfl⟩
 have pp:=HZ P nd inn;have so:=HX (d:=.lst (p.1.map λj=>D.int (L9 ns N j:Int))) pp (OL p) (by rw[pp.length_eq,Za];lia) (by unfold NL;rw[Qd];rfl)
 exact bO (ap (bS (oy (ar rfl rfl rfl rfl (zw (i:=1) rfl)) rfl) (qC (n:=1000) (by rw[Za];lia) rfl) c) rfl) rfl so
abbrev RD(N:Nat)(q q':Nat->Nat):D:=.lst (dD 40 ((rl N q q' N).map LL))
def OM(L:S8 (S8 Nat))(N:Nat)(f:Nat->S8 Nat):Ex (((List.range N).map f).map XE.jD)=(List.range N).map λk:Nat=>D.tup [.int (k:Int),XE.jD (f k)]:=by
 unfold Ex;refine Wj λi=>?_;rw[Qk,Xb,Xb,Xb];by_cases hi:i<N
 ·rw[Zh hi];rfl
 ·rw[Yf (by rw[Ze];lia)];rfl
def H9(two:2<=ns.length)(few:ns.length<=42)(nz:∀k,k+1<ns.length->av ns (k+1)≠0)(P:Pm (ns.length-1) (qf ns) q'):fF [IL ns]=some (RD (ns.length-1) (qf ns) q',true):=by
 have ne:ns≠[]:=λz=>by rw[z]at two;cases two
 have e1:=LZ ne (by lia) nz
 have e2:cX [IL (HY ns.length)]=some (.lst ((zN (ns.length-1)).map XE.jD),true):=by
  have h:=LZ (ns:=HY ns.length) (λz=>by have:=pB ns.length;rw[z]at this;simp at this;lia) (by rw[pB];lia) (λk hk=>by
   rw[pB]at hk
   rw[xZ hk];lia)
  rw[pB]at h;rw[h];congr 4;exact We λk hk=>Rk (Qb.mp hk)
 have W:=dw P (by lia)
 obtain⟨L,S,L',G,pp,e3⟩:=HM (X:=XE) W (λj hj=>by obtain⟨k,_,rfl⟩:=Va.mp hj;exact uK k) (λj hj=>by obtain⟨k,_,rfl⟩:=Va.mp hj;rfl)
 obtain⟨r1,_,r3⟩:=Ri P G (ns.length-1) (Xa _) rfl;have ll:L'.length<60:=by
  have h1:=G.lens.1;have h2:=W.fj;rw[pp.length_eq];lia
 obtain⟨sf,el,t4,t5,rfl,_⟩:=bP (fg:=gT 2 (jB (gN 4) (jB (gN 5) xh))) (B:=fL) (λk:Nat=>D.tup [.int (k:Int),XE.jD (Jk ns k)]) (List.range (ns.length-1)) (λg st=>∃s4 s5,st=[.v (IL ns),.v (.lst ((oJ ns (ns.length-1)).map XE.jD)),.o (.lst ((zN (ns.length-1)).map XE.jD)),.o (.dt (pO ns g.length)),s4,s5]/\s4.isIo=false/\s5.isIo=false)
  (by
   rintro g k r st ha ⟨s4,s5,rfl,i4,i5⟩;obtain⟨hg,hk⟩:=sW ha;have lg:g.length=k:=by rw[hg,Ze]
   rw[lg];refine⟨_,_,OK (t:=s4) (u:=s5) rfl i4 rfl rfl i5 rfl,put_ev (z':=.dt (pO ns (k+1))) rfl rfl rfl rfl rfl rfl rfl rfl ?_,.v (.int (k:Int)),.v (XE.jD (Jk ns k)),by rw[Qa,Ve,lg];rfl,rfl,rfl⟩
   have le:(pO ns k).length<100000:=by unfold pO;rw[Za,Ze];lia
   rw[OE (L6 k) le,pA]
   ·unfold pO;rw[BP,Vd];rfl
   ·intro z;obtain⟨i,hi,e⟩:=UZ.mp z;have:=uL P hk (by lia) (XE.tj_inj e)
    lia)
  (List.range (ns.length-1)) [] [.v (IL ns),.v (.lst ((oJ ns (ns.length-1)).map XE.jD)),.o (.lst ((zN (ns.length-1)).map XE.jD)),.o (.dt []),.e,.e] rfl ⟨.e,.e,rfl,rfl,rfl⟩
 rw[Ze]at el;have c:cF (gN 0) cT dN 1 (L'.map (oT XE)) [.e,.o (.dt (pO ns (ns.length-1)))]=some (L'.map λp=>LL (Ek ns (ns.length-1) p),[.e,.o (.dt (pO ns (ns.length-1)))]) :=
  ci (oT XE) (λp=>LL (Ek ns (ns.length-1) p)) _ L' λp hp=>by
   obtain⟨h1,h2,h3⟩:=r3 p (pp.mem_iff.mp hp);exact⟨_,_,_,_,_,rfl,rfl,H0 P (by lia) h1 h2 h3,rfl,rfl⟩
 have so:=Ku (ls:=L'.map (Ek ns (ns.length-1))) (ms:=rl (ns.length-1) (qf ns) q' (ns.length-1)) (d:=.lst (L'.map λp=>LL (Ek ns (ns.length-1) p))) (by rw[<-r1];exact pp.map _) (by rw[Za];lia) (by rw[Qd];rfl)
 refine aP (o:=.rt (.f (RD (ns.length-1) (qf ns) q')) [.v (IL ns),.v (.lst ((oJ ns (ns.length-1)).map XE.jD)),.v (.lst ((zN (ns.length-1)).map XE.jD)),.o (.dt (pO ns (ns.length-1))),t4,t5]) rfl ?_ rfl;refine aj (jn (aR rfl rfl e1) rfl) ?_;refine aj (jn (aR (ap (OC (ap (bO rfl rfl (uH ns)) rfl) rfl ⟨by lia,by lia⟩) rfl) rfl (z:=(.lst ((zN (ns.length-1)).map XE.jD),true)) ?_) rfl) ?_
 ·rw[show((ns.length:Int) - 0).toNat=ns.length by lia,L7];exact e2
 refine aj rfl ?_;refine aj (cg (s1:=[.v (IL ns),.v (.lst ((oJ ns (ns.length-1)).map XE.jD)),.o (.lst ((zN (ns.length-1)).map XE.jD)),.o (.dt []),.e,.e]) (by rw[<-OM []];exact GY rfl rfl rfl) el) ?_
 exact aW (bO (ap (bS (gl (aR rfl rfl e3) rfl) (qC (n:=1000) (by rw[Za];lia) rfl) c) rfl) rfl so)
end
end
noncomputable section
section
variable {ns ms:S8 Int}{N:Nat}
def sg(v:Int)(k:Nat):Int:=if v<0 then -(k:Int) else k
structure Hf(N:Nat)(ns ms:List Int):Prop where
 z:av ns 0=0
 la:av ns N=N
 nz:∀k,k<N->av ns (k+1)≠0
 bd:∀k,k<=N->(av ns k).natAbs<=N
 at_:∀k,k<=N->av ms (av ns k).natAbs=sg (av ns k) k
def Hf.end_(h:Hf N ns ms):av ms N=N:=by
 have:=h.at_ N (Xa _);rw[h.la]at this;have e:(N:Int).natAbs=N:=by lia
 rw[e]at this;rw[this];unfold sg;rw[Ah (by lia)]
def Hf.q(h:Hf N ns ms)(hp:p<2*N):qf ns p<2*N/\qf ms (qf ns p)=p:=by
 have en:=h.end_;by_cases c:p % 2=0
 ·obtain⟨k,rfl⟩:∃k,p=2*k:=⟨p / 2,by lia⟩
  have hk:k<N:=by lia
  have b:=h.bd k (by lia)
  have a:=h.at_ k (by lia)
  have ne:(av ns k).natAbs≠N:=λe=>by
   rw[e,en]at a;unfold sg at a;split at a<;>lia
  rw[Ei];by_cases v:0<=av ns k
  ·have r:rc (av ns k)=2*(av ns k).natAbs:=by unfold rc;rw[Af v]
   rw[r,Ei,a];have e:sg (av ns k) k=k:=by unfold sg;rw[Ah (by lia)]
   rw[e];unfold rc;rw[Af (by lia)];lia
  ·have k0:k≠0:=λz=>by rw[z,h.z]at v;exact v (Int.le_refl _)
   have r:rc (av ns k)=2*((av ns k).natAbs-1)+1:=by unfold rc;rw[Ah v];lia
   rw[r,Ej,show(av ns k).natAbs - 1+1=(av ns k).natAbs by lia,a]
   have e:sg (av ns k) k=-(k:Int):=by unfold sg;rw[Af (by lia)]
   rw[e];unfold lc;rw[Ah (by lia)];lia
 ·obtain⟨k,rfl⟩:∃k,p=2*k+1:=⟨p / 2,by lia⟩
  have hk:k<N:=by lia
  have b:=h.bd (k+1) (by lia)
  have a:=h.at_ (k+1) (by lia)
  have nz:=h.nz k hk;rw[Ej];by_cases v:0<=av ns (k+1)
  ·have r:lc (av ns (k+1))=2*((av ns (k+1)).natAbs-1)+1:=by unfold lc;rw[Af v];lia
   rw[r,Ej,show(av ns (k+1)).natAbs - 1+1=(av ns (k+1)).natAbs by lia,a]
   have e:sg (av ns (k+1)) (k+1)=((k+1:Nat):Int):=by unfold sg;rw[Ah (by lia)]
   rw[e];unfold lc;rw[Af (by lia)];lia
  ·have ne:(av ns (k+1)).natAbs≠N:=λe=>by
    rw[e,en]at a;unfold sg at a;split at a<;>lia
   have r:lc (av ns (k+1))=2*(av ns (k+1)).natAbs:=by unfold lc;rw[Ah v]
   rw[r,Ei,a];have e:sg (av ns (k+1)) (k+1)=-((k+1:Nat):Int):=by unfold sg;rw[Af (by lia)]
   rw[e];unfold rc;rw[Ah (by lia)];lia
def Hf.pm(h:Hf N ns ms)(h':Hf N ms ns):Pm N (qf ns) (qf ms):=⟨λp hp=>(h.q hp).1,λp hp=>(h'.q hp).1,λp hp=>(h.q hp).2,λp hp=>(h'.q hp).2⟩
def OO{α:Type}{l m:S8 α}(nd:l.Nodup)(sub:l ⊆ m)(len:m.length<=l.length):m ⊆ l:=λx hx=>by
 refine Bu λc=>?_;have:=@fP _ (λa b=>Classical.propDecidable _) (x::l) m (Qh.mpr ⟨c,nd⟩) λy hy=>by
  rcases Zc.mp hy with rfl|hy
  ·exact hx
  ·exact sub hy
 rw[Qc]at this;lia
def pos(ns:S8 Int)(j:Nat):Nat:=((List.range ns.length).find? λk=>decide ((av ns k).natAbs=j)).getD 0
def Kv(ns:S8 Int):ns.map ab=(List.range ns.length).map λk=>((av ns k).natAbs:Int):=by
 refine Wj λi=>?_;rw[Xb,Xb];by_cases hi:i<ns.length
 ·rw[Zh hi,oi hi];show some (ab _)=some _;rw[oj]
 ·rw[Yf (by lia),Yf (by rw[Ze];lia)];rfl
def Ia(L:Ln ns):((List.range ns.length).map λk=>(av ns k).natAbs).Nodup:=by
 have h:=L.nm.nd;rw[Kv]at h;have:((List.range ns.length).map λk=>((av ns k).natAbs:Int))=((List.range ns.length).map λk=>(av ns k).natAbs).map λt:Nat=>(t:Int):=by rw[Qd];rfl
 rw[this]at h;exact LR h
def pC(L:Ln ns)(hi:i<ns.length)(hj:j<ns.length)(h:(av ns i).natAbs=(av ns j).natAbs):i=j :=
 Hx (Ia L) (Qb.mpr hi) (Qb.mpr hj) h
def mt(hi:i<ns.length):av ns i∈ns:=Yc (oi hi)
def ol(L:Ln ns)(hi:i<ns.length):(av ns i).natAbs<ns.length:=by
 have:=L.nm.le _ (mt hi);rw[oj]at this;lia
def eO(L:Ln ns)(hj:j<ns.length):pos ns j<ns.length/\(av ns (pos ns j)).natAbs=j:=by
 have h:=OO (Ia L) (m:=List.range ns.length) (λx hx=>by
  obtain⟨k,hk,rfl⟩:=Va.mp hx
  exact Qb.mpr (ol L (Qb.mp hk))) (by rw[Za];exact Xa _)
 obtain⟨k,hk,e⟩:=Va.mp (h (Qb.mpr hj));obtain⟨i,hi⟩:∃i,(List.range ns.length).find? (λk=>decide ((av ns k).natAbs=j))=some i:=Yn.mp (List.find?_isSome.mpr ⟨k,hk,Ae e⟩);have h2:(av ns i).natAbs=j:=by simpa using CQ hi
 have h3:=Qb.mp (Br hi);have e:pos ns j=i:=by unfold pos;rw[hi];rfl
 rw[e];exact⟨h3,h2⟩
def mv(L:Ln ns)(hk:k<ns.length):pos ns (av ns k).natAbs=k:=by
 obtain⟨h1,h2⟩:=eO L (ol L hk);exact pC L h1 hk h2
def bk(ns:S8 Int):S8 Int:=(List.range ns.length).map λj=>sg (av ns (pos ns j)) (pos ns j)
def oB(hj:j<ns.length):av (bk ns) j=sg (av ns (pos ns j)) (pos ns j):=by
 unfold av bk;rw[Vb,Xb,Zh hj];rfl
def x6(L:Ln ns):av ns 0=0:=by
 obtain⟨r,e⟩:=L.hd;unfold av;rw[e];rfl
def wC(L:Ln ns):av ns (ns.length-1)=((ns.length-1:Nat):Int):=by
 obtain⟨r,e⟩:=L.la;have two:=L.two;have lr:r.length=ns.length-1:=by have:=congrArg List.length e;rw[Qa,Ve]at this;lia
 generalize ns.length=n at *;unfold av;rw[e,Vb,Wh (by lia),lr,Nat.sub_self]
 show(n:Int)-1=_;lia
def Ib(L:Ln ns)(hk:k+1<ns.length):av ns (k+1)≠0:=λz=>by
 have:=pC L (i:=k+1) (j:=0) hk (by lia) (by rw[z,x6 L])
 lia
def Rl(L:Ln ns):Hf (ns.length-1) ns (bk ns) where
 z:=x6 L
 la:=wC L
 nz k hk:=Ib L (by lia)
 bd k hk:=by have:=L.two;have:=ol L (i:=k) (by lia);lia
 at_ k hk:=by
  have two:=L.two;rw[oB (ol L (by lia)),mv L (by lia)]
def x8(v:Int)(k:Nat):(sg v k).natAbs=k:=by unfold sg;split<;>lia
def Rm(L:Ln ns):Hf (ns.length-1) (bk ns) ns:=by
 have two:=L.two;have p0:pos ns 0=0:=by
  have:=mv L (k:=0) (by lia)
  rwa [x6 L]at this
 have pl:pos ns (ns.length-1)=ns.length-1:=by
  have:=mv L (k:=ns.length-1) (by lia)
  rwa [wC L,show((ns.length-1:Nat):Int).natAbs=ns.length-1 by lia]at this
 refine⟨?_,?_,λk hk z=>?_,λk hk=>?_,λk hk=>?_⟩
 ·rw[oB (by lia),p0,x6 L];rfl
 ·rw[oB (by lia),pl,wC L]
  unfold sg;rw[Ah (by lia)]
 ·have h:=congrArg Int.natAbs z;rw[oB (by lia),x8]at h
  obtain⟨_,h2⟩:=eO L (j:=k+1) (by lia)
  rw[h]at h2;have:av ns 0=0:=x6 L;simp[this]at h2
 ·rw[oB (by lia),x8]
  have:=(eO L (j:=k) (by lia)).1;lia
 ·obtain⟨h1,h2⟩:=eO L (j:=k) (by lia)
  rw[oB (by lia),x8]
  by_cases v:av ns (pos ns k)<0
  ·have k0:pos ns k≠0:=λz=>by rw[z,x6 L]at v;exact absurd v (by decide)
   have:sg (av ns (pos ns k)) (pos ns k)=-(pos ns k:Int):=by unfold sg;rw[Af v]
   rw[this];unfold sg;rw[Af (by lia)];lia
  ·have:sg (av ns (pos ns k)) (pos ns k)=(pos ns k:Int):=by unfold sg;rw[Ah v]
   rw[this];unfold sg;rw[Ah (by lia)];lia
def kX(L:Ln ns):Pm (ns.length-1) (qf ns) (qf (bk ns)):=(Rl L).pm (Rm L)
def OP(L:Ln ns)(few:ns.length<=42):fF [IL ns]=some (RD (ns.length-1) (qf ns) (qf (bk ns)),true) :=
 H9 L.two few (λk hk=>Ib L hk) (kX L)
end
end
end K50
namespace VF22
open PySem L2 VF
def OQ{o:S9 D}(h1:fd st=some (r1,s1))(h0:cont s1 r1=some d0)(hd:QR d0=true)(h2:fy s1=some (r2,s2))(h3:fx s2=some (r3,s3))(h4:cont s3 r1=some d1)(h5:cont s3 r2=some d2)(h6:Po d1 d2=some o)(h7:SZ r3=some dz)(hr:o.getD dz=d):JM fd fy fx st=some (.d d,s3):=by
 simp only[JM,h1,h0,hd,h2,h3,h4,h5,h6,h7,hr,Wa,if_true]
theorem wD(f:Str->D)(n:Str):∀Z:S8 Str,br (Z.map λm=>((Sum.inr m:Key),f m)) (Sum.inr n)=if n∈Z then some (f n) else none
 |[]=>rfl
 | m::r=>by
  by_cases c:m=n
  ·subst c;rw[Af Wc];unfold br;rw[Zd,List.find?_cons_of_pos (by simp)];rfl
  ·have ih:=wD f n r;have e:br ((m::r).map λm=>((Sum.inr m:Key),f m)) (Sum.inr n)=br (r.map λm=>((Sum.inr m:Key),f m)) (Sum.inr n):=by
    unfold br;rw[Zd,List.find?_cons_of_neg (by simp[c])]
   rw[e,ih];have:n∈m::r↔n∈r:=by simp[Ne.symm c]
   by_cases h:n∈r
   ·rw[Af h,Af (this.mpr h)]
   ·rw[Ah h,Ah λz=>h (this.mp z)]
def Kw(f g:Str->D)(n:Str)(Z:S8 Str)(h:∀m,m≠n->g m=f m):dE (Z.map λm=>((Sum.inr m:Key),f m)) (Sum.inr n) (g n)=(if n∈Z then Z else Z++[n]).map λm=>((Sum.inr m:Key),g m):=by
 have an:((Z.map λm=>((Sum.inr m:Key),f m)).any λkv=>decide (kv.1=(Sum.inr n:Key)))=decide (n∈Z):=by
  rw[Cv,Wg,List.any_eq_true,decide_eq_true_eq];constructor
  ·rintro⟨m,hm,e⟩;have:m=n:=by simpa using e
   exact this ▸ hm
  ·exact λhn=>⟨n,hn,by simp⟩
 unfold dE;rw[an];by_cases c:n∈Z
 ·rw[Af (Ae c),Af c,Qd];refine We λm _=>?_;by_cases e:m=n
  ·subst e;simp
  ·simp[e,h m e]
 ·rw[Ah (by simp[c]),Ah c,Vd]
  congr 1;exact We λm hm=>by rw[h m λz=>c (z ▸ hm)]
end VF22
namespace K50
open PySem L2 VF VL VF22
noncomputable section
abbrev Bd:=Bool×Str
def Ic(p:Bd):Bd:=(!p.1,p.2)
def OR{l:S8 D}(hl:l.length<=n)(hn:n<=1000000:=by decide)(hb:b=true):(b&&decide (l.length<=1000000))=true:=by rw[hb,Ae (by lia)];rfl
def Ro(xs:S8 Str):CA 40 (xs.map D.str):=λa ha b hb=>by
 obtain⟨e,_,rfl⟩:=Va.mp ha;obtain⟨e',_,rfl⟩:=Va.mp hb;trivial
def SF(xs:S8 Str):∃κ,Kd (xs.map D.str) κ:=⟨_,.sc (T:="str") (by decide) λd hd=>by
 obtain⟨x,_,rfl⟩:=Va.mp hd
 exact⟨by simp,rfl⟩⟩
def SG{xs:S8 Str}:∀d∈xs.map D.str,Pl 40 d:=λd hd=>by
 obtain⟨x,_,rfl⟩:=Va.mp hd;exact .str _ x
def OS(xs:S8 Str):dD 40 (xs.map D.str)=(bm xs).map D.str:=by
 refine(dQ (Ro xs) ((ce xs).map D.str) ?_).symm;exact Vg.mpr ((lF xs).imp λh=>Ad h)
def Id{ps:S8 Bd}(hl:ps.length<=100):lO [LD ps]=some (.lst (ps.map fm),true):=by
 obtain⟨sf,e,s2,rfl,_⟩:=bP (fg:=gN 2) (B:=iX) fm ps
  (λgone st=>∃s2:Sl,st=[.v (LD ps),.o (.lst (gone.map fm)),s2]/\s2.isIo=false)
  (by
   rintro gone s rest st ha ⟨s2,rfl,q⟩;have hg:=congrArg List.length ha;rw[Qa,Qc]at hg;refine⟨_,[.v (LD ps),.o (.lst ((gone++[s]).map fm)),.v (fm s)],zx (t:=s2) rfl q,?_,.v (fm s),rfl,rfl⟩;refine jH rfl ?_
   exact df (p8 rfl rfl rfl rfl rfl rfl rfl (app_ev (by rw[Za];lia)) (by rw[Vd];rfl)))
  ps [] [.v (LD ps),.o (.lst []),.e] rfl ⟨.e,rfl,rfl⟩
 refine aP (o:=.rt (.s 1) [.v (LD ps),.o (.lst (ps.map fm)),s2]) rfl ?_ rfl;exact aj rfl (aj (cg (oy rfl rfl) e) rfl)
abbrev nz(ps:List Bd):List Str:=ps.map (·.2)
def OT{ps:S8 Bd}(np:∀p∈ps,Nm p.2)(hl:ps.length<64):lQ [LD ps]=some (.lst ((bm (nz ps)).map D.str),true):=by
 have ec:cF (gN 0) cT fV 1 (ps.map fm) [.e]=some (ps.map λp=>D.str p.2,[.e]) :=
  ci (fg:=gN 0) (fc:=cT) (fe:=fV) (k:=1) fm (λp=>D.str p.2) [.e] ps λp hp=>⟨[.v (fm p)],[.v (fm p)],.d (.str p.2),[.v (fm p)],[.v (fm p)],rfl,rfl,bz rfl rfl (sQ (t:=p.1) (n:=p.2) (np p hp)) rfl,rfl,rfl⟩
 refine aP (o:=.rt (.f (.lst ((bm (nz ps)).map D.str))) [.v (LD ps)]) rfl ?_ rfl;refine aW (bO (ap (bS (gl (aR rfl rfl (Id (by lia))) rfl) (OR (n:=100) (by rw[Za];lia) (by decide) rfl) ec) rfl) rfl (z:=(.lst ((bm (nz ps)).map D.str),true)) ?_)
 have:=Ed (xs:=nz ps) (by rw[Za];exact hl)
 rw[<-this,Qd];rfl
def iw(Z gone:S8 Str):S8 (Key×D):=Z.map λm=>((Sum.inr m:Key),D.int ((gone.count m:Nat):Int))
structure CI(Z gone:List Str):Prop where
 mem:∀n,n∈Z↔n∈gone
 nd:Z.Nodup
def CI.len{Z gone:S8 Str}(h:CI Z gone):Z.length<=gone.length:=h.nd.length_le_of_subset λx hx=>(h.mem x).mp hx
def wE{Z gone:S8 Str}(n:Str):br (iw Z gone) (Sum.inr n)=if n∈Z then some (D.int ((gone.count n:Nat):Int)) else none:=wD (λm=>D.int ((gone.count m:Nat):Int)) n Z
def Kx(n:Str):dE (iw Z gone) (Sum.inr n) (.int (((gone++[n]).count n:Nat):Int))=iw (if n∈Z then Z else Z++[n]) (gone++[n]) :=
 Kw (λm=>D.int ((gone.count m:Nat):Int)) (λm=>D.int (((gone++[n]).count m:Nat):Int)) n Z λm hm=>by
  have:(gone++[n]).count m=gone.count m:=by
   rw[Cu,List.count_cons_of_ne (Ne.symm hm),List.count_nil,Nat.add_zero]
  rw[this]
def CI.put(h:CI Z gone)(n:Str):CI (if n∈Z then Z else Z++[n]) (gone++[n]):=by
 by_cases c:n∈Z
 ·rw[Af c];refine⟨λm=>?_,h.nd⟩;rw[Qe,<-h.mem m,Zf];exact⟨.inl,λz=>z.elim id λe=>e ▸ c⟩
 ·rw[Ah c];refine⟨λm=>?_,Vj.mpr ⟨h.nd,by simp,λa ha b hb=>by rw[Zf.mp hb];exact λz=>c (z ▸ ha)⟩⟩
  rw[Qe,Qe,h.mem m]
def Ie{Z gone:S8 Str}(h:CI Z gone)(hl:gone.length<=1000):dj [.v L,.o (.dk (iw Z gone)),.v x,.v (.str n),.e]=some (.nx [.v L,.o (.dk (iw (if n∈Z then Z else Z++[n]) (gone++[n]))),.v x,.v (.str n),.e]):=by
 have hg:(if n∈Z then some (D.int ((gone.count n:Nat):Int)) else none).getD (.int 0)=.int ((gone.count n:Nat):Int):=by
  by_cases c:n∈Z
  ·rw[Af c];rfl
  ·rw[Ah c,List.count_eq_zero.mpr λz=>c ((h.mem n).mpr z)];rfl
 have ha:bF (.int ((gone.count n:Nat):Int)) (.int 1)=some (.int (((gone++[n]).count n:Nat):Int),false):=by
  have:(((gone++[n]).count n:Nat):Int)=((gone.count n:Nat):Int)+1:=by
   rw[Cu,List.count_singleton_self];rfl
  rw[this];rfl
 have hz:(iw Z gone).length<100000:=by
  have:=h.len;unfold iw;rw[Za];lia
 have hs:dR (.dk (iw Z gone)) (.str n) (.int (((gone++[n]).count n:Nat):Int))=some (.dk (iw (if n∈Z then Z else Z++[n]) (gone++[n]))):=by
  show(if (iw Z gone).length<100000 then some (D.dk (dE (iw Z gone) (Sum.inr n) _)) else none)=_;rw[Af hz,Kx]
 have hat:Po (.dk (iw Z gone)) (.str n)=some (if n∈Z then some (D.int ((gone.count n:Nat):Int)) else none):=congrArg some (wE n);exact put_ev (ar (OQ rfl rfl rfl rfl rfl rfl rfl hat rfl hg) rfl rfl rfl ha) rfl rfl rfl rfl rfl rfl rfl hs
def Em{ps:S8 Bd}{Z gone:S8 Str}{s3:Sl}(h:CI Z gone)(hn:∀p∈ps,Nm p.2)(hl:ps.length<64)(hg:gone.length<=500)(q3:s3.isIo=false):∃(Z':S8 Str)(s3':Sl),dm [.v L,.o (.dk (iw Z gone)),.v (LD ps),s3,.e]=some (.nx [.v L,.o (.dk (iw Z' (gone++bm (nz ps)))),.v (LD ps),s3',.e])/\CI Z' (gone++bm (nz ps))/\s3'.isIo=false:=by
 have ln:(bm (nz ps)).length<=100:=by rw[(ce _).length_eq,Za];lia
 obtain⟨sf,e,Z',s3',rfl,hc,q⟩:=bP (fg:=gN 3) (B:=dj) D.str (bm (nz ps))
  (λg st=>∃(Z':S8 Str)(s3':Sl),st=[.v L,.o (.dk (iw Z' (gone++g))),.v (LD ps),s3',.e]/\CI Z' (gone++g)/\s3'.isIo=false)
  (by
   rintro g n rest st ha ⟨Z',s3',rfl,hc,q⟩;have hz:=congrArg List.length ha;rw[Qa]at hz
   refine⟨_,_,zx (t:=s3') rfl q,Ie hc (by rw[Qa];lia),_,.v (.str n),by rw[<-Xf],by rw[<-Xf];exact hc.put n,rfl⟩)
  (bm (nz ps)) [] [.v L,.o (.dk (iw Z gone)),.v (LD ps),s3,.e] rfl ⟨Z,s3,by rw[Zg],by rw[Zg];exact h,q3⟩
 exact⟨Z',s3',cg (gl (aR rfl rfl (OT hn hl)) rfl) e,hc,q⟩
theorem OU(hp:Nm p.2)(hq:Nm q.2)(e:bd p=bd q):p=q:=by
 obtain⟨t,n⟩:=p;obtain⟨u,m⟩:=q;have h1:=nV (t:=t) hp;have h2:=nV (t:=u) hq;rw[e,h2]at h1;subst h1;cases u with
 |false=>exact congrArg (Prod.mk false) e
 |true=>
  have e:minus++n=minus++m:=e;have h3:=xJ (n:=n);rw[e,xJ]at h3;rw[h3]
def Rq(h1:fa st=some (r,s))(h2:cont s r=some d)(h3:b d=some z)(hz:mk z=r':=by rfl):RP b fa st=some (r',s):=by
 simp only[RP,h1,h2,h3,hz,Wa]
def pD{a b:S8 D}(h:a.length+b.length<=1000000):bF (.lst a) (.lst b)=some (.lst (a++b),true):=by
 have e1:vB (.lst a) (.lst b)=none:=rfl;have e2:vD (.lst a) (.lst b)=none:=rfl;have e3:FP (.lst a) (.lst b)=some (.lst (a++b),true):=by simp only[FP];rw[Af h]
 unfold bF nM;rw[e1,e2,e3]
def qK{gone rest:S8 Nat}(h:List.range m=gone++t::rest):t=gone.length/\gone.length<m:=by
 have hl:=congrArg List.length h;rw[Ze,Qa,Qc]at hl;have h2:(gone++t::rest)[gone.length]?=some t:=by rw[Wh (Xa _),Nat.sub_self];rfl
 rw[<-h,Zh (by lia)]at h2
 injection h2 with h2
 exact⟨h2.symm,by lia⟩
def dJ{κ:Type}[DecidableEq κ]{Tj:S8 (κ×D)}{k k':κ}{d:D}:br (dE Tj k d) k'=if k'=k then some d else br Tj k':=by
 unfold br dE;by_cases c:(Tj.any λkv=>decide (kv.1=k))=true
 ·rw[Af c];induction Tj with
  |nil=>cases c
  |cons kv r ih=>
   by_cases h:kv.1=k
   ·rw[Zd,Af h,Yg,Yg];by_cases hk:k'=k
    ·rw[Af hk,Ae (show(kv.1,d).1=k' from h.trans hk.symm)];rfl
    ·have h1:decide ((kv.1,d).1=k')=false:=Ad λz=>hk (z.symm.trans h);rw[Ah hk,h1];dsimp only;by_cases c2:(r.any λkv=>decide (kv.1=k))=true
     ·have:=ih c2;rw[Ah hk]at this;exact this
     ·congr 2;refine(We λx hx=>?_).trans (List.map_id r);exact Ah λz=>c2 (List.any_eq_true.mpr ⟨x,hx,Ae z⟩)
   ·have c2:(r.any λkv=>decide (kv.1=k))=true:=by
     rw[Ym,Ad h,Bool.false_or]at c;exact c
    have:=ih c2;rw[Zd,Ah h,Yg,Yg];by_cases q:kv.1=k'
    ·rw[Ae q,Ah λz=>h (q.trans z)]
    ·rw[Ad q];exact this
 ·rw[Ah c,List.find?_append];by_cases hk:k'=k
  ·have:Tj.find? (λkv=>decide (kv.1=k'))=none:=List.find?_eq_none.mpr λx hx z=>c (List.any_eq_true.mpr ⟨x,hx,Ae ((Aj z).trans hk)⟩);rw[Af hk,this,Option.none_or,Yg,Ae hk.symm];rfl
  ·rw[Ah hk,Yg,Ad (λz=>hk z.symm)];show Option.map _ ((Tj.find? _).or none)=_;rw[Option.or_none]
def Ig{ps:S8 Bd}(nd:(nz ps).Nodup)(il:i<ps.length)(jl:j<ps.length)(e:ps[i].2=ps[j].2):i=j:=by
 have h:=List.pairwise_iff_getElem.mp (Vg.mp nd);rcases Cr i j with c|c|c
 ·exact(h i j il jl c e).elim
 ·exact c
 ·exact(h j i jl il c e.symm).elim
def Ky:∀{l:S8 Str}{n:Str},l.Nodup->n∈l->l.count n=1:=by grind
def Ep{ss ts:S8 Bd}(hn:∀p∈ss,Nm p.2)(hl:ss.length<60)(hn':∀p∈ts,Nm p.2)(hl':ts.length<60)(nd:(nz ss).Nodup)(pm:(nz ts).Perm (nz ss)):gx [.lst [LD ss,LD ts]]=some (.non,false):=by
 have e0:=uF pm;have ln:∀us:S8 Bd,us.length<60->(bm (nz us)).length<=100:=λus h=>by rw[(ce _).length_eq,Za];lia
 have l1:=ln ss hl;have l2:=ln ts hl';obtain⟨sf,e,Z,s2,s3,rfl,hc,q2,q3⟩:=bP (fg:=gN 2) (B:=dm) LD [ss,ts]
  (λgone st=>∃(Z:S8 Str)(s2 s3:Sl),st=[.v (.lst [LD ss,LD ts]),.o (.dk (iw Z (gone.flatMap λus=>bm (nz us)))),s2,s3,.e]/\CI Z (gone.flatMap λus=>bm (nz us))/\s2.isIo=false/\s3.isIo=false)
  (by
   rintro gone us rest st ha ⟨Z,s2,s3,rfl,hc,q2,q3⟩;have hm:us=ss\/us=ts:=by
    have:us∈[ss,ts]:=by rw[ha];simp
    simpa using this
   have hg:(gone.flatMap λus=>bm (nz us)).length<=500:=by
    have:=congrArg (λl=>(l.flatMap λus=>bm (nz us)).length) ha;simp only[Yk,Yl,List.flatMap_nil,Qa,Wf]at this;lia
   have nu:∀p∈us,Nm p.2:=by rcases hm with rfl|rfl<;>assumption
   have lu:us.length<64:=by rcases hm with rfl|rfl<;>lia
   obtain⟨Z',s3',eB,hc',q3'⟩:=Em (L:=.lst [LD ss,LD ts]) hc nu lu hg q3;refine⟨_,_,fPut_ev rfl q2,eB,Z',.v (LD us),s3',?_,?_,rfl,q3'⟩
   ·rw[Yk,BJ]
   ·rw[Yk,BJ];exact hc')
  [ss,ts] [] [.v (.lst [LD ss,LD ts]),.o (.dk []),.e,.e,.e] rfl ⟨[],.e,.e,rfl,⟨λn=>Iff.rfl,CY⟩,rfl,rfl⟩
 have eg:([ss,ts].flatMap λus=>bm (nz us))=bm (nz ss)++bm (nz ss):=by
  rw[Yl,Yl,List.flatMap_nil,Zg,e0]
 rw[eg]at e hc;have ndS:(bm (nz ss)).Nodup:=(ce _).nodup_iff.mpr nd;have two:∀n∈Z,(bm (nz ss)++bm (nz ss)).count n=2:=λn hz=>by
  have hm:n∈bm (nz ss):=by rcases Qe.mp ((hc.mem n).mp hz) with z|z<;>exact z
  rw[Cu,Ky ndS hm]
 have ks:(iw Z (bm (nz ss)++bm (nz ss))).map (λkv=>di kv.1)=Z.map D.str:=by
  unfold iw;rw[Qd];rfl
 have es:ky [.dk (iw Z (bm (nz ss)++bm (nz ss)))]=some (.lst ((bm Z).map D.str),true):=by
  rw[D6 (by rw[ks];exact SG) (by rw[ks];exact Ro Z) (by rw[ks];exact SF Z),ks,OS Z]
  rw[ks,Za];have hs:Z ⊆ bm (nz ss):=λn hz=>by rcases Qe.mp ((hc.mem n).mp hz) with z|z<;>exact z
  have h1:=fP hc.nd hs;have h2:=(ce (nz ss)).length_eq;have h3:(nz ss).length=ss.length:=Za _;lia
 generalize hG:iw Z (bm (nz ss)++bm (nz ss))=G at e es;have ec:cF (gN 0) dq dr 1 ((bm Z).map D.str) [.e,.o (.dk G),.v (.lst [LD ss,LD ts])]=some ([],[.e,.o (.dk G),.v (.lst [LD ss,LD ts])]):=by
  have:=dP (fg:=gN 0) (fc:=dq) (fe:=dr) (k:=1) D.str D.str (λ_=>false) [.e,.o (.dk G),.v (.lst [LD ss,LD ts])] (bm Z) λn hn=>by
   have hz:n∈Z:=(ce Z).mem_iff.mp hn;have hd:gY (.dk G) (.str n)=some (.int 2,false):=by
    show((some (br G (Sum.inr n))).bind λo=>o.bind λd=>some (d,false))=_;rw[<-hG,wE,Af hz,two n hz];rfl
   exact⟨[.v (.str n),.o (.dk G),.v (.lst [LD ss,LD ts])],[.v (.str n),.o (.dk G),.v (.lst [LD ss,LD ts])],rfl,aH (ar (ar rfl rfl rfl rfl hd) (bO rfl rfl (z:=(.int 2,false)) rfl) rfl rfl (z:=(.bl false,false)) rfl) rfl,λ_=>rfl,λz=>by cases z⟩
  rw[this];have:(bm Z).filter (λ_=>false)=[]:=List.filter_eq_nil_iff.mpr λ_ _ z=>by cases z
  rw[this];rfl
 have lz:(bm Z).length<=1000:=by
  have:=hc.len;rw[Qa]at this;rw[(ce Z).length_eq];lia
 refine aP (o:=.nx [.v (.lst [LD ss,LD ts]),.o (.dk G),s2,s3,.o (.lst [])]) rfl ?_ rfl;refine aj rfl (aj (cg (gl rfl rfl) e) (aj (jn (bS (gl (bO rfl rfl es) rfl) ?_ ec) rfl) (fI rfl rfl)));show(true&&decide (((bm Z).map D.str).length<=1000000))=true;rw[Za,Ae (by lia)];rfl
def SH{st s1 s2:En}{t u:Sl}(h1:st[i]?=some t)(ht:t.isIo=false)(e1:st.set i (.v a)=s1)(h2:s1[j]?=some u)(hu:u.isIo=false)(e2:s1.set j (.v b)=s2):gT 2 (jB (gN i) (jB (gN j) xh)) (.tup [a,b]) st=some s2:=by
 have p1:gN i a st=some s1:=by simp only[gN,kL,h1,Wa,ht,Xe,if_false,e1]
 have p2:gN j b s1=some s2:=by simp only[gN,kL,h2,Wa,hu,Xe,if_false,e2]
 show(gN i a st).bind (λs=>(gN j b s).bind λs'=>some s')=_;rw[p1,Wa,p2];rfl
def Rr(ts:S8 Bd):wd (ts.map fm)=(List.range ts.length).map λk:Nat=>D.tup [.int ((k:Int)+1),fm (ts.getD k default)]:=by
 unfold wd;refine Wj λi=>?_;rw[Qk,Xb,Xb];by_cases hi:i<ts.length
 ·have e:ts.getD i default=ts[i]:=by rw[Vb,Ya hi];rfl
  rw[Zh hi,Ya hi];show some (D.tup [.int ((i:Int)+1),fm ts[i]])=some (D.tup [.int ((i:Int)+1),fm (ts.getD i default)]);rw[e]
 ·rw[Yf (by lia),Yf (by rw[Ze];lia)];rfl
structure Di(ts:List Bd)(g:Nat)(Tj:List (Key×D)):Prop where
 len:Tj.length<=2*g
 at_:∀(j:Nat)(h:j<ts.length),j<g->br Tj (Sum.inr (bd ts[j]))=some (.int ((j:Int)+1))/\br Tj (Sum.inr (bd (Ic ts[j])))=some (.int (-((j:Int)+1)))
def Ih(hp:Nm p.2)(hq:Nm q.2)(h:p≠q):(Sum.inr (bd p):Key)≠Sum.inr (bd q):=λe=>h (OU hp hq (by injection e))
def Di.step{ts:S8 Bd}{g:Nat}{Tj:S8 (Key×D)}(nm:∀p∈ts,Nm p.2)(nd:(nz ts).Nodup)(h:Di ts g Tj)(hg:g<ts.length):Di ts (g+1) (dE (dE Tj (Sum.inr (bd ts[g])) (.int ((g:Int)+1))) (Sum.inr (bd (Ic ts[g]))) (.int (-((g:Int)+1)))):=by
 have ng:=nm ts[g] (Wi hg);have nf:∀p:Bd,p≠Ic p:=λp=>by obtain⟨t,n⟩:=p;cases t<;>simp[Ic]
 refine⟨?_,λj hj hlt=>?_⟩
 ·have l1:=m7 (Tj:=Tj) (k:=(Sum.inr (bd ts[g]):Key)) (d:=.int ((g:Int)+1));have l2:=m7 (Tj:=dE Tj (Sum.inr (bd ts[g])) (.int ((g:Int)+1))) (k:=(Sum.inr (bd (Ic ts[g])):Key)) (d:=.int (-((g:Int)+1)));have:=h.len;lia
 ·have nj:=nm ts[j] (Wi hj);by_cases c:j=g
  ·subst c;rw[dJ,dJ,dJ,dJ,Ah (Ih nj (show Nm (Ic ts[j]).2 from nj) (nf _)),Af rfl,Af rfl];exact⟨rfl,rfl⟩
  ·have ne:ts[j].2≠ts[g].2:=λe=>c (Ig nd hj hg e);have k1:∀p q:Bd,p.2=ts[j].2->q.2=ts[g].2->(Sum.inr (bd p):Key)≠Sum.inr (bd q):=λp q e1 e2=>Ih (by rw[e1];exact nj) (by rw[e2];exact ng) λz=>ne (by rw[<-e1,z,e2])
   rw[dJ,dJ,dJ,dJ,Ah (k1 ts[j] (Ic ts[g]) rfl rfl),Ah (k1 ts[j] ts[g] rfl rfl),Ah (k1 (Ic ts[j]) (Ic ts[g]) rfl rfl),Ah (k1 (Ic ts[j]) ts[g] rfl rfl)];exact h.at_ j hj (by lia)
def uM{Tj:S8 (Key×D)}(h:Tj.length<100000):dR (.dk Tj) (.str x) d=some (.dk (dE Tj (Sum.inr x) d)):=by
 show(if Tj.length<100000 then some (D.dk (dE Tj (Sum.inr x) d)) else none)=_;rw[Af h]
def num(ps ts:S8 Bd):S8 Int:=0::(ps.map (λp=>((ts.idxOf p+1:Nat):Int))++[((ps.length+1:Nat):Int)])
def Ii{ps ts:S8 Bd}(hp:∀p∈ps,Nm p.2)(nd:(nz ts).Nodup)(pm:ps.Perm ts)(lt:ts.length<=50):fY [LD ps,LD ts]=some (IL (num ps ts),true):=by
 have nm:∀p∈ts,Nm p.2:=λp h=>hp p (pm.mem_iff.mpr h);have lp:ps.length=ts.length:=pm.length_eq;have r2:=Ep (ss:=ps) (ts:=ts) hp (by lia) nm (by lia) ((pm.map (·.2)).nodup_iff.mpr nd) (pm.symm.map (·.2))
 obtain⟨sf,el,Tj,s3,s4,rfl,hd,_⟩:=bP (fg:=gT 2 (jB (gN 3) (jB (gN 4) xh))) (B:=gC) (λk:Nat=>D.tup [.int ((k:Int)+1),fm (ts.getD k default)]) (List.range ts.length) (λgone st=>∃Tj s3 s4,st=[.v (LD ps),.v (LD ts),.o (.dk Tj),s3,s4]/\Di ts gone.length Tj/\s3.isIo=false/\s4.isIo=false)
  (by
   rintro gone t rest st ha ⟨Tj,s3,s4,rfl,hd,i3,i4⟩;obtain⟨rfl,hg⟩:=qK ha;have e0:ts.getD gone.length default=ts[gone.length]:=by rw[Vb,Ya hg];rfl
   have hl:=hd.len;refine⟨[.v (LD ps),.v (LD ts),.o (.dk Tj),.v (.int ((gone.length:Int)+1)),.v (fm ts[gone.length])],_,by rw[e0];exact SH (t:=s3) (u:=s4) rfl i3 rfl rfl i4 rfl,?_,dE (dE Tj (Sum.inr (bd ts[gone.length])) (.int ((gone.length:Int)+1))) (Sum.inr (bd (Ic ts[gone.length]))) (.int (-((gone.length:Int)+1))),.v (.int ((gone.length:Int)+1)),.v (fm ts[gone.length]),rfl,by rw[Qa];exact hd.step nm nd hg,rfl,rfl⟩
   have l1:=m7 (Tj:=Tj) (k:=(Sum.inr (bd ts[gone.length]):Key)) (d:=.int ((gone.length:Int)+1));refine aj (put_ev rfl rfl rfl rfl rfl rfl rfl rfl (uM (by lia))) ?_
   exact put_ev (Rq rfl rfl (z:=(.int (-((gone.length:Int)+1)),false)) rfl) rfl rfl rfl (bz rfl rfl (Oq (t:=(ts[gone.length]).1) (n:=(ts[gone.length]).2) (nm _ (Wi hg))) rfl) rfl rfl rfl (uM (by lia)))
  (List.range ts.length) [] [.v (LD ps),.v (LD ts),.o (.dk []),.e,.e] rfl ⟨[],.e,.e,rfl,⟨Xa _,λj _ h=>absurd h (AU _)⟩,rfl,rfl⟩
 rw[Ze]at hd;have ec:cF (gN 0) cT eG 1 (ps.map fm) [.e,.o (.dk Tj)]=some (ps.map λp=>D.int ((ts.idxOf p+1:Nat):Int),[.e,.o (.dk Tj)]) :=
  ci (fg:=gN 0) (fc:=cT) (fe:=eG) (k:=1) fm (λp=>D.int ((ts.idxOf p+1:Nat):Int)) [.e,.o (.dk Tj)] ps λp hp=>by
   have hi:ts.idxOf p<ts.length:=List.idxOf_lt_length_iff.mpr (pm.mem_iff.mp hp);have a:=(hd.at_ _ hi hi).1;rw[Bp hi]at a
   refine⟨[.v (fm p),.o (.dk Tj)],[.v (fm p),.o (.dk Tj)],.d (.int ((ts.idxOf p:Int)+1)),[.v (fm p),.o (.dk Tj)],[.v (fm p),.o (.dk Tj)],rfl,rfl,ar rfl rfl rfl rfl (z:=(.int ((ts.idxOf p:Int)+1),false)) (by
    show((some (br Tj (Sum.inr (bd p)))).bind λo=>o.bind λd=>some (d,false))=_
    rw[a];rfl),by show some (D.int ((ts.idxOf p:Int)+1),_)=_;rfl,rfl⟩
 refine aP (o:=.rt (.f (IL (num ps ts))) [.v (LD ps),.v (LD ts),.o (.dk Tj),s3,s4]) rfl ?_ rfl;refine aj (df (aR rfl rfl r2)) ?_;refine aj rfl ?_;refine aj (cg ?_ el) ?_
 ·rw[<-Rr];exact Og rfl rfl rfl
 ·refine aW (ar (ar (qE rfl rfl (by simp)) (bS (s1:=[.v (LD ps),.v (LD ts),.o (.dk Tj),s3,s4]) (oy rfl rfl) (OR (n:=100) (by rw[Za];lia) (by decide) rfl) ec) rfl rfl (pD (by simp only[Za,Qc,Wf];lia))) (qE (ap (ar (bO rfl rfl (og ps)) rfl rfl rfl rfl) rfl) rfl (by simp)) rfl rfl (z:=(IL (num ps ts),true)) ?_)
  rw[pD (by simp only[Qa,Za,Qc,Wf];lia)]
  unfold IL num;rw[Zd,Vd,Qd];rfl
end
noncomputable section
section
variable {ps ts:S8 Bd}
structure Ll(ps ts:List Bd):Prop where
 nm:∀p∈ps,Nm p.2
 nd:(nz ts).Nodup
 pm:ps.Perm ts
 few:ts.length<=12
def Rt{l:S8 Bd}(h:(nz l).Nodup):l.Nodup:=LR h
def Ll.len(L:Ll ps ts):ps.length=ts.length:=L.pm.length_eq
def Ll.idx(L:Ll ps ts)(h:p∈ps):ts.idxOf p<ts.length:=List.idxOf_lt_length_iff.mpr (L.pm.mem_iff.mp h)
def Ll.ndp(L:Ll ps ts):ps.Nodup:=L.pm.nodup_iff.mpr (Rt L.nd)
def Ll.inj(L:Ll ps ts)(hp:p∈ps)(hq:q∈ps)(h:ts.idxOf p=ts.idxOf q):p=q:=by
 have h1:=Bp (L.idx hp);have h2:=Bp (L.idx hq);rw[<-h1,<-h2];congr 1
def hU(ps ts:S8 Bd):(num ps ts).length=ps.length+2:=by
 unfold num;rw[Qc,Qa,Za];rfl
def nh:∀n∈num ps ts,0<=n:=by grind [num]
def Ij(h:0<=n):ab n=n:=by unfold ab;rw[Ah (by lia)]
def uN(L:Ll ps ts):Ln (num ps ts):=by
 have e:((num ps ts).length:Int)-1=((ps.length+1:Nat):Int):=by rw[hU];lia
 have ll:=L.len;refine⟨⟨?_,λn hn=>?_⟩,⟨_,rfl⟩,⟨0::ps.map (λp=>((ts.idxOf p+1:Nat):Int)),by rw[e];rfl⟩,by rw[hU];lia⟩
 ·have ea:(num ps ts).map ab=num ps ts:=(We λn hn=>Ij (nh n hn)).trans (List.map_id _);rw[ea];unfold num;rw[Qh,Vj];refine⟨λz=>?_,?_,by simp,λa ha b hb z=>?_⟩
  ·rcases Qe.mp z with z|z
   ·obtain⟨p,_,hp⟩:=Va.mp z;lia
   ·have:=Zf.mp z;lia
  ·show List.Pairwise _ _;rw[Vg];exact AB (λ{a b} ha hb hab z=>hab (L.inj ha hb (by lia))) L.ndp
  ·obtain⟨p,hp,rfl⟩:=Va.mp ha;have:=L.idx hp;have:=Zf.mp hb;lia
 ·rw[e,Ij (nh n hn)];rcases Zc.mp hn with rfl|hn
  ·lia
  ·rcases Qe.mp hn with hn|hn
   ·obtain⟨p,hp,rfl⟩:=Va.mp hn;have:=L.idx hp;lia
   ·rw[Zf.mp hn];lia
def rN(ps ts:S8 Bd):Nat:=(rl (ps.length+1) (qf (num ps ts)) (qf (bk (num ps ts))) (ps.length+1)).length
def fw(ps ts:S8 Bd):Int:=(((ps.length+1:Nat):Int)-rN ps ts) / 2
theorem qL:∀ys:S8 Int,nT (ys.map D.int)=some ys
 |[]=>rfl
 | y::r=>by
  show(nT (r.map D.int)).bind (λys=>some (y::ys))=_;rw[qL r];rfl
def Kz(h:ys≠[]):xI false [IL ys]=some (.int (kR false ys),false):=by
 show(nT (ys.map D.int)).bind (λys=>if ys=[] then none else some (D.int (kR false ys),false))=_;rw[qL,Wa,Ah h]
def KB(L:Ll ps ts):eY [LD ps,LD ts]=some (.non,false):=by
 have e:=Ii L.nm L.nd L.pm (by have:=L.few;lia)
 have ne:num ps ts≠[]:=by unfold num;simp
 have b:=G7 (mx:=false) ne;have b0:=nh _ b.1;refine aP (o:=.nx [.v (LD ps),.v (LD ts)]) rfl (fI (aH (ar (bO (ap (aR rfl rfl e) rfl) rfl (Kz ne)) rfl rfl rfl rfl) (c:=false) ?_) rfl) rfl;show some (decide (kR false (num ps ts)<0))=_;rw[Ad (by lia)]
def om(L:Ll ps ts):bV [LD ps,LD ts]=some (.int (fw ps ts),false):=by
 have few:=L.few;have ll:=L.len;have e:=Ii L.nm L.nd L.pm (by lia)
 have pr:=OP (uN L) (by rw[hU];lia)
 rw[hU,show ps.length+2 - 1=ps.length+1 by lia]at pr
 refine aP (o:=.rt (.d (.int (fw ps ts))) [.v (LD ps),.v (LD ts),.v (IL (num ps ts))]) rfl ?_ rfl;refine aj (df (aR rfl rfl (KB L))) ?_;refine aj (jn (aR rfl rfl e) rfl) ?_;refine aW (ar (ar (ar (bO rfl rfl (uH _)) rfl rfl rfl rfl) (bO (ap (aR rfl rfl pr) rfl) rfl rfl) rfl rfl rfl) rfl rfl rfl (z:=(.int (fw ps ts),false)) ?_);show rA (.int (((num ps ts).length:Int)-1-((dD 40 ((rl (ps.length+1) (qf (num ps ts)) (qf (bk (num ps ts))) (ps.length+1)).map LL)).length:Nat))) (.int 2)=_;rw[(lI 40 _).length_eq,Za,hU,show((ps.length+2:Nat):Int) - 1=((ps.length+1:Nat):Int) by lia]
 exact xU ⟨by decide,by decide⟩
end
end
noncomputable section
section
variable {ps ts:S8 Bd}{ns:S8 Int}{N:Nat}
def Ru(ts:S8 Bd):Ex (ts.map fm)=(List.range ts.length).map λk:Nat=>D.tup [.int (k:Int),fm (ts.getD k default)]:=by
 unfold Ex;refine Wj λi=>?_;rw[Qk,Xb,Xb];by_cases hi:i<ts.length
 ·have e:ts.getD i default=ts[i]:=by rw[Vb,Ya hi];rfl
  rw[Zh hi,Ya hi];show some (D.tup [.int (i:Int),fm ts[i]])=some (D.tup [.int (i:Int),fm (ts.getD i default)]);rw[e]
 ·rw[Yf (by lia),Yf (by rw[Ze];lia)];rfl
def Rv(ns:S8 Int):Ex (ns.map D.int)=(List.range ns.length).map λk:Nat=>D.tup [.int (k:Int),.int (av ns k)]:=by
 unfold Ex;refine Wj λi=>?_;rw[Qk,Xb,Xb];by_cases hi:i<ns.length
 ·rw[Zh hi,oi hi];rfl
 ·rw[Yf (l:=ns) (by lia),Yf (by rw[Ze];lia)];rfl
structure Pc(ts:List Bd)(g:Nat)(Tj:List (Key×D)):Prop where
 len:Tj.length<=g
 at_:∀(j:Nat)(h:j<ts.length),j<g->br Tj (Sum.inr (bd ts[j]))=some (.int ((j:Int)+1))
def Pc.step(nm:∀p∈ts,Nm p.2)(nd:(nz ts).Nodup)(h:Pc ts g Tj)(hg:g<ts.length):Pc ts (g+1) (dE Tj (Sum.inr (bd ts[g])) (.int ((g:Int)+1))):=by
 refine⟨by have:=m7 (Tj:=Tj) (k:=(Sum.inr (bd ts[g]):Key)) (d:=.int ((g:Int)+1));have:=h.len;lia,λj hj hlt=>?_⟩
 rw[dJ];by_cases c:j=g
 ·subst c;rw[Af rfl]
 ·rw[Ah (Ih (nm _ (Wi hj)) (nm _ (Wi hg)) λz=>c (Ig nd hj hg (by rw[z])))]
  exact h.at_ j hj (by lia)
def SI(h:br Tj (Sum.inl i)=some d):gY (.dk Tj) (.int i)=some (d,false):=by
 show((some (br Tj (Sum.inl i))).bind λo=>o.bind λd=>some (d,false))=_;rw[h];rfl
def zP{Tj:S8 (Key×D)}(h:Tj.length<100000):dR (.dk Tj) (.int i) d=some (.dk (dE Tj (Sum.inl i) d)):=by
 show(if Tj.length<100000 then some (D.dk (dE Tj (Sum.inl i) d)) else none)=_;rw[Af h]
structure St(ns:List Int)(g:Nat)(Tj:List (Key×D)):Prop where
 len:Tj.length<=g
 at_:∀j,j<ns.length->j<g->br Tj (Sum.inl (av ns j))=some (.int (j:Int))
def St.step(L:Ln ns)(h:St ns g Tj)(hg:g<ns.length):St ns (g+1) (dE Tj (Sum.inl (av ns g)) (.int (g:Int))):=by
 refine⟨by have:=m7 (Tj:=Tj) (k:=(Sum.inl (av ns g):Key)) (d:=.int (g:Int));have:=h.len;lia,λj hj hlt=>?_⟩
 rw[dJ];by_cases c:j=g
 ·subst c;rw[Af rfl]
 ·rw[Ah (λz=>c (pC L hj hg (by injection z with z;rw[z])))]
  exact h.at_ j hj (by lia)
def mD(M:S8 Nat):S8 (Key×D):=M.map λk:Nat=>((Sum.inl (k:Int):Key),D.bl true)
def UP{M:S8 Nat}{k:Nat}:(Sum.inl (k:Int):Key)∈(mD M).map (·.1)↔k∈M:=by grind [mD]
def zQ(M:S8 Nat)(k:Nat):uk true (.int (k:Int)) (.dk (mD M))=some (.bl (!decide (k∈M)),false):=by
 show some (D.bl (!(br (mD M) (Sum.inl (k:Int))).isSome),false)=_;rw[Ki];congr 4;rw[A9];exact UP
def OV{M:S8 Nat}{k:Nat}(h:k∉M)(l:M.length<9000):dR (.dk (mD M)) (.int (k:Int)) (.bl true)=some (.dk (mD (M++[k]))):=by
 rw[zP (by unfold mD;rw[Za];lia),pA (λz=>h (UP.mp z))]
 unfold mD;rw[Vd];rfl
def x9(ns:S8 Int)(a:Nat):Nat:=pos ns ((av ns a).natAbs+1)-1
def uO(L:Ln ns)(ha:a+1<ns.length):(av ns a).natAbs+1<ns.length:=by
 have h1:=ol L (i:=a) (by lia)
 have h2:(av ns a).natAbs≠ns.length-1:=λz=>by
  have:=pC L (i:=a) (j:=ns.length-1) (by lia) (by lia) (by rw[wC L];lia)
  lia
 lia
def ya(L:Ln ns)(h:v+1<ns.length):1<=pos ns (v+1):=by
 obtain⟨h1,h2⟩:=eO L h;have:pos ns (v+1)≠0:=λz=>by rw[z,x6 L]at h2;simp at h2
 lia
def pE(L:Ln ns)(P:∀n∈ns,0<=n)(ha:a+1<ns.length):tw (ta (qf ns) (qf (bk ns)) (2*a))=2*x9 ns a:=by
 have hv:=uO L ha;have h0:=P _ (mt (ns:=ns) (i:=a) (by lia))
 have hp:=ya L hv;obtain⟨h1,h2⟩:=eO L hv;have h3:=P _ (mt h1);have e1:qf ns (2*a)=2*(av ns a).natAbs:=by rw[Ei];unfold rc;rw[Af h0]
 have e2:tw (2*(av ns a).natAbs)=2*(av ns a).natAbs+1:=by unfold tw;rw[Af (by lia)]
 have e3:qf (bk ns) (2*(av ns a).natAbs+1)=2*pos ns ((av ns a).natAbs+1)-1:=by
  rw[Ej,oB hv];have:sg (av ns (pos ns ((av ns a).natAbs+1))) (pos ns ((av ns a).natAbs+1))=(pos ns ((av ns a).natAbs+1):Int):=by unfold sg;rw[Ah (by lia)]
  rw[this];unfold lc;rw[Af (by lia)];lia
 unfold ta;rw[e1,e2,e3];unfold tw x9;rw[Ah (by lia)];lia
theorem zR(L:Ln ns)(P:∀n∈ns,0<=n)(hk:k+1<ns.length):∀m,wk (qf ns) (qf (bk ns)) (2*k) m=2*(wk (qf ns) (qf (bk ns)) (2*k) m / 2)
 |0=>by show 2*k=2*(2*k / 2);lia
 | m+1=>by
  have ih:=zR L P hk m;have lt:=kU (kX L) (p:=2*k) (by lia) m
  have:=pE L P (a:=wk (qf ns) (qf (bk ns)) (2*k) m / 2) (by lia)
  rw[<-ih]at this;show tw (ta _ _ _)=2*(tw (ta _ _ _) / 2);rw[this];lia
def KC(L:Ln ns)(P:∀n∈ns,0<=n)(hk:k+1<ns.length)(m:Nat):wk (qf ns) (qf (bk ns)) (2*k) (m+1) / 2=x9 ns (wk (qf ns) (qf (bk ns)) (2*k) m / 2):=by
 have ih:=zR L P hk m;have lt:=kU (kX L) (p:=2*k) (by lia) m
 have:=pE L P (a:=wk (qf ns) (qf (bk ns)) (2*k) m / 2) (by lia)
 rw[<-ih]at this;show tw (ta _ _ _) / 2=_;rw[this];lia
end
end
noncomputable section
section
variable {ns:S8 Int}{N:Nat}{a0 a1 s2 s3 s4 s7 r9:Sl}{Tj:S8 (Key×D)}
abbrev hS(ns:List Int)(Tj:List (Key×D))(a0 a1 s2 s3 s4 s7:Sl)(M:List Nat)(r9 s10:Sl):En:=[a0,a1,s2,s3,s4,.v (IL ns),.o (.dk Tj),s7,.o (.dk (mD M)),r9,s10]
def Et(L:Ln ns)(P:∀n∈ns,0<=n)(S:St ns ns.length Tj)(ha:a+1<ns.length){M:S8 Nat}(hM:a∉M)(lM:M.length<9000) :
  eK (hS ns Tj a0 a1 s2 s3 s4 s7 M r9 (.v (.int (a:Int))))=some (.nx (hS ns Tj a0 a1 s2 s3 s4 s7 (M++[a]) r9 (.v (.int (x9 ns a:Int))))):=by
 have hv:=uO L ha;have hp:=ya L hv;obtain⟨h1,h2⟩:=eO L hv;have h0:=P _ (mt (ns:=ns) (i:=a) (by lia))
 have h3:=P _ (mt h1);have lk:=S.at_ _ h1 h1;have ev:av ns (pos ns ((av ns a).natAbs+1))=av ns a+1:=by lia
 rw[ev]at lk;refine aj (put_ev rfl rfl rfl rfl rfl rfl rfl rfl (OV hM lM)) ?_;refine cy (x:=.int (x9 ns a:Int)) (ar (ar rfl (ar (ar rfl rfl rfl rfl (OB (Rg (by lia)))) rfl rfl rfl rfl) rfl rfl (SI lk)) rfl rfl rfl (z:=(.int (x9 ns a:Int),false)) ?_) rfl
 show some (D.int ((pos ns ((av ns a).natAbs+1):Int)-1),false)=_;congr 3;unfold x9;lia
def Eu(L:Ln ns)(P:∀n∈ns,0<=n)(few:ns.length<=42)(S:St ns ns.length Tj)(hk:k+1<ns.length){M0:S8 Nat}(lM:M0.length<=60*k)(hM:∀x,x∈M0↔x∈(rl (ns.length-1) (qf ns) (qf (bk ns)) k).flatten)(hn:k∉M0) :
  ∃m t10,yL (aJ (aE (uk true) (aB 10) (aB 8))) eK 1000 (hS ns Tj a0 a1 s2 s3 s4 s7 M0 r9 (.v (.int (k:Int))))=some (.nx (hS ns Tj a0 a1 s2 s3 s4 s7 (M0++kW (qf ns) (qf (bk ns)) (2*k) m) r9 t10))/\(kW (qf ns) (qf (bk ns)) (2*k) m).Nodup/\wk (qf ns) (qf (bk ns)) (2*k) m / 2∈kW (qf ns) (qf (bk ns)) (2*k) m/\t10.isIo=false:=by
 have pm:=kX L;have hp:2*k<2*(ns.length-1):=by lia
 have out:∀m,wk (qf ns) (qf (bk ns)) (2*k) m / 2∉M0:=λm z=>by
  obtain⟨j,hj,r⟩:=(mn pm (by lia) _).mp ((hM _).mp z)
  have r2:Rp (qf ns) (qf (bk ns)) k (wk (qf ns) (qf (bk ns)) (2*k) m / 2):=uI (HA m);exact hn ((hM k).mpr ((mn pm (by lia) k).mpr ⟨j,hj,jW r (pq pm (by lia) r2)⟩))
 obtain⟨sf,e,m,t10,rfl,h⟩:=nQ (f:=aJ (aE (uk true) (aB 10) (aB 8))) (B:=eK)
  (λmm st=>∃m,mm+m=ns.length/\st=hS ns Tj a0 a1 s2 s3 s4 s7 (M0++kW (qf ns) (qf (bk ns)) (2*k) m) r9 (.v (.int ((wk (qf ns) (qf (bk ns)) (2*k) m / 2:Nat):Int)))/\(kW (qf ns) (qf (bk ns)) (2*k) m).Nodup)
  (λst=>∃m t10,st=hS ns Tj a0 a1 s2 s3 s4 s7 (M0++kW (qf ns) (qf (bk ns)) (2*k) m) r9 t10/\(kW (qf ns) (qf (bk ns)) (2*k) m).Nodup/\wk (qf ns) (qf (bk ns)) (2*k) m / 2∈kW (qf ns) (qf (bk ns)) (2*k) m/\t10.isIo=false)
  (by
   rintro mm st ⟨m,hm,rfl,nd⟩;have lm:=oh pm hp nd;by_cases c:wk (qf ns) (qf (bk ns)) (2*k) m / 2∈kW (qf ns) (qf (bk ns)) (2*k) m
   ·have c':wk (qf ns) (qf (bk ns)) (2*k) m / 2∈M0++kW (qf ns) (qf (bk ns)) (2*k) m:=Xg _ c;exact .inl ⟨_,aH (ar rfl rfl rfl rfl (zQ _ _)) (by show some (!decide _)=_;rw[Ae c'];rfl),m,_,rfl,nd,c,rfl⟩
   ·have c':wk (qf ns) (qf (bk ns)) (2*k) m / 2∉M0++kW (qf ns) (qf (bk ns)) (2*k) m:=λz=>(Qe.mp z).elim (out m) c;have nd':(kW (qf ns) (qf (bk ns)) (2*k) (m+1)).Nodup:=by
     rw[wx];refine Vj.mpr ⟨nd,by simp,λa ha b hb e=>c ?_⟩
     rw[Zf.mp hb]at e;exact e ▸ ha
    have lm':=oh pm hp nd';have lt:=kU pm hp m;have t:=Et (a0:=a0) (a1:=a1) (s2:=s2) (s3:=s3) (s4:=s4) (s7:=s7) (r9:=r9) L P S (a:=wk (qf ns) (qf (bk ns)) (2*k) m / 2) (by lia) c' (by rw[Qa,m6];lia)
    refine .inr ⟨_,_,mm-1,aH (ar rfl rfl rfl rfl (zQ _ _)) (by show some (!decide _)=_;rw[Ad c'];rfl),t,by lia,m+1,by lia,?_,nd'⟩
    rw[wx,<-Xf,KC L P hk])
  1000 ns.length _ (by lia) ⟨0,rfl,by rw[show wk (qf ns) (qf (bk ns)) (2*k) 0 / 2=k by show 2*k / 2=k;lia,show kW (qf ns) (qf (bk ns)) (2*k) 0=[] from rfl,Zg],by simp[kW]⟩
 exact⟨m,t10,e,h⟩
end
end
noncomputable section
section
variable {ps ts:S8 Bd}{ns:S8 Int}{Tj:S8 (Key×D)}{a0 a1 s2 s4 s7 s10:Sl}
def Ik(L:Ln ns)(P:∀n∈ns,0<=n)(few:ns.length<=42)(S:St ns ns.length Tj)(hk:k+1<ns.length){M:S8 Nat}(lM:M.length<=60*k)(hM:∀x,x∈M↔x∈(rl (ns.length-1) (qf ns) (qf (bk ns)) k).flatten)(i10:s10.isIo=false) :
  ∃M' t10,fZ (hS ns Tj a0 a1 s2 (.v (.int (k:Int))) s4 s7 M (.v (.int ((rl (ns.length-1) (qf ns) (qf (bk ns)) k).length:Int))) s10)=some (.nx (hS ns Tj a0 a1 s2 (.v (.int (k:Int))) s4 s7 M' (.v (.int ((rl (ns.length-1) (qf ns) (qf (bk ns)) (k+1)).length:Int))) t10))/\M'.length<=60*(k+1)/\(∀x,x∈M'↔x∈(rl (ns.length-1) (qf ns) (qf (bk ns)) (k+1)).flatten)/\t10.isIo=false:=by
 have pm:=kX L;by_cases c:k∈M
 ·have er:rl (ns.length-1) (qf ns) (qf (bk ns)) (k+1)=rl (ns.length-1) (qf ns) (qf (bk ns)) k:=by
   conv=>lhs;unfold rl
   rw[Af ((hM k).mp c)]
  rw[er];exact⟨M,s10,fI (aH (ar rfl rfl rfl rfl (zQ _ _)) (by show some (!decide _)=_;rw[Ae c];rfl)) rfl,by lia,hM,i10⟩
 ·have er:rl (ns.length-1) (qf ns) (qf (bk ns)) (k+1)=rl (ns.length-1) (qf ns) (qf (bk ns)) k++[cls (ns.length-1) (qf ns) (qf (bk ns)) k]:=by
   conv=>lhs;unfold rl
   rw[Ah λz=>c ((hM k).mpr z)]
  rw[er];have hp:2*k<2*(ns.length-1):=by lia
  obtain⟨m,t10,e,nd,hm,j10⟩:=Eu (a0:=a0) (a1:=a1) (s3:=.v (.int (k:Int))) (s4:=s4) (s7:=s7) (r9:=.v (.int ((rl (ns.length-1) (qf ns) (qf (bk ns)) k).length+1:Int))) L P few S hk lM hM c;have mem:=HD pm hp nd hm;have lm:=oh pm hp nd;refine⟨M++kW (qf ns) (qf (bk ns)) (2*k) m,t10,?_,by rw[Qa,m6];lia,λx=>?_,j10⟩
  ·rw[Qa,Ve];refine jH (aH (ar rfl rfl rfl rfl (zQ _ _)) (by show some (!decide _)=_;rw[Ad c];rfl)) ?_
   refine aj rfl ?_;refine aj (cy rfl (fPut_ev (t:=s10) rfl i10)) ?_;exact e
  ·rw[Qe,hM,mem,B0,Qe,De,zF pm (by lia)];rfl
def pF(L:Ll ps ts):cY [LD ps,LD ts]=some (.int (fw ps ts),false):=by
 have few:=L.few;have lp:=L.len;have nm:∀p∈ts,Nm p.2:=λp h=>L.nm p (L.pm.mem_iff.mpr h);obtain⟨sf,el,pv,s3,s4,rfl,hd,i3,i4⟩:=bP (fg:=gT 2 (jB (gN 3) (jB (gN 4) xh))) (B:=jb) (λk:Nat=>D.tup [.int (k:Int),fm (ts.getD k default)]) (List.range ts.length) (λgone st=>∃Tj s3 s4,st=[.v (LD ps),.v (LD ts),.o (.dk Tj),s3,s4,.e,.e,.e,.e,.e,.e]/\Pc ts gone.length Tj/\s3.isIo=false/\s4.isIo=false)
  (by
   rintro gone t rest st ha ⟨Tj,s3,s4,rfl,hd,i3,i4⟩;obtain⟨rfl,hg⟩:=qK ha;have e0:ts.getD gone.length default=ts[gone.length]:=by rw[Vb,Ya hg];rfl
   have hl:=hd.len;refine⟨[.v (LD ps),.v (LD ts),.o (.dk Tj),.v (.int (gone.length:Int)),.v (fm ts[gone.length]),.e,.e,.e,.e,.e,.e],_,by rw[e0];exact SH (t:=s3) (u:=s4) rfl i3 rfl rfl i4 rfl,?_,dE Tj (Sum.inr (bd ts[gone.length])) (.int ((gone.length:Int)+1)),.v (.int (gone.length:Int)),.v (fm ts[gone.length]),rfl,by rw[Qa];exact hd.step nm L.nd hg,rfl,rfl⟩
   exact put_ev (ar rfl rfl rfl rfl rfl) rfl rfl rfl rfl rfl rfl rfl (uM (by lia)))
  (List.range ts.length) [] [.v (LD ps),.v (LD ts),.o (.dk []),.e,.e,.e,.e,.e,.e,.e,.e] rfl ⟨[],.e,.e,rfl,⟨Xa _,λj _ h=>absurd h (AU _)⟩,rfl,rfl⟩
 rw[Ze]at hd;have ec:cF (gN 0) cT eJ 1 (ps.map fm) [.e,.o (.dk pv)]=some (ps.map λp=>D.int ((ts.idxOf p+1:Nat):Int),[.e,.o (.dk pv)]) :=
  ci (fg:=gN 0) (fc:=cT) (fe:=eJ) (k:=1) fm (λp=>D.int ((ts.idxOf p+1:Nat):Int)) [.e,.o (.dk pv)] ps λp hp=>by
   have hi:ts.idxOf p<ts.length:=L.idx hp;have a:=hd.at_ _ hi hi;rw[Bp hi]at a
   refine⟨[.v (fm p),.o (.dk pv)],[.v (fm p),.o (.dk pv)],.d (.int ((ts.idxOf p:Int)+1)),[.v (fm p),.o (.dk pv)],[.v (fm p),.o (.dk pv)],rfl,rfl,ar rfl rfl rfl rfl (z:=(.int ((ts.idxOf p:Int)+1),false)) (by
    show((some (br pv (Sum.inr (bd p)))).bind λo=>o.bind λd=>some (d,false))=_
    rw[a];rfl),by show some (D.int ((ts.idxOf p:Int)+1),_)=_;rfl,rfl⟩
 have ns_ev:(aE bF (aE bF (dY (aa (fC (.int 0)) ai)) (cG 1 [2] (kQ (aB 0)) (gN 0) cT eJ)) (dY (aa (aE bF (dM dS (aa (aB 0) ai)) (fC (.int 1))) ai))) [.v (LD ps),.v (LD ts),.o (.dk pv),s3,s4,.e,.e,.e,.e,.e,.e]=some (.f (IL (num ps ts)),[.v (LD ps),.v (LD ts),.o (.dk pv),s3,s4,.e,.e,.e,.e,.e,.e]):=by
  refine ar (ar (qE rfl rfl (by simp)) (bS (s1:=[.v (LD ps),.v (LD ts),.o (.dk pv),s3,s4,.e,.e,.e,.e,.e,.e]) (oy rfl rfl) (OR (n:=100) (by rw[Za];lia) (by decide) rfl) ec) rfl rfl (pD (by simp only[Za,Qc,Wf];lia))) (qE (ap (ar (bO rfl rfl (og ps)) rfl rfl rfl rfl) rfl) rfl (by simp)) rfl rfl (z:=(IL (num ps ts),true)) ?_
  rw[pD (by simp only[Qa,Za,Qc,Wf];lia)]
  unfold IL num;rw[Zd,Vd,Qd];rfl
 have Lnn:=uN L;have P:∀n∈num ps ts,0<=n:=nh;have nl:(num ps ts).length=ps.length+2:=hU ps ts;have fwe:fw ps ts=(((num ps ts).length:Int)-1-((rl ((num ps ts).length-1) (qf (num ps ts)) (qf (bk (num ps ts))) ((num ps ts).length-1)).length:Int)) / 2:=by
  unfold fw rN;rw[nl,show ps.length+2 - 1=ps.length+1 by lia,show((ps.length+2:Nat):Int) - 1=((ps.length+1:Nat):Int) by lia]
 rw[fwe];have fw2:(num ps ts).length<=42:=by lia
 have l2:=Lnn.two;generalize num ps ts=ns at *;obtain⟨sf,el2,sv,t3,t7,rfl,hs,i3',i7⟩:=bP (fg:=gT 2 (jB (gN 3) (jB (gN 7) xh))) (B:=jc) (λk:Nat=>D.tup [.int (k:Int),.int (av ns k)]) (List.range ns.length) (λgone st=>∃Tj s3 s7,st=[.v (LD ps),.v (LD ts),.o (.dk pv),s3,s4,.v (IL ns),.o (.dk Tj),s7,.e,.e,.e]/\St ns gone.length Tj/\s3.isIo=false/\s7.isIo=false)
  (by
   rintro gone t rest st ha ⟨Tj,s3,s7,rfl,hd,i3,i7⟩;obtain⟨rfl,hg⟩:=qK ha;have hl:=hd.len
   refine⟨[.v (LD ps),.v (LD ts),.o (.dk pv),.v (.int (gone.length:Int)),s4,.v (IL ns),.o (.dk Tj),.v (.int (av ns gone.length)),.e,.e,.e],_,SH (t:=s3) (u:=s7) rfl i3 rfl rfl i7 rfl,put_ev rfl rfl rfl rfl rfl rfl rfl rfl (zP (by lia)),dE Tj (Sum.inl (av ns gone.length)) (.int (gone.length:Int)),.v (.int (gone.length:Int)),.v (.int (av ns gone.length)),rfl,by rw[Qa];exact hd.step Lnn hg,rfl,rfl⟩)
  (List.range ns.length) [] [.v (LD ps),.v (LD ts),.o (.dk pv),s3,s4,.v (IL ns),.o (.dk []),.e,.e,.e,.e] rfl ⟨[],s3,.e,rfl,⟨Xa _,λj _ h=>absurd h (AU _)⟩,i3,rfl⟩
 rw[Ze]at hs;obtain⟨sf,el3,M,u3,u10,rfl,_⟩:=bP (fg:=gN 3) (B:=fZ) (λt:Nat=>D.int (t:Int)) (List.range (ns.length-1)) (λg st=>∃M s3 s10,st=hS ns sv (.v (LD ps)) (.v (LD ts)) (.o (.dk pv)) s3 s4 t7 M (.v (.int ((rl (ns.length-1) (qf ns) (qf (bk ns)) g.length).length:Int))) s10/\M.length<=60*g.length/\(∀x,x∈M↔x∈(rl (ns.length-1) (qf ns) (qf (bk ns)) g.length).flatten)/\s3.isIo=false/\s10.isIo=false)
  (by
   rintro g k r st ha ⟨M,s3,s10,rfl,lM,hM,i3,i10⟩;obtain⟨hg,hk⟩:=sW ha;have lg:g.length=k:=by rw[hg,Ze]
   rw[lg]at lM hM ⊢;obtain⟨M',t10,e,a1,a2,a3⟩:=Ik (a0:=.v (LD ps)) (a1:=.v (LD ts)) (s4:=s4) (s7:=t7) Lnn P fw2 hs (k:=k) (by lia) lM hM i10
   exact⟨_,_,fPut_ev (t:=s3) rfl i3,e,M',.v (.int (k:Int)),t10,by rw[Qa,Ve,lg],by rw[Qa,Ve,lg];exact a1,by rw[Qa,Ve,lg];exact a2,rfl,a3⟩)
  (List.range (ns.length-1)) [] (hS ns sv (.v (LD ps)) (.v (LD ts)) (.o (.dk pv)) t3 s4 t7 [] (.v (.int 0)) .e) rfl ⟨[],t3,.e,rfl,Xa _,λx=>⟨λz=>(by cases z),λz=>(by cases z)⟩,i3',rfl⟩
 rw[Ze]at el3;refine aP (o:=.rt (.d (.int ((((ns.length:Int)-1-((rl (ns.length-1) (qf ns) (qf (bk ns)) (ns.length-1)).length:Int)) / 2)))) (hS ns sv (.v (LD ps)) (.v (LD ts)) (.o (.dk pv)) u3 s4 t7 M (.v (.int ((rl (ns.length-1) (qf ns) (qf (bk ns)) (ns.length-1)).length:Int))) u10)) rfl ?_ rfl;refine aj rfl ?_;refine aj (cg (s1:=[.v (LD ps),.v (LD ts),.o (.dk []),.e,.e,.e,.e,.e,.e,.e,.e]) (by rw[<-Ru];exact GY rfl rfl rfl) el) ?_
 refine aj (jn ns_ev rfl) ?_;refine aj rfl ?_;refine aj (cg (s1:=[.v (LD ps),.v (LD ts),.o (.dk pv),s3,s4,.v (IL ns),.o (.dk []),.e,.e,.e,.e]) (by rw[<-Rv];exact GY rfl rfl rfl) el2) ?_
 refine aj rfl ?_;refine aj (s:=hS ns sv (.v (LD ps)) (.v (LD ts)) (.o (.dk pv)) t3 s4 t7 [] (.v (.int 0)) .e) rfl ?_;refine aj (cg ?_ el3) ?_
 ·have h:=gX (fa:=aa (aE jE (dM dS (aa (aB 5) ai)) (fC (.int 1))) ai) (st:=hS ns sv (.v (LD ps)) (.v (LD ts)) (.o (.dk pv)) t3 s4 t7 [] (.v (.int 0)) .e) (j:=((ns.length - 1:Nat):Int)) (ap (ar (bO rfl rfl (uH ns)) rfl rfl rfl (z:=(.int ((ns.length - 1:Nat):Int),false)) (by show some (D.int ((ns.length:Int) - 1),false)=_;rw[show(ns.length:Int) - 1=((ns.length - 1:Nat):Int) by lia])) rfl) rfl ⟨by lia,by lia⟩
  rw[h,show((ns.length - 1:Nat):Int).toNat=ns.length - 1 by lia,L7]
  congr 1;unfold HY;rw[Qd];rfl
 ·exact aW (ar (ar (ar (bO rfl rfl (uH ns)) rfl rfl rfl rfl) rfl rfl rfl rfl) rfl rfl rfl (xU ⟨by decide,by decide⟩))
end
end
noncomputable section
def jj:S8 Nat->S8 (Nat×Nat)|x::y::r=>(x,y-1)::jj (y::r)|_=>[]
theorem qM:∀(l:S8 Nat)(x y:Nat)(m:S8 Nat)(p:Nat×Nat),p∈jj ((l++[x])++(y::m))↔p∈jj (l++[x])\/p=(x,y-1)\/p∈jj (y::m)
 | [],x,y,m,p=>by
  show p∈(x,y-1)::jj (y::m)↔p∈jj [x]\/_;rw[Zc];exact⟨λz=>.inr z,λz=>z.elim (λz=>by cases z) id⟩
 | [z],x,y,m,p=>by
  show p∈(z,x-1)::jj ([x]++(y::m))↔p∈(z,x-1)::jj [x]\/_;have ih:=qM [] x y m p;rw[Zc,Zc,or_assoc];exact or_congr Iff.rfl ih
 | z::w::l,x,y,m,p=>by
  show p∈(z,w-1)::jj ((w::l++[x])++(y::m))↔p∈(z,w-1)::jj (w::l++[x])\/_;have ih:=qM (w::l) x y m p;rw[Zc,Zc,or_assoc];exact or_congr Iff.rfl ih
theorem prs_at:∀(l:S8 Nat)(a b:Nat),(a,b)∈jj l↔∃i,i+1<l.length/\a=l.getD i 0/\b=l.getD (i+1) 0-1
 |[],a,b=>⟨λz=>(by cases z),λ⟨i,h,_⟩=>absurd h (AU _)⟩
 |[x],a,b=>⟨λz=>(by cases z),λ⟨i,h,_⟩=>by simp at h⟩
 | x::y::r,a,b=>by
  have ih:=prs_at (y::r) a b;show(a,b)∈(x,y-1)::jj (y::r)↔_;rw[Zc,ih];constructor
  ·rintro(z|⟨i,h1,h2,h3⟩)
   ·cases z;exact⟨0,by simp,rfl,rfl⟩
   ·exact⟨i+1,by simpa using h1,h2,h3⟩
  ·rintro⟨i,h1,h2,h3⟩;cases i with|zero=>left;rw[h2,h3];rfl|succ i=>exact .inr ⟨i,by simpa using h1,h2,h3⟩
section
variable {ns:S8 Int}{N:Nat}
abbrev nv(ns:List Int)(k:Nat):Nat:=(av ns k).natAbs
def uP(ns:S8 Int)(hk:k<ns.length):(ns.map Int.natAbs).getD k 0=nv ns k:=by
 rw[Vb,Xb,oi hk];rfl
abbrev Er(ns:List Int):List (Nat×Nat):=jj (ns.map Int.natAbs)
def Ux:(a,b)∈Er ns↔∃i,i+1<ns.length/\a=nv ns i/\b=nv ns (i+1)-1:=by
 rw[prs_at,Za];constructor
 ·rintro⟨i,h1,h2,h3⟩;rw[uP ns (by lia)]at h2
  rw[uP ns h1]at h3;exact⟨i,h1,h2,h3⟩
 ·rintro⟨i,h1,h2,h3⟩;exact⟨i,h1,by rw[uP ns (by lia)];exact h2,by rw[uP ns h1];exact h3⟩
def Ma(L:Ln ns):Ev (ns.length-1) (Rp (qf ns) (qf (bk ns))):=⟨λk _=>uJ k,λhi _ r=>pq (kX L) hi r,λ_ _ _ a b=>jW a b⟩
def uQ(L:Ln ns)(hv:v<ns.length-1):pos ns v<ns.length-1:=by
 obtain⟨h1,h2⟩:=eO L (j:=v) (by lia)
 have:pos ns v≠ns.length-1:=λz=>by
  rw[z,wC L]at h2;lia
 lia
def wF(L:Ln ns)(hk:k<ns.length-1):nv ns k<ns.length-1:=by
 have:=uO L (a:=k) (by lia)
 show(av ns k).natAbs<_;lia
def pG(L:Ln ns)(hk:k+1<ns.length):1<=nv ns (k+1)/\nv ns (k+1)<ns.length:=by
 have h1:=Ib L hk;have h2:=ol L hk;show 1<=(av ns (k+1)).natAbs/\(av ns (k+1)).natAbs<_;lia
def OW(L:Ln ns)(P:∀n∈ns,0<=n)(ha:a<ns.length-1):Rp (qf ns) (qf (bk ns)) a (x9 ns a):=by
 have:=Cn.tw (Cn.ta (Cn.refl (q:=qf ns) (q':=qf (bk ns)) (a:=2*a)));rw[pE L P (by lia)]at this
 exact this
def KD(L:Ln ns)(hi:i+1<ns.length):x9 ns (pos ns (nv ns (i+1)-1))=i:=by
 have h:=pG L hi;obtain⟨_,h2⟩:=eO L (j:=nv ns (i+1)-1) (by lia)
 unfold x9;rw[h2,show nv ns (i+1) - 1+1=nv ns (i+1) by lia,mv L hi];lia
theorem Rw(L:Ln ns)(P:∀n∈ns,0<=n)(r:Gn (ns.length-1) (Er ns) v w):v<ns.length-1->w<ns.length-1->Rp (qf ns) (qf (bk ns)) (pos ns v) (pos ns w):=by
 induction r with
 |refl=>intro _ _;exact uJ _
 |pair hp=>
  intro hv hw;obtain⟨i,h1,rfl,rfl⟩:=Ux.mp hp;have hl:=uQ L hw;have:=OW L P hl;rw[KD L h1]at this;rw[mv L (by lia)]
  exact pq (kX L) hl this
 |symm _ ih=>intro h1 h2;exact pq (kX L) (uQ L h2) (ih h2 h1)
 |trans hb _ _ ih1 ih2=>intro h1 h2;exact jW (ih1 h1 hb) (ih2 hb h2)
def KF(L:Ln ns)(P:∀n∈ns,0<=n)(ha:a+1<ns.length):ta (qf ns) (qf (bk ns)) (2*a+1)=2*pos ns (nv ns (a+1)-1):=by
 have h:=pG L ha;have h0:=P _ (mt (ns:=ns) (i:=a+1) ha);obtain⟨h1,h2⟩:=eO L (j:=nv ns (a+1)-1) (by lia)
 have h3:=P _ (mt h1);have e1:qf ns (2*a+1)=2*nv ns (a+1)-1:=by rw[Ej];unfold lc;rw[Af h0]
 have e2:tw (2*nv ns (a+1)-1)=2*(nv ns (a+1)-1):=by unfold tw;rw[Ah (by lia)];lia
 unfold ta;rw[e1,e2,Ei,oB (by lia)]
 have:sg (av ns (pos ns (nv ns (a+1)-1))) (pos ns (nv ns (a+1)-1))=(pos ns (nv ns (a+1)-1):Int):=by unfold sg;rw[Ah (by lia)]
 rw[this];unfold rc;rw[Af (by lia)];lia
def Rx(L:Ln ns)(P:∀n∈ns,0<=n)(hi:i<ns.length-1)(r:Rp (qf ns) (qf (bk ns)) i j):Gn (ns.length-1) (Er ns) (nv ns i) (nv ns j):=by
 have key:∀b,Cn (qf ns) (qf (bk ns)) (2*i) b->Gn (ns.length-1) (Er ns) (nv ns i) (nv ns (b / 2)):=by
  intro b c;induction c with
  |refl=>rw[show 2*i / 2=i by lia];exact .refl
  |tw _ ih=>rw[kK];exact ih
  |@ta b c ih=>
   have lb:=c.lt (kX L) (by lia)
   refine .trans (wF L (by lia)) ih ?_
   by_cases ev:b % 2=0
   ·obtain⟨a,rfl⟩:∃a,b=2*a:=⟨b / 2,by lia⟩
    have e:=pE L P (a:=a) (by lia)
    have e2:ta (qf ns) (qf (bk ns)) (2*a) / 2=x9 ns a:=by rw[<-kK,e];lia
    rw[e2,show 2*a / 2=a by lia]
    have hv:=uO L (a:=a) (by lia)
    have hp:=ya L hv;obtain⟨h1,h2⟩:=eO L hv;have hs:x9 ns a+1=pos ns ((av ns a).natAbs+1):=by unfold x9;lia
    refine .symm (.pair (Ux.mpr ⟨x9 ns a,by lia,rfl,?_⟩))
    show nv ns a=(av ns (x9 ns a+1)).natAbs-1;rw[hs,h2];rfl
   ·obtain⟨a,rfl⟩:∃a,b=2*a+1:=⟨b / 2,by lia⟩
    have e:=KF L P (a:=a) (by lia)
    have h:=pG L (k:=a) (by lia)
    obtain⟨h1,h2⟩:=eO L (j:=nv ns (a+1)-1) (by lia)
    rw[e,show 2*pos ns (nv ns (a+1) - 1) / 2=pos ns (nv ns (a+1) - 1) by lia,show(2*a+1) / 2=a by lia]
    refine .pair (Ux.mpr ⟨a,by lia,rfl,h2⟩)
 have:=key _ r;rwa [show 2*j / 2=j by lia]at this
def Ry(L:Ln ns)(P:∀n∈ns,0<=n):(rl (ns.length-1) (qf ns) (qf (bk ns)) (ns.length-1)).length=(dB (Gn (ns.length-1) (Er ns)) (ns.length-1)).length:=by
 rw[HE (kX L) (Xa _)];show(dB (Rp (qf ns) (qf (bk ns))) (ns.length-1)).length=_;refine Nat.le_antisymm (zG (Ma L) (HG _ _) (nv ns) (λk hk=>wF L hk) λi j hi hj r=>?_) (zG (HG _ _) (Ma L) (pos ns) (λv hv=>uQ L hv) λv w hv hw r=>?_)
 ·have:=Rw L P r (wF L hi) (wF L hj);rwa [mv L (by lia),mv L (by lia)]at this
 ·have:=Rx L P (uQ L hv) r;rwa [show nv ns (pos ns v)=v from(eO L (by lia)).2,show nv ns (pos ns w)=w from(eO L (by lia)).2]at this
def RA(L:Ln ns):∀p∈Er ns,p.1<ns.length-1/\p.2<ns.length-1:=λp hp=>by
 obtain⟨i,h1,h2,h3⟩:=Ux.mp (show(p.1,p.2)∈Er ns from hp);have:=wF L (k:=i) (by lia)
 have:=pG L h1;lia
end
end
noncomputable section
def yb(hl:l=l'++[x])(hm:m=y::m')(p:Nat×Nat):p∈jj (l++m)↔p∈jj l\/p=(x,y-1)\/p∈jj m:=by
 subst hl hm;exact qM l' x y m' p
def RC(h:l≠[]):∃l' x,l=l'++[x]:=by
 rcases Dl l with z|⟨l',x,z⟩
 ·exact absurd z h
 ·exact⟨l',x,by rw[z,Do]⟩
def RX(h:l≠[]):∃y m,l=y::m:=List.exists_cons_of_ne_nil h
def RE{A B C D E A' B' C' D' B2 C2 D2 E2:S8 Nat}{a b c d be ga de ep:Nat}(hA:A=A'++[a])(hB:B=B'++[b])(hC:C=C'++[c])(hD:D=D'++[d])(kB:B=be::B2)(kC:C=ga::C2)(kD:D=de::D2)(kE:E=ep::E2)(p:Nat×Nat) :
  p∈jj (A++(B++(C++(D++E))))↔p∈jj A\/p=(a,be-1)\/p∈jj B\/p=(b,ga-1)\/p∈jj C\/p=(c,de-1)\/p∈jj D\/p=(d,ep-1)\/p∈jj E:=by
 rw[yb hA (m:=B++(C++(D++E))) (m':=B2++(C++(D++E))) (by rw[kB];rfl),yb hB (m:=C++(D++E)) (m':=C2++(D++E)) (by rw[kC];rfl),yb hC (m:=D++E) (m':=D2++E) (by rw[kD];rfl),yb hD kE]
def four{A B D E A' B' D' B2 D2 E2:S8 Nat}{a b d be de ep:Nat}(hA:A=A'++[a])(hB:B=B'++[b])(hD:D=D'++[d])(kB:B=be::B2)(kD:D=de::D2)(kE:E=ep::E2)(p:Nat×Nat) :
  p∈jj (A++(B++(D++E)))↔p∈jj A\/p=(a,be-1)\/p∈jj B\/p=(b,de-1)\/p∈jj D\/p=(d,ep-1)\/p∈jj E:=by
 rw[yb hA (m:=B++(D++E)) (m':=B2++(D++E)) (by rw[kB];rfl),yb hB (m:=D++E) (m':=D2++E) (by rw[kD];rfl),yb hD kE]
def OX{N:Nat}{A B C D E:S8 Nat}(nA:A≠[])(nB:B≠[])(nD:D≠[])(nE:E≠[])(lt:∀x∈A++(B++(C++D)),x<N)(bd:∀p∈jj (A++(D++(C++(B++E)))),p.1<N/\p.2<N) :
  (dB (Gn N (jj (A++(D++(C++(B++E)))))) N).length<=(dB (Gn N (jj (A++(B++(C++(D++E)))))) N).length+2:=by
 obtain⟨A',a,hA⟩:=RC nA;obtain⟨B',b,hB⟩:=RC nB;obtain⟨D',d,hD⟩:=RC nD;obtain⟨be,B2,kB⟩:=RX nB;obtain⟨de,D2,kD⟩:=RX nD;obtain⟨ep,E2,kE⟩:=RX nE;have la:a<N:=lt a (by rw[hA];simp)
 have lb:b<N:=lt b (by rw[hB];simp)
 have ld:d<N:=lt d (by rw[hD];simp)
 by_cases nC:C=[]
 ·subst nC;rw[AV,AV]at *;have m2:=four hA hD hB kD kB kE;refine HI (a:=a) (b:=b) (c:=a) (d:=d) la lb la ld bd λx y hp=>?_;have F:∀p:Nat×Nat,p∈jj (A++(D++(B++E)))->Gn N ((a,b)::(a,d)::jj (A++(D++(B++E)))) p.1 p.2:=λp h=>.pair (Wb _ (Wb _ h));have ab:Gn N ((a,b)::(a,d)::jj (A++(D++(B++E)))) a b:=.pair Wc;have ad:Gn N ((a,b)::(a,d)::jj (A++(D++(B++E)))) a d:=.pair (Wb _ Wc);rcases(four hA hB hD kB kD kE (x,y)).mp hp with z|z|z|z|z|z|z
  ·exact F (x,y) ((m2 _).mpr (.inl z))
  ·cases z;exact .trans ld ad (F (d,be-1) ((m2 _).mpr (by simp)))
  ·exact F (x,y) ((m2 _).mpr (by simp[z]))
  ·cases z;exact .trans la (.symm ab) (F (a,de-1) ((m2 _).mpr (by simp)))
  ·exact F (x,y) ((m2 _).mpr (by simp[z]))
  ·cases z;exact .trans la (.symm ad) (.trans lb ab (F (b,ep-1) ((m2 _).mpr (by simp))))
  ·exact F (x,y) ((m2 _).mpr (by simp[z]))
 ·obtain⟨C',c,hC⟩:=RC nC;obtain⟨ga,C2,kC⟩:=RX nC;have lc:c<N:=lt c (by rw[hC];simp)
  have m2:=RE hA hD hC hB kD kC kB kE;refine HI (a:=a) (b:=c) (c:=b) (d:=d) la lc lb ld bd λx y hp=>?_;have F:∀p:Nat×Nat,p∈jj (A++(D++(C++(B++E))))->Gn N ((a,c)::(b,d)::jj (A++(D++(C++(B++E))))) p.1 p.2:=λp h=>.pair (Wb _ (Wb _ h));have ac:Gn N ((a,c)::(b,d)::jj (A++(D++(C++(B++E))))) a c:=.pair Wc;have bd':Gn N ((a,c)::(b,d)::jj (A++(D++(C++(B++E))))) b d:=.pair (Wb _ Wc);rcases(RE hA hB hC hD kB kC kD kE (x,y)).mp hp with z|z|z|z|z|z|z|z|z
  ·exact F (x,y) ((m2 _).mpr (.inl z))
  ·cases z;exact .trans lc ac (F (c,be-1) ((m2 _).mpr (by simp)))
  ·exact F (x,y) ((m2 _).mpr (by simp[z]))
  ·cases z;exact .trans ld bd' (F (d,ga-1) ((m2 _).mpr (by simp)))
  ·exact F (x,y) ((m2 _).mpr (by simp[z]))
  ·cases z;exact .trans la (.symm ac) (F (a,de-1) ((m2 _).mpr (by simp)))
  ·exact F (x,y) ((m2 _).mpr (by simp[z]))
  ·cases z;exact .trans lb (.symm bd') (F (b,ep-1) ((m2 _).mpr (by simp)))
  ·exact F (x,y) ((m2 _).mpr (by simp[z]))
section
variable {ps ts:S8 Bd}
def OY(ps:S8 Bd)(h1:i<=j)(h2:j<=k)(h3:k<=l):ps=ps.take i++((ps.drop i).take (j-i)++((ps.drop j).take (k-j)++((ps.drop k).take (l-k)++ps.drop l))):=by
 have s:∀(x y:Nat),x<=y->(ps.drop x).take (y-x)++ps.drop y=ps.drop x:=λx y h=>by
  have:=Dj (y-x) (ps.drop x);rwa [List.drop_drop,show x+(y-x)=y by lia]at this
 rw[s k l h3,s j k h2,s i j h1,Dj]
def yc(ps:S8 Bd):bE ps i j k l=ps.take i++((ps.drop k).take (l-k)++((ps.drop j).take (k-j)++((ps.drop i).take (j-i)++ps.drop l))):=by
 unfold bE;simp only[Xf]
def U1{A B C D E:S8 Bd}:(A++(D++(C++(B++E)))).Perm (A++(B++(C++(D++E)))):=by grind
def qN{i j k l:Nat}(L:Ll ps ts)(h1:i<j)(h2:j<=k)(h3:k<l):Ll (bE ps i j k l) ts:=by
 have e:=OY ps (Yj h1) h2 (Yj h3);have p:(bE ps i j k l).Perm ps:=by
  rw[yc];exact U1.trans (by rw[<-e])
 exact⟨λq hq=>L.nm q (p.mem_iff.mp hq),L.nd,p.trans L.pm,L.few⟩
def zS(ps ts:S8 Bd):(num ps ts).map Int.natAbs=0::(ps.map (λp=>ts.idxOf p+1)++[ps.length+1]):=by
 unfold num;rw[Zd,Vd,Qd];rfl
def Mb(L:Ll ps ts):rN ps ts=(dB (Gn (ps.length+1) (jj (0::(ps.map (λp=>ts.idxOf p+1)++[ps.length+1])))) (ps.length+1)).length:=by
 have h:=Ry (uN L) nh;unfold Er at h;rw[zS,hU,show ps.length+2 - 1=ps.length+1 by lia]at h
 exact h
def OZ{i j k l:Nat}(L:Ll ps ts)(h1:i<j)(h2:j<=k)(h3:k<l)(h4:l<=ps.length):rN (bE ps i j k l) ts<=rN ps ts+2:=by
 have L':=qN L h1 h2 h3;have hl:(bE ps i j k l).length=ps.length:=(L'.len).trans L.len.symm;have bd:=RA (uN L');unfold Er at bd;rw[zS,hU,show(bE ps i j k l).length+2 - 1=(bE ps i j k l).length+1 by lia]at bd
 rw[Mb L',Mb L];rw[hl]at bd ⊢;have e:=OY ps (Yj h1) h2 (Yj h3);have lt:∀p∈ps,ts.idxOf p+1<ps.length+1:=λp hp=>by have:=L.idx hp;have:=L.len;lia
 have ne1:(ps.drop i).take (j-i)≠[]:=λz=>by have:=congrArg List.length z;rw[Xk,Xi,Wf]at this;lia
 have ne2:(ps.drop k).take (l-k)≠[]:=λz=>by have:=congrArg List.length z;rw[Xk,Xi,Wf]at this;lia
 rw[yc]at bd ⊢;have e':0::(ps.map (λp=>ts.idxOf p+1)++[ps.length+1])=0::((ps.take i++((ps.drop i).take (j-i)++((ps.drop j).take (k-j)++((ps.drop k).take (l-k)++ps.drop l)))).map (λp=>ts.idxOf p+1)++[ps.length+1]):=by rw[<-e]
 rw[e'];have sub:∀p,p∈ps.take i++((ps.drop i).take (j-i)++((ps.drop j).take (k-j)++(ps.drop k).take (l-k)))->p∈ps:=λp hp=>by
  rw[e];simp only[Qe]at hp ⊢;rcases hp with z|z|z|z<;>simp[z]
 generalize ps.take i=A at *;generalize (ps.drop i).take (j-i)=B at *;generalize (ps.drop j).take (k-j)=C at *;generalize (ps.drop k).take (l-k)=D at *;generalize ps.drop l=E at *;have r:∀X Y Z W V:S8 Bd,0::((X++(Y++(Z++(W++V)))).map (λp=>ts.idxOf p+1)++[ps.length+1])=(0::X.map λp=>ts.idxOf p+1)++(Y.map (λp=>ts.idxOf p+1)++(Z.map (λp=>ts.idxOf p+1)++(W.map (λp=>ts.idxOf p+1)++(V.map (λp=>ts.idxOf p+1)++[ps.length+1])))):=λX Y Z W V=>by simp[Xf]
 rw[r]at bd;rw[r,r];refine OX (by simp) (by simpa using ne1) (by simpa using ne2) (by simp) (λx hx=>?_) bd
 have hx':x=0\/∃p,p∈A++(B++(C++D))/\ts.idxOf p+1=x:=by
  simp only[List.cons_append,Zc]at hx;rcases hx with z|z
  ·exact .inl z
  ·rw[<-Vd,<-Vd,<-Vd]at z;obtain⟨p,hp,e⟩:=Va.mp z;exact .inr ⟨p,hp,e⟩
 rcases hx' with rfl|⟨p,hp,rfl⟩
 ·lia
 ·exact lt p (sub p hp)
def Il(L:Ll ps ts)(h1:i<j)(h2:j<=k)(h3:k<l)(h4:l<=ps.length):fw ps ts-1<=fw (bE ps i j k l) ts:=by
 have h:=OZ L h1 h2 h3 h4;have hl:(bE ps i j k l).length=ps.length:=((qN L h1 h2 h3).len).trans L.len.symm;unfold fw;rw[hl];lia
end
end
end K50
namespace VF
open PySem L2
open Classical in
def Im(h:∀d∈ds,Pl n d)(hn:n<=39):rB (.lst ds) (.lst ds)=some (.bl true,false):=by
 have up:∀(k:Nat){m:Nat}{d:D},Pl m d->Pl (m+k) d:=λk=>by
  induction k with|zero=>intro m d h;exact h|succ k ih=>intro m d h;exact(ih h).up
 have e1:uV (.lst ds) (.lst ds)=none:=rfl;have p:Pl 40 (.lst ds):=.lst λd hd=>by
  have:=up (39-n) (h d hd);rwa [show n+(39-n)=39 by lia]at this
 unfold rB nM;rw[e1];unfold xu;rw[Af ⟨p,p⟩];simp
end VF
namespace K50
open PySem L2 VF VL VF22
def Ip{xs:S8 D}(hφ:cQ φ)(hx:xs.length<=200):∃(ys:S8 D)(φ':D),cw φ [.tup xs]=some ((.lst ys,true),φ')/\ys.Perm xs/\cQ φ':=by
 obtain⟨sf,ew,ts,φ',rfl,pm,hf⟩:=nQ (f:=aJ (aE Iw (aB 2) (dY ai))) (B:=eS (fM pW fB 3 (aa (fM pW pX 2 (aa (gW aC 0 (aa (dM dS (aa (aB 2) ai)) ai)) ai)) ai)))
  (λm s=>∃(ls ts:S8 D)(φ':D),s=[.io φ',.v (.tup xs),.o (.lst ls),.o (.lst ts)]/\cQ φ'/\(ts++ls).Perm xs/\m=ls.length)
  (λs=>∃(ts:S8 D)(φ':D),s=[.io φ',.v (.tup xs),.o (.lst []),.o (.lst ts)]/\ts.Perm xs/\cQ φ')
  (by
   rintro m s ⟨ls,ts,φ',rfl,hf,pm,rfl⟩;have hlen:ts.length+ls.length=xs.length:=by have:=pm.length_eq;rw[Qa]at this;exact this
   cases ls with
   |nil=>
    rw[Zg]at pm;exact .inl ⟨_,rfl,ts,φ',rfl,pm,hf⟩
   |cons y lr=>
    right;have hl0:(y::lr).length=lr.length+1:=rfl;obtain⟨d,φ2,e,d0,d1,f2⟩:=bT (n:=((y::lr).length:Int)) hf (by lia) (by lia)
    have hk:d.toNat<(y::lr).length:=by lia
    refine⟨_,[.io φ2,.v (.tup xs),.o (.lst ((y::lr).eraseIdx d.toNat)),.o (.lst (ts++[(y::lr)[d.toNat]]))],((y::lr).eraseIdx d.toNat).length,rfl,?_,?_,_,_,φ2,rfl,f2,?_,rfl⟩
    ·exact df (p8 rfl rfl rfl (ap (p8 rfl rfl rfl (ap (bQ rfl rfl rfl rfl rfl rfl e) rfl) rfl rfl rfl (wt d0 d1 (by lia) hk)) rfl) rfl rfl rfl (app_ev (by lia)))
    ·rw[CZ hk];lia
    ·refine List.Perm.trans ?_ pm;rw[Xf]
     exact Dq ts (lJ hk))
  300 xs.length [.io φ,.v (.tup xs),.o (.lst xs),.o (.lst [])] (by lia) ⟨xs,[],φ,rfl,hφ,List.Perm.refl _,rfl⟩
 refine⟨ts,φ',?_,pm,hf⟩;refine cJ (o:=.rt (.s 3) [.io φ',.v (.tup xs),.o (.lst []),.o (.lst ts)]) rfl ?_ rfl;refine aj rfl ?_;refine aj rfl ?_;exact aj ew rfl
noncomputable section
section
variable {ps ts:S8 Bd}
def zT{n:Nat}(hφ:cQ φ)(h0:2<=n)(h1:n<=40):∃(i j k l:Nat)(φ':D),cH φ [.str "change",.int (n:Int)]=some ((CD i j k l,false),φ')/\i<j/\j<=k/\k<l/\l<=n/\cQ φ':=by
 obtain⟨i,φ1,e1,i0,i1,f1⟩:=bT (n:=(n:Int)-1) hφ (by lia) (by lia)
 obtain⟨p,φ2,e2,p0,p1,f2⟩:=bT (n:=(n:Int)-1-i) f1 (by lia) (by lia)
 obtain⟨q,φ3,e3,q0,q1,f3⟩:=bT (n:=(n:Int)-(i+1+p)) f2 (by lia) (by lia)
 obtain⟨r,φ4,e4,r0,r1,f4⟩:=bT (n:=(n:Int)-(i+1+p+q)) f3 (by lia) (by lia)
 obtain⟨i',rfl⟩:=Yh i0;obtain⟨p',rfl⟩:=Yh p0;obtain⟨q',rfl⟩:=Yh q0;obtain⟨r',rfl⟩:=Yh r0;refine⟨i',i'+1+p',i'+1+p'+q',i'+1+p'+q'+1+r',φ4,?_,by lia,by lia,by lia,by lia,f4⟩
 refine cJ (o:=.rt (.d (CD i' (i'+1+p') (i'+1+p'+q') (i'+1+p'+q'+1+r'))) [.io φ4,.v (.str "change"),.v (.int (n:Int)),.v (.int (i':Int)),.v (.int ((i':Int)+1+p')),.v (.int ((i':Int)+1+p'+q')),.v (.int ((i':Int)+1+p'+q'+1+r'))]) rfl ?_ rfl;refine aj (fI rfl rfl) ?_;refine aj (cy (bQ rfl rfl (ap rfl rfl) rfl rfl rfl e1) rfl) ?_;refine aj (cy (ar rfl (bQ rfl rfl (ap rfl rfl) rfl rfl rfl e2) rfl rfl rfl) rfl) ?_;refine aj (cy (ar rfl (bQ rfl rfl (ap rfl rfl) rfl rfl rfl e3) rfl rfl rfl) rfl) ?_;refine aj (cy (ar rfl (bQ rfl rfl (ap rfl rfl) rfl rfl rfl e4) rfl rfl rfl) rfl) ?_;exact aW (gm rfl rfl (by show 5<=1000000;decide))
abbrev Mc(ps:List Bd)(q:Q4):List Bd:=bE ps q.1 q.2.1 q.2.2.1 q.2.2.2
def fs(ps ts:S8 Bd):S8 Q4:=(xV ps.length).filter λq=>decide (fw (Mc ps q) ts<fw ps ts)
def O0(hn:ps.length<=10):(fs ps ts).length<=800:=Ye (List.length_filter_le _ _) (wv ps.length (Qb.mpr (by lia))).2
def RF(n:Nat)(q:Q4):Dp (n+2) (cd q):=by
 refine .tup (by show 5<=1000000;decide) λd hd=>?_
 rcases Zc.mp hd with rfl|hd
 ·exact .str _ _
 ·have:∃i:Nat,d=.int i:=by
   simp only[Zc,CG,or_false]at hd;rcases hd with rfl|rfl|rfl|rfl<;>exact⟨_,rfl⟩
  obtain⟨i,rfl⟩:=this;exact .int _ _
def RG(q:Q4):Pl 3 (cd q):=by
 refine .tup λd hd=>?_;rcases Zc.mp hd with rfl|hd
 ·exact .str _ _
 ·have:∃i:Nat,d=.int i:=by
   simp only[Zc,CG,or_false]at hd;rcases hd with rfl|rfl|rfl|rfl<;>exact⟨_,rfl⟩
  obtain⟨i,rfl⟩:=this;exact .int _ _
def Me(hn:ps.length<=10):Dp 6 (.lst ((fs ps ts).map cd)):=.lst (by rw[Za];have:=O0 (ts:=ts) hn;lia) λd hd=>by
 obtain⟨q,_,rfl⟩:=Va.mp hd;exact RF 3 q
def RI(l:S8 Q4):vR (.lst (l.map cd)) (.lst (l.map cd))=some (.bl false,false):=Hu (n:=3) (λd hd=>by
 obtain⟨q,_,rfl⟩:=Va.mp hd
 exact RG q) (by decide)
def yd(hn:ps.length<=10)(h:q∈xV ps.length):q.1<q.2.1/\q.2.1<=q.2.2.1/\q.2.2.1<q.2.2.2/\q.2.2.2<=ps.length:=Kf ps.length (Qb.mpr (by lia)) q h
def S4(L:Ll ps ts)(hn:ps.length<=10)(h:q∈xV ps.length):fG [LD ps,cd q]=some (LD (Mc ps q),false)/\b9 [LD ps,cd q]=some (LD (Mc ps q),false):=by
 obtain⟨h1,h2,h3,h4⟩:=yd hn h;exact m5 (by lia) h1 h2 h3 h4
def sX(L:Ll ps ts)(hn:ps.length<=10):aX [LD ps,LD ts]=some (.lst ((fs ps ts).map cd),true):=by
 have c:=dP (k:=1) (fg:=gN 0) (fc:=jO) (fe:=jP) cd cd (λq=>decide (fw (Mc ps q) ts<fw ps ts)) [.e,.v (.fn "fewest_changes"),.v (LD ps),.v (LD ts),.v (.int (fw ps ts))] (xV ps.length) λq hq=>by
  obtain⟨h1,h2,h3,h4⟩:=yd hn hq;refine⟨[.v (cd q),.v (.fn "fewest_changes"),.v (LD ps),.v (LD ts),.v (.int (fw ps ts))],[.v (cd q),.v (.fn "fewest_changes"),.v (LD ps),.v (LD ts),.v (.int (fw ps ts))],rfl,aH (ar (wg rfl (ap (aR rfl rfl (S4 L hn hq).1) rfl) rfl (om (qN L h1 h2 h3)) rfl) rfl rfl rfl rfl) rfl,λ_=>rfl,λ_=>⟨_,_,_,rfl,rfl,rfl⟩⟩
 have cl:=(wv ps.length (Qb.mpr (by lia))).2
 have fe:n4 [LD ps,LD ts,.lst ((xV ps.length).map cd),.fn "fewest_changes"]=some (.lst ((fs ps ts).map cd),true):=by
  refine aP (o:=.rt (.f (.lst ((fs ps ts).map cd))) [.v (LD ps),.v (LD ts),.v (.lst ((xV ps.length).map cd)),.v (.fn "fewest_changes"),.v (.int (fw ps ts))]) rfl ?_ rfl;refine aj (cy (wg rfl rfl rfl (om L) rfl) rfl) ?_;exact aW (bS (gl rfl rfl) (qC (n:=1000) (by rw[Za];lia) rfl) c)
 refine aP (o:=.rt (.f (.lst ((fs ps ts).map cd))) [.v (LD ps),.v (LD ts)]) rfl (aW ?_) rfl;exact aR (ap rfl (ap rfl (ap (aR rfl rfl (xW hn)) rfl))) rfl fe
def qO(L:Ll ps ts)(hn:ps.length<=10):bw [LD ps,LD ts]=some (.lst ((fs ps ts).map cd),true):=by
 have c:=dP (k:=1) (fg:=gN 0) (fc:=cM) (fe:=cN) cd cd (λq=>decide (fw (Mc ps q) ts<fw ps ts)) [.e,.v (LD ps),.v (LD ts),.v (.int (fw ps ts-1))] (xV ps.length) λq hq=>by
  obtain⟨h1,h2,h3,h4⟩:=yd hn hq;have ge:fw ps ts-1<=fw (Mc ps q) ts:=Il L h1 h2 h3 h4;refine⟨[.v (cd q),.v (LD ps),.v (LD ts),.v (.int (fw ps ts-1))],[.v (cd q),.v (LD ps),.v (LD ts),.v (.int (fw ps ts-1))],rfl,aH (ar (bz (ap (aR rfl rfl (S4 L hn hq).2) rfl) rfl (pF (qN L h1 h2 h3)) rfl) rfl rfl rfl Oz) ?_,λ_=>rfl,λ_=>⟨_,_,_,rfl,rfl,rfl⟩⟩;show some (decide (fw (Mc ps q) ts=fw ps ts-1))=some (decide (fw (Mc ps q) ts<fw ps ts));congr 1;rw[A9];exact⟨λz=>by lia,λz=>by lia⟩
 have cl:=(wv ps.length (Qb.mpr (by lia))).2
 refine aP (o:=.rt (.f (.lst ((fs ps ts).map cd))) [.v (LD ps),.v (LD ts),.v (.int (fw ps ts-1))]) rfl ?_ rfl;refine aj (cy (ar (bz rfl rfl (pF L) rfl) rfl rfl rfl rfl) rfl) ?_;exact aW (bS (gl (aR (ap (bO rfl rfl (og ps)) rfl) rfl (ww hn)) rfl) (qC (n:=1000) (by unfold Oy;rw[Za];lia) rfl) c)
def O6:∀n,n<2->xV n=[]:=by decide
end
end
noncomputable section
def O7{fg:FG}{st s1 s2 s3:En}{r:Rs}{d:D}(h1:fe st=some (r,s1))(h2:esc r s1=some (d,s2))(h3:fg d s2=some s3):Fx fe fg st=some (.nx s3):=by
 simp only[Fx,h1,h2,h3,Wa]
def Iq(c:¬ d=0):decide (V.int d=V.int 0)=false:=Ad λz=>c (V.int.inj z)
def RJ:FS:=(ay (aU (bb bw (aa (aB 3) (aa (aB 4) ai))) 6)
  (ay (aU (bb aX (aa (aB 3) (aa (aB 4) ai))) 7)
  (ay (hZ (mL (aJ (bx (cV 6) (aa (aB 7) (aa (aB 6) ai))))) (bj (fC (.bl false))) bN)
  (ay (eS (Ph pW xw 7))
  (ay (hZ (mL (aJ (bx (cV 6) (aa (bb aX (aa (aB 4) (aa (aB 3) ai))) (aa (bb bw (aa (aB 4) (aa (aB 3) ai))) ai))))) (bj (fC (.bl false))) bN)
  (ay (hZ (kO (aJ (aE xl (aB 2) (fC (.int 9)))) (aJ (aE vR (bb aX (aa (aB 3) (aa (aB 4) ai))) (aB 6)))) (bj (fC (.bl false))) bN)
  (ay (hZ (aJ (aE xl (aB 2) (fC (.int 2)))) (bj (aE rB (aB 6) (dY ai))) bN)
  (ay (Fx (gW cH 1 (aa (fC (.str "change")) (aa (aB 2) ai))) (gT 5 (jB (gN 8) (jB (gN 9) (jB (gN 10) (jB (gN 5) (jB (gN 11) xh)))))))
  (ay (aU (bb jN (aa (aB 3) (aa (aB 9) (aa (aB 10) (aa (aB 5) (aa (aB 11) ai)))))) 12)
  (ay (aU (bx cY (aa (aB 12) (aa (aB 4) ai))) 13)
  (bj (kP (bx (cV 6) (aa (bx bV (aa (aB 12) (aa (aB 4) ai))) (aa (aB 13) ai))) (aE Pi (aB 13) (aE jE (bx cY (aa (aB 3) (aa (aB 4) ai))) (fC (.int 1))))))))))))))))
def KG{S φ:D}{ps ts:S8 Bd}{s5:Sl}(hφ:cQ φ)(L:Ll ps ts)(hn:ps.length<=10)(i5:s5.isIo=false):∃s,RJ [.v S,.o φ,.v (.int (ps.length:Int)),.v (LD ps),.v (LD ts),s5,.e,.e,.e,.e,.e,.e,.e,.e]=some (.rt (.d (.bl true)) s):=by
 have ll:=L.len;have R:Ll ts ps:=⟨λp hp=>L.nm p (L.pm.mem_iff.mpr hp),(L.pm.map (·.2)).nodup_iff.mpr L.nd,L.pm.symm,by lia⟩
 have a1:=qO L hn;have a2:=sX L hn;have b1:=qO R (by lia)
 have b2:=sX R (by lia)
 have k1:=iO (Me (ts:=ts) hn);have k2:=iO (Me (ps:=ts) (ts:=ps) (by lia))
 have hd:∀r:En->S9 (Ot),(∃s,r [.v S,.o φ,.v (.int (ps.length:Int)),.v (LD ps),.v (LD ts),s5,.o (.lst ((fs ps ts).map cd)),.o (.lst []),.e,.e,.e,.e,.e,.e]=some (.rt (.d (.bl true)) s))->True:=λ_ _=>trivial;have Tr:aU (bb bw (aa (aB 3) (aa (aB 4) ai))) 6 [.v S,.o φ,.v (.int (ps.length:Int)),.v (LD ps),.v (LD ts),s5,.e,.e,.e,.e,.e,.e,.e,.e]=some (.nx [.v S,.o φ,.v (.int (ps.length:Int)),.v (LD ps),.v (LD ts),s5,.o (.lst ((fs ps ts).map cd)),.e,.e,.e,.e,.e,.e,.e]):=jn (aR rfl rfl a1) rfl;have TR:aU (bb aX (aa (aB 3) (aa (aB 4) ai))) 7 [.v S,.o φ,.v (.int (ps.length:Int)),.v (LD ps),.v (LD ts),s5,.o (.lst ((fs ps ts).map cd)),.e,.e,.e,.e,.e,.e,.e]=some (.nx [.v S,.o φ,.v (.int (ps.length:Int)),.v (LD ps),.v (LD ts),s5,.o (.lst ((fs ps ts).map cd)),.o (.lst ((fs ps ts).map cd)),.e,.e,.e,.e,.e,.e]):=jn (aR rfl rfl a2) rfl;have st6:(hZ (kO (aJ (aE xl (aB 2) (fC (.int 9)))) (aJ (aE vR (bb aX (aa (aB 3) (aa (aB 4) ai))) (aB 6)))) (bj (fC (.bl false))) bN) [.v S,.o φ,.v (.int (ps.length:Int)),.v (LD ps),.v (LD ts),s5,.o (.lst ((fs ps ts).map cd)),.o (.lst []),.e,.e,.e,.e,.e,.e]=some (.nx [.v S,.o φ,.v (.int (ps.length:Int)),.v (LD ps),.v (LD ts),s5,.o (.lst ((fs ps ts).map cd)),.o (.lst []),.e,.e,.e,.e,.e,.e]):=by
  by_cases c:(ps.length:Int)<9
  ·exact fI (Gg (aH (ar rfl rfl rfl rfl rfl) (c:=true) (by show some (decide ((ps.length:Int)<9))=_;rw[Ae c])) (aH (ar (aR rfl rfl a2) rfl rfl rfl (RI _)) rfl)) rfl
  ·exact fI (LB (aH (ar rfl rfl rfl rfl rfl) (c:=false) (by show some (decide ((ps.length:Int)<9))=_;rw[Ad c]))) rfl
 by_cases c2:(ps.length:Int)<2
 ·have e0:fs ps ts=[]:=by unfold fs;rw[O6 ps.length (by lia)];rfl
  refine⟨[.v S,.o φ,.v (.int (ps.length:Int)),.v (LD ps),.v (LD ts),s5,.o (.lst ((fs ps ts).map cd)),.o (.lst []),.e,.e,.e,.e,.e,.e],?_⟩;refine aj Tr (aj TR ?_);refine aj (fI (p9 (aH (bz rfl rfl k1 rfl) rfl)) rfl) ?_;refine aj (df (Gz rfl rfl rfl rfl)) ?_;refine aj (fI (p9 (aH (bz (ap (aR rfl rfl b2) (ap (aR rfl rfl b1) rfl)) rfl k2 rfl) rfl)) rfl) ?_;refine aj st6 (nP (jH (aH (ar rfl rfl rfl rfl rfl) (c:=true) (by show some (decide ((ps.length:Int)<2))=_;rw[Ae c2])) ?_))
  refine aW (ar rfl (qE rfl rfl (by simp)) rfl rfl (z:=(.bl true,false)) ?_)
  rw[e0];exact Im (n:=3) (λd hd=>by cases hd) (by decide)
 ·obtain⟨i,j,k,l,φ2,eg,h1,h2,h3,h4,_⟩:=zT (n:=ps.length) hφ (by lia) (by lia)
  have ge:=Il L h1 h2 h3 h4;have L':=qN L h1 h2 h3;refine⟨[.v S,.o φ2,.v (.int (ps.length:Int)),.v (LD ps),.v (LD ts),.v (.int (k:Int)),.o (.lst ((fs ps ts).map cd)),.o (.lst []),.v (.str "change"),.v (.int (i:Int)),.v (.int (j:Int)),.v (.int (l:Int)),.v (LD (bE ps i j k l)),.v (.int (fw (bE ps i j k l) ts))],?_⟩;refine aj Tr (aj TR ?_);refine aj (fI (p9 (aH (bz rfl rfl k1 rfl) rfl)) rfl) ?_;refine aj (df (Gz rfl rfl rfl rfl)) ?_;refine aj (fI (p9 (aH (bz (ap (aR rfl rfl b2) (ap (aR rfl rfl b1) rfl)) rfl k2 rfl) rfl)) rfl) ?_;refine aj st6 (aj (fI (aH (ar rfl rfl rfl rfl rfl) (c:=false) (by show some (decide ((ps.length:Int)<2))=_;rw[Ad c2])) rfl) ?_)
  refine aj (s:=[.v S,.o φ2,.v (.int (ps.length:Int)),.v (LD ps),.v (LD ts),.v (.int (k:Int)),.o (.lst ((fs ps ts).map cd)),.o (.lst []),.v (.str "change"),.v (.int (i:Int)),.v (.int (j:Int)),.v (.int (l:Int)),.e,.e]) (O7 (bQ rfl rfl rfl rfl rfl rfl eg) rfl ?_) ?_
  ·show((((kL 5 (.v (.int (k:Int))) [.v S,.o φ2,.v (.int (ps.length:Int)),.v (LD ps),.v (LD ts),s5,.o (.lst ((fs ps ts).map cd)),.o (.lst []),.v (.str "change"),.v (.int (i:Int)),.v (.int (j:Int)),.e,.e,.e])).bind λst=>(gN 11 (.int (l:Int)) st).bind λst=>some st))=_;rw[fPut_ev (t:=s5) rfl i5];rfl
  refine aj (cy (aR rfl rfl (sR (by lia) h1 h2 h3 h4)) rfl) ?_
  refine aj (cy (bz rfl rfl (pF L') rfl) rfl) ?_;refine aW (qa (bz (ap (bz rfl rfl (om L') rfl) rfl) rfl (iO (.int _ _)) rfl) rfl (ar rfl (ar (bz rfl rfl (pF L) rfl) rfl rfl rfl rfl) rfl rfl (z:=(.bl true,false)) ?_));show some (D.bl (decide (fw (bE ps i j k l) ts ≥ fw ps ts-1)),false)=_;rw[Ae ge]
abbrev lS(S φ:D)(n:Int)(ps ts:List Bd)(s5:Sl):En:=[.v S,.o φ,.v (.int n),.v (LD ps),.v (LD ts),s5,.e,.e,.e,.e,.e,.e,.e,.e]
def ye{ps:S8 Bd}(hφ:cQ φ)(hn:ps.length<=10):∃(ts:S8 Bd)(φ':D)(s5:Sl),(hZ (aJ (aE rB (gW aC 1 (aa (fC (.int 2)) ai)) (fC (.int 0)))) (aU (dM fS (aa (gW cw 1 (aa (aB 3) ai)) ai)) 4) (hZ (aJ (aE RR (aB 2) (fC (.int 1)))) (cL (mM (aa (gW aC 1 (aa (fC (.int 4)) ai)) ai)) (gN 5) ph) bN)) (lS S φ ps.length ps ps .e)=some (.nx (lS S φ' ps.length ps ts s5))/\ts.Perm ps/\cQ φ'/\s5.isIo=false:=by
 obtain⟨d,φ1,e1,d0,d1,f1⟩:=bT (n:=2) hφ (by decide) (by decide)
 by_cases c:d=0
 ·subst c;obtain⟨ys,φ2,e2,py,f2⟩:=Ip (xs:=ps.map fm) f1 (by rw[Za];lia)
  obtain⟨ts,pt,rfl⟩:=mr py;refine⟨ts,φ2,.e,?_,pt,f2,rfl⟩;refine jH (aH (ar (bQ rfl rfl rfl rfl rfl rfl e1) rfl rfl rfl rfl) rfl) ?_;exact cy (bO (ap (bQ rfl rfl rfl rfl rfl rfl e2) rfl) rfl rfl) rfl
 ·have t0:aJ (aE rB (gW aC 1 (aa (fC (.int 2)) ai)) (fC (.int 0))) (lS S φ ps.length ps ps .e)=some (false,lS S φ1 ps.length ps ps .e):=of_b (aH (ar (bQ rfl rfl rfl rfl rfl rfl e1) rfl rfl rfl rfl) rfl) (Iq c);by_cases c2:(1:Int)<ps.length
  ·obtain⟨r,φ2,e2,r0,r1,f2⟩:=bT (n:=4) f1 (by decide) (by decide)
   obtain⟨r',rfl⟩:=Yh r0;obtain⟨sf,el,ts,φ3,s5,rfl,pt,f3,i5⟩:=bP (fg:=gN 5) (B:=ph) (λt:Nat=>D.int (0+(t:Int))) (List.range r') (λ_ st=>∃ts φ' s5,st=lS S φ' ps.length ps ts s5/\ts.Perm ps/\cQ φ'/\s5.isIo=false)
    (by
     rintro gone t rest st ha ⟨ts,φ',s5,rfl,pt,f',i5⟩;have lt:ts.length=ps.length:=pt.length_eq;obtain⟨i,j,k,l,φ4,eg,h1,h2,h3,h4,f4⟩:=zT (n:=ps.length) f' (by lia) (by lia)
     refine⟨_,lS S φ4 ps.length ps (bE ts i j k l) (.v (.int (0+(t:Int)))),fPut_ev (t:=s5) rfl i5,cy (aR (ap rfl (ap (bQ rfl rfl rfl rfl rfl rfl eg) rfl)) rfl (m5 (by lia) h1 h2 h3 (by lia)).2) rfl,_,φ4,_,rfl,?_,f4,rfl⟩
     rw[yc];refine U1.trans (List.Perm.trans ?_ pt)
     rw[<-OY ts (Yj h1) h2 (Yj h3)])
    (List.range r') [] (lS S φ2 ps.length ps ps .e) rfl ⟨ps,φ2,.e,rfl,List.Perm.refl _,f2,rfl⟩
   refine⟨ts,φ3,s5,fI t0 (jH (aH (ar rfl rfl rfl rfl rfl) (c:=true) (by show some (decide ((1:Int)<ps.length))=_;rw[Ae c2])) (cg ?_ el)),pt,f3,i5⟩
   exact gX (j:=(r':Int)) (ap (bQ rfl rfl rfl rfl rfl rfl e2) rfl) rfl ⟨by lia,by lia⟩
  ·exact⟨ps,φ1,.e,fI t0 (fI (aH (ar rfl rfl rfl rfl rfl) (c:=false) (by show some (decide ((1:Int)<ps.length))=_;rw[Ad c2])) rfl),List.Perm.refl _,f1,rfl⟩
def KH(ns:S8 Int):QZ [.fl (ns.map D.int)]=some (.bl true,false):=by
 have f0:cQ (Fl ns 0 0 1 0):=⟨ns,0,0,1,0,rfl,by decide,by decide,by decide,by decide⟩
 obtain⟨d1,φ1,e1,d10,d11,f1⟩:=bT (n:=6) f0 (by decide) (by decide)
 obtain⟨d2,φ2,e2,d20,d21,f2⟩:=bT (n:=8) f1 (by decide) (by decide)
 generalize hS:D.fl (ns.map D.int)=S;have Us:∃(n:Nat)(φ3:D),(hZ (aJ (aE rB (gW aC 1 (aa (fC (.int 8)) ai)) (fC (.int 0)))) (aU (gW aC 1 (aa (fC (.int 11)) ai)) 2) bN) [.v S,.o φ1,.v (.int d1),.e,.e,.e,.e,.e,.e,.e,.e,.e,.e,.e]=some (.nx [.v S,.o φ3,.v (.int (n:Int)),.e,.e,.e,.e,.e,.e,.e,.e,.e,.e,.e])/\n<=10/\cQ φ3:=by
  by_cases c:d2=0
  ·subst c;obtain⟨d3,φ3,e3,d30,d31,f3⟩:=bT (n:=11) f2 (by decide) (by decide)
   obtain⟨n,rfl⟩:=Yh d30;refine⟨n,φ3,?_,by lia,f3⟩
   refine jH (aH (ar (bQ rfl rfl rfl rfl rfl rfl e2) rfl rfl rfl rfl) rfl) ?_;exact cy (bQ rfl rfl rfl rfl rfl rfl e3) rfl
  ·obtain⟨n,rfl⟩:=Yh d10;refine⟨n,φ2,?_,by lia,f2⟩
   exact fI (of_b (aH (ar (bQ rfl rfl rfl rfl rfl rfl e2) rfl rfl rfl rfl) rfl) (Iq c)) rfl
 obtain⟨n,φ3,e3,hn,f3⟩:=Us;obtain⟨xs,φ4,e4,hxl,nm,nd,f4⟩:=Hr (n:=(n:Int)) f3 (by lia) (by lia)
 obtain⟨ps,φ6,e6,pl,f6⟩:=J2 f4 (by lia) nm
 have hpl:ps.length=n:=by have:=pl.length_eq;rw[Za]at this;lia
 subst hpl;have np:∀p∈ps,Nm p.2:=λp hp=>nm _ (pl.mem_iff.mp (BZ hp));obtain⟨ts,φ7,s5,e7,pt,f7,i5⟩:=ye (S:=S) (ps:=ps) f6 hn;have L:Ll ps ts:=⟨np,(pt.map (·.2)).nodup_iff.mpr (pl.nodup_iff.mpr nd),pt.symm,by have:=pt.length_eq;lia⟩
 obtain⟨s,e8⟩:=KG (S:=S) f7 L hn i5;refine aP (o:=.rt (.d (.bl true)) s) rfl ?_ rfl;refine aj (jn (aR rfl rfl (hS ▸ JZ ns)) rfl) ?_;refine aj (cy (bQ rfl rfl rfl rfl rfl rfl e1) rfl) ?_;refine aj e3 ?_;refine aj (cy (bQ rfl rfl (ap (bQ rfl rfl rfl rfl rfl rfl e4) rfl) rfl rfl rfl e6) rfl) ?_;refine aj rfl ?_;exact aj e7 e8
end
end K50
namespace K50
open PySem L2 VF VF22
local macro_rules|`(tactic| walk_at "r")=>`(tactic| repeat' first|(with_reducible first|exact MX _|refine yG ?_ ?_|exact M5|refine Lb ?_ ?_ ?_|exact MY _|refine Fu ?_ ?_|refine Fw ?_|refine Fv ?_|refine Lg ?_ ?_|exact Qo|exact UJ|refine tO ?_|refine yH ?_|refine Li ?_ ?_ ?_|refine Lh ?_|refine vF ?_|exact IY|refine Gb ?_|exact NJ|exact MZ _|refine vG ?_ ?_ ?_ ?_|refine o7 ?_ (bH _) (by decide) ?_ ?_|refine pQ ?_|refine Fs ?_|refine tQ ?_ (bH _) ?_|refine FB ?_ ?_ ?_|exact Gx|exact M4|exact Jx|exact Nf|exact DM|exact DE λ_ _=>.ty _|exact UM|refine yK ?_|exact Nx|exact DV|refine PY ?_ ?_|refine Fr ?_|refine Le ?_|exact NC|exact PV _|exact Nh|exact DL|exact JH|refine yI ?_|exact P5|refine vT ?_ ?_ ?_|exact Ng|exact DJ|refine yF ?_ ?_|exact sw|exact GP|exact Jf|refine Lf ?_ ?_ ?_|exact sx|exact Gs|exact GM|exact GO|exact Oc true|refine vA _ ?_ ?_|refine tQ ?_ (nL (bK (bH _) (bK (bH _) kj))) ?_|exact P7|refine yD ?_|refine yJ ?_|exact UN|exact yR|refine zk ?_|exact NV|refine Lq ?_ ?_ ?_|refine wc ?_|refine Lj ?_|exact GS|exact NS|refine vS ?_ ?_|refine Gr ?_ ?_|refine wf (by assumption) ?_|exact F9|refine yE ?_ ?_|exact P6|exact Je|exact No|exact M1|refine Fq ?_ ?_|exact su|refine Ge ?_|exact DP|refine v8 ?_ ?_ ?_|exact D5|refine zj ?_|exact D7 0 λ_ _=>.bl _|exact FY|refine LO ?_|refine we ?_|exact Nj|refine Lc ?_ ?_|refine GD ?_|refine o7 ?_ (nL (bK (bH _) (bK (bH _) kj))) (by decide) ?_ ?_|refine GW ?_|exact Ha|exact QX (by assumption)|refine Gf ?_|exact Ni|exact vI|exact yP|exact NE|exact FW|exact vU|exact NX|refine Fy ?_ (nL (bK (bH _) (bK (bH _) (bK (bH _) (bK (bH _) (bK (bH _) kj)))))))|walk_at "s")
local macro_rules|`(tactic| walk_at "s")=>`(tactic| first|refine vG ?_ ?_ ?_ ?_|refine o7 ?_ (bH _) (by decide) ?_ ?_|refine tQ ?_ (bH _) ?_|refine PY ?_ ?_|exact sw|exact sx|refine vA _ ?_ ?_|refine tQ ?_ (nL (bK (bH _) (bK (bH _) kj))) ?_|refine Lq ?_ ?_ ?_|refine Lj ?_|exact su|exact FY|refine o7 ?_ (nL (bK (bH _) (bK (bH _) kj))) (by decide) ?_ ?_|refine Gf ?_|exact vI|exact yP|exact FW|exact vU|refine yG ?_ ?_|refine Lb ?_ ?_ ?_|refine Fu ?_ ?_|refine Fw ?_|refine Fv ?_|refine Lg ?_ ?_|refine tO ?_|refine yH ?_|refine Li ?_ ?_ ?_|refine Lh ?_|refine vF ?_|refine Gb ?_|refine pQ ?_|refine Fs ?_|refine FB ?_ ?_ ?_|refine yK ?_|refine Fr ?_|refine Le ?_|refine yI ?_|refine vT ?_ ?_ ?_|refine yF ?_ ?_|refine Lf ?_ ?_ ?_|refine yD ?_|refine yJ ?_|refine zk ?_|refine wc ?_|refine vS ?_ ?_|refine Gr ?_ ?_|refine wf (by assumption) ?_|refine yE ?_ ?_|refine Fq ?_ ?_|refine Ge ?_|refine v8 ?_ ?_ ?_|refine zj ?_|refine LO ?_|refine we ?_|refine Lc ?_ ?_|refine GD ?_|refine GW ?_|refine Fy ?_ (nL (bK (bH _) (bK (bH _) (bK (bH _) (bK (bH _) (bK (bH _) kj)))))))
section
variable (P:Tf)(w:Th)(K:PySem.W.Frag)(mg:Str->S9 Ta)(base:Tg)
abbrev jX:=TY P w K mg base "is_turned" 1 ["bead"] (gk K fJ)
abbrev on:=TY P w K mg base "name_of" 2 ["bead"] (gk K kA)
abbrev mw:=TY P w K mg base "mirrored" 3 ["bead"] (gk K iW)
abbrev jY:=TY P w K mg base "turned_beads" 4 ["beads"] (gk K jL)
abbrev qP:=TY P w K mg base "beads_in" 1 ["thing"] (gk K lO)
abbrev qQ:=TY P w K mg base "names_in" 3 ["thing"] (gk K lQ)
abbrev jZ:=TY P w K mg base "refuse_lacks" 4 ["things"] (gk K gx)
abbrev qR:=TY P w K mg base "joint_of" 1 ["ends"] (gk K lT)
abbrev oC:=TY P w K mg base "joints_at" 1 ["joints"] (gk K gZ)
abbrev ni:=TY P w K mg base "count_free" 1 ["joints"] (gk K dA)
abbrev nk:=TY P w K mg base "part_round" 2 ["first","ours_at","theirs_at"] (gk K i9)
abbrev qS:=TY P w K mg base "parts_of" 3 ["ours","theirs"] (gk K lV)
abbrev jk:=TY P w K mg base "numbers_of" 5 ["ours","theirs"] (gk K fY)
abbrev kY:=TY P w K mg base "number_left" 1 ["number"] (gk K ij)
abbrev j0:=TY P w K mg base "number_right" 1 ["number"] (gk K gF)
abbrev j5:=TY P w K mg base "point_joints" 2 ["numbers"] (gk K cX)
abbrev kZ:=TY P w K mg base "point_rings" 4 ["numbers"] (gk K fF)
abbrev Ir:=TY P w K mg base "turn" 5 ["line","i","j"] (gk K Hk)
abbrev qT:=TY P w K mg base "change" 1 ["line","i","j","k","l"] (gk K jN)
abbrev sY:=TY P w K mg base "runs_of" 1 ["line"] (gk K kG)
abbrev j6:=TY P w K mg base "changes_from" 2 ["line"] (gk K gH)
abbrev lf:=TY P w K mg base "line_behind" 6 ["line","deed"] (gk K fG)
abbrev iD:=TY P w K mg base "refuse_changes" 6 ["ours","theirs"] (gk K eY)
abbrev fq:=TY P w K mg base "fewest_changes" 7 ["ours","theirs"] (gk K bV)
abbrev sZ:=TY P w K mg base "falling" 8 ["ours","theirs","deeds","fewest"] (gk K n4)
abbrev iE:=TY P w K mg base "firsts_changes" 9 ["ours","theirs"] (gk K aX)
abbrev my:=TY P w K mg base "_law_half" 1 ["_law_ours","_law_theirs"] (gk K cY)
abbrev lh:=TY P w K mg base "_law_changes" 1 ["_law_many"] (gk K ip)
abbrev j9:=TY P w K mg base "_law_mirrored" 1 ["_law_bead"] (gk K jQ)
abbrev nq:=TY P w K mg base "_law_turned" 2 ["_law_line_here","_law_i","_law_j"] (gk K mU)
abbrev li:=TY P w K mg base "_law_changed" 1 ["_law_line_here","_law_i","_law_j","_law_k","_law_l"] (gk K ir)
abbrev eP:=TY P w K mg base "_law_line_behind" 3 ["_law_line_here","_law_deed"] (gk K b9)
abbrev qU:=TY P w K mg base "_law_flow" 1 ["_law_script"] (gk K lY)
abbrev db:=TY P w K mg base "_law_pick" 1 ["_law_flow_here","_law_many"] (oM K aC)
abbrev gQ:=TY P w K mg base "_law_shuffled" 2 ["_law_flow_here","_law_things"] (oM K cw)
abbrev qV:=TY P w K mg base "_law_line" 3 ["_law_flow_here","_law_names_here"] (oM K ma)
abbrev ix:=TY P w K mg base "_law_letters" 2 ["_law_flow_here","_law_many"] (oM K dI)
abbrev qW:=TY P w K mg base "_law_name" 3 ["_law_flow_here","_law_stem"] (oM K me)
abbrev oD:=TY P w K mg base "_law_names" 4 ["_law_flow_here","_law_many"] (oM K jR)
abbrev jp:=TY P w K mg base "_law_good_deed" 2 ["_law_flow_here","_law_word","_law_many"] (oM K cH)
abbrev oE:=TY P w K mg base "_law_alike" 6 ["_law_found","_law_due"] (gk K (cV 6))
abbrev fQ:=TY P w K mg base "_law_first_changes" 4 ["_law_ours","_law_theirs"] (gk K bw)
end
section
variable {P:Tf}{w:Th}{K:PySem.W.Frag}{mg:Str->S9 Ta}{base:Tg}
def uR(M:Md P w K mg):gi P w K mg base "is_turned" n5 ["bead"] 0 jK:=λhr=>⟨_,(ak (aD (jm PySem.F.plainAttrs_str PySem.F.slot_str_startswith PySem.F.type_str_startswith rq (pv 0) (ag cn ae)))),by delta jK;walk_at "r"⟩
def yf(M:Md P w K mg)(c0:jX P w K mg base):gi P w K mg base "name_of" uv ["bead"] 1 nY:=λhr=>⟨_,(ak (aD (mC (iG (aq c0 hr rfl (ag (pv 0) ae))) (bD (tU (K:=K) rfl) (pv 0) (bo ah) dW) (pv 0)))),by delta nY;walk_at "r"⟩
def wG(M:Md P w K mg)(c0:jX P w K mg base)(c1:on P w K mg base):gi P w K mg base "mirrored" n6 ["bead"] 2 lL:=λhr=>⟨_,(ak (aD (mC (iG (aq c0 hr rfl (ag (pv 0) ae))) (aq c1 hr rfl (ag (pv 0) ae)) (az (aK (K:=K) rfl) cn (pv 0))))),by delta lL;walk_at "r"⟩
def oU(M:Md P w K mg)(c2:mw P w K mg base):gi P w K mg base "turned_beads" f8 ["beads"] 3 gu:=λhr=>⟨_,(ak (aD (cI (cU (K:=K) rfl rfl) rfl M.n_tuple b8 (ag (bR (cq (osc:=(ao f8)) (ON:=["beads"]) (N:=["bead"]) (k:=1) (Tl:=[]) (by decide +kernel) rfl rfl) rfl (vL (K:=K) rfl rfl rfl M.n_reversed (pv 0)) (λ_ _ _ _=>(aV 0 (by show(["bead"]:S8 Str).Nodup;decide +kernel))) (λ_ _ _ _=>cC) (λ_ _ _ _=>(aq c2 hr rfl (ag (pv 0) ae)))) ae)))),by delta gu;walk_at "r"⟩
def wH(M:Md P w K mg):gi P w K mg base "beads_in" qw ["thing","beads","part"] 0 lN:=λhr=>⟨_,(af (aN 1 Ua.nd (cK ae))
   (af (cc Ak rfl (bY (K:=K) rfl (pv 0)) (aV 2 Ua.nd) (ak (bZ (iG (ax (bp (K:=K) rfl) rfl M.n_isinstance boot_isinstance (ag (pv 2) (ag (iB rfl M.n_str nK) ae)))) (ak (dL (jm PySem.F.plainAttrs_list PySem.F.slot_list_append PySem.F.type_list_append iA (pv 1) (ag (pv 2) ae)))) (ak (dL (jm PySem.F.plainAttrs_list PySem.F.slot_list_extend PySem.F.type_list_extend (iN (K:=K) rfl rfl) (pv 1) (ag (bA (aI (K:=K) rfl) (pv 2) ah (λ_ _=>rfl)) ae)))))))
   (ak (aD (pv 1))))),by delta lN;delta iX;walk_at "r"⟩
def wI(M:Md P w K mg)(c1:on P w K mg base)(c4:qP P w K mg base):gi P w K mg base "names_in" mV ["thing"] 2 lP:=λhr=>⟨_,(ak (aD (ax (tV (K:=K) rfl rfl hr) rfl M.n_sorted boot_sorted (ag (bR (cq (osc:=(ao mV)) (ON:=["thing"]) (N:=["bead"]) (k:=1) (Tl:=[]) (by decide +kernel) rfl rfl) rfl (bY (K:=K) rfl (aq c4 hr rfl (ag (pv 0) ae))) (λ_ _ _ _=>(aV 0 (by show(["bead"]:S8 Str).Nodup;decide +kernel))) (λ_ _ _ _=>cC) (λ_ _ _ _=>(aq c1 hr rfl (ag (pv 0) ae)))) ae)))),by delta lP;delta fV;walk_at "r"⟩
def oV(M:Md P w K mg)(c5:qQ P w K mg base):gi P w K mg base "refuse_lacks" f9 ["things","count","thing","name","lacked"] 3 gw:=λhr=>⟨_,(af (aN 1 TH.nd jy)
   (af (cc Ak rfl (bY (K:=K) rfl (pv 0)) (aV 2 TH.nd) (ak (cc Ak rfl (bY (K:=K) rfl (aq c5 hr rfl (ag (pv 2) ae))) (aV 3 TH.nd) (ak (cA (az (aK (K:=K) rfl) (E8 (cE hr) (pv 1) (pv 3) ah ⟨rfl,rfl,rfl,rfl⟩) ah) (cR (pv 1) (pv 3) (cr (cE hr))))))))
   (af (MU 4 (cq (osc:=(ao f9)) (ON:=["things","count","thing","name","lacked"]) (N:=["name","count","things"]) (k:=1) (Tl:=[1,0]) (by decide +kernel) rfl rfl) rfl TH.nd (bY (K:=K) rfl (ax (wa (K:=K) rfl rfl hr) rfl M.n_sorted boot_sorted (ag (pv 1) ae))) (λ_ _ _ _=>(aV 0 (by show(["name","count","things"]:S8 Str).Nodup;decide +kernel))) (λ_ _ _ _=>mK (aQ iM (gr (cE hr) (pv 1) (pv 0) (λ_ _=>rfl)) (ax (bc (K:=K) rfl) rfl M.n_len PySem.boot_len (ag (pv 2) ae)) (aZ _))) (λ_ _ _ _=>(pv 0)))
   (ak (bZ (zm (K:=K) rfl (pv 4)) (ak mE) bn))))),by delta gw;delta dr;delta dq;delta dm;delta dj;walk_at "r"⟩
def wJ(M:Md P w K mg):gi P w K mg base "joint_of" qx ["ends"] 0 lR:=λhr=>⟨_,(ak (aD (cI (cU (K:=K) rfl rfl) rfl M.n_tuple b8 (ag (ax (iT (K:=K) rfl hr) rfl M.n_sorted boot_sorted (ag (pv 0) ae)) ae)))),by delta lR;walk_at "r"⟩
def uS(M:Md P w K mg):gi P w K mg base "joints_at" n8 ["joints","at","joint","end"] 0 jM:=λhr=>⟨_,(af (aN 1 T3.nd mH)
   (af (cc Ak rfl (bY (K:=K) rfl (pv 0)) (aV 2 T3.nd) (ak (cc Ak rfl (bY (K:=K) rfl (pv 2)) (aV 3 T3.nd) (ak (cA (pv 2) (cR (pv 1) (pv 3) (cr (cE hr))))))))
   (ak (aD (pv 1))))),by delta jM;delta ig;delta ie;walk_at "r"⟩
def rH(M:Md P w K mg):gi P w K mg base "count_free" jf ["joints"] 0 iY:=λhr=>⟨_,(ak (aD (ax (bc (K:=K) rfl) rfl M.n_len PySem.boot_len (ag (bR (cq (osc:=(ao jf)) (ON:=["joints"]) (N:=["joint"]) (k:=1) (Tl:=[]) (by decide +kernel) rfl rfl) rfl (JI (pv 0)) (λ_ _ _ _=>(aV 0 (by show(["joint"]:S8 Str).Nodup;decide +kernel))) (λ_ _ _ _=>mK (aQ (d6 (K:=K) rfl hr.units) (ax (bc (K:=K) rfl) rfl M.n_len PySem.boot_len (ag (pv 0) ae)) ah (aZ _))) (λ_ _ _ _=>(pv 0))) ae)))),by delta iY;delta gz;delta gy;walk_at "r"⟩
def rJ(M:Md P w K mg)(c9:ni P w K mg base):gi P w K mg base "part_round" gK ["first","ours_at","theirs_at","ours","theirs","todo","joint","their","our","kind"] 1 iZ:=λhr=>⟨_,(af (aN 3 Tv.nd (G6 (cE hr) (pv 0) mB))
   (af (aN 4 Tv.nd mH)
   (af (aN 5 Tv.nd (cK (ag (pv 0) ae)))
   (af (mF Ak (zm (K:=K) rfl (pv 5)) (af (aN 6 Tv.nd (Ff PySem.F.plainAttrs_list PySem.F.slot_list_pop PySem.F.type_list_pop ML (pv 5)))
   (ak (cc Ak rfl (bY (K:=K) rfl (bR (cq (osc:=(ao gK)) (ON:=["first","ours_at","theirs_at","ours","theirs","todo","joint","their","our","kind"]) (N:=["end","theirs_at"]) (k:=1) (Tl:=[2]) (by decide +kernel) rfl rfl) rfl (bY (K:=K) rfl (pv 6)) (λ_ _ _ _=>(aV 0 (by show(["end","theirs_at"]:S8 Str).Nodup;decide +kernel))) (λ_ _ _ _=>cC) (λ_ _ _ _=>(gr (cE hr) (pv 1) (pv 0) (λ_ _=>rfl))))) (aV 7 Tv.nd) (af (cA mB (cR (pv 4) (pv 7) (cr (cE hr))))
   (ak (cc Ak rfl (bY (K:=K) rfl (bR (cq (osc:=(ao gK)) (ON:=["first","ours_at","theirs_at","ours","theirs","todo","joint","their","our","kind"]) (N:=["end","ours_at"]) (k:=1) (Tl:=[1]) (by decide +kernel) rfl rfl) rfl (bY (K:=K) rfl (pv 7)) (λ_ _ _ _=>(aV 0 (by show(["end","ours_at"]:S8 Str).Nodup;decide +kernel))) (λ_ _ _ _=>cC) (λ_ _ _ _=>(gr (cE hr) (pv 1) (pv 0) (λ_ _=>rfl))))) (aV 8 Tv.nd) (ak (bZ (aQ (kx (cE hr)) (pv 8) (pv 3) (by with_unfolding_all rfl)) (af (cA mB (cR (pv 3) (pv 8) (cr (cE hr))))
   (ak (dL (jm PySem.F.plainAttrs_list PySem.F.slot_list_append PySem.F.type_list_append iA (pv 5) (ag (pv 8) ae))))) bn)))))))))
   (af (aN 9 Tv.nd (JR (K:=K) rfl rfl M.c_KINDS (A3 (cE hr)) (hW (ag (aq c9 hr rfl (ag (pv 3) ae)) (ag (aq c9 hr rfl (ag (pv 4) ae)) ae))) (λ_ _=>rfl)))
   (ak (aD (hW (ag (pv 9) (ag (cI (cU (K:=K) rfl rfl) rfl M.n_tuple b8 (ag (ax (qp (K:=K) rfl rfl hr) rfl M.n_sorted boot_sorted (ag (pv 3) ae)) ae)) (ag (cI (cU (K:=K) rfl rfl) rfl M.n_tuple b8 (ag (ax (qp (K:=K) rfl rfl hr) rfl M.n_sorted boot_sorted (ag (pv 4) ae)) ae)) ae))))))))))),by delta iZ;delta cW;delta ee;delta d9;delta gB;delta gA;walk_at "r"⟩
def wK(M:Md P w K mg)(c8:oC P w K mg base)(c10:nk P w K mg base):gi P w K mg base "parts_of" qy ["ours","theirs","ours_at","theirs_at","parts","seen","joint","part","our"] 2 lU:=λhr=>⟨_,(af (aN 2 TD.nd (aq c8 hr rfl (ag (pv 0) ae)))
   (af (aN 3 TD.nd (aq c8 hr rfl (ag (pv 1) ae)))
   (af (aN 4 TD.nd (cK ae))
   (af (aN 5 TD.nd mH)
   (af (cc Ak rfl (bY (K:=K) rfl (pv 0)) (aV 6 TD.nd) (ak (bZ (aQ (kx (cE hr)) (pv 6) (pv 5) (by with_unfolding_all rfl)) (af (aN 7 TD.nd (aq c10 hr rfl (ag (pv 6) (ag (pv 2) (ag (pv 3) ae)))))
   (af (dL (jm PySem.F.plainAttrs_list PySem.F.slot_list_append PySem.F.type_list_append iA (pv 4) (ag (pv 7) ae)))
   (ak (cc Ak rfl (bY (K:=K) rfl (bA (aI (K:=K) rfl) (pv 7) ah (λ_ _=>rfl))) (aV 8 TD.nd) (ak (cA mB (cR (pv 5) (pv 8) (cr (cE hr))))))))) bn)))
   (ak (aD (ax (iT (K:=K) rfl hr) rfl M.n_sorted boot_sorted (ag (pv 4) ae))))))))),by delta lU;delta fX;delta fW;walk_at "r"⟩
def rK(M:Md P w K mg)(c2:mw P w K mg base)(c6:jZ P w K mg base):gi P w K mg base "numbers_of" jg ["ours","theirs","place","number","bead"] 4 ja:=λhr=>⟨_,(af (dL (aq c6 hr rfl (ag (cK (ag (pv 0) (ag (pv 1) ae))) ae)))
   (af (aN 2 TV.nd jy)
   (af (cc Ak rfl (G4 (K:=K) rfl rfl M.n_enumerate (pv 1)) (km (K:=K) (n:=2) rfl rfl (bW (aV 3 TV.nd) (bW (aV 4 TV.nd) ke))) (af (cA (pv 3) (cR (pv 2) (pv 4) (cr (cE hr))))
   (ak (cA (PD Ms (pv 3)) (cR (pv 2) (aq c2 hr rfl (ag (pv 4) ae)) (cr (cE hr)))))))
   (ak (aD (az (aK (K:=K) rfl) (az (aK (K:=K) rfl) (cK (ag ah ae)) (bR (cq (osc:=(ao jg)) (ON:=["ours","theirs","place","number","bead"]) (N:=["bead","place"]) (k:=1) (Tl:=[2]) (by decide +kernel) rfl rfl) rfl (bY (K:=K) rfl (pv 0)) (λ_ _ _ _=>(aV 0 (by show(["bead","place"]:S8 Str).Nodup;decide +kernel))) (λ_ _ _ _=>cC) (λ_ _ _ _=>(gr (cE hr) (pv 1) (pv 0) (λ_ _=>rfl))))) (cK (ag (az (aK (K:=K) rfl) (ax (bc (K:=K) rfl) rfl M.n_len PySem.boot_len (ag (pv 0) ae)) ah) ae)))))))),by delta ja;delta eG;delta gC;walk_at "r"⟩
def qX(M:Md P w K mg):gi P w K mg base "number_left" jT ["number"] 0 ii:=λhr=>⟨_,(ak (aD (hW (ag (ax va rfl M.n_abs Dh (ag (pv 0) ae)) (ag (mC (aQ yt (pv 0) ah (aZ _)) ah ah) ae))))),by delta ii;walk_at "r"⟩
def oW(M:Md P w K mg):gi P w K mg base "number_right" jh ["number"] 0 gE:=λhr=>⟨_,(ak (aD (hW (ag (ax va rfl M.n_abs Dh (ag (pv 0) ae)) (ag (mC (aQ yt (pv 0) ah (aZ _)) ah ah) ae))))),by delta gE;walk_at "r"⟩
def oX(M:Md P w K mg)(c7:qR P w K mg base)(c13:kY P w K mg base)(c14:j0 P w K mg base):gi P w K mg base "point_joints" gc ["numbers"] 1 gG:=λhr=>⟨_,(ak (aD (bR (cq (osc:=(ao gc)) (ON:=["numbers"]) (N:=["one","other"]) (k:=2) (Tl:=[]) (by decide +kernel) rfl rfl) rfl (N3 (K:=K) rfl rfl rfl rfl M.n_zip (pv 0) (bD (tU (K:=K) rfl) (pv 0) (bo ah) dW)) (λ_ _ _ _=>(km (K:=K) (n:=2) rfl rfl (bW (aV 0 (by show(["one","other"]:S8 Str).Nodup;decide +kernel)) (bW (aV 1 (by show(["one","other"]:S8 Str).Nodup;decide +kernel)) ke)))) (λ_ _ _ _=>cC) (λ_ _ _ _=>(aq c7 hr rfl (ag (hW (ag (aq c14 hr rfl (ag (pv 0) ae)) (ag (aq c13 hr rfl (ag (pv 1) ae)) ae))) ae)))))),by delta gG;delta eW;walk_at "r"⟩
def qY(M:Md P w K mg)(c11:qS P w K mg base)(c15:j5 P w K mg base):gi P w K mg base "point_rings" g9 ["numbers","ours","theirs","point_of","point","joint"] 3 ik:=λhr=>⟨_,(af (aN 1 TC.nd (aq c15 hr rfl (ag (pv 0) ae)))
   (af (aN 2 TC.nd (aq c15 hr rfl (ag (cI (xE rfl) rfl M.n_list gj (ag (GV rfl M.n_range (ag (ax (bc (K:=K) rfl) rfl M.n_len PySem.boot_len (ag (pv 0) ae)) ae)) ae)) ae)))
   (af (aN 3 TC.nd mH)
   (af (cc Ak rfl (uo (K:=K) rfl rfl M.n_enumerate (pv 1)) (km (K:=K) (n:=2) rfl rfl (bW (aV 4 TC.nd) (bW (aV 5 TC.nd) ke))) (ak (cA (pv 4) (cR (pv 3) (pv 5) (cr (cE hr))))))
   (ak (aD (ax (iT (K:=K) rfl hr) rfl M.n_sorted boot_sorted (ag (bR (cq (osc:=(ao g9)) (ON:=["numbers","ours","theirs","point_of","point","joint"]) (N:=["part","point_of"]) (k:=1) (Tl:=[3]) (by decide +kernel) rfl rfl) rfl (bY (K:=K) rfl (aq c11 hr rfl (ag (pv 1) (ag (pv 2) ae)))) (λ_ _ _ _=>(aV 0 (by show(["part","point_of"]:S8 Str).Nodup;decide +kernel))) (λ_ _ _ _=>cC) (λ_ _ _ _=>(ax (iT (K:=K) rfl hr) rfl M.n_sorted boot_sorted (ag (bR (G0 (ON:=["part","point_of"]) (N:=["joint","point_of"]) (k:=1) (Tl:=[1]) (by exact rfl) (by exact rfl) (by decide +kernel)) rfl (bY (K:=K) rfl (bA (aI (K:=K) rfl) (pv 0) ah (λ_ _=>rfl))) (λ_ _ _ _=>(aV 0 (by show(["joint","point_of"]:S8 Str).Nodup;decide +kernel))) (λ_ _ _ _=>cC) (λ_ _ _ _=>(gr (cE hr) (pv 1) (pv 0) (λ_ _=>(by exact rfl))))) ae)))) ae)))))))),by delta ik;delta dN;delta fN;delta fL;walk_at "r"⟩
def KJ(M:Md P w K mg)(c3:jY P w K mg base):gi P w K mg base "turn" Hm ["line","i","j"] 4 xM:=λhr=>⟨_,(af (bZ (tm (Gp ah (gh rO (pv 1) (gh iM (pv 2) (sI rO (ax (bc (K:=K) rfl) rfl M.n_len PySem.boot_len (ag (pv 0) ae))))))) (ak mE) bn)
   (ak (aD (az (cP (K:=K) rfl) (az (cP (K:=K) rfl) (bD (ck (K:=K) rfl) (pv 0) dW (bo (pv 1))) (aq c3 hr rfl (ag (bD (ck (K:=K) rfl) (pv 0) (bo (pv 1)) (bo (pv 2))) ae))) (bD (ck (K:=K) rfl) (pv 0) (bo (pv 2)) dW))))),by delta xM;walk_at "r"⟩
def Ew(M:Md P w K mg):gi P w K mg base "change" uw ["line","i","j","k","l"] 0 qv:=λhr=>⟨_,(af (bZ (tm (Gp ah (gh rO (pv 1) (gh iM (pv 2) (gh rO (pv 3) (gh iM (pv 4) (sI rO (ax (bc (K:=K) rfl) rfl M.n_len PySem.boot_len (ag (pv 0) ae))))))))) (ak mE) bn)
   (ak (aD (az (cP (K:=K) rfl) (az (cP (K:=K) rfl) (az (cP (K:=K) rfl) (az (cP (K:=K) rfl) (bD (ck (K:=K) rfl) (pv 0) dW (bo (pv 1))) (bD (ck (K:=K) rfl) (pv 0) (bo (pv 3)) (bo (pv 4)))) (bD (ck (K:=K) rfl) (pv 0) (bo (pv 2)) (bo (pv 3)))) (bD (ck (K:=K) rfl) (pv 0) (bo (pv 1)) (bo (pv 2)))) (bD (ck (K:=K) rfl) (pv 0) (bo (pv 4)) dW))))),by delta qv;walk_at "r"⟩
def yg(M:Md P w K mg):gi P w K mg base "runs_of" pi ["line","runs","begin"] 0 kF:=λhr=>⟨_,(af (aN 1 Ui.nd (cK ae))
   (af (cc Ak rfl (eU rfl M.n_range (ag (ax (bc (K:=K) rfl) rfl M.n_len PySem.boot_len (ag (pv 0) ae)) ae)) (aV 2 Ui.nd) (ak (dL (jm PySem.F.plainAttrs_list PySem.F.slot_list_extend PySem.F.type_list_extend (iN (K:=K) rfl rfl) (pv 1) (ag (bR (cq (osc:=(ao pi)) (ON:=["line","runs","begin"]) (N:=["end","begin"]) (k:=1) (Tl:=[2]) (by decide +kernel) rfl rfl) rfl (kf rfl M.n_range (ag (az (aK (K:=K) rfl) (pv 2) ah) (ag (az (aK (K:=K) rfl) (ax (bc (K:=K) rfl) rfl M.n_len PySem.boot_len (ag (pv 0) ae)) ah) ae))) (λ_ _ _ _=>(aV 0 (by show(["end","begin"]:S8 Str).Nodup;decide +kernel))) (λ_ _ _ _=>cC) (λ_ _ _ _=>(hW (ag (pv 1) (ag (pv 0) ae))))) ae)))))
   (ak (aD (pv 1))))),by delta kF;walk_at "r"⟩
def oY(M:Md P w K mg)(c19:sY P w K mg base):gi P w K mg base "changes_from" gf ["line","runs","found","run"] 1 eI:=λhr=>⟨_,(af (aN 1 TN.nd (aq c19 hr rfl (ag (pv 0) ae)))
   (af (aN 2 TN.nd (cK ae))
   (af (cc Ak rfl (bY (K:=K) rfl (pv 1)) (aV 3 TN.nd) (ak (dL (jm PySem.F.plainAttrs_list PySem.F.slot_list_extend PySem.F.type_list_extend (iN (K:=K) rfl rfl) (pv 2) (ag (bR (cq (osc:=(ao gf)) (ON:=["line","runs","found","run"]) (N:=["other","run"]) (k:=1) (Tl:=[3]) (by decide +kernel) rfl rfl) rfl (bY (K:=K) rfl (pv 1)) (λ_ _ _ _=>(aV 0 (by show(["other","run"]:S8 Str).Nodup;decide +kernel))) (λ_ _ _ _=>mK (aQ rO (bA (aI (K:=K) rfl) (pv 1) ah (λ_ _=>rfl)) (bA (aI (K:=K) rfl) (pv 0) ah (λ_ _=>rfl)) (aZ _))) (λ_ _ _ _=>(az (cP (K:=K) rfl) (az (cP (K:=K) rfl) (hW (ag cn ae)) (pv 1)) (pv 0)))) ae)))))
   (ak (aD (pv 2)))))),by delta eI;walk_at "r"⟩
def qZ(M:Md P w K mg)(c17:Ir P w K mg base)(c18:qT P w K mg base):gi P w K mg base "line_behind" jU ["line","deed"] 5 im:=λhr=>⟨_,(af (bZ (aQ (d6 (K:=K) rfl hr.units) (bA (aI (K:=K) rfl) (pv 1) ah (λ_ _=>rfl)) cn (aZ _)) (ak (aD (aq c17 hr rfl (ag (pv 0) (ag (bA (aI (K:=K) rfl) (pv 1) ah (λ_ _=>rfl)) (ag (bA (aI (K:=K) rfl) (pv 1) ah (λ_ _=>rfl)) ae)))))) bn)
   (ak (aD (aq c18 hr rfl (ag (pv 0) (ag (bA (aI (K:=K) rfl) (pv 1) ah (λ_ _=>rfl)) (ag (bA (aI (K:=K) rfl) (pv 1) ah (λ_ _=>rfl)) (ag (bA (aI (K:=K) rfl) (pv 1) ah (λ_ _=>rfl)) (ag (bA (aI (K:=K) rfl) (pv 1) ah (λ_ _=>rfl)) ae))))))))),by delta im;walk_at "r"⟩
def nr(M:Md P w K mg)(c12:jk P w K mg base):gi P w K mg base "refuse_changes" gL ["ours","theirs"] 5 eX:=λhr=>⟨_,(ak (bZ (aQ iM (ax (D8 (K:=K) rfl rfl) rfl M.n_min PyProof.Rows.boot_min (ag (aq c12 hr rfl (ag (pv 0) (ag (pv 1) ae))) ae)) ah (aZ _)) (ak mE) bn)),by delta eX;walk_at "r"⟩
def nF(M:Md P w K mg)(c12:jk P w K mg base)(c16:kZ P w K mg base)(c22:iD P w K mg base):gi P w K mg base "fewest_changes" gM ["ours","theirs","numbers"] 6 eZ:=λhr=>⟨_,(af (dL (aq c22 hr rfl (ag (pv 0) (ag (pv 1) ae))))
   (af (aN 2 T6.nd (aq c12 hr rfl (ag (pv 0) (ag (pv 1) ae))))
   (ak (aD (az kg (az dU (az dU (ax (bc (K:=K) rfl) rfl M.n_len PySem.boot_len (ag (pv 2) ae)) ah) (ax (bc (K:=K) rfl) rfl M.n_len PySem.boot_len (ag (aq c16 hr rfl (ag (pv 2) ae)) ae))) ah))))),by delta eZ;walk_at "r"⟩
def yh{fA:Td}(hf:mg "fewest_changes"=some (.ref fA))(hn:PySem.W.nsIn K mainGlobals "fewest_changes"=some (some (.ref fA)))(M:Md P w K mg)(c21:lf P w K mg base)(c23:fq P w K mg base):gi P w K mg base "falling" mW ["ours","theirs","deeds","fewest","here"] 7 nZ:=λhr=>⟨_,(af (aN 4 Uq.nd (zo c23 hf hr (pv 3) (ag (pv 0) (ag (pv 1) ae))))
   (ak (aD (bR (cq (osc:=(ao mW)) (ON:=["ours","theirs","deeds","fewest","here"]) (N:=["deed","fewest","ours","theirs","here"]) (k:=1) (Tl:=[3,0,1,4]) (by decide +kernel) rfl rfl) rfl (bY (K:=K) rfl (pv 2)) (λ_ _ _ _=>(aV 0 (by show(["deed","fewest","ours","theirs","here"]:S8 Str).Nodup;decide +kernel))) (λ_ _ _ _=>mK (aQ iM (zo c23 hf hr (pv 1) (ag (aq c21 hr rfl (ag (pv 2) (ag (pv 0) ae))) (ag (pv 3) ae))) (pv 4) (aZ _))) (λ_ _ _ _=>(pv 0)))))),by delta nZ;delta jP;delta jO;walk_at "r"⟩
def nG{fA:Td}(hf:mg "fewest_changes"=some (.ref fA))(hn:PySem.W.nsIn K mainGlobals "fewest_changes"=some (some (.ref fA)))(M:Md P w K mg)(c20:j6 P w K mg base)(c24:sZ P w K mg base):gi P w K mg base "firsts_changes" gO ["ours","theirs"] 8 fk:=λhr=>⟨_,(ak (aD (aq c24 hr rfl (ag (pv 0) (ag (pv 1) (ag (aq c20 hr rfl (ag (pv 0) ae)) (ag (QY rfl hf) ae))))))),by delta fk;walk_at "r"⟩
def wL(M:Md P w K mg):gi P w K mg base "_law_half" ux ["_law_ours","_law_theirs","_law_places","_law_k","_law_bead","_law_steps","_law_stands","_law_number","_law_met","_law_rings","_law_at"] 0 lW:=λhr=>⟨_,(af (aN 2 Tu.nd jy)
   (af (cc Ak rfl (uo (K:=K) rfl rfl M.n_enumerate (pv 1)) (km (K:=K) (n:=2) rfl rfl (bW (aV 3 Tu.nd) (bW (aV 4 Tu.nd) ke))) (ak (cA (az (aK (K:=K) rfl) (pv 3) ah) (cR (pv 2) (pv 4) (cr (cE hr))))))
   (af (aN 5 Tu.nd (az (aK (K:=K) rfl) (az (aK (K:=K) rfl) (cK (ag ah ae)) (bR (cq (osc:=(ao ux)) (ON:=["_law_ours","_law_theirs","_law_places","_law_k","_law_bead","_law_steps","_law_stands","_law_number","_law_met","_law_rings","_law_at"]) (N:=["_law_bead","_law_places"]) (k:=1) (Tl:=[2]) (by decide +kernel) rfl rfl) rfl (bY (K:=K) rfl (pv 0)) (λ_ _ _ _=>(aV 0 (by show(["_law_bead","_law_places"]:S8 Str).Nodup;decide +kernel))) (λ_ _ _ _=>cC) (λ_ _ _ _=>(gr (cE hr) (pv 1) (pv 0) (λ_ _=>rfl))))) (cK (ag (az (aK (K:=K) rfl) (ax (bc (K:=K) rfl) rfl M.n_len PySem.boot_len (ag (pv 0) ae)) ah) ae))))
   (af (aN 6 Tu.nd jy)
   (af (cc Ak rfl (uo (K:=K) rfl rfl M.n_enumerate (pv 5)) (km (K:=K) (n:=2) rfl rfl (bW (aV 3 Tu.nd) (bW (aV 7 Tu.nd) ke))) (ak (cA (pv 3) (cR (pv 6) (pv 7) (cr (cE hr))))))
   (af (aN 8 Tu.nd jy)
   (af (aN 9 Tu.nd ah)
   (af (cc Ak rfl (eU rfl M.n_range (ag (az dU (ax (bc (K:=K) rfl) rfl M.n_len PySem.boot_len (ag (pv 5) ae)) ah) ae)) (aV 3 Tu.nd) (ak (bZ (aQ (kx (cE hr)) (pv 3) (pv 8) (by with_unfolding_all rfl)) (af (aN 9 Tu.nd (az (aK (K:=K) rfl) (pv 9) ah))
   (af (aN 10 Tu.nd (pv 3))
   (ak (mF Ak (aQ (kx (cE hr)) (pv 10) (pv 8) (by with_unfolding_all rfl)) (af (cA mB (cR (pv 8) (pv 10) (cr (cE hr))))
   (ak (aN 10 Tu.nd (az dU (gr (cE hr) (pv 6) (az (aK (K:=K) rfl) (bA (aI (K:=K) rfl) (pv 5) (pv 10) (λ_ _=>rfl)) ah) (λ_ _=>rfl)) ah)))))))) bn)))
   (ak (aD (az kg (az dU (az dU (ax (bc (K:=K) rfl) rfl M.n_len PySem.boot_len (ag (pv 5) ae)) ah) (pv 9)) ah))))))))))),by delta lW;delta fZ;delta eK;delta jc;delta eJ;delta jb;walk_at "r"⟩
def q8(M:Md P w K mg):gi P w K mg base "_law_changes" kH ["_law_many","_law_found","_law_i","_law_j","_law_k"] 0 fH:=λhr=>⟨_,(af (aN 1 TQ.nd (cK ae))
   (af (cc Ak rfl (eU rfl M.n_range (ag (pv 0) ae)) (aV 2 TQ.nd) (ak (cc Ak rfl (kf rfl M.n_range (ag (az (aK (K:=K) rfl) (pv 2) ah) (ag (pv 0) ae))) (aV 3 TQ.nd) (ak (cc Ak rfl (kf rfl M.n_range (ag (pv 3) (ag (pv 0) ae))) (aV 4 TQ.nd) (ak (dL (jm PySem.F.plainAttrs_list PySem.F.slot_list_extend PySem.F.type_list_extend (iN (K:=K) rfl rfl) (pv 1) (ag (bR (cq (osc:=(ao kH)) (ON:=["_law_many","_law_found","_law_i","_law_j","_law_k"]) (N:=["_law_l","_law_i","_law_j","_law_k"]) (k:=1) (Tl:=[2,3,4]) (by decide +kernel) rfl rfl) rfl (kf rfl M.n_range (ag (az (aK (K:=K) rfl) (pv 4) ah) (ag (az (aK (K:=K) rfl) (pv 0) ah) ae))) (λ_ _ _ _=>(aV 0 (by show(["_law_l","_law_i","_law_j","_law_k"]:S8 Str).Nodup;decide +kernel))) (λ_ _ _ _=>cC) (λ_ _ _ _=>(hW (ag cn (ag (pv 1) (ag (pv 2) (ag (pv 3) (ag (pv 0) ae)))))))) ae)))))))))
   (ak (aD (pv 1))))),by delta fH;walk_at "r"⟩
def oZ(M:Md P w K mg):gi P w K mg base "_law_mirrored" mf ["_law_bead"] 0 gI:=λhr=>⟨_,(af (bZ (aQ (d6 (K:=K) rfl hr.units) (bA (aI (K:=K) rfl) (pv 0) ah (λ_ _=>rfl)) cn (aZ _)) (ak (aD (bD (tU (K:=K) rfl) (pv 0) (bo ah) dW))) bn)
   (ak (aD (az (aK (K:=K) rfl) cn (pv 0))))),by delta gI;walk_at "r"⟩
def rL(M:Md P w K mg)(c28:j9 P w K mg base):gi P w K mg base "_law_turned" mX ["_law_line_here","_law_i","_law_j"] 1 jd:=λhr=>⟨_,(ak (aD (az (cP (K:=K) rfl) (az (cP (K:=K) rfl) (bD (ck (K:=K) rfl) (pv 0) dW (bo (pv 1))) (cI (cU (K:=K) rfl rfl) rfl M.n_tuple b8 (ag (bR (cq (osc:=(ao mX)) (ON:=["_law_line_here","_law_i","_law_j"]) (N:=["_law_bead"]) (k:=1) (Tl:=[]) (by decide +kernel) rfl rfl) rfl (bY (K:=K) rfl (Jq (K:=K) rfl (bD (ck (K:=K) rfl) (pv 0) (bo (pv 1)) (bo (pv 2))))) (λ_ _ _ _=>(aV 0 (by show(["_law_bead"]:S8 Str).Nodup;decide +kernel))) (λ_ _ _ _=>cC) (λ_ _ _ _=>(aq c28 hr rfl (ag (pv 0) ae)))) ae))) (bD (ck (K:=K) rfl) (pv 0) (bo (pv 2)) dW)))),by delta jd;walk_at "r"⟩
def q9(M:Md P w K mg):gi P w K mg base "_law_changed" n9 ["_law_line_here","_law_i","_law_j","_law_k","_law_l","_law_ahead"] 0 iq:=λhr=>⟨_,(af (aN 5 Ul.nd (az (cP (K:=K) rfl) (bD (ck (K:=K) rfl) (pv 0) dW (bo (pv 1))) (bD (ck (K:=K) rfl) (pv 0) (bo (pv 3)) (bo (pv 4)))))
   (ak (aD (az (cP (K:=K) rfl) (az (cP (K:=K) rfl) (az (cP (K:=K) rfl) (pv 5) (bD (ck (K:=K) rfl) (pv 0) (bo (pv 2)) (bo (pv 3)))) (bD (ck (K:=K) rfl) (pv 0) (bo (pv 1)) (bo (pv 2)))) (bD (ck (K:=K) rfl) (pv 0) (bo (pv 4)) dW))))),by delta iq;walk_at "r"⟩
def mz(M:Md P w K mg)(c29:nq P w K mg base)(c30:li P w K mg base):gi P w K mg base "_law_line_behind" ji ["_law_line_here","_law_deed"] 2 eL:=λhr=>⟨_,(af (bZ (aQ (d6 (K:=K) rfl hr.units) (bA (aI (K:=K) rfl) (pv 1) ah (λ_ _=>rfl)) cn (aZ _)) (ak (aD (aq c29 hr rfl (ag (pv 0) (ag (bA (aI (K:=K) rfl) (pv 1) ah (λ_ _=>rfl)) (ag (bA (aI (K:=K) rfl) (pv 1) ah (λ_ _=>rfl)) ae)))))) bn)
   (ak (aD (aq c30 hr rfl (ag (pv 0) (ag (bA (aI (K:=K) rfl) (pv 1) ah (λ_ _=>rfl)) (ag (bA (aI (K:=K) rfl) (pv 1) ah (λ_ _=>rfl)) (ag (bA (aI (K:=K) rfl) (pv 1) ah (λ_ _=>rfl)) (ag (bA (aI (K:=K) rfl) (pv 1) ah (λ_ _=>rfl)) ae))))))))),by delta eL;walk_at "r"⟩
def wM(M:Md P w K mg):gi P w K mg base "_law_flow" xN ["_law_script"] 0 lX:=λhr=>⟨_,(ak (aD (JL (v6 (cI (p6 (K:=K) rfl rfl) rfl M.n_list gj (ag (pv 0) ae)) (v6 ah (v6 ah (v6 ah (v6 ah JK rfl) rfl) rfl) rfl) rfl)))),by delta lX;walk_at "r"⟩
def wN(M:Md P w K mg):gi P w K mg base "_law_pick" xO ["_law_flow_here","_law_many","_law_cell","_law_digit"] 0 je:=λhr=>⟨_,(af (bZ (PW.pt (EH (aQ (d6 (K:=K) rfl hr.units) (bA (aI (K:=K) rfl) (pv 0) ah (λ_ _=>rfl)) ah (aZ _)) (yl (aQ iM (bA (aI (K:=K) rfl) (pv 0) ah (λ_ _=>rfl)) (ax (bc (K:=K) rfl) rfl M.n_len PySem.boot_len (ag (bA (aI (K:=K) rfl) (pv 0) ah (λ_ _=>rfl)) ae)) (aZ _))))) (af (aN 2 Uo.nd (bA (aI (K:=K) rfl) (bA (aI (K:=K) rfl) (pv 0) ah (λ_ _=>rfl)) (bA (aI (K:=K) rfl) (pv 0) ah (λ_ _=>rfl)) (λ_ _=>rfl)))
   (af (cA (az (aK (K:=K) rfl) (bA (aI (K:=K) rfl) (pv 0) ah (λ_ _=>rfl)) ah) (cR (pv 0) ah set_list))
   (ak (bZ (aQ yt (pv 2) (az Mr ah ah) (aZ _)) (ak (cA (pv 2) (cR (pv 0) ah set_list))) (ak (cA (az ju (az (aK (K:=K) rfl) (az (aK (K:=K) rfl) (az mO (bA (aI (K:=K) rfl) (pv 0) ah (λ_ _=>rfl)) ah) (az ju (pv 2) ah)) ah) ah) (cR (pv 0) ah set_list))))))) bn)
   (af (bZ (aQ KW (bA (aI (K:=K) rfl) (pv 0) ah (λ_ _=>rfl)) ah (aZ _)) (af (aN 3 Uo.nd (az ju (bA (aI (K:=K) rfl) (pv 0) ah (λ_ _=>rfl)) (pv 1)))
   (af (cA (az kg (bA (aI (K:=K) rfl) (pv 0) ah (λ_ _=>rfl)) (pv 1)) (cR (pv 0) ah set_list))
   (ak (aD (pv 3))))) bn)
   (af (cA (az (aK (K:=K) rfl) (bA (aI (K:=K) rfl) (pv 0) ah (λ_ _=>rfl)) ah) (cR (pv 0) ah set_list))
   (af (cA (az ju (az (aK (K:=K) rfl) (az (aK (K:=K) rfl) (az mO (bA (aI (K:=K) rfl) (pv 0) ah (λ_ _=>rfl)) ah) ah) (bA (aI (K:=K) rfl) (pv 0) ah (λ_ _=>rfl))) ah) (cR (pv 0) ah set_list))
   (ak (aD (az ju (az kg (az ju (az mO (az (aK (K:=K) rfl) (az ju (bA (aI (K:=K) rfl) (pv 0) ah (λ_ _=>rfl)) ah) ah) (az (aK (K:=K) rfl) (az kg (bA (aI (K:=K) rfl) (pv 0) ah (λ_ _=>rfl)) ah) ah)) ah) ah) (pv 1)))))))),by delta je;walk_at "r"⟩
def o0(M:Md P w K mg)(c33:db P w K mg base):gi P w K mg base "_law_shuffled" mi ["_law_flow_here","_law_things","_law_left","_law_told"] 1 gJ:=λhr=>⟨_,(af (aN 2 T8.nd (cI (p6 (K:=K) rfl rfl) rfl M.n_list gj (ag (pv 1) ae)))
   (af (aN 3 T8.nd (cK ae))
   (af (mF Ak (aQ (pZ (K:=K) rfl hr.units) (pv 2) (cK ae) (aZ _)) (ak (dL (jm PySem.F.plainAttrs_list PySem.F.slot_list_append PySem.F.type_list_append iA (pv 3) (ag (jm PySem.F.plainAttrs_list PySem.F.slot_list_pop PySem.F.type_list_pop Fh (pv 2) (ag (aq c33 hr rfl (ag (pv 0) (ag (ax (bc (K:=K) rfl) rfl M.n_len PySem.boot_len (ag (pv 2) ae)) ae))) ae)) ae)))))
   (ak (aD (pv 3)))))),by delta gJ;walk_at "r"⟩
def wO(M:Md P w K mg)(c33:db P w K mg base)(c34:gQ P w K mg base):gi P w K mg base "_law_line" uz ["_law_flow_here","_law_names_here"] 2 lZ:=λhr=>⟨_,(ak (aD (cI (cU (K:=K) rfl rfl) rfl M.n_tuple b8 (ag (bR (cq (osc:=(ao uz)) (ON:=["_law_flow_here","_law_names_here"]) (N:=["_law_name_here","_law_flow_here"]) (k:=1) (Tl:=[0]) (by decide +kernel) rfl rfl) rfl (bY (K:=K) rfl (aq c34 hr rfl (ag (pv 0) (ag (pv 1) ae)))) (λ_ _ _ _=>(aV 0 (by show(["_law_name_here","_law_flow_here"]:S8 Str).Nodup;decide +kernel))) (λ_ _ _ _=>cC) (λ_ _ _ _=>(az (aK (K:=K) rfl) (az mO cn (aq c33 hr rfl (ag (pv 1) (ag ah ae)))) (pv 0)))) ae)))),by delta lZ;walk_at "r"⟩
def rb(M:Md P w K mg)(c33:db P w K mg base):gi P w K mg base "_law_letters" kI ["_law_flow_here","_law_many"] 1 iu:=λhr=>⟨_,(ak (aD (jm PySem.F.plainAttrs_str PySem.F.slot_str_join PySem.F.type_str_join IS cn (ag (bR (cq (osc:=(ao kI)) (ON:=["_law_flow_here","_law_many"]) (N:=["_law_k","_law_flow_here"]) (k:=1) (Tl:=[0]) (by decide +kernel) rfl rfl) rfl (eU rfl M.n_range (ag (pv 1) ae)) (λ_ _ _ _=>(aV 0 (by show(["_law_k","_law_flow_here"]:S8 Str).Nodup;decide +kernel))) (λ_ _ _ _=>cC) (λ_ _ _ _=>(bA (aI (K:=K) rfl) cn (aq c33 hr rfl (ag (pv 1) (ag ah ae))) (λ_ _=>rfl)))) ae)))),by delta iu;walk_at "r"⟩
def wP(M:Md P w K mg)(c33:db P w K mg base)(c36:ix P w K mg base):gi P w K mg base "_law_name" xP ["_law_flow_here","_law_stem","_law_words"] 2 md:=λhr=>⟨_,(af (bZ (aQ (pZ (K:=K) rfl hr.units) (pv 1) cn (aZ _)) (ak (aD (az (aK (K:=K) rfl) (pv 1) (aq c36 hr rfl (ag (pv 0) (ag (az (aK (K:=K) rfl) ah (aq c33 hr rfl (ag (pv 0) (ag ah ae)))) ae)))))) bn)
   (@af _ _ _ _ _ (bZ (aQ (d6 (K:=K) rfl hr.units) (aq c33 hr rfl (ag (pv 0) (ag ah ae))) ah (aZ _)) (@af _ _ _ _ _ (@aN _ _ _ _ 2 _ _ Up.nd (@cK _ _ _ _ (@tM _ _ _ (by rfl))) (by rfl) (by first|exact Or.inl rfl|exact Or.inr rfl) (by first|exact .inl rfl|exact .inr rfl) (by rfl) (by rfl) (by rfl))
   (af (aN 2 Up.nd (az (aK (K:=K) rfl) (pv 2) (@cK _ _ _ _ (@tM _ _ _ (by rfl)))))
   (ak (aD (bA (aI (K:=K) rfl) (pv 2) (aq c33 hr rfl (ag (pv 0) (ag ah ae))) (λ_ _=>rfl)))))) bn)
   (ak (aD (aq c36 hr rfl (ag (pv 0) (ag (az (aK (K:=K) rfl) ah (aq c33 hr rfl (ag (pv 0) (ag ah ae)))) ae))))))),by delta md;walk_at "r"⟩
def uT(M:Md P w K mg)(c33:db P w K mg base)(c36:ix P w K mg base)(c37:qW P w K mg base):gi P w K mg base "_law_names" uA ["_law_flow_here","_law_many","_law_stem","_law_names_here","_law_k","_law_name_here","_law_spare"] 3 g6:=λhr=>⟨_,(af (aN 2 TF.nd cn)
   (af (bZ (aQ (d6 (K:=K) rfl hr.units) (aq c33 hr rfl (ag (pv 0) (ag ah ae))) ah (aZ _)) (ak (aN 2 TF.nd (aq c36 hr rfl (ag (pv 0) (ag (az (aK (K:=K) rfl) ah (aq c33 hr rfl (ag (pv 0) (ag ah ae)))) ae))))) bn)
   (af (aN 3 TF.nd (cK ae))
   (af (cc Ak rfl (eU rfl M.n_range (ag (pv 1) ae)) (aV 4 TF.nd) (af (aN 5 TF.nd (aq c37 hr rfl (ag (pv 0) (ag (pv 2) ae))))
   (af (aN 6 TF.nd ah)
   (af (mF Ak (aQ (ND (K:=K) rfl) (pv 5) (pv 3) (by with_unfolding_all rfl)) (af (aN 5 TF.nd (az mO (bA (aI (K:=K) rfl) cn (az ju (pv 6) ah) (λ_ _=>rfl)) (az (aK (K:=K) rfl) ah (az kg (pv 6) ah))))
   (ak (aN 6 TF.nd (az (aK (K:=K) rfl) (pv 6) ah)))))
   (ak (dL (jm PySem.F.plainAttrs_list PySem.F.slot_list_append PySem.F.type_list_append iA (pv 3) (ag (pv 5) ae))))))))
   (ak (aD (pv 3))))))),by delta g6;walk_at "r"⟩
def oq(M:Md P w K mg)(c33:db P w K mg base):gi P w K mg base "_law_good_deed" mj ["_law_flow_here","_law_word","_law_many","_law_i","_law_j","_law_k","_law_l"] 1 fO:=λhr=>⟨_,(af (bZ (aQ (d6 (K:=K) rfl hr.units) (pv 1) cn (aZ _)) (af (aN 3 TJ.nd (aq c33 hr rfl (ag (pv 0) (ag (pv 2) ae))))
   (ak (aD (hW (ag cn (ag (pv 3) (ag (az (aK (K:=K) rfl) (az (aK (K:=K) rfl) (pv 3) ah) (aq c33 hr rfl (ag (pv 0) (ag (az dU (pv 2) (pv 3)) ae)))) ae))))))) bn)
   (af (aN 3 TJ.nd (aq c33 hr rfl (ag (pv 0) (ag (az dU (pv 2) ah) ae))))
   (af (aN 4 TJ.nd (az (aK (K:=K) rfl) (az (aK (K:=K) rfl) (pv 3) ah) (aq c33 hr rfl (ag (pv 0) (ag (az dU (az dU (pv 2) ah) (pv 3)) ae)))))
   (af (aN 5 TJ.nd (az (aK (K:=K) rfl) (pv 4) (aq c33 hr rfl (ag (pv 0) (ag (az dU (pv 2) (pv 4)) ae)))))
   (af (aN 6 TJ.nd (az (aK (K:=K) rfl) (az (aK (K:=K) rfl) (pv 5) ah) (aq c33 hr rfl (ag (pv 0) (ag (az dU (pv 2) (pv 5)) ae)))))
   (ak (aD (hW (ag cn (ag (pv 3) (ag (pv 4) (ag (pv 5) (ag (pv 6) ae))))))))))))),by delta fO;walk_at "r"⟩
def uU{n:Nat}{gs:S8 D->S9 Rz}(M:Md P w K mg)(c40:TY P w K mg base "_law_alike" n ["_law_found","_law_due"] (gk K gs)):gi P w K mg base "_law_alike" pk ["_law_found","_law_due"] n (jS gs):=λhr=>⟨_,(af (bZ (aQ EN (pv 1) EF (aZ _)) (ak (aD (iJ EN (pv 0) EF (aZ _)))) bn)
   (af (bZ (PW.pt (KM (iG (ax (bp (K:=K) rfl) rfl M.n_isinstance boot_isinstance (ag (pv 1) (ag (iB rfl M.n_bool iL) ae)))) (EG (iG (ax (bp (K:=K) rfl) rfl M.n_isinstance boot_isinstance (ag (pv 0) (ag (iB rfl M.n_bool iL) ae))))))) (ak (aD (nH (ax (bp (K:=K) rfl) rfl M.n_isinstance boot_isinstance (ag (pv 1) (ag (iB rfl M.n_bool iL) ae))) (nH (ax (bp (K:=K) rfl) rfl M.n_isinstance boot_isinstance (ag (pv 0) (ag (iB rfl M.n_bool iL) ae))) (pI (iJ (d6 (K:=K) rfl hr.units) (pv 0) (pv 1) (aZ _))))))) bn)
   (af (bZ (iG (ax (bp (K:=K) rfl) rfl M.n_isinstance boot_isinstance (ag (pv 1) (ag (iB rfl M.n_int rZ) ae)))) (ak (aD (nH (ax (bp (K:=K) rfl) rfl M.n_isinstance boot_isinstance (ag (pv 0) (ag (iB rfl M.n_int rZ) ae))) (pI (iJ (d6 (K:=K) rfl hr.units) (pv 0) (pv 1) (aZ _)))))) bn)
   (af (bZ (iG (ax (bp (K:=K) rfl) rfl M.n_isinstance boot_isinstance (ag (pv 1) (ag (iB rfl M.n_str nK) ae)))) (ak (aD (nH (ax (bp (K:=K) rfl) rfl M.n_isinstance boot_isinstance (ag (pv 0) (ag (iB rfl M.n_str nK) ae))) (pI (iJ (d6 (K:=K) rfl hr.units) (pv 0) (pv 1) (aZ _)))))) bn)
   (af (bZ (PW.pt (KM (aQ (pZ (K:=K) rfl hr.units) (ax (bp (K:=K) rfl) rfl M.n_isinstance boot_isinstance (ag (pv 1) (ag (iB rfl M.n_tuple b8) ae))) (ax (bp (K:=K) rfl) rfl M.n_isinstance boot_isinstance (ag (pv 0) (ag (iB rfl M.n_tuple b8) ae))) (aZ _)) (EG (aQ (pZ (K:=K) rfl hr.units) (ax (bp (K:=K) rfl) rfl M.n_isinstance boot_isinstance (ag (pv 1) (ag (iB rfl M.n_list gj) ae))) (ax (bp (K:=K) rfl) rfl M.n_isinstance boot_isinstance (ag (pv 0) (ag (iB rfl M.n_list gj) ae))) (aZ _))))) (ak (aD mB)) bn)
   (ak (aD (nH (iJ (d6 (K:=K) rfl hr.units) (ax (bc (K:=K) rfl) rfl M.n_len PySem.boot_len (ag (pv 0) ae)) (ax (bc (K:=K) rfl) rfl M.n_len PySem.boot_len (ag (pv 1) ae)) (aZ _)) (pI (ax (Fm rfl) rfl M.n_all boot_all (ag (bR (cq (osc:=(ao pk)) (ON:=["_law_found","_law_due"]) (N:=["_law_k","_law_found","_law_due"]) (k:=1) (Tl:=[0,1]) (by decide +kernel) rfl rfl) rfl (eU rfl M.n_range (ag (ax (bc (K:=K) rfl) rfl M.n_len PySem.boot_len (ag (pv 1) ae)) ae)) (λ_ _ _ _=>(aV 0 (by show(["_law_k","_law_found","_law_due"]:S8 Str).Nodup;decide +kernel))) (λ_ _ _ _=>cC) (λ_ _ _ _=>(aq c40 hr rfl (ag (bA (aI (K:=K) rfl) (pv 1) (pv 0) (λ_ _=>rfl)) (ag (bA (aI (K:=K) rfl) (pv 2) (pv 0) (λ_ _=>rfl)) ae)) (Xa _)))) ae))))))))))),by delta jS;walk_at "r"⟩
def kc(M:Md P w K mg)(c26:my P w K mg base)(c27:lh P w K mg base)(c31:eP P w K mg base):gi P w K mg base "_law_first_changes" eM ["_law_ours","_law_theirs","_law_due"] 3 dF:=λhr=>⟨_,(af (aN 2 T7.nd (az dU (aq c26 hr rfl (ag (pv 0) (ag (pv 1) ae))) ah))
   (ak (aD (bR (cq (osc:=(ao eM)) (ON:=["_law_ours","_law_theirs","_law_due"]) (N:=["_law_deed","_law_ours","_law_theirs","_law_due"]) (k:=1) (Tl:=[0,1,2]) (by decide +kernel) rfl rfl) rfl (bY (K:=K) rfl (aq c27 hr rfl (ag (ax (bc (K:=K) rfl) rfl M.n_len PySem.boot_len (ag (pv 0) ae)) ae))) (λ_ _ _ _=>(aV 0 (by show(["_law_deed","_law_ours","_law_theirs","_law_due"]:S8 Str).Nodup;decide +kernel))) (λ_ _ _ _=>mK (aQ (d6 (K:=K) rfl hr.units) (aq c26 hr rfl (ag (aq c31 hr rfl (ag (pv 1) (ag (pv 0) ae))) (ag (pv 2) ae))) (pv 3) (aZ _))) (λ_ _ _ _=>(pv 0)))))),by delta dF;delta cN;delta cM;walk_at "r"⟩
def O8(M:Md P w K mg)(c18:qT P w K mg base)(c23:fq P w K mg base)(c25:iE P w K mg base)(c26:my P w K mg base)(c31:eP P w K mg base)(c32:qU P w K mg base)(c33:db P w K mg base)(c34:gQ P w K mg base)(c35:qV P w K mg base)(c38:oD P w K mg base)(c39:jp P w K mg base)(c40:oE P w K mg base)(c41:fQ P w K mg base):gi P w K mg base "law" On ["_law_script","_law_flow_here","_law_many","_law_ours","_law_theirs","_law_k","_law_due","_law_found","_law_word","_law_i","_law_j","_law_l","_law_then","_law_least"] 9 Hl:=λhr=>⟨_,(af (aN 1 Tx.nd (aq c32 hr rfl (ag (pv 0) ae)))
   (af (aN 2 Tx.nd (aq c33 hr rfl (ag (pv 1) (ag ah ae))))
   (af (bZ (aQ (xv (K:=K) rfl hr.units) (aq c33 hr rfl (ag (pv 1) (ag ah ae))) ah (aZ _)) (ak (aN 2 Tx.nd (aq c33 hr rfl (ag (pv 1) (ag ah ae))))) bn)
   (af (aN 3 Tx.nd (aq c35 hr rfl (ag (pv 1) (ag (aq c38 hr rfl (ag (pv 1) (ag (pv 2) ae))) ae))))
   (af (aN 4 Tx.nd (pv 3))
   (af (bZ (aQ (xv (K:=K) rfl hr.units) (aq c33 hr rfl (ag (pv 1) (ag ah ae))) ah (aZ _)) (ak (aN 4 Tx.nd (cI (cU (K:=K) rfl rfl) rfl M.n_tuple b8 (ag (aq c34 hr rfl (ag (pv 1) (ag (pv 3) ae))) ae)))) (ak (bZ (aQ KW (pv 2) ah (aZ _)) (ak (cc Ak rfl (eU rfl M.n_range (ag (aq c33 hr rfl (ag (pv 1) (ag ah ae))) ae)) (aV 5 Tx.nd) (ak (aN 4 Tx.nd (aq c31 hr rfl (ag (pv 4) (ag (aq c39 hr rfl (ag (pv 1) (ag cn (ag (pv 2) ae)))) ae))))))) bn)))
   (af (aN 6 Tx.nd (aq c41 hr rfl (ag (pv 3) (ag (pv 4) ae))))
   (af (aN 7 Tx.nd (aq c25 hr rfl (ag (pv 3) (ag (pv 4) ae))))
   (af (bZ (tm (iG (aq c40 hr rfl (ag (pv 7) (ag (pv 6) ae))))) (ak (aD mB)) bn)
   (af (dL (Ff PySem.F.plainAttrs_list PySem.F.slot_list_clear PySem.F.type_list_clear Fj (pv 7)))
   (af (bZ (tm (iG (aq c40 hr rfl (ag (aq c25 hr rfl (ag (pv 4) (ag (pv 3) ae))) (ag (aq c41 hr rfl (ag (pv 4) (ag (pv 3) ae))) ae))))) (ak (aD mB)) bn)
   (af (bZ (PW.pt (EH (aQ iM (pv 2) ah (aZ _)) (yl (aQ (NW (K:=K) rfl hr.units) (aq c25 hr rfl (ag (pv 3) (ag (pv 4) ae))) (pv 6) (aZ _))))) (ak (aD mB)) bn)
   (af (bZ (aQ iM (pv 2) ah (aZ _)) (ak (aD (iJ (xv (K:=K) rfl hr.units) (pv 6) (cK ae) (aZ _)))) bn)
   (af (cA (aq c39 hr rfl (ag (pv 1) (ag cn (ag (pv 2) ae)))) (km (K:=K) (n:=5) rfl rfl (bW (aV 8 Tx.nd) (bW (aV 9 Tx.nd) (bW (aV 10 Tx.nd) (bW (aV 5 Tx.nd) (bW (aV 11 Tx.nd) ke)))))))
   (af (aN 12 Tx.nd (aq c18 hr rfl (ag (pv 3) (ag (pv 9) (ag (pv 10) (ag (pv 5) (ag (pv 11) ae)))))))
   (af (aN 13 Tx.nd (aq c26 hr rfl (ag (pv 12) (ag (pv 4) ae))))
   (ak (aD (nH (aq c40 hr rfl (ag (aq c23 hr rfl (ag (pv 12) (ag (pv 4) ae))) (ag (pv 13) ae))) (pI (iJ yt (pv 13) (az dU (aq c26 hr rfl (ag (pv 3) (ag (pv 4) ae))) ah) (aZ _)))))))))))))))))))))),by delta Hl;delta ph;walk_at "r"⟩
end
set_option maxHeartbeats 0 in
def all_mk{l:PySem.W.OpenLaw}{w:Th}{K:PySem.W.Frag}{h:Tg}{mg:Str->S9 Ta}{fa:Td}(X:K.In h)(G:h.Ns mainGlobals mg)(hfa:mg "law"=some (.ref fa))
  (h1:FH K "is_turned" n5)(h2:FH K "name_of" uv)(h3:FH K "mirrored" n6)(h4:FH K "turned_beads" f8)(h5:FH K "beads_in" qw)(h6:FH K "names_in" mV)(h7:FH K "refuse_lacks" f9)(h8:FH K "joint_of" qx)(h9:FH K "joints_at" n8)(h10:FH K "count_free" jf)(h11:FH K "part_round" gK)(h12:FH K "parts_of" qy)(h13:FH K "numbers_of" jg)(h14:FH K "number_left" jT)(h15:FH K "number_right" jh)(h16:FH K "point_joints" gc)(h17:FH K "point_rings" g9)(h18:FH K "turn" Hm)(h19:FH K "change" uw)(h20:FH K "runs_of" pi)(h21:FH K "changes_from" gf)(h22:FH K "line_behind" jU)(h23:FH K "refuse_changes" gL)(h24:FH K "fewest_changes" gM)(h25:FH K "falling" mW)(h26:FH K "firsts_changes" gO)(h27:FH K "_law_half" ux)(h28:FH K "_law_changes" kH)(h29:FH K "_law_mirrored" mf)(h30:FH K "_law_turned" mX)(h31:FH K "_law_changed" n9)(h32:FH K "_law_line_behind" ji)(h33:FH K "_law_flow" xN)(h34:FH K "_law_pick" xO)(h35:FH K "_law_shuffled" mi)(h36:FH K "_law_line" uz)(h37:FH K "_law_letters" kI)(h38:FH K "_law_name" xP)(h39:FH K "_law_names" uA)(h40:FH K "_law_good_deed" mj)(h41:FH K "_law_alike" pk)(h42:FH K "_law_first_changes" eM)(h43:FH K "law" On){cA_KINDS:Td}(ca_KINDS:PySem.W.nsIn K mainGlobals "KINDS"=some (some (.ref cA_KINDS)))(cg_KINDS:JQ l.prog w K mg "KINDS" xK)
  (z_abs:PySem.W.nsIn K mainGlobals "abs"=some none) (z_all:PySem.W.nsIn K mainGlobals "all"=some none) (z_bool:PySem.W.nsIn K mainGlobals "bool"=some none) (z_enumerate:PySem.W.nsIn K mainGlobals "enumerate"=some none) (z_int:PySem.W.nsIn K mainGlobals "int"=some none) (z_isinstance:PySem.W.nsIn K mainGlobals "isinstance"=some none) (z_len:PySem.W.nsIn K mainGlobals "len"=some none) (z_list:PySem.W.nsIn K mainGlobals "list"=some none) (z_min:PySem.W.nsIn K mainGlobals "min"=some none) (z_range:PySem.W.nsIn K mainGlobals "range"=some none) (z_reversed:PySem.W.nsIn K mainGlobals "reversed"=some none) (z_sorted:PySem.W.nsIn K mainGlobals "sorted"=some none) (z_str:PySem.W.nsIn K mainGlobals "str"=some none) (z_tuple:PySem.W.nsIn K mainGlobals "tuple"=some none) (z_zip:PySem.W.nsIn K mainGlobals "zip"=some none) :
  ∃fd:FuncData,(∀(s:Tb)(v:Ta),BindsTo s fd ⟨[v],[]⟩ [("_law_script",v)])/\∀base:Tg,K.In base->base.Ns mainGlobals mg->T9 l.prog w K mg base Dx 10 fa fd ["_law_script"] (yZ K):=by
 have M:Md l.prog w K mg:=⟨PySem.W.mg_none_of X G z_abs,PySem.W.mg_none_of X G z_all,PySem.W.mg_none_of X G z_bool,PySem.W.mg_none_of X G z_enumerate,PySem.W.mg_none_of X G z_int,PySem.W.mg_none_of X G z_isinstance,PySem.W.mg_none_of X G z_len,PySem.W.mg_none_of X G z_list,PySem.W.mg_none_of X G z_min,PySem.W.mg_none_of X G z_range,PySem.W.mg_none_of X G z_reversed,PySem.W.mg_none_of X G z_sorted,PySem.W.mg_none_of X G z_str,PySem.W.mg_none_of X G z_tuple,PySem.W.mg_none_of X G z_zip,cg_KINDS⟩;refine h43.law X G hfa Tx (λ_ _ _ _ _ _=>rD λ_=>rfl) KH λbase=>?_;obtain⟨fA,_,_,hn⟩:=h24.ex;have hf:=PySem.W.mg_of X G hn;have c0:jX l.prog w K mg base:=h1.cal X G uB (λ_ _ _ _ _ _=>rD λ_=>rfl) (uR M);have c1:on l.prog w K mg base:=h2.cal X G xQ (λ_ _ _ _ _ _=>rD λ_=>rfl) (yf M c0);have c2:mw l.prog w K mg base:=h3.cal X G uC (λ_ _ _ _ _ _=>rD λ_=>rfl) (wG M c0 c1);have c3:jY l.prog w K mg base:=h4.cal X G oP (λ_ _ _ _ _ _=>rD λ_=>rfl) (oU M c2);have c4:qP l.prog w K mg base:=h5.cal X G Ua (λ_ _ _ _ _ _=>rD λ_=>rfl) (wH M);have c5:qQ l.prog w K mg base:=h6.cal X G wn (λ_ _ _ _ _ _=>rD λ_=>rfl) (wI M c1 c4);have c6:jZ l.prog w K mg base:=h7.cal X G TH (λ_ _ _ _ _ _=>rD λ_=>rfl) (oV M c5);have c7:qR l.prog w K mg base:=h8.cal X G wo (λ_ _ _ _ _ _=>rD λ_=>rfl) (wJ M);have c8:oC l.prog w K mg base:=h9.cal X G T3 (λ_ _ _ _ _ _=>rD λ_=>rfl) (uS M);have c9:ni l.prog w K mg base:=h10.cal X G rE (λ_ _ _ _ _ _=>rD λ_=>rfl) (rH M);have c10:nk l.prog w K mg base:=h11.cal X G Tv (λ_ _ _ _ _ _=>QT λ_ _ _=>rfl) (rJ M c9);have c11:qS l.prog w K mg base:=h12.cal X G TD (λ_ _ _ _ _ _=>v9 λ_ _=>rfl) (wK M c8 c10);have c12:jk l.prog w K mg base:=h13.cal X G TV (λ_ _ _ _ _ _=>v9 λ_ _=>rfl) (rK M c2 c6);have c13:kY l.prog w K mg base:=h14.cal X G qz (λ_ _ _ _ _ _=>rD λ_=>rfl) (qX M);have c14:j0 l.prog w K mg base:=h15.cal X G oQ (λ_ _ _ _ _ _=>rD λ_=>rfl) (oW M);have c15:j5 l.prog w K mg base:=h16.cal X G oR (λ_ _ _ _ _ _=>rD λ_=>rfl) (oX M c7 c13 c14);have c16:kZ l.prog w K mg base:=h17.cal X G TC (λ_ _ _ _ _ _=>rD λ_=>rfl) (qY M c11 c15);have c17:Ir l.prog w K mg base:=h18.cal X G Hn (λ_ _ _ _ _ _=>QT λ_ _ _=>rfl) (KJ M c3);have c18:qT l.prog w K mg base:=h19.cal X G xR (λ_ _ _ _ _ _=>S1 λ_ _ _ _ _=>rfl) (Ew M);have c19:sY l.prog w K mg base:=h20.cal X G Ui (λ_ _ _ _ _ _=>rD λ_=>rfl) (yg M)
 have c20:j6 l.prog w K mg base:=h21.cal X G TN (λ_ _ _ _ _ _=>rD λ_=>rfl) (oY M c19);have c21:lf l.prog w K mg base:=h22.cal X G qA (λ_ _ _ _ _ _=>v9 λ_ _=>rfl) (qZ M c17 c18);have c22:iD l.prog w K mg base:=h23.cal X G mY (λ_ _ _ _ _ _=>v9 λ_ _=>rfl) (nr M c12);have c23:fq l.prog w K mg base:=h24.cal X G T6 (λ_ _ _ _ _ _=>v9 λ_ _=>rfl) (nF M c12 c16 c22);have c24:sZ l.prog w K mg base:=h25.cal X G Uq (λ_ _ _ _ _ _=>S0 λ_ _ _ _=>rfl) (yh hf hn M c21 c23);have c25:iE l.prog w K mg base:=h26.cal X G mZ (λ_ _ _ _ _ _=>v9 λ_ _=>rfl) (nG hf hn M c20 c24);have c26:my l.prog w K mg base:=h27.cal X G Tu (λ_ _ _ _ _ _=>v9 λ_ _=>rfl) (wL M);have c27:lh l.prog w K mg base:=h28.cal X G TQ (λ_ _ _ _ _ _=>rD λ_=>rfl) (q8 M);have c28:j9 l.prog w K mg base:=h29.cal X G rF (λ_ _ _ _ _ _=>rD λ_=>rfl) (oZ M);have c29:nq l.prog w K mg base:=h30.cal X G wq (λ_ _ _ _ _ _=>QT λ_ _ _=>rfl) (rL M c28);have c30:li l.prog w K mg base:=h31.cal X G Ul (λ_ _ _ _ _ _=>S1 λ_ _ _ _ _=>rfl) (q9 M);have c31:eP l.prog w K mg base:=h32.cal X G oS (λ_ _ _ _ _ _=>v9 λ_ _=>rfl) (mz M c29 c30);have c32:qU l.prog w K mg base:=h33.cal X G Eb (λ_ _ _ _ _ _=>rD λ_=>rfl) (wM M);have c33:db l.prog w K mg base:=h34.calI X G Uo (λ_ _ _ _ _ _=>v9 λ_ _=>rfl) (wN M);have c34:gQ l.prog w K mg base:=h35.calI X G T8 (λ_ _ _ _ _ _=>v9 λ_ _=>rfl) (o0 M c33);have c35:qV l.prog w K mg base:=h36.calI X G Ec (λ_ _ _ _ _ _=>v9 λ_ _=>rfl) (wO M c33 c34);have c36:ix l.prog w K mg base:=h37.calI X G uD (λ_ _ _ _ _ _=>v9 λ_ _=>rfl) (rb M c33);have c37:qW l.prog w K mg base:=h38.calI X G Up (λ_ _ _ _ _ _=>v9 λ_ _=>rfl) (wP M c33 c36);have c38:oD l.prog w K mg base:=h39.calI X G TF (λ_ _ _ _ _ _=>v9 λ_ _=>rfl) (uT M c33 c36 c37);have c39:jp l.prog w K mg base:=h40.calI X G TJ (λ_ _ _ _ _ _=>QT λ_ _ _=>rfl) (oq M c33);have c40:oE l.prog w K mg base:=h41.alike X G xS (λ_ _ _ _ _ _=>v9 λ_ _=>rfl) 20 (λn u h=>Ee h) (λn gs hn=>uU M) 6 (by decide)
 have c41:fQ l.prog w K mg base:=h42.cal X G T7 (λ_ _ _ _ _ _=>v9 λ_ _=>rfl) (kc M c26 c27 c31);intro _ _ _ _ _ _ _;exact O8 M c18 c23 c25 c26 c31 c32 c33 c34 c35 c38 c39 c40 c41
end K50
open PySem PySem.W PyProof.Rows
set_option maxRecDepth 100000 in
set_option maxHeartbeats 0 in
theorem PySem.Challenge.cw_strandwright_k50_whole_first_changes_holds : PySem.Challenge.rw_strandwright_k50_whole_first_changes.Holds := by
 w_on;o_law;z_head;(case hw=>w_witness2)
 k_fill
 refine VF.walkZ (l:=PySem.Challenge.rw_strandwright_k50_whole_first_changes) (k:=10) rfl rfl ⟨rfl,by decide,by decide⟩ (by decide) ?K ?F
 case K=>intro _;rfl
 case F =>
  intro w mg fa h KX G hmg;refine' K50.all_mk KX G hmg (VF.fh ?a1 ?l1 ?c1 ?k1) (VF.fh ?a2 ?l2 ?c2 ?k2) (VF.fh ?a3 ?l3 ?c3 ?k3) (VF.fh ?a4 ?l4 ?c4 ?k4) (VF.fh ?a5 ?l5 ?c5 ?k5) (VF.fh ?a6 ?l6 ?c6 ?k6) (VF.fh ?a7 ?l7 ?c7 ?k7) (VF.fh ?a8 ?l8 ?c8 ?k8) (VF.fh ?a9 ?l9 ?c9 ?k9) (VF.fh ?a10 ?l10 ?c10 ?k10) (VF.fh ?a11 ?l11 ?c11 ?k11) (VF.fh ?a12 ?l12 ?c12 ?k12) (VF.fh ?a13 ?l13 ?c13 ?k13) (VF.fh ?a14 ?l14 ?c14 ?k14) (VF.fh ?a15 ?l15 ?c15 ?k15) (VF.fh ?a16 ?l16 ?c16 ?k16) (VF.fh ?a17 ?l17 ?c17 ?k17) (VF.fh ?a18 ?l18 ?c18 ?k18) (VF.fh ?a19 ?l19 ?c19 ?k19) (VF.fh ?a20 ?l20 ?c20 ?k20) (VF.fh ?a21 ?l21 ?c21 ?k21) (VF.fh ?a22 ?l22 ?c22 ?k22) (VF.fh ?a23 ?l23 ?c23 ?k23) (VF.fh ?a24 ?l24 ?c24 ?k24) (VF.fh ?a25 ?l25 ?c25 ?k25) (VF.fh ?a26 ?l26 ?c26 ?k26) (VF.fh ?a27 ?l27 ?c27 ?k27) (VF.fh ?a28 ?l28 ?c28 ?k28) (VF.fh ?a29 ?l29 ?c29 ?k29) (VF.fh ?a30 ?l30 ?c30 ?k30) (VF.fh ?a31 ?l31 ?c31 ?k31) (VF.fh ?a32 ?l32 ?c32 ?k32) (VF.fh ?a33 ?l33 ?c33 ?k33) (VF.fh ?a34 ?l34 ?c34 ?k34) (VF.fh ?a35 ?l35 ?c35 ?k35) (VF.fh ?a36 ?l36 ?c36 ?k36) (VF.fh ?a37 ?l37 ?c37 ?k37) (VF.fh ?a38 ?l38 ?c38 ?k38) (VF.fh ?a39 ?l39 ?c39 ?k39) (VF.fh ?a40 ?l40 ?c40 ?k40) (VF.fh ?a41 ?l41 ?c41 ?k41) (VF.fh ?a42 ?l42 ?c42 ?k42) (VF.fh ?a43 ?l43 ?c43 ?k43) ?ca_KINDS (VF22.ktab_mk4 (PySem.W.mg_of KX G ?cm_KINDS) ?cb_KINDS ?cs_KINDS ?cl_KINDS_0 ?ch_KINDS_0 ?cl_KINDS_1 ?ch_KINDS_1 ?cl_KINDS_2 ?ch_KINDS_2 ?cl_KINDS_3 ?ch_KINDS_3) ?z_abs ?z_all ?z_bool ?z_enumerate ?z_int ?z_isinstance ?z_len ?z_list ?z_min ?z_range ?z_reversed ?z_sorted ?z_str ?z_tuple ?z_zip
  (case a1=>k_is)
  (case l1=>k_is)
  (case c1=>k_is)
  (case k1=>k_is)
  (case a2=>k_is)
  (case l2=>k_is)
  (case c2=>k_is)
  (case k2=>k_is)
  (case a3=>k_is)
  (case l3=>k_is)
  (case c3=>k_is)
  (case k3=>k_is)
  (case a4=>k_is)
  (case l4=>k_is)
  (case c4=>k_is)
  (case k4=>k_is)
  (case a5=>k_is)
  (case l5=>k_is)
  (case c5=>k_is)
  (case k5=>k_is)
  (case a6=>k_is)
  (case l6=>k_is)
  (case c6=>k_is)
  (case k6=>k_is)
  (case a7=>k_is)
  (case l7=>k_is)
  (case c7=>k_is)
  (case k7=>k_is)
  (case a8=>k_is)
  (case l8=>k_is)
  (case c8=>k_is)
  (case k8=>k_is)
  (case a9=>k_is)
  (case l9=>k_is)
  (case c9=>k_is)
  (case k9=>k_is)
  (case a10=>k_is)
  (case l10=>k_is)
  (case c10=>k_is)
  (case k10=>k_is)
  (case a11=>k_is)
  (case l11=>k_is)
  (case c11=>k_is)
  (case k11=>k_is)
  (case a12=>k_is)
  (case l12=>k_is)
  (case c12=>k_is)
  (case k12=>k_is)
  (case a13=>k_is)
  (case l13=>k_is)
  (case c13=>k_is)
  (case k13=>k_is)
  (case a14=>k_is)
  (case l14=>k_is)
  (case c14=>k_is)
  (case k14=>k_is)
  (case a15=>k_is)
  (case l15=>k_is)
  (case c15=>k_is)
  (case k15=>k_is)
  (case a16=>k_is)
  (case l16=>k_is)
  (case c16=>k_is)
  (case k16=>k_is)
  (case a17=>k_is)
  (case l17=>k_is)
  (case c17=>k_is)
  (case k17=>k_is)
  (case a18=>k_is)
  (case l18=>k_is)
  (case c18=>k_is)
  (case k18=>k_is)
  (case a19=>k_is)
  (case l19=>k_is)
  (case c19=>k_is)
  (case k19=>k_is)
  (case a20=>k_is)
  (case l20=>k_is)
  (case c20=>k_is)
  (case k20=>k_is)
  (case a21=>k_is)
  (case l21=>k_is)
  (case c21=>k_is)
  (case k21=>k_is)
  (case a22=>k_is)
  (case l22=>k_is)
  (case c22=>k_is)
  (case k22=>k_is)
  (case a23=>k_is)
  (case l23=>k_is)
  (case c23=>k_is)
  (case k23=>k_is)
  (case a24=>k_is)
  (case l24=>k_is)
  (case c24=>k_is)
  (case k24=>k_is)
  (case a25=>k_is)
  (case l25=>k_is)
  (case c25=>k_is)
  (case k25=>k_is)
  (case a26=>k_is)
  (case l26=>k_is)
  (case c26=>k_is)
  (case k26=>k_is)
  (case a27=>k_is)
  (case l27=>k_is)
  (case c27=>k_is)
  (case k27=>k_is)
  (case a28=>k_is)
  (case l28=>k_is)
  (case c28=>k_is)
  (case k28=>k_is)
  (case a29=>k_is)
  (case l29=>k_is)
  (case c29=>k_is)
  (case k29=>k_is)
  (case a30=>k_is)
  (case l30=>k_is)
  (case c30=>k_is)
  (case k30=>k_is)
  (case a31=>k_is)
  (case l31=>k_is)
  (case c31=>k_is)
  (case k31=>k_is)
  (case a32=>k_is)
  (case l32=>k_is)
  (case c32=>k_is)
  (case k32=>k_is)
  (case a33=>k_is)
  (case l33=>k_is)
  (case c33=>k_is)
  (case k33=>k_is)
  (case a34=>k_is)
  (case l34=>k_is)
  (case c34=>k_is)
  (case k34=>k_is)
  (case a35=>k_is)
  (case l35=>k_is)
  (case c35=>k_is)
  (case k35=>k_is)
  (case a36=>k_is)
  (case l36=>k_is)
  (case c36=>k_is)
  (case k36=>k_is)
  (case a37=>k_is)
  (case l37=>k_is)
  (case c37=>k_is)
  (case k37=>k_is)
  (case a38=>k_is)
  (case l38=>k_is)
  (case c38=>k_is)
  (case k38=>k_is)
  (case a39=>k_is)
  (case l39=>k_is)
  (case c39=>k_is)
  (case k39=>k_is)
  (case a40=>k_is)
  (case l40=>k_is)
  (case c40=>k_is)
  (case k40=>k_is)
  (case a41=>k_is)
  (case l41=>k_is)
  (case c41=>k_is)
  (case k41=>k_is)
  (case a42=>k_is)
  (case l42=>k_is)
  (case c42=>k_is)
  (case k42=>k_is)
  (case a43=>k_is)
  (case l43=>k_is)
  (case c43=>k_is)
  (case k43=>k_is)
  (case ca_KINDS=>k_is)
  (case cm_KINDS=>k_is)
  (case cb_KINDS=>k_is)
  (case cl_KINDS_0=>k_is)
  (case cl_KINDS_1=>k_is)
  (case cl_KINDS_2=>k_is)
  (case cl_KINDS_3=>k_is)
  (case z_abs=>k_is)
  (case z_all=>k_is)
  (case z_bool=>k_is)
  (case z_enumerate=>k_is)
  (case z_int=>k_is)
  (case z_isinstance=>k_is)
  (case z_len=>k_is)
  (case z_list=>k_is)
  (case z_min=>k_is)
  (case z_range=>k_is)
  (case z_reversed=>k_is)
  (case z_sorted=>k_is)
  (case z_str=>k_is)
  (case z_tuple=>k_is)
  (case z_zip=>k_is)
  (case cs_KINDS=>decide)
  (case ch_KINDS_0=>decide)
  (case ch_KINDS_1=>decide)
  (case ch_KINDS_2=>decide)
  (case ch_KINDS_3=>decide)

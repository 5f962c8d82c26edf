import PyProof.Rows.All
import Wide.All
import OpenK.AllK
import Wide.FinOn
import Lean
import PyProof.EqAt
import PyProof.EqKinds
import PyProof.TupleCall
import KE.KRevIter
import KE.KUnpack
import KE.KIntText
import KE.KSortKey
import PyProof.DictItems
import KE.KPairComp
import PyProof.StrLawsReplace
import PySem.Challenge.RW_strandwright_k12_whole_names_are_nothing
set_option maxHeartbeats 2000000
set_option genSizeOfSpec false
namespace PySem.W.Fast
def tw6815716692520586302:=0
def tw5599380987703621887:=0
def tw8428061683821271650:=0
def tw8634933291243842577:=0
def tw17289391289311629896:=0
def tw15960344051827580108:=0
def tw401349779575638197:=0
def tw2977858458336292773:=0
def tw3207644748151127535:=0
def tw16622306478365106480:=0
def tw9526726869059651081:=0
def tw10677454355116862443:=0
def tw10241410817500081052:=0
def tw13460225777060241835:=0
def tw5980302908972237116:=0
def tw16284282356736240445:=0
def tw15879074888166193556:=0
def tw17000655869117375783:=0
def tw12311897613546201061:=0
def tw16223793455195579599:=0
def tw629050484421011353:=0
def tw6333817990682412979:=0
def tw14623187124310131115:=0
def tw9977757804669036594:=0
def tw6174320335243622295:=0
def tw15008785216645086643:=0
def tw11194807748896047526:=0
def tw16642974670828329347:=0
def tw16102022543509815574:=0
def tw8404618699061382616:=0
def tw11804651366384164891:=0
def tw11086493371059392052:=0
def tw3621785729795315703:=0
def tw8964559471753585792:=0
def tw13996115908728216596:=0
def tw11080863415410416854:=0
def tw16503191325981679592:=0
def tw13799201117404014240:=0
def tw12047918707275293812:=0
end PySem.W.Fast
abbrev Aa:=@PySem.wpAny_bind
abbrev Ab:=@PySem.Heap.get?_push_of_some
abbrev Ac:=@PySem.wpAny_pure
abbrev Ad:=@decide_eq_false
abbrev Ae:=@PySem.Heap.get?_push_size
abbrev Af:=@decide_eq_true
abbrev Ag:=@PySem.Heap.lt_size
abbrev Ah:=@if_neg
abbrev Ai:=@of_decide_eq_true
abbrev Aj:=@PySem.Str.length_append
abbrev Ak:=@PySem.PassesOwn.never
abbrev Al:=@PySem.wpAny_field
abbrev Am:=@PySem.wpAny_newObj_type
abbrev An:=@PyProof.Rows.wpS_bind
abbrev Ao:=@PySem.wpAny_callSpecial?_slot
abbrev Ap:=@PyProof.Rows.slot_tuple_getitem
abbrev Aq:=@PySem.wpAny_passesOwn
abbrev Ar:=@PySem.wpAny_call_entry
abbrev As:=@PyProof.Rows.wpS_pure
abbrev At:=@PySem.wpAny_mono
abbrev Au:=@Ne.symm
abbrev Av:=@List.getElem?_set_ne
abbrev Aw:=@PySem.wpAny_truthy_bool
abbrev Ax:=@PySem.Heap.get?_update_ne
abbrev Ay:=@PyProof.Rows.callWith_type1
abbrev Az:=@PySem.wpAny_holding
abbrev AA:=@PySem.Str.cps_append
abbrev AB:=@PySem.wpAny_seqItems
abbrev AC:=@PySem.Heap.size_push
abbrev AD:=@PySem.wpAny_typeOf
abbrev AE:=@PySem.wpAny_setField_rec
abbrev AF:=@PySem.Obj.data_mapFields
abbrev AG:=@PySem.Heap.get?_update_other
abbrev AH:=@PyProof.Rows.listUpdate_at
abbrev AI:=@Array.getElem?_toList
abbrev AJ:=@Nat.le_succ_of_le
abbrev AK:=@PySem.wpAny_rule
abbrev AL:=@List.map_id
abbrev AM:=@PyProof.Rows.listItems_at
abbrev AN:=@Nat.lt_succ_self
abbrev AO:=@List.map_flatMap
abbrev AQ:=@List.getElem_mem
abbrev AR:=@List.mem_map_of_mem
abbrev AT:=@PySem.Heap.SameBut.update
abbrev AU:=@PySem.wpAny_attempt
abbrev AV:=@PySem.wpAny_execs_nil
abbrev AW:=@PySem.typeIs_str
abbrev AX:=@PySem.call_meets
abbrev AY:=@Nat.lt_of_le_of_lt
abbrev AZ:=@PySem.Calls.spliced_cons
abbrev A0:=@PySem.Calls.Constant_str
abbrev A1:=@PySem.wpAny_of_eq
abbrev A2:=@PySem.wpAny_getItem_str_slice
abbrev A3:=@PyProof.Rows.wpS_forRange
abbrev A4:=@List.reverse_perm
abbrev A5:=@List.getElem?_set_self
abbrev A6:=@List.getElem?_set
abbrev A7:=@PySem.Calls.callWith_builtin
abbrev A8:=@PySem.builtinLookup_eq_fast
abbrev A9:=@List.perm_append_comm
abbrev Ba:=@PySem.Heap.get?_update_self
abbrev Bb:=@List.perm_middle
abbrev Bc:=@List.getElem_map
abbrev Be:=@List.ext_getElem
abbrev Bg:=@List.map_drop
abbrev Bh:=@List.any_cons
abbrev Bi:=@PySem.sizeLine_eq
abbrev Bj:=@Nat.le_succ
abbrev Bk:=@List.mem_of_mem_drop
abbrev Bl:=@Array.getElem?_range
abbrev Bm:=@PyProof.Rows.get?_update_seq
abbrev Bo:=@Int.emod_nonneg
abbrev Bp:=@Nat.zero_add
abbrev Bq:=@Nat.le_of_lt
abbrev Br:=@List.map_id'
abbrev Bs:=@PySem.wpAny_setField
abbrev Bt:=@PySem.wpAny_Call_Name_kw
abbrev Bu:=@Nat.sub_add_cancel
abbrev Bv:=@List.zip_cons_cons
abbrev Bw:=@Bool.false_eq_true
abbrev Bx:=@List.getElem?_append_left
abbrev By:=@List.drop_eq_getElem_cons
abbrev Bz:=@PySem.wpAny_pyIter_list
abbrev BB:=@PySem.arm_evalEach_cons
abbrev BC:=@Option.isSome_map
abbrev BD:=@Nat.lt_succ_of_lt
abbrev BE:=@List.size_toArray
abbrev BF:=@List.reverse_cons
abbrev BG:=@PySem.wpAny_newList
abbrev BH:=@List.getElem?_eq_getElem
abbrev BI:=@List.all_cons
abbrev BJ:=@Nat.lt_of_not_le
abbrev BK:=@Nat.le_of_not_lt
abbrev BL:=@List.zipIdx_cons
abbrev BM:=@List.not_mem_nil
abbrev BN:=@List.map_reverse
abbrev BO:=@PySem.wpAny_Name
abbrev BP:=@PySem.wpAny_Call_method_late
abbrev BQ:=@Nat.sub_self
abbrev BR:=@Nat.lt_trans
abbrev BS:=@Nat.le_of_eq
abbrev BT:=@List.take_of_length_le
abbrev BU:=@List.drop_eq_nil_of_le
abbrev BV:=@PySem.wpAny_specialOf
abbrev BW:=@PySem.wpAny_loadPart'
abbrev BX:=@PySem.typeLookup_type
abbrev BY:=@PySem.post_val_or_str
abbrev BZ:=@Nat.not_lt_zero
abbrev B0:=@List.forIn_cons
abbrev B1:=@PySem.StrLaws.glued_eq_join
abbrev B2:=@PySem.Obj.isFreed_of_fields
abbrev B3:=@List.mem_append_right
abbrev B4:=@List.getElem?_reverse
abbrev B5:=@List.Perm.append_left
abbrev B6:=@PyProof.Rows.wpS_mono
abbrev B7:=@PySem.wpAny_updateSeq_pair
abbrev B8:=@PyProof.Rows.seqEpoch_at
abbrev B9:=@PySem.isSubtype_type
abbrev Ca:=@PySem.Calls.evalArgs_plain
abbrev Cb:=@ne_true_of_eq_false
abbrev Cc:=@PyProof.Rows.entry_tuple_getitem
abbrev Cd:=@List.getElem?_range
abbrev Ce:=@List.flatten_append
abbrev Cf:=@PySem.wpAny_onRaise
abbrev Cg:=@PySem.evalPart_none
abbrev Ch:=@List.map_take
abbrev Ci:=@Array.map_map
abbrev Cj:=@PySem.wpAny_Constant_int
abbrev Ck:=@PySem.tupleKind_room_in1
abbrev Cn:=@PyProof.Rows.args_tuple_getitem
abbrev Co:=@PyProof.Rows.Subscript_
abbrev Cq:=@PySem.SeqAt.EqAt.str_str
abbrev Cr:=@PySem.SeqAt.EqAt.str_int
abbrev Cs:=@PySem.SeqAt.EqAt.int_str
abbrev Ct:=@Nat.lt_of_lt_of_le
abbrev Cu:=@List.getElem_range
abbrev Cv:=@List.filterMap_map
abbrev Cw:=@Int.natCast_nonneg
abbrev Cy:=@Int.emod_lt_of_pos
abbrev Cz:=@Array.getElem?_map
abbrev CB:=@PySem.wpAny_sequenceKey
abbrev CC:=@PySem.wpAny_assign_Name
abbrev CD:=@PySem.codeAny_mono
abbrev CF:=@bne_self_eq_false
abbrev CG:=@PySem.Txt.slice_le
abbrev CH:=@List.pairwise_map
abbrev CJ:=@List.mapM_toArray
abbrev CK:=@List.getElem?_map
abbrev CL:=@List.flatten_cons
abbrev CM:=@List.all_map
abbrev CN:=@Int.zero_add
abbrev CO:=@PySem.Calls.spliced_nil
abbrev CP:=@PySem.wpAny_isInstance
abbrev CQ:=@PySem.wpAny_execs_cons
abbrev CS:=@PySem.noFill_tuple_add
abbrev CT:=@map_eq_pure_bind
abbrev CU:=@Nat.succ_le_succ
abbrev CV:=@Nat.not_le_of_lt
abbrev CW:=@List.take_length
abbrev CY:=@List.filter_cons
abbrev CZ:=@List.any_eq_true
abbrev C0:=@PySem.Heap.size_update
abbrev C1:=@PySem.wpAny_letGo
abbrev C2:=@PySem.seqIndex_of
abbrev C3:=@List.getLast?_eq_some_getLast
abbrev C4:=@List.length_zip
abbrev C5:=@List.length_set
abbrev C6:=@List.dropLast_concat_getLast
abbrev C7:=@PySem.wpAny_newTuple
abbrev C8:=@PySem.wpAny_FormattedValue_plain
abbrev C9:=@PySem.SeqAt.RcNeAt.lists_lengths
abbrev Db:=@List.mapM_cons
abbrev Dc:=@List.getElem?_append_right
abbrev Dd:=@PySem.Calls.Name_function_global
abbrev De:=@Array.size_map
abbrev Df:=@List.pairwise_iff_getElem
abbrev Dg:=@List.getElem?_zip_eq_some
abbrev Dh:=@List.sum_cons
abbrev Di:=@List.mapM_nil
abbrev Dj:=@List.eq_of_mem_replicate
abbrev Dk:=@List.pairwise_singleton
abbrev Dl:=@List.getElem?_replicate
abbrev Dm:=@PyProof.noPylong_small
abbrev Do:=@Nat.lt_of_succ_lt_succ
abbrev Dq:=@Nat.add_comm
abbrev Dr:=@List.range_succ_eq_map
abbrev Ds:=@List.any_map
abbrev Dt:=@List.Perm.append_right
abbrev Du:=@Int.ediv_one
abbrev Dv:=@List.getElem?_toArray
abbrev Za:=@List.length_map
abbrev Ya:=@BH
abbrev Xa:=@List.length_append
abbrev Wa:=@List.mem_cons_of_mem
abbrev Va:=@List.mem_cons_self
abbrev Qa:=@Nat.le_refl
abbrev Yb:=@Option.bind_some
abbrev Xb:=@List.flatMap_cons
abbrev Wb:=@List.mem_map
abbrev Vb:=@BE
abbrev Qb:=@List.map_append
abbrev Zc:=@List.append_assoc
abbrev Yc:=@List.getD_eq_getElem?_getD
abbrev Xc:=@Ct
abbrev Wc:=@List.mem_of_getElem?
abbrev Vc:=@List.length_cons
abbrev Qc:=@List.map_map
abbrev Zd:=@List.mem_singleton
abbrev Yd:=@List.getElem?_eq_some_iff
abbrev Xd:=@Nat.le_trans
abbrev Wd:=@List.mem_cons
abbrev Vd:=@B3
abbrev Qd:=@List.map_cons
abbrev Ze:=@List.append_nil
abbrev Ye:=@List.map_congr_left
abbrev Xe:=@List.mem_append
abbrev We:=@Bool.false_ne_true
abbrev Ve:=@CK
abbrev Qe:=@Option.map_eq_some_iff
abbrev Zf:=@Array.length_toList
abbrev Yf:=@List.flatMap_append
abbrev Xf:=@List.eq_nil_of_length_eq_zero
abbrev Wf:=@Bool.and_eq_true
abbrev Vf:=@Dc
abbrev Qf:=@Nat.ne_of_lt
abbrev Zg:=@Bool.eq_iff_iff
abbrev Yg:=@List.mem_flatMap
abbrev Xg:=@Bw
abbrev Wg:=@List.length_take
abbrev Vg:=@List.length_drop
abbrev Qg:=@List.nodup_append
abbrev Zh:=@List.nodup_cons
abbrev Yh:=@List.all_eq_true
abbrev Xh:=@List.mem_append_left
abbrev Wh:=@List.length_nil
abbrev Vh:=@Array.perm_iff_toList_perm
abbrev Qh:=@Nat.succ_pos
abbrev Zi:=@List.length_reverse
abbrev Yi:=@List.length_singleton
abbrev Xi:=@Nat.zero_le
abbrev Wi:=@Nat.lt_irrefl
abbrev Vi:=@List.mem_range
abbrev Qi:=@List.find?_cons
abbrev Zj:=@List.getElem?_drop
abbrev Yj:=@Array.toList_append
abbrev Xj:=@Nat.le_add_right
abbrev Wj:=@Bx
abbrev Vj:=@List.length_replicate
abbrev Qj:=@Array.size_range
abbrev Zk:=@List.cons_append
abbrev Yk:=@List.mem_reverse
abbrev Xk:=@List.append_of_mem
abbrev Wk:=@List.nil_append
abbrev Vk:=@Nat.add_le_add_left
abbrev Qk:=@List.getElem?_eq_none
abbrev Zl:=@List.take_append_drop
abbrev Yl:=@List.getLastD_eq_getLast?
abbrev Xl:=@List.getElem?_of_mem
abbrev Wl:=@Int.toNat_natCast
abbrev Vl:=@List.length_range
abbrev Ql:=@Dl
abbrev Zm:=@Option.bind_eq_some_iff
abbrev Ym:=@List.filterMap_cons
abbrev Xm:=@List.length_pos_iff
abbrev Wm:=@List.flatMap_singleton
abbrev Vm:=@Nat.ne_of_gt
abbrev Qm:=@Array.toList_range
abbrev Zn:=@List.pairwise_cons
abbrev Yn:=@List.of_mem_zip
abbrev Xn:=@Nat.min_eq_left
open PySem
set_option Elab.async false
set_option linter.all false
set_option maxRecDepth 100000
namespace PySem
theorem Runs.toks{M:Model}{Γ:Ctx}{p:Pos}{t:Sem Fin}{fs:List Frame}{s s':Shared}{e:End}(h:Runs M Γ p t fs s e s'):s.toks<=s'.toks:=by
 induction h with|done=>exact Qa _|raise=>exact Qa _|yield=>exact Qa _|fresh _ ih=>exact Nat.le_of_succ_le ih|call _ _ ih1 ih2=>exact Xd ih1 ih2|resumeFresh _ _ _ _ ih1 ih2=>exact Xd ih1 ih2|resumeSuspended _ _ _ _ ih1 ih2=>exact Xd ih1 ih2|segRet _ _ ih1 ih2=>exact Xd ih1 ih2|segGen _ _ ih1 ih2=>exact Xd ih1 ih2|segSuspGen _ _ _ _ ih1 ih2=>exact Xd ih1 ih2|_=>assumption
theorem Wakes.toks{M:Model}{Γ:Ctx}{p:Pos}{g:Nat}{r:Resume}{s s':Shared}{res:GenResult}(h:Wakes M Γ p g r s res s'):s.toks<=s'.toks:=by
 unfold Wakes at h;split at h
 ·exact h.elim
 ·split at h
  ·obtain⟨e,s1,h1,_,_,rfl⟩:=h;exact h1.toks
  ·rw[h.2];exact Qa _
  ·rw[h.2];exact Qa _
 ·obtain⟨e,s1,h1,_,_,rfl⟩:=h;exact h1.toks
 ·rw[h.2];exact Qa _
 ·rw[h.2];exact Qa _
open Sem in
theorem PM{α:Type}{M:Model}{Γ:Ctx}{Q:α->Pos->Shared->Prop}{E:Value->Pos->Shared->Prop}{n:Nat}(t:Sem α):∀{p:Pos}{s:Shared},n<=s.toks->wp M Γ t (fun a p' s'=>n<=s'.toks->Q a p' s') (fun e p' s'=>n<=s'.toks->E e p' s') p s->wp M Γ t Q E p s:=by
 induction t with
 |pure a=>intro p s hs h;rw[wp]at h ⊢;exact h hs
 |raise e=>intro p s hs h;rw[wp]at h ⊢;exact h hs
 |unsupported w=>intro p s hs h;rw[wp]at h;exact h.elim
 |finish e=>intro p s hs h;rw[wp]at h;exact h.elim
 |rule tag k ih=>intro p s hs h;rw[wp]at h ⊢;exact ih _ hs h
 |«at» pos k ih=>intro p s hs h;rw[wp]at h ⊢;exact ih _ hs h
 |load a part k ih=>intro p s hs h;rw[wp]at h ⊢;obtain⟨o,e,h⟩:=h;exact⟨o,e,ih _ hs h⟩
 |update a part f k ih=>intro p s hs h;rw[wp]at h ⊢;exact⟨h.1,ih _ hs h.2⟩
 |alloc o k ih=>intro p s hs h;rw[wp]at h ⊢;exact ih _ hs h
 |loadIfAlive a k ih=>intro p s hs h;rw[wp]at h ⊢;exact ih _ hs h
 |point l k ih=>intro p s hs h;rw[wp]at h ⊢;exact ih _ hs h
 |register a k ih=>intro p s hs h;rw[wp]at h;exact h.elim
 |fresh k ih=>intro p s hs h;rw[wp]at h ⊢;exact ih _ (AJ hs) h
 |ask k ih=>intro p s hs h;rw[wp]at h ⊢;exact ih _ hs h
 |choose src n k ih=>intro p s hs h;rw[wp]at h ⊢;exact⟨h.1,ih _ hs h.2⟩
 |os q l k ih=>intro p s hs h;rw[wp]at h ⊢;exact ih _ hs h
 |call c hd g l k ih=>intro p s hs h;rw[wp]at h ⊢;obtain⟨r,s',h1,h2⟩:=h;exact⟨r,s',h1,ih _ (Xd hs h1.toks) h2⟩
 |handled own k ih=>intro p s hs h;rw[wp]at h ⊢;exact ih _ hs h
 |newGen c k ih=>intro p s hs h;rw[wp]at h ⊢;exact ih _ hs h
 |genState g k ih=>intro p s hs h;rw[wp]at h ⊢;obtain⟨st,e,h⟩:=h;exact⟨st,e,ih _ hs h⟩
 |resume g r l k ih=>intro p s hs h;rw[wp]at h ⊢;obtain⟨res,s',h1,h2⟩:=h;exact⟨res,s',h1,ih _ (Xd hs h1.toks) h2⟩
 |yield v g l k ih=>intro p s hs h;rw[wp]at h;exact h.elim
 |stack k ih=>intro p s hs h;rw[wp]at h ⊢;exact ih _ hs h
 |fork c k ih=>intro p s hs h;rw[wp]at h;exact h.elim
 |thread k ih=>intro p s hs h;rw[wp]at h ⊢;exact ih _ hs h
 |await a t b l k ih=>intro p s hs h;rw[wp]at h;exact h.elim
def bz{α:Type}{M:Model}{A:Around}{t:Sem α}{Q:α->Shared->Prop}{E:Value->Shared->Prop}{s:Shared}(h:wpAny M A t (fun a s'=>s.toks<=s'.toks->Q a s') (fun e s'=>s.toks<=s'.toks->E e s') s):wpAny M A t Q E s :=
 fun Γ p hi=>PM t (Qa _) (h Γ p hi)
def qb{M:Model}{A:Around}{c:Code}{R:Result->Shared->Prop}{s:Shared}(h:codeAny M A c (fun r s'=>s.toks<=s'.toks->R r s') s):codeAny M A c R s:=fun Γ p hc hb=>by
 obtain⟨r,s',h1,h2⟩:=h Γ p hc hb;exact⟨r,s',h1,h2 h1.toks⟩
end PySem
namespace L2
open PySem.Spec PyProof.Rows
abbrev Key:=Sum Int Str
def qc:Key->Value->Bool|.inl k,v=>Value.isInt k v|.inr x,v=>Value.isStrOf x v
def SZ(w:World):Key->Int|.inl k=>hashInt k|.inr x=>hashStr w x
theorem ck:∀{k:Key}{v:Value},qc k v=true->(∃i t,k=Sum.inl i/\v=Value.int i t)\/(∃x t,k=Sum.inr x/\v=Value.str x t)
 | .inl i,v,h=>by
  obtain⟨t,e⟩:=Value.isInt_shape (k:=i) (v:=v) h;exact .inl ⟨i,t,rfl,e⟩
 | .inr x,v,h=>by
  obtain⟨t,e⟩:=Value.isStrOf_shape (x:=x) (v:=v) h;exact .inr ⟨x,t,rfl,e⟩
def DD(i:Int)(t:Tok):qc (.inl i) (.int i t)=true:=by simp[qc,Value.isInt]
def DE(x:Str)(t:Tok):qc (.inr x) (.str x t)=true:=by simp[qc,Value.isStrOf]
def Mz(a b:Int):decide ((Sum.inl a:Key)=Sum.inl b)=(a == b):=by
 by_cases e:a=b
 ·subst e;simp
 ·have h:¬ (Sum.inl a:Key)=Sum.inl b:=fun q=>e (Sum.inl.inj q);rw[Ad h];exact(beq_eq_false_iff_ne.mpr e).symm
def MA(a b:Str):decide ((Sum.inr a:Key)=Sum.inr b)=decide (a=b):=by
 by_cases e:a=b
 ·subst e;simp
 ·have h:¬ (Sum.inr a:Key)=Sum.inr b:=fun q=>e (Sum.inr.inj q);rw[Ad h,Ad e]
def MB(a:Int)(b:Str):decide ((Sum.inl a:Key)=Sum.inr b)=false:=Ad (fun q=>nomatch q)
def MC(a:Str)(b:Int):decide ((Sum.inr a:Key)=Sum.inl b)=false:=Ad (fun q=>nomatch q)
def bT(prog:Program)(w:World):PySem.KeyKind prog w Key where
 is:=qc
 hash:=SZ w
 inj:=fun v a b ha hb=>by
  rcases ck ha with⟨i,t,rfl,rfl⟩|⟨x,t,rfl,rfl⟩
  ·rcases ck hb with⟨j,u,rfl,e⟩|⟨y,u,rfl,e⟩
   ·injection e with e1 _;rw[e1]
   ·exact nomatch e
  ·rcases ck hb with⟨j,u,rfl,e⟩|⟨y,u,rfl,e⟩
   ·exact nomatch e
   ·injection e with e1 _;rw[e1]
 byValue:=fun k v h=>by
  rcases ck h with⟨i,t,rfl,rfl⟩|⟨x,t,rfl,rfl⟩<;>rfl
 pyHash:=fun hv h=>by
  rcases ck hv with⟨i,t,rfl,rfl⟩|⟨x,t,rfl,rfl⟩
  ·exact wpAny_pyHash_int h
  ·exact wpAny_pyHash_str h
 eqBool:=fun hu hv h=>by
  rcases ck hu with⟨i,t,rfl,rfl⟩|⟨x,t,rfl,rfl⟩
  ·rcases ck hv with⟨j,u,rfl,rfl⟩|⟨y,u,rfl,rfl⟩
   ·rw[Mz]at h;exact wpAny_eqBool_int h
   ·rw[MB]at h;exact Cs i t y u _ _ _ _ h
  ·rcases ck hv with⟨j,u,rfl,rfl⟩|⟨y,u,rfl,rfl⟩
   ·rw[MC]at h;exact Cr x t j u _ _ _ _ h
   ·rw[MA]at h;exact wpAny_eqBool_str h
 «strs»:=fun k x t v h=>by
  rcases ck h with⟨i,u,rfl,e⟩|⟨y,u,rfl,e⟩
  ·exact nomatch e
  ·injection e with e1 _
   subst e1;cases v<;>rfl
def uR(prog:Program)(w:World)(i:Int)(t:Tok):(bT prog w).is (.inl i) (.int i t)=true:=DD i t
def fO(prog:Program)(w:World)(x:Str)(t:Tok):(bT prog w).is (.inr x) (.str x t)=true:=DE x t
end L2
namespace L2
open PySem.Spec PyProof.Rows
inductive V where
 | non|bl (b:Bool)|int (i:Int)|str (x:Str)|byt (b:Array UInt8)|flt (b:UInt64)|ref (a:Addr)|ty (n:String)
 deriving DecidableEq
def RelV:V->Value->Prop|.non,u=>u=Value.none|.bl b,u=>u=Value.bool b|.int i,u=>∃t,u=Value.int i t|.str x,u=>∃t,u=Value.str x t|.byt b,u=>∃t,u=Value.bytes b t|.flt b,u=>∃t,u=Value.float b t|.ref a,u=>u=Value.ref a|.ty n,u=>u=Value.type n
abbrev Vals:List V->List Value->Prop:=Paired RelV
theorem Vals.length{xs:List V}{us:List Value}(r:Vals xs us):xs.length=us.length:=Paired.length r
theorem Vals.get:∀{xs:List V}{us:List Value}{i:Nat}{x:V},Vals xs us->xs[i]?=some x->∃u,us[i]?=some u/\RelV x u
 |_,_,_,_,.nil,e=>by simp at e
 |_,_,0,_,.cons r _,e=>by simp at e;subst e;exact⟨_,rfl,r⟩
 | _,_,i+1,x,.cons _ t,e=>by
  obtain⟨u,h1,h2⟩:=Vals.get (i:=i) (x:=x) t (by simpa using e)
  exact⟨u,by simpa using h1,h2⟩
theorem Vals.set(r:RelV x u):∀{xs:List V}{us:List Value}(i:Nat),Vals xs us->Vals (xs.set i x) (us.set i u)|_,_,_,.nil=>.nil|_,_,0,.cons _ t=>.cons r t|_,_,i+1,.cons q t=>.cons q (Vals.set r i t)
theorem Vals.append:∀{xs ys:List V}{us ws:List Value},Vals xs us->Vals ys ws->Vals (xs++ys) (us++ws)|_,_,_,_,.nil,s=>s|_,_,_,_,.cons r t,s=>.cons r (Vals.append t s)
theorem Vals.take:∀{xs:List V}{us:List Value}(n:Nat),Vals xs us->Vals (xs.take n) (us.take n)|_,_,0,_=>.nil|_,_,_+1,.nil=>.nil|_,_,n+1,.cons r t=>.cons r (Vals.take n t)
theorem Vals.drop:∀{xs:List V}{us:List Value}(n:Nat),Vals xs us->Vals (xs.drop n) (us.drop n)|_,_,0,r=>r|_,_,_+1,.nil=>.nil|_,_,n+1,.cons _ t=>Vals.drop n t
def RelO:Option V->Option Value->Prop|some v,some u=>RelV v u|none,none=>True|_,_=>False
def KV{κ:Type}:List (κ×V)->List (κ×Value)->Prop:=Paired fun(p:κ×V) (q:κ×Value)=>p.1=q.1/\RelV p.2 q.2
def kV:Key->V|.inl i=>.int i|.inr x=>.str x
inductive HO where
  | lst (xs:List V)
  | tup (xs:List V)
  | dK (zX:List (Key×V))|dT (ep:Nat×List Addr) (zX:List (List Key×V))
  | set (S:Int->Bool) (n:Nat)
  | ins (C dx:Addr) (fs:List (Str×V))
  | own (x:Addr)
  | xd (fs:List (Str×V))
  | met (f x:Addr)
  | rng (lo hi:Int)
  | frz (o:Obj) (u:HO)
  | tbl (ps:Array Value)
  | ext (φ:Heap->Prop)
abbrev Hp:=Addr->Option HO
def upd(H:Hp)(a:Addr)(o:HO):Hp:=fun b=>if b=a then some o else H b
def aQ:upd H a o a=some o:=by unfold upd;rw[if_pos rfl]
def aC(h:b≠a):upd H a o b=H b:=by unfold upd;rw[Ah h]
def PN{H:Hp}{a b:Addr}{o u:HO}(h:H a=some o)(h':H b=some u)(d:o≠u):a≠b:=by
 intro e;subst e;rw[h]at h';exact d (Option.some.inj h')
def bo{H:Hp}{a b:Addr}{o:HO}(h:H a=some o)(h':H b=none):a≠b:=by
 intro e;subst e;rw[h]at h';cases h'
section
variable (P:Program)(w:World)
def ObjOk(H:Hp)(h:Heap)(a:Addr):HO->Prop
 |.lst xs=>xs.length<=sizeLine/\∃(its:List Value)(n:Nat),Vals xs its/\h.get? a=some { cls:=.type "list",data:=.seq its.toArray n }
 |.tup xs=>xs.length<=sizeLine/\∃its:List Value,Vals xs its/\IsTup h a its.toArray
 |.dK zX=>zX.length<=sizeLine/\(a == sysModules)=false/\∃vs,KV zX vs/\h.DictOf (bT P w) a vs
 | .dT ep zX=>zX.length<=sizeLine/\(a == sysModules)=false/\∃xs:List (List Key×Addr×Value),
   Paired (fun(p:List Key×V) (q:List Key×Addr×Value)=>p.1=q.1/\H q.2.1=some (.tup (p.1.map kV))/\RelV p.2 q.2.2) zX xs /\
   xs.map (·.2.1)=ep.2/\∃o es,h.get? a=some o/\o.ExactDict/\o.data=.dict es ep.1/\es.toList=xs.map (entryOfKey (tupleKind (bT P w)))/\(xs.map (·.1)).Nodup
 |.set S n=>h.SetOf (intKind P w) a S n
 | .ins C dx fs=>H dx=some (.own a)/\fs.length<=1000/\dx≠a/\h.get? a=some (W.instObj C dx) /\
   ∃mA,h.Ns1 dx mA/\(∀f,RelO (fs.lookup f) (mA f))/\PySem.Within mA (fs.map (·.1))
 |.own _=>∃o,h.get? a=some o
 |.xd fs=>∃mA,h.Ns1 a mA/\∀f,RelO (fs.lookup f) (mA f)
 |.rng lo hi=>∃t u v,h.get? a=some { cls:=.type "range",data:=.fields #[.int lo t,.int hi u,.int 1 v] }
 |.frz o u=>h.get? a=some o/\ObjOk H h a u
 |.tbl ps=>h.get? a=some { cls:=.none,data:=.fields ps }
 |.met f x=>h.get? a=some (W.methodObj (.ref f) (.ref x))
 |.ext φ=>φ h/\(∃o,h.get? a=some o)/\∀h1 h2:Heap,φ h1->(∀o,h1.get? a=some o->h2.get? a=some o)->φ h2
def HOk(H:Hp)(h:Heap):Prop:=∀a o,H a=some o->ObjOk P w H h a o
end
section
variable {P:Program}{w:World}{H H':Hp}{h h':Heap}{a:Addr}{o:HO}
theorem ObjOk.lt(x:ObjOk P w H h a o):a<h.objs.size:=by
 cases o with
 |lst xs=>obtain⟨_,_,_,_,e⟩:=x;exact Ag e
 |tup xs=>obtain⟨_,_,_,p⟩:=x;exact p.lt
 |dK zX=>obtain⟨_,_,_,_,o,_,_,e,_⟩:=x;exact Ag e
 |dT ep zX=>obtain⟨_,_,_,_,_,o,_,e,_⟩:=x;exact Ag e
 |set S n=>obtain⟨o,_,_,_,e,_⟩:=x;exact Ag e
 |ins C dx fs=>obtain⟨_,_,_,e,_⟩:=x;exact Ag e
 |own y=>obtain⟨_,e⟩:=x;exact Ag e
 |xd fs=>obtain⟨_,⟨_,_,_,e,_⟩,_⟩:=x;exact Ag e
 |rng lo hi=>obtain⟨_,_,_,e⟩:=x;exact Ag e
 |frz ob u=>obtain⟨e,_⟩:=x;exact Ag e
 |tbl ps=>exact Ag (show h.get? a=some _ from x)
 |met f y=>exact Ag (show h.get? a=some _ from x)
 |ext φ=>obtain⟨_,⟨_,e⟩,_⟩:=x;exact Ag e
theorem Paired.mapP:∀{l₁:List α}{l₂:List β},Paired F l₁ l₂->(∀a b,F a b->G a b)->Paired G l₁ l₂|_,_,.nil,_=>.nil|_,_,.cons r t,f=>.cons (f _ _ r) (Paired.mapP t f)
def ObjOk.stay(x:ObjOk P w H h a o)(k:∀b u,(b=a\/H b=some (.own a))->h.get? b=some u->h'.get? b=some u)
  (ho:∀b,H b=some (.own a)->H' b=some (.own a))(ht:∀b xs,H b=some (.tup xs)->H' b=some (.tup xs)):ObjOk P w H' h' a o:=by
 induction o with
 |lst xs=>obtain⟨z,its,n,r,e⟩:=x;exact⟨z,its,n,r,k _ _ (.inl rfl) e⟩
 |tup xs=>obtain⟨z,its,r,ob,e,c⟩:=x;exact⟨z,its,r,ob,k _ _ (.inl rfl) e,c⟩
 |dK zX=>obtain⟨z,y,vs,r,ob,es,ep,e,c⟩:=x;exact⟨z,y,vs,r,ob,es,ep,k _ _ (.inl rfl) e,c⟩
 |dT ep zX=>
  obtain⟨z,y,xs,r,ra,ob,es,e,c⟩:=x;exact⟨z,y,xs,Paired.mapP r fun p q z=>⟨z.1,ht _ _ z.2.1,z.2.2⟩,ra,ob,es,k _ _ (.inl rfl) e,c⟩
 |set S n=>obtain⟨ob,es,ep,t,e,c⟩:=x;exact⟨ob,es,ep,t,k _ _ (.inl rfl) e,c⟩
 |ins C dx fs=>
  obtain⟨d,z,ne,e,mA,⟨od,es,ep,e2,c⟩,r⟩:=x;exact⟨ho _ d,z,ne,k _ _ (.inl rfl) e,mA,⟨od,es,ep,k _ _ (.inr d) e2,c⟩,r⟩
 |own y=>obtain⟨ob,e⟩:=x;exact⟨ob,k _ _ (.inl rfl) e⟩
 |xd fs=>obtain⟨mA,⟨od,es,ep,e,c⟩,r⟩:=x;exact⟨mA,⟨od,es,ep,k _ _ (.inl rfl) e,c⟩,r⟩
 |rng lo hi=>obtain⟨t,u,v,e⟩:=x;exact⟨t,u,v,k _ _ (.inl rfl) e⟩
 |frz ob u ih=>obtain⟨e,q⟩:=x;exact⟨k _ _ (.inl rfl) e,ih q⟩
 |tbl ps=>
  have e:h.get? a=some { cls:=.none,data:=.fields ps }:=x;show h'.get? a=some { cls:=.none,data:=.fields ps };exact k a _ (.inl rfl) e
 |met f y=>
  have e:h.get? a=some (W.methodObj (.ref f) (.ref y)):=x;show h'.get? a=some (W.methodObj (.ref f) (.ref y));exact k a _ (.inl rfl) e
 |ext φ=>obtain⟨p,⟨o,e⟩,st⟩:=x;exact⟨st _ _ p fun o q=>k _ _ (.inl rfl) q,⟨o,k _ _ (.inl rfl) e⟩,st⟩
theorem HOk.lt(x:HOk P w H h)(e:H a=some o):a<h.objs.size:=(x a o e).lt
theorem HOk.fresh(x:HOk P w H h)(e:h.objs.size<=a):H a=none:=by
 cases q:H a with|none=>rfl|some u=>exact absurd (Xc (x.lt q) e) (Wi _)
def HOk.kept(x:HOk P w H h)(k:∀b u,h.get? b=some u->h'.get? b=some u):HOk P w H h':=fun a o e=>
 (x a o e).stay (fun b u _ q=>k b u q) (fun _ q=>q) fun _ _ q=>q
def HOk.laid(x:HOk P w H h)(k:∀b u,h.get? b=some u->h'.get? b=some u)(hp:h.objs.size<=a)(new:ObjOk P w (upd H a o) h' a o):HOk P w (upd H a o) h':=fun b u e=>by
 have hn:=x.fresh hp;by_cases hb:b=a
 ·subst hb;rw[aQ]at e;cases e;exact new
 ·rw[aC hb]at e;exact(x b u e).stay (fun c v _ q=>k c v q) (fun c q=>by rw[aC (bo q hn)];exact q) fun c xs q=>by rw[aC (bo q hn)];exact q
end
def Rd(H:Hp)(a:Addr)(u:HO):Prop:=H a=some u\/∃o,H a=some (.frz o u)
def Rd.ok(r:Rd H a u)(x:HOk P w H h):ObjOk P w H h a u:=by
 rcases r with r|⟨o,r⟩
 ·exact x a u r
 ·obtain⟨_,q⟩:=x a _ r;exact q
def PP:Option HO->Prop|some (.lst _)=>True|some (.dK _)=>True|some (.dT _ _)=>True|some (.set _ _)=>True|some (.ins _ _ _)=>True|some (.ext _)=>True|_=>False
section
variable {P:Program}{w:World}{H:Hp}{h h':Heap}{x e:Addr}{o':HO}
def HOk.write(ok:HOk P w H h)(mu:PP (H x))(he:e=x\/H e=some (.own x))(k:∀b u,b≠e->h.get? b=some u->h'.get? b=some u)(heo:∃u,h'.get? e=some u)
  (new:ObjOk P w (upd H x o') h' x o'):HOk P w (upd H x o') h':=fun b u q=>by
 have nown:∀c y,H c=some (.own y)->c≠x:=fun c y r z=>by subst z;rw[r]at mu;exact mu
 have ntup:∀c xs,H c=some (.tup xs)->c≠x:=fun c xs r z=>by subst z;rw[r]at mu;exact mu
 by_cases hb:b=x
 ·subst hb;rw[aQ]at q;cases q;exact new
 ·rw[aC hb]at q;by_cases hbe:b=e
  ·have q':H b=some (.own x):=by
    rcases he with z|z
    ·exact absurd (hbe.trans z) hb
    ·rw[hbe];exact z
   rw[q]at q';cases q';obtain⟨v,hv⟩:=heo;exact⟨v,by rw[hbe];exact hv⟩
  ·refine(ok b u q).stay (fun c v hc r=>k c v ?_ r) (fun c r=>by rw[aC (nown c b r)];exact r) fun c xs r=>by rw[aC (ntup c xs r)];exact r
   rcases hc with rfl|hc
   ·exact hbe
   ·rintro rfl;rcases he with z|z
    ·exact nown c b hc z
    ·rw[hc]at z;cases z;exact hb rfl
end
structure Un(fs ex:List Addr)(H H':Hp)(h h':Heap):Prop where
 keep:∀b o,h.get? b=some o->H b=none->b∉fs->b∉ex->h'.get? b=some o
 slot:∀b o,h.get? b=some o->H b=none->b∈fs->b∉ex->∃sl,h'.get? b=some { o with slots:=sl }
 free:∀b o,h.get? b=some o->H b=none->b∉ex->H' b=none
 there:∀b o,h.get? b=some o->b∉ex->∃o',h'.get? b=some o'
 tups:∀b xs,H b=some (.tup xs)->H' b=some (.tup xs)
 frzs:∀b o u,H b=some (.frz o u)->H' b=some (.frz o u)
 tbls:∀b ps,H b=some (.tbl ps)->∃more,H' b=some (.tbl (ps++more))
section
variable {fs fs' ex ex':List Addr}{H H1 H2:Hp}{h h1 h2 h':Heap}{a x e:Addr}{o:HO}
def Un.any(u:Un fs ex H H1 h h1)(q:h.get? b=some ob)(n:H b=none)(hx:b∉ex):∃sl,h1.get? b=some { ob with slots:=sl }:=by
 by_cases hb:b∈fs
 ·exact u.slot b ob q n hb hx
 ·exact⟨ob.slots,u.keep b ob q n hb hx⟩
def Un.kept(k:∀b u,h.get? b=some u->h'.get? b=some u):Un fs ex H H h h' :=
 ⟨fun b ob q _ _ _=>k b ob q,fun b ob q _ _ _=>⟨ob.slots,k b ob q⟩,fun _ _ _ n _=>n,fun b ob q _=>⟨ob,k b ob q⟩,fun _ _ q=>q,fun _ _ _ q=>q,fun _ ps q=>⟨#[],by rw[q];simp⟩⟩
def Un.refl:Un fs ex H H h h:=Un.kept fun _ _ q=>q
def Un.laid(k:∀b u,h.get? b=some u->h'.get? b=some u)(hp:h.objs.size<=a)(hn:H a=none):Un fs ex H (upd H a o) h h' where
 keep:=fun b u q _ _ _=>k b u q
 slot:=fun b u q _ _ _=>⟨u.slots,k b u q⟩
 free:=fun b u q n _=>by rw[aC (Qf (Xc (Ag q) hp))];exact n
 there:=fun b u q _=>⟨u,k b u q⟩
 tups:=fun b xs q=>by rw[aC (bo q hn)];exact q
 frzs:=fun b u xs q=>by rw[aC (bo q hn)];exact q
 tbls:=fun b ps q=>⟨#[],by rw[aC (bo q hn),q];simp⟩
def Un.write(mu:PP (H x))(he:e=x\/H e=some (.own x))(k:∀b u,b≠e->h.get? b=some u->h'.get? b=some u)(heo:∃u,h'.get? e=some u):Un fs ex H (upd H x o) h h':=by
 have hx:∀b,H b=none->b≠x:=fun b n z=>by subst z;rw[n]at mu;exact mu
 have hb:∀b,H b=none->b≠e:=fun b n z=>by
  subst z;rcases he with r|r
  ·exact hx b n r
  ·rw[n]at r;cases r
 have hm:∀b u,H b=some u->¬ PP (some u)->b≠x:=fun b u q nm z=>by subst z;rw[q]at mu;exact nm mu
 refine⟨fun b u q n _ _=>k b u (hb b n) q,fun b u q n _ _=>⟨u.slots,k b u (hb b n) q⟩,fun b u q n _=>by rw[aC (hx b n)];exact n,fun b u q _=>?_,
  fun b xs q=>by rw[aC (hm b _ q fun z=>z)];exact q,fun b u xs q=>by rw[aC (hm b _ q fun z=>z)];exact q,fun b ps q=>⟨#[],by rw[aC (hm b _ q fun z=>z),q];simp⟩⟩
 by_cases hbe:b=e
 ·subst hbe;exact heo
 ·exact⟨u,k b u hbe q⟩
end
def SM(h:Heap)(H:Hp):List Addr:=(List.range h.objs.size).filter fun a=>(H a).isSome
def tD(h:Heap)(H:Hp):Heap:=W.hideAll h (SM h H)
def DF(h:Heap)(H:Hp):(tD h H).objs.size=h.objs.size:=W.hideAll_size _ _
def EJ{h:Heap}(e:h.get? b=some o)(n:H b=none):(tD h H).get? b=some o :=
 W.hideAll_get _ e fun hm=>by
  have q:(H b).isSome=true:=(List.mem_filter.mp hm).2;rw[n]at q;simp at q
theorem IU{h:Heap}(e:(tD h H).get? b=some o):h.get? b=some o/\H b=none:=by
 have e':h.get? b=some o:=W.of_hideAll (SM h H) e;refine⟨e',?_⟩;cases q:H b with
 |none=>rfl
 |some x=>
  have hm:b∈SM h H:=List.mem_filter.mpr ⟨Vi.mpr (Ag e'),by simp[q]⟩
  have z:(tD h H).get? b=none:=W.hideAll_none (SM h H) hm;rw[z]at e;cases e
end L2
namespace L2
open PySem.Spec PyProof.Rows
structure Mod(K:W.Frag)(mg:Str->Option Value)(base:Heap):Prop where
 kin:K.In base
 glob:base.Ns mainGlobals mg
 blt:∃mb,base.Ns builtinsNs mb/\∀x:Str,x≠"__name__"->mb x=bootBuiltins x
 nolimit:base.NoLimit
structure Cx where
 prog:Program
 w:World
 K:W.Frag
 mg:Str->Option Value
 base:Heap
 A:Around
 N:List Str
 s₀:Shared
 H₀:Hp
 env:Env
 outer:List Env
 stack:List Env
 ex:List Addr
 fn:Str->Bool
 calm:Bool
 pn:List (Addr×Obj)
 xe:Value->Shared->Prop
def wJ(l:List Env):List Addr:=l.filterMap (·.frame)
abbrev Cx.fs(X:Cx):List Addr:=wJ X.outer
def S0(sc:Scope)(x:Str):Prop:=sc.names.lookup x=some .local\/sc.names.lookup x=some .cell\/sc.names.lookup x=some .free
def Loc(sc:Scope)(x:Str):Prop:=sc.names.lookup x=some .local\/sc.names.lookup x=some .cell
def Look(env:Env)(h:Heap)(m:Str->Option Value)(x:Str)(u:Value):Prop :=
 (env.kindOf x=some .local/\m x=some u)\/((env.kindOf x=some .cell\/env.kindOf x=some .free)/\∃c,env.cells.lookup x=some c/\h.IsCell c (some u))
structure Cx.Ok(X:Cx):Prop where
 mod:Mod X.K X.mg X.base
 kind:X.env.scope.kind=.function
 glob:X.env.globals=mainGlobals
 blt:X.env.builtins=builtinsNs
 above:X.s₀.heap.objs.size<=X.env.locals
 inj:∀x y c,X.env.cells.lookup x=some c->X.env.cells.lookup y=some c->x=y
 has:∀x,(X.env.kindOf x=some .cell\/X.env.kindOf x=some .free)->∃c,X.env.cells.lookup x=some c
 cab:∀x c,X.fn x=true->X.env.cells.lookup x=some c->X.s₀.heap.objs.size<=c
 hd:X.calm=true->X.A.handled=none
 frames:X.A.frames=some X.stack
 stk:X.stack=X.outer\/(X.stack=X.env::X.outer/\X.env.frame=some X.env.locals)
 exf:∀b∈X.ex,b≠X.env.locals/\∀x c,X.env.cells.lookup x=some c->c≠b
 bs:∀b o,X.base.get? b=some o->X.s₀.heap.get? b=some o/\X.H₀ b=none
 bsz:X.base.objs.size<=X.s₀.heap.objs.size
 noex:∀b o,X.base.get? b=some o->b∉X.ex
 exfs:∀b∈X.ex,b∉X.fs
 funs:X.s₀.heap.FunFrames X.base X.outer
 frf:∀b∈X.fs,X.H₀ b=none
structure Inv(X:Cx)(z9:List (Addr×Obj))(σ:List (Option V))(H:Hp)(s:Shared):Prop where
 ok:X.Ok
 os:s.os=X.s₀.os
 bare:AllBare s.gens
 base:Un X.fs X.ex X.H₀ H X.s₀.heap s.heap
 loc:∃m,s.heap.Ns X.env.locals m/\∀(i:Nat)(x:Str)(v:V),X.N[i]?=some x->σ[i]?=some (some v)->S0 X.env.scope x->∃u,RelV v u/\Look X.env s.heap m x u
 cell:∀x c,X.env.cells.lookup x=some c->∃v,s.heap.IsCell c v
 free:H X.env.locals=none
 freeC:∀x c,X.env.cells.lookup x=some c->H c=none
 pin:∀p∈X.pn++z9,s.heap.get? p.1=some p.2/\H p.1=none/\p.1≠X.env.locals/\p.1∉X.fs/\∀v,p.2.data≠.cell v
 hok:HOk X.prog X.w H s.heap
 len:σ.length=X.N.length
 tk:0<s.toks
def Inv.tkl'{X:Cx}{z9:List (Addr×Obj)}{σ:List (Option V)}{H:Hp}{s:Shared}{n:Nat}(I:Inv X z9 σ H s)(h:s.toks<=n):0<n:=Xc I.tk h
def Inv.tkl{X:Cx}{z9:List (Addr×Obj)}{σ:List (Option V)}{H:Hp}{s:Shared}{n:Nat}(h:s.toks<=n)(I:Inv X z9 σ H s):0<n:=Xc I.tk h
section
variable {X:Cx}{z9:List (Addr×Obj)}{σ:List (Option V)}{H H':Hp}{s:Shared}{h':Heap}
def Cx.Ok.nofr(ok:X.Ok)(e:X.base.get? b=some o):b∉X.fs:=fun hb=>by
 have:=(ok.funs.mem hb).1;rw[e]at this;cases this
theorem Inv.bs(I:Inv X z9 σ H s):∀b o,X.base.get? b=some o->s.heap.get? b=some o/\H b=none:=fun b o e=>
 ⟨I.base.keep b o (I.ok.bs b o e).1 (I.ok.bs b o e).2 (I.ok.nofr e) (I.ok.noex b o e),I.base.free b o (I.ok.bs b o e).1 (I.ok.bs b o e).2 (I.ok.noex b o e)⟩
def Inv.bk(I:Inv X z9 σ H s):∀b o,X.base.get? b=some o->s.heap.get? b=some o:=fun b o e=>(I.bs b o e).1
theorem Inv.mod(I:Inv X z9 σ H s):Mod X.K X.mg X.base:=I.ok.mod
def Inv.kIn(I:Inv X z9 σ H s):X.K.In s.heap:=I.ok.mod.kin.keeps I.bk
theorem Inv.lt(I:Inv X z9 σ H s):X.env.locals<s.heap.objs.size:=let ⟨_,hn,_⟩:=I.loc;hn.lt
def Inv.sz(I:Inv X z9 σ H s):X.s₀.heap.objs.size<=s.heap.objs.size:=Xd I.ok.above (Bq I.lt)
def Inv.nofs(I:Inv X z9 σ H s)(h:s.heap.objs.size<=a):a∉X.fs:=fun hb=>by
 obtain⟨_,o,ho,_⟩:=I.ok.funs.mem hb;exact absurd (Xc (Ag ho) (Xd I.sz h)) (Wi _)
def Inv.cne(I:Inv X z9 σ H s):∀x c,X.env.cells.lookup x=some c->c≠X.env.locals:=fun x c e z=>by
 obtain⟨v,o,ho,hd⟩:=I.cell x c e;obtain⟨m,⟨o',es,ep,ho',hd',_⟩,_⟩:=I.loc;rw[z,ho']at ho;cases ho;rw[hd']at hd;cases hd
theorem Inv.funs(I:Inv X z9 σ H s):s.heap.FunFrames X.base X.outer:=by
 have all:∀(l:List Env),(∀b∈wJ l,b∈X.fs)->X.s₀.heap.FunFrames X.base l->s.heap.FunFrames X.base l:=by
  intro l;induction l with
  |nil=>intro _ _;trivial
  |cons env r ih=>
   intro hs hl;obtain⟨hk,⟨L,o,hf,hn,ho,hd⟩,hr⟩:=hl;have hL:L∈X.fs:=hs L (by unfold wJ;rw[Ym,hf];exact Va)
   obtain⟨sl,e⟩:=I.base.slot L o ho (I.ok.frf L hL) hL fun z=>I.ok.exfs L z hL;exact⟨hk,⟨L,_,hf,hn,e,hd⟩,ih (fun b hb=>hs b (by unfold wJ;rw[Ym,hf];exact Wa _ hb)) hr⟩
 exact all X.outer (fun _ hb=>hb) I.ok.funs
theorem Inv.stack(I:Inv X z9 σ H s):s.heap.FunFrames X.base X.stack:=by
 rcases I.ok.stk with e|⟨e,hf⟩
 ·rw[e];exact I.funs
 ·rw[e];obtain⟨m,hn,_⟩:=I.loc;refine .cons (by rw[I.ok.kind];decide) hf hn ?_ I.funs
  exact Heap.get?_none_of_le (Xd I.ok.bsz I.ok.above)
def Inv.stkSub(I:Inv X z9 σ H s):∀b∈wJ X.stack,b∈X.env.locals::X.fs:=fun b hb=>by
 rcases I.ok.stk with e|⟨e,hf⟩
 ·rw[e]at hb;exact Wa _ hb
 ·rw[e]at hb;unfold wJ at hb;rw[Ym,hf]at hb;exact hb
def Inv.stkFree(I:Inv X z9 σ H s):∀b∈wJ X.stack,H b=none:=fun b hb=>by
 rcases Wd.mp (I.stkSub b hb) with e|hb
 ·rw[e];exact I.free
 ·obtain⟨_,o,ho,_⟩:=I.ok.funs.mem hb;exact I.base.free b o ho (I.ok.frf b hb) fun z=>I.ok.exfs b z hb
def Inv.step{g':Array GenState}{t':Nat}{d':Drawn}{ch:List Addr}(I:Inv X z9 σ H s)
  (hch:∀b∈ch,(b∈X.ex\/X.s₀.heap.objs.size<=b)/\b≠X.env.locals/\(∀x c,X.env.cells.lookup x=some c->c≠b)/\∀p∈X.pn++z9,p.1≠b)
  (keep:∀b o,b≠X.env.locals->b∉X.fs->b∉ch->s.heap.get? b=some o->H b=none->h'.get? b=some o)
  (slot:∀b o,b≠X.env.locals->b∈X.fs->b∉ch->s.heap.get? b=some o->H b=none->∃sl,h'.get? b=some { o with slots:=sl }) (free:∀b o,b∉ch->s.heap.get? b=some o->H b=none->H' b=none)
  (there:∀b o,b∉ch->s.heap.get? b=some o->∃o',h'.get? b=some o')
  (tups:∀b xs,H b=some (.tup xs)->H' b=some (.tup xs)) (frzs:∀b o u,H b=some (.frz o u)->H' b=some (.frz o u)) (tbls:∀b ps,H b=some (.tbl ps)->∃more,H' b=some (.tbl (ps++more)))
  (ns:∀m,s.heap.Ns X.env.locals m->h'.Ns X.env.locals m) (hok:HOk X.prog X.w H' h') (hg:AllBare g') (ht:0<t':=by first|assumption|exact Qh _|exact Inv.tk (by assumption)|exact Inv.tkl (by assumption) (by assumption)|lia) :
  Inv X z9 σ H' { s with heap:=h',gens:=g',drawn:=d',toks:=t' }:=by
 have neL:∀b o,X.s₀.heap.get? b=some o->b≠X.env.locals:=fun b o e=>Qf (Xc (Ag e) I.ok.above);have neC:∀b o,X.s₀.heap.get? b=some o->b∉X.ex->b∉ch:=fun b o e hx hb=>by
  rcases(hch b hb).1 with z|z
  ·exact hx z
  ·exact absurd (Xc (Ag e) z) (Wi _)
 have cellK:∀x c,X.env.cells.lookup x=some c->∀v,s.heap.IsCell c v->h'.IsCell c v:=fun x c e v ⟨o,ho,hd⟩=>by
  have nch:c∉ch:=fun z=>(hch c z).2.2.1 x c e rfl;by_cases hc:c∈X.fs
  ·obtain⟨sl,q⟩:=slot c o (I.cne x c e) hc nch ho (I.freeC x c e);exact⟨_,q,hd⟩
  ·exact⟨o,keep c o (I.cne x c e) hc nch ho (I.freeC x c e),hd⟩
 refine⟨I.ok,I.os,hg,⟨fun b o e n hb hx=>?_,fun b o e n hb hx=>?_,fun b o e n hx=>?_,fun b o e hx=>?_,fun b xs e=>tups b xs (I.base.tups b xs e),fun b o xs e=>frzs b o xs (I.base.frzs b o xs e),fun b ps e=>?_⟩,?_,fun x c e=>?_,?_,fun x c e=>?_,fun p hp=>?_,hok,I.len,ht⟩
 ·exact keep b o (neL b o e) hb (neC b o e hx) (I.base.keep b o e n hb hx) (I.base.free b o e n hx)
 ·obtain⟨sl,e1⟩:=I.base.slot b o e n hb hx;obtain⟨sl',e2⟩:=slot b _ (neL b o e) hb (neC b o e hx) e1 (I.base.free b o e n hx);exact⟨sl',e2⟩
 ·obtain⟨o',e1⟩:=I.base.there b o e hx;exact free b o' (neC b o e hx) e1 (I.base.free b o e n hx)
 ·obtain⟨o',e1⟩:=I.base.there b o e hx;exact there b o' (neC b o e hx) e1
 ·obtain⟨m1,e1⟩:=I.base.tbls b ps e;obtain⟨m2,e2⟩:=tbls b _ e1;exact⟨m1++m2,by rw[e2,Array.append_assoc]⟩
 ·obtain⟨m,hn,hl⟩:=I.loc;refine⟨m,ns m hn,fun i x v e1 e2 e3=>?_⟩;obtain⟨u,r,l⟩:=hl i x v e1 e2 e3;refine⟨u,r,?_⟩;rcases l with l|⟨k,c,e,z⟩
  ·exact .inl l
  ·exact .inr ⟨k,c,e,cellK x c e _ z⟩
 ·obtain⟨v,z⟩:=I.cell x c e;exact⟨v,cellK x c e v z⟩
 ·obtain⟨m,⟨o,_,_,ho,_⟩,_⟩:=I.loc;exact free _ o (fun z=>(hch _ z).2.1 rfl) ho I.free
 ·obtain⟨v,o,ho,hd⟩:=I.cell x c e;exact free c o (fun z=>(hch c z).2.2.1 x c e rfl) ho (I.freeC x c e)
 ·obtain⟨e,n,ne,nf,d⟩:=I.pin p hp;have nch:p.1∉ch:=fun z=>(hch p.1 z).2.2.2 p hp rfl;exact⟨keep p.1 p.2 ne nf nch e n,free p.1 p.2 nch e n,ne,nf,d⟩
def Inv.un(I:Inv X z9 σ H s)(u:Un X.fs [] H H' s.heap h')(hok:HOk X.prog X.w H' h')(ht:0<t':=by first|assumption|exact Qh _|exact Inv.tk (by assumption)|exact Inv.tkl (by assumption) (by assumption)|lia):Inv X z9 σ H' { s with heap:=h',toks:=t' }:=by
 obtain⟨m,⟨o,es,ep,ho,r⟩,_⟩:=id I.loc;obtain⟨sl,hL⟩:=u.any ho I.free (by simp)
 exact I.step (g':=s.gens) (d':=s.drawn) (ch:=[]) (fun _ z=>nomatch z) (fun b o _ hb _ e n=>u.keep b o e n hb (by simp)) (fun b o _ hb _ e n=>u.slot b o e n hb (by simp)) (fun b o _ e n=>u.free b o e n (by simp)) (fun b o _ e=>u.there b o e (by simp)) u.tups u.frzs u.tbls (fun m' hm=>by
  obtain⟨o',es',ep',ho',r'⟩:=hm;rw[ho]at ho';cases ho'
  exact⟨_,es',ep',hL,r'⟩) hok I.bare
def Inv.call{g':Array GenState}{t':Nat}{d':Drawn}{ch:List Addr}(I:Inv X z9 σ H s)(u:Un (wJ X.stack) ch H H' s.heap h')(hok:HOk X.prog X.w H' h')(hg:AllBare g')
  (hch:∀b∈ch,(b∈X.ex\/X.s₀.heap.objs.size<=b)/\b≠X.env.locals/\(∀x c,X.env.cells.lookup x=some c->c≠b)/\∀p∈X.pn++z9,p.1≠b)(ht:0<t':=by first|assumption|exact Qh _|exact Inv.tk (by assumption)|exact Inv.tkl (by assumption) (by assumption)|lia) :
  Inv X z9 σ H' { s with heap:=h',gens:=g',drawn:=d',toks:=t' }:=by
 obtain⟨m,⟨o,es,ep,ho,r⟩,_⟩:=id I.loc;obtain⟨sl,hL⟩:=u.any ho I.free fun z=>(hch _ z).2.1 rfl
 exact I.step (ch:=ch) hch (fun b o hL hb hc e n=>u.keep b o e n (fun z=>(Wd.mp (I.stkSub b z)).elim hL hb) hc) (fun b o _ _ hc e n=>u.any e n hc) (fun b o hc e n=>u.free b o e n hc) (fun b o hc e=>u.there b o e hc) u.tups u.frzs u.tbls (fun m' hm=>by
  obtain⟨o',es',ep',ho',r'⟩:=hm;rw[ho]at ho';cases ho'
  exact⟨_,es',ep',hL,r'⟩) hok hg
def Inv.turned{t':Nat}{it:Addr}(I:Inv X z9 σ H s)(k:∀b o,b≠it->s.heap.get? b=some o->h'.get? b=some o)(hn:H it=none)(hL:it≠X.env.locals)
  (h1:it∈X.ex\/X.s₀.heap.objs.size<=it)(h2:∀x c,X.env.cells.lookup x=some c->c≠it)(h3:∀p∈X.pn++z9,p.1≠it)(ht:0<t':=by first|assumption|exact Qh _|exact Inv.tk (by assumption)|exact Inv.tkl (by assumption) (by assumption)|lia):Inv X z9 σ H { s with heap:=h',toks:=t' }:=by
 have nit:∀b u,H b=some u->b≠it:=fun b u e z=>by rw[z,hn]at e;cases e
 refine I.step (g':=s.gens) (d':=s.drawn) (ch:=[it]) (fun b hb=>?_) (fun b o _ _ hc e _=>k b o (fun z=>hc (by simp[z])) e) (fun b o _ _ hc e _=>⟨o.slots,k b o (fun z=>hc (by simp[z])) e⟩) (fun _ _ _ _ n=>n)
  (fun b o hc e=>⟨o,k b o (fun z=>hc (by simp[z])) e⟩) (fun _ _ e=>e) (fun _ _ _ e=>e) (fun b ps e=>⟨#[],by rw[e];simp⟩) (fun m hm=>?_) (fun b u e=>?_) I.bare
 ·have e:b=it:=by simpa using hb
  subst e;exact⟨h1,hL,h2,h3⟩
 ·obtain⟨o,es,ep,ho,r⟩:=hm;exact⟨o,es,ep,k _ o (Au hL) ho,r⟩
 ·refine(I.hok b u e).stay (fun c v hc q=>k c v ?_ q) (fun _ q=>q) fun _ _ q=>q;rcases hc with z|z
  ·rw[z];exact nit b u e
  ·exact nit c _ z
def Inv.tok(I:Inv X z9 σ H s)(t':Nat)(ht:0<t':=by first|assumption|exact Qh _|exact Inv.tk (by assumption)|exact Inv.tkl (by assumption) (by assumption)|lia):Inv X z9 σ H { s with toks:=t' }:=I.un (h':=s.heap) (t':=t') Un.refl I.hok
theorem Inv.kept(I:Inv X z9 σ H s)(k:∀b u,s.heap.get? b=some u->h'.get? b=some u)(ht:0<t':=by first|assumption|exact Qh _|exact Inv.tk (by assumption)|exact Inv.tkl (by assumption) (by assumption)|lia):Inv X z9 σ H { s with heap:=h',toks:=t' }:=I.un (Un.kept k) (I.hok.kept k)
theorem Inv.laid(I:Inv X z9 σ H s)(k:∀b u,s.heap.get? b=some u->h'.get? b=some u)(hp:s.heap.objs.size<=a)(new:ObjOk X.prog X.w (upd H a o) h' a o)(ht:0<t':=by first|assumption|exact Qh _|exact Inv.tk (by assumption)|exact Inv.tkl (by assumption) (by assumption)|lia) :
  Inv X z9 σ (upd H a o) { s with heap:=h',toks:=t' }:=I.un (Un.laid k hp (I.hok.fresh hp)) (I.hok.laid k hp new)
theorem Inv.write(I:Inv X z9 σ H s)(mu:PP (H x))(he:e=x\/H e=some (.own x))(k:∀b u,b≠e->s.heap.get? b=some u->h'.get? b=some u)(heo:∃u,h'.get? e=some u)
  (new:ObjOk X.prog X.w (upd H x o) h' x o)(ht:0<t':=by first|assumption|exact Qh _|exact Inv.tk (by assumption)|exact Inv.tkl (by assumption) (by assumption)|lia):Inv X z9 σ (upd H x o) { s with heap:=h',toks:=t' }:=I.un (Un.write mu he k heo) (I.hok.write mu he k heo new)
def Inv.weak{σ':List (Option V)}(I:Inv X z9 σ H s)(hl:σ'.length=σ.length)(w:∀(i:Nat) v,σ'[i]?=some (some v)->σ[i]?=some (some v)):Inv X z9 σ' H s :=
 ⟨I.ok,I.os,I.bare,I.base,let ⟨m,hn,hl'⟩:=I.loc;⟨m,hn,fun i x v e1 e2 e3=>hl' i x v e1 (w i v e2) e3⟩,I.cell,I.free,I.freeC,I.pin,I.hok,hl.trans I.len,I.tk⟩
def Inv.pins_of(I:Inv X z9 σ H s)(h:∀p∈pins',s.heap.get? p.1=some p.2/\H p.1=none/\p.1≠X.env.locals/\p.1∉X.fs/\∀v,p.2.data≠.cell v):Inv X pins' σ H s :=
 ⟨I.ok,I.os,I.bare,I.base,I.loc,I.cell,I.free,I.freeC,fun p hp=>(Xe.mp hp).elim (fun z=>I.pin p (Xh _ z)) (h p),I.hok,I.len,I.tk⟩
def uS{N:List Str}(hN:N.Nodup){i j:Nat}{x:Str}(a:N[i]?=some x)(b:N[j]?=some x):i=j:=by
 obtain⟨h1,e1⟩:=Yd.mp a;obtain⟨h2,e2⟩:=Yd.mp b;exact(List.getElem_inj hN).mp (e1.trans e2.symm)
def nU{M:Model}{A:Around}{E:Value->Shared->Prop}{i:Nat}{x:Str}{v:V}{u:Value}{Q:Unit->Shared->Prop}(I:Inv X z9 σ H s)(hN:X.N.Nodup)(hi:X.N[i]?=some x)(hx:Loc X.env.scope x)(r:RelV v u)
  (h:∀s',Inv X z9 (σ.set i (some v)) H s'->(∃a,Heap.SameBut a s.heap s'.heap/\(a=X.env.locals\/X.env.cells.lookup x=some a))->(∃m,s'.heap.Ns X.env.locals m/\Look X.env s'.heap m x u)->Q () s')(hf:X.fn x=true\/X.env.scope.names.lookup x=some .local:=by first|exact .inl rfl|exact .inr rfl|assumption):wpAny M A (storeName X.env x u) Q E s:=by
 obtain⟨m,hn,hl⟩:=id I.loc;have hcls:(X.env.scope.kind == .class||(X.env.scope.kind == .module&&X.env.locals != X.env.globals))=false:=by rw[I.ok.kind];rfl
 have hiσ:i<σ.length:=by rw[I.len];exact(Yd.mp hi).1
 have cne:=I.cne;have tracked:∀{a:Addr}{h':Heap},(∃o,s.heap.get? a=some o/\H a=none)->Heap.SameBut a s.heap h'->HOk X.prog X.w H h':=fun {a h'} ha hs b ob e=>by
  obtain⟨_,_,hfree⟩:=ha;refine(I.hok b ob e).stay (fun c w' hc q=>(hs.2 c ?_).trans q) (fun _ q=>q) fun _ _ q=>q;rintro rfl;rcases hc with rfl|hc
  ·rw[hfree]at e;cases e
  ·rw[hfree]at hc;cases hc
 rcases hx with hk|hk
 ·refine wpAny_storeName_local hk hn (fun h' hn' hs=>?_) hcls;obtain⟨oL,_,_,hoL,_⟩:=id hn;refine h _ ⟨I.ok,I.os,I.bare,⟨fun b o e n hb hx=>?_,fun b o e n hb hx=>?_,I.base.free,fun b o e hx=>?_,I.base.tups,I.base.frzs,I.base.tbls⟩,⟨_,hn',fun j y v' e1 e2 e3=>?_⟩,fun y c e=>?_,I.free,I.freeC,fun p hp=>?_,tracked ⟨oL,hoL,I.free⟩ hs,by simpa using I.len,Qh _⟩ ⟨_,hs,.inl rfl⟩ ⟨_,hn',.inl ⟨hk,by simp⟩⟩
  ·exact(hs.2 b (Qf (Xc (Ag e) I.ok.above))).trans (I.base.keep b o e n hb hx)
  ·obtain⟨sl,e1⟩:=I.base.slot b o e n hb hx;exact⟨sl,(hs.2 b (Qf (Xc (Ag e) I.ok.above))).trans e1⟩
  ·obtain⟨o',e1⟩:=I.base.there b o e hx;exact⟨o',(hs.2 b (Qf (Xc (Ag e) I.ok.above))).trans e1⟩
  ·by_cases hj:j=i
   ·subst hj;rw[hi]at e1;cases e1;rw[A5 hiσ]at e2;cases e2;exact⟨u,r,.inl ⟨hk,by simp⟩⟩
   ·rw[Av (Au hj)]at e2;obtain⟨u',r',q⟩:=hl j y v' e1 e2 e3;refine⟨u',r',?_⟩;rcases q with⟨k,e⟩|⟨k,c,e,z⟩
    ·refine .inl ⟨k,?_⟩;have:y≠x:=fun e=>hj (uS hN e1 (e ▸ hi));simp[this,e]
    ·exact .inr ⟨k,c,e,z.sameBut hs (cne y c e)⟩
  ·obtain⟨w',z⟩:=I.cell y c e;exact⟨w',z.sameBut hs (cne y c e)⟩
  ·obtain⟨e,n,ne,nf,d⟩:=I.pin p hp;exact⟨(hs.2 p.1 ne).trans e,n,ne,nf,d⟩
 ·have hfn:X.fn x=true:=by
   rcases hf with z|z
   ·exact z
   ·rw[z]at hk;cases hk
  obtain⟨c,hc⟩:=I.ok.has x (.inl hk);obtain⟨w',z⟩:=I.cell x c hc;refine wpAny_storeName_cell I.ok.kind hk hc z (fun h' hc' hs=>?_);obtain⟨oc,hoc,hocd⟩:=id z;refine h { s with heap:=h' } ⟨I.ok,I.os,I.bare,⟨fun b o e n hb hx=>?_,fun b o e n hb hx=>?_,I.base.free,fun b o e hx=>?_,I.base.tups,I.base.frzs,I.base.tbls⟩,⟨m,hn.sameBut hs (Au (cne x c hc)),fun j y v' e1 e2 e3=>?_⟩,fun y c' e=>?_,I.free,I.freeC,fun p hp=>?_,tracked ⟨oc,hoc,I.freeC x c hc⟩ hs,by simpa using I.len,I.tk⟩ ⟨c,hs,.inr hc⟩ ⟨m,hn.sameBut hs (Au (cne x c hc)),.inr ⟨.inl hk,c,hc,hc'⟩⟩
  ·exact(hs.2 b (Qf (Xc (Ag e) (I.ok.cab x c hfn hc)))).trans (I.base.keep b o e n hb hx)
  ·obtain⟨sl,e1⟩:=I.base.slot b o e n hb hx;exact⟨sl,(hs.2 b (Qf (Xc (Ag e) (I.ok.cab x c hfn hc)))).trans e1⟩
  ·obtain⟨o',e1⟩:=I.base.there b o e hx;exact⟨o',(hs.2 b (Qf (Xc (Ag e) (I.ok.cab x c hfn hc)))).trans e1⟩
  ·by_cases hj:j=i
   ·subst hj;rw[hi]at e1;cases e1;rw[A5 hiσ]at e2;cases e2;exact⟨u,r,.inr ⟨.inl hk,c,hc,hc'⟩⟩
   ·rw[Av (Au hj)]at e2;obtain⟨u',r',q⟩:=hl j y v' e1 e2 e3;refine⟨u',r',?_⟩;rcases q with q|⟨k,c',e,z'⟩
    ·exact .inl q
    ·refine .inr ⟨k,c',e,z'.sameBut hs ?_⟩;rintro rfl;exact hj (uS hN e1 (I.ok.inj _ _ _ e hc ▸ hi))
  ·by_cases hcc:c'=c
   ·subst hcc;exact⟨_,hc'⟩
   ·obtain⟨w2,z2⟩:=I.cell y c' e;exact⟨w2,z2.sameBut hs hcc⟩
  ·obtain⟨e,n,ne,nf,d⟩:=I.pin p hp;refine⟨(hs.2 p.1 ?_).trans e,n,ne,nf,d⟩;intro q;rw[q,hoc]at e;have q':oc=p.2:=Option.some.inj e;exact d w' (by rw[<-q'];exact hocd)
def uT(I:Inv X z9 σ H s)(hN:X.N.Nodup)(hi:X.N[i]?=some x)(hx:Loc X.env.scope x)(r:RelV v u)
  (h:∀s',Inv X z9 (σ.set i (some v)) H s'->Q () s')(hf:X.fn x=true\/X.env.scope.names.lookup x=some .local:=by first|exact .inl rfl|exact .inr rfl|assumption):wpAny M A (storeName X.env x u) Q E s :=
 nU I hN hi hx r (fun s' I' _ _=>h s' I') hf
def Inv.call'{s':Shared}(I:Inv X z9 σ H s)(ho:s'.os=s.os)(u:Un (wJ X.stack) ch H H' s.heap s'.heap)(hok:HOk X.prog X.w H' s'.heap)(hg:AllBare s'.gens)
  (hch:∀b∈ch,(b∈X.ex\/X.s₀.heap.objs.size<=b)/\b≠X.env.locals/\(∀x c,X.env.cells.lookup x=some c->c≠b)/\∀p∈X.pn++z9,p.1≠b)(ht:0<s'.toks):Inv X z9 σ H' s':=by
 obtain⟨h',g',d',t',o'⟩:=s';have e:o'=s.os:=ho;subst e;exact I.call (g':=g') (t':=t') (d':=d') u hok hg hch ht
end
abbrev XK:=Value->Option Addr->Hp->Prop
abbrev St:=List (Option V)
abbrev VK:=V->Hp->Prop
abbrev TE:=St->Hp->VK->Prop
abbrev TT:=St->Hp->(Bool->Hp->Prop)->Prop
abbrev TA:=St->Hp->(List V->Hp->Prop)->Prop
structure Ends where
 nx:St->Hp->Prop
 rt:VK
 bk:St->Hp->Prop:=fun _ _=>False
 ct:St->Hp->Prop:=fun _ _=>False
abbrev TS:=Ends->St->Hp->Prop
inductive EP(X:Cx)(z9:List (Addr×Obj))(σ:St)(Q:VK)(u:Value)(s':Shared):Prop
 | mk (v:V) (H':Hp) (I:Inv X z9 σ H' s') (r:RelV v u) (q:Q v H')
def TP(X:Cx)(z9:List (Addr×Obj))(σ:St)(Q:Bool->Hp->Prop)(b:Bool)(s':Shared):Prop:=∃H',Inv X z9 σ H' s'/\Q b H'
inductive AP(X:Cx)(z9:List (Addr×Obj))(σ:St)(Q:List V->Hp->Prop)(us:List Value)(s':Shared):Prop
 | mk (vs:List V) (H':Hp) (I:Inv X z9 σ H' s') (r:Vals vs us) (q:Q vs H')
def SP(X:Cx)(z9:List (Addr×Obj))(D:Ends)(f:Flow)(s':Shared):Prop :=
 match f with|.next=>∃σ' H',Inv X z9 σ' H' s'/\D.nx σ' H'|.brk=>∃σ' H',Inv X z9 σ' H' s'/\D.bk σ' H'|.cont=>∃σ' H',Inv X z9 σ' H' s'/\D.ct σ' H'|.ret u=>∃v σ' H',Inv X z9 σ' H' s'/\RelV v u/\D.rt v H'
def PE(X:Cx)(e:Expr)(t:TE):Prop :=
 ∀(z9:List (Addr×Obj))(s:Shared)(σ:St)(H:Hp)(Q:VK),Inv X z9 σ H s->t σ H Q->wpAny (model X.prog X.w) X.A (eval e X.env) (EP X z9 σ Q) X.xe s
def PT(X:Cx)(e:Expr)(t:TT):Prop :=
 ∀(z9:List (Addr×Obj))(s:Shared)(σ:St)(H:Hp)(Q:Bool->Hp->Prop),Inv X z9 σ H s->t σ H Q->wpAny (model X.prog X.w) X.A (isTrue e X.env (eval e X.env)) (TP X z9 σ Q) X.xe s
def PW(X:Cx)(e:Expr)(t:TT):Prop :=
 ∀(whole:Sem Value)(z9:List (Addr×Obj))(s:Shared)(σ:St)(H:Hp)(Q:Bool->Hp->Prop),Inv X z9 σ H s->t σ H Q->wpAny (model X.prog X.w) X.A (isTrue e X.env whole) (TP X z9 σ Q) X.xe s
def PW.pt(h:PW X e t):PT X e t:=h _
def PA(X:Cx)(es:List Expr)(t:TA):Prop :=
 ∀(pos:Pos)(z9:List (Addr×Obj))(s:Shared)(σ:St)(H:Hp)(Q:List V->Hp->Prop),Inv X z9 σ H s->t σ H Q->wpAny (model X.prog X.w) X.A (spliced (backTo pos (starEach es X.env))) (AP X z9 σ Q) X.xe s
def PS(X:Cx)(st:Stmt)(t:TS):Prop :=
 ∀(z9:List (Addr×Obj))(s:Shared)(σ:St)(H:Hp)(D:Ends),Inv X z9 σ H s->t D σ H->wpAny (model X.prog X.w) X.A (exec st X.env) (SP X z9 D) X.xe s
def PSs(X:Cx)(st:List Stmt)(t:TS):Prop :=
 ∀(z9:List (Addr×Obj))(s:Shared)(σ:St)(H:Hp)(D:Ends),Inv X z9 σ H s->t D σ H->wpAny (model X.prog X.w) X.A (execs st X.env) (SP X z9 D) X.xe s
def dq(h:wpAny M A t Q E s)(hQ:∀a s,Q a s->Q' a s):wpAny M A t Q' E s:=At h hQ fun _ _ x=>x
end L2
namespace L2
open PySem.Spec PyProof.Rows
section
variable {X:Cx}
def uU(i:Nat):TE:=fun σ H Q=>∃v,σ[i]?=some (some v)/\Q v H
def tC(v:V):TE:=fun _ H Q=>Q v H
def MD(hN:X.N[i]?=some x)(hv:S0 X.env.scope x)(hd:(x == ("__debug__":Str))=false:=by decide)(hcd:(x == ("__classdict__":Str))=false:=by decide):PE X (.Name x pos) (uU i):=by
 intro z9 s σ H Q I h;obtain⟨v,e,h⟩:=h;obtain⟨m,hn,hl⟩:=I.loc;obtain⟨u,r,l⟩:=hl i x v hN e hv;have fin:EP X z9 σ Q u s:=⟨v,H,I,r,h⟩;rcases l with⟨hk,hm⟩|⟨hk,c,hc,hcell⟩
 ·exact BO (wpAny_loadName_local I.ok.kind hk hn hm fin) hd
 ·rcases hk with hk|hk
  ·exact BO (wpAny_loadName_cell I.ok.kind hk hc hcell fin) hd
  ·exact BO (wpAny_loadName_free I.ok.kind hk hc hcell fin hcd) hd
def ak{i j pos}:PE X (.Constant (.int i) j pos) (tC (.int i)):=fun _ _ _ H _ I h=>Cj ⟨.int i,H,I.tok _,⟨_,rfl⟩,h⟩
def oH{b j pos}:PE X (.Constant (.bool b) j pos) (tC (.bl b)):=fun _ _ _ H _ I h=>Constant_bool ⟨.bl b,H,I,rfl,h⟩
def EK{j pos}:PE X (.Constant .none j pos) (tC .non):=fun _ _ _ H _ I h=>Constant_none ⟨.non,H,I,rfl,h⟩
def aW{x j pos}:PE X (.Constant (.str x) j pos) (tC (.str x)):=fun _ _ _ H _ I h=>A0 ⟨.str x,H,I.tok _,⟨_,rfl⟩,h⟩
def Gl(X:Cx)(x:Str):Prop:=X.env.kindOf x=some .globalImplicit
def lg(I:Inv X z9 σ H s)(hg:Gl X x)(hm:X.mg x=some u)(h:Q u s)
  (hd:(x == ("__debug__":Str))=false:=by decide):wpAny (model X.prog X.w) X.A (eval (.Name x pos) X.env) Q E s :=
 Dd I.ok.kind hg (Calls.loadGlobal_global (by rw[I.ok.glob];exact I.mod.glob.keeps I.bk) hm h) hd
def km(I:Inv X z9 σ H s)(hg:Gl X x)(hm:X.mg x=none)(hv:bootBuiltins x=some u)(h:Q u s)
  (hn:x≠"__name__":=by decide)(hd:(x == ("__debug__":Str))=false:=by decide):wpAny (model X.prog X.w) X.A (eval (.Name x pos) X.env) Q E s:=by
 obtain⟨mb,h1,h2⟩:=I.mod.blt;exact Dd I.ok.kind hg (Calls.loadGlobal_builtin (by rw[I.ok.glob];exact I.mod.glob.keeps I.bk) hm (by rw[I.ok.blt];exact h1.keeps I.bk) ((h2 x hn).trans hv) h) hd
def xW(hg:Gl X x)(hm:X.mg x=some u)(r:RelV v u)(hd:(x == ("__debug__":Str))=false:=by decide):PE X (.Name x pos) (tC v) :=
 fun _ _ _ H _ I h=>lg I hg hm ⟨v,H,I,r,h⟩ hd
def IV(hg:Gl X x)(hm:X.mg x=none)(hv:bootBuiltins x=some u)(r:RelV v u)(hn:x≠"__name__":=by decide)(hd:(x == ("__debug__":Str))=false:=by decide):PE X (.Name x pos) (tC v) :=
 fun _ _ _ H _ I h=>km I hg hm hv ⟨v,H,I,r,h⟩ hn hd
variable {a b:Expr}{ta tb:TE}{pos:Pos}
def tB(t:TE):TT:=fun σ H Q=>t σ H fun x H1=>∃c,x=.bl c/\Q c H1
def cP{e:Expr}(h:PE X e t)(he:∀whole,isTrue e X.env whole=(do let v <-whole;standAt e.pos;holding [v] (truthy v)):=by intro _;rfl):PT X e (tB t):=by
 intro z9 s σ H Q I hw;refine isTrue_plain (dq (h z9 s σ H _ I hw) fun v s1 zz9=>?_) (he _);obtain⟨x,H1,I1,r1,q1⟩:=zz9;obtain⟨d,rfl,q⟩:=q1;cases r1;exact Aw ⟨H1,I1,q⟩
variable {tA tB':TT}{rest:List Expr}
def PQ(t u:TT):TT:=fun σ H Q=>t σ H fun c H1=>if c=true then u σ H1 Q else Q false H1
def TF(t u:TT):TT:=fun σ H Q=>t σ H fun c H1=>if c=true then Q true H1 else u σ H1 Q
def PR(t:TT):TT:=fun σ H Q=>t σ H fun c H1=>Q (!c) H1
theorem mN(ha:PT X a tA):PW X (.BoolOp .And [a] pos) tA:=by
 intro wh z9 s σ H Q I h;refine isTrue_and (dq (ha z9 s σ H Q I h) fun c s1 e=>?_);cases c with|true=>exact isTrue_and_nil e|false=>exact e
theorem tE(ha:PT X a tA):PW X (.BoolOp .Or [a] pos) tA:=by
 intro wh z9 s σ H Q I h;refine isTrue_or (dq (ha z9 s σ H Q I h) fun c s1 e=>?_);cases c with|false=>exact isTrue_or_nil e|true=>exact e
theorem qd(ha:PT X a tA)(hb:PW X (.BoolOp .And (b::rest) pos) tB'):PW X (.BoolOp .And (a::b::rest) pos) (PQ tA tB'):=by
 intro wh z9 s σ H Q I h;refine isTrue_and (dq (ha z9 s σ H _ I h) fun c s1 zz9=>?_);obtain⟨H1,I1,q1⟩:=zz9;cases c with|true=>exact hb wh z9 s1 σ H1 Q I1 q1|false=>exact⟨H1,I1,q1⟩
theorem uV(ha:PT X a tA)(hb:PW X (.BoolOp .Or (b::rest) pos) tB'):PW X (.BoolOp .Or (a::b::rest) pos) (TF tA tB'):=by
 intro wh z9 s σ H Q I h;refine isTrue_or (dq (ha z9 s σ H _ I h) fun c s1 zz9=>?_);obtain⟨H1,I1,q1⟩:=zz9;cases c with|true=>exact⟨H1,I1,q1⟩|false=>exact hb wh z9 s1 σ H1 Q I1 q1
def kn(ha:PT X a tA):PT X (.UnaryOp .Not a pos) (PR tA):=by
 intro z9 s σ H Q I h;exact isTrue_not (ha z9 s σ H (fun c H1=>Q (!c) H1) I h)
def Lm(ta tb:TE):TE:=fun σ H Q=>ta σ H fun x H1=>∃c,x=.bl c/\if c=true then tb σ H1 Q else Q (.bl false) H1
def qf{op}(h:PE X a t):PE X (.BoolOp op [a] pos) t:=fun z9 s σ H Q I hw=>BoolOp_one (h z9 s σ H Q I hw)
theorem nV(ha:PE X a ta)(hb:PE X (.BoolOp .And (b::rest) pos) tb):PE X (.BoolOp .And (a::b::rest) pos) (Lm ta tb):=by
 intro z9 s σ H Q I h;refine BoolOp_and (dq (ha z9 s σ H _ I h) fun v s1 zz9=>?_);obtain⟨x,H1,I1,r1,q1⟩:=zz9;obtain⟨c,rfl,q1⟩:=q1;cases r1;refine Aw ?_;cases c with|true=>exact hb z9 s1 σ H1 Q I1 q1|false=>exact⟨.bl false,H1,I1,rfl,q1⟩
def TH(t:TT)(ta tb:TE):TE:=fun σ H Q=>t σ H fun c H1=>if c=true then ta σ H1 Q else tb σ H1 Q
theorem gF(hc:PT X c tA)(ha:PE X a ta)(hb:PE X b tb):PE X (.IfExp c a b pos) (TH tA ta tb):=by
 intro z9 s σ H Q I h;refine wpAny_IfExp (dq (hc z9 s σ H _ I h) fun d s1 zz9=>?_);obtain⟨H1,I1,q1⟩:=zz9;cases d with|true=>exact ha z9 s1 σ H1 Q I1 q1|false=>exact hb z9 s1 σ H1 Q I1 q1
end
end L2
namespace L2
open PySem.Spec PyProof.Rows
def ii(K:W.Frag)(H:Hp)(a:Addr)(xs:List V):Prop :=
 Rd H a (.lst xs) \/
  ∃(o:Obj)(its:Array Value)(n:Nat),K.lookup a=some o/\o.cls=.type "list"/\o.dict=none/\o.data=.seq its n/\its.size<=sizeLine/\Vals xs its.toList
def kl(K:W.Frag)(H:Hp)(a:Addr)(xs:List V):Prop :=
 Rd H a (.tup xs) \/
  ∃(o:Obj)(its:Array Value)(n:Nat),K.lookup a=some o/\o.cls=.type "tuple"/\o.data=.seq its n/\its.size<=sizeLine/\Vals xs its.toList
def S1:Value->Option V|.none=>some .non|.bool b=>some (.bl b)|.int i _=>some (.int i)|.str x _=>some (.str x)|.bytes b _=>some (.byt b)|.float b _=>some (.flt b)|.ref a=>some (.ref a)|.type n=>some (.ty n)|_=>none
theorem RelV.abs(r:RelV x u):S1 u=some x:=by
 cases x with
 |non=>cases r;rfl
 |bl _=>cases r;rfl
 |int _=>obtain⟨t,rfl⟩:=r;rfl
 |str _=>obtain⟨t,rfl⟩:=r;rfl
 |byt _=>obtain⟨t,rfl⟩:=r;rfl
 |flt _=>obtain⟨t,rfl⟩:=r;rfl
 |ref _=>cases r;rfl
 |ty _=>cases r;rfl
theorem RelV.inj(r:RelV x u)(q:RelV y u):x=y:=Option.some.inj (r.abs.symm.trans q.abs)
theorem Vals.inj:∀{xs ys:List V}{us:List Value},Vals xs us->Vals ys us->xs=ys|_,_,_,.nil,.nil=>rfl|_,_,_,.cons r t,.cons r' t'=>by rw[r.inj r',Vals.inj t t']
section
variable {X:Cx}{z9:List (Addr×Obj)}{σ:St}{H:Hp}{s:Shared}{a:Addr}{xs ys:List V}
def Inv.list(I:Inv X z9 σ H s)(h:ii X.K H a xs):∃its:List Value,Vals xs its/\PlainL s.heap a its.toArray/\xs.length<=sizeLine:=by
 rcases h with h|⟨o,its,n,hk,hc,hd,hs,hz,r⟩
 ·obtain⟨z,its,n,r,e⟩:=h.ok I.hok;exact⟨its,r,⟨_,n,e,rfl,rfl,rfl⟩,z⟩
 ·refine⟨its.toList,r,⟨o,n,I.kIn a o hk,hc,hd,by simpa using hs⟩,?_⟩
  have e:=r.length;simp only[Zf]at e;lia
def Inv.tuple(I:Inv X z9 σ H s)(h:kl X.K H a xs):∃its:List Value,Vals xs its/\IsTup s.heap a its.toArray/\xs.length<=sizeLine:=by
 rcases h with h|⟨o,its,n,hk,hc,hs,hz,r⟩
 ·obtain⟨z,its,r,p⟩:=h.ok I.hok;exact⟨its,r,p,z⟩
 ·refine⟨its.toList,r,⟨o,I.kIn a o hk,hc,n,by simpa using hs⟩,?_⟩
  have e:=r.length;simp only[Zf]at e;lia
def Inv.list_inj(I:Inv X z9 σ H s)(h:ii X.K H a xs)(h':ii X.K H a ys):xs=ys:=by
 obtain⟨its,r,⟨o,n,e,_,_,d⟩,_⟩:=I.list h;obtain⟨its',r',⟨o',n',e',_,_,d'⟩,_⟩:=I.list h';rw[e]at e';cases e';rw[d]at d';injection d' with d1 _;have:its=its':=by simpa using congrArg Array.toList d1
 subst this;exact r.inj r'
def Inv.tuple_inj(I:Inv X z9 σ H s)(h:kl X.K H a xs)(h':kl X.K H a ys):xs=ys:=by
 obtain⟨its,r,⟨o,e,_,n,d⟩,_⟩:=I.tuple h;obtain⟨its',r',⟨o',e',_,n',d'⟩,_⟩:=I.tuple h';rw[e]at e';cases e';rw[d]at d';injection d' with d1 _;have:its=its':=by simpa using congrArg Array.toList d1
 subst this;exact r.inj r'
end
abbrev Cx.wish(X:Cx)(E:Value->Shared->Prop):Cx:={ X with xe:=E }
abbrev Cx.nox(X:Cx):Cx:=X.wish fun _ _=>False
theorem Cx.Ok.wish{X:Cx}(ok:X.Ok)(E:Value->Shared->Prop):(X.wish E).Ok :=
 ⟨ok.mod,ok.kind,ok.glob,ok.blt,ok.above,ok.inj,ok.has,ok.cab,ok.hd,ok.frames,ok.stk,ok.exf,ok.bs,ok.bsz,ok.noex,ok.exfs,ok.funs,ok.frf⟩
def Cx.Ok.unwish{X:Cx}(ok:(X.wish E).Ok):X.Ok :=
 ⟨ok.mod,ok.kind,ok.glob,ok.blt,ok.above,ok.inj,ok.has,ok.cab,ok.hd,ok.frames,ok.stk,ok.exf,ok.bs,ok.bsz,ok.noex,ok.exfs,ok.funs,ok.frf⟩
section
variable {X:Cx}{z9:List (Addr×Obj)}{σ:St}{H:Hp}{s:Shared}{E:Value->Shared->Prop}
theorem Inv.wish(I:Inv X z9 σ H s)(E:Value->Shared->Prop):Inv (X.wish E) z9 σ H s:=⟨I.ok.wish E,I.os,I.bare,I.base,I.loc,I.cell,I.free,I.freeC,I.pin,I.hok,I.len,I.tk⟩
theorem Inv.unwish(I:Inv (X.wish E) z9 σ H s):Inv X z9 σ H s:=⟨I.ok.unwish,I.os,I.bare,I.base,I.loc,I.cell,I.free,I.freeC,I.pin,I.hok,I.len,I.tk⟩
theorem SP.unwish(h:SP (X.wish E) z9 D f s'):SP X z9 D f s':=by
 cases f with
 |next=>obtain⟨σ',H',I,q⟩:=h;exact⟨σ',H',I.unwish,q⟩
 |brk=>obtain⟨σ',H',I,q⟩:=h;exact⟨σ',H',I.unwish,q⟩
 |cont=>obtain⟨σ',H',I,q⟩:=h;exact⟨σ',H',I.unwish,q⟩
 |ret u=>obtain⟨v,σ',H',I,r,q⟩:=h;exact⟨v,σ',H',I.unwish,r,q⟩
theorem PSs.nox{st:List Stmt}{t:TS}(h:PSs X.nox st t):PSs X st t:=fun z9 s σ H D I hw=>
 At (h z9 s σ H D (I.wish _) hw) (fun _ _ q=>q.unwish) fun _ _ z=>False.elim z
end
section
variable {X:Cx}{st:Stmt}{rest:List Stmt}{t u:TS}{e:Expr}{te:TE}{pos:Pos}
def Ln:TS:=fun D σ H=>D.nx σ H
def PU(t u:TS):TS:=fun D σ H=>t { D with nx:=u D } σ H
def aX:PSs X [] Ln:=fun _ _ σ H _ I h=>AV ⟨σ,H,I,h⟩
theorem ag(h1:PS X st t)(h2:PSs X rest u):PSs X (st::rest) (PU t u):=by
 intro z9 s σ H D I h;refine CQ (dq (h1 z9 s σ H { D with nx:=u D } I h) fun f s1 q=>?_);cases f with
 |next=>
  obtain⟨σ',H',I',q⟩:=q;exact h2 z9 s1 σ' H' D I' q
 |ret v=>exact q
 |brk=>exact q
 |cont=>exact q
theorem ah(h1:PS X st t):PSs X [st] t:=by
 intro z9 s σ H D I h;refine CQ (dq (h1 z9 s σ H D I h) fun f s1 q=>?_);cases f with|next=>exact AV q|ret v=>exact q|brk=>exact q|cont=>exact q
def Inv.quiet(I:Inv X z9 σ H s):interactive X.env=false:=by simp[interactive,I.ok.kind]
def Lo(te:TE):TS:=fun D σ H=>te σ H fun _ H1=>D.nx σ H1
def bD(he:PE X e te)(hs:swapsWith e none pos.line X.env=pure false:=by rfl):PS X (.Expr e pos) (Lo te):=by
 intro z9 s σ H D I h;exact wpAny_Expr_any (dq (he z9 s σ H _ I h) fun v s1 ⟨x,H1,I1,r1,q1⟩=>⟨σ,H1,I1,q1⟩) I.quiet hs
def PV(te:TE):TS:=fun D σ H=>te σ H D.rt
def az(he:PE X e te):PS X (.Return (some e) pos) (PV te):=by
 intro z9 s σ H D I h;exact wpAny_Return_some (dq (he z9 s σ H _ I h) fun v s1 ⟨x,H1,I1,r1,q1⟩=>⟨x,σ,H1,I1,r1,q1⟩)
def PX(c:TT)(t u:TS):TS:=fun D σ H=>c σ H fun b H1=>if b=true then t D σ H1 else u D σ H1
theorem bw(hc:PT X c tc)(ha:PSs X a t)(hb:PSs X b u):PS X (.If c a b pos) (PX tc t u):=by
 intro z9 s σ H D I h;refine wpAny_If (dq (hc z9 s σ H _ I h) fun d s1 zz9=>?_);obtain⟨H1,I1,q1⟩:=zz9;cases d with|true=>exact ha z9 s1 σ H1 D I1 q1|false=>exact hb z9 s1 σ H1 D I1 q1
def EL:TS:=fun _ _ _=>False
def mO:PS X st EL:=fun _ _ _ _ _ _ h=>h.elim
end
abbrev TG:=V->St->Hp->(St->Hp->Prop)->Prop
abbrev Pw:=List V->St->Hp->(St->Hp->Prop)->Prop
def PG(X:Cx)(target:Expr)(t:TG):Prop :=
 ∀(z9:List (Addr×Obj))(s:Shared)(σ:St)(H:Hp)(v:V)(u:Value)(Q:St->Hp->Prop),Inv X z9 σ H s->RelV v u->t v σ H Q->
  wpAny (model X.prog X.w) X.A (assign target X.env u) (fun _ s'=>∃σ' H',Inv X z9 σ' H' s'/\Q σ' H') X.xe s
def PY(X:Cx)(ts:List Expr)(t:Pw):Prop :=
 ∀(z9:List (Addr×Obj))(s:Shared)(σ:St)(H:Hp)(vs:List V)(us:List Value)(Q:St->Hp->Prop),Inv X z9 σ H s->Vals vs us->t vs σ H Q->
  wpAny (model X.prog X.w) X.A (assignInOrder ((assignEach ts X.env).map (·.2)) us) (fun _ s'=>∃σ' H',Inv X z9 σ' H' s'/\Q σ' H') X.xe s
abbrev IW:=V->V->V->Hp->(Hp->Prop)->Prop
def ME(X:Cx)(t:IW):Prop :=
 ∀(z9:List (Addr×Obj))(s:Shared)(σ:St)(H:Hp)(o i v:V)(ov iv u:Value)(Q:Hp->Prop),Inv X z9 σ H s->RelV o ov->RelV i iv->RelV v u->t o i v H Q->
  wpAny (model X.prog X.w) X.A (setItem ov iv u) (fun _ s'=>∃H',Inv X z9 σ H' s'/\Q H') X.xe s
section
variable {X:Cx}{pos:Pos}
def qg(i:Nat):TG:=fun v σ H Q=>Q (σ.set i (some v)) H
def xX(hN:X.N.Nodup)(hi:X.N[i]?=some x)(hx:Loc X.env.scope x)(hf:X.fn x=true\/X.env.scope.names.lookup x=some .local:=by first|exact .inl rfl|exact .inr rfl|assumption):PG X (.Name x pos) (qg i):=by
 intro z9 s σ H v u Q I r h;exact CC (uT I hN hi hx r (fun s' I'=>⟨_,H,I',h⟩) hf)
def PZ:Pw:=fun vs σ H Q=>vs=[]/\Q σ H
def Lp(t:TG)(u:Pw):Pw:=fun vs σ H Q=>∃v r,vs=v::r/\t v σ H fun σ' H'=>u r σ' H' Q
def ji:PY X [] PZ:=by
 intro z9 s σ H vs us Q I r h;obtain⟨e,h⟩:=h;subst e;cases r;exact assignInOrder_nil ⟨σ,H,I,h⟩
def cE(h1:PG X e t)(h2:PY X es u)
  (hs:(assignEach (e::es) X.env).map (·.2)=assign e X.env::(assignEach es X.env).map (·.2):=by rfl):PY X (e::es) (Lp t u):=by
 intro z9 s σ H vs us Q I r h;obtain⟨v,vr,e1,h⟩:=h;subst e1;cases r with
 |cons r rr=>
  rw[hs];refine assignInOrder_cons (dq (h1 z9 s σ H _ _ _ I r h) fun _ s1 zz9=>?_);obtain⟨σ1,H1,I1,q1⟩:=zz9;exact h2 z9 s1 σ1 H1 _ _ Q I1 rr q1
def MF(K:W.Frag)(n:Nat)(t:Pw):TG:=fun v σ H Q=>∃a xs,v=.ref a/\kl K H a xs/\xs.length=n/\t xs σ H Q
def MG(hc:X.calm=true)(h:PY X es t)
  (hn:(assignEach es X.env).length=n:=by rfl)(hst:(assignEach es X.env).findIdx? (·.1)=none:=by rfl):PG X (.Tuple es k pos) (MF X.K n t):=by
 intro z9 s σ H v u Q I r hw;obtain⟨a,xs,e1,hq,hl,hw⟩:=hw;subst e1;cases r;obtain⟨its,rv,ht,hz⟩:=I.tuple hq;refine assign_Tuple_tuple (I.ok.hd hc) ht (by simp[hn,<-hl,rv.length]) hst fun h' hx=>?_
 have I1:Inv X z9 σ H { s with heap:=h' }:=I.kept (t':=s.toks) fun b o e=>hx b o (Qf (Ag e)) e;exact h z9 _ σ H xs _ Q I1 (by simpa using rv) hw
def P0(to ti:TE)(t:IW):TG:=fun v σ H Q=>to σ H fun o H1=>ti σ H1 fun i H2=>t o i v H2 fun H3=>Q σ H3
def iM(ho:PE X o to)(hi:PE X i ti)(hs:ME X t)
  (ha:∀v,assign (.Subscript o i pos) X.env v=(do
   let ov <-holding [v] (eval o X.env)
   let iv <-holding [v,ov] (eval i X.env)
   standAt pos
   holding [v,ov,iv] (setItem ov iv v)
   release [v,ov,iv] []):=by intro _;rfl):PG X (.Subscript o i pos) (P0 to ti t):=by
 intro z9 s σ H v u Q I r h;rw[ha];refine Aa (Az (dq (ho z9 s σ H _ I h) fun ov s1 zz9=>?_));obtain⟨x,H1,I1,r1,q1⟩:=zz9;refine Aa (Az (dq (hi z9 s1 σ H1 _ I1 q1) fun iv s2 zz9=>?_));obtain⟨y,H2,I2,r2,q2⟩:=zz9;refine Aa (wpAny_standAt (Aa (Az (dq (hs z9 s2 σ H2 x y v ov iv u _ I2 r1 r2 r q2) fun _ s3 zz9=>?_))));obtain⟨H3,I3,q3⟩:=zz9;exact wpAny_release ⟨σ,H3,I3,q3⟩
def wK(te:TE)(g:TG):TS:=fun D σ H=>te σ H fun x H1=>g x σ H1 D.nx
def fW(he:PE X e te)(hg:PG X tg g)(hs:swapsWithSole [tg] e pos.line X.env=pure false:=by rfl)(hw:swappedStores [tg] e X.env=pure none:=by rfl)
  (h1:(assignEach [tg] X.env).map (·.2)=[assign tg X.env]:=by rfl):PS X (.Assign [tg] e pos) (wK te g):=by
 intro z9 s σ H D I h;refine wpAny_Assign_stores (dq (he z9 s σ H _ I h) fun v s1 zz9=>?_) hs hw;obtain⟨x,H1,I1,r1,q1⟩:=zz9;rw[h1];exact dq (hg z9 s1 σ H1 x v _ I1 r1 q1) fun _ s2 q=>q
end
section
variable {X:Cx}{pos:Pos}
def EM(c:TT)(tb:TS):TS:=fun D σ H=>∃W:Nat->St->Hp->Prop,(∃m,W m σ H)/\∀m σ H,W m σ H->
 c σ H fun b H1=>if b=true then ∃N:St->Hp->Prop,(∀σ' H',N σ' H'->∃m',m'<m/\W m' σ' H')/\tb { D with nx:=N,ct:=N,bk:=D.nx } σ H1 else D.nx σ H1
theorem uW(hp:PassesOwn (model X.prog X.w) X.A X.env X.xe)(hc:PT X c tc)(hb:PSs X body tb):PS X (.While c body [] pos) (EM tc tb):=by
 intro z9 s σ H D I h;obtain⟨W,⟨m0,w0⟩,turn⟩:=h;refine wpAny_While (codeAny_whileLoop (fun n s'=>∃σ' H',Inv X z9 σ' H' s'/\W n σ' H') ?_ m0 ⟨σ,H,I,w0⟩);rintro n s1 ⟨σ1,H1,I1,w1⟩;refine Aq hp (dq (hc z9 s1 σ1 H1 _ I1 (turn n σ1 H1 w1)) fun b s2 zz9=>?_);obtain⟨H2,I2,q2⟩:=zz9;cases b with
 |true=>
  obtain⟨N,hN,q2⟩:=q2;rw[if_pos rfl];refine Aq hp (dq (hb z9 s2 σ1 H2 _ I2 q2) fun f s3 q3=>?_);cases f with
  |next=>
   obtain⟨σ3,H3,I3,n3⟩:=q3;obtain⟨m',hm,w3⟩:=hN σ3 H3 n3;exact⟨m',hm,σ3,H3,I3,w3⟩
  |cont=>
   obtain⟨σ3,H3,I3,n3⟩:=q3;obtain⟨m',hm,w3⟩:=hN σ3 H3 n3;exact⟨m',hm,σ3,H3,I3,w3⟩
  |brk=>exact q3
  |ret v=>exact q3
 |false=>
  rw[Ah We];exact AV ⟨σ1,H2,I2,q2⟩
end
structure It where
 go:Nat->Hp->Prop
 yld:Nat->Hp->V->Hp->Prop
 stop:Nat->Hp->Prop
def kf(X:Cx)(z9:List (Addr×Obj))(H:Hp)(b:Addr):Prop :=
 H b=none/\b≠X.env.locals/\b∉X.fs/\(b∈X.ex\/X.s₀.heap.objs.size<=b)/\(∀x c,X.env.cells.lookup x=some c->c≠b)/\∀p∈X.pn++z9,p.1≠b
def Inv.fpOk{s:Shared}(I:Inv X z9 σ H s)(hb:s.heap.objs.size<=b)(hn:H' b=none):kf X z9 H' b:=by
 refine⟨hn,Vm (Xc I.lt hb),I.nofs hb,.inr (Xd I.sz hb),fun x c e z=>?_,fun p hp z=>?_⟩
 ·obtain⟨v,q⟩:=I.cell x c e;exact absurd (Xc q.lt (by rw[z];exact hb)) (Wi _)
 ·exact absurd (Xc (Ag (I.pin p hp).1) (by rw[z];exact hb)) (Wi _)
structure Turn(P:Program)(w:World)(K:W.Frag)(tg:Expr)(J:It)(fp:List Addr)(it:Addr)(tn:Nat->Heap->Prop):Prop where
 mem:it∈fp
 obj:∀i h,tn i h->∀b∈fp,∃o,h.get? b=some o/\∀v,o.data≠.cell v
 keep:∀i h h',tn i h->(∀b∈fp,∀o,h.get? b=some o->h'.get? b=some o)->tn i h'
 item:∀(X:Cx),X.prog=P->X.w=w->X.K=K->X.calm=true->∀(i:Nat)(z9:List (Addr×Obj))(s:Shared)(σ:St)(H:Hp)(E:Value->Shared->Prop),Inv X z9 σ H s->(∀b∈fp,kf X z9 H b)->tn i s.heap->J.go i H->
  wpAny (model P w) X.A (pyNext (.ref it)) (fun r s1=>∃u,r=some u /\
   wpAny (model P w) X.A (letOwnedTupleGo tg (.ref it) u) (fun _ s2=>∃x H',Inv X z9 σ H' s2/\RelV x u/\J.yld i H x H'/\tn (i+1) s2.heap/\∀b∈fp,H' b=none) E s1) E s
 done:∀(X:Cx),X.prog=P->X.w=w->X.K=K->X.calm=true->∀(i:Nat)(z9:List (Addr×Obj))(s:Shared)(σ:St)(H:Hp)(E:Value->Shared->Prop),Inv X z9 σ H s->(∀b∈fp,kf X z9 H b)->tn i s.heap->J.stop i H->
  wpAny (model P w) X.A (pyNext (.ref it)) (fun r s1=>r=none/\Inv X z9 σ H s1) E s
 self:∀(A:Around)(i:Nat)(s:Shared)(Q:Value->Shared->Prop)(E:Value->Shared->Prop),tn i s.heap->Q (.ref it) s->wpAny (model P w) A (pyIter (.ref it)) Q E s
abbrev TI:=St->Hp->(It->Hp->Prop)->Prop
inductive PIE(X:Cx)(z9:List (Addr×Obj))(σ:St)(tg:Expr)(R:It->Hp->Prop)(itv:Value)(s2:Shared):Prop
 | mk (it:Addr) (fp:List Addr) (tn:Nat->Heap->Prop) (J:It) (H':Hp) (e:itv=.ref it) (I:Inv X z9 σ H' s2) (T:Turn X.prog X.w X.K tg J fp it tn) (t0:tn 0 s2.heap) (fo:∀b∈fp,kf X z9 H' b) (r:R J H')
def PI(X:Cx)(tg iter:Expr)(wi:TI):Prop :=
 ∀(z9:List (Addr×Obj))(s:Shared)(σ:St)(H:Hp)(R:It->Hp->Prop),Inv X z9 σ H s->wi σ H R->
  wpAny (model X.prog X.w) X.A (eval iter X.env) (fun v s1=>wpAny (model X.prog X.w) X.A (pyIter v) (PIE X z9 σ tg R) X.xe s1) X.xe s
def oI{s : Shared}{o : Obj}(ho : s.heap.get? it = some o)(hc : o.cls = .type n)(hd : o.data = .fields vs)
    (hn : ["enumerate", "zip", "dict_itemiterator", "dict_reverseitemiterator", "odict_iterator", "itertools.zip_longest", "itertools.pairwise"].contains n = false)(hQ : Q () s) : wpAny M A (letOwnedTupleGo tg (.ref it) u) Q E s := by
  unfold letOwnedTupleGo;cases tg <;> first
    | exact Ac hQ
    | (cases u <;> first
        | exact Ac hQ
        | (refine Aa (wpAny_load ho ?_)
           rw [hc, hd];show wpAny M A (if (["enumerate", "zip", "dict_itemiterator", "dict_reverseitemiterator", "odict_iterator", "itertools.zip_longest", "itertools.pairwise"].contains n && vs[0]? == some (rawInt _)) = true then _ else _) Q E s;rw [Ah (by intro h; rw [hn, Bool.false_and] at h; cases h)]
           exact Ac hQ))
def TK(K:W.Frag)(a:Addr):It :=
 ⟨fun i H=>∃xs x,ii K H a xs/\xs[i]?=some x,fun i H x H'=>H'=H/\∀xs,ii K H a xs->xs[i]?=some x,fun i H=>∃xs,ii K H a xs/\xs.length<=i⟩
def TL(K:W.Frag)(a:Addr):It :=
 ⟨fun i H=>∃xs x,kl K H a xs/\xs[i]?=some x,fun i H x H'=>H'=H/\∀xs,kl K H a xs->xs[i]?=some x,fun i H=>∃xs,kl K H a xs/\xs.length<=i⟩
def SN(lo:Int)(n:Nat):It:=⟨fun i _=>i<n,fun i H x H'=>H'=H/\x=.int (lo+i),fun i _=>n<=i⟩
def DG{P:Program}{w:World}{K:W.Frag}{tg:Expr}(a it:Addr):Turn P w K tg (TK K a) [it] it (fun i h=>h.IsListIter it a i) where
 mem:=by simp
 obj:=fun i h st b hb=>by
  have e:b=it:=by simpa using hb
  subst e;obtain⟨o,e,c,d⟩:=st;exact⟨o,e,fun v z=>by rw[d]at z;cases z⟩
 keep:=fun i h h' st k=>st.at fun o e=>k it (by simp) o e
 item:=by
  intro X hP hw hK hc i z9 s σ H E I hf st hg;subst hP hw hK;obtain⟨xs,x,hq,hx⟩:=hg;obtain⟨its,rv,p,hz⟩:=I.list hq;obtain⟨u,hu,ru⟩:=rv.get hx;obtain⟨f0,f1,f2,f3,f4,f5⟩:=hf it (by simp)
  refine wpAny_pyNext_list_item st p.isList (x:=u) (by simpa using hu) fun h' zW sb=>?_
  have I1:Inv X z9 σ H { s with heap:=h' }:=I.turned (t':=s.toks) (fun b o hb e=>(sb.2 b hb).trans e) f0 f1 f3 f4 f5;obtain⟨o,e,c,d⟩:=id zW;exact⟨u,rfl,oI (s:={ s with heap:=h' }) e c d (by decide) ⟨x,H,I1,ru,⟨rfl,fun ys hy=>by rw[I.list_inj hy hq];exact hx⟩,zW,fun b hb=>(hf b hb).1⟩⟩
 done:=by
  intro X hP hw hK hc i z9 s σ H E I hf st hg;subst hP hw hK;obtain⟨xs,hq,hx⟩:=hg;obtain⟨its,rv,p,hz⟩:=I.list hq;obtain⟨f0,f1,f2,f3,f4,f5⟩:=hf it (by simp)
  have hl:=rv.length;exact wpAny_pyNext_list_end (I.ok.hd hc) st p.isList (by simp;lia) fun h' eb=>⟨rfl,I.turned (t':=s.toks) (fun b o hb e=>eb b o hb e) f0 f1 f3 f4 f5⟩
 self:=fun _ _ _ _ _ st h=>wpAny_pyIter_listiter st h
def wL{P:Program}{w:World}{K:W.Frag}{tg:Expr}(a it:Addr):Turn P w K tg (TL K a) [it] it (fun i h=>h.IsTupleIter it a i) where
 mem:=by simp
 obj:=fun i h st b hb=>by
  have e:b=it:=by simpa using hb
  subst e;obtain⟨o,e,c,d⟩:=st;exact⟨o,e,fun v z=>by rw[d]at z;cases z⟩
 keep:=fun i h h' st k=>st.at fun o e=>k it (by simp) o e
 item:=by
  intro X hP hw hK hc i z9 s σ H E I hf st hg;subst hP hw hK;obtain⟨xs,x,hq,hx⟩:=hg;obtain⟨its,rv,p,hz⟩:=I.tuple hq;obtain⟨u,hu,ru⟩:=rv.get hx;obtain⟨f0,f1,f2,f3,f4,f5⟩:=hf it (by simp)
  refine wpAny_pyNext_tuple_item st (show s.heap.IsTuple a its.toArray from p) (x:=u) (by simpa using hu) fun h' zW sb=>?_
  have I1:Inv X z9 σ H { s with heap:=h' }:=I.turned (t':=s.toks) (fun b o hb e=>(sb.2 b hb).trans e) f0 f1 f3 f4 f5;obtain⟨o,e,c,d⟩:=id zW;exact⟨u,rfl,oI (s:={ s with heap:=h' }) e c d (by decide) ⟨x,H,I1,ru,⟨rfl,fun ys hy=>by rw[I.tuple_inj hy hq];exact hx⟩,zW,fun b hb=>(hf b hb).1⟩⟩
 done:=by
  intro X hP hw hK hc i z9 s σ H E I hf st hg;subst hP hw hK;obtain⟨xs,hq,hx⟩:=hg;obtain⟨its,rv,p,hz⟩:=I.tuple hq;obtain⟨f0,f1,f2,f3,f4,f5⟩:=hf it (by simp)
  have hl:=rv.length;exact wpAny_pyNext_tuple_end (I.ok.hd hc) st (show s.heap.IsTuple a its.toArray from p) (by simp;lia) fun h' eb=>⟨rfl,I.turned (t':=s.toks) (fun b o hb e=>eb b o hb e) f0 f1 f3 f4 f5⟩
 self:=fun _ _ _ _ _ st h=>wpAny_pyIter_tupleiter st h
def wM{P:Program}{w:World}{K:W.Frag}{tg:Expr}(it:Addr)(lo:Int)(n:Nat):Turn P w K tg (SN lo n) [it] it (fun i h=>IsRangeIter h it (lo+(i:Nat)*1) ((n:Int)-(i:Nat)) 1) where
 mem:=by simp
 obj:=fun i h st b hb=>by
  have e:b=it:=by simpa using hb
  subst e
  exact⟨_,st,fun v z=>by
   have z':Data.fields _=Data.cell v:=z
   cases z'⟩
 keep:=fun i h h' st k=>k it (by simp) _ st
 item:=by
  intro X hP hw hK hc i z9 s σ H E I hf st hg;subst hP hw hK;obtain⟨f0,f1,f2,f3,f4,f5⟩:=hf it (by simp)
  have W:=Walks.range (prog:=X.prog) (w:=X.w) (I.ok.hd hc) it lo 1 n;refine bz (W.item i s _ _ hg st fun v h' tk hv zW kk hle=>?_);have hle:s.toks<=tk:=hle;obtain⟨t,rfl⟩:=hv;have I1:Inv X z9 σ H { s with heap:=h',toks:=tk }:=I.turned (fun b o hb e=>kk b o (by simpa using hb) e) f0 f1 f3 f4 f5
  refine⟨_,rfl,oI (s:={ s with heap:=h',toks:=tk }) (n:="range_iterator") zW rfl rfl (by decide) ⟨.int (lo+i),H,I1,⟨t,?_⟩,⟨rfl,rfl⟩,zW,fun b hb=>(hf b hb).1⟩⟩
  rw[Int.mul_one]
 done:=by
  intro X hP hw hK hc i z9 s σ H E I hf st hg;subst hP hw hK;obtain⟨f0,f1,f2,f3,f4,f5⟩:=hf it (by simp)
  exact wpAny_pyNext_range_end (I.ok.hd hc) st (by have:n<=i:=hg;lia) fun h' eb=>⟨rfl,I.turned (t':=s.toks) (fun b o hb e=>eb b o hb e) f0 f1 f3 f4 f5⟩
 self:=fun _ _ _ _ _ st h=>wpAny_pyIter_rangeiter st h
end L2
namespace L2
open PySem.Spec PyProof.Rows
section
variable {X:Cx}{tg:Expr}
def xY(K:W.Frag)(tl:TE):TI:=fun σ H R=>tl σ H fun x H1=>∃a,x=.ref a/\(∃xs,ii K H1 a xs)/\R (TK K a) H1
def MH(K:W.Frag)(tl:TE):TI:=fun σ H R=>tl σ H fun x H1=>∃a,x=.ref a/\(∃xs,kl K H1 a xs)/\R (TL K a) H1
def IX{l:Expr}{tl:TE}(hl:PE X l tl):PI X tg l (xY X.K tl):=by
 intro z9 s σ H R I h;refine dq (hl z9 s σ H _ I h) fun v s1 zz9=>?_;obtain⟨x,H1,I1,r1,q1⟩:=zz9;obtain⟨a,e,⟨xs,hq⟩,q⟩:=q1;subst e;cases r1;obtain⟨its,rv,p,hz⟩:=I1.list hq;refine Bz p.isList ?_;refine⟨s1.heap.objs.size,[s1.heap.objs.size],_,_,H1,rfl,I1.kept (t':=s1.toks) fun b o e=>Ab _ e,DG a _,⟨_,Ae _ rfl,rfl,rfl⟩,fun b hb=>?_,q⟩;have e:b=s1.heap.objs.size:=by simpa using hb
 subst e;exact I1.fpOk (Qa _) (I1.hok.fresh (Qa _))
def MI{l:Expr}{tl:TE}(hl:PE X l tl):PI X tg l (MH X.K tl):=by
 intro z9 s σ H R I h;refine dq (hl z9 s σ H _ I h) fun v s1 zz9=>?_;obtain⟨x,H1,I1,r1,q1⟩:=zz9;obtain⟨a,e,⟨xs,hq⟩,q⟩:=q1;subst e;cases r1;obtain⟨its,rv,p,hz⟩:=I1.tuple hq;refine wpAny_pyIter_tuple (show s1.heap.IsTuple a its.toArray from p) ?_;refine⟨s1.heap.objs.size,[s1.heap.objs.size],_,_,H1,rfl,I1.kept (t':=s1.toks) fun b o e=>Ab _ e,wL a _,⟨_,Ae _ rfl,rfl,rfl⟩,fun b hb=>?_,q⟩;have e:b=s1.heap.objs.size:=by simpa using hb
 subst e;exact I1.fpOk (Qa _) (I1.hok.fresh (Qa _))
def EN{s:Shared}{R:It->Hp->Prop}{E:Value->Shared->Prop}{lo hi:Int}{t u v:Tok}{tk:Nat}(I:Inv X z9 σ H s)(h1:-(2 ^ 62)<=lo)(h2:lo<2 ^ 62)(h3:-(2 ^ 62)<=hi)(h4:hi<2 ^ 62)(ht:0<tk)
  (q:R (SN lo (hi-lo).toNat) H):wpAny (model X.prog X.w) X.A (pyIter (.ref s.heap.objs.size)) (PIE X z9 σ tg R) E { s with heap:=s.heap.push { cls:=.type "range",data:=.fields #[.int lo t,.int hi u,.int 1 v] },toks:=tk }:=by
 refine wpAny_pyIter_range (IsRange.new ..) (small_one h1 h2 h3 h4) ?_;have I1:Inv X z9 σ H { s with heap:=s.heap.push { cls:=.type "range",data:=.fields #[.int lo t,.int hi u,.int 1 v] },toks:=tk }:=I.kept fun b o e=>Ab _ e
 refine⟨(s.heap.push { cls:=.type "range",data:=.fields #[.int lo t,.int hi u,.int 1 v] }).objs.size,[(s.heap.push { cls:=.type "range",data:=.fields #[.int lo t,.int hi u,.int 1 v] }).objs.size],_,_,H,rfl,
  I1.kept (t':=tk) fun b o e=>Ab _ e,wM _ lo (hi-lo).toNat,?_,fun b hb=>?_,q⟩
 ·have e1:lo+((0:Nat):Int)*1=lo:=by simp
  have e2:(((hi-lo).toNat:Nat):Int)-((0:Nat):Int)=Builtin.Range.rangeSize lo hi 1:=by rw[rangeSize_one];split<;>lia
  show IsRangeIter _ _ (lo+((0:Nat):Int)*1) ((((hi-lo).toNat:Nat):Int)-((0:Nat):Int)) 1;rw[e1,e2];exact Ae _ rfl
 ·have e:b=(s.heap.push { cls:=.type "range",data:=.fields #[.int lo t,.int hi u,.int 1 v] }).objs.size:=by simpa using hb
  subst e;exact I1.fpOk (Qa _) (I1.hok.fresh (Qa _))
def Lq(ta:TA):TI:=fun σ H R=>ta σ H fun vs H1=>∃j:Int,vs=[.int j]/\-(2 ^ 62)<=j/\j<2 ^ 62/\R (SN 0 j.toNat) H1
theorem fw{ta:TA}(hg:Gl X "range")(hm:X.mg "range"=none)(ha:PA X [a] ta)(hs:starEach [a] X.env=[(false,eval a X.env)]:=by rfl):PI X tg (.Call (.Name "range" p) [a] [] pos) (Lq ta):=by
 intro z9 s σ H R I h;refine Call_ (km I hg hm boot_range (Ay (dq (ha pos z9 s σ H _ I h) fun us s1 zz9=>?_) hs rfl));obtain⟨vs,H1,I1,r1,q1⟩:=zz9;obtain⟨j,e,q1,q2,q⟩:=q1;subst e;cases r1 with
 |cons r rr=>
  cases rr;obtain⟨t,rfl⟩:=r;exact call_range_1 (EN I1 (by lia) (by lia) q1 q2 (Xc I1.tk (by first|exact Qa _|lia)) (by simpa using q))
def MJ(wi:TI)(g:TG)(tb:TS):TS:=fun D σ H=>wi σ H fun J H1=>∃W:Nat->Nat->St->Hp->Prop,(∃m,W 0 m σ H1)/\∀i m σ H,W i m σ H->
 (J.stop i H/\D.nx σ H)\/(J.go i H/\∃N:St->Hp->Prop,(∀σ' H',N σ' H'->∃m',m'<m/\W (i+1) m' σ' H')/\∀x H',J.yld i H x H'->g x σ H' fun σ2 H2=>tb { D with nx:=N,ct:=N,bk:=D.nx } σ2 H2)
def qh(fp:List Addr)(h:Heap):List (Addr×Obj):=fp.filterMap fun b=>(h.get? b).map fun o=>(b,o)
def gG{h:Heap}(hb:b∈fp)(e:h.get? b=some o):(b,o)∈qh fp h:=List.mem_filterMap.mpr ⟨b,hb,by rw[e];rfl⟩
theorem DH{h:Heap}(hp:p∈qh fp h):p.1∈fp/\h.get? p.1=some p.2:=by
 obtain⟨b,hb,e⟩:=List.mem_filterMap.mp hp;cases q:h.get? b with
 |none=>rw[q]at e;cases e
 |some o=>
  rw[q]at e;have e':(b,o)=p:=Option.some.inj e;subst e';exact⟨hb,q⟩
def Inv.pinned{s:Shared}(I:Inv X z9 σ H s)(hf:∀b∈fp,kf X z9 H b)(ho:∀b∈fp,∃o,s.heap.get? b=some o/\∀v,o.data≠.cell v):Inv X (z9++qh fp s.heap) σ H s :=
 I.pins_of fun p hp=>(Xe.mp hp).elim (fun z=>I.pin p (Vd _ z)) fun z=>by
  obtain⟨hb,e⟩:=DH z;obtain⟨f0,f1,f2,_⟩:=hf p.1 hb;obtain⟨o,e',d⟩:=ho p.1 hb;rw[e]at e';cases e';exact⟨e,f0,f1,f2,d⟩
def Inv.unpinned(I:Inv X (z9++pl) σ H s):Inv X z9 σ H s:=I.pins_of fun p hp=>I.pin p (Vd _ (Xh _ hp))
def eM(hp:PassesOwn (model X.prog X.w) X.A X.env X.xe)(hc:X.calm=true)(hi:PI X tg iter wi)(hg:PG X tg g)(hb:PSs X body tb)
  (hs:∀x,foldedSetIterable iter X.env x=pure x:=by intro _;rfl):PS X (.For tg iter body [] pos) (MJ wi g tb):=by
 intro z9 s σ H D I h;refine wpAny_For (dq (hi z9 s σ H _ I h) fun v s1 h1=>dq h1 fun itv s2 h2=>?_) hs;obtain⟨it,fp,tn,J,H2,e,I2,T,st2,f2,W,⟨m0,w0⟩,turn⟩:=h2;subst e;have stat:∀{H':Hp},(∀b∈fp,H' b=none)->∀b∈fp,kf X z9 H' b:=fun hn b hb=>⟨hn b hb,(f2 b hb).2⟩;refine codeAny_forLoop_any (fun n s'=>∃i σ' H',Inv X z9 σ' H' s'/\tn i s'.heap/\(∀b∈fp,H' b=none)/\W i n σ' H') ?_ m0 ⟨0,σ,H2,I2,st2,fun b hb=>(f2 b hb).1,w0⟩;rintro n s3 ⟨i,σ3,H3,I3,st3,fr3,w3⟩;rcases turn i n σ3 H3 w3 with⟨stop,qn⟩|⟨go,N,hN,step⟩
 ·refine Aq hp (dq (T.done X rfl rfl rfl hc i z9 s3 σ3 H3 X.xe I3 (stat fr3) st3 stop) fun r s4 zz9=>?_);obtain⟨hr,I4⟩:=zz9;subst hr;exact AV ⟨σ3,H3,I4,qn⟩
 ·refine Aq hp (dq (T.item X rfl rfl rfl hc i z9 s3 σ3 H3 X.xe I3 (stat fr3) st3 go) fun r s4 zz9=>?_);obtain⟨u,hr,h4⟩:=zz9;subst hr;refine Aq hp (dq h4 fun _ s5 zz9=>?_);obtain⟨x,H5,I5,r5,y5,st5,fr5⟩:=zz9;have I5':=I5.pinned (stat fr5) (T.obj _ _ st5);refine Aq hp (dq (hg _ s5 σ3 H5 x u _ I5' r5 (step x H5 y5)) fun _ s6 zz9=>?_);obtain⟨σ6,H6,I6,q6⟩:=zz9;refine Aq hp (dq (hb _ s6 σ6 H6 _ I6 q6) fun f s7 q7=>?_);have again:∀{σ7:St}{H7:Hp},Inv X (z9++qh fp s5.heap) σ7 H7 s7->N σ7 H7->∃m,m<n/\∃i σ' H',Inv X z9 σ' H' s7/\tn i s7.heap/\(∀b∈fp,H' b=none)/\W i m σ' H':=fun {σ7 H7} I7 n7=>by
   obtain⟨m',hm,w7⟩:=hN σ7 H7 n7;refine⟨m',hm,i+1,σ7,H7,I7.unpinned,T.keep _ _ _ st5 fun b hb o e=>(I7.pin (b,o) (Vd _ (Vd _ (gG hb e)))).1,fun b hb=>?_,w7⟩;obtain⟨o,e,d⟩:=T.obj _ _ st5 b hb;exact(I7.pin (b,o) (Vd _ (Vd _ (gG hb e)))).2.1
  cases f with
  |next=>obtain⟨σ7,H7,I7,n7⟩:=q7;exact again I7 n7
  |cont=>obtain⟨σ7,H7,I7,n7⟩:=q7;exact again I7 n7
  |brk=>obtain⟨σ7,H7,I7,q7⟩:=q7;exact⟨σ7,H7,I7.unpinned,q7⟩
  |ret v=>obtain⟨x7,σ7,H7,I7,r7,q7⟩:=q7;exact⟨x7,σ7,H7,I7.unpinned,r7,q7⟩
end
end L2
namespace L2
open PySem.Spec PyProof.Rows
abbrev R2:=V->V->Hp->VK->Prop
def OpR(X:Cx)(f:Value->Value->Sem Value)(r:R2):Prop :=
 ∀(z9:List (Addr×Obj))(s:Shared)(σ:St)(H:Hp)(x y:V)(v u:Value)(Q:VK),Inv X z9 σ H s->RelV x v->RelV y u->r x y H Q->
  wpAny (model X.prog X.w) X.A (f v u) (EP X z9 σ Q) X.xe s
def S2(X:Cx)(f:Value->Sem Value)(r:V->Hp->VK->Prop):Prop :=
 ∀(z9:List (Addr×Obj))(s:Shared)(σ:St)(H:Hp)(x:V)(v:Value)(Q:VK),Inv X z9 σ H s->RelV x v->r x H Q->
  wpAny (model X.prog X.w) X.A (f v) (EP X z9 σ Q) X.xe s
def CallR(X:Cx)(f:Value)(r:List V->Hp->VK->Prop):Prop :=
 ∀(z9:List (Addr×Obj))(s:Shared)(σ:St)(H:Hp)(xs:List V)(us:List Value)(Q:VK),Inv X z9 σ H s->Vals xs us->r xs H Q->
  wpAny (model X.prog X.w) X.A (call f us) (EP X z9 σ Q) X.xe s
def EO(r:R2)(ta tb:TE):TE:=fun σ H Q=>ta σ H fun x H1=>tb σ H1 fun y H2=>r x y H2 Q
def S3(r:V->Hp->VK->Prop)(ta:TE):TE:=fun σ H Q=>ta σ H fun x H1=>r x H1 Q
def rI(C:Int->Int->Prop)(g:Int->Int->V):R2:=fun x y H Q=>∃i j,x=.int i/\y=.int j/\C i j/\Q (g i j) H
def uX(g:Int->Int->V):R2:=fun x y H Q=>∃i j,x=.int i/\y=.int j/\Q (g i j) H
def rU(g:Int->V):V->Hp->VK->Prop:=fun x H Q=>∃i,x=.int i/\Q (g i) H
section
variable {X:Cx}{a b c:Expr}{ta tb tc:TE}{pos:Pos}
def MK(ha:PE X a ta)(hb:PE X b tb){R:V->V->Hp->Prop}(I:Inv X z9 σ H s)
  (h:ta σ H fun x H1=>tb σ H1 fun y H2=>R x y H2){Q:Value->Shared->Prop}{f:Value->Value->Sem Value}
  (hf:∀v u s2 x y H2,Inv X z9 σ H2 s2->RelV x v->RelV y u->R x y H2->wpAny (model X.prog X.w) X.A (f v u) Q X.xe s2) :
  wpAny (model X.prog X.w) X.A (eval a X.env) (fun v s₁=>wpAny (model X.prog X.w) X.A (eval b X.env) (fun u s₂=>wpAny (model X.prog X.w) X.A (f v u) Q X.xe s₂) X.xe s₁) X.xe s:=by
 refine dq (ha z9 s σ H _ I h) fun v s1 zz9=>?_;obtain⟨x,H1,I1,r1,q1⟩:=zz9;refine dq (hb z9 s1 σ H1 _ I1 q1) fun u s2 zz9=>?_;obtain⟨y,H2,I2,r2,q2⟩:=zz9;exact hf v u s2 x y H2 I2 r1 r2 q2
def dR{op:Operator}{r:R2}(ho:OpR X (binaryOp op) r)(ha:PE X a ta)(hb:PE X b tb):PE X (.BinOp a op b pos) (EO r ta tb):=by
 intro z9 s σ H Q I h;exact wpAny_BinOp (MK ha hb I h fun v u s2 x y H2 I2 rx ry q=>ho z9 s2 σ H2 x y v u Q I2 rx ry q)
def rX(ho:S2 X (unaryOp op) r)(ha:PE X a ta):PE X (.UnaryOp op a pos) (S3 r ta):=by
 intro z9 s σ H Q I h;exact UnaryOp_ (dq (ha z9 s σ H _ I h) fun v s1 ⟨x,H1,I1,r1,q1⟩=>ho z9 s1 σ H1 x v Q I1 r1 q1)
def SO{f:Value->Value->Sem Value}{C:Int->Int->Prop}{g:Int->Int->Int}
  (rule:∀(i j:Int)(t u:Tok)(s:Shared)(Q:Value->Shared->Prop)(E:Value->Shared->Prop),C i j->Q (.int (g i j) s.toks) { s with toks:=s.toks+1 }->wpAny (model X.prog X.w) X.A (f (.int i t) (.int j u)) Q E s) :
  OpR X f (rI C fun i j=>.int (g i j)):=by
 intro z9 s σ H x y v u Q I rx ry h;obtain⟨i,j,rfl,rfl,hc,q⟩:=h;obtain⟨t,rfl⟩:=rx;obtain⟨t',rfl⟩:=ry;exact rule i j t t' s _ _ hc ⟨.int (g i j),H,I.tok _,⟨_,rfl⟩,q⟩
def P1{f:Value->Value->Sem Value}{g:Int->Int->Int}
  (rule:∀(i j:Int)(t u:Tok)(s:Shared)(Q:Value->Shared->Prop)(E:Value->Shared->Prop),Q (.int (g i j) s.toks) { s with toks:=s.toks+1 }->wpAny (model X.prog X.w) X.A (f (.int i t) (.int j u)) Q E s) :
  OpR X f (uX fun i j=>.int (g i j)):=by
 intro z9 s σ H x y v u Q I rx ry h;obtain⟨i,j,rfl,rfl,q⟩:=h;obtain⟨t,rfl⟩:=rx;obtain⟨t',rfl⟩:=ry;exact rule i j t t' s _ _ ⟨.int (g i j),H,I.tok _,⟨_,rfl⟩,q⟩
def IY{f:Value->Value->Sem Value}{g:Int->Int->Bool}
  (rule:∀(i j:Int)(t u:Tok)(s:Shared)(Q:Value->Shared->Prop)(E:Value->Shared->Prop),Q (.bool (g i j)) s->wpAny (model X.prog X.w) X.A (f (.int i t) (.int j u)) Q E s) :
  OpR X f (uX fun i j=>.bl (g i j)):=by
 intro z9 s σ H x y v u Q I rx ry h;obtain⟨i,j,rfl,rfl,q⟩:=h;obtain⟨t,rfl⟩:=rx;obtain⟨t',rfl⟩:=ry;exact rule i j t t' s _ _ ⟨.bl (g i j),H,I,rfl,q⟩
def wN(i j:Int):Prop:=0<j/\j<1073741824
def EQ(i j:Int):Prop:=0<=j/\j<=1000000/\i.natAbs<2 ^ 64
def CMul(i j:Int):Prop:=(-(2 ^ 64)<i/\i<2 ^ 64)\/(-(2 ^ 64)<j/\j<2 ^ 64)
def CMul.ok(h:CMul i j):IntMulOk i j:=by
 rcases h with⟨h1,h2⟩|⟨h1,h2⟩
 ·exact .of_left (intBits_le_64 h1 h2)
 ·exact .of_right (intBits_le_64 h1 h2)
def op_add:OpR X (binaryOp .Add) (uX fun i j=>.int (i+j)):=P1 fun _ _ _ _ _ _ _ q=>add_int q
def ES:OpR X (binaryOp .Sub) (uX fun i j=>.int (i-j)):=P1 fun _ _ _ _ _ _ _ q=>sub_int q
def op_mul:OpR X (binaryOp .Mult) (rI CMul fun i j=>.int (i*j)):=SO fun _ _ _ _ _ _ _ hc q=>mul_int q hc.ok
def pI:OpR X (binaryOp .FloorDiv) (rI wN fun i j=>.int (i / j)):=SO fun i j _ _ _ _ _ hc q=>by
 have h1:(0:Int)<j:=hc.1;have h2:j<1073741824:=hc.2;exact floordiv_int (by lia) (by rw[Int.fdiv_eq_ediv_of_nonneg i (by lia)];exact q) (.inl (Dm (by lia)))
def kr:OpR X (binaryOp .Mod) (rI (fun _ j=>0<j) fun i j=>.int (i % j)):=SO fun i j _ _ _ _ _ hc q=>by
 have h1:(0:Int)<j:=hc;exact mod_int' (by lia) (by rw[Int.fmod_eq_emod_of_nonneg i (by lia)];exact q)
def ML:OpR X (binaryOp .Pow) (rI EQ fun i j=>.int (i ^ j.toNat)):=SO fun _ _ _ _ _ _ _ hc q=>pow_int_small hc.1 hc.2.1 hc.2.2 q
def T7{f:Value->Sem Value}{g:Int->Int}
  (rule:∀(i:Int)(t:Tok)(s:Shared)(Q:Value->Shared->Prop)(E:Value->Shared->Prop),Q (.int (g i) s.toks) { s with toks:=s.toks+1 }->wpAny (model X.prog X.w) X.A (f (.int i t)) Q E s) :
  S2 X f (rU fun i=>.int (g i)):=by
 intro z9 s σ H x v Q I rx h;obtain⟨i,rfl,q⟩:=h;obtain⟨t,rfl⟩:=rx;exact rule i t s _ _ ⟨.int (g i),H,I.tok _,⟨_,rfl⟩,q⟩
def nW:S2 X (unaryOp .USub) (rU fun i=>.int (-i)):=T7 fun _ _ _ _ _ q=>neg_int q
end
def MM:V->V->Bool|.non,.non=>true|.non,.int _=>true|.int _,.non=>true|.non,.bl _=>true|.bl _,.non=>true|.non,.str _=>true|.str _,.non=>true|.int _,.int _=>true|.bl _,.bl _=>true|.str _,.str _=>true|.byt _,.byt _=>true|.int _,.str _=>true|.str _,.int _=>true|.bl _,.str _=>true|.str _,.bl _=>true|_,_=>false
def P2:R2:=fun x y H Q=>MM x y=true/\Q (.bl (decide (x=y))) H
def S4:R2:=fun x y H Q=>MM x y=true/\Q (.bl (!decide (x=y))) H
def xZ:decide (V.int i=V.int j)=(i == j):=by
 rw[Zg];simp
def ET:decide (V.bl i=V.bl j)=(i == j):=by
 rw[Zg];simp
def x6:decide (V.str i=V.str j)=(i == j):=by
 rw[Zg];simp
def x8{i j:Array UInt8}:decide (V.byt i=V.byt j)=(i.toList == j.toList):=by
 rw[Zg];cases i;cases j;simp
section
variable {X:Cx}{a b c:Expr}{ta tb tc:TE}{pos:Pos}
def bp(I:Inv X z9 σ H s)(q:Q (.bl k) H)(e:k=k'):EP X z9 σ Q (.bool k') s:=by
 subst e;exact⟨.bl k,H,I,rfl,q⟩
theorem dr:OpR X (compareOp .Eq) P2:=by
 intro z9 s σ H x y v u Q I rx ry h;obtain⟨hs,q⟩:=h;cases x with
 |non=>
  cases rx;cases y with
  |non=>cases ry;exact EqNone.eq_none_none (bp I q (by simp))
  |bl j=>cases ry;exact EqNone.eq_none_bool (bp I q (by simp))
  |int j=>obtain⟨t',rfl⟩:=ry;exact EqNone.eq_none_int (bp I q (by simp))
  |str j=>obtain⟨t',rfl⟩:=ry;exact EqNone.eq_none_str (bp I q (by simp))
  |_=>exact absurd (show false=true from hs) We
 |bl i=>
  cases rx;cases y with
  |non=>cases ry;exact EqNone.eq_bool_none (bp I q (by simp))
  |bl j=>cases ry;exact eq_bool (bp I q ET)
  |str j=>obtain⟨t',rfl⟩:=ry;exact EqMixed.eq_bool_str (bp I q (by simp))
  |_=>exact absurd (show false=true from hs) We
 |int i=>
  obtain⟨t,rfl⟩:=rx;cases y with
  |non=>cases ry;exact EqNone.eq_int_none (bp I q (by simp))
  |int j=>obtain⟨t',rfl⟩:=ry;exact eq_int (bp I q xZ)
  |str j=>obtain⟨t',rfl⟩:=ry;exact EqMixed.eq_int_str (bp I q (by simp))
  |_=>exact absurd (show false=true from hs) We
 |str i=>
  obtain⟨t,rfl⟩:=rx;cases y with
  |non=>cases ry;exact EqNone.eq_str_none (bp I q (by simp))
  |bl j=>cases ry;exact EqMixed.eq_str_bool (bp I q (by simp))
  |int j=>obtain⟨t',rfl⟩:=ry;exact EqMixed.eq_str_int (bp I q (by simp))
  |str j=>obtain⟨t',rfl⟩:=ry;exact eq_str (bp I q x6)
  |_=>exact absurd (show false=true from hs) We
 |byt i=>
  obtain⟨t,rfl⟩:=rx;cases y with
  |byt j=>obtain⟨t',rfl⟩:=ry;exact W.eq_bytes (bp I q x8)
  |_=>exact absurd (show false=true from hs) We
 |_=>cases y<;>exact absurd (show false=true from hs) We
theorem op_ne:OpR X (compareOp .NotEq) S4:=by
 intro z9 s σ H x y v u Q I rx ry h;obtain⟨hs,q⟩:=h;cases x with
 |non=>
  cases rx;cases y with
  |non=>cases ry;exact EqNone.ne_none_none (bp I q (by simp))
  |bl j=>cases ry;exact EqNone.ne_none_bool (bp I q (by simp))
  |int j=>obtain⟨t',rfl⟩:=ry;exact EqNone.ne_none_int (bp I q (by simp))
  |str j=>obtain⟨t',rfl⟩:=ry;exact EqNone.ne_none_str (bp I q (by simp))
  |_=>exact absurd (show false=true from hs) We
 |bl i=>
  cases rx;cases y with
  |non=>cases ry;exact EqNone.ne_bool_none (bp I q (by simp))
  |bl j=>cases ry;exact ne_bool (bp I q (congrArg not ET))
  |str j=>obtain⟨t',rfl⟩:=ry;exact EqMixed.ne_bool_str (bp I q (by simp))
  |_=>exact absurd (show false=true from hs) We
 |int i=>
  obtain⟨t,rfl⟩:=rx;cases y with
  |non=>cases ry;exact EqNone.ne_int_none (bp I q (by simp))
  |int j=>obtain⟨t',rfl⟩:=ry;exact ne_int (bp I q (congrArg not xZ))
  |str j=>obtain⟨t',rfl⟩:=ry;exact EqMixed.ne_int_str (bp I q (by simp))
  |_=>exact absurd (show false=true from hs) We
 |str i=>
  obtain⟨t,rfl⟩:=rx;cases y with
  |non=>cases ry;exact EqNone.ne_str_none (bp I q (by simp))
  |bl j=>cases ry;exact EqMixed.ne_str_bool (bp I q (by simp))
  |int j=>obtain⟨t',rfl⟩:=ry;exact EqMixed.ne_str_int (bp I q (by simp))
  |str j=>obtain⟨t',rfl⟩:=ry;exact ne_str (bp I q (congrArg not x6))
  |_=>exact absurd (show false=true from hs) We
 |byt i=>
  obtain⟨t,rfl⟩:=rx;cases y with
  |byt j=>obtain⟨t',rfl⟩:=ry;exact W.ne_bytes (bp I q (congrArg not x8))
  |_=>exact absurd (show false=true from hs) We
 |_=>cases y<;>exact absurd (show false=true from hs) We
def op_lt:OpR X (compareOp .Lt) (uX fun i j=>.bl (decide (i<j))):=IY fun _ _ _ _ _ _ _ q=>lt_int q
def Lr:OpR X (compareOp .LtE) (uX fun i j=>.bl (decide (i<=j))):=IY fun _ _ _ _ _ _ _ q=>le_int q
def Ls:OpR X (compareOp .Gt) (uX fun i j=>.bl (decide (j<i))):=IY fun _ _ _ _ _ _ _ q=>gt_int q
def P3:OpR X (compareOp .GtE) (uX fun i j=>.bl (decide (j<=i))):=IY fun _ _ _ _ _ _ _ q=>ge_int q
def DI:OpR X (compareOp .Lt) (fun x y H Q=>∃i j,x=.str i/\y=.str j/\Q (.bl (decide (i.cps.toList<j.cps.toList))) H):=by
 intro z9 s σ H x y v u Q I rx ry h;obtain⟨i,j,rfl,rfl,q⟩:=h;obtain⟨t,rfl⟩:=rx;obtain⟨t',rfl⟩:=ry;exact lt_str (bp I q rfl)
def op_in_str:OpR X (compareOp .In) (fun x y H Q=>∃i j,x=.str i/\y=.str j/\Q (.bl (!(Builtin.Str.occurrences j i 0 j.length 1).isEmpty)) H):=by
 intro z9 s σ H x y v u Q I rx ry h;obtain⟨i,j,rfl,rfl,q⟩:=h;obtain⟨t,rfl⟩:=rx;obtain⟨t',rfl⟩:=ry;exact in_str (bp I q rfl)
theorem EU:OpR X (compareOp .Is) (fun x y H Q=>y=.non/\Q (.bl (decide (x=.non))) H):=by
 intro z9 s σ H x y v u Q I rx ry h;obtain⟨rfl,q⟩:=h;cases ry;refine is_none_gen (bp I q ?_);cases x<;>first
  | (cases rx;rfl)
  | (obtain⟨t,rfl⟩:=rx;rfl)
def OpR.or(h:OpR X f r)(h':OpR X f r'):OpR X f (fun x y H Q=>r x y H Q\/r' x y H Q):=by
 intro z9 s σ H x y v u Q I rx ry q;rcases q with q|q
 ·exact h z9 s σ H x y v u Q I rx ry q
 ·exact h' z9 s σ H x y v u Q I rx ry q
def EV(b:Expr)(h:op≠.In:=by decide)(h2:op≠.NotIn:=by decide):behindInMarks op b=false:=by
 have e1:(op == CmpOp.In)=false:=by cases op<;>first|rfl|exact absurd rfl h
 have e2:(op == CmpOp.NotIn)=false:=by cases op<;>first|rfl|exact absurd rfl h2
 cases b<;>simp[behindInMarks,e1,e2]
def x9(ho:OpR X (compareOp op) r)(ha:PE X a ta)(hb:PE X b tb)(hm:behindInMarks op b=false):PE X (.Compare a [op] [b] pos) (EO r ta tb):=by
 intro z9 s σ H Q I h;exact wpAny_Compare1 (MK ha hb I h fun v u s2 x y H2 I2 rx ry q=>ho z9 s2 σ H2 x y v u Q I2 rx ry q) hm
def ya(t:TE):TT:=fun σ H Q=>t σ H fun x H'=>∃k,x=.bl k/\Q k H'
def mP(ho:OpR X (compareOp op) r)(ha:PE X a ta)(hb:PE X b tb)(hm:behindInMarks op b=false):PT X (.Compare a [op] [b] pos) (ya (EO r ta tb)):=by
 intro z9 s σ H Q I h
 refine wpAny_isTrue_Compare1 (dq (ha z9 s σ H _ I h) fun v s1 ⟨x,H1,I1,r1,q1⟩=>dq (hb z9 s1 σ H1 _ I1 q1) fun u s2 ⟨y,H2,I2,r2,q2⟩=>
  dq (ho z9 s2 σ H2 x y v u _ I2 r1 r2 q2) fun c s3 ⟨z,H3,I3,r3,k,e,q3⟩=>?_) hm
 subst e;cases r3;exact Aw ⟨H3,I3,q3⟩
def EW(r r':R2)(ta tb tc:TE):TE:=fun σ H Q=>ta σ H fun x H1=>tb σ H1 fun y H2=>r x y H2 fun z H3=>∃k,z=.bl k /\
 (if k=true then tc σ H3 fun w' H4=>r' y w' H4 Q else Q (.bl false) H3)
def EX(ho:OpR X (compareOp op) r)(ho':OpR X (compareOp op') r')(ha:PE X a ta)(hb:PE X b tb)(hc:PE X c tc)
  (hm:lastMarks [op,op'] [b,c]=false:=by with_unfolding_all rfl):PT X (.Compare a [op,op'] [b,c] pos) (ya (EW r r' ta tb tc)):=by
 intro z9 s σ H Q I h
 refine isTrue_chain (dq (ha z9 s σ H _ I h) fun v s1 ⟨x,H1,I1,r1,q1⟩=>test_link (dq (hb z9 s1 σ H1 _ I1 q1) fun u s2 ⟨y,H2,I2,r2,q2⟩=>
  dq (ho z9 s2 σ H2 x y v u _ I2 r1 r2 q2) fun d s3 ⟨z,H3,I3,r3,k,e,q3⟩=>?_)) hm
 subst e;cases r3;refine Aw ?_;cases k with
 |false=>
  obtain⟨k',e',q'⟩:=q3;cases e';exact ite_ff ⟨H3,I3,q'⟩
 |true=>
  refine ite_tt (test_last (dq (hc z9 s3 σ H3 _ I3 q3) fun w' s4 ⟨z',H4,I4,r4,q4⟩=>dq (ho' z9 s4 σ H4 y z' u w' _ I4 r2 r4 q4) fun d' s5 zz9=>?_));obtain⟨z2,H5,I5,r5,k2,e2,q5⟩:=zz9;subst e2;cases r5;exact Aw ⟨H5,I5,q5⟩
def nX:(sizeLine:Nat)<2 ^ 63:=by rw[Bi];decide
def op_add_str:OpR X (binaryOp .Add) (fun x y H Q=>∃i j,x=.str i/\y=.str j/\i.length+j.length<=sizeLine/\Q (.str (i++j)) H):=by
 intro z9 s σ H x y v u Q I rx ry h;obtain⟨i,j,rfl,rfl,hz,q⟩:=h;obtain⟨t,rfl⟩:=rx;obtain⟨t',rfl⟩:=ry;exact bz (add_str (fun t' tk hle=>⟨.str (i++j),H,I.tok _ (I.tkl' hle),⟨_,rfl⟩,q⟩) hz)
theorem vals1(r:Vals [x] us):∃u,us=[u]/\RelV x u:=by
 cases r with|cons r1 r2=>cases r2;exact⟨_,rfl,r1⟩
theorem vals2(r:Vals [x,y] us):∃u w',us=[u,w']/\RelV x u/\RelV y w':=by
 cases r with
 |cons r1 r2=>
  cases r2 with|cons r3 r4=>cases r4;exact⟨_,_,rfl,r1,r3⟩
end
end L2
namespace L2
open PySem.Spec PyProof.Rows
structure ObjM(h:Heap)(x dx C:Addr)(mA:Str->Option Value):Prop where
 obj:h.get? x=some (W.instObj C dx)
 ns:h.Ns1 dx mA
 ne:dx≠x
def DJ{h:Heap}(n:h.Ns1 dx mA):∃od,h.get? dx=some od/\∀name,W.lookIn name od=some (mA name):=by
 obtain⟨o,es,ep,ho,hd,hk,_,hm⟩:=n;refine⟨o,ho,fun name=>?_⟩;have e:=hm name;unfold nsFind findBy at e;rw[<-Array.find?_toList]at e;unfold W.lookIn;rw[hd];dsimp only;split
 ·rename_i y q
  rw[q]at e;exact congrArg some e
 ·rename_i q
  rw[q]at e;have a:es.toList.any (·.refKey)=false:=by
   rw[List.any_eq_false];intro y hy;obtain⟨z,t,hkey⟩:=hk y (Array.mem_toList_iff.mp hy);simp[DictEntry.refKey,hkey]
  have a':¬ es.toList.any (·.refKey)=true:=by rw[a];exact We
  rw[Ah a'];exact congrArg some e
def ObjM.look(I:ObjM h x dx C mA):∃od,W.InstAt h x (W.instObj C dx) C (some od)/\∀name,W.lookIn name od=some (mA name) :=
 let ⟨od,ho,hl⟩:=DJ I.ns
 ⟨od,⟨I.obj,rfl,rfl,ho⟩,hl⟩
theorem RelO.some_of(r:RelO (some v) o):∃u,o=some u/\RelV v u:=by
 cases o with|none=>exact(show False from r).elim|some u=>exact⟨u,rfl,r⟩
section
variable {P:Program}{w:World}{H H':Hp}{h h':Heap}{a C dx:Addr}{fs fs':List (Str×V)}
def IZ(hok:HOk P w H h)(e:H a=some (.ins C dx fs)):∃mA,ObjM h a dx C mA/\(∀f,RelO (fs.lookup f) (mA f))/\PySem.Within mA (fs.map (·.1))/\fs.length<=1000/\H dx=some (.own a):=by
 obtain⟨d,z,ne,ob,mA,n,r,q⟩:=(show ObjOk P w H h a (.ins C dx fs) from hok a _ e);exact⟨mA,⟨ob,n,ne⟩,r,q,z,d⟩
end
structure Cls(K:W.Frag)(C:Addr):Prop where
 pg:W.plainGet K C Str.empty=true
 hd:W.hasDictIn K C=true
 po:W.plainOver K C=true
 sa:W.findIn K (.ref C) "__setattr__"=some (some (.builtin "object.__setattr__"))
def Cls.get{K:W.Frag}{C:Addr}(c:Cls K C)(f:Str):W.plainGet K C f=true:=c.pg
section
variable {X:Cx}{z9:List (Addr×Obj)}{σ:St}{H:Hp}{s:Shared}{A:Around}{E:Value->Shared->Prop}{Q:Value->Shared->Prop}{c:Value}{b:Bool}
inductive TyOf(K:W.Frag)(H:Hp):V->Value->Prop where
 | non:TyOf K H .non (.type "NoneType")
 | bl (x:Bool):TyOf K H (.bl x) (.type "bool")
 | int (i:Int):TyOf K H (.int i) (.type "int")
 | str (x:Str):TyOf K H (.str x) (.type "str")
 | flt (x:UInt64):TyOf K H (.flt x) (.type "float")
 | lst {a:Addr} {xs:List V} (e:H a=some (.lst xs)):TyOf K H (.ref a) (.type "list")
 | frz {a:Addr} {o:Obj} {xs:List V} (e:H a=some (.frz o (.lst xs))):TyOf K H (.ref a) (.type "list")
 | tup {a:Addr} {xs:List V} (e:H a=some (.tup xs)):TyOf K H (.ref a) (.type "tuple")
 | dK {a:Addr} {zX:List (Key×V)} (e:H a=some (.dK zX)):TyOf K H (.ref a) (.type "dict")
 | dT {a:Addr} {ep:Nat×List Addr} {zX:List (List Key×V)} (e:H a=some (.dT ep zX)):TyOf K H (.ref a) (.type "dict")
 | ins {a C dx:Addr} {fs:List (Str×V)} (e:H a=some (.ins C dx fs)) (cl:Cls K C) (ha:W.findIn K (.ref C) "__class__"=some (some (.builtin "object.__class__")))
   (hn:W.specialIn K (.builtin "object.__class__") "__get__"=some (some (.builtin "getset_descriptor.__get__"))) (htk:W.takesIn K (.builtin "object.__class__")=some true)
   (hm:W.mroIn K C (.type "object")=some true):TyOf K H (.ref a) (.ref C)
def fz(I:Inv X z9 σ H s)(rx:RelV x u)(ty:TyOf X.K H x t)(e:W.kitOne X.K t c=some b)(h:∀tk,Q (.bool b) { s with toks:=tk }) :
  wpAny (model X.prog X.w) A (call (.builtin "isinstance") [u,c]) Q E s:=by
 cases ty with
 |non=>cases (show u=Value.none from rx);exact W.kia_one W.kitx_none I.kIn True.intro e (fun z=>nomatch z) h
 |bl y=>cases (show u=Value.bool y from rx);exact W.kia_one W.kitx_bool I.kIn True.intro e (fun z=>nomatch z) h
 |int i=>obtain⟨t,q⟩:=(show ∃t,u=Value.int i t from rx);cases q;exact W.kia_one W.kitx_int I.kIn True.intro e (fun z=>nomatch z) h
 |str y=>obtain⟨t,q⟩:=(show ∃t,u=Value.str y t from rx);cases q;exact W.kia_one W.kitx_str I.kIn True.intro e (fun z=>nomatch z) h
 |flt y=>obtain⟨t,q⟩:=(show ∃t,u=Value.float y t from rx);cases q;exact W.kia_one W.kitx_float I.kIn True.intro e (fun z=>nomatch z) h
 |@lst a xs ea=>
  cases (show u=Value.ref a from rx);obtain⟨_,_,n,_,h1⟩:=(show ObjOk X.prog X.w H s.heap a (.lst xs) from I.hok a _ ea);exact W.kia_one W.kitx_list I.kIn ⟨_,h1,rfl⟩ e (fun z=>nomatch z) h
 |@frz a ob xs ea=>
  cases (show u=Value.ref a from rx);obtain⟨_,_,_,n,_,h1⟩:=(show ObjOk X.prog X.w H s.heap a (.frz ob (.lst xs)) from I.hok a _ ea);exact W.kia_one W.kitx_list I.kIn ⟨_,h1,rfl⟩ e (fun z=>nomatch z) h
 |@tup a xs ea=>
  cases (show u=Value.ref a from rx);obtain⟨_,_,_,p⟩:=(show ObjOk X.prog X.w H s.heap a (.tup xs) from I.hok a _ ea);obtain⟨o,h1,h2,_⟩:=p;exact W.kia_one W.kitx_tuple I.kIn ⟨o,h1,h2⟩ e (fun z=>nomatch z) h
 |@dK a zX ea=>
  cases (show u=Value.ref a from rx);obtain⟨_,_,vs,_,p⟩:=(show ObjOk X.prog X.w H s.heap a (.dK zX) from I.hok a _ ea);obtain⟨o,es,ep,h1,h2,_⟩:=p;exact W.kia_one W.kitx_dict I.kIn ⟨o,h1,h2.1⟩ e (fun z=>nomatch z) h
 |@dT a ep zX ea=>
  cases (show u=Value.ref a from rx);obtain⟨_,_,xs,_,_,o,es,h1,h2,_⟩:=(show ObjOk X.prog X.w H s.heap a (.dT ep zX) from I.hok a _ ea);exact W.kia_one W.kitx_dict I.kIn ⟨o,h1,h2.1⟩ e (fun z=>nomatch z) h
 |@ins a C dx fs ea cl ha hn htk hm=>
  cases (show u=Value.ref a from rx);obtain⟨mA,O,_⟩:=IZ I.hok ea;obtain⟨od,J,_⟩:=O.look;exact W.kia_one (W.kitx_own (cl.get _) cl.hd ha hn htk hm) I.kIn J e (fun z=>nomatch z) h
end
end L2
namespace L2
open PySem.Spec PyProof.Rows
structure Room(k:Nat)(A:Around):Prop where
 hd:A.handled=none
 dp:A.depth+3*k+5<recursionLimit
 un:A.units+16*k+200<cLine
def Room.mono(r:Room k A)(h:j<=k):Room j A:=⟨r.hd,by have:=r.dp;lia,by have:=r.un;lia⟩
theorem Room.deeper{A:Around}(r:Room (k+1) A)(env:Env):Room k (A.deeper env) :=
 ⟨r.hd,by have:=r.dp;show A.depth+1+3*k+5<_;lia,by have:=r.un;show A.units+3+16*k+200<_;lia⟩
theorem Room.in1{A:Around}(r:Room (k+1) A):Room k A.in1 :=
 ⟨r.hd,by have:=r.dp;show A.depth+3*k+5<_;lia,by have:=r.un;show A.units+1+16*k+200<_;lia⟩
theorem Room.depth{A:Around}(r:Room k A):A.depth<recursionLimit:=by have:=r.dp;lia
theorem Room.units{A:Around}(r:Room k A):A.units+64<cLine:=by have:=r.un;lia
def rN:TA:=fun _ H Q=>Q [] H
def gH(ta:TE)(tr:TA):TA:=fun σ H Q=>ta σ H fun x H1=>tr σ H1 fun xs H2=>Q (x::xs) H2
section
variable {X:Cx}{e:Expr}{es:List Expr}{te:TE}{t:TA}{pos:Pos}
def ac:PA X [] rN:=fun _ _ _ _ H Q I h=>CO ⟨[],H,I,.nil,h⟩
def mQ(ha:PE X e te)(hr:PA X es t)(hs:starEach (e::es) X.env=(false,eval e X.env)::starEach es X.env:=by rfl):PA X (e::es) (gH te t):=by
 intro pos z9 s σ H Q I h;rw[hs];show wpAny _ _ (spliced ((false,eval e X.env)::backTo pos (starEach es X.env))) _ _ s;refine AZ (dq (ha z9 s σ H _ I h) fun u s1 zz9=>?_);obtain⟨x,H1,I1,r1,q1⟩:=zz9;exact dq (hr pos z9 s1 σ H1 _ I1 q1) fun us s2 ⟨xs,H2,I2,r2,q2⟩=>⟨x::xs,H2,I2,.cons r1 r2,q2⟩
def P4(t:TA):TE:=fun σ H Q=>t σ H fun xs H1=>xs.length<=sizeLine/\∀p,H1 p=none->Q (.ref p) (upd H1 p (.tup xs))
def MN(t:TA):TE:=fun σ H Q=>t σ H fun xs H1=>xs.length<=sizeLine/\∀p,H1 p=none->Q (.ref p) (upd H1 p (.lst xs))
def bG{x1}(h:PA X es t):PE X (.Tuple es x1 pos) (P4 t):=by
 intro z9 s σ H Q I hq;refine wpAny_Tuple_spliced (dq (h pos z9 s σ H _ I hq) fun us s1 ⟨xs,H1,I1,r,z,q⟩=>⟨by rw[<-r.length];exact z,?_⟩)
 have hf:H1 s1.heap.objs.size=none:=I1.hok.fresh (Qa _);refine⟨.ref s1.heap.objs.size,upd H1 s1.heap.objs.size (.tup xs),I1.laid (t':=s1.toks) (fun b u e=>Ab _ e) (Qa _) ?_,rfl,q _ hf⟩;exact⟨z,us,r,⟨_,Ae _ rfl,rfl,_,rfl⟩⟩
def br(h:PA X es t):PE X (.List es pos) (MN t):=by
 intro z9 s σ H Q I hq;refine wpAny_List_spliced (dq (h pos z9 s σ H _ I hq) fun us s1 ⟨xs,H1,I1,r,z,q⟩=>⟨by rw[<-r.length];exact z,?_⟩)
 have hf:H1 s1.heap.objs.size=none:=I1.hok.fresh (Qa _);refine⟨.ref s1.heap.objs.size,upd H1 s1.heap.objs.size (.lst xs),I1.laid (t':=s1.toks) (fun b u e=>Ab _ e) (Qa _) ?_,rfl,q _ hf⟩;exact⟨z,us,0,r,Ae _ rfl⟩
end
abbrev Sp:=List V->Hp->VK->XK->Prop
abbrev IR:=List Env->Hp->Shared->XK->Value->Shared->Prop
structure Env0(P:Program)(w:World)(K:W.Frag)(mg:Str->Option Value)(base:Heap)(A:Around)(outer:List Env)(s:Shared)(H:Hp):Prop where
 frames:A.frames=some outer
 mod:Mod K mg base
 bs:∀b o,base.get? b=some o->s.heap.get? b=some o/\H b=none
 bsz:base.objs.size<=s.heap.objs.size
 funs:s.heap.FunFrames base outer
 frf:∀b∈wJ outer,H b=none
 hok:HOk P w H s.heap
 bare:AllBare s.gens
 tk:0<s.toks
def CE(outer:List Env)(P:Program)(w:World)(H:Hp)(s:Shared)(Q:VK)(u:Value)(s':Shared):Prop :=
 ∃v H',s'.os=s.os/\AllBare s'.gens/\Un (wJ outer) [] H H' s.heap s'.heap/\HOk P w H' s'.heap/\RelV v u/\Q v H'
def CR(CX:IR)(outer:List Env)(P:Program)(w:World)(H:Hp)(s:Shared)(Q:VK)(E:XK)(r:Result)(s':Shared):Prop :=
 match r with|.ok (.ret u)=>CE outer P w H s Q u s'|.ok _=>False|.error e=>CX outer H s E e s'
structure FnOk(P:Program)(w:World)(K:W.Frag)(mg:Str->Option Value)(base:Heap)(CX:IR)(k:Nat)(f:Addr)(fd:FuncData)(ps:List Str)(sp:Sp):Prop where
 len:∀vs H Q E,sp vs H Q E->vs.length=ps.length
 run:∀(A:Around)(outer:List Env)(s:Shared)(H:Hp)(args:Args)(us:List Value)(vs:List V)(Q:VK)(E:XK),Room k A->Env0 P w K mg base A outer s H->BindsTo s fd args (ps.zip us)->Vals vs us->sp vs H Q E->
  codeAny (model P w) A (.call (.ref f) args) (CR CX outer P w H s Q E) s
def FnOk.imp{P:Program}{w:World}{K:W.Frag}{mg:Str->Option Value}{base:Heap}{CX:IR}{k:Nat}{f:Addr}{fd:FuncData}{ps:List Str}{sp sp':Sp}(F:FnOk P w K mg base CX k f fd ps sp)
  (h:∀vs H Q E,sp' vs H Q E->sp vs H Q E):FnOk P w K mg base CX k f fd ps sp' :=
 ⟨fun vs H Q E q=>F.len vs H Q E (h _ _ _ _ q),fun A outer s H args us vs Q E hr he hb hv hs=>F.run A outer s H args us vs Q E hr he hb hv (h _ _ _ _ hs)⟩
theorem Env0.in1{P:Program}{w:World}{K:W.Frag}{mg:Str->Option Value}{base:Heap}{A:Around}{outer:List Env}{s:Shared}{H:Hp}(e:Env0 P w K mg base A outer s H) :
  Env0 P w K mg base A.in1 outer s H:=⟨e.frames,e.mod,e.bs,e.bsz,e.funs,e.frf,e.hok,e.bare,e.tk⟩
section
variable {X:Cx}{z9:List (Addr×Obj)}{σ:St}{H:Hp}{s s':Shared}
def Inv.env0(I:Inv X z9 σ H s):Env0 X.prog X.w X.K X.mg X.base X.A X.stack s H :=
 ⟨I.ok.frames,I.ok.mod,I.bs,Xd I.ok.bsz I.sz,I.stack,I.stkFree,I.hok,I.bare,I.tk⟩
def Inv.after(I:Inv X z9 σ H s)(h:CE X.stack X.prog X.w H s Q u s')(hle:s.toks<=s'.toks):EP X z9 σ Q u s':=by
 obtain⟨v,H',os,bare,un,hok,r,q⟩:=h;obtain⟨hh,g,d,t,os'⟩:=s';obtain rfl:os'=s.os:=os;exact⟨v,H',I.call (h':=hh) (g':=g) (d':=d) (t':=t) (ch:=[]) un hok bare (fun b z=>absurd z (by simp)) (I.tkl' hle),r,q⟩
end
def EY(sp:Sp)(dvs:List V)(E:XK)(t:TA):TE:=fun σ H Q=>t σ H fun vs H1=>sp (vs++dvs) H1 Q E
def Binds(K:W.Frag)(fd:FuncData)(ps:List Str)(ds:List Value):Prop :=
 ∀(s:Shared)(us:List Value),K.In s.heap->(us++ds).length=ps.length->BindsTo s fd ⟨us,[]⟩ (ps.zip (us++ds))
def Binds.all{K:W.Frag}{fd:FuncData}{ps:List Str}(h:∀us:List Value,us.length=ps.length->bindArgs fd ⟨us,[]⟩=pure (ps.zip us)):Binds K fd ps []:=fun s us _ hl=>by
 rw[Ze]at hl ⊢;exact .of_eq (h us hl)
def wO(CX:IR)(X:Cx)(E:XK):Prop:=∀(z9:List (Addr×Obj))(σ:St)(H:Hp)(s:Shared)(e:Value)(s':Shared),Inv X z9 σ H s->CX X.stack H s E e s'->X.xe e s'
section
variable {X:Cx}{CX:IR}{k:Nat}{f C:Addr}{fd:FuncData}{ps:List Str}{sp:Sp}{dvs:List V}{ds:List Value}{E:XK}{x m:Str}{p pos apos:Pos}{e o:Expr}{es:List Expr}{ta:TE}{t:TA}
def MO(F:FnOk X.prog X.w X.K X.mg X.base CX k f fd ps sp)(hr:Room k X.A)(hb:Binds X.K fd ps ds)(hd:Vals dvs ds)(hx:wO CX X E)
  (I:Inv X z9 σ H s)(r:Vals vs us)(h:sp (vs++dvs) H Q E):wpAny (model X.prog X.w) X.A (call (.ref f) us) (EP X z9 σ Q) X.xe s:=by
 have r2:Vals (vs++dvs) (us++ds):=r.append hd;have hl:(us++ds).length=ps.length:=by rw[<-r2.length];exact F.len _ _ _ _ h
 refine wpAny_call (qb (CD (F.run X.A X.stack s H ⟨us,[]⟩ (us++ds) (vs++dvs) Q E hr I.env0 (hb s us I.kIn hl) r2 h) fun r s' hq hle=>?_));cases r with
 |error e=>exact hx z9 σ H s e s' I hq
 |ok fl=>
  cases fl with|ret u=>exact I.after hq hle|next=>exact False.elim hq|brk=>exact False.elim hq|cont=>exact False.elim hq
def yb(F:FnOk X.prog X.w X.K X.mg X.base CX k f fd ps sp)(hr:Room k X.A)(hg:Gl X x)(hm:X.mg x=some (.ref f))(hk:W.keepIn X.K (.ref f)=true)(hb:Binds X.K fd ps ds)(hd:Vals dvs ds)(hx:wO CX X E)
  (ha:PA X (e::es) t)(hdb:(x == ("__debug__":Str))=false:=by decide)(he:starEach (e::es) X.env=(false,eval e X.env)::starEach es X.env:=by rfl)(hpl:(backTo pos (starEach es X.env)).any (·.1)=false:=by rfl) :
  PE X (.Call (.Name x p) (e::es) [] pos) (EY sp dvs E t):=by
 intro z9 s σ H Q I h;refine Bt (lg I hg hm ?_ hdb);refine W.callWith_K (h₀:=X.base) I.ok.mod.kin hk (dq (ha pos z9 s σ H _ I h) fun us s1 ⟨vs,H1,I1,r,q⟩=>⟨I1.kIn,?_⟩) he hpl;exact MO F hr hb hd hx I1 r q
end
structure FnScope(N P:List Str)(sc:Scope):Prop where
 kind:sc.kind=.function
 co:sc.isCoroutine=false
 gen:sc.isGenerator=false
 nd:N.Nodup
 pre:N.take P.length=P
 par:∀x∈P,sc.names.lookup x=some .local\/sc.names.lookup x=some .cell
 nofree:∀y∈sc.names,y.2≠.free
theorem rY{kindOf:Str->Option NameKind}{x:Str}:∀{binds:List (Str×Value)}{m:Str->Option Value},(∀v,(x,v)∉binds)->bindL kindOf binds m x=m x
 |[],_,_=>rfl
 | (n,v)::r,m,h=>by
  unfold bindL;rw[rY fun w hw=>h w (Wa _ hw)];split
  ·have:x≠n:=by rintro rfl;exact h v Va
   simp[this]
  ·rfl
theorem rZ{kindOf:Str->Option NameKind}{x:Str}:∀{binds:List (Str×Value)}{m:Str->Option Value},(∀v,(x,v)∉binds)->bindC kindOf binds m x=m x
 |[],_,_=>rfl
 | (n,v)::r,m,h=>by
  unfold bindC;rw[rZ fun w hw=>h w (Wa _ hw)];split
  ·rfl
  ·have:x≠n:=by rintro rfl;exact h v Va
   simp[this]
theorem se{kindOf:Str->Option NameKind}{x:Str}{v:Value}:∀{P:List Str}{vs:List Value}{i:Nat}{m:Str->Option Value},P.Nodup->P[i]?=some x->vs[i]?=some v->kindOf x=some .local->
  bindL kindOf (P.zip vs) m x=some v
 |[],_,_,_,_,h,_,_=>by simp at h
 |_::_,[],_,_,_,_,h,_=>by simp at h
 | p::P,w::vs,0,m,nd,h1,h2,hk=>by
  simp at h1 h2;subst h1;subst h2;show bindL kindOf ((p,w)::P.zip vs) m p=_;unfold bindL;rw[rY fun v hv=>(Zh.mp nd).1 (Yn hv).1,if_pos hk];simp
 | p::P,w::vs,i+1,m,nd,h1,h2,hk=>by
  show bindL kindOf ((p,w)::P.zip vs) m x=_;unfold bindL;exact se (i:=i) (Zh.mp nd).2 (by simpa using h1) (by simpa using h2) hk
theorem si{kindOf:Str->Option NameKind}{x:Str}{v:Value}:∀{P:List Str}{vs:List Value}{i:Nat}{m:Str->Option Value},P.Nodup->P[i]?=some x->vs[i]?=some v->kindOf x≠some .local->
  bindC kindOf (P.zip vs) m x=some v
 |[],_,_,_,_,h,_,_=>by simp at h
 |_::_,[],_,_,_,_,h,_=>by simp at h
 | p::P,w::vs,0,m,nd,h1,h2,hk=>by
  simp at h1 h2;subst h1;subst h2;show bindC kindOf ((p,w)::P.zip vs) m p=_;unfold bindC;rw[rZ fun v hv=>(Zh.mp nd).1 (Yn hv).1,Ah hk];simp
 | p::P,w::vs,i+1,m,nd,h1,h2,hk=>by
  show bindC kindOf ((p,w)::P.zip vs) m x=_;unfold bindC;exact si (i:=i) (Zh.mp nd).2 (by simpa using h1) (by simpa using h2) hk
def start(N:List Str)(vs:List V):St:=vs.map some++List.replicate (N.length-vs.length) none
def uY(CX:IR)(P:Program)(w:World)(K:W.Frag)(mg:Str->Option Value)(base:Heap)(N:List Str)(zY:Str)(scope:Scope)(f:Addr)(cd:Value)(A:Around)(outer:List Env)(s:Shared)(H:Hp)(E:XK):Cx where
 prog:=P
 w:=w
 K:=K
 mg:=mg
 base:=base
 A:=A.deeper (envOfC zY scope s.heap.objs.size f cd)
 N:=N
 s₀:=s
 H₀:=H
 env:=envOfC zY scope s.heap.objs.size f cd
 outer:=outer
 stack:=envOfC zY scope s.heap.objs.size f cd::outer
 ex:=[]
 calm:=true
 fn:=fun _=>true
 pn:=[]
 xe:=fun e s'=>wpAny (model P w) (A.deeper (envOfC zY scope s.heap.objs.size f cd)) (leaving (envOfC zY scope s.heap.objs.size f cd) e) (fun _ s''=>CX outer H s E e s'') (fun e' s''=>CX outer H s E e' s'') s'
def uZ{sc:Scope}(h:sc.names.lookup x=some .cell):∃c,(cellsFrom n sc.names []).lookup x=some c:=by
 have q:=W.cellsFrom_some sc.names n [] (.inl h);exact Option.isSome_iff_exists.mp q
def DK{CX:IR}{P:Program}{w:World}{K:W.Frag}{mg:Str->Option Value}{base:Heap}{N ps:List Str}{zY:Str}{scope:Scope}{f:Addr}{cd:Value}{A:Around}{outer:List Env}{s s1:Shared}{H:Hp}{E:XK}{us:List Value}{vs:List V}
  (S:FnScope N ps scope)(hd:A.handled=none)(e0:Env0 P w K mg base A outer s H)(hl:vs.length=ps.length)(r:Vals vs us)
  (x:InCallC s s.heap.objs.size (bindL (envOfC zY scope s.heap.objs.size f cd).kindOf (ps.zip us) fun _=>none) (cellsFrom (s.heap.objs.size+1) scope.names []) (bindC (envOfC zY scope s.heap.objs.size f cd).kindOf (ps.zip us) fun _=>none) s1) (ht:0<s1.toks) :
  Inv (uY CX P w K mg base N zY scope f cd A outer s H E) [] (start N vs) H s1:=by
 have hpl:ps.length<=N.length:=by have:=congrArg List.length S.pre;rw[Wg]at this;lia
 obtain⟨h1,tk,rfl,hk⟩:=x.done;have noA:∀b:Addr,b∉(uY CX P w K mg base N zY scope f cd A outer s H E).ex:=fun b z=>absurd (show b∈([]:List Addr) from z) (by simp)
 refine⟨⟨e0.mod,S.kind,rfl,rfl,Qa _,fun y z c h1 h2=>?_,fun y hy=>?_,fun y c _ h=>?_,fun _=>hd,Around.frames_deeper e0.frames,.inr ⟨rfl,rfl⟩,fun b z=>absurd z (noA b),e0.bs,e0.bsz,fun b _ _=>noA b,fun b z=>absurd z (noA b),e0.funs,e0.frf⟩,
  rfl,e0.bare,Un.kept hk,⟨_,x.toInCall.ns,fun i y v h1 h2 h3=>?_⟩,fun y c h=>⟨_,x.cell y c h⟩,e0.hok.fresh (Qa _),fun y c h=>?_,fun p hp=>absurd (show p∈([]:List (Addr×Obj)) from hp) (by simp),e0.hok.kept hk,?_,ht⟩
 ·exact name_of_addr x.apart (mem_of_lookup h1) (mem_of_lookup h2)
 ·have hy:scope.names.lookup y=some .cell\/scope.names.lookup y=some .free:=hy;rcases hy with hy|hy
  ·exact uZ hy
  ·exact absurd rfl (S.nofree _ (mem_of_lookup hy))
 ·exact Bq (x.above y c (mem_of_lookup h))
 ·have hi:i<vs.length:=by
   unfold start at h2;by_cases hi:i<vs.length
   ·exact hi
   ·rw[Vf (by simpa using hi)]at h2
    rw[Ql]at h2;split at h2<;>cases h2
  have ha:vs[i]?=some v:=by
   unfold start at h2;rw[Wj (by simpa using hi),Ve]at h2
   cases e:vs[i]? with|none=>rw[e]at h2;cases h2|some a=>rw[e]at h2;cases h2;rfl
  obtain⟨u,hu,rv⟩:=r.get ha;have hp:ps[i]?=some y:=by
   rw[<-S.pre,List.getElem?_take_of_lt (by lia)];exact h1
  have ndP:ps.Nodup:=by rw[<-S.pre];exact S.nd.sublist (List.take_sublist _ _)
  refine⟨u,rv,?_⟩;rcases S.par y (Wc hp) with k|k
  ·exact .inl ⟨k,se ndP hp hu k⟩
  ·obtain⟨c,e⟩:=uZ (n:=s.heap.objs.size+1) k;refine .inr ⟨.inl k,c,e,?_⟩;have q:=x.cell y c e;rw[si ndP hp hu (by show scope.names.lookup y≠_;rw[k];decide)]at q
   exact q
 ·exact e0.hok.fresh (Bq (x.above y c (mem_of_lookup h)))
 ·unfold start;show _=N.length;rw[Xa,Za,Vj];lia
def Lu{CX:IR}{K:W.Frag}{mg:Str->Option Value}{k:Nat}{f:Addr}{name zY:Str}{params:Arguments}{body:List Stmt}{scope:Scope}{dV kV doc pm cdv ct oc:Value}{an od:Option Addr}
  {osl:Array (Option Value)}{N ps:List Str}{sp:Sp}(lk:K.lookup f=some ⟨oc,od,.func (W.fnOf name zY params body scope dV kV doc pm an cdv ct),osl⟩)(hcd:W.codeIn K cdv zY=true)(S:FnScope N ps scope)
  (len:∀vs H Q E,sp vs H Q E->vs.length=ps.length)
  (hbody:∀(A:Around)(outer:List Env)(s:Shared)(H:Hp)(vs:List V)(Q:VK)(E:XK),Room k (A.deeper (envOfC zY scope s.heap.objs.size f cdv))->sp vs H Q E->
   ∃t,PSs (uY CX P w K mg base N zY scope f cdv A outer s H E) body t/\t { nx:=fun _ H'=>Q .non H',rt:=Q } (start N vs) H) :
  FnOk P w K mg base CX (k+1) f (W.fnOf name zY params body scope dV kV doc pm an cdv ct) ps sp:=by
 refine⟨len,fun A outer s H args us vs Q E hr e0 hb r hsp=>?_⟩;have hl:=len _ _ _ _ hsp;have KX:K.In s.heap:=e0.mod.kin.keeps fun b o e=>(e0.bs b o e).1;have lim:s.heap.NoLimit:=e0.mod.nolimit.keeps fun b o e=>(e0.bs b o e).1;have hkind:∀y∈ps.zip us,scope.names.lookup y.1=some .local\/(scope.names.lookup y.1=some .cell/\((cellsFrom (s.heap.objs.size+1) scope.names []).lookup y.1).isSome=true):=fun⟨n,v⟩ hy=>by
  rcases S.par n (Yn hy).1 with q|q
  ·exact .inl q
  ·exact .inr ⟨q,W.cellsFrom_some _ _ _ (.inl q)⟩
 refine codeAny_call_function hr.depth (KX _ _ lk) rfl S.co S.gen rfl (W.codeRec_of KX hcd) (hb _ _ _ _ ?_);refine bz (wpAny_newFunctionEnv_cells S.kind hkind fun env he s1 x hle=>?_);subst he;refine⟨lim.keeps x.toInCall.keep,codeAny_func ?_⟩;obtain⟨t,ht,hq⟩:=hbody A outer s H vs Q E (hr.deeper _) hsp;have I:Inv (uY CX P w K mg base N zY scope f cdv A outer s H E) [] (start N vs) H s1:=DK S hr.hd e0 hl r x (Xc e0.tk hle);refine At (ht [] s1 (start N vs) H _ I hq) (fun fl s' hs=>?_) fun e s' hs=>hs;have fin:∀{σ':St}{H':Hp}{v:V}{u:Value},Inv (uY CX P w K mg base N zY scope f cdv A outer s H E) [] σ' H' s'->RelV v u->Q v H'->CE outer P w H s Q u s' :=
  fun {σ' H' v u} J rv q=>⟨v,H',J.os,J.bare,J.base,J.hok,rv,q⟩
 cases fl with
 |ret u=>
  obtain⟨v,σ',H',J,rv,q⟩:=hs;exact fin J rv q
 |next=>
  obtain⟨σ',H',J,q⟩:=hs;exact fin (v:=V.non) (u:=Value.none) J rfl q
 |brk=>
  obtain⟨_,_,_,q⟩:=hs;exact False.elim q
 |cont=>
  obtain⟨_,_,_,q⟩:=hs;exact False.elim q
end L2
namespace L2
open PySem.Spec PyProof.Rows
section
variable {X:Cx}{x:Str}{p pos:Pos}{e:Expr}{es:List Expr}{t:TA}{id T:String}{r:List V->Hp->VK->Prop}
def MP(r:List V->Hp->VK->Prop)(t:TA):TE:=fun σ H Q=>t σ H fun vs H1=>r vs H1 Q
def b9(hc:CallR X (.builtin id) r)(hg:Gl X x)(hm:X.mg x=none)(hv:bootBuiltins x=some (.builtin id))(ha:PA X (e::es) t)(hn:x≠"__name__":=by decide)(hdb:(x == ("__debug__":Str))=false:=by decide)
  (he:starEach (e::es) X.env=(false,eval e X.env)::starEach es X.env:=by rfl) (hpl:(backTo pos (starEach es X.env)).any (·.1)=false:=by rfl):PE X (.Call (.Name x p) (e::es) [] pos) (MP r t):=by
 intro z9 s σ H Q I h;refine Bt (km I hg hm hv ?_ hn hdb);exact PyProof.Rows.callWith_builtin1 (dq (ha pos z9 s σ H _ I h) fun us s1 ⟨vs,H1,I1,r1,q1⟩=>hc z9 s1 σ H1 vs us Q I1 r1 q1) he hpl
def lh(hc:CallR X (.type T) r)(hg:Gl X x)(hm:X.mg x=none)(hv:bootBuiltins x=some (.type T))(ha:PA X (e::es) t)(hn:x≠"__name__":=by decide)(hdb:(x == ("__debug__":Str))=false:=by decide)
  (he:starEach (e::es) X.env=(false,eval e X.env)::starEach es X.env:=by rfl) (hpl:(backTo pos (starEach es X.env)).any (·.1)=false:=by rfl):PE X (.Call (.Name x p) (e::es) [] pos) (MP r t):=by
 intro z9 s σ H Q I h;refine Bt (km I hg hm hv ?_ hn hdb);exact Ay (dq (ha pos z9 s σ H _ I h) fun us s1 ⟨vs,H1,I1,r1,q1⟩=>hc z9 s1 σ H1 vs us Q I1 r1 q1) he hpl
end
end L2
namespace L2
open PySem.Spec PyProof.Rows
section
variable {κ:Type}[DecidableEq κ]
def lK(zX:List (κ×V))(k:κ):Option V:=(zX.find? fun kv=>decide (kv.1=k)).map (·.2)
def putK(zX:List (κ×V))(k:κ)(v:V):List (κ×V) :=
 if (zX.any fun kv=>decide (kv.1=k))=true then zX.map (fun kv=>if kv.1=k then(kv.1,v) else kv) else zX++[(k,v)]
def ku{p:κ×V}{r:List (κ×V)}{k:κ}(e:p.1=k):lK (p::r) k=some p.2:=by simp[lK,Qi,e]
def kw{p:κ×V}{r:List (κ×V)}{k:κ}(e:¬ p.1=k):lK (p::r) k=lK r k:=by simp[lK,Qi,e]
theorem u3(k:κ):∀zX:List (κ×V),(zX.any fun kv=>decide (kv.1=k))=(lK zX k).isSome
 |[]=>rfl
 | p::r=>by
  rw[Bh];by_cases e:p.1=k
  ·simp only[ku e,Af e,Bool.true_or,Option.isSome_some]
  ·rw[kw e,Ad e,Bool.false_or];exact u3 k r
def oJ(zX:List (κ×V))(k:κ)(v:V):(putK zX k v).length<=zX.length+1:=by
 unfold putK;split
 ·rw[Za];lia
 ·rw[Xa,Vc,Wh];lia
theorem RelO.isSome_eq{o:Option V}{u:Option Value}(r:RelO o u):o.isSome=u.isSome:=by
 cases o with
 | none=>cases u with|none=>rfl|some _=>exact(show False from r).elim
 | some _=>cases u with|none=>exact(show False from r).elim|some _=>rfl
theorem KV.val{zX:List (κ×V)}{vs:List (κ×Value)}(r:KV zX vs)(k:κ):RelO (lK zX k) (valueAt vs k):=by
 unfold KV at r;induction r with
 |nil=>exact True.intro
 |@cons p q ps qs h t ih=>
  obtain⟨h1,h2⟩:=h;by_cases e:p.1=k
  ·have e':q.1=k:=h1.symm.trans e;have b:valueAt (q::qs) k=some q.2:=by simp[valueAt,Qi,e']
   rw[ku e,b];exact h2
  ·have e':¬ q.1=k:=fun z=>e (h1.trans z);have b:valueAt (q::qs) k=valueAt qs k:=by simp[valueAt,Qi,e']
   rw[kw e,b];exact ih
theorem KV.any{zX:List (κ×V)}{vs:List (κ×Value)}(r:KV zX vs)(k:κ):(zX.any fun kv=>decide (kv.1=k))=vs.any fun kv=>decide (kv.1=k):=by
 unfold KV at r;induction r with|nil=>rfl|cons h t ih=>rw[Bh,Bh,ih,h.1]
def KV.repl{zX:List (κ×V)}{vs:List (κ×Value)}(r:KV zX vs)(k:κ)(ry:RelV y u) :
  KV (zX.map fun kv=>if kv.1=k then(kv.1,y) else kv) (vs.map fun kv=>if kv.1=k then(kv.1,u) else kv):=by
 unfold KV at r ⊢;induction r with
 |nil=>exact .nil
 |@cons p q ps qs h t ih=>
  rw[Qd,Qd];refine .cons ?_ ih;obtain⟨h1,h2⟩:=h;by_cases e:p.1=k
  ·rw[if_pos e,if_pos (h1.symm.trans e)];exact⟨h1,ry⟩
  ·rw[Ah e,Ah (fun z=>e (h1.trans z))];exact⟨h1,h2⟩
def KV.put(r:KV zX vs)(k:κ)(ry:RelV y u):KV (putK zX k y) (stored vs k u):=by
 unfold putK stored;rw[r.any k];by_cases e:(vs.any fun kv=>decide (kv.1=k))=true
 ·rw[if_pos e,if_pos e];exact r.repl k ry
 ·rw[Ah e,Ah e];exact Paired.snoc r ⟨rfl,ry⟩
theorem KV.length{zX:List (κ×V)}{vs:List (κ×Value)}(r:KV zX vs):zX.length=vs.length:=Paired.length r
end
theorem sk(r:RelV (kV k) u):(bT P w).is k u=true:=by
 cases k with
 |inl i=>obtain⟨t,e⟩:=(show ∃t,u=Value.int i t from r);subst e;exact uR P w i t
 |inr x=>obtain⟨t,e⟩:=(show ∃t,u=Value.str x t from r);subst e;exact fO P w x t
theorem sr:∀{ks:List Key}{us:List Value},Vals (ks.map kV) us->ItemsAre (bT P w) ks us
 |[],_,r=>by rw[List.map_nil]at r;cases r;exact .nil
 | k::ks,_,r=>by
  rw[Qd]at r;cases r with|cons h t=>exact .cons (sk h) (sr t)
abbrev KT(H:Hp):List (List Key×V)->List (List Key×Addr×Value)->Prop:=Paired fun p q=>p.1=q.1/\H q.2.1=some (.tup (p.1.map kV))/\RelV p.2 q.2.2
theorem KT.val{zX:List (List Key×V)}{xs:List (List Key×Addr×Value)}(r:KT H zX xs)(k:List Key):RelO (lK zX k) ((atKey xs k).map (·.2)):=by
 induction r with
 |nil=>exact True.intro
 |@cons p q ps qs h t ih=>
  obtain⟨h1,_,h2⟩:=h;by_cases e:p.1=k
  ·have e':q.1=k:=h1.symm.trans e;have b:atKey (q::qs) k=some q.2:=by simp[atKey,Qi,e']
   rw[ku e,b];exact h2
  ·have e':¬ q.1=k:=fun z=>e (h1.trans z);have b:atKey (q::qs) k=atKey qs k:=by simp[atKey,Qi,e']
   rw[kw e,b];exact ih
def KT.repl{zX:List (List Key×V)}{xs:List (List Key×Addr×Value)}(r:KT H zX xs)(k:List Key)(ry:RelV y u) :
  KT H (zX.map fun kv=>if kv.1=k then(kv.1,y) else kv) (xs.map (putAt k u)):=by
 induction r with
 |nil=>exact .nil
 |@cons p q ps qs h t ih=>
  rw[Qd,Qd];refine .cons ?_ ih;obtain⟨h1,h2,h3⟩:=h;unfold putAt;by_cases e:p.1=k
  ·rw[if_pos e,if_pos (h1.symm.trans e)];exact⟨h1,h2,ry⟩
  ·rw[Ah e,Ah (fun z=>e (h1.trans z))];exact⟨h1,h2,h3⟩
def KT.put(r:KT H zX xs)(k:List Key)(hb:H b=some (.tup (k.map kV)))(ry:RelV y u) :
  KT H (putK zX k y) (storedH xs k b u):=by
 have e:(zX.any fun kv=>decide (kv.1=k))=(atKey xs k).isSome:=by
  rw[u3,(r.val k).isSome_eq,BC]
 unfold putK storedH;rw[e];by_cases q:(atKey xs k).isSome=true
 ·rw[if_pos q,if_pos q];exact r.repl k ry
 ·rw[Ah q,Ah q];exact Paired.snoc r ⟨rfl,hb,ry⟩
def KT.keeps(r:KT H zX xs)(ht:∀b ys,H b=some (.tup ys)->H' b=some (.tup ys)):KT H' zX xs :=
 Paired.mapP r fun _ _ z=>⟨z.1,ht _ _ z.2.1,z.2.2⟩
section
variable {P:Program}{w:World}{H:Hp}{h:Heap}{a:Addr}
def Lx(ok:HOk P w H h)(e:Rd H a u):ObjOk P w H h a u:=e.ok ok
def yc{zX:List (Key×V)}(ok:HOk P w H h)(e:Rd H a (.dK zX)):zX.length<=sizeLine/\(a == sysModules)=false/\∃vs,KV zX vs/\h.DictOf (bT P w) a vs :=
 show ObjOk P w H h a (.dK zX) from Lx ok e
def P5{zX:List (Key×V)}(ok:HOk P w H h)(e:H a=some (.dK zX)):zX.length<=sizeLine/\(a == sysModules)=false/\∃vs,KV zX vs/\h.DictOf (bT P w) a vs:=yc ok (.inl e)
def qi{ks:List Key}(ok:HOk P w H h)(e:H a=some (.tup (ks.map kV))):(tupleKind (bT P w)).is h ks a:=by
 obtain⟨_,its,r,o,h1,h2,n,h3⟩:=(show ObjOk P w H h a (.tup (ks.map kV)) from ok a _ e);exact⟨o,its.toArray,n,h1,h2,h3,by simpa using sr r⟩
def EZ{zX:List (List Key×V)}(ok:HOk P w H h)(e:Rd H a (.dT ep zX)):zX.length<=sizeLine/\(a == sysModules)=false /\
  ∃xs,KT H zX xs/\h.DictOfH (tupleKind (bT P w)) a xs:=by
 obtain⟨z,y,xs,r,_,o,es,h1,h2,h3,h4,h5⟩:=(show ObjOk P w H h a (.dT ep zX) from Lx ok e);refine⟨z,y,xs,r,o,es,ep.1,h1,h2,h3,h4,fun x hx=>?_,h5⟩;have all:∀{l:List (List Key×V)}{m:List (List Key×Addr×Value)},KT H l m->∀x∈m,(tupleKind (bT P w)).is h x.1 x.2.1:=by
  intro l m q;induction q with
  |nil=>intro x hx;exact nomatch hx
  |@cons p q ps qs hq t ih=>
   intro x hx;rcases Wd.mp hx with e|hx
   ·subst e;exact qi ok (by rw[<-hq.1];exact hq.2.1)
   ·exact ih x hx
 exact all r x hx
end
section
variable {P:Program}{w:World}{H:Hp}{h:Heap}{a:Addr}
def P6{zX:List (List Key×V)}(ok:HOk P w H h)(e:H a=some (.dT ep zX)):zX.length<=sizeLine/\(a == sysModules)=false /\
  ∃xs,KT H zX xs/\xs.map (·.2.1)=ep.2/\h.DictOfH (tupleKind (bT P w)) a xs:=by
 obtain⟨z,y,xs,r,ra,o,es,h1,h2,h3,h4,h5⟩:=(show ObjOk P w H h a (.dT ep zX) from ok a _ e);refine⟨z,y,xs,r,ra,o,es,ep.1,h1,h2,h3,h4,fun x hx=>?_,h5⟩;have all:∀{l:List (List Key×V)}{m:List (List Key×Addr×Value)},KT H l m->∀x∈m,(tupleKind (bT P w)).is h x.1 x.2.1:=fun {l m} q=>by
  induction q with
  |nil=>exact fun x hx=>nomatch hx
  |cons hq t ih=>
   intro x hx;rcases Wd.mp hx with e'|hx
   ·subst e';exact qi ok (by rw[<-hq.1];exact hq.2.1)
   ·exact ih x hx
 exact all r x hx
end
def DGet(H:Hp)(a:Addr)(y:V)(r:Option V):Prop :=
 (∃zX k,Rd H a (.dK zX)/\y=kV k/\r=lK zX k)\/∃ep zX k b,Rd H a (.dT ep zX)/\y=.ref b/\H b=some (.tup (k.map kV))/\r=lK zX k
def MQ(as:List Addr)(zX:List (List Key×V))(k:List Key)(b:Addr):List Addr:=if (lK zX k).isSome=true then as else as++[b]
def P7(H:Hp)(a:Addr)(y v:V)(R:Hp->Prop):Prop :=
 (∃zX k,H a=some (.dK zX)/\y=kV k/\zX.length<sizeLine/\R (upd H a (.dK (putK zX k v)))) \/
 ∃ep zX k b,H a=some (.dT ep zX)/\y=.ref b/\H b=some (.tup (k.map kV))/\zX.length<sizeLine/\∀n,R (upd H a (.dT (n,MQ ep.2 zX k b) (putK zX k v)))
theorem DGet.k{a:Addr}{zX:List (Key×V)}{k:Key}(e:H a=some (.dK zX)):DGet H a (kV k) (lK zX k):=.inl ⟨zX,k,.inl e,rfl,rfl⟩
def MR{xs:List (List Key×Addr×Value)}(ra:xs.map (·.2.1)=as)(rel:KT H zX xs):(storedH xs k b u).map (·.2.1)=MQ as zX k b:=by
 have e:(lK zX k).isSome=(atKey xs k).isSome:=by rw[(rel.val k).isSome_eq,BC]
 unfold storedH MQ;rw[e];by_cases q:(atKey xs k).isSome=true
 ·rw[if_pos q,if_pos q,<-ra,Qc];refine Ye fun x _=>?_;show(putAt k u x).2.1=x.2.1;unfold putAt;split<;>rfl
 ·rw[Ah q,Ah q,Qb,ra];rfl
section
variable {X:Cx}{z9:List (Addr×Obj)}{σ:St}{H:Hp}{s:Shared}{a:Addr}{y v:V}{u r:Value}{o:Option V}{A:Around}{E:Value->Shared->Prop}
def Inv.big(I:Inv X z9 σ H s):sysModules<s.heap.objs.size:=by
 have h:mainGlobals<s.heap.objs.size:=(I.mod.glob.keeps I.bk).lt;exact BR (by decide) h
def DL(hu:A.units+1<cLine)(I:Inv X z9 σ H s)(g:DGet H a y (some v))(ry:RelV y u)(h:∀w' s',Inv X z9 σ H s'->RelV v w'->Q w' s') :
  wpAny (model X.prog X.w) A (getItem (.ref a) u) Q E s:=by
 rcases g with⟨zX,k,e,ey,l⟩|⟨ep,zX,k,b,e,ey,eb,l⟩
 ·subst ey;obtain⟨z,hd,vs,rel,dd⟩:=yc I.hok e;obtain⟨w',hw,rw'⟩:=RelO.some_of (v:=v) (o:=valueAt vs k) (by rw[l];exact rel.val k)
  exact wpAny_getItem_of (sk ry) dd.mapOf hw (h w' _ (I.tok _) rw')
 ·subst ey;cases (show u=Value.ref b from ry);obtain⟨z,hd,xs,rel,dd⟩:=EZ I.hok e;obtain⟨w',hw,rw'⟩:=RelO.some_of (v:=v) (o:=(atKey xs k).map (·.2)) (by rw[l];exact rel.val k)
  obtain⟨p,hp,hp2⟩:=Qe.mp hw;refine wpAny_getItem_heap (Ck hu) (qi I.hok eb) dd hp ?_;rw[hp2];exact h w' _ (I.tok _) rw'
def S5(hu:A.units+1<cLine)(I:Inv X z9 σ H s)(g:DGet H a y o)(ry:RelV y u)(h:∀s',Inv X z9 σ H s'->Q (.bool o.isSome) s') :
  wpAny (model X.prog X.w) A (compareOp .In u (.ref a)) Q E s:=by
 rcases g with⟨zX,k,e,ey,l⟩|⟨ep,zX,k,b,e,ey,eb,l⟩
 ·subst ey;obtain⟨z,hd,vs,rel,dd⟩:=yc I.hok e;refine wpAny_in_of (sk ry) hd dd.mapOf ?_;rw[<-(rel.val k).isSome_eq,<-l];exact h _ (I.tok _)
 ·subst ey;cases (show u=Value.ref b from ry);obtain⟨z,hd,xs,rel,dd⟩:=EZ I.hok e;refine wpAny_in_heap (Ck hu) (qi I.hok eb) hd dd ?_;have q:=(rel.val k).isSome_eq;rw[BC]at q;rw[<-q,<-l];exact h _ (I.tok _)
def yd{h':Heap}(I:Inv X z9 σ H s)(mu:PP (H a))(hs:Heap.SameBut a s.heap h')(he:∃q,h'.get? a=some q)(new:ObjOk X.prog X.w (upd H a ob) h' a ob)(ht:0<t':=by first|assumption|exact Qh _|exact Inv.tk (by assumption)|exact Inv.tkl (by assumption) (by assumption)|lia) :
  Inv X z9 σ (upd H a ob) { s with heap:=h',toks:=t' } :=
 I.write (x:=a) (e:=a) mu (.inl rfl) (fun b q hb z=>(hs.2 b hb).trans z) he new
def MS{h':Heap}{zX:List (Key×V)}(z:zX.length<=sizeLine)(hd:(a == sysModules)=false)(rel:KV zX vs)(dd:h'.DictOf (bT P w) a vs) :
  ObjOk P w H' h' a (.dK zX):=⟨z,hd,vs,rel,dd⟩
def DM{R:Hp->Prop}{Q:Unit->Shared->Prop}(hu:A.units+1<cLine)(I:Inv X z9 σ H s)(g:P7 H a y v R)(ry:RelV y u)(rv:RelV v r)(h:∀s' H',Inv X z9 σ H' s'->R H'->Q () s') :
  wpAny (model X.prog X.w) A (setItem (.ref a) u r) Q E s:=by
 rcases g with⟨zX,k,e,ey,l,eH⟩|⟨ep,zX,k,b,e,ey,eb,l,eH⟩
 ·subst ey;obtain⟨z,hd,vs,rel,dd⟩:=P5 I.hok e;have hz:vs.length<=sizeLine:=by rw[<-rel.length];exact z
  have hl:(putK zX k v).length<=sizeLine:=by have:=oJ zX k v;lia
  refine wpAny_setItem_pairs (hsz:=hz) (sk ry) dd fun h' dd' hs=>h _ _ ?_ eH;have he:∃q,h'.get? a=some q:=let ⟨q,_,_,hq,_⟩:=dd';⟨q,hq⟩;exact yd I (by rw[e];exact True.intro) hs he (MS hl hd (rel.put k rv) dd')
 ·subst ey;cases (show u=Value.ref b from ry);obtain⟨z,hd,xs,rel,ra0,dd⟩:=P6 I.hok e;have hz:xs.length<=sizeLine:=by rw[<-Paired.length rel];exact z
  have hl:(putK zX k v).length<=sizeLine:=by have:=oJ zX k v;lia
  have ra:xs.map (·.2.1)=ep.2:=ra0;refine wpAny_setItem_heap (hsz:=hz) (Ck hu) (qi I.hok eb) dd fun h' dd' hs=>?_;obtain⟨q,es,ep',hq,h2,h3,h4,_,h5⟩:=dd';refine h _ _ ?_ (eH ep');refine yd I (by rw[e];exact True.intro) hs ⟨q,hq⟩ ⟨hl,hd,_,(rel.put k eb rv).keeps fun c ys ec=>?_,MR ra rel,q,es,hq,h2,h3,h4,h5⟩
  rw[aC (PN ec e (fun z=>nomatch z))];exact ec
end
def I0(i:Expr):Prop:=∀ov iv,subscripted i false ov iv=operate [ov,iv] (getItem ov iv)
def ye{A:Around}{E:Value->Shared->Prop}{T id:String}{Q:Value->Shared->Prop}
  (hl:typeLookup (.type T) "__getitem__"=pure (some (.builtin id)))(hs:I0 slice)
  (h:wpAny (model prog w) A (eval value env) (fun o s₁=>wpAny (model prog w) A (eval slice env) (fun i s₂=>s₂.TypeIs o T/\wpAny (model prog w) A (getItem o i) Q E s₂) E s₁) E s) :
  wpAny (model prog w) A (eval (.Subscript value slice pos) env) Q E s:=by
 refine Co (At h (fun o s₁ h₁=>At h₁ (fun i s₂ h₂=>?_) fun _ _ x=>x) fun _ _ x=>x);obtain⟨hT,h₂⟩:=h₂;unfold subscriptTail;refine Aa ?_;rw[getitemInPython_of_ne hT.not_modules];refine Aa (BV hT hl ?_);have fin:wpAny (model prog w) A (subscripted slice false o i) (fun r s₃=>wpAny (model prog w) A (letTemporaryGo value o r >>= fun _=>pure r) Q E s₃) E s₂:=by
  rw[hs o i];exact wpAny_operating (At h₂ (fun r s₃ h₃=>Aa (wpAny_letTemporaryGo (Ac h₃))) fun _ _ x=>x)
 first
  | exact Ac (Aa fin)
  | exact Aa (Ac (Aa fin))
  | exact Aa fin
def u4{s:Shared}(I:Inv X z9 σ H s)(g:DGet H a y o):s.TypeIs (.ref a) "dict":=by
 rcases g with⟨zX,k,e,_,_⟩|⟨ep,zX,k,b,e,_,_,_⟩
 ·obtain⟨_,_,vs,_,dd⟩:=yc I.hok e;exact dd.typeIs
 ·obtain⟨_,_,xs,_,dd⟩:=EZ I.hok e;exact dd.typeIs
def P8(td ty:TE):TE:=fun σ H Q=>td σ H fun x H1=>ty σ H1 fun y H2=>∃a v,x=.ref a/\DGet H2 a y (some v)/\Q v H2
section
variable {X:Cx}{o i e value:Expr}{pos pos' tpos:Pos}{td ty tv:TE}
def I8(hu:X.A.units+1<cLine)(ho:PE X o td)(hi:PE X i ty)(hs:I0 i):PE X (.Subscript o i pos) (P8 td ty):=by
 intro z9 s σ H Q I h;refine ye PySem.F.slot_dict_getitem.lookup hs (dq (ho z9 s σ H _ I h) fun u s1 ⟨x,H1,I1,rx,q1⟩=>dq (hi z9 s1 σ H1 _ I1 q1) fun iv s2 zz9=>?_);obtain⟨y,H2,I2,ry,a,v,ex,g,q2⟩:=zz9;subst ex;obtain rfl:u=Value.ref a:=rx;exact⟨u4 I2 g,DL hu I2 g ry fun w' s3 I3 rw'=>⟨v,H2,I3,rw',q2⟩⟩
end
def E8(h:Heap)(hb:sysModules<h.objs.size):ObjOk P w H (h.push { cls:=.type "dict",data:=.dict #[] }) h.objs.size (.dK []) :=
 ⟨Xi _,beq_eq_false_iff_ne.mpr (Au (Qf hb)),[],.nil,Heap.DictOf.new h⟩
def E9:TE:=fun _ H Q=>∀p,H p=none->Q (.ref p) (upd H p (.dK []))
section
variable {X:Cx}{pos:Pos}
def qj:PE X (.Dict [] [] pos) E9:=fun z9 s σ H Q I h=>
 wpAny_Dict_empty ⟨.ref s.heap.objs.size,_,I.laid (a:=s.heap.objs.size) (o:=.dK []) (t':=s.toks) (fun _ _ q=>Ab _ q) (Qa _) (E8 s.heap I.big),rfl,h _ (I.hok.fresh (Qa _))⟩
end
end L2
namespace HT
open PyProof.Rows
def rcLt_int(A:Around)(s:Shared)(a:Int)(t:Tok)(c:Int)(u:Tok)(prog:Program)(w:World)(E:Value->Shared->Prop)(Q:Value->Shared->Prop)(h:Q (.bool (decide (a<c))) s) :
  wpAny (model prog w) A (richCompare .Lt (.int a t) (.int c u)) Q E s :=
 (PyProof.Rows.lt_int h:wpAny (model prog w) A (compareOp .Lt (.int a t) (.int c u)) Q E s)
section
variable {prog:Program}{w:World}{A:Around}{E:Value->Shared->Prop}{s:Shared}
def cat_tup{vs ws:List Value}(ht:IsTup s.heap t vs.toArray)(hb:IsTup s.heap b ws.toArray)(hv:vs≠[])
  (h1:ws=[]->Q (.ref t) s)(h2:ws≠[]->Q (.ref s.heap.objs.size) { s with heap:=s.heap.push { cls:=.type "tuple",data:=.seq (vs++ws).toArray } })
  (hsz:vs.length+ws.length<=sizeLine):wpAny (model prog w) A (binaryOp .Add (.ref t) (.ref b)) Q E s:=by
 obtain⟨⟨cls,dd,data,sl⟩,ho,hc,n,hd⟩:=id ht;obtain⟨⟨cls2,dd2,data2,sl2⟩,ho2,hc2,n2,hd2⟩:=id hb;simp only at hc hd hc2 hd2;subst hc hd hc2 hd2;have e:vs.toArray++ws.toArray=(vs++ws).toArray:=by simp
 by_cases hw:ws=[]
 ·exact concat_meets ⟨_,ho,rfl⟩ ⟨_,ho2,rfl⟩ CS seq_tuple_add PySem.F.slot_tuple_add PySem.F.entry_tuple_add (PySem.F.args_tuple_add_2 _ _)
   (tuple_addW1 t b vs.toArray ws.toArray n n2 dd dd2 sl sl2 (by simpa using hv) (by simp[hw])) ⟨ho,ho2,h1 hw⟩
 ·refine concat_meets ⟨_,ho,rfl⟩ ⟨_,ho2,rfl⟩ CS seq_tuple_add PySem.F.slot_tuple_add PySem.F.entry_tuple_add (PySem.F.args_tuple_add_2 _ _)
   (tuple_addW2 t b vs.toArray ws.toArray n n2 dd dd2 sl sl2 (by simpa using hv) (by simpa using hw) (by rw[Vb,Vb];exact hsz)) ⟨ho,ho2,?_⟩
  rw[e];exact h2 hw
def sIx(n d:Nat):Option Int->Nat|none=>d|some v=>if v<0 then(v+(n:Int)).toNat else min v.toNat n
def sIx_none(n d:Nat):sIx n d none=d:=rfl
def sIx_nat(n d k:Nat):sIx n d (some (k:Int))=min k n:=by
 show(if (k:Int)<0 then((k:Int)+(n:Int)).toNat else min (k:Int).toNat n)=min k n;rw[Ah (by lia),Wl]
theorem MT(n d:Nat)(hd:d<=n)(o:Option Int):sIx n d o<=n:=by
 cases o with
 |none=>exact hd
 |some v=>
  show(if v<0 then(v+(n:Int)).toNat else min v.toNat n)<=n;by_cases hv:v<0
  ·rw[if_pos hv];lia
  ·rw[Ah hv];exact Nat.min_le_right _ _
def clip_nat(v:Int)(n:Nat)(hv:¬ v<0):min v (n:Int)=((min v.toNat n:Nat):Int):=by
 obtain⟨k,rfl⟩:=Int.eq_ofNat_of_zero_le (Int.not_lt.mp hv);rw[Wl];rcases Nat.le_total k n with h|h
 ·rw[Xn h];exact Int.min_eq_left (Int.ofNat_le.mpr h)
 ·rw[Nat.min_eq_right h];exact Int.min_eq_right (Int.ofNat_le.mpr h)
def yf(v:Int)(n d:Nat):(if v<0 then max (v+(n:Int)) 0 else min v (n:Int))=((sIx n d (some v):Nat):Int):=by
 show(if v<0 then max (v+(n:Int)) 0 else min v (n:Int))=(((if v<0 then(v+(n:Int)).toNat else min v.toNat n):Nat):Int);by_cases hv:v<0
 ·rw[if_pos hv,if_pos hv];exact(Int.ofNat_toNat _).symm
 ·rw[Ah hv,Ah hv];exact clip_nat v n hv
def wP(lo hi:Option Int)(n:Nat):Builtin.Slice.sliceAdjust lo hi 1 (n:Int)=(((sIx n 0 lo:Nat):Int),((sIx n n hi:Nat):Int)):=by
 have h1:¬ ((1:Int)<0):=by lia
 unfold Builtin.Slice.sliceAdjust;simp only[h1,if_false];refine Prod.ext ?_ ?_
 ·cases lo with|none=>rfl|some v=>exact yf v n 0
 ·cases hi with|none=>rfl|some v=>exact yf v n n
def wQ(i j:Nat):Builtin.Slice.slicePlaces (i:Int) (j:Int) 1=j-i:=by
 unfold Builtin.Slice.slicePlaces;have h1:(1:Int) > 0:=by lia
 simp only[h1,if_true,Du];split<;>lia
theorem slicePart_(p:IsPart v o)(h:Q o s):wpAny (model prog w) A (Builtin.Slice.slicePartIndex v) Q E s:=by
 cases p with|none=>exact slicePart_none h|int i t=>exact slicePart_int h
def i7{sl:Addr}{vl vu:Value}{lo hi:Option Int}{n:Nat}{Q:Int×Int×Nat->Shared->Prop}(hs:s.heap.IsSliceOf sl vl vu .none)(pl:IsPart vl lo)(pu:IsPart vu hi)
  (h:Q (((sIx n 0 lo:Nat):Int),1,sIx n n hi-sIx n 0 lo) s):wpAny (model prog w) A (Builtin.Slice.sliceApplied (.ref sl) (pure (n:Int))) Q E s:=by
 obtain⟨os,hos,hcs,hds⟩:=id hs;unfold Builtin.Slice.sliceApplied Builtin.Slice.sliceFields;refine Aa (Aa (Al hos hds (x:=vl) rfl (Aa (Al hos hds (x:=vu) rfl (Aa (Al hos hds (x:=.none) rfl (Ac ?_)))))));refine Aa (slicePart_none ?_);show wpAny _ _ (if ((1:Int) == 0)=true then _ else _) _ _ s;rw[Ah (by decide)]
 refine Aa (slicePart_ pl (Aa (slicePart_ pu (Aa (Ac ?_)))));show wpAny _ _ (match Builtin.Slice.sliceAdjust lo hi 1 (n:Int) with|(lo,hi)=>pure (lo,(1:Int),Builtin.Slice.slicePlaces lo hi 1)) _ _ s
 rw[wP lo hi n];show wpAny _ _ (pure (((sIx n 0 lo:Nat):Int),(1:Int),Builtin.Slice.slicePlaces ((sIx n 0 lo:Nat):Int) ((sIx n n hi:Nat):Int) 1)) _ _ s;rw[wQ];exact Ac h
def Fb(xs:Array Value)(i k:Nat):((List.range k).filterMap fun(m:Nat)=>xs[((i:Int)+(m:Int)*1).toNat]?).toArray=((xs.toList.drop i).take k).toArray:=by
 have e:(fun(m:Nat)=>xs[((i:Int)+(m:Int)*1).toNat]?)=fun m=>xs[i+m]?:=by
  funext m
  have:((i:Int)+(m:Int)*1).toNat=i+m:=by lia
  rw[this]
 rw[e];have:=pick_run xs i k;rw[Cv]at this;have e2:((fun x=>xs[x]?) ∘ fun x=>i+x)=fun m=>xs[i+m]?:=rfl;rw[e2]at this;rw[this]
def getItem_tuple_cut{t sl:Addr}{items:Array Value}{vl vu:Value}{lo hi:Option Int}{Q:Value->Shared->Prop}(ht:IsTup s.heap t items)(hs:s.heap.IsSliceOf sl vl vu .none)(pl:IsPart vl lo)(pu:IsPart vu hi)
  (hw:¬ (sIx items.size 0 lo=0/\sIx items.size items.size hi=items.size))
  (h:Q (.ref s.heap.objs.size) { s with heap:=s.heap.push { cls:=.type "tuple",data:=.seq ((items.toList.drop (sIx items.size 0 lo)).take (sIx items.size items.size hi-sIx items.size 0 lo)).toArray } })
  (hsz:items.size<=sizeLine):wpAny (model prog w) A (getItem (.ref t) (.ref sl)) Q E s:=by
 have htake:sizeOk (.seq ((items.toList.drop (sIx items.size 0 lo)).take (sIx items.size items.size hi-sIx items.size 0 lo)).toArray):=by
  show((items.toList.drop (sIx items.size 0 lo)).take (sIx items.size items.size hi-sIx items.size 0 lo)).toArray.size<=sizeLine;rw[Vb,Wg,Vg,Zf];exact Xd (Nat.min_le_right _ _) (Xd (Nat.sub_le _ _) hsz)
 have hj:sIx items.size items.size hi<=items.size:=MT _ _ (Qa _) hi;obtain⟨os,hos,hcs,hds⟩:=id hs;have hTs:s.TypeIs (.ref sl) "slice":=⟨os,hos,hcs⟩;unfold getItem
 try with_reducible refine Az ?_
 first|refine Aa (Ac ?_)|skip
 refine Aa (CB ht.typeIs (by decide) ?_)
 refine Aa (Ao (name:=Str.ofString "__getitem__") ht.typeIs Ap
  (Ar Ap ht.typeIs Cc ?_ (Cn _ _)))
 show wpAny _ _ (Builtin.Tuple.tupleItemsOf (.ref t) >>= _) _ _ s;refine Aa (tupleItemsOf_ ht ?_);refine Aa (AD hTs ?_);rw[if_pos (by decide)]
 refine Aa (i7 hs pl pu ?_);have hno:¬ ((((sIx items.size 0 lo:Nat):Int) == 0&&(1:Int) == 1&&(sIx items.size items.size hi-sIx items.size 0 lo) == items.size)=true):=by
  intro q;rw[Wf,Wf]at q;have q1:((sIx items.size 0 lo:Nat):Int)=0:=eq_of_beq q.1.1;have q2:sIx items.size items.size hi-sIx items.size 0 lo=items.size:=eq_of_beq q.2;exact hw ⟨by lia,by lia⟩
 show wpAny _ _ (if (((sIx items.size 0 lo:Nat):Int) == 0&&(1:Int) == 1&&(sIx items.size items.size hi-sIx items.size 0 lo) == items.size)=true then _ else _) _ _ s;rw[Ah hno,Fb]
 first
  | exact Aa (m:=Builtin.Tuple.tupleExact _) (Am (Ac ⟨_,rfl,Ac h⟩) htake)
  | exact Aa (m:=Builtin.Tuple.tupleExact _) (Am (Aa (Ac (Ac ⟨_,rfl,Ac h⟩))) htake)
  | exact Aa (Aa (m:=Builtin.Tuple.tupleExact _) (Am (Ac (Ac ⟨_,rfl,Ac h⟩)) htake))
  | exact Aa (Aa (m:=Builtin.Tuple.tupleExact _) (Am (Ac ⟨_,rfl,Ac h⟩) htake))
end
end HT
namespace L2
open PySem.Spec PyProof.Rows
abbrev TO:=St->Hp->(Option Int->Hp->Prop)->Prop
def PO(X:Cx)(e:Option Expr)(t:TO):Prop :=
 ∀(z9:List (Addr×Obj))(s:Shared)(σ:St)(H:Hp)(Q:Option Int->Hp->Prop),Inv X z9 σ H s->t σ H Q->
  wpAny (model X.prog X.w) X.A (evalPart e X.env) (fun u s'=>∃o H',Inv X z9 σ H' s'/\IsPart u o/\Q o H') X.xe s
def yg:TO:=fun _ H Q=>Q none H
def Ly(t:TE):TO:=fun σ H Q=>t σ H fun x H1=>∃i,x=.int i/\Q (some i) H1
section
variable {X:Cx}{e:Expr}{te:TE}{lo hi:Option Expr}{tl th:TO}{pos p2:Pos}
def dY:PO X none yg:=by
 intro z9 s σ H Q I h;rw[Cg];exact Ac ⟨none,H,I,.none,h⟩
def cA(h:PE X e te):PO X (some e) (Ly te):=by
 intro z9 s σ H Q I hw;rw[evalPart_some];refine dq (h z9 s σ H _ I hw) fun u s1 zz9=>?_;obtain⟨x,H1,I1,r1,q1⟩:=zz9;obtain⟨i,rfl,q⟩:=q1;obtain⟨t,rfl⟩:=r1;exact⟨some i,H1,I1,.int i t,q⟩
def SlR(X:Cx)(r:V->Option Int->Option Int->Hp->VK->Prop):Prop :=
 ∀(z9:List (Addr×Obj))(s:Shared)(σ:St)(H:Hp)(x:V)(v vl vu:Value)(lo hi:Option Int)(sl:Addr)(Q:VK),Inv X z9 σ H s->RelV x v->s.heap.IsSliceOf sl vl vu .none->IsPart vl lo->IsPart vu hi->r x lo hi H Q->
  ∃T id,typeLookup (.type T) "__getitem__"=pure (some (.builtin id))/\s.TypeIs v T/\wpAny (model X.prog X.w) X.A (getItem v (.ref sl)) (EP X z9 σ Q) X.xe s
def SlR.or(h:SlR X r)(h':SlR X r'):SlR X (fun x lo hi H Q=>r x lo hi H Q\/r' x lo hi H Q):=by
 intro z9 s σ H x v vl vu lo hi sl Q I rx hs pl pu q;rcases q with q|q
 ·exact h z9 s σ H x v vl vu lo hi sl Q I rx hs pl pu q
 ·exact h' z9 s σ H x v vl vu lo hi sl Q I rx hs pl pu q
def TM(r:V->Option Int->Option Int->Hp->VK->Prop)(te:TE)(tl th:TO):TE:=fun σ H Q=>te σ H fun x H1=>tl σ H1 fun l H2=>th σ H2 fun u H3=>r x l u H3 Q
def cq(hr:SlR X r)(he:PE X e te)(hl:PO X lo tl)(hu:PO X hi th):PE X (.Subscript e (.Slice lo hi none p2) pos) (TM r te tl th):=by
 intro z9 s σ H Q I h;refine Co (dq (he z9 s σ H _ I h) fun v s1 zz9=>?_);obtain⟨x,H1,I1,r1,q1⟩:=zz9;refine wpAny_Slice (dq (hl z9 s1 σ H1 _ I1 q1) fun vl s2 ⟨l,H2,I2,pl,q2⟩=>dq (hu z9 s2 σ H2 _ I2 q2) fun vu s3 zz9=>?_);obtain⟨u,H3,I3,pu,q3⟩:=zz9;rw[Cg];refine Ac ?_;have I4:Inv X z9 σ H3 { s3 with heap:=s3.heap.push { cls:=.type "slice",data:=.fields #[vl,vu,.none] } }:=I3.kept (t':=s3.toks) fun b ob q=>Ab _ q;obtain⟨T,id,hT,ht,hg⟩:=hr z9 { s3 with heap:=s3.heap.push { cls:=.type "slice",data:=.fields #[vl,vu,.none] } } σ H3 x v vl vu l u s3.heap.objs.size Q I4 r1 (Heap.IsSliceOf.new ..) pl pu q3;show wpAny (model X.prog X.w) X.A (subscriptTail e (.Slice lo hi none p2) v (.ref s3.heap.objs.size)) (EP X z9 σ Q) X.xe { s3 with heap:=s3.heap.push { cls:=.type "slice",data:=.fields #[vl,vu,.none] } };exact tail_any (ops:=[.ref s3.heap.objs.size,v]) ht hT hg (by with_unfolding_all rfl)
def u5(xs:List V)(lo hi:Option Int):List V:=(xs.drop (HT.sIx xs.length 0 lo)).take (HT.sIx xs.length xs.length hi-HT.sIx xs.length 0 lo)
def oK(xs:List V)(lo hi:Option Int):(u5 xs lo hi).length<=xs.length:=by
 unfold u5;rw[Wg,Vg];lia
def MU(K:W.Frag):V->Option Int->Option Int->Hp->VK->Prop:=fun x lo hi H Q=>∃a xs,x=.ref a/\kl K H a xs /\
 ¬ (HT.sIx xs.length 0 lo=0/\HT.sIx xs.length xs.length hi=xs.length)/\∀p,H p=none->Q (.ref p) (upd H p (.tup (u5 xs lo hi)))
def MV:SlR X (MU X.K):=by
 intro z9 s σ H x v vl vu lo hi sl Q I rx hs pl pu h;obtain⟨a,xs,rfl,hx,hw,q⟩:=h;cases rx;obtain⟨its,r,ht,hz⟩:=I.tuple hx;have hlen:its.toArray.size=xs.length:=by rw[Vb];exact r.length.symm
 refine⟨"tuple",_,Ap.lookup,ht.typeIs,?_⟩;refine HT.getItem_tuple_cut ht hs pl pu (by rw[hlen];exact hw) ?_ (by rw[hlen];exact hz)
 rw[hlen];refine⟨.ref s.heap.objs.size,_,I.laid (t':=s.toks) (o:=.tup (u5 xs lo hi)) (fun b ob q=>Ab _ q) (Qa _) ?_,rfl,q _ (I.hok.fresh (Qa _))⟩;exact⟨Xd (oK xs lo hi) hz,_,(r.drop (HT.sIx xs.length 0 lo)).take (HT.sIx xs.length xs.length hi-HT.sIx xs.length 0 lo),IsTup.new _ _⟩
def Fc(K:W.Frag):R2:=fun x y H Q=>∃a b xs ys,x=.ref a/\y=.ref b/\kl K H a xs/\kl K H b ys/\xs≠[]/\xs.length+ys.length<=sizeLine /\
 (ys=[]->Q (.ref a) H)/\(ys≠[]->∀p,H p=none->Q (.ref p) (upd H p (.tup (xs++ys))))
theorem Vals.nil_iff(r:Vals xs us):us=[]↔xs=[]:=by
 cases r with|nil=>simp|cons _ _=>simp
def I9:OpR X (binaryOp .Add) (Fc X.K):=by
 intro z9 s σ H x y v u Q I rx ry h;obtain⟨a,b,xs,ys,rfl,rfl,ha,hb,hx,hz,q1,q2⟩:=h;cases rx;cases ry;obtain⟨its,r1,p1,_⟩:=I.tuple ha;obtain⟨its2,r2,p2,_⟩:=I.tuple hb;refine HT.cat_tup p1 p2 (fun z=>hx (r1.nil_iff.mp z)) (fun z=>⟨.ref a,H,I,rfl,q1 (r2.nil_iff.mp z)⟩) (fun z=>?_) (by rw[<-r1.length,<-r2.length];exact hz)
 refine⟨.ref s.heap.objs.size,_,I.laid (t':=s.toks) (o:=.tup (xs++ys)) (fun b ob q=>Ab _ q) (Qa _) ?_,rfl,q2 (fun w=>z (r2.nil_iff.mpr w)) _ (I.hok.fresh (Qa _))⟩;exact⟨by rw[Xa];exact hz,_,r1.append r2,IsTup.new _ _⟩
end
end L2
namespace L2
open PySem.Spec PyProof.Rows
def DN(n:Nat)(i:Int):Option Nat:=if 0<=i then(if i<n then some i.toNat else none) else if -(n:Int)<=i then some (i+n).toNat else none
def ki{α:Type}(xs:List α)(i:Int):Option α:=(DN xs.length i).bind fun j=>xs[j]?
def yh(h:DN n i=some j):seqIndex? i n=some j/\j<n/\-(n:Int)<=i/\i<n:=by
 unfold DN at h;by_cases h0:0<=i
 ·rw[if_pos h0]at h;by_cases h1:i<n
  ·rw[if_pos h1]at h;have e:i.toNat=j:=Option.some.inj h;exact⟨by rw[C2 h0 h1,e],by lia,by lia,h1⟩
  ·rw[Ah h1]at h;cases h
 ·rw[Ah h0]at h;by_cases h1:-(n:Int)<=i
  ·rw[if_pos h1]at h;have e:(i+n).toNat=j:=Option.some.inj h;exact⟨by rw[seqIndex_neg (by lia) h1,e],by lia,h1,by lia⟩
  ·rw[Ah h1]at h;cases h
theorem tF{xs:List α}(h:ki xs i=some v):∃j,seqIndex? i xs.length=some j/\xs[j]?=some v/\j<xs.length/\-(xs.length:Int)<=i/\i<xs.length:=by
 unfold ki at h;cases e:DN xs.length i with
 |none=>rw[e]at h;cases h
 |some j=>
  rw[e]at h;obtain⟨h1,h2,h3,h4⟩:=yh e;exact⟨j,h1,h,h2,h3,h4⟩
def mR{α:Type}{xs:List α}{j:Nat}{v:α}(h:xs[j]?=some v):ki xs (j:Int)=some v:=by
 have hj:j<xs.length:=(Yd.mp h).1;have e:DN xs.length (j:Int)=some j:=by
  unfold DN;rw[if_pos (by lia),if_pos (by lia)];simp
 unfold ki;rw[e];exact h
def yi(b:Expr):Prop:=∀o i,subscripted b false o i=operate [o,i] (getItem o i)
def IxR(X:Cx)(r:R2):Prop :=
 ∀(value slice:Expr)(z9:List (Addr×Obj))(s:Shared)(σ:St)(H:Hp)(x y:V)(v u:Value)(Q:VK),Inv X z9 σ H s->RelV x v->RelV y u->r x y H Q->
  subscripted slice false v u=operate [v,u] (getItem v u)->wpAny (model X.prog X.w) X.A (subscriptTail value slice v u) (EP X z9 σ Q) X.xe s
def Px(X:Cx)(id:String)(r:V->List V->Hp->VK->Prop):Prop :=
 ∀(z9:List (Addr×Obj))(s:Shared)(σ:St)(H:Hp)(x:V)(xs:List V)(v:Value)(us:List Value)(Q:VK),Inv X z9 σ H s->RelV x v->Vals xs us->r x xs H Q->
  wpAny (model X.prog X.w) X.A (call (.builtin id) (v::us)) (EP X z9 σ Q) X.xe s
section
variable {X:Cx}{a b:Expr}{ta tb:TE}{pos:Pos}
def IxR.or(h:IxR X r)(h':IxR X r'):IxR X (fun x y H Q=>r x y H Q\/r' x y H Q):=by
 intro value slice z9 s σ H x y v u Q I rx ry q hs;rcases q with q|q
 ·exact h value slice z9 s σ H x y v u Q I rx ry q hs
 ·exact h' value slice z9 s σ H x y v u Q I rx ry q hs
def P9(hr:IxR X r)(ha:PE X a ta)(hb:PE X b tb)(hs:yi b):PE X (.Subscript a b pos) (EO r ta tb):=by
 intro z9 s σ H Q I h;exact Co (MK ha hb I h fun v u s2 x y H2 I2 rx ry q=>hr a b z9 s2 σ H2 x y v u Q I2 rx ry q (hs _ _))
def MW(K:W.Frag):R2:=fun x y H Q=>∃p xs i v,x=.ref p/\y=.int i/\ii K H p xs/\ki xs i=some v/\Q v H
def MX(K:W.Frag):R2:=fun x y H Q=>∃p xs i v,x=.ref p/\y=.int i/\kl K H p xs/\ki xs i=some v/\Q v H
def MY:R2:=fun x y H Q=>∃z i c,x=.str z/\y=.int i/\z.length<=sizeLine/\ki z.cps.toList i=some c/\Q (.str ⟨#[c]⟩) H
def ix_list:IxR X (MW X.K):=by
 intro value slice z9 s σ H x y v u Q I rx ry h hs;obtain⟨p,xs,i,z,rfl,rfl,hq,he,q⟩:=h;cases rx;obtain⟨t,rfl⟩:=ry;obtain⟨its,r,pl,hz⟩:=I.list hq;obtain⟨j,h1,h2,h3,h4,h5⟩:=tF he;obtain⟨w,ew,rw'⟩:=r.get h2;have hl:=r.length;have hn:=nX;have fin:EP X z9 σ Q w s:=⟨z,H,I,rw',q⟩;by_cases h0:0<=i
 ·have hj:i.toNat=j:=by
   rw[C2 h0 h5]at h1;exact Option.some.inj h1
  exact item_listR pl.isList h0 (by lia) (by rw[hj];simpa using ew) fin hs
 ·have hj:(i+(its.toArray.size:Int)).toNat=j:=by
   rw[seqIndex_neg (by lia) h4]at h1
   rw[Vb,<-hl];exact Option.some.inj h1
  exact subscriptTail_builtinR (x:=w) pl.isList.typeIs slot_list_getitem.lookup
   (wpAny_getItem_list_neg (Q:=fun r s'=>r=w/\EP X z9 σ Q r s') pl.isList (by lia) (by rw[Vb]<;>lia) (by lia) (by rw[hj];simpa using ew) ⟨rfl,fin⟩) hs
def ix_tup:IxR X (MX X.K):=by
 intro value slice z9 s σ H x y v u Q I rx ry h hs;obtain⟨p,xs,i,z,rfl,rfl,hq,he,q⟩:=h;cases rx;obtain⟨t,rfl⟩:=ry;obtain⟨its,r,pl,hz⟩:=I.tuple hq;obtain⟨j,h1,h2,h3,h4,h5⟩:=tF he;obtain⟨w,ew,rw'⟩:=r.get h2;have hl:=r.length;have hn:=nX;have fin:EP X z9 σ Q w s:=⟨z,H,I,rw',q⟩;exact subscriptTail_builtinR (x:=w) pl.typeIs slot_tuple_getitem.lookup
  (getItem_tuple (j:=j) (Q:=fun r s'=>r=w/\EP X z9 σ Q r s') pl (by lia) (by lia) (by rw[Vb,<-hl];exact h1) (by simpa using ew) ⟨rfl,fin⟩) hs
def ix_str:IxR X MY:=by
 intro value slice z9 s σ H x y v u Q I rx ry h hs;obtain⟨z,i,c,rfl,rfl,hz,he,q⟩:=h;obtain⟨t,rfl⟩:=rx;obtain⟨t',rfl⟩:=ry;obtain⟨j,h1,h2,h3,h4,h5⟩:=tF he;have hl:z.cps.toList.length=z.length:=by simp[Str.length]
 rw[hl]at h1 h4 h5;have hn:=nX
 exact tail_any (AW s z t) slot_str_getitem.lookup (getItem_str (c:=c) (by
  have e1:decide (i < -(2 ^ 63:Int))=false:=Ad (by lia)
  have e2:decide (i ≥ 2 ^ 63)=false:=Ad (by lia)
  rw[e1,e2,Bool.or_false]) (by rw[h1];simpa using h2) ⟨.str ⟨#[c]⟩,H,I.tok _,⟨_,rfl⟩,q⟩) hs
def SQ(K:W.Frag):R2:=fun x y H Q=>MW K x y H Q\/MX K x y H Q\/MY x y H Q
def MZ:IxR X (SQ X.K):=ix_list.or (ix_tup.or ix_str)
def wR(its:List Value)(n j:Nat)(u:Value):Obj.mapSeq (·.setIfInBounds j u) { cls:=.type "list",data:=.seq its.toArray n }={ cls:=.type "list",data:=.seq (its.set j u).toArray n }:=by
 simp[Obj.mapSeq]
theorem Inv.lst{s:Shared}(I:Inv X z9 σ H s)(h:H p=some (.lst xs)) :
  ∃(its:List Value)(n:Nat),Vals xs its/\s.heap.get? p=some { cls:=.type "list",data:=.seq its.toArray n }/\xs.length<=sizeLine:=by
 obtain⟨z,its,n,r,e⟩:=I.hok p _ h;exact⟨its,n,r,e,z⟩
def Inv.lstUpd{s:Shared}{xs ys:List V}{its its':List Value}(I:Inv X z9 σ H s)(h:H p=some (.lst xs))
  (ho:s.heap.get? p=some { cls:=.type "list",data:=.seq its.toArray n })(hf:f { cls:=.type "list",data:=.seq its.toArray n }={ cls:=.type "list",data:=.seq its'.toArray n' })(r:Vals ys its')(hz:ys.length<=sizeLine)(t':Nat)(ht:0<t':=by first|assumption|exact Qh _|exact Inv.tk (by assumption)|exact Inv.tkl (by assumption) (by assumption)|lia) :
  Inv X z9 σ (upd H p (.lst ys)) { s with heap:=s.heap.update p f,toks:=t' }:=by
 have e:(s.heap.update p f).get? p=some { cls:=.type "list",data:=.seq its'.toArray n' }:=by
  rw[Ba f ho (by rw[hf]<;>rfl),hf]
 refine I.write (x:=p) (e:=p) (by rw[h];trivial) (.inl rfl) (fun b u hb q=>(AG _ _ (Au hb)).trans q) ⟨_,e⟩ ?_
 exact⟨hz,its',n',r,e⟩
def Lz:V->V->V->Hp->(Hp->Prop)->Prop:=fun o i v H Q=>∃p xs k j,o=.ref p/\i=.int k/\H p=some (.lst xs)/\DN xs.length k=some j/\Q (upd H p (.lst (xs.set j v)))
def set_list:ME X Lz:=by
 intro z9 s σ H o i v ov iv u Q I ro ri rv h;obtain⟨p,xs,k,j,rfl,rfl,hp,hj,q⟩:=h;cases ro;obtain⟨t,rfl⟩:=ri;obtain⟨its,n,r,ho,hz⟩:=I.lst hp;obtain⟨h1,h2,h3,h4⟩:=yh hj;have hl:=r.length;have hn:=nX;have I':Inv X z9 σ (upd H p (.lst (xs.set j v))) { s with heap:=s.heap.update p (Obj.mapSeq (·.setIfInBounds j u)) } :=
  I.lstUpd hp ho (wR its n j u) (r.set rv j) (by rw[C5];exact hz) s.toks
 by_cases h0:0<=k
 ·have hk:k.toNat=j:=by
   rw[C2 h0 h4]at h1;exact Option.some.inj h1
  exact W.ki_setAt ho h0 (by lia) (by rw[Vb,<-hl];exact h4) (by rw[hk];exact⟨_,I',q⟩)
 ·have hk:(k+(its.toArray.size:Int)).toNat=j:=by
   rw[seqIndex_neg (by lia) h3]at h1
   rw[Vb,<-hl];exact Option.some.inj h1
  exact W.ki_setBack ho (by lia) (by rw[Vb,<-hl];exact h3) (by lia) (by rw[hk];exact⟨_,I',q⟩)
def Fd(i:Int)(n:Nat):max 0 (min (if i<0 then i+(n:Int) else i) (n:Int))=(((if i<0 then(i+(n:Int)).toNat else min i.toNat n):Nat):Int):=by
 by_cases h:i<0
 ·rw[if_pos h,if_pos h,Int.min_eq_left (by lia),Int.max_comm];exact(Int.ofNat_toNat _).symm
 ·rw[Ah h,Ah h,HT.clip_nat i n h];exact Int.max_eq_right (Cw _)
def tG(lo hi:Option Int)(n:Nat):(sliceBounds lo hi none n).1=((HT.sIx n 0 lo:Nat):Int)/\(sliceBounds lo hi none n).2.1=((HT.sIx n n hi:Nat):Int)/\(sliceBounds lo hi none n).2.2=1:=by
 refine⟨?_,?_,rfl⟩
 ·cases lo with|none=>simp[sliceBounds,HT.sIx]|some i=>exact Fd i n
 ·cases hi with|none=>simp[sliceBounds,HT.sIx]|some i=>exact Fd i n
def rO(its:List Value)(lo hi:Option Int):slicePick its.toArray lo hi none=((its.drop (HT.sIx its.length 0 lo)).take (HT.sIx its.length its.length hi-HT.sIx its.length 0 lo)).toArray:=by
 obtain⟨h1,h2,h3⟩:=tG lo hi its.toArray.size;unfold slicePick;rw[h1,h2,h3];simp only[sliceRange_one,pick_run,Vb]<;>rfl
def M0(K:W.Frag):V->Option Int->Option Int->Hp->VK->Prop:=fun x lo hi H Q=>∃a xs,x=.ref a/\ii K H a xs/\∀p,H p=none->Q (.ref p) (upd H p (.lst (u5 xs lo hi)))
def Ja:SlR X (M0 X.K):=by
 intro z9 s σ H x v vl vu lo hi sl Q I rx hs pl pu h;obtain⟨a,xs,rfl,hx,q⟩:=h;cases rx;obtain⟨its,r,ht,hz⟩:=I.list hx;have hlen:=r.length;refine⟨"list",_,slot_list_getitem.lookup,ht.isList.typeIs,?_⟩;refine wpAny_getItem_list_slice ht.isList hs pl pu .none (by simp) ?_ (by rw[Vb]<;>lia)
 rw[rO,<-hlen];refine⟨.ref s.heap.objs.size,_,I.laid (t':=s.toks) (o:=.lst (u5 xs lo hi)) (fun b ob q=>Ab _ q) (Qa _) ?_,rfl,q _ (I.hok.fresh (Qa _))⟩;exact⟨Xd (oK xs lo hi) hz,_,0,(r.drop (HT.sIx xs.length 0 lo)).take (HT.sIx xs.length xs.length hi-HT.sIx xs.length 0 lo),Ae _ rfl⟩
def lM:V->Bool|.non=>true|.bl _=>true|.int _=>true|.str _=>true|_=>false
def LA:V->V->Bool|.non,.non=>true|.bl a,.bl b=>a == b|.bl a,.int b=>(if a then 1 else 0) == b|.int a,.bl b=>a == (if b then 1 else 0)|.int a,.int b=>a == b|.str a,.str b=>a == b|_,_=>false
theorem M1(ry:RelV y u)(rx:RelV x v)(fy:lM y=true)(fx:lM x=true):SeqAt.EqAt A s u v (LA y x):=by
 cases y with
 |non=>
  cases ry;cases x with
  |non=>cases rx;exact SeqAt.EqAt.same _
  |bl b=>cases rx;exact SeqAt.EqAt.none_bool b
  |int b=>obtain⟨t,rfl⟩:=rx;exact SeqAt.EqAt.none_int b t
  |str b=>obtain⟨t,rfl⟩:=rx;exact SeqAt.EqAt.none_str b t
  |_=>exact absurd (show false=true from fx) We
 |bl a=>
  cases ry;cases x with
  |non=>cases rx;exact SeqAt.EqAt.bool_none a
  |bl b=>cases rx;exact SeqAt.EqAt.bool_bool a b
  |int b=>obtain⟨t,rfl⟩:=rx;exact SeqAt.EqAt.bool_int a b t
  |str b=>obtain⟨t,rfl⟩:=rx;exact SeqAt.EqAt.bool_str a b t
  |_=>exact absurd (show false=true from fx) We
 |int a=>
  obtain⟨t',rfl⟩:=ry;cases x with
  |non=>cases rx;exact SeqAt.EqAt.int_none a t'
  |bl b=>cases rx;exact SeqAt.EqAt.int_bool a t' b
  |int b=>obtain⟨t,rfl⟩:=rx;exact SeqAt.EqAt.int_int a t' b t
  |str b=>obtain⟨t,rfl⟩:=rx;exact Cs a t' b t
  |_=>exact absurd (show false=true from fx) We
 |str a=>
  obtain⟨t',rfl⟩:=ry;cases x with
  |non=>cases rx;exact SeqAt.EqAt.str_none a t'
  |bl b=>cases rx;exact SeqAt.EqAt.str_bool a t' b
  |int b=>obtain⟨t,rfl⟩:=rx;exact Cr a t' b t
  |str b=>obtain⟨t,rfl⟩:=rx;exact Cq a t' b t
  |_=>exact absurd (show false=true from fx) We
 |_=>exact absurd (show false=true from fy) We
def Jb(x:V)(u:Value):Bool:=match u with|.none=>LA .non x|.bool b=>LA (.bl b) x|.int i _=>LA (.int i) x|.str z _=>LA (.str z) x|_=>false
theorem Fe(r:RelV y u)(f:lM y=true):Jb x u=LA y x:=by
 cases y with
 |non=>cases r;rfl
 |bl b=>cases r;rfl
 |int i=>obtain⟨t,rfl⟩:=r;rfl
 |str z=>obtain⟨t,rfl⟩:=r;rfl
 |_=>exact absurd (show false=true from f) We
theorem tH:∀{xs:List V}{us:List Value},Vals xs us->xs.all lM=true->us.any (Jb x)=xs.any fun y=>LA y x
 |_,_,.nil,_=>rfl
 | y::xs,u::us,.cons r t,f=>by
  rw[BI,Wf]at f;rw[Bh,Bh,Fe r f.1,tH t f.2]
theorem qk(rx:RelV x v)(fx:lM x=true):∀{xs:List V}{us:List Value},Vals xs us->xs.all lM=true->∀u∈us,SeqAt.EqAt A s u v (Jb x u)
 |_,_,.nil,_=>fun u hu=>by cases hu
 | y::xs,u::us,.cons r t,f=>fun u' hu=>by
  rw[BI,Wf]at f;rcases Wd.mp hu with rfl|hu
  ·rw[Fe r f.1];exact M1 r rx f.1 fx
  ·exact qk rx fx t f.2 u' hu
def Jc(x:V)(xs:List V):Bool:=xs.any fun y=>LA y x
def S6(K:W.Frag)(neg:Bool):R2:=fun x y H Q=>∃p xs,y=.ref p/\(ii K H p xs\/kl K H p xs)/\lM x=true/\xs.all lM=true/\Q (.bl (if neg then !Jc x xs else Jc x xs)) H
def DO:OpR X (compareOp .In) (S6 X.K false):=by
 intro z9 s σ H x y v u Q I rx ry h;obtain⟨p,xs,rfl,hq,fx,fs,q⟩:=h;cases ry;rcases hq with hq|hq
 ·obtain⟨its,r,pl,hz⟩:=I.list hq;refine SeqAt.in_listAt (Jb x) pl.isList (fun w hw=>qk rx fx r fs w (by simpa using hw)) ⟨.bl _,H,I,rfl,?_⟩
  rw[show its.toArray.any (Jb x)=its.any (Jb x) by simp,tH r fs]
  exact q
 ·obtain⟨its,r,pl,hz⟩:=I.tuple hq;refine SeqAt.in_tupleAt (Jb x) pl (fun w hw=>qk rx fx r fs w (by simpa using hw)) ⟨.bl _,H,I,rfl,?_⟩
  rw[show its.toArray.any (Jb x)=its.any (Jb x) by simp,tH r fs]
  exact q
def tI:CallR X (.builtin "len") (fun xs H Q=>∃p ys,xs=[.ref p]/\(ii X.K H p ys\/kl X.K H p ys)/\Q (.int ys.length) H):=by
 intro z9 s σ H xs us Q I r h;obtain⟨p,ys,rfl,hq,q⟩:=h;obtain⟨u,rfl,rx⟩:=vals1 r;cases rx;have hn:=nX;rcases hq with hq|hq
 ·obtain⟨its,r',pl,hz⟩:=I.list hq;have hlen:=r'.length;exact Calls.call_len_list pl.isList (by simp only[Vb]<;>lia) ⟨.int ys.length,H,I.tok _,⟨s.toks+1,by rw[Vb,hlen]⟩,q⟩
 ·obtain⟨its,r',pl,hz⟩:=I.tuple hq;have hlen:=r'.length;exact len_tuple pl (by simp only[Vb]<;>lia) ⟨.int ys.length,H,I.tok _,⟨s.toks+1,by rw[Vb,hlen]⟩,q⟩
def tK:CallR X (.builtin "len") (fun xs H Q=>∃z,xs=[.str z]/\z.length<=sizeLine/\Q (.int z.length) H):=by
 intro z9 s σ H xs us Q I r h;obtain⟨z,rfl,hz,q⟩:=h;obtain⟨u,rfl,t,rfl⟩:=vals1 r;have hn:=nX;exact len_str (by lia) ⟨.int z.length,H,I.tok _,⟨_,rfl⟩,q⟩
def CallR.or(h:CallR X f r)(h':CallR X f r'):CallR X f (fun xs H Q=>r xs H Q\/r' xs H Q):=by
 intro z9 s σ H xs us Q I rs q;rcases q with q|q
 ·exact h z9 s σ H xs us Q I rs q
 ·exact h' z9 s σ H xs us Q I rs q
def tL:CallR X (.type "list") (fun xs H Q=>∃p ys,xs=[.ref p]/\(ii X.K H p ys\/kl X.K H p ys)/\∀l,H l=none->Q (.ref l) (upd H l (.lst ys))):=by
 intro z9 s σ H xs us Q I r h;obtain⟨p,ys,rfl,hq,q⟩:=h;obtain⟨u,rfl,rx⟩:=vals1 r;cases rx;have fin:∀(its:List Value),Vals ys its->ys.length<=sizeLine->∀(h':Heap)(c':Nat),(∀b o',s.heap.get? b=some o'->h'.get? b=some o')->
   h'.get? s.heap.objs.size=some { cls:=.type "list",dict:=none,data:=.seq its.toArray c',slots:=#[] }->EP X z9 σ Q (.ref s.heap.objs.size) { s with heap:=h' }:=fun its r' hz h' c' kp e=>
  ⟨.ref s.heap.objs.size,_,I.laid (t':=s.toks) kp (Qa _) (show ObjOk X.prog X.w _ h' _ (.lst ys) from⟨hz,its,c',r',e⟩),rfl,q _ (I.hok.fresh (Qa _))⟩
 rcases hq with hq|hq
 ·obtain⟨its,r',pl,hz⟩:=I.list hq;have hlen:=r'.length;obtain⟨o,ho,hc,n,hd⟩:=pl.isList;exact call_list_seq p (.inl rfl) ho hc hd (fun h' c' kp e=>fin its r' hz h' c' kp e) (by simp only[Vb]<;>lia)
 ·obtain⟨its,r',pl,hz⟩:=I.tuple hq;have hlen:=r'.length;obtain⟨o,ho,hc,n,hd⟩:=pl;exact call_list_seq p (.inr rfl) ho hc hd (fun h' c' kp e=>fin its r' hz h' c' kp e) (by simp only[Vb]<;>lia)
def rP:CallR X (.type "tuple") (fun xs H Q=>∃p ys,xs=[.ref p]/\((ii X.K H p ys/\∀l,H l=none->Q (.ref l) (upd H l (.tup ys)))\/(kl X.K H p ys/\Q (.ref p) H))):=by
 intro z9 s σ H xs us Q I r h;obtain⟨p,ys,rfl,h⟩:=h;obtain⟨u,rfl,rx⟩:=vals1 r;cases rx;rcases h with⟨hq,q⟩|⟨hq,q⟩
 ·obtain⟨its,r',pl,hz⟩:=I.list hq;have hlen:=r'.length;refine call_tuple_list pl.isList (fun h' kp=>?_) (by simp only[Vb]<;>lia)
  have I1:Inv X z9 σ H { s with heap:=h' }:=I.kept (t':=s.toks) kp;have I2:Inv X z9 σ (upd H h'.objs.size (.tup ys)) { s with heap:=h'.push { cls:=.type "tuple",data:=.seq its.toArray } } :=
   I1.laid (t':=s.toks) (fun b o e=>Ab _ e) (Qa _) (show ObjOk X.prog X.w _ _ _ (.tup ys) from⟨hz,its,r',IsTup.new _ _⟩)
  exact⟨.ref h'.objs.size,_,I2,rfl,q _ (I1.hok.fresh (Qa _))⟩
 ·obtain⟨its,r',pl,hz⟩:=I.tuple hq;exact call_tuple_same pl ⟨.ref p,H,I,rfl,q⟩
def Qn(K:W.Frag)(T:String)(x:V)(H:Hp):Prop:=match x with
 |.str _=>T="str"
 |.int _=>T="int"
 | .ref p=>(T="list"/\∃xs,ii K H p xs)\/(T="tuple"/\∃o,K.lookup p=some o/\o.cls=.type "tuple"/\o.dict=none) \/
   (T="dict"/\((∃zX,H p=some (.dK zX))\/∃ep zX,H p=some (.dT ep zX)))\/(T="set"/\∃S n,H p=some (.set S n))
 |_=>False
def M2{s:Shared}(I:Inv X z9 σ H s)(r:RelV x v)(ty:Qn X.K T x H) :
  s.TypeIs v T/\∀a,v=.ref a->∃ob,s.heap.get? a=some ob/\ob.dict=none:=by
 cases x with
 |str z=>
  obtain⟨t,rfl⟩:=r;cases (show T="str" from ty);exact⟨AW s z t,fun _ e=>nomatch e⟩
 |int i=>
  obtain⟨t,rfl⟩:=r;cases (show T="int" from ty);exact⟨typeIs_int s i t,fun _ e=>nomatch e⟩
 |ref p=>
  cases r;rcases ty with⟨rfl,xs,hq⟩|⟨rfl,o,hk,hc,hd⟩|⟨rfl,hk⟩|⟨rfl,S,n,hk⟩
  ·obtain⟨its,_,pl,_⟩:=I.list hq;refine⟨pl.isList.typeIs,fun a e=>?_⟩;cases e;obtain⟨o,n,e,c,hd,_⟩:=pl;exact⟨o,e,hd⟩
  ·refine⟨⟨o,I.kIn p o hk,hc⟩,fun a e=>?_⟩;cases e;exact⟨o,I.kIn _ o hk,hd⟩
  ·have z:∃o,s.heap.get? p=some o/\o.ExactDict:=by
    rcases hk with⟨zX,hk⟩|⟨ep,zX,hk⟩
    ·obtain⟨_,_,_,_,o,_,_,e,ex,_⟩:=I.hok p _ hk;exact⟨o,e,ex⟩
    ·obtain⟨_,_,_,_,_,o,_,e,ex,_⟩:=I.hok p _ hk;exact⟨o,e,ex⟩
   obtain⟨o,e,ex⟩:=z;refine⟨⟨o,e,ex.1⟩,fun a e2=>?_⟩;cases e2;exact⟨o,e,ex.2.1⟩
  ·obtain⟨o,_,_,_,e,ex,_⟩:=I.hok p _ hk;refine⟨⟨o,e,ex.1⟩,fun a e2=>?_⟩;cases e2;exact⟨o,e,ex.2.1⟩
 |_=>exact False.elim ty
def SR(K:W.Frag)(T:String)(r:V->List V->Hp->VK->Prop)(to:TE)(t:TA):TE:=fun σ H Q=>to σ H fun x H1=>Qn K T x H1/\t σ H1 fun xs H2=>r x xs H2 Q
variable {o e:Expr}{es:List Expr}{to:TE}{t:TA}{name:Str}{apos zU:Pos}{T id:String}{r:V->List V->Hp->VK->Prop}
def i8(pa:PlainAttrs T)(slot:Slot T name id)(hty:typeOf (.builtin id)=pure (.type "method_descriptor"))(hm:Px X id r)(ho:PE X o to)(ha:PA X (e::es) t)
  (hbase:attributeBase o name X.env (eval o X.env)=eval o X.env:=by rfl)
  (hfew:((backTo zU (starEach (e::es) X.env)).all (fun x=>!x.1)&&(backToKw zU (keywordEach [] X.env)).all (fun x=>x.1.isSome)
   && decide ((e::es).length+([]:List Keyword).length+(if ([]:List Keyword).isEmpty then 0 else 1)<30))=true:=by rfl)
  (hline:(apos.endLine == zU.line)=true:=by rfl) (hs:starEach (e::es) X.env=(false,eval e X.env)::starEach es X.env:=by rfl) (hplain:(backTo zU (starEach es X.env)).any (·.1)=false:=by rfl) :
  PE X (.Call (.Attribute o name apos) (e::es) [] zU) (SR X.K T r to t):=by
 intro z9 s σ H Q I h;refine BP hbase hfew hline rfl (dq (ho z9 s σ H _ I h) fun v s1 zz9=>?_);obtain⟨x,H1,I1,r1,ty,q1⟩:=zz9;obtain⟨h1,h2⟩:=M2 I1 r1 ty;refine⟨T,id,pa,slot,hty,h1,h2,?_⟩;have hA:=ha zU z9 s1 σ H1 _ I1 q1;rw[hs]at hA ⊢;refine A7 (by show(false||(backTo zU (starEach es X.env)).any (·.1))=false;rw[hplain]<;>rfl) (Ca ?_)
 exact dq hA fun us s2 ⟨vs,H2,I2,r2,q2⟩=>hm z9 s2 σ H2 x vs v us Q I2 r1 r2 q2
end
end L2
namespace L2
open PySem.Spec PyProof.Rows
def Qo(X:Cx)(id:String)(r:V->List V->Hp->VK->Prop):Prop :=
 ∀(z9:List (Addr×Obj))(s:Shared)(σ:St)(H:Hp)(x:V)(xs:List V)(v:Value)(us:List Value)(Q:VK),Inv X z9 σ H s->RelV x v->Vals xs us->r x xs H Q->
  wpAny (model X.prog X.w) X.A (call (.builtin id) (v::us)) (EP X z9 σ Q) X.xe s
theorem Vals.one:∀{x:V}{us:List Value},Vals [x] us->∃u,us=[u]/\RelV x u|_,_,.cons r .nil=>⟨_,rfl,r⟩
theorem Vals.eraseIdx:∀{xs:List V}{us:List Value}(i:Nat),Vals xs us->Vals (xs.eraseIdx i) (us.eraseIdx i)|_,_,_,.nil=>.nil|_,_,0,.cons _ t=>t|_,_,i+1,.cons r t=>.cons r (Vals.eraseIdx i t)
theorem Vals.reverse{xs:List V}{us:List Value}(h:Vals xs us):Vals xs.reverse us.reverse:=by
 induction h with|nil=>exact .nil|cons r t ih=>rw[BF,BF];exact Vals.append ih (.cons r .nil)
theorem su:∀(l:List α)(i:Nat),(l.eraseIdx i).length<=l.length|[],_=>Qa _|_::_,0=>Bj _|_::r,i+1=>CU (su r i)
section
variable {X:Cx}{z9:List (Addr×Obj)}{σ:St}{H:Hp}{s:Shared}{l b:Addr}{xs ys zs:List V}
def Inv.lset{its its':List Value}(I:Inv X z9 σ H s)(hH:H l=some (.lst xs))
  (e:s.heap.get? l=some { cls:=.type "list",data:=.seq its.toArray n })(hf:f its.toArray=its'.toArray)(hv:Vals ys its')(hz:ys.length<=sizeLine)(ht:0<t':=by first|assumption|exact Qh _|exact Inv.tk (by assumption)|exact Inv.tkl (by assumption) (by assumption)|lia) :
  Inv X z9 σ (upd H l (.lst ys)) { s with heap:=s.heap.update l (Obj.mapSeq f),toks:=t' }:=by
 have q:=PySem.IsL.update e f;rw[hf]at q;refine I.write (x:=l) (e:=l) (by rw[hH];exact trivial) (.inl rfl) (fun b' u hb hu=>(AG s.heap (Obj.mapSeq f) (Au hb)).trans hu) ⟨_,q⟩ ?_
 exact⟨hz,its',_,hv,q⟩
def Inv.lnew(I:Inv X z9 σ H s)(hv:Vals ys its)(hz:ys.length<=sizeLine)(ht:0<t':=by first|assumption|exact Qh _|exact Inv.tk (by assumption)|exact Inv.tkl (by assumption) (by assumption)|lia) :
  Inv X z9 σ (upd H s.heap.objs.size (.lst ys)) { s with heap:=s.heap.push { cls:=.type "list",data:=.seq its.toArray },toks:=t' } :=
 I.laid (fun _ _ q=>Ab _ q) (Qa _) ⟨hz,its,0,hv,Ae _ rfl⟩
theorem Inv.fresh(I:Inv X z9 σ H s):H s.heap.objs.size=none:=I.hok.fresh (Qa _)
def Inv.lstM(I:Inv X z9 σ H s)(hH:H l=some (.lst xs)):xs.length<=sizeLine/\∃(its:List Value)(n:Nat),Vals xs its/\xs.length=its.length/\s.heap.get? l=some { cls:=.type "list",data:=.seq its.toArray n }:=by
 obtain⟨z,its,n,r,e⟩:=I.hok l _ hH;exact⟨z,its,n,r,r.length,e⟩
def u6(h:n<=sizeLine):Builtin.List.listTooLong n=false:=by
 unfold Builtin.List.listTooLong;exact Ad (by lia)
end
section
variable {X:Cx}
def tM:V->List V->Hp->VK->Prop:=fun x vs H Q=>∃l xs y,x=.ref l/\vs=[y]/\H l=some (.lst xs)/\xs.length<sizeLine/\Q .non (upd H l (.lst (xs++[y])))
def DP:Qo X "list.append" tM:=by
 intro z9 s σ H x vs v us Q I rx rv h;obtain⟨l,xs,y,rfl,rfl,hH,hz,q⟩:=h;cases rx;obtain⟨u,rfl,ru⟩:=rv.one;obtain⟨z,its,n,r,hl,e⟩:=I.lstM hH;refine AX F.slot_list_append ⟨_,e,rfl⟩ F.entry_list_append (F.args_list_append_2 _ _) (PySem.list_append l its.toArray n u (by rw[Vb];lia)) ⟨e,?_⟩
 refine⟨.non,_,I.lset (its':=its++[u]) hH e (by simp) (r.append (.cons ru .nil)) ?_,rfl,q⟩
 rw[Xa,Yi];lia
def yj:V->List V->Hp->VK->Prop:=fun x vs H Q=>∃l b xs zs,x=.ref l/\vs=[.ref b]/\H l=some (.lst xs)/\H b=some (.lst zs)/\xs.length+zs.length<=sizeLine/\Q .non (upd H l (.lst (xs++zs)))
def DQ:Qo X "list.extend" yj:=by
 intro z9 s σ H x vs v us Q I rx rv h;obtain⟨l,b,xs,zs,rfl,rfl,hH,hB,hz,q⟩:=h;cases rx;obtain⟨u,rfl,ru⟩:=rv.one;cases ru;obtain⟨z,its,n,r,hl,e⟩:=I.lstM hH;obtain⟨z2,its2,n2,r2,hl2,e2⟩:=I.lstM hB;have hsz:its.toArray.size+its2.toArray.size<=sizeLine:=by rw[Vb,Vb];lia
 have hlong:¬ (!its.toArray.isEmpty&&Builtin.List.listTooLong (its.toArray.size+its2.toArray.size))=true:=by
  rw[u6 hsz,Bool.and_false];exact We
 refine AX F.slot_list_extend ⟨_,e,rfl⟩ F.entry_list_extend (F.args_list_extend_2 _ _)
  (AutoSeq1.list_extend_list_list_0 l its.toArray n b its2.toArray n2 hlong (by rw[Vb];lia) (by lia)) ⟨e,e2,?_⟩
 refine⟨.non,_,I.lset (its':=its++its2) hH e (by simp) (r.append r2) ?_,rfl,q⟩
 rw[Xa];lia
def Ff:V->List V->Hp->VK->Prop:=fun x vs H Q=>∃l xs i k y,x=.ref l/\vs=[.int i]/\H l=some (.lst xs)/\-(2 ^ 63)<=i/\i<2 ^ 63/\seqIndex? i xs.length=some k/\xs[k]?=some y/\Q y (upd H l (.lst (xs.eraseIdx k)))
def ql:Qo X "list.pop" Ff:=by
 intro z9 s σ H x vs v us Q I rx rv h;obtain⟨l,xs,i,k,y,rfl,rfl,hH,h1,h2,hk,hy,q⟩:=h;cases rx;obtain⟨u,rfl,ru⟩:=rv.one;obtain⟨t,rfl⟩:=ru;obtain⟨z,its,n,r,hl,e⟩:=I.lstM hH;obtain⟨w,hw,rw'⟩:=r.get hy;refine AX F.slot_list_pop ⟨_,e,rfl⟩ F.entry_list_pop (F.args_list_pop_2 _ _)
  (MeetsSeq.list_pop_at l its.toArray n i t k w (fitsIndex_both h1 h2) (by rw[Vb,<-hl];exact hk) (by rw[<-AI];exact hw) (by rw[Vb];lia)) ⟨e,?_⟩
 refine⟨y,_,I.lset (its':=its.eraseIdx k) hH e ?_ (r.eraseIdx k) ?_,rw',q⟩
 ·show its.toArray.eraseIdxIfInBounds k=(its.eraseIdx k).toArray;rw[List.eraseIdxIfInBounds_toArray]
 ·have:=su xs k;lia
def M3:R2:=fun x y H Q=>∃l b xs zs,x=.ref l/\y=.ref b/\H l=some (.lst xs)/\H b=some (.lst zs)/\xs.length+zs.length<=sizeLine/\∀p,H p=none->Q (.ref p) (upd H p (.lst (xs++zs)))
def op_cat:OpR X (binaryOp .Add) M3:=by
 intro z9 s σ H x y v u Q I rx ry h;obtain⟨l,b,xs,zs,rfl,rfl,hH,hB,hz,q⟩:=h;cases rx;cases ry;obtain⟨z,its,n,r,hl,e⟩:=I.lstM hH;obtain⟨z2,its2,n2,r2,hl2,e2⟩:=I.lstM hB;refine PySem.P.add_list e e2 ?_ (by rw[Vb,Vb];lia)
 have ea:its.toArray++its2.toArray=(its++its2).toArray:=by simp
 rw[ea];exact⟨.ref _,_,I.lnew (t':=s.toks) (r.append r2) (by rw[Xa];lia),rfl,q _ I.fresh⟩
end
end L2
namespace Att
open PySem.W Calls PyProof.Rows
theorem oZ:∀(ns:List Int)(vs:List Value),WellAll P h vs (ns.map WData.int)->IntsAre vs ns:=by
 intro ns;induction ns with
 |nil=>
  intro vs w;rw[List.map_nil]at w;cases w;exact .nil
 |cons n ns ih=>
  intro vs w;rw[Qd]at w;cases w with
  |cons a b=>
   cases a;exact .cons _ _ (ih _ b)
def script_of{l:OpenLaw}(hn:l.most=some n){h:Heap}
  (hpre:l.row.toRowW.claim.pre args=true)(hwl:WellAll P h vals args) :
  ∃a vs ns,vals=[Value.ref a]/\args=[WData.list (ns.map WData.int)]/\h.get? a=some { cls:=.type "list",data:=.seq vs.toArray }/\IntsAre vs ns/\ns.length<=n:=by
 have hsh:WShape.hasAll [] args [.list .int]=true:=(pre_splitW hpre).1;have hc:l.pre.holds [] { args:=args }=true:=(pre_splitW hpre).2;obtain⟨d,r,rfl,h1,h2⟩:=hasAllW_cons hsh;obtain rfl:=hasAllW_nil h2;obtain⟨xs,rfl,h3⟩:=hasW_list h1;obtain⟨ns,rfl⟩:=items_int h3;have hlen:ns.length<=n:=by
  unfold OpenLaw.pre at hc;have h4:(WTm.not (.lt (.lit (.int (n:Int))) (.len (.arg 0)))).holds [] { args:=[.list (ns.map .int)] }=true:=by
   have h4:=(holds_andW hc).1;rw[hn]at h4;exact h4
  have h5:=condW_of h4 (w_not (w_lt w_lit (w_len_list (w_arg rfl))));rw[Za]at h5;refine BK fun q=>?_;have q':(n:Int)<((ns.length:Nat):Int):=by lia
  first
   | (rw[Af q']at h5;exact absurd h5 (by decide))
   | (simp at h5;lia)
 cases hwl with
 |cons w1 w2=>
  cases w2;cases w1 with|list ho hall=>exact⟨_,_,ns,rfl,rfl,ho,oZ ns _ hall,hlen⟩
def post_true(l:OpenLaw)(args:List WData):l.row.toRowW.claim.post args (.bool true) args=true :=
 postW_of (r:=l.row.toRowW) (X:=(true == true))
  (show WShape.has [] (.bool true) .bool=true by first|rfl|decide|simp[WShape.has,WShape.arms,WShape.armsAll])
  (show(WTm.eq .res (.lit (.bool true))).value [] { args:=args,res:=some (.bool true),after:=args }=some (.bool (true == true)) from w_eq_bool (w_res rfl) w_lit) rfl
end Att
namespace L2
open PySem.Spec PyProof.Rows
theorem sv:∀{vs:List Value}{ns:List Int},IntsAre vs ns->Vals (ns.map V.int) vs|_,_,.nil=>.nil|_,_,.cons n t h=>.cons ⟨t,rfl⟩ (sv h)
def M4(H:Hp):Prop:=∀b,H b=none\/∃o xs,H b=some (.frz o (.lst xs))
def Fg{K:W.Frag}{s₁:Shared}{vs:List Value}{ns:List Int}
  (KX:K.In s₁.heap)(hns:s₁.heap.Ns mainGlobals mg)(hb:s₁.heap.Ns builtinsNs mb)(hbb:∀x:Str,x≠"__name__"->mb x=bootBuiltins x)(hlim:s₁.heap.NoLimit)(hg:s₁.gens=#[])(htk:0<s₁.toks)
  (ha:s₁.heap.get? a=some { cls:=.type "list",data:=.seq vs.toArray }) (hi:IntsAre vs ns) (hl:ns.length<=sizeLine) (hr:Room k callerA)
  (F:∀base:Heap,K.In base->base.Ns mainGlobals mg->FnOk P w K mg base CX k fa fd [x] sp) (hbind:∀(s:Shared)(u:Value),BindsTo s fd ⟨[u],[]⟩ [(x,u)])
  (hsp:∀H:Hp,M4 H->ii K H a (ns.map V.int)->sp [.ref a] H (fun v _=>v=.bl true) fun _ _ _=>False)
  (hCX:∀H e s',CX [] H s₁ (fun _ _ _=>False) e s'->False) :
  codeAny (model P w) callerA (.call (.ref fa) ⟨[.ref a],[]⟩) (fun r s'=>r=.ok (.ret (.bool true))/\OldK s₁.heap s'.heap/\s'.os=s₁.os/\AllBare s'.gens) s₁:=by
 have rv:=sv hi;have Nr:=hi.length;have core:∀H:Hp,M4 H->ii K H a (ns.map V.int)->HOk P w H s₁.heap->(∀b,H b≠none->b=a)->(H a≠none->K.lookup a=none)->
   codeAny (model P w) callerA (.call (.ref fa) ⟨[.ref a],[]⟩) (fun r s'=>r=.ok (.ret (.bool true))/\OldK s₁.heap s'.heap/\s'.os=s₁.os/\AllBare s'.gens) s₁:=by
  intro H hO hS hok hA hK;have base_of:∀{b:Addr}{o:Obj},s₁.heap.get? b=some o->H b=none->(tD s₁.heap H).get? b=some o:=fun e n=>EJ e n;have noA:∀{b:Addr}{o:Obj}{es:Array DictEntry}{ep:Nat},s₁.heap.get? b=some o->o.data=.dict es ep->H b=none:=fun {b o es ep} e d=>by
   cases q:H b with
   |none=>rfl
   |some u=>
    have e':b=a:=hA b (by rw[q];simp)
    subst e';rw[ha]at e;cases e;have d':Data.seq vs.toArray _=Data.dict es ep:=d;cases d'
  have nsK:∀{b:Addr}{m:Str->Option Value},s₁.heap.Ns b m->(tD s₁.heap H).Ns b m:=fun {b m} ⟨o,es,ep,e,d,r⟩=>⟨o,es,ep,base_of e (noA e d),d,r⟩
  have hKb:K.In (tD s₁.heap H):=fun b o e=>base_of (KX b o e) (by
   cases q:H b with
   |none=>rfl
   |some u=>
    have e':b=a:=hA b (by rw[q];simp)
    subst e'
    rw[hK (by rw[q];simp)]at e;cases e)
  have hM:Mod K mg (tD s₁.heap H):=⟨hKb,nsK hns,⟨mb,nsK hb,hbb⟩,let ⟨mc,h1,h2⟩:=hlim;⟨mc,nsK h1,h2⟩⟩;have e0:Env0 P w K mg (tD s₁.heap H) callerA [] s₁ H:=⟨rfl,hM,fun b o e=>IU e,BS (DF _ _),trivial,fun b hb=>absurd (show b∈([]:List Addr) from hb) (by simp),hok,.of_eq hg,htk⟩
  refine CD ((F _ hKb (nsK hns)).run callerA [] s₁ H ⟨[.ref a],[]⟩ [.ref a] [.ref a] _ _ hr e0 (hbind s₁ (.ref a)) (.cons rfl .nil) (hsp H hO hS)) fun r s' h=>?_;cases r with
  |error e=>exact(hCX H e s' h).elim
  |ok fl=>
   cases fl with
   |next=>exact False.elim h
   |brk=>exact False.elim h
   |cont=>exact False.elim h
   |ret u=>
    obtain⟨v,H',os,bare,un,hok',r',q⟩:=h;have q':v=.bl true:=q;subst q';obtain rfl:u=Value.bool true:=r';refine⟨rfl,OldK.of_keep fun b o e=>?_,os,bare⟩;cases q:H b with
    |none=>exact un.keep b o e q (by intro z;exact absurd (show b∈([]:List Addr) from z) (by simp)) (by simp)
    |some u=>
     rcases hO b with z|⟨ob,xs,z⟩
     ·rw[q]at z;cases z
     ·have z2:=un.frzs b ob _ z;obtain⟨e1,_⟩:=hok b _ z;obtain⟨e2,_⟩:=hok' b _ z2;rw[e]at e1;cases e1;exact e2
 cases hk:K.lookup a with
 |some o=>
  have e:=KX a o hk;rw[ha]at e;cases e;refine core (fun _=>none) (fun _=>.inl rfl) (.inr ⟨_,vs.toArray,_,hk,rfl,rfl,rfl,by rw[Vb,Nr];exact hl,by simpa using rv⟩) (fun b u z=>by have z':(none:Option HO)=some u:=z;cases z') (fun b z=>absurd rfl z) fun z=>absurd rfl z
 |none=>
  refine core (fun b=>if b=a then some (.frz { cls:=.type "list",data:=.seq vs.toArray } (.lst (ns.map V.int))) else none) (fun b=>?_) (.inl (.inr ⟨{ cls:=.type "list",data:=.seq vs.toArray },if_pos rfl⟩)) (fun b u z=>?_) (fun b z=>?_) fun _=>hk
  ·by_cases hb:b=a
   ·exact .inr ⟨_,_,if_pos hb⟩
   ·exact .inl (Ah hb)
  ·by_cases hb:b=a
   ·have z':=(if_pos hb).symm.trans z;cases z';subst hb;exact⟨ha,by rw[Za];exact hl,vs,_,rv,ha⟩
   ·have z':=(Ah hb).symm.trans z;cases z'
  ·by_cases hb:b=a
   ·exact hb
   ·exact absurd (Ah hb) z
theorem u7:∀ns:List Int,W.ofPys (ns.map PyData.int)=ns.map W.WData.int
 |[]=>rfl
 | n::r=>by
  show W.WData.int n::W.ofPys (r.map PyData.int)=_;rw[u7 r];rfl
def walk_of{l:W.OpenLaw}{n k:Nat}{loose:List Str}{XP:(Str->Option Value)->Heap->Prop}{d:DefRec}{K:Params->W.Frag}{CX:World->IR}{sp:World->Sp}{x:Str}{as:List Addr}{sz t:Nat}
  (hn:l.most=some n)(hn2:n<=sizeLine)(hdf:d.params.defaults=[])(hr:Room k callerA)(ht:0<t)(hK:∀P,as=(K P).map (·.1))
  (F:∀(w:World)(mg:Str->Option Value)(fa:Addr)(h:Heap),(K w.params).In h->h.Ns mainGlobals mg->mg d.name=some (.ref fa)->
   ∃fd:FuncData,(∀(s:Shared)(u:Value),BindsTo s fd ⟨[u],[]⟩ [(x,u)]) /\
    ∀base:Heap,(K w.params).In base->base.Ns mainGlobals mg->FnOk l.prog w (K w.params) mg base (CX w) k fa fd [x] (sp w))
  (hsp:∀(w:World)(H:Hp)(a:Addr)(ns:List Int),ns.length<=n->M4 H->ii (K w.params) H a (ns.map V.int)->sp w [.ref a] H (fun v _=>v=.bl true) fun _ _ _=>False)
  (hCX:∀(w:World)(H:Hp)(s:Shared)(e:Value)(s':Shared),CX w [] H s (fun _ _ _=>False) e s'->False) :
  W.WalkX q loose XP (W.X.obsZ as) (W.X.valZ K sz t) l.row.toRowW d [] (fun f vs=>PySem.call f vs):=by
 intro w s₀ s₁ mg mb G y fa o pm cd doc dV kV ho hd hcd hD hmg hg args vals as' L hpre hlay hrd hwl hlo;obtain rfl:dV=.none:=W.Dflts.none hD hdf;obtain rfl:kV=.none:=W.Dflts.noKw hD;obtain⟨a,vs,ns,rfl,rfl,hobj,hints,hlen⟩:=Att.script_of hn hpre hwl;obtain⟨_,K0,_,T0⟩:=W.X.z_facts hK y;have KX:(K w.params).In s₁.heap:=fun b o e=>L.keeps b o ((show(K w.params).In s₀.heap from K0) b o e);have tk:0<s₁.toks:=by
  have e:[W.WData.list (ns.map W.WData.int)]=[W.ofPy (PyData.list (ns.map PyData.int))]:=by
   show _=[W.WData.list (W.ofPys (ns.map PyData.int))];rw[u7]
  rw[e]at L;exact Xc ht (W.X.script_toks L T0)
 obtain⟨fd,hb,hF⟩:=F w mg fa _ KX G.T.g hmg;refine W.enter_call (CD (Fg KX G.T.g G.T.b G.T.builtins G.T.nolimit hg tk hobj hints (Xd hlen hn2) hr hF hb (fun H hO hS=>hsp w H a ns hlen hO hS) fun H e s'=>hCX w H s₁ e s') fun r s' hq=>?_);obtain⟨rfl,h2,h3,h4⟩:=hq;exact⟨.inl ⟨.bool true,.bool true,[],rfl,fun _=>rfl,.bool true,Att.post_true l _,fun _=>⟨List.Pairwise.nil,fun _ hm=>(nomatch hm)⟩⟩,h2,h3,h4⟩
end L2
namespace L2
open PySem.Spec PyProof.Rows
def fI(s:Stmt):Arguments:=match s with|.FunctionDef _ a _ _ _ _ _ _ _ _=>a|_=>{ posonlyargs:=[],args:=[],vararg:=none,kwonlyargs:=[],kw_defaults:=[],kwarg:=none,defaults:=[] }
def dJ(s:Stmt):List Stmt:=match s with|.FunctionDef _ _ b _ _ _ _ _ _ _=>b|_=>[]
def ai(s:Stmt):Scope:=match s with|.FunctionDef _ _ _ _ _ _ sc _ _ _=>sc|_=>{ kind:=.function,names:=[],isGenerator:=false,isCoroutine:=false }
abbrev u8:IR:=fun _ _ _ _ _ _=>False
abbrev E0:XK:=fun _ _ _=>False
def LB:wO u8 X E0:=fun _ _ _ _ _ _ _ h=>h.elim
structure Fun(K:W.Frag)(x zY:Str)(st:Stmt)(f:Addr)(fd:FuncData):Prop where
 ex:∃(oc:Value)(od:Option Addr)(kV doc pm:Value)(an:Option Addr)(cdv ct:Value)(osl:Array (Option Value)),
  fd=W.fnOf x zY (fI st) (dJ st) (ai st) .none kV doc pm an cdv ct/\K.lookup f=some ⟨oc,od,.func fd,osl⟩/\W.codeIn K cdv zY=true
 kp:W.keepIn K (.ref f)=true
section
variable {P:Program}{w:World}{K:W.Frag}{mg:Str->Option Value}{base:Heap}
def Fun.ok{x zY:Str}{st:Stmt}{f:Addr}{fd:FuncData}{N ps:List Str}{k:Nat}{sp:Sp}(F:Fun K x zY st f fd)(S:FnScope N ps (ai st))(len:∀vs H Q E,sp vs H Q E->vs.length=ps.length)
  (hbody:∀(cdv:Value)(A:Around)(outer:List Env)(s:Shared)(H:Hp)(vs:List V)(Q:VK)(E:XK),Room k (A.deeper (envOfC zY (ai st) s.heap.objs.size f cdv))->sp vs H Q E->
   ∃t,PSs (uY u8 P w K mg base N zY (ai st) f cdv A outer s H E).nox (dJ st) t/\t { nx:=fun _ H'=>Q .non H',rt:=Q } (start N vs) H):FnOk P w K mg base u8 (k+1) f fd ps sp:=by
 obtain⟨oc,od,kV,doc,pm,an,cdv,ct,osl,rfl,lk,hcd⟩:=F.ex;refine Lu lk hcd S len fun A outer s H vs Q E hr hsp=>?_;obtain⟨t,h,q⟩:=hbody cdv A outer s H vs Q E hr hsp;exact⟨t,h.nox,q⟩
def Fun.binds{x zY:Str}{st:Stmt}{f:Addr}{fd:FuncData}{ps:List Str}(F:Fun K x zY st f fd)
  (h:∀(kV doc pm:Value)(an:Option Addr)(cdv ct:Value)(us:List Value),us.length=ps.length->bindArgs (W.fnOf x zY (fI st) (dJ st) (ai st) .none kV doc pm an cdv ct) ⟨us,[]⟩=pure (ps.zip us)):Binds K fd ps []:=by
 obtain⟨oc,od,kV,doc,pm,an,cdv,ct,osl,rfl,lk,hcd⟩:=F.ex;exact .all (h kV doc pm an cdv ct)
def M5{x zY:Str}{st:Stmt}{f:Addr}{oc:Value}{od an:Option Addr}{osl:Array (Option Value)}{kV doc pm cdv ct:Value}(l:K.lookup f=some ⟨oc,od,.func (W.fnOf x zY (fI st) (dJ st) (ai st) .none kV doc pm an cdv ct),osl⟩)
  (c:W.codeIn K cdv zY=true)(k:W.keepIn K (.ref f)=true):Fun K x zY st f (W.fnOf x zY (fI st) (dJ st) (ai st) .none kV doc pm an cdv ct):=⟨⟨oc,od,kV,doc,pm,an,cdv,ct,osl,rfl,l,c⟩,k⟩
end
def qm{A:Around}(hr:Room k A):A.units+1<cLine:=AY (Vk (by decide:1<=64) _) hr.units
def DR(h:n<=1000):n<sizeLine:=AY h (by decide)
section
variable {X:Cx}
def pv(i:Nat)(hN:X.N[i]?=some x:=by rfl)(hv:S0 X.env.scope x:=by first|exact Or.inl rfl|exact Or.inr (Or.inl rfl)|exact Or.inr (Or.inr rfl))(hd:(x == ("__debug__":Str))=false:=by decide)
  (hcd:(x == ("__classdict__":Str))=false:=by decide):PE X (.Name x pos) (uU i):=MD hN hv hd hcd
end
def Same(H H':Hp):Prop:=∀b o,H b=some o->H' b=some o
def Same.refl(H:Hp):Same H H:=fun _ _ h=>h
end L2
namespace L2
open PySem.Spec PyProof.Rows
def cw(env:Env):List (Str×NameKind)->List (Str×Addr)->List (Str×Addr)|[],acc=>acc|(n,k)::r,acc=>if k=.free then cw env r ((n,(env.cells.lookup n).getD 0)::acc) else cw env r acc
theorem jj{env:Env}{f:Str×NameKind->List (Str×Addr)->Sem (ForInStep (List (Str×Addr)))}
  (h1:∀n k cs c,k=NameKind.free->env.cells.lookup n=some c->f (n,k) cs=pure (.yield ((n,c)::cs)))
  (h2:∀n k cs,k≠NameKind.free->f (n,k) cs=pure (.yield cs)) :
  ∀(names:List (Str×NameKind))(acc:List (Str×Addr)),(∀x∈names,x.2=.free->∃c,env.cells.lookup x.1=some c)->forIn names acc f=pure (cw env names acc)
 |[],_,_=>rfl
 | (n,k)::r,acc,h=>by
  have hr:∀x∈r,x.2=.free->∃c,env.cells.lookup x.1=some c:=fun x hx=>h x (Wa _ hx);by_cases hk:k=.free
  ·obtain⟨c,hc⟩:=h (n,k) Va hk;have e:cw env ((n,k)::r) acc=cw env r ((n,c)::acc):=by
    show(if k=.free then _ else _)=_;rw[if_pos hk];have hc':env.cells.lookup n=some c:=hc;rw[hc'];rfl
   rw[B0,h1 n k acc c hk hc,pure_bind,e];exact jj h1 h2 r _ hr
  ·have e:cw env ((n,k)::r) acc=cw env r acc:=by
    show(if k=.free then _ else _)=_;rw[Ah hk]
   rw[B0,h2 n k acc hk,pure_bind,e];exact jj h1 h2 r _ hr
def mT{scope:Scope}{env:Env}(h:∀x∈scope.names,x.2=.free->∃c,env.cells.lookup x.1=some c):closureFor scope env=pure (cw env scope.names []):=by
 simp only[closureFor];have key:=fun f h1 h2=>jj (env:=env) (f:=f) h1 h2 scope.names [] h
 rw[key _ (fun n k cs c hk hc=>by subst hk;simp[cellOf,hc]) (fun n k cs hk=>by
  have:(k == NameKind.free)=false:=by simpa using hk
  simp only[this,Xg,if_false])]
 rfl
def cY{α β:Type}[BEq α]{x n:α}{k:β}{r:List (α×β)}:List.lookup x ((n,k)::r)=if (x == n)=true then some k else List.lookup x r:=by
 rw[List.lookup_cons];cases x == n<;>rfl
theorem iN{env:Env}{x:Str}{c:Addr}:∀(names:List (Str×NameKind))(acc:List (Str×Addr)),(∀x∈names,x.2=.free->∃c,env.cells.lookup x.1=some c)->
  (∀y c,acc.lookup y=some c->env.cells.lookup y=some c)->(cw env names acc).lookup x=some c->env.cells.lookup x=some c
 |[],acc,_,ha,e=>ha x c e
 | (n,k)::r,acc,h,ha,e=>by
  have hr:∀x∈r,x.2=.free->∃c,env.cells.lookup x.1=some c:=fun x hx=>h x (Wa _ hx);by_cases hk:k=.free
  ·obtain⟨c',hc⟩:=h (n,k) Va hk;have hc':env.cells.lookup n=some c':=hc;have q:cw env ((n,k)::r) acc=cw env r ((n,c')::acc):=by
    show(if k=.free then _ else _)=_;rw[if_pos hk,hc'];rfl
   rw[q]at e;refine iN r _ hr (fun y d hy=>?_) e;rw[cY]at hy;by_cases hyn:(y == n)=true
   ·rw[if_pos hyn]at hy;have:y=n:=by simpa using hyn
    rw[this,hc',hy]
   ·rw[Ah hyn]at hy;exact ha y d hy
  ·have q:cw env ((n,k)::r) acc=cw env r acc:=by
    show(if k=.free then _ else _)=_;rw[Ah hk]
   rw[q]at e;exact iN r _ hr ha e
theorem lU{env:Env}{x:Str}{c:Addr}(hx:env.cells.lookup x=some c):∀(names:List (Str×NameKind))(acc:List (Str×Addr)),(acc.lookup x=some c\/(x,NameKind.free)∈names)->(cw env names acc).lookup x=some c
 | [],acc,h=>by
  rcases h with h|h
  ·exact h
  ·cases h
 | (n,k)::r,acc,h=>by
  by_cases hk:k=.free
  ·have q:cw env ((n,k)::r) acc=cw env r ((n,(env.cells.lookup n).getD 0)::acc):=by
    show(if k=.free then _ else _)=_;rw[if_pos hk]
   rw[q];refine lU hx r _ ?_;by_cases hxn:(x == n)=true
   ·left;have e:x=n:=by simpa using hxn
    rw[cY,if_pos hxn,<-e,hx];rfl
   ·rcases h with h|h
    ·left;rw[cY,Ah hxn];exact h
    ·right;rcases Wd.mp h with h|h
     ·cases h;exact absurd (by simp) hxn
     ·exact h
  ·have q:cw env ((n,k)::r) acc=cw env r acc:=by
    show(if k=.free then _ else _)=_;rw[Ah hk]
   rw[q];refine lU hx r _ ?_;rcases h with h|h
   ·exact .inl h
   ·rcases Wd.mp h with h|h
    ·cases h;exact absurd rfl hk
    ·exact .inr h
theorem gI{env:Env}{x:Str}:∀(names:List (Str×NameKind)),
  ((names.map fun(n,k)=>if (k == NameKind.free&&env.scope.kind == .function&&env.kindOf n == some .cell) then(n,NameKind.cell) else(n,k)).lookup x=none/\names.lookup x=none) \/
  ∃k k',names.lookup x=some k/\(names.map fun(n,k)=>if (k == NameKind.free&&env.scope.kind == .function&&env.kindOf n == some .cell) then(n,NameKind.cell) else(n,k)).lookup x=some k'/\(k'=k\/(k=.free/\k'=.cell))
 |[]=>.inl ⟨rfl,rfl⟩
 | (n,k)::r=>by
  have ih:=@gI env x r;show(List.lookup x ((if (k == NameKind.free&&env.scope.kind == .function&&env.kindOf n == some .cell)=true then(n,NameKind.cell) else(n,k))::_)=none/\_)\/∃k' k'',_/\List.lookup x ((if (k == NameKind.free&&env.scope.kind == .function&&env.kindOf n == some .cell)=true then(n,NameKind.cell) else(n,k))::_)=_/\_;by_cases hc:(k == NameKind.free&&env.scope.kind == .function&&env.kindOf n == some .cell)=true
  ·rw[if_pos hc,cY,cY];have hk:k=.free:=by
    simp only[Wf]at hc;simpa using hc.1.1
   by_cases hx:(x == n)=true
   ·rw[if_pos hx,if_pos hx];exact .inr ⟨k,.cell,rfl,rfl,.inr ⟨hk,rfl⟩⟩
   ·rw[Ah hx,Ah hx];exact ih
  ·rw[Ah hc,cY,cY];by_cases hx:(x == n)=true
   ·rw[if_pos hx,if_pos hx];exact .inr ⟨k,k,rfl,rfl,.inl rfl⟩
   ·rw[Ah hx,Ah hx];exact ih
abbrev o7(X:Cx)(N:List Str)(scope:Scope)(C:Addr)(s:Shared)(H:Hp)(fp:List Addr):Cx :=
 { X with N:=N,s₀:=s,H₀:=H,env:=compEnvC scope (cw X.env scope.names []) C X.env,outer:=X.stack,stack:=X.stack,ex:=fp,fn:=fun _=>false,pn:=[],xe:=fun _ _=>False }
structure BlkScope(X:Cx)(N:List Str)(k:Nat)(zZ:List Nat)(scope:Scope):Prop where
 kind:scope.kind=.function
 nocell:∀y∈scope.names,y.2≠.cell
 loc:∀y∈scope.names,y.2=.local->scope.names.lookup y.1=some .local
 free:∀y∈scope.names,y.2=.free->(X.env.kindOf y.1=some .cell\/X.env.kindOf y.1=some .free)
 len:N.length=k+zZ.length
 cap:∀(j i:Nat),zZ[j]?=some i->∃x,N[k+j]?=some x/\X.N[i]?=some x/\scope.names.lookup x=some .free
def o8(k:Nat)(zZ:List Nat)(σ:St):St:=List.replicate k none++zZ.map fun i=>(σ[i]?).getD none
section
variable {X:Cx}{N:List Str}{k:Nat}{zZ:List Nat}{scope:Scope}
theorem BlkScope.cells(S:BlkScope X N k zZ scope)(ok:X.Ok):∀x∈scope.names,x.2=.free->∃c,X.env.cells.lookup x.1=some c:=fun x hx hk=>ok.has x.1 (S.free x hx hk)
def BlkScope.sub(S:BlkScope X N k zZ scope)(ok:X.Ok){x:Str}{c:Addr}(e:(cw X.env scope.names []).lookup x=some c):X.env.cells.lookup x=some c :=
 iN _ _ (S.cells ok) (fun y c h=>by cases h) e
def BlkScope.has(S:BlkScope X N k zZ scope)(ok:X.Ok){x:Str}(h:scope.names.lookup x=some .free):∃c,X.env.cells.lookup x=some c/\(cw X.env scope.names []).lookup x=some c:=by
 have hm:=mem_of_lookup h;obtain⟨c,hc⟩:=S.cells ok _ hm rfl;exact⟨c,hc,lU hc _ _ (.inr hm)⟩
def yk(σ:St):(o8 k zZ σ).length=k+zZ.length:=by unfold o8;simp
def yl{σ:St}{i:Nat}{v:V}(h:(o8 k zZ σ)[i]?=some (some v)):∃j i',i=k+j/\zZ[j]?=some i'/\σ[i']?=some (some v):=by grind [o8]
def M6{z9:List (Addr×Obj)}{σ:St}{H:Hp}{s:Shared}{fp:List Addr}{C:Addr}(S:BlkScope X N k zZ scope)(I:Inv X z9 σ H s)(hf:∀b∈fp,kf X z9 H b)(hlt:∀b∈fp,b<s.heap.objs.size)(hC:s.heap.objs.size<=C) :
  (o7 X N scope C s H fp).Ok:=by
 have nfs:∀b∈fp,b∉wJ X.stack:=fun b hb z=>by
  rcases Wd.mp (I.stkSub b z) with e|e
  ·exact(hf b hb).2.1 e
  ·exact(hf b hb).2.2.1 e
 refine⟨I.ok.mod,S.kind,I.ok.glob,I.ok.blt,hC,fun x y c h1 h2=>I.ok.inj x y c (S.sub I.ok h1) (S.sub I.ok h2),fun x hx=>?_,fun x c h=>(by cases h),I.ok.hd,I.ok.frames,.inl rfl,fun b hb=>⟨?_,fun x c e=>?_⟩,I.bs,Xd I.ok.bsz I.sz,fun b o e hb=>?_,nfs,I.stack,I.stkFree⟩
 ·have hx':(relabel scope X.env).names.lookup x=some .cell\/(relabel scope X.env).names.lookup x=some .free:=hx;rcases gI (env:=X.env) (x:=x) scope.names with⟨e,_⟩|⟨k1,k2,e1,e2,e3⟩
  ·rcases hx' with z|z<;>(have z':=e.symm.trans z;cases z')
  ·have hk2:k2=.cell\/k2=.free:=by
    rcases hx' with z|z
    ·exact .inl (Option.some.inj (e2.symm.trans z))
    ·exact .inr (Option.some.inj (e2.symm.trans z))
   have hfree:k1=.free:=by
    rcases e3 with z|⟨z,_⟩
    ·rcases hk2 with q|q
     ·exact absurd (z.symm.trans q) (S.nocell _ (mem_of_lookup e1))
     ·exact z.symm.trans q
    ·exact z
   rw[hfree]at e1;obtain⟨c,_,hc⟩:=S.has I.ok e1;exact⟨c,hc⟩
 ·exact Qf (Xc (hlt b hb) hC)
 ·exact(hf b hb).2.2.2.2.1 x c (S.sub I.ok e)
 ·rcases(hf b hb).2.2.2.1 with z|z
  ·exact I.ok.noex b o e z
  ·exact absurd (Xc (Ag (I.ok.bs b o e).1) z) (Wi _)
def Jd{z9:List (Addr×Obj)}{σ:St}{H:Hp}{s s3:Shared}{fp:List Addr}{C:Addr}{m:Str->Option Value}(S:BlkScope X N k zZ scope)(I:Inv X z9 σ H s)(hf:∀b∈fp,kf X z9 H b)(hlt:∀b∈fp,b<s.heap.objs.size)
  (hC:s.heap.objs.size<=C)(hos:s3.os=s.os)(hg:s3.gens=s.gens)(kp:∀b o,s.heap.get? b=some o->s3.heap.get? b=some o)(hn:s3.heap.Ns C m)(ht:0<s3.toks):Inv (o7 X N scope C s H fp) [] (o8 k zZ σ) H s3:=by
 refine⟨M6 S I hf hlt hC,hos,by rw[hg];exact I.bare,Un.kept kp,⟨m,hn,fun i x v e1 e2 e3=>?_⟩,fun x c e=>?_,I.hok.fresh hC,fun x c e=>I.freeC x c (S.sub I.ok e),fun p hp=>absurd hp (by simp),I.hok.kept kp,by rw[yk];exact S.len.symm,ht⟩
 ·obtain⟨j,i',rfl,hc,hv⟩:=yl e2;obtain⟨y,h1,h2,h3⟩:=S.cap j i' hc;have exy:y=x:=Option.some.inj (h1.symm.trans e1);subst exy;obtain⟨c,hc1,hc2⟩:=S.has I.ok h3;obtain⟨m0,hn0,hl0⟩:=I.loc;have hkind:=S.free _ (mem_of_lookup h3) rfl;obtain⟨u,ru,lu⟩:=hl0 i' y v h2 hv (hkind.elim (fun z=>.inr (.inl z)) (fun z=>.inr (.inr z)));refine⟨u,ru,.inr ⟨?_,c,hc2,?_⟩⟩
  ·rcases gI (env:=X.env) (x:=y) scope.names with⟨_,e⟩|⟨k1,k2,q1,q2,q3⟩
   ·rw[e]at h3;cases h3
   ·have hk1:k1=.free:=Option.some.inj (q1.symm.trans h3);rcases q3 with z|⟨_,z⟩
    ·right;show(relabel scope X.env).names.lookup y=_;exact q2.trans (by rw[z,hk1])
    ·left;show(relabel scope X.env).names.lookup y=_;exact q2.trans (by rw[z])
  ·rcases lu with⟨hk,_⟩|⟨_,c',hc',cell⟩
   ·rcases hkind with z|z<;>(have z':=hk.symm.trans z;cases z')
   ·have:c'=c:=Option.some.inj (hc'.symm.trans hc1);subst this;obtain⟨o,ho,hd⟩:=cell;exact⟨o,kp _ o ho,hd⟩
 ·obtain⟨v,o,ho,hd⟩:=I.cell x c (S.sub I.ok e);exact⟨v,o,kp _ o ho,hd⟩
end
def Py(X:Cx)(ifs:List Expr)(t:TT):Prop :=
 ∀(z9:List (Addr×Obj))(s:Shared)(σ:St)(H:Hp)(Q:Bool->Hp->Prop),Inv X z9 σ H s->t σ H Q->
  wpAny (model X.prog X.w) X.A (forIn ifs true fun c r=>if r=true then do let ok <-isTrue c X.env (eval c X.env);pure (ForInStep.yield ok) else pure (ForInStep.yield r)) (TP X z9 σ Q) X.xe s
def Qp:TT:=fun _ H Q=>Q true H
def bM{X:Cx}:Py X [] Qp:=fun _ _ _ H _ I h=>wpAny_tests_nil ⟨H,I,h⟩
def Je{X:Cx}{c:Expr}{t:TT}(h:PT X c t):Py X [c] t:=fun z9 s σ H Q I hw=>wpAny_tests_one (h z9 s σ H Q I hw)
theorem kx{prog:Program}{w:World}{A:Around}{R:Result->Shared->Prop}{s:Shared}{elt target iter:Expr}{ifs:List Expr}{scope:Scope}{pos:Pos}{it acc:Value}{env:Env}(I:Nat->Shared->Prop)
  (turn:∀n s,I n s->wpAny (model prog w) A (pyNext it) (fun r s₁=>match r with
   |none=>R (.ok .next) s₁
   |some v=>wpAny (model prog w) A (letOwnedTupleGo target it v) (fun _ s₀=>wpAny (model prog w) A (assign target env v) (fun _ s₂=>
     wpAny (model prog w) A (forIn ifs true fun c r=>if r=true then do let ok <-isTrue c env (eval c env);pure (ForInStep.yield ok) else pure (ForInStep.yield r)) (fun ok s₃=>
      if ok=true then wpAny (model prog w) A (eval elt env) (fun x s₄=>
       wpAny (model prog w) A (call (.builtin "list.append") [acc,x]) (fun _ s₅=>∃m,m<n/\I m s₅) (fun _ _=>False) s₄) (fun _ _=>False) s₃
      else ∃m,m<n/\I m s₃) (fun _ _=>False) s₂) (fun _ _=>False) s₀) (fun _ _=>False) s₁) (fun _ _=>False) s)
  (n:Nat) (h:I n s) :
  codeAny (model prog w) A (.compLoop (.ListComp elt [⟨target,iter,ifs,0⟩] scope pos) 0 it acc env) R s:=by
 refine codeAny_loop rfl I (fun n s hI=>?_) n h;show wpAny _ A ((compTurn (.ListComp elt [⟨target,iter,ifs,0⟩] scope pos) 0 it acc env).onRaise (fun x=>do noteFrame x env;theTreesLotGoes x)) _ _ s
 refine wpAny_noted ?_;rw[compTurn_list];refine Aa (wpAny_standAt (Aa (At (turn n s hI) (fun r s₁ h₁=>?_) fun _ _ h'=>False.elim h')));cases r with
 |none=>exact Ac h₁
 |some v=>
  refine Aa (At h₁ (fun _ s₀ h₀=>?_) fun _ _ h'=>False.elim h');refine Aa (At h₀ (fun _ s₂ h₂=>Aa (At h₂ (fun ok s₃ h₃=>?_) fun _ _ h'=>False.elim h')) fun _ _ h'=>False.elim h');cases ok with
  |false=>exact Ac ⟨rfl,h₃⟩
  |true=>
   exact Aa (Aa (At h₃ (fun x s₄ h₄=>Aa (At h₄ (fun _ s₅ h₅=>Ac (Ac ⟨rfl,h₅⟩)) fun _ _ h'=>False.elim h')) fun _ _ h'=>False.elim h'))
def sw(k:Nat)(zZ:List Nat)(wi:TI)(g:TG)(tc:TT)(te:TE):TE:=fun σ H Q=>wi σ H fun J H1=>∃(n:Nat)(W:Nat->List V->Hp->Prop),W 0 [] H1 /\
 (∀xs H,W n xs H->J.stop n H/\∀p,H p=none->Q (.ref p) (upd H p (.lst xs))) /\
 ∀i xs H,i<n->W i xs H->J.go i H/\xs.length<sizeLine/\∀x H',J.yld i H x H'->g x (o8 k zZ σ) H' fun σ2 H2=>tc σ2 H2 fun ok H3=>
  if ok=true then te σ2 H3 fun y H4=>σ2.drop k=(o8 k zZ σ).drop k/\W (i+1) (xs++[y]) H4
  else σ2.drop k=(o8 k zZ σ).drop k/\W (i+1) xs H3
abbrev fX(its:List Value)(n:Nat):Obj:={ cls:=.type "list",data:=.seq its.toArray n }
def LC(X:Cx)(z9:List (Addr×Obj))(H:Hp)(C:Addr):Prop :=
 H C=none/\C≠X.env.locals/\(C∈X.ex\/X.s₀.heap.objs.size<=C)/\(∀x c,X.env.cells.lookup x=some c->c≠C)/\∀p∈X.pn++z9,p.1≠C
inductive CI(X':Cx)(A:Addr)(σ:St)(tn:Nat->Heap->Prop)(fp:List Addr)(n0:Nat)(W:Nat->List V->Hp->Prop)(n:Nat)(s':Shared):Prop
 | mk (i:Nat) (xs:List V) (its:List Value) (nn:Nat) (H':Hp) (J:Inv X' [(A,fX its nn)] σ H' s') (st:tn i s'.heap) (fr:∀b∈fp,H' b=none) (vs:Vals xs its) (hz:xs.length<=sizeLine) (hn:n=n0-i) (hi:i<=n0) (w:W i xs H')
def u9{X:Cx}{elt iter tg:Expr}{ifs:List Expr}{scope:Scope}{pos zU:Pos}{N:List Str}{k:Nat}{zZ:List Nat}{wi:TI}{g:TG}{tc:TT}{te:TE}{use:Option (Value->Sem Unit)}{Q':Value->Shared->Prop}
  {z9:List (Addr×Obj)}{s:Shared}{σ:St}{H:Hp}{Q:VK}(S:BlkScope X N k zZ scope)(hc:X.calm=true)(hi:PI X tg iter wi)
  (hg:∀C s H fp,PG (o7 X N scope C s H fp) tg g) (ht:∀C s H fp,Py (o7 X N scope C s H fp) ifs tc) (he:∀C s H fp,PE (o7 X N scope C s H fp) elt te)
  (hs:∀x,foldedSetIterable iter X.env x=pure x) (I:Inv X z9 σ H s) (h:sw k zZ wi g tc te σ H Q)
  (fin:∀(D C:Addr)(H4:Hp)(s4:Shared)(m:Str->Option Value),Inv X z9 σ H4 s4->s4.heap.Ns C m->LC X z9 H4 C->Q (.ref D) H4->compPost (model X.prog X.w) X.A X.xe use Q' (.ref D) C (.ok .next) s4) :
  wpAny (model X.prog X.w) X.A (comprehension (.ListComp elt [⟨tg,iter,ifs,0⟩] scope pos) scope X.env zU (newList []) false (eval iter X.env) use) Q' X.xe s:=by
 refine wpAny_comprehension_free rfl hs (mT (S.cells I.ok)) S.kind S.loc ?_;refine dq (hi z9 s σ H _ I h) fun v s1 h1=>dq h1 fun itv s2 h2=>?_;obtain⟨it,fp,tn,J,H2,e,I2,T,st2,f2,n0,W,w0,wstop,turn⟩:=h2;subst e;refine Am (wpAny_newFunctionEnv S.nocell (by intro y hy;simp at hy) (fun h₁ hns₁ hsb₁=>?_) S.kind)
 dsimp only at hns₁ hsb₁ ⊢;generalize hG:s2.heap.push { cls:=.type "list",dict:=none,data:=.seq ([]:List Value).toArray }=G at hns₁ hsb₁ ⊢;have hCG:G.objs.size=s2.heap.objs.size+1:=by rw[<-hG,AC]
 have hDC:s2.heap.objs.size≠G.objs.size:=by lia
 have below:∀b,b<s2.heap.objs.size->b≠G.objs.size/\b≠s2.heap.objs.size:=fun b hb=>⟨by lia,by lia⟩
 have old:∀b o,s2.heap.get? b=some o->h₁.get? b=some o:=fun b o e=>hsb₁.extBut b o (below b (Ag e)).1 (Ab _ (hG ▸ Ab _ e));have hacc:h₁.get? s2.heap.objs.size=some (fX [] 0):=hsb₁.extBut _ _ hDC (Ab _ (hG ▸ Ae _ rfl));have hlt:∀b∈fp,b<s2.heap.objs.size:=fun b hb=>by obtain⟨o,ho,_⟩:=T.obj 0 _ st2 b hb;exact Ag ho
 have hDf:s2.heap.objs.size∉fp:=fun z=>Wi _ (hlt _ z);have hle:s2.heap.objs.size<=G.objs.size:=by lia
 have hDcell:∀x c,(cw X.env scope.names []).lookup x=some c->c≠s2.heap.objs.size:=fun x c e z=>by
  obtain⟨v,q⟩:=I2.cell x c (S.sub I2.ok e);exact absurd q.lt (by rw[z];exact Wi _)
 have hDfs:s2.heap.objs.size∉wJ X.stack:=fun z=>by
  obtain⟨_,o,ho,_⟩:=I2.stack.mem z;exact absurd (Ag ho) (Wi _)
 have nfs:∀b∈fp,b∉wJ X.stack:=fun b hb z=>by
  rcases Wd.mp (I2.stkSub b z) with e|e
  ·exact(f2 b hb).2.1 e
  ·exact(f2 b hb).2.2.1 e
 have fpk:∀{H':Hp}{its:List Value}{n:Nat},(∀b∈fp,H' b=none)->∀b∈fp,kf (o7 X N scope G.objs.size s2 H2 fp) [(s2.heap.objs.size,fX its n)] H' b:=fun {H' its n} hn b hb=>
  ⟨hn b hb,(below b (hlt b hb)).1,nfs b hb,.inl hb,fun x c e=>(f2 b hb).2.2.2.2.1 x c (S.sub I2.ok e),fun p hp=>by
   have e:p=(s2.heap.objs.size,fX its n):=by simpa using hp
   rw[e];exact Au (below b (hlt b hb)).2⟩
 have pinD:∀{H':Hp}{s':Shared}{σ':St}{its:List Value}{n:Nat},Inv (o7 X N scope G.objs.size s2 H2 fp) [] σ' H' s'->s'.heap.get? s2.heap.objs.size=some (fX its n)->H' s2.heap.objs.size=none->Inv (o7 X N scope G.objs.size s2 H2 fp) [(s2.heap.objs.size,fX its n)] σ' H' s':=fun {H' s' σ' its n} J e hn=>
  J.pins_of fun p hp=>by
   have q:p=(s2.heap.objs.size,fX its n):=by simpa using hp
   rw[q];exact⟨e,hn,hDC,hDfs,fun v z=>by cases z⟩
 have I3:Inv (o7 X N scope G.objs.size s2 H2 fp) [] (o8 k zZ σ) H2 { s2 with heap:=h₁,toks:=s2.toks+([]:List (Str×Value)).length }:=Jd S I2 f2 hlt hle rfl rfl old hns₁ (Xc I2.tk (Xj _ _));have loop:codeAny (model X.prog X.w) X.A (.compLoop (.ListComp elt [⟨tg,iter,ifs,0⟩] scope pos) 0 (.ref it) (.ref s2.heap.objs.size) (compEnvC scope (cw X.env scope.names []) G.objs.size X.env))
   (compPost (model X.prog X.w) X.A X.xe use Q' (.ref s2.heap.objs.size) G.objs.size) { s2 with heap:=h₁,toks:=s2.toks+([]:List (Str×Value)).length }:=by
  refine kx (CI (o7 X N scope G.objs.size s2 H2 fp) s2.heap.objs.size (o8 k zZ σ) tn fp n0 W) ?_ n0
   ⟨0,[],[],0,H2,pinD I3 hacc (I2.hok.fresh (Qa _)),T.keep _ _ _ st2 fun b _ o e=>old b o e,fun b hb=>(f2 b hb).1,.nil,Xi _,rfl,Xi _,w0⟩
  rintro n s3 ⟨i,xs,its,nn,H3,J3,st3,fr3,vs3,hz3,hn3,hi3,w3⟩;by_cases hin:i<n0
  rotate_left
  ·have ein:i=n0:=by lia
   subst ein;obtain⟨stop,qn⟩:=wstop xs H3 w3;refine dq (T.done (o7 X N scope G.objs.size s2 H2 fp) rfl rfl rfl hc i _ s3 _ H3 _ J3 (fpk fr3) st3 stop) fun r s4 zz9=>?_;obtain⟨hr,J4⟩:=zz9;subst hr;obtain⟨eD,nD,_⟩:=J4.pin (s2.heap.objs.size,fX its nn) (by simp)
   have eD:s4.heap.get? s2.heap.objs.size=some (fX its nn):=eD;have nD:H3 s2.heap.objs.size=none:=nD;obtain⟨m4,hm4,_⟩:=J4.loc;have U:Un (wJ X.stack) fp H2 H3 s2.heap s4.heap:=J4.base;have neC:∀b o,s2.heap.get? b=some o->b≠G.objs.size:=fun b o e=>(below b (Ag e)).1;have neD:∀b o,s2.heap.get? b=some o->b≠s2.heap.objs.size:=fun b o e=>(below b (Ag e)).2;have H2D:H2 s2.heap.objs.size=none:=I2.hok.fresh (Qa _);have HC:H3 G.objs.size=none:=J4.free;refine fin s2.heap.objs.size G.objs.size (upd H3 s2.heap.objs.size (.lst xs)) s4 m4 (I2.call' (s':=s4) (ch:=fp) J4.os ?_ ?_ J4.bare ?_ J4.tk) hm4 ?_ (qn _ nD)
   ·refine⟨fun b o e n hb hx=>U.keep b o e n hb hx,fun b o e n hb hx=>U.slot b o e n hb hx,fun b o e n hx=>?_,fun b o e hx=>U.there b o e hx,fun b ys e=>?_,fun b o u e=>?_,fun b ps e=>?_⟩
    ·rw[aC (neD b o e)];exact U.free b o e n hx
    ·rw[aC (bo e H2D)];exact U.tups b ys e
    ·rw[aC (bo e H2D)];exact U.frzs b o u e
    ·obtain⟨more,q⟩:=U.tbls b ps e;exact⟨more,by rw[aC (bo e H2D)];exact q⟩
   ·intro b u e;by_cases hb:b=s2.heap.objs.size
    ·subst hb;rw[aQ]at e;cases e;exact⟨hz3,its,nn,vs3,eD⟩
    ·rw[aC hb]at e;exact(J4.hok b u e).stay (fun c v _ q=>q) (fun c q=>by rw[aC (bo q nD)];exact q) fun c ys q=>by rw[aC (bo q nD)];exact q
   ·exact fun b hb=>⟨(f2 b hb).2.2.2.1,(f2 b hb).2.1,(f2 b hb).2.2.2.2.1,(f2 b hb).2.2.2.2.2⟩
   ·refine⟨by rw[aC (Au hDC)];exact HC,Vm (Xc I2.lt hle),.inr (Xd I2.sz hle),fun x c e z=>?_,fun p hp z=>?_⟩
    ·obtain⟨v,q⟩:=I2.cell x c e;exact absurd (Xc q.lt (by rw[z];exact hle)) (Wi _)
    ·exact absurd (Xc (Ag (I2.pin p hp).1) (by rw[z];exact hle)) (Wi _)
  ·obtain⟨go,hz,step⟩:=turn i xs H3 hin w3;refine dq (T.item (o7 X N scope G.objs.size s2 H2 fp) rfl rfl rfl hc i _ s3 _ H3 _ J3 (fpk fr3) st3 go) fun r s4 zz9=>?_;obtain⟨u,hr,h4⟩:=zz9;subst hr;refine dq h4 fun _ s5 zz9=>?_;obtain⟨x,H5,J5,r5,y5,st5,fr5⟩:=zz9;have J5':=J5.pinned (fpk fr5) (T.obj _ _ st5);refine dq (hg _ _ _ _ _ s5 _ H5 x u _ J5' r5 (step x H5 y5)) fun _ s6 zz9=>?_;obtain⟨σ6,H6,J6,q6⟩:=zz9;refine dq (ht _ _ _ _ _ s6 σ6 H6 _ J6 q6) fun ok s7 zz9=>?_;obtain⟨H7,J7,q7⟩:=zz9;have wk:∀{σ8:St}{H8:Hp}{s8:Shared}{pl:List (Addr×Obj)},Inv (o7 X N scope G.objs.size s2 H2 fp) pl σ8 H8 s8->σ8.drop k=(o8 k zZ σ).drop k->Inv (o7 X N scope G.objs.size s2 H2 fp) pl (o8 k zZ σ) H8 s8:=fun {σ8 H8 s8 pl} J8 hd=>
    J8.weak (by rw[yk,J8.len];exact S.len.symm) fun j v e=>by
     obtain⟨j',i',rfl,hc',hv'⟩:=yl e;have e1:((o8 k zZ σ).drop k)[j']?=some (some v):=by rw[Zj];exact e
     rw[<-hd,Zj]at e1;exact e1
   have recs:∀{σ8:St}{H8:Hp}{s8:Shared},Inv (o7 X N scope G.objs.size s2 H2 fp) ([(s2.heap.objs.size,fX its nn)]++qh fp s5.heap) σ8 H8 s8->(∀b∈fp,∀o,s5.heap.get? b=some o->s8.heap.get? b=some o)/\(∀b∈fp,H8 b=none):=fun {σ8 H8 s8} J8=>
    ⟨fun b hb o e=>(J8.pin (b,o) (Vd _ (Vd _ (gG hb e)))).1,fun b hb=>by
     obtain⟨o,e,d⟩:=T.obj _ _ st5 b hb
     exact(J8.pin (b,o) (Vd _ (Vd _ (gG hb e)))).2.1⟩
   cases ok with
   |false=>
    rw[Ah (by decide)]at q7 ⊢
    obtain⟨hd,w7⟩:=q7;obtain⟨k1,k2⟩:=recs J7;exact⟨n0-(i+1),by lia,i+1,xs,its,nn,H7,wk J7.unpinned hd,T.keep _ _ _ st5 k1,k2,vs3,hz3,rfl,hin,w7⟩
   |true=>
    rw[if_pos rfl]at q7 ⊢;refine dq (he _ _ _ _ _ s7 σ6 H7 _ J7 q7) fun uy s8 zz9=>?_;obtain⟨y,H8,J8,r8,hd,w8⟩:=zz9;obtain⟨k1,k2⟩:=recs J8;obtain⟨eD,nD,_⟩:=J8.pin (s2.heap.objs.size,fX its nn) (by simp)
    have eD:s8.heap.get? s2.heap.objs.size=some (fX its nn):=eD;have nD:H8 s2.heap.objs.size=none:=nD;have hl3:=vs3.length;refine AX F.slot_list_append ⟨_,eD,rfl⟩ F.entry_list_append (F.args_list_append_2 _ _) (PySem.list_append s2.heap.objs.size its.toArray nn uy (by rw[Vb];lia)) ⟨eD,?_⟩
    have q:=PySem.IsL.update eD (fun a:Array Value=>a.push uy);have qe:its.toArray.push uy=(its++[uy]).toArray:=by simp
    rw[qe]at q;have oth:∀b o,b≠s2.heap.objs.size->s8.heap.get? b=some o->(s8.heap.update s2.heap.objs.size (Obj.mapSeq fun a=>a.push uy)).get? b=some o:=fun b o hb e=>(AG s8.heap _ (Au hb)).trans e;have J9:Inv (o7 X N scope G.objs.size s2 H2 fp) [] σ6 H8 { s8 with heap:=s8.heap.update s2.heap.objs.size (Obj.mapSeq fun a=>a.push uy),toks:=s8.toks } :=
     (J8.pins_of (pins':=[]) fun p hp=>absurd hp (by simp)).turned oth nD hDC (.inr (Qa _)) hDcell (fun p hp=>absurd hp (by simp))
    refine⟨n0-(i+1),by lia,i+1,xs++[y],its++[uy],_,H8,wk (pinD J9 q nD) hd,T.keep _ _ _ st5 fun b hb o e=>oth b o (fun z=>hDf (z ▸ hb)) (k1 b hb o e),k2,vs3.append (.cons r8 .nil),?_,rfl,hin,w8⟩
    rw[Xa,Yi];lia
 exact codeAny_compStart_list loop (T.self _ 0 _ _ _ (T.keep _ _ _ st2 fun b _ o e=>old b o e) loop)
def Inv.aside{X:Cx}{z9:List (Addr×Obj)}{σ:St}{H:Hp}{s:Shared}{C:Addr}{h':Heap}(I:Inv X z9 σ H s)(a:LC X z9 H C)(hs:Heap.SameBut C s.heap h'):Inv X z9 σ H { s with heap:=h' } :=
 I.turned (t':=s.toks) (fun b o hb e=>hs.extBut b o hb e) a.1 a.2.1 a.2.2.1 a.2.2.2.1 a.2.2.2.2
def ce{X:Cx}{elt iter tg:Expr}{ifs:List Expr}{scope:Scope}{pos:Pos}{N:List Str}{k:Nat}{zZ:List Nat}{wi:TI}{g:TG}{tc:TT}{te:TE}(S:BlkScope X N k zZ scope)(hc:X.calm=true)(hi:PI X tg iter wi)
  (hg:∀C s H fp,PG (o7 X N scope C s H fp) tg g)(ht:∀C s H fp,Py (o7 X N scope C s H fp) ifs tc)(he:∀C s H fp,PE (o7 X N scope C s H fp) elt te)
  (hs:∀x,foldedSetIterable iter X.env x=pure x:=by intro _;rfl):PE X (.ListComp elt [⟨tg,iter,ifs,0⟩] scope pos) (sw k zZ wi g tc te):=by
 intro z9 s σ H Q I h;rw[eval_ListComp];exact u9 (use:=none) S hc hi hg ht he hs I h fun D C H4 s4 m I4 hm a q=>⟨m,hm,fun h' hs'=>⟨.ref D,H4,I4.aside a hs',rfl,q⟩⟩
def Jf{X:Cx}{elt iter tg:Expr}{ifs:List Expr}{scope:Scope}{pos py spos:Pos}{N:List Str}{k:Nat}{zZ:List Nat}{wi:TI}{g:TG}{tc:TT}{te:TE}{y:Str}{i:Nat}(S:BlkScope X N k zZ scope)(hc:X.calm=true)(hN:X.N.Nodup)(hi':X.N[i]?=some y)(hy:Loc X.env.scope y)(hi:PI X tg iter wi)
  (hg:∀C s H fp,PG (o7 X N scope C s H fp) tg g)(ht:∀C s H fp,Py (o7 X N scope C s H fp) ifs tc)(he:∀C s H fp,PE (o7 X N scope C s H fp) elt te)
  (hs:∀x,foldedSetIterable iter X.env x=pure x:=by intro _;rfl) (hsw:swapsWith (.ListComp elt [⟨tg,iter,ifs,0⟩] scope pos) (some (.Name y py)) spos.line X.env=pure true:=by rfl)
  (hf:X.fn y=true\/X.env.scope.names.lookup y=some .local:=by first|exact .inl rfl|exact .inr rfl|assumption) :
  PS X (.Assign [.Name y py] (.ListComp elt [⟨tg,iter,ifs,0⟩] scope pos) spos) (wK (sw k zZ wi g tc te) (qg i)):=by
 intro z9 s σ H D I h;rw[exec_Assign_Name_used _ _ _ _ hsw];refine Aa (wpAny_standAt (Aa ?_));show wpAny _ X.A (do let _ <-comprehension (.ListComp elt [⟨tg,iter,ifs,0⟩] scope pos) scope X.env _ (newList []) false (eval iter X.env) (some (assign (.Name y py) X.env))) _ _ s
 refine Aa (At (u9 (use:=some (assign (.Name y py) X.env)) (Q':=fun _ s'=>SP X z9 D .next s') S hc hi hg ht he hs I h ?_) (fun _ s' hq=>Ac (Ac hq)) fun _ _ e=>e)
 intro Da C H4 s4 m I4 hm a q;refine CC (nU I4 hN hi' hy (show RelV (.ref Da) (.ref Da) from rfl) (fun s5 I5 zz9 _=>?_) hf);obtain⟨b,sb,hb⟩:=zz9;have hbC:C≠b:=by
  rcases hb with z|z
  ·rw[z];exact a.2.1
  ·exact fun e=>a.2.2.2.1 _ _ z e.symm
 exact⟨m,hm.sameBut sb hbC,fun h' hs'=>⟨_,H4,I5.aside a hs',q⟩⟩
end L2
namespace L2
open PySem.Spec PyProof.Rows
def Its(x:Str):It:=⟨fun i _=>i<x.cps.size,fun i H v H'=>H'=H/\∃c,x.cps[i]?=some c/\v=.str ⟨#[c]⟩,fun i _=>x.cps.size<=i⟩
def DS{P:Program}{w:World}{K:W.Frag}{tg:Expr}(it:Addr)(x:Str)(t:Tok):Turn P w K tg (Its x) [it] it (fun i h=>h.IsStrIter it "str_ascii_iterator" x t i) where
 mem:=by simp
 obj:=fun i h st b hb=>by
  have e:b=it:=by simpa using hb
  subst e;obtain⟨o,e,c,d⟩:=st;exact⟨o,e,fun v z=>by rw[d]at z;cases z⟩
 keep:=fun i h h' st k=>let ⟨o,ho,r⟩:=st;⟨o,k it (by simp) o ho,r⟩
 item:=by
  intro X hP hw hK hc i z9 s σ H E I hf st hg;subst hP hw hK;obtain⟨f0,f1,f2,f3,f4,f5⟩:=hf it (by simp)
  have hg':i<x.cps.size:=hg;refine wpAny_pyNext_ascii_item st (c:=x.cps[i]) (by simp[hg']) fun h' zW sb=>?_
  have I1:Inv X z9 σ H { s with heap:=h',toks:=s.toks+1 }:=I.turned (fun b o hb e=>sb.extBut b o hb e) f0 f1 f3 f4 f5;obtain⟨o,e,c,d⟩:=id zW;exact⟨_,rfl,oI (s:={ s with heap:=h',toks:=s.toks+1 }) e c d (by decide) ⟨.str ⟨#[x.cps[i]]⟩,H,I1,⟨_,rfl⟩,⟨rfl,_,by simp[hg'],rfl⟩,zW,fun b hb=>(hf b hb).1⟩⟩
 done:=by
  intro X hP hw hK hc i z9 s σ H E I hf st hg;subst hP hw hK;obtain⟨f0,f1,f2,f3,f4,f5⟩:=hf it (by simp)
  have hg':x.cps.size<=i:=hg;exact wpAny_pyNext_ascii_end (I.ok.hd hc) st (by simp[hg']) fun h' eb=>⟨rfl,I.turned (t':=s.toks) (fun b o hb e=>eb b o hb e) f0 f1 f3 f4 f5⟩
 self:=fun _ _ _ _ _ st h=>wpAny_pyIter_striter_ascii st h
def DT{P:Program}{w:World}{K:W.Frag}{tg:Expr}(it:Addr)(x:Str)(t:Tok):Turn P w K tg (Its x) [it] it (fun i h=>h.IsStrIter it "str_iterator" x t i) where
 mem:=by simp
 obj:=fun i h st b hb=>by
  have e:b=it:=by simpa using hb
  subst e;obtain⟨o,e,c,d⟩:=st;exact⟨o,e,fun v z=>by rw[d]at z;cases z⟩
 keep:=fun i h h' st k=>let ⟨o,ho,r⟩:=st;⟨o,k it (by simp) o ho,r⟩
 item:=by
  intro X hP hw hK hc i z9 s σ H E I hf st hg;subst hP hw hK;obtain⟨f0,f1,f2,f3,f4,f5⟩:=hf it (by simp)
  have hg':i<x.cps.size:=hg;refine wpAny_pyNext_wide_item st (c:=x.cps[i]) (by simp[hg']) fun h' zW sb=>?_
  have I1:Inv X z9 σ H { s with heap:=h',toks:=s.toks+1 }:=I.turned (fun b o hb e=>sb.extBut b o hb e) f0 f1 f3 f4 f5;obtain⟨o,e,c,d⟩:=id zW;exact⟨_,rfl,oI (s:={ s with heap:=h',toks:=s.toks+1 }) e c d (by decide) ⟨.str ⟨#[x.cps[i]]⟩,H,I1,⟨_,rfl⟩,⟨rfl,_,by simp[hg'],rfl⟩,zW,fun b hb=>(hf b hb).1⟩⟩
 done:=by
  intro X hP hw hK hc i z9 s σ H E I hf st hg;subst hP hw hK;obtain⟨f0,f1,f2,f3,f4,f5⟩:=hf it (by simp)
  have hg':x.cps.size<=i:=hg;exact wpAny_pyNext_wide_end (I.ok.hd hc) st (by simp[hg']) fun h' eb=>⟨rfl,I.turned (t':=s.toks) (fun b o hb e=>eb b o hb e) f0 f1 f3 f4 f5⟩
 self:=fun _ _ _ _ _ st h=>wpAny_pyIter_striter_wide st h
section
variable {X:Cx}{tg:Expr}
def M7(tl:TE):TI:=fun σ H R=>tl σ H fun x H1=>∃z,x=.str z/\R (Its z) H1
def M8{l:Expr}{tl:TE}(hl:PE X l tl):PI X tg l (M7 tl):=by
 intro z9 s σ H R I h;refine dq (hl z9 s σ H _ I h) fun v s1 zz9=>?_;obtain⟨x,H1,I1,r1,q1⟩:=zz9;obtain⟨z,e,q⟩:=q1;subst e;obtain⟨t,rfl⟩:=r1;have fpk:∀b∈[s1.heap.objs.size],kf X z9 H1 b:=fun b hb=>by
  have e:b=s1.heap.objs.size:=by simpa using hb
  subst e;exact I1.fpOk (Qa _) (I1.hok.fresh (Qa _))
 cases ha:z.cps.all (·<128) with|true=>exact wpAny_pyIter_ascii ha ⟨s1.heap.objs.size,[s1.heap.objs.size],_,_,H1,rfl,I1.kept (t':=s1.toks) fun b o e=>Ab _ e,DS _ z t,⟨_,Ae _ rfl,rfl,rfl⟩,fpk,q⟩|false=>exact wpAny_pyIter_wide ha ⟨s1.heap.objs.size,[s1.heap.objs.size],_,_,H1,rfl,I1.kept (t':=s1.toks) fun b o e=>Ab _ e,DT _ z t,⟨_,Ae _ rfl,rfl,rfl⟩,fpk,q⟩
theorem range_all(bs:List Bool):(List.range bs.length).all (fun i=>bs.getD i true)=bs.all id:=by
 induction bs with
 |nil=>rfl
 |cons b r ih=>
  rw[Vc,Dr,BI,CM,BI,<-ih];rfl
def qo(hc:X.calm=true):CallR X (.builtin "all") (fun xs H Q=>∃(p:Addr)(bs:List Bool),xs=[.ref p]/\ii X.K H p (bs.map V.bl)/\Q (.bl (bs.all id)) H):=by
 intro z9 s σ H xs us Q I rv h;obtain⟨p,bs,rfl,hq,q⟩:=h;obtain⟨u,rfl,ru⟩:=vals1 rv;cases ru;obtain⟨its,r,pl,hz⟩:=I.list hq;have hlen:its.length=bs.length:=by have:=r.length;simpa using this.symm
 obtain⟨op,np,ep,cp,dp,sp⟩:=id pl;have hne:p≠s.heap.objs.size:=Qf (Ag ep);refine bz (call_all_walk (Bz pl.isList ?_));refine⟨s.heap.objs.size,_,_,_,_,_,fun i=>bs.getD i true,rfl,Walks.list (show X.A.in1.handled=none from I.ok.hd hc) s.heap.objs.size p hne its.toArray,⟨⟨_,Ae _ rfl,rfl,rfl⟩,⟨op,Ab _ ep,cp,np,sp⟩⟩,?_,fun h' tk kp hle=>?_⟩
 ·intro i v s' Q' E' hv hQ';have hv':its[i]?=some v:=by simpa using hv
  have hi:i<its.length:=(Yd.mp hv').1;have hb:(bs.map V.bl)[i]?=some (V.bl (bs[i]'(by lia))):=by
   rw[Ve,Ya (by lia)];rfl
  obtain⟨u',e1,e2⟩:=r.get hb;rw[hv']at e1;cases e1;cases e2;have:bs.getD i true=bs[i]'(by lia):=by rw[Yc,Ya (by lia)];rfl
  have hQ2:Q' (bs.getD i true) s':=hQ';rw[this]at hQ2;exact Aw hQ2
 ·have e:(List.range its.toArray.size).all (fun i=>bs.getD i true)=bs.all id:=by
   rw[Vb,hlen];exact range_all bs
  rw[e]
  exact⟨.bl (bs.all id),H,I.kept (fun b o e=>kp b o (by
   intro z;have z':b=s.heap.objs.size:=by simpa using z
   exact absurd (Ag e) (by rw[z'];exact Wi _)) (Ab _ e)) (I.tkl' hle),rfl,q⟩
theorem jk:∀{ys:List Str}{us:List Value},Vals (ys.map V.str) us->StrsAre us ys
 |[],_,r=>by cases r;exact .nil
 | y::ys,_,r=>by
  cases r with
  |cons a b=>
   obtain⟨t,rfl⟩:=a;exact .cons y t (jk b)
def yn:Px X "str.join" (fun x vs H Q=>∃(sep:Str)(p:Addr)(ys:List Str),x=.str sep/\vs=[.ref p]/\ii X.K H p (ys.map V.str)/\(ys.map (·.length)).sum+ys.length*sep.length<=16777216/\Q (.str (Txt.join sep ys)) H):=by
 intro z9 s σ H x vs v us Q I rx rv h;obtain⟨sep,p,ys,rfl,rfl,hq,hz,q⟩:=h;obtain⟨t,rfl⟩:=rx;obtain⟨u,rfl,ru⟩:=vals1 rv;cases ru;obtain⟨its,r,pl,_⟩:=I.list hq;exact bz (join_list pl.isList (jk (by simpa using r)) hz fun t' k hle=>⟨.str _,H,I.tok k (I.tkl' hle),⟨t',rfl⟩,q⟩)
def sgn(x:Str):List V:=x.cps.toList.map fun c=>.str ⟨#[c]⟩
def va{x:Str}{acc:Array Value}(h:ItemsOf (SignAt x) acc x.cps.size):Vals (sgn x) acc.toList:=by
 obtain⟨h1,h2⟩:=h;have gen:∀(cs:List Nat)(us:List Value),us.length=cs.length->(∀(j:Nat) v,us[j]?=some v->∃c u,cs[j]?=some c/\v=Value.str ⟨#[c]⟩ u)->Vals (cs.map fun c=>V.str ⟨#[c]⟩) us:=by
  intro cs;induction cs with
  | nil=>intro us hl _;cases us with|nil=>exact .nil|cons _ _=>cases hl
  |cons c cs ih=>
   intro us hl hu;cases us with
   |nil=>cases hl
   |cons u us=>
    obtain⟨c',tk,e1,e2⟩:=hu 0 u rfl;have:c=c':=by simpa using e1
    subst this;subst e2;refine .cons ⟨tk,rfl⟩ (ih us (by simpa using hl) fun j v e=>?_)
    have:=hu (j+1) v (by simpa using e)
    simpa using this
 refine gen x.cps.toList acc.toList (by simp[h1]) fun j v e=>?_
 obtain⟨c,u,e1,e2⟩:=h2 j v (by simpa using e)
 exact⟨c,u,by simpa using e1,e2⟩
def yo(x:Str):(sgn x).length=x.cps.size:=by simp[sgn]
def qp(hc:X.calm=true):CallR X (.type "list") (fun xs H Q=>∃z:Str,xs=[.str z]/\z.cps.size<=sizeLine/\∀l,H l=none->Q (.ref l) (upd H l (.lst (sgn z)))):=by
 intro z9 s σ H xs us Q I rv h;obtain⟨z,rfl,hz,q⟩:=h;obtain⟨u,rfl,ru⟩:=vals1 rv;obtain⟨t,rfl⟩:=ru;refine bz (call_list_str (I.ok.hd hc) z t (fun h' tk acc' c' kp hS hi hle=>?_) hz);refine⟨.ref s.heap.objs.size,upd H s.heap.objs.size (.lst (sgn z)),I.laid kp (Qa _) ⟨by rw[yo];exact hz,acc'.toList,c',va hi,by simpa using hS⟩ (I.tkl' hle),rfl,q _ (I.hok.fresh (Qa _))⟩
theorem ObjOk.there{P:Program}{w:World}{H:Hp}{h:Heap}{a:Addr}{o:HO}(x:ObjOk P w H h a o):∃ob,h.get? a=some ob:=by
 cases o with
 |lst xs=>obtain⟨_,_,_,_,e⟩:=x;exact⟨_,e⟩
 |tup xs=>obtain⟨_,_,_,o,e,_⟩:=x;exact⟨_,e⟩
 |dK zX=>obtain⟨_,_,_,_,o,_,_,e,_⟩:=x;exact⟨_,e⟩
 |dT ep zX=>obtain⟨_,_,_,_,_,o,_,e,_⟩:=x;exact⟨_,e⟩
 |set S n=>obtain⟨o,_,_,_,e,_⟩:=x;exact⟨_,e⟩
 |ins C dx fs=>obtain⟨_,_,_,e,_⟩:=x;exact⟨_,e⟩
 |own y=>exact x
 |xd fs=>obtain⟨_,⟨_,_,_,e,_⟩,_⟩:=x;exact⟨_,e⟩
 |rng lo hi=>obtain⟨_,_,_,e⟩:=x;exact⟨_,e⟩
 |frz ob u=>obtain⟨e,_⟩:=x;exact⟨_,e⟩
 |tbl ps=>exact⟨_,x⟩
 |met f y=>exact⟨_,x⟩
 |ext φ=>obtain⟨_,e,_⟩:=x;exact e
def Inv.laid2{z9:List (Addr×Obj)}{σ:St}{H:Hp}{s:Shared}{h':Heap}{a:Addr}{o:HO}{t':Nat}(I:Inv X z9 σ H s)(k:∀b u,s.heap.get? b=some u->h'.get? b=some u)(hne:∀b u,s.heap.get? b=some u->b≠a)(hn:H a=none)(new:ObjOk X.prog X.w (upd H a o) h' a o)(ht:0<t':=by first|assumption|exact Qh _|exact Inv.tk (by assumption)|exact Inv.tkl (by assumption) (by assumption)|lia) :
  Inv X z9 σ (upd H a o) { s with heap:=h',toks:=t' }:=by
 refine I.un ⟨fun b u e _ _ _=>k b u e,fun b u e _ _ _=>⟨u.slots,k b u e⟩,fun b u e n _=>by rw[aC (hne b u e)];exact n,fun b u e _=>⟨u,k b u e⟩,fun b xs e=>by rw[aC (bo e hn)];exact e,fun b u v e=>by rw[aC (bo e hn)];exact e,fun b ps e=>⟨#[],by rw[aC (bo e hn),e];simp⟩⟩ ?_
 intro b u e;by_cases hb:b=a
 ·subst hb;rw[aQ]at e;cases e;exact new
 ·rw[aC hb]at e;exact(I.hok b u e).stay (fun c v _ q=>k c v q) (fun c q=>by rw[aC (bo q hn)];exact q) fun c xs q=>by rw[aC (bo q hn)];exact q
def o9(hc:X.calm=true):CallR X (.type "tuple") (fun xs H Q=>∃z:Str,xs=[.str z]/\z.cps.size<=sizeLine/\∀l,H l=none->Q (.ref l) (upd H l (.tup (sgn z)))):=by
 intro z9 s σ H xs us Q I rv h;obtain⟨z,rfl,hz,q⟩:=h;obtain⟨u,rfl,ru⟩:=vals1 rv;obtain⟨t,rfl⟩:=ru;refine bz (call_tuple_str (I.ok.hd hc) z t (fun h' tk acc kp hi hle=>?_) hz);have hne:∀b u,s.heap.get? b=some u->b≠h'.objs.size:=fun b u e z=>absurd (Ag (kp b u e)) (by rw[z];exact Wi _)
 have hn:H h'.objs.size=none:=by
  cases e:H h'.objs.size with
  |none=>rfl
  |some o=>
   obtain⟨ob,eo⟩:=(I.hok _ _ e).there;exact absurd rfl (hne _ _ eo)
 refine⟨.ref h'.objs.size,upd H h'.objs.size (.tup (sgn z)),I.laid2 (fun b u e=>Ab _ (kp b u e)) hne hn ⟨by rw[yo];exact hz,acc.toList,va hi,⟨_,Ae _ rfl,rfl,0,by simp⟩⟩ (I.tkl' hle),rfl,q _ hn⟩
def M9:SlR X (fun x lo hi H Q=>∃z:Str,x=.str z/\z.length<=sizeLine/\Q (.str (Txt.slice z lo hi)) H):=by
 intro z9 s σ H x v vl vu lo hi sl Q I rx hs pl pu h;obtain⟨z,rfl,hz,q⟩:=h;obtain⟨t,rfl⟩:=rx;refine⟨"str",_,F.slot_str_getitem.lookup,AW _ _ _,?_⟩;have fin:∀(o p:Option Int),lo=o->hi=p->∀t' k,s.toks<=k->EP X z9 σ Q (.str (Txt.slice z o p) t') { s with toks:=k }:=fun o p e1 e2 t' k hle=>⟨.str _,H,I.tok k (I.tkl' hle),⟨t',rfl⟩,by rw[<-e1,<-e2];exact q⟩
 refine bz ?_;cases pl with
 |none=>
  cases pu with|none=>exact A2 (l:=none) (u:=none) (st:=none) hs rfl (BY ⟨Xd (CG z _ _) hz,fun t' k=>fin _ _ rfl rfl t' k⟩)|int j uj=>exact A2 (l:=none) (u:=some (j,uj)) (st:=none) hs rfl (BY ⟨Xd (CG z _ _) hz,fun t' k=>fin _ _ rfl rfl t' k⟩)
 |int i ui=>
  cases pu with|none=>exact A2 (l:=some (i,ui)) (u:=none) (st:=none) hs rfl (BY ⟨Xd (CG z _ _) hz,fun t' k=>fin _ _ rfl rfl t' k⟩)|int j uj=>exact A2 (l:=some (i,ui)) (u:=some (j,uj)) (st:=none) hs rfl (BY ⟨Xd (CG z _ _) hz,fun t' k=>fin _ _ rfl rfl t' k⟩)
theorem nY{α:Type}:∀l:List α,(List.range l.length).filterMap (fun k=>l[k]?)=l
 |[]=>rfl
 | x::r=>by
  rw[Vc,Dr,Ym,Cv];show x::List.filterMap (fun k=>(x::r)[k+1]?) _=_;have e:(fun k=>(x::r)[k+1]?)=fun k=>r[k]?:=by funext k;simp
  rw[e,nY r]
theorem iO{α β:Type}{f g:α->Option β}:∀{l:List α},(∀a∈l,f a=g a)->l.filterMap f=l.filterMap g
 |[],_=>rfl
 | a::r,h=>by
  rw[Ym,Ym,h a Va,iO fun b hb=>h b (Wa _ hb)]
def Fh(its:List Value):slicePick its.toArray none none (some (-1))=its.reverse.toArray:=by
 unfold slicePick;have e:sliceBounds none none (some (-1)) its.toArray.size=((its.length:Int)-1,-1,-1):=by
  unfold sliceBounds;simp
 rw[e];have r:sliceRange ((its.length:Int)-1) (-1) (-1)=(List.range its.length).map fun k=>its.length-1-k:=by
  unfold sliceRange;have hc:(if (-1:Int) > 0 then(if ((its.length:Int)-1) < -1 then(-1-((its.length:Int)-1)+-1-1) / -1 else 0) else(if ((its.length:Int)-1) > -1 then(((its.length:Int)-1) - -1 - -1-1) / (- -1) else 0))=(its.length:Int):=by
   rw[Ah (by decide)]
   rw[show(- -1:Int)=1 from rfl,Du];split<;>lia
  simp only[hc,Wl];refine Ye fun k hk=>?_;have:=Vi.mp hk;lia
 show((sliceRange ((its.length:Int)-1) (-1) (-1)).filterMap fun i=>its.toArray[i]?).toArray=_;rw[r,Cv];congr 1;refine Eq.trans (iO (g:=fun k=>its.reverse[k]?) fun k hk=>?_) ?_
 ·have hk':=Vi.mp hk;show its.toArray[its.length-1-k]?=_;rw[B4 hk'];simp
 ·have:=nY its.reverse;rw[Zi]at this;exact this
def LD(K:W.Frag)(te:TE):TE:=fun σ H Q=>te σ H fun x H1=>∃a xs,x=.ref a/\ii K H1 a xs/\∀p,H1 p=none->Q (.ref p) (upd H1 p (.lst xs.reverse))
def Na{e:Expr}{te:TE}{j:Nat}{p1 p2 p3 pos:Pos}(he:PE X e te):PE X (.Subscript e (.Slice none none (some (.UnaryOp .USub (.Constant (.int 1) j p1) p2)) p3) pos) (LD X.K te):=by
 intro z9 s σ H Q I h;refine Co (dq (he z9 s σ H _ I h) fun v s1 zz9=>?_);obtain⟨x,H1,I1,r1,q1⟩:=zz9;obtain⟨a,xs,rfl,hx,q⟩:=q1;cases r1;refine wpAny_Slice ?_;rw[Cg];refine Ac ?_;refine Ac ?_;rw[evalPart_some];refine UnaryOp_ (Cj (neg_int ?_));have I2:=I1.tok (s1.toks+1+1);have I4:=I2.kept (t':=s1.toks+1+1) (h':=s1.heap.push { cls:=.type "slice",data:=.fields #[.none,.none,.int (-1) (s1.toks+1)] }) fun b ob q=>Ab _ q;obtain⟨its,r,ht,hz⟩:=I4.list hx;have hlen:=r.length;refine tail_any (ops:=[.ref a,.ref s1.heap.objs.size]) ht.isList.typeIs slot_list_getitem.lookup ?_ (by with_unfolding_all rfl)
 refine wpAny_getItem_list_slice ht.isList (Heap.IsSliceOf.new ..) .none .none (.int (-1) _) (by simp) ?_ (by rw[Vb]<;>lia)
 rw[Fh];refine⟨.ref _,_,I4.laid (t':=s1.toks+1+1) (o:=.lst xs.reverse) (fun b ob q=>Ab _ q) (Qa _) ?_,rfl,q _ (I4.hok.fresh (Qa _))⟩;exact⟨by rw[Zi];exact hz,_,0,r.reverse,Ae _ rfl⟩
end
end L2
namespace L2
open PySem.Spec PyProof.Rows
structure Cal(P:Program)(w:World)(K:W.Frag)(mg:Str->Option Value)(base:Heap)(x:Str)(k:Nat)(ps:List Str)(sp:Sp):Prop where
 ex:∃f fd,FnOk P w K mg base u8 k f fd ps sp/\mg x=some (.ref f)/\W.keepIn K (.ref f)=true/\Binds K fd ps []
def DU(sp:Sp)(t:TA):TE:=fun σ H Q=>t σ H fun vs H1=>sp vs H1 Q E0
section
variable {X:Cx}
def aq(C:Cal X.prog X.w X.K X.mg X.base x k ps sp)(hr:Room k' X.A)(hg:Gl X x)(ha:PA X (e::es) t)(hk:k<=k':=by decide)
  (hdb:(x == ("__debug__":Str))=false:=by decide) (he:starEach (e::es) X.env=(false,eval e X.env)::starEach es X.env:=by rfl) (hpl:(backTo pos (starEach es X.env)).any (·.1)=false:=by rfl) :
  PE X (.Call (.Name x p) (e::es) [] pos) (DU sp t):=by
 obtain⟨f,fd,F,hm,hkp,hb⟩:=C.ex;intro z9 s σ H Q I h;refine yb F (hr.mono hk) hg hm hkp hb .nil LB ha hdb he hpl z9 s σ H Q I ?_;have e0:DU sp t=EY sp [] E0 t:=by
  funext σ H Q
  unfold DU EY;simp only[Ze]
 rw[e0]at h;exact h
def ky:Expr->Bool|.Starred ..=>false|_=>true
def gC(h:ky e=true):starEach (e::es) env=(false,eval e env)::starEach es env:=by
 cases e<;>first|rfl|cases h
def aj(ha:PE X e te)(hr:PA X es t)(h:ky e=true:=by rfl):PA X (e::es) (gH te t):=mQ ha hr (gC h)
def strsOf:List Expr->Option (List Str)|[]=>some []|.Constant (.str x) _ _::r=>(strsOf r).map (x::·)|_=>none
def LE(xs:List Str):TA:=fun _ H Q=>Q (xs.map V.str) H
theorem tN:∀{es:List Expr}{xs:List Str},strsOf es=some xs->PA X es (LE xs)
 | [],xs,h=>by
  have e:xs=[]:=(Option.some.inj h).symm;subst e;exact fun pos z9 s σ H Q I q=>ac pos z9 s σ H Q I q
 | e::r,xs,h=>by
  cases e with
  |Constant c j p=>
   cases c with
   |str x=>
    have h':(strsOf r).map (x::·)=some xs:=h;obtain⟨ys,h1,h2⟩:=Qe.mp h';subst h2;intro pos z9 s σ H Q I q;exact mQ (aW (x:=x)) (tN h1) (gC rfl) pos z9 s σ H Q I q
   |_=>cases h
  |_=>cases h
def Jg(hg:Gl X x)(hm:∃t,X.mg x=some (.str z t))(hd:(x == ("__debug__":Str))=false:=by decide):PE X (.Name x pos) (tC (.str z)):=by
 obtain⟨t,h⟩:=hm;exact xW hg h ⟨t,rfl⟩ hd
def Jh(hg:Gl X x)(hm:∃t,X.mg x=some (.int i t))(hd:(x == ("__debug__":Str))=false:=by decide):PE X (.Name x pos) (tC (.int i)):=by
 obtain⟨t,h⟩:=hm;exact xW hg h ⟨t,rfl⟩ hd
def aT(i:Nat){pos' pos:Pos}(hN:X.N.Nodup)(he:PE X e te)(hi:X.N[i]?=some x:=by rfl)(hx:Loc X.env.scope x:=by first|exact Or.inl rfl|exact Or.inr rfl)(hf:X.fn x=true\/X.env.scope.names.lookup x=some .local:=by first|exact .inl rfl|exact .inr rfl|assumption)
  (hs:swapsWithSole [.Name x pos'] e pos.line X.env=pure false:=by rfl) (hw:swappedStores [.Name x pos'] e X.env=pure none:=by rfl) (h1:(assignEach [.Name x pos'] X.env).map (·.2)=[assign (.Name x pos') X.env]:=by rfl) :
  PS X (.Assign [.Name x pos'] e pos) (wK te (qg i)):=fW he (xX hN hi hx hf) hs hw h1
def bn(i:Nat)(hN:X.N.Nodup)(hi:X.N[i]?=some x:=by rfl)(hx:Loc X.env.scope x:=by first|exact Or.inl rfl|exact Or.inr rfl)(hf:X.fn x=true\/X.env.scope.names.lookup x=some .local:=by first|exact .inl rfl|exact .inr rfl|assumption):PG X (.Name x pos) (qg i):=xX hN hi hx hf
def tO(i:Nat){pos py spos:Pos}(S:BlkScope X N k zZ scope)(hc:X.calm=true)(hN:X.N.Nodup)(hi:PI X tg iter wi)
  (hg:∀C s H fp,PG (o7 X N scope C s H fp) tg g)(ht:∀C s H fp,Py (o7 X N scope C s H fp) ifs tc)(he:∀C s H fp,PE (o7 X N scope C s H fp) elt te)
  (hi':X.N[i]?=some y:=by rfl) (hy:Loc X.env.scope y:=by first|exact Or.inl rfl|exact Or.inr rfl)
  (hs:∀x,foldedSetIterable iter X.env x=pure x:=by intro _;rfl) (hsw:swapsWith (.ListComp elt [⟨tg,iter,ifs,0⟩] scope pos) (some (.Name y py)) spos.line X.env=pure true:=by rfl)
  (hf:X.fn y=true\/X.env.scope.names.lookup y=some .local:=by first|exact .inl rfl|exact .inr rfl|assumption) :
  PS X (.Assign [.Name y py] (.ListComp elt [⟨tg,iter,ifs,0⟩] scope pos) spos) (wK (sw k zZ wi g tc te) (qg i)):=Jf S hc hN hi' hy hi hg ht he hs hsw hf
end
def gJ:bootBuiltins "list"=some (.type "list"):=by decide +kernel
def kz:bootBuiltins "tuple"=some (.type "tuple"):=by decide +kernel
def fA:bootBuiltins "str"=some (.type "str"):=by decide +kernel
def sx:bootBuiltins "int"=some (.type "int"):=by decide +kernel
def jl:bootBuiltins "bool"=some (.type "bool"):=by decide +kernel
def Nb{K:W.Frag}{T S:String}{b:Bool}(h:(if (Value.type T == Value.type S)=true then some true else if W.kitMeta S=true then(fastBuiltinMro T).map (·.contains (Value.type S)) else none)=some b):W.kitOne K (.type T) (.type S)=some b:=h
def boot_isinstance:bootBuiltins "isinstance"=some (.builtin "isinstance"):=by decide +kernel
def boot_all:bootBuiltins "all"=some (.builtin "all"):=by decide +kernel
def LF(osc:Scope)(ON N:List Str)(k:Nat)(zZ:List Nat)(scope:Scope):Bool :=
 decide (scope.kind=.function)&&scope.names.all (fun y=>decide (y.2≠.cell))&&scope.names.all (fun y=>decide (y.2=.local->scope.names.lookup y.1=some .local)) &&
 scope.names.all (fun y=>decide (y.2=.free->(osc.names.lookup y.1=some .cell\/osc.names.lookup y.1=some .free)))&&decide (N.length=k+zZ.length) &&
 (List.range zZ.length).all fun j=>match zZ[j]?,N[k+j]? with|some i,some x=>decide (ON[i]?=some x)&&decide (scope.names.lookup x=some .free)|_,_=>false
def cx{X:Cx}(h:LF osc ON N k zZ scope=true)(ho:X.env.scope=osc)(hN:X.N=ON):BlkScope X N k zZ scope:=by
 unfold LF at h;simp only[Wf,decide_eq_true_eq,Yh]at h;obtain⟨⟨⟨⟨⟨h1,h2⟩,h3⟩,h4⟩,h5⟩,h6⟩:=h;refine⟨h1,h2,h3,fun y hy hf=>?_,h5,fun j i hj=>?_⟩
 ·show X.env.scope.names.lookup y.1=_\/X.env.scope.names.lookup y.1=_;rw[ho];exact h4 y hy hf
 ·have hlt:j<zZ.length:=(Yd.mp hj).1;have q:=h6 j (Vi.mpr hlt);rw[hj]at q;cases e:N[k+j]? with
  |none=>rw[e]at q;cases q
  |some x=>
   rw[e]at q;have q':(decide (ON[i]?=some x)&&decide (scope.names.lookup x=some .free))=true:=q;simp only[Wf,decide_eq_true_eq]at q';exact⟨x,rfl,by rw[hN];exact q'.1,q'.2⟩
def aY(h:H p=none)(o:HO):Same H (upd H p o):=fun b u q=>by rw[aC (bo q h)];exact q
def at_0:ki (x::r) 0=some x:=mR (j:=0) rfl
def wS{xs:List α}{i:Int}(h0:0<=i)(h1:i<xs.length):∃v,ki xs i=some v/\v∈xs/\xs[i.toNat]?=some v:=by
 have hk:i.toNat<xs.length:=by lia
 have ek:i=((i.toNat:Nat):Int):=by lia
 refine⟨xs[i.toNat],?_,AQ hk,Ya hk⟩;have q:ki xs ((i.toNat:Nat):Int)=some xs[i.toNat]:=mR (Ya hk);rw[<-ek]at q;exact q
end L2
namespace L2
open PySem.Spec PyProof.Rows
section
variable {X:Cx}
def rQ:Px X "str.startswith" (fun x vs H Q=>∃(a b:Str),x=.str a/\vs=[.str b]/\Q (.bl (Txt.startswith a b)) H):=by
 intro z9 s σ H x vs v us Q I rx rv h;obtain⟨a,b,rfl,rfl,q⟩:=h;obtain⟨t,rfl⟩:=rx;obtain⟨u,rfl,ru⟩:=vals1 rv;obtain⟨t',rfl⟩:=ru;exact SC.startswith ⟨.bl _,H,I,rfl,q⟩
def mulOk_of{x:Str}{n:Int}(h0:0<=n)(hn:n<=1000)(hx:x.length<=1000):MulOk x n:=by
 have hx':(x.length:Int)<=1000:=by lia
 have hm:(x.length:Int)*n<=1000*1000:=Int.mul_le_mul hx' hn h0 (by decide)
 have hm2:x.length*n.toNat<=1000*1000:=Nat.mul_le_mul hx (by lia)
 refine⟨?_,fun h1 _=>?_,fun h1 h2=>?_⟩
 ·rw[Ad (by lia),Ad (by lia)];rfl
 ·have:(x.length:Int)<=(2 ^ 63-1) / n:=(Int.le_ediv_iff_mul_le (by lia)).mpr (Int.le_trans hm (by decide))
  lia
 ·unfold Builtin.Str.tooLong;have:=DR (Qa 1000);exact Ad (by rw[Bi];lia)
def wT:OpR X (binaryOp .Mult) (fun x y H Q=>∃(a:Str)(n:Int),x=.str a/\y=.int n/\MulOk a n/\Q (.str (Txt.mul a n)) H):=by
 intro z9 s σ H x y v u Q I rx ry h;obtain⟨a,n,rfl,rfl,hok,q⟩:=h;obtain⟨t,rfl⟩:=rx;obtain⟨t',rfl⟩:=ry;exact bz (SB.mul hok fun t2 k hle=>⟨.str _,H,I.tok k (I.tkl' hle),⟨t2,rfl⟩,q⟩)
theorem Nc(hu:X.A.units<cLine):OpR X (compareOp .NotEq) (fun x y H Q=>∃(a b:Addr)(xs:List V),x=.ref a/\y=.ref b/\ii X.K H a xs/\ii X.K H b []/\Q (.bl (!xs.isEmpty)) H):=by
 intro z9 s σ H x y v u Q I rx ry h;obtain⟨a,b,xs,rfl,rfl,ha,hb,q⟩:=h;cases rx;cases ry;obtain⟨its,r,pl,_⟩:=I.list ha;obtain⟨its2,r2,pl2,_⟩:=I.list hb;cases r2;cases xs with
 |nil=>
  cases r;exact SeqAt.RcNeAt.lists (e:=fun _=>true) pl.isList pl2.isList rfl hu (fun j h1 _=>absurd h1 (by simp)) _ _ _ _ ⟨.bl _,H,I,rfl,q⟩
 |cons x1 xr=>
  cases r;exact C9 pl.isList pl2.isList (by simp) hu _ _ _ _ ⟨.bl _,H,I,rfl,q⟩
end
def Ji{X:Cx}{K:W.Frag}(h:X.K=K):IxR X (SQ K):=h ▸ MZ
structure FunD(K:W.Frag)(x zY:Str)(st:Stmt)(ds:List Value)(f:Addr)(fd:FuncData):Prop where
 ex:∃(oc:Value)(od:Option Addr)(T:Addr)(oT:Obj)(nT:Nat)(kV doc pm:Value)(an:Option Addr)(cdv ct:Value)(osl:Array (Option Value)),
  fd=W.fnOf x zY (fI st) (dJ st) (ai st) (.ref T) kV doc pm an cdv ct/\K.lookup f=some ⟨oc,od,.func fd,osl⟩/\W.codeIn K cdv zY=true/\K.lookup T=some oT/\oT.data=.seq ds.toArray nT
 kp:W.keepIn K (.ref f)=true
structure CalD(P:Program)(w:World)(K:W.Frag)(mg:Str->Option Value)(base:Heap)(x:Str)(k:Nat)(ps:List Str)(dvs:List V)(sp:Sp):Prop where
 ex:∃f fd ds,FnOk P w K mg base u8 k f fd ps sp/\mg x=some (.ref f)/\W.keepIn K (.ref f)=true/\Binds K fd ps ds/\Vals dvs ds
def LG(sp:Sp)(dvs:List V)(t:TA):TE:=fun σ H Q=>t σ H fun vs H1=>sp (vs++dvs) H1 Q E0
section
variable {P:Program}{w:World}{K:W.Frag}{mg:Str->Option Value}{base:Heap}
def FunD.ok{x zY:Str}{st:Stmt}{ds:List Value}{f:Addr}{fd:FuncData}{N ps:List Str}{k:Nat}{sp:Sp}(F:FunD K x zY st ds f fd)(S:FnScope N ps (ai st))(len:∀vs H Q E,sp vs H Q E->vs.length=ps.length)
  (hbody:∀(cdv:Value)(A:Around)(outer:List Env)(s:Shared)(H:Hp)(vs:List V)(Q:VK)(E:XK),Room k (A.deeper (envOfC zY (ai st) s.heap.objs.size f cdv))->sp vs H Q E->
   ∃t,PSs (uY u8 P w K mg base N zY (ai st) f cdv A outer s H E).nox (dJ st) t/\t { nx:=fun _ H'=>Q .non H',rt:=Q } (start N vs) H):FnOk P w K mg base u8 (k+1) f fd ps sp:=by
 obtain⟨oc,od,T,oT,nT,kV,doc,pm,an,cdv,ct,osl,rfl,lk,hcd,_,_⟩:=F.ex;refine Lu lk hcd S len fun A outer s H vs Q E hr hsp=>?_;obtain⟨t,h,q⟩:=hbody cdv A outer s H vs Q E hr hsp;exact⟨t,h.nox,q⟩
def FunD.binds{x zY:Str}{st:Stmt}{ds:List Value}{f:Addr}{fd:FuncData}{ps:List Str}(F:FunD K x zY st ds f fd)
  (h:∀(T:Addr)(kV doc pm:Value)(an:Option Addr)(cdv ct:Value)(us:List Value),(us++ds).length=ps.length->
   ∃k:Option (Array Value)->Sem (List (Str×Value)),bindArgs (W.fnOf x zY (fI st) (dJ st) (ai st) (.ref T) kV doc pm an cdv ct) ⟨us,[]⟩=seqItems? (.ref T) >>= k/\k (some ds.toArray)=pure (ps.zip (us++ds))):Binds K fd ps ds:=by
 obtain⟨oc,od,T,oT,nT,kV,doc,pm,an,cdv,ct,osl,rfl,lk,hcd,hT,hS⟩:=F.ex;intro s us hK hl;obtain⟨k,h1,h2⟩:=h T kV doc pm an cdv ct us hl;exact BindsTo.of_defaults (T:=T) rfl (hK T oT hT) hS h1 h2
end
def yp{X:Cx}{x:Str}{k k':Nat}{ps:List Str}{dvs:List V}{sp:Sp}{e:Expr}{es:List Expr}{t:TA}{p pos:Pos}(C:CalD X.prog X.w X.K X.mg X.base x k ps dvs sp)(hr:Room k' X.A)(hg:Gl X x)(ha:PA X (e::es) t)(hk:k<=k':=by decide)
  (hdb:(x == ("__debug__":Str))=false:=by decide) (he:starEach (e::es) X.env=(false,eval e X.env)::starEach es X.env:=by rfl) (hpl:(backTo pos (starEach es X.env)).any (·.1)=false:=by rfl) :
  PE X (.Call (.Name x p) (e::es) [] pos) (LG sp dvs t):=by
 obtain⟨f,fd,ds,F,hm,hkp,hb,hv⟩:=C.ex;intro z9 s σ H Q I h;exact yb F (hr.mono hk) hg hm hkp hb hv LB ha hdb he hpl z9 s σ H Q I h
theorem vb{α:Type}[DecidableEq α]:∀(l m:List α),l.Nodup->(∀x∈l,x∈m)->l.length<=m.length
 |[],_,_,_=>Xi _
 | a::l,m,h,hs=>by
  have hm:a∈m:=hs a Va;have h1:=Zh.mp h;have ih:=vb l (m.erase a) h1.2 fun x hx=>by
   have hne:x≠a:=fun e=>h1.1 (e ▸ hx);exact(List.mem_erase_of_ne hne).mpr (hs x (Wa _ hx))
  have hl:=List.length_erase_of_mem hm;have hp:0<m.length:=List.length_pos_of_mem hm;rw[Vc];lia
end L2
namespace VF
open L2
abbrev AS:=Addr->Prop
def dD{α β γ:Type}{o:Option (α×β)}{f:α×β->Option γ}{z:γ}{P:Prop}(h:o.bind f=some z)(k:∀a b,o=some (a,b)->f (a,b)=some z->P):P:=by
 obtain⟨⟨a,b⟩,e,h⟩:=Zm.mp h;exact k a b e h
def bO{α γ:Type}{o:Option α}{f:α->Option γ}{z:γ}{P:Prop}(h:o.bind f=some z)(k:∀a,o=some a->f a=some z->P):P:=by
 obtain⟨a,e,h⟩:=Zm.mp h;exact k a e h
def aH{i:Decidable c}(h:(if c then x else none)=some z):c/\x=some z:=by simp_all
abbrev U(O Z:AS):AS:=fun p=>O p\/Z p
abbrev ins(p:Addr)(O:AS):AS:=fun b=>b=p\/O b
inductive D where
 | non|bl (b:Bool)|int (i:Int)|str (x:Str)|tup (ds:List D)|lst (ds:List D)|fl (ds:List D)|ty (n:String)|dk (zX:List (Key×D))|dt (zX:List (List Key×D))
def TupA(K:W.Frag)(Y:AS)(H:Hp)(a:Addr)(vs:List V):Prop:=(H a=some (.tup vs)/\¬ Y a)\/∀H',kl K H' a vs
def LstA(K:W.Frag)(Y:AS)(H:Hp)(a:Addr)(vs:List V):Prop:=(Rd H a (.lst vs)/\¬ Y a)\/∀H',ii K H' a vs
def TupA.sq(h:TupA K Y H a vs):kl K H a vs:=by
 rcases h with h|h
 ·exact .inl (.inl h.1)
 ·exact h H
def LstA.sq(h:LstA K Y H a vs):ii K H a vs:=by
 rcases h with h|h
 ·exact .inl h.1
 ·exact h H
def KA(Y:AS)(H:Hp)(as:List Addr):Prop:=∀b∈as,¬ Y b/\H b≠none
theorem KA.go(h:KA Y H as)(k:∀b o,H b=some o->¬ Y b->H' b=some o)(n:∀b,Y' b->Y b\/H b=none):KA Y' H' as:=fun b hb=>by
 obtain⟨h1,h2⟩:=h b hb;refine⟨fun z=>(n b z).elim h1 h2,?_⟩;cases e:H b with|none=>exact absurd e h2|some o=>rw[k b o e h1];simp
def KA.less(h:KA Y H as)(n:∀b,Y' b->Y b):KA Y' H as:=fun b hb=>⟨fun z=>(h b hb).1 (n b z),(h b hb).2⟩
inductive DA(K:W.Frag)(Y:AS)(H:Hp):V->D->Prop where
 | non:DA K Y H .non .non
 | bl (b:Bool):DA K Y H (.bl b) (.bl b)
 | int (i:Int):DA K Y H (.int i) (.int i)
 | str (x:Str):DA K Y H (.str x) (.str x)
 | tup {a:Addr} {vs:List V} {ds:List D}:TupA K Y H a vs->vs.length=ds.length->(∀(i:Nat) v d,vs[i]?=some v->ds[i]?=some d->DA K Y H v d)->DA K Y H (.ref a) (.tup ds)
 | ty (n:String):DA K Y H (.ty n) (.ty n)
 | lst {a:Addr} {vs:List V} {ds:List D}:¬ Y a->H a=some (.lst vs)->vs.length=ds.length->(∀(i:Nat) v d,vs[i]?=some v->ds[i]?=some d->DA K Y H v d)->DA K Y H (.ref a) (.lst ds)
 | fl {a:Addr} {vs:List V} {ds:List D}:LstA K Y H a vs->vs.length=ds.length->(∀(i:Nat) v d,vs[i]?=some v->ds[i]?=some d->DA K Y H v d)->DA K Y H (.ref a) (.fl ds)
 | dk {a:Addr} {zX:List (Key×V)} {ds:List (Key×D)}:¬ Y a->H a=some (.dK zX)->zX.map (·.1)=ds.map (·.1)->(∀(i:Nat) v d,zX[i]?=some v->ds[i]?=some d->DA K Y H v.2 d.2)->DA K Y H (.ref a) (.dk ds)
 | dt {a:Addr} {ep:Nat×List Addr} {zX:List (List Key×V)} {ds:List (List Key×D)}:¬ Y a->KA Y H ep.2->H a=some (.dT ep zX)->zX.map (·.1)=ds.map (·.1)->(∀(i:Nat) v d,zX[i]?=some v->ds[i]?=some d->DA K Y H v.2 d.2)->DA K Y H (.ref a) (.dt ds)
def El(K:W.Frag)(Y:AS)(H:Hp)(vs:List V)(ds:List D):Prop:=vs.length=ds.length/\∀(i:Nat) v d,vs[i]?=some v->ds[i]?=some d->DA K Y H v d
def Lv(H:Hp)(p:Addr):Prop:=H p≠none/\∀vs,H p≠some (.tup vs)
theorem Lv.same(h:Lv H p)(s:∀o,H p=some o->H' p=some o):Lv H' p:=by
 cases e:H p with
 |none=>exact absurd e h.1
 |some o=>
  refine⟨by rw[s o e];simp,fun vs z=>h.2 vs ?_⟩
  rw[s o e]at z;rw[e];exact z
structure Ext(O:AS)(H:Hp)(O':AS)(H':Hp):Prop where
 kp:∀b o,H b=some o->¬ O b->H' b=some o
 nw:∀b,O' b->O b\/H b=none
 al:∀b,H b≠none->H' b≠none
 lv:∀b,Lv H b->Lv H' b
section
variable {K:W.Frag}{Y Y' O O' O1 O2 Z:AS}{H H' H1 H2:Hp}{v:V}{d:D}{vs:List V}{ds:List D}{a p:Addr}
def Ext.refl(O:AS)(H:Hp):Ext O H O H:=⟨fun _ _ h _=>h,fun _ h=>.inl h,fun _ h=>h,fun _ h=>h⟩
def Ext.trans(a:Ext O H O1 H1)(b:Ext O1 H1 O2 H2):Ext O H O2 H2:=by
 refine⟨fun c o h n=>b.kp c o (a.kp c o h n) fun z=>?_,fun c h=>?_,fun c h=>b.al c (a.al c h),fun c h=>b.lv c (a.lv c h)⟩
 ·rcases a.nw c z with q|q
  ·exact n q
  ·rw[h]at q;cases q
 ·rcases b.nw c h with q|q
  ·exact a.nw c q
  ·right;cases e:H c with|none=>rfl|some o=>exact absurd q (a.al c (by rw[e];simp))
theorem Same.ext(h:Same H H'):Ext O H O H':=⟨fun b o e _=>h b o e,fun _ z=>.inl z,fun b z=>by
 cases e:H b with|none=>exact absurd e z|some o=>rw[h b o e];simp,fun b z=>z.same fun o e=>h b o e⟩
def Rd.keep(r:Rd H a u)(k:∀o,H a=some o->H' a=some o):Rd H' a u:=by
 rcases r with r|⟨o,r⟩
 ·exact .inl (k _ r)
 ·exact .inr ⟨o,k _ r⟩
def Rd.live(r:Rd H a u):H a≠none:=by
 rcases r with r|⟨o,r⟩<;>(rw[r];simp)
def TupA.go(h:TupA K Y H a vs)(k:∀b o,H b=some o->¬ Y b->H' b=some o)(n:∀b,Y' b->Y b\/H b=none):TupA K Y' H' a vs:=by grind [TupA]
def LstA.go(h:LstA K Y H a vs)(k:∀b o,H b=some o->¬ Y b->H' b=some o)(n:∀b,Y' b->Y b\/H b=none):LstA K Y' H' a vs:=by
 rcases h with⟨h1,h2⟩|h
 ·refine .inl ⟨Rd.keep h1 fun o e=>k a o e h2,fun z=>?_⟩;rcases n a z with q|q
  ·exact h2 q
  ·exact Rd.live h1 q
 ·exact .inr h
theorem DA.go(h:DA K Y H v d)(k:∀b o,H b=some o->¬ Y b->H' b=some o)(n:∀b,Y' b->Y b\/H b=none):DA K Y' H' v d:=by
 have no:∀a u,H a=some u->¬ Y a->¬ Y' a:=fun a u e ny z=>by
  rcases n a z with q|q
  ·exact ny q
  ·rw[e]at q;cases q
 induction h with|non=>exact .non|bl b=>exact .bl b|int i=>exact .int i|str x=>exact .str x|tup h1 h2 _ ih=>exact .tup (h1.go k n) h2 ih|ty n=>exact .ty n|lst h0 h1 h2 _ ih=>exact .lst (no _ _ h1 h0) (k _ _ h1 h0) h2 ih|fl h1 h2 _ ih=>exact .fl (h1.go k n) h2 ih|dk h0 h1 h2 _ ih=>exact .dk (no _ _ h1 h0) (k _ _ h1 h0) h2 ih|dt h0 ka h1 h2 _ ih=>exact .dt (no _ _ h1 h0) (ka.go k n) (k _ _ h1 h0) h2 ih
def DA.ext(h:DA K (U O Z) H v d)(e:Ext O H O' H'):DA K (U O' Z) H' v d :=
 h.go (fun b o q n=>e.kp b o q fun z=>n (.inl z)) fun b z=>z.elim (fun q=>(e.nw b q).elim (fun x=>.inl (.inl x)) .inr) fun q=>.inl (.inr q)
def DA.less(h:DA K Y H v d)(n:∀b,Y' b->Y b):DA K Y' H v d:=h.go (fun _ _ e _=>e) fun b z=>.inl (n b z)
def DA.same(h:DA K Y H v d)(s:Same H H'):DA K Y H' v d:=h.go (fun b o e _=>s b o e) fun _ z=>.inl z
def DA.away(h:DA K Y H v d)(s:Same H H')(hp:H p=none):DA K (ins p Y) H' v d:=h.go (fun b o e _=>s b o e) fun b z=>z.elim (fun q=>.inr (q ▸ hp)) .inl
theorem El.go(h:El K Y H vs ds)(k:∀b o,H b=some o->¬ Y b->H' b=some o)(n:∀b,Y' b->Y b\/H b=none):El K Y' H' vs ds:=⟨h.1,fun i v d a b=>(h.2 i v d a b).go k n⟩
theorem El.ext(h:El K (U O Z) H vs ds)(e:Ext O H O' H'):El K (U O' Z) H' vs ds:=⟨h.1,fun i v d a b=>(h.2 i v d a b).ext e⟩
theorem El.less(h:El K Y H vs ds)(n:∀b,Y' b->Y b):El K Y' H vs ds:=⟨h.1,fun i v d a b=>(h.2 i v d a b).less n⟩
theorem El.same(h:El K Y H vs ds)(s:Same H H'):El K Y H' vs ds:=⟨h.1,fun i v d a b=>(h.2 i v d a b).same s⟩
theorem El.away(h:El K Y H vs ds)(s:Same H H')(hp:H p=none):El K (ins p Y) H' vs ds:=⟨h.1,fun i v d a b=>(h.2 i v d a b).away s hp⟩
def El.nil:El K Y H [] []:=⟨rfl,fun i v d h=>by simp at h⟩
def El.cons(h:DA K Y H v d)(r:El K Y H vs ds):El K Y H (v::vs) (d::ds):=by grind [El]
theorem El.uncons(h:El K Y H vs (d::ds)):∃v r,vs=v::r/\DA K Y H v d/\El K Y H r ds:=by
 cases vs with
 |nil=>have:=h.1;simp at this
 |cons v r=>
  refine⟨v,r,rfl,h.2 0 v d rfl rfl,?_,fun i v' d' h1 h2=>h.2 (i+1) v' d' (by simpa using h1) (by simpa using h2)⟩
  have:=h.1;simpa using this
def El.unnil(h:El K Y H vs []):vs=[]:=by
 have:=h.1;simpa using this
def El.app(h:El K Y H vs ds)(r:El K Y H ws es):El K Y H (vs++ws) (ds++es):=by grind [El]
def El.at(h:El K Y H vs ds){i:Nat}{d:D}(e:ds[i]?=some d):∃v,vs[i]?=some v/\DA K Y H v d:=by
 have hi:i<ds.length:=(Yd.mp e).1;have hv:i<vs.length:=by rw[h.1];exact hi
 exact⟨vs[i],Ya hv,h.2 i _ d (Ya hv) e⟩
def El.one(h:DA K Y H v d):El K Y H [v] [d]:=El.cons h El.nil
def El.rev(h:El K Y H vs ds):El K Y H vs.reverse ds.reverse:=by grind [El]
theorem El.take(h:El K Y H vs ds)(n:Nat):El K Y H (vs.take n) (ds.take n):=by grind [El]
theorem El.drop(h:El K Y H vs ds)(n:Nat):El K Y H (vs.drop n) (ds.drop n):=by
 refine⟨by simp[h.1],fun i v d h1 h2=>?_⟩
 rw[Zj]at h1 h2;exact h.2 _ v d h1 h2
theorem El.set(h:El K Y H vs ds)(hv:DA K Y H v d)(j:Nat):El K Y H (vs.set j v) (ds.set j d):=by grind [El]
def El.erase(h:El K Y H vs ds)(j:Nat):El K Y H (vs.eraseIdx j) (ds.eraseIdx j):=by grind [El]
def OA(K:W.Frag)(Y:AS)(H:Hp)(p:Addr):D->Prop|.lst ds=>∃vs,H p=some (.lst vs)/\El K Y H vs ds|.dk ds=>∃zX,H p=some (.dK zX)/\zX.map (·.1)=ds.map (·.1)/\∀(i:Nat) v d,zX[i]?=some v->ds[i]?=some d->DA K Y H v.2 d.2|.dt ds=>∃ep zX,KA Y H ep.2/\H p=some (.dT ep zX)/\zX.map (·.1)=ds.map (·.1)/\∀(i:Nat) v d,zX[i]?=some v->ds[i]?=some d->DA K Y H v.2 d.2|_=>False
theorem OA.live(h:OA K Y H p d):H p≠none:=by
 cases d with
 |lst ds=>obtain⟨vs,e,_⟩:=h;rw[e];simp
 |dk ds=>obtain⟨vs,e,_⟩:=h;rw[e];simp
 |dt ds=>obtain⟨_,vs,_,e,_⟩:=h;rw[e];simp
 |_=>exact h.elim
theorem OA.lv(h:OA K Y H p d):Lv H p:=by
 cases d with
 |lst ds=>obtain⟨vs,e,_⟩:=h;exact⟨by rw[e];simp,fun _ z=>by rw[e]at z;cases z⟩
 |dk ds=>obtain⟨vs,e,_⟩:=h;exact⟨by rw[e];simp,fun _ z=>by rw[e]at z;cases z⟩
 |dt ds=>obtain⟨_,vs,_,e,_⟩:=h;exact⟨by rw[e];simp,fun _ z=>by rw[e]at z;cases z⟩
 |_=>exact h.elim
theorem OA.go(h:OA K Y H p d)(hp:H' p=H p)(k:∀b o,H b=some o->¬ Y b->H' b=some o)(n:∀b,Y' b->Y b\/H b=none):OA K Y' H' p d:=by
 cases d with
 |lst ds=>obtain⟨vs,e,q⟩:=h;exact⟨vs,hp.trans e,q.go k n⟩
 |dk ds=>obtain⟨vs,e,q1,q2⟩:=h;exact⟨vs,hp.trans e,q1,fun i v d a b=>(q2 i v d a b).go k n⟩
 |dt ds=>obtain⟨ep,vs,ka,e,q1,q2⟩:=h;exact⟨ep,vs,ka.go k n,hp.trans e,q1,fun i v d a b=>(q2 i v d a b).go k n⟩
 |_=>exact h.elim
theorem OA.da(h:OA K Y H p d)(hp:¬ Y' p)(n:∀b,Y' b->Y b):DA K Y' H (.ref p) d:=by
 cases d with
 |lst ds=>obtain⟨vs,e,q⟩:=h;exact .lst hp e q.1 (q.less n).2
 |dk ds=>obtain⟨vs,e,q1,q2⟩:=h;exact .dk hp e q1 fun i v d a b=>(q2 i v d a b).less n
 |dt ds=>obtain⟨ep,vs,ka,e,q1,q2⟩:=h;exact .dt hp (ka.less n) e q1 fun i v d a b=>(q2 i v d a b).less n
 |_=>exact h.elim
def BA(K:W.Frag)(Y:AS)(H:Hp)(v:V):D->Prop|.non=>v=.non|.bl b=>v=.bl b|.int i=>v=.int i|.str x=>v=.str x|.tup ds=>∃a vs,v=.ref a/\TupA K Y H a vs/\El K Y H vs ds|.ty n=>v=.ty n|.lst ds=>∃a vs,v=.ref a/\H a=some (.lst vs)/\El K Y H vs ds|.fl ds=>∃a vs,v=.ref a/\LstA K Y H a vs/\El K Y H vs ds|.dk ds=>∃a zX,v=.ref a/\H a=some (.dK zX)/\zX.map (·.1)=ds.map (·.1)/\∀(i:Nat) v d,zX[i]?=some v->ds[i]?=some d->DA K Y H v.2 d.2|.dt ds=>∃a ep zX,v=.ref a/\KA Y H ep.2/\H a=some (.dT ep zX)/\zX.map (·.1)=ds.map (·.1)/\∀(i:Nat) v d,zX[i]?=some v->ds[i]?=some d->DA K Y H v.2 d.2
theorem DA.ba(h:DA K Y H v d):BA K Y H v d:=by
 cases h with|non=>rfl|bl b=>rfl|int i=>rfl|str x=>rfl|tup h1 h2 h3=>exact⟨_,_,rfl,h1,h2,h3⟩|ty n=>rfl|lst h0 h1 h2 h3=>exact⟨_,_,rfl,h1,h2,h3⟩|fl h1 h2 h3=>exact⟨_,_,rfl,h1,h2,h3⟩|dk h0 h1 h2 h3=>exact⟨_,_,rfl,h1,h2,h3⟩|dt h0 ka h1 h2 h3=>exact⟨_,_,_,rfl,ka,h1,h2,h3⟩
theorem OA.ba(h:OA K Y H p d):BA K Y H (.ref p) d:=by
 cases d with
 |lst ds=>obtain⟨vs,e,q⟩:=h;exact⟨p,vs,rfl,e,q⟩
 |dk ds=>obtain⟨vs,e,q1,q2⟩:=h;exact⟨p,vs,rfl,e,q1,q2⟩
 |dt ds=>obtain⟨ep,vs,ka,e,q1,q2⟩:=h;exact⟨p,ep,vs,rfl,ka,e,q1,q2⟩
 |_=>exact h.elim
end
end VF
namespace VF
open L2
inductive Sl where
 | e|v (d:D)|o (d:D)|io (d:D)
abbrev En:=List Sl
def Sl.get:Sl->Option D|.e=>none|.v d=>some d|.o d=>some d|.io d=>some d
def Sl.ow:Sl->Option D|.o d=>some d|.io d=>some d|_=>none
def Sl.put(y:D):Sl->Sl|.io _=>.io y|_=>.o y
def Sl.put_ow(y:D)(s:Sl):(s.put y).ow=some y:=by cases s<;>rfl
def Sl.put_v(y z:D)(s:Sl):s.put y≠.v z:=by cases s<;>(intro e;cases e)
inductive Rs where
 | d (x:D)|f (x:D)|s (i:Nat)
structure ER(K:W.Frag)(st:En)(σ:St)(H:Hp)(O Z:AS):Prop where
 len:st.length=σ.length
 val:∀(i:Nat) d,st[i]?=some (.v d)->∃v,σ[i]?=some (some v)/\DA K (U O Z) H v d
 own:∀(i:Nat) s d,st[i]?=some s->s.ow=some d->∃p,σ[i]?=some (some (.ref p))/\O p/\OA K (U O Z) H p d
 uni:∀(i j:Nat) s t d d' p,st[i]?=some s->s.ow=some d->st[j]?=some t->t.ow=some d'->σ[i]?=some (some (.ref p))->σ[j]?=some (some (.ref p))->i=j
 dis:∀p,O p->¬ Z p
 liv:∀p,U O Z p->Lv H p
structure Kp(st zW:En):Prop where
 len:zW.length=st.length
 has:∀(i:Nat) s,st[i]?=some s->s.get≠none->∃s',zW[i]?=some s'/\s'.get≠none
 io:∀(i:Nat) d,st[i]?=some (.io d)->∃d',zW[i]?=some (.io d')
def Kp.refl(st:En):Kp st st:=⟨rfl,fun i s h g=>⟨s,h,g⟩,fun i d h=>⟨d,h⟩⟩
theorem Kp.trans(x:Kp a b)(y:Kp b c):Kp a c:=by
 refine⟨y.len.trans x.len,fun i s h g=>?_,fun i d h=>?_⟩
 ·obtain⟨s',h',g'⟩:=x.has i s h g;exact y.has i s' h' g'
 ·obtain⟨d',h'⟩:=x.io i d h;exact y.io i d' h'
def RVal(K:W.Frag)(Z:AS)(st:En)(σ:St)(H:Hp)(O:AS)(v:V):Rs->Prop|.d x=>DA K (U O Z) H v x|.f x=>∃p,v=.ref p/\¬ O p/\¬ Z p/\OA K (ins p (U O Z)) H p x/\ER K st σ H (ins p O) Z|.s i=>σ[i]?=some (some v)/\∃s,st[i]?=some s/\s.get≠none
def cont(st:En):Rs->Option D|.d x=>some x|.f x=>some x|.s i=>(st[i]?).bind Sl.get
def Rs.nf:Rs->Rs|.f x=>.d x|r=>r
section
variable {K:W.Frag}{Y Y' O O' O1 O2 Z:AS}{H H' H1 H2:Hp}{v:V}{d:D}{vs:List V}{ds:List D}{a p:Addr}{st zW zV st2:En}{σ σ':St}
def iu(st:En)(r:Rs):cont st r.nf=cont st r:=by cases r<;>rfl
theorem RVal.nf{r:Rs}(h:RVal K Z st σ H O v r):RVal K Z st σ H O v r.nf:=by
 cases r with
 |d x=>exact h
 |s i=>exact h
 |f x=>
  obtain⟨p,rfl,h1,h2,h3,_⟩:=h;exact h3.da (fun z=>z.elim h1 h2) fun b z=>.inr z
theorem RVal.ba(h:RVal K Z st σ H O v r)(E:ER K st σ H O Z)(c:cont st r=some d):BA K (U O Z) H v d:=by
 cases r with
 |d x=>cases c;exact DA.ba h
 |f x=>
  cases c;have:=RVal.nf h;exact DA.ba (show DA K (U O Z) H v _ from this)
 |s i=>
  obtain⟨h1,s,h2,h3⟩:=h;have c':(st[i]?).bind Sl.get=some d:=c;rw[h2]at c';cases s with
  |e=>cases c'
  |v x=>
   cases c';obtain⟨u,g1,g2⟩:=E.val i _ h2;rw[h1]at g1;cases g1;exact g2.ba
  |o x=>
   cases c';obtain⟨p,g1,g2,g3⟩:=E.own i _ _ h2 rfl;rw[h1]at g1;cases g1;exact g3.ba
  |io x=>
   cases c';obtain⟨p,g1,g2,g3⟩:=E.own i _ _ h2 rfl;rw[h1]at g1;cases g1;exact g3.ba
theorem RVal.ext{r:Rs}(h:RVal K Z st σ H O v r.nf)(e:Ext O H O' H')(k:Kp st zW):RVal K Z zW σ H' O' v r.nf:=by
 cases r with
 |d x=>exact DA.ext (show DA K (U O Z) H v x from h) e
 |f x=>exact DA.ext (show DA K (U O Z) H v x from h) e
 |s i=>
  obtain⟨h1,s,h2,h3⟩:=h;exact⟨h1,k.has i s h2 h3⟩
theorem ER.same(E:ER K st σ H O Z)(s:Same H H'):ER K st σ H' O Z:=by
 refine⟨E.len,fun i d h=>?_,fun i s' d h1 h2=>?_,E.uni,E.dis,fun p hp=>?_⟩
 ·obtain⟨v,h1,h2⟩:=E.val i d h;exact⟨v,h1,h2.same s⟩
 ·obtain⟨p,g1,g2,g3⟩:=E.own i s' d h1 h2;refine⟨p,g1,g2,g3.go ?_ (fun b o e _=>s b o e) fun b z=>.inl z⟩;cases e:H p with|none=>exact absurd e g3.live|some o=>exact s p o e
 ·exact(E.liv p hp).same fun o e=>s p o e
theorem ER.away(E:ER K st σ H O Z)(s:Same H H')(hp:H p=none)(hp':Lv H' p):ER K st σ H' (ins p O) Z:=by
 have sub:∀b,U (ins p O) Z b->ins p (U O Z) b:=fun b z=>by
  rcases z with(z|z)|z
  ·exact .inl z
  ·exact .inr (.inl z)
  ·exact .inr (.inr z)
 refine⟨E.len,fun i d h=>?_,fun i s' d h1 h2=>?_,E.uni,fun q hq=>?_,fun q hq=>?_⟩
 ·obtain⟨v,h1,h2⟩:=E.val i d h;exact⟨v,h1,(h2.away s hp).less sub⟩
 ·obtain⟨q,g1,g2,g3⟩:=E.own i s' d h1 h2;refine⟨q,g1,.inr g2,g3.go ?_ (fun b o e _=>s b o e) fun b z=>?_⟩
  ·cases e:H q with|none=>exact absurd e g3.live|some o=>exact s q o e
  ·rcases sub b z with z|z
   ·exact .inr (z ▸ hp)
   ·exact .inl z
 ·rcases hq with rfl|hq
  ·exact fun z=>(E.liv _ (.inr z)).1 hp
  ·exact E.dis q hq
 ·rcases hq with(rfl|hq)|hq
  ·exact hp'
  ·exact(E.same s).liv q (.inl hq)
  ·exact(E.same s).liv q (.inr hq)
def ER.free(E:ER K st σ H O Z)(hp:H p=none):¬ O p/\¬ Z p:=⟨fun z=>(E.liv p (.inl z)).1 hp,fun z=>(E.liv p (.inr z)).1 hp⟩
def ER.new(E:ER K st σ H O Z)(hp:H p=none)(el:El K (U O Z) H vs ds):ER K st σ (upd H p (.lst vs)) O Z/\RVal K Z st σ (upd H p (.lst vs)) O (.ref p) (.f (.lst ds)):=by
 have s:=aY hp (.lst vs);have hf:=E.free hp;refine⟨E.same s,p,rfl,hf.1,hf.2,⟨vs,aQ,el.away s hp⟩,E.away s hp ⟨by rw[aQ];simp,fun _ z=>by rw[aQ]at z;cases z⟩⟩
def ER.newT(E:ER K st σ H O Z)(hp:H p=none)(el:El K (U O Z) H vs ds):ER K st σ (upd H p (.tup vs)) O Z/\RVal K Z st σ (upd H p (.tup vs)) O (.ref p) (.d (.tup ds)):=by
 have s:=aY hp (.tup vs);have hf:=E.free hp;exact⟨E.same s,.tup (.inl ⟨aQ,fun z=>z.elim hf.1 hf.2⟩) el.1 (el.same s).2⟩
def DV(st:En)(i:Nat):Option En:=match st[i]? with|some (.v _)=>some st|some (.o d)=>some (st.set i (.v d))|_=>none
def Fi(st:En):Rs->Option En|.s i=>DV st i|_=>some st
def ax{l:List α}(h:i≠j):(l.set i x)[j]?=l[j]?:=by rw[A6,Ah h]
def aZ{l:List α}(h:l[i]?=some y):(l.set i x)[i]?=some x:=by
 have hi:=(Yd.mp h).1;rw[A6,if_pos rfl,if_pos hi]
def Jj(h:DV st i=some zW):Kp st zW/\∃d,zW[i]?=some (.v d)/\(st[i]?).bind Sl.get=some d:=by
 unfold DV at h;split at h
 ·rename_i d e
  cases h;exact⟨Kp.refl st,d,e,by rw[e];rfl⟩
 ·rename_i d e
  cases h;refine⟨⟨by simp,fun j s hj g=>?_,fun j d' hj=>?_⟩,d,aZ e,by rw[e];rfl⟩
  ·by_cases q:i=j
   ·subst q;exact⟨.v d,aZ e,by simp[Sl.get]⟩
   ·exact⟨s,by rw[ax q];exact hj,g⟩
  ·have q:i≠j:=fun z=>by subst z;rw[e]at hj;cases hj
   exact⟨d',by rw[ax q];exact hj⟩
 ·cases h
def ER.frz(E:ER K st σ H O Z)(h:DV st i=some zW):∃O',Ext O H O' H/\ER K zW σ H O' Z/\(∀b,O' b->O b):=by
 unfold DV at h;split at h
 ·cases h;exact⟨O,Ext.refl O H,E,fun _ z=>z⟩
 ·rename_i d e
  cases h;obtain⟨p,g1,g2,g3⟩:=E.own i _ _ e rfl;have less:∀b,U (fun b=>O b/\b≠p) Z b->U O Z b:=fun b z=>z.elim (fun q=>.inl q.1) .inr;refine⟨fun b=>O b/\b≠p,⟨fun b o q _=>q,fun b z=>.inl z.1,fun b z=>z,fun b z=>z⟩,⟨by simp[E.len],fun j x hj=>?_,fun j s x hj hs=>?_,fun j k s t x y q hj hs hk ht e1 e2=>?_,fun q hq=>E.dis q hq.1,fun q hq=>E.liv q (less q hq)⟩,fun b z=>z.1⟩
  ·by_cases q:i=j
   ·subst q;rw[aZ e]at hj;cases hj;exact⟨.ref p,g1,g3.da (fun z=>z.elim (fun y=>y.2 rfl) (E.dis p g2)) less⟩
   ·rw[ax q]at hj;obtain⟨v,h1,h2⟩:=E.val j x hj;exact⟨v,h1,h2.less less⟩
  ·have q:i≠j:=fun z=>by
    subst z;rw[aZ e]at hj;cases hj;cases hs
   rw[ax q]at hj;obtain⟨r,h1,h2,h3⟩:=E.own j s x hj hs;refine⟨r,h1,⟨h2,fun z=>q ?_⟩,h3.go rfl (fun _ _ e _=>e) fun b z=>.inl (less b z)⟩;subst z;exact E.uni i j _ _ _ _ r e rfl hj hs g1 h1
  ·have q1:i≠j:=fun z=>by
    subst z;rw[aZ e]at hj;cases hj;cases hs
   have q2:i≠k:=fun z=>by
    subst z;rw[aZ e]at hk;cases hk;cases ht
   rw[ax q1]at hj;rw[ax q2]at hk;exact E.uni j k s t x y q hj hs hk ht e1 e2
 ·cases h
theorem RVal.frz(h:RVal K Z st σ H O v r)(E:ER K st σ H O Z)(f:Fi st r=some zW)(c:cont st r=some d):∃O',Ext O H O' H/\Kp st zW/\ER K zW σ H O' Z/\DA K (U O' Z) H v d:=by
 cases r with
 |d x=>cases f;cases c;exact⟨O,Ext.refl O H,Kp.refl st,E,h⟩
 |f x=>cases f;cases c;exact⟨O,Ext.refl O H,Kp.refl st,E,RVal.nf h⟩
 |s i=>
  obtain⟨h1,s,h2,h3⟩:=h;have f':DV st i=some zW:=f;obtain⟨k,x,k1,k2⟩:=Jj f';obtain⟨O',e1,e2,_⟩:=E.frz f';have c':(st[i]?).bind Sl.get=some d:=c;have ex:x=d:=Option.some.inj (k2.symm.trans c');subst ex;obtain⟨u,g1,g2⟩:=e2.val i _ k1;rw[h1]at g1;cases g1;exact⟨O',e1,k,e2,g2⟩
def ER.write{s:Sl}(E:ER K st σ H O Z)(hs:st[i]?=some s)(ho:s.ow=some x)(hp:σ[i]?=some (some (.ref p)))(new:OA K (U O Z) (upd H p o) p y) :
  ER K (st.set i (s.put y)) σ (upd H p o) O Z/\Ext O H O (upd H p o)/\Kp st (st.set i (s.put y)):=by
 obtain⟨q,g1,g2,g3⟩:=E.own i s x hs ho;have eq:q=p:=by rw[hp]at g1;cases g1;rfl
 subst eq;have keep:∀b u,H b=some u->¬ U O Z b->upd H q o b=some u:=fun b u e n=>by
  have hb:b≠q:=fun z=>n (.inl (by rw[z];exact g2))
  rw[aC hb];exact e
 refine⟨⟨by simp[E.len],fun j d hj=>?_,fun j t d hj ht=>?_,fun j k t t' d d' r hj ht hk ht' e1 e2=>?_,E.dis,fun r hr=>?_⟩,⟨fun b u e n=>?_,fun b z=>.inl z,fun b z=>?_,fun b z=>?_⟩,⟨by simp,fun j t hj ht=>?_,fun j d hj=>?_⟩⟩
 ·by_cases e:i=j
  ·subst e;rw[aZ hs]at hj;exact absurd (Option.some.inj hj) (Sl.put_v _ _ _)
  ·rw[ax e]at hj;obtain⟨v,h1,h2⟩:=E.val j d hj;exact⟨v,h1,h2.go keep fun b z=>.inl z⟩
 ·by_cases e:i=j
  ·subst e;rw[aZ hs]at hj;have:=Option.some.inj hj;subst this;rw[Sl.put_ow]at ht;cases ht;exact⟨q,hp,g2,new⟩
  ·rw[ax e]at hj;obtain⟨r,h1,h2,h3⟩:=E.own j t d hj ht;have hne:r≠q:=fun z=>by subst z;exact e (E.uni i j s t x d r hs ho hj ht hp h1)
   exact⟨r,h1,h2,h3.go (aC hne) keep fun b z=>.inl z⟩
 ·have own':∀(m:Nat)(t:Sl)(d:D),(st.set i (s.put y))[m]?=some t->t.ow=some d->∃t2 d2,st[m]?=some t2/\t2.ow=some d2:=fun m t d hm ht=>by
   by_cases e:i=m
   ·subst e;exact⟨s,x,hs,ho⟩
   ·rw[ax e]at hm;exact⟨t,d,hm,ht⟩
  obtain⟨t1,d1,a1,b1⟩:=own' j t d hj ht;obtain⟨t2,d2,a2,b2⟩:=own' k t' d' hk ht';exact E.uni j k t1 t2 d1 d2 r a1 b1 a2 b2 e1 e2
 ·by_cases e:r=q
  ·subst e;exact new.lv
  ·exact(E.liv r hr).same fun o' eo=>by rw[aC e];exact eo
 ·have hb:b≠q:=fun z=>n (by rw[z];exact g2)
  rw[aC hb];exact e
 ·by_cases e:b=q
  ·subst e;rw[aQ];simp
  ·rw[aC e];exact z
 ·by_cases e:b=q
  ·subst e;exact new.lv
  ·exact z.same fun o' eo=>by rw[aC e];exact eo
 ·by_cases e:i=j
  ·subst e;exact⟨s.put y,aZ hs,by cases s<;>simp[Sl.put,Sl.get]⟩
  ·exact⟨t,by rw[ax e];exact hj,ht⟩
 ·by_cases e:i=j
  ·subst e;rw[hs]at hj;cases hj;exact⟨y,aZ hs⟩
  ·exact⟨d,by rw[ax e];exact hj⟩
end
end VF
namespace VF
open L2
abbrev FE:=En->Option (Rs×En)
abbrev FA:=En->Option (List Rs×En)
abbrev FT:=En->Option (Bool×En)
abbrev Rz:=D×Bool
def mk:Rz->Rs|(d,true)=>.f d|(d,false)=>.d d
def RES(K:W.Frag)(Y:AS)(H H':Hp)(v:V):Rz->Prop|(d,true)=>∃p,v=.ref p/\H p=none/\OA K (ins p Y) H' p d|(d,false)=>DA K Y H' v d
def Fsh(H:Hp)(v:V):Rs->Prop|.f _=>∀p,v=.ref p->H p=none|_=>True
theorem Ext.dead(e:Ext O H O' H')(h:H' p=none):H p=none:=by
 cases q:H p with|none=>rfl|some o=>exact absurd h (e.al p (by rw[q];simp))
theorem Fsh.back(h:Fsh H' v r)(e:Ext O H O' H'):Fsh H v r:=by
 cases r with|f x=>exact fun p hp=>e.dead (h p hp)|d x=>trivial|s i=>trivial
def dU(K:W.Frag)(te:TE)(f:FE):Prop:=∀(st:En)(σ:St)(H:Hp)(O Z:AS)(Q:VK),ER K st σ H O Z->∀r zW,f st=some (r,zW)->
 (∀v H' O',Ext O H O' H'->Kp st zW->ER K zW σ H' O' Z->RVal K Z zW σ H' O' v r->Fsh H v r->Q v H')->te σ H Q
inductive RVs(K:W.Frag)(Z:AS)(st:En)(σ:St)(H:Hp)(O:AS):List V->List Rs->Prop where
 | nil:RVs K Z st σ H O [] []
 | cons {v:V} {vs:List V} {r:Rs} {rs:List Rs}:RVal K Z st σ H O v r.nf->RVs K Z st σ H O vs rs->RVs K Z st σ H O (v::vs) (r::rs)
def wH(K:W.Frag)(ta:TA)(f:FA):Prop:=∀(st:En)(σ:St)(H:Hp)(O Z:AS)(Q:List V->Hp->Prop),ER K st σ H O Z->∀rs zW,f st=some (rs,zW)->
 (∀vs H' O',Ext O H O' H'->Kp st zW->ER K zW σ H' O' Z->RVs K Z zW σ H' O' vs rs->Q vs H')->ta σ H Q
def wI(K:W.Frag)(tt:TT)(f:FT):Prop:=∀(st:En)(σ:St)(H:Hp)(O Z:AS)(Q:Bool->Hp->Prop),ER K st σ H O Z->∀c zW,f st=some (c,zW)->
 (∀H' O',Ext O H O' H'->Kp st zW->ER K zW σ H' O' Z->Q c H')->tt σ H Q
def RdOp(K:W.Frag)(r:R2)(b:D->D->Option Rz):Prop:=∀(Y:AS)(H:Hp)(x y:V)(d1 d2:D)(z:Rz)(Q:VK),(∀p,Y p->Lv H p)->BA K Y H x d1->BA K Y H y d2->b d1 d2=some z->
 (∀v H',Same H H'->RES K Y H H' v z->Q v H')->r x y H Q
def Nd(K:W.Frag)(r:V->Hp->VK->Prop)(b:D->Option Rz):Prop:=∀(Y:AS)(H:Hp)(x:V)(d1:D)(z:Rz)(Q:VK),(∀p,Y p->Lv H p)->BA K Y H x d1->b d1=some z->
 (∀v H',Same H H'->RES K Y H H' v z->Q v H')->r x H Q
inductive BAs(K:W.Frag)(Y:AS)(H:Hp):List V->List D->Prop where
 | nil:BAs K Y H [] []
 | cons {v:V} {vs:List V} {d:D} {ds:List D}:BA K Y H v d->BAs K Y H vs ds->BAs K Y H (v::vs) (d::ds)
def RdCB(K:W.Frag)(r:List V->Hp->VK->Prop)(b:List D->Option Rz):Prop:=∀(Y:AS)(H:Hp)(xs:List V)(ds:List D)(z:Rz)(Q:VK),(∀p,Y p->Lv H p)->BAs K Y H xs ds->b ds=some z->
 (∀v H',Same H H'->RES K Y H H' v z->Q v H')->r xs H Q
section
variable {K:W.Frag}{Y Y' O O' O1 O2 Z:AS}{H H' H1 H2:Hp}{v:V}{d:D}{vs:List V}{ds:List D}{a p:Addr}{st zW zV st2:En}{σ σ':St}
theorem RES.rv(E:ER K st σ H O Z)(s:Same H H')(h:RES K (U O Z) H H' v z):ER K st σ H' O Z/\RVal K Z st σ H' O v (mk z):=by
 obtain⟨d,fr⟩:=z;cases fr with
 |false=>exact⟨E.same s,h⟩
 |true=>
  obtain⟨p,rfl,hp,ho⟩:=h;have hf:=E.free hp;exact⟨E.same s,p,rfl,hf.1,hf.2,ho,E.away s hp ho.lv⟩
theorem RES.fsh(h:RES K Y H H' v z):Fsh H v (mk z):=by
 obtain⟨d,fr⟩:=z;cases fr with
 |false=>trivial
 |true=>obtain⟨p,rfl,hp,_⟩:=h;exact fun q e=>by cases e;exact hp
theorem RVs.ext(h:RVs K Z st σ H O vs rs)(e:Ext O H O' H')(k:Kp st zW):RVs K Z zW σ H' O' vs rs:=by
 induction h with|nil=>exact .nil|cons h1 _ ih=>exact .cons (h1.ext e k) ih
def dL(st:En):List Rs->Option (List D)|[]=>some []|r::rs=>(cont st r).bind fun d=>(dL st rs).bind fun ds=>some (d::ds)
theorem RVs.bas(h:RVs K Z st σ H O vs rs)(E:ER K st σ H O Z):∀{ds:List D},dL st rs=some ds->BAs K (U O Z) H vs ds:=by
 induction h with
 |nil=>intro ds e;cases e;exact .nil
 |@cons v vs r rs h1 _ ih=>
  intro ds e;refine bO e fun d e1 e=>?_;refine bO e fun ds' e2 e=>?_;cases e;exact .cons (h1.ba E (by rw[iu];exact e1)) (ih e2)
def d8:List Rs->En->Option (List D×En)|[],st=>some ([],st)|r::rs,st=>(cont st r).bind fun d=>(Fi st r).bind fun zV=>(d8 rs zV).bind fun x=>some (d::x.1,x.2)
def Jk(st:En)(r:Rs):Fi st r.nf=Fi st r:=by cases r<;>rfl
theorem RVs.esc:∀{rs:List Rs}{vs:List V}{st:En}{O:AS}{ds:List D}{zW:En},RVs K Z st σ H O vs rs->ER K st σ H O Z->d8 rs st=some (ds,zW)->∃O',Ext O H O' H/\Kp st zW/\ER K zW σ H O' Z/\El K (U O' Z) H vs ds
 |[],_,st,O,ds,zW,.nil,E,e=>by cases e;exact⟨O,Ext.refl O H,Kp.refl _,E,El.nil⟩
 | r::rs,_,st,O,ds,zW,.cons h1 h2,E,e=>by
  refine bO e fun d e1 e=>?_;refine bO e fun zV e2 e=>?_;refine dD e fun ds2 st2 e3 e=>?_;cases e;obtain⟨O1,x1,k1,E1,da⟩:=h1.frz E (by rw[Jk];exact e2) (by rw[iu];exact e1)
  obtain⟨O2,x2,k2,E2,el⟩:=RVs.esc (h2.ext x1 k1) E1 e3;exact⟨O2,x1.trans x2,k1.trans k2,E2,El.cons (da.ext x2) el⟩
def aw(i:Nat):FE:=fun st=>match st[i]? with|some (.v d)=>some (.d d,st)|some (.o _)=>some (.s i,st)|some (.io _)=>some (.s i,st)|_=>none
def Nf(i:Nat):dU K (uU i) (aw i):=by
 intro st σ H O Z Q E r zW h q;unfold aw at h;split at h
 ·rename_i d e
  cases h;obtain⟨v,h1,h2⟩:=E.val i d e;exact⟨v,h1,q v H O (Ext.refl O H) (Kp.refl _) E h2 True.intro⟩
 ·rename_i d e
  cases h;obtain⟨p,h1,h2,h3⟩:=E.own i _ _ e rfl;exact⟨.ref p,h1,q _ H O (Ext.refl O H) (Kp.refl _) E ⟨h1,_,e,by simp[Sl.get]⟩ True.intro⟩
 ·rename_i d e
  cases h;obtain⟨p,h1,h2,h3⟩:=E.own i _ _ e rfl;exact⟨.ref p,h1,q _ H O (Ext.refl O H) (Kp.refl _) E ⟨h1,_,e,by simp[Sl.get]⟩ True.intro⟩
 ·cases h
def fC(d:D):FE:=fun st=>some (.d d,st)
def wU(h:∀Y H,DA K Y H v d):dU K (tC v) (fC d):=by
 intro st σ H O Z Q E r zW e q;cases e;exact q v H O (Ext.refl O H) (Kp.refl _) E (h _ _) True.intro
def Ng(i:Int):dU K (tC (.int i)) (fC (.int i)):=wU fun _ _=>.int i
def Nh(x:Str):dU K (tC (.str x)) (fC (.str x)):=wU fun _ _=>.str x
def Qq(b:Bool):dU K (tC (.bl b)) (fC (.bl b)):=wU fun _ _=>.bl b
def Ni:dU K (tC .non) (fC .non):=wU fun _ _=>.non
def aK(b:D->D->Option Rz)(fa fb:FE):FE:=fun st=>(fa st).bind fun x=>(fb x.2).bind fun y=>(cont y.2 x.1).bind fun d1=>(cont y.2 y.1).bind fun d2=>(b d1 d2).bind fun z=>some (mk z,y.2)
def LH(hr:RdOp K r b)(ha:dU K ta fa)(hb:dU K tb fb):dU K (EO r ta tb) (aK b fa fb):=by
 intro st σ H O Z Q E r' zW h q;refine dD h fun r1 zV e1 h=>?_;refine dD h fun r2 st2 e2 h=>?_;refine bO h fun d1 e3 h=>?_;refine bO h fun d2 e4 h=>?_;refine bO h fun z e5 h=>?_;cases h;refine ha st σ H O Z _ E r1 zV e1 fun v1 H1 O1 x1 k1 E1 rv1 w1=>?_;refine hb zV σ H1 O1 Z _ E1 r2 st2 e2 fun v2 H2 O2 x2 k2 E2 rv2 w2=>?_;have b1:=(rv1.nf.ext x2 k2).ba E2 (by rw[iu];exact e3)
 refine hr (U O2 Z) H2 v1 v2 d1 d2 z _ E2.liv b1 (rv2.ba E2 e4) e5 fun v H3 s hres=>?_;obtain⟨E3,rv3⟩:=hres.rv E2 s;exact q v H3 O2 ((x1.trans x2).trans (Same.ext s)) (k1.trans k2) E3 rv3 (hres.fsh.back (x1.trans x2))
def wV(b:D->Option Rz)(fa:FE):FE:=fun st=>(fa st).bind fun x=>(cont x.2 x.1).bind fun d1=>(b d1).bind fun z=>some (mk z,x.2)
def LI(hr:Nd K r b)(ha:dU K ta fa):dU K (S3 r ta) (wV b fa):=by
 intro st σ H O Z Q E r' zW h q;refine dD h fun r1 zV e1 h=>?_;refine bO h fun d1 e3 h=>?_;refine bO h fun z e5 h=>?_;cases h;refine ha st σ H O Z _ E r1 zV e1 fun v1 H1 O1 x1 k1 E1 rv1 w1=>?_;refine hr (U O1 Z) H1 v1 d1 z _ E1.liv (rv1.ba E1 e3) e5 fun v H3 s hres=>?_;obtain⟨E3,rv3⟩:=hres.rv E1 s;exact q v H3 O1 (x1.trans (Same.ext s)) k1 E3 rv3 (hres.fsh.back x1)
def Pz(st:En)(r:Rs):Option Bool:=match cont st r with|some (.bl c)=>some c|_=>none
def LJ(E:ER K st σ H O Z)(h:RVal K Z st σ H O v r)(t:Pz st r=some c):v=.bl c:=by
 unfold Pz at t;split at t
 ·rename_i b e
  cases t;exact h.ba E e
 ·cases t
def aD(fa:FE):FT:=fun st=>(fa st).bind fun x=>(Pz x.2 x.1).bind fun c=>some (c,x.2)
def tP(ha:dU K ta fa):wI K (ya ta) (aD fa):=by
 intro st σ H O Z Q E c zW h q;refine dD h fun r1 zV e1 h=>?_;refine bO h fun c' e2 h=>?_;cases h;exact ha st σ H O Z _ E r1 zV e1 fun v1 H1 O1 x1 k1 E1 rv1 w1=>⟨c,LJ E1 rv1 e2,q H1 O1 x1 k1 E1⟩
def LK(ha:dU K ta fa):wI K (tB ta) (aD fa):=tP ha
def kB(f:FT):FT:=fun st=>(f st).bind fun x=>some (!x.1,x.2)
def yq(h:wI K t f):wI K (PR t) (kB f):=by
 intro st σ H O Z Q E c zW e q;refine dD e fun c1 zV e1 e=>?_;cases e;exact h st σ H O Z _ E c1 zV e1 q
def iw(f g:FT):FT:=fun st=>(f st).bind fun x=>if x.1=true then g x.2 else some (false,x.2)
theorem yt(h:wI K t f)(h':wI K u g):wI K (PQ t u) (iw f g):=by
 intro st σ H O Z Q E c zW e q;refine dD e fun c1 zV e1 e=>?_;refine h st σ H O Z _ E c1 zV e1 fun H1 O1 x1 k1 E1=>?_;cases c1 with
 |true=>
  rw[if_pos rfl]at e ⊢;exact h' zV σ H1 O1 Z _ E1 c zW e fun H2 O2 x2 k2 E2=>q H2 O2 (x1.trans x2) (k1.trans k2) E2
 |false=>
  simp only[Xg,if_false]at e ⊢;cases e;exact q H1 O1 x1 k1 E1
def vc(f g:FT):FT:=fun st=>(f st).bind fun x=>if x.1=true then some (true,x.2) else g x.2
theorem Fj(h:wI K t f)(h':wI K u g):wI K (TF t u) (vc f g):=by
 intro st σ H O Z Q E c zW e q;refine dD e fun c1 zV e1 e=>?_;refine h st σ H O Z _ E c1 zV e1 fun H1 O1 x1 k1 E1=>?_;cases c1 with
 |true=>
  rw[if_pos rfl]at e ⊢;cases e;exact q H1 O1 x1 k1 E1
 |false=>
  simp only[Xg,if_false]at e ⊢;exact h' zV σ H1 O1 Z _ E1 c zW e fun H2 O2 x2 k2 E2=>q H2 O2 (x1.trans x2) (k1.trans k2) E2
def bA:FT:=fun st=>some (true,st)
def Nj:wI K Qp bA:=by
 intro st σ H O Z Q E c zW e q;cases e;exact q H O (Ext.refl O H) (Kp.refl _) E
def mU(fa fb:FE):FE:=fun st=>(fa st).bind fun x=>(Pz x.2 x.1).bind fun c=>if c=true then fb x.2 else some (.d (.bl false),x.2)
theorem yu(ha:dU K ta fa)(hb:dU K tb fb):dU K (Lm ta tb) (mU fa fb):=by
 intro st σ H O Z Q E r zW h q;refine dD h fun r1 zV e1 h=>?_;refine bO h fun c e2 h=>?_;refine ha st σ H O Z _ E r1 zV e1 fun v1 H1 O1 x1 k1 E1 rv1 w1=>⟨c,LJ E1 rv1 e2,?_⟩;cases c with
 |true=>
  rw[if_pos rfl]at h ⊢;exact hb zV σ H1 O1 Z _ E1 r zW h fun v H2 O2 x2 k2 E2 rv w2=>q v H2 O2 (x1.trans x2) (k1.trans k2) E2 rv (w2.back x1)
 |false=>
  rw[Ah (by decide)]at h ⊢
  cases h;exact q _ H1 O1 x1 k1 E1 (.bl false) True.intro
def DW(f:FT)(fa fb:FE):FE:=fun st=>(f st).bind fun x=>if x.1=true then fa x.2 else fb x.2
theorem LL(h:wI K t f)(ha:dU K ta fa)(hb:dU K tb fb):dU K (TH t ta tb) (DW f fa fb):=by
 intro st σ H O Z Q E r zW e q;refine dD e fun c1 zV e1 e=>?_;refine h st σ H O Z _ E c1 zV e1 fun H1 O1 x1 k1 E1=>?_;cases c1 with
 |true=>
  rw[if_pos rfl]at e ⊢;exact ha zV σ H1 O1 Z _ E1 r zW e fun v H2 O2 x2 k2 E2 rv w2=>q v H2 O2 (x1.trans x2) (k1.trans k2) E2 rv (w2.back x1)
 |false=>
  simp only[Xg,if_false]at e ⊢;exact hb zV σ H1 O1 Z _ E1 r zW e fun v H2 O2 x2 k2 E2 rv w2=>q v H2 O2 (x1.trans x2) (k1.trans k2) E2 rv (w2.back x1)
def tQ(b b':D->D->Option Rz)(fa fb fc:FE):FE:=fun st=>(fa st).bind fun x=>(fb x.2).bind fun y=>(cont y.2 x.1).bind fun d1=>(cont y.2 y.1).bind fun d2=>(b d1 d2).bind fun z=>match z with|(.bl true,false)=>(fc y.2).bind fun w=>(cont w.2 y.1).bind fun d2'=>(cont w.2 w.1).bind fun d3=>(b' d2' d3).bind fun z'=>some (mk z',w.2)|(.bl false,false)=>some (.d (.bl false),y.2)|_=>none
def vd(hr:RdOp K r b)(hr':RdOp K r' b')(ha:dU K ta fa)(hb:dU K tb fb)(hc:dU K tc fc):dU K (EW r r' ta tb tc) (tQ b b' fa fb fc):=by
 intro st σ H O Z Q E r0 zW h q;refine dD h fun r1 zV e1 h=>?_;refine dD h fun r2 st2 e2 h=>?_;refine bO h fun d1 e3 h=>?_;refine bO h fun d2 e4 h=>?_;refine bO h fun z e5 h=>?_;refine ha st σ H O Z _ E r1 zV e1 fun v1 H1 O1 x1 k1 E1 rv1 w1=>?_;refine hb zV σ H1 O1 Z _ E1 r2 st2 e2 fun v2 H2 O2 x2 k2 E2 rv2 w2=>?_;have b1:=(rv1.nf.ext x2 k2).ba E2 (by rw[iu];exact e3)
 refine hr (U O2 Z) H2 v1 v2 d1 d2 z _ E2.liv b1 (rv2.ba E2 e4) e5 fun v H3 s hres=>?_;obtain⟨dz,fr⟩:=z;cases dz with
 |bl c=>
  cases fr with
  |true=>cases c<;>cases h
  |false=>
   have ev:v=.bl c:=DA.ba (show DA K (U O2 Z) H3 v (.bl c) from hres);refine⟨c,ev,?_⟩;have E3:=E2.same s;have x3:Ext O2 H2 O2 H3:=Same.ext s;cases c with
   |false=>
    rw[Ah (by decide)]
    cases h;exact q _ H3 O2 ((x1.trans x2).trans x3) (k1.trans k2) E3 (.bl false) True.intro
   |true=>
    rw[if_pos rfl];refine dD h fun r3 st3 g1 h=>?_;refine bO h fun d2' g2 h=>?_;refine bO h fun d3 g3 h=>?_;refine bO h fun z' g4 h=>?_;cases h;refine hc st2 σ H3 O2 Z _ E3 r3 st3 g1 fun v3 H4 O4 x4 k4 E4 rv4 w4=>?_;have b2:=(rv2.nf.ext (x3.trans x4) k4).ba E4 (by rw[iu];exact g2)
    refine hr' (U O4 Z) H4 v2 v3 d2' d3 z' _ E4.liv b2 (rv4.ba E4 g3) g4 fun w H5 s5 hres5=>?_;obtain⟨E5,rv5⟩:=hres5.rv E4 s5;exact q w H5 O4 ((((x1.trans x2).trans x3).trans x4).trans (Same.ext s5)) ((k1.trans k2).trans k4) E5 rv5 (hres5.fsh.back (((x1.trans x2).trans x3).trans x4))
 |_=>cases fr<;>cases h
def ae:FA:=fun st=>some ([],st)
def Nk:wH K rN ae:=by
 intro st σ H O Z Q E rs zW e q;cases e;exact q [] H O (Ext.refl O H) (Kp.refl _) E .nil
def aa(fa:FE)(fr:FA):FA:=fun st=>(fa st).bind fun x=>(fr x.2).bind fun y=>some (x.1::y.1,y.2)
def yv(ha:dU K ta fa)(hr:wH K tr fr):wH K (gH ta tr) (aa fa fr):=by
 intro st σ H O Z Q E rs zW h q;refine dD h fun r1 zV e1 h=>?_;refine dD h fun rs2 st2 e2 h=>?_;cases h;refine ha st σ H O Z _ E r1 zV e1 fun v1 H1 O1 x1 k1 E1 rv1 w1=>?_;refine hr zV σ H1 O1 Z _ E1 rs2 st2 e2 fun vs H2 O2 x2 k2 E2 rvs=>?_;exact q (v1::vs) H2 O2 (x1.trans x2) (k1.trans k2) E2 (.cons (rv1.nf.ext x2 k2) rvs)
def few(h:n<=1000000):n<=sizeLine:=Xd h (by decide)
def cO(fa:FA):FE:=fun st=>(fa st).bind fun x=>(d8 x.1 x.2).bind fun y=>if y.1.length<=1000000 then some (.d (.tup y.1),y.2) else none
def Fk(ha:wH K ta fa):dU K (P4 ta) (cO fa):=by
 intro st σ H O Z Q E r zW h q;refine dD h fun rs zV e1 h=>?_;refine dD h fun ds st2 e2 h=>?_;refine ha st σ H O Z _ E rs zV e1 fun vs H1 O1 x1 k1 E1 rvs=>?_;obtain⟨O2,x2,k2,E2,el⟩:=rvs.esc E1 e2;obtain⟨hz,h⟩:=aH h;cases h;refine⟨by rw[el.1];exact few hz,fun p hp=>?_⟩
 obtain⟨E3,rv⟩:=E2.newT hp el;exact q _ _ O2 ((x1.trans x2).trans (Same.ext (aY hp _))) (k1.trans k2) E3 rv True.intro
def cy(fa:FA):FE:=fun st=>(fa st).bind fun x=>(d8 x.1 x.2).bind fun y=>if y.1.length<=1000000 then some (.f (.lst y.1),y.2) else none
def Fm(ha:wH K ta fa):dU K (MN ta) (cy fa):=by
 intro st σ H O Z Q E r zW h q;refine dD h fun rs zV e1 h=>?_;refine dD h fun ds st2 e2 h=>?_;refine ha st σ H O Z _ E rs zV e1 fun vs H1 O1 x1 k1 E1 rvs=>?_;obtain⟨O2,x2,k2,E2,el⟩:=rvs.esc E1 e2;obtain⟨hz,h⟩:=aH h;cases h;refine⟨by rw[el.1];exact few hz,fun p hp=>?_⟩
 obtain⟨E3,rv⟩:=E2.new hp el;exact q _ _ O2 ((x1.trans x2).trans (Same.ext (aY hp _))) (k1.trans k2) E3 rv fun p' e=>by cases e;exact(x1.trans x2).dead hp
def bU(b:List D->Option Rz)(fa:FA):FE:=fun st=>(fa st).bind fun x=>(dL x.2 x.1).bind fun ds=>(b ds).bind fun z=>some (mk z,x.2)
def LM(hr:RdCB K r b)(ha:wH K ta fa):dU K (MP r ta) (bU b fa):=by
 intro st σ H O Z Q E r0 zW h q;refine dD h fun rs zV e1 h=>?_;refine bO h fun ds e2 h=>?_;refine bO h fun z e3 h=>?_;cases h;refine ha st σ H O Z _ E rs zV e1 fun vs H1 O1 x1 k1 E1 rvs=>?_;refine hr (U O1 Z) H1 vs ds z _ E1.liv (rvs.bas E1 e2) e3 fun v H3 s hres=>?_;obtain⟨E3,rv3⟩:=hres.rv E1 s;exact q v H3 O1 (x1.trans (Same.ext s)) k1 E3 rv3 (hres.fsh.back x1)
end
end VF
namespace VF
open L2
def D.isSc:D->Bool|.non=>true|.bl _=>true|.int _=>true|.str _=>true|.ty _=>true|_=>false
def fB(K:W.Frag)(g:List D->Option Rz):Sp:=fun vs H Q _=>∃(Z:AS)(ds:List D)(z:Rz),El K Z H vs ds/\(∀p,Z p->Lv H p)/\g ds=some z/\∀v H',Same H H'->RES K Z H H' v z->Q v H'
def S7(K:W.Frag)(Y:AS)(f:Addr)(x':D)(H H':Hp)(v:V):Rz->Prop|(d,true)=>∃p,v=.ref p/\H p=none/\OA K (ins p Y) H' p d/\OA K (ins p Y) H' f x'|(d,false)=>DA K Y H' v d/\OA K Y H' f x'
def lV(K:W.Frag)(g:D->List D->Option (Rz×D)):Sp:=fun vs H Q _=>∃(f:Addr)(ws:List V)(Z:AS)(x:D)(ds:List D)(z:Rz)(x':D),vs=.ref f::ws/\¬ Z f/\OA K (ins f Z) H f x/\El K (ins f Z) H ws ds/\(∀p,Z p->Lv H p)/\g x ds=some (z,x') /\
 ∀v H',(∀b o,H b=some o->b≠f->H' b=some o)->S7 K (ins f Z) f x' H H' v z->Q v H'
section
variable {K:W.Frag}{Y Y' O O' O1 O2 Z:AS}{H H' H1 H2:Hp}{v:V}{d:D}{vs:List V}{ds:List D}{a p:Addr}{st zW zV st2:En}{σ σ':St}
def aO(g:List D->Option Rz)(fa:FA):FE:=fun st=>(fa st).bind fun x=>(d8 x.1 x.2).bind fun y=>(g y.1).bind fun z=>some (mk z,y.2)
def yw(ha:wH K ta fa):dU K (DU (fB K g) ta) (aO g fa):=by
 intro st σ H O Z Q E r0 zW h q;refine dD h fun rs zV e1 h=>?_;refine dD h fun ds st2 e2 h=>?_;refine bO h fun z e3 h=>?_;cases h;refine ha st σ H O Z _ E rs zV e1 fun vs H1 O1 x1 k1 E1 rvs=>?_;obtain⟨O2,x2,k2,E2,el⟩:=rvs.esc E1 e2;refine⟨U O2 Z,ds,z,el,E2.liv,e3,fun v H3 s hres=>?_⟩;obtain⟨E3,rv3⟩:=hres.rv E2 s;exact q v H3 O2 ((x1.trans x2).trans (Same.ext s)) (k1.trans k2) E3 rv3 (hres.fsh.back (x1.trans x2))
theorem RVal.da0(h:RVal K Z st σ H O v r)(E:ER K st σ H O Z)(c:cont st r=some d):DA K (fun _=>False) H v d:=by
 cases r with
 |d x=>cases c;exact DA.less (show DA K (U O Z) H v d from h) fun b z=>z.elim
 |f x=>cases c;exact DA.less (show DA K (U O Z) H v d from RVal.nf h) fun b z=>z.elim
 |s i=>
  obtain⟨h1,s,h2,h3⟩:=h;have c':(st[i]?).bind Sl.get=some d:=c;rw[h2]at c';cases s with
  |e=>cases c'
  |v x=>
   cases c';obtain⟨u,g1,g2⟩:=E.val i _ h2;rw[h1]at g1;cases g1;exact g2.less fun b z=>z.elim
  |o x=>
   cases c';obtain⟨p,g1,g2,g3⟩:=E.own i _ _ h2 rfl;rw[h1]at g1;cases g1;exact g3.da (fun z=>z) fun b z=>z.elim
  |io x=>
   cases c';obtain⟨p,g1,g2,g3⟩:=E.own i _ _ h2 rfl;rw[h1]at g1;cases g1;exact g3.da (fun z=>z) fun b z=>z.elim
theorem RVs.el0(h:RVs K Z st σ H O vs rs)(E:ER K st σ H O Z):∀{ds:List D},dL st rs=some ds->El K (fun _=>False) H vs ds:=by
 induction h with
 |nil=>intro ds e;cases e;exact El.nil
 |@cons v vs r rs h1 _ ih=>
  intro ds e;refine bO e fun d e1 e=>?_;refine bO e fun ds' e2 e=>?_;cases e;exact El.cons (h1.da0 E (by rw[iu];exact e1)) (ih e2)
theorem DA.sc(h:DA K Y H v d)(s:d.isSc=true):DA K Y' H' v d:=by
 cases h with|non=>exact .non|bl b=>exact .bl b|int i=>exact .int i|str x=>exact .str x|ty n=>exact .ty n|_=>cases s
def aN(g:List D->Option Rz)(fa:FA):FE:=fun st=>(fa st).bind fun x=>(dL x.2 x.1).bind fun ds=>(g ds).bind fun z=>if (z.1.isSc&&!z.2)=true then some (.d z.1,x.2) else none
def ve(ha:wH K ta fa):dU K (DU (fB K g) ta) (aN g fa):=by
 intro st σ H O Z Q E r0 zW h q;refine dD h fun rs zV e1 h=>?_;refine bO h fun ds e2 h=>?_;refine dD h fun dz fr e3 h=>?_;obtain⟨hc,h⟩:=aH h;cases h;have h1:dz.isSc=true/\fr=false:=by simpa using hc
 obtain⟨h1,rfl⟩:=h1;refine ha st σ H O Z _ E rs _ e1 fun vs H1 O1 x1 k1 E1 rvs=>?_;refine⟨fun _=>False,ds,(dz,false),rvs.el0 E1 e2,fun p z=>z.elim,e3,fun v H3 s hres=>?_⟩;exact q v H3 O1 (x1.trans (Same.ext s)) k1 (E1.same s) (DA.sc (show DA K (fun _=>False) H3 v dz from hres) h1) True.intro
def oM{s:Sl}(E:ER K st σ H O Z)(hs:st[i]?=some s)(hx:s.ow=some x)(hv:σ[i]?=some (some v))(el:El K (U O Z) H ws ds)(hg:g x ds=some (z,x'))
  (q:∀v H' O',Ext O H O' H'->Kp st (st.set i (s.put x'))->ER K (st.set i (s.put x')) σ H' O' Z->RVal K Z (st.set i (s.put x')) σ H' O' v (mk z)->Fsh H v (mk z)->Q v H'):lV K g (v::ws) H Q XE:=by
 obtain⟨p,g1,g2,g3⟩:=E.own i s x hs hx;have ev:v=.ref p:=by rw[hv]at g1;cases g1;rfl
 subst ev;have a1:∀b,ins p (fun b=>U O Z b/\b≠p) b->U O Z b:=fun b z=>z.elim (fun q=>by rw[q];exact .inl g2) fun q=>q.1
 have a2:∀b,U O Z b->ins p (fun b=>U O Z b/\b≠p) b:=fun b z=>by
  by_cases e:b=p
  ·exact .inl e
  ·exact .inr ⟨z,e⟩
 refine⟨p,ws,fun b=>U O Z b/\b≠p,x,ds,z,x',rfl,fun z=>z.2 rfl,g3.go rfl (fun _ _ e _=>e) (fun b z=>.inl (a1 b z)),el.less a1,fun b z=>E.liv b z.1,hg,fun u H' kp hres=>?_⟩;have ho:OA K (ins p fun b=>U O Z b/\b≠p) H' p x':=by
  obtain⟨dz,fr⟩:=z;cases fr with
  |false=>exact hres.2
  |true=>obtain⟨r,_,_,_,h⟩:=hres;exact h.go rfl (fun _ _ e _=>e) fun b z=>.inl (.inr z)
 have kp':∀b o,H b=some o->¬ U O Z b->H' b=some o:=fun b o e n=>kp b o e fun z=>n (by rw[z];exact .inl g2)
 have al:∀b,H b≠none->H' b≠none:=fun b hb=>by
  by_cases e:b=p
  ·rw[e];exact ho.live
  ·cases eb:H b with|none=>exact absurd eb hb|some o=>rw[kp b o eb e];simp
 have al':∀b,Lv H b->Lv H' b:=fun b hb=>by
  by_cases e:b=p
  ·rw[e];exact ho.lv
  ·exact hb.same fun o eb=>kp b o eb e
 have ex:Ext O H O H':=⟨fun b o e n=>kp b o e fun z=>n (by rw[z];exact g2),fun b z=>.inl z,al,al'⟩
 have ho':OA K (U O Z) H' p x':=ho.go rfl (fun _ _ e _=>e) fun b z=>.inl (a2 b z);have mkE:∀(O2:AS),(∀b,O b->O2 b)->(∀b,O2 b->O b\/H b=none)->(∀b,O2 b->¬ Z b)->(∀b,O2 b->Lv H' b)->OA K (U O2 Z) H' p x'->ER K (st.set i (s.put x')) σ H' O2 Z:=fun O2 up dn ds lv ho2=>by
  have nn:∀b,U O2 Z b->U O Z b\/H b=none:=fun b z=>z.elim (fun y=>(dn b y).elim (fun w=>.inl (.inl w)) .inr) fun y=>.inl (.inr y);refine⟨by simp[E.len],fun j d hj=>?_,fun j t d hj ht=>?_,fun j k t t' d d' r hj ht hk ht' e1 e2=>?_,ds,fun r hr=>hr.elim (lv r) fun y=>al' r (E.liv r (.inr y))⟩
  ·by_cases e:i=j
   ·subst e;rw[aZ hs]at hj;exact absurd (Option.some.inj hj) (Sl.put_v _ _ _)
   ·rw[ax e]at hj;obtain⟨v,h1,h2⟩:=E.val j d hj;exact⟨v,h1,h2.go kp' nn⟩
  ·by_cases e:i=j
   ·subst e;rw[aZ hs]at hj;have:=Option.some.inj hj;subst this;rw[Sl.put_ow]at ht;cases ht;exact⟨p,g1,up p g2,ho2⟩
   ·rw[ax e]at hj;obtain⟨r,h1,h2,h3⟩:=E.own j t d hj ht;have hne:r≠p:=fun z=>by subst z;exact e (E.uni i j s t x d r hs hx hj ht g1 h1)
    refine⟨r,h1,up r h2,h3.go ?_ kp' nn⟩;cases er:H r with|none=>exact absurd er h3.live|some o=>exact kp r o er hne
  ·have own':∀(m:Nat)(t:Sl)(d:D),(st.set i (s.put x'))[m]?=some t->t.ow=some d->∃t2 d2,st[m]?=some t2/\t2.ow=some d2:=fun m t d hm ht=>by
    by_cases e:i=m
    ·subst e;exact⟨s,x,hs,hx⟩
    ·rw[ax e]at hm;exact⟨t,d,hm,ht⟩
   obtain⟨t1,d1,a1,b1⟩:=own' j t d hj ht;obtain⟨t2,d2,a2,b2⟩:=own' k t' d' hk ht';exact E.uni j k t1 t2 d1 d2 r a1 b1 a2 b2 e1 e2
 have kk:Kp st (st.set i (s.put x')):=by
  refine⟨by simp,fun j t hj ht=>?_,fun j d hj=>?_⟩
  ·by_cases e:i=j
   ·subst e;exact⟨s.put x',aZ hs,by cases s<;>simp[Sl.put,Sl.get]⟩
   ·exact⟨t,by rw[ax e];exact hj,ht⟩
  ·by_cases e:i=j
   ·subst e;rw[hs]at hj;cases hj;exact⟨x',aZ hs⟩
   ·exact⟨d,by rw[ax e];exact hj⟩
 have E':=mkE O (fun _ z=>z) (fun _ z=>.inl z) E.dis (fun b z=>al' b (E.liv b (.inl z))) ho';refine q u H' O ex kk E' ?_ ?_
 rotate_left
 ·obtain⟨dz,fr⟩:=z;cases fr with
  |false=>trivial
  |true=>obtain⟨r,rfl,hr,_⟩:=hres;exact fun q e=>by cases e;exact hr
 obtain⟨dz,fr⟩:=z;cases fr with
 |false=>exact DA.less (show DA K _ H' u dz from hres.1) a2
 |true=>
  obtain⟨r,rfl,hr,hor,hof⟩:=hres;have hf:=E.free hr;have a3:∀b,ins r (U O Z) b->ins r (ins p fun b=>U O Z b/\b≠p) b:=fun b z=>z.elim .inl fun y=>.inr (a2 b y);refine⟨r,rfl,hf.1,hf.2,hor.go rfl (fun _ _ e _=>e) (fun b z=>.inl (a3 b z)),mkE (ins r O) (fun _ z=>.inr z) (fun b z=>z.elim (fun y=>.inr (by rw[y];exact hr)) .inl) (fun b z=>z.elim (fun y=>by rw[y];exact hf.2) (E.dis b)) (fun b z=>z.elim (fun y=>by rw[y];exact hor.lv) fun y=>al' b (E.liv b (.inl y))) ?_⟩
  exact hof.go rfl (fun _ _ e _=>e) fun b z=>.inl (a3 b (z.elim (fun y=>y.elim .inl fun w=>.inr (.inl w)) fun y=>.inr (.inr y)))
def gj(g:D->List D->Option (Rz×D))(i:Nat)(fr:FA):FE:=fun st=>(st[i]?).bind fun s0=>(s0.ow).bind fun _=>(fr st).bind fun x=>(d8 x.1 x.2).bind fun y=>(y.2[i]?).bind fun s=>(s.ow).bind fun d=>(g d y.1).bind fun z=>some (mk z.1,y.2.set i (s.put z.2))
def LN(hr:wH K tr fr):dU K (DU (lV K g) (gH (uU i) tr)) (gj g i fr):=by
 intro st σ H O Z Q E r0 zW h q;refine bO h fun s0 f1 h=>?_;refine bO h fun x0 f2 h=>?_;refine dD h fun rs zV e1 h=>?_;refine dD h fun ds st2 e2 h=>?_;refine bO h fun s e3 h=>?_;refine bO h fun x e4 h=>?_;refine dD h fun z x' e5 h=>?_;cases h;obtain⟨p,g1,_,_⟩:=E.own i s0 x0 f1 f2;refine⟨.ref p,g1,?_⟩;refine hr st σ H O Z _ E rs zV e1 fun vs H1 O1 x1 k1 E1 rvs=>?_;obtain⟨O2,x2,k2,E2,el⟩:=rvs.esc E1 e2;exact oM E2 e3 e4 g1 el e5 fun v H' O' ex kk E' rv w=>q v H' O' ((x1.trans x2).trans ex) ((k1.trans k2).trans kk) E' rv (w.back (x1.trans x2))
end
end VF
namespace VF
open L2
structure Kq(st:En)(σ:St)(zW:En)(σ':St):Prop where
 len:zW.length=st.length
 io:∀(i:Nat) d,st[i]?=some (.io d)->σ'[i]?=σ[i]?/\∃d',zW[i]?=some (.io d')
def Kq.refl(st:En)(σ:St):Kq st σ st σ:=⟨rfl,fun i d h=>⟨rfl,d,h⟩⟩
theorem Kq.trans(h:Kq a x b y)(g:Kq b y c z):Kq a x c z:=by
 refine⟨g.len.trans h.len,fun i d e=>?_⟩;obtain⟨e1,d1,e2⟩:=h.io i d e;obtain⟨e3,d2,e4⟩:=g.io i d1 e2;exact⟨e3.trans e1,d2,e4⟩
def Kp.kq(k:Kp st zW):Kq st σ zW σ:=⟨k.len,fun i d h=>⟨rfl,k.io i d h⟩⟩
abbrev FG:=D->En->Option En
def LO(K:W.Frag)(g:TG)(fg:FG)(tg:List Nat):Prop:=∀(st:En)(σ:St)(H:Hp)(O Z:AS)(x:V)(d:D)(Q:St->Hp->Prop),ER K st σ H O Z->DA K (U O Z) H x d->∀zW,fg d st=some zW->
 (∀σ',(∀j,j∉tg->σ'[j]?=σ[j]?/\zW[j]?=st[j]?)->Kq st σ zW σ'->ER K zW σ' H O Z->Q σ' H)->g x σ H Q
def Sl.isIo:Sl->Bool|.io _=>true|_=>false
def mV(i:Nat)(s:Sl)(st:En):Option En:=(st[i]?).bind fun t=>if t.isIo=true then none else some (st.set i s)
section
variable {K:W.Frag}{Y Y' O O' O1 O2 Z:AS}{H H' H1 H2:Hp}{v:V}{d:D}{vs:List V}{ds:List D}{a p:Addr}{st zW zV st2:En}{σ σ':St}
def pJ(h:mV i s st=some zW):∃t,st[i]?=some t/\t.isIo=false/\zW=st.set i s:=by grind [mV]
def tR{s t:Sl}(e:st[i]?=some t)(n:t.isIo=false):Kq st σ (st.set i s) (σ.set i w):=by
 refine⟨by simp,fun j d h=>?_⟩
 have q:i≠j:=fun z=>by subst z;rw[e]at h;cases h;cases n
 exact⟨ax q,d,by rw[ax q];exact h⟩
def ER.asg(E:ER K st σ H O Z)(e:st[i]?=some t)(h:DA K (U O Z) H v d):ER K (st.set i (.v d)) (σ.set i (some v)) H O Z:=by
 have hi:i<σ.length:=by rw[<-E.len];exact(Yd.mp e).1
 have sg:(σ.set i (some v))[i]?=some (some v):=by rw[A6,if_pos rfl,if_pos hi]
 have ne:∀(j:Nat) s x,(st.set i (.v d))[j]?=some s->s.ow=some x->i≠j/\st[j]?=some s:=fun j s x h1 h2=>by
  by_cases q:i=j
  ·subst q;rw[aZ e]at h1;cases h1;cases h2
  ·exact⟨q,by rw[ax q]at h1;exact h1⟩
 refine⟨by simp[E.len],fun j x hj=>?_,fun j s x h1 h2=>?_,fun j k s s' x x' r h1 h2 h3 h4 h5 h6=>?_,E.dis,E.liv⟩
 ·by_cases q:i=j
  ·subst q;rw[aZ e]at hj;cases hj;exact⟨v,sg,h⟩
  ·rw[ax q]at hj;obtain⟨w,g1,g2⟩:=E.val j x hj;exact⟨w,by rw[ax q];exact g1,g2⟩
 ·obtain⟨q,h1⟩:=ne j s x h1 h2;obtain⟨r,g1,g2⟩:=E.own j s x h1 h2;exact⟨r,by rw[ax q];exact g1,g2⟩
 ·obtain⟨q1,h1⟩:=ne j s x h1 h2;obtain⟨q2,h3⟩:=ne k s' x' h3 h4;rw[ax q1]at h5;rw[ax q2]at h6;exact E.uni j k s s' x x' r h1 h2 h3 h4 h5 h6
def ER.asgF(E0:ER K st σ H O Z)(E:ER K st σ H (ins p O) Z)(np:¬ O p)(e:st[i]?=some t)(h:OA K (ins p (U O Z)) H p x):ER K (st.set i (.o x)) (σ.set i (some (.ref p))) H (ins p O) Z:=by
 have hi:i<σ.length:=by rw[<-E.len];exact(Yd.mp e).1
 have sg:(σ.set i (some (V.ref p)))[i]?=some (some (.ref p)):=by rw[A6,if_pos rfl,if_pos hi]
 have fresh:∀(j:Nat) s y,st[j]?=some s->s.ow=some y->σ[j]?≠some (some (.ref p)):=fun j s y h1 h2 z=>by
  obtain⟨r,g1,g2,_⟩:=E0.own j s y h1 h2;rw[z]at g1;cases g1;exact np g2
 refine⟨by simp[E.len],fun j y hj=>?_,fun j s y h1 h2=>?_,fun j k s s' y y' r h1 h2 h3 h4 h5 h6=>?_,E.dis,E.liv⟩
 ·by_cases q:i=j
  ·subst q;rw[aZ e]at hj;cases hj
  ·rw[ax q]at hj;obtain⟨w,g1,g2⟩:=E.val j y hj;exact⟨w,by rw[ax q];exact g1,g2⟩
 ·by_cases q:i=j
  ·subst q;rw[aZ e]at h1;cases h1;cases h2;refine⟨p,sg,.inl rfl,h.go rfl (fun _ _ e _=>e) fun b z=>.inl ?_⟩;rcases z with(z|z)|z
   ·exact .inl z
   ·exact .inr (.inl z)
   ·exact .inr (.inr z)
  ·rw[ax q]at h1;obtain⟨r,g1,g2⟩:=E.own j s y h1 h2;exact⟨r,by rw[ax q];exact g1,g2⟩
 ·by_cases q1:i=j
  ·by_cases q2:i=k
   ·exact q1.symm.trans q2
   ·subst q1;rw[ax q2]at h3 h6;rw[sg]at h5;cases h5;exact absurd h6 (fresh k s' y' h3 h4)
  ·by_cases q2:i=k
   ·subst q2;rw[ax q1]at h1 h5;rw[sg]at h6;cases h6;exact absurd h5 (fresh j s y h1 h2)
   ·rw[ax q1]at h1 h5;rw[ax q2]at h3 h6;exact E.uni j k s s' y y' r h1 h2 h3 h4 h5 h6
def gN(i:Nat):FG:=fun d st=>mV i (.v d) st
def bY(i:Nat):LO K (qg i) (gN i) [i]:=by
 intro st σ H O Z x d Q E da zW h q;obtain⟨t,e,n,rfl⟩:=pJ h;refine q (σ.set i (some x)) (fun j hj=>?_) (tR e n) (E.asg e da);have q:i≠j:=fun z=>hj (by rw[z];simp)
 exact⟨ax q,ax q⟩
def Jl(K:W.Frag)(g:Pw)(fg:List D->En->Option En)(tg:List Nat):Prop:=∀(st:En)(σ:St)(H:Hp)(O Z:AS)(xs:List V)(ds:List D)(Q:St->Hp->Prop),ER K st σ H O Z->El K (U O Z) H xs ds->∀zW,fg ds st=some zW->
 (∀σ',(∀j,j∉tg->σ'[j]?=σ[j]?/\zW[j]?=st[j]?)->Kq st σ zW σ'->ER K zW σ' H O Z->Q σ' H)->g xs σ H Q
def qq:List D->En->Option En:=fun ds st=>match ds with|[]=>some st|_=>none
theorem iz:Jl K PZ qq []:=by
 intro st σ H O Z xs ds Q E el zW h q;cases ds with
 |nil=>
  cases h;exact⟨el.unnil,q σ (fun j _=>⟨rfl,rfl⟩) (Kq.refl _ _) E⟩
 |cons d ds=>cases h
def ij(fg:FG)(fgs:List D->En->Option En):List D->En->Option En:=fun ds st=>match ds with|d::r=>(fg d st).bind fun zV=>fgs r zV|[]=>none
theorem cb(h1:LO K g fg t1)(h2:Jl K gs fgs t2):Jl K (Lp g gs) (ij fg fgs) (t1++t2):=by
 intro st σ H O Z xs ds Q E el zW h q;cases ds with
 |nil=>cases h
 |cons d ds=>
  refine bO h fun zV e1 h=>?_;obtain⟨v,r,rfl,da,el⟩:=el.uncons;refine⟨v,r,rfl,h1 st σ H O Z v d _ E da zV e1 fun σ1 k1 q1 E1=>?_⟩;refine h2 zV σ1 H O Z r ds _ E1 el zW h fun σ2 k2 q2 E2=>q σ2 (fun j hj=>?_) (q1.trans q2) E2;have a:=k1 j fun z=>hj (Xh _ z);have b:=k2 j fun z=>hj (Vd _ z);exact⟨b.1.trans a.1,b.2.trans a.2⟩
def gT(n:Nat)(fgs:List D->En->Option En):FG:=fun d st=>match d with|.tup ds=>if ds.length=n then fgs ds st else none|_=>none
theorem kC(h:Jl K gs fgs t):LO K (MF K n gs) (gT n fgs) t:=by
 intro st σ H O Z x d Q E da zW e q;cases d with
 |tup ds=>
  obtain⟨hn,e⟩:=aH e;cases da with|tup h1 h2 h3=>exact⟨_,_,rfl,h1.sq,h2.trans hn,h st σ H O Z _ ds Q E ⟨h2,h3⟩ zW e q⟩
 |_=>cases e
abbrev FI:=En->Option (List D×En)
def Qr(K:W.Frag)(Z:AS)(J:It)(items:List D)(H:Hp)(O:AS):Prop:=∀H' O',Ext O H O' H'->(∀p,U O' Z p->Lv H' p)->(∀i,items.length<=i->J.stop i H')/\∀(i:Nat) d,items[i]?=some d->J.go i H'/\∀x H'',J.yld i H' x H''->Same H' H''/\DA K (U O' Z) H'' x d
def RdI(K:W.Frag)(wi:TI)(fi:FI):Prop:=∀(st:En)(σ:St)(H:Hp)(O Z:AS)(R:It->Hp->Prop),ER K st σ H O Z->∀items zW,fi st=some (items,zW)->
 (∀J H' O',Ext O H O' H'->Kp st zW->ER K zW σ H' O' Z->Qr K Z J items H' O'->R J H')->wi σ H R
def esc(r:Rs)(st:En):Option (D×En):=(cont st r).bind fun d=>(Fi st r).bind fun zV=>some (d,zV)
theorem RVal.esc(h:RVal K Z st σ H O v r)(E:ER K st σ H O Z)(e:esc r st=some (d,zW)):∃O',Ext O H O' H/\Kp st zW/\ER K zW σ H O' Z/\DA K (U O' Z) H v d:=by
 refine bO e fun x e1 e=>?_;refine bO e fun s1 e2 e=>?_;cases e;exact h.frz E e2 e1
def D.its:D->Option (List D)|.lst ds=>some ds|.fl ds=>some ds|_=>none
def D.itt:D->Option (List D)|.tup ds=>some ds|_=>none
def PB(fe:FE):FI:=fun st=>(fe st).bind fun x=>(esc x.1 x.2).bind fun y=>(y.1.its).bind fun ds=>some (ds,y.2)
def Jm(h:dU K te fe):RdI K (xY K te) (PB fe):=by
 intro st σ H O Z R E items zW e q;refine dD e fun r zV e1 e=>?_;refine dD e fun d st2 e2 e=>?_;refine bO e fun ds e3 e=>?_;cases e;refine h st σ H O Z _ E r zV e1 fun v H1 O1 x1 k1 E1 rv w1=>?_;obtain⟨O2,x2,k2,E2,da⟩:=rv.esc E1 e2;have fin:∀{a:Addr}{vs:List V},El K (U O2 Z) H1 vs items->(∀H' O',Ext O2 H1 O' H'->ii K H' a vs)->xY K (fun _ H Q=>Q (.ref a) H) σ H1 R:=fun {a vs} el sq=>by
  refine⟨a,rfl,⟨vs,sq H1 O2 (Ext.refl _ _)⟩,q _ H1 O2 (x1.trans x2) (k1.trans k2) E2 fun H' O' ex _=>?_⟩;have g1:=sq H' O' ex;have el':=el.ext ex;have hl:=el.1;refine⟨fun i hi=>⟨vs,g1,by lia⟩,fun i d hd=>?_⟩
  obtain⟨v,hv,hdv⟩:=el'.at hd;refine⟨⟨vs,v,g1,hv⟩,fun x H'' hx=>?_⟩;obtain⟨rfl,hx⟩:=hx;have:=hx vs g1;rw[hv]at this;cases this;exact⟨Same.refl _,hdv⟩
 cases d with
 |lst ds'=>
  cases e3;cases da with|@lst a vs _ h0 h1 h2 h3=>exact fin ⟨h2,h3⟩ fun H' O' ex=>.inl (.inl (ex.kp a _ h1 fun z=>h0 (.inl z)))
 |fl ds'=>
  cases e3;cases da with
  |@fl a vs _ h1 h2 h3=>
   refine fin ⟨h2,h3⟩ fun H' O' ex=>?_;rcases h1 with⟨h1,hn⟩|h1
   ·exact .inl (Rd.keep h1 fun o e=>ex.kp a o e fun z=>hn (.inl z))
   ·exact h1 H'
 |_=>cases e3
def SS(fe:FE):FI:=fun st=>(fe st).bind fun x=>(esc x.1 x.2).bind fun y=>(y.1.itt).bind fun ds=>some (ds,y.2)
theorem Nl(h:dU K te fe):RdI K (MH K te) (SS fe):=by
 intro st σ H O Z R E items zW e q;refine dD e fun r zV e1 e=>?_;refine dD e fun d st2 e2 e=>?_;refine bO e fun ds e3 e=>?_;cases e;refine h st σ H O Z _ E r zV e1 fun v H1 O1 x1 k1 E1 rv w1=>?_;obtain⟨O2,x2,k2,E2,da⟩:=rv.esc E1 e2;cases d with
 |tup ds'=>
  cases e3;cases da with
  |@tup a vs _ h1 h2 h3=>
   refine⟨a,rfl,⟨vs,h1.sq⟩,q _ H1 O2 (x1.trans x2) (k1.trans k2) E2 fun H' O' ex _=>?_⟩;have da':=(DA.tup h1 h2 h3).ext ex;cases da' with
   |@tup _ ws _ g1 g2 g3=>
    refine⟨fun i hi=>⟨ws,g1.sq,by lia⟩,fun i d hd=>?_⟩
    obtain⟨v,hv,hdv⟩:=El.at ⟨g2,g3⟩ hd;refine⟨⟨ws,v,g1.sq,hv⟩,fun x H'' hx=>?_⟩;obtain⟨rfl,hx⟩:=hx;have:=hx ws g1.sq;rw[hv]at this;cases this;exact⟨Same.refl _,hdv⟩
 |_=>cases e3
def rng(lo:Int)(n:Nat):List D:=(List.range n).map fun(i:Nat)=>D.int (lo+(i:Int))
def Fn(h:(rng lo n)[i]?=some d):i<n/\d=.int (lo+i):=by grind [rng]
def gw(lo:Int)(n:Nat):(rng lo n).length=n:=by simp[rng]
def Fo:Qr K Z (SN lo n) (rng lo n) H O:=fun H' O' ex _=>by
 refine⟨fun i hi=>by rw[gw]at hi;exact hi,fun i d hd=>?_⟩
 obtain⟨h1,rfl⟩:=Fn hd;refine⟨h1,fun x H'' hx=>?_⟩;obtain⟨rfl,rfl⟩:=hx;exact⟨Same.refl _,.int _⟩
def Nn:List D->Option Int|[.int j]=>some j|_=>none
def pc(fa:FA):FI:=fun st=>(fa st).bind fun x=>(dL x.2 x.1).bind fun ds=>(Nn ds).bind fun j=>if -(2 ^ 62)<=j/\j<2 ^ 62 then some (rng 0 j.toNat,x.2) else none
def yx(h:wH K ta fa):RdI K (Lq ta) (pc fa):=by
 intro st σ H O Z R E items zW e q;refine dD e fun rs zV e1 e=>?_;refine bO e fun ds e2 e=>?_;refine bO e fun j e3 e=>?_;obtain⟨hc,e⟩:=aH e;cases e;refine h st σ H O Z _ E rs _ e1 fun vs H1 O1 x1 k1 E1 rvs=>?_;have bs:=rvs.bas E1 e2;have ed:ds=[.int j]:=by
  unfold Nn at e3;split at e3
  ·cases e3;rfl
  ·cases e3
 subst ed;cases bs with
 |cons b1 b2=>
  cases b2;obtain rfl:=(show _=V.int j from b1);exact⟨j,rfl,hc.1,hc.2,q _ H1 O1 x1 k1 E1 Fo⟩
def qr(x:Str):List D:=x.cps.toList.map fun c=>D.str ⟨#[c]⟩
def TN(fe:FE):FI:=fun st=>(fe st).bind fun x=>match cont x.2 x.1 with|some (.str z)=>some (qr z,x.2)|_=>none
def No(h:dU K te fe):RdI K (M7 te) (TN fe):=by
 intro st σ H O Z R E items zW e q;refine dD e fun r zV e1 e=>?_;refine h st σ H O Z _ E r zV e1 fun v H1 O1 x1 k1 E1 rv w1=>?_;dsimp only at e;split at e
 ·rename_i z ez
  cases e;have ev:v=.str z:=rv.ba E1 ez;refine⟨z,ev,q _ H1 O1 x1 k1 E1 fun H' O' ex _=>⟨fun i hi=>?_,fun i d hd=>?_⟩⟩
  ·show z.cps.size<=i;simpa[qr]using hi
  ·unfold qr at hd;rw[Ve]at hd;obtain⟨c,hc,rfl⟩:=Qe.mp hd;have hc':z.cps[i]?=some c:=by simpa using hc
   refine⟨(Array.getElem?_eq_some_iff.mp hc').1,fun x H'' hx=>?_⟩;obtain⟨rfl,c',h1,rfl⟩:=hx;rw[hc']at h1;cases h1;exact⟨Same.refl _,.str _⟩
 ·cases e
inductive Ot where
 | nx (st:En)|rt (r:Rs) (st:En)|bk (st:En)|ct (st:En)
abbrev FS:=En->Option Ot
def Out(K:W.Frag)(Z O:AS)(H:Hp)(st:En)(σ:St)(Dn:Ends):Ot->Prop|.nx zW=>∀σ' H' O',Ext O H O' H'->Kq st σ zW σ'->ER K zW σ' H' O' Z->Dn.nx σ' H'|.rt r zW=>∀v σ' H' O',Ext O H O' H'->Kq st σ zW σ'->ER K zW σ' H' O' Z->RVal K Z zW σ' H' O' v r->Fsh H v r->Dn.rt v H'|.bk zW=>∀σ' H' O',Ext O H O' H'->Kq st σ zW σ'->ER K zW σ' H' O' Z->Dn.bk σ' H'|.ct zW=>∀σ' H' O',Ext O H O' H'->Kq st σ zW σ'->ER K zW σ' H' O' Z->Dn.ct σ' H'
def qt(K:W.Frag)(ts:TS)(F:FS):Prop:=∀(st:En)(σ:St)(H:Hp)(O Z:AS)(Dn:Ends),ER K st σ H O Z->∀o,F st=some o->Out K Z O H st σ Dn o->ts Dn σ H
theorem Out.trans(h:Out K Z O H st σ Dn o)(x:Ext O H O1 H1)(k:Kq st σ zV σ'):Out K Z O1 H1 zV σ' Dn o:=by
 cases o with|nx s=>exact fun σ2 H2 O2 x2 k2 E2=>h σ2 H2 O2 (x.trans x2) (k.trans k2) E2|bk s=>exact fun σ2 H2 O2 x2 k2 E2=>h σ2 H2 O2 (x.trans x2) (k.trans k2) E2|ct s=>exact fun σ2 H2 O2 x2 k2 E2=>h σ2 H2 O2 (x.trans x2) (k.trans k2) E2|rt r s=>exact fun v σ2 H2 O2 x2 k2 E2 rv w=>h v σ2 H2 O2 (x.trans x2) (k.trans k2) E2 rv (w.back x)
def bP:FS:=fun st=>some (.nx st)
def Jo:qt K Ln bP:=by
 intro st σ H O Z Dn E o e q;cases e;exact q σ H O (Ext.refl _ _) (Kq.refl _ _) E
def ay(F G:FS):FS:=fun st=>(F st).bind fun o=>match o with|.nx s=>G s|o=>some o
theorem Fp(h1:qt K t F)(h2:qt K u G):qt K (PU t u) (ay F G):=by
 intro st σ H O Z Dn E o e q;refine bO e fun o1 e1 e=>?_;refine h1 st σ H O Z _ E o1 e1 ?_;cases o1 with|nx s=>exact fun σ1 H1 O1 x1 k1 E1=>h2 s σ1 H1 O1 Z Dn E1 o e (q.trans x1 k1)|bk s=>cases e;exact q|ct s=>cases e;exact q|rt r s=>cases e;exact q
def bV(fe:FE):FS:=fun st=>(fe st).bind fun x=>some (.nx x.2)
def yy(h:dU K te fe):qt K (Lo te) (bV fe):=by
 intro st σ H O Z Dn E o e q;refine dD e fun r zV e1 e=>?_;cases e;exact h st σ H O Z _ E r zV e1 fun v H1 O1 x1 k1 E1 rv w1=>q σ H1 O1 x1 k1.kq E1
def be(fe:FE):FS:=fun st=>(fe st).bind fun x=>some (.rt x.1 x.2)
def Fq(h:dU K te fe):qt K (PV te) (be fe):=by
 intro st σ H O Z Dn E o e q;refine dD e fun r zV e1 e=>?_;cases e;exact h st σ H O Z _ E r zV e1 fun v H1 O1 x1 k1 E1 rv w1=>q v σ H1 O1 x1 k1.kq E1 rv w1
def fP(f:FT)(F G:FS):FS:=fun st=>(f st).bind fun x=>if x.1=true then F x.2 else G x.2
theorem LP(hc:wI K c f)(h1:qt K t F)(h2:qt K u G):qt K (PX c t u) (fP f F G):=by
 intro st σ H O Z Dn E o e q;refine dD e fun b zV e1 e=>?_;refine hc st σ H O Z _ E b zV e1 fun H1 O1 x1 k1 E1=>?_;cases b with
 |true=>
  rw[if_pos rfl]at e ⊢;exact h1 zV σ H1 O1 Z Dn E1 o e (q.trans x1 k1.kq)
 |false=>
  simp only[Xg,if_false]at e ⊢;exact h2 zV σ H1 O1 Z Dn E1 o e (q.trans x1 k1.kq)
def aV(fe:FE)(i:Nat):FS:=fun st=>(fe st).bind fun x=>match x.1 with|.d y=>(mV i (.v y) x.2).bind fun s=>some (.nx s)|.f y=>(mV i (.o y) x.2).bind fun s=>some (.nx s)|.s j=>(esc (.s j) x.2).bind fun y=>(mV i (.v y.1) y.2).bind fun s=>some (.nx s)
theorem Fr(h:dU K te fe):qt K (wK te (qg i)) (aV fe i):=by
 intro st σ H O Z Dn E o e q;refine dD e fun r zV e1 e=>?_;refine h st σ H O Z _ E r zV e1 fun v H1 O1 x1 k1 E1 rv w1=>?_;show Dn.nx (σ.set i (some v)) H1;cases r with
 |d y=>
  refine bO e fun s e2 e=>?_;cases e;obtain⟨t,f1,f2,rfl⟩:=pJ e2;exact q _ H1 O1 x1 (k1.kq.trans (tR f1 f2)) (E1.asg f1 rv)
 |f y=>
  refine bO e fun s e2 e=>?_;cases e;obtain⟨t,f1,f2,rfl⟩:=pJ e2;obtain⟨p,rfl,np,nz,ho,E2⟩:=rv;have hp:H p=none:=w1 p rfl;exact q _ H1 (ins p O1) ⟨x1.kp,fun b z=>z.elim (fun y=>by rw[y];exact .inr hp) (x1.nw b),x1.al,x1.lv⟩ (k1.kq.trans (tR f1 f2)) (E1.asgF E2 np f1 ho)
 |s j=>
  refine dD e fun d st2 e2 e=>?_;refine bO e fun s e3 e=>?_;cases e;obtain⟨O2,x2,k2,E2,da⟩:=rv.esc E1 e2;obtain⟨t,f1,f2,rfl⟩:=pJ e3;exact q _ H1 O2 (x1.trans x2) ((k1.kq.trans k2.kq).trans (tR f1 f2)) (E2.asg f1 da)
end
end VF
namespace VF
open L2
section
variable {K:W.Frag}{Y Y' O O' O1 O2 Z:AS}{H H' H1 H2:Hp}{v:V}{d:D}{vs:List V}{ds:List D}{a p:Addr}{st zW zV st2:En}{σ σ':St}
def Fs(fe:FE)(fg:FG):FS:=fun st=>(fe st).bind fun x=>(esc x.1 x.2).bind fun y=>(fg y.1 y.2).bind fun s=>some (.nx s)
def Ft(h:dU K te fe)(hg:LO K g fg tg):qt K (wK te g) (Fs fe fg):=by
 intro st σ H O Z Dn E o e q;refine dD e fun r zV e1 e=>?_;refine dD e fun d st2 e2 e=>?_;refine bO e fun s e3 e=>?_;cases e;refine h st σ H O Z _ E r zV e1 fun v H1 O1 x1 k1 E1 rv w1=>?_;obtain⟨O2,x2,k2,E2,da⟩:=rv.esc E1 e2;exact hg st2 σ H1 O2 Z v d _ E2 da s e3 fun σ' _ k3 E3=>q σ' H1 O2 (x1.trans x2) ((k1.kq.trans k2.kq).trans k3) E3
def cN(fg:FG)(B:FS):List D->FS
 |[],st=>some (.nx st)
 | x::r,st=>(fg x st).bind fun s1=>(B s1).bind fun o=>match o with|.nx s2=>cN fg B r s2|.ct s2=>cN fg B r s2|.bk s2=>some (.nx s2)|.rt y s2=>some (.rt y s2)
def ik(fi:FI)(fg:FG)(B:FS):FS:=fun st=>(fi st).bind fun x=>cN fg B x.1 x.2
def tT(hi:RdI K wi fi)(hg:LO K g fg tg)(hb:qt K tb B):qt K (MJ wi g tb) (ik fi fg B):=by
 intro st σ H O Z Dn E o e q;refine dD e fun items zV e1 e=>?_;refine hi st σ H O Z _ E items zV e1 fun J H1 O1 x1 k1 E1 it=>?_;have q1:=q.trans x1 (k1.kq (σ:=σ));refine⟨fun i m σ' H'=>m=items.length-i/\i<=items.length/\∃s O',Ext O1 H1 O' H'/\Kq zV σ s σ'/\ER K s σ' H' O' Z/\cN fg B (items.drop i) s=some o,⟨items.length,by simp,Xi _,zV,O1,Ext.refl _ _,Kq.refl _ _,E1,e⟩,?_⟩
 rintro i m σ' H' ⟨rfl,hle,s,O',x2,k2,E2,e2⟩;obtain⟨stop,go⟩:=it H' O' x2 E2.liv;by_cases hlt:i<items.length
 ·right;have hd:items.drop i=items[i]::items.drop (i+1):=By hlt;rw[hd]at e2;refine bO e2 fun s1 e3 e2=>?_;refine bO e2 fun o1 e4 e2=>?_;obtain⟨g1,g2⟩:=go i _ (Ya hlt);refine⟨g1,fun σ3 H3=>∃s O3,Ext O1 H1 O3 H3/\Kq zV σ s σ3/\ER K s σ3 H3 O3 Z/\cN fg B (items.drop (i+1)) s=some o,fun σ3 H3 ⟨s3,O3,x3,k3,E3,e3'⟩=>⟨items.length-(i+1),by lia,rfl,hlt,s3,O3,x3,k3,E3,e3'⟩,fun x H'' hy=>?_⟩
  obtain⟨sm,da⟩:=g2 x H'' hy;have xm:Ext O' H' O' H'':=Same.ext sm;refine hg s σ' H'' O' Z x _ _ (E2.same sm) da s1 e3 fun σ4 _ k4 E4=>?_;refine hb s1 σ4 H'' O' Z _ E4 o1 e4 ?_;have xx:=x2.trans xm;cases o1 with
  |nx s2=>exact fun σ5 H5 O5 x5 k5 E5=>⟨s2,O5,xx.trans x5,(k2.trans k4).trans k5,E5,e2⟩
  |ct s2=>exact fun σ5 H5 O5 x5 k5 E5=>⟨s2,O5,xx.trans x5,(k2.trans k4).trans k5,E5,e2⟩
  |bk s2=>
   cases e2;exact fun σ5 H5 O5 x5 k5 E5=>q1 σ5 H5 O5 (xx.trans x5) ((k2.trans k4).trans k5) E5
  |rt y s2=>
   cases e2;exact fun v σ5 H5 O5 x5 k5 E5 rv w=>q1 v σ5 H5 O5 (xx.trans x5) ((k2.trans k4).trans k5) E5 rv (w.back xx)
 ·left;have hn:items.drop i=[]:=BU (by lia)
  rw[hn]at e2;cases e2;exact⟨stop i (by lia),q1 σ' H' O' x2 k2 E2⟩
def IS(f:FT)(B:FS):Nat->FS
 |0,_=>none
 | n+1,st=>(f st).bind fun x=>if x.1=true then(B x.2).bind fun o=>match o with|.nx s2=>IS f B n s2|.ct s2=>IS f B n s2|.bk s2=>some (.nx s2)|.rt y s2=>some (.rt y s2)
  else some (.nx x.2)
theorem vf(n:Nat)(hc:wI K c f)(hb:qt K tb B):qt K (EM c tb) (IS f B n):=by
 intro st σ H O Z Dn E o e q;refine⟨fun m σ' H'=>∃s O',Ext O H O' H'/\Kq st σ s σ'/\ER K s σ' H' O' Z/\IS f B m s=some o,⟨n,st,O,Ext.refl _ _,Kq.refl _ _,E,e⟩,?_⟩;rintro m σ' H' ⟨s,O',x2,k2,E2,e2⟩;cases m with
 |zero=>cases e2
 |succ m=>
  refine dD e2 fun b s1 e3 e2=>?_;refine hc s σ' H' O' Z _ E2 b s1 e3 fun H3 O3 x3 k3 E3=>?_;have xx:=x2.trans x3;have kk:=k2.trans (k3.kq (σ:=σ'));cases b with
  |false=>
   simp only[Xg,if_false]at e2 ⊢;cases e2;exact q σ' H3 O3 xx kk E3
  |true=>
   rw[if_pos rfl]at e2 ⊢;refine bO e2 fun o1 e4 e2=>?_;refine⟨fun σ5 H5=>∃s O5,Ext O H O5 H5/\Kq st σ s σ5/\ER K s σ5 H5 O5 Z/\IS f B m s=some o,fun σ5 H5 h=>⟨m,AN _,h⟩,?_⟩;refine hb s1 σ' H3 O3 Z _ E3 o1 e4 ?_;cases o1 with
   |nx s2=>exact fun σ5 H5 O5 x5 k5 E5=>⟨s2,O5,xx.trans x5,kk.trans k5,E5,e2⟩
   |ct s2=>exact fun σ5 H5 O5 x5 k5 E5=>⟨s2,O5,xx.trans x5,kk.trans k5,E5,e2⟩
   |bk s2=>
    cases e2;exact fun σ5 H5 O5 x5 k5 E5=>q σ5 H5 O5 (xx.trans x5) (kk.trans k5) E5
   |rt y s2=>
    cases e2;exact fun v σ5 H5 O5 x5 k5 E5 rv w=>q v σ5 H5 O5 (xx.trans x5) (kk.trans k5) E5 rv (w.back xx)
structure RdM(K:W.Frag)(T:String)(r:V->List V->Hp->VK->Prop)(ok:D->Bool)(m:D->List D->Option (D×D)):Prop where
 ty:∀(Y:AS)(H:Hp)(p:Addr)(x:D),OA K Y H p x->ok x=true->Qn K T (.ref p) H
 run:∀(Y:AS)(H:Hp)(p:Addr)(x:D)(vs:List V)(ds:List D)(y x':D)(Q:VK),Y p->OA K Y H p x->El K Y H vs ds->m x ds=some (y,x')->
  (∀v o,DA K Y (upd H p o) v y->OA K Y (upd H p o) p x'->Q v (upd H p o))->r (.ref p) vs H Q
def fM(ok:D->Bool)(m:D->List D->Option (D×D))(i:Nat)(fa:FA):FE:=fun st=>(st[i]?).bind fun s0=>(s0.ow).bind fun x0=>if ok x0=true then(fa st).bind fun x=>(d8 x.1 x.2).bind fun y=>(y.2[i]?).bind fun s=>(s.ow).bind fun d=>(m d y.1).bind fun z=>some (.d z.1,y.2.set i (s.put z.2)) else none
def Qs(hm:RdM K T r ok m)(ha:wH K ta fa):dU K (SR K T r (uU i) ta) (fM ok m i fa):=by
 intro st σ H O Z Q E r0 zW h q;refine bO h fun s0 f1 h=>?_;refine bO h fun x0 f2 h=>?_;obtain⟨hok,h⟩:=aH h;refine dD h fun rs zV e1 h=>?_;refine dD h fun ds st2 e2 h=>?_;refine bO h fun s e3 h=>?_;refine bO h fun x e4 h=>?_;refine dD h fun y x' e5 h=>?_;cases h;obtain⟨p,g1,g2,g3⟩:=E.own i s0 x0 f1 f2;refine⟨.ref p,g1,hm.ty _ _ _ _ g3 hok,?_⟩;refine ha st σ H O Z _ E rs zV e1 fun vs H1 O1 x1 k1 E1 rvs=>?_;obtain⟨O2,x2,k2,E2,el⟩:=rvs.esc E1 e2;obtain⟨p',j1,j2,j3⟩:=E2.own i s x e3 e4;have ep:p'=p:=by rw[g1]at j1;cases j1;rfl
 subst ep;refine hm.run (U O2 Z) H1 p' x vs ds y x' _ (.inl j2) j3 el e5 fun v o da ho=>?_;obtain⟨E3,x3,k3⟩:=E2.write e3 e4 g1 ho;exact q v _ O2 ((x1.trans x2).trans x3) ((k1.trans k2).trans k3) E3 da True.intro
def Fu(K:W.Frag)(t:IW)(m:D->D->D->Option D):Prop:=∀(Y:AS)(H:Hp)(p:Addr)(x:D)(k v:V)(dk dv x':D)(Q:Hp->Prop),Y p->OA K Y H p x->BA K Y H k dk->DA K Y H v dv->m x dk dv=some x'->
 (∀o,OA K Y (upd H p o) p x'->Q (upd H p o))->t (.ref p) k v H Q
def nZ(m:D->D->D->Option D)(fe:FE)(i:Nat)(fi:FE):FS:=fun st=>(fe st).bind fun x=>(esc x.1 x.2).bind fun y=>(y.2[i]?).bind fun s0=>(s0.ow).bind fun _=>(fi y.2).bind fun w=>(cont w.2 w.1).bind fun dk=>(w.2[i]?).bind fun s=>(s.ow).bind fun z=>(m z dk y.1).bind fun z'=>some (.nx (w.2.set i (s.put z')))
def Fv(hm:Fu K t m)(he:dU K te fe)(hi:dU K ti fi):qt K (wK te (P0 (uU i) ti t)) (nZ m fe i fi):=by
 intro st σ H O Z Dn E o e q;refine dD e fun r zV e1 e=>?_;refine dD e fun dv st2 e2 e=>?_;refine bO e fun s0 e3 e=>?_;refine bO e fun x0 e4 e=>?_;refine dD e fun rk st3 e5 e=>?_;refine bO e fun dk e6 e=>?_;refine bO e fun s e7 e=>?_;refine bO e fun x e8 e=>?_;refine bO e fun x' e9 e=>?_;cases e;refine he st σ H O Z _ E r zV e1 fun v H1 O1 x1 k1 E1 rv w1=>?_;obtain⟨O2,x2,k2,E2,da⟩:=rv.esc E1 e2;obtain⟨p,g1,g2,g3⟩:=E2.own i s0 x0 e3 e4;refine⟨.ref p,g1,?_⟩;refine hi st2 σ H1 O2 Z _ E2 rk st3 e5 fun k H3 O3 x3 k3 E3 rk' w3=>?_;obtain⟨p',j1,j2,j3⟩:=E3.own i s x e7 e8;have ep:p'=p:=by rw[g1]at j1;cases j1;rfl
 subst ep;refine hm (U O3 Z) H3 p' x k v dk dv x' _ (.inl j2) j3 (rk'.ba E3 e6) (da.ext x3) e9 fun o ho=>?_;obtain⟨E4,x4,k4⟩:=E3.write e7 e8 g1 ho;exact q σ _ O3 (((x1.trans x2).trans x3).trans x4) (((k1.trans k2).trans k3).trans k4).kq E4
def lL(k:Nat)(zZ:List Nat)(st:En):En:=List.replicate k Sl.e++zZ.map fun i=>(st[i]?).getD .e
def rR(k:Nat)(s:En):En:=List.replicate k Sl.e++s.drop k
def wb:List Nat->En->En->En|i::r,s::sb,st=>wb r sb (st.set i s)|_,_,st=>st
def cF(fg:FG)(fc:FT)(fe:FE)(k:Nat):List D->En->Option (List D×En)
 |[],sb=>some ([],sb)
 | x::r,sb=>(fg x sb).bind fun s1=>(fc s1).bind fun c=>if c.1=true then(fe c.2).bind fun y=>(esc y.1 y.2).bind fun w=>(cF fg fc fe k r (rR k w.2)).bind fun z=>some (w.1::z.1,z.2)
  else cF fg fc fe k r (rR k c.2)
def tU(zZ:List Nat)(n:Nat):Bool:=decide zZ.Nodup&&zZ.all fun i=>decide (i<n)
def bQ(k:Nat)(zZ:List Nat)(fi:FI)(fg:FG)(fc:FT)(fe:FE):FE:=fun st=>(fi st).bind fun x=>if (tU zZ x.2.length&&decide (x.1.length<=1000000))=true then(cF fg fc fe k x.1 (lL k zZ x.2)).bind fun y=>some (.f (.lst y.1),wb zZ (y.2.drop k) x.2) else none
theorem wW:∀(zZ:List Nat)(sb st:En),(wb zZ sb st).length=st.length|[],_,_=>by simp[wb]|_::_,[],_=>by simp[wb]|i::r,s::sb,st=>by rw[wb,wW r sb];simp
theorem qu:∀(zZ:List Nat)(sb st:En){i:Nat},i∉zZ->(wb zZ sb st)[i]?=st[i]?
 |[],_,_,_,_=>by simp[wb]
 |_::_,[],_,_,_=>by simp[wb]
 | j::r,s::sb,st,i,h=>by
  rw[wb,qu r sb _ (fun z=>h (Wa _ z))];exact ax fun z=>h (by rw[z];simp)
theorem Fw:∀(zZ:List Nat)(sb st:En){j i:Nat},zZ.Nodup->sb.length=zZ.length->zZ[j]?=some i->i<st.length->(wb zZ sb st)[i]?=sb[j]?
 |[],_,_,_,_,_,_,h,_=>by simp at h
 |_::_,[],_,_,_,_,h,_,_=>by simp at h
 | c::r,s::sb,st,0,i,nd,hl,h,hi=>by
  have e:c=i:=by simpa using h
  subst e;rw[wb,qu r sb _ (Zh.mp nd).1];rw[A6,if_pos rfl,if_pos hi];rfl
 | c::r,s::sb,st,j+1,i,nd,hl,h,hi=>by
  rw[wb,Fw r sb _ (j:=j) (Zh.mp nd).2 (by simpa using hl) (by simpa using h) (by simpa using hi)];rfl
def yz(h:zZ[j]?=some i):(lL k zZ st)[k+j]?=some ((st[i]?).getD .e):=by grind [lL]
def mW{s:Sl}(h:(lL k zZ st)[i]?=some s)(n:s.get≠none):∃j i',i=k+j/\zZ[j]?=some i'/\st[i']?=some s:=by
 unfold lL at h;by_cases hi:i<k
 ·rw[Wj (by simpa using hi),Ql,if_pos hi]at h
  cases h;exact absurd rfl n
 ·rw[Vf (by simpa using hi),Vj,Ve]at h
  refine⟨i-k,?_⟩;obtain⟨i',e1,e2⟩:=Qe.mp h;refine⟨i',by lia,e1,?_⟩
  cases q:st[i']? with|none=>rw[q]at e2;subst e2;exact absurd rfl n|some t=>rw[q]at e2;subst e2;rfl
def lW(h:zZ[j]?=some i):(o8 k zZ σ)[k+j]?=some ((σ[i]?).getD none):=by grind [o8]
def kD{s:Sl}(h:s.ow=some d):s.get≠none:=by cases s<;>first|(cases h;done)|simp[Sl.get]
def Fx{l:List Nat}{j j' i:Nat}(nd:l.Nodup)(h:l[j]?=some i)(h':l[j']?=some i):j=j':=by
 obtain⟨h1,h2⟩:=Yd.mp h;obtain⟨h3,h4⟩:=Yd.mp h';exact(List.getElem_inj nd).mp (h2.trans h4.symm)
def Ob(zZ:List Nat)(st:En)(σ:St):AS:=fun p=>∃i∈zZ,∃s d,st[i]?=some s/\s.ow=some d/\σ[i]?=some (some (.ref p))
def Zb(zZ:List Nat)(st:En)(σ:St)(O Z:AS):AS:=fun p=>Z p\/(O p/\¬ Ob zZ st σ p)
def Ob.o(E:ER K st σ H O Z)(h:Ob zZ st σ q):O q:=by
 obtain⟨i,_,s,d,h1,h2,h3⟩:=h;obtain⟨p,g1,g2,_⟩:=E.own i s d h1 h2;rw[h3]at g1;cases g1;exact g2
def Np{k:Nat}{zZ:List Nat}(E:ER K st σ H O Z)(nd:zZ.Nodup):ER K (lL k zZ st) (o8 k zZ σ) H (Ob zZ st σ) (Zb zZ st σ O Z):=by
 have up:∀b,U (Ob zZ st σ) (Zb zZ st σ O Z) b->U O Z b:=fun b z=>z.elim (fun y=>.inl (Ob.o E y)) fun y=>y.elim .inr fun w=>.inl w.1;refine⟨by simp[lL,o8],fun i d h=>?_,fun i s d h1 h2=>?_,fun i j s t d d' p h1 h2 h3 h4 h5 h6=>?_,fun p h z=>?_,fun p h=>E.liv p (up p h)⟩
 ·obtain⟨j,i',rfl,hc,hs⟩:=mW h (by simp[Sl.get])
  obtain⟨v,g1,g2⟩:=E.val i' d hs;exact⟨v,by rw[lW hc,g1];rfl,g2.less up⟩
 ·obtain⟨j,i',rfl,hc,hs⟩:=mW h1 (kD h2);obtain⟨p,g1,g2,g3⟩:=E.own i' s d hs h2;exact⟨p,by rw[lW hc,g1];rfl,⟨i',Wc hc,s,d,hs,h2,g1⟩,g3.go rfl (fun _ _ e _=>e) fun b z=>.inl (up b z)⟩
 ·obtain⟨j1,i1,rfl,c1,s1⟩:=mW h1 (kD h2);obtain⟨j2,i2,rfl,c2,s2⟩:=mW h3 (kD h4);obtain⟨p1,g1,_⟩:=E.own i1 s d s1 h2;obtain⟨p2,g2,_⟩:=E.own i2 t d' s2 h4;rw[lW c1,g1]at h5;rw[lW c2,g2]at h6;have e1:p1=p:=by simpa using h5
  have e2:p2=p:=by simpa using h6
  subst e1;subst e2;have e:=E.uni i1 i2 s t d d' _ s1 h2 s2 h4 g1 g2;subst e;rw[Fx nd c1 c2]
 ·rcases z with z|z
  ·exact E.dis p (Ob.o E h) z
  ·exact z.2 h
def Fy{τ τ':St}(E:ER K st τ H O Z)(hl:τ'.length=τ.length)(hk:k<=st.length)(h:∀j,k<=j->τ'[j]?=τ[j]?):ER K (rR k st) τ' H O Z:=by
 have at_:∀(i:Nat) s,(rR k st)[i]?=some s->s.get≠none->k<=i/\st[i]?=some s:=fun i s e n=>by
  unfold rR at e;by_cases hi:i<k
  ·rw[Wj (by simpa using hi),Ql,if_pos hi]at e
   cases e;exact absurd rfl n
  ·rw[Vf (by simpa using hi),Vj,Zj]at e
   have:k+(i-k)=i:=by lia
   rw[this]at e;exact⟨by lia,e⟩
 refine⟨?_,fun i d e=>?_,fun i s d e1 e2=>?_,fun i j s t d d' p e1 e2 e3 e4 e5 e6=>?_,E.dis,E.liv⟩
 ·rw[hl,<-E.len];simp[rR];lia
 ·obtain⟨hk,e⟩:=at_ i _ e (by simp[Sl.get])
  obtain⟨v,g1,g2⟩:=E.val i d e;exact⟨v,by rw[h i hk];exact g1,g2⟩
 ·obtain⟨hk,e⟩:=at_ i _ e1 (kD e2);obtain⟨p,g1,g2⟩:=E.own i s d e e2;exact⟨p,by rw[h i hk];exact g1,g2⟩
 ·obtain⟨hk1,e1⟩:=at_ i _ e1 (kD e2);obtain⟨hk2,e3⟩:=at_ j _ e3 (kD e4);rw[h i hk1]at e5;rw[h j hk2]at e6;exact E.uni i j s t d d' p e1 e2 e3 e4 e5 e6
def Oo(zZ:List Nat)(st:En)(σ:St)(O Oi:AS):AS:=fun p=>Oi p\/(O p/\¬ Ob zZ st σ p)
def wX(E:ER K st σ H O Z)(x:Ext (Ob zZ st σ) H Oi H'):Ext O H (Oo zZ st σ O Oi) H' :=
 ⟨fun b o e n=>x.kp b o e fun z=>n (Ob.o E z),fun b z=>z.elim (fun y=>(x.nw b y).elim (fun w=>.inl (Ob.o E w)) .inr) fun y=>.inl y.1,x.al,x.lv⟩
def Fz{zZ:List Nat}{sb:En}(E:ER K st σ H O Z)(nd:zZ.Nodup)(lt:∀i∈zZ,i<st.length)(hl:sb.length=k+zZ.length)(x:Ext (Ob zZ st σ) H Oi H')(B:ER K sb (o8 k zZ σ) H' Oi (Zb zZ st σ O Z)) :
  ER K (wb zZ (sb.drop k) st) σ H' (Oo zZ st σ O Oi) Z:=by
 have dl:(sb.drop k).length=zZ.length:=by rw[Vg];lia
 have cap:∀(j i:Nat),zZ[j]?=some i->(wb zZ (sb.drop k) st)[i]?=sb[k+j]?:=fun j i h=>by
  rw[Fw zZ _ st nd dl h (lt i (Wc h)),Zj]
 have out:∀i,i∉zZ->(wb zZ (sb.drop k) st)[i]?=st[i]?:=fun i h=>qu zZ _ st h;have same:∀b,U (Oo zZ st σ O Oi) Z b->U Oi (Zb zZ st σ O Z) b:=fun b z=>by
  rcases z with(z|z)|z
  ·exact .inl z
  ·exact .inr (.inr z)
  ·exact .inr (.inl z)
 have kp:∀b o,H b=some o->¬ U O Z b->H' b=some o:=fun b o e n=>x.kp b o e fun z=>n (.inl (Ob.o E z));have nn:∀b,U (Oo zZ st σ O Oi) Z b->U O Z b\/H b=none:=fun b z=>by
  rcases z with z|z
  ·exact((wX E x).nw b z).elim (fun y=>.inl (.inl y)) .inr
  ·exact .inl (.inr z)
 have nob:∀(i:Nat) s d p,i∉zZ->st[i]?=some s->s.ow=some d->σ[i]?=some (some (.ref p))->¬ Ob zZ st σ p:=fun i s d p hn h1 h2 h3 z=>by
  obtain⟨i0,hm,s0,d0,g1,g2,g3⟩:=z;have:=E.uni i i0 s s0 d d0 p h1 h2 g1 g2 h3 g3;subst this;exact hn hm
 have bget:∀{j i:Nat}{v:V},zZ[j]?=some i->(o8 k zZ σ)[k+j]?=some (some v)->σ[i]?=some (some v):=fun {j i v} hc hb=>by
  rw[lW hc]at hb;have hb':=Option.some.inj hb;cases q:σ[i]? with|none=>rw[q]at hb';cases hb'|some w=>rw[q]at hb';have:w=some v:=hb';rw[this]
 have own:∀(i:Nat) s d,(wb zZ (sb.drop k) st)[i]?=some s->s.ow=some d->(∃j,zZ[j]?=some i/\sb[k+j]?=some s)\/(i∉zZ/\st[i]?=some s):=fun i s d h1 _=>by
  by_cases hc:i∈zZ
  ·obtain⟨j,hj⟩:=Xl hc;rw[cap j i hj]at h1;exact .inl ⟨j,hj,h1⟩
  ·rw[out i hc]at h1;exact .inr ⟨hc,h1⟩
 refine⟨by rw[wW];exact E.len,fun i d h=>?_,fun i s d h1 h2=>?_,fun i j s t d d' p h1 h2 h3 h4 h5 h6=>?_,fun p h=>?_,fun p h=>?_⟩
 ·by_cases hc:i∈zZ
  ·obtain⟨j,hj⟩:=Xl hc;rw[cap j i hj]at h;obtain⟨v,g1,g2⟩:=B.val _ d h;exact⟨v,bget hj g1,g2.less same⟩
  ·rw[out i hc]at h;obtain⟨v,g1,g2⟩:=E.val i d h;exact⟨v,g1,g2.go kp nn⟩
 ·rcases own i s d h1 h2 with⟨j,hj,hs⟩|⟨hc,hs⟩
  ·obtain⟨p,g1,g2,g3⟩:=B.own _ s d hs h2;exact⟨p,bget hj g1,.inl g2,g3.go rfl (fun _ _ e _=>e) fun b z=>.inl (same b z)⟩
  ·obtain⟨p,g1,g2,g3⟩:=E.own i s d hs h2;have nb:=nob i s d p hc hs h2 g1;refine⟨p,g1,.inr ⟨g2,nb⟩,g3.go ?_ kp nn⟩;cases q:H p with|none=>exact absurd q g3.live|some o=>exact x.kp p o q nb
 ·rcases own i s d h1 h2 with⟨j1,c1,s1⟩|⟨c1,s1⟩<;>rcases own j t d' h3 h4 with⟨j2,c2,s2⟩|⟨c2,s2⟩
  ·have e:=B.uni _ _ s t d d' p s1 h2 s2 h4 (by rw[lW c1,h5];rfl) (by rw[lW c2,h6];rfl)
   have e':j1=j2:=by lia
   subst e';rw[c1]at c2;exact Option.some.inj c2
  ·exfalso
   obtain⟨q,g1,g2,_⟩:=B.own _ s d s1 h2;have:=bget c1 g1;rw[h5]at this;cases this;have nb:=nob j t d' p c2 s2 h4 h6;obtain⟨q2,k1,_,k3⟩:=E.own j t d' s2 h4;rw[h6]at k1;cases k1;exact(x.nw p g2).elim nb k3.live
  ·exfalso
   obtain⟨q,g1,g2,_⟩:=B.own _ t d' s2 h4;have:=bget c2 g1;rw[h6]at this;cases this;have nb:=nob i s d p c1 s1 h2 h5;obtain⟨q2,k1,_,k3⟩:=E.own i s d s1 h2;rw[h5]at k1;cases k1;exact(x.nw p g2).elim nb k3.live
  ·exact E.uni i j s t d d' p s1 h2 s2 h4 h5 h6
 ·rcases h with h|h
  ·exact fun z=>B.dis p h (.inl z)
  ·exact E.dis p h.1
 ·rcases h with(h|h)|h
  ·exact B.liv p (.inl h)
  ·exact x.lv p (E.liv p (.inl h.1))
  ·exact x.lv p (E.liv p (.inr h))
def FB{a b:En}(h0:∀(i:Nat) s,a[i]?=some s->i<k->s=.e)(h:Kp a b)(hk:k<=b.length):Kp a (rR k b):=by
 have lk:(rR k b).length=b.length:=by simp[rR];lia
 have at_:∀i,k<=i->(rR k b)[i]?=b[i]?:=fun i hi=>by
  unfold rR;rw[Vf (by simpa using hi),Vj,Zj]
  congr 1;lia
 refine⟨lk.trans h.len,fun i s e g=>?_,fun i d e=>?_⟩
 ·by_cases hi:i<k
  ·have:=h0 i s e hi;subst this;exact absurd rfl g
  ·obtain⟨s',e',g'⟩:=h.has i s e g;exact⟨s',by rw[at_ i (by lia)];exact e',g'⟩
 ·by_cases hi:i<k
  ·have:=h0 i _ e hi;cases this
  ·obtain⟨d',e'⟩:=h.io i d e;exact⟨d',by rw[at_ i (by lia)];exact e'⟩
def Qt{zZ:List Nat}{sb:En}(nd:zZ.Nodup)(lt:∀i∈zZ,i<st.length)(hl:sb.length=k+zZ.length)(h:Kp (lL k zZ st) sb):Kp st (wb zZ (sb.drop k) st):=by
 have dl:(sb.drop k).length=zZ.length:=by rw[Vg];lia
 have cap:∀(j i:Nat),zZ[j]?=some i->(wb zZ (sb.drop k) st)[i]?=sb[k+j]?:=fun j i h=>by
  rw[Fw zZ _ st nd dl h (lt i (Wc h)),Zj]
 refine⟨wW _ _ _,fun i s e g=>?_,fun i d e=>?_⟩
 ·by_cases hc:i∈zZ
  ·obtain⟨j,hj⟩:=Xl hc;rw[cap j i hj];exact h.has (k+j) s (by rw[yz hj,e];rfl) g
  ·exact⟨s,by rw[qu _ _ _ hc];exact e,g⟩
 ·by_cases hc:i∈zZ
  ·obtain⟨j,hj⟩:=Xl hc;rw[cap j i hj];exact h.io (k+j) d (by rw[yz hj,e];rfl)
  ·exact⟨d,by rw[qu _ _ _ hc];exact e⟩
def tV(i:Nat)(s:Sl)(h:(lL k zZ st)[i]?=some s)(hi:i<k):s=.e:=by grind [Sl,lL]
def T8(K:W.Frag)(Z:AS)(zZ:List Nat)(st:En)(σ:St)(J:It)(items:List D)(H:Hp)(O:AS):Prop:=∀H' Oi,Ext (Ob zZ st σ) H Oi H'->(∀p,U (Oo zZ st σ O Oi) Z p->Lv H' p)->(∀i,items.length<=i->J.stop i H')/\∀(i:Nat) d,items[i]?=some d->J.go i H'/\∀x H'',J.yld i H' x H''->Same H' H''/\DA K (U (Oo zZ st σ O Oi) Z) H'' x d
def Qu(K:W.Frag)(zZ:List Nat)(wi:TI)(fi:FI):Prop:=∀(st:En)(σ:St)(H:Hp)(O Z:AS)(R:It->Hp->Prop),ER K st σ H O Z->∀items zW,fi st=some (items,zW)->
 (∀J H' O',Ext O H O' H'->Kp st zW->ER K zW σ H' O' Z->T8 K Z zZ zW σ J items H' O'->R J H')->wi σ H R
def RdI.ic(h:RdI K wi fi):Qu K zZ wi fi:=fun st σ H O Z R E items zW e q=>
 h st σ H O Z R E items zW e fun J H1 O1 x1 k1 E1 it=>q J H1 O1 x1 k1 E1 fun H' Oi x2 lv=>it H' _ (wX E1 x2) lv
def FC(hi:Qu K zZ wi fi)(hg:LO K g fg tg)(ht:∀j∈tg,j<k)(hc:wI K tc fc)(he:dU K te fe) :
  dU K (sw k zZ wi g tc te) (bQ k zZ fi fg fc fe):=by
 intro st σ H O Z Q E r zW h q;refine dD h fun items zV e1 h=>?_;by_cases hok:(tU zZ zV.length&&decide (items.length<=1000000))=true
 rotate_left
 ·simp only[Ah hok]at h;cases h
 simp only[if_pos hok]at h;refine dD h fun total sf e2 h=>?_;cases h;have hok1:zZ.Nodup/\(∀i∈zZ,i<zV.length)/\items.length<=1000000:=by
  rw[Wf,decide_eq_true_eq]at hok;unfold tU at hok;rw[Wf,decide_eq_true_eq,Yh]at hok;exact⟨hok.1.1,fun i hi=>Ai (hok.1.2 i hi),hok.2⟩
 obtain⟨nd,lt,hfew⟩:=hok1;refine hi st σ H O Z _ E items zV e1 fun J H1 O1 x1 k1 E1 it=>?_;have bl:(o8 k zZ σ).length=k+zZ.length:=by simp[o8]
 have el:(lL k zZ zV).length=k+zZ.length:=by simp[lL]
 refine⟨items.length,fun i xs H'=>∃sb Oi ds ds2,Ext (Ob zZ zV σ) H1 Oi H'/\ER K sb (o8 k zZ σ) H' Oi (Zb zZ zV σ O1 Z)/\El K (U Oi (Zb zZ zV σ O1 Z)) H' xs ds/\cF fg fc fe k (items.drop i) sb=some (ds2,sf)/\ds++ds2=total/\Kp (lL k zZ zV) sb/\xs.length<=i,
  ⟨lL k zZ zV,Ob zZ zV σ,[],total,Ext.refl _ _,Np E1 nd,El.nil,e2,rfl,Kp.refl _,Qa _⟩,?_,?_⟩
 ·rintro xs H' ⟨sb,Oi,ds,ds2,x2,B,exs,e3,ed,kb,_⟩;rw[BU (Qa _)]at e3;obtain⟨rfl,rfl⟩:([]:List D)=ds2/\sb=sf:=by
   have:=Option.some.inj e3;exact⟨congrArg Prod.fst this,congrArg Prod.snd this⟩
  rw[Ze]at ed;subst ed;obtain⟨stop,_⟩:=it H' Oi x2 (Fz E1 nd lt (kb.len.trans el) x2 B).liv;refine⟨stop _ (Qa _),fun p hp=>?_⟩;have sl:sb.length=k+zZ.length:=kb.len.trans el;have Eo:=Fz E1 nd lt sl x2 B;have ko:=Qt nd lt sl kb;have el2:El K (U (Oo zZ zV σ O1 Oi) Z) H' xs ds:=exs.less fun b z=>by
   rcases z with(z|z)|z
   ·exact .inl z
   ·exact .inr (.inr z)
   ·exact .inr (.inl z)
  obtain⟨E3,rv⟩:=Eo.new hp el2;have xx:=x1.trans (wX E1 x2);exact q _ _ _ (xx.trans (Same.ext (aY hp _))) (k1.trans ko) E3 rv fun p' e=>by cases e;exact xx.dead hp
 ·rintro i xs H' hlt ⟨sb,Oi,ds,ds2,x2,B,exs,e3,ed,kb,hxl⟩;have hd:items.drop i=items[i]::items.drop (i+1):=By hlt;rw[hd]at e3;refine bO e3 fun s1 e4 e3=>?_;refine dD e3 fun c s2 e5 e3=>?_;obtain⟨_,go⟩:=it H' Oi x2 (Fz E1 nd lt (kb.len.trans el) x2 B).liv;obtain⟨g1,g2⟩:=go i _ (Ya hlt);refine⟨g1,AY hxl (Xc hlt (few hfew)),fun x H'' hy=>?_⟩;obtain⟨sm,da⟩:=g2 x H'' hy;have xm:Ext Oi H' Oi H'':=Same.ext sm;have da':DA K (U Oi (Zb zZ zV σ O1 Z)) H'' x items[i]:=da.less fun b z=>by
   rcases z with z|z|z
   ·exact .inl (.inl z)
   ·exact .inr z
   ·exact .inl (.inr z)
  refine hg sb _ H'' Oi _ x _ _ (B.same sm) da' s1 e4 fun τ kt kq3 E4=>?_;have sl:sb.length=k+zZ.length:=kb.len.trans el;have tl:τ.length=(o8 k zZ σ).length:=by rw[<-E4.len,kq3.len,sl,bl]
  have tk:∀j,k<=j->(o8 k zZ σ)[j]?=τ[j]?:=fun j hj=>((kt j fun z=>absurd (ht j z) (by lia)).1).symm
  have drop:τ.drop k=(o8 k zZ σ).drop k:=by
   refine List.ext_getElem? fun j=>?_;rw[Zj,Zj];exact(tk _ (by lia)).symm
  have kp1:Kp (lL k zZ zV) s1:=by
   refine⟨kq3.len.trans kb.len,fun j s e g=>?_,fun j d e=>?_⟩
   ·by_cases hj:j<k
    ·have:=tV j s e hj;subst this;exact absurd rfl g
    ·obtain⟨s',e',g'⟩:=kb.has j s e g;exact⟨s',by rw[(kt j fun z=>absurd (ht j z) (by lia)).2];exact e',g'⟩
   ·by_cases hj:j<k
    ·have:=tV j _ e hj;cases this
    ·obtain⟨d',e'⟩:=kb.io j d e;exact⟨d',by rw[(kt j fun z=>absurd (ht j z) (by lia)).2];exact e'⟩
  refine hc s1 τ H'' Oi _ _ E4 c s2 e5 fun H3 O3 x3 k3 E5=>?_;have kp2:=kp1.trans k3;cases c with
  |false=>
   simp only[Xg,if_false]at e3 ⊢;have hs2:k<=s2.length:=by rw[kp2.len,el];lia
   exact⟨drop,rR k s2,O3,ds,ds2,(x2.trans xm).trans x3,Fy E5 tl.symm hs2 tk,exs.ext (xm.trans x3),e3,ed,FB tV kp2 hs2,by lia⟩
  |true=>
   rw[if_pos rfl]at e3 ⊢;refine dD e3 fun ry s3 e6 e3=>?_;refine dD e3 fun dy s4 e7 e3=>?_;refine dD e3 fun ds3 sf' e8 e3=>?_;cases e3;refine he s2 τ H3 O3 _ _ E5 ry s3 e6 fun y H4 O4 x4 k4 E6 rv w=>?_;obtain⟨O5,x5,k5,E7,day⟩:=rv.esc E6 e7;have kp3:=(kp2.trans k4).trans k5;have hs4:k<=s4.length:=by rw[kp3.len,el];lia
   refine⟨drop,rR k s4,O5,ds++[dy],ds3,(((x2.trans xm).trans x3).trans x4).trans x5,Fy E7 tl.symm hs4 tk,(exs.ext (((xm.trans x3).trans x4).trans x5)).app (El.one day),e8,by rw[Zc];exact ed,FB tV kp3 hs4,by simp;lia⟩
def pK(hi:RdI K wi fi)(hg:LO K g fg tg)(ht:∀j∈tg,j<k)(hc:wI K tc fc)(he:dU K te fe) :
  dU K (sw k zZ wi g tc te) (bQ k zZ fi fg fc fe):=FC hi.ic hg ht hc he
def jm(n:Nat)(ds:List D):En:=ds.map Sl.v++List.replicate (n-ds.length) Sl.e
def Nq(st:En):Rs->Option Rz
 |.d x=>some (x,false)
 |.f x=>some (x,true)
 | .s i=>match st[i]? with|some (.o x)=>some (x,true)|some (.v x)=>some (x,false)|_=>none
def fin:Ot->Option Rz|.nx _=>some (.non,false)|.rt r st=>Nq st r|_=>none
def a8(F:FS)(n m:Nat):List D->Option Rz:=fun ds=>if ds.length=m then(F (jm n ds)).bind fin else none
def FD{N:List Str}(el:El K Z H vs ds)(lv:∀p,Z p->Lv H p):ER K (jm N.length ds) (L2.start N vs) H (fun _=>False) Z:=by
 have gv:∀(i:Nat) s,(jm N.length ds)[i]?=some s->s.get≠none->∃d,s=.v d/\ds[i]?=some d:=fun i s e n=>by
  unfold jm at e;by_cases hi:i<ds.length
  ·rw[Wj (by simpa using hi),Ve]at e
   obtain⟨d,h1,h2⟩:=Qe.mp e;exact⟨d,h2.symm,h1⟩
  ·rw[Vf (by simpa using hi),Ql]at e
   by_cases hz:i-(ds.map Sl.v).length<N.length-ds.length
   ·rw[if_pos hz]at e;cases e;exact absurd rfl n
   ·rw[Ah hz]at e;cases e
 have no:∀(i:Nat) s d,(jm N.length ds)[i]?=some s->s.ow=some d->False:=fun i s d e h=>by
  obtain⟨x,rfl,_⟩:=gv i s e (kD h);cases h
 refine⟨by simp[jm,L2.start,el.1],fun i d e=>?_,fun i s d e h=>(no i s d e h).elim,fun i j s t d d' p e h=>(no i s d e h).elim,fun p h=>h.elim,fun p h=>h.elim (fun z=>z.elim) (lv p)⟩
 obtain⟨x,h1,h2⟩:=gv i _ e (by simp[Sl.get])
 cases h1;obtain⟨v,g1,g2⟩:=el.at h2;refine⟨v,?_,g2.less fun b z=>z.elim (fun y=>y.elim) fun y=>y⟩;unfold L2.start;have hi:=(Yd.mp g1).1;rw[Wj (by simpa using hi),Ve,g1];rfl
def Jp{N:List Str}(h:qt K ts F)(sp:fB K (a8 F N.length m) vs H Q XE):ts { nx:=fun _ H'=>Q .non H',rt:=Q } (L2.start N vs) H:=by
 obtain⟨Z,ds,z,el,lv,e,q⟩:=sp;have hm:ds.length=m:=by
  by_cases hm:ds.length=m
  ·exact hm
  ·simp only[a8,Ah hm]at e;cases e
 simp only[a8,if_pos hm]at e;refine bO e fun o e1 e2=>?_;have same:∀{O':AS}{H':Hp},Ext (fun _=>False) H O' H'->Same H H':=fun {O' H'} x b o e=>x.kp b o e fun z=>z;refine h _ _ H _ Z _ (FD el lv) o e1 ?_;cases o with
 |nx s=>
  cases e2;exact fun σ' H' O' x _ _=>q .non H' (same x) .non
 |bk s=>cases e2
 |ct s=>cases e2
 |rt r s=>
  intro v σ' H' O' x k E rv w;have sub:∀b,Z b->U O' Z b:=fun b z=>.inr z;cases r with
  |d y=>cases e2;exact q v H' (same x) (DA.less (show DA K (U O' Z) H' v y from rv) sub)
  |f y=>
   cases e2;obtain⟨p,rfl,h1,h2,h3,_⟩:=rv;exact q _ H' (same x) ⟨p,rfl,w p rfl,h3.go rfl (fun _ _ e _=>e) fun b z=>.inl (z.elim .inl fun y=>.inr (.inr y))⟩
  |s i=>
   obtain⟨h1,t,h2,h3⟩:=rv
   have e2':(match s[i]? with|some (.o x)=>some (x,true)|some (.v x)=>some (x,false)|_=>none)=some z:=e2
   rw[h2]at e2';cases t with
   |e=>cases e2'
   |io y=>cases e2'
   |v y=>
    cases e2';obtain⟨u,g1,g2⟩:=E.val i y h2;rw[h1]at g1;cases g1;exact q v H' (same x) (g2.less sub)
   |o y=>
    cases e2';obtain⟨p,g1,g2,g3⟩:=E.own i _ y h2 rfl;rw[h1]at g1;cases g1;refine q _ H' (same x) ⟨p,rfl,(x.nw p g2).elim (fun z=>z.elim) (fun z=>z),g3.go rfl (fun _ _ e _=>e) fun b z=>.inl (z.elim (fun y=>.inl (by rw[y];exact g2)) fun y=>.inr y)⟩
def iP(n:Nat)(x:D)(ds:List D):En:=Sl.io x::(ds.map Sl.v++List.replicate (n-(ds.length+1)) Sl.e)
def DX(z:Option Rz)(st:En):Option (Rz×D):=match st[0]? with|some (Sl.io x)=>z.bind fun y=>some (y,x)|_=>none
def LQ:Ot->Option (Rz×D)|.nx st=>DX (some (.non,false)) st|.rt r st=>DX (Nq st r) st|_=>none
def dG(F:FS)(n m:Nat):D->List D->Option (Rz×D):=fun x ds=>if ds.length+1=m then(F (iP n x ds)).bind LQ else none
def DY{N : List Str}(nz : ¬ Z f)(ho : OA K (ins f Z) H f x)(el : El K (ins f Z) H ws ds)(lv : ∀ p, Z p → Lv H p) : ER K (iP N.length x ds) (L2.start N (.ref f :: ws)) H (fun b => b = f) Z := by
  have gv : ∀ (i : Nat) s, (iP N.length x ds)[i]? = some s → s.get ≠ none → (i = 0 ∧ s = .io x)\/∃ j d, i = j + 1 ∧ s = .v d ∧ ds[j]? = some d := fun i s e n => by
    cases i with
    | zero => left; exact ⟨rfl, by have : Sl.io x = s := by simpa [iP] using e
                                   exact this.symm⟩
    |succ j=>
      right;have e : (ds.map Sl.v ++ List.replicate (N.length - (ds.length + 1)) Sl.e)[j]? = some s := by simpa [iP] using e
      by_cases hi : j < ds.length
      · rw [Bx (by simpa using hi), CK] at e
        obtain ⟨d, h1, h2⟩ := Option.map_eq_some_iff.mp e;exact ⟨j, d, rfl, h2.symm, h1⟩
      · rw [Dc (by simpa using hi), Dl] at e
        by_cases hz : j - (ds.map Sl.v).length < N.length - (ds.length + 1)
        · rw [if_pos hz] at e; cases e; exact absurd rfl n
        · rw [Ah hz] at e; cases e
  have s0 : (L2.start N (.ref f :: ws))[0]? = some (some (.ref f)) := by simp [L2.start]
  have own0 : ∀ (i : Nat) s d, (iP N.length x ds)[i]? = some s → s.ow = some d → i = 0 ∧ d = x := fun i s d e h => by
    rcases gv i s e (kD h) with ⟨h1, rfl⟩ | ⟨j, d', _, rfl, _⟩
    · cases h; exact ⟨h1, rfl⟩
    · cases h
  refine ⟨by simp [iP, L2.start, el.1], fun i d e => ?_, fun i s d e h => ?_, fun i j s t d d' p e h e' h' _ _ => ?_, fun p h => by rw [h]; exact nz, fun p h => ?_⟩
  · rcases gv i _ e (by simp [Sl.get]) with ⟨_, h⟩ | ⟨j, d', rfl, h, h2⟩
    · cases h
    · cases h
      obtain ⟨v, g1, g2⟩ := el.at h2;refine ⟨v, ?_, g2⟩;have hi := (List.getElem?_eq_some_iff.mp g1).1;unfold L2.start;rw [Bx (by simp; lia), CK]
      simp [g1]
  · obtain ⟨rfl, rfl⟩ := own0 i s d e h
    exact ⟨f, s0, rfl, ho⟩
  · rw [(own0 i s d e h).1, (own0 j t d' e' h').1]
  · rcases h with h | h
    · rw [h]; exact ho.lv
    · exact lv p h
def sy{N:List Str}(h:qt K ts F)(sp:lV K (dG F N.length m) vs H Q XE):ts { nx:=fun _ H'=>Q .non H',rt:=Q } (L2.start N vs) H:=by
 obtain⟨f,ws,Z,x,ds,z,x',rfl,nz,ho,el,lv,e,q⟩:=sp;have hm:ds.length+1=m:=by
  by_cases hm:ds.length+1=m
  ·exact hm
  ·simp only[dG,Ah hm]at e;cases e
 simp only[dG,if_pos hm]at e;refine bO e fun o e1 e2=>?_;have but:∀{O':AS}{H':Hp},Ext (fun b=>b=f) H O' H'->∀b o,H b=some o->b≠f->H' b=some o:=fun {O' H'} x b o e n=>x.kp b o e n;have i0:(iP N.length x ds)[0]?=some (.io x):=rfl;have s0:(L2.start N (.ref f::ws))[0]?=some (some (.ref f)):=by simp[L2.start]
 have f0:∀{s:En}{σ':St}{H':Hp}{O':AS}{y:D},Kq (iP N.length x ds) (L2.start N (.ref f::ws)) s σ'->ER K s σ' H' O' Z->s[0]?=some (.io y)->O' f/\OA K (U O' Z) H' f y:=fun {s σ' H' O' y} k E e=>by
  obtain⟨g1,_⟩:=k.io 0 x i0;obtain⟨p,h1,h2,h3⟩:=E.own 0 _ y e rfl;rw[g1,s0]at h1;cases h1;exact⟨h2,h3⟩
 refine h _ _ H _ Z _ (DY nz ho el lv) o e1 ?_;cases o with
 |bk s=>cases e2
 |ct s=>cases e2
 |nx s=>
  intro σ' H' O' x2 k E;have e3:DX (some (.non,false)) s=some (z,x'):=e2;unfold DX at e3;split at e3
  ·rename_i y ey
   cases e3;obtain⟨h1,h2⟩:=f0 k E ey;exact q .non H' (but x2) ⟨.non,h2.go rfl (fun _ _ e _=>e) fun b z=>.inl (z.elim (fun w=>.inl (by rw[w];exact h1)) .inr)⟩
  ·cases e3
 |rt r s=>
  intro v σ' H' O' x2 k E rv w;have e3:DX (Nq s r) s=some (z,x'):=e2;unfold DX at e3;split at e3
  ·rename_i y ey
   refine bO e3 fun z' e4 e3=>?_;cases e3;obtain⟨h1,h2⟩:=f0 k E ey;have sub:∀b,ins f Z b->U O' Z b:=fun b z=>z.elim (fun w=>.inl (by rw[w];exact h1)) .inr
   cases r with
   |d u=>cases e4;exact q v H' (but x2) ⟨DA.less (show DA K (U O' Z) H' v u from rv) sub,h2.go rfl (fun _ _ e _=>e) fun b z=>.inl (sub b z)⟩
   |f u=>
    cases e4;obtain⟨p,rfl,g1,g2,g3,E2⟩:=rv;obtain⟨h3,h4⟩:=f0 k E2 ey;exact q _ H' (but x2) ⟨p,rfl,w p rfl,g3.go rfl (fun _ _ e _=>e) (fun b z=>.inl (z.elim .inl fun y=>.inr (sub b y))),h4.go rfl (fun _ _ e _=>e) fun b z=>.inl (z.elim (fun y=>.inl (.inl y)) fun y=>(sub b y).elim (fun a=>.inl (.inr a)) .inr)⟩
   |s i=>
    obtain⟨g1,t,g2,g3⟩:=rv
    have e5:(match s[i]? with|some (.o x)=>some (x,true)|some (.v x)=>some (x,false)|_=>none)=some z:=e4
    rw[g2]at e5;cases t with
    |e=>cases e5
    |io u=>cases e5
    |v u=>
     cases e5;obtain⟨u',j1,j2⟩:=E.val i u g2;rw[g1]at j1;cases j1;exact q v H' (but x2) ⟨j2.less sub,h2.go rfl (fun _ _ e _=>e) fun b z=>.inl (sub b z)⟩
    |o u=>
     cases e5;obtain⟨p,j1,j2,j3⟩:=E.own i _ u g2 rfl;rw[g1]at j1;cases j1;have npf:p≠f:=fun z=>by
      subst z;obtain⟨p0,l1,_⟩:=E.own 0 _ _ ey rfl;obtain⟨l2,_⟩:=k.io 0 x i0;rw[l2,s0]at l1;cases l1;have:=E.uni i 0 _ _ u _ _ g2 rfl ey rfl g1 (by rw[l2,s0])
      subst this;rw[ey]at g2;cases g2
     have hp:H p=none:=(x2.nw p j2).elim (fun z=>absurd z npf) (fun z=>z);have sub2:∀b,ins p (ins f Z) b->U O' Z b:=fun b z=>z.elim (fun y=>.inl (by rw[y];exact j2)) (sub b)
     exact q _ H' (but x2) ⟨p,rfl,hp,j3.go rfl (fun _ _ e _=>e) (fun b z=>.inl (sub2 b z)),h2.go rfl (fun _ _ e _=>e) fun b z=>.inl (sub2 b z)⟩
  ·cases e3
def Nr(sp:fB K (a8 F n m) vs H Q XE):vs.length=m:=by
 obtain⟨Z,ds,z,el,lv,e,q⟩:=sp;by_cases hm:ds.length=m
 ·exact el.1.trans hm
 ·simp only[a8,Ah hm]at e;cases e
def LR(sp:lV K (dG F n m) vs H Q XE):vs.length=m:=by
 obtain⟨f,ws,Z,x,ds,z,x',rfl,nz,ho,el,lv,e,q⟩:=sp;by_cases hm:ds.length+1=m
 ·have:=el.1;simp;lia
 ·simp only[dG,Ah hm]at e;cases e
end
end VF
namespace VF
open L2
section
variable {K:W.Frag}{Y Y':AS}{H H':Hp}{v:V}{d:D}{vs:List V}{ds:List D}
def n4(b b':D->D->Option Rz):D->D->Option Rz:=fun x y=>match b x y with|some z=>some z|none=>b' x y
def RdOp.or(h:RdOp K r b)(h':RdOp K r' b'):RdOp K (fun x y H Q=>r x y H Q\/r' x y H Q) (n4 b b'):=by grind [RdOp,n4]
def PC(b b':List D->Option Rz):List D->Option Rz:=fun x=>match b x with|some z=>some z|none=>b' x
def RdCB.or(h:RdCB K r b)(h':RdCB K r' b'):RdCB K (fun xs H Q=>r xs H Q\/r' xs H Q) (PC b b'):=by grind [RdCB,PC]
def Nt(g:Int->Int->D):D->D->Option Rz|.int i,.int j=>some (g i j,false)|_,_=>none
theorem sA(h:∀Y H i j,DA K Y H (gV i j) (gD i j)):RdOp K (uX gV) (Nt gD):=by
 intro Y H x y d1 d2 z Q lv b1 b2 e q;cases d1 with
 |int i=>
  cases d2 with
  |int j=>
   cases e;exact⟨i,j,b1,b2,q _ H (Same.refl H) (h Y H i j)⟩
  |_=>cases e
 |_=>cases e
def bI(C:Int->Int->Prop)[∀i j,Decidable (C i j)](g:Int->Int->D):D->D->Option Rz|.int i,.int j=>if C i j then some (g i j,false) else none|_,_=>none
theorem Jq[dc:∀i j,Decidable (C i j)](h:∀Y H i j,DA K Y H (gV i j) (gD i j)):RdOp K (rI C gV) (bI C gD):=by
 intro Y H x y d1 d2 z Q lv b1 b2 e q;cases d1 with
 |int i=>
  cases d2 with
  |int j=>
   obtain⟨c,e⟩:=aH e;cases e;exact⟨i,j,b1,b2,c,q _ H (Same.refl H) (h Y H i j)⟩
  |_=>cases e
 |_=>cases e
instance (i j:Int):Decidable (CMul i j):=by unfold CMul;infer_instance
instance (i j:Int):Decidable (wN i j):=by unfold wN;infer_instance
instance (i j:Int):Decidable (EQ i j):=by unfold EQ;infer_instance
def vg:=Nt fun i j=>.int (i+j)
def Jr:=Nt fun i j=>.int (i-j)
def yA:=bI CMul fun i j=>.int (i*j)
def wY:=bI wN fun i j=>.int (i / j)
def qv:=bI (fun _ j=>0<j) fun i j=>.int (i % j)
def Qv:=bI EQ fun i j=>.int (i ^ j.toNat)
def Nu:=Nt fun i j=>.bl (decide (i<j))
def Nv:=Nt fun i j=>.bl (decide (i<=j))
def Qw:=Nt fun i j=>.bl (decide (j<i))
def TQ:=Nt fun i j=>.bl (decide (j<=i))
def ro_addI:RdOp K (uX fun i j=>.int (i+j)) vg:=sA fun _ _ _ _=>.int _
def Nw:RdOp K (uX fun i j=>.int (i-j)) Jr:=sA fun _ _ _ _=>.int _
def ro_mulI:RdOp K (rI CMul fun i j=>.int (i*j)) yA:=Jq fun _ _ _ _=>.int _
def Nx:RdOp K (rI wN fun i j=>.int (i / j)) wY:=Jq fun _ _ _ _=>.int _
def Ny:RdOp K (rI (fun _ j=>0<j) fun i j=>.int (i % j)) qv:=Jq fun _ _ _ _=>.int _
def Nz:RdOp K (rI EQ fun i j=>.int (i ^ j.toNat)) Qv:=Jq fun _ _ _ _=>.int _
def ro_ltI:RdOp K (uX fun i j=>.bl (decide (i<j))) Nu:=sA fun _ _ _ _=>.bl _
def Qx:RdOp K (uX fun i j=>.bl (decide (i<=j))) Nv:=sA fun _ _ _ _=>.bl _
def Qy:RdOp K (uX fun i j=>.bl (decide (j<i))) Qw:=sA fun _ _ _ _=>.bl _
def Qz:RdOp K (uX fun i j=>.bl (decide (j<=i))) TQ:=sA fun _ _ _ _=>.bl _
def tW:D->Option Rz|.int i=>some (.int (-i),false)|_=>none
theorem NA:Nd K (rU fun i=>.int (-i)) tW:=by
 intro Y H x d1 z Q lv b1 e q;cases d1 with|int i=>cases e;exact⟨i,b1,q _ H (Same.refl H) (.int _)⟩|_=>cases e
def PD:D->Option V|.non=>some .non|.bl b=>some (.bl b)|.int i=>some (.int i)|.str x=>some (.str x)|_=>none
theorem n6(h:BA K Y H v d)(e:PD d=some w):v=w:=by
 cases d with|non=>cases e;exact h|bl b=>cases e;exact h|int i=>cases e;exact h|str x=>cases e;exact h|_=>cases e
theorem vh(e:PD d=some w):lM w=true:=by
 cases d with|non=>cases e;rfl|bl b=>cases e;rfl|int i=>cases e;rfl|str x=>cases e;rfl|_=>cases e
def Js(neg:Bool):D->D->Option Rz:=fun a b=>(PD a).bind fun x=>(PD b).bind fun y=>if MM x y=true then some (.bl (if neg then !decide (x=y) else decide (x=y)),false) else none
def NB:RdOp K P2 (Js false):=by
 intro Y H x y d1 d2 z Q lv b1 b2 e q;refine bO e fun x' e1 e=>?_;refine bO e fun y' e2 e=>?_;obtain⟨c,e⟩:=aH e;cases e;obtain rfl:=n6 b1 e1;obtain rfl:=n6 b2 e2;exact⟨c,q _ H (Same.refl H) (.bl _)⟩
def ro_neS:RdOp K S4 (Js true):=by
 intro Y H x y d1 d2 z Q lv b1 b2 e q;refine bO e fun x' e1 e=>?_;refine bO e fun y' e2 e=>?_;obtain⟨c,e⟩:=aH e;cases e;obtain rfl:=n6 b1 e1;obtain rfl:=n6 b2 e2;exact⟨c,q _ H (Same.refl H) (.bl _)⟩
def D.isN:D->Bool|.non=>true|_=>false
theorem NC(h:BA K Y H v d):decide (v=.non)=d.isN:=by
 cases d with
 |non=>rw[show v=V.non from h];rfl
 |bl b=>rw[show v=V.bl b from h];rfl
 |int i=>rw[show v=V.int i from h];rfl
 |str x=>rw[show v=V.str x from h];rfl
 |ty x=>rw[show v=V.ty x from h];rfl
 |tup ds=>obtain⟨a,_,rfl,_⟩:=h;rfl
 |lst ds=>obtain⟨a,_,rfl,_⟩:=h;rfl
 |fl ds=>obtain⟨a,_,rfl,_⟩:=h;rfl
 |dk ds=>obtain⟨a,_,rfl,_⟩:=h;rfl
 |dt ds=>obtain⟨a,_,_,rfl,_⟩:=h;rfl
def ND(neg:Bool):D->D->Option Rz|a,.non=>some (.bl (if neg then !a.isN else a.isN),false)|_,_=>none
theorem NE:RdOp K (fun x y H Q=>y=.non/\Q (.bl (decide (x=.non))) H) (ND false):=by
 intro Y H x y d1 d2 z Q lv b1 b2 e q;cases d2 with
 |non=>
  cases e;refine⟨b2,?_⟩;rw[NC b1];exact q _ H (Same.refl H) (.bl _)
 |_=>cases e
def vk:D->D->Option Rz|.str a,.str b=>if a.length+b.length<=1000000 then some (.str (a++b),false) else none|_,_=>none
theorem ro_addS:RdOp K (fun x y H Q=>∃i j,x=.str i/\y=.str j/\i.length+j.length<=sizeLine/\Q (.str (i++j)) H) vk:=by
 intro Y H x y d1 d2 z Q lv b1 b2 e q;cases d1 with
 |str a=>
  cases d2 with
  |str b=>
   obtain⟨c,e⟩:=aH e;cases e;exact⟨a,b,b1,b2,few c,q _ H (Same.refl H) (.str _)⟩
  |_=>cases e
 |_=>cases e
def iA(el:El K Y H vs ds)(hp:H p=none):RES K Y H (upd H p (.lst vs)) (.ref p) (.lst ds,true) :=
 ⟨p,rfl,hp,vs,aQ,el.away (aY hp _) hp⟩
def kE(el:El K Y H vs ds)(hp:H p=none)(lv:∀p,Y p->Lv H p):RES K Y H (upd H p (.tup vs)) (.ref p) (.tup ds,false) :=
 .tup (.inl ⟨aQ,fun z=>(lv p z).1 hp⟩) el.1 (el.same (aY hp _)).2
def FF:D->D->Option Rz|.lst a,.lst b=>if a.length+b.length<=1000000 then some (.lst (a++b),true) else none|_,_=>none
theorem ro_cat:RdOp K M3 FF:=by
 intro Y H x y d1 d2 z Q lv b1 b2 e q;cases d1 with
 |lst a=>
  cases d2 with
  |lst b=>
   obtain⟨c,e⟩:=aH e;cases e;obtain⟨p,xs,rfl,hp,el⟩:=b1;obtain⟨p2,ys,rfl,hp2,el2⟩:=b2;exact⟨p,p2,xs,ys,rfl,rfl,hp,hp2,by rw[el.1,el2.1];exact few c,fun r hr=>q _ _ (aY hr _) (iA (el.app el2) hr)⟩
  |_=>cases e
 |_=>cases e
def sB:D->D->Option Rz|.tup (x::a),.tup (y::b)=>if a.length+b.length<=999998 then some (.tup ((x::a)++(y::b)),false) else none|.tup (x::a),.tup []=>if a.length<=999998 then some (.tup (x::a),false) else none|_,_=>none
theorem Jt:RdOp K (Fc K) sB:=by
 intro Y H x y d1 d2 z Q lv b1 b2 e q;cases d1 with
 |tup a=>
  cases a with
  |nil=>cases e
  |cons a0 a=>
  cases d2 with
  |tup b=>
   obtain⟨p,xs,rfl,hp,el⟩:=b1;obtain⟨p2,ys,rfl,hp2,el2⟩:=b2;have hx:xs≠[]:=fun z=>by have:=el.1;rw[z]at this;cases this
   cases b with
   |nil=>
    obtain⟨c,e⟩:=aH e;cases e;obtain rfl:=el2.unnil;exact⟨p,p2,xs,[],rfl,rfl,hp.sq,hp2.sq,hx,by rw[el.1];exact few (by simp;lia),fun _=>q _ H (Same.refl H) (.tup hp el.1 el.2),fun z=>absurd rfl z⟩
   |cons b0 b=>
    obtain⟨c,e⟩:=aH e;cases e;have hy:ys≠[]:=fun z=>by have:=el2.1;rw[z]at this;cases this
    exact⟨p,p2,xs,ys,rfl,rfl,hp.sq,hp2.sq,hx,by rw[el.1,el2.1];exact few (by simp;lia),fun z=>absurd z hy,fun _ r hr=>q _ _ (aY hr _) (kE (el.app el2) hr lv)⟩
  |_=>cases e
 |_=>cases e
def bR:=n4 vg (n4 vk (n4 FF sB))
def FJ:D->D->Option Rz|.str a,.int n=>if 0<=n/\n<=1000/\a.length<=1000 then some (.str (Txt.mul a n),false) else none|_,_=>none
theorem Ju:RdOp K (fun x y H Q=>∃(a:Str)(n:Int),x=.str a/\y=.int n/\MulOk a n/\Q (.str (Txt.mul a n)) H) FJ:=by
 intro Y H x y d1 d2 z Q lv b1 b2 e q;cases d1 with
 |str a=>
  cases d2 with
  |int n=>
   obtain⟨c,e⟩:=aH e;cases e;exact⟨a,n,b1,b2,mulOk_of c.1 c.2.1 c.2.2,q _ H (Same.refl H) (.str _)⟩
  |_=>cases e
 |_=>cases e
def pf:=n4 yA FJ
def QA:D->D->Option Rz|.str a,.str b=>some (.bl (decide (a.cps.toList<b.cps.toList)),false)|_,_=>none
theorem NF:RdOp K (fun x y H Q=>∃i j,x=.str i/\y=.str j/\Q (.bl (decide (i.cps.toList<j.cps.toList))) H) QA:=by
 intro Y H x y d1 d2 z Q lv b1 b2 e q;cases d1 with
 |str a=>
  cases d2 with|str b=>cases e;exact⟨a,b,b1,b2,q _ H (Same.refl H) (.bl _)⟩|_=>cases e
 |_=>cases e
def PF:=n4 Nu QA
def Jv(neg:Bool):D->D->Option Rz|.str a,.str b=>some (.bl (if neg then !(!(Builtin.Str.occurrences b a 0 b.length 1).isEmpty) else !(Builtin.Str.occurrences b a 0 b.length 1).isEmpty),false)|_,_=>none
theorem ro_inS:RdOp K (fun x y H Q=>∃i j,x=.str i/\y=.str j/\Q (.bl (!(Builtin.Str.occurrences j i 0 j.length 1).isEmpty)) H) (Jv false):=by
 intro Y H x y d1 d2 z Q lv b1 b2 e q;cases d1 with
 |str a=>
  cases d2 with|str b=>cases e;exact⟨a,b,b1,b2,q _ H (Same.refl H) (.bl _)⟩|_=>cases e
 |_=>cases e
def sC:List D->Option (List V)|[]=>some []|d::r=>(PD d).bind fun v=>(sC r).bind fun vs=>some (v::vs)
theorem vm:∀{ds:List D}{vs ws:List V},El K Y H vs ds->sC ds=some ws->vs=ws/\ws.all lM=true
 |[],vs,ws,el,e=>by cases e;exact⟨el.unnil,rfl⟩
 | d::r,vs,ws,el,e=>by
  refine bO e fun w e1 e=>?_;refine bO e fun ws' e2 e=>?_;cases e;obtain⟨v,t,rfl,da,el⟩:=el.uncons;obtain⟨rfl,h⟩:=vm el e2;have hv:=n6 da.ba e1;subst hv;exact⟨rfl,by rw[BI,vh e1,h];rfl⟩
def D.seq:D->Option (List D)|.lst ds=>some ds|.tup ds=>some ds|.fl ds=>some ds|_=>none
theorem qw(h:BA K Y H v d)(e:d.seq=some ds):∃a vs,v=.ref a/\(ii K H a vs\/kl K H a vs)/\El K Y H vs ds:=by
 cases d with
 |lst _=>cases e;obtain⟨a,vs,h1,h2,h3⟩:=h;exact⟨a,vs,h1,.inl (.inl (.inl h2)),h3⟩
 |tup _=>cases e;obtain⟨a,vs,h1,h2,h3⟩:=h;exact⟨a,vs,h1,.inr h2.sq,h3⟩
 |fl _=>cases e;obtain⟨a,vs,h1,h2,h3⟩:=h;exact⟨a,vs,h1,.inl h2.sq,h3⟩
 |_=>cases e
def Jw(neg:Bool):D->D->Option Rz:=fun a b=>(PD a).bind fun x=>(b.seq).bind fun ds=>(sC ds).bind fun ws=>some (.bl (if neg then !Jc x ws else Jc x ws),false)
def NG(neg:Bool):RdOp K (S6 K neg) (Jw neg):=by
 intro Y H x y d1 d2 z Q lv b1 b2 e q;refine bO e fun x' e1 e=>?_;refine bO e fun ds e2 e=>?_;refine bO e fun ws e3 e=>?_;cases e;obtain⟨a,vs,rfl,sq,el⟩:=qw b2 e2;obtain rfl:=n6 b1 e1;obtain⟨rfl,h⟩:=vm el e3;exact⟨a,vs,rfl,sq,vh e1,h,q _ H (Same.refl H) (.bl _)⟩
def IT:=n4 (Jv false) (Jw false)
def FK:D->D->Option Rz|.lst ds,.int i=>(ki ds i).bind fun d=>some (d,false)|.fl ds,.int i=>(ki ds i).bind fun d=>some (d,false)|_,_=>none
def Jx:D->D->Option Rz|.tup ds,.int i=>(ki ds i).bind fun d=>some (d,false)|_,_=>none
def NH:D->D->Option Rz|.str z,.int i=>if z.length<=1000000 then(ki z.cps.toList i).bind fun c=>some (.str ⟨#[c]⟩,false) else none|_,_=>none
def wZ(el:El K Y H vs ds)(e:ki ds i=some d):∃v,ki vs i=some v/\DA K Y H v d:=by
 unfold ki at e ⊢;rw[el.1];refine bO e fun j e1 e2=>?_;obtain⟨v,h1,h2⟩:=el.at e2;exact⟨v,by rw[e1];exact h1,h2⟩
theorem ro_ixL:RdOp K (MW K) FK:=by
 intro Y H x y d1 d2 z Q lv b1 b2 e q;cases d1 with
 |lst a=>
  cases d2 with
  |int i=>
   refine bO e fun d e1 e=>?_;cases e;obtain⟨p,xs,rfl,hp,el⟩:=b1;obtain⟨v,h1,h2⟩:=wZ el e1;exact⟨p,xs,i,v,rfl,b2,.inl (.inl hp),h1,q v H (Same.refl H) h2⟩
  |_=>cases e
 |fl a=>
  cases d2 with
  |int i=>
   refine bO e fun d e1 e=>?_;cases e;obtain⟨p,xs,rfl,hp,el⟩:=b1;obtain⟨v,h1,h2⟩:=wZ el e1;exact⟨p,xs,i,v,rfl,b2,hp.sq,h1,q v H (Same.refl H) h2⟩
  |_=>cases e
 |_=>cases e
theorem ro_ixT:RdOp K (MX K) Jx:=by
 intro Y H x y d1 d2 z Q lv b1 b2 e q;cases d1 with
 |tup a=>
  cases d2 with
  |int i=>
   refine bO e fun d e1 e=>?_;cases e;obtain⟨p,xs,rfl,hp,el⟩:=b1;obtain⟨v,h1,h2⟩:=wZ el e1;exact⟨p,xs,i,v,rfl,b2,hp.sq,h1,q v H (Same.refl H) h2⟩
  |_=>cases e
 |_=>cases e
theorem NI:RdOp K MY NH:=by
 intro Y H x y d1 d2 z Q lv b1 b2 e q;cases d1 with
 |str a=>
  cases d2 with
  |int i=>
   obtain⟨c,e⟩:=aH e;refine bO e fun ch e1 e=>?_;cases e;exact⟨a,i,ch,b1,b2,few c,e1,q _ H (Same.refl H) (.str _)⟩
  |_=>cases e
 |_=>cases e
def bu:=n4 FK (n4 Jx NH)
def QB:RdOp K (SQ K) bu:=ro_ixL.or (ro_ixT.or NI)
abbrev FO:=En->Option (Option Int×En)
def ST(K:W.Frag)(t:TO)(f:FO):Prop:=∀(st:En)(σ:St)(H:Hp)(O Z:AS)(Q:Option Int->Hp->Prop),ER K st σ H O Z->∀c zW,f st=some (c,zW)->
 (∀H' O',Ext O H O' H'->Kp st zW->ER K zW σ H' O' Z->Q c H')->t σ H Q
def tX:FO:=fun st=>some (none,st)
def NJ:ST K yg tX:=by
 intro st σ H O Z Q E c zW e q;cases e;exact q H O (Ext.refl _ _) (Kp.refl _) E
def asInt(st:En)(r:Rs):Option Int:=match cont st r with|some (.int i)=>some i|_=>none
def cc(fe:FE):FO:=fun st=>(fe st).bind fun x=>(asInt x.2 x.1).bind fun i=>some (some i,x.2)
def vn(h:dU K te fe):ST K (Ly te) (cc fe):=by
 intro st σ H O Z Q E c zW e q;refine dD e fun r zV e1 e=>?_;refine bO e fun i e2 e=>?_;cases e;refine h st σ H O Z _ E r _ e1 fun v H1 O1 x1 k1 E1 rv w=>?_;have ev:v=.int i:=by
  unfold asInt at e2;split at e2
  ·rename_i j ej
   cases e2;exact rv.ba E1 ej
  ·cases e2
 exact⟨i,ev,q H1 O1 x1 k1 E1⟩
def RdSl(K:W.Frag)(r:V->Option Int->Option Int->Hp->VK->Prop)(b:D->Option Int->Option Int->Option Rz):Prop:=∀(Y:AS)(H:Hp)(x:V)(lo hi:Option Int)(d1:D)(z:Rz)(Q:VK),(∀p,Y p->Lv H p)->BA K Y H x d1->b d1 lo hi=some z->
 (∀v H',Same H H'->RES K Y H H' v z->Q v H')->r x lo hi H Q
def n8(b:D->Option Int->Option Int->Option Rz)(fe:FE)(fl fh:FO):FE:=fun st=>(fe st).bind fun x=>(fl x.2).bind fun l=>(fh l.2).bind fun u=>(cont u.2 x.1).bind fun d=>(b d l.1 u.1).bind fun z=>some (mk z,u.2)
def vo(hr:RdSl K r b)(he:dU K te fe)(hl:ST K tl fl)(hh:ST K th fh):dU K (TM r te tl th) (n8 b fe fl fh):=by
 intro st σ H O Z Q E r' zW h q;refine dD h fun r1 zV e1 h=>?_;refine dD h fun lo st2 e2 h=>?_;refine dD h fun hi st3 e3 h=>?_;refine bO h fun d1 e4 h=>?_;refine bO h fun z e5 h=>?_;cases h;refine he st σ H O Z _ E r1 zV e1 fun v1 H1 O1 x1 k1 E1 rv1 w1=>?_;refine hl zV σ H1 O1 Z _ E1 lo st2 e2 fun H2 O2 x2 k2 E2=>?_;refine hh st2 σ H2 O2 Z _ E2 hi _ e3 fun H3 O3 x3 k3 E3=>?_;have b1:=(rv1.nf.ext (x2.trans x3) (k2.trans k3)).ba E3 (by rw[iu];exact e4)
 refine hr (U O3 Z) H3 v1 lo hi d1 z _ E3.liv b1 e5 fun v H4 s hres=>?_;obtain⟨E4,rv4⟩:=hres.rv E3 s;have xx:=(x1.trans x2).trans x3;exact q v H4 O3 (xx.trans (Same.ext s)) ((k1.trans k2).trans k3) E4 rv4 (hres.fsh.back xx)
def cutD(xs:List D)(lo hi:Option Int):List D:=(xs.drop (HT.sIx xs.length 0 lo)).take (HT.sIx xs.length xs.length hi-HT.sIx xs.length 0 lo)
def El.cut(el:El K Y H vs ds)(lo hi:Option Int):El K Y H (u5 vs lo hi) (cutD ds lo hi):=by
 unfold u5 cutD;rw[el.1];exact(el.drop _).take _
def FL(b b':D->Option Int->Option Int->Option Rz):D->Option Int->Option Int->Option Rz:=fun x l h=>match b x l h with|some z=>some z|none=>b' x l h
def RdSl.or(h:RdSl K r b)(h':RdSl K r' b'):RdSl K (fun x lo hi H Q=>r x lo hi H Q\/r' x lo hi H Q) (FL b b'):=by grind [RdSl,FL]
def DZ:D->Option Int->Option Int->Option Rz|.lst ds,lo,hi=>some (.lst (cutD ds lo hi),true)|.fl ds,lo,hi=>some (.lst (cutD ds lo hi),true)|_,_,_=>none
theorem QC:RdSl K (M0 K) DZ:=by
 intro Y H x lo hi d1 z Q lv b1 e q;cases d1 with
 |lst a=>
  cases e;obtain⟨p,xs,rfl,hp,el⟩:=b1;exact⟨p,xs,rfl,.inl (.inl hp),fun r hr=>q _ _ (aY hr _) (iA (el.cut lo hi) hr)⟩
 |fl a=>
  cases e;obtain⟨p,xs,rfl,hp,el⟩:=b1;exact⟨p,xs,rfl,hp.sq,fun r hr=>q _ _ (aY hr _) (iA (el.cut lo hi) hr)⟩
 |_=>cases e
def ph:D->Option Int->Option Int->Option Rz|.tup ds,lo,hi=>if HT.sIx ds.length 0 lo=0/\HT.sIx ds.length ds.length hi=ds.length then none else some (.tup (cutD ds lo hi),false)|_,_,_=>none
theorem QD:RdSl K (MU K) ph:=by
 intro Y H x lo hi d1 z Q lv b1 e q;cases d1 with
 |tup a=>
  by_cases c:HT.sIx a.length 0 lo=0/\HT.sIx a.length a.length hi=a.length
  ·simp only[ph,if_pos c]at e;cases e
  ·simp only[ph,Ah c]at e;cases e;obtain⟨p,xs,rfl,hp,el⟩:=b1;exact⟨p,xs,rfl,hp.sq,by rw[el.1];exact c,fun r hr=>q _ _ (aY hr _) (kE (el.cut lo hi) hr lv)⟩
 |_=>cases e
def FM:D->Option Int->Option Int->Option Rz|.str z,lo,hi=>if z.length<=1000000 then some (.str (Txt.slice z lo hi),false) else none|_,_,_=>none
theorem QE:RdSl K (fun x lo hi H Q=>∃z:Str,x=.str z/\z.length<=sizeLine/\Q (.str (Txt.slice z lo hi)) H) FM:=by
 intro Y H x lo hi d1 z Q lv b1 e q;cases d1 with
 |str a=>
  obtain⟨c,e⟩:=aH e;cases e;exact⟨a,b1,few c,q _ H (Same.refl H) (.str _)⟩
 |_=>cases e
def jh:=FL DZ (FL ph FM)
def FN:List D->Option Rz|[d]=>(d.seq).bind fun ds=>some (.int ds.length,false)|_=>none
theorem rc_lenQ:RdCB K (fun xs H Q=>∃p ys,xs=[.ref p]/\(ii K H p ys\/kl K H p ys)/\Q (.int ys.length) H) FN:=by
 intro Y H xs ds z Q lv bs e q;cases bs with
 |nil=>cases e
 |cons b1 bs=>
  cases bs with
  |cons _ _=>cases e
  |nil=>
   refine bO e fun es e1 e=>?_;cases e;obtain⟨a,vs,rfl,sq,el⟩:=qw b1 e1;refine⟨a,vs,rfl,sq,?_⟩;rw[el.1];exact q _ H (Same.refl H) (.int _)
def FP:List D->Option Rz|[.str z]=>if z.length<=1000000 then some (.int z.length,false) else none|_=>none
theorem Jy:RdCB K (fun xs H Q=>∃z:Str,xs=[.str z]/\z.length<=sizeLine/\Q (.int z.length) H) FP:=by
 intro Y H xs ds z Q lv bs e q;cases bs with
 |nil=>cases e
 |@cons v vs d ds b1 bs=>
  cases bs with
  |cons _ _=>cases d<;>cases e
  |nil=>
   cases d with
   |str a=>
    obtain⟨c,e⟩:=aH e;cases e;exact⟨a,by rw[show v=V.str a from b1],few c,q _ H (Same.refl H) (.int _)⟩
   |_=>cases e
def cV:=PC FN FP
def LS:List D->Option Rz|[d]=>(d.seq).bind fun ds=>some (.lst ds,true)|_=>none
theorem rc_list:RdCB K (fun xs H Q=>∃p ys,xs=[.ref p]/\(ii K H p ys\/kl K H p ys)/\∀l,H l=none->Q (.ref l) (upd H l (.lst ys))) LS:=by
 intro Y H xs ds z Q lv bs e q;cases bs with
 |nil=>cases e
 |cons b1 bs=>
  cases bs with
  |cons _ _=>cases e
  |nil=>
   refine bO e fun es e1 e=>?_;cases e;obtain⟨a,vs,rfl,sq,el⟩:=qw b1 e1;exact⟨a,vs,rfl,sq,fun r hr=>q _ _ (aY hr _) (iA el hr)⟩
def FQ:List D->Option Rz|[.lst ds]=>some (.tup ds,false)|[.fl ds]=>some (.tup ds,false)|[.tup ds]=>some (.tup ds,false)|_=>none
theorem rc_tuple:RdCB K (fun xs H Q=>∃p ys,xs=[.ref p]/\((ii K H p ys/\∀l,H l=none->Q (.ref l) (upd H l (.tup ys)))\/(kl K H p ys/\Q (.ref p) H))) FQ:=by
 intro Y H xs ds z Q lv bs e q;cases bs with
 |nil=>cases e
 |@cons v vs d ds b1 bs=>
  cases bs with
  |cons _ _=>cases d<;>cases e
  |nil=>
   cases d with
   |lst a=>
    cases e;obtain⟨p,xs,rfl,hp,el⟩:=b1;exact⟨p,xs,rfl,.inl ⟨.inl (.inl hp),fun r hr=>q _ _ (aY hr _) (kE el hr lv)⟩⟩
   |fl a=>
    cases e;obtain⟨p,xs,rfl,hp,el⟩:=b1;exact⟨p,xs,rfl,.inl ⟨hp.sq,fun r hr=>q _ _ (aY hr _) (kE el hr lv)⟩⟩
   |tup a=>
    cases e;obtain⟨p,xs,rfl,hp,el⟩:=b1;exact⟨p,xs,rfl,.inr ⟨hp.sq,q _ H (Same.refl H) (.tup hp el.1 el.2)⟩⟩
   |_=>cases e
def mX:List D->Option (List Bool)|[]=>some []|.bl b::r=>(mX r).bind fun bs=>some (b::bs)|_=>none
theorem vp:∀{ds:List D}{vs:List V}{bs:List Bool},El K Y H vs ds->mX ds=some bs->vs=bs.map V.bl
 |[],vs,bs,el,e=>by cases e;exact el.unnil
 | d::r,vs,bs,el,e=>by
  obtain⟨v,t,rfl,da,el2⟩:=el.uncons;cases d with
  |bl b=>
   refine bO e fun bs' e1 e=>?_;cases e;have h:=vp el2 e1;rw[h,show v=V.bl b from da.ba];rfl
  |_=>cases e
def D0:List D->Option Rz|[.lst ds]=>(mX ds).bind fun bs=>some (.bl (bs.all id),false)|_=>none
theorem FR:RdCB K (fun xs H Q=>∃(p:Addr)(bs:List Bool),xs=[.ref p]/\ii K H p (bs.map V.bl)/\Q (.bl (bs.all id)) H) D0:=by
 intro Y H xs ds z Q lv bs e q;cases bs with
 |nil=>cases e
 |@cons v vs d ds b1 bs=>
  cases bs with
  |cons _ _=>cases d<;>cases e
  |nil=>
   cases d with
   |lst a=>
    refine bO e fun bs e1 e=>?_;cases e;obtain⟨p,xs,rfl,hp,el⟩:=b1;obtain rfl:=vp el e1;exact⟨p,bs,rfl,.inl (.inl hp),q _ H (Same.refl H) (.bl _)⟩
   |_=>cases e
def D1(K:W.Frag)(r:V->List V->Hp->VK->Prop)(b:D->List D->Option Rz):Prop:=∀(Y:AS)(H:Hp)(x:V)(xs:List V)(d:D)(ds:List D)(z:Rz)(Q:VK),(∀p,Y p->Lv H p)->BA K Y H x d->BAs K Y H xs ds->b d ds=some z->
 (∀v H',Same H H'->RES K Y H H' v z->Q v H')->r x xs H Q
def NK(T:String):D->Bool|.str _=>decide (T="str")|.lst _=>decide (T="list")|.dk _=>decide (T="dict")|.dt _=>decide (T="dict")|_=>false
theorem QF(h:BA K Y H v d)(e:NK T d=true):Qn K T v H:=by
 cases d with
 |str x=>
  have e':T="str":=Ai e;rw[show v=V.str x from h];exact e'
 |lst x=>obtain⟨a,vs,rfl,h1,_⟩:=h;exact .inl ⟨Ai e,vs,.inl (.inl h1)⟩
 |dk x=>obtain⟨a,vs,rfl,h1,_⟩:=h;exact .inr (.inr (.inl ⟨Ai e,.inl ⟨vs,h1⟩⟩))
 |dt x=>obtain⟨a,ep,vs,rfl,_,h1,_⟩:=h;exact .inr (.inr (.inl ⟨Ai e,.inr ⟨ep,vs,h1⟩⟩))
 |_=>cases e
def Jz(T:String)(b:D->List D->Option Rz)(fo:FE)(fa:FA):FE:=fun st=>(fo st).bind fun x=>(cont x.2 x.1).bind fun d0=>if NK T d0=true then(fa x.2).bind fun y=>(cont y.2 x.1).bind fun d=>(dL y.2 y.1).bind fun ds=>(b d ds).bind fun z=>some (mk z,y.2) else none
def LT(hr:D1 K r b)(ho:dU K to fo)(ha:wH K ta fa):dU K (SR K T r to ta) (Jz T b fo fa):=by
 intro st σ H O Z Q E r' zW h q;refine dD h fun r1 zV e1 h=>?_;refine bO h fun d0 e2 h=>?_;obtain⟨c,h⟩:=aH h;refine dD h fun rs st2 e3 h=>?_;refine bO h fun d e4 h=>?_;refine bO h fun ds e5 h=>?_;refine bO h fun z e6 h=>?_;cases h;refine ho st σ H O Z _ E r1 zV e1 fun v1 H1 O1 x1 k1 E1 rv1 w1=>⟨QF (rv1.ba E1 e2) c,?_⟩;refine ha zV σ H1 O1 Z _ E1 rs _ e3 fun vs H2 O2 x2 k2 E2 rvs=>?_;have b1:=(rv1.nf.ext x2 k2).ba E2 (by rw[iu];exact e4)
 refine hr (U O2 Z) H2 v1 vs d ds z _ E2.liv b1 (rvs.bas E2 e5) e6 fun v H3 s hres=>?_;obtain⟨E3,rv3⟩:=hres.rv E2 s;exact q v H3 O2 ((x1.trans x2).trans (Same.ext s)) (k1.trans k2) E3 rv3 (hres.fsh.back (x1.trans x2))
def fD:List D->Option (List Str)|[]=>some []|.str x::r=>(fD r).bind fun xs=>some (x::xs)|_=>none
theorem i9:∀{ds:List D}{vs:List V}{xs:List Str},El K Y H vs ds->fD ds=some xs->vs=xs.map V.str
 |[],vs,xs,el,e=>by cases e;exact el.unnil
 | d::r,vs,xs,el,e=>by
  obtain⟨v,t,rfl,da,el2⟩:=el.uncons;cases d with
  |str b=>
   refine bO e fun xs' e1 e=>?_;cases e;have h:=i9 el2 e1;rw[h,show v=V.str b from da.ba];rfl
  |_=>cases e
def sD:D->List D->Option Rz|.str sep,[.lst ds]=>(fD ds).bind fun ys=>if (ys.map (·.length)).sum+ys.length*sep.length<=16777216 then some (.str (Txt.join sep ys),false) else none|_,_=>none
theorem yB:D1 K (fun x vs H Q=>∃(sep:Str)(p:Addr)(ys:List Str),x=.str sep/\vs=[.ref p]/\ii K H p (ys.map V.str)/\(ys.map (·.length)).sum+ys.length*sep.length<=16777216/\Q (.str (Txt.join sep ys)) H) sD:=by
 intro Y H x xs d ds z Q lv b1 bs e q;cases d with
 |str sep=>
  cases bs with
  |nil=>cases e
  |@cons v vs d ds b2 bs=>
   cases bs with
   |cons _ _=>cases d<;>cases e
   |nil=>
    cases d with
    |lst es=>
     refine bO e fun ys e1 e=>?_;obtain⟨c,e⟩:=aH e;cases e;obtain⟨p,ws,rfl,hp,el⟩:=b2;obtain rfl:=i9 el e1;exact⟨sep,p,ys,b1,rfl,.inl (.inl hp),c,q _ H (Same.refl H) (.str _)⟩
    |_=>cases e
 |_=>cases e
def yC:D->List D->Option Rz|.str a,[.str b]=>some (.bl (Txt.startswith a b),false)|_,_=>none
theorem sE:D1 K (fun x vs H Q=>∃(a b:Str),x=.str a/\vs=[.str b]/\Q (.bl (Txt.startswith a b)) H) yC:=by
 intro Y H x xs d ds z Q lv b1 bs e q;cases d with
 |str a=>
  cases bs with
  |nil=>cases e
  |@cons v vs d ds b2 bs=>
   cases bs with
   |cons _ _=>cases d<;>cases e
   |nil=>
    cases d with|str b=>cases e;exact⟨a,b,b1,by rw[show v=V.str b from b2],q _ H (Same.refl H) (.bl _)⟩|_=>cases e
 |_=>cases e
def ja:D->Bool|.lst _=>true|_=>false
theorem S8(h:OA K Y H p x)(e:ja x=true):Qn K "list" (.ref p) H:=by
 cases x with
 |lst ds=>obtain⟨vs,h1,_⟩:=h;exact .inl ⟨rfl,vs,.inl (.inl h1)⟩
 |_=>cases e
theorem El.upd(h:El K Y H vs ds)(hp:Y p):El K Y (L2.upd H p o) vs ds:=h.go (fun b u e n=>by
 have hb:b≠p:=fun z=>n (by rw[z];exact hp)
 rw[aC hb];exact e) fun b z=>.inl z
theorem DA.upd(h:DA K Y H v d)(hp:Y p):DA K Y (L2.upd H p o) v d:=h.go (fun b u e n=>by
 have hb:b≠p:=fun z=>n (by rw[z];exact hp)
 rw[aC hb];exact e) fun b z=>.inl z
def bm:D->List D->Option (D×D)|.lst xs,[y]=>if xs.length<1000000 then some (.non,.lst (xs++[y])) else none|_,_=>none
theorem sF:RdM K "list" tM ja bm:=⟨fun Y H p x h e=>S8 h e,fun Y H p x vs ds y x' Q hp ho el e q=>by
 cases x with
 |lst xs=>
  cases ds with
  |nil=>cases e
  |cons d ds=>
   cases ds with
   |cons _ _=>cases e
   |nil=>
    obtain⟨c,e⟩:=aH e;cases e;obtain⟨ws,h1,h2⟩:=ho;obtain⟨v,r,rfl,da,el⟩:=el.uncons;obtain rfl:=el.unnil;exact⟨p,ws,v,rfl,rfl,h1,by rw[h2.1];exact few (by lia),q .non _ .non ⟨_,aQ,(h2.app (El.one da)).upd hp⟩⟩
 |_=>cases e⟩
def jp:D->List D->Option (D×D)|.lst xs,[.int i]=>if -(2 ^ 63)<=i/\i<2 ^ 63 then(seqIndex? i xs.length).bind fun k=>(xs[k]?).bind fun y=>some (y,.lst (xs.eraseIdx k)) else none|_,_=>none
theorem vq:RdM K "list" Ff ja jp:=⟨fun Y H p x h e=>S8 h e,fun Y H p x vs ds y x' Q hp ho el e q=>by
 cases x with
 |lst xs=>
  cases ds with
  |nil=>cases e
  |cons d ds=>
   cases d with
   |int i=>
    cases ds with
    |cons _ _=>cases e
    |nil=>
     obtain⟨c,e⟩:=aH e;refine bO e fun k e1 e=>?_;refine bO e fun y' e2 e=>?_;cases e;obtain⟨ws,h1,h2⟩:=ho;obtain⟨v,r,rfl,da,el⟩:=el.uncons;obtain rfl:=el.unnil;obtain rfl:=(show v=V.int i from da.ba);obtain⟨u,g1,g2⟩:=h2.at e2;exact⟨p,ws,i,k,u,rfl,rfl,h1,c.1,c.2,by rw[h2.1];exact e1,g1,q u _ (g2.upd hp) ⟨_,aQ,(h2.erase k).upd hp⟩⟩
   |_=>cases ds<;>cases e
 |_=>cases e⟩
def qx:D->D->D->Option D|.lst xs,.int k,v=>(DN xs.length k).bind fun j=>some (.lst (xs.set j v))|_,_,_=>none
theorem D2:Fu K Lz qx:=by
 intro Y H p x k v dk dv x' Q hp ho bk da e q;cases x with
 |lst xs=>
  cases dk with
  |int i=>
   refine bO e fun j e1 e=>?_;cases e;obtain⟨ws,h1,h2⟩:=ho;exact⟨p,ws,i,j,rfl,bk,h1,by rw[h2.1];exact e1,q _ ⟨_,aQ,(h2.set da j).upd hp⟩⟩
  |_=>cases e
 |_=>cases e
def FU(xs:List Str):FA:=fun st=>some (xs.map fun x=>.d (.str x),st)
theorem JA:wH K (LE xs) (FU xs):=by
 intro st σ H O Z Q E rs zW e q;cases e;refine q _ H O (Ext.refl _ _) (Kp.refl _) E ?_;clear q;induction xs with|nil=>exact .nil|cons x r ih=>exact .cons (show DA K _ H (.str x) (.str x) from .str x) ih
end
end VF
namespace VF
open PySem.Spec PyProof.Rows L2
section
variable {X:Cx}{K:W.Frag}{Y:AS}{H:Hp}{v:V}{d:D}{vs:List V}{ds:List D}
def yD(K:W.Frag):R2:=fun x y H Q=>(uX fun i j=>.int (i+j)) x y H Q\/((∃i j,x=.str i/\y=.str j/\i.length+j.length<=sizeLine/\Q (.str (i++j)) H)\/(M3 x y H Q\/Fc K x y H Q))
def yE(h:X.K=K):OpR X (binaryOp .Add) (yD K):=op_add.or (op_add_str.or (op_cat.or (h ▸ I9)))
def ro_addA:RdOp K (yD K) bR:=ro_addI.or (ro_addS.or (ro_cat.or Jt))
def LU:R2:=fun x y H Q=>(rI CMul fun i j=>.int (i*j)) x y H Q\/(∃(a:Str)(n:Int),x=.str a/\y=.int n/\MulOk a n/\Q (.str (Txt.mul a n)) H)
def mY:OpR X (binaryOp .Mult) LU:=op_mul.or wT
def JB:RdOp K LU pf:=ro_mulI.or Ju
def QG:R2:=fun x y H Q=>(uX fun i j=>.bl (decide (i<j))) x y H Q\/(∃i j,x=.str i/\y=.str j/\Q (.bl (decide (i.cps.toList<j.cps.toList))) H)
def FV:OpR X (compareOp .Lt) QG:=op_lt.or DI
def NL:RdOp K QG PF:=ro_ltI.or NF
def QH(K:W.Frag):R2:=fun x y H Q=>(∃i j,x=.str i/\y=.str j/\Q (.bl (!(Builtin.Str.occurrences j i 0 j.length 1).isEmpty)) H)\/S6 K false x y H Q
def w5(h:X.K=K):OpR X (compareOp .In) (QH K):=op_in_str.or (h ▸ DO)
def NM:RdOp K (QH K) IT:=ro_inS.or (NG false)
def j6:=Js false
def NN(_:X.K=K)(_:X.A.units+64<cLine):OpR X (compareOp .Eq) P2:=dr
def ro_eqA:RdOp K P2 j6:=NB
def QI:D->D->Option Rz|.lst xs,.lst []=>some (.bl (!xs.isEmpty),false)|_,_=>none
def QJ(K:W.Frag):R2:=fun x y H Q=>∃(a b:Addr)(xs:List V),x=.ref a/\y=.ref b/\ii K H a xs/\ii K H b []/\Q (.bl (!xs.isEmpty)) H
theorem NO:RdOp K (QJ K) QI:=by
 intro Y H x y d1 d2 z Q lv b1 b2 e q;cases d1 with
 |lst xs=>
  cases d2 with
  |lst ys=>
   cases ys with
   |nil=>
    cases e;obtain⟨p,ws,rfl,hp,el⟩:=b1;obtain⟨p2,zs,rfl,hp2,el2⟩:=b2;obtain rfl:=el2.unnil;refine⟨p,p2,ws,rfl,rfl,.inl (.inl hp),.inl (.inl hp2),?_⟩;have e:ws.isEmpty=xs.isEmpty:=by
     cases ws with
     | nil=>cases xs with|nil=>rfl|cons _ _=>cases el.1
     | cons _ _=>cases xs with|nil=>cases el.1|cons _ _=>rfl
    rw[e];exact q _ H (Same.refl H) (.bl _)
   |cons _ _=>cases e
  |_=>cases e
 |_=>cases e
def vt:=n4 (Js true) QI
def NP(K:W.Frag):R2:=fun x y H Q=>S4 x y H Q\/QJ K x y H Q
def gK(h:X.K=K)(hu:X.A.units+64<cLine):OpR X (compareOp .NotEq) (NP K):=op_ne.or (by subst h;exact Nc (by lia))
def ro_neA:RdOp K (NP K) vt:=ro_neS.or NO
def NQ(K:W.Frag):V->Option Int->Option Int->Hp->VK->Prop:=fun x lo hi H Q=>M0 K x lo hi H Q\/(MU K x lo hi H Q\/(∃z:Str,x=.str z/\z.length<=sizeLine/\Q (.str (Txt.slice z lo hi)) H))
def eN(h:X.K=K):SlR X (NQ K):=SlR.or (h ▸ Ja) (SlR.or (h ▸ MV) M9)
def yF:RdSl K (NQ K) jh:=RdSl.or QC (RdSl.or QD QE)
def FW(K:W.Frag):List V->Hp->VK->Prop:=fun xs H Q=>(∃p ys,xs=[.ref p]/\(ii K H p ys\/kl K H p ys)/\Q (.int ys.length) H)\/(∃z:Str,xs=[.str z]/\z.length<=sizeLine/\Q (.int z.length) H)
def D3(h:X.K=K):CallR X (.builtin "len") (FW K):=CallR.or (h ▸ tI) tK
def NR:RdCB K (FW K) cV:=rc_lenQ.or Jy
def FX(z:Str):El K Y H (sgn z) (qr z):=by
 refine⟨by simp[sgn,qr],fun i v d h1 h2=>?_⟩
 unfold sgn at h1;unfold qr at h2;rw[Ve]at h1 h2;obtain⟨c,e1,rfl⟩:=Qe.mp h1;rw[e1]at h2;obtain rfl:=Option.some.inj h2;exact .str _
def FY:List D->Option Rz|[.str z]=>if z.cps.size<=1000000 then some (.lst (qr z),true) else none|_=>none
def FZ:List V->Hp->VK->Prop:=fun xs H Q=>∃z:Str,xs=[.str z]/\z.cps.size<=sizeLine/\∀l,H l=none->Q (.ref l) (upd H l (.lst (sgn z)))
theorem F3:RdCB K FZ FY:=by
 intro Y H xs ds z Q lv bs e q;cases bs with
 |nil=>cases e
 |@cons v vs d ds b1 bs=>
  cases bs with
  |cons _ _=>cases d<;>cases e
  |nil=>
   cases d with
   |str a=>
    obtain⟨c,e⟩:=aH e;cases e;exact⟨a,by rw[show v=V.str a from b1],few c,fun r hr=>q _ _ (aY hr _) (iA (FX a) hr)⟩
   |_=>cases e
def yG:List D->Option Rz|[.str z]=>if z.cps.size<=1000000 then some (.tup (qr z),false) else none|_=>none
def yH:List V->Hp->VK->Prop:=fun xs H Q=>∃z:Str,xs=[.str z]/\z.cps.size<=sizeLine/\∀l,H l=none->Q (.ref l) (upd H l (.tup (sgn z)))
theorem D4:RdCB K yH yG:=by
 intro Y H xs ds z Q lv bs e q;cases bs with
 |nil=>cases e
 |@cons v vs d ds b1 bs=>
  cases bs with
  |cons _ _=>cases d<;>cases e
  |nil=>
   cases d with
   |str a=>
    obtain⟨c,e⟩:=aH e;cases e;exact⟨a,by rw[show v=V.str a from b1],few c,fun r hr=>q _ _ (aY hr _) (kE (FX a) hr lv)⟩
   |_=>cases e
def n9:=PC LS FY
def aU:=PC FQ yG
def F4(K:W.Frag):List V->Hp->VK->Prop:=fun xs H Q=>(∃p ys,xs=[.ref p]/\(ii K H p ys\/kl K H p ys)/\∀l,H l=none->Q (.ref l) (upd H l (.lst ys)))\/FZ xs H Q
def tY(K:W.Frag):List V->Hp->VK->Prop:=fun xs H Q=>(∃p ys,xs=[.ref p]/\((ii K H p ys/\∀l,H l=none->Q (.ref l) (upd H l (.tup ys)))\/(kl K H p ys/\Q (.ref p) H)))\/yH xs H Q
def lX(h:X.K=K)(hc:X.calm=true):CallR X (.type "list") (F4 K):=CallR.or (h ▸ tL) (qp hc)
def vx(h:X.K=K)(hc:X.calm=true):CallR X (.type "tuple") (tY K):=CallR.or (h ▸ rP) (o9 hc)
def F5:RdCB K (F4 K) n9:=rc_list.or F3
def D5:RdCB K (tY K) aU:=rc_tuple.or D4
def LV:D->String|.non=>"NoneType"|.bl _=>"bool"|.int _=>"int"|.str _=>"str"|.tup _=>"tuple"|.lst _=>"list"|.fl _=>"list"|.dk _=>"dict"|.dt _=>"dict"|.ty _=>"type"
def F6(n T:String):Bool:=n == T||(n == "bool"&&T == "int")
def NS:∀n∈["NoneType","bool","int","str","tuple","list","dict"],∀T∈["bool","int","str","tuple","list","dict"],
  (if (Value.type n == Value.type T)=true then some true else if W.kitMeta T=true then(fastBuiltinMro n).map (·.contains (Value.type T)) else none)=some (F6 n T):=by decide +kernel
def S9:List D->Option Rz|[d,.ty T]=>if (["bool","int","str","tuple","list","dict"].contains T&&LV d != "type")=true then some (.bl (F6 (LV d) T),false) else none|_=>none
def cC:=S9
def NT(K:W.Frag):List V->Hp->VK->Prop:=fun xs H Q=>∃(Y:AS)(x:V)(d:D)(T:String),xs=[x,.ty T]/\BA K Y H x d/\(["bool","int","str","tuple","list","dict"].contains T&&LV d != "type")=true/\Q (.bl (F6 (LV d) T)) H
theorem D6:RdCB K (NT K) cC:=by
 intro Y H xs ds z Q lv bs e q;cases bs with
 |nil=>cases e
 |@cons v vs d ds b1 bs=>
  cases bs with
  |nil=>cases e
  |@cons v2 vs2 d2 ds2 b2 bs=>
   cases bs with
   |cons _ _=>cases d2<;>cases e
   |nil=>
    cases d2 with
    |ty T=>
     obtain⟨c,e⟩:=aH e;cases e;exact⟨Y,v,d,T,by rw[show v2=V.ty T from b2],b1,c,q _ H (Same.refl H) (.bl _)⟩
    |_=>cases e
def tZ(h:X.K=K):CallR X (.builtin "isinstance") (NT K):=by
 subst h;intro z9 s σ H xs us Q I rv h;obtain⟨Y,x,d,T,rfl,b1,c,q⟩:=h;obtain⟨u,w',rfl,rx,ry⟩:=vals2 rv;cases (show w'=Value.type T from ry);rw[Wf]at c;have hT:T∈["bool","int","str","tuple","list","dict"]:=List.contains_iff_mem.mp c.1;refine bz ?_;have fin:∀tk,s.toks<=tk->EP X z9 σ Q (.bool (F6 (LV d) T)) { s with toks:=tk }:=fun tk hle=>⟨.bl _,H,I.tok tk (I.tkl' hle),rfl,q⟩;have ko:∀n∈["NoneType","bool","int","str","tuple","list","dict"],LV d=n->W.kitOne X.K (.type n) (.type T)=some (F6 (LV d) T):=fun n hn e=>by
  rw[e];exact Nb (NS n hn T hT)
 cases d with
 |non=>
  obtain rfl:=(show x=V.non from b1);exact fz I rx .non (ko "NoneType" (by decide) rfl) fin
 |bl b=>
  obtain rfl:=(show x=V.bl b from b1);exact fz I rx (.bl b) (ko "bool" (by decide) rfl) fin
 |int i=>
  obtain rfl:=(show x=V.int i from b1);exact fz I rx (.int i) (ko "int" (by decide) rfl) fin
 |str z=>
  obtain rfl:=(show x=V.str z from b1);exact fz I rx (.str z) (ko "str" (by decide) rfl) fin
 |ty n=>exact absurd c.2 (by simp[LV])
 |lst ds=>
  obtain⟨a,vs,rfl,h1,_⟩:=b1;exact fz I rx (.lst h1) (ko "list" (by decide) rfl) fin
 |fl ds=>
  obtain⟨a,vs,rfl,h1,_⟩:=b1;cases (show u=Value.ref a from rx);obtain⟨its,_,pl,_⟩:=I.list h1.sq;obtain⟨o,ho,hc,_⟩:=pl.isList;exact W.kia_one W.kitx_list I.kIn ⟨o,ho,hc⟩ (ko "list" (by decide) rfl) (fun z=>nomatch z) fin
 |tup ds=>
  obtain⟨a,vs,rfl,h1,_⟩:=b1;cases (show u=Value.ref a from rx);obtain⟨its,_,pl,_⟩:=I.tuple h1.sq;obtain⟨o,ho,hc,_⟩:=pl;exact W.kia_one W.kitx_tuple I.kIn ⟨o,ho,hc⟩ (ko "tuple" (by decide) rfl) (fun z=>nomatch z) fin
 |dk ds=>
  obtain⟨a,vs,rfl,h1,_⟩:=b1;exact fz I rx (.dK h1) (ko "dict" (by decide) rfl) fin
 |dt ds=>
  obtain⟨a,ep,vs,rfl,_,h1,_⟩:=b1;exact fz I rx (.dT h1) (ko "dict" (by decide) rfl) fin
def pi(l:Addr)(its:Array Value)(n:Nat)(b:Addr)(more:Array Value)(m:Nat)(dd:Option Addr)(sl:Array (Option Value))(h0:¬(!its.isEmpty&&Builtin.List.listTooLong (its.size+more.size))=true)(h1:its.size<=sizeLine)(h2:its.size+more.size<=sizeLine+1) :
  Meets (Builtin.«list.extend» ⟨[.ref l,.ref b],[]⟩) (fun _ R s=>s.heap.get? l=some { cls:=.type "list",dict:=none,data:=.seq its n,slots:=#[] }/\s.heap.get? b=some { cls:=.type "tuple",dict:=dd,data:=.seq more m,slots:=sl }/\R (.ok (.ret Value.none)) { s with heap:=s.heap.update l (Obj.mapSeq fun x=>x++more),toks:=s.toks }) :=
 .of_wp fun prog w A R s0 hh=>by
  obtain⟨hp,gg,dp,tks,oo⟩:=s0;obtain⟨hl,hb,hR⟩:=hh;have a1:=AutoSeq1.idx_int;have a2:=AutoSeq1.sub_tuple_tuple;have a3:=AutoSeq1.sub_list_list;have a4:=AutoSeq1.sub_tuple_list;have a5:=AutoSeq1.sub_list_tuple;have fits:(its++more).size<=sizeLine+1:=by
   rw[Array.size_append];exact h2
  wp_walk using (wpAny_updateSeq hl rfl (hz:=h1) (_hz':=fits)),BW hl,BW hb
  exact⟨_,rfl,hR⟩
def LW(K:W.Frag):V->List V->Hp->VK->Prop:=fun x vs H Q=>∃l b xs zs,x=.ref l/\vs=[.ref b]/\H l=some (.lst xs)/\kl K H b zs/\xs.length+zs.length<=sizeLine/\Q .non (upd H l (.lst (xs++zs)))
def JC(h:X.K=K):Qo X "list.extend" (LW K):=by
 subst h;intro z9 s σ H x vs v us Q I rx rv h;obtain⟨l,b,xs,zs,rfl,rfl,hH,hB,hz,q⟩:=h;cases rx;obtain⟨u,rfl,ru⟩:=rv.one;cases ru;obtain⟨z,its,n,r,hl,e⟩:=I.lstM hH;obtain⟨its2,r2,pl,hz2⟩:=I.tuple hB;obtain⟨⟨c2,dd2,d2,sl2⟩,ho2,hc2,n2,hd2⟩:=id pl;obtain rfl:c2=.type "tuple":=hc2;obtain rfl:d2=.seq its2.toArray n2:=hd2;have hl2:=r2.length;have hsz:its.toArray.size+its2.toArray.size<=sizeLine:=by rw[Vb,Vb];lia
 have hlong:¬ (!its.toArray.isEmpty&&Builtin.List.listTooLong (its.toArray.size+its2.toArray.size))=true:=by
  rw[u6 hsz,Bool.and_false];exact We
 refine AX F.slot_list_extend ⟨_,e,rfl⟩ F.entry_list_extend (F.args_list_extend_2 _ _)
  (pi l its.toArray n b its2.toArray n2 dd2 sl2 hlong (by rw[Vb];lia) (by lia)) ⟨e,ho2,?_⟩
 refine⟨.non,_,I.lset (its':=its++its2) hH e (by simp) (r.append r2) ?_,rfl,q⟩
 rw[Xa];lia
def LX(K:W.Frag):V->List V->Hp->VK->Prop:=fun x vs H Q=>yj x vs H Q\/LW K x vs H Q
def lY(h:X.K=K)(_:X.calm=true):Qo X "list.extend" (LX K):=by
 intro z9 s σ H x vs v us Q I rx rv hh;rcases hh with hh|hh
 ·exact DQ z9 s σ H x vs v us Q I rx rv hh
 ·exact JC h z9 s σ H x vs v us Q I rx rv hh
def iB:D->List D->Option (D×D)|.lst xs,[.lst ys]=>if xs.length+ys.length<=1000000 then some (.non,.lst (xs++ys)) else none|.lst xs,[.tup ys]=>if xs.length+ys.length<=1000000 then some (.non,.lst (xs++ys)) else none|_,_=>none
theorem sG:RdM K "list" (LX K) ja iB:=⟨fun Y H p x h e=>S8 h e,fun Y H p x vs ds y x' Q hp ho el e q=>by
 cases x with
 |lst xs=>
  cases ds with
  |nil=>cases e
  |cons d ds=>
   cases ds with
   |cons _ _=>cases d<;>cases e
   |nil=>
    obtain⟨ws,h1,h2⟩:=ho;obtain⟨v,r,rfl,da,el⟩:=el.uncons;obtain rfl:=el.unnil;cases d with
    |lst ys=>
     obtain⟨c,e⟩:=aH e;cases e;cases da with|@lst a us _ g0 g1 g2 g3=>exact .inl ⟨p,a,ws,us,rfl,rfl,h1,g1,by rw[h2.1,g2];exact few c,q .non _ .non ⟨_,aQ,(h2.app ⟨g2,g3⟩).upd hp⟩⟩
    |tup ys=>
     obtain⟨c,e⟩:=aH e;cases e;cases da with|@tup a us _ g1 g2 g3=>exact .inr ⟨p,a,ws,us,rfl,rfl,h1,g1.sq,by rw[h2.1,g2];exact few c,q .non _ .non ⟨_,aQ,(h2.app ⟨g2,g3⟩).upd hp⟩⟩
    |_=>cases e
 |_=>cases e⟩
def QK(K:W.Frag)(tl:TE):TI:=fun σ H R=>xY K tl σ H R\/(MH K tl σ H R\/M7 tl σ H R)
def bW(h:X.K=K)(hl:PE X l tl):PI X tg l (QK K tl):=by
 subst h;intro z9 s σ H R I hh;rcases hh with hh|hh|hh
 ·exact IX hl z9 s σ H R I hh
 ·exact MI hl z9 s σ H R I hh
 ·exact M8 hl z9 s σ H R I hh
def ig(fe:FE):FI:=fun st=>match PB fe st with
 |some z=>some z
 | none=>match SS fe st with|some z=>some z|none=>TN fe st
def F7(h:dU K te fe):RdI K (QK K te) (ig fe):=by
 intro st σ H O Z R E items zW e q;unfold ig at e;split at e
 ·rename_i z ez
  cases e;exact .inl (Jm h st σ H O Z R E items zW ez q)
 ·split at e
  ·rename_i z ez
   cases e;exact .inr (.inl (Nl h st σ H O Z R E items zW ez q))
  ·exact .inr (.inr (No h st σ H O Z R E items zW e q))
end
end VF
namespace VF
open PySem.Spec PyProof.Rows L2
section
def nx_slot:Slot "reversed" "__next__" "reversed.__next__":=by
 refine .of (owner:="reversed") (n:="__next__") ?_ ?_ ?_ ?_ ?_ ?_
 ·rw[BX,A8]
  kernel_rfl
 ·decide +kernel
 ·decide +kernel
 ·decide +kernel
 ·first
   | exact .inl (by decide +kernel)
   | exact .inr (by decide +kernel)
 ·rw[B9]
  kernel_rfl
def yI:Slot "reversed" "__iter__" "reversed.__iter__":=by
 refine .of (owner:="reversed") (n:="__iter__") ?_ ?_ ?_ ?_ ?_ ?_
 ·rw[BX,A8]
  kernel_rfl
 ·decide +kernel
 ·decide +kernel
 ·decide +kernel
 ·first
   | exact .inl (by decide +kernel)
   | exact .inr (by decide +kernel)
 ·rw[B9]
  kernel_rfl
def vy:entryFor table "reversed.__next__"=some Builtin.«reversed.__next__»:=by
 refine entryFor_of_tree ?_
 kernel_rfl
def yJ(a:Value):argsOk "reversed.__next__" ⟨[a],[]⟩:=by
 unfold argsOk
 kernel_rfl
def JD(a:Value):argsOk "reversed.__iter__" ⟨[a],[]⟩:=by
 unfold argsOk
 kernel_rfl
def F8:entryFor table "reversed.__iter__"=some Builtin.«dict_keyiterator.__iter__»:=by
 refine entryFor_alias (id':="dict_keyiterator.__iter__") ?_ ?_ ?_ ?_
 ·kernel_rfl
 ·first
   | rfl
   | decide +kernel
   | (unfold String.splitOn;simp +decide [String.splitOnAux])
 ·decide +kernel
 ·kernel_rfl
variable {prog:Program}{w:World}{A:Around}{E:Value->Shared->Prop}{s:Shared}
def IsRv(h:Heap)(it a:Addr)(i:Int):Prop:=∃o,h.get? it=some o/\o.cls=.type "reversed"/\o.data=.fields #[.ref a,rawInt i]
def IsRv.ty(x:IsRv s.heap it a i):s.TypeIs (.ref it) "reversed":=by
 obtain⟨o,ho,hc,_⟩:=x;exact⟨o,ho,hc⟩
def JE{it a:Addr}{i:Nat}{items:Array Value}{x:Value}{Q:Option Value->Shared->Prop}(hit:IsRv s.heap it a (i:Int))(ht:IsTup s.heap a items)(hx:items[i]?=some x)(hz:items.size<=sizeLine)
  (hQ:∀h' t',IsRv h' it a ((i:Int)-1)->Heap.SameBut it s.heap h'->Q (some x) { s with heap:=h',toks:=t' }):wpAny (model prog w) A (pyNext (.ref it)) Q E s:=by
 obtain⟨o,ho,hc,hd⟩:=id hit;have hi:i<items.size:=(Array.getElem?_eq_some_iff.mp hx).1;have hs:=Bi;unfold pyNext;refine Aa (AU (Ao (name:=Str.ofString "__next__") hit.ty nx_slot (Ar nx_slot hit.ty vy ?_ (yJ _))));unfold Builtin.«reversed.__next__»;refine Aa (A1 (a:=(Value.ref it,[])) rfl ?_)
 try dsimp only
 refine Aa (Al ho hd (x:=.ref a) rfl ?_);refine Aa (Al ho hd (x:=rawInt (i:Int)) rfl ?_);show wpAny _ _ (if (i:Int)<0 then _ else _) _ _ s;rw[Ah (show ¬ ((i:Int)<0) by lia)]
 refine Aa (BV ht.typeIs F.slot_tuple_getitem.lookup ?_)
 try dsimp only
 rw[Ah (by simp)]
 refine Aa (wpAny_mkInt ?_);refine Aa (AU (getItem_tuple (s:={ s with toks:=s.toks+1 }) (show IsTup s.heap a items from ht) (by lia) (by lia) (C2 (by lia) (by lia)) (by simpa using hx) ?_))
 refine Aa (Al (s:={ s with toks:=s.toks+1 }) ho hd (x:=rawInt (i:Int)) rfl ?_);show wpAny _ _ (setField (Value.ref it) 1 (rawInt ((i:Int)-1)) >>= _) _ _ _;refine Aa (Bs (s:={ s with toks:=s.toks+1 }) ho hd (by simp) ?_)
 refine Ac ⟨x,rfl,Ac (hQ _ _ ?_ (AT ..))⟩;refine⟨_,Ba _ ho (B2 (AF hd _)),(Obj.cls_mapFields ..).trans hc,?_⟩;rw[AF hd];simp
def NU(hh:A.handled=none)(hit:IsRv s.heap it a j)(hj:j<0)
  (hQ:∀h',Heap.ExtBut it s.heap h'->Q none { s with heap:=h' }):wpAny (model prog w) A (pyNext (.ref it)) Q E s:=by
 obtain⟨o,ho,hc,hd⟩:=id hit;unfold pyNext;refine Aa (AU (Ao (name:=Str.ofString "__next__") hit.ty nx_slot (Ar nx_slot hit.ty vy ?_ (yJ _))));unfold Builtin.«reversed.__next__»;refine Aa (A1 (a:=(Value.ref it,[])) rfl ?_)
 try dsimp only
 refine Aa (Al ho hd (x:=.ref a) rfl ?_);refine Aa (Al ho hd (x:=rawInt j) rfl ?_);show wpAny _ _ (if j<0 then _ else _) _ _ s;rw[if_pos hj];refine Aa (AK ?_);refine Aa ?_;show wpAny _ _ (setField (Value.ref it) 1 (rawInt (-1)) >>= fun _=>setField (Value.ref it) 0 .none) _ _ s;refine Aa (Bs ho hd (by simp) ?_)
 have g1:=Ba (Obj.mapFields (·.setIfInBounds 1 (rawInt (-1)))) ho (B2 (AF hd _));refine Bs g1 (AF hd _) (by simp) ?_
 refine Aa ?_;show wpAny _ _ (newExc (.type "StopIteration") [] >>= _) _ _ _;refine Aa ?_;simp only[newExc,newTuple];refine Aa (Am ?_ (by size_fits))
 refine Aa (m:=firstArgMember _ _) (A1 (a:=Value.none) (by first|rfl|(simp only[firstArgMember];rfl)) ?_)
 refine Am ?_ (by size_fits)
 simp only[raiseNew];refine Aa (wpAny_handled ?_)
 first|rw[show A.in1.handled=none from hh]|rw[hh]
 refine Aa (Ac (wpAny_throw ?_));refine Aa (CP (T:="StopIteration") (b:=true) ⟨_,Ae _ rfl,rfl⟩ isSubtype_stop ?_);refine Ac (hQ _ ?_);have e1:Heap.ExtBut it s.heap (s.heap.update it (Obj.mapFields (·.setIfInBounds 1 (rawInt (-1))))):=fun b o2 hb e=>(AG s.heap _ (Au hb)).trans e;have e2:Heap.ExtBut it s.heap ((s.heap.update it (Obj.mapFields (·.setIfInBounds 1 (rawInt (-1))))).update it (Obj.mapFields (·.setIfInBounds 0 .none))):=fun b o2 hb e=>(AG _ _ (Au hb)).trans (e1 b o2 hb e);exact(e2.push _).push _
def yK(hit:IsRv s.heap it a i)(h:Q (.ref it) s):wpAny (model prog w) A (pyIter (.ref it)) Q E s:=by
 refine wpAny_pyIter_slot hit.ty yI (Ar yI hit.ty F8 ?_ (JD _));show wpAny _ _ (ret (.ref it)) _ _ s;exact Ac ⟨_,rfl,"reversed",_,hit.ty,nx_slot.lookup,h⟩
def NV:typeLookup (.type "tuple") "__reversed__"=pure none:=by
 rw[BX,A8]
 kernel_rfl
def NW:isSubtype (.type "tuple") (.type "dict")=pure false:=by
 rw[B9]
 kernel_rfl
def vz(a:Addr)(i:Int):Obj:={ cls:=.type "reversed",data:=.fields #[.ref a,rawInt i] }
def F9(a:Addr)(items:Array Value)(hz:items.size<=sizeLine) :
  Meets (Builtin.«reversed.__new__» ⟨[.type "reversed",.ref a],[]⟩) (fun _ R s=>IsTup s.heap a items/\∀t',R (.ok (.ret (.ref s.heap.objs.size))) { s with heap:=s.heap.push (vz a ((items.size:Int)-1)),toks:=t' }):=by
 have hs:=Bi;refine .of_wp fun prog w A R s h=>?_;obtain⟨ht,hR⟩:=h;unfold Builtin.«reversed.__new__»;refine Aa (A1 (PySem.newClass_reversed _) ?_)
 try dsimp only
 refine Aa (A1 (a:=()) (by first|rfl|kernel_rfl) ?_)
 refine Aa (A1 (a:=()) (by first|rfl|kernel_rfl) ?_)
 try dsimp only
 refine Aa (BV ht.typeIs NV ?_)
 try dsimp only
 refine Aa ?_;show wpAny _ _ (isInstance (.ref a) (.type "dict") >>= _) _ _ s;refine Aa (CP (T:="tuple") (b:=false) ht.typeIs NW ?_);rw[Ah (by decide)]
 refine Aa (BV ht.typeIs F.slot_tuple_getitem.lookup ?_);refine Ac ?_;rw[Ah (by decide)]
 refine Aa (len_tuple ht (by lia) ?_)
 refine Aa (A1 (a:=some ((items.size:Nat):Int)) rfl ?_);show wpAny _ _ (newObj (.type "reversed") (.fields #[.ref a,rawInt ((items.size:Int)-1)]) >>= _) _ _ _;exact Aa (Am (Ac ⟨_,rfl,hR _⟩))
def JF:Slot "reversed" "__init__" "object.__init__":=by
 refine .of (owner:="object") (n:="__init__") ?_ ?_ ?_ ?_ ?_ ?_
 ·rw[BX,A8]
  kernel_rfl
 ·decide +kernel
 ·decide +kernel
 ·decide +kernel
 ·first
   | exact .inl (by decide +kernel)
   | exact .inr (by decide +kernel)
 ·rw[B9]
  kernel_rfl
def D7:TypeCalled "reversed" "reversed.__new__" "object.__init__":=by
 refine⟨?_,?_,⟨_,_,F.mro_reversed⟩,F.made_reversed,F.plain_reversed_new,F.sub_reversed_self,JF⟩
 ·decide +kernel
 ·exact F.create_reversed
def JG{items:Array Value}(ht:IsTup s.heap a items)(hz:items.size<=sizeLine)
  (h:∀t',Q (.ref s.heap.objs.size) { s with heap:=s.heap.push (vz a ((items.size:Int)-1)),toks:=t' }):wpAny (model prog w) A (call (.type "reversed") [.ref a]) Q E s :=
 callType_new D7 (by decide) (F.typeCall_reversed_1 _) (F.newCall_reversed_1 _) (fun obj=>F.args_object_init_2 obj _) F.entry_reversed_new (F9 a items hz) ⟨ht,fun t'=>⟨⟨_,Ae _ rfl,rfl⟩,h t'⟩⟩
def TR(K:W.Frag)(a:Addr)(xs:List V):It:=⟨fun i H=>kl K H a xs/\i<xs.length,fun i H v H'=>H'=H/\xs.reverse[i]?=some v,fun i _=>xs.length<=i⟩
def JH{P:Program}{w:World}{K:W.Frag}{tg:Expr}(a it:Addr)(xs:List V):Turn P w K tg (TR K a xs) [it] it (fun i h=>IsRv h it a ((xs.length:Int)-1-(i:Nat))) where
 mem:=by simp
 obj:=fun i h st b hb=>by
  have e:b=it:=by simpa using hb
  subst e;obtain⟨o,e,c,d⟩:=st;exact⟨o,e,fun v z=>by rw[d]at z;cases z⟩
 keep:=fun i h h' st k=>by
  obtain⟨o,e,r⟩:=st;exact⟨o,k it (by simp) o e,r⟩
 item:=by
  intro X hP hw hK hc i z9 s σ H E I hf st hg;subst hP hw hK;obtain⟨f0,f1,f2,f3,f4,f5⟩:=hf it (by simp)
  obtain⟨hq,hi⟩:=hg;obtain⟨its,rv,p,hz⟩:=I.tuple hq;have hl:=rv.length;have e1:((xs.length:Int)-1-(i:Nat))=((xs.length-1-i:Nat):Int):=by lia
  rw[e1]at st;have hx:xs.reverse[i]?=some (xs[xs.length-1-i]'(by lia)):=by
   rw[B4 hi,Ya (by lia)]
  obtain⟨u,hu,ru⟩:=rv.get (Ya (show xs.length-1-i<xs.length by lia))
  refine bz (JE st p (x:=u) (by simpa using hu) (by rw[Vb];lia) fun h' t' zW sb hle=>?_)
  have hle:s.toks<=t':=hle;have I1:Inv X z9 σ H { s with heap:=h',toks:=t' }:=I.turned (fun b o hb e=>sb.extBut b o hb e) f0 f1 f3 f4 f5;obtain⟨o,e,c,d⟩:=id zW;have e2:(((xs.length-1-i:Nat):Int)-1)=((xs.length:Int)-1-((i+1:Nat):Int)):=by lia
  rw[e2]at zW;exact⟨u,rfl,oI (s:={ s with heap:=h',toks:=t' }) e c d (by decide) ⟨_,H,I1,ru,⟨rfl,hx⟩,zW,fun b hb=>(hf b hb).1⟩⟩
 done:=by
  intro X hP hw hK hc i z9 s σ H E I hf st hg;subst hP hw hK;obtain⟨f0,f1,f2,f3,f4,f5⟩:=hf it (by simp)
  have hg':xs.length<=i:=hg;exact NU (I.ok.hd hc) st (by lia) fun h' eb=>⟨rfl,I.turned (t':=s.toks) (fun b o hb e=>eb b o hb e) f0 f1 f3 f4 f5⟩
 self:=fun _ _ _ _ _ st h=>yK st h
end
section
variable {X:Cx}{K:W.Frag}
def NX(K:W.Frag)(ta:TA):TI:=fun σ H R=>ta σ H fun vs H1=>∃a xs,vs=[.ref a]/\kl K H1 a xs/\R (TR K a xs) H1
def boot_reversed:bootBuiltins "reversed"=some (.type "reversed"):=by decide +kernel
theorem JI{tg a:Expr}{ta:TA}{p pos:Pos}(hg:Gl X "reversed")(hm:X.mg "reversed"=none)(ha:PA X [a] ta)(hs:starEach [a] X.env=[(false,eval a X.env)]:=by rfl):PI X tg (.Call (.Name "reversed" p) [a] [] pos) (NX X.K ta):=by
 intro z9 s σ H R I h;refine Call_ (km I hg hm boot_reversed (Ay (dq (ha pos z9 s σ H _ I h) fun us s1 ⟨vs,H1,I1,r1,q1⟩=>?_) hs rfl));obtain⟨b,xs,e,hq,q⟩:=q1;subst e;cases r1 with
 |cons r rr=>
  cases rr;cases r;obtain⟨its,rv,pt,hz⟩:=I1.tuple hq;have hl:=rv.length;refine bz (JG pt (by rw[Vb];lia) fun t' hle=>?_)
  have hle:s1.toks<=t':=hle;have I2:Inv X z9 σ H1 { s1 with heap:=s1.heap.push (vz b ((its.toArray.size:Int)-1)),toks:=t' }:=I1.kept fun c o e=>Ab _ e;have st:IsRv (s1.heap.push (vz b ((its.toArray.size:Int)-1))) s1.heap.objs.size b ((xs.length:Int)-1-((0:Nat):Int)):=by
   refine⟨_,Ae _ rfl,rfl,?_⟩;show Data.fields #[.ref b,rawInt ((its.toArray.size:Int)-1)]=_;rw[Vb,<-hl];simp
  refine yK (s:={ s1 with heap:=s1.heap.push (vz b ((its.toArray.size:Int)-1)),toks:=t' }) st ⟨s1.heap.objs.size,[s1.heap.objs.size],_,_,H1,rfl,I2,JH b _ xs,st,fun c hc=>?_,q⟩;have e:c=s1.heap.objs.size:=by simpa using hc
  subst e;exact I1.fpOk (Qa _) (I1.hok.fresh (Qa _))
def vA(h:X.K=K)(hg:Gl X "reversed")(hs:starEach [a] X.env=[(false,eval a X.env)])(hm:X.mg "reversed"=none)(ha:PE X a te):PI X tg (.Call (.Name "reversed" p) [a] [] pos) (NX K (gH te rN)):=by
 subst h;exact JI hg hm (mQ ha ac hs) hs
def yL(fe:FE):FI:=fun st=>(fe st).bind fun x=>(cont x.2 x.1).bind fun d=>(d.itt).bind fun ds=>some (ds.reverse,x.2)
theorem Ga(h:dU K te fe):RdI K (NX K (gH te rN)) (yL fe):=by
 intro st σ H O Z R E items zW e q;refine dD e fun r zV e1 e=>?_;refine bO e fun d e2 e=>?_;refine bO e fun ds e3 e=>?_;cases e;refine h st σ H O Z _ E r _ e1 fun v H1 O1 x1 k1 E1 rv w1=>?_;cases d with
 |tup ds'=>
  cases e3;obtain⟨a,vs,rfl,h1,el⟩:=rv.ba E1 e2;refine⟨a,vs,rfl,h1.sq,q _ H1 O1 x1 k1 E1 fun H' O' ex _=>?_⟩;have da':=(DA.tup h1 el.1 el.2).ext ex;have el':=el.ext ex;have hl:=el.1;have sq:kl K H' a vs:=TupA.sq (Y:=U O1 Z) (h1.go (fun b o e ny=>ex.kp b o e fun z=>ny (.inl z)) fun b z=>.inl z);refine⟨fun i hi=>?_,fun i d hd=>?_⟩
  ·show vs.length<=i;rw[Zi]at hi;lia
  ·have hi:i<vs.length:=by
    have:=(Yd.mp hd).1;rw[Zi]at this;lia
   refine⟨⟨sq,hi⟩,fun x H'' hx=>?_⟩;obtain⟨rfl,hx⟩:=hx;exact⟨Same.refl _,el'.rev.2 i x d hx hd⟩
 |_=>cases e3
end
end VF
namespace VF
open PySem.Spec PyProof.Rows L2
section
variable {prog:Program}{w:World}{A:Around}{E:Value->Shared->Prop}{s:Shared}
def w6(n:Nat):Builtin.Slice.slicePlaces ((n:Int)-1) (-1) (-1)=n:=by
 unfold Builtin.Slice.slicePlaces;rw[Ah (by decide)]
 have e:(- (-1):Int)=1:=rfl;rw[e,Du];split<;>lia
def w9(n:Nat):Builtin.Slice.sliceAdjust none none (-1) (n:Int)=((n:Int)-1,-1):=by
 unfold Builtin.Slice.sliceAdjust;simp
def vB{sl:Addr}{n:Nat}{t:Tok}{Q:Int×Int×Nat->Shared->Prop}(hs:s.heap.IsSliceOf sl .none .none (.int (-1) t))(h:Q ((n:Int)-1,-1,n) s) :
  wpAny (model prog w) A (Builtin.Slice.sliceApplied (.ref sl) (pure (n:Int))) Q E s:=by
 obtain⟨os,hos,hcs,hds⟩:=id hs;unfold Builtin.Slice.sliceApplied Builtin.Slice.sliceFields;refine Aa (Aa (Al hos hds (x:=.none) rfl (Aa (Al hos hds (x:=.none) rfl (Aa (Al hos hds (x:=.int (-1) t) rfl (Ac ?_)))))));refine Aa (HT.slicePart_ (.int (-1) t) ?_);show wpAny _ _ (if ((-1:Int) == 0)=true then _ else _) _ _ s;rw[Ah (by decide)]
 refine Aa (HT.slicePart_ .none (Aa (HT.slicePart_ .none (Aa (Ac ?_)))));show wpAny _ _ (match Builtin.Slice.sliceAdjust none none (-1) (n:Int) with|(lo,hi)=>pure (lo,(-1:Int),Builtin.Slice.slicePlaces lo hi (-1))) _ _ s
 rw[w9];show wpAny _ _ (pure ((n:Int)-1,(-1:Int),Builtin.Slice.slicePlaces ((n:Int)-1) (-1) (-1))) _ _ s;rw[w6];exact Ac h
def picked_rev(its:List Value):((List.range its.length).filterMap fun(k:Nat)=>its.toArray[((its.length:Int)-1+(k:Int)*(-1)).toNat]?).toArray=its.reverse.toArray:=by
 congr 1;refine Eq.trans (iO (g:=fun k=>its.reverse[k]?) fun k hk=>?_) ?_
 ·have hk':=Vi.mp hk;have e:((its.length:Int)-1+(k:Int)*(-1)).toNat=its.length-1-k:=by lia
  rw[e,B4 hk'];simp
 ·have:=nY its.reverse;rw[Zi]at this;exact this
def lZ{its:List Value}(ht:IsTup s.heap t its.toArray)(hs:s.heap.IsSliceOf sl .none .none (.int (-1) u))(hsz:its.length<=sizeLine)
  (h:Q (.ref s.heap.objs.size) { s with heap:=s.heap.push { cls:=.type "tuple",data:=.seq its.reverse.toArray } }):wpAny (model prog w) A (getItem (.ref t) (.ref sl)) Q E s:=by
 have fits:sizeOk (.seq its.reverse.toArray):=by
  show its.reverse.toArray.size<=sizeLine;rw[Vb,Zi];exact hsz
 obtain⟨os,hos,hcs,hds⟩:=id hs;have hT:s.TypeIs (.ref sl) "slice":=⟨os,hos,hcs⟩;unfold getItem
 try with_reducible refine Az ?_
 first
  | refine Aa (Ac ?_)
  | skip
 refine Aa (CB ht.typeIs (by decide) ?_)
 refine Aa (Ao (name:=Str.ofString "__getitem__") ht.typeIs Ap (Ar Ap ht.typeIs Cc ?_ (Cn _ _)));show wpAny _ _ (Builtin.Tuple.tupleItemsOf (.ref t) >>= _) _ _ s;refine Aa (tupleItemsOf_ ht ?_);refine Aa (AD hT ?_);rw[if_pos (by decide)]
 refine Aa (vB hs ?_);have hno:¬ ((((its.toArray.size:Int)-1) == 0&&(-1:Int) == 1&&its.toArray.size == its.toArray.size)=true):=by
  intro q;rw[Wf,Wf]at q;exact absurd q.1.2 (by decide)
 show wpAny _ _ (if (((its.toArray.size:Int)-1) == 0&&(-1:Int) == 1&&its.toArray.size == its.toArray.size)=true then _ else _) _ _ s;rw[Ah hno];show wpAny _ _ (Builtin.Tuple.tupleExact ((List.range its.toArray.size).filterMap fun(k:Nat)=>its.toArray[((its.toArray.size:Int)-1+(k:Int)*(-1)).toNat]?).toArray >>= _) _ _ s;have e:((List.range its.toArray.size).filterMap fun(k:Nat)=>its.toArray[((its.toArray.size:Int)-1+(k:Int)*(-1)).toNat]?).toArray=its.reverse.toArray:=picked_rev its;rw[e]
 first
  | exact Aa (m:=Builtin.Tuple.tupleExact _) (Am (Ac ⟨_,rfl,Ac h⟩) fits)
  | exact Aa (m:=Builtin.Tuple.tupleExact _) (Am (Aa (Ac (Ac ⟨_,rfl,Ac h⟩))) fits)
  | exact Aa (Aa (m:=Builtin.Tuple.tupleExact _) (Am (Ac (Ac ⟨_,rfl,Ac h⟩)) fits))
  | exact Aa (Aa (m:=Builtin.Tuple.tupleExact _) (Am (Ac ⟨_,rfl,Ac h⟩) fits))
end
section
variable {X:Cx}{K:W.Frag}{Y:AS}{H:Hp}{v:V}{d:D}{vs:List V}{ds:List D}
def LY(K:W.Frag)(te:TE):TE:=fun σ H Q=>te σ H fun x H1=>∃a xs,x=.ref a/\kl K H1 a xs/\∀p,H1 p=none->Q (.ref p) (upd H1 p (.tup xs.reverse))
def JJ(he:PE X e te):PE X (.Subscript e (.Slice none none (some (.UnaryOp .USub (.Constant (.int 1) j p1) p2)) p3) pos) (LY X.K te):=by
 intro z9 s σ H Q I h;refine Co (dq (he z9 s σ H _ I h) fun v s1 zz9=>?_);obtain⟨x,H1,I1,r1,q1⟩:=zz9;obtain⟨a,xs,rfl,hx,q⟩:=q1;cases r1;refine wpAny_Slice ?_;rw[Cg];refine Ac ?_;refine Ac ?_;rw[evalPart_some];refine UnaryOp_ (Cj (neg_int ?_));have I2:=I1.tok (s1.toks+1+1);have I4:=I2.kept (t':=s1.toks+1+1) (h':=s1.heap.push { cls:=.type "slice",data:=.fields #[.none,.none,.int (-1) (s1.toks+1)] }) fun b ob q=>Ab _ q;obtain⟨its,r,ht,hz⟩:=I4.tuple hx;have hlen:=r.length;refine tail_any (ops:=[.ref a,.ref s1.heap.objs.size]) ht.typeIs Ap.lookup ?_ (by with_unfolding_all rfl)
 refine lZ ht (Heap.IsSliceOf.new ..) (by lia) ?_
 refine⟨.ref _,_,I4.laid (t':=s1.toks+1+1) (o:=.tup xs.reverse) (fun b ob q=>Ab _ q) (Qa _) ?_,rfl,q _ (I4.hok.fresh (Qa _))⟩;exact⟨by rw[Zi];exact hz,_,r.reverse,IsTup.new _ _⟩
def LZ(K:W.Frag)(te:TE):TE:=fun σ H Q=>LD K te σ H Q\/LY K te σ H Q
def JK(h:X.K=K)(he:PE X e te):PE X (.Subscript e (.Slice none none (some (.UnaryOp .USub (.Constant (.int 1) j p1) p2)) p3) pos) (LZ K te):=by
 subst h;intro z9 s σ H Q I hh;rcases hh with hh|hh
 ·exact Na he z9 s σ H Q I hh
 ·exact JJ he z9 s σ H Q I hh
def NY:D->Option Rz|.lst ds=>some (.lst ds.reverse,true)|.fl ds=>some (.lst ds.reverse,true)|.tup ds=>some (.tup ds.reverse,false)|_=>none
def Gb(fe:FE):FE:=fun st=>(fe st).bind fun x=>(cont x.2 x.1).bind fun d=>(NY d).bind fun z=>some (mk z,x.2)
theorem Gc(h:dU K te fe):dU K (LZ K te) (Gb fe):=by
 intro st σ H O Z Q E r zW e q;refine dD e fun r1 zV e1 e=>?_;refine bO e fun d e2 e=>?_;refine bO e fun z e3 e=>?_;cases e;cases d with
 |lst ds=>
  cases e3;refine .inl (h st σ H O Z _ E r1 _ e1 fun v H1 O1 x1 k1 E1 rv w1=>?_);obtain⟨a,vs,rfl,h1,el⟩:=rv.ba E1 e2;refine⟨a,vs,rfl,.inl (.inl h1),fun p hp=>?_⟩;obtain⟨E3,rv3⟩:=E1.new hp el.rev;exact q _ _ O1 (x1.trans (Same.ext (aY hp _))) k1 E3 rv3 fun p' e=>by cases e;exact x1.dead hp
 |fl ds=>
  cases e3;refine .inl (h st σ H O Z _ E r1 _ e1 fun v H1 O1 x1 k1 E1 rv w1=>?_);obtain⟨a,vs,rfl,h1,el⟩:=rv.ba E1 e2;refine⟨a,vs,rfl,h1.sq,fun p hp=>?_⟩;obtain⟨E3,rv3⟩:=E1.new hp el.rev;exact q _ _ O1 (x1.trans (Same.ext (aY hp _))) k1 E3 rv3 fun p' e=>by cases e;exact x1.dead hp
 |tup ds=>
  cases e3;refine .inr (h st σ H O Z _ E r1 _ e1 fun v H1 O1 x1 k1 E1 rv w1=>?_);obtain⟨a,vs,rfl,h1,el⟩:=rv.ba E1 e2;refine⟨a,vs,rfl,h1.sq,fun p hp=>?_⟩;obtain⟨E3,rv3⟩:=E1.newT hp el.rev;exact q _ _ O1 (x1.trans (Same.ext (aY hp _))) k1 E3 rv3 True.intro
 |_=>cases e3
def QL(a b:Str):Prop:=¬ b.cps.toList<a.cps.toList
instance (a b:Str):Decidable (QL a b):=by unfold QL;infer_instance
def Ge(h:QL a b)(g:QL b a):a=b:=by
 unfold QL at *;rw[List.not_lt]at *;have e:=List.le_antisymm h g;cases a;cases b;exact congrArg Str.mk (Array.toList_inj.mp e)
def boot_sorted:bootBuiltins "sorted"=some (.builtin "sorted"):=by decide +kernel
def JL(xs:List Str):El K Y H (xs.map V.str) (xs.map D.str):=by
 refine⟨by simp,fun i v d h1 h2=>?_⟩
 rw[Ve]at h1 h2;obtain⟨c,e1,rfl⟩:=Qe.mp h1;rw[e1]at h2;obtain rfl:=Option.some.inj h2;exact .str _
end
end VF
namespace VF
open L2
section
variable {K:W.Frag}
def Gf(g:D->List D->Option (Rz×D))(i:Nat)(dds:List D)(fr:FA):FE:=fun st=>(st[i]?).bind fun s0=>(s0.ow).bind fun _=>(fr st).bind fun x=>(d8 x.1 x.2).bind fun y=>(y.2[i]?).bind fun s=>(s.ow).bind fun d=>(g d (y.1++dds)).bind fun z=>some (mk z.1,y.2.set i (s.put z.2))
def Gg(hd:∀Y H,El K Y H dvs dds)(hr:wH K tr fr):dU K (LG (lV K g) dvs (gH (uU i) tr)) (Gf g i dds fr):=by
 intro st σ H O Z Q E r0 zW h q;refine bO h fun s0 f1 h=>?_;refine bO h fun x0 f2 h=>?_;refine dD h fun rs zV e1 h=>?_;refine dD h fun ds st2 e2 h=>?_;refine bO h fun s e3 h=>?_;refine bO h fun x e4 h=>?_;refine dD h fun z x' e5 h=>?_;cases h;obtain⟨p,g1,_,_⟩:=E.own i s0 x0 f1 f2;refine⟨.ref p,g1,?_⟩;refine hr st σ H O Z _ E rs zV e1 fun vs H1 O1 x1 k1 E1 rvs=>?_;obtain⟨O2,x2,k2,E2,el⟩:=rvs.esc E1 e2;exact oM E2 e3 e4 g1 (el.app (hd _ _)) e5 fun v H' O' ex kk E' rv w=>q v H' O' ((x1.trans x2).trans ex) ((k1.trans k2).trans kk) E' rv (w.back (x1.trans x2))
def fQ{X:Cx}(hg:Gl X x)(hm:X.mg x=none)(hv:bootBuiltins x=some (.type T))(hn:x≠"__name__":=by decide)(hd:(x == ("__debug__":Str))=false:=by decide):PE X (.Name x pos) (tC (.ty T)):=IV hg hm hv rfl hn hd
def yM(K:W.Frag):Sp:=fun vs H Q _=>∃(a:Addr)(ns:List Int),vs=[.ref a]/\ii K H a (ns.map V.int)/\ns.length<=63/\∀H',Q (.bl true) H'
end
end VF
namespace VF
open L2
inductive Dp:Nat->D->Prop where
 | bl (n:Nat) (b:Bool):Dp (n+1) (.bl b)
 | int (n:Nat) (i:Int):Dp (n+1) (.int i)
 | str (n:Nat) (x:Str):Dp (n+1) (.str x)
 | non (n:Nat):Dp (n+1) .non
 | tup {n:Nat} {ds:List D}:ds.length<=1000000->(∀d∈ds,Dp n d)->Dp (n+1) (.tup ds)
 | lst {n:Nat} {ds:List D}:ds.length<=1000000->(∀d∈ds,Dp n d)->Dp (n+1) (.lst ds)
open Classical in
noncomputable def cZ(n:Nat):List D->Option Rz
 |[u,v]=>if u=v/\Dp n u then some (.bl true,false) else none
 |_=>none
open Classical in
def jq(h:Dp n u):cZ n [u,u]=some (.bl true,false):=by
 show(if u=u/\Dp n u then some (D.bl true,false) else none)=_;rw[if_pos ⟨rfl,h⟩]
def sH(h:cZ n ds=some z):∃u,ds=[u,u]/\Dp n u/\z=(.bl true,false):=by
 unfold cZ at h;split at h
 ·rename_i u v
  by_cases c:u=v/\Dp n u
  ·rw[if_pos c]at h;obtain⟨rfl,c⟩:=c;exact⟨u,rfl,c,(Option.some.inj h).symm⟩
  ·rw[Ah c]at h;cases h
 ·cases h
end VF
namespace VF
open L2
section
variable {st zV st2 st3 s s1 s2:En}{r r1 r2:Rs}{d d1 d2 x y x':D}{ds es:List D}{rs:List Rs}{z:Rz}{o:Ot}{i k n m:Nat}{F G B:FS}{fa fb fe fi':FE}{fr:FA}{f g:FT}{fi:FI}{fg:FG}{zZ:List Nat}
def am(h:F st=some (.nx s))(h2:G s=a):ay F G st=a:=by simp only[ay,h,Yb];exact h2
def fY(h:F st=some (.rt r s)):ay F G st=some (.rt r s):=by simp only[ay,h,Yb]
def eO(h:f st=some (true,s))(h2:F s=a):fP f F G st=a:=by simp only[fP,h,Yb,if_true];exact h2
def cf(h:f st=some (false,s))(h2:G s=a):fP f F G st=a:=by simp only[fP,h,Yb,Xg,if_false];exact h2
def cz(h:fe st=some (.d x,s))(h2:mV i (.v x) s=some s1):aV fe i st=some (.nx s1):=by simp only[aV,h,Yb,h2]
def eG(h:fe st=some (.f x,s))(h2:mV i (.o x) s=some s1):aV fe i st=some (.nx s1):=by simp only[aV,h,Yb,h2]
def bE(h:fe st=some (r,s)):bV fe st=some (.nx s):=by simp only[bV,h,Yb]
def aL(h:fe st=some (r,s)):be fe st=some (.rt r s):=by simp only[be,h,Yb]
def av(h1:fa st=some (r1,s1))(h2:fb s1=some (r2,s2))(h3:cont s2 r1=some d1)(h4:cont s2 r2=some d2)(h5:b d1 d2=some z)(hz:mk z=r:=by rfl):aK b fa fb st=some (r,s2):=by
 simp only[aK,h1,h2,h3,h4,h5,hz,Yb]
def af(h1:fa st=some (r,s1))(h2:fr s1=some (rs,s2)):aa fa fr st=some (r::rs,s2):=by simp only[aa,h1,h2,Yb]
def a6(h1:fr st=some (rs,s1))(h2:dL s1 rs=some ds)(h3:b ds=some z)(hz:mk z=r:=by rfl):bU b fr st=some (r,s1):=by simp only[bU,h1,h2,h3,hz,Yb]
def aE(h1:fr st=some (rs,s1))(h2:d8 rs s1=some (ds,s2))(h3:b ds=some z)(hz:mk z=r:=by rfl):aO b fr st=some (r,s2):=by simp only[aO,h1,h2,h3,hz,Yb]
def aM(h1:fr st=some (rs,s1))(h2:dL s1 rs=some ds)(h3:b ds=some (d,false))(h4:d.isSc=true):aN b fr st=some (.d d,s1):=by
 simp only[aN,h1,h2,h3,Yb,h4];rfl
def bS{t t0:Sl}(h0:st[i]?=some t0)(h00:t0.ow=some x0)(h1:fr st=some (rs,s1))(h2:d8 rs s1=some (ds,s2))(h3:s2[i]?=some t)(h4:t.ow=some x)(h5:b x ds=some (z,x'))(hz:mk z=r:=by rfl)(h6:s2.set i (t.put x')=st3:=by rfl):gj b i fr st=some (r,st3):=by
 simp only[gj,h0,h00,h1,h2,h3,h4,h5,h6,hz,Yb]
def Gh{t t0:Sl}(h0:st[i]?=some t0)(h00:t0.ow=some x0)(h1:fr st=some (rs,s1))(h2:d8 rs s1=some (ds,s2))(h3:s2[i]?=some t)(h4:t.ow=some x)(h5:b x (ds++es)=some (z,x'))(hz:mk z=r:=by rfl)(h6:s2.set i (t.put x')=st3:=by rfl):Gf b i es fr st=some (r,st3):=by
 simp only[Gf,h0,h00,h1,h2,h3,h4,h5,h6,hz,Yb]
def fR{t t0:Sl}(h0:st[i]?=some t0)(h00:t0.ow=some x0)(hk:ok x0=true)(h1:fr st=some (rs,s1))(h2:d8 rs s1=some (ds,s2))(h3:s2[i]?=some t)(h4:t.ow=some x)(h5:mm x ds=some (y,x'))(h6:s2.set i (t.put x')=st3:=by rfl):fM ok mm i fr st=some (.d y,st3):=by
 simp only[fM,h0,h00,hk,h1,h2,h3,h4,h5,h6,Yb,if_true]
def aF(h:fe st=some (r,s))(h2:Pz s r=some c):aD fe st=some (c,s):=by simp only[aD,h,h2,Yb]
def kF(h:f st=some (c,s)):kB f st=some (!c,s):=by simp only[kB,h,Yb]
def mZ(h:f st=some (true,s))(h2:g s=a):iw f g st=a:=by simp only[iw,h,Yb,if_true];exact h2
def oN(h:f st=some (false,s)):iw f g st=some (false,s):=by simp only[iw,h,Yb,Xg,if_false]
def JM(h:f st=some (false,s))(h2:g s=a):vc f g st=a:=by simp only[vc,h,Yb,Xg,if_false];exact h2
def qy(h:fa st=some (r,s))(h1:Pz s r=some true)(h2:fb s=a):mU fa fb st=a:=by simp only[mU,h,h1,Yb,if_true];exact h2
def bq(h1:fi st=some (ds,s1))(h2:(tU zZ s1.length&&decide (ds.length<=1000000))=true)(h3:cF fg fc fe k ds (lL k zZ s1)=some (es,s2))(h4:wb zZ (s2.drop k) s1=st3:=by rfl):bQ k zZ fi fg fc fe st=some (.f (.lst es),st3):=by
 simp only[bQ,h1,Yb];rw[if_pos h2,h3,<-h4];rfl
def eQ(h1:fi st=some (ds,s1))(h2:cN fg B ds s1=some o):ik fi fg B st=some o:=by simp only[ik,h1,Yb];exact h2
def aI(h0:ds.length=m)(h1:F (jm n ds)=some o)(h2:fin o=some z):a8 F n m ds=some z:=by
 simp only[a8,if_pos h0,h1,Yb];exact h2
def dw(h0:ds.length+1=m)(h1:F (iP n x ds)=some o)(h2:LQ o=some w):dG F n m x ds=some w:=by
 simp only[dG,if_pos h0,h1,Yb];exact h2
theorem sI(h:D->D):∀(items:List D)(sb:En),(∀x∈items,∃s1 s2 y s3 s4,fg x sb=some s1/\fc s1=some (true,s2)/\fe s2=some (y,s3)/\esc y s3=some (h x,s4)/\rR k s4=sb)->cF fg fc fe k items sb=some (items.map h,sb)
 |[],sb,_=>rfl
 | x::r,sb,hh=>by
  obtain⟨s1,s2,y,s3,s4,e1,e2,e3,e4,e5⟩:=hh x Va;have ih:=sI h r sb fun z hz=>hh z (Wa _ hz);simp only[cF,e1,e2,e3,e4,Yb,if_true,e5,ih,Qd]
theorem sJ(I:List D->En->Prop)(step:∀(pre:List D)(x:D)(sb:En),I pre sb->∃s1 s2 y s3 d s4,fg x sb=some s1/\fc s1=some (true,s2)/\fe s2=some (y,s3)/\esc y s3=some (d,s4)/\I (pre++[d]) (rR k s4)) :
  ∀(items:List D)(pre:List D)(sb:En),I pre sb->∃ds sf,cF fg fc fe k items sb=some (ds,sf)/\ds.length=items.length/\I (pre++ds) sf
 |[],pre,sb,h=>⟨[],sb,rfl,rfl,by rw[Ze];exact h⟩
 | x::r,pre,sb,h=>by
  obtain⟨s1,s2,y,s3,d,s4,e1,e2,e3,e4,e5⟩:=step pre x sb h;obtain⟨ds,sf,e6,e7,e8⟩:=sJ I step r (pre++[d]) (rR k s4) e5;refine⟨d::ds,sf,?_,by simp[e7],by rw[Zc]at e8;exact e8⟩
  simp only[cF,e1,e2,e3,e4,Yb,if_true,e6]
theorem vC(all:List D)(I:List D->En->Prop)(step:∀(gone:List D)(x:D)(st:En),x∈all->I gone st->∃s1 s2,fg x st=some s1/\B s1=some (.nx s2)/\I (gone++[x]) s2) :
  ∀(items gone:List D)(st:En),(∀x∈items,x∈all)->I gone st->∃sf,cN fg B items st=some (.nx sf)/\I (gone++items) sf
 |[],gone,st,_,h=>⟨st,rfl,by rw[Ze];exact h⟩
 | x::r,gone,st,ha,h=>by
  obtain⟨s1,s2,e1,e2,e3⟩:=step gone x st (ha x Va) h;obtain⟨sf,e4,e5⟩:=vC all I step r (gone++[x]) s2 (fun z hz=>ha z (Wa _ hz)) e3;refine⟨sf,?_,by rw[Zc]at e5;exact e5⟩
  simp only[cN,e1,e2,Yb];exact e4
theorem xc(I:Nat->En->Prop)(Out:En->Prop)(step:∀(m:Nat)(st:En),I m st->(∃s1,f st=some (false,s1)/\Out s1)\/∃s1 s2 m',f st=some (true,s1)/\B s1=some (.nx s2)/\m'<m/\I m' s2) :
  ∀(n m:Nat)(st:En),m<n->I m st->∃sf,IS f B n st=some (.nx sf)/\Out sf
 |0,m,st,hn,_=>absurd hn (BZ _)
 | n+1,m,st,hn,h=>by
  rcases step m st h with⟨s1,e1,ho⟩|⟨s1,s2,m',e1,e2,hm,h2⟩
  ·exact⟨s1,by simp only[IS,e1,Yb,Xg,if_false],ho⟩
  ·obtain⟨sf,e3,ho⟩:=xc I Out step n m' s2 (by lia) h2
   exact⟨sf,by simp only[IS,e1,e2,Yb,if_true];exact e3,ho⟩
end
end VF
namespace VF
open L2
def ix_str{z:Str}(hz:z.length<=1000000)(h:ki z.cps.toList i=some c):bu (.str z) (.int i)=some (.str ⟨#[c]⟩,false):=by
 have e1:FK (.str z) (.int i)=none:=rfl;have e2:Jx (.str z) (.int i)=none:=rfl;have e3:NH (.str z) (.int i)=some (.str ⟨#[c]⟩,false):=by
  show(if z.length<=1000000 then(ki z.cps.toList i).bind (fun c=>some (D.str ⟨#[c]⟩,false)) else none)=_;rw[if_pos hz,h];rfl
 unfold bu n4;rw[e1,e2];exact e3
def m5{a b:Str}(h:a.length+b.length<=1000000):bR (.str a) (.str b)=some (.str (a++b),false):=by
 have e1:vg (.str a) (.str b)=none:=rfl;have e2:vk (.str a) (.str b)=some (.str (a++b),false):=by
  show(if a.length+b.length<=1000000 then some (D.str (a++b),false) else none)=_;rw[if_pos h]
 unfold bR n4;rw[e1,e2]
def yN{a:Str}(h:0<=n/\n<=1000/\a.length<=1000):pf (.str a) (.int n)=some (.str (Txt.mul a n),false):=by
 have e1:yA (.str a) (.int n)=none:=rfl;have e2:FJ (.str a) (.int n)=some (.str (Txt.mul a n),false):=by
  show(if 0<=n/\n<=1000/\a.length<=1000 then some (D.str (Txt.mul a n),false) else none)=_;rw[if_pos h]
 unfold pf n4;rw[e1,e2]
theorem fE:∀xs:List Str,fD (xs.map D.str)=some xs
 |[]=>rfl
 | x::r=>by
  show(fD (r.map D.str)).bind (fun xs=>some (x::xs))=_;rw[fE r];rfl
theorem sK:∀xs:List Str,sC (xs.map D.str)=some (xs.map V.str)
 |[]=>rfl
 | x::r=>by
  show(sC (r.map D.str)).bind (fun vs=>some (V.str x::vs))=_;rw[sK r];rfl
theorem sL:∀n:Nat,mX (List.replicate n (D.bl true))=some (List.replicate n true)
 |0=>rfl
 | n+1=>by
  show(mX (List.replicate n (D.bl true))).bind (fun bs=>some (true::bs))=_;rw[sL n];rfl
def vD(n:Nat):D0 [.lst (List.replicate n (D.bl true))]=some (.bl true,false):=by
 show(mX (List.replicate n (D.bl true))).bind (fun bs=>some (D.bl (bs.all id),false))=_;rw[sL];show some (D.bl ((List.replicate n true).all id),false)=_;have:(List.replicate n true).all id=true:=by
  rw[Yh];intro b hb;exact Dj hb
 rw[this]
def L0{xs:List Str}:IT (.str x) (.lst (xs.map D.str))=some (.bl (decide (x∈xs)),false):=by
 have e1:Jv false (.str x) (.lst (xs.map D.str))=none:=rfl;have e2:Jw false (.str x) (.lst (xs.map D.str))=some (.bl (decide (x∈xs)),false):=by
  show(sC (xs.map D.str)).bind (fun ws=>some (D.bl (Jc (.str x) ws),false))=_;rw[sK];show some (D.bl (Jc (.str x) (xs.map V.str)),false)=_;have e:Jc (.str x) (xs.map V.str)=decide (x∈xs):=by
   unfold Jc;rw[Ds];induction xs with
   |nil=>rfl
   |cons y r ih=>
    rw[Bh,ih rfl];show((y == x)||decide (x∈r))=_;by_cases e:y=x
    ·subst e;simp
    ·have e':¬ x=y:=fun z=>e z.symm;simp[e,e']
  rw[e]
 unfold IT n4;rw[e1];exact e2
def t5{z:Str}(h:z.length<=1000000):jh (.str z) lo hi=some (.str (Txt.slice z lo hi),false):=by
 have e1:DZ (.str z) lo hi=none:=rfl;have e2:ph (.str z) lo hi=none:=rfl;have e3:FM (.str z) lo hi=some (.str (Txt.slice z lo hi),false):=by
  show(if z.length<=1000000 then some (D.str (Txt.slice z lo hi),false) else none)=_;rw[if_pos h]
 unfold jh FL;rw[e1,e2];exact e3
section
variable {st s s1 s2 s3:En}{r r1:Rs}{rs:List Rs}{d d0 d1:D}{ds:List D}{z:Rz}{fe fo:FE}{fa:FA}{fl fh:FO}
def vE(h1:fo st=some (r1,s1))(h2:cont s1 r1=some d0)(h3:NK T d0=true)(h4:fa s1=some (rs,s2))(h5:cont s2 r1=some d)(h6:dL s2 rs=some ds)(h7:b d ds=some z)(hz:mk z=r:=by rfl):Jz T b fo fa st=some (r,s2):=by
 simp only[Jz,h1,h2,h3,h4,h5,h6,h7,hz,Yb,if_true]
def gx{j:Int}(h1:fa st=some (rs,s1))(h2:dL s1 rs=some [.int j])(h3:-(2 ^ 62)<=j/\j<2 ^ 62):pc fa st=some (rng 0 j.toNat,s1):=by
 simp only[pc,h1,h2,Yb,Nn];rw[if_pos h3]
def gL(h1:fe st=some (r,s1))(h2:fl s1=some (lo,s2))(h3:fh s2=some (hi,s3))(h4:cont s3 r=some d)(h5:b d lo hi=some z)(hz:mk z=r':=by rfl):n8 b fe fl fh st=some (r',s3):=by
 simp only[n8,h1,h2,h3,h4,h5,hz,Yb]
def qz{f:FT}{fa fb:FE}{a:Option (Rs×En)}(h:f st=some (true,s))(h2:fa s=a):DW f fa fb st=a:=by simp only[DW,h,Yb,if_true];exact h2
def qA{f:FT}{fa fb:FE}{a:Option (Rs×En)}(h:f st=some (false,s))(h2:fb s=a):DW f fa fb st=a:=by simp only[DW,h,Yb,Xg,if_false];exact h2
def m6(h1:fe st=some (r,s1))(h2:esc r s1=some (.lst ds,s2)):ig fe st=some (ds,s2):=by
 have:PB fe st=some (ds,s2):=by simp only[PB,h1,h2,Yb,D.its]
 unfold ig;rw[this]
def jb(h1:fe st=some (r,s1))(h2:esc r s1=some (.tup ds,s2)):ig fe st=some (ds,s2):=by
 have e1:PB fe st=none:=by simp only[PB,h1,h2,Yb,D.its,Option.bind_none]
 have e2:SS fe st=some (ds,s2):=by simp only[SS,h1,h2,Yb,D.itt]
 unfold ig;rw[e1,e2]
def JN(h1:fe st=some (r,s1))(h2:cont s1 r=some (.tup ds)):yL fe st=some (ds.reverse,s1):=by
 simp only[yL,h1,h2,Yb,D.itt]
def NZ(h1:fe st=some (r,s1))(h2:cont s1 r=some d)(h3:NY d=some z)(hz:mk z=r':=by rfl):Gb fe st=some (r',s1):=by
 simp only[Gb,h1,h2,h3,hz,Yb]
def bH(h1:fa st=some (rs,s1))(h2:d8 rs s1=some (ds,s2))(h3:ds.length<=1000000):cO fa st=some (.d (.tup ds),s2):=by
 simp only[cO,h1,h2,Yb];rw[if_pos h3]
end
theorem m7(all:List D)(I:List D->En->Prop)(step:∀(gone:List D)(x:D)(rest:List D)(st:En),all=gone++x::rest->I gone st->∃s1 s2,fg x st=some s1/\B s1=some (.nx s2)/\I (gone++[x]) s2) :
  ∀(items gone:List D)(st:En),all=gone++items->I gone st->∃sf,cN fg B items st=some (.nx sf)/\I all sf
 |[],gone,st,ha,h=>⟨st,rfl,by rw[ha,Ze];exact h⟩
 | x::r,gone,st,ha,h=>by
  obtain⟨s1,s2,e1,e2,e3⟩:=step gone x r st ha h;obtain⟨sf,e4,e5⟩:=m7 all I step r (gone++[x]) s2 (by rw[Zc];exact ha) e3
  refine⟨sf,?_,e5⟩;simp only[cN,e1,e2,Yb];exact e4
theorem sM(all:List D)(I:List D->List D->En->Prop)(step:∀(gone:List D)(x:D)(rest pre:List D)(sb:En),all=gone++x::rest->I gone pre sb->∃s1 s2 y s3 d s4,fg x sb=some s1/\fc s1=some (true,s2)/\fe s2=some (y,s3)/\esc y s3=some (d,s4)/\I (gone++[x]) (pre++[d]) (rR k s4)) :
  ∀(items gone pre:List D)(sb:En),all=gone++items->I gone pre sb->∃ds sf,cF fg fc fe k items sb=some (ds,sf)/\I all (pre++ds) sf
 |[],gone,pre,sb,ha,h=>⟨[],sb,rfl,by rw[ha,Ze,Ze];exact h⟩
 | x::r,gone,pre,sb,ha,h=>by
  obtain⟨s1,s2,y,s3,d,s4,e1,e2,e3,e4,e5⟩:=step gone x r pre sb ha h;obtain⟨ds,sf,e6,e8⟩:=sM all I step r (gone++[x]) (pre++[d]) (rR k s4) (by rw[Zc];exact ha) e5
  refine⟨d::ds,sf,?_,by rw[Zc]at e8;exact e8⟩
  simp only[cF,e1,e2,e3,e4,Yb,if_true,e6]
end VF
namespace L2
open PySem.Spec PyProof.Rows
section
variable {X:Cx}{a:Expr}{ta:TE}{pos:Pos}
def QM:V->Hp->VK->Prop:=fun x H Q=>(∃z:Str,x=.str z/\z.length<=sizeLine/\Q (.str z) H)\/∃i:Int,x=.int i/\i.natAbs.log2<1920/\Q (.str (toString i)) H
def Gi(ha:PE X a ta):PE X (.FormattedValue a (-1) none pos) (S3 QM ta):=by
 intro z9 s σ H Q I h;refine C8 (dq (ha z9 s σ H _ I h) fun v s1 zz9=>?_);obtain⟨x,H1,I1,r1,q1⟩:=zz9;rcases q1 with⟨z,rfl,hz,q⟩|⟨i,rfl,hz,q⟩
 ·obtain⟨t,rfl⟩:=r1;exact wpAny_formatField_str ⟨.str z,H1,I1,⟨_,rfl⟩,q⟩ ⟨.str z,H1,I1.tok _,⟨_,rfl⟩,q⟩ hz
 ·obtain⟨t,rfl⟩:=r1;exact wpAny_formatField_int hz ⟨.str _,H1,I1.tok _,⟨_,rfl⟩,q⟩
abbrev TJ:=Str->TE
def PJ(X:Cx)(es:List Expr)(t:TJ):Prop :=
 ∀(acc:Str)(z9:List (Addr×Obj))(s:Shared)(σ:St)(H:Hp)(Q:VK),Inv X z9 σ H s->t acc σ H Q->
  Joins (model X.prog X.w) X.A X.xe (evalEach es X.env) acc (fun out s₁=>out.length<=sizeLine/\EP X z9 σ Q (.str out s₁.toks) { s₁ with toks:=s₁.toks+1 }) s
def TU:TJ:=fun acc _ H Q=>acc.length<=sizeLine/\Q (.str acc) H
def TV(ta:TE)(t:TJ):TJ:=fun acc σ H Q=>ta σ H fun x H1=>∃y:Str,x=.str y/\(acc++y).length<=sizeLine/\t (acc++y) σ H1 Q
def Gj:PJ X [] TU:=fun acc z9 s σ H Q I h=>⟨h.1,.str acc,H,I.tok _,⟨_,rfl⟩,h.2⟩
def ll(ha:PE X a ta)(hr:PJ X es t):PJ X (a::es) (TV ta t):=by
 intro acc z9 s σ H Q I h;rw[BB];refine dq (ha z9 s σ H _ I h) fun v s1 zz9=>?_;obtain⟨x,H1,I1,r1,q1⟩:=zz9;obtain⟨y,rfl,hz,q⟩:=q1;obtain⟨t,rfl⟩:=r1;exact⟨y,t,rfl,hz,hr _ z9 s1 σ H1 Q I1 q⟩
def tJ(t:TJ):TE:=t Str.empty
def yO(h:PJ X (a::b::es) t):PE X (.JoinedStr (a::b::es) pos) (tJ t):=fun z9 s σ H Q I q=>wpAny_JoinedStr (h Str.empty z9 s σ H Q I q)
end
end L2
namespace VF
open L2
section
variable {K:W.Frag}
def D8:D->Option Rz|.str z=>if z.length<=1000000 then some (.str z,false) else none|.int i=>if i.natAbs.log2<1920 then some (.str (toString i),false) else none|_=>none
theorem N0:Nd K QM D8:=by
 intro Y H x d z Q lv c e q;cases d with
 |str y=>
  obtain⟨hz,e⟩:=aH e;cases e;exact .inl ⟨y,c,few hz,q _ H (Same.refl H) (.str _)⟩
 |int i=>
  obtain⟨hz,e⟩:=aH e;cases e;exact .inr ⟨i,c,hz,q _ H (Same.refl H) (.str _)⟩
 |_=>cases e
def SU(K:W.Frag)(t:TJ)(f:Str->FE):Prop:=∀acc,dU K (t acc) (f acc)
def N1:Str->FE:=fun acc st=>if acc.length<=1000000 then some (.d (.str acc),st) else none
def xf(fa:FE)(f:Str->FE):Str->FE:=fun acc st=>(fa st).bind fun x=>match cont x.2 x.1 with|some (.str y)=>if (acc++y).length<=1000000 then f (acc++y) x.2 else none|_=>none
def fJ(f:Str->FE):FE:=f Str.empty
def QN:SU K TU N1:=by
 intro acc st σ H O Z Q E r zW e q;obtain⟨hz,e⟩:=aH e;cases e;exact⟨few hz,q _ H O (Ext.refl O H) (Kp.refl _) E (.str _) (by trivial)⟩
def L3(ha:dU K ta fa)(h:SU K t f):SU K (TV ta t) (xf fa f):=by
 intro acc st σ H O Z Q E r zW e q;refine dD e fun r1 zV e1 e=>?_;refine ha st σ H O Z _ E r1 zV e1 fun v1 H1 O1 x1 k1 E1 rv1 w1=>?_;dsimp only at e;split at e
 ·rename_i y e3
  have b1:v1=.str y:=rv1.ba E1 e3;obtain⟨hz,e⟩:=aH e;exact⟨y,b1,few hz,h (acc++y) zV σ H1 O1 Z Q E1 r zW e fun v H2 O2 x2 k2 E2 rv w2=>q v H2 O2 (x1.trans x2) (k1.trans k2) E2 rv (w2.back x1)⟩
 ·cases e
def QO(h:SU K t f):dU K (tJ t) (fJ f):=h Str.empty
end
end VF
namespace VF
open L2
inductive Pl:Nat->D->Prop where
 | non (n:Nat):Pl (n+1) .non
 | int (n:Nat) (i:Int):Pl (n+1) (.int i)
 | str (n:Nat) (x:Str):Pl (n+1) (.str x)
 | tup {n:Nat} {ds:List D}:(∀d∈ds,Pl n d)->Pl (n+1) (.tup ds)
 | lst {n:Nat} {ds:List D}:(∀d∈ds,Pl n d)->Pl (n+1) (.lst ds)
inductive RH(h:Heap):Value->D->Prop where
 | non:RH h .none .non
 | int (i:Int) (t:Tok):RH h (.int i t) (.int i)
 | str (x:Str) (t:Tok):RH h (.str x t) (.str x)
 | tup {a:Addr} {its:List Value} {ds:List D}:h.IsTuple a its.toArray->its.length=ds.length->(∀(i:Nat) u d,its[i]?=some u->ds[i]?=some d->RH h u d)->RH h (.ref a) (.tup ds)
 | lst {a:Addr} {its:List Value} {ds:List D}:h.IsList a its.toArray->its.length=ds.length->(∀(i:Nat) u d,its[i]?=some u->ds[i]?=some d->RH h u d)->RH h (.ref a) (.lst ds)
section
variable {X:Cx}{K:W.Frag}{Y:AS}{H:Hp}{s:Shared}{z9:List (Addr×Obj)}{σ:St}
theorem dZ:∀{vs:List V}{us:List Value},Vals vs us->∀(i:Nat) u,us[i]?=some u->∃v,vs[i]?=some v/\RelV v u
 |_,_,.nil,i,u,h=>by simp at h
 | v::_,w::_,.cons r rs,0,u,h=>by
  have e:w=u:=by simpa using h
  exact⟨v,rfl,e ▸ r⟩
 | _::_,_::_,.cons r rs,i+1,u,h=>by
  obtain⟨v,h1,h2⟩:=dZ rs i u (by simpa using h)
  exact⟨v,by simpa using h1,h2⟩
theorem DA.rh(h:DA K Y H v d)(p:Pl n d)(I:Inv X z9 σ H s)(hK:X.K=K):∀{u:Value},RelV v u->RH s.heap u d:=by
 induction h generalizing n with
 |non=>intro u r;cases r;exact .non
 |bl b=>cases p
 |int i=>intro u r;obtain⟨t,rfl⟩:=r;exact .int i t
 |str x=>intro u r;obtain⟨t,rfl⟩:=r;exact .str x t
 |ty n=>cases p
 |fl _ _ _ _=>cases p
 |dk _ _ _ _ _=>cases p
 |dt _ _ _ _ _ _=>cases p
 |@tup a vs ds h1 h2 h3 ih=>
  intro u r;cases r;cases p with
  |tup p=>
   obtain⟨its,r,t,_⟩:=I.tuple (hK ▸ h1.sq);refine .tup t (r.length.symm.trans h2) fun i u d e1 e2=>?_;obtain⟨v,e3,rv⟩:=dZ r i u e1;exact ih i v d e3 e2 (p d (Wc e2)) rv
 |@lst a vs ds h0 h1 h2 h3 ih=>
  intro u r;cases r;cases p with
  |lst p=>
   obtain⟨its,r,t,_⟩:=I.list (show ii X.K H a vs from .inl (.inl h1));refine .lst t.isList (r.length.symm.trans h2) fun i u d e1 e2=>?_;obtain⟨v,e3,rv⟩:=dZ r i u e1;exact ih i v d e3 e2 (p d (Wc e2)) rv
theorem BA.rh(h:BA K Y H v d)(p:Pl n d)(I:Inv X z9 σ H s)(hK:X.K=K)(ru:RelV v u):RH s.heap u d:=by
 cases p with
 |non=>cases (show v=.non from h);cases ru;exact .non
 |int _ i=>cases (show v=.int i from h);obtain⟨t,rfl⟩:=ru;exact .int i t
 |str _ x=>cases (show v=.str x from h);obtain⟨t,rfl⟩:=ru;exact .str x t
 |tup p=>
  obtain⟨a,vs,rfl,h1,el⟩:=h;cases ru;obtain⟨its,r,t,_⟩:=I.tuple (hK ▸ h1.sq);refine .tup t (r.length.symm.trans el.1) fun i u d e1 e2=>?_;obtain⟨v,e3,rv⟩:=dZ r i u e1;exact(el.2 i v d e3 e2).rh (p d (Wc e2)) I hK rv
 |lst p=>
  obtain⟨a,vs,rfl,h1,el⟩:=h;cases ru;obtain⟨its,r,t,_⟩:=I.list (show ii X.K H a vs from .inl (.inl h1));refine .lst t.isList (r.length.symm.trans el.1) fun i u d e1 e2=>?_;obtain⟨v,e3,rv⟩:=dZ r i u e1;exact(el.2 i v d e3 e2).rh (p d (Wc e2)) I hK rv
def D9{h:Heap}(h1:h.IsTuple a x)(h2:h.IsTuple a y):x=y:=by
 obtain⟨o,e1,_,n,d1⟩:=h1;obtain⟨o',e2,_,n',d2⟩:=h2;rw[e1]at e2;cases e2;rw[d1]at d2;cases d2;rfl
def xg{h:Heap}(h1:h.IsList a x)(h2:h.IsList a y):x=y:=by
 obtain⟨o,e1,_,n,d1⟩:=h1;obtain⟨o',e2,_,n',d2⟩:=h2;rw[e1]at e2;cases e2;rw[d1]at d2;cases d2;rfl
def vF{h:Heap}(h1:h.IsList a x)(h2:h.IsTuple a y):False:=by
 obtain⟨o,e1,c1,_⟩:=h1;obtain⟨o',e2,c2,_⟩:=h2;rw[e1]at e2;cases e2;rw[c1]at c2;injection c2 with c2;exact absurd c2 (by decide)
theorem RH.inj(r:RH h u d):∀{d':D},RH h u d'->d=d':=by
 induction r with
 |non=>intro d' r';cases r';rfl
 |int i t=>intro d' r';cases r';rfl
 |str x t=>intro d' r';cases r';rfl
 |@tup a its ds t hl _ ih=>
  intro d' r';cases r' with
  |@tup _ its' ds' t' hl' f=>
   have e:its=its':=by simpa using D9 t t'
   subst e;have:ds=ds':=by
    refine Be (hl.symm.trans hl') fun i h1 h2=>?_;exact ih i its[i] ds[i] (Ya (by lia)) (Ya h1) (f i its[i] ds'[i] (Ya (by lia)) (Ya h2))
   rw[this]
  |lst t' _ _=>exact(vF t' t).elim
 |@lst a its ds t hl _ ih=>
  intro d' r';cases r' with
  |@lst _ its' ds' t' hl' f=>
   have e:its=its':=by simpa using xg t t'
   subst e;have:ds=ds':=by
    refine Be (hl.symm.trans hl') fun i h1 h2=>?_;exact ih i its[i] ds[i] (Ya (by lia)) (Ya h1) (f i its[i] ds'[i] (Ya (by lia)) (Ya h2))
   rw[this]
  |tup t' _ _=>exact(vF t t').elim
open Classical in
def Gk{xs ys:List D}(h:xs.length=ys.length):((List.range xs.length).all fun j=>decide (xs[j]?=ys[j]?))=decide (xs=ys):=by
 rw[Zg,Yh,decide_eq_true_eq];constructor
 ·intro e;refine List.ext_getElem? fun j=>?_;by_cases hj:j<xs.length
  ·exact Ai (e j (Vi.mpr hj))
  ·rw[Qk (by lia),Qk (by lia)]
 ·rintro rfl j _;exact Af rfl
open Classical in
def eq3{d1 d2:D}{u1 u2:Value}{A:Around}(h:¬ d1=d2)(a:SeqAt.EqAt A s u1 u2 false)(b:SeqAt.RcAt A s u1 u2 false)(c:SeqAt.RcNeAt A s u1 u2 true) :
  SeqAt.EqAt A s u1 u2 (decide (d1=d2))/\SeqAt.RcAt A s u1 u2 (decide (d1=d2))/\SeqAt.RcNeAt A s u1 u2 (!decide (d1=d2)):=by
 rw[Ad h];exact⟨a,b,c⟩
open Classical in
def TW{s:Shared}{its its':List Value}{ds ds':List D}(hl:its.length=ds.length)(hl':its'.length=ds'.length)(f:∀(j:Nat) u d,its[j]?=some u->ds[j]?=some d->RH s.heap u d)(f':∀(j:Nat) u d,its'[j]?=some u->ds'[j]?=some d->RH s.heap u d)(p1:∀d∈ds,Pl n d)(p2:∀d∈ds',Pl n d)
  (ih:∀{d1 d2:D}{u1 u2:Value},Pl n d1->Pl n d2->RH s.heap u1 d1->RH s.heap u2 d2->SeqAt.EqAt A s u1 u2 (decide (d1=d2)))(j:Nat)(h1:j<its.toArray.size)(h2:j<its'.toArray.size):SeqAt.EqAt A s its.toArray[j] its'.toArray[j] (decide (ds[j]?=ds'[j]?)):=by
 have h1':j<its.length:=by simpa using h1
 have h2':j<its'.length:=by simpa using h2
 have e1:ds[j]?=some ds[j]:=Ya (hl ▸ h1');have e2:ds'[j]?=some ds'[j]:=Ya (hl' ▸ h2');have z:=ih (p1 _ (Wc e1)) (p2 _ (Wc e2)) (f j its[j] _ (Ya h1') e1) (f' j its'[j] _ (Ya h2') e2);have e:decide (ds[j]?=ds'[j]?)=decide (ds[j]=ds'[j]):=by rw[e1,e2,Zg];simp
 rw[e];exact z
open Classical in
def RH.eqAt:∀(n:Nat){s:Shared}{d1 d2:D}{u1 u2:Value}{A:Around},Pl n d1->Pl n d2->RH s.heap u1 d1->RH s.heap u2 d2->A.units+n<cLine->
  SeqAt.EqAt A s u1 u2 (decide (d1=d2))/\SeqAt.RcAt A s u1 u2 (decide (d1=d2))/\SeqAt.RcNeAt A s u1 u2 (!decide (d1=d2)):=by
 intro n;induction n with
 |zero=>intro s d1 d2 u1 u2 A p;cases p
 |succ n ih=>
  intro s d1 d2 u1 u2 A p1 p2 r1 r2 hu;have hu':A.units<cLine:=by lia
  cases r1 with
  |non=>
   cases r2 with|non=>rw[Af rfl];exact⟨SeqAt.EqAt.same _,SeqAt.RcAt.none_none,SeqAt.RcNeAt.none_none⟩|int i t=>exact eq3 (by intro z;cases z) (SeqAt.EqAt.none_int _ _) (SeqAt.RcAt.none_int _ _) (SeqAt.RcNeAt.none_int _ _)|str x t=>exact eq3 (by intro z;cases z) (SeqAt.EqAt.none_str _ _) (SeqAt.RcAt.none_str _ _) (SeqAt.RcNeAt.none_str _ _)|tup t _ _=>exact eq3 (by intro z;cases z) (SeqAt.EqAt.none_tuple t hu') (SeqAt.RcAt.none_tuple t hu') (SeqAt.RcNeAt.none_tuple t hu')|lst t _ _=>exact eq3 (by intro z;cases z) (SeqAt.EqAt.none_list t hu') (SeqAt.RcAt.none_list t hu') (SeqAt.RcNeAt.none_list t hu')
  |int i t=>
   cases r2 with
   |non=>exact eq3 (by intro z;cases z) (SeqAt.EqAt.int_none _ _) (SeqAt.RcAt.int_none _ _) (SeqAt.RcNeAt.int_none _ _)
   |int j t'=>
    have e:decide (D.int i=D.int j)=(i == j):=by rw[Zg];simp
    rw[e];exact⟨SeqAt.EqAt.int_int _ _ _ _,SeqAt.RcAt.int_int _ _ _ _,SeqAt.RcNeAt.int_int _ _ _ _⟩
   |str x t'=>exact eq3 (by intro z;cases z) (Cs _ _ _ _) (SeqAt.RcAt.int_str _ _ _ _) (SeqAt.RcNeAt.int_str _ _ _ _)
   |tup t' _ _=>exact eq3 (by intro z;cases z) (SeqAt.EqAt.int_tuple _ _ t' hu') (SeqAt.RcAt.int_tuple _ _ t' hu') (SeqAt.RcNeAt.int_tuple _ _ t' hu')
   |lst t' _ _=>exact eq3 (by intro z;cases z) (SeqAt.EqAt.int_list _ _ t' hu') (SeqAt.RcAt.int_list _ _ t' hu') (SeqAt.RcNeAt.int_list _ _ t' hu')
  |str x t=>
   cases r2 with
   |non=>exact eq3 (by intro z;cases z) (SeqAt.EqAt.str_none _ _) (SeqAt.RcAt.str_none _ _) (SeqAt.RcNeAt.str_none _ _)
   |int j t'=>exact eq3 (by intro z;cases z) (Cr _ _ _ _) (SeqAt.RcAt.str_int _ _ _ _) (SeqAt.RcNeAt.str_int _ _ _ _)
   |str y t'=>
    have e:decide (D.str x=D.str y)=(x == y):=by rw[Zg];simp
    rw[e];exact⟨Cq _ _ _ _,SeqAt.RcAt.str_str _ _ _ _,SeqAt.RcNeAt.str_str _ _ _ _⟩
   |tup t' _ _=>exact eq3 (by intro z;cases z) (SeqAt.EqAt.str_tuple _ _ t' hu') (SeqAt.RcAt.str_tuple _ _ t' hu') (SeqAt.RcNeAt.str_tuple _ _ t' hu')
   |lst t' _ _=>exact eq3 (by intro z;cases z) (SeqAt.EqAt.str_list _ _ t' hu') (SeqAt.RcAt.str_list _ _ t' hu') (SeqAt.RcNeAt.str_list _ _ t' hu')
  |@tup a its ds t hl f=>
   cases r2 with
   |non=>exact eq3 (by intro z;cases z) (SeqAt.EqAt.tuple_none t hu') (SeqAt.RcAt.tuple_none t hu') (SeqAt.RcNeAt.tuple_none t hu')
   |int j t'=>exact eq3 (by intro z;cases z) (SeqAt.EqAt.tuple_int _ _ t hu') (SeqAt.RcAt.tuple_int _ _ t hu') (SeqAt.RcNeAt.tuple_int _ _ t hu')
   |str y t'=>exact eq3 (by intro z;cases z) (SeqAt.EqAt.tuple_str _ _ t hu') (SeqAt.RcAt.tuple_str _ _ t hu') (SeqAt.RcNeAt.tuple_str _ _ t hu')
   |lst t' _ _=>exact eq3 (by intro z;cases z) (SeqAt.EqAt.tuple_list t t' hu') (SeqAt.RcAt.tuple_list t t' hu') (SeqAt.RcNeAt.tuple_list t t' hu')
   |@tup b its' ds' t' hl' f'=>
    cases p1 with
    |tup p1=>
    cases p2 with
    |tup p2=>
    have it:=TW (A:=A.in1) hl hl' f f' p1 p2 fun q1 q2 q3 q4=>(ih (A:=A.in1) q1 q2 q3 q4 (by show A.units+1+n<cLine;lia)).1
    have e:decide (D.tup ds=D.tup ds')=((List.range (min its.toArray.size its'.toArray.size)).all (fun j=>decide (ds[j]?=ds'[j]?))&&its.toArray.size == its'.toArray.size):=by
     simp only[Vb];by_cases hh:its.length=its'.length
     ·rw[<-hh,Nat.min_self,hl,Gk (by lia),Zg];simp
     ·have:ds≠ds':=fun z=>hh (by rw[hl,hl',z])
      rw[Zg];simp[hh,this]
    have rc:SeqAt.RcAt A s (.ref a) (.ref b) (decide (D.tup ds=D.tup ds')):=by
     rw[e];exact SeqAt.RcAt.tuples (A:=A) (e:=fun j=>decide (ds[j]?=ds'[j]?)) t t' hu' it
    have rn:SeqAt.RcNeAt A s (.ref a) (.ref b) (!decide (D.tup ds=D.tup ds')):=by
     rw[e];exact SeqAt.RcNeAt.tuples (A:=A) (e:=fun j=>decide (ds[j]?=ds'[j]?)) t t' hu' it
    refine⟨?_,rc,rn⟩;by_cases hab:a=b
    ·subst hab;have:=RH.inj (RH.tup t hl f) (RH.tup t' hl' f');rw[this,Af rfl];exact SeqAt.EqAt.same _
    ·exact SeqAt.EqAt.of_refs hab rc
  |@lst a its ds t hl f=>
   cases r2 with
   |non=>exact eq3 (by intro z;cases z) (SeqAt.EqAt.list_none t hu') (SeqAt.RcAt.list_none t hu') (SeqAt.RcNeAt.list_none t hu')
   |int j t'=>exact eq3 (by intro z;cases z) (SeqAt.EqAt.list_int _ _ t hu') (SeqAt.RcAt.list_int _ _ t hu') (SeqAt.RcNeAt.list_int _ _ t hu')
   |str y t'=>exact eq3 (by intro z;cases z) (SeqAt.EqAt.list_str _ _ t hu') (SeqAt.RcAt.list_str _ _ t hu') (SeqAt.RcNeAt.list_str _ _ t hu')
   |tup t' _ _=>exact eq3 (by intro z;cases z) (SeqAt.EqAt.list_tuple t t' hu') (SeqAt.RcAt.list_tuple t t' hu') (SeqAt.RcNeAt.list_tuple t t' hu')
   |@lst b its' ds' t' hl' f'=>
    cases p1 with
    |lst p1=>
    cases p2 with
    |lst p2=>
    have it:=TW (A:=A.in1) hl hl' f f' p1 p2 fun q1 q2 q3 q4=>(ih (A:=A.in1) q1 q2 q3 q4 (by show A.units+1+n<cLine;lia)).1
    have both:SeqAt.RcAt A s (.ref a) (.ref b) (decide (D.lst ds=D.lst ds'))/\SeqAt.RcNeAt A s (.ref a) (.ref b) (!decide (D.lst ds=D.lst ds')):=by
     by_cases hh:its.length=its'.length
     ·have e:decide (D.lst ds=D.lst ds')=(List.range its.toArray.size).all fun j=>decide (ds[j]?=ds'[j]?):=by
       simp only[Vb];rw[hl,Gk (by lia),Zg];simp
      rw[e];exact⟨SeqAt.RcAt.lists (A:=A) (e:=fun j=>decide (ds[j]?=ds'[j]?)) t t' (by simpa using hh) hu' it,SeqAt.RcNeAt.lists (A:=A) (e:=fun j=>decide (ds[j]?=ds'[j]?)) t t' (by simpa using hh) hu' it⟩
     ·have:ds≠ds':=fun z=>hh (by rw[hl,hl',z])
      rw[Ad (by intro z;cases z;exact this rfl)]
      exact⟨SeqAt.RcAt.lists_lengths t t' (by simpa using hh) hu',C9 t t' (by simpa using hh) hu'⟩
    obtain⟨rc,rn⟩:=both;refine⟨?_,rc,rn⟩;by_cases hab:a=b
    ·subst hab;have:=RH.inj (RH.lst t hl f) (RH.lst t' hl' f');rw[this,Af rfl];exact SeqAt.EqAt.same _
    ·exact SeqAt.EqAt.of_refs hab rc
open Classical in
noncomputable def Gm(neg:Bool):D->D->Option Rz:=fun a b=>if Pl 40 a/\Pl 40 b then some (.bl (if neg then !decide (a=b) else decide (a=b)),false) else none
open Classical in
def Gn(K:W.Frag)(neg:Bool):R2:=fun x y H Q=>∃(Y:AS)(a b:D),BA K Y H x a/\BA K Y H y b/\Pl 40 a/\Pl 40 b/\Q (.bl (if neg then !decide (a=b) else decide (a=b))) H
def Gp(neg:Bool):RdOp K (Gn K neg) (Gm neg):=by
 intro Y H x y d1 d2 z Q lv b1 b2 e q;unfold Gm at e;obtain⟨c,e⟩:=aH e;cases e;exact⟨Y,d1,d2,b1,b2,c.1,c.2,q _ H (Same.refl H) (.bl _)⟩
def N2(h:X.K=K)(hu:X.A.units+64<cLine):OpR X (compareOp .Eq) (Gn K false):=by
 intro z9 s σ H x y v u Q I rx ry ⟨Y,a,b,b1,b2,p1,p2,q⟩;exact(RH.eqAt 40 (A:=X.A) p1 p2 (b1.rh p1 I h rx) (b2.rh p2 I h ry) (by lia)).2.1 _ _ _ _ ⟨.bl _,H,I,rfl,q⟩
def N3(h:X.K=K)(hu:X.A.units+64<cLine):OpR X (compareOp .NotEq) (Gn K true):=by
 intro z9 s σ H x y v u Q I rx ry ⟨Y,a,b,b1,b2,p1,p2,q⟩;exact(RH.eqAt 40 (A:=X.A) p1 p2 (b1.rh p1 I h rx) (b2.rh p2 I h ry) (by lia)).2.2 _ _ _ _ ⟨.bl _,H,I,rfl,q⟩
noncomputable def Gq:=n4 j6 (Gm false)
noncomputable def Ea:=n4 vt (Gm true)
def QP(K:W.Frag):R2:=fun x y H Q=>P2 x y H Q\/Gn K false x y H Q
def QQ(K:W.Frag):R2:=fun x y H Q=>NP K x y H Q\/Gn K true x y H Q
def Gr(h:X.K=K)(hu:X.A.units+64<cLine):OpR X (compareOp .Eq) (QP K):=(NN h hu).or (N2 h hu)
def N4:RdOp K (QP K) Gq:=ro_eqA.or (Gp false)
def Gs(h:X.K=K)(hu:X.A.units+64<cLine):OpR X (compareOp .NotEq) (QQ K):=(gK h hu).or (N3 h hu)
def N5:RdOp K (QQ K) Ea:=ro_neA.or (Gp true)
end
end VF
namespace VF
open L2 PySem.Spec
section
variable {X:Cx}{a b e:Expr}{ta te:TE}
def jr(hK:X.K=K)(hc:X.calm=true)(h:PY X es t)
  (hn:(assignEach es X.env).length=n:=by rfl)(hst:(assignEach es X.env).findIdx? (·.1)=none:=by rfl):PG X (.Tuple es k pos) (MF K n t):=hK ▸ MG hc h hn hst
end
section
variable {K:W.Frag}{Y O O' Z:AS}{H H':Hp}{v:V}{d:D}{st zW:En}{σ:St}
def qB:FS:=fun _=>none
def Gu:qt K EL qB:=by
 intro st σ H O Z Dn E o e;cases e
end
end VF
namespace VF
open L2 PySem.Spec
section
variable {X:Cx}{K:W.Frag}
def Gw(K:W.Frag):R2:=fun x y H Q=>∃a b ys,x=.ref a/\y=.ref b/\kl K H a []/\kl K H b ys/\Q (.ref b) H
def JO(h:X.K=K):OpR X (binaryOp .Add) (Gw K):=by
 intro z9 s σ H x y v u Q I rx ry hh;obtain⟨a,b,ys,rfl,rfl,ha,hb,q⟩:=hh;cases rx;cases ry;subst h;obtain⟨its,r1,p1,_⟩:=I.tuple ha;obtain⟨its2,r2,p2,_⟩:=I.tuple hb;cases r1;obtain⟨⟨cls,dd,data,sl⟩,ho,hc,n,hd⟩:=id p1;obtain⟨⟨cls2,dd2,data2,sl2⟩,ho2,hc2,n2,hd2⟩:=id p2;simp only at hc hd hc2 hd2;subst hc hd hc2 hd2;exact concat_meets ⟨_,ho,rfl⟩ ⟨_,ho2,rfl⟩ CS seq_tuple_add PySem.F.slot_tuple_add PySem.F.entry_tuple_add (PySem.F.args_tuple_add_2 _ _)
   (PyProof.Rows.tuple_addW0 a b _ _ n n2 dd dd2 sl sl2 rfl) ⟨ho,ho2,.ref b,H,I,rfl,q⟩
def L4:D->D->Option Rz|.tup [],.tup b=>some (.tup b,false)|_,_=>none
theorem JP:RdOp K (Gw K) L4:=by
 intro Y H x y d1 d2 z Q lv b1 b2 e q;cases d1 with
 |tup a=>
  cases a with
  |cons a0 a=>cases e
  |nil=>
   cases d2 with
   |tup b=>
    cases e;obtain⟨p,xs,rfl,hp,el⟩:=b1;obtain⟨p2,ys,rfl,hp2,el2⟩:=b2;obtain rfl:=el.unnil;exact⟨p,p2,ys,rfl,rfl,hp.sq,hp2.sq,q _ H (Same.refl H) (.tup hp2 el2.1 el2.2)⟩
   |_=>cases e
 |_=>cases e
def sN:=n4 bR L4
def L5(K:W.Frag):R2:=fun x y H Q=>yD K x y H Q\/Gw K x y H Q
def JQ(h:X.K=K):OpR X (binaryOp .Add) (L5 K):=(yE h).or (JO h)
def JR:RdOp K (L5 K) sN:=ro_addA.or JP
def N6(K:W.Frag):V->Option Int->Option Int->Hp->VK->Prop:=fun x lo hi H Q=>∃a xs,x=.ref a/\kl K H a xs/\(HT.sIx xs.length 0 lo=0/\HT.sIx xs.length xs.length hi=xs.length)/\Q (.ref a) H
end
end VF
namespace HT
open PyProof.Rows
section
variable {prog:Program}{w:World}{A:Around}{E:Value->Shared->Prop}{s:Shared}
def getItem_tuple_all{t sl:Addr}{items:Array Value}{vl vu:Value}{lo hi:Option Int}{Q:Value->Shared->Prop}(ht:IsTup s.heap t items)(hs:s.heap.IsSliceOf sl vl vu .none)(pl:IsPart vl lo)(pu:IsPart vu hi)
  (hw:sIx items.size 0 lo=0/\sIx items.size items.size hi=items.size)(h:Q (.ref t) s):wpAny (model prog w) A (getItem (.ref t) (.ref sl)) Q E s:=by
 obtain⟨os,hos,hcs,hds⟩:=id hs;have hTs:s.TypeIs (.ref sl) "slice":=⟨os,hos,hcs⟩;unfold getItem
 try with_reducible refine Az ?_
 first|refine Aa (Ac ?_)|skip
 refine Aa (CB ht.typeIs (by decide) ?_)
 refine Aa (Ao (name:=Str.ofString "__getitem__") ht.typeIs Ap
  (Ar Ap ht.typeIs Cc ?_ (Cn _ _)))
 show wpAny _ _ (Builtin.Tuple.tupleItemsOf (.ref t) >>= _) _ _ s;refine Aa (tupleItemsOf_ ht ?_);refine Aa (AD hTs ?_);rw[if_pos (by decide)]
 refine Aa (i7 hs pl pu ?_);have hyes:(((sIx items.size 0 lo:Nat):Int) == 0&&(1:Int) == 1&&(sIx items.size items.size hi-sIx items.size 0 lo) == items.size)=true:=by
  rw[hw.1,hw.2];simp
 show wpAny _ _ (if (((sIx items.size 0 lo:Nat):Int) == 0&&(1:Int) == 1&&(sIx items.size items.size hi-sIx items.size 0 lo) == items.size)=true then _ else _) _ _ s;rw[if_pos hyes];unfold Builtin.Tuple.tupleIsExact;refine Aa (Aa (AD ht.typeIs (Ac ?_)));rw[if_pos (by decide)]
 exact Aa (AK (Ac ⟨_,rfl,Ac h⟩))
end
end HT
namespace VF
open L2
section
variable {X:Cx}{K:W.Frag}
def Gx(h:X.K=K):SlR X (N6 K):=by
 intro z9 s σ H x v vl vu lo hi sl Q I rx hs pl pu hh;obtain⟨a,xs,rfl,hx,hw,q⟩:=hh;cases rx;subst h;obtain⟨its,r,ht,hz⟩:=I.tuple hx;have hlen:its.toArray.size=xs.length:=by rw[Vb];exact r.length.symm
 refine⟨"tuple",_,Ap.lookup,ht.typeIs,?_⟩;exact HT.getItem_tuple_all ht hs pl pu (by rw[hlen];exact hw) ⟨.ref a,H,I,rfl,q⟩
def JS:D->Option Int->Option Int->Option Rz|.tup ds,lo,hi=>if HT.sIx ds.length 0 lo=0/\HT.sIx ds.length ds.length hi=ds.length then some (.tup ds,false) else none|_,_,_=>none
theorem QR:RdSl K (N6 K) JS:=by
 intro Y H x lo hi d1 z Q lv b1 e q;cases d1 with
 |tup a=>
  obtain⟨c,e⟩:=aH e;cases e;obtain⟨p,xs,rfl,hp,el⟩:=b1;exact⟨p,xs,rfl,hp.sq,by rw[el.1];exact c,q _ H (Same.refl H) (.tup hp el.1 el.2)⟩
 |_=>cases e
def vG:=FL jh JS
def QS(K:W.Frag):V->Option Int->Option Int->Hp->VK->Prop:=fun x lo hi H Q=>NQ K x lo hi H Q\/N6 K x lo hi H Q
def yP(h:X.K=K):SlR X (QS K):=SlR.or (eN h) (Gx h)
def Gy:RdSl K (QS K) vG:=RdSl.or yF QR
def xh(ds:List D)(lo hi:Option Int):vG (.tup ds) lo hi=some (.tup (cutD ds lo hi),false):=by
 have e1:DZ (.tup ds) lo hi=none:=rfl;have e3:FM (.tup ds) lo hi=none:=rfl;by_cases c:HT.sIx ds.length 0 lo=0/\HT.sIx ds.length ds.length hi=ds.length
 ·have e2:ph (.tup ds) lo hi=none:=by simp only[ph,if_pos c]
  have e4:JS (.tup ds) lo hi=some (.tup ds,false):=by simp only[JS,if_pos c]
  have e5:cutD ds lo hi=ds:=by
   unfold cutD;rw[c.1,c.2];simp
  unfold vG jh FL;rw[e1,e2,e3,e4,e5]
 ·have e2:ph (.tup ds) lo hi=some (.tup (cutD ds lo hi),false):=by simp only[ph,Ah c]
  unfold vG jh FL;rw[e1,e2]
theorem JT{a b:List D}(h:a.length+b.length<=100000):sN (.tup a) (.tup b)=some (.tup (a++b),false):=by
 have e1:vg (.tup a) (.tup b)=none:=rfl;have e2:vk (.tup a) (.tup b)=none:=rfl;have e3:FF (.tup a) (.tup b)=none:=rfl;cases a with
 |nil=>
  have e4:sB (.tup []) (.tup b)=none:=rfl;unfold sN bR n4;rw[e1,e2,e3,e4];rfl
 |cons x a=>
  have e4:sB (.tup (x::a)) (.tup b)=some (.tup (x::a++b),false):=by
   simp only[Vc]at h;cases b with
   |nil=>simp only[sB,Ze];rw[if_pos (by lia)]
   |cons y b=>
    simp only[Vc]at h;simp only[sB];rw[if_pos (by lia)]
  unfold sN bR n4;rw[e1,e2,e3,e4]
def Gz{ds:List D}(h:j<=ds.length):cutD ds none (some (j:Int))=ds.take j:=by
 unfold cutD;rw[HT.sIx_none,HT.sIx_nat,Xn h];simp
def m8{ds:List D}(h:i<=ds.length):cutD ds (some (i:Int)) none=ds.drop i:=by
 unfold cutD;rw[HT.sIx_none,HT.sIx_nat,Xn h,BT];rw[Vg];lia
def cut_mid{ds:List D}(h:i<=ds.length)(h':j<=ds.length):cutD ds (some (i:Int)) (some (j:Int))=(ds.drop i).take (j-i):=by
 unfold cutD;rw[HT.sIx_nat,HT.sIx_nat,Xn h,Xn h']
end
end VF
namespace VF
open L2
section
variable {α:Type}{fg:FG}{B:FS}{fc:FT}{fe:FE}{k:Nat}
theorem dA(f:α->D)(all:List α)(I:List α->En->Prop)(step:∀(gone:List α)(x:α)(rest:List α)(st:En),all=gone++x::rest->I gone st->∃s1 s2,fg (f x) st=some s1/\B s1=some (.nx s2)/\I (gone++[x]) s2) :
  ∀(items gone:List α)(st:En),all=gone++items->I gone st->∃sf,cN fg B (items.map f) st=some (.nx sf)/\I all sf
 |[],gone,st,ha,h=>⟨st,rfl,by rw[ha,Ze];exact h⟩
 | x::r,gone,st,ha,h=>by
  obtain⟨s1,s2,e1,e2,e3⟩:=step gone x r st ha h;obtain⟨sf,e4,e5⟩:=dA f all I step r (gone++[x]) s2 (by rw[Zc];exact ha) e3
  refine⟨sf,?_,e5⟩;simp only[Qd,cN,e1,e2,Yb];exact e4
theorem l5(f g:α->D)(p:α->Bool)(sb:En):∀(xs:List α),(∀x∈xs,∃s1 s2,fg (f x) sb=some s1/\fc s1=some (p x,s2)/\(p x=false->rR k s2=sb)/\(p x=true->∃y s3 s4,fe s2=some (y,s3)/\esc y s3=some (g x,s4)/\rR k s4=sb))->
  cF fg fc fe k (xs.map f) sb=some ((xs.filter p).map g,sb)
 |[],_=>rfl
 | x::r,h=>by
  obtain⟨s1,s2,e1,e2,hf,ht⟩:=h x Va;have ih:=l5 f g p sb r fun y hy=>h y (Wa _ hy);cases hp:p x with
  |false=>
   rw[hp]at e2;simp only[Qd,cF,e1,e2,Yb,Xg,if_false,hf hp,ih,CY,hp]
  |true=>
   rw[hp]at e2;obtain⟨y,s3,s4,e3,e4,e5⟩:=ht hp;simp only[Qd,cF,e1,e2,Yb,if_true,e3,e4,e5,ih,CY,hp]
def a9(f g:α->D)(sb:En)(xs:List α)(h:∀x∈xs,∃s1 s2 y s3 s4,fg (f x) sb=some s1/\fc s1=some (true,s2)/\fe s2=some (y,s3)/\esc y s3=some (g x,s4)/\rR k s4=sb) :
  cF fg fc fe k (xs.map f) sb=some (xs.map g,sb):=by
 have:=l5 (fg:=fg) (fc:=fc) (fe:=fe) (k:=k) f g (fun _=>true) sb xs fun x hx=>by
  obtain⟨s1,s2,y,s3,s4,e1,e2,e3,e4,e5⟩:=h x hx;exact⟨s1,s2,e1,e2,fun z=>(Bool.noConfusion z),fun _=>⟨y,s3,s4,e3,e4,e5⟩⟩
 rw[this,List.filter_eq_self.mpr fun _ _=>rfl]
end
section
variable {st s1:En}{rs:List Rs}{fa:FA}
def yQ{xs ys:List D}(h:xs.length+ys.length<=1000000):iB (.lst xs) [.lst ys]=some (.non,.lst (xs++ys)):=by
 show(if xs.length+ys.length<=1000000 then some (D.non,D.lst (xs++ys)) else none)=_;rw[if_pos h]
end
end VF
namespace VF22
open PySem.Spec PyProof.Rows L2 VF
def TX(t:Bool):String:=if t then "tuple_iterator" else "list_iterator"
def T9(t:Bool):String:=if t then "tuple" else "list"
def Io(t:Bool)(h:Heap)(a l:Addr)(i:Nat):Prop:=∃o,h.get? a=some o/\o.cls=.type (TX t)/\o.data=.fields #[.ref l,.int i 0]
def So(t:Bool)(h:Heap)(l:Addr)(xs:Array Value):Prop:=∃o,h.get? l=some o/\o.cls=.type (T9 t)/\∃n,o.data=.seq xs n
variable {t t1 t2:Bool}{h h':Heap}
theorem Io.by(a:Io t h it l i)(k:∀o,h.get? it=some o->h'.get? it=some o):Io t h' it l i:=by
 obtain⟨o,e,r⟩:=a;exact⟨o,k o e,r⟩
theorem So.by(a:So t h l xs)(k:∀o,h.get? l=some o->h'.get? l=some o):So t h' l xs:=by
 obtain⟨o,e,r⟩:=a;exact⟨o,k o e,r⟩
section
variable {P:Program}{w:World}{A:Around}{E:Value->Shared->Prop}{s:Shared}
def GA(a:Io t s.heap it l i)(b:So t s.heap l xs)(hx:xs[i]?=some x)
  (q:∀h1,Io t h1 it l (i+1)->Heap.SameBut it s.heap h1->Q x { s with heap:=h1 }):wpAny (model P w) A (Builtin.SmallTypes.nextOf (.ref it)) Q E s:=by
 cases t with
 |false=>exact wpAny_nextOf_list_item (i:=i) (l:=l) (items:=xs) a b hx q
 |true=>
  obtain⟨u,hu,cu,du⟩:=id a;obtain⟨v,hv,cv,nv,dv⟩:=b;have ty:s.heap.IsTupleIter it l i:=⟨u,hu,cu,du⟩;unfold Builtin.SmallTypes.nextOf;refine Aa (Ao (name:=Str.ofString "__next__") ty.typeIs F.slot_tuple_iterator_next (Ar F.slot_tuple_iterator_next ty.typeIs F.entry_tuple_iterator_next ?_ (F.args_tuple_iterator_next_1 _)));show wpAny _ _ (field (.ref it) 0 >>= _) _ _ _;refine Aa (Al hu du (x:=.ref l) rfl ?_);show wpAny _ _ (if (Value.ref l == Value.none)=true then _ else _) _ _ _;rw[Ah (show ¬ ((Value.ref l == .none)=true) from We)];show wpAny _ _ (field (.ref it) 1 >>= _) _ _ _;refine Aa (Al hu du (x:=.int i 0) rfl ?_);show wpAny _ _ (seqItems? (.ref l) >>= _) _ _ _;refine Aa (AB hv dv ?_);simp only[hx,Wl];refine Aa (Bs hu du (by simp) (Ac ⟨x,rfl,Ac (q _ ?_ (AT ..))⟩))
  refine⟨_,Ba _ hu (B2 (AF du _)),(Obj.cls_mapFields ..).trans cu,?_⟩;rw[AF du];simp[rawInt]
def GB(hh:A.handled=none)(a:Io t s.heap it l i)(b:So t s.heap l xs)(hx:xs[i]?=none)
  (q:∀h1 e,Heap.ExtBut it s.heap h1->(∃o,h1.get? e=some o/\o.cls=.type "StopIteration")->E (.ref e) { s with heap:=h1 }):wpAny (model P w) A (Builtin.SmallTypes.nextOf (.ref it)) Q E s:=by
 cases t with
 |false=>exact wpAny_nextOf_list_end (i:=i) (l:=l) (items:=xs) hh a b hx q
 |true=>
  obtain⟨u,hu,cu,du⟩:=id a;obtain⟨v,hv,cv,nv,dv⟩:=b;have ty:s.heap.IsTupleIter it l i:=⟨u,hu,cu,du⟩;unfold Builtin.SmallTypes.nextOf;refine Aa (Ao (name:=Str.ofString "__next__") ty.typeIs F.slot_tuple_iterator_next (Ar F.slot_tuple_iterator_next ty.typeIs F.entry_tuple_iterator_next ?_ (F.args_tuple_iterator_next_1 _)));show wpAny _ _ (field (.ref it) 0 >>= _) _ _ _;refine Aa (Al hu du (x:=.ref l) rfl ?_);show wpAny _ _ (if (Value.ref l == Value.none)=true then _ else _) _ _ _;rw[Ah (show ¬ ((Value.ref l == .none)=true) from We)];show wpAny _ _ (field (.ref it) 1 >>= _) _ _ _;refine Aa (Al hu du (x:=.int i 0) rfl ?_);show wpAny _ _ (seqItems? (.ref l) >>= _) _ _ _;refine Aa (AB hv dv ?_);simp only[hx,Wl];refine Aa (AK (Aa (Bs hu du (by simp) ?_)))
  show wpAny _ _ (newExc (.type "StopIteration") [] >>= _) _ _ _;refine Aa ?_;simp only[newExc,newTuple];refine Aa (Am ?_ (by size_fits))
  refine Aa (m:=firstArgMember _ _) (A1 (a:=.none) (by first|rfl|(simp only[firstArgMember];rfl)) ?_)
  refine Am ?_ (by size_fits)
  simp only[raiseNew];refine Aa (wpAny_handled ?_)
  first|rw[show A.in1.handled=none from hh]|rw[hh]
  refine Aa (Ac (wpAny_throw ?_));exact q _ _ (((AT ..).extBut.push _).push _) ⟨_,Ae _ rfl,rfl⟩
def QT(W:ZipApart z T1 T2 i1 i2 l1 l2)(hz:IsZip s.heap z T1 T2 .none)(p1:IsPair s.heap T1 (.ref i1) (.ref i2))(p2:IsPair s.heap T2 a b)
  (u1:Io t1 s.heap i1 l1 k)(u2:Io t2 s.heap i2 l2 k)(v1:So t1 s.heap l1 xs)(v2:So t2 s.heap l2 ys)(hx:xs[k]?=some x)(hy:ys[k]?=some y)
  (q:∀g,IsZip g z T1 T2 (rawInt s.heap.objs.size)->IsPair g T2 x y->Io t1 g i1 l1 (k+1)->Io t2 g i2 l2 (k+1)->IsPair g s.heap.objs.size x y->
   (∀c o,c≠z->c≠T2->c≠i1->c≠i2->s.heap.get? c=some o->g.get? c=some o)->Q (some (.ref s.heap.objs.size)) { s with heap:=g }):wpAny (model P w) A (pyNext (.ref z)) Q E s:=by
 have ty:s.TypeIs (.ref z) "zip":=⟨_,hz,rfl⟩;unfold pyNext;refine Aa (AU (Ao (name:=Str.ofString "__next__") ty F.slot_zip_next (Ar F.slot_zip_next ty F.entry_zip_next ?_ (F.args_zip_next_1 _))));show wpAny _ _ (field (.ref z) 2 >>= _) _ _ s;refine Aa (Al hz rfl (x:=.bool false) rfl ?_);show wpAny _ _ (field (.ref z) 3 >>= _) _ _ s;refine Aa (Al hz rfl (x:=.ref T1) rfl ?_);refine Aa (AB p1 rfl ?_);show wpAny _ _ (Builtin.SmallTypes.ownedTupleIsFree (.ref z) >>= _) _ _ s;refine Aa ?_;unfold Builtin.SmallTypes.ownedTupleIsFree;refine Aa (Al hz rfl (x:=Value.none) rfl (Ac ?_));simp only[if_true];refine Aa (AK ?_);refine Aa (Al hz rfl (x:=.ref T2) rfl ?_);refine Aa (AE hz (by simp) fun g1 z1 s1=>?_)
 replace z1:IsZip g1 z T1 T2 .ellipsis:=z1
 refine Aa ?_;simp only[B0,List.forIn_nil,BL,List.zipIdx_nil];refine Aa (Aa (Cf ?_));show wpAny _ _ (Builtin.SmallTypes.nextOf (.ref i1) >>= _) _ _ { s with heap:=g1 };refine Aa (GA (s:={ s with heap:=g1 }) (u1.by fun o e=>s1.extBut _ o W.i1z e) (v1.by fun o e=>s1.extBut _ o W.l1z e) hx fun g2 n1 s2=>Ac ?_)
 have p22:IsPair g2 T2 a b:=s2.extBut _ _ W.TOi1 (s1.extBut _ _ W.TOz p2);refine Aa (AB p22 rfl ?_);refine Aa (B7 p22 fun g3 p23 s3=>?_);replace p23:IsPair g3 T2 x b:=p23;refine Aa (C1 (Ac ?_));refine Aa (Aa (Cf ?_));show wpAny _ _ (Builtin.SmallTypes.nextOf (.ref i2) >>= _) _ _ { s with heap:=g3 };refine Aa (GA (s:={ s with heap:=g3 }) (u2.by fun o e=>s3.extBut _ o W.TOi2.symm (s2.extBut _ o W.i12.symm (s1.extBut _ o W.i2z e))) (v2.by fun o e=>s3.extBut _ o W.l2TO (s2.extBut _ o W.l2i1 (s1.extBut _ o W.l2z e))) hy fun g4 n2 s4=>Ac ?_)
 have p24:IsPair g4 T2 x b:=s4.extBut _ _ W.TOi2 p23;refine Aa (AB p24 rfl ?_);refine Aa (B7 p24 fun g5 p25 s5=>?_);replace p25:IsPair g5 T2 x y:=p25;refine Aa (C1 (Ac (Ac ?_)));refine Aa (AB p25 rfl ?_);refine Aa (C7 ?_);have sz:g5.objs.size=s.heap.objs.size:=by rw[s5.1,s4.1,s3.1,s2.1,s1.1]
 have z5:IsZip g5 z T1 T2 .ellipsis:=s5.extBut _ _ W.TOz.symm (s4.extBut _ _ W.i2z.symm (s3.extBut _ _ W.TOz.symm (s2.extBut _ _ W.i1z.symm z1)));have k5:∀c o,c≠z->c≠T2->c≠i1->c≠i2->s.heap.get? c=some o->g5.get? c=some o:=fun c o c1 c2 c3 c4 e=>s5.extBut _ _ c2 (s4.extBut _ _ c4 (s3.extBut _ _ c2 (s2.extBut _ _ c3 (s1.extBut _ _ c1 e))));have n15:Io t1 g5 i1 l1 (k+1):=n1.by fun o e=>s5.extBut _ o W.TOi1.symm (s4.extBut _ o W.i12 (s3.extBut _ o W.TOi1.symm e))
 have n25:Io t2 g5 i2 l2 (k+1):=n2.by fun o e=>s5.extBut _ o W.TOi2.symm e
 have zl:z<g5.objs.size:=Ag z5;show wpAny _ _ (Builtin.SmallTypes.ownedTupleHandOut (.ref z) (.ref g5.objs.size) >>= _) _ _ _;refine Aa ?_;unfold Builtin.SmallTypes.ownedTupleHandOut;have z6:IsZip (g5.push { cls:=.type "tuple",data:=.seq #[x,y] }) z T1 T2 .ellipsis:=Ab _ z5;refine Aa (AE z6 (by simp) fun g7 z7 s7=>?_)
 replace z7:IsZip g7 z T1 T2 (rawInt g5.objs.size):=z7
 refine AE z7 (by simp) fun g8 z8 s8=>?_
 replace z8:IsZip g8 z T1 T2 (rawInt g5.objs.size):=z8
 have up:∀c o,c≠z->g5.get? c=some o->g8.get? c=some o:=fun c o c1 e=>s8.extBut _ _ c1 (s7.extBut _ _ c1 (Ab _ e));have pT:IsPair g8 g5.objs.size x y:=s8.extBut _ _ (Vm zl) (s7.extBut _ _ (Vm zl) (Ae _ rfl));rw[sz]at z8 pT;refine Ac ⟨_,rfl,Ac ?_⟩;show Q (some (.ref g5.objs.size)) _;rw[sz];exact q g8 z8 (up _ _ W.TOz p25) (n15.by fun o e=>up _ o W.i1z e) (n25.by fun o e=>up _ o W.i2z e) pT fun c o c1 c2 c3 c4 e=>up c o c1 (k5 c o c1 c2 c3 c4 e)
def N7(hh:A.handled=none)(W:ZipApart z T1 T2 i1 i2 l1 l2)(hz:IsZip s.heap z T1 T2 .none)(p1:IsPair s.heap T1 (.ref i1) (.ref i2))(p2:IsPair s.heap T2 a b)
  (u1:Io t1 s.heap i1 l1 k)(u2:Io t2 s.heap i2 l2 k)(v1:So t1 s.heap l1 xs)(v2:So t2 s.heap l2 ys)(hend:xs[k]?=none\/ys[k]?=none)
  (q:∀g,(∀c o,c≠z->c≠T2->c≠i1->c≠i2->s.heap.get? c=some o->g.get? c=some o)->Q none { s with heap:=g }):wpAny (model P w) A (pyNext (.ref z)) Q E s:=by
 have ty:s.TypeIs (.ref z) "zip":=⟨_,hz,rfl⟩;unfold pyNext;have fin:∀g e,(∀c o,c≠z->c≠T2->c≠i1->c≠i2->s.heap.get? c=some o->g.get? c=some o)->(∃o,g.get? e=some o/\o.cls=.type "StopIteration")->wpAny (model P w) A (do if (<-isInstance (.ref e) (.type "StopIteration")) then return none else throw (.ref e)) Q E { s with heap:=g }:=fun g e kp ⟨o,ho,ho2⟩=>
  Aa (CP (T:="StopIteration") (b:=true) ⟨o,ho,ho2⟩ isSubtype_stop (Ac (q g kp)))
 refine Aa (AU (Ao (name:=Str.ofString "__next__") ty F.slot_zip_next (Ar F.slot_zip_next ty F.entry_zip_next ?_ (F.args_zip_next_1 _))));show wpAny _ _ (field (.ref z) 2 >>= _) _ _ s;refine Aa (Al hz rfl (x:=.bool false) rfl ?_);show wpAny _ _ (field (.ref z) 3 >>= _) _ _ s;refine Aa (Al hz rfl (x:=.ref T1) rfl ?_);refine Aa (AB p1 rfl ?_);show wpAny _ _ (Builtin.SmallTypes.ownedTupleIsFree (.ref z) >>= _) _ _ s;refine Aa ?_;unfold Builtin.SmallTypes.ownedTupleIsFree;refine Aa (Al hz rfl (x:=Value.none) rfl (Ac ?_));simp only[if_true];refine Aa (AK ?_);refine Aa (Al hz rfl (x:=.ref T2) rfl ?_);refine Aa (AE hz (by simp) fun g1 z1 s1=>?_)
 replace z1:IsZip g1 z T1 T2 .ellipsis:=z1
 refine Aa ?_;simp only[B0,List.forIn_nil,BL,List.zipIdx_nil];refine Aa (Aa (Cf ?_));show wpAny _ _ (Builtin.SmallTypes.nextOf (.ref i1) >>= _) _ _ { s with heap:=g1 };have w1:Io t1 g1 i1 l1 k:=u1.by fun o e=>s1.extBut _ o W.i1z e
 have w2:So t1 g1 l1 xs:=v1.by fun o e=>s1.extBut _ o W.l1z e
 cases hx:xs[k]? with
 |none=>
  refine Aa (GB (s:={ s with heap:=g1 }) hh w1 w2 hx fun g2 e s2 he=>?_);obtain⟨oe,he1,he2⟩:=he;have z2:IsZip g2 z T1 T2 .ellipsis:=s2 _ _ W.i1z.symm z1;have ne:e≠z:=fun m=>by subst m;rw[z2]at he1;cases he1;simp at he2
  exact AE z2 (by simp) fun g3 _ s3=>fin g3 e (fun c o c1 _ c3 _ m=>s3.extBut _ _ c1 (s2 _ _ c3 (s1.extBut _ _ c1 m))) ⟨oe,s3.extBut _ _ ne he1,he2⟩
 |some x=>
  have hy:ys[k]?=none:=by
   rcases hend with m|m
   ·rw[hx]at m;cases m
   ·exact m
  refine Aa (GA (s:={ s with heap:=g1 }) w1 w2 hx fun g2 n1 s2=>Ac ?_);have p22:IsPair g2 T2 a b:=s2.extBut _ _ W.TOi1 (s1.extBut _ _ W.TOz p2);refine Aa (AB p22 rfl ?_);refine Aa (B7 p22 fun g3 p23 s3=>?_);refine Aa (C1 (Ac ?_));refine Aa (Aa (Cf ?_));show wpAny _ _ (Builtin.SmallTypes.nextOf (.ref i2) >>= _) _ _ { s with heap:=g3 };refine Aa (GB (s:={ s with heap:=g3 }) hh (u2.by fun o e=>s3.extBut _ o W.TOi2.symm (s2.extBut _ o W.i12.symm (s1.extBut _ o W.i2z e))) (v2.by fun o e=>s3.extBut _ o W.l2TO (s2.extBut _ o W.l2i1 (s1.extBut _ o W.l2z e))) hy fun g4 e s4 he=>?_)
  obtain⟨oe,he1,he2⟩:=he;have z4:IsZip g4 z T1 T2 .ellipsis:=s4 _ _ W.i2z.symm (s3.extBut _ _ W.TOz.symm (s2.extBut _ _ W.i1z.symm z1));have ne:e≠z:=fun m=>by subst m;rw[z4]at he1;cases he1;simp at he2
  exact AE z4 (by simp) fun g5 _ s5=>fin g5 e (fun c o c1 c2 c3 c4 m=>s5.extBut _ _ c1 (s4 _ _ c4 (s3.extBut _ _ c2 (s2.extBut _ _ c3 (s1.extBut _ _ c1 m))))) ⟨oe,s5.extBut _ _ ne he1,he2⟩
end
end VF22
namespace VF22
open PySem.Spec PyProof.Rows L2 VF
section
variable {t t1 t2:Bool}{P:Program}{w:World}{A:Around}{E:Value->Shared->Prop}{s:Shared}
def zI(t:Bool)(l:Addr):Obj:={ cls:=.type (TX t),data:=.fields #[.ref l,.int 0 0] }
theorem yR(b:So t s.heap l xs)(q:Q (.ref s.heap.objs.size) { s with heap:=s.heap.push (zI t l) }):wpAny (model P w) A (pyIter (.ref l)) Q E s:=by
 cases t with|false=>exact Bz (items:=xs) b q|true=>exact wpAny_pyIter_tuple (items:=xs) b q
abbrev zA(t1:Bool)(h:Heap)(l1:Addr):Heap:=h.push (zI t1 l1)
abbrev zB(t1 t2:Bool)(h:Heap)(l1 l2:Addr):Heap:=(zA t1 h l1).push (zI t2 l2)
abbrev zC(t1 t2:Bool)(h:Heap)(l1 l2:Addr):Heap:=(zB t1 t2 h l1 l2).push { cls:=.type "tuple",data:=.seq #[.ref h.objs.size,.ref (zA t1 h l1).objs.size] }
abbrev zD(t1 t2:Bool)(h:Heap)(l1 l2:Addr):Heap:=(zC t1 t2 h l1 l2).push { cls:=.type "tuple",data:=.seq #[.none,.none] }
abbrev zE(t1 t2:Bool)(h:Heap)(l1 l2:Addr):Heap:=(zD t1 t2 h l1 l2).push { cls:=.type "zip",data:=.fields #[.none,.bool false,.bool false,.ref (zB t1 t2 h l1 l2).objs.size,.ref (zC t1 t2 h l1 l2).objs.size] }
def GC(t1 t2:Bool)(l1 l2:Addr)(xs ys:Array Value):Meets (Builtin.«zip.__new__» ⟨[.type "zip",.ref l1,.ref l2],[]⟩) (fun _ R s=>So t1 s.heap l1 xs/\So t2 s.heap l2 ys /\
   R (.ok (.ret (.ref (zD t1 t2 s.heap l1 l2).objs.size))) { s with heap:=zE t1 t2 s.heap l1 l2 }) :=
 .of_wp fun prog w A R s h=>by
  obtain⟨hp,g,d,tk,os⟩:=s;obtain⟨v1,v2,h⟩:=h;have hsub:=sub_zip;have L1:So t1 (Shared.heap ⟨hp,g,d,tk,os⟩) l1 xs:=v1;have L2:So t2 (Shared.heap ⟨hp.push (zI t1 l1),g,d,tk,os⟩) l2 ys:=So.by v2 fun o e=>Ab _ e
  wp_walk using yR L1,yR L2
  exact⟨_,rfl,h⟩
def GE(v1:So t1 s.heap l1 xs)(v2:So t2 s.heap l2 ys)
  (q:∀g,IsZip g (s.heap.objs.size+4) (s.heap.objs.size+2) (s.heap.objs.size+3) .none->IsPair g (s.heap.objs.size+2) (.ref s.heap.objs.size) (.ref (s.heap.objs.size+1))->IsPair g (s.heap.objs.size+3) .none .none->
   Io t1 g s.heap.objs.size l1 0->Io t2 g (s.heap.objs.size+1) l2 0->(∀c o,s.heap.get? c=some o->g.get? c=some o)->Q (.ref (s.heap.objs.size+4)) { s with heap:=g }) :
  wpAny (model P w) A (call (.type "zip") [.ref l1,.ref l2]) Q E s:=by
 refine callType_new F.called_zip (by decide) (F.typeCall_zip_2 _ _) (F.newCall_zip_2 _ _) (fun obj=>F.args_object_init_3 obj _ _) F.entry_zip_new (GC t1 t2 l1 l2 xs ys) ⟨v1,v2,?_⟩
 have m1:(zA t1 s.heap l1).objs.size=s.heap.objs.size+1:=AC ..;have m2:(zB t1 t2 s.heap l1 l2).objs.size=s.heap.objs.size+2:=by rw[AC,m1]
 have m3:(zC t1 t2 s.heap l1 l2).objs.size=s.heap.objs.size+3:=by rw[AC,m2]
 have m4:(zD t1 t2 s.heap l1 l2).objs.size=s.heap.objs.size+4:=by rw[AC,m3]
 have g5:(zE t1 t2 s.heap l1 l2).get? (zD t1 t2 s.heap l1 l2).objs.size=some _:=Ae _ rfl;have g4:(zE t1 t2 s.heap l1 l2).get? (zC t1 t2 s.heap l1 l2).objs.size=some _:=Ab _ (Ae _ rfl);have g3:(zE t1 t2 s.heap l1 l2).get? (zB t1 t2 s.heap l1 l2).objs.size=some _:=Ab _ (Ab _ (Ae _ rfl));have g2:(zE t1 t2 s.heap l1 l2).get? (zA t1 s.heap l1).objs.size=some (zI t2 l2):=Ab _ (Ab _ (Ab _ (Ae _ rfl)));have g1:(zE t1 t2 s.heap l1 l2).get? s.heap.objs.size=some (zI t1 l1):=Ab _ (Ab _ (Ab _ (Ab _ (Ae _ rfl))));show _/\_;rw[m2,m3,m4]at g5;rw[m1,m2]at g3;rw[m3]at g4;rw[m1]at g2;rw[m4];exact⟨⟨_,g5,rfl⟩,q _ g5 g3 g4 ⟨_,g1,rfl,rfl⟩ ⟨_,g2,rfl,rfl⟩ fun c o e=>Ab _ (Ab _ (Ab _ (Ab _ (Ab _ e))))⟩
end
section
variable {X:Cx}{K:W.Frag}{t t1 t2:Bool}{z9:List (Addr×Obj)}{σ:L2.St}{H:Hp}{s:Shared}{h':Heap}
def pL{t':Nat}{ch:List Addr}(I:L2.Inv X z9 σ H s)(f:∀b∈ch,kf X z9 H b)(k:∀b o,b∉ch->s.heap.get? b=some o->h'.get? b=some o)(ht:0<t':=by first|assumption|exact Qh _|exact Inv.tk (by assumption)|exact Inv.tkl (by assumption) (by assumption)|lia):L2.Inv X z9 σ H { s with heap:=h',toks:=t' }:=by
 have nit:∀b u,H b=some u->b∉ch:=fun b u e z=>by rw[(f b z).1]at e;cases e
 refine I.step (g':=s.gens) (d':=s.drawn) (ch:=ch) (fun b hb=>?_) (fun b o _ _ hc e _=>k b o hc e) (fun b o _ _ hc e _=>⟨o.slots,k b o hc e⟩) (fun _ _ _ _ n=>n)
  (fun b o hc e=>⟨o,k b o hc e⟩) (fun _ _ e=>e) (fun _ _ _ e=>e) (fun b ps e=>⟨#[],by rw[e];simp⟩) (fun m hm=>?_) (fun b u e=>?_) I.bare
 ·obtain⟨_,f1,_,f3,f4,f5⟩:=f b hb;exact⟨f3,f1,f4,f5⟩
 ·obtain⟨o,es,ep,ho,r⟩:=hm;exact⟨o,es,ep,k _ o (fun z=>(f _ z).2.1 rfl) ho,r⟩
 ·refine(I.hok b u e).stay (fun c v hc q=>k c v ?_ q) (fun _ q=>q) fun _ _ q=>q;rcases hc with z|z
  ·rw[z];exact nit b u e
  ·exact nit c _ z
def Sq(K:W.Frag)(t:Bool)(H:Hp)(a:Addr)(xs:List V):Prop:=if t then kl K H a xs else ii K H a xs
theorem Sq.so(I:L2.Inv X z9 σ H s)(h:Sq X.K t H l xs):∃its:List Value,Vals xs its/\So t s.heap l its.toArray:=by
 cases t with
 |false=>
  obtain⟨its,rv,p,_⟩:=I.list h;exact⟨its,rv,p.isList⟩
 |true=>
  obtain⟨its,rv,p,_⟩:=I.tuple h;exact⟨its,rv,p⟩
theorem Sq.inj(I:L2.Inv X z9 σ H s)(h:Sq X.K t H l xs)(h2:Sq X.K t H l ys):xs=ys:=by
 cases t with|false=>exact I.list_inj h h2|true=>exact I.tuple_inj h h2
def TY(K : W.Frag)(t1 t2 : Bool)(l1 l2 : Addr) : It :=
  ⟨fun i H => ∃ xs ys x y, Sq K t1 H l1 xs ∧ Sq K t2 H l2 ys ∧ xs[i]? = some x ∧ ys[i]? = some y,
   fun i H v H' => ∃ p x y, v = .ref p ∧ H p = none ∧ H' = upd H p (.tup [x, y]) ∧ (∀ xs, Sq K t1 H l1 xs → xs[i]? = some x) ∧ ∀ ys, Sq K t2 H l2 ys → ys[i]? = some y,
   fun i H => ∃ xs ys, Sq K t1 H l1 xs ∧ Sq K t2 H l2 ys ∧ (xs.length ≤ i\/ys.length ≤ i)⟩
def Zs(t1 t2:Bool)(z T1 T2 i1 i2 l1 l2:Addr)(i:Nat)(h:Heap):Prop:=IsZip h z T1 T2 .none/\IsPair h T1 (.ref i1) (.ref i2)/\(∃a b,IsPair h T2 a b)/\Io t1 h i1 l1 i/\Io t2 h i2 l2 i
def QU(h:b∈[z,T1,T2,i1,i2]):b=z\/b=T1\/b=T2\/b=i1\/b=i2:=by simpa using h
theorem Zs.at{h:Heap}(st:Zs t1 t2 z T1 T2 i1 i2 l1 l2 i h)(hb:b∈[z,T1,T2,i1,i2]):∃o,h.get? b=some o/\∀v,o.data≠.cell v:=by
 obtain⟨a1,a2,⟨_,_,a3⟩,⟨o1,a4,_,d4⟩,⟨o2,a5,_,d5⟩⟩:=st;rcases QU hb with rfl|rfl|rfl|rfl|rfl
 ·exact⟨_,a1,fun v m=>by cases m⟩
 ·exact⟨_,a2,fun v m=>by cases m⟩
 ·exact⟨_,a3,fun v m=>by cases m⟩
 ·exact⟨_,a4,fun v m=>by rw[d4]at m;cases m⟩
 ·exact⟨_,a5,fun v m=>by rw[d5]at m;cases m⟩
def GF{es:List Expr}{x1}{z T1 T2 i1 i2 l1 l2:Addr}(W:ZipApart z T1 T2 i1 i2 l1 l2):Turn P w K (.Tuple es x1 ps) (TY K t1 t2 l1 l2) [z,T1,T2,i1,i2] z (Zs t1 t2 z T1 T2 i1 i2 l1 l2) where
 mem:=.head _
 obj:=fun i h st b hb=>st.at hb
 keep:=fun i h h' st k=>by
  obtain⟨a1,a2,⟨a,b,a3⟩,a4,a5⟩:=st;exact⟨k z (.head _) _ a1,k T1 (.tail _ (.head _)) _ a2,⟨a,b,k T2 (.tail _ (.tail _ (.head _))) _ a3⟩,a4.by fun o e=>k i1 (.tail _ (.tail _ (.tail _ (.head _)))) o e,a5.by fun o e=>k i2 (.tail _ (.tail _ (.tail _ (.tail _ (.head _))))) o e⟩
 item:=by
  intro X hP hw hK hc i z9 s σ H E I hf st hg;subst hP hw hK;obtain⟨xs,ys,x,y,q1,q2,e1,e2⟩:=hg;obtain⟨is,r1,v1⟩:=q1.so I;obtain⟨js,r2,v2⟩:=q2.so I;obtain⟨u,hu,ru⟩:=r1.get e1;obtain⟨v,hv,rv⟩:=r2.get e2;have hn:H s.heap.objs.size=none:=I.hok.fresh (Qa _);have lt:∀b∈[z,T1,T2,i1,i2],b≠s.heap.objs.size:=fun b hb=>by
   obtain⟨o,ho,_⟩:=Zs.at st hb;exact Qf (Ag ho)
  obtain⟨a1,a2,⟨a,b,a3⟩,a4,a5⟩:=st;refine QT W a1 a2 a3 a4 a5 v1 v2 (x:=u) (y:=v) (by simpa using hu) (by simpa using hv) fun g z1 p2 n1 n2 pT kp=>?_
  refine⟨_,rfl,wpAny_letOwnedTupleGo_zip (s:={ s with heap:=g }) z1 fun g2 z2 sb=>?_⟩;have kk:∀c o,c≠z->c≠T2->c≠i1->c≠i2->s.heap.get? c=some o->g2.get? c=some o:=fun c o c1 c2 c3 c4 e=>sb.extBut _ _ c1 (kp c o c1 c2 c3 c4 e);have pT2:IsPair g2 s.heap.objs.size u v:=sb.extBut _ _ (Au (lt z (.head _))) pT;have I1:L2.Inv X z9 σ (upd H s.heap.objs.size (.tup [x,y])) { s with heap:=s.heap.push { cls:=.type "tuple",data:=.seq #[u,v] },toks:=s.toks } :=
   I.laid (fun b o e=>Ab _ e) (Qa _) ⟨show 2<=sizeLine by decide,[u,v],.cons ru (.cons rv .nil),⟨_,Ae _ rfl,rfl,_,rfl⟩⟩
  have ff:∀b∈[z,T1,T2,i1,i2],kf X z9 (upd H s.heap.objs.size (.tup [x,y])) b:=fun b hb=>by
   obtain⟨f0,f1,f2,f3,f4,f5⟩:=hf b hb;exact⟨by rw[aC (lt b hb)];exact f0,f1,f2,f3,f4,f5⟩
  have I2:L2.Inv X z9 σ (upd H s.heap.objs.size (.tup [x,y])) { s with heap:=g2 }:=by
   refine pL (s:={ s with heap:=s.heap.push { cls:=.type "tuple",data:=.seq #[u,v] } }) (t':=s.toks) I1 ff fun c o hc e=>?_;rcases Heap.get?_push_cases e with⟨rfl,rfl⟩|e
   ·exact pT2
   ·exact kk c o (fun m=>hc (m ▸ .head _)) (fun m=>hc (m ▸ .tail _ (.tail _ (.head _)))) (fun m=>hc (m ▸ .tail _ (.tail _ (.tail _ (.head _))))) (fun m=>hc (m ▸ .tail _ (.tail _ (.tail _ (.tail _ (.head _)))))) e
  refine⟨.ref s.heap.objs.size,_,I2,rfl,⟨_,x,y,rfl,hn,rfl,fun zs hz=>by rw[hz.inj I q1];exact e1,fun zs hz=>by rw[hz.inj I q2];exact e2⟩,?_,fun b hb=>(ff b hb).1⟩
  exact⟨z2,sb.extBut _ _ W.TIz (kp _ _ W.TIz W.TITO W.TIi1 W.TIi2 a2),⟨_,_,sb.extBut _ _ W.TOz p2⟩,n1.by fun o e=>sb.extBut _ o W.i1z e,n2.by fun o e=>sb.extBut _ o W.i2z e⟩
 done:=by
  intro X hP hw hK hc i z9 s σ H E I hf st hg;subst hP hw hK;obtain⟨xs,ys,q1,q2,hl⟩:=hg;obtain⟨a1,a2,⟨a,b,a3⟩,a4,a5⟩:=st;obtain⟨is,r1,v1⟩:=q1.so I;obtain⟨js,r2,v2⟩:=q2.so I;have l1:=r1.length;have l2:=r2.length;refine N7 (I.ok.hd hc) W a1 a2 a3 a4 a5 v1 v2 (hl.imp (fun m=>by rw[Dv];exact Qk (l1 ▸ m)) fun m=>by rw[Dv];exact Qk (l2 ▸ m)) fun g kp=>⟨rfl,pL (t':=s.toks) I hf fun c o hc e=>?_⟩
  exact kp c o (fun m=>hc (m ▸ .head _)) (fun m=>hc (m ▸ .tail _ (.tail _ (.head _)))) (fun m=>hc (m ▸ .tail _ (.tail _ (.tail _ (.head _))))) (fun m=>hc (m ▸ .tail _ (.tail _ (.tail _ (.tail _ (.head _)))))) e
 self:=fun _ _ _ _ _ st h=>wpAny_pyIter_zip st.1 h
def N8(K:W.Frag)(ta:TA):TI:=fun σ H R=>ta σ H fun vs H1=>∃t1 t2 l1 l2 xs ys,vs=[.ref l1,.ref l2]/\Sq K t1 H1 l1 xs/\Sq K t2 H1 l2 ys/\R (TY K t1 t2 l1 l2) H1
def boot_zip:bootBuiltins "zip"=some (.type "zip"):=by decide +kernel
def JU{x1}(hg:Gl X "zip")(hm:X.mg "zip"=none)(ha:PA X [a,b] ta)(hs:starEach [a,b] X.env=[(false,eval a X.env),(false,eval b X.env)])(hs2:starEach [b] X.env=[(false,eval b X.env)]) :
  PI X (.Tuple es x1 ps) (.Call (.Name "zip" p) [a,b] [] pos) (N8 X.K ta):=by
 intro z9 s σ H R I h;refine Call_ (km I hg hm boot_zip (Ay (dq (ha pos z9 s σ H _ I h) fun us s1 ⟨vs,H1,I1,r1,q1⟩=>?_) (by rw[hs,hs2]) (by rw[hs2];rfl)))
 obtain⟨t1,t2,l1,l2,xs,ys,e,w1,w2,q⟩:=q1;subst e;cases r1 with
 |cons r rr=>
  cases rr with
  |cons r' rr=>
   cases rr;cases r;cases r';obtain⟨is,r1,v1⟩:=w1.so I1;obtain⟨js,r2,v2⟩:=w2.so I1;refine GE v1 v2 fun g z p1 p2 n1 n2 kp=>?_;obtain⟨o1,ho1,_⟩:=id v1;obtain⟨o2,ho2,_⟩:=id v2;refine wpAny_pyIter_zip (s:={ s1 with heap:=g }) z ⟨_,[s1.heap.objs.size+4,s1.heap.objs.size+2,s1.heap.objs.size+3,s1.heap.objs.size,s1.heap.objs.size+1],_,_,H1,rfl,I1.kept (t':=s1.toks) kp,GF (W.ktu_apart _ _ _ (Ag ho1) (Ag ho2)),⟨z,p1,⟨_,_,p2⟩,n1,n2⟩,fun b hb=>?_,q⟩;have hb':=QU hb;have le:s1.heap.objs.size<=b:=by
    rcases hb' with m|m|m|m|m<;>(rw[m];first|exact Xj _ _|exact Qa _)
   exact I1.fpOk le (I1.hok.fresh le)
end
end VF22
namespace VF22
open L2 VF
section
variable {X:Cx}{K:W.Frag}{O O' Z:AS}{H H':Hp}{v:V}{d:D}
def Ta:D->Option (List D)|.lst ds=>some ds|.fl ds=>some ds|.tup ds=>some ds|_=>none
def N9:List D->Option (List D×List D)|[a,b]=>(Ta a).bind fun x=>(Ta b).bind fun y=>some (x,y)|_=>none
def pr(a b:D):D:=.tup [a,b]
def TZ(fa:FA):FI:=fun st=>(fa st).bind fun x=>(d8 x.1 x.2).bind fun y=>(N9 y.1).bind fun w=>some (List.zipWith pr w.1 w.2,y.2)
theorem L6(da:DA K (U O Z) H v d)(e:Ta d=some is):∃t l ws,v=.ref l/\∀H' O',Ext O H O' H'->Sq K t H' l ws/\El K (U O' Z) H' ws is:=by
 cases d with
 |lst ds=>
  cases e;cases da with|@lst a vs _ h0 h1 h2 h3=>exact⟨false,a,vs,rfl,fun H' O' ex=>⟨.inl (.inl (ex.kp a _ h1 fun z=>h0 (.inl z))),El.ext ⟨h2,h3⟩ ex⟩⟩
 |fl ds=>
  cases e;cases da with
  |@fl a vs _ h1 h2 h3=>
   refine⟨false,a,vs,rfl,fun H' O' ex=>⟨?_,El.ext ⟨h2,h3⟩ ex⟩⟩;rcases h1 with⟨h1,hn⟩|h1
   ·exact .inl (Rd.keep h1 fun o e=>ex.kp a o e fun z=>hn (.inl z))
   ·exact h1 H'
 |tup ds=>
  cases e;cases da with
  |@tup a vs _ h1 h2 h3=>
   refine⟨true,a,vs,rfl,fun H' O' ex=>⟨?_,El.ext ⟨h2,h3⟩ ex⟩⟩;rcases h1 with⟨h1,hn⟩|h1
   ·exact .inl (.inl (ex.kp a _ h1 fun z=>hn (.inl z)))
   ·exact h1 H'
 |_=>cases e
def QV{as bs:List D}{i:Nat}{d:D}(h:(List.zipWith pr as bs)[i]?=some d):∃a b,as[i]?=some a/\bs[i]?=some b/\d=.tup [a,b]:=by grind [D,pr]
def GG{ta:TA}{fa:FA}(h:wH K ta fa):RdI K (N8 K ta) (TZ fa):=by
 intro st σ H O Z R E items zW e q;refine dD e fun rs zV e1 e=>?_;refine dD e fun ds st2 e2 e=>?_;refine dD e fun as bs e3 e=>?_;cases e;refine h st σ H O Z _ E rs zV e1 fun vs H1 O1 x1 k1 E1 rvs=>?_;obtain⟨O2,x2,k2,E2,el⟩:=rvs.esc E1 e2;replace e3:N9 ds=some (as,bs):=e3;unfold N9 at e3;split at e3
 ·rename_i a b
  refine bO e3 fun as' e4 e3=>?_;refine bO e3 fun bs' e5 e3=>?_;cases e3;obtain⟨v1,r,rfl,da1,el⟩:=el.uncons;obtain⟨v2,r,rfl,da2,el⟩:=el.uncons;obtain rfl:=el.unnil;obtain⟨t1,l1,xs,rfl,k3⟩:=L6 da1 e4;obtain⟨t2,l2,ys,rfl,k4⟩:=L6 da2 e5;refine⟨t1,t2,l1,l2,xs,ys,rfl,(k3 H1 O2 (Ext.refl _ _)).1,(k4 H1 O2 (Ext.refl _ _)).1,q _ H1 O2 (x1.trans x2) (k1.trans k2) E2 fun H' O' ex liv=>?_⟩;obtain⟨s1,el1⟩:=k3 H' O' ex;obtain⟨s2,el2⟩:=k4 H' O' ex;have n1:=el1.1;have n2:=el2.1;refine⟨fun i hi=>⟨xs,ys,s1,s2,?_⟩,fun i d hd=>?_⟩
  ·replace hi:(List.zipWith pr as bs).length<=i:=hi
   rw[List.length_zipWith]at hi;lia
  ·obtain⟨a,b,ha,hb,rfl⟩:=QV hd;obtain⟨x,hx,dx⟩:=el1.at ha;obtain⟨y,hy,dy⟩:=el2.at hb;refine⟨⟨xs,ys,x,y,s1,s2,hx,hy⟩,?_⟩;rintro v H'' ⟨p,x',y',rfl,hn,rfl,f1,f2⟩;have ex':=f1 xs s1;have ey':=f2 ys s2;rw[hx]at ex';rw[hy]at ey';cases ex';cases ey';have sm:=aY hn (.tup [x,y]);exact⟨sm,.tup (.inl ⟨aQ,fun z=>(liv p z).1 hn⟩) rfl ((El.cons dx (El.one dy)).same sm).2⟩
 ·cases e3
def Oa{x1}(h:X.K=K)(hg:Gl X "zip")(hs:starEach [a,b] X.env=[(false,eval a X.env),(false,eval b X.env)])(hs2:starEach [b] X.env=[(false,eval b X.env)])(hm:X.mg "zip"=none)(ha:PE X a te)(hb:PE X b te2) :
  PI X (.Tuple es x1 ps) (.Call (.Name "zip" p) [a,b] [] pos) (N8 K (gH te (gH te2 rN))):=by
 subst h;exact JU hg hm (mQ ha (mQ hb ac hs2) (by rw[hs,hs2])) hs hs2
end
end VF22
namespace VF22
open PySem.Spec PyProof.Rows L2 VF
section
variable {X:Cx}{K:W.Frag}{O O' Z:AS}{H H':Hp}{tg:Expr}
def Its(lo c:Int)(n:Nat):It:=⟨fun i _=>i<n,fun i H x H'=>H'=H/\x=.int (lo+i*c),fun i _=>n<=i⟩
def Eb(it:Addr)(lo c:Int)(n:Nat):Turn P w K tg (Its lo c n) [it] it (fun i h=>IsRangeIter h it (lo+(i:Nat)*c) ((n:Int)-(i:Nat)) c) where
 mem:=by simp
 obj:=fun i h st b hb=>by
  have e:b=it:=by simpa using hb
  subst e
  exact⟨_,st,fun v z=>by
   have z':Data.fields _=Data.cell v:=z
   cases z'⟩
 keep:=fun i h h' st k=>k it (by simp) _ st
 item:=by
  intro X hP hw hK hc i z9 s σ H E I hf st hg;subst hP hw hK;obtain⟨f0,f1,f2,f3,f4,f5⟩:=hf it (by simp)
  have W:=Walks.range (prog:=X.prog) (w:=X.w) (I.ok.hd hc) it lo c n;refine bz (W.item i s _ _ hg st fun v h' tk hv zW kk hle=>?_);have hle:s.toks<=tk:=hle;obtain⟨t,rfl⟩:=hv;have I1:L2.Inv X z9 σ H { s with heap:=h',toks:=tk }:=I.turned (fun b o hb e=>kk b o (by simpa using hb) e) f0 f1 f3 f4 f5
  exact⟨_,rfl,oI (s:={ s with heap:=h',toks:=tk }) (n:="range_iterator") zW rfl rfl (by decide) ⟨.int (lo+i*c),H,I1,⟨t,rfl⟩,⟨rfl,rfl⟩,zW,fun b hb=>(hf b hb).1⟩⟩
 done:=by
  intro X hP hw hK hc i z9 s σ H E I hf st hg;subst hP hw hK;obtain⟨f0,f1,f2,f3,f4,f5⟩:=hf it (by simp)
  exact wpAny_pyNext_range_end (I.ok.hd hc) st (by have:n<=i:=hg;lia) fun h' eb=>⟨rfl,I.turned (t':=s.toks) (fun b o hb e=>eb b o hb e) f0 f1 f3 f4 f5⟩
 self:=fun _ _ _ _ _ st h=>wpAny_pyIter_rangeiter st h
abbrev JV(a b c:Int):Nat:=(Builtin.Range.rangeSize a b c).toNat
def R3(a b c:Int):Prop:=(1<=c/\c<1000000)/\-(2 ^ 62)<=a/\a<2 ^ 62/\-(2 ^ 62)<=b/\b<2 ^ 62/\Builtin.Range.small a b c=true
instance (a b c:Int):Decidable (R3 a b c):=by unfold R3;infer_instance
def L7(ta:TA):TI:=fun σ H R=>ta σ H fun vs H1=>∃a b c:Int,vs=[.int a,.int b,.int c]/\R3 a b c/\R (Its a c (JV a b c)) H1
def Ec(hg:Gl X "range")(hm:X.mg "range"=none)(ha:PA X [a,b,c] ta)(hs:starEach [a,b,c] X.env=[(false,eval a X.env),(false,eval b X.env),(false,eval c X.env)]:=by rfl)(hs2:starEach [b,c] X.env=[(false,eval b X.env),(false,eval c X.env)]:=by rfl) :
  PI X tg (.Call (.Name "range" p) [a,b,c] [] pos) (L7 ta):=by
 intro z9 s σ H R I h;refine Call_ (km I hg hm boot_range (Ay (dq (ha pos z9 s σ H _ I h) fun us s1 ⟨vs,H1,I1,r1,q1⟩=>?_) (by rw[hs,hs2]) (by rw[hs2];rfl)))
 obtain⟨i,j,k,e,⟨q0,q1,q2,q3,q4,q5⟩,q⟩:=q1;subst e;cases r1 with
 |cons r rr=>
  cases rr with
  |cons r' rr=>
   cases rr with
   |cons r'' rr=>
    cases rr;obtain⟨t,rfl⟩:=r;obtain⟨t',rfl⟩:=r';obtain⟨t'',rfl⟩:=r'';refine call_range_3 (by lia) ?_ (Or.inl (Dm (by lia)))
    refine wpAny_pyIter_range (IsRange.new ..) q5 ?_;have I2:L2.Inv X z9 σ H1 { s1 with heap:=s1.heap.push { cls:=.type "range",data:=.fields #[.int i t,.int j t',.int k t''] },toks:=s1.toks }:=I1.kept fun b o e=>Ab _ e;refine⟨(s1.heap.push { cls:=.type "range",data:=.fields #[.int i t,.int j t',.int k t''] }).objs.size,[(s1.heap.push { cls:=.type "range",data:=.fields #[.int i t,.int j t',.int k t''] }).objs.size],_,_,H1,rfl,I2.kept (t':=s1.toks) fun b o e=>Ab _ e,Eb _ i k (JV i j k),?_,fun b hb=>?_,q⟩
    ·show IsRangeIter _ _ (i+((0:Nat):Int)*k) (((JV i j k:Nat):Int)-((0:Nat):Int)) k;have e1:i+((0:Nat):Int)*k=i:=by simp
     have e2:((JV i j k:Nat):Int)-((0:Nat):Int)=Builtin.Range.rangeSize i j k:=by
      rw[Int.natCast_zero,Int.sub_zero];exact(rangeSize_toNat i j k).symm
     rw[e1,e2];exact Ae _ rfl
    ·have e:b=(s1.heap.push { cls:=.type "range",data:=.fields #[.int i t,.int j t',.int k t''] }).objs.size:=by simpa using hb
     subst e;exact I2.fpOk (Qa _) (I2.hok.fresh (Qa _))
def xi(lo c:Int)(n:Nat):List D:=(List.range n).map fun(i:Nat)=>D.int (lo+(i:Int)*c)
def xj:List D->Option (Int×Int×Int)|[.int i,.int j,.int k]=>some (i,j,k)|_=>none
def JW(fa:FA):FI:=fun st=>(fa st).bind fun x=>(dL x.2 x.1).bind fun ds=>(xj ds).bind fun w=>if R3 w.1 w.2.1 w.2.2 then some (xi w.1 w.2.2 (JV w.1 w.2.1 w.2.2),x.2) else none
def yS(h:wH K ta fa):RdI K (L7 ta) (JW fa):=by
 intro st σ H O Z R E items zW e q;refine dD e fun rs zV e1 e=>?_;refine bO e fun ds e2 e=>?_;obtain⟨⟨i,j,k⟩,e3,e⟩:=Zm.mp e;obtain⟨hc,e⟩:=aH e;cases e;refine h st σ H O Z _ E rs _ e1 fun vs H1 O1 x1 k1 E1 rvs=>?_;have bs:=rvs.bas E1 e2;have ed:ds=[.int i,.int j,.int k]:=by
  unfold xj at e3;split at e3
  ·cases e3;rfl
  ·cases e3
 subst ed;cases bs with
 |cons b1 b2=>
  cases b2 with
  |cons b2 b3=>
   cases b3 with
   |cons b3 b4=>
    cases b4;obtain rfl:=(show _=V.int i from b1);obtain rfl:=(show _=V.int j from b2);obtain rfl:=(show _=V.int k from b3);refine⟨i,j,k,rfl,hc,q _ H1 O1 x1 k1 E1 fun H' O' ex _=>⟨fun m hm=>show JV i j k<=m by rw[xi,Za,Vl]at hm;exact hm,fun m d hd=>?_⟩⟩
    unfold xi at hd;rw[Ve]at hd;by_cases hi:m<JV i j k
    ·rw[Cd hi]at hd;cases hd;refine⟨hi,fun x H'' hx=>?_⟩;obtain⟨rfl,rfl⟩:=hx;exact⟨Same.refl _,.int _⟩
    ·rw[Qk (by simpa using hi)]at hd;cases hd
end
end VF22
namespace TS
open PyProof.Rows
def sO{M:Model}{A:Around}{E:Value->Shared->Prop}{σ γ:Type}{X Y:StateT σ Sem γ}{p:Prop}{d:Decidable p}{Q:γ->σ->Prop}{st:σ}(h:p)(k:wpS M A E s X Q st):wpS M A E s (@ite _ p d X Y) Q st:=by rw[if_pos h];exact k
def qC{M:Model}{A:Around}{E:Value->Shared->Prop}{σ γ:Type}{X Y:StateT σ Sem γ}{p:Prop}{d:Decidable p}{Q:γ->σ->Prop}{st:σ}(h:¬ p)(k:wpS M A E s Y Q st):wpS M A E s (@ite _ p d X Y) Q st:=by rw[Ah h];exact k
def GH{α β:Type}(f:α->β)(x:Array α)(i j:Nat):(x.map f).swapIfInBounds i j=(x.swapIfInBounds i j).map f:=by grind
theorem og{α β γ:Type}(f:α->β)(p q:γ->Nat):∀(l:List γ)(x:Array α),l.foldl (fun a k=>a.swapIfInBounds (p k) (q k)) (x.map f)=(l.foldl (fun a k=>a.swapIfInBounds (p k) (q k)) x).map f
 |[],x=>rfl
 | k::l,x=>by
  rw[List.foldl_cons,List.foldl_cons,GH];exact og f p q l _
def xk(f:α->β)(x:Array α)(i d:Nat):bubble (x.map f) i d=(bubble x i d).map f:=og f _ _ _ x
def jt(f:α->β)(x:Array α)(i j d:Nat):mirror (x.map f) i j d=(mirror x i j d).map f:=og f _ _ _ x
structure Cm(prog:Program)(w:World)(A:Around)(s:Shared)(k:SortKind)(f:Nat->Keyed)(N:Nat)(c:Nat->Nat->Bool):Prop where
 lt:∀(E:Value->Shared->Prop)(Q:Bool->Shared->Prop)(g h:Nat),g<N->h<N->Q (c g h) s->wpAny (model prog w) A (keyLt' k (f g).1 (f h).1) Q E s
 irr:∀g,c g g=false
 tra:∀g h i,c g h=true->c h i=true->c g i=true
 neg:∀g h i,c g i=true->c g h=true\/c h i=true
def Bf(c:Nat->Nat->Bool)(g h:Nat):Prop:=c g h=true\/(c h g=false/\g<h)
structure Rp(k:SortKind)(f:Nat->Keyed)(N:Nat)(st:SortSt)(γ:Array Nat):Prop where
 arr:arrOf st=γ.map f
 kind:kindOf st=k
 fine:failedOf st=none
 perm:γ.Perm (Array.range N)
section
variable {prog:Program}{w:World}{A:Around}{E:Value->Shared->Prop}{s:Shared}{k:SortKind}{f:Nat->Keyed}{N:Nat}{c:Nat->Nat->Bool}{st:SortSt}{γ:Array Nat}
theorem Cm.asy(C:Cm prog w A s k f N c)(e:c g h=true):c h g=false:=by
 cases e':c h g with|false=>rfl|true=>exact absurd (C.tra g h g e e') (by rw[C.irr];exact Bool.noConfusion)
def Cm.le(C:Cm prog w A s k f N c)(e:Bf c g h):c h g=false:=by
 rcases e with e|e
 ·exact C.asy e
 ·exact e.1
theorem Cm.letr(C:Cm prog w A s k f N c)(e:c h g=false)(e':c i h=false):c i g=false:=by
 cases e2:c i g with
 |false=>rfl
 |true=>
  rcases C.neg i h g e2 with q|q
  ·rw[q]at e';exact e'
  ·rw[q]at e;exact e
theorem Cm.trans(C:Cm prog w A s k f N c)(e:Bf c g h)(e':Bf c h i):Bf c g i:=by
 have l:=C.letr (C.le e) (C.le e');cases e2:c g i with
 |true=>exact .inl e2
 |false=>
  refine .inr ⟨l,?_⟩;rcases e with e|e
  ·rcases C.neg g i h e with q|q
   ·rw[q]at e2;cases e2
   ·rw[C.le e']at q;cases q
  ·rcases e' with e'|e'
   ·rcases C.neg h g i e' with q|q
    ·rw[e.1]at q;cases q
    ·rw[q]at e2;cases e2
   ·exact BR e.2 e'.2
theorem Rp.size(R:Rp k f N st γ):γ.size=N:=by rw[R.perm.size_eq,Qj]
def Rp.bnd(R:Rp k f N st γ){i g:Nat}(e:γ[i]?=some g):g<N:=by
 have hm:g∈γ:=Array.mem_of_getElem? e;exact Array.mem_range.mp (R.perm.mem_iff.mp hm)
def Rp.at(R:Rp k f N st γ){i g:Nat}(e:γ[i]?=some g):(arrOf st)[i]?=some (f g):=by rw[R.arr,Cz,e];rfl
def Rp.put(R:Rp k f N st γ){γ':Array Nat}(p:γ'.Perm γ)(e:x=γ'.map f):Rp k f N (setArr st x) γ':=⟨e,R.kind,R.fine,p.trans R.perm⟩
def QW(C:Cm prog w A s k f N c)(hk:kindOf st=k)(bg:g<N)(bh:h<N)(q:Q (some (c g h)) st):wpS (model prog w) A E s (lt' (f g) (f h)) Q st:=by
 rw[lt'_eq];refine An (wpS_get ?_);subst hk;exact An (wpS_lift (AU (C.lt _ _ g h bg bh ⟨rfl,As q⟩)))
def lq(C:Cm prog w A s k f N c)(R:Rp k f N st γ){i j g h:Nat}(ei:γ[i]?=some g)(ej:γ[j]?=some h){Q:Option Bool->SortSt->Prop}(q:Q (some (c g h)) st):wpS (model prog w) A E s (ltAt' i j) Q st:=by
 rw[ltAt'_eq];refine An (wpS_get ?_);dsimp only;rw[elem'_eq,elem'_eq,R.at ei,R.at ej];exact An (As (An (As (QW C R.kind (R.bnd ei) (R.bnd ej) q))))
end
end TS
namespace TS
open PyProof.Rows
def Sg(c:Nat->Nat->Bool)(γ:Array Nat)(lo hi:Nat):Prop:=∀i j g h,lo<=i->i<j->j<hi->γ[i]?=some g->γ[j]?=some h->Bf c g h
def Ow(γ:Array Nat)(lo hi:Nat):Prop:=∀i g,lo<=i->i<hi->γ[i]?=some g->lo<=g/\g<hi
def Raw(γ:Array Nat)(lo hi:Nat):Prop:=∀i,lo<=i->i<hi->γ[i]?=some i
def Out(γ γ':Array Nat)(lo hi:Nat):Prop:=∀i,i<lo\/hi<=i->γ'[i]?=γ[i]?
def Out.refl(γ:Array Nat)(lo hi:Nat):Out γ γ lo hi:=fun _ _=>rfl
section
variable {prog:Program}{w:World}{A:Around}{E:Value->Shared->Prop}{s:Shared}{k:SortKind}{f:Nat->Keyed}{N:Nat}{c:Nat->Nat->Bool}{st:SortSt}{γ:Array Nat}
def GI{γ:Array Nat}(h:i<γ.size):∃g,γ[i]?=some g:=⟨_,Array.getElem?_eq_getElem h⟩
def mid(h:l<u):l<=(l+u) / 2/\(l+u) / 2<u:=by lia
def Tb(h:u-l<=m-y)(h1:t<u)(h2:l<=t):t-l<=m-(y+1):=by lia
def Tc(h:u-l<=m-y)(h1:l<=t)(h2:t<u):u-(t+1)<=m-(y+1):=by lia
inductive Bub(γ:Array Nat)(a b i g:Nat):Prop
 | at_ (h:i=a) (e:γ[b]?=some g)
 | mid (j:Nat) (h:i=j+1) (k:a<=j) (l:j<b) (e:γ[j]?=some g)
 | lo (h:i<a) (e:γ[i]?=some g)
 | hi (h:b<i)
def qD(e:(if i=a then γ[b]? else if a<i/\i<=b then γ[i-1]? else γ[i]?)=some g):Bub γ a b i g:=by
 by_cases h:i=a
 ·rw[if_pos h]at e;exact .at_ h e
 ·rw[Ah h]at e;by_cases h2:a<i/\i<=b
  ·rw[if_pos h2]at e;obtain⟨j,rfl⟩:=Nat.exists_eq_add_one_of_ne_zero (Vm (AY (Xi _) h2.1));exact .mid j rfl (Nat.le_of_lt_succ h2.1) h2.2 e
  ·rw[Ah h2]at e;by_cases h3:i<a
   ·exact .lo h3 e
   ·exact .hi (BJ fun z=>h2 ⟨Nat.lt_of_le_of_ne (BK h3) (Au h),z⟩)
def GJ(hab:a<=b)(h:b<i):(if i=a then γ[b]? else if a<i/\i<=b then γ[i-1]? else γ[i]?)=γ[i]?:=by
 rw[Ah (Vm (AY hab h)),Ah fun z=>CV h z.2]
def Oc(h:i<a):(if i=a then γ[b]? else if a<i/\i<=b then γ[i-1]? else γ[i]?)=γ[i]?:=by
 rw[Ah (Qf h),Ah fun z=>Nat.lt_asymm h z.1]
def JX(C:Cm prog w A s k f N c)(R:Rp k f N st γ){lo n ok:Nat}(hn:lo+n<=N)(h1:1<=ok)(hok:ok<=n)(sg:Sg c γ lo (lo+ok))(ow:Ow γ lo (lo+ok))(raw:Raw γ (lo+ok) N)
  {Q:Bool->SortSt->Prop}(q:∀(x:Array Keyed)(γ':Array Nat),Rp k f N (setArr st x) γ'->Sg c γ' lo (lo+n)->Ow γ' lo (lo+n)->Raw γ' (lo+n) N->Out γ γ' lo (lo+n)->Q true (setArr st x)) :
  wpS (model prog w) A E s (binarySort' lo n ok) Q st:=by
 rw[binarySort'_eq]
 refine An (B6 (A3 (I:=fun m r zW=>r=(none,())/\∃x γ',zW=setArr st x/\Rp k f N zW γ'/\Sg c γ' lo (lo+m)/\Ow γ' lo (lo+m)/\Raw γ' (lo+m) N/\Out γ γ' lo (lo+m))
  (Q:=fun r zW=>r=(none,())/\∃x γ',zW=setArr st x/\Rp k f N zW γ'/\Sg c γ' lo (lo+n)/\Ow γ' lo (lo+n)/\Raw γ' (lo+n) N/\Out γ γ' lo (lo+n)) ?step ?fin ?init) ?post)
 case post=>
  rintro r zW ⟨rfl,x,γ',rfl,R',a1,a2,a3,a4⟩;exact As (q x γ' R' a1 a2 a3 a4)
 case init=>
  rw[show max ok 1=ok by lia]
  exact⟨rfl,arrOf st,γ,rfl,R,sg,ow,raw,Out.refl _ _ _⟩
 case fin=>
  rintro r zW h;rw[show max (max ok 1) n=n by lia]at h
  exact h
 case step=>
  rintro m r zW hm hmn ⟨rfl,x,γ',rfl,R',a1,a2,a3,a4⟩;have em:γ'[lo+m]?=some (lo+m):=a3 (lo+m) (Qa _) (by lia)
  refine An (B6 (A3 (I:=fun y r st''=>st''=setArr st x/\∃l u,r=(none,l,u)/\l<=u/\u<=m/\u-l<=m-y /\
    (∀i g,lo<=i->i<lo+l->γ'[i]?=some g->c (lo+m) g=false)/\(∀i g,lo+u<=i->i<lo+m->γ'[i]?=some g->c (lo+m) g=true))
   (Q:=fun r st''=>st''=setArr st x/\∃l u,r=(none,l,u)/\l<=m /\
    (∀i g,lo<=i->i<lo+l->γ'[i]?=some g->c (lo+m) g=false)/\(∀i g,lo+l<=i->i<lo+m->γ'[i]?=some g->c (lo+m) g=true)) ?istep ?ifin ?iinit) ?ipost)
  case iinit=>exact⟨rfl,0,m,rfl,by lia,by lia,by lia,fun i g p1 p2=>by lia,fun i g p1 p2=>by lia⟩
  case ifin=>
   rintro r st'' ⟨rfl,l,u,rfl,b1,b2,b3,b4,b5⟩;obtain rfl:l=u:=by lia
   exact⟨rfl,l,l,rfl,b2,b4,b5⟩
  case istep=>
   rintro y r st'' _ hy ⟨rfl,l,u,rfl,b1,b2,b3,b4,b5⟩;dsimp only;by_cases hge:l ≥ u
   ·refine sO hge ?_;obtain rfl:l=u:=by lia
    exact As ⟨rfl,l,l,rfl,b2,b4,b5⟩
   ·refine qC hge ?_;have hq:l<=(l+u) / 2/\(l+u) / 2<u:=mid (BJ hge);generalize (l+u) / 2=t at hq;obtain⟨q1,q2⟩:=hq;have q3:t-l<=m-(y+1):=Tb b3 q2 q1;have q4:u-(t+1)<=m-(y+1):=Tc b3 q1 q2;obtain⟨g,eg⟩:=GI (γ:=γ') (i:=lo+t) (by rw[R'.size];lia)
    refine An (lq C R' em eg ?_);cases hc:c (lo+m) g with
    |true=>
     refine As ⟨rfl,l,t,rfl,q1,by lia,q3,b4,fun i g' p1 p2 e=>?_⟩
     by_cases hi:i=lo+t
     ·subst hi;rw[eg]at e;cases e;exact hc
     ·have bf:=a1 _ i g g' (by lia) (by lia) p2 eg e
      rcases C.neg _ g' _ hc with z|z
      ·exact z
      ·rw[C.le bf]at z;cases z
    |false=>
     refine As ⟨rfl,t+1,u,rfl,q2,b2,q4,fun i g' p1 p2 e=>?_,b5⟩;by_cases hi:i=lo+t
     ·subst hi;rw[eg]at e;cases e;exact hc
     ·have bf:=a1 i _ g' g p1 (by lia) (by lia) e eg
      exact C.letr (C.le bf) hc
  case ipost=>
   rintro r st'' ⟨rfl,l,u,rfl,b2,b4,b5⟩;show wpS _ _ _ _ (do moveDown' (lo+m) (lo+l);pure (ForInStep.yield (none,()))) _ _
   rw[moveDown'_eq];have hs:lo+m<γ'.size:=by rw[R'.size];lia
   have gb:=getElem?_bubble hs (lo+m-(lo+l)) (Nat.sub_le _ _);rw[Nat.sub_sub_self (Vk b2 lo)]at gb;refine An (wpS_modify (As ⟨rfl,bubble x (lo+m) (lo+m-(lo+l)),bubble γ' (lo+m) (lo+m-(lo+l)),rfl,R'.put (bubble_perm _ _ _) ?_,?_,?_,?_,?_⟩))
   ·rw[R'.arr,xk]
   ·intro i j g h p1 p2 p3 e1 e2;rw[gb]at e1 e2;cases qD e1 with
    |at_ y e1=>
     rw[em]at e1;cases e1;cases qD e2 with|at_ z e2=>lia|mid j' z z1 z2 e2=>exact .inl (b5 _ h z1 z2 e2)|lo z e2=>lia|hi z=>lia
    |mid i' y y1 y2 e1=>
     cases qD e2 with|at_ z e2=>lia|mid j' z z1 z2 e2=>exact a1 _ _ g h (Xd (Xj _ _) y1) (by lia) z2 e1 e2|lo z e2=>lia|hi z=>lia
    |lo y e1=>
     have ym:i<lo+m:=Xc y (Vk b2 lo);cases qD e2 with
     |at_ z e2=>
      rw[em]at e2;cases e2;exact .inr ⟨b4 i g p1 y e1,(a2 i g p1 ym e1).2⟩
     |mid j' z z1 z2 e2=>exact a1 i _ g h p1 (Xc y z1) z2 e1 e2
     |lo z e2=>exact a1 i j g h p1 p2 (Xc z (Vk b2 lo)) e1 e2
     |hi z=>lia
    |hi y=>lia
   ·intro i g p1 p2 e;rw[gb]at e;cases qD e with
    |at_ z e=>rw[em]at e;cases e;exact⟨Xj _ _,AN _⟩
    |mid j z z1 z2 e=>exact⟨(a2 _ g (Xd (Xj _ _) z1) z2 e).1,BD (a2 _ g (Xd (Xj _ _) z1) z2 e).2⟩
    |lo z e=>
     have ym:i<lo+m:=Xc z (Vk b2 lo);exact⟨(a2 i g p1 ym e).1,BD (a2 i g p1 ym e).2⟩
    |hi z=>lia
   ·intro i p1 p2;rw[gb,GJ (Vk b2 lo) p1];exact a3 i (Bq p1) p2
   ·intro i p;rw[gb];rcases p with p|p
    ·rw[Oc (Xc p (Xj _ _))];exact a4 i (.inl p)
    ·rw[GJ (Vk b2 lo) p];exact a4 i (.inr (Bq p))
end
end TS
namespace TS
open PyProof.Rows
section
variable {prog:Program}{w:World}{A:Around}{E:Value->Shared->Prop}{s:Shared}{k:SortKind}{f:Nat->Keyed}{N:Nat}{c:Nat->Nat->Bool}{st:SortSt}{γ:Array Nat}
def Sg.more(C:Cm prog w A s k f N c){lo n g h:Nat}(sg:Sg c γ lo n)(h1:lo<n)(e:γ[n-1]?=some g)(e':γ[n]?=some h)(b:Bf c g h):Sg c γ lo (n+1):=by
 intro i j g' h' p1 p2 p3 e1 e2;by_cases hj:j<n
 ·exact sg i j g' h' p1 p2 hj e1 e2
 ·obtain rfl:j=n:=by lia
  rw[e']at e2;cases e2;by_cases hi:i=j-1
  ·subst hi;rw[e]at e1;cases e1;exact b
  ·exact C.trans (sg i (j-1) g' g p1 (by lia) (by lia) e1 e) b
def vH(C:Cm prog w A s k f N c){lo x h:Nat}(sg:Sg c γ lo (lo+x))(ow:Ow γ lo (lo+x))(raw:Raw γ (lo+x) N)(h1:1<=x)(hx:lo+x<N)(e:γ[lo+x-1]?=some h)(hc:c (lo+x) h=false) :
  Sg c γ lo (lo+(x+1))/\Ow γ lo (lo+(x+1))/\Raw γ (lo+(x+1)) N:=by
 have en:=raw (lo+x) (Qa _) hx;refine⟨sg.more C (by lia) e en (.inr ⟨hc,(ow _ h (by lia) (by lia) e).2⟩),fun i g p1 p2 e1=>?_,fun i p1 p2=>raw i (by lia) p2⟩
 by_cases hi:i<lo+x
 ·have:=ow i g p1 hi e1;lia
 ·obtain rfl:i=lo+x:=by lia
  rw[en]at e1;cases e1;lia
structure Fl(c:Nat->Nat->Bool)(γ:Array Nat)(lo m n:Nat):Prop where
 le:lo<=m
 lt:m<n
 fall:∀i j g h,lo<=i->i<j->j<m->γ[i]?=some g->γ[j]?=some h->Bf c h g
 cross:∀i j g h,lo<=i->i<m->m<=j->j<n->γ[i]?=some g->γ[j]?=some h->c h g=true
 same:∀i j g h,m<=i->i<n->m<=j->j<n->γ[i]?=some g->γ[j]?=some h->c g h=false
 raw:Raw γ m n
 own:Ow γ lo n
def Fa(c:Nat->Nat->Bool)(γ:Array Nat)(lo n:Nat):Prop:=∀i j g h,lo<=i->i<j->j<n->γ[i]?=some g->γ[j]?=some h->Bf c h g
def l6(hn:n<=γ.size)(h1:a<=i)(h2:i<n):∃i',a<=i'/\i'<n/\i+i'+1=a+n/\(mirror γ a n ((n-a) / 2))[i]?=γ[i']? :=
 ⟨a+n-1-i,by lia,by lia,by lia,by rw[getElem?_mirror_all hn,if_pos ⟨h1,h2⟩]⟩
def ju(hn:n<=γ.size)(h:i<a\/n<=i):(mirror γ a n ((n-a) / 2))[i]?=γ[i]?:=by
 rw[getElem?_mirror_all hn,Ah fun z=>h.elim (fun q=>CV q z.1) fun q=>CV z.2 q]
def Ed{lo n:Nat}(fa:Fa c γ lo n)(hn:n<=γ.size):Sg c (mirror γ lo n ((n-lo) / 2)) lo n:=by
 intro i j g h p1 p2 p3 e1 e2;obtain⟨i',a1,a2,a3,a4⟩:=l6 (γ:=γ) hn p1 (BR p2 p3);obtain⟨j',b1,b2,b3,b4⟩:=l6 (γ:=γ) hn (Xd p1 (Bq p2)) p3;exact fa j' i' h g b1 (by lia) a2 (b4 ▸ e2) (a4 ▸ e1)
def lw{lo a n:Nat}(ow:Ow γ lo n)(ha:lo<=a)(hn:n<=γ.size):Ow (mirror γ a n ((n-a) / 2)) lo n:=by
 intro i g p1 p2 e;by_cases hi:a<=i
 ·obtain⟨i',a1,a2,a3,a4⟩:=l6 (γ:=γ) hn hi p2;exact ow i' g (Xd ha a1) a2 (a4 ▸ e)
 ·rw[ju hn (.inl (BJ hi))]at e;exact ow i g p1 p2 e
def gM(raw:Raw γ n m)(hn:n<=γ.size):Raw (mirror γ a n ((n-a) / 2)) n m:=by
 intro i p1 p2;rw[ju hn (.inr p1)];exact raw i p1 p2
def jv{lo a n:Nat}{γ':Array Nat}(o:Out γ γ' lo n)(ha:lo<=a)(hn:n<=γ'.size):Out γ (mirror γ' a n ((n-a) / 2)) lo n:=by
 intro i p;rw[ju hn (p.imp (fun q=>Xc q ha) id)];exact o i p
def Out.wide{lo n n':Nat}{γ':Array Nat}(o:Out γ γ' lo n)(h:n<=n'):Out γ γ' lo n':=fun i p=>o i (by lia)
def Fl.turn{lo m n:Nat}(F:Fl c γ lo m n)(hn:n<=γ.size):Fa c (mirror γ m n ((n-m) / 2)) lo n:=by
 intro i j g h p1 p2 p3 e1 e2;by_cases hj:j<m
 ·rw[ju hn (.inl (BR p2 hj))]at e1;rw[ju hn (.inl hj)]at e2;exact F.fall i j g h p1 p2 hj e1 e2
 obtain⟨j',b1,b2,b3,b4⟩:=l6 (γ:=γ) hn (BK hj) p3;rw[b4]at e2;by_cases hi:i<m
 ·rw[ju hn (.inl hi)]at e1;exact .inl (F.cross i j' g h p1 hi b1 b2 e1 e2)
 ·obtain⟨i',a1,a2,a3,a4⟩:=l6 (γ:=γ) hn (BK hi) (BR p2 p3);rw[a4]at e1;refine .inr ⟨F.same i' j' g h a1 a2 b1 b2 e1 e2,?_⟩;rw[F.raw i' a1 a2]at e1;rw[F.raw j' b1 b2]at e2;cases e1;cases e2;lia
def Fl.fa1{lo m:Nat}(F:Fl c γ lo m (m+1)):Fa c γ lo (m+1):=by
 intro i j g h p1 p2 p3 e1 e2;by_cases hj:j<m
 ·exact F.fall i j g h p1 p2 hj e1 e2
 ·exact .inl (F.cross i j g h p1 (by lia) (by lia) p3 e1 e2)
def Fa.next(C:Cm prog w A s k f N c){lo n g:Nat}(fa:Fa c γ lo n)(ow:Ow γ lo n)(raw:Raw γ n N)(hl:lo<n)(hn:n<N)(z:∀i g,lo<=i->i<n->γ[i]?=some g->c n g=true):Fl c γ lo n (n+1):=by
 have en:=raw n (Qa _) hn;refine⟨by lia,by lia,fa,fun i j g h p1 p2 p3 p4 e1 e2=>?_,fun i j g h p1 p2 p3 p4 e1 e2=>?_,fun i p1 p2=>raw i p1 (by lia),fun i g p1 p2 e=>?_⟩
 ·obtain rfl:j=n:=by lia
  rw[en]at e2;cases e2;exact z i g p1 p2 e1
 ·obtain rfl:i=n:=by lia
  obtain rfl:j=i:=by lia
  rw[en]at e1 e2;cases e1;cases e2;exact C.irr _
 ·by_cases hi:i<n
  ·have:=ow i g p1 hi e;lia
  ·obtain rfl:i=n:=by lia
   rw[en]at e;cases e;lia
def Fl.more(C:Cm prog w A s k f N c){lo m n:Nat}(F:Fl c γ lo m n)(raw:Raw γ n N)(hn:n<N)(z1:c n (n-1)=false)(z2:c (n-1) n=false):Fl c γ lo m (n+1):=by
 have en:=raw n (Qa _) hn;have ep:=F.raw (n-1) (by have:=F.lt;lia) (by have:=F.lt;lia)
 have hlt:=F.lt;have hle:=F.le;refine⟨hle,by lia,F.fall,fun i j g h p1 p2 p3 p4 e1 e2=>?_,fun i j g h p1 p2 p3 p4 e1 e2=>?_,fun i p1 p2=>?_,fun i g p1 p2 e=>?_⟩
 ·by_cases hj:j<n
  ·exact F.cross i j g h p1 p2 p3 hj e1 e2
  ·obtain rfl:j=n:=by lia
   rw[en]at e2;cases e2;rcases C.neg _ j _ (F.cross i (j-1) g (j-1) p1 p2 (by lia) (by lia) e1 ep) with q|q
   ·rw[z2]at q;cases q
   ·exact q
 ·have key:∀a g,m<=a->a<n+1->γ[a]?=some g->c g (n-1)=false/\c (n-1) g=false:=by
   intro a g q1 q2 e;by_cases ha:a<n
   ·exact⟨F.same a (n-1) g (n-1) q1 ha (by lia) (by lia) e ep,F.same (n-1) a (n-1) g (by lia) (by lia) q1 ha ep e⟩
   ·obtain rfl:a=n:=by lia
    rw[en]at e;cases e;exact⟨z1,z2⟩
  exact C.letr (key j h p3 p4 e2).2 (key i g p1 p2 e1).1
 ·by_cases hi:i<n
  ·exact F.raw i p1 hi
  ·exact raw i (by lia) (by lia)
 ·by_cases hi:i<n
  ·have:=F.own i g p1 hi e;lia
  ·obtain rfl:i=n:=by lia
   rw[en]at e;cases e;lia
def Fl.below(C:Cm prog w A s k f N c){lo m n x:Nat}(F:Fl c γ lo m n)(z:c x (n-1)=true):∀i g,lo<=i->i<n->γ[i]?=some g->c x g=true:=by
 have hlt:=F.lt;have ep:=F.raw (n-1) (by lia) (by lia)
 intro i g p1 p2 e;rcases C.neg x g _ z with q|q
 ·exact q
 ·by_cases hi:i<m
  ·exact absurd (F.cross i (n-1) g (n-1) p1 hi (by lia) (by lia) e ep) (by rw[C.asy q];exact Bool.noConfusion)
  ·rw[F.same i (n - 1) g (n - 1) (by lia) p2 (by lia) (by lia) e ep]at q;cases q
def Rn(k:SortKind)(f:Nat->Keyed)(N:Nat)(c:Nat->Nat->Bool)(lo:Nat)(st:SortSt)(γ:Array Nat)(n:Nat)(zW:SortSt):Prop :=
 ∃x γ',zW=setArr st x/\Rp k f N zW γ'/\Sg c γ' lo (lo+n)/\Ow γ' lo (lo+n)/\Raw γ' (lo+n) N/\Out γ γ' lo (lo+n)
def vI(lo n nrem:Nat):StateT SortSt Sem (Option Nat):=do
 reverseSlice' lo (lo+n)
 let r <-forIn [n:nrem] ((none,n):Option (Option Nat)×Nat) fun _ r=>do
  match <-ltAt' (lo+r.2) (lo+r.2-1) with|some smaller=>if smaller=true then pure (ForInStep.done (none,r.2)) else pure (ForInStep.yield (none,r.2+1))|_=>pure (ForInStep.done (some none,r.2))
 match r.1 with|some z=>pure z|none=>pure (some r.2)
def qE(lo x nrem:Nat):StateT SortSt Sem (Option Nat):=do
 liftM (rule "list.sort.descending-run")
 let r <-forIn [x+1:nrem] ((none,x+1,0):Option (Option Nat)×Nat×Nat) fun _ r=>do
  match <-ltAt' (lo+r.2.1) (lo+r.2.1-1) with
  |some smaller=>
   if smaller=true then
    if r.2.2 > 0 then do
     reverseSlice' (lo+r.2.1-(r.2.2+1)) (lo+r.2.1)
     pure (ForInStep.yield (none,r.2.1+1,0))
    else pure (ForInStep.yield (none,r.2.1+1,0))
   else do
    match <-ltAt' (lo+r.2.1-1) (lo+r.2.1) with|some larger=>if larger=true then pure (ForInStep.done (none,r.2.1,r.2.2)) else pure (ForInStep.yield (none,r.2.1+1,r.2.2+1))|_=>pure (ForInStep.done (some none,r.2.1,r.2.2))
  |_=>pure (ForInStep.done (some none,r.2.1,r.2.2))
 match r.1 with
 |some z=>pure z
 |none=>
  if r.2.2 > 0 then do
   reverseSlice' (lo+r.2.1-(r.2.2+1)) (lo+r.2.1)
   vI lo r.2.1 nrem
  else vI lo r.2.1 nrem
def t6(h:Q () (setArr st (mirror (arrOf st) i j ((j-i) / 2)))):wpS (model prog w) A E s (reverseSlice' i j) Q st:=by
 rw[reverseSlice'_eq];exact wpS_modify h
def yT(C:Cm prog w A s k f N c){st₀:SortSt}{γ₀:Array Nat}{lo n:Nat}{y:Array Keyed}(R:Rp k f N (setArr st₀ y) γ)(h1:1<=n)(hn:lo+n<=N)(fa:Fa c γ lo (lo+n))(ow:Ow γ lo (lo+n))(raw:Raw γ (lo+n) N)(out:Out γ₀ γ lo (lo+n))
  {Q:Option Nat->SortSt->Prop}(q:∀n zW,1<=n->lo+n<=N->Rn k f N c lo st₀ γ₀ n zW->Q (some n) zW):wpS (model prog w) A E s (vI lo n (N-lo)) Q (setArr st₀ y):=by
 have hs:lo+n<=γ.size:=by rw[R.size];exact hn
 refine An (t6 ?_);have R1:Rp k f N (setArr st₀ (mirror y lo (lo+n) ((lo+n-lo) / 2))) (mirror γ lo (lo+n) ((lo+n-lo) / 2)):=R.put (mirror_perm _ _ _ _) (by rw[show y=γ.map f from R.arr,jt])
 have sg:=Ed fa hs;have ow':=lw ow (Qa lo) hs;have raw':=gM (a:=lo) raw hs;have out':=jv out (Qa lo) hs;generalize mirror γ lo (lo+n) ((lo+n-lo) / 2)=δ at R1 sg ow' raw' out';generalize mirror y lo (lo+n) ((lo+n-lo) / 2)=y' at R1
 refine An (B6 (A3 (I:=fun x r zW=>zW=setArr st₀ y'/\r=(none,x)/\n<=x/\lo+x<=N/\Sg c δ lo (lo+x)/\Ow δ lo (lo+x)/\Raw δ (lo+x) N)
  (Q:=fun r zW=>zW=setArr st₀ y'/\∃x,r=(none,x)/\n<=x/\lo+x<=N/\Sg c δ lo (lo+x)/\Ow δ lo (lo+x)/\Raw δ (lo+x) N) ?step ?fin ?init) ?post)
 case init=>exact⟨rfl,rfl,Qa _,hn,sg,ow',raw'⟩
 case fin=>
  rintro r zW ⟨rfl,rfl,b1,b2,b3,b4,b5⟩;exact⟨rfl,_,rfl,b1,b2,b3,b4,b5⟩
 case step=>
  rintro x r zW p1 p2 ⟨rfl,rfl,b1,b2,b3,b4,b5⟩;dsimp only;have en:=b5 (lo+x) (by lia) (by lia)
  obtain⟨g,ep⟩:=GI (γ:=δ) (i:=lo+x-1) (by rw[R1.size];lia)
  refine An (lq C R1 en ep ?_);cases hc:c (lo+x) g with
  |true=>exact As ⟨rfl,x,rfl,b1,b2,b3,b4,b5⟩
  |false=>
   obtain⟨a1,a2,a3⟩:=vH C b3 b4 b5 (by lia) (by lia) ep hc
   exact As ⟨rfl,rfl,by lia,by lia,a1,a2,a3⟩
 case post=>
  rintro r zW ⟨rfl,x,rfl,b1,b2,b3,b4,b5⟩;exact As (q x _ (by lia) b2 ⟨y',δ,rfl,R1,b3,b4,b5,out'.wide (by lia)⟩)
def yU(C:Cm prog w A s k f N c){st₀:SortSt}{γ₀:Array Nat}{lo x:Nat}{y:Array Keyed}(R:Rp k f N (setArr st₀ y) γ)(hx:lo+x<N)(F:Fl c γ lo (lo+x) (lo+x+1))(raw:Raw γ (lo+x+1) N)(out:Out γ₀ γ lo (lo+x+1))
  {Q:Option Nat->SortSt->Prop}(q:∀n zW,1<=n->lo+n<=N->Rn k f N c lo st₀ γ₀ n zW->Q (some n) zW):wpS (model prog w) A E s (qE lo x (N-lo)) Q (setArr st₀ y):=by
 refine An (wpS_lift (AK ⟨rfl,?_⟩))
 refine An (B6 (A3 (I:=fun n r zW=>∃e y' δ,r=(none,n,e)/\zW=setArr st₀ y'/\Rp k f N (setArr st₀ y') δ/\e+1<=n/\lo+n<=N/\Fl c δ lo (lo+n-(e+1)) (lo+n)/\Raw δ (lo+n) N/\Out γ₀ δ lo (lo+n))
  (Q:=fun r zW=>∃n e y' δ,r=(none,n,e)/\zW=setArr st₀ y'/\Rp k f N (setArr st₀ y') δ/\e+1<=n/\lo+n<=N/\Fl c δ lo (lo+n-(e+1)) (lo+n)/\Raw δ (lo+n) N/\Out γ₀ δ lo (lo+n)) ?step ?fin ?init) ?post)
 case init=>exact⟨0,y,γ,rfl,rfl,R,by lia,by lia,F,raw,out⟩
 case fin=>
  rintro r zW ⟨e,y',δ,h⟩;exact⟨_,e,y',δ,h⟩
 case step=>
  rintro n r zW p1 p2 ⟨e,y',δ,rfl,rfl,R1,b1,b2,F1,raw1,out1⟩;dsimp only;have en:=raw1 (lo+n) (Qa _) (by lia)
  have s1:1<=lo+n:=by lia
  have ep:=F1.raw (lo+n-1) (Nat.sub_le_sub_left (CU (Xi e)) _) (Nat.sub_lt s1 Nat.one_pos);have hs:lo+n<=δ.size:=by rw[R1.size];exact b2
  refine An (lq C R1 en ep ?_);cases hc:c (lo+n) (lo+n-1) with
  |true=>
   dsimp only;refine sO rfl ?_;have bl:=F1.below C hc;by_cases he:e > 0
   ·refine sO he ?_;refine An (t6 (As ?_));have fa:=F1.turn hs;have ow':=lw F1.own F1.le hs;have raw':=gM (a:=lo+n-(e+1)) raw1 hs;have out':=jv out1 F1.le hs;refine⟨0,_,mirror δ (lo+n-(e+1)) (lo+n) ((lo+n-(lo+n-(e+1))) / 2),rfl,rfl,R1.put (mirror_perm _ _ _ _) (by rw[show arrOf (setArr st₀ y')=δ.map f from R1.arr,jt]),by lia,by lia,?_,fun i q1 q2=>raw' i (by lia) q2,out'.wide (by lia)⟩
    refine fa.next C (g:=0) ow' raw' (by lia) (by lia) fun i g q1 q2 e1=>?_
    by_cases hi:lo+n-(e+1)<=i
    ·obtain⟨i',a1,a2,_,a4⟩:=l6 (γ:=δ) hs hi q2;exact bl i' g (Xd F1.le a1) a2 (a4 ▸ e1)
    ·rw[ju hs (.inl (BJ hi))]at e1;exact bl i g q1 q2 e1
   ·obtain rfl:e=0:=by lia
    refine qC he ?_;have F2:Fl c δ lo (lo+n-1) (lo+n-1+1):=by rw[Bu s1];exact F1
    have fa:=F2.fa1;rw[Bu s1]at fa;exact As ⟨0,y',δ,rfl,rfl,R1,by lia,by lia,fa.next C (g:=0) F1.own raw1 (by lia) (by lia) bl,fun i q1 q2=>raw1 i (by lia) q2,out1.wide (by lia)⟩
  |false=>
   dsimp only;refine qC Bool.noConfusion ?_;refine An (lq C R1 ep en ?_);cases hc2:c (lo+n-1) (lo+n) with
   |true=>exact As ⟨n,e,y',δ,rfl,rfl,R1,b1,b2,F1,raw1,out1⟩
   |false=>
    refine As ⟨e+1,y',δ,rfl,rfl,R1,by lia,by lia,?_,fun i q1 q2=>raw1 i (by lia) q2,out1.wide (by lia)⟩
    rw[show lo+(n+1) - (e+1+1)=lo+n - (e+1) from Nat.succ_sub_succ _ _];exact F1.more C raw1 (by lia) hc hc2
 case post=>
  rintro r zW ⟨n,e,y',δ,rfl,rfl,R1,b1,b2,F1,raw1,out1⟩;have hs:lo+n<=δ.size:=by rw[R1.size];exact b2
  have s1:1<=lo+n:=by lia
  dsimp only;by_cases he:e > 0
  ·refine sO he ?_;refine An (t6 ?_);exact yT C (γ:=mirror δ (lo+n-(e+1)) (lo+n) ((lo+n-(lo+n-(e+1))) / 2)) (R1.put (mirror_perm _ _ _ _) (by rw[show arrOf (setArr st₀ y')=δ.map f from R1.arr,jt])) (by lia) b2 (F1.turn hs) (lw F1.own F1.le hs) (gM (a:=lo+n-(e+1)) raw1 hs) (jv out1 F1.le hs) q
  ·obtain rfl:e=0:=by lia
   refine qC he ?_;have F2:Fl c δ lo (lo+n-1) (lo+n-1+1):=by rw[Bu s1];exact F1
   have fa:=F2.fa1;rw[Bu s1]at fa;exact yT C R1 (by lia) b2 fa F1.own raw1 out1 q
def Od(C:Cm prog w A s k f N c)(R:Rp k f N st γ){lo:Nat}(hl:lo<N)(raw:Raw γ lo N)
  {Q:Option Nat->SortSt->Prop}(q:∀n zW,1<=n->lo+n<=N->Rn k f N c lo st γ n zW->Q (some n) zW):wpS (model prog w) A E s (countRun' lo (N-lo)) Q st:=by
 rw[countRun'_eq];have sg1:Sg c γ lo (lo+1):=fun i j g h p1 p2 p3=>by lia
 have ow1:Ow γ lo (lo+1):=fun i g p1 p2 e=>by
  obtain rfl:i=lo:=by lia
  rw[raw i (Qa _) hl]at e;cases e;lia
 refine An (B6 (A3 (I:=fun x r zW=>zW=st/\r=(none,x)/\1<=x/\lo+x<=N/\Sg c γ lo (lo+x)/\Ow γ lo (lo+x)/\∀i g h,lo<=i->i+1<lo+x->γ[i]?=some g->γ[i+1]?=some h->c h g=false)
  (Q:=fun r zW=>zW=st/\∃x,r=(none,x)/\1<=x/\lo+x<=N/\Sg c γ lo (lo+x)/\Ow γ lo (lo+x)/\(lo+x=N\/c (lo+x) (lo+x-1)=true)) ?step ?fin ?init) ?post)
 case init=>exact⟨rfl,rfl,by lia,by lia,sg1,ow1,fun i g h p1 p2=>by lia⟩
 case fin=>
  rintro r zW ⟨rfl,rfl,b1,b2,b3,b4,b5⟩;exact⟨rfl,_,rfl,b1,b2,b3,b4,.inl (by lia)⟩
 case step=>
  rintro x r zW p1 p2 ⟨rfl,rfl,b1,b2,b3,b4,b5⟩;dsimp only;have en:=raw (lo+x) (by lia) (by lia)
  have ep:=raw (lo+x-1) (by lia) (by lia)
  refine An (lq C R en ep ?_);cases hc:c (lo+x) (lo+x-1) with
  |true=>exact As ⟨rfl,x,rfl,b1,b2,b3,b4,.inr hc⟩
  |false=>
   obtain⟨a1,a2,_⟩:=vH C b3 b4 (fun i q1 q2=>raw i (by lia) q2) b1 (by lia) ep hc
   refine As ⟨rfl,rfl,by lia,by lia,a1,a2,fun i g h q1 q2 e1 e2=>?_⟩
   rw[raw i q1 (by lia)]at e1
   rw[raw (i+1) (by lia) (by lia)]at e2
   cases e1;cases e2;by_cases hi:i+1<lo+x
   ·exact b5 i i (i+1) q1 hi (raw _ q1 (by lia)) (raw _ (by lia) (by lia))
   ·obtain rfl:i=lo+x-1:=by lia
    rw[show lo+x - 1+1=lo+x by lia];exact hc
 case post=>
  rintro r zW ⟨rfl,x,rfl,b1,b2,b3,b4,b6⟩;dsimp only;by_cases hx:lo+x=N
  ·refine sO (by simp;lia) ?_
   exact As (q x _ b1 b2 ⟨_,γ,rfl,R,b3,b4,fun i q1 q2=>raw i (by lia) q2,Out.refl _ _ _⟩)
  ·refine qC (by simp;lia) ?_
   have hc:c (lo+x) (lo+x-1)=true:=b6.resolve_left hx;have hs:lo+x<=γ.size:=by rw[R.size];exact b2
   have raw':Raw γ (lo+x) N:=fun i q1 q2=>raw i (by lia) q2
   by_cases h1:x > 1
   ·refine sO h1 ?_;refine An (lq C R (raw lo (Qa _) hl) (raw (lo+x-1) (by lia) (by lia)) ?_)
    cases hr:c lo (lo+x-1) with
    |true=>exact As (q x _ b1 b2 ⟨_,γ,rfl,R,b3,b4,raw',Out.refl _ _ _⟩)
    |false=>
     dsimp only;refine qC Bool.noConfusion ?_;have le:∀a b,lo<=a->a<lo+x->lo<=b->b<lo+x->a<=b->c b a=false:=fun a b p1 p2 p3 p4 p5=>by
      by_cases ab:a=b
      ·subst ab;exact C.irr _
      ·exact C.le (b3 a b a b p1 (by lia) p4 (raw a p1 (by lia)) (raw b p3 (by lia)))
     have al:∀a b,lo<=a->a<lo+x->lo<=b->b<lo+x->c a b=false:=fun a b p1 p2 p3 p4=>by
      by_cases ab:b<=a
      ·exact le b a p3 p4 p1 p2 ab
      ·cases hab:c a b with
       |false=>rfl
       |true=>
        rcases C.neg a lo b hab with z|z
        ·rw[le lo a (Qa _) (by lia) p1 p2 p1]at z;exact z.symm
        ·rcases C.neg lo (lo+x-1) b z with z|z
         ·rw[hr]at z;exact z.symm
         ·rw[le b (lo+x - 1) p3 p4 (by lia) (by lia) (by lia)]at z;exact z.symm
     have F0:Fl c γ lo lo (lo+x):=⟨Qa _,by lia,fun i j g h p1 p2 p3=>by lia,fun i j g h p1 p2=>by lia,fun i j g h p1 p2 p3 p4 e1 e2=>by
      rw[raw i p1 (by lia)]at e1
      rw[raw j p3 (by lia)]at e2
      cases e1;cases e2
      exact al i j p1 p2 p3 p4,fun i p1 p2=>raw i p1 (by lia),b4⟩
     refine An (t6 ?_);refine(show ∀{m:StateT SortSt Sem (Option Nat)}{t:SortSt},m=qE lo x (N-lo)->wpS (model prog w) A E s (qE lo x (N-lo)) Q t->wpS (model prog w) A E s m Q t from fun e h=>e ▸ h) ?_
      (yU C (st₀:=zW) (γ₀:=γ) (γ:=mirror γ lo (lo+x) ((lo+x-lo) / 2)) (R.put (mirror_perm _ _ _ _) (by rw[R.arr,jt])) (by lia)
       ((F0.turn hs).next C (g:=0) (lw b4 (Qa _) hs) (gM (a:=lo) raw' hs) (by lia) (by lia) fun i g p1 p2 e=>?_) (fun i q1 q2=>gM (a:=lo) raw' hs i (by lia) q2) ((jv (Out.refl γ lo (lo+x)) (Qa _) hs).wide (by lia)) q)
     ·unfold qE vI;congr 1;funext _v;congr 1;funext z;obtain⟨z1,z2,z3⟩:=z;cases z1 with
      |some z1=>rfl
      |none=>
       dsimp only;split
       ·congr 1;funext _y;congr 1;funext _u;congr 1;funext z;obtain⟨z1,z2⟩:=z;cases z1<;>rfl
       ·congr 1;funext _u;congr 1;funext z;obtain⟨z1,z2⟩:=z;cases z1<;>rfl
     ·obtain⟨i',a1,a2,_,a4⟩:=l6 (γ:=γ) hs p1 p2;exact F0.below C hc i' g a1 a2 (a4 ▸ e)
   ·obtain rfl:x=1:=by lia
    refine qC h1 ?_;have fa:Fa c γ lo (lo+1):=fun i j g h p1 p2 p3=>by lia
    refine(show ∀{m:StateT SortSt Sem (Option Nat)},m=qE lo 1 (N-lo)->wpS (model prog w) A E s (qE lo 1 (N-lo)) Q zW->wpS (model prog w) A E s m Q zW from fun e h=>e ▸ h) ?_ (yU C (st₀:=zW) (y:=arrOf zW) (γ₀:=γ) (γ:=γ) R (by lia) (fa.next C (g:=0) b4 raw' (by lia) (by lia) fun i g p1 p2 e=>?_) (fun i q1 q2=>raw i (by lia) q2) (Out.refl _ _ _) q)
    ·unfold qE vI;congr 1;funext _v;congr 1;funext z;obtain⟨z1,z2,z3⟩:=z;cases z1 with
     |some z1=>rfl
     |none=>
      dsimp only;split
      ·congr 1;funext _y;congr 1;funext _u;congr 1;funext z;obtain⟨z1,z2⟩:=z;cases z1<;>rfl
      ·congr 1;funext _u;congr 1;funext z;obtain⟨z1,z2⟩:=z;cases z1<;>rfl
    obtain rfl:i=lo:=by lia
    rw[raw i (Qa _) hl]at e;cases e;exact hc
end
end TS
namespace TS
open PyProof.Rows
def Td:StateT SortSt Sem Unit:=sortPriv% PySem.Builtin.sortRuns
section
variable {prog:Program}{w:World}{A:Around}{E:Value->Shared->Prop}{s:Shared}{k:SortKind}{f:Nat->Keyed}{N:Nat}{c:Nat->Nat->Bool}{st:SortSt}{γ:Array Nat}
def Oe(C:Cm prog w A s k f N c)(R:Rp k f N st γ){lo n ok:Nat}(hn:lo+n<=N)(h1:1<=ok)(hok:ok<=n)(sg:Sg c γ lo (lo+ok))(ow:Ow γ lo (lo+ok))(raw:Raw γ (lo+ok) N)
  {Q:Bool->SortSt->Prop}(q:∀(x:Array Keyed)(γ':Array Nat),Rp k f N (setArr st x) γ'->Sg c γ' lo (lo+n)->Ow γ' lo (lo+n)->Raw γ' (lo+n) N->Out γ γ' lo (lo+n)->Q true (setArr st x)) :
  wpS (model prog w) A E s ((sortPriv% PySem.Builtin.binarySort) lo n ok) Q st:=JX C R hn h1 hok sg ow raw q
def Of(C:Cm prog w A s k f N c)(R:Rp k f N st γ){lo:Nat}(hl:lo<N)(raw:Raw γ lo N)
  {Q:Option Nat->SortSt->Prop}(q:∀n zW,1<=n->lo+n<=N->Rn k f N c lo st γ n zW->Q (some n) zW):wpS (model prog w) A E s ((sortPriv% PySem.Builtin.countRun) lo (N-lo)) Q st:=Od C R hl raw q
def yV(h64:N<64)(C:Cm prog w A s k f N c)(R:Rp k f N st γ)(hp:pendingOf st=#[])(raw:Raw γ 0 N){Q:Unit->SortSt->Prop}(q:∀zW γ',Rp k f N zW γ'->Sg c γ' 0 N->Q ⟨⟩ zW):wpS (model prog w) A E s Td Q st:=by
 have hsz:((sortPriv% PySem.Builtin.SortState.a) st).size=N:=by
  have:=congrArg Array.size R.arr;rw[De,R.size]at this;exact this
 have hmin:(sortPriv% PySem.Builtin.minRun) N N 0=N:=by
  cases N with
  |zero=>rfl
  |succ m=>
   show minRun' (m+1) (m+1) 0=m+1;rw[minRun'_succ,if_pos h64]
 refine An (wpS_get ?_);dsimp only;rw[hsz,hmin]
 refine An (B6 (A3 (I:=fun x r zW=>(r=(none,0)/\zW=st/\x=0)\/(r=(none,N)/\(pendingOf zW).size<=1/\∃γ',Rp k f N zW γ'/\Sg c γ' 0 N))
  (Q:=fun r zW=>r.1=none/\(pendingOf zW).size<=1/\∃γ',Rp k f N zW γ'/\Sg c γ' 0 N) ?step ?fin ?init) ?post)
 case init=>exact .inl ⟨rfl,rfl,rfl⟩
 case fin=>
  rintro r zW (⟨rfl,rfl,hx⟩|⟨rfl,hz,γ',R',g'⟩)
  ·have hN:N=0:=by lia
   subst hN;exact⟨rfl,by rw[hp];exact Xi _,γ,R,fun i j g h z1 z2 z3=>by lia⟩
  ·exact⟨rfl,hz,γ',R',g'⟩
 case step=>
  rintro x r zW _ hxN (⟨rfl,rfl,hx⟩|⟨rfl,hz,γ',R',g'⟩)
  ·dsimp only;have hpos:0<N:=by lia
   rw[Ah (by lia)]
   refine An (Of C R hpos raw fun n zV hn1 hn2 rn=>?_);obtain⟨xa,γ1,hst1,R1,sg1,ow1,raw1,out1⟩:=rn;have pd1:pendingOf zV=#[]:=by rw[hst1];exact hp
   dsimp only;by_cases hm:n<N
   ·rw[if_pos hm];refine An (wpS_lift (AK ⟨rfl,?_⟩));rw[show min (N - 0) N=N by lia]
    refine An (Oe C R1 (n:=N) (by lia) hn1 (by lia) sg1 ow1 raw1 fun xb γ2 R2 sg2 ow2 raw2 out2=>?_)
    rw[Ah (by decide)]
    refine An (wpS_get ?_);have hb:((sortPriv% PySem.Builtin.SortState.pending) (setArr zV xb)).back?=none:=by
     show(pendingOf zV).back?=none;rw[pd1];rfl
    rw[hb];refine An (wpS_modify (As (.inr ⟨by rw[Bp],?_,γ2,⟨R2.arr,R2.kind,R2.fine,R2.perm⟩,by rw[Bp]at sg2;exact sg2⟩)))
    show((pendingOf zV).push _).size<=1;rw[pd1];exact Qa _
   ·rw[Ah hm];obtain rfl:n=N:=by lia
    refine An (wpS_get ?_);have hb:((sortPriv% PySem.Builtin.SortState.pending) zV).back?=none:=by
     show(pendingOf zV).back?=none;rw[pd1];rfl
    rw[hb];refine An (wpS_modify (As (.inr ⟨by rw[Bp],?_,γ1,⟨R1.arr,R1.kind,R1.fine,R1.perm⟩,by rw[Bp]at sg1;exact sg1⟩)))
    show((pendingOf zV).push _).size<=1;rw[pd1];exact Qa _
  ·dsimp only;rw[if_pos (Qa N)];exact As ⟨rfl,hz,γ',R',g'⟩
 case post=>
  rintro⟨r1,r2⟩ zW ⟨hr,hz,γ',R',g'⟩;dsimp only at hr;subst hr;dsimp only;refine An (B6 (A3 (I:=fun _ r st2=>r=(none,())/\st2=zW) (Q:=fun r st2=>r=(none,())/\st2=zW) ?step3 ?fin3 ?init3) ?post3)
  case init3=>exact⟨rfl,rfl⟩
  case fin3=>exact fun r st2 h=>h
  case step3=>
   rintro y r st2 _ _ ⟨rfl,rfl⟩;refine An (wpS_get ?_);rw[if_pos (show((sortPriv% PySem.Builtin.SortState.pending) st2).size<=1 from hz)];exact As ⟨rfl,rfl⟩
  case post3=>
   rintro r st2 ⟨rfl,rfl⟩;exact As (q st2 γ' R' g')
end
end TS
namespace VF
open L2
open Classical in
noncomputable def oO(lt:D->D->Bool):List D->List D->Bool
 |[],[]=>false
 |[],_::_=>true
 |_::_,[]=>false
 |x::xs,y::ys=>if x=y then oO lt xs ys else lt x y
noncomputable def ltN:Nat->D->D->Bool
 |0,_,_=>false
 |_+1,.int i,.int j=>decide (i<j)
 |_+1,.str x,.str y=>decide (x.cps.toList<y.cps.toList)
 |n+1,.tup xs,.tup ys=>oO (ltN n) xs ys
 |_+1,_,_=>false
def Cp:Nat->D->D->Prop|0,_,_=>False|_+1,.int _,.int _=>True|_+1,.str _,.str _=>True|n+1,.tup xs,.tup ys=>∀(i:Nat) x y,xs[i]?=some x->ys[i]?=some y->Cp n x y|_+1,_,_=>False
theorem yW:∀(xs:List D),oO lt xs xs=false
 |[]=>rfl
 | x::xs=>by
  unfold oO;rw[if_pos rfl];exact yW xs
theorem pM:∀(n:Nat)(a:D),ltN n a a=false
 |0,_=>rfl
 | n+1,a=>by
  cases a with|int i=>exact Ad (Int.lt_irrefl i)|str x=>exact Ad (List.lt_irrefl _)|tup xs=>exact yW xs|_=>rfl
structure Or(n:Nat):Prop where
 tri:∀{a b:D},Cp n a b->a=b\/ltN n a b=true\/ltN n b a=true
 tra:∀{a b c:D},Cp n a b->Cp n b c->Cp n a c->ltN n a b=true->ltN n b c=true->ltN n a c=true
abbrev Cl(n:Nat)(xs ys:List D):Prop:=∀(i:Nat) x y,xs[i]?=some x->ys[i]?=some y->Cp n x y
def Cl.tail(h:Cl n (x::xs) (y::ys)):Cl n xs ys:=fun i a b e1 e2=>h (i+1) a b (by simpa using e1) (by simpa using e2)
def Cl.head(h:Cl n (x::xs) (y::ys)):Cp n x y:=h 0 x y rfl rfl
open Classical in
def cG:oO lt (x::xs) (x::ys)=oO lt xs ys:=by
 show(if x=x then oO lt xs ys else lt x x)=_;rw[if_pos rfl]
open Classical in
def bB(h:x≠y):oO lt (x::xs) (y::ys)=lt x y:=by
 show(if x=y then oO lt xs ys else lt x y)=_;rw[Ah h]
theorem yX(O:Or n):∀{xs ys:List D},Cl n xs ys->xs=ys\/oO (ltN n) xs ys=true\/oO (ltN n) ys xs=true
 |[],[],_=>.inl rfl
 |[],_::_,_=>.inr (.inl rfl)
 |_::_,[],_=>.inr (.inr rfl)
 | x::xs,y::ys,h=>by
  by_cases e:x=y
  ·subst e;rw[cG,cG];rcases yX O h.tail with q|q
   ·exact .inl (by rw[q])
   ·exact .inr q
  ·rw[bB e,bB (Au e)];rcases O.tri h.head with q|q
   ·exact absurd q e
   ·exact .inr q
theorem yY(O:Or n):∀{xs ys zs:List D},Cl n xs ys->Cl n ys zs->Cl n xs zs->oO (ltN n) xs ys=true->oO (ltN n) ys zs=true->oO (ltN n) xs zs=true
 |[],[],[],_,_,_,h1,_=>h1
 |[],_::_,[],_,_,_,_,h2=>h2
 |[],_,_::_,_,_,_,_,_=>rfl
 |_::_,[],_,_,_,_,h1,_=>by cases h1
 |_::_,_::_,[],_,_,_,_,h2=>by cases h2
 | x::xs,y::ys,z::zs,c1,c2,c3,h1,h2=>by
  by_cases e1:x=y
  ·subst e1;rw[cG]at h1;by_cases e2:x=z
   ·subst e2;rw[cG]at h2 ⊢;exact yY O c1.tail c2.tail c3.tail h1 h2
   ·rw[bB e2]at h2 ⊢;exact h2
  ·rw[bB e1]at h1;by_cases e2:y=z
   ·subst e2;rw[bB e1];exact h1
   ·rw[bB e2]at h2;have h3:=O.tra c1.head c2.head c3.head h1 h2;have e3:x≠z:=fun e=>by subst e;rw[pM]at h3;cases h3
    rw[bB e3];exact h3
theorem oh:∀n,Or n
 |0=>⟨fun h=>h.elim,fun h=>h.elim⟩
 | n+1=>by
  have O:=oh n;refine⟨fun {a b} h=>?_,fun {a b c} h1 h2 h3 l1 l2=>?_⟩
  ·cases a with
   |int i=>
    cases b with
    |int j=>
     rcases Int.lt_trichotomy i j with q|q|q
     ·exact .inr (.inl (Af q))
     ·exact .inl (by rw[q])
     ·exact .inr (.inr (Af q))
    |_=>exact h.elim
   |str x=>
    cases b with
    |str y=>
     by_cases q:x.cps.toList<y.cps.toList
     ·exact .inr (.inl (Af q))
     ·by_cases q':y.cps.toList<x.cps.toList
      ·exact .inr (.inr (Af q'))
      ·refine .inl ?_;have:=Ge (a:=x) (b:=y) q' q;rw[this]
    |_=>exact h.elim
   |tup xs=>
    cases b with
    |tup ys=>
     rcases yX O h with q|q
     ·exact .inl (by rw[q])
     ·exact .inr q
    |_=>exact h.elim
   |_=>exact h.elim
  ·cases a with
   |int i=>
    cases b with
    |int j=>
     cases c with
     |int k=>
      have q1:=Ai l1;have q2:=Ai l2;exact Af (Int.lt_trans q1 q2)
     |_=>exact h2.elim
    |_=>exact h1.elim
   |str x=>
    cases b with
    |str y=>
     cases c with
     |str z=>
      have q1:=Ai l1;have q2:=Ai l2;exact Af (List.lt_trans q1 q2)
     |_=>exact h2.elim
    |_=>exact h1.elim
   |tup xs=>
    cases b with
    |tup ys=>
     cases c with|tup zs=>exact yY O h1 h2 h3 l1 l2|_=>exact h2.elim
    |_=>exact h1.elim
   |_=>exact h1.elim
theorem yZ(h:∀a b,lt a b=true->lt b a=false):∀(xs ys:List D),oO lt xs ys=true->oO lt ys xs=false
 |[],[],l=>by cases l
 |[],_::_,_=>rfl
 |_::_,[],l=>by cases l
 | x::xs,y::ys,l=>by
  by_cases e:x=y
  ·subst e;rw[cG]at l ⊢;exact yZ h xs ys l
  ·rw[bB e]at l;rw[bB (Au e)];exact h x y l
theorem t7:∀(n:Nat)(a b:D),ltN n a b=true->ltN n b a=false
 |0,_,_,l=>by cases l
 | n+1,a,b,l=>by
  cases a with
  |int i=>
   cases b with
   |int j=>
    have q:=Ai l;exact Ad (by lia)
   |_=>cases l
  |str x=>
   cases b with
   |str y=>
    have q:=Ai l;exact Ad (List.lt_asymm q)
   |_=>cases l
  |tup xs=>
   cases b with|tup ys=>exact yZ (t7 n) xs ys l|_=>cases l
  |_=>cases l
def Og(n:Nat)(es:List D):Prop:=es.Pairwise fun a b=>ltN n b a=false
open Classical in
noncomputable def gO(n:Nat)(ds:List D):List D:=if h:∃es:List D,es.Perm ds/\Og n es then h.choose else ds
def qF(n:Nat)(ds:List D):(gO n ds).Perm ds:=by
 unfold gO;split
 ·rename_i h;exact h.choose_spec.1
 ·exact List.Perm.refl _
def CA(n:Nat)(ds:List D):Prop:=∀a∈ds,∀b∈ds,Cp n a b
def CA.neg(h:CA n ds)(ha:a∈ds)(hb:b∈ds)(hc:c∈ds)(l:ltN n a c=true):ltN n a b=true\/ltN n b c=true:=by
 rcases(oh n).tri (h a ha b hb) with q|q|q
 ·subst q;exact .inr l
 ·exact .inl q
 ·exact .inr ((oh n).tra (h b hb a ha) (h a ha c hc) (h b hb c hc) q l)
def l7{ds es:List D}(h:CA n ds)(p:es.Perm ds)(s:Og n es):es=gO n ds:=by
 have ex:∃es:List D,es.Perm ds/\Og n es:=⟨es,p,s⟩;have e:gO n ds=ex.choose:=by unfold gO;rw[dif_pos ex]
 obtain⟨p2,s2⟩:=ex.choose_spec;rw[e];refine(p.trans p2.symm).eq_of_pairwise (fun a b ha hb h1 h2=>?_) s s2;rcases(oh n).tri (h a (p.mem_iff.mp ha) b (p2.mem_iff.mp hb)) with q|q|q
 ·exact q
 ·rw[h2]at q;cases q
 ·rw[h1]at q;cases q
end VF
namespace VF
open L2 SeqAt
open PySem.AutoSeq1 (wpAny_loadPart')
open PySem.MeetsSeq PySem.MeetsSeq2 PySem.MeetsSeq3
def LtAt(A:Around)(s:Shared)(u v:Value)(b:Bool):Prop:=∀(prog:Program)(w:World)(E:Value->Shared->Prop)(Q:Value->Shared->Prop),Q (.bool b) s->wpAny (model prog w) A (richCompare .Lt u v) Q E s
open Classical in
inductive IL(A:Around)(s:Shared)(lt:D->D->Bool):List Value->List Value->List D->List D->Prop where
 | left {ws:List Value} {es:List D}:ws.length=es.length->IL A s lt [] ws [] es
 | right {vs:List Value} {ds:List D}:vs.length=ds.length->IL A s lt vs [] ds []
 | cons {v w:Value} {vs ws:List Value} {d e:D} {ds es:List D}:EqAt A.in1 s v w (decide (d=e))->(d≠e->LtAt A.in1 s v w (lt d e))->IL A s lt vs ws ds es->IL A s lt (v::vs) (w::ws) (d::ds) (e::es)
open Classical in
inductive KL(A:Around)(s:Shared)(lt:D->D->Bool)(n m:Nat)(R:Result->Shared->Prop){α β:Type}(rest:List (Value×Value))(b:Option α×β)(s':Shared):Prop
 | mk (vs ws:List Value) (ds' es':List D) (e1:b.1=none) (e2:s'=s) (hz:rest=vs.zip ws) (hi:IL A s lt vs ws ds' es') (hlen:vs.length+m=ws.length+n) (hR:R (.ok (.ret (.bool (oO lt ds' es')))) s)
open Classical in
def rS(l b:Addr)(items items2:Array Value)(n n2:Nat)(dd dd2:Option Addr)(sl sl2:Array (Option Value))(lt:D->D->Bool)(ds es:List D) :
  Meets (Builtin.«tuple.__lt__» ⟨[.ref l,.ref b],[]⟩)
   (fun A R s=>s.heap.get? l=some { cls:=.type "tuple",dict:=dd,data:=.seq items n,slots:=sl }/\s.heap.get? b=some { cls:=.type "tuple",dict:=dd2,data:=.seq items2 n2,slots:=sl2 } /\
    IL A s lt items.toList items2.toList ds es/\R (.ok (.ret (.bool (oO lt ds es)))) s) :=
 .of_wp fun prog w A R s h=>by
  obtain⟨hp,g,d,tk,os⟩:=s;obtain⟨hl,hb,hI,h⟩:=h;have f2:=AutoSeq1.sub_tuple_tuple
  wp_walk using BW hl,BW hb,wpAny_forIn_list _ (KL A ⟨hp,g,d,tk,os⟩ lt items.size items2.size R) _
  case turn=>
   rintro⟨y,x⟩ rest b s' ⟨vs,ws,ds',es',hb',rfl,hz,hi,hlen,hR⟩;cases hi with
   |left _=>rw[List.zip_nil_left]at hz;cases hz
   |right _=>rw[List.zip_nil_right]at hz;cases hz
   |@cons v w' vs' ws' d' e' ds2 es2 he hlt hi'=>
    rw[Bv]at hz;injection hz with hyx hrest;injection hyx with hy hx;subst hy hx;simp only[Vc]at hlen;refine Aa (he prog w _ _ ?_);by_cases hde:d'=e'
    ·subst hde;rw[Af rfl];rw[cG]at hR
     wp_walk
     exact⟨_,_,_,_,rfl,rfl,hrest,hi',by lia,hR⟩
    ·rw[Ad hde];rw[bB hde]at hR;have hri:=hlt hde prog w
     wp_walk using hri
     exact⟨_,rfl,by simpa using hR⟩
  case fin=>
   rintro⟨b1,b2⟩ s' ⟨vs,ws,ds',es',hb',rfl,hz,hi,hlen,hR⟩;simp only at hb';subst hb';have hv:oO lt ds' es'=decide (items.size<items2.size):=by
    cases hi with
    |left hl2=>
     cases es' with
     |nil=>
      simp only[Wh]at hlen hl2;exact(Ad (by lia)).symm
     |cons e0 e1=>
      simp only[Wh,Vc]at hlen hl2;exact(Af (by lia)).symm
    |right hl2=>
     cases ds' with
     |nil=>
      simp only[Wh]at hlen hl2;exact(Ad (by lia)).symm
     |cons e0 e1=>
      simp only[Wh,Vc]at hlen hl2;exact(Ad (by lia)).symm
    |cons _ _ _=>
     rw[Bv]at hz;cases hz
   rw[hv]at hR
   wp_walk
   exact⟨_,rfl,by simpa[Builtin.Tuple.tupleCompareSizes]using hR⟩
  case h=>
   exact⟨items.toList,items2.toList,ds,es,rfl,rfl,rfl,hI,by rw[Zf,Zf,Dq],h⟩
def LtAt.tuples{A:Around}{s:Shared}{items items2:Array Value}(hl:s.heap.IsTuple l items)(hb:s.heap.IsTuple b items2)(hu:A.units<cLine)(hI:IL A s lt items.toList items2.toList ds es) :
  LtAt A s (.ref l) (.ref b) (oO lt ds es):=fun prog w E Q h=>by
 obtain⟨⟨cls,dd,data,sl⟩,ho,hc,n,hd⟩:=id hl;obtain⟨⟨cls2,dd2,data2,sl2⟩,ho2,hc2,n2,hd2⟩:=id hb;simp only at hc hd hc2 hd2;subst hc hd hc2 hd2;exact richCompare_meets_room (op:=.Lt) ⟨_,ho,rfl⟩ ⟨_,ho2,rfl⟩ PySem.F.slot_tuple_lt PySem.F.entry_tuple_lt (PySem.F.args_tuple_lt_2 _ _) (rS l b items items2 n n2 dd dd2 sl sl2 lt ds es)
  ⟨ho,ho2,hI,show Value.bool (oO lt ds es)≠Value.notImplemented/\Q (.bool (oO lt ds es)) s from⟨(fun x=>nomatch x),h⟩⟩ hu
theorem L8{A:Around}:∀{vs ws:List Value}{ds es:List D},vs.length=ds.length->ws.length=es.length->
  (∀(i:Nat) v w d e,vs[i]?=some v->ws[i]?=some w->ds[i]?=some d->es[i]?=some e->(∀b,(b=true↔d=e)->EqAt A.in1 s v w b)/\(d≠e->LtAt A.in1 s v w (lt d e)))->IL A s lt vs ws ds es
 |[],_,[],_,_,h2,_=>.left h2
 |_::_,[],_::_,[],h1,_,_=>.right h1
 | v::vs,w::ws,d::ds,e::es,h1,h2,h=>by
  obtain⟨a1,a2⟩:=h 0 v w d e rfl rfl rfl rfl;exact .cons (a1 _ (by simp)) a2 (L8 (by simpa using h1) (by simpa using h2) fun i v' w' d' e' z1 z2 z3 z4=>h (i+1) v' w' d' e' (by simpa using z1) (by simpa using z2) (by simpa using z3) (by simpa using z4))
 |[],_,_::_,_,h1,_,_=>by simp at h1
 |_::_,_,[],_,h1,_,_=>by simp at h1
 |_::_,[],_::_,_::_,_,h2,_=>by simp at h2
 |_::_,_::_,_::_,[],_,h2,_=>by simp at h2
open Classical in
def vJ{A:Around}{u v:Value}{d e:D}(h:EqAt A s u v (decide (d=e)))(b:Bool)(hb:b=true↔d=e):EqAt A s u v b:=by
 have:b=decide (d=e):=by rw[Zg,hb,decide_eq_true_eq]
 rw[this];exact h
theorem RH.ltAt:∀(n:Nat){s:Shared}{d1 d2:D}{u1 u2:Value}{A:Around},Pl n d1->Pl n d2->Cp n d1 d2->RH s.heap u1 d1->RH s.heap u2 d2->A.units+n<cLine->LtAt A s u1 u2 (ltN n d1 d2):=by
 intro n;induction n with
 |zero=>intro s d1 d2 u1 u2 A p;cases p
 |succ n ih=>
  intro s d1 d2 u1 u2 A p1 p2 cp r1 r2 hu;cases r1 with
  |non=>exact cp.elim
  |int i t=>
   cases r2 with|int j t'=>exact fun prog w E Q h=>HT.rcLt_int A s i t j t' prog w E Q h|_=>exact cp.elim
  |str x t=>
   cases r2 with|str y t'=>exact fun prog w E Q h=>(PyProof.Rows.lt_str h:wpAny (model prog w) A (compareOp .Lt (.str x t) (.str y t')) Q E s)|_=>exact cp.elim
  |lst _ _ _=>exact cp.elim
  |@tup a its ds t hl f=>
   cases r2 with
   |@tup b its' ds' t' hl' f'=>
    cases p1 with
    |tup p1=>
    cases p2 with
    |tup p2=>
    refine LtAt.tuples t t' (by lia) (L8 (by simpa using hl) (by simpa using hl') fun i v w d e z1 z2 z3 z4=>?_)
    have z1':its[i]?=some v:=by simpa using z1
    have z2':its'[i]?=some w:=by simpa using z2
    have m1:=p1 d (Wc z3);have m2:=p2 e (Wc z4);have hu':A.in1.units+n<cLine:=by show A.units+1+n<cLine;lia
    exact⟨vJ (RH.eqAt n m1 m2 (f i v d z1' z3) (f' i w e z2' z4) hu').1,fun _=>ih m1 m2 (cp i d e z3 z4) (f i v d z1' z3) (f' i w e z2' z4) hu'⟩
   |_=>exact cp.elim
end VF
namespace VF
open L2 PyProof.Rows SeqAt
def sP(A:Around)(s:Shared)(fl:Bool)(u v:Value)(c:Bool):Prop:=∀(prog:Program)(w:World)(E:Value->Shared->Prop)(Q:Bool->Shared->Prop),Q c s->wpAny (model prog w) A (oneLt' fl u v) Q E s
open Classical in
inductive IK(A:Around)(s:Shared)(b:Bool)(lt:D->D->Bool):Nat->List Value->List Value->List D->List D->Prop where
 | left {i:Nat} {ws:List Value} {es:List D}:ws.length=es.length->IK A s b lt i [] ws [] es
 | right {i:Nat} {vs:List Value} {ds:List D}:vs.length=ds.length->IK A s b lt i vs [] ds []
 | cons {i:Nat} {v w:Value} {vs ws:List Value} {d e:D} {ds es:List D}:EqAt A s v w (decide (d=e))->(d≠e->sP A s (b&&i == 0) v w (lt d e))->IK A s b lt (i+1) vs ws ds es->IK A s b lt i (v::vs) (w::ws) (d::ds) (e::es)
section
variable {prog:Program}{w:World}{A:Around}{E:Value->Shared->Prop}{s:Shared}
def y0(h:LtAt A s u v c):sP A s false u v c:=fun prog w E Q q=>by
 rw[oneLt'_eq];dsimp only;rw[Ah Bool.noConfusion];exact Aa (h prog w _ _ (Aw q))
theorem y4(fl:Bool):sP A s fl (.int a t) (.int b u) (decide (a<b)):=fun prog w E Q q=>by
 cases fl with|true=>exact oneLt_int q|false=>exact y0 (fun prog w E Q h=>HT.rcLt_int A s a t b u prog w E Q h) prog w E Q q
theorem t8{a b:Str}(fl:Bool):sP A s fl (.str a t) (.str b u) (decide (a.cps.toList<b.cps.toList)):=fun prog w E Q q=>by
 cases fl with|true=>exact oneLt_str q|false=>exact y0 (fun prog w E Q h=>(PyProof.Rows.lt_str h:wpAny (model prog w) A (compareOp .Lt (.str a t) (.str b u)) Q E s)) prog w E Q q
inductive KI(A:Around)(s:Shared)(b:Bool)(lt:D->D->Bool)(n m:Nat)(Q:Bool->Shared->Prop)(rest:List ((Value×Value)×Nat))(r:Option Bool×Unit)(s':Shared):Prop
 | mk (i:Nat) (vs ws:List Value) (ds' es':List D) (e1:s'=s) (e2:r=(none,())) (hz:rest=(vs.zip ws).zipIdx i) (hi:IK A s b lt i vs ws ds' es') (hlen:vs.length+m=ws.length+n) (hR:Q (oO lt ds' es') s)
open Classical in
def y6{xs ys:Array Value}(hl:s.heap.IsTuple l xs)(hr:s.heap.IsTuple r ys)(hI:IK A s b lt 0 xs.toList ys.toList ds es)(q:Q (oO lt ds es) s) :
  wpAny (model prog w) A (keyLt' (tuples' b) (.ref l) (.ref r)) Q E s:=by
 obtain⟨o1,g1,_,n1,d1⟩:=hl;obtain⟨o2,g2,_,n2,d2⟩:=hr;refine Aa (AM g1 d1 ?_);refine Aa (AM g2 d2 ?_);refine Aa (wpAny_forIn_list _ (KI A s b lt xs.size ys.size Q) _ ?_ ?_ _ _ ?_)
 ·rintro⟨⟨y,x⟩,j⟩ rest r s' ⟨i,vs,ws,ds',es',rfl,rfl,hz,hi,hlen,hR⟩;cases hi with
  |left _=>rw[List.zip_nil_left]at hz;cases hz
  |right _=>rw[List.zip_nil_right]at hz;cases hz
  |@cons _ v w' vs' ws' d' e' ds2 es2 he hlt hi'=>
   rw[Bv,BL]at hz;injection hz with hyx hrest;injection hyx with hy hj;injection hy with hy hx;subst hy hx hj;simp only[Vc]at hlen;dsimp only;refine Aa (he prog w _ _ ?_);by_cases hde:d'=e'
   ·subst hde;rw[Af rfl];rw[cG]at hR;exact Ac ⟨_,_,_,_,_,rfl,rfl,hrest,hi',by lia,hR⟩
   ·rw[Ad hde];rw[bB hde]at hR;exact Aa (hlt hde prog w _ _ (Ac (Ac hR)))
 ·rintro r s' ⟨i,vs,ws,ds',es',rfl,rfl,hz,hi,hlen,hR⟩;have hv:oO lt ds' es'=decide (xs.size<ys.size):=by
   cases hi with
   |left hl2=>
    cases es' with
    |nil=>
     simp only[Wh]at hlen hl2;exact(Ad (by lia)).symm
    |cons e0 e1=>
     simp only[Wh,Vc]at hlen hl2;exact(Af (by lia)).symm
   |right hl2=>
    cases ds' with
    |nil=>
     simp only[Wh]at hlen hl2;exact(Ad (by lia)).symm
    |cons e0 e1=>
     simp only[Wh,Vc]at hlen hl2;exact(Ad (by lia)).symm
   |cons _ _ _=>
    rw[Bv,BL]at hz;cases hz
  rw[hv]at hR;exact Ac hR
 ·exact⟨0,xs.toList,ys.toList,ds,es,rfl,rfl,rfl,hI,by rw[Zf,Zf,Dq],q⟩
theorem L9:∀{i:Nat}{vs ws:List Value}{ds es:List D},vs.length=ds.length->ws.length=es.length->
  (∀(j:Nat) v w d e,vs[j]?=some v->ws[j]?=some w->ds[j]?=some d->es[j]?=some e->(∀c,(c=true↔d=e)->EqAt A s v w c)/\(d≠e->sP A s (b&&(i+j) == 0) v w (lt d e)))->IK A s b lt i vs ws ds es
 |_,[],_,[],_,_,h2,_=>.left h2
 |_,_::_,[],_::_,[],h1,_,_=>.right h1
 | i,v::vs,w::ws,d::ds,e::es,h1,h2,h=>by
  obtain⟨a1,a2⟩:=h 0 v w d e rfl rfl rfl rfl;refine .cons (a1 _ (by simp)) a2 (L9 (by simpa using h1) (by simpa using h2) fun j v' w' d' e' z1 z2 z3 z4=>?_)
  have:=h (j+1) v' w' d' e' (by simpa using z1) (by simpa using z2) (by simpa using z3) (by simpa using z4)
  rwa [show i+(j+1)=i+1+j by lia]at this
 |_,[],_,_::_,_,h1,_,_=>by simp at h1
 |_,_::_,_,[],_,h1,_,_=>by simp at h1
 |_,_::_,[],_::_,_::_,_,h2,_=>by simp at h2
 |_,_::_,_::_,_::_,[],_,h2,_=>by simp at h2
def Oh(d:D):Prop:=match d with|.tup (.int _::_)=>True|_=>False
def Oj(d:D):Prop:=match d with|.tup (.str _::_)=>True|_=>False
theorem y7(h:Oh d):∃i r,d=.tup (.int i::r):=by
 cases d with
 |tup l=>
  cases l with
  |nil=>exact h.elim
  |cons x r=>
   cases x with|int i=>exact⟨_,_,rfl⟩|_=>exact h.elim
 |_=>exact h.elim
theorem y8(h:Oj d):∃i r,d=.tup (.str i::r):=by
 cases d with
 |tup l=>
  cases l with
  |nil=>exact h.elim
  |cons x r=>
   cases x with|str i=>exact⟨_,_,rfl⟩|_=>exact h.elim
 |_=>exact h.elim
def GK(p1:Pl (n+1) d1)(p2:Pl (n+1) d2)(cp:Cp (n+1) d1 d2)(r1:RH s.heap u1 d1)(r2:RH s.heap u2 d2)(hu:A.units+(n+1)<cLine)
  (ht:∃xs,d1=.tup xs)(hb:b=true->(Oh d1/\Oh d2)\/(Oj d1/\Oj d2))(q:Q (ltN (n+1) d1 d2) s):wpAny (model prog w) A (keyLt' (tuples' b) u1 u2) Q E s:=by
 obtain⟨xs,rfl⟩:=ht;cases r1 with
 |@tup a its ds t hl f=>
  cases r2 with
  |@tup a2 its' ds' t' hl' f'=>
   cases p1 with
   |tup p1=>
   cases p2 with
   |tup p2=>
   refine y6 (lt:=ltN n) (ds:=xs) (es:=ds') t t' (L9 (by simpa using hl) (by simpa using hl') fun j v w' d e z1 z2 z3 z4=>?_) q
   have z1':its[j]?=some v:=by simpa using z1
   have z2':its'[j]?=some w':=by simpa using z2
   have m1:=p1 d (Wc z3);have m2:=p2 e (Wc z4);have k1:=f j v d z1' z3;have k2:=f' j w' e z2' z4;have c1:=cp j d e z3 z4;refine⟨vJ (RH.eqAt n m1 m2 k1 k2 (by lia)).1,fun _=>?_⟩
   cases hfl:(b&&(0+j) == 0) with
   |false=>exact y0 (RH.ltAt n m1 m2 c1 k1 k2 (by lia))
   |true=>
    rw[Wf]at hfl;have hj:j=0:=by have:=eq_of_beq hfl.2;lia
    subst hj;rcases hb hfl.1 with⟨g1,g2⟩|⟨g1,g2⟩
    ·obtain⟨i,r,e1⟩:=y7 g1;obtain⟨i2,r2,e2⟩:=y7 g2;cases e1;cases e2;cases z3;cases z4;cases k1;cases k2;cases n with|zero=>cases m1|succ n=>exact y4 true
    ·obtain⟨i,r,e1⟩:=y8 g1;obtain⟨i2,r2,e2⟩:=y8 g2;cases e1;cases e2;cases z3;cases z4;cases k1;cases k2;cases n with|zero=>cases m1|succ n=>exact t8 true
  |_=>exact cp.elim
end
end VF
namespace VF
open L2 PyProof.Rows
section
variable {M:Model}{prog:Program}{w:World}{A:Around}{E:Value->Shared->Prop}{s:Shared}
theorem y9:∀(l:List α),(∀v∈l,∀Q:β->Shared->Prop,Q (g v) s->wpAny M A (f v) Q E s)->∀Q:List β->Shared->Prop,Q (l.map g) s->wpAny M A (l.mapM f) Q E s
 |[],_,Q,q=>by rw[Di];exact Ac q
 | v::l,h,Q,q=>by
  rw[Db];exact Aa (h v Va _ (Aa (y9 l (fun u hu=>h u (Wa _ hu)) _ (Ac q))))
def t9{l:List α}(h:∀v∈l,∀Q:β->Shared->Prop,Q (g v) s->wpAny M A (f v) Q E s)(q:Q (l.map g).toArray s):wpAny M A (l.toArray.mapM f) Q E s:=by
 rw[CJ,CT];exact Aa (y9 l h _ (Ac q))
def Ee:D->String|.int _=>"int"|.str _=>"str"|.tup _=>"tuple"|_=>"list"
theorem RH.ty(r:RH s.heap u d)(h:d≠.non):s.TypeIs u (Ee d):=by
 cases r with
 |non=>exact absurd rfl h
 |int i t=>exact typeIs_int s i t
 |str x t=>exact AW s x t
 |tup t _ _=>obtain⟨o,h1,h2,_⟩:=t;exact⟨o,h1,h2⟩
 |lst t _ _=>obtain⟨o,h1,h2,_⟩:=t;exact⟨o,h1,h2⟩
def GL{us:List Value}{ds:List D}(hne:us≠[])(hl:us.length=ds.length)(r:∀(i:Nat) u d,us[i]?=some u->ds[i]?=some d->RH s.heap u d/\d≠.non/\Ee d=T)(q:Q (some (.type T)) s) :
  wpAny M A (oneTypeOnly' us.toArray) Q E s:=by
 rw[oneTypeOnly'_eq];refine Aa (t9 (g:=fun _=>Value.type T) (fun v hv Q q=>?_) ?_)
 ·obtain⟨i,hi,rfl⟩:=List.mem_iff_getElem.mp hv;obtain⟨r1,r2,r3⟩:=r i us[i] ds[i] (Ya hi) (Ya (by lia))
  exact AD (r3 ▸ r1.ty r2) q
 ·cases us with
  |nil=>exact absurd rfl hne
  |cons u us=>
   have h0:(List.map (fun _=>Value.type T) (u::us)).toArray[0]?=some (Value.type T):=by simp
   rw[h0];have hall:((List.map (fun _=>Value.type T) (u::us)).toArray.all fun x=>x == Value.type T)=true:=by
    simp only[List.all_toArray,CM,Yh];intro _ _;exact beq_self_eq_true _
   dsimp only;rw[hall,if_pos rfl];exact Ac q
def GM(r:RH s.heap u d)(h:d≠.non)(ht:Ee d≠"tuple")(q:Q none s):wpAny M A (firstOfTuple' u) Q E s:=by
 refine Aa (AD (r.ty h) ?_);rw[if_pos (by rw[bne_iff_ne];intro e;injection e with e;exact ht e)]
 exact Ac q
def sQ{its:List Value}(t:s.heap.IsTuple a its.toArray)(e:its=u::us)(q:Q (some u) s):wpAny M A (firstOfTuple' (.ref a)) Q E s:=by
 obtain⟨o,h1,h2,n,h3⟩:=t;refine Aa (AD (T:="tuple") ⟨o,h1,h2⟩ ?_);rw[Ah (by rw[bne_iff_ne];intro z;exact z rfl)]
 refine Aa (AM h1 h3 ?_);subst e;exact Ac q
inductive Kd:List D->SortKind->Prop where
 | sc {ds:List D} {T:String}:T≠"tuple"->(∀d∈ds,d≠.non/\Ee d=T)->Kd ds oneType'
 | tp {ds:List D} {T:String}:(∀d∈ds,∃x xs,d=.tup (x::xs)/\x≠.non/\Ee x=T)->Kd ds (tuples' (T != "tuple"))
def QX{us:List Value}{ds:List D}(hne:us≠[])(hl:us.length=ds.length)(r:∀(i:Nat) u d,us[i]?=some u->ds[i]?=some d->RH s.heap u d)(hk:Kd ds κ)(q:Q κ s) :
  wpAny M A (keyKind' us.toArray) Q E s:=by
 rw[keyKind'_eq];cases hk with
 |@sc T hT h=>
  refine Aa (t9 (g:=fun _=>none) (fun v hv Q q=>?_) ?_)
  ·obtain⟨i,hi,rfl⟩:=List.mem_iff_getElem.mp hv;have hd:=h ds[i] (AQ _);exact GM (r i _ _ (Ya hi) (Ya (by lia))) hd.1 (by rw[hd.2];exact hT) q
  ·cases us with
   |nil=>exact absurd rfl hne
   |cons u us=>
    rw[Ah (by simp),Ah (by simp)]
    refine Aa (GL (T:=T) hne hl (fun i u d e1 e2=>⟨r i u d e1 e2,h d (Wc e2)⟩) ?_);exact Ac q
 |@tp T h=>
  have hx:∀(i:Nat)(hi:i<us.length),∃u0 x xs,(∀Q:Option Value->Shared->Prop,Q (some u0) s->wpAny M A (firstOfTuple' us[i]) Q E s)/\ds[i]?=some (.tup (x::xs))/\RH s.heap u0 x/\x≠.non/\Ee x=T:=fun i hi=>by
   have hd:i<ds.length:=by lia
   obtain⟨x,xs,e,h1,h2⟩:=h ds[i] (AQ _);have rr:=r i us[i] ds[i] (Ya hi) (Ya hd);rw[e]at rr;generalize us[i]=v at rr;cases rr with
   |@tup a its _ t hl f=>
    cases its with|nil=>simp at hl|cons u0 ur=>exact⟨u0,x,xs,fun Q q=>sQ t rfl q,by rw[Ya hd,e],f 0 u0 x rfl rfl,h1,h2⟩
  have hf:∃fs:List Value,fs.length=us.length/\(∀Q:Array (Option Value)->Shared->Prop,Q (fs.map some).toArray s->wpAny M A (us.toArray.mapM firstOfTuple') Q E s)/\∀(i:Nat) u,fs[i]?=some u->∃x,RH s.heap u x/\x≠.non/\Ee x=T:=by
   have:∀l:List Value,(∀v∈l,∃u0 x,(∀Q:Option Value->Shared->Prop,Q (some u0) s->wpAny M A (firstOfTuple' v) Q E s)/\RH s.heap u0 x/\x≠.non/\Ee x=T)->
     ∃fs:List Value,fs.length=l.length/\(∀Q:List (Option Value)->Shared->Prop,Q (fs.map some) s->wpAny M A (l.mapM firstOfTuple') Q E s)/\∀(i:Nat) u,fs[i]?=some u->∃x,RH s.heap u x/\x≠.non/\Ee x=T:=fun l=>by
    induction l with
    |nil=>exact fun _=>⟨[],rfl,fun Q q=>by rw[Di];exact Ac q,fun i u e=>by simp at e⟩
    |cons v l ih=>
     intro hv;obtain⟨fs,f1,f2,f3⟩:=ih fun u hu=>hv u (Wa _ hu);obtain⟨u0,x,g1,g2⟩:=hv v Va;refine⟨u0::fs,by simp[f1],fun Q q=>?_,fun i u e=>?_⟩
     ·rw[Db];exact Aa (g1 _ (Aa (f2 _ (Ac q))))
     ·cases i with
      |zero=>
       have:u0=u:=by simpa using e
       subst this;exact⟨x,g2⟩
      |succ i=>exact f3 i u (by simpa using e)
   obtain⟨fs,f1,f2,f3⟩:=this us fun v hv=>by
    obtain⟨i,hi,rfl⟩:=List.mem_iff_getElem.mp hv;obtain⟨u0,x,xs,a1,_,a2⟩:=hx i hi;exact⟨u0,x,a1,a2⟩
   refine⟨fs,f1,fun Q q=>?_,f3⟩;rw[CJ,CT];exact Aa (f2 _ (Ac q))
  obtain⟨fs,f1,f2,f3⟩:=hf;refine Aa (f2 _ ?_);rw[if_pos (by simp)]
  refine Aa (AK ?_);have e1:(fs.map some).toArray.filterMap id=fs.toArray:=by simp
  rw[e1];have hne':fs≠[]:=fun z=>by
   rw[z]at f1;exact hne (Xf f1.symm)
  obtain⟨xs,hxs,hxx⟩:∃xs:List D,fs.length=xs.length/\∀(i:Nat) u d,fs[i]?=some u->xs[i]?=some d->RH s.heap u d/\d≠.non/\Ee d=T:=by
   have:∀l:List Value,(∀(i:Nat) u,l[i]?=some u->∃x,RH s.heap u x/\x≠.non/\Ee x=T)->∃xs:List D,l.length=xs.length/\∀(i:Nat) u d,l[i]?=some u->xs[i]?=some d->RH s.heap u d/\d≠.non/\Ee d=T:=fun l=>by
    induction l with
    |nil=>exact fun _=>⟨[],rfl,fun i u d e=>by simp at e⟩
    |cons v l ih=>
     intro hv;obtain⟨xs,x1,x2⟩:=ih fun i u e=>hv (i+1) u (by simpa using e)
     obtain⟨x,hx⟩:=hv 0 v rfl;refine⟨x::xs,by simp[x1],fun i u d e1 e2=>?_⟩
     cases i with
     |zero=>
      have a1:v=u:=by simpa using e1
      have a2:x=d:=by simpa using e2
      subst a1 a2;exact hx
     |succ i=>exact x2 i u d (by simpa using e1) (by simpa using e2)
   exact this fs f3
  refine Aa (GL (T:=T) hne' hxs hxx ?_);have e2:(Option.any (fun x=>x != Value.type "tuple") (some (Value.type T)))=(T != "tuple"):=by
   show(Value.type T != Value.type "tuple")=_;rw[Zg,bne_iff_ne,bne_iff_ne];constructor
   ·exact fun h e=>h (by rw[e])
   ·exact fun h e=>h (by injection e)
  rw[e2];exact Ac q
end
end VF
namespace VF
open L2 PyProof.Rows TS
section
variable {prog:Program}{w:World}{A:Around}{E:Value->Shared->Prop}{s:Shared}
theorem RH.kept{h h':Heap}(k:∀b o,h.get? b=some o->h'.get? b=some o)(r:RH h u d):RH h' u d:=by
 induction r with
 |non=>exact .non
 |int i t=>exact .int i t
 |str x t=>exact .str x t
 |tup t hl _ ih=>obtain⟨o,h1,h2⟩:=t;exact .tup ⟨o,k _ o h1,h2⟩ hl ih
 |lst t hl _ ih=>obtain⟨o,h1,h2⟩:=t;exact .lst ⟨o,k _ o h1,h2⟩ hl ih
def dk(ds:List D)(g:Nat):D:=ds.getD g (ds.headD .non)
def qG(h:ds[g]?=some d):dk ds g=d:=by
 unfold dk;rw[Yc,h];rfl
theorem jw(h:ds≠[])(g:Nat):dk ds g∈ds:=by
 cases e:ds[g]? with
 |some d=>rw[qG e];exact Wc e
 |none=>
  cases ds with
  |nil=>exact absurd rfl h
  |cons x xs=>
   unfold dk;rw[Yc,e];simp
noncomputable def cD(ds:List D)(g h:Nat):Bool:=ltN 40 (dk ds g) (dk ds h)
theorem GN(h:Cp n d e)(ht:Ee d≠"tuple"):(∃i j,d=.int i/\e=.int j)\/∃x y,d=.str x/\e=.str y:=by
 cases n with
 |zero=>exact h.elim
 |succ n=>
  cases d with
  |int i=>
   cases e with|int j=>exact .inl ⟨i,j,rfl,rfl⟩|_=>exact h.elim
  |str x=>
   cases e with|str y=>exact .inr ⟨x,y,rfl,rfl⟩|_=>exact h.elim
  |tup xs=>exact absurd rfl ht
  |_=>exact h.elim
def JY{us vs:List Value}{ds:List D}(hl:us.length=ds.length)(r:∀(i:Nat) u d,us[i]?=some u->ds[i]?=some d->RH s.heap u d)(pl:∀d∈ds,Pl 40 d)(ca:CA 40 ds)(hk:Kd ds κ)(hu:A.units+40<cLine) :
  Cm prog w A s κ (fun g=>(us.getD g .none,vs.getD g .none)) us.length (cD ds):=by
 refine⟨fun E Q g h hg hh q=>?_,fun g=>pM _ _,fun g h i h1 h2=>?_,fun g h i h1=>?_⟩
 ·have eg:us[g]?=some us[g]:=Ya hg;have eh:us[h]?=some us[h]:=Ya hh;have dg:ds[g]?=some ds[g]:=Ya (by lia)
  have dh:ds[h]?=some ds[h]:=Ya (by lia)
  have q':Q (ltN 40 ds[g] ds[h]) s:=by unfold cD at q;rw[qG dg,qG dh]at q;exact q
  have rg:=r g _ _ eg dg;have rh:=r h _ _ eh dh;have mg:=Wc dg;have mh:=Wc dh;have cp:=ca _ mg _ mh;show wpAny (model prog w) A (keyLt' κ (us.getD g .none) (us.getD h .none)) Q E s;rw[Yc,Yc,eg,eh];show wpAny (model prog w) A (keyLt' κ us[g] us[h]) Q E s;generalize us[g]=ug at rg;generalize us[h]=uh at rh;generalize ds[g]=a at *;generalize ds[h]=b at *;cases hk with
  |@sc T hT hd=>
   rw[keyLt'_oneType];rcases GN cp (by rw[(hd a mg).2];exact hT) with⟨i,j,rfl,rfl⟩|⟨x,y,rfl,rfl⟩
   ·cases rg;cases rh;exact y4 true prog w E Q q'
   ·cases rg;cases rh;exact t8 true prog w E Q q'
  |@tp T hd=>
   obtain⟨x,xs,rfl,nx,tx⟩:=hd a mg;obtain⟨y,ys,rfl,ny,ty⟩:=hd b mh;refine GK (n:=39) (pl _ mg) (pl _ mh) cp rg rh (by lia) ⟨_,rfl⟩ (fun hb=>?_) q'
   have hT:T≠"tuple":=by rwa [bne_iff_ne]at hb
   rcases GN (cp 0 x y rfl rfl) (by rw[tx];exact hT) with⟨i,j,rfl,rfl⟩|⟨x,y,rfl,rfl⟩
   ·exact .inl ⟨trivial,trivial⟩
   ·exact .inr ⟨trivial,trivial⟩
 ·by_cases hne:ds=[]
  ·subst hne;have:cD [] g h=false:=pM 40 .non;rw[this]at h1;cases h1
  ·exact(oh 40).tra (ca _ (jw hne g) _ (jw hne h)) (ca _ (jw hne h) _ (jw hne i)) (ca _ (jw hne g) _ (jw hne i)) h1 h2
 ·by_cases hne:ds=[]
  ·subst hne;have:cD [] g i=false:=pM 40 .non;rw[this]at h1;cases h1
  ·exact ca.neg (jw hne g) (jw hne h) (jw hne i) h1
def cg(vs:List Value)(γ:Array Nat):Array Value:=γ.map fun g=>vs.getD g .none
def Ef{vs : List Value}{ds : List D}(ho : s.heap.get? a = some (seqObj "list" vs.toArray n))(hz : vs.length ≤ sizeLine)
    (hl : vs.length = ds.length)(r : ∀ (i : Nat) u d, vs[i]? = some u → ds[i]? = some d → RH (((s.heap.update a (Obj.mapSeq fun _ => #[])).push (seqObj "tuple" vs.toArray 0)).push (seqObj "list" #[] 0)) u d)
    (pl : ∀ d ∈ ds, Pl 40 d) (ca : CA 40 ds) (hk : Kd ds κ) (hu : A.units + 40 < cLine) (h64 : vs.length < 64)
    (fin : ∀ γ : Array Nat, γ.Perm (Array.range vs.length) → Sg (cD ds) γ 0 vs.length → P (.done (.ret .none)) { s with heap := sortedHeap s.heap a vs (cg vs γ) }) :
    wpAny (model prog w) A (Builtin.«list.sort» ⟨[.ref a], []⟩) P E s := by
  rw [list_sort_plain];have small := Ag ho;refine Aa (AM ho rfl (Aa (AH ho rfl ?_)));obtain ⟨ep, hE⟩ : ∃ ep, (s.heap.update a (Obj.mapSeq fun _ => #[])).get? a = some (seqObj "list" #[] ep) := ⟨_, Bm ho (fun _ => #[])⟩;refine Aa (B8 hE rfl (Aa (C7 (Aa (BG (Az ?_))))));have hE2 : (((s.heap.update a (Obj.mapSeq fun _ => #[])).push (seqObj "tuple" vs.toArray 0)).push (seqObj "list" #[] 0)).get? a = some (seqObj "list" #[] ep) :=
    Ab _ (Ab _ hE)
  generalize hH : ((s.heap.update a (Obj.mapSeq fun _ => #[])).push (seqObj "tuple" vs.toArray 0)).push (seqObj "list" #[] 0) = h6 at r hE2;show wpAny (model prog w) A _ P E { s with heap := h6 };dsimp only;have hsz : vs.toArray.size = vs.length := by simp
  have zs : ∀ γ : Array Nat, γ.Perm (Array.range vs.length) → (cg vs γ).size ≤ sizeLine + 1 := fun γ p => by
    unfold cg;rw [De, p.size_eq, Array.size_range]; lia
  have done : ∀ γ : Array Nat, γ.Perm (Array.range vs.length) → Sg (cD ds) γ 0 vs.length → P (.done (.ret .none)) { s with heap := h6.update a (Obj.mapSeq fun _ => cg vs γ) } := fun γ p g => by
    have := fin γ p g;unfold sortedHeap at this;rw [<-hH]; exact this
  have e0 : vs.toArray.zip vs.toArray = (Array.range vs.length).map fun g => (vs.getD g .none, vs.getD g .none) := by
    apply Array.ext_getElem?
    intro i;rw [Cz, Bl];by_cases hi : i < vs.length
    · rw [if_pos hi]; simp [hi]
    · rw [Ah hi]; simp [hi]
  by_cases few : vs.toArray.size < 2
  · rw [if_pos few, if_pos few]
    refine Aa (Ac ?_);rw [StateT.run_pure];refine Aa (Ac ?_);dsimp only;have em : (vs.toArray.zip vs.toArray).map (fun x => x.2) = cg vs (Array.range vs.length) := by
      rw [e0, Ci]; rfl
    refine Aa (B8 hE2 rfl (Aa (AH hE2 rfl ?_ (hsz2 := ?_))))
    · simp only [CF, Bw, if_false]
      refine Ac ?_;rw [em];exact done _ (Array.Perm.refl _) fun i j g h z1 z2 z3 => by lia
    · rw [em]; exact zs _ (Array.Perm.refl _)
  · rw [Ah few, Ah few]
    have hne : vs ≠ [] := fun z => few (by rw [z]; decide)
    refine Aa (QX (s := { s with heap := h6 }) hne hl r hk ?_);have C : Cm prog w A { s with heap := h6 } κ (fun g => (vs.getD g .none, vs.getD g .none)) vs.length (cD ds) := JY (s := { s with heap := h6 }) hl r pl ca hk hu
    refine Aa (At (yV h64 (st := SortSt.mk' κ (vs.toArray.zip vs.toArray) #[] 7 none) C (γ := Array.range vs.length) ⟨e0, rfl, rfl, Array.Perm.refl _⟩ rfl (fun i _ z => by rw [Bl, if_pos z])
      (Q := fun _ zW => ∃ γ, Rp κ (fun g => (vs.getD g .none, vs.getD g .none)) vs.length zW γ ∧ Sg (cD ds) γ 0 vs.length) fun zW γ' R g => ⟨γ', R, g⟩) ?_ fun _ _ e => e)
    rintro ⟨⟨⟩, zW⟩ s' ⟨rfl, γ, R, g⟩;dsimp only;have em : (arrOf zW).map (fun x => x.2) = cg vs γ := by
      rw [R.arr, Ci]; rfl
    refine Aa (B8 hE2 rfl (Aa (AH hE2 rfl ?_ (hsz2 := ?_))))
    · rw [show failedOf zW = none from R.fine]
      simp only [CF, Bw, if_false];refine Ac ?_;show P (.done (.ret .none)) { s with heap := h6.update a (Obj.mapSeq fun _ => (arrOf zW).map (fun x => x.2)) };rw [em];exact done γ R.perm g
    · show ((arrOf zW).map (fun x => x.2)).size ≤ sizeLine + 1
      rw [em]; exact zs γ R.perm
end
end VF
namespace VF
open L2 PyProof.Rows TS
section
variable {prog:Program}{w:World}{A:Around}{E:Value->Shared->Prop}{s:Shared}
def vK{l:Addr}{vs:List Value}{Q:List Value->Shared->Prop}(hl:s.heap.IsList l vs.toArray\/s.heap.IsTuple l vs.toArray)(hz:vs.length<=sizeLine)
  (q:Q vs { s with heap:=(s.heap.push (seqObj "list" #[] 0)).update s.heap.objs.size (Obj.mapSeq (·++vs.toArray)) }):wpAny (model prog w) A (collect (.ref l)) Q E s:=by
 rcases hl with hl|hl
 ·exact collect_list hl q hz
 obtain⟨o,ho,hc,m,hd⟩:=id hl;have kept:=Ab (seqObj "list" #[] 0) ho;have new:(s.heap.push (seqObj "list" #[] 0)).get? s.heap.objs.size=some (seqObj "list" #[] 0):=Ae _ rfl;unfold collect;refine Aa (wpAny_runValue (codeAny_builtin entry_proto_collect' ?_));refine Aa (BG (Ac ⟨Code.quiet_builtin _ (by decide +kernel),codeAny_builtin entry_list_iadd' ?_⟩))
 show wpAny _ _ (Builtin.List.listExtendWith (.ref s.heap.objs.size) (.ref l) (.ref s.heap.objs.size)) _ _ { s with heap:=s.heap.push (seqObj "list" #[] 0) };unfold Builtin.List.listExtendWith;refine Aa (AD (T:="tuple") ⟨o,kept,hc⟩ ?_);rw[if_pos (by rw[show(Value.type "tuple" == Value.type "tuple")=true from rfl,Bool.or_true])]
 refine Aa (AM kept hd (Aa (AM new rfl ?_)));rw[Ah (by simp)]
 have room:((#[]:Array Value)++vs.toArray).size<=sizeLine+1:=by
  rw[Array.size_append,Vb];simp;lia
 refine Aa (AH new rfl ?_ (Xi _) room);refine Ac ?_;have at':=Bm new (fun x=>x++vs.toArray);refine Aa (wpAny_load at' ?_);show wpAny _ _ (pure ((#[]:Array Value)++vs.toArray).toList) Q E _;have e:((#[]:Array Value)++vs.toArray).toList=vs:=by simp
 rw[e];exact Ac q
def vL{l:Addr}{vs:List Value}{ds:List D}{κ:SortKind}{Q:Value->Shared->Prop}(hl:s.heap.IsList l vs.toArray\/s.heap.IsTuple l vs.toArray)(hz:vs.length<=sizeLine)
  (hn:vs.length=ds.length)(r:∀(i:Nat) u d,vs[i]?=some u->ds[i]?=some d->RH s.heap u d)(pl:∀d∈ds,Pl 40 d)(ca:CA 40 ds)(hk:Kd ds κ)(hu:A.units+64<cLine)(h64:vs.length<64)
  (fin:∀γ:Array Nat,γ.Perm (Array.range vs.length)->Sg (cD ds) γ 0 vs.length->Q (.ref (s.heap.objs.size+1)) { s with heap:=sortedAll s.heap vs (cg vs γ) }) :
  wpAny (model prog w) A (call (.builtin "sorted") [.ref l]) Q E s:=by
 refine Calls.call_function_entry kind_sorted plain_sorted entry_sorted (args_sorted1 _) ?_;refine Aa (m:=checkCount "sorted" 1 1 _) (Ac (Aa (vK hl hz (Aa (BG ?_)))));generalize hg:(s.heap.push (seqObj "list" #[] 0)).update s.heap.objs.size (Obj.mapSeq (·++vs.toArray))=h1;have z1:h1.objs.size=s.heap.objs.size+1:=by rw[<-hg,C0,size_push']
 have old:∀b o,s.heap.get? b=some o->h1.get? b=some o:=fun b o e=>by
  rw[<-hg];exact(Ax _ _ _ _ (Qf (Ag e))).trans (Ab _ e)
 have mine:(h1.push (seqObj "list" vs.toArray 0)).get? (s.heap.objs.size+1)=some (seqObj "list" vs.toArray 0):=by rw[<-z1];exact Ae _ rfl
 show wpAny _ _ _ _ _ { s with heap:=h1.push (seqObj "list" vs.toArray 0) };rw[z1];refine Aa (Az (Ar slot_list_sort ⟨_,mine,rfl⟩ entry_list_sort ?_ (args_list_sort _)));refine Ef (s:={ s with heap:=h1.push (seqObj "list" vs.toArray 0) }) mine hz hn (fun i u d e1 e2=>(r i u d e1 e2).kept fun b o e=>?_) pl ca hk (by show A.units+1+1+40<cLine;lia) h64 fun γ p g=>?_
 ·have hb:=Ag e;refine Ab _ (Ab _ ?_);have hne:b≠s.heap.objs.size+1:=Qf (BD hb);exact(Ax _ _ _ _ hne).trans (Ab _ (old b o e))
 ·refine⟨_,rfl,Ac ⟨_,rfl,?_⟩⟩;have:=fin γ p g;unfold sortedAll at this;rw[hg]at this;exact this
end
def Ol{ds:List D}{γ:Array Nat}(ca:CA 40 ds)(p:γ.Perm (Array.range ds.length))(g:Sg (cD ds) γ 0 ds.length):(γ.toList.map (dk ds))=gO 40 ds:=by
 have hsz:γ.size=ds.length:=by rw[p.size_eq,Qj]
 refine l7 ca ?_ ?_
 ·have p1:(γ.toList.map (dk ds)).Perm ((List.range ds.length).map (dk ds)):=by
   have:=Vh.mp p;rw[Qm]at this;exact this.map _
  have e:(List.range ds.length).map (dk ds)=ds:=by
   refine Be (by simp) fun i h1 h2=>?_
   rw[Bc,Cu,qG (Ya h2)]
  rwa [e]at p1
 ·unfold Og;rw[CH,Df];intro i j hi hj hij;rw[Zf]at hi hj;have b:=g i j γ.toList[i] γ.toList[j] (Xi _) hij (by lia) (by rw[<-AI];exact Ya _) (by rw[<-AI];exact Ya _)
  rcases b with b|b
  ·exact t7 _ _ _ b
  ·exact b.1
section
variable {X:Cx}{K:W.Frag}{Y:AS}{H:Hp}
def GO(K:W.Frag):List V->Hp->VK->Prop:=fun xs H Q=>∃(Y:AS)(v:V)(d:D)(ds:List D)(κ:SortKind),xs=[v]/\BA K Y H v d/\d.seq=some ds/\(∀x∈ds,Pl 40 x)/\CA 40 ds/\Kd ds κ/\ds.length<64 /\
 ∀(p:Addr)(vs:List V),H p=none->El K Y H vs (gO 40 ds)->Q (.ref p) (upd H p (.lst vs))
def cJ{n:Nat}(h:X.K=K)(hr:Room n X.A):CallR X (.builtin "sorted") (GO K):=by
 intro z9 s σ H xs us Q I rv hh;obtain⟨Y,v,d,ds,κ,rfl,ba,hs,pl,ca,hk,h64,q⟩:=hh;obtain⟨u,rfl,ru⟩:=vals1 rv;obtain⟨a,vs,rfl,sq,el⟩:=qw ba hs;cases ru;have main:∀its:List Value,Vals vs its->(s.heap.IsList a its.toArray\/s.heap.IsTuple a its.toArray)->vs.length<=sizeLine->wpAny (model X.prog X.w) X.A (call (.builtin "sorted") [.ref a]) (EP X z9 σ Q) X.xe s:=fun its r t hz=>by
  have hn:its.length=ds.length:=r.length.symm.trans el.1;have rr:∀(i:Nat) u d,its[i]?=some u->ds[i]?=some d->RH s.heap u d:=fun i u d e1 e2=>by
   obtain⟨v,e3,rv⟩:=dZ r i u e1;exact(el.2 i v d e3 e2).rh (pl d (Wc e2)) I h rv
  have hz':its.length<=sizeLine:=by rw[<-r.length];exact hz
  refine vL t hz' hn rr pl ca hk hr.units (by lia) fun γ p g=>?_
  rw[hn]at p g;obtain⟨e,he⟩:=sortedAll_at s.heap its (cg its γ);have hγ:∀g∈γ.toList,g<ds.length:=fun g hg=>by
   have:=(Vh.mp p).mem_iff.mp hg;rw[Qm]at this;exact Vi.mp this
  have eo:=Ol ca p g
  let ws:List V:=γ.toList.map fun g=>vs.getD g .non
  have vw:Vals ws (cg its γ).toList:=by
   have e2:(cg its γ).toList=γ.toList.map fun g=>its.getD g .none:=by unfold cg;simp
   rw[e2];have:∀l:List Nat,(∀g∈l,g<ds.length)->Vals (l.map fun g=>vs.getD g .non) (l.map fun g=>its.getD g .none):=fun l=>by
    induction l with
    |nil=>exact fun _=>.nil
    |cons g l ih=>
     intro hl;have hg:g<ds.length:=hl g Va;have a1:its[g]?=some its[g]:=Ya (by lia)
     obtain⟨v,e3,rv⟩:=dZ r g _ a1;refine .cons ?_ (ih fun x hx=>hl x (Wa _ hx));show RelV (vs.getD g .non) (its.getD g .none);rw[Yc,Yc,e3,a1];exact rv
   exact this _ hγ
  have elw:El K Y H ws (gO 40 ds):=by
   rw[<-eo];refine⟨by simp[ws],fun i v d h1 h2=>?_⟩
   rw[Ve]at h1 h2;obtain⟨g1,k1,k2⟩:=Qe.mp h1;obtain⟨g2,k3,k4⟩:=Qe.mp h2;rw[k1]at k3;cases k3;have hg:g1<ds.length:=hγ g1 (Wc k1);have d1:ds[g1]?=some ds[g1]:=Ya hg;obtain⟨v',e3,da⟩:=el.at d1;rw[qG d1]at k4;rw[Yc,e3]at k2;subst k4;have:v'=v:=k2;subst this;exact da
  have hlw:ws.length=ds.length:=by
   show(γ.toList.map _).length=_;rw[Za,Zf,p.size_eq,Qj]
  refine⟨.ref (s.heap.objs.size+1),upd H (s.heap.objs.size+1) (.lst ws),I.laid (t':=s.toks) (fun b o z=>sortedAll_old z) (Bj _) ⟨by lia,(cg its γ).toList,e,vw,by simpa using he⟩,rfl,q _ ws (I.hok.fresh (Bj _)) elw⟩
 rcases sq with sq|sq
 ·obtain⟨its,r,t,hz⟩:=I.list (h ▸ sq);exact main its r (.inl t.isList) hz
 ·obtain⟨its,r,t,hz⟩:=I.tuple (h ▸ sq);exact main its r (.inr t) hz
open Classical in
noncomputable def cQ:List D->Option Rz
 | [d]=>match d.seq with|some ds=>if (∀x∈ds,Pl 40 x)/\CA 40 ds/\(∃κ,Kd ds κ)/\ds.length<64 then some (.lst (gO 40 ds),true) else none|none=>none
 |_=>none
theorem GP:RdCB K (GO K) cQ:=by
 intro Y H xs ds z Q lv bs e q;cases bs with
 |nil=>cases e
 |@cons v vs d ds b1 bs=>
  cases bs with
  |cons _ _=>cases e
  |nil=>
   unfold cQ at e;dsimp only at e;split at e
   ·rename_i xs hs
    obtain⟨c,e⟩:=aH e;cases e;obtain⟨c1,c2,⟨κ,c3⟩,c4⟩:=c;exact⟨Y,v,d,xs,κ,rfl,b1,hs,c1,c2,c3,c4,fun p ws hp el=>q _ _ (aY hp _) (iA el hp)⟩
   ·cases e
end
end VF
namespace VF22
open PySem.Spec PyProof.Rows L2 VF
def keyD:D->Option Key|.int i=>some (.inl i)|.str x=>some (.inr x)|_=>none
section
variable {κ:Type}[DecidableEq κ]
def jc(zX:List (κ×D))(k:κ):Option D:=(zX.find? fun kv=>decide (kv.1=k)).map (·.2)
def pw(zX:List (κ×D))(k:κ)(d:D):List (κ×D):=if (zX.any fun kv=>decide (kv.1=k))=true then zX.map (fun kv=>if kv.1=k then(kv.1,d) else kv) else zX++[(k,d)]
def Go(R:V->D->Prop)(zX:List (κ×V))(ds:List (κ×D)):Prop:=zX.map (·.1)=ds.map (·.1)/\∀(i:Nat) v d,zX[i]?=some v->ds[i]?=some d->R v.2 d.2
def Go.nil:Go R ([]:List (κ×V)) []:=⟨rfl,fun i v d h _=>by simp at h⟩
def Go.cons(h1:p.1=q.1)(h2:R p.2 q.2)(t:Go R zX ds):Go R (p::zX) (q::ds):=by grind [Go]
def Go.un(h:Go R (p::zX) (q::ds)):p.1=q.1/\R p.2 q.2/\Go R zX ds:=by
 obtain⟨h1,h2⟩:=h;rw[Qd,Qd]at h1;injection h1 with a b;exact⟨a,h2 0 p q rfl rfl,b,fun i v d x y=>h2 (i+1) v d x y⟩
theorem Go.look:∀{zX:List (κ×V)}{ds:List (κ×D)}(k:κ),Go R zX ds->(lK zX k=none/\jc ds k=none)\/∃v d,lK zX k=some v/\jc ds k=some d/\R v d
 |[],[],_,_=>.inl ⟨rfl,rfl⟩
 |[],_::_,_,h=>by have:=h.1;simp at this
 |_::_,[],_,h=>by have:=h.1;simp at this
 | p::ps,q::qs,k,h=>by
  obtain⟨h1,h2,h3⟩:=h.un;by_cases e:p.1=k
  ·refine .inr ⟨p.2,q.2,ku e,?_,h2⟩;simp[jc,Qi,h1.symm.trans e]
  ·have e':¬ q.1=k:=fun z=>e (h1.trans z);rw[kw e,show jc (q::qs) k=jc qs k by simp[jc,Qi,e']]
   exact h3.look k
theorem Go.any{zX:List (κ×V)}{ds:List (κ×D)}(h:Go R zX ds)(k:κ):(zX.any fun kv=>decide (kv.1=k))=ds.any fun kv=>decide (kv.1=k):=by
 have a:∀l:List (κ×V),(l.any fun kv=>decide (kv.1=k))=(l.map (·.1)).any fun x=>decide (x=k):=fun l=>by rw[Ds];rfl
 rw[a,h.1,Ds];rfl
theorem Go.repl(k:κ)(r:R y d):∀{zX:List (κ×V)}{ds:List (κ×D)},Go R zX ds->Go R (zX.map fun kv=>if kv.1=k then(kv.1,y) else kv) (ds.map fun kv=>if kv.1=k then(kv.1,d) else kv)
 |[],[],_=>Go.nil
 |[],_::_,h=>by have:=h.1;simp at this
 |_::_,[],h=>by have:=h.1;simp at this
 | p::ps,q::qs,h=>by
  obtain⟨h1,h2,h3⟩:=h.un;rw[Qd,Qd];by_cases e:p.1=k
  ·rw[if_pos e,if_pos (h1.symm.trans e)];exact Go.cons h1 r (h3.repl k r)
  ·rw[Ah e,Ah fun z=>e (h1.trans z)];exact Go.cons h1 h2 (h3.repl k r)
theorem Go.snoc(k:κ)(r:R y d):∀{zX:List (κ×V)}{ds:List (κ×D)},Go R zX ds->Go R (zX++[(k,y)]) (ds++[(k,d)])
 |[],[],_=>Go.cons rfl r Go.nil
 |[],_::_,h=>by have:=h.1;simp at this
 |_::_,[],h=>by have:=h.1;simp at this
 | p::ps,q::qs,h=>by
  obtain⟨h1,h2,h3⟩:=h.un;exact Go.cons h1 h2 (h3.snoc k r)
def Go.put(k:κ)(h:Go R zX ds)(r:R y d):Go R (putK zX k y) (pw ds k d):=by
 unfold putK pw;rw[h.any k];split
 ·exact h.repl k r
 ·exact h.snoc k r
def Go.len{zX:List (κ×V)}{ds:List (κ×D)}(h:Go R zX ds):zX.length=ds.length:=by
 have:=congrArg List.length h.1;rwa [Za,Za]at this
def Go.map(h:Go R zX ds)(f:∀v d,R v d->S v d):Go S zX ds:=⟨h.1,fun i v d a b=>f _ _ (h.2 i v d a b)⟩
end
section
variable {K:W.Frag}{Y:AS}{H:Hp}
theorem Ma(h:BA K Y H v d)(e:keyD d=some k):v=kV k:=by
 cases d with|int i=>cases e;exact h|str x=>cases e;exact h|_=>cases e
def Te:D->D->Option (Option D)|.dk zX,d=>(keyD d).bind fun k=>some (jc zX k)|_,_=>none
theorem QY(b1:BA K Y H x d1)(b2:BA K Y H y d2)(e:Te d1 d2=some o):∃(a:Addr)(r:Option V),x=.ref a/\DGet H a y r/\((r=none/\o=none)\/∃v d,r=some v/\o=some d/\DA K Y H v d):=by
 cases d1 with
 |dk zX=>
  refine bO e fun k e1 e=>?_;cases e;obtain⟨a,kv,rfl,h1,h2,h3⟩:=b1;have:=Ma b2 e1;subst this;exact⟨a,_,rfl,DGet.k h1,Go.look k ⟨h2,h3⟩⟩
 |_=>cases e
def T3:R2:=fun x y H Q=>∃a v,x=.ref a/\DGet H a y (some v)/\Q v H
def za:D->D->Option Rz:=fun d1 d2=>(Te d1 d2).bind fun o=>o.bind fun d=>some (d,false)
def JZ:RdOp K T3 za:=by
 intro Y H x y d1 d2 z Q lv b1 b2 e q;refine bO e fun o e1 e=>?_;obtain⟨d,rfl,e⟩:=Zm.mp e;cases e;obtain⟨a,r,rfl,g,h|⟨v,d',rfl,h2,da⟩⟩:=QY b1 b2 e1
 ·cases h.2
 ·cases h2;exact⟨a,v,rfl,g,q v H (Same.refl H) da⟩
def QZ(neg:Bool):R2:=fun y x H Q=>∃(a:Addr)(o:Option V),x=.ref a/\DGet H a y o/\Q (.bl (if neg then !o.isSome else o.isSome)) H
def Q0(neg:Bool):D->D->Option Rz:=fun d2 d1=>(Te d1 d2).bind fun o=>some (.bl (if neg then !o.isSome else o.isSome),false)
def Om(neg:Bool):RdOp K (QZ neg) (Q0 neg):=by
 intro Y H y x d2 d1 z Q lv b2 b1 e q;refine bO e fun o e1 e=>?_;cases e;obtain⟨a,r,rfl,g,h⟩:=QY b1 b2 e1;refine⟨a,r,rfl,g,?_⟩;have:r.isSome=o.isSome:=by
  rcases h with⟨rfl,rfl⟩|⟨v,d,rfl,rfl,_⟩<;>rfl
 rw[this];exact q _ H (Same.refl H) (.bl _)
def Mb:IW:=fun x k v H Q=>∃a,x=.ref a/\P7 H a k v Q
def sR:D->D->D->Option D|.dk zX,d,v=>(keyD d).bind fun k=>if zX.length<100000 then some (.dk (pw zX k v)) else none|_,_,_=>none
def Eg:Fu K Mb sR:=by
 intro Y H p x k v dk dv x' Q hp ho bk da e q;have lim:(100000:Nat)<=sizeLine:=by rw[Bi];decide
 cases x with
 |dk zX=>
  refine bO e fun kk e1 e=>?_;by_cases c:zX.length<100000
  ·rw[if_pos c]at e;cases e;obtain⟨kv,h1,h2,h3⟩:=ho;have:=Ma bk e1;subst this;have g:Go (DA K Y H) kv zX:=⟨h2,h3⟩;refine⟨p,rfl,.inl ⟨kv,kk,h1,rfl,by have:=g.len;lia,q _ ?_⟩⟩
   have g':=(g.put kk da).map (S:=DA K Y (upd H p (.dK (putK kv kk v)))) fun v d h=>h.upd hp;exact⟨_,aQ,g'.1,g'.2⟩
  ·rw[Ah c]at e;cases e
 |_=>cases e
def zc(d:D):FE:=fun st=>some (.f d,st)
def GQ:dU K E9 (zc (.dk [])):=by
 intro st σ H O Z Q E r zW h q;cases h;intro p hp;have hres:RES K (U O Z) H (upd H p (.dK [])) (.ref p) (.dk [],true):=⟨p,rfl,hp,[],aQ,rfl,fun i v d a _=>by simp at a⟩
 obtain⟨E3,rv⟩:=hres.rv E (aY hp _);exact q _ _ O (Same.ext (aY hp _)) (Kp.refl _) E3 rv fun p' e=>by cases e;exact hp
end
section
variable {X:Cx}
def vM(hu:X.A.units+1<cLine)(ho:PE X o td)(hi:PE X i ty)(hs:I0 i):PE X (.Subscript o i pos) (EO T3 td ty):=I8 hu ho hi hs
def On(hu:X.A.units+1<cLine):OpR X (compareOp .In) (QZ false):=by
 intro z9 s σ H y x v u Q I ry rx h;obtain⟨a,o,rfl,g,q⟩:=h;cases rx;exact S5 hu I g ry fun s' I'=>⟨.bl o.isSome,H,I',rfl,q⟩
def lA(hu:X.A.units+1<cLine):ME X Mb:=by
 intro z9 s σ H o i v ov iv u Q I ro ri rv h;obtain⟨a,rfl,g⟩:=h;cases ro;exact DM hu I g ri rv fun s' H' I' q=>⟨H',I',q⟩
end
end VF22
namespace VF22
open PySem.Spec PyProof.Rows L2 VF
section
variable {X:Cx}{K:W.Frag}{O O' Z:AS}{H H':Hp}{tg:Expr}
def J0:Key->D|.inl i=>.int i|.inr x=>.str x
theorem Op(k:Key):DA K Y H (kV k) (J0 k):=by
 cases k with|inl i=>exact .int i|inr x=>exact .str x
end
end VF22
namespace VF22
open PySem.Spec PyProof.Rows L2 VF
section
variable {X:Cx}{K:W.Frag}
@[irreducible] def Oq(X:Cx)(es:List Expr)(t:TA):Prop:=PA X es t
def J1:Oq X [] rN:=by unfold Oq;exact ac
def vN(ha:PE X e te)(hr:Oq X es t)(h:ky e=true):Oq X (e::es) (gH te t):=by
 unfold Oq at *;exact aj ha hr h
def J2(h:Oq X es t):PE X (.List es pos) (MN t):=by
 unfold Oq at h;exact br h
end
end VF22
namespace VF
open L2 PySem.Spec PyProof.Rows
section
variable {X:Cx}{K:W.Frag}
def GR(K:W.Frag):V->List V->Hp->VK->Prop:=fun x vs H Q=>∃(p:Addr)(ys:List Str)(b:Str),x=.ref p/\vs=[.str b]/\ii K H p (ys.map V.str)/\b∈ys/\Q (.int (ys.idxOf b:Nat)) H
def GU(h:X.K=K):Px X "list.index" (GR K):=by
 intro z9 s σ H x vs v us Q I rx rv hh;obtain⟨p,ys,b,rfl,rfl,sq,hb,q⟩:=hh;subst h;cases rx;obtain⟨u,rfl,ru⟩:=vals1 rv;obtain⟨t,rfl⟩:=ru;obtain⟨its,r,pl,hz⟩:=I.list sq;obtain⟨o,n,e,hc,hd,hs⟩:=id pl;have hlen:its.length=ys.length:=by have:=r.length;simpa using this.symm
 have hj:ys.idxOf b<ys.length:=List.idxOf_lt_length_iff.mpr hb;obtain⟨cls,dd,data,sl⟩:=o;simp only at hc hs;subst hc hs;have itAt:∀(i:Nat) v,its[i]?=some v->∃y t',ys[i]?=some y/\v=.str y t':=fun i v hv=>by
  obtain⟨w,e1,rw'⟩:=dZ r i v hv;rw[Ve]at e1;obtain⟨y,e2,rfl⟩:=Qe.mp e1;obtain⟨t',rfl⟩:=rw';exact⟨y,t',e2,rfl⟩
 have hyl:ys.length<=2 ^ 24:=by rw[Za]at hz;exact hz
 let is:Value->Bool:=fun v=>match v with|.str y _=>y == b|_=>false
 refine AX PySem.F.slot_list_index ⟨_,e,rfl⟩ PySem.F.entry_list_index (PySem.F.args_list_index_2 _ _)
  (SeqAt.list_indexAt p its.toArray n dd sl (.str b t) is (ys.idxOf b) (by simpa[hlen]using hj) (by lia) ?_ ?_) ⟨e,fun y hy=>?_,?_⟩
 ·have hv:its[ys.idxOf b]?=some its[ys.idxOf b]:=Ya (by lia)
  obtain⟨y,t',e1,e2⟩:=itAt _ _ hv;show is its[ys.idxOf b]=true;rw[e2];have:y=b:=by
   rw[Ya hj]at e1;have:=Option.some.inj e1;rw[<-this];exact List.getElem_idxOf hj
  show(y == b)=true;rw[this];simp
 ·intro m hm hlt;have hm':m<its.length:=by simpa using hm
  have hv:its[m]?=some its[m]:=Ya hm';obtain⟨y,t',e1,e2⟩:=itAt _ _ hv;show is its[m]=false;rw[e2];show(y == b)=false;have hmy:m<ys.length:=by lia
  have:=List.not_of_lt_findIdx (p:=(· == b)) (xs:=ys) (i:=m) hlt;rw[Ya hmy]at e1;rw[<-Option.some.inj e1];simpa using this
 ·obtain⟨i,hi⟩:=Xl (show y∈its by simpa using hy)
  obtain⟨z,t',_,rfl⟩:=itAt i y hi;exact Cq _ _ _ _
 ·exact⟨.int _,H,I.tok _,⟨_,rfl⟩,q⟩
def bIndex:D->List D->Option Rz|.lst ds,[.str b]=>(fD ds).bind fun ys=>if b∈ys then some (.int (ys.idxOf b:Nat),false) else none|_,_=>none
theorem vO:D1 K (GR K) bIndex:=by
 intro Y H x xs d ds z Q lv b1 bs e q;cases d with
 |lst es=>
  cases bs with
  |nil=>cases e
  |@cons v vs d ds b2 bs=>
   cases bs with
   |cons _ _=>cases d<;>cases e
   |nil=>
    cases d with
    |str b=>
     refine bO e fun ys e1 e=>?_;obtain⟨c,e⟩:=aH e;cases e;obtain⟨p,ws,rfl,hp,el⟩:=b1;obtain rfl:=i9 el e1;exact⟨p,ys,b,rfl,by rw[show v=V.str b from b2],.inl (.inl hp),c,q _ H (Same.refl H) (.int _)⟩
    |_=>cases e
 |_=>cases e
def nR(x y:Str):Bool:=decide (x.cps.toList<y.cps.toList)
def zd(ys:List Str):Nat:=argBest (fun i j=>nR (ys.getD i Str.empty) (ys.getD j Str.empty)) (ys.length-1)
def je(ys:List Str):Str:=ys.getD (zd ys) Str.empty
def Mc(K:W.Frag):List V->Hp->VK->Prop:=fun xs H Q=>∃(p:Addr)(ys:List Str),xs=[.ref p]/\ii K H p (ys.map V.str)/\ys≠[]/\Q (.str (je ys)) H
def Eh(h:X.K=K)(hc:X.calm=true):CallR X (.builtin "min") (Mc K):=by
 intro z9 s σ H xs us Q I rv hh;obtain⟨p,ys,rfl,sq,hne,q⟩:=hh;subst h;obtain⟨u,rfl,ru⟩:=vals1 rv;cases ru;obtain⟨its,r,pl,hz⟩:=I.list sq;have hlen:its.length=ys.length:=by have:=r.length;simpa using this.symm
 obtain⟨op,np,ep,cp,dp,sp⟩:=id pl;have hpn:p≠s.heap.objs.size:=Qf (Ag ep);have hpos:=Xm.mpr hne;have itAt:∀(i:Nat) v,its.toArray[i]?=some v->∃t',v=.str (ys.getD i Str.empty) t':=fun i v hv=>by
  obtain⟨w,e1,rw'⟩:=dZ r i v (by simpa using hv)
  rw[Ve]at e1;obtain⟨y,e2,rfl⟩:=Qe.mp e1;obtain⟨t',rfl⟩:=rw';exact⟨t',by rw[Yc,e2];rfl⟩
 refine bz (call_min_walk (Bz pl.isList ?_));refine⟨s.heap.objs.size,_,_,_,_,_,fun i j=>nR (ys.getD i Str.empty) (ys.getD j Str.empty),rfl,Walks.list (show X.A.in1.handled=none from I.ok.hd hc) s.heap.objs.size p hpn its.toArray,⟨⟨_,Ae _ rfl,rfl,rfl⟩,⟨op,Ab _ ep,cp,np,sp⟩⟩,fun b hb=>?_,by rw[Vb];lia,?_,fun v h' tk hv kp hle=>?_⟩
 ·show b<(s.heap.push _).objs.size;rw[AC];rcases Wd.mp hb with rfl|hb
  ·exact AN _
  ·obtain rfl:=Zd.mp hb;exact BD (Ag ep)
 ·intro i j vi vj s' Q' E' hi hj hq;obtain⟨t1,rfl⟩:=itAt i vi hi;obtain⟨t2,rfl⟩:=itAt j vj hj;exact PyProof.Rows.lt_str hq
 ·obtain⟨t',rfl⟩:=itAt _ v hv;rw[Vb,hlen];refine⟨.str _,H,I.kept (t':=tk) (fun b o e=>?_) (I.tkl' hle),⟨t',rfl⟩,q⟩;refine kp b o (fun hm=>?_) (Ab _ e);have:=Ag e;obtain rfl:=Zd.mp hm;exact Wi _ this
def GW:List D->Option Rz|[.lst ds]=>(fD ds).bind fun ys=>if ys=[] then none else some (.str (je ys),false)|_=>none
theorem Ka:RdCB K (Mc K) GW:=by
 intro Y H xs ds z Q lv bs e q;cases bs with
 |nil=>cases e
 |@cons v vs d ds c1 bs=>
  cases bs with
  |cons _ _=>cases d<;>cases e
  |nil=>
   cases d with
   |lst es=>
    refine bO e fun ys e1 e=>?_;by_cases c:ys=[]
    ·simp only[if_pos c]at e;cases e
    ·simp only[Ah c]at e;cases e;obtain⟨p,ws,rfl,hp,el⟩:=c1;obtain rfl:=i9 el e1;exact⟨p,ys,rfl,.inl (.inl hp),c,q _ H (Same.refl H) (.str _)⟩
   |_=>cases e
end
end VF
namespace VF
open PySem.Spec PyProof.Rows L2
def gl{N P:List Str}{sc:Scope}(h:N.Nodup/\(∀x∈P,sc.names.lookup x=some .local\/sc.names.lookup x=some .cell)/\∀y∈sc.names,y.2≠.free)(a:sc.kind=.function:=by rfl)(b:sc.isCoroutine=false:=by rfl)(c:sc.isGenerator=false:=by rfl)(d:N.take P.length=P:=by rfl):FnScope N P sc:=⟨a,b,c,h.1,d,h.2.1,h.2.2⟩
structure FH(K:W.Frag)(x:Str)(st:Stmt):Prop where
 ex:∃f fd,Fun K x x st f fd/\W.nsIn K mainGlobals x=some (some (.ref f))
def fh{K:W.Frag}{x:Str}{st:Stmt}{f:Addr}{oc:Value}{od an:Option Addr}{osl:Array (Option Value)}{kV doc pm cdv ct:Value}(a:W.nsIn K mainGlobals x=some (some (.ref f)))
  (l:K.lookup f=some ⟨oc,od,.func (W.fnOf x x (fI st) (dJ st) (ai st) .none kV doc pm an cdv ct),osl⟩)(c:W.codeIn K cdv x=true)(k:W.keepIn K (.ref f)=true):FH K x st:=⟨f,_,M5 l c k,a⟩
def Bn(x:Str)(st:Stmt)(ps:List Str):Prop:=∀(kV doc pm:Value)(an:Option Addr)(cdv ct:Value)(us:List Value),us.length=ps.length->bindArgs (W.fnOf x x (fI st) (dJ st) (ai st) .none kV doc pm an cdv ct) ⟨us,[]⟩=pure (ps.zip us)
theorem T4{n:Nat}{P:List Value->Prop}{us:List Value}(hl:us.length=n+1)(h:∀a r,r.length=n->P (a::r)):P us:=by
 cases us with|nil=>cases hl|cons a r=>exact h a r (Nat.succ.inj hl)
def kG{P:List Value->Prop}(h:∀a,P [a])(us:List Value)(hl:us.length=1):P us:=T4 hl fun a r hr=>by
 rw[Xf hr];exact h a
def ze{P:List Value->Prop}(h:∀a b,P [a,b])(us:List Value)(hl:us.length=2):P us:=T4 hl fun a r hr=>kG (P:=fun r=>P (a::r)) (h a) r hr
section
variable {P:Program}{w:World}{K:W.Frag}{mg:Str->Option Value}{base h:Heap}{x:Str}{st:Stmt}{N ps:List Str}{k:Nat}{F:FS}
abbrev fv(P:Program)(w:World)(K:W.Frag)(mg:Str->Option Value)(base:Heap)(x:Str)(st:Stmt)(N:List Str)(k:Nat)(F:FS):Prop :=
 ∀{f:Addr}{cdv:Value}{A:Around}{outer:List Env}{s:Shared}{H:Hp}{E:XK},Room k (A.deeper (envOfC x (ai st) s.heap.objs.size f cdv))->∃t,PSs (uY u8 P w K mg base N x (ai st) f cdv A outer s H E).nox (dJ st) t/\qt K t F
def Tf(F':Fun K x x st f fd)(S:FnScope N ps (ai st))(hB:fv P w K mg base x st N k F):FnOk P w K mg base u8 (k+1) f fd ps (fB K (a8 F N.length ps.length)):=by
 refine F'.ok S (fun vs H Q E h=>Nr h) fun cdv A outer s H vs Q E hr h=>?_;obtain⟨t,h1,h2⟩:=hB hr;exact⟨t,h1,Jp h2 h⟩
def FH.cal(h':FH K x st)(X:K.In h)(G:h.Ns mainGlobals mg)(S:FnScope N ps (ai st))(hb:Bn x st ps)(hB:fv P w K mg base x st N k F):Cal P w K mg base x (k+1) ps (fB K (a8 F N.length ps.length)):=by
 obtain⟨f,fd,F',a⟩:=h'.ex;exact⟨f,fd,Tf F' S hB,W.mg_of X G a,F'.kp,F'.binds hb⟩
def FH.calI(h':FH K x st)(X:K.In h)(G:h.Ns mainGlobals mg)(S:FnScope N ps (ai st))(hb:Bn x st ps)(hB:fv P w K mg base x st N k F):Cal P w K mg base x (k+1) ps (lV K (dG F N.length ps.length)):=by
 obtain⟨f,fd,F',a⟩:=h'.ex;refine⟨f,fd,F'.ok S (fun vs H Q E h=>LR h) fun cdv A outer s H vs Q E hr h=>?_,W.mg_of X G a,F'.kp,F'.binds hb⟩;obtain⟨t,h1,h2⟩:=hB hr;exact⟨t,h1,sy h2 h⟩
theorem FH.calR{sp:Nat->Sp}(h':FH K x st)(X:K.In h)(G:h.Ns mainGlobals mg)(hb:Bn x st ps)(m:Nat)(h0:∀f fd,FnOk P w K mg base u8 0 f fd ps (sp 0))(h1:∀n,n<=m->Cal P w K mg base x n ps (sp n)->∀f fd,Fun K x x st f fd->FnOk P w K mg base u8 (n+1) f fd ps (sp (n+1))):∀n,n<=m+1->Cal P w K mg base x n ps (sp n):=by
 obtain⟨f,fd,F',a⟩:=h'.ex;intro n;induction n with|zero=>exact fun _=>⟨f,fd,h0 f fd,W.mg_of X G a,F'.kp,F'.binds hb⟩|succ n ih=>exact fun hn=>⟨f,fd,h1 n (Nat.le_of_succ_le_succ hn) (ih (Nat.le_of_succ_le hn)) f fd F',W.mg_of X G a,F'.kp,F'.binds hb⟩
def Kb:FnOk P w K mg base u8 0 f fd ps (fB K (cZ 0)):=by
 have no:∀vs H Q E,¬ fB K (cZ 0) vs H Q E:=fun vs H Q E h=>by
  obtain⟨Z,ds,z,el,lv,e,q⟩:=h;obtain⟨u,_,hd,_⟩:=sH e;cases hd
 exact⟨fun vs H Q E h=>absurd h (no vs H Q E),fun A outer s H args us vs Q E _ _ _ _ h=>absurd h (no vs H Q E)⟩
def FH.alike{F:(List D->Option Rz)->FS}(h':FH K x st)(X:K.In h)(G:h.Ns mainGlobals mg)(S:FnScope N ps (ai st))(hb:Bn x st ps)(m:Nat)(hv:∀n u,Dp (n+1) u->a8 (F (cZ n)) N.length ps.length [u,u]=some (.bl true,false))
  (hB:∀n g,n<=m->Cal P w K mg base x n ps (fB K g)->fv P w K mg base x st N n (F g)):∀n,n<=m+1->Cal P w K mg base x n ps (fB K (cZ n)) :=
 h'.calR X G hb m (fun _ _=>Kb) fun n hn c f fd F'=>(Tf F' S (hB n _ hn c)).imp fun vs H Q E hs=>by
  obtain⟨Z,ds,z,el,lv,e,q⟩:=hs;obtain⟨u,rfl,hd,rfl⟩:=sH e;exact⟨Z,[u,u],(.bl true,false),el,lv,hv n u hd,q⟩
theorem FH.law(h':FH K "law" st)(X:K.In h)(G:h.Ns mainGlobals mg)(hfa:mg "law"=some (.ref fa))(S:FnScope N ["_law_script"] (ai st))(hb:Bn "law" st ["_law_script"])(lv:∀ns:List Int,a8 F N.length 1 [.fl (ns.map D.int)]=some (.bl true,false))
  (hB:∀base:Heap,fv P w K mg base "law" st N k F):∃fd:FuncData,(∀(s:Shared)(v:Value),BindsTo s fd ⟨[v],[]⟩ [("_law_script",v)])/\∀base:Heap,K.In base->base.Ns mainGlobals mg->FnOk P w K mg base u8 (k+1) fa fd ["_law_script"] (yM K):=by
 obtain⟨f,fd,F',a⟩:=h'.ex;have e:=hfa.symm.trans (W.mg_of X G a);cases e;refine⟨fd,fun s v=>?_,fun base _ _=>(Tf F' S (hB base)).imp fun vs H Q E h=>?_⟩
 ·obtain⟨oc,od,kV,doc,pm,an,cdv,ct,osl,rfl,lk,hcd⟩:=F'.ex;exact .of_eq (hb kV doc pm an cdv ct [v] rfl)
 ·obtain⟨a,ns,rfl,sq,_,q⟩:=h;refine⟨fun _=>False,[.fl (ns.map D.int)],(.bl true,false),El.one (.fl (vs:=ns.map V.int) ?_ (by simp) fun i v d h1 h2=>?_),fun p z=>z.elim,lv ns,fun v H' _ r=>?_⟩
  ·rcases sq with s|s
   ·exact .inl ⟨s,fun z=>z⟩
   ·exact .inr fun H'=>.inr s
  ·rw[Ve]at h1 h2;obtain⟨c,e1,rfl⟩:=Qe.mp h1;rw[e1]at h2;obtain rfl:=Option.some.inj h2;exact .int _
  ·obtain rfl:=(show v=V.bl true from DA.ba (show DA K (fun _=>False) H' v (.bl true) from r));exact q H'
end
def walkZ{l:W.OpenLaw}{loose:List Str}{XP:(Str->Option Value)->Heap->Prop}{d:DefRec}{K:Params->W.Frag}{k:Nat}{as:List Addr}{sz t:Nat}(hn:l.most=some 63)(hdf:d.params.defaults=[])(hr:Room k callerA)(ht:0<t)(hK:∀P,as=(K P).map (·.1))
  (F:∀(w:World)(mg:Str->Option Value)(fa:Addr)(h:Heap),(K w.params).In h->h.Ns mainGlobals mg->mg d.name=some (.ref fa)->
   ∃fd:FuncData,(∀(s:Shared)(u:Value),BindsTo s fd ⟨[u],[]⟩ [("_law_script",u)])/\∀base:Heap,(K w.params).In base->base.Ns mainGlobals mg->FnOk l.prog w (K w.params) mg base u8 k fa fd ["_law_script"] (yM (K w.params))) :
  W.WalkX q loose XP (W.X.obsZ as) (W.X.valZ K sz t) l.row.toRowW d [] (fun f vs=>PySem.call f vs) :=
 L2.walk_of (n:=63) (k:=k) (x:="_law_script") (CX:=fun _=>u8) (sp:=fun w=>yM (K w.params)) hn (by decide) hdf hr ht hK F (fun _ _ a ns hl _ hS=>⟨a,ns,rfl,hS,hl,fun _=>rfl⟩) fun _ _ _ _ _ z=>z
end VF
namespace VF22
open PySem.Spec PyProof.Rows L2 VF TS
section
variable {X:Cx}{K:W.Frag}{Y:AS}{H:Hp}{s:Shared}{z9:List (Addr×Obj)}{σ:L2.St}
inductive GT(K:W.Frag):V->D->Prop where
 | int (i:Int):GT K (.int i) (.int i)
 | str (x:Str):GT K (.str x) (.str x)
 | tup {a:Addr} {vs:List V} {ds:List D}:(∀H,kl K H a vs)->vs.length=ds.length->(∀(i:Nat) v d,vs[i]?=some v->ds[i]?=some d->GT K v d)->GT K (.ref a) (.tup ds)
def SV(K:W.Frag)(mg:Str->Option Value)(x:Str)(ds:List D):Prop:=∃a,mg x=some (.ref a)/\GT K (.ref a) (.tup ds)
def T5(K:W.Frag)(ds:List D):TE:=fun _ H Q=>∀a,GT K (.ref a) (.tup ds)->Q (.ref a) H
def Me(hg:Gl X x)(hm:SV K X.mg x ds)(hd:(x == ("__debug__":Str))=false:=by decide):PE X (.Name x pos) (T5 K ds):=by
 obtain⟨a,e,g⟩:=hm;exact fun _ _ _ H _ I q=>lg I hg e ⟨.ref a,H,I,rfl,q a g⟩ hd
def Kc(h:qc k v=true):RelV (kV k) v:=by
 rcases ck h with⟨i,t,rfl,rfl⟩|⟨x,t,rfl,rfl⟩
 ·exact⟨t,rfl⟩
 ·exact⟨t,rfl⟩
end
end VF22
namespace VF22
open PySem.Spec PyProof.Rows L2 VF
section
variable {K:W.Frag}
def GV(K:W.Frag)(u:Value)(d:D):Prop:=∃v,RelV v u/\GT K v d
inductive GVs(K:W.Frag):List Value->List D->Prop where
 | nil:GVs K [] []
 | cons {u:Value} {d:D} {us:List Value} {ds:List D}:GV K u d->GVs K us ds->GVs K (u::us) (d::ds)
def gv_int:GV K (.int i t) (.int i):=⟨.int i,⟨t,rfl⟩,.int i⟩
theorem GVs.ex:∀{us:List Value}{ds:List D},GVs K us ds->∃vs,Vals vs us/\vs.length=ds.length/\∀(i:Nat) v d,vs[i]?=some v->ds[i]?=some d->GT K v d
 |_,_,.nil=>⟨[],.nil,rfl,fun i v d h=>by simp at h⟩
 | _,_,.cons h r=>by
  obtain⟨v,h1,h2⟩:=h;obtain⟨vs,r1,r2,r3⟩:=r.ex;refine⟨v::vs,.cons h1 r1,by rw[Vc,Vc,r2],fun i w d e1 e2=>?_⟩
  cases i with|zero=>cases e1;cases e2;exact h2|succ i=>exact r3 i w d (by simpa using e1) (by simpa using e2)
def gv_tup{us:List Value}{ds:List D}(h1:K.lookup a=some ⟨.type "tuple",td,.seq us.toArray n,sl⟩)(h:GVs K us ds)(h4:ds.length<=1000:=by decide):GV K (.ref a) (.tup ds):=by
 obtain⟨vs,r1,r2,r3⟩:=h.ex;have h4:us.toArray.size<=sizeLine:=by
  rw[Vb,<-r1.length,r2];exact Xd h4 (by decide)
 exact⟨.ref a,rfl,.tup (fun H=>.inr ⟨_,us.toArray,n,h1,rfl,rfl,h4,r1⟩) r2 r3⟩
theorem GV.glt(h:GV K (.ref a) (.tup ds))(e:mg x=some (.ref a)):SV K mg x ds:=by
 obtain⟨v,r,g⟩:=h;cases g with
 |@tup b vs _ h1 h2 h3=>
  cases r;exact⟨a,e,.tup h1 h2 h3⟩
structure FHD(K:W.Frag)(x:Str)(st:Stmt)(ds:List Value):Prop where
 ex:∃f fd,FunD K x x st ds f fd/\W.nsIn K mainGlobals x=some (some (.ref f))
def fhd{x:Str}{st:Stmt}{ds:List Value}{f T:Addr}{nT:Nat}{oc tc:Value}{od an td:Option Addr}{osl tsl:Array (Option Value)}{kV doc pm cdv ct:Value}(a:W.nsIn K mainGlobals x=some (some (.ref f)))
  (l:K.lookup f=some ⟨oc,od,.func (W.fnOf x x (fI st) (dJ st) (ai st) (.ref T) kV doc pm an cdv ct),osl⟩)(c:W.codeIn K cdv x=true)(k:W.keepIn K (.ref f)=true)(t:K.lookup T=some ⟨tc,td,.seq ds.toArray nT,tsl⟩):FHD K x st ds :=
 ⟨f,_,⟨⟨_,_,_,_,_,_,_,_,_,_,_,_,rfl,l,c,t,rfl⟩,k⟩,a⟩
def Ua(x:Str)(st:Stmt)(ps:List Str)(ds:List Value):Prop:=∀(T:Addr)(kV doc pm:Value)(an:Option Addr)(cdv ct:Value)(us:List Value),(us++ds).length=ps.length->
 ∃k:Option (Array Value)->Sem (List (Str×Value)),bindArgs (W.fnOf x x (fI st) (dJ st) (ai st) (.ref T) kV doc pm an cdv ct) ⟨us,[]⟩=seqItems? (.ref T) >>= k/\k (some ds.toArray)=pure (ps.zip (us++ds))
variable {P:Program}{w:World}{mg:Str->Option Value}{base h:Heap}{x:Str}{st:Stmt}{N ps:List Str}{k:Nat}{F:FS}{ds:List Value}{dvs:List V}
def FHD.calI(h':FHD K x st ds)(X:K.In h)(G:h.Ns mainGlobals mg)(S:FnScope N ps (ai st))(hb:Ua x st ps ds)(hv:Vals dvs ds)(hB:fv P w K mg base x st N k F):CalD P w K mg base x (k+1) ps dvs (lV K (dG F N.length ps.length)):=by
 obtain⟨f,fd,F',a⟩:=h'.ex;refine⟨f,fd,ds,F'.ok S (fun vs H Q E h=>LR h) fun cdv A outer s H vs Q E hr h=>?_,W.mg_of X G a,F'.kp,F'.binds hb,hv⟩;obtain⟨t,h1,h2⟩:=hB hr;exact⟨t,h1,sy h2 h⟩
end
end VF22
namespace VF22
open PySem.Spec PyProof.Rows L2 VF
section
variable (K:W.Frag){X:Cx}{a b o:Expr}{ta tb to:TE}{p pos apos zU:Pos}
def aB(ha:PE X a ta)(hb:PE X b tb)(h:X.K=K:=by rfl)(hs:yi b:=by exact fun _ _=>rfl):PE X (.Subscript a b pos) (EO (SQ K) ta tb):=P9 (Ji h) ha hb hs
def cH(hm:X.mg "len"=none)(ha:PE X a ta)(h:X.K=K:=by rfl)(hg:Gl X "len":=by rfl)(n:ky a=true:=by rfl):PE X (.Call (.Name "len" p) [a] [] pos) (MP (FW K) (gH ta rN)) :=
 b9 (D3 h) hg hm PySem.boot_len (aj ha ac n) (by decide) (by decide) (gC n) rfl
def bv(hm:X.mg "tuple"=none)(ha:PE X a ta)(h:X.K=K:=by rfl)(c:X.calm=true:=by rfl)(hg:Gl X "tuple":=by rfl)(n:ky a=true:=by rfl):PE X (.Call (.Name "tuple" p) [a] [] pos) (MP (tY K) (gH ta rN)) :=
 lh (vx h c) hg hm kz (aj ha ac n) (by decide) (by decide) (gC n) rfl
def cI(hm:X.mg "isinstance"=none)(ha:PE X a ta)(hb:PE X b tb)(h:X.K=K:=by rfl)(hg:Gl X "isinstance":=by rfl)(n:ky a=true:=by rfl)(n':ky b=true:=by rfl)(hpl:(backTo pos (starEach [b] X.env)).any (·.1)=false:=by rfl) :
  PE X (.Call (.Name "isinstance" p) [a,b] [] pos) (MP (NT K) (gH ta (gH tb rN))) :=
 b9 (tZ h) hg hm L2.boot_isinstance (aj ha (aj hb ac n') n) (by decide) (by decide) (gC n) hpl
def bj(ha:PE X a ta)(hb:PE X b tb)(h:X.K=K:=by rfl):PE X (.BinOp a .Add b pos) (EO (yD K) ta tb):=dR (yE h) ha hb
def iC(ho:OpR X (compareOp op) r)(ha:PE X a ta)(hb:PE X b tb)(h:op≠.In:=by decide)(h2:op≠.NotIn:=by decide):PE X (.Compare a [op] [b] pos) (EO r ta tb):=x9 ho ha hb (EV _ h h2)
def aR(ho:OpR X (compareOp op) r)(ha:PE X a ta)(hb:PE X b tb)(h:op≠.In:=by decide)(h2:op≠.NotIn:=by decide):PT X (.Compare a [op] [b] pos) (ya (EO r ta tb)):=mP ho ha hb (EV _ h h2)
def bZ(ho:PE X o to)(ha:PE X a ta)(n:ky a=true:=by rfl)(hbase:attributeBase o "append" X.env (eval o X.env)=eval o X.env:=by rfl)
  (hfew:((backTo zU (starEach [a] X.env)).all (fun x=>!x.1)&&(backToKw zU (keywordEach [] X.env)).all (fun x=>x.1.isSome)
   && decide (([a]:List Expr).length+([]:List Keyword).length+(if ([]:List Keyword).isEmpty then 0 else 1)<30))=true:=by rfl)
  (hline:(apos.endLine == zU.line)=true:=by rfl):PE X (.Call (.Attribute o "append" apos) [a] [] zU) (SR X.K "list" tM to (gH ta rN)) :=
 i8 PySem.F.plainAttrs_list PySem.F.slot_list_append PySem.F.type_list_append DP ho (aj ha ac n) hbase hfew hline (gC n) rfl
end
end VF22
namespace VF22
open PySem.Spec PyProof.Rows L2 VF
section
variable {X:Cx}{K:W.Frag}
def GX:V->List V->Hp->VK->Prop:=fun x vs H Q=>∃(a b:Str),x=.str a/\vs=[.str b]/\(b.length == 0)=false/\a.length<=100000/\∀l,H l=none->Q (.ref l) (upd H l (.lst ((Txt.split a b).map V.str)))
theorem sS:∀l:List (Str×Tok),Vals ((l.map (·.1)).map V.str) (strValues l)|[]=>.nil|p::r=>.cons ⟨p.2,rfl⟩ (sS r)
def GY:Px X "str.split" GX:=by
 intro z9 s σ H x vs v us Q I rx rv hq;obtain⟨a,b,rfl,rfl,hb,hz,q⟩:=hq;obtain⟨t,rfl⟩:=rx;obtain⟨u,rfl,ru⟩:=vals1 rv;obtain⟨t',rfl⟩:=ru;have lim:(100000:Nat)+2<=sizeLine:=by rw[Bi];decide
 have out:∀(c:List (Str×Tok))(k:Nat),s.toks<=k->c.map (·.1)=Txt.split a b->c.length<=sizeLine->EP X z9 σ Q (.ref s.heap.objs.size) { s with heap:=s.heap.push { cls:=.type "list",data:=.seq (strValues c).toArray },toks:=k }:=fun c k hk ec hc=>
  ⟨.ref s.heap.objs.size,_,I.laid (a:=s.heap.objs.size) (o:=.lst ((Txt.split a b).map V.str)) (t':=k) (ht:=I.tkl' hk) (fun _ _ z=>Ab _ z) (Qa _) ⟨by rw[Za,<-ec,Za];exact hc,strValues c,0,ec ▸ sS c,Ae _ rfl⟩,rfl,q _ (I.hok.fresh (Qa _))⟩
 have few:(Builtin.Str.partsBetween a (Builtin.Str.occurrences a b 0 a.length (a.length+1)) b.length).length<=sizeLine:=by
  have e1:=StrLaws.occ_length_le a b 0 a.length (a.length+1);rw[length_partsBetween];lia
 cases d1:(decide (a.length<b.length)||decide (Builtin.Str.strKind a<Builtin.Str.strKind b)) with
 |true=>exact AX F.slot_str_split (AW _ _ _) F.entry_str_split (F.args_str_split_2 _ _) (meets_str_split_cannot_occur a b t t' d1) (out [(a,t)] s.toks (Qa _) (if_pos d1).symm (by show 1<=sizeLine;lia))
 |false=>
  cases d2:(Builtin.Str.occurrences a b 0 a.length (a.length+1)).isEmpty with
  |true=>exact AX F.slot_str_split (AW _ _ _) F.entry_str_split (F.args_str_split_2 _ _) (meets_str_split_not_found a b t t' d1 hb d2) (out [(a,t)] s.toks (Qa _) ((Ah (Cb d1)).trans (if_pos d2)).symm (by show 1<=sizeLine;lia))
  |false=>
   refine AX F.slot_str_split (AW _ _ _) F.entry_str_split (F.args_str_split_2 _ _) (meets_str_split_sep a b t t' d1 hb d2 (by lia) few) ?_
   show wants _ _ _ { s with toks:=_,heap:=s.heap.push { cls:=.type "list",data:=.seq (strsFrom s.toks _).toArray } };rw[strsFrom_eq];refine out (numbered s.toks _) _ (Xj _ _) ((numbered_texts _ _).trans ((Ah (Cb d1)).trans (Ah (Cb d2))).symm) ?_;have:=congrArg List.length (numbered_texts s.toks (Builtin.Str.partsBetween a (Builtin.Str.occurrences a b 0 a.length (a.length+1)) b.length));rw[Za]at this;rw[this];exact few
def xl:D->List D->Option Rz|.str a,[.str b]=>if (b.length == 0)=false/\a.length<=100000 then some (.lst ((Txt.split a b).map D.str),true) else none|_,_=>none
theorem vP:D1 K GX xl:=by
 intro Y H x xs d ds z Q lv b1 bs e q;cases d with
 |str a=>
  cases bs with
  |nil=>cases e
  |@cons v vs d ds b2 bs=>
   cases bs with
   |cons _ _=>cases d<;>cases e
   |nil=>
    cases d with
    |str b=>
     obtain⟨c,e⟩:=aH e;cases e;exact⟨a,b,b1,by rw[show v=V.str b from b2],c.1,c.2,fun r hr=>q _ _ (aY hr _) (iA (JL _) hr)⟩
    |_=>cases e
 |_=>cases e
end
end VF22
namespace VF22
open PySem.Spec PyProof.Rows L2 VF
section
variable {X:Cx}{K:W.Frag}{P:Program}{w:World}{rows:List (Str×Int)}
def gv_str:GV K (.str x t) (.str x):=⟨.str x,⟨t,rfl⟩,.str x⟩
end
end VF22
namespace VF22
open L2 VF
section
variable {K:W.Frag}
theorem GT.da(h:GT K v d):∀(Y:AS)(H:Hp),DA K Y H v d:=by
 induction h with|int i=>intro _ _;exact .int i|str x=>intro _ _;exact .str x|@tup a vs ds h1 h2 h3 ih=>intro Y H;exact .tup (.inr h1) h2 fun i v d e1 e2=>ih i v d e1 e2 Y H
def Q1(ds:List D):dU K (T5 K ds) (fC (.tup ds)):=by
 intro st σ H O Z Q E r zW e q v h;cases e;exact q _ H O (Ext.refl O H) (Kp.refl _) E (h.da _ _) True.intro
end
end VF22
namespace VF
open L2 PyProof.Rows TS SeqAt
abbrev KB:=Bool×Str
def ltB(p q:KB):Bool:=(!p.1&&q.1)||(p.1 == q.1&&nR p.2 q.2)
def ua(x:Str):nR x x=false:=Ad (List.lt_irrefl _)
def pN(h1:nR x y=true)(h2:nR y z=true):nR x z=true:=Af (List.lt_trans (Ai h1) (Ai h2))
def zf(h:nR x z=true):nR x y=true\/nR y z=true:=by
 have ca:CA 1 [.str x,.str y,.str z]:=fun a ha b hb=>by
  simp at ha hb;rcases ha with rfl|rfl|rfl<;>rcases hb with rfl|rfl|rfl<;>trivial
 exact ca.neg (a:=.str x) (b:=.str y) (c:=.str z) (by simp) (by simp) (by simp) h
def m9(p:KB):ltB p p=false:=by
 obtain⟨b,x⟩:=p;unfold ltB;dsimp only;rw[ua];cases b<;>rfl
def ng(h1:ltB p q=true)(h2:ltB q r=true):ltB p r=true:=by
 obtain⟨a,x⟩:=p;obtain⟨b,y⟩:=q;obtain⟨c,z⟩:=r;cases a<;>cases b<;>cases c<;>simp[ltB]at h1 h2 ⊢
 ·exact pN h1 h2
 ·exact pN h1 h2
def pO(h:ltB p r=true):ltB p q=true\/ltB q r=true:=by
 obtain⟨a,x⟩:=p;obtain⟨b,y⟩:=q;obtain⟨c,z⟩:=r;cases a<;>cases b<;>cases c<;>simp[ltB]at h ⊢
 ·exact zf h
 ·exact zf h
def KH(h:Heap)(u:Value)(p:KB):Prop:=∃a t,u=.ref a/\h.IsTuple a #[.bool p.1,.str p.2 t]
section
variable {prog:Program}{w:World}{A:Around}{E:Value->Shared->Prop}{s:Shared}
def Os(a b:Bool):decide (b2i a<b2i b)=(!a&&b):=by cases a<;>cases b<;>rfl
theorem GZ(fl:Bool):sP A s fl (.bool a) (.bool b) (!a&&b):=fun prog w E Q q=>by
 rw[<-Os]at q;cases fl with
 |true=>
  rw[oneLt'_eq];simp only[if_true];refine Aa (wpAny_cRoomFor_byValue rfl ?_);refine Aa (wpAny_callSpecialIfBound?_slot (typeIs_bool' s a) PySem.F.slot_bool_lt (call_gives PySem.F.slot_bool_lt (typeIs_bool' s a) PySem.F.entry_int_lt (PySem.F.args_int_lt_2 _ _) (gives_int_lt_bools a b) ?_));exact Aw q
 |false=>exact y0 (fun prog w E Q h=>(lt_bool h:wpAny (model prog w) A (compareOp .Lt (.bool a) (.bool b)) Q E s)) prog w E Q q
def Ke:D->D->Bool|.bl a,.bl b=>!a&&b|.str x,.str y=>nR x y|_,_=>false
def Ou(p q:KB):oO Ke [.bl p.1,.str p.2] [.bl q.1,.str q.2]=ltB p q:=by
 obtain⟨a,x⟩:=p;obtain⟨b,y⟩:=q;by_cases e:a=b
 ·subst e;rw[cG];by_cases e2:x=y
  ·subst e2;rw[cG,m9];rfl
  ·rw[bB (by intro z;injection z with z;exact e2 z)]
   unfold ltB;cases a<;>simp[Ke]
 ·rw[bB (by intro z;injection z with z;exact e z)]
  unfold ltB;cases a<;>cases b<;>first|exact absurd rfl e|simp[Ke]
open Classical in
def Q2(h1:KH s.heap u p)(h2:KH s.heap v q)(hq:Q (ltB p q) s):wpAny (model prog w) A (keyLt' (tuples' true) u v) Q E s:=by
 obtain⟨a,t,rfl,ha⟩:=h1;obtain⟨b,t',rfl,hb⟩:=h2;have e1:EqAt A s (.bool p.1) (.bool q.1) (decide (D.bl p.1=D.bl q.1)):=by
  have:decide (D.bl p.1=D.bl q.1)=(p.1 == q.1):=by rw[Zg];simp
  rw[this];exact EqAt.bool_bool _ _
 have e2:EqAt A s (.str p.2 t) (.str q.2 t') (decide (D.str p.2=D.str q.2)):=by
  have:decide (D.str p.2=D.str q.2)=(p.2 == q.2):=by rw[Zg];simp
  rw[this];exact EqAt.str_str _ _ _ _
 refine y6 (lt:=Ke) (ds:=[.bl p.1,.str p.2]) (es:=[.bl q.1,.str q.2]) ha hb ?_ (by rw[Ou];exact hq)
 exact .cons e1 (fun _=>GZ _) (.cons e2 (fun _=>t8 _) (.left rfl))
def cB(ks:List KB)(g h:Nat):Bool:=ltB (ks.getD g (false,Str.empty)) (ks.getD h (false,Str.empty))
def Tg{us vs:List Value}{ks:List KB}(hl:us.length=ks.length)(r:∀(i:Nat) u p,us[i]?=some u->ks[i]?=some p->KH s.heap u p) :
  Cm prog w A s (tuples' true) (fun g=>(us.getD g .none,vs.getD g .none)) us.length (cB ks):=by
 refine⟨fun E Q g h hg hh q=>?_,fun g=>m9 _,fun g h i h1 h2=>ng h1 h2,fun g h i h1=>pO h1⟩;have eg:us[g]?=some us[g]:=Ya hg;have eh:us[h]?=some us[h]:=Ya hh;have kg:ks[g]?=some ks[g]:=Ya (by lia)
 have kh:ks[h]?=some ks[h]:=Ya (by lia)
 have q':Q (ltB ks[g] ks[h]) s:=by
  unfold cB at q;rw[Yc,Yc,kg,kh]at q;exact q
 show wpAny (model prog w) A (keyLt' (tuples' true) (us.getD g .none) (us.getD h .none)) Q E s;rw[Yc,Yc,eg,eh];exact Q2 (r g _ _ eg kg) (r h _ _ eh kh) q'
def Th{us:List Value}{ks:List KB}(hne:us≠[])(hl:us.length=ks.length)(r:∀(i:Nat) u p,us[i]?=some u->ks[i]?=some p->KH s.heap u p)(q:Q (tuples' true) s):wpAny M A (keyKind' us.toArray) Q E s:=by
 rw[keyKind'_eq];have hf:∀(us:List Value)(ks:List KB),us.length=ks.length->(∀(i:Nat) u p,us[i]?=some u->ks[i]?=some p->KH s.heap u p)->∀Q:List (Option Value)->Shared->Prop,Q (ks.map fun p=>some (.bool p.1)) s->wpAny M A (us.mapM firstOfTuple') Q E s:=fun us=>by
  induction us with
  |nil=>
   intro ks hl _ Q q;obtain rfl:ks=[]:=Xf hl.symm;rw[Di];exact Ac q
  |cons u us ih=>
   intro ks hl r Q q;cases ks with
   |nil=>simp at hl
   |cons p ks=>
    rw[Db];obtain⟨a,t,rfl,ht⟩:=r 0 u p rfl rfl;exact Aa (sQ (its:=[.bool p.1,.str p.2 t]) ht rfl (Aa (ih ks (by simpa using hl) (fun i u p e1 e2=>r (i+1) u p (by simpa using e1) (by simpa using e2)) _ (Ac q))))
 rw[CJ,CT];refine Aa (Aa (hf us ks hl r _ (Ac ?_)));have hnk:ks≠[]:=fun z=>by
  rw[z]at hl;exact hne (Xf hl)
 rw[if_pos (by simp)]
 refine Aa (AK ?_);have e1:(ks.map fun p=>some (Value.bool p.1)).toArray.filterMap id=(ks.map fun p=>Value.bool p.1).toArray:=by
  rw[show(ks.map fun p=>some (Value.bool p.1))=(ks.map fun p=>Value.bool p.1).map some by rw[Qc];rfl]
  simp
 rw[e1,oneTypeOnly'_eq];refine Aa (Aa (t9 (g:=fun _=>Value.type "bool") (fun v hv Q q=>?_) ?_))
 ·obtain⟨p,_,rfl⟩:=Wb.mp hv;exact AD (typeIs_bool' s p.1) q
 ·cases ks with
  |nil=>exact absurd rfl hnk
  |cons p ks=>
   have h0:(List.map (fun _=>Value.type "bool") (List.map (fun p:KB=>Value.bool p.1) (p::ks))).toArray[0]?=some (Value.type "bool"):=by simp
   rw[h0];have hall:((List.map (fun _=>Value.type "bool") (List.map (fun p:KB=>Value.bool p.1) (p::ks))).toArray.all fun x=>x == Value.type "bool")=true:=by
    simp only[List.all_toArray,CM,Yh];intro _ _;exact beq_self_eq_true _
   dsimp only;rw[hall,if_pos rfl];exact Ac (Ac q)
end
end VF
namespace VF
open L2 PyProof.Rows TS
section
variable {prog:Program}{w:World}{A:Around}{E:Value->Shared->Prop}{s:Shared}
def qH{a kS:Addr}{vs:List Value}{ks:List KB}{kA:Array Value}{e e1:Nat}{st:SortSt}{γ:Array Nat}{P:Fin->Shared->Prop}(hka:kS≠a)
  (g1:s.heap.get? kS=some (seqObj "list" kA e))(g2:s.heap.get? a=some (seqObj "list" #[] e1))(hz:vs.length<=sizeLine)(hk:kA.size=vs.length)
  (hf:failedOf st=none) (ha:(arrOf st).map (·.2)=cg vs γ) (hp:γ.Perm (Array.range vs.length))
  (fin:∀tk,P (.done (.ret .none)) { s with heap:=(s.heap.update kS (Obj.mapSeq fun _=>#[])).update a (Obj.mapSeq fun _=>cg vs γ),toks:=tk }) :
  wpAny (model prog w) A (ksk_tail a false e1 (.ref kS) st) P E s:=by
 have s1:=AT s.heap kS (Obj.mapSeq fun _=>(#[]:Array Value));have na1:(s.heap.update kS (Obj.mapSeq fun _=>(#[]:Array Value))).get? a=some (seqObj "list" #[] e1):=(s1.2 a hka.symm).trans g2;have hsz:(cg vs γ).size=vs.length:=by
  unfold cg;rw[De,hp.size_eq,Qj]
 unfold ksk_tail;dsimp only;refine Aa (AH g1 rfl ?_ (by rw[hk];lia) (Xi _))
 refine Aa (C1 ?_);refine Aa (B8 na1 rfl ?_)
 refine Aa (AH na1 rfl ?_ (Xi _) (by
  show(if false=true then((arrOf st).map (·.2)).reverse else(arrOf st).map (·.2)).size<=_
  rw[Ah Bool.noConfusion,ha,hsz];lia))
 rw[hf];simp only[CF,Xg,if_false];rw[ha];exact Ac (fin _)
def Ei{vs : List Value}{ks : List KB}{kA : Array Value}(hka : kS ≠ a)
    (g1 : s.heap.get? kS = some (seqObj "list" kA e))(g2 : s.heap.get? a = some (seqObj "list" #[] e1))(hz : vs.length ≤ sizeLine)(hk : kA.size = vs.length)(hl : ks.length = vs.length)(h64 : vs.length < 64)
    (r : ∀ (i : Nat) u p, kA[i]? = some u → ks[i]? = some p → KH s.heap u p)
    (fin : ∀ (γ : Array Nat) tk, γ.Perm (Array.range vs.length) → Sg (cB ks) γ 0 vs.length → P (.done (.ret .none)) { s with heap := (s.heap.update kS (Obj.mapSeq fun _ => #[])).update a (Obj.mapSeq fun _ => cg vs γ), toks := tk }) :
    wpAny (model prog w) A (ksk_end a false vs.toArray e1 (.ref kS) kA) P E s := by
  obtain ⟨us, rfl⟩ : ∃ us : List Value, kA = us.toArray := ⟨kA.toList, by simp⟩
  rw [BE] at hk;have r' : ∀ (i : Nat) u p, us[i]? = some u → ks[i]? = some p → KH s.heap u p := fun i u p e1 e2 => r i u p (by simpa using e1) e2
  have e0 : us.toArray.zip vs.toArray = (Array.range vs.length).map fun g => (us.getD g .none, vs.getD g .none) := by
    apply Array.ext_getElem?
    intro i;rw [Cz, Bl];by_cases hi : i < vs.length
    · rw [if_pos hi]
      have hi' : i < us.length := by lia
      simp [hi, hi'];rw [Dg];exact ⟨BH hi', BH hi⟩
    · rw [Ah hi]
      simp [hi];lia
  unfold ksk_end;dsimp only;simp only [Bw, if_false];by_cases few : vs.toArray.size < 2
  · rw [if_pos few, if_pos few]
    refine Aa (Ac ?_);rw [StateT.run_pure];refine Aa (Ac ?_);dsimp only;rw [BE] at few;refine qH (ks := ks) (γ := Array.range vs.length) hka g1 g2 hz (by simpa using hk) rfl ?_ (Array.Perm.refl _) fun tk => fin _ tk (Array.Perm.refl _) fun i j g h z1 z2 z3 => by lia
    show (us.toArray.zip vs.toArray).map (·.2) = _;rw [e0, Ci]; rfl
  · rw [Ah few, Ah few]
    rw [BE] at few;have hne : us ≠ [] := fun z => few (by rw [z] at hk; simp at hk; lia)
    refine Aa (Th hne (by lia) r' ?_)
    have C : Cm prog w A s (tuples' true) (fun g => (us.getD g .none, vs.getD g .none)) us.length (cB ks) := Tg (by lia) r'
    rw [hk] at C
    refine Aa (At (yV h64 C (γ := Array.range vs.length) ⟨e0, rfl, rfl, Array.Perm.refl _⟩ rfl (fun i _ z => by rw [Bl, if_pos z])
      (Q := fun _ zW => ∃ γ, Rp (tuples' true) (fun g => (us.getD g .none, vs.getD g .none)) vs.length zW γ ∧ Sg (cB ks) γ 0 vs.length) fun zW γ' R g => ⟨γ', R, g⟩) ?_ fun _ _ e => e)
    rintro ⟨⟨⟩, zW⟩ s' ⟨rfl, γ, R, g⟩;dsimp only;refine qH (ks := ks) (γ := γ) hka g1 g2 hz (by simpa using hk) R.fine ?_ R.perm fun tk => fin γ tk R.perm g
    rw [R.arr, Ci]; rfl
def xn{vs:List Value}{ks:List KB}(hka:kS≠a)(hz:vs.length<=sizeLine)(hl:ks.length=vs.length)(h64:vs.length<64)(J:Nat->Array Value->Shared->Prop)
  (hJ:∀i kA s',J i kA s'->(∃e,s'.heap.get? kS=some (seqObj "list" kA e))/\s'.heap.get? a=some (seqObj "list" #[] e1)/\kA.size=i)
  (turn:∀i kA v s',vs[i]?=some v->J i kA s'->wpAny (model prog w) A (call f [v]) (fun u s''=>(∃e,s''.heap.get? kS=some (seqObj "list" kA e))/\J (i+1) (kA.push u) { s'' with heap:=s''.heap.update kS (Obj.mapSeq (·.push u)) }) (fun _ _=>False) s')
  (keys:∀kA s',J vs.length kA s'->∀(i:Nat) u p,kA[i]?=some u->ks[i]?=some p->KH s'.heap u p)
  (fin:∀kA s' (γ:Array Nat) tk,J vs.length kA s'->γ.Perm (Array.range vs.length)->Sg (cB ks) γ 0 vs.length->P (.done (.ret .none)) { s' with heap:=(s'.heap.update kS (Obj.mapSeq fun _=>#[])).update a (Obj.mapSeq fun _=>cg vs γ),toks:=tk })
  (h0:J 0 #[] s):wpAny (model prog w) A (ksk_rest a f false vs.toArray e1 (.ref kS)) P E s:=by
 unfold ksk_rest;refine Aa (AK ?_)
 first
  | rw[List.forIn_toArray]
  | (rw[<-Array.forIn_toList];simp only[List.toList_toArray])
  | rw[<-Array.forIn_toList]
 refine Aa (ksk_fold (fun i s'=>∃kA,J i kA s') vs 0 s ⟨#[],h0⟩ ?step ?done)
 case step=>
  rintro j x s' hx ⟨kA,hj⟩;rw[Bp]at hj ⊢;have hjl:j<vs.length:=(Yd.mp hx).1;obtain⟨_,_,hks⟩:=hJ _ _ _ hj;refine Aa (AU (At (turn j kA x s' hx hj) (fun u s'' he=>?_) fun _ _ hF=>hF.elim));obtain⟨⟨e,g1⟩,hj'⟩:=he;dsimp only;refine Aa (AH g1 rfl ?_ (by lia) (Xd (BS (Array.size_push ..)) (by lia)))
  exact Ac ⟨rfl,kA.push u,hj'⟩
 case done=>
  rintro s' ⟨kA,hj⟩;rw[Bp]at hj;obtain⟨⟨e,g1⟩,g2,hks⟩:=hJ _ _ _ hj;refine Aa (AM g1 rfl ?_);exact Ei hka g1 g2 hz hks hl h64 (keys kA s' hj) fun γ tk p g=>fin kA s' γ tk hj p g
end
end VF
namespace VF
open L2 PyProof.Rows TS
section
variable {X:Cx}{K:W.Frag}{z9:List (Addr×Obj)}{σ:L2.St}{H:Hp}{s:Shared}
def Q3{oa ok ok':Obj}(I:L2.Inv X (z9++[(kS,ok),(a,oa)]) σ H s)(fk:kf X z9 H0 kS)(hka:kS≠a)(hg:(s.heap.update kS φ).get? kS=some ok')(hc:∀v,ok'.data≠.cell v)(ht:0<t:=by first|assumption|exact Qh _|exact Inv.tk (by assumption)|exact Inv.tkl (by assumption) (by assumption)|lia) :
  L2.Inv X (z9++[(kS,ok'),(a,oa)]) σ H { s with heap:=s.heap.update kS φ,toks:=t }:=by
 obtain⟨_,f1,f2,f3,f4,f5⟩:=fk;have pk:=I.pin (kS,ok) (by simp)
 have pa:=I.pin (a,oa) (by simp)
 have old:∀p∈z9,s.heap.get? p.1=some p.2/\H p.1=none/\p.1≠X.env.locals/\p.1∉X.fs/\∀v,p.2.data≠.cell v:=fun p hp=>I.pin p (Vd _ (Xh _ hp));have I1:L2.Inv X (z9++[(a,oa)]) σ H s:=I.pins_of fun p hp=>by
  rcases Xe.mp hp with z|z
  ·exact old p z
  ·rw[Zd.mp z];exact pa
 have I2:=I1.turned (t':=t) (it:=kS) (h':=s.heap.update kS φ) (fun b o hb e=>(Ax _ _ _ _ hb).trans e) pk.2.1 f1 f3 f4 fun p hp=>by
  rcases Xe.mp hp with z|z
  ·exact f5 p (Xh _ z)
  ·rcases Xe.mp z with z|z
   ·exact f5 p (Vd _ z)
   ·rw[Zd.mp z];exact hka.symm
 refine I2.pins_of fun p hp=>?_;rcases Xe.mp hp with z|z
 ·exact I2.pin p (Vd _ (Xh _ z))
 ·rcases Wd.mp z with rfl|z
  ·exact⟨hg,pk.2.1,f1,f2,hc⟩
  ·rw[Zd.mp z];exact I2.pin (a,oa) (by simp)
def tracked{h':Heap}(I:L2.Inv X (z9++[(kS,ok),(a,oa)]) σ H s)(fk:kf X z9 H0 kS)(fa:kf X z9 H0 a)
  (k:∀b o,b≠kS->b≠a->s.heap.get? b=some o->h'.get? b=some o)(new:ObjOk X.prog X.w (upd H a (.lst ws)) h' a (.lst ws))(ht:0<t:=by first|assumption|exact Qh _|exact Inv.tk (by assumption)|exact Inv.tkl (by assumption) (by assumption)|lia) :
  L2.Inv X z9 σ (upd H a (.lst ws)) { s with heap:=h',toks:=t }:=by
 obtain⟨_,f1,f2,f3,f4,f5⟩:=fk;obtain⟨_,g1,g2,g3,g4,g5⟩:=fa;have pk:=I.pin (kS,ok) (by simp)
 have pa:=I.pin (a,oa) (by simp)
 have I1:L2.Inv X z9 σ H s:=I.pins_of fun p hp=>I.pin p (Vd _ (Xh _ hp));have nk:H kS=none:=pk.2.1;have na:H a=none:=pa.2.1;have ne:∀b u,H b=some u->b≠a:=fun b u e z=>by rw[z,na]at e;cases e
 have nek:∀b u,H b=some u->b≠kS:=fun b u e z=>by rw[z,nk]at e;cases e
 have two:∀b,b∉[kS,a]->b≠kS/\b≠a:=fun b hb=>⟨fun z=>hb (by simp[z]),fun z=>hb (by simp[z])⟩
 refine I1.step (g':=s.gens) (d':=s.drawn) (ch:=[kS,a]) (fun b hb=>?_) (fun b o _ _ hc e _=>k b o (two b hc).1 (two b hc).2 e) (fun b o _ _ hc e _=>⟨o.slots,k b o (two b hc).1 (two b hc).2 e⟩) (fun b o hc _ n=>by rw[aC (two b hc).2];exact n)
  (fun b o hc e=>⟨o,k b o (two b hc).1 (two b hc).2 e⟩) (fun b xs e=>by rw[aC (ne b _ e)];exact e) (fun b o u e=>by rw[aC (ne b _ e)];exact e) (fun b ps e=>⟨#[],by rw[aC (ne b _ e),e];simp⟩) (fun m hm=>?_) (fun b u e=>?_) I1.bare
 ·rcases Wd.mp hb with rfl|hb
  ·exact⟨f3,f1,f4,f5⟩
  ·obtain rfl:=Zd.mp hb;exact⟨g3,g1,g4,g5⟩
 ·obtain⟨o,es,ep,ho,r⟩:=hm;exact⟨o,es,ep,k _ o (Au f1) (Au g1) ho,r⟩
 ·by_cases hb:b=a
  ·subst hb;rw[aQ]at e;cases e;exact new
  ·rw[aC hb]at e;refine(I1.hok b u e).stay (fun c v hc q=>?_) (fun c q=>by rw[aC (ne c _ q)];exact q) fun c xs q=>by rw[aC (ne c _ q)];exact q
   rcases hc with z|z
   ·rw[z]at q ⊢;exact k b v (nek b u e) hb q
   ·exact k c v (nek c _ z) (ne c _ z) q
def keyD(p:KB):D:=.tup [.bl p.1,.str p.2]
theorem Q4(h:X.K=K)(I:L2.Inv X z9 σ H s)(da:DA K Z H v (keyD p))(ru:RelV v u):KH s.heap u p:=by
 obtain⟨a,xs,rfl,sq,el⟩:=(show BA K Z H v (.tup [.bl p.1,.str p.2]) from da.ba);cases ru;obtain⟨its,r,t,_⟩:=I.tuple (h ▸ sq.sq);obtain⟨v1,r1,rfl,d1,el⟩:=el.uncons;obtain⟨v2,r2,rfl,d2,el⟩:=el.uncons;obtain rfl:=el.unnil;obtain rfl:v1=V.bl p.1:=d1.ba;obtain rfl:v2=V.str p.2:=d2.ba;cases r with
 |cons a1 r=>
  cases r with
  |cons a2 r=>
   cases r;obtain rfl:=(show _=Value.bool p.1 from a1);obtain⟨tt,rfl⟩:=(show ∃t,_=Value.str p.2 t from a2);exact⟨a,tt,rfl,t⟩
inductive SJ(X:Cx)(K:W.Frag)(z9:List (Addr×Obj))(σ:L2.St)(H:Hp)(a:Addr)(e1:Nat)(ks:List KB)(Z:AS)(i:Nat)(kA:Array Value)(s':Shared):Prop
 | mk (Hi:Hp) (e:Nat) (zX:List V) (I:L2.Inv X (z9++[(a+2,seqObj "list" kA e),(a,seqObj "list" #[] e1)]) σ Hi s') (sm:Same H Hi) (hsz:kA.size=i) (rk:Vals zX kA.toList) (hd:∀(j:Nat) v p,zX[j]?=some v->ks[j]?=some p->DA K Z Hi v (keyD p))
def Q5{s':Shared}(I:L2.Inv X (z9++[p,q]) σ Hi s'):s'.heap.get? p.1=some p.2:=(I.pin p (Vd _ (Vd _ (.head _)))).1
def Q6{s':Shared}(I:L2.Inv X (z9++[p,q]) σ Hi s'):s'.heap.get? q.1=some q.2/\Hi q.1=none:=by
 have:=I.pin q (Vd _ (Vd _ (.tail _ (.head _))));exact⟨this.1,this.2.1⟩
def xo(h:X.K=K)(F:FnOk X.prog X.w X.K X.mg X.base u8 k f fd [x] (fB K g))(hr:Room (k+2) X.A)(hb:Binds X.K fd [x] [])
  (I:L2.Inv X z9 σ H s){ds:List D}{ks:List KB}(sq:ii K H l vs)(el:El K Z H vs ds)(lv:∀p,Z p->Lv H p)(hk:ks.length=ds.length)(h64:ds.length<64)(hg:∀(i:Nat) d p,ds[i]?=some d->ks[i]?=some p->g [d]=some (keyD p,false))
  (q:∀(γ:Array Nat)(H':Hp)(p:Addr)(ws:List V),γ.Perm (Array.range ds.length)->Sg (cB ks) γ 0 ds.length->Same H H'->H' p=none->El K Z H' ws (γ.toList.map (dk ds))->Q (.ref p) (upd H' p (.lst ws))) :
  wpAny (model X.prog X.w) X.A (call (.builtin "sorted") [.ref l] [(Str.ofString "key",.ref f)]) (EP X z9 σ Q) X.xe s:=by
 obtain⟨its,r,pl,hz⟩:=I.list (h ▸ sq);have hn:its.length=ds.length:=r.length.symm.trans el.1;have hz':its.length<=sizeLine:=by rw[<-r.length];exact hz
 refine call_function_entry_kw kind_sorted plain_sorted entry_sorted (ksk_s1 _ _) ?_;unfold Builtin.«sorted»;refine Aa (m:=checkCount "sorted" 1 1 _) (Ac ?_);refine Aa (collect_list pl.isList ?_ hz');refine Aa (BG ?_ hz');generalize hg1:(s.heap.push (seqObj "list" #[] 0)).update s.heap.objs.size (Obj.mapSeq (·++its.toArray))=h1;have z1:h1.objs.size=s.heap.objs.size+1:=by rw[<-hg1,C0,size_push']
 have old1:∀b o,s.heap.get? b=some o->h1.get? b=some o:=fun b o e=>by
  rw[<-hg1];exact(Ax _ _ _ _ (Qf (Ag e))).trans (Ab _ e)
 generalize ha:s.heap.objs.size+1=a at z1;have mine:(h1.push (seqObj "list" its.toArray 0)).get? a=some (seqObj "list" its.toArray 0):=by rw[<-z1];exact Ae _ rfl
 show wpAny _ _ _ _ _ { s with heap:=h1.push (seqObj "list" its.toArray 0) };rw[z1];refine Aa (Az (wpAny_call_entry_kw slot_list_sort ⟨_,mine,rfl⟩ entry_list_sort ?body (ksk_l1 _ _)));show wpAny (model X.prog X.w) X.A.in1.in1 (Builtin.«list.sort» ⟨[.ref a],[(Str.ofString "key",.ref f)]⟩) _ _ _;rw[ksk_t1];generalize hh2:h1.push (seqObj "list" its.toArray 0)=h2 at mine;have z2:h2.objs.size=a+1:=by rw[<-hh2,size_push',z1]
 have old2:∀b o,s.heap.get? b=some o->h2.get? b=some o:=fun b o e=>by rw[<-hh2];exact Ab _ (old1 b o e)
 unfold ksk_tree;refine Aa (AM mine rfl ?_);refine Aa (AH mine rfl ?_ (by rw[Vb];lia) (Xi _))
 obtain⟨e1,hE⟩:∃e1,(h2.update a (Obj.mapSeq fun _=>#[])).get? a=some (seqObj "list" #[] e1):=⟨_,Bm mine (fun _=>#[])⟩;refine Aa (B8 hE rfl ?_);refine Aa (C7 ?_ (by show its.length<=_;lia))
 refine Aa (BG ?_ (Xi _));refine Az ?_;have hT:((h2.update a (Obj.mapSeq fun _=>#[])).push (seqObj "tuple" its.toArray 0)).objs.size=a+2:=by rw[size_push',C0,z2]
 generalize hh3:((h2.update a (Obj.mapSeq fun _=>#[])).push (seqObj "tuple" its.toArray 0)).push (seqObj "list" #[] 0)=h3;have gk:h3.get? (a+2)=some (seqObj "list" #[] 0):=by rw[<-hh3,<-hT];exact Ae _ rfl
 have ga:h3.get? a=some (seqObj "list" #[] e1):=by rw[<-hh3];exact Ab _ (Ab _ hE)
 have hbig:s.heap.objs.size<=a:=by lia
 have old3:∀b o,s.heap.get? b=some o->h3.get? b=some o:=fun b o e=>by
  rw[<-hh3];refine Ab _ (Ab _ ?_);have:=Ag e;exact(Ax _ _ _ _ (Qf (Xc this hbig))).trans (old2 b o e)
 have hbig2:s.heap.objs.size<=a+2:=Xd hbig (Xj _ _);have fk:kf X z9 H (a+2):=I.fpOk hbig2 (I.hok.fresh hbig2);have fa:kf X z9 H a:=I.fpOk hbig (I.hok.fresh hbig);have hka:a+2≠a:=by lia
 have I3:L2.Inv X (z9++[(a+2,seqObj "list" #[] 0),(a,seqObj "list" #[] e1)]) σ H { s with heap:=h3 }:=by
  refine(I.kept (t':=s.toks) old3).pins_of fun p hp=>?_;rcases Xe.mp hp with z|z
  ·exact(I.kept (h':=h3) (t':=s.toks) old3).pin p (Vd _ z)
  ·rcases Wd.mp z with rfl|z
   ·exact⟨gk,fk.1,fk.2.1,fk.2.2.1,fun v z=>by cases z⟩
   ·rw[Zd.mp z];exact⟨ga,fa.1,fa.2.1,fa.2.2.1,fun v z=>by cases z⟩
 show wpAny (model X.prog X.w) X.A.in1.in1 (ksk_rest a (.ref f) false its.toArray e1 (.ref (((h2.update a (Obj.mapSeq fun _=>#[])).push (seqObj "tuple" its.toArray 0)).objs.size))) _ _ { s with heap:=h3 };rw[hT];refine bz ?_;refine xn (ks:=ks) hka hz' (by lia) (by lia) (SJ X K z9 σ H a e1 ks Z) ?hJ ?turn ?keys ?fin ⟨H,0,[],I3,Same.refl H,rfl,.nil,fun j v p e=>by simp at e⟩
 case hJ=>
  rintro i kA s' ⟨Hi,e,zX,Ii,_,hsz,_⟩;exact⟨⟨e,Q5 Ii⟩,(Q6 Ii).1,hsz⟩
 case keys=>
  rintro kA s' ⟨Hi,e,zX,Ii,_,hsz,rk,hd⟩ i u p e2 e3;obtain⟨v,e4,rv⟩:=dZ rk i u (by simpa using e2)
  exact Q4 h Ii (hd i v p e4 e3) rv
 case turn=>
  rintro i kA v s' hv ⟨Hi,e,zX,Ii,sm,hsz,rk,hd⟩;have hi:i<its.length:=(Yd.mp hv).1;obtain⟨vv,e4,rv⟩:=dZ r i v hv;obtain⟨d,e5⟩:∃d,ds[i]?=some d:=⟨_,Ya (by lia)⟩
  obtain⟨p,e6⟩:∃p,ks[i]?=some p:=⟨_,Ya (by lia)⟩
  have da:DA K Z Hi vv d:=(el.2 i vv d e4 e5).same sm;have hsp:fB K g [vv] Hi (fun v H'=>Same Hi H'/\DA K Z H' v (keyD p)) E0:=⟨Z,[d],(keyD p,false),El.one da,fun b zb=>(lv b zb).same (sm b),hg i d p e5 e6,fun v H' s2 res=>⟨s2,res⟩⟩;refine wpAny_call (qb (CD (F.run X.A.in1.in1 X.stack s' Hi ⟨[v],[]⟩ [v] [vv] _ E0 hr.in1.in1 Ii.env0.in1.in1 (hb s' [v] Ii.kIn rfl) (.cons rv .nil) hsp) fun rr s'' hq hle=>?_));cases rr with
  |error e=>exact hq.elim
  |ok fl=>
   cases fl with
   |next=>exact False.elim hq
   |brk=>exact False.elim hq
   |cont=>exact False.elim hq
   |ret u=>
    obtain⟨nv,Hn,In,ru,sm2,dn⟩:=Ii.after hq hle;have gk2:s''.heap.get? (a+2)=some (seqObj "list" kA e):=Q5 In;refine⟨⟨e,gk2⟩,?_⟩;obtain⟨e',ge⟩:∃e',(s''.heap.update (a+2) (Obj.mapSeq (·.push u))).get? (a+2)=some (seqObj "list" (kA.push u) e'):=⟨_,Bm gk2 (·.push u)⟩;refine⟨Hn,e',zX++[nv],Q3 (t:=s''.toks) In fk hka ge (fun v z=>by cases z),fun b o eb=>sm2 b o (sm b o eb),by rw[Array.size_push,hsz],?_,fun j v p' e7 e8=>?_⟩
    ·rw[Array.toList_push];exact rk.append (.cons ru .nil)
    ·have hlk:zX.length=i:=by rw[rk.length,Zf,hsz]
     by_cases hj:j<zX.length
     ·rw[Wj hj]at e7;exact(hd j v p' e7 e8).same sm2
     ·rw[Vf (by lia)]at e7
      have hj0:j-zX.length=0:=by
       have:=(Yd.mp e7).1;rw[Yi]at this;lia
      rw[hj0]at e7;have e9:nv=v:=by simpa using e7
      have e10:j=i:=by lia
      subst e9 e10;rw[e6]at e8;cases e8;exact dn
 case fin=>
  rintro kA s' γ tk ⟨Hi,e,zX,Ii,sm,hsz,rk,hd⟩ p gS hle;have htk:0<tk:=I.tkl' hle;refine⟨_,rfl,Ac ⟨_,rfl,?_⟩⟩;rw[hn]at p gS;have hγ:∀g∈γ.toList,g<ds.length:=fun g hg=>by
   have:=(Vh.mp p).mem_iff.mp hg;rw[Qm]at this;exact Vi.mp this
  have vw:∀l:List Nat,(∀g∈l,g<ds.length)->Vals (l.map fun g=>vs.getD g .non) (l.map fun g=>its.getD g .none):=fun l=>by
   induction l with
   |nil=>exact fun _=>.nil
   |cons g l ih=>
    intro hl;have hgd:g<ds.length:=hl g Va;have a1:its[g]?=some its[g]:=Ya (by lia)
    obtain⟨v,e3,rv⟩:=dZ r g _ a1;refine .cons ?_ (ih fun x hx=>hl x (Wa _ hx));show RelV (vs.getD g .non) (its.getD g .none);rw[Yc,Yc,e3,a1];exact rv
  obtain⟨ga2,na2⟩:=Q6 Ii;have s1:=AT s'.heap (a+2) (Obj.mapSeq fun _=>(#[]:Array Value));have na1:(s'.heap.update (a+2) (Obj.mapSeq fun _=>(#[]:Array Value))).get? a=some (seqObj "list" #[] e1):=(s1.2 a hka.symm).trans ga2;obtain⟨e2,ge⟩:∃e2,((s'.heap.update (a+2) (Obj.mapSeq fun _=>#[])).update a (Obj.mapSeq fun _=>cg its γ)).get? a=some (seqObj "list" (cg its γ) e2):=⟨_,Bm na1 (fun _=>cg its γ)⟩;have elw:El K Z Hi (γ.toList.map fun g=>vs.getD g .non) (γ.toList.map (dk ds)):=by
   refine⟨by simp,fun i v d h1 h2=>?_⟩
   rw[Ve]at h1 h2;obtain⟨g1,k1,k2⟩:=Qe.mp h1;obtain⟨g2,k3,k4⟩:=Qe.mp h2;rw[k1]at k3;cases k3;have hgd:g1<ds.length:=hγ g1 (Wc k1);have d1:ds[g1]?=some ds[g1]:=Ya hgd;obtain⟨v',e3,da⟩:=el.at d1;rw[qG d1]at k4;rw[Yc,e3]at k2;subst k4;have:v'=v:=k2;subst this;exact da.same sm
  have hlw:(γ.toList.map fun g=>vs.getD g .non).length<=sizeLine:=by rw[Za,Zf,p.size_eq,Qj];lia
  refine⟨.ref a,upd Hi a (.lst (γ.toList.map fun g=>vs.getD g .non)),tracked (t:=tk) Ii fk fa (fun b o n1 n2 eb=>(Ax _ _ _ _ n2).trans ((Ax _ _ _ _ n1).trans eb)) ⟨hlw,(cg its γ).toList,e2,?_,by simpa using ge⟩,rfl,q γ Hi a _ p gS sm na2 elw⟩
  have e3:(cg its γ).toList=γ.toList.map fun g=>its.getD g .none:=by unfold cg;simp
  rw[e3];exact vw _ hγ
end
end VF
namespace VF
open L2 PyProof.Rows TS
section
variable {X:Cx}{K:W.Frag}
open Classical in
noncomputable def oP(ks:List KB)(ds:List D):List D:=if h:∃γ:Array Nat,γ.Perm (Array.range ds.length)/\Sg (cB ks) γ 0 ds.length then h.choose.toList.map (dk ds) else []
def ub{γ:Array Nat}(hn:γ.size=n)(g:Sg c γ 0 n):γ.toList.Pairwise (Bf c):=by
 rw[Df];intro i j hi hj hij;rw[Zf]at hi hj;exact g i j γ.toList[i] γ.toList[j] (Xi _) hij (by lia) (by rw[<-AI];exact Ya _) (by rw[<-AI];exact Ya _)
def vQ{ds:List D}{γ:Array Nat}(p:γ.Perm (Array.range ds.length))(g:Sg (cB ks) γ 0 ds.length):γ.toList.map (dk ds)=oP ks ds:=by
 have ex:∃γ:Array Nat,γ.Perm (Array.range ds.length)/\Sg (cB ks) γ 0 ds.length:=⟨γ,p,g⟩;have e:oP ks ds=ex.choose.toList.map (dk ds):=by unfold oP;rw[dif_pos ex]
 obtain⟨p2,g2⟩:=ex.choose_spec;rw[e];congr 1;have s1:=ub (by rw[p.size_eq,Qj]) g
 have s2:=ub (by rw[p2.size_eq,Qj]) g2
 refine((Vh.mp p).trans (Vh.mp p2).symm).eq_of_pairwise (fun a b _ _ h1 h2=>?_) s1 s2;have asy:∀x y,cB ks x y=true->cB ks y x=true->False:=fun x y z1 z2=>by
  have:=ng z1 z2;rw[m9]at this;cases this
 rcases h1 with h1|h1
 ·rcases h2 with h2|h2
  ·exact(asy _ _ h1 h2).elim
  ·rw[h2.1]at h1;cases h1
 ·rcases h2 with h2|h2
  ·rw[h1.1]at h2;cases h2
  ·lia
def Ov:Option Rz->Option KB|some (.tup [.bl b,.str x],false)=>some (b,x)|_=>none
def Kf(h:Ov z=some p):z=some (keyD p,false):=by
 unfold Ov at h;split at h
 ·cases h;rfl
 ·cases h
def keysOf(g:List D->Option Rz):List D->Option (List KB)|[]=>some []|d::ds=>(Ov (g [d])).bind fun p=>(keysOf g ds).bind fun ps=>some (p::ps)
theorem sT:∀{ds:List D}{ks:List KB},keysOf g ds=some ks->ks.length=ds.length/\∀(i:Nat) d p,ds[i]?=some d->ks[i]?=some p->g [d]=some (keyD p,false)
 |[],ks,h=>by cases h;exact⟨rfl,fun i d p e=>by simp at e⟩
 | d::ds,ks,h=>by
  refine bO h fun p e1 h=>?_;refine bO h fun ps e2 h=>?_;cases h;obtain⟨l,r⟩:=sT e2;refine⟨by rw[Vc,Vc,l],fun i d' p' a b=>?_⟩
  cases i with
  |zero=>
   have a1:d=d':=by simpa using a
   have a2:p=p':=by simpa using b
   subst a1 a2;exact Kf e1
  |succ i=>exact r i d' p' (by simpa using a) (by simpa using b)
noncomputable def xp(g:List D->Option Rz):List D->Option Rz
 |[.lst ds]=>if ds.length<64 then(keysOf g ds).bind fun ks=>some (.lst (oP ks ds),true) else none
 |_=>none
def G0(K:W.Frag)(g:List D->Option Rz):List V->Hp->VK->Prop:=fun xs H Q=>∃(l:Addr)(Z:AS)(vs:List V)(ds:List D)(ks:List KB),xs=[.ref l]/\ii K H l vs/\El K Z H vs ds/\(∀p,Z p->Lv H p)/\keysOf g ds=some ks/\ds.length<64 /\
 ∀(H':Hp)(p:Addr)(ws:List V),Same H H'->H' p=none->El K Z H' ws (oP ks ds)->Q (.ref p) (upd H' p (.lst ws))
theorem G1:RdCB K (G0 K g) (xp g):=by
 intro Y H xs ds z Q lv bs e q;cases bs with
 |nil=>cases e
 |@cons v vs d ds b1 bs=>
  cases bs with
  |cons _ _=>cases d<;>cases e
  |nil=>
   cases d with
   |lst es=>
    obtain⟨c,e⟩:=aH e;refine bO e fun ks e1 e=>?_;cases e;obtain⟨p,ws,rfl,hp,el⟩:=b1;refine⟨p,Y,ws,es,ks,rfl,.inl (.inl hp),el,lv,e1,c,fun H' p' ws' sm hn el'=>q _ _ (fun b o eb=>(aY hn _) b o (sm b o eb)) ?_⟩;have hH:H p'=none:=by
     cases e7:H p' with|none=>rfl|some o=>rw[sm p' o e7]at hn;cases hn
    obtain⟨p2,a1,_,a3⟩:=iA (K:=K) (Y:=Y) el' hn;exact⟨p2,a1,by cases a1;exact hH,a3⟩
   |_=>cases e
def G2(h:X.K=K)(C:Cal X.prog X.w X.K X.mg X.base x k [y] (fB K g))(hr:Room k' X.A)(hgs:Gl X "sorted")(hms:X.mg "sorted"=none)(hgf:Gl X x)(ha:PA X (e::es) t)(hk:k+2<=k':=by decide)
  (hdb:(x == ("__debug__":Str))=false:=by decide)
  (he:backTo pos (starEach (e::es) X.env)=(false,eval e X.env)::backTo pos (starEach es X.env):=by rfl) (hpl:(backTo pos (starEach (e::es) X.env)).any (·.1)=false:=by rfl) :
  PE X (.Call (.Name "sorted" p) (e::es) [⟨some "key",.Name x p2,kp⟩] pos) (MP (G0 K g) t):=by
 intro z9 s σ H Q I hw;obtain⟨f,fd,F,hm,hkp,hb⟩:=C.ex;refine Bt (km I hgs hms boot_sorted ?_);refine PyProof.Rows.callWith_kw (dq (ha pos z9 s σ H _ I hw) fun us s1 ⟨vs,H1,I1,r1,q1⟩=>?_) he hpl;refine PyProof.Rows.kws_cons (lg I1 hgf hm (PyProof.Rows.kws_nil ?_) hdb);obtain⟨l,Z,ws,ds,ks,rfl,sq,el,lv,hks,h64,q⟩:=q1;obtain⟨u,rfl,ru⟩:=vals1 r1;cases ru;obtain⟨hl,hg⟩:=sT hks;exact xo h F (hr.mono hk) hb I1 sq el lv hl h64 hg fun γ H' p' ws' pm sg sm hn el'=>q H' p' ws' sm hn (by rw[<-vQ pm sg];exact el')
end
end VF
namespace VF22
open PySem.Spec PyProof.Rows L2 VF
section
variable {X:Cx}{z9:List (Addr×Obj)}{σ:L2.St}{H:Hp}{s:Shared}{a:Addr}{zX:List (Key×V)}{o:Obj}
def zg(I:L2.Inv X z9 σ H s)(ea:H a=some u)(ht:∀xs,u≠.tup xs)(hb:∀x,u≠.own x)(nf:∀o u0,X.H₀ a≠some (.frz o u0))(nt:∀xs,X.H₀ a≠some (.tup xs))(nb:∀ps,X.H₀ a≠some (.tbl ps))(oa:ObjOk X.prog X.w (upd H a u') s.heap a u'):L2.Inv X z9 σ (upd H a u') s:=by
 have ne:∀b,H b=none->b≠a:=fun b e z=>by rw[z,ea]at e;cases e
 refine⟨I.ok,I.os,I.bare,⟨I.base.keep,I.base.slot,fun b o q n hx=>?_,I.base.there,fun b xs e=>?_,fun b o u e=>?_,fun b ps e=>?_⟩,I.loc,I.cell,?_,fun x c e=>?_,fun p hp=>?_,fun b o e=>?_,I.len,I.tk⟩
 ·have:=I.base.free b o q n hx;rw[aC (ne b this)];exact this
 ·rw[aC (fun z:b=a=>nt xs (by rw[<-z];exact e))];exact I.base.tups b xs e
 ·rw[aC (fun z:b=a=>nf o u (by rw[<-z];exact e))];exact I.base.frzs b o u e
 ·obtain⟨more,z⟩:=I.base.tbls b ps e;exact⟨more,by rw[aC (fun w:b=a=>nb ps (by rw[<-w];exact e))];exact z⟩
 ·rw[aC (ne _ I.free)];exact I.free
 ·rw[aC (ne _ (I.freeC x c e))];exact I.freeC x c e
 ·obtain⟨p1,p2,p3,p4,p5⟩:=I.pin p hp;exact⟨p1,by rw[aC (ne _ p2)];exact p2,p3,p4,p5⟩
 ·by_cases z:b=a
  ·subst z;rw[aQ]at e;cases e;exact oa
  ·rw[aC z]at e;exact(I.hok b o e).stay (fun c v _ q=>q) (fun c q=>by rw[aC (fun w:c=a=>by rw[w,ea]at q;exact hb _ (Option.some.inj q))];exact q) fun c xs q=>by rw[aC (fun w:c=a=>by rw[w,ea]at q;exact ht _ (Option.some.inj q))];exact q
end
def Itm(a:Addr)(o:Obj)(zX:List (Key×V)):It :=
 ⟨fun i H=>H a=some (.frz o (.dK zX))/\i<zX.length,fun i H v H'=>∃p k x,v=.ref p/\H p=none/\H'=upd H p (.tup [kV k,x])/\zX[i]?=some (k,x),fun i H=>H a=some (.frz o (.dK zX))/\zX.length<=i⟩
section
variable {P:Program}{w:World}{K:W.Frag}{H:Hp}{h:Heap}{a it:Addr}{zX:List (Key×V)}{o:Obj}{es:Array DictEntry}{ep:Nat}
theorem Q7{vs:List (Key×Value)}(r:KV zX vs){i:Nat}{k:Key}{x:V}(e:zX[i]?=some (k,x)):∃u,vs[i]?=some (k,u)/\RelV x u:=by
 induction r generalizing i with
 |nil=>simp at e
 |cons hq t ih=>
  rename_i p q _ _
  cases i with
  |zero=>
   cases e;obtain⟨k',u⟩:=q;obtain⟨h1,h2⟩:=hq;cases h1;exact⟨u,rfl,h2⟩
  |succ i=>exact ih (by simpa using e)
def zh(ok:HOk P w H h)(e:H a=some (.frz o (.dK zX)))(hd:o.data=.dict es ep):∃vs,KV zX vs/\h.DictAt (bT P w) a vs ep/\vs.length=zX.length:=by
 obtain⟨ho,_,_,vs,r,d⟩:=(show ObjOk P w H h a (.frz o (.dK zX)) from ok a _ e);obtain⟨o',es',ep',g1,g2⟩:=d;rw[ho]at g1;cases g1;obtain⟨g3,g4,g5⟩:=g2;rw[hd]at g4;cases g4;exact⟨vs,r,⟨o,es,ho,g3,hd,g5⟩,(Paired.length r).symm⟩
def xq{elts:List Expr}{x1:Nat}(hd:o.data=.dict es ep)(ne:a≠it):Turn P w K (.Tuple elts x1 ps) (Itm a o zX) [it] it (fun i h=>∃ok ov,IsItemIter h it a i zX.length ep ok ov) where
 mem:=by simp
 obj:=fun i h st b hb=>by
  have e:b=it:=by simpa using hb
  subst e;obtain⟨ok,ov,e⟩:=st;exact⟨_,e,fun v z=>by cases z⟩
 keep:=fun i h h' st k=>by
  obtain⟨ok,ov,e⟩:=st;exact⟨ok,ov,k it (by simp) _ e⟩
 item:=by
  intro X hP hw hK hc i z9 s σ H E I hf st hg;subst hP hw hK;obtain⟨ha,hi⟩:=hg;obtain⟨ok,ov,st⟩:=st;obtain⟨vs,r,dat,hl⟩:=zh I.hok ha hd;obtain⟨⟨k,x⟩,hkv⟩:∃p,p=zX[i]'hi:=⟨_,rfl⟩;have e1:zX[i]?=some (k,x):=by rw[Ya hi,<-hkv]
  obtain⟨u,hu,ru⟩:=Q7 r e1;rw[<-hl]at st;have hn:H s.heap.objs.size=none:=I.hok.fresh (Qa _);have lt:it≠s.heap.objs.size:=Qf (Ag st);refine wpAny_pyNext_items_item st dat hu fun key h' hkey hout hT hsz hk=>⟨_,rfl,wpAny_letOwnedTupleGo_items hout fun g2 z2 sb=>?_⟩;replace sb:Heap.SameBut it h' g2:=sb;have rk:RelV (kV k) key:=Kc hkey;have pT2:g2.get? s.heap.objs.size=some { cls:=.type "tuple",data:=.seq #[key,u] }:=sb.extBut _ _ (Au lt) hT;have I1:L2.Inv X z9 σ (upd H s.heap.objs.size (.tup [kV k,x])) { s with heap:=s.heap.push { cls:=.type "tuple",data:=.seq #[key,u] },toks:=s.toks } :=
   I.laid (fun b o e=>Ab _ e) (Qa _) ⟨show 2<=sizeLine by decide,[key,u],.cons rk (.cons ru .nil),⟨_,Ae _ rfl,rfl,_,rfl⟩⟩
  have ff:∀b∈[it],kf X z9 (upd H s.heap.objs.size (.tup [kV k,x])) b:=fun b hb=>by
   have e:b=it:=by simpa using hb
   obtain⟨f0,f1,f2,f3,f4,f5⟩:=hf b hb;exact⟨by rw[aC (by rw[e];exact lt)];exact f0,f1,f2,f3,f4,f5⟩
  have I2:L2.Inv X z9 σ (upd H s.heap.objs.size (.tup [kV k,x])) { s with heap:=g2,toks:=s.toks }:=by
   refine pL (s:={ s with heap:=s.heap.push { cls:=.type "tuple",data:=.seq #[key,u] },toks:=s.toks }) (t':=s.toks) I1 ff fun c o hc q=>?_;have hc':c≠it:=fun m=>hc (by simp[m])
   rcases Heap.get?_push_cases q with⟨rfl,rfl⟩|q
   ·exact pT2
   ·exact sb.extBut _ _ hc' (hk c o hc' q)
  exact⟨.ref s.heap.objs.size,_,I2,rfl,⟨_,k,x,rfl,hn,rfl,e1⟩,⟨key,u,by rw[hl]at z2;exact z2⟩,fun b hb=>(ff b hb).1⟩
 done:=by
  intro X hP hw hK hc i z9 s σ H E I hf st hg;subst hP hw hK;obtain⟨ha,hi⟩:=hg;obtain⟨ok,ov,st⟩:=st;obtain⟨vs,r,dat,hl⟩:=zh I.hok ha hd;rw[<-hl]at st hi;refine wpAny_pyNext_items_end (I.ok.hd hc) st dat (Qk hi) fun g kp=>⟨rfl,pL (t':=s.toks) I hf fun c o hc q=>?_⟩;exact kp c o (fun m=>hc (by simp[m])) q
 self:=fun _ _ _ _ _ st h=>by
  obtain⟨ok,ov,e⟩:=st;exact W.kcp_self e h
end
section
variable {X:Cx}
def Q8(tl:TE):TI:=fun σ H R=>tl σ H fun x H1=>∃a o zX,x=.ref a/\H1 a=some (.frz o (.dK zX))/\R (Itm a o zX) H1
def G3{ps apos zU:Pos}(ho:PE X o to)(hbase:attributeBase o "items" X.env (eval o X.env)=eval o X.env:=by rfl)(hline:(apos.endLine == zU.line)=true:=by rfl) :
  PI X (.Tuple elts x1 ps) (.Call (.Attribute o "items" apos) [] [] zU) (Q8 to):=by
 intro z9 s σ H R I h;refine wpAny_Call_method0_late hbase hline (dq (ho z9 s σ H _ I h) fun v s1 zz9=>?_);obtain⟨x,H1,I1,r1,a,ob,zX,rfl,ha,q⟩:=zz9;cases r1;obtain⟨ha1,hz,hlo,vs,r,d⟩:=(show ObjOk X.prog X.w H1 s1.heap a (.frz ob (.dK zX)) from I1.hok a _ ha);have hl:vs.length=zX.length:=(Paired.length r).symm;have hty:s1.TypeIs (.ref a) "dict":=d.typeIs;obtain⟨o',es,ep,g1,g3,g4,g5⟩:=id d;rw[ha1]at g1;cases g1;have dat:s1.heap.DictAt (bT X.prog X.w) a vs ep:=⟨ob,es,ha1,g3,g4,g5⟩;refine⟨"dict","dict.items",F.plainAttrs_dict,F.slot_dict_items,F.type_dict_items,hty,d.mapOf.noDict,A7 rfl (PySem.evalArgs_none ?_)⟩;refine call_meetsIn F.slot_dict_items hty F.entry_dict_items (F.args_dict_items_1 _) (meets_dict_items (bT X.prog X.w) a hlo) ⟨⟨vs,d⟩,?_⟩;refine wpAny_pyIter_items (knd:=bT X.prog X.w) ⟨_,Ae _ rfl,rfl,rfl⟩ (dat.at' fun o e=>Ab _ e) ?_;have ne:a≠(s1.heap.push { cls:=.type "dict_items",data:=.fields #[.ref a] }).objs.size:=Qf (Xc (Ag ha1) (by rw[AC];exact Bj _))
 refine⟨_,[_],_,_,H1,rfl,I1.kept (t':=s1.toks) fun b o e=>Ab _ (Ab _ e),xq g4 ne,⟨.none,.none,by rw[<-hl];exact Ae _ rfl⟩,fun b hb=>?_,q⟩
 have e:b=(s1.heap.push { cls:=.type "dict_items",data:=.fields #[.ref a] }).objs.size:=by simpa using hb
 have le:s1.heap.objs.size<=b:=by rw[e,AC];exact Bj _
 exact I1.fpOk le (I1.hok.fresh le)
end
end VF22
namespace VF22
open PySem.Spec PyProof.Rows L2 VF
def Mf(i:Nat)(t:TS):TS:=fun D σ H=>∃a zX,σ[i]?=some (some (.ref a))/\H a=some (.dK zX)/\∀o,t { nx:=fun σ' H'=>H' a=some (.frz o (.dK zX))/\D.nx σ' (upd H' a (.dK zX)),rt:=fun _ _=>False } σ (upd H a (.frz o (.dK zX)))
section
variable {X:Cx}{st:Stmt}{t:TS}
def Kg(i:Nat)(h:PS X st t):PS X st (Mf i t):=by
 intro z9 s σ H D I q;obtain⟨a,zX,_,ea,q⟩:=q;have oa:=I.hok a _ ea;obtain⟨_,_,vs,r,o,es,ep,g1,g2⟩:=id (show ObjOk X.prog X.w H s.heap a (.dK zX) from oa);have nf:∀o u0,X.H₀ a≠some (.frz o u0):=fun o u0 z=>by have:=I.base.frzs a o u0 z;rw[ea]at this;cases this
 have nt:∀xs,X.H₀ a≠some (.tup xs):=fun xs z=>by have:=I.base.tups a xs z;rw[ea]at this;cases this
 have nb:∀ps,X.H₀ a≠some (.tbl ps):=fun ps z=>by obtain⟨_,w⟩:=I.base.tbls a ps z;rw[ea]at w;cases w
 have I1:=zg (u':=.frz o (.dK zX)) I ea nofun nofun nf nt nb ⟨g1,oa⟩;refine dq (h z9 s σ _ _ I1 (q o)) fun fl s1 zz=>?_;cases fl with
 |next=>
  obtain⟨σ',H',I2,e2,q2⟩:=zz;have o2:=I2.hok a _ e2;exact⟨σ',_,zg (u':=.dK zX) I2 e2 nofun nofun nf nt nb o2.2,q2⟩
 |brk=>obtain⟨_,_,_,z⟩:=zz;exact z.elim
 |cont=>obtain⟨_,_,_,z⟩:=zz;exact z.elim
 |ret u=>obtain⟨_,_,_,_,_,z⟩:=zz;exact z.elim
end
def isSc:D->Bool|.non=>true|.bl _=>true|.int _=>true|.str _=>true|_=>false
def kH:Sl->Bool|.e=>true|.v d=>isSc d|.o (.dk ds)=>ds.all fun kd=>isSc kd.2|_=>false
section
variable {K:W.Frag}{Y O O' Z:AS}{H H':Hp}{st:En}{σ:L2.St}{a:Addr}{d:D}{v:V}
theorem DA.sc(h:DA K Y H v d)(c:isSc d=true):DA K Y' H' v d:=by
 cases d with|non=>cases h;exact .non|bl b=>cases h;exact .bl b|int i=>cases h;exact .int i|str x=>cases h;exact .str x|_=>cases c
def zi(E:ER K st σ H O Z)(c:st.all kH=true)(h:∀b,b≠a->H' b=H b)(na:¬ O a)(la:Lv H a->Lv H' a):ER K st σ H' O Z:=by
 rw[Yh]at c;refine⟨E.len,fun i d e=>?_,fun i s d e ow=>?_,E.uni,E.dis,fun p hp=>?_⟩
 ·obtain⟨v,hv,da⟩:=E.val i d e;exact⟨v,hv,DA.sc da (c _ (Wc e))⟩
 ·obtain⟨p,hp,op,oa⟩:=E.own i s d e ow;have cs:=c _ (Wc e);have np:p≠a:=fun z=>na (z ▸ op);refine⟨p,hp,op,?_⟩;cases s with
  |o d'=>
   cases ow;cases d with
   |dk ds=>
    obtain⟨zX,e1,e2,e3⟩:=oa;refine⟨zX,by rw[h p np];exact e1,e2,fun j v d hv hd=>DA.sc (e3 j v d hv hd) ?_⟩
    exact Yh.mp (show(ds.all fun kd=>isSc kd.2)=true from cs) d (Wc hd)
   |_=>cases cs
  |io d'=>cases cs
  |_=>cases ow
 ·by_cases z:p=a
  ·subst z;exact la (E.liv p hp)
  ·have:=E.liv p hp;unfold Lv at this ⊢;rw[h p z];exact this
def kj(ds:List (Key×D)):List D:=ds.map fun kd=>.tup [J0 kd.1,kd.2]
def xt(i:Nat)(fg:FG)(B:FS):FS:=fun st=>match st[i]? with
 | some (.v (.dk ds))=>if ((st.set i .e).all kH&&ds.all fun kd=>isSc kd.2)=true then(cN fg B (kj ds) (st.set i .e)).bind fun o=>match o with|.nx s=>if s.all kH=true then some (.nx s) else none|_=>none else none
 |_=>none
def vR(hg:LO K g fg tg)(hb:qt K tb B):qt K (Mf i (MJ (Q8 (uU i)) g tb)) (xt i fg B):=by
 intro st σ H O Z Dn E out e q;have key:∃ds,st[i]?=some (.v (.dk ds))/\(st.set i .e).all kH=true/\(ds.all fun kd=>isSc kd.2)=true/\∃sf,cN fg B (kj ds) (st.set i .e)=some (.nx sf)/\sf.all kH=true/\out=.nx sf:=by
  unfold xt at e;split at e
  ·rename_i ds hi
   obtain⟨c,e⟩:=aH e;rw[Wf]at c;refine bO e fun o e1 e=>?_;cases o with
   |nx s=>
    obtain⟨c2,e⟩:=aH e;cases e;exact⟨ds,hi,c.1,c.2,s,e1,c2,rfl⟩
   |_=>cases e
  ·cases e
 obtain⟨ds,hi,c1,c2,sf,e1,c3,rfl⟩:=key;obtain⟨v,hv,da⟩:=E.val i _ hi;cases da with
 |@dk a zX _ ny ha hk hd=>
  have na:¬ O a:=fun z=>ny (.inl z);refine⟨a,zX,hv,ha,fun o=>⟨_,hv,a,o,zX,rfl,aQ,?_⟩⟩;have lk:zX.length=ds.length:=by have:=congrArg List.length hk;rwa [Za,Za]at this
  have ln:(kj ds).length=zX.length:=by unfold kj;rw[Za,lk]
  have E1:ER K (st.set i .e) σ (upd H a (.frz o (.dK zX))) O Z:=by
   have E0:ER K (st.set i .e) σ H O Z:=by
    have ne:∀(k:Nat)(s:Sl),(st.set i .e)[k]?=some s->s≠Sl.e->st[k]?=some s:=fun k s h hs=>by
     by_cases z:i=k
     ·subst z;rw[A5 (Yd.mp hi).1]at h;cases h;exact(hs rfl).elim
     ·rwa [Av z]at h
    have no:∀(s:Sl) d,s.ow=some d->s≠Sl.e:=fun s d h w=>by rw[w]at h;cases h
    refine⟨by rw[C5];exact E.len,fun k d h=>E.val k d (ne k _ h nofun),fun k s d h ow=>E.own k s d (ne k s h (no s d ow)) ow,fun k l s t d d' p h1 o1 h2 o2=>E.uni k l s t d d' p (ne k s h1 (no s d o1)) o1 (ne l t h2 (no t d' o2)) o2,E.dis,E.liv⟩
   exact zi E0 c1 (fun b hb=>aC hb) na fun _=>⟨by rw[aQ];exact nofun,fun vs z=>by rw[aQ]at z;cases z⟩
  have fin:∀σ5 H5 O5,Ext O (upd H a (.frz o (.dK zX))) O5 H5->Kq (st.set i .e) σ sf σ5->ER K sf σ5 H5 O5 Z->H5 a=some (.frz o (.dK zX))/\Dn.nx σ5 (upd H5 a (.dK zX)):=fun σ5 H5 O5 x k E5=>by
   have f5:H5 a=some (.frz o (.dK zX)):=x.kp a _ aQ na;have n5:¬ O5 a:=fun z=>by
    rcases x.nw a z with w|w
    ·exact na w
    ·rw[aQ]at w;cases w
   have la:Lv (upd H5 a (.dK zX)) a:=⟨by rw[aQ];exact nofun,fun vs z=>by rw[aQ]at z;cases z⟩
   refine⟨f5,q σ5 _ O5 ⟨fun b o' hb nO=>?_,fun b hb=>?_,fun b hb=>?_,fun b hb=>?_⟩ ⟨by rw[k.len,C5],fun l d h=>k.io l d ?_⟩ (zi E5 c3 (fun b hb=>aC hb) n5 fun _=>la)⟩
   ·by_cases z:b=a
    ·subst z;rw[aQ];rw[ha]at hb;exact hb
    ·rw[aC z];exact x.kp b o' (by rw[aC z];exact hb) nO
   ·rcases x.nw b hb with w|w
    ·exact .inl w
    ·by_cases z:b=a
     ·subst z;exact(n5 hb).elim
     ·rw[aC z]at w;exact .inr w
   ·by_cases z:b=a
    ·subst z;exact la.1
    ·rw[aC z];exact x.al b (by rw[aC z];exact hb)
   ·by_cases z:b=a
    ·subst z;exact la
    ·have:=x.lv b (by unfold Lv at hb ⊢;rw[aC z];exact hb)
     unfold Lv at this ⊢;rw[aC z];exact this
   ·have nl:i≠l:=fun z=>by subst z;rw[hi]at h;cases h
    rw[Av nl];exact h
  refine⟨fun j m σ' H'=>m=zX.length-j/\j<=zX.length/\∃s O',Ext O (upd H a (.frz o (.dK zX))) O' H'/\Kq (st.set i .e) σ s σ'/\ER K s σ' H' O' Z/\cN fg B ((kj ds).drop j) s=some (.nx sf),⟨zX.length,by simp,Xi _,_,O,Ext.refl _ _,Kq.refl _ _,E1,e1⟩,?_⟩
  rintro j m σ' H' ⟨rfl,hle,s,O1,x2,k2,E2,e2⟩;have fa:H' a=some (.frz o (.dK zX)):=x2.kp a _ aQ na;have na1:¬ O1 a:=fun z=>by
   rcases x2.nw a z with w|w
   ·exact na w
   ·rw[aQ]at w;cases w
  by_cases hlt:j<zX.length
  ·right;have hlt':j<(kj ds).length:=by lia
   have hdj:(kj ds).drop j=(kj ds)[j]::(kj ds).drop (j+1):=By hlt';rw[hdj]at e2;refine bO e2 fun s1 e3 e2=>?_;refine bO e2 fun o1 e4 e2=>?_;refine⟨⟨fa,hlt⟩,fun σ3 H3=>∃s O3,Ext O (upd H a (.frz o (.dK zX))) O3 H3/\Kq (st.set i .e) σ s σ3/\ER K s σ3 H3 O3 Z/\cN fg B ((kj ds).drop (j+1)) s=some (.nx sf),fun σ3 H3 ⟨s3,O3,x3,k3,E3,e3'⟩=>⟨zX.length-(j+1),by lia,rfl,hlt,s3,O3,x3,k3,E3,e3'⟩,fun x H'' hy=>?_⟩
   obtain⟨p,k,xv,rfl,hn,rfl,ek⟩:=hy;have sm:=aY hn (.tup [kV k,xv]);have xm:Ext O1 H' O1 (upd H' p (.tup [kV k,xv])):=Same.ext sm;have hdj':ds[j]?=some ds[j]:=Ya (by lia)
   have kk:k=(ds[j]'(by lia)).1:=by
    have:=congrArg (fun l=>l[j]?) hk;simp only[Ve,ek,hdj',Option.map_some]at this;exact Option.some.inj this
   have dv:DA K (U O1 Z) (upd H' p (.tup [kV k,xv])) xv (ds[j]'(by lia)).2:=DA.sc (hd j _ _ ek hdj') (Yh.mp c2 _ (AQ _))
   have ei:(kj ds)[j]=.tup [J0 k,(ds[j]'(by lia)).2]:=by
    have:(kj ds)[j]?=some (.tup [J0 k,(ds[j]'(by lia)).2]):=by unfold kj;rw[Ve,hdj',kk];rfl
    rw[Ya hlt']at this;exact Option.some.inj this
   have dt:DA K (U O1 Z) (upd H' p (.tup [kV k,xv])) (.ref p) (kj ds)[j]:=by
    rw[ei];exact .tup (.inl ⟨aQ,fun z=>(E2.liv p z).1 hn⟩) rfl (El.cons (Op k) (El.one dv)).2
   refine hg s σ' _ O1 Z _ _ _ (E2.same sm) dt s1 e3 fun σ4 _ k4 E4=>?_;refine hb s1 σ4 _ O1 Z _ E4 o1 e4 ?_;have xx:=x2.trans xm;cases o1 with
   |nx s2=>exact fun σ5 H5 O5 x5 k5 E5=>⟨s2,O5,xx.trans x5,(k2.trans k4).trans k5,E5,e2⟩
   |ct s2=>exact fun σ5 H5 O5 x5 k5 E5=>⟨s2,O5,xx.trans x5,(k2.trans k4).trans k5,E5,e2⟩
   |bk s2=>
    cases e2;exact fun σ5 H5 O5 x5 k5 E5=>fin σ5 H5 O5 (xx.trans x5) ((k2.trans k4).trans k5) E5
   |rt y s2=>cases e2
  ·left;have hn:(kj ds).drop j=[]:=BU (by lia)
   rw[hn]at e2;cases e2;exact⟨⟨fa,by lia⟩,fin σ' H' O1 x2 k2 E2⟩
end
end VF22
namespace VT
open PySem.Spec PyProof.Rows L2 VF
section
variable {X:Cx}{o:Expr}{to:TE}{y z:Str}{k1 k2:Nat}{p1 p2 apos zU:Pos}
def Mg(y z:Str)(to:TE):TE:=fun σ H Q=>to σ H fun x H1=>∃a:Str,x=.str a/\a.length<=1048576/\z.length<=14/\Q (.str (Txt.replace a y z)) H1
def pe_repl(hyz:(y == z)=false)(ho:PE X o to)(hbase:attributeBase o "replace" X.env (eval o X.env)=eval o X.env:=by rfl)
  (hfew:((backTo zU (starEach [.Constant (.str y) k1 p1,.Constant (.str z) k2 p2] X.env)).all (fun x=>!x.1)&&(backToKw zU (keywordEach [] X.env)).all (fun x=>x.1.isSome)
   && decide (([.Constant (.str y) k1 p1,.Constant (.str z) k2 p2]:List Expr).length+([]:List Keyword).length+(if ([]:List Keyword).isEmpty then 0 else 1)<30))=true:=by rfl)
  (hline:(apos.endLine == zU.line)=true:=by rfl) (hplain:(backTo zU (starEach [.Constant (.str z) k2 p2] X.env)).any (·.1)=false:=by rfl) :
  PE X (.Call (.Attribute o "replace" apos) [.Constant (.str y) k1 p1,.Constant (.str z) k2 p2] [] zU) (Mg y z to):=by
 intro z9 s σ H Q I h;refine BP hbase hfew hline rfl (dq (ho z9 s σ H _ I h) fun v s1 zz9=>?_);obtain⟨x,H1,I1,r1,a,rfl,ha,hz,q⟩:=zz9;obtain⟨t,rfl⟩:=r1;refine⟨"str","str.replace",PySem.F.plainAttrs_str,PySem.F.slot_str_replace,PySem.F.type_str_replace,AW _ _ _,(fun _ e=>nomatch e),?_⟩;refine A7 (by show(false||(backTo zU (starEach [.Constant (.str z) k2 p2] X.env)).any (·.1))=false;rw[hplain];rfl) (Ca ?_)
 refine AZ (A0 (k:=k1) (pos:=p1) (AZ (A0 (k:=k2) (pos:=p2) (CO ?_))));exact bz (SC.replaceW (Vm I1.tk) (Nat.succ_ne_zero _) (Qf (AN _)) hyz ha hz fun t' k hle=>⟨.str _,H1,I1.tok k (Xc I1.tk (Xd (Xj _ 2) hle)),⟨t',rfl⟩,q⟩)
end
end VT
namespace VT
open PySem.Spec PyProof.Rows L2 VF
section
variable {X:Cx}{z9:List (Addr×Obj)}{σ:L2.St}{H:Hp}{s:Shared}
def uc(I:L2.Inv X z9 σ H s){s':Shared}(hn:s'.heap.Ns X.env.locals mm)(l:Look X.env s'.heap mm x u)
  (q:Q u s')(hd:(x == ("__debug__":Str))=false:=by decide)(hcd:(x == ("__classdict__":Str))=false:=by decide):wpAny (model X.prog X.w) X.A (eval (.Name x pos) X.env) Q E s':=by
 rcases l with⟨hk,hm⟩|⟨hk,c,hc,hcell⟩
 ·exact BO (wpAny_loadName_local I.ok.kind hk hn hm q) hd
 ·rcases hk with hk|hk
  ·exact BO (wpAny_loadName_cell I.ok.kind hk hc hcell q) hd
  ·exact BO (wpAny_loadName_free I.ok.kind hk hc hcell q hcd) hd
def fmt(s1 s2 c:Str):Str:=Str.empty++s1++c++s2
def Kh{y m s1 s2 a c:Str}{p0 p1 p2 p3 pj c1 c2 apos zU:Pos}(I:L2.Inv X z9 σ H s)(n1:s.heap.Ns X.env.locals m1)(ly:Look X.env s.heap m1 y (.str a ta))(n2:s.heap.Ns X.env.locals m2)(lm:Look X.env s.heap m2 m (.str c t0))
  (h0:0<t0)(h1:t0<s.toks)(hcz:(c == fmt s1 s2 c)=false)(ha:a.length<=1048576)(hz:(fmt s1 s2 c).length<=14)(q:∀t' k,s.toks<=k->Q (.str (Txt.replace a c (fmt s1 s2 c)) t') { s with toks:=k })
  (dy:(y == ("__debug__":Str))=false) (dm:(m == ("__debug__":Str))=false) (ey:(y == ("__classdict__":Str))=false) (em:(m == ("__classdict__":Str))=false)
  (hbase:attributeBase (.Name y p0) "replace" X.env (eval (.Name y p0) X.env)=eval (.Name y p0) X.env)
  (hfew:((backTo zU (starEach [.Name m p1,.JoinedStr [.Constant (.str s1) k1 c1,.FormattedValue (.Name m p2) (-1) none p3,.Constant (.str s2) k2 c2] pj] X.env)).all (fun x=>!x.1)&&(backToKw zU (keywordEach [] X.env)).all (fun x=>x.1.isSome)
   && decide (([.Name m p1,.JoinedStr [.Constant (.str s1) k1 c1,.FormattedValue (.Name m p2) (-1) none p3,.Constant (.str s2) k2 c2] pj]:List Expr).length+([]:List Keyword).length+(if ([]:List Keyword).isEmpty then 0 else 1)<30))=true)
  (hline:(apos.endLine == zU.line)=true) :
  wpAny (model X.prog X.w) X.A (eval (.Call (.Attribute (.Name y p0) "replace" apos) [.Name m p1,.JoinedStr [.Constant (.str s1) k1 c1,.FormattedValue (.Name m p2) (-1) none p3,.Constant (.str s2) k2 c2] pj] [] zU) X.env) Q X.xe s:=by
 have lz:(fmt s1 s2 c).length<=sizeLine:=Xd hz (by rw[Bi];decide)
 have l1:(Str.empty++s1).length<=sizeLine:=by
  refine Xd ?_ lz;unfold fmt;simp only[Aj];lia
 have l2:(Str.empty++s1++c).length<=sizeLine:=by
  refine Xd ?_ lz;unfold fmt;simp only[Aj];lia
 have lc:c.length<=sizeLine:=by
  refine Xd ?_ lz;unfold fmt;simp only[Aj];lia
 have end_:∀v k,s.toks<=v->s.toks<=k->wpAny (model X.prog X.w) X.A (call (.builtin "str.replace") [.str a ta,.str c t0,.str (fmt s1 s2 c) v]) Q X.xe { s with toks:=k }:=fun v k hv hk=>
  bz (SC.replaceW (Vm h0) (Vm (Xc I.tk hv)) (Qf (Xc h1 hv)) hcz ha hz fun t' k' hle=>q t' k' (Xd hk hle))
 refine BP hbase hfew hline rfl (uc I n1 ly ?_ dy ey);refine⟨"str","str.replace",PySem.F.plainAttrs_str,PySem.F.slot_str_replace,PySem.F.type_str_replace,AW _ _ _,(fun _ e=>nomatch e),?_⟩;refine A7 rfl (Ca ?_);refine AZ (uc I n2 lm (AZ ?_) dm em);refine wpAny_JoinedStr (pos:=pj) ?_;rw[BB];refine A0 (k:=k1) (pos:=c1) ⟨s1,_,rfl,l1,?_⟩;rw[BB];have rest:∀(v:Tok)(k:Nat),s.toks<=k->Joins (model X.prog X.w) X.A X.xe (evalEach [.Constant (.str s2) k2 c2] X.env) (Str.empty++s1++c) (fun out s₁=>out.length<=sizeLine/\wpAny (model X.prog X.w) X.A (spliced []) (fun vs s₂=>wpAny (model X.prog X.w) X.A (call (.builtin "str.replace") ([.str a ta]++(Value.str c t0::Value.str out s₁.toks::vs)) []) Q X.xe s₂) X.xe { s₁ with toks:=s₁.toks+1 }) { s with toks:=k }:=fun v k hk=>by
  rw[BB];refine A0 (k:=k2) (pos:=c2) ⟨s2,_,rfl,lz,?_⟩;exact⟨lz,CO (end_ _ _ (AJ hk) (AJ (AJ hk)))⟩
 refine C8 (uc (s':={ s with toks:=s.toks+1 }) I n2 lm ?_ dm em);exact wpAny_formatField_str ⟨c,_,rfl,l2,rest t0 _ (Bj _)⟩ ⟨c,_,rfl,l2,rest t0 _ (AJ (Bj _))⟩ lc
end
end VT
namespace VT
open PySem.Spec PyProof.Rows L2 VF
def db(s1 s2:Str):List Nat->Str->Str|[],a=>a|c::cs,a=>db s1 s2 cs (Txt.replace a ⟨#[c]⟩ (fmt s1 s2 ⟨#[c]⟩))
theorem oQ(s1 s2:Str):∀(cs:List Nat)(c:Nat)(a:Str),db s1 s2 (cs++[c]) a=Txt.replace (db s1 s2 cs a) ⟨#[c]⟩ (fmt s1 s2 ⟨#[c]⟩)|[],_,_=>rfl|_::cs,c,a=>oQ s1 s2 cs c _
def Mh(im iy:Nat)(s1 s2:Str)(tl:TE):TS:=fun D σ H=>tl σ H fun x H1=>∃z a:Str,x=.str z/\σ[iy]?=some (some (.str a))/\(∀i,i<z.cps.size->(db s1 s2 (z.cps.toList.take i) a).length<=1048576) /\
 ∀σ':L2.St,σ'.length=σ.length->(∀j,j≠im->j≠iy->σ'[j]?=σ[j]?)->σ'[iy]?=some (some (.str (db s1 s2 z.cps.toList a)))->D.nx σ' H1
section
variable {X:Cx}
def Ki{s:Shared}{x:Str}{tg:Expr}(hn:n="str_ascii_iterator"\/n="str_iterator")(hit:s.heap.IsStrIter it n x t i)(hx:x.cps[i]?=some c)
  (hQ:∀h',h'.IsStrIter it n x t (i+1)->Heap.SameBut it s.heap h'->Q (some (.str ⟨#[c]⟩ s.toks)) { s with heap:=h',toks:=s.toks+1 }):wpAny (model P w) A (pyNext (.ref it)) Q E s:=by
 rcases hn with rfl|rfl
 ·exact wpAny_pyNext_ascii_item hit hx hQ
 ·exact wpAny_pyNext_wide_item hit hx hQ
def next_end{A:Around}{s:Shared}{x:Str}(hn:n="str_ascii_iterator"\/n="str_iterator")(hh:A.handled=none)(hit:s.heap.IsStrIter it n x t i)(hx:x.cps[i]?=none)
  (hQ:∀h',Heap.ExtBut it s.heap h'->Q none { s with heap:=h' }):wpAny (model P w) A (pyNext (.ref it)) Q E s:=by
 rcases hn with rfl|rfl
 ·exact wpAny_pyNext_ascii_end hh hit hx hQ
 ·exact wpAny_pyNext_wide_end hh hit hx hQ
def G4{s:Shared}
  (hQ:∀n,(n="str_ascii_iterator"\/n="str_iterator")->Q (.ref s.heap.objs.size) { s with heap:=s.heap.push { cls:=.type n,data:=.fields #[.str x t,.int 0 0] } }):wpAny (model P w) A (pyIter (.str x t)) Q E s:=by
 cases ha:x.cps.all (·<128)
 ·exact wpAny_pyIter_wide ha (hQ _ (.inr rfl))
 ·exact wpAny_pyIter_ascii ha (hQ _ (.inl rfl))
def ps_frep{p0 p1 p2 p3 pj c1 c2 apos zU pm py pa pos : Pos}(hp : PassesOwn (model X.prog X.w) X.A X.env X.xe)(hc : X.calm = true)(hi : PE X iter tl)
    (hN : X.N.Nodup)(im_ : X.N[im]? = some m)(iy_ : X.N[iy]? = some y)(lm : Loc X.env.scope m)(ly : Loc X.env.scope y)(hmy : im ≠ iy)
    (hcz : ∀ c : Nat, ((⟨#[c]⟩ : Str) == fmt s1 s2 ⟨#[c]⟩) = false) (hz : ∀ c : Nat, (fmt s1 s2 ⟨#[c]⟩).length ≤ 14)
    (dy : (y == ("__debug__" : Str)) = false := by decide) (dm : (m == ("__debug__" : Str)) = false := by decide) (ey : (y == ("__classdict__" : Str)) = false := by decide) (em : (m == ("__classdict__" : Str)) = false := by decide)
    (hbase : attributeBase (.Name y p0) "replace" X.env (eval (.Name y p0) X.env) = eval (.Name y p0) X.env := by rfl)
    (hfew : ((backTo zU (starEach [.Name m p1, .JoinedStr [.Constant (.str s1) k1 c1, .FormattedValue (.Name m p2) (-1) none p3, .Constant (.str s2) k2 c2] pj] X.env)).all (fun x => !x.1) && (backToKw zU (keywordEach [] X.env)).all (fun x => x.1.isSome)
      && decide (([.Name m p1, .JoinedStr [.Constant (.str s1) k1 c1, .FormattedValue (.Name m p2) (-1) none p3, .Constant (.str s2) k2 c2] pj] : List Expr).length + ([] : List Keyword).length + (if ([] : List Keyword).isEmpty then 0 else 1) < 30)) = true := by rfl)
    (hline : (apos.endLine == zU.line) = true := by rfl)
    (hsw : swapsWith (.Call (.Attribute (.Name y p0) "replace" apos) [.Name m p1, .JoinedStr [.Constant (.str s1) k1 c1, .FormattedValue (.Name m p2) (-1) none p3, .Constant (.str s2) k2 c2] pj] [] zU) (some (.Name y py)) pa.line X.env = pure false := by rfl)
    (fm : X.fn m = true\/X.env.scope.names.lookup m = some .local := by first | exact .inl rfl | exact .inr rfl | assumption) (fy : X.fn y = true\/X.env.scope.names.lookup y = some .local := by first | exact .inl rfl | exact .inr rfl | assumption)
    (hs : ∀ x, foldedSetIterable iter X.env x = pure x := by intro _; rfl) :
    PS X (.For (.Name m pm) iter [.Assign [.Name y py] (.Call (.Attribute (.Name y p0) "replace" apos) [.Name m p1, .JoinedStr [.Constant (.str s1) k1 c1, .FormattedValue (.Name m p2) (-1) none p3, .Constant (.str s2) k2 c2] pj] [] zU) pa] [] pos) (Mh im iy s1 s2 tl) := by
  intro z9 s σ H D I h;refine wpAny_For (dq (hi z9 s σ H _ I h) fun v s1' zz9 => ?_) hs;obtain ⟨x, H1, I1, r1, z, a, rfl, ha, hl, q⟩ := zz9;obtain ⟨t, rfl⟩ := r1;refine G4 fun n hn => ?_;have lσ : ∀ {σ' : L2.St}, σ'.length = σ.length → im < σ'.length ∧ iy < σ'.length := fun {σ'} e => by
    rw [e, I.len];exact ⟨(List.getElem?_eq_some_iff.mp im_).1, (List.getElem?_eq_some_iff.mp iy_).1⟩
  have fok := I1.fpOk (b := s1'.heap.objs.size) (Nat.le_refl _) (I1.hok.fresh (Nat.le_refl _));have I2 : Inv X z9 σ H1 { s1' with heap := s1'.heap.push { cls := .type n, data := .fields #[.str z t, .int 0 0] } } := I1.kept (t' := s1'.toks) fun b o e => Ab _ e;have st2 : Heap.IsStrIter (Shared.heap { s1' with heap := s1'.heap.push { cls := .type n, data := .fields #[.str z t, .int 0 0] } }) s1'.heap.objs.size n z t 0 := ⟨_, Ae _ rfl, rfl, rfl⟩;revert st2 I2;generalize ({ s1' with heap := s1'.heap.push { cls := .type n, data := .fields #[.str z t, .int 0 0] } } : Shared) = s2';intro I2 st2;generalize s1'.heap.objs.size = it at fok st2 ⊢;obtain ⟨f0, f1, f2, f3, f4, f5⟩ := id fok;refine codeAny_forLoop_any (fun k s' => ∃ i σ', Inv X z9 σ' H1 s' ∧ s'.heap.IsStrIter it n z t i ∧ i ≤ z.cps.size ∧ k = z.cps.size - i ∧ σ'.length = σ.length ∧ (∀ j, j ≠ im → j ≠ iy → σ'[j]? = σ[j]?) ∧ σ'[iy]? = some (some (.str (db s1 s2 (z.cps.toList.take i) a)))) ?_ z.cps.size
    ⟨0, σ, I2, st2, Nat.zero_le _, rfl, rfl, fun _ _ _ => rfl, ha⟩
  rintro k s3 ⟨i, σ3, I3, st3, li, rfl, len3, oth3, y3⟩;by_cases hlt : i < z.cps.size
  · have hx : z.cps[i]? = some z.cps[i] := by simp [hlt]
    generalize hcc : z.cps[i] = c at hx;refine Aq hp (Ki (tg := .Name m pm) hn st3 hx fun h' st4 sb => ?_);have I4 : Inv X z9 σ3 H1 { s3 with heap := h', toks := s3.toks + 1 } := I3.turned (fun b o hb e => sb.extBut b o hb e) f0 f1 f3 f4 f5;have st4' : Heap.IsStrIter (Shared.heap { s3 with heap := h', toks := s3.toks + 1 }) it n z t (i + 1) := st4;obtain ⟨o, e, oc, od⟩ := id st4;refine Aq hp (oI e oc od (by rcases hn with rfl | rfl <;> decide) ?_)
    have tk4 : s3.toks < Shared.toks { s3 with heap := h', toks := s3.toks + 1 } := AN _;have t0 : 0 < s3.toks := I3.tk;revert I4 st4' tk4;generalize s3.toks = tc at t0;generalize ({ s3 with heap := h', toks := tc + 1 } : Shared) = s4;intro I4 st4 tk4
    have I4' := I4.pinned (fp := [it]) (fun b hb => by have e : b = it := by simpa using hb
                                                       subst e; exact fok) (fun b hb => by have e : b = it := by simpa using hb
                                                                                           subst e; obtain ⟨o, e, c, d⟩ := st4; exact ⟨o, e, fun v z => by rw [d] at z; cases z⟩)
    refine Aq hp (CC (bz (nU I4' hN im_ lm (v := .str ⟨#[c]⟩) ⟨tc, rfl⟩ (fun s5 I5 _ lk up => ?_) fm)));obtain ⟨m2, n2, lk2⟩ := lk;have tk5 : tc < s5.toks := Ct tk4 up;obtain ⟨m1, n1, hl1⟩ := id I5.loc;have len5 : (σ3.set im (some (V.str ⟨#[c]⟩))).length = σ.length := by simp [len3]
    obtain ⟨u, ⟨ta, rfl⟩, lk1⟩ := hl1 iy y (.str (db s1 s2 (z.cps.toList.take i) a)) iy_ (by rw [Av hmy]; exact y3) (ly.elim .inl fun z => .inr (.inl z))
    refine Aq hp (CQ (wpAny_Assign_Name (Kh I5 n1 lk1 n2 lk2 t0 tk5 (hcz c) (hl i hlt) (hz c) (fun t' k' hk => ?_) dy dm ey em hbase hfew hline) hsw));refine uT (I5.tok k' (Ct I5.tk hk)) hN iy_ ly (v := .str (Txt.replace (db s1 s2 (z.cps.toList.take i) a) ⟨#[c]⟩ (fmt s1 s2 ⟨#[c]⟩))) ⟨t', rfl⟩ (fun s6 I6 => ?_) fy;refine AV ⟨z.cps.size - (i + 1), by lia, i + 1, _, I6.unpinned, ?_, hlt, rfl, by simp [len3], fun j h1 h2 => ?_, ?_⟩
    · obtain ⟨o, e, oc, od⟩ := st4
      exact ⟨o, (I6.pin (it, o) (B3 _ (B3 _ (gG (by simp) e)))).1, oc, od⟩
    · rw [Av (Au h2), Av (Au h1)]
      exact oth3 j h1 h2
    · rw [A5 (by simp [(lσ len3).2])]
      have : z.cps.toList.take (i + 1) = z.cps.toList.take i ++ [c] := by
        rw [List.take_succ]; simp [hx]
      rw [this, oQ]
  · have e : i = z.cps.size := by lia
    subst e;refine Aq hp (next_end hn (I3.ok.hd hc) st3 (by simp) fun h' eb => ?_)
    refine AV ⟨σ3, H1, I3.turned (t' := s3.toks) (fun b o hb e => eb b o hb e) f0 f1 f3 f4 f5, q σ3 len3 oth3 ?_⟩;have : z.cps.toList.take z.cps.size = z.cps.toList := by rw [<-Array.length_toList, CW]
    rw [this] at y3;exact y3
end
end VT
namespace VT
open PySem.Spec PyProof.Rows L2 VF
section
variable {K:W.Frag}
def fRepl(y z:Str)(fe:FE):FE:=fun st=>(fe st).bind fun x=>match cont x.2 x.1 with|some (.str a)=>if a.length<=1048576/\z.length<=14 then some (.d (.str (Txt.replace a y z)),x.2) else none|_=>none
theorem rd_repl(h:dU K te fe):dU K (Mg y z te) (fRepl y z fe):=by
 intro st σ H O Z Q E r zW e q;refine dD e fun r1 zV e1 e=>?_;refine h st σ H O Z _ E r1 zV e1 fun v H1 O1 x1 k1 E1 rv w1=>?_;cases hc:cont zV r1 with
 |none=>rw[hc]at e;cases e
 |some d=>
  rw[hc]at e;have b:=rv.ba E1 hc;cases d with
  |str a=>
   have e':(if a.length<=1048576/\z.length<=14 then some (Rs.d (.str (Txt.replace a y z)),zV) else none)=some (r,zW):=e;by_cases c:a.length<=1048576/\z.length<=14
   ·rw[if_pos c]at e';cases e';exact⟨a,b,c.1,c.2,q _ H1 O1 x1 k1 E1 (show DA K (U O1 Z) H1 _ _ from .str _) trivial⟩
   ·rw[Ah c]at e';cases e'
  |_=>cases e
def lN(s1 s2:Str):List Nat->Str->Bool|[],_=>true|c::cs,a=>decide (a.length<=1048576)&&lN s1 s2 cs (Txt.replace a ⟨#[c]⟩ (fmt s1 s2 ⟨#[c]⟩))
theorem vS:∀{cs:List Nat}{a:Str},lN s1 s2 cs a=true->∀i,i<cs.length->(db s1 s2 (cs.take i) a).length<=1048576
 |[],_,_,i,hi=>absurd hi (BZ _)
 | c::cs,a,h,0,_=>by
  have h':(decide (a.length<=1048576)&&lN s1 s2 cs (Txt.replace a ⟨#[c]⟩ (fmt s1 s2 ⟨#[c]⟩)))=true:=h;simp only[Wf,decide_eq_true_eq]at h';exact h'.1
 | c::cs,a,h,i+1,hi=>by
  have h':(decide (a.length<=1048576)&&lN s1 s2 cs (Txt.replace a ⟨#[c]⟩ (fmt s1 s2 ⟨#[c]⟩)))=true:=h;simp only[Wf,decide_eq_true_eq]at h';exact vS h'.2 i (Do hi)
def sFRep(im iy:Nat)(s1 s2:Str)(fe:FE):FS:=fun st=>(fe st).bind fun x=>match cont x.2 x.1,x.2[iy]?,x.2[im]? with|some (.str z),some (.v (.str a)),some .e=>if lN s1 s2 z.cps.toList a=true then some (.nx (x.2.set iy (.v (.str (db s1 s2 z.cps.toList a))))) else none|_,_,_=>none
def G5{im iy:Nat}{s1 s2:Str}{st:En}{o:Ot}(h:sFRep im iy s1 s2 fe st=some o):∃r zV z a,fe st=some (r,zV)/\cont zV r=some (.str z)/\zV[iy]?=some (.v (.str a))/\zV[im]?=some .e/\lN s1 s2 z.cps.toList a=true/\o=.nx (zV.set iy (.v (.str (db s1 s2 z.cps.toList a)))):=by
 refine dD h fun r zV e1 e=>?_;simp only at e;split at e
 ·rename_i z a h1 h2 h3
  split at e
  ·rename_i hk
   cases e;exact⟨r,zV,z,a,e1,h1,h2,h3,hk,rfl⟩
  ·cases e
 ·cases e
def rs_frep(h:dU K te fe):qt K (Mh im iy s1 s2 te) (sFRep im iy s1 s2 fe):=by
 intro st σ H O Z Dn E o e q;obtain⟨r,zV,z,a,e1,hc,hy,hm,hk,rfl⟩:=G5 e;refine h st σ H O Z _ E r zV e1 fun v H1 O1 x1 k1 E1 rv w1=>?_;have hmy:im≠iy:=fun e=>by rw[e,hy]at hm;cases hm
 obtain⟨u,hu,hd⟩:=E1.val iy _ hy;have hu':u=.str a:=hd.ba;subst hu';refine⟨z,a,rv.ba E1 hc,hu,fun i hi=>vS hk i (by simpa using hi),fun σ' l1 l2 l3=>?_⟩
 have io:∀(i:Nat) d,zV[i]?=some (.io d)->i≠im/\i≠iy:=fun i d h=>⟨(fun e=>by rw[e,hm]at h;cases h),(fun e=>by rw[e,hy]at h;cases h)⟩
 refine q σ' H1 O1 x1 (k1.kq.trans ⟨by simp,fun i d h=>?_⟩) ?_
 ·obtain⟨n1,n2⟩:=io i d h;exact⟨l2 i n1 n2,d,by rw[ax (Au n2)];exact h⟩
 have ne:∀(j:Nat) s x,(zV.set iy (.v (.str (db s1 s2 z.cps.toList a))))[j]?=some s->s.ow=some x->zV[j]?=some s/\σ'[j]?=σ[j]?:=fun j s x h1 h2=>by
  by_cases q:iy=j
  ·subst q;rw[aZ hy]at h1;cases h1;cases h2
  ·rw[ax q]at h1;exact⟨h1,l2 j (fun e=>by rw[e,hm]at h1;cases h1;cases h2) (Au q)⟩
 refine⟨by simp[E1.len,l1],fun j x hj=>?_,fun j s x h1 h2=>?_,fun j k s t x x' r h1 h2 h3 h4 h5 h6=>?_,E1.dis,E1.liv⟩
 ·by_cases q:iy=j
  ·subst q;rw[aZ hy]at hj;cases hj;exact⟨_,l3,.str _⟩
  ·rw[ax q]at hj;obtain⟨w,g1,g2⟩:=E1.val j x hj;exact⟨w,by rw[l2 j (fun e=>by rw[e,hm]at hj;cases hj) (Au q)];exact g1,g2⟩
 ·obtain⟨a1,a2⟩:=ne j s x h1 h2;obtain⟨p,g1,g2,g3⟩:=E1.own j s x a1 h2;exact⟨p,by rw[a2];exact g1,g2,g3⟩
 ·obtain⟨a1,a2⟩:=ne j s x h1 h2;obtain⟨b1,b2⟩:=ne k t x' h3 h4;rw[a2]at h5;rw[b2]at h6;exact E1.uni j k s t x x' r a1 h2 b1 h4 h5 h6
end
end VT
namespace VF22
open PySem.Spec PyProof.Rows L2 VF
section
variable {X:Cx}{K:W.Frag}{P:Program}{w:World}{rows:List (Str×Str)}
def fS(rows:List (Str×Str))(a:Str):Option Str:=(rows.find? fun r=>decide (r.1=a)).map (·.2)
def Ox(rows:List (Str×Str)):List (Key×V):=rows.map fun r=>(Sum.inr r.1,V.str r.2)
theorem qI(a:Str):∀rows,lK (Ox rows) (Sum.inr a)=(fS rows a).map V.str
 |[]=>rfl
 | r::rows=>by
  have ih:=qI a rows;by_cases e:r.1=a
  ·have b:fS (r::rows) a=some r.2:=by simp[fS,Qi,e]
   rw[b];exact ku (show(Sum.inr r.1:Key)=Sum.inr a by rw[e])
  ·have b:fS (r::rows) a=fS rows a:=by simp[fS,Qi,e]
   rw[b,<-ih];exact kw (show ¬ (Sum.inr r.1:Key)=Sum.inr a from fun z=>e (Sum.inr.inj z))
def GD(P:Program)(w:World)(K:W.Frag)(C:Addr)(rows:List (Str×Str)):Prop :=
 (C == sysModules)=false/\∃o es ep,K.lookup C=some o/\o.ExactDict/\o.data=.dict es ep/\KeysOf (bT P w) es/\∃vs,Pairs (bT P w) es.toList vs/\(vs.map (·.1)).Nodup/\KV (Ox rows) vs
def GD.of{s:Shared}(g:GD X.prog X.w K C rows)(I:Inv X z9 σ H s)(hK:X.K=K):(C == sysModules)=false/\∃vs,KV (Ox rows) vs/\s.heap.DictOf (bT X.prog X.w) C vs:=by
 subst hK;obtain⟨h0,o,es,ep,h1,h2,h3,h4,vs,h5,h6,h7⟩:=g;exact⟨h0,vs,h7,o,es,ep,I.kIn _ _ h1,h2,h3,h4,h5,h6⟩
def SW(P:Program)(w:World)(K:W.Frag)(mg:Str->Option Value)(x:Str)(rows:List (Str×Str)):Prop:=∃C,mg x=some (.ref C)/\GD P w K C rows
def T6(P:Program)(w:World)(K:W.Frag)(rows:List (Str×Str)):TE:=fun _ H Q=>∀C,GD P w K C rows->Q (.ref C) H
def Q9(hg:Gl X x)(hm:SW P w K X.mg x rows)(hd:(x == ("__debug__":Str))=false:=by decide):PE X (.Name x pos) (T6 P w K rows):=by
 obtain⟨a,e,g⟩:=hm;exact fun _ _ _ H _ I q=>lg I hg e ⟨.ref a,H,I,rfl,q a g⟩ hd
def Mi(P:Program)(w:World)(K:W.Frag)(neg:Bool)(rows:List (Str×Str)):R2:=fun x y H Q=>∃(a:Str)(C:Addr),x=.str a/\y=.ref C/\GD P w K C rows/\Q (.bl (if neg then !(fS rows a).isSome else(fS rows a).isSome)) H
def xu(hK:X.K=K):OpR X (compareOp .NotIn) (Mi X.prog X.w K true rows):=by
 intro z9 s σ H x y v u Q I rx ry ⟨a,C,ex,ey,g,q⟩;subst ex;subst ey;cases ry;obtain⟨hd,vs,rel,dd⟩:=g.of I hK;refine wpAny_notIn_of (sk (k:=Sum.inr a) rx) hd dd.mapOf ?_;rw[<-(rel.val (Sum.inr a)).isSome_eq,qI,BC];exact⟨.bl _,H,I.tok _,rfl,q⟩
def zj(neg:Bool)(rows:List (Str×Str))(fe:FE):FE:=fun st=>(fe st).bind fun x=>(cont x.2 x.1).bind fun d=>match d with|.str a=>some (.d (.bl (if neg then !(fS rows a).isSome else(fS rows a).isSome)),x.2)|_=>none
theorem zk(h:dU K te fe):dU K (EO (Mi P w K neg rows) te (T6 P w K rows)) (zj neg rows fe):=by
 intro st σ H O Z Q E r' zW h' q;refine dD h' fun r1 zV e1 h'=>?_;refine bO h' fun d1 e3 h'=>?_;refine h st σ H O Z _ E r1 zV e1 fun v1 H1 O1 x1 k1 E1 rv1 w1=>fun C g=>?_;have b:=rv1.ba E1 e3;cases d1 with
 |str a=>
  cases h';exact⟨a,C,b,rfl,g,q _ H1 O1 x1 k1 E1 (.bl _) True.intro⟩
 |_=>cases h'
def Ra(rows:List (Str×Str))(ti:TE):TE:=fun σ H Q=>ti σ H fun y H1=>∃a b:Str,y=.str a/\fS rows a=some b/\Q (.str b) H1
def vT(hK:X.K=K)(hg:Gl X x)(hm:SW X.prog X.w K X.mg x rows)(hi:PE X i ti)(hs:I0 i)(hd:(x == ("__debug__":Str))=false:=by decide):PE X (.Subscript (.Name x p) i pos) (Ra rows ti):=by
 obtain⟨C,e,g⟩:=hm;intro z9 s σ H Q I h;refine ye PySem.F.slot_dict_getitem.lookup hs (lg I hg e (dq (hi z9 s σ H _ I h) fun iv s2 zz9=>?_) hd);obtain⟨y,H2,I2,ry,a,b,ey,l,q2⟩:=zz9;subst ey;obtain⟨hd,vs,rel,dd⟩:=g.of I2 hK;obtain⟨w',hw,rw'⟩:=RelO.some_of (v:=V.str b) (o:=valueAt vs (Sum.inr a)) (by have:=rel.val (Sum.inr a);rw[qI,l]at this;exact this)
 exact⟨dd.typeIs,wpAny_getItem_of (sk (k:=Sum.inr a) ry) dd.mapOf hw ⟨.str b,H2,I2.tok _,rw',q2⟩⟩
def G6(rows:List (Str×Str))(fe:FE):FE:=fun st=>(fe st).bind fun x=>(cont x.2 x.1).bind fun d=>match d with|.str a=>(fS rows a).bind fun b=>some (.d (.str b),x.2)|_=>none
theorem G7(h:dU K te fe):dU K (Ra rows te) (G6 rows fe):=by
 intro st σ H O Z Q E r' zW h' q;refine dD h' fun r1 zV e1 h'=>?_;refine bO h' fun d1 e3 h'=>?_;refine h st σ H O Z _ E r1 zV e1 fun v1 H1 O1 x1 k1 E1 rv1 w1=>?_;have b:=rv1.ba E1 e3;cases d1 with
 |str a=>
  obtain⟨c,hc,h'⟩:=Zm.mp h';cases h';exact⟨a,c,b,hc,q _ H1 O1 x1 k1 E1 (.str _) True.intro⟩
 |_=>cases h'
end
end VF22
namespace VT
open PySem.Spec PyProof.Rows L2 VF
def zm(s1 s2:Str)(c:Nat):(fmt s1 s2 ⟨#[c]⟩).length=s1.length+1+s2.length:=by
 unfold fmt;simp only[Aj];show 0+s1.length+1+s2.length=_;lia
def cz_b(c:Nat):((⟨#[c]⟩:Str) == fmt " " " " ⟨#[c]⟩)=false:=by
 rw[beq_eq_false_iff_ne];intro e;have:=congrArg Str.length e;rw[zm]at this;have h1:Str.length " "=1:=by decide +kernel
 have h2:Str.length ⟨#[c]⟩=1:=rfl;lia
def hz_b(c:Nat):(fmt " " " " ⟨#[c]⟩).length<=14:=by
 rw[zm];have h1:Str.length " "=1:=by decide +kernel
 lia
end VT
namespace VF22
open PySem.Spec PyProof.Rows L2 VF
def gd_mk2{w:World}{K:W.Frag}{C:Addr}{n:Nat}{a1 b1 a2 b2:Str}{t1 t2 t3 t4:Tok}
  (h:K.lookup C=some ⟨.type "dict",none,.dict #[⟨PyData.keyHash w.params a1,.str a1 t1,.str b1 t2⟩,⟨PyData.keyHash w.params a2,.str a2 t3,.str b2 t4⟩] n,#[]⟩)(hC:(C == sysModules)=false)(ne:a1≠a2):GD P w K C [(a1,b1),(a2,b2)]:=by
 refine⟨hC,_,_,n,h,⟨rfl,rfl,rfl⟩,rfl,fun e he=>?_,[(Sum.inr a1,.str b1 t2),(Sum.inr a2,.str b2 t4)],.cons (fO P w a1 t1) rfl (.cons (fO P w a2 t3) rfl .nil),?_,.cons ⟨rfl,t2,rfl⟩ (.cons ⟨rfl,t4,rfl⟩ .nil)⟩
 ·have he:e∈[(⟨PyData.keyHash w.params a1,.str a1 t1,.str b1 t2⟩:DictEntry),⟨PyData.keyHash w.params a2,.str a2 t3,.str b2 t4⟩]:=by simpa using he
  rcases Wd.mp he with rfl|he
  ·exact⟨Sum.inr a1,fO P w a1 t1,rfl⟩
  ·rcases Wd.mp he with rfl|he
   ·exact⟨Sum.inr a2,fO P w a2 t3,rfl⟩
   ·exact nomatch he
 ·show([Sum.inr a1,Sum.inr a2]:List Key).Nodup;simp[ne]
end VF22
namespace VF
open PySem.Spec PyProof.Rows L2
section
variable {X:Cx}{K:W.Frag}
def G8(K:W.Frag):V->List V->Hp->VK->Prop:=fun x vs H Q=>∃(sep:Str)(p:Addr)(ys:List Str),x=.str sep/\vs=[.ref p]/\(ii K H p (ys.map V.str)\/kl K H p (ys.map V.str))/\(ys.map (·.length)).sum+ys.length*sep.length<=16777216/\Q (.str (Txt.join sep ys)) H
def G9(h:X.K=K):Px X "str.join" (G8 K):=by
 subst h;intro z9 s σ H x vs v us Q I rx rv h;obtain⟨sep,p,ys,rfl,rfl,hq,hz,q⟩:=h;obtain⟨t,rfl⟩:=rx;obtain⟨u,rfl,ru⟩:=vals1 rv;cases ru;rcases hq with hq|hq
 ·obtain⟨its,r,pl,_⟩:=I.list hq;exact bz (join_list pl.isList (jk (by simpa using r)) hz fun t' k hle=>⟨.str _,H,I.tok k (I.tkl' hle),⟨t',rfl⟩,q⟩)
 ·obtain⟨its,r,pl,_⟩:=I.tuple hq;exact bz (join_tuple pl (jk (by simpa using r)) hz fun t' k hle=>⟨.str _,H,I.tok k (I.tkl' hle),⟨t',rfl⟩,q⟩)
def ud:D->List D->Option Rz|.str sep,[d]=>(d.seq).bind fun ds=>(fD ds).bind fun ys=>if (ys.map (·.length)).sum+ys.length*sep.length<=16777216 then some (.str (Txt.join sep ys),false) else none|_,_=>none
theorem vU:D1 K (G8 K) ud:=by
 intro Y H x xs d ds z Q lv b1 bs e q;cases d with
 |str sep=>
  cases bs with
  |nil=>cases e
  |@cons v vs d ds b2 bs=>
   cases bs with
   |cons _ _=>cases e
   |nil=>
    refine bO (show(d.seq).bind _=_ from e) fun es e0 e=>?_;refine bO e fun ys e1 e=>?_;obtain⟨c,e⟩:=aH e;cases e;obtain⟨p,ws,rfl,hp,el⟩:=qw b2 e0;obtain rfl:=i9 el e1;exact⟨sep,p,ys,b1,rfl,hp,c,q _ H (Same.refl H) (.str _)⟩
 |_=>cases e
def Ha{sep:Str}{ys:List Str}(h:(ys.map (·.length)).sum+ys.length*sep.length<=16777216):ud (.str sep) [.tup (ys.map D.str)]=some (.str (Txt.join sep ys),false):=by
 show(fD (ys.map D.str)).bind _=_;rw[fE];exact if_pos h
def Hb{sep:Str}{ys:List Str}(h:(ys.map (·.length)).sum+ys.length*sep.length<=16777216):sD (.str sep) [.lst (ys.map D.str)]=some (.str (Txt.join sep ys),false):=by
 show(fD (ys.map D.str)).bind _=_;rw[fE];exact if_pos h
end
end VF
namespace VT
open PySem.Spec PyProof.Rows L2 VF
def rp(c:Nat)(z:List Nat)(k:Nat):List Nat:=if k=c then z else [k]
theorem ue(c:Nat)(z:List Nat):∀l:List Nat,c∉l->l.flatMap (rp c z)=l
 |[],_=>rfl
 | k::r,h=>by
  have h1:¬ k=c:=fun e=>h (e ▸ Va ..);rw[Xb,ue c z r fun m=>h (Wa _ m),rp,Ah h1];rfl
theorem zn(c:Nat)(z:Str):∀parts:List Str,(∀p∈parts,c∉p.cps.toList)->(Str.join ⟨#[c]⟩ parts).cps.toList.flatMap (rp c z.cps.toList)=(Str.join z parts).cps.toList
 |[],_=>rfl
 |[p],h=>ue c _ _ (h p (Zd.mpr rfl))
 | p::q::r,h=>by
  have ih:=zn c z (q::r) fun a ha=>h a (Wa _ ha);show(p++⟨#[c]⟩++Str.join ⟨#[c]⟩ (q::r)).cps.toList.flatMap (rp c z.cps.toList)=(p++z++Str.join z (q::r)).cps.toList;simp only[AA,Yj,Yf];rw[ih,ue c _ _ (h p (Va ..))];show p.cps.toList++(rp c z.cps.toList c++[])++_=_;rw[rp,if_pos rfl,Ze]
def qJ(x z:Str)(c:Nat):(Txt.replace x ⟨#[c]⟩ z).cps.toList=x.cps.toList.flatMap (rp c z.cps.toList):=by
 rw[StrLaws.replace_one,<-zn c z _ (StrLaws.split_free x c),StrLaws.join_split]
def Mj(cs:List Nat)(k:Nat):List Nat:=if k∈cs then [32,k,32] else [k]
theorem kI:∀{l:List α},(∀a∈l,f a=g a)->l.flatMap f=l.flatMap g|[],_=>rfl|a::l,h=>by rw[Xb,Xb,h a (Va ..),kI fun b hb=>h b (Wa _ hb)]
def zo(c:Nat):(fmt " " " " ⟨#[c]⟩).cps.toList=[32,c,32]:=by
 unfold fmt;simp only[AA,Yj];rfl
theorem qK:∀(cs:List Nat)(a:Str),32∉cs->cs.Nodup->(db " " " " cs a).cps.toList=a.cps.toList.flatMap (Mj cs)
 | [],a,_,_=>by
  show a.cps.toList=_;have:a.cps.toList.flatMap (Mj [])=a.cps.toList.flatMap fun k=>[k]:=kI fun k _=>by simp[Mj]
  rw[this];simp
 | c::cs,a,h,n=>by
  have nc:c∉cs:=(Zh.mp n).1;have hb:32∉cs:=fun m=>h (Wa _ m);show(db " " " " cs (Txt.replace a ⟨#[c]⟩ (fmt " " " " ⟨#[c]⟩))).cps.toList=_;rw[qK cs _ hb (Zh.mp n).2,qJ,List.flatMap_assoc,zo];refine kI fun k _=>?_;by_cases e:k=c
  ·subst e;simp[rp,Mj,nc,hb]
  ·simp[rp,Mj,e]
theorem qL:∀(cs:List Nat)(a:Str),(db " " " " cs a).cps.toList.length<=3 ^ cs.length*a.cps.toList.length
 |[],a=>by show a.cps.toList.length<=_;simp
 | c::cs,a=>by
  have ih:=qL cs (Txt.replace a ⟨#[c]⟩ (fmt " " " " ⟨#[c]⟩));have h1:(Txt.replace a ⟨#[c]⟩ (fmt " " " " ⟨#[c]⟩)).cps.toList.length<=3*a.cps.toList.length:=by
   rw[qJ,zo];generalize a.cps.toList=l;induction l with
   |nil=>simp
   |cons k r ih=>
    rw[Xb,Xa,Vc];have:(rp c [32,c,32] k).length<=3:=by unfold rp;split<;>simp
    lia
  show(db " " " " cs (Txt.replace a ⟨#[c]⟩ (fmt " " " " ⟨#[c]⟩))).cps.toList.length<=_;refine Xd ih ?_;rw[Vc,Nat.pow_succ,Nat.mul_assoc];exact Nat.mul_le_mul_left _ h1
theorem vV:∀(cs:List Nat)(a:Str),3 ^ cs.length*a.cps.toList.length<=1048576->lN " " " " cs a=true
 |[],_,_=>rfl
 | c::cs,a,h=>by
  have h1:(Txt.replace a ⟨#[c]⟩ (fmt " " " " ⟨#[c]⟩)).cps.toList.length<=3*a.cps.toList.length:=by
   have:=qL [c] a;simpa[db]using this
  have hp:1<=3 ^ cs.length:=Nat.one_le_pow _ _ (by decide)
  rw[Vc,Nat.pow_succ,Nat.mul_assoc]at h;have h2:3*a.cps.toList.length<=3 ^ cs.length*(3*a.cps.toList.length):=Nat.le_mul_of_pos_left _ hp;have e:lN " " " " (c::cs) a=(decide (a.length<=1048576)&&lN " " " " cs (Txt.replace a ⟨#[c]⟩ (fmt " " " " ⟨#[c]⟩))):=rfl;rw[e,vV cs _ (Xd (Nat.mul_le_mul_left _ h1) h),Bool.and_true];have:a.length=a.cps.toList.length:=by simp[Str.length]
  simp only[decide_eq_true_eq];lia
def em(acc:List Nat):List (List Nat):=if acc=[] then [] else [acc]
def wd:List Nat->List Nat->List (List Nat)|acc,[]=>em acc|acc,k::r=>if k=32 then em acc++wd [] r else wd (acc++[k]) r
theorem uf:∀(p acc r:List Nat),32∉p->wd acc (p++r)=wd (acc++p) r
 |[],acc,r,_=>by simp
 | k::p,acc,r,h=>by
  have h1:¬ k=32:=fun e=>h (e ▸ Va ..);show(if k=32 then em acc++wd [] (p++r) else wd (acc++[k]) (p++r))=_;rw[Ah h1,uf p (acc++[k]) r fun m=>h (Wa _ m),Zc];rfl
theorem zp:∀(ps:List Str),(∀p∈ps,32∉p.cps.toList)->wd [] (Str.join ⟨#[32]⟩ ps).cps.toList=(ps.map fun p=>p.cps.toList).filter (fun p=>!p.isEmpty)
 |[],_=>rfl
 | [p],h=>by
  show wd [] p.cps.toList=_;have:=uf p.cps.toList [] [] (h p (Zd.mpr rfl));rw[Ze,Wk]at this;rw[this];show em p.cps.toList=_;cases e:p.cps.toList with|nil=>simp[em,e]|cons a b=>simp[em,e]
 | p::q::r,h=>by
  have ih:=zp (q::r) fun a ha=>h a (Wa _ ha);show wd [] (p++⟨#[32]⟩++Str.join ⟨#[32]⟩ (q::r)).cps.toList=_;simp only[AA,Yj];rw[Zc,uf _ _ _ (h p (Va ..)),Wk];show(if 32=32 then em p.cps.toList++wd [] (Str.join ⟨#[32]⟩ (q::r)).cps.toList else _)=_;rw[if_pos rfl,ih];show _=((p.cps.toList)::((q::r).map fun p=>p.cps.toList)).filter (fun p=>!p.isEmpty);rw[CY];generalize ((q::r).map fun p=>p.cps.toList).filter (fun p=>!p.isEmpty)=z;cases e:p.cps.toList with|nil=>simp[em]|cons a b=>simp[em]
def Hc(x:Str):((Txt.split x ⟨#[32]⟩).map fun p=>p.cps.toList).filter (fun p=>!p.isEmpty)=wd [] x.cps.toList:=by
 rw[<-zp _ (StrLaws.split_free x 32),StrLaws.join_split]
def ft(ms:List Nat)(k:Nat):List Nat:=if k=10 then [32] else if k∈ms then [32,k,32] else [k]
def wt(ms acc l:List Nat):List (List Nat):=wd acc (l.flatMap (ft ms))
def Rb(h1:32∉ms)(h2:10∉ms)(l:List Nat):(l.flatMap (rp 10 [32])).flatMap (Mj ms)=l.flatMap (ft ms):=by
 rw[List.flatMap_assoc];refine kI fun k _=>?_;by_cases e:k=10
 ·subst e;simp[rp,Mj,ft,h1]
 ·simp[rp,Mj,ft,e]
def Oy(acc r:List Nat):wd acc (32::r)=em acc++wd [] r:=by
 show(if 32=32 then em acc++wd [] r else _)=_;rw[if_pos rfl]
def uk:em []=[]:=rfl
def SX(k:Nat):Prop:=k=32\/k=10
def Rc(hk:SX k)(h:32∉ms):wt ms acc (k::r)=em acc++wt ms [] r:=by
 unfold wt;rw[Xb];have:ft ms k=[32]:=by
  rcases hk with rfl|rfl
  ·simp[ft,h]
  ·simp[ft]
 rw[this];exact Oy acc _
theorem Hd(h:32∉ms):∀{g:List Nat}(_:∀k∈g,SX k)(r:List Nat),wt ms [] (g++r)=wt ms [] r
 |[],_,_=>rfl
 | k::g,hg,r=>by
  rw[Zk,Rc (hg k (Va ..)) h,uk,Wk];exact Hd h (fun j hj=>hg j (Wa _ hj)) r
theorem Kj(h:32∉ms)(hg:∀k∈g,SX k)(hn:g≠[])(r:List Nat):wt ms acc (g++r)=em acc++wt ms [] r:=by
 cases g with
 |nil=>exact absurd rfl hn
 |cons k g=>
  rw[Zk,Rc (hg k (Va ..)) h];rw[Hd h (fun j hj=>hg j (Wa _ hj)) r]
def Kk(hc:c∈ms)(h:32∉ms)(h2:10∉ms):wt ms acc (c::r)=em acc++[c]::wt ms [] r:=by
 unfold wt;rw[Xb];have e:¬ c=10:=fun e=>h2 (e ▸ hc);have e2:¬ c=32:=fun e=>h (e ▸ hc);have:ft ms c=[32,c,32]:=by simp[ft,e,hc]
 rw[this];show wd acc (32::c::32::_)=_;rw[Oy];show _++(if c=32 then _ else wd ([]++[c]) (32::_))=_;rw[Ah e2,Oy];rfl
def Ti(ms:List Nat)(k:Nat):Prop:=k≠32/\k≠10/\k∉ms
theorem zq:∀{u:List Nat}(_:∀k∈u,Ti ms k)(acc r:List Nat),wt ms acc (u++r)=wt ms (acc++u) r
 |[],_,acc,r=>by simp
 | k::u,hu,acc,r=>by
  obtain⟨h1,h2,h3⟩:=hu k (Va ..);have ih:=zq (ms:=ms) (fun j hj=>hu j (Wa _ hj)) (acc++[k]) r;rw[Zc]at ih;rw[show acc++k::u=acc++([k]++u) from rfl,<-ih];unfold wt;rw[Zk,Xb];have:ft ms k=[k]:=by simp[ft,h2,h3]
  rw[this];show(if k=32 then _ else wd (acc++[k]) _)=_;rw[Ah h1];rfl
def Oz:wt ms acc []=em acc:=rfl
end VT
namespace VL
open L2 VF
def Lw(x:Str):Prop:=∀c∈x.cps.toList,97<=c/\c<=122
abbrev letS:Str:=Str.ofString "abcdefghijklmnopqrstuvwxyz"
def qM:letS.cps.toList=List.range' 97 26:=by decide +kernel
def Nm(x:Str):Prop:=1<=x.length/\x.length<=6/\Lw x
def He{ys:List Str}(h:∀y∈ys,∃c,y=⟨#[c]⟩/\97<=c/\c<=122):Lw (Txt.join (Str.ofString "") ys):=by
 intro c hc;have e:Txt.join (Str.ofString "") ys=Str.join (Str.ofString "") ys:=B1 _ _;rw[e]at hc;rcases(PyProof.Rows.mem_join _ _ _).mp hc with⟨t,ht,hct⟩|⟨_,z⟩
 ·obtain⟨c',rfl,h1⟩:=h t ht;have:c=c':=by simpa using hct
  rw[this];exact h1
 ·have hE:(Str.ofString "").cps.toList=[]:=by decide +kernel
  rw[hE]at z;cases z
theorem join_ones{ys:List Str}(h:∀y∈ys,∃c,y=(⟨#[c]⟩:Str)):(Txt.join (Str.ofString "") ys).length=ys.length :=
 W.KT.join_ones ys fun a ha=>by obtain⟨c,rfl⟩:=h a ha;rfl
theorem Hf{ys:List Str}(h:∀y∈ys,∃c,y=(⟨#[c]⟩:Str)):(ys.map (·.length)).sum=ys.length:=by
 induction ys with
 |nil=>rfl
 |cons y r ih=>
  obtain⟨c,rfl⟩:=h y Va;rw[Qd,Dh,ih fun z hz=>h z (Wa _ hz)];show 1+r.length=r.length+1;lia
def Lw.app{x y:Str}(a:Lw x)(b:Lw y):Lw (x++y):=fun c hc=>by
 rw[AA,Yj]at hc;rcases Xe.mp hc with z|z
 ·exact a c z
 ·exact b c z
def Hg:Lw (Str.ofString ""):=fun c hc=>by
 have hE:(Str.ofString "").cps.toList=[]:=by decide +kernel
 rw[hE]at hc;cases hc
def word(s:Nat):Str:=Txt.mul ⟨#[97+s % 26]⟩ (1+((s:Nat):Int) / 26)
def lB(s:Nat):(word s).cps.toList=List.replicate (1+s / 26) (97+s % 26):=by
 unfold word;rw[PyProof.Rows.mul_one_list];have e:(1+((s:Nat):Int) / 26).toNat=1+s / 26:=by lia
 rw[e]
def vW(s:Nat):(word s).length=1+s / 26:=by
 have:=congrArg List.length (lB s);rw[Vj,Zf]at this;exact this
def Hh{a b:Nat}(h:word a=word b):a=b:=by
 have h1:(word a).cps.toList=(word b).cps.toList:=by rw[h]
 rw[lB,lB]at h1;have h2:=congrArg List.length h1;rw[Vj,Vj]at h2;have h3:=congrArg (fun l=>l[0]?) h1;simp only[Ql]at h3;rw[if_pos (by lia),if_pos (by lia)]at h3
 have h4:=Option.some.inj h3;lia
def Kl{s:Nat}(h:s<=120):Nm (word s):=by
 refine⟨by rw[vW];lia,by rw[vW];lia,fun c hc=>?_⟩
 rw[lB]at hc;have:=Dj hc;lia
def Ej{xs:List Str}{s:Nat}(h:∀j,j<s->word j∈xs):s<=xs.length:=by
 have:=vb ((List.range s).map word) xs (by
  show List.Pairwise _ _;rw[CH];exact List.nodup_range.imp fun hne e=>hne (Hh e)) (fun x hx=>by
  obtain⟨j,hj,rfl⟩:=Wb.mp hx
  exact h j (Vi.mp hj))
 rw[Za,Vl]at this;exact this
def OB(s:Nat):ki letS.cps.toList (((s:Nat):Int) % 26)=some (97+s % 26):=by
 have e:((s:Nat):Int) % 26=(((s % 26:Nat)):Int):=by lia
 rw[e];refine mR ?_;rw[qM,List.getElem?_range' (by lia)]
 congr 1;lia
theorem l8{α:Type}:∀{l:List α}{i:Nat}(h:i<l.length),(l[i]::l.eraseIdx i).Perm l|_::_,0,_=>List.Perm.refl _|x::r,i+1,h=>(List.Perm.swap x _ _).trans (List.Perm.cons x (l8 (l:=r) (i:=i) (Do h)))
abbrev minus:Str:=Str.ofString "-"
def bd(p:Bool×Str):Str:=if p.1 then minus++p.2 else p.2
def jx:minus.cps.toList=[45]:=by decide +kernel
def jy{p:Bool×Str}(h:Nm p.2):1<=(bd p).length/\(bd p).length<=7:=by
 have e:minus.length=1:=by decide +kernel
 unfold bd;split
 ·rw[Aj,e];have:=h.1;have:=h.2.1;lia
 ·have:=h.1;have:=h.2.1;lia
def str_ext{x y:Str}(h:x.cps.toList=y.cps.toList):x=y:=by
 cases x;cases y;have:_=_:=Array.toList_inj.mp h;exact congrArg Str.mk this
def ul{n:Str}:Txt.slice (minus++n) (some 1) none=n:=by
 have e:minus.length=1:=by decide +kernel
 rw[PyProof.Rows.slice_from_eq (i:=1) (b:=((minus++n).length:Int)) (by decide) (by rw[Aj,e];lia) rfl]
 refine str_ext ?_;show((List.drop 1 (minus++n).cps.toList).take _).toArray.toList=_;rw[AA,Yj,jx,Aj,e];show List.take _ n.cps.toList=_;refine BT ?_;rw[Zf];show n.length<=_;lia
def qN{p:Bool×Str}(h:Nm p.2):∃c,ki (bd p).cps.toList 0=some c/\(V.str ⟨#[c]⟩=V.str minus↔p.1=true):=by
 obtain⟨t,n⟩:=p;have em:(⟨#[45]⟩:Str)=minus:=by decide +kernel
 cases t with
 |true=>
  refine⟨45,?_,fun _=>rfl,fun _=>by rw[em]⟩
  show ki (minus++n).cps.toList 0=_;rw[AA,Yj,jx];exact at_0
 |false=>
  have h1:1<=n.length:=h.1;cases e:n.cps.toList with
  |nil=>
   have:=congrArg List.length e;rw[Zf]at this;have h2:n.cps.size=n.length:=rfl;rw[h2]at this;simp at this;lia
  |cons c r=>
   refine⟨c,?_,fun z=>?_,fun z=>by cases z⟩
   ·show ki n.cps.toList 0=_;rw[e];exact at_0
   ·have hc:=h.2.2 c (by show c∈n.cps.toList;rw[e];exact Va)
    have z1:(⟨#[c]⟩:Str)=minus:=V.str.inj z;rw[<-em]at z1;have z2:c=45:=by simpa using z1
    lia
def Ek{d:Int}{n:Str}(d0:0<=d)(d1:d<2):Txt.mul minus d++n=bd (decide (d=1),n):=by
 have h:d=0\/d=1:=by lia
 rcases h with rfl|rfl
 ·show(if (0:Int)<1 then Str.empty else _)++n=_;rw[if_pos (by decide)]
  exact Str.empty_append n
 ·rfl
theorem Km{n:Str}(h:Nm n):∃c r,n.cps.toList=c::r/\c≠45:=by
 cases e:n.cps.toList with
 |nil=>
  have h1:1<=n.length:=h.1;have:=congrArg List.length e;rw[Zf]at this;have h2:n.cps.size=n.length:=rfl;rw[h2]at this;simp at this;lia
 |cons c r=>
  refine⟨c,r,rfl,fun z=>?_⟩;have hc:=h.2.2 c (by rw[e];exact Va)
  lia
def Em{t:Bool}{n:Str}(h:Nm n):Txt.startswith (bd (t,n)) minus=t:=by
 have e1:minus.length=1:=by decide +kernel
 have hl:=(jy (p:=(t,n)) h).1;unfold Txt.startswith
 rw[Af (show 0+minus.length<=(bd (t,n)).length by lia),Bool.true_and,StrLaws.subAt_eq,jx,e1]
 cases t with
 |true=>
  show((((minus++n).cps.toList).drop 0).take 1 == [45])=true;rw[AA,Yj,jx];rfl
 |false=>
  obtain⟨c,r,e,hc⟩:=Km h;show(((n.cps.toList).drop 0).take 1 == [45])=false;rw[e];show([c] == [45])=false;simp[hc]
end VL
namespace K12
open L2 VF VF22
noncomputable section
abbrev ao:FE:=aw 0
abbrev aJ:FE:=aw 1
abbrev bb:FE:=aw 2
abbrev bL:FE:=aw 3
abbrev d9:FE:=aw 4
abbrev gP:FE:=aw 5
abbrev cK:FE:=aw 6
abbrev qO:FE:=aw 7
abbrev jz:FE:=aw 8
abbrev kJ:FE:=aw 9
abbrev Kn:FE:=aw 10
abbrev aP:FE:=fC (.int 0)
abbrev aG:FE:=fC (.int 1)
abbrev d6:FE:=fC (.int 2)
abbrev eS:FE:=fC (.int 3)
abbrev lC:FE:=fC (.int 4)
abbrev zr:FE:=fC (.int 6)
abbrev zt:FE:=fC (.int 7)
abbrev vX:FE:=fC (.int 10)
abbrev Hj:FE:=fC (.int 18)
abbrev Hk:FE:=fC (.int 23)
abbrev qP:FE:=fC (.int 26)
abbrev xw:FE:=fC (.int 7919)
abbrev vY:FE:=fC (.int 40013)
abbrev vZ:FE:=fC (.int 48271)
abbrev oR:FE:=fC (.int 65521)
abbrev lO:FE:=fC (.int 1000003)
abbrev qQ:FE:=fC (.int 12820163)
abbrev jf:FE:=fC (.int 2147483647)
def oS:FE :=
  (aK IT ao (fC (.str "abcdefghijklmnopqrstuvwxyz")))
def oi:FS :=
  (ay (fP (vc (kB (aD (bU cC (aa ao (aa (fC (.ty "str")) ae))))) (kB (aD (tQ Nv Nv aG (bU cV (aa ao ae)) zr)))) (be (fC (.bl false))) bP)
  (be (bU D0 (aa (bQ 1 [] (ig ao) (gN 0) bA oS) ae))))
def lD:List D->Option Rz:=a8 oi 1 1
def kK:FS :=
  (be (Jz "str" yC ao (aa (fC (.str "-")) ae)))
def bX:List D->Option Rz:=a8 kK 1 1
def oj:FS :=
  (be (DW (aD (aN bX (aa ao ae))) (n8 jh ao (cc aG) tX) ao))
def bC:List D->Option Rz:=a8 oj 1 1
def l9:FS :=
  (be (DW (aD (aN bX (aa ao ae))) (aN bC (aa ao ae)) (aK bR (fC (.str "-")) ao)))
def ee:List D->Option Rz:=a8 l9 1 1
def ol:FS :=
  (be (mU (bU cC (aa ao (aa (fC (.ty "str")) ae))) (aN lD (aa (aN bC (aa ao ae)) ae))))
def om:List D->Option Rz:=a8 ol 1 1
def gQ:FS :=
  (be (bU aU (aa (bQ 1 [] (yL ao) (gN 0) bA (aN ee (aa ao ae))) ae)))
def dH:List D->Option Rz:=a8 gQ 1 1
def nh:FS :=
  (fP (aD (bU cC (aa bb (aa (fC (.ty "str")) ae)))) (bV (fM ja bm 1 (aa bb ae))) (bV (fM ja iB 1 (aa (aK bu bb aG) ae))))
def jA:FS :=
  (ay (aV (cy ae) 1)
  (ay (ik (ig ao) (gN 2) nh)
  (be aJ)))
def jB:List D->Option Rz:=a8 jA 3 1
def jC:FS :=
  (ay (fP (aD (aK j6 (bU cV (aa ao ae)) aG)) (be (cO (aa (aN bC (aa (aK bu ao aP) ae)) ae))) bP)
  (ay (fP (aD (aK PF (aN bC (aa (aK bu ao aP) ae)) (aN bC (aa (aK bu ao (wV tW aG)) ae)))) (be (bU aU (aa ao ae))) bP)
  (be (aO dH (aa ao ae)))))
def jE:List D->Option Rz:=a8 jC 1 1
def iQ:FS :=
  (ay (aV (bQ 1 [] (ig ao) (gN 0) bA (aN bC (aa ao ae))) 1)
  (be (Jz "list" bIndex aJ (aa (bU GW (aa aJ ae)) ae))))
def dB:List D->Option Rz:=a8 iQ 2 1
def jF:FS :=
  (ay (aV (DW (aD (aN bX (aa (aK bu ao (aN dB (aa ao ae))) ae))) (aO dH (aa ao ae)) (bU aU (aa ao ae))) 1)
  (ay (aV (aN dB (aa aJ ae)) 2)
  (be (aK sN (n8 vG aJ (cc bb) tX) (n8 vG aJ tX (cc bb))))))
def jG:List D->Option Rz:=a8 jF 3 1
def gR:FS :=
  (ay (fP (aD (aK j6 (aK bu ao aP) (fC (.str "open")))) (be (cO (aa (fC (.str "open")) (aa (aO jE (aa (aK bu ao aG) ae)) ae)))) bP)
  (be (cO (aa (fC (.str "ring")) (aa (aO jG (aa (aK bu ao aG) ae)) ae)))))
def dI:List D->Option Rz:=a8 gR 1 1
def iR:FS :=
  (be (cO (aa (aK j6 (aK bu ao aP) (fC (.str "ring"))) (aa (aN bC (aa (aK bu (aK bu ao aG) aP) ae)) ae))))
def dC:List D->Option Rz:=a8 iR 1 1
def um:FS :=
  (be (bU aU (aa (bU (xp dC) (aa (bQ 1 [] (ig ao) (gN 0) bA (aO dI (aa ao ae))) ae)) ae)))
def jH:List D->Option Rz:=a8 um 1 1
def xy:FS :=
  (be (aK Gq (aO jH (aa ao ae)) (aO jH (aa aJ ae))))
def xz:List D->Option Rz:=a8 xy 2 2
def gU:FS :=
  (ay (aV (aK za aJ (aN bC (aa ao ae))) 2)
  (be (DW (aD (aN bX (aa ao ae))) (aN ee (aa bb ae)) bb)))
def eT:List D->Option Rz:=a8 gU 3 2
def dE:FE :=
  (aN eT (aa ao (aa aJ ae)))
def fZ:FS :=
  (be (bU aU (aa (bQ 1 [1] (ig ao) (gN 0) bA dE) ae)))
def gh:List D->Option Rz:=a8 fZ 2 2
def gW:FS :=
  (ay (fP (aD (bU cC (aa ao (aa (fC (.ty "str")) ae)))) (be (aN eT (aa ao (aa aJ ae)))) bP)
  (be (cO (aa (aK bu ao aP) (aa (aO gh (aa (aK bu ao aG) (aa aJ ae))) ae)))))
def eU:List D->Option Rz:=a8 gW 2 2
def eI:FE :=
  (aO eU (aa ao (aa aJ ae)))
def on:FS :=
  (be (bU aU (aa (bQ 1 [1] (ig ao) (gN 0) bA eI) ae)))
def dM:List D->Option Rz:=a8 on 2 2
def md:FS :=
  (be (cO (aa (aN bC (aa ao ae)) (aa (DW (aD (aN bX (aa ao ae))) aG aP) ae))))
def de:List D->Option Rz:=a8 md 1 1
def kL:FS :=
  (be (aO de (aa (aN ee (aa ao ae)) ae)))
def cX:List D->Option Rz:=a8 kL 1 1
def me:FS :=
  (be (bU aU (aa (bU cQ (aa ao ae)) ae)))
def cM:List D->Option Rz:=a8 me 1 1
def gX:FS :=
  (be (bQ 2 [] (TZ (aa ao (aa (n8 jh ao (cc aG) tX) ae))) (gT 2 (ij (gN 0) (ij (gN 1) qq))) bA (aO cM (aa (cO (aa (aO cX (aa ao ae)) (aa (aO de (aa aJ ae)) ae))) ae))))
def eV:List D->Option Rz:=a8 gX 1 1
def gi:FS :=
  (ay (aV (aK bu ao aG) 1)
  (ay (aV (aO de (aa (aK bu aJ aP) ae)) 2)
  (ay (aV (aO cX (aa (aK bu aJ (wV tW aG)) ae)) 3)
  (ay (aV (DW (aD (aK j6 (aK bu ao aP) (fC (.str "open")))) (cy (aa (cO (aa bb ae)) (aa (cO (aa bL ae)) ae))) (cy (aa (aO cM (aa (cO (aa bb (aa bL ae))) ae)) ae))) 4)
  (be (aK bR (aO eV (aa aJ ae)) d9))))))
def d7:List D->Option Rz:=a8 gi 5 1
def kM:FS :=
  (ay (aV (cy ae) 1)
  (ay (ik (ig ao) (gN 2) (bV (fM ja iB 1 (aa (aO d7 (aa bb ae)) ae))))
  (be (bU aU (aa (bU cQ (aa aJ ae)) ae)))))
def kN:List D->Option Rz:=a8 kM 3 1
def j7:FS :=
  (bV (fM ja iB 1 (aa (cy (aa (aO de (aa bb ae)) (aa (aO cX (aa bb ae)) ae))) ae)))
def j8:FE :=
  (aO cM (aa (n8 jh aJ (cc ao) (cc (aK bR ao d6))) ae))
def iS:FS :=
  (ay (aV (cy (aa (fC (.tup [.str "",.int 1])) ae)) 1)
  (ay (ik (ig ao) (gN 2) j7)
  (ay (bV (fM ja bm 1 (aa (fC (.tup [.str "",.int 0])) ae)))
  (be (bU aU (aa (bU cQ (aa (bQ 1 [1] (JW (aa aP (aa (bU cV (aa aJ ae)) (aa d6 ae)))) (gN 0) bA j8) ae)) ae))))))
def iT:List D->Option Rz:=a8 iS 3 1
def iU:FS :=
  (ay (aV (Jz "str" ud (fC (.str " ")) (aa (aK bu ao aG) ae)) 1)
  (be (DW (aD (aK j6 (aK bu ao aP) (fC (.str "open")))) (fJ (xf (fC (.str "[")) (xf (wV D8 aJ) (xf (fC (.str "]")) N1)))) (fJ (xf (fC (.str "(")) (xf (wV D8 aJ) (xf (fC (.str ")")) N1)))))))
def iV:List D->Option Rz:=a8 iU 2 1
def jI:FE :=
  (aN iV (aa ao ae))
def mf:FS :=
  (be (Jz "str" sD (fC (.str " ")) (aa (bQ 1 [] (ig ao) (gN 0) bA jI) ae)))
def mi:List D->Option Rz:=a8 mf 1 1
def jJ:FT :=
  (aD (aK vt ao (fC (.str ""))))
def jK:FE :=
  ao
def jL:FS :=
  (ay (fP (kB (aD (bU cC (aa ao (aa (fC (.ty "str")) ae))))) qB bP)
  (ay (aV (VT.fRepl "\n" " " ao) 2)
  (ay (VT.sFRep 3 2 " " " " aJ)
  (be (bQ 1 [] (ig (Jz "str" xl bb (aa (fC (.str " ")) ae))) (gN 0) jJ jK)))))
def jM:List D->Option Rz:=a8 jL 4 2
def jN:FE :=
  (aN om (aa ao ae))
def ml:FS :=
  (ay (fP (kB (aD (bU D0 (aa (bQ 1 [] (ig ao) (gN 0) bA jN) ae)))) qB bP)
  (be (bU aU (aa ao ae))))
def mn:List D->Option Rz:=a8 ml 1 1
def iW:FS :=
  (ay (aV (aO mn (aa (n8 jh ao (cc aG) (cc (wV tW aG))) ae)) 1)
  (ay (fP (vc (aD (zj true [("[","open"),("(","ring")] (aK bu ao aP))) (vc (aD (aK vt (aK bu ao (wV tW aG)) (G6 [("[","]"),("(",")")] (aK bu ao aP)))) (aD (aK j6 (bU cV (aa aJ ae)) aP)))) qB bP)
  (be (cO (aa (G6 [("[","open"),("(","ring")] (aK bu ao aP)) (aa aJ ae))))))
def iX:List D->Option Rz:=a8 iW 2 1
def bi:FS :=
  (ay (bV (fM ja bm 2 (aa bL ae)))
  (fP (aD (aK IT bL (cO (aa (fC (.str "]")) (aa (fC (.str ")")) ae))))) (ay (bV (fM ja bm 1 (aa bb ae)))
  (aV (cy ae) 2)) bP))
def gY:FS :=
  (ay (aV (cy ae) 1)
  (ay (aV (cy ae) 2)
  (ay (ik (ig ao) (gN 3) bi)
  (ay (fP (aD (aK vt bb (cy ae))) (bV (fM ja bm 1 (aa bb ae))) bP)
  (be aJ)))))
def eW:List D->Option Rz:=a8 gY 4 1
def dN:FS :=
  (ay (aV (aN bC (aa bb ae)) 3)
  (ay (fP (aD (aK (Q0 false) bL aJ)) qB bP)
  (nZ sR (fC (.bl true)) 1 bL)))
def gZ:FS :=
  (ay (aV (zc (.dk [])) 1)
  (ik (ig (aO jB (aa ao ae))) (gN 2) dN))
def g6:List D->Option Rz:=a8 gZ 4 1
def jO:FE :=
  (aO iX (aa ao ae))
def mo:FS :=
  (ay (aV (bU aU (aa (bQ 1 [] (ig (aO eW (aa (aO jM (aa ao (aa (fC (.str "[]()")) ae))) ae))) (gN 0) bA jO) ae)) 1)
  (ay (bV (aO g6 (aa aJ ae)))
  (be aJ)))
def jP:List D->Option Rz:=a8 mo 2 1
def mq:FS :=
  (be (cy (aa (bU n9 (aa ao ae)) (aa aP (aa aP (aa aG (aa aP ae)))))))
def mr:List D->Option Rz:=a8 mq 1 1
def jQ:FS :=
  (ay (fP (iw (aD (aK j6 (aK bu ao d6) aP)) (aD (aK PF (aK bu ao aG) (bU cV (aa (aK bu ao aP) ae))))) (ay (aV (aK bu (aK bu ao aP) (aK bu ao aG)) 2)
  (ay (nZ qx (aK bR (aK bu ao aG) aG) 0 aG)
  (fP (aD (aK TQ bb (aK Qv vX Hj))) (nZ qx bb 0 d6) (nZ qx (aK qv (aK bR (aK bR (aK pf (aK bu ao eS) vY) (aK qv bb lO)) aG) jf) 0 eS)))) bP)
  (ay (fP (aD (aK Qw (aK bu ao d6) aP)) (ay (aV (aK qv (aK bu ao d6) aJ) 3)
  (ay (nZ qx (aK wY (aK bu ao d6) aJ) 0 d6)
  (be bL))) bP)
  (ay (nZ qx (aK bR (aK bu ao lC) aG) 0 lC)
  (ay (nZ qx (aK qv (aK bR (aK bR (aK pf (aK bu ao eS) vZ) qQ) (aK bu ao lC)) jf) 0 eS)
  (be (aK qv (aK wY (aK qv (aK pf (aK bR (aK qv (aK bu ao eS) oR) aG) (aK bR (aK wY (aK bu ao eS) oR) xw)) lO) zt) aJ))))))
def aA:D->List D->Option (Rz×D):=dG jQ 4 2
def iY:FS :=
  (be (Jz "str" sD (fC (.str "")) (aa (bQ 1 [0] (pc (aa aJ ae)) (gN 0) bA (aK bu (fC (.str "abcdefghijklmnopqrstuvwxyz")) (gj aA 1 (aa qP ae)))) ae)))
def dW:D->List D->Option (Rz×D):=dG iY 2 2
def mt:FS :=
  (ay (fP (aD (aK vt aJ (fC (.str "")))) (be (aK bR aJ (gj dW 0 (aa (aK bR aG (gj aA 0 (aa d6 ae))) ae)))) bP)
  (ay (fP (aD (aK j6 (gj aA 0 (aa zt ae)) aP)) (ay (aV (cy (FU ["to","turn","turns","ring","rings","odd","ours","row","rows","cuts","knots","cover"])) 2)
  (ay (aV (aK bR bb (cy (FU ["change","joins","theirs","one","two","home","none","open","keep","tox","onex"]))) 2)
  (be (aK bu bb (gj aA 0 (aa Hk ae)))))) bP)
  (be (gj dW 0 (aa (aK bR aG (gj aA 0 (aa zr ae))) ae)))))
def mv:D->List D->Option (Rz×D):=dG mt 3 2
def iD:FS :=
  (ay (aV (fC (.str "")) 2)
  (ay (fP (aD (aK j6 (gj aA 0 (aa eS ae)) aP)) (aV (gj dW 0 (aa (aK bR aG (gj aA 0 (aa lC ae))) ae)) 2) bP)
  (ay (aV (cy ae) 3)
  (ay (ik (pc (aa aJ ae)) (gN 4) (ay (aV (gj mv 0 (aa bb ae)) 5)
  (ay (aV aP 6)
  (ay (IS (aD (aK IT gP bL)) (ay (aV (aK pf (aK bu (fC (.str "abcdefghijklmnopqrstuvwxyz")) (aK qv cK qP)) (aK bR aG (aK wY cK qP))) 5)
  (aV (aK bR cK aG) 6)) 200)
  (bV (fM ja bm 3 (aa gP ae)))))))
  (be bL)))))
def fT:D->List D->Option (Rz×D):=dG iD 7 2
def g9:FS :=
  (ay (aV (bU n9 (aa aJ ae)) 2)
  (ay (aV (cy ae) 3)
  (ay (IS (aD (aK vt bb (cy ae))) (bV (fM ja bm 3 (aa (fM ja jp 2 (aa (gj aA 0 (aa (bU cV (aa bb ae)) ae)) ae)) ae))) 300)
  (be bL))))
def hV:D->List D->Option (Rz×D):=dG g9 4 2
def hW:FS :=
  (ay (fP (aD (aK j6 (aK bu ao aP) (fC (.str "-")))) (be (n8 jh ao (cc aG) tX)) bP)
  (be (aK bR (fC (.str "-")) ao)))
def cS:List D->Option Rz:=a8 hW 1 1
def mw:FS :=
  (be (bU aU (aa (bQ 1 [0] (ig (gj hV 0 (aa aJ ae))) (gN 0) bA (aK bR (aK pf (fC (.str "-")) (gj aA 1 (aa d6 ae))) ao)) ae)))
def df:D->List D->Option (Rz×D):=dG mw 2 2
def lE:FS :=
  (ay (aV (cy ae) 3)
  (ay (aV (cy ae) 4)
  (ay (ik (ig (gj df 0 (aa aJ ae))) (gN 5) (ay (bV (fM ja bm 4 (aa gP ae)))
  (fP (aD (aK j6 (gj aA 0 (aa eS ae)) aP)) (ay (bV (fM ja bm 3 (aa (cO (aa (fC (.str "open")) (aa (bU aU (aa d9 ae)) ae))) ae)))
  (aV (cy ae) 4)) (fP (iw (aD bb) (aD (aK j6 (gj aA 0 (aa eS ae)) aP))) (ay (bV (fM ja bm 3 (aa (cO (aa (fC (.str "ring")) (aa (bU aU (aa d9 ae)) ae))) ae)))
  (aV (cy ae) 4)) bP))))
  (ay (fP (aD (aK vt d9 (cy ae))) (bV (fM ja bm 3 (aa (cO (aa (fC (.str "open")) (aa (bU aU (aa d9 ae)) ae))) ae))) bP)
  (be (bU aU (aa bL ae)))))))
def oq:D->List D->Option (Rz×D):=dG lE 6 3
def nj:FE :=
  (cO (aa ao (aa (bU n9 (aa aJ ae)) ae)))
def nq:FE :=
  (aN cS (aa ao ae))
def nu:FS :=
  (fP (aD (aK vt bL (cy ae))) (ay (Fs (fM ja jp 3 (aa (gj aA 0 (aa (bU cV (aa bL ae)) ae)) ae)) (gT 2 (ij (gN 5) (ij (gN 6) qq))))
  (ay (aV (gj aA 0 (aa lC ae)) 7)
  (ay (aV (gj aA 0 (aa (bU cV (aa cK ae)) ae)) 8)
  (ay (aV (aK bR (aK bR jz aG) (gj aA 0 (aa (aK Jr (bU cV (aa cK ae)) jz) ae))) 9)
  (ay (fP (aD (aK j6 qO aP)) (aV (aK bR (aK bR (n8 jh cK tX (cc jz)) (bQ 1 [] (ig (Gb (n8 jh cK (cc jz) (cc kJ)))) (gN 0) bA nq)) (n8 jh cK (cc kJ) tX)) 6) (fP (iw (aD (aK j6 qO aG)) (aD (aK Qw jz aP))) (ay (bV (fM ja bm 3 (aa (cO (aa (fC (.str "open")) (aa (n8 jh cK tX (cc jz)) ae))) ae)))
  (ay (aV (n8 jh cK (cc jz) tX) 6)
  (aV (fC (.str "open")) 5))) (fP (iw (aD (aK j6 qO d6)) (aD (aK vt bL (cy ae)))) (ay (aV (fM ja jp 3 (aa (gj aA 0 (aa (bU cV (aa bL ae)) ae)) ae)) 10)
  (aV (aK bR cK (aK bu Kn aG)) 6)) (fP (iw (aD (aK j6 qO eS)) (aD bb)) (aV (aK bu (cy (aa (fC (.str "open")) (aa (fC (.str "ring")) ae))) (gj aA 0 (aa d6 ae))) 5) bP))))
  (bV (fM ja bm 3 (aa (cO (aa gP (aa cK ae))) ae)))))))) bP)
def nA:FE :=
  (cO (aa ao (aa (bU aU (aa aJ ae)) ae)))
def jR:FS :=
  (ay (aV (bQ 2 [] (ig aJ) (gT 2 (ij (gN 0) (ij (gN 1) qq))) bA nj) 3)
  (ay (ik (pc (aa (gj aA 0 (aa lC ae)) ae)) (gN 4) nu)
  (be (bU aU (aa (bQ 2 [] (ig bL) (gT 2 (ij (gN 0) (ij (gN 1) qq))) bA nA) ae)))))
def mx:D->List D->Option (Rz×D):=dG jR 11 3
def kO(gs:List D->Option Rz):FS :=
  (ay (fP (aD (aK (ND false) aJ (fC .non))) (be (aK (ND false) ao (fC .non))) bP)
  (ay (fP (vc (aD (bU cC (aa aJ (aa (fC (.ty "bool")) ae)))) (aD (bU cC (aa ao (aa (fC (.ty "bool")) ae))))) (be (mU (bU cC (aa aJ (aa (fC (.ty "bool")) ae))) (mU (bU cC (aa ao (aa (fC (.ty "bool")) ae))) (aK j6 ao aJ)))) bP)
  (ay (fP (aD (bU cC (aa aJ (aa (fC (.ty "int")) ae)))) (be (mU (bU cC (aa ao (aa (fC (.ty "int")) ae))) (aK j6 ao aJ))) bP)
  (ay (fP (aD (bU cC (aa aJ (aa (fC (.ty "str")) ae)))) (be (mU (bU cC (aa ao (aa (fC (.ty "str")) ae))) (aK j6 ao aJ))) bP)
  (ay (fP (vc (aD (aK vt (bU cC (aa aJ (aa (fC (.ty "tuple")) ae))) (bU cC (aa ao (aa (fC (.ty "tuple")) ae))))) (aD (aK vt (bU cC (aa aJ (aa (fC (.ty "list")) ae))) (bU cC (aa ao (aa (fC (.ty "list")) ae)))))) (be (fC (.bl false))) bP)
  (be (mU (aK j6 (bU cV (aa ao ae)) (bU cV (aa aJ ae))) (bU D0 (aa (bQ 1 [0,1] (pc (aa (bU cV (aa aJ ae)) ae)) (gN 0) bA (aN gs (aa (aK bu aJ ao) (aa (aK bu bb ao) ae)))) ae)))))))))
def my:FS :=
  (ay (fP (aD (aK j6 (aK bu ao aP) (fC (.str "-")))) (be (cO (aa (cO (aa (n8 jh ao (cc aG) tX) (aa aG ae))) (aa (cO (aa (n8 jh ao (cc aG) tX) (aa aP ae))) ae)))) bP)
  (be (cO (aa (cO (aa ao (aa aP ae))) (aa (cO (aa ao (aa aG ae))) ae)))))
def eu:List D->Option Rz:=a8 my 1 1
def kP:FE :=
  (aO eu (aa ao ae))
def kQ:FS :=
  (bV (fM ja bm 1 (aa (bU aU (aa (bU cQ (aa (cy (aa (aK bu (aK bu d9 gP) aG) (aa (aK bu (aK bu d9 (aK bR gP aG)) aP) ae))) ae)) ae)) ae)))
def kR:FS :=
  (ay (aV (bQ 1 [] (ig bL) (gN 0) bA kP) 4)
  (ay (ik (pc (aa (aK Jr (bU cV (aa d9 ae)) aG) ae)) (gN 5) kQ)
  (fP (aD (aK j6 bb (fC (.str "ring")))) (bV (fM ja bm 1 (aa (bU aU (aa (bU cQ (aa (cy (aa (aK bu (aK bu d9 (wV tW aG)) aG) (aa (aK bu (aK bu d9 aP) aP) ae))) ae)) ae)) ae))) (ay (bV (fM ja bm 1 (aa (cO (aa (aK bu (aK bu d9 aP) aP) ae)) ae)))
  (bV (fM ja bm 1 (aa (cO (aa (aK bu (aK bu d9 (wV tW aG)) aG) ae)) ae)))))))
def gy:FS :=
  (ay (aV (cy ae) 1)
  (ay (ik (ig ao) (gT 2 (ij (gN 2) (ij (gN 3) qq))) kR)
  (be (bU aU (aa (bU cQ (aa aJ ae)) ae)))))
def dO:List D->Option Rz:=a8 gy 6 1
def gm:FE :=
  (aO eu (aa ao ae))
def gn:FE :=
  (aK bu ao aG)
def gq:FE :=
  (aK bu ao aP)
def gr:FE :=
  (bU aU (aa (bU cQ (aa (cy (aa (aK bu aJ ao) (aa (aK bu bb ao) ae))) ae)) ae))
def eX:FS :=
  (ay (aV (bQ 1 [] (ig ao) (gN 0) bA gm) 1)
  (ay (aV (aK bR (cy (aa (cO (aa (fC (.str "")) (aa aG ae))) ae)) (bQ 1 [] (ig aJ) (gN 0) bA gn)) 2)
  (ay (aV (aK bR (bQ 1 [] (ig aJ) (gN 0) bA gq) (cy (aa (cO (aa (fC (.str "")) (aa aP ae))) ae))) 3)
  (be (bU aU (aa (bU cQ (aa (bQ 1 [2,3] (pc (aa (bU cV (aa bL ae)) ae)) (gN 0) bA gr) ae)) ae))))))
def eY:List D->Option Rz:=a8 eX 4 1
def iE:FS :=
  (fP (aD (aK j6 gP (fC (.str "")))) (bV (fM ja bm 4 (aa (cO (aa gP (aa cK ae))) ae))) (bV (fM ja bm 4 (aa (aK bu (aO eu (aa (aK za aJ gP) ae)) cK) ae))))
def iF:FS :=
  (ay (aV (cy ae) 4)
  (ay (ik (ig bL) (gT 2 (ij (gN 5) (ij (gN 6) qq))) iE)
  (bV (fM ja bm 2 (aa (bU aU (aa (bU cQ (aa d9 ae)) ae)) ae)))))
def ot:FS :=
  (ay (aV (cy ae) 2)
  (ay (ik (ig ao) (gN 3) iF)
  (be (bU aU (aa (bU cQ (aa bb ae)) ae)))))
def lF:List D->Option Rz:=a8 ot 7 2
def eZ:FS :=
  (fP (aD (aK j6 (aK bu bL aP) (fC (.str "-")))) (nZ sR (aK bR (fC (.str "-")) bb) 1 (n8 jh bL (cc aG) tX)) (nZ sR bb 1 bL))
def mz:FS :=
  (ay (aV (zc (.dk [])) 1)
  (ay (xt 0 (gT 2 (ij (gN 2) (ij (gN 3) qq))) eZ)
  (be aJ)))
def mB:List D->Option Rz:=a8 mz 4 1
def pP:FS :=
  (nZ sR (aK bu qO jz) 6 (aK bu bb jz))
def Hl:FS :=
  (ay (aV (aO mr (aa ao ae)) 1)
  (ay (aV (gj fT 1 (aa (gj aA 1 (aa vX ae)) ae)) 2)
  (ay (aV (Gf oq 1 [.bl true] (aa bb ae)) 3)
  (ay (aV (Gf mx 1 [.bl true] (aa bL ae)) 4)
  (ay (aV (gj df 1 (aa bb ae)) 5)
  (ay (aV (zc (.dk [])) 6)
  (ay (aV (gj df 1 (aa bb ae)) 7)
  (ay (fP (aD (aK Ea (gj aA 1 (aa eS ae)) aP)) (aV (gj df 1 (aa (gj fT 1 (aa (bU cV (aa bb ae)) ae)) ae)) 7) bP)
  (ay (ik (pc (aa (bU cV (aa bb ae)) ae)) (gN 8) pP)
  (ay (aV (aO dM (aa bL (aa cK ae))) 9)
  (ay (fP (kB (aD (aN (cZ 4) (aa (aO kN (aa kJ ae)) (aa (aO lF (aa (aO dO (aa bL ae)) (aa cK ae))) ae))))) (be (fC (.bl false))) bP)
  (ay (fP (kB (aD (aN (cZ 4) (aa (aO iT (aa (aO dM (aa gP (aa cK ae))) ae)) (aa (aO lF (aa (aO eY (aa gP ae)) (aa cK ae))) ae))))) (be (fC (.bl false))) bP)
  (ay (fP (kB (aD (aN (cZ 4) (aa (aO dM (aa kJ (aa (aO mB (aa cK ae)) ae))) (aa bL ae))))) (be (fC (.bl false))) bP)
  (ay (fP (kB (aD (aN (cZ 4) (aa (aO jH (aa (aO dM (aa (aO jH (aa bL ae)) (aa cK ae))) ae)) (aa (aO jH (aa kJ ae)) ae))))) (be (fC (.bl false))) bP)
  (ay (fP (aD (aK Ea (aN xz (aa kJ (aa (aO dM (aa d9 (aa cK ae))) ae))) (aK Gq (aO dO (aa bL ae)) (aO dO (aa d9 ae))))) (be (fC (.bl false))) bP)
  (be (aN (cZ 4) (aa (aO jP (aa (aN mi (aa kJ ae)) ae)) (aa kJ ae)))))))))))))))))))
def Re:List D->Option Rz:=a8 Hl 10 1
end
end K12
namespace K12
open L2 VF VF22
abbrev qR:List Str:=["bead"]
abbrev uQ:List Str:=["beads"]
abbrev xA:List Str:=["strand"]
abbrev EG:List Str:=["_law_bead"]
abbrev Ep:List Str:=["thing"]
abbrev EH:List Str:=["some"]
abbrev Ko:List Str:=["words"]
abbrev Kr:List Str:=["_law_flow_here","_law_many"]
abbrev Mk:List Str:=["beads","names"]
abbrev PH:List Str:=["one","other"]
abbrev Er:List Str:=["part","names"]
abbrev Es:List Str:=["_law_script"]
abbrev Et:List Str:=["_law_found","_law_due"]
abbrev Eu:List Str:=["_law_line_here","_law_ends_here","_law_rights","_law_lefts"]
abbrev OC:List Str:=["_law_kind","_law_beads"]
abbrev Hm:List Str:=["thing","names"]
abbrev Ho:List Str:=["_law_flow_here","_law_names_here"]
abbrev Hq:List Str:=["_law_flow_here","_law_some","_law_rings","_law_strands","_law_k","_law_kind","_law_beads","_law_way","_law_low","_law_high","_law_other"]
abbrev Ks:List Str:=["bead","names"]
abbrev OD:List Str:=["line","ends","bead"]
abbrev OE:List Str:=["text","marks","spaced","mark"]
abbrev OF:List Str:=["_law_some","_law_joints_here","_law_kind","_law_beads","_law_ends_here","_law_k"]
abbrev Rf:List Str:=["strand","beads","begin","end","outer"]
abbrev Rg:List Str:=["_law_flow_here","_law_many","_law_cell","_law_digit"]
abbrev Rh:List Str:=["_law_flow_here","_law_stem","_law_words"]
abbrev Ri:List Str:=["_law_flow_here","_law_many","_law_stem","_law_names_here","_law_k","_law_name_here","_law_spare"]
abbrev Rj:List Str:=["_law_flow_here","_law_things","_law_left","_law_told"]
abbrev Rk:List Str:=["_law_flow_here","_law_names_here","_law_rings","_law_strands","_law_piece","_law_bead"]
abbrev Rl:List Str:=["_law_flow_here","_law_names_here","_law_rings"]
abbrev Rm:List Str:=["_law_flow_here","_law_some","_law_rings"]
abbrev Ro:List Str:=["_law_joints_here","_law_names_here","_law_told","_law_joint","_law_ends_here","_law_name_here","_law_side"]
abbrev Rq:List Str:=["_law_joints_here","_law_names_here"]
abbrev Rr:List Str:=["_law_names_here","_law_told","_law_name_here","_law_bead"]
abbrev Rt:List Str:=["_law_script","_law_flow_here","_law_names_here","_law_some","_law_other","_law_line_here","_law_given","_law_placed","_law_k","_law_found"]
abbrev Ru:List Str:=["_law_k","_law_rights","_law_lefts"]
def top(i:Nat):Stmt:=PySem.Challenge.pw_strandwright_k12_whole_names_are_nothing.main.body.getD i (.Pass ⟨0,0,0,0⟩)
abbrev pQ:Stmt:=top 3
abbrev ou:Stmt:=top 4
abbrev uo:Stmt:=top 5
abbrev ox:Stmt:=top 6
abbrev ut:Stmt:=top 7
abbrev gz:Stmt:=top 8
abbrev qS:Stmt:=top 9
abbrev mC:Stmt:=top 11
abbrev iG:Stmt:=top 12
abbrev mD:Stmt:=top 13
abbrev jS:Stmt:=top 14
abbrev kT:Stmt:=top 15
abbrev uu:Stmt:=top 16
abbrev Hr:Stmt:=top 17
abbrev jT:Stmt:=top 18
abbrev fK:Stmt:=top 19
abbrev jU:Stmt:=top 20
abbrev nB:Stmt:=top 21
abbrev qT:Stmt:=top 29
abbrev oy:Stmt:=top 30
abbrev qU:Stmt:=top 31
abbrev gA:Stmt:=top 32
abbrev iZ:Stmt:=top 33
abbrev oz:Stmt:=top 34
abbrev iH:Stmt:=top 35
abbrev kU:Stmt:=top 39
abbrev nC:Stmt:=top 40
abbrev nE:Stmt:=top 41
abbrev nF:Stmt:=top 42
abbrev kW:Stmt:=top 43
abbrev jV:Stmt:=top 44
abbrev jW:Stmt:=top 45
abbrev nG:Stmt:=top 46
abbrev xB:Stmt:=top 48
abbrev xC:Stmt:=top 49
abbrev lG:Stmt:=top 50
abbrev xD:Stmt:=top 51
abbrev uv:Stmt:=top 52
abbrev mE:Stmt:=top 53
abbrev mF:Stmt:=top 54
abbrev uw:Stmt:=top 55
abbrev Hs:Stmt:=top 56
abbrev oA:Stmt:=top 57
abbrev pR:Stmt:=top 58
abbrev xE:Stmt:=top 59
abbrev nH:Stmt:=top 60
abbrev di:Stmt:=top 61
abbrev Ht:Stmt:=top 62
abbrev xF:Stmt:=top 63
abbrev OG:Stmt:=top 64
def Rv:FnScope Ep Ep (ai pQ):=gl (by decide +kernel)
def Rw:FnScope qR qR (ai ou):=gl (by decide +kernel)
def Rx:FnScope qR qR (ai uo):=gl (by decide +kernel)
def Ry:FnScope qR qR (ai ox):=gl (by decide +kernel)
def RA:FnScope Ep Ep (ai ut):=gl (by decide +kernel)
def Tj:FnScope uQ uQ (ai gz):=gl (by decide +kernel)
def scQ27:FnScope ["thing","beads","part"] Ep (ai qS):=gl (by decide +kernel)
def RB:FnScope uQ uQ (ai mC):=gl (by decide +kernel)
def scQ12:FnScope Mk uQ (ai iG):=gl (by decide +kernel)
def scQ18:FnScope ["beads","side","begin"] uQ (ai mD):=gl (by decide +kernel)
def Tk:FnScope xA xA (ai jS):=gl (by decide +kernel)
def RC:FnScope xA xA (ai kT):=gl (by decide +kernel)
def RD:FnScope EH EH (ai uu):=gl (by decide +kernel)
def RE:FnScope PH PH (ai Hr):=gl (by decide +kernel)
def scQ9:FnScope ["bead","names","told"] Ks (ai jT):=gl (by decide +kernel)
def Tl:FnScope Mk Mk (ai fK):=gl (by decide +kernel)
def Tm:FnScope Er Er (ai jU):=gl (by decide +kernel)
def RF:FnScope Hm Hm (ai nB):=gl (by decide +kernel)
def RG:FnScope qR qR (ai qT):=gl (by decide +kernel)
def RI:FnScope qR qR (ai oy):=gl (by decide +kernel)
def RJ:FnScope ["ends"] ["ends"] (ai qU):=gl (by decide +kernel)
def Tn:FnScope uQ uQ (ai gA):=gl (by decide +kernel)
def scQ1:FnScope Rf xA (ai iZ):=gl (by decide +kernel)
def scQ20:FnScope ["some","joints","strand"] EH (ai oz):=gl (by decide +kernel)
def scQ14:FnScope OD ["line"] (ai iH):=gl (by decide +kernel)
def scQ10:FnScope ["strand","beads"] xA (ai kU):=gl (by decide +kernel)
def RK:FnScope EH EH (ai nC):=gl (by decide +kernel)
def scQ24:FnScope OE ["text","marks"] (ai nE):=gl (by decide +kernel)
def RL:FnScope Ko Ko (ai nF):=gl (by decide +kernel)
def scQ11:FnScope ["words","beads"] Ko (ai kW):=gl (by decide +kernel)
def scQ3:FnScope ["words","groups","group","word"] Ko (ai jV):=gl (by decide +kernel)
def scQ7:FnScope ["thing","seen","bead","name"] Ep (ai jW):=gl (by decide +kernel)
def scQ29:FnScope ["text","some"] ["text"] (ai nG):=gl (by decide +kernel)
def RM:FnScope Es Es (ai xB):=gl (by decide +kernel)
def scQ41:FnScope Rg Kr (ai xC):=gl (by decide +kernel)
def RN:FnScope Kr Kr (ai lG):=gl (by decide +kernel)
def scQ42:FnScope Rh ["_law_flow_here","_law_stem"] (ai xD):=gl (by decide +kernel)
def scQ35:FnScope Ri Kr (ai uv):=gl (by decide +kernel)
def scQ15:FnScope Rj ["_law_flow_here","_law_things"] (ai mE):=gl (by decide +kernel)
def RO:FnScope EG EG (ai mF):=gl (by decide +kernel)
def RP:FnScope Ho Ho (ai uw):=gl (by decide +kernel)
def scQ47:FnScope Rk Rl (ai Hs):=gl (by decide +kernel)
def scQ44:FnScope Hq Rm (ai oA):=gl (by decide +kernel)
def RQ:FnScope Et Et (ai pR):=gl (by decide +kernel)
def RR:FnScope EG EG (ai xE):=gl (by decide +kernel)
def scQ28:FnScope OF ["_law_some"] (ai nH):=gl (by decide +kernel)
def scQ4:FnScope Eu ["_law_line_here"] (ai di):=gl (by decide +kernel)
def scQ46:FnScope Ro Rq (ai Ht):=gl (by decide +kernel)
def scQ38:FnScope Rr ["_law_names_here"] (ai xF):=gl (by decide +kernel)
def scQ49:FnScope Rt Es (ai OG):=gl (by decide +kernel)
structure Md(P:Program)(w:World)(K:W.Frag)(mg:Str->Option Value):Prop where
 a:mg "all"=none
 b:mg "bool"=none
 c:mg "int"=none
 d:mg "isinstance"=none
 e:mg "len"=none
 f:mg "list"=none
 g:mg "min"=none
 h:mg "range"=none
 i:mg "reversed"=none
 j:mg "sorted"=none
 k:mg "str"=none
 l:mg "tuple"=none
 m:mg "zip"=none
 n:∃t,mg "LETTERS"=some (.str "abcdefghijklmnopqrstuvwxyz" t)
 o:∃t,mg "LONGEST_NAME"=some (.int 6 t)
 p:SV K mg "POST_AHEAD" [.str "",.int 1]
 q:SV K mg "POST_BEHIND" [.str "",.int 0]
 r:SW P w K mg "KIND_OF" [("[","open"),("(","ring")]
 s:SW P w K mg "CLOSE_OF" [("[","]"),("(",")")]
end K12
namespace VF
open L2
def xG(h:CMul i j):pf (.int i) (.int j)=some (.int (i*j),false):=by
 have:yA (.int i) (.int j)=some (.int (i*j),false):=by
  show(if CMul i j then some (D.int (i*j),false) else none)=_;rw[if_pos h]
 unfold pf n4;rw[this]
def Hu(h:0<j):qv (.int i) (.int j)=some (.int (i % j),false):=by
 show(if 0<j then some (D.int (i % j),false) else none)=_;rw[if_pos h]
def OH(h:wN i j):wY (.int i) (.int j)=some (.int (i / j),false):=by
 show(if wN i j then some (D.int (i / j),false) else none)=_;rw[if_pos h]
def fF(h:ki ds i=some d):bu (.lst ds) (.int i)=some (d,false):=by
 have:FK (.lst ds) (.int i)=some (d,false):=by
  show(ki ds i).bind (fun d=>some (d,false))=_;rw[h];rfl
 unfold bu n4;rw[this]
def ix_tup(h:ki ds i=some d):bu (.tup ds) (.int i)=some (d,false):=by
 have e1:FK (.tup ds) (.int i)=none:=rfl;have:Jx (.tup ds) (.int i)=some (d,false):=by
  show(ki ds i).bind (fun d=>some (d,false))=_;rw[h];rfl
 unfold bu n4;rw[e1,this]
def fU{f:FT}{st s:En}{b c:Bool}(h:f st=some (b,s))(e:b=c):f st=some (c,s):=e ▸ h
def mG{mm:D->D->D->Option D}{i:Nat}{st s1 s2 s3:En}{r rk:Rs}{dv dk z z':D}{t t0:Sl}{x0:D}(h1:fe st=some (r,s1))(h2:esc r s1=some (dv,s2))(h0:s2[i]?=some t0)(h00:t0.ow=some x0)(h3:fi s2=some (rk,s3))(h4:cont s3 rk=some dk)(h5:s3[i]?=some t)(h6:t.ow=some z)(h7:mm z dk dv=some z'){s4:En}(h8:s3.set i (t.put z')=s4:=by rfl):nZ mm fe i fi st=some (.nx s4):=by
 simp only[nZ,h1,h2,h0,h00,h3,h4,h5,h6,h7,h8,Yb]
end VF
namespace K12
open L2 VF
def Fl(ns:List Int)(i m sd c:Int):D:=.lst [.lst (ns.map D.int),.int i,.int m,.int sd,.int c]
def cW(φ:D):Prop:=∃ns i m sd c,φ=Fl ns i m sd c/\0<=i/\0<=m/\0<=sd/\0<=c
def Kt(ns:List Int):mr [.fl (ns.map D.int)]=some (Fl ns 0 0 1 0,true):=rfl
def b7{φ : D}{n : Int}(hφ : cW φ)(h0 : 0 < n)(h1 : n ≤ 1000) : ∃ d φ', aA φ [.int n] = some ((.int d, false), φ') ∧ 0 ≤ d ∧ d < n ∧ cW φ' := by
  obtain ⟨ns, i, m, sd, c, rfl, hi, hm, hs, hc⟩ := hφ;have sp : ∃ A B, jQ = ay A B ∧
     (∃ o i' m' sd', A [.io (Fl ns i m sd c), .v (.int n), .e, .e] = some (.nx [.io (Fl ns i' m' sd' c), .v (.int n), o, .e]) ∧ 0 ≤ i' ∧ 0 ≤ m' ∧ 0 ≤ sd') ∧
     (∀ o i m sd, 0 ≤ i → 0 ≤ m → 0 ≤ sd → ∃ d φ' s3, B [.io (Fl ns i m sd c), .v (.int n), o, .e] = some (.rt (.d (.int d)) [.io φ', .v (.int n), o, s3]) ∧ 0 ≤ d ∧ d < n ∧ cW φ') := by
    refine ⟨_, _, rfl, ?_, ?_⟩
    · by_cases c1 : m = 0
      · subst c1
        by_cases c2 : i < ((ns.map D.int).length : Int)
        · obtain ⟨v, hv, hm', _⟩ := wS hi c2
          obtain ⟨z, _, rfl⟩ := List.mem_map.mp hm';have t2 : iw (aD (aK j6 (aK bu (aw 0) (fC (.int 2))) (fC (.int 0)))) (aD (aK PF (aK bu (aw 0) (fC (.int 1))) (bU cV (aa (aK bu (aw 0) (fC (.int 0))) ae)))) [.io (Fl ns i 0 sd c), .v (.int n), .e, .e] = some (true, [.io (Fl ns i 0 sd c), .v (.int n), .e, .e]) :=
            mZ rfl (fU (b := decide (i < ((ns.map D.int).length : Int))) rfl (Af c2))
          by_cases c3 : (10 : Int) ^ (18 : Int).toNat ≤ z
          · have p18 : (0 : Int) ≤ 10 ^ (18 : Int).toNat := by decide
            refine ⟨.v (.int z), i + 1, z, sd, ?_, by lia, by lia, hs⟩
            refine eO t2 ?_;refine am (cz (x := .int z) (av rfl rfl rfl rfl (fF hv)) rfl) ?_;refine am rfl ?_;refine eO (fU (b := decide ((10 : Int) ^ (18 : Int).toNat ≤ z)) rfl (Af c3)) ?_;rfl
          · refine ⟨.v (.int z), i + 1, 0, (sd * 40013 + z % 1000003 + 1) % 2147483647, ?_, by lia, by lia, Bo _ (by decide)⟩
            refine eO t2 ?_;refine am (cz (x := .int z) (av rfl rfl rfl rfl (fF hv)) rfl) ?_;refine am rfl ?_;refine cf (fU (b := decide ((10 : Int) ^ (18 : Int).toNat ≤ z)) rfl (Ad c3)) ?_;exact mG (av (av (av (av rfl rfl rfl rfl (xG (j := 40013) (.inr ⟨by decide, by decide⟩))) rfl rfl rfl rfl) rfl rfl rfl rfl) rfl rfl rfl rfl) rfl rfl rfl rfl rfl rfl rfl rfl
        · refine ⟨.e, i, 0, sd, ?_, hi, hm, hs⟩
          exact cf (mZ rfl (fU (b := decide (i < ((ns.map D.int).length : Int))) rfl (Ad c2))) rfl
      · refine ⟨.e, i, m, sd, ?_, hi, hm, hs⟩
        have e : decide (V.int m = V.int 0) = false := Ad fun z => c1 (V.int.inj z);exact cf (oN (fU (b := decide (V.int m = V.int 0)) rfl e)) rfl
    · intro o i m sd hi hm hs
      by_cases c1 : 0 < m
      · refine ⟨m % n, Fl ns i (m / n) sd c, .v (.int (m % n)), ?_, Bo _ (by lia), Cy _ h0, ⟨ns, i, m / n, sd, c, rfl, hi, Int.ediv_nonneg hm (by lia), hs, hc⟩⟩
        refine fY ?_;refine eO (fU (b := decide (0 < m)) rfl (Af c1)) ?_;refine am (cz (av rfl rfl rfl rfl (Hu h0)) rfl) ?_;refine am (mG (av rfl rfl rfl rfl (OH ⟨h0, by lia⟩)) rfl rfl rfl rfl rfl rfl rfl rfl) ?_
        rfl
      · refine ⟨(((sd * 48271 + 12820163 + (c + 1)) % 2147483647 % 65521 + 1) * ((sd * 48271 + 12820163 + (c + 1)) % 2147483647 / 65521 + 7919) % 1000003 / 7) % n, Fl ns i m ((sd * 48271 + 12820163 + (c + 1)) % 2147483647) (c + 1), .e, ?_, ?_, ?_, ⟨ns, i, m, _, _, rfl, hi, hm, Bo _ (by decide), by lia⟩⟩
        · refine am (cf (fU (b := decide (0 < m)) rfl (Ad c1)) rfl) ?_
          refine am rfl ?_;refine am (mG (av (av (av (av rfl rfl rfl rfl (xG (j := 48271) (.inr ⟨by decide, by decide⟩))) rfl rfl rfl rfl) rfl rfl rfl rfl) rfl rfl rfl rfl) rfl rfl rfl rfl rfl rfl rfl rfl) ?_
          have a := Bo ((sd * 48271 + 12820163 + (c + 1)) % 2147483647) (show (65521 : Int) ≠ 0 by decide)
          have b := Cy ((sd * 48271 + 12820163 + (c + 1)) % 2147483647) (show (0 : Int) < 65521 by decide)
          exact aL (av (av (av (av rfl rfl rfl rfl (xG (.inl ⟨by lia, by lia⟩))) rfl rfl rfl rfl) rfl rfl rfl rfl) rfl rfl rfl (Hu h0))
        · exact Bo _ (by lia)
        · exact Cy _ h0
  obtain ⟨A, B, eF, ⟨o, i', m', sd', eA, hi', hm', hs'⟩, hB⟩ := sp;obtain ⟨d, φ', s3, eB, h2, h3, h4⟩ := hB o i' m' sd' hi' hm' hs';refine ⟨d, φ', ?_, h2, h3, h4⟩;refine dw (o := .rt (.d (.int d)) [.io φ', .v (.int n), o, s3]) rfl ?_ rfl;rw [eF];exact am eA eB
end K12
namespace K12
open L2 VF VL
def mH(hφ:cW φ)(h0:0<=k)(h1:k<=100):∃x φ',dW φ [.int k]=some ((.str x,false),φ')/\(x.length:Int)=k/\Lw x/\cW φ':=by
 have hE:(Str.ofString "").length=0:=by decide +kernel
 have cl:=sJ (fg:=gN 0) (fc:=bA) (k:=1) (fe:=aK bu (fC (.str "abcdefghijklmnopqrstuvwxyz")) (gj aA 1 (aa (fC (.int 26)) ae)))
  (fun pre sb=>∃φ' ys,sb=[.e,.io φ']/\cW φ'/\pre=ys.map D.str/\∀y∈ys,∃c,y=(⟨#[c]⟩:Str)/\97<=c/\c<=122) (by
   rintro pre x sb ⟨φ',ys,rfl,hf,rfl,hy⟩;obtain⟨d,φ2,e,d0,d1,hf2⟩:=b7 (n:=26) hf (by decide) (by decide)
   obtain⟨c,hc,hm,_⟩:=wS (xs:=letS.cps.toList) d0 (by rw[qM,List.length_range'];exact d1)
   refine⟨[.v x,.io φ'],[.v x,.io φ'],.d (.str ⟨#[c]⟩),[.v x,.io φ2],.str ⟨#[c]⟩,[.v x,.io φ2],rfl,rfl,av rfl (bS rfl rfl rfl rfl rfl rfl e) rfl rfl (ix_str (by decide +kernel) hc),rfl,φ2,ys++[⟨#[c]⟩],rfl,hf2,by rw[Qb];rfl,fun y hy2=>?_⟩
   rcases Xe.mp hy2 with z|z
   ·exact hy y z
   ·have:y=⟨#[c]⟩:=by simpa using z
    rw[qM,List.mem_range'_1]at hm
    exact⟨c,this,by lia⟩)
  (rng 0 k.toNat) [] [.e,.io φ] ⟨φ,[],rfl,hφ,rfl,fun y hy=>by cases hy⟩
 obtain⟨ds,sf,e1,e2,φ',ys,rfl,hf,e3,hy⟩:=cl;rw[Wk]at e3;subst e3;rw[gw,Za]at e2;have hy':∀y∈ys,∃c,y=(⟨#[c]⟩:Str):=fun y h=>by obtain⟨c,e,_⟩:=hy y h;exact⟨c,e⟩
 refine⟨Txt.join (Str.ofString "") ys,φ',?_,by rw[join_ones hy'];lia,He hy,hf⟩
 have hj:sD (.str "") [.lst (ys.map D.str)]=some (.str (Txt.join (Str.ofString "") ys),false):=by
  show(fD (ys.map D.str)).bind (fun ys=>if (ys.map (·.length)).sum+ys.length*(Str.ofString "").length<=16777216 then some (D.str (Txt.join (Str.ofString "") ys),false) else none)=_;rw[fE];show(if _ then _ else _)=_;rw[if_pos (by rw[Hf hy',hE];lia)]
 refine dw (o:=.rt (.d (.str (Txt.join (Str.ofString "") ys))) [.io φ',.v (.int k)]) rfl ?_ rfl
 exact aL (vE rfl rfl rfl (af (bq (gx rfl rfl ⟨by lia,by lia⟩) (by
  show(true&&decide ((rng 0 k.toNat).length<=1000000))=true
  rw[gw,Af (by lia)];rfl) e1) rfl) rfl rfl hj)
abbrev w1:List Str:=["to","turn","turns","ring","rings","odd","ours","row","rows","cuts","knots","cover"]
abbrev w2:List Str:=["change","joins","theirs","one","two","home","none","open","keep","tox","onex"]
abbrev wordsS:List Str:=w1++w2
def okN(x:Str):Bool:=decide (1<=x.length/\x.length<=6)&&x.cps.toList.all fun c=>decide (97<=c/\c<=122)
def OI(h:okN x=true):Nm x:=by
 unfold okN at h;rw[Wf,decide_eq_true_eq,Yh]at h;exact⟨h.1.1,h.1.2,fun c hc=>Ai (h.2 c hc)⟩
def Hv:∀v∈wordsS,okN v=true:=Yh.mp (by decide +kernel)
def Ku{st:Str}(hφ:cW φ)(hst:st.length<=4)(lst:Lw st):∃x φ',mv φ [.str st]=some ((.str x,false),φ')/\Nm x/\cW φ':=by
 by_cases c0:st=""
 ·subst c0;obtain⟨d,φ1,e1,d0,d1,f1⟩:=b7 (n:=7) hφ (by decide) (by decide)
  by_cases c1:d=0
  ·subst c1;obtain⟨d2,φ2,e2,d20,d21,f2⟩:=b7 (n:=23) f1 (by decide) (by decide)
   obtain⟨v,hv,hm,_⟩:=wS (xs:=wordsS.map D.str) d20 (by rw[Za];exact d21)
   obtain⟨x,hx,rfl⟩:=Wb.mp hm;refine⟨x,φ2,?_,OI (Hv x hx),f2⟩;refine dw (o:=.rt (.d (.str x)) [.io φ2,.v (.str ""),.o (.lst (wordsS.map D.str))]) rfl ?_ rfl;refine am rfl ?_;refine fY ?_;refine eO (aF (av (bS rfl rfl rfl rfl rfl rfl e1) rfl rfl rfl rfl) rfl) ?_;refine am rfl ?_;refine am rfl ?_;exact aL (av rfl (bS rfl rfl rfl rfl rfl rfl e2) rfl rfl (fF hv))
  ·obtain⟨d2,φ2,e2,d20,d21,f2⟩:=b7 (n:=6) f1 (by decide) (by decide)
   obtain⟨x,φ3,e3,hx,lx,f3⟩:=mH (k:=1+d2) f2 (by lia) (by lia)
   refine⟨x,φ3,?_,⟨by lia,by lia,lx⟩,f3⟩
   refine dw (o:=.rt (.d (.str x)) [.io φ3,.v (.str ""),.e]) rfl ?_ rfl;refine am rfl ?_;have t:decide (V.int d=V.int 0)=false:=Ad fun z=>c1 (V.int.inj z);refine am (cf (fU (b:=decide (V.int d=V.int 0)) (aF (av (bS rfl rfl rfl rfl rfl rfl e1) rfl rfl rfl rfl) rfl) t) rfl) ?_;exact aL (bS rfl rfl (af (av rfl (bS rfl rfl rfl rfl rfl rfl e2) rfl rfl rfl) rfl) rfl rfl rfl e3)
 ·obtain⟨d,φ1,e1,d0,d1,f1⟩:=b7 (n:=2) hφ (by decide) (by decide)
  obtain⟨x,φ2,e2,hx,lx,f2⟩:=mH (k:=1+d) f1 (by lia) (by lia)
  refine⟨st++x,φ2,?_,⟨by rw[Aj];lia,by rw[Aj];lia,lst.app lx⟩,f2⟩
  refine dw (o:=.rt (.d (.str (st++x))) [.io φ2,.v (.str st),.e]) rfl ?_ rfl;refine fY ?_;have t:(!decide (V.str st=V.str ""))=true:=by rw[Ad (fun z=>c0 (V.str.inj z))];rfl
  refine eO (fU (b:=!decide (V.str st=V.str "")) rfl t) ?_;exact aL (av rfl (bS rfl rfl (af (av rfl (bS rfl rfl rfl rfl rfl rfl e1) rfl rfl rfl) rfl) rfl rfl rfl e2) rfl rfl (m5 (by lia)))
end K12
namespace VF
open L2
def bc{s t:Sl}{st s1:En}(h:st[i]?=some t)(n:t.isIo=false)(e:st.set i s=s1:=by rfl):mV i s st=some s1:=by
 unfold mV;rw[h];show(if t.isIo=true then none else some (st.set i s))=_;rw[Ah (by rw[n];decide),e]
def cT{xs:List D}(h:xs.length<1000000):bm (.lst xs) [y]=some (.non,.lst (xs++[y])):=by
 show(if xs.length<1000000 then some (D.non,D.lst (xs++[y])) else none)=_;rw[if_pos h]
def v0{xs:List D}{i:Int}(h0:0<=i)(h1:i<xs.length)(h2:xs.length<=1000000)(hk:i.toNat<xs.length):jp (.lst xs) [.int i]=some (xs[i.toNat],.lst (xs.eraseIdx i.toNat)):=by
 show(if -(2 ^ 63)<=i/\i<2 ^ 63 then(seqIndex? i xs.length).bind fun k=>(xs[k]?).bind fun y=>some (y,D.lst (xs.eraseIdx k)) else none)=_;rw[if_pos ⟨by lia,by lia⟩,PySem.seqIndex_of h0 h1]
 show(xs[i.toNat]?).bind (fun y=>some (y,D.lst (xs.eraseIdx i.toNat)))=_;rw[Ya hk];rfl
def jX{α:Type}{f:α->D}{g:D->α}(hg:∀a,g (f a)=a){ys:List D}{xs:List α}(p:ys.Perm (xs.map f)):∃zs:List α,ys=zs.map f/\zs.Perm xs:=by
 have h1:∀y∈ys,∃z,y=f z:=fun y hy=>by
  obtain⟨z,_,rfl⟩:=Wb.mp (p.mem_iff.mp hy);exact⟨z,rfl⟩
 refine⟨ys.map g,?_,?_⟩
 ·rw[Qc];refine(Br ys).symm.trans (Ye fun y hy=>?_);obtain⟨z,rfl⟩:=h1 y hy;show f z=f (g (f z));rw[hg]
 ·have:=p.map g;rw[Qc]at this;refine this.trans (List.Perm.of_eq ?_);exact(Ye fun z _=>hg z).trans (Br xs)
end VF
namespace K12
open L2 VF VL
def v4(hφ:cW φ)(h0:0<=n)(h1:n<=100):∃(xs:List Str)(φ':D),fT φ [.int n]=some ((.lst (xs.map D.str),true),φ')/\(xs.length:Int)=n/\(∀x∈xs,Nm x)/\xs.Nodup/\cW φ':=by
 obtain⟨d,φ1,e1,d0,d1,f1⟩:=b7 (n:=3) hφ (by decide) (by decide)
 have sp:∃A B C R,iD=ay A (ay B (ay C R)) /\
   (∃st φ2,A [.io φ,.v (.int n),.e,.e,.e,.e,.e]=some (.nx [.io φ,.v (.int n),.v (.str ""),.e,.e,.e,.e])/\B [.io φ,.v (.int n),.v (.str ""),.e,.e,.e,.e]=some (.nx [.io φ2,.v (.int n),.v (.str st),.e,.e,.e,.e]) /\
    C [.io φ2,.v (.int n),.v (.str st),.e,.e,.e,.e]=some (.nx [.io φ2,.v (.int n),.v (.str st),.o (.lst []),.e,.e,.e])/\cW φ2/\st.length<=4/\Lw st) /\
   (∀st φ2,cW φ2->st.length<=4->Lw st->∃(xs:List Str)(φ':D)(o4 o5 o6:Sl),R [.io φ2,.v (.int n),.v (.str st),.o (.lst []),.e,.e,.e]=some (.rt (.s 3) [.io φ',.v (.int n),.v (.str st),.o (.lst (xs.map D.str)),o4,o5,o6])/\(xs.length:Int)=n/\(∀x∈xs,Nm x)/\xs.Nodup/\cW φ'):=by
  refine⟨_,_,_,_,rfl,?_,?_⟩
  ·by_cases c:d=0
   ·subst c;obtain⟨d2,φ2,e2,d20,d21,f2⟩:=b7 (n:=4) f1 (by decide) (by decide)
    obtain⟨x,φ3,e3,hx,lx,f3⟩:=mH (k:=1+d2) f2 (by lia) (by lia)
    refine⟨x,φ3,rfl,?_,rfl,f3,by lia,lx⟩
    refine eO (aF (av (bS rfl rfl rfl rfl rfl rfl e1) rfl rfl rfl rfl) rfl) ?_;exact cz (bS rfl rfl (af (av rfl (bS rfl rfl rfl rfl rfl rfl e2) rfl rfl rfl) rfl) rfl rfl rfl e3) rfl
   ·refine⟨"",φ1,rfl,?_,rfl,f1,by decide +kernel,Hg⟩
    have t:decide (V.int d=V.int 0)=false:=Ad fun z=>c (V.int.inj z);exact cf (fU (b:=decide (V.int d=V.int 0)) (aF (av (bS rfl rfl rfl rfl rfl rfl e1) rfl rfl rfl rfl) rfl) t) rfl
  ·intro st φ2 f2 hst lst
   have lp:∀(fg:FG)(B:FS),fg=gN 4->(∀(φ':D)(xs:List Str)(k:D)(o5 o6:Sl),cW φ'->xs.length<=200->(∀x∈xs,Nm x)->xs.Nodup->xs.length<=110->o5.isIo=false->o6.isIo=false->
     ∃φ2 x o6',B [.io φ',.v (.int n),.v (.str st),.o (.lst (xs.map D.str)),.v k,o5,o6]=some (.nx [.io φ2,.v (.int n),.v (.str st),.o (.lst ((xs++[x]).map D.str)),.v k,.v (.str x),.v o6'])/\cW φ2/\Nm x/\x∉xs)->
     ∃(xs:List Str)(φ':D)(o4 o5 o6:Sl),ay (ik (pc (aa (aw 1) ae)) fg B) (be (aw 3)) [.io φ2,.v (.int n),.v (.str st),.o (.lst []),.e,.e,.e]=some (.rt (.s 3) [.io φ',.v (.int n),.v (.str st),.o (.lst (xs.map D.str)),o4,o5,o6])/\(xs.length:Int)=n/\(∀x∈xs,Nm x)/\xs.Nodup/\cW φ':=by
    intro fg B hfg hB;subst hfg;obtain⟨sf,e,φ',xs,o4,o5,o6,rfl,hf,hl,hx,nd,_⟩:=m7 (fg:=gN 4) (B:=B) (rng 0 n.toNat) (fun gone s=>∃(φ':D)(xs:List Str)(o4 o5 o6:Sl),s=[.io φ',.v (.int n),.v (.str st),.o (.lst (xs.map D.str)),o4,o5,o6]/\cW φ'/\xs.length=gone.length/\(∀x∈xs,Nm x)/\xs.Nodup/\o4.isIo=false/\o5.isIo=false/\o6.isIo=false)
     (fun gone x rest s ha zz8=>by
      obtain⟨φ',xs,o4,o5,o6,hs,hf,hl,hx,nd,q4,q5,q6⟩:=zz8;subst hs;have hg:=congrArg List.length ha;rw[gw,Xa,Vc]at hg;obtain⟨φ3,y,o6',eB,f3,ny,hy⟩:=hB φ' xs x o5 o6 hf (by lia) hx nd (by lia) q5 q6
      refine⟨_,_,bc rfl q4,eB,φ3,xs++[y],.v x,.v (.str y),.v o6',rfl,f3,by simp[hl],fun z hz=>?_,?_,rfl,rfl,rfl⟩
      ·rcases Xe.mp hz with w|w
       ·exact hx z w
       ·have:z=y:=by simpa using w
        rw[this];exact ny
      ·rw[Qg]
       exact⟨nd,by simp,fun a ha b hb e=>by
        have:b=y:=by simpa using hb
        subst this;subst e;exact hy ha⟩) (rng 0 n.toNat) [] [.io φ2,.v (.int n),.v (.str st),.o (.lst []),.e,.e,.e] rfl ⟨φ2,[],.e,.e,.e,rfl,f2,rfl,fun x hx=>(by cases hx),List.nodup_nil,rfl,rfl,rfl⟩
    rw[gw]at hl;exact⟨xs,φ',o4,o5,o6,am (eQ (gx rfl rfl ⟨by lia,by lia⟩) e) rfl,by lia,hx,nd,hf⟩
   refine lp _ _ rfl ?_;intro φ' xs k o5 o6 hf _ hx nd hl q5 q6;obtain⟨x,φ3,e3,nx,f3⟩:=Ku hf hst lst;obtain⟨sf,ew,s',y,rfl,ny,hy⟩:=xc (f:=aD (aK IT (aw 5) (aw 3))) (B:=ay (aV (aK pf (aK bu (fC (.str "abcdefghijklmnopqrstuvwxyz")) (aK qv (aw 6) (fC (.int 26)))) (aK bR (fC (.int 1)) (aK wY (aw 6) (fC (.int 26))))) 5) (aV (aK bR (aw 6) (fC (.int 1))) 6))
    (fun m s=>∃(j:Nat)(x:Str),s=[.io φ3,.v (.int n),.v (.str st),.o (.lst (xs.map D.str)),.v k,.v (.str x),.v (.int j)]/\Nm x/\m+j=xs.length+2/\j<=xs.length+1/\(∀i,i+1<j->word i∈xs)/\(j=0\/x=word (j-1)))
    (fun s=>∃(j:Nat)(x:Str),s=[.io φ3,.v (.int n),.v (.str st),.o (.lst (xs.map D.str)),.v k,.v (.str x),.v (.int j)]/\Nm x/\x∉xs)
    (by
     rintro m s ⟨j,x,rfl,nx,hm,hj,hw,hxj⟩;by_cases c:x∈xs
     ·right;have hall:∀i,i<j->word i∈xs:=fun i hi=>by
       rcases hxj with z|z
       ·lia
       ·by_cases e:i+1<j
        ·exact hw i e
        ·have:i=j-1:=by lia
         rw[this,<-z];exact c
      have hle:=Ej hall;obtain⟨m',rfl⟩:∃m',m=m'+1:=⟨m-1,by lia⟩
      have d0:(0:Int)<=1+(j:Int) / 26:=Int.add_nonneg (by decide) (Int.ediv_nonneg (Cw j) (by decide))
      have d1:1+(j:Int) / 26<=1000:=Int.le_trans (Int.add_le_add_left (Int.ediv_le_self 26 (Cw j)) 1) (by lia)
      refine⟨_,[.io φ3,.v (.int n),.v (.str st),.o (.lst (xs.map D.str)),.v k,.v (.str (word j)),.v (.int ((j+1:Nat):Int))],m',fU (aF (av rfl rfl rfl rfl L0) rfl) (Af c),?_,AN _,j+1,word j,rfl,Kl (by lia),by lia,CU hle,fun i hi=>hall i (by lia),.inr rfl⟩
      refine am (cz (av (av rfl rfl rfl rfl (ix_str (by decide +kernel) (OB j))) (av rfl rfl rfl rfl rfl) rfl rfl (yN ⟨d0,d1,(by show 1<=1000;decide)⟩)) rfl) ?_
      rfl
     ·left
      exact⟨_,fU (aF (av rfl rfl rfl rfl L0) rfl) (Ad c),j,x,rfl,nx,c⟩)
    200 (xs.length+2) [.io φ3,.v (.int n),.v (.str st),.o (.lst (xs.map D.str)),.v k,.v (.str x),.v (.int 0)] (by lia) ⟨0,x,rfl,nx,rfl,Xi _,fun i hi=>absurd hi (by lia),.inl rfl⟩
   refine⟨φ3,y,.int s',?_,f3,ny,hy⟩;refine am (cz (bS rfl rfl rfl rfl rfl rfl e3) (bc rfl q5)) ?_;refine am (cz (x:=.int 0) rfl (bc rfl q6)) ?_;refine am ew ?_;refine bE (fR rfl rfl rfl rfl rfl rfl rfl (cT (by rw[Za];lia)) ?_)
   rw[Qb];rfl
 obtain⟨A,B,C,R,eF,⟨st,φ2,eA,eB,eC,f2,hst,lst⟩,hR⟩:=sp;obtain⟨xs,φ',o4,o5,o6,eR,hl,hx,nd,hf⟩:=hR st φ2 f2 hst lst;refine⟨xs,φ',?_,hl,hx,nd,hf⟩;refine dw (o:=.rt (.s 3) [.io φ',.v (.int n),.v (.str st),.o (.lst (xs.map D.str)),o4,o5,o6]) rfl ?_ rfl;rw[eF];exact am eA (am eB (am eC eR))
def Kv{xs:List D}(hφ:cW φ)(hx:xs.length<=200):∃(ys:List D)(φ':D),hV φ [.lst xs]=some ((.lst ys,true),φ')/\ys.Perm xs/\cW φ':=by
 obtain⟨sf,ew,ts,φ',rfl,pm,hf⟩:=xc (f:=aD (aK vt (aw 2) (cy ae))) (B:=bV (fM ja bm 3 (aa (fM ja jp 2 (aa (gj aA 0 (aa (bU cV (aa (aw 2) ae)) ae)) ae)) ae)))
  (fun m s=>∃(ls ts:List D)(φ':D),s=[.io φ',.v (.lst xs),.o (.lst ls),.o (.lst ts)]/\cW φ'/\(ts++ls).Perm xs/\m=ls.length)
  (fun s=>∃(ts:List D)(φ':D),s=[.io φ',.v (.lst xs),.o (.lst []),.o (.lst ts)]/\ts.Perm xs/\cW φ')
  (by
   rintro m s ⟨ls,ts,φ',rfl,hf,pm,rfl⟩;have hlen:ts.length+ls.length=xs.length:=by have:=pm.length_eq;rw[Xa]at this;exact this
   cases ls with
   |nil=>
    rw[Ze]at pm;exact .inl ⟨_,rfl,ts,φ',rfl,pm,hf⟩
   |cons y lr=>
    right;have hl0:(y::lr).length=lr.length+1:=rfl;obtain⟨d,φ2,e,d0,d1,f2⟩:=b7 (n:=((y::lr).length:Int)) hf (by lia) (by lia)
    have hk:d.toNat<(y::lr).length:=by lia
    refine⟨_,[.io φ2,.v (.lst xs),.o (.lst ((y::lr).eraseIdx d.toNat)),.o (.lst (ts++[(y::lr)[d.toNat]]))],((y::lr).eraseIdx d.toNat).length,rfl,?_,?_,_,_,φ2,rfl,f2,?_,rfl⟩
    ·exact bE (fR rfl rfl rfl (af (fR rfl rfl rfl (af (bS rfl rfl rfl rfl rfl rfl e) rfl) rfl rfl rfl (v0 d0 d1 (by lia) hk)) rfl) rfl rfl rfl (cT (by lia)))
    ·rw[List.length_eraseIdx_of_lt hk];lia
    ·refine List.Perm.trans ?_ pm;rw[Zc]
     exact B5 ts (l8 hk))
  300 xs.length [.io φ,.v (.lst xs),.o (.lst xs),.o (.lst [])] (by lia) ⟨xs,[],φ,rfl,hφ,List.Perm.refl _,rfl⟩
 refine⟨ts,φ',?_,pm,hf⟩;refine dw (o:=.rt (.s 3) [.io φ',.v (.lst xs),.o (.lst []),.o (.lst ts)]) rfl ?_ rfl;refine am rfl ?_;refine am rfl ?_;exact am ew rfl
end K12
namespace VF
open L2
def kX(xs:List D):aU [.lst xs]=some (.tup xs,false):=rfl
def OJ{xs ys:List D}(h:xs.length+ys.length<=1000000):iB (.lst xs) [.tup ys]=some (.non,.lst (xs++ys)):=by
 show(if xs.length+ys.length<=1000000 then some (D.non,D.lst (xs++ys)) else none)=_;rw[if_pos h]
end VF
namespace K12
open L2 VF VL
abbrev au(p:Bool×Str):D:=.str (bd p)
abbrev ar:=Bool×List (Bool×Str)
def kd(r:Bool):Str:=if r then "ring" else "open"
def aS(s:ar):D:=.tup [.str (kd s.1),.tup (s.2.map au)]
def dX(h:Nm p.2):(bd p).length<=1000000:=by have:=(jy h).2;lia
def pS{xs:List Str}(hφ:cW φ)(hx:xs.length<=200)(nm:∀x∈xs,Nm x):∃(ps:List (Bool×Str))(φ':D),df φ [.lst (xs.map D.str)]=some ((.tup (ps.map au),false),φ')/\(ps.map (·.2)).Perm xs/\cW φ':=by
 obtain⟨ys,φ1,e1,pm,f1⟩:=Kv (xs:=xs.map D.str) hφ (by rw[Za];exact hx)
 obtain⟨zs,rfl,pz⟩:=jX (g:=fun d=>match d with|.str z=>z|_=>Str.empty) (fun _=>rfl) pm
 have hzl:=pz.length_eq;have nz:∀z∈zs,Nm z:=fun z hz=>nm z (pz.mem_iff.mp hz);obtain⟨ds,sf,ec,φ2,ps,rfl,f2,e3,e4⟩:=sM (fg:=gN 0) (fc:=bA) (k:=1) (fe:=aK bR (aK pf (fC (.str "-")) (gj aA 1 (aa (fC (.int 2)) ae))) (aw 0)) (zs.map D.str)
  (fun gone pre sb=>∃(φ':D)(ps:List (Bool×Str)),sb=[.e,.io φ']/\cW φ'/\pre=ps.map au/\gone=(ps.map (·.2)).map D.str)
  (by
   rintro gone x rest pre sb ha ⟨φ',ps,rfl,hf,rfl,rfl⟩;obtain⟨d,φ2,e,d0,d1,f2⟩:=b7 (n:=2) hf (by decide) (by decide)
   have hxm:x∈zs.map D.str:=by rw[ha];simp
   obtain⟨z,hz,rfl⟩:=Wb.mp hxm;have hm:=Ek (d:=d) (n:=z) d0 d1;refine⟨[.v (.str z),.io φ'],[.v (.str z),.io φ'],.d (au (decide (d=1),z)),[.v (.str z),.io φ2],au (decide (d=1),z),[.v (.str z),.io φ2],rfl,rfl,?_,rfl,φ2,ps++[(decide (d=1),z)],rfl,f2,by rw[Qb];rfl,by rw[Qb,Qb];rfl⟩
   refine av (av rfl (bS rfl rfl rfl rfl rfl rfl e) rfl rfl (yN ⟨d0,by lia,by decide +kernel⟩)) rfl rfl rfl (m5 ?_) ?_
   ·have:=(jy (p:=(decide (d=1),z)) (nz z hz)).2;rw[<-hm,Aj]at this;show(Txt.mul minus d).length+z.length<=_;lia
   ·show Rs.d (D.str (Txt.mul minus d++z))=_
    rw[hm])
  (zs.map D.str) [] [] [.e,.io φ1] rfl ⟨φ1,[],rfl,f1,rfl,rfl⟩
 rw[Wk]at e3;subst e3;have e5:zs=ps.map (·.2):=by
  have:=congrArg (List.map (fun d:D=>match d with|.str z=>z|_=>Str.empty)) e4
  rw[Qc,Qc]at this;exact((Br zs).symm.trans this).trans (Br _)
 refine⟨ps,φ2,?_,by rw[<-e5];exact pz,f2⟩
 refine dw (o:=.rt (.d (.tup (ps.map au))) [.io φ2,.v (.lst (xs.map D.str))]) rfl ?_ rfl;refine aL (a6 (af (bq (m6 (bS rfl rfl rfl rfl rfl rfl e1) rfl) ?_ ec) rfl) rfl rfl);show(true&&decide ((zs.map D.str).length<=1000000))=true;rw[Za,Af (by lia)];rfl
theorem nI:∀(ss:List ar),(∀s∈ss,s.2≠[])->ss.length<=(ss.flatMap (·.2)).length
 |[],_=>Qa _
 | s::r,h=>by
  have ih:=nI r fun x hx=>h x (Wa _ hx);have hs:1<=s.2.length:=by
   cases e:s.2 with|nil=>exact absurd e (h s Va)|cons _ _=>simp
  rw[Xb,Xa,Vc];lia
def OK{xs:List Str}(hφ:cW φ)(hx:xs.length<=200)(nm:∀x∈xs,Nm x):∃(ss:List ar)(φ':D),oq φ [.lst (xs.map D.str),.bl true]=some ((.tup (ss.map aS),false),φ')/\(∀s∈ss,s.2≠[])/\((ss.flatMap (·.2)).map (·.2)).Perm xs/\cW φ':=by
 obtain⟨ps,φ1,e1,pm,f1⟩:=pS hφ hx nm;have hpl:ps.length=xs.length:=by have:=pm.length_eq;rw[Za]at this;exact this
 have lp:∀(B:FS),(∀(φ':D)(ss:List ar)(piece:List (Bool×Str))(b:Bool×Str),cW φ'->(∀s∈ss,s.2≠[])->ss.length<=300->piece.length<=300->
    ∃(φ2:D)(ss2:List ar)(piece2:List (Bool×Str)),B [.io φ',.v (.lst (xs.map D.str)),.v (.bl true),.o (.lst (ss.map aS)),.o (.lst (piece.map au)),.v (au b)]=some (.nx [.io φ2,.v (.lst (xs.map D.str)),.v (.bl true),.o (.lst (ss2.map aS)),.o (.lst (piece2.map au)),.v (au b)])/\cW φ2/\(∀s∈ss2,s.2≠[])/\ss2.flatMap (·.2)++piece2=ss.flatMap (·.2)++piece++[b])->
   ∃(φ':D)(ss:List ar)(piece:List (Bool×Str))(o5:Sl),ik (ig (gj df 0 (aa (aw 1) ae))) (gN 5) B [.io φ,.v (.lst (xs.map D.str)),.v (.bl true),.o (.lst []),.o (.lst []),.e]=some (.nx [.io φ',.v (.lst (xs.map D.str)),.v (.bl true),.o (.lst (ss.map aS)),.o (.lst (piece.map au)),o5])/\cW φ'/\(∀s∈ss,s.2≠[])/\ss.flatMap (·.2)++piece=ps:=by
  intro B hB;obtain⟨sf,e,φ',ss,piece,o5,gp,rfl,hf,hne,hg,hgp,hgp3,_⟩:=m7 (fg:=gN 5) (B:=B) (ps.map au) (fun gone s=>∃(φ':D)(ss:List ar)(piece:List (Bool×Str))(o5:Sl)(gp:List (Bool×Str)),s=[.io φ',.v (.lst (xs.map D.str)),.v (.bl true),.o (.lst (ss.map aS)),.o (.lst (piece.map au)),o5]/\cW φ'/\(∀s∈ss,s.2≠[])/\ss.flatMap (·.2)++piece=gp/\(∃r,gp++r=ps)/\gone=gp.map au/\o5.isIo=false)
   (by
    rintro gone x rest s ha ⟨φ',ss,piece,o5,gp,rfl,hf,hne,hg,⟨r,hr⟩,rfl,q5⟩;cases r with
    |nil=>
     rw[Ze]at hr;subst hr;have:=congrArg List.length ha;simp at this
    |cons b r=>
     have hb:au b=x:=by
      rw[<-hr,Qb]at ha;have:=List.append_cancel_left ha;exact(List.cons.inj this).1
     have hlen:=congrArg List.length hr;rw[Xa,Vc]at hlen;have hl2:=congrArg List.length hg;rw[Xa]at hl2;have hl3:=nI ss hne;obtain⟨φ2,ss2,piece2,eB,f2,hne2,hfl⟩:=hB φ' ss piece b hf hne (by lia) (by lia)
     subst hb
     exact⟨_,_,bc rfl q5,eB,φ2,ss2,piece2,.v (au b),gp++[b],rfl,f2,hne2,by rw[hfl,hg],⟨r,by rw[Zc];exact hr⟩,by rw[Qb];rfl,rfl⟩)
   (ps.map au) [] [.io φ1,.v (.lst (xs.map D.str)),.v (.bl true),.o (.lst []),.o (.lst []),.e] rfl ⟨φ1,[],[],.e,[],rfl,f1,fun s hs=>(by cases hs),rfl,⟨ps,rfl⟩,rfl,rfl⟩
  obtain⟨⟨r,hr⟩,hgp2⟩:(∃r,gp++r=ps)/\ps.map au=gp.map au:=⟨hgp,hgp3⟩;have hlen:=congrArg List.length hgp2;rw[Za,Za]at hlen;have hl2:=congrArg List.length hr;rw[Xa]at hl2;have:r=[]:=Xf (by lia)
  subst this;rw[Ze]at hr;exact⟨φ',ss,piece,o5,eQ (jb (bS rfl rfl rfl rfl rfl rfl e1) rfl) e,hf,hne,by rw[hg,hr]⟩
 have sp:∃B R,lE=ay (aV (cy ae) 3) (ay (aV (cy ae) 4) (ay (ik (ig (gj df 0 (aa (aw 1) ae))) (gN 5) B) R)) /\
   (∀(φ':D)(ss:List ar)(piece:List (Bool×Str))(b:Bool×Str),cW φ'->(∀s∈ss,s.2≠[])->ss.length<=300->piece.length<=300->
    ∃(φ2:D)(ss2:List ar)(piece2:List (Bool×Str)),B [.io φ',.v (.lst (xs.map D.str)),.v (.bl true),.o (.lst (ss.map aS)),.o (.lst (piece.map au)),.v (au b)]=some (.nx [.io φ2,.v (.lst (xs.map D.str)),.v (.bl true),.o (.lst (ss2.map aS)),.o (.lst (piece2.map au)),.v (au b)])/\cW φ2/\(∀s∈ss2,s.2≠[])/\ss2.flatMap (·.2)++piece2=ss.flatMap (·.2)++piece++[b]) /\
   (∀(φ':D)(ss:List ar)(piece:List (Bool×Str))(o5:Sl),ss.length<=300->(∀s∈ss,s.2≠[])->∃(ss2:List ar)(s':En),R [.io φ',.v (.lst (xs.map D.str)),.v (.bl true),.o (.lst (ss.map aS)),.o (.lst (piece.map au)),o5]=some (.rt (.d (.tup (ss2.map aS))) (.io φ'::s'))/\(∀s∈ss2,s.2≠[])/\ss2.flatMap (·.2)=ss.flatMap (·.2)++piece):=by
  refine⟨_,_,rfl,?_,?_⟩
  ·intro φ' ss piece b hf hne hs hp;have ap:bV (fM ja bm 4 (aa (aw 5) ae)) [.io φ',.v (.lst (xs.map D.str)),.v (.bl true),.o (.lst (ss.map aS)),.o (.lst (piece.map au)),.v (au b)]=some (.nx [.io φ',.v (.lst (xs.map D.str)),.v (.bl true),.o (.lst (ss.map aS)),.o (.lst ((piece++[b]).map au)),.v (au b)]) :=
    bE (fR rfl rfl rfl rfl rfl rfl rfl (cT (by rw[Za];lia)) (by rw[Qb];rfl))
   have nw:∀(r:Bool),∀s∈ss++[(r,piece++[b])],s.2≠[]:=fun r s hs=>by
    rcases Xe.mp hs with z|z
    ·exact hne s z
    ·have:s=(r,piece++[b]):=by simpa using z
     rw[this];simp
   have fl:∀(r:Bool),(ss++[(r,piece++[b])]).flatMap (·.2)++[]=ss.flatMap (·.2)++piece++[b]:=fun r=>by
    rw[Yf];simp
   have ms:∀r,(ss++[(r,piece++[b])]).map aS=ss.map aS++[aS (r,piece++[b])]:=fun r=>by rw[Qb];rfl
   have lss:(ss.map aS).length<1000000:=by rw[Za];lia
   obtain⟨d,φ2,e2,d0,d1,f2⟩:=b7 (n:=3) hf (by decide) (by decide)
   by_cases c:d=0
   ·subst c;refine⟨φ2,ss++[(false,piece++[b])],[],am ap ?_,f2,nw false,fl false⟩;refine eO (aF (av (bS rfl rfl rfl rfl rfl rfl e2) rfl rfl rfl rfl) rfl) ?_;refine am (bE (fR rfl rfl rfl rfl rfl rfl rfl (cT lss) (st3:=[.io φ2,.v (.lst (xs.map D.str)),.v (.bl true),.o (.lst ((ss++[(false,piece++[b])]).map aS)),.o (.lst ((piece++[b]).map au)),.v (au b)]) (by rw[ms];rfl))) ?_
    rfl
   ·have t:decide (V.int d=V.int 0)=false:=Ad fun z=>c (V.int.inj z);obtain⟨d2,φ3,e3,d20,d21,f3⟩:=b7 (n:=3) f2 (by decide) (by decide)
    have tst:∀s,aD (aK j6 (gj aA 0 (aa (fC (.int 3)) ae)) (fC (.int 0))) (.io φ2::s)=some (decide (V.int d2=V.int 0),.io φ3::s):=fun s=>aF (av (bS rfl rfl rfl rfl rfl rfl e3) rfl rfl rfl rfl) rfl;by_cases c2:d2=0
    ·subst c2;refine⟨φ3,ss++[(true,piece++[b])],[],am ap ?_,f3,nw true,fl true⟩;refine cf (fU (aF (av (bS rfl rfl rfl rfl rfl rfl e2) rfl rfl rfl rfl) rfl) t) ?_;refine eO (mZ rfl (tst _)) ?_;refine am (bE (fR rfl rfl rfl rfl rfl rfl rfl (cT lss) (st3:=[.io φ3,.v (.lst (xs.map D.str)),.v (.bl true),.o (.lst ((ss++[(true,piece++[b])]).map aS)),.o (.lst ((piece++[b]).map au)),.v (au b)]) (by rw[ms];rfl))) ?_
     rfl
    ·have t2:decide (V.int d2=V.int 0)=false:=Ad fun z=>c2 (V.int.inj z);refine⟨φ3,ss,piece++[b],am ap ?_,f3,hne,by rw[Zc]⟩
     refine cf (fU (aF (av (bS rfl rfl rfl rfl rfl rfl e2) rfl rfl rfl rfl) rfl) t) ?_;exact cf (mZ rfl (fU (tst _) t2)) rfl
  ·intro φ' ss piece o5 hs hne;cases piece with
   |nil=>
    exact⟨ss,_,am (cf rfl rfl) (aL (a6 rfl rfl rfl)),hne,by rw[Ze]⟩
   |cons p pr=>
    refine⟨ss++[(false,p::pr)],[.v (.lst (xs.map D.str)),.v (.bl true),.o (.lst ((ss++[(false,p::pr)]).map aS)),.o (.lst ((p::pr).map au)),o5],?_,fun s hs=>?_,by rw[Yf];simp⟩
    ·refine am (eO rfl (bE (fR rfl rfl rfl rfl rfl rfl rfl (cT (by rw[Za];lia)) (st3:=[.io φ',.v (.lst (xs.map D.str)),.v (.bl true),.o (.lst ((ss++[(false,p::pr)]).map aS)),.o (.lst ((p::pr).map au)),o5]) (by rw[show(ss++[(false,p::pr)]).map aS=ss.map aS++[aS (false,p::pr)] from by rw[Qb];rfl];rfl)))) ?_
     exact aL (a6 rfl rfl rfl)
    ·rcases Xe.mp hs with z|z
     ·exact hne s z
     ·have:s=(false,p::pr):=by simpa using z
      rw[this];simp
 obtain⟨B,R,eF,hB,hR⟩:=sp;obtain⟨φ',ss,piece,o5,eL,hf,hne,hps⟩:=lp B hB;have hl2:=congrArg List.length hps;rw[Xa]at hl2;have hl3:=nI ss hne;obtain⟨ss2,s',eR,hne2,hfl⟩:=hR φ' ss piece o5 (by lia) hne
 refine⟨ss2,φ',?_,hne2,by rw[hfl,hps];exact pm,hf⟩
 refine dw (o:=.rt (.d (.tup (ss2.map aS))) (.io φ'::s')) rfl ?_ rfl;rw[eF];exact am rfl (am rfl (am eL eR))
end K12
namespace VF
open L2
def Kw(h:x∈rng 0 n):∃i:Nat,i<n/\x=.int i:=by
 obtain⟨i,hi⟩:=Xl h;obtain⟨h1,h2⟩:=Fn hi;exact⟨i,h1,by rw[h2,CN]⟩
theorem Kx(xs:List α)(d:D):xs.map (fun _=>d)=List.replicate xs.length d:=by
 induction xs with|nil=>rfl|cons x r ih=>rw[Qd,ih];rfl
end VF
namespace K12
open L2 VF VL
def Ev(h:Dp (n+1) u):a8 (kO (cZ n)) 2 2 [u,u]=some (.bl true,false):=by
 have seqs:∀(ds:List D),ds.length<=1000000->(∀d∈ds,Dp n d)->∀(u:D),(∀i d,ki ds i=some d->bu u (.int i)=some (d,false))->
   cF (gN 0) bA (aN (cZ n) (aa (aK bu (aw 1) (aw 0)) (aa (aK bu (aw 2) (aw 0)) ae))) 1 (rng 0 ((ds.length:Int)).toNat) [.e,.v u,.v u]=some (List.replicate ds.length (D.bl true),[.e,.v u,.v u]):=fun ds hl hd u hu=>by
  have e:=sI (fg:=gN 0) (fc:=bA) (k:=1) (fe:=aN (cZ n) (aa (aK bu (aw 1) (aw 0)) (aa (aK bu (aw 2) (aw 0)) ae))) (fun _=>D.bl true) (rng 0 ((ds.length:Int)).toNat) [.e,.v u,.v u] (fun x hx=>by
   obtain⟨i,hi,rfl⟩:=Kw hx;have hi':i<ds.length:=by lia
   have ha:ki ds (i:Int)=some ds[i]:=mR (Ya hi');refine⟨[.v (.int i),.v u,.v u],[.v (.int i),.v u,.v u],.d (.bl true),[.v (.int i),.v u,.v u],[.v (.int i),.v u,.v u],rfl,rfl,?_,rfl,rfl⟩
   exact aM (af (av rfl rfl rfl rfl (hu _ _ ha)) (af (av rfl rfl rfl rfl (hu _ _ ha)) rfl)) rfl (jq (hd _ (AQ hi'))) rfl)
  rw[e,Kx,gw];have:((ds.length:Int)).toNat=ds.length:=by lia
  rw[this]
 cases h with
 |bl _ b=>cases b<;>rfl
 |int _ i=>
  refine aI (o:=.rt (.d (.bl true)) [.v (.int i),.v (.int i)]) rfl ?_ rfl;refine am rfl (am rfl (fY (eO rfl ?_)));refine aL (qy rfl rfl (av rfl rfl rfl rfl (z:=(.bl (decide (V.int i=V.int i)),false)) rfl ?_));rw[Af rfl];rfl
 |non _=>rfl
 |str _ x=>
  refine aI (o:=.rt (.d (.bl true)) [.v (.str x),.v (.str x)]) rfl ?_ rfl;refine am rfl (am rfl (am rfl (fY (eO rfl ?_))));refine aL (qy rfl rfl (av rfl rfl rfl rfl (z:=(.bl (decide (V.str x=V.str x)),false)) rfl ?_));rw[Af rfl];rfl
 |@tup _ ds hl hd=>
  refine aI (o:=.rt (.d (.bl true)) [.v (.tup ds),.v (.tup ds)]) rfl ?_ rfl;refine am rfl (am rfl (am rfl (am rfl (am rfl ?_))));refine aL (qy (s:=[.v (.tup ds),.v (.tup ds)]) (r:=.d (.bl (decide (V.int ds.length=V.int ds.length)))) rfl (by rw[Af rfl];rfl) ?_)
  refine a6 (af (bq (gx (j:=(ds.length:Int)) rfl rfl ⟨by lia,by lia⟩) (by
   show(true&&decide ((rng 0 ((ds.length:Int)).toNat).length<=1000000))=true
   rw[gw,Af (by lia)];rfl) (seqs ds hl hd (.tup ds) fun i d h=>VF.ix_tup h)) rfl) rfl (vD _)
 |@lst _ ds hl hd=>
  refine aI (o:=.rt (.d (.bl true)) [.v (.lst ds),.v (.lst ds)]) rfl ?_ rfl;refine am rfl (am rfl (am rfl (am rfl (am rfl ?_))));refine aL (qy (s:=[.v (.lst ds),.v (.lst ds)]) (r:=.d (.bl (decide (V.int ds.length=V.int ds.length)))) rfl (by rw[Af rfl];rfl) ?_)
  refine a6 (af (bq (gx (j:=(ds.length:Int)) rfl rfl ⟨by lia,by lia⟩) (by
   show(true&&decide ((rng 0 ((ds.length:Int)).toNat).length<=1000000))=true
   rw[gw,Af (by lia)];rfl) (seqs ds hl hd (.lst ds) fun i d h=>fF h)) rfl) rfl (vD _)
end K12
namespace VF
open L2
theorem sU(f:α->Bool):∀xs:List α,mX (xs.map fun x=>D.bl (f x))=some (xs.map f)
 |[]=>rfl
 | x::r=>by
  show(mX (r.map fun x=>D.bl (f x))).bind _=_;rw[sU f r];rfl
def Hw(f:α->Bool)(xs:List α):D0 [.lst (xs.map fun x=>D.bl (f x))]=some (.bl (xs.all f),false):=by
 show(mX _).bind _=_;rw[sU];show some (D.bl ((xs.map f).all id),false)=_;rw[CM];rfl
end VF
namespace K12
open L2 VF VL VF22
noncomputable section
def PK(c:Nat):Bool:=!(Builtin.Str.occurrences ("abcdefghijklmnopqrstuvwxyz":Str) ⟨#[c]⟩ 0 ("abcdefghijklmnopqrstuvwxyz":Str).length 1).isEmpty
def Ky:∀c:Nat,c<123->97<=c->PK c=true:=by decide +kernel
def RS(x:Str):Bool:=(decide (1<=x.length)&&decide (x.length<=6))&&x.cps.toList.all PK
def OL(h:Nm x):RS x=true:=by
 obtain⟨h1,h2,h3⟩:=h;unfold RS;rw[Af h1,Af h2];simp only[Bool.and_self,Bool.true_and];rw[Yh];intro c hc;have:=h3 c hc;exact Ky c (by lia) this.1
theorem len_str{x:Str}(h:x.length<=1000000):cV [.str x]=some (.int (x.length:Int),false):=by
 first
  | rfl
  | (unfold cV PC;simp[FN,D.seq,FP,h])
def Hx{x:Str}(h:x.length<=1000000):lD [.str x]=some (.bl (RS x),false):=by
 have hc:bQ 1 [] (ig (aw 0)) (gN 0) bA (aK IT (aw 0) (fC (.str "abcdefghijklmnopqrstuvwxyz"))) [.v (.str x)]=some (.f (.lst (x.cps.toList.map fun c=>D.bl (PK c))),[.v (.str x)]):=by
  refine bq (s1:=[.v (.str x)]) (ds:=qr x) (s2:=[.e]) rfl (by
   have:(qr x).length=x.length:=by unfold qr;rw[Za,Zf];rfl
   rw[this,Af h];rfl) ?_
  exact a9 (fun c=>D.str ⟨#[c]⟩) (fun c=>D.bl (PK c)) [.e] x.cps.toList fun c _=>⟨[.v (.str ⟨#[c]⟩)],[.v (.str ⟨#[c]⟩)],.d (.bl (PK c)),[.v (.str ⟨#[c]⟩)],[.v (.str ⟨#[c]⟩)],rfl,rfl,av rfl rfl rfl rfl rfl,rfl,rfl⟩
 have ch:aD (tQ Nv Nv (fC (.int 1)) (bU cV (aa (aw 0) ae)) (fC (.int 6))) [.v (.str x)]=some (decide (1<=x.length)&&decide (x.length<=6),[.v (.str x)]):=by
  have l1:bU cV (aa (aw 0) ae) [.v (.str x)]=some (.d (.int (x.length:Int)),[.v (.str x)]):=a6 rfl rfl (len_str h);have b1:Nv (.int 1) (.int (x.length:Int))=some (.bl (decide (1<=x.length)),false):=by
   show some (D.bl (decide ((1:Int)<=(x.length:Int))),false)=_;congr 3;rw[decide_eq_decide];lia
  have b2:Nv (.int (x.length:Int)) (.int 6)=some (.bl (decide (x.length<=6)),false):=by
   show some (D.bl (decide ((x.length:Int)<=6)),false)=_;congr 3;rw[decide_eq_decide];lia
  refine aF (r:=.d (.bl (decide (1<=x.length)&&decide (x.length<=6)))) ?_ rfl;unfold tQ;simp only[fC,l1,Yb,cont,b1];cases decide (1<=x.length) with
  |false=>rfl
  |true=>
   simp only[b2,Yb];rfl
 refine aI (o:=.rt (.d (.bl (RS x))) [.v (.str x)]) rfl ?_ rfl;unfold RS;cases e:(decide (1<=x.length)&&decide (x.length<=6)) with
 |false=>
  rw[e]at ch;exact fY (eO (JM rfl (kF ch)) rfl)
 |true=>
  rw[e]at ch;refine am (cf (JM rfl (kF ch)) rfl) ?_;exact aL (a6 (af hc rfl) rfl (Hw PK x.cps.toList))
def Hy(h:Nm x):lD [.str x]=some (.bl true,false):=by
 rw[Hx (by have:=h.2.1;lia),OL h]
def eJ(h:Nm n):bX [au (t,n)]=some (.bl t,false):=by
 have e:bX [au (t,n)]=some (.bl (Txt.startswith (bd (t,n)) minus),false):=rfl;rw[e,Em h]
theorem dP(h:Nm n):bC [au (t,n)]=some (.str n,false):=by
 refine aI (o:=.rt (.d (.str n)) [.v (au (t,n))]) rfl ?_ rfl;cases t with
 |true=>
  refine aL (qz (aF (aM rfl rfl (eJ h) rfl) rfl) (gL rfl rfl rfl rfl (t5 (dX h)) ?_));show Rs.d (D.str (Txt.slice (minus++n) (some 1) none))=_;rw[ul]
 |false=>exact aL (qA (aF (aM rfl rfl (eJ h) rfl) rfl) rfl)
def Ew{ss:List ar}(h:(ss.flatMap (·.2)).length<=300)(hs:ss.length<=300):jB [.tup (ss.map aS)]=some (.lst ((ss.flatMap (·.2)).map au),true):=by
 have sp:∃B,jA=ay (aV (cy ae) 1) (ay (ik (ig (aw 0)) (gN 2) B) (be (aw 1)))/\∀(t:D)(xs:List D)(s:ar),xs.length+s.2.length<=1000->B [.v t,.o (.lst xs),.v (aS s)]=some (.nx [.v t,.o (.lst (xs++s.2.map au)),.v (aS s)]):=by
  refine⟨_,rfl,fun t xs s hx=>?_⟩;exact cf rfl (bE (fR rfl rfl rfl rfl rfl rfl rfl (OJ (by rw[Za];lia))))
 obtain⟨B,eF,hB⟩:=sp;obtain⟨sf,e,o2,gs,rfl,hgs,_⟩:=m7 (fg:=gN 2) (B:=B) (ss.map aS) (fun gone s=>∃(o2:Sl)(gs:List ar),s=[.v (.tup (ss.map aS)),.o (.lst ((gs.flatMap (·.2)).map au)),o2]/\(∃r,gs++r=ss)/\gone.length=gs.length/\o2.isIo=false)
  (by
   rintro gone x rest s ha ⟨o2,gs,rfl,⟨r,hr⟩,hl,q⟩;have hg:=congrArg List.length ha;rw[Za,Xa,Vc]at hg;cases r with
   |nil=>
    rw[Ze]at hr;subst hr;lia
   |cons b r=>
    have hx:x=aS b:=by
     have h1:=congrArg (fun l=>l[gone.length]?) ha;simp only[Ve]at h1;rw[<-hr,Vf (by lia),hl,BQ,Vf (by lia)]at h1
     rw[hl,BQ]at h1;simpa using h1.symm
    subst hx;have hfl:(gs.flatMap (·.2)).length+b.2.length<=300:=by
     have:=congrArg (fun l=>(List.flatMap (fun x:ar=>x.2) l).length) hr;simp only[Yf,Xb,Xa]at this;lia
    refine⟨_,_,bc rfl q,hB _ _ b (by rw[Za];lia),.v (aS b),gs++[b],?_,⟨r,by rw[Zc];exact hr⟩,by simp[hl],rfl⟩
    rw[Yf,Qb]
    simp)
  (ss.map aS) [] [.v (.tup (ss.map aS)),.o (.lst []),.e] rfl ⟨.e,[],rfl,⟨ss,rfl⟩,rfl,rfl⟩
 obtain⟨⟨r,hr⟩,hl⟩:(∃r,gs++r=ss)/\(ss.map aS).length=gs.length:=by
  obtain⟨h1,h2⟩:=(show(∃r,gs++r=ss)/\(ss.map aS).length=gs.length from⟨hgs,by simp_all⟩)
  exact⟨h1,h2⟩
 have hl2:=congrArg List.length hr;rw[Xa]at hl2;rw[Za]at hl;have:r=[]:=Xf (by lia)
 subst this;rw[Ze]at hr;subst hr;refine aI (o:=.rt (.s 1) [.v (.tup (gs.map aS)),.o (.lst ((gs.flatMap (·.2)).map au)),o2]) rfl ?_ rfl;rw[eF];exact am rfl (am (eQ (jb rfl rfl) e) rfl)
end
end K12
namespace VF
open L2
theorem Hz:∀(es:List D),CA n (d::es)->Og n es->∃fs:List D,fs.Perm (d::es)/\Og n fs
 |[],_,_=>⟨[d],List.Perm.refl _,Dk _ _⟩
 | e::es,h,s=>by
  obtain⟨s1,s2⟩:=Zn.mp s;cases c:ltN n e d with
  |true=>
   have up:∀x∈d::es,x∈d::e::es:=fun x hx=>by
    rcases Wd.mp hx with m|m
    ·rw[m];exact Va
    ·exact Wa _ (Wa _ m)
   obtain⟨fs,p,q⟩:=Hz (n:=n) (d:=d) es (fun a ha b hb=>h a (up a ha) b (up b hb)) s2;refine⟨e::fs,(p.cons e).trans (List.Perm.swap d e es),Zn.mpr ⟨fun f hf=>?_,q⟩⟩;rcases Wd.mp (p.mem_iff.mp hf) with m|m
   ·rw[m];exact t7 n e d c
   ·exact s1 f m
  |false=>
   refine⟨d::e::es,List.Perm.refl _,Zn.mpr ⟨fun b hb=>?_,s⟩⟩;rcases Wd.mp hb with m|m
   ·rw[m];exact c
   ·cases k:ltN n b d with
    |false=>rfl
    |true=>
     rcases h.neg (a:=b) (b:=e) (c:=d) (by simp[m]) (by simp) (by simp) k with z|z
     ·rw[s1 b m]at z;cases z
     ·rw[c]at z;cases z
theorem HA:∀(ds:List D),CA n ds->∃es:List D,es.Perm ds/\Og n es
 |[],_=>⟨[],List.Perm.refl _,List.Pairwise.nil⟩
 | d::ds,h=>by
  obtain⟨es,p,q⟩:=HA ds fun a ha b hb=>h a (Wa _ ha) b (Wa _ hb);have pd:(d::es).Perm (d::ds):=p.cons d;obtain⟨fs,p2,q2⟩:=Hz (n:=n) (d:=d) es (fun a ha b hb=>h a (pd.mem_iff.mp ha) b (pd.mem_iff.mp hb)) q;exact⟨fs,p2.trans pd,q2⟩
def oU{ds es:List D}(h:CA n ds)(p:ds.Perm es):gO n ds=gO n es:=by
 obtain⟨fs,p1,q⟩:=HA ds h;rw[<-l7 h p1 q];exact l7 (fun a ha b hb=>h a (p.mem_iff.mpr ha) b (p.mem_iff.mpr hb)) (p1.trans p) q
end VF
namespace K12
open L2 VF VL
abbrev End:=Str×Int
def eD(e:End):D:=.tup [.str e.1,.int e.2]
abbrev ip:=List End
def jD(j:ip):D:=.tup (j.map eD)
def Ml(n:Nat)(e:End):Pl (n+2) (eD e):=.tup fun d hd=>by
 rcases Wd.mp hd with rfl|hd
 ·exact .str _ _
 ·obtain rfl:=Zd.mp hd;exact .int _ _
def Mm(n:Nat)(j:ip):Pl (n+3) (jD j):=.tup fun d hd=>by
 obtain⟨e,_,rfl⟩:=Wb.mp hd;exact Ml n e
def RT:D->End|.tup [.str n,.int i]=>(n,i)|_=>(Str.empty,0)
def PL:D->ip|.tup es=>es.map RT|_=>[]
def OM(e:End):RT (eD e)=e:=rfl
def ux(j:ip):PL (jD j)=j:=by
 show(j.map eD).map RT=j;rw[Qc];exact Br j
def Mn(n:Nat)(a b:End):Cp (n+2) (eD a) (eD b):=by
 intro i x y e1 e2
 match i,e1,e2 with
 |0,e1,e2=>
  have q1:D.str a.1=x:=by simpa using e1
  have q2:D.str b.1=y:=by simpa using e2
  subst q1 q2;trivial
 |1,e1,e2=>
  have q1:D.int a.2=x:=by simpa using e1
  have q2:D.int b.2=y:=by simpa using e2
  subst q1 q2;trivial
 |i+2,e1,_=>simp at e1
def RU(n:Nat)(a b:ip):Cp (n+3) (jD a) (jD b):=by
 intro i x y e1 e2;rw[Ve]at e1 e2;obtain⟨c,_,rfl⟩:=Qe.mp e1;obtain⟨d,_,rfl⟩:=Qe.mp e2;exact Mn n c d
noncomputable section
def bK(xs:List End):List End:=(gO 40 (xs.map eD)).map RT
def gB(xs:List ip):List ip:=(gO 40 (xs.map jD)).map PL
def RV(xs:List End):CA 40 (xs.map eD):=fun a ha b hb=>by
 obtain⟨e,_,rfl⟩:=Wb.mp ha;obtain⟨e',_,rfl⟩:=Wb.mp hb;exact Mn 38 e e'
def RW(xs:List ip):CA 40 (xs.map jD):=fun a ha b hb=>by
 obtain⟨e,_,rfl⟩:=Wb.mp ha;obtain⟨e',_,rfl⟩:=Wb.mp hb;exact RU 37 e e'
def cU(xs:List End):gO 40 (xs.map eD)=(bK xs).map eD/\(bK xs).Perm xs:=by
 obtain⟨ys,e,p⟩:=jX (f:=eD) (g:=RT) OM (qF 40 (xs.map eD));have h:bK xs=ys:=by
  unfold bK;rw[e,Qc];exact Br ys
 rw[h];exact⟨e,p⟩
def bJ(xs:List ip):gO 40 (xs.map jD)=(gB xs).map jD/\(gB xs).Perm xs:=by
 obtain⟨ys,e,p⟩:=jX (f:=jD) (g:=PL) ux (qF 40 (xs.map jD));have h:gB xs=ys:=by
  unfold gB;rw[e,Qc,show(PL ∘ jD)=id from funext ux,AL]
 rw[h];exact⟨e,p⟩
def fG{xs ys:List End}(p:xs.Perm ys):bK xs=bK ys:=by
 unfold bK;rw[oU (RV xs) (p.map eD)]
def hX{xs ys:List ip}(p:xs.Perm ys):gB xs=gB ys:=by
 unfold gB;rw[oU (RW xs) (p.map jD)]
def gE{d:D}(xs:List End)(hl:xs.length<64)(h0:d.seq=some (xs.map eD)):cQ [d]=some (.lst ((bK xs).map eD),true):=by
 rw[<-(cU xs).1];unfold cQ;dsimp only;rw[h0];dsimp only;refine if_pos ⟨fun x hx=>?_,RV xs,⟨_,.tp (T:="str") fun d hd=>?_⟩,by rw[Za];exact hl⟩
 ·obtain⟨e,_,rfl⟩:=Wb.mp hx;exact Ml 38 e
 ·obtain⟨e,_,rfl⟩:=Wb.mp hd;exact⟨_,_,rfl,fun z=>(by cases z),rfl⟩
def jg{d:D}(xs:List ip)(hl:xs.length<64)(hn:∀j∈xs,j≠[])(h0:d.seq=some (xs.map jD)):cQ [d]=some (.lst ((gB xs).map jD),true):=by
 rw[<-(bJ xs).1];unfold cQ;dsimp only;rw[h0];dsimp only;refine if_pos ⟨fun x hx=>?_,RW xs,⟨_,.tp (T:="tuple") fun d hd=>?_⟩,by rw[Za];exact hl⟩
 ·obtain⟨e,_,rfl⟩:=Wb.mp hx;exact Mm 37 e
 ·obtain⟨j,hj,rfl⟩:=Wb.mp hd;cases j with|nil=>exact absurd rfl (hn _ hj)|cons e r=>exact⟨eD e,r.map eD,rfl,fun z=>(by cases z),rfl⟩
end
end K12
namespace K12
open L2 VF VL
def xH(h:Nm n):ee [au (t,n)]=some (au (!t,n),false):=by
 have e1:minus.length=1:=by decide +kernel
 refine aI (o:=.rt (.d (au (!t,n))) [.v (au (t,n))]) rfl ?_ rfl;cases t with
 |true=>exact aL (qz (aF (aM rfl rfl (eJ h) rfl) rfl) (aM rfl rfl (dP h) rfl))
 | false=>exact aL (qA (aF (aM rfl rfl (eJ h) rfl) rfl) (av rfl rfl rfl rfl (m5 (by
   have:=(jy (p:=(false,n)) h).2;show minus.length+(bd (false,n)).length<=_
   lia))))
def Kz(h:Nm n):cS [au (t,n)]=some (au (!t,n),false):=by
 have e1:minus.length=1:=by decide +kernel
 obtain⟨c,hc,hcm⟩:=qN (p:=(t,n)) h;refine aI (o:=.rt (.d (au (!t,n))) [.v (au (t,n))]) rfl ?_ rfl;cases t with
 |true=>
  refine fY (eO (fU (aF (av (av rfl rfl rfl rfl (ix_str (dX h) hc)) rfl rfl rfl rfl) rfl) (Af (hcm.mpr rfl))) (aL (gL rfl rfl rfl rfl (t5 (dX h)) ?_)));show Rs.d (D.str (Txt.slice (minus++n) (some 1) none))=_;rw[ul];rfl
 |false=>
  refine am (cf (fU (aF (av (av rfl rfl rfl rfl (ix_str (dX h) hc)) rfl rfl rfl rfl) rfl) (Ad fun z=>by cases (hcm.mp z))) rfl) ?_
  exact aL (av rfl rfl rfl rfl (m5 (by
   have:=(jy (p:=(false,n)) h).2;show minus.length+(bd (false,n)).length<=_
   lia)))
def bN(p:Bool×Str):End:=(p.2,if p.1 then 1 else 0)
def b8(p:Bool×Str):End:=(p.2,if p.1 then 0 else 1)
def pU(h:Nm n):de [au (t,n)]=some (eD (bN (t,n)),false):=by
 refine aI (o:=.rt (.d (eD (bN (t,n)))) [.v (au (t,n))]) rfl (aL ?_) rfl;have h1:aD (aN bX (aa (aw 0) ae)) [.v (au (t,n))]=some (t,[.v (au (t,n))]):=aF (aM rfl rfl (eJ h) rfl) rfl;refine bH (af (aM rfl rfl (dP h) rfl) (af (r:=.d (.int (if t then 1 else 0))) ?_ rfl)) rfl (by show 2<=1000000;decide)
 cases t with|true=>exact qz h1 rfl|false=>exact qA h1 rfl
def qV(h:Nm n):cX [au (t,n)]=some (eD (b8 (t,n)),false):=by
 have e:b8 (t,n)=bN (!t,n):=by cases t<;>rfl
 rw[e];exact aI (o:=.rt (.d (eD (bN (!t,n)))) [.v (au (t,n))]) rfl (aL (aE (af (aM rfl rfl (xH h) rfl) rfl) rfl (pU h))) rfl
def v5:cM [.tup [eD a,eD b]]=some (jD (bK [a,b]),false):=by
 refine aI (o:=.rt (.d (jD (bK [a,b]))) [.v (.tup [eD a,eD b])]) rfl (aL (a6 (af (a6 (af rfl rfl) rfl (gE [a,b] (by simp) rfl)) rfl) rfl rfl)) rfl
end K12
namespace K12
open L2 VF VL VF22
noncomputable section
def fu(ps:List (Bool×Str)):List ip:=(ps.zip (ps.drop 1)).map fun q=>bK [b8 q.1,bN q.2]
def RX(xs ys:List (Bool×Str)):List.zipWith pr (xs.map au) (ys.map au)=(xs.zip ys).map fun q=>pr (au q.1) (au q.2):=by
 rw[List.zipWith_map,List.zip,List.map_zipWith]
def HB{ps:List (Bool×Str)}(hn:∀p∈ps,Nm p.2)(hl:ps.length<=100)(hs:jh (.tup (ps.map au)) (some 1) none=some (.tup ((ps.drop 1).map au),false)) :
  eV [.tup (ps.map au)]=some (.lst ((fu ps).map jD),true):=by
 have ec:cF (gT 2 (ij (gN 0) (ij (gN 1) qq))) bA (aO cM (aa (cO (aa (aO cX (aa (aw 0) ae)) (aa (aO de (aa (aw 1) ae)) ae))) ae)) 2 ((ps.zip (ps.drop 1)).map fun q=>pr (au q.1) (au q.2)) [.e,.e]=some ((fu ps).map jD,[.e,.e]):=by
  have:=a9 (fg:=gT 2 (ij (gN 0) (ij (gN 1) qq))) (fc:=bA) (fe:=aO cM (aa (cO (aa (aO cX (aa (aw 0) ae)) (aa (aO de (aa (aw 1) ae)) ae))) ae)) (k:=2)
   (fun q:(Bool×Str)×(Bool×Str)=>pr (au q.1) (au q.2)) (fun q=>jD (bK [b8 q.1,bN q.2])) [.e,.e] (ps.zip (ps.drop 1)) fun q hq=>by
    have m:=Yn hq;have n1:=hn q.1 m.1;have n2:=hn q.2 (Bk m.2);refine⟨[.v (au q.1),.v (au q.2)],[.v (au q.1),.v (au q.2)],.d (jD (bK [b8 q.1,bN q.2])),[.v (au q.1),.v (au q.2)],[.v (au q.1),.v (au q.2)],rfl,rfl,?_,rfl,rfl⟩;exact aE (af (bH (af (aE rfl rfl (qV n1)) (af (aE rfl rfl (pU n2)) rfl)) rfl (by show 2<=1000000;decide)) rfl) rfl v5
  rw[this,fu,Qc];rfl
 refine aI (o:=.rt (.f (.lst ((fu ps).map jD))) [.v (.tup (ps.map au))]) rfl (aL (bq (s1:=[.v (.tup (ps.map au))]) (ds:=(ps.zip (ps.drop 1)).map fun q=>pr (au q.1) (au q.2)) ?_ ?_ ec)) rfl
 ·have e1:(aa (aw 0) (aa (n8 jh (aw 0) (cc (fC (.int 1))) tX) ae)) (jm 1 [.tup (ps.map au)])=some (_,_):=af rfl (af (gL rfl rfl rfl rfl hs) rfl);show((aa (aw 0) (aa (n8 jh (aw 0) (cc (fC (.int 1))) tX) ae)) (jm 1 [.tup (ps.map au)])).bind _=_;rw[e1,<-RX];rfl
 ·show(true&&decide (((ps.zip (ps.drop 1)).map fun q=>pr (au q.1) (au q.2)).length<=1000000))=true;rw[Za,C4,Af (by lia)];rfl
end
end K12
namespace K12
open L2 VF VL
def KC:jh (.tup (d::ds)) (some 1) none=some (.tup ds,false):=by
 have h:=xh (d::ds) (some 1) none;have e1:DZ (.tup (d::ds)) (some 1) none=none:=rfl;have c:¬ (HT.sIx (d::ds).length 0 (some 1)=0/\HT.sIx (d::ds).length (d::ds).length none=(d::ds).length):=fun z=>by
  have m:min 1 (d::ds).length=0:=(HT.sIx_nat (d::ds).length 0 1).symm.trans z.1;rw[Vc]at m;lia
 have e2:ph (.tup (d::ds)) (some 1) none=some (.tup (cutD (d::ds) (some 1) none),false):=by simp only[ph,Ah c]
 have e3:cutD (d::ds) (some 1) none=ds:=m8 (i:=1) (by rw[Vc];lia)
 rw[e3]at e2;show FL DZ (FL ph FM) _ _ _=_;simp only[FL,e1,e2]
end K12
namespace VF
open L2
def i3{ds:List D}(h1:fa st=some (rs,s1))(h2:d8 rs s1=some (ds,s2))(h3:ds.length<=1000000):cy fa st=some (.f (.lst ds),s2):=by
 simp only[cy,h1,h2,Yb];rw[if_pos h3]
def v6(h1:fa st=some (r,s))(h2:cont s r=some d)(h3:b d=some z)(hz:mk z=r':=by rfl):wV b fa st=some (r',s):=by
 simp only[wV,h1,h2,h3,hz,Yb]
def lH{a b:List D}(h:a.length+b.length<=1000000):bR (.lst a) (.lst b)=some (.lst (a++b),true):=by
 have e1:vg (.lst a) (.lst b)=none:=rfl;have e2:vk (.lst a) (.lst b)=none:=rfl;have e3:FF (.lst a) (.lst b)=some (.lst (a++b),true):=by simp only[FF];rw[if_pos h]
 unfold bR n4;rw[e1,e2,e3]
end VF
namespace K12
open L2 VF VL VF22
def mI{l:List D}(hl:l.length<=n)(hn:n<=1000000:=by decide)(hb:b=true):(b&&decide (l.length<=1000000))=true:=by rw[hb,Af (by lia)];rfl
def hY{α:Type}{f:α->D}{xs:List α}{i:Nat}{x:α}(h:xs[i]?=some x):ki (xs.map f) (i:Int)=some (f x):=mR (xs:=xs.map f) (j:=i) (by rw[Ve,h];rfl)
def uz{xs:List α}(h:xs[xs.length-1]?=some x):ki (xs.map f) (-1)=some (f x):=by
 have hl:=(Yd.mp h).1;unfold ki DN;rw[Ah (by lia),if_pos (by rw[Za];lia)]
 show(xs.map f)[(-1+((xs.map f).length:Int)).toNat]?=_;rw[Za,show(-1+(xs.length:Int)).toNat=xs.length - 1 by lia,Ve,h];rfl
noncomputable section
abbrev z0:Bool×Str:=(false,Str.empty)
def qW(s:ar):List ip:=if s.1 then [bK [bN (s.2.headD z0),b8 (s.2.getLastD z0)]] else [[bN (s.2.headD z0)],[b8 (s.2.getLastD z0)]]
def sj(s:ar):List ip:=fu s.2++qW s
theorem lI{ps:List (Bool×Str)}(h:ps≠[]):ps[0]?=some (ps.headD z0):=by
 cases ps with|nil=>exact absurd rfl h|cons p r=>rfl
theorem pV{ps:List (Bool×Str)}(h:ps≠[]):ps[ps.length-1]?=some (ps.getLastD z0):=by
 rw[<-List.getLast?_eq_getElem?,Yl];cases ps with|nil=>exact absurd rfl h|cons p r=>rw[List.getLast?_cons];rfl
def nK(ps:List (Bool×Str)):(fu ps).length=ps.length-1:=by
 unfold fu;rw[Za,C4,Vg];lia
def OO(h:s.2≠[]):(sj s).length<=s.2.length+1:=by
 have:=Xm.mpr h;unfold sj qW;rw[Xa,nK];split<;>(simp only[Vc,Wh];lia)
def xI(a b:End):(bK [a,b]).length=2:=(cU [a,b]).2.length_eq
def HD(h:j∈sj s):j≠[]:=by
 have two:∀a b:End,bK [a,b]≠[]:=fun a b z=>by have:=xI a b;rw[z]at this;cases this
 unfold sj at h;rcases Xe.mp h with h|h
 ·unfold fu at h;obtain⟨q,_,rfl⟩:=Wb.mp h;exact two _ _
 ·unfold qW at h;split at h
  ·obtain rfl:=Zd.mp h;exact two _ _
  ·simp at h;rcases h with rfl|rfl<;>simp
def Ex{s:ar}(hs:s.2≠[])(hn:∀p∈s.2,Nm p.2)(hl:s.2.length<=100):d7 [aS s]=some (.lst ((sj s).map jD),true):=by
 obtain⟨r,ps⟩:=s;dsimp only at hs hn hl;have h0:=lI hs;have hL:=pV hs;have n0:=hn _ (Wc h0);have nl:=hn _ (Wc hL);generalize e0:ps.headD z0=p0 at h0 n0;generalize eL:ps.getLastD z0=pl at hL nl;have i0:bu (.tup (ps.map au)) (.int 0)=some (au p0,false):=VF.ix_tup (hY (i:=0) h0);have il:bu (.tup (ps.map au)) (.int (-1))=some (au pl,false):=VF.ix_tup (uz hL);have hsl:jh (.tup (ps.map au)) (some 1) none=some (.tup ((ps.drop 1).map au),false):=by
  cases ps with|nil=>exact absurd rfl hs|cons p q=>exact KC
 have hi:=HB hn hl hsl;have hll:(fu ps).length<=100:=by rw[nK];lia
 have eo:qW (r,ps)=if r then [bK [bN p0,b8 pl]] else [[bN p0],[b8 pl]]:=by unfold qW;dsimp only;rw[e0,eL]
 unfold sj;rw[eo];dsimp only;refine aI (o:=.rt (.f (.lst ((fu ps++(if r then [bK [bN p0,b8 pl]] else [[bN p0],[b8 pl]])).map jD))) [.v (aS (r,ps)),.v (.tup (ps.map au)),.v (eD (bN p0)),.v (eD (b8 pl)),.o (.lst ((if r then [bK [bN p0,b8 pl]] else [[bN p0],[b8 pl]]).map jD))]) rfl ?_ rfl;refine am (cz rfl rfl) ?_;refine am (cz (aE (af (av rfl rfl rfl rfl i0) rfl) rfl (pU (t:=p0.1) (n:=p0.2) n0)) rfl) ?_;refine am (cz (aE (af (av rfl (v6 rfl rfl rfl) rfl rfl il) rfl) rfl (qV (t:=pl.1) (n:=pl.2) nl)) rfl) ?_;have fin:∀os:List ip,os.length<=2->(be (aK bR (aO eV (aa (aw 1) ae)) (aw 4))) [.v (aS (r,ps)),.v (.tup (ps.map au)),.v (eD (bN p0)),.v (eD (b8 pl)),.o (.lst (os.map jD))]=some (.rt (.f (.lst ((fu ps++os).map jD))) [.v (aS (r,ps)),.v (.tup (ps.map au)),.v (eD (bN p0)),.v (eD (b8 pl)),.o (.lst (os.map jD))]):=fun os ho=>by
  refine aL (av (aE rfl rfl hi) rfl rfl rfl (lH ?_) ?_)
  ·rw[Za,Za];lia
  ·rw[Qb];rfl
 cases r with
 |true=>
  refine am (eG (qA rfl (i3 (af (aE (af (bH rfl rfl (by show 2<=1000000;decide)) rfl) rfl v5) rfl) rfl (by show 1<=1000000;decide))) rfl) ?_
  exact fin [bK [bN p0,b8 pl]] (by show 1<=2;decide)
 |false=>
  refine am (eG (qz rfl (i3 (af (bH rfl rfl (by show 1<=1000000;decide)) (af (bH rfl rfl (by show 1<=1000000;decide)) rfl)) rfl (by show 2<=1000000;decide))) rfl) ?_
  exact fin [[bN p0],[b8 pl]] (by show 2<=2;decide)
theorem pW:∀{ss:List ar},(∀s∈ss,s.2≠[])->(ss.flatMap sj).length<=2*(ss.flatMap (·.2)).length
 |[],_=>Qa _
 | s::r,h=>by
  have ih:=pW fun x hx=>h x (Wa _ hx);have h1:=h s Va;have h2:=OO h1;have:=Xm.mpr h1;rw[Xb,Xb,Xa,Xa];lia
def jo(ss:List ar):List ip:=gB (ss.flatMap sj)
def Ey{ss:List ar}(hne:∀s∈ss,s.2≠[])(hn:∀s∈ss,∀p∈s.2,Nm p.2)(hl:(ss.flatMap (·.2)).length<=30):kN [.tup (ss.map aS)]=some (.tup ((jo ss).map jD),false):=by
 have hj:=pW hne;obtain⟨sf,e,s2,rfl,q2⟩:=dA (fg:=gN 2) (B:=bV (fM ja iB 1 (aa (aO d7 (aa (aw 2) ae)) ae))) aS ss
  (fun gone st=>∃s2:Sl,st=[.v (.tup (ss.map aS)),.o (.lst ((gone.flatMap sj).map jD)),s2]/\s2.isIo=false)
  (by
   rintro gone s rest st ha ⟨s2,rfl,q2⟩;have hm:s∈ss:=by rw[ha];simp
   have hsl:s.2.length<=100:=by
    have:=congrArg (fun l=>(List.flatMap (fun x:ar=>x.2) l).length) ha;simp only[Yf,Xb,Xa]at this;lia
   have hgl:(gone.flatMap sj).length+(sj s).length<=200:=by
    have:=congrArg (fun l=>(List.flatMap sj l).length) ha;simp only[Yf,Xb,Xa]at this;lia
   refine⟨_,[.v (.tup (ss.map aS)),.o (.lst (((gone++[s]).flatMap sj).map jD)),.v (aS s)],bc rfl q2,?_,.v (aS s),rfl,rfl⟩;refine bE (fR rfl rfl rfl (af (aE rfl rfl (Ex (hne s hm) (hn s hm) hsl)) rfl) rfl rfl rfl (yQ ?_) ?_)
   ·rw[Za,Za];lia
   ·rw[Yf,Wm,Qb];rfl)
  ss [] [.v (.tup (ss.map aS)),.o (.lst []),.e] rfl ⟨.e,rfl,rfl⟩
 refine aI (o:=.rt (.d (.tup ((jo ss).map jD))) [.v (.tup (ss.map aS)),.o (.lst ((ss.flatMap sj).map jD)),s2]) rfl ?_ rfl;refine am rfl (am (eQ (jb rfl rfl) e) (aL (a6 (af (a6 rfl rfl (jg (ss.flatMap sj) (by lia) (fun j hj=>?_) rfl)) rfl) rfl rfl)))
 obtain⟨s,_,h⟩:=Yg.mp hj;exact HD h
end
end K12
namespace K12
open L2 VF VL VF22
noncomputable section
def bx(p:Bool×Str):D:=.tup [eD (bN p),eD (b8 p)]
theorem zu(h:Nm p.2):eu [au p]=some (bx p,false):=by
 obtain⟨t,n⟩:=p;obtain⟨c,hc,hcm⟩:=qN (p:=(t,n)) h;refine aI (o:=.rt (.d (bx (t,n))) [.v (au (t,n))]) rfl ?_ rfl;cases t with
 |true=>
  have hs:jh (au (true,n)) (some 1) none=some (.str n,false):=by
   rw[t5 (dX h)];show some (D.str (Txt.slice (minus++n) (some 1) none),false)=_;rw[ul]
  refine fY (eO (fU (aF (av (av rfl rfl rfl rfl (ix_str (dX h) hc)) rfl rfl rfl rfl) rfl) (Af (hcm.mpr rfl))) (aL ?_));exact bH (af (bH (af (gL rfl rfl rfl rfl hs) rfl) rfl (by show 2<=1000000;decide)) (af (bH (af (gL rfl rfl rfl rfl hs) rfl) rfl (by show 2<=1000000;decide)) rfl)) rfl (by show 2<=1000000;decide)
 |false=>
  refine am (cf (fU (aF (av (av rfl rfl rfl rfl (ix_str (dX h) hc)) rfl rfl rfl rfl) rfl) (Ad fun z=>by cases (hcm.mp z))) rfl) (aL ?_)
  exact bH (af (bH rfl rfl (by show 2<=1000000;decide)) (af (bH rfl rfl (by show 2<=1000000;decide)) rfl)) rfl (by show 2<=1000000;decide)
def v7{ps:List (Bool×Str)}(hp:∀p∈ps,Nm p.2):cF (gN 0) bA (aO eu (aa (aw 0) ae)) 1 (ps.map au) [.e]=some (ps.map bx,[.e]) :=
 a9 (fg:=gN 0) (fc:=bA) (fe:=aO eu (aa (aw 0) ae)) (k:=1) au bx [.e] ps fun p hpp=>⟨[.v (au p)],[.v (au p)],.d (bx p),[.v (au p)],[.v (au p)],rfl,rfl,aE rfl rfl (zu (hp p hpp)),rfl,rfl⟩
def Jn(p q:Bool×Str):ip:=bK [b8 p,bN q]
def HE(h1:ps[i]?=some a)(h2:ps[i+1]?=some b):(fu ps).take (i+1)=(fu ps).take i++[Jn a b]:=by
 rw[List.take_add_one];congr 1;unfold fu;rw[Ve];have:(ps.zip (ps.drop 1))[i]?=some (a,b):=by
  rw[Dg];refine⟨h1,?_⟩;rw[Zj,Dq];exact h2
 rw[this];rfl
def Ez{S kd bs:D}{ps:List (Bool×Str)}(h1:1<=ps.length)(hl:ps.length<=100)(B:FS)
  (hB:B=bV (fM ja bm 1 (aa (bU aU (aa (bU cQ (aa (cy (aa (aK bu (aK bu (aw 4) (aw 5)) (fC (.int 1))) (aa (aK bu (aK bu (aw 4) (aK bR (aw 5) (fC (.int 1)))) (fC (.int 0))) ae))) ae)) ae)) ae)))
  (js:List ip) (hj:js.length<=500) (s5:Sl) (q5:s5.isIo=false) :
  ∃(s5':Sl),cN (gN 5) B (rng 0 (ps.length-1)) [.v S,.o (.lst (js.map jD)),.v kd,.v bs,.o (.lst (ps.map bx)),s5]=some (.nx [.v S,.o (.lst ((js++fu ps).map jD)),.v kd,.v bs,.o (.lst (ps.map bx)),s5'])/\s5'.isIo=false:=by
 have e0:rng 0 (ps.length-1)=(List.range (ps.length-1)).map fun t:Nat=>D.int (t:Int):=by
  unfold rng;exact Ye fun t _=>by rw[CN]
 rw[e0];obtain⟨sf,e,s5',rfl,q5'⟩:=dA (fg:=gN 5) (B:=B) (fun t:Nat=>D.int (t:Int)) (List.range (ps.length-1))
  (fun gone st=>∃(s5':Sl),st=[.v S,.o (.lst ((js++(fu ps).take gone.length).map jD)),.v kd,.v bs,.o (.lst (ps.map bx)),s5']/\s5'.isIo=false)
  (by
   rintro gone x rest st ha ⟨s5',rfl,q5'⟩;have hx:x<ps.length-1:=Vi.mp (by rw[ha];simp)
   have hg:x=gone.length:=by
    have:=congrArg (fun l=>l[gone.length]?) ha;rw[Cd (by have:=congrArg List.length ha;rw[Vl,Xa,Vc]at this;lia)]at this
    simpa using this.symm
   have a1:ps[x]?=some ps[x]:=Ya (by lia)
   have a2:ps[x+1]?=some ps[x+1]:=Ya (by lia)
   have i1:bu (.lst (ps.map bx)) (.int (x:Int))=some (bx ps[x],false):=fF (hY a1);have i2:bu (.lst (ps.map bx)) (.int ((x:Int)+1))=some (bx ps[x+1],false):=by
    have:=hY (f:=bx) a2;rw[Int.natCast_add]at this;exact fF this
   have ej:=gE (d:=.lst [eD (b8 ps[x]),eD (bN ps[x+1])]) [b8 ps[x],bN ps[x+1]] (by simp) rfl
   refine⟨_,[.v S,.o (.lst ((js++(fu ps).take (gone++[x]).length).map jD)),.v kd,.v bs,.o (.lst (ps.map bx)),.v (.int (x:Int))],bc rfl q5',?_,.v (.int (x:Int)),rfl,rfl⟩;rw[hB];refine bE (fR rfl rfl rfl (af (a6 (af (a6 (af (i3 (af (av (av rfl rfl rfl rfl i1) rfl rfl rfl rfl) (af (av (av rfl (av rfl rfl rfl rfl rfl) rfl rfl i2) rfl rfl rfl rfl) rfl)) rfl (by show 2<=1000000;decide)) rfl) rfl ej) rfl) rfl rfl) rfl) rfl rfl rfl (cT ?_) ?_)
   ·rw[Za,Xa,Wg,nK];lia
   ·rw[Xa,Yi,<-hg,HE a1 a2,<-Zc,Qb (l₁:=js++_)];rfl)
  (List.range (ps.length-1)) [] [.v S,.o (.lst (js.map jD)),.v kd,.v bs,.o (.lst (ps.map bx)),s5] rfl ⟨s5,by rw[Wh,List.take_zero,Ze],q5⟩
 rw[Vl,BT (by rw[nK];lia)]at e
 exact⟨s5',e,q5'⟩
def mJ{ss:List ar}(hne:∀s∈ss,s.2≠[])(hn:∀s∈ss,∀p∈s.2,Nm p.2)(hl:(ss.flatMap (·.2)).length<=30):dO [.tup (ss.map aS)]=some (.tup ((jo ss).map jD),false):=by
 have hj:=pW hne;have sp:∃B,gy=ay (aV (cy ae) 1) (ay (ik (ig (aw 0)) (VF.gT 2 (ij (gN 2) (ij (gN 3) qq))) B) (be (bU aU (aa (bU cQ (aa (aw 1) ae)) ae)))) /\
   ∀(S:D)(js:List ip)(s:ar)(s4 s5:Sl),s.2≠[]->(∀p∈s.2,Nm p.2)->s.2.length<=100->js.length<=300->s4.isIo=false->s5.isIo=false->
    ∃(s4' s5':Sl),B [.v S,.o (.lst (js.map jD)),.v (.str (kd s.1)),.v (.tup (s.2.map au)),s4,s5]=some (.nx [.v S,.o (.lst ((js++sj s).map jD)),.v (.str (kd s.1)),.v (.tup (s.2.map au)),s4',s5'])/\s4'.isIo=false/\s5'.isIo=false:=by
  refine⟨_,rfl,fun S js s s4 s5 hs hp hsl hj q4 q5=>?_⟩;obtain⟨r,ps⟩:=s;dsimp only at hs hp hsl ⊢;have hps:1<=ps.length:=Xm.mpr hs;have cm:=v7 hp;obtain⟨s5',e1,q5'⟩:=Ez (S:=S) (kd:=.str (kd r)) (bs:=.tup (ps.map au)) hps hsl _ rfl js (by lia) s5 q5
  have hp0:=lI hs;have hpl:=pV hs;have i0:bu (.lst (ps.map bx)) (.int 0)=some (bx (ps.headD z0),false):=fF (hY (i:=0) hp0);have il:bu (.lst (ps.map bx)) (.int (-1))=some (bx (ps.getLastD z0),false):=fF (uz hpl);have len4:cV [.lst (ps.map bx)]=some (.int ps.length,false):=by
   show some (D.int ((ps.map bx).length:Nat),false)=_;rw[Za]
  have esub:((ps.length:Int)-1).toNat=ps.length-1:=by lia
  have hil:(js++fu ps).length<=500:=by rw[Xa,nK];lia
  cases r with
  |true=>
   have ej:=gE (d:=.lst [eD (b8 (ps.getLastD z0)),eD (bN (ps.headD z0))]) [b8 (ps.getLastD z0),bN (ps.headD z0)] (by simp) rfl
   have es:sj (true,ps)=fu ps++[bK [b8 (ps.getLastD z0),bN (ps.headD z0)]]:=by
    show fu ps++[bK [bN (ps.headD z0),b8 (ps.getLastD z0)]]=_;rw[fG (List.Perm.swap _ _ [])]
   refine⟨.o (.lst (ps.map bx)),s5',?_,rfl,q5'⟩;refine am (eG (bq (jb rfl rfl) (mI (n:=100) (by rw[Za];exact hsl) (by decide) rfl) cm) (bc rfl q4)) ?_
   refine am (eQ (gx (j:=(ps.length:Int)-1) (af (av (a6 rfl rfl len4) rfl rfl rfl rfl) rfl) rfl ⟨by lia,by lia⟩) (by rw[esub];exact e1)) ?_
   refine eO rfl ?_;refine bE (fR rfl rfl rfl (af (a6 (af (a6 (af (i3 (af (av (av rfl (v6 rfl rfl rfl) rfl rfl il) rfl rfl rfl rfl) (af (av (av rfl rfl rfl rfl i0) rfl rfl rfl rfl) rfl)) rfl (by show 2<=1000000;decide)) rfl) rfl ej) rfl) rfl rfl) rfl) rfl rfl rfl (cT ?_) ?_)
   ·rw[Za];lia
   ·rw[es,<-Zc,Qb (l₁:=js++fu ps)];rfl
  |false=>
   have es:sj (false,ps)=fu ps++[[bN (ps.headD z0)],[b8 (ps.getLastD z0)]]:=rfl;refine⟨.o (.lst (ps.map bx)),s5',?_,rfl,q5'⟩;refine am (eG (bq (jb rfl rfl) (mI (n:=100) (by rw[Za];exact hsl) (by decide) rfl) cm) (bc rfl q4)) ?_
   refine am (eQ (gx (j:=(ps.length:Int)-1) (af (av (a6 rfl rfl len4) rfl rfl rfl rfl) rfl) rfl ⟨by lia,by lia⟩) (by rw[esub];exact e1)) ?_
   refine cf rfl ?_;refine am (s:=[.v S,.o (.lst ((js++fu ps++[[bN (ps.headD z0)]]).map jD)),.v (.str (kd false)),.v (.tup (ps.map au)),.o (.lst (ps.map bx)),s5']) (bE (fR rfl rfl rfl (af (bH (af (av (av rfl rfl rfl rfl i0) rfl rfl rfl rfl) rfl) rfl (by show 1<=1000000;decide)) rfl) rfl rfl rfl (cT ?_) ?_)) ?_
   ·rw[Za];lia
   ·rw[Qb (l₁:=js++fu ps)];rfl
   refine bE (fR rfl rfl rfl (af (bH (af (av (av rfl (v6 rfl rfl rfl) rfl rfl il) rfl rfl rfl rfl) rfl) rfl (by show 1<=1000000;decide)) rfl) rfl rfl rfl (cT ?_) ?_)
   ·rw[Za,Xa,Yi];lia
   ·rw[es,show js++(fu ps++[[bN (ps.headD z0)],[b8 (ps.getLastD z0)]])=js++fu ps++[[bN (ps.headD z0)]]++[[b8 (ps.getLastD z0)]] by simp,Qb (l₁:=js++fu ps++[[bN (ps.headD z0)]])];rfl
 obtain⟨B,eF,hB⟩:=sp;obtain⟨sf,e,s2,s3,s4,s5,rfl,q2,q3,q4,q5⟩:=dA (fg:=VF.gT 2 (ij (gN 2) (ij (gN 3) qq))) (B:=B) aS ss
  (fun gone st=>∃(s2 s3 s4 s5:Sl),st=[.v (.tup (ss.map aS)),.o (.lst ((gone.flatMap sj).map jD)),s2,s3,s4,s5]/\s2.isIo=false/\s3.isIo=false/\s4.isIo=false/\s5.isIo=false)
  (by
   rintro gone s rest st ha ⟨s2,s3,s4,s5,rfl,q2,q3,q4,q5⟩;have hm:s∈ss:=by rw[ha];simp
   have hsl:s.2.length<=100:=by
    have:=congrArg (fun l=>(List.flatMap (fun x:ar=>x.2) l).length) ha;simp only[Yf,Xb,Xa]at this;lia
   have hgl:(gone.flatMap sj).length<=200:=by
    have:=congrArg (fun l=>(List.flatMap sj l).length) ha;simp only[Yf,Xb,Xa]at this;lia
   obtain⟨s4',s5',eb,q4',q5'⟩:=hB (.tup (ss.map aS)) (gone.flatMap sj) s s4 s5 (hne s hm) (hn s hm) hsl (by lia) q4 q5
   refine⟨[.v (.tup (ss.map aS)),.o (.lst ((gone.flatMap sj).map jD)),.v (.str (kd s.1)),.v (.tup (s.2.map au)),s4,s5],_,?_,eb,.v (.str (kd s.1)),.v (.tup (s.2.map au)),s4',s5',by rw[Yf,Wm],rfl,rfl,q4',q5'⟩
   show(if 2=2 then ij (gN 2) (ij (gN 3) qq) [.str (kd s.1),.tup (s.2.map au)] _ else none)=_;rw[if_pos rfl];show(gN 2 (.str (kd s.1)) _).bind _=_;rw[show gN 2 (.str (kd s.1)) [.v (.tup (ss.map aS)),.o (.lst ((gone.flatMap sj).map jD)),s2,s3,s4,s5]=some [.v (.tup (ss.map aS)),.o (.lst ((gone.flatMap sj).map jD)),.v (.str (kd s.1)),s3,s4,s5] from bc rfl q2];show(gN 3 (.tup (s.2.map au)) _).bind _=_;rw[show gN 3 (.tup (s.2.map au)) [.v (.tup (ss.map aS)),.o (.lst ((gone.flatMap sj).map jD)),.v (.str (kd s.1)),s3,s4,s5]=some [.v (.tup (ss.map aS)),.o (.lst ((gone.flatMap sj).map jD)),.v (.str (kd s.1)),.v (.tup (s.2.map au)),s4,s5] from bc rfl q3]
   rfl)
  ss [] [.v (.tup (ss.map aS)),.o (.lst []),.e,.e,.e,.e] rfl ⟨.e,.e,.e,.e,rfl,rfl,rfl,rfl,rfl⟩
 refine aI (o:=.rt (.d (.tup ((jo ss).map jD))) [.v (.tup (ss.map aS)),.o (.lst ((ss.flatMap sj).map jD)),s2,s3,s4,s5]) rfl ?_ rfl;rw[eF];refine am rfl (am (eQ (jb rfl rfl) e) (aL (a6 (af (a6 rfl rfl (jg (ss.flatMap sj) (by lia) (fun j hj=>?_) rfl)) rfl) rfl rfl)))
 obtain⟨s,_,h⟩:=Yg.mp hj;exact HD h
abbrev Bd:=Bool×Str
def dF(p q:Bd)(r:List Bd):fu (p::q::r)=Jn p q::fu (q::r):=rfl
theorem pX:∀(xs:List Bd)(y:Bd)(ys:List Bd),xs≠[]->fu (xs++y::ys)=fu xs++Jn (xs.getLastD z0) y::fu (y::ys)
 |[],_,_,h=>absurd rfl h
 |[x],y,ys,_=>rfl
 | x::x'::r,y,ys,_=>by
  have ih:=pX (x'::r) y ys (by simp)
  show Jn x x'::fu (x'::r++y::ys)=Jn x x'::(fu (x'::r)++_);rw[ih];rfl
def xJ(p:Bd):Bd:=(!p.1,p.2)
def uA(p:Bd):bN (xJ p)=b8 p:=by obtain⟨t,n⟩:=p;cases t<;>rfl
def HF(p:Bd):b8 (xJ p)=bN p:=by obtain⟨t,n⟩:=p;cases t<;>rfl
def OP(p q:Bd):Jn (xJ q) (xJ p)=Jn p q:=by
 unfold Jn;rw[HF,uA];exact fG (List.Perm.swap _ _ [])
def a7(ps:List Bd):List Bd:=ps.reverse.map xJ
def kY(p:Bd)(r:List Bd):a7 (p::r)=a7 r++[xJ p]:=by unfold a7;rw[BF,Qb];rfl
def nL(xs:List α)(x z:α):(xs++[x]).getLastD z=x:=by rw[Yl];simp
def v8:(a7 (p::r)).getLastD z0=xJ p:=by rw[kY,nL]
def OQ:a7 (p::r)≠[]:=by rw[kY];simp
theorem zv:∀ps:List Bd,fu (a7 ps)=(fu ps).reverse
 |[]=>rfl
 |[p]=>rfl
 | p::q::r=>by
  have ih:=zv (q::r);rw[kY,pX _ _ _ OQ,ih,v8,OP,dF,BF];rfl
def qX(ps:List Bd)(h:ps≠[]):(a7 ps).headD z0=xJ (ps.getLastD z0):=by
 obtain⟨r,p,rfl⟩:∃r p,ps=r++[p]:=⟨ps.dropLast,ps.getLast h,(C6 h).symm⟩;rw[nL];unfold a7;rw[List.reverse_append];rfl
theorem sV(ps:List Bd)(h:ps≠[]):(a7 ps).getLastD z0=xJ (ps.headD z0):=by
 cases ps with|nil=>exact absurd rfl h|cons p r=>exact v8
theorem oB(h:ps≠[]):(sj (b,a7 ps)).Perm (sj (b,ps)):=by
 unfold sj qW;dsimp only;rw[zv,qX ps h,sV ps h,uA,HF];refine List.Perm.append (A4 _) ?_;cases b with
 |true=>
  show [bK [b8 (ps.getLastD z0),bN (ps.headD z0)]].Perm [bK [bN (ps.headD z0),b8 (ps.getLastD z0)]];rw[fG (List.Perm.swap _ _ [])]
 |false=>exact List.Perm.swap _ _ []
def uB(ps:List Bd):qW (true,ps)=[Jn (ps.getLastD z0) (ps.headD z0)]:=by
 show [bK [bN (ps.headD z0),b8 (ps.getLastD z0)]]=[bK [b8 (ps.getLastD z0),bN (ps.headD z0)]];rw[fG (List.Perm.swap _ _ [])]
def sW{xs ys:List Bd}(h:ys≠[]):(xs++ys).getLastD z0=ys.getLastD z0:=by
 obtain⟨r,p,rfl⟩:∃r p,ys=r++[p]:=⟨ys.dropLast,ys.getLast h,(C6 h).symm⟩;rw[<-Zc,nL,nL]
theorem HG:(sj (true,ys++xs)).Perm (sj (true,xs++ys)):=by
 cases xs with
 |nil=>rw[Ze,Wk]
 |cons x xr=>
  cases ys with
  |nil=>rw[Ze,Wk]
  |cons y yr=>
   unfold sj;rw[uB,uB,sW (by simp),sW (by simp)]
   dsimp only;rw[pX (y::yr) x xr (by simp),pX (x::xr) y yr (by simp)]
   show(fu (y::yr)++Jn ((y::yr).getLastD z0) x::fu (x::xr)++[Jn ((x::xr).getLastD z0) y]).Perm (fu (x::xr)++Jn ((x::xr).getLastD z0) y::fu (y::yr)++[Jn ((y::yr).getLastD z0) x]);generalize fu (y::yr)=A;generalize fu (x::xr)=B;generalize Jn ((y::yr).getLastD z0) x=u;generalize Jn ((x::xr).getLastD z0) y=v;rw[show A++u::B++[v]=(A++[u])++(B++[v]) by simp,show B++v::A++[u]=(B++[v])++(A++[u]) by simp]
   exact A9
def hZ(ps:List Bd):List End:=ps.map bN++ps.map b8
theorem v9:∀(p:Bd)(r:List Bd),((fu (p::r)).flatten++[bN p]++[b8 ((p::r).getLastD z0)]).Perm (hZ (p::r))
 |p,[]=>List.Perm.refl _
 | p,q::r=>by
  have ih:=v9 q r;have e:((p::q::r).getLastD z0)=(q::r).getLastD z0:=rfl;rw[dF,e,CL];generalize (fu (q::r)).flatten=A at ih ⊢;generalize (q::r).getLastD z0=l at ih ⊢;have h1:(Jn p q).Perm [b8 p,bN q]:=(cU _).2;have h2:(hZ (p::q::r)).Perm (b8 p::bN p::hZ (q::r)):=by
   show(bN p::((q::r).map bN++b8 p::(q::r).map b8)).Perm _;exact((Bb).cons _).trans (List.Perm.swap _ _ _)
  refine List.Perm.trans ?_ h2.symm;have h3:(Jn p q++A++[bN p]++[b8 l]).Perm (b8 p::bN p::(A++[bN q]++[b8 l])):=by
   refine((((h1.append_right A).append_right [bN p]).append_right [b8 l])).trans ?_;show(b8 p::bN q::(A++[bN p]++[b8 l])).Perm _;refine List.Perm.cons _ ?_;have e1:bN q::(A++[bN p]++[b8 l])=(bN q::A)++bN p::[b8 l]:=by simp
   have e2:bN p::(A++[bN q]++[b8 l])=bN p::(A++bN q::[b8 l]):=by simp
   rw[e1,e2];exact(Bb).trans ((Bb.symm).cons _)
  exact h3.trans ((ih.cons _).cons _)
theorem zw(h:s.2≠[]):((sj s).flatten).Perm (hZ s.2):=by
 obtain⟨b,ps⟩:=s;cases ps with
 |nil=>exact absurd rfl h
 |cons p r=>
  refine List.Perm.trans ?_ (v9 p r);unfold sj;rw[Ce,Zc];refine B5 _ ?_;cases b with
  |true=>
   show([bK [bN p,b8 ((p::r).getLastD z0)]].flatten).Perm ([bN p]++[b8 ((p::r).getLastD z0)]);rw[List.flatten_singleton];exact(cU _).2
  |false=>exact List.Perm.refl _
def zero(x:Str):End:=(x,0)
def one(x:Str):End:=(x,1)
theorem qY:∀ps:List Bd,(hZ ps).Perm ((ps.map (·.2)).map zero++(ps.map (·.2)).map one)
 |[]=>List.Perm.refl _
 | p::r=>by
  have ih:=qY r;have h1:(hZ (p::r)).Perm (bN p::b8 p::hZ r):=(Bb).cons _;refine h1.trans ?_;have h2:((((p::r).map (·.2)).map zero++((p::r).map (·.2)).map one)).Perm (zero p.2::one p.2::((r.map (·.2)).map zero++(r.map (·.2)).map one)):=(Bb).cons _;refine List.Perm.trans ?_ h2.symm;obtain⟨t,n⟩:=p;cases t with|true=>exact(List.Perm.swap _ _ _).trans ((ih.cons _).cons _)|false=>exact(ih.cons _).cons _
def HH(a b:List Bd):(hZ (a++b)).Perm (hZ a++hZ b):=by
 unfold hZ;rw[Qb,Qb];have e1:a.map bN++b.map bN++(a.map b8++b.map b8)=a.map bN++(b.map bN++a.map b8)++b.map b8:=by simp
 have e2:a.map bN++a.map b8++(b.map bN++b.map b8)=a.map bN++(a.map b8++b.map bN)++b.map b8:=by simp
 rw[e1,e2];exact(B5 _ A9).append_right _
theorem oC:∀{ss:List ar},(∀s∈ss,s.2≠[])->((ss.flatMap sj).flatten).Perm (hZ (ss.flatMap (·.2)))
 |[],_=>List.Perm.refl _
 | s::r,h=>by
  have ih:=oC fun x hx=>h x (Wa _ hx);rw[Xb,Xb,Ce];exact((zw (h s Va)).append ih).trans (HH _ _).symm
end
end K12
namespace K12
open L2 VF VL
noncomputable section
def Mo{ps:List Bd}(hn:∀p∈ps,Nm p.2)(hl:ps.length<=100):dH [.tup (ps.map au)]=some (.tup ((a7 ps).map au),false):=by
 have cm:cF (gN 0) bA (aN ee (aa (aw 0) ae)) 1 (ps.reverse.map au) [.e]=some ((a7 ps).map au,[.e]):=by
  have:=a9 (fg:=gN 0) (fc:=bA) (fe:=aN ee (aa (aw 0) ae)) (k:=1) au (fun p=>au (xJ p)) [.e] ps.reverse fun p hpp=>⟨[.v (au p)],[.v (au p)],.d (au (xJ p)),[.v (au p)],[.v (au p)],rfl,rfl,aM rfl rfl (xH (t:=p.1) (n:=p.2) (hn p (Yk.mp hpp))) rfl,rfl,rfl⟩;rw[this];unfold a7;rw[Qc];rfl
 refine aI (o:=.rt (.d (.tup ((a7 ps).map au))) [.v (.tup (ps.map au))]) rfl (aL (a6 (af (bq (s1:=[.v (.tup (ps.map au))]) (ds:=ps.reverse.map au) ?_ (mI (n:=100) ?_ (by decide) rfl) cm) rfl) rfl rfl)) rfl
 ·have:=JN (st:=[.v (.tup (ps.map au))]) (s1:=[.v (.tup (ps.map au))]) (fe:=aw 0) (ds:=ps.map au) (r:=.d (.tup (ps.map au))) rfl rfl;rw[<-BN]at this;exact this
 ·rw[Za,Zi];exact hl
def co(ps:List Bd):List Bd:=if ps.length=1 then [(false,(ps.headD z0).2)] else if nR (ps.headD z0).2 (ps.getLastD z0).2 then ps else a7 ps
def lt_str(h:nR x y=b):PF (.str x) (.str y)=some (.bl b,false):=by
 rw[<-h];have e1:Nu (.str x) (.str y)=none:=rfl;unfold PF n4;rw[e1];rfl
def RY{ps:List Bd}(hs:ps≠[])(hn:∀p∈ps,Nm p.2)(hl:ps.length<=100):jE [.tup (ps.map au)]=some (.tup ((co ps).map au),false):=by
 have h0:=lI hs;have hL:=pV hs;have n0:=hn _ (Wc h0);have nl:=hn _ (Wc hL);have len1:cV [.tup (ps.map au)]=some (.int ps.length,false):=by
  show some (D.int ((ps.map au).length:Nat),false)=_;rw[Za]
 unfold co;generalize ps.headD z0=p0 at h0 n0 ⊢;generalize ps.getLastD z0=pl at hL nl ⊢;have i0:bu (.tup (ps.map au)) (.int 0)=some (au p0,false):=VF.ix_tup (hY (i:=0) h0);have il:bu (.tup (ps.map au)) (.int (-1))=some (au pl,false):=VF.ix_tup (uz hL);have nm0:∀st:En,st=[.v (.tup (ps.map au))]->aN bC (aa (aK bu (aw 0) (fC (.int 0))) ae) st=some (.d (.str p0.2),st):=fun st hst=>by
  subst hst;exact aM (af (av rfl rfl rfl rfl i0) rfl) rfl (dP (t:=p0.1) (n:=p0.2) n0) rfl
 have nml:∀st:En,st=[.v (.tup (ps.map au))]->aN bC (aa (aK bu (aw 0) (wV tW (fC (.int 1)))) ae) st=some (.d (.str pl.2),st):=fun st hst=>by
  subst hst;exact aM (af (av rfl (v6 rfl rfl rfl) rfl rfl il) rfl) rfl (dP (t:=pl.1) (n:=pl.2) nl) rfl
 have eqn:j6 (.int ps.length) (.int 1)=some (.bl (decide (ps.length=1)),false):=by
  show some (D.bl (decide (V.int (ps.length:Int)=V.int 1)),false)=_;congr 2;congr 1;rw[Zg,decide_eq_true_eq,decide_eq_true_eq];exact⟨fun z=>by have:=V.int.inj z;lia,fun z=>by rw[z];rfl⟩
 by_cases c:ps.length=1
 ·rw[if_pos c];rw[Af c]at eqn;refine aI (o:=.rt (.d (.tup [.str p0.2])) [.v (.tup (ps.map au))]) rfl ?_ rfl;exact fY (eO (aF (av (a6 rfl rfl len1) rfl rfl rfl eqn) rfl) (aL (bH (af (nm0 _ rfl) rfl) rfl (by show 1<=1000000;decide))))
 ·rw[Ah c];rw[Ad c]at eqn;have t1:aD (aK j6 (bU cV (aa (aw 0) ae)) (fC (.int 1))) [.v (.tup (ps.map au))]=some (false,[.v (.tup (ps.map au))]):=aF (av (a6 rfl rfl len1) rfl rfl rfl eqn) rfl;cases e:nR p0.2 pl.2 with
  |true=>
   refine aI (o:=.rt (.d (.tup (ps.map au))) [.v (.tup (ps.map au))]) rfl ?_ rfl;exact am (cf t1 rfl) (fY (eO (aF (av (nm0 _ rfl) (nml _ rfl) rfl rfl (lt_str e)) rfl) (aL (a6 rfl rfl rfl))))
  |false=>
   refine aI (o:=.rt (.d (.tup ((a7 ps).map au))) [.v (.tup (ps.map au))]) rfl ?_ rfl;exact am (cf t1 rfl) (am (cf (aF (av (nm0 _ rfl) (nml _ rfl) rfl rfl (lt_str e)) rfl) rfl) (aL (aE rfl rfl (Mo hn hl))))
end
end K12
namespace VF
open L2
theorem zx(bt:Nat->Nat->Bool):∀k,argBest bt k<=k
 |0=>Qa _
 | k+1=>by
  unfold argBest;split
  ·exact Qa _
  ·exact AJ (zx bt k)
theorem qZ{bt:Nat->Nat->Bool}(tr:∀a b c,bt a b=true->bt c b=false->bt c a=true->False)(ir:∀a,bt a a=false):∀k j,j<=k->bt j (argBest bt k)=false
 | 0,j,h=>by
  obtain rfl:j=0:=by lia
  exact ir 0
 | k+1,j,h=>by
  unfold argBest;cases e:bt (k+1) (argBest bt k) with
  |true=>
   rw[if_pos rfl];by_cases hj:j=k+1
   ·subst hj;exact ir _
   ·have:=qZ tr ir k j (by lia)
    cases e2:bt j (k+1) with|false=>rfl|true=>exact(tr _ _ _ e this e2).elim
  |false=>
   rw[Ah Bool.noConfusion];by_cases hj:j=k+1
   ·subst hj;exact e
   ·exact qZ tr ir k j (by lia)
def kZ(h:ys≠[]):je ys∈ys:=by
 have hp:=Xm.mpr h;have hb:=zx (fun i j=>nR (ys.getD i Str.empty) (ys.getD j Str.empty)) (ys.length-1);have hlt:zd ys<ys.length:=by unfold zd;lia
 unfold je;rw[Yc,Ya hlt];exact AQ hlt
def zy{ys:List Str}{y:Str}(h:y∈ys):nR y (je ys)=false:=by
 obtain⟨j,hj,rfl⟩:=List.mem_iff_getElem.mp h
 have:=qZ (bt:=fun i j=>nR (ys.getD i Str.empty) (ys.getD j Str.empty)) (fun a b c h1 h2 h3=>by
  have:=pN h3 h1
  rw[h2]at this;cases this) (fun a=>ua _) (ys.length-1) j (by lia)
 have e:ys.getD j Str.empty=ys[j]:=by rw[Yc,Ya hj];rfl
 have t:nR (ys.getD j Str.empty) (ys.getD (zd ys) Str.empty)=false:=this;rw[e]at t;exact t
def HI{ys:List Str}(h:b∈ys):bIndex (.lst (ys.map D.str)) [.str b]=some (.int (ys.idxOf b:Nat),false):=by
 show(fD (ys.map D.str)).bind (fun ys=>if b∈ys then some (D.int (ys.idxOf b:Nat),false) else none)=_;rw[fE];show(if b∈ys then _ else _)=_;rw[if_pos h]
def OR{ys:List Str}(h:ys≠[]):GW [.lst (ys.map D.str)]=some (.str (je ys),false):=by
 show(fD (ys.map D.str)).bind (fun ys=>if ys=[] then none else some (D.str (je ys),false))=_;rw[fE];show(if ys=[] then _ else _)=_;rw[Ah h]
end VF
namespace K12
open L2 VF VL
noncomputable section
def ci(ps:List Bd):List Str:=ps.map (·.2)
def fp(ps:List Bd):Nat:=(ci ps).idxOf (je (ci ps))
def oD(h:ps≠[]):ci ps≠[]:=fun z=>h (List.map_eq_nil_iff.mp z)
def HJ{ps:List Bd}(h:ps≠[]):fp ps<ps.length:=by
 have:=List.idxOf_lt_length_iff.mpr (kZ (oD h));unfold fp;rwa [show(ci ps).length=ps.length from Za ..]at this
def Mp{ps:List Bd}(hs:ps≠[])(hn:∀p∈ps,Nm p.2)(hl:ps.length<=100):dB [.tup (ps.map au)]=some (.int (fp ps:Nat),false):=by
 have cm:cF (gN 0) bA (aN bC (aa (aw 0) ae)) 1 (ps.map au) [.e]=some ((ci ps).map D.str,[.e]):=by
  have:=a9 (fg:=gN 0) (fc:=bA) (fe:=aN bC (aa (aw 0) ae)) (k:=1) au (fun p=>D.str p.2) [.e] ps fun p hpp=>⟨[.v (au p)],[.v (au p)],.d (.str p.2),[.v (au p)],[.v (au p)],rfl,rfl,aM rfl rfl (dP (t:=p.1) (n:=p.2) (hn p hpp)) rfl,rfl,rfl⟩;rw[this];unfold ci;rw[Qc];rfl
 refine aI (o:=.rt (.d (.int (fp ps:Nat))) [.v (.tup (ps.map au)),.o (.lst ((ci ps).map D.str))]) rfl ?_ rfl;refine am (eG (bq (jb rfl rfl) (mI (n:=100) (by rw[Za];exact hl) (by decide) rfl) cm) rfl) ?_
 exact aL (vE rfl rfl rfl (af (a6 rfl rfl (OR (oD hs))) rfl) rfl rfl (HI (kZ (oD hs))))
def side(ps:List Bd):List Bd:=if (ps.getD (fp ps) z0).1 then a7 ps else ps
def cr(ps:List Bd):List Bd:=(side ps).drop (fp (side ps))++(side ps).take (fp (side ps))
def fV(ps:List Bd):(a7 ps).length=ps.length:=by unfold a7;rw[Za,Zi]
def zF(hn:∀p∈ps,Nm p.2):∀p∈a7 ps,Nm p.2:=fun p hp=>by
 obtain⟨q,hq,rfl⟩:=Wb.mp hp;exact hn q (Yk.mp hq)
def zG{ps:List Bd}(hs:ps≠[])(hn:∀p∈ps,Nm p.2):side ps≠[]/\(∀p∈side ps,Nm p.2)/\(side ps).length=ps.length:=by
 unfold side;split
 ·refine⟨fun z=>hs ?_,zF hn,fV ps⟩;have:=fV ps;rw[z]at this;exact Xf this.symm
 ·exact⟨hs,hn,rfl⟩
def RZ{ps:List Bd}(hs:ps≠[])(hn:∀p∈ps,Nm p.2)(hl:ps.length<=100):jG [.tup (ps.map au)]=some (.tup ((cr ps).map au),false):=by
 obtain⟨s1,s2,s3⟩:=zG hs hn;have hf:=HJ hs;have a1:ps[fp ps]?=some (ps.getD (fp ps) z0):=by rw[Yc,Ya hf];rfl
 have nf:=hn _ (Wc a1);have i1:bu (.tup (ps.map au)) (.int (fp ps:Nat))=some (au (ps.getD (fp ps) z0),false):=VF.ix_tup (hY a1);have t1:aD (aN bX (aa (aK bu (aw 0) (aN dB (aa (aw 0) ae))) ae)) [.v (.tup (ps.map au)),.e,.e]=some ((ps.getD (fp ps) z0).1,[.v (.tup (ps.map au)),.e,.e]) :=
  aF (aM (af (av rfl (aM rfl rfl (Mp hs hn hl) rfl) rfl rfl i1) rfl) rfl (eJ (t:=(ps.getD (fp ps) z0).1) (n:=(ps.getD (fp ps) z0).2) nf) rfl) rfl
 have zV:aV (DW (aD (aN bX (aa (aK bu (aw 0) (aN dB (aa (aw 0) ae))) ae))) (aO dH (aa (aw 0) ae)) (bU aU (aa (aw 0) ae))) 1 [.v (.tup (ps.map au)),.e,.e]=some (.nx [.v (.tup (ps.map au)),.v (.tup ((side ps).map au)),.e]):=by
  unfold side;cases e:(ps.getD (fp ps) z0).1 with
  |true=>
   rw[e]at t1;exact cz (qz t1 (aE rfl rfl (Mo hn hl))) rfl
  |false=>
   rw[e]at t1;exact cz (qA t1 (a6 rfl rfl rfl)) rfl
 have f2:=Mp s1 s2 (by lia)
 have hf2:=HJ s1;have hk:fp (side ps)<=((side ps).map au).length:=by rw[Za];lia
 have c1:vG (.tup ((side ps).map au)) (some ((fp (side ps):Nat):Int)) none=some (.tup (((side ps).drop (fp (side ps))).map au),false):=by rw[xh,m8 hk,Bg]
 have c2:vG (.tup ((side ps).map au)) none (some ((fp (side ps):Nat):Int))=some (.tup (((side ps).take (fp (side ps))).map au),false):=by rw[xh,Gz hk,Ch]
 have ct:sN (.tup (((side ps).drop (fp (side ps))).map au)) (.tup (((side ps).take (fp (side ps))).map au))=some (.tup ((cr ps).map au),false):=by
  rw[JT (by rw[Za,Za,Vg,Wg];lia)]
  unfold cr;rw[Qb]
 refine aI (o:=.rt (.d (.tup ((cr ps).map au))) [.v (.tup (ps.map au)),.v (.tup ((side ps).map au)),.v (.int (fp (side ps):Nat))]) rfl ?_ rfl;refine am zV (am (cz (aM rfl rfl f2 rfl) rfl) ?_);exact aL (av (gL rfl rfl rfl rfl c1) (gL rfl rfl rfl rfl c2) rfl rfl ct)
def cs(s:ar):ar:=(s.1,if s.1 then cr s.2 else co s.2)
theorem R0(hs:s.2≠[])(hn:∀p∈s.2,Nm p.2)(hl:s.2.length<=100):dI [aS s]=some (aS (cs s),false):=by
 obtain⟨r,ps⟩:=s;dsimp only at hs hn hl;refine aI (o:=.rt (.d (aS (cs (r,ps)))) [.v (aS (r,ps))]) rfl ?_ rfl;cases r with|true=>exact am (cf rfl rfl) (aL (bH (af rfl (af (aE (af (av rfl rfl rfl rfl rfl) rfl) rfl (RZ hs hn hl)) rfl)) rfl (by show 2<=1000000;decide)))|false=>exact fY (eO rfl (aL (bH (af rfl (af (aE (af (av rfl rfl rfl rfl rfl) rfl) rfl (RY hs hn hl)) rfl)) rfl (by show 2<=1000000;decide))))
def rk(s:ar):KB:=(s.1,(s.2.headD z0).2)
def R4(hs:s.2≠[])(hn:∀p∈s.2,Nm p.2):dC [aS s]=some (keyD (rk s),false):=by
 obtain⟨r,ps⟩:=s;dsimp only at hs hn;have h0:=lI hs;have n0:=hn _ (Wc h0);have i0:bu (.tup (ps.map au)) (.int 0)=some (au (ps.headD z0),false):=VF.ix_tup (hY (i:=0) h0);have nm:aN bC (aa (aK bu (aK bu (aw 0) (fC (.int 1))) (fC (.int 0))) ae) [.v (aS (r,ps))]=some (.d (.str (ps.headD z0).2),[.v (aS (r,ps))]):=aM (af (av (av rfl rfl rfl rfl rfl) rfl rfl rfl i0) rfl) rfl (dP (t:=(ps.headD z0).1) (n:=(ps.headD z0).2) n0) rfl;have eq:aK j6 (aK bu (aw 0) (fC (.int 0))) (fC (.str "ring")) [.v (aS (r,ps))]=some (.d (.bl r),[.v (aS (r,ps))]):=by cases r<;>rfl
 refine aI (o:=.rt (.d (keyD (rk (r,ps)))) [.v (aS (r,ps))]) rfl (aL (bH (af eq (af nm rfl)) rfl (by show 2<=1000000;decide))) rfl
end
end K12
namespace VF
open L2 TS
section
variable {ks:List KB}
theorem OS(g h:Nat)(n:g≠h):Bf (cB ks) g h\/Bf (cB ks) h g:=by
 cases e1:cB ks g h with
 |true=>exact .inl (.inl e1)
 |false=>
  cases e2:cB ks h g with
  |true=>exact .inr (.inl e2)
  |false=>
   rcases Nat.lt_or_gt_of_ne n with z|z
   ·exact .inl (.inr ⟨e2,z⟩)
   ·exact .inr (.inr ⟨e1,z⟩)
def OT(h1:Bf (cB ks) a b)(h2:Bf (cB ks) b c):Bf (cB ks) a c:=by
 have asy:∀x y,cB ks x y=true->cB ks y x=false:=fun x y z=>by
  cases e:cB ks y x with
  |false=>rfl
  |true=>
   have:=ng z e;rw[m9]at this;cases this
 rcases h1 with h1|⟨h1,l1⟩
 ·rcases h2 with h2|⟨h2,l2⟩
  ·exact .inl (ng h1 h2)
  ·rcases pO (q:=ks.getD c (false,Str.empty)) h1 with q|q
   ·exact .inl q
   ·have:cB ks c b=true:=q;rw[h2]at this;cases this
 ·rcases h2 with h2|⟨h2,l2⟩
  ·rcases pO (q:=ks.getD a (false,Str.empty)) h2 with q|q
   ·have:cB ks b a=true:=q;rw[h1]at this;cases this
   ·exact .inl q
  ·refine .inr ⟨?_,by lia⟩
   cases e:cB ks c a with
   |false=>rfl
   |true=>
    rcases pO (q:=ks.getD b (false,Str.empty)) e with q|q
    ·have:cB ks c b=true:=q;rw[h2]at this;cases this
    ·have:cB ks b a=true:=q;rw[h1]at this;cases this
theorem HK:∀(l:List Nat),g∉l->l.Pairwise (Bf (cB ks))->∃m:List Nat,m.Perm (g::l)/\m.Pairwise (Bf (cB ks))
 |[],_,_=>⟨[g],List.Perm.refl _,Dk _ _⟩
 | h::l,n,s=>by
  obtain⟨s1,s2⟩:=Zn.mp s;have ne:g≠h:=fun z=>n (by simp[z])
  rcases OS (ks:=ks) g h ne with q|q
  ·refine⟨g::h::l,List.Perm.refl _,Zn.mpr ⟨fun b hb=>?_,s⟩⟩;rcases Wd.mp hb with rfl|hb
   ·exact q
   ·exact OT q (s1 b hb)
  ·obtain⟨m,p,sm⟩:=HK l (fun z=>n (Wa _ z)) s2;refine⟨h::m,(p.cons h).trans (List.Perm.swap _ _ _),Zn.mpr ⟨fun b hb=>?_,sm⟩⟩;rcases Wd.mp (p.mem_iff.mp hb) with rfl|hb
   ·exact q
   ·exact s1 b hb
theorem Mq:∀(l:List Nat),l.Nodup->∃m:List Nat,m.Perm l/\m.Pairwise (Bf (cB ks))
 |[],_=>⟨[],List.Perm.refl _,List.Pairwise.nil⟩
 | g::l,n=>by
  obtain⟨n1,n2⟩:=Zh.mp n;obtain⟨m,p,s⟩:=Mq l n2;obtain⟨m',p',s'⟩:=HK (ks:=ks) (g:=g) m (fun z=>n1 (p.mem_iff.mp z)) s;exact⟨m',p'.trans (p.cons g),s'⟩
def HL(ds:List D):∃γ:Array Nat,γ.Perm (Array.range ds.length)/\Sg (cB ks) γ 0 ds.length:=by
 obtain⟨m,p,s⟩:=Mq (ks:=ks) (List.range ds.length) List.nodup_range;refine⟨m.toArray,Vh.mpr (by rw[Qm];exact p),fun i j g h _ hij hj e1 e2=>?_⟩
 have e1':m[i]?=some g:=by simpa using e1
 have e2':m[j]?=some h:=by simpa using e2
 obtain⟨i1,rfl⟩:=Yd.mp e1';obtain⟨i2,rfl⟩:=Yd.mp e2';exact Df.mp s i j i1 i2 hij
def rb(f:α->D)(k:α->KB)(l:List α):∃m:List α,m.Perm l/\oP (l.map k) (l.map f)=m.map f/\m.Pairwise (fun a b=>ltB (k b) (k a)=false):=by
 obtain⟨γ,p,g⟩:=HL (ks:=l.map k) (l.map f);rw[<-vQ p g];rw[Za]at p g;have hγ:∀x∈γ.toList,x<l.length:=fun x hx=>by
  have:=(Vh.mp p).mem_iff.mp hx;rw[Qm]at this;exact Vi.mp this
 cases l with
 |nil=>
  have:γ.toList=[]:=Xf (by rw[Zf,p.size_eq,Qj];rfl)
  exact⟨[],List.Perm.refl _,by rw[this];rfl,List.Pairwise.nil⟩
 |cons x0 l0=>
  refine⟨γ.toList.map fun g=>(x0::l0).getD g x0,?_,?_,?_⟩
  ·have:=(Vh.mp p).map fun g=>(x0::l0).getD g x0;rw[Qm]at this;refine this.trans (List.Perm.of_eq ?_);refine Be (by simp) fun i h1 h2=>?_
   rw[Bc,Cu,Yc,Ya h2];rfl
  ·rw[Qc];refine Ye fun g hg=>?_;have hgl:=hγ g hg;refine qG ?_;rw[Ve,Ya hgl];show some _=some (f ((x0::l0).getD g x0));rw[Yc,Ya hgl];rfl
  ·rw[CH];refine(ub (by rw[p.size_eq,Qj]) g).imp_of_mem fun {a b} ha hb h=>?_
   have ea:((x0::l0).map k).getD a (false,Str.empty)=k ((x0::l0).getD a x0):=by
    rw[Yc,Ve,Yc,Ya (hγ a ha)];rfl
   have eb:((x0::l0).map k).getD b (false,Str.empty)=k ((x0::l0).getD b x0):=by
    rw[Yc,Ve,Yc,Ya (hγ b hb)];rfl
   have asy:cB ((x0::l0).map k) b a=false:=by
    rcases h with h|h
    ·cases e:cB ((x0::l0).map k) b a with
     |false=>rfl
     |true=>
      have:=ng h e;rw[m9]at this;cases this
    ·exact h.1
   unfold cB at asy;rw[ea,eb]at asy;exact asy
end
end VF
namespace K12
open L2 VF VL
noncomputable section
def KD{ps:List Bd}(hs:ps≠[])(hn:∀p∈ps,Nm p.2):co ps≠[]/\(∀p∈co ps,Nm p.2)/\(co ps).length=ps.length:=by
 have n0:=hn _ (Wc (lI hs));unfold co;split
 ·rename_i c
  exact⟨by simp,fun p hp=>by rw[Zd.mp hp];exact n0,c.symm⟩
 ·split
  ·exact⟨hs,hn,rfl⟩
  ·refine⟨fun z=>hs ?_,zF hn,fV ps⟩;have:=fV ps;rw[z]at this;exact Xf this.symm
def KF{ps:List Bd}(hs:ps≠[])(hn:∀p∈ps,Nm p.2):cr ps≠[]/\(∀p∈cr ps,Nm p.2)/\(cr ps).length=ps.length:=by
 obtain⟨s1,s2,s3⟩:=zG hs hn;have hf:=HJ s1;have ln:(cr ps).length=ps.length:=by
  unfold cr;rw[Xa,Vg,Wg];lia
 refine⟨fun z=>hs ?_,fun p hp=>?_,ln⟩
 ·rw[z]at ln;exact Xf ln.symm
 ·rcases Xe.mp hp with m|m
  ·exact s2 p (Bk m)
  ·exact s2 p (List.mem_of_mem_take m)
theorem lJ(hs:s.2≠[])(hn:∀p∈s.2,Nm p.2):(cs s).2≠[]/\(∀p∈(cs s).2,Nm p.2)/\(cs s).2.length=s.2.length:=by
 obtain⟨r,ps⟩:=s;cases r with|true=>exact KF hs hn|false=>exact KD hs hn
theorem R5(hs:s.2≠[]):(sj (cs s)).Perm (sj s):=by
 obtain⟨r,ps⟩:=s;dsimp only at hs;cases r with
 |true=>
  show(sj (true,cr ps)).Perm (sj (true,ps));have h1:(sj (true,cr ps)).Perm (sj (true,side ps)):=by
   have:=HG (xs:=(side ps).take (fp (side ps))) (ys:=(side ps).drop (fp (side ps)));rwa [Zl]at this
  refine h1.trans ?_;unfold side;split
  ·exact oB hs
  ·exact List.Perm.refl _
 |false=>
  show(sj (false,co ps)).Perm (sj (false,ps));unfold co;split
  ·rename_i c
   obtain⟨p,rfl⟩:=List.length_eq_one_iff.mp c;obtain⟨t,n⟩:=p;cases t with|true=>exact List.Perm.swap _ _ []|false=>exact List.Perm.refl _
  ·split
   ·exact List.Perm.refl _
   ·exact oB hs
def cn(ss:List ar):List ar:=(rb aS rk (ss.map cs)).choose
def iI(ss:List ar):(cn ss).Perm (ss.map cs)/\oP ((ss.map cs).map rk) ((ss.map cs).map aS)=(cn ss).map aS/\(cn ss).Pairwise (fun a b=>ltB (rk b) (rk a)=false):=(rb aS rk (ss.map cs)).choose_spec
theorem zH:∀{ss:List ar},(∀s∈ss,s.2≠[])->(∀s∈ss,∀p∈s.2,Nm p.2)->keysOf dC (ss.map aS)=some (ss.map rk)
 |[],_,_=>rfl
 | s::ss,h1,h2=>by
  have ih:=zH (ss:=ss) (fun x hx=>h1 x (Wa _ hx)) fun x hx=>h2 x (Wa _ hx);have e:=R4 (h1 s Va) (h2 s Va);rw[Qd,keysOf,e,ih];rfl
def k0{ss:List ar}(hne:∀s∈ss,s.2≠[])(hn:∀s∈ss,∀p∈s.2,Nm p.2)(hl:(ss.flatMap (·.2)).length<=60):jH [.tup (ss.map aS)]=some (.tup ((cn ss).map aS),false):=by
 have hsl:=nI ss hne;have len:∀s∈ss,s.2.length<=100:=fun s hs=>by
  obtain⟨a,b,e⟩:=Xk hs;rw[e,Yf,Xb,Xa,Xa]at hl;lia
 have cm:cF (gN 0) bA (aO dI (aa (aw 0) ae)) 1 (ss.map aS) [.e]=some ((ss.map cs).map aS,[.e]):=by
  have:=a9 (fg:=gN 0) (fc:=bA) (fe:=aO dI (aa (aw 0) ae)) (k:=1) aS (fun s=>aS (cs s)) [.e] ss fun s hs=>⟨[.v (aS s)],[.v (aS s)],.d (aS (cs s)),[.v (aS s)],[.v (aS s)],rfl,rfl,aE rfl rfl (R0 (hne s hs) (hn s hs) (len s hs)),rfl,rfl⟩;rw[this,Qc];rfl
 have ke:=zH (ss:=ss.map cs) (fun s hs=>by
  obtain⟨t,ht,rfl⟩:=Wb.mp hs;exact(lJ (hne t ht) (hn t ht)).1) (fun s hs=>by
  obtain⟨t,ht,rfl⟩:=Wb.mp hs
  exact(lJ (hne t ht) (hn t ht)).2.1)
 have so:xp dC [.lst ((ss.map cs).map aS)]=some (.lst ((cn ss).map aS),true):=by
  show(if ((ss.map cs).map aS).length<64 then(keysOf dC ((ss.map cs).map aS)).bind _ else none)=_;rw[if_pos (by rw[Za,Za];lia)]
  rw[ke];show some (D.lst (oP ((ss.map cs).map rk) ((ss.map cs).map aS)),true)=_;rw[(iI ss).2.1]
 refine aI (o:=.rt (.d (.tup ((cn ss).map aS))) [.v (.tup (ss.map aS))]) rfl (aL (a6 (af (a6 (af (bq (jb rfl rfl) (mI (n:=100) (by rw[Za];lia) (by decide) rfl) cm) rfl) rfl so) rfl) rfl rfl)) rfl
theorem HM:∀{ss:List ar},(∀s∈ss,s.2≠[])->((ss.map cs).flatMap sj).Perm (ss.flatMap sj)
 |[],_=>List.Perm.refl _
 | s::r,h=>by
  rw[Qd,Xb,Xb];exact(R5 (h s Va)).append (HM fun x hx=>h x (Wa _ hx))
def zJ(hne:∀s∈ss,s.2≠[]):jo (cn ss)=jo ss:=hX (((iI ss).1.flatMap_right sj).trans (HM hne))
end
end K12
namespace VF
open L2
def pY(h1:nR x y=false)(h2:nR y x=false):x=y:=by
 rcases(oh 1).tri (a:=.str x) (b:=.str y) trivial with q|q|q
 ·injection q
 ·have:nR x y=true:=q;rw[h1]at this;cases this
 ·have:nR y x=true:=q;rw[h2]at this;cases this
def zK(hy:ys≠[])(hz:zs≠[])(h:∀y,y∈ys↔y∈zs):je ys=je zs :=
 pY (zy ((h _).mp (kZ hy))) (zy ((h _).mpr (kZ hz)))
def HN{u v:List Str}(h:a∉u):(u++a::v).idxOf a=u.length:=by
 rw[List.idxOf_append,Ah h,List.idxOf_cons_self];lia
end VF
namespace K12
open L2 VF VL
noncomputable section
def nM(a b:List Bd):a7 (a++b)=a7 b++a7 a:=by unfold a7;rw[List.reverse_append,Qb]
def uC(ps:List Bd):a7 (a7 ps)=ps:=by
 unfold a7;rw[<-BN,List.reverse_reverse,Qc];have:(xJ ∘ xJ)=id:=funext fun p=>by
  obtain⟨t,n⟩:=p;cases t<;>rfl
 rw[this,AL]
def fL(ps:List Bd):ci (a7 ps)=(ci ps).reverse:=by
 unfold ci a7;rw[Qc,<-BN];rfl
def bF(a b:List Bd):ci (a++b)=ci a++ci b:=Qb ..
def HP(hs:ps≠[])(nd:(ci ps).Nodup):∃u b v,ps=u++(b,je (ci ps))::v/\je (ci ps)∉ci u/\je (ci ps)∉ci v:=by
 obtain⟨p,hp,e⟩:=Wb.mp (kZ (oD hs));obtain⟨u,v,rfl⟩:=Xk hp;obtain⟨b,n⟩:=p;have e':n=je (ci (u++(b,n)::v)):=e;rw[<-e'];have nd':(ci u++n::ci v).Nodup:=by
  have:=nd;rw[bF]at this;exact this
 rw[Qg]at nd';refine⟨u,b,v,rfl,fun z=>?_,?_⟩
 ·exact nd'.2.2 n z n Va rfl
 ·exact(Zh.mp nd'.2.1).1
def oV(hm:je (ci (u++(b,n)::v))=n)(hu:n∉ci u)(hv:n∉ci v):cr (u++(b,n)::v)=(false,n)::(if b then a7 u++a7 v else v++u):=by
 have f1:fp (u++(b,n)::v)=u.length:=by
  unfold fp;rw[hm,bF];have:=HN (v:=ci v) hu;rw[show(ci u).length=u.length from Za ..]at this;exact this
 have g1:(u++(b,n)::v).getD (fp (u++(b,n)::v)) z0=(b,n):=by
  rw[f1,Yc,Vf (Qa _),BQ];rfl
 cases b with
 |false=>
  have sd:side (u++(false,n)::v)=u++(false,n)::v:=by unfold side;rw[g1];rfl
  unfold cr;rw[sd,f1,List.drop_left,List.take_left];rfl
 |true=>
  have sd:side (u++(true,n)::v)=a7 v++(false,n)::a7 u:=by
   unfold side;rw[g1];show a7 (u++(true,n)::v)=_;rw[nM,kY,Zc];rfl
  have hv':n∉ci (a7 v):=by rw[fL];exact fun z=>hv (Yk.mp z)
  have hm2:je (ci (a7 v++(false,n)::a7 u))=n:=by
   refine Eq.trans (zK ?_ ?_ fun y=>?_) hm
   ·rw[bF];simp[ci]
   ·rw[bF];simp[ci]
   ·rw[bF,bF];show y∈ci (a7 v)++n::ci (a7 u)↔y∈ci u++n::ci v;rw[fL,fL];simp only[Xe,Wd,Yk];exact⟨fun z=>by rcases z with z|z|z<;>simp[z],fun z=>by rcases z with z|z|z<;>simp[z]⟩
  have f2:fp (a7 v++(false,n)::a7 u)=(a7 v).length:=by
   unfold fp;rw[hm2,bF];have:=HN (v:=ci (a7 u)) hv';rw[show(ci (a7 v)).length=(a7 v).length from Za ..]at this;exact this
  unfold cr;rw[sd,f2,List.drop_left,List.take_left];rfl
def wa(hp:ps≠[])(h:(ci ps).Perm (ci qs)):je (ci qs)=je (ci ps):=by
 have hq:ci qs≠[]:=fun z=>by
  rw[z]at h;exact oD hp (List.Perm.eq_nil h)
 exact zK hq (oD hp) fun y=>h.mem_iff.symm
def OU(hs:xs++ys≠[])(nd:(ci (xs++ys)).Nodup):cr (ys++xs)=cr (xs++ys):=by
 have pm:(ci (xs++ys)).Perm (ci (ys++xs)):=by rw[bF,bF];exact A9
 have hm:=wa hs pm;have nd2:=nd;obtain⟨u,b,v,e,hu,hv⟩:=HP hs nd;generalize hn:je (ci (xs++ys))=n at *;rcases List.append_eq_append_iff.mp e with⟨w,e1,e2⟩|⟨w,e1,e2⟩
 ·-- the first name in ys
  subst e1 e2;have hw:n∉ci w:=fun z=>hu (by rw[bF];exact Vd _ z)
  have hx:n∉ci xs:=fun z=>hu (by rw[bF];exact Xh _ z)
  have l1:cr (xs++(w++(b,n)::v))=(false,n)::(if b then a7 (xs++w)++a7 v else v++(xs++w)):=by
   rw[<-Zc];refine oV ?_ hu hv;rw[Zc];exact hn
  have l2:cr (w++(b,n)::v++xs)=(false,n)::(if b then a7 w++a7 (v++xs) else v++xs++w):=by
   rw[Zc,Zk];refine oV ?_ hw ?_
   ·rw[Zc,Zk]at hm;exact hm
   ·rw[bF];exact fun z=>(Xe.mp z).elim hv hx
  rw[l1,l2];cases b with|true=>simp[nM]|false=>simp
 ·cases w with
  |nil=>
   rw[Ze]at e1;subst e1;rw[Wk]at e2;subst e2;have l1:cr (xs++(b,n)::v)=_:=oV hn hu hv
   have l2:cr ([]++(b,n)::(v++xs))=_:=oV hm (by simp[ci]) (by
    rw[bF]
    exact fun z=>(Xe.mp z).elim hv hu)
   show cr ((b,n)::v++xs)=_;rw[l1];refine Eq.trans l2 ?_;cases b with|true=>simp[nM];rfl|false=>simp
  |cons c w=>
   rw[Zk]at e2;obtain⟨rfl,rfl⟩:=List.cons.inj e2;subst e1;have hw:n∉ci w:=fun z=>hv (by rw[bF];exact Xh _ z)
   have hy:n∉ci ys:=fun z=>hv (by rw[bF];exact Vd _ z)
   have l1:cr (u++(b,n)::w++ys)=(false,n)::(if b then a7 u++a7 (w++ys) else w++ys++u):=by
    rw[Zc,Zk];refine oV ?_ hu hv;rw[Zc,Zk]at hn;exact hn
   have l2:cr (ys++(u++(b,n)::w))=(false,n)::(if b then a7 (ys++u)++a7 w else w++(ys++u)):=by
    rw[<-Zc];refine oV ?_ ?_ hw
    ·rw[Zc];exact hm
    ·rw[bF];exact fun z=>(Xe.mp z).elim hy hu
   rw[l1,l2];cases b with|true=>simp[nM]|false=>simp
def OV(hs:ps≠[])(nd:(ci ps).Nodup):cr (a7 ps)=cr ps:=by
 have hm:=wa hs (by rw[fL];exact(A4 _).symm:(ci ps).Perm (ci (a7 ps)))
 obtain⟨u,b,v,e,hu,hv⟩:=HP hs nd;generalize hn:je (ci ps)=n at *;subst e;have em:a7 (u++(b,n)::v)=a7 v++(!b,n)::a7 u:=by rw[nM,kY,Zc];rfl
 have l1:=oV hn hu hv;have l2:cr (a7 v++(!b,n)::a7 u)=_:=oV (by rw[<-em,hm]) (by rw[fL];exact fun z=>hv (Yk.mp z)) (by rw[fL];exact fun z=>hu (Yk.mp z))
 rw[em,l1,l2];cases b with|true=>rfl|false=>simp[uC]
theorem KG{ps:List Bd}(nd:(ci ps).Nodup)(hl:ps.length≠1)(hs:ps≠[]):(ps.headD z0).2≠(ps.getLastD z0).2:=by
 cases ps with
 |nil=>exact absurd rfl hs
 |cons p r=>
  cases r with
  |nil=>exact absurd rfl hl
  |cons q r=>
   have hL:(q::r).getLastD z0∈q::r:=Wc (pV (by simp))
   intro z;refine(Zh.mp nd).1 ?_;have:(p::q::r).getLastD z0=(q::r).getLastD z0:=rfl;rw[this]at z;show p.2∈ci (q::r);have z':p.2=((q::r).getLastD z0).2:=z;rw[z'];exact AR hL
def OW(hs:ps≠[])(nd:(ci ps).Nodup):co (a7 ps)=co ps:=by
 have a1:=qX ps hs;have a2:=sV ps hs;unfold co;rw[fV,a1,a2];by_cases c:ps.length=1
 ·rw[if_pos c,if_pos c];obtain⟨p,rfl⟩:=List.length_eq_one_iff.mp c;rfl
 ·rw[Ah c,Ah c];have ne:=KG nd c hs;show(if nR (ps.getLastD z0).2 (ps.headD z0).2=true then a7 ps else a7 (a7 ps))=_;rw[uC];cases e1:nR (ps.headD z0).2 (ps.getLastD z0).2 with
  |true=>
   have e2:nR (ps.getLastD z0).2 (ps.headD z0).2=false:=by
    cases e:nR (ps.getLastD z0).2 (ps.headD z0).2 with
    |false=>rfl
    |true=>
     have:=pN e1 e;rw[ua]at this;cases this
   rw[e2,Ah Bool.noConfusion,if_pos rfl]
  |false=>
   have e2:nR (ps.getLastD z0).2 (ps.headD z0).2=true:=by
    cases e:nR (ps.getLastD z0).2 (ps.headD z0).2 with|true=>rfl|false=>exact absurd (pY e1 e) ne
   rw[e2,if_pos rfl,Ah Bool.noConfusion]
theorem HQ(hs:ps≠[])(nd:(ci ps).Nodup):cs (r,a7 ps)=cs (r,ps):=by
 cases r with|true=>show(true,cr (a7 ps))=(true,cr ps);rw[OV hs nd]|false=>show(false,co (a7 ps))=(false,co ps);rw[OW hs nd]
def OX(hs:xs++ys≠[])(nd:(ci (xs++ys)).Nodup):cs (true,ys++xs)=cs (true,xs++ys):=by
 show(true,cr (ys++xs))=(true,cr (xs++ys));rw[OU hs nd]
def HR(hs:s.2≠[]):(ci (cs s).2).Perm (ci s.2):=by
 obtain⟨r,ps⟩:=s;dsimp only at hs;have mp:(ci (a7 ps)).Perm (ci ps):=by rw[fL];exact A4 _
 cases r with
 |true=>
  show(ci (cr ps)).Perm (ci ps);have h1:(ci (cr ps)).Perm (ci (side ps)):=by
   unfold cr;rw[bF];refine A9.trans ?_;rw[<-bF,Zl]
  refine h1.trans ?_;unfold side;split
  ·exact mp
  ·exact List.Perm.refl _
 |false=>
  show(ci (co ps)).Perm (ci ps);unfold co;split
  ·rename_i c
   obtain⟨p,rfl⟩:=List.length_eq_one_iff.mp c;exact List.Perm.refl _
  ·split
   ·exact List.Perm.refl _
   ·exact mp
theorem zL{ss:List ar}(nd:(ss.flatMap fun s=>ci s.2).Nodup)(ha:a∈ss)(hb:b∈ss)(h1:n∈ci a.2)(h2:n∈ci b.2):a=b:=by
 induction ss with
 |nil=>cases ha
 |cons s r ih=>
  rw[Xb,Qg]at nd;rcases Wd.mp ha with rfl|ha'
  ·rcases Wd.mp hb with rfl|hb'
   ·rfl
   ·exact absurd rfl (nd.2.2 n h1 n (Yg.mpr ⟨b,hb',h2⟩))
  ·rcases Wd.mp hb with rfl|hb'
   ·exact absurd rfl (nd.2.2 n h2 n (Yg.mpr ⟨a,ha',h1⟩))
   ·exact ih nd.2.1 ha' hb'
def KJ{l m m':List ar}(hne:∀s∈l,s.2≠[])(nd:(l.flatMap fun s=>ci s.2).Nodup)(p:m.Perm l)(p':m'.Perm l)(h:m.Pairwise (fun a b=>ltB (rk b) (rk a)=false))(h':m'.Pairwise (fun a b=>ltB (rk b) (rk a)=false)):m=m':=by
 refine(p.trans p'.symm).eq_of_pairwise (fun a b ha hb h1 h2=>?_) h h';have ma:=p.mem_iff.mp ha;have mb:=p'.mem_iff.mp hb;have e:rk a=rk b:=by
  have t:∀x y:KB,ltB x y=false->ltB y x=false->x=y:=fun x y z1 z2=>by
   obtain⟨b1,x⟩:=x;obtain⟨b2,y⟩:=y;cases b1<;>cases b2<;>simp[ltB]at z1 z2 ⊢
   ·exact pY z1 z2
   ·exact pY z1 z2
  exact t _ _ h2 h1
 have hd:∀s:ar,s.2≠[]->(rk s).2∈ci s.2:=fun s hs=>Wb.mpr ⟨s.2.headD z0,Wc (lI hs),rfl⟩;refine zL nd ma mb (hd a (hne a ma)) ?_;rw[e];exact hd b (hne b mb)
def KK{ss ts:List ar}(hne:∀s∈ss,s.2≠[])(hn:∀s∈ss,∀p∈s.2,Nm p.2)(nd:((ss.flatMap (·.2)).map (·.2)).Nodup)(p:(ts.map cs).Perm (ss.map cs)):cn ts=cn ss:=by
 refine KJ (l:=ss.map cs) (fun s hs=>?_) ?_ ((iI ts).1.trans p) (iI ss).1 (iI ts).2.2 (iI ss).2.2
 ·obtain⟨t,ht,rfl⟩:=Wb.mp hs;exact(lJ (hne t ht) (hn t ht)).1
 ·have pm:∀l:List ar,(∀s∈l,s.2≠[])->((l.map cs).flatMap fun s=>ci s.2).Perm ((l.flatMap (·.2)).map (·.2)):=fun l=>by
   induction l with
   |nil=>exact fun _=>List.Perm.refl _
   |cons s r ih=>
    intro h;rw[Qd,Xb,Xb,Qb];exact(HR (h s Va)).append (ih fun x hx=>h x (Wa _ hx))
  exact(pm ss hne).nodup_iff.mpr nd
end
end K12
namespace VF
open L2
def OY(h1:fe st=some (r,s1))(h2:esc r s1=some (d,s2))(h3:fg d s2=some s3):Fs fe fg st=some (.nx s3):=by
 simp only[Fs,h1,h2,h3,Yb]
def R6(h1:mV i (.v a) st=some s1)(h2:mV j (.v b) s1=some s2):VF.gT 2 (ij (gN i) (ij (gN j) qq)) (.tup [a,b]) st=some s2:=by
 show(if 2=2 then ij (gN i) (ij (gN j) qq) [a,b] st else none)=_;rw[if_pos rfl];show(mV i (.v a) st).bind _=_;rw[h1];show(mV j (.v b) s1).bind _=_;rw[h2];rfl
end VF
namespace K12
open L2 VF VL VF22
noncomputable section
def pZ(s:ar):D:=.tup [.str (kd s.1),.lst (s.2.map au)]
theorem zM(f:α->β):∀(l:List α)(i:Nat),(l.map f).eraseIdx i=(l.eraseIdx i).map f
 |[],_=>rfl
 |_::_,0=>rfl
 | x::l,i+1=>by
  show f x::(l.map f).eraseIdx i=f x::(l.eraseIdx i).map f;rw[zM f l i]
def R7{ss:List ar}{i:Int}(h0:0<=i)(h1:i<ss.length)(hl:ss.length<=1000):∃s ss1,jp (.lst (ss.map pZ)) [.int i]=some (pZ s,.lst (ss1.map pZ))/\(s::ss1).Perm ss:=by
 have hk:i.toNat<(ss.map pZ).length:=by rw[Za];lia
 have hk':i.toNat<ss.length:=by lia
 refine⟨ss[i.toNat],ss.eraseIdx i.toNat,?_,l8 hk'⟩;rw[v0 h0 (by rw[Za];exact h1) (by rw[Za];lia) hk,Bc,zM]
structure WF(N:List Str)(ss:List ar):Prop where
 ne:∀s∈ss,s.2≠[]
 nm:((ss.flatMap (·.2)).map (·.2)).Perm N
def WF.perm{ss ts:List ar}(w:WF N ss)(p:ts.Perm ss):WF N ts:=⟨fun s hs=>w.ne s (p.mem_iff.mp hs),((p.flatMap_right _).map _).trans w.nm⟩
def WF.beads(w:WF N ss)(hN:∀x∈N,Nm x):∀s∈ss,∀p∈s.2,Nm p.2:=fun s hs p hp=>hN _ (w.nm.mem_iff.mp (Wb.mpr ⟨p,Yg.mpr ⟨s,hs,hp⟩,rfl⟩))
def WF.len{N:List Str}{ss:List ar}(w:WF N ss):(ss.flatMap (·.2)).length=N.length:=by
 have:=w.nm.length_eq;rwa [Za]at this
def WF.cnt{N:List Str}{ss:List ar}(w:WF N ss):ss.length<=N.length:=w.len ▸ nI ss w.ne
def WF.one{N:List Str}(w:WF N (s::ss)):s.2.length<=N.length:=by
 have:=w.len;rw[Xb,Xa]at this;lia
def WF.put{ss ss2:List ar}(w:WF N (s::ss))(h1:∀x∈ss2,x.2≠[])(h2:qs≠[])(h3:(ci qs++ss2.flatMap fun x=>ci x.2).Perm (ci s.2++ss.flatMap fun x=>ci x.2)):WF N (ss2++[(k,qs)]):=by
 refine⟨fun x hx=>?_,?_⟩
 ·rcases Xe.mp hx with m|m
  ·exact h1 x m
  ·obtain rfl:=Zd.mp m;exact h2
 ·refine List.Perm.trans ?_ w.nm;rw[AO,AO,Yf,Wm,Xb];exact A9.trans h3
abbrev nS(φ S:D)(ss:List ar)(s4 s5 s6 s7 s8 s9 s10:Sl):En:=[.io φ,.v S,.v (.bl true),.o (.lst (ss.map pZ)),s4,s5,s6,s7,s8,s9,s10]
def HS{ss:List ar}{qs:List Bd}(h6:s6=.v (.lst (qs.map au))\/s6=.o (.lst (qs.map au)))(hl:ss.length<=1000) :
  (bV (fM ja bm 3 (aa (cO (aa (aw 5) (aa (aw 6) ae))) ae))) (nS φ S ss s4 (.v (.str (kd k))) s6 s7 s8 s9 s10)=some (.nx (nS φ S (ss++[(k,qs)]) s4 (.v (.str (kd k))) (.v (.lst (qs.map au))) s7 s8 s9 s10)):=by
 have ap:(ss.map pZ).length<1000000:=by rw[Za];lia
 rcases h6 with rfl|rfl
 ·refine bE (fR rfl rfl rfl (af (bH rfl rfl (by show 2<=1000000;decide)) rfl) rfl rfl rfl (cT ap) ?_)
  show [_,_,_,Sl.o (.lst (ss.map pZ++[pZ (k,qs)])),_,_,_,_,_,_,_]=_;unfold nS;rw[Qb];rfl
 ·refine bE (fR rfl rfl rfl (af (bH rfl rfl (by show 2<=1000000;decide)) rfl) rfl rfl rfl (cT ap) ?_)
  show [_,_,_,Sl.o (.lst (ss.map pZ++[pZ (k,qs)])),_,_,_,_,_,_,_]=_;unfold nS;rw[Qb];rfl
def To:FS:=(fP (aD (aK j6 (aw 7) (fC (.int 0)))) (aV (aK bR (aK bR (n8 jh (aw 6) tX (cc (aw 8))) (bQ 1 [] (ig (Gb (n8 jh (aw 6) (cc (aw 8)) (cc (aw 9))))) (gN 0) bA (aN cS (aa (aw 0) ae)))) (n8 jh (aw 6) (cc (aw 9)) tX)) 6) (fP (iw (aD (aK j6 (aw 7) (fC (.int 1)))) (aD (aK Qw (aw 8) (fC (.int 0))))) (ay (bV (fM ja bm 3 (aa (cO (aa (fC (.str "open")) (aa (n8 jh (aw 6) tX (cc (aw 8))) ae))) ae)))
  (ay (aV (n8 jh (aw 6) (cc (aw 8)) tX) 6)
  (aV (fC (.str "open")) 5))) (fP (iw (aD (aK j6 (aw 7) (fC (.int 2)))) (aD (aK vt (aw 3) (cy ae)))) (ay (aV (fM ja jp 3 (aa (gj aA 0 (aa (bU cV (aa (aw 3) ae)) ae)) ae)) 10)
  (aV (aK bR (aw 6) (aK bu (aw 10) (fC (.int 1)))) 6)) (fP (iw (aD (aK j6 (aw 7) (fC (.int 3)))) (aD (aw 2))) (aV (aK bu (cy (aa (fC (.str "open")) (aa (fC (.str "ring")) ae))) (gj aA 0 (aa (fC (.int 2)) ae))) 5) bP))))
def SY(ds:List D)(lo hi:Option Int):jh (.lst ds) lo hi=some (.lst (cutD ds lo hi),true):=rfl
def KM{N:List Str}{s4 s10:Sl}(hφ:cW φ)(wf:WF N (s::ss))(hN:∀x∈N,Nm x)(hNl:N.length<=100)(hw0:0<=w)(hw:w<4)(hl:l<s.2.length)(hlh:l<h)(hh:h<=s.2.length)(q10:s10.isIo=false) :
  ∃(φ':D)(ss2:List ar)(k:Bool)(qs:List Bd)(s6' s10':Sl),To (nS φ S ss s4 (.v (.str (kd s.1))) (.v (.lst (s.2.map au))) (.v (.int w)) (.v (.int (l:Int))) (.v (.int (h:Int))) s10)=some (.nx (nS φ' S ss2 s4 (.v (.str (kd k))) s6' (.v (.int w)) (.v (.int (l:Int))) (.v (.int (h:Int))) s10'))/\cW φ'/\s10'.isIo=false/\(s6'=.v (.lst (qs.map au))\/s6'=.o (.lst (qs.map au)))/\WF N (ss2++[(k,qs)])/\ss2.length<=1000:=by
 have hc:=wf.cnt;have ho:=wf.one;rw[Vc]at hc;obtain⟨rg,ps⟩:=s;dsimp only at hl hh ho ⊢;have hlm:l<=(ps.map au).length:=by rw[Za];lia
 have hhm:h<=(ps.map au).length:=by rw[Za];lia
 have hne:∀x∈ss,x.2≠[]:=fun x hx=>wf.ne x (Wa _ hx);have hps:ps≠[]:=fun z=>by rw[z]at hl;exact absurd hl (BZ _)
 have cutT:jh (.lst (ps.map au)) none (some (l:Int))=some (.lst ((ps.take l).map au),true):=by rw[SY,Gz hlm,Ch]
 have cutF:jh (.lst (ps.map au)) (some (l:Int)) none=some (.lst ((ps.drop l).map au),true):=by rw[SY,m8 hlm,Bg]
 have ws:w=0\/w=1\/w=2\/w=3:=by lia
 rcases ws with rfl|rfl|rfl|rfl
 ·-- a stretch turned
  have cutM:jh (.lst (ps.map au)) (some (l:Int)) (some (h:Int))=some (.lst (((ps.drop l).take (h-l)).map au),true):=by rw[SY,cut_mid hlm hhm,Ch,Bg]
  have cutE:jh (.lst (ps.map au)) (some (h:Int)) none=some (.lst ((ps.drop h).map au),true):=by rw[SY,m8 hhm,Bg]
  have hrev:NY (.lst (((ps.drop l).take (h-l)).map au))=some (.lst (((ps.drop l).take (h-l)).reverse.map au),true):=by rw[BN];rfl
  have nmp:∀p∈ps,Nm p.2:=wf.beads hN _ Va;have cm:cF (gN 0) bA (aN cS (aa (aw 0) ae)) 1 (((ps.drop l).take (h-l)).reverse.map au) [.e]=some ((a7 ((ps.drop l).take (h-l))).map au,[.e]):=by
   have:=a9 (fg:=gN 0) (fc:=bA) (fe:=aN cS (aa (aw 0) ae)) (k:=1) au (fun p=>au (xJ p)) [.e] ((ps.drop l).take (h-l)).reverse fun p hpp=>⟨[.v (au p)],[.v (au p)],.d (au (xJ p)),[.v (au p)],[.v (au p)],rfl,rfl,aM rfl rfl (Kz (t:=p.1) (n:=p.2) (nmp p (Bk (List.mem_of_mem_take (Yk.mp hpp))))) rfl,rfl,rfl⟩;rw[this];unfold a7;rw[Qc];rfl
  have l1:((ps.drop l).take (h-l)).reverse.length<=100:=by rw[Zi,Wg,Vg];lia
  have a1:bR (.lst ((ps.take l).map au)) (.lst ((a7 ((ps.drop l).take (h-l))).map au))=some (.lst ((ps.take l++a7 ((ps.drop l).take (h-l))).map au),true):=by
   rw[lH,Qb];rw[Za,Za,fV,Wg,Wg,Vg];lia
  have a2:bR (.lst ((ps.take l++a7 ((ps.drop l).take (h-l))).map au)) (.lst ((ps.drop h).map au))=some (.lst ((ps.take l++a7 ((ps.drop l).take (h-l))++ps.drop h).map au),true):=by
   rw[lH,<-Qb];rw[Za,Za,Xa,fV,Wg,Wg,Vg,Vg];lia
  refine⟨φ,ss,rg,ps.take l++a7 ((ps.drop l).take (h-l))++ps.drop h,.o _,s10,?_,hφ,q10,.inr rfl,wf.put hne ?_ ?_,by lia⟩
  ·refine eO rfl ?_;refine eG (av (av (gL rfl rfl rfl rfl cutT) (bq (m6 (NZ (gL rfl rfl rfl rfl cutM) rfl hrev) rfl) (mI (n:=100) ?_ (by decide) rfl) cm) rfl rfl a1) (gL rfl rfl rfl rfl cutE) rfl rfl a2) rfl
   rw[Za];exact l1
  ·intro z;have:=congrArg List.length z;rw[Xa,Xa,fV,Wg,Wg,Vg,Vg,Wh]at this;lia
  ·refine Dt _ ?_;rw[bF,bF,fL];refine((((A4 _).append_left _).append_right _).trans ?_);rw[<-bF,<-bF];have:ps.take l++(ps.drop l).take (h-l)++ps.drop h=ps:=by
    rw[Zc];have e:ps.drop h=(ps.drop l).drop (h-l):=by rw[List.drop_drop];congr 1;lia
    rw[e,Zl,Zl]
   rw[this]
 ·-- a strand cut
  by_cases c:l=0
  ·subst c;exact⟨φ,ss,rg,ps,.v _,s10,cf rfl (cf (mZ rfl rfl) (cf (oN rfl) (cf (oN rfl) rfl))),hφ,q10,.inl rfl,wf.put hne hps (List.Perm.refl _),by lia⟩
  ·have gt:Qw (.int (l:Int)) (.int 0)=some (.bl true,false):=by
    show some (D.bl (decide ((0:Int)<l)),false)=_;rw[Af (by lia)]
   refine⟨φ,ss++[(false,ps.take l)],false,ps.drop l,.o _,s10,?_,hφ,q10,.inr rfl,wf.put (fun x hx=>?_) (fun z=>?_) ?_,by rw[Xa];show ss.length+1<=_;lia⟩
   ·refine cf rfl ?_;refine eO (mZ rfl (aF (av rfl rfl rfl rfl gt) rfl)) ?_;refine am (s:=nS φ S (ss++[(false,ps.take l)]) s4 (.v (.str (kd rg))) (.v (.lst (ps.map au))) (.v (.int 1)) (.v (.int (l:Int))) (.v (.int (h:Int))) s10) ?_ ?_
    ·refine bE (fR rfl rfl rfl (af (bH (af rfl (af (gL rfl rfl rfl rfl cutT) rfl)) rfl (by show 2<=1000000;decide)) rfl) rfl rfl rfl (cT (by rw[Za];lia)) ?_)
     show [_,_,_,Sl.o (.lst (ss.map pZ++[pZ (false,ps.take l)])),_,_,_,_,_,_,_]=_;unfold nS;rw[Qb];rfl
    ·exact am (eG (gL rfl rfl rfl rfl cutF) rfl) (cz rfl rfl)
   ·rcases Xe.mp hx with m|m
    ·exact hne x m
    ·obtain rfl:=Zd.mp m;intro z;have z:ps.take l=[]:=z;have:=congrArg List.length z;rw[Wg,Wh]at this;lia
   ·have:=congrArg List.length z;rw[Vg,Wh]at this;lia
   ·rw[Yf,Wm];show(ci (ps.drop l)++((ss.flatMap fun x=>ci x.2)++ci (ps.take l))).Perm (ci ps++_);have e:ci ps=ci (ps.take l)++ci (ps.drop l):=by rw[<-bF,Zl]
    rw[e];refine List.Perm.trans ?_ (Dt _ A9);rw[Zc];exact A9.append_left _
 ·-- two joined
  cases ss with
  |nil=>
   exact⟨φ,[],rg,ps,.v _,s10,cf rfl (cf (oN rfl) (cf (mZ rfl rfl) (cf (oN rfl) rfl))),hφ,q10,.inl rfl,wf.put hne hps (List.Perm.refl _),by decide⟩
  |cons o os=>
   have hlc:((o::os).length:Int)<=1000:=by lia
   obtain⟨d,φ2,e,d0,d1,f2⟩:=b7 (n:=((o::os).length:Int)) hφ (by simp) hlc
   obtain⟨t,ts,ep,pp⟩:=R7 (ss:=o::os) d0 d1 (by lia)
   have len3:cV [.lst ((o::os).map pZ)]=some (.int ((o::os).length:Int),false):=by
    show some (D.int (((o::os).map pZ).length:Nat),false)=_;rw[Za]
   have wf2:WF N ((rg,ps)::t::ts):=wf.perm (pp.cons _);have ht:=wf2.len;rw[Xb,Xb,Xa,Xa]at ht;dsimp only at ht;have hts:=wf2.cnt;rw[Vc,Vc]at hts;have a1:bR (.lst (ps.map au)) (.lst (t.2.map au))=some (.lst ((ps++t.2).map au),true):=by
    rw[lH,Qb];rw[Za,Za];lia
   refine⟨φ2,ts,rg,ps++t.2,.o _,.v (pZ t),?_,f2,rfl,.inr rfl,WF.put (ss:=t::ts) wf2 (fun x hx=>wf2.ne x (by simp[hx])) (fun z=>hps (List.append_eq_nil_iff.mp z).1) ?_,by lia⟩
   ·refine cf rfl ?_;refine cf (oN rfl) ?_;refine eO (mZ rfl rfl) ?_;refine am (cz (fR rfl rfl rfl (af (bS rfl rfl (af (a6 rfl rfl len3) rfl) rfl rfl rfl e) rfl) rfl rfl rfl ep) (bc rfl q10)) ?_;exact eG (av rfl (av rfl rfl rfl rfl (show bu (pZ t) (.int 1)=some (.lst (t.2.map au),false) from rfl)) rfl rfl a1) rfl
   ·rw[Xb,bF,Zc]
 ·-- a ring opened,an open one closed
  obtain⟨d,φ2,e,d0,d1,f2⟩:=b7 (n:=2) hφ (by decide) (by decide)
  have ds:d=0\/d=1:=by lia
  have go:∀k:Bool,bu (.lst [.str "open",.str "ring"]) (.int d)=some (.str (kd k),false)->To (nS φ S ss s4 (.v (.str (kd rg))) (.v (.lst (ps.map au))) (.v (.int 3)) (.v (.int (l:Int))) (.v (.int (h:Int))) s10)=some (.nx (nS φ2 S ss s4 (.v (.str (kd k))) (.v (.lst (ps.map au))) (.v (.int 3)) (.v (.int (l:Int))) (.v (.int (h:Int))) s10)):=fun k ek=>by
   refine cf rfl ?_;refine cf (oN rfl) ?_;refine cf (oN rfl) ?_;refine eO (mZ rfl rfl) ?_;exact cz (av (i3 rfl rfl (by show 2<=1000000;decide)) (bS rfl rfl rfl rfl rfl rfl e) rfl rfl ek) rfl
  rcases ds with rfl|rfl
  ·exact⟨φ2,ss,false,ps,.v _,s10,go false rfl,f2,q10,.inl rfl,wf.put hne hps (List.Perm.refl _),by lia⟩
  ·exact⟨φ2,ss,true,ps,.v _,s10,go true rfl,f2,q10,.inl rfl,wf.put hne hps (List.Perm.refl _),by lia⟩
def Tp:FS:=(fP (aD (aK vt (aw 3) (cy ae))) (ay (Fs (fM ja jp 3 (aa (gj aA 0 (aa (bU cV (aa (aw 3) ae)) ae)) ae)) (VF.gT 2 (ij (gN 5) (ij (gN 6) qq))))
  (ay (aV (gj aA 0 (aa (fC (.int 4)) ae)) 7)
  (ay (aV (gj aA 0 (aa (bU cV (aa (aw 6) ae)) ae)) 8)
  (ay (aV (aK bR (aK bR (aw 8) (fC (.int 1))) (gj aA 0 (aa (aK Jr (bU cV (aa (aw 6) ae)) (aw 8)) ae))) 9)
  (ay To (bV (fM ja bm 3 (aa (cO (aa (aw 5) (aa (aw 6) ae))) ae)))))))) bP)
def uD(f:α->D)(xs:List α):cV [.lst (xs.map f)]=some (.int (xs.length:Int),false):=by
 show some (D.int ((xs.map f).length:Nat),false)=_;rw[Za]
def HU{N:List Str}{s4 s5 s6 s7 s8 s9 s10:Sl}(hφ:cW φ)(wf:WF N ss)(hN:∀x∈N,Nm x)(hNl:N.length<=100)(q5:s5.isIo=false)(q6:s6.isIo=false)(q7:s7.isIo=false)(q8:s8.isIo=false)(q9:s9.isIo=false)(q10:s10.isIo=false) :
  ∃(φ':D)(ss':List ar)(s5' s6' s7' s8' s9' s10':Sl),Tp (nS φ S ss s4 s5 s6 s7 s8 s9 s10)=some (.nx (nS φ' S ss' s4 s5' s6' s7' s8' s9' s10'))/\cW φ'/\WF N ss'/\s5'.isIo=false/\s6'.isIo=false/\s7'.isIo=false/\s8'.isIo=false/\s9'.isIo=false/\s10'.isIo=false:=by
 cases ss with
 |nil=>exact⟨φ,[],s5,s6,s7,s8,s9,s10,cf rfl rfl,hφ,wf,q5,q6,q7,q8,q9,q10⟩
 |cons o os=>
  have hc:=wf.cnt;have hlc:((o::os).length:Int)<=1000:=by lia
  obtain⟨d,φ1,e1,d0,d1,f1⟩:=b7 (n:=((o::os).length:Int)) hφ (by simp) hlc
  obtain⟨t,ts,ep,pp⟩:=R7 (ss:=o::os) d0 d1 (by lia)
  have wf1:WF N (t::ts):=wf.perm pp;have ht:=wf1.one;have htn:1<=t.2.length:=Xm.mpr (wf1.ne t Va);obtain⟨w,φ2,e2,w0,w1,f2⟩:=b7 (n:=4) f1 (by decide) (by decide)
  obtain⟨l,φ3,e3,l0,l1,f3⟩:=b7 (n:=(t.2.length:Int)) f2 (by lia) (by lia)
  obtain⟨l,rfl⟩:∃m:Nat,l=m:=⟨l.toNat,by lia⟩
  obtain⟨j,φ4,e4,j0,j1,f4⟩:=b7 (n:=(t.2.length:Int)-l) f3 (by lia) (by lia)
  obtain⟨j,rfl⟩:∃m:Nat,j=m:=⟨j.toNat,by lia⟩
  have eh:(l:Int)+1+j=((l+1+j:Nat):Int):=by lia
  have ad:bR (.int ((l:Int)+1)) (.int (j:Int))=some (.int ((l+1+j:Nat):Int),false):=by
   show some (D.int ((l:Int)+1+j),false)=_;rw[eh]
  obtain⟨φ5,ss2,k,qs,s6',s10',eb,f5,q10',h6,wf5,h2⟩:=KM (S:=S) (s4:=s4) (w:=w) (l:=l) (h:=l+1+j) f4 wf1 hN hNl w0 w1 (by lia) (by lia) (by lia) q10
  refine⟨φ5,ss2++[(k,qs)],.v (.str (kd k)),.v (.lst (qs.map au)),.v (.int w),.v (.int (l:Int)),.v (.int ((l+1+j:Nat):Int)),s10',?_,f5,wf5,rfl,rfl,rfl,rfl,rfl,q10'⟩;refine eO rfl ?_;refine am (OY (fR rfl rfl rfl (af (bS rfl rfl (af (a6 rfl rfl (uD pZ (o::os))) rfl) rfl rfl rfl e1) rfl) rfl rfl rfl ep) rfl (R6 (bc rfl q5) (bc rfl q6))) ?_;refine am (cz (bS rfl rfl rfl rfl rfl rfl e2) (bc rfl q7)) ?_;refine am (cz (bS rfl rfl (af (a6 rfl rfl (uD au t.2)) rfl) rfl rfl rfl e3) (bc rfl q8)) ?_;refine am (cz (av (av rfl rfl rfl rfl rfl) (bS rfl rfl (af (av (a6 rfl rfl (uD au t.2)) rfl rfl rfl rfl) rfl) rfl rfl rfl e4) rfl rfl ad) (bc rfl q9)) ?_;exact am eb (HS h6 h2)
def KN{N:List Str}{ss:List ar}(hφ:cW φ)(wf:WF N ss)(hN:∀x∈N,Nm x)(hNl:N.length<=100):∃(ts:List ar)(φ':D),mx φ [.tup (ss.map aS),.bl true]=some ((.tup (ts.map aS),false),φ')/\WF N ts/\cW φ':=by
 have hc:=wf.cnt;obtain⟨d,φ1,e1,d0,d1,f1⟩:=b7 (n:=4) hφ (by decide) (by decide)
 have cm1:cF (VF.gT 2 (ij (gN 0) (ij (gN 1) qq))) bA (cO (aa (aw 0) (aa (bU n9 (aa (aw 1) ae)) ae))) 2 (ss.map aS) [.e,.e]=some (ss.map pZ,[.e,.e]) :=
  a9 aS pZ [.e,.e] ss fun s hs=>⟨[.v (.str (kd s.1)),.v (.tup (s.2.map au))],[.v (.str (kd s.1)),.v (.tup (s.2.map au))],.d (pZ s),[.v (.str (kd s.1)),.v (.tup (s.2.map au))],[.v (.str (kd s.1)),.v (.tup (s.2.map au))],R6 rfl rfl,rfl,bH rfl rfl (by show 2<=1000000;decide),rfl,rfl⟩
 obtain⟨sf,ef,φ',ts,s4,s5,s6,s7,s8,s9,s10,rfl,f',wf',q4,q5,q6,q7,q8,q9,q10⟩:=vC (fg:=gN 4) (B:=Tp) (rng 0 d.toNat)
  (fun _ st=>∃(φ':D)(ts:List ar)(s4 s5 s6 s7 s8 s9 s10:Sl),st=nS φ' (.tup (ss.map aS)) ts s4 s5 s6 s7 s8 s9 s10/\cW φ'/\WF N ts/\s4.isIo=false/\s5.isIo=false/\s6.isIo=false/\s7.isIo=false/\s8.isIo=false/\s9.isIo=false/\s10.isIo=false)
  (by
   rintro _ x _ _ ⟨φ',ts,s4,s5,s6,s7,s8,s9,s10,rfl,f',wf',q4,q5,q6,q7,q8,q9,q10⟩;obtain⟨φ2,ss',s5',s6',s7',s8',s9',s10',eb,f2,w2,r5,r6,r7,r8,r9,r10⟩:=HU (S:=.tup (ss.map aS)) (s4:=.v x) f' wf' hN hNl q5 q6 q7 q8 q9 q10
   exact⟨_,_,bc rfl q4,eb,φ2,ss',.v x,s5',s6',s7',s8',s9',s10',rfl,f2,w2,rfl,r5,r6,r7,r8,r9,r10⟩)
  (rng 0 d.toNat) [] (nS φ1 (.tup (ss.map aS)) ss .e .e .e .e .e .e .e) (fun _ h=>h) ⟨φ1,ss,.e,.e,.e,.e,.e,.e,.e,rfl,f1,wf,rfl,rfl,rfl,rfl,rfl,rfl,rfl⟩
 have hc':=wf'.cnt;have cm2:cF (VF.gT 2 (ij (gN 0) (ij (gN 1) qq))) bA (cO (aa (aw 0) (aa (bU aU (aa (aw 1) ae)) ae))) 2 (ts.map pZ) [.e,.e]=some (ts.map aS,[.e,.e]) :=
  a9 pZ aS [.e,.e] ts fun s hs=>⟨[.v (.str (kd s.1)),.v (.lst (s.2.map au))],[.v (.str (kd s.1)),.v (.lst (s.2.map au))],.d (aS s),[.v (.str (kd s.1)),.v (.lst (s.2.map au))],[.v (.str (kd s.1)),.v (.lst (s.2.map au))],R6 rfl rfl,rfl,bH rfl rfl (by show 2<=1000000;decide),rfl,rfl⟩
 refine⟨ts,φ',?_,wf',f'⟩;have sp:jR=ay (aV (bQ 2 [] (ig (aw 1)) (VF.gT 2 (ij (gN 0) (ij (gN 1) qq))) bA (cO (aa (aw 0) (aa (bU n9 (aa (aw 1) ae)) ae)))) 3)
  (ay (ik (pc (aa (gj aA 0 (aa (fC (.int 4)) ae)) ae)) (gN 4) Tp)
  (be (bU aU (aa (bQ 2 [] (ig (aw 3)) (VF.gT 2 (ij (gN 0) (ij (gN 1) qq))) bA (cO (aa (aw 0) (aa (bU aU (aa (aw 1) ae)) ae)))) ae)))):=rfl
 refine dw (o:=.rt (.d (.tup (ts.map aS))) [.io φ',.v (.tup (ss.map aS)),.v (.bl true),.v (.lst (ts.map pZ)),s4,s5,s6,s7,s8,s9,s10]) rfl ?_ rfl;rw[sp];refine am (eG (bq (s1:=[.io φ,.v (.tup (ss.map aS)),.v (.bl true),.e,.e,.e,.e,.e,.e,.e,.e]) (ds:=ss.map aS) (jb rfl rfl) (mI (n:=100) (by rw[Za];lia) (by decide) rfl) cm1) rfl) ?_
 refine am (eQ (gx (j:=d) (af (bS rfl rfl rfl rfl rfl rfl e1) rfl) rfl ⟨by lia,by lia⟩) ef) ?_
 exact aL (a6 (af (bq (ds:=ts.map pZ) (m6 rfl rfl) (mI (n:=100) (by rw[Za];lia) (by decide) rfl) cm2) rfl) rfl rfl)
def mem_jn:e∈Jn p q↔e=b8 p\/e=bN q:=by
 unfold Jn;rw[(cU [b8 p,bN q]).2.mem_iff];simp
def uE(h:bN p=bN q):p=q:=by
 obtain⟨a,x⟩:=p;obtain⟨b,y⟩:=q;have h1:x=y:=congrArg Prod.fst h;have h2:(if a then(1:Int) else 0)=if b then 1 else 0:=congrArg Prod.snd h;subst h1;cases a<;>cases b<;>first|rfl|(exact absurd h2 (by decide))
theorem uq:∀{J:List ip},J.flatten.Nodup->∀{j k:ip}{e:End},j∈J->k∈J->e∈j->e∈k->j=k
 |[],_,_,_,_,h,_,_,_=>by cases h
 | i::J,nd,j,k,e,hj,hk,ej,ek=>by
  rw[CL]at nd;obtain⟨n1,n2,n3⟩:=Qg.mp nd;rcases Wd.mp hj with rfl|mj<;>rcases Wd.mp hk with rfl|mk
  ·rfl
  ·exact absurd rfl (n3 e ej e (List.mem_flatten.mpr ⟨k,mk,ek⟩))
  ·exact absurd rfl (n3 e ek e (List.mem_flatten.mpr ⟨j,mj,ej⟩))
  ·exact uq n2 mj mk ej ek
def R8{J:List ip}(nd:J.flatten.Nodup){j:ip}(h:j∈J):j.Nodup:=by
 obtain⟨a,b,rfl⟩:=Xk h;rw[Ce,CL]at nd;exact(Qg.mp (Qg.mp nd).2.1).1
def R9(h:(Jn p q).Nodup):b8 p≠bN q:=by
 have:=(cU [b8 p,bN q]).2.nodup_iff.mp h;intro z;rw[z]at this;simp at this
def p7{J:List ip}(nd:J.flatten.Nodup)(h:Jn p q∈J)(h':Jn p q'∈J):q=q':=by
 have e:=uq nd h h' (mem_jn.mpr (.inl rfl)) (mem_jn.mpr (.inl rfl));have m:bN q∈Jn p q':=e ▸ mem_jn.mpr (.inr rfl);rcases mem_jn.mp m with z|z
 ·exact absurd z.symm (R9 (R8 nd h))
 ·exact uE z
def jn_len(p q:Bd):(Jn p q).length=2:=xI _ _
def HV{J:List ip}(nd:J.flatten.Nodup)(h:Jn p q∈J)(h':[b8 p]∈J):False:=by
 have e:=uq nd h h' (mem_jn.mpr (.inl rfl)) (Zd.mpr rfl);have:=jn_len p q;rw[e]at this;cases this
theorem sX{J:List ip}(nd:J.flatten.Nodup):∀(p:Bd)(r r':List Bd),(∀j∈fu (p::r),j∈J)->[b8 ((p::r).getLastD z0)]∈J->(∀j∈fu (p::r'),j∈J)->[b8 ((p::r').getLastD z0)]∈J->r=r'
 |_,[],[],_,_,_,_=>rfl
 |p,[],q::r',_,h2,h3,_=>(HV nd (h3 (Jn p q) (by rw[dF];exact Va)) h2).elim
 |p,q::r,[],h1,_,_,h4=>(HV nd (h1 (Jn p q) (by rw[dF];exact Va)) h4).elim
 | p,q::r,q'::r',h1,h2,h3,h4=>by
  have e:=p7 nd (h1 (Jn p q) (by rw[dF];exact Va)) (h3 (Jn p q') (by rw[dF];exact Va))
  subst e;rw[sX nd q r r' (fun j hj=>h1 j (by rw[dF];exact Wa _ hj)) h2 (fun j hj=>h3 j (by rw[dF];exact Wa _ hj)) h4]
theorem sY{J:List ip}(nd:J.flatten.Nodup)(h:Bd):∀(p:Bd)(r r':List Bd),h∉r->h∉r'->(∀j∈fu (p::r),j∈J)->Jn ((p::r).getLastD z0) h∈J->(∀j∈fu (p::r'),j∈J)->Jn ((p::r').getLastD z0) h∈J->r=r'
 |_,[],[],_,_,_,_,_,_=>rfl
 |p,[],q::r',_,n2,_,h2,h3,_=>(n2 (p7 nd h2 (h3 (Jn p q) (by rw[dF];exact Va)) ▸ Va)).elim
 |p,q::r,[],n1,_,h1,_,_,h4=>(n1 (p7 nd h4 (h1 (Jn p q) (by rw[dF];exact Va)) ▸ Va)).elim
 | p,q::r,q'::r',n1,n2,h1,h2,h3,h4=>by
  have e:=p7 nd (h1 (Jn p q) (by rw[dF];exact Va)) (h3 (Jn p q') (by rw[dF];exact Va))
  subst e;rw[sY nd h q r r' (fun z=>n1 (Wa _ z)) (fun z=>n2 (Wa _ z)) (fun j hj=>h1 j (by rw[dF];exact Wa _ hj)) h2 (fun j hj=>h3 j (by rw[dF];exact Wa _ hj)) h4]
def zN{ss:List ar}(hne:∀s∈ss,s.2≠[])(nd:((ss.flatMap (·.2)).map (·.2)).Nodup):((ss.flatMap sj).flatten).Nodup:=by
 rw[((oC hne).trans (qY _)).nodup_iff];refine Qg.mpr ⟨?_,?_,?_⟩
 ·exact List.Pairwise.map zero (fun a b h z=>h (congrArg Prod.fst z)) nd
 ·exact List.Pairwise.map one (fun a b h z=>h (congrArg Prod.fst z)) nd
 ·intro a ha b hb z;obtain⟨x,_,rfl⟩:=Wb.mp ha;obtain⟨y,_,rfl⟩:=Wb.mp hb;exact absurd (congrArg Prod.snd z) (show(0:Int)≠1 by decide)
def uF(ps:List Bd):sj (false,ps)=fu ps++[[bN (ps.headD z0)],[b8 (ps.getLastD z0)]]:=rfl
def uG(ps:List Bd):sj (true,ps)=fu ps++[Jn (ps.getLastD z0) (ps.headD z0)]:=by unfold sj;rw[uB]
def HW{j:ip}(h:j∈fu ps):j.length=2:=by
 unfold fu at h;obtain⟨q,_,rfl⟩:=Wb.mp h;exact xI _ _
def Mr{ss:List ar}(h:((ss.flatMap (·.2)).map (·.2)).Nodup):(ss.flatMap fun s=>ci s.2).Nodup:=by
 rwa [AO]at h
def oE{ss:List ar}(nd:((ss.flatMap (·.2)).map (·.2)).Nodup)(h:s∈ss):(ci s.2).Nodup:=by
 obtain⟨a,b,rfl⟩:=Xk h;have:=Mr nd;rw[Yf,Xb]at this;exact(Qg.mp (Qg.mp this).2.1).1
theorem sZ{ts:List ar}(hne:∀s∈ts,s.2≠[])(nd:((ts.flatMap (·.2)).map (·.2)).Nodup){J:List ip}(hJ:J.Perm (ts.flatMap sj))(hs:ps≠[])(h:∀j∈sj (false,ps),j∈J):∃t∈ts,cs t=cs (false,ps)/\(sj t).Perm (sj (false,ps)):=by
 have nJ:J.flatten.Nodup:=(hJ.flatten).nodup_iff.mpr (zN hne nd);have h':=h;simp only[uF,Xe,Wd,BM,or_false]at h;have h0:=h [bN (ps.headD z0)] (.inr (.inl rfl));have h1:=h [b8 (ps.getLastD z0)] (.inr (.inr rfl));obtain⟨t,ht,hj⟩:=Yg.mp (hJ.mem_iff.mp h0);obtain⟨rg,qs⟩:=t;have hq:qs≠[]:=hne _ ht;have inJ:∀j∈sj (rg,qs),j∈J:=fun j m=>hJ.mem_iff.mpr (Yg.mpr ⟨_,ht,m⟩);cases rg with
 |true=>
  rw[uG]at hj;rcases Xe.mp hj with m|m
  ·exact absurd (HW m) (by simp)
  ·have:=congrArg List.length (Zd.mp m);rw[jn_len]at this;cases this
 |false=>
  have key:∀qs':List Bd,qs'≠[]->(∀j∈sj (false,qs'),j∈J)->bN (ps.headD z0)=bN (qs'.headD z0)->qs'=ps:=fun qs' hq' hi e=>by
   cases ps with
   |nil=>exact absurd rfl hs
   |cons p r=>
    cases qs' with
    |nil=>exact absurd rfl hq'
    |cons q r'=>
     have e':p=q:=uE e;subst e';simp only[uF,Xe,Wd,BM,or_false]at hi;rw[sX nJ p r r' (fun j m=>h j (.inl m)) h1 (fun j m=>hi j (.inl m)) (hi _ (.inr (.inr rfl)))]
  rw[uF]at hj;rcases Xe.mp hj with m|m
  ·exact absurd (HW m) (by simp)
  ·rcases Wd.mp m with m|m
   ·have:=key qs hq inJ (List.cons.inj m).1;subst this;exact⟨_,ht,rfl,List.Perm.refl _⟩
   ·have m:=Zd.mp m;have hm:a7 qs≠[]:=fun z=>hq (by rw[<-uC qs,z];rfl)
    have:=key (a7 qs) hm (fun j mj=>inJ j ((oB hq).mem_iff.mp mj)) (by rw[qX qs hq,uA];exact(List.cons.inj m).1)
    subst this;exact⟨_,ht,(HQ hq (oE nd ht)).symm,(oB hq).symm⟩
def Tq(h:p∈qs):∃u v,qs=u++p::v:=Xk h
def Ms(hs:s.2≠[])(hj:j∈sj s)(hp:bN p∈j):p∈s.2\/p∈a7 s.2:=by
 have:=(zw hs).mem_iff.mp (List.mem_flatten.mpr ⟨j,hj,hp⟩);unfold hZ at this;rcases Xe.mp this with m|m
 ·obtain⟨q,hq,e⟩:=Wb.mp m;exact .inl (uE e ▸ hq)
 ·obtain⟨q,hq,e⟩:=Wb.mp m;rw[<-uA]at e;refine .inr (uE e ▸ ?_);unfold a7;exact Wb.mpr ⟨q,Yk.mpr hq,rfl⟩
def OZ{s:ar}{p:Bd}(h:p∈s.2\/p∈a7 s.2):p.2∈ci s.2:=by
 rcases h with h|h
 ·exact Wb.mpr ⟨p,h,rfl⟩
 ·have:p.2∈ci (a7 s.2):=Wb.mpr ⟨p,h,rfl⟩;rw[fL]at this;exact Yk.mp this
theorem HX{ss ts:List ar}(hns:∀s∈ss,s.2≠[])(nds:((ss.flatMap (·.2)).map (·.2)).Nodup)(hne:∀s∈ts,s.2≠[])(nd:((ts.flatMap (·.2)).map (·.2)).Nodup)(hJ:(ss.flatMap sj).Perm (ts.flatMap sj)){s:ar}(hs:s∈ss):∃t∈ts,cs t=cs s/\(sj t).Perm (sj s):=by
 have inS:∀j∈sj s,j∈ss.flatMap sj:=fun j m=>Yg.mpr ⟨_,hs,m⟩;obtain⟨rg,ps⟩:=s;cases rg with
 |false=>exact sZ hne nd hJ (hns _ hs) inS
 |true=>
  have hp:ps≠[]:=hns _ hs;cases ps with
  |nil=>exact absurd rfl hp
  |cons p r=>
   have nJ:=zN hns nds;have inS':=inS;rw[uG]at inS;have j0:=inS _ (Vd _ Va);have e0:bN p∈Jn ((p::r).getLastD z0) ((p::r).headD z0):=mem_jn.mpr (.inr rfl);obtain⟨t,ht,hj⟩:=Yg.mp (hJ.mem_iff.mp j0);have pin:=Ms (hne t ht) hj e0;obtain⟨tg,qs⟩:=t;have hq:qs≠[]:=hne _ ht;have inJ:∀j∈sj (tg,qs),j∈ss.flatMap sj:=fun j m=>hJ.mem_iff.mpr (Yg.mpr ⟨_,ht,m⟩);have ndq:(ci qs).Nodup:=oE nd ht;cases tg with
   |false=>
    obtain⟨s2,hs2,ec,pj⟩:=sZ hns nds hJ.symm hq (fun j m=>hJ.mem_iff.mp (inJ j m));have m2:=OZ (Ms (hns s2 hs2) (pj.mem_iff.mpr hj) e0);have same:=zL (Mr nds) hs hs2 (n:=p.2) (Wb.mpr ⟨p,Va,rfl⟩) m2;rw[<-same]at ec;exact absurd (congrArg Prod.fst ec) (by show ¬ (true=false);decide)
   |true=>
    have key:∀qs':List Bd,p∈qs'->(ci qs').Nodup->(∀j∈sj (true,qs'),j∈ss.flatMap sj)->cs (true,qs')=cs (true,p::r)/\(sj (true,qs')).Perm (sj (true,p::r)):=fun qs' m n i=>by
     obtain⟨u,v,rfl⟩:=Tq m;have hr:=HG (xs:=u) (ys:=p::v);have hi:∀j∈sj (true,p::(v++u)),j∈ss.flatMap sj:=fun j mj=>i j (hr.mem_iff.mp mj);rw[uG]at hi;have no:∀l:List Bd,(ci (p::l)).Nodup->p∉l:=fun l hl z=>(Zh.mp hl).1 (Wb.mpr ⟨p,z,rfl⟩);have nr:(ci (p::r)).Nodup:=oE nds hs;have nv:(ci (p::(v++u))).Nodup:=by
      have:(ci (p::v++u)).Perm (ci (u++p::v)):=by unfold ci;exact A9.map _
      exact this.nodup_iff.mpr n
     have:=sY nJ p p r (v++u) (no r nr) (no _ nv) (fun j mj=>inS j (Xh _ mj)) j0 (fun j mj=>hi j (Xh _ mj)) (hi _ (Vd _ Va));subst this;exact⟨(OX (xs:=u) (ys:=p::v) (by simp) n).symm,hr.symm⟩
    rcases pin with m|m
    ·obtain⟨a,b⟩:=key qs m ndq inJ;exact⟨_,ht,a,b⟩
    ·obtain⟨a,b⟩:=key (a7 qs) m (by rw[fL];exact(A4 _).nodup_iff.mpr ndq) (fun j mj=>inJ j ((oB hq).mem_iff.mp mj))
     exact⟨_,ht,(HQ hq ndq).symm.trans a,(oB hq).symm.trans b⟩
def KO(s:ar):sj s≠[]:=by
 obtain⟨b,ps⟩:=s;cases b<;>(intro z;simp[sj,qW]at z)
theorem Mt:∀{ss ts:List ar},(∀s∈ss,s.2≠[])->((ss.flatMap (·.2)).map (·.2)).Nodup->(∀s∈ts,s.2≠[])->((ts.flatMap (·.2)).map (·.2)).Nodup->(ss.flatMap sj).Perm (ts.flatMap sj)->(ss.map cs).Perm (ts.map cs)
 | [],ts,_,_,_,_,hJ=>by
  cases ts with
  |nil=>exact List.Perm.refl _
  |cons t r=>
   rw[List.flatMap_nil,Xb]at hJ;exact absurd (List.append_eq_nil_iff.mp hJ.symm.eq_nil).1 (KO t)
 | s::ss,ts,h1,n1,h2,n2,hJ=>by
  obtain⟨t,ht,ec,pj⟩:=HX h1 n1 h2 n2 hJ Va;obtain⟨a,b,rfl⟩:=Xk ht;have pt:(a++t::b).Perm (t::(a++b)):=Bb;have nd':=(((pt.flatMap_right (·.2)).map (·.2)).nodup_iff).mp n2;rw[Xb,Qb]at nd' n1;have hJ':(ss.flatMap sj).Perm ((a++b).flatMap sj):=by
   have:=hJ.trans (pt.flatMap_right sj);rw[Xb,Xb]at this;exact(List.perm_append_left_iff (sj s)).mp (this.trans (pj.append_right _))
  have ih:=Mt (fun x hx=>h1 x (Wa _ hx)) (Qg.mp n1).2.1 (fun x hx=>h2 x (pt.mem_iff.mpr (Wa _ hx))) (Qg.mp nd').2.1 hJ';refine List.Perm.trans ?_ (pt.map cs).symm;rw[Qd,Qd,ec];exact ih.cons _
def Mu{ss ts:List ar}(h1:∀s∈ss,s.2≠[])(m1:∀s∈ss,∀p∈s.2,Nm p.2)(n1:((ss.flatMap (·.2)).map (·.2)).Nodup)(h2:∀s∈ts,s.2≠[])(n2:((ts.flatMap (·.2)).map (·.2)).Nodup):cn ss=cn ts↔jo ss=jo ts:=by
 refine⟨fun e=>by rw[<-zJ h1,<-zJ h2,e],fun e=>?_⟩
 have p:(ss.flatMap sj).Perm (ts.flatMap sj):=((bJ _).2.symm.trans (by show(jo ss).Perm _;rw[e];exact(bJ _).2))
 exact(KK h1 m1 n1 (Mt h1 n1 h2 n2 p).symm).symm
end
end K12
namespace VF
open L2 VF22
def KP(h1:fa st=some (rs,s1))(h2:dL s1 rs=some [.int a,.int b,.int c])(h3:R3 a b c):JW fa st=some (xi a c (JV a b c),s1):=by
 simp only[JW,h1,h2,Yb,xj];rw[if_pos h3]
def O0:jh (.lst xs) lo hi=some (.lst (cutD xs lo hi),true):=rfl
def HY(h:fe st=some (r,s))(h2:cont s r=some (.int i)):cc fe st=some (some i,s):=by
 have e:asInt s r=some i:=by unfold asInt;rw[h2]
 simp only[cc,h,e,Yb]
end VF
namespace K12
open L2 VF VL VF22
noncomputable section
def tf(L:List α)(d:α)(F:α->β):(List.range L.length).map (fun i=>F (L.getD i d))=L.map F:=by
 refine Be (by simp) fun i h1 h2=>?_
 have hi:i<L.length:=by simpa using h2
 rw[Bc,Bc,Cu,Yc,Ya hi];rfl
abbrev i4:End:=("",1)
abbrev zO:End:=("",0)
def i6(ps:List Bd):List (End×End):=(i4::ps.map b8).zip (ps.map bN++[zO])
def iJ(ps:List Bd):(i6 ps).length=ps.length+1:=by
 unfold i6;rw[C4,Vc,Xa,Za,Za,Yi];lia
def fH(q:End×End):List End:=[q.1,q.2]
theorem we:∀(ps:List Bd)(a z:End),a::ps.flatMap (fun p=>[bN p,b8 p])++[z]=((a::ps.map b8).zip (ps.map bN++[z])).flatMap fH
 |[],a,z=>rfl
 | p::r,a,z=>by
  have ih:=we r (b8 p) z;show a::bN p::(b8 p::r.flatMap (fun p=>[bN p,b8 p])++[z])=_;rw[ih];rfl
theorem HZ:∀(L:List (End×End))(i:Nat),i<L.length->((L.flatMap fH).drop (2*i)).take 2=fH (L.getD i (i4,i4))
 |[],_,h=>absurd h (BZ _)
 |q::r,0,_=>rfl
 | q::r,i+1,h=>by
  have ih:=HZ r i (by rw[Vc]at h;lia)
  rw[show 2*(i+1)=2*i+1+1 by lia]
  exact ih
theorem KQ(L:List (End×End)):(L.flatMap fH).length=2*L.length:=by
 induction L with
 |nil=>rfl
 |cons q r ih=>
  rw[Xb,Xa,ih,Vc];show 2+_=_;lia
def lj(ps:List Bd):List ip:=(i6 ps).map fun q=>bK [q.1,q.2]
def H9(h:j∈lj ps):j≠[]:=fun z=>by
 obtain⟨q,_,e⟩:=Wb.mp h;have:=xI q.1 q.2;rw[e,z]at this;cases this
def zP(ps:List Bd):List ip:=gB (lj ps)
def zQ(ps:List Bd):(zP ps).length=ps.length+1:=by
 unfold zP;rw[(bJ _).2.length_eq,lj,Za,iJ]
def EA:cM [.lst [eD a,eD b]]=some (jD (bK [a,b]),false):=by
 refine aI (o:=.rt (.d (jD (bK [a,b]))) [.v (.lst [eD a,eD b])]) rfl (aL (a6 (af (a6 (af rfl rfl) rfl (gE [a,b] (by simp) rfl)) rfl) rfl rfl)) rfl
def Sa:∀n:Nat,n<101->R3 0 ((2*(n+1):Nat):Int) 2/\JV 0 ((2*(n+1):Nat):Int) 2=n+1:=by decide +kernel
def rd{ps:List Bd}(hn:∀p∈ps,Nm p.2)(hl:ps.length<=30):iT [.tup (ps.map au)]=some (.tup ((zP ps).map jD),false):=by
 obtain⟨sf,e,s2,rfl,q2⟩:=dA (fg:=gN 2) (B:=bV (fM ja iB 1 (aa (cy (aa (aO de (aa (aw 2) ae)) (aa (aO cX (aa (aw 2) ae)) ae))) ae))) au ps
  (fun gone st=>∃s2:Sl,st=[.v (.tup (ps.map au)),.o (.lst ((i4::gone.flatMap (fun p=>[bN p,b8 p])).map eD)),s2]/\s2.isIo=false)
  (by
   rintro gone p rest st ha ⟨s2,rfl,q2⟩;have hm:p∈ps:=by rw[ha];simp
   have np:=hn p hm;have hg:gone.length<=100:=by have:=congrArg List.length ha;rw[Xa]at this;lia
   have hgl:∀g:List Bd,(g.flatMap (fun p=>[bN p,b8 p])).length=2*g.length:=fun g=>by
    induction g with|nil=>rfl|cons x r ih=>rw[Xb,Xa,ih,Vc];show 2+2*r.length=2*(r.length+1);lia
   refine⟨_,[.v (.tup (ps.map au)),.o (.lst ((i4::(gone++[p]).flatMap (fun p=>[bN p,b8 p])).map eD)),.v (au p)],bc rfl q2,?_,.v (au p),rfl,rfl⟩;refine bE (fR rfl rfl rfl (af (i3 (af (aE rfl rfl (pU (t:=p.1) (n:=p.2) np)) (af (aE rfl rfl (qV (t:=p.1) (n:=p.2) np)) rfl)) rfl (by show 2<=1000000;decide)) rfl) rfl rfl rfl (yQ ?_) ?_)
   ·rw[Za,Vc,hgl];show 2*gone.length+1+2<=1000000;lia
   ·rw[Yf,Wm,Qd,Qd,Qb];rfl)
  ps [] [.v (.tup (ps.map au)),.o (.lst [eD i4]),.e] rfl ⟨.e,rfl,rfl⟩
 have eE:=we ps i4 zO;have hE:((i6 ps).flatMap fH).length=2*(ps.length+1):=by rw[KQ,iJ]
 obtain⟨r1,r2⟩:=Sa ps.length (by lia)
 have cm:cF (gN 0) bA (aO cM (aa (n8 jh (aw 1) (cc (aw 0)) (cc (aK bR (aw 0) (fC (.int 2))))) ae)) 1 (xi 0 2 (ps.length+1)) [.e,.o (.lst (((i6 ps).flatMap fH).map eD))]=some ((lj ps).map jD,[.e,.o (.lst (((i6 ps).flatMap fH).map eD))]):=by
  have:=a9 (fg:=gN 0) (fc:=bA) (fe:=aO cM (aa (n8 jh (aw 1) (cc (aw 0)) (cc (aK bR (aw 0) (fC (.int 2))))) ae)) (k:=1) (fun i:Nat=>D.int (0+(i:Int)*2)) (fun i=>jD (bK (fH ((i6 ps).getD i (i4,i4))))) [.e,.o (.lst (((i6 ps).flatMap fH).map eD))] (List.range (ps.length+1)) fun i hi=>by
   have hi':i<ps.length+1:=Vi.mp hi;have cut:jh (.lst (((i6 ps).flatMap fH).map eD)) (some (0+(i:Int)*2)) (some (0+(i:Int)*2+2))=some (.lst ((fH ((i6 ps).getD i (i4,i4))).map eD),true):=by
    rw[O0,<-HZ (i6 ps) i (by rw[iJ];lia)]
    rw[show(0+(i:Int)*2+2)=((2*i+2:Nat):Int) by lia,show(0+(i:Int)*2)=((2*i:Nat):Int) by lia]
    unfold cutD;rw[HT.sIx_nat,HT.sIx_nat,Za,hE,Xn (by lia),Xn (by lia),show 2*i+2 - 2*i=2 by lia,Ch,Bg]
   refine⟨[.v (.int (0+(i:Int)*2)),.o (.lst (((i6 ps).flatMap fH).map eD))],[.v (.int (0+(i:Int)*2)),.o (.lst (((i6 ps).flatMap fH).map eD))],.d (jD (bK (fH ((i6 ps).getD i (i4,i4))))),[.v (.int (0+(i:Int)*2)),.o (.lst (((i6 ps).flatMap fH).map eD))],[.v (.int (0+(i:Int)*2)),.o (.lst (((i6 ps).flatMap fH).map eD))],rfl,rfl,?_,rfl,rfl⟩;exact aE (af (gL rfl rfl (HY (av rfl rfl rfl rfl rfl) rfl) rfl cut) rfl) rfl EA
  show cF _ _ _ 1 ((List.range (ps.length+1)).map fun(i:Nat)=>D.int (0+(i:Int)*2)) _=_;rw[this];have e2:=tf (i6 ps) (i4,i4) fun q=>jD (bK (fH q));rw[iJ]at e2;rw[e2];unfold lj;rw[Qc];rfl
 refine aI (o:=.rt (.d (.tup ((zP ps).map jD))) [.v (.tup (ps.map au)),.o (.lst (((i6 ps).flatMap fH).map eD)),s2]) rfl ?_ rfl;refine am (eG (i3 rfl rfl (by show 1<=1000000;decide)) rfl) ?_
 refine am (eQ (jb rfl rfl) e) ?_;refine am (s:=[.v (.tup (ps.map au)),.o (.lst (((i6 ps).flatMap fH).map eD)),s2]) (bE (fR rfl rfl rfl rfl rfl rfl rfl (cT ?_) ?_)) ?_
 ·have:=congrArg List.length eE;rw[Xa,Yi]at this;rw[Za];have h3:((i6 ps).flatMap fH).length=_:=hE;unfold i6 at h3;lia
 ·show [Sl.v (.tup (ps.map au)),.o (.lst ((i4::ps.flatMap (fun p=>[bN p,b8 p])).map eD++[eD zO])),s2]=_;rw[show(i4::ps.flatMap (fun p=>[bN p,b8 p])).map eD++[eD zO]=(i4::ps.flatMap (fun p=>[bN p,b8 p])++[zO]).map eD by rw[Qb];rfl,eE];rfl
 refine aL (a6 (af (a6 (af (bq (s1:=[.v (.tup (ps.map au)),.o (.lst (((i6 ps).flatMap fH).map eD)),s2]) (ds:=xi 0 2 (ps.length+1)) ?_ ?_ cm) rfl) rfl (jg (lj ps) (by unfold lj;rw[Za,iJ];lia) (fun j hj=>H9 hj) rfl)) rfl) rfl rfl)
 ·have len1:cV [.lst (((i6 ps).flatMap fH).map eD)]=some (.int ((2*(ps.length+1):Nat):Int),false):=by
   show some (D.int ((((i6 ps).flatMap fH).map eD).length:Nat),false)=_;rw[Za,hE]
  have:=KP (st:=[.v (.tup (ps.map au)),.o (.lst (((i6 ps).flatMap fH).map eD)),s2]) (fa:=aa (fC (.int 0)) (aa (bU cV (aa (aw 1) ae)) (aa (fC (.int 2)) ae))) (af rfl (af (a6 rfl rfl len1) rfl)) rfl r1;rw[r2]at this;exact this
 ·refine mI (n:=101) ?_ (by decide) rfl
  unfold xi;rw[Za,Vl];lia
def O6{ps:List Bd}(h:i<ps.length+1):(i4::ps.map b8)[i]?=some ((i6 ps).getD i (i4,i4)).1/\(ps.map bN++[zO])[i]?=some ((i6 ps).getD i (i4,i4)).2:=by
 have h1:i<(i6 ps).length:=by rw[iJ];exact h
 have h2:(i6 ps)[i]?=some ((i6 ps).getD i (i4,i4)):=by rw[Yc,Ya h1];rfl
 have h3:(i6 ps)[i]?=some (((i6 ps).getD i (i4,i4)).1,((i6 ps).getD i (i4,i4)).2):=h2;generalize (i6 ps).getD i (i4,i4)=q at h3;unfold i6 at h3;exact Dg.mp h3
def Ia{ps:List Bd}(hn:∀p∈ps,Nm p.2)(hl:ps.length<=30):eY [.tup (ps.map au)]=some (.tup ((zP ps).map jD),false):=by
 have cmE:=v7 hn;have cR:cF (gN 0) bA (aK bu (aw 0) (fC (.int 1))) 1 (ps.map bx) [.e]=some ((ps.map b8).map eD,[.e]):=by
  have:=a9 (fg:=gN 0) (fc:=bA) (fe:=aK bu (aw 0) (fC (.int 1))) (k:=1) bx (fun p=>eD (b8 p)) [.e] ps fun p _=>⟨[.v (bx p)],[.v (bx p)],.d (eD (b8 p)),[.v (bx p)],[.v (bx p)],rfl,rfl,rfl,rfl,rfl⟩;rw[this,Qc];rfl
 have cL:cF (gN 0) bA (aK bu (aw 0) (fC (.int 0))) 1 (ps.map bx) [.e]=some ((ps.map bN).map eD,[.e]):=by
  have:=a9 (fg:=gN 0) (fc:=bA) (fe:=aK bu (aw 0) (fC (.int 0))) (k:=1) bx (fun p=>eD (bN p)) [.e] ps fun p _=>⟨[.v (bx p)],[.v (bx p)],.d (eD (bN p)),[.v (bx p)],[.v (bx p)],rfl,rfl,rfl,rfl,rfl⟩;rw[this,Qc];rfl
 have fewE:∀n,n=ps.length->(true&&decide ((ps.map bx).length<=1000000))=true:=fun _ _=>mI (n:=30) (by rw[Za];exact hl) (by decide) rfl
 generalize hR:(i4::ps.map b8).map eD=R;generalize hL:(ps.map bN++[zO]).map eD=L;have lenL:L.length=ps.length+1:=by rw[<-hL,Za,Xa,Za];rfl
 have cm:cF (gN 0) bA (bU aU (aa (bU cQ (aa (cy (aa (aK bu (aw 1) (aw 0)) (aa (aK bu (aw 2) (aw 0)) ae))) ae)) ae)) 1 (rng 0 (ps.length+1)) [.e,.o (.lst R),.o (.lst L)]=some ((lj ps).map jD,[.e,.o (.lst R),.o (.lst L)]):=by
  have e0:rng 0 (ps.length+1)=(List.range (ps.length+1)).map fun t:Nat=>D.int (t:Int):=by
   unfold rng;exact Ye fun t _=>by rw[CN]
  have:=a9 (fg:=gN 0) (fc:=bA) (fe:=bU aU (aa (bU cQ (aa (cy (aa (aK bu (aw 1) (aw 0)) (aa (aK bu (aw 2) (aw 0)) ae))) ae)) ae)) (k:=1) (fun t:Nat=>D.int (t:Int)) (fun i=>jD (bK (fH ((i6 ps).getD i (i4,i4))))) [.e,.o (.lst R),.o (.lst L)] (List.range (ps.length+1)) fun i hi=>by
   obtain⟨a1,a2⟩:=O6 (ps:=ps) (Vi.mp hi);generalize (i6 ps).getD i (i4,i4)=q at a1 a2 ⊢;have i1:bu (.lst R) (.int (i:Int))=some (eD q.1,false):=hR ▸ fF (hY a1);have i2:bu (.lst L) (.int (i:Int))=some (eD q.2,false):=hL ▸ fF (hY a2);have ej:=gE (d:=.lst [eD q.1,eD q.2]) [q.1,q.2] (by simp) rfl
   refine⟨[.v (.int (i:Int)),.o (.lst R),.o (.lst L)],[.v (.int (i:Int)),.o (.lst R),.o (.lst L)],.d (jD (bK (fH q))),[.v (.int (i:Int)),.o (.lst R),.o (.lst L)],[.v (.int (i:Int)),.o (.lst R),.o (.lst L)],rfl,rfl,?_,rfl,rfl⟩;exact a6 (af (a6 (af (i3 (af (av rfl rfl rfl rfl i1) (af (av rfl rfl rfl rfl i2) rfl)) rfl (by show 2<=1000000;decide)) rfl) rfl ej) rfl) rfl rfl
  rw[e0,this];have e2:=tf (i6 ps) (i4,i4) fun q=>jD (bK (fH q));rw[iJ]at e2;rw[e2];unfold lj;rw[Qc];rfl
 have addR:bR (.lst [eD i4]) (.lst ((ps.map b8).map eD))=some (.lst R,true):=by
  rw[lH (by rw[Za,Za];show 1+_<=_;lia),<-hR];rfl
 have addL:bR (.lst ((ps.map bN).map eD)) (.lst [eD zO])=some (.lst L,true):=by
  rw[lH (by rw[Za,Za];show _+1<=_;lia),<-hL,Qb];rfl
 refine aI (o:=.rt (.d (.tup ((zP ps).map jD))) [.v (.tup (ps.map au)),.v (.lst (ps.map bx)),.o (.lst R),.o (.lst L)]) rfl ?_ rfl;refine am (eG (bq (jb rfl rfl) (mI (n:=30) (by rw[Za];exact hl) (by decide) rfl) cmE) rfl) ?_
 refine am (eG (av (i3 (af (bH rfl rfl (by show 2<=1000000;decide)) rfl) rfl (by show 1<=1000000;decide)) (bq (m6 rfl rfl) (fewE _ rfl) cR) rfl rfl addR) rfl) ?_
 refine am (eG (av (bq (m6 rfl rfl) (fewE _ rfl) cL) (i3 (af (bH rfl rfl (by show 2<=1000000;decide)) rfl) rfl (by show 1<=1000000;decide)) rfl rfl addL) rfl) ?_
 refine aL (a6 (af (a6 (af (bq (s1:=[.v (.tup (ps.map au)),.v (.lst (ps.map bx)),.o (.lst R),.o (.lst L)]) (ds:=rng 0 (ps.length+1)) ?_ ?_ cm) rfl) rfl (jg (lj ps) (by unfold lj;rw[Za,iJ];lia) (fun j hj=>H9 hj) rfl)) rfl) rfl rfl)
 ·have len1:cV [.lst L]=some (.int ((ps.length+1:Nat):Int),false):=by
   show some (D.int (L.length:Nat),false)=_;rw[lenL]
  have:=gx (st:=[.v (.tup (ps.map au)),.v (.lst (ps.map bx)),.o (.lst R),.o (.lst L)]) (fa:=aa (bU cV (aa (aw 3) ae)) ae) (j:=((ps.length+1:Nat):Int)) (af (a6 rfl rfl len1) rfl) rfl ⟨by lia,by lia⟩
  rw[Wl]at this;exact this
 ·refine mI (n:=101) ?_ (by decide) rfl
  rw[gw];lia
end
end K12
namespace K12R
open L2 VF VF22 VT K12
def jY(x:Str):x.length=x.cps.toList.length:=by simp[Str.length]
def Sb:("\n":Str)=⟨#[10]⟩:=by rfl
def Sc:(" ":Str)=⟨#[32]⟩:=by rfl
def tx(l:List Nat):Str:=⟨l.toArray⟩
def re(x:Str):tx x.cps.toList=x:=by cases x;rfl
theorem xK{f:Nat->List Nat}(n:Nat)(h:∀k,(f k).length<=n):∀l:List Nat,(l.flatMap f).length<=n*l.length
 |[]=>by simp
 | k::r=>by
  rw[Xb,Xa,Vc,Nat.mul_succ];have:=xK n h r;have:=h k;lia
def O7{x ms:Str}(h1:32∉ms.cps.toList)(h2:10∉ms.cps.toList)(hn:ms.cps.toList.Nodup)(hl:ms.cps.toList.length<=4)(hx:x.cps.toList.length<=10000) :
  jM [.str x,.str ms]=some (.lst ((wt ms.cps.toList [] x.cps.toList).map fun l=>D.str (tx l)),true):=by
 have e1:(Txt.replace x "\n" " ").cps.toList=x.cps.toList.flatMap (rp 10 [32]):=by rw[Sb,qJ];rfl
 have l1:(Txt.replace x "\n" " ").cps.toList.length<=10000:=by
  rw[e1];exact Xd (xK 1 (fun k=>by unfold rp;split<;>simp) _) (by lia)
 have p4:3 ^ ms.cps.toList.length<=81:=Xd (Nat.pow_le_pow_right (by decide) hl) (by decide)
 have l2:3 ^ ms.cps.toList.length*(Txt.replace x "\n" " ").cps.toList.length<=1048576:=Xd (Nat.mul_le_mul p4 l1) (by decide)
 have rk:=vV ms.cps.toList (Txt.replace x "\n" " ") l2;have e2:=qK ms.cps.toList (Txt.replace x "\n" " ") h1 hn;rw[e1,Rb h1 h2]at e2;generalize hy:db " " " " ms.cps.toList (Txt.replace x "\n" " ")=y at e2;have l3:y.length<=100000:=by
  rw[jY,e2];exact Xd (xK 3 (fun k=>by unfold ft;by_cases a:k=10<;>by_cases b:k∈ms.cps.toList<;>simp[a,b]) _) (by lia)
 have l4:(Txt.split y " ").length<=1000000:=by
  unfold Txt.split;split
  ·simp
  ·split
   ·simp
   ·rw[length_partsBetween];have:=StrLaws.occ_length_le y " " 0 y.length (y.length+1);lia
 have hs:xl (.str y) [.str " "]=some (.lst ((Txt.split y " ").map D.str),true):=if_pos ⟨rfl,l3⟩;have hw:((Txt.split y " ").filter fun p=>!p.cps.toList.isEmpty).map D.str=(wt ms.cps.toList [] x.cps.toList).map fun l=>D.str (tx l):=by
  have e:=Hc y;rw[e2]at e;show _=(wd [] (x.cps.toList.flatMap (ft ms.cps.toList))).map _;rw[<-e,Sc,List.filter_map,Qc];refine Ye fun p _=>?_;show D.str p=D.str (tx p.cps.toList);rw[re]
 refine aI rfl (o:=.rt (.f (.lst ((wt ms.cps.toList [] x.cps.toList).map fun l=>D.str (tx l)))) [.v (.str x),.v (.str ms),.v (.str y),.e]) ?_ rfl;show jL [.v (.str x),.v (.str ms),.e,.e]=_;refine am (cf (kF (c:=true) rfl) rfl) ?_;refine am (cz (s:=[.v (.str x),.v (.str ms),.e,.e]) (x:=.str (Txt.replace x "\n" " ")) ?_ rfl) ?_
 ·show(if x.length<=1048576/\Str.length " "<=14 then _ else _)=_;rw[if_pos ⟨by rw[jY];lia,by decide +kernel⟩]
 refine am (s:=[.v (.str x),.v (.str ms),.v (.str y),.e]) ?_ ?_
 ·show(if lN " " " " ms.cps.toList (Txt.replace x "\n" " ")=true then some (Ot.nx [.v (.str x),.v (.str ms),.v (.str (db " " " " ms.cps.toList (Txt.replace x "\n" " "))),.e]) else none)=_;rw[if_pos rk,hy]
 refine aL (bq (m6 (vE rfl rfl rfl (af rfl rfl) rfl rfl hs) rfl) (by rw[Za];exact Wf _ _ |>.mpr ⟨rfl,Af l4⟩) (s2:=[.e]) ?_)
 rw[<-hw];refine l5 (fg:=gN 0) (fc:=jJ) (fe:=jK) (k:=1) D.str D.str (fun p=>!p.cps.toList.isEmpty) [.e] (Txt.split y " ") fun p _=>⟨[.v (.str p)],[.v (.str p)],rfl,?_,fun _=>rfl,fun _=>⟨.d (.str p),[.v (.str p)],[.v (.str p)],rfl,rfl,rfl⟩⟩;refine fU (aF (r:=.d (.bl (!decide (V.str p=V.str "")))) (av rfl rfl rfl rfl rfl) rfl) ?_;show(!decide (V.str p=V.str ""))=!p.cps.toList.isEmpty;congr 1;rw[Zg,decide_eq_true_eq,List.isEmpty_iff];constructor
 ·intro e;cases e;rfl
 ·intro e;have:p="":=by rw[<-re p,e];rfl
  rw[this]
end K12R
namespace K12R
open L2 VF VL VF22 K12
def Ib(h:Nm p.2):om [au p]=some (.bl true,false):=by
 refine aI (o:=.rt (.d (.bl true)) [.v (au p)]) rfl ?_ rfl;exact aL (qy (r:=.d (.bl true)) rfl rfl (aM (af (aM rfl rfl (dP h) rfl) rfl) rfl (Hy h) rfl))
def xL{ps:List (Bool×Str)}(h:∀p∈ps,Nm p.2)(hl:ps.length<=1000):mn [.lst (ps.map au)]=some (.tup (ps.map au),false):=by
 have hc:bQ 1 [] (ig (aw 0)) (gN 0) bA jN [.v (.lst (ps.map au))]=some (.f (.lst (ps.map fun _=>D.bl true)),[.v (.lst (ps.map au))]):=by
  refine bq (s1:=[.v (.lst (ps.map au))]) (ds:=ps.map au) (s2:=[.e]) rfl (by rw[Za,Af (by lia:ps.length<=1000000)];rfl) ?_
  exact a9 au (fun _=>D.bl true) [.e] ps fun p hp=>⟨[.v (au p)],[.v (au p)],.d (.bl true),[.v (au p)],[.v (au p)],rfl,rfl,aM rfl rfl (Ib (h p hp)) rfl,rfl,rfl⟩
 refine aI (o:=.rt (.d (.tup (ps.map au))) [.v (.lst (ps.map au))]) rfl ?_ rfl;refine am (cf (kF (c:=true) (aF (a6 (af hc rfl) rfl (Hw (fun _=>true) ps)) ?_)) rfl) (aL (a6 rfl rfl (kX _)));show some (ps.all fun _=>true)=_;simp
def sn(ps:List (Bool×Str)):List (Key×D):=ps.map fun p=>(Sum.inr p.2,D.bl true)
def KR{ps:List (Bool×Str)}(h:n∉ps.map (·.2)):jc (sn ps) (Sum.inr n)=none:=by
 unfold jc sn;rw[Option.map_eq_none_iff,List.find?_eq_none];intro x hx;obtain⟨p,hp,rfl⟩:=Wb.mp hx;simp only[decide_eq_true_eq];intro e;exact h (Wb.mpr ⟨p,hp,Sum.inr.inj e⟩)
def O8{ps:List (Bool×Str)}(h:p.2∉ps.map (·.2)):pw (sn ps) (Sum.inr p.2) (.bl true)=sn (ps++[p]):=by
 unfold pw;rw[Ah]
 ·unfold sn;rw[Qb];rfl
 ·rw[CZ];rintro⟨x,hx,e⟩;unfold sn at hx;obtain⟨q,hq,rfl⟩:=Wb.mp hx;exact h (Wb.mpr ⟨q,hq,Sum.inr.inj (Ai e)⟩)
def Ic{ps:List (Bool×Str)}(hb:jB [t]=some (.lst (ps.map au),true))(hn:∀p∈ps,Nm p.2)(hl:ps.length<=300)(h:(ps.map (·.2)).Nodup):g6 [t]=some (.non,false):=by
 have step:∀(gone:List (Bool×Str))(p:Bool×Str)(o3:Sl),o3.isIo=false->Nm p.2->gone.length<=300->p.2∉gone.map (·.2)->dN [.v t,.o (.dk (sn gone)),.v (au p),o3]=some (.nx [.v t,.o (.dk (sn (gone++[p]))),.v (au p),.v (.str p.2)]):=fun gone p o3 q hp hg hm=>by
  refine am (cz (x:=.str p.2) (aM rfl rfl (dP (t:=p.1) hp) rfl) (bc rfl q)) ?_;refine am (cf (aF (r:=.d (.bl false)) (av (z:=(.bl false,false)) rfl rfl rfl rfl ?_) rfl) rfl) ?_
  ·show(some (jc (sn gone) (Sum.inr p.2))).bind _=_;rw[KR hm];rfl
  ·refine mG (z':=.dk (sn (gone++[p]))) rfl rfl rfl rfl rfl rfl rfl rfl ?_;show(if (sn gone).length<100000 then some (D.dk (pw (sn gone) (Sum.inr p.2) (.bl true))) else none)=_;rw[if_pos (by unfold sn;rw[Za];lia),O8 hm]
 obtain⟨sf,e,o2,o3,rfl,_,_⟩:=dA (fg:=gN 2) (B:=dN) au ps (fun gone s=>∃(o2 o3:Sl),s=[.v t,.o (.dk (sn gone)),o2,o3]/\o2.isIo=false/\o3.isIo=false)
  (by
   rintro gone x rest s ha ⟨o2,o3,rfl,q2,q3⟩;have hx:x∈ps:=by rw[ha];simp
   have hg:=congrArg List.length ha;rw[Xa]at hg;have nd:=h;rw[ha,Qb,Qd]at nd;have hm:x.2∉gone.map (·.2):=fun m=>(Qg.mp nd).2.2 _ m _ (Va ..) rfl
   exact⟨_,_,bc rfl q2,step gone x o3 q3 (hn x hx) (by lia) hm,.v (au x),.v (.str x.2),rfl,rfl,rfl⟩)
  ps [] [.v t,.o (.dk (sn [])),.e,.e] rfl ⟨.e,.e,rfl,rfl,rfl⟩
 refine aI (o:=.nx [.v t,.o (.dk (sn ps)),o2,o3]) rfl ?_ rfl;exact am (eG rfl rfl) (eQ (m6 (aE rfl rfl hb) rfl) e)
end K12R
namespace VF22
open L2 VF
def KS(h:fe st=some (r,s))(h1:cont s r=some (.str a))(h2:(if neg then !(fS rows a).isSome else(fS rows a).isSome)=b):zj neg rows fe st=some (.d (.bl b),s):=by
 simp only[zj,h,h1,Yb,h2]
def Id(h:fe st=some (r,s))(h1:cont s r=some (.str a))(h2:fS rows a=some c):G6 rows fe st=some (.d (.str c),s):=by
 simp only[G6,h,h1,Yb,h2]
end VF22
namespace K12R
open L2 VF VL VF22 K12
def rf(r:Bool):Str:=if r then "(" else "["
def cls(r:Bool):Str:=if r then ")" else "]"
def tk(s:ar):List D:=.str (rf s.1)::(s.2.map au++[.str (cls s.1)])
def Sd(n:Nat):HT.sIx (n+2) 0 (some 1)=1:=by simp[HT.sIx]
def Se(n:Nat):HT.sIx (n+2) (n+2) (some (-1))=n+1:=by simp[HT.sIx];lia
def cut_mid(xs:List D):cutD (a::(xs++[b])) (some 1) (some (-1))=xs:=by
 unfold cutD;have hl:(a::(xs++[b])).length=xs.length+2:=by simp
 rw[hl,Sd,Se];show(xs++[b]).take (xs.length+1-1)=xs;rw[Nat.add_sub_cancel,List.take_append_of_le_length (Qa _),CW]
def at_0(xs:List D):ki (a::xs) 0=some a:=by
 simp[ki,DN]
def Tr(xs:List D):ki (a::(xs++[b])) (-1)=some b:=by
 have hl:(a::(xs++[b])).length=xs.length+2:=by simp
 have h:DN (xs.length+2) (-1)=some (xs.length+1):=by
  unfold DN;simp;lia
 unfold ki;rw[hl,h];show(a::(xs++[b]))[xs.length+1]?=some b;rw[List.getElem?_cons_succ,Vf (Qa _),BQ];rfl
def tj(r:Bool):fS [("[","open"),("(","ring")] (rf r)=some (kd r):=by cases r<;>decide +kernel
def xM(r:Bool):fS [("[","]"),("(",")")] (rf r)=some (cls r):=by cases r<;>decide +kernel
def Ie(a:Str):vt (.str a) (.str a)=some (.bl false,false):=by
 show some (D.bl (!decide (V.str a=V.str a)),false)=_;rw[Af rfl];rfl
def EB(h:∀p∈s.2,Nm p.2)(hn:s.2≠[])(hl:s.2.length<=1000):iX [.lst (tk s)]=some (aS s,false):=by
 have i0:bu (.lst (tk s)) (.int 0)=some (.str (rf s.1),false):=fF (at_0 _);have im:bu (.lst (tk s)) (.int (-1))=some (.str (cls s.1),false):=fF (Tr _);have sl:jh (.lst (tk s)) (some 1) (some (-1))=some (.lst (s.2.map au),true):=by
  show some (D.lst (cutD (tk s) (some 1) (some (-1))),true)=_;unfold tk;rw[cut_mid]
 have e0:∀o:Sl,aK bu (aw 0) (fC (.int 0)) [.v (.lst (tk s)),o]=some (.d (.str (rf s.1)),[.v (.lst (tk s)),o]):=fun o=>av rfl rfl rfl rfl i0;have e1:∀o:Sl,aK bu (aw 0) (wV tW (fC (.int 1))) [.v (.lst (tk s)),o]=some (.d (.str (cls s.1)),[.v (.lst (tk s)),o]):=fun o=>av rfl rfl rfl rfl im;refine aI (o:=.rt (.d (aS s)) [.v (.lst (tk s)),.v (.tup (s.2.map au))]) rfl ?_ rfl;refine am (cz (x:=.tup (s.2.map au)) (aE (af (gL rfl rfl rfl rfl sl rfl) rfl) rfl (xL h hl)) rfl) ?_;refine am (cf (s:=[.v (.lst (tk s)),.v (.tup (s.2.map au))]) (JM (aF (KS (b:=false) (e0 _) rfl (by rw[tj];rfl)) rfl) (JM (aF (av (e1 _) (Id (e0 _) rfl (xM s.1)) rfl rfl (Ie _)) rfl) ?_)) rfl) ?_
 ·refine fU (b:=decide (V.int ((s.2.map au).length:Int)=V.int 0)) (aF (av (a6 rfl rfl rfl) rfl rfl rfl rfl) rfl) (Ad fun z=>?_);have z':((s.2.map au).length:Int)=0:=by injection z
  rw[Za]at z';exact hn (Xf (by lia))
 ·exact aL (bH (af (Id (e0 _) rfl (tj s.1)) (af rfl rfl)) rfl (by show 2<=1000000;decide))
def Sf(x a b:Str):IT (.str x) (.tup [.str a,.str b])=some (.bl (decide (x=a)||decide (x=b)),false):=by
 have e1:Jv false (.str x) (.tup [.str a,.str b])=none:=rfl;have e2:Jw false (.str x) (.tup [.str a,.str b])=some (.bl (decide (x=a)||decide (x=b)),false):=by
  show some (D.bl (Jc (.str x) [V.str a,V.str b]),false)=_;congr 3;show((a == x)||((b == x)||false))=_;have q:∀a:Str,(a == x)=decide (x=a):=fun a=>by
   by_cases e:a=x
   ·subst e;simp
   ·have e':¬ x=a:=fun z=>e z.symm;simp[e,e']
  rw[Bool.or_false,q,q]
 unfold IT n4;rw[e1];exact e2
def O9(xs:List D):vt (.lst xs) (.lst [])=some (.bl (!xs.isEmpty),false):=rfl
def zR{W:D}{G g:List D}{x:Str}{o:Sl}(hx:x≠"]"/\x≠")")(hg:g.length<=10000) :
  bi [.v W,.o (.lst G),.o (.lst g),.v (.str x)]=some (.nx [.v W,.o (.lst G),.o (.lst (g++[.str x])),.v (.str x)]):=by
 refine am (bE (fR rfl rfl rfl rfl rfl rfl rfl (cT (by lia)))) ?_
 refine cf (fU (aF (av rfl (bH rfl rfl (by show 2<=1000000;decide)) rfl rfl (Sf _ _ _)) rfl) ?_) rfl
 rw[Ad hx.1,Ad hx.2];rfl
def Ig{x:Str}{G g:List D}(hx:x="]"\/x=")")(hg:g.length<=10000)(hG:G.length<=10000) :
  bi [.v W,.o (.lst G),.o (.lst g),.v (.str x)]=some (.nx [.v W,.o (.lst (G++[.lst (g++[.str x])])),.o (.lst []),.v (.str x)]):=by
 refine am (bE (fR rfl rfl rfl rfl rfl rfl rfl (cT (by lia)))) ?_
 refine eO (fU (aF (av rfl (bH rfl rfl (by show 2<=1000000;decide)) rfl rfl (Sf _ _ _)) rfl) ?_) ?_
 ·rcases hx with rfl|rfl<;>decide +kernel
 ·exact am (bE (fR rfl rfl rfl rfl rfl rfl rfl (cT (by lia)))) rfl
theorem rj(h:Nm p.2):∀k∈(bd p).cps.toList,k=45\/(97<=k/\k<=122):=by
 obtain⟨t,n⟩:=p;intro k hk;cases t with
 |false=>exact .inr (h.2.2 k hk)
 |true=>
  have e:(bd (true,n)).cps.toList=45::n.cps.toList:=by
   show(minus++n).cps.toList=_;rw[AA,Yj];rfl
  rw[e]at hk;rcases Wd.mp hk with e|hk
  ·exact .inl e
  ·exact .inr (h.2.2 k hk)
def Mv(h:Nm p.2):(bd p).cps.toList≠[]:=fun e=>by
 have:=(jy h).1;rw[jY,e]at this;exact absurd this (by simp)
def Sh(h:Nm p.2):bd p≠"]"/\bd p≠")":=by
 refine⟨fun e=>?_,fun e=>?_⟩
 ·have:=rj h 93 (by rw[e];decide +kernel)
  lia
 ·have:=rj h 41 (by rw[e];decide +kernel)
  lia
theorem wg:∀(ps:List (Bool×Str))(g rest:List D)(o:Sl),o.isIo=false->(∀p∈ps,Nm p.2)->g.length+ps.length<=10000->
  ∃o':Sl,o'.isIo=false/\cN (gN 3) bi (ps.map au++rest) [.v W,.o (.lst G),.o (.lst g),o]=cN (gN 3) bi rest [.v W,.o (.lst G),.o (.lst (g++ps.map au)),o']
 |[],g,rest,o,q,_,_=>⟨o,q,by simp⟩
 | p::ps,g,rest,o,q,hn,hl=>by
  rw[Vc]at hl;obtain⟨o',q',e⟩:=wg (W:=W) (G:=G) ps (g++[au p]) rest (.v (au p)) rfl (fun x hx=>hn x (Wa _ hx)) (by rw[Xa,Yi];lia)
  refine⟨o',q',?_⟩;have e1:gN 3 (au p) [.v W,.o (.lst G),.o (.lst g),o]=some [.v W,.o (.lst G),.o (.lst g),.v (au p)]:=bc rfl q;have e2:=zR (W:=W) (G:=G) (g:=g) (x:=bd p) (o:=o) (Sh (hn p (Va ..))) (by lia)
  rw[Zc]at e;rw[Qd,Zk];simp only[cN,e1,Yb];rw[show bi [.v W,.o (.lst G),.o (.lst g),.v (au p)]=_ from e2];exact e
def EC{W:D}{G:List D}{s:ar}{rest:List D}{o:Sl}(q:o.isIo=false)(hn:∀p∈s.2,Nm p.2)(hl:s.2.length<=1000)(hG:G.length<=1000) :
  ∃o':Sl,o'.isIo=false/\cN (gN 3) bi (tk s++rest) [.v W,.o (.lst G),.o (.lst []),o]=cN (gN 3) bi rest [.v W,.o (.lst (G++[.lst (tk s)])),.o (.lst []),o']:=by
 have e1:gN 3 (.str (rf s.1)) [.v W,.o (.lst G),.o (.lst []),o]=some [.v W,.o (.lst G),.o (.lst []),.v (.str (rf s.1))]:=bc rfl q;have e2:=zR (W:=W) (G:=G) (g:=[]) (x:=rf s.1) (o:=o) (by cases s.1<;>decide +kernel) (by simp)
 obtain⟨o1,q1,e3⟩:=wg (W:=W) (G:=G) s.2 [.str (rf s.1)] (.str (cls s.1)::rest) (.v (.str (rf s.1))) rfl hn (by simp;lia)
 have e4:gN 3 (.str (cls s.1)) [.v W,.o (.lst G),.o (.lst ([.str (rf s.1)]++s.2.map au)),o1]=some [.v W,.o (.lst G),.o (.lst ([.str (rf s.1)]++s.2.map au)),.v (.str (cls s.1))]:=bc rfl q1;have e5:=Ig (W:=W) (G:=G) (g:=[.str (rf s.1)]++s.2.map au) (x:=cls s.1) (by cases s.1<;>first|exact .inl rfl|exact .inr rfl) (by simp;lia) (by lia)
 refine⟨.v (.str (cls s.1)),rfl,?_⟩;have et:tk s++rest=.str (rf s.1)::(s.2.map au++(.str (cls s.1)::rest)):=by simp[tk]
 rw[et];simp only[cN,e1,Yb];rw[e2];show cN _ _ _ [.v W,.o (.lst G),.o (.lst [.str (rf s.1)]),.v (.str (rf s.1))]=_;rw[e3];simp only[cN,e4,Yb];rw[e5];rfl
theorem Ih{W:D}:∀(ss:List ar)(G:List D)(o:Sl),o.isIo=false->(∀s∈ss,(∀p∈s.2,Nm p.2)/\s.2.length<=1000)->G.length+ss.length<=1000->
  ∃o':Sl,cN (gN 3) bi (ss.flatMap tk) [.v W,.o (.lst G),.o (.lst []),o]=some (.nx [.v W,.o (.lst (G++ss.map fun s=>.lst (tk s))),.o (.lst []),o'])
 |[],G,o,_,_,_=>⟨o,by simp[cN]⟩
 | s::ss,G,o,q,hn,hl=>by
  rw[Vc]at hl;obtain⟨h1,h2⟩:=hn s (Va ..);obtain⟨o1,q1,e1⟩:=EC (W:=W) (G:=G) (rest:=ss.flatMap tk) q h1 h2 (by lia)
  obtain⟨o2,e2⟩:=Ih (W:=W) ss (G++[.lst (tk s)]) o1 q1 (fun x hx=>hn x (Wa _ hx)) (by rw[Xa,Yi];lia)
  refine⟨o2,?_⟩;rw[Xb,e1,e2,Zc];rfl
def Si{ss:List ar}(hn:∀s∈ss,(∀p∈s.2,Nm p.2)/\s.2.length<=1000)(hl:ss.length<=1000):eW [.lst (ss.flatMap tk)]=some (.lst (ss.map fun s=>.lst (tk s)),true):=by
 obtain⟨o',e⟩:=Ih (W:=.lst (ss.flatMap tk)) ss [] .e rfl hn (by simpa using hl)
 refine aI (o:=.rt (.s 1) [.v (.lst (ss.flatMap tk)),.o (.lst (ss.map fun s=>.lst (tk s))),.o (.lst []),o']) rfl ?_ rfl;refine am rfl (am rfl (am (eQ (m6 rfl rfl) e) (am (cf (aF (av rfl rfl rfl rfl (O9 _)) rfl) rfl) rfl)))
end K12R
namespace K12R
open L2 VF VL VF22 VT K12
structure GS(ss:List ar):Prop where
 nm:∀s∈ss,∀p∈s.2,Nm p.2
 ne:∀s∈ss,s.2≠[]
 nd:((ss.flatMap (·.2)).map (·.2)).Nodup
 l1:(ss.flatMap (·.2)).length<=300
 l2:ss.length<=300
def GS.len(h:GS ss):∀s∈ss,s.2.length<=1000:=fun s hs=>by
 have h1:s.2.length<=(ss.flatMap (·.2)).length:=by
  obtain⟨a,b,rfl⟩:=Xk hs;rw[Yf,Xb,Xa,Xa];lia
 have:=h.l1;lia
abbrev mS:List Nat:=[91,93,40,41]
def wj:("[]()":Str).cps.toList=mS:=by decide +kernel
def xN{x:Str}{ss:List ar}(g:GS ss)(hx:x.cps.toList.length<=10000)(hw:((wt mS [] x.cps.toList).map fun l=>D.str (tx l))=ss.flatMap tk):jP [.str x]=some (.tup (ss.map aS),false):=by
 have e1:=O7 (x:=x) (ms:="[]()") (by rw[wj];decide) (by rw[wj];decide) (by rw[wj];decide) (by rw[wj];decide) hx
 rw[wj,hw]at e1;have e2:=Si (ss:=ss) (fun s hs=>⟨g.nm s hs,g.len s hs⟩) (by have:=g.l2;lia)
 have e3:=Ic (Ew g.l1 g.l2) (fun p hp=>by obtain⟨s,hs,hp⟩:=Yg.mp hp;exact g.nm s hs p hp) g.l1 g.nd
 have hc:bQ 1 [] (ig (aO eW (aa (aO jM (aa (aw 0) (aa (fC (.str "[]()")) ae))) ae))) (gN 0) bA jO [.v (.str x),.e]=some (.f (.lst (ss.map aS)),[.v (.str x),.e]):=by
  refine bq (s1:=[.v (.str x),.e]) (ds:=ss.map fun s=>.lst (tk s)) (s2:=[.e]) (m6 (aE (af (aE rfl rfl e1) rfl) rfl e2) rfl) (by rw[Za,Af (by have:=g.l2;lia:ss.length<=1000000)];rfl) ?_
  exact a9 (fun s=>.lst (tk s)) aS [.e] ss fun s hs=>⟨[.v (.lst (tk s))],[.v (.lst (tk s))],.d (aS s),[.v (.lst (tk s))],[.v (.lst (tk s))],rfl,rfl,aE rfl rfl (EB (g.nm s hs) (g.ne s hs) (g.len s hs)),rfl,rfl⟩
 refine aI (o:=.rt (.d (.tup (ss.map aS))) [.v (.str x),.v (.tup (ss.map aS))]) rfl ?_ rfl;exact am (cz (a6 (af hc rfl) rfl (kX _)) rfl) (am (bE (aE rfl rfl e3)) rfl)
end K12R
namespace VT
open PySem.Spec PyProof.Rows L2 VF
def Rdy(ms x:List Nat)(done:List (List Nat))(w:Bool):Prop:=∃pre acc,(∀rest,wt ms [] (x++rest)=pre++wt ms acc rest)/\pre++em acc=done/\(w=false->acc=[])
def KU(ms:List Nat):Rdy ms [] [] false:=⟨[],[],fun _=>rfl,rfl,fun _=>rfl⟩
def zS(h:Rdy ms x done w)(hb:32∉ms)(hg:∀k∈g,SX k)(hn:g=[]->w=false):Rdy ms (x++g) done false:=by
 obtain⟨pre,acc,h1,h2,h3⟩:=h;by_cases e:g=[]
 ·subst e;rw[Ze];exact⟨pre,acc,h1,h2,fun _=>h3 (hn rfl)⟩
 ·refine⟨done,[],fun rest=>?_,by rw[uk,Ze],fun _=>rfl⟩
  rw[Zc,h1,Kj hb hg e,<-Zc,h2]
def wl(h:Rdy ms x done w)(hb:32∉ms)(hb2:10∉ms)(hc:c∈ms):Rdy ms (x++[c]) (done++[[c]]) false:=by
 obtain⟨pre,acc,h1,h2,h3⟩:=h;refine⟨done++[[c]],[],fun rest=>?_,by rw[uk,Ze],fun _=>rfl⟩
 rw[Zc,h1];show pre++wt ms acc (c::rest)=_;rw[Kk hc hb hb2,<-Zc,h2,Zc];rfl
def wm(h:Rdy ms x done false)(hu:∀k∈u,Ti ms k)(hn:u≠[]):Rdy ms (x++u) (done++[u]) true:=by
 obtain⟨pre,acc,h1,h2,h3⟩:=h;obtain rfl:=h3 rfl;rw[uk,Ze]at h2;subst h2;refine⟨pre,u,fun rest=>?_,by rw[em,Ah hn],fun z=>nomatch z⟩
 rw[Zc,h1,zq hu,Wk]
def KW(h:Rdy ms x done w):wt ms [] x=done:=by
 obtain⟨pre,acc,h1,h2,h3⟩:=h;have:=h1 [];rw[Ze]at this;rw[this,Oz,h2]
def Rdy.to_true(h:Rdy ms x done w):Rdy ms x done true:=by
 obtain⟨pre,acc,h1,h2,h3⟩:=h;exact⟨pre,acc,h1,h2,fun z=>nomatch z⟩
end VT
namespace K12R
open L2 VF VL VF22 VT K12
abbrev Ts:=Nat ⊕ (Bool×Str)
def tS:Ts->Str|.inl c=>⟨#[c]⟩|.inr p=>bd p
def MOk(ms:List Nat):Prop:=ms=mS\/ms=[124]
def MOk.b(h:MOk ms):32∉ms/\10∉ms:=by rcases h with rfl|rfl<;>decide
def MOk.w(h:MOk ms)(hp:Nm p.2):∀k∈(bd p).cps.toList,Ti ms k:=fun k hk=>by
 have:=rj hp k hk;rcases h with rfl|rfl
 ·refine⟨by lia,by lia,?_⟩
  simp only[Wd,BM,or_false];lia
 ·refine⟨by lia,by lia,?_⟩
  simp only[Wd,BM,or_false];lia
def Pa(r:Bool):Nat:=if r then 40 else 91
def Pb(r:Bool):Nat:=if r then 41 else 93
def KY(s:ar):List Ts:=.inl (Pa s.1)::(s.2.map .inr++[.inl (Pb s.1)])
def Pc(r:Bool):(⟨#[Pa r]⟩:Str)=rf r:=by cases r<;>decide +kernel
def Pd(r:Bool):(⟨#[Pb r]⟩:Str)=cls r:=by cases r<;>decide +kernel
def Sj(s:ar):(KY s).map (fun t=>D.str (tS t))=tk s:=by
 unfold KY tk;rw[Qd,Qb,Qc,List.map_singleton];show D.str ⟨#[Pa s.1]⟩::(_++[D.str ⟨#[Pb s.1]⟩])=_;rw[Pc,Pd];rfl
def KZ(ss:List ar):(ss.flatMap KY).map (fun t=>D.str (tS t))=ss.flatMap tk:=by
 rw[AO];exact kI fun s _=>Sj s
def Tt{ts:List Ts}(h:wt ms [] x=ts.map fun t=>(tS t).cps.toList):((wt ms [] x).map fun l=>D.str (tx l))=ts.map fun t=>D.str (tS t):=by
 rw[h,Qc];refine Ye fun t _=>?_;show D.str (tx (tS t).cps.toList)=_;rw[re]
def fj(a b:Str):(a++b).cps.toList=a.cps.toList++b.cps.toList:=by rw[AA,Yj]
def str_ext{a b:Str}(h:a.cps.toList=b.cps.toList):a=b:=by rw[<-re a,<-re b,h]
def empty_app(a:Str):Str.empty++a=a:=str_ext (by rw[fj];rfl)
def jn(ps:List (Bool×Str)):Str:=Str.join " " (ps.map bd)
def Sk(ps:List (Bool×Str)):Txt.join " " (ps.map bd)=jn ps:=B1 _ _
def zT(p q:Bool×Str)(r:List (Bool×Str)):jn (p::q::r)=bd p++" "++jn (q::r):=rfl
def uH:(" ":Str).cps.toList=[32]:=by decide +kernel
theorem jn_len:∀(ps:List (Bool×Str)),(∀p∈ps,Nm p.2)->(jn ps).cps.toList.length<=8*ps.length
 |[],_=>by show 0<=_;lia
 | [p],h=>by
  have:=(jy (h p (Zd.mpr rfl))).2;rw[jY]at this;show(bd p).cps.toList.length<=8*1;lia
 | p::q::r,h=>by
  have ih:=jn_len (q::r) fun a ha=>h a (Wa _ ha);have:=(jy (h p (Va ..))).2;rw[jY]at this;have e1:([32]:List Nat).length=1:=rfl;have e2:(p::q::r).length=(q::r).length+1:=rfl;rw[zT,fj,fj,Xa,Xa,uH,e1,e2];lia
theorem Ij:∀(ps:List (Bool×Str)),(∀p∈ps,Nm p.2)->((ps.map bd).map (·.length)).sum<=7*ps.length
 |[],_=>by simp
 | p::r,h=>by
  have ih:=Ij r fun a ha=>h a (Wa _ ha);have:=(jy (h p (Va ..))).2;rw[Qd,Qd,Dh,Vc];lia
def Sm{ps:List (Bool×Str)}(h:∀p∈ps,Nm p.2)(hl:ps.length<=1000):ud (.str " ") [.tup (ps.map au)]=some (.str (jn ps),false):=by
 rw[<-Sk,<-Ha (sep:=" ") (ys:=ps.map bd)]
 ·rw[Qc];rfl
 ·have h1:=Ij ps h;have h2:Str.length " "=1:=by decide +kernel
  rw[Za,h2];lia
theorem wn(hm:MOk ms):∀(ps:List (Bool×Str)){x:List Nat}{done:List (List Nat)},ps≠[]->(∀p∈ps,Nm p.2)->Rdy ms x done false->Rdy ms (x++(jn ps).cps.toList) (done++ps.map fun p=>(bd p).cps.toList) true
 |[],_,_,hn,_,_=>absurd rfl hn
 |[p],x,done,_,h,r=>wm r (hm.w (h p (Zd.mpr rfl))) (Mv (h p (Zd.mpr rfl)))
 | p::q::rr,x,done,_,h,r=>by
  have hp:=h p (Va ..);have r1:=wm r (hm.w hp) (Mv hp);have r2:=zS (g:=[32]) r1 hm.b.1 (fun k hk=>by obtain rfl:=Zd.mp hk;exact .inl rfl) (fun z=>nomatch z)
  have r3:=wn hm (q::rr) (by simp) (fun a ha=>h a (Wa _ ha)) r2
  rw[zT,fj,fj,uH];simpa[Zc]using r3
def sh(s:ar):Str:=rf s.1++jn s.2++cls s.1
def K1(r:Bool):(rf r).cps.toList=[Pa r]:=by cases r<;>decide +kernel
def K2(r:Bool):(cls r).cps.toList=[Pb r]:=by cases r<;>decide +kernel
def Ik(s:ar):(sh s).cps.toList=[Pa s.1]++(jn s.2).cps.toList++[Pb s.1]:=by
 unfold sh;rw[fj,fj,K1,K2]
def K3(s:ar):(KY s).map (fun t=>(tS t).cps.toList)=[Pa s.1]::((s.2.map fun p=>(bd p).cps.toList)++[[Pb s.1]]):=by
 unfold KY;rw[Qd,Qb,Qc,List.map_singleton];rfl
def Il(h:∀p∈s.2,Nm p.2)(hn:s.2≠[])(r:Rdy mS x done w):Rdy mS (x++(sh s).cps.toList) (done++(KY s).map fun t=>(tS t).cps.toList) false:=by
 have hm:MOk mS:=.inl rfl;have r1:=wl (c:=Pa s.1) r hm.b.1 hm.b.2 (by cases s.1<;>decide)
 have r2:=wn hm s.2 hn h r1;have r3:=wl (c:=Pb s.1) r2 hm.b.1 hm.b.2 (by cases s.1<;>decide)
 rw[Ik,K3];simpa[Zc]using r3
def EI(ss:List ar):Str:=Str.join " " (ss.map sh)
def Pe(ss:List ar):Txt.join " " (ss.map sh)=EI ss:=B1 _ _
theorem Dw:∀(ss:List ar){x:List Nat}{done:List (List Nat)}{w:Bool},(∀s∈ss,(∀p∈s.2,Nm p.2)/\s.2≠[])->Rdy mS x done w->Rdy mS (x++(EI ss).cps.toList) (done++(ss.flatMap KY).map fun t=>(tS t).cps.toList) true
 | [],x,done,w,_,r=>by
  show Rdy mS (x++[]) (done++[]) true;rw[Ze,Ze];exact r.to_true
 | [s],x,done,w,h,r=>by
  have:=Il (h s (Zd.mpr rfl)).1 (h s (Zd.mpr rfl)).2 r;rw[Xb,List.flatMap_nil,Ze];exact this.to_true
 | s::t::rr,x,done,w,h,r=>by
  have hs:=h s (Va ..);have r1:=Il hs.1 hs.2 r;have r2:=zS (g:=[32]) r1 (by decide) (fun k hk=>by obtain rfl:=Zd.mp hk;exact .inl rfl) (fun z=>nomatch z)
  have r3:=Dw (t::rr) (fun a ha=>h a (Wa _ ha)) r2;have e:EI (s::t::rr)=sh s++" "++EI (t::rr):=rfl;rw[e,fj,fj,uH,Xb,Qb];simpa[Zc]using r3
def xO(h:∀p∈s.2,Nm p.2):(sh s).cps.toList.length<=8*s.2.length+2:=by
 have:=jn_len s.2 h;rw[Ik,Xa,Xa];show 1+_+1<=_;lia
theorem Dx:∀(ss:List ar),(∀s∈ss,∀p∈s.2,Nm p.2)->(EI ss).cps.toList.length<=8*(ss.flatMap (·.2)).length+3*ss.length
 |[],_=>by show 0<=_;lia
 | [s],h=>by
  have:=xO (h s (Zd.mpr rfl));have e1:([s].flatMap (·.2)).length=s.2.length:=by simp
  have e2:([s]:List ar).length=1:=rfl;show(sh s).cps.toList.length<=_;rw[e1,e2];lia
 | s::t::rr,h=>by
  have ih:=Dx (t::rr) fun a ha=>h a (Wa _ ha);have:=xO (h s (Va ..));have e:EI (s::t::rr)=sh s++" "++EI (t::rr):=rfl;have e1:([32]:List Nat).length=1:=rfl;have e2:(s::t::rr).length=(t::rr).length+1:=rfl;rw[e,fj,fj,uH,Xa,Xa,Xb,Xa,e1,e2];lia
end K12R
namespace VF
open L2
section
variable {st s:En}{r:Rs}{fa:FE}{f:Str->FE}{acc y:Str}{a:Option (Rs×En)}
def Im(h1:fa st=some (r,s))(h2:cont s r=some (.str y))(h3:(acc++y).length<=1000000)(h4:f (acc++y) s=a):xf fa f acc st=a:=by
 simp only[xf,h1,h2,Yb];rw[if_pos h3];exact h4
def Sn(h:acc.length<=1000000):N1 acc st=some (.d (.str acc),st):=by
 unfold N1;rw[if_pos h]
end
def Tu{z:Str}(h:z.length<=1000000):D8 (.str z)=some (.str z,false):=by
 show(if z.length<=1000000 then some (D.str z,false) else none)=_;rw[if_pos h]
end VF
namespace K12R
open L2 VF VL VF22 VT K12
def Sr(n:Nat)(p:Bool×Str):Dp (n+1) (au p):=.str _ _
def K4(n:Nat){ps:List (Bool×Str)}(h:ps.length<=1000000):Dp (n+2) (.tup (ps.map au)):=.tup (by rw[Za];exact h) fun d hd=>by
 obtain⟨p,_,rfl⟩:=Wb.mp hd;exact Sr n p
def Ss(n:Nat)(h:s.2.length<=1000000):Dp (n+3) (aS s):=.tup (by show 2<=1000000;decide) fun d hd=>by
 rcases Wd.mp hd with rfl|hd
 ·exact .str _ _
 ·obtain rfl:=Zd.mp hd;exact K4 n h
def dp_set{ss:List ar}(h:ss.length<=1000000)(h2:∀s∈ss,s.2.length<=1000000):Dp 4 (.tup (ss.map aS)):=.tup (by rw[Za];exact h) fun d hd=>by
 obtain⟨s,hs,rfl⟩:=Wb.mp hd;exact Ss 0 (h2 s hs)
def K5{ps:List (Bool×Str)}(h:∀p∈ps,Nm p.2)(hl:ps.length<=1000):(jn ps).length<=8000:=by
 have:=jn_len ps h;rw[jY];lia
def K6(r:Bool):(rf r).length=1/\(cls r).length=1:=by cases r<;>decide +kernel
def Tv(a b:D):bu (.tup [a,b]) (.int 0)=some (a,false):=ix_tup (at_0 _)
def Tw(a b:D):bu (.tup [a,b]) (.int 1)=some (b,false):=ix_tup (by simp[ki,DN])
def K7(r:Bool):decide (V.str (kd r)=V.str "open")=!r:=by
 cases r
 ·exact Af rfl
 ·exact Ad fun z=>absurd (V.str.inj z) (by decide +kernel)
def Ip{a b z:Str}(h:aw i st=some (.d (.str z),st))(hz:z.length<=900000)(ha:a.length<=100)(hb:b.length<=100):fJ (xf (fC (.str a)) (xf (wV D8 (aw i)) (xf (fC (.str b)) N1))) st=some (.d (.str (a++z++b)),st):=by
 show xf (fC (.str a)) (xf (wV D8 (aw i)) (xf (fC (.str b)) N1)) Str.empty st=_;refine Im rfl rfl (by rw[empty_app];lia) ?_
 rw[empty_app];refine Im (v6 h rfl (Tu (by lia))) rfl (by rw[Aj];lia) ?_
 refine Im rfl rfl (by rw[Aj,Aj];lia) ?_
 exact Sn (by rw[Aj,Aj];lia)
def ED(h:∀p∈s.2,Nm p.2)(hl:s.2.length<=1000):iV [aS s]=some (.str (sh s),false):=by
 have l1:=K5 h hl;have hk:=K7 s.1;refine aI (o:=.rt (.d (.str (sh s))) [.v (aS s),.v (.str (jn s.2))]) rfl ?_ rfl;refine am (cz (vE rfl rfl rfl (af (av rfl rfl rfl rfl (Tw _ _)) rfl) rfl rfl (Sm h hl)) rfl) ?_;have ht:aD (aK j6 (aK bu (aw 0) (fC (.int 0))) (fC (.str "open"))) [.v (aS s),.v (.str (jn s.2))]=some (!s.1,[.v (aS s),.v (.str (jn s.2))]):=fU (aF (av (av rfl rfl rfl rfl (Tv _ _)) rfl rfl rfl rfl) rfl) hk;have o:∀r:Bool,(rf r).length<=100/\(cls r).length<=100:=fun r=>by have:=K6 r;lia
 refine aL ?_;unfold sh;cases hr:s.1 with
 |true=>
  rw[hr]at ht;exact qA ht (Ip (a:=rf true) (b:=cls true) rfl (by lia) (o true).1 (o true).2)
 |false=>
  rw[hr]at ht;exact qz ht (Ip (a:=rf false) (b:=cls false) rfl (by lia) (o false).1 (o false).2)
theorem Iq:∀(ss:List ar),(∀s∈ss,∀p∈s.2,Nm p.2)->((ss.map sh).map (·.length)).sum<=8*(ss.flatMap (·.2)).length+2*ss.length
 |[],_=>by simp
 | s::r,h=>by
  have ih:=Iq r fun a ha=>h a (Wa _ ha);have:=xO (h s (Va ..));rw[<-jY]at this;rw[Qd,Qd,Dh,Xb,Xa,Vc];lia
def Su{ss:List ar}(g:GS ss):sD (.str " ") [.lst (ss.map fun s=>D.str (sh s))]=some (.str (EI ss),false):=by
 have e:=Hb (sep:=" ") (ys:=ss.map sh) (by
  have h1:=Iq ss g.nm;have h2:Str.length " "=1:=by decide +kernel
  have:=g.l1;have:=g.l2
  rw[Za,h2];lia)
 rw[Qc,Pe]at e;exact e
def showset_ok{ss:List ar}(g:GS ss):mi [.tup (ss.map aS)]=some (.str (EI ss),false):=by
 have hc:bQ 1 [] (ig (aw 0)) (gN 0) bA jI [.v (.tup (ss.map aS))]=some (.f (.lst (ss.map fun s=>D.str (sh s))),[.v (.tup (ss.map aS))]):=by
  refine bq (s1:=[.v (.tup (ss.map aS))]) (ds:=ss.map aS) (s2:=[.e]) rfl (by rw[Za,Af (by have:=g.l2;lia:ss.length<=1000000)];rfl) ?_
  exact a9 aS (fun s=>D.str (sh s)) [.e] ss fun s hs=>⟨[.v (aS s)],[.v (aS s)],.d (.str (sh s)),[.v (aS s)],[.v (aS s)],rfl,rfl,aM rfl rfl (ED (g.nm s hs) (g.len s hs)) rfl,rfl,rfl⟩
 refine aI (o:=.rt (.d (.str (EI ss))) [.v (.tup (ss.map aS))]) rfl ?_ rfl;exact aL (vE rfl rfl rfl (af hc rfl) rfl rfl (Su g))
def shA_wt{ss:List ar}(g:GS ss):wt mS [] (EI ss).cps.toList=(ss.flatMap KY).map fun t=>(tS t).cps.toList :=
 KW (Dw ss (fun s hs=>⟨g.nm s hs,g.ne s hs⟩) (KU mS))
def shA_l(g:GS ss):(EI ss).cps.toList.length<=10000:=by
 have:=Dx ss g.nm;have:=g.l1;have:=g.l2;lia
def readset_of{x:Str}{ss:List ar}(g:GS ss)(hx:x.cps.toList.length<=10000)(hw:wt mS [] x.cps.toList=(ss.flatMap KY).map fun t=>(tS t).cps.toList):jP [.str x]=some (.tup (ss.map aS),false) :=
 xN g hx (by rw[Tt hw,KZ])
end K12R
namespace K12
open L2 VF VL VF22
noncomputable section
def iq(f:Str->Bd)(p:Bd):Bd:=(p.1 ^^ (f p.2).1,(f p.2).2)
def fq(f:Str->Bd)(N:List Str):D:=.dk (N.map fun n=>((Sum.inr n:Key),au (f n)))
theorem K8{f:Str->Bd}{N:List Str}{n:Str}(h:n∈N):jc (N.map fun n=>((Sum.inr n:Key),au (f n))) (Sum.inr n)=some (au (f n)):=by
 induction N with
 |nil=>cases h
 |cons m r ih=>
  unfold jc at ih ⊢;rw[Qd,Qi];by_cases e:m=n
  ·subst e;simp
  ·have:decide ((Sum.inr m:Key)=Sum.inr n)=false:=by simp[e]
   rw[this];exact ih ((Wd.mp h).resolve_left fun z=>e z.symm)
def Ir(h:n∈N):za (fq f N) (.str n)=some (au (f n),false):=by
 show(some (jc (N.map fun n=>((Sum.inr n:Key),au (f n))) (Sum.inr n))).bind _=_;rw[K8 h];rfl
structure Gv(f:Str->Bd)(N:List Str):Prop where
 nm:∀n∈N,Nm n
 im:∀n∈N,Nm (f n).2
 nd:(N.map fun n=>(f n).2).Nodup
 few:N.length<=9
theorem Iu(g:Gv f N)(h:p.2∈N):eT [au p,fq f N]=some (au (iq f p),false):=by
 have hn:=g.nm _ h;have hi:=g.im _ h;refine aI (o:=.rt (.d (au (iq f p))) [.v (au p),.v (fq f N),.v (au (f p.2))]) rfl ?_ rfl;refine am (cz (av rfl (aM rfl rfl (dP (t:=p.1) hn) rfl) rfl rfl (Ir h)) rfl) ?_;obtain⟨t,n⟩:=p;cases t with
 |true=>
  refine aL (qz (aF (aM rfl rfl (eJ (t:=true) hn) rfl) rfl) ?_);have:=xH (t:=(f n).1) (n:=(f n).2) hi;rw[show iq f (true,n)=(!(f n).1,(f n).2) by simp[iq]]
  exact aM rfl rfl this rfl
 |false=>
  refine aL (qA (aF (aM rfl rfl (eJ (t:=false) hn) rfl) rfl) ?_);rw[show iq f (false,n)=f n by simp[iq]]
  rfl
def Iv(g:Gv f N){ps:List Bd}(h:∀p∈ps,p.2∈N)(hl:ps.length<=30)(e1:s1=[.v (.tup (ps.map au)),.v (fq f N)]):bQ 1 [1] (ig (aw 0)) (gN 0) bA dE s1=some (.f (.lst ((ps.map (iq f)).map au)),s1):=by
 subst e1;refine bq (s1:=[.v (.tup (ps.map au)),.v (fq f N)]) (ds:=ps.map au) (s2:=[.e,.v (fq f N)]) rfl (mI (n:=30) (by rw[Za];exact hl) (by decide) rfl) ?_
 have:=a9 (fg:=gN 0) (fc:=bA) (fe:=dE) (k:=1) au (fun p=>au (iq f p)) [.e,.v (fq f N)] ps fun p hp=>⟨[.v (au p),.v (fq f N)],[.v (au p),.v (fq f N)],.d (au (iq f p)),[.v (au p),.v (fq f N)],[.v (au p),.v (fq f N)],rfl,rfl,aM rfl rfl (Iu g (h p hp)) rfl,rfl,rfl⟩;rw[Qc];exact this
def Pf(g:Gv f N){ps:List Bd}(h:∀p∈ps,p.2∈N)(hl:ps.length<=30):gh [.tup (ps.map au),fq f N]=some (.tup ((ps.map (iq f)).map au),false) :=
 aI (o:=.rt (.d (.tup ((ps.map (iq f)).map au))) [.v (.tup (ps.map au)),.v (fq f N)]) rfl (aL (a6 (af (Iv g h hl rfl) rfl) rfl (kX _))) rfl
def mK(f:Str->Bd)(s:ar):ar:=(s.1,s.2.map (iq f))
def Pg(g:Gv f N)(h:∀p∈s.2,p.2∈N)(hl:s.2.length<=30):eU [aS s,fq f N]=some (aS (mK f s),false):=by
 refine aI (o:=.rt (.d (aS (mK f s))) [.v (aS s),.v (fq f N)]) rfl ?_ rfl;refine am (cf rfl rfl) ?_;refine aL (bH (af (s1:=[.v (aS s),.v (fq f N)]) (r:=.d (.str (kd s.1))) rfl (af (aE (af (r:=.d (.tup (s.2.map au))) rfl rfl) rfl (Pf g h hl)) rfl)) rfl (by show 2<=1000000;decide))
def Iw(g:Gv f N)(h:p.2∈N):eU [au p,fq f N]=some (au (iq f p),false):=by
 refine aI (o:=.rt (.d (au (iq f p))) [.v (au p),.v (fq f N)]) rfl ?_ rfl;exact fY (eO rfl (aL (aM rfl rfl (Iu g h) rfl)))
def Sv(g:Gv f N){ss:List ar}(h:∀s∈ss,∀p∈s.2,p.2∈N)(hl:∀s∈ss,s.2.length<=30)(hs:ss.length<=30):dM [.tup (ss.map aS),fq f N]=some (.tup ((ss.map (mK f)).map aS),false):=by
 have hc:bQ 1 [1] (ig (aw 0)) (gN 0) bA eI [.v (.tup (ss.map aS)),.v (fq f N)]=some (.f (.lst ((ss.map (mK f)).map aS)),[.v (.tup (ss.map aS)),.v (fq f N)]):=by
  refine bq (s1:=[.v (.tup (ss.map aS)),.v (fq f N)]) (ds:=ss.map aS) (s2:=[.e,.v (fq f N)]) rfl (mI (n:=30) (by rw[Za];exact hs) (by decide) rfl) ?_
  have:=a9 (fg:=gN 0) (fc:=bA) (fe:=eI) (k:=1) aS (fun p=>aS (mK f p)) [.e,.v (fq f N)] ss fun p hp=>⟨[.v (aS p),.v (fq f N)],[.v (aS p),.v (fq f N)],.d (aS (mK f p)),[.v (aS p),.v (fq f N)],[.v (aS p),.v (fq f N)],rfl,rfl,aE rfl rfl (Pg g (h p hp) (hl p hp)),rfl,rfl⟩;rw[Qc];exact this
 exact aI (o:=.rt (.d (.tup ((ss.map (mK f)).map aS))) [.v (.tup (ss.map aS)),.v (fq f N)]) rfl (aL (a6 (af hc rfl) rfl (kX _))) rfl
def EE(g:Gv f N){ps:List Bd}(h:∀p∈ps,p.2∈N)(hl:ps.length<=30):dM [.tup (ps.map au),fq f N]=some (.tup ((ps.map (iq f)).map au),false):=by
 have hc:bQ 1 [1] (ig (aw 0)) (gN 0) bA eI [.v (.tup (ps.map au)),.v (fq f N)]=some (.f (.lst ((ps.map (iq f)).map au)),[.v (.tup (ps.map au)),.v (fq f N)]):=by
  refine bq (s1:=[.v (.tup (ps.map au)),.v (fq f N)]) (ds:=ps.map au) (s2:=[.e,.v (fq f N)]) rfl (mI (n:=30) (by rw[Za];exact hl) (by decide) rfl) ?_
  have:=a9 (fg:=gN 0) (fc:=bA) (fe:=eI) (k:=1) au (fun p=>au (iq f p)) [.e,.v (fq f N)] ps fun p hp=>⟨[.v (au p),.v (fq f N)],[.v (au p),.v (fq f N)],.d (au (iq f p)),[.v (au p),.v (fq f N)],[.v (au p),.v (fq f N)],rfl,rfl,aE rfl rfl (Iw g (h p hp)),rfl,rfl⟩;rw[Qc];exact this
 exact aI (o:=.rt (.d (.tup ((ps.map (iq f)).map au))) [.v (.tup (ps.map au)),.v (fq f N)]) rfl (aL (a6 (af hc rfl) rfl (kX _))) rfl
def pe(f:Str->Bd)(e:End):End:=if e.1="" then e else((f e.1).2,if (f e.1).1 then 1-e.2 else e.2)
def pj(f:Str->Bd)(j:ip):ip:=bK (j.map (pe f))
def Ix(N:List Str)(e:End):Prop:=(e.1=""\/e.1∈N)/\(e.2=0\/e.2=1)
def Iy(h:Nm n):n≠"":=fun e=>by
 have:=h.1;rw[e]at this;exact absurd this (by decide +kernel)
def Iz(a b:Str):j6 (.str a) (.str b)=some (.bl (decide (V.str a=V.str b)),false):=rfl
def Ph(g:Gv f N){xs:List End}(he:Ix N e)(hx:xs.length<=9) :
  iE [.v js,.v (fq f N),.o told,.v jd,.o (.lst (xs.map eD)),.v (.str e.1),.v (.int e.2)]=some (.nx [.v js,.v (fq f N),.o told,.v jd,.o (.lst ((xs++[pe f e]).map eD)),.v (.str e.1),.v (.int e.2)]):=by
 obtain⟨n,s⟩:=e;obtain⟨hn,hs⟩:=he;have hl:(xs.map eD).length<1000000:=by rw[Za];lia
 by_cases c:n=""
 ·have pz:pe f (n,s)=(n,s):=if_pos c;rw[pz,Qb];refine eO (aF (r:=.d (.bl true)) (av rfl rfl rfl rfl (Iz n "") ?_) rfl) ?_
  ·rw[Af (by rw[c])];rfl
  ·exact bE (fR rfl rfl rfl (af (bH rfl rfl (by show 2<=1000000;decide)) rfl) rfl rfl rfl (cT hl))
 ·have hN:n∈N:=hn.resolve_left c;have pz:pe f (n,s)=((f n).2,if (f n).1 then 1-s else s):=Ah c;rw[pz,Qb];refine cf (aF (r:=.d (.bl false)) (av rfl rfl rfl rfl (Iz n "") ?_) rfl) ?_
  ·rw[Ad (fun z=>c (by injection z))];rfl
  ·have ix:bu (bx (f n)) (.int s)=some (eD ((f n).2,if (f n).1 then 1-s else s),false):=by
    have:bx (f n)=.tup [eD (bN (f n)),eD (b8 (f n))]:=rfl;rw[this];have hs':s=0\/s=1:=hs;rcases hs' with rfl|rfl
    ·rw[show((f n).2,if (f n).1=true then(1:Int) - 0 else 0)=bN (f n) by unfold bN;cases (f n).1<;>rfl]
     exact ix_tup rfl
    ·rw[show((f n).2,if (f n).1=true then(1:Int) - 1 else 1)=b8 (f n) by unfold b8;cases (f n).1<;>rfl]
     exact ix_tup rfl
   exact bE (fR rfl rfl rfl (af (av (aE (af (av rfl rfl rfl rfl (Ir hN)) rfl) rfl (zu (g.im n hN))) rfl rfl rfl ix) rfl) rfl rfl rfl (cT hl))
def K9(g:Gv f N){ts:List ip}{j:ip}{o4 o5 o6:Sl}(q4:o4.isIo=false)(q5:o5.isIo=false)(q6:o6.isIo=false)(hj:∀e∈j,Ix N e)(h2:j.length<=2)(ht:ts.length<=100) :
  ∃p4 p5 p6:Sl,iF [.v js,.v (fq f N),.o (.lst (ts.map jD)),.v (jD j),o4,o5,o6]=some (.nx [.v js,.v (fq f N),.o (.lst ((ts++[pj f j]).map jD)),.v (jD j),p4,p5,p6])/\p4.isIo=false/\p5.isIo=false/\p6.isIo=false:=by
 obtain⟨sf,e,p5,p6,rfl,r5,r6⟩:=dA (fg:=VF.gT 2 (ij (gN 5) (ij (gN 6) qq))) (B:=iE) eD j
  (fun gone st=>∃p5 p6:Sl,st=[.v js,.v (fq f N),.o (.lst (ts.map jD)),.v (jD j),.o (.lst ((gone.map (pe f)).map eD)),p5,p6]/\p5.isIo=false/\p6.isIo=false)
  (by
   rintro gone e rest st ha ⟨p5,p6,rfl,r5,r6⟩;have hm:e∈j:=by rw[ha];simp
   have hg:gone.length<=2:=by have:=congrArg List.length ha;rw[Xa]at this;lia
   refine⟨_,_,R6 (bc rfl r5) (bc rfl r6),Ph g (hj e hm) (by rw[Za];lia),.v (.str e.1),.v (.int e.2),?_,rfl,rfl⟩
   rw[show(gone++[e]).map (pe f)=gone.map (pe f)++[pe f e] by rw[Qb];rfl])
  j [] [.v js,.v (fq f N),.o (.lst (ts.map jD)),.v (jD j),.o (.lst []),o5,o6] rfl ⟨o5,o6,rfl,q5,q6⟩
 refine⟨.o (.lst ((j.map (pe f)).map eD)),p5,p6,?_,rfl,r5,r6⟩;refine am (eG rfl (bc rfl q4)) ?_;refine am (eQ (jb rfl rfl) e) ?_;rw[Qb];exact bE (fR rfl rfl rfl (af (a6 (af (a6 rfl rfl (gE (j.map (pe f)) (by rw[Za];lia) rfl)) rfl) rfl rfl) rfl) rfl rfl rfl (cT (by rw[Za];lia)))
def EF(xs:List End):(bK xs).length=xs.length:=(cU xs).2.length_eq
def IA(g:Gv f N){js:List ip}(hj:∀j∈js,∀e∈j,Ix N e)(h2:∀j∈js,j.length<=2)(h0:∀j∈js,j≠[])(hl:js.length<=60) :
  lF [.tup (js.map jD),fq f N]=some (.tup ((gB (js.map (pj f))).map jD),false):=by
 obtain⟨sf,e,p3,p4,p5,p6,rfl,r3,r4,r5,r6⟩:=dA (fg:=gN 3) (B:=iF) jD js
  (fun gone st=>∃p3 p4 p5 p6:Sl,st=[.v (.tup (js.map jD)),.v (fq f N),.o (.lst ((gone.map (pj f)).map jD)),p3,p4,p5,p6]/\p3.isIo=false/\p4.isIo=false/\p5.isIo=false/\p6.isIo=false)
  (by
   rintro gone j rest st ha ⟨p3,p4,p5,p6,rfl,r3,r4,r5,r6⟩;have hm:j∈js:=by rw[ha];simp
   have hg:gone.length<=60:=by have:=congrArg List.length ha;rw[Xa]at this;lia
   obtain⟨q4,q5,q6,eb,s4,s5,s6⟩:=K9 g (js:=.tup (js.map jD)) (ts:=gone.map (pj f)) (j:=j) r4 r5 r6 (hj j hm) (h2 j hm) (by rw[Za];lia)
   refine⟨_,_,bc rfl r3,eb,.v (jD j),q4,q5,q6,?_,rfl,s4,s5,s6⟩
   rw[show(gone++[j]).map (pj f)=gone.map (pj f)++[pj f j] by rw[Qb];rfl])
  js [] [.v (.tup (js.map jD)),.v (fq f N),.o (.lst []),.e,.e,.e,.e] rfl ⟨.e,.e,.e,.e,rfl,rfl,rfl,rfl,rfl⟩
 refine aI (o:=.rt (.d (.tup ((gB (js.map (pj f))).map jD))) [.v (.tup (js.map jD)),.v (fq f N),.o (.lst ((js.map (pj f)).map jD)),p3,p4,p5,p6]) rfl ?_ rfl;refine am (eG rfl rfl) ?_;refine am (eQ (jb rfl rfl) e) ?_;refine aL (a6 (af (a6 rfl rfl (jg (js.map (pj f)) (by rw[Za];lia) (fun j hj=>?_) rfl)) rfl) rfl rfl)
 obtain⟨i,hi,rfl⟩:=Wb.mp hj;intro z;have:=congrArg List.length z;unfold pj at this;rw[EF,Za]at this;exact h0 i hi (List.length_eq_zero_iff.mp this)
def p9(f:Str->Bd)(N:List Str):List (Key×D):=N.map fun n=>((Sum.inr (f n).2:Key),au ((f n).1,n))
def Pi{N:List Str}(h:(f n).2∉N.map fun n=>(f n).2):pw (p9 f N) (Sum.inr (f n).2) (au ((f n).1,n))=p9 f (N++[n]):=by
 unfold pw;rw[Ah]
 ·unfold p9;rw[Qb];rfl
 ·rw[CZ];rintro⟨x,hx,e⟩;unfold p9 at hx;obtain⟨q,hq,rfl⟩:=Wb.mp hx;exact h (Wb.mpr ⟨q,hq,Sum.inr.inj (Ai e)⟩)
def La{N:List Str}(hn:Nm n)(hi:Nm (f n).2)(hl:N.length<=9)(h:(f n).2∉N.map fun n=>(f n).2) :
  eZ [o0,.o (.dk (p9 f N)),.v (.str n),.v (au (f n))]=some (.nx [o0,.o (.dk (p9 f (N++[n]))),.v (.str n),.v (au (f n))]):=by
 have hp:=Pi h;have lk:(p9 f N).length<100000:=by unfold p9;rw[Za];lia
 generalize f n=p at *;obtain⟨t,m⟩:=p;obtain⟨c,hc,hcm⟩:=qN (p:=(t,m)) hi;have e1:minus.length=1:=by decide +kernel
 have st:sR (.dk (p9 f N)) (.str m) (au (t,n))=some (.dk (p9 f (N++[n]))):=by
  show(if (p9 f N).length<100000 then some (D.dk (pw (p9 f N) (Sum.inr m) (au (t,n)))) else none)=_;rw[if_pos lk,hp]
 cases t with
 |true=>
  refine eO (fU (aF (av (av rfl rfl rfl rfl (ix_str (dX hi) hc)) rfl rfl rfl rfl) rfl) (Af (hcm.mpr rfl))) ?_
  refine mG (dv:=au (true,n)) (z':=.dk (p9 f (N++[n]))) (av rfl rfl rfl rfl (m5 (by
   have:=hn.2.1;show minus.length+n.length<=_
   lia))) rfl rfl rfl (gL (r':=.d (.str m)) rfl rfl rfl rfl (t5 (dX hi)) ?_) rfl rfl rfl st
  show Rs.d (D.str (Txt.slice (minus++m) (some 1) none))=_;rw[ul]
 |false=>
  refine cf (fU (aF (av (av rfl rfl rfl rfl (ix_str (dX hi) hc)) rfl rfl rfl rfl) rfl) (Ad fun z=>by cases (hcm.mp z))) ?_
  exact mG (dv:=au (false,n)) (z':=.dk (p9 f (N++[n]))) rfl rfl rfl rfl rfl rfl rfl rfl st
def Lb(f:Str->Bd)(N:List Str):kH (.o (.dk (p9 f N)))=true:=by
 show((p9 f N).all fun kd=>isSc kd.2)=true;rw[Yh];intro x hx;unfold p9 at hx;obtain⟨n,_,rfl⟩:=Wb.mp hx;rfl
def Lc(g:Gv f N):mB [fq f N]=some (.dk (p9 f N),true):=by
 obtain⟨sf,e,p2,p3,rfl,r2,r3,l2,l3⟩:=dA (fg:=VF.gT 2 (ij (gN 2) (ij (gN 3) qq))) (B:=eZ) (fun n=>D.tup [.str n,au (f n)]) N
  (fun gone st=>∃p2 p3:Sl,st=[.e,.o (.dk (p9 f gone)),p2,p3]/\p2.isIo=false/\p3.isIo=false/\kH p2=true/\kH p3=true)
  (by
   rintro gone n rest st ha ⟨p2,p3,rfl,r2,r3,_,_⟩;have hm:n∈N:=by rw[ha];simp
   have hg:=congrArg List.length ha;rw[Xa]at hg;have hf:=g.few;have nd:=g.nd;rw[ha,Qb,Qd]at nd;have hx:(f n).2∉gone.map fun n=>(f n).2:=fun m=>(Qg.mp nd).2.2 _ m _ (Va ..) rfl
   exact⟨_,_,R6 (bc rfl r2) (bc rfl r3),La (g.nm n hm) (g.im n hm) (by lia) hx,.v (.str n),.v (au (f n)),rfl,rfl,rfl,rfl,rfl⟩)
  N [] [.e,.o (.dk []),.e,.e] rfl ⟨.e,.e,rfl,rfl,rfl,rfl,rfl⟩
 refine aI (o:=.rt (.s 1) [.e,.o (.dk (p9 f N)),p2,p3]) rfl ?_ rfl;refine am (eG rfl rfl) ?_;refine am (s:=[.e,.o (.dk (p9 f N)),p2,p3]) ?_ ?_
 ·have c2:((N.map fun n=>((Sum.inr n:Key),au (f n))).all fun kd=>isSc kd.2)=true:=by
   rw[Yh];intro x hx;obtain⟨n,_,rfl⟩:=Wb.mp hx;rfl
  have ei:kj (N.map fun n=>((Sum.inr n:Key),au (f n)))=N.map fun n=>D.tup [.str n,au (f n)]:=by
   unfold kj;rw[Qc];rfl
  show(if ((([Sl.e,.o (.dk []),.e,.e]:En)).all kH&&(N.map fun n=>((Sum.inr n:Key),au (f n))).all fun kd=>isSc kd.2)=true then(cN (VF.gT 2 (ij (gN 2) (ij (gN 3) qq))) eZ (kj (N.map fun n=>((Sum.inr n:Key),au (f n)))) [.e,.o (.dk []),.e,.e]).bind _ else none)=_;rw[if_pos (by rw[c2];rfl),ei,e]
  show(if ([Sl.e,.o (.dk (p9 f N)),p2,p3]:En).all kH=true then _ else none)=_;rw[if_pos (by simp[Lb,l2,l3,show kH .e=true from rfl])]
 ·exact aL rfl
def IB{f:Str->Bd}{p:Bd}(h:p.2≠""):bN (iq f p)=pe f (bN p):=by
 obtain⟨t,n⟩:=p;have:pe f (bN (t,n))=((f n).2,if (f n).1 then 1-(if t then 1 else 0) else(if t then 1 else 0)):=Ah h;rw[this];unfold bN iq;cases t<;>cases (f n).1<;>rfl
def IC{f:Str->Bd}{p:Bd}(h:p.2≠""):b8 (iq f p)=pe f (b8 p):=by
 obtain⟨t,n⟩:=p;have:pe f (b8 (t,n))=((f n).2,if (f n).1 then 1-(if t then 0 else 1) else(if t then 0 else 1)):=Ah h;rw[this];unfold b8 iq;cases t<;>cases (f n).1<;>rfl
def uI(f:Str->Bd)(xs:List End):pj f (bK xs)=bK (xs.map (pe f)):=fG ((cU xs).2.map _)
def xP(e:End):bK [e]=[e]:=List.perm_singleton.mp (cU [e]).2
def ID(xs:List End):bK (bK xs)=bK xs:=fG (cU xs).2
def IE(xs:List ip):gB (gB xs)=gB xs:=hX (bJ xs).2
theorem Pj{ps:List Bd}(h:ps≠[]):(ps.map r).headD z0=r (ps.headD z0):=by
 cases ps with|nil=>exact absurd rfl h|cons a b=>rfl
def Pk:∀{ps:List Bd},ps≠[]->(ps.map r).getLastD z0=r (ps.getLastD z0):=fun {ps} h=>by
 rw[Yl,Yl,List.getLast?_map,C3 h];rfl
theorem Pm{ps:List Bd}(h:ps≠[]):ps.headD z0∈ps:=by
 cases ps with|nil=>exact absurd rfl h|cons a b=>exact Va ..
def Pn{ps:List Bd}(h:ps≠[]):ps.getLastD z0∈ps:=by
 rw[Yl,C3 h];exact List.getLast_mem h
def Po{f:Str->Bd}{ps:List Bd}(h:∀p∈ps,p.2≠""):fu (ps.map (iq f))=(fu ps).map (pj f):=by
 unfold fu;rw[<-Bg,List.zip_map,Qc,Qc];refine Ye fun q hq=>?_;obtain⟨a,b⟩:=q;have h1:=h a (Yn hq).1;have h2:=h b (Bk (Yn hq).2);show bK [b8 (iq f a),bN (iq f b)]=pj f (bK [b8 a,bN b]);rw[uI,IC h1,IB h2];rfl
def Sw{f:Str->Bd}{s:ar}(hs:s.2≠[])(h:∀p∈s.2,p.2≠""):sj (mK f s)=(sj s).map (pj f):=by
 unfold sj;rw[Qb];congr 1
 ·exact Po h
 ·unfold qW mK;show(if s.1=true then [bK [bN ((s.2.map (iq f)).headD z0),b8 ((s.2.map (iq f)).getLastD z0)]] else [[bN ((s.2.map (iq f)).headD z0)],[b8 ((s.2.map (iq f)).getLastD z0)]])=_;rw[Pj hs,Pk hs,IB (h _ (Pm hs)),IC (h _ (Pn hs))];cases s.1 with
  |true=>
   show [_]=[pj f (bK [_,_])];rw[uI];rfl
  |false=>
   show [[pe f _],[pe f _]]=[bK [pe f _],bK [pe f _]];rw[xP,xP]
def Sx{f:Str->Bd}{ss:List ar}(hs:∀s∈ss,s.2≠[])(h:∀s∈ss,∀p∈s.2,p.2≠""):jo (ss.map (mK f))=gB ((jo ss).map (pj f)):=by
 have e:(ss.map (mK f)).flatMap sj=(ss.flatMap sj).map (pj f):=by
  rw[List.flatMap_map,AO];have:∀l:List ar,(∀s∈l,sj (mK f s)=(sj s).map (pj f))->l.flatMap (fun s=>sj (mK f s))=l.flatMap fun s=>(sj s).map (pj f):=by
   intro l;induction l with
   |nil=>intro _;rfl
   |cons a r ih=>
    intro q;rw[Xb,Xb,q a (Va ..),ih fun s m=>q s (Wa _ m)]
  exact this ss fun s m=>Sw (hs s m) (h s m)
 unfold jo;rw[e];exact hX ((bJ _).2.symm.map _)
def Pp{f:Str->Bd}{ps:List Bd}(h:∀p∈ps,p.2≠""):i6 (ps.map (iq f))=(i6 ps).map fun q=>(pe f q.1,pe f q.2):=by
 unfold i6;have e1:i4::(ps.map (iq f)).map b8=(i4::ps.map b8).map (pe f):=by
  rw[Qd,show pe f i4=i4 from if_pos rfl,Qc,Qc];congr 1;exact Ye fun p hp=>IC (h p hp)
 have e2:(ps.map (iq f)).map bN++[zO]=(ps.map bN++[zO]).map (pe f):=by
  rw[Qb,show [zO].map (pe f)=[zO] from congrArg (fun x=>[x]) (if_pos rfl:pe f zO=zO),Qc,Qc];congr 1;exact Ye fun p hp=>IB (h p hp)
 rw[e1,e2,List.zip_map];rfl
def Pq{ps:List Bd}(h:∀p∈ps,p.2≠""):zP (ps.map (iq f))=gB ((zP ps).map (pj f)):=by
 have e:lj (ps.map (iq f))=(lj ps).map (pj f):=by
  unfold lj;rw[Pp h,Qc,Qc];refine Ye fun q _=>?_;show bK [pe f q.1,pe f q.2]=pj f (bK [q.1,q.2]);rw[uI];rfl
 unfold zP;rw[e];exact hX ((bJ _).2.symm.map _)
def qa(f:Str->Bd)(N:List Str)(m:Str):Bd:=match N.find? fun n=>decide ((f n).2=m) with|some n=>((f n).1,n)|none=>(false,"")
def rl{N:List Str}(nd:(N.map fun n=>(f n).2).Nodup)(h:n∈N):qa f N (f n).2=((f n).1,n):=by
 have:N.find? (fun m=>decide ((f m).2=(f n).2))=some n:=by
  induction N with
  |nil=>cases h
  |cons m r ih=>
   rw[Qd,Zh]at nd;rw[Qi];by_cases e:m=n
   ·subst e;simp
   ·have hr:=(Wd.mp h).resolve_left fun z=>e z.symm;have:decide ((f m).2=(f n).2)=false:=Ad fun z=>nd.1 (z ▸ Wb.mpr ⟨n,hr,rfl⟩);rw[this];exact ih nd.2 hr
 unfold qa;rw[this]
def Ld{N:List Str}(nd:(N.map fun n=>(f n).2).Nodup):D.dk (p9 f N)=fq (qa f N) (N.map fun n=>(f n).2):=by
 unfold fq p9;rw[Qc];congr 1;refine Ye fun n hn=>?_;show _=(_,au (qa f N (f n).2));rw[rl nd hn]
def Gv.bk{N:List Str}(g:Gv f N)(hN:N.Nodup):Gv (qa f N) (N.map fun n=>(f n).2):=by
 refine⟨fun m hm=>?_,fun m hm=>?_,?_,by rw[Za];exact g.few⟩
 ·obtain⟨n,hn,rfl⟩:=Wb.mp hm;exact g.im n hn
 ·obtain⟨n,hn,rfl⟩:=Wb.mp hm;rw[rl g.nd hn];exact g.nm n hn
 ·rw[Qc];have:(N.map ((fun n=>(qa f N n).2) ∘ fun n=>(f n).2))=N.map id:=Ye fun n hn=>by
   show(qa f N (f n).2).2=n;rw[rl g.nd hn]
  rw[this,AL];exact hN
def Sy(g:Gv f N)(h:p.2∈N):iq (qa f N) (iq f p)=p:=by
 obtain⟨t,n⟩:=p;show(((t ^^ (f n).1) ^^ (qa f N (f n).2).1),(qa f N (f n).2).2)=(t,n);rw[rl g.nd h];cases t<;>cases (f n).1<;>rfl
def Sz(g:Gv f N)(h:Ix N e):pe (qa f N) (pe f e)=e:=by
 obtain⟨n,s⟩:=e;by_cases c:n=""
 ·have:pe f (n,s)=(n,s):=if_pos c;rw[this];exact if_pos c
 ·have hN:n∈N:=h.1.resolve_left c;have:pe f (n,s)=((f n).2,if (f n).1 then 1-s else s):=Ah c;rw[this];have:pe (qa f N) ((f n).2,if (f n).1 then 1-s else s)=((qa f N (f n).2).2,if (qa f N (f n).2).1 then 1-(if (f n).1 then 1-s else s) else(if (f n).1 then 1-s else s)):=Ah (Iy (g.im n hN));rw[this,rl g.nd hN];cases (f n).1 with|true=>show(n,1-(1-s))=_;congr 1;lia|false=>rfl
def SA(g:Gv f N)(h:∀e∈j,Ix N e)(hs:bK j=j):pj (qa f N) (pj f j)=j:=by
 show pj (qa f N) (bK (j.map (pe f)))=_;rw[uI,Qc];have:j.map (pe (qa f N) ∘ pe f)=j.map id:=Ye fun e he=>Sz g (h e he);rw[this,AL,hs]
def IF(g:Gv f N){js:List ip}(h:∀j∈js,∀e∈j,Ix N e)(hs:∀j∈js,bK j=j)(h2:gB js=js):gB ((gB (js.map (pj f))).map (pj (qa f N)))=js:=by
 have e1:gB ((gB (js.map (pj f))).map (pj (qa f N)))=gB ((js.map (pj f)).map (pj (qa f N))):=hX ((bJ _).2.map _);rw[e1,Qc];have:js.map (pj (qa f N) ∘ pj f)=js.map id:=Ye fun j hj=>SA g (h j hj) (hs j hj);rw[this,AL,h2]
end
end K12
namespace VF
open L2
def IG(pa:Pl 40 (.tup xs))(pb:Pl 40 (.tup ys))(h:c=true↔D.tup xs=D.tup ys):Gq (.tup xs) (.tup ys)=some (.bl c,false):=by
 have e1:j6 (.tup xs) (.tup ys)=none:=rfl;unfold Gq n4;rw[e1];unfold Gm;dsimp only;have dc:∀i:Decidable (D.tup xs=D.tup ys),@decide _ i=c:=fun i=>by rw[Zg,decide_eq_true_eq];exact h.symm
 rw[if_pos ⟨pa,pb⟩,dc];rfl
def IH(c:Bool):Ea (.bl c) (.bl c)=some (.bl false,false):=by cases c<;>rfl
end VF
namespace K12
open L2 VF VL VF22
noncomputable section
def II(ss:List ar):Pl 40 (.tup (ss.map aS)):=.tup fun d hd=>by
 obtain⟨s,_,rfl⟩:=Wb.mp hd;refine .tup fun d hd=>?_;rcases Wd.mp hd with rfl|hd
 ·exact .str _ _
 ·obtain rfl:=Zd.mp hd;refine .tup fun d hd=>?_;obtain⟨p,_,rfl⟩:=Wb.mp hd;exact .str _ _
def Mw(js:List ip):Pl 40 (.tup (js.map jD)):=.tup fun d hd=>by
 obtain⟨j,_,rfl⟩:=Wb.mp hd;exact Mm 36 j
def Dy{js:List ip}(h:js.length<=1000000)(h2:∀j∈js,j.length<=1000):Dp 4 (.tup (js.map jD)) :=
 .tup (by rw[Za];exact h) fun d hd=>by
  obtain⟨j,hj,rfl⟩:=Wb.mp hd;refine .tup (by rw[Za];have:=h2 j hj;lia) fun d hd=>?_
  obtain⟨e,_,rfl⟩:=Wb.mp hd;refine .tup (by show 2<=1000000;decide) fun d hd=>?_
  rcases Wd.mp hd with rfl|hd
  ·exact .str _ _
  ·obtain rfl:=Zd.mp hd;exact .int _ _
def Pr{j:ip}(h:j∈sj s):j.length<=2:=by
 unfold sj at h;rcases Xe.mp h with h|h
 ·unfold fu at h;obtain⟨q,_,rfl⟩:=Wb.mp h;exact BS (xI _ _)
 ·unfold qW at h;split at h
  ·obtain rfl:=Zd.mp h;exact BS (xI _ _)
  ·simp at h;rcases h with rfl|rfl<;>simp
def IJ{j:ip}(h:j∈jo ss):j.length<=2:=by
 obtain⟨s,_,h⟩:=Yg.mp ((bJ _).2.mem_iff.mp h);exact Pr h
def Dz{j:ip}(h:j∈zP ps):j.length<=2:=by
 obtain⟨q,_,rfl⟩:=Wb.mp ((bJ _).2.mem_iff.mp h);exact BS (xI _ _)
theorem DB:∀{ss:List ar},(∀s∈ss,s.2≠[])->(∀s∈ss,∀p∈s.2,Nm p.2)->((ss.map cs).flatMap (·.2)).length=(ss.flatMap (·.2)).length
 |[],_,_=>rfl
 | s::r,h1,h2=>by
  rw[Qd,Xb,Xb,Xa,Xa,(lJ (h1 s Va) (h2 s Va)).2.2,DB (fun x hx=>h1 x (Wa _ hx)) fun x hx=>h2 x (Wa _ hx)]
structure Gd(ss:List ar):Prop where
 ne:∀s∈ss,s.2≠[]
 nm:∀s∈ss,∀p∈s.2,Nm p.2
 ln:(ss.flatMap (·.2)).length<=30
 nd:((ss.flatMap (·.2)).map (·.2)).Nodup
def WF.gd{N:List Str}(w:WF N ss)(hN:∀x∈N,Nm x)(hl:N.length<=30)(nd:N.Nodup):Gd ss:=⟨w.ne,w.beads hN,by rw[w.len];exact hl,w.nm.nodup_iff.mpr nd⟩
def Gd.cj(g:Gd ss):dO [.tup ((cn ss).map aS)]=some (.tup ((jo ss).map jD),false):=by
 obtain⟨cp,_,_⟩:=iI ss;have f:∀s∈cn ss,s.2≠[]/\∀p∈s.2,Nm p.2:=fun s hs=>by
  obtain⟨t,ht,rfl⟩:=Wb.mp (cp.mem_iff.mp hs);have:=lJ (g.ne t ht) (g.nm t ht);exact⟨this.1,this.2.1⟩
 have l:((cn ss).flatMap (·.2)).length<=30:=by
  rw[(cp.flatMap_right (·.2)).length_eq,DB g.ne g.nm];exact g.ln
 have:=mJ (ss:=cn ss) (fun s hs=>(f s hs).1) (fun s hs=>(f s hs).2) l;rwa [zJ g.ne]at this
def Le(g:Gd ss)(k:Gd ts):D.tup ((cn ss).map aS)=D.tup ((cn ts).map aS)↔D.tup ((jo ss).map jD)=D.tup ((jo ts).map jD):=by
 refine⟨fun e=>?_,fun e=>?_⟩
 ·have h1:=g.cj;rw[e,k.cj]at h1;exact(congrArg Prod.fst (Option.some.inj h1)).symm
 ·have h1:(jo ss).map jD=(jo ts).map jD:=D.tup.inj e;have un:∀js:List ip,(js.map jD).map PL=js:=fun js=>by
   rw[Qc]
   conv=>rhs;rw[<-AL js]
   exact Ye fun j _=>ux j
  have h2:jo ss=jo ts:=by rw[<-un (jo ss),h1,un]
  rw[(Mu g.ne g.nm g.nd k.ne k.nd).mpr h2]
def Lf{ss ts:List ar}(g:Gd ss)(k:Gd ts)(h:c=true↔D.tup ((cn ss).map aS)=D.tup ((cn ts).map aS)):xz [.tup (ss.map aS),.tup (ts.map aS)]=some (.bl c,false):=by
 have e1:=k0 g.ne g.nm (by have:=g.ln;lia)
 have e2:=k0 k.ne k.nm (by have:=k.ln;lia)
 exact aI (o:=.rt (.d (.bl c)) [.v (.tup (ss.map aS)),.v (.tup (ts.map aS))]) rfl (aL (av (aE rfl rfl e1) (aE rfl rfl e2) rfl rfl (IG (II _) (II _) h))) rfl
def uJ(h:p.2∈N):Ix N (bN p)/\Ix N (b8 p):=by
 obtain⟨t,n⟩:=p;cases t
 ·exact⟨⟨.inr h,.inl rfl⟩,⟨.inr h,.inr rfl⟩⟩
 ·exact⟨⟨.inr h,.inr rfl⟩,⟨.inr h,.inl rfl⟩⟩
def IM(h:∀p∈ps,p.2∈N)(he:e∈hZ ps):Ix N e:=by
 unfold hZ at he;rcases Xe.mp he with m|m
 ·obtain⟨p,hp,rfl⟩:=Wb.mp m;exact(uJ (h p hp)).1
 ·obtain⟨p,hp,rfl⟩:=Wb.mp m;exact(uJ (h p hp)).2
def WF.mem(w:WF N ss):∀s∈ss,∀p∈s.2,p.2∈N:=fun s hs p hp=>w.nm.mem_iff.mp (Wb.mpr ⟨p,Yg.mpr ⟨s,hs,hp⟩,rfl⟩)
def WF.eok(w:WF N ss):∀j∈jo ss,∀e∈j,Ix N e:=fun j hj e he=>by
 have h1:j∈ss.flatMap sj:=(bJ _).2.mem_iff.mp hj;have h2:=(oC w.ne).mem_iff.mp (List.mem_flatten.mpr ⟨j,h1,he⟩);exact IM (fun p hp=>by obtain⟨s,hs,hp⟩:=Yg.mp hp;exact w.mem s hs p hp) h2
def SD:∀j∈jo ss,j≠[]:=fun j hj=>by
 obtain⟨s,_,h⟩:=Yg.mp ((bJ _).2.mem_iff.mp hj);exact HD h
def Ps(h:j∈sj s):bK j=j:=by
 unfold sj at h;rcases Xe.mp h with h|h
 ·unfold fu at h;obtain⟨q,_,rfl⟩:=Wb.mp h;exact ID _
 ·unfold qW at h;split at h
  ·obtain rfl:=Zd.mp h;exact ID _
  ·simp at h;rcases h with rfl|rfl<;>exact xP _
def IN:∀j∈jo ss,bK j=j:=fun j hj=>by
 obtain⟨s,_,h⟩:=Yg.mp ((bJ _).2.mem_iff.mp hj);exact Ps h
def WF.jlen{N:List Str}(w:WF N ss)(hl:N.length<=9):(jo ss).length<=60:=by
 unfold jo;rw[(bJ _).2.length_eq];have:=pW w.ne;rw[w.len]at this;lia
def Lg(h:∀p∈ps,p.2∈N):∀j∈zP ps,∀e∈j,Ix N e:=fun j hj e he=>by
 obtain⟨q,hq,rfl⟩:=Wb.mp ((bJ _).2.mem_iff.mp hj);have he:=(cU _).2.mem_iff.mp he;obtain⟨a,b⟩:=q;unfold i6 at hq;obtain⟨h1,h2⟩:=Yn hq;rcases Wd.mp he with rfl|he
 ·rcases Wd.mp h1 with rfl|m
  ·exact⟨.inl rfl,.inr rfl⟩
  ·obtain⟨p,hp,rfl⟩:=Wb.mp m;exact(uJ (h p hp)).2
 ·obtain rfl:=Zd.mp he;rcases Xe.mp h2 with m|m
  ·obtain⟨p,hp,rfl⟩:=Wb.mp m;exact(uJ (h p hp)).1
  ·obtain rfl:=Zd.mp m;exact⟨.inl rfl,.inl rfl⟩
def Pt:∀j∈zP ps,j≠[]:=fun j hj=>H9 ((bJ _).2.mem_iff.mp hj)
abbrev fN(f:Str->Bd)(N:List Str):List Str:=N.map fun n=>(f n).2
def Lh(f:Str->Bd)(ss:List ar):(ss.map (mK f)).flatMap (·.2)=(ss.flatMap (·.2)).map (iq f):=by
 rw[List.flatMap_map,AO];rfl
def WF.rn{ss:List ar}(w:WF N ss):WF (fN f N) (ss.map (mK f)):=by
 refine⟨fun s hs=>?_,?_⟩
 ·obtain⟨t,ht,rfl⟩:=Wb.mp hs;exact fun z=>w.ne t ht (List.map_eq_nil_iff.mp z)
 ·rw[Lh,Qc];have:=w.nm.map fun n=>(f n).2;rw[Qc]at this;exact this
def Gv.wf(g:Gv f N){ss:List ar}(w:WF N ss):Gd (ss.map (mK f)) :=
 w.rn.gd (fun m hm=>by obtain⟨n,hn,rfl⟩:=Wb.mp hm;exact g.im n hn) (by rw[Za];have:=g.few;lia) g.nd
def WF.ones{N:List Str}(w:WF N ss):∀s∈ss,s.2.length<=N.length:=fun s hs=>by
 obtain⟨a,b,rfl⟩:=Xk hs;have:=w.len;rw[Yf,Xb,Xa,Xa]at this;lia
def Gv.ren(g:Gv f N){ss:List ar}(w:WF N ss):dM [.tup (ss.map aS),fq f N]=some (.tup ((ss.map (mK f)).map aS),false) :=
 Sv g w.mem (fun s hs=>by have:=w.ones s hs;have:=g.few;lia) (by have:=w.cnt;have:=g.few;lia)
theorem WF.cn(w:WF N ss)(hN:∀x∈N,Nm x):WF N (cn ss):=by
 obtain⟨cp,_,_⟩:=iI ss;refine⟨fun s hs=>?_,?_⟩
 ·obtain⟨t,ht,rfl⟩:=Wb.mp (cp.mem_iff.mp hs);exact(lJ (w.ne t ht) (w.beads hN t ht)).1
 ·refine List.Perm.trans ((cp.flatMap_right _).map _) (List.Perm.trans ?_ w.nm);have:∀l:List ar,(∀s∈l,s.2≠[])->List.Perm (((l.map cs).flatMap (·.2)).map (·.2)) ((l.flatMap (·.2)).map (·.2)):=by
   intro l;induction l with
   |nil=>intro _;exact .refl _
   |cons a r ih=>
    intro h;rw[Qd,Xb,Xb,Qb,Qb];exact(HR (h a Va)).append (ih fun s hs=>h s (Wa _ hs))
  exact this ss w.ne
def Li(js:List ip):(js.map jD).map PL=js:=by
 rw[Qc]
 conv=>rhs;rw[<-AL js]
 exact Ye fun j _=>ux j
theorem Gv.jo(g:Gv f N){ss:List ar}(w:WF N ss):K12.jo (ss.map (mK f))=gB ((K12.jo ss).map (pj f)):=Sx w.ne fun s hs p hp=>Iy (g.nm _ (w.mem s hs p hp))
def Gv.iff(g:Gv f N){ss us:List ar}(w:WF N ss)(v:WF N us):D.tup ((K12.cn (ss.map (mK f))).map aS)=D.tup ((K12.cn (us.map (mK f))).map aS)↔D.tup ((K12.jo ss).map jD)=D.tup ((K12.jo us).map jD):=by
 refine(Le (g.wf w) (g.wf v)).trans ⟨fun e=>?_,fun e=>?_⟩
 ·have h1:K12.jo (ss.map (mK f))=K12.jo (us.map (mK f)):=by rw[<-Li (K12.jo (ss.map (mK f))),D.tup.inj e,Li]
  rw[g.jo w,g.jo v]at h1;rw[<-IF g w.eok IN (IE _),h1,IF g v.eok IN (IE _)]
 ·have h1:K12.jo ss=K12.jo us:=by rw[<-Li (K12.jo ss),D.tup.inj e,Li]
  rw[g.jo w,g.jo v,h1]
theorem Mx:∀{xs:List Str}{P:List Bd},xs.Nodup->P.length=xs.length->∃f:Str->Bd,xs.map f=P
 |[],[],_,_=>⟨fun _=>(false,""),rfl⟩
 |[],_::_,_,h=>by cases h
 |_::_,[],_,h=>by cases h
 | x::r,p::q,nd,h=>by
  rw[Zh]at nd;obtain⟨f,e⟩:=Mx nd.2 (P:=q) (by simpa using h)
  refine⟨fun n=>if n=x then p else f n,?_⟩;rw[Qd,if_pos rfl,<-e];congr 1;exact Ye fun n hn=>Ah fun z:n=x=>nd.1 (z ▸ hn)
def Pu{f:Str->Bd}{N:List Str}{n:Str}(h:n∉N):pw (N.map fun n=>((Sum.inr n:Key),au (f n))) (Sum.inr n) (au (f n))=(N++[n]).map fun n=>((Sum.inr n:Key),au (f n)):=by
 unfold pw;rw[Ah]
 ·rw[Qb];rfl
 ·rw[CZ];rintro⟨x,hx,e⟩;obtain⟨q,hq,rfl⟩:=Wb.mp hx;exact h ((Sum.inr.inj (Ai e)) ▸ hq)
def Lj{f:Str->Bd}{xs:List Str}{k:Nat}{n:Str}{s0 s1 s3 s4 s5 s9:Sl}(nd:xs.Nodup)(hk:xs[k]?=some n)(hl:xs.length<=9) :
  pP [s0,s1,.v (.lst (xs.map D.str)),s3,s4,s5,.o (fq f (xs.take k)),.v (.tup ((xs.map f).map au)),.v (.int (k:Int)),s9]=some (.nx [s0,s1,.v (.lst (xs.map D.str)),s3,s4,s5,.o (fq f (xs.take (k+1))),.v (.tup ((xs.map f).map au)),.v (.int (k:Int)),s9]):=by
 have i1:bu (.tup ((xs.map f).map au)) (.int (k:Int))=some (au (f n),false):=ix_tup (hY (f:=au) (xs:=xs.map f) (x:=f n) (by rw[Ve,hk];rfl))
 have i2:bu (.lst (xs.map D.str)) (.int (k:Int))=some (.str n,false):=fF (hY hk);have hlt:=(Yd.mp hk).1;have tk:xs.take (k+1)=xs.take k++[n]:=by rw[List.take_add_one,hk];rfl
 have ni:n∉xs.take k:=fun m=>by
  have:=nd;rw[<-Zl (k+1) xs,tk,Zc]at this;exact(Qg.mp this).2.2 n m n (by simp) rfl
 refine mG (dv:=au (f n)) (z':=fq f (xs.take (k+1))) (av rfl rfl rfl rfl i1) rfl rfl rfl (av rfl rfl rfl rfl i2) rfl rfl rfl ?_;show(if ((xs.take k).map fun n=>((Sum.inr n:Key),au (f n))).length<100000 then some (D.dk (pw ((xs.take k).map fun n=>((Sum.inr n:Key),au (f n))) (Sum.inr n) (au (f n)))) else none)=_;rw[if_pos (by rw[Za,Wg];lia),Pu ni,<-tk];rfl
def Lk(ns:List Int):Re [.fl (ns.map D.int)]=some (.bl true,false):=by
 have f0:cW (Fl ns 0 0 1 0):=⟨ns,0,0,1,0,rfl,by decide,by decide,by decide,by decide⟩
 obtain⟨n,φ1,e1,n0,n1,f1⟩:=b7 (n:=10) f0 (by decide) (by decide)
 obtain⟨xs,φ2,e2,hxl,nm,nd,f2⟩:=v4 (n:=n) f1 n0 (by lia)
 have hx:xs.length<=9:=by lia
 obtain⟨ss,φ3,e3,hne,pm,f3⟩:=OK f2 (by lia) nm
 have ws:WF xs ss:=⟨hne,pm⟩;obtain⟨us,φ4,e4,wu,f4⟩:=KN f3 ws nm (by lia)
 obtain⟨ps,φ5,e5,pp,f5⟩:=pS f4 (by lia) nm
 obtain⟨qs,φ6,e6,pq,f6⟩:=pS f5 (by lia) nm
 obtain⟨d,φ7,e7,_,_,f7⟩:=b7 (n:=3) f6 (by decide) (by decide)
 obtain⟨ys,φ8,e8,hyl,ynm,ynd,f8⟩:=v4 (n:=(xs.length:Int)) f7 (by lia) (by lia)
 obtain⟨rs,φ9,e9,pr,f9⟩:=pS f8 (xs:=ys) (by lia) ynm
 have hN:cV [.lst (xs.map D.str)]=some (.int (xs.length:Int),false):=by
  show some (D.int ((xs.map D.str).length:Nat),false)=_;rw[Za]
 obtain⟨P,φ,hP,eP⟩:∃(P:List Bd)(φ:D),(P.length=xs.length/\(∀p∈P,Nm p.2)/\(P.map (·.2)).Nodup) /\
   (fP (aD (aK Ea (gj aA 1 (aa (fC (.int 3)) ae)) (fC (.int 0)))) (aV (gj df 1 (aa (gj fT 1 (aa (bU cV (aa (aw 2) ae)) ae)) ae)) 7) bP) [.v (.fl (ns.map D.int)),.o φ6,.v (.lst (xs.map D.str)),.v (.tup (ss.map aS)),.v (.tup (us.map aS)),.v (.tup (ps.map au)),.o (.dk []),.v (.tup (qs.map au)),.e,.e] =
   some (.nx [.v (.fl (ns.map D.int)),.o φ,.v (.lst (xs.map D.str)),.v (.tup (ss.map aS)),.v (.tup (us.map aS)),.v (.tup (ps.map au)),.o (.dk []),.v (.tup (P.map au)),.e,.e]):=by
  have ln:∀{a:List Bd}{b:List Str},(a.map (·.2)).Perm b->a.length=b.length:=fun h=>by have:=h.length_eq;rwa [Za]at this
  obtain⟨c,hc⟩:∃c,Ea (.int d) (.int 0)=some (.bl c,false):=⟨_,rfl⟩;cases c with
  |true=>
   refine⟨rs,φ9,⟨by rw[ln pr];lia,fun p hp=>ynm _ (pr.mem_iff.mp (AR hp)),pr.nodup_iff.mpr ynd⟩,?_⟩
   refine eO (s:=[.v (.fl (ns.map D.int)),.o φ7,.v (.lst (xs.map D.str)),.v (.tup (ss.map aS)),.v (.tup (us.map aS)),.v (.tup (ps.map au)),.o (.dk []),.v (.tup (qs.map au)),.e,.e]) (aF (av (bS rfl rfl rfl rfl rfl rfl e7) rfl rfl rfl hc) rfl) ?_;exact cz (bS rfl rfl (af (bS rfl rfl (af (a6 rfl rfl hN) rfl) rfl rfl rfl e8) rfl) rfl rfl rfl e9) rfl
  |false=>
   refine⟨qs,φ7,⟨ln pq,fun p hp=>nm _ (pq.mem_iff.mp (AR hp)),pq.nodup_iff.mpr nd⟩,?_⟩;exact cf (s:=[.v (.fl (ns.map D.int)),.o φ7,.v (.lst (xs.map D.str)),.v (.tup (ss.map aS)),.v (.tup (us.map aS)),.v (.tup (ps.map au)),.o (.dk []),.v (.tup (qs.map au)),.e,.e]) (aF (av (bS rfl rfl rfl rfl rfl rfl e7) rfl rfl rfl hc) rfl) rfl
 obtain⟨hPl,hPn,hPd⟩:=hP;obtain⟨f,rfl⟩:=Mx nd hPl;have g:Gv f xs:=⟨nm,fun n hn=>hPn _ (AR hn),by rw[Qc]at hPd;exact hPd,hx⟩
 obtain⟨sf,eL,p8,rfl,_⟩:=dA (fg:=gN 8) (B:=pP) (fun t:Nat=>D.int (t:Int)) (List.range xs.length)
  (fun gone st=>∃p8:Sl,st=[.v (.fl (ns.map D.int)),.o φ,.v (.lst (xs.map D.str)),.v (.tup (ss.map aS)),.v (.tup (us.map aS)),.v (.tup (ps.map au)),.o (fq f (xs.take gone.length)),.v (.tup ((xs.map f).map au)),p8,.e]/\p8.isIo=false)
  (by
   rintro gone k rest st ha ⟨p8,rfl,q8⟩;have h1:(List.range xs.length)[gone.length]?=some k:=by rw[ha,Vf (Qa _),BQ];rfl
   have hk:gone.length<xs.length:=by have:=(Yd.mp h1).1;rwa [Vl]at this
   have hkk:k=gone.length:=by rw[Cd hk]at h1;exact(Option.some.inj h1).symm
   subst hkk;refine⟨_,_,bc rfl q8,Lj nd (Ya hk) hx,.v (.int (gone.length:Int)),?_,rfl⟩
   rw[Xa];rfl)
  (List.range xs.length) [] [.v (.fl (ns.map D.int)),.o φ,.v (.lst (xs.map D.str)),.v (.tup (ss.map aS)),.v (.tup (us.map aS)),.v (.tup (ps.map au)),.o (.dk []),.v (.tup ((xs.map f).map au)),.e,.e] rfl ⟨.e,rfl,rfl⟩
 rw[Vl,CW]at eL;have pm':∀p∈ps,p.2∈xs:=fun p hp=>pp.mem_iff.mp (AR hp);have pl:ps.length<=9:=by have:=pp.length_eq;rw[Za]at this;lia
 have gs:=ws.gd nm (by lia) nd
 have gu:=wu.gd nm (by lia) nd
 have gf:=g.wf ws;have go:=g.wf wu;have r1:=g.ren ws;have r2:=g.ren wu;have wc:=ws.cn nm;have r3:=g.ren wc;have j1:=Ey gf.ne gf.nm gf.ln;have j2:=mJ gs.ne gs.nm gs.ln;have j3:=mJ gu.ne gu.nm gu.ln;have t1:=IA g ws.eok (fun j hj=>IJ hj) SD (ws.jlen hx);rw[<-g.jo ws]at t1;have l1:=EE g pm' (by lia)
 have l2:=rd (ps:=ps.map (iq f)) (fun p hp=>by obtain⟨q,hq,rfl⟩:=Wb.mp hp;exact g.im _ (pm' q hq)) (by rw[Za];lia)
 have l3:=Ia (ps:=ps) (fun p hp=>nm _ (pm' p hp)) (by lia)
 have t2:=IA g (Lg pm') (fun j hj=>Dz hj) Pt (by rw[zQ];lia)
 rw[<-Pq fun p hp=>Iy (nm _ (pm' p hp))]at t2;have b1:=Lc g;rw[Ld g.nd]at b1;have r4:=(g.bk nd).ren (ws.rn (f:=f));have e44:(ss.map (mK f)).map (mK (qa f xs))=ss:=by
  rw[Qc]
  conv=>rhs;rw[<-AL ss]
  refine Ye fun s hs=>?_;show(s.1,(s.2.map (iq f)).map (iq (qa f xs)))=s;rw[Qc];have:s.2.map (iq (qa f xs) ∘ iq f)=s.2.map id:=Ye fun p hp=>Sy g (ws.mem s hs p hp);rw[this,AL]
 rw[e44]at r4;have c1:=k0 gs.ne gs.nm (by have:=gs.ln;lia)
 have gc:=g.wf wc;have c2:=k0 gc.ne gc.nm (by have:=gc.ln;lia)
 have c3:=k0 gf.ne gf.nm (by have:=gf.ln;lia)
 have c4:cn ((cn ss).map (mK f))=cn (ss.map (mK f)):=(Mu gc.ne gc.nm gc.nd gf.ne gf.nd).mpr (by rw[g.jo wc,g.jo ws,zJ gs.ne])
 rw[c4]at c2;obtain⟨c,hc⟩:∃c:Bool,c=true↔D.tup ((jo ss).map jD)=D.tup ((jo us).map jD):=by
  by_cases h:D.tup ((jo ss).map jD)=D.tup ((jo us).map jD)
  ·exact⟨true,fun _=>h,fun _=>rfl⟩
  ·exact⟨false,fun z=>(by cases z),fun z=>absurd z h⟩
 have s1:=Lf gf go (hc.trans (g.iff ws wu).symm);have s2:=IG (Mw (jo ss)) (Mw (jo us)) hc;have wf:=ws.rn (f:=f);have GSf:K12R.GS (ss.map (mK f)):=⟨gf.nm,gf.ne,gf.nd,by have:=gf.ln;lia,by have:=wf.cnt;rw[Za (as:=xs)]at this;lia⟩
 have w1:=K12R.showset_ok GSf;have w2:=K12R.readset_of GSf (K12R.shA_l GSf) (K12R.shA_wt GSf);have dS:∀{N:List Str}{ss:List ar},WF N ss->N.length<=9->cZ 4 [.tup (ss.map aS),.tup (ss.map aS)]=some (.bl true,false):=fun w h=>jq (K12R.dp_set (by have:=w.cnt;lia) fun s hs=>by have:=w.ones s hs;lia)
 have a1:cZ 4 [.tup ((jo (ss.map (mK f))).map jD),.tup ((jo (ss.map (mK f))).map jD)]=some (.bl true,false):=jq (Dy (by have:=wf.jlen (by rw[Za];exact hx);lia) fun j hj=>by have:=IJ hj;lia)
 have a2:cZ 4 [.tup ((zP (ps.map (iq f))).map jD),.tup ((zP (ps.map (iq f))).map jD)]=some (.bl true,false):=jq (Dy (by rw[zQ,Za];lia) fun j hj=>by have:=Dz hj;lia)
 have a3:=dS ws hx;have a4:=dS (wf.cn fun m hm=>by obtain⟨n,hn,rfl⟩:=Wb.mp hm;exact g.im n hn) (by rw[Za];exact hx)
 have a5:=dS wf (by rw[Za];exact hx)
 generalize hS:D.tup (ss.map aS)=S at *;generalize hU:D.tup (us.map aS)=U' at *;generalize hL:D.tup (ps.map au)=L at *;generalize hF:D.tup ((ss.map (mK f)).map aS)=F at *;generalize hG:fq f xs=G at *;refine aI (o:=.rt (.d (.bl true)) [.v (.fl (ns.map D.int)),.o φ,.v (.lst (xs.map D.str)),.v S,.v U',.v L,.v G,.v (.tup ((xs.map f).map au)),p8,.v F]) rfl ?_ rfl;refine am (s:=[.v (.fl (ns.map D.int)),.o (Fl ns 0 0 1 0),.e,.e,.e,.e,.e,.e,.e,.e]) (eG (aE rfl rfl (Kt ns)) rfl) ?_;refine am (s:=[.v (.fl (ns.map D.int)),.o φ2,.o (.lst (xs.map D.str)),.e,.e,.e,.e,.e,.e,.e]) (eG (bS rfl rfl (af (bS rfl rfl rfl rfl rfl rfl e1) rfl) rfl rfl rfl e2) rfl) ?_;refine am (s:=[.v (.fl (ns.map D.int)),.o φ3,.v (.lst (xs.map D.str)),.v S,.e,.e,.e,.e,.e,.e]) (cz (Gh rfl rfl rfl rfl rfl rfl e3) rfl) ?_;refine am (s:=[.v (.fl (ns.map D.int)),.o φ4,.v (.lst (xs.map D.str)),.v S,.v U',.e,.e,.e,.e,.e]) (cz (Gh rfl rfl rfl rfl rfl rfl e4) rfl) ?_;refine am (s:=[.v (.fl (ns.map D.int)),.o φ5,.v (.lst (xs.map D.str)),.v S,.v U',.v L,.e,.e,.e,.e]) (cz (bS rfl rfl rfl rfl rfl rfl e5) rfl) ?_;refine am (s:=[.v (.fl (ns.map D.int)),.o φ5,.v (.lst (xs.map D.str)),.v S,.v U',.v L,.o (.dk []),.e,.e,.e]) (eG rfl rfl) ?_;refine am (s:=[.v (.fl (ns.map D.int)),.o φ6,.v (.lst (xs.map D.str)),.v S,.v U',.v L,.o (.dk []),.v (.tup (qs.map au)),.e,.e]) (cz (bS rfl rfl rfl rfl rfl rfl e6) rfl) ?_;refine am eP ?_;have er:(List.range xs.length).map (fun t:Nat=>D.int (t:Int))=rng 0 xs.length:=by
  unfold rng;exact(Ye fun t _=>by rw[CN])
 rw[er]at eL;refine am (eQ (by have:=gx (st:=[.v (.fl (ns.map D.int)),.o φ,.v (.lst (xs.map D.str)),.v S,.v U',.v L,.o (.dk []),.v (.tup ((xs.map f).map au)),.e,.e]) (fa:=aa (bU cV (aa (aw 2) ae)) ae) (j:=(xs.length:Int)) (af (a6 rfl rfl hN) rfl) rfl ⟨by lia,by lia⟩;rw[Wl]at this;exact this) eL) ?_
 refine am (s:=[.v (.fl (ns.map D.int)),.o φ,.v (.lst (xs.map D.str)),.v S,.v U',.v L,.v G,.v (.tup ((xs.map f).map au)),p8,.v F]) (cz (aE rfl rfl r1) rfl) ?_;refine am (cf (s:=[.v (.fl (ns.map D.int)),.o φ,.v (.lst (xs.map D.str)),.v S,.v U',.v L,.v G,.v (.tup ((xs.map f).map au)),p8,.v F]) (kF (c:=true) (aF (aM (af (aE rfl rfl j1) (af (aE (af (aE rfl rfl j2) rfl) rfl t1) rfl)) rfl a1 rfl) rfl)) rfl) ?_;refine am (cf (s:=[.v (.fl (ns.map D.int)),.o φ,.v (.lst (xs.map D.str)),.v S,.v U',.v L,.v G,.v (.tup ((xs.map f).map au)),p8,.v F]) (kF (c:=true) (aF (aM (af (aE (af (aE rfl rfl l1) rfl) rfl l2) (af (aE (af (aE rfl rfl l3) rfl) rfl t2) rfl)) rfl a2 rfl) rfl)) rfl) ?_;refine am (cf (s:=[.v (.fl (ns.map D.int)),.o φ,.v (.lst (xs.map D.str)),.v S,.v U',.v L,.v G,.v (.tup ((xs.map f).map au)),p8,.v F]) (kF (c:=true) (aF (aM (af (aE (af rfl (af (aE rfl rfl b1) rfl)) rfl r4) rfl) rfl a3 rfl) rfl)) rfl) ?_;refine am (cf (s:=[.v (.fl (ns.map D.int)),.o φ,.v (.lst (xs.map D.str)),.v S,.v U',.v L,.v G,.v (.tup ((xs.map f).map au)),p8,.v F]) (kF (c:=true) (aF (aM (af (aE (af (aE (af (aE rfl rfl c1) rfl) rfl r3) rfl) rfl c2) (af (aE rfl rfl c3) rfl)) rfl a4 rfl) rfl)) rfl) ?_;refine am (cf (s:=[.v (.fl (ns.map D.int)),.o φ,.v (.lst (xs.map D.str)),.v S,.v U',.v L,.v G,.v (.tup ((xs.map f).map au)),p8,.v F]) (aF (av (aM (af rfl (af (aE rfl rfl r2) rfl)) rfl s1 rfl) (av (aE rfl rfl j2) (aE rfl rfl j3) rfl rfl s2) rfl rfl (IH c)) rfl) rfl) ?_;exact aL (aM (af (aE (af (aM rfl rfl w1 rfl) rfl) rfl w2) rfl) rfl a5 rfl)
end
end K12
namespace K12
open L2 VF VF22
def Tx:(["letter"]:List Str).Nodup:=by decide +kernel
def SE:(qR:List Str).Nodup:=by decide +kernel
def SF:(xA:List Str).Nodup:=by decide +kernel
def Ty:(Ks:List Str).Nodup:=by decide +kernel
def Tz:(Er:List Str).Nodup:=by decide +kernel
def SG:(PH:List Str).Nodup:=by decide +kernel
def TB:(["k","ends"]:List Str).Nodup:=by decide +kernel
def SH:(["word"]:List Str).Nodup:=by decide +kernel
def TC:(["group"]:List Str).Nodup:=by decide +kernel
def TD:(["_law_k","_law_flow_here"]:List Str).Nodup:=by decide +kernel
def SI:(["_law_name_here","_law_flow_here"]:List Str).Nodup:=by decide +kernel
def DC:(OC:List Str).Nodup:=by decide +kernel
def IO:(EG:List Str).Nodup:=by decide +kernel
def SK:(["_law_k","_law_found","_law_due"]:List Str).Nodup:=by decide +kernel
def My:(["_law_pair"]:List Str).Nodup:=by decide +kernel
def SL:(Ru:List Str).Nodup:=by decide +kernel
local macro_rules|`(tactic| walk_at "r")=>`(tactic| repeat' first|(with_reducible first|refine yv ?_ ?_|exact Nf _|exact Nk|refine LH ?_ ?_ ?_|exact Ng _|refine Fp ?_ ?_|refine LM ?_ ?_|refine Fq ?_|exact QB|refine Fr ?_|refine yw ?_|refine tP ?_|refine LP ?_ ?_ ?_|exact Nh _|refine ve ?_|exact Jo|refine Fm ?_|refine LN ?_|refine Fk ?_|exact ro_addA|refine F7 ?_|refine Qs ?_ ?_|exact D5|refine yy ?_|exact ro_eqA|exact Nj|refine LK ?_|refine pK ?_ (bY _) (by decide) ?_ ?_|exact sF|refine vn ?_|exact D6|exact wU fun _ _=>.ty _|exact NR|refine vo ?_ ?_ ?_ ?_|exact yF|exact NJ|refine tT ?_ (bY _) ?_|exact GP|exact ro_neA|refine Fv ?_ ?_ ?_|refine yq ?_|exact Qq _|refine LI ?_ ?_|exact Ny|refine LL ?_ ?_ ?_|refine yx ?_|refine LT ?_ ?_ ?_|refine yu ?_ ?_|exact NA|refine L3 ?_ ?_|exact D2|refine Fj ?_ ?_|refine yt ?_ ?_|exact JB|exact Gu|exact Eg|exact Nx|exact FR|exact NM|exact sG|refine pK ?_ (kC (cb (bY _) (cb (bY _) iz))) (by decide) ?_ ?_|exact GQ|exact F5|exact vq|exact Qx|exact NL|exact Gy|exact N4|exact JZ|exact Q1 _|exact N0|exact QN|refine QO ?_|exact yB|refine G7 ?_|exact Qy|exact JA|refine vf _ ?_ ?_|exact Nw|exact NE|exact Ni|refine tT ?_ (kC (cb (bY _) (cb (bY _) iz))) ?_|refine Gg (fun _ _=>El.one (.bl _)) ?_|exact N5|exact wU fun _ _=>.int _|refine vd ?_ ?_ ?_ ?_ ?_|exact wU fun _ _=>.str _|exact sE|refine Ga ?_|exact vO|exact Ka|exact JR|exact G1|refine GG ?_|refine yS ?_|exact vU|refine VT.rd_repl ?_|refine VT.rs_frep ?_|exact vP|refine zk ?_|exact Om false|exact Qz|exact Nz|refine Ft ?_ (kC (cb (bY _) (cb (bY _) iz)))|refine Gc ?_|refine vR (kC (cb (bY _) (cb (bY _) iz))) ?_)|walk_at "s")
local macro_rules|`(tactic| walk_at "s")=>`(tactic| first|refine Qs ?_ ?_|refine pK ?_ (bY _) (by decide) ?_ ?_|exact sF|refine vo ?_ ?_ ?_ ?_|refine tT ?_ (bY _) ?_|refine LT ?_ ?_ ?_|exact FR|exact sG|refine pK ?_ (kC (cb (bY _) (cb (bY _) iz))) (by decide) ?_ ?_|exact vq|exact yB|refine vf _ ?_ ?_|refine tT ?_ (kC (cb (bY _) (cb (bY _) iz))) ?_|exact sE|exact vO|exact vU|exact vP|refine zk ?_|refine Gc ?_|refine yv ?_ ?_|refine LH ?_ ?_ ?_|refine Fp ?_ ?_|refine LM ?_ ?_|refine Fq ?_|refine Fr ?_|refine yw ?_|refine tP ?_|refine LP ?_ ?_ ?_|refine ve ?_|refine Fm ?_|refine LN ?_|refine Fk ?_|refine F7 ?_|refine yy ?_|refine LK ?_|refine vn ?_|refine Fv ?_ ?_ ?_|refine yq ?_|refine LI ?_ ?_|refine LL ?_ ?_ ?_|refine yx ?_|refine yu ?_ ?_|refine L3 ?_ ?_|refine Fj ?_ ?_|refine yt ?_ ?_|refine QO ?_|refine G7 ?_|refine Gg (fun _ _=>El.one (.bl _)) ?_|refine vd ?_ ?_ ?_ ?_ ?_|refine Ga ?_|refine GG ?_|refine yS ?_|refine VT.rd_repl ?_|refine VT.rs_frep ?_|refine Ft ?_ (kC (cb (bY _) (cb (bY _) iz)))|refine vR (kC (cb (bY _) (cb (bY _) iz))) ?_)
section
variable (P:Program)(w:World)(K:W.Frag)(m:Str->Option Value)(b:Heap)
abbrev tm:=Cal P w K m b "is_name" 1 Ep (fB K lD)
abbrev eK:=Cal P w K m b "is_turned" 1 qR (fB K bX)
abbrev dQ:=Cal P w K m b "name_of" 2 qR (fB K bC)
abbrev jZ:=Cal P w K m b "mirrored" 3 qR (fB K ee)
abbrev tq:=Cal P w K m b "is_bead" 3 Ep (fB K om)
abbrev ia:=Cal P w K m b "turned_beads" 4 uQ (fB K dH)
abbrev rm:=Cal P w K m b "beads_in" 1 Ep (fB K jB)
abbrev nN:=Cal P w K m b "canon_open" 5 uQ (fB K jE)
abbrev lP:=Cal P w K m b "first_place" 3 uQ (fB K dB)
abbrev nP:=Cal P w K m b "canon_ring" 5 uQ (fB K jG)
abbrev k6:=Cal P w K m b "canon_strand" 6 xA (fB K dI)
abbrev lQ:=Cal P w K m b "strand_rank" 3 xA (fB K dC)
abbrev uK:=Cal P w K m b "canon" 7 EH (fB K jH)
abbrev IP:=Cal P w K m b "same" 8 PH (fB K xz)
abbrev ib:=Cal P w K m b "renamed_bead" 4 Ks (fB K eT)
abbrev j9:=Cal P w K m b "renamed_beads" 5 Mk (fB K gh)
abbrev k7:=Cal P w K m b "renamed_part" 6 Er (fB K eU)
abbrev tu:=Cal P w K m b "renamed" 7 Hm (fB K dM)
abbrev ie:=Cal P w K m b "left_end" 3 qR (fB K de)
abbrev iK:=Cal P w K m b "right_end" 4 qR (fB K cX)
abbrev j4:=Cal P w K m b "joint_of" 1 ["ends"] (fB K cM)
abbrev k8:=Cal P w K m b "inner_joints" 5 uQ (fB K eV)
abbrev kc:=Cal P w K m b "strand_joints" 6 xA (fB K d7)
abbrev oW:=Cal P w K m b "joints_of" 7 EH (fB K kN)
abbrev lR:=Cal P w K m b "line_joints" 5 ["line"] (fB K iT)
abbrev lS:=Cal P w K m b "show_strand" 1 xA (fB K iV)
abbrev rq:=Cal P w K m b "show_set" 2 EH (fB K mi)
abbrev rz:=Cal P w K m b "words_of" 1 ["text","marks"] (fB K jM)
abbrev rA:=Cal P w K m b "beads_of" 4 Ko (fB K mn)
abbrev lT:=Cal P w K m b "read_strand" 5 Ko (fB K iX)
abbrev k9:=Cal P w K m b "strand_words" 1 Ko (fB K eW)
abbrev lb:=Cal P w K m b "refuse_twice" 3 Ep (fB K g6)
abbrev rB:=Cal P w K m b "read_set" 6 ["text"] (fB K jP)
abbrev rC:=Cal P w K m b "_law_flow" 1 Es (fB K mr)
abbrev dj:=Cal P w K m b "_law_pick" 1 Kr (lV K aA)
abbrev i5:=Cal P w K m b "_law_letters" 2 Kr (lV K dW)
abbrev rD:=Cal P w K m b "_law_name" 3 ["_law_flow_here","_law_stem"] (lV K mv)
abbrev oX:=Cal P w K m b "_law_names" 4 Kr (lV K fT)
abbrev ld:=Cal P w K m b "_law_shuffled" 2 ["_law_flow_here","_law_things"] (lV K hV)
abbrev lf:=Cal P w K m b "_law_mirrored" 1 EG (fB K cS)
abbrev mL:=Cal P w K m b "_law_line" 3 Ho (lV K df)
abbrev tw:=CalD P w K m b "_law_set" 4 Rl [.bl true] (lV K oq)
abbrev rE:=CalD P w K m b "_law_near" 2 Rm [.bl true] (lV K mx)
abbrev oY:=Cal P w K m b "_law_alike" 4 Et (fB K (cZ 4))
abbrev j5:=Cal P w K m b "_law_ends" 1 EG (fB K eu)
abbrev nQ:=Cal P w K m b "_law_joints" 2 ["_law_some"] (fB K dO)
abbrev iL:=Cal P w K m b "_law_line_joints" 2 ["_law_line_here"] (fB K eY)
abbrev tz:=Cal P w K m b "_law_put" 2 Rq (fB K lF)
abbrev rF:=Cal P w K m b "_law_back" 1 ["_law_names_here"] (fB K mB)
end
section
variable {P:Program}{w:World}{K:W.Frag}{m:Str->Option Value}{b:Heap}
def xQ(M:Md P w K m):fv P w K m b "is_name" pQ Ep 0 oi:=fun hr=>⟨_,(ag (bw (PW.pt (uV (kn (cP (cI K M.d (pv 0) (fQ rfl M.k fA)))) (tE (kn (EX Lr Lr ak (cH K M.e (pv 0)) (Jh rfl M.o)))))) (ah (az oH)) aX)
   (ah (az (b9 (qo rfl) rfl M.a boot_all (aj (ce (cx (osc:=(ai pQ)) (ON:=Ep) (N:=["letter"]) (k:=1) (zZ:=[]) (by decide +kernel) rfl rfl) rfl (bW (K:=K) rfl (pv 0)) (fun _ _ _ _=>(bn 0 Tx)) (fun _ _ _ _=>bM) (fun _ _ _ _=>(x9 (w5 (K:=K) rfl) (pv 0) (Jg rfl M.n) (by with_unfolding_all rfl)))) ac))))),by delta oi;delta oS;walk_at "r"⟩
def uL(M:Md P w K m):fv P w K m b "is_turned" ou qR 0 kK:=fun hr=>⟨_,(ah (az (i8 PySem.F.plainAttrs_str PySem.F.slot_str_startswith PySem.F.type_str_startswith rQ (pv 0) (aj aW ac)))),by delta kK;walk_at "r"⟩
def xR(M:Md P w K m)(c1:eK P w K m b):fv P w K m b "name_of" uo qR 1 oj:=fun hr=>⟨_,(ah (az (gF (cP (aq c1 hr rfl (aj (pv 0) ac))) (cq (eN (K:=K) rfl) (pv 0) (cA ak) dY) (pv 0)))),by delta oj;walk_at "r"⟩
def wo(M:Md P w K m)(c1:eK P w K m b)(c2:dQ P w K m b):fv P w K m b "mirrored" ox qR 2 l9:=fun hr=>⟨_,(ah (az (gF (cP (aq c1 hr rfl (aj (pv 0) ac))) (aq c2 hr rfl (aj (pv 0) ac)) (bj K aW (pv 0))))),by delta l9;walk_at "r"⟩
def xS(M:Md P w K m)(c0:tm P w K m b)(c2:dQ P w K m b):fv P w K m b "is_bead" ut Ep 2 ol:=fun hr=>⟨_,(ah (az (nV (cI K M.d (pv 0) (fQ rfl M.k fA)) (qf (aq c0 hr rfl (aj (aq c2 hr rfl (aj (pv 0) ac)) ac)))))),by delta ol;walk_at "r"⟩
def px(M:Md P w K m)(c3:jZ P w K m b):fv P w K m b "turned_beads" gz uQ 3 gQ:=fun hr=>⟨_,(ah (az (bv K M.l (ce (cx (osc:=(ai gz)) (ON:=uQ) (N:=qR) (k:=1) (zZ:=[]) (by decide +kernel) rfl rfl) rfl (vA (K:=K) rfl rfl rfl M.i (pv 0)) (fun _ _ _ _=>(bn 0 SE)) (fun _ _ _ _=>bM) (fun _ _ _ _=>(aq c3 hr rfl (aj (pv 0) ac))))))),by delta gQ;walk_at "r"⟩
def wq(M:Md P w K m):fv P w K m b "beads_in" qS ["thing","beads","part"] 0 jA:=fun hr=>⟨_,(ag (aT 1 scQ27.nd (br ac))
   (ag (eM Ak rfl (bW (K:=K) rfl (pv 0)) (bn 2 scQ27.nd) (ah (bw (cP (cI K M.d (pv 2) (fQ rfl M.k fA))) (ah (bD (bZ (pv 1) (pv 2)))) (ah (bD (i8 PySem.F.plainAttrs_list PySem.F.slot_list_extend PySem.F.type_list_extend (lY (K:=K) rfl rfl) (pv 1) (aj (aB K (pv 2) ak) ac)))))))
   (ah (az (pv 1))))),by delta jA;delta nh;walk_at "r"⟩
def rT(M:Md P w K m)(c2:dQ P w K m b)(c5:ia P w K m b):fv P w K m b "canon_open" mC uQ 4 jC:=fun hr=>⟨_,(ag (bw (aR dr (cH K M.e (pv 0)) ak) (ah (az (bG (aj (aq c2 hr rfl (aj (aB K (pv 0) ak) ac)) ac)))) aX)
   (ag (bw (aR FV (aq c2 hr rfl (aj (aB K (pv 0) ak) ac)) (aq c2 hr rfl (aj (aB K (pv 0) (rX nW ak)) ac))) (ah (az (bv K M.l (pv 0)))) aX)
   (ah (az (aq c5 hr rfl (aj (pv 0) ac)))))),by delta jC;walk_at "r"⟩
def rG(M:Md P w K m)(c2:dQ P w K m b):fv P w K m b "first_place" iG Mk 2 iQ:=fun hr=>⟨_,(ag (tO 1 (cx (osc:=(ai iG)) (ON:=Mk) (N:=qR) (k:=1) (zZ:=[]) (by decide +kernel) rfl rfl) rfl scQ12.nd (bW (K:=K) rfl (pv 0)) (fun _ _ _ _=>(bn 0 SE)) (fun _ _ _ _=>bM) (fun _ _ _ _=>(aq c2 hr rfl (aj (pv 0) ac))))
   (ah (az (i8 PySem.F.plainAttrs_list PySem.F.slot_list_index PySem.F.type_list_index (GU (K:=K) rfl) (pv 1) (aj (b9 (Eh (K:=K) rfl rfl) rfl M.g PyProof.Rows.boot_min (aj (pv 1) ac)) ac))))),by delta iQ;walk_at "r"⟩
def rV(M:Md P w K m)(c1:eK P w K m b)(c5:ia P w K m b)(c8:lP P w K m b):fv P w K m b "canon_ring" mD ["beads","side","begin"] 4 jF:=fun hr=>⟨_,(ag (aT 1 scQ18.nd (gF (cP (aq c1 hr rfl (aj (aB K (pv 0) (aq c8 hr rfl (aj (pv 0) ac))) ac))) (aq c5 hr rfl (aj (pv 0) ac)) (bv K M.l (pv 0))))
   (ag (aT 2 scQ18.nd (aq c8 hr rfl (aj (pv 1) ac)))
   (ah (az (dR (JQ (K:=K) rfl) (cq (yP (K:=K) rfl) (pv 1) (cA (pv 2)) dY) (cq (yP (K:=K) rfl) (pv 1) dY (cA (pv 2)))))))),by delta jF;walk_at "r"⟩
def pA(M:Md P w K m)(c7:nN P w K m b)(c9:nP P w K m b):fv P w K m b "canon_strand" jS xA 5 gR:=fun hr=>⟨_,(ag (bw (aR dr (aB K (pv 0) ak) aW) (ah (az (bG (aj aW (aj (aq c7 hr rfl (aj (aB K (pv 0) ak) ac)) ac))))) aX)
   (ah (az (bG (aj aW (aj (aq c9 hr rfl (aj (aB K (pv 0) ak) ac)) ac)))))),by delta gR;walk_at "r"⟩
def rH(M:Md P w K m)(c2:dQ P w K m b):fv P w K m b "strand_rank" kT xA 2 iR:=fun hr=>⟨_,(ah (az (bG (aj (iC dr (aB K (pv 0) ak) aW) (aj (aq c2 hr rfl (aj (aB K (aB K (pv 0) ak) ak) ac)) ac))))),by delta iR;walk_at "r"⟩
def IQ(M:Md P w K m)(c10:k6 P w K m b)(c11:lQ P w K m b):fv P w K m b "canon" uu EH 6 um:=fun hr=>⟨_,(ah (az (bv K M.l (G2 (K:=K) rfl c11 hr rfl M.j rfl (aj (ce (cx (osc:=(ai uu)) (ON:=EH) (N:=xA) (k:=1) (zZ:=[]) (by decide +kernel) rfl rfl) rfl (bW (K:=K) rfl (pv 0)) (fun _ _ _ _=>(bn 0 SF)) (fun _ _ _ _=>bM) (fun _ _ _ _=>(aq c10 hr rfl (aj (pv 0) ac)))) ac))))),by delta um;walk_at "r"⟩
def Ll(M:Md P w K m)(c12:uK P w K m b):fv P w K m b "same" Hr PH 7 xy:=fun hr=>⟨_,(ah (az (iC (Gr (K:=K) rfl hr.units) (aq c12 hr rfl (aj (pv 0) ac)) (aq c12 hr rfl (aj (pv 1) ac))))),by delta xy;walk_at "r"⟩
def pB(M:Md P w K m)(c1:eK P w K m b)(c2:dQ P w K m b)(c3:jZ P w K m b):fv P w K m b "renamed_bead" jT ["bead","names","told"] 3 gU:=fun hr=>⟨_,(ag (aT 2 scQ9.nd (vM (qm hr) (pv 1) (aq c2 hr rfl (aj (pv 0) ac)) (fun _ _=>rfl)))
   (ah (az (gF (cP (aq c1 hr rfl (aj (pv 0) ac))) (aq c3 hr rfl (aj (pv 2) ac)) (pv 2))))),by delta gU;walk_at "r"⟩
def oF(M:Md P w K m)(c14:ib P w K m b):fv P w K m b "renamed_beads" fK Mk 4 fZ:=fun hr=>⟨_,(ah (az (bv K M.l (ce (cx (osc:=(ai fK)) (ON:=Mk) (N:=Ks) (k:=1) (zZ:=[1]) (by decide +kernel) rfl rfl) rfl (bW (K:=K) rfl (pv 0)) (fun _ _ _ _=>(bn 0 Ty)) (fun _ _ _ _=>bM) (fun _ _ _ _=>(aq c14 hr rfl (aj (pv 0) (aj (pv 1) ac)))))))),by delta fZ;delta dE;walk_at "r"⟩
def pC(M:Md P w K m)(c14:ib P w K m b)(c15:j9 P w K m b):fv P w K m b "renamed_part" jU Er 5 gW:=fun hr=>⟨_,(ag (bw (cP (cI K M.d (pv 0) (fQ rfl M.k fA))) (ah (az (aq c14 hr rfl (aj (pv 0) (aj (pv 1) ac))))) aX)
   (ah (az (bG (aj (aB K (pv 0) ak) (aj (aq c15 hr rfl (aj (aB K (pv 0) ak) (aj (pv 1) ac))) ac)))))),by delta gW;walk_at "r"⟩
def xT(M:Md P w K m)(c16:k7 P w K m b):fv P w K m b "renamed" nB Hm 6 on:=fun hr=>⟨_,(ah (az (bv K M.l (ce (cx (osc:=(ai nB)) (ON:=Hm) (N:=Er) (k:=1) (zZ:=[1]) (by decide +kernel) rfl rfl) rfl (bW (K:=K) rfl (pv 0)) (fun _ _ _ _=>(bn 0 Tz)) (fun _ _ _ _=>bM) (fun _ _ _ _=>(aq c16 hr rfl (aj (pv 0) (aj (pv 1) ac)))))))),by delta on;delta eI;walk_at "r"⟩
def wr(M:Md P w K m)(c1:eK P w K m b)(c2:dQ P w K m b):fv P w K m b "left_end" qT qR 2 md:=fun hr=>⟨_,(ah (az (bG (aj (aq c2 hr rfl (aj (pv 0) ac)) (aj (gF (cP (aq c1 hr rfl (aj (pv 0) ac))) ak ak) ac))))),by delta md;walk_at "r"⟩
def uM(M:Md P w K m)(c3:jZ P w K m b)(c18:ie P w K m b):fv P w K m b "right_end" oy qR 3 kL:=fun hr=>⟨_,(ah (az (aq c18 hr rfl (aj (aq c3 hr rfl (aj (pv 0) ac)) ac)))),by delta kL;walk_at "r"⟩
def wv(M:Md P w K m):fv P w K m b "joint_of" qU ["ends"] 0 me:=fun hr=>⟨_,(ah (az (bv K M.l (b9 (cJ (K:=K) rfl hr) rfl M.j boot_sorted (aj (pv 0) ac))))),by delta me;walk_at "r"⟩
def pD(M:Md P w K m)(c18:ie P w K m b)(c19:iK P w K m b)(c20:j4 P w K m b):fv P w K m b "inner_joints" gA uQ 4 gX:=fun hr=>⟨_,(ah (az (ce (cx (osc:=(ai gA)) (ON:=uQ) (N:=PH) (k:=2) (zZ:=[]) (by decide +kernel) rfl rfl) rfl (Oa (K:=K) rfl rfl rfl rfl M.m (pv 0) (cq (eN (K:=K) rfl) (pv 0) (cA ak) dY)) (fun _ _ _ _=>(jr (K:=K) (n:=2) rfl rfl (cE (bn 0 SG) (cE (bn 1 SG) ji)))) (fun _ _ _ _=>bM) (fun _ _ _ _=>(aq c20 hr rfl (aj (bG (aj (aq c19 hr rfl (aj (pv 0) ac)) (aj (aq c18 hr rfl (aj (pv 1) ac)) ac))) ac)))))),by delta gX;walk_at "r"⟩
def oG(M:Md P w K m)(c18:ie P w K m b)(c19:iK P w K m b)(c20:j4 P w K m b)(c21:k8 P w K m b):fv P w K m b "strand_joints" iZ Rf 5 gi:=fun hr=>⟨_,(ag (aT 1 scQ1.nd (aB K (pv 0) ak))
   (ag (aT 2 scQ1.nd (aq c18 hr rfl (aj (aB K (pv 1) ak) ac)))
   (ag (aT 3 scQ1.nd (aq c19 hr rfl (aj (aB K (pv 1) (rX nW ak)) ac)))
   (ag (aT 4 scQ1.nd (gF (aR dr (aB K (pv 0) ak) aW) (br (aj (bG (aj (pv 2) ac)) (aj (bG (aj (pv 3) ac)) ac))) (br (aj (aq c20 hr rfl (aj (bG (aj (pv 2) (aj (pv 3) ac))) ac)) ac))))
   (ah (az (bj K (aq c21 hr rfl (aj (pv 1) ac)) (pv 4)))))))),by delta gi;walk_at "r"⟩
def uN(M:Md P w K m)(c22:kc P w K m b):fv P w K m b "joints_of" oz ["some","joints","strand"] 6 kM:=fun hr=>⟨_,(ag (aT 1 scQ20.nd (br ac))
   (ag (eM Ak rfl (bW (K:=K) rfl (pv 0)) (bn 2 scQ20.nd) (ah (bD (i8 PySem.F.plainAttrs_list PySem.F.slot_list_extend PySem.F.type_list_extend (lY (K:=K) rfl rfl) (pv 1) (aj (aq c22 hr rfl (aj (pv 2) ac)) ac)))))
   (ah (az (bv K M.l (b9 (cJ (K:=K) rfl hr) rfl M.j boot_sorted (aj (pv 1) ac))))))),by delta kM;walk_at "r"⟩
def rJ(M:Md P w K m)(c18:ie P w K m b)(c19:iK P w K m b)(c20:j4 P w K m b):fv P w K m b "line_joints" iH OD 4 iS:=fun hr=>⟨_,(ag (aT 1 scQ14.nd (br (aj (Me rfl M.p) ac)))
   (ag (eM Ak rfl (bW (K:=K) rfl (pv 0)) (bn 2 scQ14.nd) (ah (bD (i8 PySem.F.plainAttrs_list PySem.F.slot_list_extend PySem.F.type_list_extend (lY (K:=K) rfl rfl) (pv 1) (aj (br (aj (aq c18 hr rfl (aj (pv 2) ac)) (aj (aq c19 hr rfl (aj (pv 2) ac)) ac))) ac)))))
   (ag (bD (bZ (pv 1) (Me rfl M.q)))
   (ah (az (bv K M.l (b9 (cJ (K:=K) rfl hr) rfl M.j boot_sorted (aj (ce (cx (osc:=(ai iH)) (ON:=OD) (N:=["k","ends"]) (k:=1) (zZ:=[1]) (by decide +kernel) rfl rfl) rfl (Ec rfl M.h (aj ak (aj (cH K M.e (pv 1)) (aj ak ac)))) (fun _ _ _ _=>(bn 0 TB)) (fun _ _ _ _=>bM) (fun _ _ _ _=>(aq c20 hr rfl (aj (cq (eN (K:=K) rfl) (pv 1) (cA (pv 0)) (cA (bj K (pv 0) ak))) ac)))) ac)))))))),by delta iS;delta j8;delta j7;walk_at "r"⟩
def rK(M:Md P w K m):fv P w K m b "show_strand" kU ["strand","beads"] 0 iU:=fun hr=>⟨_,(ag (aT 1 scQ10.nd (i8 PySem.F.plainAttrs_str PySem.F.slot_str_join PySem.F.type_str_join (G9 (K:=K) rfl) aW (aj (aB K (pv 0) ak) ac)))
   (ah (az (gF (aR dr (aB K (pv 0) ak) aW) (yO (ll aW (ll (Gi (pv 1)) (ll aW Gj)))) (yO (ll aW (ll (Gi (pv 1)) (ll aW Gj)))))))),by delta iU;walk_at "r"⟩
def ww(M:Md P w K m)(c25:lS P w K m b):fv P w K m b "show_set" nC EH 1 mf:=fun hr=>⟨_,(ah (az (i8 PySem.F.plainAttrs_str PySem.F.slot_str_join PySem.F.type_str_join yn aW (aj (ce (cx (osc:=(ai nC)) (ON:=EH) (N:=xA) (k:=1) (zZ:=[]) (by decide +kernel) rfl rfl) rfl (bW (K:=K) rfl (pv 0)) (fun _ _ _ _=>(bn 0 SF)) (fun _ _ _ _=>bM) (fun _ _ _ _=>(aq c25 hr rfl (aj (pv 0) ac)))) ac)))),by delta mf;delta jI;walk_at "r"⟩
def wx(M:Md P w K m):fv P w K m b "words_of" nE OE 0 jL:=fun hr=>⟨_,(ag (bw (kn (cP (cI K M.d (pv 0) (fQ rfl M.k fA)))) (ah mO) aX)
   (ag (aT 2 scQ24.nd (VT.pe_repl (by decide +kernel) (pv 0)))
   (ag (VT.ps_frep (im:=3) (iy:=2) Ak rfl (pv 1) scQ24.nd rfl rfl (by first|exact Or.inl rfl|exact Or.inr rfl) (by first|exact Or.inl rfl|exact Or.inr rfl) (by decide) VT.cz_b VT.hz_b)
   (ah (az (ce (cx (osc:=(ai nE)) (ON:=OE) (N:=["word"]) (k:=1) (zZ:=[]) (by decide +kernel) rfl rfl) rfl (bW (K:=K) rfl (i8 PySem.F.plainAttrs_str PySem.F.slot_str_split PySem.F.type_str_split GY (pv 2) (aj aW ac))) (fun _ _ _ _=>(bn 0 SH)) (fun _ _ _ _=>Je (aR (gK (K:=K) rfl hr.units) (pv 0) aW)) (fun _ _ _ _=>(pv 0)))))))),by delta jL;delta jK;delta jJ;walk_at "r"⟩
def wy(M:Md P w K m)(c4:tq P w K m b):fv P w K m b "beads_of" nF Ko 3 ml:=fun hr=>⟨_,(ag (bw (kn (cP (b9 (qo rfl) rfl M.a boot_all (aj (ce (cx (osc:=(ai nF)) (ON:=Ko) (N:=["word"]) (k:=1) (zZ:=[]) (by decide +kernel) rfl rfl) rfl (bW (K:=K) rfl (pv 0)) (fun _ _ _ _=>(bn 0 SH)) (fun _ _ _ _=>bM) (fun _ _ _ _=>(aq c4 hr rfl (aj (pv 0) ac)))) ac)))) (ah mO) aX)
   (ah (az (bv K M.l (pv 0))))),by delta ml;delta jN;walk_at "r"⟩
def rL(M:Md P w K m)(c28:rA P w K m b):fv P w K m b "read_strand" kW ["words","beads"] 4 iW:=fun hr=>⟨_,(ag (aT 1 scQ11.nd (aq c28 hr rfl (aj (cq (eN (K:=K) rfl) (pv 0) (cA ak) (cA (rX nW ak))) ac)))
   (ag (bw (PW.pt (uV (mP (xu (K:=K) rfl) (aB K (pv 0) ak) (Q9 rfl M.r) (by with_unfolding_all rfl)) (uV (aR (gK (K:=K) rfl hr.units) (aB K (pv 0) (rX nW ak)) (vT (K:=K) rfl rfl M.s (aB K (pv 0) ak) (fun _ _=>rfl))) (tE (aR dr (cH K M.e (pv 1)) ak))))) (ah mO) aX)
   (ah (az (bG (aj (vT (K:=K) rfl rfl M.r (aB K (pv 0) ak) (fun _ _=>rfl)) (aj (pv 1) ac))))))),by delta iW;walk_at "r"⟩
def pE(M:Md P w K m):fv P w K m b "strand_words" jV ["words","groups","group","word"] 0 gY:=fun hr=>⟨_,(ag (aT 1 scQ3.nd (br ac))
   (ag (aT 2 scQ3.nd (br ac))
   (ag (eM Ak rfl (bW (K:=K) rfl (pv 0)) (bn 3 scQ3.nd) (ag (bD (bZ (pv 2) (pv 3)))
   (ah (bw (mP (w5 (K:=K) rfl) (pv 3) (bG (aj aW (aj aW ac))) (by with_unfolding_all rfl)) (ag (bD (bZ (pv 1) (pv 2)))
   (ah (aT 2 scQ3.nd (br ac)))) aX))))
   (ag (bw (aR (gK (K:=K) rfl hr.units) (pv 2) (br ac)) (ah (bD (bZ (pv 1) (pv 2)))) aX)
   (ah (az (pv 1))))))),by delta gY;delta bi;walk_at "r"⟩
def pF(M:Md P w K m)(c2:dQ P w K m b)(c6:rm P w K m b):fv P w K m b "refuse_twice" jW ["thing","seen","bead","name"] 2 gZ:=fun hr=>⟨_,(ag (aT 1 scQ7.nd qj)
   (ah (eM Ak rfl (bW (K:=K) rfl (aq c6 hr rfl (aj (pv 0) ac))) (bn 2 scQ7.nd) (ag (aT 3 scQ7.nd (aq c2 hr rfl (aj (pv 2) ac)))
   (ag (bw (mP (On (qm hr)) (pv 3) (pv 1) (by with_unfolding_all rfl)) (ah mO) aX)
   (ah (fW oH (iM (pv 1) (pv 3) (lA (qm hr)))))))))),by delta gZ;delta dN;walk_at "r"⟩
def wz(M:Md P w K m)(c27:rz P w K m b)(c29:lT P w K m b)(c30:k9 P w K m b)(c31:lb P w K m b):fv P w K m b "read_set" nG ["text","some"] 5 mo:=fun hr=>⟨_,(ag (aT 1 scQ29.nd (bv K M.l (ce (cx (osc:=(ai nG)) (ON:=["text","some"]) (N:=["group"]) (k:=1) (zZ:=[]) (by decide +kernel) rfl rfl) rfl (bW (K:=K) rfl (aq c30 hr rfl (aj (aq c27 hr rfl (aj (pv 0) (aj aW ac))) ac))) (fun _ _ _ _=>(bn 0 TC)) (fun _ _ _ _=>bM) (fun _ _ _ _=>(aq c29 hr rfl (aj (pv 0) ac))))))
   (ag (bD (aq c31 hr rfl (aj (pv 1) ac)))
   (ah (az (pv 1))))),by delta mo;delta jO;walk_at "r"⟩
def wA(M:Md P w K m):fv P w K m b "_law_flow" xB Es 0 mq:=fun hr=>⟨_,(ah (az (J2 (vN (lh (lX (K:=K) rfl rfl) rfl M.f gJ (aj (pv 0) ac)) (vN ak (vN ak (vN ak (vN ak J1 rfl) rfl) rfl) rfl) rfl)))),by delta mq;walk_at "r"⟩
def wB(M:Md P w K m):fv P w K m b "_law_pick" xC Rg 0 jQ:=fun hr=>⟨_,(ag (bw (PW.pt (qd (aR dr (aB K (pv 0) ak) ak) (mN (aR FV (aB K (pv 0) ak) (cH K M.e (aB K (pv 0) ak)))))) (ag (aT 2 scQ41.nd (aB K (aB K (pv 0) ak) (aB K (pv 0) ak)))
   (ag (fW (bj K (aB K (pv 0) ak) ak) (iM (pv 0) ak set_list))
   (ah (bw (aR P3 (pv 2) (dR ML ak ak)) (ah (fW (pv 2) (iM (pv 0) ak set_list))) (ah (fW (dR kr (bj K (bj K (dR mY (aB K (pv 0) ak) ak) (dR kr (pv 2) ak)) ak) ak) (iM (pv 0) ak set_list))))))) aX)
   (ag (bw (aR Ls (aB K (pv 0) ak) ak) (ag (aT 3 scQ41.nd (dR kr (aB K (pv 0) ak) (pv 1)))
   (ag (fW (dR pI (aB K (pv 0) ak) (pv 1)) (iM (pv 0) ak set_list))
   (ah (az (pv 3))))) aX)
   (ag (fW (bj K (aB K (pv 0) ak) ak) (iM (pv 0) ak set_list))
   (ag (fW (dR kr (bj K (bj K (dR mY (aB K (pv 0) ak) ak) ak) (aB K (pv 0) ak)) ak) (iM (pv 0) ak set_list))
   (ah (az (dR kr (dR pI (dR kr (dR mY (bj K (dR kr (aB K (pv 0) ak) ak) ak) (bj K (dR pI (aB K (pv 0) ak) ak) ak)) ak) ak) (pv 1)))))))),by delta jQ;walk_at "r"⟩
def rM(M:Md P w K m)(c34:dj P w K m b):fv P w K m b "_law_letters" lG Kr 1 iY:=fun hr=>⟨_,(ah (az (i8 PySem.F.plainAttrs_str PySem.F.slot_str_join PySem.F.type_str_join yn aW (aj (ce (cx (osc:=(ai lG)) (ON:=Kr) (N:=["_law_k","_law_flow_here"]) (k:=1) (zZ:=[0]) (by decide +kernel) rfl rfl) rfl (fw rfl M.h (aj (pv 1) ac)) (fun _ _ _ _=>(bn 0 TD)) (fun _ _ _ _=>bM) (fun _ _ _ _=>(aB K aW (aq c34 hr rfl (aj (pv 1) (aj ak ac)))))) ac)))),by delta iY;walk_at "r"⟩
def wC(M:Md P w K m)(c34:dj P w K m b)(c35:i5 P w K m b):fv P w K m b "_law_name" xD Rh 2 mt:=fun hr=>⟨_,(ag (bw (aR (gK (K:=K) rfl hr.units) (pv 1) aW) (ah (az (bj K (pv 1) (aq c35 hr rfl (aj (pv 0) (aj (bj K ak (aq c34 hr rfl (aj (pv 0) (aj ak ac)))) ac)))))) aX)
   (@ag _ _ _ _ _ (bw (aR dr (aq c34 hr rfl (aj (pv 0) (aj ak ac))) ak) (@ag _ _ _ _ _ (@aT _ _ _ _ 2 _ _ scQ42.nd (@br _ _ _ _ (@tN _ _ _ (by rfl))) (by rfl) (by first|exact Or.inl rfl|exact Or.inr rfl) (by first|exact .inl rfl|exact .inr rfl) (by rfl) (by rfl) (by rfl))
   (ag (aT 2 scQ42.nd (bj K (pv 2) (@br _ _ _ _ (@tN _ _ _ (by rfl)))))
   (ah (az (aB K (pv 2) (aq c34 hr rfl (aj (pv 0) (aj ak ac)))))))) aX)
   (ah (az (aq c35 hr rfl (aj (pv 0) (aj (bj K ak (aq c34 hr rfl (aj (pv 0) (aj ak ac)))) ac))))))),by delta mt;walk_at "r"⟩
def uO(M:Md P w K m)(c34:dj P w K m b)(c35:i5 P w K m b)(c36:rD P w K m b):fv P w K m b "_law_names" uv Ri 3 iD:=fun hr=>⟨_,(ag (aT 2 scQ35.nd aW)
   (ag (bw (aR dr (aq c34 hr rfl (aj (pv 0) (aj ak ac))) ak) (ah (aT 2 scQ35.nd (aq c35 hr rfl (aj (pv 0) (aj (bj K ak (aq c34 hr rfl (aj (pv 0) (aj ak ac)))) ac))))) aX)
   (ag (aT 3 scQ35.nd (br ac))
   (ag (eM Ak rfl (fw rfl M.h (aj (pv 1) ac)) (bn 4 scQ35.nd) (ag (aT 5 scQ35.nd (aq c36 hr rfl (aj (pv 0) (aj (pv 2) ac))))
   (ag (aT 6 scQ35.nd ak)
   (ag (uW Ak (mP (w5 (K:=K) rfl) (pv 5) (pv 3) (by with_unfolding_all rfl)) (ag (aT 5 scQ35.nd (dR mY (aB K aW (dR kr (pv 6) ak)) (bj K ak (dR pI (pv 6) ak))))
   (ah (aT 6 scQ35.nd (bj K (pv 6) ak)))))
   (ah (bD (bZ (pv 3) (pv 5))))))))
   (ah (az (pv 3))))))),by delta iD;walk_at "r"⟩
def pG(M:Md P w K m)(c34:dj P w K m b):fv P w K m b "_law_shuffled" mE Rj 1 g9:=fun hr=>⟨_,(ag (aT 2 scQ15.nd (lh (lX (K:=K) rfl rfl) rfl M.f gJ (aj (pv 1) ac)))
   (ag (aT 3 scQ15.nd (br ac))
   (ag (uW Ak (aR (gK (K:=K) rfl hr.units) (pv 2) (br ac)) (ah (bD (bZ (pv 3) (i8 PySem.F.plainAttrs_list PySem.F.slot_list_pop PySem.F.type_list_pop ql (pv 2) (aj (aq c34 hr rfl (aj (pv 0) (aj (cH K M.e (pv 2)) ac))) ac))))))
   (ah (az (pv 3)))))),by delta g9;walk_at "r"⟩
def pH(M:Md P w K m):fv P w K m b "_law_mirrored" mF EG 0 hW:=fun hr=>⟨_,(ag (bw (aR dr (aB K (pv 0) ak) aW) (ah (az (cq (eN (K:=K) rfl) (pv 0) (cA ak) dY))) aX)
   (ah (az (bj K aW (pv 0))))),by delta hW;walk_at "r"⟩
def wD(M:Md P w K m)(c34:dj P w K m b)(c38:ld P w K m b):fv P w K m b "_law_line" uw Ho 2 mw:=fun hr=>⟨_,(ah (az (bv K M.l (ce (cx (osc:=(ai uw)) (ON:=Ho) (N:=["_law_name_here","_law_flow_here"]) (k:=1) (zZ:=[0]) (by decide +kernel) rfl rfl) rfl (bW (K:=K) rfl (aq c38 hr rfl (aj (pv 0) (aj (pv 1) ac)))) (fun _ _ _ _=>(bn 0 SI)) (fun _ _ _ _=>bM) (fun _ _ _ _=>(bj K (dR mY aW (aq c34 hr rfl (aj (pv 1) (aj ak ac)))) (pv 0))))))),by delta mw;walk_at "r"⟩
def xU(M:Md P w K m)(c34:dj P w K m b)(c40:mL P w K m b):fv P w K m b "_law_set" Hs Rk 3 lE:=fun hr=>⟨_,(ag (aT 3 scQ47.nd (br ac))
   (ag (aT 4 scQ47.nd (br ac))
   (ag (eM Ak rfl (bW (K:=K) rfl (aq c40 hr rfl (aj (pv 0) (aj (pv 1) ac)))) (bn 5 scQ47.nd) (ag (bD (bZ (pv 4) (pv 5)))
   (ah (bw (aR dr (aq c34 hr rfl (aj (pv 0) (aj ak ac))) ak) (ag (bD (bZ (pv 3) (bG (aj aW (aj (bv K M.l (pv 4)) ac)))))
   (ah (aT 4 scQ47.nd (br ac)))) (ah (bw (PW.pt (qd (cP (pv 2)) (mN (aR dr (aq c34 hr rfl (aj (pv 0) (aj ak ac))) ak)))) (ag (bD (bZ (pv 3) (bG (aj aW (aj (bv K M.l (pv 4)) ac)))))
   (ah (aT 4 scQ47.nd (br ac)))) aX))))))
   (ag (bw (aR (gK (K:=K) rfl hr.units) (pv 4) (br ac)) (ah (bD (bZ (pv 3) (bG (aj aW (aj (bv K M.l (pv 4)) ac)))))) aX)
   (ah (az (bv K M.l (pv 3)))))))),by delta lE;walk_at "r"⟩
def wE(M:Md P w K m)(c34:dj P w K m b)(c39:lf P w K m b):fv P w K m b "_law_near" oA Hq 1 jR:=fun hr=>⟨_,(ag (tO 3 (cx (osc:=(ai oA)) (ON:=Hq) (N:=OC) (k:=2) (zZ:=[]) (by decide +kernel) rfl rfl) rfl scQ44.nd (bW (K:=K) rfl (pv 1)) (fun _ _ _ _=>(jr (K:=K) (n:=2) rfl rfl (cE (bn 0 DC) (cE (bn 1 DC) ji)))) (fun _ _ _ _=>bM) (fun _ _ _ _=>(bG (aj (pv 0) (aj (lh (lX (K:=K) rfl rfl) rfl M.f gJ (aj (pv 1) ac)) ac)))))
   (ag (eM Ak rfl (fw rfl M.h (aj (aq c34 hr rfl (aj (pv 0) (aj ak ac))) ac)) (bn 4 scQ44.nd) (ah (bw (aR (gK (K:=K) rfl hr.units) (pv 3) (br ac)) (ag (fW (i8 PySem.F.plainAttrs_list PySem.F.slot_list_pop PySem.F.type_list_pop ql (pv 3) (aj (aq c34 hr rfl (aj (pv 0) (aj (cH K M.e (pv 3)) ac))) ac)) (jr (K:=K) (n:=2) rfl rfl (cE (bn 5 scQ44.nd) (cE (bn 6 scQ44.nd) ji))))
   (ag (aT 7 scQ44.nd (aq c34 hr rfl (aj (pv 0) (aj ak ac))))
   (ag (aT 8 scQ44.nd (aq c34 hr rfl (aj (pv 0) (aj (cH K M.e (pv 6)) ac))))
   (ag (aT 9 scQ44.nd (bj K (bj K (pv 8) ak) (aq c34 hr rfl (aj (pv 0) (aj (dR ES (cH K M.e (pv 6)) (pv 8)) ac)))))
   (ag (bw (aR dr (pv 7) ak) (ah (aT 6 scQ44.nd (bj K (bj K (cq (eN (K:=K) rfl) (pv 6) dY (cA (pv 8))) (ce (cx (osc:=(ai oA)) (ON:=Hq) (N:=EG) (k:=1) (zZ:=[]) (by decide +kernel) rfl rfl) rfl (bW (K:=K) rfl (JK (K:=K) rfl (cq (eN (K:=K) rfl) (pv 6) (cA (pv 8)) (cA (pv 9))))) (fun _ _ _ _=>(bn 0 IO)) (fun _ _ _ _=>bM) (fun _ _ _ _=>(aq c39 hr rfl (aj (pv 0) ac))))) (cq (eN (K:=K) rfl) (pv 6) (cA (pv 9)) dY)))) (ah (bw (PW.pt (qd (aR dr (pv 7) ak) (mN (aR Ls (pv 8) ak)))) (ag (bD (bZ (pv 3) (bG (aj aW (aj (cq (eN (K:=K) rfl) (pv 6) dY (cA (pv 8))) ac)))))
   (ag (aT 6 scQ44.nd (cq (eN (K:=K) rfl) (pv 6) (cA (pv 8)) dY))
   (ah (aT 5 scQ44.nd aW)))) (ah (bw (PW.pt (qd (aR dr (pv 7) ak) (mN (aR (gK (K:=K) rfl hr.units) (pv 3) (br ac))))) (ag (aT 10 scQ44.nd (i8 PySem.F.plainAttrs_list PySem.F.slot_list_pop PySem.F.type_list_pop ql (pv 3) (aj (aq c34 hr rfl (aj (pv 0) (aj (cH K M.e (pv 3)) ac))) ac)))
   (ah (aT 6 scQ44.nd (bj K (pv 6) (aB K (pv 10) ak))))) (ah (bw (PW.pt (qd (aR dr (pv 7) ak) (mN (cP (pv 2))))) (ah (aT 5 scQ44.nd (aB K (br (aj aW (aj aW ac))) (aq c34 hr rfl (aj (pv 0) (aj ak ac)))))) aX)))))))
   (ah (bD (bZ (pv 3) (bG (aj (pv 5) (aj (pv 6) ac))))))))))) aX)))
   (ah (az (bv K M.l (ce (cx (osc:=(ai oA)) (ON:=Hq) (N:=OC) (k:=2) (zZ:=[]) (by decide +kernel) rfl rfl) rfl (bW (K:=K) rfl (pv 3)) (fun _ _ _ _=>(jr (K:=K) (n:=2) rfl rfl (cE (bn 0 DC) (cE (bn 1 DC) ji)))) (fun _ _ _ _=>bM) (fun _ _ _ _=>(bG (aj (pv 0) (aj (bv K M.l (pv 1)) ac)))))))))),by delta jR;delta nA;delta nu;delta nq;delta nj;walk_at "r"⟩
def uP{n:Nat}{gs:List D->Option Rz}(M:Md P w K m)(c43:Cal P w K m b "_law_alike" n Et (fB K gs)):fv P w K m b "_law_alike" pR Et n (kO gs):=fun hr=>⟨_,(ag (bw (aR EU (pv 1) EK) (ah (az (iC EU (pv 0) EK))) aX)
   (ag (bw (PW.pt (uV (cP (cI K M.d (pv 1) (fQ rfl M.b jl))) (tE (cP (cI K M.d (pv 0) (fQ rfl M.b jl)))))) (ah (az (nV (cI K M.d (pv 1) (fQ rfl M.b jl)) (nV (cI K M.d (pv 0) (fQ rfl M.b jl)) (qf (iC dr (pv 0) (pv 1))))))) aX)
   (ag (bw (cP (cI K M.d (pv 1) (fQ rfl M.c sx))) (ah (az (nV (cI K M.d (pv 0) (fQ rfl M.c sx)) (qf (iC dr (pv 0) (pv 1)))))) aX)
   (ag (bw (cP (cI K M.d (pv 1) (fQ rfl M.k fA))) (ah (az (nV (cI K M.d (pv 0) (fQ rfl M.k fA)) (qf (iC dr (pv 0) (pv 1)))))) aX)
   (ag (bw (PW.pt (uV (aR (gK (K:=K) rfl hr.units) (cI K M.d (pv 1) (fQ rfl M.l kz)) (cI K M.d (pv 0) (fQ rfl M.l kz))) (tE (aR (gK (K:=K) rfl hr.units) (cI K M.d (pv 1) (fQ rfl M.f gJ)) (cI K M.d (pv 0) (fQ rfl M.f gJ)))))) (ah (az oH)) aX)
   (ah (az (nV (iC dr (cH K M.e (pv 0)) (cH K M.e (pv 1))) (qf (b9 (qo rfl) rfl M.a boot_all (aj (ce (cx (osc:=(ai pR)) (ON:=Et) (N:=["_law_k","_law_found","_law_due"]) (k:=1) (zZ:=[0,1]) (by decide +kernel) rfl rfl) rfl (fw rfl M.h (aj (cH K M.e (pv 1)) ac)) (fun _ _ _ _=>(bn 0 SK)) (fun _ _ _ _=>bM) (fun _ _ _ _=>(aq c43 hr rfl (aj (aB K (pv 1) (pv 0)) (aj (aB K (pv 2) (pv 0)) ac)) (Qa _)))) ac))))))))))),by delta kO;walk_at "r"⟩
def wF(M:Md P w K m):fv P w K m b "_law_ends" xE EG 0 my:=fun hr=>⟨_,(ag (bw (aR dr (aB K (pv 0) ak) aW) (ah (az (bG (aj (bG (aj (cq (eN (K:=K) rfl) (pv 0) (cA ak) dY) (aj ak ac))) (aj (bG (aj (cq (eN (K:=K) rfl) (pv 0) (cA ak) dY) (aj ak ac))) ac))))) aX)
   (ah (az (bG (aj (bG (aj (pv 0) (aj ak ac))) (aj (bG (aj (pv 0) (aj ak ac))) ac)))))),by delta my;walk_at "r"⟩
def rW(M:Md P w K m)(c44:j5 P w K m b):fv P w K m b "_law_joints" nH OF 1 gy:=fun hr=>⟨_,(ag (aT 1 scQ28.nd (br ac))
   (ag (eM Ak rfl (bW (K:=K) rfl (pv 0)) (jr (K:=K) (n:=2) rfl rfl (cE (bn 2 scQ28.nd) (cE (bn 3 scQ28.nd) ji))) (ag (tO 4 (cx (osc:=(ai nH)) (ON:=OF) (N:=EG) (k:=1) (zZ:=[]) (by decide +kernel) rfl rfl) rfl scQ28.nd (bW (K:=K) rfl (pv 3)) (fun _ _ _ _=>(bn 0 IO)) (fun _ _ _ _=>bM) (fun _ _ _ _=>(aq c44 hr rfl (aj (pv 0) ac))))
   (ag (eM Ak rfl (fw rfl M.h (aj (dR ES (cH K M.e (pv 4)) ak) ac)) (bn 5 scQ28.nd) (ah (bD (bZ (pv 1) (bv K M.l (b9 (cJ (K:=K) rfl hr) rfl M.j boot_sorted (aj (br (aj (aB K (aB K (pv 4) (pv 5)) ak) (aj (aB K (aB K (pv 4) (bj K (pv 5) ak)) ak) ac))) ac)))))))
   (ah (bw (aR dr (pv 2) aW) (ah (bD (bZ (pv 1) (bv K M.l (b9 (cJ (K:=K) rfl hr) rfl M.j boot_sorted (aj (br (aj (aB K (aB K (pv 4) (rX nW ak)) ak) (aj (aB K (aB K (pv 4) ak) ak) ac))) ac)))))) (ag (bD (bZ (pv 1) (bG (aj (aB K (aB K (pv 4) ak) ak) ac))))
   (ah (bD (bZ (pv 1) (bG (aj (aB K (aB K (pv 4) (rX nW ak)) ak) ac)))))))))))
   (ah (az (bv K M.l (b9 (cJ (K:=K) rfl hr) rfl M.j boot_sorted (aj (pv 1) ac))))))),by delta gy;delta kR;delta kQ;delta kP;walk_at "r"⟩
def mM(M:Md P w K m)(c44:j5 P w K m b):fv P w K m b "_law_line_joints" di Eu 1 eX:=fun hr=>⟨_,(ag (tO 1 (cx (osc:=(ai di)) (ON:=Eu) (N:=EG) (k:=1) (zZ:=[]) (by decide +kernel) rfl rfl) rfl scQ4.nd (bW (K:=K) rfl (pv 0)) (fun _ _ _ _=>(bn 0 IO)) (fun _ _ _ _=>bM) (fun _ _ _ _=>(aq c44 hr rfl (aj (pv 0) ac))))
   (ag (aT 2 scQ4.nd (bj K (br (aj (bG (aj aW (aj ak ac))) ac)) (ce (cx (osc:=(ai di)) (ON:=Eu) (N:=["_law_pair"]) (k:=1) (zZ:=[]) (by decide +kernel) rfl rfl) rfl (bW (K:=K) rfl (pv 1)) (fun _ _ _ _=>(bn 0 My)) (fun _ _ _ _=>bM) (fun _ _ _ _=>(aB K (pv 0) ak)))))
   (ag (aT 3 scQ4.nd (bj K (ce (cx (osc:=(ai di)) (ON:=Eu) (N:=["_law_pair"]) (k:=1) (zZ:=[]) (by decide +kernel) rfl rfl) rfl (bW (K:=K) rfl (pv 1)) (fun _ _ _ _=>(bn 0 My)) (fun _ _ _ _=>bM) (fun _ _ _ _=>(aB K (pv 0) ak))) (br (aj (bG (aj aW (aj ak ac))) ac))))
   (ah (az (bv K M.l (b9 (cJ (K:=K) rfl hr) rfl M.j boot_sorted (aj (ce (cx (osc:=(ai di)) (ON:=Eu) (N:=Ru) (k:=1) (zZ:=[2,3]) (by decide +kernel) rfl rfl) rfl (fw rfl M.h (aj (cH K M.e (pv 3)) ac)) (fun _ _ _ _=>(bn 0 SL)) (fun _ _ _ _=>bM) (fun _ _ _ _=>(bv K M.l (b9 (cJ (K:=K) rfl hr) rfl M.j boot_sorted (aj (br (aj (aB K (pv 1) (pv 0)) (aj (aB K (pv 2) (pv 0)) ac))) ac))))) ac)))))))),by delta eX;delta gr;delta gq;delta gn;delta gm;walk_at "r"⟩
def xV(M:Md P w K m)(c44:j5 P w K m b):fv P w K m b "_law_put" Ht Ro 1 ot:=fun hr=>⟨_,(ag (aT 2 scQ46.nd (br ac))
   (ag (eM Ak rfl (bW (K:=K) rfl (pv 0)) (bn 3 scQ46.nd) (ag (aT 4 scQ46.nd (br ac))
   (ag (eM Ak rfl (bW (K:=K) rfl (pv 3)) (jr (K:=K) (n:=2) rfl rfl (cE (bn 5 scQ46.nd) (cE (bn 6 scQ46.nd) ji))) (ah (bw (aR dr (pv 5) aW) (ah (bD (bZ (pv 4) (bG (aj (pv 5) (aj (pv 6) ac)))))) (ah (bD (bZ (pv 4) (aB K (aq c44 hr rfl (aj (vM (qm hr) (pv 1) (pv 5) (fun _ _=>rfl)) ac)) (pv 6))))))))
   (ah (bD (bZ (pv 2) (bv K M.l (b9 (cJ (K:=K) rfl hr) rfl M.j boot_sorted (aj (pv 4) ac)))))))))
   (ah (az (bv K M.l (b9 (cJ (K:=K) rfl hr) rfl M.j boot_sorted (aj (pv 2) ac))))))),by delta ot;delta iF;delta iE;walk_at "r"⟩
def wG(M:Md P w K m):fv P w K m b "_law_back" xF Rr 0 mz:=fun hr=>⟨_,(ag (aT 1 scQ38.nd qj)
   (ag (Kg 0 (eM Ak rfl (G3 (pv 0)) (jr (K:=K) (n:=2) rfl rfl (cE (bn 2 scQ38.nd) (cE (bn 3 scQ38.nd) ji))) (ah (bw (aR dr (aB K (pv 3) ak) aW) (ah (fW (bj K aW (pv 2)) (iM (pv 1) (cq (eN (K:=K) rfl) (pv 3) (cA ak) dY) (lA (qm hr))))) (ah (fW (pv 2) (iM (pv 1) (pv 3) (lA (qm hr)))))))))
   (ah (az (pv 1))))),by delta mz;delta eZ;walk_at "r"⟩
def Pv(M:Md P w K m)(c12:uK P w K m b)(c13:IP P w K m b)(c17:tu P w K m b)(c23:oW P w K m b)(c24:lR P w K m b)(c26:rq P w K m b)(c32:rB P w K m b)(c33:rC P w K m b)(c34:dj P w K m b)(c37:oX P w K m b)(c40:mL P w K m b)(c41:tw P w K m b)(c42:rE P w K m b)(c43:oY P w K m b)(c45:nQ P w K m b)(c46:iL P w K m b)(c47:tz P w K m b)(c48:rF P w K m b):fv P w K m b "law" OG Rt 8 Hl:=fun hr=>⟨_,(ag (aT 1 scQ49.nd (aq c33 hr rfl (aj (pv 0) ac)))
   (ag (aT 2 scQ49.nd (aq c37 hr rfl (aj (pv 1) (aj (aq c34 hr rfl (aj (pv 1) (aj ak ac))) ac))))
   (ag (aT 3 scQ49.nd (yp c41 hr rfl (aj (pv 1) (aj (pv 2) ac))))
   (ag (aT 4 scQ49.nd (yp c42 hr rfl (aj (pv 1) (aj (pv 3) ac))))
   (ag (aT 5 scQ49.nd (aq c40 hr rfl (aj (pv 1) (aj (pv 2) ac))))
   (ag (aT 6 scQ49.nd qj)
   (ag (aT 7 scQ49.nd (aq c40 hr rfl (aj (pv 1) (aj (pv 2) ac))))
   (ag (bw (aR (Gs (K:=K) rfl hr.units) (aq c34 hr rfl (aj (pv 1) (aj ak ac))) ak) (ah (aT 7 scQ49.nd (aq c40 hr rfl (aj (pv 1) (aj (aq c37 hr rfl (aj (pv 1) (aj (cH K M.e (pv 2)) ac))) ac))))) aX)
   (ag (eM Ak rfl (fw rfl M.h (aj (cH K M.e (pv 2)) ac)) (bn 8 scQ49.nd) (ah (fW (aB K (pv 7) (pv 8)) (iM (pv 6) (aB K (pv 2) (pv 8)) (lA (qm hr))))))
   (ag (aT 9 scQ49.nd (aq c17 hr rfl (aj (pv 3) (aj (pv 6) ac))))
   (ag (bw (kn (cP (aq c43 hr rfl (aj (aq c23 hr rfl (aj (pv 9) ac)) (aj (aq c47 hr rfl (aj (aq c45 hr rfl (aj (pv 3) ac)) (aj (pv 6) ac))) ac))))) (ah (az oH)) aX)
   (ag (bw (kn (cP (aq c43 hr rfl (aj (aq c24 hr rfl (aj (aq c17 hr rfl (aj (pv 5) (aj (pv 6) ac))) ac)) (aj (aq c47 hr rfl (aj (aq c46 hr rfl (aj (pv 5) ac)) (aj (pv 6) ac))) ac))))) (ah (az oH)) aX)
   (ag (bw (kn (cP (aq c43 hr rfl (aj (aq c17 hr rfl (aj (pv 9) (aj (aq c48 hr rfl (aj (pv 6) ac)) ac))) (aj (pv 3) ac))))) (ah (az oH)) aX)
   (ag (bw (kn (cP (aq c43 hr rfl (aj (aq c12 hr rfl (aj (aq c17 hr rfl (aj (aq c12 hr rfl (aj (pv 3) ac)) (aj (pv 6) ac))) ac)) (aj (aq c12 hr rfl (aj (pv 9) ac)) ac))))) (ah (az oH)) aX)
   (ag (bw (aR (Gs (K:=K) rfl hr.units) (aq c13 hr rfl (aj (pv 9) (aj (aq c17 hr rfl (aj (pv 4) (aj (pv 6) ac))) ac))) (iC (Gr (K:=K) rfl hr.units) (aq c45 hr rfl (aj (pv 3) ac)) (aq c45 hr rfl (aj (pv 4) ac)))) (ah (az oH)) aX)
   (ah (az (aq c43 hr rfl (aj (aq c32 hr rfl (aj (aq c26 hr rfl (aj (pv 9) ac)) ac)) (aj (pv 9) ac)))))))))))))))))))),by delta Hl;delta pP;walk_at "r"⟩
end
set_option maxHeartbeats 0 in
def all_mk{l:W.OpenLaw}{w:World}{K:W.Frag}{h:Heap}{m:Str->Option Value}{fa:Addr}(X:K.In h)(G:h.Ns mainGlobals m)(hfa:m "law"=some (.ref fa))
  (h1:FH K "is_name" pQ)(h2:FH K "is_turned" ou)(h3:FH K "name_of" uo)(h4:FH K "mirrored" ox)(h5:FH K "is_bead" ut)(h6:FH K "turned_beads" gz)(h7:FH K "beads_in" qS)(h8:FH K "canon_open" mC)(h9:FH K "first_place" iG)(h10:FH K "canon_ring" mD)(h11:FH K "canon_strand" jS)(h12:FH K "strand_rank" kT)(h13:FH K "canon" uu)(h14:FH K "same" Hr)(h15:FH K "renamed_bead" jT)(h16:FH K "renamed_beads" fK)(h17:FH K "renamed_part" jU)(h18:FH K "renamed" nB)(h19:FH K "left_end" qT)(h20:FH K "right_end" oy)(h21:FH K "joint_of" qU)(h22:FH K "inner_joints" gA)(h23:FH K "strand_joints" iZ)(h24:FH K "joints_of" oz)(h25:FH K "line_joints" iH)(h26:FH K "show_strand" kU)(h27:FH K "show_set" nC)(h28:FH K "words_of" nE)(h29:FH K "beads_of" nF)(h30:FH K "read_strand" kW)(h31:FH K "strand_words" jV)(h32:FH K "refuse_twice" jW)(h33:FH K "read_set" nG)(h34:FH K "_law_flow" xB)(h35:FH K "_law_pick" xC)(h36:FH K "_law_letters" lG)(h37:FH K "_law_name" xD)(h38:FH K "_law_names" uv)(h39:FH K "_law_shuffled" mE)(h40:FH K "_law_mirrored" mF)(h41:FH K "_law_line" uw)(h42:FHD K "_law_set" Hs [.bool true])(h43:FHD K "_law_near" oA [.bool true])(h44:FH K "_law_alike" pR)(h45:FH K "_law_ends" xE)(h46:FH K "_law_joints" nH)(h47:FH K "_law_line_joints" di)(h48:FH K "_law_put" Ht)(h49:FH K "_law_back" xF)(h50:FH K "law" OG){ct_LETTERS:Tok}(cv_LETTERS:W.nsIn K mainGlobals "LETTERS"=some (some (.str "abcdefghijklmnopqrstuvwxyz" ct_LETTERS))){ct_LONGEST_NAME:Tok}(cv_LONGEST_NAME:W.nsIn K mainGlobals "LONGEST_NAME"=some (some (.int 6 ct_LONGEST_NAME))){cA_POST_AHEAD:Addr}(ca_POST_AHEAD:W.nsIn K mainGlobals "POST_AHEAD"=some (some (.ref cA_POST_AHEAD)))(cg_POST_AHEAD:GV K (.ref cA_POST_AHEAD) (.tup [.str "",.int 1])){cA_POST_BEHIND:Addr}(ca_POST_BEHIND:W.nsIn K mainGlobals "POST_BEHIND"=some (some (.ref cA_POST_BEHIND)))(cg_POST_BEHIND:GV K (.ref cA_POST_BEHIND) (.tup [.str "",.int 0])){cA_KIND_OF:Addr}(ca_KIND_OF:W.nsIn K mainGlobals "KIND_OF"=some (some (.ref cA_KIND_OF)))(cg_KIND_OF:GD l.prog w K cA_KIND_OF [("[","open"),("(","ring")]){cA_CLOSE_OF:Addr}(ca_CLOSE_OF:W.nsIn K mainGlobals "CLOSE_OF"=some (some (.ref cA_CLOSE_OF)))(cg_CLOSE_OF:GD l.prog w K cA_CLOSE_OF [("[","]"),("(",")")])
  (z_all:W.nsIn K mainGlobals "all"=some none) (z_bool:W.nsIn K mainGlobals "bool"=some none) (z_int:W.nsIn K mainGlobals "int"=some none) (z_isinstance:W.nsIn K mainGlobals "isinstance"=some none) (z_len:W.nsIn K mainGlobals "len"=some none) (z_list:W.nsIn K mainGlobals "list"=some none) (z_min:W.nsIn K mainGlobals "min"=some none) (z_range:W.nsIn K mainGlobals "range"=some none) (z_reversed:W.nsIn K mainGlobals "reversed"=some none) (z_sorted:W.nsIn K mainGlobals "sorted"=some none) (z_str:W.nsIn K mainGlobals "str"=some none) (z_tuple:W.nsIn K mainGlobals "tuple"=some none) (z_zip:W.nsIn K mainGlobals "zip"=some none) :
  ∃fd:FuncData,(∀(s:Shared)(v:Value),BindsTo s fd ⟨[v],[]⟩ [("_law_script",v)])/\∀b:Heap,K.In b->b.Ns mainGlobals m->FnOk l.prog w K m b u8 9 fa fd Es (yM K):=by
 have M:Md l.prog w K m:=⟨W.mg_none_of X G z_all,W.mg_none_of X G z_bool,W.mg_none_of X G z_int,W.mg_none_of X G z_isinstance,W.mg_none_of X G z_len,W.mg_none_of X G z_list,W.mg_none_of X G z_min,W.mg_none_of X G z_range,W.mg_none_of X G z_reversed,W.mg_none_of X G z_sorted,W.mg_none_of X G z_str,W.mg_none_of X G z_tuple,W.mg_none_of X G z_zip,⟨_,W.mg_of X G cv_LETTERS⟩,⟨_,W.mg_of X G cv_LONGEST_NAME⟩,cg_POST_AHEAD.glt (W.mg_of X G ca_POST_AHEAD),cg_POST_BEHIND.glt (W.mg_of X G ca_POST_BEHIND),⟨_,W.mg_of X G ca_KIND_OF,cg_KIND_OF⟩,⟨_,W.mg_of X G ca_CLOSE_OF,cg_CLOSE_OF⟩⟩;refine h50.law X G hfa scQ49 (fun _ _ _ _ _ _=>kG fun _=>rfl) Lk fun b=>?_;have c0:tm l.prog w K m b:=h1.cal X G Rv (fun _ _ _ _ _ _=>kG fun _=>rfl) (xQ M);have c1:eK l.prog w K m b:=h2.cal X G Rw (fun _ _ _ _ _ _=>kG fun _=>rfl) (uL M);have c2:dQ l.prog w K m b:=h3.cal X G Rx (fun _ _ _ _ _ _=>kG fun _=>rfl) (xR M c1);have c3:jZ l.prog w K m b:=h4.cal X G Ry (fun _ _ _ _ _ _=>kG fun _=>rfl) (wo M c1 c2);have c4:tq l.prog w K m b:=h5.cal X G RA (fun _ _ _ _ _ _=>kG fun _=>rfl) (xS M c0 c2);have c5:ia l.prog w K m b:=h6.cal X G Tj (fun _ _ _ _ _ _=>kG fun _=>rfl) (px M c3);have c6:rm l.prog w K m b:=h7.cal X G scQ27 (fun _ _ _ _ _ _=>kG fun _=>rfl) (wq M);have c7:nN l.prog w K m b:=h8.cal X G RB (fun _ _ _ _ _ _=>kG fun _=>rfl) (rT M c2 c5);have c8:lP l.prog w K m b:=h9.cal X G scQ12 (fun _ _ _ _ _ _=>kG fun _=>rfl) (rG M c2);have c9:nP l.prog w K m b:=h10.cal X G scQ18 (fun _ _ _ _ _ _=>kG fun _=>rfl) (rV M c1 c5 c8);have c10:k6 l.prog w K m b:=h11.cal X G Tk (fun _ _ _ _ _ _=>kG fun _=>rfl) (pA M c7 c9);have c11:lQ l.prog w K m b:=h12.cal X G RC (fun _ _ _ _ _ _=>kG fun _=>rfl) (rH M c2);have c12:uK l.prog w K m b:=h13.cal X G RD (fun _ _ _ _ _ _=>kG fun _=>rfl) (IQ M c10 c11);have c13:IP l.prog w K m b:=h14.cal X G RE (fun _ _ _ _ _ _=>ze fun _ _=>rfl) (Ll M c12);have c14:ib l.prog w K m b:=h15.cal X G scQ9 (fun _ _ _ _ _ _=>ze fun _ _=>rfl) (pB M c1 c2 c3);have c15:j9 l.prog w K m b:=h16.cal X G Tl (fun _ _ _ _ _ _=>ze fun _ _=>rfl) (oF M c14);have c16:k7 l.prog w K m b:=h17.cal X G Tm (fun _ _ _ _ _ _=>ze fun _ _=>rfl) (pC M c14 c15);have c17:tu l.prog w K m b:=h18.cal X G RF (fun _ _ _ _ _ _=>ze fun _ _=>rfl) (xT M c16);have c18:ie l.prog w K m b:=h19.cal X G RG (fun _ _ _ _ _ _=>kG fun _=>rfl) (wr M c1 c2);have c19:iK l.prog w K m b:=h20.cal X G RI (fun _ _ _ _ _ _=>kG fun _=>rfl) (uM M c3 c18);have c20:j4 l.prog w K m b:=h21.cal X G RJ (fun _ _ _ _ _ _=>kG fun _=>rfl) (wv M);have c21:k8 l.prog w K m b:=h22.cal X G Tn (fun _ _ _ _ _ _=>kG fun _=>rfl) (pD M c18 c19 c20)
 have c22:kc l.prog w K m b:=h23.cal X G scQ1 (fun _ _ _ _ _ _=>kG fun _=>rfl) (oG M c18 c19 c20 c21);have c23:oW l.prog w K m b:=h24.cal X G scQ20 (fun _ _ _ _ _ _=>kG fun _=>rfl) (uN M c22);have c24:lR l.prog w K m b:=h25.cal X G scQ14 (fun _ _ _ _ _ _=>kG fun _=>rfl) (rJ M c18 c19 c20);have c25:lS l.prog w K m b:=h26.cal X G scQ10 (fun _ _ _ _ _ _=>kG fun _=>rfl) (rK M);have c26:rq l.prog w K m b:=h27.cal X G RK (fun _ _ _ _ _ _=>kG fun _=>rfl) (ww M c25);have c27:rz l.prog w K m b:=h28.cal X G scQ24 (fun _ _ _ _ _ _=>ze fun _ _=>rfl) (wx M);have c28:rA l.prog w K m b:=h29.cal X G RL (fun _ _ _ _ _ _=>kG fun _=>rfl) (wy M c4);have c29:lT l.prog w K m b:=h30.cal X G scQ11 (fun _ _ _ _ _ _=>kG fun _=>rfl) (rL M c28);have c30:k9 l.prog w K m b:=h31.cal X G scQ3 (fun _ _ _ _ _ _=>kG fun _=>rfl) (pE M);have c31:lb l.prog w K m b:=h32.cal X G scQ7 (fun _ _ _ _ _ _=>kG fun _=>rfl) (pF M c2 c6);have c32:rB l.prog w K m b:=h33.cal X G scQ29 (fun _ _ _ _ _ _=>kG fun _=>rfl) (wz M c27 c29 c30 c31);have c33:rC l.prog w K m b:=h34.cal X G RM (fun _ _ _ _ _ _=>kG fun _=>rfl) (wA M);have c34:dj l.prog w K m b:=h35.calI X G scQ41 (fun _ _ _ _ _ _=>ze fun _ _=>rfl) (wB M);have c35:i5 l.prog w K m b:=h36.calI X G RN (fun _ _ _ _ _ _=>ze fun _ _=>rfl) (rM M c34);have c36:rD l.prog w K m b:=h37.calI X G scQ42 (fun _ _ _ _ _ _=>ze fun _ _=>rfl) (wC M c34 c35);have c37:oX l.prog w K m b:=h38.calI X G scQ35 (fun _ _ _ _ _ _=>ze fun _ _=>rfl) (uO M c34 c35 c36);have c38:ld l.prog w K m b:=h39.calI X G scQ15 (fun _ _ _ _ _ _=>ze fun _ _=>rfl) (pG M c34);have c39:lf l.prog w K m b:=h40.cal X G RO (fun _ _ _ _ _ _=>kG fun _=>rfl) (pH M);have c40:mL l.prog w K m b:=h41.calI X G RP (fun _ _ _ _ _ _=>ze fun _ _=>rfl) (wD M c34 c38);have c41:tw l.prog w K m b:=h42.calI X G scQ47 (fun _ _ _ _ _ _ _ us hl=>match us,(show us.length=2 by simpa using hl) with|[_,_],_=>⟨_,rfl,rfl⟩) (.cons rfl .nil) (xU M c34 c40)
 have c42:rE l.prog w K m b:=h43.calI X G scQ44 (fun _ _ _ _ _ _ _ us hl=>match us,(show us.length=2 by simpa using hl) with|[_,_],_=>⟨_,rfl,rfl⟩) (.cons rfl .nil) (wE M c34 c39)
 have c43:oY l.prog w K m b:=h44.alike X G RQ (fun _ _ _ _ _ _=>ze fun _ _=>rfl) 20 (fun n u h=>Ev h) (fun n gs hn=>uP M) 4 (by decide)
 have c44:j5 l.prog w K m b:=h45.cal X G RR (fun _ _ _ _ _ _=>kG fun _=>rfl) (wF M);have c45:nQ l.prog w K m b:=h46.cal X G scQ28 (fun _ _ _ _ _ _=>kG fun _=>rfl) (rW M c44);have c46:iL l.prog w K m b:=h47.cal X G scQ4 (fun _ _ _ _ _ _=>kG fun _=>rfl) (mM M c44);have c47:tz l.prog w K m b:=h48.cal X G scQ46 (fun _ _ _ _ _ _=>ze fun _ _=>rfl) (xV M c44);have c48:rF l.prog w K m b:=h49.cal X G scQ38 (fun _ _ _ _ _ _=>kG fun _=>rfl) (wG M);intro _ _ _ _ _ _ _;exact Pv M c12 c13 c17 c23 c24 c26 c32 c33 c34 c37 c40 c41 c42 c43 c45 c46 c47 c48
end K12
open PySem PySem.W PyProof.Rows
set_option maxRecDepth 100000 in
set_option maxHeartbeats 0 in
theorem PySem.Challenge.cw_strandwright_k12_whole_names_are_nothing_holds : PySem.Challenge.rw_strandwright_k12_whole_names_are_nothing.Holds := by
 w_on;o_law;z_head;(case hw=>w_witness2)
 k_fill
 refine VF.walkZ (l:=PySem.Challenge.rw_strandwright_k12_whole_names_are_nothing) (k:=9) rfl rfl ⟨rfl,by decide,by decide⟩ (by decide) ?K ?F
 case K=>intro _;rfl
 case F =>
  intro w mg fa h KX G hmg;refine' K12.all_mk KX G hmg (VF.fh _ _ _ _) (VF.fh _ _ _ _) (VF.fh _ _ _ _) (VF.fh _ _ _ _) (VF.fh _ _ _ _) (VF.fh _ _ _ _) (VF.fh _ _ _ _) (VF.fh _ _ _ _) (VF.fh _ _ _ _) (VF.fh _ _ _ _) (VF.fh _ _ _ _) (VF.fh _ _ _ _) (VF.fh _ _ _ _) (VF.fh _ _ _ _) (VF.fh _ _ _ _) (VF.fh _ _ _ _) (VF.fh _ _ _ _) (VF.fh _ _ _ _) (VF.fh _ _ _ _) (VF.fh _ _ _ _) (VF.fh _ _ _ _) (VF.fh _ _ _ _) (VF.fh _ _ _ _) (VF.fh _ _ _ _) (VF.fh _ _ _ _) (VF.fh _ _ _ _) (VF.fh _ _ _ _) (VF.fh _ _ _ _) (VF.fh _ _ _ _) (VF.fh _ _ _ _) (VF.fh _ _ _ _) (VF.fh _ _ _ _) (VF.fh _ _ _ _) (VF.fh _ _ _ _) (VF.fh _ _ _ _) (VF.fh _ _ _ _) (VF.fh _ _ _ _) (VF.fh _ _ _ _) (VF.fh _ _ _ _) (VF.fh _ _ _ _) (VF.fh _ _ _ _) (VF22.fhd _ _ _ _ _) (VF22.fhd _ _ _ _ _) (VF.fh _ _ _ _) (VF.fh _ _ _ _) (VF.fh _ _ _ _) (VF.fh _ _ _ _) (VF.fh _ _ _ _) (VF.fh _ _ _ _) (VF.fh _ _ _ _) _ _ _ (VF22.gv_tup _ (.cons VF22.gv_str (.cons VF22.gv_int .nil))) _ (VF22.gv_tup _ (.cons VF22.gv_str (.cons VF22.gv_int .nil))) _ (VF22.gd_mk2 _ _ _) _ (VF22.gd_mk2 _ _ _) _ _ _ _ _ _ _ _ _ _ _ _ _
  all_goals try k_is
  all_goals decide

import PyProof.Rows.All
import Wide.All
import OpenK.AllK
import Wide.FinOn
import Lean
import PyProof.EqAt
import PyProof.EqKinds
import PyProof.TupleCall
import KE.KRevIter
import KE.KUnpack
import KE.KIntText
import KE.KSortKey
import PyProof.FString5
import PyProof.StrLawsReplace
import PySem.Challenge.RW_strandwright_k59_all_sets_of_few
set_option maxHeartbeats 20000000
set_option Elab.async false
set_option linter.all false
set_option maxRecDepth 100000
set_option genSizeOfSpec false
namespace PySem.W.Fast
def tw16506507950801924151:=0
def tw18111108242837579980:=0
def tw10043505425885029599:=0
def tw18026787862531426278:=0
def tw4743787071883183041:=0
def tw1994420790146757340:=0
def tw11448023948716285600:=0
def tw1592120024984816799:=0
def tw12273912792687646043:=0
def tw621495969406999828:=0
def tw12435499656583189380:=0
def tw16193354565201929793:=0
def tw14746247576233620576:=0
def tw7070659311116141689:=0
def tw5760983927625522724:=0
def tw4131797852513918071:=0
def tw14807415115987022863:=0
def tw10418990087236421189:=0
def tw282814516894647806:=0
def tw1596760668022343624:=0
def tw7542729852535308781:=0
def tw12667509226345451019:=0
end PySem.W.Fast
abbrev Aa:=@PySem.wpAny_bind
abbrev Ab:=@PySem.wpAny_pure
abbrev Ac:=@PySem.Heap.get?_push_of_some
abbrev Ad:=@decide_eq_false
abbrev Ae:=@if_pos
abbrev Af:=@decide_eq_true
abbrev Ag:=@PyProof.Rows.wpS_pure
abbrev Ah:=@PySem.Heap.get?_push_size
abbrev Ai:=@if_neg
abbrev Aj:=@PySem.Heap.lt_size
abbrev Ak:=@PyProof.Rows.wpS_bind
abbrev Al:=@of_decide_eq_true
abbrev Am:=@PySem.wpAny_newObj_type
abbrev An:=@PySem.wpAny_call_entry
abbrev Ao:=@PySem.wpAny_callSpecial?_slot
abbrev Ap:=@PyProof.Rows.slot_tuple_getitem
abbrev Aq:=@PySem.wpAny_field
abbrev Ar:=@PyProof.Rows.wpS_mono
abbrev As:=@PySem.wpAny_holding
abbrev At:=@PyProof.Rows.wpS_forRange
abbrev Au:=@PySem.PassesOwn.never
abbrev Av:=@PySem.wpAny_mono
abbrev Aw:=@PySem.Heap.get?_update_ne
abbrev Ax:=@PySem.Obj.data_mapFields
abbrev Ay:=@PySem.AutoSeq1.wpAny_loadPart'
abbrev Az:=@PySem.wpAny_truthy_bool
abbrev AA:=@Ne.symm
abbrev AB:=@PySem.wpAny_rule
abbrev AC:=@PySem.Heap.SameBut.update
abbrev AD:=@PyProof.Rows.callWith_type1
abbrev AE:=@Array.toList_append
abbrev AF:=@List.getElem_mem
abbrev AG:=@PySem.wpAny_typeNameOfWhole_keyiter
abbrev AH:=@PySem.wpAny_typeOf
abbrev AI:=@Nat.lt_of_le_of_lt
abbrev AJ:=@PySem.Heap.get?_update_other
abbrev AK:=@PySem.wpAny_specialOf
abbrev AL:=@PySem.wpAny_passesOwn
abbrev AM:=@PySem.wpAny_attempt
abbrev AN:=@PyProof.Rows.listUpdate_at
abbrev AO:=@List.length_filter_le
abbrev AQ:=@List.getElem?_eq_none
abbrev AR:=@PySem.Heap.get?_update_self
abbrev AT:=@Nat.lt_of_succ_lt
abbrev AU:=@List.reverse_cons
abbrev AV:=@List.flatten_cons
abbrev AW:=@PySem.wpAny_setField
abbrev AX:=@PySem.wpAny_of_eq
abbrev AY:=@Array.getElem?_range
abbrev AZ:=@PySem.wpAny_isInstance
abbrev A6:=@PyProof.Rows.listItems_at
abbrev A7:=@Nat.lt_of_not_le
abbrev A8:=@Array.getElem?_eq_getElem
abbrev A9:=@List.flatten_append
abbrev Ba:=@Nat.add_assoc
abbrev Bb:=@List.nil_append
abbrev Bc:=@List.getElem?_take
abbrev Be:=@Array.getElem?_map
abbrev Bg:=@PySem.wpAny_getItem_str_slice
abbrev Bh:=@PySem.Str.length_append
abbrev Bi:=@PySem.Str.cps_append
abbrev Bj:=@Nat.lt_succ_of_lt
abbrev Bk:=@List.getElem?_set
abbrev Bl:=@List.flatMap_singleton
abbrev Bm:=@PySem.builtinLookup_eq_fast
abbrev Bo:=@PySem.Obj.isFreed_of_fields
abbrev Bp:=@PyProof.Rows.wpS_modify
abbrev Bq:=@PySem.wpAny_forIn_list
abbrev Br:=@List.getElem_map
abbrev Bs:=@List.ext_getElem
abbrev Bt:=@PySem.wpAny_newList
abbrev Bu:=@List.any_cons
abbrev Bv:=@PyProof.Rows.get?_update_seq
abbrev Bw:=@Int.emod_nonneg
abbrev Bx:=@List.reverse_append
abbrev Bz:=@PyProof.Rows.wpS_get
abbrev BB:=@PySem.wpAny_Call_Name_kw
abbrev BC:=@PySem.SeqAt.EqAt.of_refs
abbrev BD:=@Nat.sub_add_cancel
abbrev BE:=@Nat.pos_of_ne_zero
abbrev BF:=@Nat.lt_of_le_of_ne
abbrev BG:=@List.zip_cons_cons
abbrev BH:=@List.drop_drop
abbrev BI:=@List.append_of_mem
abbrev BJ:=@Bool.false_eq_true
abbrev BK:=@Array.forIn_toList
abbrev BL:=@List.getElem?_append_left
abbrev BM:=@PySem.wpAny_pyIter_list
abbrev BN:=@Option.isSome_map
abbrev BO:=@List.size_toArray
abbrev BP:=@List.getElem?_eq_getElem
abbrev BQ:=@List.all_cons
abbrev BR:=@Nat.le_of_not_lt
abbrev BS:=@PySem.call_meets
abbrev BT:=@Nat.lt_trans
abbrev BU:=@Nat.add_comm
abbrev BV:=@List.take_of_length_le
abbrev BW:=@List.getElem?_set_self
abbrev BX:=@PySem.Calls.callWith_builtin
abbrev BY:=@PySem.wpAny_loadPart'
abbrev BZ:=@PySem.wpAny_execs_nil
abbrev B0:=@PySem.typeLookup_type
abbrev B1:=@PySem.post_val_or_str
abbrev B2:=@List.getElem?_reverse
abbrev B3:=@List.Perm.append_left
abbrev B4:=@PyProof.Rows.wpS_lift
abbrev B5:=@PySem.sizeLine_eq
abbrev B6:=@PyProof.Rows.seqEpoch_at
abbrev B7:=@PySem.isSubtype_type
abbrev B8:=@List.nodup_nil
abbrev B9:=@Array.size_map
abbrev Ca:=@LawfulBEq.eq_of_beq
abbrev Cb:=@PyProof.Rows.entry_tuple_getitem
abbrev Cc:=@PySem.evalPart_none
abbrev Cd:=@Array.map_map
abbrev Ce:=@PySem.wpAny_tupleItemsOf
abbrev Cg:=@PySem.wpAny_Constant_int
abbrev Ch:=@PySem.typeIs_str
abbrev Ci:=@PyProof.Rows.args_tuple_getitem
abbrev Cj:=@PyProof.Rows.Subscript_
abbrev Ck:=@PySem.SeqAt.EqAt.str_int
abbrev Cn:=@PySem.SeqAt.EqAt.int_str
abbrev Co:=@List.filterMap_map
abbrev Cq:=@Int.natCast_nonneg
abbrev Cr:=@Int.emod_lt_of_pos
abbrev Cs:=@Exists.choose_spec
abbrev Ct:=@PySem.Calls.spliced_cons
abbrev Cu:=@PySem.Calls.Constant_str
abbrev Cw:=@PySem.wpAny_sequenceKey
abbrev Cy:=@PySem.wpAny_dictEntries
abbrev Cz:=@PySem.codeAny_mono
abbrev CB:=@bne_self_eq_false
abbrev CC:=@PySem.Txt.slice_le
abbrev CD:=@PySem.Obj.cls_mapFields
abbrev CF:=@Nat.sub_self
abbrev CG:=@Nat.pred_lt_of_lt
abbrev CH:=@List.map_id'
abbrev CJ:=@List.mapM_toArray
abbrev CK:=@List.length_range
abbrev CL:=@List.getElem?_map
abbrev CM:=@List.ext_getElem?
abbrev CN:=@List.eraseIdx_eq_take_drop_succ
abbrev CO:=@PySem.noFill_tuple_add
abbrev CP:=@map_eq_pure_bind
abbrev CQ:=@beq_self_eq_true
abbrev CS:=@Nat.not_le_of_lt
abbrev CT:=@Nat.min_le_right
abbrev CU:=@Nat.min_eq_right
abbrev CV:=@List.zipIdx_cons
abbrev CW:=@List.getElem_inj
abbrev CY:=@List.drop_length
abbrev CZ:=@PySem.Heap.size_update
abbrev C0:=@PySem.seqIndex_of
abbrev C1:=@List.not_lt
abbrev C2:=@List.map_id
abbrev C3:=@PySem.wpAny_dictEpoch
abbrev C4:=@Nat.not_lt_zero
abbrev C5:=@List.of_mem_zip
abbrev C6:=@List.foldl_cons
abbrev C7:=@List.dropLast_concat_getLast
abbrev C8:=@List.Perm.of_eq
abbrev C9:=@PySem.wpAny_seqItems
abbrev Db:=@PySem.isSubtype_stop
abbrev Dc:=@PySem.SeqAt.RcNeAt.lists_lengths
abbrev Dd:=@List.perm_ext_iff_of_nodup
abbrev De:=@List.mapM_cons
abbrev Df:=@List.length_eraseIdx_of_lt
abbrev Dg:=@List.getElem?_append_right
abbrev Dh:=@PySem.Heap.size_push
abbrev Di:=@PySem.Calls.Name_function_global
abbrev Dj:=@Bool.and_false
abbrev Dk:=@List.getLastD_eq_getLast?
abbrev Dl:=@List.getElem?_zip_eq_some
abbrev Dm:=@PySem.Calls.call_function_entry
abbrev Do:=@List.map_take
abbrev Dq:=@List.map_drop
abbrev Dr:=@List.mapM_nil
abbrev Ds:=@List.eq_of_mem_replicate
abbrev Dt:=@Array.getElem_mem_toList
abbrev Du:=@List.getElem?_replicate
abbrev Dv:=@List.filter_cons_of_pos
abbrev Dw:=@List.filter_cons_of_neg
abbrev Dx:=@Nat.zero_add
abbrev Dy:=@Nat.le_of_eq
abbrev Dz:=@List.range_succ_eq_map
abbrev DB:=@List.map_nil
abbrev DC:=@List.drop_eq_nil_of_le
abbrev DD:=@List.any_map
abbrev DE:=@List.all_map
abbrev DF:=@Int.ediv_one
abbrev DG:=@PyProof.Rows.boot_min
abbrev DH:=@List.perm_append_comm
abbrev DI:=@List.pairwise_flatMap
abbrev DJ:=@List.eraseIdx_sublist
abbrev DK:=@List.eq_nil_or_concat
abbrev DL:=@List.concat_eq_append
abbrev Za:=@BP
abbrev Ya:=@List.length_map
abbrev Xa:=@Nat.le_refl
abbrev Wa:=@List.mem_of_getElem?
abbrev Va:=@List.mem_cons_of_mem
abbrev Qa:=@List.mem_cons_self
abbrev Yb:=@Option.bind_some
abbrev Xb:=@List.getD_eq_getElem?_getD
abbrev Wb:=@List.getElem?_eq_some_iff
abbrev Vb:=@List.mem_singleton
abbrev Qb:=@List.length_append
abbrev Zc:=@BO
abbrev Yc:=@List.mem_map
abbrev Xc:=@Nat.lt_of_lt_of_le
abbrev Wc:=@Array.length_toList
abbrev Vc:=@Option.map_eq_some_iff
abbrev Qc:=@CL
abbrev Zd:=@List.mem_append
abbrev Yd:=@List.map_append
abbrev Xd:=@List.mem_cons
abbrev Wd:=@List.mem_append_right
abbrev Vd:=@List.length_cons
abbrev Qd:=@Nat.le_trans
abbrev Ze:=@Bool.false_ne_true
abbrev Ye:=@BJ
abbrev Xe:=@List.append_assoc
abbrev We:=@Nat.exists_eq_add_one_of_ne_zero
abbrev Ve:=@List.map_cons
abbrev Qe:=@List.append_nil
abbrev Zf:=@List.eq_nil_of_length_eq_zero
abbrev Yf:=@Bool.eq_iff_iff
abbrev Xf:=@List.map_map
abbrev Wf:=@Dg
abbrev Vf:=@Nat.ne_of_lt
abbrev Qf:=@List.getElem?_drop
abbrev Zg:=@Array.perm_iff_toList_perm
abbrev Yg:=@Nat.zero_le
abbrev Xg:=@List.pairwise_cons
abbrev Wg:=@List.pairwise_iff_getElem
abbrev Vg:=@List.mem_range
abbrev Qg:=@List.flatMap_cons
abbrev Zh:=@Nat.succ_pos
abbrev Yh:=@Bool.and_eq_true
abbrev Xh:=@List.take_append_drop
abbrev Wh:=@Array.getElem?_toList
abbrev Vh:=@List.flatMap_append
abbrev Qh:=@List.pairwise_map
abbrev Zi:=@List.nodup_append
abbrev Yi:=@BL
abbrev Xi:=@List.pairwise_append
abbrev Wi:=@Nat.lt_irrefl
abbrev Vi:=@List.mem_append_left
abbrev Qi:=@Nat.le_add_right
abbrev Zj:=@List.mem_flatten
abbrev Yj:=@List.length_pos_iff
abbrev Xj:=@List.map_congr_left
abbrev Wj:=@Nat.add_le_add_left
abbrev Vj:=@List.length_reverse
abbrev Qj:=@List.length_singleton
abbrev Zk:=@List.nodup_cons
abbrev Yk:=@List.length_nil
abbrev Xk:=@List.length_drop
abbrev Vk:=@Array.size_range
abbrev Qk:=@List.perm_middle
abbrev Zl:=@List.drop_eq_getElem_cons
abbrev Yl:=@List.length_replicate
abbrev Xl:=@Nat.le_of_lt
abbrev Wl:=@Nat.ne_of_gt
abbrev Vl:=@List.length_take
abbrev Ql:=@Nat.lt_succ_self
abbrev Zm:=@Array.toList_range
abbrev Ym:=@List.getElem?_of_mem
abbrev Xm:=@List.pairwise_singleton
abbrev Wm:=@List.find?_cons
abbrev Vm:=@List.all_eq_true
abbrev Qm:=@Nat.min_eq_left
abbrev Zn:=@Int.toNat_natCast
abbrev Yn:=@Du
abbrev Xn:=@List.filterMap_cons
abbrev Wn:=@Nat.add_sub_cancel'
namespace PySem
theorem Runs.toks {M:Model} {Γ:Ctx} {p:Pos} {t:Sem Fin} {fs:List Frame} {s s':Shared} {e:End} (h:Runs M Γ p t fs s e s'):s.toks<=s'.toks:=by
 induction h with
 | done=>exact Xa _
 | raise=>exact Xa _
 | yield=>exact Xa _
 | fresh _ ih=>exact Nat.le_of_succ_le ih
 | call _ _ ih1 ih2=>exact Qd ih1 ih2
 | resumeFresh _ _ _ _ ih1 ih2=>exact Qd ih1 ih2
 | resumeSuspended _ _ _ _ ih1 ih2=>exact Qd ih1 ih2
 | segRet _ _ ih1 ih2=>exact Qd ih1 ih2
 | segGen _ _ ih1 ih2=>exact Qd ih1 ih2
 | segSuspGen _ _ _ _ ih1 ih2=>exact Qd ih1 ih2
 | _=>assumption
theorem Wakes.toks {M:Model} {Γ:Ctx} {p:Pos} {g:Nat} {r:Resume} {s s':Shared} {res:GenResult} (h:Wakes M Γ p g r s res s'):s.toks<=s'.toks:=by
 unfold Wakes at h;split at h
 ·exact h.elim
 ·split at h
  ·obtain⟨e,s1,h1,_,_,rfl⟩:=h;exact h1.toks
  ·rw[h.2];exact Xa _
  ·rw[h.2];exact Xa _
 ·obtain⟨e,s1,h1,_,_,rfl⟩:=h;exact h1.toks
 ·rw[h.2];exact Xa _
 ·rw[h.2];exact Xa _
open Sem in
theorem MF {α:Type} {M:Model} {Γ:Ctx} {Q:α->Pos->Shared->Prop} {E:Value->Pos->Shared->Prop} {n:Nat} (t:Sem α):∀{p:Pos} {s:Shared},n<=s.toks->wp M Γ t (fun a p' s'=>n<=s'.toks->Q a p' s') (fun e p' s'=>n<=s'.toks->E e p' s') p s->wp M Γ t Q E p s:=by
 induction t with
 | pure a=>intro p s hs h;rw[wp]at h ⊢;exact h hs
 | raise e=>intro p s hs h;rw[wp]at h ⊢;exact h hs
 | unsupported w=>intro p s hs h;rw[wp]at h;exact h.elim
 | finish e=>intro p s hs h;rw[wp]at h;exact h.elim
 | rule tag k ih=>intro p s hs h;rw[wp]at h ⊢;exact ih _ hs h
 | «at» pos k ih=>intro p s hs h;rw[wp]at h ⊢;exact ih _ hs h
 | load a part k ih=>intro p s hs h;rw[wp]at h ⊢;obtain⟨o,e,h⟩:=h;exact⟨o,e,ih _ hs h⟩
 | update a part f k ih=>intro p s hs h;rw[wp]at h ⊢;exact⟨h.1,ih _ hs h.2⟩
 | alloc o k ih=>intro p s hs h;rw[wp]at h ⊢;exact ih _ hs h
 | loadIfAlive a k ih=>intro p s hs h;rw[wp]at h ⊢;exact ih _ hs h
 | point l k ih=>intro p s hs h;rw[wp]at h ⊢;exact ih _ hs h
 | register a k ih=>intro p s hs h;rw[wp]at h;exact h.elim
 | fresh k ih=>intro p s hs h;rw[wp]at h ⊢;exact ih _ (Nat.le_succ_of_le hs) h
 | ask k ih=>intro p s hs h;rw[wp]at h ⊢;exact ih _ hs h
 | choose src n k ih=>intro p s hs h;rw[wp]at h ⊢;exact⟨h.1,ih _ hs h.2⟩
 | os q l k ih=>intro p s hs h;rw[wp]at h ⊢;exact ih _ hs h
 | call c hd g l k ih=>intro p s hs h;rw[wp]at h ⊢;obtain⟨r,s',h1,h2⟩:=h;exact⟨r,s',h1,ih _ (Qd hs h1.toks) h2⟩
 | handled own k ih=>intro p s hs h;rw[wp]at h ⊢;exact ih _ hs h
 | newGen c k ih=>intro p s hs h;rw[wp]at h ⊢;exact ih _ hs h
 | genState g k ih=>intro p s hs h;rw[wp]at h ⊢;obtain⟨st,e,h⟩:=h;exact⟨st,e,ih _ hs h⟩
 | resume g r l k ih=>intro p s hs h;rw[wp]at h ⊢;obtain⟨res,s',h1,h2⟩:=h;exact⟨res,s',h1,ih _ (Qd hs h1.toks) h2⟩
 | yield v g l k ih=>intro p s hs h;rw[wp]at h;exact h.elim
 | stack k ih=>intro p s hs h;rw[wp]at h ⊢;exact ih _ hs h
 | fork c k ih=>intro p s hs h;rw[wp]at h;exact h.elim
 | thread k ih=>intro p s hs h;rw[wp]at h ⊢;exact ih _ hs h
 | await a t b l k ih=>intro p s hs h;rw[wp]at h;exact h.elim
theorem bV {α:Type} {M:Model} {A:Around} {t:Sem α} {Q:α->Shared->Prop} {E:Value->Shared->Prop} {s:Shared} (h:wpAny M A t (fun a s'=>s.toks<=s'.toks->Q a s') (fun e s'=>s.toks<=s'.toks->E e s') s):wpAny M A t Q E s :=
 fun Γ p hi=>MF t (Xa _) (h Γ p hi)
theorem ol {M:Model} {A:Around} {c:Code} {R:Result->Shared->Prop} {s:Shared} (h:codeAny M A c (fun r s'=>s.toks<=s'.toks->R r s') s):codeAny M A c R s:=fun Γ p hc hb=>by
 obtain⟨r,s',h1,h2⟩:=h Γ p hc hb;exact⟨r,s',h1,h2 h1.toks⟩
end PySem
namespace L2
open PySem PySem.Spec PyProof.Rows
abbrev Key:=Sum Int Str
def qd:Key->Value->Bool
 | .inl k,v=>Value.isInt k v
 | .inr x,v=>Value.isStrOf x v
def OG (w:World):Key->Int
 | .inl k=>hashInt k
 | .inr x=>hashStr w x
theorem bY:∀{k:Key} {v:Value},qd k v=true->(∃i t,k=Sum.inl i/\v=Value.int i t)∨(∃x t,k=Sum.inr x/\v=Value.str x t)
 | .inl i,v,h=>by
  obtain⟨t,e⟩:=Value.isInt_shape (k:=i) (v:=v) h;exact .inl ⟨i,t,rfl,e⟩
 | .inr x,v,h=>by
  obtain⟨t,e⟩:=Value.isStrOf_shape (x:=x) (v:=v) h;exact .inr ⟨x,t,rfl,e⟩
theorem yn (i:Int) (t:Tok):qd (.inl i) (.int i t)=true:=by simp[qd,Value.isInt]
theorem yo (x:Str) (t:Tok):qd (.inr x) (.str x t)=true:=by simp[qd,Value.isStrOf]
theorem Jy (a b:Int):decide ((Sum.inl a:Key)=Sum.inl b)=(a == b):=by
 by_cases e:a=b
 ·subst e;simp
 ·have h:¬ (Sum.inl a:Key)=Sum.inl b:=fun q=>e (Sum.inl.inj q);rw[Ad h];exact(beq_eq_false_iff_ne.mpr e).symm
theorem Jz (a b:Str):decide ((Sum.inr a:Key)=Sum.inr b)=decide (a=b):=by
 by_cases e:a=b
 ·subst e;simp
 ·have h:¬ (Sum.inr a:Key)=Sum.inr b:=fun q=>e (Sum.inr.inj q);rw[Ad h,Ad e]
theorem JA (a:Int) (b:Str):decide ((Sum.inl a:Key)=Sum.inr b)=false:=Ad (fun q=>nomatch q)
theorem JB (a:Str) (b:Int):decide ((Sum.inr a:Key)=Sum.inl b)=false:=Ad (fun q=>nomatch q)
def bj (prog:Program) (w:World):PySem.KeyKind prog w Key where
 is:=qd
 hash:=OG w
 inj:=fun v a b ha hb=>by
  rcases bY ha with⟨i,t,rfl,rfl⟩|⟨x,t,rfl,rfl⟩
  ·rcases bY hb with⟨j,u,rfl,e⟩|⟨y,u,rfl,e⟩
   ·injection e with e1 _;rw[e1]
   ·exact nomatch e
  ·rcases bY hb with⟨j,u,rfl,e⟩|⟨y,u,rfl,e⟩
   ·exact nomatch e
   ·injection e with e1 _;rw[e1]
 byValue:=fun k v h=>by
  rcases bY h with⟨i,t,rfl,rfl⟩|⟨x,t,rfl,rfl⟩<;>rfl
 pyHash:=fun hv h=>by
  rcases bY hv with⟨i,t,rfl,rfl⟩|⟨x,t,rfl,rfl⟩
  ·exact wpAny_pyHash_int h
  ·exact wpAny_pyHash_str h
 eqBool:=fun hu hv h=>by
  rcases bY hu with⟨i,t,rfl,rfl⟩|⟨x,t,rfl,rfl⟩
  ·rcases bY hv with⟨j,u,rfl,rfl⟩|⟨y,u,rfl,rfl⟩
   ·rw[Jy]at h;exact wpAny_eqBool_int h
   ·rw[JA]at h;exact Cn i t y u _ _ _ _ h
  ·rcases bY hv with⟨j,u,rfl,rfl⟩|⟨y,u,rfl,rfl⟩
   ·rw[JB]at h;exact Ck x t j u _ _ _ _ h
   ·rw[Jz]at h;exact wpAny_eqBool_str h
 «strs»:=fun k x t v h=>by
  rcases bY h with⟨i,u,rfl,e⟩|⟨y,u,rfl,e⟩
  ·exact nomatch e
  ·injection e with e1 _
   subst e1;cases v<;>rfl
theorem tf (prog:Program) (w:World) (i:Int) (t:Tok):(bj prog w).is (.inl i) (.int i t)=true:=yn i t
theorem tj (prog:Program) (w:World) (x:Str) (t:Tok):(bj prog w).is (.inr x) (.str x t)=true:=yo x t
end L2
namespace VN
open PySem
section
variable {prog:Program} {w:World} {K:Type} [DecidableEq K] (knd:KeyKind prog w K)
inductive Nst (h:Heap):List (List K)->List Value->Prop
 | nil:Nst h [] []
 | cons {k:List K} {ks:List (List K)} {b:Addr} {vs:List Value}:IsTupleKey knd h k b->Nst h ks vs->Nst h (k::ks) (Value.ref b::vs)
def IsN (h:Heap) (ks:List (List K)) (a:Addr):Prop:=∃o its n,h.get? a=some o/\o.cls=.type "tuple"/\o.data=.seq its n/\Nst knd h ks its.toList
variable {knd}
theorem Nst.one {h:Heap} {x y:List (List K)} {vs:List Value} (p:Nst knd h x vs):Nst knd h y vs->x=y:=by
 induction p generalizing y with
 | nil=>intro q;cases q;rfl
 | cons p1 _ ih =>
  intro q;cases q with
  | cons q1 q2=>rw[p1.inj q1,ih q2]
theorem Nst.len {h:Heap} {x:List (List K)} {vs:List Value} (p:Nst knd h x vs):vs.length=x.length:=by
 induction p with
 | nil=>rfl
 | cons _ _ ih=>rw[Vd,Vd,ih]
theorem Nst.stay {h h':Heap} {x:List (List K)} {vs:List Value} (p:Nst knd h x vs) (f:∀k b,IsTupleKey knd h k b->IsTupleKey knd h' k b):Nst knd h' x vs:=by
 induction p with
 | nil=>exact .nil
 | cons p1 _ ih=>exact .cons (f _ _ p1) ih
theorem IsN.ty {s:Shared} {ks:List (List K)} {a:Addr} (x:IsN knd s.heap ks a):s.TypeIs (.ref a) "tuple":=by
 obtain⟨o,_,_,e,c,_⟩:=x;exact⟨o,e,c⟩
theorem IsN.one {h:Heap} {a:Addr} {x y:List (List K)} (p:IsN knd h x a) (q:IsN knd h y a):x=y:=by
 obtain⟨o1,i1,n1,e1,_,d1,p1⟩:=p;obtain⟨o2,i2,n2,e2,_,d2,p2⟩:=q;rw[e1]at e2;cases e2;rw[d1]at d2;cases d2;exact p1.one p2
theorem IsN.stay {h h':Heap} {k:List (List K)} {a d:Addr} {o:Obj} {es ep} (x:IsN knd h k a) (ho:h.get? d=some o) (hd:o.data=.dict es ep) (hs:Heap.SameBut d h h'):IsN knd h' k a:=by
 obtain⟨o1,i1,n1,e1,c1,d1,p1⟩:=x;refine⟨o1,i1,n1,?_,c1,d1,p1.stay fun k b z=>z.keeps ho hd hs⟩;refine(hs.2 a fun z=>?_).trans e1;rw[z,ho]at e1;cases e1;rw[hd]at d1;cases d1
def zF (knd:KeyKind prog w K) (ks:List (List K)):Int:=reduceHash (Builtin.Tuple.tupleHashOf (ks.map (tupleKeyHash knd)))
def zG (ks:List (List K)):Nat:=(ks.map fun k=>k.length+1).sum+1
variable {A:Around} {E:Value->Shared->Prop} {s:Shared}
theorem JC {ks:List (List K)} {a:Addr} {Q:Int->Shared->Prop} (hu:A.units<cLine) (hv:A.in1.units<cLine) (x:IsN knd s.heap ks a) (q:Q (zF knd ks) { s with toks:=s.toks+zG ks }):wpAny (model prog w) A (pyHash (.ref a)) Q E s:=by
 have ty:=x.ty;obtain⟨o,its,n,e,_,d,p⟩:=x;unfold pyHash
 try unfold pyHashByItsType
 try refine Aa (wpAny_cRoomFor_or (.inr hu) ?_)
 refine Aa (AK ty F.slot_tuple_hash.lookup ?_);rw[show(some (Value.builtin "tuple.__hash__") == some Value.none)=false from by decide +kernel]
 simp only[Ye,if_false];refine Aa (AK ty F.slot_tuple_hash.lookup ?_);simp only[Option.isNone_some,Ye,if_false];refine Aa (wpAny_callSpecialIfBoundUnlessNone?_slot ty F.slot_tuple_hash (An F.slot_tuple_hash ty F.entry_tuple_hash ?_ (F.args_tuple_hash_1 _)));show wpAny _ A.in1 (Builtin.Tuple.tupleItemsOf (.ref a) >>= fun its=>_) _ E s;refine Aa (Ce e d (Aa ?_));rw[← BK];refine Bq _ (fun vs (b:Array Int) s'=>∃g r,g++r=ks/\Nst knd s.heap r vs/\b.toList=g.map (tupleKeyHash knd)/\s'={ s with toks:=s.toks+(g.map fun k=>k.length+1).sum }) _ ?_ ?_ _ _ ⟨[],ks,rfl,p,rfl,rfl⟩
 ·rintro x vs b s' ⟨g,r,e1,p1,e2,rfl⟩;cases p1 with
  | @cons k r c _ k1 p2 =>
   refine Aa (wpAny_pyHash_tuple hv (show IsTupleKey knd s.heap k c from k1) ?_);refine Ab ⟨g++[k],r,by rw[← e1];simp,p2,by simp[e2],?_⟩
   simp only[Yd,List.sum_append,List.map_singleton,List.sum_singleton,Ba]
 ·rintro b s' ⟨g,r,e1,p1,e2,rfl⟩;cases p1;rw[Qe]at e1;subst e1;show wpAny _ A.in1 (retInt (Builtin.Tuple.tupleHashOf b.toList)) _ E _;rw[e2];refine wpAny_ret_mkInt ?_;dsimp only;unfold zF reduceHash at q;generalize Builtin.Tuple.tupleHashOf (g.map (tupleKeyHash knd))=t at q ⊢;unfold pyHashByItsType.reduced;have q':∀z,Q z { s with toks:=s.toks+zG g }->Q z { s with toks:=s.toks+(g.map fun k=>k.length+1).sum+1 }:=fun z y=>y;split at q
  ·next c =>
   rw[Ae c];exact Ab (q' _ q)
  ·next c =>
   rw[Ai c];exact Aa (AB (Ab (q' _ q)))
theorem tm (m:Nat) {its:Array Value} {o:Obj} {n:Nat} {a:Addr} {Q:Bool->Shared->Prop} (ty:s.TypeIs (.ref a) "tuple") (e:s.heap.get? a=some o) (d:o.data=.seq its n) (h:∀v∈its.toList,∀Q':Bool->Shared->Prop,Q' true s->wpAny (model prog w) A (eqIsQuiet m v) Q' E s) (q:Q true s):wpAny (model prog w) A (eqIsQuiet (m+1) (.ref a)) Q E s:=by
 unfold eqIsQuiet;refine Aa (AK ty F.slot_tuple_eq.lookup ?_);show wpAny _ A (isInstance (.ref a) (.type "tuple") >>= fun b=>_) Q E s;refine Aa (AZ ty isSubtype_tuple_tuple ?_);simp only[Bool.not_true,Ye,if_false];refine Aa (C9 e d (Aa ?_));show wpAny _ A (forIn its _ _) _ E s;rw[← BK];refine Bq _ (fun r b s'=>s'=s/\b.1=none/\∀v∈r,v∈its.toList) _ ?_ ?_ _ _ ⟨rfl,rfl,fun v z=>z⟩
 ·rintro v r b s' ⟨rfl,_,hr⟩;refine Aa (h v (hr v (Qa ..)) _ ?_);rw[Ai (by decide)]
  exact Ab ⟨rfl,rfl,fun u hu=>hr u (Va _ hu)⟩
 ·rintro⟨b,u⟩ s' ⟨rfl,hb,_⟩;cases (show b=none from hb);exact Ab q
theorem wg (m:Nat) {ks:List K} {a:Addr} {Q:Bool->Shared->Prop} (x:IsTupleKey knd s.heap ks a) (q:Q true s):wpAny (model prog w) A (eqIsQuiet (m+1) (.ref a)) Q E s:=by
 have ty:=x.typeIs;obtain⟨o,its,n,e,_,d,p⟩:=x;refine tm m ty e d (fun v hv Q' q'=>?_) q;rw[eqIsQuiet_byValue m (p.byValue v hv)];exact Ab q'
theorem Nst.each {h:Heap} {x:List (List K)} {vs:List Value} (p:Nst knd h x vs):∀v∈vs,∃k b,v=.ref b/\IsTupleKey knd h k b:=by
 induction p with
 | nil=>intro v hv;cases hv
 | cons p1 _ ih =>
  intro v hv;rcases Xd.mp hv with rfl|hv
  ·exact⟨_,_,rfl,p1⟩
  ·exact ih v hv
theorem GC {ks:List (List K)} {a:Addr} {Q:Bool->Shared->Prop} (x:IsN knd s.heap ks a) (q:Q true s):wpAny (model prog w) A (eqIsQuiet 8 (.ref a)) Q E s:=by
 have ty:=x.ty;obtain⟨o,its,n,e,_,d,p⟩:=x;refine tm 7 ty e d (fun v hv Q' q'=>?_) q;obtain⟨k,b,rfl,z⟩:=p.each v hv;exact wg 6 z q'
theorem OH {x y:List (List K)} {a b:Addr} {P:Fin->Shared->Prop} (hv:A.units<cLine) (p:IsN knd s.heap x a) (r:IsN knd s.heap y b) (q:P (.done (.ret (.bool (decide (x=y))))) s):wpAny (model prog w) A (Builtin.«tuple.__eq__» ⟨[.ref a,.ref b],[]⟩) P E s:=by
 have ty:=r.ty;obtain⟨o1,i1,n1,e1,_,d1,p1⟩:=p;obtain⟨o2,i2,n2,e2,_,d2,p2⟩:=r;show wpAny _ A (isInstance (.ref b) (.type "tuple") >>= fun z=>_) P E s;refine Aa (AZ ty isSubtype_tuple_tuple ?_);simp only[Bool.not_true,Ye,if_false];refine Aa (Ce e1 d1 (Aa (Ce e2 d2 (Aa ?_))));refine Bq _ (fun r c s'=>s'=s/\c.1=none/\∃x' y' u v,r=u.zip v/\Nst knd s.heap x' u/\Nst knd s.heap y' v/\(x'=y'↔x=y)/\(u.length=v.length↔i1.size=i2.size)) _ ?_ ?_ _ _ ⟨rfl,rfl,x,y,i1.toList,i2.toList,rfl,p1,p2,Iff.rfl,by rw[Wc,Wc]⟩
 ·rintro⟨g,g'⟩ r c s' ⟨rfl,_,x',y',u,v,ez,h1,h2,hx,hl⟩;cases h1 with
  | nil=>cases ez
  | @cons k1 ks1 c1 vs1 k1' t1 =>
   cases h2 with
   | nil=>cases ez
   | @cons k2 ks2 c2 vs2 k2' t2 =>
    cases ez;refine Aa (wpAny_eqBool_tuple hv k1' k2' ?_);by_cases c:k1=k2
    ·rw[Af c,Ai (by decide)]
     refine Ab ⟨rfl,rfl,ks1,ks2,vs1,vs2,rfl,t1,t2,?_,?_⟩
     ·rw[← hx,c];simp
     ·rw[← hl];simp
    ·have no:decide (x=y)=false:=Ad fun z=>c (List.cons.inj (hx.mpr z)).1;rw[no]at q;rw[Ad c,Ae (by decide)]
     exact Aa (Ab (Ab (Ab q)))
 ·rintro⟨c,_⟩ s' ⟨rfl,hc,x',y',u,v,ez,h1,h2,hx,hl⟩;cases (show c=none from hc);have fin:decide (i1.size=i2.size)=decide (x=y):=by
   rw[decide_eq_decide,← hl,← hx];cases h1 with
   | nil =>
    cases h2 with
    | nil=>simp
    | cons _ _=>simp
   | cons _ _ =>
    cases h2 with
    | nil=>simp
    | cons _ _=>cases ez
  rw[← fin]at q;refine Ab ?_;show P (.done (.ret (.bool (i1.size == i2.size)))) s';rw[show(i1.size == i2.size)=decide (i1.size=i2.size) from rfl];exact q
theorem MG {x y:List (List K)} {a b:Addr} {Q:Bool->Shared->Prop} (hu:A.units<cLine) (hv:A.in1.units<cLine) (p:IsN knd s.heap x a) (r:IsN knd s.heap y b) (q:Q (decide (x=y)) s):wpAny (model prog w) A (eqBool (.ref a) (.ref b)) Q E s:=by
 unfold eqBool
 try with_reducible refine As ?_
 by_cases c:a=b
 ·subst c;have:=p.one r;subst this;rw[Af rfl]at q;rw[show(Value.ref a == Value.ref a)=true from by simp,Ae rfl]
  exact Aa (AB (Ab q))
 ·rw[show(Value.ref a == Value.ref b)=false from by simp[c],Ai (by decide)]
  exact Aa (wpAny_richCompare_same_room (op:=.Eq) p.ty r.ty F.slot_tuple_eq (An F.slot_tuple_eq p.ty F.entry_tuple_eq (OH hv p r ⟨_,rfl,nofun,Az q⟩) (F.args_tuple_eq_2 _ _)) hu)
end
end VN
namespace L2
open PySem PySem.Spec PyProof.Rows VN
abbrev bA:=List Key ⊕ List (List Key)
section
variable {prog:Program} {w:World}
def OJ (h:Heap):bA->Addr->Prop
 | .inl ks,a=>IsTupleKey (bj prog w) h ks a
 | .inr ks,a=>ks≠[]/\IsN (bj prog w) h ks a
theorem zH {ks:List Key} {vs:List Value} (p:ItemsAre (bj prog w) ks vs):∀v∈vs,(∃i t,v=.int i t)∨∃x t,v=.str x t:=by
 induction p with
 | nil=>intro v hv;cases hv
 | cons p1 _ ih =>
  intro v hv;rcases Xd.mp hv with rfl|hv
  ·rcases bY p1 with⟨i,t,_,e⟩|⟨x,t,_,e⟩
   ·exact .inl ⟨i,t,e⟩
   ·exact .inr ⟨x,t,e⟩
  ·exact ih v hv
theorem vg {h:Heap} {a:Addr} {x:List Key} {y:List (List Key)} (p:IsTupleKey (bj prog w) h x a) (q:y≠[]/\IsN (bj prog w) h y a):False:=by
 obtain⟨o1,i1,n1,e1,_,d1,p1⟩:=p;obtain⟨hy,o2,i2,n2,e2,_,d2,p2⟩:=q;rw[e1]at e2;cases e2;rw[d1]at d2;cases d2;have b:=zH p1;cases hl:i1.toList with
 | nil =>
  rw[hl]at p2;cases p2;exact hy rfl
 | cons v r =>
  rw[hl]at p2 b;cases p2 with
  | cons _ _ =>
   rcases b _ (Qa ..) with⟨_,_,z⟩|⟨_,_,z⟩<;>cases z
theorem zJ {A:Around} {s:Shared} {x:List Key} {y:List (List Key)} {a b:Addr} (hu:A.units<cLine) (hv:A.in1.units<cLine) (p:IsTupleKey (bj prog w) s.heap x a) (q:y≠[]/\IsN (bj prog w) s.heap y b):SeqAt.EqAt A s (.ref a) (.ref b) false/\SeqAt.EqAt A s (.ref b) (.ref a) false:=by
 have ne:a≠b:=fun z=>by subst z;exact vg p q
 obtain⟨o1,i1,n1,e1,c1,d1,p1⟩:=p;obtain⟨hy,o2,i2,n2,e2,c2,d2,p2⟩:=q;have t1:s.heap.IsTuple a i1:=⟨o1,e1,c1,n1,d1⟩;have t2:s.heap.IsTuple b i2:=⟨o2,e2,c2,n2,d2⟩;have b1:=zH p1;have b2:=p2.each;have at1:∀j (h:j<i1.size),(∃i t,i1[j]=.int i t)∨∃x t,i1[j]=.str x t:=fun j h=>b1 _ (Dt h);have at2:∀j (h:j<i2.size),∃(c:Addr) (its:Array Value),i2[j]=.ref c/\s.heap.IsTuple c its:=fun j h=>by
  obtain⟨k,c,e,z⟩:=b2 _ (Dt h);obtain⟨o,its,n,e3,c3,d3,_⟩:=z;exact⟨c,its,e,o,e3,c3,n,d3⟩
 have n0:0<i2.size:=by
  have:=p2.len;rw[Wc]at this;rw[this];exact Yj.mpr hy
 have fin:∀(k m:Nat),0<m->((List.range (min k m)).all (fun _=>false)&&k == m)=false:=fun k m hm=>by
  by_cases c:k=0
  ·subst c;have:(0 == m)=false:=by rw[beq_eq_false_iff_ne];lia
   rw[this,Dj]
  ·rw[Bool.and_eq_false_iff];left;rw[List.all_eq_false];exact⟨0,Vg.mpr (by lia),by decide⟩
 constructor
 ·refine BC ne ?_;rw[← fin i1.size i2.size n0];refine SeqAt.RcAt.tuples t1 t2 hu fun j h1 h2=>?_;obtain⟨c,its,e,t⟩:=at2 j h2;rw[e];rcases at1 j h1 with⟨i,tt,z⟩|⟨x,tt,z⟩<;>rw[z]
  ·exact SeqAt.EqAt.int_tuple _ _ t hv
  ·exact SeqAt.EqAt.str_tuple _ _ t hv
 ·refine BC (AA ne) ?_;have fin2:((List.range (min i2.size i1.size)).all (fun _=>false)&&i2.size == i1.size)=false:=by
   rw[Nat.min_comm,show(i2.size == i1.size)=(i1.size == i2.size) from Bool.beq_comm ..];exact fin _ _ n0
  rw[← fin2];refine SeqAt.RcAt.tuples t2 t1 hu fun j h1 h2=>?_;obtain⟨c,its,e,t⟩:=at2 j h1;rw[e];rcases at1 j h2 with⟨i,tt,z⟩|⟨x,tt,z⟩<;>rw[z]
  ·exact SeqAt.EqAt.tuple_int _ _ t hv
  ·exact SeqAt.EqAt.tuple_str _ _ t hv
end
def lw (prog:Program) (w:World):HeapKind prog w bA where
 is:=OJ (prog:=prog) (w:=w)
 hash:=fun k=>match k with|.inl ks=>tupleKeyHash (bj prog w) ks|.inr ks=>zF (bj prog w) ks
 draws:=fun k=>match k with|.inl ks=>ks.length+1|.inr ks=>zG ks
 room:=fun A=>A.units<cLine/\A.in1.units<cLine
 inj:=fun {h a x y} p q=>by
  cases x with
  | inl x =>
   cases y with
   | inl y=>exact congrArg Sum.inl (IsTupleKey.inj (show IsTupleKey (bj prog w) h x a from p) (show IsTupleKey (bj prog w) h y a from q))
   | inr y=>exact(vg (show IsTupleKey (bj prog w) h x a from p) q).elim
  | inr x =>
   cases y with
   | inl y=>exact(vg (show IsTupleKey (bj prog w) h y a from q) p).elim
   | inr y=>exact congrArg Sum.inr (IsN.one (show IsN (bj prog w) h x a from p.2) (show IsN (bj prog w) h y a from q.2))
 keeps:=fun {h h' k a d o es ep} x ho hd hs=>by
  cases k with
  | inl k=>exact IsTupleKey.keeps (show IsTupleKey (bj prog w) h k a from x) ho hd hs
  | inr k=>exact⟨x.1,IsN.stay x.2 ho hd hs⟩
 pyHash:=fun {A E s k a Q} hu x q=>by
  cases k with
  | inl k=>exact wpAny_pyHash_tuple hu.1 (show IsTupleKey (bj prog w) s.heap k a from x) q
  | inr k=>exact JC hu.1 hu.2 x.2 q
 eqBool:=fun {A E s x y a b Q} hu p r q=>by
  cases x with
  | inl x =>
   cases y with
   | inl y=>exact wpAny_eqBool_tuple hu.1 (show IsTupleKey (bj prog w) s.heap x a from p) (show IsTupleKey (bj prog w) s.heap y b from r) (by rw[show decide (x=y)=decide ((Sum.inl x:bA)=Sum.inl y) from by simp];exact q)
   | inr y=>exact(zJ hu.1 hu.2 (show IsTupleKey (bj prog w) s.heap x a from p) r).1 _ _ _ _ (by rw[show decide ((Sum.inl x:bA)=Sum.inr y)=false from Ad nofun]at q;exact q)
  | inr x =>
   cases y with
   | inl y=>exact(zJ hu.1 hu.2 (show IsTupleKey (bj prog w) s.heap y b from r) p).2 _ _ _ _ (by rw[show decide ((Sum.inr x:bA)=Sum.inl y)=false from Ad nofun]at q;exact q)
   | inr y=>exact MG hu.1 hu.2 p.2 r.2 (by rw[show decide (x=y)=decide ((Sum.inr x:bA)=Sum.inr y) from by simp];exact q)
 quiet:=fun {A E s k a Q} x q=>by
  cases k with
  | inl k=>exact wg 7 (show IsTupleKey (bj prog w) s.heap k a from x) q
  | inr k=>exact GC x.2 q
theorem kr {prog:Program} {w:World} {A:Around} (hu:A.units+2<cLine):(lw prog w).room A.in1:=⟨AT hu,hu⟩
end L2
namespace L2
open PySem PySem.Spec PyProof.Rows
inductive V where
 | non|bl (b:Bool)|int (i:Int)|str (x:Str)|byt (b:Array UInt8)|flt (b:UInt64)|ref (a:Addr)|ty (n:String)
 deriving DecidableEq
def RelV:V->Value->Prop
 | .non,u=>u=Value.none
 | .bl b,u=>u=Value.bool b
 | .int i,u=>∃t,u=Value.int i t
 | .str x,u=>∃t,u=Value.str x t
 | .byt b,u=>∃t,u=Value.bytes b t
 | .flt b,u=>∃t,u=Value.float b t
 | .ref a,u=>u=Value.ref a
 | .ty n,u=>u=Value.type n
abbrev Vals:List V->List Value->Prop:=Paired RelV
theorem Vals.length {xs:List V} {us:List Value} (r:Vals xs us):xs.length=us.length:=Paired.length r
theorem Vals.get:∀{xs:List V} {us:List Value} {i:Nat} {x:V},Vals xs us->xs[i]?=some x->∃u,us[i]?=some u/\RelV x u
 | _,_,_,_,.nil,e=>by simp at e
 | _,_,0,_,.cons r _,e=>by simp at e;subst e;exact⟨_,rfl,r⟩
 | _,_,i+1,x,.cons _ t,e=>by
  obtain⟨u,h1,h2⟩:=Vals.get (i:=i) (x:=x) t (by simpa using e)
  exact⟨u,by simpa using h1,h2⟩
theorem Vals.set {x:V} {u:Value} (r:RelV x u):∀{xs:List V} {us:List Value} (i:Nat),Vals xs us->Vals (xs.set i x) (us.set i u)
 | _,_,_,.nil=>.nil
 | _,_,0,.cons _ t=>.cons r t
 | _,_,i+1,.cons q t=>.cons q (Vals.set r i t)
theorem Vals.append:∀{xs ys:List V} {us ws:List Value},Vals xs us->Vals ys ws->Vals (xs++ys) (us++ws)
 | _,_,_,_,.nil,s=>s
 | _,_,_,_,.cons r t,s=>.cons r (Vals.append t s)
theorem Vals.take:∀{xs:List V} {us:List Value} (n:Nat),Vals xs us->Vals (xs.take n) (us.take n)
 | _,_,0,_=>.nil
 | _,_,_+1,.nil=>.nil
 | _,_,n+1,.cons r t=>.cons r (Vals.take n t)
theorem Vals.drop:∀{xs:List V} {us:List Value} (n:Nat),Vals xs us->Vals (xs.drop n) (us.drop n)
 | _,_,0,r=>r
 | _,_,_+1,.nil=>.nil
 | _,_,n+1,.cons _ t=>Vals.drop n t
def RelO:Option V->Option Value->Prop
 | some v,some u=>RelV v u
 | none,none=>True
 | _,_=>False
def KV {κ:Type}:List (κ×V)->List (κ×Value)->Prop:=Paired fun(p:κ×V) (q:κ×Value)=>p.1=q.1/\RelV p.2 q.2
def kV:Key->V
 | .inl i=>.int i
 | .inr x=>.str x
inductive HO where
  | lst (xs:List V)
  | tup (xs:List V)
  | dK (kvs:List (Key×V))|dT (ep:Nat×List Addr) (kvs:List (bA×V))
  | set (S:Int->Bool) (n:Nat)
  | ins (C dx:Addr) (fs:List (Str×V))
  | own (x:Addr)
  | xd (fs:List (Str×V))
  | met (f x:Addr)
  | rng (lo hi:Int)
  | frz (o:Obj) (u:HO)
  | tbl (ps:Array Value)
  | ext (φ:Heap->Prop)
abbrev Hp:=Addr->Option HO
def TupK (H:Hp) (a:Addr):bA->Prop
 | .inl ks=>H a=some (.tup (ks.map kV))
 | .inr ks=>ks≠[]/\∃bs:List Addr,H a=some (.tup (bs.map V.ref))/\Paired (fun b k=>H b=some (.tup (List.map kV k))) bs ks
def upd (H:Hp) (a:Addr) (o:HO):Hp:=fun b=>if b=a then some o else H b
theorem bx {H:Hp} {a:Addr} {o:HO}:upd H a o a=some o:=by unfold upd;rw[Ae rfl]
theorem aN {H:Hp} {a b:Addr} {o:HO} (h:b≠a):upd H a o b=H b:=by unfold upd;rw[Ai h]
theorem MH {H:Hp} {a b:Addr} {o u:HO} (h:H a=some o) (h':H b=some u) (d:o≠u):a≠b:=by
 intro e;subst e;rw[h]at h';exact d (Option.some.inj h')
theorem bz {H:Hp} {a b:Addr} {o:HO} (h:H a=some o) (h':H b=none):a≠b:=by
 intro e;subst e;rw[h]at h';cases h'
section
variable (P:Program) (w:World)
def ObjOk (H:Hp) (h:Heap) (a:Addr):HO->Prop
 | .lst xs=>xs.length<=sizeLine/\∃(its:List Value) (n:Nat),Vals xs its/\h.get? a=some { cls:=.type "list",data:=.seq its.toArray n }
 | .tup xs=>xs.length<=sizeLine/\∃its:List Value,Vals xs its/\IsTup h a its.toArray
 | .dK kvs=>kvs.length<=sizeLine/\(a == sysModules)=false/\∃vs,KV kvs vs/\h.DictOf (bj P w) a vs
 | .dT ep kvs=>kvs.length<=sizeLine/\(a == sysModules)=false/\∃xs:List (bA×Addr×Value),
   Paired (fun(p:bA×V) (q:bA×Addr×Value)=>p.1=q.1/\TupK H q.2.1 p.1/\RelV p.2 q.2.2) kvs xs /\
   xs.map (·.2.1)=ep.2/\∃o es,h.get? a=some o/\o.ExactDict/\o.data=.dict es ep.1/\es.toList=xs.map (entryOfKey (lw P w))/\(xs.map (·.1)).Nodup
 | .set S n=>h.SetOf (intKind P w) a S n
 | .ins C dx fs=>H dx=some (.own a)/\fs.length<=1000/\dx≠a/\h.get? a=some (PySem.W.instObj C dx) /\
   ∃mA,h.Ns1 dx mA/\(∀f,RelO (fs.lookup f) (mA f))/\PySem.Within mA (fs.map (·.1))
 | .own _=>∃o,h.get? a=some o
 | .xd fs=>∃mA,h.Ns1 a mA/\∀f,RelO (fs.lookup f) (mA f)
 | .rng lo hi=>∃t u v,h.get? a=some { cls:=.type "range",data:=.fields #[.int lo t,.int hi u,.int 1 v] }
 | .frz o u=>h.get? a=some o/\ObjOk H h a u
 | .tbl ps=>h.get? a=some { cls:=.none,data:=.fields ps }
 | .met f x=>h.get? a=some (PySem.W.methodObj (.ref f) (.ref x))
 | .ext φ=>φ h/\(∃o,h.get? a=some o)/\∀h1 h2:Heap,φ h1->(∀o,h1.get? a=some o->h2.get? a=some o)->φ h2
def HOk (H:Hp) (h:Heap):Prop:=∀a o,H a=some o->ObjOk P w H h a o
end
section
variable {P:Program} {w:World} {H H':Hp} {h h':Heap} {a:Addr} {o:HO}
theorem ObjOk.lt (x:ObjOk P w H h a o):a<h.objs.size:=by
 cases o with
 | lst xs=>obtain⟨_,_,_,_,e⟩:=x;exact Aj e
 | tup xs=>obtain⟨_,_,_,p⟩:=x;exact p.lt
 | dK kvs=>obtain⟨_,_,_,_,o,_,_,e,_⟩:=x;exact Aj e
 | dT ep kvs=>obtain⟨_,_,_,_,_,o,_,e,_⟩:=x;exact Aj e
 | set S n=>obtain⟨o,_,_,_,e,_⟩:=x;exact Aj e
 | ins C dx fs=>obtain⟨_,_,_,e,_⟩:=x;exact Aj e
 | own y=>obtain⟨_,e⟩:=x;exact Aj e
 | xd fs=>obtain⟨_,⟨_,_,_,e,_⟩,_⟩:=x;exact Aj e
 | rng lo hi=>obtain⟨_,_,_,e⟩:=x;exact Aj e
 | frz ob u=>obtain⟨e,_⟩:=x;exact Aj e
 | tbl ps=>exact Aj (show h.get? a=some _ from x)
 | met f y=>exact Aj (show h.get? a=some _ from x)
 | ext φ=>obtain⟨_,⟨_,e⟩,_⟩:=x;exact Aj e
theorem Paired.mapP {α β:Type} {F G:α->β->Prop}:∀{l₁:List α} {l₂:List β},Paired F l₁ l₂->(∀a b,F a b->G a b)->Paired G l₁ l₂
 | _,_,.nil,_=>.nil
 | _,_,.cons r t,f=>.cons (f _ _ r) (Paired.mapP t f)
theorem TupK.stay (ht:∀b xs,H b=some (.tup xs)->H' b=some (.tup xs)):∀{k:bA},TupK H a k->TupK H' a k
 | .inl _,h=>ht _ _ h
 | .inr _,h=>let ⟨n,bs,e,r⟩:=h;⟨n,bs,ht _ _ e,Paired.mapP r fun _ _ z=>ht _ _ z⟩
theorem ObjOk.stay (x:ObjOk P w H h a o) (k:∀b u,(b=a∨H b=some (.own a))->h.get? b=some u->h'.get? b=some u)
  (ho:∀b,H b=some (.own a)->H' b=some (.own a)) (ht:∀b xs,H b=some (.tup xs)->H' b=some (.tup xs)):ObjOk P w H' h' a o:=by
 induction o with
 | lst xs=>obtain⟨z,its,n,r,e⟩:=x;exact⟨z,its,n,r,k _ _ (.inl rfl) e⟩
 | tup xs=>obtain⟨z,its,r,ob,e,c⟩:=x;exact⟨z,its,r,ob,k _ _ (.inl rfl) e,c⟩
 | dK kvs=>obtain⟨z,y,vs,r,ob,es,ep,e,c⟩:=x;exact⟨z,y,vs,r,ob,es,ep,k _ _ (.inl rfl) e,c⟩
 | dT ep kvs =>
  obtain⟨z,y,xs,r,ra,ob,es,e,c⟩:=x;exact⟨z,y,xs,Paired.mapP r fun p q z=>⟨z.1,TupK.stay ht z.2.1,z.2.2⟩,ra,ob,es,k _ _ (.inl rfl) e,c⟩
 | set S n=>obtain⟨ob,es,ep,t,e,c⟩:=x;exact⟨ob,es,ep,t,k _ _ (.inl rfl) e,c⟩
 | ins C dx fs =>
  obtain⟨d,z,ne,e,mA,⟨od,es,ep,e2,c⟩,r⟩:=x;exact⟨ho _ d,z,ne,k _ _ (.inl rfl) e,mA,⟨od,es,ep,k _ _ (.inr d) e2,c⟩,r⟩
 | own y=>obtain⟨ob,e⟩:=x;exact⟨ob,k _ _ (.inl rfl) e⟩
 | xd fs=>obtain⟨mA,⟨od,es,ep,e,c⟩,r⟩:=x;exact⟨mA,⟨od,es,ep,k _ _ (.inl rfl) e,c⟩,r⟩
 | rng lo hi=>obtain⟨t,u,v,e⟩:=x;exact⟨t,u,v,k _ _ (.inl rfl) e⟩
 | frz ob u ih=>obtain⟨e,q⟩:=x;exact⟨k _ _ (.inl rfl) e,ih q⟩
 | tbl ps =>
  have e:h.get? a=some { cls:=.none,data:=.fields ps }:=x;show h'.get? a=some { cls:=.none,data:=.fields ps };exact k a _ (.inl rfl) e
 | met f y =>
  have e:h.get? a=some (PySem.W.methodObj (.ref f) (.ref y)):=x;show h'.get? a=some (PySem.W.methodObj (.ref f) (.ref y));exact k a _ (.inl rfl) e
 | ext φ=>obtain⟨p,⟨o,e⟩,st⟩:=x;exact⟨st _ _ p fun o q=>k _ _ (.inl rfl) q,⟨o,k _ _ (.inl rfl) e⟩,st⟩
theorem HOk.lt (x:HOk P w H h) (e:H a=some o):a<h.objs.size:=(x a o e).lt
theorem HOk.fresh (x:HOk P w H h) (e:h.objs.size<=a):H a=none:=by
 cases q:H a with
 | none=>rfl
 | some u=>exact absurd (Xc (x.lt q) e) (Wi _)
theorem HOk.kept (x:HOk P w H h) (k:∀b u,h.get? b=some u->h'.get? b=some u):HOk P w H h':=fun a o e =>
 (x a o e).stay (fun b u _ q=>k b u q) (fun _ q=>q) fun _ _ q=>q
theorem HOk.laid (x:HOk P w H h) (k:∀b u,h.get? b=some u->h'.get? b=some u) (hp:h.objs.size<=a) (new:ObjOk P w (upd H a o) h' a o):HOk P w (upd H a o) h':=fun b u e=>by
 have hn:=x.fresh hp;by_cases hb:b=a
 ·subst hb;rw[bx]at e;cases e;exact new
 ·rw[aN hb]at e;exact(x b u e).stay (fun c v _ q=>k c v q) (fun c q=>by rw[aN (bz q hn)];exact q) fun c xs q=>by rw[aN (bz q hn)];exact q
end
def Rd (H:Hp) (a:Addr) (u:HO):Prop:=H a=some u∨∃o,H a=some (.frz o u)
theorem Rd.ok {P:Program} {w:World} {H:Hp} {h:Heap} {a:Addr} {u:HO} (r:Rd H a u) (x:HOk P w H h):ObjOk P w H h a u:=by
 rcases r with r|⟨o,r⟩
 ·exact x a u r
 ·obtain⟨_,q⟩:=x a _ r;exact q
def MI:Option HO->Prop
 | some (.lst _)=>True
 | some (.dK _)=>True
 | some (.dT _ _)=>True
 | some (.set _ _)=>True
 | some (.ins _ _ _)=>True
 | some (.ext _)=>True
 | _=>False
section
variable {P:Program} {w:World} {H:Hp} {h h':Heap} {x e:Addr} {o':HO}
theorem HOk.write (ok:HOk P w H h) (mu:MI (H x)) (he:e=x∨H e=some (.own x)) (k:∀b u,b≠e->h.get? b=some u->h'.get? b=some u) (heo:∃u,h'.get? e=some u)
  (new:ObjOk P w (upd H x o') h' x o'):HOk P w (upd H x o') h':=fun b u q=>by
 have nown:∀c y,H c=some (.own y)->c≠x:=fun c y r z=>by subst z;rw[r]at mu;exact mu
 have ntup:∀c xs,H c=some (.tup xs)->c≠x:=fun c xs r z=>by subst z;rw[r]at mu;exact mu
 by_cases hb:b=x
 ·subst hb;rw[bx]at q;cases q;exact new
 ·rw[aN hb]at q;by_cases hbe:b=e
  ·have q':H b=some (.own x):=by
    rcases he with z|z
    ·exact absurd (hbe.trans z) hb
    ·rw[hbe];exact z
   rw[q]at q';cases q';obtain⟨v,hv⟩:=heo;exact⟨v,by rw[hbe];exact hv⟩
  ·refine(ok b u q).stay (fun c v hc r=>k c v ?_ r) (fun c r=>by rw[aN (nown c b r)];exact r) fun c xs r=>by rw[aN (ntup c xs r)];exact r
   rcases hc with rfl|hc
   ·exact hbe
   ·rintro rfl;rcases he with z|z
    ·exact nown c b hc z
    ·rw[hc]at z;cases z;exact hb rfl
end
structure Un (fs ex:List Addr) (H H':Hp) (h h':Heap):Prop where
 keep:∀b o,h.get? b=some o->H b=none->b∉fs->b∉ex->h'.get? b=some o
 slot:∀b o,h.get? b=some o->H b=none->b∈fs->b∉ex->∃sl,h'.get? b=some { o with slots:=sl }
 free:∀b o,h.get? b=some o->H b=none->b∉ex->H' b=none
 there:∀b o,h.get? b=some o->b∉ex->∃o',h'.get? b=some o'
 tups:∀b xs,H b=some (.tup xs)->H' b=some (.tup xs)
 frzs:∀b o u,H b=some (.frz o u)->H' b=some (.frz o u)
 tbls:∀b ps,H b=some (.tbl ps)->∃more,H' b=some (.tbl (ps++more))
section
variable {fs fs' ex ex':List Addr} {H H1 H2:Hp} {h h1 h2 h':Heap} {a x e:Addr} {o:HO}
theorem Un.any (u:Un fs ex H H1 h h1) {b:Addr} {ob:Obj} (q:h.get? b=some ob) (n:H b=none) (hx:b∉ex):∃sl,h1.get? b=some { ob with slots:=sl }:=by
 by_cases hb:b∈fs
 ·exact u.slot b ob q n hb hx
 ·exact⟨ob.slots,u.keep b ob q n hb hx⟩
theorem Un.kept (k:∀b u,h.get? b=some u->h'.get? b=some u):Un fs ex H H h h' :=
 ⟨fun b ob q _ _ _=>k b ob q,fun b ob q _ _ _=>⟨ob.slots,k b ob q⟩,fun _ _ _ n _=>n,fun b ob q _=>⟨ob,k b ob q⟩,fun _ _ q=>q,fun _ _ _ q=>q,fun _ ps q=>⟨#[],by rw[q];simp⟩⟩
theorem Un.refl:Un fs ex H H h h:=Un.kept fun _ _ q=>q
theorem Un.laid (k:∀b u,h.get? b=some u->h'.get? b=some u) (hp:h.objs.size<=a) (hn:H a=none):Un fs ex H (upd H a o) h h' where
 keep:=fun b u q _ _ _=>k b u q
 slot:=fun b u q _ _ _=>⟨u.slots,k b u q⟩
 free:=fun b u q n _=>by rw[aN (Vf (Xc (Aj q) hp))];exact n
 there:=fun b u q _=>⟨u,k b u q⟩
 tups:=fun b xs q=>by rw[aN (bz q hn)];exact q
 frzs:=fun b u xs q=>by rw[aN (bz q hn)];exact q
 tbls:=fun b ps q=>⟨#[],by rw[aN (bz q hn),q];simp⟩
theorem Un.write (mu:MI (H x)) (he:e=x∨H e=some (.own x)) (k:∀b u,b≠e->h.get? b=some u->h'.get? b=some u) (heo:∃u,h'.get? e=some u):Un fs ex H (upd H x o) h h':=by
 have hx:∀b,H b=none->b≠x:=fun b n z=>by subst z;rw[n]at mu;exact mu
 have hb:∀b,H b=none->b≠e:=fun b n z=>by
  subst z;rcases he with r|r
  ·exact hx b n r
  ·rw[n]at r;cases r
 have hm:∀b u,H b=some u->¬ MI (some u)->b≠x:=fun b u q nm z=>by subst z;rw[q]at mu;exact nm mu
 refine⟨fun b u q n _ _=>k b u (hb b n) q,fun b u q n _ _=>⟨u.slots,k b u (hb b n) q⟩,fun b u q n _=>by rw[aN (hx b n)];exact n,fun b u q _=>?_,
  fun b xs q=>by rw[aN (hm b _ q fun z=>z)];exact q,fun b u xs q=>by rw[aN (hm b _ q fun z=>z)];exact q,fun b ps q=>⟨#[],by rw[aN (hm b _ q fun z=>z),q];simp⟩⟩
 by_cases hbe:b=e
 ·subst hbe;exact heo
 ·exact⟨u,k b u hbe q⟩
end
def Oq (h:Heap) (H:Hp):List Addr:=(List.range h.objs.size).filter fun a=>(H a).isSome
def qW (h:Heap) (H:Hp):Heap:=PySem.W.hideAll h (Oq h H)
theorem yp (h:Heap) (H:Hp):(qW h H).objs.size=h.objs.size:=PySem.W.hideAll_size _ _
theorem zK {h:Heap} {H:Hp} {b:Addr} {o:Obj} (e:h.get? b=some o) (n:H b=none):(qW h H).get? b=some o :=
 PySem.W.hideAll_get _ e fun hm=>by
  have q:(H b).isSome=true:=(List.mem_filter.mp hm).2;rw[n]at q;simp at q
theorem GD {h:Heap} {H:Hp} {b:Addr} {o:Obj} (e:(qW h H).get? b=some o):h.get? b=some o/\H b=none:=by
 have e':h.get? b=some o:=PySem.W.of_hideAll (Oq h H) e;refine⟨e',?_⟩;cases q:H b with
 | none=>rfl
 | some x =>
  have hm:b∈Oq h H:=List.mem_filter.mpr ⟨Vg.mpr (Aj e'),by simp[q]⟩
  have z:(qW h H).get? b=none:=PySem.W.hideAll_none (Oq h H) hm;rw[z]at e;cases e
end L2
namespace L2
open PySem PySem.Spec PyProof.Rows
structure Mod (K:PySem.W.Frag) (mg:Str->Option Value) (base:Heap):Prop where
 kin:K.In base
 glob:base.Ns mainGlobals mg
 blt:∃mb,base.Ns builtinsNs mb/\∀x:Str,x≠"__name__"->mb x=bootBuiltins x
 nolimit:base.NoLimit
structure Cx where
 prog:Program
 w:World
 K:PySem.W.Frag
 mg:Str->Option Value
 base:Heap
 A:Around
 N:List Str
 s₀:Shared
 H₀:Hp
 env:Env
 outer:List Env
 stack:List Env
 ex:List Addr
 fn:Str->Bool
 calm:Bool
 pn:List (Addr×Obj)
 xe:Value->Shared->Prop
def vh (l:List Env):List Addr:=l.filterMap (·.frame)
abbrev Cx.fs (X:Cx):List Addr:=vh X.outer
def OK (sc:Scope) (x:Str):Prop:=sc.names.lookup x=some .local∨sc.names.lookup x=some .cell∨sc.names.lookup x=some .free
def Loc (sc:Scope) (x:Str):Prop:=sc.names.lookup x=some .local∨sc.names.lookup x=some .cell
def Look (env:Env) (h:Heap) (m:Str->Option Value) (x:Str) (u:Value):Prop :=
 (env.kindOf x=some .local/\m x=some u)∨((env.kindOf x=some .cell∨env.kindOf x=some .free)/\∃c,env.cells.lookup x=some c/\h.IsCell c (some u))
structure Cx.Ok (X:Cx):Prop where
 mod:Mod X.K X.mg X.base
 kind:X.env.scope.kind=.function
 glob:X.env.globals=mainGlobals
 blt:X.env.builtins=builtinsNs
 above:X.s₀.heap.objs.size<=X.env.locals
 inj:∀x y c,X.env.cells.lookup x=some c->X.env.cells.lookup y=some c->x=y
 has:∀x,(X.env.kindOf x=some .cell∨X.env.kindOf x=some .free)->∃c,X.env.cells.lookup x=some c
 cab:∀x c,X.fn x=true->X.env.cells.lookup x=some c->X.s₀.heap.objs.size<=c
 hd:X.calm=true->X.A.handled=none
 frames:X.A.frames=some X.stack
 stk:X.stack=X.outer∨(X.stack=X.env::X.outer/\X.env.frame=some X.env.locals)
 exf:∀b∈X.ex,b≠X.env.locals/\∀x c,X.env.cells.lookup x=some c->c≠b
 bs:∀b o,X.base.get? b=some o->X.s₀.heap.get? b=some o/\X.H₀ b=none
 bsz:X.base.objs.size<=X.s₀.heap.objs.size
 noex:∀b o,X.base.get? b=some o->b∉X.ex
 exfs:∀b∈X.ex,b∉X.fs
 funs:X.s₀.heap.FunFrames X.base X.outer
 frf:∀b∈X.fs,X.H₀ b=none
structure Inv (X:Cx) (pins:List (Addr×Obj)) (σ:List (Option V)) (H:Hp) (s:Shared):Prop where
 ok:X.Ok
 os:s.os=X.s₀.os
 bare:AllBare s.gens
 base:Un X.fs X.ex X.H₀ H X.s₀.heap s.heap
 loc:∃m,s.heap.Ns X.env.locals m/\∀(i:Nat) (x:Str) (v:V),X.N[i]?=some x->σ[i]?=some (some v)->OK X.env.scope x->∃u,RelV v u/\Look X.env s.heap m x u
 cell:∀x c,X.env.cells.lookup x=some c->∃v,s.heap.IsCell c v
 free:H X.env.locals=none
 freeC:∀x c,X.env.cells.lookup x=some c->H c=none
 pin:∀p∈X.pn++pins,s.heap.get? p.1=some p.2/\H p.1=none/\p.1≠X.env.locals/\p.1∉X.fs/\∀v,p.2.data≠.cell v
 hok:HOk X.prog X.w H s.heap
 len:σ.length=X.N.length
 tk:0<s.toks
theorem Inv.tkl' {X:Cx} {pins:List (Addr×Obj)} {σ:List (Option V)} {H:Hp} {s:Shared} {n:Nat} (I:Inv X pins σ H s) (h:s.toks<=n):0<n:=Xc I.tk h
theorem Inv.tkl {X:Cx} {pins:List (Addr×Obj)} {σ:List (Option V)} {H:Hp} {s:Shared} {n:Nat} (h:s.toks<=n) (I:Inv X pins σ H s):0<n:=Xc I.tk h
section
variable {X:Cx} {pins:List (Addr×Obj)} {σ:List (Option V)} {H H':Hp} {s:Shared} {h':Heap}
theorem Cx.Ok.nofr (ok:X.Ok) {b:Addr} {o:Obj} (e:X.base.get? b=some o):b∉X.fs:=fun hb=>by
 have:=(ok.funs.mem hb).1;rw[e]at this;cases this
theorem Inv.bs (I:Inv X pins σ H s):∀b o,X.base.get? b=some o->s.heap.get? b=some o/\H b=none:=fun b o e =>
 ⟨I.base.keep b o (I.ok.bs b o e).1 (I.ok.bs b o e).2 (I.ok.nofr e) (I.ok.noex b o e),I.base.free b o (I.ok.bs b o e).1 (I.ok.bs b o e).2 (I.ok.noex b o e)⟩
theorem Inv.bk (I:Inv X pins σ H s):∀b o,X.base.get? b=some o->s.heap.get? b=some o:=fun b o e=>(I.bs b o e).1
theorem Inv.mod (I:Inv X pins σ H s):Mod X.K X.mg X.base:=I.ok.mod
theorem Inv.kIn (I:Inv X pins σ H s):X.K.In s.heap:=I.ok.mod.kin.keeps I.bk
theorem Inv.lt (I:Inv X pins σ H s):X.env.locals<s.heap.objs.size:=let ⟨_,hn,_⟩:=I.loc;hn.lt
theorem Inv.sz (I:Inv X pins σ H s):X.s₀.heap.objs.size<=s.heap.objs.size:=Qd I.ok.above (Xl I.lt)
theorem Inv.nofs (I:Inv X pins σ H s) {a:Addr} (h:s.heap.objs.size<=a):a∉X.fs:=fun hb=>by
 obtain⟨_,o,ho,_⟩:=I.ok.funs.mem hb;exact absurd (Xc (Aj ho) (Qd I.sz h)) (Wi _)
theorem Inv.cne (I:Inv X pins σ H s):∀x c,X.env.cells.lookup x=some c->c≠X.env.locals:=fun x c e z=>by
 obtain⟨v,o,ho,hd⟩:=I.cell x c e;obtain⟨m,⟨o',es,ep,ho',hd',_⟩,_⟩:=I.loc;rw[z,ho']at ho;cases ho;rw[hd']at hd;cases hd
theorem Inv.funs (I:Inv X pins σ H s):s.heap.FunFrames X.base X.outer:=by
 have all:∀(l:List Env),(∀b∈vh l,b∈X.fs)->X.s₀.heap.FunFrames X.base l->s.heap.FunFrames X.base l:=by
  intro l;induction l with
  | nil=>intro _ _;trivial
  | cons env r ih =>
   intro hs hl;obtain⟨hk,⟨L,o,hf,hn,ho,hd⟩,hr⟩:=hl;have hL:L∈X.fs:=hs L (by unfold vh;rw[Xn,hf];exact Qa)
   obtain⟨sl,e⟩:=I.base.slot L o ho (I.ok.frf L hL) hL fun z=>I.ok.exfs L z hL;exact⟨hk,⟨L,_,hf,hn,e,hd⟩,ih (fun b hb=>hs b (by unfold vh;rw[Xn,hf];exact Va _ hb)) hr⟩
 exact all X.outer (fun _ hb=>hb) I.ok.funs
theorem Inv.stack (I:Inv X pins σ H s):s.heap.FunFrames X.base X.stack:=by
 rcases I.ok.stk with e|⟨e,hf⟩
 ·rw[e];exact I.funs
 ·rw[e];obtain⟨m,hn,_⟩:=I.loc;refine .cons (by rw[I.ok.kind];decide) hf hn ?_ I.funs
  exact Heap.get?_none_of_le (Qd I.ok.bsz I.ok.above)
theorem Inv.stkSub (I:Inv X pins σ H s):∀b∈vh X.stack,b∈X.env.locals::X.fs:=fun b hb=>by
 rcases I.ok.stk with e|⟨e,hf⟩
 ·rw[e]at hb;exact Va _ hb
 ·rw[e]at hb;unfold vh at hb;rw[Xn,hf]at hb;exact hb
theorem Inv.stkFree (I:Inv X pins σ H s):∀b∈vh X.stack,H b=none:=fun b hb=>by
 rcases Xd.mp (I.stkSub b hb) with e|hb
 ·rw[e];exact I.free
 ·obtain⟨_,o,ho,_⟩:=I.ok.funs.mem hb;exact I.base.free b o ho (I.ok.frf b hb) fun z=>I.ok.exfs b z hb
theorem Inv.step {g':Array GenState} {t':Nat} {d':Drawn} {ch:List Addr} (I:Inv X pins σ H s)
  (hch:∀b∈ch,(b∈X.ex∨X.s₀.heap.objs.size<=b)/\b≠X.env.locals/\(∀x c,X.env.cells.lookup x=some c->c≠b)/\∀p∈X.pn++pins,p.1≠b)
  (keep:∀b o,b≠X.env.locals->b∉X.fs->b∉ch->s.heap.get? b=some o->H b=none->h'.get? b=some o)
  (slot:∀b o,b≠X.env.locals->b∈X.fs->b∉ch->s.heap.get? b=some o->H b=none->∃sl,h'.get? b=some { o with slots:=sl }) (free:∀b o,b∉ch->s.heap.get? b=some o->H b=none->H' b=none)
  (there:∀b o,b∉ch->s.heap.get? b=some o->∃o',h'.get? b=some o')
  (tups:∀b xs,H b=some (.tup xs)->H' b=some (.tup xs)) (frzs:∀b o u,H b=some (.frz o u)->H' b=some (.frz o u)) (tbls:∀b ps,H b=some (.tbl ps)->∃more,H' b=some (.tbl (ps++more)))
  (ns:∀m,s.heap.Ns X.env.locals m->h'.Ns X.env.locals m) (hok:HOk X.prog X.w H' h') (hg:AllBare g') (ht:0<t':=by first|assumption|exact Zh _|exact Inv.tk (by assumption)|exact Inv.tkl (by assumption) (by assumption)|lia) :
  Inv X pins σ H' { s with heap:=h',gens:=g',drawn:=d',toks:=t' }:=by
 have neL:∀b o,X.s₀.heap.get? b=some o->b≠X.env.locals:=fun b o e=>Vf (Xc (Aj e) I.ok.above);have neC:∀b o,X.s₀.heap.get? b=some o->b∉X.ex->b∉ch:=fun b o e hx hb=>by
  rcases(hch b hb).1 with z|z
  ·exact hx z
  ·exact absurd (Xc (Aj e) z) (Wi _)
 have cellK:∀x c,X.env.cells.lookup x=some c->∀v,s.heap.IsCell c v->h'.IsCell c v:=fun x c e v ⟨o,ho,hd⟩=>by
  have nch:c∉ch:=fun z=>(hch c z).2.2.1 x c e rfl;by_cases hc:c∈X.fs
  ·obtain⟨sl,q⟩:=slot c o (I.cne x c e) hc nch ho (I.freeC x c e);exact⟨_,q,hd⟩
  ·exact⟨o,keep c o (I.cne x c e) hc nch ho (I.freeC x c e),hd⟩
 refine⟨I.ok,I.os,hg,⟨fun b o e n hb hx=>?_,fun b o e n hb hx=>?_,fun b o e n hx=>?_,fun b o e hx=>?_,fun b xs e=>tups b xs (I.base.tups b xs e),fun b o xs e=>frzs b o xs (I.base.frzs b o xs e),fun b ps e=>?_⟩,?_,fun x c e=>?_,?_,fun x c e=>?_,fun p hp=>?_,hok,I.len,ht⟩
 ·exact keep b o (neL b o e) hb (neC b o e hx) (I.base.keep b o e n hb hx) (I.base.free b o e n hx)
 ·obtain⟨sl,e1⟩:=I.base.slot b o e n hb hx;obtain⟨sl',e2⟩:=slot b _ (neL b o e) hb (neC b o e hx) e1 (I.base.free b o e n hx);exact⟨sl',e2⟩
 ·obtain⟨o',e1⟩:=I.base.there b o e hx;exact free b o' (neC b o e hx) e1 (I.base.free b o e n hx)
 ·obtain⟨o',e1⟩:=I.base.there b o e hx;exact there b o' (neC b o e hx) e1
 ·obtain⟨m1,e1⟩:=I.base.tbls b ps e;obtain⟨m2,e2⟩:=tbls b _ e1;exact⟨m1++m2,by rw[e2,Array.append_assoc]⟩
 ·obtain⟨m,hn,hl⟩:=I.loc;refine⟨m,ns m hn,fun i x v e1 e2 e3=>?_⟩;obtain⟨u,r,l⟩:=hl i x v e1 e2 e3;refine⟨u,r,?_⟩;rcases l with l|⟨k,c,e,z⟩
  ·exact .inl l
  ·exact .inr ⟨k,c,e,cellK x c e _ z⟩
 ·obtain⟨v,z⟩:=I.cell x c e;exact⟨v,cellK x c e v z⟩
 ·obtain⟨m,⟨o,_,_,ho,_⟩,_⟩:=I.loc;exact free _ o (fun z=>(hch _ z).2.1 rfl) ho I.free
 ·obtain⟨v,o,ho,hd⟩:=I.cell x c e;exact free c o (fun z=>(hch c z).2.2.1 x c e rfl) ho (I.freeC x c e)
 ·obtain⟨e,n,ne,nf,d⟩:=I.pin p hp;have nch:p.1∉ch:=fun z=>(hch p.1 z).2.2.2 p hp rfl;exact⟨keep p.1 p.2 ne nf nch e n,free p.1 p.2 nch e n,ne,nf,d⟩
theorem Inv.un {t':Nat} (I:Inv X pins σ H s) (u:Un X.fs [] H H' s.heap h') (hok:HOk X.prog X.w H' h') (ht:0<t':=by first|assumption|exact Zh _|exact Inv.tk (by assumption)|exact Inv.tkl (by assumption) (by assumption)|lia):Inv X pins σ H' { s with heap:=h',toks:=t' }:=by
 obtain⟨m,⟨o,es,ep,ho,r⟩,_⟩:=id I.loc;obtain⟨sl,hL⟩:=u.any ho I.free (by simp)
 exact I.step (g':=s.gens) (d':=s.drawn) (ch:=[]) (fun _ z=>nomatch z) (fun b o _ hb _ e n=>u.keep b o e n hb (by simp)) (fun b o _ hb _ e n=>u.slot b o e n hb (by simp)) (fun b o _ e n=>u.free b o e n (by simp)) (fun b o _ e=>u.there b o e (by simp)) u.tups u.frzs u.tbls (fun m' hm=>by
  obtain⟨o',es',ep',ho',r'⟩:=hm;rw[ho]at ho';cases ho'
  exact⟨_,es',ep',hL,r'⟩) hok I.bare
theorem Inv.call {g':Array GenState} {t':Nat} {d':Drawn} {ch:List Addr} (I:Inv X pins σ H s) (u:Un (vh X.stack) ch H H' s.heap h') (hok:HOk X.prog X.w H' h') (hg:AllBare g')
  (hch:∀b∈ch,(b∈X.ex∨X.s₀.heap.objs.size<=b)/\b≠X.env.locals/\(∀x c,X.env.cells.lookup x=some c->c≠b)/\∀p∈X.pn++pins,p.1≠b) (ht:0<t':=by first|assumption|exact Zh _|exact Inv.tk (by assumption)|exact Inv.tkl (by assumption) (by assumption)|lia) :
  Inv X pins σ H' { s with heap:=h',gens:=g',drawn:=d',toks:=t' }:=by
 obtain⟨m,⟨o,es,ep,ho,r⟩,_⟩:=id I.loc;obtain⟨sl,hL⟩:=u.any ho I.free fun z=>(hch _ z).2.1 rfl
 exact I.step (ch:=ch) hch (fun b o hL hb hc e n=>u.keep b o e n (fun z=>(Xd.mp (I.stkSub b z)).elim hL hb) hc) (fun b o _ _ hc e n=>u.any e n hc) (fun b o hc e n=>u.free b o e n hc) (fun b o hc e=>u.there b o e hc) u.tups u.frzs u.tbls (fun m' hm=>by
  obtain⟨o',es',ep',ho',r'⟩:=hm;rw[ho]at ho';cases ho'
  exact⟨_,es',ep',hL,r'⟩) hok hg
theorem Inv.turned {t':Nat} {it:Addr} (I:Inv X pins σ H s) (k:∀b o,b≠it->s.heap.get? b=some o->h'.get? b=some o) (hn:H it=none) (hL:it≠X.env.locals)
  (h1:it∈X.ex∨X.s₀.heap.objs.size<=it) (h2:∀x c,X.env.cells.lookup x=some c->c≠it) (h3:∀p∈X.pn++pins,p.1≠it) (ht:0<t':=by first|assumption|exact Zh _|exact Inv.tk (by assumption)|exact Inv.tkl (by assumption) (by assumption)|lia):Inv X pins σ H { s with heap:=h',toks:=t' }:=by
 have nit:∀b u,H b=some u->b≠it:=fun b u e z=>by rw[z,hn]at e;cases e
 refine I.step (g':=s.gens) (d':=s.drawn) (ch:=[it]) (fun b hb=>?_) (fun b o _ _ hc e _=>k b o (fun z=>hc (by simp[z])) e) (fun b o _ _ hc e _=>⟨o.slots,k b o (fun z=>hc (by simp[z])) e⟩) (fun _ _ _ _ n=>n)
  (fun b o hc e=>⟨o,k b o (fun z=>hc (by simp[z])) e⟩) (fun _ _ e=>e) (fun _ _ _ e=>e) (fun b ps e=>⟨#[],by rw[e];simp⟩) (fun m hm=>?_) (fun b u e=>?_) I.bare
 ·have e:b=it:=by simpa using hb
  subst e;exact⟨h1,hL,h2,h3⟩
 ·obtain⟨o,es,ep,ho,r⟩:=hm;exact⟨o,es,ep,k _ o (AA hL) ho,r⟩
 ·refine(I.hok b u e).stay (fun c v hc q=>k c v ?_ q) (fun _ q=>q) fun _ _ q=>q;rcases hc with z|z
  ·rw[z];exact nit b u e
  ·exact nit c _ z
theorem Inv.tok (I:Inv X pins σ H s) (t':Nat) (ht:0<t':=by first|assumption|exact Zh _|exact Inv.tk (by assumption)|exact Inv.tkl (by assumption) (by assumption)|lia):Inv X pins σ H { s with toks:=t' }:=I.un (h':=s.heap) (t':=t') Un.refl I.hok
theorem Inv.kept {t':Nat} (I:Inv X pins σ H s) (k:∀b u,s.heap.get? b=some u->h'.get? b=some u) (ht:0<t':=by first|assumption|exact Zh _|exact Inv.tk (by assumption)|exact Inv.tkl (by assumption) (by assumption)|lia):Inv X pins σ H { s with heap:=h',toks:=t' }:=I.un (Un.kept k) (I.hok.kept k)
theorem Inv.laid {a:Addr} {o:HO} {t':Nat} (I:Inv X pins σ H s) (k:∀b u,s.heap.get? b=some u->h'.get? b=some u) (hp:s.heap.objs.size<=a) (new:ObjOk X.prog X.w (upd H a o) h' a o) (ht:0<t':=by first|assumption|exact Zh _|exact Inv.tk (by assumption)|exact Inv.tkl (by assumption) (by assumption)|lia) :
  Inv X pins σ (upd H a o) { s with heap:=h',toks:=t' }:=I.un (Un.laid k hp (I.hok.fresh hp)) (I.hok.laid k hp new)
theorem Inv.write {x e:Addr} {o:HO} {t':Nat} (I:Inv X pins σ H s) (mu:MI (H x)) (he:e=x∨H e=some (.own x)) (k:∀b u,b≠e->s.heap.get? b=some u->h'.get? b=some u) (heo:∃u,h'.get? e=some u)
  (new:ObjOk X.prog X.w (upd H x o) h' x o) (ht:0<t':=by first|assumption|exact Zh _|exact Inv.tk (by assumption)|exact Inv.tkl (by assumption) (by assumption)|lia):Inv X pins σ (upd H x o) { s with heap:=h',toks:=t' }:=I.un (Un.write mu he k heo) (I.hok.write mu he k heo new)
theorem Inv.weak {σ':List (Option V)} (I:Inv X pins σ H s) (hl:σ'.length=σ.length) (w:∀(i:Nat) v,σ'[i]?=some (some v)->σ[i]?=some (some v)):Inv X pins σ' H s :=
 ⟨I.ok,I.os,I.bare,I.base,let ⟨m,hn,hl'⟩:=I.loc;⟨m,hn,fun i x v e1 e2 e3=>hl' i x v e1 (w i v e2) e3⟩,I.cell,I.free,I.freeC,I.pin,I.hok,hl.trans I.len,I.tk⟩
theorem Inv.pins_of {pins':List (Addr×Obj)} (I:Inv X pins σ H s) (h:∀p∈pins',s.heap.get? p.1=some p.2/\H p.1=none/\p.1≠X.env.locals/\p.1∉X.fs/\∀v,p.2.data≠.cell v):Inv X pins' σ H s :=
 ⟨I.ok,I.os,I.bare,I.base,I.loc,I.cell,I.free,I.freeC,fun p hp=>(Zd.mp hp).elim (fun z=>I.pin p (Vi _ z)) (h p),I.hok,I.len,I.tk⟩
theorem tq {N:List Str} (hN:N.Nodup) {i j:Nat} {x:Str} (a:N[i]?=some x) (b:N[j]?=some x):i=j:=by
 obtain⟨h1,e1⟩:=Wb.mp a;obtain⟨h2,e2⟩:=Wb.mp b;exact(CW hN).mp (e1.trans e2.symm)
theorem qf {M:Model} {A:Around} {E:Value->Shared->Prop} {i:Nat} {x:Str} {v:V} {u:Value} {Q:Unit->Shared->Prop} (I:Inv X pins σ H s) (hN:X.N.Nodup) (hi:X.N[i]?=some x) (hx:Loc X.env.scope x) (r:RelV v u)
  (h:∀s',Inv X pins (σ.set i (some v)) H s'->(∃a,Heap.SameBut a s.heap s'.heap/\(a=X.env.locals∨X.env.cells.lookup x=some a))->(∃m,s'.heap.Ns X.env.locals m/\Look X.env s'.heap m x u)->Q () s') (hf:X.fn x=true∨X.env.scope.names.lookup x=some .local:=by first|exact .inl rfl|exact .inr rfl|assumption):wpAny M A (storeName X.env x u) Q E s:=by
 obtain⟨m,hn,hl⟩:=id I.loc;have hcls:(X.env.scope.kind == .class||(X.env.scope.kind == .module&&X.env.locals != X.env.globals))=false:=by rw[I.ok.kind];rfl
 have hiσ:i<σ.length:=by rw[I.len];exact(Wb.mp hi).1
 have cne:=I.cne;have tracked:∀{a:Addr} {h':Heap},(∃o,s.heap.get? a=some o/\H a=none)->Heap.SameBut a s.heap h'->HOk X.prog X.w H h':=fun {a h'} ha hs b ob e=>by
  obtain⟨_,_,hfree⟩:=ha;refine(I.hok b ob e).stay (fun c w' hc q=>(hs.2 c ?_).trans q) (fun _ q=>q) fun _ _ q=>q;rintro rfl;rcases hc with rfl|hc
  ·rw[hfree]at e;cases e
  ·rw[hfree]at hc;cases hc
 rcases hx with hk|hk
 ·refine wpAny_storeName_local hk hn (fun h' hn' hs=>?_) hcls;obtain⟨oL,_,_,hoL,_⟩:=id hn;refine h _ ⟨I.ok,I.os,I.bare,⟨fun b o e n hb hx=>?_,fun b o e n hb hx=>?_,I.base.free,fun b o e hx=>?_,I.base.tups,I.base.frzs,I.base.tbls⟩,⟨_,hn',fun j y v' e1 e2 e3=>?_⟩,fun y c e=>?_,I.free,I.freeC,fun p hp=>?_,tracked ⟨oL,hoL,I.free⟩ hs,by simpa using I.len,Zh _⟩ ⟨_,hs,.inl rfl⟩ ⟨_,hn',.inl ⟨hk,by simp⟩⟩
  ·exact(hs.2 b (Vf (Xc (Aj e) I.ok.above))).trans (I.base.keep b o e n hb hx)
  ·obtain⟨sl,e1⟩:=I.base.slot b o e n hb hx;exact⟨sl,(hs.2 b (Vf (Xc (Aj e) I.ok.above))).trans e1⟩
  ·obtain⟨o',e1⟩:=I.base.there b o e hx;exact⟨o',(hs.2 b (Vf (Xc (Aj e) I.ok.above))).trans e1⟩
  ·by_cases hj:j=i
   ·subst hj;rw[hi]at e1;cases e1;rw[BW hiσ]at e2;cases e2;exact⟨u,r,.inl ⟨hk,by simp⟩⟩
   ·rw[List.getElem?_set_ne (AA hj)]at e2;obtain⟨u',r',q⟩:=hl j y v' e1 e2 e3;refine⟨u',r',?_⟩;rcases q with⟨k,e⟩|⟨k,c,e,z⟩
    ·refine .inl ⟨k,?_⟩;have:y≠x:=fun e=>hj (tq hN e1 (e ▸ hi));simp[this,e]
    ·exact .inr ⟨k,c,e,z.sameBut hs (cne y c e)⟩
  ·obtain⟨w',z⟩:=I.cell y c e;exact⟨w',z.sameBut hs (cne y c e)⟩
  ·obtain⟨e,n,ne,nf,d⟩:=I.pin p hp;exact⟨(hs.2 p.1 ne).trans e,n,ne,nf,d⟩
 ·have hfn:X.fn x=true:=by
   rcases hf with z|z
   ·exact z
   ·rw[z]at hk;cases hk
  obtain⟨c,hc⟩:=I.ok.has x (.inl hk);obtain⟨w',z⟩:=I.cell x c hc;refine wpAny_storeName_cell I.ok.kind hk hc z (fun h' hc' hs=>?_);obtain⟨oc,hoc,hocd⟩:=id z;refine h { s with heap:=h' } ⟨I.ok,I.os,I.bare,⟨fun b o e n hb hx=>?_,fun b o e n hb hx=>?_,I.base.free,fun b o e hx=>?_,I.base.tups,I.base.frzs,I.base.tbls⟩,⟨m,hn.sameBut hs (AA (cne x c hc)),fun j y v' e1 e2 e3=>?_⟩,fun y c' e=>?_,I.free,I.freeC,fun p hp=>?_,tracked ⟨oc,hoc,I.freeC x c hc⟩ hs,by simpa using I.len,I.tk⟩ ⟨c,hs,.inr hc⟩ ⟨m,hn.sameBut hs (AA (cne x c hc)),.inr ⟨.inl hk,c,hc,hc'⟩⟩
  ·exact(hs.2 b (Vf (Xc (Aj e) (I.ok.cab x c hfn hc)))).trans (I.base.keep b o e n hb hx)
  ·obtain⟨sl,e1⟩:=I.base.slot b o e n hb hx;exact⟨sl,(hs.2 b (Vf (Xc (Aj e) (I.ok.cab x c hfn hc)))).trans e1⟩
  ·obtain⟨o',e1⟩:=I.base.there b o e hx;exact⟨o',(hs.2 b (Vf (Xc (Aj e) (I.ok.cab x c hfn hc)))).trans e1⟩
  ·by_cases hj:j=i
   ·subst hj;rw[hi]at e1;cases e1;rw[BW hiσ]at e2;cases e2;exact⟨u,r,.inr ⟨.inl hk,c,hc,hc'⟩⟩
   ·rw[List.getElem?_set_ne (AA hj)]at e2;obtain⟨u',r',q⟩:=hl j y v' e1 e2 e3;refine⟨u',r',?_⟩;rcases q with q|⟨k,c',e,z'⟩
    ·exact .inl q
    ·refine .inr ⟨k,c',e,z'.sameBut hs ?_⟩;rintro rfl;exact hj (tq hN e1 (I.ok.inj _ _ _ e hc ▸ hi))
  ·by_cases hcc:c'=c
   ·subst hcc;exact⟨_,hc'⟩
   ·obtain⟨w2,z2⟩:=I.cell y c' e;exact⟨w2,z2.sameBut hs hcc⟩
  ·obtain⟨e,n,ne,nf,d⟩:=I.pin p hp;refine⟨(hs.2 p.1 ?_).trans e,n,ne,nf,d⟩;intro q;rw[q,hoc]at e;have q':oc=p.2:=Option.some.inj e;exact d w' (by rw[← q'];exact hocd)
theorem zL {M:Model} {A:Around} {E:Value->Shared->Prop} {i:Nat} {x:Str} {v:V} {u:Value} {Q:Unit->Shared->Prop} (I:Inv X pins σ H s) (hN:X.N.Nodup) (hi:X.N[i]?=some x) (hx:Loc X.env.scope x) (r:RelV v u)
  (h:∀s',Inv X pins (σ.set i (some v)) H s'->Q () s') (hf:X.fn x=true∨X.env.scope.names.lookup x=some .local:=by first|exact .inl rfl|exact .inr rfl|assumption):wpAny M A (storeName X.env x u) Q E s :=
 qf I hN hi hx r (fun s' I' _ _=>h s' I') hf
theorem Inv.call' {s':Shared} {ch:List Addr} (I:Inv X pins σ H s) (ho:s'.os=s.os) (u:Un (vh X.stack) ch H H' s.heap s'.heap) (hok:HOk X.prog X.w H' s'.heap) (hg:AllBare s'.gens)
  (hch:∀b∈ch,(b∈X.ex∨X.s₀.heap.objs.size<=b)/\b≠X.env.locals/\(∀x c,X.env.cells.lookup x=some c->c≠b)/\∀p∈X.pn++pins,p.1≠b) (ht:0<s'.toks):Inv X pins σ H' s':=by
 obtain⟨h',g',d',t',o'⟩:=s';have e:o'=s.os:=ho;subst e;exact I.call (g':=g') (t':=t') (d':=d') u hok hg hch ht
end
abbrev XK:=Value->Option Addr->Hp->Prop
abbrev St:=List (Option V)
abbrev VK:=V->Hp->Prop
abbrev TE:=St->Hp->VK->Prop
abbrev TT:=St->Hp->(Bool->Hp->Prop)->Prop
abbrev TA:=St->Hp->(List V->Hp->Prop)->Prop
structure Ends where
 nx:St->Hp->Prop
 rt:VK
 bk:St->Hp->Prop:=fun _ _=>False
 ct:St->Hp->Prop:=fun _ _=>False
abbrev TS:=Ends->St->Hp->Prop
inductive EP (X:Cx) (pins:List (Addr×Obj)) (σ:St) (Q:VK) (u:Value) (s':Shared):Prop
 | mk (v:V) (H':Hp) (I:Inv X pins σ H' s') (r:RelV v u) (q:Q v H')
def TP (X:Cx) (pins:List (Addr×Obj)) (σ:St) (Q:Bool->Hp->Prop) (b:Bool) (s':Shared):Prop:=∃H',Inv X pins σ H' s'/\Q b H'
inductive AP (X:Cx) (pins:List (Addr×Obj)) (σ:St) (Q:List V->Hp->Prop) (us:List Value) (s':Shared):Prop
 | mk (vs:List V) (H':Hp) (I:Inv X pins σ H' s') (r:Vals vs us) (q:Q vs H')
def SP (X:Cx) (pins:List (Addr×Obj)) (D:Ends) (f:Flow) (s':Shared):Prop :=
 match f with
 | .next=>∃σ' H',Inv X pins σ' H' s'/\D.nx σ' H'
 | .brk=>∃σ' H',Inv X pins σ' H' s'/\D.bk σ' H'
 | .cont=>∃σ' H',Inv X pins σ' H' s'/\D.ct σ' H'
 | .ret u=>∃v σ' H',Inv X pins σ' H' s'/\RelV v u/\D.rt v H'
def PE (X:Cx) (e:Expr) (t:TE):Prop :=
 ∀(pins:List (Addr×Obj)) (s:Shared) (σ:St) (H:Hp) (Q:VK),Inv X pins σ H s->t σ H Q->wpAny (model X.prog X.w) X.A (eval e X.env) (EP X pins σ Q) X.xe s
def PT (X:Cx) (e:Expr) (t:TT):Prop :=
 ∀(pins:List (Addr×Obj)) (s:Shared) (σ:St) (H:Hp) (Q:Bool->Hp->Prop),Inv X pins σ H s->t σ H Q->wpAny (model X.prog X.w) X.A (isTrue e X.env (eval e X.env)) (TP X pins σ Q) X.xe s
def PW (X:Cx) (e:Expr) (t:TT):Prop :=
 ∀(whole:Sem Value) (pins:List (Addr×Obj)) (s:Shared) (σ:St) (H:Hp) (Q:Bool->Hp->Prop),Inv X pins σ H s->t σ H Q->wpAny (model X.prog X.w) X.A (isTrue e X.env whole) (TP X pins σ Q) X.xe s
theorem PW.pt {X:Cx} {e:Expr} {t:TT} (h:PW X e t):PT X e t:=h _
def PA (X:Cx) (es:List Expr) (t:TA):Prop :=
 ∀(pos:Pos) (pins:List (Addr×Obj)) (s:Shared) (σ:St) (H:Hp) (Q:List V->Hp->Prop),Inv X pins σ H s->t σ H Q->wpAny (model X.prog X.w) X.A (spliced (backTo pos (starEach es X.env))) (AP X pins σ Q) X.xe s
def PS (X:Cx) (st:Stmt) (t:TS):Prop :=
 ∀(pins:List (Addr×Obj)) (s:Shared) (σ:St) (H:Hp) (D:Ends),Inv X pins σ H s->t D σ H->wpAny (model X.prog X.w) X.A (exec st X.env) (SP X pins D) X.xe s
def PSs (X:Cx) (st:List Stmt) (t:TS):Prop :=
 ∀(pins:List (Addr×Obj)) (s:Shared) (σ:St) (H:Hp) (D:Ends),Inv X pins σ H s->t D σ H->wpAny (model X.prog X.w) X.A (execs st X.env) (SP X pins D) X.xe s
theorem cT {α:Type} {t:Sem α} {Q Q':α->Shared->Prop} {M:Model} {A:Around} {E:Value->Shared->Prop} {s:Shared} (h:wpAny M A t Q E s) (hQ:∀a s,Q a s->Q' a s):wpAny M A t Q' E s:=Av h hQ fun _ _ x=>x
end L2
namespace L2
open PySem PySem.Spec PyProof.Rows
section
variable {X:Cx}
def tu (i:Nat):TE:=fun σ H Q=>∃v,σ[i]?=some (some v)/\Q v H
def tC (v:V):TE:=fun _ H Q=>Q v H
theorem JD {i:Nat} {x:Str} {pos:Pos} (hN:X.N[i]?=some x) (hv:OK X.env.scope x) (hd:(x == ("__debug__":Str))=false:=by decide) (hcd:(x == ("__classdict__":Str))=false:=by decide):PE X (.Name x pos) (tu i):=by
 intro pins s σ H Q I h;obtain⟨v,e,h⟩:=h;obtain⟨m,hn,hl⟩:=I.loc;obtain⟨u,r,l⟩:=hl i x v hN e hv;have fin:EP X pins σ Q u s:=⟨v,H,I,r,h⟩;rcases l with⟨hk,hm⟩|⟨hk,c,hc,hcell⟩
 ·exact wpAny_Name (wpAny_loadName_local I.ok.kind hk hn hm fin) hd
 ·rcases hk with hk|hk
  ·exact wpAny_Name (wpAny_loadName_cell I.ok.kind hk hc hcell fin) hd
  ·exact wpAny_Name (wpAny_loadName_free I.ok.kind hk hc hcell fin hcd) hd
theorem ai {i j pos}:PE X (.Constant (.int i) j pos) (tC (.int i)):=fun _ _ _ H _ I h=>Cg ⟨.int i,H,I.tok _,⟨_,rfl⟩,h⟩
theorem tw {b j pos}:PE X (.Constant (.bool b) j pos) (tC (.bl b)):=fun _ _ _ H _ I h=>Constant_bool ⟨.bl b,H,I,rfl,h⟩
theorem ku {j pos}:PE X (.Constant .none j pos) (tC .non):=fun _ _ _ H _ I h=>Constant_none ⟨.non,H,I,rfl,h⟩
theorem cw {x j pos}:PE X (.Constant (.str x) j pos) (tC (.str x)):=fun _ _ _ H _ I h=>Cu ⟨.str x,H,I.tok _,⟨_,rfl⟩,h⟩
def Gl (X:Cx) (x:Str):Prop:=X.env.kindOf x=some .globalImplicit
theorem wj {E:Value->Shared->Prop} {pins:List (Addr×Obj)} {s:Shared} {σ:St} {H:Hp} {x:Str} {u:Value} {pos:Pos} {Q:Value->Shared->Prop} (I:Inv X pins σ H s) (hg:Gl X x) (hm:X.mg x=some u) (h:Q u s)
  (hd:(x == ("__debug__":Str))=false:=by decide):wpAny (model X.prog X.w) X.A (eval (.Name x pos) X.env) Q E s :=
 Di I.ok.kind hg (Calls.loadGlobal_global (by rw[I.ok.glob];exact I.mod.glob.keeps I.bk) hm h) hd
theorem iU {E:Value->Shared->Prop} {pins:List (Addr×Obj)} {s:Shared} {σ:St} {H:Hp} {x:Str} {u:Value} {pos:Pos} {Q:Value->Shared->Prop} (I:Inv X pins σ H s) (hg:Gl X x) (hm:X.mg x=none) (hv:bootBuiltins x=some u) (h:Q u s)
  (hn:x≠"__name__":=by decide) (hd:(x == ("__debug__":Str))=false:=by decide):wpAny (model X.prog X.w) X.A (eval (.Name x pos) X.env) Q E s:=by
 obtain⟨mb,h1,h2⟩:=I.mod.blt;exact Di I.ok.kind hg (Calls.loadGlobal_builtin (by rw[I.ok.glob];exact I.mod.glob.keeps I.bk) hm (by rw[I.ok.blt];exact h1.keeps I.bk) ((h2 x hn).trans hv) h) hd
theorem GE {x:Str} {v:V} {u:Value} {pos:Pos} (hg:Gl X x) (hm:X.mg x=none) (hv:bootBuiltins x=some u) (r:RelV v u) (hn:x≠"__name__":=by decide) (hd:(x == ("__debug__":Str))=false:=by decide):PE X (.Name x pos) (tC v) :=
 fun _ _ _ H _ I h=>iU I hg hm hv ⟨v,H,I,r,h⟩ hn hd
variable {a b:Expr} {ta tb:TE} {pos:Pos}
def tB (t:TE):TT:=fun σ H Q=>t σ H fun x H1=>∃c,x=.bl c/\Q c H1
theorem gG {e:Expr} {t:TE} (h:PE X e t) (he:∀whole,isTrue e X.env whole=(do let v ← whole;standAt e.pos;holding [v] (truthy v)):=by intro _;rfl):PT X e (tB t):=by
 intro pins s σ H Q I hw;refine isTrue_plain (cT (h pins s σ H _ I hw) fun v s1 zz9=>?_) (he _);obtain⟨x,H1,I1,r1,q1⟩:=zz9;obtain⟨d,rfl,q⟩:=q1;cases r1;exact Az ⟨H1,I1,q⟩
variable {tA tB':TT} {rest:List Expr}
def MJ (t u:TT):TT:=fun σ H Q=>t σ H fun c H1=>if c=true then u σ H1 Q else Q false H1
def Pa (t u:TT):TT:=fun σ H Q=>t σ H fun c H1=>if c=true then Q true H1 else u σ H1 Q
def MK (t:TT):TT:=fun σ H Q=>t σ H fun c H1=>Q (!c) H1
theorem nM (ha:PT X a tA):PW X (.BoolOp .And [a] pos) tA:=by
 intro wh pins s σ H Q I h;refine isTrue_and (cT (ha pins s σ H Q I h) fun c s1 e=>?_);cases c with
 | true=>exact isTrue_and_nil e
 | false=>exact e
theorem om (ha:PT X a tA):PW X (.BoolOp .Or [a] pos) tA:=by
 intro wh pins s σ H Q I h;refine isTrue_or (cT (ha pins s σ H Q I h) fun c s1 e=>?_);cases c with
 | false=>exact isTrue_or_nil e
 | true=>exact e
theorem qX (ha:PT X a tA) (hb:PW X (.BoolOp .And (b::rest) pos) tB'):PW X (.BoolOp .And (a::b::rest) pos) (MJ tA tB'):=by
 intro wh pins s σ H Q I h;refine isTrue_and (cT (ha pins s σ H _ I h) fun c s1 zz9=>?_);obtain⟨H1,I1,q1⟩:=zz9;cases c with
 | true=>exact hb wh pins s1 σ H1 Q I1 q1
 | false=>exact⟨H1,I1,q1⟩
theorem on (ha:PT X a tA) (hb:PW X (.BoolOp .Or (b::rest) pos) tB'):PW X (.BoolOp .Or (a::b::rest) pos) (Pa tA tB'):=by
 intro wh pins s σ H Q I h;refine isTrue_or (cT (ha pins s σ H _ I h) fun c s1 zz9=>?_);obtain⟨H1,I1,q1⟩:=zz9;cases c with
 | true=>exact⟨H1,I1,q1⟩
 | false=>exact hb wh pins s1 σ H1 Q I1 q1
theorem qY (ha:PT X a tA):PT X (.UnaryOp .Not a pos) (MK tA):=by
 intro pins s σ H Q I h;exact isTrue_not (ha pins s σ H (fun c H1=>Q (!c) H1) I h)
def Iw (ta tb:TE):TE:=fun σ H Q=>ta σ H fun x H1=>∃c,x=.bl c/\if c=true then tb σ H1 Q else Q (.bl false) H1
def ML (ta tb:TE):TE:=fun σ H Q=>ta σ H fun x H1=>∃c,x=.bl c/\if c=true then Q (.bl true) H1 else tb σ H1 Q
theorem oq {op} {t:TE} (h:PE X a t):PE X (.BoolOp op [a] pos) t:=fun pins s σ H Q I hw=>BoolOp_one (h pins s σ H Q I hw)
theorem ot (ha:PE X a ta) (hb:PE X (.BoolOp .And (b::rest) pos) tb):PE X (.BoolOp .And (a::b::rest) pos) (Iw ta tb):=by
 intro pins s σ H Q I h;refine BoolOp_and (cT (ha pins s σ H _ I h) fun v s1 zz9=>?_);obtain⟨x,H1,I1,r1,q1⟩:=zz9;obtain⟨c,rfl,q1⟩:=q1;cases r1;refine Az ?_;cases c with
 | true=>exact hb pins s1 σ H1 Q I1 q1
 | false=>exact⟨.bl false,H1,I1,rfl,q1⟩
theorem MN (ha:PE X a ta) (hb:PE X (.BoolOp .Or (b::rest) pos) tb):PE X (.BoolOp .Or (a::b::rest) pos) (ML ta tb):=by
 intro pins s σ H Q I h;refine BoolOp_or (cT (ha pins s σ H _ I h) fun v s1 zz9=>?_);obtain⟨x,H1,I1,r1,q1⟩:=zz9;obtain⟨c,rfl,q1⟩:=q1;cases r1;refine Az ?_;cases c with
 | false=>exact hb pins s1 σ H1 Q I1 q1
 | true=>exact⟨.bl true,H1,I1,rfl,q1⟩
def Pb (t:TT) (ta tb:TE):TE:=fun σ H Q=>t σ H fun c H1=>if c=true then ta σ H1 Q else tb σ H1 Q
theorem fU {c:Expr} (hc:PT X c tA) (ha:PE X a ta) (hb:PE X b tb):PE X (.IfExp c a b pos) (Pb tA ta tb):=by
 intro pins s σ H Q I h;refine wpAny_IfExp (cT (hc pins s σ H _ I h) fun d s1 zz9=>?_);obtain⟨H1,I1,q1⟩:=zz9;cases d with
 | true=>exact ha pins s1 σ H1 Q I1 q1
 | false=>exact hb pins s1 σ H1 Q I1 q1
end
end L2
namespace L2
open PySem PySem.Spec PyProof.Rows
def gj (K:PySem.W.Frag) (H:Hp) (a:Addr) (xs:List V):Prop :=
 Rd H a (.lst xs) ∨
  ∃(o:Obj) (its:Array Value) (n:Nat),K.lookup a=some o/\o.cls=.type "list"/\o.dict=none/\o.data=.seq its n/\its.size<=sizeLine/\Vals xs its.toList
def jP (K:PySem.W.Frag) (H:Hp) (a:Addr) (xs:List V):Prop :=
 Rd H a (.tup xs) ∨
  ∃(o:Obj) (its:Array Value) (n:Nat),K.lookup a=some o/\o.cls=.type "tuple"/\o.data=.seq its n/\its.size<=sizeLine/\Vals xs its.toList
def OL:Value->Option V
 | .none=>some .non
 | .bool b=>some (.bl b)
 | .int i _=>some (.int i)
 | .str x _=>some (.str x)
 | .bytes b _=>some (.byt b)
 | .float b _=>some (.flt b)
 | .ref a=>some (.ref a)
 | .type n=>some (.ty n)
 | _=>none
theorem RelV.abs {x:V} {u:Value} (r:RelV x u):OL u=some x:=by
 cases x with
 | non=>cases r;rfl
 | bl _=>cases r;rfl
 | int _=>obtain⟨t,rfl⟩:=r;rfl
 | str _=>obtain⟨t,rfl⟩:=r;rfl
 | byt _=>obtain⟨t,rfl⟩:=r;rfl
 | flt _=>obtain⟨t,rfl⟩:=r;rfl
 | ref _=>cases r;rfl
 | ty _=>cases r;rfl
theorem RelV.inj {x y:V} {u:Value} (r:RelV x u) (q:RelV y u):x=y:=Option.some.inj (r.abs.symm.trans q.abs)
theorem Vals.inj:∀{xs ys:List V} {us:List Value},Vals xs us->Vals ys us->xs=ys
 | _,_,_,.nil,.nil=>rfl
 | _,_,_,.cons r t,.cons r' t'=>by rw[r.inj r',Vals.inj t t']
section
variable {X:Cx} {pins:List (Addr×Obj)} {σ:St} {H:Hp} {s:Shared} {a:Addr} {xs ys:List V}
theorem Inv.list (I:Inv X pins σ H s) (h:gj X.K H a xs):∃its:List Value,Vals xs its/\PlainL s.heap a its.toArray/\xs.length<=sizeLine:=by
 rcases h with h|⟨o,its,n,hk,hc,hd,hs,hz,r⟩
 ·obtain⟨z,its,n,r,e⟩:=h.ok I.hok;exact⟨its,r,⟨_,n,e,rfl,rfl,rfl⟩,z⟩
 ·refine⟨its.toList,r,⟨o,n,I.kIn a o hk,hc,hd,by simpa using hs⟩,?_⟩
  have e:=r.length;simp only[Wc]at e;lia
theorem Inv.tuple (I:Inv X pins σ H s) (h:jP X.K H a xs):∃its:List Value,Vals xs its/\IsTup s.heap a its.toArray/\xs.length<=sizeLine:=by
 rcases h with h|⟨o,its,n,hk,hc,hs,hz,r⟩
 ·obtain⟨z,its,r,p⟩:=h.ok I.hok;exact⟨its,r,p,z⟩
 ·refine⟨its.toList,r,⟨o,I.kIn a o hk,hc,n,by simpa using hs⟩,?_⟩
  have e:=r.length;simp only[Wc]at e;lia
theorem Inv.list_inj (I:Inv X pins σ H s) (h:gj X.K H a xs) (h':gj X.K H a ys):xs=ys:=by
 obtain⟨its,r,⟨o,n,e,_,_,d⟩,_⟩:=I.list h;obtain⟨its',r',⟨o',n',e',_,_,d'⟩,_⟩:=I.list h';rw[e]at e';cases e';rw[d]at d';injection d' with d1 _;have:its=its':=by simpa using congrArg Array.toList d1
 subst this;exact r.inj r'
theorem Inv.tuple_inj (I:Inv X pins σ H s) (h:jP X.K H a xs) (h':jP X.K H a ys):xs=ys:=by
 obtain⟨its,r,⟨o,e,_,n,d⟩,_⟩:=I.tuple h;obtain⟨its',r',⟨o',e',_,n',d'⟩,_⟩:=I.tuple h';rw[e]at e';cases e';rw[d]at d';injection d' with d1 _;have:its=its':=by simpa using congrArg Array.toList d1
 subst this;exact r.inj r'
end
abbrev Cx.wish (X:Cx) (E:Value->Shared->Prop):Cx:={ X with xe:=E }
abbrev Cx.nox (X:Cx):Cx:=X.wish fun _ _=>False
theorem Cx.Ok.wish {X:Cx} (ok:X.Ok) (E:Value->Shared->Prop):(X.wish E).Ok :=
 ⟨ok.mod,ok.kind,ok.glob,ok.blt,ok.above,ok.inj,ok.has,ok.cab,ok.hd,ok.frames,ok.stk,ok.exf,ok.bs,ok.bsz,ok.noex,ok.exfs,ok.funs,ok.frf⟩
theorem Cx.Ok.unwish {X:Cx} {E:Value->Shared->Prop} (ok:(X.wish E).Ok):X.Ok :=
 ⟨ok.mod,ok.kind,ok.glob,ok.blt,ok.above,ok.inj,ok.has,ok.cab,ok.hd,ok.frames,ok.stk,ok.exf,ok.bs,ok.bsz,ok.noex,ok.exfs,ok.funs,ok.frf⟩
section
variable {X:Cx} {pins:List (Addr×Obj)} {σ:St} {H:Hp} {s:Shared} {E:Value->Shared->Prop}
theorem Inv.wish (I:Inv X pins σ H s) (E:Value->Shared->Prop):Inv (X.wish E) pins σ H s:=⟨I.ok.wish E,I.os,I.bare,I.base,I.loc,I.cell,I.free,I.freeC,I.pin,I.hok,I.len,I.tk⟩
theorem Inv.unwish (I:Inv (X.wish E) pins σ H s):Inv X pins σ H s:=⟨I.ok.unwish,I.os,I.bare,I.base,I.loc,I.cell,I.free,I.freeC,I.pin,I.hok,I.len,I.tk⟩
theorem SP.unwish {D:Ends} {f:Flow} {s':Shared} (h:SP (X.wish E) pins D f s'):SP X pins D f s':=by
 cases f with
 | next=>obtain⟨σ',H',I,q⟩:=h;exact⟨σ',H',I.unwish,q⟩
 | brk=>obtain⟨σ',H',I,q⟩:=h;exact⟨σ',H',I.unwish,q⟩
 | cont=>obtain⟨σ',H',I,q⟩:=h;exact⟨σ',H',I.unwish,q⟩
 | ret u=>obtain⟨v,σ',H',I,r,q⟩:=h;exact⟨v,σ',H',I.unwish,r,q⟩
theorem PSs.nox {st:List Stmt} {t:TS} (h:PSs X.nox st t):PSs X st t:=fun pins s σ H D I hw =>
 Av (h pins s σ H D (I.wish _) hw) (fun _ _ q=>q.unwish) fun _ _ z=>False.elim z
end
section
variable {X:Cx} {st:Stmt} {rest:List Stmt} {t u:TS} {e:Expr} {te:TE} {pos:Pos}
def Ix:TS:=fun D σ H=>D.nx σ H
def MO (t u:TS):TS:=fun D σ H=>t { D with nx:=u D } σ H
theorem bG:PSs X [] Ix:=fun _ _ σ H _ I h=>BZ ⟨σ,H,I,h⟩
theorem am (h1:PS X st t) (h2:PSs X rest u):PSs X (st::rest) (MO t u):=by
 intro pins s σ H D I h;refine wpAny_execs_cons (cT (h1 pins s σ H { D with nx:=u D } I h) fun f s1 q=>?_);cases f with
 | next =>
  obtain⟨σ',H',I',q⟩:=q;exact h2 pins s1 σ' H' D I' q
 | ret v=>exact q
 | brk=>exact q
 | cont=>exact q
theorem aA (h1:PS X st t):PSs X [st] t:=by
 intro pins s σ H D I h;refine wpAny_execs_cons (cT (h1 pins s σ H D I h) fun f s1 q=>?_);cases f with
 | next=>exact BZ q
 | ret v=>exact q
 | brk=>exact q
 | cont=>exact q
theorem Inv.quiet {pins:List (Addr×Obj)} {σ:St} {H:Hp} {s:Shared} (I:Inv X pins σ H s):interactive X.env=false:=by simp[interactive,I.ok.kind]
def Iy (te:TE):TS:=fun D σ H=>te σ H fun _ H1=>D.nx σ H1
theorem fB (he:PE X e te) (hs:swapsWith e none pos.line X.env=pure false:=by rfl):PS X (.Expr e pos) (Iy te):=by
 intro pins s σ H D I h;exact wpAny_Expr_any (cT (he pins s σ H _ I h) fun v s1 ⟨x,H1,I1,r1,q1⟩=>⟨σ,H1,I1,q1⟩) I.quiet hs
def MP (te:TE):TS:=fun D σ H=>te σ H D.rt
theorem aR (he:PE X e te):PS X (.Return (some e) pos) (MP te):=by
 intro pins s σ H D I h;exact wpAny_Return_some (cT (he pins s σ H _ I h) fun v s1 ⟨x,H1,I1,r1,q1⟩=>⟨x,σ,H1,I1,r1,q1⟩)
def MQ (c:TT) (t u:TS):TS:=fun D σ H=>c σ H fun b H1=>if b=true then t D σ H1 else u D σ H1
theorem cH {c:Expr} {a b:List Stmt} {tc:TT} (hc:PT X c tc) (ha:PSs X a t) (hb:PSs X b u):PS X (.If c a b pos) (MQ tc t u):=by
 intro pins s σ H D I h;refine wpAny_If (cT (hc pins s σ H _ I h) fun d s1 zz9=>?_);obtain⟨H1,I1,q1⟩:=zz9;cases d with
 | true=>exact ha pins s1 σ H1 D I1 q1
 | false=>exact hb pins s1 σ H1 D I1 q1
end
abbrev TG:=V->St->Hp->(St->Hp->Prop)->Prop
abbrev Iz:=List V->St->Hp->(St->Hp->Prop)->Prop
def PG (X:Cx) (target:Expr) (t:TG):Prop :=
 ∀(pins:List (Addr×Obj)) (s:Shared) (σ:St) (H:Hp) (v:V) (u:Value) (Q:St->Hp->Prop),Inv X pins σ H s->RelV v u->t v σ H Q ->
  wpAny (model X.prog X.w) X.A (assign target X.env u) (fun _ s'=>∃σ' H',Inv X pins σ' H' s'/\Q σ' H') X.xe s
def MR (X:Cx) (ts:List Expr) (t:Iz):Prop :=
 ∀(pins:List (Addr×Obj)) (s:Shared) (σ:St) (H:Hp) (vs:List V) (us:List Value) (Q:St->Hp->Prop),Inv X pins σ H s->Vals vs us->t vs σ H Q ->
  wpAny (model X.prog X.w) X.A (assignInOrder ((assignEach ts X.env).map (·.2)) us) (fun _ s'=>∃σ' H',Inv X pins σ' H' s'/\Q σ' H') X.xe s
abbrev zM:=V->V->V->Hp->(Hp->Prop)->Prop
def JE (X:Cx) (t:zM):Prop :=
 ∀(pins:List (Addr×Obj)) (s:Shared) (σ:St) (H:Hp) (o i v:V) (ov iv u:Value) (Q:Hp->Prop),Inv X pins σ H s->RelV o ov->RelV i iv->RelV v u->t o i v H Q ->
  wpAny (model X.prog X.w) X.A (setItem ov iv u) (fun _ s'=>∃H',Inv X pins σ H' s'/\Q H') X.xe s
section
variable {X:Cx} {pos:Pos}
def ou (i:Nat):TG:=fun v σ H Q=>Q (σ.set i (some v)) H
theorem wm {i:Nat} {x:Str} (hN:X.N.Nodup) (hi:X.N[i]?=some x) (hx:Loc X.env.scope x) (hf:X.fn x=true∨X.env.scope.names.lookup x=some .local:=by first|exact .inl rfl|exact .inr rfl|assumption):PG X (.Name x pos) (ou i):=by
 intro pins s σ H v u Q I r h;exact wpAny_assign_Name (zL I hN hi hx r (fun s' I'=>⟨_,H,I',h⟩) hf)
def MS:Iz:=fun vs σ H Q=>vs=[]/\Q σ H
def IA (t:TG) (u:Iz):Iz:=fun vs σ H Q=>∃v r,vs=v::r/\t v σ H fun σ' H'=>u r σ' H' Q
theorem qZ:MR X [] MS:=by
 intro pins s σ H vs us Q I r h;obtain⟨e,h⟩:=h;subst e;cases r;exact assignInOrder_nil ⟨σ,H,I,h⟩
theorem gR {e:Expr} {es:List Expr} {t:TG} {u:Iz} (h1:PG X e t) (h2:MR X es u)
  (hs:(assignEach (e::es) X.env).map (·.2)=assign e X.env::(assignEach es X.env).map (·.2):=by rfl):MR X (e::es) (IA t u):=by
 intro pins s σ H vs us Q I r h;obtain⟨v,vr,e1,h⟩:=h;subst e1;cases r with
 | cons r rr =>
  rw[hs];refine assignInOrder_cons (cT (h1 pins s σ H _ _ _ I r h) fun _ s1 zz9=>?_);obtain⟨σ1,H1,I1,q1⟩:=zz9;exact h2 pins s1 σ1 H1 _ _ Q I1 rr q1
def JF (K:PySem.W.Frag) (n:Nat) (t:Iz):TG:=fun v σ H Q=>∃a xs,v=.ref a/\jP K H a xs/\xs.length=n/\t xs σ H Q
theorem JG {es:List Expr} {k:Nat} {t:Iz} {n:Nat} (hc:X.calm=true) (h:MR X es t)
  (hn:(assignEach es X.env).length=n:=by rfl) (hst:(assignEach es X.env).findIdx? (·.1)=none:=by rfl):PG X (.Tuple es k pos) (JF X.K n t):=by
 intro pins s σ H v u Q I r hw;obtain⟨a,xs,e1,hq,hl,hw⟩:=hw;subst e1;cases r;obtain⟨its,rv,ht,hz⟩:=I.tuple hq;refine assign_Tuple_tuple (I.ok.hd hc) ht (by simp[hn,← hl,rv.length]) hst fun h' hx=>?_
 have I1:Inv X pins σ H { s with heap:=h' }:=I.kept (t':=s.toks) fun b o e=>hx b o (Vf (Aj e)) e;exact h pins _ σ H xs _ Q I1 (by simpa using rv) hw
def MT (to ti:TE) (t:zM):TG:=fun v σ H Q=>to σ H fun o H1=>ti σ H1 fun i H2=>t o i v H2 fun H3=>Q σ H3
theorem ik {o i:Expr} {to ti:TE} {t:zM} (ho:PE X o to) (hi:PE X i ti) (hs:JE X t)
  (ha:∀v,assign (.Subscript o i pos) X.env v=(do
   let ov ← holding [v] (eval o X.env)
   let iv ← holding [v,ov] (eval i X.env)
   standAt pos
   holding [v,ov,iv] (setItem ov iv v)
   release [v,ov,iv] []):=by intro _;rfl):PG X (.Subscript o i pos) (MT to ti t):=by
 intro pins s σ H v u Q I r h;rw[ha];refine Aa (As (cT (ho pins s σ H _ I h) fun ov s1 zz9=>?_));obtain⟨x,H1,I1,r1,q1⟩:=zz9;refine Aa (As (cT (hi pins s1 σ H1 _ I1 q1) fun iv s2 zz9=>?_));obtain⟨y,H2,I2,r2,q2⟩:=zz9;refine Aa (wpAny_standAt (Aa (As (cT (hs pins s2 σ H2 x y v ov iv u _ I2 r1 r2 r q2) fun _ s3 zz9=>?_))));obtain⟨H3,I3,q3⟩:=zz9;exact wpAny_release ⟨σ,H3,I3,q3⟩
def yq (te:TE) (g:TG):TS:=fun D σ H=>te σ H fun x H1=>g x σ H1 D.nx
theorem gH {tg e:Expr} {te:TE} {g:TG} (he:PE X e te) (hg:PG X tg g) (hs:swapsWithSole [tg] e pos.line X.env=pure false:=by rfl) (hw:swappedStores [tg] e X.env=pure none:=by rfl)
  (h1:(assignEach [tg] X.env).map (·.2)=[assign tg X.env]:=by rfl):PS X (.Assign [tg] e pos) (yq te g):=by
 intro pins s σ H D I h;refine wpAny_Assign_stores (cT (he pins s σ H _ I h) fun v s1 zz9=>?_) hs hw;obtain⟨x,H1,I1,r1,q1⟩:=zz9;rw[h1];exact cT (hg pins s1 σ H1 x v _ I1 r1 q1) fun _ s2 q=>q
end
section
variable {X:Cx} {pos:Pos}
def zN (c:TT) (tb:TS):TS:=fun D σ H=>∃W:Nat->St->Hp->Prop,(∃m,W m σ H)/\∀m σ H,W m σ H ->
 c σ H fun b H1=>if b=true then ∃N:St->Hp->Prop,(∀σ' H',N σ' H'->∃m',m'<m/\W m' σ' H')/\tb { D with nx:=N,ct:=N,bk:=D.nx } σ H1 else D.nx σ H1
theorem tz {c:Expr} {body:List Stmt} {tc:TT} {tb:TS} (hp:PassesOwn (model X.prog X.w) X.A X.env X.xe) (hc:PT X c tc) (hb:PSs X body tb):PS X (.While c body [] pos) (zN tc tb):=by
 intro pins s σ H D I h;obtain⟨W,⟨m0,w0⟩,turn⟩:=h;refine wpAny_While (codeAny_whileLoop (fun n s'=>∃σ' H',Inv X pins σ' H' s'/\W n σ' H') ?_ m0 ⟨σ,H,I,w0⟩);rintro n s1 ⟨σ1,H1,I1,w1⟩;refine AL hp (cT (hc pins s1 σ1 H1 _ I1 (turn n σ1 H1 w1)) fun b s2 zz9=>?_);obtain⟨H2,I2,q2⟩:=zz9;cases b with
 | true =>
  obtain⟨N,hN,q2⟩:=q2;rw[Ae rfl];refine AL hp (cT (hb pins s2 σ1 H2 _ I2 q2) fun f s3 q3=>?_);cases f with
  | next =>
   obtain⟨σ3,H3,I3,n3⟩:=q3;obtain⟨m',hm,w3⟩:=hN σ3 H3 n3;exact⟨m',hm,σ3,H3,I3,w3⟩
  | cont =>
   obtain⟨σ3,H3,I3,n3⟩:=q3;obtain⟨m',hm,w3⟩:=hN σ3 H3 n3;exact⟨m',hm,σ3,H3,I3,w3⟩
  | brk=>exact q3
  | ret v=>exact q3
 | false =>
  rw[Ai Ze];exact BZ ⟨σ1,H2,I2,q2⟩
end
structure It where
 go:Nat->Hp->Prop
 yld:Nat->Hp->V->Hp->Prop
 stop:Nat->Hp->Prop
def iV (X:Cx) (pins:List (Addr×Obj)) (H:Hp) (b:Addr):Prop :=
 H b=none/\b≠X.env.locals/\b∉X.fs/\(b∈X.ex∨X.s₀.heap.objs.size<=b)/\(∀x c,X.env.cells.lookup x=some c->c≠b)/\∀p∈X.pn++pins,p.1≠b
theorem Inv.fpOk {X:Cx} {pins:List (Addr×Obj)} {σ:St} {H H':Hp} {s:Shared} {b:Addr} (I:Inv X pins σ H s) (hb:s.heap.objs.size<=b) (hn:H' b=none):iV X pins H' b:=by
 refine⟨hn,Wl (Xc I.lt hb),I.nofs hb,.inr (Qd I.sz hb),fun x c e z=>?_,fun p hp z=>?_⟩
 ·obtain⟨v,q⟩:=I.cell x c e;exact absurd (Xc q.lt (by rw[z];exact hb)) (Wi _)
 ·exact absurd (Xc (Aj (I.pin p hp).1) (by rw[z];exact hb)) (Wi _)
structure Turn (P:Program) (w:World) (K:PySem.W.Frag) (tg:Expr) (J:It) (fp:List Addr) (it:Addr) (tn:Nat->Heap->Prop):Prop where
 mem:it∈fp
 obj:∀i h,tn i h->∀b∈fp,∃o,h.get? b=some o/\∀v,o.data≠.cell v
 keep:∀i h h',tn i h->(∀b∈fp,∀o,h.get? b=some o->h'.get? b=some o)->tn i h'
 item:∀(X:Cx),X.prog=P->X.w=w->X.K=K->X.calm=true->∀(i:Nat) (pins:List (Addr×Obj)) (s:Shared) (σ:St) (H:Hp) (E:Value->Shared->Prop),Inv X pins σ H s->(∀b∈fp,iV X pins H b)->tn i s.heap->J.go i H ->
  wpAny (model P w) X.A (pyNext (.ref it)) (fun r s1=>∃u,r=some u /\
   wpAny (model P w) X.A (letOwnedTupleGo tg (.ref it) u) (fun _ s2=>∃x H',Inv X pins σ H' s2/\RelV x u/\J.yld i H x H'/\tn (i+1) s2.heap/\∀b∈fp,H' b=none) E s1) E s
 done:∀(X:Cx),X.prog=P->X.w=w->X.K=K->X.calm=true->∀(i:Nat) (pins:List (Addr×Obj)) (s:Shared) (σ:St) (H:Hp) (E:Value->Shared->Prop),Inv X pins σ H s->(∀b∈fp,iV X pins H b)->tn i s.heap->J.stop i H ->
  wpAny (model P w) X.A (pyNext (.ref it)) (fun r s1=>r=none/\Inv X pins σ H s1) E s
 self:∀(A:Around) (i:Nat) (s:Shared) (Q:Value->Shared->Prop) (E:Value->Shared->Prop),tn i s.heap->Q (.ref it) s->wpAny (model P w) A (pyIter (.ref it)) Q E s
abbrev TI:=St->Hp->(It->Hp->Prop)->Prop
inductive PIE (X:Cx) (pins:List (Addr×Obj)) (σ:St) (tg:Expr) (R:It->Hp->Prop) (itv:Value) (s2:Shared):Prop
 | mk (it:Addr) (fp:List Addr) (tn:Nat->Heap->Prop) (J:It) (H':Hp) (e:itv=.ref it) (I:Inv X pins σ H' s2) (T:Turn X.prog X.w X.K tg J fp it tn) (t0:tn 0 s2.heap) (fo:∀b∈fp,iV X pins H' b) (r:R J H')
def PI (X:Cx) (tg iter:Expr) (wi:TI):Prop :=
 ∀(pins:List (Addr×Obj)) (s:Shared) (σ:St) (H:Hp) (R:It->Hp->Prop),Inv X pins σ H s->wi σ H R ->
  wpAny (model X.prog X.w) X.A (eval iter X.env) (fun v s1=>wpAny (model X.prog X.w) X.A (pyIter v) (PIE X pins σ tg R) X.xe s1) X.xe s
theorem qg {M : Model} {A : Around} {E : Value → Shared → Prop} {s : Shared} {tg : Expr} {it : Addr} {u : Value} {o : Obj} {n : String} {vs : Array Value} {Q : Unit → Shared → Prop} (ho : s.heap.get? it = some o) (hc : o.cls = .type n) (hd : o.data = .fields vs)
    (hn : ["enumerate", "zip", "dict_itemiterator", "dict_reverseitemiterator", "odict_iterator", "itertools.zip_longest", "itertools.pairwise"].contains n = false) (hQ : Q () s) : wpAny M A (letOwnedTupleGo tg (.ref it) u) Q E s := by
  unfold letOwnedTupleGo;cases tg <;> first
    | exact Ab hQ
    | (cases u <;> first
        | exact Ab hQ
        | (refine Aa (wpAny_load ho ?_)
           rw [hc, hd];show wpAny M A (if (["enumerate", "zip", "dict_itemiterator", "dict_reverseitemiterator", "odict_iterator", "itertools.zip_longest", "itertools.pairwise"].contains n && vs[0]? == some (rawInt _)) = true then _ else _) Q E s;rw [Ai (by intro h; rw [hn, Bool.false_and] at h; cases h)]
           exact Ab hQ))
def Pc (K:PySem.W.Frag) (a:Addr):It :=
 ⟨fun i H=>∃xs x,gj K H a xs/\xs[i]?=some x,fun i H x H'=>H'=H/\∀xs,gj K H a xs->xs[i]?=some x,fun i H=>∃xs,gj K H a xs/\xs.length<=i⟩
def Pd (K:PySem.W.Frag) (a:Addr):It :=
 ⟨fun i H=>∃xs x,jP K H a xs/\xs[i]?=some x,fun i H x H'=>H'=H/\∀xs,jP K H a xs->xs[i]?=some x,fun i H=>∃xs,jP K H a xs/\xs.length<=i⟩
def MU (lo:Int) (n:Nat):It:=⟨fun i _=>i<n,fun i H x H'=>H'=H/\x=.int (lo+i),fun i _=>n<=i⟩
theorem yt {P:Program} {w:World} {K:PySem.W.Frag} {tg:Expr} (a it:Addr):Turn P w K tg (Pc K a) [it] it (fun i h=>h.IsListIter it a i) where
 mem:=by simp
 obj:=fun i h st b hb=>by
  have e:b=it:=by simpa using hb
  subst e;obtain⟨o,e,c,d⟩:=st;exact⟨o,e,fun v z=>by rw[d]at z;cases z⟩
 keep:=fun i h h' st k=>st.at fun o e=>k it (by simp) o e
 item:=by
  intro X hP hw hK hc i pins s σ H E I hf st hg;subst hP hw hK;obtain⟨xs,x,hq,hx⟩:=hg;obtain⟨its,rv,p,hz⟩:=I.list hq;obtain⟨u,hu,ru⟩:=rv.get hx;obtain⟨f0,f1,f2,f3,f4,f5⟩:=hf it (by simp)
  refine wpAny_pyNext_list_item st p.isList (x:=u) (by simpa using hu) fun h' st' sb=>?_
  have I1:Inv X pins σ H { s with heap:=h' }:=I.turned (t':=s.toks) (fun b o hb e=>(sb.2 b hb).trans e) f0 f1 f3 f4 f5;obtain⟨o,e,c,d⟩:=id st';exact⟨u,rfl,qg (s:={ s with heap:=h' }) e c d (by decide) ⟨x,H,I1,ru,⟨rfl,fun ys hy=>by rw[I.list_inj hy hq];exact hx⟩,st',fun b hb=>(hf b hb).1⟩⟩
 done:=by
  intro X hP hw hK hc i pins s σ H E I hf st hg;subst hP hw hK;obtain⟨xs,hq,hx⟩:=hg;obtain⟨its,rv,p,hz⟩:=I.list hq;obtain⟨f0,f1,f2,f3,f4,f5⟩:=hf it (by simp)
  have hl:=rv.length;exact wpAny_pyNext_list_end (I.ok.hd hc) st p.isList (by simp;lia) fun h' eb=>⟨rfl,I.turned (t':=s.toks) (fun b o hb e=>eb b o hb e) f0 f1 f3 f4 f5⟩
 self:=fun _ _ _ _ _ st h=>wpAny_pyIter_listiter st h
theorem vk {P:Program} {w:World} {K:PySem.W.Frag} {tg:Expr} (a it:Addr):Turn P w K tg (Pd K a) [it] it (fun i h=>h.IsTupleIter it a i) where
 mem:=by simp
 obj:=fun i h st b hb=>by
  have e:b=it:=by simpa using hb
  subst e;obtain⟨o,e,c,d⟩:=st;exact⟨o,e,fun v z=>by rw[d]at z;cases z⟩
 keep:=fun i h h' st k=>st.at fun o e=>k it (by simp) o e
 item:=by
  intro X hP hw hK hc i pins s σ H E I hf st hg;subst hP hw hK;obtain⟨xs,x,hq,hx⟩:=hg;obtain⟨its,rv,p,hz⟩:=I.tuple hq;obtain⟨u,hu,ru⟩:=rv.get hx;obtain⟨f0,f1,f2,f3,f4,f5⟩:=hf it (by simp)
  refine wpAny_pyNext_tuple_item st (show s.heap.IsTuple a its.toArray from p) (x:=u) (by simpa using hu) fun h' st' sb=>?_
  have I1:Inv X pins σ H { s with heap:=h' }:=I.turned (t':=s.toks) (fun b o hb e=>(sb.2 b hb).trans e) f0 f1 f3 f4 f5;obtain⟨o,e,c,d⟩:=id st';exact⟨u,rfl,qg (s:={ s with heap:=h' }) e c d (by decide) ⟨x,H,I1,ru,⟨rfl,fun ys hy=>by rw[I.tuple_inj hy hq];exact hx⟩,st',fun b hb=>(hf b hb).1⟩⟩
 done:=by
  intro X hP hw hK hc i pins s σ H E I hf st hg;subst hP hw hK;obtain⟨xs,hq,hx⟩:=hg;obtain⟨its,rv,p,hz⟩:=I.tuple hq;obtain⟨f0,f1,f2,f3,f4,f5⟩:=hf it (by simp)
  have hl:=rv.length;exact wpAny_pyNext_tuple_end (I.ok.hd hc) st (show s.heap.IsTuple a its.toArray from p) (by simp;lia) fun h' eb=>⟨rfl,I.turned (t':=s.toks) (fun b o hb e=>eb b o hb e) f0 f1 f3 f4 f5⟩
 self:=fun _ _ _ _ _ st h=>wpAny_pyIter_tupleiter st h
theorem vm {P:Program} {w:World} {K:PySem.W.Frag} {tg:Expr} (it:Addr) (lo:Int) (n:Nat):Turn P w K tg (MU lo n) [it] it (fun i h=>IsRangeIter h it (lo+(i:Nat)*1) ((n:Int)-(i:Nat)) 1) where
 mem:=by simp
 obj:=fun i h st b hb=>by
  have e:b=it:=by simpa using hb
  subst e
  exact⟨_,st,fun v z=>by
   have z':Data.fields _=Data.cell v:=z
   cases z'⟩
 keep:=fun i h h' st k=>k it (by simp) _ st
 item:=by
  intro X hP hw hK hc i pins s σ H E I hf st hg;subst hP hw hK;obtain⟨f0,f1,f2,f3,f4,f5⟩:=hf it (by simp)
  have W:=Walks.range (prog:=X.prog) (w:=X.w) (I.ok.hd hc) it lo 1 n;refine bV (W.item i s _ _ hg st fun v h' tk hv st' kk hle=>?_);have hle:s.toks<=tk:=hle;obtain⟨t,rfl⟩:=hv;have I1:Inv X pins σ H { s with heap:=h',toks:=tk }:=I.turned (fun b o hb e=>kk b o (by simpa using hb) e) f0 f1 f3 f4 f5
  refine⟨_,rfl,qg (s:={ s with heap:=h',toks:=tk }) (n:="range_iterator") st' rfl rfl (by decide) ⟨.int (lo+i),H,I1,⟨t,?_⟩,⟨rfl,rfl⟩,st',fun b hb=>(hf b hb).1⟩⟩
  rw[Int.mul_one]
 done:=by
  intro X hP hw hK hc i pins s σ H E I hf st hg;subst hP hw hK;obtain⟨f0,f1,f2,f3,f4,f5⟩:=hf it (by simp)
  exact wpAny_pyNext_range_end (I.ok.hd hc) st (by have:n<=i:=hg;lia) fun h' eb=>⟨rfl,I.turned (t':=s.toks) (fun b o hb e=>eb b o hb e) f0 f1 f3 f4 f5⟩
 self:=fun _ _ _ _ _ st h=>wpAny_pyIter_rangeiter st h
end L2
namespace L2
open PySem PySem.Spec PyProof.Rows
section
variable {X:Cx} {tg:Expr}
def wn (K:PySem.W.Frag) (tl:TE):TI:=fun σ H R=>tl σ H fun x H1=>∃a,x=.ref a/\(∃xs,gj K H1 a xs)/\R (Pc K a) H1
def JH (K:PySem.W.Frag) (tl:TE):TI:=fun σ H R=>tl σ H fun x H1=>∃a,x=.ref a/\(∃xs,jP K H1 a xs)/\R (Pd K a) H1
theorem GF {l:Expr} {tl:TE} (hl:PE X l tl):PI X tg l (wn X.K tl):=by
 intro pins s σ H R I h;refine cT (hl pins s σ H _ I h) fun v s1 zz9=>?_;obtain⟨x,H1,I1,r1,q1⟩:=zz9;obtain⟨a,e,⟨xs,hq⟩,q⟩:=q1;subst e;cases r1;obtain⟨its,rv,p,hz⟩:=I1.list hq;refine BM p.isList ?_;refine⟨s1.heap.objs.size,[s1.heap.objs.size],_,_,H1,rfl,I1.kept (t':=s1.toks) fun b o e=>Ac _ e,yt a _,⟨_,Ah _ rfl,rfl,rfl⟩,fun b hb=>?_,q⟩;have e:b=s1.heap.objs.size:=by simpa using hb
 subst e;exact I1.fpOk (Xa _) (I1.hok.fresh (Xa _))
theorem JI {l:Expr} {tl:TE} (hl:PE X l tl):PI X tg l (JH X.K tl):=by
 intro pins s σ H R I h;refine cT (hl pins s σ H _ I h) fun v s1 zz9=>?_;obtain⟨x,H1,I1,r1,q1⟩:=zz9;obtain⟨a,e,⟨xs,hq⟩,q⟩:=q1;subst e;cases r1;obtain⟨its,rv,p,hz⟩:=I1.tuple hq;refine wpAny_pyIter_tuple (show s1.heap.IsTuple a its.toArray from p) ?_;refine⟨s1.heap.objs.size,[s1.heap.objs.size],_,_,H1,rfl,I1.kept (t':=s1.toks) fun b o e=>Ac _ e,vk a _,⟨_,Ah _ rfl,rfl,rfl⟩,fun b hb=>?_,q⟩;have e:b=s1.heap.objs.size:=by simpa using hb
 subst e;exact I1.fpOk (Xa _) (I1.hok.fresh (Xa _))
theorem tD {pins:List (Addr×Obj)} {σ:St} {H:Hp} {s:Shared} {R:It->Hp->Prop} {E:Value->Shared->Prop} {lo hi:Int} {t u v:Tok} {tk:Nat} (I:Inv X pins σ H s) (h1:-(2 ^ 62)<=lo) (h2:lo<2 ^ 62) (h3:-(2 ^ 62)<=hi) (h4:hi<2 ^ 62) (ht:0<tk)
  (q:R (MU lo (hi-lo).toNat) H):wpAny (model X.prog X.w) X.A (pyIter (.ref s.heap.objs.size)) (PIE X pins σ tg R) E { s with heap:=s.heap.push { cls:=.type "range",data:=.fields #[.int lo t,.int hi u,.int 1 v] },toks:=tk }:=by
 refine wpAny_pyIter_range (IsRange.new ..) (small_one h1 h2 h3 h4) ?_;have I1:Inv X pins σ H { s with heap:=s.heap.push { cls:=.type "range",data:=.fields #[.int lo t,.int hi u,.int 1 v] },toks:=tk }:=I.kept fun b o e=>Ac _ e
 refine⟨(s.heap.push { cls:=.type "range",data:=.fields #[.int lo t,.int hi u,.int 1 v] }).objs.size,[(s.heap.push { cls:=.type "range",data:=.fields #[.int lo t,.int hi u,.int 1 v] }).objs.size],_,_,H,rfl,
  I1.kept (t':=tk) fun b o e=>Ac _ e,vm _ lo (hi-lo).toNat,?_,fun b hb=>?_,q⟩
 ·have e1:lo+((0:Nat):Int)*1=lo:=by simp
  have e2:(((hi-lo).toNat:Nat):Int)-((0:Nat):Int)=Builtin.Range.rangeSize lo hi 1:=by rw[rangeSize_one];split<;>lia
  show IsRangeIter _ _ (lo+((0:Nat):Int)*1) ((((hi-lo).toNat:Nat):Int)-((0:Nat):Int)) 1;rw[e1,e2];exact Ah _ rfl
 ·have e:b=(s.heap.push { cls:=.type "range",data:=.fields #[.int lo t,.int hi u,.int 1 v] }).objs.size:=by simpa using hb
  subst e;exact I1.fpOk (Xa _) (I1.hok.fresh (Xa _))
def IB (ta:TA):TI:=fun σ H R=>ta σ H fun vs H1=>∃j:Int,vs=[.int j]/\-(2 ^ 62)<=j/\j<2 ^ 62/\R (MU 0 j.toNat) H1
def IC (ta:TA):TI:=fun σ H R=>ta σ H fun vs H1=>∃i j:Int,vs=[.int i,.int j]/\(-(2 ^ 62)<=i/\i<2 ^ 62/\-(2 ^ 62)<=j/\j<2 ^ 62)/\R (MU i (j-i).toNat) H1
theorem my {a:Expr} {ta:TA} {p pos:Pos} (hg:Gl X "range") (hm:X.mg "range"=none) (ha:PA X [a] ta) (hs:starEach [a] X.env=[(false,eval a X.env)]:=by rfl):PI X tg (.Call (.Name "range" p) [a] [] pos) (IB ta):=by
 intro pins s σ H R I h;refine Call_ (iU I hg hm boot_range (AD (cT (ha pos pins s σ H _ I h) fun us s1 zz9=>?_) hs rfl));obtain⟨vs,H1,I1,r1,q1⟩:=zz9;obtain⟨j,e,q1,q2,q⟩:=q1;subst e;cases r1 with
 | cons r rr =>
  cases rr;obtain⟨t,rfl⟩:=r;exact call_range_1 (tD I1 (by lia) (by lia) q1 q2 (Xc I1.tk (by first|exact Xa _|lia)) (by simpa using q))
theorem yu {a b:Expr} {ta:TA} {p pos:Pos} (hg:Gl X "range") (hm:X.mg "range"=none) (ha:PA X [a,b] ta) (hs:starEach [a,b] X.env=[(false,eval a X.env),(false,eval b X.env)]:=by rfl) (hs2:starEach [b] X.env=[(false,eval b X.env)]:=by rfl) :
  PI X tg (.Call (.Name "range" p) [a,b] [] pos) (IC ta):=by
 intro pins s σ H R I h;refine Call_ (iU I hg hm boot_range (AD (cT (ha pos pins s σ H _ I h) fun us s1 zz9=>?_) (by rw[hs,hs2]) (by rw[hs2];rfl)))
 obtain⟨vs,H1,I1,r1,q1⟩:=zz9;obtain⟨i,j,e,⟨q1,q2,q3,q4⟩,q⟩:=q1;subst e;cases r1 with
 | cons r rr =>
  cases rr with
  | cons r' rr =>
   cases rr;obtain⟨t,rfl⟩:=r;obtain⟨t',rfl⟩:=r';exact call_range_2 (tD I1 q1 q2 q3 q4 (Xc I1.tk (by first|exact Xa _|lia)) q)
def JJ (wi:TI) (g:TG) (tb:TS):TS:=fun D σ H=>wi σ H fun J H1=>∃W:Nat->Nat->St->Hp->Prop,(∃m,W 0 m σ H1)/\∀i m σ H,W i m σ H ->
 (J.stop i H/\D.nx σ H)∨(J.go i H/\∃N:St->Hp->Prop,(∀σ' H',N σ' H'->∃m',m'<m/\W (i+1) m' σ' H')/\∀x H',J.yld i H x H'->g x σ H' fun σ2 H2=>tb { D with nx:=N,ct:=N,bk:=D.nx } σ2 H2)
def ox (fp:List Addr) (h:Heap):List (Addr×Obj):=fp.filterMap fun b=>(h.get? b).map fun o=>(b,o)
theorem im {fp:List Addr} {h:Heap} {b:Addr} {o:Obj} (hb:b∈fp) (e:h.get? b=some o):(b,o)∈ox fp h:=List.mem_filterMap.mpr ⟨b,hb,by rw[e];rfl⟩
theorem yw {fp:List Addr} {h:Heap} {p:Addr×Obj} (hp:p∈ox fp h):p.1∈fp/\h.get? p.1=some p.2:=by
 obtain⟨b,hb,e⟩:=List.mem_filterMap.mp hp;cases q:h.get? b with
 | none=>rw[q]at e;cases e
 | some o =>
  rw[q]at e;have e':(b,o)=p:=Option.some.inj e;subst e';exact⟨hb,q⟩
theorem Inv.pinned {pins:List (Addr×Obj)} {σ:St} {H:Hp} {s:Shared} {fp:List Addr} (I:Inv X pins σ H s) (hf:∀b∈fp,iV X pins H b) (ho:∀b∈fp,∃o,s.heap.get? b=some o/\∀v,o.data≠.cell v):Inv X (pins++ox fp s.heap) σ H s :=
 I.pins_of fun p hp=>(Zd.mp hp).elim (fun z=>I.pin p (Wd _ z)) fun z=>by
  obtain⟨hb,e⟩:=yw z;obtain⟨f0,f1,f2,_⟩:=hf p.1 hb;obtain⟨o,e',d⟩:=ho p.1 hb;rw[e]at e';cases e';exact⟨e,f0,f1,f2,d⟩
theorem Inv.unpinned {pins pl:List (Addr×Obj)} {σ:St} {H:Hp} {s:Shared} (I:Inv X (pins++pl) σ H s):Inv X pins σ H s:=I.pins_of fun p hp=>I.pin p (Wd _ (Vi _ hp))
theorem ip {iter:Expr} {body:List Stmt} {wi:TI} {g:TG} {tb:TS} {pos:Pos} (hp:PassesOwn (model X.prog X.w) X.A X.env X.xe) (hc:X.calm=true) (hi:PI X tg iter wi) (hg:PG X tg g) (hb:PSs X body tb)
  (hs:∀x,foldedSetIterable iter X.env x=pure x:=by intro _;rfl):PS X (.For tg iter body [] pos) (JJ wi g tb):=by
 intro pins s σ H D I h;refine wpAny_For (cT (hi pins s σ H _ I h) fun v s1 h1=>cT h1 fun itv s2 h2=>?_) hs;obtain⟨it,fp,tn,J,H2,e,I2,T,st2,f2,W,⟨m0,w0⟩,turn⟩:=h2;subst e;have stat:∀{H':Hp},(∀b∈fp,H' b=none)->∀b∈fp,iV X pins H' b:=fun hn b hb=>⟨hn b hb,(f2 b hb).2⟩;refine codeAny_forLoop_any (fun n s'=>∃i σ' H',Inv X pins σ' H' s'/\tn i s'.heap/\(∀b∈fp,H' b=none)/\W i n σ' H') ?_ m0 ⟨0,σ,H2,I2,st2,fun b hb=>(f2 b hb).1,w0⟩;rintro n s3 ⟨i,σ3,H3,I3,st3,fr3,w3⟩;rcases turn i n σ3 H3 w3 with⟨stop,qn⟩|⟨go,N,hN,step⟩
 ·refine AL hp (cT (T.done X rfl rfl rfl hc i pins s3 σ3 H3 X.xe I3 (stat fr3) st3 stop) fun r s4 zz9=>?_);obtain⟨hr,I4⟩:=zz9;subst hr;exact BZ ⟨σ3,H3,I4,qn⟩
 ·refine AL hp (cT (T.item X rfl rfl rfl hc i pins s3 σ3 H3 X.xe I3 (stat fr3) st3 go) fun r s4 zz9=>?_);obtain⟨u,hr,h4⟩:=zz9;subst hr;refine AL hp (cT h4 fun _ s5 zz9=>?_);obtain⟨x,H5,I5,r5,y5,st5,fr5⟩:=zz9;have I5':=I5.pinned (stat fr5) (T.obj _ _ st5);refine AL hp (cT (hg _ s5 σ3 H5 x u _ I5' r5 (step x H5 y5)) fun _ s6 zz9=>?_);obtain⟨σ6,H6,I6,q6⟩:=zz9;refine AL hp (cT (hb _ s6 σ6 H6 _ I6 q6) fun f s7 q7=>?_);have again:∀{σ7:St} {H7:Hp},Inv X (pins++ox fp s5.heap) σ7 H7 s7->N σ7 H7->∃m,m<n/\∃i σ' H',Inv X pins σ' H' s7/\tn i s7.heap/\(∀b∈fp,H' b=none)/\W i m σ' H':=fun {σ7 H7} I7 n7=>by
   obtain⟨m',hm,w7⟩:=hN σ7 H7 n7;refine⟨m',hm,i+1,σ7,H7,I7.unpinned,T.keep _ _ _ st5 fun b hb o e=>(I7.pin (b,o) (Wd _ (Wd _ (im hb e)))).1,fun b hb=>?_,w7⟩;obtain⟨o,e,d⟩:=T.obj _ _ st5 b hb;exact(I7.pin (b,o) (Wd _ (Wd _ (im hb e)))).2.1
  cases f with
  | next=>obtain⟨σ7,H7,I7,n7⟩:=q7;exact again I7 n7
  | cont=>obtain⟨σ7,H7,I7,n7⟩:=q7;exact again I7 n7
  | brk=>obtain⟨σ7,H7,I7,q7⟩:=q7;exact⟨σ7,H7,I7.unpinned,q7⟩
  | ret v=>obtain⟨x7,σ7,H7,I7,r7,q7⟩:=q7;exact⟨x7,σ7,H7,I7.unpinned,r7,q7⟩
end
end L2
namespace L2
open PySem PySem.Spec PyProof.Rows
abbrev R2:=V->V->Hp->VK->Prop
def OpR (X:Cx) (f:Value->Value->Sem Value) (r:R2):Prop :=
 ∀(pins:List (Addr×Obj)) (s:Shared) (σ:St) (H:Hp) (x y:V) (v u:Value) (Q:VK),Inv X pins σ H s->RelV x v->RelV y u->r x y H Q ->
  wpAny (model X.prog X.w) X.A (f v u) (EP X pins σ Q) X.xe s
def OM (X:Cx) (f:Value->Sem Value) (r:V->Hp->VK->Prop):Prop :=
 ∀(pins:List (Addr×Obj)) (s:Shared) (σ:St) (H:Hp) (x:V) (v:Value) (Q:VK),Inv X pins σ H s->RelV x v->r x H Q ->
  wpAny (model X.prog X.w) X.A (f v) (EP X pins σ Q) X.xe s
def CallR (X:Cx) (f:Value) (r:List V->Hp->VK->Prop):Prop :=
 ∀(pins:List (Addr×Obj)) (s:Shared) (σ:St) (H:Hp) (xs:List V) (us:List Value) (Q:VK),Inv X pins σ H s->Vals xs us->r xs H Q ->
  wpAny (model X.prog X.w) X.A (call f us) (EP X pins σ Q) X.xe s
def zO (r:R2) (ta tb:TE):TE:=fun σ H Q=>ta σ H fun x H1=>tb σ H1 fun y H2=>r x y H2 Q
def Pe (r:V->Hp->VK->Prop) (ta:TE):TE:=fun σ H Q=>ta σ H fun x H1=>r x H1 Q
def rI (C:Int->Int->Prop) (g:Int->Int->V):R2:=fun x y H Q=>∃i j,x=.int i/\y=.int j/\C i j/\Q (g i j) H
def vn (g:Int->Int->V):R2:=fun x y H Q=>∃i j,x=.int i/\y=.int j/\Q (g i j) H
def rU (g:Int->V):V->Hp->VK->Prop:=fun x H Q=>∃i,x=.int i/\Q (g i) H
section
variable {X:Cx} {a b c:Expr} {ta tb tc:TE} {pos:Pos}
theorem JK (ha:PE X a ta) (hb:PE X b tb) {pins:List (Addr×Obj)} {s:Shared} {σ:St} {H:Hp} {R:V->V->Hp->Prop} (I:Inv X pins σ H s)
  (h:ta σ H fun x H1=>tb σ H1 fun y H2=>R x y H2) {Q:Value->Shared->Prop} {f:Value->Value->Sem Value}
  (hf:∀v u s2 x y H2,Inv X pins σ H2 s2->RelV x v->RelV y u->R x y H2->wpAny (model X.prog X.w) X.A (f v u) Q X.xe s2) :
  wpAny (model X.prog X.w) X.A (eval a X.env) (fun v s₁=>wpAny (model X.prog X.w) X.A (eval b X.env) (fun u s₂=>wpAny (model X.prog X.w) X.A (f v u) Q X.xe s₂) X.xe s₁) X.xe s:=by
 refine cT (ha pins s σ H _ I h) fun v s1 zz9=>?_;obtain⟨x,H1,I1,r1,q1⟩:=zz9;refine cT (hb pins s1 σ H1 _ I1 q1) fun u s2 zz9=>?_;obtain⟨y,H2,I2,r2,q2⟩:=zz9;exact hf v u s2 x y H2 I2 r1 r2 q2
theorem ci {op:Operator} {r:R2} (ho:OpR X (binaryOp op) r) (ha:PE X a ta) (hb:PE X b tb):PE X (.BinOp a op b pos) (zO r ta tb):=by
 intro pins s σ H Q I h;exact wpAny_BinOp (JK ha hb I h fun v u s2 x y H2 I2 rx ry q=>ho pins s2 σ H2 x y v u Q I2 rx ry q)
theorem tE {op:UnaryOp} {r:V->Hp->VK->Prop} (ho:OM X (unaryOp op) r) (ha:PE X a ta):PE X (.UnaryOp op a pos) (Pe r ta):=by
 intro pins s σ H Q I h;exact UnaryOp_ (cT (ha pins s σ H _ I h) fun v s1 ⟨x,H1,I1,r1,q1⟩=>ho pins s1 σ H1 x v Q I1 r1 q1)
theorem Os {f:Value->Value->Sem Value} {C:Int->Int->Prop} {g:Int->Int->Int}
  (rule:∀(i j:Int) (t u:Tok) (s:Shared) (Q:Value->Shared->Prop) (E:Value->Shared->Prop),C i j->Q (.int (g i j) s.toks) { s with toks:=s.toks+1 }->wpAny (model X.prog X.w) X.A (f (.int i t) (.int j u)) Q E s) :
  OpR X f (rI C fun i j=>.int (g i j)):=by
 intro pins s σ H x y v u Q I rx ry h;obtain⟨i,j,rfl,rfl,hc,q⟩:=h;obtain⟨t,rfl⟩:=rx;obtain⟨t',rfl⟩:=ry;exact rule i j t t' s _ _ hc ⟨.int (g i j),H,I.tok _,⟨_,rfl⟩,q⟩
theorem MV {f:Value->Value->Sem Value} {g:Int->Int->Int}
  (rule:∀(i j:Int) (t u:Tok) (s:Shared) (Q:Value->Shared->Prop) (E:Value->Shared->Prop),Q (.int (g i j) s.toks) { s with toks:=s.toks+1 }->wpAny (model X.prog X.w) X.A (f (.int i t) (.int j u)) Q E s) :
  OpR X f (vn fun i j=>.int (g i j)):=by
 intro pins s σ H x y v u Q I rx ry h;obtain⟨i,j,rfl,rfl,q⟩:=h;obtain⟨t,rfl⟩:=rx;obtain⟨t',rfl⟩:=ry;exact rule i j t t' s _ _ ⟨.int (g i j),H,I.tok _,⟨_,rfl⟩,q⟩
theorem JL {f:Value->Value->Sem Value} {g:Int->Int->Bool}
  (rule:∀(i j:Int) (t u:Tok) (s:Shared) (Q:Value->Shared->Prop) (E:Value->Shared->Prop),Q (.bool (g i j)) s->wpAny (model X.prog X.w) X.A (f (.int i t) (.int j u)) Q E s) :
  OpR X f (vn fun i j=>.bl (g i j)):=by
 intro pins s σ H x y v u Q I rx ry h;obtain⟨i,j,rfl,rfl,q⟩:=h;obtain⟨t,rfl⟩:=rx;obtain⟨t',rfl⟩:=ry;exact rule i j t t' s _ _ ⟨.bl (g i j),H,I,rfl,q⟩
def vo (i j:Int):Prop:=0<j/\j<1073741824
def zP (i j:Int):Prop:=0<=j/\j<=1000000/\i.natAbs<2 ^ 64
def CMul (i j:Int):Prop:=(-(2 ^ 64)<i/\i<2 ^ 64)∨(-(2 ^ 64)<j/\j<2 ^ 64)
theorem CMul.ok {i j:Int} (h:CMul i j):IntMulOk i j:=by
 rcases h with⟨h1,h2⟩|⟨h1,h2⟩
 ·exact .of_left (intBits_le_64 h1 h2)
 ·exact .of_right (intBits_le_64 h1 h2)
theorem op_add:OpR X (binaryOp .Add) (vn fun i j=>.int (i+j)):=MV fun _ _ _ _ _ _ _ q=>add_int q
theorem zQ:OpR X (binaryOp .Sub) (vn fun i j=>.int (i-j)):=MV fun _ _ _ _ _ _ _ q=>sub_int q
theorem op_mul:OpR X (binaryOp .Mult) (rI CMul fun i j=>.int (i*j)):=Os fun _ _ _ _ _ _ _ hc q=>mul_int q hc.ok
theorem nN:OpR X (binaryOp .FloorDiv) (rI vo fun i j=>.int (i / j)):=Os fun i j _ _ _ _ _ hc q=>by
 have h1:(0:Int)<j:=hc.1;have h2:j<1073741824:=hc.2;exact floordiv_int (by lia) (by rw[Int.fdiv_eq_ediv_of_nonneg i (by lia)];exact q) (.inl (PyProof.noPylong_small (by lia)))
theorem iW:OpR X (binaryOp .Mod) (rI (fun _ j=>0<j) fun i j=>.int (i % j)):=Os fun i j _ _ _ _ _ hc q=>by
 have h1:(0:Int)<j:=hc;exact mod_int' (by lia) (by rw[Int.fmod_eq_emod_of_nonneg i (by lia)];exact q)
theorem JM:OpR X (binaryOp .Pow) (rI zP fun i j=>.int (i ^ j.toNat)):=Os fun _ _ _ _ _ _ _ hc q=>pow_int_small hc.1 hc.2.1 hc.2.2 q
theorem Pt {f:Value->Sem Value} {g:Int->Int}
  (rule:∀(i:Int) (t:Tok) (s:Shared) (Q:Value->Shared->Prop) (E:Value->Shared->Prop),Q (.int (g i) s.toks) { s with toks:=s.toks+1 }->wpAny (model X.prog X.w) X.A (f (.int i t)) Q E s) :
  OM X f (rU fun i=>.int (g i)):=by
 intro pins s σ H x v Q I rx h;obtain⟨i,rfl,q⟩:=h;obtain⟨t,rfl⟩:=rx;exact rule i t s _ _ ⟨.int (g i),H,I.tok _,⟨_,rfl⟩,q⟩
theorem oy:OM X (unaryOp .USub) (rU fun i=>.int (-i)):=Pt fun _ _ _ _ _ q=>neg_int q
end
def JN:V->V->Bool
 | .non,.non=>true|.non,.int _=>true|.int _,.non=>true|.non,.bl _=>true|.bl _,.non=>true|.non,.str _=>true|.str _,.non=>true
 | .int _,.int _=>true|.bl _,.bl _=>true|.str _,.str _=>true|.byt _,.byt _=>true
 | .int _,.str _=>true|.str _,.int _=>true|.bl _,.str _=>true|.str _,.bl _=>true
 | _,_=>false
def MW:R2:=fun x y H Q=>JN x y=true/\Q (.bl (decide (x=y))) H
def OO:R2:=fun x y H Q=>JN x y=true/\Q (.bl (!decide (x=y))) H
theorem wo {i j:Int}:decide (V.int i=V.int j)=(i == j):=by
 rw[Yf];simp
theorem zR {i j:Bool}:decide (V.bl i=V.bl j)=(i == j):=by
 rw[Yf];simp
theorem wq {i j:Str}:decide (V.str i=V.str j)=(i == j):=by
 rw[Yf];simp
theorem wr {i j:Array UInt8}:decide (V.byt i=V.byt j)=(i.toList == j.toList):=by
 rw[Yf];cases i;cases j;simp
section
variable {X:Cx} {a b c:Expr} {ta tb tc:TE} {pos:Pos}
theorem bo {pins:List (Addr×Obj)} {σ:St} {H:Hp} {s:Shared} {Q:VK} {k k':Bool} (I:Inv X pins σ H s) (q:Q (.bl k) H) (e:k=k'):EP X pins σ Q (.bool k') s:=by
 subst e;exact⟨.bl k,H,I,rfl,q⟩
theorem dJ:OpR X (compareOp .Eq) MW:=by
 intro pins s σ H x y v u Q I rx ry h;obtain⟨hs,q⟩:=h;cases x with
 | non =>
  cases rx;cases y with
  | non=>cases ry;exact PySem.EqNone.eq_none_none (bo I q (by simp))
  | bl j=>cases ry;exact PySem.EqNone.eq_none_bool (bo I q (by simp))
  | int j=>obtain⟨t',rfl⟩:=ry;exact PySem.EqNone.eq_none_int (bo I q (by simp))
  | str j=>obtain⟨t',rfl⟩:=ry;exact PySem.EqNone.eq_none_str (bo I q (by simp))
  | _=>exact absurd (show false=true from hs) Ze
 | bl i =>
  cases rx;cases y with
  | non=>cases ry;exact PySem.EqNone.eq_bool_none (bo I q (by simp))
  | bl j=>cases ry;exact eq_bool (bo I q zR)
  | str j=>obtain⟨t',rfl⟩:=ry;exact PySem.EqMixed.eq_bool_str (bo I q (by simp))
  | _=>exact absurd (show false=true from hs) Ze
 | int i =>
  obtain⟨t,rfl⟩:=rx;cases y with
  | non=>cases ry;exact PySem.EqNone.eq_int_none (bo I q (by simp))
  | int j=>obtain⟨t',rfl⟩:=ry;exact eq_int (bo I q wo)
  | str j=>obtain⟨t',rfl⟩:=ry;exact PySem.EqMixed.eq_int_str (bo I q (by simp))
  | _=>exact absurd (show false=true from hs) Ze
 | str i =>
  obtain⟨t,rfl⟩:=rx;cases y with
  | non=>cases ry;exact PySem.EqNone.eq_str_none (bo I q (by simp))
  | bl j=>cases ry;exact PySem.EqMixed.eq_str_bool (bo I q (by simp))
  | int j=>obtain⟨t',rfl⟩:=ry;exact PySem.EqMixed.eq_str_int (bo I q (by simp))
  | str j=>obtain⟨t',rfl⟩:=ry;exact eq_str (bo I q wq)
  | _=>exact absurd (show false=true from hs) Ze
 | byt i =>
  obtain⟨t,rfl⟩:=rx;cases y with
  | byt j=>obtain⟨t',rfl⟩:=ry;exact PySem.W.eq_bytes (bo I q wr)
  | _=>exact absurd (show false=true from hs) Ze
 | _=>cases y<;>exact absurd (show false=true from hs) Ze
theorem op_ne:OpR X (compareOp .NotEq) OO:=by
 intro pins s σ H x y v u Q I rx ry h;obtain⟨hs,q⟩:=h;cases x with
 | non =>
  cases rx;cases y with
  | non=>cases ry;exact PySem.EqNone.ne_none_none (bo I q (by simp))
  | bl j=>cases ry;exact PySem.EqNone.ne_none_bool (bo I q (by simp))
  | int j=>obtain⟨t',rfl⟩:=ry;exact PySem.EqNone.ne_none_int (bo I q (by simp))
  | str j=>obtain⟨t',rfl⟩:=ry;exact PySem.EqNone.ne_none_str (bo I q (by simp))
  | _=>exact absurd (show false=true from hs) Ze
 | bl i =>
  cases rx;cases y with
  | non=>cases ry;exact PySem.EqNone.ne_bool_none (bo I q (by simp))
  | bl j=>cases ry;exact ne_bool (bo I q (congrArg not zR))
  | str j=>obtain⟨t',rfl⟩:=ry;exact PySem.EqMixed.ne_bool_str (bo I q (by simp))
  | _=>exact absurd (show false=true from hs) Ze
 | int i =>
  obtain⟨t,rfl⟩:=rx;cases y with
  | non=>cases ry;exact PySem.EqNone.ne_int_none (bo I q (by simp))
  | int j=>obtain⟨t',rfl⟩:=ry;exact ne_int (bo I q (congrArg not wo))
  | str j=>obtain⟨t',rfl⟩:=ry;exact PySem.EqMixed.ne_int_str (bo I q (by simp))
  | _=>exact absurd (show false=true from hs) Ze
 | str i =>
  obtain⟨t,rfl⟩:=rx;cases y with
  | non=>cases ry;exact PySem.EqNone.ne_str_none (bo I q (by simp))
  | bl j=>cases ry;exact PySem.EqMixed.ne_str_bool (bo I q (by simp))
  | int j=>obtain⟨t',rfl⟩:=ry;exact PySem.EqMixed.ne_str_int (bo I q (by simp))
  | str j=>obtain⟨t',rfl⟩:=ry;exact ne_str (bo I q (congrArg not wq))
  | _=>exact absurd (show false=true from hs) Ze
 | byt i =>
  obtain⟨t,rfl⟩:=rx;cases y with
  | byt j=>obtain⟨t',rfl⟩:=ry;exact PySem.W.ne_bytes (bo I q (congrArg not wr))
  | _=>exact absurd (show false=true from hs) Ze
 | _=>cases y<;>exact absurd (show false=true from hs) Ze
theorem op_lt:OpR X (compareOp .Lt) (vn fun i j=>.bl (decide (i<j))):=JL fun _ _ _ _ _ _ _ q=>lt_int q
theorem zS:OpR X (compareOp .Gt) (vn fun i j=>.bl (decide (j<i))):=JL fun _ _ _ _ _ _ _ q=>gt_int q
theorem MX:OpR X (compareOp .GtE) (vn fun i j=>.bl (decide (j<=i))):=JL fun _ _ _ _ _ _ _ q=>ge_int q
theorem yx:OpR X (compareOp .Lt) (fun x y H Q=>∃i j,x=.str i/\y=.str j/\Q (.bl (decide (i.cps.toList<j.cps.toList))) H):=by
 intro pins s σ H x y v u Q I rx ry h;obtain⟨i,j,rfl,rfl,q⟩:=h;obtain⟨t,rfl⟩:=rx;obtain⟨t',rfl⟩:=ry;exact lt_str (bo I q rfl)
theorem op_in_str:OpR X (compareOp .In) (fun x y H Q=>∃i j,x=.str i/\y=.str j/\Q (.bl (!(Builtin.Str.occurrences j i 0 j.length 1).isEmpty)) H):=by
 intro pins s σ H x y v u Q I rx ry h;obtain⟨i,j,rfl,rfl,q⟩:=h;obtain⟨t,rfl⟩:=rx;obtain⟨t',rfl⟩:=ry;exact in_str (bo I q rfl)
theorem q0:OpR X (compareOp .Is) (fun x y H Q=>y=.non/\Q (.bl (decide (x=.non))) H):=by
 intro pins s σ H x y v u Q I rx ry h;obtain⟨rfl,q⟩:=h;cases ry;refine is_none_gen (bo I q ?_);cases x<;>first
  | (cases rx;rfl)
  | (obtain⟨t,rfl⟩:=rx;rfl)
theorem GG:OpR X (compareOp .IsNot) (fun x y H Q=>y=.non/\Q (.bl (!decide (x=.non))) H):=by
 intro pins s σ H x y v u Q I rx ry h;obtain⟨rfl,q⟩:=h;cases ry;refine isnot_none_gen (bo I q ?_);cases x<;>first
  | (cases rx;rfl)
  | (obtain⟨t,rfl⟩:=rx;rfl)
theorem OpR.or {f:Value->Value->Sem Value} {r r':R2} (h:OpR X f r) (h':OpR X f r'):OpR X f (fun x y H Q=>r x y H Q∨r' x y H Q):=by
 intro pins s σ H x y v u Q I rx ry q;rcases q with q|q
 ·exact h pins s σ H x y v u Q I rx ry q
 ·exact h' pins s σ H x y v u Q I rx ry q
theorem zT (b:Expr) {op:CmpOp} (h:op≠.In:=by decide) (h2:op≠.NotIn:=by decide):behindInMarks op b=false:=by
 have e1:(op == CmpOp.In)=false:=by cases op<;>first|rfl|exact absurd rfl h
 have e2:(op == CmpOp.NotIn)=false:=by cases op<;>first|rfl|exact absurd rfl h2
 cases b<;>simp[behindInMarks,e1,e2]
theorem GH {op:CmpOp} {r:R2} (ho:OpR X (compareOp op) r) (ha:PE X a ta) (hb:PE X b tb) (hm:behindInMarks op b=false):PE X (.Compare a [op] [b] pos) (zO r ta tb):=by
 intro pins s σ H Q I h;exact wpAny_Compare1 (JK ha hb I h fun v u s2 x y H2 I2 rx ry q=>ho pins s2 σ H2 x y v u Q I2 rx ry q) hm
def zU (t:TE):TT:=fun σ H Q=>t σ H fun x H'=>∃k,x=.bl k/\Q k H'
theorem q8 {op:CmpOp} {r:R2} (ho:OpR X (compareOp op) r) (ha:PE X a ta) (hb:PE X b tb) (hm:behindInMarks op b=false):PT X (.Compare a [op] [b] pos) (zU (zO r ta tb)):=by
 intro pins s σ H Q I h
 refine wpAny_isTrue_Compare1 (cT (ha pins s σ H _ I h) fun v s1 ⟨x,H1,I1,r1,q1⟩=>cT (hb pins s1 σ H1 _ I1 q1) fun u s2 ⟨y,H2,I2,r2,q2⟩ =>
  cT (ho pins s2 σ H2 x y v u _ I2 r1 r2 q2) fun c s3 ⟨z,H3,I3,r3,k,e,q3⟩=>?_) hm
 subst e;cases r3;exact Az ⟨H3,I3,q3⟩
theorem mz:(sizeLine:Nat)<2 ^ 63:=by rw[B5];decide
theorem op_add_str:OpR X (binaryOp .Add) (fun x y H Q=>∃i j,x=.str i/\y=.str j/\i.length+j.length<=sizeLine/\Q (.str (i++j)) H):=by
 intro pins s σ H x y v u Q I rx ry h;obtain⟨i,j,rfl,rfl,hz,q⟩:=h;obtain⟨t,rfl⟩:=rx;obtain⟨t',rfl⟩:=ry;exact bV (add_str (fun t' tk hle=>⟨.str (i++j),H,I.tok _ (I.tkl' hle),⟨_,rfl⟩,q⟩) hz)
theorem vals1 {x:V} {us:List Value} (r:Vals [x] us):∃u,us=[u]/\RelV x u:=by
 cases r with
 | cons r1 r2=>cases r2;exact⟨_,rfl,r1⟩
theorem vals2 {x y:V} {us:List Value} (r:Vals [x,y] us):∃u w',us=[u,w']/\RelV x u/\RelV y w':=by
 cases r with
 | cons r1 r2 =>
  cases r2 with
  | cons r3 r4=>cases r4;exact⟨_,_,rfl,r1,r3⟩
theorem yy:CallR X (.type "int") (fun xs H Q=>(∃i,xs=[.int i]/\Q (.int i) H)∨∃k,xs=[.bl k]/\Q (.int (if k then 1 else 0)) H):=by
 intro pins s σ H xs us Q I r h;rcases h with⟨i,rfl,q⟩|⟨k,rfl,q⟩
 ·obtain⟨u,rfl,t,rfl⟩:=vals1 r;exact call_int_int ⟨.int i,H,I,⟨_,rfl⟩,q⟩
 ·obtain⟨u,rfl,r1⟩:=vals1 r;cases r1;exact call_int_bool ⟨.int (if k then 1 else 0),H,I.tok _,⟨_,rfl⟩,q⟩
end
end L2
namespace L2
open PySem PySem.Spec PyProof.Rows
structure ObjM (h:Heap) (x dx C:Addr) (mA:Str->Option Value):Prop where
 obj:h.get? x=some (PySem.W.instObj C dx)
 ns:h.Ns1 dx mA
 ne:dx≠x
theorem yz {h:Heap} {dx:Addr} {mA:Str->Option Value} (n:h.Ns1 dx mA):∃od,h.get? dx=some od/\∀name,PySem.W.lookIn name od=some (mA name):=by
 obtain⟨o,es,ep,ho,hd,hk,_,hm⟩:=n;refine⟨o,ho,fun name=>?_⟩;have e:=hm name;unfold nsFind findBy at e;rw[← Array.find?_toList]at e;unfold PySem.W.lookIn;rw[hd];dsimp only;split
 ·rename_i y q
  rw[q]at e;exact congrArg some e
 ·rename_i q
  rw[q]at e;have a:es.toList.any (·.refKey)=false:=by
   rw[List.any_eq_false];intro y hy;obtain⟨z,t,hkey⟩:=hk y (Array.mem_toList_iff.mp hy);simp[DictEntry.refKey,hkey]
  have a':¬ es.toList.any (·.refKey)=true:=by rw[a];exact Ze
  rw[Ai a'];exact congrArg some e
theorem ObjM.look {h:Heap} {x dx C:Addr} {mA:Str->Option Value} (I:ObjM h x dx C mA):∃od,PySem.W.InstAt h x (PySem.W.instObj C dx) C (some od)/\∀name,PySem.W.lookIn name od=some (mA name) :=
 let ⟨od,ho,hl⟩:=yz I.ns
 ⟨od,⟨I.obj,rfl,rfl,ho⟩,hl⟩
theorem RelO.some_of {v:V} {o:Option Value} (r:RelO (some v) o):∃u,o=some u/\RelV v u:=by
 cases o with
 | none=>exact(show False from r).elim
 | some u=>exact⟨u,rfl,r⟩
section
variable {P:Program} {w:World} {H H':Hp} {h h':Heap} {a C dx:Addr} {fs fs':List (Str×V)}
theorem GI (hok:HOk P w H h) (e:H a=some (.ins C dx fs)):∃mA,ObjM h a dx C mA/\(∀f,RelO (fs.lookup f) (mA f))/\PySem.Within mA (fs.map (·.1))/\fs.length<=1000/\H dx=some (.own a):=by
 obtain⟨d,z,ne,ob,mA,n,r,q⟩:=(show ObjOk P w H h a (.ins C dx fs) from hok a _ e);exact⟨mA,⟨ob,n,ne⟩,r,q,z,d⟩
end
structure Cls (K:PySem.W.Frag) (C:Addr):Prop where
 pg:PySem.W.plainGet K C Str.empty=true
 hd:PySem.W.hasDictIn K C=true
 po:PySem.W.plainOver K C=true
 sa:PySem.W.findIn K (.ref C) "__setattr__"=some (some (.builtin "object.__setattr__"))
theorem Cls.get {K:PySem.W.Frag} {C:Addr} (c:Cls K C) (f:Str):PySem.W.plainGet K C f=true:=c.pg
section
variable {X:Cx} {pins:List (Addr×Obj)} {σ:St} {H:Hp} {s:Shared} {A:Around} {E:Value->Shared->Prop} {Q:Value->Shared->Prop} {c:Value} {b:Bool}
inductive TyOf (K:PySem.W.Frag) (H:Hp):V->Value->Prop where
 | non:TyOf K H .non (.type "NoneType")
 | bl (x:Bool):TyOf K H (.bl x) (.type "bool")
 | int (i:Int):TyOf K H (.int i) (.type "int")
 | str (x:Str):TyOf K H (.str x) (.type "str")
 | flt (x:UInt64):TyOf K H (.flt x) (.type "float")
 | lst {a:Addr} {xs:List V} (e:H a=some (.lst xs)):TyOf K H (.ref a) (.type "list")
 | frz {a:Addr} {o:Obj} {xs:List V} (e:H a=some (.frz o (.lst xs))):TyOf K H (.ref a) (.type "list")
 | tup {a:Addr} {xs:List V} (e:H a=some (.tup xs)):TyOf K H (.ref a) (.type "tuple")
 | dK {a:Addr} {kvs:List (Key×V)} (e:H a=some (.dK kvs)):TyOf K H (.ref a) (.type "dict")
 | dT {a:Addr} {ep:Nat×List Addr} {kvs:List (bA×V)} (e:H a=some (.dT ep kvs)):TyOf K H (.ref a) (.type "dict")
 | ins {a C dx:Addr} {fs:List (Str×V)} (e:H a=some (.ins C dx fs)) (cl:Cls K C) (ha:PySem.W.findIn K (.ref C) "__class__"=some (some (.builtin "object.__class__")))
   (hn:PySem.W.specialIn K (.builtin "object.__class__") "__get__"=some (some (.builtin "getset_descriptor.__get__"))) (htk:PySem.W.takesIn K (.builtin "object.__class__")=some true)
   (hm:PySem.W.mroIn K C (.type "object")=some true):TyOf K H (.ref a) (.ref C)
theorem d9 {x:V} {u t:Value} (I:Inv X pins σ H s) (rx:RelV x u) (ty:TyOf X.K H x t) (e:PySem.W.kitOne X.K t c=some b) (h:∀tk,Q (.bool b) { s with toks:=tk }) :
  wpAny (model X.prog X.w) A (call (.builtin "isinstance") [u,c]) Q E s:=by
 cases ty with
 | non=>cases (show u=Value.none from rx);exact PySem.W.kia_one PySem.W.kitx_none I.kIn True.intro e (fun z=>nomatch z) h
 | bl y=>cases (show u=Value.bool y from rx);exact PySem.W.kia_one PySem.W.kitx_bool I.kIn True.intro e (fun z=>nomatch z) h
 | int i=>obtain⟨t,q⟩:=(show ∃t,u=Value.int i t from rx);cases q;exact PySem.W.kia_one PySem.W.kitx_int I.kIn True.intro e (fun z=>nomatch z) h
 | str y=>obtain⟨t,q⟩:=(show ∃t,u=Value.str y t from rx);cases q;exact PySem.W.kia_one PySem.W.kitx_str I.kIn True.intro e (fun z=>nomatch z) h
 | flt y=>obtain⟨t,q⟩:=(show ∃t,u=Value.float y t from rx);cases q;exact PySem.W.kia_one PySem.W.kitx_float I.kIn True.intro e (fun z=>nomatch z) h
 | @lst a xs ea =>
  cases (show u=Value.ref a from rx);obtain⟨_,_,n,_,h1⟩:=(show ObjOk X.prog X.w H s.heap a (.lst xs) from I.hok a _ ea);exact PySem.W.kia_one PySem.W.kitx_list I.kIn ⟨_,h1,rfl⟩ e (fun z=>nomatch z) h
 | @frz a ob xs ea =>
  cases (show u=Value.ref a from rx);obtain⟨_,_,_,n,_,h1⟩:=(show ObjOk X.prog X.w H s.heap a (.frz ob (.lst xs)) from I.hok a _ ea);exact PySem.W.kia_one PySem.W.kitx_list I.kIn ⟨_,h1,rfl⟩ e (fun z=>nomatch z) h
 | @tup a xs ea =>
  cases (show u=Value.ref a from rx);obtain⟨_,_,_,p⟩:=(show ObjOk X.prog X.w H s.heap a (.tup xs) from I.hok a _ ea);obtain⟨o,h1,h2,_⟩:=p;exact PySem.W.kia_one PySem.W.kitx_tuple I.kIn ⟨o,h1,h2⟩ e (fun z=>nomatch z) h
 | @dK a kvs ea =>
  cases (show u=Value.ref a from rx);obtain⟨_,_,vs,_,p⟩:=(show ObjOk X.prog X.w H s.heap a (.dK kvs) from I.hok a _ ea);obtain⟨o,es,ep,h1,h2,_⟩:=p;exact PySem.W.kia_one PySem.W.kitx_dict I.kIn ⟨o,h1,h2.1⟩ e (fun z=>nomatch z) h
 | @dT a ep kvs ea =>
  cases (show u=Value.ref a from rx);obtain⟨_,_,xs,_,_,o,es,h1,h2,_⟩:=(show ObjOk X.prog X.w H s.heap a (.dT ep kvs) from I.hok a _ ea);exact PySem.W.kia_one PySem.W.kitx_dict I.kIn ⟨o,h1,h2.1⟩ e (fun z=>nomatch z) h
 | @ins a C dx fs ea cl ha hn htk hm =>
  cases (show u=Value.ref a from rx);obtain⟨mA,O,_⟩:=GI I.hok ea;obtain⟨od,J,_⟩:=O.look;exact PySem.W.kia_one (PySem.W.kitx_own (cl.get _) cl.hd ha hn htk hm) I.kIn J e (fun z=>nomatch z) h
end
end L2
namespace L2
open PySem PySem.Spec PyProof.Rows
structure Room (k:Nat) (A:Around):Prop where
 hd:A.handled=none
 dp:A.depth+3*k+5<recursionLimit
 un:A.units+16*k+200<cLine
theorem Room.mono {j k:Nat} {A:Around} (r:Room k A) (h:j<=k):Room j A:=⟨r.hd,by have:=r.dp;lia,by have:=r.un;lia⟩
theorem Room.deeper {k:Nat} {A:Around} (r:Room (k+1) A) (env:Env):Room k (A.deeper env) :=
 ⟨r.hd,by have:=r.dp;show A.depth+1+3*k+5<_;lia,by have:=r.un;show A.units+3+16*k+200<_;lia⟩
theorem Room.in1 {k:Nat} {A:Around} (r:Room (k+1) A):Room k A.in1 :=
 ⟨r.hd,by have:=r.dp;show A.depth+3*k+5<_;lia,by have:=r.un;show A.units+1+16*k+200<_;lia⟩
theorem Room.depth {k:Nat} {A:Around} (r:Room k A):A.depth<recursionLimit:=by have:=r.dp;lia
theorem Room.units {k:Nat} {A:Around} (r:Room k A):A.units+64<cLine:=by have:=r.un;lia
def mB:TA:=fun _ H Q=>Q [] H
def dL (ta:TE) (tr:TA):TA:=fun σ H Q=>ta σ H fun x H1=>tr σ H1 fun xs H2=>Q (x::xs) H2
section
variable {X:Cx} {e:Expr} {es:List Expr} {te:TE} {t:TA} {pos:Pos}
theorem ak:PA X [] mB:=fun _ _ _ _ H Q I h=>Calls.spliced_nil ⟨[],H,I,.nil,h⟩
theorem nO (ha:PE X e te) (hr:PA X es t) (hs:starEach (e::es) X.env=(false,eval e X.env)::starEach es X.env:=by rfl):PA X (e::es) (dL te t):=by
 intro pos pins s σ H Q I h;rw[hs];show wpAny _ _ (spliced ((false,eval e X.env)::backTo pos (starEach es X.env))) _ _ s;refine Ct (cT (ha pins s σ H _ I h) fun u s1 zz9=>?_);obtain⟨x,H1,I1,r1,q1⟩:=zz9;exact cT (hr pos pins s1 σ H1 _ I1 q1) fun us s2 ⟨xs,H2,I2,r2,q2⟩=>⟨x::xs,H2,I2,.cons r1 r2,q2⟩
def MY (t:TA):TE:=fun σ H Q=>t σ H fun xs H1=>xs.length<=sizeLine/\∀p,H1 p=none->Q (.ref p) (upd H1 p (.tup xs))
def zV (t:TA):TE:=fun σ H Q=>t σ H fun xs H1=>xs.length<=sizeLine/\∀p,H1 p=none->Q (.ref p) (upd H1 p (.lst xs))
theorem dC {x1} (h:PA X es t):PE X (.Tuple es x1 pos) (MY t):=by
 intro pins s σ H Q I hq;refine wpAny_Tuple_spliced (cT (h pos pins s σ H _ I hq) fun us s1 ⟨xs,H1,I1,r,z,q⟩=>⟨by rw[← r.length];exact z,?_⟩)
 have hf:H1 s1.heap.objs.size=none:=I1.hok.fresh (Xa _);refine⟨.ref s1.heap.objs.size,upd H1 s1.heap.objs.size (.tup xs),I1.laid (t':=s1.toks) (fun b u e=>Ac _ e) (Xa _) ?_,rfl,q _ hf⟩;exact⟨z,us,r,⟨_,Ah _ rfl,rfl,_,rfl⟩⟩
theorem fq (h:PA X es t):PE X (.List es pos) (zV t):=by
 intro pins s σ H Q I hq;refine wpAny_List_spliced (cT (h pos pins s σ H _ I hq) fun us s1 ⟨xs,H1,I1,r,z,q⟩=>⟨by rw[← r.length];exact z,?_⟩)
 have hf:H1 s1.heap.objs.size=none:=I1.hok.fresh (Xa _);refine⟨.ref s1.heap.objs.size,upd H1 s1.heap.objs.size (.lst xs),I1.laid (t':=s1.toks) (fun b u e=>Ac _ e) (Xa _) ?_,rfl,q _ hf⟩;exact⟨z,us,0,r,Ah _ rfl⟩
end
abbrev Sp:=List V->Hp->VK->XK->Prop
abbrev zW:=List Env->Hp->Shared->XK->Value->Shared->Prop
structure Env0 (P:Program) (w:World) (K:PySem.W.Frag) (mg:Str->Option Value) (base:Heap) (A:Around) (outer:List Env) (s:Shared) (H:Hp):Prop where
 frames:A.frames=some outer
 mod:Mod K mg base
 bs:∀b o,base.get? b=some o->s.heap.get? b=some o/\H b=none
 bsz:base.objs.size<=s.heap.objs.size
 funs:s.heap.FunFrames base outer
 frf:∀b∈vh outer,H b=none
 hok:HOk P w H s.heap
 bare:AllBare s.gens
 tk:0<s.toks
def CE (outer:List Env) (P:Program) (w:World) (H:Hp) (s:Shared) (Q:VK) (u:Value) (s':Shared):Prop :=
 ∃v H',s'.os=s.os/\AllBare s'.gens/\Un (vh outer) [] H H' s.heap s'.heap/\HOk P w H' s'.heap/\RelV v u/\Q v H'
def CR (CX:zW) (outer:List Env) (P:Program) (w:World) (H:Hp) (s:Shared) (Q:VK) (E:XK) (r:Result) (s':Shared):Prop :=
 match r with
 | .ok (.ret u)=>CE outer P w H s Q u s'
 | .ok _=>False
 | .error e=>CX outer H s E e s'
structure FnOk (P:Program) (w:World) (K:PySem.W.Frag) (mg:Str->Option Value) (base:Heap) (CX:zW) (k:Nat) (f:Addr) (fd:FuncData) (ps:List Str) (sp:Sp):Prop where
 len:∀vs H Q E,sp vs H Q E->vs.length=ps.length
 run:∀(A:Around) (outer:List Env) (s:Shared) (H:Hp) (args:Args) (us:List Value) (vs:List V) (Q:VK) (E:XK),Room k A->Env0 P w K mg base A outer s H->BindsTo s fd args (ps.zip us)->Vals vs us->sp vs H Q E ->
  codeAny (model P w) A (.call (.ref f) args) (CR CX outer P w H s Q E) s
theorem FnOk.imp {P:Program} {w:World} {K:PySem.W.Frag} {mg:Str->Option Value} {base:Heap} {CX:zW} {k:Nat} {f:Addr} {fd:FuncData} {ps:List Str} {sp sp':Sp} (F:FnOk P w K mg base CX k f fd ps sp)
  (h:∀vs H Q E,sp' vs H Q E->sp vs H Q E):FnOk P w K mg base CX k f fd ps sp' :=
 ⟨fun vs H Q E q=>F.len vs H Q E (h _ _ _ _ q),fun A outer s H args us vs Q E hr he hb hv hs=>F.run A outer s H args us vs Q E hr he hb hv (h _ _ _ _ hs)⟩
theorem Env0.in1 {P:Program} {w:World} {K:PySem.W.Frag} {mg:Str->Option Value} {base:Heap} {A:Around} {outer:List Env} {s:Shared} {H:Hp} (e:Env0 P w K mg base A outer s H) :
  Env0 P w K mg base A.in1 outer s H:=⟨e.frames,e.mod,e.bs,e.bsz,e.funs,e.frf,e.hok,e.bare,e.tk⟩
section
variable {X:Cx} {pins:List (Addr×Obj)} {σ:St} {H:Hp} {s s':Shared}
theorem Inv.env0 (I:Inv X pins σ H s):Env0 X.prog X.w X.K X.mg X.base X.A X.stack s H :=
 ⟨I.ok.frames,I.ok.mod,I.bs,Qd I.ok.bsz I.sz,I.stack,I.stkFree,I.hok,I.bare,I.tk⟩
theorem Inv.after {Q:VK} {u:Value} (I:Inv X pins σ H s) (h:CE X.stack X.prog X.w H s Q u s') (hle:s.toks<=s'.toks):EP X pins σ Q u s':=by
 obtain⟨v,H',os,bare,un,hok,r,q⟩:=h;obtain⟨hh,g,d,t,os'⟩:=s';obtain rfl:os'=s.os:=os;exact⟨v,H',I.call (h':=hh) (g':=g) (d':=d) (t':=t) (ch:=[]) un hok bare (fun b z=>absurd z (by simp)) (I.tkl' hle),r,q⟩
end
def zX (sp:Sp) (dvs:List V) (E:XK) (t:TA):TE:=fun σ H Q=>t σ H fun vs H1=>sp (vs++dvs) H1 Q E
def Binds (K:PySem.W.Frag) (fd:FuncData) (ps:List Str) (ds:List Value):Prop :=
 ∀(s:Shared) (us:List Value),K.In s.heap->(us++ds).length=ps.length->BindsTo s fd ⟨us,[]⟩ (ps.zip (us++ds))
theorem Binds.all {K:PySem.W.Frag} {fd:FuncData} {ps:List Str} (h:∀us:List Value,us.length=ps.length->bindArgs fd ⟨us,[]⟩=pure (ps.zip us)):Binds K fd ps []:=fun s us _ hl=>by
 rw[Qe]at hl ⊢;exact .of_eq (h us hl)
def vp (CX:zW) (X:Cx) (E:XK):Prop:=∀(pins:List (Addr×Obj)) (σ:St) (H:Hp) (s:Shared) (e:Value) (s':Shared),Inv X pins σ H s->CX X.stack H s E e s'->X.xe e s'
section
variable {X:Cx} {CX:zW} {k:Nat} {f C:Addr} {fd:FuncData} {ps:List Str} {sp:Sp} {dvs:List V} {ds:List Value} {E:XK} {x m:Str} {p pos apos:Pos} {e o:Expr} {es:List Expr} {ta:TE} {t:TA}
theorem JO {pins:List (Addr×Obj)} {σ:St} {H:Hp} {s:Shared} {Q:VK} {us:List Value} {vs:List V} (F:FnOk X.prog X.w X.K X.mg X.base CX k f fd ps sp) (hr:Room k X.A) (hb:Binds X.K fd ps ds) (hd:Vals dvs ds) (hx:vp CX X E)
  (I:Inv X pins σ H s) (r:Vals vs us) (h:sp (vs++dvs) H Q E):wpAny (model X.prog X.w) X.A (call (.ref f) us) (EP X pins σ Q) X.xe s:=by
 have r2:Vals (vs++dvs) (us++ds):=r.append hd;have hl:(us++ds).length=ps.length:=by rw[← r2.length];exact F.len _ _ _ _ h
 refine wpAny_call (ol (Cz (F.run X.A X.stack s H ⟨us,[]⟩ (us++ds) (vs++dvs) Q E hr I.env0 (hb s us I.kIn hl) r2 h) fun r s' hq hle=>?_));cases r with
 | error e=>exact hx pins σ H s e s' I hq
 | ok fl =>
  cases fl with
  | ret u=>exact I.after hq hle
  | next=>exact False.elim hq
  | brk=>exact False.elim hq
  | cont=>exact False.elim hq
theorem GJ (F:FnOk X.prog X.w X.K X.mg X.base CX k f fd ps sp) (hr:Room k X.A) (hg:Gl X x) (hm:X.mg x=some (.ref f)) (hk:PySem.W.keepIn X.K (.ref f)=true) (hb:Binds X.K fd ps ds) (hd:Vals dvs ds) (hx:vp CX X E)
  (ha:PA X (e::es) t) (hdb:(x == ("__debug__":Str))=false:=by decide) (he:starEach (e::es) X.env=(false,eval e X.env)::starEach es X.env:=by rfl) (hpl:(backTo pos (starEach es X.env)).any (·.1)=false:=by rfl) :
  PE X (.Call (.Name x p) (e::es) [] pos) (zX sp dvs E t):=by
 intro pins s σ H Q I h;refine BB (wj I hg hm ?_ hdb);refine PySem.W.callWith_K (h₀:=X.base) I.ok.mod.kin hk (cT (ha pos pins s σ H _ I h) fun us s1 ⟨vs,H1,I1,r,q⟩=>⟨I1.kIn,?_⟩) he hpl;exact JO F hr hb hd hx I1 r q
end
structure FnScope (N P:List Str) (sc:Scope):Prop where
 kind:sc.kind=.function
 co:sc.isCoroutine=false
 gen:sc.isGenerator=false
 nd:N.Nodup
 pre:N.take P.length=P
 par:∀x∈P,sc.names.lookup x=some .local∨sc.names.lookup x=some .cell
 nofree:∀y∈sc.names,y.2≠.free
theorem qh {kindOf:Str->Option NameKind} {x:Str}:∀{binds:List (Str×Value)} {m:Str->Option Value},(∀v,(x,v)∉binds)->bindL kindOf binds m x=m x
 | [],_,_=>rfl
 | (n,v)::r,m,h=>by
  unfold bindL;rw[qh fun w hw=>h w (Va _ hw)];split
  ·have:x≠n:=by rintro rfl;exact h v Qa
   simp[this]
  ·rfl
theorem qi {kindOf:Str->Option NameKind} {x:Str}:∀{binds:List (Str×Value)} {m:Str->Option Value},(∀v,(x,v)∉binds)->bindC kindOf binds m x=m x
 | [],_,_=>rfl
 | (n,v)::r,m,h=>by
  unfold bindC;rw[qi fun w hw=>h w (Va _ hw)];split
  ·rfl
  ·have:x≠n:=by rintro rfl;exact h v Qa
   simp[this]
theorem qj {kindOf:Str->Option NameKind} {x:Str} {v:Value}:∀{P:List Str} {vs:List Value} {i:Nat} {m:Str->Option Value},P.Nodup->P[i]?=some x->vs[i]?=some v->kindOf x=some .local ->
  bindL kindOf (P.zip vs) m x=some v
 | [],_,_,_,_,h,_,_=>by simp at h
 | _::_,[],_,_,_,_,h,_=>by simp at h
 | p::P,w::vs,0,m,nd,h1,h2,hk=>by
  simp at h1 h2;subst h1;subst h2;show bindL kindOf ((p,w)::P.zip vs) m p=_;unfold bindL;rw[qh fun v hv=>(Zk.mp nd).1 (C5 hv).1,Ae hk];simp
 | p::P,w::vs,i+1,m,nd,h1,h2,hk=>by
  show bindL kindOf ((p,w)::P.zip vs) m x=_;unfold bindL;exact qj (i:=i) (Zk.mp nd).2 (by simpa using h1) (by simpa using h2) hk
theorem qk {kindOf:Str->Option NameKind} {x:Str} {v:Value}:∀{P:List Str} {vs:List Value} {i:Nat} {m:Str->Option Value},P.Nodup->P[i]?=some x->vs[i]?=some v->kindOf x≠some .local ->
  bindC kindOf (P.zip vs) m x=some v
 | [],_,_,_,_,h,_,_=>by simp at h
 | _::_,[],_,_,_,_,h,_=>by simp at h
 | p::P,w::vs,0,m,nd,h1,h2,hk=>by
  simp at h1 h2;subst h1;subst h2;show bindC kindOf ((p,w)::P.zip vs) m p=_;unfold bindC;rw[qi fun v hv=>(Zk.mp nd).1 (C5 hv).1,Ai hk];simp
 | p::P,w::vs,i+1,m,nd,h1,h2,hk=>by
  show bindC kindOf ((p,w)::P.zip vs) m x=_;unfold bindC;exact qk (i:=i) (Zk.mp nd).2 (by simpa using h1) (by simpa using h2) hk
def start (N:List Str) (vs:List V):St:=vs.map some++List.replicate (N.length-vs.length) none
def vq (CX:zW) (P:Program) (w:World) (K:PySem.W.Frag) (mg:Str->Option Value) (base:Heap) (N:List Str) (qual:Str) (scope:Scope) (f:Addr) (cd:Value) (A:Around) (outer:List Env) (s:Shared) (H:Hp) (E:XK):Cx where
 prog:=P
 w:=w
 K:=K
 mg:=mg
 base:=base
 A:=A.deeper (envOfC qual scope s.heap.objs.size f cd)
 N:=N
 s₀:=s
 H₀:=H
 env:=envOfC qual scope s.heap.objs.size f cd
 outer:=outer
 stack:=envOfC qual scope s.heap.objs.size f cd::outer
 ex:=[]
 calm:=true
 fn:=fun _=>true
 pn:=[]
 xe:=fun e s'=>wpAny (model P w) (A.deeper (envOfC qual scope s.heap.objs.size f cd)) (leaving (envOfC qual scope s.heap.objs.size f cd) e) (fun _ s''=>CX outer H s E e s'') (fun e' s''=>CX outer H s E e' s'') s'
theorem tF {sc:Scope} {n:Nat} {x:Str} (h:sc.names.lookup x=some .cell):∃c,(cellsFrom n sc.names []).lookup x=some c:=by
 have q:=PySem.W.cellsFrom_some sc.names n [] (.inl h);exact Option.isSome_iff_exists.mp q
theorem yA {CX:zW} {P:Program} {w:World} {K:PySem.W.Frag} {mg:Str->Option Value} {base:Heap} {N ps:List Str} {qual:Str} {scope:Scope} {f:Addr} {cd:Value} {A:Around} {outer:List Env} {s s1:Shared} {H:Hp} {E:XK} {us:List Value} {vs:List V}
  (S:FnScope N ps scope) (hd:A.handled=none) (e0:Env0 P w K mg base A outer s H) (hl:vs.length=ps.length) (r:Vals vs us)
  (x:InCallC s s.heap.objs.size (bindL (envOfC qual scope s.heap.objs.size f cd).kindOf (ps.zip us) fun _=>none) (cellsFrom (s.heap.objs.size+1) scope.names []) (bindC (envOfC qual scope s.heap.objs.size f cd).kindOf (ps.zip us) fun _=>none) s1) (ht:0<s1.toks) :
  Inv (vq CX P w K mg base N qual scope f cd A outer s H E) [] (start N vs) H s1:=by
 have hpl:ps.length<=N.length:=by have:=congrArg List.length S.pre;rw[Vl]at this;lia
 obtain⟨h1,tk,rfl,hk⟩:=x.done;have noA:∀b:Addr,b∉(vq CX P w K mg base N qual scope f cd A outer s H E).ex:=fun b z=>absurd (show b∈([]:List Addr) from z) (by simp)
 refine⟨⟨e0.mod,S.kind,rfl,rfl,Xa _,fun y z c h1 h2=>?_,fun y hy=>?_,fun y c _ h=>?_,fun _=>hd,Around.frames_deeper e0.frames,.inr ⟨rfl,rfl⟩,fun b z=>absurd z (noA b),e0.bs,e0.bsz,fun b _ _=>noA b,fun b z=>absurd z (noA b),e0.funs,e0.frf⟩,
  rfl,e0.bare,Un.kept hk,⟨_,x.toInCall.ns,fun i y v h1 h2 h3=>?_⟩,fun y c h=>⟨_,x.cell y c h⟩,e0.hok.fresh (Xa _),fun y c h=>?_,fun p hp=>absurd (show p∈([]:List (Addr×Obj)) from hp) (by simp),e0.hok.kept hk,?_,ht⟩
 ·exact name_of_addr x.apart (PySem.mem_of_lookup h1) (PySem.mem_of_lookup h2)
 ·have hy:scope.names.lookup y=some .cell∨scope.names.lookup y=some .free:=hy;rcases hy with hy|hy
  ·exact tF hy
  ·exact absurd rfl (S.nofree _ (PySem.mem_of_lookup hy))
 ·exact Xl (x.above y c (PySem.mem_of_lookup h))
 ·have hi:i<vs.length:=by
   unfold start at h2;by_cases hi:i<vs.length
   ·exact hi
   ·rw[Wf (by simpa using hi)]at h2
    rw[Yn]at h2;split at h2<;>cases h2
  have ha:vs[i]?=some v:=by
   unfold start at h2;rw[Yi (by simpa using hi),Qc]at h2
   cases e:vs[i]? with
   | none=>rw[e]at h2;cases h2
   | some a=>rw[e]at h2;cases h2;rfl
  obtain⟨u,hu,rv⟩:=r.get ha;have hp:ps[i]?=some y:=by
   rw[← S.pre,List.getElem?_take_of_lt (by lia)];exact h1
  have ndP:ps.Nodup:=by rw[← S.pre];exact S.nd.sublist (List.take_sublist _ _)
  refine⟨u,rv,?_⟩;rcases S.par y (Wa hp) with k|k
  ·exact .inl ⟨k,qj ndP hp hu k⟩
  ·obtain⟨c,e⟩:=tF (n:=s.heap.objs.size+1) k;refine .inr ⟨.inl k,c,e,?_⟩;have q:=x.cell y c e;rw[qk ndP hp hu (by show scope.names.lookup y≠_;rw[k];decide)]at q
   exact q
 ·exact e0.hok.fresh (Xl (x.above y c (PySem.mem_of_lookup h)))
 ·unfold start;show _=N.length;rw[Qb,Ya,Yl];lia
theorem MZ {CX:zW} {P:Program} {w:World} {K:PySem.W.Frag} {mg:Str->Option Value} {base:Heap} {k:Nat} {f:Addr} {name qual:Str} {params:Arguments} {body:List Stmt} {scope:Scope} {dV kV doc pm cdv ct oc:Value} {an od:Option Addr}
  {osl:Array (Option Value)} {N ps:List Str} {sp:Sp} (lk:K.lookup f=some ⟨oc,od,.func (PySem.W.fnOf name qual params body scope dV kV doc pm an cdv ct),osl⟩) (hcd:PySem.W.codeIn K cdv qual=true) (S:FnScope N ps scope)
  (len:∀vs H Q E,sp vs H Q E->vs.length=ps.length)
  (hbody:∀(A:Around) (outer:List Env) (s:Shared) (H:Hp) (vs:List V) (Q:VK) (E:XK),Room k (A.deeper (envOfC qual scope s.heap.objs.size f cdv))->sp vs H Q E ->
   ∃t,PSs (vq CX P w K mg base N qual scope f cdv A outer s H E) body t/\t { nx:=fun _ H'=>Q .non H',rt:=Q } (start N vs) H) :
  FnOk P w K mg base CX (k+1) f (PySem.W.fnOf name qual params body scope dV kV doc pm an cdv ct) ps sp:=by
 refine⟨len,fun A outer s H args us vs Q E hr e0 hb r hsp=>?_⟩;have hl:=len _ _ _ _ hsp;have KX:K.In s.heap:=e0.mod.kin.keeps fun b o e=>(e0.bs b o e).1;have lim:s.heap.NoLimit:=e0.mod.nolimit.keeps fun b o e=>(e0.bs b o e).1;have hkind:∀y∈ps.zip us,scope.names.lookup y.1=some .local∨(scope.names.lookup y.1=some .cell/\((cellsFrom (s.heap.objs.size+1) scope.names []).lookup y.1).isSome=true):=fun⟨n,v⟩ hy=>by
  rcases S.par n (C5 hy).1 with q|q
  ·exact .inl q
  ·exact .inr ⟨q,PySem.W.cellsFrom_some _ _ _ (.inl q)⟩
 refine codeAny_call_function hr.depth (KX _ _ lk) rfl S.co S.gen rfl (PySem.W.codeRec_of KX hcd) (hb _ _ _ _ ?_);refine bV (wpAny_newFunctionEnv_cells S.kind hkind fun env he s1 x hle=>?_);subst he;refine⟨lim.keeps x.toInCall.keep,codeAny_func ?_⟩;obtain⟨t,ht,hq⟩:=hbody A outer s H vs Q E (hr.deeper _) hsp;have I:Inv (vq CX P w K mg base N qual scope f cdv A outer s H E) [] (start N vs) H s1:=yA S hr.hd e0 hl r x (Xc e0.tk hle);refine Av (ht [] s1 (start N vs) H _ I hq) (fun fl s' hs=>?_) fun e s' hs=>hs;have fin:∀{σ':St} {H':Hp} {v:V} {u:Value},Inv (vq CX P w K mg base N qual scope f cdv A outer s H E) [] σ' H' s'->RelV v u->Q v H'->CE outer P w H s Q u s' :=
  fun {σ' H' v u} J rv q=>⟨v,H',J.os,J.bare,J.base,J.hok,rv,q⟩
 cases fl with
 | ret u =>
  obtain⟨v,σ',H',J,rv,q⟩:=hs;exact fin J rv q
 | next =>
  obtain⟨σ',H',J,q⟩:=hs;exact fin (v:=V.non) (u:=Value.none) J rfl q
 | brk =>
  obtain⟨_,_,_,q⟩:=hs;exact False.elim q
 | cont =>
  obtain⟨_,_,_,q⟩:=hs;exact False.elim q
end L2
namespace L2
open PySem PySem.Spec PyProof.Rows
section
variable {X:Cx} {x:Str} {p pos:Pos} {e:Expr} {es:List Expr} {t:TA} {id T:String} {r:List V->Hp->VK->Prop}
def JP (r:List V->Hp->VK->Prop) (t:TA):TE:=fun σ H Q=>t σ H fun vs H1=>r vs H1 Q
theorem cL (hc:CallR X (.builtin id) r) (hg:Gl X x) (hm:X.mg x=none) (hv:bootBuiltins x=some (.builtin id)) (ha:PA X (e::es) t) (hn:x≠"__name__":=by decide) (hdb:(x == ("__debug__":Str))=false:=by decide)
  (he:starEach (e::es) X.env=(false,eval e X.env)::starEach es X.env:=by rfl) (hpl:(backTo pos (starEach es X.env)).any (·.1)=false:=by rfl):PE X (.Call (.Name x p) (e::es) [] pos) (JP r t):=by
 intro pins s σ H Q I h;refine BB (iU I hg hm hv ?_ hn hdb);exact PyProof.Rows.callWith_builtin1 (cT (ha pos pins s σ H _ I h) fun us s1 ⟨vs,H1,I1,r1,q1⟩=>hc pins s1 σ H1 vs us Q I1 r1 q1) he hpl
theorem gU (hc:CallR X (.type T) r) (hg:Gl X x) (hm:X.mg x=none) (hv:bootBuiltins x=some (.type T)) (ha:PA X (e::es) t) (hn:x≠"__name__":=by decide) (hdb:(x == ("__debug__":Str))=false:=by decide)
  (he:starEach (e::es) X.env=(false,eval e X.env)::starEach es X.env:=by rfl) (hpl:(backTo pos (starEach es X.env)).any (·.1)=false:=by rfl):PE X (.Call (.Name x p) (e::es) [] pos) (JP r t):=by
 intro pins s σ H Q I h;refine BB (iU I hg hm hv ?_ hn hdb);exact AD (cT (ha pos pins s σ H _ I h) fun us s1 ⟨vs,H1,I1,r1,q1⟩=>hc pins s1 σ H1 vs us Q I1 r1 q1) he hpl
end
end L2
namespace L2
open PySem PySem.Spec PyProof.Rows
section
variable {κ:Type} [DecidableEq κ]
def jQ (kvs:List (κ×V)) (k:κ):Option V:=(kvs.find? fun kv=>decide (kv.1=k)).map (·.2)
def putK (kvs:List (κ×V)) (k:κ) (v:V):List (κ×V) :=
 if (kvs.any fun kv=>decide (kv.1=k))=true then kvs.map (fun kv=>if kv.1=k then(kv.1,v) else kv) else kvs++[(k,v)]
theorem ly {p:κ×V} {r:List (κ×V)} {k:κ} (e:p.1=k):jQ (p::r) k=some p.2:=by simp[jQ,Wm,e]
theorem lB {p:κ×V} {r:List (κ×V)} {k:κ} (e:¬ p.1=k):jQ (p::r) k=jQ r k:=by simp[jQ,Wm,e]
theorem tG (k:κ):∀kvs:List (κ×V),(kvs.any fun kv=>decide (kv.1=k))=(jQ kvs k).isSome
 | []=>rfl
 | p::r=>by
  rw[Bu];by_cases e:p.1=k
  ·simp only[ly e,Af e,Bool.true_or,Option.isSome_some]
  ·rw[lB e,Ad e,Bool.false_or];exact tG k r
theorem mP (kvs:List (κ×V)) (k:κ) (v:V):(putK kvs k v).length<=kvs.length+1:=by
 unfold putK;split
 ·rw[Ya];lia
 ·rw[Qb,Vd,Yk];lia
theorem RelO.isSome_eq {o:Option V} {u:Option Value} (r:RelO o u):o.isSome=u.isSome:=by
 cases o with
 | none=>cases u with
  | none=>rfl
  | some _=>exact(show False from r).elim
 | some _=>cases u with
  | none=>exact(show False from r).elim
  | some _=>rfl
theorem KV.val {kvs:List (κ×V)} {vs:List (κ×Value)} (r:KV kvs vs) (k:κ):RelO (jQ kvs k) (valueAt vs k):=by
 unfold KV at r;induction r with
 | nil=>exact True.intro
 | @cons p q ps qs h t ih =>
  obtain⟨h1,h2⟩:=h;by_cases e:p.1=k
  ·have e':q.1=k:=h1.symm.trans e;have b:valueAt (q::qs) k=some q.2:=by simp[valueAt,Wm,e']
   rw[ly e,b];exact h2
  ·have e':¬ q.1=k:=fun z=>e (h1.trans z);have b:valueAt (q::qs) k=valueAt qs k:=by simp[valueAt,Wm,e']
   rw[lB e,b];exact ih
theorem KV.any {kvs:List (κ×V)} {vs:List (κ×Value)} (r:KV kvs vs) (k:κ):(kvs.any fun kv=>decide (kv.1=k))=vs.any fun kv=>decide (kv.1=k):=by
 unfold KV at r;induction r with
 | nil=>rfl
 | cons h t ih=>rw[Bu,Bu,ih,h.1]
theorem KV.repl {kvs:List (κ×V)} {vs:List (κ×Value)} (r:KV kvs vs) (k:κ) {y:V} {u:Value} (ry:RelV y u) :
  KV (kvs.map fun kv=>if kv.1=k then(kv.1,y) else kv) (vs.map fun kv=>if kv.1=k then(kv.1,u) else kv):=by
 unfold KV at r ⊢;induction r with
 | nil=>exact .nil
 | @cons p q ps qs h t ih =>
  rw[Ve,Ve];refine .cons ?_ ih;obtain⟨h1,h2⟩:=h;by_cases e:p.1=k
  ·rw[Ae e,Ae (h1.symm.trans e)];exact⟨h1,ry⟩
  ·rw[Ai e,Ai (fun z=>e (h1.trans z))];exact⟨h1,h2⟩
theorem KV.put {kvs:List (κ×V)} {vs:List (κ×Value)} (r:KV kvs vs) (k:κ) {y:V} {u:Value} (ry:RelV y u):KV (putK kvs k y) (stored vs k u):=by
 unfold putK stored;rw[r.any k];by_cases e:(vs.any fun kv=>decide (kv.1=k))=true
 ·rw[Ae e,Ae e];exact r.repl k ry
 ·rw[Ai e,Ai e];exact Paired.snoc r ⟨rfl,ry⟩
theorem KV.length {kvs:List (κ×V)} {vs:List (κ×Value)} (r:KV kvs vs):kvs.length=vs.length:=Paired.length r
end
theorem wt {P:Program} {w:World} {k:Key} {u:Value} (r:RelV (kV k) u):(bj P w).is k u=true:=by
 cases k with
 | inl i=>obtain⟨t,e⟩:=(show ∃t,u=Value.int i t from r);subst e;exact tf P w i t
 | inr x=>obtain⟨t,e⟩:=(show ∃t,u=Value.str x t from r);subst e;exact tj P w x t
theorem ql {P:Program} {w:World}:∀{ks:List Key} {us:List Value},Vals (ks.map kV) us->ItemsAre (bj P w) ks us
 | [],_,r=>by rw[DB]at r;cases r;exact .nil
 | k::ks,_,r=>by
  rw[Ve]at r;cases r with
  | cons h t=>exact .cons (wt h) (ql t)
abbrev KT (H:Hp):List (bA×V)->List (bA×Addr×Value)->Prop:=Paired fun p q=>p.1=q.1/\TupK H q.2.1 p.1/\RelV p.2 q.2.2
theorem KT.val {H:Hp} {kvs:List (bA×V)} {xs:List (bA×Addr×Value)} (r:KT H kvs xs) (k:bA):RelO (jQ kvs k) ((atKey xs k).map (·.2)):=by
 induction r with
 | nil=>exact True.intro
 | @cons p q ps qs h t ih =>
  obtain⟨h1,_,h2⟩:=h;by_cases e:p.1=k
  ·have e':q.1=k:=h1.symm.trans e;have b:atKey (q::qs) k=some q.2:=by simp[atKey,Wm,e']
   rw[ly e,b];exact h2
  ·have e':¬ q.1=k:=fun z=>e (h1.trans z);have b:atKey (q::qs) k=atKey qs k:=by simp[atKey,Wm,e']
   rw[lB e,b];exact ih
theorem KT.repl {H:Hp} {kvs:List (bA×V)} {xs:List (bA×Addr×Value)} (r:KT H kvs xs) (k:bA) {y:V} {u:Value} (ry:RelV y u) :
  KT H (kvs.map fun kv=>if kv.1=k then(kv.1,y) else kv) (xs.map (putAt k u)):=by
 induction r with
 | nil=>exact .nil
 | @cons p q ps qs h t ih =>
  rw[Ve,Ve];refine .cons ?_ ih;obtain⟨h1,h2,h3⟩:=h;unfold putAt;by_cases e:p.1=k
  ·rw[Ae e,Ae (h1.symm.trans e)];exact⟨h1,h2,ry⟩
  ·rw[Ai e,Ai (fun z=>e (h1.trans z))];exact⟨h1,h2,h3⟩
theorem KT.put {H:Hp} {kvs:List (bA×V)} {xs:List (bA×Addr×Value)} (r:KT H kvs xs) (k:bA) {b:Addr} {y:V} {u:Value} (hb:TupK H b k) (ry:RelV y u) :
  KT H (putK kvs k y) (storedH xs k b u):=by
 have e:(kvs.any fun kv=>decide (kv.1=k))=(atKey xs k).isSome:=by
  rw[tG,(r.val k).isSome_eq,BN]
 unfold putK storedH;rw[e];by_cases q:(atKey xs k).isSome=true
 ·rw[Ae q,Ae q];exact r.repl k ry
 ·rw[Ai q,Ai q];exact Paired.snoc r ⟨rfl,hb,ry⟩
theorem KT.keeps {H H':Hp} {kvs:List (bA×V)} {xs:List (bA×Addr×Value)} (r:KT H kvs xs) (ht:∀b ys,H b=some (.tup ys)->H' b=some (.tup ys)):KT H' kvs xs :=
 Paired.mapP r fun _ _ z=>⟨z.1,TupK.stay ht z.2.1,z.2.2⟩
section
variable {P:Program} {w:World} {H:Hp} {h:Heap} {a:Addr}
theorem ID {u:HO} (ok:HOk P w H h) (e:Rd H a u):ObjOk P w H h a u:=e.ok ok
theorem wu {kvs:List (Key×V)} (ok:HOk P w H h) (e:Rd H a (.dK kvs)):kvs.length<=sizeLine/\(a == sysModules)=false/\∃vs,KV kvs vs/\h.DictOf (bj P w) a vs :=
 show ObjOk P w H h a (.dK kvs) from ID ok e
theorem M1 {kvs:List (Key×V)} (ok:HOk P w H h) (e:H a=some (.dK kvs)):kvs.length<=sizeLine/\(a == sysModules)=false/\∃vs,KV kvs vs/\h.DictOf (bj P w) a vs:=wu ok (.inl e)
theorem tH {ks:List Key} (ok:HOk P w H h) (e:H a=some (.tup (ks.map kV))):IsTupleKey (bj P w) h ks a:=by
 obtain⟨_,its,r,o,h1,h2,n,h3⟩:=(show ObjOk P w H h a (.tup (ks.map kV)) from ok a _ e);exact⟨o,its.toArray,n,h1,h2,h3,by simpa using ql r⟩
theorem oz {k:bA} (ok:HOk P w H h) (e:TupK H a k):(lw P w).is h k a:=by
 cases k with
 | inl ks=>exact tH ok e
 | inr ks =>
  obtain⟨n0,bs,e,r⟩:=e;obtain⟨lz,its,q,o,h1,h2,n,h3⟩:=(show ObjOk P w H h a (.tup (bs.map V.ref)) from ok a _ e);refine⟨n0,o,its.toArray,n,h1,h2,h3,?_⟩;clear e n0 h3 lz;rw[List.toList_toArray];induction r generalizing its with
  | nil=>cases q;exact .nil
  | cons z _ ih =>
   rw[Ve]at q;cases q with
   | cons q1 q2 =>
    cases (show _=Value.ref _ from q1);exact .cons (tH ok z) (ih _ q2)
theorem zY {ep:Nat×List Addr} {kvs:List (bA×V)} (ok:HOk P w H h) (e:Rd H a (.dT ep kvs)):kvs.length<=sizeLine/\(a == sysModules)=false /\
  ∃xs,KT H kvs xs/\h.DictOfH (lw P w) a xs:=by
 obtain⟨z,y,xs,r,_,o,es,h1,h2,h3,h4,h5⟩:=(show ObjOk P w H h a (.dT ep kvs) from ID ok e);refine⟨z,y,xs,r,o,es,ep.1,h1,h2,h3,h4,fun x hx=>?_,h5⟩;have all:∀{l:List (bA×V)} {m:List (bA×Addr×Value)},KT H l m->∀x∈m,(lw P w).is h x.1 x.2.1:=by
  intro l m q;induction q with
  | nil=>intro x hx;exact nomatch hx
  | @cons p q ps qs hq t ih =>
   intro x hx;rcases Xd.mp hx with e|hx
   ·subst e;exact oz ok (by rw[← hq.1];exact hq.2.1)
   ·exact ih x hx
 exact all r x hx
end
section
variable {P:Program} {w:World} {H:Hp} {h:Heap} {a:Addr}
theorem M2 {ep:Nat×List Addr} {kvs:List (bA×V)} (ok:HOk P w H h) (e:H a=some (.dT ep kvs)):kvs.length<=sizeLine/\(a == sysModules)=false /\
  ∃xs,KT H kvs xs/\xs.map (·.2.1)=ep.2/\h.DictOfH (lw P w) a xs:=by
 obtain⟨z,y,xs,r,ra,o,es,h1,h2,h3,h4,h5⟩:=(show ObjOk P w H h a (.dT ep kvs) from ok a _ e);refine⟨z,y,xs,r,ra,o,es,ep.1,h1,h2,h3,h4,fun x hx=>?_,h5⟩;have all:∀{l:List (bA×V)} {m:List (bA×Addr×Value)},KT H l m->∀x∈m,(lw P w).is h x.1 x.2.1:=fun {l m} q=>by
  induction q with
  | nil=>exact fun x hx=>nomatch hx
  | cons hq t ih =>
   intro x hx;rcases Xd.mp hx with e'|hx
   ·subst e';exact oz ok (by rw[← hq.1];exact hq.2.1)
   ·exact ih x hx
 exact all r x hx
end
def DGet (H:Hp) (a:Addr) (y:V) (r:Option V):Prop :=
 (∃kvs k,Rd H a (.dK kvs)/\y=kV k/\r=jQ kvs k)∨∃ep kvs k b,Rd H a (.dT ep kvs)/\y=.ref b/\TupK H b k/\r=jQ kvs k
def yB (as:List Addr) (kvs:List (bA×V)) (k:bA) (b:Addr):List Addr:=if (jQ kvs k).isSome=true then as else as++[b]
def M3 (H:Hp) (a:Addr) (y v:V) (R:Hp->Prop):Prop :=
 (∃kvs k,H a=some (.dK kvs)/\y=kV k/\kvs.length<sizeLine/\R (upd H a (.dK (putK kvs k v)))) ∨
 ∃ep kvs k b,H a=some (.dT ep kvs)/\y=.ref b/\TupK H b k/\kvs.length<sizeLine/\∀n,R (upd H a (.dT (n,yB ep.2 kvs k b) (putK kvs k v)))
theorem DGet.k {H:Hp} {a:Addr} {kvs:List (Key×V)} {k:Key} (e:H a=some (.dK kvs)):DGet H a (kV k) (jQ kvs k):=.inl ⟨kvs,k,.inl e,rfl,rfl⟩
theorem DGet.t {H:Hp} {a b:Addr} {ep:Nat×List Addr} {kvs:List (bA×V)} {k:bA} (e:H a=some (.dT ep kvs)) (eb:TupK H b k):DGet H a (.ref b) (jQ kvs k):=.inr ⟨ep,kvs,k,b,.inl e,rfl,eb,rfl⟩
theorem JQ {H:Hp} {kvs:List (bA×V)} {xs:List (bA×Addr×Value)} {as:List Addr} {k:bA} {b:Addr} {u:Value} (ra:xs.map (·.2.1)=as) (rel:KT H kvs xs):(storedH xs k b u).map (·.2.1)=yB as kvs k b:=by
 have e:(jQ kvs k).isSome=(atKey xs k).isSome:=by rw[(rel.val k).isSome_eq,BN]
 unfold storedH yB;rw[e];by_cases q:(atKey xs k).isSome=true
 ·rw[Ae q,Ae q,← ra,Xf];refine Xj fun x _=>?_;show(putAt k u x).2.1=x.2.1;unfold putAt;split<;>rfl
 ·rw[Ai q,Ai q,Yd,ra];rfl
section
variable {X:Cx} {pins:List (Addr×Obj)} {σ:St} {H:Hp} {s:Shared} {a:Addr} {y v:V} {u r:Value} {o:Option V} {A:Around} {E:Value->Shared->Prop}
theorem Inv.big (I:Inv X pins σ H s):sysModules<s.heap.objs.size:=by
 have h:mainGlobals<s.heap.objs.size:=(I.mod.glob.keeps I.bk).lt;exact BT (by decide) h
theorem yC {Q:Value->Shared->Prop} (hu:A.units+2<cLine) (I:Inv X pins σ H s) (g:DGet H a y (some v)) (ry:RelV y u) (h:∀w' s',Inv X pins σ H s'->RelV v w'->Q w' s') :
  wpAny (model X.prog X.w) A (getItem (.ref a) u) Q E s:=by
 rcases g with⟨kvs,k,e,ey,l⟩|⟨ep,kvs,k,b,e,ey,eb,l⟩
 ·subst ey;obtain⟨z,hd,vs,rel,dd⟩:=wu I.hok e;obtain⟨w',hw,rw'⟩:=RelO.some_of (v:=v) (o:=valueAt vs k) (by rw[l];exact rel.val k)
  exact wpAny_getItem_of (wt ry) dd.mapOf hw (h w' _ (I.tok _) rw')
 ·subst ey;cases (show u=Value.ref b from ry);obtain⟨z,hd,xs,rel,dd⟩:=zY I.hok e;have tkp:=I.tk;obtain⟨w',hw,rw'⟩:=RelO.some_of (v:=v) (o:=(atKey xs k).map (·.2)) (by rw[l];exact rel.val k)
  obtain⟨p,hp,hp2⟩:=Vc.mp hw;refine wpAny_getItem_heap (kr hu) (oz I.hok eb) dd hp ?_;rw[hp2];exact h w' _ (I.tok _) rw'
theorem GK {Q:Value->Shared->Prop} (hu:A.units+2<cLine) (I:Inv X pins σ H s) (g:DGet H a y o) (ry:RelV y u) (h:∀s',Inv X pins σ H s'->Q (.bool (!o.isSome)) s') :
  wpAny (model X.prog X.w) A (compareOp .NotIn u (.ref a)) Q E s:=by
 rcases g with⟨kvs,k,e,ey,l⟩|⟨ep,kvs,k,b,e,ey,eb,l⟩
 ·subst ey;obtain⟨z,hd,vs,rel,dd⟩:=wu I.hok e;refine wpAny_notIn_of (wt ry) hd dd.mapOf ?_;rw[← (rel.val k).isSome_eq,← l];exact h _ (I.tok _)
 ·subst ey;cases (show u=Value.ref b from ry);obtain⟨z,hd,xs,rel,dd⟩:=zY I.hok e;have tkp:=I.tk;refine wpAny_notIn_heap (kr hu) (oz I.hok eb) hd dd ?_;have q:=(rel.val k).isSome_eq;rw[BN]at q;rw[← q,← l];exact h _ (I.tok _)
theorem wv {h':Heap} {t':Nat} {ob:HO} (I:Inv X pins σ H s) (mu:MI (H a)) (hs:Heap.SameBut a s.heap h') (he:∃q,h'.get? a=some q) (new:ObjOk X.prog X.w (upd H a ob) h' a ob) (ht:0<t':=by first|assumption|exact Zh _|exact Inv.tk (by assumption)|exact Inv.tkl (by assumption) (by assumption)|lia) :
  Inv X pins σ (upd H a ob) { s with heap:=h',toks:=t' } :=
 I.write (x:=a) (e:=a) mu (.inl rfl) (fun b q hb z=>(hs.2 b hb).trans z) he new
theorem JR {P:Program} {w:World} {H':Hp} {h':Heap} {kvs:List (Key×V)} {vs:List (Key×Value)} (z:kvs.length<=sizeLine) (hd:(a == sysModules)=false) (rel:KV kvs vs) (dd:h'.DictOf (bj P w) a vs) :
  ObjOk P w H' h' a (.dK kvs):=⟨z,hd,vs,rel,dd⟩
theorem yD {R:Hp->Prop} {Q:Unit->Shared->Prop} (hu:A.units+2<cLine) (I:Inv X pins σ H s) (g:M3 H a y v R) (ry:RelV y u) (rv:RelV v r) (h:∀s' H',Inv X pins σ H' s'->R H'->Q () s') :
  wpAny (model X.prog X.w) A (setItem (.ref a) u r) Q E s:=by
 rcases g with⟨kvs,k,e,ey,l,eH⟩|⟨ep,kvs,k,b,e,ey,eb,l,eH⟩
 ·subst ey;obtain⟨z,hd,vs,rel,dd⟩:=M1 I.hok e;have hz:vs.length<=sizeLine:=by rw[← rel.length];exact z
  have hl:(putK kvs k v).length<=sizeLine:=by have:=mP kvs k v;lia
  refine wpAny_setItem_pairs (hsz:=hz) (wt ry) dd fun h' dd' hs=>h _ _ ?_ eH;have he:∃q,h'.get? a=some q:=let ⟨q,_,_,hq,_⟩:=dd';⟨q,hq⟩;exact wv I (by rw[e];exact True.intro) hs he (JR hl hd (rel.put k rv) dd')
 ·subst ey;cases (show u=Value.ref b from ry);obtain⟨z,hd,xs,rel,ra0,dd⟩:=M2 I.hok e;have tkp:=I.tk;have hz:xs.length<=sizeLine:=by rw[← Paired.length rel];exact z
  have hl:(putK kvs k v).length<=sizeLine:=by have:=mP kvs k v;lia
  have ra:xs.map (·.2.1)=ep.2:=ra0;refine wpAny_setItem_heap (hsz:=hz) (kr hu) (oz I.hok eb) dd fun h' dd' hs=>?_;obtain⟨q,es,ep',hq,h2,h3,h4,_,h5⟩:=dd';refine h _ _ ?_ (eH ep');refine wv I (by rw[e];exact True.intro) hs ⟨q,hq⟩ ⟨hl,hd,_,(rel.put k eb rv).keeps fun c ys ec=>?_,JQ ra rel,q,es,hq,h2,h3,h4,h5⟩
  rw[aN (MH ec e (fun z=>nomatch z))];exact ec
end
def JT (i:Expr):Prop:=∀ov iv,subscripted i false ov iv=operate [ov,iv] (getItem ov iv)
theorem GL {prog:Program} {w:World} {A:Around} {E:Value->Shared->Prop} {s:Shared} {env:Env} {value slice:Expr} {pos:Pos} {T id:String} {Q:Value->Shared->Prop}
  (hl:typeLookup (.type T) "__getitem__"=pure (some (.builtin id))) (hs:JT slice)
  (h:wpAny (model prog w) A (eval value env) (fun o s₁=>wpAny (model prog w) A (eval slice env) (fun i s₂=>s₂.TypeIs o T/\wpAny (model prog w) A (getItem o i) Q E s₂) E s₁) E s) :
  wpAny (model prog w) A (eval (.Subscript value slice pos) env) Q E s:=by
 refine Cj (Av h (fun o s₁ h₁=>Av h₁ (fun i s₂ h₂=>?_) fun _ _ x=>x) fun _ _ x=>x);obtain⟨hT,h₂⟩:=h₂;unfold subscriptTail;refine Aa ?_;rw[getitemInPython_of_ne hT.not_modules];refine Aa (AK hT hl ?_);have fin:wpAny (model prog w) A (subscripted slice false o i) (fun r s₃=>wpAny (model prog w) A (letTemporaryGo value o r >>= fun _=>pure r) Q E s₃) E s₂:=by
  rw[hs o i];exact wpAny_operating (Av h₂ (fun r s₃ h₃=>Aa (wpAny_letTemporaryGo (Ab h₃))) fun _ _ x=>x)
 first
  | exact Ab (Aa fin)
  | exact Aa (Ab (Aa fin))
  | exact Aa fin
theorem tI {X:Cx} {pins:List (Addr×Obj)} {σ:St} {H:Hp} {s:Shared} {a:Addr} {y:V} {o:Option V} (I:Inv X pins σ H s) (g:DGet H a y o):s.TypeIs (.ref a) "dict":=by
 rcases g with⟨kvs,k,e,_,_⟩|⟨ep,kvs,k,b,e,_,_,_⟩
 ·obtain⟨_,_,vs,_,dd⟩:=wu I.hok e;exact dd.typeIs
 ·obtain⟨_,_,xs,_,dd⟩:=zY I.hok e;exact dd.typeIs
def M4 (td ty:TE):TE:=fun σ H Q=>td σ H fun x H1=>ty σ H1 fun y H2=>∃a v,x=.ref a/\DGet H2 a y (some v)/\Q v H2
section
variable {X:Cx} {o i e value:Expr} {pos pos' tpos:Pos} {td ty tv:TE}
theorem GM (hu:X.A.units+2<cLine) (ho:PE X o td) (hi:PE X i ty) (hs:JT i):PE X (.Subscript o i pos) (M4 td ty):=by
 intro pins s σ H Q I h;refine GL PySem.F.slot_dict_getitem.lookup hs (cT (ho pins s σ H _ I h) fun u s1 ⟨x,H1,I1,rx,q1⟩=>cT (hi pins s1 σ H1 _ I1 q1) fun iv s2 zz9=>?_);obtain⟨y,H2,I2,ry,a,v,ex,g,q2⟩:=zz9;subst ex;obtain rfl:u=Value.ref a:=rx;exact⟨tI I2 g,yC hu I2 g ry fun w' s3 I3 rw'=>⟨v,H2,I3,rw',q2⟩⟩
end
theorem zZ {P:Program} {w:World} {H:Hp} (h:Heap) (hb:sysModules<h.objs.size):ObjOk P w H (h.push { cls:=.type "dict",data:=.dict #[] }) h.objs.size (.dK []) :=
 ⟨Yg _,beq_eq_false_iff_ne.mpr (AA (Vf hb)),[],.nil,Heap.DictOf.new h⟩
theorem z7 {P:Program} {w:World} {H:Hp} (h:Heap) (hb:sysModules<h.objs.size):ObjOk P w H (h.push { cls:=.type "dict",data:=.dict #[] }) h.objs.size (.dT (0,[]) []) :=
 ⟨Yg _,beq_eq_false_iff_ne.mpr (AA (Vf hb)),[],.nil,rfl,_,#[],Ah _ rfl,⟨rfl,rfl,rfl⟩,rfl,rfl,B8⟩
def z8:TE:=fun _ H Q=>∀p,H p=none->Q (.ref p) (upd H p (.dK []))
def z9:TE:=fun _ H Q=>∀p,H p=none->Q (.ref p) (upd H p (.dT (0,[]) []))
section
variable {X:Cx} {pos:Pos}
theorem DM:PE X (.Dict [] [] pos) z8:=fun pins s σ H Q I h =>
 wpAny_Dict_empty ⟨.ref s.heap.objs.size,_,I.laid (a:=s.heap.objs.size) (o:=.dK []) (t':=s.toks) (fun _ _ q=>Ac _ q) (Xa _) (zZ s.heap I.big),rfl,h _ (I.hok.fresh (Xa _))⟩
theorem DN:PE X (.Dict [] [] pos) z9:=fun pins s σ H Q I h =>
 wpAny_Dict_empty ⟨.ref s.heap.objs.size,_,I.laid (a:=s.heap.objs.size) (o:=.dT (0,[]) []) (t':=s.toks) (fun _ _ q=>Ac _ q) (Xa _) (z7 s.heap I.big),rfl,h _ (I.hok.fresh (Xa _))⟩
end
end L2
namespace HT
open PySem PyProof.Rows
theorem rcLt_int (A:Around) (s:Shared) (a:Int) (t:Tok) (c:Int) (u:Tok) (prog:Program) (w:World) (E:Value->Shared->Prop) (Q:Value->Shared->Prop) (h:Q (.bool (decide (a<c))) s) :
  wpAny (model prog w) A (richCompare .Lt (.int a t) (.int c u)) Q E s :=
 (PyProof.Rows.lt_int h:wpAny (model prog w) A (compareOp .Lt (.int a t) (.int c u)) Q E s)
section
variable {prog:Program} {w:World} {A:Around} {E:Value->Shared->Prop} {s:Shared}
theorem cat_tup {t b:Addr} {vs ws:List Value} {Q:Value->Shared->Prop} (ht:IsTup s.heap t vs.toArray) (hb:IsTup s.heap b ws.toArray) (hv:vs≠[])
  (h1:ws=[]->Q (.ref t) s) (h2:ws≠[]->Q (.ref s.heap.objs.size) { s with heap:=s.heap.push { cls:=.type "tuple",data:=.seq (vs++ws).toArray } })
  (hsz:vs.length+ws.length<=sizeLine):wpAny (model prog w) A (binaryOp .Add (.ref t) (.ref b)) Q E s:=by
 obtain⟨⟨cls,dd,data,sl⟩,ho,hc,n,hd⟩:=id ht;obtain⟨⟨cls2,dd2,data2,sl2⟩,ho2,hc2,n2,hd2⟩:=id hb;simp only at hc hd hc2 hd2;subst hc hd hc2 hd2;have e:vs.toArray++ws.toArray=(vs++ws).toArray:=by simp
 by_cases hw:ws=[]
 ·exact concat_meets ⟨_,ho,rfl⟩ ⟨_,ho2,rfl⟩ CO seq_tuple_add PySem.F.slot_tuple_add PySem.F.entry_tuple_add (PySem.F.args_tuple_add_2 _ _)
   (tuple_addW1 t b vs.toArray ws.toArray n n2 dd dd2 sl sl2 (by simpa using hv) (by simp[hw])) ⟨ho,ho2,h1 hw⟩
 ·refine concat_meets ⟨_,ho,rfl⟩ ⟨_,ho2,rfl⟩ CO seq_tuple_add PySem.F.slot_tuple_add PySem.F.entry_tuple_add (PySem.F.args_tuple_add_2 _ _)
   (tuple_addW2 t b vs.toArray ws.toArray n n2 dd dd2 sl sl2 (by simpa using hv) (by simpa using hw) (by rw[Zc,Zc];exact hsz)) ⟨ho,ho2,?_⟩
  rw[e];exact h2 hw
def sIx (n d:Nat):Option Int->Nat
 | none=>d
 | some v=>if v<0 then(v+(n:Int)).toNat else min v.toNat n
theorem sIx_none (n d:Nat):sIx n d none=d:=rfl
theorem sIx_nat (n d k:Nat):sIx n d (some (k:Int))=min k n:=by
 show(if (k:Int)<0 then((k:Int)+(n:Int)).toNat else min (k:Int).toNat n)=min k n;rw[Ai (by lia),Zn]
theorem JU (n d:Nat) (hd:d<=n) (o:Option Int):sIx n d o<=n:=by
 cases o with
 | none=>exact hd
 | some v =>
  show(if v<0 then(v+(n:Int)).toNat else min v.toNat n)<=n;by_cases hv:v<0
  ·rw[Ae hv];lia
  ·rw[Ai hv];exact CT _ _
theorem clip_nat (v:Int) (n:Nat) (hv:¬ v<0):min v (n:Int)=((min v.toNat n:Nat):Int):=by
 obtain⟨k,rfl⟩:=Int.eq_ofNat_of_zero_le (Int.not_lt.mp hv);rw[Zn];rcases Nat.le_total k n with h|h
 ·rw[Qm h];exact Int.min_eq_left (Int.ofNat_le.mpr h)
 ·rw[CU h];exact Int.min_eq_right (Int.ofNat_le.mpr h)
theorem ww (v:Int) (n d:Nat):(if v<0 then max (v+(n:Int)) 0 else min v (n:Int))=((sIx n d (some v):Nat):Int):=by
 show(if v<0 then max (v+(n:Int)) 0 else min v (n:Int))=(((if v<0 then(v+(n:Int)).toNat else min v.toNat n):Nat):Int);by_cases hv:v<0
 ·rw[Ae hv,Ae hv];exact(Int.ofNat_toNat _).symm
 ·rw[Ai hv,Ai hv];exact clip_nat v n hv
theorem vt (lo hi:Option Int) (n:Nat):Builtin.Slice.sliceAdjust lo hi 1 (n:Int)=(((sIx n 0 lo:Nat):Int),((sIx n n hi:Nat):Int)):=by
 have h1:¬ ((1:Int)<0):=by lia
 unfold Builtin.Slice.sliceAdjust;simp only[h1,if_false];refine Prod.ext ?_ ?_
 ·cases lo with
  | none=>rfl
  | some v=>exact ww v n 0
 ·cases hi with
  | none=>rfl
  | some v=>exact ww v n n
theorem vx (i j:Nat):Builtin.Slice.slicePlaces (i:Int) (j:Int) 1=j-i:=by
 unfold Builtin.Slice.slicePlaces;have h1:(1:Int) > 0:=by lia
 simp only[h1,if_true,DF];split<;>lia
theorem slicePart_ {v:Value} {o:Option Int} {Q:Option Int->Shared->Prop} (p:IsPart v o) (h:Q o s):wpAny (model prog w) A (Builtin.Slice.slicePartIndex v) Q E s:=by
 cases p with
 | none=>exact slicePart_none h
 | int i t=>exact slicePart_int h
theorem gW {sl:Addr} {vl vu:Value} {lo hi:Option Int} {n:Nat} {Q:Int×Int×Nat->Shared->Prop} (hs:s.heap.IsSliceOf sl vl vu .none) (pl:IsPart vl lo) (pu:IsPart vu hi)
  (h:Q (((sIx n 0 lo:Nat):Int),1,sIx n n hi-sIx n 0 lo) s):wpAny (model prog w) A (Builtin.Slice.sliceApplied (.ref sl) (pure (n:Int))) Q E s:=by
 obtain⟨os,hos,hcs,hds⟩:=id hs;unfold Builtin.Slice.sliceApplied Builtin.Slice.sliceFields;refine Aa (Aa (Aq hos hds (x:=vl) rfl (Aa (Aq hos hds (x:=vu) rfl (Aa (Aq hos hds (x:=.none) rfl (Ab ?_)))))));refine Aa (slicePart_none ?_);show wpAny _ _ (if ((1:Int) == 0)=true then _ else _) _ _ s;rw[Ai (by decide)]
 refine Aa (slicePart_ pl (Aa (slicePart_ pu (Aa (Ab ?_)))));show wpAny _ _ (match Builtin.Slice.sliceAdjust lo hi 1 (n:Int) with|(lo,hi)=>pure (lo,(1:Int),Builtin.Slice.slicePlaces lo hi 1)) _ _ s
 rw[vt lo hi n];show wpAny _ _ (pure (((sIx n 0 lo:Nat):Int),(1:Int),Builtin.Slice.slicePlaces ((sIx n 0 lo:Nat):Int) ((sIx n n hi:Nat):Int) 1)) _ _ s;rw[vx];exact Ab h
theorem DO (xs:Array Value) (i k:Nat):((List.range k).filterMap fun(m:Nat)=>xs[((i:Int)+(m:Int)*1).toNat]?).toArray=((xs.toList.drop i).take k).toArray:=by
 have e:(fun(m:Nat)=>xs[((i:Int)+(m:Int)*1).toNat]?)=fun m=>xs[i+m]?:=by
  funext m
  have:((i:Int)+(m:Int)*1).toNat=i+m:=by lia
  rw[this]
 rw[e];have:=pick_run xs i k;rw[Co]at this;have e2:((fun x=>xs[x]?) ∘ fun x=>i+x)=fun m=>xs[i+m]?:=rfl;rw[e2]at this;rw[this]
theorem getItem_tuple_cut {t sl:Addr} {items:Array Value} {vl vu:Value} {lo hi:Option Int} {Q:Value->Shared->Prop} (ht:IsTup s.heap t items) (hs:s.heap.IsSliceOf sl vl vu .none) (pl:IsPart vl lo) (pu:IsPart vu hi)
  (hw:¬ (sIx items.size 0 lo=0/\sIx items.size items.size hi=items.size))
  (h:Q (.ref s.heap.objs.size) { s with heap:=s.heap.push { cls:=.type "tuple",data:=.seq ((items.toList.drop (sIx items.size 0 lo)).take (sIx items.size items.size hi-sIx items.size 0 lo)).toArray } })
  (hsz:items.size<=sizeLine):wpAny (model prog w) A (getItem (.ref t) (.ref sl)) Q E s:=by
 have htake:sizeOk (.seq ((items.toList.drop (sIx items.size 0 lo)).take (sIx items.size items.size hi-sIx items.size 0 lo)).toArray):=by
  show((items.toList.drop (sIx items.size 0 lo)).take (sIx items.size items.size hi-sIx items.size 0 lo)).toArray.size<=sizeLine;rw[Zc,Vl,Xk,Wc];exact Qd (CT _ _) (Qd (Nat.sub_le _ _) hsz)
 have hj:sIx items.size items.size hi<=items.size:=JU _ _ (Xa _) hi;obtain⟨os,hos,hcs,hds⟩:=id hs;have hTs:s.TypeIs (.ref sl) "slice":=⟨os,hos,hcs⟩;unfold getItem
 try with_reducible refine As ?_
 first|refine Aa (Ab ?_)|skip
 refine Aa (Cw ht.typeIs (by decide) ?_)
 refine Aa (Ao (name:=Str.ofString "__getitem__") ht.typeIs Ap
  (An Ap ht.typeIs Cb ?_ (Ci _ _)))
 show wpAny _ _ (Builtin.Tuple.tupleItemsOf (.ref t) >>= _) _ _ s;refine Aa (tupleItemsOf_ ht ?_);refine Aa (AH hTs ?_);rw[Ae (by decide)]
 refine Aa (gW hs pl pu ?_);have hno:¬ ((((sIx items.size 0 lo:Nat):Int) == 0&&(1:Int) == 1&&(sIx items.size items.size hi-sIx items.size 0 lo) == items.size)=true):=by
  intro q;rw[Yh,Yh]at q;have q1:((sIx items.size 0 lo:Nat):Int)=0:=Ca q.1.1;have q2:sIx items.size items.size hi-sIx items.size 0 lo=items.size:=Ca q.2;exact hw ⟨by lia,by lia⟩
 show wpAny _ _ (if (((sIx items.size 0 lo:Nat):Int) == 0&&(1:Int) == 1&&(sIx items.size items.size hi-sIx items.size 0 lo) == items.size)=true then _ else _) _ _ s;rw[Ai hno,DO]
 first
  | exact Aa (m:=Builtin.Tuple.tupleExact _) (Am (Ab ⟨_,rfl,Ab h⟩) htake)
  | exact Aa (m:=Builtin.Tuple.tupleExact _) (Am (Aa (Ab (Ab ⟨_,rfl,Ab h⟩))) htake)
  | exact Aa (Aa (m:=Builtin.Tuple.tupleExact _) (Am (Ab (Ab ⟨_,rfl,Ab h⟩)) htake))
  | exact Aa (Aa (m:=Builtin.Tuple.tupleExact _) (Am (Ab ⟨_,rfl,Ab h⟩) htake))
end
end HT
namespace L2
open PySem PySem.Spec PyProof.Rows
abbrev TO:=St->Hp->(Option Int->Hp->Prop)->Prop
def PO (X:Cx) (e:Option Expr) (t:TO):Prop :=
 ∀(pins:List (Addr×Obj)) (s:Shared) (σ:St) (H:Hp) (Q:Option Int->Hp->Prop),Inv X pins σ H s->t σ H Q ->
  wpAny (model X.prog X.w) X.A (evalPart e X.env) (fun u s'=>∃o H',Inv X pins σ H' s'/\IsPart u o/\Q o H') X.xe s
def wx:TO:=fun _ H Q=>Q none H
def IE (t:TE):TO:=fun σ H Q=>t σ H fun x H1=>∃i,x=.int i/\Q (some i) H1
section
variable {X:Cx} {e:Expr} {te:TE} {lo hi:Option Expr} {tl th:TO} {pos p2:Pos}
theorem eP:PO X none wx:=by
 intro pins s σ H Q I h;rw[Cc];exact Ab ⟨none,H,I,.none,h⟩
theorem dr (h:PE X e te):PO X (some e) (IE te):=by
 intro pins s σ H Q I hw;rw[evalPart_some];refine cT (h pins s σ H _ I hw) fun u s1 zz9=>?_;obtain⟨x,H1,I1,r1,q1⟩:=zz9;obtain⟨i,rfl,q⟩:=q1;obtain⟨t,rfl⟩:=r1;exact⟨some i,H1,I1,.int i t,q⟩
def SlR (X:Cx) (r:V->Option Int->Option Int->Hp->VK->Prop):Prop :=
 ∀(pins:List (Addr×Obj)) (s:Shared) (σ:St) (H:Hp) (x:V) (v vl vu:Value) (lo hi:Option Int) (sl:Addr) (Q:VK),Inv X pins σ H s->RelV x v->s.heap.IsSliceOf sl vl vu .none->IsPart vl lo->IsPart vu hi->r x lo hi H Q ->
  ∃T id,typeLookup (.type T) "__getitem__"=pure (some (.builtin id))/\s.TypeIs v T/\wpAny (model X.prog X.w) X.A (getItem v (.ref sl)) (EP X pins σ Q) X.xe s
theorem SlR.or {r r':V->Option Int->Option Int->Hp->VK->Prop} (h:SlR X r) (h':SlR X r'):SlR X (fun x lo hi H Q=>r x lo hi H Q∨r' x lo hi H Q):=by
 intro pins s σ H x v vl vu lo hi sl Q I rx hs pl pu q;rcases q with q|q
 ·exact h pins s σ H x v vl vu lo hi sl Q I rx hs pl pu q
 ·exact h' pins s σ H x v vl vu lo hi sl Q I rx hs pl pu q
def Pf (r:V->Option Int->Option Int->Hp->VK->Prop) (te:TE) (tl th:TO):TE:=fun σ H Q=>te σ H fun x H1=>tl σ H1 fun l H2=>th σ H2 fun u H3=>r x l u H3 Q
theorem cM {r:V->Option Int->Option Int->Hp->VK->Prop} (hr:SlR X r) (he:PE X e te) (hl:PO X lo tl) (hu:PO X hi th):PE X (.Subscript e (.Slice lo hi none p2) pos) (Pf r te tl th):=by
 intro pins s σ H Q I h;refine Cj (cT (he pins s σ H _ I h) fun v s1 zz9=>?_);obtain⟨x,H1,I1,r1,q1⟩:=zz9;refine wpAny_Slice (cT (hl pins s1 σ H1 _ I1 q1) fun vl s2 ⟨l,H2,I2,pl,q2⟩=>cT (hu pins s2 σ H2 _ I2 q2) fun vu s3 zz9=>?_);obtain⟨u,H3,I3,pu,q3⟩:=zz9;rw[Cc];refine Ab ?_;have I4:Inv X pins σ H3 { s3 with heap:=s3.heap.push { cls:=.type "slice",data:=.fields #[vl,vu,.none] } }:=I3.kept (t':=s3.toks) fun b ob q=>Ac _ q;obtain⟨T,id,hT,ht,hg⟩:=hr pins { s3 with heap:=s3.heap.push { cls:=.type "slice",data:=.fields #[vl,vu,.none] } } σ H3 x v vl vu l u s3.heap.objs.size Q I4 r1 (Heap.IsSliceOf.new ..) pl pu q3;show wpAny (model X.prog X.w) X.A (subscriptTail e (.Slice lo hi none p2) v (.ref s3.heap.objs.size)) (EP X pins σ Q) X.xe { s3 with heap:=s3.heap.push { cls:=.type "slice",data:=.fields #[vl,vu,.none] } };exact tail_any (ops:=[.ref s3.heap.objs.size,v]) ht hT hg (by with_unfolding_all rfl)
def tJ (xs:List V) (lo hi:Option Int):List V:=(xs.drop (HT.sIx xs.length 0 lo)).take (HT.sIx xs.length xs.length hi-HT.sIx xs.length 0 lo)
theorem mQ (xs:List V) (lo hi:Option Int):(tJ xs lo hi).length<=xs.length:=by
 unfold tJ;rw[Vl,Xk];lia
def JV (K:PySem.W.Frag):V->Option Int->Option Int->Hp->VK->Prop:=fun x lo hi H Q=>∃a xs,x=.ref a/\jP K H a xs /\
 ¬ (HT.sIx xs.length 0 lo=0/\HT.sIx xs.length xs.length hi=xs.length)/\∀p,H p=none->Q (.ref p) (upd H p (.tup (tJ xs lo hi)))
theorem JW:SlR X (JV X.K):=by
 intro pins s σ H x v vl vu lo hi sl Q I rx hs pl pu h;obtain⟨a,xs,rfl,hx,hw,q⟩:=h;cases rx;obtain⟨its,r,ht,hz⟩:=I.tuple hx;have hlen:its.toArray.size=xs.length:=by rw[Zc];exact r.length.symm
 refine⟨"tuple",_,Ap.lookup,ht.typeIs,?_⟩;refine HT.getItem_tuple_cut ht hs pl pu (by rw[hlen];exact hw) ?_ (by rw[hlen];exact hz)
 rw[hlen];refine⟨.ref s.heap.objs.size,_,I.laid (t':=s.toks) (o:=.tup (tJ xs lo hi)) (fun b ob q=>Ac _ q) (Xa _) ?_,rfl,q _ (I.hok.fresh (Xa _))⟩;exact⟨Qd (mQ xs lo hi) hz,_,(r.drop (HT.sIx xs.length 0 lo)).take (HT.sIx xs.length xs.length hi-HT.sIx xs.length 0 lo),IsTup.new _ _⟩
def DP (K:PySem.W.Frag):R2:=fun x y H Q=>∃a b xs ys,x=.ref a/\y=.ref b/\jP K H a xs/\jP K H b ys/\xs≠[]/\xs.length+ys.length<=sizeLine /\
 (ys=[]->Q (.ref a) H)/\(ys≠[]->∀p,H p=none->Q (.ref p) (upd H p (.tup (xs++ys))))
theorem Vals.nil_iff {xs:List V} {us:List Value} (r:Vals xs us):us=[]↔xs=[]:=by
 cases r with
 | nil=>simp
 | cons _ _=>simp
theorem GN:OpR X (binaryOp .Add) (DP X.K):=by
 intro pins s σ H x y v u Q I rx ry h;obtain⟨a,b,xs,ys,rfl,rfl,ha,hb,hx,hz,q1,q2⟩:=h;cases rx;cases ry;obtain⟨its,r1,p1,_⟩:=I.tuple ha;obtain⟨its2,r2,p2,_⟩:=I.tuple hb;refine HT.cat_tup p1 p2 (fun z=>hx (r1.nil_iff.mp z)) (fun z=>⟨.ref a,H,I,rfl,q1 (r2.nil_iff.mp z)⟩) (fun z=>?_) (by rw[← r1.length,← r2.length];exact hz)
 refine⟨.ref s.heap.objs.size,_,I.laid (t':=s.toks) (o:=.tup (xs++ys)) (fun b ob q=>Ac _ q) (Xa _) ?_,rfl,q2 (fun w=>z (r2.nil_iff.mpr w)) _ (I.hok.fresh (Xa _))⟩;exact⟨by rw[Qb];exact hz,_,r1.append r2,IsTup.new _ _⟩
end
end L2
namespace L2
open PySem PySem.Spec PyProof.Rows
def GO (n:Nat) (i:Int):Option Nat:=if 0<=i then(if i<n then some i.toNat else none) else if -(n:Int)<=i then some (i+n).toNat else none
def jR {α:Type} (xs:List α) (i:Int):Option α:=(GO xs.length i).bind fun j=>xs[j]?
theorem wy {n:Nat} {i:Int} {j:Nat} (h:GO n i=some j):seqIndex? i n=some j/\j<n/\-(n:Int)<=i/\i<n:=by
 unfold GO at h;by_cases h0:0<=i
 ·rw[Ae h0]at h;by_cases h1:i<n
  ·rw[Ae h1]at h;have e:i.toNat=j:=Option.some.inj h;exact⟨by rw[C0 h0 h1,e],by lia,by lia,h1⟩
  ·rw[Ai h1]at h;cases h
 ·rw[Ai h0]at h;by_cases h1:-(n:Int)<=i
  ·rw[Ae h1]at h;have e:(i+n).toNat=j:=Option.some.inj h;exact⟨by rw[seqIndex_neg (by lia) h1,e],by lia,h1,by lia⟩
  ·rw[Ai h1]at h;cases h
theorem q9 {α:Type} {xs:List α} {i:Int} {v:α} (h:jR xs i=some v):∃j,seqIndex? i xs.length=some j/\xs[j]?=some v/\j<xs.length/\-(xs.length:Int)<=i/\i<xs.length:=by
 unfold jR at h;cases e:GO xs.length i with
 | none=>rw[e]at h;cases h
 | some j =>
  rw[e]at h;obtain⟨h1,h2,h3,h4⟩:=wy e;exact⟨j,h1,h,h2,h3,h4⟩
theorem jz {α:Type} {xs:List α} {j:Nat} {v:α} (h:xs[j]?=some v):jR xs (j:Int)=some v:=by
 have hj:j<xs.length:=(Wb.mp h).1;have e:GO xs.length (j:Int)=some j:=by
  unfold GO;rw[Ae (by lia),Ae (by lia)];simp
 unfold jR;rw[e];exact h
def rb (b:Expr):Prop:=∀o i,subscripted b false o i=operate [o,i] (getItem o i)
def IxR (X:Cx) (r:R2):Prop :=
 ∀(value slice:Expr) (pins:List (Addr×Obj)) (s:Shared) (σ:St) (H:Hp) (x y:V) (v u:Value) (Q:VK),Inv X pins σ H s->RelV x v->RelV y u->r x y H Q ->
  subscripted slice false v u=operate [v,u] (getItem v u)->wpAny (model X.prog X.w) X.A (subscriptTail value slice v u) (EP X pins σ Q) X.xe s
def M5 (X:Cx) (id:String) (r:V->List V->Hp->VK->Prop):Prop :=
 ∀(pins:List (Addr×Obj)) (s:Shared) (σ:St) (H:Hp) (x:V) (xs:List V) (v:Value) (us:List Value) (Q:VK),Inv X pins σ H s->RelV x v->Vals xs us->r x xs H Q ->
  wpAny (model X.prog X.w) X.A (call (.builtin id) (v::us)) (EP X pins σ Q) X.xe s
section
variable {X:Cx} {a b:Expr} {ta tb:TE} {pos:Pos}
theorem IxR.or {r r':R2} (h:IxR X r) (h':IxR X r'):IxR X (fun x y H Q=>r x y H Q∨r' x y H Q):=by
 intro value slice pins s σ H x y v u Q I rx ry q hs;rcases q with q|q
 ·exact h value slice pins s σ H x y v u Q I rx ry q hs
 ·exact h' value slice pins s σ H x y v u Q I rx ry q hs
theorem IF {r:R2} (hr:IxR X r) (ha:PE X a ta) (hb:PE X b tb) (hs:rb b):PE X (.Subscript a b pos) (zO r ta tb):=by
 intro pins s σ H Q I h;exact Cj (JK ha hb I h fun v u s2 x y H2 I2 rx ry q=>hr a b pins s2 σ H2 x y v u Q I2 rx ry q (hs _ _))
def JX (K:PySem.W.Frag):R2:=fun x y H Q=>∃p xs i v,x=.ref p/\y=.int i/\gj K H p xs/\jR xs i=some v/\Q v H
def JY (K:PySem.W.Frag):R2:=fun x y H Q=>∃p xs i v,x=.ref p/\y=.int i/\jP K H p xs/\jR xs i=some v/\Q v H
def JZ:R2:=fun x y H Q=>∃z i c,x=.str z/\y=.int i/\z.length<=sizeLine/\jR z.cps.toList i=some c/\Q (.str ⟨#[c]⟩) H
theorem ix_list:IxR X (JX X.K):=by
 intro value slice pins s σ H x y v u Q I rx ry h hs;obtain⟨p,xs,i,z,rfl,rfl,hq,he,q⟩:=h;cases rx;obtain⟨t,rfl⟩:=ry;obtain⟨its,r,pl,hz⟩:=I.list hq;obtain⟨j,h1,h2,h3,h4,h5⟩:=q9 he;obtain⟨w,ew,rw'⟩:=r.get h2;have hl:=r.length;have hn:=mz;have fin:EP X pins σ Q w s:=⟨z,H,I,rw',q⟩;by_cases h0:0<=i
 ·have hj:i.toNat=j:=by
   rw[C0 h0 h5]at h1;exact Option.some.inj h1
  exact item_listR pl.isList h0 (by lia) (by rw[hj];simpa using ew) fin hs
 ·have hj:(i+(its.toArray.size:Int)).toNat=j:=by
   rw[seqIndex_neg (by lia) h4]at h1
   rw[Zc,← hl];exact Option.some.inj h1
  exact subscriptTail_builtinR (x:=w) pl.isList.typeIs slot_list_getitem.lookup
   (wpAny_getItem_list_neg (Q:=fun r s'=>r=w/\EP X pins σ Q r s') pl.isList (by lia) (by rw[Zc]<;>lia) (by lia) (by rw[hj];simpa using ew) ⟨rfl,fin⟩) hs
theorem ix_tup:IxR X (JY X.K):=by
 intro value slice pins s σ H x y v u Q I rx ry h hs;obtain⟨p,xs,i,z,rfl,rfl,hq,he,q⟩:=h;cases rx;obtain⟨t,rfl⟩:=ry;obtain⟨its,r,pl,hz⟩:=I.tuple hq;obtain⟨j,h1,h2,h3,h4,h5⟩:=q9 he;obtain⟨w,ew,rw'⟩:=r.get h2;have hl:=r.length;have hn:=mz;have fin:EP X pins σ Q w s:=⟨z,H,I,rw',q⟩;exact subscriptTail_builtinR (x:=w) pl.typeIs slot_tuple_getitem.lookup
  (getItem_tuple (j:=j) (Q:=fun r s'=>r=w/\EP X pins σ Q r s') pl (by lia) (by lia) (by rw[Zc,← hl];exact h1) (by simpa using ew) ⟨rfl,fin⟩) hs
theorem ix_str:IxR X JZ:=by
 intro value slice pins s σ H x y v u Q I rx ry h hs;obtain⟨z,i,c,rfl,rfl,hz,he,q⟩:=h;obtain⟨t,rfl⟩:=rx;obtain⟨t',rfl⟩:=ry;obtain⟨j,h1,h2,h3,h4,h5⟩:=q9 he;have hl:z.cps.toList.length=z.length:=by simp[Str.length]
 rw[hl]at h1 h4 h5;have hn:=mz
 exact tail_any (Ch s z t) slot_str_getitem.lookup (getItem_str (c:=c) (by
  have e1:decide (i < -(2 ^ 63:Int))=false:=Ad (by lia)
  have e2:decide (i ≥ 2 ^ 63)=false:=Ad (by lia)
  rw[e1,e2,Bool.or_false]) (by rw[h1];simpa using h2) ⟨.str ⟨#[c]⟩,H,I.tok _,⟨_,rfl⟩,q⟩) hs
def Ou (K:PySem.W.Frag):R2:=fun x y H Q=>JX K x y H Q∨JY K x y H Q∨JZ x y H Q
theorem J0:IxR X (Ou X.K):=ix_list.or (ix_tup.or ix_str)
theorem vy (its:List Value) (n j:Nat) (u:Value):Obj.mapSeq (·.setIfInBounds j u) { cls:=.type "list",data:=.seq its.toArray n }={ cls:=.type "list",data:=.seq (its.set j u).toArray n }:=by
 simp[Obj.mapSeq]
theorem Inv.lst {pins:List (Addr×Obj)} {σ:St} {H:Hp} {s:Shared} {p:Addr} {xs:List V} (I:Inv X pins σ H s) (h:H p=some (.lst xs)) :
  ∃(its:List Value) (n:Nat),Vals xs its/\s.heap.get? p=some { cls:=.type "list",data:=.seq its.toArray n }/\xs.length<=sizeLine:=by
 obtain⟨z,its,n,r,e⟩:=I.hok p _ h;exact⟨its,n,r,e,z⟩
theorem Inv.lstUpd {pins:List (Addr×Obj)} {σ:St} {H:Hp} {s:Shared} {p:Addr} {xs ys:List V} {its its':List Value} {n n':Nat} {f:Obj->Obj} (I:Inv X pins σ H s) (h:H p=some (.lst xs))
  (ho:s.heap.get? p=some { cls:=.type "list",data:=.seq its.toArray n }) (hf:f { cls:=.type "list",data:=.seq its.toArray n }={ cls:=.type "list",data:=.seq its'.toArray n' }) (r:Vals ys its') (hz:ys.length<=sizeLine) (t':Nat) (ht:0<t':=by first|assumption|exact Zh _|exact Inv.tk (by assumption)|exact Inv.tkl (by assumption) (by assumption)|lia) :
  Inv X pins σ (upd H p (.lst ys)) { s with heap:=s.heap.update p f,toks:=t' }:=by
 have e:(s.heap.update p f).get? p=some { cls:=.type "list",data:=.seq its'.toArray n' }:=by
  rw[AR f ho (by rw[hf]<;>rfl),hf]
 refine I.write (x:=p) (e:=p) (by rw[h];trivial) (.inl rfl) (fun b u hb q=>(AJ _ _ (AA hb)).trans q) ⟨_,e⟩ ?_
 exact⟨hz,its',n',r,e⟩
def IG:V->V->V->Hp->(Hp->Prop)->Prop:=fun o i v H Q=>∃p xs k j,o=.ref p/\i=.int k/\H p=some (.lst xs)/\GO xs.length k=some j/\Q (upd H p (.lst (xs.set j v)))
theorem set_list:JE X IG:=by
 intro pins s σ H o i v ov iv u Q I ro ri rv h;obtain⟨p,xs,k,j,rfl,rfl,hp,hj,q⟩:=h;cases ro;obtain⟨t,rfl⟩:=ri;obtain⟨its,n,r,ho,hz⟩:=I.lst hp;obtain⟨h1,h2,h3,h4⟩:=wy hj;have hl:=r.length;have hn:=mz;have I':Inv X pins σ (upd H p (.lst (xs.set j v))) { s with heap:=s.heap.update p (Obj.mapSeq (·.setIfInBounds j u)) } :=
  I.lstUpd hp ho (vy its n j u) (r.set rv j) (by rw[List.length_set];exact hz) s.toks
 by_cases h0:0<=k
 ·have hk:k.toNat=j:=by
   rw[C0 h0 h4]at h1;exact Option.some.inj h1
  exact PySem.W.ki_setAt ho h0 (by lia) (by rw[Zc,← hl];exact h4) (by rw[hk];exact⟨_,I',q⟩)
 ·have hk:(k+(its.toArray.size:Int)).toNat=j:=by
   rw[seqIndex_neg (by lia) h3]at h1
   rw[Zc,← hl];exact Option.some.inj h1
  exact PySem.W.ki_setBack ho (by lia) (by rw[Zc,← hl];exact h3) (by lia) (by rw[hk];exact⟨_,I',q⟩)
theorem DQ (i:Int) (n:Nat):max 0 (min (if i<0 then i+(n:Int) else i) (n:Int))=(((if i<0 then(i+(n:Int)).toNat else min i.toNat n):Nat):Int):=by
 by_cases h:i<0
 ·rw[Ae h,Ae h,Int.min_eq_left (by lia),Int.max_comm];exact(Int.ofNat_toNat _).symm
 ·rw[Ai h,Ai h,HT.clip_nat i n h];exact Int.max_eq_right (Cq _)
theorem rd (lo hi:Option Int) (n:Nat):(sliceBounds lo hi none n).1=((HT.sIx n 0 lo:Nat):Int)/\(sliceBounds lo hi none n).2.1=((HT.sIx n n hi:Nat):Int)/\(sliceBounds lo hi none n).2.2=1:=by
 refine⟨?_,?_,rfl⟩
 ·cases lo with
  | none=>simp[sliceBounds,HT.sIx]
  | some i=>exact DQ i n
 ·cases hi with
  | none=>simp[sliceBounds,HT.sIx]
  | some i=>exact DQ i n
theorem pP (its:List Value) (lo hi:Option Int):slicePick its.toArray lo hi none=((its.drop (HT.sIx its.length 0 lo)).take (HT.sIx its.length its.length hi-HT.sIx its.length 0 lo)).toArray:=by
 obtain⟨h1,h2,h3⟩:=rd lo hi its.toArray.size;unfold slicePick;rw[h1,h2,h3];simp only[sliceRange_one,pick_run,Zc]<;>rfl
def J1 (K:PySem.W.Frag):V->Option Int->Option Int->Hp->VK->Prop:=fun x lo hi H Q=>∃a xs,x=.ref a/\gj K H a xs/\∀p,H p=none->Q (.ref p) (upd H p (.lst (tJ xs lo hi)))
theorem GP:SlR X (J1 X.K):=by
 intro pins s σ H x v vl vu lo hi sl Q I rx hs pl pu h;obtain⟨a,xs,rfl,hx,q⟩:=h;cases rx;obtain⟨its,r,ht,hz⟩:=I.list hx;have hlen:=r.length;refine⟨"list",_,slot_list_getitem.lookup,ht.isList.typeIs,?_⟩;refine wpAny_getItem_list_slice ht.isList hs pl pu .none (by simp) ?_ (by rw[Zc]<;>lia)
 rw[pP,← hlen];refine⟨.ref s.heap.objs.size,_,I.laid (t':=s.toks) (o:=.lst (tJ xs lo hi)) (fun b ob q=>Ac _ q) (Xa _) ?_,rfl,q _ (I.hok.fresh (Xa _))⟩;exact⟨Qd (mQ xs lo hi) hz,_,0,(r.drop (HT.sIx xs.length 0 lo)).take (HT.sIx xs.length xs.length hi-HT.sIx xs.length 0 lo),Ah _ rfl⟩
def jW:V->Bool
 | .non=>true
 | .bl _=>true
 | .int _=>true
 | .str _=>true
 | _=>false
def IH:V->V->Bool
 | .non,.non=>true
 | .bl a,.bl b=>a == b
 | .bl a,.int b=>(if a then 1 else 0) == b
 | .int a,.bl b=>a == (if b then 1 else 0)
 | .int a,.int b=>a == b
 | .str a,.str b=>a == b
 | _,_=>false
theorem J2 {A:Around} {s:Shared} {y x:V} {u v:Value} (ry:RelV y u) (rx:RelV x v) (fy:jW y=true) (fx:jW x=true):SeqAt.EqAt A s u v (IH y x):=by
 cases y with
 | non =>
  cases ry;cases x with
  | non=>cases rx;exact SeqAt.EqAt.same _
  | bl b=>cases rx;exact SeqAt.EqAt.none_bool b
  | int b=>obtain⟨t,rfl⟩:=rx;exact SeqAt.EqAt.none_int b t
  | str b=>obtain⟨t,rfl⟩:=rx;exact SeqAt.EqAt.none_str b t
  | _=>exact absurd (show false=true from fx) Ze
 | bl a =>
  cases ry;cases x with
  | non=>cases rx;exact SeqAt.EqAt.bool_none a
  | bl b=>cases rx;exact SeqAt.EqAt.bool_bool a b
  | int b=>obtain⟨t,rfl⟩:=rx;exact SeqAt.EqAt.bool_int a b t
  | str b=>obtain⟨t,rfl⟩:=rx;exact SeqAt.EqAt.bool_str a b t
  | _=>exact absurd (show false=true from fx) Ze
 | int a =>
  obtain⟨t',rfl⟩:=ry;cases x with
  | non=>cases rx;exact SeqAt.EqAt.int_none a t'
  | bl b=>cases rx;exact SeqAt.EqAt.int_bool a t' b
  | int b=>obtain⟨t,rfl⟩:=rx;exact SeqAt.EqAt.int_int a t' b t
  | str b=>obtain⟨t,rfl⟩:=rx;exact Cn a t' b t
  | _=>exact absurd (show false=true from fx) Ze
 | str a =>
  obtain⟨t',rfl⟩:=ry;cases x with
  | non=>cases rx;exact SeqAt.EqAt.str_none a t'
  | bl b=>cases rx;exact SeqAt.EqAt.str_bool a t' b
  | int b=>obtain⟨t,rfl⟩:=rx;exact Ck a t' b t
  | str b=>obtain⟨t,rfl⟩:=rx;exact SeqAt.EqAt.str_str a t' b t
  | _=>exact absurd (show false=true from fx) Ze
 | _=>exact absurd (show false=true from fy) Ze
def GQ (x:V) (u:Value):Bool:=match u with
 | .none=>IH .non x
 | .bool b=>IH (.bl b) x
 | .int i _=>IH (.int i) x
 | .str z _=>IH (.str z) x
 | _=>false
theorem DR {x y:V} {u:Value} (r:RelV y u) (f:jW y=true):GQ x u=IH y x:=by
 cases y with
 | non=>cases r;rfl
 | bl b=>cases r;rfl
 | int i=>obtain⟨t,rfl⟩:=r;rfl
 | str z=>obtain⟨t,rfl⟩:=r;rfl
 | _=>exact absurd (show false=true from f) Ze
theorem re {x:V}:∀{xs:List V} {us:List Value},Vals xs us->xs.all jW=true->us.any (GQ x)=xs.any fun y=>IH y x
 | _,_,.nil,_=>rfl
 | y::xs,u::us,.cons r t,f=>by
  rw[BQ,Yh]at f;rw[Bu,Bu,DR r f.1,re t f.2]
theorem oA {A:Around} {s:Shared} {x:V} {v:Value} (rx:RelV x v) (fx:jW x=true):∀{xs:List V} {us:List Value},Vals xs us->xs.all jW=true->∀u∈us,SeqAt.EqAt A s u v (GQ x u)
 | _,_,.nil,_=>fun u hu=>by cases hu
 | y::xs,u::us,.cons r t,f=>fun u' hu=>by
  rw[BQ,Yh]at f;rcases Xd.mp hu with rfl|hu
  ·rw[DR r f.1];exact J2 r rx f.1 fx
  ·exact oA rx fx t f.2 u' hu
def II (x:V) (xs:List V):Bool:=xs.any fun y=>IH y x
def OP (K:PySem.W.Frag) (neg:Bool):R2:=fun x y H Q=>∃p xs,y=.ref p/\(gj K H p xs∨jP K H p xs)/\jW x=true/\xs.all jW=true/\Q (.bl (if neg then !II x xs else II x xs)) H
theorem yE:OpR X (compareOp .In) (OP X.K false):=by
 intro pins s σ H x y v u Q I rx ry h;obtain⟨p,xs,rfl,hq,fx,fs,q⟩:=h;cases ry;rcases hq with hq|hq
 ·obtain⟨its,r,pl,hz⟩:=I.list hq;refine SeqAt.in_listAt (GQ x) pl.isList (fun w hw=>oA rx fx r fs w (by simpa using hw)) ⟨.bl _,H,I,rfl,?_⟩
  rw[show its.toArray.any (GQ x)=its.any (GQ x) by simp,re r fs]
  exact q
 ·obtain⟨its,r,pl,hz⟩:=I.tuple hq;refine SeqAt.in_tupleAt (GQ x) pl (fun w hw=>oA rx fx r fs w (by simpa using hw)) ⟨.bl _,H,I,rfl,?_⟩
  rw[show its.toArray.any (GQ x)=its.any (GQ x) by simp,re r fs]
  exact q
theorem rf:CallR X (.builtin "len") (fun xs H Q=>∃p ys,xs=[.ref p]/\(gj X.K H p ys∨jP X.K H p ys)/\Q (.int ys.length) H):=by
 intro pins s σ H xs us Q I r h;obtain⟨p,ys,rfl,hq,q⟩:=h;obtain⟨u,rfl,rx⟩:=vals1 r;cases rx;have hn:=mz;rcases hq with hq|hq
 ·obtain⟨its,r',pl,hz⟩:=I.list hq;have hlen:=r'.length;exact Calls.call_len_list pl.isList (by simp only[Zc]<;>lia) ⟨.int ys.length,H,I.tok _,⟨s.toks+1,by rw[Zc,hlen]⟩,q⟩
 ·obtain⟨its,r',pl,hz⟩:=I.tuple hq;have hlen:=r'.length;exact len_tuple pl (by simp only[Zc]<;>lia) ⟨.int ys.length,H,I.tok _,⟨s.toks+1,by rw[Zc,hlen]⟩,q⟩
theorem rj:CallR X (.builtin "len") (fun xs H Q=>∃z,xs=[.str z]/\z.length<=sizeLine/\Q (.int z.length) H):=by
 intro pins s σ H xs us Q I r h;obtain⟨z,rfl,hz,q⟩:=h;obtain⟨u,rfl,t,rfl⟩:=vals1 r;have hn:=mz;exact len_str (by lia) ⟨.int z.length,H,I.tok _,⟨_,rfl⟩,q⟩
theorem CallR.or {f:Value} {r r':List V->Hp->VK->Prop} (h:CallR X f r) (h':CallR X f r'):CallR X f (fun xs H Q=>r xs H Q∨r' xs H Q):=by
 intro pins s σ H xs us Q I rs q;rcases q with q|q
 ·exact h pins s σ H xs us Q I rs q
 ·exact h' pins s σ H xs us Q I rs q
theorem rl:CallR X (.type "list") (fun xs H Q=>∃p ys,xs=[.ref p]/\(gj X.K H p ys∨jP X.K H p ys)/\∀l,H l=none->Q (.ref l) (upd H l (.lst ys))):=by
 intro pins s σ H xs us Q I r h;obtain⟨p,ys,rfl,hq,q⟩:=h;obtain⟨u,rfl,rx⟩:=vals1 r;cases rx;have fin:∀(its:List Value),Vals ys its->ys.length<=sizeLine->∀(h':Heap) (c':Nat),(∀b o',s.heap.get? b=some o'->h'.get? b=some o') ->
   h'.get? s.heap.objs.size=some { cls:=.type "list",dict:=none,data:=.seq its.toArray c',slots:=#[] }->EP X pins σ Q (.ref s.heap.objs.size) { s with heap:=h' }:=fun its r' hz h' c' kp e =>
  ⟨.ref s.heap.objs.size,_,I.laid (t':=s.toks) kp (Xa _) (show ObjOk X.prog X.w _ h' _ (.lst ys) from⟨hz,its,c',r',e⟩),rfl,q _ (I.hok.fresh (Xa _))⟩
 rcases hq with hq|hq
 ·obtain⟨its,r',pl,hz⟩:=I.list hq;have hlen:=r'.length;obtain⟨o,ho,hc,n,hd⟩:=pl.isList;exact call_list_seq p (.inl rfl) ho hc hd (fun h' c' kp e=>fin its r' hz h' c' kp e) (by simp only[Zc]<;>lia)
 ·obtain⟨its,r',pl,hz⟩:=I.tuple hq;have hlen:=r'.length;obtain⟨o,ho,hc,n,hd⟩:=pl;exact call_list_seq p (.inr rfl) ho hc hd (fun h' c' kp e=>fin its r' hz h' c' kp e) (by simp only[Zc]<;>lia)
theorem pQ:CallR X (.type "tuple") (fun xs H Q=>∃p ys,xs=[.ref p]/\((gj X.K H p ys/\∀l,H l=none->Q (.ref l) (upd H l (.tup ys)))∨(jP X.K H p ys/\Q (.ref p) H))):=by
 intro pins s σ H xs us Q I r h;obtain⟨p,ys,rfl,h⟩:=h;obtain⟨u,rfl,rx⟩:=vals1 r;cases rx;rcases h with⟨hq,q⟩|⟨hq,q⟩
 ·obtain⟨its,r',pl,hz⟩:=I.list hq;have hlen:=r'.length;refine call_tuple_list pl.isList (fun h' kp=>?_) (by simp only[Zc]<;>lia)
  have I1:Inv X pins σ H { s with heap:=h' }:=I.kept (t':=s.toks) kp;have I2:Inv X pins σ (upd H h'.objs.size (.tup ys)) { s with heap:=h'.push { cls:=.type "tuple",data:=.seq its.toArray } } :=
   I1.laid (t':=s.toks) (fun b o e=>Ac _ e) (Xa _) (show ObjOk X.prog X.w _ _ _ (.tup ys) from⟨hz,its,r',IsTup.new _ _⟩)
  exact⟨.ref h'.objs.size,_,I2,rfl,q _ (I1.hok.fresh (Xa _))⟩
 ·obtain⟨its,r',pl,hz⟩:=I.tuple hq;exact call_tuple_same pl ⟨.ref p,H,I,rfl,q⟩
def Ms (K:PySem.W.Frag) (T:String) (x:V) (H:Hp):Prop:=match x with
 | .str _=>T="str"
 | .int _=>T="int"
 | .ref p=>(T="list"/\∃xs,gj K H p xs)∨(T="tuple"/\∃o,K.lookup p=some o/\o.cls=.type "tuple"/\o.dict=none) ∨
   (T="dict"/\((∃kvs,H p=some (.dK kvs))∨∃ep kvs,H p=some (.dT ep kvs)))∨(T="set"/\∃S n,H p=some (.set S n))
 | _=>False
theorem DS {pins:List (Addr×Obj)} {σ:St} {H:Hp} {s:Shared} {T:String} {x:V} {v:Value} (I:Inv X pins σ H s) (r:RelV x v) (ty:Ms X.K T x H) :
  s.TypeIs v T/\∀a,v=.ref a->∃ob,s.heap.get? a=some ob/\ob.dict=none:=by
 cases x with
 | str z =>
  obtain⟨t,rfl⟩:=r;cases (show T="str" from ty);exact⟨Ch s z t,fun _ e=>nomatch e⟩
 | int i =>
  obtain⟨t,rfl⟩:=r;cases (show T="int" from ty);exact⟨typeIs_int s i t,fun _ e=>nomatch e⟩
 | ref p =>
  cases r;rcases ty with⟨rfl,xs,hq⟩|⟨rfl,o,hk,hc,hd⟩|⟨rfl,hk⟩|⟨rfl,S,n,hk⟩
  ·obtain⟨its,_,pl,_⟩:=I.list hq;refine⟨pl.isList.typeIs,fun a e=>?_⟩;cases e;obtain⟨o,n,e,c,hd,_⟩:=pl;exact⟨o,e,hd⟩
  ·refine⟨⟨o,I.kIn p o hk,hc⟩,fun a e=>?_⟩;cases e;exact⟨o,I.kIn _ o hk,hd⟩
  ·have z:∃o,s.heap.get? p=some o/\o.ExactDict:=by
    rcases hk with⟨kvs,hk⟩|⟨ep,kvs,hk⟩
    ·obtain⟨_,_,_,_,o,_,_,e,ex,_⟩:=I.hok p _ hk;exact⟨o,e,ex⟩
    ·obtain⟨_,_,_,_,_,o,_,e,ex,_⟩:=I.hok p _ hk;exact⟨o,e,ex⟩
   obtain⟨o,e,ex⟩:=z;refine⟨⟨o,e,ex.1⟩,fun a e2=>?_⟩;cases e2;exact⟨o,e,ex.2.1⟩
  ·obtain⟨o,_,_,_,e,ex,_⟩:=I.hok p _ hk;refine⟨⟨o,e,ex.1⟩,fun a e2=>?_⟩;cases e2;exact⟨o,e,ex.2.1⟩
 | _=>exact False.elim ty
def M6 (K:PySem.W.Frag) (T:String) (r:V->List V->Hp->VK->Prop) (to:TE):TE:=fun σ H Q=>to σ H fun x H1=>Ms K T x H1/\r x [] H1 Q
def Ov (K:PySem.W.Frag) (T:String) (r:V->List V->Hp->VK->Prop) (to:TE) (t:TA):TE:=fun σ H Q=>to σ H fun x H1=>Ms K T x H1/\t σ H1 fun xs H2=>r x xs H2 Q
variable {o e:Expr} {es:List Expr} {to:TE} {t:TA} {name:Str} {apos cpos:Pos} {T id:String} {r:V->List V->Hp->VK->Prop}
theorem Ka (pa:PlainAttrs T) (slot:Slot T name id) (hty:typeOf (.builtin id)=pure (.type "method_descriptor")) (hm:M5 X id r) (ho:PE X o to)
  (hbase:attributeBase o name X.env (eval o X.env)=eval o X.env:=by rfl) (hline:(apos.endLine == cpos.line)=true:=by rfl):PE X (.Call (.Attribute o name apos) [] [] cpos) (M6 X.K T r to):=by
 intro pins s σ H Q I h;refine wpAny_Call_method0_late hbase hline (cT (ho pins s σ H _ I h) fun v s1 zz9=>?_);obtain⟨x,H1,I1,r1,ty,q1⟩:=zz9;obtain⟨h1,h2⟩:=DS I1 r1 ty;exact⟨T,id,pa,slot,hty,h1,h2,BX rfl (PySem.evalArgs_none (hm pins s1 σ H1 x [] v [] Q I1 r1 .nil q1))⟩
theorem mR (pa:PlainAttrs T) (slot:Slot T name id) (hty:typeOf (.builtin id)=pure (.type "method_descriptor")) (hm:M5 X id r) (ho:PE X o to) (ha:PA X (e::es) t)
  (hbase:attributeBase o name X.env (eval o X.env)=eval o X.env:=by rfl)
  (hfew:((backTo cpos (starEach (e::es) X.env)).all (fun x=>!x.1)&&(backToKw cpos (keywordEach [] X.env)).all (fun x=>x.1.isSome)
   && decide ((e::es).length+([]:List Keyword).length+(if ([]:List Keyword).isEmpty then 0 else 1)<30))=true:=by rfl)
  (hline:(apos.endLine == cpos.line)=true:=by rfl) (hs:starEach (e::es) X.env=(false,eval e X.env)::starEach es X.env:=by rfl) (hplain:(backTo cpos (starEach es X.env)).any (·.1)=false:=by rfl) :
  PE X (.Call (.Attribute o name apos) (e::es) [] cpos) (Ov X.K T r to t):=by
 intro pins s σ H Q I h;refine wpAny_Call_method_late hbase hfew hline rfl (cT (ho pins s σ H _ I h) fun v s1 zz9=>?_);obtain⟨x,H1,I1,r1,ty,q1⟩:=zz9;obtain⟨h1,h2⟩:=DS I1 r1 ty;refine⟨T,id,pa,slot,hty,h1,h2,?_⟩;have hA:=ha cpos pins s1 σ H1 _ I1 q1;rw[hs]at hA ⊢;refine BX (by show(false||(backTo cpos (starEach es X.env)).any (·.1))=false;rw[hplain]<;>rfl) (Calls.evalArgs_plain ?_)
 exact cT hA fun us s2 ⟨vs,H2,I2,r2,q2⟩=>hm pins s2 σ H2 x vs v us Q I2 r1 r2 q2
end
end L2
namespace L2
open PySem PySem.Spec PyProof.Rows
def M7 (X:Cx) (id:String) (r:V->List V->Hp->VK->Prop):Prop :=
 ∀(pins:List (Addr×Obj)) (s:Shared) (σ:St) (H:Hp) (x:V) (xs:List V) (v:Value) (us:List Value) (Q:VK),Inv X pins σ H s->RelV x v->Vals xs us->r x xs H Q ->
  wpAny (model X.prog X.w) X.A (call (.builtin id) (v::us)) (EP X pins σ Q) X.xe s
theorem Vals.one:∀{x:V} {us:List Value},Vals [x] us->∃u,us=[u]/\RelV x u
 | _,_,.cons r .nil=>⟨_,rfl,r⟩
theorem Vals.zero:∀{us:List Value},Vals [] us->us=[]
 | _,.nil=>rfl
theorem Vals.reverse {xs:List V} {us:List Value} (h:Vals xs us):Vals xs.reverse us.reverse:=by
 induction h with
 | nil=>exact .nil
 | cons r t ih=>rw[AU,AU];exact Vals.append ih (.cons r .nil)
section
variable {X:Cx} {pins:List (Addr×Obj)} {σ:St} {H:Hp} {s:Shared} {l b:Addr} {xs ys zs:List V}
theorem Inv.lset {its its':List Value} {n:Nat} {f:Array Value->Array Value} {t':Nat} (I:Inv X pins σ H s) (hH:H l=some (.lst xs))
  (e:s.heap.get? l=some { cls:=.type "list",data:=.seq its.toArray n }) (hf:f its.toArray=its'.toArray) (hv:Vals ys its') (hz:ys.length<=sizeLine) (ht:0<t':=by first|assumption|exact Zh _|exact Inv.tk (by assumption)|exact Inv.tkl (by assumption) (by assumption)|lia) :
  Inv X pins σ (upd H l (.lst ys)) { s with heap:=s.heap.update l (Obj.mapSeq f),toks:=t' }:=by
 have q:=PySem.IsL.update e f;rw[hf]at q;refine I.write (x:=l) (e:=l) (by rw[hH];exact trivial) (.inl rfl) (fun b' u hb hu=>(AJ s.heap (Obj.mapSeq f) (AA hb)).trans hu) ⟨_,q⟩ ?_
 exact⟨hz,its',_,hv,q⟩
theorem Inv.lnew {its:List Value} {t':Nat} (I:Inv X pins σ H s) (hv:Vals ys its) (hz:ys.length<=sizeLine) (ht:0<t':=by first|assumption|exact Zh _|exact Inv.tk (by assumption)|exact Inv.tkl (by assumption) (by assumption)|lia) :
  Inv X pins σ (upd H s.heap.objs.size (.lst ys)) { s with heap:=s.heap.push { cls:=.type "list",data:=.seq its.toArray },toks:=t' } :=
 I.laid (fun _ _ q=>Ac _ q) (Xa _) ⟨hz,its,0,hv,Ah _ rfl⟩
theorem Inv.fresh (I:Inv X pins σ H s):H s.heap.objs.size=none:=I.hok.fresh (Xa _)
theorem Inv.lstM (I:Inv X pins σ H s) (hH:H l=some (.lst xs)):xs.length<=sizeLine/\∃(its:List Value) (n:Nat),Vals xs its/\xs.length=its.length/\s.heap.get? l=some { cls:=.type "list",data:=.seq its.toArray n }:=by
 obtain⟨z,its,n,r,e⟩:=I.hok l _ hH;exact⟨z,its,n,r,r.length,e⟩
theorem tK {n:Nat} (h:n<=sizeLine):Builtin.List.listTooLong n=false:=by
 unfold Builtin.List.listTooLong;exact Ad (by lia)
end
section
variable {X:Cx}
def rm:V->List V->Hp->VK->Prop:=fun x vs H Q=>∃l xs y,x=.ref l/\vs=[y]/\H l=some (.lst xs)/\xs.length<sizeLine/\Q .non (upd H l (.lst (xs++[y])))
theorem yF:M7 X "list.append" rm:=by
 intro pins s σ H x vs v us Q I rx rv h;obtain⟨l,xs,y,rfl,rfl,hH,hz,q⟩:=h;cases rx;obtain⟨u,rfl,ru⟩:=rv.one;obtain⟨z,its,n,r,hl,e⟩:=I.lstM hH;refine BS F.slot_list_append ⟨_,e,rfl⟩ F.entry_list_append (F.args_list_append_2 _ _) (PySem.list_append l its.toArray n u (by rw[Zc];lia)) ⟨e,?_⟩
 refine⟨.non,_,I.lset (its':=its++[u]) hH e (by simp) (r.append (.cons ru .nil)) ?_,rfl,q⟩
 rw[Qb,Qj];lia
def wz:V->List V->Hp->VK->Prop:=fun x vs H Q=>∃l b xs zs,x=.ref l/\vs=[.ref b]/\H l=some (.lst xs)/\H b=some (.lst zs)/\xs.length+zs.length<=sizeLine/\Q .non (upd H l (.lst (xs++zs)))
theorem yG:M7 X "list.extend" wz:=by
 intro pins s σ H x vs v us Q I rx rv h;obtain⟨l,b,xs,zs,rfl,rfl,hH,hB,hz,q⟩:=h;cases rx;obtain⟨u,rfl,ru⟩:=rv.one;cases ru;obtain⟨z,its,n,r,hl,e⟩:=I.lstM hH;obtain⟨z2,its2,n2,r2,hl2,e2⟩:=I.lstM hB;have hsz:its.toArray.size+its2.toArray.size<=sizeLine:=by rw[Zc,Zc];lia
 have hlong:¬ (!its.toArray.isEmpty&&Builtin.List.listTooLong (its.toArray.size+its2.toArray.size))=true:=by
  rw[tK hsz,Dj];exact Ze
 refine BS F.slot_list_extend ⟨_,e,rfl⟩ F.entry_list_extend (F.args_list_extend_2 _ _)
  (AutoSeq1.list_extend_list_list_0 l its.toArray n b its2.toArray n2 hlong (by rw[Zc];lia) (by lia)) ⟨e,e2,?_⟩
 refine⟨.non,_,I.lset (its':=its++its2) hH e (by simp) (r.append r2) ?_,rfl,q⟩
 rw[Qb];lia
def DT:V->List V->Hp->VK->Prop:=fun x vs H Q=>∃l xs,x=.ref l/\vs=[]/\H l=some (.lst xs)/\Q .non (upd H l (.lst []))
theorem DU:M7 X "list.clear" DT:=by
 intro pins s σ H x vs v us Q I rx rv h;obtain⟨l,xs,rfl,rfl,hH,q⟩:=h;cases rx;have hus:=rv.zero;subst hus;obtain⟨z,its,n,r,hl,e⟩:=I.lstM hH;refine BS F.slot_list_clear ⟨_,e,rfl⟩ F.entry_list_clear (F.args_list_clear_1 _) (AutoSeq1.list_clear_list_0 l its.toArray n (by rw[Zc];lia)) ⟨e,?_⟩
 exact⟨.non,_,I.lset (its':=[]) (ys:=[]) hH e rfl .nil (Yg _),rfl,q⟩
def Kb:R2:=fun x y H Q=>∃l b xs zs,x=.ref l/\y=.ref b/\H l=some (.lst xs)/\H b=some (.lst zs)/\xs.length+zs.length<=sizeLine/\∀p,H p=none->Q (.ref p) (upd H p (.lst (xs++zs)))
theorem op_cat:OpR X (binaryOp .Add) Kb:=by
 intro pins s σ H x y v u Q I rx ry h;obtain⟨l,b,xs,zs,rfl,rfl,hH,hB,hz,q⟩:=h;cases rx;cases ry;obtain⟨z,its,n,r,hl,e⟩:=I.lstM hH;obtain⟨z2,its2,n2,r2,hl2,e2⟩:=I.lstM hB;refine PySem.P.add_list e e2 ?_ (by rw[Zc,Zc];lia)
 have ea:its.toArray++its2.toArray=(its++its2).toArray:=by simp
 rw[ea];exact⟨.ref _,_,I.lnew (t':=s.toks) (r.append r2) (by rw[Qb];lia),rfl,q _ I.fresh⟩
end
end L2
namespace Att
open PySem PySem.W PySem.Calls PyProof.Rows
theorem ng {P:Params} {h:Heap}:∀(ns:List Int) (vs:List Value),WellAll P h vs (ns.map WData.int)->IntsAre vs ns:=by
 intro ns;induction ns with
 | nil =>
  intro vs w;rw[DB]at w;cases w;exact .nil
 | cons n ns ih =>
  intro vs w;rw[Ve]at w;cases w with
  | cons a b =>
   cases a;exact .cons _ _ (ih _ b)
theorem script_of {l:OpenLaw} {n:Nat} (hn:l.most=some n) {P:Params} {h:Heap} {args:List WData} {vals:List Value}
  (hpre:l.row.toRowW.claim.pre args=true) (hwl:WellAll P h vals args) :
  ∃a vs ns,vals=[Value.ref a]/\args=[WData.list (ns.map WData.int)]/\h.get? a=some { cls:=.type "list",data:=.seq vs.toArray }/\IntsAre vs ns/\ns.length<=n:=by
 have hsh:WShape.hasAll [] args [.list .int]=true:=(pre_splitW hpre).1;have hc:l.pre.holds [] { args:=args }=true:=(pre_splitW hpre).2;obtain⟨d,r,rfl,h1,h2⟩:=hasAllW_cons hsh;obtain rfl:=hasAllW_nil h2;obtain⟨xs,rfl,h3⟩:=hasW_list h1;obtain⟨ns,rfl⟩:=items_int h3;have hlen:ns.length<=n:=by
  unfold OpenLaw.pre at hc;have h4:(WTm.not (.lt (.lit (.int (n:Int))) (.len (.arg 0)))).holds [] { args:=[.list (ns.map .int)] }=true:=by
   have h4:=(holds_andW hc).1;rw[hn]at h4;exact h4
  have h5:=condW_of h4 (w_not (w_lt w_lit (w_len_list (w_arg rfl))));rw[Ya]at h5;refine BR fun q=>?_;have q':(n:Int)<((ns.length:Nat):Int):=by lia
  first
   | (rw[Af q']at h5;exact absurd h5 (by decide))
   | (simp at h5;lia)
 cases hwl with
 | cons w1 w2 =>
  cases w2;cases w1 with
  | list ho hall=>exact⟨_,_,ns,rfl,rfl,ho,ng ns _ hall,hlen⟩
theorem post_true (l:OpenLaw) (args:List WData):l.row.toRowW.claim.post args (.bool true) args=true :=
 postW_of (r:=l.row.toRowW) (X:=(true == true))
  (show WShape.has [] (.bool true) .bool=true by first|rfl|decide|simp[WShape.has,WShape.arms,WShape.armsAll])
  (show(WTm.eq .res (.lit (.bool true))).value [] { args:=args,res:=some (.bool true),after:=args }=some (.bool (true == true)) from w_eq_bool (w_res rfl) w_lit) rfl
end Att
namespace L2
open PySem PySem.Spec PyProof.Rows
theorem qm:∀{vs:List Value} {ns:List Int},IntsAre vs ns->Vals (ns.map V.int) vs
 | _,_,.nil=>.nil
 | _,_,.cons n t h=>.cons ⟨t,rfl⟩ (qm h)
def Kc (H:Hp):Prop:=∀b,H b=none∨∃o xs,H b=some (.frz o (.lst xs))
theorem DV {P:Program} {w:World} {K:PySem.W.Frag} {mg mb:Str->Option Value} {CX:zW} {k:Nat} {fa a:Addr} {fd:FuncData} {x:Str} {sp:Sp} {s₁:Shared} {vs:List Value} {ns:List Int}
  (KX:K.In s₁.heap) (hns:s₁.heap.Ns mainGlobals mg) (hb:s₁.heap.Ns builtinsNs mb) (hbb:∀x:Str,x≠"__name__"->mb x=bootBuiltins x) (hlim:s₁.heap.NoLimit) (hg:s₁.gens=#[]) (htk:0<s₁.toks)
  (ha:s₁.heap.get? a=some { cls:=.type "list",data:=.seq vs.toArray }) (hi:IntsAre vs ns) (hl:ns.length<=sizeLine) (hr:Room k callerA)
  (F:∀base:Heap,K.In base->base.Ns mainGlobals mg->FnOk P w K mg base CX k fa fd [x] sp) (hbind:∀(s:Shared) (u:Value),BindsTo s fd ⟨[u],[]⟩ [(x,u)])
  (hsp:∀H:Hp,Kc H->gj K H a (ns.map V.int)->sp [.ref a] H (fun v _=>v=.bl true) fun _ _ _=>False)
  (hCX:∀H e s',CX [] H s₁ (fun _ _ _=>False) e s'->False) :
  codeAny (model P w) callerA (.call (.ref fa) ⟨[.ref a],[]⟩) (fun r s'=>r=.ok (.ret (.bool true))/\OldK s₁.heap s'.heap/\s'.os=s₁.os/\AllBare s'.gens) s₁:=by
 have rv:=qm hi;have Kw:=hi.length;have core:∀H:Hp,Kc H->gj K H a (ns.map V.int)->HOk P w H s₁.heap->(∀b,H b≠none->b=a)->(H a≠none->K.lookup a=none) ->
   codeAny (model P w) callerA (.call (.ref fa) ⟨[.ref a],[]⟩) (fun r s'=>r=.ok (.ret (.bool true))/\OldK s₁.heap s'.heap/\s'.os=s₁.os/\AllBare s'.gens) s₁:=by
  intro H hO hS hok hA hK;have base_of:∀{b:Addr} {o:Obj},s₁.heap.get? b=some o->H b=none->(qW s₁.heap H).get? b=some o:=fun e n=>zK e n;have noA:∀{b:Addr} {o:Obj} {es:Array DictEntry} {ep:Nat},s₁.heap.get? b=some o->o.data=.dict es ep->H b=none:=fun {b o es ep} e d=>by
   cases q:H b with
   | none=>rfl
   | some u =>
    have e':b=a:=hA b (by rw[q];simp)
    subst e';rw[ha]at e;cases e;have d':Data.seq vs.toArray _=Data.dict es ep:=d;cases d'
  have nsK:∀{b:Addr} {m:Str->Option Value},s₁.heap.Ns b m->(qW s₁.heap H).Ns b m:=fun {b m} ⟨o,es,ep,e,d,r⟩=>⟨o,es,ep,base_of e (noA e d),d,r⟩
  have hKb:K.In (qW s₁.heap H):=fun b o e=>base_of (KX b o e) (by
   cases q:H b with
   | none=>rfl
   | some u =>
    have e':b=a:=hA b (by rw[q];simp)
    subst e'
    rw[hK (by rw[q];simp)]at e;cases e)
  have hM:Mod K mg (qW s₁.heap H):=⟨hKb,nsK hns,⟨mb,nsK hb,hbb⟩,let ⟨mc,h1,h2⟩:=hlim;⟨mc,nsK h1,h2⟩⟩;have e0:Env0 P w K mg (qW s₁.heap H) callerA [] s₁ H:=⟨rfl,hM,fun b o e=>GD e,Dy (yp _ _),trivial,fun b hb=>absurd (show b∈([]:List Addr) from hb) (by simp),hok,.of_eq hg,htk⟩
  refine Cz ((F _ hKb (nsK hns)).run callerA [] s₁ H ⟨[.ref a],[]⟩ [.ref a] [.ref a] _ _ hr e0 (hbind s₁ (.ref a)) (.cons rfl .nil) (hsp H hO hS)) fun r s' h=>?_;cases r with
  | error e=>exact(hCX H e s' h).elim
  | ok fl =>
   cases fl with
   | next=>exact False.elim h
   | brk=>exact False.elim h
   | cont=>exact False.elim h
   | ret u =>
    obtain⟨v,H',os,bare,un,hok',r',q⟩:=h;have q':v=.bl true:=q;subst q';obtain rfl:u=Value.bool true:=r';refine⟨rfl,OldK.of_keep fun b o e=>?_,os,bare⟩;cases q:H b with
    | none=>exact un.keep b o e q (by intro z;exact absurd (show b∈([]:List Addr) from z) (by simp)) (by simp)
    | some u =>
     rcases hO b with z|⟨ob,xs,z⟩
     ·rw[q]at z;cases z
     ·have z2:=un.frzs b ob _ z;obtain⟨e1,_⟩:=hok b _ z;obtain⟨e2,_⟩:=hok' b _ z2;rw[e]at e1;cases e1;exact e2
 cases hk:K.lookup a with
 | some o =>
  have e:=KX a o hk;rw[ha]at e;cases e;refine core (fun _=>none) (fun _=>.inl rfl) (.inr ⟨_,vs.toArray,_,hk,rfl,rfl,rfl,by rw[Zc,Kw];exact hl,by simpa using rv⟩) (fun b u z=>by have z':(none:Option HO)=some u:=z;cases z') (fun b z=>absurd rfl z) fun z=>absurd rfl z
 | none =>
  refine core (fun b=>if b=a then some (.frz { cls:=.type "list",data:=.seq vs.toArray } (.lst (ns.map V.int))) else none) (fun b=>?_) (.inl (.inr ⟨{ cls:=.type "list",data:=.seq vs.toArray },Ae rfl⟩)) (fun b u z=>?_) (fun b z=>?_) fun _=>hk
  ·by_cases hb:b=a
   ·exact .inr ⟨_,_,Ae hb⟩
   ·exact .inl (Ai hb)
  ·by_cases hb:b=a
   ·have z':=(Ae hb).symm.trans z;cases z';subst hb;exact⟨ha,by rw[Ya];exact hl,vs,_,rv,ha⟩
   ·have z':=(Ai hb).symm.trans z;cases z'
  ·by_cases hb:b=a
   ·exact hb
   ·exact absurd (Ai hb) z
theorem tL:∀ns:List Int,PySem.W.ofPys (ns.map PyData.int)=ns.map PySem.W.WData.int
 | []=>rfl
 | n::r=>by
  show PySem.W.WData.int n::PySem.W.ofPys (r.map PyData.int)=_;rw[tL r];rfl
theorem walk_of {l:PySem.W.OpenLaw} {n k:Nat} {q:Program} {loose:List Str} {XP:(Str->Option Value)->Heap->Prop} {d:DefRec} {K:Params->PySem.W.Frag} {CX:World->zW} {sp:World->Sp} {x:Str} {as:List Addr} {sz t:Nat}
  (hn:l.most=some n) (hn2:n<=sizeLine) (hdf:d.params.defaults=[]) (hr:Room k callerA) (ht:0<t) (hK:∀P,as=(K P).map (·.1))
  (F:∀(w:World) (mg:Str->Option Value) (fa:Addr) (h:Heap),(K w.params).In h->h.Ns mainGlobals mg->mg d.name=some (.ref fa) ->
   ∃fd:FuncData,(∀(s:Shared) (u:Value),BindsTo s fd ⟨[u],[]⟩ [(x,u)]) /\
    ∀base:Heap,(K w.params).In base->base.Ns mainGlobals mg->FnOk l.prog w (K w.params) mg base (CX w) k fa fd [x] (sp w))
  (hsp:∀(w:World) (H:Hp) (a:Addr) (ns:List Int),ns.length<=n->Kc H->gj (K w.params) H a (ns.map V.int)->sp w [.ref a] H (fun v _=>v=.bl true) fun _ _ _=>False)
  (hCX:∀(w:World) (H:Hp) (s:Shared) (e:Value) (s':Shared),CX w [] H s (fun _ _ _=>False) e s'->False) :
  PySem.W.WalkX q loose XP (PySem.W.X.obsZ as) (PySem.W.X.valZ K sz t) l.row.toRowW d [] (fun f vs=>PySem.call f vs):=by
 intro w s₀ s₁ mg mb G y fa o pm cd doc dV kV ho hd hcd hD hmg hg args vals as' L hpre hlay hrd hwl hlo;obtain rfl:dV=.none:=PySem.W.Dflts.none hD hdf;obtain rfl:kV=.none:=PySem.W.Dflts.noKw hD;obtain⟨a,vs,ns,rfl,rfl,hobj,hints,hlen⟩:=Att.script_of hn hpre hwl;obtain⟨_,K0,_,T0⟩:=PySem.W.X.z_facts hK y;have KX:(K w.params).In s₁.heap:=fun b o e=>L.keeps b o ((show(K w.params).In s₀.heap from K0) b o e);have tk:0<s₁.toks:=by
  have e:[PySem.W.WData.list (ns.map PySem.W.WData.int)]=[PySem.W.ofPy (PyData.list (ns.map PyData.int))]:=by
   show _=[PySem.W.WData.list (PySem.W.ofPys (ns.map PyData.int))];rw[tL]
  rw[e]at L;exact Xc ht (PySem.W.X.script_toks L T0)
 obtain⟨fd,hb,hF⟩:=F w mg fa _ KX G.T.g hmg;refine PySem.W.enter_call (Cz (DV KX G.T.g G.T.b G.T.builtins G.T.nolimit hg tk hobj hints (Qd hlen hn2) hr hF hb (fun H hO hS=>hsp w H a ns hlen hO hS) fun H e s'=>hCX w H s₁ e s') fun r s' hq=>?_);obtain⟨rfl,h2,h3,h4⟩:=hq;exact⟨.inl ⟨.bool true,.bool true,[],rfl,fun _=>rfl,.bool true,Att.post_true l _,fun _=>⟨List.Pairwise.nil,fun _ hm=>(nomatch hm)⟩⟩,h2,h3,h4⟩
end L2
namespace L2
open PySem PySem.Spec PyProof.Rows
def jA (s:Stmt):Arguments:=match s with
 | .FunctionDef _ a _ _ _ _ _ _ _ _=>a
 | _=>{ posonlyargs:=[],args:=[],vararg:=none,kwonlyargs:=[],kw_defaults:=[],kwarg:=none,defaults:=[] }
def gn (s:Stmt):List Stmt:=match s with
 | .FunctionDef _ _ b _ _ _ _ _ _ _=>b
 | _=>[]
def az (s:Stmt):Scope:=match s with
 | .FunctionDef _ _ _ _ _ _ sc _ _ _=>sc
 | _=>{ kind:=.function,names:=[],isGenerator:=false,isCoroutine:=false }
abbrev wA:zW:=fun _ _ _ _ _ _=>False
abbrev E0:XK:=fun _ _ _=>False
theorem M8 {X:Cx}:vp wA X E0:=fun _ _ _ _ _ _ _ h=>h.elim
structure Fun (K:PySem.W.Frag) (x qual:Str) (st:Stmt) (f:Addr) (fd:FuncData):Prop where
 ex:∃(oc:Value) (od:Option Addr) (kV doc pm:Value) (an:Option Addr) (cdv ct:Value) (osl:Array (Option Value)),
  fd=PySem.W.fnOf x qual (jA st) (gn st) (az st) .none kV doc pm an cdv ct/\K.lookup f=some ⟨oc,od,.func fd,osl⟩/\PySem.W.codeIn K cdv qual=true
 kp:PySem.W.keepIn K (.ref f)=true
section
variable {P:Program} {w:World} {K:PySem.W.Frag} {mg:Str->Option Value} {base:Heap}
theorem Fun.ok {x qual:Str} {st:Stmt} {f:Addr} {fd:FuncData} {N ps:List Str} {k:Nat} {sp:Sp} (F:Fun K x qual st f fd) (S:FnScope N ps (az st)) (len:∀vs H Q E,sp vs H Q E->vs.length=ps.length)
  (hbody:∀(cdv:Value) (A:Around) (outer:List Env) (s:Shared) (H:Hp) (vs:List V) (Q:VK) (E:XK),Room k (A.deeper (envOfC qual (az st) s.heap.objs.size f cdv))->sp vs H Q E ->
   ∃t,PSs (vq wA P w K mg base N qual (az st) f cdv A outer s H E).nox (gn st) t/\t { nx:=fun _ H'=>Q .non H',rt:=Q } (start N vs) H):FnOk P w K mg base wA (k+1) f fd ps sp:=by
 obtain⟨oc,od,kV,doc,pm,an,cdv,ct,osl,rfl,lk,hcd⟩:=F.ex;refine MZ lk hcd S len fun A outer s H vs Q E hr hsp=>?_;obtain⟨t,h,q⟩:=hbody cdv A outer s H vs Q E hr hsp;exact⟨t,h.nox,q⟩
theorem Fun.binds {x qual:Str} {st:Stmt} {f:Addr} {fd:FuncData} {ps:List Str} (F:Fun K x qual st f fd)
  (h:∀(kV doc pm:Value) (an:Option Addr) (cdv ct:Value) (us:List Value),us.length=ps.length->bindArgs (PySem.W.fnOf x qual (jA st) (gn st) (az st) .none kV doc pm an cdv ct) ⟨us,[]⟩=pure (ps.zip us)):Binds K fd ps []:=by
 obtain⟨oc,od,kV,doc,pm,an,cdv,ct,osl,rfl,lk,hcd⟩:=F.ex;exact .all (h kV doc pm an cdv ct)
theorem Ke {x qual:Str} {st:Stmt} {f:Addr} {oc:Value} {od an:Option Addr} {osl:Array (Option Value)} {kV doc pm cdv ct:Value} (l:K.lookup f=some ⟨oc,od,.func (PySem.W.fnOf x qual (jA st) (gn st) (az st) .none kV doc pm an cdv ct),osl⟩)
  (c:PySem.W.codeIn K cdv qual=true) (k:PySem.W.keepIn K (.ref f)=true):Fun K x qual st f (PySem.W.fnOf x qual (jA st) (gn st) (az st) .none kV doc pm an cdv ct):=⟨⟨oc,od,kV,doc,pm,an,cdv,ct,osl,rfl,l,c⟩,k⟩
end
theorem mS {A:Around} {k:Nat} (hr:Room k A):A.units+2<cLine:=AI (Wj (by decide:2<=64) _) hr.units
theorem yH {n:Nat} (h:n<=1000):n<sizeLine:=AI h (by decide)
section
variable {X:Cx}
theorem pv (i:Nat) {x:Str} {pos:Pos} (hN:X.N[i]?=some x:=by rfl) (hv:OK X.env.scope x:=by first|exact Or.inl rfl|exact Or.inr (Or.inl rfl)|exact Or.inr (Or.inr rfl)) (hd:(x == ("__debug__":Str))=false:=by decide)
  (hcd:(x == ("__classdict__":Str))=false:=by decide):PE X (.Name x pos) (tu i):=JD hN hv hd hcd
end
def Same (H H':Hp):Prop:=∀b o,H b=some o->H' b=some o
theorem Same.refl (H:Hp):Same H H:=fun _ _ h=>h
end L2
namespace L2
open PySem PySem.Spec PyProof.Rows
def b8 (env:Env):List (Str×NameKind)->List (Str×Addr)->List (Str×Addr)
 | [],acc=>acc
 | (n,k)::r,acc=>if k=.free then b8 env r ((n,(env.cells.lookup n).getD 0)::acc) else b8 env r acc
theorem iq {env:Env} {f:Str×NameKind->List (Str×Addr)->Sem (ForInStep (List (Str×Addr)))}
  (h1:∀n k cs c,k=NameKind.free->env.cells.lookup n=some c->f (n,k) cs=pure (.yield ((n,c)::cs)))
  (h2:∀n k cs,k≠NameKind.free->f (n,k) cs=pure (.yield cs)) :
  ∀(names:List (Str×NameKind)) (acc:List (Str×Addr)),(∀x∈names,x.2=.free->∃c,env.cells.lookup x.1=some c)->forIn names acc f=pure (b8 env names acc)
 | [],_,_=>rfl
 | (n,k)::r,acc,h=>by
  have hr:∀x∈r,x.2=.free->∃c,env.cells.lookup x.1=some c:=fun x hx=>h x (Va _ hx);by_cases hk:k=.free
  ·obtain⟨c,hc⟩:=h (n,k) Qa hk;have e:b8 env ((n,k)::r) acc=b8 env r ((n,c)::acc):=by
    show(if k=.free then _ else _)=_;rw[Ae hk];have hc':env.cells.lookup n=some c:=hc;rw[hc'];rfl
   rw[List.forIn_cons,h1 n k acc c hk hc,pure_bind,e];exact iq h1 h2 r _ hr
  ·have e:b8 env ((n,k)::r) acc=b8 env r acc:=by
    show(if k=.free then _ else _)=_;rw[Ai hk]
   rw[List.forIn_cons,h2 n k acc hk,pure_bind,e];exact iq h1 h2 r _ hr
theorem lC {scope:Scope} {env:Env} (h:∀x∈scope.names,x.2=.free->∃c,env.cells.lookup x.1=some c):closureFor scope env=pure (b8 env scope.names []):=by
 simp only[closureFor];have key:=fun f h1 h2=>iq (env:=env) (f:=f) h1 h2 scope.names [] h
 rw[key _ (fun n k cs c hk hc=>by subst hk;simp[cellOf,hc]) (fun n k cs hk=>by
  have:(k == NameKind.free)=false:=by simpa using hk
  simp only[this,Ye,if_false])]
 rfl
theorem cx {α β:Type} [BEq α] {x n:α} {k:β} {r:List (α×β)}:List.lookup x ((n,k)::r)=if (x == n)=true then some k else List.lookup x r:=by
 rw[List.lookup_cons];cases x == n<;>rfl
theorem gI {env:Env} {x:Str} {c:Addr}:∀(names:List (Str×NameKind)) (acc:List (Str×Addr)),(∀x∈names,x.2=.free->∃c,env.cells.lookup x.1=some c) ->
  (∀y c,acc.lookup y=some c->env.cells.lookup y=some c)->(b8 env names acc).lookup x=some c->env.cells.lookup x=some c
 | [],acc,_,ha,e=>ha x c e
 | (n,k)::r,acc,h,ha,e=>by
  have hr:∀x∈r,x.2=.free->∃c,env.cells.lookup x.1=some c:=fun x hx=>h x (Va _ hx);by_cases hk:k=.free
  ·obtain⟨c',hc⟩:=h (n,k) Qa hk;have hc':env.cells.lookup n=some c':=hc;have q:b8 env ((n,k)::r) acc=b8 env r ((n,c')::acc):=by
    show(if k=.free then _ else _)=_;rw[Ae hk,hc'];rfl
   rw[q]at e;refine gI r _ hr (fun y d hy=>?_) e;rw[cx]at hy;by_cases hyn:(y == n)=true
   ·rw[Ae hyn]at hy;have:y=n:=by simpa using hyn
    rw[this,hc',hy]
   ·rw[Ai hyn]at hy;exact ha y d hy
  ·have q:b8 env ((n,k)::r) acc=b8 env r acc:=by
    show(if k=.free then _ else _)=_;rw[Ai hk]
   rw[q]at e;exact gI r _ hr ha e
theorem kw {env:Env} {x:Str} {c:Addr} (hx:env.cells.lookup x=some c):∀(names:List (Str×NameKind)) (acc:List (Str×Addr)),(acc.lookup x=some c∨(x,NameKind.free)∈names)->(b8 env names acc).lookup x=some c
 | [],acc,h=>by
  rcases h with h|h
  ·exact h
  ·cases h
 | (n,k)::r,acc,h=>by
  by_cases hk:k=.free
  ·have q:b8 env ((n,k)::r) acc=b8 env r ((n,(env.cells.lookup n).getD 0)::acc):=by
    show(if k=.free then _ else _)=_;rw[Ae hk]
   rw[q];refine kw hx r _ ?_;by_cases hxn:(x == n)=true
   ·left;have e:x=n:=by simpa using hxn
    rw[cx,Ae hxn,← e,hx];rfl
   ·rcases h with h|h
    ·left;rw[cx,Ai hxn];exact h
    ·right;rcases Xd.mp h with h|h
     ·cases h;exact absurd (by simp) hxn
     ·exact h
  ·have q:b8 env ((n,k)::r) acc=b8 env r acc:=by
    show(if k=.free then _ else _)=_;rw[Ai hk]
   rw[q];refine kw hx r _ ?_;rcases h with h|h
   ·exact .inl h
   ·rcases Xd.mp h with h|h
    ·cases h;exact absurd rfl hk
    ·exact .inr h
theorem fV {env:Env} {x:Str}:∀(names:List (Str×NameKind)),
  ((names.map fun(n,k)=>if (k == NameKind.free&&env.scope.kind == .function&&env.kindOf n == some .cell) then(n,NameKind.cell) else(n,k)).lookup x=none/\names.lookup x=none) ∨
  ∃k k',names.lookup x=some k/\(names.map fun(n,k)=>if (k == NameKind.free&&env.scope.kind == .function&&env.kindOf n == some .cell) then(n,NameKind.cell) else(n,k)).lookup x=some k'/\(k'=k∨(k=.free/\k'=.cell))
 | []=>.inl ⟨rfl,rfl⟩
 | (n,k)::r=>by
  have ih:=@fV env x r;show(List.lookup x ((if (k == NameKind.free&&env.scope.kind == .function&&env.kindOf n == some .cell)=true then(n,NameKind.cell) else(n,k))::_)=none/\_)∨∃k' k'',_/\List.lookup x ((if (k == NameKind.free&&env.scope.kind == .function&&env.kindOf n == some .cell)=true then(n,NameKind.cell) else(n,k))::_)=_/\_;by_cases hc:(k == NameKind.free&&env.scope.kind == .function&&env.kindOf n == some .cell)=true
  ·rw[Ae hc,cx,cx];have hk:k=.free:=by
    simp only[Yh]at hc;simpa using hc.1.1
   by_cases hx:(x == n)=true
   ·rw[Ae hx,Ae hx];exact .inr ⟨k,.cell,rfl,rfl,.inr ⟨hk,rfl⟩⟩
   ·rw[Ai hx,Ai hx];exact ih
  ·rw[Ai hc,cx,cx];by_cases hx:(x == n)=true
   ·rw[Ae hx,Ae hx];exact .inr ⟨k,k,rfl,rfl,.inl rfl⟩
   ·rw[Ai hx,Ai hx];exact ih
abbrev nh (X:Cx) (N:List Str) (scope:Scope) (C:Addr) (s:Shared) (H:Hp) (fp:List Addr):Cx :=
 { X with N:=N,s₀:=s,H₀:=H,env:=compEnvC scope (b8 X.env scope.names []) C X.env,outer:=X.stack,stack:=X.stack,ex:=fp,fn:=fun _=>false,pn:=[],xe:=fun _ _=>False }
structure BlkScope (X:Cx) (N:List Str) (k:Nat) (caps:List Nat) (scope:Scope):Prop where
 kind:scope.kind=.function
 nocell:∀y∈scope.names,y.2≠.cell
 loc:∀y∈scope.names,y.2=.local->scope.names.lookup y.1=some .local
 free:∀y∈scope.names,y.2=.free->(X.env.kindOf y.1=some .cell∨X.env.kindOf y.1=some .free)
 len:N.length=k+caps.length
 cap:∀(j i:Nat),caps[j]?=some i->∃x,N[k+j]?=some x/\X.N[i]?=some x/\scope.names.lookup x=some .free
def ni (k:Nat) (caps:List Nat) (σ:St):St:=List.replicate k none++caps.map fun i=>(σ[i]?).getD none
section
variable {X:Cx} {N:List Str} {k:Nat} {caps:List Nat} {scope:Scope}
theorem BlkScope.cells (S:BlkScope X N k caps scope) (ok:X.Ok):∀x∈scope.names,x.2=.free->∃c,X.env.cells.lookup x.1=some c:=fun x hx hk=>ok.has x.1 (S.free x hx hk)
theorem BlkScope.sub (S:BlkScope X N k caps scope) (ok:X.Ok) {x:Str} {c:Addr} (e:(b8 X.env scope.names []).lookup x=some c):X.env.cells.lookup x=some c :=
 gI _ _ (S.cells ok) (fun y c h=>by cases h) e
theorem BlkScope.has (S:BlkScope X N k caps scope) (ok:X.Ok) {x:Str} (h:scope.names.lookup x=some .free):∃c,X.env.cells.lookup x=some c/\(b8 X.env scope.names []).lookup x=some c:=by
 have hm:=PySem.mem_of_lookup h;obtain⟨c,hc⟩:=S.cells ok _ hm rfl;exact⟨c,hc,kw hc _ _ (.inr hm)⟩
theorem wB (σ:St):(ni k caps σ).length=k+caps.length:=by unfold ni;simp
theorem wC {σ:St} {i:Nat} {v:V} (h:(ni k caps σ)[i]?=some (some v)):∃j i',i=k+j/\caps[j]?=some i'/\σ[i']?=some (some v):=by grind [ni]
theorem Kf {pins:List (Addr×Obj)} {σ:St} {H:Hp} {s:Shared} {fp:List Addr} {C:Addr} (S:BlkScope X N k caps scope) (I:Inv X pins σ H s) (hf:∀b∈fp,iV X pins H b) (hlt:∀b∈fp,b<s.heap.objs.size) (hC:s.heap.objs.size<=C) :
  (nh X N scope C s H fp).Ok:=by
 have nfs:∀b∈fp,b∉vh X.stack:=fun b hb z=>by
  rcases Xd.mp (I.stkSub b z) with e|e
  ·exact(hf b hb).2.1 e
  ·exact(hf b hb).2.2.1 e
 refine⟨I.ok.mod,S.kind,I.ok.glob,I.ok.blt,hC,fun x y c h1 h2=>I.ok.inj x y c (S.sub I.ok h1) (S.sub I.ok h2),fun x hx=>?_,fun x c h=>(by cases h),I.ok.hd,I.ok.frames,.inl rfl,fun b hb=>⟨?_,fun x c e=>?_⟩,I.bs,Qd I.ok.bsz I.sz,fun b o e hb=>?_,nfs,I.stack,I.stkFree⟩
 ·have hx':(relabel scope X.env).names.lookup x=some .cell∨(relabel scope X.env).names.lookup x=some .free:=hx;rcases fV (env:=X.env) (x:=x) scope.names with⟨e,_⟩|⟨k1,k2,e1,e2,e3⟩
  ·rcases hx' with z|z<;>(have z':=e.symm.trans z;cases z')
  ·have hk2:k2=.cell∨k2=.free:=by
    rcases hx' with z|z
    ·exact .inl (Option.some.inj (e2.symm.trans z))
    ·exact .inr (Option.some.inj (e2.symm.trans z))
   have hfree:k1=.free:=by
    rcases e3 with z|⟨z,_⟩
    ·rcases hk2 with q|q
     ·exact absurd (z.symm.trans q) (S.nocell _ (PySem.mem_of_lookup e1))
     ·exact z.symm.trans q
    ·exact z
   rw[hfree]at e1;obtain⟨c,_,hc⟩:=S.has I.ok e1;exact⟨c,hc⟩
 ·exact Vf (Xc (hlt b hb) hC)
 ·exact(hf b hb).2.2.2.2.1 x c (S.sub I.ok e)
 ·rcases(hf b hb).2.2.2.1 with z|z
  ·exact I.ok.noex b o e z
  ·exact absurd (Xc (Aj (I.ok.bs b o e).1) z) (Wi _)
theorem GR {pins:List (Addr×Obj)} {σ:St} {H:Hp} {s s3:Shared} {fp:List Addr} {C:Addr} {m:Str->Option Value} (S:BlkScope X N k caps scope) (I:Inv X pins σ H s) (hf:∀b∈fp,iV X pins H b) (hlt:∀b∈fp,b<s.heap.objs.size)
  (hC:s.heap.objs.size<=C) (hos:s3.os=s.os) (hg:s3.gens=s.gens) (kp:∀b o,s.heap.get? b=some o->s3.heap.get? b=some o) (hn:s3.heap.Ns C m) (ht:0<s3.toks):Inv (nh X N scope C s H fp) [] (ni k caps σ) H s3:=by
 refine⟨Kf S I hf hlt hC,hos,by rw[hg];exact I.bare,Un.kept kp,⟨m,hn,fun i x v e1 e2 e3=>?_⟩,fun x c e=>?_,I.hok.fresh hC,fun x c e=>I.freeC x c (S.sub I.ok e),fun p hp=>absurd hp (by simp),I.hok.kept kp,by rw[wB];exact S.len.symm,ht⟩
 ·obtain⟨j,i',rfl,hc,hv⟩:=wC e2;obtain⟨y,h1,h2,h3⟩:=S.cap j i' hc;have exy:y=x:=Option.some.inj (h1.symm.trans e1);subst exy;obtain⟨c,hc1,hc2⟩:=S.has I.ok h3;obtain⟨m0,hn0,hl0⟩:=I.loc;have hkind:=S.free _ (PySem.mem_of_lookup h3) rfl;obtain⟨u,ru,lu⟩:=hl0 i' y v h2 hv (hkind.elim (fun z=>.inr (.inl z)) (fun z=>.inr (.inr z)));refine⟨u,ru,.inr ⟨?_,c,hc2,?_⟩⟩
  ·rcases fV (env:=X.env) (x:=y) scope.names with⟨_,e⟩|⟨k1,k2,q1,q2,q3⟩
   ·rw[e]at h3;cases h3
   ·have hk1:k1=.free:=Option.some.inj (q1.symm.trans h3);rcases q3 with z|⟨_,z⟩
    ·right;show(relabel scope X.env).names.lookup y=_;exact q2.trans (by rw[z,hk1])
    ·left;show(relabel scope X.env).names.lookup y=_;exact q2.trans (by rw[z])
  ·rcases lu with⟨hk,_⟩|⟨_,c',hc',cell⟩
   ·rcases hkind with z|z<;>(have z':=hk.symm.trans z;cases z')
   ·have:c'=c:=Option.some.inj (hc'.symm.trans hc1);subst this;obtain⟨o,ho,hd⟩:=cell;exact⟨o,kp _ o ho,hd⟩
 ·obtain⟨v,o,ho,hd⟩:=I.cell x c (S.sub I.ok e);exact⟨v,o,kp _ o ho,hd⟩
end
def Mu (X:Cx) (ifs:List Expr) (t:TT):Prop :=
 ∀(pins:List (Addr×Obj)) (s:Shared) (σ:St) (H:Hp) (Q:Bool->Hp->Prop),Inv X pins σ H s->t σ H Q ->
  wpAny (model X.prog X.w) X.A (forIn ifs true fun c r=>if r=true then do let ok ← isTrue c X.env (eval c X.env);pure (ForInStep.yield ok) else pure (ForInStep.yield r)) (TP X pins σ Q) X.xe s
def M9:TT:=fun _ H Q=>Q true H
theorem dw {X:Cx}:Mu X [] M9:=fun _ _ _ H _ I h=>wpAny_tests_nil ⟨H,I,h⟩
theorem GS {X:Cx} {c:Expr} {t:TT} (h:PT X c t):Mu X [c] t:=fun pins s σ H Q I hw=>wpAny_tests_one (h pins s σ H Q I hw)
theorem iX {prog:Program} {w:World} {A:Around} {R:Result->Shared->Prop} {s:Shared} {elt target iter:Expr} {ifs:List Expr} {scope:Scope} {pos:Pos} {it acc:Value} {env:Env} (I:Nat->Shared->Prop)
  (turn:∀n s,I n s->wpAny (model prog w) A (pyNext it) (fun r s₁=>match r with
   | none=>R (.ok .next) s₁
   | some v=>wpAny (model prog w) A (letOwnedTupleGo target it v) (fun _ s₀=>wpAny (model prog w) A (assign target env v) (fun _ s₂ =>
     wpAny (model prog w) A (forIn ifs true fun c r=>if r=true then do let ok ← isTrue c env (eval c env);pure (ForInStep.yield ok) else pure (ForInStep.yield r)) (fun ok s₃ =>
      if ok=true then wpAny (model prog w) A (eval elt env) (fun x s₄ =>
       wpAny (model prog w) A (call (.builtin "list.append") [acc,x]) (fun _ s₅=>∃m,m<n/\I m s₅) (fun _ _=>False) s₄) (fun _ _=>False) s₃
      else ∃m,m<n/\I m s₃) (fun _ _=>False) s₂) (fun _ _=>False) s₀) (fun _ _=>False) s₁) (fun _ _=>False) s)
  (n:Nat) (h:I n s) :
  codeAny (model prog w) A (.compLoop (.ListComp elt [⟨target,iter,ifs,0⟩] scope pos) 0 it acc env) R s:=by
 refine codeAny_loop rfl I (fun n s hI=>?_) n h;show wpAny _ A ((compTurn (.ListComp elt [⟨target,iter,ifs,0⟩] scope pos) 0 it acc env).onRaise (fun x=>do noteFrame x env;theTreesLotGoes x)) _ _ s
 refine wpAny_noted ?_;rw[compTurn_list];refine Aa (wpAny_standAt (Aa (Av (turn n s hI) (fun r s₁ h₁=>?_) fun _ _ h'=>False.elim h')));cases r with
 | none=>exact Ab h₁
 | some v =>
  refine Aa (Av h₁ (fun _ s₀ h₀=>?_) fun _ _ h'=>False.elim h');refine Aa (Av h₀ (fun _ s₂ h₂=>Aa (Av h₂ (fun ok s₃ h₃=>?_) fun _ _ h'=>False.elim h')) fun _ _ h'=>False.elim h');cases ok with
  | false=>exact Ab ⟨rfl,h₃⟩
  | true =>
   exact Aa (Aa (Av h₃ (fun x s₄ h₄=>Aa (Av h₄ (fun _ s₅ h₅=>Ab (Ab ⟨rfl,h₅⟩)) fun _ _ h'=>False.elim h')) fun _ _ h'=>False.elim h'))
def qo (k:Nat) (caps:List Nat) (wi:TI) (g:TG) (tc:TT) (te:TE):TE:=fun σ H Q=>wi σ H fun J H1=>∃(n:Nat) (W:Nat->List V->Hp->Prop),W 0 [] H1 /\
 (∀xs H,W n xs H->J.stop n H/\∀p,H p=none->Q (.ref p) (upd H p (.lst xs))) /\
 ∀i xs H,i<n->W i xs H->J.go i H/\xs.length<sizeLine/\∀x H',J.yld i H x H'->g x (ni k caps σ) H' fun σ2 H2=>tc σ2 H2 fun ok H3 =>
  if ok=true then te σ2 H3 fun y H4=>σ2.drop k=(ni k caps σ).drop k/\W (i+1) (xs++[y]) H4
  else σ2.drop k=(ni k caps σ).drop k/\W (i+1) xs H3
abbrev ft (its:List Value) (n:Nat):Obj:={ cls:=.type "list",data:=.seq its.toArray n }
def IJ (X:Cx) (pins:List (Addr×Obj)) (H:Hp) (C:Addr):Prop :=
 H C=none/\C≠X.env.locals/\(C∈X.ex∨X.s₀.heap.objs.size<=C)/\(∀x c,X.env.cells.lookup x=some c->c≠C)/\∀p∈X.pn++pins,p.1≠C
inductive CI (X':Cx) (A:Addr) (σ:St) (tn:Nat->Heap->Prop) (fp:List Addr) (n0:Nat) (W:Nat->List V->Hp->Prop) (n:Nat) (s':Shared):Prop
 | mk (i:Nat) (xs:List V) (its:List Value) (nn:Nat) (H':Hp) (J:Inv X' [(A,ft its nn)] σ H' s') (st:tn i s'.heap) (fr:∀b∈fp,H' b=none) (vs:Vals xs its) (hz:xs.length<=sizeLine) (hn:n=n0-i) (hi:i<=n0) (w:W i xs H')
theorem tM {X:Cx} {elt iter tg:Expr} {ifs:List Expr} {scope:Scope} {pos cpos:Pos} {N:List Str} {k:Nat} {caps:List Nat} {wi:TI} {g:TG} {tc:TT} {te:TE} {use:Option (Value->Sem Unit)} {Q':Value->Shared->Prop}
  {pins:List (Addr×Obj)} {s:Shared} {σ:St} {H:Hp} {Q:VK} (S:BlkScope X N k caps scope) (hc:X.calm=true) (hi:PI X tg iter wi)
  (hg:∀C s H fp,PG (nh X N scope C s H fp) tg g) (ht:∀C s H fp,Mu (nh X N scope C s H fp) ifs tc) (he:∀C s H fp,PE (nh X N scope C s H fp) elt te)
  (hs:∀x,foldedSetIterable iter X.env x=pure x) (I:Inv X pins σ H s) (h:qo k caps wi g tc te σ H Q)
  (fin:∀(D C:Addr) (H4:Hp) (s4:Shared) (m:Str->Option Value),Inv X pins σ H4 s4->s4.heap.Ns C m->IJ X pins H4 C->Q (.ref D) H4->compPost (model X.prog X.w) X.A X.xe use Q' (.ref D) C (.ok .next) s4) :
  wpAny (model X.prog X.w) X.A (comprehension (.ListComp elt [⟨tg,iter,ifs,0⟩] scope pos) scope X.env cpos (newList []) false (eval iter X.env) use) Q' X.xe s:=by
 refine wpAny_comprehension_free rfl hs (lC (S.cells I.ok)) S.kind S.loc ?_;refine cT (hi pins s σ H _ I h) fun v s1 h1=>cT h1 fun itv s2 h2=>?_;obtain⟨it,fp,tn,J,H2,e,I2,T,st2,f2,n0,W,w0,wstop,turn⟩:=h2;subst e;refine Am (wpAny_newFunctionEnv S.nocell (by intro y hy;simp at hy) (fun h₁ hns₁ hsb₁=>?_) S.kind)
 dsimp only at hns₁ hsb₁ ⊢;generalize hG:s2.heap.push { cls:=.type "list",dict:=none,data:=.seq ([]:List Value).toArray }=G at hns₁ hsb₁ ⊢;have hCG:G.objs.size=s2.heap.objs.size+1:=by rw[← hG,Dh]
 have hDC:s2.heap.objs.size≠G.objs.size:=by lia
 have below:∀b,b<s2.heap.objs.size->b≠G.objs.size/\b≠s2.heap.objs.size:=fun b hb=>⟨by lia,by lia⟩
 have old:∀b o,s2.heap.get? b=some o->h₁.get? b=some o:=fun b o e=>hsb₁.extBut b o (below b (Aj e)).1 (Ac _ (hG ▸ Ac _ e));have hacc:h₁.get? s2.heap.objs.size=some (ft [] 0):=hsb₁.extBut _ _ hDC (Ac _ (hG ▸ Ah _ rfl));have hlt:∀b∈fp,b<s2.heap.objs.size:=fun b hb=>by obtain⟨o,ho,_⟩:=T.obj 0 _ st2 b hb;exact Aj ho
 have hDf:s2.heap.objs.size∉fp:=fun z=>Wi _ (hlt _ z);have hle:s2.heap.objs.size<=G.objs.size:=by lia
 have hDcell:∀x c,(b8 X.env scope.names []).lookup x=some c->c≠s2.heap.objs.size:=fun x c e z=>by
  obtain⟨v,q⟩:=I2.cell x c (S.sub I2.ok e);exact absurd q.lt (by rw[z];exact Wi _)
 have hDfs:s2.heap.objs.size∉vh X.stack:=fun z=>by
  obtain⟨_,o,ho,_⟩:=I2.stack.mem z;exact absurd (Aj ho) (Wi _)
 have nfs:∀b∈fp,b∉vh X.stack:=fun b hb z=>by
  rcases Xd.mp (I2.stkSub b z) with e|e
  ·exact(f2 b hb).2.1 e
  ·exact(f2 b hb).2.2.1 e
 have fpk:∀{H':Hp} {its:List Value} {n:Nat},(∀b∈fp,H' b=none)->∀b∈fp,iV (nh X N scope G.objs.size s2 H2 fp) [(s2.heap.objs.size,ft its n)] H' b:=fun {H' its n} hn b hb =>
  ⟨hn b hb,(below b (hlt b hb)).1,nfs b hb,.inl hb,fun x c e=>(f2 b hb).2.2.2.2.1 x c (S.sub I2.ok e),fun p hp=>by
   have e:p=(s2.heap.objs.size,ft its n):=by simpa using hp
   rw[e];exact AA (below b (hlt b hb)).2⟩
 have pinD:∀{H':Hp} {s':Shared} {σ':St} {its:List Value} {n:Nat},Inv (nh X N scope G.objs.size s2 H2 fp) [] σ' H' s'->s'.heap.get? s2.heap.objs.size=some (ft its n)->H' s2.heap.objs.size=none->Inv (nh X N scope G.objs.size s2 H2 fp) [(s2.heap.objs.size,ft its n)] σ' H' s':=fun {H' s' σ' its n} J e hn =>
  J.pins_of fun p hp=>by
   have q:p=(s2.heap.objs.size,ft its n):=by simpa using hp
   rw[q];exact⟨e,hn,hDC,hDfs,fun v z=>by cases z⟩
 have I3:Inv (nh X N scope G.objs.size s2 H2 fp) [] (ni k caps σ) H2 { s2 with heap:=h₁,toks:=s2.toks+([]:List (Str×Value)).length }:=GR S I2 f2 hlt hle rfl rfl old hns₁ (Xc I2.tk (Qi _ _));have loop:codeAny (model X.prog X.w) X.A (.compLoop (.ListComp elt [⟨tg,iter,ifs,0⟩] scope pos) 0 (.ref it) (.ref s2.heap.objs.size) (compEnvC scope (b8 X.env scope.names []) G.objs.size X.env))
   (compPost (model X.prog X.w) X.A X.xe use Q' (.ref s2.heap.objs.size) G.objs.size) { s2 with heap:=h₁,toks:=s2.toks+([]:List (Str×Value)).length }:=by
  refine iX (CI (nh X N scope G.objs.size s2 H2 fp) s2.heap.objs.size (ni k caps σ) tn fp n0 W) ?_ n0
   ⟨0,[],[],0,H2,pinD I3 hacc (I2.hok.fresh (Xa _)),T.keep _ _ _ st2 fun b _ o e=>old b o e,fun b hb=>(f2 b hb).1,.nil,Yg _,rfl,Yg _,w0⟩
  rintro n s3 ⟨i,xs,its,nn,H3,J3,st3,fr3,vs3,hz3,hn3,hi3,w3⟩;by_cases hin:i<n0
  rotate_left
  ·have ein:i=n0:=by lia
   subst ein;obtain⟨stop,qn⟩:=wstop xs H3 w3;refine cT (T.done (nh X N scope G.objs.size s2 H2 fp) rfl rfl rfl hc i _ s3 _ H3 _ J3 (fpk fr3) st3 stop) fun r s4 zz9=>?_;obtain⟨hr,J4⟩:=zz9;subst hr;obtain⟨eD,nD,_⟩:=J4.pin (s2.heap.objs.size,ft its nn) (by simp)
   have eD:s4.heap.get? s2.heap.objs.size=some (ft its nn):=eD;have nD:H3 s2.heap.objs.size=none:=nD;obtain⟨m4,hm4,_⟩:=J4.loc;have U:Un (vh X.stack) fp H2 H3 s2.heap s4.heap:=J4.base;have neC:∀b o,s2.heap.get? b=some o->b≠G.objs.size:=fun b o e=>(below b (Aj e)).1;have neD:∀b o,s2.heap.get? b=some o->b≠s2.heap.objs.size:=fun b o e=>(below b (Aj e)).2;have H2D:H2 s2.heap.objs.size=none:=I2.hok.fresh (Xa _);have HC:H3 G.objs.size=none:=J4.free;refine fin s2.heap.objs.size G.objs.size (upd H3 s2.heap.objs.size (.lst xs)) s4 m4 (I2.call' (s':=s4) (ch:=fp) J4.os ?_ ?_ J4.bare ?_ J4.tk) hm4 ?_ (qn _ nD)
   ·refine⟨fun b o e n hb hx=>U.keep b o e n hb hx,fun b o e n hb hx=>U.slot b o e n hb hx,fun b o e n hx=>?_,fun b o e hx=>U.there b o e hx,fun b ys e=>?_,fun b o u e=>?_,fun b ps e=>?_⟩
    ·rw[aN (neD b o e)];exact U.free b o e n hx
    ·rw[aN (bz e H2D)];exact U.tups b ys e
    ·rw[aN (bz e H2D)];exact U.frzs b o u e
    ·obtain⟨more,q⟩:=U.tbls b ps e;exact⟨more,by rw[aN (bz e H2D)];exact q⟩
   ·intro b u e;by_cases hb:b=s2.heap.objs.size
    ·subst hb;rw[bx]at e;cases e;exact⟨hz3,its,nn,vs3,eD⟩
    ·rw[aN hb]at e;exact(J4.hok b u e).stay (fun c v _ q=>q) (fun c q=>by rw[aN (bz q nD)];exact q) fun c ys q=>by rw[aN (bz q nD)];exact q
   ·exact fun b hb=>⟨(f2 b hb).2.2.2.1,(f2 b hb).2.1,(f2 b hb).2.2.2.2.1,(f2 b hb).2.2.2.2.2⟩
   ·refine⟨by rw[aN (AA hDC)];exact HC,Wl (Xc I2.lt hle),.inr (Qd I2.sz hle),fun x c e z=>?_,fun p hp z=>?_⟩
    ·obtain⟨v,q⟩:=I2.cell x c e;exact absurd (Xc q.lt (by rw[z];exact hle)) (Wi _)
    ·exact absurd (Xc (Aj (I2.pin p hp).1) (by rw[z];exact hle)) (Wi _)
  ·obtain⟨go,hz,step⟩:=turn i xs H3 hin w3;refine cT (T.item (nh X N scope G.objs.size s2 H2 fp) rfl rfl rfl hc i _ s3 _ H3 _ J3 (fpk fr3) st3 go) fun r s4 zz9=>?_;obtain⟨u,hr,h4⟩:=zz9;subst hr;refine cT h4 fun _ s5 zz9=>?_;obtain⟨x,H5,J5,r5,y5,st5,fr5⟩:=zz9;have J5':=J5.pinned (fpk fr5) (T.obj _ _ st5);refine cT (hg _ _ _ _ _ s5 _ H5 x u _ J5' r5 (step x H5 y5)) fun _ s6 zz9=>?_;obtain⟨σ6,H6,J6,q6⟩:=zz9;refine cT (ht _ _ _ _ _ s6 σ6 H6 _ J6 q6) fun ok s7 zz9=>?_;obtain⟨H7,J7,q7⟩:=zz9;have wk:∀{σ8:St} {H8:Hp} {s8:Shared} {pl:List (Addr×Obj)},Inv (nh X N scope G.objs.size s2 H2 fp) pl σ8 H8 s8->σ8.drop k=(ni k caps σ).drop k->Inv (nh X N scope G.objs.size s2 H2 fp) pl (ni k caps σ) H8 s8:=fun {σ8 H8 s8 pl} J8 hd =>
    J8.weak (by rw[wB,J8.len];exact S.len.symm) fun j v e=>by
     obtain⟨j',i',rfl,hc',hv'⟩:=wC e;have e1:((ni k caps σ).drop k)[j']?=some (some v):=by rw[Qf];exact e
     rw[← hd,Qf]at e1;exact e1
   have recs:∀{σ8:St} {H8:Hp} {s8:Shared},Inv (nh X N scope G.objs.size s2 H2 fp) ([(s2.heap.objs.size,ft its nn)]++ox fp s5.heap) σ8 H8 s8->(∀b∈fp,∀o,s5.heap.get? b=some o->s8.heap.get? b=some o)/\(∀b∈fp,H8 b=none):=fun {σ8 H8 s8} J8 =>
    ⟨fun b hb o e=>(J8.pin (b,o) (Wd _ (Wd _ (im hb e)))).1,fun b hb=>by
     obtain⟨o,e,d⟩:=T.obj _ _ st5 b hb
     exact(J8.pin (b,o) (Wd _ (Wd _ (im hb e)))).2.1⟩
   cases ok with
   | false =>
    rw[Ai (by decide)]at q7 ⊢
    obtain⟨hd,w7⟩:=q7;obtain⟨k1,k2⟩:=recs J7;exact⟨n0-(i+1),by lia,i+1,xs,its,nn,H7,wk J7.unpinned hd,T.keep _ _ _ st5 k1,k2,vs3,hz3,rfl,hin,w7⟩
   | true =>
    rw[Ae rfl]at q7 ⊢;refine cT (he _ _ _ _ _ s7 σ6 H7 _ J7 q7) fun uy s8 zz9=>?_;obtain⟨y,H8,J8,r8,hd,w8⟩:=zz9;obtain⟨k1,k2⟩:=recs J8;obtain⟨eD,nD,_⟩:=J8.pin (s2.heap.objs.size,ft its nn) (by simp)
    have eD:s8.heap.get? s2.heap.objs.size=some (ft its nn):=eD;have nD:H8 s2.heap.objs.size=none:=nD;have hl3:=vs3.length;refine BS F.slot_list_append ⟨_,eD,rfl⟩ F.entry_list_append (F.args_list_append_2 _ _) (PySem.list_append s2.heap.objs.size its.toArray nn uy (by rw[Zc];lia)) ⟨eD,?_⟩
    have q:=PySem.IsL.update eD (fun a:Array Value=>a.push uy);have qe:its.toArray.push uy=(its++[uy]).toArray:=by simp
    rw[qe]at q;have oth:∀b o,b≠s2.heap.objs.size->s8.heap.get? b=some o->(s8.heap.update s2.heap.objs.size (Obj.mapSeq fun a=>a.push uy)).get? b=some o:=fun b o hb e=>(AJ s8.heap _ (AA hb)).trans e;have J9:Inv (nh X N scope G.objs.size s2 H2 fp) [] σ6 H8 { s8 with heap:=s8.heap.update s2.heap.objs.size (Obj.mapSeq fun a=>a.push uy),toks:=s8.toks } :=
     (J8.pins_of (pins':=[]) fun p hp=>absurd hp (by simp)).turned oth nD hDC (.inr (Xa _)) hDcell (fun p hp=>absurd hp (by simp))
    refine⟨n0-(i+1),by lia,i+1,xs++[y],its++[uy],_,H8,wk (pinD J9 q nD) hd,T.keep _ _ _ st5 fun b hb o e=>oth b o (fun z=>hDf (z ▸ hb)) (k1 b hb o e),k2,vs3.append (.cons r8 .nil),?_,rfl,hin,w8⟩
    rw[Qb,Qj];lia
 exact codeAny_compStart_list loop (T.self _ 0 _ _ _ (T.keep _ _ _ st2 fun b _ o e=>old b o e) loop)
theorem Inv.aside {X:Cx} {pins:List (Addr×Obj)} {σ:St} {H:Hp} {s:Shared} {C:Addr} {h':Heap} (I:Inv X pins σ H s) (a:IJ X pins H C) (hs:Heap.SameBut C s.heap h'):Inv X pins σ H { s with heap:=h' } :=
 I.turned (t':=s.toks) (fun b o hb e=>hs.extBut b o hb e) a.1 a.2.1 a.2.2.1 a.2.2.2.1 a.2.2.2.2
theorem fD {X:Cx} {elt iter tg:Expr} {ifs:List Expr} {scope:Scope} {pos:Pos} {N:List Str} {k:Nat} {caps:List Nat} {wi:TI} {g:TG} {tc:TT} {te:TE} (S:BlkScope X N k caps scope) (hc:X.calm=true) (hi:PI X tg iter wi)
  (hg:∀C s H fp,PG (nh X N scope C s H fp) tg g) (ht:∀C s H fp,Mu (nh X N scope C s H fp) ifs tc) (he:∀C s H fp,PE (nh X N scope C s H fp) elt te)
  (hs:∀x,foldedSetIterable iter X.env x=pure x:=by intro _;rfl):PE X (.ListComp elt [⟨tg,iter,ifs,0⟩] scope pos) (qo k caps wi g tc te):=by
 intro pins s σ H Q I h;rw[eval_ListComp];exact tM (use:=none) S hc hi hg ht he hs I h fun D C H4 s4 m I4 hm a q=>⟨m,hm,fun h' hs'=>⟨.ref D,H4,I4.aside a hs',rfl,q⟩⟩
theorem GT {X:Cx} {elt iter tg:Expr} {ifs:List Expr} {scope:Scope} {pos py spos:Pos} {N:List Str} {k:Nat} {caps:List Nat} {wi:TI} {g:TG} {tc:TT} {te:TE} {y:Str} {i:Nat} (S:BlkScope X N k caps scope) (hc:X.calm=true) (hN:X.N.Nodup) (hi':X.N[i]?=some y) (hy:Loc X.env.scope y) (hi:PI X tg iter wi)
  (hg:∀C s H fp,PG (nh X N scope C s H fp) tg g) (ht:∀C s H fp,Mu (nh X N scope C s H fp) ifs tc) (he:∀C s H fp,PE (nh X N scope C s H fp) elt te)
  (hs:∀x,foldedSetIterable iter X.env x=pure x:=by intro _;rfl) (hsw:swapsWith (.ListComp elt [⟨tg,iter,ifs,0⟩] scope pos) (some (.Name y py)) spos.line X.env=pure true:=by rfl)
  (hf:X.fn y=true∨X.env.scope.names.lookup y=some .local:=by first|exact .inl rfl|exact .inr rfl|assumption) :
  PS X (.Assign [.Name y py] (.ListComp elt [⟨tg,iter,ifs,0⟩] scope pos) spos) (yq (qo k caps wi g tc te) (ou i)):=by
 intro pins s σ H D I h;rw[exec_Assign_Name_used _ _ _ _ hsw];refine Aa (wpAny_standAt (Aa ?_));show wpAny _ X.A (do let _ ← comprehension (.ListComp elt [⟨tg,iter,ifs,0⟩] scope pos) scope X.env _ (newList []) false (eval iter X.env) (some (assign (.Name y py) X.env))) _ _ s
 refine Aa (Av (tM (use:=some (assign (.Name y py) X.env)) (Q':=fun _ s'=>SP X pins D .next s') S hc hi hg ht he hs I h ?_) (fun _ s' hq=>Ab (Ab hq)) fun _ _ e=>e)
 intro Da C H4 s4 m I4 hm a q;refine wpAny_assign_Name (qf I4 hN hi' hy (show RelV (.ref Da) (.ref Da) from rfl) (fun s5 I5 zz9 _=>?_) hf);obtain⟨b,sb,hb⟩:=zz9;have hbC:C≠b:=by
  rcases hb with z|z
  ·rw[z];exact a.2.1
  ·exact fun e=>a.2.2.2.1 _ _ z e.symm
 exact⟨m,hm.sameBut sb hbC,fun h' hs'=>⟨_,H4,I5.aside a hs',q⟩⟩
end L2
namespace L2
open PySem PySem.Spec PyProof.Rows
def OQ (x:Str):It:=⟨fun i _=>i<x.cps.size,fun i H v H'=>H'=H/\∃c,x.cps[i]?=some c/\v=.str ⟨#[c]⟩,fun i _=>x.cps.size<=i⟩
theorem yI {P:Program} {w:World} {K:PySem.W.Frag} {tg:Expr} (it:Addr) (x:Str) (t:Tok):Turn P w K tg (OQ x) [it] it (fun i h=>h.IsStrIter it "str_ascii_iterator" x t i) where
 mem:=by simp
 obj:=fun i h st b hb=>by
  have e:b=it:=by simpa using hb
  subst e;obtain⟨o,e,c,d⟩:=st;exact⟨o,e,fun v z=>by rw[d]at z;cases z⟩
 keep:=fun i h h' st k=>let ⟨o,ho,r⟩:=st;⟨o,k it (by simp) o ho,r⟩
 item:=by
  intro X hP hw hK hc i pins s σ H E I hf st hg;subst hP hw hK;obtain⟨f0,f1,f2,f3,f4,f5⟩:=hf it (by simp)
  have hg':i<x.cps.size:=hg;refine wpAny_pyNext_ascii_item st (c:=x.cps[i]) (by simp[hg']) fun h' st' sb=>?_
  have I1:Inv X pins σ H { s with heap:=h',toks:=s.toks+1 }:=I.turned (fun b o hb e=>sb.extBut b o hb e) f0 f1 f3 f4 f5;obtain⟨o,e,c,d⟩:=id st';exact⟨_,rfl,qg (s:={ s with heap:=h',toks:=s.toks+1 }) e c d (by decide) ⟨.str ⟨#[x.cps[i]]⟩,H,I1,⟨_,rfl⟩,⟨rfl,_,by simp[hg'],rfl⟩,st',fun b hb=>(hf b hb).1⟩⟩
 done:=by
  intro X hP hw hK hc i pins s σ H E I hf st hg;subst hP hw hK;obtain⟨f0,f1,f2,f3,f4,f5⟩:=hf it (by simp)
  have hg':x.cps.size<=i:=hg;exact wpAny_pyNext_ascii_end (I.ok.hd hc) st (by simp[hg']) fun h' eb=>⟨rfl,I.turned (t':=s.toks) (fun b o hb e=>eb b o hb e) f0 f1 f3 f4 f5⟩
 self:=fun _ _ _ _ _ st h=>wpAny_pyIter_striter_ascii st h
theorem yJ {P:Program} {w:World} {K:PySem.W.Frag} {tg:Expr} (it:Addr) (x:Str) (t:Tok):Turn P w K tg (OQ x) [it] it (fun i h=>h.IsStrIter it "str_iterator" x t i) where
 mem:=by simp
 obj:=fun i h st b hb=>by
  have e:b=it:=by simpa using hb
  subst e;obtain⟨o,e,c,d⟩:=st;exact⟨o,e,fun v z=>by rw[d]at z;cases z⟩
 keep:=fun i h h' st k=>let ⟨o,ho,r⟩:=st;⟨o,k it (by simp) o ho,r⟩
 item:=by
  intro X hP hw hK hc i pins s σ H E I hf st hg;subst hP hw hK;obtain⟨f0,f1,f2,f3,f4,f5⟩:=hf it (by simp)
  have hg':i<x.cps.size:=hg;refine wpAny_pyNext_wide_item st (c:=x.cps[i]) (by simp[hg']) fun h' st' sb=>?_
  have I1:Inv X pins σ H { s with heap:=h',toks:=s.toks+1 }:=I.turned (fun b o hb e=>sb.extBut b o hb e) f0 f1 f3 f4 f5;obtain⟨o,e,c,d⟩:=id st';exact⟨_,rfl,qg (s:={ s with heap:=h',toks:=s.toks+1 }) e c d (by decide) ⟨.str ⟨#[x.cps[i]]⟩,H,I1,⟨_,rfl⟩,⟨rfl,_,by simp[hg'],rfl⟩,st',fun b hb=>(hf b hb).1⟩⟩
 done:=by
  intro X hP hw hK hc i pins s σ H E I hf st hg;subst hP hw hK;obtain⟨f0,f1,f2,f3,f4,f5⟩:=hf it (by simp)
  have hg':x.cps.size<=i:=hg;exact wpAny_pyNext_wide_end (I.ok.hd hc) st (by simp[hg']) fun h' eb=>⟨rfl,I.turned (t':=s.toks) (fun b o hb e=>eb b o hb e) f0 f1 f3 f4 f5⟩
 self:=fun _ _ _ _ _ st h=>wpAny_pyIter_striter_wide st h
section
variable {X:Cx} {tg:Expr}
def Kg (tl:TE):TI:=fun σ H R=>tl σ H fun x H1=>∃z,x=.str z/\R (OQ z) H1
theorem Kh {l:Expr} {tl:TE} (hl:PE X l tl):PI X tg l (Kg tl):=by
 intro pins s σ H R I h;refine cT (hl pins s σ H _ I h) fun v s1 zz9=>?_;obtain⟨x,H1,I1,r1,q1⟩:=zz9;obtain⟨z,e,q⟩:=q1;subst e;obtain⟨t,rfl⟩:=r1;have fpk:∀b∈[s1.heap.objs.size],iV X pins H1 b:=fun b hb=>by
  have e:b=s1.heap.objs.size:=by simpa using hb
  subst e;exact I1.fpOk (Xa _) (I1.hok.fresh (Xa _))
 cases ha:z.cps.all (·<128) with
 | true=>exact wpAny_pyIter_ascii ha ⟨s1.heap.objs.size,[s1.heap.objs.size],_,_,H1,rfl,I1.kept (t':=s1.toks) fun b o e=>Ac _ e,yI _ z t,⟨_,Ah _ rfl,rfl,rfl⟩,fpk,q⟩
 | false=>exact wpAny_pyIter_wide ha ⟨s1.heap.objs.size,[s1.heap.objs.size],_,_,H1,rfl,I1.kept (t':=s1.toks) fun b o e=>Ac _ e,yJ _ z t,⟨_,Ah _ rfl,rfl,rfl⟩,fpk,q⟩
theorem range_all (bs:List Bool):(List.range bs.length).all (fun i=>bs.getD i true)=bs.all id:=by
 induction bs with
 | nil=>rfl
 | cons b r ih =>
  rw[Vd,Dz,BQ,DE,BQ,← ih];rfl
theorem DW (hc:X.calm=true):CallR X (.builtin "all") (fun xs H Q=>∃(p:Addr) (bs:List Bool),xs=[.ref p]/\gj X.K H p (bs.map V.bl)/\Q (.bl (bs.all id)) H):=by
 intro pins s σ H xs us Q I rv h;obtain⟨p,bs,rfl,hq,q⟩:=h;obtain⟨u,rfl,ru⟩:=vals1 rv;cases ru;obtain⟨its,r,pl,hz⟩:=I.list hq;have hlen:its.length=bs.length:=by have:=r.length;simpa using this.symm
 obtain⟨op,np,ep,cp,dp,sp⟩:=id pl;have hne:p≠s.heap.objs.size:=Vf (Aj ep);refine bV (call_all_walk (BM pl.isList ?_));refine⟨s.heap.objs.size,_,_,_,_,_,fun i=>bs.getD i true,rfl,Walks.list (show X.A.in1.handled=none from I.ok.hd hc) s.heap.objs.size p hne its.toArray,⟨⟨_,Ah _ rfl,rfl,rfl⟩,⟨op,Ac _ ep,cp,np,sp⟩⟩,?_,fun h' tk kp hle=>?_⟩
 ·intro i v s' Q' E' hv hQ';have hv':its[i]?=some v:=by simpa using hv
  have hi:i<its.length:=(Wb.mp hv').1;have hb:(bs.map V.bl)[i]?=some (V.bl (bs[i]'(by lia))):=by
   rw[Qc,Za (by lia)];rfl
  obtain⟨u',e1,e2⟩:=r.get hb;rw[hv']at e1;cases e1;cases e2;have:bs.getD i true=bs[i]'(by lia):=by rw[Xb,Za (by lia)];rfl
  have hQ2:Q' (bs.getD i true) s':=hQ';rw[this]at hQ2;exact Az hQ2
 ·have e:(List.range its.toArray.size).all (fun i=>bs.getD i true)=bs.all id:=by
   rw[Zc,hlen];exact range_all bs
  rw[e]
  exact⟨.bl (bs.all id),H,I.kept (fun b o e=>kp b o (by
   intro z;have z':b=s.heap.objs.size:=by simpa using z
   exact absurd (Aj e) (by rw[z'];exact Wi _)) (Ac _ e)) (I.tkl' hle),rfl,q⟩
theorem oB:∀{ys:List Str} {us:List Value},Vals (ys.map V.str) us->StrsAre us ys
 | [],_,r=>by cases r;exact .nil
 | y::ys,_,r=>by
  cases r with
  | cons a b =>
   obtain⟨t,rfl⟩:=a;exact .cons y t (oB b)
theorem GU:M5 X "str.join" (fun x vs H Q=>∃(sep:Str) (p:Addr) (ys:List Str),x=.str sep/\vs=[.ref p]/\gj X.K H p (ys.map V.str)/\(ys.map (·.length)).sum+ys.length*sep.length<=16777216/\Q (.str (Txt.join sep ys)) H):=by
 intro pins s σ H x vs v us Q I rx rv h;obtain⟨sep,p,ys,rfl,rfl,hq,hz,q⟩:=h;obtain⟨t,rfl⟩:=rx;obtain⟨u,rfl,ru⟩:=vals1 rv;cases ru;obtain⟨its,r,pl,_⟩:=I.list hq;exact bV (join_list pl.isList (oB (by simpa using r)) hz fun t' k hle=>⟨.str _,H,I.tok k (I.tkl' hle),⟨t',rfl⟩,q⟩)
def sgn (x:Str):List V:=x.cps.toList.map fun c=>.str ⟨#[c]⟩
theorem tO {x:Str} {acc:Array Value} (h:ItemsOf (SignAt x) acc x.cps.size):Vals (sgn x) acc.toList:=by
 obtain⟨h1,h2⟩:=h;have gen:∀(cs:List Nat) (us:List Value),us.length=cs.length->(∀(j:Nat) v,us[j]?=some v->∃c u,cs[j]?=some c/\v=Value.str ⟨#[c]⟩ u)->Vals (cs.map fun c=>V.str ⟨#[c]⟩) us:=by
  intro cs;induction cs with
  | nil=>intro us hl _;cases us with
   | nil=>exact .nil
   | cons _ _=>cases hl
  | cons c cs ih =>
   intro us hl hu;cases us with
   | nil=>cases hl
   | cons u us =>
    obtain⟨c',tk,e1,e2⟩:=hu 0 u rfl;have:c=c':=by simpa using e1
    subst this;subst e2;refine .cons ⟨tk,rfl⟩ (ih us (by simpa using hl) fun j v e=>?_)
    have:=hu (j+1) v (by simpa using e)
    simpa using this
 refine gen x.cps.toList acc.toList (by simp[h1]) fun j v e=>?_
 obtain⟨c,u,e1,e2⟩:=h2 j v (by simpa using e)
 exact⟨c,u,by simpa using e1,e2⟩
theorem wD (x:Str):(sgn x).length=x.cps.size:=by simp[sgn]
theorem oC (hc:X.calm=true):CallR X (.type "list") (fun xs H Q=>∃z:Str,xs=[.str z]/\z.cps.size<=sizeLine/\∀l,H l=none->Q (.ref l) (upd H l (.lst (sgn z)))):=by
 intro pins s σ H xs us Q I rv h;obtain⟨z,rfl,hz,q⟩:=h;obtain⟨u,rfl,ru⟩:=vals1 rv;obtain⟨t,rfl⟩:=ru;refine bV (call_list_str (I.ok.hd hc) z t (fun h' tk acc' c' kp hS hi hle=>?_) hz);refine⟨.ref s.heap.objs.size,upd H s.heap.objs.size (.lst (sgn z)),I.laid kp (Xa _) ⟨by rw[wD];exact hz,acc'.toList,c',tO hi,by simpa using hS⟩ (I.tkl' hle),rfl,q _ (I.hok.fresh (Xa _))⟩
theorem ObjOk.there {P:Program} {w:World} {H:Hp} {h:Heap} {a:Addr} {o:HO} (x:ObjOk P w H h a o):∃ob,h.get? a=some ob:=by
 cases o with
 | lst xs=>obtain⟨_,_,_,_,e⟩:=x;exact⟨_,e⟩
 | tup xs=>obtain⟨_,_,_,o,e,_⟩:=x;exact⟨_,e⟩
 | dK kvs=>obtain⟨_,_,_,_,o,_,_,e,_⟩:=x;exact⟨_,e⟩
 | dT ep kvs=>obtain⟨_,_,_,_,_,o,_,e,_⟩:=x;exact⟨_,e⟩
 | set S n=>obtain⟨o,_,_,_,e,_⟩:=x;exact⟨_,e⟩
 | ins C dx fs=>obtain⟨_,_,_,e,_⟩:=x;exact⟨_,e⟩
 | own y=>exact x
 | xd fs=>obtain⟨_,⟨_,_,_,e,_⟩,_⟩:=x;exact⟨_,e⟩
 | rng lo hi=>obtain⟨_,_,_,e⟩:=x;exact⟨_,e⟩
 | frz ob u=>obtain⟨e,_⟩:=x;exact⟨_,e⟩
 | tbl ps=>exact⟨_,x⟩
 | met f y=>exact⟨_,x⟩
 | ext φ=>obtain⟨_,e,_⟩:=x;exact e
theorem Inv.laid2 {pins:List (Addr×Obj)} {σ:St} {H:Hp} {s:Shared} {h':Heap} {a:Addr} {o:HO} {t':Nat} (I:Inv X pins σ H s) (k:∀b u,s.heap.get? b=some u->h'.get? b=some u) (hne:∀b u,s.heap.get? b=some u->b≠a) (hn:H a=none) (new:ObjOk X.prog X.w (upd H a o) h' a o) (ht:0<t':=by first|assumption|exact Zh _|exact Inv.tk (by assumption)|exact Inv.tkl (by assumption) (by assumption)|lia) :
  Inv X pins σ (upd H a o) { s with heap:=h',toks:=t' }:=by
 refine I.un ⟨fun b u e _ _ _=>k b u e,fun b u e _ _ _=>⟨u.slots,k b u e⟩,fun b u e n _=>by rw[aN (hne b u e)];exact n,fun b u e _=>⟨u,k b u e⟩,fun b xs e=>by rw[aN (bz e hn)];exact e,fun b u v e=>by rw[aN (bz e hn)];exact e,fun b ps e=>⟨#[],by rw[aN (bz e hn),e];simp⟩⟩ ?_
 intro b u e;by_cases hb:b=a
 ·subst hb;rw[bx]at e;cases e;exact new
 ·rw[aN hb]at e;exact(I.hok b u e).stay (fun c v _ q=>k c v q) (fun c q=>by rw[aN (bz q hn)];exact q) fun c xs q=>by rw[aN (bz q hn)];exact q
theorem nj (hc:X.calm=true):CallR X (.type "tuple") (fun xs H Q=>∃z:Str,xs=[.str z]/\z.cps.size<=sizeLine/\∀l,H l=none->Q (.ref l) (upd H l (.tup (sgn z)))):=by
 intro pins s σ H xs us Q I rv h;obtain⟨z,rfl,hz,q⟩:=h;obtain⟨u,rfl,ru⟩:=vals1 rv;obtain⟨t,rfl⟩:=ru;refine bV (call_tuple_str (I.ok.hd hc) z t (fun h' tk acc kp hi hle=>?_) hz);have hne:∀b u,s.heap.get? b=some u->b≠h'.objs.size:=fun b u e z=>absurd (Aj (kp b u e)) (by rw[z];exact Wi _)
 have hn:H h'.objs.size=none:=by
  cases e:H h'.objs.size with
  | none=>rfl
  | some o =>
   obtain⟨ob,eo⟩:=(I.hok _ _ e).there;exact absurd rfl (hne _ _ eo)
 refine⟨.ref h'.objs.size,upd H h'.objs.size (.tup (sgn z)),I.laid2 (fun b u e=>Ac _ (kp b u e)) hne hn ⟨by rw[wD];exact hz,acc.toList,tO hi,⟨_,Ah _ rfl,rfl,0,by simp⟩⟩ (I.tkl' hle),rfl,q _ hn⟩
theorem Ki:SlR X (fun x lo hi H Q=>∃z:Str,x=.str z/\z.length<=sizeLine/\Q (.str (Txt.slice z lo hi)) H):=by
 intro pins s σ H x v vl vu lo hi sl Q I rx hs pl pu h;obtain⟨z,rfl,hz,q⟩:=h;obtain⟨t,rfl⟩:=rx;refine⟨"str",_,F.slot_str_getitem.lookup,Ch _ _ _,?_⟩;have fin:∀(o p:Option Int),lo=o->hi=p->∀t' k,s.toks<=k->EP X pins σ Q (.str (Txt.slice z o p) t') { s with toks:=k }:=fun o p e1 e2 t' k hle=>⟨.str _,H,I.tok k (I.tkl' hle),⟨t',rfl⟩,by rw[← e1,← e2];exact q⟩
 refine bV ?_;cases pl with
 | none =>
  cases pu with
  | none=>exact Bg (l:=none) (u:=none) (st:=none) hs rfl (B1 ⟨Qd (CC z _ _) hz,fun t' k=>fin _ _ rfl rfl t' k⟩)
  | int j uj=>exact Bg (l:=none) (u:=some (j,uj)) (st:=none) hs rfl (B1 ⟨Qd (CC z _ _) hz,fun t' k=>fin _ _ rfl rfl t' k⟩)
 | int i ui =>
  cases pu with
  | none=>exact Bg (l:=some (i,ui)) (u:=none) (st:=none) hs rfl (B1 ⟨Qd (CC z _ _) hz,fun t' k=>fin _ _ rfl rfl t' k⟩)
  | int j uj=>exact Bg (l:=some (i,ui)) (u:=some (j,uj)) (st:=none) hs rfl (B1 ⟨Qd (CC z _ _) hz,fun t' k=>fin _ _ rfl rfl t' k⟩)
theorem mC {α:Type}:∀l:List α,(List.range l.length).filterMap (fun k=>l[k]?)=l
 | []=>rfl
 | x::r=>by
  rw[Vd,Dz,Xn,Co];show x::List.filterMap (fun k=>(x::r)[k+1]?) _=_;have e:(fun k=>(x::r)[k+1]?)=fun k=>r[k]?:=by funext k;simp
  rw[e,mC r]
theorem gJ {α β:Type} {f g:α->Option β}:∀{l:List α},(∀a∈l,f a=g a)->l.filterMap f=l.filterMap g
 | [],_=>rfl
 | a::r,h=>by
  rw[Xn,Xn,h a Qa,gJ fun b hb=>h b (Va _ hb)]
theorem DX (its:List Value):slicePick its.toArray none none (some (-1))=its.reverse.toArray:=by
 unfold slicePick;have e:sliceBounds none none (some (-1)) its.toArray.size=((its.length:Int)-1,-1,-1):=by
  unfold sliceBounds;simp
 rw[e];have r:sliceRange ((its.length:Int)-1) (-1) (-1)=(List.range its.length).map fun k=>its.length-1-k:=by
  unfold sliceRange;have hc:(if (-1:Int) > 0 then(if ((its.length:Int)-1) < -1 then(-1-((its.length:Int)-1)+-1-1) / -1 else 0) else(if ((its.length:Int)-1) > -1 then(((its.length:Int)-1) - -1 - -1-1) / (- -1) else 0))=(its.length:Int):=by
   rw[Ai (by decide)]
   rw[show(- -1:Int)=1 from rfl,DF];split<;>lia
  simp only[hc,Zn];refine Xj fun k hk=>?_;have:=Vg.mp hk;lia
 show((sliceRange ((its.length:Int)-1) (-1) (-1)).filterMap fun i=>its.toArray[i]?).toArray=_;rw[r,Co];congr 1;refine Eq.trans (gJ (g:=fun k=>its.reverse[k]?) fun k hk=>?_) ?_
 ·have hk':=Vg.mp hk;show its.toArray[its.length-1-k]?=_;rw[B2 hk'];simp
 ·have:=mC its.reverse;rw[Vj]at this;exact this
def IM (K:PySem.W.Frag) (te:TE):TE:=fun σ H Q=>te σ H fun x H1=>∃a xs,x=.ref a/\gj K H1 a xs/\∀p,H1 p=none->Q (.ref p) (upd H1 p (.lst xs.reverse))
theorem Kj {e:Expr} {te:TE} {j:Nat} {p1 p2 p3 pos:Pos} (he:PE X e te):PE X (.Subscript e (.Slice none none (some (.UnaryOp .USub (.Constant (.int 1) j p1) p2)) p3) pos) (IM X.K te):=by
 intro pins s σ H Q I h;refine Cj (cT (he pins s σ H _ I h) fun v s1 zz9=>?_);obtain⟨x,H1,I1,r1,q1⟩:=zz9;obtain⟨a,xs,rfl,hx,q⟩:=q1;cases r1;refine wpAny_Slice ?_;rw[Cc];refine Ab ?_;refine Ab ?_;rw[evalPart_some];refine UnaryOp_ (Cg (neg_int ?_));have I2:=I1.tok (s1.toks+1+1);have I4:=I2.kept (t':=s1.toks+1+1) (h':=s1.heap.push { cls:=.type "slice",data:=.fields #[.none,.none,.int (-1) (s1.toks+1)] }) fun b ob q=>Ac _ q;obtain⟨its,r,ht,hz⟩:=I4.list hx;have hlen:=r.length;refine tail_any (ops:=[.ref a,.ref s1.heap.objs.size]) ht.isList.typeIs slot_list_getitem.lookup ?_ (by with_unfolding_all rfl)
 refine wpAny_getItem_list_slice ht.isList (Heap.IsSliceOf.new ..) .none .none (.int (-1) _) (by simp) ?_ (by rw[Zc]<;>lia)
 rw[DX];refine⟨.ref _,_,I4.laid (t':=s1.toks+1+1) (o:=.lst xs.reverse) (fun b ob q=>Ac _ q) (Xa _) ?_,rfl,q _ (I4.hok.fresh (Xa _))⟩;exact⟨by rw[Vj];exact hz,_,0,r.reverse,Ah _ rfl⟩
end
end L2
namespace L2
open PySem PySem.Spec PyProof.Rows
structure Cal (P:Program) (w:World) (K:PySem.W.Frag) (mg:Str->Option Value) (base:Heap) (x:Str) (k:Nat) (ps:List Str) (sp:Sp):Prop where
 ex:∃f fd,FnOk P w K mg base wA k f fd ps sp/\mg x=some (.ref f)/\PySem.W.keepIn K (.ref f)=true/\Binds K fd ps []
def yK (sp:Sp) (t:TA):TE:=fun σ H Q=>t σ H fun vs H1=>sp vs H1 Q E0
section
variable {X:Cx}
theorem aJ (C:Cal X.prog X.w X.K X.mg X.base x k ps sp) (hr:Room k' X.A) (hg:Gl X x) (ha:PA X (e::es) t) (hk:k<=k':=by decide)
  (hdb:(x == ("__debug__":Str))=false:=by decide) (he:starEach (e::es) X.env=(false,eval e X.env)::starEach es X.env:=by rfl) (hpl:(backTo pos (starEach es X.env)).any (·.1)=false:=by rfl) :
  PE X (.Call (.Name x p) (e::es) [] pos) (yK sp t):=by
 obtain⟨f,fd,F,hm,hkp,hb⟩:=C.ex;intro pins s σ H Q I h;refine GJ F (hr.mono hk) hg hm hkp hb .nil M8 ha hdb he hpl pins s σ H Q I ?_;have e0:yK sp t=zX sp [] E0 t:=by
  funext σ H Q
  unfold yK zX;simp only[Qe]
 rw[e0]at h;exact h
def iY:Expr->Bool
 | .Starred ..=>false
 | _=>true
theorem fP (h:iY e=true):starEach (e::es) env=(false,eval e env)::starEach es env:=by
 cases e<;>first|rfl|cases h
theorem aF (ha:PE X e te) (hr:PA X es t) (h:iY e=true:=by rfl):PA X (e::es) (dL te t):=nO ha hr (fP h)
def strsOf:List Expr->Option (List Str)
 | []=>some []
 | .Constant (.str x) _ _::r=>(strsOf r).map (x::·)
 | _=>none
def IN (xs:List Str):TA:=fun _ H Q=>Q (xs.map V.str) H
theorem rq:∀{es:List Expr} {xs:List Str},strsOf es=some xs->PA X es (IN xs)
 | [],xs,h=>by
  have e:xs=[]:=(Option.some.inj h).symm;subst e;exact fun pos pins s σ H Q I q=>ak pos pins s σ H Q I q
 | e::r,xs,h=>by
  cases e with
  | Constant c j p =>
   cases c with
   | str x =>
    have h':(strsOf r).map (x::·)=some xs:=h;obtain⟨ys,h1,h2⟩:=Vc.mp h';subst h2;intro pos pins s σ H Q I q;exact nO (cw (x:=x)) (rq h1) (fP rfl) pos pins s σ H Q I q
   | _=>cases h
  | _=>cases h
theorem bF (i:Nat) {pos' pos:Pos} (hN:X.N.Nodup) (he:PE X e te) (hi:X.N[i]?=some x:=by rfl) (hx:Loc X.env.scope x:=by first|exact Or.inl rfl|exact Or.inr rfl) (hf:X.fn x=true∨X.env.scope.names.lookup x=some .local:=by first|exact .inl rfl|exact .inr rfl|assumption)
  (hs:swapsWithSole [.Name x pos'] e pos.line X.env=pure false:=by rfl) (hw:swappedStores [.Name x pos'] e X.env=pure none:=by rfl) (h1:(assignEach [.Name x pos'] X.env).map (·.2)=[assign (.Name x pos') X.env]:=by rfl) :
  PS X (.Assign [.Name x pos'] e pos) (yq te (ou i)):=gH he (wm hN hi hx hf) hs hw h1
theorem cA (i:Nat) (hN:X.N.Nodup) (hi:X.N[i]?=some x:=by rfl) (hx:Loc X.env.scope x:=by first|exact Or.inl rfl|exact Or.inr rfl) (hf:X.fn x=true∨X.env.scope.names.lookup x=some .local:=by first|exact .inl rfl|exact .inr rfl|assumption):PG X (.Name x pos) (ou i):=wm hN hi hx hf
theorem rz (i:Nat) {pos py spos:Pos} (S:BlkScope X N k caps scope) (hc:X.calm=true) (hN:X.N.Nodup) (hi:PI X tg iter wi)
  (hg:∀C s H fp,PG (nh X N scope C s H fp) tg g) (ht:∀C s H fp,Mu (nh X N scope C s H fp) ifs tc) (he:∀C s H fp,PE (nh X N scope C s H fp) elt te)
  (hi':X.N[i]?=some y:=by rfl) (hy:Loc X.env.scope y:=by first|exact Or.inl rfl|exact Or.inr rfl)
  (hs:∀x,foldedSetIterable iter X.env x=pure x:=by intro _;rfl) (hsw:swapsWith (.ListComp elt [⟨tg,iter,ifs,0⟩] scope pos) (some (.Name y py)) spos.line X.env=pure true:=by rfl)
  (hf:X.fn y=true∨X.env.scope.names.lookup y=some .local:=by first|exact .inl rfl|exact .inr rfl|assumption) :
  PS X (.Assign [.Name y py] (.ListComp elt [⟨tg,iter,ifs,0⟩] scope pos) spos) (yq (qo k caps wi g tc te) (ou i)):=GT S hc hN hi' hy hi hg ht he hs hsw hf
end
theorem ee:bootBuiltins "list"=some (.type "list"):=by decide +kernel
theorem gp:bootBuiltins "tuple"=some (.type "tuple"):=by decide +kernel
theorem qp:bootBuiltins "str"=some (.type "str"):=by decide +kernel
theorem mD:bootBuiltins "int"=some (.type "int"):=by decide +kernel
theorem iu:bootBuiltins "bool"=some (.type "bool"):=by decide +kernel
theorem Kk {K:PySem.W.Frag} {T S:String} {b:Bool} (h:(if (Value.type T == Value.type S)=true then some true else if PySem.W.kitMeta S=true then(fastBuiltinMro T).map (·.contains (Value.type S)) else none)=some b):PySem.W.kitOne K (.type T) (.type S)=some b:=h
theorem boot_isinstance:bootBuiltins "isinstance"=some (.builtin "isinstance"):=by decide +kernel
theorem boot_all:bootBuiltins "all"=some (.builtin "all"):=by decide +kernel
def IO (osc:Scope) (ON N:List Str) (k:Nat) (caps:List Nat) (scope:Scope):Bool :=
 decide (scope.kind=.function)&&scope.names.all (fun y=>decide (y.2≠.cell))&&scope.names.all (fun y=>decide (y.2=.local->scope.names.lookup y.1=some .local)) &&
 scope.names.all (fun y=>decide (y.2=.free->(osc.names.lookup y.1=some .cell∨osc.names.lookup y.1=some .free)))&&decide (N.length=k+caps.length) &&
 (List.range caps.length).all fun j=>match caps[j]?,N[k+j]? with
  | some i,some x=>decide (ON[i]?=some x)&&decide (scope.names.lookup x=some .free)
  | _,_=>false
theorem et {X:Cx} (h:IO osc ON N k caps scope=true) (ho:X.env.scope=osc) (hN:X.N=ON):BlkScope X N k caps scope:=by
 unfold IO at h;simp only[Yh,decide_eq_true_eq,Vm]at h;obtain⟨⟨⟨⟨⟨h1,h2⟩,h3⟩,h4⟩,h5⟩,h6⟩:=h;refine⟨h1,h2,h3,fun y hy hf=>?_,h5,fun j i hj=>?_⟩
 ·show X.env.scope.names.lookup y.1=_∨X.env.scope.names.lookup y.1=_;rw[ho];exact h4 y hy hf
 ·have hlt:j<caps.length:=(Wb.mp hj).1;have q:=h6 j (Vg.mpr hlt);rw[hj]at q;cases e:N[k+j]? with
  | none=>rw[e]at q;cases q
  | some x =>
   rw[e]at q;have q':(decide (ON[i]?=some x)&&decide (scope.names.lookup x=some .free))=true:=q;simp only[Yh,decide_eq_true_eq]at q';exact⟨x,rfl,by rw[hN];exact q'.1,q'.2⟩
theorem aU (h:H p=none) (o:HO):Same H (upd H p o):=fun b u q=>by rw[aN (bz q h)];exact q
theorem Na:jR (x::r) 0=some x:=jz (j:=0) rfl
theorem vz {xs:List α} {i:Int} (h0:0<=i) (h1:i<xs.length):∃v,jR xs i=some v/\v∈xs/\xs[i.toNat]?=some v:=by
 have hk:i.toNat<xs.length:=by lia
 have ek:i=((i.toNat:Nat):Int):=by lia
 refine⟨xs[i.toNat],?_,AF hk,Za hk⟩;have q:jR xs ((i.toNat:Nat):Int)=some xs[i.toNat]:=jz (Za hk);rw[← ek]at q;exact q
end L2
namespace L2
open PySem PySem.Spec PyProof.Rows
section
variable {X:Cx}
theorem pR:M5 X "str.startswith" (fun x vs H Q=>∃(a b:Str),x=.str a/\vs=[.str b]/\Q (.bl (Txt.startswith a b)) H):=by
 intro pins s σ H x vs v us Q I rx rv h;obtain⟨a,b,rfl,rfl,q⟩:=h;obtain⟨t,rfl⟩:=rx;obtain⟨u,rfl,ru⟩:=vals1 rv;obtain⟨t',rfl⟩:=ru;exact SC.startswith ⟨.bl _,H,I,rfl,q⟩
theorem mulOk_of {x:Str} {n:Int} (h0:0<=n) (hn:n<=1000) (hx:x.length<=1000):MulOk x n:=by
 have hx':(x.length:Int)<=1000:=by lia
 have hm:(x.length:Int)*n<=1000*1000:=Int.mul_le_mul hx' hn h0 (by decide)
 have hm2:x.length*n.toNat<=1000*1000:=Nat.mul_le_mul hx (by lia)
 refine⟨?_,fun h1 _=>?_,fun h1 h2=>?_⟩
 ·rw[Ad (by lia),Ad (by lia)];rfl
 ·have:(x.length:Int)<=(2 ^ 63-1) / n:=(Int.le_ediv_iff_mul_le (by lia)).mpr (Int.le_trans hm (by decide))
  lia
 ·unfold Builtin.Str.tooLong;have:=yH (Xa 1000);exact Ad (by rw[B5];lia)
theorem vA:OpR X (binaryOp .Mult) (fun x y H Q=>∃(a:Str) (n:Int),x=.str a/\y=.int n/\MulOk a n/\Q (.str (Txt.mul a n)) H):=by
 intro pins s σ H x y v u Q I rx ry h;obtain⟨a,n,rfl,rfl,hok,q⟩:=h;obtain⟨t,rfl⟩:=rx;obtain⟨t',rfl⟩:=ry;exact bV (SB.mul hok fun t2 k hle=>⟨.str _,H,I.tok k (I.tkl' hle),⟨t2,rfl⟩,q⟩)
theorem Kl (hu:X.A.units<cLine):OpR X (compareOp .NotEq) (fun x y H Q=>∃(a b:Addr) (xs:List V),x=.ref a/\y=.ref b/\gj X.K H a xs/\gj X.K H b []/\Q (.bl (!xs.isEmpty)) H):=by
 intro pins s σ H x y v u Q I rx ry h;obtain⟨a,b,xs,rfl,rfl,ha,hb,q⟩:=h;cases rx;cases ry;obtain⟨its,r,pl,_⟩:=I.list ha;obtain⟨its2,r2,pl2,_⟩:=I.list hb;cases r2;cases xs with
 | nil =>
  cases r;exact SeqAt.RcNeAt.lists (e:=fun _=>true) pl.isList pl2.isList rfl hu (fun j h1 _=>absurd h1 (by simp)) _ _ _ _ ⟨.bl _,H,I,rfl,q⟩
 | cons x1 xr =>
  cases r;exact Dc pl.isList pl2.isList (by simp) hu _ _ _ _ ⟨.bl _,H,I,rfl,q⟩
end
theorem wE {X:Cx} {K:PySem.W.Frag} (h:X.K=K):IxR X (Ou K):=h ▸ J0
theorem lD {α:Type} [DecidableEq α]:∀(l m:List α),l.Nodup->(∀x∈l,x∈m)->l.length<=m.length
 | [],_,_,_=>Yg _
 | a::l,m,h,hs=>by
  have hm:a∈m:=hs a Qa;have h1:=Zk.mp h;have ih:=lD l (m.erase a) h1.2 fun x hx=>by
   have hne:x≠a:=fun e=>h1.1 (e ▸ hx);exact(List.mem_erase_of_ne hne).mpr (hs x (Va _ hx))
  have hl:=List.length_erase_of_mem hm;have hp:0<m.length:=List.length_pos_of_mem hm;rw[Vd];lia
end L2
namespace VX
open PySem
def yφ (C e:Addr) (dx:Option Addr) (T:Addr):Heap->Prop:=fun h=>∃vs sl,h.get? e=some ⟨.ref C,dx,.fields vs,sl⟩/\vs[1]?=some (.ref T)
def tφ (T:Addr) (fl:Value):Heap->Prop:=fun h=>∃o ts,h.get? T=some o/\o.data=.fields ts/\ts[3]?=some fl
end VX
namespace VF
open PySem L2
abbrev AS:=Addr->Prop
theorem dM {α β γ:Type} {o:Option (α×β)} {f:α×β->Option γ} {z:γ} {P:Prop} (h:o.bind f=some z) (k:∀a b,o=some (a,b)->f (a,b)=some z->P):P:=by
 obtain⟨⟨a,b⟩,e,h⟩:=Option.bind_eq_some_iff.mp h;exact k a b e h
theorem bP {α γ:Type} {o:Option α} {f:α->Option γ} {z:γ} {P:Prop} (h:o.bind f=some z) (k:∀a,o=some a->f a=some z->P):P:=by
 obtain⟨a,e,h⟩:=Option.bind_eq_some_iff.mp h;exact k a e h
theorem aL {i:Decidable c} (h:(if c then x else none)=some z):c/\x=some z:=by simp_all
abbrev U (O Z:AS):AS:=fun p=>O p∨Z p
abbrev ins (p:Addr) (O:AS):AS:=fun b=>b=p∨O b
inductive D where
 | non|bl (b:Bool)|int (i:Int)|str (x:Str)|tup (ds:List D)|lst (ds:List D)|fl (ds:List D)|ty (n:String)|dk (kvs:List (Key×D))|dt (kvs:List (bA×D))|xc (c n:Str) (x:Option Str)
def oV:Option Str->V
 | none=>.non
 | some x=>.str x
def Fd (Y:AS) (H:Hp) (dx:Option Addr) (n:Str) (v:V):Prop:=(n=""/\dx=none)∨∃d,dx=some d/\¬ Y d/\H d=some (.xd [(n,v)])
def XO (K:PySem.W.Frag) (Y:AS) (H:Hp) (a:Addr) (c n:Str) (x:Option Str):Prop:=∃C dx T,PySem.W.nsIn K mainGlobals c=some (some (.ref C))/\T≠a/\(¬ Y a/\¬ Y T)/\H a=some (.ext (VX.yφ C a dx T))/\Fd Y H dx n (oV x)/\H T=some (.ext (VX.tφ T .none))
theorem Fd.go (h:Fd Y H dx n v) (k:∀b o,H b=some o->¬ Y b->H' b=some o) (m:∀b,Y' b->Y b∨H b=none):Fd Y' H' dx n v:=by
 rcases h with h|⟨d,e,ny,h⟩
 ·exact .inl h
 ·refine .inr ⟨d,e,fun z=>?_,k _ _ h ny⟩;rcases m d z with w|w
  ·exact ny w
  ·rw[h]at w;cases w
theorem XO.go (h:XO K Y H a c n x) (k:∀b o,H b=some o->¬ Y b->H' b=some o) (m:∀b,Y' b->Y b∨H b=none):XO K Y' H' a c n x:=by
 obtain⟨C,dx,T,h1,h2,⟨q1,q3⟩,h4,h5,h6⟩:=h;refine⟨C,dx,T,h1,h2,⟨fun z=>?_,fun z=>?_⟩,k _ _ h4 q1,h5.go k m,k _ _ h6 q3⟩
 ·rcases m a z with w|w
  ·exact q1 w
  ·rw[h4]at w;cases w
 ·rcases m T z with w|w
  ·exact q3 w
  ·rw[h6]at w;cases w
def TupA (K:PySem.W.Frag) (Y:AS) (H:Hp) (a:Addr) (vs:List V):Prop:=H a=some (.tup vs)/\¬ Y a
def LstA (K:PySem.W.Frag) (Y:AS) (H:Hp) (a:Addr) (vs:List V):Prop:=(Rd H a (.lst vs)/\¬ Y a)∨∀H',gj K H' a vs
theorem TupA.sq (h:TupA K Y H a vs):jP K H a vs:=.inl (.inl h.1)
theorem LstA.sq (h:LstA K Y H a vs):gj K H a vs:=by
 rcases h with h|h
 ·exact .inl h.1
 ·exact h H
def KA (Y:AS) (H:Hp) (as:List Addr):Prop:=∀b∈as,(¬ Y b/\H b≠none)/\∀xs,H b=some (.tup xs)->∀c,V.ref c∈xs->¬ Y c/\H c≠none
theorem KA.go (h:KA Y H as) (k:∀b o,H b=some o->¬ Y b->H' b=some o) (n:∀b,Y' b->Y b∨H b=none):KA Y' H' as:=fun b hb=>by
 obtain⟨⟨h1,h2⟩,h3⟩:=h b hb;have one:∀b,¬ Y b->H b≠none->¬ Y' b/\H' b≠none:=fun b h1 h2=>by
  refine⟨fun z=>(n b z).elim h1 h2,?_⟩;cases e:H b with
  | none=>exact absurd e h2
  | some o=>rw[k b o e h1];simp
 refine⟨one b h1 h2,fun xs e c hc=>?_⟩;cases e':H b with
 | none=>exact absurd e' h2
 | some o =>
  rw[k b o e' h1]at e;cases e;obtain⟨g1,g2⟩:=h3 xs e' c hc;exact one c g1 g2
theorem KA.less (h:KA Y H as) (n:∀b,Y' b->Y b):KA Y' H as:=fun b hb=>⟨⟨fun z=>(h b hb).1.1 (n b z),(h b hb).1.2⟩,fun xs e c hc=>⟨fun z=>((h b hb).2 xs e c hc).1 (n c z),((h b hb).2 xs e c hc).2⟩⟩
inductive DA (K:PySem.W.Frag) (Y:AS) (H:Hp):V->D->Prop where
 | non:DA K Y H .non .non
 | bl (b:Bool):DA K Y H (.bl b) (.bl b)
 | int (i:Int):DA K Y H (.int i) (.int i)
 | str (x:Str):DA K Y H (.str x) (.str x)
 | tup {a:Addr} {vs:List V} {ds:List D}:TupA K Y H a vs->vs.length=ds.length->(∀(i:Nat) v d,vs[i]?=some v->ds[i]?=some d->DA K Y H v d)->DA K Y H (.ref a) (.tup ds)
 | ty (n:String):DA K Y H (.ty n) (.ty n)
 | lst {a:Addr} {vs:List V} {ds:List D}:¬ Y a->H a=some (.lst vs)->vs.length=ds.length->(∀(i:Nat) v d,vs[i]?=some v->ds[i]?=some d->DA K Y H v d)->DA K Y H (.ref a) (.lst ds)
 | fl {a:Addr} {vs:List V} {ds:List D}:LstA K Y H a vs->vs.length=ds.length->(∀(i:Nat) v d,vs[i]?=some v->ds[i]?=some d->DA K Y H v d)->DA K Y H (.ref a) (.fl ds)
 | dk {a:Addr} {kvs:List (Key×V)} {ds:List (Key×D)}:¬ Y a->H a=some (.dK kvs)->kvs.map (·.1)=ds.map (·.1)->(∀(i:Nat) v d,kvs[i]?=some v->ds[i]?=some d->DA K Y H v.2 d.2)->DA K Y H (.ref a) (.dk ds)
 | dt {a:Addr} {ep:Nat×List Addr} {kvs:List (bA×V)} {ds:List (bA×D)}:¬ Y a->KA Y H ep.2->H a=some (.dT ep kvs)->kvs.map (·.1)=ds.map (·.1)->(∀(i:Nat) v d,kvs[i]?=some v->ds[i]?=some d->DA K Y H v.2 d.2)->DA K Y H (.ref a) (.dt ds)
 | xc {a:Addr} {c n:Str} {x:Option Str}:XO K Y H a c n x->DA K Y H (.ref a) (.xc c n x)
def El (K:PySem.W.Frag) (Y:AS) (H:Hp) (vs:List V) (ds:List D):Prop:=vs.length=ds.length/\∀(i:Nat) v d,vs[i]?=some v->ds[i]?=some d->DA K Y H v d
def Lv (H:Hp) (p:Addr):Prop:=H p≠none/\∀vs,H p≠some (.tup vs)
theorem Lv.same (h:Lv H p) (s:∀o,H p=some o->H' p=some o):Lv H' p:=by
 cases e:H p with
 | none=>exact absurd e h.1
 | some o =>
  refine⟨by rw[s o e];simp,fun vs z=>h.2 vs ?_⟩
  rw[s o e]at z;rw[e];exact z
structure Ext (O:AS) (H:Hp) (O':AS) (H':Hp):Prop where
 kp:∀b o,H b=some o->¬ O b->H' b=some o
 nw:∀b,O' b->O b∨H b=none
 al:∀b,H b≠none->H' b≠none
 lv:∀b,Lv H b->Lv H' b
section
variable {K:PySem.W.Frag} {Y Y' O O' O1 O2 Z:AS} {H H' H1 H2:Hp} {v:V} {d:D} {vs:List V} {ds:List D} {a p:Addr}
theorem Ext.refl (O:AS) (H:Hp):Ext O H O H:=⟨fun _ _ h _=>h,fun _ h=>.inl h,fun _ h=>h,fun _ h=>h⟩
theorem Ext.trans (a:Ext O H O1 H1) (b:Ext O1 H1 O2 H2):Ext O H O2 H2:=by
 refine⟨fun c o h n=>b.kp c o (a.kp c o h n) fun z=>?_,fun c h=>?_,fun c h=>b.al c (a.al c h),fun c h=>b.lv c (a.lv c h)⟩
 ·rcases a.nw c z with q|q
  ·exact n q
  ·rw[h]at q;cases q
 ·rcases b.nw c h with q|q
  ·exact a.nw c q
  ·right;cases e:H c with
   | none=>rfl
   | some o=>exact absurd q (a.al c (by rw[e];simp))
theorem Same.ext (h:Same H H'):Ext O H O H':=⟨fun b o e _=>h b o e,fun _ z=>.inl z,fun b z=>by
 cases e:H b with
 | none=>exact absurd e z
 | some o=>rw[h b o e];simp,fun b z=>z.same fun o e=>h b o e⟩
theorem Rd.keep (r:Rd H a u) (k:∀o,H a=some o->H' a=some o):Rd H' a u:=by
 rcases r with r|⟨o,r⟩
 ·exact .inl (k _ r)
 ·exact .inr ⟨o,k _ r⟩
theorem Rd.live (r:Rd H a u):H a≠none:=by
 rcases r with r|⟨o,r⟩<;>(rw[r];simp)
theorem TupA.go (h:TupA K Y H a vs) (k:∀b o,H b=some o->¬ Y b->H' b=some o) (n:∀b,Y' b->Y b∨H b=none):TupA K Y' H' a vs:=by grind [TupA]
theorem LstA.go (h:LstA K Y H a vs) (k:∀b o,H b=some o->¬ Y b->H' b=some o) (n:∀b,Y' b->Y b∨H b=none):LstA K Y' H' a vs:=by
 rcases h with⟨h1,h2⟩|h
 ·refine .inl ⟨Rd.keep h1 fun o e=>k a o e h2,fun z=>?_⟩;rcases n a z with q|q
  ·exact h2 q
  ·exact Rd.live h1 q
 ·exact .inr h
theorem DA.go (h:DA K Y H v d) (k:∀b o,H b=some o->¬ Y b->H' b=some o) (n:∀b,Y' b->Y b∨H b=none):DA K Y' H' v d:=by
 have no:∀a u,H a=some u->¬ Y a->¬ Y' a:=fun a u e ny z=>by
  rcases n a z with q|q
  ·exact ny q
  ·rw[e]at q;cases q
 induction h with
 | non=>exact .non
 | bl b=>exact .bl b
 | int i=>exact .int i
 | str x=>exact .str x
 | tup h1 h2 _ ih=>exact .tup (h1.go k n) h2 ih
 | ty n=>exact .ty n
 | lst h0 h1 h2 _ ih=>exact .lst (no _ _ h1 h0) (k _ _ h1 h0) h2 ih
 | fl h1 h2 _ ih=>exact .fl (h1.go k n) h2 ih
 | dk h0 h1 h2 _ ih=>exact .dk (no _ _ h1 h0) (k _ _ h1 h0) h2 ih
 | dt h0 ka h1 h2 _ ih=>exact .dt (no _ _ h1 h0) (ka.go k n) (k _ _ h1 h0) h2 ih
 | xc h=>exact .xc (h.go k n)
theorem DA.ext (h:DA K (U O Z) H v d) (e:Ext O H O' H'):DA K (U O' Z) H' v d :=
 h.go (fun b o q n=>e.kp b o q fun z=>n (.inl z)) fun b z=>z.elim (fun q=>(e.nw b q).elim (fun x=>.inl (.inl x)) .inr) fun q=>.inl (.inr q)
theorem DA.less (h:DA K Y H v d) (n:∀b,Y' b->Y b):DA K Y' H v d:=h.go (fun _ _ e _=>e) fun b z=>.inl (n b z)
theorem DA.same (h:DA K Y H v d) (s:Same H H'):DA K Y H' v d:=h.go (fun b o e _=>s b o e) fun _ z=>.inl z
theorem DA.away (h:DA K Y H v d) (s:Same H H') (hp:H p=none):DA K (ins p Y) H' v d:=h.go (fun b o e _=>s b o e) fun b z=>z.elim (fun q=>.inr (q ▸ hp)) .inl
theorem El.go (h:El K Y H vs ds) (k:∀b o,H b=some o->¬ Y b->H' b=some o) (n:∀b,Y' b->Y b∨H b=none):El K Y' H' vs ds:=⟨h.1,fun i v d a b=>(h.2 i v d a b).go k n⟩
theorem El.ext (h:El K (U O Z) H vs ds) (e:Ext O H O' H'):El K (U O' Z) H' vs ds:=⟨h.1,fun i v d a b=>(h.2 i v d a b).ext e⟩
theorem El.less (h:El K Y H vs ds) (n:∀b,Y' b->Y b):El K Y' H vs ds:=⟨h.1,fun i v d a b=>(h.2 i v d a b).less n⟩
theorem El.same (h:El K Y H vs ds) (s:Same H H'):El K Y H' vs ds:=⟨h.1,fun i v d a b=>(h.2 i v d a b).same s⟩
theorem El.away (h:El K Y H vs ds) (s:Same H H') (hp:H p=none):El K (ins p Y) H' vs ds:=⟨h.1,fun i v d a b=>(h.2 i v d a b).away s hp⟩
theorem El.nil:El K Y H [] []:=⟨rfl,fun i v d h=>by simp at h⟩
theorem El.cons (h:DA K Y H v d) (r:El K Y H vs ds):El K Y H (v::vs) (d::ds):=by grind [El]
theorem El.uncons (h:El K Y H vs (d::ds)):∃v r,vs=v::r/\DA K Y H v d/\El K Y H r ds:=by
 cases vs with
 | nil=>have:=h.1;simp at this
 | cons v r =>
  refine⟨v,r,rfl,h.2 0 v d rfl rfl,?_,fun i v' d' h1 h2=>h.2 (i+1) v' d' (by simpa using h1) (by simpa using h2)⟩
  have:=h.1;simpa using this
theorem El.unnil (h:El K Y H vs []):vs=[]:=by
 have:=h.1;simpa using this
theorem El.app (h:El K Y H vs ds) (r:El K Y H ws es):El K Y H (vs++ws) (ds++es):=by grind [El]
theorem El.at (h:El K Y H vs ds) {i:Nat} {d:D} (e:ds[i]?=some d):∃v,vs[i]?=some v/\DA K Y H v d:=by
 have hi:i<ds.length:=(Wb.mp e).1;have hv:i<vs.length:=by rw[h.1];exact hi
 exact⟨vs[i],Za hv,h.2 i _ d (Za hv) e⟩
theorem El.one (h:DA K Y H v d):El K Y H [v] [d]:=El.cons h El.nil
theorem El.rev (h:El K Y H vs ds):El K Y H vs.reverse ds.reverse:=by grind [El]
theorem El.take (h:El K Y H vs ds) (n:Nat):El K Y H (vs.take n) (ds.take n):=by grind [El]
theorem El.drop (h:El K Y H vs ds) (n:Nat):El K Y H (vs.drop n) (ds.drop n):=by
 refine⟨by simp[h.1],fun i v d h1 h2=>?_⟩
 rw[Qf]at h1 h2;exact h.2 _ v d h1 h2
theorem El.set (h:El K Y H vs ds) (hv:DA K Y H v d) (j:Nat):El K Y H (vs.set j v) (ds.set j d):=by grind [El]
def OA (K:PySem.W.Frag) (Y:AS) (H:Hp) (p:Addr):D->Prop
 | .lst ds=>∃vs,H p=some (.lst vs)/\El K Y H vs ds
 | .dk ds=>∃kvs,H p=some (.dK kvs)/\kvs.map (·.1)=ds.map (·.1)/\∀(i:Nat) v d,kvs[i]?=some v->ds[i]?=some d->DA K Y H v.2 d.2
 | .dt ds=>∃ep kvs,KA Y H ep.2/\H p=some (.dT ep kvs)/\kvs.map (·.1)=ds.map (·.1)/\∀(i:Nat) v d,kvs[i]?=some v->ds[i]?=some d->DA K Y H v.2 d.2
 | _=>False
theorem OA.live (h:OA K Y H p d):H p≠none:=by
 cases d with
 | lst ds=>obtain⟨vs,e,_⟩:=h;rw[e];simp
 | dk ds=>obtain⟨vs,e,_⟩:=h;rw[e];simp
 | dt ds=>obtain⟨_,vs,_,e,_⟩:=h;rw[e];simp
 | _=>exact h.elim
theorem OA.lv (h:OA K Y H p d):Lv H p:=by
 cases d with
 | lst ds=>obtain⟨vs,e,_⟩:=h;exact⟨by rw[e];simp,fun _ z=>by rw[e]at z;cases z⟩
 | dk ds=>obtain⟨vs,e,_⟩:=h;exact⟨by rw[e];simp,fun _ z=>by rw[e]at z;cases z⟩
 | dt ds=>obtain⟨_,vs,_,e,_⟩:=h;exact⟨by rw[e];simp,fun _ z=>by rw[e]at z;cases z⟩
 | _=>exact h.elim
theorem OA.go (h:OA K Y H p d) (hp:H' p=H p) (k:∀b o,H b=some o->¬ Y b->H' b=some o) (n:∀b,Y' b->Y b∨H b=none):OA K Y' H' p d:=by
 cases d with
 | lst ds=>obtain⟨vs,e,q⟩:=h;exact⟨vs,hp.trans e,q.go k n⟩
 | dk ds=>obtain⟨vs,e,q1,q2⟩:=h;exact⟨vs,hp.trans e,q1,fun i v d a b=>(q2 i v d a b).go k n⟩
 | dt ds=>obtain⟨ep,vs,ka,e,q1,q2⟩:=h;exact⟨ep,vs,ka.go k n,hp.trans e,q1,fun i v d a b=>(q2 i v d a b).go k n⟩
 | _=>exact h.elim
theorem OA.da (h:OA K Y H p d) (hp:¬ Y' p) (n:∀b,Y' b->Y b):DA K Y' H (.ref p) d:=by
 cases d with
 | lst ds=>obtain⟨vs,e,q⟩:=h;exact .lst hp e q.1 (q.less n).2
 | dk ds=>obtain⟨vs,e,q1,q2⟩:=h;exact .dk hp e q1 fun i v d a b=>(q2 i v d a b).less n
 | dt ds=>obtain⟨ep,vs,ka,e,q1,q2⟩:=h;exact .dt hp (ka.less n) e q1 fun i v d a b=>(q2 i v d a b).less n
 | _=>exact h.elim
def BA (K:PySem.W.Frag) (Y:AS) (H:Hp) (v:V):D->Prop
 | .non=>v=.non
 | .bl b=>v=.bl b
 | .int i=>v=.int i
 | .str x=>v=.str x
 | .tup ds=>∃a vs,v=.ref a/\TupA K Y H a vs/\El K Y H vs ds
 | .ty n=>v=.ty n
 | .lst ds=>∃a vs,v=.ref a/\H a=some (.lst vs)/\El K Y H vs ds
 | .fl ds=>∃a vs,v=.ref a/\LstA K Y H a vs/\El K Y H vs ds
 | .dk ds=>∃a kvs,v=.ref a/\H a=some (.dK kvs)/\kvs.map (·.1)=ds.map (·.1)/\∀(i:Nat) v d,kvs[i]?=some v->ds[i]?=some d->DA K Y H v.2 d.2
 | .dt ds=>∃a ep kvs,v=.ref a/\KA Y H ep.2/\H a=some (.dT ep kvs)/\kvs.map (·.1)=ds.map (·.1)/\∀(i:Nat) v d,kvs[i]?=some v->ds[i]?=some d->DA K Y H v.2 d.2
 | .xc c n x=>∃a,v=.ref a/\XO K Y H a c n x
theorem DA.ba (h:DA K Y H v d):BA K Y H v d:=by
 cases h with
 | non=>rfl
 | bl b=>rfl
 | int i=>rfl
 | str x=>rfl
 | tup h1 h2 h3=>exact⟨_,_,rfl,h1,h2,h3⟩
 | ty n=>rfl
 | lst h0 h1 h2 h3=>exact⟨_,_,rfl,h1,h2,h3⟩
 | fl h1 h2 h3=>exact⟨_,_,rfl,h1,h2,h3⟩
 | dk h0 h1 h2 h3=>exact⟨_,_,rfl,h1,h2,h3⟩
 | dt h0 ka h1 h2 h3=>exact⟨_,_,_,rfl,ka,h1,h2,h3⟩
 | xc h=>exact⟨_,rfl,h⟩
theorem OA.ba (h:OA K Y H p d):BA K Y H (.ref p) d:=by
 cases d with
 | lst ds=>obtain⟨vs,e,q⟩:=h;exact⟨p,vs,rfl,e,q⟩
 | dk ds=>obtain⟨vs,e,q1,q2⟩:=h;exact⟨p,vs,rfl,e,q1,q2⟩
 | dt ds=>obtain⟨ep,vs,ka,e,q1,q2⟩:=h;exact⟨p,ep,vs,rfl,ka,e,q1,q2⟩
 | _=>exact h.elim
end
end VF
namespace VF
open PySem L2
inductive Sl where
 | e|v (d:D)|o (d:D)|io (d:D)
abbrev En:=List Sl
def Sl.get:Sl->Option D
 | .e=>none
 | .v d=>some d
 | .o d=>some d
 | .io d=>some d
def Sl.ow:Sl->Option D
 | .o d=>some d
 | .io d=>some d
 | _=>none
def Sl.put (y:D):Sl->Sl
 | .io _=>.io y
 | _=>.o y
theorem Sl.put_ow (y:D) (s:Sl):(s.put y).ow=some y:=by cases s<;>rfl
theorem Sl.put_v (y z:D) (s:Sl):s.put y≠.v z:=by cases s<;>(intro e;cases e)
inductive Rs where
 | d (x:D)|f (x:D)|s (i:Nat)
structure ER (K:PySem.W.Frag) (st:En) (σ:St) (H:Hp) (O Z:AS):Prop where
 len:st.length=σ.length
 val:∀(i:Nat) d,st[i]?=some (.v d)->∃v,σ[i]?=some (some v)/\DA K (U O Z) H v d
 own:∀(i:Nat) s d,st[i]?=some s->s.ow=some d->∃p,σ[i]?=some (some (.ref p))/\O p/\OA K (U O Z) H p d
 uni:∀(i j:Nat) s t d d' p,st[i]?=some s->s.ow=some d->st[j]?=some t->t.ow=some d'->σ[i]?=some (some (.ref p))->σ[j]?=some (some (.ref p))->i=j
 dis:∀p,O p->¬ Z p
 liv:∀p,U O Z p->Lv H p
structure Kp (st st':En):Prop where
 len:st'.length=st.length
 has:∀(i:Nat) s,st[i]?=some s->s.get≠none->∃s',st'[i]?=some s'/\s'.get≠none
 io:∀(i:Nat) d,st[i]?=some (.io d)->∃d',st'[i]?=some (.io d')
theorem Kp.refl (st:En):Kp st st:=⟨rfl,fun i s h g=>⟨s,h,g⟩,fun i d h=>⟨d,h⟩⟩
theorem Kp.trans (x:Kp a b) (y:Kp b c):Kp a c:=by
 refine⟨y.len.trans x.len,fun i s h g=>?_,fun i d h=>?_⟩
 ·obtain⟨s',h',g'⟩:=x.has i s h g;exact y.has i s' h' g'
 ·obtain⟨d',h'⟩:=x.io i d h;exact y.io i d' h'
def RVal (K:PySem.W.Frag) (Z:AS) (st:En) (σ:St) (H:Hp) (O:AS) (v:V):Rs->Prop
 | .d x=>DA K (U O Z) H v x
 | .f x=>∃p,v=.ref p/\¬ O p/\¬ Z p/\OA K (ins p (U O Z)) H p x/\ER K st σ H (ins p O) Z
 | .s i=>σ[i]?=some (some v)/\∃s,st[i]?=some s/\s.get≠none
def cont (st:En):Rs->Option D
 | .d x=>some x
 | .f x=>some x
 | .s i=>(st[i]?).bind Sl.get
def Rs.nf:Rs->Rs
 | .f x=>.d x
 | r=>r
section
variable {K:PySem.W.Frag} {Y Y' O O' O1 O2 Z:AS} {H H' H1 H2:Hp} {v:V} {d:D} {vs:List V} {ds:List D} {a p:Addr} {st st' st1 st2:En} {σ σ':St}
theorem jB (st:En) (r:Rs):cont st r.nf=cont st r:=by cases r<;>rfl
theorem RVal.nf {r:Rs} (h:RVal K Z st σ H O v r):RVal K Z st σ H O v r.nf:=by
 cases r with
 | d x=>exact h
 | s i=>exact h
 | f x =>
  obtain⟨p,rfl,h1,h2,h3,_⟩:=h;exact h3.da (fun z=>z.elim h1 h2) fun b z=>.inr z
theorem RVal.ba (h:RVal K Z st σ H O v r) (E:ER K st σ H O Z) (c:cont st r=some d):BA K (U O Z) H v d:=by
 cases r with
 | d x=>cases c;exact DA.ba h
 | f x =>
  cases c;have:=RVal.nf h;exact DA.ba (show DA K (U O Z) H v _ from this)
 | s i =>
  obtain⟨h1,s,h2,h3⟩:=h;have c':(st[i]?).bind Sl.get=some d:=c;rw[h2]at c';cases s with
  | e=>cases c'
  | v x =>
   cases c';obtain⟨u,g1,g2⟩:=E.val i _ h2;rw[h1]at g1;cases g1;exact g2.ba
  | o x =>
   cases c';obtain⟨p,g1,g2,g3⟩:=E.own i _ _ h2 rfl;rw[h1]at g1;cases g1;exact g3.ba
  | io x =>
   cases c';obtain⟨p,g1,g2,g3⟩:=E.own i _ _ h2 rfl;rw[h1]at g1;cases g1;exact g3.ba
theorem RVal.ext {r:Rs} (h:RVal K Z st σ H O v r.nf) (e:Ext O H O' H') (k:Kp st st'):RVal K Z st' σ H' O' v r.nf:=by
 cases r with
 | d x=>exact DA.ext (show DA K (U O Z) H v x from h) e
 | f x=>exact DA.ext (show DA K (U O Z) H v x from h) e
 | s i =>
  obtain⟨h1,s,h2,h3⟩:=h;exact⟨h1,k.has i s h2 h3⟩
theorem ER.same (E:ER K st σ H O Z) (s:Same H H'):ER K st σ H' O Z:=by
 refine⟨E.len,fun i d h=>?_,fun i s' d h1 h2=>?_,E.uni,E.dis,fun p hp=>?_⟩
 ·obtain⟨v,h1,h2⟩:=E.val i d h;exact⟨v,h1,h2.same s⟩
 ·obtain⟨p,g1,g2,g3⟩:=E.own i s' d h1 h2;refine⟨p,g1,g2,g3.go ?_ (fun b o e _=>s b o e) fun b z=>.inl z⟩;cases e:H p with
  | none=>exact absurd e g3.live
  | some o=>exact s p o e
 ·exact(E.liv p hp).same fun o e=>s p o e
theorem ER.away (E:ER K st σ H O Z) (s:Same H H') (hp:H p=none) (hp':Lv H' p):ER K st σ H' (ins p O) Z:=by
 have sub:∀b,U (ins p O) Z b->ins p (U O Z) b:=fun b z=>by
  rcases z with(z|z)|z
  ·exact .inl z
  ·exact .inr (.inl z)
  ·exact .inr (.inr z)
 refine⟨E.len,fun i d h=>?_,fun i s' d h1 h2=>?_,E.uni,fun q hq=>?_,fun q hq=>?_⟩
 ·obtain⟨v,h1,h2⟩:=E.val i d h;exact⟨v,h1,(h2.away s hp).less sub⟩
 ·obtain⟨q,g1,g2,g3⟩:=E.own i s' d h1 h2;refine⟨q,g1,.inr g2,g3.go ?_ (fun b o e _=>s b o e) fun b z=>?_⟩
  ·cases e:H q with
   | none=>exact absurd e g3.live
   | some o=>exact s q o e
  ·rcases sub b z with z|z
   ·exact .inr (z ▸ hp)
   ·exact .inl z
 ·rcases hq with rfl|hq
  ·exact fun z=>(E.liv _ (.inr z)).1 hp
  ·exact E.dis q hq
 ·rcases hq with(rfl|hq)|hq
  ·exact hp'
  ·exact(E.same s).liv q (.inl hq)
  ·exact(E.same s).liv q (.inr hq)
theorem ER.free (E:ER K st σ H O Z) (hp:H p=none):¬ O p/\¬ Z p:=⟨fun z=>(E.liv p (.inl z)).1 hp,fun z=>(E.liv p (.inr z)).1 hp⟩
theorem ER.new (E:ER K st σ H O Z) (hp:H p=none) (el:El K (U O Z) H vs ds):ER K st σ (upd H p (.lst vs)) O Z/\RVal K Z st σ (upd H p (.lst vs)) O (.ref p) (.f (.lst ds)):=by
 have s:=aU hp (.lst vs);have hf:=E.free hp;refine⟨E.same s,p,rfl,hf.1,hf.2,⟨vs,bx,el.away s hp⟩,E.away s hp ⟨by rw[bx];simp,fun _ z=>by rw[bx]at z;cases z⟩⟩
theorem ER.newT (E:ER K st σ H O Z) (hp:H p=none) (el:El K (U O Z) H vs ds):ER K st σ (upd H p (.tup vs)) O Z/\RVal K Z st σ (upd H p (.tup vs)) O (.ref p) (.d (.tup ds)):=by
 have s:=aU hp (.tup vs);have hf:=E.free hp;exact⟨E.same s,.tup ⟨bx,fun z=>z.elim hf.1 hf.2⟩ el.1 (el.same s).2⟩
def yL (st:En) (i:Nat):Option En:=match st[i]? with
 | some (.v _)=>some st
 | some (.o d)=>some (st.set i (.v d))
 | _=>none
def DY (st:En):Rs->Option En
 | .s i=>yL st i
 | _=>some st
theorem aC {l:List α} (h:i≠j):(l.set i x)[j]?=l[j]?:=by rw[Bk,Ai h]
theorem aT {l:List α} (h:l[i]?=some y):(l.set i x)[i]?=some x:=by
 have hi:=(Wb.mp h).1;rw[Bk,Ae rfl,Ae hi]
theorem GV (h:yL st i=some st'):Kp st st'/\∃d,st'[i]?=some (.v d)/\(st[i]?).bind Sl.get=some d:=by
 unfold yL at h;split at h
 ·rename_i d e
  cases h;exact⟨Kp.refl st,d,e,by rw[e];rfl⟩
 ·rename_i d e
  cases h;refine⟨⟨by simp,fun j s hj g=>?_,fun j d' hj=>?_⟩,d,aT e,by rw[e];rfl⟩
  ·by_cases q:i=j
   ·subst q;exact⟨.v d,aT e,by simp[Sl.get]⟩
   ·exact⟨s,by rw[aC q];exact hj,g⟩
  ·have q:i≠j:=fun z=>by subst z;rw[e]at hj;cases hj
   exact⟨d',by rw[aC q];exact hj⟩
 ·cases h
theorem ER.frz (E:ER K st σ H O Z) (h:yL st i=some st'):∃O',Ext O H O' H/\ER K st' σ H O' Z/\(∀b,O' b->O b):=by
 unfold yL at h;split at h
 ·cases h;exact⟨O,Ext.refl O H,E,fun _ z=>z⟩
 ·rename_i d e
  cases h;obtain⟨p,g1,g2,g3⟩:=E.own i _ _ e rfl;have less:∀b,U (fun b=>O b/\b≠p) Z b->U O Z b:=fun b z=>z.elim (fun q=>.inl q.1) .inr;refine⟨fun b=>O b/\b≠p,⟨fun b o q _=>q,fun b z=>.inl z.1,fun b z=>z,fun b z=>z⟩,⟨by simp[E.len],fun j x hj=>?_,fun j s x hj hs=>?_,fun j k s t x y q hj hs hk ht e1 e2=>?_,fun q hq=>E.dis q hq.1,fun q hq=>E.liv q (less q hq)⟩,fun b z=>z.1⟩
  ·by_cases q:i=j
   ·subst q;rw[aT e]at hj;cases hj;exact⟨.ref p,g1,g3.da (fun z=>z.elim (fun y=>y.2 rfl) (E.dis p g2)) less⟩
   ·rw[aC q]at hj;obtain⟨v,h1,h2⟩:=E.val j x hj;exact⟨v,h1,h2.less less⟩
  ·have q:i≠j:=fun z=>by
    subst z;rw[aT e]at hj;cases hj;cases hs
   rw[aC q]at hj;obtain⟨r,h1,h2,h3⟩:=E.own j s x hj hs;refine⟨r,h1,⟨h2,fun z=>q ?_⟩,h3.go rfl (fun _ _ e _=>e) fun b z=>.inl (less b z)⟩;subst z;exact E.uni i j _ _ _ _ r e rfl hj hs g1 h1
  ·have q1:i≠j:=fun z=>by
    subst z;rw[aT e]at hj;cases hj;cases hs
   have q2:i≠k:=fun z=>by
    subst z;rw[aT e]at hk;cases hk;cases ht
   rw[aC q1]at hj;rw[aC q2]at hk;exact E.uni j k s t x y q hj hs hk ht e1 e2
 ·cases h
theorem RVal.frz (h:RVal K Z st σ H O v r) (E:ER K st σ H O Z) (f:DY st r=some st') (c:cont st r=some d):∃O',Ext O H O' H/\Kp st st'/\ER K st' σ H O' Z/\DA K (U O' Z) H v d:=by
 cases r with
 | d x=>cases f;cases c;exact⟨O,Ext.refl O H,Kp.refl st,E,h⟩
 | f x=>cases f;cases c;exact⟨O,Ext.refl O H,Kp.refl st,E,RVal.nf h⟩
 | s i =>
  obtain⟨h1,s,h2,h3⟩:=h;have f':yL st i=some st':=f;obtain⟨k,x,k1,k2⟩:=GV f';obtain⟨O',e1,e2,_⟩:=E.frz f';have c':(st[i]?).bind Sl.get=some d:=c;have ex:x=d:=Option.some.inj (k2.symm.trans c');subst ex;obtain⟨u,g1,g2⟩:=e2.val i _ k1;rw[h1]at g1;cases g1;exact⟨O',e1,k,e2,g2⟩
theorem ER.write {s:Sl} (E:ER K st σ H O Z) (hs:st[i]?=some s) (ho:s.ow=some x) (hp:σ[i]?=some (some (.ref p))) (new:OA K (U O Z) (upd H p o) p y) :
  ER K (st.set i (s.put y)) σ (upd H p o) O Z/\Ext O H O (upd H p o)/\Kp st (st.set i (s.put y)):=by
 obtain⟨q,g1,g2,g3⟩:=E.own i s x hs ho;have eq:q=p:=by rw[hp]at g1;cases g1;rfl
 subst eq;have keep:∀b u,H b=some u->¬ U O Z b->upd H q o b=some u:=fun b u e n=>by
  have hb:b≠q:=fun z=>n (.inl (by rw[z];exact g2))
  rw[aN hb];exact e
 refine⟨⟨by simp[E.len],fun j d hj=>?_,fun j t d hj ht=>?_,fun j k t t' d d' r hj ht hk ht' e1 e2=>?_,E.dis,fun r hr=>?_⟩,⟨fun b u e n=>?_,fun b z=>.inl z,fun b z=>?_,fun b z=>?_⟩,⟨by simp,fun j t hj ht=>?_,fun j d hj=>?_⟩⟩
 ·by_cases e:i=j
  ·subst e;rw[aT hs]at hj;exact absurd (Option.some.inj hj) (Sl.put_v _ _ _)
  ·rw[aC e]at hj;obtain⟨v,h1,h2⟩:=E.val j d hj;exact⟨v,h1,h2.go keep fun b z=>.inl z⟩
 ·by_cases e:i=j
  ·subst e;rw[aT hs]at hj;have:=Option.some.inj hj;subst this;rw[Sl.put_ow]at ht;cases ht;exact⟨q,hp,g2,new⟩
  ·rw[aC e]at hj;obtain⟨r,h1,h2,h3⟩:=E.own j t d hj ht;have hne:r≠q:=fun z=>by subst z;exact e (E.uni i j s t x d r hs ho hj ht hp h1)
   exact⟨r,h1,h2,h3.go (aN hne) keep fun b z=>.inl z⟩
 ·have own':∀(m:Nat) (t:Sl) (d:D),(st.set i (s.put y))[m]?=some t->t.ow=some d->∃t2 d2,st[m]?=some t2/\t2.ow=some d2:=fun m t d hm ht=>by
   by_cases e:i=m
   ·subst e;exact⟨s,x,hs,ho⟩
   ·rw[aC e]at hm;exact⟨t,d,hm,ht⟩
  obtain⟨t1,d1,a1,b1⟩:=own' j t d hj ht;obtain⟨t2,d2,a2,b2⟩:=own' k t' d' hk ht';exact E.uni j k t1 t2 d1 d2 r a1 b1 a2 b2 e1 e2
 ·by_cases e:r=q
  ·subst e;exact new.lv
  ·exact(E.liv r hr).same fun o' eo=>by rw[aN e];exact eo
 ·have hb:b≠q:=fun z=>n (by rw[z];exact g2)
  rw[aN hb];exact e
 ·by_cases e:b=q
  ·subst e;rw[bx];simp
  ·rw[aN e];exact z
 ·by_cases e:b=q
  ·subst e;exact new.lv
  ·exact z.same fun o' eo=>by rw[aN e];exact eo
 ·by_cases e:i=j
  ·subst e;exact⟨s.put y,aT hs,by cases s<;>simp[Sl.put,Sl.get]⟩
  ·exact⟨t,by rw[aC e];exact hj,ht⟩
 ·by_cases e:i=j
  ·subst e;rw[hs]at hj;cases hj;exact⟨y,aT hs⟩
  ·exact⟨d,by rw[aC e];exact hj⟩
end
end VF
namespace VF
open PySem L2
abbrev FE:=En->Option (Rs×En)
abbrev FA:=En->Option (List Rs×En)
abbrev FT:=En->Option (Bool×En)
abbrev Rz:=D×Bool
def mk:Rz->Rs
 | (d,true)=>.f d
 | (d,false)=>.d d
def RES (K:PySem.W.Frag) (Y:AS) (H H':Hp) (v:V):Rz->Prop
 | (d,true)=>∃p,v=.ref p/\H p=none/\OA K (ins p Y) H' p d
 | (d,false)=>DA K Y H' v d
def Fsh (H:Hp) (v:V):Rs->Prop
 | .f _=>∀p,v=.ref p->H p=none
 | _=>True
theorem Ext.dead (e:Ext O H O' H') (h:H' p=none):H p=none:=by
 cases q:H p with
 | none=>rfl
 | some o=>exact absurd h (e.al p (by rw[q];simp))
theorem Fsh.back (h:Fsh H' v r) (e:Ext O H O' H'):Fsh H v r:=by
 cases r with
 | f x=>exact fun p hp=>e.dead (h p hp)
 | d x=>trivial
 | s i=>trivial
def d7 (K:PySem.W.Frag) (te:TE) (f:FE):Prop:=∀(st:En) (σ:St) (H:Hp) (O Z:AS) (Q:VK),ER K st σ H O Z->∀r st',f st=some (r,st') ->
 (∀v H' O',Ext O H O' H'->Kp st st'->ER K st' σ H' O' Z->RVal K Z st' σ H' O' v r->Fsh H v r->Q v H')->te σ H Q
inductive RVs (K:PySem.W.Frag) (Z:AS) (st:En) (σ:St) (H:Hp) (O:AS):List V->List Rs->Prop where
 | nil:RVs K Z st σ H O [] []
 | cons {v:V} {vs:List V} {r:Rs} {rs:List Rs}:RVal K Z st σ H O v r.nf->RVs K Z st σ H O vs rs->RVs K Z st σ H O (v::vs) (r::rs)
def wF (K:PySem.W.Frag) (ta:TA) (f:FA):Prop:=∀(st:En) (σ:St) (H:Hp) (O Z:AS) (Q:List V->Hp->Prop),ER K st σ H O Z->∀rs st',f st=some (rs,st') ->
 (∀vs H' O',Ext O H O' H'->Kp st st'->ER K st' σ H' O' Z->RVs K Z st' σ H' O' vs rs->Q vs H')->ta σ H Q
def vd (K:PySem.W.Frag) (tt:TT) (f:FT):Prop:=∀(st:En) (σ:St) (H:Hp) (O Z:AS) (Q:Bool->Hp->Prop),ER K st σ H O Z->∀c st',f st=some (c,st') ->
 (∀H' O',Ext O H O' H'->Kp st st'->ER K st' σ H' O' Z->Q c H')->tt σ H Q
def RdOp (K:PySem.W.Frag) (r:R2) (b:D->D->Option Rz):Prop:=∀(Y:AS) (H:Hp) (x y:V) (d1 d2:D) (z:Rz) (Q:VK),(∀p,Y p->Lv H p)->BA K Y H x d1->BA K Y H y d2->b d1 d2=some z ->
 (∀v H',Same H H'->RES K Y H H' v z->Q v H')->r x y H Q
def Nb (K:PySem.W.Frag) (r:V->Hp->VK->Prop) (b:D->Option Rz):Prop:=∀(Y:AS) (H:Hp) (x:V) (d1:D) (z:Rz) (Q:VK),(∀p,Y p->Lv H p)->BA K Y H x d1->b d1=some z ->
 (∀v H',Same H H'->RES K Y H H' v z->Q v H')->r x H Q
inductive BAs (K:PySem.W.Frag) (Y:AS) (H:Hp):List V->List D->Prop where
 | nil:BAs K Y H [] []
 | cons {v:V} {vs:List V} {d:D} {ds:List D}:BA K Y H v d->BAs K Y H vs ds->BAs K Y H (v::vs) (d::ds)
def RdCB (K:PySem.W.Frag) (r:List V->Hp->VK->Prop) (b:List D->Option Rz):Prop:=∀(Y:AS) (H:Hp) (xs:List V) (ds:List D) (z:Rz) (Q:VK),(∀p,Y p->Lv H p)->BAs K Y H xs ds->b ds=some z ->
 (∀v H',Same H H'->RES K Y H H' v z->Q v H')->r xs H Q
section
variable {K:PySem.W.Frag} {Y Y' O O' O1 O2 Z:AS} {H H' H1 H2:Hp} {v:V} {d:D} {vs:List V} {ds:List D} {a p:Addr} {st st' st1 st2:En} {σ σ':St}
theorem RES.rv (E:ER K st σ H O Z) (s:Same H H') (h:RES K (U O Z) H H' v z):ER K st σ H' O Z/\RVal K Z st σ H' O v (mk z):=by
 obtain⟨d,fr⟩:=z;cases fr with
 | false=>exact⟨E.same s,h⟩
 | true =>
  obtain⟨p,rfl,hp,ho⟩:=h;have hf:=E.free hp;exact⟨E.same s,p,rfl,hf.1,hf.2,ho,E.away s hp ho.lv⟩
theorem RES.fsh (h:RES K Y H H' v z):Fsh H v (mk z):=by
 obtain⟨d,fr⟩:=z;cases fr with
 | false=>trivial
 | true=>obtain⟨p,rfl,hp,_⟩:=h;exact fun q e=>by cases e;exact hp
theorem RVs.ext (h:RVs K Z st σ H O vs rs) (e:Ext O H O' H') (k:Kp st st'):RVs K Z st' σ H' O' vs rs:=by
 induction h with
 | nil=>exact .nil
 | cons h1 _ ih=>exact .cons (h1.ext e k) ih
def cU (st:En):List Rs->Option (List D)
 | []=>some []
 | r::rs=>(cont st r).bind fun d=>(cU st rs).bind fun ds=>some (d::ds)
theorem RVs.bas (h:RVs K Z st σ H O vs rs) (E:ER K st σ H O Z):∀{ds:List D},cU st rs=some ds->BAs K (U O Z) H vs ds:=by
 induction h with
 | nil=>intro ds e;cases e;exact .nil
 | @cons v vs r rs h1 _ ih =>
  intro ds e;refine bP e fun d e1 e=>?_;refine bP e fun ds' e2 e=>?_;cases e;exact .cons (h1.ba E (by rw[jB];exact e1)) (ih e2)
def fu:List Rs->En->Option (List D×En)
 | [],st=>some ([],st)
 | r::rs,st=>(cont st r).bind fun d=>(DY st r).bind fun st1=>(fu rs st1).bind fun x=>some (d::x.1,x.2)
theorem GW (st:En) (r:Rs):DY st r.nf=DY st r:=by cases r<;>rfl
theorem RVs.esc:∀{rs:List Rs} {vs:List V} {st:En} {O:AS} {ds:List D} {st':En},RVs K Z st σ H O vs rs->ER K st σ H O Z->fu rs st=some (ds,st')->∃O',Ext O H O' H/\Kp st st'/\ER K st' σ H O' Z/\El K (U O' Z) H vs ds
 | [],_,st,O,ds,st',.nil,E,e=>by cases e;exact⟨O,Ext.refl O H,Kp.refl _,E,El.nil⟩
 | r::rs,_,st,O,ds,st',.cons h1 h2,E,e=>by
  refine bP e fun d e1 e=>?_;refine bP e fun st1 e2 e=>?_;refine dM e fun ds2 st2 e3 e=>?_;cases e;obtain⟨O1,x1,k1,E1,da⟩:=h1.frz E (by rw[GW];exact e2) (by rw[jB];exact e1)
  obtain⟨O2,x2,k2,E2,el⟩:=RVs.esc (h2.ext x1 k1) E1 e3;exact⟨O2,x1.trans x2,k1.trans k2,E2,El.cons (da.ext x2) el⟩
def aM (i:Nat):FE:=fun st=>match st[i]? with
 | some (.v d)=>some (.d d,st)
 | some (.o _)=>some (.s i,st)
 | some (.io _)=>some (.s i,st)
 | _=>none
theorem af (i:Nat):d7 K (tu i) (aM i):=by
 intro st σ H O Z Q E r st' h q;unfold aM at h;split at h
 ·rename_i d e
  cases h;obtain⟨v,h1,h2⟩:=E.val i d e;exact⟨v,h1,q v H O (Ext.refl O H) (Kp.refl _) E h2 True.intro⟩
 ·rename_i d e
  cases h;obtain⟨p,h1,h2,h3⟩:=E.own i _ _ e rfl;exact⟨.ref p,h1,q _ H O (Ext.refl O H) (Kp.refl _) E ⟨h1,_,e,by simp[Sl.get]⟩ True.intro⟩
 ·rename_i d e
  cases h;obtain⟨p,h1,h2,h3⟩:=E.own i _ _ e rfl;exact⟨.ref p,h1,q _ H O (Ext.refl O H) (Kp.refl _) E ⟨h1,_,e,by simp[Sl.get]⟩ True.intro⟩
 ·cases h
def fC (d:D):FE:=fun st=>some (.d d,st)
theorem iS (h:∀Y H,DA K Y H v d):d7 K (tC v) (fC d):=by
 intro st σ H O Z Q E r st' e q;cases e;exact q v H O (Ext.refl O H) (Kp.refl _) E (h _ _) True.intro
theorem aj (i:Int):d7 K (tC (.int i)) (fC (.int i)):=iS fun _ _=>.int i
theorem cG (x:Str):d7 K (tC (.str x)) (fC (.str x)):=iS fun _ _=>.str x
theorem tP (b:Bool):d7 K (tC (.bl b)) (fC (.bl b)):=iS fun _ _=>.bl b
theorem kx:d7 K (tC .non) (fC .non):=iS fun _ _=>.non
def aH (b:D->D->Option Rz) (fa fb:FE):FE:=fun st=>(fa st).bind fun x=>(fb x.2).bind fun y=>(cont y.2 x.1).bind fun d1=>(cont y.2 y.1).bind fun d2=>(b d1 d2).bind fun z=>some (mk z,y.2)
theorem ao (hr:RdOp K r b) (ha:d7 K ta fa) (hb:d7 K tb fb):d7 K (zO r ta tb) (aH b fa fb):=by
 intro st σ H O Z Q E r' st' h q;refine dM h fun r1 st1 e1 h=>?_;refine dM h fun r2 st2 e2 h=>?_;refine bP h fun d1 e3 h=>?_;refine bP h fun d2 e4 h=>?_;refine bP h fun z e5 h=>?_;cases h;refine ha st σ H O Z _ E r1 st1 e1 fun v1 H1 O1 x1 k1 E1 rv1 w1=>?_;refine hb st1 σ H1 O1 Z _ E1 r2 st2 e2 fun v2 H2 O2 x2 k2 E2 rv2 w2=>?_;have b1:=(rv1.nf.ext x2 k2).ba E2 (by rw[jB];exact e3)
 refine hr (U O2 Z) H2 v1 v2 d1 d2 z _ E2.liv b1 (rv2.ba E2 e4) e5 fun v H3 s hres=>?_;obtain⟨E3,rv3⟩:=hres.rv E2 s;exact q v H3 O2 ((x1.trans x2).trans (Same.ext s)) (k1.trans k2) E3 rv3 (hres.fsh.back (x1.trans x2))
def Gy (b:D->Option Rz) (fa:FE):FE:=fun st=>(fa st).bind fun x=>(cont x.2 x.1).bind fun d1=>(b d1).bind fun z=>some (mk z,x.2)
theorem tQ (hr:Nb K r b) (ha:d7 K ta fa):d7 K (Pe r ta) (Gy b fa):=by
 intro st σ H O Z Q E r' st' h q;refine dM h fun r1 st1 e1 h=>?_;refine bP h fun d1 e3 h=>?_;refine bP h fun z e5 h=>?_;cases h;refine ha st σ H O Z _ E r1 st1 e1 fun v1 H1 O1 x1 k1 E1 rv1 w1=>?_;refine hr (U O1 Z) H1 v1 d1 z _ E1.liv (rv1.ba E1 e3) e5 fun v H3 s hres=>?_;obtain⟨E3,rv3⟩:=hres.rv E1 s;exact q v H3 O1 (x1.trans (Same.ext s)) k1 E3 rv3 (hres.fsh.back x1)
def GX (st:En) (r:Rs):Option Bool:=match cont st r with
 | some (.bl c)=>some c
 | _=>none
theorem DZ (E:ER K st σ H O Z) (h:RVal K Z st σ H O v r) (t:GX st r=some c):v=.bl c:=by
 unfold GX at t;split at t
 ·rename_i b e
  cases t;exact h.ba E e
 ·cases t
def aI (fa:FE):FT:=fun st=>(fa st).bind fun x=>(GX x.2 x.1).bind fun c=>some (c,x.2)
theorem aP (ha:d7 K ta fa):vd K (zU ta) (aI fa):=by
 intro st σ H O Z Q E c st' h q;refine dM h fun r1 st1 e1 h=>?_;refine bP h fun c' e2 h=>?_;cases h;exact ha st σ H O Z _ E r1 st1 e1 fun v1 H1 O1 x1 k1 E1 rv1 w1=>⟨c,DZ E1 rv1 e2,q H1 O1 x1 k1 E1⟩
theorem jX (ha:d7 K ta fa):vd K (tB ta) (aI fa):=aP ha
def oD (f:FT):FT:=fun st=>(f st).bind fun x=>some (!x.1,x.2)
theorem nP (h:vd K t f):vd K (MK t) (oD f):=by
 intro st σ H O Z Q E c st' e q;refine dM e fun c1 st1 e1 e=>?_;cases e;exact h st σ H O Z _ E c1 st1 e1 q
def iP (f g:FT):FT:=fun st=>(f st).bind fun x=>if x.1=true then g x.2 else some (false,x.2)
theorem nQ (h:vd K t f) (h':vd K u g):vd K (MJ t u) (iP f g):=by
 intro st σ H O Z Q E c st' e q;refine dM e fun c1 st1 e1 e=>?_;refine h st σ H O Z _ E c1 st1 e1 fun H1 O1 x1 k1 E1=>?_;cases c1 with
 | true =>
  rw[Ae rfl]at e ⊢;exact h' st1 σ H1 O1 Z _ E1 c st' e fun H2 O2 x2 k2 E2=>q H2 O2 (x1.trans x2) (k1.trans k2) E2
 | false =>
  simp only[Ye,if_false]at e ⊢;cases e;exact q H1 O1 x1 k1 E1
def pS (f g:FT):FT:=fun st=>(f st).bind fun x=>if x.1=true then some (true,x.2) else g x.2
theorem ky (h:vd K t f) (h':vd K u g):vd K (Pa t u) (pS f g):=by
 intro st σ H O Z Q E c st' e q;refine dM e fun c1 st1 e1 e=>?_;refine h st σ H O Z _ E c1 st1 e1 fun H1 O1 x1 k1 E1=>?_;cases c1 with
 | true =>
  rw[Ae rfl]at e ⊢;cases e;exact q H1 O1 x1 k1 E1
 | false =>
  simp only[Ye,if_false]at e ⊢;exact h' st1 σ H1 O1 Z _ E1 c st' e fun H2 O2 x2 k2 E2=>q H2 O2 (x1.trans x2) (k1.trans k2) E2
def cV:FT:=fun st=>some (true,st)
theorem fv:vd K M9 cV:=by
 intro st σ H O Z Q E c st' e q;cases e;exact q H O (Ext.refl O H) (Kp.refl _) E
def mT (fa fb:FE):FE:=fun st=>(fa st).bind fun x=>(GX x.2 x.1).bind fun c=>if c=true then fb x.2 else some (.d (.bl false),x.2)
theorem lE (ha:d7 K ta fa) (hb:d7 K tb fb):d7 K (Iw ta tb) (mT fa fb):=by
 intro st σ H O Z Q E r st' h q;refine dM h fun r1 st1 e1 h=>?_;refine bP h fun c e2 h=>?_;refine ha st σ H O Z _ E r1 st1 e1 fun v1 H1 O1 x1 k1 E1 rv1 w1=>⟨c,DZ E1 rv1 e2,?_⟩;cases c with
 | true =>
  rw[Ae rfl]at h ⊢;exact hb st1 σ H1 O1 Z _ E1 r st' h fun v H2 O2 x2 k2 E2 rv w2=>q v H2 O2 (x1.trans x2) (k1.trans k2) E2 rv (w2.back x1)
 | false =>
  rw[Ai (by decide)]at h ⊢
  cases h;exact q _ H1 O1 x1 k1 E1 (.bl false) True.intro
def yM (fa fb:FE):FE:=fun st=>(fa st).bind fun x=>(GX x.2 x.1).bind fun c=>if c=true then some (.d (.bl true),x.2) else fb x.2
theorem Km (ha:d7 K ta fa) (hb:d7 K tb fb):d7 K (ML ta tb) (yM fa fb):=by
 intro st σ H O Z Q E r st' h q;refine dM h fun r1 st1 e1 h=>?_;refine bP h fun c e2 h=>?_;refine ha st σ H O Z _ E r1 st1 e1 fun v1 H1 O1 x1 k1 E1 rv1 w1=>⟨c,DZ E1 rv1 e2,?_⟩;cases c with
 | true =>
  rw[Ae rfl]at h ⊢;cases h;exact q _ H1 O1 x1 k1 E1 (.bl true) True.intro
 | false =>
  rw[Ai (by decide)]at h ⊢
  exact hb st1 σ H1 O1 Z _ E1 r st' h fun v H2 O2 x2 k2 E2 rv w2=>q v H2 O2 (x1.trans x2) (k1.trans k2) E2 rv (w2.back x1)
def s9 (f:FT) (fa fb:FE):FE:=fun st=>(f st).bind fun x=>if x.1=true then fa x.2 else fb x.2
theorem oE (h:vd K t f) (ha:d7 K ta fa) (hb:d7 K tb fb):d7 K (Pb t ta tb) (s9 f fa fb):=by
 intro st σ H O Z Q E r st' e q;refine dM e fun c1 st1 e1 e=>?_;refine h st σ H O Z _ E c1 st1 e1 fun H1 O1 x1 k1 E1=>?_;cases c1 with
 | true =>
  rw[Ae rfl]at e ⊢;exact ha st1 σ H1 O1 Z _ E1 r st' e fun v H2 O2 x2 k2 E2 rv w2=>q v H2 O2 (x1.trans x2) (k1.trans k2) E2 rv (w2.back x1)
 | false =>
  simp only[Ye,if_false]at e ⊢;exact hb st1 σ H1 O1 Z _ E1 r st' e fun v H2 O2 x2 k2 E2 rv w2=>q v H2 O2 (x1.trans x2) (k1.trans k2) E2 rv (w2.back x1)
def aq:FA:=fun st=>some ([],st)
theorem ah:wF K mB aq:=by
 intro st σ H O Z Q E rs st' e q;cases e;exact q [] H O (Ext.refl O H) (Kp.refl _) E .nil
def ag (fa:FE) (fr:FA):FA:=fun st=>(fa st).bind fun x=>(fr x.2).bind fun y=>some (x.1::y.1,y.2)
theorem ae (ha:d7 K ta fa) (hr:wF K tr fr):wF K (dL ta tr) (ag fa fr):=by
 intro st σ H O Z Q E rs st' h q;refine dM h fun r1 st1 e1 h=>?_;refine dM h fun rs2 st2 e2 h=>?_;cases h;refine ha st σ H O Z _ E r1 st1 e1 fun v1 H1 O1 x1 k1 E1 rv1 w1=>?_;refine hr st1 σ H1 O1 Z _ E1 rs2 st2 e2 fun vs H2 O2 x2 k2 E2 rvs=>?_;exact q (v1::vs) H2 O2 (x1.trans x2) (k1.trans k2) E2 (.cons (rv1.nf.ext x2 k2) rvs)
theorem kz (h:n<=1000000):n<=sizeLine:=Qd h (by decide)
def dD (fa:FA):FE:=fun st=>(fa st).bind fun x=>(fu x.1 x.2).bind fun y=>if y.1.length<=1000000 then some (.d (.tup y.1),y.2) else none
theorem dE (ha:wF K ta fa):d7 K (MY ta) (dD fa):=by
 intro st σ H O Z Q E r st' h q;refine dM h fun rs st1 e1 h=>?_;refine dM h fun ds st2 e2 h=>?_;refine ha st σ H O Z _ E rs st1 e1 fun vs H1 O1 x1 k1 E1 rvs=>?_;obtain⟨O2,x2,k2,E2,el⟩:=rvs.esc E1 e2;obtain⟨hz,h⟩:=aL h;cases h;refine⟨by rw[el.1];exact kz hz,fun p hp=>?_⟩
 obtain⟨E3,rv⟩:=E2.newT hp el;exact q _ _ O2 ((x1.trans x2).trans (Same.ext (aU hp _))) (k1.trans k2) E3 rv True.intro
def jS (fa:FA):FE:=fun st=>(fa st).bind fun x=>(fu x.1 x.2).bind fun y=>if y.1.length<=1000000 then some (.f (.lst y.1),y.2) else none
theorem eG (ha:wF K ta fa):d7 K (zV ta) (jS fa):=by
 intro st σ H O Z Q E r st' h q;refine dM h fun rs st1 e1 h=>?_;refine dM h fun ds st2 e2 h=>?_;refine ha st σ H O Z _ E rs st1 e1 fun vs H1 O1 x1 k1 E1 rvs=>?_;obtain⟨O2,x2,k2,E2,el⟩:=rvs.esc E1 e2;obtain⟨hz,h⟩:=aL h;cases h;refine⟨by rw[el.1];exact kz hz,fun p hp=>?_⟩
 obtain⟨E3,rv⟩:=E2.new hp el;exact q _ _ O2 ((x1.trans x2).trans (Same.ext (aU hp _))) (k1.trans k2) E3 rv fun p' e=>by cases e;exact(x1.trans x2).dead hp
def dW (b:List D->Option Rz) (fa:FA):FE:=fun st=>(fa st).bind fun x=>(cU x.2 x.1).bind fun ds=>(b ds).bind fun z=>some (mk z,x.2)
theorem bn (hr:RdCB K r b) (ha:wF K ta fa):d7 K (JP r ta) (dW b fa):=by
 intro st σ H O Z Q E r0 st' h q;refine dM h fun rs st1 e1 h=>?_;refine bP h fun ds e2 h=>?_;refine bP h fun z e3 h=>?_;cases h;refine ha st σ H O Z _ E rs st1 e1 fun vs H1 O1 x1 k1 E1 rvs=>?_;refine hr (U O1 Z) H1 vs ds z _ E1.liv (rvs.bas E1 e2) e3 fun v H3 s hres=>?_;obtain⟨E3,rv3⟩:=hres.rv E1 s;exact q v H3 O1 (x1.trans (Same.ext s)) k1 E3 rv3 (hres.fsh.back x1)
end
end VF
namespace VF
open PySem L2
def D.isSc:D->Bool
 | .non=>true
 | .bl _=>true
 | .int _=>true
 | .str _=>true
 | .ty _=>true
 | _=>false
def gX (K:PySem.W.Frag) (g:List D->Option Rz):Sp:=fun vs H Q _=>∃(Z:AS) (ds:List D) (z:Rz),El K Z H vs ds/\(∀p,Z p->Lv H p)/\g ds=some z/\∀v H',Same H H'->RES K Z H H' v z->Q v H'
def OR (K:PySem.W.Frag) (Y:AS) (f:Addr) (x':D) (H H':Hp) (v:V):Rz->Prop
 | (d,true)=>∃p,v=.ref p/\H p=none/\OA K (ins p Y) H' p d/\OA K (ins p Y) H' f x'
 | (d,false)=>DA K Y H' v d/\OA K Y H' f x'
def rA (K:PySem.W.Frag) (g:D->List D->Option (Rz×D)):Sp:=fun vs H Q _=>∃(f:Addr) (ws:List V) (Z:AS) (x:D) (ds:List D) (z:Rz) (x':D),vs=.ref f::ws/\¬ Z f/\OA K (ins f Z) H f x/\El K (ins f Z) H ws ds/\(∀p,Z p->Lv H p)/\g x ds=some (z,x') /\
 ∀v H',(∀b o,H b=some o->b≠f->H' b=some o)->OR K (ins f Z) f x' H H' v z->Q v H'
section
variable {K:PySem.W.Frag} {Y Y' O O' O1 O2 Z:AS} {H H' H1 H2:Hp} {v:V} {d:D} {vs:List V} {ds:List D} {a p:Addr} {st st' st1 st2:En} {σ σ':St}
def ce (g:List D->Option Rz) (fa:FA):FE:=fun st=>(fa st).bind fun x=>(fu x.1 x.2).bind fun y=>(g y.1).bind fun z=>some (mk z,y.2)
theorem bM (ha:wF K ta fa):d7 K (yK (gX K g) ta) (ce g fa):=by
 intro st σ H O Z Q E r0 st' h q;refine dM h fun rs st1 e1 h=>?_;refine dM h fun ds st2 e2 h=>?_;refine bP h fun z e3 h=>?_;cases h;refine ha st σ H O Z _ E rs st1 e1 fun vs H1 O1 x1 k1 E1 rvs=>?_;obtain⟨O2,x2,k2,E2,el⟩:=rvs.esc E1 e2;refine⟨U O2 Z,ds,z,el,E2.liv,e3,fun v H3 s hres=>?_⟩;obtain⟨E3,rv3⟩:=hres.rv E2 s;exact q v H3 O2 ((x1.trans x2).trans (Same.ext s)) (k1.trans k2) E3 rv3 (hres.fsh.back (x1.trans x2))
theorem RVal.da0 (h:RVal K Z st σ H O v r) (E:ER K st σ H O Z) (c:cont st r=some d):DA K (fun _=>False) H v d:=by
 cases r with
 | d x=>cases c;exact DA.less (show DA K (U O Z) H v d from h) fun b z=>z.elim
 | f x=>cases c;exact DA.less (show DA K (U O Z) H v d from RVal.nf h) fun b z=>z.elim
 | s i =>
  obtain⟨h1,s,h2,h3⟩:=h;have c':(st[i]?).bind Sl.get=some d:=c;rw[h2]at c';cases s with
  | e=>cases c'
  | v x =>
   cases c';obtain⟨u,g1,g2⟩:=E.val i _ h2;rw[h1]at g1;cases g1;exact g2.less fun b z=>z.elim
  | o x =>
   cases c';obtain⟨p,g1,g2,g3⟩:=E.own i _ _ h2 rfl;rw[h1]at g1;cases g1;exact g3.da (fun z=>z) fun b z=>z.elim
  | io x =>
   cases c';obtain⟨p,g1,g2,g3⟩:=E.own i _ _ h2 rfl;rw[h1]at g1;cases g1;exact g3.da (fun z=>z) fun b z=>z.elim
theorem RVs.el0 (h:RVs K Z st σ H O vs rs) (E:ER K st σ H O Z):∀{ds:List D},cU st rs=some ds->El K (fun _=>False) H vs ds:=by
 induction h with
 | nil=>intro ds e;cases e;exact El.nil
 | @cons v vs r rs h1 _ ih =>
  intro ds e;refine bP e fun d e1 e=>?_;refine bP e fun ds' e2 e=>?_;cases e;exact El.cons (h1.da0 E (by rw[jB];exact e1)) (ih e2)
theorem DA.sc (h:DA K Y H v d) (s:d.isSc=true):DA K Y' H' v d:=by
 cases h with
 | non=>exact .non
 | bl b=>exact .bl b
 | int i=>exact .int i
 | str x=>exact .str x
 | ty n=>exact .ty n
 | _=>cases s
def bq (g:List D->Option Rz) (fa:FA):FE:=fun st=>(fa st).bind fun x=>(cU x.2 x.1).bind fun ds=>(g ds).bind fun z=>if (z.1.isSc&&!z.2)=true then some (.d z.1,x.2) else none
theorem bJ (ha:wF K ta fa):d7 K (yK (gX K g) ta) (bq g fa):=by
 intro st σ H O Z Q E r0 st' h q;refine dM h fun rs st1 e1 h=>?_;refine bP h fun ds e2 h=>?_;refine dM h fun dz fr e3 h=>?_;obtain⟨hc,h⟩:=aL h;cases h;have h1:dz.isSc=true/\fr=false:=by simpa using hc
 obtain⟨h1,rfl⟩:=h1;refine ha st σ H O Z _ E rs _ e1 fun vs H1 O1 x1 k1 E1 rvs=>?_;refine⟨fun _=>False,ds,(dz,false),rvs.el0 E1 e2,fun p z=>z.elim,e3,fun v H3 s hres=>?_⟩;exact q v H3 O1 (x1.trans (Same.ext s)) k1 (E1.same s) (DA.sc (show DA K (fun _=>False) H3 v dz from hres) h1) True.intro
theorem tR {s:Sl} (E:ER K st σ H O Z) (hs:st[i]?=some s) (hx:s.ow=some x) (hv:σ[i]?=some (some v)) (el:El K (U O Z) H ws ds) (hg:g x ds=some (z,x'))
  (q:∀v H' O',Ext O H O' H'->Kp st (st.set i (s.put x'))->ER K (st.set i (s.put x')) σ H' O' Z->RVal K Z (st.set i (s.put x')) σ H' O' v (mk z)->Fsh H v (mk z)->Q v H'):rA K g (v::ws) H Q XE:=by
 obtain⟨p,g1,g2,g3⟩:=E.own i s x hs hx;have ev:v=.ref p:=by rw[hv]at g1;cases g1;rfl
 subst ev;have a1:∀b,ins p (fun b=>U O Z b/\b≠p) b->U O Z b:=fun b z=>z.elim (fun q=>by rw[q];exact .inl g2) fun q=>q.1
 have a2:∀b,U O Z b->ins p (fun b=>U O Z b/\b≠p) b:=fun b z=>by
  by_cases e:b=p
  ·exact .inl e
  ·exact .inr ⟨z,e⟩
 refine⟨p,ws,fun b=>U O Z b/\b≠p,x,ds,z,x',rfl,fun z=>z.2 rfl,g3.go rfl (fun _ _ e _=>e) (fun b z=>.inl (a1 b z)),el.less a1,fun b z=>E.liv b z.1,hg,fun u H' kp hres=>?_⟩;have ho:OA K (ins p fun b=>U O Z b/\b≠p) H' p x':=by
  obtain⟨dz,fr⟩:=z;cases fr with
  | false=>exact hres.2
  | true=>obtain⟨r,_,_,_,h⟩:=hres;exact h.go rfl (fun _ _ e _=>e) fun b z=>.inl (.inr z)
 have kp':∀b o,H b=some o->¬ U O Z b->H' b=some o:=fun b o e n=>kp b o e fun z=>n (by rw[z];exact .inl g2)
 have al:∀b,H b≠none->H' b≠none:=fun b hb=>by
  by_cases e:b=p
  ·rw[e];exact ho.live
  ·cases eb:H b with
   | none=>exact absurd eb hb
   | some o=>rw[kp b o eb e];simp
 have al':∀b,Lv H b->Lv H' b:=fun b hb=>by
  by_cases e:b=p
  ·rw[e];exact ho.lv
  ·exact hb.same fun o eb=>kp b o eb e
 have ex:Ext O H O H':=⟨fun b o e n=>kp b o e fun z=>n (by rw[z];exact g2),fun b z=>.inl z,al,al'⟩
 have ho':OA K (U O Z) H' p x':=ho.go rfl (fun _ _ e _=>e) fun b z=>.inl (a2 b z);have mkE:∀(O2:AS),(∀b,O b->O2 b)->(∀b,O2 b->O b∨H b=none)->(∀b,O2 b->¬ Z b)->(∀b,O2 b->Lv H' b)->OA K (U O2 Z) H' p x'->ER K (st.set i (s.put x')) σ H' O2 Z:=fun O2 up dn ds lv ho2=>by
  have nn:∀b,U O2 Z b->U O Z b∨H b=none:=fun b z=>z.elim (fun y=>(dn b y).elim (fun w=>.inl (.inl w)) .inr) fun y=>.inl (.inr y);refine⟨by simp[E.len],fun j d hj=>?_,fun j t d hj ht=>?_,fun j k t t' d d' r hj ht hk ht' e1 e2=>?_,ds,fun r hr=>hr.elim (lv r) fun y=>al' r (E.liv r (.inr y))⟩
  ·by_cases e:i=j
   ·subst e;rw[aT hs]at hj;exact absurd (Option.some.inj hj) (Sl.put_v _ _ _)
   ·rw[aC e]at hj;obtain⟨v,h1,h2⟩:=E.val j d hj;exact⟨v,h1,h2.go kp' nn⟩
  ·by_cases e:i=j
   ·subst e;rw[aT hs]at hj;have:=Option.some.inj hj;subst this;rw[Sl.put_ow]at ht;cases ht;exact⟨p,g1,up p g2,ho2⟩
   ·rw[aC e]at hj;obtain⟨r,h1,h2,h3⟩:=E.own j t d hj ht;have hne:r≠p:=fun z=>by subst z;exact e (E.uni i j s t x d r hs hx hj ht g1 h1)
    refine⟨r,h1,up r h2,h3.go ?_ kp' nn⟩;cases er:H r with
    | none=>exact absurd er h3.live
    | some o=>exact kp r o er hne
  ·have own':∀(m:Nat) (t:Sl) (d:D),(st.set i (s.put x'))[m]?=some t->t.ow=some d->∃t2 d2,st[m]?=some t2/\t2.ow=some d2:=fun m t d hm ht=>by
    by_cases e:i=m
    ·subst e;exact⟨s,x,hs,hx⟩
    ·rw[aC e]at hm;exact⟨t,d,hm,ht⟩
   obtain⟨t1,d1,a1,b1⟩:=own' j t d hj ht;obtain⟨t2,d2,a2,b2⟩:=own' k t' d' hk ht';exact E.uni j k t1 t2 d1 d2 r a1 b1 a2 b2 e1 e2
 have kk:Kp st (st.set i (s.put x')):=by
  refine⟨by simp,fun j t hj ht=>?_,fun j d hj=>?_⟩
  ·by_cases e:i=j
   ·subst e;exact⟨s.put x',aT hs,by cases s<;>simp[Sl.put,Sl.get]⟩
   ·exact⟨t,by rw[aC e];exact hj,ht⟩
  ·by_cases e:i=j
   ·subst e;rw[hs]at hj;cases hj;exact⟨x',aT hs⟩
   ·exact⟨d,by rw[aC e];exact hj⟩
 have E':=mkE O (fun _ z=>z) (fun _ z=>.inl z) E.dis (fun b z=>al' b (E.liv b (.inl z))) ho';refine q u H' O ex kk E' ?_ ?_
 rotate_left
 ·obtain⟨dz,fr⟩:=z;cases fr with
  | false=>trivial
  | true=>obtain⟨r,rfl,hr,_⟩:=hres;exact fun q e=>by cases e;exact hr
 obtain⟨dz,fr⟩:=z;cases fr with
 | false=>exact DA.less (show DA K _ H' u dz from hres.1) a2
 | true =>
  obtain⟨r,rfl,hr,hor,hof⟩:=hres;have hf:=E.free hr;have a3:∀b,ins r (U O Z) b->ins r (ins p fun b=>U O Z b/\b≠p) b:=fun b z=>z.elim .inl fun y=>.inr (a2 b y);refine⟨r,rfl,hf.1,hf.2,hor.go rfl (fun _ _ e _=>e) (fun b z=>.inl (a3 b z)),mkE (ins r O) (fun _ z=>.inr z) (fun b z=>z.elim (fun y=>.inr (by rw[y];exact hr)) .inl) (fun b z=>z.elim (fun y=>by rw[y];exact hf.2) (E.dis b)) (fun b z=>z.elim (fun y=>by rw[y];exact hor.lv) fun y=>al' b (E.liv b (.inl y))) ?_⟩
  exact hof.go rfl (fun _ _ e _=>e) fun b z=>.inl (a3 b (z.elim (fun y=>y.elim .inl fun w=>.inr (.inl w)) fun y=>.inr (.inr y)))
def pU (g:D->List D->Option (Rz×D)) (i:Nat) (fr:FA):FE:=fun st=>(st[i]?).bind fun s0=>(s0.ow).bind fun _=>(fr st).bind fun x=>(fu x.1 x.2).bind fun y=>(y.2[i]?).bind fun s=>(s.ow).bind fun d=>(g d y.1).bind fun z=>some (mk z.1,y.2.set i (s.put z.2))
theorem fW (hr:wF K tr fr):d7 K (yK (rA K g) (dL (tu i) tr)) (pU g i fr):=by
 intro st σ H O Z Q E r0 st' h q;refine bP h fun s0 f1 h=>?_;refine bP h fun x0 f2 h=>?_;refine dM h fun rs st1 e1 h=>?_;refine dM h fun ds st2 e2 h=>?_;refine bP h fun s e3 h=>?_;refine bP h fun x e4 h=>?_;refine dM h fun z x' e5 h=>?_;cases h;obtain⟨p,g1,_,_⟩:=E.own i s0 x0 f1 f2;refine⟨.ref p,g1,?_⟩;refine hr st σ H O Z _ E rs st1 e1 fun vs H1 O1 x1 k1 E1 rvs=>?_;obtain⟨O2,x2,k2,E2,el⟩:=rvs.esc E1 e2;exact tR E2 e3 e4 g1 el e5 fun v H' O' ex kk E' rv w=>q v H' O' ((x1.trans x2).trans ex) ((k1.trans k2).trans kk) E' rv (w.back (x1.trans x2))
end
end VF
namespace VF
open PySem L2
structure Kq (st:En) (σ:St) (st':En) (σ':St):Prop where
 len:st'.length=st.length
 io:∀(i:Nat) d,st[i]?=some (.io d)->σ'[i]?=σ[i]?/\∃d',st'[i]?=some (.io d')
theorem Kq.refl (st:En) (σ:St):Kq st σ st σ:=⟨rfl,fun i d h=>⟨rfl,d,h⟩⟩
theorem Kq.trans (h:Kq a x b y) (g:Kq b y c z):Kq a x c z:=by
 refine⟨g.len.trans h.len,fun i d e=>?_⟩;obtain⟨e1,d1,e2⟩:=h.io i d e;obtain⟨e3,d2,e4⟩:=g.io i d1 e2;exact⟨e3.trans e1,d2,e4⟩
theorem Kp.kq (k:Kp st st'):Kq st σ st' σ:=⟨k.len,fun i d h=>⟨rfl,k.io i d h⟩⟩
abbrev FG:=D->En->Option En
def Kn (K:PySem.W.Frag) (g:TG) (fg:FG) (tg:List Nat):Prop:=∀(st:En) (σ:St) (H:Hp) (O Z:AS) (x:V) (d:D) (Q:St->Hp->Prop),ER K st σ H O Z->DA K (U O Z) H x d->∀st',fg d st=some st' ->
 (∀σ',(∀j,j∉tg->σ'[j]?=σ[j]?/\st'[j]?=st[j]?)->Kq st σ st' σ'->ER K st' σ' H O Z->Q σ' H)->g x σ H Q
def Sl.isIo:Sl->Bool
 | .io _=>true
 | _=>false
def nq (i:Nat) (s:Sl) (st:En):Option En:=(st[i]?).bind fun t=>if t.isIo=true then none else some (st.set i s)
section
variable {K:PySem.W.Frag} {Y Y' O O' O1 O2 Z:AS} {H H' H1 H2:Hp} {v:V} {d:D} {vs:List V} {ds:List D} {a p:Addr} {st st' st1 st2:En} {σ σ':St}
theorem nR (h:nq i s st=some st'):∃t,st[i]?=some t/\t.isIo=false/\st'=st.set i s:=by grind [nq]
theorem rB {s t:Sl} (e:st[i]?=some t) (n:t.isIo=false):Kq st σ (st.set i s) (σ.set i w):=by
 refine⟨by simp,fun j d h=>?_⟩
 have q:i≠j:=fun z=>by subst z;rw[e]at h;cases h;cases n
 exact⟨aC q,d,by rw[aC q];exact h⟩
theorem ER.asg (E:ER K st σ H O Z) (e:st[i]?=some t) (h:DA K (U O Z) H v d):ER K (st.set i (.v d)) (σ.set i (some v)) H O Z:=by
 have hi:i<σ.length:=by rw[← E.len];exact(Wb.mp e).1
 have sg:(σ.set i (some v))[i]?=some (some v):=by rw[Bk,Ae rfl,Ae hi]
 have ne:∀(j:Nat) s x,(st.set i (.v d))[j]?=some s->s.ow=some x->i≠j/\st[j]?=some s:=fun j s x h1 h2=>by
  by_cases q:i=j
  ·subst q;rw[aT e]at h1;cases h1;cases h2
  ·exact⟨q,by rw[aC q]at h1;exact h1⟩
 refine⟨by simp[E.len],fun j x hj=>?_,fun j s x h1 h2=>?_,fun j k s s' x x' r h1 h2 h3 h4 h5 h6=>?_,E.dis,E.liv⟩
 ·by_cases q:i=j
  ·subst q;rw[aT e]at hj;cases hj;exact⟨v,sg,h⟩
  ·rw[aC q]at hj;obtain⟨w,g1,g2⟩:=E.val j x hj;exact⟨w,by rw[aC q];exact g1,g2⟩
 ·obtain⟨q,h1⟩:=ne j s x h1 h2;obtain⟨r,g1,g2⟩:=E.own j s x h1 h2;exact⟨r,by rw[aC q];exact g1,g2⟩
 ·obtain⟨q1,h1⟩:=ne j s x h1 h2;obtain⟨q2,h3⟩:=ne k s' x' h3 h4;rw[aC q1]at h5;rw[aC q2]at h6;exact E.uni j k s s' x x' r h1 h2 h3 h4 h5 h6
theorem ER.asgF (E0:ER K st σ H O Z) (E:ER K st σ H (ins p O) Z) (np:¬ O p) (e:st[i]?=some t) (h:OA K (ins p (U O Z)) H p x):ER K (st.set i (.o x)) (σ.set i (some (.ref p))) H (ins p O) Z:=by
 have hi:i<σ.length:=by rw[← E.len];exact(Wb.mp e).1
 have sg:(σ.set i (some (V.ref p)))[i]?=some (some (.ref p)):=by rw[Bk,Ae rfl,Ae hi]
 have fresh:∀(j:Nat) s y,st[j]?=some s->s.ow=some y->σ[j]?≠some (some (.ref p)):=fun j s y h1 h2 z=>by
  obtain⟨r,g1,g2,_⟩:=E0.own j s y h1 h2;rw[z]at g1;cases g1;exact np g2
 refine⟨by simp[E.len],fun j y hj=>?_,fun j s y h1 h2=>?_,fun j k s s' y y' r h1 h2 h3 h4 h5 h6=>?_,E.dis,E.liv⟩
 ·by_cases q:i=j
  ·subst q;rw[aT e]at hj;cases hj
  ·rw[aC q]at hj;obtain⟨w,g1,g2⟩:=E.val j y hj;exact⟨w,by rw[aC q];exact g1,g2⟩
 ·by_cases q:i=j
  ·subst q;rw[aT e]at h1;cases h1;cases h2;refine⟨p,sg,.inl rfl,h.go rfl (fun _ _ e _=>e) fun b z=>.inl ?_⟩;rcases z with(z|z)|z
   ·exact .inl z
   ·exact .inr (.inl z)
   ·exact .inr (.inr z)
  ·rw[aC q]at h1;obtain⟨r,g1,g2⟩:=E.own j s y h1 h2;exact⟨r,by rw[aC q];exact g1,g2⟩
 ·by_cases q1:i=j
  ·by_cases q2:i=k
   ·exact q1.symm.trans q2
   ·subst q1;rw[aC q2]at h3 h6;rw[sg]at h5;cases h5;exact absurd h6 (fresh k s' y' h3 h4)
  ·by_cases q2:i=k
   ·subst q2;rw[aC q1]at h1 h5;rw[sg]at h6;cases h6;exact absurd h5 (fresh j s y h1 h2)
   ·rw[aC q1]at h1 h5;rw[aC q2]at h3 h6;exact E.uni j k s s' y y' r h1 h2 h3 h4 h5 h6
def gN (i:Nat):FG:=fun d st=>nq i (.v d) st
theorem bB (i:Nat):Kn K (ou i) (gN i) [i]:=by
 intro st σ H O Z x d Q E da st' h q;obtain⟨t,e,n,rfl⟩:=nR h;refine q (σ.set i (some x)) (fun j hj=>?_) (rB e n) (E.asg e da);have q:i≠j:=fun z=>hj (by rw[z];simp)
 exact⟨aC q,aC q⟩
def GY (K:PySem.W.Frag) (g:Iz) (fg:List D->En->Option En) (tg:List Nat):Prop:=∀(st:En) (σ:St) (H:Hp) (O Z:AS) (xs:List V) (ds:List D) (Q:St->Hp->Prop),ER K st σ H O Z->El K (U O Z) H xs ds->∀st',fg ds st=some st' ->
 (∀σ',(∀j,j∉tg->σ'[j]?=σ[j]?/\st'[j]?=st[j]?)->Kq st σ st' σ'->ER K st' σ' H O Z->Q σ' H)->g xs σ H Q
def IP:List D->En->Option En:=fun ds st=>match ds with
 | []=>some st
 | _=>none
theorem rC:GY K MS IP []:=by
 intro st σ H O Z xs ds Q E el st' h q;cases ds with
 | nil =>
  cases h;exact⟨el.unnil,q σ (fun j _=>⟨rfl,rfl⟩) (Kq.refl _ _) E⟩
 | cons d ds=>cases h
def vB (fg:FG) (fgs:List D->En->Option En):List D->En->Option En:=fun ds st=>match ds with
 | d::r=>(fg d st).bind fun st1=>fgs r st1
 | []=>none
theorem gY (h1:Kn K g fg t1) (h2:GY K gs fgs t2):GY K (IA g gs) (vB fg fgs) (t1++t2):=by
 intro st σ H O Z xs ds Q E el st' h q;cases ds with
 | nil=>cases h
 | cons d ds =>
  refine bP h fun st1 e1 h=>?_;obtain⟨v,r,rfl,da,el⟩:=el.uncons;refine⟨v,r,rfl,h1 st σ H O Z v d _ E da st1 e1 fun σ1 k1 q1 E1=>?_⟩;refine h2 st1 σ1 H O Z r ds _ E1 el st' h fun σ2 k2 q2 E2=>q σ2 (fun j hj=>?_) (q1.trans q2) E2;have a:=k1 j fun z=>hj (Vi _ z);have b:=k2 j fun z=>hj (Wd _ z);exact⟨b.1.trans a.1,b.2.trans a.2⟩
def gT (n:Nat) (fgs:List D->En->Option En):FG:=fun d st=>match d with
 | .tup ds=>if ds.length=n then fgs ds st else none
 | _=>none
theorem vC (h:GY K gs fgs t):Kn K (JF K n gs) (gT n fgs) t:=by
 intro st σ H O Z x d Q E da st' e q;cases d with
 | tup ds =>
  obtain⟨hn,e⟩:=aL e;cases da with
  | tup h1 h2 h3=>exact⟨_,_,rfl,h1.sq,h2.trans hn,h st σ H O Z _ ds Q E ⟨h2,h3⟩ st' e q⟩
 | _=>cases e
abbrev FI:=En->Option (List D×En)
def Nc (K:PySem.W.Frag) (Z:AS) (J:It) (items:List D) (H:Hp) (O:AS):Prop:=∀H' O',Ext O H O' H'->(∀p,U O' Z p->Lv H' p)->(∀i,items.length<=i->J.stop i H')/\∀(i:Nat) d,items[i]?=some d->J.go i H'/\∀x H'',J.yld i H' x H''->Same H' H''/\DA K (U O' Z) H'' x d
def RdI (K:PySem.W.Frag) (wi:TI) (fi:FI):Prop:=∀(st:En) (σ:St) (H:Hp) (O Z:AS) (R:It->Hp->Prop),ER K st σ H O Z->∀items st',fi st=some (items,st') ->
 (∀J H' O',Ext O H O' H'->Kp st st'->ER K st' σ H' O' Z->Nc K Z J items H' O'->R J H')->wi σ H R
def esc (r:Rs) (st:En):Option (D×En):=(cont st r).bind fun d=>(DY st r).bind fun st1=>some (d,st1)
theorem RVal.esc (h:RVal K Z st σ H O v r) (E:ER K st σ H O Z) (e:esc r st=some (d,st')):∃O',Ext O H O' H/\Kp st st'/\ER K st' σ H O' Z/\DA K (U O' Z) H v d:=by
 refine bP e fun x e1 e=>?_;refine bP e fun s1 e2 e=>?_;cases e;exact h.frz E e2 e1
def D.its:D->Option (List D)
 | .lst ds=>some ds
 | .fl ds=>some ds
 | _=>none
def D.itt:D->Option (List D)
 | .tup ds=>some ds
 | _=>none
def Mv (fe:FE):FI:=fun st=>(fe st).bind fun x=>(esc x.1 x.2).bind fun y=>(y.1.its).bind fun ds=>some (ds,y.2)
theorem GZ (h:d7 K te fe):RdI K (wn K te) (Mv fe):=by
 intro st σ H O Z R E items st' e q;refine dM e fun r st1 e1 e=>?_;refine dM e fun d st2 e2 e=>?_;refine bP e fun ds e3 e=>?_;cases e;refine h st σ H O Z _ E r st1 e1 fun v H1 O1 x1 k1 E1 rv w1=>?_;obtain⟨O2,x2,k2,E2,da⟩:=rv.esc E1 e2;have fin:∀{a:Addr} {vs:List V},El K (U O2 Z) H1 vs items->(∀H' O',Ext O2 H1 O' H'->gj K H' a vs)->wn K (fun _ H Q=>Q (.ref a) H) σ H1 R:=fun {a vs} el sq=>by
  refine⟨a,rfl,⟨vs,sq H1 O2 (Ext.refl _ _)⟩,q _ H1 O2 (x1.trans x2) (k1.trans k2) E2 fun H' O' ex _=>?_⟩;have g1:=sq H' O' ex;have el':=el.ext ex;have hl:=el.1;refine⟨fun i hi=>⟨vs,g1,by lia⟩,fun i d hd=>?_⟩
  obtain⟨v,hv,hdv⟩:=el'.at hd;refine⟨⟨vs,v,g1,hv⟩,fun x H'' hx=>?_⟩;obtain⟨rfl,hx⟩:=hx;have:=hx vs g1;rw[hv]at this;cases this;exact⟨Same.refl _,hdv⟩
 cases d with
 | lst ds' =>
  cases e3;cases da with
  | @lst a vs _ h0 h1 h2 h3=>exact fin ⟨h2,h3⟩ fun H' O' ex=>.inl (.inl (ex.kp a _ h1 fun z=>h0 (.inl z)))
 | fl ds' =>
  cases e3;cases da with
  | @fl a vs _ h1 h2 h3 =>
   refine fin ⟨h2,h3⟩ fun H' O' ex=>?_;rcases h1 with⟨h1,hn⟩|h1
   ·exact .inl (Rd.keep h1 fun o e=>ex.kp a o e fun z=>hn (.inl z))
   ·exact h1 H'
 | _=>cases e3
def Ox (fe:FE):FI:=fun st=>(fe st).bind fun x=>(esc x.1 x.2).bind fun y=>(y.1.itt).bind fun ds=>some (ds,y.2)
theorem Ko (h:d7 K te fe):RdI K (JH K te) (Ox fe):=by
 intro st σ H O Z R E items st' e q;refine dM e fun r st1 e1 e=>?_;refine dM e fun d st2 e2 e=>?_;refine bP e fun ds e3 e=>?_;cases e;refine h st σ H O Z _ E r st1 e1 fun v H1 O1 x1 k1 E1 rv w1=>?_;obtain⟨O2,x2,k2,E2,da⟩:=rv.esc E1 e2;cases d with
 | tup ds' =>
  cases e3;cases da with
  | @tup a vs _ h1 h2 h3 =>
   refine⟨a,rfl,⟨vs,h1.sq⟩,q _ H1 O2 (x1.trans x2) (k1.trans k2) E2 fun H' O' ex _=>?_⟩;have da':=(DA.tup h1 h2 h3).ext ex;cases da' with
   | @tup _ ws _ g1 g2 g3 =>
    refine⟨fun i hi=>⟨ws,g1.sq,by lia⟩,fun i d hd=>?_⟩
    obtain⟨v,hv,hdv⟩:=El.at ⟨g2,g3⟩ hd;refine⟨⟨ws,v,g1.sq,hv⟩,fun x H'' hx=>?_⟩;obtain⟨rfl,hx⟩:=hx;have:=hx ws g1.sq;rw[hv]at this;cases this;exact⟨Same.refl _,hdv⟩
 | _=>cases e3
def rng (lo:Int) (n:Nat):List D:=(List.range n).map fun(i:Nat)=>D.int (lo+(i:Int))
theorem D0 (h:(rng lo n)[i]?=some d):i<n/\d=.int (lo+i):=by grind [rng]
theorem gq (lo:Int) (n:Nat):(rng lo n).length=n:=by simp[rng]
theorem tS:Nc K Z (MU lo n) (rng lo n) H O:=fun H' O' ex _=>by
 refine⟨fun i hi=>by rw[gq]at hi;exact hi,fun i d hd=>?_⟩
 obtain⟨h1,rfl⟩:=D0 hd;refine⟨h1,fun x H'' hx=>?_⟩;obtain⟨rfl,rfl⟩:=hx;exact⟨Same.refl _,.int _⟩
def Kr:List D->Option Int
 | [.int j]=>some j
 | _=>none
def Ks:List D->Option (Int×Int)
 | [.int i,.int j]=>some (i,j)
 | _=>none
def vD (fa:FA):FI:=fun st=>(fa st).bind fun x=>(cU x.2 x.1).bind fun ds=>(Kr ds).bind fun j=>if -(2 ^ 62)<=j/\j<2 ^ 62 then some (rng 0 j.toNat,x.2) else none
theorem rD (h:wF K ta fa):RdI K (IB ta) (vD fa):=by
 intro st σ H O Z R E items st' e q;refine dM e fun rs st1 e1 e=>?_;refine bP e fun ds e2 e=>?_;refine bP e fun j e3 e=>?_;obtain⟨hc,e⟩:=aL e;cases e;refine h st σ H O Z _ E rs _ e1 fun vs H1 O1 x1 k1 E1 rvs=>?_;have bs:=rvs.bas E1 e2;have ed:ds=[.int j]:=by
  unfold Kr at e3;split at e3
  ·cases e3;rfl
  ·cases e3
 subst ed;cases bs with
 | cons b1 b2 =>
  cases b2;obtain rfl:=(show _=V.int j from b1);exact⟨j,rfl,hc.1,hc.2,q _ H1 O1 x1 k1 E1 tS⟩
def G0 (fa:FA):FI:=fun st=>(fa st).bind fun x=>(cU x.2 x.1).bind fun ds=>(Ks ds).bind fun w=>if -(2 ^ 62)<=w.1/\w.1<2 ^ 62/\-(2 ^ 62)<=w.2/\w.2<2 ^ 62 then some (rng w.1 (w.2-w.1).toNat,x.2) else none
theorem G1 (h:wF K ta fa):RdI K (IC ta) (G0 fa):=by
 intro st σ H O Z R E items st' e q;refine dM e fun rs st1 e1 e=>?_;refine bP e fun ds e2 e=>?_;refine dM e fun i j e3 e=>?_;obtain⟨hc,e⟩:=aL e;cases e;refine h st σ H O Z _ E rs _ e1 fun vs H1 O1 x1 k1 E1 rvs=>?_;have bs:=rvs.bas E1 e2;have ed:ds=[.int i,.int j]:=by
  unfold Ks at e3;split at e3
  ·cases e3;rfl
  ·cases e3
 subst ed;cases bs with
 | cons b1 b2 =>
  cases b2 with
  | cons b2 b3 =>
   cases b3;obtain rfl:=(show _=V.int i from b1);obtain rfl:=(show _=V.int j from b2);exact⟨i,j,rfl,hc,q _ H1 O1 x1 k1 E1 tS⟩
def tT (x:Str):List D:=x.cps.toList.map fun c=>D.str ⟨#[c]⟩
def Pg (fe:FE):FI:=fun st=>(fe st).bind fun x=>match cont x.2 x.1 with
 | some (.str z)=>some (tT z,x.2)
 | _=>none
theorem Kt (h:d7 K te fe):RdI K (Kg te) (Pg fe):=by
 intro st σ H O Z R E items st' e q;refine dM e fun r st1 e1 e=>?_;refine h st σ H O Z _ E r st1 e1 fun v H1 O1 x1 k1 E1 rv w1=>?_;dsimp only at e;split at e
 ·rename_i z ez
  cases e;have ev:v=.str z:=rv.ba E1 ez;refine⟨z,ev,q _ H1 O1 x1 k1 E1 fun H' O' ex _=>⟨fun i hi=>?_,fun i d hd=>?_⟩⟩
  ·show z.cps.size<=i;simpa[tT]using hi
  ·unfold tT at hd;rw[Qc]at hd;obtain⟨c,hc,rfl⟩:=Vc.mp hd;have hc':z.cps[i]?=some c:=by simpa using hc
   refine⟨(Array.getElem?_eq_some_iff.mp hc').1,fun x H'' hx=>?_⟩;obtain⟨rfl,c',h1,rfl⟩:=hx;rw[hc']at h1;cases h1;exact⟨Same.refl _,.str _⟩
 ·cases e
inductive Ot where
 | nx (st:En)|rt (r:Rs) (st:En)|bk (st:En)|ct (st:En)
abbrev FS:=En->Option Ot
def Out (K:PySem.W.Frag) (Z O:AS) (H:Hp) (st:En) (σ:St) (Dn:Ends):Ot->Prop
 | .nx st'=>∀σ' H' O',Ext O H O' H'->Kq st σ st' σ'->ER K st' σ' H' O' Z->Dn.nx σ' H'
 | .rt r st'=>∀v σ' H' O',Ext O H O' H'->Kq st σ st' σ'->ER K st' σ' H' O' Z->RVal K Z st' σ' H' O' v r->Fsh H v r->Dn.rt v H'
 | .bk st'=>∀σ' H' O',Ext O H O' H'->Kq st σ st' σ'->ER K st' σ' H' O' Z->Dn.bk σ' H'
 | .ct st'=>∀σ' H' O',Ext O H O' H'->Kq st σ st' σ'->ER K st' σ' H' O' Z->Dn.ct σ' H'
def qq (K:PySem.W.Frag) (ts:TS) (F:FS):Prop:=∀(st:En) (σ:St) (H:Hp) (O Z:AS) (Dn:Ends),ER K st σ H O Z->∀o,F st=some o->Out K Z O H st σ Dn o->ts Dn σ H
theorem Out.trans (h:Out K Z O H st σ Dn o) (x:Ext O H O1 H1) (k:Kq st σ st1 σ'):Out K Z O1 H1 st1 σ' Dn o:=by
 cases o with
 | nx s=>exact fun σ2 H2 O2 x2 k2 E2=>h σ2 H2 O2 (x.trans x2) (k.trans k2) E2
 | bk s=>exact fun σ2 H2 O2 x2 k2 E2=>h σ2 H2 O2 (x.trans x2) (k.trans k2) E2
 | ct s=>exact fun σ2 H2 O2 x2 k2 E2=>h σ2 H2 O2 (x.trans x2) (k.trans k2) E2
 | rt r s=>exact fun v σ2 H2 O2 x2 k2 E2 rv w=>h v σ2 H2 O2 (x.trans x2) (k.trans k2) E2 rv (w.back x)
def cI:FS:=fun st=>some (.nx st)
theorem bH:qq K Ix cI:=by
 intro st σ H O Z Dn E o e q;cases e;exact q σ H O (Ext.refl _ _) (Kq.refl _ _) E
def aV (F G:FS):FS:=fun st=>(F st).bind fun o=>match o with
 | .nx s=>G s
 | o=>some o
theorem aD (h1:qq K t F) (h2:qq K u G):qq K (MO t u) (aV F G):=by
 intro st σ H O Z Dn E o e q;refine bP e fun o1 e1 e=>?_;refine h1 st σ H O Z _ E o1 e1 ?_;cases o1 with
 | nx s=>exact fun σ1 H1 O1 x1 k1 E1=>h2 s σ1 H1 O1 Z Dn E1 o e (q.trans x1 k1)
 | bk s=>cases e;exact q
 | ct s=>cases e;exact q
 | rt r s=>cases e;exact q
def gr (fe:FE):FS:=fun st=>(fe st).bind fun x=>some (.nx x.2)
theorem fE (h:d7 K te fe):qq K (Iy te) (gr fe):=by
 intro st σ H O Z Dn E o e q;refine dM e fun r st1 e1 e=>?_;cases e;exact h st σ H O Z _ E r st1 e1 fun v H1 O1 x1 k1 E1 rv w1=>q σ H1 O1 x1 k1.kq E1
def b7 (fe:FE):FS:=fun st=>(fe st).bind fun x=>some (.rt x.1 x.2)
theorem aS (h:d7 K te fe):qq K (MP te) (b7 fe):=by
 intro st σ H O Z Dn E o e q;refine dM e fun r st1 e1 e=>?_;cases e;exact h st σ H O Z _ E r st1 e1 fun v H1 O1 x1 k1 E1 rv w1=>q v σ H1 O1 x1 k1.kq E1 rv w1
def ls (f:FT) (F G:FS):FS:=fun st=>(f st).bind fun x=>if x.1=true then F x.2 else G x.2
theorem cJ (hc:vd K c f) (h1:qq K t F) (h2:qq K u G):qq K (MQ c t u) (ls f F G):=by
 intro st σ H O Z Dn E o e q;refine dM e fun b st1 e1 e=>?_;refine hc st σ H O Z _ E b st1 e1 fun H1 O1 x1 k1 E1=>?_;cases b with
 | true =>
  rw[Ae rfl]at e ⊢;exact h1 st1 σ H1 O1 Z Dn E1 o e (q.trans x1 k1.kq)
 | false =>
  simp only[Ye,if_false]at e ⊢;exact h2 st1 σ H1 O1 Z Dn E1 o e (q.trans x1 k1.kq)
def bN (fe:FE) (i:Nat):FS:=fun st=>(fe st).bind fun x=>match x.1 with
 | .d y=>(nq i (.v y) x.2).bind fun s=>some (.nx s)
 | .f y=>(nq i (.o y) x.2).bind fun s=>some (.nx s)
 | .s j=>(esc (.s j) x.2).bind fun y=>(nq i (.v y.1) y.2).bind fun s=>some (.nx s)
theorem aW (h:d7 K te fe):qq K (yq te (ou i)) (bN fe i):=by
 intro st σ H O Z Dn E o e q;refine dM e fun r st1 e1 e=>?_;refine h st σ H O Z _ E r st1 e1 fun v H1 O1 x1 k1 E1 rv w1=>?_;show Dn.nx (σ.set i (some v)) H1;cases r with
 | d y =>
  refine bP e fun s e2 e=>?_;cases e;obtain⟨t,f1,f2,rfl⟩:=nR e2;exact q _ H1 O1 x1 (k1.kq.trans (rB f1 f2)) (E1.asg f1 rv)
 | f y =>
  refine bP e fun s e2 e=>?_;cases e;obtain⟨t,f1,f2,rfl⟩:=nR e2;obtain⟨p,rfl,np,nz,ho,E2⟩:=rv;have hp:H p=none:=w1 p rfl;exact q _ H1 (ins p O1) ⟨x1.kp,fun b z=>z.elim (fun y=>by rw[y];exact .inr hp) (x1.nw b),x1.al,x1.lv⟩ (k1.kq.trans (rB f1 f2)) (E1.asgF E2 np f1 ho)
 | s j =>
  refine dM e fun d st2 e2 e=>?_;refine bP e fun s e3 e=>?_;cases e;obtain⟨O2,x2,k2,E2,da⟩:=rv.esc E1 e2;obtain⟨t,f1,f2,rfl⟩:=nR e3;exact q _ H1 O2 (x1.trans x2) ((k1.kq.trans k2.kq).trans (rB f1 f2)) (E2.asg f1 da)
end
end VF
namespace VF
open PySem L2
section
variable {K:PySem.W.Frag} {Y Y' O O' O1 O2 Z:AS} {H H' H1 H2:Hp} {v:V} {d:D} {vs:List V} {ds:List D} {a p:Addr} {st st' st1 st2:En} {σ σ':St}
def iZ (fg:FG) (B:FS):List D->FS
 | [],st=>some (.nx st)
 | x::r,st=>(fg x st).bind fun s1=>(B s1).bind fun o=>match o with
  | .nx s2=>iZ fg B r s2
  | .ct s2=>iZ fg B r s2
  | .bk s2=>some (.nx s2)
  | .rt y s2=>some (.rt y s2)
def nt (fi:FI) (fg:FG) (B:FS):FS:=fun st=>(fi st).bind fun x=>iZ fg B x.1 x.2
theorem i9 (hi:RdI K wi fi) (hg:Kn K g fg tg) (hb:qq K tb B):qq K (JJ wi g tb) (nt fi fg B):=by
 intro st σ H O Z Dn E o e q;refine dM e fun items st1 e1 e=>?_;refine hi st σ H O Z _ E items st1 e1 fun J H1 O1 x1 k1 E1 it=>?_;have q1:=q.trans x1 (k1.kq (σ:=σ));refine⟨fun i m σ' H'=>m=items.length-i/\i<=items.length/\∃s O',Ext O1 H1 O' H'/\Kq st1 σ s σ'/\ER K s σ' H' O' Z/\iZ fg B (items.drop i) s=some o,⟨items.length,by simp,Yg _,st1,O1,Ext.refl _ _,Kq.refl _ _,E1,e⟩,?_⟩
 rintro i m σ' H' ⟨rfl,hle,s,O',x2,k2,E2,e2⟩;obtain⟨stop,go⟩:=it H' O' x2 E2.liv;by_cases hlt:i<items.length
 ·right;have hd:items.drop i=items[i]::items.drop (i+1):=Zl hlt;rw[hd]at e2;refine bP e2 fun s1 e3 e2=>?_;refine bP e2 fun o1 e4 e2=>?_;obtain⟨g1,g2⟩:=go i _ (Za hlt);refine⟨g1,fun σ3 H3=>∃s O3,Ext O1 H1 O3 H3/\Kq st1 σ s σ3/\ER K s σ3 H3 O3 Z/\iZ fg B (items.drop (i+1)) s=some o,fun σ3 H3 ⟨s3,O3,x3,k3,E3,e3'⟩=>⟨items.length-(i+1),by lia,rfl,hlt,s3,O3,x3,k3,E3,e3'⟩,fun x H'' hy=>?_⟩
  obtain⟨sm,da⟩:=g2 x H'' hy;have xm:Ext O' H' O' H'':=Same.ext sm;refine hg s σ' H'' O' Z x _ _ (E2.same sm) da s1 e3 fun σ4 _ k4 E4=>?_;refine hb s1 σ4 H'' O' Z _ E4 o1 e4 ?_;have xx:=x2.trans xm;cases o1 with
  | nx s2=>exact fun σ5 H5 O5 x5 k5 E5=>⟨s2,O5,xx.trans x5,(k2.trans k4).trans k5,E5,e2⟩
  | ct s2=>exact fun σ5 H5 O5 x5 k5 E5=>⟨s2,O5,xx.trans x5,(k2.trans k4).trans k5,E5,e2⟩
  | bk s2 =>
   cases e2;exact fun σ5 H5 O5 x5 k5 E5=>q1 σ5 H5 O5 (xx.trans x5) ((k2.trans k4).trans k5) E5
  | rt y s2 =>
   cases e2;exact fun v σ5 H5 O5 x5 k5 E5 rv w=>q1 v σ5 H5 O5 (xx.trans x5) ((k2.trans k4).trans k5) E5 rv (w.back xx)
 ·left;have hn:items.drop i=[]:=DC (by lia)
  rw[hn]at e2;cases e2;exact⟨stop i (by lia),q1 σ' H' O' x2 k2 E2⟩
def Gz (f:FT) (B:FS):Nat->FS
 | 0,_=>none
 | n+1,st=>(f st).bind fun x=>if x.1=true then(B x.2).bind fun o=>match o with
   | .nx s2=>Gz f B n s2
   | .ct s2=>Gz f B n s2
   | .bk s2=>some (.nx s2)
   | .rt y s2=>some (.rt y s2)
  else some (.nx x.2)
theorem tU (n:Nat) (hc:vd K c f) (hb:qq K tb B):qq K (zN c tb) (Gz f B n):=by
 intro st σ H O Z Dn E o e q;refine⟨fun m σ' H'=>∃s O',Ext O H O' H'/\Kq st σ s σ'/\ER K s σ' H' O' Z/\Gz f B m s=some o,⟨n,st,O,Ext.refl _ _,Kq.refl _ _,E,e⟩,?_⟩;rintro m σ' H' ⟨s,O',x2,k2,E2,e2⟩;cases m with
 | zero=>cases e2
 | succ m =>
  refine dM e2 fun b s1 e3 e2=>?_;refine hc s σ' H' O' Z _ E2 b s1 e3 fun H3 O3 x3 k3 E3=>?_;have xx:=x2.trans x3;have kk:=k2.trans (k3.kq (σ:=σ'));cases b with
  | false =>
   simp only[Ye,if_false]at e2 ⊢;cases e2;exact q σ' H3 O3 xx kk E3
  | true =>
   rw[Ae rfl]at e2 ⊢;refine bP e2 fun o1 e4 e2=>?_;refine⟨fun σ5 H5=>∃s O5,Ext O H O5 H5/\Kq st σ s σ5/\ER K s σ5 H5 O5 Z/\Gz f B m s=some o,fun σ5 H5 h=>⟨m,Ql _,h⟩,?_⟩;refine hb s1 σ' H3 O3 Z _ E3 o1 e4 ?_;cases o1 with
   | nx s2=>exact fun σ5 H5 O5 x5 k5 E5=>⟨s2,O5,xx.trans x5,kk.trans k5,E5,e2⟩
   | ct s2=>exact fun σ5 H5 O5 x5 k5 E5=>⟨s2,O5,xx.trans x5,kk.trans k5,E5,e2⟩
   | bk s2 =>
    cases e2;exact fun σ5 H5 O5 x5 k5 E5=>q σ5 H5 O5 (xx.trans x5) (kk.trans k5) E5
   | rt y s2 =>
    cases e2;exact fun v σ5 H5 O5 x5 k5 E5 rv w=>q v σ5 H5 O5 (xx.trans x5) (kk.trans k5) E5 rv (w.back xx)
structure RdM (K:PySem.W.Frag) (T:String) (r:V->List V->Hp->VK->Prop) (ok:D->Bool) (m:D->List D->Option (D×D)):Prop where
 ty:∀(Y:AS) (H:Hp) (p:Addr) (x:D),OA K Y H p x->ok x=true->Ms K T (.ref p) H
 run:∀(Y:AS) (H:Hp) (p:Addr) (x:D) (vs:List V) (ds:List D) (y x':D) (Q:VK),Y p->OA K Y H p x->El K Y H vs ds->m x ds=some (y,x') ->
  (∀v o,DA K Y (upd H p o) v y->OA K Y (upd H p o) p x'->Q v (upd H p o))->r (.ref p) vs H Q
def fM (ok:D->Bool) (m:D->List D->Option (D×D)) (i:Nat) (fa:FA):FE:=fun st=>(st[i]?).bind fun s0=>(s0.ow).bind fun x0=>if ok x0=true then(fa st).bind fun x=>(fu x.1 x.2).bind fun y=>(y.2[i]?).bind fun s=>(s.ow).bind fun d=>(m d y.1).bind fun z=>some (.d z.1,y.2.set i (s.put z.2)) else none
theorem tV (hm:RdM K T r ok m) (ha:wF K ta fa):d7 K (Ov K T r (tu i) ta) (fM ok m i fa):=by
 intro st σ H O Z Q E r0 st' h q;refine bP h fun s0 f1 h=>?_;refine bP h fun x0 f2 h=>?_;obtain⟨hok,h⟩:=aL h;refine dM h fun rs st1 e1 h=>?_;refine dM h fun ds st2 e2 h=>?_;refine bP h fun s e3 h=>?_;refine bP h fun x e4 h=>?_;refine dM h fun y x' e5 h=>?_;cases h;obtain⟨p,g1,g2,g3⟩:=E.own i s0 x0 f1 f2;refine⟨.ref p,g1,hm.ty _ _ _ _ g3 hok,?_⟩;refine ha st σ H O Z _ E rs st1 e1 fun vs H1 O1 x1 k1 E1 rvs=>?_;obtain⟨O2,x2,k2,E2,el⟩:=rvs.esc E1 e2;obtain⟨p',j1,j2,j3⟩:=E2.own i s x e3 e4;have ep:p'=p:=by rw[g1]at j1;cases j1;rfl
 subst ep;refine hm.run (U O2 Z) H1 p' x vs ds y x' _ (.inl j2) j3 el e5 fun v o da ho=>?_;obtain⟨E3,x3,k3⟩:=E2.write e3 e4 g1 ho;exact q v _ O2 ((x1.trans x2).trans x3) ((k1.trans k2).trans k3) E3 da True.intro
def Oy (ok:D->Bool) (m:D->List D->Option (D×D)) (i:Nat):FE:=fun st=>(st[i]?).bind fun s=>(s.ow).bind fun x=>if ok x=true then(m x []).bind fun z=>some (.d z.1,st.set i (s.put z.2)) else none
theorem Nd (hm:RdM K T r ok m):d7 K (M6 K T r (tu i)) (Oy ok m i):=by
 intro st σ H O Z Q E r0 st' h q;refine bP h fun s e3 h=>?_;refine bP h fun x e4 h=>?_;obtain⟨hok,h⟩:=aL h;refine dM h fun y x' e5 h=>?_;cases h;obtain⟨p,g1,g2,g3⟩:=E.own i s x e3 e4;refine⟨.ref p,g1,hm.ty _ _ _ _ g3 hok,?_⟩;refine hm.run (U O Z) H p x [] [] y x' _ (.inl g2) g3 El.nil e5 fun v o da ho=>?_;obtain⟨E3,x3,k3⟩:=E.write e3 e4 g1 ho;exact q v _ O x3 k3 E3 da True.intro
def D1 (K:PySem.W.Frag) (t:zM) (m:D->D->D->Option D):Prop:=∀(Y:AS) (H:Hp) (p:Addr) (x:D) (k v:V) (dk dv x':D) (Q:Hp->Prop),Y p->OA K Y H p x->BA K Y H k dk->DA K Y H v dv->m x dk dv=some x' ->
 (∀o,OA K Y (upd H p o) p x'->Q (upd H p o))->t (.ref p) k v H Q
def nu (m:D->D->D->Option D) (fe:FE) (i:Nat) (fi:FE):FS:=fun st=>(fe st).bind fun x=>(esc x.1 x.2).bind fun y=>(y.2[i]?).bind fun s0=>(s0.ow).bind fun _=>(fi y.2).bind fun w=>(cont w.2 w.1).bind fun dk=>(w.2[i]?).bind fun s=>(s.ow).bind fun z=>(m z dk y.1).bind fun z'=>some (.nx (w.2.set i (s.put z')))
theorem iw (hm:D1 K t m) (he:d7 K te fe) (hi:d7 K ti fi):qq K (yq te (MT (tu i) ti t)) (nu m fe i fi):=by
 intro st σ H O Z Dn E o e q;refine dM e fun r st1 e1 e=>?_;refine dM e fun dv st2 e2 e=>?_;refine bP e fun s0 e3 e=>?_;refine bP e fun x0 e4 e=>?_;refine dM e fun rk st3 e5 e=>?_;refine bP e fun dk e6 e=>?_;refine bP e fun s e7 e=>?_;refine bP e fun x e8 e=>?_;refine bP e fun x' e9 e=>?_;cases e;refine he st σ H O Z _ E r st1 e1 fun v H1 O1 x1 k1 E1 rv w1=>?_;obtain⟨O2,x2,k2,E2,da⟩:=rv.esc E1 e2;obtain⟨p,g1,g2,g3⟩:=E2.own i s0 x0 e3 e4;refine⟨.ref p,g1,?_⟩;refine hi st2 σ H1 O2 Z _ E2 rk st3 e5 fun k H3 O3 x3 k3 E3 rk' w3=>?_;obtain⟨p',j1,j2,j3⟩:=E3.own i s x e7 e8;have ep:p'=p:=by rw[g1]at j1;cases j1;rfl
 subst ep;refine hm (U O3 Z) H3 p' x k v dk dv x' _ (.inl j2) j3 (rk'.ba E3 e6) (da.ext x3) e9 fun o ho=>?_;obtain⟨E4,x4,k4⟩:=E3.write e7 e8 g1 ho;exact q σ _ O3 (((x1.trans x2).trans x3).trans x4) (((k1.trans k2).trans k3).trans k4).kq E4
def jT (k:Nat) (caps:List Nat) (st:En):En:=List.replicate k Sl.e++caps.map fun i=>(st[i]?).getD .e
def rE (k:Nat) (s:En):En:=List.replicate k Sl.e++s.drop k
def wb:List Nat->En->En->En
 | i::r,s::sb,st=>wb r sb (st.set i s)
 | _,_,st=>st
def cN (fg:FG) (fc:FT) (fe:FE) (k:Nat):List D->En->Option (List D×En)
 | [],sb=>some ([],sb)
 | x::r,sb=>(fg x sb).bind fun s1=>(fc s1).bind fun c=>if c.1=true then(fe c.2).bind fun y=>(esc y.1 y.2).bind fun w=>(cN fg fc fe k r (rE k w.2)).bind fun z=>some (w.1::z.1,z.2)
  else cN fg fc fe k r (rE k c.2)
def rF (caps:List Nat) (n:Nat):Bool:=decide caps.Nodup&&caps.all fun i=>decide (i<n)
def dN (k:Nat) (caps:List Nat) (fi:FI) (fg:FG) (fc:FT) (fe:FE):FE:=fun st=>(fi st).bind fun x=>if (rF caps x.2.length&&decide (x.1.length<=1000000))=true then(cN fg fc fe k x.1 (jT k caps x.2)).bind fun y=>some (.f (.lst y.1),wb caps (y.2.drop k) x.2) else none
theorem vE:∀(caps:List Nat) (sb st:En),(wb caps sb st).length=st.length
 | [],_,_=>by simp[wb]
 | _::_,[],_=>by simp[wb]
 | i::r,s::sb,st=>by rw[wb,vE r sb];simp
theorem oF:∀(caps:List Nat) (sb st:En) {i:Nat},i∉caps->(wb caps sb st)[i]?=st[i]?
 | [],_,_,_,_=>by simp[wb]
 | _::_,[],_,_,_=>by simp[wb]
 | j::r,s::sb,st,i,h=>by
  rw[wb,oF r sb _ (fun z=>h (Va _ z))];exact aC fun z=>h (by rw[z];simp)
theorem D2:∀(caps:List Nat) (sb st:En) {j i:Nat},caps.Nodup->sb.length=caps.length->caps[j]?=some i->i<st.length->(wb caps sb st)[i]?=sb[j]?
 | [],_,_,_,_,_,_,h,_=>by simp at h
 | _::_,[],_,_,_,_,h,_,_=>by simp at h
 | c::r,s::sb,st,0,i,nd,hl,h,hi=>by
  have e:c=i:=by simpa using h
  subst e;rw[wb,oF r sb _ (Zk.mp nd).1];rw[Bk,Ae rfl,Ae hi];rfl
 | c::r,s::sb,st,j+1,i,nd,hl,h,hi=>by
  rw[wb,D2 r sb _ (j:=j) (Zk.mp nd).2 (by simpa using hl) (by simpa using h) (by simpa using hi)];rfl
theorem wG (h:caps[j]?=some i):(jT k caps st)[k+j]?=some ((st[i]?).getD .e):=by grind [jT]
theorem lF {s:Sl} (h:(jT k caps st)[i]?=some s) (n:s.get≠none):∃j i',i=k+j/\caps[j]?=some i'/\st[i']?=some s:=by
 unfold jT at h;by_cases hi:i<k
 ·rw[Yi (by simpa using hi),Yn,Ae hi]at h
  cases h;exact absurd rfl n
 ·rw[Wf (by simpa using hi),Yl,Qc]at h
  refine⟨i-k,?_⟩;obtain⟨i',e1,e2⟩:=Vc.mp h;refine⟨i',by lia,e1,?_⟩
  cases q:st[i']? with
  | none=>rw[q]at e2;subst e2;exact absurd rfl n
  | some t=>rw[q]at e2;subst e2;rfl
theorem kB (h:caps[j]?=some i):(ni k caps σ)[k+j]?=some ((σ[i]?).getD none):=by grind [ni]
theorem ja {s:Sl} (h:s.ow=some d):s.get≠none:=by cases s<;>first|(cases h;done)|simp[Sl.get]
theorem D3 {l:List Nat} {j j' i:Nat} (nd:l.Nodup) (h:l[j]?=some i) (h':l[j']?=some i):j=j':=by
 obtain⟨h1,h2⟩:=Wb.mp h;obtain⟨h3,h4⟩:=Wb.mp h';exact(CW nd).mp (h2.trans h4.symm)
def Ob (caps:List Nat) (st:En) (σ:St):AS:=fun p=>∃i∈caps,∃s d,st[i]?=some s/\s.ow=some d/\σ[i]?=some (some (.ref p))
def Zb (caps:List Nat) (st:En) (σ:St) (O Z:AS):AS:=fun p=>Z p∨(O p/\¬ Ob caps st σ p)
theorem Ob.o (E:ER K st σ H O Z) (h:Ob caps st σ q):O q:=by
 obtain⟨i,_,s,d,h1,h2,h3⟩:=h;obtain⟨p,g1,g2,_⟩:=E.own i s d h1 h2;rw[h3]at g1;cases g1;exact g2
theorem Ku {k:Nat} {caps:List Nat} (E:ER K st σ H O Z) (nd:caps.Nodup):ER K (jT k caps st) (ni k caps σ) H (Ob caps st σ) (Zb caps st σ O Z):=by
 have up:∀b,U (Ob caps st σ) (Zb caps st σ O Z) b->U O Z b:=fun b z=>z.elim (fun y=>.inl (Ob.o E y)) fun y=>y.elim .inr fun w=>.inl w.1;refine⟨by simp[jT,ni],fun i d h=>?_,fun i s d h1 h2=>?_,fun i j s t d d' p h1 h2 h3 h4 h5 h6=>?_,fun p h z=>?_,fun p h=>E.liv p (up p h)⟩
 ·obtain⟨j,i',rfl,hc,hs⟩:=lF h (by simp[Sl.get])
  obtain⟨v,g1,g2⟩:=E.val i' d hs;exact⟨v,by rw[kB hc,g1];rfl,g2.less up⟩
 ·obtain⟨j,i',rfl,hc,hs⟩:=lF h1 (ja h2);obtain⟨p,g1,g2,g3⟩:=E.own i' s d hs h2;exact⟨p,by rw[kB hc,g1];rfl,⟨i',Wa hc,s,d,hs,h2,g1⟩,g3.go rfl (fun _ _ e _=>e) fun b z=>.inl (up b z)⟩
 ·obtain⟨j1,i1,rfl,c1,s1⟩:=lF h1 (ja h2);obtain⟨j2,i2,rfl,c2,s2⟩:=lF h3 (ja h4);obtain⟨p1,g1,_⟩:=E.own i1 s d s1 h2;obtain⟨p2,g2,_⟩:=E.own i2 t d' s2 h4;rw[kB c1,g1]at h5;rw[kB c2,g2]at h6;have e1:p1=p:=by simpa using h5
  have e2:p2=p:=by simpa using h6
  subst e1;subst e2;have e:=E.uni i1 i2 s t d d' _ s1 h2 s2 h4 g1 g2;subst e;rw[D3 nd c1 c2]
 ·rcases z with z|z
  ·exact E.dis p (Ob.o E h) z
  ·exact z.2 h
theorem D4 {τ τ':St} (E:ER K st τ H O Z) (hl:τ'.length=τ.length) (hk:k<=st.length) (h:∀j,k<=j->τ'[j]?=τ[j]?):ER K (rE k st) τ' H O Z:=by
 have at_:∀(i:Nat) s,(rE k st)[i]?=some s->s.get≠none->k<=i/\st[i]?=some s:=fun i s e n=>by
  unfold rE at e;by_cases hi:i<k
  ·rw[Yi (by simpa using hi),Yn,Ae hi]at e
   cases e;exact absurd rfl n
  ·rw[Wf (by simpa using hi),Yl,Qf]at e
   have:k+(i-k)=i:=by lia
   rw[this]at e;exact⟨by lia,e⟩
 refine⟨?_,fun i d e=>?_,fun i s d e1 e2=>?_,fun i j s t d d' p e1 e2 e3 e4 e5 e6=>?_,E.dis,E.liv⟩
 ·rw[hl,← E.len];simp[rE];lia
 ·obtain⟨hk,e⟩:=at_ i _ e (by simp[Sl.get])
  obtain⟨v,g1,g2⟩:=E.val i d e;exact⟨v,by rw[h i hk];exact g1,g2⟩
 ·obtain⟨hk,e⟩:=at_ i _ e1 (ja e2);obtain⟨p,g1,g2⟩:=E.own i s d e e2;exact⟨p,by rw[h i hk];exact g1,g2⟩
 ·obtain⟨hk1,e1⟩:=at_ i _ e1 (ja e2);obtain⟨hk2,e3⟩:=at_ j _ e3 (ja e4);rw[h i hk1]at e5;rw[h j hk2]at e6;exact E.uni i j s t d d' p e1 e2 e3 e4 e5 e6
def Oo (caps:List Nat) (st:En) (σ:St) (O Oi:AS):AS:=fun p=>Oi p∨(O p/\¬ Ob caps st σ p)
theorem vF (E:ER K st σ H O Z) (x:Ext (Ob caps st σ) H Oi H'):Ext O H (Oo caps st σ O Oi) H' :=
 ⟨fun b o e n=>x.kp b o e fun z=>n (Ob.o E z),fun b z=>z.elim (fun y=>(x.nw b y).elim (fun w=>.inl (Ob.o E w)) .inr) fun y=>.inl y.1,x.al,x.lv⟩
theorem D5 {caps:List Nat} {sb:En} (E:ER K st σ H O Z) (nd:caps.Nodup) (lt:∀i∈caps,i<st.length) (hl:sb.length=k+caps.length) (x:Ext (Ob caps st σ) H Oi H') (B:ER K sb (ni k caps σ) H' Oi (Zb caps st σ O Z)) :
  ER K (wb caps (sb.drop k) st) σ H' (Oo caps st σ O Oi) Z:=by
 have dl:(sb.drop k).length=caps.length:=by rw[Xk];lia
 have cap:∀(j i:Nat),caps[j]?=some i->(wb caps (sb.drop k) st)[i]?=sb[k+j]?:=fun j i h=>by
  rw[D2 caps _ st nd dl h (lt i (Wa h)),Qf]
 have out:∀i,i∉caps->(wb caps (sb.drop k) st)[i]?=st[i]?:=fun i h=>oF caps _ st h;have same:∀b,U (Oo caps st σ O Oi) Z b->U Oi (Zb caps st σ O Z) b:=fun b z=>by
  rcases z with(z|z)|z
  ·exact .inl z
  ·exact .inr (.inr z)
  ·exact .inr (.inl z)
 have kp:∀b o,H b=some o->¬ U O Z b->H' b=some o:=fun b o e n=>x.kp b o e fun z=>n (.inl (Ob.o E z));have nn:∀b,U (Oo caps st σ O Oi) Z b->U O Z b∨H b=none:=fun b z=>by
  rcases z with z|z
  ·exact((vF E x).nw b z).elim (fun y=>.inl (.inl y)) .inr
  ·exact .inl (.inr z)
 have nob:∀(i:Nat) s d p,i∉caps->st[i]?=some s->s.ow=some d->σ[i]?=some (some (.ref p))->¬ Ob caps st σ p:=fun i s d p hn h1 h2 h3 z=>by
  obtain⟨i0,hm,s0,d0,g1,g2,g3⟩:=z;have:=E.uni i i0 s s0 d d0 p h1 h2 g1 g2 h3 g3;subst this;exact hn hm
 have bget:∀{j i:Nat} {v:V},caps[j]?=some i->(ni k caps σ)[k+j]?=some (some v)->σ[i]?=some (some v):=fun {j i v} hc hb=>by
  rw[kB hc]at hb;have hb':=Option.some.inj hb;cases q:σ[i]? with
  | none=>rw[q]at hb';cases hb'
  | some w=>rw[q]at hb';have:w=some v:=hb';rw[this]
 have own:∀(i:Nat) s d,(wb caps (sb.drop k) st)[i]?=some s->s.ow=some d->(∃j,caps[j]?=some i/\sb[k+j]?=some s)∨(i∉caps/\st[i]?=some s):=fun i s d h1 _=>by
  by_cases hc:i∈caps
  ·obtain⟨j,hj⟩:=Ym hc;rw[cap j i hj]at h1;exact .inl ⟨j,hj,h1⟩
  ·rw[out i hc]at h1;exact .inr ⟨hc,h1⟩
 refine⟨by rw[vE];exact E.len,fun i d h=>?_,fun i s d h1 h2=>?_,fun i j s t d d' p h1 h2 h3 h4 h5 h6=>?_,fun p h=>?_,fun p h=>?_⟩
 ·by_cases hc:i∈caps
  ·obtain⟨j,hj⟩:=Ym hc;rw[cap j i hj]at h;obtain⟨v,g1,g2⟩:=B.val _ d h;exact⟨v,bget hj g1,g2.less same⟩
  ·rw[out i hc]at h;obtain⟨v,g1,g2⟩:=E.val i d h;exact⟨v,g1,g2.go kp nn⟩
 ·rcases own i s d h1 h2 with⟨j,hj,hs⟩|⟨hc,hs⟩
  ·obtain⟨p,g1,g2,g3⟩:=B.own _ s d hs h2;exact⟨p,bget hj g1,.inl g2,g3.go rfl (fun _ _ e _=>e) fun b z=>.inl (same b z)⟩
  ·obtain⟨p,g1,g2,g3⟩:=E.own i s d hs h2;have nb:=nob i s d p hc hs h2 g1;refine⟨p,g1,.inr ⟨g2,nb⟩,g3.go ?_ kp nn⟩;cases q:H p with
   | none=>exact absurd q g3.live
   | some o=>exact x.kp p o q nb
 ·rcases own i s d h1 h2 with⟨j1,c1,s1⟩|⟨c1,s1⟩<;>rcases own j t d' h3 h4 with⟨j2,c2,s2⟩|⟨c2,s2⟩
  ·have e:=B.uni _ _ s t d d' p s1 h2 s2 h4 (by rw[kB c1,h5];rfl) (by rw[kB c2,h6];rfl)
   have e':j1=j2:=by lia
   subst e';rw[c1]at c2;exact Option.some.inj c2
  ·exfalso
   obtain⟨q,g1,g2,_⟩:=B.own _ s d s1 h2;have:=bget c1 g1;rw[h5]at this;cases this;have nb:=nob j t d' p c2 s2 h4 h6;obtain⟨q2,k1,_,k3⟩:=E.own j t d' s2 h4;rw[h6]at k1;cases k1;exact(x.nw p g2).elim nb k3.live
  ·exfalso
   obtain⟨q,g1,g2,_⟩:=B.own _ t d' s2 h4;have:=bget c2 g1;rw[h6]at this;cases this;have nb:=nob i s d p c1 s1 h2 h5;obtain⟨q2,k1,_,k3⟩:=E.own i s d s1 h2;rw[h5]at k1;cases k1;exact(x.nw p g2).elim nb k3.live
  ·exact E.uni i j s t d d' p s1 h2 s2 h4 h5 h6
 ·rcases h with h|h
  ·exact fun z=>B.dis p h (.inl z)
  ·exact E.dis p h.1
 ·rcases h with(h|h)|h
  ·exact B.liv p (.inl h)
  ·exact x.lv p (E.liv p (.inl h.1))
  ·exact x.lv p (E.liv p (.inr h))
theorem D6 {a b:En} (h0:∀(i:Nat) s,a[i]?=some s->i<k->s=.e) (h:Kp a b) (hk:k<=b.length):Kp a (rE k b):=by
 have lk:(rE k b).length=b.length:=by simp[rE];lia
 have at_:∀i,k<=i->(rE k b)[i]?=b[i]?:=fun i hi=>by
  unfold rE;rw[Wf (by simpa using hi),Yl,Qf]
  congr 1;lia
 refine⟨lk.trans h.len,fun i s e g=>?_,fun i d e=>?_⟩
 ·by_cases hi:i<k
  ·have:=h0 i s e hi;subst this;exact absurd rfl g
  ·obtain⟨s',e',g'⟩:=h.has i s e g;exact⟨s',by rw[at_ i (by lia)];exact e',g'⟩
 ·by_cases hi:i<k
  ·have:=h0 i _ e hi;cases this
  ·obtain⟨d',e'⟩:=h.io i d e;exact⟨d',by rw[at_ i (by lia)];exact e'⟩
theorem Nf {caps:List Nat} {sb:En} (nd:caps.Nodup) (lt:∀i∈caps,i<st.length) (hl:sb.length=k+caps.length) (h:Kp (jT k caps st) sb):Kp st (wb caps (sb.drop k) st):=by
 have dl:(sb.drop k).length=caps.length:=by rw[Xk];lia
 have cap:∀(j i:Nat),caps[j]?=some i->(wb caps (sb.drop k) st)[i]?=sb[k+j]?:=fun j i h=>by
  rw[D2 caps _ st nd dl h (lt i (Wa h)),Qf]
 refine⟨vE _ _ _,fun i s e g=>?_,fun i d e=>?_⟩
 ·by_cases hc:i∈caps
  ·obtain⟨j,hj⟩:=Ym hc;rw[cap j i hj];exact h.has (k+j) s (by rw[wG hj,e];rfl) g
  ·exact⟨s,by rw[oF _ _ _ hc];exact e,g⟩
 ·by_cases hc:i∈caps
  ·obtain⟨j,hj⟩:=Ym hc;rw[cap j i hj];exact h.io (k+j) d (by rw[wG hj,e];rfl)
  ·exact⟨d,by rw[oF _ _ _ hc];exact e⟩
theorem rG (i:Nat) (s:Sl) (h:(jT k caps st)[i]?=some s) (hi:i<k):s=.e:=by grind [Sl,jT]
def Pu (K:PySem.W.Frag) (Z:AS) (caps:List Nat) (st:En) (σ:St) (J:It) (items:List D) (H:Hp) (O:AS):Prop:=∀H' Oi,Ext (Ob caps st σ) H Oi H'->(∀p,U (Oo caps st σ O Oi) Z p->Lv H' p)->(∀i,items.length<=i->J.stop i H')/\∀(i:Nat) d,items[i]?=some d->J.go i H'/\∀x H'',J.yld i H' x H''->Same H' H''/\DA K (U (Oo caps st σ O Oi) Z) H'' x d
def Ng (K:PySem.W.Frag) (caps:List Nat) (wi:TI) (fi:FI):Prop:=∀(st:En) (σ:St) (H:Hp) (O Z:AS) (R:It->Hp->Prop),ER K st σ H O Z->∀items st',fi st=some (items,st') ->
 (∀J H' O',Ext O H O' H'->Kp st st'->ER K st' σ H' O' Z->Pu K Z caps st' σ J items H' O'->R J H')->wi σ H R
theorem RdI.ic (h:RdI K wi fi):Ng K caps wi fi:=fun st σ H O Z R E items st' e q =>
 h st σ H O Z R E items st' e fun J H1 O1 x1 k1 E1 it=>q J H1 O1 x1 k1 E1 fun H' Oi x2 lv=>it H' _ (vF E1 x2) lv
theorem D7 (hi:Ng K caps wi fi) (hg:Kn K g fg tg) (ht:∀j∈tg,j<k) (hc:vd K tc fc) (he:d7 K te fe) :
  d7 K (qo k caps wi g tc te) (dN k caps fi fg fc fe):=by
 intro st σ H O Z Q E r st' h q;refine dM h fun items st1 e1 h=>?_;by_cases hok:(rF caps st1.length&&decide (items.length<=1000000))=true
 rotate_left
 ·simp only[Ai hok]at h;cases h
 simp only[Ae hok]at h;refine dM h fun total sf e2 h=>?_;cases h;have hok1:caps.Nodup/\(∀i∈caps,i<st1.length)/\items.length<=1000000:=by
  rw[Yh,decide_eq_true_eq]at hok;unfold rF at hok;rw[Yh,decide_eq_true_eq,Vm]at hok;exact⟨hok.1.1,fun i hi=>Al (hok.1.2 i hi),hok.2⟩
 obtain⟨nd,lt,hfew⟩:=hok1;refine hi st σ H O Z _ E items st1 e1 fun J H1 O1 x1 k1 E1 it=>?_;have bl:(ni k caps σ).length=k+caps.length:=by simp[ni]
 have el:(jT k caps st1).length=k+caps.length:=by simp[jT]
 refine⟨items.length,fun i xs H'=>∃sb Oi ds ds2,Ext (Ob caps st1 σ) H1 Oi H'/\ER K sb (ni k caps σ) H' Oi (Zb caps st1 σ O1 Z)/\El K (U Oi (Zb caps st1 σ O1 Z)) H' xs ds/\cN fg fc fe k (items.drop i) sb=some (ds2,sf)/\ds++ds2=total/\Kp (jT k caps st1) sb/\xs.length<=i,
  ⟨jT k caps st1,Ob caps st1 σ,[],total,Ext.refl _ _,Ku E1 nd,El.nil,e2,rfl,Kp.refl _,Xa _⟩,?_,?_⟩
 ·rintro xs H' ⟨sb,Oi,ds,ds2,x2,B,exs,e3,ed,kb,_⟩;rw[DC (Xa _)]at e3;obtain⟨rfl,rfl⟩:([]:List D)=ds2/\sb=sf:=by
   have:=Option.some.inj e3;exact⟨congrArg Prod.fst this,congrArg Prod.snd this⟩
  rw[Qe]at ed;subst ed;obtain⟨stop,_⟩:=it H' Oi x2 (D5 E1 nd lt (kb.len.trans el) x2 B).liv;refine⟨stop _ (Xa _),fun p hp=>?_⟩;have sl:sb.length=k+caps.length:=kb.len.trans el;have Eo:=D5 E1 nd lt sl x2 B;have ko:=Nf nd lt sl kb;have el2:El K (U (Oo caps st1 σ O1 Oi) Z) H' xs ds:=exs.less fun b z=>by
   rcases z with(z|z)|z
   ·exact .inl z
   ·exact .inr (.inr z)
   ·exact .inr (.inl z)
  obtain⟨E3,rv⟩:=Eo.new hp el2;have xx:=x1.trans (vF E1 x2);exact q _ _ _ (xx.trans (Same.ext (aU hp _))) (k1.trans ko) E3 rv fun p' e=>by cases e;exact xx.dead hp
 ·rintro i xs H' hlt ⟨sb,Oi,ds,ds2,x2,B,exs,e3,ed,kb,hxl⟩;have hd:items.drop i=items[i]::items.drop (i+1):=Zl hlt;rw[hd]at e3;refine bP e3 fun s1 e4 e3=>?_;refine dM e3 fun c s2 e5 e3=>?_;obtain⟨_,go⟩:=it H' Oi x2 (D5 E1 nd lt (kb.len.trans el) x2 B).liv;obtain⟨g1,g2⟩:=go i _ (Za hlt);refine⟨g1,AI hxl (Xc hlt (kz hfew)),fun x H'' hy=>?_⟩;obtain⟨sm,da⟩:=g2 x H'' hy;have xm:Ext Oi H' Oi H'':=Same.ext sm;have da':DA K (U Oi (Zb caps st1 σ O1 Z)) H'' x items[i]:=da.less fun b z=>by
   rcases z with z|z|z
   ·exact .inl (.inl z)
   ·exact .inr z
   ·exact .inl (.inr z)
  refine hg sb _ H'' Oi _ x _ _ (B.same sm) da' s1 e4 fun τ kt kq3 E4=>?_;have sl:sb.length=k+caps.length:=kb.len.trans el;have tl:τ.length=(ni k caps σ).length:=by rw[← E4.len,kq3.len,sl,bl]
  have tk:∀j,k<=j->(ni k caps σ)[j]?=τ[j]?:=fun j hj=>((kt j fun z=>absurd (ht j z) (by lia)).1).symm
  have drop:τ.drop k=(ni k caps σ).drop k:=by
   refine CM fun j=>?_;rw[Qf,Qf];exact(tk _ (by lia)).symm
  have kp1:Kp (jT k caps st1) s1:=by
   refine⟨kq3.len.trans kb.len,fun j s e g=>?_,fun j d e=>?_⟩
   ·by_cases hj:j<k
    ·have:=rG j s e hj;subst this;exact absurd rfl g
    ·obtain⟨s',e',g'⟩:=kb.has j s e g;exact⟨s',by rw[(kt j fun z=>absurd (ht j z) (by lia)).2];exact e',g'⟩
   ·by_cases hj:j<k
    ·have:=rG j _ e hj;cases this
    ·obtain⟨d',e'⟩:=kb.io j d e;exact⟨d',by rw[(kt j fun z=>absurd (ht j z) (by lia)).2];exact e'⟩
  refine hc s1 τ H'' Oi _ _ E4 c s2 e5 fun H3 O3 x3 k3 E5=>?_;have kp2:=kp1.trans k3;cases c with
  | false =>
   simp only[Ye,if_false]at e3 ⊢;have hs2:k<=s2.length:=by rw[kp2.len,el];lia
   exact⟨drop,rE k s2,O3,ds,ds2,(x2.trans xm).trans x3,D4 E5 tl.symm hs2 tk,exs.ext (xm.trans x3),e3,ed,D6 rG kp2 hs2,by lia⟩
  | true =>
   rw[Ae rfl]at e3 ⊢;refine dM e3 fun ry s3 e6 e3=>?_;refine dM e3 fun dy s4 e7 e3=>?_;refine dM e3 fun ds3 sf' e8 e3=>?_;cases e3;refine he s2 τ H3 O3 _ _ E5 ry s3 e6 fun y H4 O4 x4 k4 E6 rv w=>?_;obtain⟨O5,x5,k5,E7,day⟩:=rv.esc E6 e7;have kp3:=(kp2.trans k4).trans k5;have hs4:k<=s4.length:=by rw[kp3.len,el];lia
   refine⟨drop,rE k s4,O5,ds++[dy],ds3,(((x2.trans xm).trans x3).trans x4).trans x5,D4 E7 tl.symm hs4 tk,(exs.ext (((xm.trans x3).trans x4).trans x5)).app (El.one day),e8,by rw[Xe];exact ed,D6 rG kp3 hs4,by simp;lia⟩
theorem cW (hi:RdI K wi fi) (hg:Kn K g fg tg) (ht:∀j∈tg,j<k) (hc:vd K tc fc) (he:d7 K te fe) :
  d7 K (qo k caps wi g tc te) (dN k caps fi fg fc fe):=D7 hi.ic hg ht hc he
def kC (n:Nat) (ds:List D):En:=ds.map Sl.v++List.replicate (n-ds.length) Sl.e
def Kv (st:En):Rs->Option Rz
 | .d x=>some (x,false)
 | .f x=>some (x,true)
 | .s i=>match st[i]? with
  | some (.o x)=>some (x,true)
  | some (.v x)=>some (x,false)
  | _=>none
def fin:Ot->Option Rz
 | .nx _=>some (.non,false)
 | .rt r st=>Kv st r
 | _=>none
def bL (F:FS) (n m:Nat):List D->Option Rz:=fun ds=>if ds.length=m then(F (kC n ds)).bind fin else none
theorem D8 {N:List Str} (el:El K Z H vs ds) (lv:∀p,Z p->Lv H p):ER K (kC N.length ds) (L2.start N vs) H (fun _=>False) Z:=by
 have gv:∀(i:Nat) s,(kC N.length ds)[i]?=some s->s.get≠none->∃d,s=.v d/\ds[i]?=some d:=fun i s e n=>by
  unfold kC at e;by_cases hi:i<ds.length
  ·rw[Yi (by simpa using hi),Qc]at e
   obtain⟨d,h1,h2⟩:=Vc.mp e;exact⟨d,h2.symm,h1⟩
  ·rw[Wf (by simpa using hi),Yn]at e
   by_cases hz:i-(ds.map Sl.v).length<N.length-ds.length
   ·rw[Ae hz]at e;cases e;exact absurd rfl n
   ·rw[Ai hz]at e;cases e
 have no:∀(i:Nat) s d,(kC N.length ds)[i]?=some s->s.ow=some d->False:=fun i s d e h=>by
  obtain⟨x,rfl,_⟩:=gv i s e (ja h);cases h
 refine⟨by simp[kC,L2.start,el.1],fun i d e=>?_,fun i s d e h=>(no i s d e h).elim,fun i j s t d d' p e h=>(no i s d e h).elim,fun p h=>h.elim,fun p h=>h.elim (fun z=>z.elim) (lv p)⟩
 obtain⟨x,h1,h2⟩:=gv i _ e (by simp[Sl.get])
 cases h1;obtain⟨v,g1,g2⟩:=el.at h2;refine⟨v,?_,g2.less fun b z=>z.elim (fun y=>y.elim) fun y=>y⟩;unfold L2.start;have hi:=(Wb.mp g1).1;rw[Yi (by simpa using hi),Qc,g1];rfl
theorem G2 {N:List Str} (h:qq K ts F) (sp:gX K (bL F N.length m) vs H Q XE):ts { nx:=fun _ H'=>Q .non H',rt:=Q } (L2.start N vs) H:=by
 obtain⟨Z,ds,z,el,lv,e,q⟩:=sp;have hm:ds.length=m:=by
  by_cases hm:ds.length=m
  ·exact hm
  ·simp only[bL,Ai hm]at e;cases e
 simp only[bL,Ae hm]at e;refine bP e fun o e1 e2=>?_;have same:∀{O':AS} {H':Hp},Ext (fun _=>False) H O' H'->Same H H':=fun {O' H'} x b o e=>x.kp b o e fun z=>z;refine h _ _ H _ Z _ (D8 el lv) o e1 ?_;cases o with
 | nx s =>
  cases e2;exact fun σ' H' O' x _ _=>q .non H' (same x) .non
 | bk s=>cases e2
 | ct s=>cases e2
 | rt r s =>
  intro v σ' H' O' x k E rv w;have sub:∀b,Z b->U O' Z b:=fun b z=>.inr z;cases r with
  | d y=>cases e2;exact q v H' (same x) (DA.less (show DA K (U O' Z) H' v y from rv) sub)
  | f y =>
   cases e2;obtain⟨p,rfl,h1,h2,h3,_⟩:=rv;exact q _ H' (same x) ⟨p,rfl,w p rfl,h3.go rfl (fun _ _ e _=>e) fun b z=>.inl (z.elim .inl fun y=>.inr (.inr y))⟩
  | s i =>
   obtain⟨h1,t,h2,h3⟩:=rv
   have e2':(match s[i]? with
    | some (.o x)=>some (x,true)
    | some (.v x)=>some (x,false)
    | _=>none)=some z:=e2
   rw[h2]at e2';cases t with
   | e=>cases e2'
   | io y=>cases e2'
   | v y =>
    cases e2';obtain⟨u,g1,g2⟩:=E.val i y h2;rw[h1]at g1;cases g1;exact q v H' (same x) (g2.less sub)
   | o y =>
    cases e2';obtain⟨p,g1,g2,g3⟩:=E.own i _ y h2 rfl;rw[h1]at g1;cases g1;refine q _ H' (same x) ⟨p,rfl,(x.nw p g2).elim (fun z=>z.elim) (fun z=>z),g3.go rfl (fun _ _ e _=>e) fun b z=>.inl (z.elim (fun y=>.inl (by rw[y];exact g2)) fun y=>.inr y)⟩
def gK (n:Nat) (x:D) (ds:List D):En:=Sl.io x::(ds.map Sl.v++List.replicate (n-(ds.length+1)) Sl.e)
def yN (z:Option Rz) (st:En):Option (Rz×D):=match st[0]? with
 | some (Sl.io x)=>z.bind fun y=>some (y,x)
 | _=>none
def IQ:Ot->Option (Rz×D)
 | .nx st=>yN (some (.non,false)) st
 | .rt r st=>yN (Kv st r) st
 | _=>none
def fz (F:FS) (n m:Nat):D->List D->Option (Rz×D):=fun x ds=>if ds.length+1=m then(F (gK n x ds)).bind IQ else none
theorem yO {N : List Str} (nz : ¬ Z f) (ho : OA K (ins f Z) H f x) (el : El K (ins f Z) H ws ds) (lv : ∀ p, Z p → Lv H p) : ER K (gK N.length x ds) (L2.start N (.ref f :: ws)) H (fun b => b = f) Z := by
  have gv : ∀ (i : Nat) s, (gK N.length x ds)[i]? = some s → s.get ≠ none → (i = 0 ∧ s = .io x) ∨ ∃ j d, i = j + 1 ∧ s = .v d ∧ ds[j]? = some d := fun i s e n => by
    cases i with
    | zero => left; exact ⟨rfl, by have : Sl.io x = s := by simpa [gK] using e
                                   exact this.symm⟩
    | succ j =>
      right;have e : (ds.map Sl.v ++ List.replicate (N.length - (ds.length + 1)) Sl.e)[j]? = some s := by simpa [gK] using e
      by_cases hi : j < ds.length
      · rw [BL (by simpa using hi), CL] at e
        obtain ⟨d, h1, h2⟩ := Option.map_eq_some_iff.mp e;exact ⟨j, d, rfl, h2.symm, h1⟩
      · rw [Dg (by simpa using hi), Du] at e
        by_cases hz : j - (ds.map Sl.v).length < N.length - (ds.length + 1)
        · rw [Ae hz] at e; cases e; exact absurd rfl n
        · rw [Ai hz] at e; cases e
  have s0 : (L2.start N (.ref f :: ws))[0]? = some (some (.ref f)) := by simp [L2.start]
  have own0 : ∀ (i : Nat) s d, (gK N.length x ds)[i]? = some s → s.ow = some d → i = 0 ∧ d = x := fun i s d e h => by
    rcases gv i s e (ja h) with ⟨h1, rfl⟩ | ⟨j, d', _, rfl, _⟩
    · cases h; exact ⟨h1, rfl⟩
    · cases h
  refine ⟨by simp [gK, L2.start, el.1], fun i d e => ?_, fun i s d e h => ?_, fun i j s t d d' p e h e' h' _ _ => ?_, fun p h => by rw [h]; exact nz, fun p h => ?_⟩
  · rcases gv i _ e (by simp [Sl.get]) with ⟨_, h⟩ | ⟨j, d', rfl, h, h2⟩
    · cases h
    · cases h
      obtain ⟨v, g1, g2⟩ := el.at h2;refine ⟨v, ?_, g2⟩;have hi := (List.getElem?_eq_some_iff.mp g1).1;unfold L2.start;rw [BL (by simp; lia), CL]
      simp [g1]
  · obtain ⟨rfl, rfl⟩ := own0 i s d e h
    exact ⟨f, s0, rfl, ho⟩
  · rw [(own0 i s d e h).1, (own0 j t d' e' h').1]
  · rcases h with h | h
    · rw [h]; exact ho.lv
    · exact lv p h
theorem yP {N:List Str} (h:qq K ts F) (sp:rA K (fz F N.length m) vs H Q XE):ts { nx:=fun _ H'=>Q .non H',rt:=Q } (L2.start N vs) H:=by
 obtain⟨f,ws,Z,x,ds,z,x',rfl,nz,ho,el,lv,e,q⟩:=sp;have hm:ds.length+1=m:=by
  by_cases hm:ds.length+1=m
  ·exact hm
  ·simp only[fz,Ai hm]at e;cases e
 simp only[fz,Ae hm]at e;refine bP e fun o e1 e2=>?_;have but:∀{O':AS} {H':Hp},Ext (fun b=>b=f) H O' H'->∀b o,H b=some o->b≠f->H' b=some o:=fun {O' H'} x b o e n=>x.kp b o e n;have i0:(gK N.length x ds)[0]?=some (.io x):=rfl;have s0:(L2.start N (.ref f::ws))[0]?=some (some (.ref f)):=by simp[L2.start]
 have f0:∀{s:En} {σ':St} {H':Hp} {O':AS} {y:D},Kq (gK N.length x ds) (L2.start N (.ref f::ws)) s σ'->ER K s σ' H' O' Z->s[0]?=some (.io y)->O' f/\OA K (U O' Z) H' f y:=fun {s σ' H' O' y} k E e=>by
  obtain⟨g1,_⟩:=k.io 0 x i0;obtain⟨p,h1,h2,h3⟩:=E.own 0 _ y e rfl;rw[g1,s0]at h1;cases h1;exact⟨h2,h3⟩
 refine h _ _ H _ Z _ (yO nz ho el lv) o e1 ?_;cases o with
 | bk s=>cases e2
 | ct s=>cases e2
 | nx s =>
  intro σ' H' O' x2 k E;have e3:yN (some (.non,false)) s=some (z,x'):=e2;unfold yN at e3;split at e3
  ·rename_i y ey
   cases e3;obtain⟨h1,h2⟩:=f0 k E ey;exact q .non H' (but x2) ⟨.non,h2.go rfl (fun _ _ e _=>e) fun b z=>.inl (z.elim (fun w=>.inl (by rw[w];exact h1)) .inr)⟩
  ·cases e3
 | rt r s =>
  intro v σ' H' O' x2 k E rv w;have e3:yN (Kv s r) s=some (z,x'):=e2;unfold yN at e3;split at e3
  ·rename_i y ey
   refine bP e3 fun z' e4 e3=>?_;cases e3;obtain⟨h1,h2⟩:=f0 k E ey;have sub:∀b,ins f Z b->U O' Z b:=fun b z=>z.elim (fun w=>.inl (by rw[w];exact h1)) .inr
   cases r with
   | d u=>cases e4;exact q v H' (but x2) ⟨DA.less (show DA K (U O' Z) H' v u from rv) sub,h2.go rfl (fun _ _ e _=>e) fun b z=>.inl (sub b z)⟩
   | f u =>
    cases e4;obtain⟨p,rfl,g1,g2,g3,E2⟩:=rv;obtain⟨h3,h4⟩:=f0 k E2 ey;exact q _ H' (but x2) ⟨p,rfl,w p rfl,g3.go rfl (fun _ _ e _=>e) (fun b z=>.inl (z.elim .inl fun y=>.inr (sub b y))),h4.go rfl (fun _ _ e _=>e) fun b z=>.inl (z.elim (fun y=>.inl (.inl y)) fun y=>(sub b y).elim (fun a=>.inl (.inr a)) .inr)⟩
   | s i =>
    obtain⟨g1,t,g2,g3⟩:=rv
    have e5:(match s[i]? with
     | some (.o x)=>some (x,true)
     | some (.v x)=>some (x,false)
     | _=>none)=some z:=e4
    rw[g2]at e5;cases t with
    | e=>cases e5
    | io u=>cases e5
    | v u =>
     cases e5;obtain⟨u',j1,j2⟩:=E.val i u g2;rw[g1]at j1;cases j1;exact q v H' (but x2) ⟨j2.less sub,h2.go rfl (fun _ _ e _=>e) fun b z=>.inl (sub b z)⟩
    | o u =>
     cases e5;obtain⟨p,j1,j2,j3⟩:=E.own i _ u g2 rfl;rw[g1]at j1;cases j1;have npf:p≠f:=fun z=>by
      subst z;obtain⟨p0,l1,_⟩:=E.own 0 _ _ ey rfl;obtain⟨l2,_⟩:=k.io 0 x i0;rw[l2,s0]at l1;cases l1;have:=E.uni i 0 _ _ u _ _ g2 rfl ey rfl g1 (by rw[l2,s0])
      subst this;rw[ey]at g2;cases g2
     have hp:H p=none:=(x2.nw p j2).elim (fun z=>absurd z npf) (fun z=>z);have sub2:∀b,ins p (ins f Z) b->U O' Z b:=fun b z=>z.elim (fun y=>.inl (by rw[y];exact j2)) (sub b)
     exact q _ H' (but x2) ⟨p,rfl,hp,j3.go rfl (fun _ _ e _=>e) (fun b z=>.inl (sub2 b z)),h2.go rfl (fun _ _ e _=>e) fun b z=>.inl (sub2 b z)⟩
  ·cases e3
theorem Kw (sp:gX K (bL F n m) vs H Q XE):vs.length=m:=by
 obtain⟨Z,ds,z,el,lv,e,q⟩:=sp;by_cases hm:ds.length=m
 ·exact el.1.trans hm
 ·simp only[bL,Ai hm]at e;cases e
theorem Nh (sp:rA K (fz F n m) vs H Q XE):vs.length=m:=by
 obtain⟨f,ws,Z,x,ds,z,x',rfl,nz,ho,el,lv,e,q⟩:=sp;by_cases hm:ds.length+1=m
 ·have:=el.1;simp;lia
 ·simp only[fz,Ai hm]at e;cases e
end
end VF
namespace VF
open PySem L2
section
variable {K:PySem.W.Frag} {Y Y':AS} {H H':Hp} {v:V} {d:D} {vs:List V} {ds:List D}
def jU (b b':D->D->Option Rz):D->D->Option Rz:=fun x y=>match b x y with
 | some z=>some z
 | none=>b' x y
theorem RdOp.or (h:RdOp K r b) (h':RdOp K r' b'):RdOp K (fun x y H Q=>r x y H Q∨r' x y H Q) (jU b b'):=by grind [RdOp,jU]
def Ni (b b':List D->Option Rz):List D->Option Rz:=fun x=>match b x with
 | some z=>some z
 | none=>b' x
theorem RdCB.or (h:RdCB K r b) (h':RdCB K r' b'):RdCB K (fun xs H Q=>r xs H Q∨r' xs H Q) (Ni b b'):=by grind [RdCB,Ni]
def Mw (g:Int->Int->D):D->D->Option Rz
 | .int i,.int j=>some (g i j,false)
 | _,_=>none
theorem tW (h:∀Y H i j,DA K Y H (gV i j) (gD i j)):RdOp K (vn gV) (Mw gD):=by
 intro Y H x y d1 d2 z Q lv b1 b2 e q;cases d1 with
 | int i =>
  cases d2 with
  | int j =>
   cases e;exact⟨i,j,b1,b2,q _ H (Same.refl H) (h Y H i j)⟩
  | _=>cases e
 | _=>cases e
def bI (C:Int->Int->Prop) [∀i j,Decidable (C i j)] (g:Int->Int->D):D->D->Option Rz
 | .int i,.int j=>if C i j then some (g i j,false) else none
 | _,_=>none
theorem G3 [dc:∀i j,Decidable (C i j)] (h:∀Y H i j,DA K Y H (gV i j) (gD i j)):RdOp K (rI C gV) (bI C gD):=by
 intro Y H x y d1 d2 z Q lv b1 b2 e q;cases d1 with
 | int i =>
  cases d2 with
  | int j =>
   obtain⟨c,e⟩:=aL e;cases e;exact⟨i,j,b1,b2,c,q _ H (Same.refl H) (h Y H i j)⟩
  | _=>cases e
 | _=>cases e
instance (i j:Int):Decidable (CMul i j):=by unfold CMul;infer_instance
instance (i j:Int):Decidable (vo i j):=by unfold vo;infer_instance
instance (i j:Int):Decidable (zP i j):=by unfold zP;infer_instance
def tX:=Mw fun i j=>.int (i+j)
def G4:=Mw fun i j=>.int (i-j)
def wH:=bI CMul fun i j=>.int (i*j)
def vG:=bI vo fun i j=>.int (i / j)
def oG:=bI (fun _ j=>0<j) fun i j=>.int (i % j)
def Nj:=bI zP fun i j=>.int (i ^ j.toNat)
def Kx:=Mw fun i j=>.bl (decide (i<j))
def Mx:=Mw fun i j=>.bl (decide (j<i))
def Ph:=Mw fun i j=>.bl (decide (j<=i))
theorem ro_addI:RdOp K (vn fun i j=>.int (i+j)) tX:=tW fun _ _ _ _=>.int _
theorem D9:RdOp K (vn fun i j=>.int (i-j)) G4:=tW fun _ _ _ _=>.int _
theorem ro_mulI:RdOp K (rI CMul fun i j=>.int (i*j)) wH:=G3 fun _ _ _ _=>.int _
theorem rH:RdOp K (rI vo fun i j=>.int (i / j)) vG:=G3 fun _ _ _ _=>.int _
theorem jb:RdOp K (rI (fun _ j=>0<j) fun i j=>.int (i % j)) oG:=G3 fun _ _ _ _=>.int _
theorem Ky:RdOp K (rI zP fun i j=>.int (i ^ j.toNat)) Nj:=G3 fun _ _ _ _=>.int _
theorem ro_ltI:RdOp K (vn fun i j=>.bl (decide (i<j))) Kx:=tW fun _ _ _ _=>.bl _
theorem Ea:RdOp K (vn fun i j=>.bl (decide (j<i))) Mx:=tW fun _ _ _ _=>.bl _
theorem Nk:RdOp K (vn fun i j=>.bl (decide (j<=i))) Ph:=tW fun _ _ _ _=>.bl _
def tY:D->Option Rz
 | .int i=>some (.int (-i),false)
 | _=>none
theorem oH:Nb K (rU fun i=>.int (-i)) tY:=by
 intro Y H x d1 z Q lv b1 e q;cases d1 with
 | int i=>cases e;exact⟨i,b1,q _ H (Same.refl H) (.int _)⟩
 | _=>cases e
def My:D->Option V
 | .non=>some .non
 | .bl b=>some (.bl b)
 | .int i=>some (.int i)
 | .str x=>some (.str x)
 | _=>none
theorem mE (h:BA K Y H v d) (e:My d=some w):v=w:=by
 cases d with
 | non=>cases e;exact h
 | bl b=>cases e;exact h
 | int i=>cases e;exact h
 | str x=>cases e;exact h
 | _=>cases e
theorem tZ (e:My d=some w):jW w=true:=by
 cases d with
 | non=>cases e;rfl
 | bl b=>cases e;rfl
 | int i=>cases e;rfl
 | str x=>cases e;rfl
 | _=>cases e
def yQ (neg:Bool):D->D->Option Rz:=fun a b=>(My a).bind fun x=>(My b).bind fun y=>if JN x y=true then some (.bl (if neg then !decide (x=y) else decide (x=y)),false) else none
theorem Kz:RdOp K MW (yQ false):=by
 intro Y H x y d1 d2 z Q lv b1 b2 e q;refine bP e fun x' e1 e=>?_;refine bP e fun y' e2 e=>?_;obtain⟨c,e⟩:=aL e;cases e;obtain rfl:=mE b1 e1;obtain rfl:=mE b2 e2;exact⟨c,q _ H (Same.refl H) (.bl _)⟩
theorem ro_neS:RdOp K OO (yQ true):=by
 intro Y H x y d1 d2 z Q lv b1 b2 e q;refine bP e fun x' e1 e=>?_;refine bP e fun y' e2 e=>?_;obtain⟨c,e⟩:=aL e;cases e;obtain rfl:=mE b1 e1;obtain rfl:=mE b2 e2;exact⟨c,q _ H (Same.refl H) (.bl _)⟩
def D.isN:D->Bool
 | .non=>true
 | _=>false
theorem Eb (h:BA K Y H v d):decide (v=.non)=d.isN:=by
 cases d with
 | non=>rw[show v=V.non from h];rfl
 | bl b=>rw[show v=V.bl b from h];rfl
 | int i=>rw[show v=V.int i from h];rfl
 | str x=>rw[show v=V.str x from h];rfl
 | ty x=>rw[show v=V.ty x from h];rfl
 | tup ds=>obtain⟨a,_,rfl,_⟩:=h;rfl
 | lst ds=>obtain⟨a,_,rfl,_⟩:=h;rfl
 | fl ds=>obtain⟨a,_,rfl,_⟩:=h;rfl
 | dk ds=>obtain⟨a,_,rfl,_⟩:=h;rfl
 | dt ds=>obtain⟨a,_,_,rfl,_⟩:=h;rfl
 | xc _ _ _=>obtain⟨a,rfl,_⟩:=h;rfl
def nA (neg:Bool):D->D->Option Rz
 | a,.non=>some (.bl (if neg then !a.isN else a.isN),false)
 | _,_=>none
theorem rJ:RdOp K (fun x y H Q=>y=.non/\Q (.bl (decide (x=.non))) H) (nA false):=by
 intro Y H x y d1 d2 z Q lv b1 b2 e q;cases d2 with
 | non =>
  cases e;refine⟨b2,?_⟩;rw[Eb b1];exact q _ H (Same.refl H) (.bl _)
 | _=>cases e
theorem G5:RdOp K (fun x y H Q=>y=.non/\Q (.bl (!decide (x=.non))) H) (nA true):=by
 intro Y H x y d1 d2 z Q lv b1 b2 e q;cases d2 with
 | non =>
  cases e;refine⟨b2,?_⟩;rw[Eb b1];exact q _ H (Same.refl H) (.bl _)
 | _=>cases e
def t4:D->D->Option Rz
 | .str a,.str b=>if a.length+b.length<=1000000 then some (.str (a++b),false) else none
 | _,_=>none
theorem ro_addS:RdOp K (fun x y H Q=>∃i j,x=.str i/\y=.str j/\i.length+j.length<=sizeLine/\Q (.str (i++j)) H) t4:=by
 intro Y H x y d1 d2 z Q lv b1 b2 e q;cases d1 with
 | str a =>
  cases d2 with
  | str b =>
   obtain⟨c,e⟩:=aL e;cases e;exact⟨a,b,b1,b2,kz c,q _ H (Same.refl H) (.str _)⟩
  | _=>cases e
 | _=>cases e
theorem gu (el:El K Y H vs ds) (hp:H p=none):RES K Y H (upd H p (.lst vs)) (.ref p) (.lst ds,true) :=
 ⟨p,rfl,hp,vs,bx,el.away (aU hp _) hp⟩
theorem jc (el:El K Y H vs ds) (hp:H p=none) (lv:∀p,Y p->Lv H p):RES K Y H (upd H p (.tup vs)) (.ref p) (.tup ds,false) :=
 .tup ⟨bx,fun z=>(lv p z).1 hp⟩ el.1 (el.same (aU hp _)).2
def Ec:D->D->Option Rz
 | .lst a,.lst b=>if a.length+b.length<=1000000 then some (.lst (a++b),true) else none
 | _,_=>none
theorem ro_cat:RdOp K Kb Ec:=by
 intro Y H x y d1 d2 z Q lv b1 b2 e q;cases d1 with
 | lst a =>
  cases d2 with
  | lst b =>
   obtain⟨c,e⟩:=aL e;cases e;obtain⟨p,xs,rfl,hp,el⟩:=b1;obtain⟨p2,ys,rfl,hp2,el2⟩:=b2;exact⟨p,p2,xs,ys,rfl,rfl,hp,hp2,by rw[el.1,el2.1];exact kz c,fun r hr=>q _ _ (aU hr _) (gu (el.app el2) hr)⟩
  | _=>cases e
 | _=>cases e
def qr:D->D->Option Rz
 | .tup (x::a),.tup (y::b)=>if a.length+b.length<=999998 then some (.tup ((x::a)++(y::b)),false) else none
 | .tup (x::a),.tup []=>if a.length<=999998 then some (.tup (x::a),false) else none
 | _,_=>none
theorem G6:RdOp K (DP K) qr:=by
 intro Y H x y d1 d2 z Q lv b1 b2 e q;cases d1 with
 | tup a =>
  cases a with
  | nil=>cases e
  | cons a0 a =>
  cases d2 with
  | tup b =>
   obtain⟨p,xs,rfl,hp,el⟩:=b1;obtain⟨p2,ys,rfl,hp2,el2⟩:=b2;have hx:xs≠[]:=fun z=>by have:=el.1;rw[z]at this;cases this
   cases b with
   | nil =>
    obtain⟨c,e⟩:=aL e;cases e;obtain rfl:=el2.unnil;exact⟨p,p2,xs,[],rfl,rfl,hp.sq,hp2.sq,hx,by rw[el.1];exact kz (by simp;lia),fun _=>q _ H (Same.refl H) (.tup hp el.1 el.2),fun z=>absurd rfl z⟩
   | cons b0 b =>
    obtain⟨c,e⟩:=aL e;cases e;have hy:ys≠[]:=fun z=>by have:=el2.1;rw[z]at this;cases this
    exact⟨p,p2,xs,ys,rfl,rfl,hp.sq,hp2.sq,hx,by rw[el.1,el2.1];exact kz (by simp;lia),fun z=>absurd z hy,fun _ r hr=>q _ _ (aU hr _) (jc (el.app el2) hr lv)⟩
  | _=>cases e
 | _=>cases e
def di:=jU tX (jU t4 (jU Ec qr))
def Ed:D->D->Option Rz
 | .str a,.int n=>if 0<=n/\n<=1000/\a.length<=1000 then some (.str (Txt.mul a n),false) else none
 | _,_=>none
theorem G7:RdOp K (fun x y H Q=>∃(a:Str) (n:Int),x=.str a/\y=.int n/\MulOk a n/\Q (.str (Txt.mul a n)) H) Ed:=by
 intro Y H x y d1 d2 z Q lv b1 b2 e q;cases d1 with
 | str a =>
  cases d2 with
  | int n =>
   obtain⟨c,e⟩:=aL e;cases e;exact⟨a,n,b1,b2,mulOk_of c.1 c.2.1 c.2.2,q _ H (Same.refl H) (.str _)⟩
  | _=>cases e
 | _=>cases e
def pV:=jU wH Ed
def Nl:D->D->Option Rz
 | .str a,.str b=>some (.bl (decide (a.cps.toList<b.cps.toList)),false)
 | _,_=>none
theorem KC:RdOp K (fun x y H Q=>∃i j,x=.str i/\y=.str j/\Q (.bl (decide (i.cps.toList<j.cps.toList))) H) Nl:=by
 intro Y H x y d1 d2 z Q lv b1 b2 e q;cases d1 with
 | str a =>
  cases d2 with
  | str b=>cases e;exact⟨a,b,b1,b2,q _ H (Same.refl H) (.bl _)⟩
  | _=>cases e
 | _=>cases e
def Mz:=jU Kx Nl
def KD (neg:Bool):D->D->Option Rz
 | .str a,.str b=>some (.bl (if neg then !(!(Builtin.Str.occurrences b a 0 b.length 1).isEmpty) else !(Builtin.Str.occurrences b a 0 b.length 1).isEmpty),false)
 | _,_=>none
theorem ro_inS:RdOp K (fun x y H Q=>∃i j,x=.str i/\y=.str j/\Q (.bl (!(Builtin.Str.occurrences j i 0 j.length 1).isEmpty)) H) (KD false):=by
 intro Y H x y d1 d2 z Q lv b1 b2 e q;cases d1 with
 | str a =>
  cases d2 with
  | str b=>cases e;exact⟨a,b,b1,b2,q _ H (Same.refl H) (.bl _)⟩
  | _=>cases e
 | _=>cases e
def qt:List D->Option (List V)
 | []=>some []
 | d::r=>(My d).bind fun v=>(qt r).bind fun vs=>some (v::vs)
theorem t8:∀{ds:List D} {vs ws:List V},El K Y H vs ds->qt ds=some ws->vs=ws/\ws.all jW=true
 | [],vs,ws,el,e=>by cases e;exact⟨el.unnil,rfl⟩
 | d::r,vs,ws,el,e=>by
  refine bP e fun w e1 e=>?_;refine bP e fun ws' e2 e=>?_;cases e;obtain⟨v,t,rfl,da,el⟩:=el.uncons;obtain⟨rfl,h⟩:=t8 el e2;have hv:=mE da.ba e1;subst hv;exact⟨rfl,by rw[BQ,tZ e1,h];rfl⟩
def D.seq:D->Option (List D)
 | .lst ds=>some ds
 | .tup ds=>some ds
 | .fl ds=>some ds
 | _=>none
theorem rK (h:BA K Y H v d) (e:d.seq=some ds):∃a vs,v=.ref a/\(gj K H a vs∨jP K H a vs)/\El K Y H vs ds:=by
 cases d with
 | lst _=>cases e;obtain⟨a,vs,h1,h2,h3⟩:=h;exact⟨a,vs,h1,.inl (.inl (.inl h2)),h3⟩
 | tup _=>cases e;obtain⟨a,vs,h1,h2,h3⟩:=h;exact⟨a,vs,h1,.inr h2.sq,h3⟩
 | fl _=>cases e;obtain⟨a,vs,h1,h2,h3⟩:=h;exact⟨a,vs,h1,.inl h2.sq,h3⟩
 | _=>cases e
def KF (neg:Bool):D->D->Option Rz:=fun a b=>(My a).bind fun x=>(b.seq).bind fun ds=>(qt ds).bind fun ws=>some (.bl (if neg then !II x ws else II x ws),false)
theorem KG (neg:Bool):RdOp K (OP K neg) (KF neg):=by
 intro Y H x y d1 d2 z Q lv b1 b2 e q;refine bP e fun x' e1 e=>?_;refine bP e fun ds e2 e=>?_;refine bP e fun ws e3 e=>?_;cases e;obtain⟨a,vs,rfl,sq,el⟩:=rK b2 e2;obtain rfl:=mE b1 e1;obtain⟨rfl,h⟩:=t8 el e3;exact⟨a,vs,rfl,sq,tZ e1,h,q _ H (Same.refl H) (.bl _)⟩
def Nn:=jU (KD false) (KF false)
def yR:D->D->Option Rz
 | .lst ds,.int i=>(jR ds i).bind fun d=>some (d,false)
 | .fl ds,.int i=>(jR ds i).bind fun d=>some (d,false)
 | _,_=>none
def Ee:D->D->Option Rz
 | .tup ds,.int i=>(jR ds i).bind fun d=>some (d,false)
 | _,_=>none
def G8:D->D->Option Rz
 | .str z,.int i=>if z.length<=1000000 then(jR z.cps.toList i).bind fun c=>some (.str ⟨#[c]⟩,false) else none
 | _,_=>none
theorem vH (el:El K Y H vs ds) (e:jR ds i=some d):∃v,jR vs i=some v/\DA K Y H v d:=by
 unfold jR at e ⊢;rw[el.1];refine bP e fun j e1 e2=>?_;obtain⟨v,h1,h2⟩:=el.at e2;exact⟨v,by rw[e1];exact h1,h2⟩
theorem ro_ixL:RdOp K (JX K) yR:=by
 intro Y H x y d1 d2 z Q lv b1 b2 e q;cases d1 with
 | lst a =>
  cases d2 with
  | int i =>
   refine bP e fun d e1 e=>?_;cases e;obtain⟨p,xs,rfl,hp,el⟩:=b1;obtain⟨v,h1,h2⟩:=vH el e1;exact⟨p,xs,i,v,rfl,b2,.inl (.inl hp),h1,q v H (Same.refl H) h2⟩
  | _=>cases e
 | fl a =>
  cases d2 with
  | int i =>
   refine bP e fun d e1 e=>?_;cases e;obtain⟨p,xs,rfl,hp,el⟩:=b1;obtain⟨v,h1,h2⟩:=vH el e1;exact⟨p,xs,i,v,rfl,b2,hp.sq,h1,q v H (Same.refl H) h2⟩
  | _=>cases e
 | _=>cases e
theorem ro_ixT:RdOp K (JY K) Ee:=by
 intro Y H x y d1 d2 z Q lv b1 b2 e q;cases d1 with
 | tup a =>
  cases d2 with
  | int i =>
   refine bP e fun d e1 e=>?_;cases e;obtain⟨p,xs,rfl,hp,el⟩:=b1;obtain⟨v,h1,h2⟩:=vH el e1;exact⟨p,xs,i,v,rfl,b2,hp.sq,h1,q v H (Same.refl H) h2⟩
  | _=>cases e
 | _=>cases e
theorem KJ:RdOp K JZ G8:=by
 intro Y H x y d1 d2 z Q lv b1 b2 e q;cases d1 with
 | str a =>
  cases d2 with
  | int i =>
   obtain⟨c,e⟩:=aL e;refine bP e fun ch e1 e=>?_;cases e;exact⟨a,i,ch,b1,b2,kz c,e1,q _ H (Same.refl H) (.str _)⟩
  | _=>cases e
 | _=>cases e
def bE:=jU yR (jU Ee G8)
theorem aZ:RdOp K (Ou K) bE:=ro_ixL.or (ro_ixT.or KJ)
abbrev FO:=En->Option (Option Int×En)
def Oz (K:PySem.W.Frag) (t:TO) (f:FO):Prop:=∀(st:En) (σ:St) (H:Hp) (O Z:AS) (Q:Option Int->Hp->Prop),ER K st σ H O Z->∀c st',f st=some (c,st') ->
 (∀H' O',Ext O H O' H'->Kp st st'->ER K st' σ H' O' Z->Q c H')->t σ H Q
def yS:FO:=fun st=>some (none,st)
theorem gL:Oz K wx yS:=by
 intro st σ H O Z Q E c st' e q;cases e;exact q H O (Ext.refl _ _) (Kp.refl _) E
def asInt (st:En) (r:Rs):Option Int:=match cont st r with
 | some (.int i)=>some i
 | _=>none
def dX (fe:FE):FO:=fun st=>(fe st).bind fun x=>(asInt x.2 x.1).bind fun i=>some (some i,x.2)
theorem cC (h:d7 K te fe):Oz K (IE te) (dX fe):=by
 intro st σ H O Z Q E c st' e q;refine dM e fun r st1 e1 e=>?_;refine bP e fun i e2 e=>?_;cases e;refine h st σ H O Z _ E r _ e1 fun v H1 O1 x1 k1 E1 rv w=>?_;have ev:v=.int i:=by
  unfold asInt at e2;split at e2
  ·rename_i j ej
   cases e2;exact rv.ba E1 ej
  ·cases e2
 exact⟨i,ev,q H1 O1 x1 k1 E1⟩
def RdSl (K:PySem.W.Frag) (r:V->Option Int->Option Int->Hp->VK->Prop) (b:D->Option Int->Option Int->Option Rz):Prop:=∀(Y:AS) (H:Hp) (x:V) (lo hi:Option Int) (d1:D) (z:Rz) (Q:VK),(∀p,Y p->Lv H p)->BA K Y H x d1->b d1 lo hi=some z ->
 (∀v H',Same H H'->RES K Y H H' v z->Q v H')->r x lo hi H Q
def t9 (b:D->Option Int->Option Int->Option Rz) (fe:FE) (fl fh:FO):FE:=fun st=>(fe st).bind fun x=>(fl x.2).bind fun l=>(fh l.2).bind fun u=>(cont u.2 x.1).bind fun d=>(b d l.1 u.1).bind fun z=>some (mk z,u.2)
theorem cO (hr:RdSl K r b) (he:d7 K te fe) (hl:Oz K tl fl) (hh:Oz K th fh):d7 K (Pf r te tl th) (t9 b fe fl fh):=by
 intro st σ H O Z Q E r' st' h q;refine dM h fun r1 st1 e1 h=>?_;refine dM h fun lo st2 e2 h=>?_;refine dM h fun hi st3 e3 h=>?_;refine bP h fun d1 e4 h=>?_;refine bP h fun z e5 h=>?_;cases h;refine he st σ H O Z _ E r1 st1 e1 fun v1 H1 O1 x1 k1 E1 rv1 w1=>?_;refine hl st1 σ H1 O1 Z _ E1 lo st2 e2 fun H2 O2 x2 k2 E2=>?_;refine hh st2 σ H2 O2 Z _ E2 hi _ e3 fun H3 O3 x3 k3 E3=>?_;have b1:=(rv1.nf.ext (x2.trans x3) (k2.trans k3)).ba E3 (by rw[jB];exact e4)
 refine hr (U O3 Z) H3 v1 lo hi d1 z _ E3.liv b1 e5 fun v H4 s hres=>?_;obtain⟨E4,rv4⟩:=hres.rv E3 s;have xx:=(x1.trans x2).trans x3;exact q v H4 O3 (xx.trans (Same.ext s)) ((k1.trans k2).trans k3) E4 rv4 (hres.fsh.back xx)
def cutD (xs:List D) (lo hi:Option Int):List D:=(xs.drop (HT.sIx xs.length 0 lo)).take (HT.sIx xs.length xs.length hi-HT.sIx xs.length 0 lo)
theorem El.cut (el:El K Y H vs ds) (lo hi:Option Int):El K Y H (tJ vs lo hi) (cutD ds lo hi):=by
 unfold tJ cutD;rw[el.1];exact(el.drop _).take _
def IR (b b':D->Option Int->Option Int->Option Rz):D->Option Int->Option Int->Option Rz:=fun x l h=>match b x l h with
 | some z=>some z
 | none=>b' x l h
theorem RdSl.or (h:RdSl K r b) (h':RdSl K r' b'):RdSl K (fun x lo hi H Q=>r x lo hi H Q∨r' x lo hi H Q) (IR b b'):=by grind [RdSl,IR]
def G9:D->Option Int->Option Int->Option Rz
 | .lst ds,lo,hi=>some (.lst (cutD ds lo hi),true)
 | .fl ds,lo,hi=>some (.lst (cutD ds lo hi),true)
 | _,_,_=>none
theorem No:RdSl K (J1 K) G9:=by
 intro Y H x lo hi d1 z Q lv b1 e q;cases d1 with
 | lst a =>
  cases e;obtain⟨p,xs,rfl,hp,el⟩:=b1;exact⟨p,xs,rfl,.inl (.inl hp),fun r hr=>q _ _ (aU hr _) (gu (el.cut lo hi) hr)⟩
 | fl a =>
  cases e;obtain⟨p,xs,rfl,hp,el⟩:=b1;exact⟨p,xs,rfl,hp.sq,fun r hr=>q _ _ (aU hr _) (gu (el.cut lo hi) hr)⟩
 | _=>cases e
def rL:D->Option Int->Option Int->Option Rz
 | .tup ds,lo,hi=>if HT.sIx ds.length 0 lo=0/\HT.sIx ds.length ds.length hi=ds.length then none else some (.tup (cutD ds lo hi),false)
 | _,_,_=>none
theorem Np:RdSl K (JV K) rL:=by
 intro Y H x lo hi d1 z Q lv b1 e q;cases d1 with
 | tup a =>
  by_cases c:HT.sIx a.length 0 lo=0/\HT.sIx a.length a.length hi=a.length
  ·simp only[rL,Ae c]at e;cases e
  ·simp only[rL,Ai c]at e;cases e;obtain⟨p,xs,rfl,hp,el⟩:=b1;exact⟨p,xs,rfl,hp.sq,by rw[el.1];exact c,fun r hr=>q _ _ (aU hr _) (jc (el.cut lo hi) hr lv)⟩
 | _=>cases e
def Ha:D->Option Int->Option Int->Option Rz
 | .str z,lo,hi=>if z.length<=1000000 then some (.str (Txt.slice z lo hi),false) else none
 | _,_,_=>none
theorem Nq:RdSl K (fun x lo hi H Q=>∃z:Str,x=.str z/\z.length<=sizeLine/\Q (.str (Txt.slice z lo hi)) H) Ha:=by
 intro Y H x lo hi d1 z Q lv b1 e q;cases d1 with
 | str a =>
  obtain⟨c,e⟩:=aL e;cases e;exact⟨a,b1,kz c,q _ H (Same.refl H) (.str _)⟩
 | _=>cases e
def IS:=IR G9 (IR rL Ha)
def IT:List D->Option Rz
 | [d]=>(d.seq).bind fun ds=>some (.int ds.length,false)
 | _=>none
theorem rc_lenQ:RdCB K (fun xs H Q=>∃p ys,xs=[.ref p]/\(gj K H p ys∨jP K H p ys)/\Q (.int ys.length) H) IT:=by
 intro Y H xs ds z Q lv bs e q;cases bs with
 | nil=>cases e
 | cons b1 bs =>
  cases bs with
  | cons _ _=>cases e
  | nil =>
   refine bP e fun es e1 e=>?_;cases e;obtain⟨a,vs,rfl,sq,el⟩:=rK b1 e1;refine⟨a,vs,rfl,sq,?_⟩;rw[el.1];exact q _ H (Same.refl H) (.int _)
def IU:List D->Option Rz
 | [.str z]=>if z.length<=1000000 then some (.int z.length,false) else none
 | _=>none
theorem Hb:RdCB K (fun xs H Q=>∃z:Str,xs=[.str z]/\z.length<=sizeLine/\Q (.int z.length) H) IU:=by
 intro Y H xs ds z Q lv bs e q;cases bs with
 | nil=>cases e
 | @cons v vs d ds b1 bs =>
  cases bs with
  | cons _ _=>cases d<;>cases e
  | nil =>
   cases d with
   | str a =>
    obtain⟨c,e⟩:=aL e;cases e;exact⟨a,by rw[show v=V.str a from b1],kz c,q _ H (Same.refl H) (.int _)⟩
   | _=>cases e
def fX:=Ni IT IU
def IV:List D->Option Rz
 | [d]=>(d.seq).bind fun ds=>some (.lst ds,true)
 | _=>none
theorem rc_list:RdCB K (fun xs H Q=>∃p ys,xs=[.ref p]/\(gj K H p ys∨jP K H p ys)/\∀l,H l=none->Q (.ref l) (upd H l (.lst ys))) IV:=by
 intro Y H xs ds z Q lv bs e q;cases bs with
 | nil=>cases e
 | cons b1 bs =>
  cases bs with
  | cons _ _=>cases e
  | nil =>
   refine bP e fun es e1 e=>?_;cases e;obtain⟨a,vs,rfl,sq,el⟩:=rK b1 e1;exact⟨a,vs,rfl,sq,fun r hr=>q _ _ (aU hr _) (gu el hr)⟩
def Ef:List D->Option Rz
 | [.lst ds]=>some (.tup ds,false)
 | [.fl ds]=>some (.tup ds,false)
 | [.tup ds]=>some (.tup ds,false)
 | _=>none
theorem rc_tuple:RdCB K (fun xs H Q=>∃p ys,xs=[.ref p]/\((gj K H p ys/\∀l,H l=none->Q (.ref l) (upd H l (.tup ys)))∨(jP K H p ys/\Q (.ref p) H))) Ef:=by
 intro Y H xs ds z Q lv bs e q;cases bs with
 | nil=>cases e
 | @cons v vs d ds b1 bs =>
  cases bs with
  | cons _ _=>cases d<;>cases e
  | nil =>
   cases d with
   | lst a =>
    cases e;obtain⟨p,xs,rfl,hp,el⟩:=b1;exact⟨p,xs,rfl,.inl ⟨.inl (.inl hp),fun r hr=>q _ _ (aU hr _) (jc el hr lv)⟩⟩
   | fl a =>
    cases e;obtain⟨p,xs,rfl,hp,el⟩:=b1;exact⟨p,xs,rfl,.inl ⟨hp.sq,fun r hr=>q _ _ (aU hr _) (jc el hr lv)⟩⟩
   | tup a =>
    cases e;obtain⟨p,xs,rfl,hp,el⟩:=b1;exact⟨p,xs,rfl,.inr ⟨hp.sq,q _ H (Same.refl H) (.tup hp el.1 el.2)⟩⟩
   | _=>cases e
def qu:List D->Option (List Bool)
 | []=>some []
 | .bl b::r=>(qu r).bind fun bs=>some (b::bs)
 | _=>none
theorem ua:∀{ds:List D} {vs:List V} {bs:List Bool},El K Y H vs ds->qu ds=some bs->vs=bs.map V.bl
 | [],vs,bs,el,e=>by cases e;exact el.unnil
 | d::r,vs,bs,el,e=>by
  obtain⟨v,t,rfl,da,el2⟩:=el.uncons;cases d with
  | bl b =>
   refine bP e fun bs' e1 e=>?_;cases e;have h:=ua el2 e1;rw[h,show v=V.bl b from da.ba];rfl
  | _=>cases e
def KK:List D->Option Rz
 | [.lst ds]=>(qu ds).bind fun bs=>some (.bl (bs.all id),false)
 | _=>none
theorem KM:RdCB K (fun xs H Q=>∃(p:Addr) (bs:List Bool),xs=[.ref p]/\gj K H p (bs.map V.bl)/\Q (.bl (bs.all id)) H) KK:=by
 intro Y H xs ds z Q lv bs e q;cases bs with
 | nil=>cases e
 | @cons v vs d ds b1 bs =>
  cases bs with
  | cons _ _=>cases d<;>cases e
  | nil =>
   cases d with
   | lst a =>
    refine bP e fun bs e1 e=>?_;cases e;obtain⟨p,xs,rfl,hp,el⟩:=b1;obtain rfl:=ua el e1;exact⟨p,bs,rfl,.inl (.inl hp),q _ H (Same.refl H) (.bl _)⟩
   | _=>cases e
def Hc (K:PySem.W.Frag) (r:V->List V->Hp->VK->Prop) (b:D->List D->Option Rz):Prop:=∀(Y:AS) (H:Hp) (x:V) (xs:List V) (d:D) (ds:List D) (z:Rz) (Q:VK),(∀p,Y p->Lv H p)->BA K Y H x d->BAs K Y H xs ds->b d ds=some z ->
 (∀v H',Same H H'->RES K Y H H' v z->Q v H')->r x xs H Q
def KN (T:String):D->Bool
 | .str _=>decide (T="str")
 | .lst _=>decide (T="list")
 | .dk _=>decide (T="dict")
 | .dt _=>decide (T="dict")
 | _=>false
theorem Nr (h:BA K Y H v d) (e:KN T d=true):Ms K T v H:=by
 cases d with
 | str x =>
  have e':T="str":=Al e;rw[show v=V.str x from h];exact e'
 | lst x=>obtain⟨a,vs,rfl,h1,_⟩:=h;exact .inl ⟨Al e,vs,.inl (.inl h1)⟩
 | dk x=>obtain⟨a,vs,rfl,h1,_⟩:=h;exact .inr (.inr (.inl ⟨Al e,.inl ⟨vs,h1⟩⟩))
 | dt x=>obtain⟨a,ep,vs,rfl,_,h1,_⟩:=h;exact .inr (.inr (.inl ⟨Al e,.inr ⟨ep,vs,h1⟩⟩))
 | _=>cases e
def KO (T:String) (b:D->List D->Option Rz) (fo:FE) (fa:FA):FE:=fun st=>(fo st).bind fun x=>(cont x.2 x.1).bind fun d0=>if KN T d0=true then(fa x.2).bind fun y=>(cont y.2 x.1).bind fun d=>(cU y.2 y.1).bind fun ds=>(b d ds).bind fun z=>some (mk z,y.2) else none
theorem wI (hr:Hc K r b) (ho:d7 K to fo) (ha:wF K ta fa):d7 K (Ov K T r to ta) (KO T b fo fa):=by
 intro st σ H O Z Q E r' st' h q;refine dM h fun r1 st1 e1 h=>?_;refine bP h fun d0 e2 h=>?_;obtain⟨c,h⟩:=aL h;refine dM h fun rs st2 e3 h=>?_;refine bP h fun d e4 h=>?_;refine bP h fun ds e5 h=>?_;refine bP h fun z e6 h=>?_;cases h;refine ho st σ H O Z _ E r1 st1 e1 fun v1 H1 O1 x1 k1 E1 rv1 w1=>⟨Nr (rv1.ba E1 e2) c,?_⟩;refine ha st1 σ H1 O1 Z _ E1 rs _ e3 fun vs H2 O2 x2 k2 E2 rvs=>?_;have b1:=(rv1.nf.ext x2 k2).ba E2 (by rw[jB];exact e4)
 refine hr (U O2 Z) H2 v1 vs d ds z _ E2.liv b1 (rvs.bas E2 e5) e6 fun v H3 s hres=>?_;obtain⟨E3,rv3⟩:=hres.rv E2 s;exact q v H3 O2 ((x1.trans x2).trans (Same.ext s)) (k1.trans k2) E3 rv3 (hres.fsh.back (x1.trans x2))
def gM:List D->Option (List Str)
 | []=>some []
 | .str x::r=>(gM r).bind fun xs=>some (x::xs)
 | _=>none
theorem jC:∀{ds:List D} {vs:List V} {xs:List Str},El K Y H vs ds->gM ds=some xs->vs=xs.map V.str
 | [],vs,xs,el,e=>by cases e;exact el.unnil
 | d::r,vs,xs,el,e=>by
  obtain⟨v,t,rfl,da,el2⟩:=el.uncons;cases d with
  | str b =>
   refine bP e fun xs' e1 e=>?_;cases e;have h:=jC el2 e1;rw[h,show v=V.str b from da.ba];rfl
  | _=>cases e
def Eg:D->List D->Option Rz
 | .str sep,[.lst ds]=>(gM ds).bind fun ys=>if (ys.map (·.length)).sum+ys.length*sep.length<=16777216 then some (.str (Txt.join sep ys),false) else none
 | _,_=>none
theorem Hd:Hc K (fun x vs H Q=>∃(sep:Str) (p:Addr) (ys:List Str),x=.str sep/\vs=[.ref p]/\gj K H p (ys.map V.str)/\(ys.map (·.length)).sum+ys.length*sep.length<=16777216/\Q (.str (Txt.join sep ys)) H) Eg:=by
 intro Y H x xs d ds z Q lv b1 bs e q;cases d with
 | str sep =>
  cases bs with
  | nil=>cases e
  | @cons v vs d ds b2 bs =>
   cases bs with
   | cons _ _=>cases d<;>cases e
   | nil =>
    cases d with
    | lst es =>
     refine bP e fun ys e1 e=>?_;obtain⟨c,e⟩:=aL e;cases e;obtain⟨p,ws,rfl,hp,el⟩:=b2;obtain rfl:=jC el e1;exact⟨sep,p,ys,b1,rfl,.inl (.inl hp),c,q _ H (Same.refl H) (.str _)⟩
    | _=>cases e
 | _=>cases e
def wJ:D->List D->Option Rz
 | .str a,[.str b]=>some (.bl (Txt.startswith a b),false)
 | _,_=>none
theorem yT:Hc K (fun x vs H Q=>∃(a b:Str),x=.str a/\vs=[.str b]/\Q (.bl (Txt.startswith a b)) H) wJ:=by
 intro Y H x xs d ds z Q lv b1 bs e q;cases d with
 | str a =>
  cases bs with
  | nil=>cases e
  | @cons v vs d ds b2 bs =>
   cases bs with
   | cons _ _=>cases d<;>cases e
   | nil =>
    cases d with
    | str b=>cases e;exact⟨a,b,b1,by rw[show v=V.str b from b2],q _ H (Same.refl H) (.bl _)⟩
    | _=>cases e
 | _=>cases e
def vI:D->Bool
 | .lst _=>true
 | _=>false
theorem OS (h:OA K Y H p x) (e:vI x=true):Ms K "list" (.ref p) H:=by
 cases x with
 | lst ds=>obtain⟨vs,h1,_⟩:=h;exact .inl ⟨rfl,vs,.inl (.inl h1)⟩
 | _=>cases e
theorem El.upd (h:El K Y H vs ds) (hp:Y p):El K Y (L2.upd H p o) vs ds:=h.go (fun b u e n=>by
 have hb:b≠p:=fun z=>n (by rw[z];exact hp)
 rw[aN hb];exact e) fun b z=>.inl z
theorem DA.upd (h:DA K Y H v d) (hp:Y p):DA K Y (L2.upd H p o) v d:=h.go (fun b u e n=>by
 have hb:b≠p:=fun z=>n (by rw[z];exact hp)
 rw[aN hb];exact e) fun b z=>.inl z
def gw:D->List D->Option (D×D)
 | .lst xs,[y]=>if xs.length<1000000 then some (.non,.lst (xs++[y])) else none
 | _,_=>none
theorem gZ:RdM K "list" rm vI gw:=⟨fun Y H p x h e=>OS h e,fun Y H p x vs ds y x' Q hp ho el e q=>by
 cases x with
 | lst xs =>
  cases ds with
  | nil=>cases e
  | cons d ds =>
   cases ds with
   | cons _ _=>cases e
   | nil =>
    obtain⟨c,e⟩:=aL e;cases e;obtain⟨ws,h1,h2⟩:=ho;obtain⟨v,r,rfl,da,el⟩:=el.uncons;obtain rfl:=el.unnil;exact⟨p,ws,v,rfl,rfl,h1,by rw[h2.1];exact kz (by lia),q .non _ .non ⟨_,bx,(h2.app (El.one da)).upd hp⟩⟩
 | _=>cases e⟩
def oI:D->D->D->Option D
 | .lst xs,.int k,v=>(GO xs.length k).bind fun j=>some (.lst (xs.set j v))
 | _,_,_=>none
theorem fQ:D1 K IG oI:=by
 intro Y H p x k v dk dv x' Q hp ho bk da e q;cases x with
 | lst xs =>
  cases dk with
  | int i =>
   refine bP e fun j e1 e=>?_;cases e;obtain⟨ws,h1,h2⟩:=ho;exact⟨p,ws,i,j,rfl,bk,h1,by rw[h2.1];exact e1,q _ ⟨_,bx,(h2.set da j).upd hp⟩⟩
  | _=>cases e
 | _=>cases e
def Eh (xs:List Str):FA:=fun st=>some (xs.map fun x=>.d (.str x),st)
theorem wK:wF K (IN xs) (Eh xs):=by
 intro st σ H O Z Q E rs st' e q;cases e;refine q _ H O (Ext.refl _ _) (Kp.refl _) E ?_;clear q;induction xs with
 | nil=>exact .nil
 | cons x r ih=>exact .cons (show DA K _ H (.str x) (.str x) from .str x) ih
end
end VF
namespace VF
open PySem PySem.Spec PyProof.Rows L2
section
variable {X:Cx} {K:PySem.W.Frag} {Y:AS} {H:Hp} {v:V} {d:D} {vs:List V} {ds:List D}
def wL (K:PySem.W.Frag):R2:=fun x y H Q=>(vn fun i j=>.int (i+j)) x y H Q∨((∃i j,x=.str i/\y=.str j/\i.length+j.length<=sizeLine/\Q (.str (i++j)) H)∨(Kb x y H Q∨DP K x y H Q))
theorem wM (h:X.K=K):OpR X (binaryOp .Add) (wL K):=op_add.or (op_add_str.or (op_cat.or (h ▸ GN)))
theorem ro_addA:RdOp K (wL K) di:=ro_addI.or (ro_addS.or (ro_cat.or G6))
def IW:R2:=fun x y H Q=>(rI CMul fun i j=>.int (i*j)) x y H Q∨(∃(a:Str) (n:Int),x=.str a/\y=.int n/\MulOk a n/\Q (.str (Txt.mul a n)) H)
theorem nS:OpR X (binaryOp .Mult) IW:=op_mul.or vA
theorem nT:RdOp K IW pV:=ro_mulI.or G7
def Nt:R2:=fun x y H Q=>(vn fun i j=>.bl (decide (i<j))) x y H Q∨(∃i j,x=.str i/\y=.str j/\Q (.bl (decide (i.cps.toList<j.cps.toList))) H)
theorem Ei:OpR X (compareOp .Lt) Nt:=op_lt.or yx
theorem Ej:RdOp K Nt Mz:=ro_ltI.or KC
def Nu (K:PySem.W.Frag):R2:=fun x y H Q=>(∃i j,x=.str i/\y=.str j/\Q (.bl (!(Builtin.Str.occurrences j i 0 j.length 1).isEmpty)) H)∨OP K false x y H Q
theorem KP (h:X.K=K):OpR X (compareOp .In) (Nu K):=op_in_str.or (h ▸ yE)
theorem KQ:RdOp K (Nu K) Nn:=ro_inS.or (KG false)
def jd:=yQ false
theorem KR (_:X.K=K) (_:X.A.units+64<cLine):OpR X (compareOp .Eq) MW:=dJ
theorem ro_eqA:RdOp K MW jd:=Kz
def KS:D->D->Option Rz
 | .lst xs,.lst []=>some (.bl (!xs.isEmpty),false)
 | _,_=>none
def Nv (K:PySem.W.Frag):R2:=fun x y H Q=>∃(a b:Addr) (xs:List V),x=.ref a/\y=.ref b/\gj K H a xs/\gj K H b []/\Q (.bl (!xs.isEmpty)) H
theorem KU:RdOp K (Nv K) KS:=by
 intro Y H x y d1 d2 z Q lv b1 b2 e q;cases d1 with
 | lst xs =>
  cases d2 with
  | lst ys =>
   cases ys with
   | nil =>
    cases e;obtain⟨p,ws,rfl,hp,el⟩:=b1;obtain⟨p2,zs,rfl,hp2,el2⟩:=b2;obtain rfl:=el2.unnil;refine⟨p,p2,ws,rfl,rfl,.inl (.inl hp),.inl (.inl hp2),?_⟩;have e:ws.isEmpty=xs.isEmpty:=by
     cases ws with
     | nil=>cases xs with
      | nil=>rfl
      | cons _ _=>cases el.1
     | cons _ _=>cases xs with
      | nil=>cases el.1
      | cons _ _=>rfl
    rw[e];exact q _ H (Same.refl H) (.bl _)
   | cons _ _=>cases e
  | _=>cases e
 | _=>cases e
def He:=jU (yQ true) KS
def KW (K:PySem.W.Frag):R2:=fun x y H Q=>OO x y H Q∨Nv K x y H Q
theorem rM (h:X.K=K) (hu:X.A.units+64<cLine):OpR X (compareOp .NotEq) (KW K):=op_ne.or (by subst h;exact Kl (by lia))
theorem ro_neA:RdOp K (KW K) He:=ro_neS.or KU
def KY (K:PySem.W.Frag):V->Option Int->Option Int->Hp->VK->Prop:=fun x lo hi H Q=>J1 K x lo hi H Q∨(JV K x lo hi H Q∨(∃z:Str,x=.str z/\z.length<=sizeLine/\Q (.str (Txt.slice z lo hi)) H))
theorem vJ (h:X.K=K):SlR X (KY K):=SlR.or (h ▸ GP) (SlR.or (h ▸ JW) Ki)
theorem rN:RdSl K (KY K) IS:=RdSl.or No (RdSl.or Np Nq)
def Ek (K:PySem.W.Frag):List V->Hp->VK->Prop:=fun xs H Q=>(∃p ys,xs=[.ref p]/\(gj K H p ys∨jP K H p ys)/\Q (.int ys.length) H)∨(∃z:Str,xs=[.str z]/\z.length<=sizeLine/\Q (.int z.length) H)
theorem yU (h:X.K=K):CallR X (.builtin "len") (Ek K):=CallR.or (h ▸ rf) rj
theorem fY:RdCB K (Ek K) fX:=rc_lenQ.or Hb
theorem Em (z:Str):El K Y H (sgn z) (tT z):=by
 refine⟨by simp[sgn,tT],fun i v d h1 h2=>?_⟩
 unfold sgn at h1;unfold tT at h2;rw[Qc]at h1 h2;obtain⟨c,e1,rfl⟩:=Vc.mp h1;rw[e1]at h2;obtain rfl:=Option.some.inj h2;exact .str _
def Ep:List D->Option Rz
 | [.str z]=>if z.cps.size<=1000000 then some (.lst (tT z),true) else none
 | _=>none
def Er:List V->Hp->VK->Prop:=fun xs H Q=>∃z:Str,xs=[.str z]/\z.cps.size<=sizeLine/\∀l,H l=none->Q (.ref l) (upd H l (.lst (sgn z)))
theorem Et:RdCB K Er Ep:=by
 intro Y H xs ds z Q lv bs e q;cases bs with
 | nil=>cases e
 | @cons v vs d ds b1 bs =>
  cases bs with
  | cons _ _=>cases d<;>cases e
  | nil =>
   cases d with
   | str a =>
    obtain⟨c,e⟩:=aL e;cases e;exact⟨a,by rw[show v=V.str a from b1],kz c,fun r hr=>q _ _ (aU hr _) (gu (Em a) hr)⟩
   | _=>cases e
def wN:List D->Option Rz
 | [.str z]=>if z.cps.size<=1000000 then some (.tup (tT z),false) else none
 | _=>none
def wO:List V->Hp->VK->Prop:=fun xs H Q=>∃z:Str,xs=[.str z]/\z.cps.size<=sizeLine/\∀l,H l=none->Q (.ref l) (upd H l (.tup (sgn z)))
theorem yV:RdCB K wO wN:=by
 intro Y H xs ds z Q lv bs e q;cases bs with
 | nil=>cases e
 | @cons v vs d ds b1 bs =>
  cases bs with
  | cons _ _=>cases d<;>cases e
  | nil =>
   cases d with
   | str a =>
    obtain⟨c,e⟩:=aL e;cases e;exact⟨a,by rw[show v=V.str a from b1],kz c,fun r hr=>q _ _ (aU hr _) (jc (Em a) hr lv)⟩
   | _=>cases e
def oJ:=Ni IV Ep
def eQ:=Ni Ef wN
def Eu (K:PySem.W.Frag):List V->Hp->VK->Prop:=fun xs H Q=>(∃p ys,xs=[.ref p]/\(gj K H p ys∨jP K H p ys)/\∀l,H l=none->Q (.ref l) (upd H l (.lst ys)))∨Er xs H Q
def rO (K:PySem.W.Frag):List V->Hp->VK->Prop:=fun xs H Q=>(∃p ys,xs=[.ref p]/\((gj K H p ys/\∀l,H l=none->Q (.ref l) (upd H l (.tup ys)))∨(jP K H p ys/\Q (.ref p) H)))∨wO xs H Q
theorem kD (h:X.K=K) (hc:X.calm=true):CallR X (.type "list") (Eu K):=CallR.or (h ▸ rl) (oC hc)
theorem ub (h:X.K=K) (hc:X.calm=true):CallR X (.type "tuple") (rO K):=CallR.or (h ▸ pQ) (nj hc)
theorem oK:RdCB K (Eu K) oJ:=rc_list.or Et
theorem dO:RdCB K (rO K) eQ:=rc_tuple.or yV
def Hf:D->String
 | .non=>"NoneType"
 | .bl _=>"bool"
 | .int _=>"int"
 | .str _=>"str"
 | .tup _=>"tuple"
 | .lst _=>"list"
 | .fl _=>"list"
 | .dk _=>"dict"
 | .dt _=>"dict"
 | .ty _=>"type"
 | .xc _ _ _=>"type"
def Ev (n T:String):Bool:=n == T||(n == "bool"&&T == "int")
theorem KZ:∀n∈["NoneType","bool","int","str","tuple","list","dict"],∀T∈["bool","int","str","tuple","list","dict"],
  (if (Value.type n == Value.type T)=true then some true else if PySem.W.kitMeta T=true then(fastBuiltinMro n).map (·.contains (Value.type T)) else none)=some (Ev n T):=by decide +kernel
def OT:List D->Option Rz
 | [d,.ty T]=>if (["bool","int","str","tuple","list","dict"].contains T&&Hf d != "type")=true then some (.bl (Ev (Hf d) T),false) else none
 | _=>none
def cy:=OT
def K1 (K:PySem.W.Frag):List V->Hp->VK->Prop:=fun xs H Q=>∃(Y:AS) (x:V) (d:D) (T:String),xs=[x,.ty T]/\BA K Y H x d/\(["bool","int","str","tuple","list","dict"].contains T&&Hf d != "type")=true/\Q (.bl (Ev (Hf d) T)) H
theorem bT:RdCB K (K1 K) cy:=by
 intro Y H xs ds z Q lv bs e q;cases bs with
 | nil=>cases e
 | @cons v vs d ds b1 bs =>
  cases bs with
  | nil=>cases e
  | @cons v2 vs2 d2 ds2 b2 bs =>
   cases bs with
   | cons _ _=>cases d2<;>cases e
   | nil =>
    cases d2 with
    | ty T =>
     obtain⟨c,e⟩:=aL e;cases e;exact⟨Y,v,d,T,by rw[show v2=V.ty T from b2],b1,c,q _ H (Same.refl H) (.bl _)⟩
    | _=>cases e
theorem rP (h:X.K=K):CallR X (.builtin "isinstance") (K1 K):=by
 subst h;intro pins s σ H xs us Q I rv h;obtain⟨Y,x,d,T,rfl,b1,c,q⟩:=h;obtain⟨u,w',rfl,rx,ry⟩:=vals2 rv;cases (show w'=Value.type T from ry);rw[Yh]at c;have hT:T∈["bool","int","str","tuple","list","dict"]:=List.contains_iff_mem.mp c.1;refine bV ?_;have fin:∀tk,s.toks<=tk->EP X pins σ Q (.bool (Ev (Hf d) T)) { s with toks:=tk }:=fun tk hle=>⟨.bl _,H,I.tok tk (I.tkl' hle),rfl,q⟩;have ko:∀n∈["NoneType","bool","int","str","tuple","list","dict"],Hf d=n->PySem.W.kitOne X.K (.type n) (.type T)=some (Ev (Hf d) T):=fun n hn e=>by
  rw[e];exact Kk (KZ n hn T hT)
 cases d with
 | non =>
  obtain rfl:=(show x=V.non from b1);exact d9 I rx .non (ko "NoneType" (by decide) rfl) fin
 | bl b =>
  obtain rfl:=(show x=V.bl b from b1);exact d9 I rx (.bl b) (ko "bool" (by decide) rfl) fin
 | int i =>
  obtain rfl:=(show x=V.int i from b1);exact d9 I rx (.int i) (ko "int" (by decide) rfl) fin
 | str z =>
  obtain rfl:=(show x=V.str z from b1);exact d9 I rx (.str z) (ko "str" (by decide) rfl) fin
 | ty n=>exact absurd c.2 (by simp[Hf])
 | xc _ _ _=>exact absurd c.2 (by simp[Hf])
 | lst ds =>
  obtain⟨a,vs,rfl,h1,_⟩:=b1;exact d9 I rx (.lst h1) (ko "list" (by decide) rfl) fin
 | fl ds =>
  obtain⟨a,vs,rfl,h1,_⟩:=b1;cases (show u=Value.ref a from rx);obtain⟨its,_,pl,_⟩:=I.list h1.sq;obtain⟨o,ho,hc,_⟩:=pl.isList;exact PySem.W.kia_one PySem.W.kitx_list I.kIn ⟨o,ho,hc⟩ (ko "list" (by decide) rfl) (fun z=>nomatch z) fin
 | tup ds =>
  obtain⟨a,vs,rfl,h1,_⟩:=b1;cases (show u=Value.ref a from rx);obtain⟨its,_,pl,_⟩:=I.tuple h1.sq;obtain⟨o,ho,hc,_⟩:=pl;exact PySem.W.kia_one PySem.W.kitx_tuple I.kIn ⟨o,ho,hc⟩ (ko "tuple" (by decide) rfl) (fun z=>nomatch z) fin
 | dk ds =>
  obtain⟨a,vs,rfl,h1,_⟩:=b1;exact d9 I rx (.dK h1) (ko "dict" (by decide) rfl) fin
 | dt ds =>
  obtain⟨a,ep,vs,rfl,_,h1,_⟩:=b1;exact d9 I rx (.dT h1) (ko "dict" (by decide) rfl) fin
theorem nB (l:Addr) (its:Array Value) (n:Nat) (b:Addr) (more:Array Value) (m:Nat) (dd:Option Addr) (sl:Array (Option Value)) (h0:¬(!its.isEmpty&&Builtin.List.listTooLong (its.size+more.size))=true) (h1:its.size<=sizeLine) (h2:its.size+more.size<=sizeLine+1) :
  Meets (Builtin.«list.extend» ⟨[.ref l,.ref b],[]⟩) (fun _ R s=>s.heap.get? l=some { cls:=.type "list",dict:=none,data:=.seq its n,slots:=#[] }/\s.heap.get? b=some { cls:=.type "tuple",dict:=dd,data:=.seq more m,slots:=sl }/\R (.ok (.ret Value.none)) { s with heap:=s.heap.update l (Obj.mapSeq fun x=>x++more),toks:=s.toks }) :=
 .of_wp fun prog w A R s0 hh=>by
  obtain⟨hp,gg,dp,tks,oo⟩:=s0;obtain⟨hl,hb,hR⟩:=hh;have a1:=AutoSeq1.idx_int;have a2:=AutoSeq1.sub_tuple_tuple;have a3:=AutoSeq1.sub_list_list;have a4:=AutoSeq1.sub_tuple_list;have a5:=AutoSeq1.sub_list_tuple;have fits:(its++more).size<=sizeLine+1:=by
   rw[Array.size_append];exact h2
  wp_walk using (wpAny_updateSeq hl rfl (hz:=h1) (_hz':=fits)),BY hl,BY hb
  exact⟨_,rfl,hR⟩
def IX (K:PySem.W.Frag):V->List V->Hp->VK->Prop:=fun x vs H Q=>∃l b xs zs,x=.ref l/\vs=[.ref b]/\H l=some (.lst xs)/\jP K H b zs/\xs.length+zs.length<=sizeLine/\Q .non (upd H l (.lst (xs++zs)))
theorem Hg (h:X.K=K):M7 X "list.extend" (IX K):=by
 subst h;intro pins s σ H x vs v us Q I rx rv h;obtain⟨l,b,xs,zs,rfl,rfl,hH,hB,hz,q⟩:=h;cases rx;obtain⟨u,rfl,ru⟩:=rv.one;cases ru;obtain⟨z,its,n,r,hl,e⟩:=I.lstM hH;obtain⟨its2,r2,pl,hz2⟩:=I.tuple hB;obtain⟨⟨c2,dd2,d2,sl2⟩,ho2,hc2,n2,hd2⟩:=id pl;obtain rfl:c2=.type "tuple":=hc2;obtain rfl:d2=.seq its2.toArray n2:=hd2;have hl2:=r2.length;have hsz:its.toArray.size+its2.toArray.size<=sizeLine:=by rw[Zc,Zc];lia
 have hlong:¬ (!its.toArray.isEmpty&&Builtin.List.listTooLong (its.toArray.size+its2.toArray.size))=true:=by
  rw[tK hsz,Dj];exact Ze
 refine BS F.slot_list_extend ⟨_,e,rfl⟩ F.entry_list_extend (F.args_list_extend_2 _ _)
  (nB l its.toArray n b its2.toArray n2 dd2 sl2 hlong (by rw[Zc];lia) (by lia)) ⟨e,ho2,?_⟩
 refine⟨.non,_,I.lset (its':=its++its2) hH e (by simp) (r.append r2) ?_,rfl,q⟩
 rw[Qb];lia
def IY (K:PySem.W.Frag):V->List V->Hp->VK->Prop:=fun x vs H Q=>wz x vs H Q∨IX K x vs H Q
theorem kF (h:X.K=K) (_:X.calm=true):M7 X "list.extend" (IY K):=by
 intro pins s σ H x vs v us Q I rx rv hh;rcases hh with hh|hh
 ·exact yG pins s σ H x vs v us Q I rx rv hh
 ·exact Hg h pins s σ H x vs v us Q I rx rv hh
def jE:D->List D->Option (D×D)
 | .lst xs,[.lst ys]=>if xs.length+ys.length<=1000000 then some (.non,.lst (xs++ys)) else none
 | .lst xs,[.tup ys]=>if xs.length+ys.length<=1000000 then some (.non,.lst (xs++ys)) else none
 | _,_=>none
theorem mF:RdM K "list" (IY K) vI jE:=⟨fun Y H p x h e=>OS h e,fun Y H p x vs ds y x' Q hp ho el e q=>by
 cases x with
 | lst xs =>
  cases ds with
  | nil=>cases e
  | cons d ds =>
   cases ds with
   | cons _ _=>cases d<;>cases e
   | nil =>
    obtain⟨ws,h1,h2⟩:=ho;obtain⟨v,r,rfl,da,el⟩:=el.uncons;obtain rfl:=el.unnil;cases d with
    | lst ys =>
     obtain⟨c,e⟩:=aL e;cases e;cases da with
     | @lst a us _ g0 g1 g2 g3=>exact .inl ⟨p,a,ws,us,rfl,rfl,h1,g1,by rw[h2.1,g2];exact kz c,q .non _ .non ⟨_,bx,(h2.app ⟨g2,g3⟩).upd hp⟩⟩
    | tup ys =>
     obtain⟨c,e⟩:=aL e;cases e;cases da with
     | @tup a us _ g1 g2 g3=>exact .inr ⟨p,a,ws,us,rfl,rfl,h1,g1.sq,by rw[h2.1,g2];exact kz c,q .non _ .non ⟨_,bx,(h2.app ⟨g2,g3⟩).upd hp⟩⟩
    | _=>cases e
 | _=>cases e⟩
def Nw (K:PySem.W.Frag) (tl:TE):TI:=fun σ H R=>wn K tl σ H R∨(JH K tl σ H R∨Kg tl σ H R)
theorem db (h:X.K=K) (hl:PE X l tl):PI X tg l (Nw K tl):=by
 subst h;intro pins s σ H R I hh;rcases hh with hh|hh|hh
 ·exact GF hl pins s σ H R I hh
 ·exact JI hl pins s σ H R I hh
 ·exact Kh hl pins s σ H R I hh
def nC (fe:FE):FI:=fun st=>match Mv fe st with
 | some z=>some z
 | none=>match Ox fe st with
  | some z=>some z
  | none=>Pg fe st
theorem de (h:d7 K te fe):RdI K (Nw K te) (nC fe):=by
 intro st σ H O Z R E items st' e q;unfold nC at e;split at e
 ·rename_i z ez
  cases e;exact .inl (GZ h st σ H O Z R E items st' ez q)
 ·split at e
  ·rename_i z ez
   cases e;exact .inr (.inl (Ko h st σ H O Z R E items st' ez q))
  ·exact .inr (.inr (Kt h st σ H O Z R E items st' e q))
end
end VF
namespace VF
open PySem PySem.Spec PyProof.Rows L2
section
theorem nx_slot:Slot "reversed" "__next__" "reversed.__next__":=by
 refine .of (owner:="reversed") (n:="__next__") ?_ ?_ ?_ ?_ ?_ ?_
 ·rw[B0,Bm]
  kernel_rfl
 ·decide +kernel
 ·decide +kernel
 ·decide +kernel
 ·first
   | exact .inl (by decide +kernel)
   | exact .inr (by decide +kernel)
 ·rw[B7]
  kernel_rfl
theorem wP:Slot "reversed" "__iter__" "reversed.__iter__":=by
 refine .of (owner:="reversed") (n:="__iter__") ?_ ?_ ?_ ?_ ?_ ?_
 ·rw[B0,Bm]
  kernel_rfl
 ·decide +kernel
 ·decide +kernel
 ·decide +kernel
 ·first
   | exact .inl (by decide +kernel)
   | exact .inr (by decide +kernel)
 ·rw[B7]
  kernel_rfl
theorem uc:entryFor table "reversed.__next__"=some Builtin.«reversed.__next__»:=by
 refine entryFor_of_tree ?_
 kernel_rfl
theorem wQ (a:Value):argsOk "reversed.__next__" ⟨[a],[]⟩:=by
 unfold argsOk
 kernel_rfl
theorem Hh (a:Value):argsOk "reversed.__iter__" ⟨[a],[]⟩:=by
 unfold argsOk
 kernel_rfl
theorem Ew:entryFor table "reversed.__iter__"=some Builtin.«dict_keyiterator.__iter__»:=by
 refine entryFor_alias (id':="dict_keyiterator.__iter__") ?_ ?_ ?_ ?_
 ·kernel_rfl
 ·first
   | rfl
   | decide +kernel
   | (unfold String.splitOn;simp +decide [String.splitOnAux])
 ·decide +kernel
 ·kernel_rfl
variable {prog:Program} {w:World} {A:Around} {E:Value->Shared->Prop} {s:Shared}
def IsRv (h:Heap) (it a:Addr) (i:Int):Prop:=∃o,h.get? it=some o/\o.cls=.type "reversed"/\o.data=.fields #[.ref a,rawInt i]
theorem IsRv.ty (x:IsRv s.heap it a i):s.TypeIs (.ref it) "reversed":=by
 obtain⟨o,ho,hc,_⟩:=x;exact⟨o,ho,hc⟩
theorem Hj {it a:Addr} {i:Nat} {items:Array Value} {x:Value} {Q:Option Value->Shared->Prop} (hit:IsRv s.heap it a (i:Int)) (ht:IsTup s.heap a items) (hx:items[i]?=some x) (hz:items.size<=sizeLine)
  (hQ:∀h' t',IsRv h' it a ((i:Int)-1)->Heap.SameBut it s.heap h'->Q (some x) { s with heap:=h',toks:=t' }):wpAny (model prog w) A (pyNext (.ref it)) Q E s:=by
 obtain⟨o,ho,hc,hd⟩:=id hit;have hi:i<items.size:=(Array.getElem?_eq_some_iff.mp hx).1;have hs:=B5;unfold pyNext;refine Aa (AM (Ao (name:=Str.ofString "__next__") hit.ty nx_slot (An nx_slot hit.ty uc ?_ (wQ _))));unfold Builtin.«reversed.__next__»;refine Aa (AX (a:=(Value.ref it,[])) rfl ?_)
 try dsimp only
 refine Aa (Aq ho hd (x:=.ref a) rfl ?_);refine Aa (Aq ho hd (x:=rawInt (i:Int)) rfl ?_);show wpAny _ _ (if (i:Int)<0 then _ else _) _ _ s;rw[Ai (show ¬ ((i:Int)<0) by lia)]
 refine Aa (AK ht.typeIs F.slot_tuple_getitem.lookup ?_)
 try dsimp only
 rw[Ai (by simp)]
 refine Aa (wpAny_mkInt ?_);refine Aa (AM (getItem_tuple (s:={ s with toks:=s.toks+1 }) (show IsTup s.heap a items from ht) (by lia) (by lia) (C0 (by lia) (by lia)) (by simpa using hx) ?_))
 refine Aa (Aq (s:={ s with toks:=s.toks+1 }) ho hd (x:=rawInt (i:Int)) rfl ?_);show wpAny _ _ (setField (Value.ref it) 1 (rawInt ((i:Int)-1)) >>= _) _ _ _;refine Aa (AW (s:={ s with toks:=s.toks+1 }) ho hd (by simp) ?_)
 refine Ab ⟨x,rfl,Ab (hQ _ _ ?_ (AC ..))⟩;refine⟨_,AR _ ho (Bo (Ax hd _)),(CD ..).trans hc,?_⟩;rw[Ax hd];simp
theorem K2 (hh:A.handled=none) (hit:IsRv s.heap it a j) (hj:j<0)
  (hQ:∀h',Heap.ExtBut it s.heap h'->Q none { s with heap:=h' }):wpAny (model prog w) A (pyNext (.ref it)) Q E s:=by
 obtain⟨o,ho,hc,hd⟩:=id hit;unfold pyNext;refine Aa (AM (Ao (name:=Str.ofString "__next__") hit.ty nx_slot (An nx_slot hit.ty uc ?_ (wQ _))));unfold Builtin.«reversed.__next__»;refine Aa (AX (a:=(Value.ref it,[])) rfl ?_)
 try dsimp only
 refine Aa (Aq ho hd (x:=.ref a) rfl ?_);refine Aa (Aq ho hd (x:=rawInt j) rfl ?_);show wpAny _ _ (if j<0 then _ else _) _ _ s;rw[Ae hj];refine Aa (AB ?_);refine Aa ?_;show wpAny _ _ (setField (Value.ref it) 1 (rawInt (-1)) >>= fun _=>setField (Value.ref it) 0 .none) _ _ s;refine Aa (AW ho hd (by simp) ?_)
 have g1:=AR (Obj.mapFields (·.setIfInBounds 1 (rawInt (-1)))) ho (Bo (Ax hd _));refine AW g1 (Ax hd _) (by simp) ?_
 refine Aa ?_;show wpAny _ _ (newExc (.type "StopIteration") [] >>= _) _ _ _;refine Aa ?_;simp only[newExc,newTuple];refine Aa (Am ?_ (by size_fits))
 refine Aa (m:=firstArgMember _ _) (AX (a:=Value.none) (by first|rfl|(simp only[firstArgMember];rfl)) ?_)
 refine Am ?_ (by size_fits)
 simp only[raiseNew];refine Aa (wpAny_handled ?_)
 first|rw[show A.in1.handled=none from hh]|rw[hh]
 refine Aa (Ab (wpAny_throw ?_));refine Aa (AZ (T:="StopIteration") (b:=true) ⟨_,Ah _ rfl,rfl⟩ Db ?_);refine Ab (hQ _ ?_);have e1:Heap.ExtBut it s.heap (s.heap.update it (Obj.mapFields (·.setIfInBounds 1 (rawInt (-1))))):=fun b o2 hb e=>(AJ s.heap _ (AA hb)).trans e;have e2:Heap.ExtBut it s.heap ((s.heap.update it (Obj.mapFields (·.setIfInBounds 1 (rawInt (-1))))).update it (Obj.mapFields (·.setIfInBounds 0 .none))):=fun b o2 hb e=>(AJ _ _ (AA hb)).trans (e1 b o2 hb e);exact(e2.push _).push _
theorem wR (hit:IsRv s.heap it a i) (h:Q (.ref it) s):wpAny (model prog w) A (pyIter (.ref it)) Q E s:=by
 refine wpAny_pyIter_slot hit.ty wP (An wP hit.ty Ew ?_ (Hh _));show wpAny _ _ (ret (.ref it)) _ _ s;exact Ab ⟨_,rfl,"reversed",_,hit.ty,nx_slot.lookup,h⟩
theorem K3:typeLookup (.type "tuple") "__reversed__"=pure none:=by
 rw[B0,Bm]
 kernel_rfl
theorem K4:isSubtype (.type "tuple") (.type "dict")=pure false:=by
 rw[B7]
 kernel_rfl
def ud (a:Addr) (i:Int):Obj:={ cls:=.type "reversed",data:=.fields #[.ref a,rawInt i] }
theorem Ex (a:Addr) (items:Array Value) (hz:items.size<=sizeLine) :
  Meets (Builtin.«reversed.__new__» ⟨[.type "reversed",.ref a],[]⟩) (fun _ R s=>IsTup s.heap a items/\∀t',R (.ok (.ret (.ref s.heap.objs.size))) { s with heap:=s.heap.push (ud a ((items.size:Int)-1)),toks:=t' }):=by
 have hs:=B5;refine .of_wp fun prog w A R s h=>?_;obtain⟨ht,hR⟩:=h;unfold Builtin.«reversed.__new__»;refine Aa (AX (PySem.newClass_reversed _) ?_)
 try dsimp only
 refine Aa (AX (a:=()) (by first|rfl|kernel_rfl) ?_)
 refine Aa (AX (a:=()) (by first|rfl|kernel_rfl) ?_)
 try dsimp only
 refine Aa (AK ht.typeIs K3 ?_)
 try dsimp only
 refine Aa ?_;show wpAny _ _ (isInstance (.ref a) (.type "dict") >>= _) _ _ s;refine Aa (AZ (T:="tuple") (b:=false) ht.typeIs K4 ?_);rw[Ai (by decide)]
 refine Aa (AK ht.typeIs F.slot_tuple_getitem.lookup ?_);refine Ab ?_;rw[Ai (by decide)]
 refine Aa (len_tuple ht (by lia) ?_)
 refine Aa (AX (a:=some ((items.size:Nat):Int)) rfl ?_);show wpAny _ _ (newObj (.type "reversed") (.fields #[.ref a,rawInt ((items.size:Int)-1)]) >>= _) _ _ _;exact Aa (Am (Ab ⟨_,rfl,hR _⟩))
theorem Hk:Slot "reversed" "__init__" "object.__init__":=by
 refine .of (owner:="object") (n:="__init__") ?_ ?_ ?_ ?_ ?_ ?_
 ·rw[B0,Bm]
  kernel_rfl
 ·decide +kernel
 ·decide +kernel
 ·decide +kernel
 ·first
   | exact .inl (by decide +kernel)
   | exact .inr (by decide +kernel)
 ·rw[B7]
  kernel_rfl
theorem yW:TypeCalled "reversed" "reversed.__new__" "object.__init__":=by
 refine⟨?_,?_,⟨_,_,F.mro_reversed⟩,F.made_reversed,F.plain_reversed_new,F.sub_reversed_self,Hk⟩
 ·decide +kernel
 ·exact F.create_reversed
theorem Hl {items:Array Value} (ht:IsTup s.heap a items) (hz:items.size<=sizeLine)
  (h:∀t',Q (.ref s.heap.objs.size) { s with heap:=s.heap.push (ud a ((items.size:Int)-1)),toks:=t' }):wpAny (model prog w) A (call (.type "reversed") [.ref a]) Q E s :=
 callType_new yW (by decide) (F.typeCall_reversed_1 _) (F.newCall_reversed_1 _) (fun obj=>F.args_object_init_2 obj _) F.entry_reversed_new (Ex a items hz) ⟨ht,fun t'=>⟨⟨_,Ah _ rfl,rfl⟩,h t'⟩⟩
def Pi (K:PySem.W.Frag) (a:Addr) (xs:List V):It:=⟨fun i H=>jP K H a xs/\i<xs.length,fun i H v H'=>H'=H/\xs.reverse[i]?=some v,fun i _=>xs.length<=i⟩
theorem Hm {P:Program} {w:World} {K:PySem.W.Frag} {tg:Expr} (a it:Addr) (xs:List V):Turn P w K tg (Pi K a xs) [it] it (fun i h=>IsRv h it a ((xs.length:Int)-1-(i:Nat))) where
 mem:=by simp
 obj:=fun i h st b hb=>by
  have e:b=it:=by simpa using hb
  subst e;obtain⟨o,e,c,d⟩:=st;exact⟨o,e,fun v z=>by rw[d]at z;cases z⟩
 keep:=fun i h h' st k=>by
  obtain⟨o,e,r⟩:=st;exact⟨o,k it (by simp) o e,r⟩
 item:=by
  intro X hP hw hK hc i pins s σ H E I hf st hg;subst hP hw hK;obtain⟨f0,f1,f2,f3,f4,f5⟩:=hf it (by simp)
  obtain⟨hq,hi⟩:=hg;obtain⟨its,rv,p,hz⟩:=I.tuple hq;have hl:=rv.length;have e1:((xs.length:Int)-1-(i:Nat))=((xs.length-1-i:Nat):Int):=by lia
  rw[e1]at st;have hx:xs.reverse[i]?=some (xs[xs.length-1-i]'(by lia)):=by
   rw[B2 hi,Za (by lia)]
  obtain⟨u,hu,ru⟩:=rv.get (Za (show xs.length-1-i<xs.length by lia))
  refine bV (Hj st p (x:=u) (by simpa using hu) (by rw[Zc];lia) fun h' t' st' sb hle=>?_)
  have hle:s.toks<=t':=hle;have I1:Inv X pins σ H { s with heap:=h',toks:=t' }:=I.turned (fun b o hb e=>sb.extBut b o hb e) f0 f1 f3 f4 f5;obtain⟨o,e,c,d⟩:=id st';have e2:(((xs.length-1-i:Nat):Int)-1)=((xs.length:Int)-1-((i+1:Nat):Int)):=by lia
  rw[e2]at st';exact⟨u,rfl,qg (s:={ s with heap:=h',toks:=t' }) e c d (by decide) ⟨_,H,I1,ru,⟨rfl,hx⟩,st',fun b hb=>(hf b hb).1⟩⟩
 done:=by
  intro X hP hw hK hc i pins s σ H E I hf st hg;subst hP hw hK;obtain⟨f0,f1,f2,f3,f4,f5⟩:=hf it (by simp)
  have hg':xs.length<=i:=hg;exact K2 (I.ok.hd hc) st (by lia) fun h' eb=>⟨rfl,I.turned (t':=s.toks) (fun b o hb e=>eb b o hb e) f0 f1 f3 f4 f5⟩
 self:=fun _ _ _ _ _ st h=>wR st h
end
section
variable {X:Cx} {K:PySem.W.Frag}
def K5 (K:PySem.W.Frag) (ta:TA):TI:=fun σ H R=>ta σ H fun vs H1=>∃a xs,vs=[.ref a]/\jP K H1 a xs/\R (Pi K a xs) H1
theorem boot_reversed:bootBuiltins "reversed"=some (.type "reversed"):=by decide +kernel
theorem Ho {tg a:Expr} {ta:TA} {p pos:Pos} (hg:Gl X "reversed") (hm:X.mg "reversed"=none) (ha:PA X [a] ta) (hs:starEach [a] X.env=[(false,eval a X.env)]:=by rfl):PI X tg (.Call (.Name "reversed" p) [a] [] pos) (K5 X.K ta):=by
 intro pins s σ H R I h;refine Call_ (iU I hg hm boot_reversed (AD (cT (ha pos pins s σ H _ I h) fun us s1 ⟨vs,H1,I1,r1,q1⟩=>?_) hs rfl));obtain⟨b,xs,e,hq,q⟩:=q1;subst e;cases r1 with
 | cons r rr =>
  cases rr;cases r;obtain⟨its,rv,pt,hz⟩:=I1.tuple hq;have hl:=rv.length;refine bV (Hl pt (by rw[Zc];lia) fun t' hle=>?_)
  have hle:s1.toks<=t':=hle;have I2:Inv X pins σ H1 { s1 with heap:=s1.heap.push (ud b ((its.toArray.size:Int)-1)),toks:=t' }:=I1.kept fun c o e=>Ac _ e;have st:IsRv (s1.heap.push (ud b ((its.toArray.size:Int)-1))) s1.heap.objs.size b ((xs.length:Int)-1-((0:Nat):Int)):=by
   refine⟨_,Ah _ rfl,rfl,?_⟩;show Data.fields #[.ref b,rawInt ((its.toArray.size:Int)-1)]=_;rw[Zc,← hl];simp
  refine wR (s:={ s1 with heap:=s1.heap.push (ud b ((its.toArray.size:Int)-1)),toks:=t' }) st ⟨s1.heap.objs.size,[s1.heap.objs.size],_,_,H1,rfl,I2,Hm b _ xs,st,fun c hc=>?_,q⟩;have e:c=s1.heap.objs.size:=by simpa using hc
  subst e;exact I1.fpOk (Xa _) (I1.hok.fresh (Xa _))
theorem ue (h:X.K=K) (hg:Gl X "reversed") (hs:starEach [a] X.env=[(false,eval a X.env)]) (hm:X.mg "reversed"=none) (ha:PE X a te):PI X tg (.Call (.Name "reversed" p) [a] [] pos) (K5 K (dL te mB)):=by
 subst h;exact Ho hg hm (nO ha ak hs) hs
def wT (fe:FE):FI:=fun st=>(fe st).bind fun x=>(cont x.2 x.1).bind fun d=>(d.itt).bind fun ds=>some (ds.reverse,x.2)
theorem K6 (h:d7 K te fe):RdI K (K5 K (dL te mB)) (wT fe):=by
 intro st σ H O Z R E items st' e q;refine dM e fun r st1 e1 e=>?_;refine bP e fun d e2 e=>?_;refine bP e fun ds e3 e=>?_;cases e;refine h st σ H O Z _ E r _ e1 fun v H1 O1 x1 k1 E1 rv w1=>?_;cases d with
 | tup ds' =>
  cases e3;obtain⟨a,vs,rfl,h1,el⟩:=rv.ba E1 e2;refine⟨a,vs,rfl,h1.sq,q _ H1 O1 x1 k1 E1 fun H' O' ex _=>?_⟩;have da':=(DA.tup h1 el.1 el.2).ext ex;have el':=el.ext ex;have hl:=el.1;have sq:jP K H' a vs:=TupA.sq (Y:=U O1 Z) (h1.go (fun b o e ny=>ex.kp b o e fun z=>ny (.inl z)) fun b z=>.inl z);refine⟨fun i hi=>?_,fun i d hd=>?_⟩
  ·show vs.length<=i;rw[Vj]at hi;lia
  ·have hi:i<vs.length:=by
    have:=(Wb.mp hd).1;rw[Vj]at this;lia
   refine⟨⟨sq,hi⟩,fun x H'' hx=>?_⟩;obtain⟨rfl,hx⟩:=hx;exact⟨Same.refl _,el'.rev.2 i x d hx hd⟩
 | _=>cases e3
end
end VF
namespace VF
open PySem PySem.Spec PyProof.Rows L2
section
variable {prog:Program} {w:World} {A:Around} {E:Value->Shared->Prop} {s:Shared}
theorem vK (n:Nat):Builtin.Slice.slicePlaces ((n:Int)-1) (-1) (-1)=n:=by
 unfold Builtin.Slice.slicePlaces;rw[Ai (by decide)]
 have e:(- (-1):Int)=1:=rfl;rw[e,DF];split<;>lia
theorem vL (n:Nat):Builtin.Slice.sliceAdjust none none (-1) (n:Int)=((n:Int)-1,-1):=by
 unfold Builtin.Slice.sliceAdjust;simp
theorem uf {sl:Addr} {n:Nat} {t:Tok} {Q:Int×Int×Nat->Shared->Prop} (hs:s.heap.IsSliceOf sl .none .none (.int (-1) t)) (h:Q ((n:Int)-1,-1,n) s) :
  wpAny (model prog w) A (Builtin.Slice.sliceApplied (.ref sl) (pure (n:Int))) Q E s:=by
 obtain⟨os,hos,hcs,hds⟩:=id hs;unfold Builtin.Slice.sliceApplied Builtin.Slice.sliceFields;refine Aa (Aa (Aq hos hds (x:=.none) rfl (Aa (Aq hos hds (x:=.none) rfl (Aa (Aq hos hds (x:=.int (-1) t) rfl (Ab ?_)))))));refine Aa (HT.slicePart_ (.int (-1) t) ?_);show wpAny _ _ (if ((-1:Int) == 0)=true then _ else _) _ _ s;rw[Ai (by decide)]
 refine Aa (HT.slicePart_ .none (Aa (HT.slicePart_ .none (Aa (Ab ?_)))));show wpAny _ _ (match Builtin.Slice.sliceAdjust none none (-1) (n:Int) with|(lo,hi)=>pure (lo,(-1:Int),Builtin.Slice.slicePlaces lo hi (-1))) _ _ s
 rw[vL];show wpAny _ _ (pure ((n:Int)-1,(-1:Int),Builtin.Slice.slicePlaces ((n:Int)-1) (-1) (-1))) _ _ s;rw[vK];exact Ab h
theorem picked_rev (its:List Value):((List.range its.length).filterMap fun(k:Nat)=>its.toArray[((its.length:Int)-1+(k:Int)*(-1)).toNat]?).toArray=its.reverse.toArray:=by
 congr 1;refine Eq.trans (gJ (g:=fun k=>its.reverse[k]?) fun k hk=>?_) ?_
 ·have hk':=Vg.mp hk;have e:((its.length:Int)-1+(k:Int)*(-1)).toNat=its.length-1-k:=by lia
  rw[e,B2 hk'];simp
 ·have:=mC its.reverse;rw[Vj]at this;exact this
theorem kG {its:List Value} (ht:IsTup s.heap t its.toArray) (hs:s.heap.IsSliceOf sl .none .none (.int (-1) u)) (hsz:its.length<=sizeLine)
  (h:Q (.ref s.heap.objs.size) { s with heap:=s.heap.push { cls:=.type "tuple",data:=.seq its.reverse.toArray } }):wpAny (model prog w) A (getItem (.ref t) (.ref sl)) Q E s:=by
 have fits:sizeOk (.seq its.reverse.toArray):=by
  show its.reverse.toArray.size<=sizeLine;rw[Zc,Vj];exact hsz
 obtain⟨os,hos,hcs,hds⟩:=id hs;have hT:s.TypeIs (.ref sl) "slice":=⟨os,hos,hcs⟩;unfold getItem
 try with_reducible refine As ?_
 first
  | refine Aa (Ab ?_)
  | skip
 refine Aa (Cw ht.typeIs (by decide) ?_)
 refine Aa (Ao (name:=Str.ofString "__getitem__") ht.typeIs Ap (An Ap ht.typeIs Cb ?_ (Ci _ _)));show wpAny _ _ (Builtin.Tuple.tupleItemsOf (.ref t) >>= _) _ _ s;refine Aa (tupleItemsOf_ ht ?_);refine Aa (AH hT ?_);rw[Ae (by decide)]
 refine Aa (uf hs ?_);have hno:¬ ((((its.toArray.size:Int)-1) == 0&&(-1:Int) == 1&&its.toArray.size == its.toArray.size)=true):=by
  intro q;rw[Yh,Yh]at q;exact absurd q.1.2 (by decide)
 show wpAny _ _ (if (((its.toArray.size:Int)-1) == 0&&(-1:Int) == 1&&its.toArray.size == its.toArray.size)=true then _ else _) _ _ s;rw[Ai hno];show wpAny _ _ (Builtin.Tuple.tupleExact ((List.range its.toArray.size).filterMap fun(k:Nat)=>its.toArray[((its.toArray.size:Int)-1+(k:Int)*(-1)).toNat]?).toArray >>= _) _ _ s;have e:((List.range its.toArray.size).filterMap fun(k:Nat)=>its.toArray[((its.toArray.size:Int)-1+(k:Int)*(-1)).toNat]?).toArray=its.reverse.toArray:=picked_rev its;rw[e]
 first
  | exact Aa (m:=Builtin.Tuple.tupleExact _) (Am (Ab ⟨_,rfl,Ab h⟩) fits)
  | exact Aa (m:=Builtin.Tuple.tupleExact _) (Am (Aa (Ab (Ab ⟨_,rfl,Ab h⟩))) fits)
  | exact Aa (Aa (m:=Builtin.Tuple.tupleExact _) (Am (Ab (Ab ⟨_,rfl,Ab h⟩)) fits))
  | exact Aa (Aa (m:=Builtin.Tuple.tupleExact _) (Am (Ab ⟨_,rfl,Ab h⟩) fits))
end
section
variable {X:Cx} {K:PySem.W.Frag} {Y:AS} {H:Hp} {v:V} {d:D} {vs:List V} {ds:List D}
def IZ (K:PySem.W.Frag) (te:TE):TE:=fun σ H Q=>te σ H fun x H1=>∃a xs,x=.ref a/\jP K H1 a xs/\∀p,H1 p=none->Q (.ref p) (upd H1 p (.tup xs.reverse))
theorem Hq (he:PE X e te):PE X (.Subscript e (.Slice none none (some (.UnaryOp .USub (.Constant (.int 1) j p1) p2)) p3) pos) (IZ X.K te):=by
 intro pins s σ H Q I h;refine Cj (cT (he pins s σ H _ I h) fun v s1 zz9=>?_);obtain⟨x,H1,I1,r1,q1⟩:=zz9;obtain⟨a,xs,rfl,hx,q⟩:=q1;cases r1;refine wpAny_Slice ?_;rw[Cc];refine Ab ?_;refine Ab ?_;rw[evalPart_some];refine UnaryOp_ (Cg (neg_int ?_));have I2:=I1.tok (s1.toks+1+1);have I4:=I2.kept (t':=s1.toks+1+1) (h':=s1.heap.push { cls:=.type "slice",data:=.fields #[.none,.none,.int (-1) (s1.toks+1)] }) fun b ob q=>Ac _ q;obtain⟨its,r,ht,hz⟩:=I4.tuple hx;have hlen:=r.length;refine tail_any (ops:=[.ref a,.ref s1.heap.objs.size]) ht.typeIs Ap.lookup ?_ (by with_unfolding_all rfl)
 refine kG ht (Heap.IsSliceOf.new ..) (by lia) ?_
 refine⟨.ref _,_,I4.laid (t':=s1.toks+1+1) (o:=.tup xs.reverse) (fun b ob q=>Ac _ q) (Xa _) ?_,rfl,q _ (I4.hok.fresh (Xa _))⟩;exact⟨by rw[Vj];exact hz,_,r.reverse,IsTup.new _ _⟩
def I0 (K:PySem.W.Frag) (te:TE):TE:=fun σ H Q=>IM K te σ H Q∨IZ K te σ H Q
theorem wU (h:X.K=K) (he:PE X e te):PE X (.Subscript e (.Slice none none (some (.UnaryOp .USub (.Constant (.int 1) j p1) p2)) p3) pos) (I0 K te):=by
 subst h;intro pins s σ H Q I hh;rcases hh with hh|hh
 ·exact Kj he pins s σ H Q I hh
 ·exact Hq he pins s σ H Q I hh
def OU:D->Option Rz
 | .lst ds=>some (.lst ds.reverse,true)
 | .fl ds=>some (.lst ds.reverse,true)
 | .tup ds=>some (.tup ds.reverse,false)
 | _=>none
def K7 (fe:FE):FE:=fun st=>(fe st).bind fun x=>(cont x.2 x.1).bind fun d=>(OU d).bind fun z=>some (mk z,x.2)
theorem Ey (h:d7 K te fe):d7 K (I0 K te) (K7 fe):=by
 intro st σ H O Z Q E r st' e q;refine dM e fun r1 st1 e1 e=>?_;refine bP e fun d e2 e=>?_;refine bP e fun z e3 e=>?_;cases e;cases d with
 | lst ds =>
  cases e3;refine .inl (h st σ H O Z _ E r1 _ e1 fun v H1 O1 x1 k1 E1 rv w1=>?_);obtain⟨a,vs,rfl,h1,el⟩:=rv.ba E1 e2;refine⟨a,vs,rfl,.inl (.inl h1),fun p hp=>?_⟩;obtain⟨E3,rv3⟩:=E1.new hp el.rev;exact q _ _ O1 (x1.trans (Same.ext (aU hp _))) k1 E3 rv3 fun p' e=>by cases e;exact x1.dead hp
 | fl ds =>
  cases e3;refine .inl (h st σ H O Z _ E r1 _ e1 fun v H1 O1 x1 k1 E1 rv w1=>?_);obtain⟨a,vs,rfl,h1,el⟩:=rv.ba E1 e2;refine⟨a,vs,rfl,h1.sq,fun p hp=>?_⟩;obtain⟨E3,rv3⟩:=E1.new hp el.rev;exact q _ _ O1 (x1.trans (Same.ext (aU hp _))) k1 E3 rv3 fun p' e=>by cases e;exact x1.dead hp
 | tup ds =>
  cases e3;refine .inr (h st σ H O Z _ E r1 _ e1 fun v H1 O1 x1 k1 E1 rv w1=>?_);obtain⟨a,vs,rfl,h1,el⟩:=rv.ba E1 e2;refine⟨a,vs,rfl,h1.sq,fun p hp=>?_⟩;obtain⟨E3,rv3⟩:=E1.newT hp el.rev;exact q _ _ O1 (x1.trans (Same.ext (aU hp _))) k1 E3 rv3 True.intro
 | _=>cases e3
def ve (a b:Str):Prop:=¬ b.cps.toList<a.cps.toList
instance (a b:Str):Decidable (ve a b):=by unfold ve;infer_instance
theorem yX (h:ve a b) (g:ve b c):ve a c:=by
 unfold ve at *;rw[C1]at *;exact List.le_trans h g
theorem yY (a b:Str):ve a b∨ve b a:=by
 unfold ve;rw[C1,C1];exact List.le_total _ _
theorem uk (h:ve a b) (g:ve b a):a=b:=by
 unfold ve at *;rw[C1]at *;have e:=List.le_antisymm h g;cases a;cases b;exact congrArg Str.mk (Array.toList_inj.mp e)
def cP (xs:List Str):List Str:=xs.mergeSort fun a b=>decide (ve a b)
theorem dF (xs:List Str):(cP xs).Perm xs:=List.mergeSort_perm xs _
theorem iy (xs:List Str):(cP xs).Pairwise ve:=by
 have:=List.pairwise_mergeSort (le:=fun a b=>decide (ve a b)) (fun a b c h g=>Af (yX (Al h) (Al g))) (fun a b=>by
  rcases yY a b with h|h
  ·rw[Af h];rfl
  ·rw[Af h,Bool.or_true]) xs
 exact this.imp fun h=>Al h
theorem vM {xs zs:List Str} (p:zs.Perm xs) (h:zs.Pairwise ve):zs=cP xs :=
 (p.trans (dF xs).symm).eq_of_pairwise (fun a b _ _ h g=>uk h g) h (iy xs)
theorem boot_sorted:bootBuiltins "sorted"=some (.builtin "sorted"):=by decide +kernel
end
end VF
namespace VF
open PySem L2
section
variable {K:PySem.W.Frag}
theorem gx {X:Cx} (hg:Gl X x) (hm:X.mg x=none) (hv:bootBuiltins x=some (.type T)) (hn:x≠"__name__":=by decide) (hd:(x == ("__debug__":Str))=false:=by decide):PE X (.Name x pos) (tC (.ty T)):=GE hg hm hv rfl hn hd
def wV (K:PySem.W.Frag):Sp:=fun vs H Q _=>∃(a:Addr) (ns:List Int),vs=[.ref a]/\gj K H a (ns.map V.int)/\ns.length<=63/\∀H',Q (.bl true) H'
end
end VF
namespace VF
open PySem L2
inductive Dp:Nat->D->Prop where
 | bl (n:Nat) (b:Bool):Dp (n+1) (.bl b)
 | int (n:Nat) (i:Int):Dp (n+1) (.int i)
 | str (n:Nat) (x:Str):Dp (n+1) (.str x)
 | non (n:Nat):Dp (n+1) .non
 | tup {n:Nat} {ds:List D}:ds.length<=1000000->(∀d∈ds,Dp n d)->Dp (n+1) (.tup ds)
 | lst {n:Nat} {ds:List D}:ds.length<=1000000->(∀d∈ds,Dp n d)->Dp (n+1) (.lst ds)
open Classical in
noncomputable def eI (n:Nat):List D->Option Rz
 | [u,v]=>if u=v/\Dp n u then some (.bl true,false) else none
 | _=>none
open Classical in
theorem oM (h:Dp n u):eI n [u,u]=some (.bl true,false):=by
 show(if u=u/\Dp n u then some (D.bl true,false) else none)=_;rw[Ae ⟨rfl,h⟩]
theorem qv (h:eI n ds=some z):∃u,ds=[u,u]/\Dp n u/\z=(.bl true,false):=by
 unfold eI at h;split at h
 ·rename_i u v
  by_cases c:u=v/\Dp n u
  ·rw[Ae c]at h;obtain⟨rfl,c⟩:=c;exact⟨u,rfl,c,(Option.some.inj h).symm⟩
  ·rw[Ai c]at h;cases h
 ·cases h
end VF
namespace VF
open PySem L2
section
variable {st st1 st2 st3 s s1 s2:En} {r r1 r2:Rs} {d d1 d2 x y x':D} {ds es:List D} {rs:List Rs} {z:Rz} {o:Ot} {i k n m:Nat} {F G B:FS} {fa fb fe fi':FE} {fr:FA} {f g:FT} {fi:FI} {fg:FG} {caps:List Nat}
theorem ay (h:F st=some (.nx s)) (h2:G s=a):aV F G st=a:=by simp only[aV,h,Yb];exact h2
theorem iz (h:F st=some (.rt r s)):aV F G st=some (.rt r s):=by simp only[aV,h,Yb]
theorem jV (h:f st=some (true,s)) (h2:F s=a):ls f F G st=a:=by simp only[ls,h,Yb,if_true];exact h2
theorem g6 (h:f st=some (false,s)) (h2:G s=a):ls f F G st=a:=by simp only[ls,h,Yb,Ye,if_false];exact h2
theorem eY (h:fe st=some (.d x,s)) (h2:nq i (.v x) s=some s1):bN fe i st=some (.nx s1):=by simp only[bN,h,Yb,h2]
theorem iQ (h:fe st=some (.f x,s)) (h2:nq i (.o x) s=some s1):bN fe i st=some (.nx s1):=by simp only[bN,h,Yb,h2]
theorem fF (h:fe st=some (r,s)):gr fe st=some (.nx s):=by simp only[gr,h,Yb]
theorem br (h:fe st=some (r,s)):b7 fe st=some (.rt r s):=by simp only[b7,h,Yb]
theorem aB (h1:fa st=some (r1,s1)) (h2:fb s1=some (r2,s2)) (h3:cont s2 r1=some d1) (h4:cont s2 r2=some d2) (h5:b d1 d2=some z) (hz:mk z=r:=by rfl):aH b fa fb st=some (r,s2):=by
 simp only[aH,h1,h2,h3,h4,h5,hz,Yb]
theorem aE (h1:fa st=some (r,s1)) (h2:fr s1=some (rs,s2)):ag fa fr st=some (r::rs,s2):=by simp only[ag,h1,h2,Yb]
theorem bW (h1:fr st=some (rs,s1)) (h2:cU s1 rs=some ds) (h3:b ds=some z) (hz:mk z=r:=by rfl):dW b fr st=some (r,s1):=by simp only[dW,h1,h2,h3,hz,Yb]
theorem bO (h1:fr st=some (rs,s1)) (h2:fu rs s1=some (ds,s2)) (h3:b ds=some z) (hz:mk z=r:=by rfl):ce b fr st=some (r,s2):=by simp only[ce,h1,h2,h3,hz,Yb]
theorem bQ (h1:fr st=some (rs,s1)) (h2:cU s1 rs=some ds) (h3:b ds=some (d,false)) (h4:d.isSc=true):bq b fr st=some (.d d,s1):=by
 simp only[bq,h1,h2,h3,Yb,h4];rfl
theorem d8 {t t0:Sl} (h0:st[i]?=some t0) (h00:t0.ow=some x0) (h1:fr st=some (rs,s1)) (h2:fu rs s1=some (ds,s2)) (h3:s2[i]?=some t) (h4:t.ow=some x) (h5:b x ds=some (z,x')) (hz:mk z=r:=by rfl) (h6:s2.set i (t.put x')=st3:=by rfl):pU b i fr st=some (r,st3):=by
 simp only[pU,h0,h00,h1,h2,h3,h4,h5,h6,hz,Yb]
theorem ul {t t0:Sl} (h0:st[i]?=some t0) (h00:t0.ow=some x0) (hk:ok x0=true) (h1:fr st=some (rs,s1)) (h2:fu rs s1=some (ds,s2)) (h3:s2[i]?=some t) (h4:t.ow=some x) (h5:mm x ds=some (y,x')) (h6:s2.set i (t.put x')=st3:=by rfl):fM ok mm i fr st=some (.d y,st3):=by
 simp only[fM,h0,h00,hk,h1,h2,h3,h4,h5,h6,Yb,if_true]
theorem aX (h:fe st=some (r,s)) (h2:GX s r=some c):aI fe st=some (c,s):=by simp only[aI,h,h2,Yb]
theorem rQ (h:f st=some (c,s)):oD f st=some (!c,s):=by simp only[oD,h,Yb]
theorem qw (h:f st=some (true,s)) (h2:g s=a):iP f g st=a:=by simp only[iP,h,Yb,if_true];exact h2
theorem wW (h:f st=some (false,s)):iP f g st=some (false,s):=by simp only[iP,h,Yb,Ye,if_false]
theorem Ez (h:f st=some (false,s)) (h2:g s=a):pS f g st=a:=by simp only[pS,h,Yb,Ye,if_false];exact h2
theorem rR (h:fa st=some (r,s)) (h1:GX s r=some true) (h2:fb s=a):mT fa fb st=a:=by simp only[mT,h,h1,Yb,if_true];exact h2
theorem dA (h1:fi st=some (ds,s1)) (h2:(rF caps s1.length&&decide (ds.length<=1000000))=true) (h3:cN fg fc fe k ds (jT k caps s1)=some (es,s2)) (h4:wb caps (s2.drop k) s1=st3:=by rfl):dN k caps fi fg fc fe st=some (.f (.lst es),st3):=by
 simp only[dN,h1,Yb];rw[Ae h2,h3,← h4];rfl
theorem je (h1:fi st=some (ds,s1)) (h2:iZ fg B ds s1=some o):nt fi fg B st=some o:=by simp only[nt,h1,Yb];exact h2
theorem bw (h0:ds.length=m) (h1:F (kC n ds)=some o) (h2:fin o=some z):bL F n m ds=some z:=by
 simp only[bL,Ae h0,h1,Yb];exact h2
theorem fR (h0:ds.length+1=m) (h1:F (gK n x ds)=some o) (h2:IQ o=some w):fz F n m x ds=some w:=by
 simp only[fz,Ae h0,h1,Yb];exact h2
theorem qx (h:D->D):∀(items:List D) (sb:En),(∀x∈items,∃s1 s2 y s3 s4,fg x sb=some s1/\fc s1=some (true,s2)/\fe s2=some (y,s3)/\esc y s3=some (h x,s4)/\rE k s4=sb)->cN fg fc fe k items sb=some (items.map h,sb)
 | [],sb,_=>rfl
 | x::r,sb,hh=>by
  obtain⟨s1,s2,y,s3,s4,e1,e2,e3,e4,e5⟩:=hh x Qa;have ih:=qx h r sb fun z hz=>hh z (Va _ hz);simp only[cN,e1,e2,e3,e4,Yb,if_true,e5,ih,Ve]
theorem qy (I:List D->En->Prop) (step:∀(pre:List D) (x:D) (sb:En),I pre sb->∃s1 s2 y s3 d s4,fg x sb=some s1/\fc s1=some (true,s2)/\fe s2=some (y,s3)/\esc y s3=some (d,s4)/\I (pre++[d]) (rE k s4)) :
  ∀(items:List D) (pre:List D) (sb:En),I pre sb->∃ds sf,cN fg fc fe k items sb=some (ds,sf)/\ds.length=items.length/\I (pre++ds) sf
 | [],pre,sb,h=>⟨[],sb,rfl,rfl,by rw[Qe];exact h⟩
 | x::r,pre,sb,h=>by
  obtain⟨s1,s2,y,s3,d,s4,e1,e2,e3,e4,e5⟩:=step pre x sb h;obtain⟨ds,sf,e6,e7,e8⟩:=qy I step r (pre++[d]) (rE k s4) e5;refine⟨d::ds,sf,?_,by simp[e7],by rw[Xe]at e8;exact e8⟩
  simp only[cN,e1,e2,e3,e4,Yb,if_true,e6]
theorem vN (I:Nat->En->Prop) (Out:En->Prop) (step:∀(m:Nat) (st:En),I m st->(∃s1,f st=some (false,s1)/\Out s1)∨∃s1 s2 m',f st=some (true,s1)/\B s1=some (.nx s2)/\m'<m/\I m' s2) :
  ∀(n m:Nat) (st:En),m<n->I m st->∃sf,Gz f B n st=some (.nx sf)/\Out sf
 | 0,m,st,hn,_=>absurd hn (C4 _)
 | n+1,m,st,hn,h=>by
  rcases step m st h with⟨s1,e1,ho⟩|⟨s1,s2,m',e1,e2,hm,h2⟩
  ·exact⟨s1,by simp only[Gz,e1,Yb,Ye,if_false],ho⟩
  ·obtain⟨sf,e3,ho⟩:=vN I Out step n m' s2 (by lia) h2
   exact⟨sf,by simp only[Gz,e1,e2,Yb,if_true];exact e3,ho⟩
end
end VF
namespace VF
open PySem L2
theorem ix_str {z:Str} (hz:z.length<=1000000) (h:jR z.cps.toList i=some c):bE (.str z) (.int i)=some (.str ⟨#[c]⟩,false):=by
 have e1:yR (.str z) (.int i)=none:=rfl;have e2:Ee (.str z) (.int i)=none:=rfl;have e3:G8 (.str z) (.int i)=some (.str ⟨#[c]⟩,false):=by
  show(if z.length<=1000000 then(jR z.cps.toList i).bind (fun c=>some (D.str ⟨#[c]⟩,false)) else none)=_;rw[Ae hz,h];rfl
 unfold bE jU;rw[e1,e2];exact e3
theorem wX {a b:Str} (h:a.length+b.length<=1000000):di (.str a) (.str b)=some (.str (a++b),false):=by
 have e1:tX (.str a) (.str b)=none:=rfl;have e2:t4 (.str a) (.str b)=some (.str (a++b),false):=by
  show(if a.length+b.length<=1000000 then some (D.str (a++b),false) else none)=_;rw[Ae h]
 unfold di jU;rw[e1,e2]
theorem Hr {a:Str} (h:0<=n/\n<=1000/\a.length<=1000):pV (.str a) (.int n)=some (.str (Txt.mul a n),false):=by
 have e1:wH (.str a) (.int n)=none:=rfl;have e2:Ed (.str a) (.int n)=some (.str (Txt.mul a n),false):=by
  show(if 0<=n/\n<=1000/\a.length<=1000 then some (D.str (Txt.mul a n),false) else none)=_;rw[Ae h]
 unfold pV jU;rw[e1,e2]
theorem iA:∀xs:List Str,gM (xs.map D.str)=some xs
 | []=>rfl
 | x::r=>by
  show(gM (r.map D.str)).bind (fun xs=>some (x::xs))=_;rw[iA r];rfl
theorem qz:∀xs:List Str,qt (xs.map D.str)=some (xs.map V.str)
 | []=>rfl
 | x::r=>by
  show(qt (r.map D.str)).bind (fun vs=>some (V.str x::vs))=_;rw[qz r];rfl
theorem qA:∀n:Nat,qu (List.replicate n (D.bl true))=some (List.replicate n true)
 | 0=>rfl
 | n+1=>by
  show(qu (List.replicate n (D.bl true))).bind (fun bs=>some (true::bs))=_;rw[qA n];rfl
theorem um (n:Nat):KK [.lst (List.replicate n (D.bl true))]=some (.bl true,false):=by
 show(qu (List.replicate n (D.bl true))).bind (fun bs=>some (D.bl (bs.all id),false))=_;rw[qA];show some (D.bl ((List.replicate n true).all id),false)=_;have:(List.replicate n true).all id=true:=by
  rw[Vm];intro b hb;exact Ds hb
 rw[this]
theorem I8 {xs:List Str}:Nn (.str x) (.lst (xs.map D.str))=some (.bl (decide (x∈xs)),false):=by
 have e1:KD false (.str x) (.lst (xs.map D.str))=none:=rfl;have e2:KF false (.str x) (.lst (xs.map D.str))=some (.bl (decide (x∈xs)),false):=by
  show(qt (xs.map D.str)).bind (fun ws=>some (D.bl (II (.str x) ws),false))=_;rw[qz];show some (D.bl (II (.str x) (xs.map V.str)),false)=_;have e:II (.str x) (xs.map V.str)=decide (x∈xs):=by
   unfold II;rw[DD];induction xs with
   | nil=>rfl
   | cons y r ih =>
    rw[Bu,ih rfl];show((y == x)||decide (x∈r))=_;by_cases e:y=x
    ·subst e;simp
    ·have e':¬ x=y:=fun z=>e z.symm;simp[e,e']
  rw[e]
 unfold Nn jU;rw[e1];exact e2
theorem K8 {z:Str} (h:z.length<=1000000):IS (.str z) lo hi=some (.str (Txt.slice z lo hi),false):=by
 have e1:G9 (.str z) lo hi=none:=rfl;have e2:rL (.str z) lo hi=none:=rfl;have e3:Ha (.str z) lo hi=some (.str (Txt.slice z lo hi),false):=by
  show(if z.length<=1000000 then some (D.str (Txt.slice z lo hi),false) else none)=_;rw[Ae h]
 unfold IS IR;rw[e1,e2];exact e3
section
variable {st s s1 s2 s3:En} {r r1:Rs} {rs:List Rs} {d d0 d1:D} {ds:List D} {z:Rz} {fe fo:FE} {fa:FA} {fl fh:FO}
theorem EA (h1:fo st=some (r1,s1)) (h2:cont s1 r1=some d0) (h3:KN T d0=true) (h4:fa s1=some (rs,s2)) (h5:cont s2 r1=some d) (h6:cU s2 rs=some ds) (h7:b d ds=some z) (hz:mk z=r:=by rfl):KO T b fo fa st=some (r,s2):=by
 simp only[KO,h1,h2,h3,h4,h5,h6,h7,hz,Yb,if_true]
theorem nU {j:Int} (h1:fa st=some (rs,s1)) (h2:cU s1 rs=some [.int j]) (h3:-(2 ^ 62)<=j/\j<2 ^ 62):vD fa st=some (rng 0 j.toNat,s1):=by
 simp only[vD,h1,h2,Yb,Kr];rw[Ae h3]
theorem mU (h1:fe st=some (r,s1)) (h2:fl s1=some (lo,s2)) (h3:fh s2=some (hi,s3)) (h4:cont s3 r=some d) (h5:b d lo hi=some z) (hz:mk z=r':=by rfl):t9 b fe fl fh st=some (r',s3):=by
 simp only[t9,h1,h2,h3,h4,h5,hz,Yb]
theorem oN {f:FT} {fa fb:FE} {a:Option (Rs×En)} (h:f st=some (true,s)) (h2:fa s=a):s9 f fa fb st=a:=by simp only[s9,h,Yb,if_true];exact h2
theorem qB {f:FT} {fa fb:FE} {a:Option (Rs×En)} (h:f st=some (false,s)) (h2:fb s=a):s9 f fa fb st=a:=by simp only[s9,h,Yb,Ye,if_false];exact h2
theorem oO (h1:fe st=some (r,s1)) (h2:esc r s1=some (.lst ds,s2)):nC fe st=some (ds,s2):=by
 have:Mv fe st=some (ds,s2):=by simp only[Mv,h1,h2,Yb,D.its]
 unfold nC;rw[this]
theorem oP (h1:fe st=some (r,s1)) (h2:esc r s1=some (.tup ds,s2)):nC fe st=some (ds,s2):=by
 have e1:Mv fe st=none:=by simp only[Mv,h1,h2,Yb,D.its,Option.bind_none]
 have e2:Ox fe st=some (ds,s2):=by simp only[Ox,h1,h2,Yb,D.itt]
 unfold nC;rw[e1,e2]
theorem Hs (h1:fe st=some (r,s1)) (h2:cont s1 r=some (.tup ds)):wT fe st=some (ds.reverse,s1):=by
 simp only[wT,h1,h2,Yb,D.itt]
theorem dG (h1:fa st=some (rs,s1)) (h2:fu rs s1=some (ds,s2)) (h3:ds.length<=1000000):dD fa st=some (.d (.tup ds),s2):=by
 simp only[dD,h1,h2,Yb];rw[Ae h3]
end
theorem uo (all:List D) (I:List D->En->Prop) (step:∀(gone:List D) (x:D) (rest:List D) (st:En),all=gone++x::rest->I gone st->∃s1 s2,fg x st=some s1/\B s1=some (.nx s2)/\I (gone++[x]) s2) :
  ∀(items gone:List D) (st:En),all=gone++items->I gone st->∃sf,iZ fg B items st=some (.nx sf)/\I all sf
 | [],gone,st,ha,h=>⟨st,rfl,by rw[ha,Qe];exact h⟩
 | x::r,gone,st,ha,h=>by
  obtain⟨s1,s2,e1,e2,e3⟩:=step gone x r st ha h;obtain⟨sf,e4,e5⟩:=uo all I step r (gone++[x]) s2 (by rw[Xe];exact ha) e3
  refine⟨sf,?_,e5⟩;simp only[iZ,e1,e2,Yb];exact e4
end VF
namespace VF
open PySem L2
section
variable {K:PySem.W.Frag}
def b1 (g:D->Option D):List D->Option Rz
 | [d]=>(g d).map fun r=>(r,false)
 | _=>none
theorem K9 (h:∀(Y:AS) (H:Hp) (v:V) (d o:D) (Q:VK),BA K Y H v d->g d=some o->(∀u,DA K Y H u o->Q u H)->r [v] H Q):RdCB K r (b1 g):=by
 intro Y H xs ds z Q lv bs e q;cases bs with
 | nil=>cases e
 | @cons v vs d ds c1 bs =>
  cases bs with
  | cons _ _=>cases e
  | nil =>
   obtain⟨o,eo,rfl⟩:=Vc.mp e;exact h Y H v d o Q c1 eo fun u hu=>q u H (Same.refl H) hu
def La:D->Option D
 | .int i=>some (.int i)
 | .bl k=>some (.int (if k then 1 else 0))
 | _=>none
theorem Ht:RdCB K (fun xs H Q=>(∃i,xs=[.int i]/\Q (.int i) H)∨∃k,xs=[.bl k]/\Q (.int (if k then 1 else 0)) H) (b1 La):=K9 fun Y H v d o Q c e q=>by
 cases d with
 | int i=>cases e;exact .inl ⟨i,by rw[show v=V.int i from c],q _ (.int _)⟩
 | bl k=>cases e;exact .inr ⟨k,by rw[show v=V.bl k from c],q _ (.int _)⟩
 | _=>cases e
end
end VF
namespace VF
open PySem L2
inductive Pl:Nat->D->Prop where
 | non (n:Nat):Pl (n+1) .non
 | int (n:Nat) (i:Int):Pl (n+1) (.int i)
 | str (n:Nat) (x:Str):Pl (n+1) (.str x)
 | tup {n:Nat} {ds:List D}:(∀d∈ds,Pl n d)->Pl (n+1) (.tup ds)
 | lst {n:Nat} {ds:List D}:(∀d∈ds,Pl n d)->Pl (n+1) (.lst ds)
inductive RH (h:Heap):Value->D->Prop where
 | non:RH h .none .non
 | int (i:Int) (t:Tok):RH h (.int i t) (.int i)
 | str (x:Str) (t:Tok):RH h (.str x t) (.str x)
 | tup {a:Addr} {its:List Value} {ds:List D}:h.IsTuple a its.toArray->its.length=ds.length->(∀(i:Nat) u d,its[i]?=some u->ds[i]?=some d->RH h u d)->RH h (.ref a) (.tup ds)
 | lst {a:Addr} {its:List Value} {ds:List D}:h.IsList a its.toArray->its.length=ds.length->(∀(i:Nat) u d,its[i]?=some u->ds[i]?=some d->RH h u d)->RH h (.ref a) (.lst ds)
section
variable {X:Cx} {K:PySem.W.Frag} {Y:AS} {H:Hp} {s:Shared} {pins:List (Addr×Obj)} {σ:St}
theorem Pl.up (h:Pl n d):Pl (n+1) d:=by
 induction h with
 | non n=>exact .non _
 | int n i=>exact .int _ i
 | str n x=>exact .str _ x
 | tup _ ih=>exact .tup ih
 | lst _ ih=>exact .lst ih
theorem dB:∀{vs:List V} {us:List Value},Vals vs us->∀(i:Nat) u,us[i]?=some u->∃v,vs[i]?=some v/\RelV v u
 | _,_,.nil,i,u,h=>by simp at h
 | v::_,w::_,.cons r rs,0,u,h=>by
  have e:w=u:=by simpa using h
  exact⟨v,rfl,e ▸ r⟩
 | _::_,_::_,.cons r rs,i+1,u,h=>by
  obtain⟨v,h1,h2⟩:=dB rs i u (by simpa using h)
  exact⟨v,by simpa using h1,h2⟩
theorem DA.rh (h:DA K Y H v d) (p:Pl n d) (I:Inv X pins σ H s) (hK:X.K=K):∀{u:Value},RelV v u->RH s.heap u d:=by
 induction h generalizing n with
 | non=>intro u r;cases r;exact .non
 | bl b=>cases p
 | int i=>intro u r;obtain⟨t,rfl⟩:=r;exact .int i t
 | str x=>intro u r;obtain⟨t,rfl⟩:=r;exact .str x t
 | ty n=>cases p
 | fl _ _ _ _=>cases p
 | dk _ _ _ _ _=>cases p
 | dt _ _ _ _ _ _=>cases p
 | xc _=>cases p
 | @tup a vs ds h1 h2 h3 ih =>
  intro u r;cases r;cases p with
  | tup p =>
   obtain⟨its,r,t,_⟩:=I.tuple (hK ▸ h1.sq);refine .tup t (r.length.symm.trans h2) fun i u d e1 e2=>?_;obtain⟨v,e3,rv⟩:=dB r i u e1;exact ih i v d e3 e2 (p d (Wa e2)) rv
 | @lst a vs ds h0 h1 h2 h3 ih =>
  intro u r;cases r;cases p with
  | lst p =>
   obtain⟨its,r,t,_⟩:=I.list (show gj X.K H a vs from .inl (.inl h1));refine .lst t.isList (r.length.symm.trans h2) fun i u d e1 e2=>?_;obtain⟨v,e3,rv⟩:=dB r i u e1;exact ih i v d e3 e2 (p d (Wa e2)) rv
theorem BA.rh (h:BA K Y H v d) (p:Pl n d) (I:Inv X pins σ H s) (hK:X.K=K) (ru:RelV v u):RH s.heap u d:=by
 cases p with
 | non=>cases (show v=.non from h);cases ru;exact .non
 | int _ i=>cases (show v=.int i from h);obtain⟨t,rfl⟩:=ru;exact .int i t
 | str _ x=>cases (show v=.str x from h);obtain⟨t,rfl⟩:=ru;exact .str x t
 | tup p =>
  obtain⟨a,vs,rfl,h1,el⟩:=h;cases ru;obtain⟨its,r,t,_⟩:=I.tuple (hK ▸ h1.sq);refine .tup t (r.length.symm.trans el.1) fun i u d e1 e2=>?_;obtain⟨v,e3,rv⟩:=dB r i u e1;exact(el.2 i v d e3 e2).rh (p d (Wa e2)) I hK rv
 | lst p =>
  obtain⟨a,vs,rfl,h1,el⟩:=h;cases ru;obtain⟨its,r,t,_⟩:=I.list (show gj X.K H a vs from .inl (.inl h1));refine .lst t.isList (r.length.symm.trans el.1) fun i u d e1 e2=>?_;obtain⟨v,e3,rv⟩:=dB r i u e1;exact(el.2 i v d e3 e2).rh (p d (Wa e2)) I hK rv
theorem yZ {h:Heap} (h1:h.IsTuple a x) (h2:h.IsTuple a y):x=y:=by
 obtain⟨o,e1,_,n,d1⟩:=h1;obtain⟨o',e2,_,n',d2⟩:=h2;rw[e1]at e2;cases e2;rw[d1]at d2;cases d2;rfl
theorem vO {h:Heap} (h1:h.IsList a x) (h2:h.IsList a y):x=y:=by
 obtain⟨o,e1,_,n,d1⟩:=h1;obtain⟨o',e2,_,n',d2⟩:=h2;rw[e1]at e2;cases e2;rw[d1]at d2;cases d2;rfl
theorem uq {h:Heap} (h1:h.IsList a x) (h2:h.IsTuple a y):False:=by
 obtain⟨o,e1,c1,_⟩:=h1;obtain⟨o',e2,c2,_⟩:=h2;rw[e1]at e2;cases e2;rw[c1]at c2;injection c2 with c2;exact absurd c2 (by decide)
theorem RH.inj (r:RH h u d):∀{d':D},RH h u d'->d=d':=by
 induction r with
 | non=>intro d' r';cases r';rfl
 | int i t=>intro d' r';cases r';rfl
 | str x t=>intro d' r';cases r';rfl
 | @tup a its ds t hl _ ih =>
  intro d' r';cases r' with
  | @tup _ its' ds' t' hl' f =>
   have e:its=its':=by simpa using yZ t t'
   subst e;have:ds=ds':=by
    refine Bs (hl.symm.trans hl') fun i h1 h2=>?_;exact ih i its[i] ds[i] (Za (by lia)) (Za h1) (f i its[i] ds'[i] (Za (by lia)) (Za h2))
   rw[this]
  | lst t' _ _=>exact(uq t' t).elim
 | @lst a its ds t hl _ ih =>
  intro d' r';cases r' with
  | @lst _ its' ds' t' hl' f =>
   have e:its=its':=by simpa using vO t t'
   subst e;have:ds=ds':=by
    refine Bs (hl.symm.trans hl') fun i h1 h2=>?_;exact ih i its[i] ds[i] (Za (by lia)) (Za h1) (f i its[i] ds'[i] (Za (by lia)) (Za h2))
   rw[this]
  | tup t' _ _=>exact(uq t t').elim
open Classical in
theorem EB {xs ys:List D} (h:xs.length=ys.length):((List.range xs.length).all fun j=>decide (xs[j]?=ys[j]?))=decide (xs=ys):=by
 rw[Yf,Vm,decide_eq_true_eq];constructor
 ·intro e;refine CM fun j=>?_;by_cases hj:j<xs.length
  ·exact Al (e j (Vg.mpr hj))
  ·rw[AQ (by lia),AQ (by lia)]
 ·rintro rfl j _;exact Af rfl
open Classical in
theorem eq3 {d1 d2:D} {u1 u2:Value} {A:Around} (h:¬ d1=d2) (a:SeqAt.EqAt A s u1 u2 false) (b:SeqAt.RcAt A s u1 u2 false) (c:SeqAt.RcNeAt A s u1 u2 true) :
  SeqAt.EqAt A s u1 u2 (decide (d1=d2))/\SeqAt.RcAt A s u1 u2 (decide (d1=d2))/\SeqAt.RcNeAt A s u1 u2 (!decide (d1=d2)):=by
 rw[Ad h];exact⟨a,b,c⟩
open Classical in
theorem Pj {s:Shared} {its its':List Value} {ds ds':List D} (hl:its.length=ds.length) (hl':its'.length=ds'.length) (f:∀(j:Nat) u d,its[j]?=some u->ds[j]?=some d->RH s.heap u d) (f':∀(j:Nat) u d,its'[j]?=some u->ds'[j]?=some d->RH s.heap u d) (p1:∀d∈ds,Pl n d) (p2:∀d∈ds',Pl n d)
  (ih:∀{d1 d2:D} {u1 u2:Value},Pl n d1->Pl n d2->RH s.heap u1 d1->RH s.heap u2 d2->SeqAt.EqAt A s u1 u2 (decide (d1=d2))) (j:Nat) (h1:j<its.toArray.size) (h2:j<its'.toArray.size):SeqAt.EqAt A s its.toArray[j] its'.toArray[j] (decide (ds[j]?=ds'[j]?)):=by
 have h1':j<its.length:=by simpa using h1
 have h2':j<its'.length:=by simpa using h2
 have e1:ds[j]?=some ds[j]:=Za (hl ▸ h1');have e2:ds'[j]?=some ds'[j]:=Za (hl' ▸ h2');have z:=ih (p1 _ (Wa e1)) (p2 _ (Wa e2)) (f j its[j] _ (Za h1') e1) (f' j its'[j] _ (Za h2') e2);have e:decide (ds[j]?=ds'[j]?)=decide (ds[j]=ds'[j]):=by rw[e1,e2,Yf];simp
 rw[e];exact z
open Classical in
theorem RH.eqAt:∀(n:Nat) {s:Shared} {d1 d2:D} {u1 u2:Value} {A:Around},Pl n d1->Pl n d2->RH s.heap u1 d1->RH s.heap u2 d2->A.units+n<cLine ->
  SeqAt.EqAt A s u1 u2 (decide (d1=d2))/\SeqAt.RcAt A s u1 u2 (decide (d1=d2))/\SeqAt.RcNeAt A s u1 u2 (!decide (d1=d2)):=by
 intro n;induction n with
 | zero=>intro s d1 d2 u1 u2 A p;cases p
 | succ n ih =>
  intro s d1 d2 u1 u2 A p1 p2 r1 r2 hu;have hu':A.units<cLine:=by lia
  cases r1 with
  | non =>
   cases r2 with
   | non=>rw[Af rfl];exact⟨SeqAt.EqAt.same _,SeqAt.RcAt.none_none,SeqAt.RcNeAt.none_none⟩
   | int i t=>exact eq3 (by intro z;cases z) (SeqAt.EqAt.none_int _ _) (SeqAt.RcAt.none_int _ _) (SeqAt.RcNeAt.none_int _ _)
   | str x t=>exact eq3 (by intro z;cases z) (SeqAt.EqAt.none_str _ _) (SeqAt.RcAt.none_str _ _) (SeqAt.RcNeAt.none_str _ _)
   | tup t _ _=>exact eq3 (by intro z;cases z) (SeqAt.EqAt.none_tuple t hu') (SeqAt.RcAt.none_tuple t hu') (SeqAt.RcNeAt.none_tuple t hu')
   | lst t _ _=>exact eq3 (by intro z;cases z) (SeqAt.EqAt.none_list t hu') (SeqAt.RcAt.none_list t hu') (SeqAt.RcNeAt.none_list t hu')
  | int i t =>
   cases r2 with
   | non=>exact eq3 (by intro z;cases z) (SeqAt.EqAt.int_none _ _) (SeqAt.RcAt.int_none _ _) (SeqAt.RcNeAt.int_none _ _)
   | int j t' =>
    have e:decide (D.int i=D.int j)=(i == j):=by rw[Yf];simp
    rw[e];exact⟨SeqAt.EqAt.int_int _ _ _ _,SeqAt.RcAt.int_int _ _ _ _,SeqAt.RcNeAt.int_int _ _ _ _⟩
   | str x t'=>exact eq3 (by intro z;cases z) (Cn _ _ _ _) (SeqAt.RcAt.int_str _ _ _ _) (SeqAt.RcNeAt.int_str _ _ _ _)
   | tup t' _ _=>exact eq3 (by intro z;cases z) (SeqAt.EqAt.int_tuple _ _ t' hu') (SeqAt.RcAt.int_tuple _ _ t' hu') (SeqAt.RcNeAt.int_tuple _ _ t' hu')
   | lst t' _ _=>exact eq3 (by intro z;cases z) (SeqAt.EqAt.int_list _ _ t' hu') (SeqAt.RcAt.int_list _ _ t' hu') (SeqAt.RcNeAt.int_list _ _ t' hu')
  | str x t =>
   cases r2 with
   | non=>exact eq3 (by intro z;cases z) (SeqAt.EqAt.str_none _ _) (SeqAt.RcAt.str_none _ _) (SeqAt.RcNeAt.str_none _ _)
   | int j t'=>exact eq3 (by intro z;cases z) (Ck _ _ _ _) (SeqAt.RcAt.str_int _ _ _ _) (SeqAt.RcNeAt.str_int _ _ _ _)
   | str y t' =>
    have e:decide (D.str x=D.str y)=(x == y):=by rw[Yf];simp
    rw[e];exact⟨SeqAt.EqAt.str_str _ _ _ _,SeqAt.RcAt.str_str _ _ _ _,SeqAt.RcNeAt.str_str _ _ _ _⟩
   | tup t' _ _=>exact eq3 (by intro z;cases z) (SeqAt.EqAt.str_tuple _ _ t' hu') (SeqAt.RcAt.str_tuple _ _ t' hu') (SeqAt.RcNeAt.str_tuple _ _ t' hu')
   | lst t' _ _=>exact eq3 (by intro z;cases z) (SeqAt.EqAt.str_list _ _ t' hu') (SeqAt.RcAt.str_list _ _ t' hu') (SeqAt.RcNeAt.str_list _ _ t' hu')
  | @tup a its ds t hl f =>
   cases r2 with
   | non=>exact eq3 (by intro z;cases z) (SeqAt.EqAt.tuple_none t hu') (SeqAt.RcAt.tuple_none t hu') (SeqAt.RcNeAt.tuple_none t hu')
   | int j t'=>exact eq3 (by intro z;cases z) (SeqAt.EqAt.tuple_int _ _ t hu') (SeqAt.RcAt.tuple_int _ _ t hu') (SeqAt.RcNeAt.tuple_int _ _ t hu')
   | str y t'=>exact eq3 (by intro z;cases z) (SeqAt.EqAt.tuple_str _ _ t hu') (SeqAt.RcAt.tuple_str _ _ t hu') (SeqAt.RcNeAt.tuple_str _ _ t hu')
   | lst t' _ _=>exact eq3 (by intro z;cases z) (SeqAt.EqAt.tuple_list t t' hu') (SeqAt.RcAt.tuple_list t t' hu') (SeqAt.RcNeAt.tuple_list t t' hu')
   | @tup b its' ds' t' hl' f' =>
    cases p1 with
    | tup p1 =>
    cases p2 with
    | tup p2 =>
    have it:=Pj (A:=A.in1) hl hl' f f' p1 p2 fun q1 q2 q3 q4=>(ih (A:=A.in1) q1 q2 q3 q4 (by show A.units+1+n<cLine;lia)).1
    have e:decide (D.tup ds=D.tup ds')=((List.range (min its.toArray.size its'.toArray.size)).all (fun j=>decide (ds[j]?=ds'[j]?))&&its.toArray.size == its'.toArray.size):=by
     simp only[Zc];by_cases hh:its.length=its'.length
     ·rw[← hh,Nat.min_self,hl,EB (by lia),Yf];simp
     ·have:ds≠ds':=fun z=>hh (by rw[hl,hl',z])
      rw[Yf];simp[hh,this]
    have rc:SeqAt.RcAt A s (.ref a) (.ref b) (decide (D.tup ds=D.tup ds')):=by
     rw[e];exact SeqAt.RcAt.tuples (A:=A) (e:=fun j=>decide (ds[j]?=ds'[j]?)) t t' hu' it
    have rn:SeqAt.RcNeAt A s (.ref a) (.ref b) (!decide (D.tup ds=D.tup ds')):=by
     rw[e];exact SeqAt.RcNeAt.tuples (A:=A) (e:=fun j=>decide (ds[j]?=ds'[j]?)) t t' hu' it
    refine⟨?_,rc,rn⟩;by_cases hab:a=b
    ·subst hab;have:=RH.inj (RH.tup t hl f) (RH.tup t' hl' f');rw[this,Af rfl];exact SeqAt.EqAt.same _
    ·exact BC hab rc
  | @lst a its ds t hl f =>
   cases r2 with
   | non=>exact eq3 (by intro z;cases z) (SeqAt.EqAt.list_none t hu') (SeqAt.RcAt.list_none t hu') (SeqAt.RcNeAt.list_none t hu')
   | int j t'=>exact eq3 (by intro z;cases z) (SeqAt.EqAt.list_int _ _ t hu') (SeqAt.RcAt.list_int _ _ t hu') (SeqAt.RcNeAt.list_int _ _ t hu')
   | str y t'=>exact eq3 (by intro z;cases z) (SeqAt.EqAt.list_str _ _ t hu') (SeqAt.RcAt.list_str _ _ t hu') (SeqAt.RcNeAt.list_str _ _ t hu')
   | tup t' _ _=>exact eq3 (by intro z;cases z) (SeqAt.EqAt.list_tuple t t' hu') (SeqAt.RcAt.list_tuple t t' hu') (SeqAt.RcNeAt.list_tuple t t' hu')
   | @lst b its' ds' t' hl' f' =>
    cases p1 with
    | lst p1 =>
    cases p2 with
    | lst p2 =>
    have it:=Pj (A:=A.in1) hl hl' f f' p1 p2 fun q1 q2 q3 q4=>(ih (A:=A.in1) q1 q2 q3 q4 (by show A.units+1+n<cLine;lia)).1
    have both:SeqAt.RcAt A s (.ref a) (.ref b) (decide (D.lst ds=D.lst ds'))/\SeqAt.RcNeAt A s (.ref a) (.ref b) (!decide (D.lst ds=D.lst ds')):=by
     by_cases hh:its.length=its'.length
     ·have e:decide (D.lst ds=D.lst ds')=(List.range its.toArray.size).all fun j=>decide (ds[j]?=ds'[j]?):=by
       simp only[Zc];rw[hl,EB (by lia),Yf];simp
      rw[e];exact⟨SeqAt.RcAt.lists (A:=A) (e:=fun j=>decide (ds[j]?=ds'[j]?)) t t' (by simpa using hh) hu' it,SeqAt.RcNeAt.lists (A:=A) (e:=fun j=>decide (ds[j]?=ds'[j]?)) t t' (by simpa using hh) hu' it⟩
     ·have:ds≠ds':=fun z=>hh (by rw[hl,hl',z])
      rw[Ad (by intro z;cases z;exact this rfl)]
      exact⟨SeqAt.RcAt.lists_lengths t t' (by simpa using hh) hu',Dc t t' (by simpa using hh) hu'⟩
    obtain⟨rc,rn⟩:=both;refine⟨?_,rc,rn⟩;by_cases hab:a=b
    ·subst hab;have:=RH.inj (RH.lst t hl f) (RH.lst t' hl' f');rw[this,Af rfl];exact SeqAt.EqAt.same _
    ·exact BC hab rc
open Classical in
noncomputable def ut (neg:Bool):D->D->Option Rz:=fun a b=>if Pl 40 a/\Pl 40 b then some (.bl (if neg then !decide (a=b) else decide (a=b)),false) else none
open Classical in
def EC (K:PySem.W.Frag) (neg:Bool):R2:=fun x y H Q=>∃(Y:AS) (a b:D),BA K Y H x a/\BA K Y H y b/\Pl 40 a/\Pl 40 b/\Q (.bl (if neg then !decide (a=b) else decide (a=b))) H
theorem ED (neg:Bool):RdOp K (EC K neg) (ut neg):=by
 intro Y H x y d1 d2 z Q lv b1 b2 e q;unfold ut at e;obtain⟨c,e⟩:=aL e;cases e;exact⟨Y,d1,d2,b1,b2,c.1,c.2,q _ H (Same.refl H) (.bl _)⟩
theorem Lb (h:X.K=K) (hu:X.A.units+64<cLine):OpR X (compareOp .Eq) (EC K false):=by
 intro pins s σ H x y v u Q I rx ry ⟨Y,a,b,b1,b2,p1,p2,q⟩;exact(RH.eqAt 40 (A:=X.A) p1 p2 (b1.rh p1 I h rx) (b2.rh p2 I h ry) (by lia)).2.1 _ _ _ _ ⟨.bl _,H,I,rfl,q⟩
theorem Lc (h:X.K=K) (hu:X.A.units+64<cLine):OpR X (compareOp .NotEq) (EC K true):=by
 intro pins s σ H x y v u Q I rx ry ⟨Y,a,b,b1,b2,p1,p2,q⟩;exact(RH.eqAt 40 (A:=X.A) p1 p2 (b1.rh p1 I h rx) (b2.rh p2 I h ry) (by lia)).2.2 _ _ _ _ ⟨.bl _,H,I,rfl,q⟩
noncomputable def lG:=jU jd (ut false)
noncomputable def jf:=jU He (ut true)
def Nx (K:PySem.W.Frag):R2:=fun x y H Q=>MW x y H Q∨EC K false x y H Q
def Ny (K:PySem.W.Frag):R2:=fun x y H Q=>KW K x y H Q∨EC K true x y H Q
theorem vP (h:X.K=K) (hu:X.A.units+64<cLine):OpR X (compareOp .Eq) (Nx K):=(KR h hu).or (Lb h hu)
theorem vQ:RdOp K (Nx K) lG:=ro_eqA.or (ED false)
theorem rS (h:X.K=K) (hu:X.A.units+64<cLine):OpR X (compareOp .NotEq) (Ny K):=(rM h hu).or (Lc h hu)
theorem rT:RdOp K (Ny K) jf:=ro_neA.or (ED true)
end
end VF
namespace VF
open PySem L2 PySem.Spec
section
variable {X:Cx} {a b e:Expr} {ta te:TE}
theorem rV (hK:X.K=K) (hc:X.calm=true) (h:MR X es t)
  (hn:(assignEach es X.env).length=n:=by rfl) (hst:(assignEach es X.env).findIdx? (·.1)=none:=by rfl):PG X (.Tuple es k pos) (JF K n t):=hK ▸ JG hc h hn hst
end
section
variable {K:PySem.W.Frag} {Y O O' Z:AS} {H H':Hp} {v:V} {d:D} {st st':En} {σ:St}
def EE:D->List D->Option (D×D)
 | .lst _,[]=>some (.non,.lst [])
 | _,_=>none
theorem EF:RdM K "list" DT vI EE:=⟨fun Y H p x h e=>OS h e,fun Y H p x vs ds y x' Q hp ho el e q=>by
 cases x with
 | lst xs =>
  cases ds with
  | cons _ _=>cases e
  | nil =>
   cases e;obtain⟨ws,h1,h2⟩:=ho;obtain rfl:=el.unnil;exact⟨p,ws,rfl,rfl,h1,q .non _ .non ⟨[],bx,El.nil⟩⟩
 | _=>cases e⟩
end
end VF
namespace VF
open PySem L2 PySem.Spec
section
variable {X:Cx} {K:PySem.W.Frag}
def EG (K:PySem.W.Frag):R2:=fun x y H Q=>∃a b ys,x=.ref a/\y=.ref b/\jP K H a []/\jP K H b ys/\Q (.ref b) H
theorem Hu (h:X.K=K):OpR X (binaryOp .Add) (EG K):=by
 intro pins s σ H x y v u Q I rx ry hh;obtain⟨a,b,ys,rfl,rfl,ha,hb,q⟩:=hh;cases rx;cases ry;subst h;obtain⟨its,r1,p1,_⟩:=I.tuple ha;obtain⟨its2,r2,p2,_⟩:=I.tuple hb;cases r1;obtain⟨⟨cls,dd,data,sl⟩,ho,hc,n,hd⟩:=id p1;obtain⟨⟨cls2,dd2,data2,sl2⟩,ho2,hc2,n2,hd2⟩:=id p2;simp only at hc hd hc2 hd2;subst hc hd hc2 hd2;exact concat_meets ⟨_,ho,rfl⟩ ⟨_,ho2,rfl⟩ CO seq_tuple_add PySem.F.slot_tuple_add PySem.F.entry_tuple_add (PySem.F.args_tuple_add_2 _ _)
   (PyProof.Rows.tuple_addW0 a b _ _ n n2 dd dd2 sl sl2 rfl) ⟨ho,ho2,.ref b,H,I,rfl,q⟩
def I9:D->D->Option Rz
 | .tup [],.tup b=>some (.tup b,false)
 | _,_=>none
theorem Hv:RdOp K (EG K) I9:=by
 intro Y H x y d1 d2 z Q lv b1 b2 e q;cases d1 with
 | tup a =>
  cases a with
  | cons a0 a=>cases e
  | nil =>
   cases d2 with
   | tup b =>
    cases e;obtain⟨p,xs,rfl,hp,el⟩:=b1;obtain⟨p2,ys,rfl,hp2,el2⟩:=b2;obtain rfl:=el.unnil;exact⟨p,p2,ys,rfl,rfl,hp.sq,hp2.sq,q _ H (Same.refl H) (.tup hp2 el2.1 el2.2)⟩
   | _=>cases e
 | _=>cases e
def cj:=jU di I9
def Ja (K:PySem.W.Frag):R2:=fun x y H Q=>wL K x y H Q∨EG K x y H Q
theorem gy (h:X.K=K):OpR X (binaryOp .Add) (Ja K):=(wM h).or (Hu h)
theorem gz:RdOp K (Ja K) cj:=ro_addA.or Hv
def Ld (K:PySem.W.Frag):V->Option Int->Option Int->Hp->VK->Prop:=fun x lo hi H Q=>∃a xs,x=.ref a/\jP K H a xs/\(HT.sIx xs.length 0 lo=0/\HT.sIx xs.length xs.length hi=xs.length)/\Q (.ref a) H
end
end VF
namespace HT
open PySem PyProof.Rows
section
variable {prog:Program} {w:World} {A:Around} {E:Value->Shared->Prop} {s:Shared}
theorem getItem_tuple_all {t sl:Addr} {items:Array Value} {vl vu:Value} {lo hi:Option Int} {Q:Value->Shared->Prop} (ht:IsTup s.heap t items) (hs:s.heap.IsSliceOf sl vl vu .none) (pl:IsPart vl lo) (pu:IsPart vu hi)
  (hw:sIx items.size 0 lo=0/\sIx items.size items.size hi=items.size) (h:Q (.ref t) s):wpAny (model prog w) A (getItem (.ref t) (.ref sl)) Q E s:=by
 obtain⟨os,hos,hcs,hds⟩:=id hs;have hTs:s.TypeIs (.ref sl) "slice":=⟨os,hos,hcs⟩;unfold getItem
 try with_reducible refine As ?_
 first|refine Aa (Ab ?_)|skip
 refine Aa (Cw ht.typeIs (by decide) ?_)
 refine Aa (Ao (name:=Str.ofString "__getitem__") ht.typeIs Ap
  (An Ap ht.typeIs Cb ?_ (Ci _ _)))
 show wpAny _ _ (Builtin.Tuple.tupleItemsOf (.ref t) >>= _) _ _ s;refine Aa (tupleItemsOf_ ht ?_);refine Aa (AH hTs ?_);rw[Ae (by decide)]
 refine Aa (gW hs pl pu ?_);have hyes:(((sIx items.size 0 lo:Nat):Int) == 0&&(1:Int) == 1&&(sIx items.size items.size hi-sIx items.size 0 lo) == items.size)=true:=by
  rw[hw.1,hw.2];simp
 show wpAny _ _ (if (((sIx items.size 0 lo:Nat):Int) == 0&&(1:Int) == 1&&(sIx items.size items.size hi-sIx items.size 0 lo) == items.size)=true then _ else _) _ _ s;rw[Ae hyes];unfold Builtin.Tuple.tupleIsExact;refine Aa (Aa (AH ht.typeIs (Ab ?_)));rw[Ae (by decide)]
 exact Aa (AB (Ab ⟨_,rfl,Ab h⟩))
end
end HT
namespace VF
open PySem L2
section
variable {X:Cx} {K:PySem.W.Frag}
theorem EH (h:X.K=K):SlR X (Ld K):=by
 intro pins s σ H x v vl vu lo hi sl Q I rx hs pl pu hh;obtain⟨a,xs,rfl,hx,hw,q⟩:=hh;cases rx;subst h;obtain⟨its,r,ht,hz⟩:=I.tuple hx;have hlen:its.toArray.size=xs.length:=by rw[Zc];exact r.length.symm
 refine⟨"tuple",_,Ap.lookup,ht.typeIs,?_⟩;exact HT.getItem_tuple_all ht hs pl pu (by rw[hlen];exact hw) ⟨.ref a,H,I,rfl,q⟩
def Hx:D->Option Int->Option Int->Option Rz
 | .tup ds,lo,hi=>if HT.sIx ds.length 0 lo=0/\HT.sIx ds.length ds.length hi=ds.length then some (.tup ds,false) else none
 | _,_,_=>none
theorem Nz:RdSl K (Ld K) Hx:=by
 intro Y H x lo hi d1 z Q lv b1 e q;cases d1 with
 | tup a =>
  obtain⟨c,e⟩:=aL e;cases e;obtain⟨p,xs,rfl,hp,el⟩:=b1;exact⟨p,xs,rfl,hp.sq,by rw[el.1];exact c,q _ H (Same.refl H) (.tup hp el.1 el.2)⟩
 | _=>cases e
def fG:=IR IS Hx
def NA (K:PySem.W.Frag):V->Option Int->Option Int->Hp->VK->Prop:=fun x lo hi H Q=>KY K x lo hi H Q∨Ld K x lo hi H Q
theorem fH (h:X.K=K):SlR X (NA K):=SlR.or (vJ h) (EH h)
theorem dY:RdSl K (NA K) fG:=RdSl.or rN Nz
theorem rW (ds:List D) (lo hi:Option Int):fG (.tup ds) lo hi=some (.tup (cutD ds lo hi),false):=by
 have e1:G9 (.tup ds) lo hi=none:=rfl;have e3:Ha (.tup ds) lo hi=none:=rfl;by_cases c:HT.sIx ds.length 0 lo=0/\HT.sIx ds.length ds.length hi=ds.length
 ·have e2:rL (.tup ds) lo hi=none:=by simp only[rL,Ae c]
  have e4:Hx (.tup ds) lo hi=some (.tup ds,false):=by simp only[Hx,Ae c]
  have e5:cutD ds lo hi=ds:=by
   unfold cutD;rw[c.1,c.2];simp
  unfold fG IS IR;rw[e1,e2,e3,e4,e5]
 ·have e2:rL (.tup ds) lo hi=some (.tup (cutD ds lo hi),false):=by simp only[rL,Ai c]
  unfold fG IS IR;rw[e1,e2]
theorem rX {a b:List D} (h:a.length+b.length<=100000):cj (.tup a) (.tup b)=some (.tup (a++b),false):=by
 have e1:tX (.tup a) (.tup b)=none:=rfl;have e2:t4 (.tup a) (.tup b)=none:=rfl;have e3:Ec (.tup a) (.tup b)=none:=rfl;cases a with
 | nil =>
  have e4:qr (.tup []) (.tup b)=none:=rfl;unfold cj di jU;rw[e1,e2,e3,e4];rfl
 | cons x a =>
  have e4:qr (.tup (x::a)) (.tup b)=some (.tup (x::a++b),false):=by
   simp only[Vd]at h;cases b with
   | nil=>simp only[qr,Qe];rw[Ae (by lia)]
   | cons y b =>
    simp only[Vd]at h;simp only[qr];rw[Ae (by lia)]
  unfold cj di jU;rw[e1,e2,e3,e4]
theorem EI {ds:List D} (h:j<=ds.length):cutD ds none (some (j:Int))=ds.take j:=by
 unfold cutD;rw[HT.sIx_none,HT.sIx_nat,Qm h];simp
theorem oQ {ds:List D} (h:i<=ds.length):cutD ds (some (i:Int)) none=ds.drop i:=by
 unfold cutD;rw[HT.sIx_none,HT.sIx_nat,Qm h,BV];rw[Xk];lia
end
end VF
namespace VF
open PySem L2
section
variable {α:Type} {fg:FG} {B:FS} {fc:FT} {fe:FE} {k:Nat}
theorem dP (f:α->D) (all:List α) (I:List α->En->Prop) (step:∀(gone:List α) (x:α) (rest:List α) (st:En),all=gone++x::rest->I gone st->∃s1 s2,fg (f x) st=some s1/\B s1=some (.nx s2)/\I (gone++[x]) s2) :
  ∀(items gone:List α) (st:En),all=gone++items->I gone st->∃sf,iZ fg B (items.map f) st=some (.nx sf)/\I all sf
 | [],gone,st,ha,h=>⟨st,rfl,by rw[ha,Qe];exact h⟩
 | x::r,gone,st,ha,h=>by
  obtain⟨s1,s2,e1,e2,e3⟩:=step gone x r st ha h;obtain⟨sf,e4,e5⟩:=dP f all I step r (gone++[x]) s2 (by rw[Xe];exact ha) e3
  refine⟨sf,?_,e5⟩;simp only[Ve,iZ,e1,e2,Yb];exact e4
theorem kH (f g:α->D) (p:α->Bool) (sb:En):∀(xs:List α),(∀x∈xs,∃s1 s2,fg (f x) sb=some s1/\fc s1=some (p x,s2)/\(p x=false->rE k s2=sb)/\(p x=true->∃y s3 s4,fe s2=some (y,s3)/\esc y s3=some (g x,s4)/\rE k s4=sb)) ->
  cN fg fc fe k (xs.map f) sb=some ((xs.filter p).map g,sb)
 | [],_=>rfl
 | x::r,h=>by
  obtain⟨s1,s2,e1,e2,hf,ht⟩:=h x Qa;have ih:=kH f g p sb r fun y hy=>h y (Va _ hy);cases hp:p x with
  | false =>
   rw[hp]at e2;simp only[Ve,cN,e1,e2,Yb,Ye,if_false,hf hp,ih,List.filter_cons,hp]
  | true =>
   rw[hp]at e2;obtain⟨y,s3,s4,e3,e4,e5⟩:=ht hp;simp only[Ve,cN,e1,e2,Yb,if_true,e3,e4,e5,ih,List.filter_cons,hp]
theorem dH (f g:α->D) (sb:En) (xs:List α) (h:∀x∈xs,∃s1 s2 y s3 s4,fg (f x) sb=some s1/\fc s1=some (true,s2)/\fe s2=some (y,s3)/\esc y s3=some (g x,s4)/\rE k s4=sb) :
  cN fg fc fe k (xs.map f) sb=some (xs.map g,sb):=by
 have:=kH (fg:=fg) (fc:=fc) (fe:=fe) (k:=k) f g (fun _=>true) sb xs fun x hx=>by
  obtain⟨s1,s2,y,s3,s4,e1,e2,e3,e4,e5⟩:=h x hx;exact⟨s1,s2,e1,e2,fun z=>(Bool.noConfusion z),fun _=>⟨y,s3,s4,e3,e4,e5⟩⟩
 rw[this,List.filter_eq_self.mpr fun _ _=>rfl]
end
section
variable {st s1:En} {rs:List Rs} {fa:FA}
theorem Hy (h1:fa st=some (rs,s1)) (h2:cU s1 rs=some [.int i,.int j]) (h3:-(2 ^ 62)<=i/\i<2 ^ 62/\-(2 ^ 62)<=j/\j<2 ^ 62):G0 fa st=some (rng i (j-i).toNat,s1):=by
 simp only[G0,h1,h2,Yb,Ks];rw[Ae h3]
theorem NB {t:Sl} (h0:st[i]?=some t) (h00:t.ow=some x) (hk:ok x=true) (h5:mm x []=some (y,x')) (h6:st.set i (t.put x')=st3:=by rfl):Oy ok mm i st=some (.d y,st3):=by
 simp only[Oy,h0,h00,hk,h5,h6,Yb,if_true]
end
theorem Hz (a n:Nat):rng (a:Int) n=(List.range n).map fun t=>D.int ((a+t:Nat):Int):=by
 unfold rng;exact Xj fun t _=>by rw[Int.natCast_add]
end VF
namespace VF22
open PySem PySem.Spec PyProof.Rows L2 VF
def Pk (t:Bool):String:=if t then "tuple_iterator" else "list_iterator"
def Pm (t:Bool):String:=if t then "tuple" else "list"
def Io (t:Bool) (h:Heap) (a l:Addr) (i:Nat):Prop:=∃o,h.get? a=some o/\o.cls=.type (Pk t)/\o.data=.fields #[.ref l,.int i 0]
def So (t:Bool) (h:Heap) (l:Addr) (xs:Array Value):Prop:=∃o,h.get? l=some o/\o.cls=.type (Pm t)/\∃n,o.data=.seq xs n
variable {t t1 t2:Bool} {h h':Heap}
theorem Io.by(a:Io t h it l i) (k:∀o,h.get? it=some o->h'.get? it=some o):Io t h' it l i:=by
 obtain⟨o,e,r⟩:=a;exact⟨o,k o e,r⟩
theorem So.by(a:So t h l xs) (k:∀o,h.get? l=some o->h'.get? l=some o):So t h' l xs:=by
 obtain⟨o,e,r⟩:=a;exact⟨o,k o e,r⟩
section
variable {P:Program} {w:World} {A:Around} {E:Value->Shared->Prop} {s:Shared}
theorem NC (a:Io t s.heap it l i) (b:So t s.heap l xs) (hx:xs[i]?=some x)
  (q:∀h1,Io t h1 it l (i+1)->Heap.SameBut it s.heap h1->Q x { s with heap:=h1 }):wpAny (model P w) A (Builtin.SmallTypes.nextOf (.ref it)) Q E s:=by
 cases t with
 | false=>exact wpAny_nextOf_list_item (i:=i) (l:=l) (items:=xs) a b hx q
 | true =>
  obtain⟨u,hu,cu,du⟩:=id a;obtain⟨v,hv,cv,nv,dv⟩:=b;have ty:s.heap.IsTupleIter it l i:=⟨u,hu,cu,du⟩;unfold Builtin.SmallTypes.nextOf;refine Aa (Ao (name:=Str.ofString "__next__") ty.typeIs F.slot_tuple_iterator_next (An F.slot_tuple_iterator_next ty.typeIs F.entry_tuple_iterator_next ?_ (F.args_tuple_iterator_next_1 _)));show wpAny _ _ (field (.ref it) 0 >>= _) _ _ _;refine Aa (Aq hu du (x:=.ref l) rfl ?_);show wpAny _ _ (if (Value.ref l == Value.none)=true then _ else _) _ _ _;rw[Ai (show ¬ ((Value.ref l == .none)=true) from Ze)];show wpAny _ _ (field (.ref it) 1 >>= _) _ _ _;refine Aa (Aq hu du (x:=.int i 0) rfl ?_);show wpAny _ _ (seqItems? (.ref l) >>= _) _ _ _;refine Aa (C9 hv dv ?_);simp only[hx,Zn];refine Aa (AW hu du (by simp) (Ab ⟨x,rfl,Ab (q _ ?_ (AC ..))⟩))
  refine⟨_,AR _ hu (Bo (Ax du _)),(CD ..).trans cu,?_⟩;rw[Ax du];simp[rawInt]
theorem EJ (hh:A.handled=none) (a:Io t s.heap it l i) (b:So t s.heap l xs) (hx:xs[i]?=none)
  (q:∀h1 e,Heap.ExtBut it s.heap h1->(∃o,h1.get? e=some o/\o.cls=.type "StopIteration")->E (.ref e) { s with heap:=h1 }):wpAny (model P w) A (Builtin.SmallTypes.nextOf (.ref it)) Q E s:=by
 cases t with
 | false=>exact wpAny_nextOf_list_end (i:=i) (l:=l) (items:=xs) hh a b hx q
 | true =>
  obtain⟨u,hu,cu,du⟩:=id a;obtain⟨v,hv,cv,nv,dv⟩:=b;have ty:s.heap.IsTupleIter it l i:=⟨u,hu,cu,du⟩;unfold Builtin.SmallTypes.nextOf;refine Aa (Ao (name:=Str.ofString "__next__") ty.typeIs F.slot_tuple_iterator_next (An F.slot_tuple_iterator_next ty.typeIs F.entry_tuple_iterator_next ?_ (F.args_tuple_iterator_next_1 _)));show wpAny _ _ (field (.ref it) 0 >>= _) _ _ _;refine Aa (Aq hu du (x:=.ref l) rfl ?_);show wpAny _ _ (if (Value.ref l == Value.none)=true then _ else _) _ _ _;rw[Ai (show ¬ ((Value.ref l == .none)=true) from Ze)];show wpAny _ _ (field (.ref it) 1 >>= _) _ _ _;refine Aa (Aq hu du (x:=.int i 0) rfl ?_);show wpAny _ _ (seqItems? (.ref l) >>= _) _ _ _;refine Aa (C9 hv dv ?_);simp only[hx,Zn];refine Aa (AB (Aa (AW hu du (by simp) ?_)))
  show wpAny _ _ (newExc (.type "StopIteration") [] >>= _) _ _ _;refine Aa ?_;simp only[newExc,newTuple];refine Aa (Am ?_ (by size_fits))
  refine Aa (m:=firstArgMember _ _) (AX (a:=.none) (by first|rfl|(simp only[firstArgMember];rfl)) ?_)
  refine Am ?_ (by size_fits)
  simp only[raiseNew];refine Aa (wpAny_handled ?_)
  first|rw[show A.in1.handled=none from hh]|rw[hh]
  refine Aa (Ab (wpAny_throw ?_));exact q _ _ (((AC ..).extBut.push _).push _) ⟨_,Ah _ rfl,rfl⟩
end
end VF22
namespace VF22
open PySem PySem.Spec PyProof.Rows L2 VF
section
variable {t t1 t2:Bool} {P:Program} {w:World} {A:Around} {E:Value->Shared->Prop} {s:Shared}
def zI (t:Bool) (l:Addr):Obj:={ cls:=.type (Pk t),data:=.fields #[.ref l,.int 0 0] }
theorem nV (b:So t s.heap l xs) (q:Q (.ref s.heap.objs.size) { s with heap:=s.heap.push (zI t l) }):wpAny (model P w) A (pyIter (.ref l)) Q E s:=by
 cases t with
 | false=>exact BM (items:=xs) b q
 | true=>exact wpAny_pyIter_tuple (items:=xs) b q
abbrev zA (t1:Bool) (h:Heap) (l1:Addr):Heap:=h.push (zI t1 l1)
end
section
variable {X:Cx} {K:PySem.W.Frag} {t t1 t2:Bool} {pins:List (Addr×Obj)} {σ:L2.St} {H:Hp} {s:Shared} {h':Heap}
theorem wY {t':Nat} {ch:List Addr} (I:L2.Inv X pins σ H s) (f:∀b∈ch,iV X pins H b) (k:∀b o,b∉ch->s.heap.get? b=some o->h'.get? b=some o) (ht:0<t':=by first|assumption|exact Zh _|exact Inv.tk (by assumption)|exact Inv.tkl (by assumption) (by assumption)|lia):L2.Inv X pins σ H { s with heap:=h',toks:=t' }:=by
 have nit:∀b u,H b=some u->b∉ch:=fun b u e z=>by rw[(f b z).1]at e;cases e
 refine I.step (g':=s.gens) (d':=s.drawn) (ch:=ch) (fun b hb=>?_) (fun b o _ _ hc e _=>k b o hc e) (fun b o _ _ hc e _=>⟨o.slots,k b o hc e⟩) (fun _ _ _ _ n=>n)
  (fun b o hc e=>⟨o,k b o hc e⟩) (fun _ _ e=>e) (fun _ _ _ e=>e) (fun b ps e=>⟨#[],by rw[e];simp⟩) (fun m hm=>?_) (fun b u e=>?_) I.bare
 ·obtain⟨_,f1,_,f3,f4,f5⟩:=f b hb;exact⟨f3,f1,f4,f5⟩
 ·obtain⟨o,es,ep,ho,r⟩:=hm;exact⟨o,es,ep,k _ o (fun z=>(f _ z).2.1 rfl) ho,r⟩
 ·refine(I.hok b u e).stay (fun c v hc q=>k c v ?_ q) (fun _ q=>q) fun _ _ q=>q;rcases hc with z|z
  ·rw[z];exact nit b u e
  ·exact nit c _ z
def Sq (K:PySem.W.Frag) (t:Bool) (H:Hp) (a:Addr) (xs:List V):Prop:=if t then jP K H a xs else gj K H a xs
theorem Sq.so (I:L2.Inv X pins σ H s) (h:Sq X.K t H l xs):∃its:List Value,Vals xs its/\So t s.heap l its.toArray:=by
 cases t with
 | false =>
  obtain⟨its,rv,p,_⟩:=I.list h;exact⟨its,rv,p.isList⟩
 | true =>
  obtain⟨its,rv,p,_⟩:=I.tuple h;exact⟨its,rv,p⟩
theorem Sq.inj (I:L2.Inv X pins σ H s) (h:Sq X.K t H l xs) (h2:Sq X.K t H l ys):xs=ys:=by
 cases t with
 | false=>exact I.list_inj h h2
 | true=>exact I.tuple_inj h h2
end
end VF22
namespace TS
open PySem PyProof.Rows
theorem eZ {M:Model} {A:Around} {E:Value->Shared->Prop} {σ γ:Type} {X Y:StateT σ Sem γ} {p:Prop} {d:Decidable p} {Q:γ->σ->Prop} {st:σ} (h:p) (k:wpS M A E s X Q st):wpS M A E s (@ite _ p d X Y) Q st:=by rw[Ae h];exact k
theorem dZ {M:Model} {A:Around} {E:Value->Shared->Prop} {σ γ:Type} {X Y:StateT σ Sem γ} {p:Prop} {d:Decidable p} {Q:γ->σ->Prop} {st:σ} (h:¬ p) (k:wpS M A E s Y Q st):wpS M A E s (@ite _ p d X Y) Q st:=by rw[Ai h];exact k
theorem EK {α β:Type} (f:α->β) (x:Array α) (i j:Nat):(x.map f).swapIfInBounds i j=(x.swapIfInBounds i j).map f:=by grind
theorem mG {α β γ:Type} (f:α->β) (p q:γ->Nat):∀(l:List γ) (x:Array α),l.foldl (fun a k=>a.swapIfInBounds (p k) (q k)) (x.map f)=(l.foldl (fun a k=>a.swapIfInBounds (p k) (q k)) x).map f
 | [],x=>rfl
 | k::l,x=>by
  rw[C6,C6,EK];exact mG f p q l _
theorem vR (f:α->β) (x:Array α) (i d:Nat):bubble (x.map f) i d=(bubble x i d).map f:=mG f _ _ _ x
theorem iB (f:α->β) (x:Array α) (i j d:Nat):mirror (x.map f) i j d=(mirror x i j d).map f:=mG f _ _ _ x
structure Cm (prog:Program) (w:World) (A:Around) (s:Shared) (k:SortKind) (f:Nat->Keyed) (N:Nat) (c:Nat->Nat->Bool):Prop where
 lt:∀(E:Value->Shared->Prop) (Q:Bool->Shared->Prop) (g h:Nat),g<N->h<N->Q (c g h) s->wpAny (model prog w) A (keyLt' k (f g).1 (f h).1) Q E s
 irr:∀g,c g g=false
 tra:∀g h i,c g h=true->c h i=true->c g i=true
 neg:∀g h i,c g i=true->c g h=true∨c h i=true
def Bf (c:Nat->Nat->Bool) (g h:Nat):Prop:=c g h=true∨(c h g=false/\g<h)
structure Rp (k:SortKind) (f:Nat->Keyed) (N:Nat) (st:SortSt) (γ:Array Nat):Prop where
 arr:arrOf st=γ.map f
 kind:kindOf st=k
 fine:failedOf st=none
 perm:γ.Perm (Array.range N)
section
variable {prog:Program} {w:World} {A:Around} {E:Value->Shared->Prop} {s:Shared} {k:SortKind} {f:Nat->Keyed} {N:Nat} {c:Nat->Nat->Bool} {st:SortSt} {γ:Array Nat}
theorem Cm.asy (C:Cm prog w A s k f N c) (e:c g h=true):c h g=false:=by
 cases e':c h g with
 | false=>rfl
 | true=>exact absurd (C.tra g h g e e') (by rw[C.irr];exact Bool.noConfusion)
theorem Cm.le (C:Cm prog w A s k f N c) (e:Bf c g h):c h g=false:=by
 rcases e with e|e
 ·exact C.asy e
 ·exact e.1
theorem Cm.letr (C:Cm prog w A s k f N c) (e:c h g=false) (e':c i h=false):c i g=false:=by
 cases e2:c i g with
 | false=>rfl
 | true =>
  rcases C.neg i h g e2 with q|q
  ·rw[q]at e';exact e'
  ·rw[q]at e;exact e
theorem Cm.trans (C:Cm prog w A s k f N c) (e:Bf c g h) (e':Bf c h i):Bf c g i:=by
 have l:=C.letr (C.le e) (C.le e');cases e2:c g i with
 | true=>exact .inl e2
 | false =>
  refine .inr ⟨l,?_⟩;rcases e with e|e
  ·rcases C.neg g i h e with q|q
   ·rw[q]at e2;cases e2
   ·rw[C.le e']at q;cases q
  ·rcases e' with e'|e'
   ·rcases C.neg h g i e' with q|q
    ·rw[e.1]at q;cases q
    ·rw[q]at e2;cases e2
   ·exact BT e.2 e'.2
theorem Rp.size (R:Rp k f N st γ):γ.size=N:=by rw[R.perm.size_eq,Vk]
theorem Rp.bnd (R:Rp k f N st γ) {i g:Nat} (e:γ[i]?=some g):g<N:=by
 have hm:g∈γ:=Array.mem_of_getElem? e;exact Array.mem_range.mp (R.perm.mem_iff.mp hm)
theorem Rp.at (R:Rp k f N st γ) {i g:Nat} (e:γ[i]?=some g):(arrOf st)[i]?=some (f g):=by rw[R.arr,Be,e];rfl
theorem Rp.put (R:Rp k f N st γ) {γ':Array Nat} (p:γ'.Perm γ) (e:x=γ'.map f):Rp k f N (setArr st x) γ':=⟨e,R.kind,R.fine,p.trans R.perm⟩
theorem uu (C:Cm prog w A s k f N c) (hk:kindOf st=k) (bg:g<N) (bh:h<N) (q:Q (some (c g h)) st):wpS (model prog w) A E s (lt' (f g) (f h)) Q st:=by
 rw[lt'_eq];refine Ak (Bz ?_);subst hk;exact Ak (B4 (AM (C.lt _ _ g h bg bh ⟨rfl,Ag q⟩)))
theorem jF (C:Cm prog w A s k f N c) (R:Rp k f N st γ) {i j g h:Nat} (ei:γ[i]?=some g) (ej:γ[j]?=some h) {Q:Option Bool->SortSt->Prop} (q:Q (some (c g h)) st):wpS (model prog w) A E s (ltAt' i j) Q st:=by
 rw[ltAt'_eq];refine Ak (Bz ?_);dsimp only;rw[elem'_eq,elem'_eq,R.at ei,R.at ej];exact Ak (Ag (Ak (Ag (uu C R.kind (R.bnd ei) (R.bnd ej) q))))
end
end TS
namespace TS
open PySem PyProof.Rows
def Sg (c:Nat->Nat->Bool) (γ:Array Nat) (lo hi:Nat):Prop:=∀i j g h,lo<=i->i<j->j<hi->γ[i]?=some g->γ[j]?=some h->Bf c g h
def Ow (γ:Array Nat) (lo hi:Nat):Prop:=∀i g,lo<=i->i<hi->γ[i]?=some g->lo<=g/\g<hi
def Raw (γ:Array Nat) (lo hi:Nat):Prop:=∀i,lo<=i->i<hi->γ[i]?=some i
def Out (γ γ':Array Nat) (lo hi:Nat):Prop:=∀i,i<lo∨hi<=i->γ'[i]?=γ[i]?
theorem Out.refl (γ:Array Nat) (lo hi:Nat):Out γ γ lo hi:=fun _ _=>rfl
section
variable {prog:Program} {w:World} {A:Around} {E:Value->Shared->Prop} {s:Shared} {k:SortKind} {f:Nat->Keyed} {N:Nat} {c:Nat->Nat->Bool} {st:SortSt} {γ:Array Nat}
theorem jg {γ:Array Nat} (h:i<γ.size):∃g,γ[i]?=some g:=⟨_,A8 h⟩
theorem mid (h:l<u):l<=(l+u) / 2/\(l+u) / 2<u:=by lia
theorem ND (h:u-l<=m-y) (h1:t<u) (h2:l<=t):t-l<=m-(y+1):=by lia
theorem NE (h:u-l<=m-y) (h1:l<=t) (h2:t<u):u-(t+1)<=m-(y+1):=by lia
inductive Bub (γ:Array Nat) (a b i g:Nat):Prop
 | at_ (h:i=a) (e:γ[b]?=some g)
 | mid (j:Nat) (h:i=j+1) (k:a<=j) (l:j<b) (e:γ[j]?=some g)
 | lo (h:i<a) (e:γ[i]?=some g)
 | hi (h:b<i)
theorem oR (e:(if i=a then γ[b]? else if a<i/\i<=b then γ[i-1]? else γ[i]?)=some g):Bub γ a b i g:=by
 by_cases h:i=a
 ·rw[Ae h]at e;exact .at_ h e
 ·rw[Ai h]at e;by_cases h2:a<i/\i<=b
  ·rw[Ae h2]at e;obtain⟨j,rfl⟩:=We (Wl (AI (Yg _) h2.1));exact .mid j rfl (Nat.le_of_lt_succ h2.1) h2.2 e
  ·rw[Ai h2]at e;by_cases h3:i<a
   ·exact .lo h3 e
   ·exact .hi (A7 fun z=>h2 ⟨BF (BR h3) (AA h),z⟩)
theorem EL (hab:a<=b) (h:b<i):(if i=a then γ[b]? else if a<i/\i<=b then γ[i-1]? else γ[i]?)=γ[i]?:=by
 rw[Ai (Wl (AI hab h)),Ai fun z=>CS h z.2]
theorem Le (h:i<a):(if i=a then γ[b]? else if a<i/\i<=b then γ[i-1]? else γ[i]?)=γ[i]?:=by
 rw[Ai (Vf h),Ai fun z=>Nat.lt_asymm h z.1]
theorem HA (C:Cm prog w A s k f N c) (R:Rp k f N st γ) {lo n ok:Nat} (hn:lo+n<=N) (h1:1<=ok) (hok:ok<=n) (sg:Sg c γ lo (lo+ok)) (ow:Ow γ lo (lo+ok)) (raw:Raw γ (lo+ok) N)
  {Q:Bool->SortSt->Prop} (q:∀(x:Array Keyed) (γ':Array Nat),Rp k f N (setArr st x) γ'->Sg c γ' lo (lo+n)->Ow γ' lo (lo+n)->Raw γ' (lo+n) N->Out γ γ' lo (lo+n)->Q true (setArr st x)) :
  wpS (model prog w) A E s (binarySort' lo n ok) Q st:=by
 rw[binarySort'_eq]
 refine Ak (Ar (At (I:=fun m r st'=>r=(none,())/\∃x γ',st'=setArr st x/\Rp k f N st' γ'/\Sg c γ' lo (lo+m)/\Ow γ' lo (lo+m)/\Raw γ' (lo+m) N/\Out γ γ' lo (lo+m))
  (Q:=fun r st'=>r=(none,())/\∃x γ',st'=setArr st x/\Rp k f N st' γ'/\Sg c γ' lo (lo+n)/\Ow γ' lo (lo+n)/\Raw γ' (lo+n) N/\Out γ γ' lo (lo+n)) ?step ?fin ?init) ?post)
 case post =>
  rintro r st' ⟨rfl,x,γ',rfl,R',a1,a2,a3,a4⟩;exact Ag (q x γ' R' a1 a2 a3 a4)
 case init =>
  rw[show max ok 1=ok by lia]
  exact⟨rfl,arrOf st,γ,rfl,R,sg,ow,raw,Out.refl _ _ _⟩
 case fin =>
  rintro r st' h;rw[show max (max ok 1) n=n by lia]at h
  exact h
 case step =>
  rintro m r st' hm hmn ⟨rfl,x,γ',rfl,R',a1,a2,a3,a4⟩;have em:γ'[lo+m]?=some (lo+m):=a3 (lo+m) (Xa _) (by lia)
  refine Ak (Ar (At (I:=fun y r st''=>st''=setArr st x/\∃l u,r=(none,l,u)/\l<=u/\u<=m/\u-l<=m-y /\
    (∀i g,lo<=i->i<lo+l->γ'[i]?=some g->c (lo+m) g=false)/\(∀i g,lo+u<=i->i<lo+m->γ'[i]?=some g->c (lo+m) g=true))
   (Q:=fun r st''=>st''=setArr st x/\∃l u,r=(none,l,u)/\l<=m /\
    (∀i g,lo<=i->i<lo+l->γ'[i]?=some g->c (lo+m) g=false)/\(∀i g,lo+l<=i->i<lo+m->γ'[i]?=some g->c (lo+m) g=true)) ?istep ?ifin ?iinit) ?ipost)
  case iinit=>exact⟨rfl,0,m,rfl,by lia,by lia,by lia,fun i g p1 p2=>by lia,fun i g p1 p2=>by lia⟩
  case ifin =>
   rintro r st'' ⟨rfl,l,u,rfl,b1,b2,b3,b4,b5⟩;obtain rfl:l=u:=by lia
   exact⟨rfl,l,l,rfl,b2,b4,b5⟩
  case istep =>
   rintro y r st'' _ hy ⟨rfl,l,u,rfl,b1,b2,b3,b4,b5⟩;dsimp only;by_cases hge:l ≥ u
   ·refine eZ hge ?_;obtain rfl:l=u:=by lia
    exact Ag ⟨rfl,l,l,rfl,b2,b4,b5⟩
   ·refine dZ hge ?_;have hq:l<=(l+u) / 2/\(l+u) / 2<u:=mid (A7 hge);generalize (l+u) / 2=t at hq;obtain⟨q1,q2⟩:=hq;have q3:t-l<=m-(y+1):=ND b3 q2 q1;have q4:u-(t+1)<=m-(y+1):=NE b3 q1 q2;obtain⟨g,eg⟩:=jg (γ:=γ') (i:=lo+t) (by rw[R'.size];lia)
    refine Ak (jF C R' em eg ?_);cases hc:c (lo+m) g with
    | true =>
     refine Ag ⟨rfl,l,t,rfl,q1,by lia,q3,b4,fun i g' p1 p2 e=>?_⟩
     by_cases hi:i=lo+t
     ·subst hi;rw[eg]at e;cases e;exact hc
     ·have bf:=a1 _ i g g' (by lia) (by lia) p2 eg e
      rcases C.neg _ g' _ hc with z|z
      ·exact z
      ·rw[C.le bf]at z;cases z
    | false =>
     refine Ag ⟨rfl,t+1,u,rfl,q2,b2,q4,fun i g' p1 p2 e=>?_,b5⟩;by_cases hi:i=lo+t
     ·subst hi;rw[eg]at e;cases e;exact hc
     ·have bf:=a1 i _ g' g p1 (by lia) (by lia) e eg
      exact C.letr (C.le bf) hc
  case ipost =>
   rintro r st'' ⟨rfl,l,u,rfl,b2,b4,b5⟩;show wpS _ _ _ _ (do moveDown' (lo+m) (lo+l);pure (ForInStep.yield (none,()))) _ _
   rw[moveDown'_eq];have hs:lo+m<γ'.size:=by rw[R'.size];lia
   have gb:=getElem?_bubble hs (lo+m-(lo+l)) (Nat.sub_le _ _);rw[Nat.sub_sub_self (Wj b2 lo)]at gb;refine Ak (Bp (Ag ⟨rfl,bubble x (lo+m) (lo+m-(lo+l)),bubble γ' (lo+m) (lo+m-(lo+l)),rfl,R'.put (bubble_perm _ _ _) ?_,?_,?_,?_,?_⟩))
   ·rw[R'.arr,vR]
   ·intro i j g h p1 p2 p3 e1 e2;rw[gb]at e1 e2;cases oR e1 with
    | at_ y e1 =>
     rw[em]at e1;cases e1;cases oR e2 with
     | at_ z e2=>lia
     | mid j' z z1 z2 e2=>exact .inl (b5 _ h z1 z2 e2)
     | lo z e2=>lia
     | hi z=>lia
    | mid i' y y1 y2 e1 =>
     cases oR e2 with
     | at_ z e2=>lia
     | mid j' z z1 z2 e2=>exact a1 _ _ g h (Qd (Qi _ _) y1) (by lia) z2 e1 e2
     | lo z e2=>lia
     | hi z=>lia
    | lo y e1 =>
     have ym:i<lo+m:=Xc y (Wj b2 lo);cases oR e2 with
     | at_ z e2 =>
      rw[em]at e2;cases e2;exact .inr ⟨b4 i g p1 y e1,(a2 i g p1 ym e1).2⟩
     | mid j' z z1 z2 e2=>exact a1 i _ g h p1 (Xc y z1) z2 e1 e2
     | lo z e2=>exact a1 i j g h p1 p2 (Xc z (Wj b2 lo)) e1 e2
     | hi z=>lia
    | hi y=>lia
   ·intro i g p1 p2 e;rw[gb]at e;cases oR e with
    | at_ z e=>rw[em]at e;cases e;exact⟨Qi _ _,Ql _⟩
    | mid j z z1 z2 e=>exact⟨(a2 _ g (Qd (Qi _ _) z1) z2 e).1,Bj (a2 _ g (Qd (Qi _ _) z1) z2 e).2⟩
    | lo z e =>
     have ym:i<lo+m:=Xc z (Wj b2 lo);exact⟨(a2 i g p1 ym e).1,Bj (a2 i g p1 ym e).2⟩
    | hi z=>lia
   ·intro i p1 p2;rw[gb,EL (Wj b2 lo) p1];exact a3 i (Xl p1) p2
   ·intro i p;rw[gb];rcases p with p|p
    ·rw[Le (Xc p (Qi _ _))];exact a4 i (.inl p)
    ·rw[EL (Wj b2 lo) p];exact a4 i (.inr (Xl p))
end
end TS
namespace TS
open PySem PyProof.Rows
section
variable {prog:Program} {w:World} {A:Around} {E:Value->Shared->Prop} {s:Shared} {k:SortKind} {f:Nat->Keyed} {N:Nat} {c:Nat->Nat->Bool} {st:SortSt} {γ:Array Nat}
theorem Sg.more (C:Cm prog w A s k f N c) {lo n g h:Nat} (sg:Sg c γ lo n) (h1:lo<n) (e:γ[n-1]?=some g) (e':γ[n]?=some h) (b:Bf c g h):Sg c γ lo (n+1):=by
 intro i j g' h' p1 p2 p3 e1 e2;by_cases hj:j<n
 ·exact sg i j g' h' p1 p2 hj e1 e2
 ·obtain rfl:j=n:=by lia
  rw[e']at e2;cases e2;by_cases hi:i=j-1
  ·subst hi;rw[e]at e1;cases e1;exact b
  ·exact C.trans (sg i (j-1) g' g p1 (by lia) (by lia) e1 e) b
theorem uv (C:Cm prog w A s k f N c) {lo x h:Nat} (sg:Sg c γ lo (lo+x)) (ow:Ow γ lo (lo+x)) (raw:Raw γ (lo+x) N) (h1:1<=x) (hx:lo+x<N) (e:γ[lo+x-1]?=some h) (hc:c (lo+x) h=false) :
  Sg c γ lo (lo+(x+1))/\Ow γ lo (lo+(x+1))/\Raw γ (lo+(x+1)) N:=by
 have en:=raw (lo+x) (Xa _) hx;refine⟨sg.more C (by lia) e en (.inr ⟨hc,(ow _ h (by lia) (by lia) e).2⟩),fun i g p1 p2 e1=>?_,fun i p1 p2=>raw i (by lia) p2⟩
 by_cases hi:i<lo+x
 ·have:=ow i g p1 hi e1;lia
 ·obtain rfl:i=lo+x:=by lia
  rw[en]at e1;cases e1;lia
structure Fl (c:Nat->Nat->Bool) (γ:Array Nat) (lo m n:Nat):Prop where
 le:lo<=m
 lt:m<n
 fall:∀i j g h,lo<=i->i<j->j<m->γ[i]?=some g->γ[j]?=some h->Bf c h g
 cross:∀i j g h,lo<=i->i<m->m<=j->j<n->γ[i]?=some g->γ[j]?=some h->c h g=true
 same:∀i j g h,m<=i->i<n->m<=j->j<n->γ[i]?=some g->γ[j]?=some h->c g h=false
 raw:Raw γ m n
 own:Ow γ lo n
def Fa (c:Nat->Nat->Bool) (γ:Array Nat) (lo n:Nat):Prop:=∀i j g h,lo<=i->i<j->j<n->γ[i]?=some g->γ[j]?=some h->Bf c h g
theorem kI (hn:n<=γ.size) (h1:a<=i) (h2:i<n):∃i',a<=i'/\i'<n/\i+i'+1=a+n/\(mirror γ a n ((n-a) / 2))[i]?=γ[i']? :=
 ⟨a+n-1-i,by lia,by lia,by lia,by rw[getElem?_mirror_all hn,Ae ⟨h1,h2⟩]⟩
theorem iC (hn:n<=γ.size) (h:i<a∨n<=i):(mirror γ a n ((n-a) / 2))[i]?=γ[i]?:=by
 rw[getElem?_mirror_all hn,Ai fun z=>h.elim (fun q=>CS q z.1) fun q=>CS z.2 q]
theorem y7 {lo n:Nat} (fa:Fa c γ lo n) (hn:n<=γ.size):Sg c (mirror γ lo n ((n-lo) / 2)) lo n:=by
 intro i j g h p1 p2 p3 e1 e2;obtain⟨i',a1,a2,a3,a4⟩:=kI (γ:=γ) hn p1 (BT p2 p3);obtain⟨j',b1,b2,b3,b4⟩:=kI (γ:=γ) hn (Qd p1 (Xl p2)) p3;exact fa j' i' h g b1 (by lia) a2 (b4 ▸ e2) (a4 ▸ e1)
theorem jG {lo a n:Nat} (ow:Ow γ lo n) (ha:lo<=a) (hn:n<=γ.size):Ow (mirror γ a n ((n-a) / 2)) lo n:=by
 intro i g p1 p2 e;by_cases hi:a<=i
 ·obtain⟨i',a1,a2,a3,a4⟩:=kI (γ:=γ) hn hi p2;exact ow i' g (Qd ha a1) a2 (a4 ▸ e)
 ·rw[iC hn (.inl (A7 hi))]at e;exact ow i g p1 p2 e
theorem fZ (raw:Raw γ n m) (hn:n<=γ.size):Raw (mirror γ a n ((n-a) / 2)) n m:=by
 intro i p1 p2;rw[iC hn (.inr p1)];exact raw i p1 p2
theorem iD {lo a n:Nat} {γ':Array Nat} (o:Out γ γ' lo n) (ha:lo<=a) (hn:n<=γ'.size):Out γ (mirror γ' a n ((n-a) / 2)) lo n:=by
 intro i p;rw[iC hn (p.imp (fun q=>Xc q ha) id)];exact o i p
theorem Out.wide {lo n n':Nat} {γ':Array Nat} (o:Out γ γ' lo n) (h:n<=n'):Out γ γ' lo n':=fun i p=>o i (by lia)
theorem Fl.turn {lo m n:Nat} (F:Fl c γ lo m n) (hn:n<=γ.size):Fa c (mirror γ m n ((n-m) / 2)) lo n:=by
 intro i j g h p1 p2 p3 e1 e2;by_cases hj:j<m
 ·rw[iC hn (.inl (BT p2 hj))]at e1;rw[iC hn (.inl hj)]at e2;exact F.fall i j g h p1 p2 hj e1 e2
 obtain⟨j',b1,b2,b3,b4⟩:=kI (γ:=γ) hn (BR hj) p3;rw[b4]at e2;by_cases hi:i<m
 ·rw[iC hn (.inl hi)]at e1;exact .inl (F.cross i j' g h p1 hi b1 b2 e1 e2)
 ·obtain⟨i',a1,a2,a3,a4⟩:=kI (γ:=γ) hn (BR hi) (BT p2 p3);rw[a4]at e1;refine .inr ⟨F.same i' j' g h a1 a2 b1 b2 e1 e2,?_⟩;rw[F.raw i' a1 a2]at e1;rw[F.raw j' b1 b2]at e2;cases e1;cases e2;lia
theorem Fl.fa1 {lo m:Nat} (F:Fl c γ lo m (m+1)):Fa c γ lo (m+1):=by
 intro i j g h p1 p2 p3 e1 e2;by_cases hj:j<m
 ·exact F.fall i j g h p1 p2 hj e1 e2
 ·exact .inl (F.cross i j g h p1 (by lia) (by lia) p3 e1 e2)
theorem Fa.next (C:Cm prog w A s k f N c) {lo n g:Nat} (fa:Fa c γ lo n) (ow:Ow γ lo n) (raw:Raw γ n N) (hl:lo<n) (hn:n<N) (z:∀i g,lo<=i->i<n->γ[i]?=some g->c n g=true):Fl c γ lo n (n+1):=by
 have en:=raw n (Xa _) hn;refine⟨by lia,by lia,fa,fun i j g h p1 p2 p3 p4 e1 e2=>?_,fun i j g h p1 p2 p3 p4 e1 e2=>?_,fun i p1 p2=>raw i p1 (by lia),fun i g p1 p2 e=>?_⟩
 ·obtain rfl:j=n:=by lia
  rw[en]at e2;cases e2;exact z i g p1 p2 e1
 ·obtain rfl:i=n:=by lia
  obtain rfl:j=i:=by lia
  rw[en]at e1 e2;cases e1;cases e2;exact C.irr _
 ·by_cases hi:i<n
  ·have:=ow i g p1 hi e;lia
  ·obtain rfl:i=n:=by lia
   rw[en]at e;cases e;lia
theorem Fl.more (C:Cm prog w A s k f N c) {lo m n:Nat} (F:Fl c γ lo m n) (raw:Raw γ n N) (hn:n<N) (z1:c n (n-1)=false) (z2:c (n-1) n=false):Fl c γ lo m (n+1):=by
 have en:=raw n (Xa _) hn;have ep:=F.raw (n-1) (by have:=F.lt;lia) (by have:=F.lt;lia)
 have hlt:=F.lt;have hle:=F.le;refine⟨hle,by lia,F.fall,fun i j g h p1 p2 p3 p4 e1 e2=>?_,fun i j g h p1 p2 p3 p4 e1 e2=>?_,fun i p1 p2=>?_,fun i g p1 p2 e=>?_⟩
 ·by_cases hj:j<n
  ·exact F.cross i j g h p1 p2 p3 hj e1 e2
  ·obtain rfl:j=n:=by lia
   rw[en]at e2;cases e2;rcases C.neg _ j _ (F.cross i (j-1) g (j-1) p1 p2 (by lia) (by lia) e1 ep) with q|q
   ·rw[z2]at q;cases q
   ·exact q
 ·have key:∀a g,m<=a->a<n+1->γ[a]?=some g->c g (n-1)=false/\c (n-1) g=false:=by
   intro a g q1 q2 e;by_cases ha:a<n
   ·exact⟨F.same a (n-1) g (n-1) q1 ha (by lia) (by lia) e ep,F.same (n-1) a (n-1) g (by lia) (by lia) q1 ha ep e⟩
   ·obtain rfl:a=n:=by lia
    rw[en]at e;cases e;exact⟨z1,z2⟩
  exact C.letr (key j h p3 p4 e2).2 (key i g p1 p2 e1).1
 ·by_cases hi:i<n
  ·exact F.raw i p1 hi
  ·exact raw i (by lia) (by lia)
 ·by_cases hi:i<n
  ·have:=F.own i g p1 hi e;lia
  ·obtain rfl:i=n:=by lia
   rw[en]at e;cases e;lia
theorem Fl.below (C:Cm prog w A s k f N c) {lo m n x:Nat} (F:Fl c γ lo m n) (z:c x (n-1)=true):∀i g,lo<=i->i<n->γ[i]?=some g->c x g=true:=by
 have hlt:=F.lt;have ep:=F.raw (n-1) (by lia) (by lia)
 intro i g p1 p2 e;rcases C.neg x g _ z with q|q
 ·exact q
 ·by_cases hi:i<m
  ·exact absurd (F.cross i (n-1) g (n-1) p1 hi (by lia) (by lia) e ep) (by rw[C.asy q];exact Bool.noConfusion)
  ·rw[F.same i (n - 1) g (n - 1) (by lia) p2 (by lia) (by lia) e ep]at q;cases q
def Rn (k:SortKind) (f:Nat->Keyed) (N:Nat) (c:Nat->Nat->Bool) (lo:Nat) (st:SortSt) (γ:Array Nat) (n:Nat) (st':SortSt):Prop :=
 ∃x γ',st'=setArr st x/\Rp k f N st' γ'/\Sg c γ' lo (lo+n)/\Ow γ' lo (lo+n)/\Raw γ' (lo+n) N/\Out γ γ' lo (lo+n)
def uw (lo n nrem:Nat):StateT SortSt Sem (Option Nat):=do
 reverseSlice' lo (lo+n)
 let r ← forIn [n:nrem] ((none,n):Option (Option Nat)×Nat) fun _ r=>do
  match ← ltAt' (lo+r.2) (lo+r.2-1) with
  | some smaller=>if smaller=true then pure (ForInStep.done (none,r.2)) else pure (ForInStep.yield (none,r.2+1))
  | _=>pure (ForInStep.done (some none,r.2))
 match r.1 with
 | some z=>pure z
 | none=>pure (some r.2)
def oT (lo x nrem:Nat):StateT SortSt Sem (Option Nat):=do
 liftM (rule "list.sort.descending-run")
 let r ← forIn [x+1:nrem] ((none,x+1,0):Option (Option Nat)×Nat×Nat) fun _ r=>do
  match ← ltAt' (lo+r.2.1) (lo+r.2.1-1) with
  | some smaller =>
   if smaller=true then
    if r.2.2 > 0 then do
     reverseSlice' (lo+r.2.1-(r.2.2+1)) (lo+r.2.1)
     pure (ForInStep.yield (none,r.2.1+1,0))
    else pure (ForInStep.yield (none,r.2.1+1,0))
   else do
    match ← ltAt' (lo+r.2.1-1) (lo+r.2.1) with
    | some larger=>if larger=true then pure (ForInStep.done (none,r.2.1,r.2.2)) else pure (ForInStep.yield (none,r.2.1+1,r.2.2+1))
    | _=>pure (ForInStep.done (some none,r.2.1,r.2.2))
  | _=>pure (ForInStep.done (some none,r.2.1,r.2.2))
 match r.1 with
 | some z=>pure z
 | none =>
  if r.2.2 > 0 then do
   reverseSlice' (lo+r.2.1-(r.2.2+1)) (lo+r.2.1)
   uw lo r.2.1 nrem
  else uw lo r.2.1 nrem
theorem rY (h:Q () (setArr st (mirror (arrOf st) i j ((j-i) / 2)))):wpS (model prog w) A E s (reverseSlice' i j) Q st:=by
 rw[reverseSlice'_eq];exact Bp h
theorem wZ (C:Cm prog w A s k f N c) {st₀:SortSt} {γ₀:Array Nat} {lo n:Nat} {y:Array Keyed} (R:Rp k f N (setArr st₀ y) γ) (h1:1<=n) (hn:lo+n<=N) (fa:Fa c γ lo (lo+n)) (ow:Ow γ lo (lo+n)) (raw:Raw γ (lo+n) N) (out:Out γ₀ γ lo (lo+n))
  {Q:Option Nat->SortSt->Prop} (q:∀n st',1<=n->lo+n<=N->Rn k f N c lo st₀ γ₀ n st'->Q (some n) st'):wpS (model prog w) A E s (uw lo n (N-lo)) Q (setArr st₀ y):=by
 have hs:lo+n<=γ.size:=by rw[R.size];exact hn
 refine Ak (rY ?_);have R1:Rp k f N (setArr st₀ (mirror y lo (lo+n) ((lo+n-lo) / 2))) (mirror γ lo (lo+n) ((lo+n-lo) / 2)):=R.put (mirror_perm _ _ _ _) (by rw[show y=γ.map f from R.arr,iB])
 have sg:=y7 fa hs;have ow':=jG ow (Xa lo) hs;have raw':=fZ (a:=lo) raw hs;have out':=iD out (Xa lo) hs;generalize mirror γ lo (lo+n) ((lo+n-lo) / 2)=δ at R1 sg ow' raw' out';generalize mirror y lo (lo+n) ((lo+n-lo) / 2)=y' at R1
 refine Ak (Ar (At (I:=fun x r st'=>st'=setArr st₀ y'/\r=(none,x)/\n<=x/\lo+x<=N/\Sg c δ lo (lo+x)/\Ow δ lo (lo+x)/\Raw δ (lo+x) N)
  (Q:=fun r st'=>st'=setArr st₀ y'/\∃x,r=(none,x)/\n<=x/\lo+x<=N/\Sg c δ lo (lo+x)/\Ow δ lo (lo+x)/\Raw δ (lo+x) N) ?step ?fin ?init) ?post)
 case init=>exact⟨rfl,rfl,Xa _,hn,sg,ow',raw'⟩
 case fin =>
  rintro r st' ⟨rfl,rfl,b1,b2,b3,b4,b5⟩;exact⟨rfl,_,rfl,b1,b2,b3,b4,b5⟩
 case step =>
  rintro x r st' p1 p2 ⟨rfl,rfl,b1,b2,b3,b4,b5⟩;dsimp only;have en:=b5 (lo+x) (by lia) (by lia)
  obtain⟨g,ep⟩:=jg (γ:=δ) (i:=lo+x-1) (by rw[R1.size];lia)
  refine Ak (jF C R1 en ep ?_);cases hc:c (lo+x) g with
  | true=>exact Ag ⟨rfl,x,rfl,b1,b2,b3,b4,b5⟩
  | false =>
   obtain⟨a1,a2,a3⟩:=uv C b3 b4 b5 (by lia) (by lia) ep hc
   exact Ag ⟨rfl,rfl,by lia,by lia,a1,a2,a3⟩
 case post =>
  rintro r st' ⟨rfl,x,rfl,b1,b2,b3,b4,b5⟩;exact Ag (q x _ (by lia) b2 ⟨y',δ,rfl,R1,b3,b4,b5,out'.wide (by lia)⟩)
theorem w4 (C:Cm prog w A s k f N c) {st₀:SortSt} {γ₀:Array Nat} {lo x:Nat} {y:Array Keyed} (R:Rp k f N (setArr st₀ y) γ) (hx:lo+x<N) (F:Fl c γ lo (lo+x) (lo+x+1)) (raw:Raw γ (lo+x+1) N) (out:Out γ₀ γ lo (lo+x+1))
  {Q:Option Nat->SortSt->Prop} (q:∀n st',1<=n->lo+n<=N->Rn k f N c lo st₀ γ₀ n st'->Q (some n) st'):wpS (model prog w) A E s (oT lo x (N-lo)) Q (setArr st₀ y):=by
 refine Ak (B4 (AB ⟨rfl,?_⟩))
 refine Ak (Ar (At (I:=fun n r st'=>∃e y' δ,r=(none,n,e)/\st'=setArr st₀ y'/\Rp k f N (setArr st₀ y') δ/\e+1<=n/\lo+n<=N/\Fl c δ lo (lo+n-(e+1)) (lo+n)/\Raw δ (lo+n) N/\Out γ₀ δ lo (lo+n))
  (Q:=fun r st'=>∃n e y' δ,r=(none,n,e)/\st'=setArr st₀ y'/\Rp k f N (setArr st₀ y') δ/\e+1<=n/\lo+n<=N/\Fl c δ lo (lo+n-(e+1)) (lo+n)/\Raw δ (lo+n) N/\Out γ₀ δ lo (lo+n)) ?step ?fin ?init) ?post)
 case init=>exact⟨0,y,γ,rfl,rfl,R,by lia,by lia,F,raw,out⟩
 case fin =>
  rintro r st' ⟨e,y',δ,h⟩;exact⟨_,e,y',δ,h⟩
 case step =>
  rintro n r st' p1 p2 ⟨e,y',δ,rfl,rfl,R1,b1,b2,F1,raw1,out1⟩;dsimp only;have en:=raw1 (lo+n) (Xa _) (by lia)
  have s1:1<=lo+n:=by lia
  have ep:=F1.raw (lo+n-1) (Nat.sub_le_sub_left (Nat.succ_le_succ (Yg e)) _) (Nat.sub_lt s1 Nat.one_pos);have hs:lo+n<=δ.size:=by rw[R1.size];exact b2
  refine Ak (jF C R1 en ep ?_);cases hc:c (lo+n) (lo+n-1) with
  | true =>
   dsimp only;refine eZ rfl ?_;have bl:=F1.below C hc;by_cases he:e > 0
   ·refine eZ he ?_;refine Ak (rY (Ag ?_));have fa:=F1.turn hs;have ow':=jG F1.own F1.le hs;have raw':=fZ (a:=lo+n-(e+1)) raw1 hs;have out':=iD out1 F1.le hs;refine⟨0,_,mirror δ (lo+n-(e+1)) (lo+n) ((lo+n-(lo+n-(e+1))) / 2),rfl,rfl,R1.put (mirror_perm _ _ _ _) (by rw[show arrOf (setArr st₀ y')=δ.map f from R1.arr,iB]),by lia,by lia,?_,fun i q1 q2=>raw' i (by lia) q2,out'.wide (by lia)⟩
    refine fa.next C (g:=0) ow' raw' (by lia) (by lia) fun i g q1 q2 e1=>?_
    by_cases hi:lo+n-(e+1)<=i
    ·obtain⟨i',a1,a2,_,a4⟩:=kI (γ:=δ) hs hi q2;exact bl i' g (Qd F1.le a1) a2 (a4 ▸ e1)
    ·rw[iC hs (.inl (A7 hi))]at e1;exact bl i g q1 q2 e1
   ·obtain rfl:e=0:=by lia
    refine dZ he ?_;have F2:Fl c δ lo (lo+n-1) (lo+n-1+1):=by rw[BD s1];exact F1
    have fa:=F2.fa1;rw[BD s1]at fa;exact Ag ⟨0,y',δ,rfl,rfl,R1,by lia,by lia,fa.next C (g:=0) F1.own raw1 (by lia) (by lia) bl,fun i q1 q2=>raw1 i (by lia) q2,out1.wide (by lia)⟩
  | false =>
   dsimp only;refine dZ Bool.noConfusion ?_;refine Ak (jF C R1 ep en ?_);cases hc2:c (lo+n-1) (lo+n) with
   | true=>exact Ag ⟨n,e,y',δ,rfl,rfl,R1,b1,b2,F1,raw1,out1⟩
   | false =>
    refine Ag ⟨e+1,y',δ,rfl,rfl,R1,by lia,by lia,?_,fun i q1 q2=>raw1 i (by lia) q2,out1.wide (by lia)⟩
    rw[show lo+(n+1) - (e+1+1)=lo+n - (e+1) from Nat.succ_sub_succ _ _];exact F1.more C raw1 (by lia) hc hc2
 case post =>
  rintro r st' ⟨n,e,y',δ,rfl,rfl,R1,b1,b2,F1,raw1,out1⟩;have hs:lo+n<=δ.size:=by rw[R1.size];exact b2
  have s1:1<=lo+n:=by lia
  dsimp only;by_cases he:e > 0
  ·refine eZ he ?_;refine Ak (rY ?_);exact wZ C (γ:=mirror δ (lo+n-(e+1)) (lo+n) ((lo+n-(lo+n-(e+1))) / 2)) (R1.put (mirror_perm _ _ _ _) (by rw[show arrOf (setArr st₀ y')=δ.map f from R1.arr,iB])) (by lia) b2 (F1.turn hs) (jG F1.own F1.le hs) (fZ (a:=lo+n-(e+1)) raw1 hs) (iD out1 F1.le hs) q
  ·obtain rfl:e=0:=by lia
   refine dZ he ?_;have F2:Fl c δ lo (lo+n-1) (lo+n-1+1):=by rw[BD s1];exact F1
   have fa:=F2.fa1;rw[BD s1]at fa;exact wZ C R1 (by lia) b2 fa F1.own raw1 out1 q
theorem Lf (C:Cm prog w A s k f N c) (R:Rp k f N st γ) {lo:Nat} (hl:lo<N) (raw:Raw γ lo N)
  {Q:Option Nat->SortSt->Prop} (q:∀n st',1<=n->lo+n<=N->Rn k f N c lo st γ n st'->Q (some n) st'):wpS (model prog w) A E s (countRun' lo (N-lo)) Q st:=by
 rw[countRun'_eq];have sg1:Sg c γ lo (lo+1):=fun i j g h p1 p2 p3=>by lia
 have ow1:Ow γ lo (lo+1):=fun i g p1 p2 e=>by
  obtain rfl:i=lo:=by lia
  rw[raw i (Xa _) hl]at e;cases e;lia
 refine Ak (Ar (At (I:=fun x r st'=>st'=st/\r=(none,x)/\1<=x/\lo+x<=N/\Sg c γ lo (lo+x)/\Ow γ lo (lo+x)/\∀i g h,lo<=i->i+1<lo+x->γ[i]?=some g->γ[i+1]?=some h->c h g=false)
  (Q:=fun r st'=>st'=st/\∃x,r=(none,x)/\1<=x/\lo+x<=N/\Sg c γ lo (lo+x)/\Ow γ lo (lo+x)/\(lo+x=N∨c (lo+x) (lo+x-1)=true)) ?step ?fin ?init) ?post)
 case init=>exact⟨rfl,rfl,by lia,by lia,sg1,ow1,fun i g h p1 p2=>by lia⟩
 case fin =>
  rintro r st' ⟨rfl,rfl,b1,b2,b3,b4,b5⟩;exact⟨rfl,_,rfl,b1,b2,b3,b4,.inl (by lia)⟩
 case step =>
  rintro x r st' p1 p2 ⟨rfl,rfl,b1,b2,b3,b4,b5⟩;dsimp only;have en:=raw (lo+x) (by lia) (by lia)
  have ep:=raw (lo+x-1) (by lia) (by lia)
  refine Ak (jF C R en ep ?_);cases hc:c (lo+x) (lo+x-1) with
  | true=>exact Ag ⟨rfl,x,rfl,b1,b2,b3,b4,.inr hc⟩
  | false =>
   obtain⟨a1,a2,_⟩:=uv C b3 b4 (fun i q1 q2=>raw i (by lia) q2) b1 (by lia) ep hc
   refine Ag ⟨rfl,rfl,by lia,by lia,a1,a2,fun i g h q1 q2 e1 e2=>?_⟩
   rw[raw i q1 (by lia)]at e1
   rw[raw (i+1) (by lia) (by lia)]at e2
   cases e1;cases e2;by_cases hi:i+1<lo+x
   ·exact b5 i i (i+1) q1 hi (raw _ q1 (by lia)) (raw _ (by lia) (by lia))
   ·obtain rfl:i=lo+x-1:=by lia
    rw[show lo+x - 1+1=lo+x by lia];exact hc
 case post =>
  rintro r st' ⟨rfl,x,rfl,b1,b2,b3,b4,b6⟩;dsimp only;by_cases hx:lo+x=N
  ·refine eZ (by simp;lia) ?_
   exact Ag (q x _ b1 b2 ⟨_,γ,rfl,R,b3,b4,fun i q1 q2=>raw i (by lia) q2,Out.refl _ _ _⟩)
  ·refine dZ (by simp;lia) ?_
   have hc:c (lo+x) (lo+x-1)=true:=b6.resolve_left hx;have hs:lo+x<=γ.size:=by rw[R.size];exact b2
   have raw':Raw γ (lo+x) N:=fun i q1 q2=>raw i (by lia) q2
   by_cases h1:x > 1
   ·refine eZ h1 ?_;refine Ak (jF C R (raw lo (Xa _) hl) (raw (lo+x-1) (by lia) (by lia)) ?_)
    cases hr:c lo (lo+x-1) with
    | true=>exact Ag (q x _ b1 b2 ⟨_,γ,rfl,R,b3,b4,raw',Out.refl _ _ _⟩)
    | false =>
     dsimp only;refine dZ Bool.noConfusion ?_;have le:∀a b,lo<=a->a<lo+x->lo<=b->b<lo+x->a<=b->c b a=false:=fun a b p1 p2 p3 p4 p5=>by
      by_cases ab:a=b
      ·subst ab;exact C.irr _
      ·exact C.le (b3 a b a b p1 (by lia) p4 (raw a p1 (by lia)) (raw b p3 (by lia)))
     have al:∀a b,lo<=a->a<lo+x->lo<=b->b<lo+x->c a b=false:=fun a b p1 p2 p3 p4=>by
      by_cases ab:b<=a
      ·exact le b a p3 p4 p1 p2 ab
      ·cases hab:c a b with
       | false=>rfl
       | true =>
        rcases C.neg a lo b hab with z|z
        ·rw[le lo a (Xa _) (by lia) p1 p2 p1]at z;exact z.symm
        ·rcases C.neg lo (lo+x-1) b z with z|z
         ·rw[hr]at z;exact z.symm
         ·rw[le b (lo+x - 1) p3 p4 (by lia) (by lia) (by lia)]at z;exact z.symm
     have F0:Fl c γ lo lo (lo+x):=⟨Xa _,by lia,fun i j g h p1 p2 p3=>by lia,fun i j g h p1 p2=>by lia,fun i j g h p1 p2 p3 p4 e1 e2=>by
      rw[raw i p1 (by lia)]at e1
      rw[raw j p3 (by lia)]at e2
      cases e1;cases e2
      exact al i j p1 p2 p3 p4,fun i p1 p2=>raw i p1 (by lia),b4⟩
     refine Ak (rY ?_);refine(show ∀{m:StateT SortSt Sem (Option Nat)} {t:SortSt},m=oT lo x (N-lo)->wpS (model prog w) A E s (oT lo x (N-lo)) Q t->wpS (model prog w) A E s m Q t from fun e h=>e ▸ h) ?_
      (w4 C (st₀:=st') (γ₀:=γ) (γ:=mirror γ lo (lo+x) ((lo+x-lo) / 2)) (R.put (mirror_perm _ _ _ _) (by rw[R.arr,iB])) (by lia)
       ((F0.turn hs).next C (g:=0) (jG b4 (Xa _) hs) (fZ (a:=lo) raw' hs) (by lia) (by lia) fun i g p1 p2 e=>?_) (fun i q1 q2=>fZ (a:=lo) raw' hs i (by lia) q2) ((iD (Out.refl γ lo (lo+x)) (Xa _) hs).wide (by lia)) q)
     ·unfold oT uw;congr 1;funext _v;congr 1;funext z;obtain⟨z1,z2,z3⟩:=z;cases z1 with
      | some z1=>rfl
      | none =>
       dsimp only;split
       ·congr 1;funext _y;congr 1;funext _u;congr 1;funext z;obtain⟨z1,z2⟩:=z;cases z1<;>rfl
       ·congr 1;funext _u;congr 1;funext z;obtain⟨z1,z2⟩:=z;cases z1<;>rfl
     ·obtain⟨i',a1,a2,_,a4⟩:=kI (γ:=γ) hs p1 p2;exact F0.below C hc i' g a1 a2 (a4 ▸ e)
   ·obtain rfl:x=1:=by lia
    refine dZ h1 ?_;have fa:Fa c γ lo (lo+1):=fun i j g h p1 p2 p3=>by lia
    refine(show ∀{m:StateT SortSt Sem (Option Nat)},m=oT lo 1 (N-lo)->wpS (model prog w) A E s (oT lo 1 (N-lo)) Q st'->wpS (model prog w) A E s m Q st' from fun e h=>e ▸ h) ?_ (w4 C (st₀:=st') (y:=arrOf st') (γ₀:=γ) (γ:=γ) R (by lia) (fa.next C (g:=0) b4 raw' (by lia) (by lia) fun i g p1 p2 e=>?_) (fun i q1 q2=>raw i (by lia) q2) (Out.refl _ _ _) q)
    ·unfold oT uw;congr 1;funext _v;congr 1;funext z;obtain⟨z1,z2,z3⟩:=z;cases z1 with
     | some z1=>rfl
     | none =>
      dsimp only;split
      ·congr 1;funext _y;congr 1;funext _u;congr 1;funext z;obtain⟨z1,z2⟩:=z;cases z1<;>rfl
      ·congr 1;funext _u;congr 1;funext z;obtain⟨z1,z2⟩:=z;cases z1<;>rfl
    obtain rfl:i=lo:=by lia
    rw[raw i (Xa _) hl]at e;cases e;exact hc
end
end TS
namespace TS
open PySem PyProof.Rows
def By (left:Bool) (key:Keyed) (arr:Array Keyed) (base i:Nat):StateT SortSt Sem (Option Bool):=do
 let p ← elem' arr (base+i)
 if left then lt' p key else return (← lt' key p).map (!·)
def Pn:Bool->Keyed->Array Keyed->Nat->Nat->Nat->StateT SortSt Sem (Option Nat):=sortPriv% PySem.Builtin.gallop
section
variable {prog:Program} {w:World} {A:Around} {E:Value->Shared->Prop} {s:Shared} {k:SortKind} {f:Nat->Keyed} {N:Nat} {c:Nat->Nat->Bool} {st:SortSt} {δ:Array Nat}
def bb (c:Nat->Nat->Bool) (left:Bool) (t g:Nat):Bool:=if left then c g t else !c t g
theorem w5 (C:Cm prog w A s k f N c) (hk:kindOf st=k) (ht:t<N) (hg:g<N) (e:δ[base+i]?=some g) (q:Q (some (bb c left t g)) st) :
  wpS (model prog w) A E s (By left (f t) (δ.map f) base i) Q st:=by
 unfold By;rw[elem'_eq,Be,e];refine Ak (Ag ?_);cases left with
 | true=>exact uu C hk hg ht q
 | false=>exact Ak (uu C hk ht hg (Ag q))
def EM (left:Bool) (key:Keyed) (arr:Array Keyed) (base n l h:Nat):StateT SortSt Sem (Option Nat):=do
 let r ← forIn [0:n] ((none,l,h):Option (Option Nat)×Nat×Nat) fun _ r=>do
  if r.2.1 ≥ r.2.2 then pure (ForInStep.done (none,r.2.1,r.2.2)) else do
   match ← By left key arr base (r.2.1+(r.2.2-r.2.1) / 2) with
   | some mo=>if mo=true then pure (ForInStep.yield (none,r.2.1+(r.2.2-r.2.1) / 2+1,r.2.2)) else pure (ForInStep.yield (none,r.2.1,r.2.1+(r.2.2-r.2.1) / 2))
   | _=>pure (ForInStep.done (some none,r.2.1,r.2.2))
 match r.1 with
 | some z=>pure z
 | none=>pure (some r.2.2)
def Tr (c:Nat->Nat->Bool) (left:Bool) (t base:Nat) (δ:Array Nat) (m:Nat):Prop:=∀(i g:Nat),base<=i->i<base+m->δ[i]?=some g->bb c left t g=true
def Fs (c:Nat->Nat->Bool) (left:Bool) (t base n:Nat) (δ:Array Nat) (m:Nat):Prop:=∀(i g:Nat),base+m<=i->i<base+n->δ[i]?=some g->bb c left t g=false
def Mo (c:Nat->Nat->Bool) (left:Bool) (t base n:Nat) (δ:Array Nat):Prop:=∀(i j g h:Nat),base<=i->i<j->j<base+n->δ[i]?=some g->δ[j]?=some h->bb c left t h=true->bb c left t g=true
theorem Mo.tr (mo:Mo c left t base n δ) (hm:m<n) (e:δ[base+m]?=some g) (h:bb c left t g=true):Tr c left t base δ (m+1):=by grind [Mo,bb,Tr]
theorem Mo.fs (mo:Mo c left t base n δ) (hm:m<n) (e:δ[base+m]?=some g) (h:bb c left t g=false):Fs c left t base n δ m:=by grind [Mo,bb,Fs]
theorem OV (q:l<h):l<=l+(h-l) / 2/\l+(h-l) / 2<h:=by lia
theorem w6 (C:Cm prog w A s k f N c) (hk:kindOf st=k) (ht:t<N) (hb:∀(i g:Nat),δ[i]?=some g->g<N) (hs:base+n<=δ.size) (mo:Mo c left t base n δ)
  (h1:l<=h) (h2:h<=n) (tr:Tr c left t base δ l) (fs:Fs c left t base n δ h) (q:∀m,m<=n->Tr c left t base δ m->Fs c left t base n δ m->Q (some m) st) :
  wpS (model prog w) A E s (EM left (f t) (δ.map f) base n l h) Q st:=by
 refine Ak (Ar (At (I:=fun x r st'=>st'=st/\∃l h,r=(none,l,h)/\l<=h/\h<=n/\h-l<=n-x/\Tr c left t base δ l/\Fs c left t base n δ h)
  (Q:=fun r st'=>st'=st/\∃l,r=(none,l,l)/\l<=n/\Tr c left t base δ l/\Fs c left t base n δ l) ?step ?fin ?init) ?post)
 case init=>exact⟨rfl,l,h,rfl,h1,h2,by lia,tr,fs⟩
 case fin =>
  rintro r st' ⟨rfl,l,h,rfl,b1,b2,b3,b4,b5⟩;obtain rfl:l=h:=by lia
  exact⟨rfl,l,rfl,b2,b4,b5⟩
 case step =>
  rintro x r st' p1 p2 ⟨rfl,l,h,rfl,b1,b2,b3,b4,b5⟩;dsimp only;by_cases hlh:l ≥ h
  ·refine eZ hlh ?_;obtain rfl:l=h:=by lia
   exact Ag ⟨rfl,l,rfl,b2,b4,b5⟩
  ·refine dZ hlh ?_;obtain⟨q1,q2⟩:=OV (A7 hlh);generalize l+(h-l) / 2=t' at q1 q2 ⊢;have q5:t'<n:=Xc q2 b2;obtain⟨g,e⟩:=jg (γ:=δ) (i:=base+t') (Xc (Nat.add_lt_add_left q5 base) hs);refine Ak (w5 C hk ht (hb _ _ e) e ?_);cases hc:bb c left t g with
   | true=>exact Ag ⟨rfl,_,_,rfl,q2,b2,NE b3 q1 q2,mo.tr q5 e hc,b5⟩
   | false=>exact Ag ⟨rfl,_,_,rfl,q1,Xl q5,ND b3 q2 q1,b4,mo.fs q5 e hc⟩
 case post =>
  rintro r st' ⟨rfl,l,rfl,b1,b2,b3⟩;exact Ag (q l b1 b2 b3)
theorem EN (C:Cm prog w A s k f N c) (hk:kindOf st=k) (ht:t<N) (hb:∀(i g:Nat),δ[i]?=some g->g<N) (hs:base+n<=δ.size) (hh:hint<n) (mo:Mo c left t base n δ)
  (q:∀m,m<=n->Tr c left t base δ m->Fs c left t base n δ m->Q (some m) st) :
  wpS (model prog w) A E s (Pn left (f t) (δ.map f) base n hint) Q st:=by
 obtain⟨g0,e0⟩:=jg (γ:=δ) (i:=base+hint) (by lia)
 refine Ak (w5 C hk ht (hb _ _ e0) e0 ?_);have sw:∀{m m':StateT SortSt Sem (Option Nat)},m=m'->wpS (model prog w) A E s m' Q st->wpS (model prog w) A E s m Q st:=fun e h=>e ▸ h;dsimp only;cases hc:bb c left t g0 with
 | true =>
  refine eZ rfl ?_
  refine Ak (Ar (At (I:=fun x r st'=>st'=st/\∃a o,r=(none,a,o)/\a<o/\x<o/\a<n-hint/\Tr c left t base δ (hint+a+1))
   (Q:=fun r st'=>st'=st/\∃a o,r=(none,a,o)/\a<o/\a<n-hint/\Tr c left t base δ (hint+a+1)/\(n-hint<=o∨Fs c left t base n δ (hint+o))) ?step ?fin ?init) ?post)
  case init=>exact⟨rfl,0,1,rfl,by lia,by lia,by lia,mo.tr hh e0 hc⟩
  case fin =>
   rintro r st' ⟨rfl,a,o,rfl,b1,b2,b3,b4⟩;exact⟨rfl,a,o,rfl,b1,b3,b4,.inl (by lia)⟩
  case step =>
   rintro x r st' p1 p2 ⟨rfl,a,o,rfl,b1,b2,b3,b4⟩;dsimp only;by_cases ho:o ≥ n-hint
   ·refine eZ ho ?_;exact Ag ⟨rfl,a,o,rfl,b1,b3,b4,.inl ho⟩
   ·refine dZ ho ?_;obtain⟨g,e⟩:=jg (γ:=δ) (i:=base+(hint+o)) (by lia)
    refine Ak (w5 C hk ht (hb _ _ e) e ?_);cases hc:bb c left t g with
    | true=>exact Ag ⟨rfl,o,2*o+1,rfl,by lia,by lia,by lia,mo.tr (by lia) e hc⟩
    | false=>exact Ag ⟨rfl,a,o,rfl,b1,b3,b4,.inr (mo.fs (by lia) e hc)⟩
  case post =>
   rintro r st' ⟨rfl,a,o,rfl,b1,b3,b4,b5⟩;refine sw (m':=EM left (f t) (δ.map f) base n (hint+a+1) (hint+min o (n-hint))) (by unfold EM;dsimp only;congr 1;funext z;obtain⟨z1,z2,z3⟩:=z;cases z1<;>rfl) (w6 C hk ht hb hs mo (Wj (Nat.lt_min.mpr ⟨b1,b3⟩) hint) (Qd (Wj (CT _ _) _) (Dy (Wn (Xl hh)))) b4 ?_ q)
   by_cases ho:n-hint<=o
   ·intro i g p1 p2;rw[CU ho,Wn (Xl hh)]at p1;exact absurd p2 (Nat.not_lt_of_le p1)
   ·rw[Qm (Nat.le_of_not_le ho)];exact b5.resolve_left ho
 | false =>
  refine dZ Bool.noConfusion ?_
  refine Ak (Ar (At (I:=fun x r st'=>st'=st/\∃a o,r=(none,a,o)/\a<o/\x<o/\a<hint+1/\Fs c left t base n δ (hint-a))
   (Q:=fun r st'=>st'=st/\∃a o,r=(none,a,o)/\a<o/\a<hint+1/\Fs c left t base n δ (hint-a)/\(hint+1<=o∨Tr c left t base δ (hint-o+1))) ?step ?fin ?init) ?post)
  case init=>exact⟨rfl,0,1,rfl,by lia,by lia,by lia,mo.fs hh e0 hc⟩
  case fin =>
   rintro r st' ⟨rfl,a,o,rfl,b1,b2,b3,b4⟩;exact⟨rfl,a,o,rfl,b1,b3,b4,.inl (by lia)⟩
  case step =>
   rintro x r st' p1 p2 ⟨rfl,a,o,rfl,b1,b2,b3,b4⟩;dsimp only;by_cases ho:o ≥ hint+1
   ·refine eZ ho ?_;exact Ag ⟨rfl,a,o,rfl,b1,b3,b4,.inl ho⟩
   ·refine dZ ho ?_;obtain⟨g,e⟩:=jg (γ:=δ) (i:=base+(hint-o)) (by lia)
    refine Ak (w5 C hk ht (hb _ _ e) e ?_);cases hc:bb c left t g with
    | true=>exact Ag ⟨rfl,a,o,rfl,b1,b3,b4,.inr (mo.tr (by lia) e hc)⟩
    | false=>exact Ag ⟨rfl,o,2*o+1,rfl,by lia,by lia,by lia,mo.fs (by lia) e hc⟩
  case post =>
   rintro r st' ⟨rfl,a,o,rfl,b1,b3,b4,b5⟩;refine sw (m':=EM left (f t) (δ.map f) base n (hint+1-min o (hint+1)) (hint-a)) (by unfold EM;dsimp only;congr 1;funext z;obtain⟨z1,z2,z3⟩:=z;cases z1<;>rfl) (w6 C hk ht hb hs mo (Nat.succ_sub_succ hint a ▸ Nat.sub_le_sub_left (Nat.lt_min.mpr ⟨b1,b3⟩) _) (Qd (Nat.sub_le _ _) (Xl hh)) ?_ b4 q)
   by_cases ho:hint+1<=o
   ·intro i g p1 p2;rw[CU ho,CF]at p2;exact absurd p2 (Nat.not_lt_of_le p1)
   ·rw[Qm (Nat.le_of_not_le ho),Nat.succ_sub (Nat.le_of_lt_succ (A7 ho))];exact b5.resolve_left ho
end
end TS
namespace TS
open PySem PyProof.Rows
structure Mg (c:Nat->Nat->Bool) (α β ω la lb:List Nat):Prop where
 so:ω.Pairwise (Bf c)
 sa:la.Pairwise (Bf c)
 sb:lb.Pairwise (Bf c)
 xa:∀g∈ω,∀h∈la,Bf c g h
 xb:∀g∈ω,∀h∈lb,Bf c g h
 tag:∀g∈la,∀h∈lb,g<h
 perm:(ω++la++lb).Perm (α++β)
def Gd (c:Nat->Nat->Bool) (α β l:List Nat):Prop:=l.Pairwise (Bf c)/\l.Perm (α++β)
section
variable {prog:Program} {w:World} {A:Around} {s:Shared} {k:SortKind} {f:Nat->Keyed} {N:Nat} {c:Nat->Nat->Bool} {α β ω la lb:List Nat} {x y:Nat}
theorem Mg.takeB (C:Cm prog w A s k f N c) (J:Mg c α β ω (x::la) (y::lb)) (h:c y x=true):Mg c α β (ω++[y]) (x::la) lb:=by
 have sa:=Xg.mp J.sa;have sb:=Xg.mp J.sb;have ya:∀z∈x::la,Bf c y z:=fun z hz=>by
  rcases Xd.mp hz with rfl|hz
  ·exact .inl h
  ·exact C.trans (.inl h) (sa.1 z hz)
 refine⟨?_,J.sa,sb.2,fun g hg z hz=>?_,fun g hg z hz=>?_,fun g hg z hz=>J.tag g hg z (Va _ hz),?_⟩
 ·rw[Xi];exact⟨J.so,Xm _ _,fun g hg z hz=>by rw[Vb.mp hz];exact J.xb g hg y Qa⟩
 ·rcases Zd.mp hg with hg|hg
  ·exact J.xa g hg z hz
  ·rw[Vb.mp hg];exact ya z hz
 ·rcases Zd.mp hg with hg|hg
  ·exact J.xb g hg z (Va _ hz)
  ·rw[Vb.mp hg];exact sb.1 z hz
 ·refine List.Perm.trans ?_ J.perm;rw[Xe,Xe,Xe];refine B3 ω ?_;exact(Qk (l₁:=x::la) (a:=y) (l₂:=lb)).symm
theorem Mg.takeA (C:Cm prog w A s k f N c) (J:Mg c α β ω (x::la) (y::lb)) (h:c y x=false):Mg c α β (ω++[x]) la (y::lb):=by
 have sa:=Xg.mp J.sa;have sb:=Xg.mp J.sb;have xy:Bf c x y:=.inr ⟨h,J.tag x Qa y Qa⟩;refine⟨?_,sa.2,J.sb,fun g hg z hz=>?_,fun g hg z hz=>?_,fun g hg z hz=>J.tag g (Va _ hg) z hz,?_⟩
 ·rw[Xi];exact⟨J.so,Xm _ _,fun g hg z hz=>by rw[Vb.mp hz];exact J.xa g hg x Qa⟩
 ·rcases Zd.mp hg with hg|hg
  ·exact J.xa g hg z (Va _ hz)
  ·rw[Vb.mp hg];exact sa.1 z hz
 ·rcases Zd.mp hg with hg|hg
  ·exact J.xb g hg z hz
  ·rw[Vb.mp hg];rcases Xd.mp hz with rfl|hz
   ·exact xy
   ·exact C.trans xy (sb.1 z hz)
 ·refine List.Perm.trans ?_ J.perm;rw[Xe ω [x] la];exact List.Perm.refl _
theorem Mg.takeAs (C:Cm prog w A s k f N c):∀(l:List Nat) {ω la:List Nat},Mg c α β ω (l++la) (y::lb)->(∀g∈l,c y g=false)->Mg c α β (ω++l) la (y::lb)
 | [],ω,la,J,_=>by rw[Qe];exact J
 | x::l,ω,la,J,h=>by
  have:=Mg.takeAs C l (J.takeA C (h x Qa)) fun g hg=>h g (Va _ hg);rwa [Xe]at this
theorem Mg.takeBs (C:Cm prog w A s k f N c):∀(l:List Nat) {ω lb:List Nat},Mg c α β ω (x::la) (l++lb)->(∀g∈l,c g x=true)->Mg c α β (ω++l) (x::la) lb
 | [],ω,lb,J,_=>by rw[Qe];exact J
 | y::l,ω,lb,J,h=>by
  have:=Mg.takeBs C l (J.takeB C (h y Qa)) fun g hg=>h g (Va _ hg);rwa [Xe]at this
theorem Mg.doneA (J:Mg c α β ω la []):Gd c α β (ω++la):=by
 refine⟨Xi.mpr ⟨J.so,J.sa,J.xa⟩,?_⟩;have:=J.perm;rwa [Qe]at this
theorem Mg.doneB (J:Mg c α β ω [] lb):Gd c α β (ω++lb):=by
 refine⟨Xi.mpr ⟨J.so,J.sb,J.xb⟩,?_⟩;have:=J.perm;rwa [Qe]at this
theorem Mg.last (C:Cm prog w A s k f N c) (J:Mg c α β ω [x] lb) (h:∀g∈lb,c g x=true):Gd c α β (ω++lb++[x]):=by
 have J':Mg c α β ω [x] (lb++[]):=by rw[Qe];exact J
 exact(J'.takeBs C lb h).doneA
end
end TS
namespace TS
open PySem PyProof.Rows
def ar (f:Nat->Keyed) (l:List Nat):Array Keyed:=l.toArray.map f
def Lw (f:Nat->Keyed) (c:Nat->Nat->Bool) (α β:List Nat) (o:Array Keyed) (i j:Nat):Prop:=∃ω,o=ar f ω/\Mg c α β ω (α.drop i) (β.drop j)
def Rt (f:Nat->Keyed) (c:Nat->Nat->Bool) (α β:List Nat) (o:Array Keyed):Prop:=∃l,o=ar f l/\Gd c α β l
section
variable {prog:Program} {w:World} {A:Around} {s:Shared} {k:SortKind} {f:Nat->Keyed} {N:Nat} {c:Nat->Nat->Bool} {α β:List Nat} {o:Array Keyed} {i j x y:Nat}
theorem fI (l:List Nat):(ar f l).size=l.length:=by simp[ar]
theorem nW (l:List Nat) (g:Nat):(ar f l).push (f g)=ar f (l++[g]):=by simp[ar]
theorem fA (l m:List Nat):ar f l++ar f m=ar f (l++m):=by simp[ar]
theorem kJ (l:List Nat) (p q:Nat):(ar f l).extract p q=ar f ((l.drop p).take (q-p)):=by simp[ar,List.extract]
theorem rZ (l:List Nat) (p:Nat):(ar f l).extract p (ar f l).size=ar f (l.drop p):=by
 rw[kJ,fI,BV (by rw[Xk];exact Xa _)]
theorem NF {l:List Nat} {p g:Nat} (e:l[p]?=some g):(ar f l)[p]?=some (f g):=by simp[ar,e]
theorem oU {l:List Nat} (e:l[p]?=some g):l.drop p=g::l.drop (p+1):=by
 obtain⟨h,rfl⟩:=Wb.mp e;exact Zl h
theorem Lw.b (C:Cm prog w A s k f N c) (L:Lw f c α β o i j) (hx:α[i]?=some x) (hy:β[j]?=some y) (h:c y x=true):Lw f c α β (o.push (f y)) i (j+1):=by
 obtain⟨ω,rfl,J⟩:=L;refine⟨ω++[y],nW _ _,?_⟩;rw[oU hx]at J ⊢;rw[oU hy]at J;exact J.takeB C h
theorem Lw.a (C:Cm prog w A s k f N c) (L:Lw f c α β o i j) (hx:α[i]?=some x) (hy:β[j]?=some y) (h:c y x=false):Lw f c α β (o.push (f x)) (i+1) j:=by
 obtain⟨ω,rfl,J⟩:=L;refine⟨ω++[x],nW _ _,?_⟩;rw[oU hy]at J ⊢;rw[oU hx]at J;exact J.takeA C h
theorem Lw.as (C:Cm prog w A s k f N c) (L:Lw f c α β o i j) (hy:β[j]?=some y) (h:∀p g,i<=p->p<i+u->α[p]?=some g->c y g=false):Lw f c α β (o++(ar f α).extract i (i+u)) (i+u) j:=by
 obtain⟨ω,rfl,J⟩:=L;refine⟨ω++(α.drop i).take u,by rw[kJ,show i+u - i=u by lia,fA],?_⟩
 rw[oU hy]at J ⊢;refine Mg.takeAs C _ (la:=α.drop (i+u)) (by rw[← BH,Xh];exact J) fun g hg=>?_
 obtain⟨p,hp⟩:=List.mem_iff_getElem?.mp hg;rw[Bc]at hp;split at hp
 ·rw[Qf]at hp;exact h (i+p) g (by lia) (by lia) hp
 ·cases hp
theorem Lw.bs (C:Cm prog w A s k f N c) (L:Lw f c α β o i j) (hx:α[i]?=some x) (h:∀p g,j<=p->p<j+u->β[p]?=some g->c g x=true):Lw f c α β (o++(ar f β).extract j (j+u)) i (j+u):=by
 obtain⟨ω,rfl,J⟩:=L;refine⟨ω++(β.drop j).take u,by rw[kJ,show j+u - j=u by lia,fA],?_⟩
 rw[oU hx]at J ⊢;refine Mg.takeBs C _ (lb:=β.drop (j+u)) (by rw[← BH (i:=u) (j:=j),Xh];exact J) fun g hg=>?_
 obtain⟨p,hp⟩:=List.mem_iff_getElem?.mp hg;rw[Bc]at hp;split at hp
 ·rw[Qf]at hp;exact h (j+p) g (by lia) (by lia) hp
 ·cases hp
theorem Lw.dn (L:Lw f c α β o i j) (h:j=β.length∨i=α.length):Rt f c α β (o++(ar f α).extract i (ar f α).size++(ar f β).extract j (ar f β).size):=by
 obtain⟨ω,rfl,J⟩:=L;rw[rZ,rZ,fA,fA];refine⟨_,rfl,?_⟩;rcases h with rfl|rfl
 ·rw[CY]at J ⊢;rw[Qe];exact J.doneA
 ·rw[CY]at J ⊢;rw[Qe];exact J.doneB
theorem Lw.la (C:Cm prog w A s k f N c) (L:Lw f c α β o i j) (hx:α[i]?=some x) (h:i+1=α.length) (z:∀g∈β,c g x=true):Rt f c α β (o++(ar f β).extract j (ar f β).size++(ar f α).extract i (ar f α).size):=by
 obtain⟨ω,rfl,J⟩:=L;rw[rZ,rZ,fA,fA];refine⟨_,rfl,?_⟩;rw[oU hx,h,CY]at J ⊢;exact J.last C fun g hg=>z g (List.mem_of_mem_drop hg)
end
end TS
namespace TS
open PySem PyProof.Rows
inductive Ex2 {A B R:Type} (g:A->B->R) (p:A->B->Prop):R->Prop|mk (a b) (h:p a b):Ex2 g p (g a b)
inductive Ex4 {A B C D R:Type} (g:A->B->C->D->R) (p:A->B->C->D->Prop):R->Prop|mk (a b c d) (h:p a b c d):Ex4 g p (g a b c d)
inductive Ex5 {A B C D E R:Type} (g:A->B->C->D->E->R) (p:A->B->C->D->E->Prop):R->Prop|mk (a b c d e) (h:p a b c d e):Ex5 g p (g a b c d e)
inductive Ex6 {A B C D E F R:Type} (g:A->B->C->D->E->F->R) (p:A->B->C->D->E->F->Prop):R->Prop|mk (a b c d e f) (h:p a b c d e f):Ex6 g p (g a b c d e f)
def Pv:Array Keyed->Array Keyed->StateT SortSt Sem (Array Keyed):=sortPriv% PySem.Builtin.mergeLo
structure Sm (a b:SortSt):Prop where
 arr:arrOf b=arrOf a
 kind:kindOf b=kindOf a
 pend:pendingOf b=pendingOf a
 fine:failedOf b=failedOf a
theorem oW {M:Model} {A:Around} {E:Value->Shared->Prop} {σ γ:Type} {B:Nat->StateT σ Sem γ} {p:Prop} {d:Decidable p} {m2:Nat} {Q:γ->σ->Prop} {st:σ} (h:∀m,wpS M A E s (B m) Q st):∀m1,wpS M A E s (@ite _ p d (B m1) (B m2)) Q st:=by
 intro m1;by_cases hp:p
 ·rw[Ae hp];exact h _
 ·rw[Ai hp];exact h _
theorem nY {M:Model} {A:Around} {E:Value->Shared->Prop} {σ γ:Type} {X:StateT σ Sem γ} {B:Array Keyed->Nat->StateT σ Sem γ} {p:Prop} {d:Decidable p} {o:Array Keyed} {i:Nat} {Q:γ->σ->Prop} {st:σ} (I:Array Keyed->Nat->Prop)
  (h:p->(∀o i,I o i->wpS M A E s (B o i) Q st)->wpS M A E s X Q st) (g:¬ p->I o i) (hB:∀o i,I o i->wpS M A E s (B o i) Q st):wpS M A E s (@ite _ p d X (B o i)) Q st:=by
 by_cases hp:p
 ·rw[Ae hp];exact h hp hB
 ·rw[Ai hp];exact hB _ _ (g hp)
theorem NG {M:Model} {A:Around} {E:Value->Shared->Prop} {σ γ O ρ A0 A1 A2 A3:Type} {lo hi:Nat} {F:Nat->Option O×ρ->StateT σ Sem (ForInStep (Option O×ρ))} {K:Option O×ρ->StateT σ Sem γ} (S:σ->Prop) (R:O->Prop) (g:A0->A1->A2->A3->ρ) (p:Nat->A0->A1->A2->A3->Prop) (p':A0->A1->A2->A3->Prop) {Q:γ->σ->Prop}
  (step:∀x a b c d st,S st->p x a b c d->wpS M A E s (F x (none,g a b c d)) (fun r st'=>match r with|.done c'=>S st'/\(Ex2 (fun o z=>(some o,z)) (fun o _=>R o) c'∨Ex4 (fun a b c d=>(none,g a b c d)) p' c')|.yield c'=>S st'/\Ex4 (fun a b c d=>(none,g a b c d)) (p (x+1)) c') st)
  (fin:∀a b c d,p (max lo hi) a b c d->False) {r:Option O×ρ} {st:σ} (hS:S st) (init:Ex4 (fun a b c d=>(none,g a b c d)) (p lo) r) (sm:∀o z st',S st'->R o->wpS M A E s (K (some o,z)) Q st') (nn:∀a b c d st',S st'->p' a b c d->wpS M A E s (K (none,g a b c d)) Q st'):wpS M A E s (forIn [lo:hi] r F >>= K) Q st:=by
 refine Ak (Ar (At (I:=fun x r st=>S st/\Ex4 (fun a b c d=>(none,g a b c d)) (p x) r) (Q:=fun r st=>S st/\(Ex2 (fun o z=>(some o,z)) (fun o _=>R o) r∨Ex4 (fun a b c d=>(none,g a b c d)) p' r)) ?_ ?_ ⟨hS,init⟩) ?_)
 ·rintro x r st _ _ ⟨h,a,b,c,d,z⟩;exact Ar (step x a b c d st h z) fun r st' h=>by cases r<;>exact h
 ·rintro r st ⟨_,a,b,c,d,z⟩;exact(fin a b c d z).elim
 ·rintro r st ⟨h,⟨o,z,h1⟩|⟨a,b,c,d,h1⟩⟩
  ·exact sm o z st h h1
  ·exact nn a b c d st h h1
theorem NH {M:Model} {A:Around} {E:Value->Shared->Prop} {σ γ O ρ A0 A1 A2 A3 A4:Type} {lo hi:Nat} {F:Nat->Option O×ρ->StateT σ Sem (ForInStep (Option O×ρ))} {K:Option O×ρ->StateT σ Sem γ} (S:σ->Prop) (R:O->Prop) (g:A0->A1->A2->A3->A4->ρ) (p:Nat->A0->A1->A2->A3->A4->Prop) (p':A0->A1->A2->A3->A4->Prop) {Q:γ->σ->Prop}
  (step:∀x a b c d e st,S st->p x a b c d e->wpS M A E s (F x (none,g a b c d e)) (fun r st'=>match r with|.done c'=>S st'/\(Ex2 (fun o z=>(some o,z)) (fun o _=>R o) c'∨Ex5 (fun a b c d e=>(none,g a b c d e)) p' c')|.yield c'=>S st'/\Ex5 (fun a b c d e=>(none,g a b c d e)) (p (x+1)) c') st)
  (fin:∀a b c d e,p (max lo hi) a b c d e->False) {r:Option O×ρ} {st:σ} (hS:S st) (init:Ex5 (fun a b c d e=>(none,g a b c d e)) (p lo) r) (sm:∀o z st',S st'->R o->wpS M A E s (K (some o,z)) Q st') (nn:∀a b c d e st',S st'->p' a b c d e->wpS M A E s (K (none,g a b c d e)) Q st'):wpS M A E s (forIn [lo:hi] r F >>= K) Q st:=by
 refine Ak (Ar (At (I:=fun x r st=>S st/\Ex5 (fun a b c d e=>(none,g a b c d e)) (p x) r) (Q:=fun r st=>S st/\(Ex2 (fun o z=>(some o,z)) (fun o _=>R o) r∨Ex5 (fun a b c d e=>(none,g a b c d e)) p' r)) ?_ ?_ ⟨hS,init⟩) ?_)
 ·rintro x r st _ _ ⟨h,a,b,c,d,e,z⟩;exact Ar (step x a b c d e st h z) fun r st' h=>by cases r<;>exact h
 ·rintro r st ⟨_,a,b,c,d,e,z⟩;exact(fin a b c d e z).elim
 ·rintro r st ⟨h,⟨o,z,h1⟩|⟨a,b,c,d,e,h1⟩⟩
  ·exact sm o z st h h1
  ·exact nn a b c d e st h h1
theorem NI {M:Model} {A:Around} {E:Value->Shared->Prop} {σ γ O ρ A0 A1 A2 A3 A4 A5:Type} {lo hi:Nat} {F:Nat->Option O×ρ->StateT σ Sem (ForInStep (Option O×ρ))} {K:Option O×ρ->StateT σ Sem γ} (S:σ->Prop) (R:O->Prop) (g:A0->A1->A2->A3->A4->A5->ρ) (p:Nat->A0->A1->A2->A3->A4->A5->Prop) (p':A0->A1->A2->A3->A4->A5->Prop) {Q:γ->σ->Prop}
  (step:∀x a b c d e f st,S st->p x a b c d e f->wpS M A E s (F x (none,g a b c d e f)) (fun r st'=>match r with|.done c'=>S st'/\(Ex2 (fun o z=>(some o,z)) (fun o _=>R o) c'∨Ex6 (fun a b c d e f=>(none,g a b c d e f)) p' c')|.yield c'=>S st'/\Ex6 (fun a b c d e f=>(none,g a b c d e f)) (p (x+1)) c') st)
  (fin:∀a b c d e f,p (max lo hi) a b c d e f->False) {r:Option O×ρ} {st:σ} (hS:S st) (init:Ex6 (fun a b c d e f=>(none,g a b c d e f)) (p lo) r) (sm:∀o z st',S st'->R o->wpS M A E s (K (some o,z)) Q st') (nn:∀a b c d e f st',S st'->p' a b c d e f->wpS M A E s (K (none,g a b c d e f)) Q st'):wpS M A E s (forIn [lo:hi] r F >>= K) Q st:=by
 refine Ak (Ar (At (I:=fun x r st=>S st/\Ex6 (fun a b c d e f=>(none,g a b c d e f)) (p x) r) (Q:=fun r st=>S st/\(Ex2 (fun o z=>(some o,z)) (fun o _=>R o) r∨Ex6 (fun a b c d e f=>(none,g a b c d e f)) p' r)) ?_ ?_ ⟨hS,init⟩) ?_)
 ·rintro x r st _ _ ⟨h,a,b,c,d,e,f,z⟩;exact Ar (step x a b c d e f st h z) fun r st' h=>by cases r<;>exact h
 ·rintro r st ⟨_,a,b,c,d,e,f,z⟩;exact(fin a b c d e f z).elim
 ·rintro r st ⟨h,⟨o,z,h1⟩|⟨a,b,c,d,e,f,h1⟩⟩
  ·exact sm o z st h h1
  ·exact nn a b c d e f st h h1
section
variable {prog:Program} {w:World} {A:Around} {E:Value->Shared->Prop} {s:Shared} {k:SortKind} {f:Nat->Keyed} {N:Nat} {c:Nat->Nat->Bool} {st:SortSt} {α β:List Nat}
theorem Sm.refl (a:SortSt):Sm a a:=⟨rfl,rfl,rfl,rfl⟩
theorem Sm.trans (x:Sm a b) (y:Sm b d):Sm a d:=⟨y.arr.trans x.arr,y.kind.trans x.kind,y.pend.trans x.pend,y.fine.trans x.fine⟩
structure Two (c:Nat->Nat->Bool) (N:Nat) (α β:List Nat):Prop where
 sa:α.Pairwise (Bf c)
 sb:β.Pairwise (Bf c)
 tag:∀g∈α,∀h∈β,g<h
 ba:∀g∈α,g<N
 bb:∀g∈β,g<N
 na:α≠[]
 nb:β≠[]
 first:∀x y,α[0]?=some x->β[0]?=some y->c y x=true
 last:∀x,α[α.length-1]?=some x->∀g∈β,c g x=true
theorem NJ (e:l[i]?=some g) (q:Q (f g) st):wpS (model prog w) A E s (elem' (ar f l) i) Q st:=by
 rw[elem'_eq,NF e];exact Ag q
theorem EO (C:Cm prog w A s k f N c) {l:List Nat} (hs:l.Pairwise (Bf c)) (t base n:Nat):Mo c false t base n l.toArray:=by
 intro i j g h p1 p2 p3 e1 e2 z;have e1':l[i]?=some g:=by simpa using e1
 have e2':l[j]?=some h:=by simpa using e2
 obtain⟨hi,rfl⟩:=Wb.mp e1';obtain⟨hj,rfl⟩:=Wb.mp e2';have b:=C.le (Wg.mp hs i j hi hj p2);simp only[bb,Ye,if_false,Bool.not_eq_true']at z ⊢;cases z2:c t l[i] with
 | false=>rfl
 | true =>
  rcases C.neg t l[j] l[i] z2 with q|q
  ·rw[z]at q;cases q
  ·rw[b]at q;cases q
theorem HB (C:Cm prog w A s k f N c) {l:List Nat} (hs:l.Pairwise (Bf c)) (t base n:Nat):Mo c true t base n l.toArray:=by
 intro i j g h p1 p2 p3 e1 e2 z;have e1':l[i]?=some g:=by simpa using e1
 have e2':l[j]?=some h:=by simpa using e2
 obtain⟨hi,rfl⟩:=Wb.mp e1';obtain⟨hj,rfl⟩:=Wb.mp e2';have b:=C.le (Wg.mp hs i j hi hj p2);simp only[bb,if_true]at z ⊢;rcases C.neg l[j] l[i] t z with q|q
 ·rw[b]at q;cases q
 ·exact q
theorem Lg (C:Cm prog w A s k f N c) (hk:kindOf st=k) {l:List Nat} (hs:l.Pairwise (Bf c)) (hb:∀g∈l,g<N) (ht:t<N) (hz:base+n<=l.length) (hh:hint<n)
  (q:∀m,m<=n->(∀i g,base<=i->i<base+m->l[i]?=some g->bb c left t g=true)->(∀i g,base+m<=i->i<base+n->l[i]?=some g->bb c left t g=false)->Q (some m) st) :
  wpS (model prog w) A E s ((sortPriv% PySem.Builtin.gallop) left (f t) (ar f l) base n hint) Q st:=by
 show wpS (model prog w) A E s (Pn left (f t) (ar f l) base n hint) Q st;have mo:Mo c left t base n l.toArray:=by
  cases left with
  | true=>exact HB C hs t base n
  | false=>exact EO C hs t base n
 refine EN C hk ht (δ:=l.toArray) (fun i g e=>hb g ?_) (by simpa using hz) hh mo fun m h1 h2 h3=>q m h1 (fun i g p1 p2 e=>h2 i g p1 p2 (by simpa using e)) fun i g p1 p2 e=>h3 i g p1 p2 (by simpa using e)
 exact Wa (by simpa using e)
theorem NK (q:∀st',Sm st st'->Q ⟨⟩ st'):wpS (model prog w) A E s ((sortPriv% PySem.Builtin.setMinGallop) g) Q st:=Bp (q _ ⟨rfl,rfl,rfl,rfl⟩)
theorem eT {M:Model} {σ γ:Type} {X Y:StateT σ Sem γ} {p:Prop} {d:Decidable p} {Q:γ->σ->Prop} {st:σ} (t:p->wpS M A E s X Q st) (e:¬ p->wpS M A E s Y Q st):wpS M A E s (@ite _ p d X Y) Q st:=by
 by_cases h:p
 ·exact eZ h (t h)
 ·exact dZ h (e h)
theorem b9 {M:Model} {σ γ:Type} {X Y:StateT σ Sem γ} {a b:Nat} {d:Decidable ((a == b)=true)} {Q:γ->σ->Prop} {st:σ} (t:a=b->wpS M A E s X Q st) (e:a≠b->wpS M A E s Y Q st):wpS M A E s (@ite _ ((a == b)=true) d X Y) Q st :=
 eT (fun h=>t (Ca h)) fun h=>e fun z=>h (z ▸ CQ _)
section
variable {γ:Type} {Q:γ->SortSt->Prop} {l:List Nat} {i:Nat} {K:Keyed->StateT SortSt Sem γ}
theorem EQ (e:l[i]?=some g) (q:wpS (model prog w) A E s (K (f g)) Q st):wpS (model prog w) A E s (elem' (ar f l) i >>= K) Q st:=Ak (NJ e q)
theorem Jb (h:i<l.length) (q:∀g,l[i]?=some g->wpS (model prog w) A E s (K (f g)) Q st):wpS (model prog w) A E s (elem' (ar f l) i >>= K) Q st:=EQ (Za h) (q _ (Za h))
theorem OB {g:Nat} {K:Unit->StateT SortSt Sem γ} (q:∀st',Sm st st'->wpS (model prog w) A E s (K ⟨⟩) Q st'):wpS (model prog w) A E s ((sortPriv% PySem.Builtin.setMinGallop) g >>= K) Q st:=Ak (NK q)
theorem glob (C:Cm prog w A s k f N c) (hk:kindOf st=k) (hs:l.Pairwise (Bf c)) (hb:∀g∈l,g<N) {left:Bool} {t base n hint:Nat} (ht:t<N) (hz:base+n<=l.length) (hh:hint<n) {K:Option Nat->StateT SortSt Sem γ}
  (q:∀m,m<=n->(∀i g,base<=i->i<base+m->l[i]?=some g->bb c left t g=true)->(∀i g,base+m<=i->i<base+n->l[i]?=some g->bb c left t g=false)->wpS (model prog w) A E s (K (some m)) Q st) :
  wpS (model prog w) A E s ((sortPriv% PySem.Builtin.gallop) left (f t) (ar f l) base n hint >>= K) Q st:=Ak (Lg C hk hs hb ht hz hh q)
end
theorem Ex4.of {r a b c d} (e:r=g a b c d) (h:p a b c d):Ex4 g p r:=e ▸ ⟨a,b,c,d,h⟩
theorem Lw.bv (C:Cm prog w A s k f N c) {o:Array Keyed} (L:Lw f c α β o i j) (hl:i<α.length) (hy:β[j]?=some y) (h:∀x,α[i]?=some x->c y x=true):Lw f c α β (o.push (f y)) i (j+1):=L.b C (Za hl) hy (h _ (Za hl))
theorem Lw.av (C:Cm prog w A s k f N c) {o:Array Keyed} (L:Lw f c α β o i j) (hl:j<β.length) (hx:α[i]?=some x) (h:∀y,β[j]?=some y->c y x=false):Lw f c α β (o.push (f x)) (i+1) j:=L.a C hx (Za hl) (h _ (Za hl))
theorem Lw.dq (L:Lw f c α β o i j) (h:j=(ar f β).size∨i=(ar f α).size):Rt f c α β (o++(ar f α).extract i (ar f α).size++(ar f β).extract j (ar f β).size):=L.dn (h.imp (·.trans (fI _)) (·.trans (fI _)))
theorem Lw.lq (C:Cm prog w A s k f N c) (T:Two c N α β) (L:Lw f c α β o i j) (h:i+1=(ar f α).size):Rt f c α β (o++(ar f β).extract j (ar f β).size++(ar f α).extract i (ar f α).size):=by
 rw[fI]at h;obtain⟨x,hx⟩:∃x,α[i]?=some x:=⟨_,Za (h ▸ Ql i)⟩;exact L.la C hx h (T.last x (by rw[← h];exact hx))
set_option maxHeartbeats 1000000 in
theorem Lh (C:Cm prog w A s k f N c) (hk:kindOf st=k) (T:Two c N α β) {Q:Array Keyed->SortSt->Prop} (q:∀o st',Sm st st'->Rt f c α β o->Q o st'):wpS (model prog w) A E s (Pv (ar f α) (ar f β)) Q st:=by
 have la:0<α.length:=Yj.mpr T.na;have lb:0<β.length:=Yj.mpr T.nb;obtain⟨x0,hx0⟩:∃x,α[0]?=some x:=⟨_,Za la⟩;obtain⟨y0,hy0⟩:∃y,β[0]?=some y:=⟨_,Za lb⟩;have M0:Mg c α β [] α β:=⟨List.Pairwise.nil,T.sa,T.sb,fun g hg=>by simp at hg,fun g hg=>by simp at hg,T.tag,List.Perm.refl _⟩
 have L0:Lw f c α β #[] 0 0:=⟨[],by simp[ar],by simpa using M0⟩
 have L1:Lw f c α β #[f y0] 0 1:=by have:=L0.b C hx0 hy0 (T.first _ _ hx0 hy0);simpa using this
 have za:(ar f α).size=α.length:=fI _;have zb:(ar f β).size=β.length:=fI _;refine Ak (B4 (AB ⟨rfl,EQ hy0 ?_⟩));refine b9 (fun h1=>Ag (q _ _ (Sm.refl _) (L1.dq (.inl h1)))) fun h1=>b9 (fun h2=>Ag (q _ _ (Sm.refl _) (L1.lq C T h2))) fun h2=>Ak (Bz ?_);refine NG (Sm st) (Rt f c α β) (fun o i j m=>(o,i,j,m)) (fun x o i j _=>Lw f c α β o i j/\i+1<α.length/\j<β.length/\x<i+j) (fun _ _ _ _=>False) ?step ?fin (Sm.refl _) ?init (fun o z st' sm R=>Ag (q _ _ sm R)) fun _ _ _ _ _ _ z=>z.elim
 case init=>exact⟨_,_,_,_,L1,by lia,by lia,Xa _⟩
 case fin =>
  rintro o i j m ⟨L,b1,b2,b3⟩;lia
 case step =>
  intro x o i j m st' sm hI;have hk':kindOf st'=k:=sm.kind.trans hk;dsimp (config:={ zeta:=false,zetaHave:=false }) only;refine NH (fun st2=>st2=st') (Rt f c α β) (fun o' i' j' a b=>(o',i',j',a,b)) (fun y o' i' j' _ _=>Lw f c α β o' i' j'/\i'+1<α.length/\j'<β.length/\i'+j'=i+j+y)
   (fun o' i' j' _ _=>Lw f c α β o' i' j'/\i'+1<α.length/\j'<β.length/\i+j<i'+j') ?step1 ?fin1 rfl ?init1 (fun o' z st2 e R=>Ag ⟨e ▸ sm,.inl ⟨o',_,R⟩⟩) ?post1
  case init1=>exact⟨_,_,_,_,_,hI.1,hI.2.1,hI.2.2.1,rfl⟩
  case fin1 =>
   rintro o' i' j' a b ⟨L',c1,c2,c3⟩;lia
  case step1 =>
   intro y o' i' j' a b st2 e hI;subst e;have L':=hI.1;have c1:=hI.2.1;have c2:=hI.2.2.1;have c3:=hI.2.2.2;dsimp (config:={ zeta:=false,zetaHave:=false }) only;refine Jb c2 fun yv hy=>Jb (AT c1) fun xv hx=>Ak (uu C hk' (T.bb _ (Wa hy)) (T.ba _ (Wa hx)) ?_);dsimp (config:={ zeta:=false,zetaHave:=false }) only;refine eT (fun hc=>?_) fun hc=>?_
   ·have L2:=L'.b C hx hy hc;refine EQ hy (b9 (fun e1=>Ag ⟨rfl,.inl ⟨_,_,L2.dq (.inl e1)⟩⟩) fun e1=>?_);have c2':j'+1<β.length:=BF c2 (zb ▸ e1);exact eT (fun _=>Ag ⟨rfl,.inr ⟨_,_,_,_,_,L2,c1,c2',by lia⟩⟩) fun _=>Ag ⟨rfl,_,_,_,_,_,L2,c1,c2',congrArg Nat.succ c3⟩
   ·have L2:=L'.a C hx hy (Bool.eq_false_iff.mpr hc);refine EQ hx (b9 (fun e1=>Ag ⟨rfl,.inl ⟨_,_,L2.lq C T e1⟩⟩) fun e1=>?_);have c1':i'+1+1<α.length:=BF c1 (za ▸ e1);exact eT (fun _=>Ag ⟨rfl,.inr ⟨_,_,_,_,_,L2,c1',c2,by lia⟩⟩) fun _=>Ag ⟨rfl,_,_,_,_,_,L2,c1',c2,by lia⟩
  case post1 =>
   intro o' i' j' a b st2 e hI';subst e;dsimp (config:={ zeta:=false,zetaHave:=false }) only;refine Ak (B4 (AB ⟨rfl,?_⟩));refine NI (Sm st) (Rt f c α β) (fun o2 i2 j2 m2 a2 b2=>(o2,i2,j2,m2,a2,b2)) (fun y o2 i2 j2 _ _ _=>Lw f c α β o2 i2 j2/\i2+1<α.length/\j2<β.length/\i'+j'+y<=i2+j2)
    (fun o2 i2 j2 _ _ _=>Lw f c α β o2 i2 j2/\i2+1<α.length/\j2<β.length/\i'+j'<=i2+j2) ?step2 ?fin2 sm ?init2 (fun o' z st2 sm R=>Ag ⟨sm,.inl ⟨o',_,R⟩⟩) ?post2
   case init2=>exact⟨_,_,_,_,_,_,hI'.1,hI'.2.1,hI'.2.2.1,Xa _⟩
   case fin2 =>
    rintro o2 i2 j2 m2 a2 b2 ⟨L2,d1,d2,d3⟩;lia
   case post2 =>
    intro o2 i2 j2 m2 a2 b2 st3 sm3 hI2;dsimp only;exact OB fun st4 sm4'=>Ag ⟨sm3.trans sm4',_,_,_,_,hI2.1,hI2.2.1,hI2.2.2.1,Xc (AI (hI.2.2.2) hI'.2.2.2) hI2.2.2.2⟩
   case step2 =>
    intro y o2 i2 j2 m2 a2 b2 st3 sm3 hI2;have L2:=hI2.1;have d1:=hI2.2.1;have d2:=hI2.2.2.1;have d3:=hI2.2.2.2;dsimp only;generalize m2-1=m1;revert m1;apply oW;intro m3;refine OB fun st4 sm4'=>Jb d2 fun yv hy=>?_;have sm4:Sm st st4:=sm3.trans sm4';have hk4:kindOf st4=k:=sm4.kind.trans hk;refine glob C hk4 T.sa T.ba (T.bb _ (Wa hy)) (left:=false) (base:=i2) (n:=(ar f α).size-i2) (hint:=0) (by lia) (by lia) fun u hu tr fs=>?_
    have L3:=L2.as C hy (u:=u) fun p g z1 z2 z3=>by simpa[bb]using tr p g z1 z2 z3
    dsimp only;apply nY (o:=o2) (i:=i2) (I:=fun o i=>Lw f c α β o i j2/\i=i2+u/\i+1<α.length)
    case g=>exact fun hu0=>⟨L2,by lia,d1⟩
    case h=>exact fun _ key=>b9 (fun e1=>Ag ⟨sm4,.inl ⟨_,_,L3.lq C T e1⟩⟩) fun e1=>b9 (fun e2=>Ag ⟨sm4,.inl ⟨_,_,L3.dq (.inr e2)⟩⟩) fun e2=>key _ _ ⟨L3,rfl,by lia⟩
    intro o i hJ;have L3:=hJ.1;have hi:=hJ.2.1;have hl:=AT hJ.2.2;have L4:=L3.bv C hl hy fun x hx=>by simpa[bb]using fs i x (by lia) (by lia) hx
    refine EQ hy ?_;generalize hj4:j2+1=j4 at L4 ⊢;generalize o.push (f yv)=o4 at L4 ⊢;refine b9 (fun e3=>Ag ⟨sm4,.inl ⟨_,_,L4.dq (.inl e3)⟩⟩) fun e3=>Jb hl fun xv hx=>?_;refine glob C hk4 T.sb T.bb (T.ba _ (Wa hx)) (left:=true) (base:=j4) (n:=(ar f β).size-j4) (hint:=0) (by lia) (by lia) fun v hv tr2 fs2=>?_
    have L5:=L4.bs C hx (u:=v) fun p g z1 z2 z3=>by simpa[bb]using tr2 p g z1 z2 z3
    dsimp only;apply nY (o:=o4) (i:=j4) (I:=fun o j=>Lw f c α β o i j/\j=j4+v/\j<β.length)
    case g=>exact fun hv0=>⟨L4,by lia,by lia⟩
    case h=>exact fun _ key=>b9 (fun e4=>Ag ⟨sm4,.inl ⟨_,_,L5.dq (.inl e4)⟩⟩) fun e4=>key _ _ ⟨L5,rfl,by lia⟩
    intro o5 j5 hJ5;have hj5:=hJ5.2.1;have hl5:=hJ5.2.2;have L6:=hJ5.1.av C hl5 hx fun y hy=>by simpa[bb]using fs2 j5 y (by lia) (by lia) hy
    refine EQ hx (b9 (fun e5=>Ag ⟨sm4,.inl ⟨_,_,L6.lq C T e5⟩⟩) fun e5=>?_);have w1:i+1+1<α.length:=BF hJ.2.2 (za ▸ e5);have w2:i'+j'+(y+1)<=i+1+j5:=by lia
    exact eT (fun _=>Ag ⟨sm4,.inr ⟨_,_,_,_,_,_,L6,w1,hl5,Qd (Qi _ _) w2⟩⟩) fun _=>Ag ⟨sm4,_,_,_,_,_,_,L6,w1,hl5,w2⟩
end
end TS
namespace TS
open PySem PyProof.Rows
structure Mh (c:Nat->Nat->Bool) (α β la lb ω:List Nat):Prop where
 so:ω.Pairwise (Bf c)
 sa:la.Pairwise (Bf c)
 sb:lb.Pairwise (Bf c)
 xa:∀g∈la,∀h∈ω,Bf c g h
 xb:∀g∈lb,∀h∈ω,Bf c g h
 tag:∀g∈la,∀h∈lb,g<h
 perm:(la++lb++ω).Perm (α++β)
section
variable {prog:Program} {w:World} {A:Around} {s:Shared} {k:SortKind} {f:Nat->Keyed} {N:Nat} {c:Nat->Nat->Bool} {α β ω la lb:List Nat} {x y:Nat}
theorem nZ {l:List Nat} (h:(l++[x]).Pairwise (Bf c)):l.Pairwise (Bf c)/\∀g∈l,Bf c g x:=by
 have:=Xi.mp h;exact⟨this.1,fun g hg=>this.2.2 g hg x (Vb.mpr rfl)⟩
theorem Mh.takeA (C:Cm prog w A s k f N c) (J:Mh c α β (la++[x]) (lb++[y]) ω) (h:c y x=true):Mh c α β la (lb++[y]) (x::ω):=by
 have sa:=nZ J.sa;have sb:=nZ J.sb;refine⟨Xg.mpr ⟨fun g hg=>J.xa x (by simp) g hg,J.so⟩,sa.1,J.sb,fun g hg z hz=>?_,fun g hg z hz=>?_,fun g hg z hz=>J.tag g (by simp[hg]) z hz,?_⟩
 ·rcases Xd.mp hz with rfl|hz
  ·exact sa.2 g hg
  ·exact J.xa g (by simp[hg]) z hz
 ·rcases Xd.mp hz with rfl|hz
  ·rcases Zd.mp hg with hg|hg
   ·exact C.trans (sb.2 g hg) (.inl h)
   ·rw[Vb.mp hg];exact .inl h
  ·exact J.xb g hg z hz
 ·refine List.Perm.trans ?_ J.perm;have p:(la++(lb++[y])++x::ω).Perm (x::(la++(lb++[y])++ω)):=Qk;have q:(la++[x]++(lb++[y])++ω).Perm (x::(la++(lb++[y])++ω)):=by
   rw[Xe la,Xe la];exact List.perm_middle.trans (by rw[Xe la];exact List.Perm.refl _)
  exact p.trans q.symm
theorem Mh.takeB (C:Cm prog w A s k f N c) (J:Mh c α β (la++[x]) (lb++[y]) ω) (h:c y x=false):Mh c α β (la++[x]) lb (y::ω):=by
 have sa:=nZ J.sa;have sb:=nZ J.sb;have xy:Bf c x y:=.inr ⟨h,J.tag x (by simp) y (by simp)⟩
 refine⟨Xg.mpr ⟨fun g hg=>J.xb y (by simp) g hg,J.so⟩,J.sa,sb.1,fun g hg z hz=>?_,fun g hg z hz=>?_,fun g hg z hz=>J.tag g hg z (by simp[hz]),?_⟩
 ·rcases Xd.mp hz with rfl|hz
  ·rcases Zd.mp hg with hg|hg
   ·exact C.trans (sa.2 g hg) xy
   ·rw[Vb.mp hg];exact xy
  ·exact J.xa g hg z hz
 ·rcases Xd.mp hz with rfl|hz
  ·exact sb.2 g hg
  ·exact J.xb g (by simp[hg]) z hz
 ·refine List.Perm.trans ?_ J.perm;have e:la++[x]++lb++y::ω=la++[x]++(lb++[y])++ω:=by simp
  rw[e]
theorem Mh.takeAs (C:Cm prog w A s k f N c):∀(n:Nat) (l:List Nat),l.length=n->∀{ω la:List Nat},Mh c α β (la++l) (lb++[y]) ω->(∀g∈l,c y g=true)->Mh c α β la (lb++[y]) (l++ω)
 | 0,l,hn,ω,la,J,_=>by
  obtain rfl:=Zf hn;simpa using J
 | n+1,l,hn,ω,la,J,h=>by
  rcases DK l with rfl|⟨l',x,rfl⟩
  ·simp at hn
  ·rw[DL]at J h hn ⊢;rw[← Xe]at J;have:=Mh.takeAs C n l' (by simpa using hn) (J.takeA C (h x (by simp))) fun g hg=>h g (by simp[hg])
   simpa using this
theorem Mh.takeBs (C:Cm prog w A s k f N c):∀(n:Nat) (l:List Nat),l.length=n->∀{ω lb:List Nat},Mh c α β (la++[x]) (lb++l) ω->(∀g∈l,c g x=false)->Mh c α β (la++[x]) lb (l++ω)
 | 0,l,hn,ω,lb,J,_=>by
  obtain rfl:=Zf hn;simpa using J
 | n+1,l,hn,ω,lb,J,h=>by
  rcases DK l with rfl|⟨l',y,rfl⟩
  ·simp at hn
  ·rw[DL]at J h hn ⊢;rw[← Xe]at J;have:=Mh.takeBs C n l' (by simpa using hn) (J.takeB C (h y (by simp))) fun g hg=>h g (by simp[hg])
   simpa using this
theorem Mh.doneA (J:Mh c α β la [] ω):Gd c α β (la++ω):=by
 refine⟨Xi.mpr ⟨J.sa,J.so,J.xa⟩,?_⟩;have:=J.perm;rwa [Qe]at this
theorem Mh.doneB (J:Mh c α β [] lb ω):Gd c α β (lb++ω):=⟨Xi.mpr ⟨J.sb,J.so,J.xb⟩,by have:=J.perm;rwa [Bb]at this⟩
theorem Mh.firstB (C:Cm prog w A s k f N c) (J:Mh c α β la [y] ω) (h:∀g∈la,c y g=true):Gd c α β ([y]++la++ω):=by
 have J':Mh c α β ([]++la) ([]++[y]) ω:=by simpa using J
 have:=(Mh.takeAs C la.length la rfl J' h).doneB;simpa using this
end
def Hw (f:Nat->Keyed) (c:Nat->Nat->Bool) (α β:List Nat) (o:Array Keyed) (i j:Nat):Prop:=∃ω,o=ar f ω.reverse/\Mh c α β (α.take i) (β.take j) ω
section
variable {prog:Program} {w:World} {A:Around} {E:Value->Shared->Prop} {s:Shared} {k:SortKind} {f:Nat->Keyed} {N:Nat} {c:Nat->Nat->Bool} {α β:List Nat} {o:Array Keyed} {i j x y:Nat} {st:SortSt}
theorem r6 (l:List Nat):(ar f l).reverse=ar f l.reverse:=by simp[ar]
theorem w9 (l:List Nat) (p:Nat):(ar f l).extract 0 p=ar f (l.take p):=by rw[kJ];simp
theorem oX {l:List Nat} (e:l[p]?=some g):l.take (p+1)=l.take p++[g]:=by rw[List.take_succ,e];rfl
theorem Hw.a (C:Cm prog w A s k f N c) (L:Hw f c α β o (i+1) (j+1)) (hx:α[i]?=some x) (hy:β[j]?=some y) (h:c y x=true):Hw f c α β (o.push (f x)) i (j+1):=by
 obtain⟨ω,rfl,J⟩:=L;refine⟨x::ω,by rw[nW,AU],?_⟩
 rw[oX hx]at J;rw[oX hy]at J ⊢;exact J.takeA C h
theorem Hw.b (C:Cm prog w A s k f N c) (L:Hw f c α β o (i+1) (j+1)) (hx:α[i]?=some x) (hy:β[j]?=some y) (h:c y x=false):Hw f c α β (o.push (f y)) (i+1) j:=by
 obtain⟨ω,rfl,J⟩:=L;refine⟨y::ω,by rw[nW,AU],?_⟩
 rw[oX hy]at J;rw[oX hx]at J ⊢;exact J.takeB C h
theorem ux {l:List Nat} (h:u<=i):l.take i=l.take u++(l.drop u).take (i-u):=by
 rw[List.take_drop,show u+(i - u)=i by lia]
 have:=Xh u (l.take i);rw[List.take_take,Qm h]at this;exact this.symm
theorem r9 {l:List Nat} (h:g∈(l.drop u).take n):∃p,u<=p/\p<u+n/\l[p]?=some g:=by
 obtain⟨p,hp⟩:=List.mem_iff_getElem?.mp h;rw[Bc]at hp;split at hp
 ·rw[Qf]at hp;exact⟨u+p,by lia,by lia,hp⟩
 ·cases hp
theorem Hw.as (C:Cm prog w A s k f N c) (L:Hw f c α β o i (j+1)) (hy:β[j]?=some y) (hu:u<=i) (h:∀p g,u<=p->p<i->α[p]?=some g->c y g=true):Hw f c α β (o++((ar f α).extract u i).reverse) u (j+1):=by
 obtain⟨ω,rfl,J⟩:=L;refine⟨(α.drop u).take (i-u)++ω,by rw[kJ,r6,fA,Bx],?_⟩
 rw[oX hy]at J ⊢;rw[ux hu]at J;exact Mh.takeAs C _ _ rfl J fun g hg=>by
  obtain⟨p,p1,p2,p3⟩:=r9 hg;exact h p g p1 (by lia) p3
theorem Hw.bs (C:Cm prog w A s k f N c) (L:Hw f c α β o (i+1) j) (hx:α[i]?=some x) (hu:u<=j) (h:∀p g,u<=p->p<j->β[p]?=some g->c g x=false):Hw f c α β (o++((ar f β).extract u j).reverse) (i+1) u:=by
 obtain⟨ω,rfl,J⟩:=L;refine⟨(β.drop u).take (j-u)++ω,by rw[kJ,r6,fA,Bx],?_⟩
 rw[oX hx]at J ⊢;rw[ux hu]at J;exact Mh.takeBs C _ _ rfl J fun g hg=>by
  obtain⟨p,p1,p2,p3⟩:=r9 hg;exact h p g p1 (by lia) p3
theorem Hw.dn (L:Hw f c α β o i j) (h:i=0∨j=0):Rt f c α β ((ar f α).extract 0 i++(ar f β).extract 0 j++o.reverse):=by
 obtain⟨ω,rfl,J⟩:=L;rw[w9,w9,r6,List.reverse_reverse,fA,fA];refine⟨_,rfl,?_⟩;rcases h with rfl|rfl
 ·rw[List.take_zero]at J ⊢;rw[Bb];exact J.doneB
 ·rw[List.take_zero]at J ⊢;rw[Qe];exact J.doneA
theorem Hw.fb (C:Cm prog w A s k f N c) (T:Two c N α β) (L:Hw f c α β o i 1):Rt f c α β ((ar f β).extract 0 1++(ar f α).extract 0 i++o.reverse):=by
 have lb:0<β.length:=Yj.mpr T.nb;have la:0<α.length:=Yj.mpr T.na;obtain⟨y0,hy0⟩:∃y,β[0]?=some y:=⟨_,Za lb⟩;obtain⟨x0,hx0⟩:∃x,α[0]?=some x:=⟨_,Za la⟩;have hc:=T.first _ _ hx0 hy0
 obtain⟨ω,rfl,J⟩:=L;rw[w9,w9,r6,List.reverse_reverse,fA,fA];refine⟨_,rfl,?_⟩;have e:β.take 1=[y0]:=by have:=oX hy0;simpa using this
 rw[e]at J ⊢;refine J.firstB C fun g hg=>?_;obtain⟨p,hp⟩:=List.mem_iff_getElem?.mp (List.mem_of_mem_take hg);by_cases h0:p=0
 ·subst h0;rw[hx0]at hp;cases hp;exact hc
 ·obtain⟨hp1,rfl⟩:=Wb.mp hp;obtain⟨hx1,rfl⟩:=Wb.mp hx0;have b:=C.le (Wg.mp T.sa 0 p hx1 hp1 (by lia))
  rcases C.neg y0 α[p] α[0] hc with q|q
  ·exact q
  ·rw[b]at q;cases q
end
end TS
namespace TS
open PySem PyProof.Rows
def Pw:Array Keyed->Array Keyed->StateT SortSt Sem (Array Keyed):=sortPriv% PySem.Builtin.mergeHi
section
variable {prog:Program} {w:World} {A:Around} {E:Value->Shared->Prop} {s:Shared} {k:SortKind} {f:Nat->Keyed} {N:Nat} {c:Nat->Nat->Bool} {st:SortSt} {α β:List Nat}
theorem Hw.fc (C:Cm prog w A s k f N c) (T:Two c N α β) {o:Array Keyed} (L:Hw f c α β o i j) (h:j=1):Rt f c α β ((ar f β).extract 0 j++(ar f α).extract 0 i++o.reverse):=by subst h;exact L.fb C T
theorem Hw.bu (C:Cm prog w A s k f N c) {o:Array Keyed} (L:Hw f c α β o i j) (h0:0<i) (h1:j=j'+1) (hy:β[j']?=some y) (hl:i-1<α.length) (h:∀x,α[i-1]?=some x->c y x=false):Hw f c α β (o.push (f y)) i j':=by
 subst h1;obtain⟨i,rfl⟩:=We (Wl h0);have e:α[i]?=some α[i]:=Za hl;exact L.b C e hy (h _ e)
theorem Hw.au (C:Cm prog w A s k f N c) {o:Array Keyed} (L:Hw f c α β o i j) (h0:0<i) (h1:0<j) (hx:α[i-1]?=some x) (hl:j-1<β.length) (h:∀y,β[j-1]?=some y->c y x=true):Hw f c α β (o.push (f x)) (i-1) j:=by
 obtain⟨i,rfl⟩:=We (Wl h0);obtain⟨j,rfl⟩:=We (Wl h1);have e:β[j]?=some β[j]:=Za hl;exact L.a C hx e (h _ e)
theorem Hw.bt (C:Cm prog w A s k f N c) (L:Hw f c α β o i j) (h0:0<i) (hx:α[i-1]?=some x) (hu:u<=j) (h:∀p g,u<=p->p<j->β[p]?=some g->c g x=false):Hw f c α β (o++((ar f β).extract u j).reverse) i u:=by
 obtain⟨i,rfl⟩:=We (Wl h0);exact L.bs C hx hu h
set_option maxHeartbeats 1000000 in
theorem Li (C:Cm prog w A s k f N c) (hk:kindOf st=k) (T:Two c N α β) (q:∀o st',Sm st st'->Rt f c α β o->Q o st'):wpS (model prog w) A E s (Pw (ar f α) (ar f β)) Q st:=by
 have la:0<α.length:=Yj.mpr T.na;have lb:0<β.length:=Yj.mpr T.nb;obtain⟨n,hn⟩:∃n,α.length=n+1:=We (Wl la);obtain⟨b,hb⟩:∃b,β.length=b+1:=We (Wl lb);obtain⟨xl,hxl⟩:∃x,α[n]?=some x:=⟨_,Za (hn ▸ Ql n)⟩;obtain⟨yl,hyl⟩:∃y,β[b]?=some y:=⟨_,Za (hb ▸ Ql b)⟩;have M0:Mh c α β α β []:=⟨List.Pairwise.nil,T.sa,T.sb,fun g hg h hh=>by simp at hh,fun g hg h hh=>by simp at hh,T.tag,by simp⟩
 have L0:Hw f c α β #[] (n+1) (b+1):=⟨[],by simp[ar],by rw[← hn,← hb,List.take_length,List.take_length];exact M0⟩
 have hcl:c yl xl=true:=T.last xl (by rw[hn];exact hxl) yl (Wa hyl)
 have sa:(ar f α).size-1=n:=by rw[fI,hn];rfl
 have sb:(ar f β).size=b+1:=by rw[fI,hb]
 have L1:Hw f c α β #[f xl] ((ar f α).size-1) (ar f β).size:=by rw[sa,sb];have:=L0.a C hxl hyl hcl;simpa using this
 refine Ak (B4 (AB ⟨rfl,EQ (by rw[sa];exact hxl) ?_⟩))
 refine b9 (fun h1=>Ag (q _ _ (Sm.refl _) (L1.dn (.inl h1)))) fun h1=>b9 (fun h2=>Ag (q _ _ (Sm.refl _) (L1.fc C T h2))) fun h2=>Ak (Bz ?_);have za:(ar f α).size=α.length:=fI _;refine NG (Sm st) (Rt f c α β) (fun o i j m=>(i+1,j+1+1,o,m)) (fun x o i j _=>Hw f c α β o (i+1) (j+1+1)/\i<α.length/\j+1<β.length/\x+i+j+3<α.length+β.length) (fun _ _ _ _=>False) ?step ?fin (Sm.refl _) ?init (fun o z st' sm R=>Ag (q _ _ sm R)) fun _ _ _ _ _ _ z=>z.elim
 case init =>
  rw[sa]at h1 L1;rw[sb]at h2 L1;obtain⟨n1,rfl⟩:=We h1;obtain⟨b1,rfl⟩:∃m,b=m+1:=We fun z=>h2 (by rw[z])
  exact Ex4.of (by rw[sa,sb]) ⟨L1,by lia,by lia,by lia⟩
 case fin =>
  rintro o i j m ⟨L,b1,b2,b3⟩;lia
 case step =>
  intro x o i j m st' sm hI;have hk':kindOf st'=k:=sm.kind.trans hk;dsimp (config:={ zeta:=false,zetaHave:=false }) only;refine NH (fun st2=>st2=st') (Rt f c α β) (fun o' i' j' a b=>(i'+1,j'+1+1,o',a,b)) (fun y o' i' j' _ _=>Hw f c α β o' (i'+1) (j'+1+1)/\i'<α.length/\j'+1<β.length/\y+i'+j'=i+j)
   (fun o' i' j' _ _=>Hw f c α β o' (i'+1) (j'+1+1)/\i'<α.length/\j'+1<β.length/\i'+j'<i+j) ?step1 ?fin1 rfl ?init1 (fun o' z st2 e R=>Ag ⟨e ▸ sm,.inl ⟨o',_,R⟩⟩) ?post1
  case init1=>exact⟨_,_,_,_,_,hI.1,hI.2.1,hI.2.2.1,Dx _ ▸ rfl⟩
  case fin1 =>
   rintro o' i' j' a b ⟨L',c1,c2,c3⟩;lia
  case step1 =>
   intro y o' i' j' a b st2 e hI;subst e;have L':=hI.1;have c1:=hI.2.1;have c2:=hI.2.2.1;have c3:=hI.2.2.2;dsimp (config:={ zeta:=false,zetaHave:=false }) only;refine Jb c2 fun yv hy=>Jb c1 fun xv hx=>Ak (uu C hk' (T.bb _ (Wa hy)) (T.ba _ (Wa hx)) ?_);dsimp (config:={ zeta:=false,zetaHave:=false }) only;refine eT (fun hc=>?_) fun hc=>?_
   ·have L2:=L'.a C hx hy hc;refine EQ hx (b9 (fun e1=>Ag ⟨rfl,.inl ⟨_,_,L2.dn (.inl e1)⟩⟩) fun e1=>?_);obtain⟨i1,rfl⟩:=We e1;have c1':i1<α.length:=AT c1;exact eT (fun _=>Ag ⟨rfl,.inr ⟨_,i1,j',_,_,L2,c1',c2,by lia⟩⟩) fun _=>Ag ⟨rfl,_,i1,j',_,_,L2,c1',c2,by lia⟩
   ·have L2:=L'.b C hx hy (Bool.eq_false_iff.mpr hc);refine EQ hy (b9 (fun e1=>Ag ⟨rfl,.inl ⟨_,_,L2.fc C T e1⟩⟩) fun e1=>?_);obtain⟨j1,rfl⟩:∃m,j'=m+1:=We fun z=>e1 (by rw[z])
    have c2':j1+1<β.length:=AT c2;exact eT (fun _=>Ag ⟨rfl,.inr ⟨_,i',j1,_,_,L2,c1,c2',by lia⟩⟩) fun _=>Ag ⟨rfl,_,i',j1,_,_,L2,c1,c2',by lia⟩
  case post1 =>
   intro o' i' j' a b st2 e hI';subst e;dsimp (config:={ zeta:=false,zetaHave:=false }) only;refine Ak (B4 (AB ⟨rfl,?_⟩));refine NI (Sm st) (Rt f c α β) (fun o2 i2 j2 m2 a2 b2=>(i2,j2,o2,m2,a2,b2)) (fun y o2 i2 j2 _ _ _=>Hw f c α β o2 i2 j2/\0<i2/\i2<=α.length/\1<j2/\j2<=β.length/\i2+j2+y<=i'+1+(j'+1+1))
    (fun o2 i2 j2 _ _ _=>Hw f c α β o2 i2 j2/\0<i2/\i2<=α.length/\1<j2/\j2<=β.length/\i2+j2<=i'+1+(j'+1+1)) ?step2 ?fin2 sm ?init2 (fun o' z st2 sm R=>Ag ⟨sm,.inl ⟨o',_,R⟩⟩) ?post2
   case init2=>exact⟨_,_,_,_,_,_,hI'.1,Zh _,hI'.2.1,Nat.succ_lt_succ (Zh _),hI'.2.2.1,Xa _⟩
   case fin2 =>
    rintro o2 i2 j2 m2 a2 b2 ⟨L2,d1,d2,d3,d4,d5⟩;have:=hI'.2.1;have:=hI'.2.2.1;lia
   case post2 =>
    intro o2 i2 j2 m2 a2 b2 st3 sm3 hI2;dsimp only;refine OB fun st4 sm4'=>Ag ⟨sm3.trans sm4',?_⟩;obtain⟨L2,d1,d2,d3,d4,d5⟩:=hI2;obtain⟨i3,rfl⟩:=We (Wl d1);obtain⟨j3,rfl⟩:∃m,j2=m+1+1:=⟨j2-2,by lia⟩
    have:=hI.2.2.2;have:=hI'.2.2.2;exact⟨_,i3,j3,_,L2,d2,d4,by lia⟩
   case step2 =>
    intro y o2 i2 j2 m2 a2 b2 st3 sm3 hI2;have L2:=hI2.1;have d1:=hI2.2.1;have d2:=hI2.2.2.1;have d3:=hI2.2.2.2.1;have d4:=hI2.2.2.2.2.1;have d5:=hI2.2.2.2.2.2;dsimp only;generalize hj3:j2-1=j3;have ej:j2=j3+1:=by lia
    have hjl:j3<β.length:=by lia
    generalize m2-1=m1;revert m1;apply oW;intro m3;refine OB fun st4 sm4'=>Jb hjl fun yv hy=>?_;have sm4:Sm st st4:=sm3.trans sm4';have hk4:kindOf st4=k:=sm4.kind.trans hk;refine glob C hk4 T.sa T.ba (T.bb _ (Wa hy)) (left:=false) (by lia) (CG d1) fun u hu tr fs=>?_
    have L3:=(ej ▸ L2:Hw f c α β o2 i2 (j3+1)).as C hy hu fun p g z1 z2 z3=>by simpa[bb]using fs p g (by lia) (by lia) z3
    rw[← ej]at L3;dsimp only;generalize hk1:i2-u=k1;apply nY (o:=o2) (i:=i2) (I:=fun o i=>Hw f c α β o i j2/\i=u/\0<i)
    case g=>exact fun hu0=>⟨L2,by lia,d1⟩
    case h=>exact fun _ key=>b9 (fun e1=>Ag ⟨sm4,.inl ⟨_,_,L3.dn (.inl e1)⟩⟩) fun e1=>key _ u ⟨L3,rfl,BE e1⟩
    rintro o i ⟨L3,hi,hl⟩;have hj0:0<j3:=by lia
    have hi2:i-1<i:=CG hl;have hiu:i<=i2:=hi ▸ hu;have hia:i-1<α.length:=Xc hi2 (Qd hiu d2);have L4:=L3.bu C hl ej hy hia fun x hx=>by simpa[bb]using tr _ x (Yg _) (by lia) hx
    refine EQ hy ?_;generalize o.push (f yv)=o4 at L4 ⊢;refine b9 (fun e3=>Ag ⟨sm4,.inl ⟨_,_,L4.fc C T e3⟩⟩) fun e3=>Jb hia fun xv hx=>?_;refine glob C hk4 T.sb T.bb (T.ba _ (Wa hx)) (left:=true) (base:=0) (n:=j3) (by lia) (CG hj0) fun v hv tr2 fs2=>?_
    have L5:=L4.bt C hl hx hv fun p g z1 z2 z3=>by simpa[bb]using fs2 p g (by lia) (by lia) z3
    dsimp only;generalize hk2:j3-v=k2;apply nY (o:=o4) (i:=j3) (I:=fun o j=>Hw f c α β o i j/\j=v/\1<j)
    case g=>exact fun hv0=>⟨L4,by lia,by lia⟩
    case h=>exact fun _ key=>b9 (fun e4=>Ag ⟨sm4,.inl ⟨_,_,L5.fc C T e4⟩⟩) fun e4=>b9 (fun e7=>Ag ⟨sm4,.inl ⟨_,_,L5.dn (.inr e7)⟩⟩) fun e7=>key _ v ⟨L5,rfl,by lia⟩
    rintro o5 j5 ⟨L5,hj5,hl5⟩;have hj7:0<j5:=AT hl5;have hj6:j5-1<β.length:=by lia
    have L6:=L5.au C hl hj7 hx hj6 fun y hy=>by simpa[bb]using tr2 _ y (Yg _) (by lia) hy
    refine EQ hx (b9 (fun e5=>Ag ⟨sm4,.inl ⟨_,_,L6.dn (.inl e5)⟩⟩) fun e5=>?_);have w1:=BE e5;have w3:j5<=β.length:=by lia
    have w2:i-1+j5+(y+1)<=i'+1+(j'+1+1):=by lia
    exact eT (fun _=>Ag ⟨sm4,.inr ⟨_,_,_,_,_,_,L6,w1,Xl hia,hl5,w3,Qd (Qi _ _) w2⟩⟩) fun _=>Ag ⟨sm4,_,_,_,_,_,_,L6,w1,Xl hia,hl5,w3,w2⟩
end
end TS
namespace TS
open PySem PyProof.Rows
theorem uz (sa:Nat):∀(ms:List α) (j:Nat) (x:Array α),sa+j+ms.length<=x.size ->
  ((ms.zipIdx j).foldl (fun a (p:α×Nat)=>a.setIfInBounds (sa+p.2) p.1) x).toList=x.toList.take (sa+j)++ms++x.toList.drop (sa+j+ms.length)
 | [],j,x,_=>by simp
 | m::ms,j,x,h=>by
  rw[Vd]at h;rw[CV,C6,uz sa ms (j+1) _ (by rw[Array.size_setIfInBounds];lia)]
  have hl:sa+j<x.toList.length:=by rw[Wc];lia
  have e:(x.setIfInBounds (sa+j) m).toList=x.toList.set (sa+j) m:=by simp
  have e1:(x.toList.set (sa+j) m).take (sa+(j+1))=x.toList.take (sa+j)++[m]:=by
   rw[show sa+(j+1)=sa+j+1 by lia,List.take_succ,List.take_set_of_le (Xa _),BW hl];rfl
  have e2:(x.toList.set (sa+j) m).drop (sa+(j+1)+ms.length)=x.toList.drop (sa+j+(ms.length+1)):=by
   rw[List.drop_set_of_lt (by lia),show sa+(j+1)+ms.length=sa+j+(ms.length+1) by lia]
  rw[e,e1,e2,Vd];simp
def pc (γ:Array Nat) (lo n:Nat):List Nat:=(γ.toList.drop lo).take n
section
variable {prog:Program} {w:World} {A:Around} {E:Value->Shared->Prop} {s:Shared} {k:SortKind} {f:Nat->Keyed} {N:Nat} {c:Nat->Nat->Bool} {st:SortSt} {γ:Array Nat}
theorem kK {lo n:Nat} (h:lo+n<=γ.size):(pc γ lo n).length=n:=by
 unfold pc;rw[Vl,Xk,Wc];lia
theorem xf {lo n i:Nat} (h:i<n):(pc γ lo n)[i]?=γ[lo+i]?:=by
 unfold pc;rw[Bc,Ae h,Qf];simp
theorem oY (lo:Nat) (n m:Nat):pc γ lo (n+m)=pc γ lo n++pc γ (lo+n) m:=by
 unfold pc;rw[List.take_add,BH]
theorem xg {lo n:Nat} (sg:Sg c γ lo (lo+n)):(pc γ lo n).Pairwise (Bf c):=by
 rw[Wg];intro i j hi hj hij;have li:i<n:=by have:=List.length_take_le n (γ.toList.drop lo);unfold pc at hi;lia
 have lj:j<n:=by have:=List.length_take_le n (γ.toList.drop lo);unfold pc at hj;lia
 exact sg (lo+i) (lo+j) _ _ (by lia) (by lia) (by lia) (by rw[← xf li];exact Za hi) (by rw[← xf lj];exact Za hj)
theorem f6 {lo n g:Nat} (h:g∈pc γ lo n):∃i,lo<=i/\i<lo+n/\γ[i]?=some g:=by
 obtain⟨p,h1,h2,h3⟩:=r9 h;exact⟨p,h1,h2,by simpa using h3⟩
theorem Jc (lo n:Nat):(γ.map f).extract lo (lo+n)=ar f (pc γ lo n):=by
 have e:γ.map f=ar f γ.toList:=by simp[ar]
 rw[e,kJ,show lo+n - lo=n by lia];rfl
theorem NL (C:Cm prog w A s k f N c) {lo n:Nat} (sg:Sg c γ lo (lo+n)) (left:Bool) (t:Nat):Mo c left t lo n γ:=by
 intro i j g h p1 p2 p3 e1 e2 z;have b:=C.le (sg i j g h p1 p2 p3 e1 e2);cases left with
 | false =>
  simp only[bb,Ye,if_false,Bool.not_eq_true']at z ⊢;cases z2:c t g with
  | false=>rfl
  | true =>
   rcases C.neg t h g z2 with q|q
   ·rw[z]at q;cases q
   ·rw[b]at q;cases q
 | true =>
  simp only[bb,if_true]at z ⊢;rcases C.neg h g t z with q|q
  ·rw[b]at q;cases q
  ·exact q
theorem whole {lo n:Nat} (h:lo+n<=γ.size):γ.toList=γ.toList.take lo++pc γ lo n++γ.toList.drop (lo+n):=by
 unfold pc;rw[← BH,Xe,Xh,Xh]
theorem y8 {lo n:Nat} (h:lo+n<=γ.size) {X:List Nat} (p:X.Perm (pc γ lo n)) {γ':Array Nat} (e:γ'.toList=γ.toList.take lo++X++γ.toList.drop (lo+n)) :
  γ'.Perm γ/\Out γ γ' lo (lo+n)/\(∀i,i<n->γ'[lo+i]?=X[i]?):=by
 have hX:X.length=n:=by rw[p.length_eq,kK h]
 have hlo:(γ.toList.take lo).length=lo:=by rw[Vl,Wc];lia
 have hg:∀i:Nat,γ'[i]?=γ'.toList[i]?:=fun i=>Wh.symm;have hg2:∀i:Nat,γ[i]?=γ.toList[i]?:=fun i=>Wh.symm;refine⟨?_,fun i hi=>?_,fun i hi=>?_⟩
 ·rw[Zg,e]
  conv=>rhs;rw[whole h]
  exact(p.append_left _).append_right _
 ·rw[hg,hg2,e];rcases hi with hi|hi
  ·rw[Xe,Yi (by lia),Bc,Ae hi]
  ·rw[Wf (by rw[Qb];lia),Qb,hlo,hX,Qf]
   congr 1;lia
 ·rw[hg,e,Xe,Wf (by lia),hlo,Yi (by lia)]
  congr 1;lia
theorem Lj {lo n:Nat} {X:List Nat} {γ':Array Nat} (hX:X.length=n) (at':∀i,i<n->γ'[lo+i]?=X[i]?) (pw:X.Pairwise (Bf c)):Sg c γ' lo (lo+n):=by
 intro i j g h p1 p2 p3 e1 e2;have e1':X[i - lo]?=some g:=by rw[← at' (i - lo) (by lia),show lo+(i - lo)=i by lia];exact e1
 have e2':X[j - lo]?=some h:=by rw[← at' (j - lo) (by lia),show lo+(j - lo)=j by lia];exact e2
 obtain⟨hi,rfl⟩:=Wb.mp e1';obtain⟨hj,rfl⟩:=Wb.mp e2';exact Wg.mp pw _ _ hi hj (by lia)
theorem Lk {lo n:Nat} {X:List Nat} {γ':Array Nat} (at':∀i,i<n->γ'[lo+i]?=X[i]?) (ow:∀g∈X,lo<=g/\g<lo+n):Ow γ' lo (lo+n):=by
 intro i g p1 p2 e;refine ow g (Wa (i:=i-lo) ?_);rw[← at' (i - lo) (by lia),show lo+(i - lo)=i by lia];exact e
end
end TS
namespace TS
open PySem PyProof.Rows
def Px:Nat->StateT SortSt Sem Bool:=sortPriv% PySem.Builtin.mergeAt
section
variable {prog:Program} {w:World} {A:Around} {E:Value->Shared->Prop} {s:Shared} {k:SortKind} {f:Nat->Keyed} {N:Nat} {c:Nat->Nat->Bool} {st:SortSt} {γ:Array Nat}
theorem HD {σ:Type} {st' st0:σ} {Q:PUnit->σ->Prop} (h:Q ⟨⟩ st'):wpS (model prog w) A E s (set st':StateT σ Sem PUnit) Q st0:=by
 unfold wpS;rw[StateT.run_set];exact Ab ⟨rfl,h⟩
theorem ES (e:γ[i]?=some g) (q:Q (f g) st):wpS (model prog w) A E s (elem' (γ.map f) i) Q st:=by
 rw[elem'_eq,Be,e];exact Ag q
theorem ET (C:Cm prog w A s k f N c) (hk:kindOf st=k) (ht:t<N) (hb:∀(i g:Nat),γ[i]?=some g->g<N) (hs:base+n<=γ.size) (hh:hint<n) (sg:Sg c γ base (base+n))
  (q:∀m,m<=n->Tr c left t base γ m->Fs c left t base n γ m->Q (some m) st) :
  wpS (model prog w) A E s ((sortPriv% PySem.Builtin.gallop) left (f t) (γ.map f) base n hint) Q st:=EN C hk ht hb hs hh (NL C sg left t) q
structure Mtd (k:SortKind) (f:Nat->Keyed) (N:Nat) (c:Nat->Nat->Bool) (γ:Array Nat) (lo n:Nat) (st':SortSt) (γ':Array Nat):Prop where
 rp:Rp k f N st' γ'
 sg:Sg c γ' lo (lo+n)
 ow:Ow γ' lo (lo+n)
 out:Out γ γ' lo (lo+n)
theorem Ll (C:Cm prog w A s k f N c) (R:Rp k f N st γ) {i sa na p1 nb p2:Nat} (e1:(pendingOf st)[i]?=some (sa,na,p1)) (e2:(pendingOf st)[i+1]?=some (sa+na,nb,p2)) (ha:1<=na) (hb:1<=nb) (hN:sa+na+nb<=N)
  (ga:Sg c γ sa (sa+na)) (oa:Ow γ sa (sa+na)) (gb:Sg c γ (sa+na) (sa+na+nb)) (ob:Ow γ (sa+na) (sa+na+nb))
  {Q:Bool->SortSt->Prop} (q:∀st' γ',Mtd k f N c γ sa (na+nb) st' γ'->pendingOf st'=((pendingOf st).setIfInBounds i (sa,na+nb,p1)).eraseIdxIfInBounds (i+1)->Q true st') :
  wpS (model prog w) A E s (Px i) Q st:=by
 have hsz:=R.size;have bnd:∀(i g:Nat),γ[i]?=some g->g<N:=fun i g e=>R.bnd e;obtain⟨t,ht⟩:=jg (γ:=γ) (i:=sa+na) (by lia)
 obtain⟨x,hx⟩:=jg (γ:=γ) (i:=sa+na-1) (by lia)
 have tN:=bnd _ _ ht;have xN:=bnd _ _ hx;have tagab:∀i j g h,sa<=i->i<sa+na->sa+na<=j->j<sa+na+nb->γ[i]?=some g->γ[j]?=some h->g<h:=fun i j g h a1 a2 a3 a4 z1 z2=>by
  have:=oa i g a1 a2 z1;have:=ob j h a3 a4 z2;lia
 have tb:∀j h,sa+na<=j->j<sa+na+nb->γ[j]?=some h->c h t=false:=fun j h a3 a4 z=>by
  by_cases hj:j=sa+na
  ·subst hj;rw[ht]at z;cases z;exact C.irr _
  ·exact C.le (gb (sa+na) j t h (Xa _) (by lia) a4 ht z)
 have ax:∀i g,sa<=i->i<sa+na->γ[i]?=some g->c x g=false:=fun i g a1 a2 z=>by
  by_cases hi:i=sa+na-1
  ·subst hi;rw[hx]at z;cases z;exact C.irr _
  ·exact C.le (ga i (sa+na-1) g x a1 (by lia) (by lia) z hx)
 have idle:(∀i j g h,sa<=i->i<sa+na->sa+na<=j->j<sa+na+nb->γ[i]?=some g->γ[j]?=some h->c h g=false)->∀st1,arrOf st1=arrOf st->kindOf st1=kindOf st->failedOf st1=failedOf st->Mtd k f N c γ sa (na+nb) st1 γ:=fun hc st1 a1 k1 f1=>by
  refine⟨⟨a1.trans R.arr,k1.trans R.kind,f1.trans R.fine,R.perm⟩,fun i j g h z1 z2 z3 z4 z5=>?_,fun i g z1 z2 z3=>?_,Out.refl _ _ _⟩
  ·by_cases hi:i<sa+na
   ·by_cases hj:j<sa+na
    ·exact ga i j g h z1 z2 hj z4 z5
    ·exact .inr ⟨hc i j g h z1 hi (by lia) (by lia) z4 z5,tagab i j g h z1 hi (by lia) (by lia) z4 z5⟩
   ·exact gb i j g h (by lia) z2 (by lia) z4 z5
  ·by_cases hi:i<sa+na
   ·have:=oa i g z1 hi z3;lia
   ·have:=ob i g (by lia) (by lia) z3;lia
 have ra:(sortPriv% PySem.Builtin.SortState.a) st=γ.map f:=R.arr;refine Ak (Bz ?_);dsimp only;rw[e1,e2];dsimp only;refine Ak (Ar (Q:=fun _ st1=>arrOf st1=arrOf st/\kindOf st1=kindOf st/\failedOf st1=failedOf st/\pendingOf st1=((pendingOf st).setIfInBounds i (sa,na+nb,p1)).eraseIdxIfInBounds (i+1)) (HD ⟨rfl,rfl,rfl,rfl⟩) ?_);rintro _ st1 ⟨a1,k1,f1,pd1⟩;have hk1:kindOf st1=k:=k1.trans R.kind;rw[ra];refine Ak (ES ht ?_);refine Ak (ET C hk1 tN bnd (left:=false) (base:=sa) (n:=na) (hint:=0) (by lia) (by lia) ga fun u hu tr fs=>?_)
 dsimp only;have tr':∀i g,sa<=i->i<sa+u->γ[i]?=some g->c t g=false:=fun i g z1 z2 z3=>by simpa[bb]using tr i g z1 z2 z3
 have fs':∀i g,sa+u<=i->i<sa+na->γ[i]?=some g->c t g=true:=fun i g z1 z2 z3=>by simpa[bb]using fs i g z1 z2 z3
 by_cases e3:(na-u == 0)=true
 ·refine eZ e3 ?_;have e3':na-u=0:=Ca e3;refine Ag (q st1 γ (idle (fun i j g h z1 z2 z3 z4 z5 z6=>?_) st1 a1 k1 f1) pd1);exact C.letr (tr' i g z1 (by lia) z5) (tb j h z3 z4 z6)
 refine dZ e3 ?_;have e3':na-u≠0:=fun z=>e3 (by rw[z];rfl)
 have eu:sa+u+(na-u)=sa+na:=by rw[Ba,Wn hu]
 rw[eu];refine Ak (ES hx ?_);refine Ak (ET C hk1 xN bnd (left:=true) (base:=sa+na) (n:=nb) (hint:=nb-1) (by lia) (by lia) gb fun v hv tr2 fs2=>?_)
 dsimp only;have tr2':∀i g,sa+na<=i->i<sa+na+v->γ[i]?=some g->c g x=true:=fun i g z1 z2 z3=>by simpa[bb]using tr2 i g z1 z2 z3
 have fs2':∀i g,sa+na+v<=i->i<sa+na+nb->γ[i]?=some g->c g x=false:=fun i g z1 z2 z3=>by simpa[bb]using fs2 i g z1 z2 z3
 by_cases e4:(v == 0)=true
 ·refine eZ e4 ?_;have e4':v=0:=Ca e4;refine Ag (q st1 γ (idle (fun i j g h z1 z2 z3 z4 z5 z6=>?_) st1 a1 k1 f1) pd1);exact C.letr (ax i g z1 z2 z5) (fs2' j h (by lia) z4 z6)
 refine dZ e4 ?_;have e4':v≠0:=fun z=>e4 (by rw[z];rfl)
 have ex:(γ.map f).extract (sa+u) (sa+na)=ar f (pc γ (sa+u) (na-u)):=by
  have:=Jc (γ:=γ) (f:=f) (sa+u) (na-u);rwa [eu]at this
 have ey:(γ.map f).extract (sa+na) (sa+na+v)=ar f (pc γ (sa+na) v):=Jc _ _;rw[ex,ey];have T:Two c N (pc γ (sa+u) (na-u)) (pc γ (sa+na) v):=by
  refine⟨xg fun i j g h z1 z2 z3=>ga i j g h (by lia) z2 (by lia),xg fun i j g h z1 z2 z3=>gb i j g h z1 z2 (by lia),fun g hg h hh=>?_,fun g hg=>?_,fun g hg=>?_,fun z=>?_,fun z=>?_,fun x' y' z1 z2=>?_,fun x' z1 g hg=>?_⟩
  ·obtain⟨i,y1,y2,y3⟩:=f6 hg;obtain⟨j,y4,y5,y6⟩:=f6 hh;exact tagab i j g h (by lia) (by lia) y4 (by lia) y3 y6
  ·obtain⟨i,y1,y2,y3⟩:=f6 hg;exact bnd i g y3
  ·obtain⟨i,y1,y2,y3⟩:=f6 hg;exact bnd i g y3
  ·have:=kK (γ:=γ) (lo:=sa+u) (n:=na-u) (by lia)
   rw[z]at this;simp at this;lia
  ·have:=kK (γ:=γ) (lo:=sa+na) (n:=v) (by lia)
   rw[z]at this;simp at this;lia
  ·rw[xf (by lia)]at z1 z2
   rw[Nat.add_zero]at z1 z2;rw[ht]at z2;cases z2;exact fs' (sa+u) x' (Xa _) (by lia) z1
  ·rw[kK (by lia),xf (Nat.sub_lt (BE e3') Nat.one_pos),show sa+u+(na - u - 1)=sa+na - 1 by rw[← Nat.add_sub_assoc (BE e3'),eu],hx]at z1
   cases z1;obtain⟨i,y1,y2,y3⟩:=f6 hg;exact tr2' i g y1 y2 y3
 have fin:∀(o:Array Keyed) (st2:SortSt),Sm st1 st2->Rt f c (pc γ (sa+u) (na-u)) (pc γ (sa+na) v) o->∀st3:SortSt,arrOf st3=o.toList.zipIdx.foldl (fun a (p:Keyed×Nat)=>a.setIfInBounds (sa+u+p.2) p.1) (arrOf st2)->kindOf st3=kindOf st2->pendingOf st3=pendingOf st2->failedOf st3=failedOf st2 ->
   ∃γ',Mtd k f N c γ sa (na+nb) st3 γ':=fun o st2 sm2 rt st3 a3 k3 _ f3=>by
  obtain⟨l,rfl,gd⟩:=rt;have hl:l.length=na-u+v:=by rw[gd.2.length_eq,Qb,kK (by lia),kK (by lia)]
  have sp:pc γ sa (na+nb)=pc γ sa u++(pc γ (sa+u) (na-u)++pc γ (sa+na) v)++pc γ (sa+na+v) (nb-v):=by
   have h1:na+nb=u+((na-u)+(v+(nb-v))):=by rw[Wn hv,← Ba,Wn hu]
   rw[h1,oY,oY (sa+u),oY (sa+u+(na - u)),eu];simp
  have pX:(pc γ sa u++l++pc γ (sa+na+v) (nb-v)).Perm (pc γ sa (na+nb)):=by
   rw[sp];exact(gd.2.append_left _).append_right _
  have hX:(pc γ sa u++l++pc γ (sa+na+v) (nb-v)).length=na+nb:=by rw[pX.length_eq,kK (by lia)]
  let γ':Array Nat:=(γ.toList.take sa++(pc γ sa u++l++pc γ (sa+na+v) (nb-v))++γ.toList.drop (sa+(na+nb))).toArray
  have eγ:γ'.toList=γ.toList.take sa++(pc γ sa u++l++pc γ (sa+na+v) (nb-v))++γ.toList.drop (sa+(na+nb)):=rfl;obtain⟨n1,n2,n3⟩:=y8 (γ:=γ) (lo:=sa) (n:=na+nb) (by lia) pX eγ
  have pw:(pc γ sa u++l++pc γ (sa+na+v) (nb-v)).Pairwise (Bf c):=by
   have inl:∀h∈l,(∃i,sa+u<=i/\i<sa+na/\γ[i]?=some h)∨∃j,sa+na<=j/\j<sa+na+v/\γ[j]?=some h:=fun h hh=>by
    rcases Zd.mp (gd.2.mem_iff.mp hh) with hh|hh
    ·obtain⟨i,y1,y2,y3⟩:=f6 hh;exact .inl ⟨i,y1,by lia,y3⟩
    ·obtain⟨i,y1,y2,y3⟩:=f6 hh;exact .inr ⟨i,y1,y2,y3⟩
   rw[Xi,Xi];refine⟨⟨xg fun i j g h z1 z2 z3=>ga i j g h z1 z2 (by lia),gd.1,fun g hg h hh=>?_⟩,xg fun i j g h z1 z2 z3=>gb i j g h (by lia) z2 (by lia),fun g hg h hh=>?_⟩
   ·obtain⟨i,y1,y2,y3⟩:=f6 hg;rcases inl h hh with⟨j,y4,y5,y6⟩|⟨j,y4,y5,y6⟩
    ·exact ga i j g h y1 (by lia) y5 y3 y6
    ·exact .inr ⟨C.letr (tr' i g y1 y2 y3) (tb j h y4 (by lia) y6),tagab i j g h y1 (by lia) y4 (by lia) y3 y6⟩
   ·obtain⟨j,y4,y5,y6⟩:=f6 hh;rcases Zd.mp hg with hg|hg
    ·obtain⟨i,y1,y2,y3⟩:=f6 hg;exact .inr ⟨C.letr (ax i g y1 (by lia) y3) (fs2' j h y4 (by lia) y6),tagab i j g h y1 (by lia) (by lia) (by lia) y3 y6⟩
    ·rcases inl g hg with⟨i,y1,y2,y3⟩|⟨i,y1,y2,y3⟩
     ·exact .inr ⟨C.letr (ax i g (by lia) y2 y3) (fs2' j h y4 (by lia) y6),tagab i j g h (by lia) y2 (by lia) (by lia) y3 y6⟩
     ·exact gb i j g h y1 (by lia) (by lia) y3 y6
  refine⟨γ',⟨?_,(k3.trans sm2.kind).trans hk1,(f3.trans sm2.fine).trans (f1.trans R.fine),n1.trans R.perm⟩,Lj hX n3 pw,Lk n3 fun g hg=>?_,n2⟩
  ·have nF:arrOf st2=γ.map f:=(sm2.arr.trans a1).trans R.arr;rw[a3,nF];apply Array.toList_inj.mp;have:=uz (sa+u) (ar f l).toList 0 (γ.map f) (by rw[B9,hsz];simp[ar,hl];lia)
   rw[Nat.add_zero]at this;rw[this];have el:(ar f l).toList=l.map f:=by simp[ar]
   rw[el,Ya,hl,Array.toList_map,Array.toList_map,eγ];rw[← Do,← Dq,← Yd,← Yd];congr 1;have t1:γ.toList.take (sa+u)=γ.toList.take sa++pc γ sa u:=by
    unfold pc;rw[List.take_add]
   have t2:γ.toList.drop (sa+u+(na-u+v))=pc γ (sa+na+v) (nb-v)++γ.toList.drop (sa+(na+nb)):=by
    unfold pc;have h:=Xh (nb-v) (γ.toList.drop (sa+na+v));rw[BH,show sa+na+v+(nb - v)=sa+(na+nb) by rw[Ba,Wn hv,Ba]]at h
    rw[show sa+u+(na - u+v)=sa+na+v by rw[← Ba,eu],h]
   rw[t1,t2];simp
  ·have hg':=pX.mem_iff.mp hg;obtain⟨i,y1,y2,y3⟩:=f6 hg';by_cases hi:i<sa+na
   ·have:=oa i g y1 hi y3;lia
   ·have:=ob i g (by lia) (by lia) y3;lia
 by_cases e5:na-u<=v
 ·refine eZ e5 ?_;refine Ak (Lh C hk1 T fun o st2 sm2 rt=>?_);refine Ak (Ar (Q:=fun _ st3=>arrOf st3=o.toList.zipIdx.foldl (fun a (p:Keyed×Nat)=>a.setIfInBounds (sa+u+p.2) p.1) (arrOf st2)/\kindOf st3=kindOf st2/\pendingOf st3=pendingOf st2/\failedOf st3=failedOf st2) (Bp ⟨rfl,rfl,rfl,rfl⟩) ?_);rintro _ st3 ⟨a3,k3,p3,f3⟩;obtain⟨γ',M⟩:=fin o st2 sm2 rt st3 a3 k3 p3 f3;refine Ak (Bz ?_);have hf:failedOf st3=none:=M.rp.fine;have:=q st3 γ' M (p3.trans (sm2.pend.trans pd1));refine Ag ?_;rw[show((sortPriv% PySem.Builtin.SortState.failed) st3).isNone=true by rw[show(sortPriv% PySem.Builtin.SortState.failed) st3=none from hf];rfl]
  exact this
 ·refine dZ e5 ?_;refine Ak (Li C hk1 T fun o st2 sm2 rt=>?_);refine Ak (Ar (Q:=fun _ st3=>arrOf st3=o.toList.zipIdx.foldl (fun a (p:Keyed×Nat)=>a.setIfInBounds (sa+u+p.2) p.1) (arrOf st2)/\kindOf st3=kindOf st2/\pendingOf st3=pendingOf st2/\failedOf st3=failedOf st2) (Bp ⟨rfl,rfl,rfl,rfl⟩) ?_);rintro _ st3 ⟨a3,k3,p3,f3⟩;obtain⟨γ',M⟩:=fin o st2 sm2 rt st3 a3 k3 p3 f3;refine Ak (Bz ?_);have hf:failedOf st3=none:=M.rp.fine;have:=q st3 γ' M (p3.trans (sm2.pend.trans pd1));refine Ag ?_;rw[show((sortPriv% PySem.Builtin.SortState.failed) st3).isNone=true by rw[show(sortPriv% PySem.Builtin.SortState.failed) st3=none from hf];rfl]
  exact this
end
end TS
namespace TS
open PySem PyProof.Rows
def OW:StateT SortSt Sem Unit:=sortPriv% PySem.Builtin.sortRuns
abbrev Run:=Nat×Nat×Nat
def Cv (c:Nat->Nat->Bool) (γ:Array Nat):Nat->List Run->Nat->Prop
 | a,[],b=>a=b
 | a,r::l,b=>r.1=a/\1<=r.2.1/\Sg c γ a (a+r.2.1)/\Ow γ a (a+r.2.1)/\Cv c γ (a+r.2.1) l b
section
variable {prog:Program} {w:World} {A:Around} {E:Value->Shared->Prop} {s:Shared} {k:SortKind} {f:Nat->Keyed} {N:Nat} {c:Nat->Nat->Bool} {st:SortSt} {γ γ':Array Nat}
theorem Cv.le:∀{l:List Run} {a b:Nat},Cv c γ a l b->a+l.length<=b
 | [],a,b,h=>by cases h;simp
 | r::l,a,b,h=>by
  have:=Cv.le h.2.2.2.2;have:=h.2.1;rw[Vd];lia
theorem Cv.congr:∀{l:List Run} {a b:Nat},Cv c γ a l b->(∀i,a<=i->i<b->γ'[i]?=γ[i]?)->Cv c γ' a l b
 | [],a,b,h,_=>h
 | r::l,a,b,⟨h1,h2,h3,h4,h5⟩,e=>by
  have hb:=Cv.le h5;refine⟨h1,h2,fun i j g h z1 z2 z3 z4 z5=>h3 i j g h z1 z2 z3 (by rw[← e i z1 (by lia)];exact z4) (by rw[← e j (by lia) (by lia)];exact z5),fun i g z1 z2 z3=>h4 i g z1 z2 (by rw[← e i z1 (by lia)];exact z3),Cv.congr h5 fun i z1 z2=>e i (by lia) z2⟩
theorem Cv.app:∀{l m:List Run} {a b:Nat},Cv c γ a (l++m) b↔∃d,Cv c γ a l d/\Cv c γ d m b
 | [],m,a,b=>⟨fun h=>⟨a,rfl,h⟩,fun⟨d,h1,h2⟩=>by cases h1;exact h2⟩
 | r::l,m,a,b=>by
  constructor
  ·rintro⟨h1,h2,h3,h4,h5⟩;obtain⟨d,h6,h7⟩:=Cv.app.mp h5;exact⟨d,⟨h1,h2,h3,h4,h6⟩,h7⟩
  ·rintro⟨d,⟨h1,h2,h3,h4,h6⟩,h7⟩;exact⟨h1,h2,h3,h4,Cv.app.mpr ⟨d,h6,h7⟩⟩
structure Sr (k:SortKind) (f:Nat->Keyed) (N:Nat) (c:Nat->Nat->Bool) (lo:Nat) (δ:Array Nat) (st:SortSt) (γ:Array Nat):Prop where
 rp:Rp k f N st γ
 cv:Cv c γ 0 (pendingOf st).toList lo
 tl:∀i,lo<=i->γ[i]?=δ[i]?
 le:lo<=N
theorem Lm {l:List Run} (h:i+1<l.length):∃l1 r1 r2 l2,l=l1++r1::r2::l2/\l1.length=i:=by
 refine⟨l.take i,l[i],l[i+1],l.drop (i+2),?_,by rw[Vl];lia⟩
 have h1:=Xh i l;rw[Zl (by lia:i<l.length),Zl (by lia:i+1<l.length)]at h1
 exact h1.symm
theorem y9 (l1 l2:List Run) (r1 r2 r:Run):((l1++r1::r2::l2).set l1.length r).eraseIdx (l1.length+1)=l1++r::l2:=by
 rw[List.set_append_right _ _ (Xa _),CF,List.set_cons_zero,List.eraseIdx_append_of_length_le (by lia)]
 congr 1;rw[show l1.length+1 - l1.length=1 by lia];rfl
theorem uA (C:Cm prog w A s k f N c) {lo i:Nat} {δ:Array Nat} (S:Sr k f N c lo δ st γ) (hi:i+1<(pendingOf st).size) {Q:Bool->SortSt->Prop}
  (q:∀st' γ',Sr k f N c lo δ st' γ'->(pendingOf st').size+1=(pendingOf st).size->Q true st'):wpS (model prog w) A E s ((sortPriv% PySem.Builtin.mergeAt) i) Q st:=by
 obtain⟨l1,⟨sa,na,p1⟩,⟨sb,nb,p2⟩,l2,hl,hl1⟩:=Lm (l:=(pendingOf st).toList) (i:=i) (by rw[Wc];exact hi)
 have cv:=S.cv;rw[hl]at cv;obtain⟨d,c1,c2⟩:=Cv.app.mp cv;obtain⟨h1,h2,h3,h4,h5,h6,h7,h8,h9⟩:=c2;dsimp only at h1 h2 h3 h4 h5 h6 h7 h8 h9;subst h1 h5;have hle:=Cv.le h9;have hN:=S.le;have e1:(pendingOf st)[i]?=some (sa,na,p1):=by rw[← Wh,hl,← hl1,Wf (Xa _),CF];rfl
 have e2:(pendingOf st)[i+1]?=some (sa+na,nb,p2):=by rw[← Wh,hl,← hl1,Wf (by lia),show l1.length+1 - l1.length=1 by lia];rfl
 refine Ll C S.rp e1 e2 h2 h6 (by lia) h3 h4 h7 h8 fun st' γ' M pd=>?_
 have out:∀i,i<sa∨sa+(na+nb)<=i->γ'[i]?=γ[i]?:=M.out;have hp:(pendingOf st').toList=l1++(sa,na+nb,p1)::l2:=by
  rw[pd,Array.toList_eraseIdxIfInBounds,Array.toList_setIfInBounds,hl,← hl1,y9]
 refine q st' γ' ⟨M.rp,?_,fun i z1=>?_,S.le⟩ ?_
 ·rw[hp];refine Cv.app.mpr ⟨sa,c1.congr fun i z1 z2=>out i (.inl z2),rfl,by show 1<=na+nb;lia,M.sg,M.ow,?_⟩
  show Cv c γ' (sa+(na+nb)) l2 lo;rw[← Ba];exact h9.congr fun i z1 z2=>out i (.inr (by lia))
 ·rw[out i (.inr (by lia))];exact S.tl i z1
 ·have a1:(pendingOf st').size=(l1++(sa,na+nb,p1)::l2).length:=by rw[← hp,Wc]
  have a2:(pendingOf st).size=(l1++(sa,na,p1)::(sa+na,nb,p2)::l2).length:=by rw[← hl,Wc]
  rw[a1,a2];simp only[Qb,Vd];lia
theorem Cv.modify (hg:∀r,(g r).1=r.1/\(g r).2.1=r.2.1):∀{l:List Run} {i a b:Nat},Cv c γ a l b->Cv c γ a (l.modify i g) b
 | [],i,a,b,h=>by simpa using h
 | r::l,0,a,b,⟨h1,h2,h3,h4,h5⟩=>by
  rw[List.modify_zero_cons];have:=hg r;exact⟨this.1.trans h1,by rw[this.2];exact h2,by rw[this.2];exact h3,by rw[this.2];exact h4,by rw[this.2];exact h5⟩
 | r::l,i+1,a,b,⟨h1,h2,h3,h4,h5⟩=>by
  rw[List.modify_succ_cons];exact⟨h1,h2,h3,h4,Cv.modify hg h5⟩
theorem Ln (C:Cm prog w A s k f N c) (R:Rp k f N st γ) {lo n ok:Nat} (hn:lo+n<=N) (h1:1<=ok) (hok:ok<=n) (sg:Sg c γ lo (lo+ok)) (ow:Ow γ lo (lo+ok)) (raw:Raw γ (lo+ok) N)
  {Q:Bool->SortSt->Prop} (q:∀(x:Array Keyed) (γ':Array Nat),Rp k f N (setArr st x) γ'->Sg c γ' lo (lo+n)->Ow γ' lo (lo+n)->Raw γ' (lo+n) N->Out γ γ' lo (lo+n)->Q true (setArr st x)) :
  wpS (model prog w) A E s ((sortPriv% PySem.Builtin.binarySort) lo n ok) Q st:=HA C R hn h1 hok sg ow raw q
theorem Lo (C:Cm prog w A s k f N c) (R:Rp k f N st γ) {lo:Nat} (hl:lo<N) (raw:Raw γ lo N)
  {Q:Option Nat->SortSt->Prop} (q:∀n st',1<=n->lo+n<=N->Rn k f N c lo st γ n st'->Q (some n) st'):wpS (model prog w) A E s ((sortPriv% PySem.Builtin.countRun) lo (N-lo)) Q st:=Lf C R hl raw q
theorem EU {M:Model} {σ γ:Type} {X:StateT σ Sem γ} {B:Nat->StateT σ Sem γ} {p:Prop} {d:Decidable p} {n:Nat} {Q:γ->σ->Prop} {st:σ} (I:Nat->σ->Prop)
  (h:p->(∀n st,I n st->wpS M A E s (B n) Q st)->wpS M A E s X Q st) (g:¬ p->I n st) (hB:∀n st,I n st->wpS M A E s (B n) Q st):wpS M A E s (@ite _ p d X (B n)) Q st:=eT (fun z=>h z hB) fun z=>hB _ _ (g z)
theorem xh (C:Cm prog w A s k f N c) (R:Rp k f N st γ) (hp:pendingOf st=#[]) (raw:Raw γ 0 N) {Q:Unit->SortSt->Prop} (q:∀st' γ',Rp k f N st' γ'->Sg c γ' 0 N->Q ⟨⟩ st'):wpS (model prog w) A E s OW Q st:=by
 have hsz:((sortPriv% PySem.Builtin.SortState.a) st).size=N:=by
  have:=congrArg Array.size R.arr;rw[B9,R.size]at this;exact this
 refine Ak (Bz ?_);dsimp only;rw[hsz];refine Ak (Ar (At (I:=fun x r st'=>∃lo,r=(none,lo)/\x<=lo/\∃γ',Sr k f N c lo γ' st' γ'/\Raw γ' lo N) (Q:=fun r st'=>r=(none,N)/\∃γ',Sr k f N c N γ' st' γ') ?step ?fin ?init) ?post)
 case init=>exact⟨0,rfl,Xa _,γ,⟨R,by rw[hp];rfl,fun _ _=>rfl,Yg _⟩,raw⟩
 case fin =>
  rintro r st' ⟨lo,rfl,hx,γ',S,rw'⟩;have:=S.le;obtain rfl:lo=N:=by lia
  exact⟨rfl,γ',S⟩
 case step =>
  rintro x r st' _ hxN ⟨lo,rfl,hx,γ',S,raw'⟩;dsimp only;by_cases hl:lo ≥ N
  ·refine eZ hl ?_;have:=S.le;obtain rfl:lo=N:=by lia
   exact Ag ⟨rfl,γ',S⟩
  refine dZ hl ?_;refine Ak (Lo C S.rp (by lia) raw' fun n st1 hn1 hn2 rn=>?_)
  dsimp only;apply EU (n:=n) (I:=fun n st1=>∃γ1,Rp k f N st1 γ1/\pendingOf st1=pendingOf st'/\1<=n/\lo+n<=N/\Sg c γ1 lo (lo+n)/\Ow γ1 lo (lo+n)/\Raw γ1 (lo+n) N/\Out γ' γ1 lo (lo+n))
  case g =>
   obtain⟨xa,γ1,hst1,R1,sg1,ow1,raw1,out1⟩:=rn;exact fun _=>⟨γ1,R1,by rw[hst1],hn1,hn2,sg1,ow1,raw1,out1⟩
  case h =>
   intro hm key;obtain⟨xa,γ1,hst1,R1,sg1,ow1,raw1,out1⟩:=rn;refine Ak (B4 (AB ⟨rfl,?_⟩));generalize hm2:min (N-lo) ((sortPriv% PySem.Builtin.minRun) N N 0)=n2;have hn3:n<=n2:=by rw[← hm2];lia
   have hn4:lo+n2<=N:=by rw[← hm2];lia
   exact Ak (Ln C R1 hn4 hn1 hn3 sg1 ow1 raw1 fun xb γ2b R2 sg2 ow2 raw2 out2=>dZ (by decide) (key n2 _ ⟨γ2b,R2,by rw[hst1],Qd hn1 hn3,hn4,sg2,ow2,raw2,fun i hi=>(out2 i hi).trans (out1 i (by lia))⟩))
  clear rn hn1 hn2;intro n st1 hJ;obtain⟨γ1,hJ⟩:=hJ;have R1:=hJ.1;have pd1:=hJ.2.1;have hn1:=hJ.2.2.1;have hn2:=hJ.2.2.2.1;have sg1:=hJ.2.2.2.2.1;have ow1:=hJ.2.2.2.2.2.1;have raw1:=hJ.2.2.2.2.2.2.1;have out1:=hJ.2.2.2.2.2.2.2;refine Ak (Bz ?_);have cv1:Cv c γ1 0 (pendingOf st1).toList lo:=by rw[pd1];exact S.cv.congr fun i _ z2=>out1 i (.inl z2)
  have S1:Sr k f N c lo γ1 st1 γ1:=⟨R1,cv1,fun _ _=>rfl,S.le⟩;have push:∀(st2:SortSt) (γ2:Array Nat),Sr k f N c lo γ1 st2 γ2->∀st3:SortSt,arrOf st3=arrOf st2->kindOf st3=kindOf st2->failedOf st3=failedOf st2->pendingOf st3=(pendingOf st2).push (lo,n,0)->∃γ',Sr k f N c (lo+n) γ' st3 γ'/\Raw γ' (lo+n) N:=fun st2 γ2 S2 st3 a3 k3 f3 p3=>by
   refine⟨γ2,⟨⟨a3.trans S2.rp.arr,k3.trans S2.rp.kind,f3.trans S2.rp.fine,S2.rp.perm⟩,?_,fun _ _=>rfl,hn2⟩,fun i z1 z2=>?_⟩
   ·rw[p3,Array.toList_push];refine Cv.app.mpr ⟨lo,S2.cv,rfl,hn1,fun i j g h z1 z2 z3 z4 z5=>?_,fun i g z1 z2 z3=>?_,rfl⟩
    ·exact sg1 i j g h z1 z2 z3 (by rw[← S2.tl i z1];exact z4) (by rw[← S2.tl j (by lia)];exact z5)
    ·exact ow1 i g z1 z2 (by rw[← S2.tl i z1];exact z3)
   ·rw[S2.tl i (by lia)];exact raw1 i z1 z2
  split
  ·rename_i s1 n1 sd hback
   refine Ak (Ar (At (I:=fun _ r st2=>r=(none,())/\∃γ2,Sr k f N c lo γ1 st2 γ2) (Q:=fun r st2=>r=(none,())/\∃γ2,Sr k f N c lo γ1 st2 γ2) ?step2 ?fin2 ?init2) ?post2)
   case init2=>exact⟨rfl,γ1,S1⟩
   case fin2=>exact fun r st2 h=>h
   case step2 =>
    rintro y r st2 _ _ ⟨rfl,γ2,S2⟩;refine Ak (Bz ?_);split
    ·rename_i o1 o2 older hold
     have hsz2:(pendingOf st2).size > 1:=by
      by_cases hz:(pendingOf st2).size > 1
      ·exact hz
      ·rw[Ai hz]at hold;cases hold
     by_cases ho:older<=(sortPriv% PySem.Builtin.power) N (2*s1+n1) (2*s1+n1+n1+n) N
     ·refine eZ ho ?_;exact Ag ⟨rfl,γ2,S2⟩
     ·refine dZ ho ?_;refine Ak (uA C S2 (i:=(pendingOf st2).size-2) (by lia) fun st3 γ3 S3 _=>?_)
      exact Ag ⟨rfl,γ3,S3⟩
    ·exact Ag ⟨rfl,γ2,S2⟩
   case post2 =>
    rintro r st2 ⟨rfl,γ2,S2⟩;dsimp only;refine Ak (Ar (Q:=fun _ st3=>∃γ3,Sr k f N c lo γ1 st3 γ3) (Bp ⟨γ2,⟨S2.rp.arr,S2.rp.kind,S2.rp.fine,S2.rp.perm⟩,?_,S2.tl,S2.le⟩) ?_)
    ·show Cv c γ2 0 ((pendingOf st2).modify ((pendingOf st2).size-1) _).toList lo;rw[Array.toList_modify];refine Cv.modify (g:=fun x=>(x.1,x.2.1,_)) (fun r=>?_) S2.cv;exact⟨rfl,rfl⟩
    rintro _ st3 ⟨γ3,S3⟩;refine Ak (Ar (Q:=fun _ st4=>∃γ',Sr k f N c (lo+n) γ' st4 γ'/\Raw γ' (lo+n) N) (Bp (push st3 γ3 S3 _ rfl rfl rfl rfl)) ?_);rintro _ st4 ⟨γ4,S4,raw4⟩;exact Ag ⟨_,rfl,by lia,γ4,S4,raw4⟩
  ·refine Ak (Ar (Q:=fun _ st4=>∃γ',Sr k f N c (lo+n) γ' st4 γ'/\Raw γ' (lo+n) N) (Bp (push st1 γ1 S1 _ rfl rfl rfl rfl)) ?_);rintro _ st4 ⟨γ4,S4,raw4⟩;exact Ag ⟨_,rfl,by lia,γ4,S4,raw4⟩
 case post =>
  rintro r st' ⟨rfl,γ',S⟩;dsimp only;refine Ak (Ar (At (I:=fun x r st2=>r=(none,())/\∃γ2,Sr k f N c N γ' st2 γ2/\(pendingOf st2).size+x<=N) (Q:=fun r st2=>r=(none,())/\∃γ2,Sr k f N c N γ' st2 γ2/\(pendingOf st2).size<=1) ?step3 ?fin3 ?init3) ?post3)
  case init3 =>
   refine⟨rfl,γ',S,?_⟩;have:=S.cv.le;rw[Wc]at this;lia
  case fin3 =>
   rintro r st2 ⟨rfl,γ2,S2,hz⟩;exact⟨rfl,γ2,S2,by lia⟩
  case step3 =>
   rintro y r st2 _ _ ⟨rfl,γ2,S2,hz⟩;refine Ak (Bz ?_);by_cases h1:((sortPriv% PySem.Builtin.SortState.pending) st2).size<=1
   ·refine eZ h1 ?_;exact Ag ⟨rfl,γ2,S2,h1⟩
   refine dZ h1 ?_;have h1':¬ (pendingOf st2).size<=1:=h1;refine Ak (uA C S2 ?_ fun st3 γ3 S3 hs3=>Ag ⟨rfl,γ3,S3,by lia⟩)
   have pick:∀(p:Prop) [Decidable p],(if p then(pendingOf st2).size-2-1 else(pendingOf st2).size-2)+1<(pendingOf st2).size:=fun p _=>by
    split<;>lia
   exact pick _
  case post3 =>
   rintro r st2 ⟨rfl,γ2,S2,hz⟩;dsimp only;refine Ag (q st2 γ2 S2.rp ?_);have cv:=S2.cv;rw[← Wc]at hz;generalize (pendingOf st2).toList=l at cv hz;cases l with
   | nil =>
    have:0=N:=cv;subst this;exact fun i j g h z1 z2 z3=>by lia
   | cons r l =>
    cases l with
    | cons _ _=>simp at hz
    | nil =>
     obtain⟨h1,h2,h3,h4,h5⟩:=cv;have e:0+r.2.1=N:=h5;rw[e]at h3;exact h3
end
end TS
namespace VF
open PySem L2
open Classical in
noncomputable def mv (lt:D->D->Bool):List D->List D->Bool
 | [],[]=>false
 | [],_::_=>true
 | _::_,[]=>false
 | x::xs,y::ys=>if x=y then mv lt xs ys else lt x y
noncomputable def ltN:Nat->D->D->Bool
 | 0,_,_=>false
 | _+1,.int i,.int j=>decide (i<j)
 | _+1,.str x,.str y=>decide (x.cps.toList<y.cps.toList)
 | n+1,.tup xs,.tup ys=>mv (ltN n) xs ys
 | _+1,_,_=>false
def Cp:Nat->D->D->Prop
 | 0,_,_=>False
 | _+1,.int _,.int _=>True
 | _+1,.str _,.str _=>True
 | n+1,.tup xs,.tup ys=>∀(i:Nat) x y,xs[i]?=some x->ys[i]?=some y->Cp n x y
 | _+1,_,_=>False
theorem xi:∀(xs:List D),mv lt xs xs=false
 | []=>rfl
 | x::xs=>by
  unfold mv;rw[Ae rfl];exact xi xs
theorem n4:∀(n:Nat) (a:D),ltN n a a=false
 | 0,_=>rfl
 | n+1,a=>by
  cases a with
  | int i=>exact Ad (Int.lt_irrefl i)
  | str x=>exact Ad (List.lt_irrefl _)
  | tup xs=>exact xi xs
  | _=>rfl
structure Or (n:Nat):Prop where
 tri:∀{a b:D},Cp n a b->a=b∨ltN n a b=true∨ltN n b a=true
 tra:∀{a b c:D},Cp n a b->Cp n b c->Cp n a c->ltN n a b=true->ltN n b c=true->ltN n a c=true
abbrev Cl (n:Nat) (xs ys:List D):Prop:=∀(i:Nat) x y,xs[i]?=some x->ys[i]?=some y->Cp n x y
theorem Cl.tail (h:Cl n (x::xs) (y::ys)):Cl n xs ys:=fun i a b e1 e2=>h (i+1) a b (by simpa using e1) (by simpa using e2)
theorem Cl.head (h:Cl n (x::xs) (y::ys)):Cp n x y:=h 0 x y rfl rfl
open Classical in
theorem bZ:mv lt (x::xs) (x::ys)=mv lt xs ys:=by
 show(if x=x then mv lt xs ys else lt x x)=_;rw[Ae rfl]
open Classical in
theorem bp (h:x≠y):mv lt (x::xs) (y::ys)=lt x y:=by
 show(if x=y then mv lt xs ys else lt x y)=_;rw[Ai h]
theorem xj (O:Or n):∀{xs ys:List D},Cl n xs ys->xs=ys∨mv (ltN n) xs ys=true∨mv (ltN n) ys xs=true
 | [],[],_=>.inl rfl
 | [],_::_,_=>.inr (.inl rfl)
 | _::_,[],_=>.inr (.inr rfl)
 | x::xs,y::ys,h=>by
  by_cases e:x=y
  ·subst e;rw[bZ,bZ];rcases xj O h.tail with q|q
   ·exact .inl (by rw[q])
   ·exact .inr q
  ·rw[bp e,bp (AA e)];rcases O.tri h.head with q|q
   ·exact absurd q e
   ·exact .inr q
theorem xk (O:Or n):∀{xs ys zs:List D},Cl n xs ys->Cl n ys zs->Cl n xs zs->mv (ltN n) xs ys=true->mv (ltN n) ys zs=true->mv (ltN n) xs zs=true
 | [],[],[],_,_,_,h1,_=>h1
 | [],_::_,[],_,_,_,_,h2=>h2
 | [],_,_::_,_,_,_,_,_=>rfl
 | _::_,[],_,_,_,_,h1,_=>by cases h1
 | _::_,_::_,[],_,_,_,_,h2=>by cases h2
 | x::xs,y::ys,z::zs,c1,c2,c3,h1,h2=>by
  by_cases e1:x=y
  ·subst e1;rw[bZ]at h1;by_cases e2:x=z
   ·subst e2;rw[bZ]at h2 ⊢;exact xk O c1.tail c2.tail c3.tail h1 h2
   ·rw[bp e2]at h2 ⊢;exact h2
  ·rw[bp e1]at h1;by_cases e2:y=z
   ·subst e2;rw[bp e1];exact h1
   ·rw[bp e2]at h2;have h3:=O.tra c1.head c2.head c3.head h1 h2;have e3:x≠z:=fun e=>by subst e;rw[n4]at h3;cases h3
    rw[bp e3];exact h3
theorem kL:∀n,Or n
 | 0=>⟨fun h=>h.elim,fun h=>h.elim⟩
 | n+1=>by
  have O:=kL n;refine⟨fun {a b} h=>?_,fun {a b c} h1 h2 h3 l1 l2=>?_⟩
  ·cases a with
   | int i =>
    cases b with
    | int j =>
     rcases Int.lt_trichotomy i j with q|q|q
     ·exact .inr (.inl (Af q))
     ·exact .inl (by rw[q])
     ·exact .inr (.inr (Af q))
    | _=>exact h.elim
   | str x =>
    cases b with
    | str y =>
     by_cases q:x.cps.toList<y.cps.toList
     ·exact .inr (.inl (Af q))
     ·by_cases q':y.cps.toList<x.cps.toList
      ·exact .inr (.inr (Af q'))
      ·refine .inl ?_;have:=uk (a:=x) (b:=y) q' q;rw[this]
    | _=>exact h.elim
   | tup xs =>
    cases b with
    | tup ys =>
     rcases xj O h with q|q
     ·exact .inl (by rw[q])
     ·exact .inr q
    | _=>exact h.elim
   | _=>exact h.elim
  ·cases a with
   | int i =>
    cases b with
    | int j =>
     cases c with
     | int k =>
      have q1:=Al l1;have q2:=Al l2;exact Af (Int.lt_trans q1 q2)
     | _=>exact h2.elim
    | _=>exact h1.elim
   | str x =>
    cases b with
    | str y =>
     cases c with
     | str z =>
      have q1:=Al l1;have q2:=Al l2;exact Af (List.lt_trans q1 q2)
     | _=>exact h2.elim
    | _=>exact h1.elim
   | tup xs =>
    cases b with
    | tup ys =>
     cases c with
     | tup zs=>exact xk O h1 h2 h3 l1 l2
     | _=>exact h2.elim
    | _=>exact h1.elim
   | _=>exact h1.elim
theorem xn (h:∀a b,lt a b=true->lt b a=false):∀(xs ys:List D),mv lt xs ys=true->mv lt ys xs=false
 | [],[],l=>by cases l
 | [],_::_,_=>rfl
 | _::_,[],l=>by cases l
 | x::xs,y::ys,l=>by
  by_cases e:x=y
  ·subst e;rw[bZ]at l ⊢;exact xn h xs ys l
  ·rw[bp e]at l;rw[bp (AA e)];exact h x y l
theorem se:∀(n:Nat) (a b:D),ltN n a b=true->ltN n b a=false
 | 0,_,_,l=>by cases l
 | n+1,a,b,l=>by
  cases a with
  | int i =>
   cases b with
   | int j =>
    have q:=Al l;exact Ad (by lia)
   | _=>cases l
  | str x =>
   cases b with
   | str y =>
    have q:=Al l;exact Ad (List.lt_asymm q)
   | _=>cases l
  | tup xs =>
   cases b with
   | tup ys=>exact xn (se n) xs ys l
   | _=>cases l
  | _=>cases l
def GA (n:Nat) (es:List D):Prop:=es.Pairwise fun a b=>ltN n b a=false
open Classical in
noncomputable def dQ (n:Nat) (ds:List D):List D:=if h:∃es:List D,es.Perm ds/\GA n es then h.choose else ds
theorem kM (n:Nat) (ds:List D):(dQ n ds).Perm ds:=by
 unfold dQ;split
 ·rename_i h;exact h.choose_spec.1
 ·exact List.Perm.refl _
def CA (n:Nat) (ds:List D):Prop:=∀a∈ds,∀b∈ds,Cp n a b
theorem CA.neg (h:CA n ds) (ha:a∈ds) (hb:b∈ds) (hc:c∈ds) (l:ltN n a c=true):ltN n a b=true∨ltN n b c=true:=by
 rcases(kL n).tri (h a ha b hb) with q|q|q
 ·subst q;exact .inr l
 ·exact .inl q
 ·exact .inr ((kL n).tra (h b hb a ha) (h a ha c hc) (h b hb c hc) q l)
theorem eJ {ds es:List D} (h:CA n ds) (p:es.Perm ds) (s:GA n es):es=dQ n ds:=by
 have ex:∃es:List D,es.Perm ds/\GA n es:=⟨es,p,s⟩;have e:dQ n ds=ex.choose:=by unfold dQ;rw[dif_pos ex]
 obtain⟨p2,s2⟩:=ex.choose_spec;rw[e];refine(p.trans p2.symm).eq_of_pairwise (fun a b ha hb h1 h2=>?_) s s2;rcases(kL n).tri (h a (p.mem_iff.mp ha) b (p2.mem_iff.mp hb)) with q|q|q
 ·exact q
 ·rw[h2]at q;cases q
 ·rw[h1]at q;cases q
end VF
namespace VF
open PySem L2 PySem.SeqAt
open PySem.AutoSeq1 (wpAny_loadPart')
open PySem.MeetsSeq PySem.MeetsSeq2 PySem.MeetsSeq3
def LtAt (A:Around) (s:Shared) (u v:Value) (b:Bool):Prop:=∀(prog:Program) (w:World) (E:Value->Shared->Prop) (Q:Value->Shared->Prop),Q (.bool b) s->wpAny (model prog w) A (richCompare .Lt u v) Q E s
open Classical in
inductive IL (A:Around) (s:Shared) (lt:D->D->Bool):List Value->List Value->List D->List D->Prop where
 | left {ws:List Value} {es:List D}:ws.length=es.length->IL A s lt [] ws [] es
 | right {vs:List Value} {ds:List D}:vs.length=ds.length->IL A s lt vs [] ds []
 | cons {v w:Value} {vs ws:List Value} {d e:D} {ds es:List D}:EqAt A.in1 s v w (decide (d=e))->(d≠e->LtAt A.in1 s v w (lt d e))->IL A s lt vs ws ds es->IL A s lt (v::vs) (w::ws) (d::ds) (e::es)
open Classical in
inductive KL (A:Around) (s:Shared) (lt:D->D->Bool) (n m:Nat) (R:Result->Shared->Prop) {α β:Type} (rest:List (Value×Value)) (b:Option α×β) (s':Shared):Prop
 | mk (vs ws:List Value) (ds' es':List D) (e1:b.1=none) (e2:s'=s) (hz:rest=vs.zip ws) (hi:IL A s lt vs ws ds' es') (hlen:vs.length+m=ws.length+n) (hR:R (.ok (.ret (.bool (mv lt ds' es')))) s)
open Classical in
theorem pW (l b:Addr) (items items2:Array Value) (n n2:Nat) (dd dd2:Option Addr) (sl sl2:Array (Option Value)) (lt:D->D->Bool) (ds es:List D) :
  Meets (Builtin.«tuple.__lt__» ⟨[.ref l,.ref b],[]⟩)
   (fun A R s=>s.heap.get? l=some { cls:=.type "tuple",dict:=dd,data:=.seq items n,slots:=sl }/\s.heap.get? b=some { cls:=.type "tuple",dict:=dd2,data:=.seq items2 n2,slots:=sl2 } /\
    IL A s lt items.toList items2.toList ds es/\R (.ok (.ret (.bool (mv lt ds es)))) s) :=
 .of_wp fun prog w A R s h=>by
  obtain⟨hp,g,d,tk,os⟩:=s;obtain⟨hl,hb,hI,h⟩:=h;have f2:=AutoSeq1.sub_tuple_tuple
  wp_walk using BY hl,BY hb,Bq _ (KL A ⟨hp,g,d,tk,os⟩ lt items.size items2.size R) _
  case turn =>
   rintro⟨y,x⟩ rest b s' ⟨vs,ws,ds',es',hb',rfl,hz,hi,hlen,hR⟩;cases hi with
   | left _=>rw[List.zip_nil_left]at hz;cases hz
   | right _=>rw[List.zip_nil_right]at hz;cases hz
   | @cons v w' vs' ws' d' e' ds2 es2 he hlt hi' =>
    rw[BG]at hz;injection hz with hyx hrest;injection hyx with hy hx;subst hy hx;simp only[Vd]at hlen;refine Aa (he prog w _ _ ?_);by_cases hde:d'=e'
    ·subst hde;rw[Af rfl];rw[bZ]at hR
     wp_walk
     exact⟨_,_,_,_,rfl,rfl,hrest,hi',by lia,hR⟩
    ·rw[Ad hde];rw[bp hde]at hR;have hri:=hlt hde prog w
     wp_walk using hri
     exact⟨_,rfl,by simpa using hR⟩
  case fin =>
   rintro⟨b1,b2⟩ s' ⟨vs,ws,ds',es',hb',rfl,hz,hi,hlen,hR⟩;simp only at hb';subst hb';have hv:mv lt ds' es'=decide (items.size<items2.size):=by
    cases hi with
    | left hl2 =>
     cases es' with
     | nil =>
      simp only[Yk]at hlen hl2;exact(Ad (by lia)).symm
     | cons e0 e1 =>
      simp only[Yk,Vd]at hlen hl2;exact(Af (by lia)).symm
    | right hl2 =>
     cases ds' with
     | nil =>
      simp only[Yk]at hlen hl2;exact(Ad (by lia)).symm
     | cons e0 e1 =>
      simp only[Yk,Vd]at hlen hl2;exact(Ad (by lia)).symm
    | cons _ _ _ =>
     rw[BG]at hz;cases hz
   rw[hv]at hR
   wp_walk
   exact⟨_,rfl,by simpa[Builtin.Tuple.tupleCompareSizes]using hR⟩
  case h =>
   exact⟨items.toList,items2.toList,ds,es,rfl,rfl,rfl,hI,by rw[Wc,Wc,BU],h⟩
theorem LtAt.tuples {A:Around} {s:Shared} {items items2:Array Value} (hl:s.heap.IsTuple l items) (hb:s.heap.IsTuple b items2) (hu:A.units<cLine) (hI:IL A s lt items.toList items2.toList ds es) :
  LtAt A s (.ref l) (.ref b) (mv lt ds es):=fun prog w E Q h=>by
 obtain⟨⟨cls,dd,data,sl⟩,ho,hc,n,hd⟩:=id hl;obtain⟨⟨cls2,dd2,data2,sl2⟩,ho2,hc2,n2,hd2⟩:=id hb;simp only at hc hd hc2 hd2;subst hc hd hc2 hd2;exact richCompare_meets_room (op:=.Lt) ⟨_,ho,rfl⟩ ⟨_,ho2,rfl⟩ PySem.F.slot_tuple_lt PySem.F.entry_tuple_lt (PySem.F.args_tuple_lt_2 _ _) (pW l b items items2 n n2 dd dd2 sl sl2 lt ds es)
  ⟨ho,ho2,hI,show Value.bool (mv lt ds es)≠Value.notImplemented/\Q (.bool (mv lt ds es)) s from⟨(fun x=>nomatch x),h⟩⟩ hu
theorem Jd {A:Around}:∀{vs ws:List Value} {ds es:List D},vs.length=ds.length->ws.length=es.length ->
  (∀(i:Nat) v w d e,vs[i]?=some v->ws[i]?=some w->ds[i]?=some d->es[i]?=some e->(∀b,(b=true↔d=e)->EqAt A.in1 s v w b)/\(d≠e->LtAt A.in1 s v w (lt d e)))->IL A s lt vs ws ds es
 | [],_,[],_,_,h2,_=>.left h2
 | _::_,[],_::_,[],h1,_,_=>.right h1
 | v::vs,w::ws,d::ds,e::es,h1,h2,h=>by
  obtain⟨a1,a2⟩:=h 0 v w d e rfl rfl rfl rfl;exact .cons (a1 _ (by simp)) a2 (Jd (by simpa using h1) (by simpa using h2) fun i v' w' d' e' z1 z2 z3 z4=>h (i+1) v' w' d' e' (by simpa using z1) (by simpa using z2) (by simpa using z3) (by simpa using z4))
 | [],_,_::_,_,h1,_,_=>by simp at h1
 | _::_,_,[],_,h1,_,_=>by simp at h1
 | _::_,[],_::_,_::_,_,h2,_=>by simp at h2
 | _::_,_::_,_::_,[],_,h2,_=>by simp at h2
open Classical in
theorem uB {A:Around} {u v:Value} {d e:D} (h:EqAt A s u v (decide (d=e))) (b:Bool) (hb:b=true↔d=e):EqAt A s u v b:=by
 have:b=decide (d=e):=by rw[Yf,hb,decide_eq_true_eq]
 rw[this];exact h
theorem RH.ltAt:∀(n:Nat) {s:Shared} {d1 d2:D} {u1 u2:Value} {A:Around},Pl n d1->Pl n d2->Cp n d1 d2->RH s.heap u1 d1->RH s.heap u2 d2->A.units+n<cLine->LtAt A s u1 u2 (ltN n d1 d2):=by
 intro n;induction n with
 | zero=>intro s d1 d2 u1 u2 A p;cases p
 | succ n ih =>
  intro s d1 d2 u1 u2 A p1 p2 cp r1 r2 hu;cases r1 with
  | non=>exact cp.elim
  | int i t =>
   cases r2 with
   | int j t'=>exact fun prog w E Q h=>HT.rcLt_int A s i t j t' prog w E Q h
   | _=>exact cp.elim
  | str x t =>
   cases r2 with
   | str y t'=>exact fun prog w E Q h=>(PyProof.Rows.lt_str h:wpAny (model prog w) A (compareOp .Lt (.str x t) (.str y t')) Q E s)
   | _=>exact cp.elim
  | lst _ _ _=>exact cp.elim
  | @tup a its ds t hl f =>
   cases r2 with
   | @tup b its' ds' t' hl' f' =>
    cases p1 with
    | tup p1 =>
    cases p2 with
    | tup p2 =>
    refine LtAt.tuples t t' (by lia) (Jd (by simpa using hl) (by simpa using hl') fun i v w d e z1 z2 z3 z4=>?_)
    have z1':its[i]?=some v:=by simpa using z1
    have z2':its'[i]?=some w:=by simpa using z2
    have m1:=p1 d (Wa z3);have m2:=p2 e (Wa z4);have hu':A.in1.units+n<cLine:=by show A.units+1+n<cLine;lia
    exact⟨uB (RH.eqAt n m1 m2 (f i v d z1' z3) (f' i w e z2' z4) hu').1,fun _=>ih m1 m2 (cp i d e z3 z4) (f i v d z1' z3) (f' i w e z2' z4) hu'⟩
   | _=>exact cp.elim
end VF
namespace VF
open PySem L2 PyProof.Rows PySem.SeqAt
def qC (A:Around) (s:Shared) (fl:Bool) (u v:Value) (c:Bool):Prop:=∀(prog:Program) (w:World) (E:Value->Shared->Prop) (Q:Bool->Shared->Prop),Q c s->wpAny (model prog w) A (oneLt' fl u v) Q E s
open Classical in
inductive IK (A:Around) (s:Shared) (b:Bool) (lt:D->D->Bool):Nat->List Value->List Value->List D->List D->Prop where
 | left {i:Nat} {ws:List Value} {es:List D}:ws.length=es.length->IK A s b lt i [] ws [] es
 | right {i:Nat} {vs:List Value} {ds:List D}:vs.length=ds.length->IK A s b lt i vs [] ds []
 | cons {i:Nat} {v w:Value} {vs ws:List Value} {d e:D} {ds es:List D}:EqAt A s v w (decide (d=e))->(d≠e->qC A s (b&&i == 0) v w (lt d e))->IK A s b lt (i+1) vs ws ds es->IK A s b lt i (v::vs) (w::ws) (d::ds) (e::es)
section
variable {prog:Program} {w:World} {A:Around} {E:Value->Shared->Prop} {s:Shared}
theorem xo (h:LtAt A s u v c):qC A s false u v c:=fun prog w E Q q=>by
 rw[oneLt'_eq];dsimp only;rw[Ai Bool.noConfusion];exact Aa (h prog w _ _ (Az q))
theorem xp (fl:Bool):qC A s fl (.int a t) (.int b u) (decide (a<b)):=fun prog w E Q q=>by
 cases fl with
 | true=>exact oneLt_int q
 | false=>exact xo (fun prog w E Q h=>HT.rcLt_int A s a t b u prog w E Q h) prog w E Q q
theorem n5 {a b:Str} (fl:Bool):qC A s fl (.str a t) (.str b u) (decide (a.cps.toList<b.cps.toList)):=fun prog w E Q q=>by
 cases fl with
 | true=>exact oneLt_str q
 | false=>exact xo (fun prog w E Q h=>(PyProof.Rows.lt_str h:wpAny (model prog w) A (compareOp .Lt (.str a t) (.str b u)) Q E s)) prog w E Q q
inductive KI (A:Around) (s:Shared) (b:Bool) (lt:D->D->Bool) (n m:Nat) (Q:Bool->Shared->Prop) (rest:List ((Value×Value)×Nat)) (r:Option Bool×Unit) (s':Shared):Prop
 | mk (i:Nat) (vs ws:List Value) (ds' es':List D) (e1:s'=s) (e2:r=(none,())) (hz:rest=(vs.zip ws).zipIdx i) (hi:IK A s b lt i vs ws ds' es') (hlen:vs.length+m=ws.length+n) (hR:Q (mv lt ds' es') s)
open Classical in
theorem xq {xs ys:Array Value} (hl:s.heap.IsTuple l xs) (hr:s.heap.IsTuple r ys) (hI:IK A s b lt 0 xs.toList ys.toList ds es) (q:Q (mv lt ds es) s) :
  wpAny (model prog w) A (keyLt' (tuples' b) (.ref l) (.ref r)) Q E s:=by
 obtain⟨o1,g1,_,n1,d1⟩:=hl;obtain⟨o2,g2,_,n2,d2⟩:=hr;refine Aa (A6 g1 d1 ?_);refine Aa (A6 g2 d2 ?_);refine Aa (Bq _ (KI A s b lt xs.size ys.size Q) _ ?_ ?_ _ _ ?_)
 ·rintro⟨⟨y,x⟩,j⟩ rest r s' ⟨i,vs,ws,ds',es',rfl,rfl,hz,hi,hlen,hR⟩;cases hi with
  | left _=>rw[List.zip_nil_left]at hz;cases hz
  | right _=>rw[List.zip_nil_right]at hz;cases hz
  | @cons _ v w' vs' ws' d' e' ds2 es2 he hlt hi' =>
   rw[BG,CV]at hz;injection hz with hyx hrest;injection hyx with hy hj;injection hy with hy hx;subst hy hx hj;simp only[Vd]at hlen;dsimp only;refine Aa (he prog w _ _ ?_);by_cases hde:d'=e'
   ·subst hde;rw[Af rfl];rw[bZ]at hR;exact Ab ⟨_,_,_,_,_,rfl,rfl,hrest,hi',by lia,hR⟩
   ·rw[Ad hde];rw[bp hde]at hR;exact Aa (hlt hde prog w _ _ (Ab (Ab hR)))
 ·rintro r s' ⟨i,vs,ws,ds',es',rfl,rfl,hz,hi,hlen,hR⟩;have hv:mv lt ds' es'=decide (xs.size<ys.size):=by
   cases hi with
   | left hl2 =>
    cases es' with
    | nil =>
     simp only[Yk]at hlen hl2;exact(Ad (by lia)).symm
    | cons e0 e1 =>
     simp only[Yk,Vd]at hlen hl2;exact(Af (by lia)).symm
   | right hl2 =>
    cases ds' with
    | nil =>
     simp only[Yk]at hlen hl2;exact(Ad (by lia)).symm
    | cons e0 e1 =>
     simp only[Yk,Vd]at hlen hl2;exact(Ad (by lia)).symm
   | cons _ _ _ =>
    rw[BG,CV]at hz;cases hz
  rw[hv]at hR;exact Ab hR
 ·exact⟨0,xs.toList,ys.toList,ds,es,rfl,rfl,rfl,hI,by rw[Wc,Wc,BU],q⟩
theorem Je:∀{i:Nat} {vs ws:List Value} {ds es:List D},vs.length=ds.length->ws.length=es.length ->
  (∀(j:Nat) v w d e,vs[j]?=some v->ws[j]?=some w->ds[j]?=some d->es[j]?=some e->(∀c,(c=true↔d=e)->EqAt A s v w c)/\(d≠e->qC A s (b&&(i+j) == 0) v w (lt d e)))->IK A s b lt i vs ws ds es
 | _,[],_,[],_,_,h2,_=>.left h2
 | _,_::_,[],_::_,[],h1,_,_=>.right h1
 | i,v::vs,w::ws,d::ds,e::es,h1,h2,h=>by
  obtain⟨a1,a2⟩:=h 0 v w d e rfl rfl rfl rfl;refine .cons (a1 _ (by simp)) a2 (Je (by simpa using h1) (by simpa using h2) fun j v' w' d' e' z1 z2 z3 z4=>?_)
  have:=h (j+1) v' w' d' e' (by simpa using z1) (by simpa using z2) (by simpa using z3) (by simpa using z4)
  rwa [show i+(j+1)=i+1+j by lia]at this
 | _,[],_,_::_,_,h1,_,_=>by simp at h1
 | _,_::_,_,[],_,h1,_,_=>by simp at h1
 | _,_::_,[],_::_,_::_,_,h2,_=>by simp at h2
 | _,_::_,_::_,_::_,[],_,h2,_=>by simp at h2
def Lp (d:D):Prop:=match d with
 | .tup (.int _::_)=>True
 | _=>False
def Lq (d:D):Prop:=match d with
 | .tup (.str _::_)=>True
 | _=>False
theorem xt (h:Lp d):∃i r,d=.tup (.int i::r):=by
 cases d with
 | tup l =>
  cases l with
  | nil=>exact h.elim
  | cons x r =>
   cases x with
   | int i=>exact⟨_,_,rfl⟩
   | _=>exact h.elim
 | _=>exact h.elim
theorem xu (h:Lq d):∃i r,d=.tup (.str i::r):=by
 cases d with
 | tup l =>
  cases l with
  | nil=>exact h.elim
  | cons x r =>
   cases x with
   | str i=>exact⟨_,_,rfl⟩
   | _=>exact h.elim
 | _=>exact h.elim
theorem EV (p1:Pl (n+1) d1) (p2:Pl (n+1) d2) (cp:Cp (n+1) d1 d2) (r1:RH s.heap u1 d1) (r2:RH s.heap u2 d2) (hu:A.units+(n+1)<cLine)
  (ht:∃xs,d1=.tup xs) (hb:b=true->(Lp d1/\Lp d2)∨(Lq d1/\Lq d2)) (q:Q (ltN (n+1) d1 d2) s):wpAny (model prog w) A (keyLt' (tuples' b) u1 u2) Q E s:=by
 obtain⟨xs,rfl⟩:=ht;cases r1 with
 | @tup a its ds t hl f =>
  cases r2 with
  | @tup a2 its' ds' t' hl' f' =>
   cases p1 with
   | tup p1 =>
   cases p2 with
   | tup p2 =>
   refine xq (lt:=ltN n) (ds:=xs) (es:=ds') t t' (Je (by simpa using hl) (by simpa using hl') fun j v w' d e z1 z2 z3 z4=>?_) q
   have z1':its[j]?=some v:=by simpa using z1
   have z2':its'[j]?=some w':=by simpa using z2
   have m1:=p1 d (Wa z3);have m2:=p2 e (Wa z4);have k1:=f j v d z1' z3;have k2:=f' j w' e z2' z4;have c1:=cp j d e z3 z4;refine⟨uB (RH.eqAt n m1 m2 k1 k2 (by lia)).1,fun _=>?_⟩
   cases hfl:(b&&(0+j) == 0) with
   | false=>exact xo (RH.ltAt n m1 m2 c1 k1 k2 (by lia))
   | true =>
    rw[Yh]at hfl;have hj:j=0:=by have:=Ca hfl.2;lia
    subst hj;rcases hb hfl.1 with⟨g1,g2⟩|⟨g1,g2⟩
    ·obtain⟨i,r,e1⟩:=xt g1;obtain⟨i2,r2,e2⟩:=xt g2;cases e1;cases e2;cases z3;cases z4;cases k1;cases k2;cases n with
     | zero=>cases m1
     | succ n=>exact xp true
    ·obtain⟨i,r,e1⟩:=xu g1;obtain⟨i2,r2,e2⟩:=xu g2;cases e1;cases e2;cases z3;cases z4;cases k1;cases k2;cases n with
     | zero=>cases m1
     | succ n=>exact n5 true
  | _=>exact cp.elim
end
end VF
namespace VF
open PySem L2 PyProof.Rows
section
variable {M:Model} {prog:Program} {w:World} {A:Around} {E:Value->Shared->Prop} {s:Shared}
theorem xw:∀(l:List α),(∀v∈l,∀Q:β->Shared->Prop,Q (g v) s->wpAny M A (f v) Q E s)->∀Q:List β->Shared->Prop,Q (l.map g) s->wpAny M A (l.mapM f) Q E s
 | [],_,Q,q=>by rw[Dr];exact Ab q
 | v::l,h,Q,q=>by
  rw[De];exact Aa (h v Qa _ (Aa (xw l (fun u hu=>h u (Va _ hu)) _ (Ab q))))
theorem sh {l:List α} (h:∀v∈l,∀Q:β->Shared->Prop,Q (g v) s->wpAny M A (f v) Q E s) (q:Q (l.map g).toArray s):wpAny M A (l.toArray.mapM f) Q E s:=by
 rw[CJ,CP];exact Aa (xw l h _ (Ab q))
def zc:D->String
 | .int _=>"int"
 | .str _=>"str"
 | .tup _=>"tuple"
 | _=>"list"
theorem RH.ty (r:RH s.heap u d) (h:d≠.non):s.TypeIs u (zc d):=by
 cases r with
 | non=>exact absurd rfl h
 | int i t=>exact typeIs_int s i t
 | str x t=>exact Ch s x t
 | tup t _ _=>obtain⟨o,h1,h2,_⟩:=t;exact⟨o,h1,h2⟩
 | lst t _ _=>obtain⟨o,h1,h2,_⟩:=t;exact⟨o,h1,h2⟩
theorem EW {us:List Value} {ds:List D} (hne:us≠[]) (hl:us.length=ds.length) (r:∀(i:Nat) u d,us[i]?=some u->ds[i]?=some d->RH s.heap u d/\d≠.non/\zc d=T) (q:Q (some (.type T)) s) :
  wpAny M A (oneTypeOnly' us.toArray) Q E s:=by
 rw[oneTypeOnly'_eq];refine Aa (sh (g:=fun _=>Value.type T) (fun v hv Q q=>?_) ?_)
 ·obtain⟨i,hi,rfl⟩:=List.mem_iff_getElem.mp hv;obtain⟨r1,r2,r3⟩:=r i us[i] ds[i] (Za hi) (Za (by lia))
  exact AH (r3 ▸ r1.ty r2) q
 ·cases us with
  | nil=>exact absurd rfl hne
  | cons u us =>
   have h0:(List.map (fun _=>Value.type T) (u::us)).toArray[0]?=some (Value.type T):=by simp
   rw[h0];have hall:((List.map (fun _=>Value.type T) (u::us)).toArray.all fun x=>x == Value.type T)=true:=by
    simp only[List.all_toArray,DE,Vm];intro _ _;exact CQ _
   dsimp only;rw[hall,Ae rfl];exact Ab q
theorem EX (r:RH s.heap u d) (h:d≠.non) (ht:zc d≠"tuple") (q:Q none s):wpAny M A (firstOfTuple' u) Q E s:=by
 refine Aa (AH (r.ty h) ?_);rw[Ae (by rw[bne_iff_ne];intro e;injection e with e;exact ht e)]
 exact Ab q
theorem qD {its:List Value} (t:s.heap.IsTuple a its.toArray) (e:its=u::us) (q:Q (some u) s):wpAny M A (firstOfTuple' (.ref a)) Q E s:=by
 obtain⟨o,h1,h2,n,h3⟩:=t;refine Aa (AH (T:="tuple") ⟨o,h1,h2⟩ ?_);rw[Ai (by rw[bne_iff_ne];intro z;exact z rfl)]
 refine Aa (A6 h1 h3 ?_);subst e;exact Ab q
inductive Kd:List D->SortKind->Prop where
 | sc {ds:List D} {T:String}:T≠"tuple"->(∀d∈ds,d≠.non/\zc d=T)->Kd ds oneType'
 | tp {ds:List D} {T:String}:(∀d∈ds,∃x xs,d=.tup (x::xs)/\x≠.non/\zc x=T)->Kd ds (tuples' (T != "tuple"))
 | fw {ds:List D} {κ:SortKind}:ds.length<2->Kd ds κ
theorem Jf {us:List Value} {ds:List D} (hne:us≠[]) (hl:us.length=ds.length) (r:∀(i:Nat) u d,us[i]?=some u->ds[i]?=some d->RH s.heap u d) (h2:¬ us.length<2) (hk:Kd ds κ) (q:Q κ s) :
  wpAny M A (keyKind' us.toArray) Q E s:=by
 rw[keyKind'_eq];cases hk with
 | fw h=>exact absurd (hl ▸ h) h2
 | @sc T hT h =>
  refine Aa (sh (g:=fun _=>none) (fun v hv Q q=>?_) ?_)
  ·obtain⟨i,hi,rfl⟩:=List.mem_iff_getElem.mp hv;have hd:=h ds[i] (AF _);exact EX (r i _ _ (Za hi) (Za (by lia))) hd.1 (by rw[hd.2];exact hT) q
  ·cases us with
   | nil=>exact absurd rfl hne
   | cons u us =>
    rw[Ai (by simp),Ai (by simp)]
    refine Aa (EW (T:=T) hne hl (fun i u d e1 e2=>⟨r i u d e1 e2,h d (Wa e2)⟩) ?_);exact Ab q
 | @tp T h =>
  have hx:∀(i:Nat) (hi:i<us.length),∃u0 x xs,(∀Q:Option Value->Shared->Prop,Q (some u0) s->wpAny M A (firstOfTuple' us[i]) Q E s)/\ds[i]?=some (.tup (x::xs))/\RH s.heap u0 x/\x≠.non/\zc x=T:=fun i hi=>by
   have hd:i<ds.length:=by lia
   obtain⟨x,xs,e,h1,h2⟩:=h ds[i] (AF _);have rr:=r i us[i] ds[i] (Za hi) (Za hd);rw[e]at rr;generalize us[i]=v at rr;cases rr with
   | @tup a its _ t hl f =>
    cases its with
    | nil=>simp at hl
    | cons u0 ur=>exact⟨u0,x,xs,fun Q q=>qD t rfl q,by rw[Za hd,e],f 0 u0 x rfl rfl,h1,h2⟩
  have hf:∃fs:List Value,fs.length=us.length/\(∀Q:Array (Option Value)->Shared->Prop,Q (fs.map some).toArray s->wpAny M A (us.toArray.mapM firstOfTuple') Q E s)/\∀(i:Nat) u,fs[i]?=some u->∃x,RH s.heap u x/\x≠.non/\zc x=T:=by
   have:∀l:List Value,(∀v∈l,∃u0 x,(∀Q:Option Value->Shared->Prop,Q (some u0) s->wpAny M A (firstOfTuple' v) Q E s)/\RH s.heap u0 x/\x≠.non/\zc x=T) ->
     ∃fs:List Value,fs.length=l.length/\(∀Q:List (Option Value)->Shared->Prop,Q (fs.map some) s->wpAny M A (l.mapM firstOfTuple') Q E s)/\∀(i:Nat) u,fs[i]?=some u->∃x,RH s.heap u x/\x≠.non/\zc x=T:=fun l=>by
    induction l with
    | nil=>exact fun _=>⟨[],rfl,fun Q q=>by rw[Dr];exact Ab q,fun i u e=>by simp at e⟩
    | cons v l ih =>
     intro hv;obtain⟨fs,f1,f2,f3⟩:=ih fun u hu=>hv u (Va _ hu);obtain⟨u0,x,g1,g2⟩:=hv v Qa;refine⟨u0::fs,by simp[f1],fun Q q=>?_,fun i u e=>?_⟩
     ·rw[De];exact Aa (g1 _ (Aa (f2 _ (Ab q))))
     ·cases i with
      | zero =>
       have:u0=u:=by simpa using e
       subst this;exact⟨x,g2⟩
      | succ i=>exact f3 i u (by simpa using e)
   obtain⟨fs,f1,f2,f3⟩:=this us fun v hv=>by
    obtain⟨i,hi,rfl⟩:=List.mem_iff_getElem.mp hv;obtain⟨u0,x,xs,a1,_,a2⟩:=hx i hi;exact⟨u0,x,a1,a2⟩
   refine⟨fs,f1,fun Q q=>?_,f3⟩;rw[CJ,CP];exact Aa (f2 _ (Ab q))
  obtain⟨fs,f1,f2,f3⟩:=hf;refine Aa (f2 _ ?_);rw[Ae (by simp)]
  refine Aa (AB ?_);have e1:(fs.map some).toArray.filterMap id=fs.toArray:=by simp
  rw[e1];have hne':fs≠[]:=fun z=>by
   rw[z]at f1;exact hne (Zf f1.symm)
  obtain⟨xs,hxs,hxx⟩:∃xs:List D,fs.length=xs.length/\∀(i:Nat) u d,fs[i]?=some u->xs[i]?=some d->RH s.heap u d/\d≠.non/\zc d=T:=by
   have:∀l:List Value,(∀(i:Nat) u,l[i]?=some u->∃x,RH s.heap u x/\x≠.non/\zc x=T)->∃xs:List D,l.length=xs.length/\∀(i:Nat) u d,l[i]?=some u->xs[i]?=some d->RH s.heap u d/\d≠.non/\zc d=T:=fun l=>by
    induction l with
    | nil=>exact fun _=>⟨[],rfl,fun i u d e=>by simp at e⟩
    | cons v l ih =>
     intro hv;obtain⟨xs,x1,x2⟩:=ih fun i u e=>hv (i+1) u (by simpa using e)
     obtain⟨x,hx⟩:=hv 0 v rfl;refine⟨x::xs,by simp[x1],fun i u d e1 e2=>?_⟩
     cases i with
     | zero =>
      have a1:v=u:=by simpa using e1
      have a2:x=d:=by simpa using e2
      subst a1 a2;exact hx
     | succ i=>exact x2 i u d (by simpa using e1) (by simpa using e2)
   exact this fs f3
  refine Aa (EW (T:=T) hne' hxs hxx ?_);have e2:(Option.any (fun x=>x != Value.type "tuple") (some (Value.type T)))=(T != "tuple"):=by
   show(Value.type T != Value.type "tuple")=_;rw[Yf,bne_iff_ne,bne_iff_ne];constructor
   ·exact fun h e=>h (by rw[e])
   ·exact fun h e=>h (by injection e)
  rw[e2];exact Ab q
end
end VF
namespace VF
open PySem L2 PyProof.Rows TS
section
variable {prog:Program} {w:World} {A:Around} {E:Value->Shared->Prop} {s:Shared}
theorem RH.kept {h h':Heap} (k:∀b o,h.get? b=some o->h'.get? b=some o) (r:RH h u d):RH h' u d:=by
 induction r with
 | non=>exact .non
 | int i t=>exact .int i t
 | str x t=>exact .str x t
 | tup t hl _ ih=>obtain⟨o,h1,h2⟩:=t;exact .tup ⟨o,k _ o h1,h2⟩ hl ih
 | lst t hl _ ih=>obtain⟨o,h1,h2⟩:=t;exact .lst ⟨o,k _ o h1,h2⟩ hl ih
def dk (ds:List D) (g:Nat):D:=ds.getD g (ds.headD .non)
theorem lH (h:ds[g]?=some d):dk ds g=d:=by
 unfold dk;rw[Xb,h];rfl
theorem iE (h:ds≠[]) (g:Nat):dk ds g∈ds:=by
 cases e:ds[g]? with
 | some d=>rw[lH e];exact Wa e
 | none =>
  cases ds with
  | nil=>exact absurd rfl h
  | cons x xs =>
   unfold dk;rw[Xb,e];simp
noncomputable def cD (ds:List D) (g h:Nat):Bool:=ltN 40 (dk ds g) (dk ds h)
theorem EY (h:Cp n d e) (ht:zc d≠"tuple"):(∃i j,d=.int i/\e=.int j)∨∃x y,d=.str x/\e=.str y:=by
 cases n with
 | zero=>exact h.elim
 | succ n =>
  cases d with
  | int i =>
   cases e with
   | int j=>exact .inl ⟨i,j,rfl,rfl⟩
   | _=>exact h.elim
  | str x =>
   cases e with
   | str y=>exact .inr ⟨x,y,rfl,rfl⟩
   | _=>exact h.elim
  | tup xs=>exact absurd rfl ht
  | _=>exact h.elim
theorem HE {us vs:List Value} {ds:List D} (hl:us.length=ds.length) (r:∀(i:Nat) u d,us[i]?=some u->ds[i]?=some d->RH s.heap u d) (pl:∀d∈ds,Pl 40 d) (ca:CA 40 ds) (h2:¬ us.length<2) (hk:Kd ds κ) (hu:A.units+40<cLine) :
  Cm prog w A s κ (fun g=>(us.getD g .none,vs.getD g .none)) us.length (cD ds):=by
 refine⟨fun E Q g h hg hh q=>?_,fun g=>n4 _ _,fun g h i h1 h2=>?_,fun g h i h1=>?_⟩
 ·have eg:us[g]?=some us[g]:=Za hg;have eh:us[h]?=some us[h]:=Za hh;have dg:ds[g]?=some ds[g]:=Za (by lia)
  have dh:ds[h]?=some ds[h]:=Za (by lia)
  have q':Q (ltN 40 ds[g] ds[h]) s:=by unfold cD at q;rw[lH dg,lH dh]at q;exact q
  have rg:=r g _ _ eg dg;have rh:=r h _ _ eh dh;have mg:=Wa dg;have mh:=Wa dh;have cp:=ca _ mg _ mh;show wpAny (model prog w) A (keyLt' κ (us.getD g .none) (us.getD h .none)) Q E s;rw[Xb,Xb,eg,eh];show wpAny (model prog w) A (keyLt' κ us[g] us[h]) Q E s;generalize us[g]=ug at rg;generalize us[h]=uh at rh;generalize ds[g]=a at *;generalize ds[h]=b at *;cases hk with
  | fw h=>exact absurd (hl ▸ h) h2
  | @sc T hT hd =>
   rw[keyLt'_oneType];rcases EY cp (by rw[(hd a mg).2];exact hT) with⟨i,j,rfl,rfl⟩|⟨x,y,rfl,rfl⟩
   ·cases rg;cases rh;exact xp true prog w E Q q'
   ·cases rg;cases rh;exact n5 true prog w E Q q'
  | @tp T hd =>
   obtain⟨x,xs,rfl,nx,tx⟩:=hd a mg;obtain⟨y,ys,rfl,ny,ty⟩:=hd b mh;refine EV (n:=39) (pl _ mg) (pl _ mh) cp rg rh (by lia) ⟨_,rfl⟩ (fun hb=>?_) q'
   have hT:T≠"tuple":=by rwa [bne_iff_ne]at hb
   rcases EY (cp 0 x y rfl rfl) (by rw[tx];exact hT) with⟨i,j,rfl,rfl⟩|⟨x,y,rfl,rfl⟩
   ·exact .inl ⟨trivial,trivial⟩
   ·exact .inr ⟨trivial,trivial⟩
 ·by_cases hne:ds=[]
  ·subst hne;have:cD [] g h=false:=n4 40 .non;rw[this]at h1;cases h1
  ·exact(kL 40).tra (ca _ (iE hne g) _ (iE hne h)) (ca _ (iE hne h) _ (iE hne i)) (ca _ (iE hne g) _ (iE hne i)) h1 h2
 ·by_cases hne:ds=[]
  ·subst hne;have:cD [] g i=false:=n4 40 .non;rw[this]at h1;cases h1
  ·exact ca.neg (iE hne g) (iE hne h) (iE hne i) h1
def bD (vs:List Value) (γ:Array Nat):Array Value:=γ.map fun g=>vs.getD g .none
theorem qE {vs : List Value} {ds : List D} (ho : s.heap.get? a = some (seqObj "list" vs.toArray n)) (hz : vs.length ≤ sizeLine)
    (hl : vs.length = ds.length) (r : ∀ (i : Nat) u d, vs[i]? = some u → ds[i]? = some d → RH (((s.heap.update a (Obj.mapSeq fun _ => #[])).push (seqObj "tuple" vs.toArray 0)).push (seqObj "list" #[] 0)) u d)
    (pl : ∀ d ∈ ds, Pl 40 d) (ca : CA 40 ds) (hk : Kd ds κ) (hu : A.units + 40 < cLine)
    (fin : ∀ γ : Array Nat, γ.Perm (Array.range vs.length) → Sg (cD ds) γ 0 vs.length → P (.done (.ret .none)) { s with heap := sortedHeap s.heap a vs (bD vs γ) }) :
    wpAny (model prog w) A (Builtin.«list.sort» ⟨[.ref a], []⟩) P E s := by
  rw [list_sort_plain];have small := Aj ho;refine Aa (A6 ho rfl (Aa (AN ho rfl ?_)));obtain ⟨ep, hE⟩ : ∃ ep, (s.heap.update a (Obj.mapSeq fun _ => #[])).get? a = some (seqObj "list" #[] ep) := ⟨_, Bv ho (fun _ => #[])⟩;refine Aa (B6 hE rfl (Aa (wpAny_newTuple (Aa (Bt (As ?_))))));have hE2 : (((s.heap.update a (Obj.mapSeq fun _ => #[])).push (seqObj "tuple" vs.toArray 0)).push (seqObj "list" #[] 0)).get? a = some (seqObj "list" #[] ep) :=
    Ac _ (Ac _ hE)
  generalize hH : ((s.heap.update a (Obj.mapSeq fun _ => #[])).push (seqObj "tuple" vs.toArray 0)).push (seqObj "list" #[] 0) = h6 at r hE2;show wpAny (model prog w) A _ P E { s with heap := h6 };dsimp only;have hsz : vs.toArray.size = vs.length := by simp
  have zs : ∀ γ : Array Nat, γ.Perm (Array.range vs.length) → (bD vs γ).size ≤ sizeLine + 1 := fun γ p => by
    unfold bD;rw [B9, p.size_eq, Array.size_range]; lia
  have done : ∀ γ : Array Nat, γ.Perm (Array.range vs.length) → Sg (cD ds) γ 0 vs.length → P (.done (.ret .none)) { s with heap := h6.update a (Obj.mapSeq fun _ => bD vs γ) } := fun γ p g => by
    have := fin γ p g;unfold sortedHeap at this;rw [← hH]; exact this
  have e0 : vs.toArray.zip vs.toArray = (Array.range vs.length).map fun g => (vs.getD g .none, vs.getD g .none) := by
    apply Array.ext_getElem?
    intro i;rw [Be, AY];by_cases hi : i < vs.length
    · rw [Ae hi]; simp [hi]
    · rw [Ai hi]; simp [hi]
  by_cases kz : vs.toArray.size < 2
  · rw [Ae kz, Ae kz]
    refine Aa (Ab ?_);rw [StateT.run_pure];refine Aa (Ab ?_);dsimp only;have em : (vs.toArray.zip vs.toArray).map (fun x => x.2) = bD vs (Array.range vs.length) := by
      rw [e0, Cd]; rfl
    refine Aa (B6 hE2 rfl (Aa (AN hE2 rfl ?_ (hsz2 := ?_))))
    · simp only [CB, BJ, if_false]
      refine Ab ?_;rw [em];exact done _ (Array.Perm.refl _) fun i j g h z1 z2 z3 => by lia
    · rw [em]; exact zs _ (Array.Perm.refl _)
  · rw [Ai kz, Ai kz]
    have hne : vs ≠ [] := fun z => kz (by rw [z]; decide)
    refine Aa (Jf (s := { s with heap := h6 }) hne hl r (fun z => kz (by simpa using z)) hk ?_)
    have C : Cm prog w A { s with heap := h6 } κ (fun g => (vs.getD g .none, vs.getD g .none)) vs.length (cD ds) := HE (s := { s with heap := h6 }) hl r pl ca (fun z => kz (by simpa using z)) hk hu
    refine Aa (Av (xh (st := SortSt.mk' κ (vs.toArray.zip vs.toArray) #[] 7 none) C (γ := Array.range vs.length) ⟨e0, rfl, rfl, Array.Perm.refl _⟩ rfl (fun i _ z => by rw [AY, Ae z])
      (Q := fun _ st' => ∃ γ, Rp κ (fun g => (vs.getD g .none, vs.getD g .none)) vs.length st' γ ∧ Sg (cD ds) γ 0 vs.length) fun st' γ' R g => ⟨γ', R, g⟩) ?_ fun _ _ e => e)
    rintro ⟨⟨⟩, st'⟩ s' ⟨rfl, γ, R, g⟩;dsimp only;have em : (arrOf st').map (fun x => x.2) = bD vs γ := by
      rw [R.arr, Cd]; rfl
    refine Aa (B6 hE2 rfl (Aa (AN hE2 rfl ?_ (hsz2 := ?_))))
    · rw [show failedOf st' = none from R.fine]
      simp only [CB, BJ, if_false];refine Ab ?_;show P (.done (.ret .none)) { s with heap := h6.update a (Obj.mapSeq fun _ => (arrOf st').map (fun x => x.2)) };rw [em];exact done γ R.perm g
    · show ((arrOf st').map (fun x => x.2)).size ≤ sizeLine + 1
      rw [em]; exact zs γ R.perm
end
end VF
namespace VF
open PySem L2 PyProof.Rows TS
section
variable {prog:Program} {w:World} {A:Around} {E:Value->Shared->Prop} {s:Shared}
theorem uC {vs:List Value} (hl:s.heap.IsList l vs.toArray∨s.heap.IsTuple l vs.toArray) (hz:vs.length<=sizeLine)
  (q:Q vs { s with heap:=(s.heap.push (seqObj "list" #[] 0)).update s.heap.objs.size (Obj.mapSeq (·++vs.toArray)) }):wpAny (model prog w) A (collect (.ref l)) Q E s:=by
 rcases hl with hl|hl
 ·exact collect_list hl q hz
 obtain⟨o,ho,hc,m,hd⟩:=id hl;have kept:=Ac (seqObj "list" #[] 0) ho;have new:(s.heap.push (seqObj "list" #[] 0)).get? s.heap.objs.size=some (seqObj "list" #[] 0):=Ah _ rfl;unfold collect;refine Aa (wpAny_runValue (codeAny_builtin entry_proto_collect' ?_));refine Aa (Bt (Ab ⟨Code.quiet_builtin _ (by decide +kernel),codeAny_builtin entry_list_iadd' ?_⟩))
 show wpAny _ _ (Builtin.List.listExtendWith (.ref s.heap.objs.size) (.ref l) (.ref s.heap.objs.size)) _ _ { s with heap:=s.heap.push (seqObj "list" #[] 0) };unfold Builtin.List.listExtendWith;refine Aa (AH (T:="tuple") ⟨o,kept,hc⟩ ?_);rw[Ae (by rw[show(Value.type "tuple" == Value.type "tuple")=true from rfl,Bool.or_true])]
 refine Aa (A6 kept hd (Aa (A6 new rfl ?_)));rw[Ai (by simp)]
 have room:((#[]:Array Value)++vs.toArray).size<=sizeLine+1:=by
  rw[Array.size_append,Zc];simp;lia
 refine Aa (AN new rfl ?_ (Yg _) room);refine Ab ?_;have at':=Bv new (fun x=>x++vs.toArray);refine Aa (wpAny_load at' ?_);show wpAny _ _ (pure ((#[]:Array Value)++vs.toArray).toList) Q E _;have e:((#[]:Array Value)++vs.toArray).toList=vs:=by simp
 rw[e];exact Ab q
theorem uD {vs:List Value} {ds:List D} (hl:s.heap.IsList l vs.toArray∨s.heap.IsTuple l vs.toArray) (hz:vs.length<=sizeLine)
  (hn:vs.length=ds.length) (r:∀(i:Nat) u d,vs[i]?=some u->ds[i]?=some d->RH s.heap u d) (pl:∀d∈ds,Pl 40 d) (ca:CA 40 ds) (hk:Kd ds κ) (hu:A.units+64<cLine)
  (fin:∀γ:Array Nat,γ.Perm (Array.range vs.length)->Sg (cD ds) γ 0 vs.length->Q (.ref (s.heap.objs.size+1)) { s with heap:=sortedAll s.heap vs (bD vs γ) }) :
  wpAny (model prog w) A (call (.builtin "sorted") [.ref l]) Q E s:=by
 refine Dm kind_sorted plain_sorted entry_sorted (args_sorted1 _) ?_;refine Aa (m:=checkCount "sorted" 1 1 _) (Ab (Aa (uC hl hz (Aa (Bt ?_)))));generalize hg:(s.heap.push (seqObj "list" #[] 0)).update s.heap.objs.size (Obj.mapSeq (·++vs.toArray))=h1;have z1:h1.objs.size=s.heap.objs.size+1:=by rw[← hg,CZ,size_push']
 have old:∀b o,s.heap.get? b=some o->h1.get? b=some o:=fun b o e=>by
  rw[← hg];exact(Aw _ _ _ _ (Vf (Aj e))).trans (Ac _ e)
 have mine:(h1.push (seqObj "list" vs.toArray 0)).get? (s.heap.objs.size+1)=some (seqObj "list" vs.toArray 0):=by rw[← z1];exact Ah _ rfl
 show wpAny _ _ _ _ _ { s with heap:=h1.push (seqObj "list" vs.toArray 0) };rw[z1];refine Aa (As (An slot_list_sort ⟨_,mine,rfl⟩ entry_list_sort ?_ (args_list_sort _)));refine qE (s:={ s with heap:=h1.push (seqObj "list" vs.toArray 0) }) mine hz hn (fun i u d e1 e2=>(r i u d e1 e2).kept fun b o e=>?_) pl ca hk (by show A.units+1+1+40<cLine;lia) fun γ p g=>?_
 ·have hb:=Aj e;refine Ac _ (Ac _ ?_);have hne:b≠s.heap.objs.size+1:=Vf (Bj hb);exact(Aw _ _ _ _ hne).trans (Ac _ (old b o e))
 ·refine⟨_,rfl,Ab ⟨_,rfl,?_⟩⟩;have:=fin γ p g;unfold sortedAll at this;rw[hg]at this;exact this
end
theorem EZ {ds:List D} {γ:Array Nat} (ca:CA 40 ds) (p:γ.Perm (Array.range ds.length)) (g:Sg (cD ds) γ 0 ds.length):(γ.toList.map (dk ds))=dQ 40 ds:=by
 have hsz:γ.size=ds.length:=by rw[p.size_eq,Vk]
 refine eJ ca ?_ ?_
 ·have p1:(γ.toList.map (dk ds)).Perm ((List.range ds.length).map (dk ds)):=by
   have:=Zg.mp p;rw[Zm]at this;exact this.map _
  have e:(List.range ds.length).map (dk ds)=ds:=by
   refine Bs (by simp) fun i h1 h2=>?_
   rw[Br,List.getElem_range,lH (Za h2)]
  rwa [e]at p1
 ·unfold GA;rw[Qh,Wg];intro i j hi hj hij;rw[Wc]at hi hj;have b:=g i j γ.toList[i] γ.toList[j] (Yg _) hij (by lia) (by rw[← Wh];exact Za _) (by rw[← Wh];exact Za _)
  rcases b with b|b
  ·exact se _ _ _ b
  ·exact b.1
section
variable {X:Cx} {K:PySem.W.Frag} {Y:AS} {H:Hp}
def E8 (K:PySem.W.Frag):List V->Hp->VK->Prop:=fun xs H Q=>∃(Y:AS) (v:V) (d:D) (ds:List D) (κ:SortKind),xs=[v]/\BA K Y H v d/\d.seq=some ds/\(∀x∈ds,Pl 40 x)/\CA 40 ds/\Kd ds κ /\
 ∀(p:Addr) (vs:List V),H p=none->El K Y H vs (dQ 40 ds)->Q (.ref p) (upd H p (.lst vs))
theorem iF (h:X.K=K) (hr:Room n X.A):CallR X (.builtin "sorted") (E8 K):=by
 intro pins s σ H xs us Q I rv hh;obtain⟨Y,v,d,ds,κ,rfl,ba,hs,pl,ca,hk,q⟩:=hh;obtain⟨u,rfl,ru⟩:=vals1 rv;obtain⟨a,vs,rfl,sq,el⟩:=rK ba hs;cases ru;have main:∀its:List Value,Vals vs its->(s.heap.IsList a its.toArray∨s.heap.IsTuple a its.toArray)->vs.length<=sizeLine->wpAny (model X.prog X.w) X.A (call (.builtin "sorted") [.ref a]) (EP X pins σ Q) X.xe s:=fun its r t hz=>by
  have hn:its.length=ds.length:=r.length.symm.trans el.1;have rr:∀(i:Nat) u d,its[i]?=some u->ds[i]?=some d->RH s.heap u d:=fun i u d e1 e2=>by
   obtain⟨v,e3,rv⟩:=dB r i u e1;exact(el.2 i v d e3 e2).rh (pl d (Wa e2)) I h rv
  have hz':its.length<=sizeLine:=by rw[← r.length];exact hz
  refine uD t hz' hn rr pl ca hk hr.units fun γ p g=>?_;rw[hn]at p g;obtain⟨e,he⟩:=sortedAll_at s.heap its (bD its γ);have hγ:∀g∈γ.toList,g<ds.length:=fun g hg=>by
   have:=(Zg.mp p).mem_iff.mp hg;rw[Zm]at this;exact Vg.mp this
  have eo:=EZ ca p g
  let ws:List V:=γ.toList.map fun g=>vs.getD g .non
  have vw:Vals ws (bD its γ).toList:=by
   have e2:(bD its γ).toList=γ.toList.map fun g=>its.getD g .none:=by unfold bD;simp
   rw[e2];have:∀l:List Nat,(∀g∈l,g<ds.length)->Vals (l.map fun g=>vs.getD g .non) (l.map fun g=>its.getD g .none):=fun l=>by
    induction l with
    | nil=>exact fun _=>.nil
    | cons g l ih =>
     intro hl;have hg:g<ds.length:=hl g Qa;have a1:its[g]?=some its[g]:=Za (by lia)
     obtain⟨v,e3,rv⟩:=dB r g _ a1;refine .cons ?_ (ih fun x hx=>hl x (Va _ hx));show RelV (vs.getD g .non) (its.getD g .none);rw[Xb,Xb,e3,a1];exact rv
   exact this _ hγ
  have elw:El K Y H ws (dQ 40 ds):=by
   rw[← eo];refine⟨by simp[ws],fun i v d h1 h2=>?_⟩
   rw[Qc]at h1 h2;obtain⟨g1,k1,k2⟩:=Vc.mp h1;obtain⟨g2,k3,k4⟩:=Vc.mp h2;rw[k1]at k3;cases k3;have hg:g1<ds.length:=hγ g1 (Wa k1);have d1:ds[g1]?=some ds[g1]:=Za hg;obtain⟨v',e3,da⟩:=el.at d1;rw[lH d1]at k4;rw[Xb,e3]at k2;subst k4;have:v'=v:=k2;subst this;exact da
  have hlw:ws.length=ds.length:=by
   show(γ.toList.map _).length=_;rw[Ya,Wc,p.size_eq,Vk]
  refine⟨.ref (s.heap.objs.size+1),upd H (s.heap.objs.size+1) (.lst ws),I.laid (t':=s.toks) (fun b o z=>sortedAll_old z) (Nat.le_succ _) ⟨by lia,(bD its γ).toList,e,vw,by simpa using he⟩,rfl,q _ ws (I.hok.fresh (Nat.le_succ _)) elw⟩
 rcases sq with sq|sq
 ·obtain⟨its,r,t,hz⟩:=I.list (h ▸ sq);exact main its r (.inl t.isList) hz
 ·obtain⟨its,r,t,hz⟩:=I.tuple (h ▸ sq);exact main its r (.inr t) hz
open Classical in
noncomputable def eK:List D->Option Rz
 | [d]=>match d.seq with
  | some ds=>if (∀x∈ds,Pl 40 x)/\CA 40 ds/\∃κ,Kd ds κ then some (.lst (dQ 40 ds),true) else none
  | none=>none
 | _=>none
theorem lI:RdCB K (E8 K) eK:=by
 intro Y H xs ds z Q lv bs e q;cases bs with
 | nil=>cases e
 | @cons v vs d ds b1 bs =>
  cases bs with
  | cons _ _=>cases e
  | nil =>
   unfold eK at e;dsimp only at e;split at e
   ·rename_i xs hs
    obtain⟨c,e⟩:=aL e;cases e;obtain⟨c1,c2,κ,c3⟩:=c;exact⟨Y,v,d,xs,κ,rfl,b1,hs,c1,c2,c3,fun p ws hp el=>q _ _ (aU hp _) (gu el hp)⟩
   ·cases e
end
end VF
namespace VF22
open PySem PySem.Spec PyProof.Rows L2 VF
def keyD:D->Option Key
 | .int i=>some (.inl i)
 | .str x=>some (.inr x)
 | _=>none
def xz:List D->Option (List Key)
 | []=>some []
 | d::r=>(keyD d).bind fun k=>(xz r).bind fun ks=>some (k::ks)
section
variable {κ:Type} [DecidableEq κ]
def ck (kvs:List (κ×D)) (k:κ):Option D:=(kvs.find? fun kv=>decide (kv.1=k)).map (·.2)
def iT (kvs:List (κ×D)) (k:κ) (d:D):List (κ×D):=if (kvs.any fun kv=>decide (kv.1=k))=true then kvs.map (fun kv=>if kv.1=k then(kv.1,d) else kv) else kvs++[(k,d)]
def Go (R:V->D->Prop) (kvs:List (κ×V)) (ds:List (κ×D)):Prop:=kvs.map (·.1)=ds.map (·.1)/\∀(i:Nat) v d,kvs[i]?=some v->ds[i]?=some d->R v.2 d.2
theorem Go.nil:Go R ([]:List (κ×V)) []:=⟨rfl,fun i v d h _=>by simp at h⟩
theorem Go.cons (h1:p.1=q.1) (h2:R p.2 q.2) (t:Go R kvs ds):Go R (p::kvs) (q::ds):=by grind [Go]
theorem Go.un (h:Go R (p::kvs) (q::ds)):p.1=q.1/\R p.2 q.2/\Go R kvs ds:=by
 obtain⟨h1,h2⟩:=h;rw[Ve,Ve]at h1;injection h1 with a b;exact⟨a,h2 0 p q rfl rfl,b,fun i v d x y=>h2 (i+1) v d x y⟩
theorem Go.look:∀{kvs:List (κ×V)} {ds:List (κ×D)} (k:κ),Go R kvs ds->(jQ kvs k=none/\ck ds k=none)∨∃v d,jQ kvs k=some v/\ck ds k=some d/\R v d
 | [],[],_,_=>.inl ⟨rfl,rfl⟩
 | [],_::_,_,h=>by have:=h.1;simp at this
 | _::_,[],_,h=>by have:=h.1;simp at this
 | p::ps,q::qs,k,h=>by
  obtain⟨h1,h2,h3⟩:=h.un;by_cases e:p.1=k
  ·refine .inr ⟨p.2,q.2,ly e,?_,h2⟩;simp[ck,Wm,h1.symm.trans e]
  ·have e':¬ q.1=k:=fun z=>e (h1.trans z);rw[lB e,show ck (q::qs) k=ck qs k by simp[ck,Wm,e']]
   exact h3.look k
theorem Go.any {kvs:List (κ×V)} {ds:List (κ×D)} (h:Go R kvs ds) (k:κ):(kvs.any fun kv=>decide (kv.1=k))=ds.any fun kv=>decide (kv.1=k):=by
 have a:∀l:List (κ×V),(l.any fun kv=>decide (kv.1=k))=(l.map (·.1)).any fun x=>decide (x=k):=fun l=>by rw[DD];rfl
 rw[a,h.1,DD];rfl
theorem Go.repl (k:κ) (r:R y d):∀{kvs:List (κ×V)} {ds:List (κ×D)},Go R kvs ds->Go R (kvs.map fun kv=>if kv.1=k then(kv.1,y) else kv) (ds.map fun kv=>if kv.1=k then(kv.1,d) else kv)
 | [],[],_=>Go.nil
 | [],_::_,h=>by have:=h.1;simp at this
 | _::_,[],h=>by have:=h.1;simp at this
 | p::ps,q::qs,h=>by
  obtain⟨h1,h2,h3⟩:=h.un;rw[Ve,Ve];by_cases e:p.1=k
  ·rw[Ae e,Ae (h1.symm.trans e)];exact Go.cons h1 r (h3.repl k r)
  ·rw[Ai e,Ai fun z=>e (h1.trans z)];exact Go.cons h1 h2 (h3.repl k r)
theorem Go.snoc (k:κ) (r:R y d):∀{kvs:List (κ×V)} {ds:List (κ×D)},Go R kvs ds->Go R (kvs++[(k,y)]) (ds++[(k,d)])
 | [],[],_=>Go.cons rfl r Go.nil
 | [],_::_,h=>by have:=h.1;simp at this
 | _::_,[],h=>by have:=h.1;simp at this
 | p::ps,q::qs,h=>by
  obtain⟨h1,h2,h3⟩:=h.un;exact Go.cons h1 h2 (h3.snoc k r)
theorem Go.put (k:κ) (h:Go R kvs ds) (r:R y d):Go R (putK kvs k y) (iT ds k d):=by
 unfold putK iT;rw[h.any k];split
 ·exact h.repl k r
 ·exact h.snoc k r
theorem Go.len {kvs:List (κ×V)} {ds:List (κ×D)} (h:Go R kvs ds):kvs.length=ds.length:=by
 have:=congrArg List.length h.1;rwa [Ya,Ya]at this
theorem Go.map (h:Go R kvs ds) (f:∀v d,R v d->S v d):Go S kvs ds:=⟨h.1,fun i v d a b=>f _ _ (h.2 i v d a b)⟩
end
section
variable {K:PySem.W.Frag} {Y:AS} {H:Hp}
theorem NM (h:DA K Y H v d) (e:keyD d=some k):v=kV k:=by
 cases d with
 | int i=>cases e;cases h;rfl
 | str x=>cases e;cases h;rfl
 | _=>cases e
theorem Jg (h:BA K Y H v d) (e:keyD d=some k):v=kV k:=by
 cases d with
 | int i=>cases e;exact h
 | str x=>cases e;exact h
 | _=>cases e
theorem vS:∀{ds:List D} {vs:List V} {ks:List Key},El K Y H vs ds->xz ds=some ks->vs=ks.map kV
 | [],vs,ks,h,e=>by
  cases e;obtain rfl:=h.unnil;rfl
 | d::r,vs,ks,h,e=>by
  refine bP e fun k e1 e=>?_;refine bP e fun ks' e2 e=>?_;cases e;obtain⟨v,vr,rfl,da,el⟩:=h.uncons;rw[NM da e1,vS el e2];rfl
def E9:List D->Option (List (List Key))
 | []=>some []
 | .tup es::r=>(xz es).bind fun k=>(E9 r).bind fun ks=>some (k::ks)
 | _=>none
def xA (ds:List D):Option bA:=match xz ds with
 | some ks=>some (.inl ks)
 | none=>(E9 ds).bind fun ks=>if ks=[] then none else some (.inr ks)
theorem Fb:∀{ds:List D} {vs:List V} {ks:List (List Key)},El K Y H vs ds->E9 ds=some ks->∃bs:List Addr,vs=bs.map V.ref/\Paired (fun b k=>H b=some (.tup (List.map kV k))) bs ks/\∀b∈bs,¬ Y b/\H b≠none
 | [],vs,ks,h,e=>by
  cases e;obtain rfl:=h.unnil;exact⟨[],rfl,.nil,fun b z=>(by cases z)⟩
 | d::r,vs,ks,h,e=>by
  cases d with
  | tup es =>
   refine bP e fun k e1 e=>?_;refine bP e fun ks' e2 e=>?_;cases e;obtain⟨v,vr,rfl,da,el⟩:=h.uncons;obtain⟨bs,rfl,p,q⟩:=Fb el e2;cases da with
   | @tup a us _ t l f =>
    have:=vS (⟨l,f⟩:El K Y H us es) e1;subst this;refine⟨a::bs,rfl,.cons t.1 p,fun b hb=>?_⟩;rcases Xd.mp hb with rfl|hb
    ·exact⟨t.2,by rw[t.1];simp⟩
    ·exact q b hb
  | _=>cases e
theorem Fc {b:Addr} {ds:List D} {vs:List V} {k:bA} (t:H b=some (.tup vs)) (h:El K Y H vs ds) (e:xA ds=some k):TupK H b k/\∀c,V.ref c∈vs->¬ Y c/\H c≠none:=by
 unfold xA at e;split at e
 ·next ks e1 =>
  cases e;have:=vS h e1;subst this;refine⟨t,fun c hc=>?_⟩;obtain⟨k,_,e⟩:=Yc.mp hc;cases k<;>cases e
 ·refine bP e fun ks e1 e=>?_;by_cases c:ks=[]
  ·rw[Ae c]at e;cases e
  ·rw[Ai c]at e;cases e;obtain⟨bs,rfl,p,q⟩:=Fb h e1;refine⟨⟨c,bs,t,p⟩,fun c hc=>?_⟩;obtain⟨b,hb,e⟩:=Yc.mp hc;cases e;exact q c hb
def OX:D->D->Option (Option D)
 | .dt kvs,.tup ds=>(xA ds).bind fun ks=>some (ck kvs ks)
 | .dk kvs,d=>(keyD d).bind fun k=>some (ck kvs k)
 | _,_=>none
theorem NN (b1:BA K Y H x d1) (b2:BA K Y H y d2) (e:OX d1 d2=some o):∃(a:Addr) (r:Option V),x=.ref a/\DGet H a y r/\((r=none/\o=none)∨∃v d,r=some v/\o=some d/\DA K Y H v d):=by
 cases d1 with
 | dt kvs =>
  cases d2 with
  | tup ds =>
   refine bP e fun ks e1 e=>?_;cases e;obtain⟨a,ep,kv,rfl,_,h1,h2,h3⟩:=b1;obtain⟨b,vs,rfl,t,el⟩:=b2;exact⟨a,_,rfl,DGet.t h1 (Fc t.1 el e1).1,Go.look ks ⟨h2,h3⟩⟩
  | _=>cases e
 | dk kvs =>
  refine bP e fun k e1 e=>?_;cases e;obtain⟨a,kv,rfl,h1,h2,h3⟩:=b1;have:=Jg b2 e1;subst this;exact⟨a,_,rfl,DGet.k h1,Go.look k ⟨h2,h3⟩⟩
 | _=>cases e
def Po:R2:=fun x y H Q=>∃a v,x=.ref a/\DGet H a y (some v)/\Q v H
def lJ:D->D->Option Rz:=fun d1 d2=>(OX d1 d2).bind fun o=>o.bind fun d=>some (d,false)
theorem n6:RdOp K Po lJ:=by
 intro Y H x y d1 d2 z Q lv b1 b2 e q;refine bP e fun o e1 e=>?_;obtain⟨d,rfl,e⟩:=Option.bind_eq_some_iff.mp e;cases e;obtain⟨a,r,rfl,g,h|⟨v,d',rfl,h2,da⟩⟩:=NN b1 b2 e1
 ·cases h.2
 ·cases h2;exact⟨a,v,rfl,g,q v H (Same.refl H) da⟩
def NO (neg:Bool):R2:=fun y x H Q=>∃(a:Addr) (o:Option V),x=.ref a/\DGet H a y o/\Q (.bl (if neg then !o.isSome else o.isSome)) H
def Lr (neg:Bool):D->D->Option Rz:=fun d2 d1=>(OX d1 d2).bind fun o=>some (.bl (if neg then !o.isSome else o.isSome),false)
theorem Lu (neg:Bool):RdOp K (NO neg) (Lr neg):=by
 intro Y H y x d2 d1 z Q lv b2 b1 e q;refine bP e fun o e1 e=>?_;cases e;obtain⟨a,r,rfl,g,h⟩:=NN b1 b2 e1;refine⟨a,r,rfl,g,?_⟩;have:r.isSome=o.isSome:=by
  rcases h with⟨rfl,rfl⟩|⟨v,d,rfl,rfl,_⟩<;>rfl
 rw[this];exact q _ H (Same.refl H) (.bl _)
def Jh:zM:=fun x k v H Q=>∃a,x=.ref a/\M3 H a k v Q
def qF:D->D->D->Option D
 | .dt kvs,.tup ds,v=>(xA ds).bind fun ks=>if kvs.length<100000 then some (.dt (iT kvs ks v)) else none
 | .dk kvs,d,v=>(keyD d).bind fun k=>if kvs.length<100000 then some (.dk (iT kvs k v)) else none
 | _,_,_=>none
theorem mH:D1 K Jh qF:=by
 intro Y H p x k v dk dv x' Q hp ho bk da e q;have lim:(100000:Nat)<=sizeLine:=by rw[B5];decide
 cases x with
 | dt kvs =>
  cases dk with
  | tup ds =>
   refine bP e fun ks e1 e=>?_;by_cases c:kvs.length<100000
   ·rw[Ae c]at e;cases e;obtain⟨ep,kv,ka,h1,h2,h3⟩:=ho;obtain⟨b,vs,rfl,t,el⟩:=bk;obtain⟨tk,tc⟩:=Fc t.1 el e1;have g:Go (DA K Y H) kv kvs:=⟨h2,h3⟩;refine⟨p,rfl,.inr ⟨ep,kv,ks,b,h1,rfl,tk,by have:=g.len;lia,fun n=>q _ ?_⟩⟩
    have g':=(g.put ks da).map (S:=DA K Y (upd H p (.dT (n,yB ep.2 kv ks b) (putK kv ks v)))) fun v d h=>h.upd hp;refine⟨(n,yB ep.2 kv ks b),_,KA.go (Y:=Y) (H:=H) (fun c hc=>?_) (fun c o e n=>by rw[aN fun z=>n (by rw[z];exact hp)];exact e) (fun c z=>.inl z),bx,g'.1,g'.2⟩
    unfold yB at hc;split at hc
    ·exact ka c hc
    ·rcases Zd.mp hc with hc|hc
     ·exact ka c hc
     ·rw[Vb.mp hc];refine⟨⟨t.2,by rw[t.1];simp⟩,fun xs e2 c2 hc2=>?_⟩
      rw[t.1]at e2;cases e2;exact tc c2 hc2
   ·rw[Ai c]at e;cases e
  | _=>cases e
 | dk kvs =>
  refine bP e fun kk e1 e=>?_;by_cases c:kvs.length<100000
  ·rw[Ae c]at e;cases e;obtain⟨kv,h1,h2,h3⟩:=ho;have:=Jg bk e1;subst this;have g:Go (DA K Y H) kv kvs:=⟨h2,h3⟩;refine⟨p,rfl,.inl ⟨kv,kk,h1,rfl,by have:=g.len;lia,q _ ?_⟩⟩
   have g':=(g.put kk da).map (S:=DA K Y (upd H p (.dK (putK kv kk v)))) fun v d h=>h.upd hp;exact⟨_,bx,g'.1,g'.2⟩
  ·rw[Ai c]at e;cases e
 | _=>cases e
def xB (d:D):FE:=fun st=>some (.f d,st)
theorem Fe:d7 K z9 (xB (.dt [])):=by
 intro st σ H O Z Q E r st' h q;cases h;intro p hp;have hres:RES K (U O Z) H (upd H p (.dT (0,[]) [])) (.ref p) (.dt [],true):=⟨p,rfl,hp,(0,[]),[],(fun _ z=>nomatch z),bx,rfl,fun i v d a _=>by simp at a⟩
 obtain⟨E3,rv⟩:=hres.rv E (aU hp _);exact q _ _ O (Same.ext (aU hp _)) (Kp.refl _) E3 rv fun p' e=>by cases e;exact hp
theorem Ff:d7 K z8 (xB (.dk [])):=by
 intro st σ H O Z Q E r st' h q;cases h;intro p hp;have hres:RES K (U O Z) H (upd H p (.dK [])) (.ref p) (.dk [],true):=⟨p,rfl,hp,[],bx,rfl,fun i v d a _=>by simp at a⟩
 obtain⟨E3,rv⟩:=hres.rv E (aU hp _);exact q _ _ O (Same.ext (aU hp _)) (Kp.refl _) E3 rv fun p' e=>by cases e;exact hp
end
section
variable {X:Cx}
theorem lK (hu:X.A.units+2<cLine) (ho:PE X o td) (hi:PE X i ty) (hs:JT i):PE X (.Subscript o i pos) (zO Po td ty):=GM hu ho hi hs
theorem zd (hu:X.A.units+2<cLine):OpR X (compareOp .NotIn) (NO true):=by
 intro pins s σ H y x v u Q I ry rx h;obtain⟨a,o,rfl,g,q⟩:=h;cases rx;exact GK hu I g ry fun s' I'=>⟨.bl (!o.isSome),H,I',rfl,q⟩
theorem mI (hu:X.A.units+2<cLine):JE X Jh:=by
 intro pins s σ H o i v ov iv u Q I ro ri rv h;obtain⟨a,rfl,g⟩:=h;cases ro;exact yD hu I g ri rv fun s' H' I' q=>⟨H',I',q⟩
end
end VF22
namespace VF22
open PySem PySem.Spec PyProof.Rows L2 VF
section
variable {prog:Program} {w:World} {A:Around} {E:Value->Shared->Prop} {s:Shared}
def RawD (h:Heap) (d:Addr) (es:Array DictEntry) (ep:Nat):Prop:=∃o,h.get? d=some o/\o.ExactDict/\o.data=.dict es ep
theorem RawD.at {h h':Heap} (x:RawD h d es ep) (e:∀o,h.get? d=some o->h'.get? d=some o):RawD h' d es ep:=let ⟨o,ho,r⟩:=x;⟨o,e _ ho,r⟩
theorem RawD.typeIs (x:RawD s.heap d es ep):s.TypeIs (.ref d) "dict":=let ⟨o,ho,c,_⟩:=x;⟨o,ho,c.1⟩
theorem Fg {es:Array DictEntry} (hd:(d == sysModules)=false) (hm:RawD s.heap d es ep)
  (q:Q (.ref s.heap.objs.size) { s with heap:=s.heap.push { cls:=.type "dict_keyiterator",data:=.fields #[.ref d,.int 0 0,.int es.size 0,.int ep 0] } }) :
  wpAny (model prog w) A (pyIter (.ref d)) Q E s:=by
 have ty:=hm.typeIs;obtain⟨o,ho,hc,dat⟩:=hm;refine wpAny_pyIter_slot ty F.slot_dict_iter (An F.slot_dict_iter ty F.entry_dict_iter ?_ (F.args_dict_iter_1 _));unfold Builtin.«dict.__iter__»;refine Aa ?_;unfold Builtin.Dict.dictSlotNone;refine Aa (wpAny_notOrdered_dict ty ?_);show wpAny _ _ (pure (Value.ref d)) _ _ s;refine Ab ?_;show wpAny _ _ (Builtin.Dict.showsAll d >>= _) _ _ s;unfold Builtin.Dict.showsAll;rw[Ai (by rw[hd];exact Ze)]
 refine Aa (Ab (Aa (Cy ho dat (Aa (C3 ho dat ?_)))));refine Aa (Am (Ab ⟨_,rfl,"dict_keyiterator",_,⟨_,Ah _ rfl,rfl⟩,F.slot_dict_keyiterator_next.lookup,?_⟩));simpa[rawInt]using q
theorem Fh {es:Array DictEntry} {x:DictEntry} (hit:s.heap.IsKeyIter it d i es.size ep) (hm:RawD s.heap d es ep) (hx:es[i]?=some x)
  (q:∀h',h'.IsKeyIter it d (i+1) es.size ep->Heap.SameBut it s.heap h'->Q (some x.key) { s with heap:=h' }):wpAny (model prog w) A (pyNext (.ref it)) Q E s:=by
 obtain⟨o,ho,hc,hd⟩:=id hit;obtain⟨od,hod,hcd,hdd⟩:=hm;unfold pyNext;refine Aa (AM (Ao (name:=Str.ofString "__next__") hit.typeIs F.slot_dict_keyiterator_next (An F.slot_dict_keyiterator_next hit.typeIs F.entry_dict_keyiterator_next ?_ (F.args_dict_keyiterator_next_1 _))));refine Aa (Ab (Aa (Aa ?_)));refine Aa (AG hit.typeIs (Ab (Aa (wpAny_fieldsOf ho hd ?_))));have own:Builtin.Dict_items.ownsTuple "dict_keyiterator"=false:=by decide
 simp only[own,Ye,if_false];show wpAny _ _ (if (Value.ref d == Value.none)=true then _ else _) _ _ s;rw[Ai (show ¬ ((Value.ref d == Value.none)=true) from Ze)];refine Aa (Ab (Aa (Cy hod hdd ?_)));rw[Ai (by simp)];refine Aa (Ab (Aa (C3 hod hdd ?_)))
 rw[Ai (by simp)];refine Ab ?_
 have hlt:i<es.size:=(Array.getElem?_eq_some_iff.mp hx).1;have ex:es[i]=x:=(Array.getElem?_eq_some_iff.mp hx).2;simp only[show ¬ ((i:Int)<0) from by lia,if_false,Zn,hx]
 refine Aa (Aa (AG hit.typeIs (Ab (Aa (wpAny_isOneOf_keyiter hit.typeIs ?_)))));show wpAny _ _ (setField (.ref it) 1 (rawInt ((i:Int)+1)) >>= _) _ _ s;refine Aa (AW ho hd (by simp) ?_)
 have hit':(s.heap.update it (Obj.mapFields (·.setIfInBounds 1 (rawInt ((i:Int)+1))))).IsKeyIter it d (i+1) es.size ep:=⟨_,AR _ ho (Bo (Ax hd _)),(CD ..).trans hc,by rw[Ax hd];simp[rawInt]⟩
 refine Aa (As (Aa (wpAny_isOneOf_keyiter (s:={ s with heap:=s.heap.update it (Obj.mapFields (·.setIfInBounds 1 (rawInt ((i:Int)+1)))) }) hit'.typeIs ?_)));show wpAny _ _ (pure x.key) _ _ _;exact Ab (Ab ⟨_,rfl,Ab (q _ hit' (AC ..))⟩)
theorem HF {es:Array DictEntry} (hh:A.handled=none) (hit:s.heap.IsKeyIter it d i es.size ep) (hm:RawD s.heap d es ep) (hx:es.size<=i)
  (q:∀h',Heap.ExtBut it s.heap h'->Q none { s with heap:=h' }):wpAny (model prog w) A (pyNext (.ref it)) Q E s:=by
 obtain⟨o,ho,hc,hd⟩:=id hit;obtain⟨od,hod,hcd,hdd⟩:=hm;unfold pyNext;refine Aa (AM (Ao (name:=Str.ofString "__next__") hit.typeIs F.slot_dict_keyiterator_next (An F.slot_dict_keyiterator_next hit.typeIs F.entry_dict_keyiterator_next ?_ (F.args_dict_keyiterator_next_1 _))));refine Aa (Ab (Aa (Aa ?_)));refine Aa (AG hit.typeIs (Ab (Aa (wpAny_fieldsOf ho hd ?_))));have own:Builtin.Dict_items.ownsTuple "dict_keyiterator"=false:=by decide
 simp only[own,Ye,if_false];show wpAny _ _ (if (Value.ref d == Value.none)=true then _ else _) _ _ s;rw[Ai (show ¬ ((Value.ref d == Value.none)=true) from Ze)];refine Aa (Ab (Aa (Cy hod hdd ?_)));rw[Ai (by simp)];refine Aa (Ab (Aa (C3 hod hdd ?_)))
 rw[Ai (by simp)];refine Ab ?_
 simp only[show ¬ ((i:Int)<0) from by lia,if_false,Zn,Array.getElem?_eq_none hx]
 refine Aa (Aa (AG hit.typeIs (Ab ?_)));show wpAny _ _ (setField (.ref it) 0 .none >>= _) _ _ s;refine Aa (AW ho hd (by simp) ?_)
 show wpAny _ _ (newExc (.type "StopIteration") [] >>= _) _ _ _;refine Aa ?_;simp only[newExc,newTuple];refine Aa (Am ?_ (by size_fits))
 refine Aa (m:=firstArgMember _ _) (AX (a:=Value.none) (by first|rfl|(simp only[firstArgMember];rfl)) (Am ?_ (by size_fits)))
 simp only[raiseNew];refine Aa (wpAny_handled ?_);rw[show A.in1.handled=none from hh];refine Aa (Ab (wpAny_throw ?_));refine Aa (AZ (T:="StopIteration") (b:=true) ⟨_,Ah _ rfl,rfl⟩ Db (Ab (q _ ?_)));exact((AC ..).extBut.push _).push _
theorem ze (hh:A.handled=none) (I d:Addr) (hne:d≠I) (es:Array DictEntry) (ep:Nat) :
  Walks prog w A I [I,d] [I] es.size (fun i v=>(es[i]?).map (·.key)=some v) (fun i h=>h.IsKeyIter I d i es.size ep/\RawD h d es ep) where
 sub:=fun b hb=>by simp at hb;simp[hb]
 frame:=fun _ _ _ st hk=>⟨st.1.at fun o e=>hk I (by simp) o e,st.2.at fun o e=>hk d (by simp) o e⟩
 item:=fun i s Q E hi st hQ=>by
  have hx:es[i]?=some es[i]:=A8 hi;refine Fh st.1 st.2 hx fun h' hit' hs'=>hQ _ h' s.toks (by rw[hx];rfl) ⟨hit',st.2.at fun o e=>hs'.extBut d o hne e⟩ fun b o hb e=>hs'.extBut b o (fun z=>hb (by simp[z])) e
 done:=fun s Q E st hQ=>HF hh st.1 st.2 (Xa _) fun h' he'=>hQ h' s.toks fun b o hb e=>he' b o (fun z=>hb (by simp[z])) e
 self:=fun _ _ _ _ st hQ=>wpAny_pyIter_keyiter st.1 hQ
end
end VF22
namespace VF22
open PySem PySem.Spec PyProof.Rows L2 VF
section
variable {P:Program} {w:World} {H:Hp} {h:Heap} {a:Addr} {ep:Nat×List Addr} {kvs:List (bA×V)}
theorem Lx (ok:HOk P w H h) (e:H a=some (.dT ep kvs)):kvs.length<=sizeLine/\(a == sysModules)=false/\∃(xs:List (bA×Addr×Value)) (es:Array DictEntry),KT H kvs xs/\xs.map (·.2.1)=ep.2/\es.toList=xs.map (entryOfKey (lw P w))/\RawD h a es ep.1/\es.size=kvs.length:=by
 obtain⟨z,y,xs,r,ra,o,es,h1,h2,h3,h4,h5⟩:=(show ObjOk P w H h a (.dT ep kvs) from ok a _ e);refine⟨z,y,xs,es,r,ra,h4,⟨o,h1,h2,h3⟩,?_⟩;have:=congrArg List.length h4;rw[Ya,Wc]at this;rw[this,← Paired.length r]
theorem Ly {xs:List (bA×Addr×Value)} {es:Array DictEntry} (r:KT H kvs xs) (ra:xs.map (·.2.1)=ep.2) (he:es.toList=xs.map (entryOfKey (lw P w))) {i:Nat} {x:DictEntry} (hx:es[i]?=some x) :
  ∃k v b,kvs[i]?=some (k,v)/\ep.2[i]?=some b/\x.key=.ref b/\TupK H b k:=by
 rw[← Wh,he,Qc]at hx;obtain⟨q,e1,e2⟩:=Vc.mp hx;have hb:ep.2[i]?=some q.2.1:=by rw[← ra,Qc,e1];rfl
 have hl:=Paired.length r;have hi:i<kvs.length:=by rw[hl];exact(Wb.mp e1).1
 have go:∀{l:List (bA×V)} {m:List (bA×Addr×Value)},KT H l m->∀{j:Nat} {p:bA×V} {q:bA×Addr×Value},l[j]?=some p->m[j]?=some q->TupK H q.2.1 p.1:=fun {l m} t=>by
  induction t with
  | nil=>intro j p q h1;simp at h1
  | cons hq t ih =>
   intro j p q h1 h2;cases j with
   | zero =>
    cases h1;cases h2;exact hq.2.1
   | succ j=>exact ih (by simpa using h1) (by simpa using h2)
 have ek:kvs[i]?=some (kvs[i].1,kvs[i].2):=Za hi;refine⟨kvs[i].1,kvs[i].2,q.2.1,ek,hb,by rw[← e2];rfl,go r ek e1⟩
end
section
variable {X:Cx} {K:PySem.W.Frag} {O O' Z:AS} {H H':Hp} {tg:Expr}
def zf:Key->D
 | .inl i=>.int i
 | .inr x=>.str x
theorem Lz (k:Key):DA K Y H (kV k) (zf k):=by
 cases k with
 | inl i=>exact .int i
 | inr x=>exact .str x
theorem si:∀ks:List Key,El K Y H (ks.map kV) (ks.map zf)
 | []=>El.nil
 | k::r=>El.cons (Lz k) (si r)
def g7:bA->D
 | .inl ks=>.tup (ks.map zf)
 | .inr kss=>.tup (kss.map fun ks=>.tup (ks.map zf))
theorem qG {k:List Key} (h:H b=some (.tup (k.map kV))) (n:¬ Y b):DA K Y H (.ref b) (.tup (k.map zf)):=.tup ⟨h,n⟩ (si (K:=K) (H:=H) (Y:=Y) k).1 (si k).2
theorem uE {k:bA} (h:TupK H b k) (n:¬ Y b) (m:∀xs,H b=some (.tup xs)->∀c,V.ref c∈xs->¬ Y c):DA K Y H (.ref b) (g7 k):=by
 cases k with
 | inl k=>exact qG h n
 | inr k =>
  obtain⟨hk,bs,e,r⟩:=h;have mm:=m _ e;clear hk;have el:El K Y H (bs.map V.ref) (k.map fun ks=>.tup (ks.map zf)):=by
   clear e m;induction r with
   | nil=>exact El.nil
   | cons z _ ih=>exact El.cons (qG z (mm _ (Qa ..))) (ih fun c hc=>mm c (Va _ hc))
  exact .tup ⟨e,n⟩ el.1 el.2
def sn:D->Option (List D)
 | .dt kvs=>some (kvs.map fun kv=>g7 kv.1)
 | _=>none
end
end VF22
namespace VF22
open PySem PySem.Spec PyProof.Rows L2 VF TS
section
variable {prog:Program} {w:World} {A:Around} {E:Value->Shared->Prop} {s:Shared}
theorem RawD.lt {h:Heap} (x:RawD h d es ep):d<h.objs.size:=let ⟨_,ho,_⟩:=x;Aj ho
theorem HG {es:Array DictEntry} (lo:(d == sysModules)=false):PySem.W.KdlSrc prog w "dict" d d es.size (fun i v=>(es[i]?).map (·.key)=some v) (fun h=>RawD h d es ep) where
 type:=fun _ m=>m.typeIs
 there:=fun _ m=>⟨m.lt,m.lt⟩
 keep:=fun _ _ m k=>m.at fun o e=>k d (.inl rfl) o e
 notList:=by decide
 notTuple:=by decide
 hint:=fun _ _ _ _ m q=>PySem.W.kdl_hint_dict m.typeIs q
 iter:=fun _ _ hh m=>⟨_,_,(fun _ _ q=>Fg lo m q),ze hh _ d (Vf m.lt) es ep,⟨⟨_,Ah _ rfl,rfl,rfl⟩,m.at fun o e=>Ac _ e⟩⟩
theorem uF {es:Array DictEntry} (hh:A.handled=none) (lo:(d == sysModules)=false) (hm:RawD s.heap d es ep) (hz:es.size<=sizeLine)
  (q:∀h' tk,(∀b o,s.heap.get? b=some o->h'.get? b=some o)->Q (es.toList.map (·.key)) { s with heap:=h',toks:=tk }):wpAny (model prog w) A (collect (.ref d)) Q E s:=by
 refine PySem.W.kdu_collect (HG lo) hh hm hz fun h' tk acc' kp hi=>?_;have e:acc'.toList=es.toList.map (·.key):=by
  refine Bs (by rw[Wc,hi.1,Ya,Wc]) fun i h1 h2=>?_
  have a:(es[i]?).map (·.key)=some acc'[i]:=hi.2 i acc'[i] (A8 (by simpa using h1))
  rw[A8 (by rw[Ya,Wc]at h2;exact h2)]at a
  have a':=Option.some.inj a;rw[Array.getElem_toList,Br,Array.getElem_toList];exact a'.symm
 rw[e];exact q h' tk kp
theorem zg {vs:List Value} {ds:List D} (hh:A.handled=none)
  (coll:∀(A:Around) (E:Value->Shared->Prop) (Q:List Value->Shared->Prop),A.handled=none->(∀h' tk,(∀b o,s.heap.get? b=some o->h'.get? b=some o)->Q vs { s with heap:=h',toks:=tk })->wpAny (model prog w) A (collect x) Q E s) (hz:vs.length<=sizeLine)
  (hn:vs.length=ds.length) (r:∀(i:Nat) u d,vs[i]?=some u->ds[i]?=some d->RH s.heap u d) (pl:∀d∈ds,Pl 40 d) (ca:CA 40 ds) (hk:Kd ds κ) (hu:A.units+64<cLine) (h64:vs.length<64)
  (fin:∀(γ:Array Nat) (h':Heap) (a:Addr) (n tk:Nat),γ.Perm (Array.range vs.length)->Sg (cD ds) γ 0 vs.length->(∀b o,s.heap.get? b=some o->h'.get? b=some o)->(∀b o,s.heap.get? b=some o->b≠a)->h'.get? a=some (seqObj "list" (bD vs γ) n)->Q (.ref a) { s with heap:=h',toks:=tk }) :
  wpAny (model prog w) A (call (.builtin "sorted") [x]) Q E s:=by
 refine Dm kind_sorted plain_sorted entry_sorted (args_sorted1 _) ?_;refine Aa (m:=checkCount "sorted" 1 1 _) (Ab (Aa (coll _ _ _ hh fun h1 tk kp=>Aa (Bt ?_))));have mine:(h1.push (seqObj "list" vs.toArray 0)).get? h1.objs.size=some (seqObj "list" vs.toArray 0):=Ah _ rfl;show wpAny _ _ _ _ _ { s with heap:=h1.push (seqObj "list" vs.toArray 0),toks:=tk };refine Aa (As (An slot_list_sort ⟨_,mine,rfl⟩ entry_list_sort ?_ (args_list_sort _)));have old2:∀b o,s.heap.get? b=some o->b≠h1.objs.size:=fun b o e=>Vf (Aj (kp b o e));refine qE (s:={ s with heap:=h1.push (seqObj "list" vs.toArray 0),toks:=tk }) mine hz hn (fun i u d e1 e2=>(r i u d e1 e2).kept fun b o e=>?_) pl ca hk (by show A.units+1+1+40<cLine;lia) fun γ p g=>?_
 ·exact Ac _ (Ac _ ((Aw _ _ _ _ (old2 b o e)).trans (Ac _ (kp b o e))))
 ·obtain⟨n,hn'⟩:=sortedHeap_at (n:=0) (vs:=vs) (out:=bD vs γ) mine;refine⟨_,rfl,Ab ⟨_,rfl,fin γ _ _ n tk p g (fun b o e=>?_) old2 hn'⟩⟩;have hb:b<(h1.push (seqObj "list" vs.toArray 0)).objs.size:=by rw[size_push'];exact Bj (Aj (kp b o e))
  rw[sortedHeap_old (old2 b o e) hb];exact Ac _ (kp b o e)
end
section
variable {X:Cx} {K:PySem.W.Frag} {Y:AS} {H:Hp}
def Fi:List V->Hp->VK->Prop:=fun xs H Q=>∃(a:Addr) (ep:Nat×List Addr) (kvs:List (bA×V)) (κ:SortKind),xs=[.ref a]/\H a=some (.dT ep kvs)/\(∀x∈kvs.map (fun kv=>g7 kv.1),Pl 40 x)/\CA 40 (kvs.map fun kv=>g7 kv.1)/\Kd (kvs.map fun kv=>g7 kv.1) κ/\(kvs.map fun kv=>g7 kv.1).length<64 /\
 ∀(p:Addr) (bs:List Addr),H p=none->(∀b∈bs,b∈ep.2)->(∃ks:List bA,ks.map (fun k=>g7 k)=dQ 40 (kvs.map fun kv=>g7 kv.1)/\bs.length=ks.length/\∀(i:Nat) b k,bs[i]?=some b->ks[i]?=some k->TupK H b k)->Q (.ref p) (upd H p (.lst (bs.map V.ref)))
theorem oZ (h:X.K=K) (hc:X.calm=true) (hr:Room n X.A):CallR X (.builtin "sorted") Fi:=by
 intro pins s σ H xs us Q I rv hh;obtain⟨a,ep,kvs,κ,rfl,ha,pl,ca,hk,h64,q⟩:=hh;obtain⟨u,rfl,ru⟩:=vals1 rv;cases ru;obtain⟨hz,lo,xs,es,rk,ra,he,rw',esz⟩:=Lx I.hok ha;have key:∀(i:Nat) (x:DictEntry),es[i]?=some x->∃k v b,kvs[i]?=some (k,v)/\ep.2[i]?=some b/\x.key=.ref b/\TupK H b k:=fun i x hx=>Ly rk ra he hx;have ln:(es.toList.map (·.key)).length=(kvs.map fun kv=>g7 kv.1).length:=by rw[Ya,Ya,Wc,esz]
 have at_:∀(i:Nat) u,(es.toList.map (·.key))[i]?=some u->∃k v b,kvs[i]?=some (k,v)/\ep.2[i]?=some b/\u=.ref b/\TupK H b k:=fun i u e=>by
  rw[Qc]at e;obtain⟨x,e1,e2⟩:=Vc.mp e;obtain⟨k,v,b,g1,g2,g3,g4⟩:=key i x (by rw[← Wh];exact e1)
  exact⟨k,v,b,g1,g2,by rw[← e2];exact g3,g4⟩
 refine bV (zg (vs:=es.toList.map (·.key)) (ds:=kvs.map fun kv=>g7 kv.1) (κ:=κ) (I.ok.hd hc) (fun A E Q hA q=>uF hA lo rw' (by rw[esz];exact hz) q) (by rw[Ya,Wc,esz];exact hz) ln (fun i u d e1 e2=>?_) pl ca hk hr.units (ln ▸ h64) fun γ h' p n tk pm g kp ge hat hle=>?_)
 ·obtain⟨k,v,b,g1,g2,rfl,g4⟩:=at_ i u e1;have e2':=e2;rw[Qc,g1]at e2;cases e2;have da:DA K (fun _=>False) H (.ref b) (g7 k):=uE g4 (fun z=>z) fun _ _ _ _ z=>z;exact da.rh (pl _ (Wa e2')) I h rfl
 ·rw[ln]at pm g;have hpn:H p=none:=by
   cases e:H p with
   | none=>rfl
   | some o =>
    obtain⟨ob,e'⟩:=(I.hok p o e).there;exact absurd rfl (ge p ob e')
  have eo:=EZ ca pm g;have hγ:∀g∈γ.toList,g<kvs.length:=fun g hg=>by
   have:=(Zg.mp pm).mem_iff.mp hg;rw[Zm,Ya]at this;exact Vg.mp this
  have las:ep.2.length=kvs.length:=by rw[← ra,Ya,← Paired.length rk]
  have e2:(bD (es.toList.map (·.key)) γ).toList=γ.toList.map fun g=>(es.toList.map (·.key)).getD g .none:=by unfold bD;simp
  have vw:Vals ((γ.toList.map fun g=>ep.2.getD g 0).map V.ref) (bD (es.toList.map (·.key)) γ).toList:=by
   rw[e2,Xf];have:∀l:List Nat,(∀g∈l,g<kvs.length)->Vals (l.map (V.ref ∘ fun g=>ep.2.getD g 0)) (l.map fun g=>(es.toList.map (·.key)).getD g .none):=fun l=>by
    induction l with
    | nil=>exact fun _=>.nil
    | cons g l ih =>
     intro hl;have hg:g<kvs.length:=hl g Qa;have a1:(es.toList.map (·.key))[g]?=some ((es.toList.map (·.key))[g]'(by rw[ln,Ya];exact hg)):=Za _
     obtain⟨k,v,b,g1,g2,g3,g4⟩:=at_ g _ a1;refine .cons ?_ (ih fun x hx=>hl x (Va _ hx));show(es.toList.map (·.key)).getD g .none=Value.ref (ep.2.getD g 0);rw[Xb,Xb,a1,g2,Option.getD_some,g3];rfl
   exact this _ hγ
  refine⟨.ref p,upd H p (.lst ((γ.toList.map fun g=>ep.2.getD g 0).map V.ref)),I.laid2 kp ge hpn ⟨?_,(bD (es.toList.map (·.key)) γ).toList,n,vw,by simpa using hat⟩ (I.tkl' hle),rfl,q p _ hpn (fun b hb=>?_) ⟨γ.toList.map fun g=>(kvs.map (·.1)).getD g (.inl []),?_,by simp,fun i b k h1 h2=>?_⟩⟩
  ·rw[Ya,Ya,Wc,pm.size_eq,Vk,Ya];exact hz
  ·obtain⟨g,hg,rfl⟩:=Yc.mp hb;have hg':=hγ g hg;rw[Xb,Za (by lia)]
   exact AF _
  ·rw[← eo,Xf];refine Xj fun g hg=>?_;have hg':=hγ g hg;show g7 ((kvs.map (·.1)).getD g (.inl []))=_;rw[lH (d:=g7 kvs[g].1) (by rw[Qc,Za hg'];rfl),Xb,Qc,Za hg'];rfl
  ·rw[Qc]at h1 h2;obtain⟨g1,k1,k2⟩:=Vc.mp h1;obtain⟨g2,k3,k4⟩:=Vc.mp h2;rw[k1]at k3;cases k3;have hg':=hγ g1 (Wa k1);have a1:(es.toList.map (·.key))[g1]?=some ((es.toList.map (·.key))[g1]'(by rw[ln,Ya];exact hg')):=Za _
   obtain⟨k',v,b',f1,f2,f3,f4⟩:=at_ g1 _ a1;rw[Xb,f2]at k2;rw[Xb,Qc,f1]at k4;subst k2 k4;exact f4
open Classical in
noncomputable def kN:List D->Option Rz
 | [d]=>match sn d with
  | some ds=>if (∀x∈ds,Pl 40 x)/\CA 40 ds/\(∃κ,Kd ds κ)/\ds.length<64 then some (.lst (dQ 40 ds),true) else none
  | none=>none
 | _=>none
theorem uG:RdCB K Fi kN:=by
 intro Y H xs ds z Q lv bs e q;cases bs with
 | nil=>cases e
 | @cons v vs d ds b1 bs =>
  cases bs with
  | cons _ _=>cases e
  | nil =>
   cases d with
   | dt kd =>
    unfold kN at e;dsimp only[sn]at e;obtain⟨a,ep,kvs,rfl,ka,h1,h2,h3⟩:=b1;have ek:(kd.map fun kv=>g7 kv.1)=kvs.map fun kv=>g7 kv.1:=by
     have:∀{α:Type} (l:List (bA×α)),(l.map fun kv=>g7 kv.1)=(l.map (·.1)).map fun k=>g7 k:=fun l=>by rw[Xf];rfl
     rw[this,this,h2]
    rw[ek]at e;obtain⟨c,e⟩:=aL e;cases e;obtain⟨c1,c2,⟨κ,c3⟩,c4⟩:=c;refine⟨a,ep,kvs,κ,rfl,h1,c1,c2,c3,c4,fun p bs hp hb ⟨ks,k1,k2,k3⟩=>q _ _ (aU hp _) (gu ?_ hp)⟩;rw[← k1];refine⟨by rw[Ya,Ya,k2],fun i v d e1 e2=>?_⟩
    rw[Qc]at e1 e2;obtain⟨b,f1,rfl⟩:=Vc.mp e1;obtain⟨k,f2,rfl⟩:=Vc.mp e2;exact uE (k3 i b k f1 f2) (ka b (hb b (Wa f1))).1.1 fun xs e c hc=>((ka b (hb b (Wa f1))).2 xs e c hc).1
   | _=>cases e
end
end VF22
namespace VF22
open PySem L2 VF
section
variable {K:PySem.W.Frag} {Y Y' O O' O1 O2 Z:AS} {H H' H1 H2:Hp} {v:V} {d:D} {vs:List V} {ds:List D} {a p:Addr} {st st' st1 st2:En} {σ σ':L2.St}
def MA (i:Nat) (st:En):Option En:=match st[i]? with
 | some (.io d)=>some (st.set i (.o d))
 | _=>none
def NP (i:Nat) (st:En):Option En:=match st[i]? with
 | some (.o d)=>some (st.set i (.io d))
 | _=>none
def Fj (i:Nat) (st:En):Option (List D):=match st[i]? with
 | some (.io (.lst ds))=>some ds
 | _=>none
theorem ER.sw {s t:Sl} (E:ER K st σ H O Z) (h:st[i]?=some s) (hs:s.ow=some d) (ht:t.ow=some d):ER K (st.set i t) σ H O Z:=by
 have nv:∀x,t≠.v x:=fun x z=>by subst z;cases ht
 have back:∀(j:Nat) (u:Sl) (x:D),(st.set i t)[j]?=some u->u.ow=some x->∃u',st[j]?=some u'/\u'.ow=some x:=fun j u x hj hu=>by
  by_cases e:i=j
  ·subst e;rw[aT h]at hj;cases hj;rw[ht]at hu;cases hu;exact⟨s,h,hs⟩
  ·rw[aC e]at hj;exact⟨u,hj,hu⟩
 refine⟨by simp[E.len],fun j x hj=>?_,fun j u x hj hu=>?_,fun j k u u' x y p hj hu hk hu' e1 e2=>?_,E.dis,E.liv⟩
 ·by_cases e:i=j
  ·subst e;rw[aT h]at hj;exact absurd (Option.some.inj hj) (nv x)
  ·rw[aC e]at hj;exact E.val j x hj
 ·obtain⟨u',h1,h2⟩:=back j u x hj hu;exact E.own j u' x h1 h2
 ·obtain⟨w1,h1,h2⟩:=back j u x hj hu;obtain⟨w2,h3,h4⟩:=back k u' y hk hu';exact E.uni j k w1 w2 x y p h1 h2 h3 h4 e1 e2
theorem Fk (E:ER K st σ H O Z) (h:MA i st=some st'):ER K st' σ H O Z/\∃d,st[i]?=some (.io d)/\st'=st.set i (.o d):=by
 unfold MA at h;split at h
 ·rename_i d e
  cases h;exact⟨ER.sw E e rfl rfl,d,e,rfl⟩
 ·cases h
theorem Fm {s0:Sl} (h0:st[i]?=some s0) (n0:s0.isIo=false) (k:Kq (st.set i (.io d)) σ st1 σ') (e:st'=st1.set i (.o d')∨st'=st1):Kq st σ st' σ':=by
 have hl:=k.len;rw[List.length_set]at hl;refine⟨by rcases e with e|e<;>(subst e;simp[hl]),fun j x hj=>?_⟩
 have ne:i≠j:=fun z=>by subst z;rw[h0]at hj;cases hj;cases n0
 obtain⟨e1,d2,e2⟩:=k.io j x (by rw[aC ne];exact hj)
 refine⟨e1,d2,?_⟩;rcases e with e|e<;>subst e
 ·rw[aC ne];exact e2
 ·exact e2
end
end VF22
namespace VF22
open PySem PySem.Spec PyProof.Rows L2 VF
section
variable {X:Cx} {K:PySem.W.Frag}
@[irreducible] def Ji (X:Cx) (es:List Expr) (t:TA):Prop:=PA X es t
theorem xC:Ji X [] mB:=by unfold Ji;exact ak
theorem jY (ha:PE X e te) (hr:Ji X es t) (h:iY e=true):Ji X (e::es) (dL te t):=by
 unfold Ji at *;exact aF ha hr h
theorem xD (h:Ji X es t):PE X (.List es pos) (zV t):=by
 unfold Ji at h;exact fq h
@[irreducible] def Jj (X:Cx) (e:Expr) (t:TE):Prop:=PE X e t
theorem HH (h:Ji X es t):Jj X (.List es pos) (zV t):=by
 unfold Jj;exact xD h
theorem LA (hr:IxR X r) (ha:Jj X a ta) (hb:PE X b tb) (hs:rb b):Jj X (.Subscript a b pos) (zO r ta tb):=by
 unfold Jj at *;exact IF hr ha hb hs
end
end VF22
namespace VF22
open PySem PySem.Spec PyProof.Rows L2 VF
section
variable {t:Bool} {P:Program} {w:World} {A:Around} {E:Value->Shared->Prop} {s:Shared}
abbrev eE (t:Bool) (h:Heap) (l:Addr):Heap:=(zA t h l).push { cls:=.type "enumerate",data:=.fields #[.none,.bool false,.ref h.objs.size,rawInt 0,.none,.none] }
theorem zh (t:Bool) (l:Addr) (xs:Array Value):Meets (Builtin.«enumerate.__new__» ⟨[.type "enumerate",.ref l],[]⟩) (fun _ R s=>So t s.heap l xs/\R (.ok (.ret (.ref (zA t s.heap l).objs.size))) { s with heap:=eE t s.heap l }) :=
 .of_wp fun prog w A R s h=>by
  obtain⟨hp,g,d,tk,os⟩:=s;obtain⟨v1,q⟩:=h;have hsub:=sub_enumerate;have L1:So t (Shared.heap ⟨hp,g,d,tk,os⟩) l xs:=v1;obtain⟨⟨c0,d0,dt0,sl0⟩,ho,hc0,n0,hd0⟩:=id v1;replace hc0:c0=.type (Pm t):=hc0;replace hd0:dt0=.seq xs n0:=hd0;subst hc0 hd0;cases t with
  | false =>
   wp_walk using Ay ho
   refine wpAny_stack_any fun z=>Ab ?_;split
   ·rename_i u _ _ _ _ _
    cases (u == Value.type "enumerate")<;>(wp_walk using Ay ho,nV L1;exact⟨_,rfl,q⟩)
   ·wp_walk using Ay ho,nV L1
    exact⟨_,rfl,q⟩
  | true =>
   wp_walk using Ay ho
   refine wpAny_stack_any fun z=>Ab ?_;split
   ·rename_i u _ _ _ _ _
    cases (u == Value.type "enumerate")<;>(wp_walk using Ay ho,nV L1;exact⟨_,rfl,q⟩)
   ·wp_walk using Ay ho,nV L1
    exact⟨_,rfl,q⟩
theorem zi (v1:So t s.heap l xs)
  (q:∀g,IsEnum g (s.heap.objs.size+1) s.heap.objs.size 0 .none->Io t g s.heap.objs.size l 0->(∀c o,s.heap.get? c=some o->g.get? c=some o)->Q (.ref (s.heap.objs.size+1)) { s with heap:=g }) :
  wpAny (model P w) A (call (.type "enumerate") [.ref l]) Q E s:=by
 refine callType_new F.called_enumerate (by decide) (F.typeCall_enumerate_1 _) (F.newCall_enumerate_1 _) (fun o=>F.args_object_init_2 o _) F.entry_enumerate_new (zh t l xs) ⟨v1,?_⟩
 have m1:(zA t s.heap l).objs.size=s.heap.objs.size+1:=Dh ..;have g2:(eE t s.heap l).get? (zA t s.heap l).objs.size=some _:=Ah _ rfl;have g1:(eE t s.heap l).get? s.heap.objs.size=some (zI t l):=Ac _ (Ah _ rfl);show _/\_;rw[m1]at g2;rw[m1];exact⟨⟨_,g2,rfl⟩,q _ g2 ⟨_,g1,rfl,rfl⟩ fun c o e=>Ac _ (Ac _ e)⟩
theorem NQ (a:Io t h it l i) (b:So t h l xs):l≠it:=by grind [Io,So]
theorem LB (hh:A.handled=none) (he:IsEnum s.heap e it k old) (a:Io t s.heap it l i) (b:So t s.heap l xs) (hx:xs[i]?=none)
  (q:∀g,Heap.ExtBut it s.heap g->Q none { s with heap:=g }):wpAny (model P w) A (pyNext (.ref e)) Q E s:=by
 have ty:s.TypeIs (.ref e) "enumerate":=⟨_,he,rfl⟩;unfold pyNext;refine Aa (AM (Ao (name:=Str.ofString "__next__") ty F.slot_enumerate_next (An F.slot_enumerate_next ty F.entry_enumerate_next ?_ (F.args_enumerate_next_1 _))));show wpAny _ _ (field (.ref e) 2 >>= _) _ _ _;refine Aa (Aq he rfl (x:=.ref it) rfl (Aa (EJ (A:=A.in1) hh a b hx fun g y ex hy=>?_)));obtain⟨o,ho,hc⟩:=hy;exact Aa (AZ (T:="StopIteration") (b:=true) ⟨o,ho,hc⟩ Db (Ab (q _ ex)))
theorem Py {xs:Array Value} (hh:A.handled=none) (ne:l≠it):Draws P w A it [it,l] xs.size (fun i x=>xs[i]?=some x) (fun i h=>Io t h it l i/\So t h l xs) where
 live:=fun i h st=>by
  obtain⟨⟨o,ho,_⟩,_⟩:=st;exact⟨o,ho⟩
 frame:=fun i h h' st k=>⟨st.1.by fun o q=>k it (by simp) o q,st.2.by fun o q=>k l (by simp) o q⟩
 item:=fun i s Q E hi st hQ=>NC st.1 st.2 (x:=xs[i]) (by simp[hi]) fun h1 i1 sb=>hQ _ h1 s.toks (by simp[hi]) ⟨i1,st.2.by fun o q=>(sb.2 l ne).trans q⟩ sb
 done:=fun s Q E st hE=>EJ hh st.1 st.2 (by simp) hE
end
section
variable {X:Cx} {K:PySem.W.Frag} {t:Bool} {pins:List (Addr×Obj)} {σ:L2.St} {H:Hp} {s:Shared} {h':Heap}
def Pp (K : PySem.W.Frag) (t : Bool) (l : Addr) : It :=
  ⟨fun i H => ∃ xs x, Sq K t H l xs ∧ xs[i]? = some x,
   fun i H v H' => ∃ p x, v = .ref p ∧ H p = none ∧ H' = upd H p (.tup [.int (i : Int), x]) ∧ ∀ xs, Sq K t H l xs → xs[i]? = some x,
   fun i H => ∃ xs, Sq K t H l xs ∧ xs.length ≤ i⟩
def Es (t:Bool) (e it l:Addr) (i:Nat) (h:Heap):Prop:=(∃old,IsEnum h e it (i:Int) old)/\Io t h it l i
theorem zj {x1} (ne:e≠it):Turn P w K (.Tuple es x1 ps) (Pp K t l) [e,it] e (Es t e it l) where
 mem:=by simp
 obj:=fun i h st b hb=>by
  obtain⟨⟨old,a1⟩,⟨o2,a2,_,d2⟩⟩:=st;have:b=e∨b=it:=by simpa using hb
  rcases this with rfl|rfl
  ·exact⟨_,a1,fun v m=>by simp at m⟩
  ·exact⟨_,a2,fun v m=>by rw[d2]at m;cases m⟩
 keep:=fun i h h' st k=>by
  obtain⟨⟨old,a1⟩,a2⟩:=st;exact⟨⟨old,k e (by simp) _ a1⟩,a2.by fun o q=>k it (by simp) o q⟩
 item:=by
  intro X hP hw hK hc i pins s σ H E I hf st hg;subst hP hw hK;obtain⟨xs,x,q1,e1⟩:=hg;obtain⟨⟨old,a1⟩,a2⟩:=st;obtain⟨its,rv,p⟩:=q1.so I;obtain⟨u,hu,ru⟩:=rv.get e1;have hn:H s.heap.objs.size=none:=I.hok.fresh (Xa _);have lt:∀b∈[e,it],b≠s.heap.objs.size:=fun b hb=>Vf <| by
   have:b=e∨b=it:=by simpa using hb
   obtain⟨o2,b2,_⟩:=id a2;rcases this with rfl|rfl
   ·exact Aj a1
   ·exact Aj b2
  have nl:=NQ a2 p;have nel:e≠l:=fun z=>by
   obtain⟨o,ho,hd,_⟩:=p;rw[← z,a1]at ho;cases ho;cases t<;>(injection hd with y;exact absurd y (by decide))
  have hi:i<its.toArray.size:=by
   have:=(Wb.mp hu).1;simpa using this
  refine wpAny_pyNext_enum_itemD (Py (A:=X.A.in1) (I.ok.hd hc) nl) a1 ⟨a2,p⟩ hi ne (by simp;exact⟨ne,nel⟩) fun u' g tk hu' z1 st1 pT _ kp=>?_
  have eu:u'=u:=by
   have e1:its.toArray[i]?=some u:=by simpa using hu
   rw[e1]at hu';exact(Option.some.inj hu').symm
  subst eu;refine⟨_,rfl,wpAny_letOwnedTupleGo_enum (s:={ s with heap:=g,toks:=tk+1 }) z1 fun g2 z2 sb=>?_⟩;replace sb:Heap.SameBut e g g2:=sb;have kk:∀c o,c≠e->c≠it->s.heap.get? c=some o->g2.get? c=some o:=fun c o c1 c2 q=>sb.extBut _ _ c1 (kp c o c1 c2 q);have pT2:g2.get? s.heap.objs.size=some { cls:=.type "tuple",data:=.seq #[.int (i:Int) tk,u'] }:=sb.extBut _ _ (AA (lt e (by simp))) pT
  have I1:L2.Inv X pins σ (upd H s.heap.objs.size (.tup [.int (i:Int),x])) { s with heap:=s.heap.push { cls:=.type "tuple",data:=.seq #[.int (i:Int) tk,u'] },toks:=tk+1 } :=
   I.laid (fun b o e=>Ac _ e) (Xa _) ⟨show 2<=sizeLine by decide,[.int (i:Int) tk,u'],.cons ⟨_,rfl⟩ (.cons ru .nil),⟨_,Ah _ rfl,rfl,_,rfl⟩⟩
  have ff:∀b∈[e,it],iV X pins (upd H s.heap.objs.size (.tup [.int (i:Int),x])) b:=fun b hb=>by
   obtain⟨f0,f1,f2,f3,f4,f5⟩:=hf b hb;exact⟨by rw[aN (lt b hb)];exact f0,f1,f2,f3,f4,f5⟩
  have I2:L2.Inv X pins σ (upd H s.heap.objs.size (.tup [.int (i:Int),x])) { s with heap:=g2,toks:=tk+1 }:=by
   refine wY (s:={ s with heap:=s.heap.push { cls:=.type "tuple",data:=.seq #[.int (i:Int) tk,u'] },toks:=tk+1 }) (t':=tk+1) I1 ff fun c o hc q=>?_;have hc':¬ (c=e∨c=it):=fun m=>hc (by simpa using m)
   rcases Heap.get?_push_cases q with⟨rfl,rfl⟩|q
   ·exact pT2
   ·exact kk c o (fun m=>hc' (.inl m)) (fun m=>hc' (.inr m)) q
  refine⟨.ref s.heap.objs.size,_,I2,rfl,⟨_,x,rfl,hn,rfl,fun zs hz=>by rw[hz.inj I q1];exact e1⟩,?_,fun b hb=>(ff b hb).1⟩
  exact⟨⟨_,by rw[Int.natCast_add];exact z2⟩,st1.1.by fun o q=>sb.extBut _ o (AA ne) q⟩
 done:=by
  intro X hP hw hK hc i pins s σ H E I hf st hg;subst hP hw hK;obtain⟨xs,q1,hl⟩:=hg;obtain⟨⟨old,a1⟩,a2⟩:=st;obtain⟨its,rv,p⟩:=q1.so I;have l1:=rv.length;refine LB (I.ok.hd hc) a1 a2 p (by simp;lia) fun g kp=>⟨rfl,wY (t':=s.toks) I hf fun c o hc q=>?_⟩
  have hc':¬ (c=e∨c=it):=fun m=>hc (by simpa using m)
  exact kp c o (fun m=>hc' (.inr m)) q
 self:=fun _ _ _ _ _ st h=>by
  obtain⟨⟨old,a1⟩,_⟩:=st;exact wpAny_pyIter_enum a1 h
def Jk (K:PySem.W.Frag) (ta:TA):TI:=fun σ H R=>ta σ H fun vs H1=>∃t l xs,vs=[.ref l]/\Sq K t H1 l xs/\R (Pp K t l) H1
theorem zk:bootBuiltins "enumerate"=some (.type "enumerate"):=by decide +kernel
theorem HI {x1} (h:X.K=K) (hg:Gl X "enumerate") (hm:X.mg "enumerate"=none) (ha:PE X a te) (hs:starEach [a] X.env=[(false,eval a X.env)]:=by rfl) :
  PI X (.Tuple es x1 ps) (.Call (.Name "enumerate" p) [a] [] pos) (Jk K (dL te mB)):=by
 subst h;intro pins s σ H R I h;have ha':PA X [a] (dL te mB):=nO ha ak (hs.trans rfl);refine Call_ (iU I hg hm zk (AD (cT (ha' pos pins s σ H _ I h) fun us s1 ⟨vs,H1,I1,r1,q1⟩=>?_) (hs.trans rfl) rfl));obtain⟨t,l,xs,e,w1,q⟩:=q1;subst e;cases r1 with
 | cons r rr =>
  cases rr;cases r;obtain⟨its,rv,p⟩:=w1.so I1;refine zi p fun g z n1 kp=>?_;refine wpAny_pyIter_enum (s:={ s1 with heap:=g }) z ⟨_,[s1.heap.objs.size+1,s1.heap.objs.size],_,_,H1,rfl,I1.kept (t':=s1.toks) kp,zj (Nat.succ_ne_self _),⟨⟨_,z⟩,n1⟩,fun b hb=>?_,q⟩;have hb':b=s1.heap.objs.size+1∨b=s1.heap.objs.size:=by simpa using hb
  have le:s1.heap.objs.size<=b:=by
   rcases hb' with m|m<;>(rw[m];first|exact Qi _ _|exact Xa _)
  exact I1.fpOk le (I1.hok.fresh le)
end
end VF22
namespace VF
open PySem L2 PySem.Spec PyProof.Rows
section
variable {X:Cx} {K:PySem.W.Frag}
def Fn (K:PySem.W.Frag):V->List V->Hp->VK->Prop:=fun x vs H Q=>∃(p:Addr) (ys:List Str) (b:Str),x=.ref p/\vs=[.str b]/\gj K H p (ys.map V.str)/\b∈ys/\Q (.int (ys.idxOf b:Nat)) H
theorem uH (h:X.K=K):M5 X "list.index" (Fn K):=by
 intro pins s σ H x vs v us Q I rx rv hh;obtain⟨p,ys,b,rfl,rfl,sq,hb,q⟩:=hh;subst h;cases rx;obtain⟨u,rfl,ru⟩:=vals1 rv;obtain⟨t,rfl⟩:=ru;obtain⟨its,r,pl,hz⟩:=I.list sq;obtain⟨o,n,e,hc,hd,hs⟩:=id pl;have hlen:its.length=ys.length:=by have:=r.length;simpa using this.symm
 have hj:ys.idxOf b<ys.length:=List.idxOf_lt_length_iff.mpr hb;obtain⟨cls,dd,data,sl⟩:=o;simp only at hc hs;subst hc hs;have itAt:∀(i:Nat) v,its[i]?=some v->∃y t',ys[i]?=some y/\v=.str y t':=fun i v hv=>by
  obtain⟨w,e1,rw'⟩:=dB r i v hv;rw[Qc]at e1;obtain⟨y,e2,rfl⟩:=Vc.mp e1;obtain⟨t',rfl⟩:=rw';exact⟨y,t',e2,rfl⟩
 have hyl:ys.length<=2 ^ 24:=by rw[Ya]at hz;exact hz
 let is:Value->Bool:=fun v=>match v with
  | .str y _=>y == b
  | _=>false
 refine BS PySem.F.slot_list_index ⟨_,e,rfl⟩ PySem.F.entry_list_index (PySem.F.args_list_index_2 _ _)
  (PySem.SeqAt.list_indexAt p its.toArray n dd sl (.str b t) is (ys.idxOf b) (by simpa[hlen]using hj) (by lia) ?_ ?_) ⟨e,fun y hy=>?_,?_⟩
 ·have hv:its[ys.idxOf b]?=some its[ys.idxOf b]:=Za (by lia)
  obtain⟨y,t',e1,e2⟩:=itAt _ _ hv;show is its[ys.idxOf b]=true;rw[e2];have:y=b:=by
   rw[Za hj]at e1;have:=Option.some.inj e1;rw[← this];exact List.getElem_idxOf hj
  show(y == b)=true;rw[this];simp
 ·intro m hm hlt;have hm':m<its.length:=by simpa using hm
  have hv:its[m]?=some its[m]:=Za hm';obtain⟨y,t',e1,e2⟩:=itAt _ _ hv;show is its[m]=false;rw[e2];show(y == b)=false;have hmy:m<ys.length:=by lia
  have:=List.not_of_lt_findIdx (p:=(· == b)) (xs:=ys) (i:=m) hlt;rw[Za hmy]at e1;rw[← Option.some.inj e1];simpa using this
 ·obtain⟨i,hi⟩:=Ym (show y∈its by simpa using hy)
  obtain⟨z,t',_,rfl⟩:=itAt i y hi;exact PySem.SeqAt.EqAt.str_str _ _ _ _
 ·exact⟨.int _,H,I.tok _,⟨_,rfl⟩,q⟩
def bIndex:D->List D->Option Rz
 | .lst ds,[.str b]=>(gM ds).bind fun ys=>if b∈ys then some (.int (ys.idxOf b:Nat),false) else none
 | _,_=>none
theorem uI:Hc K (Fn K) bIndex:=by
 intro Y H x xs d ds z Q lv b1 bs e q;cases d with
 | lst es =>
  cases bs with
  | nil=>cases e
  | @cons v vs d ds b2 bs =>
   cases bs with
   | cons _ _=>cases d<;>cases e
   | nil =>
    cases d with
    | str b =>
     refine bP e fun ys e1 e=>?_;obtain⟨c,e⟩:=aL e;cases e;obtain⟨p,ws,rfl,hp,el⟩:=b1;obtain rfl:=jC el e1;exact⟨p,ys,b,rfl,by rw[show v=V.str b from b2],.inl (.inl hp),c,q _ H (Same.refl H) (.int _)⟩
    | _=>cases e
 | _=>cases e
def mw (x y:Str):Bool:=decide (x.cps.toList<y.cps.toList)
def xE (ys:List Str):Nat:=argBest (fun i j=>mw (ys.getD i Str.empty) (ys.getD j Str.empty)) (ys.length-1)
def fj (ys:List Str):Str:=ys.getD (xE ys) Str.empty
def Jl (K:PySem.W.Frag):List V->Hp->VK->Prop:=fun xs H Q=>∃(p:Addr) (ys:List Str),xs=[.ref p]/\gj K H p (ys.map V.str)/\ys≠[]/\Q (.str (fj ys)) H
theorem qH (h:X.K=K) (hc:X.calm=true):CallR X (.builtin "min") (Jl K):=by
 intro pins s σ H xs us Q I rv hh;obtain⟨p,ys,rfl,sq,hne,q⟩:=hh;subst h;obtain⟨u,rfl,ru⟩:=vals1 rv;cases ru;obtain⟨its,r,pl,hz⟩:=I.list sq;have hlen:its.length=ys.length:=by have:=r.length;simpa using this.symm
 obtain⟨op,np,ep,cp,dp,sp⟩:=id pl;have hpn:p≠s.heap.objs.size:=Vf (Aj ep);have hpos:=Yj.mpr hne;have itAt:∀(i:Nat) v,its.toArray[i]?=some v->∃t',v=.str (ys.getD i Str.empty) t':=fun i v hv=>by
  obtain⟨w,e1,rw'⟩:=dB r i v (by simpa using hv)
  rw[Qc]at e1;obtain⟨y,e2,rfl⟩:=Vc.mp e1;obtain⟨t',rfl⟩:=rw';exact⟨t',by rw[Xb,e2];rfl⟩
 refine bV (call_min_walk (BM pl.isList ?_));refine⟨s.heap.objs.size,_,_,_,_,_,fun i j=>mw (ys.getD i Str.empty) (ys.getD j Str.empty),rfl,Walks.list (show X.A.in1.handled=none from I.ok.hd hc) s.heap.objs.size p hpn its.toArray,⟨⟨_,Ah _ rfl,rfl,rfl⟩,⟨op,Ac _ ep,cp,np,sp⟩⟩,fun b hb=>?_,by rw[Zc];lia,?_,fun v h' tk hv kp hle=>?_⟩
 ·show b<(s.heap.push _).objs.size;rw[Dh];rcases Xd.mp hb with rfl|hb
  ·exact Ql _
  ·obtain rfl:=Vb.mp hb;exact Bj (Aj ep)
 ·intro i j vi vj s' Q' E' hi hj hq;obtain⟨t1,rfl⟩:=itAt i vi hi;obtain⟨t2,rfl⟩:=itAt j vj hj;exact PyProof.Rows.lt_str hq
 ·obtain⟨t',rfl⟩:=itAt _ v hv;rw[Zc,hlen];refine⟨.str _,H,I.kept (t':=tk) (fun b o e=>?_) (I.tkl' hle),⟨t',rfl⟩,q⟩;refine kp b o (fun hm=>?_) (Ac _ e);have:=Aj e;obtain rfl:=Vb.mp hm;exact Wi _ this
def xF:List D->Option Rz
 | [.lst ds]=>(gM ds).bind fun ys=>if ys=[] then none else some (.str (fj ys),false)
 | _=>none
theorem xG:RdCB K (Jl K) xF:=by
 intro Y H xs ds z Q lv bs e q;cases bs with
 | nil=>cases e
 | @cons v vs d ds c1 bs =>
  cases bs with
  | cons _ _=>cases d<;>cases e
  | nil =>
   cases d with
   | lst es =>
    refine bP e fun ys e1 e=>?_;by_cases c:ys=[]
    ·simp only[Ae c]at e;cases e
    ·simp only[Ai c]at e;cases e;obtain⟨p,ws,rfl,hp,el⟩:=c1;obtain rfl:=jC el e1;exact⟨p,ys,rfl,.inl (.inl hp),c,q _ H (Same.refl H) (.str _)⟩
   | _=>cases e
end
end VF
namespace VF
open PySem PySem.Spec PyProof.Rows L2
theorem mx {N P:List Str} {sc:Scope} (h:N.Nodup/\(∀x∈P,sc.names.lookup x=some .local∨sc.names.lookup x=some .cell)/\∀y∈sc.names,y.2≠.free) (a:sc.kind=.function:=by rfl) (b:sc.isCoroutine=false:=by rfl) (c:sc.isGenerator=false:=by rfl) (d:N.take P.length=P:=by rfl):FnScope N P sc:=⟨a,b,c,h.1,d,h.2.1,h.2.2⟩
structure FH (K:PySem.W.Frag) (x:Str) (st:Stmt):Prop where
 ex:∃f fd,Fun K x x st f fd/\PySem.W.nsIn K mainGlobals x=some (some (.ref f))
theorem fh {K:PySem.W.Frag} {x:Str} {st:Stmt} {f:Addr} {oc:Value} {od an:Option Addr} {osl:Array (Option Value)} {kV doc pm cdv ct:Value} (a:PySem.W.nsIn K mainGlobals x=some (some (.ref f)))
  (l:K.lookup f=some ⟨oc,od,.func (PySem.W.fnOf x x (jA st) (gn st) (az st) .none kV doc pm an cdv ct),osl⟩) (c:PySem.W.codeIn K cdv x=true) (k:PySem.W.keepIn K (.ref f)=true):FH K x st:=⟨f,_,Ke l c k,a⟩
def Bn (x:Str) (st:Stmt) (ps:List Str):Prop:=∀(kV doc pm:Value) (an:Option Addr) (cdv ct:Value) (us:List Value),us.length=ps.length->bindArgs (PySem.W.fnOf x x (jA st) (gn st) (az st) .none kV doc pm an cdv ct) ⟨us,[]⟩=pure (ps.zip us)
theorem Pq {n:Nat} {P:List Value->Prop} {us:List Value} (hl:us.length=n+1) (h:∀a r,r.length=n->P (a::r)):P us:=by
 cases us with
 | nil=>cases hl
 | cons a r=>exact h a r (Nat.succ.inj hl)
theorem nF {P:List Value->Prop} (h:∀a,P [a]) (us:List Value) (hl:us.length=1):P us:=Pq hl fun a r hr=>by
 rw[Zf hr];exact h a
theorem MB {P:List Value->Prop} (h:∀a b,P [a,b]) (us:List Value) (hl:us.length=2):P us:=Pq hl fun a r hr=>nF (P:=fun r=>P (a::r)) (h a) r hr
section
variable {P:Program} {w:World} {K:PySem.W.Frag} {mg:Str->Option Value} {base h:Heap} {x:Str} {st:Stmt} {N ps:List Str} {k:Nat} {F:FS}
abbrev jH (P:Program) (w:World) (K:PySem.W.Frag) (mg:Str->Option Value) (base:Heap) (x:Str) (st:Stmt) (N:List Str) (k:Nat) (F:FS):Prop :=
 ∀{f:Addr} {cdv:Value} {A:Around} {outer:List Env} {s:Shared} {H:Hp} {E:XK},Room k (A.deeper (envOfC x (az st) s.heap.objs.size f cdv))->∃t,PSs (vq wA P w K mg base N x (az st) f cdv A outer s H E).nox (gn st) t/\qq K t F
theorem OC {f:Addr} {fd:FuncData} (F':Fun K x x st f fd) (S:FnScope N ps (az st)) (hB:jH P w K mg base x st N k F):FnOk P w K mg base wA (k+1) f fd ps (gX K (bL F N.length ps.length)):=by
 refine F'.ok S (fun vs H Q E h=>Kw h) fun cdv A outer s H vs Q E hr h=>?_;obtain⟨t,h1,h2⟩:=hB hr;exact⟨t,h1,G2 h2 h⟩
theorem FH.cal (h':FH K x st) (X:K.In h) (G:h.Ns mainGlobals mg) (S:FnScope N ps (az st)) (hb:Bn x st ps) (hB:jH P w K mg base x st N k F):Cal P w K mg base x (k+1) ps (gX K (bL F N.length ps.length)):=by
 obtain⟨f,fd,F',a⟩:=h'.ex;exact⟨f,fd,OC F' S hB,PySem.W.mg_of X G a,F'.kp,F'.binds hb⟩
theorem FH.calI (h':FH K x st) (X:K.In h) (G:h.Ns mainGlobals mg) (S:FnScope N ps (az st)) (hb:Bn x st ps) (hB:jH P w K mg base x st N k F):Cal P w K mg base x (k+1) ps (rA K (fz F N.length ps.length)):=by
 obtain⟨f,fd,F',a⟩:=h'.ex;refine⟨f,fd,F'.ok S (fun vs H Q E h=>Nh h) fun cdv A outer s H vs Q E hr h=>?_,PySem.W.mg_of X G a,F'.kp,F'.binds hb⟩;obtain⟨t,h1,h2⟩:=hB hr;exact⟨t,h1,yP h2 h⟩
theorem FH.calR {sp:Nat->Sp} (h':FH K x st) (X:K.In h) (G:h.Ns mainGlobals mg) (hb:Bn x st ps) (m:Nat) (h0:∀f fd,FnOk P w K mg base wA 0 f fd ps (sp 0)) (h1:∀n,n<=m->Cal P w K mg base x n ps (sp n)->∀f fd,Fun K x x st f fd->FnOk P w K mg base wA (n+1) f fd ps (sp (n+1))):∀n,n<=m+1->Cal P w K mg base x n ps (sp n):=by
 obtain⟨f,fd,F',a⟩:=h'.ex;intro n;induction n with
 | zero=>exact fun _=>⟨f,fd,h0 f fd,PySem.W.mg_of X G a,F'.kp,F'.binds hb⟩
 | succ n ih=>exact fun hn=>⟨f,fd,h1 n (Nat.le_of_succ_le_succ hn) (ih (Nat.le_of_succ_le hn)) f fd F',PySem.W.mg_of X G a,F'.kp,F'.binds hb⟩
theorem HJ {f:Addr} {fd:FuncData}:FnOk P w K mg base wA 0 f fd ps (gX K (eI 0)):=by
 have no:∀vs H Q E,¬ gX K (eI 0) vs H Q E:=fun vs H Q E h=>by
  obtain⟨Z,ds,z,el,lv,e,q⟩:=h;obtain⟨u,_,hd,_⟩:=qv e;cases hd
 exact⟨fun vs H Q E h=>absurd h (no vs H Q E),fun A outer s H args us vs Q E _ _ _ _ h=>absurd h (no vs H Q E)⟩
theorem FH.alike {F:(List D->Option Rz)->FS} (h':FH K x st) (X:K.In h) (G:h.Ns mainGlobals mg) (S:FnScope N ps (az st)) (hb:Bn x st ps) (m:Nat) (hv:∀n u,Dp (n+1) u->bL (F (eI n)) N.length ps.length [u,u]=some (.bl true,false))
  (hB:∀n g,n<=m->Cal P w K mg base x n ps (gX K g)->jH P w K mg base x st N n (F g)):∀n,n<=m+1->Cal P w K mg base x n ps (gX K (eI n)) :=
 h'.calR X G hb m (fun _ _=>HJ) fun n hn c f fd F'=>(OC F' S (hB n _ hn c)).imp fun vs H Q E hs=>by
  obtain⟨Z,ds,z,el,lv,e,q⟩:=hs;obtain⟨u,rfl,hd,rfl⟩:=qv e;exact⟨Z,[u,u],(.bl true,false),el,lv,hv n u hd,q⟩
theorem FH.law {fa:Addr} (h':FH K "law" st) (X:K.In h) (G:h.Ns mainGlobals mg) (hfa:mg "law"=some (.ref fa)) (S:FnScope N ["_law_script"] (az st)) (hb:Bn "law" st ["_law_script"]) (lv:∀ns:List Int,bL F N.length 1 [.fl (ns.map D.int)]=some (.bl true,false))
  (hB:∀base:Heap,jH P w K mg base "law" st N k F):∃fd:FuncData,(∀(s:Shared) (v:Value),BindsTo s fd ⟨[v],[]⟩ [("_law_script",v)])/\∀base:Heap,K.In base->base.Ns mainGlobals mg->FnOk P w K mg base wA (k+1) fa fd ["_law_script"] (wV K):=by
 obtain⟨f,fd,F',a⟩:=h'.ex;have e:=hfa.symm.trans (PySem.W.mg_of X G a);cases e;refine⟨fd,fun s v=>?_,fun base _ _=>(OC F' S (hB base)).imp fun vs H Q E h=>?_⟩
 ·obtain⟨oc,od,kV,doc,pm,an,cdv,ct,osl,rfl,lk,hcd⟩:=F'.ex;exact .of_eq (hb kV doc pm an cdv ct [v] rfl)
 ·obtain⟨a,ns,rfl,sq,_,q⟩:=h;refine⟨fun _=>False,[.fl (ns.map D.int)],(.bl true,false),El.one (.fl (vs:=ns.map V.int) ?_ (by simp) fun i v d h1 h2=>?_),fun p z=>z.elim,lv ns,fun v H' _ r=>?_⟩
  ·rcases sq with s|s
   ·exact .inl ⟨s,fun z=>z⟩
   ·exact .inr fun H'=>.inr s
  ·rw[Qc]at h1 h2;obtain⟨c,e1,rfl⟩:=Vc.mp h1;rw[e1]at h2;obtain rfl:=Option.some.inj h2;exact .int _
  ·obtain rfl:=(show v=V.bl true from DA.ba (show DA K (fun _=>False) H' v (.bl true) from r));exact q H'
end
theorem walkZ {l:PySem.W.OpenLaw} {q:Program} {loose:List Str} {XP:(Str->Option Value)->Heap->Prop} {d:DefRec} {K:Params->PySem.W.Frag} {k:Nat} {as:List Addr} {sz t:Nat} (hn:l.most=some 63) (hdf:d.params.defaults=[]) (hr:Room k callerA) (ht:0<t) (hK:∀P,as=(K P).map (·.1))
  (F:∀(w:World) (mg:Str->Option Value) (fa:Addr) (h:Heap),(K w.params).In h->h.Ns mainGlobals mg->mg d.name=some (.ref fa) ->
   ∃fd:FuncData,(∀(s:Shared) (u:Value),BindsTo s fd ⟨[u],[]⟩ [("_law_script",u)])/\∀base:Heap,(K w.params).In base->base.Ns mainGlobals mg->FnOk l.prog w (K w.params) mg base wA k fa fd ["_law_script"] (wV (K w.params))) :
  PySem.W.WalkX q loose XP (PySem.W.X.obsZ as) (PySem.W.X.valZ K sz t) l.row.toRowW d [] (fun f vs=>PySem.call f vs) :=
 L2.walk_of (n:=63) (k:=k) (x:="_law_script") (CX:=fun _=>wA) (sp:=fun w=>wV (K w.params)) hn (by decide) hdf hr ht hK F (fun _ _ a ns hl _ hS=>⟨a,ns,rfl,hS,hl,fun _=>rfl⟩) fun _ _ _ _ _ z=>z
end VF
namespace VF22
open PySem PySem.Spec PyProof.Rows L2 VF TS
section
variable {X:Cx} {K:PySem.W.Frag} {Y:AS} {H:Hp} {s:Shared} {pins:List (Addr×Obj)} {σ:L2.St}
open Classical in
noncomputable def Fo:D->D->Option Rz:=fun a b=>if Pl 40 a/\Pl 40 b/\Cp 40 a b then some (.bl (ltN 40 a b),false) else none
def NR (K:PySem.W.Frag):R2:=fun x y H Q=>∃(Y:AS) (a b:D),BA K Y H x a/\BA K Y H y b/\Pl 40 a/\Pl 40 b/\Cp 40 a b/\Q (.bl (ltN 40 a b)) H
theorem LC:RdOp K (NR K) Fo:=by
 intro Y H x y d1 d2 z Q lv b1 b2 e q;unfold Fo at e;obtain⟨c,e⟩:=aL e;cases e;exact⟨Y,d1,d2,b1,b2,c.1,c.2.1,c.2.2,q _ H (Same.refl H) (.bl _)⟩
theorem LD (h:X.K=K) (hu:X.A.units+64<cLine):OpR X (compareOp .Lt) (NR K):=by
 intro pins s σ H x y v u Q I rx ry ⟨Y,a,b,b1,b2,p1,p2,c,q⟩;exact RH.ltAt 40 (A:=X.A) p1 p2 c (b1.rh p1 I h rx) (b2.rh p2 I h ry) (by lia) _ _ _ _ ⟨.bl _,H,I,rfl,q⟩
end
end VF22
namespace VF22
open PySem PySem.Spec PyProof.Rows L2 VF
section
variable (K:PySem.W.Frag) {X:Cx} {a b o:Expr} {ta tb to:TE} {p pos apos cpos:Pos}
theorem aK (ha:PE X a ta) (hb:PE X b tb) (h:X.K=K:=by rfl) (hs:rb b:=by exact fun _ _=>rfl):PE X (.Subscript a b pos) (zO (Ou K) ta tb):=IF (wE h) ha hb hs
theorem d6 (hm:X.mg "len"=none) (ha:PE X a ta) (h:X.K=K:=by rfl) (hg:Gl X "len":=by rfl) (n:iY a=true:=by rfl):PE X (.Call (.Name "len" p) [a] [] pos) (JP (Ek K) (dL ta mB)) :=
 cL (yU h) hg hm PySem.boot_len (aF ha ak n) (by decide) (by decide) (fP n) rfl
theorem gA (hm:X.mg "tuple"=none) (ha:PE X a ta) (h:X.K=K:=by rfl) (c:X.calm=true:=by rfl) (hg:Gl X "tuple":=by rfl) (n:iY a=true:=by rfl):PE X (.Call (.Name "tuple" p) [a] [] pos) (JP (rO K) (dL ta mB)) :=
 gU (ub h c) hg hm gp (aF ha ak n) (by decide) (by decide) (fP n) rfl
theorem cK (hm:X.mg "isinstance"=none) (ha:PE X a ta) (hb:PE X b tb) (h:X.K=K:=by rfl) (hg:Gl X "isinstance":=by rfl) (n:iY a=true:=by rfl) (n':iY b=true:=by rfl) (hpl:(backTo pos (starEach [b] X.env)).any (·.1)=false:=by rfl) :
  PE X (.Call (.Name "isinstance" p) [a,b] [] pos) (JP (K1 K) (dL ta (dL tb mB))) :=
 cL (rP h) hg hm L2.boot_isinstance (aF ha (aF hb ak n') n) (by decide) (by decide) (fP n) hpl
theorem bX (ha:PE X a ta) (hb:PE X b tb) (h:X.K=K:=by rfl):PE X (.BinOp a .Add b pos) (zO (wL K) ta tb):=ci (wM h) ha hb
theorem fJ (ho:OpR X (compareOp op) r) (ha:PE X a ta) (hb:PE X b tb) (h:op≠.In:=by decide) (h2:op≠.NotIn:=by decide):PE X (.Compare a [op] [b] pos) (zO r ta tb):=GH ho ha hb (zT _ h h2)
theorem aY (ho:OpR X (compareOp op) r) (ha:PE X a ta) (hb:PE X b tb) (h:op≠.In:=by decide) (h2:op≠.NotIn:=by decide):PT X (.Compare a [op] [b] pos) (zU (zO r ta tb)):=q8 ho ha hb (zT _ h h2)
theorem lL (ho:PE X o to) (ha:PE X a ta) (n:iY a=true:=by rfl) (hbase:attributeBase o "append" X.env (eval o X.env)=eval o X.env:=by rfl)
  (hfew:((backTo cpos (starEach [a] X.env)).all (fun x=>!x.1)&&(backToKw cpos (keywordEach [] X.env)).all (fun x=>x.1.isSome)
   && decide (([a]:List Expr).length+([]:List Keyword).length+(if ([]:List Keyword).isEmpty then 0 else 1)<30))=true:=by rfl)
  (hline:(apos.endLine == cpos.line)=true:=by rfl):PE X (.Call (.Attribute o "append" apos) [a] [] cpos) (Ov X.K "list" rm to (dL ta mB)) :=
 mR PySem.F.plainAttrs_list PySem.F.slot_list_append PySem.F.type_list_append yF ho (aF ha ak n) hbase hfew hline (fP n) rfl
end
end VF22
namespace VF
open PySem L2 PyProof.Rows TS PySem.SeqAt
abbrev KB:=Bool×Str
def ltB (p q:KB):Bool:=(!p.1&&q.1)||(p.1 == q.1&&mw p.2 q.2)
theorem n8 (x:Str):mw x x=false:=Ad (List.lt_irrefl _)
theorem n9 {x y z:Str} (h1:mw x y=true) (h2:mw y z=true):mw x z=true:=Af (List.lt_trans (Al h1) (Al h2))
theorem xH {x y z:Str} (h:mw x z=true):mw x y=true∨mw y z=true:=by
 have ca:CA 1 [.str x,.str y,.str z]:=fun a ha b hb=>by
  simp at ha hb;rcases ha with rfl|rfl|rfl<;>rcases hb with rfl|rfl|rfl<;>trivial
 exact ca.neg (a:=.str x) (b:=.str y) (c:=.str z) (by simp) (by simp) (by simp) h
theorem lM (p:KB):ltB p p=false:=by
 obtain⟨b,x⟩:=p;unfold ltB;dsimp only;rw[n8];cases b<;>rfl
theorem lN {p q r:KB} (h1:ltB p q=true) (h2:ltB q r=true):ltB p r=true:=by
 obtain⟨a,x⟩:=p;obtain⟨b,y⟩:=q;obtain⟨c,z⟩:=r;cases a<;>cases b<;>cases c<;>simp[ltB]at h1 h2 ⊢
 ·exact n9 h1 h2
 ·exact n9 h1 h2
theorem oe {p q r:KB} (h:ltB p r=true):ltB p q=true∨ltB q r=true:=by
 obtain⟨a,x⟩:=p;obtain⟨b,y⟩:=q;obtain⟨c,z⟩:=r;cases a<;>cases b<;>cases c<;>simp[ltB]at h ⊢
 ·exact xH h
 ·exact xH h
inductive KH (h:Heap):Bool->Value->KB->Prop where
 | tp {a:Addr} {t:Nat} {p:KB}:h.IsTuple a #[.bool p.1,.str p.2 t]->KH h true (.ref a) p
 | st {x:Str} {t:Nat}:KH h false (.str x t) (false,x)
def HK:Bool->SortKind
 | true=>tuples' true
 | false=>oneType'
section
variable {prog:Program} {w:World} {A:Around} {E:Value->Shared->Prop} {s:Shared}
theorem LE (a b:Bool):decide (b2i a<b2i b)=(!a&&b):=by cases a<;>cases b<;>rfl
theorem Fp {a b:Bool} (fl:Bool):qC A s fl (.bool a) (.bool b) (!a&&b):=fun prog w E Q q=>by
 rw[← LE]at q;cases fl with
 | true =>
  rw[oneLt'_eq];simp only[if_true];refine Aa (wpAny_cRoomFor_byValue rfl ?_);refine Aa (wpAny_callSpecialIfBound?_slot (typeIs_bool' s a) PySem.F.slot_bool_lt (call_gives PySem.F.slot_bool_lt (typeIs_bool' s a) PySem.F.entry_int_lt (PySem.F.args_int_lt_2 _ _) (gives_int_lt_bools a b) ?_));exact Az q
 | false=>exact xo (fun prog w E Q h=>(lt_bool h:wpAny (model prog w) A (compareOp .Lt (.bool a) (.bool b)) Q E s)) prog w E Q q
def HL:D->D->Bool
 | .bl a,.bl b=>!a&&b
 | .str x,.str y=>mw x y
 | _,_=>false
theorem LF (p q:KB):mv HL [.bl p.1,.str p.2] [.bl q.1,.str q.2]=ltB p q:=by
 obtain⟨a,x⟩:=p;obtain⟨b,y⟩:=q;by_cases e:a=b
 ·subst e;rw[bZ];by_cases e2:x=y
  ·subst e2;rw[bZ,lM];rfl
  ·rw[bp (by intro z;injection z with z;exact e2 z)]
   unfold ltB;cases a<;>simp[HL]
 ·rw[bp (by intro z;injection z with z;exact e z)]
  unfold ltB;cases a<;>cases b<;>first|exact absurd rfl e|simp[HL]
open Classical in
theorem NS {m:Bool} {u v:Value} {p q:KB} {Q:Bool->Shared->Prop} (h1:KH s.heap m u p) (h2:KH s.heap m v q) (hq:Q (ltB p q) s):wpAny (model prog w) A (keyLt' (HK m) u v) Q E s:=by
 cases h1 with
 | st =>
  cases h2;unfold HK;rw[keyLt'_oneType];exact n5 true prog w E Q hq
 | @tp a t _ ha =>
 cases h2 with
 | @tp b t' _ hb =>
 have e1:EqAt A s (.bool p.1) (.bool q.1) (decide (D.bl p.1=D.bl q.1)):=by
  have:decide (D.bl p.1=D.bl q.1)=(p.1 == q.1):=by rw[Yf];simp
  rw[this];exact EqAt.bool_bool _ _
 have e2:EqAt A s (.str p.2 t) (.str q.2 t') (decide (D.str p.2=D.str q.2)):=by
  have:decide (D.str p.2=D.str q.2)=(p.2 == q.2):=by rw[Yf];simp
  rw[this];exact EqAt.str_str _ _ _ _
 refine xq (lt:=HL) (ds:=[.bl p.1,.str p.2]) (es:=[.bl q.1,.str q.2]) ha hb ?_ (by rw[LF];exact hq)
 exact .cons e1 (fun _=>Fp _) (.cons e2 (fun _=>n5 _) (.left rfl))
def cB (ks:List KB) (g h:Nat):Bool:=ltB (ks.getD g (false,Str.empty)) (ks.getD h (false,Str.empty))
theorem OY {m:Bool} {us vs:List Value} {ks:List KB} (hl:us.length=ks.length) (r:∀(i:Nat) u p,us[i]?=some u->ks[i]?=some p->KH s.heap m u p) :
  Cm prog w A s (HK m) (fun g=>(us.getD g .none,vs.getD g .none)) us.length (cB ks):=by
 refine⟨fun E Q g h hg hh q=>?_,fun g=>lM _,fun g h i h1 h2=>lN h1 h2,fun g h i h1=>oe h1⟩;have eg:us[g]?=some us[g]:=Za hg;have eh:us[h]?=some us[h]:=Za hh;have kg:ks[g]?=some ks[g]:=Za (by lia)
 have kh:ks[h]?=some ks[h]:=Za (by lia)
 have q':Q (ltB ks[g] ks[h]) s:=by
  unfold cB at q;rw[Xb,Xb,kg,kh]at q;exact q
 show wpAny (model prog w) A (keyLt' (HK m) (us.getD g .none) (us.getD h .none)) Q E s;rw[Xb,Xb,eg,eh];exact NS (r g _ _ eg kg) (r h _ _ eh kh) q'
theorem OZ {m:Bool} {us:List Value} {ks:List KB} (hne:us≠[]) (h2:¬ us.length<2) (hl:us.length=ks.length) (r:∀(i:Nat) u p,us[i]?=some u->ks[i]?=some p->KH s.heap m u p) {M:Model} {Q:SortKind->Shared->Prop} (q:Q (HK m) s):wpAny M A (keyKind' us.toArray) Q E s:=by
 cases m with
 | false =>
  refine Jf (ds:=ks.map fun p=>.str p.2) hne (by rw[Ya];exact hl) (fun i u d e1 e2=>?_) h2 (.sc (T:="str") (by decide) fun d hd=>?_) q
  ·rw[Qc]at e2;obtain⟨p,e3,rfl⟩:=Vc.mp e2;cases r i u p e1 e3;exact .str _ _
  ·obtain⟨p,_,rfl⟩:=Yc.mp hd;exact⟨fun z=>(by cases z),rfl⟩
 | true =>
 rw[keyKind'_eq];have hf:∀(us:List Value) (ks:List KB),us.length=ks.length->(∀(i:Nat) u p,us[i]?=some u->ks[i]?=some p->KH s.heap true u p)->∀Q:List (Option Value)->Shared->Prop,Q (ks.map fun p=>some (.bool p.1)) s->wpAny M A (us.mapM firstOfTuple') Q E s:=fun us=>by
  induction us with
  | nil =>
   intro ks hl _ Q q;obtain rfl:ks=[]:=Zf hl.symm;rw[Dr];exact Ab q
  | cons u us ih =>
   intro ks hl r Q q;cases ks with
   | nil=>simp at hl
   | cons p ks =>
    rw[De];have r0:=r 0 u p rfl rfl;cases r0 with
    | @tp a t _ ht =>
    exact Aa (qD (its:=[.bool p.1,.str p.2 t]) ht rfl (Aa (ih ks (by simpa using hl) (fun i u p e1 e2=>r (i+1) u p (by simpa using e1) (by simpa using e2)) _ (Ab q))))
 rw[CJ,CP];refine Aa (Aa (hf us ks hl r _ (Ab ?_)));have hnk:ks≠[]:=fun z=>by
  rw[z]at hl;exact hne (Zf hl)
 rw[Ae (by simp)]
 refine Aa (AB ?_);have e1:(ks.map fun p=>some (Value.bool p.1)).toArray.filterMap id=(ks.map fun p=>Value.bool p.1).toArray:=by
  rw[show(ks.map fun p=>some (Value.bool p.1))=(ks.map fun p=>Value.bool p.1).map some by rw[Xf];rfl]
  simp
 rw[e1,oneTypeOnly'_eq];refine Aa (Aa (sh (g:=fun _=>Value.type "bool") (fun v hv Q q=>?_) ?_))
 ·obtain⟨p,_,rfl⟩:=Yc.mp hv;exact AH (typeIs_bool' s p.1) q
 ·cases ks with
  | nil=>exact absurd rfl hnk
  | cons p ks =>
   have h0:(List.map (fun _=>Value.type "bool") (List.map (fun p:KB=>Value.bool p.1) (p::ks))).toArray[0]?=some (Value.type "bool"):=by simp
   rw[h0];have hall:((List.map (fun _=>Value.type "bool") (List.map (fun p:KB=>Value.bool p.1) (p::ks))).toArray.all fun x=>x == Value.type "bool")=true:=by
    simp only[List.all_toArray,DE,Vm];intro _ _;exact CQ _
   dsimp only;rw[hall,Ae rfl];exact Ab (Ab q)
end
end VF
namespace VF
open PySem L2 PyProof.Rows TS
section
variable {prog:Program} {w:World} {A:Around} {E:Value->Shared->Prop} {s:Shared}
theorem o0 {a kS:Addr} {vs:List Value} {ks:List KB} {kA:Array Value} {e e1:Nat} {st:SortSt} {γ:Array Nat} {P:Fin->Shared->Prop} (hka:kS≠a)
  (g1:s.heap.get? kS=some (seqObj "list" kA e)) (g2:s.heap.get? a=some (seqObj "list" #[] e1)) (hz:vs.length<=sizeLine) (hk:kA.size=vs.length)
  (hf:failedOf st=none) (ha:(arrOf st).map (·.2)=bD vs γ) (hp:γ.Perm (Array.range vs.length))
  (fin:∀tk,P (.done (.ret .none)) { s with heap:=(s.heap.update kS (Obj.mapSeq fun _=>#[])).update a (Obj.mapSeq fun _=>bD vs γ),toks:=tk }) :
  wpAny (model prog w) A (ksk_tail a false e1 (.ref kS) st) P E s:=by
 have s1:=AC s.heap kS (Obj.mapSeq fun _=>(#[]:Array Value));have na1:(s.heap.update kS (Obj.mapSeq fun _=>(#[]:Array Value))).get? a=some (seqObj "list" #[] e1):=(s1.2 a hka.symm).trans g2;have hsz:(bD vs γ).size=vs.length:=by
  unfold bD;rw[B9,hp.size_eq,Vk]
 unfold ksk_tail;dsimp only;refine Aa (AN g1 rfl ?_ (by rw[hk];lia) (Yg _))
 refine Aa (wpAny_letGo ?_);refine Aa (B6 na1 rfl ?_)
 refine Aa (AN na1 rfl ?_ (Yg _) (by
  show(if false=true then((arrOf st).map (·.2)).reverse else(arrOf st).map (·.2)).size<=_
  rw[Ai Bool.noConfusion,ha,hsz];lia))
 rw[hf];simp only[CB,Ye,if_false];rw[ha];exact Ab (fin _)
theorem zl {m : Bool} {a kS : Addr} {vs : List Value} {ks : List KB} {kA : Array Value} {e e1 : Nat} {P : Fin → Shared → Prop} (hka : kS ≠ a)
    (g1 : s.heap.get? kS = some (seqObj "list" kA e)) (g2 : s.heap.get? a = some (seqObj "list" #[] e1)) (hz : vs.length ≤ sizeLine) (hk : kA.size = vs.length) (hl : ks.length = vs.length) (h64 : vs.length < 64)
    (r : ∀ (i : Nat) u p, kA[i]? = some u → ks[i]? = some p → KH s.heap m u p)
    (fin : ∀ (γ : Array Nat) tk, γ.Perm (Array.range vs.length) → Sg (cB ks) γ 0 vs.length → P (.done (.ret .none)) { s with heap := (s.heap.update kS (Obj.mapSeq fun _ => #[])).update a (Obj.mapSeq fun _ => bD vs γ), toks := tk }) :
    wpAny (model prog w) A (ksk_end a false vs.toArray e1 (.ref kS) kA) P E s := by
  obtain ⟨us, rfl⟩ : ∃ us : List Value, kA = us.toArray := ⟨kA.toList, by simp⟩
  rw [BO] at hk;have r' : ∀ (i : Nat) u p, us[i]? = some u → ks[i]? = some p → KH s.heap m u p := fun i u p e1 e2 => r i u p (by simpa using e1) e2
  have e0 : us.toArray.zip vs.toArray = (Array.range vs.length).map fun g => (us.getD g .none, vs.getD g .none) := by
    apply Array.ext_getElem?
    intro i;rw [Be, AY];by_cases hi : i < vs.length
    · rw [Ae hi]
      have hi' : i < us.length := by lia
      simp [hi, hi'];rw [Dl];exact ⟨BP hi', BP hi⟩
    · rw [Ai hi]
      simp [hi];lia
  unfold ksk_end;dsimp only;simp only [BJ, if_false];by_cases kz : vs.toArray.size < 2
  · rw [Ae kz, Ae kz]
    refine Aa (Ab ?_);rw [StateT.run_pure];refine Aa (Ab ?_);dsimp only;rw [BO] at kz;refine o0 (ks := ks) (γ := Array.range vs.length) hka g1 g2 hz (by simpa using hk) rfl ?_ (Array.Perm.refl _) fun tk => fin _ tk (Array.Perm.refl _) fun i j g h z1 z2 z3 => by lia
    show (us.toArray.zip vs.toArray).map (·.2) = _;rw [e0, Cd]; rfl
  · rw [Ai kz, Ai kz]
    rw [BO] at kz;have hne : us ≠ [] := fun z => kz (by rw [z] at hk; simp at hk; lia)
    refine Aa (OZ hne (by lia) (by lia) r' ?_)
    have C : Cm prog w A s (HK m) (fun g => (us.getD g .none, vs.getD g .none)) us.length (cB ks) := OY (by lia) r'
    rw [hk] at C
    refine Aa (Av (xh (st := SortSt.mk' (HK m) (us.toArray.zip vs.toArray) #[] 7 none) C (γ := Array.range vs.length) ⟨e0, rfl, rfl, Array.Perm.refl _⟩ rfl (fun i _ z => by rw [AY, Ae z])
      (Q := fun _ st' => ∃ γ, Rp (HK m) (fun g => (us.getD g .none, vs.getD g .none)) vs.length st' γ ∧ Sg (cB ks) γ 0 vs.length) fun st' γ' R g => ⟨γ', R, g⟩) ?_ fun _ _ e => e)
    rintro ⟨⟨⟩, st'⟩ s' ⟨rfl, γ, R, g⟩;dsimp only;refine o0 (ks := ks) (γ := γ) hka g1 g2 hz (by simpa using hk) R.fine ?_ R.perm fun tk => fin γ tk R.perm g
    rw [R.arr, Cd]; rfl
theorem vT {m:Bool} {a kS:Addr} {f:Value} {vs:List Value} {ks:List KB} {e1:Nat} {P:Fin->Shared->Prop} (hka:kS≠a) (hz:vs.length<=sizeLine) (hl:ks.length=vs.length) (h64:vs.length<64) (J:Nat->Array Value->Shared->Prop)
  (hJ:∀i kA s',J i kA s'->(∃e,s'.heap.get? kS=some (seqObj "list" kA e))/\s'.heap.get? a=some (seqObj "list" #[] e1)/\kA.size=i)
  (turn:∀i kA v s',vs[i]?=some v->J i kA s'->wpAny (model prog w) A (call f [v]) (fun u s''=>(∃e,s''.heap.get? kS=some (seqObj "list" kA e))/\J (i+1) (kA.push u) { s'' with heap:=s''.heap.update kS (Obj.mapSeq (·.push u)) }) (fun _ _=>False) s')
  (keys:∀kA s',J vs.length kA s'->∀(i:Nat) u p,kA[i]?=some u->ks[i]?=some p->KH s'.heap m u p)
  (fin:∀kA s' (γ:Array Nat) tk,J vs.length kA s'->γ.Perm (Array.range vs.length)->Sg (cB ks) γ 0 vs.length->P (.done (.ret .none)) { s' with heap:=(s'.heap.update kS (Obj.mapSeq fun _=>#[])).update a (Obj.mapSeq fun _=>bD vs γ),toks:=tk })
  (h0:J 0 #[] s):wpAny (model prog w) A (ksk_rest a f false vs.toArray e1 (.ref kS)) P E s:=by
 unfold ksk_rest;refine Aa (AB ?_)
 first
  | rw[List.forIn_toArray]
  | (rw[← BK];simp only[List.toList_toArray])
  | rw[← BK]
 refine Aa (ksk_fold (fun i s'=>∃kA,J i kA s') vs 0 s ⟨#[],h0⟩ ?step ?done)
 case step =>
  rintro j x s' hx ⟨kA,hj⟩;rw[Dx]at hj ⊢;have hjl:j<vs.length:=(Wb.mp hx).1;obtain⟨_,_,hks⟩:=hJ _ _ _ hj;refine Aa (AM (Av (turn j kA x s' hx hj) (fun u s'' he=>?_) fun _ _ hF=>hF.elim));obtain⟨⟨e,g1⟩,hj'⟩:=he;dsimp only;refine Aa (AN g1 rfl ?_ (by lia) (Qd (Dy (Array.size_push ..)) (by lia)))
  exact Ab ⟨rfl,kA.push u,hj'⟩
 case done =>
  rintro s' ⟨kA,hj⟩;rw[Dx]at hj;obtain⟨⟨e,g1⟩,g2,hks⟩:=hJ _ _ _ hj;refine Aa (A6 g1 rfl ?_);exact zl hka g1 g2 hz hks hl h64 (keys kA s' hj) fun γ tk p g=>fin kA s' γ tk hj p g
end
end VF
namespace VF
open PySem L2 PyProof.Rows TS
section
variable {X:Cx} {K:PySem.W.Frag} {pins:List (Addr×Obj)} {σ:L2.St} {H:Hp} {s:Shared}
theorem NT {H0:Hp} {kS a:Addr} {oa ok ok':Obj} {φ:Obj->Obj} {t:Nat} (I:L2.Inv X (pins++[(kS,ok),(a,oa)]) σ H s) (fk:iV X pins H0 kS) (hka:kS≠a) (hg:(s.heap.update kS φ).get? kS=some ok') (hc:∀v,ok'.data≠.cell v) (ht:0<t:=by first|assumption|exact Zh _|exact Inv.tk (by assumption)|exact Inv.tkl (by assumption) (by assumption)|lia) :
  L2.Inv X (pins++[(kS,ok'),(a,oa)]) σ H { s with heap:=s.heap.update kS φ,toks:=t }:=by
 obtain⟨_,f1,f2,f3,f4,f5⟩:=fk;have pk:=I.pin (kS,ok) (by simp)
 have pa:=I.pin (a,oa) (by simp)
 have old:∀p∈pins,s.heap.get? p.1=some p.2/\H p.1=none/\p.1≠X.env.locals/\p.1∉X.fs/\∀v,p.2.data≠.cell v:=fun p hp=>I.pin p (Wd _ (Vi _ hp));have I1:L2.Inv X (pins++[(a,oa)]) σ H s:=I.pins_of fun p hp=>by
  rcases Zd.mp hp with z|z
  ·exact old p z
  ·rw[Vb.mp z];exact pa
 have I2:=I1.turned (t':=t) (it:=kS) (h':=s.heap.update kS φ) (fun b o hb e=>(Aw _ _ _ _ hb).trans e) pk.2.1 f1 f3 f4 fun p hp=>by
  rcases Zd.mp hp with z|z
  ·exact f5 p (Vi _ z)
  ·rcases Zd.mp z with z|z
   ·exact f5 p (Wd _ z)
   ·rw[Vb.mp z];exact hka.symm
 refine I2.pins_of fun p hp=>?_;rcases Zd.mp hp with z|z
 ·exact I2.pin p (Wd _ (Vi _ z))
 ·rcases Xd.mp z with rfl|z
  ·exact⟨hg,pk.2.1,f1,f2,hc⟩
  ·rw[Vb.mp z];exact I2.pin (a,oa) (by simp)
theorem tracked {H0:Hp} {kS a:Addr} {oa ok:Obj} {h':Heap} {ws:List V} {t:Nat} (I:L2.Inv X (pins++[(kS,ok),(a,oa)]) σ H s) (fk:iV X pins H0 kS) (fa:iV X pins H0 a)
  (k:∀b o,b≠kS->b≠a->s.heap.get? b=some o->h'.get? b=some o) (new:ObjOk X.prog X.w (upd H a (.lst ws)) h' a (.lst ws)) (ht:0<t:=by first|assumption|exact Zh _|exact Inv.tk (by assumption)|exact Inv.tkl (by assumption) (by assumption)|lia) :
  L2.Inv X pins σ (upd H a (.lst ws)) { s with heap:=h',toks:=t }:=by
 obtain⟨_,f1,f2,f3,f4,f5⟩:=fk;obtain⟨_,g1,g2,g3,g4,g5⟩:=fa;have pk:=I.pin (kS,ok) (by simp)
 have pa:=I.pin (a,oa) (by simp)
 have I1:L2.Inv X pins σ H s:=I.pins_of fun p hp=>I.pin p (Wd _ (Vi _ hp));have nk:H kS=none:=pk.2.1;have na:H a=none:=pa.2.1;have ne:∀b u,H b=some u->b≠a:=fun b u e z=>by rw[z,na]at e;cases e
 have nek:∀b u,H b=some u->b≠kS:=fun b u e z=>by rw[z,nk]at e;cases e
 have two:∀b,b∉[kS,a]->b≠kS/\b≠a:=fun b hb=>⟨fun z=>hb (by simp[z]),fun z=>hb (by simp[z])⟩
 refine I1.step (g':=s.gens) (d':=s.drawn) (ch:=[kS,a]) (fun b hb=>?_) (fun b o _ _ hc e _=>k b o (two b hc).1 (two b hc).2 e) (fun b o _ _ hc e _=>⟨o.slots,k b o (two b hc).1 (two b hc).2 e⟩) (fun b o hc _ n=>by rw[aN (two b hc).2];exact n)
  (fun b o hc e=>⟨o,k b o (two b hc).1 (two b hc).2 e⟩) (fun b xs e=>by rw[aN (ne b _ e)];exact e) (fun b o u e=>by rw[aN (ne b _ e)];exact e) (fun b ps e=>⟨#[],by rw[aN (ne b _ e),e];simp⟩) (fun m hm=>?_) (fun b u e=>?_) I1.bare
 ·rcases Xd.mp hb with rfl|hb
  ·exact⟨f3,f1,f4,f5⟩
  ·obtain rfl:=Vb.mp hb;exact⟨g3,g1,g4,g5⟩
 ·obtain⟨o,es,ep,ho,r⟩:=hm;exact⟨o,es,ep,k _ o (AA f1) (AA g1) ho,r⟩
 ·by_cases hb:b=a
  ·subst hb;rw[bx]at e;cases e;exact new
  ·rw[aN hb]at e;refine(I1.hok b u e).stay (fun c v hc q=>?_) (fun c q=>by rw[aN (ne c _ q)];exact q) fun c xs q=>by rw[aN (ne c _ q)];exact q
   rcases hc with z|z
   ·rw[z]at q ⊢;exact k b v (nek b u e) hb q
   ·exact k c v (nek c _ z) (ne c _ z) q
def keyD (m:Bool) (p:KB):D:=match m with
 | true=>.tup [.bl p.1,.str p.2]
 | false=>.str p.2
theorem NU {m:Bool} {Z:AS} {v:V} {u:Value} {p:KB} (h:X.K=K) (hm:m=false->p.1=false) (I:L2.Inv X pins σ H s) (da:DA K Z H v (keyD m p)) (ru:RelV v u):KH s.heap m u p:=by
 cases m with
 | false =>
  obtain⟨b,x⟩:=p;obtain rfl:b=false:=hm rfl;obtain rfl:v=V.str x:=da.ba;obtain⟨t,rfl⟩:=(show ∃t,u=Value.str x t from ru);exact .st
 | true =>
 obtain⟨a,xs,rfl,sq,el⟩:=(show BA K Z H v (.tup [.bl p.1,.str p.2]) from da.ba);cases ru;obtain⟨its,r,t,_⟩:=I.tuple (h ▸ sq.sq);obtain⟨v1,r1,rfl,d1,el⟩:=el.uncons;obtain⟨v2,r2,rfl,d2,el⟩:=el.uncons;obtain rfl:=el.unnil;obtain rfl:v1=V.bl p.1:=d1.ba;obtain rfl:v2=V.str p.2:=d2.ba;cases r with
 | cons a1 r =>
  cases r with
  | cons a2 r =>
   cases r;obtain rfl:=(show _=Value.bool p.1 from a1);obtain⟨tt,rfl⟩:=(show ∃t,_=Value.str p.2 t from a2);exact .tp t
inductive SJ (m:Bool) (X:Cx) (K:PySem.W.Frag) (pins:List (Addr×Obj)) (σ:L2.St) (H:Hp) (a:Addr) (e1:Nat) (ks:List KB) (Z:AS) (i:Nat) (kA:Array Value) (s':Shared):Prop
 | mk (Hi:Hp) (e:Nat) (kvs:List V) (I:L2.Inv X (pins++[(a+2,seqObj "list" kA e),(a,seqObj "list" #[] e1)]) σ Hi s') (sm:Same H Hi) (hsz:kA.size=i) (rk:Vals kvs kA.toList) (hd:∀(j:Nat) v p,kvs[j]?=some v->ks[j]?=some p->DA K Z Hi v (keyD m p))
theorem NV {X:Cx} {pins:List (Addr×Obj)} {σ:L2.St} {Hi:Hp} {s':Shared} {p q:Addr×Obj} (I:L2.Inv X (pins++[p,q]) σ Hi s'):s'.heap.get? p.1=some p.2:=(I.pin p (Wd _ (Wd _ (.head _)))).1
theorem NW {X:Cx} {pins:List (Addr×Obj)} {σ:L2.St} {Hi:Hp} {s':Shared} {p q:Addr×Obj} (I:L2.Inv X (pins++[p,q]) σ Hi s'):s'.heap.get? q.1=some q.2/\Hi q.1=none:=by
 have:=I.pin q (Wd _ (Wd _ (.tail _ (.head _))));exact⟨this.1,this.2.1⟩
theorem vU {m:Bool} {k:Nat} {f l:Addr} {fd:FuncData} {x:Str} {g:List D->Option Rz} {Q:VK} (h:X.K=K) (F:FnOk X.prog X.w X.K X.mg X.base wA k f fd [x] (gX K g)) (hr:Room (k+2) X.A) (hb:Binds X.K fd [x] [])
  (I:L2.Inv X pins σ H s) {Z:AS} {vs:List V} {ds:List D} {ks:List KB} (sq:gj K H l vs) (el:El K Z H vs ds) (lv:∀p,Z p->Lv H p) (hk:ks.length=ds.length) (h64:ds.length<64) (hm:∀p∈ks,m=false->p.1=false) (hg:∀(i:Nat) d p,ds[i]?=some d->ks[i]?=some p->g [d]=some (keyD m p,false))
  (q:∀(γ:Array Nat) (H':Hp) (p:Addr) (ws:List V),γ.Perm (Array.range ds.length)->Sg (cB ks) γ 0 ds.length->Same H H'->H' p=none->El K Z H' ws (γ.toList.map (dk ds))->Q (.ref p) (upd H' p (.lst ws))) :
  wpAny (model X.prog X.w) X.A (call (.builtin "sorted") [.ref l] [(Str.ofString "key",.ref f)]) (EP X pins σ Q) X.xe s:=by
 obtain⟨its,r,pl,hz⟩:=I.list (h ▸ sq);have hn:its.length=ds.length:=r.length.symm.trans el.1;have hz':its.length<=sizeLine:=by rw[← r.length];exact hz
 refine call_function_entry_kw kind_sorted plain_sorted entry_sorted (ksk_s1 _ _) ?_;unfold Builtin.«sorted»;refine Aa (m:=checkCount "sorted" 1 1 _) (Ab ?_);refine Aa (collect_list pl.isList ?_ hz');refine Aa (Bt ?_ hz');generalize hg1:(s.heap.push (seqObj "list" #[] 0)).update s.heap.objs.size (Obj.mapSeq (·++its.toArray))=h1;have z1:h1.objs.size=s.heap.objs.size+1:=by rw[← hg1,CZ,size_push']
 have old1:∀b o,s.heap.get? b=some o->h1.get? b=some o:=fun b o e=>by
  rw[← hg1];exact(Aw _ _ _ _ (Vf (Aj e))).trans (Ac _ e)
 generalize ha:s.heap.objs.size+1=a at z1;have mine:(h1.push (seqObj "list" its.toArray 0)).get? a=some (seqObj "list" its.toArray 0):=by rw[← z1];exact Ah _ rfl
 show wpAny _ _ _ _ _ { s with heap:=h1.push (seqObj "list" its.toArray 0) };rw[z1];refine Aa (As (wpAny_call_entry_kw slot_list_sort ⟨_,mine,rfl⟩ entry_list_sort ?body (ksk_l1 _ _)));show wpAny (model X.prog X.w) X.A.in1.in1 (Builtin.«list.sort» ⟨[.ref a],[(Str.ofString "key",.ref f)]⟩) _ _ _;rw[ksk_t1];generalize hh2:h1.push (seqObj "list" its.toArray 0)=h2 at mine;have z2:h2.objs.size=a+1:=by rw[← hh2,size_push',z1]
 have old2:∀b o,s.heap.get? b=some o->h2.get? b=some o:=fun b o e=>by rw[← hh2];exact Ac _ (old1 b o e)
 unfold ksk_tree;refine Aa (A6 mine rfl ?_);refine Aa (AN mine rfl ?_ (by rw[Zc];lia) (Yg _))
 obtain⟨e1,hE⟩:∃e1,(h2.update a (Obj.mapSeq fun _=>#[])).get? a=some (seqObj "list" #[] e1):=⟨_,Bv mine (fun _=>#[])⟩;refine Aa (B6 hE rfl ?_);refine Aa (wpAny_newTuple ?_ (by show its.length<=_;lia))
 refine Aa (Bt ?_ (Yg _));refine As ?_;have hT:((h2.update a (Obj.mapSeq fun _=>#[])).push (seqObj "tuple" its.toArray 0)).objs.size=a+2:=by rw[size_push',CZ,z2]
 generalize hh3:((h2.update a (Obj.mapSeq fun _=>#[])).push (seqObj "tuple" its.toArray 0)).push (seqObj "list" #[] 0)=h3;have gk:h3.get? (a+2)=some (seqObj "list" #[] 0):=by rw[← hh3,← hT];exact Ah _ rfl
 have ga:h3.get? a=some (seqObj "list" #[] e1):=by rw[← hh3];exact Ac _ (Ac _ hE)
 have hbig:s.heap.objs.size<=a:=by lia
 have old3:∀b o,s.heap.get? b=some o->h3.get? b=some o:=fun b o e=>by
  rw[← hh3];refine Ac _ (Ac _ ?_);have:=Aj e;exact(Aw _ _ _ _ (Vf (Xc this hbig))).trans (old2 b o e)
 have hbig2:s.heap.objs.size<=a+2:=Qd hbig (Qi _ _);have fk:iV X pins H (a+2):=I.fpOk hbig2 (I.hok.fresh hbig2);have fa:iV X pins H a:=I.fpOk hbig (I.hok.fresh hbig);have hka:a+2≠a:=by lia
 have I3:L2.Inv X (pins++[(a+2,seqObj "list" #[] 0),(a,seqObj "list" #[] e1)]) σ H { s with heap:=h3 }:=by
  refine(I.kept (t':=s.toks) old3).pins_of fun p hp=>?_;rcases Zd.mp hp with z|z
  ·exact(I.kept (h':=h3) (t':=s.toks) old3).pin p (Wd _ z)
  ·rcases Xd.mp z with rfl|z
   ·exact⟨gk,fk.1,fk.2.1,fk.2.2.1,fun v z=>by cases z⟩
   ·rw[Vb.mp z];exact⟨ga,fa.1,fa.2.1,fa.2.2.1,fun v z=>by cases z⟩
 show wpAny (model X.prog X.w) X.A.in1.in1 (ksk_rest a (.ref f) false its.toArray e1 (.ref (((h2.update a (Obj.mapSeq fun _=>#[])).push (seqObj "tuple" its.toArray 0)).objs.size))) _ _ { s with heap:=h3 };rw[hT];refine bV ?_;refine vT (m:=m) (ks:=ks) hka hz' (by lia) (by lia) (SJ m X K pins σ H a e1 ks Z) ?hJ ?turn ?keys ?fin ⟨H,0,[],I3,Same.refl H,rfl,.nil,fun j v p e=>by simp at e⟩
 case hJ =>
  rintro i kA s' ⟨Hi,e,kvs,Ii,_,hsz,_⟩;exact⟨⟨e,NV Ii⟩,(NW Ii).1,hsz⟩
 case keys =>
  rintro kA s' ⟨Hi,e,kvs,Ii,_,hsz,rk,hd⟩ i u p e2 e3;obtain⟨v,e4,rv⟩:=dB rk i u (by simpa using e2)
  exact NU h (hm p (Wa e3)) Ii (hd i v p e4 e3) rv
 case turn =>
  rintro i kA v s' hv ⟨Hi,e,kvs,Ii,sm,hsz,rk,hd⟩;have hi:i<its.length:=(Wb.mp hv).1;obtain⟨vv,e4,rv⟩:=dB r i v hv;obtain⟨d,e5⟩:∃d,ds[i]?=some d:=⟨_,Za (by lia)⟩
  obtain⟨p,e6⟩:∃p,ks[i]?=some p:=⟨_,Za (by lia)⟩
  have da:DA K Z Hi vv d:=(el.2 i vv d e4 e5).same sm;have hsp:gX K g [vv] Hi (fun v H'=>Same Hi H'/\DA K Z H' v (keyD m p)) E0:=⟨Z,[d],(keyD m p,false),El.one da,fun b zb=>(lv b zb).same (sm b),hg i d p e5 e6,fun v H' s2 res=>⟨s2,res⟩⟩;refine wpAny_call (ol (Cz (F.run X.A.in1.in1 X.stack s' Hi ⟨[v],[]⟩ [v] [vv] _ E0 hr.in1.in1 Ii.env0.in1.in1 (hb s' [v] Ii.kIn rfl) (.cons rv .nil) hsp) fun rr s'' hq hle=>?_));cases rr with
  | error e=>exact hq.elim
  | ok fl =>
   cases fl with
   | next=>exact False.elim hq
   | brk=>exact False.elim hq
   | cont=>exact False.elim hq
   | ret u =>
    obtain⟨nv,Hn,In,ru,sm2,dn⟩:=Ii.after hq hle;have gk2:s''.heap.get? (a+2)=some (seqObj "list" kA e):=NV In;refine⟨⟨e,gk2⟩,?_⟩;obtain⟨e',ge⟩:∃e',(s''.heap.update (a+2) (Obj.mapSeq (·.push u))).get? (a+2)=some (seqObj "list" (kA.push u) e'):=⟨_,Bv gk2 (·.push u)⟩;refine⟨Hn,e',kvs++[nv],NT (t:=s''.toks) In fk hka ge (fun v z=>by cases z),fun b o eb=>sm2 b o (sm b o eb),by rw[Array.size_push,hsz],?_,fun j v p' e7 e8=>?_⟩
    ·rw[Array.toList_push];exact rk.append (.cons ru .nil)
    ·have hlk:kvs.length=i:=by rw[rk.length,Wc,hsz]
     by_cases hj:j<kvs.length
     ·rw[Yi hj]at e7;exact(hd j v p' e7 e8).same sm2
     ·rw[Wf (by lia)]at e7
      have hj0:j-kvs.length=0:=by
       have:=(Wb.mp e7).1;rw[Qj]at this;lia
      rw[hj0]at e7;have e9:nv=v:=by simpa using e7
      have e10:j=i:=by lia
      subst e9 e10;rw[e6]at e8;cases e8;exact dn
 case fin =>
  rintro kA s' γ tk ⟨Hi,e,kvs,Ii,sm,hsz,rk,hd⟩ p gS hle;have htk:0<tk:=I.tkl' hle;refine⟨_,rfl,Ab ⟨_,rfl,?_⟩⟩;rw[hn]at p gS;have hγ:∀g∈γ.toList,g<ds.length:=fun g hg=>by
   have:=(Zg.mp p).mem_iff.mp hg;rw[Zm]at this;exact Vg.mp this
  have vw:∀l:List Nat,(∀g∈l,g<ds.length)->Vals (l.map fun g=>vs.getD g .non) (l.map fun g=>its.getD g .none):=fun l=>by
   induction l with
   | nil=>exact fun _=>.nil
   | cons g l ih =>
    intro hl;have hgd:g<ds.length:=hl g Qa;have a1:its[g]?=some its[g]:=Za (by lia)
    obtain⟨v,e3,rv⟩:=dB r g _ a1;refine .cons ?_ (ih fun x hx=>hl x (Va _ hx));show RelV (vs.getD g .non) (its.getD g .none);rw[Xb,Xb,e3,a1];exact rv
  obtain⟨ga2,na2⟩:=NW Ii;have s1:=AC s'.heap (a+2) (Obj.mapSeq fun _=>(#[]:Array Value));have na1:(s'.heap.update (a+2) (Obj.mapSeq fun _=>(#[]:Array Value))).get? a=some (seqObj "list" #[] e1):=(s1.2 a hka.symm).trans ga2;obtain⟨e2,ge⟩:∃e2,((s'.heap.update (a+2) (Obj.mapSeq fun _=>#[])).update a (Obj.mapSeq fun _=>bD its γ)).get? a=some (seqObj "list" (bD its γ) e2):=⟨_,Bv na1 (fun _=>bD its γ)⟩;have elw:El K Z Hi (γ.toList.map fun g=>vs.getD g .non) (γ.toList.map (dk ds)):=by
   refine⟨by simp,fun i v d h1 h2=>?_⟩
   rw[Qc]at h1 h2;obtain⟨g1,k1,k2⟩:=Vc.mp h1;obtain⟨g2,k3,k4⟩:=Vc.mp h2;rw[k1]at k3;cases k3;have hgd:g1<ds.length:=hγ g1 (Wa k1);have d1:ds[g1]?=some ds[g1]:=Za hgd;obtain⟨v',e3,da⟩:=el.at d1;rw[lH d1]at k4;rw[Xb,e3]at k2;subst k4;have:v'=v:=k2;subst this;exact da.same sm
  have hlw:(γ.toList.map fun g=>vs.getD g .non).length<=sizeLine:=by rw[Ya,Wc,p.size_eq,Vk];lia
  refine⟨.ref a,upd Hi a (.lst (γ.toList.map fun g=>vs.getD g .non)),tracked (t:=tk) Ii fk fa (fun b o n1 n2 eb=>(Aw _ _ _ _ n2).trans ((Aw _ _ _ _ n1).trans eb)) ⟨hlw,(bD its γ).toList,e2,?_,by simpa using ge⟩,rfl,q γ Hi a _ p gS sm na2 elw⟩
  have e3:(bD its γ).toList=γ.toList.map fun g=>its.getD g .none:=by unfold bD;simp
  rw[e3];exact vw _ hγ
end
end VF
namespace VF
open PySem L2 PyProof.Rows TS
section
variable {X:Cx} {K:PySem.W.Frag}
open Classical in
noncomputable def jZ (ks:List KB) (ds:List D):List D:=if h:∃γ:Array Nat,γ.Perm (Array.range ds.length)/\Sg (cB ks) γ 0 ds.length then h.choose.toList.map (dk ds) else []
theorem sr {c:Nat->Nat->Bool} {γ:Array Nat} {n:Nat} (hn:γ.size=n) (g:Sg c γ 0 n):γ.toList.Pairwise (Bf c):=by
 rw[Wg];intro i j hi hj hij;rw[Wc]at hi hj;exact g i j γ.toList[i] γ.toList[j] (Yg _) hij (by lia) (by rw[← Wh];exact Za _) (by rw[← Wh];exact Za _)
theorem o3 {ks:List KB} {ds:List D} {γ:Array Nat} (p:γ.Perm (Array.range ds.length)) (g:Sg (cB ks) γ 0 ds.length):γ.toList.map (dk ds)=jZ ks ds:=by
 have ex:∃γ:Array Nat,γ.Perm (Array.range ds.length)/\Sg (cB ks) γ 0 ds.length:=⟨γ,p,g⟩;have e:jZ ks ds=ex.choose.toList.map (dk ds):=by unfold jZ;rw[dif_pos ex]
 obtain⟨p2,g2⟩:=ex.choose_spec;rw[e];congr 1;have s1:=sr (by rw[p.size_eq,Vk]) g
 have s2:=sr (by rw[p2.size_eq,Vk]) g2
 refine((Zg.mp p).trans (Zg.mp p2).symm).eq_of_pairwise (fun a b _ _ h1 h2=>?_) s1 s2;have asy:∀x y,cB ks x y=true->cB ks y x=true->False:=fun x y z1 z2=>by
  have:=lN z1 z2;rw[lM]at this;cases this
 rcases h1 with h1|h1
 ·rcases h2 with h2|h2
  ·exact(asy _ _ h1 h2).elim
  ·rw[h2.1]at h1;cases h1
 ·rcases h2 with h2|h2
  ·rw[h1.1]at h2;cases h2
  ·lia
def LG:Bool->Option Rz->Option KB
 | true,some (.tup [.bl b,.str x],false)=>some (b,x)
 | false,some (.str x,false)=>some (false,x)
 | _,_=>none
theorem HM {m:Bool} {z:Option Rz} {p:KB} (h:LG m z=some p):z=some (keyD m p,false)/\(m=false->p.1=false):=by
 unfold LG at h;split at h
 ·cases h;exact⟨rfl,fun z=>(by cases z)⟩
 ·cases h;exact⟨rfl,fun _=>rfl⟩
 ·cases h
def keysOf (m:Bool) (g:List D->Option Rz):List D->Option (List KB)
 | []=>some []
 | d::ds=>(LG m (g [d])).bind fun p=>(keysOf m g ds).bind fun ps=>some (p::ps)
theorem qI {m:Bool} {g:List D->Option Rz}:∀{ds:List D} {ks:List KB},keysOf m g ds=some ks->ks.length=ds.length/\(∀p∈ks,m=false->p.1=false)/\∀(i:Nat) d p,ds[i]?=some d->ks[i]?=some p->g [d]=some (keyD m p,false)
 | [],ks,h=>by cases h;exact⟨rfl,fun p z=>(by cases z),fun i d p e=>by simp at e⟩
 | d::ds,ks,h=>by
  refine bP h fun p e1 h=>?_;refine bP h fun ps e2 h=>?_;cases h;obtain⟨l,y,r⟩:=qI e2;obtain⟨e1,e3⟩:=HM e1;refine⟨by rw[Vd,Vd,l],fun p' z=>(Xd.mp z).elim (fun z=>z ▸ e3) (y p'),fun i d' p' a b=>?_⟩
  cases i with
  | zero =>
   have a1:d=d':=by simpa using a
   have a2:p=p':=by simpa using b
   subst a1 a2;exact e1
  | succ i=>exact r i d' p' (by simpa using a) (by simpa using b)
noncomputable def mJ (g:List D->Option Rz):List D->Option Rz
 | [.lst ds]=>if ds.length<64 then((keysOf true g ds).or (keysOf false g ds)).bind fun ks=>some (.lst (jZ ks ds),true) else none
 | _=>none
def Fq (K:PySem.W.Frag) (g:List D->Option Rz):List V->Hp->VK->Prop:=fun xs H Q=>∃(l:Addr) (Z:AS) (vs:List V) (ds:List D) (ks:List KB),xs=[.ref l]/\gj K H l vs/\El K Z H vs ds/\(∀p,Z p->Lv H p)/\(keysOf true g ds).or (keysOf false g ds)=some ks/\ds.length<64 /\
 ∀(H':Hp) (p:Addr) (ws:List V),Same H H'->H' p=none->El K Z H' ws (jZ ks ds)->Q (.ref p) (upd H' p (.lst ws))
theorem o7 {g:List D->Option Rz}:RdCB K (Fq K g) (mJ g):=by
 intro Y H xs ds z Q lv bs e q;cases bs with
 | nil=>cases e
 | @cons v vs d ds b1 bs =>
  cases bs with
  | cons _ _=>cases d<;>cases e
  | nil =>
   cases d with
   | lst es =>
    obtain⟨c,e⟩:=aL e;refine bP e fun ks e1 e=>?_;cases e;obtain⟨p,ws,rfl,hp,el⟩:=b1;refine⟨p,Y,ws,es,ks,rfl,.inl (.inl hp),el,lv,e1,c,fun H' p' ws' sm hn el'=>q _ _ (fun b o eb=>(aU hn _) b o (sm b o eb)) ?_⟩;have hH:H p'=none:=by
     cases e7:H p' with
     | none=>rfl
     | some o=>rw[sm p' o e7]at hn;cases hn
    obtain⟨p2,a1,_,a3⟩:=gu (K:=K) (Y:=Y) el' hn;exact⟨p2,a1,by cases a1;exact hH,a3⟩
   | _=>cases e
theorem o8 {x y:Str} {k k':Nat} {g:List D->Option Rz} {e:Expr} {es:List Expr} {t:TA} {p p2 kp pos:Pos} (h:X.K=K) (C:Cal X.prog X.w X.K X.mg X.base x k [y] (gX K g)) (hr:Room k' X.A) (hgs:Gl X "sorted") (hms:X.mg "sorted"=none) (hgf:Gl X x) (ha:PA X (e::es) t) (hk:k+2<=k':=by decide)
  (hdb:(x == ("__debug__":Str))=false:=by decide)
  (he:backTo pos (starEach (e::es) X.env)=(false,eval e X.env)::backTo pos (starEach es X.env):=by rfl) (hpl:(backTo pos (starEach (e::es) X.env)).any (·.1)=false:=by rfl) :
  PE X (.Call (.Name "sorted" p) (e::es) [⟨some "key",.Name x p2,kp⟩] pos) (JP (Fq K g) t):=by
 intro pins s σ H Q I hw;obtain⟨f,fd,F,hm,hkp,hb⟩:=C.ex;refine BB (iU I hgs hms boot_sorted ?_);refine PyProof.Rows.callWith_kw (cT (ha pos pins s σ H _ I hw) fun us s1 ⟨vs,H1,I1,r1,q1⟩=>?_) he hpl;refine PyProof.Rows.kws_cons (wj I1 hgf hm (PyProof.Rows.kws_nil ?_) hdb);obtain⟨l,Z,ws,ds,ks,rfl,sq,el,lv,hks,h64,q⟩:=q1;obtain⟨u,rfl,ru⟩:=vals1 r1;cases ru;obtain⟨m,hks⟩:∃m,keysOf m g ds=some ks:=by
  cases c:keysOf true g ds with
  | none=>rw[c]at hks;exact⟨_,hks⟩
  | some l=>rw[c]at hks;cases hks;exact⟨_,c⟩
 obtain⟨hl,hm,hg⟩:=qI hks;exact vU h F (hr.mono hk) hb I1 sq el lv hl h64 hm hg fun γ H' p' ws' pm sg sm hn el'=>q H' p' ws' sm hn (by rw[← o3 pm sg];exact el')
end
end VF
namespace VF
open PySem PySem.Spec PyProof.Rows L2
theorem FH.fix {P:Program} {w:World} {K:PySem.W.Frag} {mg:Str->Option Value} {base h:Heap} {x:Str} {st:Stmt} {N ps:List Str} {F:(List D->Option Rz)->FS} {g:Nat->List D->Option Rz} (h':FH K x st) (X:K.In h) (G:h.Ns mainGlobals mg) (S:FnScope N ps (az st)) (hb:Bn x st ps) (m:Nat)
  (g0:∀ds,g 0 ds=none) (g1:∀n ds,g (n+1) ds=bL (F (g n)) N.length ps.length ds)
  (hB:∀n f,n<=m->Cal P w K mg base x n ps (gX K f)->jH P w K mg base x st N n (F f)):∀n,n<=m+1->Cal P w K mg base x n ps (gX K (g n)):=by
 have no:∀vs H Q E,¬ gX K (g 0) vs H Q E:=fun vs H Q E h=>by
  obtain⟨Z,ds,z,el,lv,e,q⟩:=h;rw[g0]at e;cases e
 refine h'.calR X G hb m (fun f fd=>⟨fun vs H Q E h=>absurd h (no vs H Q E),fun A outer s H args us vs Q E _ _ _ _ h=>absurd h (no vs H Q E)⟩) fun n hn c f fd F'=>(OC F' S (hB n _ hn c)).imp fun vs H Q E hs=>?_;obtain⟨Z,ds,z,el,lv,e,q⟩:=hs;exact⟨Z,ds,z,el,lv,(g1 n ds).symm.trans e,q⟩
end VF
namespace VF22
open PySem PySem.Spec PyProof.Rows L2 VF
section
variable {K:PySem.W.Frag}
def jh (i:Nat) (fg:FG) (B:FS):Nat->Nat->FS
 | 0,_,_=>none
 | n+1,k,st=>(Fj i st).bind fun ds=>match ds[k]? with
  | none=>(MA i st).bind fun s=>some (.nx s)
  | some x=>(fg (.tup [.int (k:Int),x]) st).bind fun s1=>(B s1).bind fun o=>match o with
   | .nx s2=>jh i fg B n (k+1) s2
   | .ct s2=>jh i fg B n (k+1) s2
   | .bk s2=>(MA i s2).bind fun s=>some (.nx s)
   | .rt y s2=>some (.rt y s2)
def Jm (i:Nat) (fg:FG) (B:FS) (n:Nat):FS:=fun st=>(NP i st).bind fun s=>jh i fg B n 0 s
theorem HN (n:Nat) (hg:Kn K g fg tg) (hb:qq K tb B):qq K (JJ (Jk K (dL (tu i) mB)) g tb) (Jm i fg B n):=by
 intro st σ H O Z Dn E o e q;refine bP e fun s e0 e=>?_;unfold NP at e0;split at e0
 ·rename_i d e1
  cases e0;have E1:ER K (st.set i (.io d)) σ H O Z:=ER.sw E e1 rfl rfl;have at1:(st.set i (.io d))[i]?=some (.io d):=aT e1;obtain⟨p,g1,_,g3⟩:=E1.own i _ _ at1 rfl;have see:∀{s:En} {τ:L2.St} {H2:Hp} {O2:AS} {ds:List D},Kq (st.set i (.io d)) σ s τ->ER K s τ H2 O2 Z->Fj i s=some ds->∃vs,H2 p=some (.lst vs)/\El K (U O2 Z) H2 vs ds:=fun {s τ H2 O2 ds} kq ER2 at2=>by
   obtain⟨f1,d',f2⟩:=kq.io i d at1;unfold Fj at at2;rw[f2]at at2;split at at2
   ·rename_i ds' e'
    cases at2;cases e';obtain⟨p',j1,_,j3⟩:=ER2.own i _ _ f2 rfl;rw[f1,g1]at j1;cases j1;exact j3
   ·cases at2
  have first:∃xs,gj K H p xs:=by
   cases n with
   | zero=>cases e
   | succ n =>
    refine bP e fun ds e2 _=>?_;obtain⟨vs,h1,_⟩:=see (Kq.refl _ _) E1 e2;exact⟨vs,.inl (.inl h1)⟩
  obtain⟨xs,fx⟩:=first
  refine⟨.ref p,g1,false,p,xs,rfl,fx,?_⟩;refine⟨fun k m σ' H'=>∃s O',Ext O H O' H'/\Kq (st.set i (.io d)) σ s σ'/\ER K s σ' H' O' Z/\jh i fg B m k s=some o,⟨n,_,O,Ext.refl _ _,Kq.refl _ _,E1,e⟩,?_⟩;rintro k m σ' H' ⟨s,O',x2,k2,E2,e2⟩;cases m with
  | zero=>cases e2
  | succ m =>
   refine bP e2 fun ds e3 e2=>?_;obtain⟨vs,h1,h2⟩:=see k2 E2 e3;have sq:Sq K false H' p vs:=.inl (.inl h1);cases ek:ds[k]? with
   | none =>
    rw[ek]at e2;refine bP e2 fun s' e4 e2=>?_;cases e2;obtain⟨E3,d',e5,e6⟩:=Fk E2 e4;have hk:ds.length<=k:=List.getElem?_eq_none_iff.mp ek;exact .inl ⟨⟨vs,sq,by rw[h2.1];exact hk⟩,q σ' H' O' x2 (Fm e1 rfl k2 (.inl e6)) E3⟩
   | some x =>
    rw[ek]at e2;refine bP e2 fun s1 e4 e2=>?_;refine bP e2 fun o1 e5 e2=>?_;obtain⟨v,f1,f2⟩:=h2.at ek;refine .inr ⟨⟨vs,v,sq,f1⟩,fun σ3 H3=>∃s O3,Ext O H O3 H3/\Kq (st.set i (.io d)) σ s σ3/\ER K s σ3 H3 O3 Z/\jh i fg B m (k+1) s=some o,fun σ3 H3 h3=>⟨m,Ql _,h3⟩,fun y H'' hy=>?_⟩;obtain⟨p',x',rfl,hn,rfl,hy⟩:=hy;have ey:=hy vs sq;rw[f1]at ey;cases ey;have sm:=aU hn (.tup [.int (k:Int),v]);have xx:=x2.trans (Same.ext (O:=O') sm);have da:DA K (U O' Z) (upd H' p' (.tup [.int (k:Int),v])) (.ref p') (.tup [.int (k:Int),x]):=.tup ⟨bx,fun z=>(E2.liv p' z).1 hn⟩ rfl ((El.cons (.int _) (El.one f2)).same sm).2;refine hg s σ' _ O' Z _ _ _ (E2.same sm) da s1 e4 fun σ4 _ k4 E4=>?_;refine hb s1 σ4 _ O' Z _ E4 o1 e5 ?_;cases o1 with
    | nx s2=>exact fun σ5 H5 O5 x5 k5 E5=>⟨s2,O5,xx.trans x5,(k2.trans k4).trans k5,E5,e2⟩
    | ct s2=>exact fun σ5 H5 O5 x5 k5 E5=>⟨s2,O5,xx.trans x5,(k2.trans k4).trans k5,E5,e2⟩
    | bk s2 =>
     refine bP e2 fun s' e6 e2=>?_;cases e2;intro σ5 H5 O5 x5 k5 E5;obtain⟨E6,d',_,e7⟩:=Fk E5 e6;exact q σ5 H5 O5 (xx.trans x5) (Fm e1 rfl ((k2.trans k4).trans k5) (.inl e7)) E6
    | rt y s2 =>
     cases e2;exact fun v σ5 H5 O5 x5 k5 E5 rv w=>q v σ5 H5 O5 (xx.trans x5) (Fm (d':=d) e1 rfl ((k2.trans k4).trans k5) (.inr rfl)) E5 rv (w.back xx)
 ·cases e0
theorem xI {ds:List D} (I:Nat->En->Prop) (step:∀k x st,ds[k]?=some x->I k st->st[i]?=some (.io (.lst ds))->∃s1 s2,fg (.tup [.int (k:Int),x]) st=some s1/\B s1=some (.nx s2)/\s2[i]?=some (.io (.lst ds))/\I (k+1) s2) :
  ∀(n k:Nat) (st:En),ds.length<=k+n->k<=ds.length->I k st->st[i]?=some (.io (.lst ds))->∃sf,jh i fg B (n+1) k st=some (.nx (sf.set i (.o (.lst ds))))/\I ds.length sf
 | n,k,st,hn,hk,hI,ha=>by
  have at_:Fj i st=some ds:=by unfold Fj;rw[ha]
  by_cases hlt:k<ds.length
  ·cases n with
   | zero=>lia
   | succ n =>
    obtain⟨s1,s2,e1,e2,e3,e4⟩:=step k ds[k] st (Za hlt) hI ha;obtain⟨sf,e5,e6⟩:=xI I step n (k+1) s2 (by lia) hlt e4 e3
    refine⟨sf,?_,e6⟩;rw[jh,at_];simp only[Yb,Za hlt,e1,e2];exact e5
  ·have hk':k=ds.length:=by lia
   subst hk';refine⟨st,?_,hI⟩;rw[jh,at_];have o_:MA i st=some (st.set i (.o (.lst ds))):=by unfold MA;rw[ha]
   simp only[Yb,AQ (Xa _),o_]
end
end VF22
namespace VF
open PySem PySem.Spec PyProof.Rows L2
section
variable {X:Cx} {K:PySem.W.Frag}
def NX:R2:=fun x y H Q=>∃i j,x=.str i/\y=.str j/\Q (.bl (decide (j.cps.toList<i.cps.toList))) H
theorem LH:OpR X (compareOp .Gt) NX:=by
 intro pins s σ H x y v u Q I rx ry h;obtain⟨i,j,rfl,rfl,q⟩:=h;obtain⟨t,rfl⟩:=rx;obtain⟨t',rfl⟩:=ry;exact PySem.P.gt_str (bo I q rfl)
def LI:D->D->Option Rz
 | .str a,.str b=>some (.bl (decide (b.cps.toList<a.cps.toList)),false)
 | _,_=>none
theorem LJ:RdOp K NX LI:=by
 intro Y H x y d1 d2 z Q lv b1 b2 e q;cases d1 with
 | str a =>
  cases d2 with
  | str b=>cases e;exact⟨a,b,b1,b2,q _ H (Same.refl H) (.bl _)⟩
  | _=>cases e
 | _=>cases e
end
end VF
namespace VT
open PySem PySem.Spec PyProof.Rows L2 VF
section
variable {X:Cx} {o:Expr} {to:TE} {y z:Str} {k1 k2:Nat} {p1 p2 apos cpos:Pos}
def Jo (y z:Str) (to:TE):TE:=fun σ H Q=>to σ H fun x H1=>∃a:Str,x=.str a/\a.length<=1048576/\z.length<=14/\Q (.str (Txt.replace a y z)) H1
theorem pe_repl (hyz:(y == z)=false) (ho:PE X o to) (hbase:attributeBase o "replace" X.env (eval o X.env)=eval o X.env:=by rfl)
  (hfew:((backTo cpos (starEach [.Constant (.str y) k1 p1,.Constant (.str z) k2 p2] X.env)).all (fun x=>!x.1)&&(backToKw cpos (keywordEach [] X.env)).all (fun x=>x.1.isSome)
   && decide (([.Constant (.str y) k1 p1,.Constant (.str z) k2 p2]:List Expr).length+([]:List Keyword).length+(if ([]:List Keyword).isEmpty then 0 else 1)<30))=true:=by rfl)
  (hline:(apos.endLine == cpos.line)=true:=by rfl) (hplain:(backTo cpos (starEach [.Constant (.str z) k2 p2] X.env)).any (·.1)=false:=by rfl) :
  PE X (.Call (.Attribute o "replace" apos) [.Constant (.str y) k1 p1,.Constant (.str z) k2 p2] [] cpos) (Jo y z to):=by
 intro pins s σ H Q I h;refine wpAny_Call_method_late hbase hfew hline rfl (cT (ho pins s σ H _ I h) fun v s1 zz9=>?_);obtain⟨x,H1,I1,r1,a,rfl,ha,hz,q⟩:=zz9;obtain⟨t,rfl⟩:=r1;refine⟨"str","str.replace",PySem.F.plainAttrs_str,PySem.F.slot_str_replace,PySem.F.type_str_replace,Ch _ _ _,(fun _ e=>nomatch e),?_⟩;refine BX (by show(false||(backTo cpos (starEach [.Constant (.str z) k2 p2] X.env)).any (·.1))=false;rw[hplain];rfl) (Calls.evalArgs_plain ?_)
 refine Ct (Cu (k:=k1) (pos:=p1) (Ct (Cu (k:=k2) (pos:=p2) (Calls.spliced_nil ?_))));exact bV (SC.replaceW (Wl I1.tk) (Nat.succ_ne_zero _) (Vf (Ql _)) hyz ha hz fun t' k hle=>⟨.str _,H1,I1.tok k (Xc I1.tk (Qd (Qi _ 2) hle)),⟨t',rfl⟩,q⟩)
end
end VT
namespace VT
open PySem PySem.Spec PyProof.Rows L2 VF
section
variable {K:PySem.W.Frag}
def fRepl (y z:Str) (fe:FE):FE:=fun st=>(fe st).bind fun x=>match cont x.2 x.1 with
 | some (.str a)=>if a.length<=1048576/\z.length<=14 then some (.d (.str (Txt.replace a y z)),x.2) else none
 | _=>none
theorem rd_repl {y z:Str} {te:TE} {fe:FE} (h:d7 K te fe):d7 K (Jo y z te) (fRepl y z fe):=by
 intro st σ H O Z Q E r st' e q;refine dM e fun r1 st1 e1 e=>?_;refine h st σ H O Z _ E r1 st1 e1 fun v H1 O1 x1 k1 E1 rv w1=>?_;cases hc:cont st1 r1 with
 | none=>rw[hc]at e;cases e
 | some d =>
  rw[hc]at e;have b:=rv.ba E1 hc;cases d with
  | str a =>
   have e':(if a.length<=1048576/\z.length<=14 then some (Rs.d (.str (Txt.replace a y z)),st1) else none)=some (r,st'):=e;by_cases c:a.length<=1048576/\z.length<=14
   ·rw[Ae c]at e';cases e';exact⟨a,b,c.1,c.2,q _ H1 O1 x1 k1 E1 (show DA K (U O1 Z) H1 _ _ from .str _) trivial⟩
   ·rw[Ai c]at e';cases e'
  | _=>cases e
end
end VT
namespace VT
open PySem PySem.Spec PyProof.Rows L2 VF
def rp (c:Nat) (z:List Nat) (k:Nat):List Nat:=if k=c then z else [k]
theorem rp_free (c:Nat) (z:List Nat):∀l:List Nat,c∉l->l.flatMap (rp c z)=l
 | [],_=>rfl
 | k::r,h=>by
  have h1:¬ k=c:=fun e=>h (e ▸ Qa ..);rw[Qg,rp_free c z r fun m=>h (Va _ m),rp,Ai h1];rfl
theorem xJ (c:Nat) (z:Str):∀parts:List Str,(∀p∈parts,c∉p.cps.toList)->(Str.join ⟨#[c]⟩ parts).cps.toList.flatMap (rp c z.cps.toList)=(Str.join z parts).cps.toList
 | [],_=>rfl
 | [p],h=>rp_free c _ _ (h p (Vb.mpr rfl))
 | p::q::r,h=>by
  have ih:=xJ c z (q::r) fun a ha=>h a (Va _ ha);show(p++⟨#[c]⟩++Str.join ⟨#[c]⟩ (q::r)).cps.toList.flatMap (rp c z.cps.toList)=(p++z++Str.join z (q::r)).cps.toList;simp only[Bi,AE,Vh];rw[ih,rp_free c _ _ (h p (Qa ..))];show p.cps.toList++(rp c z.cps.toList c++[])++_=_;rw[rp,Ae rfl,Qe]
theorem repl_cps (x z:Str) (c:Nat):(Txt.replace x ⟨#[c]⟩ z).cps.toList=x.cps.toList.flatMap (rp c z.cps.toList):=by
 rw[StrLaws.replace_one,← xJ c z _ (StrLaws.split_free x c),StrLaws.join_split]
end VT
namespace VL
open PySem L2 VF
def Lw (x:Str):Prop:=∀c∈x.cps.toList,97<=c/\c<=122
abbrev letS:Str:=Str.ofString "abcdefghijklmnopqrstuvwxyz"
theorem o9:letS.cps.toList=List.range' 97 26:=by decide +kernel
def Nm (x:Str):Prop:=1<=x.length/\x.length<=6/\Lw x
theorem Fr {ys:List Str} (h:∀y∈ys,∃c,y=⟨#[c]⟩/\97<=c/\c<=122):Lw (Txt.join (Str.ofString "") ys):=by
 intro c hc;have e:Txt.join (Str.ofString "") ys=Str.join (Str.ofString "") ys:=StrLaws.glued_eq_join _ _;rw[e]at hc;rcases(PyProof.Rows.mem_join _ _ _).mp hc with⟨t,ht,hct⟩|⟨_,z⟩
 ·obtain⟨c',rfl,h1⟩:=h t ht;have:c=c':=by simpa using hct
  rw[this];exact h1
 ·have hE:(Str.ofString "").cps.toList=[]:=by decide +kernel
  rw[hE]at z;cases z
theorem join_ones {ys:List Str} (h:∀y∈ys,∃c,y=(⟨#[c]⟩:Str)):(Txt.join (Str.ofString "") ys).length=ys.length :=
 PySem.W.KT.join_ones ys fun a ha=>by obtain⟨c,rfl⟩:=h a ha;rfl
theorem Ft {ys:List Str} (h:∀y∈ys,∃c,y=(⟨#[c]⟩:Str)):(ys.map (·.length)).sum=ys.length:=by
 induction ys with
 | nil=>rfl
 | cons y r ih =>
  obtain⟨c,rfl⟩:=h y Qa;rw[Ve,List.sum_cons,ih fun z hz=>h z (Va _ hz)];show 1+r.length=r.length+1;lia
theorem Lw.app {x y:Str} (a:Lw x) (b:Lw y):Lw (x++y):=fun c hc=>by
 rw[Bi,AE]at hc;rcases Zd.mp hc with z|z
 ·exact a c z
 ·exact b c z
theorem Fu:Lw (Str.ofString ""):=fun c hc=>by
 have hE:(Str.ofString "").cps.toList=[]:=by decide +kernel
 rw[hE]at hc;cases hc
def word (s:Nat):Str:=Txt.mul ⟨#[97+s % 26]⟩ (1+((s:Nat):Int) / 26)
theorem jI (s:Nat):(word s).cps.toList=List.replicate (1+s / 26) (97+s % 26):=by
 unfold word;rw[PyProof.Rows.mul_one_list];have e:(1+((s:Nat):Int) / 26).toNat=1+s / 26:=by lia
 rw[e]
theorem uJ (s:Nat):(word s).length=1+s / 26:=by
 have:=congrArg List.length (jI s);rw[Yl,Wc]at this;exact this
theorem Fv {a b:Nat} (h:word a=word b):a=b:=by
 have h1:(word a).cps.toList=(word b).cps.toList:=by rw[h]
 rw[jI,jI]at h1;have h2:=congrArg List.length h1;rw[Yl,Yl]at h2;have h3:=congrArg (fun l=>l[0]?) h1;simp only[Yn]at h3;rw[Ae (by lia),Ae (by lia)]at h3
 have h4:=Option.some.inj h3;lia
theorem HP {s:Nat} (h:s<=120):Nm (word s):=by
 refine⟨by rw[uJ];lia,by rw[uJ];lia,fun c hc=>?_⟩
 rw[jI]at hc;have:=Ds hc;lia
theorem zm {xs:List Str} {s:Nat} (h:∀j,j<s->word j∈xs):s<=xs.length:=by
 have:=lD ((List.range s).map word) xs (by
  show List.Pairwise _ _;rw[Qh];exact List.nodup_range.imp fun hne e=>hne (Fv e)) (fun x hx=>by
  obtain⟨j,hj,rfl⟩:=Yc.mp hx
  exact h j (Vg.mp hj))
 rw[Ya,CK]at this;exact this
theorem LK (s:Nat):jR letS.cps.toList (((s:Nat):Int) % 26)=some (97+s % 26):=by
 have e:((s:Nat):Int) % 26=(((s % 26:Nat)):Int):=by lia
 rw[e];refine jz ?_;rw[o9,List.getElem?_range' (by lia)]
 congr 1;lia
abbrev minus:Str:=Str.ofString "-"
def bd (p:Bool×Str):Str:=if p.1 then minus++p.2 else p.2
theorem f7:minus.cps.toList=[45]:=by decide +kernel
theorem su {p:Bool×Str} (h:Nm p.2):1<=(bd p).length/\(bd p).length<=7:=by
 have e:minus.length=1:=by decide +kernel
 unfold bd;split
 ·rw[Bh,e];have:=h.1;have:=h.2.1;lia
 ·have:=h.1;have:=h.2.1;lia
theorem xK {x y:Str} (h:x.cps.toList=y.cps.toList):x=y:=by
 cases x;cases y;have:_=_:=Array.toList_inj.mp h;exact congrArg Str.mk this
theorem vV {n:Str}:Txt.slice (minus++n) (some 1) none=n:=by
 have e:minus.length=1:=by decide +kernel
 rw[PyProof.Rows.slice_from_eq (i:=1) (b:=((minus++n).length:Int)) (by decide) (by rw[Bh,e];lia) rfl]
 refine xK ?_;show((List.drop 1 (minus++n).cps.toList).take _).toArray.toList=_;rw[Bi,AE,f7,Bh,e];show List.take _ n.cps.toList=_;refine BV ?_;rw[Wc];show n.length<=_;lia
theorem Fw {p:Bool×Str} (h:Nm p.2):∃c,jR (bd p).cps.toList 0=some c/\(V.str ⟨#[c]⟩=V.str minus↔p.1=true):=by
 obtain⟨t,n⟩:=p;have em:(⟨#[45]⟩:Str)=minus:=by decide +kernel
 cases t with
 | true =>
  refine⟨45,?_,fun _=>rfl,fun _=>by rw[em]⟩
  show jR (minus++n).cps.toList 0=_;rw[Bi,AE,f7];exact Na
 | false =>
  have h1:1<=n.length:=h.1;cases e:n.cps.toList with
  | nil =>
   have:=congrArg List.length e;rw[Wc]at this;have h2:n.cps.size=n.length:=rfl;rw[h2]at this;simp at this;lia
  | cons c r =>
   refine⟨c,?_,fun z=>?_,fun z=>by cases z⟩
   ·show jR n.cps.toList 0=_;rw[e];exact Na
   ·have hc:=h.2.2 c (by show c∈n.cps.toList;rw[e];exact Qa)
    have z1:(⟨#[c]⟩:Str)=minus:=V.str.inj z;rw[← em]at z1;have z2:c=45:=by simpa using z1
    lia
theorem HQ {n:Str} (h:Nm n):∃c r,n.cps.toList=c::r/\c≠45:=by
 cases e:n.cps.toList with
 | nil =>
  have h1:1<=n.length:=h.1;have:=congrArg List.length e;rw[Wc]at this;have h2:n.cps.size=n.length:=rfl;rw[h2]at this;simp at this;lia
 | cons c r =>
  refine⟨c,r,rfl,fun z=>?_⟩;have hc:=h.2.2 c (by rw[e];exact Qa)
  lia
theorem mK {t:Bool} {n:Str} (h:Nm n):Txt.startswith (bd (t,n)) minus=t:=by
 have e1:minus.length=1:=by decide +kernel
 have hl:=(su (p:=(t,n)) h).1;unfold Txt.startswith
 rw[Af (show 0+minus.length<=(bd (t,n)).length by lia),Bool.true_and,StrLaws.subAt_eq,f7,e1]
 cases t with
 | true =>
  show((((minus++n).cps.toList).drop 0).take 1 == [45])=true;rw[Bi,AE,f7];rfl
 | false =>
  obtain⟨c,r,e,hc⟩:=HQ h;show(((n.cps.toList).drop 0).take 1 == [45])=false;rw[e];show([c] == [45])=false;simp[hc]
end VL
namespace VF22
open PySem L2 VF
theorem LL {X:Cx} {e:Expr} {t:TE} (h:Jj X e t):PE X e t:=by
 unfold Jj at h;exact h
theorem Fx {X:Cx} {i0:Int} {j0:_} {p0:Pos} {i1:Int} {j1:_} {p1:Pos} {i2:Int} {j2:_} {p2:Pos} {i3:Int} {j3:_} {p3:Pos} {i4:Int} {j4:_} {p4:Pos} {pos:Pos}:Jj X (.List [.Constant (.int i0) j0 p0,.Constant (.int i1) j1 p1,.Constant (.int i2) j2 p2,.Constant (.int i3) j3 p3,.Constant (.int i4) j4 p4] pos) (zV (dL (tC (.int i0)) (dL (tC (.int i1)) (dL (tC (.int i2)) (dL (tC (.int i3)) (dL (tC (.int i4)) mB)))))):=HH (jY ai (jY ai (jY ai (jY ai (jY ai xC rfl) rfl) rfl) rfl) rfl)
end VF22
namespace K59
open PySem L2 VF VF22
noncomputable section
abbrev aw:FE:=aM 0
abbrev bi:FE:=aM 1
abbrev bR:FE:=aM 2
abbrev df:FE:=aM 3
abbrev dI:FE:=aM 4
abbrev eL:FE:=aM 5
abbrev ji:FE:=aM 6
abbrev vW:FE:=aM 7
abbrev pe:FE:=aM 8
abbrev LM:FE:=aM 9
abbrev aQ:FE:=fC (.int 0)
abbrev aO:FE:=fC (.int 1)
abbrev eU:FE:=fC (.int 2)
abbrev eV:FE:=fC (.int 3)
abbrev jJ:FE:=fC (.int 4)
abbrev HR:FE:=fC (.int 6)
abbrev xL:FE:=fC (.int 7)
abbrev uK:FE:=fC (.int 10)
abbrev Fy:FE:=fC (.int 18)
abbrev Fz:FE:=fC (.int 23)
abbrev ph:FE:=fC (.int 26)
abbrev FB:FE:=fC (.int 76)
abbrev zn:FE:=fC (.int 764)
abbrev vX:FE:=fC (.int 7919)
abbrev uL:FE:=fC (.int 40013)
abbrev uM:FE:=fC (.int 48271)
abbrev mV:FE:=fC (.int 65521)
abbrev j8:FE:=fC (.int 1000003)
abbrev pi:FE:=fC (.int 12820163)
abbrev g8:FE:=fC (.int 2147483647)
def mW:FS :=
  (b7 (KO "str" wJ aw (ag (fC (.str "-")) aq)))
def cq:List D->Option Rz:=bL mW 1 1
def qJ:FS :=
  (b7 (s9 (aI (bq cq (ag aw aq))) (t9 IS aw (dX aO) yS) aw))
def bU:List D->Option Rz:=bL qJ 1 1
def pj:FS :=
  (b7 (s9 (aI (bq cq (ag aw aq))) (bq bU (ag aw aq)) (aH di (fC (.str "-")) aw)))
def eM:List D->Option Rz:=bL pj 1 1
def jj:FS :=
  (b7 (dW eQ (ag (dN 1 [] (wT aw) (gN 0) cV (bq eM (ag aw aq))) aq)))
def cQ:List D->Option Rz:=bL jj 1 1
def lO:FS :=
  (aV (ls (aI (aH jd (dW fX (ag aw aq)) aO)) (b7 (dD (ag (bq bU (ag (aH bE aw aQ) aq)) aq))) cI)
  (aV (ls (aI (aH Mz (bq bU (ag (aH bE aw aQ) aq)) (bq bU (ag (aH bE aw (Gy tY aO)) aq)))) (b7 (dW eQ (ag aw aq))) cI)
  (b7 (ce cQ (ag aw aq)))))
def iG:List D->Option Rz:=bL lO 1 1
def j9:FS :=
  (aV (bN (dN 1 [] (nC aw) (gN 0) cV (bq bU (ag aw aq))) 1)
  (b7 (KO "list" bIndex bi (ag (dW xF (ag bi aq)) aq))))
def cE:List D->Option Rz:=bL j9 2 1
def lP:FS :=
  (aV (bN (s9 (aI (bq cq (ag (aH bE aw (bq cE (ag aw aq))) aq))) (ce cQ (ag aw aq)) (dW eQ (ag aw aq))) 1)
  (aV (bN (bq cE (ag bi aq)) 2)
  (b7 (aH cj (t9 fG bi (dX bR) yS) (t9 fG bi yS (dX bR))))))
def iH:List D->Option Rz:=bL lP 3 1
def jk:FS :=
  (aV (ls (aI (aH jd (aH bE aw aQ) (fC (.str "open")))) (b7 (dD (ag (fC (.str "open")) (ag (ce iG (ag (aH bE aw aO) aq)) aq)))) cI)
  (b7 (dD (ag (fC (.str "ring")) (ag (ce iH (ag (aH bE aw aO) aq)) aq)))))
def cR:List D->Option Rz:=bL jk 1 1
def kc:FS :=
  (b7 (dD (ag (aH jd (aH bE aw aQ) (fC (.str "ring"))) (ag (bq bU (ag (aH bE (aH bE aw aO) aQ) aq)) aq))))
def cF:List D->Option Rz:=bL kc 1 1
def xM:FS :=
  (b7 (dW eQ (ag (dW (mJ cF) (ag (dN 1 [] (nC aw) (gN 0) cV (ce cR (ag aw aq))) aq)) aq)))
def sv:List D->Option Rz:=bL xM 1 1
def iR:FS :=
  (aV (nu qF (s9 (aI (aH jd (dW fX (ag bR aq)) eU)) (aH bE bR aO) (fC .non)) 1 (aH bE bR aQ))
  (nu qF (s9 (aI (aH jd (dW fX (ag bR aq)) eU)) (aH bE bR aQ) (fC .non)) 1 (aH bE bR (Gy tY aO))))
def kf:FS :=
  (aV (bN (xB (.dt [])) 1)
  (aV (nt (nC aw) (gN 2) iR)
  (b7 bi)))
def gO:List D->Option Rz:=bL kf 3 1
def qK:FS :=
  (b7 (s9 (aI (aH jd (aH bE aw aO) aQ)) (aH bE aw aQ) (bq eM (ag (aH bE aw aQ) aq))))
def jK:List D->Option Rz:=bL qK 1 1
def uN:FS :=
  (b7 (dD (ag (aH bE aw aQ) (ag (aH G4 aO (aH bE aw aO)) aq))))
def lQ:List D->Option Rz:=bL uN 1 1
def jl:FS :=
  (aV (gr (fM vI gw 2 (ag (ce jK (ag df aq)) aq)))
  (bN (aH lJ bi (ce lQ (ag df aq))) 3))
def lR:FS :=
  (aV (bN (jS (ag (ce jK (ag aw aq)) aq)) 2)
  (aV (bN (aH lJ bi (ce lQ (ag aw aq))) 3)
  (aV (Gz (iP (aI (aH (nA true) df (fC .non))) (aI (aH jf df aw))) jl 100)
  (b7 (dW eQ (ag bR aq))))))
def fK:List D->Option Rz:=bL lR 4 2
def kO:FT :=
  (aI (aH (nA false) (aH lJ bi aw) (fC .non)))
def kP:FE :=
  aw
def kQ:FS :=
  (nu qF (fC (.bl true)) 4 (bq bU (ag vW aq)))
def pp:FS :=
  (ls (aI (aH (Lr true) (aH bE eL aQ) dI)) (aV (bN (ce fK (ag eL (ag bi aq))) 6)
  (aV (gr (fM vI gw 3 (ag (dD (ag (s9 (aI (aH (nA false) (aH lJ bi eL) (fC .non))) (fC (.str "open")) (fC (.str "ring"))) (ag ji aq))) aq)))
  (nt (nC ji) (gN 7) kQ))) cI)
def uO:FS :=
  (aV (bN (ce gO (ag aw aq)) 1)
  (aV (bN (dN 1 [1] (nC (dW kN (ag bi aq))) (gN 0) kO kP) 2)
  (aV (bN (jS aq) 3)
  (aV (bN (xB (.dk [])) 4)
  (aV (nt (nC (aH di bR (dW kN (ag bi aq)))) (gN 5) pp)
  (b7 (ce sv (ag df aq))))))))
def pq:List D->Option Rz:=bL uO 8 1
def mX (gs:List D->Option Rz):FS :=
  (aV (ls (aI (aH jd (dW fX (ag aw aq)) aQ)) (b7 (jS (ag (dD aq) aq))) cI)
  (aV (bN (dN 1 [0] (nC (ce gs (ag (t9 fG aw (dX aO) yS) aq))) (gN 0) cV (aH cj (dD (ag (dD (ag (aH bE bi aQ) aq)) aq)) aw)) 1)
  (aV (nt (G0 (ag aO (ag (dW fX (ag aw aq)) aq))) (gN 2) (gr (fM vI jE 1 (ag (dN 1 [0,2] (nC (ce gs (ag (aH cj (t9 fG aw (dX aO) (dX bR)) (t9 fG aw (dX (aH cj bR aO)) yS)) aq))) (gN 0) cV (aH cj (dD (ag (dD (ag (aH bE bi aQ) (ag (aH bE bi bR) aq))) aq)) aw)) aq))))
  (b7 bi))))
def dR:Nat->List D->Option Rz
 | 0=>fun _=>none
 | n+1=>bL (mX (dR n)) 3 1
def lT:FS :=
  (gr (fM vI jE 1 (ag (jS (ag (dD (ag bR (ag aQ aq))) (ag (dD (ag bR (ag aO aq))) aq))) aq)))
def iI:FE :=
  (ce pq (ag aw aq))
def pr:FS :=
  (aV (bN (jS aq) 1)
  (aV (nt (nC (dW eK (ag aw aq))) (gN 2) lT)
  (b7 (dW eK (ag (dN 1 [] (nC (ce (dR 9) (ag bi aq))) (gN 0) cV iI) aq)))))
def iJ:List D->Option Rz:=bL pr 3 1
def px:FS :=
  (b7 (jS (ag (dW oJ (ag aw aq)) (ag aQ (ag aQ (ag aO (ag aQ aq)))))))
def kR:List D->Option Rz:=bL px 1 1
def kT:FS :=
  (aV (ls (iP (aI (aH jd (aH bE aw eU) aQ)) (aI (aH Mz (aH bE aw aO) (dW fX (ag (aH bE aw aQ) aq))))) (aV (bN (aH bE (aH bE aw aQ) (aH bE aw aO)) 2)
  (aV (nu oI (aH di (aH bE aw aO) aO) 0 aO)
  (ls (aI (aH Ph bR (aH Nj uK Fy))) (nu oI bR 0 eU) (nu oI (aH oG (aH di (aH di (aH pV (aH bE aw eV) uL) (aH oG bR j8)) aO) g8) 0 eV)))) cI)
  (aV (ls (aI (aH Mx (aH bE aw eU) aQ)) (aV (bN (aH oG (aH bE aw eU) bi) 3)
  (aV (nu oI (aH vG (aH bE aw eU) bi) 0 eU)
  (b7 df))) cI)
  (aV (nu oI (aH di (aH bE aw jJ) aO) 0 jJ)
  (aV (nu oI (aH oG (aH di (aH di (aH pV (aH bE aw eV) uM) pi) (aH bE aw jJ)) g8) 0 eV)
  (b7 (aH oG (aH vG (aH oG (aH pV (aH di (aH oG (aH bE aw eV) mV) aO) (aH di (aH vG (aH bE aw eV) mV) vX)) j8) xL) bi))))))
def bC:D->List D->Option (Rz×D):=fz kT 4 2
def ki:FS :=
  (b7 (KO "str" Eg (fC (.str "")) (ag (dN 1 [0] (vD (ag bi aq)) (gN 0) cV (aH bE (fC (.str "abcdefghijklmnopqrstuvwxyz")) (pU bC 1 (ag ph aq)))) aq)))
def dj:D->List D->Option (Rz×D):=fz ki 2 2
def pz:FS :=
  (aV (ls (aI (aH He bi (fC (.str "")))) (b7 (aH di bi (pU dj 0 (ag (aH di aO (pU bC 0 (ag eU aq))) aq)))) cI)
  (aV (ls (aI (aH jd (pU bC 0 (ag xL aq)) aQ)) (aV (bN (jS (Eh ["to","turn","turns","ring","rings","odd","ours","row","rows","cuts","knots","cover"])) 2)
  (aV (bN (aH di bR (jS (Eh ["change","joins","theirs","one","two","home","none","open","keep","tox","onex"]))) 2)
  (b7 (aH bE bR (pU bC 0 (ag Fz aq)))))) cI)
  (b7 (pU dj 0 (ag (aH di aO (pU bC 0 (ag HR aq))) aq)))))
def kU:D->List D->Option (Rz×D):=fz pz 3 2
def jm:FS :=
  (aV (bN (fC (.str "")) 2)
  (aV (ls (aI (aH jd (pU bC 0 (ag eV aq)) aQ)) (bN (pU dj 0 (ag (aH di aO (pU bC 0 (ag jJ aq))) aq)) 2) cI)
  (aV (bN (jS aq) 3)
  (aV (nt (vD (ag bi aq)) (gN 4) (aV (bN (pU kU 0 (ag bR aq)) 5)
  (aV (bN aQ 6)
  (aV (Gz (aI (aH Nn eL df)) (aV (bN (aH pV (aH bE (fC (.str "abcdefghijklmnopqrstuvwxyz")) (aH oG ji ph)) (aH di aO (aH vG ji ph))) 5)
  (bN (aH di ji aO) 6)) 200)
  (gr (fM vI gw 3 (ag eL aq)))))))
  (b7 df)))))
def jn:D->List D->Option (Rz×D):=fz jm 7 2
def mY (gs:List D->Option Rz):FS :=
  (aV (ls (aI (aH (nA false) bi (fC .non))) (b7 (aH (nA false) aw (fC .non))) cI)
  (aV (ls (pS (aI (dW cy (ag bi (ag (fC (.ty "bool")) aq)))) (aI (dW cy (ag aw (ag (fC (.ty "bool")) aq))))) (b7 (mT (dW cy (ag bi (ag (fC (.ty "bool")) aq))) (mT (dW cy (ag aw (ag (fC (.ty "bool")) aq))) (aH jd aw bi)))) cI)
  (aV (ls (aI (dW cy (ag bi (ag (fC (.ty "int")) aq)))) (b7 (mT (dW cy (ag aw (ag (fC (.ty "int")) aq))) (aH jd aw bi))) cI)
  (aV (ls (aI (dW cy (ag bi (ag (fC (.ty "str")) aq)))) (b7 (mT (dW cy (ag aw (ag (fC (.ty "str")) aq))) (aH jd aw bi))) cI)
  (aV (ls (pS (aI (aH He (dW cy (ag bi (ag (fC (.ty "tuple")) aq))) (dW cy (ag aw (ag (fC (.ty "tuple")) aq))))) (aI (aH He (dW cy (ag bi (ag (fC (.ty "list")) aq))) (dW cy (ag aw (ag (fC (.ty "list")) aq)))))) (b7 (fC (.bl false))) cI)
  (b7 (mT (aH jd (dW fX (ag aw aq)) (dW fX (ag bi aq))) (dW KK (ag (dN 1 [0,1] (vD (ag (dW fX (ag bi aq)) aq)) (gN 0) cV (bq gs (ag (aH bE bi aw) (ag (aH bE bR aw) aq)))) aq)))))))))
def jp:FS :=
  (aV (ls (aI (aH jd (aH bE aw aQ) (fC (.str "-")))) (b7 (t9 IS aw (dX aO) yS)) cI)
  (b7 (aH di (fC (.str "-")) aw)))
def f8:List D->Option Rz:=bL jp 1 1
def g9:FS :=
  (b7 (VT.fRepl "-" "" (aH bE (aH bE aw aO) aQ)))
def bc:List D->Option Rz:=bL g9 1 1
def eW:FE :=
  (VT.fRepl "-" "" aw)
def pY:FE :=
  (bq f8 (ag aw aq))
def pZ:FE :=
  (bq f8 (ag aw aq))
def gP:FS :=
  (aV (bN (dN 1 [] (nC dI) (gN 0) cV eW) 5)
  (ls (aI (aH jd df (fC (.str "open")))) (aV (ls (pS (aI (aH LI (aH bE eL aQ) (aH bE eL (Gy tY aO)))) (iP (aI (aH jd (dW fX (ag dI aq)) aO)) (aI (aH jd (aH bE (aH bE dI aQ) aQ) (fC (.str "-")))))) (bN (dW eQ (ag (dN 1 [] (nC (K7 dI)) (gN 0) cV pY) aq)) 4) cI)
  (gr (fM vI gw 1 (ag (dD (ag df (ag dI aq))) aq)))) (aV (bN (KO "list" bIndex eL (ag (dW xF (ag eL aq)) aq)) 6)
  (aV (bN (aH cj (t9 fG dI (dX ji) yS) (t9 fG dI yS (dX ji))) 4)
  (aV (ls (aI (aH jd (aH bE (aH bE dI aQ) aQ) (fC (.str "-")))) (aV (bN (dW eQ (ag (dN 1 [] (nC (K7 dI)) (gN 0) cV pZ) aq)) 4)
  (bN (aH cj (t9 fG dI (dX (Gy tY aO)) yS) (t9 fG dI yS (dX (Gy tY aO)))) 4)) cI)
  (gr (fM vI gw 2 (ag (dD (ag df (ag dI aq))) aq))))))))
def mZ:FS :=
  (aV (bN (jS aq) 1)
  (aV (bN (jS aq) 2)
  (aV (nt (nC aw) (gT 2 (vB (gN 3) (vB (gN 4) IP))) gP)
  (b7 (dW eQ (ag (aH cj (dW (mJ bc) (ag bi aq)) (dW (mJ bc) (ag bR aq))) aq))))))
def jq:List D->Option Rz:=bL mZ 7 1
def f9:FE :=
  (VT.fRepl "-" "" aw)
def gc:FS :=
  (gr (fM vI jE 1 (ag (dN 1 [] (nC df) (gN 0) cV f9) aq)))
def hU:FS :=
  (aV (bN (jS aq) 1)
  (aV (nt (nC aw) (gT 2 (vB (gN 2) (vB (gN 3) IP))) gc)
  (b7 (dW eK (ag bi aq)))))
def eN:List D->Option Rz:=bL hU 4 1
def sx:FS :=
  (aV (ls (pS (oD (aI (dW cy (ag pe (ag (fC (.ty "tuple")) aq))))) (pS (oD (aI (bq (eI 6) (ag pe (ag (ce jq (ag pe aq)) aq))))) (aI (aH jf (ce eN (ag pe aq)) ji)))) (b7 (fC (.bl false))) cI)
  (ls (iP (aI (aH Mx vW aQ)) (oD (aI (aH Fo (aH bE eL (aH G4 vW aO)) pe)))) (b7 (fC (.bl false))) cI))
def Jp:FS :=
  (aV (bN (ce kR (ag aw aq)) 1)
  (aV (bN (pU bC 1 (ag eV aq)) 2)
  (aV (ls (aI (aH lG (pU bC 1 (ag jJ aq)) aQ)) (bN (aH di eV (dW (b1 La) (ag (aH lG (pU bC 1 (ag jJ aq)) aQ) aq))) 2) cI)
  (aV (bN (pU jn 1 (ag bR aq)) 3)
  (aV (bN (dW oJ (ag df aq)) 4)
  (aV (bN (ce iJ (ag dI aq)) 5)
  (aV (ls (pS (aI (aH jf dI df)) (pS (oD (aI (dW cy (ag eL (ag (fC (.ty "list")) aq))))) (aI (aH jf (dW fX (ag eL aq)) (aH bE (jS (ag aO (ag eU (ag uK (ag FB (ag zn aq)))))) bR))))) (b7 (fC (.bl false))) cI)
  (aV (bN (dW eK (ag df aq)) 6)
  (aV (Jm 5 (gT 2 (vB (gN 7) (vB (gN 8) IP))) sx 100000)
  (aV (bN (dW oJ (ag eL aq)) 9)
  (aV (gr (Oy vI EE 5))
  (b7 (yM (aH Mx bR eV) (aH lG (ce iJ (ag df aq)) LM))))))))))))))
def NY:List D->Option Rz:=bL Jp 10 1
end
end K59
namespace K59
open PySem L2 VF VF22
abbrev vf:List Str:=["bead"]
abbrev zo:List Str:=["beads"]
abbrev zE:List Str:=["_law_bead"]
abbrev GB:List Str:=["strand"]
abbrev HS:List Str:=["_law_flow_here","_law_many"]
abbrev MC:List Str:=["joints"]
abbrev MD:List Str:=["_law_script"]
abbrev ME:List Str:=["_law_found","_law_due"]
abbrev NZ:List Str:=["_law_some","_law_opens","_law_rings","_law_kind","_law_beads","_law_bare","_law_at"]
abbrev OD:List Str:=["ends","found","k"]
abbrev HU:List Str:=["_law_strand"]
abbrev LN:List Str:=["joints","beyond","free","strands","seen","end","beads","bead"]
abbrev LO:List Str:=["names","ends","name"]
abbrev LP:List Str:=["_law_some","_law_found","_law_kind","_law_beads"]
abbrev N0:List Str:=["_law_flow_here","_law_many","_law_cell","_law_digit"]
abbrev N1:List Str:=["_law_flow_here","_law_stem","_law_words"]
abbrev N2:List Str:=["_law_flow_here","_law_many","_law_stem","_law_names_here","_law_k","_law_name_here","_law_spare"]
abbrev N3:List Str:=["_law_script","_law_flow_here","_law_many","_law_names_here","_law_handed","_law_found","_law_due","_law_k","_law_some","_law_kept"]
def top (i:Nat):Stmt:=PySem.Challenge.pw_strandwright_k59_all_sets_of_few.main.body.getD i (.Pass ⟨0,0,0,0⟩)
abbrev mL:Stmt:=top 1
abbrev sy:Stmt:=top 2
abbrev mM:Stmt:=top 3
abbrev fL:Stmt:=top 4
abbrev kW:Stmt:=top 6
abbrev gB:Stmt:=top 7
abbrev kX:Stmt:=top 8
abbrev iK:Stmt:=top 9
abbrev jr:Stmt:=top 10
abbrev sA:Stmt:=top 11
abbrev jt:Stmt:=top 13
abbrev sB:Stmt:=top 14
abbrev sC:Stmt:=top 15
abbrev kY:Stmt:=top 16
abbrev sD:Stmt:=top 17
abbrev gf:Stmt:=top 19
abbrev lU:Stmt:=top 20
abbrev vY:Stmt:=top 22
abbrev vZ:Stmt:=top 23
abbrev jL:Stmt:=top 24
abbrev v0:Stmt:=top 25
abbrev sE:Stmt:=top 26
abbrev og:Stmt:=top 27
abbrev kZ:Stmt:=top 28
abbrev ju:Stmt:=top 29
abbrev jM:Stmt:=top 30
abbrev gC:Stmt:=top 31
abbrev LQ:Stmt:=top 32
theorem sF:FnScope vf vf (az mL):=mx (by decide +kernel)
theorem v4:FnScope vf vf (az sy):=mx (by decide +kernel)
theorem sG:FnScope vf vf (az mM):=mx (by decide +kernel)
theorem nG:FnScope zo zo (az fL):=mx (by decide +kernel)
theorem p6:FnScope zo zo (az kW):=mx (by decide +kernel)
theorem sc_sfirstplace:FnScope ["beads","names"] zo (az gB):=mx (by decide +kernel)
theorem sc_scanonring:FnScope ["beads","side","begin"] zo (az kX):=mx (by decide +kernel)
theorem nH:FnScope GB GB (az iK):=mx (by decide +kernel)
theorem pA:FnScope GB GB (az jr):=mx (by decide +kernel)
theorem zp:FnScope ["some"] ["some"] (az sA):=mx (by decide +kernel)
theorem sc_sendsbeyond:FnScope ["joints","beyond","joint"] MC (az jt):=mx (by decide +kernel)
theorem v5:FnScope ["end"] ["end"] (az sB):=mx (by decide +kernel)
theorem v6:FnScope ["end"] ["end"] (az sC):=mx (by decide +kernel)
theorem sc_sbeadsfrom:FnScope ["begin","beyond","beads","here"] ["begin","beyond"] (az kY):=mx (by decide +kernel)
theorem sc_ssetof:FnScope LN MC (az sD):=mx (by decide +kernel)
theorem sc_smatchings:FnScope OD ["ends"] (az gf):=mx (by decide +kernel)
theorem sc_sallsets:FnScope LO ["names"] (az lU):=mx (by decide +kernel)
theorem zq:FnScope MD MD (az vY):=mx (by decide +kernel)
theorem sc_sLpick:FnScope N0 HS (az vZ):=mx (by decide +kernel)
theorem sH:FnScope HS HS (az jL):=mx (by decide +kernel)
theorem sc_sLname:FnScope N1 ["_law_flow_here","_law_stem"] (az v0):=mx (by decide +kernel)
theorem sc_sLnames:FnScope N2 HS (az sE):=mx (by decide +kernel)
theorem v7:FnScope ME ME (az og):=mx (by decide +kernel)
theorem p7:FnScope zE zE (az kZ):=mx (by decide +kernel)
theorem pB:FnScope HU HU (az ju):=mx (by decide +kernel)
theorem sc_sLcanon:FnScope NZ ["_law_some"] (az jM):=mx (by decide +kernel)
theorem sc_sLbarenames:FnScope LP ["_law_some"] (az gC):=mx (by decide +kernel)
theorem sc_slaw:FnScope N3 MD (az LQ):=mx (by decide +kernel)
structure Md (mg:Str->Option Value):Prop where
 n_all:mg "all"=none
 n_bool:mg "bool"=none
 n_enumerate:mg "enumerate"=none
 n_int:mg "int"=none
 n_isinstance:mg "isinstance"=none
 n_len:mg "len"=none
 n_list:mg "list"=none
 n_min:mg "min"=none
 n_range:mg "range"=none
 n_reversed:mg "reversed"=none
 n_sorted:mg "sorted"=none
 n_str:mg "str"=none
 n_tuple:mg "tuple"=none
end K59
namespace VF
open PySem L2
theorem v8 {i j:Int} (h:CMul i j):pV (.int i) (.int j)=some (.int (i*j),false):=by
 have:wH (.int i) (.int j)=some (.int (i*j),false):=by
  show(if CMul i j then some (D.int (i*j),false) else none)=_;rw[Ae h]
 unfold pV jU;rw[this]
theorem FC {i j:Int} (h:0<j):oG (.int i) (.int j)=some (.int (i % j),false):=by
 show(if 0<j then some (D.int (i % j),false) else none)=_;rw[Ae h]
theorem LR {i j:Int} (h:vo i j):vG (.int i) (.int j)=some (.int (i / j),false):=by
 show(if vo i j then some (D.int (i / j),false) else none)=_;rw[Ae h]
theorem iL {ds:List D} {i:Int} {d:D} (h:jR ds i=some d):bE (.lst ds) (.int i)=some (d,false):=by
 have:yR (.lst ds) (.int i)=some (d,false):=by
  show(jR ds i).bind (fun d=>some (d,false))=_;rw[h];rfl
 unfold bE jU;rw[this]
theorem ix_tup {ds:List D} {i:Int} {d:D} (h:jR ds i=some d):bE (.tup ds) (.int i)=some (d,false):=by
 have e1:yR (.tup ds) (.int i)=none:=rfl;have:Ee (.tup ds) (.int i)=some (d,false):=by
  show(jR ds i).bind (fun d=>some (d,false))=_;rw[h];rfl
 unfold bE jU;rw[e1,this]
theorem hV {f:FT} {st s:En} {b c:Bool} (h:f st=some (b,s)) (e:b=c):f st=some (c,s):=e ▸ h
theorem jv {mm:D->D->D->Option D} {fe fi:FE} {i:Nat} {st s1 s2 s3:En} {r rk:Rs} {dv dk z z':D} {t t0:Sl} {x0:D} (h1:fe st=some (r,s1)) (h2:esc r s1=some (dv,s2)) (h0:s2[i]?=some t0) (h00:t0.ow=some x0) (h3:fi s2=some (rk,s3)) (h4:cont s3 rk=some dk) (h5:s3[i]?=some t) (h6:t.ow=some z) (h7:mm z dk dv=some z') {s4:En} (h8:s3.set i (t.put z')=s4:=by rfl):nu mm fe i fi st=some (.nx s4):=by
 simp only[nu,h1,h2,h0,h00,h3,h4,h5,h6,h7,h8,Yb]
end VF
namespace K59
open PySem L2 VF
def Fl (ns:List Int) (i m sd c:Int):D:=.lst [.lst (ns.map D.int),.int i,.int m,.int sd,.int c]
def iM (φ:D):Prop:=∃ns i m sd c,φ=Fl ns i m sd c/\0<=i/\0<=m/\0<=sd/\0<=c
theorem HV (ns:List Int):kR [.fl (ns.map D.int)]=some (Fl ns 0 0 1 0,true):=rfl
theorem eX {φ : D} {n : Int} (hφ : iM φ) (h0 : 0 < n) (h1 : n ≤ 1000) : ∃ d φ', bC φ [.int n] = some ((.int d, false), φ') ∧ 0 ≤ d ∧ d < n ∧ iM φ' := by
  obtain ⟨ns, i, m, sd, c, rfl, hi, hm, hs, hc⟩ := hφ;have sp : ∃ A B, kT = aV A B ∧
     (∃ o i' m' sd', A [.io (Fl ns i m sd c), .v (.int n), .e, .e] = some (.nx [.io (Fl ns i' m' sd' c), .v (.int n), o, .e]) ∧ 0 ≤ i' ∧ 0 ≤ m' ∧ 0 ≤ sd') ∧
     (∀ o i m sd, 0 ≤ i → 0 ≤ m → 0 ≤ sd → ∃ d φ' s3, B [.io (Fl ns i m sd c), .v (.int n), o, .e] = some (.rt (.d (.int d)) [.io φ', .v (.int n), o, s3]) ∧ 0 ≤ d ∧ d < n ∧ iM φ') := by
    refine ⟨_, _, rfl, ?_, ?_⟩
    · by_cases c1 : m = 0
      · subst c1
        by_cases c2 : i < ((ns.map D.int).length : Int)
        · obtain ⟨v, hv, hm', _⟩ := vz hi c2
          obtain ⟨z, _, rfl⟩ := List.mem_map.mp hm';have t2 : iP (aI (aH jd (aH bE (aM 0) (fC (.int 2))) (fC (.int 0)))) (aI (aH Mz (aH bE (aM 0) (fC (.int 1))) (dW fX (ag (aH bE (aM 0) (fC (.int 0))) aq)))) [.io (Fl ns i 0 sd c), .v (.int n), .e, .e] = some (true, [.io (Fl ns i 0 sd c), .v (.int n), .e, .e]) :=
            qw rfl (hV (b := decide (i < ((ns.map D.int).length : Int))) rfl (Af c2))
          by_cases c3 : (10 : Int) ^ (18 : Int).toNat ≤ z
          · have p18 : (0 : Int) ≤ 10 ^ (18 : Int).toNat := by decide
            refine ⟨.v (.int z), i + 1, z, sd, ?_, by lia, by lia, hs⟩
            refine jV t2 ?_;refine ay (eY (x := .int z) (aB rfl rfl rfl rfl (iL hv)) rfl) ?_;refine ay (s := [.io (Fl ns (i + 1) 0 sd c), .v (.int n), .v (.int z), .e]) rfl ?_;refine jV (hV (b := decide ((10 : Int) ^ (18 : Int).toNat ≤ z)) (s := [.io (Fl ns (i + 1) 0 sd c), .v (.int n), .v (.int z), .e]) rfl (Af c3)) ?_;rfl
          · refine ⟨.v (.int z), i + 1, 0, (sd * 40013 + z % 1000003 + 1) % 2147483647, ?_, by lia, by lia, Bw _ (by decide)⟩
            refine jV t2 ?_;refine ay (eY (x := .int z) (aB rfl rfl rfl rfl (iL hv)) rfl) ?_;refine ay (s := [.io (Fl ns (i + 1) 0 sd c), .v (.int n), .v (.int z), .e]) rfl ?_;refine g6 (hV (b := decide ((10 : Int) ^ (18 : Int).toNat ≤ z)) (s := [.io (Fl ns (i + 1) 0 sd c), .v (.int n), .v (.int z), .e]) rfl (Ad c3)) ?_;exact jv (aB (aB (aB (aB rfl rfl rfl rfl (v8 (j := 40013) (.inr ⟨by decide, by decide⟩))) rfl rfl rfl rfl) rfl rfl rfl rfl) rfl rfl rfl rfl) rfl rfl rfl rfl rfl rfl rfl rfl
        · refine ⟨.e, i, 0, sd, ?_, hi, hm, hs⟩
          exact g6 (qw (s := [.io (Fl ns i 0 sd c), .v (.int n), .e, .e]) rfl (hV (b := decide (i < ((ns.map D.int).length : Int))) rfl (Ad c2))) rfl
      · refine ⟨.e, i, m, sd, ?_, hi, hm, hs⟩
        have e : decide (V.int m = V.int 0) = false := Ad fun z => c1 (V.int.inj z);exact g6 (wW (hV (b := decide (V.int m = V.int 0)) (s := [.io (Fl ns i m sd c), .v (.int n), .e, .e]) rfl e)) rfl
    · intro o i m sd hi hm hs
      by_cases c1 : 0 < m
      · refine ⟨m % n, Fl ns i (m / n) sd c, .v (.int (m % n)), ?_, Bw _ (by lia), Cr _ h0, ⟨ns, i, m / n, sd, c, rfl, hi, Int.ediv_nonneg hm (by lia), hs, hc⟩⟩
        refine iz ?_;refine jV (hV (b := decide (0 < m)) (s := [.io (Fl ns i m sd c), .v (.int n), o, .e]) rfl (Af c1)) ?_;refine ay (s := [.io (Fl ns i m sd c), .v (.int n), o, .v (.int (m % n))]) (eY (aB rfl rfl rfl rfl (FC h0)) rfl) ?_;refine ay (s := [.io (Fl ns i (m / n) sd c), .v (.int n), o, .v (.int (m % n))]) (jv (aB rfl rfl rfl rfl (LR ⟨h0, by lia⟩)) rfl rfl rfl rfl rfl rfl rfl rfl) ?_
        rfl
      · refine ⟨(((sd * 48271 + 12820163 + (c + 1)) % 2147483647 % 65521 + 1) * ((sd * 48271 + 12820163 + (c + 1)) % 2147483647 / 65521 + 7919) % 1000003 / 7) % n, Fl ns i m ((sd * 48271 + 12820163 + (c + 1)) % 2147483647) (c + 1), .e, ?_, ?_, ?_, ⟨ns, i, m, _, _, rfl, hi, hm, Bw _ (by decide), by lia⟩⟩
        · refine ay (g6 (hV (b := decide (0 < m)) (s := [.io (Fl ns i m sd c), .v (.int n), o, .e]) rfl (Ad c1)) rfl) ?_
          refine ay (s := [.io (Fl ns i m sd (c + 1)), .v (.int n), o, .e]) rfl ?_;refine ay (s := [.io (Fl ns i m ((sd * 48271 + 12820163 + (c + 1)) % 2147483647) (c + 1)), .v (.int n), o, .e]) (jv (aB (aB (aB (aB rfl rfl rfl rfl (v8 (j := 48271) (.inr ⟨by decide, by decide⟩))) rfl rfl rfl rfl) rfl rfl rfl rfl) rfl rfl rfl rfl) rfl rfl rfl rfl rfl rfl rfl rfl) ?_
          have a := Bw ((sd * 48271 + 12820163 + (c + 1)) % 2147483647) (show (65521 : Int) ≠ 0 by decide)
          have b := Cr ((sd * 48271 + 12820163 + (c + 1)) % 2147483647) (show (0 : Int) < 65521 by decide)
          exact br (aB (aB (aB (aB rfl rfl rfl rfl (v8 (.inl ⟨by lia, by lia⟩))) rfl rfl rfl rfl) rfl rfl rfl rfl) rfl rfl rfl (FC h0))
        · exact Bw _ (by lia)
        · exact Cr _ h0
  obtain ⟨A, B, eF, ⟨o, i', m', sd', eA, hi', hm', hs'⟩, hB⟩ := sp;obtain ⟨d, φ', s3, eB, h2, h3, h4⟩ := hB o i' m' sd' hi' hm' hs';refine ⟨d, φ', ?_, h2, h3, h4⟩;refine fR (o := .rt (.d (.int d)) [.io φ', .v (.int n), o, s3]) rfl ?_ rfl;rw [eF];exact ay eA eB
end K59
namespace K59
open PySem L2 VF VL
theorem k0 {φ:D} {k:Int} (hφ:iM φ) (h0:0<=k) (h1:k<=100):∃x φ',dj φ [.int k]=some ((.str x,false),φ')/\(x.length:Int)=k/\Lw x/\iM φ':=by
 have hE:(Str.ofString "").length=0:=by decide +kernel
 have cl:=qy (fg:=gN 0) (fc:=cV) (k:=1) (fe:=aH bE (fC (.str "abcdefghijklmnopqrstuvwxyz")) (pU bC 1 (ag (fC (.int 26)) aq)))
  (fun pre sb=>∃φ' ys,sb=[.e,.io φ']/\iM φ'/\pre=ys.map D.str/\∀y∈ys,∃c,y=(⟨#[c]⟩:Str)/\97<=c/\c<=122) (by
   rintro pre x sb ⟨φ',ys,rfl,hf,rfl,hy⟩;obtain⟨d,φ2,e,d0,d1,hf2⟩:=eX (n:=26) hf (by decide) (by decide)
   obtain⟨c,hc,hm,_⟩:=vz (xs:=letS.cps.toList) d0 (by rw[o9,List.length_range'];exact d1)
   refine⟨[.v x,.io φ'],[.v x,.io φ'],.d (.str ⟨#[c]⟩),[.v x,.io φ2],.str ⟨#[c]⟩,[.v x,.io φ2],rfl,rfl,aB rfl (d8 rfl rfl rfl rfl rfl rfl e) rfl rfl (ix_str (by decide +kernel) hc),rfl,φ2,ys++[⟨#[c]⟩],rfl,hf2,by rw[Yd];rfl,fun y hy2=>?_⟩
   rcases Zd.mp hy2 with z|z
   ·exact hy y z
   ·have:y=⟨#[c]⟩:=by simpa using z
    rw[o9,List.mem_range'_1]at hm
    exact⟨c,this,by lia⟩)
  (rng 0 k.toNat) [] [.e,.io φ] ⟨φ,[],rfl,hφ,rfl,fun y hy=>by cases hy⟩
 obtain⟨ds,sf,e1,e2,φ',ys,rfl,hf,e3,hy⟩:=cl;rw[Bb]at e3;subst e3;rw[gq,Ya]at e2;have hy':∀y∈ys,∃c,y=(⟨#[c]⟩:Str):=fun y h=>by obtain⟨c,e,_⟩:=hy y h;exact⟨c,e⟩
 refine⟨Txt.join (Str.ofString "") ys,φ',?_,by rw[join_ones hy'];lia,Fr hy,hf⟩
 have hj:Eg (.str "") [.lst (ys.map D.str)]=some (.str (Txt.join (Str.ofString "") ys),false):=by
  show(gM (ys.map D.str)).bind (fun ys=>if (ys.map (·.length)).sum+ys.length*(Str.ofString "").length<=16777216 then some (D.str (Txt.join (Str.ofString "") ys),false) else none)=_;rw[iA];show(if _ then _ else _)=_;rw[Ae (by rw[Ft hy',hE];lia)]
 refine fR (o:=.rt (.d (.str (Txt.join (Str.ofString "") ys))) [.io φ',.v (.int k)]) rfl ?_ rfl
 exact br (EA rfl rfl rfl (aE (dA (nU rfl rfl ⟨by lia,by lia⟩) (by
  show(true&&decide ((rng 0 k.toNat).length<=1000000))=true
  rw[gq,Af (by lia)];rfl) e1) rfl) rfl rfl hj)
abbrev w1:List Str:=["to","turn","turns","ring","rings","odd","ours","row","rows","cuts","knots","cover"]
abbrev w2:List Str:=["change","joins","theirs","one","two","home","none","open","keep","tox","onex"]
abbrev wordsS:List Str:=w1++w2
def okN (x:Str):Bool:=decide (1<=x.length/\x.length<=6)&&x.cps.toList.all fun c=>decide (97<=c/\c<=122)
theorem LS {x:Str} (h:okN x=true):Nm x:=by
 unfold okN at h;rw[Yh,decide_eq_true_eq,Vm]at h;exact⟨h.1.1,h.1.2,fun c hc=>Al (h.2 c hc)⟩
theorem FD:∀v∈wordsS,okN v=true:=Vm.mp (by decide +kernel)
theorem HW {φ:D} {st:Str} (hφ:iM φ) (hst:st.length<=4) (lst:Lw st):∃x φ',kU φ [.str st]=some ((.str x,false),φ')/\Nm x/\iM φ':=by
 by_cases c0:st=""
 ·subst c0;obtain⟨d,φ1,e1,d0,d1,f1⟩:=eX (n:=7) hφ (by decide) (by decide)
  by_cases c1:d=0
  ·subst c1;obtain⟨d2,φ2,e2,d20,d21,f2⟩:=eX (n:=23) f1 (by decide) (by decide)
   obtain⟨v,hv,hm,_⟩:=vz (xs:=wordsS.map D.str) d20 (by rw[Ya];exact d21)
   obtain⟨x,hx,rfl⟩:=Yc.mp hm;refine⟨x,φ2,?_,LS (FD x hx),f2⟩;refine fR (o:=.rt (.d (.str x)) [.io φ2,.v (.str ""),.o (.lst (wordsS.map D.str))]) rfl ?_ rfl;refine ay (s:=[.io φ,.v (.str ""),.e]) rfl ?_;refine iz ?_;refine jV (s:=[.io φ1,.v (.str ""),.e]) (aX (aB (d8 rfl rfl rfl rfl rfl rfl e1) rfl rfl rfl rfl) rfl) ?_;refine ay (s:=[.io φ1,.v (.str ""),.o (.lst (w1.map D.str))]) rfl ?_;refine ay (s:=[.io φ1,.v (.str ""),.o (.lst (wordsS.map D.str))]) rfl ?_;exact br (aB rfl (d8 rfl rfl rfl rfl rfl rfl e2) rfl rfl (iL hv))
  ·obtain⟨d2,φ2,e2,d20,d21,f2⟩:=eX (n:=6) f1 (by decide) (by decide)
   obtain⟨x,φ3,e3,hx,lx,f3⟩:=k0 (k:=1+d2) f2 (by lia) (by lia)
   refine⟨x,φ3,?_,⟨by lia,by lia,lx⟩,f3⟩
   refine fR (o:=.rt (.d (.str x)) [.io φ3,.v (.str ""),.e]) rfl ?_ rfl;refine ay (s:=[.io φ,.v (.str ""),.e]) rfl ?_;have t:decide (V.int d=V.int 0)=false:=Ad fun z=>c1 (V.int.inj z);refine ay (g6 (s:=[.io φ1,.v (.str ""),.e]) (hV (b:=decide (V.int d=V.int 0)) (aX (aB (d8 rfl rfl rfl rfl rfl rfl e1) rfl rfl rfl rfl) rfl) t) rfl) ?_;exact br (d8 rfl rfl (aE (aB rfl (d8 rfl rfl rfl rfl rfl rfl e2) rfl rfl rfl) rfl) rfl rfl rfl e3)
 ·obtain⟨d,φ1,e1,d0,d1,f1⟩:=eX (n:=2) hφ (by decide) (by decide)
  obtain⟨x,φ2,e2,hx,lx,f2⟩:=k0 (k:=1+d) f1 (by lia) (by lia)
  refine⟨st++x,φ2,?_,⟨by rw[Bh];lia,by rw[Bh];lia,lst.app lx⟩,f2⟩
  refine fR (o:=.rt (.d (.str (st++x))) [.io φ2,.v (.str st),.e]) rfl ?_ rfl;refine iz ?_;have t:(!decide (V.str st=V.str ""))=true:=by rw[Ad (fun z=>c0 (V.str.inj z))];rfl
  refine jV (s:=[.io φ,.v (.str st),.e]) (hV (b:=!decide (V.str st=V.str "")) rfl t) ?_;exact br (aB rfl (d8 rfl rfl (aE (aB rfl (d8 rfl rfl rfl rfl rfl rfl e1) rfl rfl rfl) rfl) rfl rfl rfl e2) rfl rfl (wX (by lia)))
end K59
namespace VF
open PySem L2
theorem cX {i:Nat} {s t:Sl} {st s1:En} (h:st[i]?=some t) (n:t.isIo=false) (e:st.set i s=s1:=by rfl):nq i s st=some s1:=by
 unfold nq;rw[h];show(if t.isIo=true then none else some (st.set i s))=_;rw[Ai (by rw[n];decide),e]
theorem pC {xs:List D} {y:D} (h:xs.length<1000000):gw (.lst xs) [y]=some (.non,.lst (xs++[y])):=by
 show(if xs.length<1000000 then some (D.non,D.lst (xs++[y])) else none)=_;rw[Ae h]
theorem lV {α:Type} {f:α->D} {g:D->α} (hg:∀a,g (f a)=a) {ys:List D} {xs:List α} (p:ys.Perm (xs.map f)):∃zs:List α,ys=zs.map f/\zs.Perm xs:=by
 have h1:∀y∈ys,∃z,y=f z:=fun y hy=>by
  obtain⟨z,_,rfl⟩:=Yc.mp (p.mem_iff.mp hy);exact⟨z,rfl⟩
 refine⟨ys.map g,?_,?_⟩
 ·rw[Xf];refine(CH ys).symm.trans (Xj fun y hy=>?_);obtain⟨z,rfl⟩:=h1 y hy;show f z=f (g (f z));rw[hg]
 ·have:=p.map g;rw[Xf]at this;refine this.trans (C8 ?_);exact(Xj fun z _=>hg z).trans (CH xs)
end VF
namespace K59
open PySem L2 VF VL
theorem FF {φ:D} {n:Int} (hφ:iM φ) (h0:0<=n) (h1:n<=100):∃(xs:List Str) (φ':D),jn φ [.int n]=some ((.lst (xs.map D.str),true),φ')/\(xs.length:Int)=n/\(∀x∈xs,Nm x)/\xs.Nodup/\iM φ':=by
 obtain⟨d,φ1,e1,d0,d1,f1⟩:=eX (n:=3) hφ (by decide) (by decide)
 have sp:∃A B C R,jm=aV A (aV B (aV C R)) /\
   (∃st φ2,A [.io φ,.v (.int n),.e,.e,.e,.e,.e]=some (.nx [.io φ,.v (.int n),.v (.str ""),.e,.e,.e,.e])/\B [.io φ,.v (.int n),.v (.str ""),.e,.e,.e,.e]=some (.nx [.io φ2,.v (.int n),.v (.str st),.e,.e,.e,.e]) /\
    C [.io φ2,.v (.int n),.v (.str st),.e,.e,.e,.e]=some (.nx [.io φ2,.v (.int n),.v (.str st),.o (.lst []),.e,.e,.e])/\iM φ2/\st.length<=4/\Lw st) /\
   (∀st φ2,iM φ2->st.length<=4->Lw st->∃(xs:List Str) (φ':D) (o4 o5 o6:Sl),R [.io φ2,.v (.int n),.v (.str st),.o (.lst []),.e,.e,.e]=some (.rt (.s 3) [.io φ',.v (.int n),.v (.str st),.o (.lst (xs.map D.str)),o4,o5,o6])/\(xs.length:Int)=n/\(∀x∈xs,Nm x)/\xs.Nodup/\iM φ'):=by
  refine⟨_,_,_,_,rfl,?_,?_⟩
  ·by_cases c:d=0
   ·subst c;obtain⟨d2,φ2,e2,d20,d21,f2⟩:=eX (n:=4) f1 (by decide) (by decide)
    obtain⟨x,φ3,e3,hx,lx,f3⟩:=k0 (k:=1+d2) f2 (by lia) (by lia)
    refine⟨x,φ3,rfl,?_,rfl,f3,by lia,lx⟩
    refine jV (s:=[.io φ1,.v (.int n),.v (.str ""),.e,.e,.e,.e]) (aX (aB (d8 rfl rfl rfl rfl rfl rfl e1) rfl rfl rfl rfl) rfl) ?_;exact eY (d8 rfl rfl (aE (aB rfl (d8 rfl rfl rfl rfl rfl rfl e2) rfl rfl rfl) rfl) rfl rfl rfl e3) rfl
   ·refine⟨"",φ1,rfl,?_,rfl,f1,by decide +kernel,Fu⟩
    have t:decide (V.int d=V.int 0)=false:=Ad fun z=>c (V.int.inj z);exact g6 (s:=[.io φ1,.v (.int n),.v (.str ""),.e,.e,.e,.e]) (hV (b:=decide (V.int d=V.int 0)) (aX (aB (d8 rfl rfl rfl rfl rfl rfl e1) rfl rfl rfl rfl) rfl) t) rfl
  ·intro st φ2 f2 hst lst
   have lp:∀(fg:FG) (B:FS),fg=gN 4->(∀(φ':D) (xs:List Str) (k:D) (o5 o6:Sl),iM φ'->xs.length<=200->(∀x∈xs,Nm x)->xs.Nodup->xs.length<=110->o5.isIo=false->o6.isIo=false ->
     ∃φ2 x o6',B [.io φ',.v (.int n),.v (.str st),.o (.lst (xs.map D.str)),.v k,o5,o6]=some (.nx [.io φ2,.v (.int n),.v (.str st),.o (.lst ((xs++[x]).map D.str)),.v k,.v (.str x),.v o6'])/\iM φ2/\Nm x/\x∉xs) ->
     ∃(xs:List Str) (φ':D) (o4 o5 o6:Sl),aV (nt (vD (ag (aM 1) aq)) fg B) (b7 (aM 3)) [.io φ2,.v (.int n),.v (.str st),.o (.lst []),.e,.e,.e]=some (.rt (.s 3) [.io φ',.v (.int n),.v (.str st),.o (.lst (xs.map D.str)),o4,o5,o6])/\(xs.length:Int)=n/\(∀x∈xs,Nm x)/\xs.Nodup/\iM φ':=by
    intro fg B hfg hB;subst hfg;obtain⟨sf,e,φ',xs,o4,o5,o6,rfl,hf,hl,hx,nd,_⟩:=uo (fg:=gN 4) (B:=B) (rng 0 n.toNat) (fun gone s=>∃(φ':D) (xs:List Str) (o4 o5 o6:Sl),s=[.io φ',.v (.int n),.v (.str st),.o (.lst (xs.map D.str)),o4,o5,o6]/\iM φ'/\xs.length=gone.length/\(∀x∈xs,Nm x)/\xs.Nodup/\o4.isIo=false/\o5.isIo=false/\o6.isIo=false)
     (fun gone x rest s ha zz8=>by
      obtain⟨φ',xs,o4,o5,o6,hs,hf,hl,hx,nd,q4,q5,q6⟩:=zz8;subst hs;have hg:=congrArg List.length ha;rw[gq,Qb,Vd]at hg;obtain⟨φ3,y,o6',eB,f3,ny,hy⟩:=hB φ' xs x o5 o6 hf (by lia) hx nd (by lia) q5 q6
      refine⟨_,_,cX rfl q4,eB,φ3,xs++[y],.v x,.v (.str y),.v o6',rfl,f3,by simp[hl],fun z hz=>?_,?_,rfl,rfl,rfl⟩
      ·rcases Zd.mp hz with w|w
       ·exact hx z w
       ·have:z=y:=by simpa using w
        rw[this];exact ny
      ·rw[Zi]
       exact⟨nd,by simp,fun a ha b hb e=>by
        have:b=y:=by simpa using hb
        subst this;subst e;exact hy ha⟩) (rng 0 n.toNat) [] [.io φ2,.v (.int n),.v (.str st),.o (.lst []),.e,.e,.e] rfl ⟨φ2,[],.e,.e,.e,rfl,f2,rfl,fun x hx=>(by cases hx),B8,rfl,rfl,rfl⟩
    rw[gq]at hl;exact⟨xs,φ',o4,o5,o6,ay (je (nU rfl rfl ⟨by lia,by lia⟩) e) rfl,by lia,hx,nd,hf⟩
   refine lp _ _ rfl ?_;intro φ' xs k o5 o6 hf _ hx nd hl q5 q6;obtain⟨x,φ3,e3,nx,f3⟩:=HW hf hst lst;obtain⟨sf,ew,s',y,rfl,ny,hy⟩:=vN (f:=aI (aH Nn (aM 5) (aM 3))) (B:=aV (bN (aH pV (aH bE (fC (.str "abcdefghijklmnopqrstuvwxyz")) (aH oG (aM 6) (fC (.int 26)))) (aH di (fC (.int 1)) (aH vG (aM 6) (fC (.int 26))))) 5) (bN (aH di (aM 6) (fC (.int 1))) 6))
    (fun m s=>∃(j:Nat) (x:Str),s=[.io φ3,.v (.int n),.v (.str st),.o (.lst (xs.map D.str)),.v k,.v (.str x),.v (.int j)]/\Nm x/\m+j=xs.length+2/\j<=xs.length+1/\(∀i,i+1<j->word i∈xs)/\(j=0∨x=word (j-1)))
    (fun s=>∃(j:Nat) (x:Str),s=[.io φ3,.v (.int n),.v (.str st),.o (.lst (xs.map D.str)),.v k,.v (.str x),.v (.int j)]/\Nm x/\x∉xs)
    (by
     rintro m s ⟨j,x,rfl,nx,hm,hj,hw,hxj⟩;by_cases c:x∈xs
     ·right;have hall:∀i,i<j->word i∈xs:=fun i hi=>by
       rcases hxj with z|z
       ·lia
       ·by_cases e:i+1<j
        ·exact hw i e
        ·have:i=j-1:=by lia
         rw[this,← z];exact c
      have hle:=zm hall;obtain⟨m',rfl⟩:∃m',m=m'+1:=⟨m-1,by lia⟩
      have d0:(0:Int)<=1+(j:Int) / 26:=Int.add_nonneg (by decide) (Int.ediv_nonneg (Cq j) (by decide))
      have d1:1+(j:Int) / 26<=1000:=Int.le_trans (Int.add_le_add_left (Int.ediv_le_self 26 (Cq j)) 1) (by lia)
      refine⟨_,[.io φ3,.v (.int n),.v (.str st),.o (.lst (xs.map D.str)),.v k,.v (.str (word j)),.v (.int ((j+1:Nat):Int))],m',hV (aX (aB rfl rfl rfl rfl I8) rfl) (Af c),?_,Ql _,j+1,word j,rfl,HP (by lia),by lia,Nat.succ_le_succ hle,fun i hi=>hall i (by lia),.inr rfl⟩
      refine ay (s:=[.io φ3,.v (.int n),.v (.str st),.o (.lst (xs.map D.str)),.v k,.v (.str (word j)),.v (.int j)]) (eY (aB (aB rfl rfl rfl rfl (ix_str (by decide +kernel) (LK j))) (aB rfl rfl rfl rfl rfl) rfl rfl (Hr ⟨d0,d1,(by show 1<=1000;decide)⟩)) rfl) ?_
      rfl
     ·left
      exact⟨_,hV (aX (aB rfl rfl rfl rfl I8) rfl) (Ad c),j,x,rfl,nx,c⟩)
    200 (xs.length+2) [.io φ3,.v (.int n),.v (.str st),.o (.lst (xs.map D.str)),.v k,.v (.str x),.v (.int 0)] (by lia) ⟨0,x,rfl,nx,rfl,Yg _,fun i hi=>absurd hi (by lia),.inl rfl⟩
   refine⟨φ3,y,.int s',?_,f3,ny,hy⟩;refine ay (eY (d8 rfl rfl rfl rfl rfl rfl e3) (cX rfl q5)) ?_;refine ay (eY (x:=.int 0) rfl (cX rfl q6)) ?_;refine ay ew ?_;refine fF (ul rfl rfl rfl rfl rfl rfl rfl (pC (by rw[Ya];lia)) ?_)
   rw[Yd];rfl
 obtain⟨A,B,C,R,eF,⟨st,φ2,eA,eB,eC,f2,hst,lst⟩,hR⟩:=sp;obtain⟨xs,φ',o4,o5,o6,eR,hl,hx,nd,hf⟩:=hR st φ2 f2 hst lst;refine⟨xs,φ',?_,hl,hx,nd,hf⟩;refine fR (o:=.rt (.s 3) [.io φ',.v (.int n),.v (.str st),.o (.lst (xs.map D.str)),o4,o5,o6]) rfl ?_ rfl;rw[eF];exact ay eA (ay eB (ay eC eR))
end K59
namespace VF
open PySem L2
theorem sI {xs ys:List Str} (p:xs.Perm ys):cP xs=cP ys:=vM ((dF xs).trans p) (iy xs)
end VF
namespace K59
open PySem L2 VF VL
abbrev bm (p:Bool×Str):D:=.str (bd p)
abbrev aG:=Bool×List (Bool×Str)
def kd (r:Bool):Str:=if r then "ring" else "open"
def cY (s:aG):D:=.tup [.str (kd s.1),.tup (s.2.map bm)]
theorem uP {p:Bool×Str} (h:Nm p.2):(bd p).length<=1000000:=by have:=(su h).2;lia
theorem oh:∀(ss:List aG),(∀s∈ss,s.2≠[])->ss.length<=(ss.flatMap (·.2)).length
 | [],_=>Xa _
 | s::r,h=>by
  have ih:=oh r fun x hx=>h x (Va _ hx);have hs:1<=s.2.length:=by
   cases e:s.2 with
   | nil=>exact absurd e (h s Qa)
   | cons _ _=>simp
  rw[Qg,Qb,Vd];lia
end K59
namespace VF
open PySem L2
theorem HX {n:Nat} {x:D} (h:x∈rng 0 n):∃i:Nat,i<n/\x=.int i:=by
 obtain⟨i,hi⟩:=Ym h;obtain⟨h1,h2⟩:=D0 hi;exact⟨i,h1,by rw[h2,Int.zero_add]⟩
theorem HY {α:Type} (xs:List α) (d:D):xs.map (fun _=>d)=List.replicate xs.length d:=by
 induction xs with
 | nil=>rfl
 | cons x r ih=>rw[Ve,ih];rfl
end VF
namespace K59
open PySem L2 VF VL
theorem zr {n:Nat} {u:D} (h:Dp (n+1) u):bL (mY (eI n)) 2 2 [u,u]=some (.bl true,false):=by
 have seqs:∀(ds:List D),ds.length<=1000000->(∀d∈ds,Dp n d)->∀(u:D),(∀i d,jR ds i=some d->bE u (.int i)=some (d,false)) ->
   cN (gN 0) cV (bq (eI n) (ag (aH bE (aM 1) (aM 0)) (ag (aH bE (aM 2) (aM 0)) aq))) 1 (rng 0 ((ds.length:Int)).toNat) [.e,.v u,.v u]=some (List.replicate ds.length (D.bl true),[.e,.v u,.v u]):=fun ds hl hd u hu=>by
  have e:=qx (fg:=gN 0) (fc:=cV) (k:=1) (fe:=bq (eI n) (ag (aH bE (aM 1) (aM 0)) (ag (aH bE (aM 2) (aM 0)) aq))) (fun _=>D.bl true) (rng 0 ((ds.length:Int)).toNat) [.e,.v u,.v u] (fun x hx=>by
   obtain⟨i,hi,rfl⟩:=HX hx;have hi':i<ds.length:=by lia
   have ha:jR ds (i:Int)=some ds[i]:=jz (Za hi');refine⟨[.v (.int i),.v u,.v u],[.v (.int i),.v u,.v u],.d (.bl true),[.v (.int i),.v u,.v u],[.v (.int i),.v u,.v u],rfl,rfl,?_,rfl,rfl⟩
   exact bQ (aE (aB rfl rfl rfl rfl (hu _ _ ha)) (aE (aB rfl rfl rfl rfl (hu _ _ ha)) rfl)) rfl (oM (hd _ (AF hi'))) rfl)
  rw[e,HY,gq];have:((ds.length:Int)).toNat=ds.length:=by lia
  rw[this]
 cases h with
 | bl _ b=>cases b<;>rfl
 | int _ i =>
  refine bw (o:=.rt (.d (.bl true)) [.v (.int i),.v (.int i)]) rfl ?_ rfl;refine ay (s:=[.v (.int i),.v (.int i)]) rfl (ay (s:=[.v (.int i),.v (.int i)]) rfl (iz (jV (s:=[.v (.int i),.v (.int i)]) rfl ?_)));refine br (rR (s:=[.v (.int i),.v (.int i)]) rfl rfl (aB rfl rfl rfl rfl (z:=(.bl (decide (V.int i=V.int i)),false)) rfl ?_));rw[Af rfl];rfl
 | non _=>rfl
 | str _ x =>
  refine bw (o:=.rt (.d (.bl true)) [.v (.str x),.v (.str x)]) rfl ?_ rfl;refine ay (s:=[.v (.str x),.v (.str x)]) rfl (ay (s:=[.v (.str x),.v (.str x)]) rfl (ay (s:=[.v (.str x),.v (.str x)]) rfl (iz (jV (s:=[.v (.str x),.v (.str x)]) rfl ?_))));refine br (rR (s:=[.v (.str x),.v (.str x)]) rfl rfl (aB rfl rfl rfl rfl (z:=(.bl (decide (V.str x=V.str x)),false)) rfl ?_));rw[Af rfl];rfl
 | @tup _ ds hl hd =>
  refine bw (o:=.rt (.d (.bl true)) [.v (.tup ds),.v (.tup ds)]) rfl ?_ rfl;refine ay (s:=[.v (.tup ds),.v (.tup ds)]) rfl (ay (s:=[.v (.tup ds),.v (.tup ds)]) rfl (ay (s:=[.v (.tup ds),.v (.tup ds)]) rfl (ay (s:=[.v (.tup ds),.v (.tup ds)]) rfl (ay (s:=[.v (.tup ds),.v (.tup ds)]) rfl ?_))));refine br (rR (s:=[.v (.tup ds),.v (.tup ds)]) (r:=.d (.bl (decide (V.int ds.length=V.int ds.length)))) rfl (by rw[Af rfl];rfl) ?_)
  refine bW (aE (dA (nU (j:=(ds.length:Int)) rfl rfl ⟨by lia,by lia⟩) (by
   show(true&&decide ((rng 0 ((ds.length:Int)).toNat).length<=1000000))=true
   rw[gq,Af (by lia)];rfl) (seqs ds hl hd (.tup ds) fun i d h=>VF.ix_tup h)) rfl) rfl (um _)
 | @lst _ ds hl hd =>
  refine bw (o:=.rt (.d (.bl true)) [.v (.lst ds),.v (.lst ds)]) rfl ?_ rfl;refine ay (s:=[.v (.lst ds),.v (.lst ds)]) rfl (ay (s:=[.v (.lst ds),.v (.lst ds)]) rfl (ay (s:=[.v (.lst ds),.v (.lst ds)]) rfl (ay (s:=[.v (.lst ds),.v (.lst ds)]) rfl (ay (s:=[.v (.lst ds),.v (.lst ds)]) rfl ?_))));refine br (rR (s:=[.v (.lst ds),.v (.lst ds)]) (r:=.d (.bl (decide (V.int ds.length=V.int ds.length)))) rfl (by rw[Af rfl];rfl) ?_)
  refine bW (aE (dA (nU (j:=(ds.length:Int)) rfl rfl ⟨by lia,by lia⟩) (by
   show(true&&decide ((rng 0 ((ds.length:Int)).toNat).length<=1000000))=true
   rw[gq,Af (by lia)];rfl) (seqs ds hl hd (.lst ds) fun i d h=>iL h)) rfl) rfl (um _)
end K59
namespace VF
open PySem L2
theorem FJ {n:Nat} {d:D}:∀(es:List D),CA n (d::es)->GA n es->∃fs:List D,fs.Perm (d::es)/\GA n fs
 | [],_,_=>⟨[d],List.Perm.refl _,Xm _ _⟩
 | e::es,h,s=>by
  obtain⟨s1,s2⟩:=Xg.mp s;cases c:ltN n e d with
  | true =>
   have up:∀x∈d::es,x∈d::e::es:=fun x hx=>by
    rcases Xd.mp hx with m|m
    ·rw[m];exact Qa
    ·exact Va _ (Va _ m)
   obtain⟨fs,p,q⟩:=FJ (n:=n) (d:=d) es (fun a ha b hb=>h a (up a ha) b (up b hb)) s2;refine⟨e::fs,(p.cons e).trans (List.Perm.swap d e es),Xg.mpr ⟨fun f hf=>?_,q⟩⟩;rcases Xd.mp (p.mem_iff.mp hf) with m|m
   ·rw[m];exact se n e d c
   ·exact s1 f m
  | false =>
   refine⟨d::e::es,List.Perm.refl _,Xg.mpr ⟨fun b hb=>?_,s⟩⟩;rcases Xd.mp hb with m|m
   ·rw[m];exact c
   ·cases k:ltN n b d with
    | false=>rfl
    | true =>
     rcases h.neg (a:=b) (b:=e) (c:=d) (by simp[m]) (by simp) (by simp) k with z|z
     ·rw[s1 b m]at z;cases z
     ·rw[c]at z;cases z
theorem v9 {n:Nat}:∀(ds:List D),CA n ds->∃es:List D,es.Perm ds/\GA n es
 | [],_=>⟨[],List.Perm.refl _,List.Pairwise.nil⟩
 | d::ds,h=>by
  obtain⟨es,p,q⟩:=v9 ds fun a ha b hb=>h a (Va _ ha) b (Va _ hb);have pd:(d::es).Perm (d::ds):=p.cons d;obtain⟨fs,p2,q2⟩:=FJ (n:=n) (d:=d) es (fun a ha b hb=>h a (pd.mem_iff.mp ha) b (pd.mem_iff.mp hb)) q;exact⟨fs,p2.trans pd,q2⟩
theorem m5 {n:Nat} {ds es:List D} (h:CA n ds) (p:ds.Perm es):dQ n ds=dQ n es:=by
 obtain⟨fs,p1,q⟩:=v9 ds h;rw[← eJ h p1 q];exact eJ (fun a ha b hb=>h a (p.mem_iff.mpr ha) b (p.mem_iff.mpr hb)) (p1.trans p) q
end VF
namespace K59
open PySem L2 VF VL
abbrev End:=Str×Int
def eD (e:End):D:=.tup [.str e.1,.int e.2]
abbrev gm:=List End
def jD (j:gm):D:=.tup (j.map eD)
theorem FK (n:Nat) (e:End):Pl (n+2) (eD e):=.tup fun d hd=>by
 rcases Xd.mp hd with rfl|hd
 ·exact .str _ _
 ·obtain rfl:=Vb.mp hd;exact .int _ _
def Jq:D->End
 | .tup [.str n,.int i]=>(n,i)
 | _=>(Str.empty,0)
def OE:D->gm
 | .tup es=>es.map Jq
 | _=>[]
theorem FL (e:End):Jq (eD e)=e:=rfl
theorem FM (j:gm):OE (jD j)=j:=by
 show(j.map eD).map Jq=j;rw[Xf];exact CH j
theorem Jr (n:Nat) (a b:End):Cp (n+2) (eD a) (eD b):=by
 intro i x y e1 e2
 match i,e1,e2 with
 | 0,e1,e2 =>
  have q1:D.str a.1=x:=by simpa using e1
  have q2:D.str b.1=y:=by simpa using e2
  subst q1 q2;trivial
 | 1,e1,e2 =>
  have q1:D.int a.2=x:=by simpa using e1
  have q2:D.int b.2=y:=by simpa using e2
  subst q1 q2;trivial
 | i+2,e1,_=>simp at e1
theorem N4 (n:Nat) (a b:gm):Cp (n+3) (jD a) (jD b):=by
 intro i x y e1 e2;rw[Qc]at e1 e2;obtain⟨c,_,rfl⟩:=Vc.mp e1;obtain⟨d,_,rfl⟩:=Vc.mp e2;exact Jr n c d
noncomputable section
def cz (xs:List End):List End:=(dQ 40 (xs.map eD)).map Jq
def p8 (xs:List gm):List gm:=(dQ 40 (xs.map jD)).map OE
theorem LT (xs:List End):CA 40 (xs.map eD):=fun a ha b hb=>by
 obtain⟨e,_,rfl⟩:=Yc.mp ha;obtain⟨e',_,rfl⟩:=Yc.mp hb;exact Jr 38 e e'
theorem O0 (xs:List gm):CA 40 (xs.map jD):=fun a ha b hb=>by
 obtain⟨e,_,rfl⟩:=Yc.mp ha;obtain⟨e',_,rfl⟩:=Yc.mp hb;exact N4 37 e e'
theorem bK (xs:List End):dQ 40 (xs.map eD)=(cz xs).map eD/\(cz xs).Perm xs:=by
 obtain⟨ys,e,p⟩:=lV (f:=eD) (g:=Jq) FL (kM 40 (xs.map eD));have h:cz xs=ys:=by
  unfold cz;rw[e,Xf];exact CH ys
 rw[h];exact⟨e,p⟩
theorem qL (xs:List gm):dQ 40 (xs.map jD)=(p8 xs).map jD/\(p8 xs).Perm xs:=by
 obtain⟨ys,e,p⟩:=lV (f:=jD) (g:=OE) FM (kM 40 (xs.map jD));have h:p8 xs=ys:=by
  unfold p8;rw[e,Xf,show(OE ∘ jD)=id from funext FM,C2]
 rw[h];exact⟨e,p⟩
theorem iN {xs ys:List End} (p:xs.Perm ys):cz xs=cz ys:=by
 unfold cz;rw[m5 (LT xs) (p.map eD)]
theorem lc {xs ys:List gm} (p:xs.Perm ys):p8 xs=p8 ys:=by
 unfold p8;rw[m5 (O0 xs) (p.map jD)]
theorem zt {d:D} (xs:List End) (h0:d.seq=some (xs.map eD)):eK [d]=some (.lst ((cz xs).map eD),true):=by
 rw[← (bK xs).1];unfold eK;dsimp only;rw[h0];dsimp only;refine Ae ⟨fun x hx=>?_,LT xs,⟨_,.tp (T:="str") fun d hd=>?_⟩⟩
 ·obtain⟨e,_,rfl⟩:=Yc.mp hx;exact FK 38 e
 ·obtain⟨e,_,rfl⟩:=Yc.mp hd;exact⟨_,_,rfl,fun z=>(by cases z),rfl⟩
end
end K59
namespace K59
open PySem L2 VF VL
theorem hW {t:Bool} {n:Str} (h:Nm n):cq [bm (t,n)]=some (.bl t,false):=by
 have e:cq [bm (t,n)]=some (.bl (Txt.startswith (bd (t,n)) minus),false):=rfl;rw[e,mK h]
theorem fS {t:Bool} {n:Str} (h:Nm n):bU [bm (t,n)]=some (.str n,false):=by
 refine bw (o:=.rt (.d (.str n)) [.v (bm (t,n))]) rfl ?_ rfl;cases t with
 | true =>
  refine br (oN (s:=[.v (bm (true,n))]) (aX (bQ rfl rfl (hW h) rfl) rfl) (mU rfl rfl rfl rfl (K8 (uP h)) ?_));show Rs.d (D.str (Txt.slice (minus++n) (some 1) none))=_;rw[vV]
 | false=>exact br (qB (s:=[.v (bm (false,n))]) (aX (bQ rfl rfl (hW h) rfl) rfl) rfl)
theorem FN {t:Bool} {n:Str} (h:Nm n):eM [bm (t,n)]=some (bm (!t,n),false):=by
 have e1:minus.length=1:=by decide +kernel
 refine bw (o:=.rt (.d (bm (!t,n))) [.v (bm (t,n))]) rfl ?_ rfl;cases t with
 | true=>exact br (oN (s:=[.v (bm (true,n))]) (aX (bQ rfl rfl (hW h) rfl) rfl) (bQ rfl rfl (fS h) rfl))
 | false=>exact br (qB (s:=[.v (bm (false,n))]) (aX (bQ rfl rfl (hW h) rfl) rfl) (aB rfl rfl rfl rfl (wX (by
   have:=(su (p:=(false,n)) h).2;show minus.length+(bd (false,n)).length<=_
   lia))))
def cZ (p:Bool×Str):End:=(p.2,if p.1 then 1 else 0)
def dS (p:Bool×Str):End:=(p.2,if p.1 then 0 else 1)
end K59
namespace K59
open PySem L2 VF VL VF22
noncomputable section
def p9 (ps:List (Bool×Str)):List gm:=(ps.zip (ps.drop 1)).map fun q=>cz [dS q.1,cZ q.2]
end
end K59
namespace VF
open PySem L2
theorem sJ {fa:FA} {st s1 s2:En} {rs:List Rs} {ds:List D} (h1:fa st=some (rs,s1)) (h2:fu rs s1=some (ds,s2)) (h3:ds.length<=1000000):jS fa st=some (.f (.lst ds),s2):=by
 simp only[jS,h1,h2,Yb];rw[Ae h3]
theorem xO {fa:FE} {st s:En} {r:Rs} {b:D->Option Rz} {d:D} {z:Rz} {r':Rs} (h1:fa st=some (r,s)) (h2:cont s r=some d) (h3:b d=some z) (hz:mk z=r':=by rfl):Gy b fa st=some (r',s):=by
 simp only[Gy,h1,h2,h3,hz,Yb]
theorem xP {a b:List D} (h:a.length+b.length<=1000000):di (.lst a) (.lst b)=some (.lst (a++b),true):=by
 have e1:tX (.lst a) (.lst b)=none:=rfl;have e2:t4 (.lst a) (.lst b)=none:=rfl;have e3:Ec (.lst a) (.lst b)=some (.lst (a++b),true):=by simp only[Ec];rw[Ae h]
 unfold di jU;rw[e1,e2,e3]
end VF
namespace K59
open PySem L2 VF VL VF22
theorem sK {l:List D} {n:Nat} (hl:l.length<=n) (hn:n<=1000000:=by decide) {b:Bool} (hb:b=true):(b&&decide (l.length<=1000000))=true:=by rw[hb,Af (by lia)];rfl
theorem ld {α:Type} {f:α->D} {xs:List α} {i:Nat} {x:α} (h:xs[i]?=some x):jR (xs.map f) (i:Int)=some (f x):=jz (xs:=xs.map f) (j:=i) (by rw[Qc,h];rfl)
theorem oi {α:Type} {f:α->D} {xs:List α} {x:α} (h:xs[xs.length-1]?=some x):jR (xs.map f) (-1)=some (f x):=by
 have hl:=(Wb.mp h).1;unfold jR GO;rw[Ai (by lia),Ae (by rw[Ya];lia)]
 show(xs.map f)[(-1+((xs.map f).length:Int)).toNat]?=_;rw[Ya,show(-1+(xs.length:Int)).toNat=xs.length - 1 by lia,Qc,h];rfl
noncomputable section
abbrev z0:Bool×Str:=(false,Str.empty)
def HZ (s:aG):List gm:=if s.1 then [cz [cZ (s.2.headD z0),dS (s.2.getLastD z0)]] else [[cZ (s.2.headD z0)],[dS (s.2.getLastD z0)]]
def sj (s:aG):List gm:=p9 s.2++HZ s
theorem gE {ps:List (Bool×Str)} (h:ps≠[]):ps[0]?=some (ps.headD z0):=by
 cases ps with
 | nil=>exact absurd rfl h
 | cons p r=>rfl
theorem jN {ps:List (Bool×Str)} (h:ps≠[]):ps[ps.length-1]?=some (ps.getLastD z0):=by
 rw[← List.getLast?_eq_getElem?,Dk];cases ps with
 | nil=>exact absurd rfl h
 | cons p r=>rw[List.getLast?_cons];rfl
theorem O6 (a b:End):(cz [a,b]).length=2:=(bK [a,b]).2.length_eq
theorem N5 {s:aG} {j:gm} (h:j∈sj s):j≠[]:=by
 have two:∀a b:End,cz [a,b]≠[]:=fun a b z=>by have:=O6 a b;rw[z]at this;cases this
 unfold sj at h;rcases Zd.mp h with h|h
 ·unfold p9 at h;obtain⟨q,_,rfl⟩:=Yc.mp h;exact two _ _
 ·unfold HZ at h;split at h
  ·obtain rfl:=Vb.mp h;exact two _ _
  ·simp at h;rcases h with rfl|rfl<;>simp
def jo (ss:List aG):List gm:=p8 (ss.flatMap sj)
end
end K59
namespace K59
open PySem L2 VF VL VF22
noncomputable section
def Jn (p q:Bool×Str):gm:=cz [dS p,cZ q]
abbrev Bd:=Bool×Str
theorem xQ (p q:Bd) (r:List Bd):p9 (p::q::r)=Jn p q::p9 (q::r):=rfl
theorem lW:∀(xs:List Bd) (y:Bd) (ys:List Bd),xs≠[]->p9 (xs++y::ys)=p9 xs++Jn (xs.getLastD z0) y::p9 (y::ys)
 | [],_,_,h=>absurd rfl h
 | [x],y,ys,_=>rfl
 | x::x'::r,y,ys,_=>by
  have ih:=lW (x'::r) y ys (by simp)
  show Jn x x'::p9 (x'::r++y::ys)=Jn x x'::(p9 (x'::r)++_);rw[ih];rfl
def FP (p:Bd):Bd:=(!p.1,p.2)
theorem FQ (p:Bd):cZ (FP p)=dS p:=by obtain⟨t,n⟩:=p;cases t<;>rfl
theorem FU (p:Bd):dS (FP p)=cZ p:=by obtain⟨t,n⟩:=p;cases t<;>rfl
theorem LU (p q:Bd):Jn (FP q) (FP p)=Jn p q:=by
 unfold Jn;rw[FU,FQ];exact iN (List.Perm.swap _ _ [])
def cb (ps:List Bd):List Bd:=ps.reverse.map FP
theorem lX (p:Bd) (r:List Bd):cb (p::r)=cb r++[FP p]:=by unfold cb;rw[AU,Yd];rfl
theorem jw {α:Type} (xs:List α) (x z:α):(xs++[x]).getLastD z=x:=by rw[Dk];simp
theorem uQ {p:Bd} {r:List Bd}:(cb (p::r)).getLastD z0=FP p:=by rw[lX,jw]
theorem LV {p:Bd} {r:List Bd}:cb (p::r)≠[]:=by rw[lX];simp
theorem xR:∀ps:List Bd,p9 (cb ps)=(p9 ps).reverse
 | []=>rfl
 | [p]=>rfl
 | p::q::r=>by
  have ih:=xR (q::r);rw[lX,lW _ _ _ LV,ih,uQ,LU,xQ,AU];rfl
theorem uR (ps:List Bd) (h:ps≠[]):(cb ps).headD z0=FP (ps.getLastD z0):=by
 obtain⟨r,p,rfl⟩:∃r p,ps=r++[p]:=⟨ps.dropLast,ps.getLast h,(C7 h).symm⟩;rw[jw];unfold cb;rw[Bx];rfl
theorem qM (ps:List Bd) (h:ps≠[]):(cb ps).getLastD z0=FP (ps.headD z0):=by
 cases ps with
 | nil=>exact absurd rfl h
 | cons p r=>exact uQ
theorem FV {b:Bool} {ps:List Bd} (h:ps≠[]):(sj (b,cb ps)).Perm (sj (b,ps)):=by
 unfold sj HZ;dsimp only;rw[xR,uR ps h,qM ps h,FQ,FU];refine List.Perm.append (List.reverse_perm _) ?_;cases b with
 | true =>
  show [cz [dS (ps.getLastD z0),cZ (ps.headD z0)]].Perm [cz [cZ (ps.headD z0),dS (ps.getLastD z0)]];rw[iN (List.Perm.swap _ _ [])]
 | false=>exact List.Perm.swap _ _ []
theorem xS (ps:List Bd):HZ (true,ps)=[Jn (ps.getLastD z0) (ps.headD z0)]:=by
 show [cz [cZ (ps.headD z0),dS (ps.getLastD z0)]]=[cz [dS (ps.getLastD z0),cZ (ps.headD z0)]];rw[iN (List.Perm.swap _ _ [])]
theorem qN {xs ys:List Bd} (h:ys≠[]):(xs++ys).getLastD z0=ys.getLastD z0:=by
 obtain⟨r,p,rfl⟩:∃r p,ys=r++[p]:=⟨ys.dropLast,ys.getLast h,(C7 h).symm⟩;rw[← Xe,jw,jw]
theorem LW {xs ys:List Bd}:(sj (true,ys++xs)).Perm (sj (true,xs++ys)):=by
 cases xs with
 | nil=>rw[Qe,Bb]
 | cons x xr =>
  cases ys with
  | nil=>rw[Qe,Bb]
  | cons y yr =>
   unfold sj;rw[xS,xS,qN (by simp),qN (by simp)]
   dsimp only;rw[lW (y::yr) x xr (by simp),lW (x::xr) y yr (by simp)]
   show(p9 (y::yr)++Jn ((y::yr).getLastD z0) x::p9 (x::xr)++[Jn ((x::xr).getLastD z0) y]).Perm (p9 (x::xr)++Jn ((x::xr).getLastD z0) y::p9 (y::yr)++[Jn ((y::yr).getLastD z0) x]);generalize p9 (y::yr)=A;generalize p9 (x::xr)=B;generalize Jn ((y::yr).getLastD z0) x=u;generalize Jn ((x::xr).getLastD z0) y=v;rw[show A++u::B++[v]=(A++[u])++(B++[v]) by simp,show B++v::A++[u]=(B++[v])++(A++[u]) by simp]
   exact DH
def hZ (ps:List Bd):List End:=ps.map cZ++ps.map dS
theorem uS:∀(p:Bd) (r:List Bd),((p9 (p::r)).flatten++[cZ p]++[dS ((p::r).getLastD z0)]).Perm (hZ (p::r))
 | p,[]=>List.Perm.refl _
 | p,q::r=>by
  have ih:=uS q r;have e:((p::q::r).getLastD z0)=(q::r).getLastD z0:=rfl;rw[xQ,e,AV];generalize (p9 (q::r)).flatten=A at ih ⊢;generalize (q::r).getLastD z0=l at ih ⊢;have h1:(Jn p q).Perm [dS p,cZ q]:=(bK _).2;have h2:(hZ (p::q::r)).Perm (dS p::cZ p::hZ (q::r)):=by
   show(cZ p::((q::r).map cZ++dS p::(q::r).map dS)).Perm _;exact((Qk).cons _).trans (List.Perm.swap _ _ _)
  refine List.Perm.trans ?_ h2.symm;have h3:(Jn p q++A++[cZ p]++[dS l]).Perm (dS p::cZ p::(A++[cZ q]++[dS l])):=by
   refine((((h1.append_right A).append_right [cZ p]).append_right [dS l])).trans ?_;show(dS p::cZ q::(A++[cZ p]++[dS l])).Perm _;refine List.Perm.cons _ ?_;have e1:cZ q::(A++[cZ p]++[dS l])=(cZ q::A)++cZ p::[dS l]:=by simp
   have e2:cZ p::(A++[cZ q]++[dS l])=cZ p::(A++cZ q::[dS l]):=by simp
   rw[e1,e2];exact(Qk).trans ((Qk.symm).cons _)
  exact h3.trans ((ih.cons _).cons _)
theorem H9 {s:aG} (h:s.2≠[]):((sj s).flatten).Perm (hZ s.2):=by
 obtain⟨b,ps⟩:=s;cases ps with
 | nil=>exact absurd rfl h
 | cons p r =>
  refine List.Perm.trans ?_ (uS p r);unfold sj;rw[A9,Xe];refine B3 _ ?_;cases b with
  | true =>
   show([cz [cZ p,dS ((p::r).getLastD z0)]].flatten).Perm ([cZ p]++[dS ((p::r).getLastD z0)]);rw[List.flatten_singleton];exact(bK _).2
  | false=>exact List.Perm.refl _
def zero (x:Str):End:=(x,0)
def one (x:Str):End:=(x,1)
theorem lf:∀ps:List Bd,(hZ ps).Perm ((ps.map (·.2)).map zero++(ps.map (·.2)).map one)
 | []=>List.Perm.refl _
 | p::r=>by
  have ih:=lf r;have h1:(hZ (p::r)).Perm (cZ p::dS p::hZ r):=(Qk).cons _;refine h1.trans ?_;have h2:((((p::r).map (·.2)).map zero++((p::r).map (·.2)).map one)).Perm (zero p.2::one p.2::((r.map (·.2)).map zero++(r.map (·.2)).map one)):=(Qk).cons _;refine List.Perm.trans ?_ h2.symm;obtain⟨t,n⟩:=p;cases t with
  | true=>exact(List.Perm.swap _ _ _).trans ((ih.cons _).cons _)
  | false=>exact(ih.cons _).cons _
theorem FW (a b:List Bd):(hZ (a++b)).Perm (hZ a++hZ b):=by
 unfold hZ;rw[Yd,Yd];have e1:a.map cZ++b.map cZ++(a.map dS++b.map dS)=a.map cZ++(b.map cZ++a.map dS)++b.map dS:=by simp
 have e2:a.map cZ++a.map dS++(b.map cZ++b.map dS)=a.map cZ++(a.map dS++b.map cZ)++b.map dS:=by simp
 rw[e1,e2];exact(B3 _ DH).append_right _
theorem mN:∀{ss:List aG},(∀s∈ss,s.2≠[])->((ss.flatMap sj).flatten).Perm (hZ (ss.flatMap (·.2)))
 | [],_=>List.Perm.refl _
 | s::r,h=>by
  have ih:=mN fun x hx=>h x (Va _ hx);rw[Qg,Qg,A9];exact((H9 (h s Qa)).append ih).trans (FW _ _).symm
end
end K59
namespace K59
open PySem L2 VF VL
noncomputable section
theorem Jt {ps:List Bd} (hn:∀p∈ps,Nm p.2) (hl:ps.length<=100):cQ [.tup (ps.map bm)]=some (.tup ((cb ps).map bm),false):=by
 have cm:cN (gN 0) cV (bq eM (ag (aM 0) aq)) 1 (ps.reverse.map bm) [.e]=some ((cb ps).map bm,[.e]):=by
  have:=dH (fg:=gN 0) (fc:=cV) (fe:=bq eM (ag (aM 0) aq)) (k:=1) bm (fun p=>bm (FP p)) [.e] ps.reverse fun p hpp=>⟨[.v (bm p)],[.v (bm p)],.d (bm (FP p)),[.v (bm p)],[.v (bm p)],rfl,rfl,bQ rfl rfl (FN (t:=p.1) (n:=p.2) (hn p (List.mem_reverse.mp hpp))) rfl,rfl,rfl⟩;rw[this];unfold cb;rw[Xf];rfl
 refine bw (o:=.rt (.d (.tup ((cb ps).map bm))) [.v (.tup (ps.map bm))]) rfl (br (bW (aE (dA (s1:=[.v (.tup (ps.map bm))]) (ds:=ps.reverse.map bm) (s2:=[.e]) ?_ (sK (n:=100) ?_ (by decide) rfl) cm) rfl) rfl rfl)) rfl
 ·have:=Hs (st:=[.v (.tup (ps.map bm))]) (s1:=[.v (.tup (ps.map bm))]) (fe:=aM 0) (ds:=ps.map bm) (r:=.d (.tup (ps.map bm))) rfl rfl;rw[← List.map_reverse]at this;exact this
 ·rw[Ya,Vj];exact hl
def co (ps:List Bd):List Bd:=if ps.length=1 then [(false,(ps.headD z0).2)] else if mw (ps.headD z0).2 (ps.getLastD z0).2 then ps else cb ps
theorem lt_str {x y:Str} {b:Bool} (h:mw x y=b):Mz (.str x) (.str y)=some (.bl b,false):=by
 rw[← h];have e1:Kx (.str x) (.str y)=none:=rfl;unfold Mz jU;rw[e1];rfl
theorem N6 {ps:List Bd} (hs:ps≠[]) (hn:∀p∈ps,Nm p.2) (hl:ps.length<=100):iG [.tup (ps.map bm)]=some (.tup ((co ps).map bm),false):=by
 have h0:=gE hs;have hL:=jN hs;have n0:=hn _ (Wa h0);have nl:=hn _ (Wa hL);have len1:fX [.tup (ps.map bm)]=some (.int ps.length,false):=by
  show some (D.int ((ps.map bm).length:Nat),false)=_;rw[Ya]
 unfold co;generalize ps.headD z0=p0 at h0 n0 ⊢;generalize ps.getLastD z0=pl at hL nl ⊢;have i0:bE (.tup (ps.map bm)) (.int 0)=some (bm p0,false):=VF.ix_tup (ld (i:=0) h0);have il:bE (.tup (ps.map bm)) (.int (-1))=some (bm pl,false):=VF.ix_tup (oi hL);have nm0:∀st:En,st=[.v (.tup (ps.map bm))]->bq bU (ag (aH bE (aM 0) (fC (.int 0))) aq) st=some (.d (.str p0.2),st):=fun st hst=>by
  subst hst;exact bQ (aE (aB rfl rfl rfl rfl i0) rfl) rfl (fS (t:=p0.1) (n:=p0.2) n0) rfl
 have nml:∀st:En,st=[.v (.tup (ps.map bm))]->bq bU (ag (aH bE (aM 0) (Gy tY (fC (.int 1)))) aq) st=some (.d (.str pl.2),st):=fun st hst=>by
  subst hst;exact bQ (aE (aB rfl (xO rfl rfl rfl) rfl rfl il) rfl) rfl (fS (t:=pl.1) (n:=pl.2) nl) rfl
 have eqn:jd (.int ps.length) (.int 1)=some (.bl (decide (ps.length=1)),false):=by
  show some (D.bl (decide (V.int (ps.length:Int)=V.int 1)),false)=_;congr 2;congr 1;rw[Yf,decide_eq_true_eq,decide_eq_true_eq];exact⟨fun z=>by have:=V.int.inj z;lia,fun z=>by rw[z];rfl⟩
 by_cases c:ps.length=1
 ·rw[Ae c];rw[Af c]at eqn;refine bw (o:=.rt (.d (.tup [.str p0.2])) [.v (.tup (ps.map bm))]) rfl ?_ rfl;exact iz (jV (s:=[.v (.tup (ps.map bm))]) (aX (aB (bW rfl rfl len1) rfl rfl rfl eqn) rfl) (br (dG (aE (nm0 _ rfl) rfl) rfl (by show 1<=1000000;decide))))
 ·rw[Ai c];rw[Ad c]at eqn;have t1:aI (aH jd (dW fX (ag (aM 0) aq)) (fC (.int 1))) [.v (.tup (ps.map bm))]=some (false,[.v (.tup (ps.map bm))]):=aX (aB (bW rfl rfl len1) rfl rfl rfl eqn) rfl;cases e:mw p0.2 pl.2 with
  | true =>
   refine bw (o:=.rt (.d (.tup (ps.map bm))) [.v (.tup (ps.map bm))]) rfl ?_ rfl;exact ay (g6 t1 rfl) (iz (jV (s:=[.v (.tup (ps.map bm))]) (aX (aB (nm0 _ rfl) (nml _ rfl) rfl rfl (lt_str e)) rfl) (br (bW rfl rfl rfl))))
  | false =>
   refine bw (o:=.rt (.d (.tup ((cb ps).map bm))) [.v (.tup (ps.map bm))]) rfl ?_ rfl;exact ay (g6 t1 rfl) (ay (g6 (s:=[.v (.tup (ps.map bm))]) (aX (aB (nm0 _ rfl) (nml _ rfl) rfl rfl (lt_str e)) rfl) rfl) (br (bO rfl rfl (Jt hn hl))))
end
end K59
namespace VF
open PySem L2
theorem xT (bt:Nat->Nat->Bool):∀k,argBest bt k<=k
 | 0=>Xa _
 | k+1=>by
  unfold argBest;split
  ·exact Xa _
  ·exact Nat.le_succ_of_le (xT bt k)
theorem pD {bt:Nat->Nat->Bool} (tr:∀a b c,bt a b=true->bt c b=false->bt c a=true->False) (ir:∀a,bt a a=false):∀k j,j<=k->bt j (argBest bt k)=false
 | 0,j,h=>by
  obtain rfl:j=0:=by lia
  exact ir 0
 | k+1,j,h=>by
  unfold argBest;cases e:bt (k+1) (argBest bt k) with
  | true =>
   rw[Ae rfl];by_cases hj:j=k+1
   ·subst hj;exact ir _
   ·have:=pD tr ir k j (by lia)
    cases e2:bt j (k+1) with
    | false=>rfl
    | true=>exact(tr _ _ _ e this e2).elim
  | false =>
   rw[Ai Bool.noConfusion];by_cases hj:j=k+1
   ·subst hj;exact e
   ·exact pD tr ir k j (by lia)
theorem ia {ys:List Str} (h:ys≠[]):fj ys∈ys:=by
 have hp:=Yj.mpr h;have hb:=xT (fun i j=>mw (ys.getD i Str.empty) (ys.getD j Str.empty)) (ys.length-1);have hlt:xE ys<ys.length:=by unfold xE;lia
 unfold fj;rw[Xb,Za hlt];exact AF hlt
theorem xU {ys:List Str} {y:Str} (h:y∈ys):mw y (fj ys)=false:=by
 obtain⟨j,hj,rfl⟩:=List.mem_iff_getElem.mp h
 have:=pD (bt:=fun i j=>mw (ys.getD i Str.empty) (ys.getD j Str.empty)) (fun a b c h1 h2 h3=>by
  have:=n9 h3 h1
  rw[h2]at this;cases this) (fun a=>n8 _) (ys.length-1) j (by lia)
 have e:ys.getD j Str.empty=ys[j]:=by rw[Xb,Za hj];rfl
 have t:mw (ys.getD j Str.empty) (ys.getD (xE ys) Str.empty)=false:=this;rw[e]at t;exact t
theorem uT {b:Str} {ys:List Str} (h:b∈ys):bIndex (.lst (ys.map D.str)) [.str b]=some (.int (ys.idxOf b:Nat),false):=by
 show(gM (ys.map D.str)).bind (fun ys=>if b∈ys then some (D.int (ys.idxOf b:Nat),false) else none)=_;rw[iA];show(if b∈ys then _ else _)=_;rw[Ae h]
theorem FX {ys:List Str} (h:ys≠[]):xF [.lst (ys.map D.str)]=some (.str (fj ys),false):=by
 show(gM (ys.map D.str)).bind (fun ys=>if ys=[] then none else some (D.str (fj ys),false))=_;rw[iA];show(if ys=[] then _ else _)=_;rw[Ai h]
end VF
namespace K59
open PySem L2 VF VL
noncomputable section
def cg (ps:List Bd):List Str:=ps.map (·.2)
def fp (ps:List Bd):Nat:=(cg ps).idxOf (fj (cg ps))
theorem lg {ps:List Bd} (h:ps≠[]):cg ps≠[]:=fun z=>h (List.map_eq_nil_iff.mp z)
theorem FY {ps:List Bd} (h:ps≠[]):fp ps<ps.length:=by
 have:=List.idxOf_lt_length_iff.mpr (ia (lg h));unfold fp;rwa [show(cg ps).length=ps.length from Ya ..]at this
theorem Ju {ps:List Bd} (hs:ps≠[]) (hn:∀p∈ps,Nm p.2) (hl:ps.length<=100):cE [.tup (ps.map bm)]=some (.int (fp ps:Nat),false):=by
 have cm:cN (gN 0) cV (bq bU (ag (aM 0) aq)) 1 (ps.map bm) [.e]=some ((cg ps).map D.str,[.e]):=by
  have:=dH (fg:=gN 0) (fc:=cV) (fe:=bq bU (ag (aM 0) aq)) (k:=1) bm (fun p=>D.str p.2) [.e] ps fun p hpp=>⟨[.v (bm p)],[.v (bm p)],.d (.str p.2),[.v (bm p)],[.v (bm p)],rfl,rfl,bQ rfl rfl (fS (t:=p.1) (n:=p.2) (hn p hpp)) rfl,rfl,rfl⟩;rw[this];unfold cg;rw[Xf];rfl
 refine bw (o:=.rt (.d (.int (fp ps:Nat))) [.v (.tup (ps.map bm)),.o (.lst ((cg ps).map D.str))]) rfl ?_ rfl;refine ay (s:=[.v (.tup (ps.map bm)),.o (.lst ((cg ps).map D.str))]) (iQ (dA (s2:=[.e]) (oP rfl rfl) (sK (n:=100) (by rw[Ya];exact hl) (by decide) rfl) cm) rfl) ?_
 exact br (EA rfl rfl rfl (aE (bW rfl rfl (FX (lg hs))) rfl) rfl rfl (uT (ia (lg hs))))
def side (ps:List Bd):List Bd:=if (ps.getD (fp ps) z0).1 then cb ps else ps
def cr (ps:List Bd):List Bd:=(side ps).drop (fp (side ps))++(side ps).take (fp (side ps))
theorem lY (ps:List Bd):(cb ps).length=ps.length:=by unfold cb;rw[Ya,Vj]
theorem xV {ps:List Bd} (hn:∀p∈ps,Nm p.2):∀p∈cb ps,Nm p.2:=fun p hp=>by
 obtain⟨q,hq,rfl⟩:=Yc.mp hp;exact hn q (List.mem_reverse.mp hq)
theorem xW {ps:List Bd} (hs:ps≠[]) (hn:∀p∈ps,Nm p.2):side ps≠[]/\(∀p∈side ps,Nm p.2)/\(side ps).length=ps.length:=by
 unfold side;split
 ·refine⟨fun z=>hs ?_,xV hn,lY ps⟩;have:=lY ps;rw[z]at this;exact Zf this.symm
 ·exact⟨hs,hn,rfl⟩
theorem N7 {ps:List Bd} (hs:ps≠[]) (hn:∀p∈ps,Nm p.2) (hl:ps.length<=100):iH [.tup (ps.map bm)]=some (.tup ((cr ps).map bm),false):=by
 obtain⟨s1,s2,s3⟩:=xW hs hn;have hf:=FY hs;have a1:ps[fp ps]?=some (ps.getD (fp ps) z0):=by rw[Xb,Za hf];rfl
 have nf:=hn _ (Wa a1);have i1:bE (.tup (ps.map bm)) (.int (fp ps:Nat))=some (bm (ps.getD (fp ps) z0),false):=VF.ix_tup (ld a1);have t1:aI (bq cq (ag (aH bE (aM 0) (bq cE (ag (aM 0) aq))) aq)) [.v (.tup (ps.map bm)),.e,.e]=some ((ps.getD (fp ps) z0).1,[.v (.tup (ps.map bm)),.e,.e]) :=
  aX (bQ (aE (aB rfl (bQ rfl rfl (Ju hs hn hl) rfl) rfl rfl i1) rfl) rfl (hW (t:=(ps.getD (fp ps) z0).1) (n:=(ps.getD (fp ps) z0).2) nf) rfl) rfl
 have st1:bN (s9 (aI (bq cq (ag (aH bE (aM 0) (bq cE (ag (aM 0) aq))) aq))) (ce cQ (ag (aM 0) aq)) (dW eQ (ag (aM 0) aq))) 1 [.v (.tup (ps.map bm)),.e,.e]=some (.nx [.v (.tup (ps.map bm)),.v (.tup ((side ps).map bm)),.e]):=by
  unfold side;cases e:(ps.getD (fp ps) z0).1 with
  | true =>
   rw[e]at t1;exact eY (oN t1 (bO rfl rfl (Jt hn hl))) rfl
  | false =>
   rw[e]at t1;exact eY (qB t1 (bW rfl rfl rfl)) rfl
 have f2:=Ju s1 s2 (by lia)
 have hf2:=FY s1;have hk:fp (side ps)<=((side ps).map bm).length:=by rw[Ya];lia
 have c1:fG (.tup ((side ps).map bm)) (some ((fp (side ps):Nat):Int)) none=some (.tup (((side ps).drop (fp (side ps))).map bm),false):=by rw[rW,oQ hk,Dq]
 have c2:fG (.tup ((side ps).map bm)) none (some ((fp (side ps):Nat):Int))=some (.tup (((side ps).take (fp (side ps))).map bm),false):=by rw[rW,EI hk,Do]
 have ct:cj (.tup (((side ps).drop (fp (side ps))).map bm)) (.tup (((side ps).take (fp (side ps))).map bm))=some (.tup ((cr ps).map bm),false):=by
  rw[rX (by rw[Ya,Ya,Xk,Vl];lia)]
  unfold cr;rw[Yd]
 refine bw (o:=.rt (.d (.tup ((cr ps).map bm))) [.v (.tup (ps.map bm)),.v (.tup ((side ps).map bm)),.v (.int (fp (side ps):Nat))]) rfl ?_ rfl;refine ay st1 (ay (s:=[.v (.tup (ps.map bm)),.v (.tup ((side ps).map bm)),.v (.int (fp (side ps):Nat))]) (eY (bQ rfl rfl f2 rfl) rfl) ?_);exact br (aB (mU rfl rfl rfl rfl c1) (mU rfl rfl rfl rfl c2) rfl rfl ct)
def cs (s:aG):aG:=(s.1,if s.1 then cr s.2 else co s.2)
theorem N8 {s:aG} (hs:s.2≠[]) (hn:∀p∈s.2,Nm p.2) (hl:s.2.length<=100):cR [cY s]=some (cY (cs s),false):=by
 obtain⟨r,ps⟩:=s;dsimp only at hs hn hl;refine bw (o:=.rt (.d (cY (cs (r,ps)))) [.v (cY (r,ps))]) rfl ?_ rfl;cases r with
 | true=>exact ay (g6 (s:=[.v (cY (true,ps))]) rfl rfl) (br (dG (aE rfl (aE (bO (aE (aB rfl rfl rfl rfl rfl) rfl) rfl (N7 hs hn hl)) rfl)) rfl (by show 2<=1000000;decide)))
 | false=>exact iz (jV (s:=[.v (cY (false,ps))]) rfl (br (dG (aE rfl (aE (bO (aE (aB rfl rfl rfl rfl rfl) rfl) rfl (N6 hs hn hl)) rfl)) rfl (by show 2<=1000000;decide))))
def rk (s:aG):KB:=(s.1,(s.2.headD z0).2)
theorem N9 {s:aG} (hs:s.2≠[]) (hn:∀p∈s.2,Nm p.2):cF [cY s]=some (keyD true (rk s),false):=by
 obtain⟨r,ps⟩:=s;dsimp only at hs hn;have h0:=gE hs;have n0:=hn _ (Wa h0);have i0:bE (.tup (ps.map bm)) (.int 0)=some (bm (ps.headD z0),false):=VF.ix_tup (ld (i:=0) h0);have nm:bq bU (ag (aH bE (aH bE (aM 0) (fC (.int 1))) (fC (.int 0))) aq) [.v (cY (r,ps))]=some (.d (.str (ps.headD z0).2),[.v (cY (r,ps))]):=bQ (aE (aB (aB rfl rfl rfl rfl rfl) rfl rfl rfl i0) rfl) rfl (fS (t:=(ps.headD z0).1) (n:=(ps.headD z0).2) n0) rfl;have eq:aH jd (aH bE (aM 0) (fC (.int 0))) (fC (.str "ring")) [.v (cY (r,ps))]=some (.d (.bl r),[.v (cY (r,ps))]):=by cases r<;>rfl
 refine bw (o:=.rt (.d (keyD true (rk (r,ps)))) [.v (cY (r,ps))]) rfl (br (dG (aE eq (aE nm rfl)) rfl (by show 2<=1000000;decide))) rfl
end
end K59
namespace VF
open PySem L2 TS
section
variable {ks:List KB}
theorem LX (g h:Nat) (n:g≠h):Bf (cB ks) g h∨Bf (cB ks) h g:=by
 cases e1:cB ks g h with
 | true=>exact .inl (.inl e1)
 | false =>
  cases e2:cB ks h g with
  | true=>exact .inr (.inl e2)
  | false =>
   rcases Nat.lt_or_gt_of_ne n with z|z
   ·exact .inl (.inr ⟨e2,z⟩)
   ·exact .inr (.inr ⟨e1,z⟩)
theorem LY {a b c:Nat} (h1:Bf (cB ks) a b) (h2:Bf (cB ks) b c):Bf (cB ks) a c:=by
 have asy:∀x y,cB ks x y=true->cB ks y x=false:=fun x y z=>by
  cases e:cB ks y x with
  | false=>rfl
  | true =>
   have:=lN z e;rw[lM]at this;cases this
 rcases h1 with h1|⟨h1,l1⟩
 ·rcases h2 with h2|⟨h2,l2⟩
  ·exact .inl (lN h1 h2)
  ·rcases oe (q:=ks.getD c (false,Str.empty)) h1 with q|q
   ·exact .inl q
   ·have:cB ks c b=true:=q;rw[h2]at this;cases this
 ·rcases h2 with h2|⟨h2,l2⟩
  ·rcases oe (q:=ks.getD a (false,Str.empty)) h2 with q|q
   ·have:cB ks b a=true:=q;rw[h1]at this;cases this
   ·exact .inl q
  ·refine .inr ⟨?_,by lia⟩
   cases e:cB ks c a with
   | false=>rfl
   | true =>
    rcases oe (q:=ks.getD b (false,Str.empty)) e with q|q
    ·have:cB ks c b=true:=q;rw[h2]at this;cases this
    ·have:cB ks b a=true:=q;rw[h1]at this;cases this
theorem FZ {g:Nat}:∀(l:List Nat),g∉l->l.Pairwise (Bf (cB ks))->∃m:List Nat,m.Perm (g::l)/\m.Pairwise (Bf (cB ks))
 | [],_,_=>⟨[g],List.Perm.refl _,Xm _ _⟩
 | h::l,n,s=>by
  obtain⟨s1,s2⟩:=Xg.mp s;have ne:g≠h:=fun z=>n (by simp[z])
  rcases LX (ks:=ks) g h ne with q|q
  ·refine⟨g::h::l,List.Perm.refl _,Xg.mpr ⟨fun b hb=>?_,s⟩⟩;rcases Xd.mp hb with rfl|hb
   ·exact q
   ·exact LY q (s1 b hb)
  ·obtain⟨m,p,sm⟩:=FZ l (fun z=>n (Va _ z)) s2;refine⟨h::m,(p.cons h).trans (List.Perm.swap _ _ _),Xg.mpr ⟨fun b hb=>?_,sm⟩⟩;rcases Xd.mp (p.mem_iff.mp hb) with rfl|hb
   ·exact q
   ·exact s1 b hb
theorem Jv:∀(l:List Nat),l.Nodup->∃m:List Nat,m.Perm l/\m.Pairwise (Bf (cB ks))
 | [],_=>⟨[],List.Perm.refl _,List.Pairwise.nil⟩
 | g::l,n=>by
  obtain⟨n1,n2⟩:=Zk.mp n;obtain⟨m,p,s⟩:=Jv l n2;obtain⟨m',p',s'⟩:=FZ (ks:=ks) (g:=g) m (fun z=>n1 (p.mem_iff.mp z)) s;exact⟨m',p'.trans (p.cons g),s'⟩
theorem F3 (ds:List D):∃γ:Array Nat,γ.Perm (Array.range ds.length)/\Sg (cB ks) γ 0 ds.length:=by
 obtain⟨m,p,s⟩:=Jv (ks:=ks) (List.range ds.length) List.nodup_range;refine⟨m.toArray,Zg.mpr (by rw[Zm];exact p),fun i j g h _ hij hj e1 e2=>?_⟩
 have e1':m[i]?=some g:=by simpa using e1
 have e2':m[j]?=some h:=by simpa using e2
 obtain⟨i1,rfl⟩:=Wb.mp e1';obtain⟨i2,rfl⟩:=Wb.mp e2';exact Wg.mp s i j i1 i2 hij
theorem pE {α:Type} (f:α->D) (k:α->KB) (l:List α):∃m:List α,m.Perm l/\jZ (l.map k) (l.map f)=m.map f/\m.Pairwise (fun a b=>ltB (k b) (k a)=false):=by
 obtain⟨γ,p,g⟩:=F3 (ks:=l.map k) (l.map f);rw[← o3 p g];rw[Ya]at p g;have hγ:∀x∈γ.toList,x<l.length:=fun x hx=>by
  have:=(Zg.mp p).mem_iff.mp hx;rw[Zm]at this;exact Vg.mp this
 cases l with
 | nil =>
  have:γ.toList=[]:=Zf (by rw[Wc,p.size_eq,Vk];rfl)
  exact⟨[],List.Perm.refl _,by rw[this];rfl,List.Pairwise.nil⟩
 | cons x0 l0 =>
  refine⟨γ.toList.map fun g=>(x0::l0).getD g x0,?_,?_,?_⟩
  ·have:=(Zg.mp p).map fun g=>(x0::l0).getD g x0;rw[Zm]at this;refine this.trans (C8 ?_);refine Bs (by simp) fun i h1 h2=>?_
   rw[Br,List.getElem_range,Xb,Za h2];rfl
  ·rw[Xf];refine Xj fun g hg=>?_;have hgl:=hγ g hg;refine lH ?_;rw[Qc,Za hgl];show some _=some (f ((x0::l0).getD g x0));rw[Xb,Za hgl];rfl
  ·rw[Qh];refine(sr (by rw[p.size_eq,Vk]) g).imp_of_mem fun {a b} ha hb h=>?_
   have ea:((x0::l0).map k).getD a (false,Str.empty)=k ((x0::l0).getD a x0):=by
    rw[Xb,Qc,Xb,Za (hγ a ha)];rfl
   have eb:((x0::l0).map k).getD b (false,Str.empty)=k ((x0::l0).getD b x0):=by
    rw[Xb,Qc,Xb,Za (hγ b hb)];rfl
   have asy:cB ((x0::l0).map k) b a=false:=by
    rcases h with h|h
    ·cases e:cB ((x0::l0).map k) b a with
     | false=>rfl
     | true =>
      have:=lN h e;rw[lM]at this;cases this
    ·exact h.1
   unfold cB at asy;rw[ea,eb]at asy;exact asy
end
end VF
namespace K59
open PySem L2 VF VL
noncomputable section
theorem Ia {ps:List Bd} (hs:ps≠[]) (hn:∀p∈ps,Nm p.2):co ps≠[]/\(∀p∈co ps,Nm p.2)/\(co ps).length=ps.length:=by
 have n0:=hn _ (Wa (gE hs));unfold co;split
 ·rename_i c
  exact⟨by simp,fun p hp=>by rw[Vb.mp hp];exact n0,c.symm⟩
 ·split
  ·exact⟨hs,hn,rfl⟩
  ·refine⟨fun z=>hs ?_,xV hn,lY ps⟩;have:=lY ps;rw[z]at this;exact Zf this.symm
theorem Ib {ps:List Bd} (hs:ps≠[]) (hn:∀p∈ps,Nm p.2):cr ps≠[]/\(∀p∈cr ps,Nm p.2)/\(cr ps).length=ps.length:=by
 obtain⟨s1,s2,s3⟩:=xW hs hn;have hf:=FY s1;have ln:(cr ps).length=ps.length:=by
  unfold cr;rw[Qb,Xk,Vl];lia
 refine⟨fun z=>hs ?_,fun p hp=>?_,ln⟩
 ·rw[z]at ln;exact Zf ln.symm
 ·rcases Zd.mp hp with m|m
  ·exact s2 p (List.mem_of_mem_drop m)
  ·exact s2 p (List.mem_of_mem_take m)
theorem sL {s:aG} (hs:s.2≠[]) (hn:∀p∈s.2,Nm p.2):(cs s).2≠[]/\(∀p∈(cs s).2,Nm p.2)/\(cs s).2.length=s.2.length:=by
 obtain⟨r,ps⟩:=s;cases r with
 | true=>exact Ib hs hn
 | false=>exact Ia hs hn
theorem Oa {s:aG} (hs:s.2≠[]):(sj (cs s)).Perm (sj s):=by
 obtain⟨r,ps⟩:=s;dsimp only at hs;cases r with
 | true =>
  show(sj (true,cr ps)).Perm (sj (true,ps));have h1:(sj (true,cr ps)).Perm (sj (true,side ps)):=by
   have:=LW (xs:=(side ps).take (fp (side ps))) (ys:=(side ps).drop (fp (side ps)));rwa [Xh]at this
  refine h1.trans ?_;unfold side;split
  ·exact FV hs
  ·exact List.Perm.refl _
 | false =>
  show(sj (false,co ps)).Perm (sj (false,ps));unfold co;split
  ·rename_i c
   obtain⟨p,rfl⟩:=List.length_eq_one_iff.mp c;obtain⟨t,n⟩:=p;cases t with
   | true=>exact List.Perm.swap _ _ []
   | false=>exact List.Perm.refl _
  ·split
   ·exact List.Perm.refl _
   ·exact FV hs
def cn (ss:List aG):List aG:=(pE cY rk (ss.map cs)).choose
theorem sM (ss:List aG):(cn ss).Perm (ss.map cs)/\jZ ((ss.map cs).map rk) ((ss.map cs).map cY)=(cn ss).map cY/\(cn ss).Pairwise (fun a b=>ltB (rk b) (rk a)=false):=(pE cY rk (ss.map cs)).choose_spec
theorem xX:∀{ss:List aG},(∀s∈ss,s.2≠[])->(∀s∈ss,∀p∈s.2,Nm p.2)->keysOf true cF (ss.map cY)=some (ss.map rk)
 | [],_,_=>rfl
 | s::ss,h1,h2=>by
  have ih:=xX (ss:=ss) (fun x hx=>h1 x (Va _ hx)) fun x hx=>h2 x (Va _ hx);have e:=N9 (h1 s Qa) (h2 s Qa);rw[Ve,keysOf,e,ih];rfl
theorem F4 {ss:List aG} (hne:∀s∈ss,s.2≠[]) (hn:∀s∈ss,∀p∈s.2,Nm p.2) (hl:(ss.flatMap (·.2)).length<=60):sv [.lst (ss.map cY)]=some (.tup ((cn ss).map cY),false):=by
 have hsl:=oh ss hne;have len:∀s∈ss,s.2.length<=100:=fun s hs=>by
  obtain⟨a,b,e⟩:=BI hs;rw[e,Vh,Qg,Qb,Qb]at hl;lia
 have cm:cN (gN 0) cV (ce cR (ag (aM 0) aq)) 1 (ss.map cY) [.e]=some ((ss.map cs).map cY,[.e]):=by
  have:=dH (fg:=gN 0) (fc:=cV) (fe:=ce cR (ag (aM 0) aq)) (k:=1) cY (fun s=>cY (cs s)) [.e] ss fun s hs=>⟨[.v (cY s)],[.v (cY s)],.d (cY (cs s)),[.v (cY s)],[.v (cY s)],rfl,rfl,bO rfl rfl (N8 (hne s hs) (hn s hs) (len s hs)),rfl,rfl⟩;rw[this,Xf];rfl
 have ke:=xX (ss:=ss.map cs) (fun s hs=>by
  obtain⟨t,ht,rfl⟩:=Yc.mp hs;exact(sL (hne t ht) (hn t ht)).1) (fun s hs=>by
  obtain⟨t,ht,rfl⟩:=Yc.mp hs
  exact(sL (hne t ht) (hn t ht)).2.1)
 have so:mJ cF [.lst ((ss.map cs).map cY)]=some (.lst ((cn ss).map cY),true):=by
  show(if ((ss.map cs).map cY).length<64 then((keysOf true cF ((ss.map cs).map cY)).or _).bind _ else none)=_;rw[Ae (by rw[Ya,Ya];lia)]
  rw[ke];show some (D.lst (jZ ((ss.map cs).map rk) ((ss.map cs).map cY)),true)=_;rw[(sM ss).2.1]
 refine bw (o:=.rt (.d (.tup ((cn ss).map cY))) [.v (.lst (ss.map cY))]) rfl (br (bW (aE (bW (aE (dA (s2:=[.e]) (oO rfl rfl) (sK (n:=100) (by rw[Ya];lia) (by decide) rfl) cm) rfl) rfl so) rfl) rfl rfl)) rfl
theorem F5:∀{ss:List aG},(∀s∈ss,s.2≠[])->((ss.map cs).flatMap sj).Perm (ss.flatMap sj)
 | [],_=>List.Perm.refl _
 | s::r,h=>by
  rw[Ve,Qg,Qg];exact(Oa (h s Qa)).append (F5 fun x hx=>h x (Va _ hx))
theorem Jw {ss:List aG} (hne:∀s∈ss,s.2≠[]):jo (cn ss)=jo ss:=lc (((sM ss).1.flatMap_right sj).trans (F5 hne))
end
end K59
namespace VF
open PySem L2
theorem Ic {x y:Str} (h1:mw x y=false) (h2:mw y x=false):x=y:=by
 rcases(kL 1).tri (a:=.str x) (b:=.str y) trivial with q|q|q
 ·injection q
 ·have:mw x y=true:=q;rw[h1]at this;cases this
 ·have:mw y x=true:=q;rw[h2]at this;cases this
theorem xY {ys zs:List Str} (hy:ys≠[]) (hz:zs≠[]) (h:∀y,y∈ys↔y∈zs):fj ys=fj zs :=
 Ic (xU ((h _).mp (ia hy))) (xU ((h _).mpr (ia hz)))
theorem F6 {a:Str} {u v:List Str} (h:a∉u):(u++a::v).idxOf a=u.length:=by
 rw[List.idxOf_append,Ai h,List.idxOf_cons_self];lia
end VF
namespace K59
open PySem L2 VF VL
noncomputable section
theorem Id (a b:List Bd):cb (a++b)=cb b++cb a:=by unfold cb;rw[Bx,Yd]
theorem oj (ps:List Bd):cg (cb ps)=(cg ps).reverse:=by
 unfold cg cb;rw[Xf,← List.map_reverse];rfl
theorem fN (a b:List Bd):cg (a++b)=cg a++cg b:=Yd ..
theorem LZ {ps:List Bd} (hs:ps≠[]) (nd:(cg ps).Nodup):∃u b v,ps=u++(b,fj (cg ps))::v/\fj (cg ps)∉cg u/\fj (cg ps)∉cg v:=by
 obtain⟨p,hp,e⟩:=Yc.mp (ia (lg hs));obtain⟨u,v,rfl⟩:=BI hp;obtain⟨b,n⟩:=p;have e':n=fj (cg (u++(b,n)::v)):=e;rw[← e'];have nd':(cg u++n::cg v).Nodup:=by
  have:=nd;rw[fN]at this;exact this
 rw[Zi]at nd';refine⟨u,b,v,rfl,fun z=>?_,?_⟩
 ·exact nd'.2.2 n z n Qa rfl
 ·exact(Zk.mp nd'.2.1).1
theorem Oc {u v:List Bd} {b:Bool} {n:Str} (hm:fj (cg (u++(b,n)::v))=n) (hu:n∉cg u) (hv:n∉cg v):cr (u++(b,n)::v)=(false,n)::(if b then cb u++cb v else v++u):=by
 have f1:fp (u++(b,n)::v)=u.length:=by
  unfold fp;rw[hm,fN];have:=F6 (v:=cg v) hu;rw[show(cg u).length=u.length from Ya ..]at this;exact this
 have g1:(u++(b,n)::v).getD (fp (u++(b,n)::v)) z0=(b,n):=by
  rw[f1,Xb,Wf (Xa _),CF];rfl
 cases b with
 | false =>
  have sd:side (u++(false,n)::v)=u++(false,n)::v:=by unfold side;rw[g1];rfl
  unfold cr;rw[sd,f1,List.drop_left,List.take_left];rfl
 | true =>
  have sd:side (u++(true,n)::v)=cb v++(false,n)::cb u:=by
   unfold side;rw[g1];show cb (u++(true,n)::v)=_;rw[Id,lX,Xe];rfl
  have hv':n∉cg (cb v):=by rw[oj];exact fun z=>hv (List.mem_reverse.mp z)
  have hm2:fj (cg (cb v++(false,n)::cb u))=n:=by
   refine Eq.trans (xY ?_ ?_ fun y=>?_) hm
   ·rw[fN];simp[cg]
   ·rw[fN];simp[cg]
   ·rw[fN,fN];show y∈cg (cb v)++n::cg (cb u)↔y∈cg u++n::cg v;rw[oj,oj];simp only[Zd,Xd,List.mem_reverse];exact⟨fun z=>by rcases z with z|z|z<;>simp[z],fun z=>by rcases z with z|z|z<;>simp[z]⟩
  have f2:fp (cb v++(false,n)::cb u)=(cb v).length:=by
   unfold fp;rw[hm2,fN];have:=F6 (v:=cg (cb u)) hv';rw[show(cg (cb v)).length=(cb v).length from Ya ..]at this;exact this
  unfold cr;rw[sd,f2,List.drop_left,List.take_left];rfl
theorem F7 {ps qs:List Bd} (hp:ps≠[]) (h:(cg ps).Perm (cg qs)):fj (cg qs)=fj (cg ps):=by
 have hq:cg qs≠[]:=fun z=>by
  rw[z]at h;exact lg hp (List.Perm.eq_nil h)
 exact xY hq (lg hp) fun y=>h.mem_iff.symm
theorem F8 {s:aG} (hs:s.2≠[]):(cg (cs s).2).Perm (cg s.2):=by
 obtain⟨r,ps⟩:=s;dsimp only at hs;have mp:(cg (cb ps)).Perm (cg ps):=by rw[oj];exact List.reverse_perm _
 cases r with
 | true =>
  show(cg (cr ps)).Perm (cg ps);have h1:(cg (cr ps)).Perm (cg (side ps)):=by
   unfold cr;rw[fN];refine DH.trans ?_;rw[← fN,Xh]
  refine h1.trans ?_;unfold side;split
  ·exact mp
  ·exact List.Perm.refl _
 | false =>
  show(cg (co ps)).Perm (cg ps);unfold co;split
  ·rename_i c
   obtain⟨p,rfl⟩:=List.length_eq_one_iff.mp c;exact List.Perm.refl _
  ·split
   ·exact List.Perm.refl _
   ·exact mp
end
end K59
namespace VF
open PySem L2
theorem L7 {i j:Int} {b:Bool} (h:b=true↔i=j):lG (.int i) (.int j)=some (.bl b,false):=by
 have e:jd (.int i) (.int j)=some (.bl b,false):=by
  show some (D.bl (decide (V.int i=V.int j)),false)=_;congr 2;congr 1;rw[Yf,h,decide_eq_true_eq];exact⟨fun z=>V.int.inj z,fun z=>by rw[z]⟩
 unfold lG jU;rw[e]
end VF
namespace K59
open PySem L2 VF VL
noncomputable section
structure Cf (s:aG):Prop where
 ne:s.2≠[]
 nm:∀p∈s.2,Nm p.2
 ln:s.2.length<=100
 un:s.1=true∨s.2.length=1->(s.2.headD z0).1=false
 mn:s.1=true->(s.2.headD z0).2=fj (cg s.2)
 op:s.1=false->s.2.length≠1->mw (s.2.getLastD z0).2 (s.2.headD z0).2=false
theorem Od {t:aG} (hs:t.2≠[]) (hn:∀p∈t.2,Nm p.2) (hl:t.2.length<=100) (nd:(cg t.2).Nodup):Cf (cs t):=by
 obtain⟨f1,f2,f3⟩:=sL hs hn;obtain⟨r,ps⟩:=t;dsimp only at hs hn hl nd f3;cases r with
 | true =>
  obtain⟨u,b,v,e,hu,hv⟩:=LZ hs nd;have ec:cr ps=(false,fj (cg ps))::(if b then cb u++cb v else v++u):=by
   generalize hm:fj (cg ps)=n at *;subst e;exact Oc hm hu hv
  have em:fj (cg (cr ps))=fj (cg ps):=F7 hs (F8 (s:=(true,ps)) hs).symm;refine⟨f1,f2,by lia,fun _=>?_,fun _=>?_,fun z=>(by cases z)⟩
  ·show((cr ps).headD z0).1=false;rw[ec];rfl
  ·show((cr ps).headD z0).2=fj (cg (cr ps));rw[em,ec];rfl
 | false =>
  refine⟨f1,f2,by lia,fun z=>?_,fun z=>(by cases z),fun _ c=>?_⟩
  ·have c:(co ps).length=1:=by
    rcases z with z|z
    ·cases z
    ·exact z
   have c':ps.length=1:=by
    have f3':(co ps).length=ps.length:=f3;lia
   show((co ps).headD z0).1=false;unfold co;rw[Ae c'];rfl
  ·have c':ps.length≠1:=by
    have f3':(co ps).length=ps.length:=f3;have cc:(co ps).length≠1:=c;lia
   show mw ((co ps).getLastD z0).2 ((co ps).headD z0).2=false;cases e1:mw (ps.headD z0).2 (ps.getLastD z0).2 with
   | true =>
    have e:co ps=ps:=by unfold co;rw[Ai c',Ae e1]
    rw[e];cases e2:mw (ps.getLastD z0).2 (ps.headD z0).2 with
    | false=>rfl
    | true =>
     have:=n9 e1 e2;rw[n8]at this;cases this
   | false =>
    have e:co ps=cb ps:=by unfold co;rw[Ai c',Ai (by rw[e1];exact Bool.noConfusion)]
    rw[e,uR ps hs,qM ps hs];exact e1
end
end K59
namespace VF
open PySem L2
theorem fO {ds:List D} {i:Nat} {d:D} (h:ds[i]?=some d):bE (.tup ds) (.int i)=some (d,false):=VF.ix_tup (jz h)
theorem L8 {xs ys:List D} {c:Bool} (ne:xs≠[]) (pa:Pl 40 (.tup xs)) (pb:Pl 40 (.tup ys)) (h:c=true↔D.tup xs=D.tup ys):jf (.tup xs) (.tup ys)=some (.bl (!c),false):=by
 have e1:He (.tup xs) (.tup ys)=none:=by
  cases xs with
  | nil=>exact absurd rfl ne
  | cons _ _=>rfl
 unfold jf jU;rw[e1];unfold ut;dsimp only;have dc:∀i:Decidable (D.tup xs=D.tup ys),@decide _ i=c:=fun i=>by rw[Yf,decide_eq_true_eq];exact h.symm
 rw[Ae ⟨pa,pb⟩,dc];rfl
end VF
namespace K59
open PySem L2 VF VL VF22
theorem Oe {j:gm} (h:j.length=1∨j.length=2):(∃a,j=[a])∨∃a b,j=[a,b]:=by
 cases j with
 | nil=>rcases h with z|z<;>cases z
 | cons a r =>
  cases r with
  | nil=>exact .inl ⟨a,rfl⟩
  | cons b r =>
   cases r with
   | nil=>exact .inr ⟨a,b,rfl⟩
   | cons c r =>
    rw[Vd,Vd,Vd]at h;lia
theorem L9 (e:End) (es:gm):bE (jD (e::es)) (.int 0)=some (eD e,false):=fO (i:=0) rfl
theorem O7 (e f:End) (es:gm):bE (jD (e::f::es)) (.int 1)=some (eD f,false):=fO (i:=1) rfl
theorem lZ (es:List End):(cz es).length=es.length:=(bK es).2.length_eq
theorem F9 (a b:End):cz [a,b]=cz [b,a]:=iN (List.Perm.swap b a [])
theorem Ma (j:gm):fX [jD j]=some (.int (j.length:Int),false):=by
 show some (D.int (((j.map eD).length:Nat):Int),false)=_;rw[Ya]
def Pr (js:List gm):Prop:=∀j∈js,j.length=1∨j.length=2
theorem uU {f:FE} {st s:En} {r:Rs} {i:Int} (h:f st=some (r,s)) (c:cont s r=some (.int i)):aI (aH jd f (fC (.int i))) st=some (true,s):=by
 refine aX (aB h rfl c rfl (z:=(.bl true,false)) ?_) rfl;show some (D.bl (decide (V.int i=V.int i)),false)=_;rw[Af rfl]
theorem xZ {f:FE} {st s:En} {r:Rs} {i j:Int} (h:f st=some (r,s)) (c:cont s r=some (.int i)) (ne:i≠j):aI (aH jd f (fC (.int j))) st=some (false,s):=by
 refine aX (aB h rfl c rfl (z:=(.bl false,false)) ?_) rfl;show some (D.bl (decide (V.int i=V.int j)),false)=_;rw[Ad fun z=>ne (by injection z)]
theorem Pz {a b:End}:jf (eD a) (eD b)=some (.bl (!decide (a=b)),false):=by
 refine L8 (by simp) (FK 38 a) (FK 38 b) ?_
 rw[decide_eq_true_eq];exact⟨fun h=>by rw[h],fun h=>by have:=congrArg Jq h;exact this⟩
end K59
namespace K59
open PySem L2 VF VL VF22
theorem ib {α:Type}:∀{js:List (List α)},js.flatten.Nodup->∀{j j':List α} {e:α},j∈js->j'∈js->e∈j->e∈j'->j=j'
 | [],_,_,_,_,h,_,_,_=>nomatch h
 | k::r,nd,j,j',e,h,h',he,he'=>by
  rw[AV,Zi]at nd;obtain⟨_,n2,n3⟩:=nd;rcases Xd.mp h with a|a<;>rcases Xd.mp h' with b|b
  ·rw[a,b]
  ·exact absurd rfl (n3 e (a ▸ he) e (Zj.mpr ⟨j',b,he'⟩))
  ·exact absurd rfl (n3 e (b ▸ he') e (Zj.mpr ⟨j,a,he⟩))
  ·exact ib n2 a b he he'
theorem uV {α:Type}:∀{js:List (List α)},js.flatten.Nodup->∀{j:List α},j∈js->j.Nodup
 | [],_,_,h=>nomatch h
 | k::r,nd,j,h=>by
  rw[AV,Zi]at nd;rcases Xd.mp h with rfl|h
  ·exact nd.1
  ·exact uV nd.2.1 h
theorem pF {α:Type}:∀{js:List (List α)},js.flatten.Nodup->(∀j∈js,j≠[])->js.Nodup
 | [],_,_=>B8
 | k::r,nd,h=>by
  rw[AV,Zi]at nd;refine Zk.mpr ⟨fun hk=>?_,pF nd.2.1 fun j hj=>h j (Va _ hj)⟩;cases e:k with
  | nil=>exact h k Qa e
  | cons a t =>
   have:a∈k:=by rw[e];exact Qa
   exact nd.2.2 a this a (Zj.mpr ⟨k,hk,this⟩) rfl
structure Js (js:List gm) (xs:List Str):Prop where
 ln:Pr js
 pf:js.flatten.Perm (xs.map zero++xs.map one)
 so:∀j∈js,cz j=j
 nx:xs.Nodup
section
variable {js:List gm} {xs:List Str}
theorem x8 (h:xs.Nodup):(xs.map zero++xs.map one).Nodup:=by
 refine Zi.mpr ⟨?_,?_,fun a ha b hb e=>?_⟩
 ·show List.Pairwise _ _;rw[Qh];exact h.imp fun n e=>n (congrArg Prod.fst e)
 ·show List.Pairwise _ _;rw[Qh];exact h.imp fun n e=>n (congrArg Prod.fst e)
 ·obtain⟨x,_,rfl⟩:=Yc.mp ha;obtain⟨y,_,rfl⟩:=Yc.mp hb;have:(0:Int)=1:=congrArg Prod.snd e;lia
theorem Js.nd (J:Js js xs):js.flatten.Nodup:=J.pf.nodup_iff.mpr (x8 J.nx)
theorem uW {e:End}:e∈xs.map zero++xs.map one↔e.1∈xs/\(e.2=0∨e.2=1):=by
 obtain⟨n,i⟩:=e;constructor
 ·intro h;rcases Zd.mp h with h|h<;>(obtain⟨x,hx,e⟩:=Yc.mp h;cases e)
  ·exact⟨hx,.inl rfl⟩
  ·exact⟨hx,.inr rfl⟩
 ·rintro⟨h,h2⟩;dsimp only at h h2;rcases h2 with rfl|rfl
  ·exact Vi _ (Yc.mpr ⟨n,h,rfl⟩)
  ·exact Wd _ (Yc.mpr ⟨n,h,rfl⟩)
theorem Js.en (J:Js js xs) {e:End}:e∈js.flatten↔e.1∈xs/\(e.2=0∨e.2=1):=J.pf.mem_iff.trans uW
def Mt (js:List gm) (e f:End):Prop:=cz [e,f]∈js
theorem Ga (e f:End):e∈cz [e,f]:=(bK [e,f]).2.mem_iff.mpr (by simp)
theorem Gb (e f:End):f∈cz [e,f]:=(bK [e,f]).2.mem_iff.mpr (by simp)
theorem Mt.sym {e f:End} (h:Mt js e f):Mt js f e:=by unfold Mt;rw[F9];exact h
theorem Mt.uni (J:Js js xs) {e f g:End} (h:Mt js e f) (h':Mt js e g):f=g:=by
 have:=ib J.nd h h' (Ga e f) (Ga e g);have p:[e,f].Perm [e,g]:=(bK _).2.symm.trans ((C8 this).trans (bK _).2);have:=List.Perm.cons_inv p;simpa using this.singleton_eq
theorem Mt.irr (J:Js js xs) {e:End} (h:Mt js e e):False:=by
 have:=(bK [e,e]).2.nodup_iff.mp (uV J.nd h);simp at this
theorem Mt.free (J:Js js xs) {e f:End} (h:Mt js e f) (h':[f]∈js):False:=by
 have:=ib J.nd h h' (Gb e f) (by simp)
 have:=congrArg List.length this;rw[lZ]at this;simp at this
theorem Mt.end (J:Js js xs) {e f:End} (h:Mt js e f):f.1∈xs/\(f.2=0∨f.2=1):=J.en.mp (Zj.mpr ⟨_,h,Gb e f⟩)
def eO (e:End):Bd:=(decide (e.2=1),e.1)
theorem sN {e:End} (h:e.2=0∨e.2=1):cZ (eO e)=e:=by
 obtain⟨n,i⟩:=e;dsimp only at h;rcases h with rfl|rfl<;>rfl
theorem Of (p:Bd):cZ p≠dS p:=fun h=>by
 obtain⟨t,n⟩:=p;have:=congrArg Prod.snd h;cases t<;>(simp[cZ,dS]at this)
theorem Og {e:End} {q:Bd} (h:e.2=0∨e.2=1) (hn:e.1=q.2):e=cZ q∨e=dS q:=by
 obtain⟨n,i⟩:=e;obtain⟨t,m⟩:=q;dsimp only at h hn;subst hn;rcases h with rfl|rfl<;>cases t
 ·exact .inl rfl
 ·exact .inr rfl
 ·exact .inr rfl
 ·exact .inl rfl
theorem Mb (p:Bd):(dS p).2=0∨(dS p).2=1:=by obtain⟨t,n⟩:=p;cases t<;>simp[dS]
theorem Gc {ps:List Bd} {i:Nat} {p q:Bd} (h1:ps[i]?=some p) (h2:ps[i+1]?=some q):Jn p q∈p9 ps:=by
 refine Yc.mpr ⟨(p,q),Wa (i:=i) ?_,rfl⟩;rw[Dl];exact⟨h1,by rw[Qf,BU];exact h2⟩
structure Wk (js:List gm) (xs:List Str) (S:Str->Prop) (ps:List Bd):Prop where
 ne:ps≠[]
 ij:∀j∈p9 ps,j∈js
 nd:(ps.map (·.2)).Nodup
 xs:∀p∈ps,p.2∈xs
 ns:∀p∈ps,¬ S p.2
variable {S:Str->Prop} {ps:List Bd}
theorem Ge (nd:(ps.map (·.2)).Nodup) {i k:Nat} {p q:Bd} (h1:ps[i]?=some p) (h2:ps[k]?=some q) (e:p.2=q.2):i=k:=by
 have hi:i<(ps.map (·.2)).length:=by rw[Ya];exact(Wb.mp h1).1
 refine(List.getElem?_inj hi nd).mp ?_;rw[Qc,Qc,h1,h2];show some p.2=some q.2;rw[e]
theorem Gf (J:Js js xs) (W:Wk js xs S ps) {e:End} (m:Mt js (dS (ps.getLastD z0)) e) (hb:e≠cZ (ps.headD z0)):e.1∉ps.map (·.2):=by
 intro hm;obtain⟨q,hq,hn⟩:=Yc.mp hm;obtain⟨i,hi⟩:=Ym hq;have hl:=jN W.ne;have li:=(Wb.mp hi).1;rcases Og (m.end J).2 hn.symm with z|z
 ·cases i with
  | zero =>
   rw[gE W.ne]at hi;cases hi;exact hb z
  | succ k =>
   have hk:ps[k]?=some ps[k]:=Za (by lia)
   have m2:Mt js (dS ps[k]) (cZ q):=W.ij _ (Gc hk hi);rw[← z]at m2;have e1:=Mt.uni J m2.sym m.sym;have:=Ge W.nd hk hl (congrArg Prod.fst e1);lia
 ·by_cases c:i=ps.length-1
  ·rw[c,hl]at hi;cases hi;rw[z]at m;exact m.irr J
  ·obtain⟨r,hk⟩:∃r,ps[i+1]?=some r:=⟨_,Za (by lia)⟩
   have m2:Mt js (dS q) (cZ r):=W.ij _ (Gc hi hk);rw[z]at m;have e1:=Mt.uni J m2 m.sym;have:=Ge W.nd hk hl (congrArg Prod.fst e1);rw[this,hl]at hk;have h2:=Option.some.inj hk;rw[← h2]at e1;exact Of _ e1
theorem Wk.step (J:Js js xs) (cl:∀e f,Mt js e f->S f.1->S e.1) (W:Wk js xs S ps) {e:End} (m:Mt js (dS (ps.getLastD z0)) e) (hb:e≠cZ (ps.headD z0)):Wk js xs S (ps++[eO e])/\cZ (eO e)=e:=by
 have nn:=Gf J W m hb;have le:=sN (m.end J).2;have lm:ps.getLastD z0∈ps:=Wa (jN W.ne);refine⟨⟨by simp,fun j hj=>?_,?_,fun p hp=>?_,fun p hp=>?_⟩,le⟩
 ·rw[lW ps _ [] W.ne]at hj;rcases Zd.mp hj with hj|hj
  ·exact W.ij j hj
  ·have:j=Jn (ps.getLastD z0) (eO e):=by
    rcases Xd.mp hj with z|z
    ·exact z
    ·cases z
   rw[this];unfold Jn;rw[le];exact m
 ·rw[Yd,Zi]
  exact⟨W.nd,by simp,fun a ha b hb z=>by
   have:b=e.1:=Vb.mp hb;subst this;subst z
   exact nn ha⟩
 ·rcases Zd.mp hp with hp|hp
  ·exact W.xs p hp
  ·rw[Vb.mp hp];exact(m.end J).1
 ·rcases Zd.mp hp with hp|hp
  ·exact W.ns p hp
  ·rw[Vb.mp hp];exact fun z=>W.ns _ lm (cl _ _ m z)
theorem Wk.len (W:Wk js xs S ps):ps.length<=xs.length:=by
 have:=lD (ps.map (·.2)) xs W.nd fun x hx=>by
  obtain⟨p,hp,rfl⟩:=Yc.mp hx;exact W.xs p hp
 rwa [Ya]at this
end
def iO (ss:List aG):List Str:=(ss.flatMap (·.2)).map (·.2)
section
variable {js:List gm} {xs:List Str} {ss:List aG}
theorem Ie {bs:List Bd} {e:End}:e∈hZ bs↔e.1∈bs.map (·.2)/\(e.2=0∨e.2=1):=(lf bs).mem_iff.trans uW
theorem qO (ne:∀s∈ss,s.2≠[]) {e:End}:e∈(ss.flatMap sj).flatten↔e.1∈iO ss/\(e.2=0∨e.2=1):=(mN ne).mem_iff.trans Ie
theorem sO (J:Js js xs) (ne:∀s∈ss,s.2≠[]) (sub:∀j∈ss.flatMap sj,j∈js):∀e f,Mt js e f->f.1∈iO ss->e.1∈iO ss:=by
 intro e f m hf;have h1:=(qO ne).mpr ⟨hf,(m.end J).2⟩;obtain⟨j,hj,hfj⟩:=Zj.mp h1;have:=ib J.nd (sub j hj) m hfj (Gb e f);have h2:e∈(ss.flatMap sj).flatten:=Zj.mpr ⟨j,hj,by rw[this];exact Ga e f⟩
 exact((qO ne).mp h2).1
theorem qP (J:Js js xs) (ne:∀s∈ss,s.2≠[]) (sub:∀j∈ss.flatMap sj,j∈js) (pm:(iO ss).Perm xs):(ss.flatMap sj).Perm js:=by
 have pf:((ss.flatMap sj).flatten).Perm js.flatten:=((mN ne).trans ((lf _).trans ((pm.map zero).append (pm.map one)))).trans J.pf.symm;have nd:=pf.nodup_iff.mpr J.nd;have e1:∀j∈ss.flatMap sj,j≠[]:=fun j hj=>by
  obtain⟨s,_,h⟩:=List.mem_flatMap.mp hj;exact N5 h
 have e2:∀j∈js,j≠[]:=fun j hj z=>by
  have:=J.ln j hj;rw[z]at this;simp at this
 refine(Dd (pF nd e1) (pF J.nd e2)).mpr fun j=>⟨sub j,fun hj=>?_⟩;cases e:j with
 | nil=>exact absurd e (e2 j hj)
 | cons a t =>
  have ha:a∈j:=by rw[e];exact Qa
  obtain⟨j',hj',ha'⟩:=Zj.mp (pf.mem_iff.mpr (Zj.mpr ⟨j,hj,ha⟩));rw[← e,ib J.nd hj (sub j' hj') ha ha'];exact hj'
end
end K59
namespace K59
open PySem L2 VF VL VF22
def kE (e:End):bA:=.inl [.inr e.1,.inl e.2]
theorem Gg {a b:End} (h:kE a=kE b):a=b:=by
 obtain⟨n,i⟩:=a;obtain⟨m,j⟩:=b;unfold kE at h;dsimp only at h;injection h with h;injection h with h1 h2;injection h2 with h3 _;injection h1 with h1;injection h3 with h3;rw[h1,h3]
section
variable {κ:Type} [DecidableEq κ]
theorem pG {kvs:List (κ×D)} {k:κ} {d:D} (h:k∉kvs.map (·.1)):ck (kvs++[(k,d)]) k=some d:=by
 unfold ck;rw[List.find?_append];have:kvs.find? (fun kv=>decide (kv.1=k))=none:=List.find?_eq_none.mpr fun x hx z=>h (Yc.mpr ⟨x,hx,Al z⟩);rw[this];rw[Option.none_or,Wm,Af rfl];rfl
theorem dm {kvs:List (κ×D)} {k k':κ} {d d':D} (h:ck kvs k=some d):ck (kvs++[(k',d')]) k=some d:=by
 unfold ck at h ⊢;obtain⟨x,h1,h2⟩:=Vc.mp h;rw[List.find?_append,h1];show some x.2=_;rw[h2]
theorem Ig {kvs:List (κ×D)} {k:κ}:(ck kvs k).isSome=decide (k∈kvs.map (·.1)):=by
 unfold ck;rw[BN];by_cases c:k∈kvs.map (·.1)
 ·rw[Af c];obtain⟨x,hx,e⟩:=Yc.mp c;exact List.find?_isSome.mpr ⟨x,hx,Af e⟩
 ·rw[Ad c];have:kvs.find? (fun kv=>decide (kv.1=k))=none:=List.find?_eq_none.mpr fun x hx z=>c (Yc.mpr ⟨x,hx,Al z⟩);rw[this];rfl
theorem sP {kvs:List (κ×D)} {k:κ} {d:D} (h:k∉kvs.map (·.1)):iT kvs k d=kvs++[(k,d)]:=by
 unfold iT;rw[Ai];intro z;obtain⟨x,hx,e⟩:=List.any_eq_true.mp z;exact h (Yc.mpr ⟨x,hx,Al e⟩)
theorem Gh {kvs:List (κ×D)} {k:κ} {d:D}:∀x,x∈(iT kvs k d).map (·.1)↔x=k∨x∈kvs.map (·.1):=fun x=>by
 unfold iT;by_cases c:(kvs.any fun kv=>decide (kv.1=k))=true
 ·rw[Ae c,Xf];have e:(kvs.map ((fun x:κ×D=>x.1) ∘ fun kv=>if kv.1=k then(kv.1,d) else kv))=kvs.map (·.1):=Xj fun kv _=>by
   show(if kv.1=k then(kv.1,d) else kv).1=kv.1;split<;>rfl
  rw[e];refine⟨.inr,fun h=>h.elim (fun z=>?_) id⟩;obtain⟨y,hy,e⟩:=List.any_eq_true.mp c;rw[z];exact Yc.mpr ⟨y,hy,Al e⟩
 ·rw[Ai c,Yd,Zd];show x∈_∨x∈[k]↔_;rw[Vb];exact Or.comm
theorem Ih {kvs:List (κ×D)} {k:κ} {d:D}:(iT kvs k d).length<=kvs.length+1:=by
 unfold iT;split
 ·rw[Ya];lia
 ·rw[Qb];exact Xa _
end
theorem zu {κ:Type} [DecidableEq κ] {kvs:List (κ×D)} {k:κ} {d d':D} (h:k∉kvs.map (·.1)):iT (kvs++[(k,d)]) k d'=kvs++[(k,d')]:=by
 have c:((kvs++[(k,d)]).any fun kv=>decide (kv.1=k))=true:=by rw[List.any_append];simp
 unfold iT;rw[Ae c,Yd];congr 1
 ·refine(Xj fun kv hk=>?_).trans (C2 kvs);exact Ai fun z=>h (Yc.mpr ⟨kv,hk,z⟩)
 ·show [if k=k then(k,d') else(k,d)]=_;rw[Ae rfl]
structure Sd (js:List gm) (kvs:List (bA×D)):Prop where
 ks:kvs.map (·.1)=js.flatten.map kE
 a1:∀a,[a]∈js->ck kvs (kE a)=some .non
 a2:∀a b,[a,b]∈js->ck kvs (kE a)=some (eD b)/\ck kvs (kE b)=some (eD a)
section
variable {js:List gm} {xs:List Str} {kvs:List (bA×D)} {S:Str->Prop}
theorem sQ {e:End} {d:D} (h:ck kvs (kE e)=some d):lJ (.dt kvs) (eD e)=some (d,false):=by
 show((some (ck kvs (kE e))).bind fun o=>o.bind fun d=>some (d,false))=_;rw[h];rfl
theorem Sd.two (J:Js js xs) (T:Sd js kvs) {e:End} (h:e∈js.flatten):([e]∈js/\ck kvs (kE e)=some .non)∨∃f,Mt js e f/\ck kvs (kE e)=some (eD f):=by
 obtain⟨j,hj,he⟩:=Zj.mp h;rcases Oe (J.ln j hj) with⟨a,rfl⟩|⟨a,b,rfl⟩
 ·rw[Vb.mp he];exact .inl ⟨hj,T.a1 a hj⟩
 ·obtain⟨h1,h2⟩:=T.a2 a b hj;have m:Mt js a b:=by unfold Mt;rw[J.so _ hj];exact hj
  rcases Xd.mp he with z|z
  ·rw[z];exact .inr ⟨b,m,h1⟩
  ·rw[Vb.mp z];exact .inr ⟨a,m.sym,h2⟩
theorem Ij {e:End} {d:D} (h:kvs.length<100000):qF (.dt kvs) (eD e) d=some (.dt (iT kvs (kE e) d)):=by
 show(if kvs.length<100000 then some (D.dt (iT kvs (kE e) d)) else none)=_;rw[Ae h]
abbrev bS (js:List gm) (k:List (bA×D)) (s2:Sl):En:=[.v (.tup (js.map jD)),.o (.dt k),s2]
theorem zv (h12:Pr js) (nd:js.flatten.Nodup) (hl:js.flatten.length<1000):∃kvs,gO [.tup (js.map jD)]=some (.dt kvs,true)/\Sd js kvs:=by
 obtain⟨sf,el,k,t2,rfl,T,i2⟩:=dP (fg:=gN 2) (B:=iR) jD js (fun g st=>∃k s2,st=(bS js k s2)/\Sd g k/\s2.isIo=false)
  (by
   rintro g j r st ha ⟨k,s2,rfl,T,i2⟩;have e1:js.flatten=(g.flatten++j)++r.flatten:=by rw[ha,A9,AV];simp
   rw[e1,Zi]at nd;rw[e1,Qb,Qb]at hl;have nd:=nd.1;have kl:k.length=g.flatten.length:=by
    have:=congrArg List.length T.ks;rwa [Ya,Ya]at this
   have hk:∀e,e∉g.flatten->kE e∉k.map (·.1):=fun e he z=>by
    rw[T.ks]at z;obtain⟨f,hf,e'⟩:=Yc.mp z;exact he (Gg e' ▸ hf)
   rw[Zi]at nd;rcases Oe (h12 j (by rw[ha];simp)) with⟨a,rfl⟩|⟨a,b,rfl⟩
   ·have na:=hk a fun z=>nd.2.2 a z a (by simp) rfl
    have v:∀(o:D) (f:FE),s9 (aI (aH jd (dW fX (ag (aM 2) aq)) (fC (.int 2)))) f (fC .non) [.v (.tup (js.map jD)),.o o,.v (jD [a])]=some (.d .non,[.v (.tup (js.map jD)),.o o,.v (jD [a])]):=fun o f=>qB (xZ (i:=1) (bW rfl rfl (Ma [a])) rfl (by decide)) rfl
    have il:bE (jD [a]) (.int (-1))=some (eD a,false):=VF.ix_tup (oi (xs:=[a]) rfl);refine⟨(bS js k (.v (jD [a]))),(bS js (k++[(kE a,.non)]) (.v (jD [a]))),cX (t:=s2) rfl i2,?_,k++[(kE a,.non)],.v (jD [a]),rfl,⟨?_,fun c hc=>?_,fun c d hc=>?_⟩,rfl⟩
    ·refine ay (s:=(bS js (k++[(kE a,.non)]) (.v (jD [a])))) (jv (v _ _) rfl rfl rfl (aB rfl rfl rfl rfl (L9 a [])) rfl rfl rfl (by rw[Ij (by lia),sP na])) ?_
     exact jv (v _ _) rfl rfl rfl (aB rfl (xO rfl rfl rfl) rfl rfl il) rfl rfl rfl (by rw[Ij (by rw[Qb,Qj];lia),zu na])
    ·rw[Yd,T.ks,A9,Yd];rfl
    ·rcases Zd.mp hc with z|z
     ·exact dm (T.a1 c z)
     ·cases Vb.mp z;exact pG na
    ·rcases Zd.mp hc with z|z
     ·exact⟨dm (T.a2 c d z).1,dm (T.a2 c d z).2⟩
     ·cases Vb.mp z
   ·have na:=hk a fun z=>nd.2.2 a z a (by simp) rfl
    have nb:=hk b fun z=>nd.2.2 b z b (by simp) rfl
    have ab:a≠b:=fun z=>by
     have:=nd.2.1;rw[z]at this;simp at this
    have nb2:kE b∉(k++[(kE a,eD b)]).map (·.1):=by
     rw[Yd];intro z;rcases Zd.mp z with z|z
     ·exact nb z
     ·exact ab (Gg (Vb.mp z).symm)
    have il:bE (jD [a,b]) (.int (-1))=some (eD b,false):=VF.ix_tup (oi (xs:=[a,b]) rfl);have v1:∀o:D,s9 (aI (aH jd (dW fX (ag (aM 2) aq)) (fC (.int 2)))) (aH bE (aM 2) (fC (.int 1))) (fC .non) [.v (.tup (js.map jD)),.o o,.v (jD [a,b])]=some (.d (eD b),[.v (.tup (js.map jD)),.o o,.v (jD [a,b])]):=fun o=>oN (uU (i:=2) (bW rfl rfl (Ma [a,b])) rfl) (aB rfl rfl rfl rfl (O7 a b []));have v2:∀o:D,s9 (aI (aH jd (dW fX (ag (aM 2) aq)) (fC (.int 2)))) (aH bE (aM 2) (fC (.int 0))) (fC .non) [.v (.tup (js.map jD)),.o o,.v (jD [a,b])]=some (.d (eD a),[.v (.tup (js.map jD)),.o o,.v (jD [a,b])]):=fun o=>oN (uU (i:=2) (bW rfl rfl (Ma [a,b])) rfl) (aB rfl rfl rfl rfl (L9 a [b]));refine⟨(bS js k (.v (jD [a,b]))),(bS js ((k++[(kE a,eD b)])++[(kE b,eD a)]) (.v (jD [a,b]))),cX (t:=s2) rfl i2,?_,(k++[(kE a,eD b)])++[(kE b,eD a)],.v (jD [a,b]),rfl,⟨?_,fun c hc=>?_,fun c d hc=>?_⟩,rfl⟩
    ·refine ay (s:=(bS js (k++[(kE a,eD b)]) (.v (jD [a,b])))) (jv (v1 _) rfl rfl rfl (aB rfl rfl rfl rfl (L9 a [b])) rfl rfl rfl (by rw[Ij (by lia),sP na])) ?_
     exact jv (v2 _) rfl rfl rfl (aB rfl (xO rfl rfl rfl) rfl rfl il) rfl rfl rfl (by rw[Ij (by rw[Qb,Qj];lia),sP nb2])
    ·rw[Yd,Yd,T.ks,A9,Yd,Xe];rfl
    ·rcases Zd.mp hc with z|z
     ·exact dm (dm (T.a1 c z))
     ·cases Vb.mp z
    ·rcases Zd.mp hc with z|z
     ·exact⟨dm (dm (T.a2 c d z).1),dm (dm (T.a2 c d z).2)⟩
     ·cases Vb.mp z
      exact⟨dm (pG na),pG nb2⟩)
  js [] (bS js [] .e) rfl ⟨[],.e,rfl,⟨rfl,(fun a hj=>by cases hj),fun a b hj=>by cases hj⟩,rfl⟩
 exact⟨k,bw (o:=.rt (.s 1) (bS js k t2)) rfl (ay rfl (ay (je (oP rfl rfl) el) rfl)) rfl,T⟩
theorem Oh (p:Bd):dS p=((cZ p).1,1-(cZ p).2):=by obtain⟨t,n⟩:=p;cases t<;>rfl
theorem x9 {p:Bd} (h:Nm p.2):jK [eD (cZ p)]=some (bm p,false):=by
 obtain⟨t,n⟩:=p;have i0:bE (eD (cZ (t,n))) (.int 0)=some (bm (false,n),false):=fO (i:=0) rfl;have i1:bE (eD (cZ (t,n))) (.int 1)=some (.int (if t then 1 else 0),false):=fO (i:=1) rfl;refine bw (o:=.rt (.d (bm (t,n))) [.v (eD (cZ (t,n)))]) rfl (br ?_) rfl;cases t with
 | false=>exact oN (uU (i:=0) (aB rfl rfl rfl rfl i1) rfl) (aB rfl rfl rfl rfl i0)
 | true=>exact qB (xZ (i:=1) (aB rfl rfl rfl rfl i1) rfl (by decide)) (bQ (aE (aB rfl rfl rfl rfl i0) rfl) rfl (FN (t:=false) h) rfl)
theorem qQ (p:Bd):lQ [eD (cZ p)]=some (eD (dS p),false):=by
 have i0:bE (eD (cZ p)) (.int 0)=some (.str (cZ p).1,false):=fO (i:=0) rfl;have i1:bE (eD (cZ p)) (.int 1)=some (.int (cZ p).2,false):=fO (i:=1) rfl;rw[Oh];exact bw (o:=.rt (.d (eD ((cZ p).1,1-(cZ p).2))) [.v (eD (cZ p))]) rfl (br (dG (aE (aB rfl rfl rfl rfl i0) (aE (aB rfl (aB rfl rfl rfl rfl i1) rfl rfl rfl) rfl)) rfl (by simp))) rfl
theorem Gi {ps:List Bd} {q:Bd} (h:ps≠[]):(ps++[q]).headD z0=ps.headD z0:=by
 cases ps with
 | nil=>exact absurd rfl h
 | cons _ _=>rfl
open Classical in
noncomputable def Ik (M:End->End->Prop) (b:End):Nat->List Bd->List Bd
 | 0,ps=>ps
 | n+1,ps=>if h:∃f,M (dS (ps.getLastD z0)) f/\f≠b then Ik M b n (ps++[eO h.choose]) else ps
structure Fd (js:List gm) (xs:List Str) (S:Str->Prop) (b:End) (ps:List Bd):Prop where
 wk:Wk js xs S ps
 hd:cZ (ps.headD z0)=b
 la:[dS (ps.getLastD z0)]∈js∨Mt js (dS (ps.getLastD z0)) b
abbrev wS (b:End) (kvs:List (bA×D)) (ps:List Bd) (d:D):En:=[.v (eD b),.v (.dt kvs),.o (.lst (ps.map bm)),.v d]
theorem Il (J:Js js xs) (T:Sd js kvs) (cl:∀e f,Mt js e f->S f.1->S e.1) (nm:∀x∈xs,Nm x) (hx:xs.length<=60) {b:End} (hb:b∈js.flatten) (hs:¬ S b.1):fK [eD b,.dt kvs]=some (.tup ((Ik (Mt js) b 69 [eO b]).map bm),false)/\Fd js xs S b (Ik (Mt js) b 69 [eO b]):=by
 have b2:=J.en.mp hb;have w0:Wk js xs S [eO b]:=⟨by simp,(fun j hj=>by cases hj),by simp,fun p hp=>by rw[Vb.mp hp];exact b2.1,fun p hp=>by rw[Vb.mp hp];exact hs⟩
 have nx:∀ps,Wk js xs S ps->∃d,ck kvs (kE (dS (ps.getLastD z0)))=some d/\(([dS (ps.getLastD z0)]∈js/\d=.non)∨∃f,Mt js (dS (ps.getLastD z0)) f/\d=eD f):=fun ps W=>by
  rcases Sd.two J T (J.en.mpr ⟨W.xs _ (Wa (jN W.ne)),Mb _⟩) with⟨h1,h2⟩|⟨g,h1,h2⟩
  ·exact⟨_,h2,.inl ⟨h1,rfl⟩⟩
  ·exact⟨_,h2,.inr ⟨g,h1,rfl⟩⟩
 obtain⟨d0,g0,h0⟩:=nx _ w0;have g0:ck kvs (kE (dS (eO b)))=some d0:=g0
 let I:Nat->En->Prop:=fun m st=>∃ps d,st=(wS b kvs ps d)/\Wk js xs S ps/\cZ (ps.headD z0)=b/\(([dS (ps.getLastD z0)]∈js/\d=.non)∨∃f,Mt js (dS (ps.getLastD z0)) f/\d=eD f)/\Ik (Mt js) b m ps=Ik (Mt js) b 69 [eO b]/\m=70-ps.length
 obtain⟨sf,ew,ps,d,rfl,fd,fe⟩:=vN (f:=iP (aI (aH (nA true) (aM 3) (fC .non))) (aI (aH jf (aM 3) (aM 0)))) (B:=jl) I
  (fun st=>∃ps d,st=(wS b kvs ps d)/\Fd js xs S b ps/\ps=Ik (Mt js) b 69 [eO b]) (by
   rintro m st ⟨ps,d,rfl,W,hd,h,hw,rfl⟩;have wl:=W.len;have e70:70-ps.length=(69-ps.length)+1:=by lia
   rw[e70,Ik]at hw;rcases h with⟨h,rfl⟩|⟨f,m,rfl⟩
   ·rw[dif_neg fun z=>(Cs z).1.sym.free J h]at hw;exact .inl ⟨_,wW (aX (aB rfl rfl rfl rfl rfl) rfl),ps,.non,rfl,⟨W,hd,.inl h⟩,hw⟩
   ·have t1:aI (aH (nA true) (aM 3) (fC .non)) (wS b kvs ps (eD f))=some (true,(wS b kvs ps (eD f))):=aX (aB rfl rfl rfl rfl rfl) rfl;have t2:aI (aH jf (aM 3) (aM 0)) (wS b kvs ps (eD f))=some (!decide (f=b),(wS b kvs ps (eD f))):=aX (aB rfl rfl rfl rfl Pz) rfl;by_cases q:f=b
    ·rw[dif_neg fun z=>(Cs z).2 ((Mt.uni J (Cs z).1 m).trans q)]at hw;exact .inl ⟨_,qw t1 (hV t2 (by rw[Af q];rfl)),ps,eD f,rfl,⟨W,hd,.inr (q ▸ m)⟩,hw⟩
    ·right;have hz:∃g,Mt js (dS (ps.getLastD z0)) g/\g≠b:=⟨f,m,q⟩;rw[dif_pos hz,Mt.uni J hz.choose_spec.1 m]at hw;obtain⟨W2,le⟩:=W.step J cl (e:=f) m (by rw[hd];exact q)
     have l2:=W2.len;rw[Qb,Qj]at l2;have np:Nm (eO f).2:=nm _ (W2.xs _ (by simp))
     have be:=x9 np;have ac:=qQ (eO f);rw[le]at be ac;have la:(ps++[eO f]).getLastD z0=eO f:=jw ps _ z0;obtain⟨d,h1,h2⟩:=nx _ W2;have h1:ck kvs (kE (dS (eO f)))=some d:=by rw[← h1,la]
     refine⟨_,(wS b kvs (ps++[eO f]) d),69-ps.length,qw t1 (hV t2 (by rw[Ad q];rfl)),?_,by lia,ps++[eO f],d,rfl,W2,by rw[Gi W.ne];exact hd,h2,hw,by rw[Qb,Qj];lia⟩
     refine ay (s:=(wS b kvs (ps++[eO f]) (eD f))) (fF (ul rfl rfl rfl (aE (bO rfl rfl be) rfl) rfl rfl rfl (pC (by rw[Ya];lia)) (by unfold wS;rw[Yd];rfl))) ?_
     exact eY (aB rfl (bO rfl rfl ac) rfl rfl (sQ h1)) rfl)
  100 69 (wS b kvs [eO b] d0) (by lia) ⟨[eO b],d0,rfl,w0,sN b2.2,h0,rfl,rfl⟩
 rw[← fe];refine⟨?_,fd⟩;have be:=x9 (p:=eO b) (nm _ b2.1);have ac:=qQ (eO b);rw[sN b2.2]at be ac;refine bw (o:=.rt (.d (.tup (ps.map bm))) (wS b kvs ps d)) rfl ?_ rfl;refine ay (s:=[.v (eD b),.v (.dt kvs),.o (.lst [bm (eO b)]),.e]) (iQ (sJ (aE (bO rfl rfl be) rfl) rfl (by simp)) rfl) ?_
 refine ay (s:=(wS b kvs [eO b] d0)) (eY (aB rfl (bO rfl rfl ac) rfl rfl (sQ g0)) rfl) ?_;exact ay ew (br (bW rfl rfl rfl))
end
end K59
namespace K59
open PySem L2 VF VL VF22
section
variable {js:List gm} {xs:List Str} {kvs:List (bA×D)}
theorem zw (T:Sd js kvs) (hl:js.flatten.length<64):kN [.dt kvs]=some (.lst ((cz js.flatten).map eD),true):=by
 have ek:(kvs.map fun kv=>g7 kv.1)=js.flatten.map eD:=by
  have:(kvs.map fun kv=>g7 kv.1)=(kvs.map (·.1)).map fun k=>g7 k:=by rw[Xf];rfl
  rw[this,T.ks,Xf];rfl
 have:=zt (d:=.lst (js.flatten.map eD)) js.flatten rfl;unfold eK at this;obtain⟨c,e⟩:=aL this;unfold kN;dsimp only[sn];rw[ek,Ae ⟨c.1,c.2.1,c.2.2,by rw[Ya];exact hl⟩]
 exact e
noncomputable def sR (js:List gm) (e:End):Bool:=decide ([e]∈js)
noncomputable def fr (js:List gm):List End:=(cz js.flatten).filter (sR js)
theorem fr_mem {f:End}:f∈fr js↔[f]∈js:=by
 unfold fr;rw[List.mem_filter,(bK js.flatten).2.mem_iff];exact⟨fun h=>Al h.2,fun h=>⟨Zj.mpr ⟨[f],h,by simp⟩,Af h⟩⟩
theorem yb (J:Js js xs) (T:Sd js kvs) {e:End} (h:e∈js.flatten) {i:Nat} {f:FE} {st:En} {r:Rs} (h1:aM i st=some (r,st)) (h2:cont st r=some (.dt kvs)) (h3:f st=some (.d (eD e),st)):aI (aH (nA false) (aH lJ (aM i) f) (fC .non)) st=some (sR js e,st):=by
 rcases Sd.two J T h with⟨h4,h5⟩|⟨g,h4,h5⟩
 ·rw[show sR js e=true from Af h4];exact aX (aB (aB h1 h3 h2 rfl (sQ h5)) rfl rfl rfl rfl) rfl
 ·rw[show sR js e=false from Ad fun z=>h4.sym.free J z];exact aX (aB (aB h1 h3 h2 rfl (sQ h5)) rfl rfl rfl rfl) rfl
theorem zx (J:Js js xs) (T:Sd js kvs):cN (gN 0) kO kP 1 ((cz js.flatten).map eD) [.e,.o (.dt kvs)]=some ((fr js).map eD,[.e,.o (.dt kvs)]) :=
 kH (fg:=gN 0) (fc:=kO) (fe:=kP) (k:=1) eD eD (sR js) [.e,.o (.dt kvs)] (cz js.flatten) fun e he=>⟨[.v (eD e),.o (.dt kvs)],[.v (eD e),.o (.dt kvs)],rfl,yb J T ((bK js.flatten).2.mem_iff.mp he) rfl rfl rfl,fun _=>rfl,fun _=>⟨.d (eD e),[.v (eD e),.o (.dt kvs)],[.v (eD e),.o (.dt kvs)],rfl,rfl,rfl⟩⟩
structure So (js:List gm) (xs:List Str) (ss:List aG):Prop where
 ne:∀s∈ss,s.2≠[]
 sub:∀j∈ss.flatMap sj,j∈js
 nd:(iO ss).Nodup
 xs:∀n∈iO ss,n∈xs
theorem jO (ss:List aG) (s:aG):iO (ss++[s])=iO ss++s.2.map (·.2):=by
 unfold iO;rw[Vh,Bl,Yd]
theorem So.step {ss:List aG} (J:Js js xs) (o:So js xs ss) {e:End} {ps:List Bd} (fd:Fd js xs (·∈iO ss) e ps) (he:[e]∈js∨∀f,[f]∈js->f.1∈iO ss):So js xs (ss++[(!sR js e,ps)]):=by
 have lm:ps.getLastD z0∈ps:=Wa (jN fd.wk.ne);refine⟨fun t ht=>?_,fun j hj=>?_,?_,fun n hn=>?_⟩
 ·rcases Zd.mp ht with z|z
  ·exact o.ne t z
  ·rw[Vb.mp z];exact fd.wk.ne
 ·rw[Vh,Bl]at hj;rcases Zd.mp hj with z|z
  ·exact o.sub j z
  ·rcases Zd.mp z with z|z
   ·exact fd.wk.ij j z
   ·by_cases c:[e]∈js
    ·rw[show sR js e=true from Af c]at z;have:j=[cZ (ps.headD z0)]∨j=[dS (ps.getLastD z0)]:=by
      rcases Xd.mp z with z|z
      ·exact .inl z
      ·exact .inr (Vb.mp z)
     rcases this with rfl|rfl
     ·rw[fd.hd];exact c
     ·exact fd.la.elim id fun m=>(m.free J c).elim
    ·rw[show sR js e=false from Ad c]at z;have:j=cz [cZ (ps.headD z0),dS (ps.getLastD z0)]:=Vb.mp z;rw[this,fd.hd];refine fd.la.elim (fun l=>?_) fun m=>m.sym;exact absurd ((he.resolve_left c) _ l) (fd.wk.ns _ lm)
 ·rw[jO,Zi]
  exact⟨o.nd,fd.wk.nd,fun a ha b hb z=>by
   obtain⟨p,hp,rfl⟩:=Yc.mp hb
   exact fd.wk.ns p hp (z ▸ ha)⟩
 ·rw[jO]at hn;rcases Zd.mp hn with z|z
  ·exact o.xs n z
  ·obtain⟨p,hp,rfl⟩:=Yc.mp z;exact fd.wk.xs p hp
theorem Gj {α:Type}:∀{a b g r:List α} {e:α},a++b=g++e::r->e∈a∨∀x∈a,x∈g
 | [],_,_,_,_,_=>.inr fun x hx=>by cases hx
 | x::a,b,[],r,e,h=>by
  injection h with h1 _
  exact .inl (by rw[h1];exact Qa)
 | x::a,b,y::g,r,e,h=>by
  injection h with h1 h2
  rcases Gj h2 with z|z
  ·exact .inl (Va _ z)
  ·right;intro w hw;rcases Xd.mp hw with q|q
   ·rw[q,h1];exact Qa
   ·exact Va _ (z w q)
structure Sn (sk:List (Key×D)) (ns:List Str):Prop where
 ks:∀n:Str,(.inr n:Key)∈sk.map (·.1)↔n∈ns
 ln:sk.length<=ns.length
theorem Im {a0 a1 a2 a3 a5 a6 s7:Sl} {ps:List Bd} (hp:∀p∈ps,Nm p.2) (hl:ps.length<=100) {ns:List Str} (hn:ns.length<=100) {sk:List (Key×D)} (hk:Sn sk ns) (i7:s7.isIo=false) :
  ∃sk' t7,iZ (gN 7) kQ (ps.map bm) [a0,a1,a2,a3,.o (.dk sk),a5,a6,s7]=some (.nx [a0,a1,a2,a3,.o (.dk sk'),a5,a6,t7])/\Sn sk' (ns++ps.map (·.2))/\t7.isIo=false:=by
 obtain⟨sf,el,sk',t7,rfl,h1,i7'⟩:=dP (fg:=gN 7) (B:=kQ) bm ps (fun g st=>∃sk s7,st=[a0,a1,a2,a3,.o (.dk sk),a5,a6,s7]/\Sn sk (ns++g.map (·.2))/\s7.isIo=false)
  (by
   rintro g p r st ha ⟨sk,s7,rfl,h1,i7⟩;have np:=hp p (by rw[ha];simp)
   have gl:=congrArg List.length ha;rw[Qb,Vd]at gl;have kl:=h1.ln;rw[Qb,Ya]at kl;have st':qF (.dk sk) (.str p.2) (.bl true)=some (.dk (iT sk (.inr p.2) (.bl true))):=by
    show(if sk.length<100000 then some (D.dk (iT sk (.inr p.2) (.bl true))) else none)=_;rw[Ae (by lia)]
   refine⟨[a0,a1,a2,a3,.o (.dk sk),a5,a6,.v (bm p)],[a0,a1,a2,a3,.o (.dk (iT sk (.inr p.2) (.bl true))),a5,a6,.v (bm p)],cX (t:=s7) rfl i7,?_,iT sk (.inr p.2) (.bl true),.v (bm p),rfl,⟨fun n=>?_,?_⟩,rfl⟩
   ·exact jv rfl rfl rfl rfl (bQ rfl rfl (fS (t:=p.1) np) rfl) rfl rfl rfl st'
   ·rw[Gh,h1.ks n,Yd,← Xe,Zd (s:=ns++g.map (·.2))];show(Sum.inr n:Key)=.inr p.2∨_↔_∨n∈[p.2];rw[Vb];exact⟨fun h=>h.elim (fun z=>.inr (Sum.inr.inj z)) .inl,fun h=>h.elim .inr fun z=>.inl (by rw[z])⟩
   ·have:=Ih (kvs:=sk) (k:=(.inr p.2:Key)) (d:=.bl true);rw[Yd,Qb,Qb,Ya];show _<=ns.length+(g.length+1)
    lia)
  ps [] [a0,a1,a2,a3,.o (.dk sk),a5,a6,s7] rfl ⟨sk,s7,rfl,by rw[DB,Qe];exact hk,i7⟩
 exact⟨sk',t7,el,h1,i7'⟩
noncomputable def yc (M:End->End->Prop) (F:End->Bool) (ss:List aG) (e:End):List aG:=if e.1∈iO ss then ss else ss++[(!F e,Ik M e 69 [eO e])]
noncomputable def SS (js:List gm):List aG:=(fr js++cz js.flatten).foldl (yc (Mt js) (sR js)) []
abbrev oS (a0 x1 a2:Sl) (ss:List aG) (sk:List (Key×D)) (x5 x6 x7:Sl):En:=[a0,x1,a2,.o (.lst (ss.map cY)),.o (.dk sk),x5,x6,x7]
inductive OI (js:List gm) (xs:List Str) (kvs:List (bA×D)) (a0 a2:Sl) (gone:List End) (st:En):Prop
 | mk (x1 x5 x6 x7:Sl) (ss:List aG) (sk:List (Key×D)) (e:st=oS a0 x1 a2 ss sk x5 x6 x7) (hx:x1=.o (.dt kvs)∨x1=.v (.dt kvs)) (hs:gone.foldl (yc (Mt js) (sR js)) []=ss) (o:So js xs ss) (hk:Sn sk (iO ss)) (hg:∀e∈gone,e.1∈iO ss) (j5:x5.isIo=false) (j6:x6.isIo=false) (j7:x7.isIo=false)
theorem ma (J:Js js xs) (nm:∀x∈xs,Nm x) (hx:xs.length<=30):pq [.tup (js.map jD)]=some (.tup ((cn (SS js)).map cY),false)/\So js xs (SS js)/\(iO (SS js)).Perm xs:=by
 have fl:js.flatten.length<=60:=by
  have:=J.pf.length_eq;rw[Qb,Ya,Ya]at this;lia
 obtain⟨kvs,be,T⟩:=zv J.ln J.nd (by lia)
 have sok:=zw T (by lia)
 have frl:(fr js).length<=120:=by
  have:=AO (sR js) (cz js.flatten);rw[lZ]at this;unfold fr;lia
 have ad:di (.lst ((fr js).map eD)) (.lst ((cz js.flatten).map eD))=some (.lst ((fr js++cz js.flatten).map eD),true):=by
  rw[xP (by rw[Ya,Ya,lZ js.flatten];lia),Yd]
 have JS:∃z:Sl,z=.v (.tup (js.map jD)):=⟨_,rfl⟩;obtain⟨a0,ha0⟩:=JS;have FR:∃z:Sl,z=.o (.lst ((fr js).map eD)):=⟨_,rfl⟩;obtain⟨a2,ha2⟩:=FR;obtain⟨sf,el,x1,x5,x6,x7,ss,sk,rfl,hx1,hss,o,hk,hg,j5,j6,j7⟩:=dP (fg:=gN 5) (B:=pp) eD (fr js++cz js.flatten) (OI js xs kvs a0 a2)
  (by
   rintro gone e rest st ha ⟨x1,x5,x6,x7,ss,sk,rfl,hx1,hss,o,hk,hg,j5,j6,j7⟩;have hst:(gone++[e]).foldl (yc (Mt js) (sR js)) []=yc (Mt js) (sR js) ss e:=by rw[List.foldl_append,hss];rfl
   have hne:e∈js.flatten:=by
    have:e∈fr js++cz js.flatten:=by rw[ha];simp
    rcases Zd.mp this with z|z
    ·exact Zj.mpr ⟨[e],fr_mem.mp z,by simp⟩
    ·exact(bK js.flatten).2.mem_iff.mp z
   have ix:bE (eD e) (.int 0)=some (.str e.1,false):=fO (i:=0) rfl;have tst:aI (aH (Lr true) (aH bE (aM 5) (fC (.int 0))) (aM 4)) (oS a0 x1 a2 ss sk (.v (eD e)) x6 x7)=some (!decide (e.1∈iO ss),(oS a0 x1 a2 ss sk (.v (eD e)) x6 x7)):=by
    refine aX (aB (aB rfl rfl rfl rfl ix) rfl rfl rfl (z:=(.bl (!decide (e.1∈iO ss)),false)) ?_) rfl;show some (D.bl (!(ck sk (.inr e.1)).isSome),false)=_;rw[Ig];congr 4;exact decide_eq_decide.mpr (hk.ks e.1)
   by_cases c:e.1∈iO ss
   ·refine⟨_,(oS a0 x1 a2 ss sk (.v (eD e)) x6 x7),cX (t:=x5) rfl j5,g6 (hV tst (by rw[Af c];rfl)) rfl,x1,.v (eD e),x6,x7,ss,sk,rfl,hx1,by rw[hst];exact Ae c,o,hk,fun f hf=>?_,rfl,j6,j7⟩
    rcases Zd.mp hf with z|z
    ·exact hg f z
    ·rw[Vb.mp z];exact c
   ·obtain⟨ew,fd⟩:=Il (S:=(·∈iO ss)) J T (sO J o.ne o.sub) nm (by lia) hne c
    have hst:=hst.trans (Ai c);generalize Ik (Mt js) e 69 [eO e]=ps at ew fd hst
    have o2:=o.step J fd (by
     rcases Gj ha with z|z
     ·exact .inl (fr_mem.mp z)
     ·exact .inr fun f hf=>hg f (z f (fr_mem.mpr hf)))
    have nl:(iO (ss++[(!sR js e,ps)])).length<=60:=by
     have:=lD _ xs o2.nd o2.xs;lia
    rw[jO,Qb,Ya]at nl;have sl:ss.length<=60:=by
     have:=oh ss o.ne;have h2:(iO ss).length=(ss.flatMap (·.2)).length:=Ya _;lia
    have pn:∀p∈ps,Nm p.2:=fun p hp=>nm _ (fd.wk.xs p hp);dsimp only at nl;obtain⟨sk',t7,e7,hk',i7⟩:=Im (a0:=a0) (a1:=.v (.dt kvs)) (a2:=a2) (a3:=.o (.lst ((ss++[(!sR js e,ps)]).map cY))) (a5:=.v (eD e)) (a6:=.v (.tup (ps.map bm))) (s7:=x7) pn (by lia) (ns:=iO ss) (by lia) hk j7
    have bf:bN (ce fK (ag (aM 5) (ag (aM 1) aq))) 6 (oS a0 x1 a2 ss sk (.v (eD e)) x6 x7)=some (.nx (oS a0 (.v (.dt kvs)) a2 ss sk (.v (eD e)) (.v (.tup (ps.map bm))) x7)):=by
     rcases hx1 with rfl|rfl<;>exact eY (bO (aE rfl (aE rfl rfl)) rfl ew) (cX (t:=x6) rfl j6)
    have kd':s9 (aI (aH (nA false) (aH lJ (aM 1) (aM 5)) (fC .non))) (fC (.str "open")) (fC (.str "ring")) (oS a0 (.v (.dt kvs)) a2 ss sk (.v (eD e)) (.v (.tup (ps.map bm))) x7)=some (.d (.str (kd (!sR js e))),(oS a0 (.v (.dt kvs)) a2 ss sk (.v (eD e)) (.v (.tup (ps.map bm))) x7)):=by
     have t:=yb J T hne (i:=1) (f:=aM 5) (st:=(oS a0 (.v (.dt kvs)) a2 ss sk (.v (eD e)) (.v (.tup (ps.map bm))) x7)) rfl rfl rfl;cases q:sR js e with
     | true=>exact oN (hV t q) rfl
     | false=>exact qB (hV t q) rfl
    have ap:gr (fM vI gw 3 (ag (dD (ag (s9 (aI (aH (nA false) (aH lJ (aM 1) (aM 5)) (fC .non))) (fC (.str "open")) (fC (.str "ring"))) (ag (aM 6) aq))) aq)) (oS a0 (.v (.dt kvs)) a2 ss sk (.v (eD e)) (.v (.tup (ps.map bm))) x7)=some (.nx [a0,.v (.dt kvs),a2,.o (.lst ((ss++[(!sR js e,ps)]).map cY)),.o (.dk sk),.v (eD e),.v (.tup (ps.map bm)),x7]) :=
     fF (ul rfl rfl rfl (aE (dG (aE kd' rfl) rfl (by simp)) rfl) rfl rfl rfl (pC (by rw[Ya];lia)) (by rw[Yd];rfl))
    refine⟨_,_,cX (t:=x5) rfl j5,jV (hV tst (by rw[Ad c];rfl)) (ay bf (ay ap (je (oP rfl rfl) e7))),.v (.dt kvs),.v (eD e),.v (.tup (ps.map bm)),t7,ss++[(!sR js e,ps)],sk',rfl,.inr rfl,hst,o2,by rw[jO];exact hk',fun f hf=>?_,rfl,rfl,i7⟩
    rw[jO];rcases Zd.mp hf with z|z
    ·exact Vi _ (hg f z)
    ·refine Wd _ (Yc.mpr ⟨ps.headD z0,Wa (gE fd.wk.ne),?_⟩)
     rw[Vb.mp z,← fd.hd];rfl)
  (fr js++cz js.flatten) [] [a0,.o (.dt kvs),a2,.o (.lst []),.o (.dk []),.e,.e,.e] rfl ⟨.o (.dt kvs),.e,.e,.e,[],[],rfl,.inl rfl,rfl,⟨fun s hs=>(by cases hs),fun j hj=>(by cases hj),B8,fun n hn=>(by cases hn)⟩,⟨fun n=>⟨fun h=>(by cases h),fun h=>(by cases h)⟩,Xa _⟩,fun f hf=>(by cases hf),rfl,rfl,rfl⟩
 have pm:(iO ss).Perm xs:=(Dd o.nd J.nx).mpr fun n=>⟨o.xs n,fun hn=>hg (n,0) (Wd _ ((bK js.flatten).2.mem_iff.mpr (J.en.mpr ⟨hn,.inl rfl⟩)))⟩;rw[show SS js=ss from hss];refine⟨?_,o,pm⟩
 have ca:=F4 o.ne (fun s hs p hp=>nm _ (o.xs _ (Yc.mpr ⟨p,List.mem_flatMap.mpr ⟨s,hs,hp⟩,rfl⟩))) (by
  have h1:=pm.length_eq;have h2:(iO ss).length=(ss.flatMap (·.2)).length:=Ya _
  lia)
 refine bw (o:=.rt (.d (.tup ((cn ss).map cY))) [a0,x1,a2,.v (.lst (ss.map cY)),.o (.dk sk),x5,x6,x7]) rfl ?_ rfl;refine ay (s:=[a0,.o (.dt kvs),.e,.e,.e,.e,.e,.e]) (iQ (bO rfl rfl be) (by rw[ha0];rfl)) ?_
 refine ay (s:=[a0,.o (.dt kvs),a2,.e,.e,.e,.e,.e]) (iQ (dA (oO (bW rfl rfl sok) rfl) (sK (n:=60) (by rw[Ya,lZ];exact fl) (by decide) rfl) (zx J T)) (by rw[ha2];rfl)) ?_
 refine ay (s:=[a0,.o (.dt kvs),a2,.o (.lst []),.e,.e,.e,.e]) rfl (ay (s:=[a0,.o (.dt kvs),a2,.o (.lst []),.o (.dk []),.e,.e,.e]) rfl ?_);have ev:aH di (aM 2) (dW kN (ag (aM 1) aq)) [a0,.o (.dt kvs),a2,.o (.lst []),.o (.dk []),.e,.e,.e]=some (.f (.lst ((fr js++cz js.flatten).map eD)),[a0,.o (.dt kvs),a2,.o (.lst []),.o (.dk []),.e,.e,.e]):=by
  subst ha2;exact aB rfl (bW rfl rfl sok) rfl rfl ad
 exact ay (je (oO ev rfl) el) (br (bO rfl rfl ca))
end
end K59
namespace K59
open PySem L2 VF VL VF22
noncomputable section
def e0:End:=(Str.empty,0)
def MM:Nat->List End->List (List gm)
 | 0,_=>[]
 | _+1,[]=>[[]]
 | n+1,e::r=>(MM n r).map ([e]::·)++(List.range r.length).flatMap fun k=>(MM n (r.eraseIdx k)).map ([e,r.getD k e0]::·)
def aa:Nat->Nat
 | 0=>1
 | 1=>1
 | m+2=>aa (m+1)+(m+1)*aa m
theorem wa {α β:Type} {f:α->List β} {c:Nat}:∀{l:List α},(∀x∈l,(f x).length=c)->(l.flatMap f).length=l.length*c
 | [],_=>by simp
 | x::l,h=>by
  rw[Qg,Qb,h x Qa,wa fun y hy=>h y (Va _ hy),Vd,Nat.succ_mul,BU]
theorem mO:∀(n:Nat) (es:List End),es.length<n->(MM n es).length=aa es.length
 | 0,_,h=>absurd h (C4 _)
 | n+1,[],_=>rfl
 | n+1,e::r,h=>by
  have hr:r.length<n:=by simpa using h
  rw[MM,Qb,Ya,mO n r hr];cases r with
  | nil=>rfl
  | cons f r =>
   have hr':r.length+1<n:=by simpa using hr
   rw[wa (c:=aa r.length) fun k hk=>?_,CK]
   ·rfl
   ·have hk:=Vg.mp hk;have el:((f::r).eraseIdx k).length=r.length:=by rw[Df hk];rfl
    rw[Ya,mO n _ (by rw[el];lia),el]
theorem yd {r:List End} {k:Nat} (hk:k<r.length):r.getD k e0=r[k]:=by rw[Xb,Za hk];rfl
theorem Ip {r:List End} {k:Nat} (hk:k<r.length):(r[k]::r.eraseIdx k).Perm r:=by
 rw[CN];refine List.perm_middle.symm.trans (.of_eq ?_);rw[← Zl hk,Xh]
theorem md:∀(n:Nat) (es:List End),∀js∈MM n es,js.flatten.Perm es/\∀j∈js,(j.length=1∨j.length=2)/\j.Sublist es
 | 0,_,js,h=>(by cases h)
 | n+1,[],js,h=>by
  rw[Vb.mp (show js∈[[]] from h)];exact⟨List.Perm.refl _,fun j hj=>(by cases hj)⟩
 | n+1,e::r,js,h=>by
  rw[MM]at h;rcases Zd.mp h with h|h
  ·obtain⟨ks,hk,rfl⟩:=Yc.mp h;obtain⟨p,q⟩:=md n r ks hk;refine⟨p.cons e,fun j hj=>?_⟩;rcases Xd.mp hj with rfl|hj
   ·exact⟨.inl rfl,List.singleton_sublist.mpr Qa⟩
   ·exact⟨(q j hj).1,(q j hj).2.cons e⟩
  ·obtain⟨k,hk,h⟩:=List.mem_flatMap.mp h;obtain⟨ks,hs,rfl⟩:=Yc.mp h;have hk:=Vg.mp hk;obtain⟨p,q⟩:=md n _ ks hs;have eg:=yd hk;refine⟨?_,fun j hj=>?_⟩
   ·rw[eg];exact(((p.cons r[k]).trans (Ip hk)).cons e)
   rcases Xd.mp hj with rfl|hj
   ·rw[eg];exact⟨.inr rfl,(List.singleton_sublist.mpr (AF hk)).cons₂ e⟩
   ·exact⟨(q j hj).1,((q j hj).2.trans (DJ r k)).cons e⟩
theorem ye {j j':gm} {a b:List gm} {e:End} (he:e∈j) (he':e∈j') (hj:j≠j') (nd:(j'::b).flatten.Nodup):¬ (j::a).Perm (j'::b):=fun p=>hj (ib nd (p.mem_iff.mp Qa) Qa he he')
theorem Gk:∀(n:Nat) (es:List End),es.Nodup->(MM n es).Pairwise fun a b=>¬ a.Perm b
 | 0,_,_=>List.Pairwise.nil
 | n+1,[],_=>Xm _ _
 | n+1,e::r,nd=>by
  have nr:=(Zk.mp nd).2;have hd:∀js∈MM (n+1) (e::r),js.flatten.Nodup:=fun js h=>(md _ _ js h).1.nodup_iff.mpr nd;rw[MM]at hd ⊢;refine Xi.mpr ⟨?_,?_,fun a ha b hb=>?_⟩
  ·rw[Qh];exact(Gk n r nr).imp fun h p=>h ((List.perm_cons _).mp p)
  ·rw[DI];refine⟨fun k hk=>?_,List.pairwise_lt_range.imp_of_mem fun {k l} hk hl lt a ha b hb=>?_⟩
   ·rw[Qh];exact(Gk n _ (nr.sublist (DJ r k))).imp fun h p=>h ((List.perm_cons _).mp p)
   ·have nb:=hd b (Wd _ (List.mem_flatMap.mpr ⟨l,hl,hb⟩));obtain⟨a,_,rfl⟩:=Yc.mp ha;obtain⟨b,_,rfl⟩:=Yc.mp hb;have hk:=Vg.mp hk;have hl:=Vg.mp hl;refine ye (e:=e) (by simp) (by simp) (fun z=>?_) nb
    injection z with _ z
    injection z with z _
    rw[yd hk,yd hl]at z;have:=(CW nr).mp z;lia
  ·have nb:=hd b (Wd _ hb);obtain⟨a,_,rfl⟩:=Yc.mp ha;obtain⟨k,_,hb⟩:=List.mem_flatMap.mp hb;obtain⟨b,_,rfl⟩:=Yc.mp hb;exact ye (e:=e) (by simp) (by simp) (fun z=>by injection z with _ z;cases z) nb
theorem mf {fe:FE} {st s:En} {r:Rs} {i:Int} (h:fe st=some (r,s)) (h2:cont s r=some (.int i)):dX fe st=some (some i,s):=by
 simp only[dX,h,Yb,asInt,h2]
def lh (js:List gm):D:=.tup (js.map jD)
theorem yf:∀{js:List gm},(∀j∈js,j.length=1∨j.length=2)->js.length<=js.flatten.length
 | [],_=>Xa _
 | j::r,h=>by
  have:=yf fun x hx=>h x (Va _ hx);have:=h j Qa;rw[AV,Qb,Vd];lia
theorem Gm {n:Nat} {es:List End} {js:List gm} (h:js∈MM n es):js.length<=es.length:=by
 obtain⟨p,q⟩:=md n es js h;rw[← p.length_eq];exact yf fun j hj=>(q j hj).1
theorem uX {m:Nat} (h:m<9):aa m<=764:=(by decide:∀m,m<9->aa m<=764) m h
theorem yg {ds:List D} {k:Nat} (h:k<=ds.length):fG (.lst ds) (some (k:Int)) none=some (.lst (ds.drop k),true):=by
 show some (D.lst (cutD ds (some (k:Int)) none),true)=_;rw[oQ h]
theorem Mc {ds:List D} {i j:Nat} (h1:i<=j) (h:j<=ds.length):fG (.lst ds) (some (i:Int)) (some (j:Int))=some (.lst ((ds.drop i).take (j-i)),true):=by
 show some (D.lst (cutD ds (some (i:Int)) (some (j:Int))),true)=_;unfold cutD;rw[HT.sIx_nat,HT.sIx_nat,Qm h,Qm (Qd h1 h)]
theorem uY {a b:List D} (h:a.length+b.length<=1000000):cj (.lst a) (.lst b)=some (.lst (a++b),true):=by
 unfold cj jU;rw[xP h]
theorem Me {xs ys:List D} (h:xs.length+ys.length<=1000000):jE (.lst xs) [.lst ys]=some (.non,.lst (xs++ys)):=by
 show(if xs.length+ys.length<=1000000 then some (D.non,D.lst (xs++ys)) else none)=_;rw[Ae h]
theorem qR {j:gm} {n:Nat} {es:List End} {js:List gm} (h:js∈MM n es) (he:es.length<9):cj (.tup [jD j]) (lh js)=some (lh (j::js),false):=by
 have:=Gm h;show cj (.tup [jD j]) (.tup (js.map jD))=_;rw[rX (by rw[Ya,Qj];lia)];rfl
theorem wc:∀(n:Nat) (es:List End),es.length<n->es.length<9->dR n [.lst (es.map eD)]=some (.lst ((MM n es).map lh),true)
 | 0,_,h,_=>absurd h (C4 _)
 | n+1,[],_,_=>bw (o:=.rt (.f (.lst [.tup []])) [.v (.lst []),.e,.e]) rfl (iz (jV (s:=[.v (.lst []),.e,.e]) (uU (i:=0) (bW rfl rfl rfl) rfl) (br (sJ (aE (dG rfl rfl (by decide)) rfl) rfl (by decide))))) rfl
 | n+1,e::r,h,h9=>by
  have hr:r.length<n:=by simpa using h
  have hr9:r.length<9:=by rw[Vd]at h9;lia
  have ih:=wc n r hr hr9;have al:=mO (n+1) (e::r) h;have a9:=uX h9;rw[MM,Qb,Ya]at al;have ml:=mO n r hr;have m9:=uX hr9;have nE:(e::r).map eD≠[]:=by simp
  have ix0:bE (.lst ((e::r).map eD)) (.int 0)=some (eD e,false):=iL (ld (xs:=e::r) (i:=0) rfl);have ln:fX [.lst ((e::r).map eD)]=some (.int ((r.length+1:Nat):Int),false):=by
   show some (D.int (((e::r).map eD).length:Nat),false)=_;rw[Ya];rfl
  have s1:=yg (ds:=(e::r).map eD) (k:=1) (by simp)
  have dl:((e::r).map eD).length=r.length+1:=by simp
  generalize hL:D.lst ((e::r).map eD)=L at *;have c1:cN (gN 0) cV (aH cj (dD (ag (dD (ag (aH bE (aM 1) (fC (.int 0))) aq)) aq)) (aM 0)) 1 ((MM n r).map lh) [.e,.v L]=some (((MM n r).map ([e]::·)).map lh,[.e,.v L]):=by
   have:=dH (fg:=gN 0) (fc:=cV) (fe:=aH cj (dD (ag (dD (ag (aH bE (aM 1) (fC (.int 0))) aq)) aq)) (aM 0)) (k:=1) lh (fun js=>lh ([e]::js)) [.e,.v L] (MM n r) fun js hj=>⟨[.v (lh js),.v L],[.v (lh js),.v L],.d (lh ([e]::js)),[.v (lh js),.v L],[.v (lh js),.v L],rfl,rfl,aB (dG (aE (dG (aE (aB rfl rfl rfl rfl ix0) rfl) rfl (by show 1<=1000000;decide)) rfl) rfl (by show 1<=1000000;decide)) rfl rfl rfl (qR (j:=[e]) hj hr9),rfl,rfl⟩
   rw[this,Xf];rfl
  have st1:bN (dN 1 [0] (nC (ce (dR n) (ag (t9 fG (aM 0) (dX (fC (.int 1))) yS) aq))) (gN 0) cV (aH cj (dD (ag (dD (ag (aH bE (aM 1) (fC (.int 0))) aq)) aq)) (aM 0))) 1 [.v L,.e,.e]=some (.nx [.v L,.o (.lst (((MM n r).map ([e]::·)).map lh)),.e]) :=
   iQ (dA (oO (bO (aE (mU rfl rfl rfl rfl s1) rfl) rfl ih) rfl) (sK (n:=764) (by rw[Ya];lia) (by decide) rfl) c1) rfl
  obtain⟨sf,el,s2,rfl,i2⟩:=dP (fg:=gN 2) (B:=gr (fM vI jE 1 (ag (dN 1 [0,2] (nC (ce (dR n) (ag (aH cj (t9 fG (aM 0) (dX (fC (.int 1))) (dX (aM 2))) (t9 fG (aM 0) (dX (aH cj (aM 2) (fC (.int 1)))) yS)) aq))) (gN 0) cV (aH cj (dD (ag (dD (ag (aH bE (aM 1) (fC (.int 0))) (ag (aH bE (aM 1) (aM 2)) aq))) aq)) (aM 0))) aq)))
   (fun k:Nat=>D.int ((1+k:Nat):Int)) (List.range r.length) (fun gone st=>∃s2,st=[.v L,.o (.lst (((MM n r).map ([e]::·)++gone.flatMap fun k=>(MM n (r.eraseIdx k)).map ([e,r.getD k e0]::·)).map lh)),s2]/\s2.isIo=false)
   (by
    rintro gone k rest st ha ⟨s2,rfl,i2⟩;have hk:k<r.length:=Vg.mp (by rw[ha];simp)
    rw[ha,Vh,Qg,Qb,Qb,Ya]at al;have el:(r.eraseIdx k).length=r.length-1:=Df hk;have ihk:=wc n (r.eraseIdx k) (by lia) (by lia)
    have mlk:=mO n (r.eraseIdx k) (by lia)
    have mk9:=uX (m:=(r.eraseIdx k).length) (by lia)
    have ixk:bE L (.int ((1+k:Nat):Int))=some (eD (r.getD k e0),false):=by
     rw[← hL];exact iL (ld (xs:=e::r) (i:=1+k) (by rw[BU,List.getElem?_cons_succ,yd hk,Za hk]))
    have a1:fG L (some 1) (some ((1+k:Nat):Int))=some (.lst ((r.take k).map eD),true):=by
     rw[← hL,show(some (1:Int))=some ((1:Nat):Int) from rfl,Mc (by lia) (by rw[dl];lia),Ve,List.drop_one,List.tail_cons,Nat.add_sub_cancel_left,Do]
    have a2:fG L (some ((k+2:Nat):Int)) none=some (.lst ((r.drop (k+1)).map eD),true):=by
     rw[← hL,yg (by rw[dl];lia),Ve,List.drop_succ_cons,Dq]
    have a3:cj (.lst ((r.take k).map eD)) (.lst ((r.drop (k+1)).map eD))=some (.lst ((r.eraseIdx k).map eD),true):=by
     rw[uY (by rw[Ya,Ya,Vl,Xk];lia),← Yd,← CN]
    have a4:cj (.int ((1+k:Nat):Int)) (.int 1)=some (.int ((k+2:Nat):Int),false):=by
     show some (D.int (((1+k:Nat):Int)+1),false)=_;rw[show((1+k:Nat):Int)+1=((k+2:Nat):Int) by lia]
    have c2:cN (gN 0) cV (aH cj (dD (ag (dD (ag (aH bE (aM 1) (fC (.int 0))) (ag (aH bE (aM 1) (aM 2)) aq))) aq)) (aM 0)) 1 ((MM n (r.eraseIdx k)).map lh) [.e,.v L,.v (.int ((1+k:Nat):Int))]=some (((MM n (r.eraseIdx k)).map ([e,r.getD k e0]::·)).map lh,[.e,.v L,.v (.int ((1+k:Nat):Int))]):=by
     have:=dH (fg:=gN 0) (fc:=cV) (fe:=aH cj (dD (ag (dD (ag (aH bE (aM 1) (fC (.int 0))) (ag (aH bE (aM 1) (aM 2)) aq))) aq)) (aM 0)) (k:=1) lh (fun js=>lh ([e,r.getD k e0]::js)) [.e,.v L,.v (.int ((1+k:Nat):Int))] (MM n (r.eraseIdx k)) fun js hj=>⟨[.v (lh js),.v L,.v (.int ((1+k:Nat):Int))],[.v (lh js),.v L,.v (.int ((1+k:Nat):Int))],.d (lh ([e,r.getD k e0]::js)),[.v (lh js),.v L,.v (.int ((1+k:Nat):Int))],[.v (lh js),.v L,.v (.int ((1+k:Nat):Int))],rfl,rfl,aB (dG (aE (dG (aE (aB rfl rfl rfl rfl ix0) (aE (aB rfl rfl rfl rfl ixk) rfl)) rfl (by show 2<=1000000;decide)) rfl) rfl (by show 1<=1000000;decide)) rfl rfl rfl (qR (j:=[e,r.getD k e0]) hj (by lia)),rfl,rfl⟩
     rw[this,Xf];rfl
    refine⟨_,_,cX (t:=s2) rfl i2,fF (ul rfl rfl rfl (aE (dA (oO (bO (aE (aB (mU rfl rfl (mf rfl rfl) rfl a1) (mU rfl (mf (aB rfl rfl rfl rfl a4) rfl) rfl rfl a2) rfl rfl a3) rfl) rfl ihk) rfl) (sK (n:=764) (by rw[Ya];lia) (by decide) rfl) c2) rfl) rfl rfl rfl (Me ?_)),.v (.int ((1+k:Nat):Int)),?_,rfl⟩
    ·rw[Ya,Ya,Qb,Ya,Ya];lia
    ·rw[Vh,Bl,← Xe,Yd (l₂:=(MM n (r.eraseIdx k)).map _)];rfl)
   (List.range r.length) [] [.v L,.o (.lst (((MM n r).map ([e]::·)).map lh)),.e] rfl ⟨.e,by simp,rfl⟩
  rw[← hL];refine bw (o:=.rt (.s 1) [.v L,.o (.lst ((MM (n+1) (e::r)).map lh)),s2]) rfl ?_ rfl;rw[hL]
  refine ay (s:=[.v L,.e,.e]) (g6 (xZ (i:=((r.length+1:Nat):Int)) (bW rfl rfl ln) rfl (by lia)) rfl) (ay st1 (ay (je (by
   rw[Hy (i:=1) (j:=((r.length+1:Nat):Int)) (aE rfl (aE (bW rfl rfl ln) rfl)) rfl (by lia),show(1:Int)=((1:Nat):Int) from rfl,Hz,show(((r.length+1:Nat):Int) - ((1:Nat):Int)).toNat=r.length by lia]) el) ?_))
  exact br rfl
theorem qS {α β:Type} {f:α->β}:∀{ys:List β} {xs:List α},ys.Perm (xs.map f)->∃zs:List α,ys=zs.map f/\zs.Perm xs
 | [],xs,h=>⟨[],rfl,by have:=h.length_eq;rw[Yk,Ya]at this;rw[Zf this.symm]⟩
 | y::ys,xs,h=>by
  obtain⟨x,hx,rfl⟩:=Yc.mp (h.mem_iff.mp Qa);obtain⟨a,b,rfl⟩:=BI hx
  have h2:(f x::ys).Perm (f x::(a++b).map f):=h.trans (by
   have:=(Qk (a:=x) (l₁:=a) (l₂:=b)).map f
   exact this)
  obtain⟨zs,rfl,p⟩:=qS (h2.cons_inv);exact⟨x::zs,rfl,(p.cons x).trans Qk.symm⟩
def dU (ss:List aG):D:=.tup (ss.map cY)
theorem sS (ss:List aG):Pl 39 (dU ss):=.tup fun d hd=>by
 obtain⟨s,hs,rfl⟩:=Yc.mp hd;refine .tup fun d hd=>?_;rcases Xd.mp hd with rfl|hd
 ·exact .str _ _
 ·obtain rfl:=Vb.mp hd;refine .tup fun d hd=>?_;obtain⟨p,_,rfl⟩:=Yc.mp hd;exact .str _ _
theorem Mf {ss:List aG} (h:ss.length<=1000) (h2:∀s∈ss,s.2.length<=1000):Dp 6 (dU ss) :=
 .tup (by rw[Ya];lia) fun d hd=>by
  obtain⟨s,hs,rfl⟩:=Yc.mp hd;refine .tup (by show 2<=1000000;decide) fun d hd=>?_
  rcases Xd.mp hd with rfl|hd
  ·exact .str _ _
  ·obtain rfl:=Vb.mp hd;refine .tup (by rw[Ya];have:=h2 s hs;lia) fun d hd=>?_
   obtain⟨p,_,rfl⟩:=Yc.mp hd;exact .str _ _
theorem Mi (n:Nat) (a b:List Bd):Cp (n+2) (.tup (a.map bm)) (.tup (b.map bm)):=by
 intro i x y e1 e2;rw[Qc]at e1 e2;obtain⟨c,_,rfl⟩:=Vc.mp e1;obtain⟨d,_,rfl⟩:=Vc.mp e2;trivial
theorem Oj (n:Nat) (a b:aG):Cp (n+3) (cY a) (cY b):=by
 intro i x y e1 e2
 match i,e1,e2 with
 | 0,e1,e2 =>
  have q1:D.str (kd a.1)=x:=by simpa using e1
  have q2:D.str (kd b.1)=y:=by simpa using e2
  subst q1 q2;trivial
 | 1,e1,e2 =>
  have q1:D.tup (a.2.map bm)=x:=by simpa using e1
  have q2:D.tup (b.2.map bm)=y:=by simpa using e2
  subst q1 q2;exact Mi n a.2 b.2
 | i+2,e1,_=>simp at e1
theorem wd (a b:List aG):Cp 40 (dU a) (dU b):=by
 intro i x y e1 e2;rw[Qc]at e1 e2;obtain⟨c,_,rfl⟩:=Vc.mp e1;obtain⟨d,_,rfl⟩:=Vc.mp e2;exact Oj 36 c d
theorem Mj {p q:Bd} (hp:Nm p.2) (hq:Nm q.2) (e:bd p=bd q):p=q:=by
 obtain⟨t,n⟩:=p;obtain⟨u,m⟩:=q;have h1:=mK (t:=t) hp;have h2:=mK (t:=u) hq;rw[e,h2]at h1;subst h1;cases u with
 | false=>exact congrArg (Prod.mk false) e
 | true =>
  have e:minus++n=minus++m:=e;have h3:=vV (n:=n);rw[e,vV]at h3;rw[h3]
theorem sT {α:Type} {f:α->D} {P:α->Prop} (h:∀a b,P a->P b->f a=f b->a=b):∀{xs ys:List α},(∀x∈xs,P x)->(∀y∈ys,P y)->xs.map f=ys.map f->xs=ys
 | [],[],_,_,_=>rfl
 | [],_::_,_,_,e=>(by cases e)
 | _::_,[],_,_,e=>(by cases e)
 | x::xs,y::ys,h1,h2,e=>by
  rw[Ve,Ve]at e;injection e with e1 e2;rw[h x y (h1 x Qa) (h2 y Qa) e1,sT h (fun a ha=>h1 a (Va _ ha)) (fun a ha=>h2 a (Va _ ha)) e2]
theorem Mk {a b:Bool} (h:kd a=kd b):a=b:=by revert h;cases a<;>cases b<;>decide +kernel
theorem Iq {a b:List aG} (ha:∀s∈a,∀p∈s.2,Nm p.2) (hb:∀s∈b,∀p∈s.2,Nm p.2) (e:dU a=dU b):a=b:=by
 injection e with e
 refine sT (P:=fun s=>∀p∈s.2,Nm p.2) (fun s t hs ht e=>?_) ha hb e;obtain⟨r,ps⟩:=s;obtain⟨q,qs⟩:=t;injection e with e;injection e with e1 e;injection e with e2 _;injection e1 with e1;injection e2 with e2;dsimp only at e1 e2 hs ht;rw[Mk e1,sT (P:=fun p:Bd=>Nm p.2) (fun p q hp hq e=>Mj hp hq (by injection e)) hs ht e2]
theorem pH {d:D} {xs:List Str} (h0:d.seq=some (xs.map D.str)):eK [d]=some (.lst ((cP xs).map D.str),true):=by
 have ca:CA 40 (xs.map D.str):=fun a ha b hb=>by
  obtain⟨x,_,rfl⟩:=Yc.mp ha;obtain⟨y,_,rfl⟩:=Yc.mp hb;trivial
 have so:(cP xs).map D.str=dQ 40 (xs.map D.str):=eJ ca ((dF xs).map _) (by
  unfold GA;rw[Qh]
  exact(iy xs).imp fun {a b} z=>Ad z)
 unfold eK;dsimp only;rw[h0];dsimp only;rw[so];refine Ae ⟨fun x hx=>?_,ca,⟨_,.sc (T:="str") (by decide) fun d hd=>?_⟩⟩
 ·obtain⟨y,_,rfl⟩:=Yc.mp hx;exact .str _ _
 ·obtain⟨y,_,rfl⟩:=Yc.mp hd;exact⟨fun z=>(by cases z),rfl⟩
def OF (x:Str):List End:=[zero x,one x]
def eS (xs:List Str):List End:=(cP xs).flatMap OF
theorem yh:∀ys:List Str,(ys.flatMap OF).Perm (ys.map zero++ys.map one)
 | []=>List.Perm.refl _
 | y::r=>by
  rw[Qg,Ve,Ve];refine List.Perm.trans ?_ ((Qk (a:=one y) (l₁:=r.map zero) (l₂:=r.map one)).symm.cons (zero y));exact((yh r).cons (one y)).cons (zero y)
theorem sU (xs:List Str):(eS xs).Perm (xs.map zero++xs.map one) :=
 (yh _).trans (((dF xs).map zero).append ((dF xs).map one))
theorem Ml {xs:List Str} (nd:xs.Nodup):(eS xs).Pairwise fun a b=>ltN 40 (eD b) (eD a)=false:=by
 unfold eS;have nd':(cP xs).Nodup:=(dF xs).nodup_iff.mpr nd;rw[DI];refine⟨fun x _=>?_,((iy xs).and nd').imp fun {x y} h a ha b hb=>?_⟩
 ·refine Xg.mpr ⟨fun b hb=>?_,Xm _ _⟩;rw[Vb.mp hb];show mv (ltN 39) [.str x,.int 1] [.str x,.int 0]=false;rw[bZ,bp (by intro z;injection z with z;exact absurd z (by decide))];rfl
 ·have e1:a.1=x:=by rcases Xd.mp ha with rfl|ha;rfl;rw[Vb.mp ha];rfl
  have e2:b.1=y:=by rcases Xd.mp hb with rfl|hb;rfl;rw[Vb.mp hb];rfl
  show mv (ltN 39) [.str b.1,.int b.2] [.str a.1,.int a.2]=false;rw[e1,e2,bp (by intro z;injection z with z;exact h.2 z.symm)]
  exact Ad h.1
theorem Ir {L:List End} (h:L.Pairwise fun a b=>ltN 40 (eD b) (eD a)=false):cz L=L:=by
 have e:=eJ (LT L) (List.Perm.refl _) (Qh.mpr h);rw[(bK L).1]at e;have:=congrArg (List.map Jq) e;rw[Xf,Xf,show(Jq ∘ eD)=id from funext FL,C2,C2]at this;exact this.symm
theorem Ol {xs:List Str} (nd:xs.Nodup) {n:Nat} {js:List gm} (h:js∈MM n (eS xs)):Js js xs:=by
 obtain⟨p,q⟩:=md n _ js h;exact⟨fun j hj=>(q j hj).1,p.trans (sU xs),fun j hj=>Ir ((Ml nd).sublist (q j hj).2),nd⟩
theorem Mm (xs:List Str):(eS xs).length=2*xs.length:=by
 have:=(sU xs).length_eq;rw[Qb,Ya,Ya]at this;lia
end
end K59
namespace VF
open PySem L2
theorem zy {n:Nat} {ds:List D} (h:CA n ds):GA n (dQ n ds):=by
 obtain⟨fs,p,q⟩:=v9 ds h;rw[← eJ h p q];exact q
end VF
namespace K59
open PySem L2 VF VL VF22
noncomputable section
structure Gs (xs:List Str) (ss:List aG):Prop where
 cf:∀s∈ss,Cf s
 pw:ss.Pairwise (fun a b=>ltB (rk b) (rk a)=false)
 nm:(iO ss).Perm xs
theorem Gn:∀{ss:List aG},(∀s∈ss,s.2≠[])->(iO (ss.map cs)).Perm (iO ss)
 | [],_=>List.Perm.refl _
 | s::r,h=>by
  unfold iO;rw[Ve,Qg,Qg,Yd,Yd];exact(F8 (h s Qa)).append (Gn fun x hx=>h x (Va _ hx))
section
variable {xs:List Str} {js js':List gm}
theorem Mn (J:Js js xs) (nm:∀x∈xs,Nm x) (hx:xs.length<=4):Gs xs (cn (SS js)):=by
 obtain⟨_,o,pm⟩:=ma J nm (by lia)
 generalize SS js=ss at o pm;have hfl:(ss.flatMap (·.2)).length=xs.length:=by have:=pm.length_eq;unfold iO at this;rw[Ya]at this;exact this
 have nsn:∀s∈ss,∀p∈s.2,Nm p.2:=fun s hs p hp=>nm _ (o.xs _ (List.mem_map_of_mem (List.mem_flatMap.mpr ⟨s,hs,hp⟩)));obtain⟨cp,_,cpw⟩:=sM ss;refine⟨fun s hs=>?_,cpw,(show(iO (cn ss)).Perm (iO (ss.map cs)) from(cp.flatMap_right fun s:aG=>s.2).map fun p:Bd=>p.2).trans ((Gn o.ne).trans pm)⟩;obtain⟨t,ht,rfl⟩:=Yc.mp (cp.mem_iff.mp hs);obtain⟨a,b,e⟩:=BI ht;have nd:=o.nd;unfold iO at nd;rw[e,Vh,Qg,Yd,Yd]at nd;rw[e,Vh,Qg,Qb,Qb]at hfl;exact Od (o.ne t ht) (nsn t ht) (by lia) (Zi.mp (Zi.mp nd).2.1).1
theorem Mp (J:Js js xs) (J':Js js' xs) (nm:∀x∈xs,Nm x) (hx:xs.length<=4) (n:¬ js.Perm js'):cn (SS js)≠cn (SS js'):=fun e=>n (by
 obtain⟨_,o,pm⟩:=ma J nm (by lia)
 obtain⟨_,o',pm'⟩:=ma J' nm (by lia)
 have h1:jo (SS js)=p8 js:=lc (qP J o.ne o.sub pm);have h2:jo (SS js')=p8 js':=lc (qP J' o'.ne o'.sub pm');have:=congrArg jo e;rw[Jw o.ne,Jw o'.ne,h1,h2]at this
 exact(qL js).2.symm.trans (this ▸ (qL js').2))
theorem Gs.nn {ss:List aG} (G:Gs xs ss):∀s∈ss,∀p∈s.2,Nm p.2:=fun s hs=>(G.cf s hs).nm
theorem Iu (nd:xs.Nodup) (nm:∀x∈xs,Nm x) (hx:xs.length<=4):∃Ls:List (List aG),iJ [.lst (xs.map D.str)]=some (.lst (Ls.map dU),true)/\Ls.length=aa (2*xs.length)/\(∀ss∈Ls,Gs xs ss)/\(Ls.map dU).Pairwise fun a b=>ltN 40 a b=true:=by
 have el:=Mm xs;have ml:=mO 9 (eS xs) (by lia)
 have mb:=uX (m:=(eS xs).length) (by lia)
 have hj:∀js∈MM 9 (eS xs),Js js xs:=fun js h=>Ol nd h;have me:=wc 9 (eS xs) (by lia) (by lia)
 have gs:∀ss∈(MM 9 (eS xs)).map (fun js=>cn (SS js)),Gs xs ss:=fun ss h=>by
  obtain⟨js,hm,rfl⟩:=Yc.mp h;exact Mn (hj js hm) nm hx
 have ne:((MM 9 (eS xs)).map fun js=>cn (SS js)).Nodup:=by
  show List.Pairwise _ _;rw[Qh];exact(Gk 9 (eS xs) ((sU xs).nodup_iff.mpr (x8 nd))).imp_of_mem fun ha hb h=>Mp (hj _ ha) (hj _ hb) nm hx h
 have cm:cN (gN 0) cV iI 1 ((MM 9 (eS xs)).map lh) [.e]=some (((MM 9 (eS xs)).map fun js=>cn (SS js)).map dU,[.e]):=by
  have:=dH (fg:=gN 0) (fc:=cV) (fe:=iI) (k:=1) lh (fun js=>dU (cn (SS js))) [.e] (MM 9 (eS xs)) fun js hm=>⟨[.v (lh js)],[.v (lh js)],.d (dU (cn (SS js))),[.v (lh js)],[.v (lh js)],rfl,rfl,bO rfl rfl (ma (hj js hm) nm (by lia)).1,rfl,rfl⟩
  rw[this,Xf];rfl
 have ll:((MM 9 (eS xs)).map fun js=>cn (SS js)).length=aa (2*xs.length):=by rw[Ya,ml,el]
 generalize (MM 9 (eS xs)).map (fun js=>cn (SS js))=L at *;have ca:CA 40 (L.map dU):=fun a ha b hb=>by
  obtain⟨x,_,rfl⟩:=Yc.mp ha;obtain⟨y,_,rfl⟩:=Yc.mp hb;exact wd x y
 have sl:eK [.lst (L.map dU)]=some (.lst (dQ 40 (L.map dU)),true):=by
  have h0:(D.lst (L.map dU)).seq=some (L.map dU):=rfl;unfold eK;dsimp only;rw[h0];dsimp only;refine Ae ⟨fun x hx=>?_,ca,?_⟩
  ·obtain⟨y,_,rfl⟩:=Yc.mp hx;exact(sS y).up
  ·cases xs with
   | nil=>exact⟨HK false,.fw (by rw[Ya,ll];decide)⟩
   | cons x r =>
    refine⟨_,.tp (T:="tuple") fun d hd=>?_⟩;obtain⟨ss,hs,rfl⟩:=Yc.mp hd;cases ss with
    | nil=>exact absurd (gs _ hs).nm.length_eq (by simp[iO])
    | cons s r=>exact⟨cY s,r.map cY,rfl,fun z=>(by cases z),rfl⟩
 obtain⟨Ls,eq,pm⟩:=qS (kM 40 (L.map dU));have so:=zy ca;rw[eq]at sl so;refine⟨Ls,?_,by rw[pm.length_eq,ll],fun ss h=>gs ss (pm.mem_iff.mp h),?_⟩
 ·obtain⟨sf,ef,s2,rfl,i2⟩:=dP (fg:=gN 2) (B:=lT) D.str (cP xs) (fun g st=>∃s2,st=[.v (.lst (xs.map D.str)),.o (.lst ((g.flatMap OF).map eD)),s2]/\s2.isIo=false)
   (by
    rintro g x r st ha ⟨s2,rfl,i2⟩;have hl:=congrArg List.length ha;rw[(dF xs).length_eq,Qb,Vd]at hl;have gl:(g.flatMap OF).length=g.length*2:=wa fun _ _=>rfl;refine⟨_,_,cX (t:=s2) rfl i2,fF (ul rfl rfl rfl (aE (sJ (aE (dG rfl rfl (by show 2<=1000000;decide)) (aE (dG rfl rfl (by show 2<=1000000;decide)) rfl)) rfl (by show 2<=1000000;decide)) rfl) rfl rfl rfl (Me (by rw[Ya,gl];show g.length*2+2<=_;lia))),.v (.str x),?_,rfl⟩
    rw[Vh,Bl,Yd];rfl)
   (cP xs) [] [.v (.lst (xs.map D.str)),.o (.lst []),.e] rfl ⟨.e,rfl,rfl⟩
  refine bw (o:=.rt (.f (.lst (Ls.map dU))) [.v (.lst (xs.map D.str)),.v (.lst ((eS xs).map eD)),s2]) rfl ?_ rfl;refine ay (s:=[.v (.lst (xs.map D.str)),.o (.lst []),.e]) rfl (ay (je (oO (bW rfl rfl (pH rfl)) rfl) ef) ?_);exact br (bW (aE (dA (oO (bO rfl rfl me) rfl) (sK (n:=764) (by rw[Ya];lia) (by decide) rfl) cm) rfl) rfl sl)
 ·have nL:Ls.Nodup:=pm.nodup_iff.mpr ne;unfold GA at so;rw[Qh]at so ⊢;refine(so.and nL).imp_of_mem fun {a b} ha hb h=>?_;rcases(kL 40).tri (wd a b) with z|z|z
  ·exact absurd (Iq (gs a (pm.mem_iff.mp ha)).nn (gs b (pm.mem_iff.mp hb)).nn z) h.2
  ·exact z
  ·rw[h.1]at z;cases z
end
end
end K59
namespace VF
open PySem L2
theorem Gp {ks:List KB} {ds:List D} (hl:ks.length=ds.length) (h:ks.Pairwise fun a b=>ltB b a=false):jZ ks ds=ds:=by
 rw[← o3 (γ:=Array.range ds.length) (Array.Perm.refl _) fun i j g k _ hij hj e1 e2=>?_]
 ·rw[Zm];refine CM fun i=>?_;rw[Qc];by_cases hi:i<ds.length
  ·rw[List.getElem?_range hi,Za hi];exact congrArg some (lH (Za hi))
  ·rw[AQ (by rw[CK];lia),AQ (by lia)];rfl
 ·rw[AY,Ae (by lia)]at e1 e2
  cases e1;cases e2;refine .inr ⟨?_,hij⟩;have hi':i<ks.length:=by lia
  have hj':j<ks.length:=by lia
  show ltB (ks.getD j _) (ks.getD i _)=false;rw[Xb,Xb,Za hi',Za hj'];exact Wg.mp h i j hi' hj' hij
theorem O8 {i j:Nat} {a b:D} {st s1 s2:En} {t u:Sl} (h1:st[i]?=some t) (ht:t.isIo=false) (e1:st.set i (.v a)=s1) (h2:s1[j]?=some u) (hu:u.isIo=false) (e2:s1.set j (.v b)=s2):gT 2 (vB (gN i) (vB (gN j) IP)) (.tup [a,b]) st=some s2:=by
 have p1:gN i a st=some s1:=by simp only[gN,nq,h1,Yb,ht,Ye,if_false,e1]
 have p2:gN j b s1=some s2:=by simp only[gN,nq,h2,Yb,hu,Ye,if_false,e2]
 show(gN i a st).bind (fun s=>(gN j b s).bind fun s'=>some s')=_;rw[p1,Yb,p2];rfl
end VF
namespace K59
open PySem L2 VF VL VF22
noncomputable section
theorem Om:("-":Str)=⟨#[45]⟩:=by rfl
theorem bare {p:Bd} (h:Nm p.2):Txt.replace (bd p) "-" ""=p.2:=by
 refine xK ?_;have hE:("":Str).cps.toList=[]:=by decide +kernel
 rw[Om,VT.repl_cps,hE];have fr:p.2.cps.toList.flatMap (VT.rp 45 [])=p.2.cps.toList:=VT.rp_free 45 _ _ fun z=>by have:=(h.2.2 45 z).1;lia
 unfold bd;split
 ·rw[Bi,AE,f7,Vh,fr];rfl
 ·exact fr
theorem yi {fe:FE} {st s:En} {r:Rs} {p:Bd} (h:Nm p.2) (h1:fe st=some (r,s)) (h2:cont s r=some (bm p)):VT.fRepl "-" "" fe st=some (.d (.str p.2),s):=by
 have l:=(su h).2;have z:("":Str).length<=14:=by decide +kernel
 simp only[VT.fRepl,h1,Yb,h2];rw[Ae ⟨by lia,z⟩,bare h]
theorem Gq {ps:List Bd} (hs:ps≠[]):bE (.tup (ps.map bm)) (.int 0)=some (bm (ps.headD z0),false):=fO (i:=0) (by rw[Qc,gE hs];rfl)
theorem Gr {ps:List Bd} (hs:ps≠[]) (hn:∀p∈ps,Nm p.2):Nm (ps.headD z0).2:=hn _ (Wa (gE hs))
theorem PB (s:aG):bE (cY s) (.int 1)=some (.tup (s.2.map bm),false):=fO (i:=1) rfl
def hN (s:aG):Str:=(s.2.headD z0).2
theorem uZ {s:aG} (h:Cf s):bc [cY s]=some (.str (hN s),false) :=
 bw (o:=.rt (.d (.str (hN s))) [.v (cY s)]) rfl (br (yi (p:=s.2.headD z0) (Gr h.ne h.nm) (aB (aB rfl rfl rfl rfl (PB s)) rfl rfl rfl (Gq h.ne)) rfl)) rfl
theorem Jx:∀{l:List aG},(∀s∈l,Cf s)->keysOf false bc (l.map cY)=some (l.map fun s=>(false,hN s))
 | [],_=>rfl
 | s::l,h=>by
  have ih:=Jx (l:=l) fun x hx=>h x (Va _ hx);rw[Ve,keysOf,uZ (h s Qa),ih];rfl
theorem u4 {l:List aG} (h:∀s∈l,Cf s) (hl:l.length<64) (hp:l.Pairwise fun a b=>ltB (false,hN b) (false,hN a)=false):mJ bc [.lst (l.map cY)]=some (.lst (l.map cY),true):=by
 have e:(keysOf true bc (l.map cY)).or (keysOf false bc (l.map cY))=some (l.map fun s=>(false,hN s)):=by
  cases l with
  | nil=>rfl
  | cons s l =>
   have:keysOf true bc ((s::l).map cY)=none:=by rw[Ve,keysOf,uZ (h s Qa)];rfl
   rw[this,Jx h];rfl
 show(if (l.map cY).length<64 then((keysOf true bc (l.map cY)).or (keysOf false bc (l.map cY))).bind _ else none)=_;rw[Ae (by rw[Ya];exact hl),e]
 show some (D.lst (jZ (l.map fun s=>(false,hN s)) (l.map cY)),true)=_;rw[Gp (by rw[Ya,Ya]) (Qh.mpr hp)]
theorem qT {ps:List Bd} (hn:∀p∈ps,Nm p.2):cN (gN 0) cV eW 1 (ps.map bm) [.e]=some ((cg ps).map D.str,[.e]):=by
 have:=dH (fg:=gN 0) (fc:=cV) (fe:=eW) (k:=1) bm (fun p=>D.str p.2) [.e] ps fun p hp=>⟨[.v (bm p)],[.v (bm p)],.d (.str p.2),[.v (bm p)],[.v (bm p)],rfl,rfl,yi (p:=p) (hn p hp) rfl rfl,rfl,rfl⟩;rw[this];unfold cg;rw[Xf];rfl
theorem Ps {p:Bd} (h:Nm p.2) {f:FE} {st s:En} {r:Rs} (h1:f st=some (r,s)) (h2:cont s r=some (bm p)):aI (aH jd (aH bE f (fC (.int 0))) (fC (.str "-"))) st=some (p.1,s):=by
 obtain⟨c,hc,hcm⟩:=Fw h;have i0:bE (bm p) (.int 0)=some (.str ⟨#[c]⟩,false):=by
  have e1:yR (bm p) (.int 0)=none:=rfl;have e2:Ee (bm p) (.int 0)=none:=rfl;have e3:G8 (bm p) (.int 0)=some (.str ⟨#[c]⟩,false):=by
   show(if (bd p).length<=1000000 then(jR (bd p).cps.toList 0).bind fun c=>some (D.str ⟨#[c]⟩,false) else none)=_;rw[Ae (uP h),hc];rfl
  unfold bE jU;rw[e1,e2,e3]
 refine aX (aB (aB h1 rfl h2 rfl i0) rfl rfl rfl (z:=(.bl p.1,false)) ?_) rfl;show some (D.bl (decide (V.str ⟨#[c]⟩=V.str minus)),false)=_;congr 3;rw[Yf,decide_eq_true_eq];exact hcm
abbrev cS (S:D) (os rs:List aG) (s3 s4 s5 s6:Sl):En:=[.v S,.o (.lst (os.map cY)),.o (.lst (rs.map cY)),s3,s4,s5,s6]
theorem zz {S:D} {os rs:List aG} {s:aG} {s5 s6:Sl} (h:Cf s) (ho:os.length<=1000) (hr:rs.length<=1000) (i5:s5.isIo=false) (i6:s6.isIo=false) :
  ∃t5 t6,gP (cS S os rs (.v (.str (kd s.1))) (.v (.tup (s.2.map bm))) s5 s6)=some (.nx (cS S (if s.1 then os else os++[s]) (if s.1 then rs++[s] else rs) (.v (.str (kd s.1))) (.v (.tup (s.2.map bm))) t5 t6))/\t5.isIo=false/\t6.isIo=false:=by
 obtain⟨r,ps⟩:=s;have ne:=h.ne;have nm:=h.nm;have ln:=h.ln;dsimp only at ne nm ln;have nn:cg ps≠[]:=lg ne;have c1:bN (dN 1 [] (nC (aM 4)) (gN 0) cV eW) 5 (cS S os rs (.v (.str (kd r))) (.v (.tup (ps.map bm))) s5 s6)=some (.nx (cS S os rs (.v (.str (kd r))) (.v (.tup (ps.map bm))) (.o (.lst ((cg ps).map D.str))) s6)) :=
  iQ (dA (oP rfl rfl) (sK (n:=100) (by rw[Ya];exact ln) (by decide) rfl) (qT nm)) (cX (t:=s5) rfl i5)
 cases r with
 | false =>
  refine⟨.o (.lst ((cg ps).map D.str)),s6,?_,rfl,i6⟩;have hb:bE (.lst ((cg ps).map D.str)) (.int 0)=some (.str (ps.headD z0).2,false):=iL (ld (xs:=cg ps) (i:=0) (by unfold cg;rw[Qc,gE ne];rfl))
  have hl:bE (.lst ((cg ps).map D.str)) (.int (-1))=some (.str (ps.getLastD z0).2,false):=iL (oi (xs:=cg ps) (by unfold cg;rw[Ya,Qc,jN ne];rfl))
  have gt:mw (ps.getLastD z0).2 (ps.headD z0).2=false:=by
   by_cases c:ps.length=1
   ·obtain⟨p,rfl⟩:=List.length_eq_one_iff.mp c;exact n8 _
   ·exact h.op rfl c
  have t1:aI (aH LI (aH bE (aM 5) (fC (.int 0))) (aH bE (aM 5) (Gy tY (fC (.int 1))))) (cS S os rs (.v (.str (kd false))) (.v (.tup (ps.map bm))) (.o (.lst ((cg ps).map D.str))) s6)=some (false,cS S os rs (.v (.str (kd false))) (.v (.tup (ps.map bm))) (.o (.lst ((cg ps).map D.str))) s6):=by
   refine aX (aB (aB rfl rfl rfl rfl hb) (aB rfl (xO rfl rfl rfl) rfl rfl hl) rfl rfl (z:=(.bl false,false)) ?_) rfl;show some (D.bl (mw (ps.getLastD z0).2 (ps.headD z0).2),false)=_;rw[gt]
  have ll:fX [.tup (ps.map bm)]=some (.int (ps.length:Int),false):=by
   show some (D.int ((ps.map bm).length:Nat),false)=_;rw[Ya]
  have t2:iP (aI (aH jd (dW fX (ag (aM 4) aq)) (fC (.int 1)))) (aI (aH jd (aH bE (aH bE (aM 4) (fC (.int 0))) (fC (.int 0))) (fC (.str "-")))) (cS S os rs (.v (.str (kd false))) (.v (.tup (ps.map bm))) (.o (.lst ((cg ps).map D.str))) s6)=some (false,cS S os rs (.v (.str (kd false))) (.v (.tup (ps.map bm))) (.o (.lst ((cg ps).map D.str))) s6):=by
   by_cases c:ps.length=1
   ·refine qw (uU (i:=1) (bW rfl rfl (by rw[ll,c])) rfl) ?_
    exact hV (Ps (p:=ps.headD z0) (Gr ne nm) (aB rfl rfl rfl rfl (Gq ne)) rfl) (h.un (.inr c))
   ·exact wW (xZ (i:=(ps.length:Int)) (bW rfl rfl ll) rfl (by lia))
  refine ay c1 (jV (s:=cS S os rs (.v (.str (kd false))) (.v (.tup (ps.map bm))) (.o (.lst ((cg ps).map D.str))) s6) rfl (ay (s:=cS S os rs (.v (.str (kd false))) (.v (.tup (ps.map bm))) (.o (.lst ((cg ps).map D.str))) s6) (g6 (Ez t1 t2) rfl) ?_));show _=some (Ot.nx [.v S,.o (.lst ((os++[(false,ps)]).map cY)),.o (.lst (rs.map cY)),.v (.str (kd false)),.v (.tup (ps.map bm)),.o (.lst ((cg ps).map D.str)),s6]);exact fF (ul rfl rfl rfl (aE (dG rfl rfl (by show 2<=1000000;decide)) rfl) rfl rfl rfl (pC (by rw[Ya];lia)) (by rw[Yd];rfl))
 | true =>
  have mn:fj (cg ps)=(ps.headD z0).2:=(h.mn rfl).symm;have ix:(cg ps).idxOf (fj (cg ps))=0:=by
   rw[mn];cases ps with
   | nil=>exact absurd rfl ne
   | cons p r=>exact List.idxOf_cons_self
  refine⟨.o (.lst ((cg ps).map D.str)),.v (.int 0),?_,rfl,rfl⟩;have ie:=uT (ia nn);rw[ix]at ie;have m1:fG (.tup (ps.map bm)) (some 0) none=some (.tup (ps.map bm),false):=by rw[rW];show some (D.tup (cutD (ps.map bm) (some ((0:Nat):Int)) none),false)=_;rw[oQ (Yg _)];rfl
  have m2:fG (.tup (ps.map bm)) none (some 0)=some (.tup [],false):=by rw[rW];show some (D.tup (cutD (ps.map bm) none (some ((0:Nat):Int))),false)=_;rw[EI (Yg _)];rfl
  have m3:cj (.tup (ps.map bm)) (.tup [])=some (.tup (ps.map bm),false):=by rw[rX (by rw[Ya,Yk];lia),Qe]
  refine ay c1 (g6 (s:=cS S os rs (.v (.str (kd true))) (.v (.tup (ps.map bm))) (.o (.lst ((cg ps).map D.str))) s6) rfl (ay (s:=cS S os rs (.v (.str (kd true))) (.v (.tup (ps.map bm))) (.o (.lst ((cg ps).map D.str))) (.v (.int 0))) (eY (EA rfl rfl rfl (aE (bW rfl rfl (FX nn)) rfl) rfl rfl ie) (cX (t:=s6) rfl i6)) ?_));refine ay (s:=cS S os rs (.v (.str (kd true))) (.v (.tup (ps.map bm))) (.o (.lst ((cg ps).map D.str))) (.v (.int 0))) (eY (aB (mU rfl (mf rfl rfl) rfl rfl m1) (mU rfl rfl (mf rfl rfl) rfl m2) rfl rfl m3) rfl) ?_;refine ay (s:=cS S os rs (.v (.str (kd true))) (.v (.tup (ps.map bm))) (.o (.lst ((cg ps).map D.str))) (.v (.int 0))) (g6 (hV (Ps (p:=ps.headD z0) (Gr ne nm) (aB rfl rfl rfl rfl (Gq ne)) rfl) (h.un (.inl rfl))) rfl) ?_;show _=some (Ot.nx [.v S,.o (.lst (os.map cY)),.o (.lst ((rs++[(true,ps)]).map cY)),.v (.str (kd true)),.v (.tup (ps.map bm)),.o (.lst ((cg ps).map D.str)),.v (.int 0)]);exact fF (ul rfl rfl rfl (aE (dG rfl rfl (by show 2<=1000000;decide)) rfl) rfl rfl rfl (pC (by rw[Ya];lia)) (by rw[Yd];rfl))
end
end K59
namespace K59
open PySem L2 VF VL VF22
noncomputable section
theorem qU:∀{ss:List aG},ss.Pairwise (fun a b=>ltB (rk b) (rk a)=false)->(ss.filter fun s=>!s.1)++(ss.filter fun s=>s.1)=ss
 | [],_=>rfl
 | s::r,h=>by
  obtain⟨h1,h2⟩:=Xg.mp h;have ih:=qU h2;obtain⟨b,ps⟩:=s;cases b with
  | false =>
   rw[Dv (by rfl),Dw (by simp),List.cons_append,ih]
  | true =>
   have all:∀t∈r,t.1=true:=fun t ht=>by
    have:=h1 t ht;obtain⟨c,qs⟩:=t;cases c with
    | true=>rfl
    | false=>simp[ltB,rk]at this
   rw[Dw (by simp),Dv (by rfl),List.filter_eq_nil_iff.mpr fun t ht=>by rw[all t ht];simp,Bb,List.filter_eq_self.mpr all]
theorem yj {ss:List aG} {b:Bool} {f:aG->Bool} (hf:∀s,f s=true->s.1=b) (h:ss.Pairwise (fun a b=>ltB (rk b) (rk a)=false)):(ss.filter f).Pairwise fun a b=>ltB (false,hN b) (false,hN a)=false :=
 (h.sublist List.filter_sublist).imp_of_mem fun {s t} hs ht z=>by
  have e1:=hf s (List.mem_filter.mp hs).2;have e2:=hf t (List.mem_filter.mp ht).2;unfold rk at z;rw[e1,e2]at z;unfold ltB at z ⊢;unfold hN;cases b<;>simpa using z
section
variable {xs:List Str} {ss:List aG}
theorem Gs.len (G:Gs xs ss):ss.length<=xs.length:=by
 have h1:=oh ss fun s hs=>(G.cf s hs).ne;have h2:=G.nm.length_eq;unfold iO at h2;rw[Ya]at h2;lia
theorem zB (G:Gs xs ss) (hx:xs.length<=4):jq [dU ss]=some (dU ss,false):=by
 have sl:=G.len;obtain⟨sf,el,s3,s4,s5,s6,rfl,i3,i4,i5,i6⟩:=dP (fg:=gT 2 (vB (gN 3) (vB (gN 4) IP))) (B:=gP) cY ss (fun g st=>∃s3 s4 s5 s6,st=cS (dU ss) (g.filter fun s=>!s.1) (g.filter fun s=>s.1) s3 s4 s5 s6/\s3.isIo=false/\s4.isIo=false/\s5.isIo=false/\s6.isIo=false)
  (by
   rintro g s r st ha ⟨s3,s4,s5,s6,rfl,i3,i4,i5,i6⟩;have hl:=congrArg List.length ha;rw[Qb,Vd]at hl;have f1:=AO (fun s:aG=>!s.1) g;have f2:=AO (fun s:aG=>s.1) g;obtain⟨t5,t6,e,j5,j6⟩:=zz (S:=dU ss) (os:=g.filter fun s=>!s.1) (rs:=g.filter fun s=>s.1) (s5:=s5) (s6:=s6) (G.cf s (by rw[ha];simp)) (by lia) (by lia) i5 i6
   refine⟨_,_,O8 (t:=s3) (u:=s4) rfl i3 rfl rfl i4 rfl,e,.v (.str (kd s.1)),.v (.tup (s.2.map bm)),t5,t6,?_,rfl,rfl,j5,j6⟩;rw[List.filter_append,List.filter_append];obtain⟨b,ps⟩:=s
   cases b<;>simp)
  ss [] (cS (dU ss) [] [] .e .e .e .e) rfl ⟨.e,.e,.e,.e,rfl,rfl,rfl,rfl,rfl⟩
 have f1:=AO (fun s:aG=>!s.1) ss;have f2:=AO (fun s:aG=>s.1) ss;have k1:=u4 (l:=ss.filter fun s=>!s.1) (fun s hs=>G.cf s (List.mem_filter.mp hs).1) (by lia) (yj (b:=false) (fun s z=>by simpa using z) G.pw)
 have k2:=u4 (l:=ss.filter fun s=>s.1) (fun s hs=>G.cf s (List.mem_filter.mp hs).1) (by lia) (yj (b:=true) (fun s z=>z) G.pw)
 have ad:=uY (a:=(ss.filter fun s=>!s.1).map cY) (b:=(ss.filter fun s=>s.1).map cY) (by rw[Ya,Ya];lia)
 rw[← Yd,qU G.pw]at ad;refine bw (o:=.rt (.d (dU ss)) (cS (dU ss) (ss.filter fun s=>!s.1) (ss.filter fun s=>s.1) s3 s4 s5 s6)) rfl ?_ rfl;refine ay (s:=[.v (dU ss),.o (.lst []),.e,.e,.e,.e,.e]) rfl (ay (s:=cS (dU ss) [] [] .e .e .e .e) rfl (ay (je (oP rfl rfl) el) ?_));exact br (bW (aE (aB (bW rfl rfl k1) (bW rfl rfl k2) rfl rfl ad) rfl) rfl rfl)
theorem Gu (G:Gs xs ss) (hx:xs.length<=4):eN [dU ss]=some (.lst ((cP xs).map D.str),true):=by
 have nl:=G.nm.length_eq;obtain⟨sf,el,s2,s3,rfl,i2,i3⟩:=dP (fg:=gT 2 (vB (gN 2) (vB (gN 3) IP))) (B:=gc) cY ss (fun g st=>∃s2 s3,st=[.v (dU ss),.o (.lst ((iO g).map D.str)),s2,s3]/\s2.isIo=false/\s3.isIo=false)
  (by
   rintro g s r st ha ⟨s2,s3,rfl,i2,i3⟩;have cf:=G.cf s (by rw[ha];simp)
   have hl:(iO g).length<=(iO ss).length:=by
    unfold iO;rw[ha,Vh,Yd,Qb];lia
   have c:cN (gN 0) cV f9 1 (s.2.map bm) [.e]=some ((cg s.2).map D.str,[.e]):=qT cf.nm;have ln:=cf.ln;refine⟨_,_,O8 (t:=s2) (u:=s3) rfl i2 rfl rfl i3 rfl,fF (ul rfl rfl rfl (aE (dA (oP rfl rfl) (sK (n:=100) (by rw[Ya];exact ln) (by decide) rfl) c) rfl) rfl rfl rfl (Me (by unfold cg;rw[Ya,Ya,Ya];lia))),.v (.str (kd s.1)),.v (.tup (s.2.map bm)),?_,rfl,rfl⟩
   rw[jO,Yd];rfl)
  ss [] [.v (dU ss),.o (.lst []),.e,.e] rfl ⟨.e,.e,rfl,rfl,rfl⟩
 refine bw (o:=.rt (.f (.lst ((cP xs).map D.str))) [.v (dU ss),.o (.lst ((iO ss).map D.str)),s2,s3]) rfl ?_ rfl;refine ay (s:=[.v (dU ss),.o (.lst []),.e,.e]) rfl (ay (je (oP rfl rfl) el) ?_);rw[← sI G.nm];exact br (bW rfl rfl (pH rfl))
end
end
end K59
namespace VF
open PySem L2
theorem u5 {ds:List D} (h:∀d∈ds,Pl 39 d):jf (.lst ds) (.lst ds)=some (.bl false,false):=by
 have e1:yQ true (.lst ds) (.lst ds)=none:=rfl;have p:Pl 40 (.lst ds):=.lst h;cases ds with
 | nil =>
  unfold jf He jU;rw[e1];rfl
 | cons x r =>
  have e2:KS (.lst (x::r)) (.lst (x::r))=none:=rfl;have e3:ut true (.lst (x::r)) (.lst (x::r))=some (.bl false,false):=by
   unfold ut;rw[Ae ⟨p,p⟩];simp
  unfold jf He jU;rw[e1,e2];exact e3
theorem Gv {ds:List D} (h:∀d∈ds,Pl 39 d):lG (.lst ds) (.lst ds)=some (.bl true,false):=by
 have e1:jd (.lst ds) (.lst ds)=none:=rfl;have p:Pl 40 (.lst ds):=.lst h;unfold lG jU;rw[e1];unfold ut;dsimp only;rw[Ae ⟨p,p⟩];simp
theorem Gw (i:Int):jf (.int i) (.int i)=some (.bl false,false):=by
 have e1:yQ true (.int i) (.int i)=some (.bl false,false):=by
  show some (D.bl (!decide (V.int i=V.int i)),false)=_;rw[Af rfl];rfl
 unfold jf He jU;rw[e1]
theorem O9 {i j:Int} {b:Bool} (h:b=true↔j<i):Mx (.int i) (.int j)=some (.bl b,false):=by
 show some (D.bl (decide (j<i)),false)=_;congr 3;rw[Yf,h,decide_eq_true_eq]
theorem On {fa fb:FE} {st s:En} {r:Rs} (h:fa st=some (r,s)) (h1:GX s r=some true):yM fa fb st=some (.d (.bl true),s):=by simp only[yM,h,h1,Yb,if_true]
theorem Op {fa fb:FE} {st s:En} {r:Rs} {a:Option (Rs×En)} (h:fa st=some (r,s)) (h1:GX s r=some false) (h2:fb s=a):yM fa fb st=a:=by simp only[yM,h,h1,Yb,Ye,if_false];exact h2
end VF
namespace K59
open PySem L2 VF VL VF22
noncomputable section
def tbl:D:=.lst [.int 1,.int 2,.int 10,.int 76,.int 764]
theorem Mq:∀m:Nat,m<5->bE tbl (.int (m:Int))=some (.int ((aa (2*m):Nat):Int),false)
 | 0,_=>rfl
 | 1,_=>rfl
 | 2,_=>rfl
 | 3,_=>rfl
 | 4,_=>rfl
 | m+5,h=>absurd h (by lia)
abbrev lS (S φ M X:D) (a:Sl) (L Y:D) (s7 s8:Sl):En:=[.v S,.o φ,.v M,.o X,a,.io L,.o Y,s7,s8,.e]
theorem turn {S φ M X Y:D} {xs:List Str} {Ls:List (List aG)} {a:Sl} {k:Nat} {s7 s8:Sl} {ss:List aG} (hx:xs.length<=4) (hs:Ls[k]?=some ss) (gs:∀ss∈Ls,Gs xs ss) (pw:(Ls.map dU).Pairwise fun a b=>ltN 40 a b=true) (hY:Y=.lst ((cP xs).map D.str)) :
  sx (lS S φ M X a (.lst (Ls.map dU)) Y (.v (.int (k:Int))) (.v (dU ss)))=some (.nx (lS S φ M X a (.lst (Ls.map dU)) Y (.v (.int (k:Int))) (.v (dU ss)))):=by
 have G:=gs ss (Wa hs);have al:eI 6 [dU ss,dU ss]=some (.bl true,false):=oM (Mf (by have:=G.len;lia) fun s h=>by have:=(G.cf s h).ln;lia)
 have nb:jf (.lst ((cP xs).map D.str)) Y=some (.bl false,false):=by
  rw[hY];exact u5 fun d hd=>by
   obtain⟨x,_,rfl⟩:=Yc.mp hd;exact .str _ _
 refine ay (s:=lS S φ M X a (.lst (Ls.map dU)) Y (.v (.int (k:Int))) (.v (dU ss))) (g6 (Ez (rQ (c:=true) rfl) (Ez (rQ (c:=true) (aX (bQ (aE rfl (aE (bO rfl rfl (zB G hx)) rfl)) rfl al rfl) rfl)) (aX (aB (bO rfl rfl (Gu G hx)) rfl rfl rfl nb) rfl))) rfl) ?_;cases k with
 | zero=>exact g6 (wW rfl) rfl
 | succ k =>
  obtain⟨hk,e⟩:=Wb.mp hs;have g1:Mx (.int ((k+1:Nat):Int)) (.int 0)=some (.bl true,false):=O9 ⟨fun _=>by lia,fun _=>rfl⟩
  have sb:G4 (.int ((k+1:Nat):Int)) (.int 1)=some (.int (k:Int),false):=by
   show some (D.int (((k+1:Nat):Int)-1),false)=_;rw[show((k+1:Nat):Int) - 1=(k:Int) by lia]
  have ix:bE (.lst (Ls.map dU)) (.int (k:Int))=some (dU Ls[k],false):=iL (ld (Za (by lia)))
  have lt:Fo (dU Ls[k]) (dU ss)=some (.bl true,false):=by
   have:=Wg.mp pw k (k+1) (by rw[Ya];lia) (by rw[Ya];lia) (by lia)
   rw[Br,Br,e]at this;unfold Fo;rw[Ae ⟨(sS _).up,(sS _).up,wd _ _⟩,this]
  exact g6 (qw (aX (aB rfl rfl rfl rfl g1) rfl) (rQ (c:=true) (aX (aB (aB rfl (aB rfl rfl rfl rfl sb) rfl rfl ix) rfl rfl rfl lt) rfl))) rfl
theorem Iv (ns:List Int):NY [.fl (ns.map D.int)]=some (.bl true,false):=by
 have f0:iM (Fl ns 0 0 1 0):=⟨ns,0,0,1,0,rfl,by decide,by decide,by decide,by decide⟩
 obtain⟨n1,φ1,e1,u1,v1,f1⟩:=eX (n:=3) f0 (by decide) (by decide)
 obtain⟨n2,φ2,e2,u2,v2,f2⟩:=eX (n:=4) f1 (by decide) (by decide)
 obtain⟨n3,φ3,e3,u3,v3,f3⟩:=eX (n:=4) f2 (by decide) (by decide)
 generalize hS:D.fl (ns.map D.int)=S;have many:∃(m:Nat) (φ:D),m<5/\iM φ/\ls (aI (aH lG (pU bC 1 (ag (fC (.int 4)) aq)) (fC (.int 0)))) (bN (aH di (fC (.int 3)) (dW (b1 La) (ag (aH lG (pU bC 1 (ag (fC (.int 4)) aq)) (fC (.int 0))) aq))) 2) cI [.v S,.o φ1,.v (.int n1),.e,.e,.e,.e,.e,.e,.e]=some (.nx [.v S,.o φ,.v (.int (m:Int)),.e,.e,.e,.e,.e,.e,.e]):=by
  by_cases c:n2=0
  ·have t2:lG (.int n2) (.int 0)=some (.bl true,false):=L7 (by simp[c])
   have t3:lG (.int n3) (.int 0)=some (.bl (decide (n3=0)),false):=L7 (by simp)
   refine⟨if n3=0 then 4 else 3,φ3,by split<;>lia,f3,jV (aX (aB (d8 rfl rfl rfl rfl rfl rfl e2) rfl rfl rfl t2) rfl) (eY (aB rfl (bW (aE (aB (d8 rfl rfl rfl rfl rfl rfl e3) rfl rfl rfl t3) rfl) rfl rfl) rfl rfl (z:=(.int ((if n3=0 then 4 else 3:Nat):Int),false)) ?_) rfl)⟩
   by_cases d:n3=0
   ·rw[Af d,Ae d];rfl
   ·rw[Ad d,Ai d];rfl
  ·have t2:lG (.int n2) (.int 0)=some (.bl false,false):=L7 (by simp[c])
   refine⟨n1.toNat,φ2,by lia,f2,?_⟩
   rw[show((n1.toNat:Nat):Int)=n1 by lia]
   exact g6 (aX (aB (d8 rfl rfl rfl rfl rfl rfl e2) rfl rfl rfl t2) rfl) rfl
 obtain⟨m,φ,hm,fm,em⟩:=many;obtain⟨xs,φ4,e4,hxl,nm,nd,f4⟩:=FF (n:=(m:Int)) fm (by lia) (by lia)
 have hx:xs.length=m:=by lia
 obtain⟨Ls,es,ll,gs,pw⟩:=Iu nd nm (by lia)
 have so:=pH (d:=.lst (xs.map D.str)) (xs:=xs) rfl;have nX:jf (.lst (xs.map D.str)) (.lst (xs.map D.str))=some (.bl false,false):=u5 fun d hd=>by
  obtain⟨x,_,rfl⟩:=Yc.mp hd;exact .str _ _
 have tb:=Mq m hm;rw[hx]at ll;have lb:(Ls.map dU).length<=764:=by
  rw[Ya,ll];exact uX (by lia)
 have ln:fX [.lst (Ls.map dU)]=some (.int ((aa (2*m):Nat):Int),false):=by
  show some (D.int ((Ls.map dU).length:Nat),false)=_;rw[Ya,ll]
 have eqL:lG (.lst (Ls.map dU)) (.lst (Ls.map dU))=some (.bl true,false):=Gv fun d hd=>by
  obtain⟨y,_,rfl⟩:=Yc.mp hd;exact sS y
 have lA:oJ [.lst (xs.map D.str)]=some (.lst (xs.map D.str),true):=rfl;generalize hX:D.lst (xs.map D.str)=X at *;have loop:=fun a=>xI (i:=5) (fg:=gT 2 (vB (gN 7) (vB (gN 8) IP))) (B:=sx) (ds:=Ls.map dU) (fun k st=>∃s7 s8,st=lS S φ4 (.int (m:Int)) X a (.lst (Ls.map dU)) (.lst ((cP xs).map D.str)) s7 s8/\s7.isIo=false/\s8.isIo=false)
  (by
   rintro k x st hk ⟨s7,s8,rfl,i7,i8⟩ _;rw[Qc]at hk;obtain⟨ss,hs,rfl⟩:=Vc.mp hk
   exact⟨_,_,O8 (t:=s7) (u:=s8) rfl i7 rfl rfl i8 rfl,turn (s7:=s7) (s8:=s8) (by lia) hs gs pw rfl,rfl,_,_,rfl,rfl,rfl⟩) 99999 0 (lS S φ4 (.int (m:Int)) X a (.lst (Ls.map dU)) (.lst ((cP xs).map D.str)) .e .e) (by lia) (Yg _) ⟨.e,.e,rfl,rfl,rfl⟩ rfl
 obtain⟨sf,el,s7,s8,rfl,i7,i8⟩:=loop (.v X);refine bw (o:=.rt (.d (.bl true)) (if 3<m then [.v S,.o φ4,.v (.int (m:Int)),.o X,.v X,.o (.lst []),.o (.lst ((cP xs).map D.str)),s7,s8,.o (.lst (Ls.map dU))] else [.v S,.o φ4,.v (.int (m:Int)),.v X,.v X,.o (.lst []),.o (.lst ((cP xs).map D.str)),s7,s8,.o (.lst (Ls.map dU))])) rfl ?_ rfl;refine ay (s:=[.v S,.o (Fl ns 0 0 1 0),.e,.e,.e,.e,.e,.e,.e,.e]) (iQ (bO rfl rfl (hS ▸ HV ns)) rfl) ?_;refine ay (s:=[.v S,.o φ1,.v (.int n1),.e,.e,.e,.e,.e,.e,.e]) (eY (d8 rfl rfl rfl rfl rfl rfl e1) rfl) (ay em ?_);refine ay (s:=[.v S,.o φ4,.v (.int (m:Int)),.o X,.e,.e,.e,.e,.e,.e]) (iQ (d8 rfl rfl rfl rfl rfl rfl e4) rfl) ?_;refine ay (s:=[.v S,.o φ4,.v (.int (m:Int)),.o X,.o X,.e,.e,.e,.e,.e]) (iQ (bW rfl rfl lA) rfl) ?_;refine ay (s:=[.v S,.o φ4,.v (.int (m:Int)),.o X,.v X,.o (.lst (Ls.map dU)),.e,.e,.e,.e]) (iQ (bO rfl rfl es) rfl) ?_;refine ay (s:=[.v S,.o φ4,.v (.int (m:Int)),.o X,.v X,.o (.lst (Ls.map dU)),.e,.e,.e,.e]) (g6 (Ez (aX (aB rfl rfl rfl rfl nX) rfl) (Ez (rQ (c:=true) rfl) (aX (aB (bW rfl rfl ln) (aB (sJ rfl rfl (by show 5<=1000000;decide)) rfl rfl rfl tb) rfl rfl (Gw _)) rfl))) rfl) ?_
 refine ay (s:=[.v S,.o φ4,.v (.int (m:Int)),.o X,.v X,.o (.lst (Ls.map dU)),.o (.lst ((cP xs).map D.str)),.e,.e,.e]) (iQ (bW rfl rfl so) rfl) ?_;refine ay (s:=[.v S,.o φ4,.v (.int (m:Int)),.o X,.v X,.o (.lst (Ls.map dU)),.o (.lst ((cP xs).map D.str)),s7,s8,.e]) el ?_;refine ay (s:=[.v S,.o φ4,.v (.int (m:Int)),.o X,.v X,.o (.lst (Ls.map dU)),.o (.lst ((cP xs).map D.str)),s7,s8,.o (.lst (Ls.map dU))]) (iQ (bW rfl rfl rfl) rfl) ?_;refine ay (s:=[.v S,.o φ4,.v (.int (m:Int)),.o X,.v X,.o (.lst []),.o (.lst ((cP xs).map D.str)),s7,s8,.o (.lst (Ls.map dU))]) (fF (NB rfl rfl rfl rfl)) ?_;refine br ?_;by_cases c:3<m
 ·rw[Ae c];exact On (aB rfl rfl rfl rfl (O9 (b:=true) ⟨fun _=>by lia,fun _=>rfl⟩)) rfl
 ·rw[Ai c];exact Op (aB rfl rfl rfl rfl (O9 (b:=false) ⟨fun z=>(by cases z),fun z=>absurd z (by lia)⟩)) rfl (aB (bO rfl rfl es) rfl rfl rfl eqL)
end
end K59
namespace K59
open PySem L2 VF VF22
section
variable (P:Program) (w:World) (K:PySem.W.Frag) (mg:Str->Option Value) (base:Heap)
abbrev gF:=Cal P w K mg base "is_turned" 1 vf (gX K cq)
abbrev fT:=Cal P w K mg base "name_of" 2 vf (gX K bU)
abbrev lr:=Cal P w K mg base "mirrored" 3 vf (gX K eM)
abbrev gh:=Cal P w K mg base "turned_beads" 4 zo (gX K cQ)
abbrev mi:=Cal P w K mg base "canon_open" 5 zo (gX K iG)
abbrev kj:=Cal P w K mg base "first_place" 3 zo (gX K cE)
abbrev mj:=Cal P w K mg base "canon_ring" 5 zo (gX K iH)
abbrev jx:=Cal P w K mg base "canon_strand" 6 GB (gX K cR)
abbrev km:=Cal P w K mg base "strand_rank" 3 GB (gX K cF)
abbrev yk:=Cal P w K mg base "canon" 7 ["some"] (gX K sv)
abbrev kn:=Cal P w K mg base "ends_beyond" 1 MC (gX K gO)
abbrev qV:=Cal P w K mg base "bead_at" 4 ["end"] (gX K jK)
abbrev u6:=Cal P w K mg base "across" 1 ["end"] (gX K lQ)
abbrev mq:=Cal P w K mg base "beads_from" 5 ["begin","beyond"] (gX K fK)
abbrev u7:=Cal P w K mg base "set_of" 8 MC (gX K pq)
abbrev m6:=Cal P w K mg base "matchings" 9 ["ends"] (gX K (dR 9))
abbrev pI:=Cal P w K mg base "all_sets" 10 ["names"] (gX K iJ)
abbrev pJ:=Cal P w K mg base "_law_flow" 1 MD (gX K kR)
abbrev gi:=Cal P w K mg base "_law_pick" 1 HS (rA K bC)
abbrev gQ:=Cal P w K mg base "_law_letters" 2 HS (rA K dj)
abbrev pK:=Cal P w K mg base "_law_name" 3 ["_law_flow_here","_law_stem"] (rA K kU)
abbrev m7:=Cal P w K mg base "_law_names" 4 HS (rA K jn)
abbrev m8:=Cal P w K mg base "_law_alike" 6 ME (gX K (eI 6))
abbrev jy:=Cal P w K mg base "_law_mirrored" 1 zE (gX K f8)
abbrev ig:=Cal P w K mg base "_law_first_name" 1 HU (gX K bc)
abbrev nc:=Cal P w K mg base "_law_canon" 4 ["_law_some"] (gX K jq)
abbrev ii:=Cal P w K mg base "_law_bare_names" 1 ["_law_some"] (gX K eN)
end
section
variable {P:Program} {w:World} {K:PySem.W.Frag} {mg:Str->Option Value} {base:Heap}
theorem sV (M:Md mg):jH P w K mg base "is_turned" mL vf 0 mW:=fun hr=>⟨_,(aA (aR (mR PySem.F.plainAttrs_str PySem.F.slot_str_startswith PySem.F.type_str_startswith pR (pv 0) (aF cw ak)))),
  (aS (wI yT (af 0) (ae (cG _) ah)))⟩
theorem we (M:Md mg) (c0:gF P w K mg base):jH P w K mg base "name_of" sy vf 1 qJ:=fun hr=>⟨_,(aA (aR (fU (gG (aJ c0 hr rfl (aF (pv 0) ak))) (cM (vJ (K:=K) rfl) (pv 0) (dr ai) eP) (pv 0)))),
  (aS (oE (jX (bJ (ae (af 0) ah))) (cO rN (af 0) (cC (aj _)) gL) (af 0)))⟩
theorem u8 (M:Md mg) (c0:gF P w K mg base) (c1:fT P w K mg base):jH P w K mg base "mirrored" mM vf 2 pj:=fun hr=>⟨_,(aA (aR (fU (gG (aJ c0 hr rfl (aF (pv 0) ak))) (aJ c1 hr rfl (aF (pv 0) ak)) (bX K cw (pv 0))))),
  (aS (oE (jX (bJ (ae (af 0) ah))) (bJ (ae (af 0) ah)) (ao ro_addA (cG _) (af 0))))⟩
theorem nI (M:Md mg) (c2:lr P w K mg base):jH P w K mg base "turned_beads" fL zo 3 jj:=fun hr=>⟨_,(aA (aR (gA K M.n_tuple (fD (et (osc:=(az fL)) (ON:=zo) (N:=vf) (k:=1) (caps:=[]) (by decide +kernel) rfl rfl) rfl (ue (K:=K) rfl rfl rfl M.n_reversed (pv 0)) (fun _ _ _ _=>(cA 0 (by show(vf:List Str).Nodup;decide +kernel))) (fun _ _ _ _=>dw) (fun _ _ _ _=>(aJ c2 hr rfl (aF (pv 0) ak))))))),
  (aS (bn dO (ae (cW (K6 (af 0)) (bB 0) (by decide) fv (bJ (ae (af 0) ah))) ah)))⟩
theorem qa (M:Md mg) (c1:fT P w K mg base) (c3:gh P w K mg base):jH P w K mg base "canon_open" kW zo 4 lO:=fun hr=>⟨_,(am (cH (aY dJ (d6 K M.n_len (pv 0)) ai) (aA (aR (dC (aF (aJ c1 hr rfl (aF (aK K (pv 0) ai) ak)) ak)))) bG)
   (am (cH (aY Ei (aJ c1 hr rfl (aF (aK K (pv 0) ai) ak)) (aJ c1 hr rfl (aF (aK K (pv 0) (tE oy ai)) ak))) (aA (aR (gA K M.n_tuple (pv 0)))) bG)
   (aA (aR (aJ c3 hr rfl (aF (pv 0) ak)))))),
  (aD (cJ (aP (ao ro_eqA (bn fY (ae (af 0) ah)) (aj _))) (aS (dE (ae (bJ (ae (ao aZ (af 0) (aj _)) ah)) ah))) bH)
   (aD (cJ (aP (ao Ej (bJ (ae (ao aZ (af 0) (aj _)) ah)) (bJ (ae (ao aZ (af 0) (tQ oH (aj _))) ah)))) (aS (bn dO (ae (af 0) ah))) bH)
   (aS (bM (ae (af 0) ah)))))⟩
theorem pL (M:Md mg) (c1:fT P w K mg base):jH P w K mg base "first_place" gB ["beads","names"] 2 j9:=fun hr=>⟨_,(am (rz 1 (et (osc:=(az gB)) (ON:=["beads","names"]) (N:=vf) (k:=1) (caps:=[]) (by decide +kernel) rfl rfl) rfl sc_sfirstplace.nd (db (K:=K) rfl (pv 0)) (fun _ _ _ _=>(cA 0 (by show(vf:List Str).Nodup;decide +kernel))) (fun _ _ _ _=>dw) (fun _ _ _ _=>(aJ c1 hr rfl (aF (pv 0) ak))))
   (aA (aR (mR PySem.F.plainAttrs_list PySem.F.slot_list_index PySem.F.type_list_index (uH (K:=K) rfl) (pv 1) (aF (cL (qH (K:=K) rfl rfl) rfl M.n_min DG (aF (pv 1) ak)) ak))))),
  (aD (aW (cW (de (af 0)) (bB 0) (by decide) fv (bJ (ae (af 0) ah))))
   (aS (wI uI (af 1) (ae (bn xG (ae (af 1) ah)) ah))))⟩
theorem qb (M:Md mg) (c0:gF P w K mg base) (c3:gh P w K mg base) (c5:kj P w K mg base):jH P w K mg base "canon_ring" kX ["beads","side","begin"] 4 lP:=fun hr=>⟨_,(am (bF 1 sc_scanonring.nd (fU (gG (aJ c0 hr rfl (aF (aK K (pv 0) (aJ c5 hr rfl (aF (pv 0) ak))) ak))) (aJ c3 hr rfl (aF (pv 0) ak)) (gA K M.n_tuple (pv 0))))
   (am (bF 2 sc_scanonring.nd (aJ c5 hr rfl (aF (pv 1) ak)))
   (aA (aR (ci (gy (K:=K) rfl) (cM (fH (K:=K) rfl) (pv 1) (dr (pv 2)) eP) (cM (fH (K:=K) rfl) (pv 1) eP (dr (pv 2)))))))),
  (aD (aW (oE (jX (bJ (ae (ao aZ (af 0) (bJ (ae (af 0) ah))) ah))) (bM (ae (af 0) ah)) (bn dO (ae (af 0) ah))))
   (aD (aW (bJ (ae (af 1) ah)))
   (aS (ao gz (cO dY (af 1) (cC (af 2)) gL) (cO dY (af 1) gL (cC (af 2)))))))⟩
theorem nJ (M:Md mg) (c4:mi P w K mg base) (c6:mj P w K mg base):jH P w K mg base "canon_strand" iK GB 5 jk:=fun hr=>⟨_,(am (cH (aY dJ (aK K (pv 0) ai) cw) (aA (aR (dC (aF cw (aF (aJ c4 hr rfl (aF (aK K (pv 0) ai) ak)) ak))))) bG)
   (aA (aR (dC (aF cw (aF (aJ c6 hr rfl (aF (aK K (pv 0) ai) ak)) ak)))))),
  (aD (cJ (aP (ao ro_eqA (ao aZ (af 0) (aj _)) (cG _))) (aS (dE (ae (cG _) (ae (bM (ae (ao aZ (af 0) (aj _)) ah)) ah)))) bH)
   (aS (dE (ae (cG _) (ae (bM (ae (ao aZ (af 0) (aj _)) ah)) ah)))))⟩
theorem pM (M:Md mg) (c1:fT P w K mg base):jH P w K mg base "strand_rank" jr GB 2 kc:=fun hr=>⟨_,(aA (aR (dC (aF (fJ dJ (aK K (pv 0) ai) cw) (aF (aJ c1 hr rfl (aF (aK K (aK K (pv 0) ai) ai) ak)) ak))))),
  (aS (dE (ae (ao ro_eqA (ao aZ (af 0) (aj _)) (cG _)) (ae (bJ (ae (ao aZ (ao aZ (af 0) (aj _)) (aj _)) ah)) ah))))⟩
theorem Gx (M:Md mg) (c7:jx P w K mg base) (c8:km P w K mg base):jH P w K mg base "canon" sA ["some"] 6 xM:=fun hr=>⟨_,(aA (aR (gA K M.n_tuple (o8 (K:=K) rfl c8 hr rfl M.n_sorted rfl (aF (fD (et (osc:=(az sA)) (ON:=["some"]) (N:=GB) (k:=1) (caps:=[]) (by decide +kernel) rfl rfl) rfl (db (K:=K) rfl (pv 0)) (fun _ _ _ _=>(cA 0 (by show(GB:List Str).Nodup;decide +kernel))) (fun _ _ _ _=>dw) (fun _ _ _ _=>(aJ c7 hr rfl (aF (pv 0) ak)))) ak))))),
  (aS (bn dO (ae (bn o7 (ae (cW (de (af 0)) (bB 0) (by decide) fv (bM (ae (af 0) ah))) ah)) ah)))⟩
theorem pN (M:Md mg):jH P w K mg base "ends_beyond" jt ["joints","beyond","joint"] 0 kf:=fun hr=>⟨_,(am (bF 1 sc_sendsbeyond.nd DN)
   (am (ip Au rfl (db (K:=K) rfl (pv 0)) (cA 2 sc_sendsbeyond.nd) (am (gH (fU (aY dJ (d6 K M.n_len (pv 2)) ai) (aK K (pv 2) ai) ku) (ik (pv 1) (aK K (pv 2) ai) (mI (mS hr))))
   (aA (gH (fU (aY dJ (d6 K M.n_len (pv 2)) ai) (aK K (pv 2) ai) ku) (ik (pv 1) (aK K (pv 2) (tE oy ai)) (mI (mS hr)))))))
   (aA (aR (pv 1))))),
  (aD (aW Fe)
   (aD (i9 (de (af 0)) (bB 2) (aD (iw mH (oE (aP (ao ro_eqA (bn fY (ae (af 2) ah)) (aj _))) (ao aZ (af 2) (aj _)) kx) (ao aZ (af 2) (aj _)))
   (iw mH (oE (aP (ao ro_eqA (bn fY (ae (af 2) ah)) (aj _))) (ao aZ (af 2) (aj _)) kx) (ao aZ (af 2) (tQ oH (aj _))))))
   (aS (af 1))))⟩
theorem wf (M:Md mg) (c2:lr P w K mg base):jH P w K mg base "bead_at" sB ["end"] 3 qK:=fun hr=>⟨_,(aA (aR (fU (aY dJ (aK K (pv 0) ai) ai) (aK K (pv 0) ai) (aJ c2 hr rfl (aF (aK K (pv 0) ai) ak))))),
  (aS (oE (aP (ao ro_eqA (ao aZ (af 0) (aj _)) (aj _))) (ao aZ (af 0) (aj _)) (bJ (ae (ao aZ (af 0) (aj _)) ah))))⟩
theorem zC (M:Md mg):jH P w K mg base "across" sC ["end"] 0 uN:=fun hr=>⟨_,(aA (aR (dC (aF (aK K (pv 0) ai) (aF (ci zQ ai (aK K (pv 0) ai)) ak))))),
  (aS (dE (ae (ao aZ (af 0) (aj _)) (ae (ao D9 (aj _) (ao aZ (af 0) (aj _))) ah))))⟩
theorem qc (M:Md mg) (c11:qV P w K mg base) (c12:u6 P w K mg base):jH P w K mg base "beads_from" kY ["begin","beyond","beads","here"] 4 lR:=fun hr=>⟨_,(am (bF 2 sc_sbeadsfrom.nd (fq (aF (aJ c11 hr rfl (aF (pv 0) ak)) ak)))
   (am (bF 3 sc_sbeadsfrom.nd (lK (mS hr) (pv 1) (aJ c12 hr rfl (aF (pv 0) ak)) (fun _ _=>rfl)))
   (am (tz Au (PW.pt (qX (aY GG (pv 3) ku) (nM (aY (rS (K:=K) rfl hr.units) (pv 3) (pv 0))))) (am (fB (lL (pv 2) (aJ c11 hr rfl (aF (pv 3) ak))))
   (aA (bF 3 sc_sbeadsfrom.nd (lK (mS hr) (pv 1) (aJ c12 hr rfl (aF (pv 3) ak)) (fun _ _=>rfl))))))
   (aA (aR (gA K M.n_tuple (pv 2))))))),
  (aD (aW (eG (ae (bM (ae (af 0) ah)) ah)))
   (aD (aW (ao n6 (af 1) (bM (ae (af 0) ah))))
   (aD (tU 100 (nQ (aP (ao G5 (af 3) kx)) (aP (ao rT (af 3) (af 0)))) (aD (fE (tV gZ (ae (bM (ae (af 3) ah)) ah)))
   (aW (ao n6 (af 1) (bM (ae (af 3) ah))))))
   (aS (bn dO (ae (af 2) ah))))))⟩
theorem zD (M:Md mg) (c1:fT P w K mg base) (c9:yk P w K mg base) (c10:kn P w K mg base) (c13:mq P w K mg base):jH P w K mg base "set_of" sD LN 7 uO:=fun hr=>⟨_,(am (bF 1 sc_ssetof.nd (aJ c10 hr rfl (aF (pv 0) ak)))
   (am (rz 2 (et (osc:=(az sD)) (ON:=LN) (N:=["end","beyond"]) (k:=1) (caps:=[1]) (by decide +kernel) rfl rfl) rfl sc_ssetof.nd (db (K:=K) rfl (cL (oZ (K:=K) rfl rfl hr) rfl M.n_sorted boot_sorted (aF (pv 1) ak))) (fun _ _ _ _=>(cA 0 (by show(["end","beyond"]:List Str).Nodup;decide +kernel))) (fun _ _ _ _=>GS (aY q0 (lK (mS hr) (pv 1) (pv 0) (fun _ _=>rfl)) ku)) (fun _ _ _ _=>(pv 0)))
   (am (bF 3 sc_ssetof.nd (fq ak))
   (am (bF 4 sc_ssetof.nd DM)
   (am (ip Au rfl (db (K:=K) rfl (bX K (pv 2) (cL (oZ (K:=K) rfl rfl hr) rfl M.n_sorted boot_sorted (aF (pv 1) ak)))) (cA 5 sc_ssetof.nd) (aA (cH (q8 (zd (mS hr)) (aK K (pv 5) ai) (pv 4) (by with_unfolding_all rfl)) (am (bF 6 sc_ssetof.nd (aJ c13 hr rfl (aF (pv 5) (aF (pv 1) ak))))
   (am (fB (lL (pv 3) (dC (aF (fU (aY q0 (lK (mS hr) (pv 1) (pv 5) (fun _ _=>rfl)) ku) cw cw) (aF (pv 6) ak)))))
   (aA (ip Au rfl (db (K:=K) rfl (pv 6)) (cA 7 sc_ssetof.nd) (aA (gH tw (ik (pv 4) (aJ c1 hr rfl (aF (pv 7) ak)) (mI (mS hr))))))))) bG)))
   (aA (aR (aJ c9 hr rfl (aF (pv 3) ak))))))))),
  (aD (aW (bM (ae (af 0) ah)))
   (aD (aW (cW (de (bn uG (ae (af 1) ah))) (bB 0) (by decide) (aP (ao rJ (ao n6 (af 1) (af 0)) kx)) (af 0)))
   (aD (aW (eG ah))
   (aD (aW Ff)
   (aD (i9 (de (ao ro_addA (af 2) (bn uG (ae (af 1) ah)))) (bB 5) (cJ (aP (ao (Lu true) (ao aZ (af 5) (aj _)) (af 4))) (aD (aW (bM (ae (af 5) (ae (af 1) ah))))
   (aD (fE (tV gZ (ae (dE (ae (oE (aP (ao rJ (ao n6 (af 1) (af 5)) kx)) (cG _) (cG _)) (ae (af 6) ah))) ah)))
   (i9 (de (af 6)) (bB 7) (iw mH (tP _) (bJ (ae (af 7) ah)))))) bH))
   (aS (bM (ae (af 3) ah))))))))⟩
theorem sW {n:Nat} {gs:List D->Option Rz} (M:Md mg) (c15:Cal P w K mg base "matchings" n ["ends"] (gX K gs)):jH P w K mg base "matchings" gf OD n (mX gs):=fun hr=>⟨_,(am (cH (aY dJ (d6 K M.n_len (pv 0)) ai) (aA (aR (fq (aF (dC ak) ak)))) bG)
   (am (rz 1 (et (osc:=(az gf)) (ON:=OD) (N:=["rest","ends"]) (k:=1) (caps:=[0]) (by decide +kernel) rfl rfl) rfl sc_smatchings.nd (db (K:=K) rfl (aJ c15 hr rfl (aF (cM (fH (K:=K) rfl) (pv 0) (dr ai) eP) ak) (Xa _))) (fun _ _ _ _=>(cA 0 (by show(["rest","ends"]:List Str).Nodup;decide +kernel))) (fun _ _ _ _=>dw) (fun _ _ _ _=>(ci (gy (K:=K) rfl) (dC (aF (dC (aF (aK K (pv 1) ai) ak)) ak)) (pv 0))))
   (am (ip Au rfl (yu rfl M.n_range (aF ai (aF (d6 K M.n_len (pv 0)) ak))) (cA 2 sc_smatchings.nd) (aA (fB (mR PySem.F.plainAttrs_list PySem.F.slot_list_extend PySem.F.type_list_extend (kF (K:=K) rfl rfl) (pv 1) (aF (fD (et (osc:=(az gf)) (ON:=OD) (N:=["rest","ends","k"]) (k:=1) (caps:=[0,2]) (by decide +kernel) rfl rfl) rfl (db (K:=K) rfl (aJ c15 hr rfl (aF (ci (gy (K:=K) rfl) (cM (fH (K:=K) rfl) (pv 0) (dr ai) (dr (pv 2))) (cM (fH (K:=K) rfl) (pv 0) (dr (ci (gy (K:=K) rfl) (pv 2) ai)) eP)) ak) (Xa _))) (fun _ _ _ _=>(cA 0 (by show(["rest","ends","k"]:List Str).Nodup;decide +kernel))) (fun _ _ _ _=>dw) (fun _ _ _ _=>(ci (gy (K:=K) rfl) (dC (aF (dC (aF (aK K (pv 1) ai) (aF (aK K (pv 1) (pv 2)) ak))) ak)) (pv 0)))) ak)))))
   (aA (aR (pv 1)))))),
  (aD (cJ (aP (ao ro_eqA (bn fY (ae (af 0) ah)) (aj _))) (aS (eG (ae (dE ah) ah))) bH)
   (aD (aW (cW (de (bM (ae (cO dY (af 0) (cC (aj _)) gL) ah))) (bB 0) (by decide) fv (ao gz (dE (ae (dE (ae (ao aZ (af 1) (aj _)) ah)) ah)) (af 0))))
   (aD (i9 (G1 (ae (aj _) (ae (bn fY (ae (af 0) ah)) ah))) (bB 2) (fE (tV mF (ae (cW (de (bM (ae (ao gz (cO dY (af 0) (cC (aj _)) (cC (af 2))) (cO dY (af 0) (cC (ao gz (af 2) (aj _))) gL)) ah))) (bB 0) (by decide) fv (ao gz (dE (ae (dE (ae (ao aZ (af 1) (aj _)) (ae (ao aZ (af 1) (af 2)) ah))) ah)) (af 0))) ah))))
   (aS (af 1)))))⟩
theorem u9 (M:Md mg) (c14:u7 P w K mg base) (c15:m6 P w K mg base):jH P w K mg base "all_sets" lU LO 9 pr:=fun hr=>⟨_,(am (bF 1 sc_sallsets.nd (fq ak))
   (am (ip Au rfl (db (K:=K) rfl (cL (iF (K:=K) rfl hr) rfl M.n_sorted boot_sorted (aF (pv 0) ak))) (cA 2 sc_sallsets.nd) (aA (fB (mR PySem.F.plainAttrs_list PySem.F.slot_list_extend PySem.F.type_list_extend (kF (K:=K) rfl rfl) (pv 1) (aF (fq (aF (dC (aF (pv 2) (aF ai ak))) (aF (dC (aF (pv 2) (aF ai ak))) ak))) ak)))))
   (aA (aR (cL (iF (K:=K) rfl hr) rfl M.n_sorted boot_sorted (aF (fD (et (osc:=(az lU)) (ON:=LO) (N:=MC) (k:=1) (caps:=[]) (by decide +kernel) rfl rfl) rfl (db (K:=K) rfl (aJ c15 hr rfl (aF (pv 1) ak))) (fun _ _ _ _=>(cA 0 (by show(MC:List Str).Nodup;decide +kernel))) (fun _ _ _ _=>dw) (fun _ _ _ _=>(aJ c14 hr rfl (aF (pv 0) ak)))) ak)))))),
  (aD (aW (eG ah))
   (aD (i9 (de (bn lI (ae (af 0) ah))) (bB 2) (fE (tV mF (ae (eG (ae (dE (ae (af 2) (ae (aj _) ah))) (ae (dE (ae (af 2) (ae (aj _) ah))) ah))) ah))))
   (aS (bn lI (ae (cW (de (bM (ae (af 1) ah))) (bB 0) (by decide) fv (bM (ae (af 0) ah))) ah)))))⟩
theorem va (M:Md mg):jH P w K mg base "_law_flow" vY MD 0 px:=fun hr=>⟨_,(aA (aR (xD (jY (gU (kD (K:=K) rfl rfl) rfl M.n_list ee (aF (pv 0) ak)) (jY ai (jY ai (jY ai (jY ai xC rfl) rfl) rfl) rfl) rfl)))),
  (aS (eG (ae (bn oK (ae (af 0) ah)) (ae (aj _) (ae (aj _) (ae (aj _) (ae (aj _) ah)))))))⟩
theorem vb (M:Md mg):jH P w K mg base "_law_pick" vZ N0 0 kT:=fun hr=>⟨_,(am (cH (PW.pt (qX (aY dJ (aK K (pv 0) ai) ai) (nM (aY Ei (aK K (pv 0) ai) (d6 K M.n_len (aK K (pv 0) ai)))))) (am (bF 2 sc_sLpick.nd (aK K (aK K (pv 0) ai) (aK K (pv 0) ai)))
   (am (gH (bX K (aK K (pv 0) ai) ai) (ik (pv 0) ai set_list))
   (aA (cH (aY MX (pv 2) (ci JM ai ai)) (aA (gH (pv 2) (ik (pv 0) ai set_list))) (aA (gH (ci iW (bX K (bX K (ci nS (aK K (pv 0) ai) ai) (ci iW (pv 2) ai)) ai) ai) (ik (pv 0) ai set_list))))))) bG)
   (am (cH (aY zS (aK K (pv 0) ai) ai) (am (bF 3 sc_sLpick.nd (ci iW (aK K (pv 0) ai) (pv 1)))
   (am (gH (ci nN (aK K (pv 0) ai) (pv 1)) (ik (pv 0) ai set_list))
   (aA (aR (pv 3))))) bG)
   (am (gH (bX K (aK K (pv 0) ai) ai) (ik (pv 0) ai set_list))
   (am (gH (ci iW (bX K (bX K (ci nS (aK K (pv 0) ai) ai) ai) (aK K (pv 0) ai)) ai) (ik (pv 0) ai set_list))
   (aA (aR (ci iW (ci nN (ci iW (ci nS (bX K (ci iW (aK K (pv 0) ai) ai) ai) (bX K (ci nN (aK K (pv 0) ai) ai) ai)) ai) ai) (pv 1)))))))),
  (aD (cJ (nQ (aP (ao ro_eqA (ao aZ (af 0) (aj _)) (aj _))) (aP (ao Ej (ao aZ (af 0) (aj _)) (bn fY (ae (ao aZ (af 0) (aj _)) ah))))) (aD (aW (ao aZ (ao aZ (af 0) (aj _)) (ao aZ (af 0) (aj _))))
   (aD (iw fQ (ao ro_addA (ao aZ (af 0) (aj _)) (aj _)) (aj _))
   (cJ (aP (ao Nk (af 2) (ao Ky (aj _) (aj _)))) (iw fQ (af 2) (aj _)) (iw fQ (ao jb (ao ro_addA (ao ro_addA (ao nT (ao aZ (af 0) (aj _)) (aj _)) (ao jb (af 2) (aj _))) (aj _)) (aj _)) (aj _))))) bH)
   (aD (cJ (aP (ao Ea (ao aZ (af 0) (aj _)) (aj _))) (aD (aW (ao jb (ao aZ (af 0) (aj _)) (af 1)))
   (aD (iw fQ (ao rH (ao aZ (af 0) (aj _)) (af 1)) (aj _))
   (aS (af 3)))) bH)
   (aD (iw fQ (ao ro_addA (ao aZ (af 0) (aj _)) (aj _)) (aj _))
   (aD (iw fQ (ao jb (ao ro_addA (ao ro_addA (ao nT (ao aZ (af 0) (aj _)) (aj _)) (aj _)) (ao aZ (af 0) (aj _))) (aj _)) (aj _))
   (aS (ao jb (ao rH (ao jb (ao nT (ao ro_addA (ao jb (ao aZ (af 0) (aj _)) (aj _)) (aj _)) (ao ro_addA (ao rH (ao aZ (af 0) (aj _)) (aj _)) (aj _))) (aj _)) (aj _)) (af 1)))))))⟩
theorem pO (M:Md mg) (c18:gi P w K mg base):jH P w K mg base "_law_letters" jL HS 1 ki:=fun hr=>⟨_,(aA (aR (mR PySem.F.plainAttrs_str PySem.F.slot_str_join PySem.F.type_str_join GU cw (aF (fD (et (osc:=(az jL)) (ON:=HS) (N:=["_law_k","_law_flow_here"]) (k:=1) (caps:=[0]) (by decide +kernel) rfl rfl) rfl (my rfl M.n_range (aF (pv 1) ak)) (fun _ _ _ _=>(cA 0 (by show(["_law_k","_law_flow_here"]:List Str).Nodup;decide +kernel))) (fun _ _ _ _=>dw) (fun _ _ _ _=>(aK K cw (aJ c18 hr rfl (aF (pv 1) (aF ai ak)))))) ak)))),
  (aS (wI Hd (cG _) (ae (cW (rD (ae (af 1) ah)) (bB 0) (by decide) fv (ao aZ (cG _) (fW (ae (aj _) ah)))) ah)))⟩
theorem vc (M:Md mg) (c18:gi P w K mg base) (c19:gQ P w K mg base):jH P w K mg base "_law_name" v0 N1 2 pz:=fun hr=>⟨_,(am (cH (aY (rM (K:=K) rfl hr.units) (pv 1) cw) (aA (aR (bX K (pv 1) (aJ c19 hr rfl (aF (pv 0) (aF (bX K ai (aJ c18 hr rfl (aF (pv 0) (aF ai ak)))) ak)))))) bG)
   (@am _ _ _ _ _ (cH (aY dJ (aJ c18 hr rfl (aF (pv 0) (aF ai ak))) ai) (@am _ _ _ _ _ (@bF _ _ _ _ 2 _ _ sc_sLname.nd (@fq _ _ _ _ (@rq _ _ _ (by rfl))) (by rfl) (by first|exact Or.inl rfl|exact Or.inr rfl) (by first|exact .inl rfl|exact .inr rfl) (by rfl) (by rfl) (by rfl))
   (am (bF 2 sc_sLname.nd (bX K (pv 2) (@fq _ _ _ _ (@rq _ _ _ (by rfl)))))
   (aA (aR (aK K (pv 2) (aJ c18 hr rfl (aF (pv 0) (aF ai ak)))))))) bG)
   (aA (aR (aJ c19 hr rfl (aF (pv 0) (aF (bX K ai (aJ c18 hr rfl (aF (pv 0) (aF ai ak)))) ak))))))),
  (aD (cJ (aP (ao ro_neA (af 1) (cG _))) (aS (ao ro_addA (af 1) (fW (ae (ao ro_addA (aj _) (fW (ae (aj _) ah))) ah)))) bH)
   (aD (cJ (aP (ao ro_eqA (fW (ae (aj _) ah)) (aj _))) (aD (aW (eG wK))
   (aD (aW (ao ro_addA (af 2) (eG wK)))
   (aS (ao aZ (af 2) (fW (ae (aj _) ah)))))) bH)
   (aS (fW (ae (ao ro_addA (aj _) (fW (ae (aj _) ah))) ah)))))⟩
theorem sX (M:Md mg) (c18:gi P w K mg base) (c19:gQ P w K mg base) (c20:pK P w K mg base):jH P w K mg base "_law_names" sE N2 3 jm:=fun hr=>⟨_,(am (bF 2 sc_sLnames.nd cw)
   (am (cH (aY dJ (aJ c18 hr rfl (aF (pv 0) (aF ai ak))) ai) (aA (bF 2 sc_sLnames.nd (aJ c19 hr rfl (aF (pv 0) (aF (bX K ai (aJ c18 hr rfl (aF (pv 0) (aF ai ak)))) ak))))) bG)
   (am (bF 3 sc_sLnames.nd (fq ak))
   (am (ip Au rfl (my rfl M.n_range (aF (pv 1) ak)) (cA 4 sc_sLnames.nd) (am (bF 5 sc_sLnames.nd (aJ c20 hr rfl (aF (pv 0) (aF (pv 2) ak))))
   (am (bF 6 sc_sLnames.nd ai)
   (am (tz Au (q8 (KP (K:=K) rfl) (pv 5) (pv 3) (by with_unfolding_all rfl)) (am (bF 5 sc_sLnames.nd (ci nS (aK K cw (ci iW (pv 6) ai)) (bX K ai (ci nN (pv 6) ai))))
   (aA (bF 6 sc_sLnames.nd (bX K (pv 6) ai)))))
   (aA (fB (lL (pv 3) (pv 5))))))))
   (aA (aR (pv 3))))))),
  (aD (aW (cG _))
   (aD (cJ (aP (ao ro_eqA (fW (ae (aj _) ah)) (aj _))) (aW (fW (ae (ao ro_addA (aj _) (fW (ae (aj _) ah))) ah))) bH)
   (aD (aW (eG ah))
   (aD (i9 (rD (ae (af 1) ah)) (bB 4) (aD (aW (fW (ae (af 2) ah)))
   (aD (aW (aj _))
   (aD (tU 200 (aP (ao KQ (af 5) (af 3))) (aD (aW (ao nT (ao aZ (cG _) (ao jb (af 6) (aj _))) (ao ro_addA (aj _) (ao rH (af 6) (aj _)))))
   (aW (ao ro_addA (af 6) (aj _)))))
   (fE (tV gZ (ae (af 5) ah)))))))
   (aS (af 3))))))⟩
theorem sY {n:Nat} {gs:List D->Option Rz} (M:Md mg) (c22:Cal P w K mg base "_law_alike" n ME (gX K gs)):jH P w K mg base "_law_alike" og ME n (mY gs):=fun hr=>⟨_,(am (cH (aY q0 (pv 1) ku) (aA (aR (fJ q0 (pv 0) ku))) bG)
   (am (cH (PW.pt (on (gG (cK K M.n_isinstance (pv 1) (gx rfl M.n_bool iu))) (om (gG (cK K M.n_isinstance (pv 0) (gx rfl M.n_bool iu)))))) (aA (aR (ot (cK K M.n_isinstance (pv 1) (gx rfl M.n_bool iu)) (ot (cK K M.n_isinstance (pv 0) (gx rfl M.n_bool iu)) (oq (fJ dJ (pv 0) (pv 1))))))) bG)
   (am (cH (gG (cK K M.n_isinstance (pv 1) (gx rfl M.n_int mD))) (aA (aR (ot (cK K M.n_isinstance (pv 0) (gx rfl M.n_int mD)) (oq (fJ dJ (pv 0) (pv 1)))))) bG)
   (am (cH (gG (cK K M.n_isinstance (pv 1) (gx rfl M.n_str qp))) (aA (aR (ot (cK K M.n_isinstance (pv 0) (gx rfl M.n_str qp)) (oq (fJ dJ (pv 0) (pv 1)))))) bG)
   (am (cH (PW.pt (on (aY (rM (K:=K) rfl hr.units) (cK K M.n_isinstance (pv 1) (gx rfl M.n_tuple gp)) (cK K M.n_isinstance (pv 0) (gx rfl M.n_tuple gp))) (om (aY (rM (K:=K) rfl hr.units) (cK K M.n_isinstance (pv 1) (gx rfl M.n_list ee)) (cK K M.n_isinstance (pv 0) (gx rfl M.n_list ee)))))) (aA (aR tw)) bG)
   (aA (aR (ot (fJ dJ (d6 K M.n_len (pv 0)) (d6 K M.n_len (pv 1))) (oq (cL (DW rfl) rfl M.n_all boot_all (aF (fD (et (osc:=(az og)) (ON:=ME) (N:=["_law_k","_law_found","_law_due"]) (k:=1) (caps:=[0,1]) (by decide +kernel) rfl rfl) rfl (my rfl M.n_range (aF (d6 K M.n_len (pv 1)) ak)) (fun _ _ _ _=>(cA 0 (by show(["_law_k","_law_found","_law_due"]:List Str).Nodup;decide +kernel))) (fun _ _ _ _=>dw) (fun _ _ _ _=>(aJ c22 hr rfl (aF (aK K (pv 1) (pv 0)) (aF (aK K (pv 2) (pv 0)) ak)) (Xa _)))) ak))))))))))),
  (aD (cJ (aP (ao rJ (af 1) kx)) (aS (ao rJ (af 0) kx)) bH)
   (aD (cJ (ky (jX (bn bT (ae (af 1) (ae (iS fun _ _=>.ty _) ah)))) (jX (bn bT (ae (af 0) (ae (iS fun _ _=>.ty _) ah))))) (aS (lE (bn bT (ae (af 1) (ae (iS fun _ _=>.ty _) ah))) (lE (bn bT (ae (af 0) (ae (iS fun _ _=>.ty _) ah))) (ao ro_eqA (af 0) (af 1))))) bH)
   (aD (cJ (jX (bn bT (ae (af 1) (ae (iS fun _ _=>.ty _) ah)))) (aS (lE (bn bT (ae (af 0) (ae (iS fun _ _=>.ty _) ah))) (ao ro_eqA (af 0) (af 1)))) bH)
   (aD (cJ (jX (bn bT (ae (af 1) (ae (iS fun _ _=>.ty _) ah)))) (aS (lE (bn bT (ae (af 0) (ae (iS fun _ _=>.ty _) ah))) (ao ro_eqA (af 0) (af 1)))) bH)
   (aD (cJ (ky (aP (ao ro_neA (bn bT (ae (af 1) (ae (iS fun _ _=>.ty _) ah))) (bn bT (ae (af 0) (ae (iS fun _ _=>.ty _) ah))))) (aP (ao ro_neA (bn bT (ae (af 1) (ae (iS fun _ _=>.ty _) ah))) (bn bT (ae (af 0) (ae (iS fun _ _=>.ty _) ah)))))) (aS (tP _)) bH)
   (aS (lE (ao ro_eqA (bn fY (ae (af 0) ah)) (bn fY (ae (af 1) ah))) (bn KM (ae (cW (rD (ae (bn fY (ae (af 1) ah)) ah)) (bB 0) (by decide) fv (bJ (ae (ao aZ (af 1) (af 0)) (ae (ao aZ (af 2) (af 0)) ah)))) ah)))))))))⟩
theorem nK (M:Md mg):jH P w K mg base "_law_mirrored" kZ zE 0 jp:=fun hr=>⟨_,(am (cH (aY dJ (aK K (pv 0) ai) cw) (aA (aR (cM (vJ (K:=K) rfl) (pv 0) (dr ai) eP))) bG)
   (aA (aR (bX K cw (pv 0))))),
  (aD (cJ (aP (ao ro_eqA (ao aZ (af 0) (aj _)) (cG _))) (aS (cO rN (af 0) (cC (aj _)) gL)) bH)
   (aS (ao ro_addA (cG _) (af 0))))⟩
theorem mr (M:Md mg):jH P w K mg base "_law_first_name" ju HU 0 g9:=fun hr=>⟨_,(aA (aR (VT.pe_repl (by decide +kernel) (aK K (aK K (pv 0) ai) ai)))),
  (aS (VT.rd_repl (ao aZ (ao aZ (af 0) (aj _)) (aj _))))⟩
theorem sZ (M:Md mg) (c23:jy P w K mg base) (c24:ig P w K mg base):jH P w K mg base "_law_canon" jM NZ 3 mZ:=fun hr=>⟨_,(am (bF 1 sc_sLcanon.nd (fq ak))
   (am (bF 2 sc_sLcanon.nd (fq ak))
   (am (ip Au rfl (db (K:=K) rfl (pv 0)) (rV (K:=K) (n:=2) rfl rfl (gR (cA 3 sc_sLcanon.nd) (gR (cA 4 sc_sLcanon.nd) qZ))) (am (rz 5 (et (osc:=(az jM)) (ON:=NZ) (N:=zE) (k:=1) (caps:=[]) (by decide +kernel) rfl rfl) rfl sc_sLcanon.nd (db (K:=K) rfl (pv 4)) (fun _ _ _ _=>(cA 0 (by show(zE:List Str).Nodup;decide +kernel))) (fun _ _ _ _=>dw) (fun _ _ _ _=>(VT.pe_repl (by decide +kernel) (pv 0))))
   (aA (cH (aY dJ (pv 3) cw) (am (cH (PW.pt (on (aY LH (aK K (pv 5) ai) (aK K (pv 5) (tE oy ai))) (om (PW.pt (qX (aY dJ (d6 K M.n_len (pv 4)) ai) (nM (aY dJ (aK K (aK K (pv 4) ai) ai) cw))))))) (aA (bF 4 sc_sLcanon.nd (gA K M.n_tuple (fD (et (osc:=(az jM)) (ON:=NZ) (N:=zE) (k:=1) (caps:=[]) (by decide +kernel) rfl rfl) rfl (db (K:=K) rfl (wU (K:=K) rfl (pv 4))) (fun _ _ _ _=>(cA 0 (by show(zE:List Str).Nodup;decide +kernel))) (fun _ _ _ _=>dw) (fun _ _ _ _=>(aJ c23 hr rfl (aF (pv 0) ak))))))) bG)
   (aA (fB (lL (pv 1) (dC (aF (pv 3) (aF (pv 4) ak))))))) (am (bF 6 sc_sLcanon.nd (mR PySem.F.plainAttrs_list PySem.F.slot_list_index PySem.F.type_list_index (uH (K:=K) rfl) (pv 5) (aF (cL (qH (K:=K) rfl rfl) rfl M.n_min DG (aF (pv 5) ak)) ak)))
   (am (bF 4 sc_sLcanon.nd (ci (gy (K:=K) rfl) (cM (fH (K:=K) rfl) (pv 4) (dr (pv 6)) eP) (cM (fH (K:=K) rfl) (pv 4) eP (dr (pv 6)))))
   (am (cH (aY dJ (aK K (aK K (pv 4) ai) ai) cw) (am (bF 4 sc_sLcanon.nd (gA K M.n_tuple (fD (et (osc:=(az jM)) (ON:=NZ) (N:=zE) (k:=1) (caps:=[]) (by decide +kernel) rfl rfl) rfl (db (K:=K) rfl (wU (K:=K) rfl (pv 4))) (fun _ _ _ _=>(cA 0 (by show(zE:List Str).Nodup;decide +kernel))) (fun _ _ _ _=>dw) (fun _ _ _ _=>(aJ c23 hr rfl (aF (pv 0) ak))))))
   (aA (bF 4 sc_sLcanon.nd (ci (gy (K:=K) rfl) (cM (fH (K:=K) rfl) (pv 4) (dr (tE oy ai)) eP) (cM (fH (K:=K) rfl) (pv 4) eP (dr (tE oy ai))))))) bG)
   (aA (fB (lL (pv 2) (dC (aF (pv 3) (aF (pv 4) ak)))))))))))))
   (aA (aR (gA K M.n_tuple (ci (gy (K:=K) rfl) (o8 (K:=K) rfl c24 hr rfl M.n_sorted rfl (aF (pv 1) ak)) (o8 (K:=K) rfl c24 hr rfl M.n_sorted rfl (aF (pv 2) ak))))))))),
  (aD (aW (eG ah))
   (aD (aW (eG ah))
   (aD (i9 (de (af 0)) (vC (gY (bB 3) (gY (bB 4) rC))) (aD (aW (cW (de (af 4)) (bB 0) (by decide) fv (VT.rd_repl (af 0))))
   (cJ (aP (ao ro_eqA (af 3) (cG _))) (aD (cJ (ky (aP (ao LJ (ao aZ (af 5) (aj _)) (ao aZ (af 5) (tQ oH (aj _))))) (nQ (aP (ao ro_eqA (bn fY (ae (af 4) ah)) (aj _))) (aP (ao ro_eqA (ao aZ (ao aZ (af 4) (aj _)) (aj _)) (cG _))))) (aW (bn dO (ae (cW (de (Ey (af 4))) (bB 0) (by decide) fv (bJ (ae (af 0) ah))) ah))) bH)
   (fE (tV gZ (ae (dE (ae (af 3) (ae (af 4) ah))) ah)))) (aD (aW (wI uI (af 5) (ae (bn xG (ae (af 5) ah)) ah)))
   (aD (aW (ao gz (cO dY (af 4) (cC (af 6)) gL) (cO dY (af 4) gL (cC (af 6)))))
   (aD (cJ (aP (ao ro_eqA (ao aZ (ao aZ (af 4) (aj _)) (aj _)) (cG _))) (aD (aW (bn dO (ae (cW (de (Ey (af 4))) (bB 0) (by decide) fv (bJ (ae (af 0) ah))) ah)))
   (aW (ao gz (cO dY (af 4) (cC (tQ oH (aj _))) gL) (cO dY (af 4) gL (cC (tQ oH (aj _))))))) bH)
   (fE (tV gZ (ae (dE (ae (af 3) (ae (af 4) ah))) ah)))))))))
   (aS (bn dO (ae (ao gz (bn o7 (ae (af 1) ah)) (bn o7 (ae (af 2) ah))) ah))))))⟩
theorem mt (M:Md mg):jH P w K mg base "_law_bare_names" gC LP 0 hU:=fun hr=>⟨_,(am (bF 1 sc_sLbarenames.nd (fq ak))
   (am (ip Au rfl (db (K:=K) rfl (pv 0)) (rV (K:=K) (n:=2) rfl rfl (gR (cA 2 sc_sLbarenames.nd) (gR (cA 3 sc_sLbarenames.nd) qZ))) (aA (fB (mR PySem.F.plainAttrs_list PySem.F.slot_list_extend PySem.F.type_list_extend (kF (K:=K) rfl rfl) (pv 1) (aF (fD (et (osc:=(az gC)) (ON:=LP) (N:=zE) (k:=1) (caps:=[]) (by decide +kernel) rfl rfl) rfl (db (K:=K) rfl (pv 3)) (fun _ _ _ _=>(cA 0 (by show(zE:List Str).Nodup;decide +kernel))) (fun _ _ _ _=>dw) (fun _ _ _ _=>(VT.pe_repl (by decide +kernel) (pv 0)))) ak)))))
   (aA (aR (cL (iF (K:=K) rfl hr) rfl M.n_sorted boot_sorted (aF (pv 1) ak)))))),
  (aD (aW (eG ah))
   (aD (i9 (de (af 0)) (vC (gY (bB 2) (gY (bB 3) rC))) (fE (tV mF (ae (cW (de (af 3)) (bB 0) (by decide) fv (VT.rd_repl (af 0))) ah))))
   (aS (bn lI (ae (af 1) ah)))))⟩
theorem Mr (M:Md mg) (c16:pI P w K mg base) (c17:pJ P w K mg base) (c18:gi P w K mg base) (c21:m7 P w K mg base) (c22:m8 P w K mg base) (c25:nc P w K mg base) (c26:ii P w K mg base):jH P w K mg base "law" LQ N3 10 Jp:=fun hr=>⟨_,(am (bF 1 sc_slaw.nd (aJ c17 hr rfl (aF (pv 0) ak)))
   (am (bF 2 sc_slaw.nd (aJ c18 hr rfl (aF (pv 1) (aF ai ak))))
   (am (cH (aY (vP (K:=K) rfl hr.units) (aJ c18 hr rfl (aF (pv 1) (aF ai ak))) ai) (aA (bF 2 sc_slaw.nd (bX K ai (gU yy rfl M.n_int mD (aF (fJ (vP (K:=K) rfl hr.units) (aJ c18 hr rfl (aF (pv 1) (aF ai ak))) ai) ak))))) bG)
   (am (bF 3 sc_slaw.nd (aJ c21 hr rfl (aF (pv 1) (aF (pv 2) ak))))
   (am (bF 4 sc_slaw.nd (gU (kD (K:=K) rfl rfl) rfl M.n_list ee (aF (pv 3) ak)))
   (am (bF 5 sc_slaw.nd (aJ c16 hr rfl (aF (pv 4) ak)))
   (am (cH (PW.pt (on (aY (rS (K:=K) rfl hr.units) (pv 4) (pv 3)) (on (qY (gG (cK K M.n_isinstance (pv 5) (gx rfl M.n_list ee)))) (om (aY (rS (K:=K) rfl hr.units) (d6 K M.n_len (pv 5)) (LL (LA (wE (K:=K) rfl) Fx (pv 2) (fun _ _=>rfl)))))))) (aA (aR tw)) bG)
   (am (bF 6 sc_slaw.nd (cL (iF (K:=K) rfl hr) rfl M.n_sorted boot_sorted (aF (pv 3) ak)))
   (am (ip Au rfl (HI (K:=K) rfl rfl M.n_enumerate (pv 5)) (rV (K:=K) (n:=2) rfl rfl (gR (cA 7 sc_slaw.nd) (gR (cA 8 sc_slaw.nd) qZ))) (am (cH (PW.pt (on (qY (gG (cK K M.n_isinstance (pv 8) (gx rfl M.n_tuple gp)))) (on (qY (gG (aJ c22 hr rfl (aF (pv 8) (aF (aJ c25 hr rfl (aF (pv 8) ak)) ak))))) (om (aY (rS (K:=K) rfl hr.units) (aJ c26 hr rfl (aF (pv 8) ak)) (pv 6)))))) (aA (aR tw)) bG)
   (aA (cH (PW.pt (qX (aY zS (pv 7) ai) (nM (qY (aY (LD (K:=K) rfl hr.units) (aK K (pv 5) (ci zQ (pv 7) ai)) (pv 8)))))) (aA (aR tw)) bG))))
   (am (bF 9 sc_slaw.nd (gU (kD (K:=K) rfl rfl) rfl M.n_list ee (aF (pv 5) ak)))
   (am (fB (Ka PySem.F.plainAttrs_list PySem.F.slot_list_clear PySem.F.type_list_clear DU (pv 5)))
   (aA (aR (MN (fJ zS (pv 2) ai) (oq (fJ (vP (K:=K) rfl hr.units) (aJ c16 hr rfl (aF (pv 3) ak)) (pv 9))))))))))))))))),
  (aD (aW (bM (ae (af 0) ah)))
   (aD (aW (fW (ae (aj _) ah)))
   (aD (cJ (aP (ao vQ (fW (ae (aj _) ah)) (aj _))) (aW (ao ro_addA (aj _) (bn Ht (ae (ao vQ (fW (ae (aj _) ah)) (aj _)) ah)))) bH)
   (aD (aW (fW (ae (af 2) ah)))
   (aD (aW (bn oK (ae (af 3) ah)))
   (aD (aW (bM (ae (af 4) ah)))
   (aD (cJ (ky (aP (ao rT (af 4) (af 3))) (ky (nP (jX (bn bT (ae (af 5) (ae (iS fun _ _=>.ty _) ah))))) (aP (ao rT (bn fY (ae (af 5) ah)) (ao aZ (eG (ae (aj _) (ae (aj _) (ae (aj _) (ae (aj _) (ae (aj _) ah)))))) (af 2)))))) (aS (tP _)) bH)
   (aD (aW (bn lI (ae (af 3) ah)))
   (aD (HN 100000 (vC (gY (bB 7) (gY (bB 8) rC))) (aD (cJ (ky (nP (jX (bn bT (ae (af 8) (ae (iS fun _ _=>.ty _) ah))))) (ky (nP (jX (bJ (ae (af 8) (ae (bM (ae (af 8) ah)) ah))))) (aP (ao rT (bM (ae (af 8) ah)) (af 6))))) (aS (tP _)) bH)
   (cJ (nQ (aP (ao Ea (af 7) (aj _))) (nP (aP (ao LC (ao aZ (af 5) (ao D9 (af 7) (aj _))) (af 8))))) (aS (tP _)) bH)))
   (aD (aW (bn oK (ae (af 5) ah)))
   (aD (fE (Nd EF))
   (aS (Km (ao Ea (af 2) (aj _)) (ao vQ (bM (ae (af 3) ah)) (af 9)))))))))))))))⟩
end
set_option maxHeartbeats 0 in
theorem all_mk {l:PySem.W.OpenLaw} {w:World} {K:PySem.W.Frag} {h:Heap} {mg:Str->Option Value} {fa:Addr} (X:K.In h) (G:h.Ns mainGlobals mg) (hfa:mg "law"=some (.ref fa))
  (h1:FH K "is_turned" mL) (h2:FH K "name_of" sy) (h3:FH K "mirrored" mM) (h4:FH K "turned_beads" fL) (h5:FH K "canon_open" kW) (h6:FH K "first_place" gB) (h7:FH K "canon_ring" kX) (h8:FH K "canon_strand" iK) (h9:FH K "strand_rank" jr) (h10:FH K "canon" sA) (h11:FH K "ends_beyond" jt) (h12:FH K "bead_at" sB) (h13:FH K "across" sC) (h14:FH K "beads_from" kY) (h15:FH K "set_of" sD) (h16:FH K "matchings" gf) (h17:FH K "all_sets" lU) (h18:FH K "_law_flow" vY) (h19:FH K "_law_pick" vZ) (h20:FH K "_law_letters" jL) (h21:FH K "_law_name" v0) (h22:FH K "_law_names" sE) (h23:FH K "_law_alike" og) (h24:FH K "_law_mirrored" kZ) (h25:FH K "_law_first_name" ju) (h26:FH K "_law_canon" jM) (h27:FH K "_law_bare_names" gC) (h28:FH K "law" LQ)
  (z_all:PySem.W.nsIn K mainGlobals "all"=some none) (z_bool:PySem.W.nsIn K mainGlobals "bool"=some none) (z_enumerate:PySem.W.nsIn K mainGlobals "enumerate"=some none) (z_int:PySem.W.nsIn K mainGlobals "int"=some none) (z_isinstance:PySem.W.nsIn K mainGlobals "isinstance"=some none) (z_len:PySem.W.nsIn K mainGlobals "len"=some none) (z_list:PySem.W.nsIn K mainGlobals "list"=some none) (z_min:PySem.W.nsIn K mainGlobals "min"=some none) (z_range:PySem.W.nsIn K mainGlobals "range"=some none) (z_reversed:PySem.W.nsIn K mainGlobals "reversed"=some none) (z_sorted:PySem.W.nsIn K mainGlobals "sorted"=some none) (z_str:PySem.W.nsIn K mainGlobals "str"=some none) (z_tuple:PySem.W.nsIn K mainGlobals "tuple"=some none) :
  ∃fd:FuncData,(∀(s:Shared) (v:Value),BindsTo s fd ⟨[v],[]⟩ [("_law_script",v)])/\∀base:Heap,K.In base->base.Ns mainGlobals mg->FnOk l.prog w K mg base wA 11 fa fd MD (wV K):=by
 have M:Md mg:=⟨PySem.W.mg_none_of X G z_all,PySem.W.mg_none_of X G z_bool,PySem.W.mg_none_of X G z_enumerate,PySem.W.mg_none_of X G z_int,PySem.W.mg_none_of X G z_isinstance,PySem.W.mg_none_of X G z_len,PySem.W.mg_none_of X G z_list,PySem.W.mg_none_of X G z_min,PySem.W.mg_none_of X G z_range,PySem.W.mg_none_of X G z_reversed,PySem.W.mg_none_of X G z_sorted,PySem.W.mg_none_of X G z_str,PySem.W.mg_none_of X G z_tuple⟩;refine h28.law X G hfa sc_slaw (fun _ _ _ _ _ _=>nF fun _=>rfl) Iv fun base=>?_;have c0:gF l.prog w K mg base:=h1.cal X G sF (fun _ _ _ _ _ _=>nF fun _=>rfl) (sV M);have c1:fT l.prog w K mg base:=h2.cal X G v4 (fun _ _ _ _ _ _=>nF fun _=>rfl) (we M c0);have c2:lr l.prog w K mg base:=h3.cal X G sG (fun _ _ _ _ _ _=>nF fun _=>rfl) (u8 M c0 c1);have c3:gh l.prog w K mg base:=h4.cal X G nG (fun _ _ _ _ _ _=>nF fun _=>rfl) (nI M c2);have c4:mi l.prog w K mg base:=h5.cal X G p6 (fun _ _ _ _ _ _=>nF fun _=>rfl) (qa M c1 c3);have c5:kj l.prog w K mg base:=h6.cal X G sc_sfirstplace (fun _ _ _ _ _ _=>nF fun _=>rfl) (pL M c1);have c6:mj l.prog w K mg base:=h7.cal X G sc_scanonring (fun _ _ _ _ _ _=>nF fun _=>rfl) (qb M c0 c3 c5);have c7:jx l.prog w K mg base:=h8.cal X G nH (fun _ _ _ _ _ _=>nF fun _=>rfl) (nJ M c4 c6);have c8:km l.prog w K mg base:=h9.cal X G pA (fun _ _ _ _ _ _=>nF fun _=>rfl) (pM M c1);have c9:yk l.prog w K mg base:=h10.cal X G zp (fun _ _ _ _ _ _=>nF fun _=>rfl) (Gx M c7 c8);have c10:kn l.prog w K mg base:=h11.cal X G sc_sendsbeyond (fun _ _ _ _ _ _=>nF fun _=>rfl) (pN M);have c11:qV l.prog w K mg base:=h12.cal X G v5 (fun _ _ _ _ _ _=>nF fun _=>rfl) (wf M c2);have c12:u6 l.prog w K mg base:=h13.cal X G v6 (fun _ _ _ _ _ _=>nF fun _=>rfl) (zC M);have c13:mq l.prog w K mg base:=h14.cal X G sc_sbeadsfrom (fun _ _ _ _ _ _=>MB fun _ _=>rfl) (qc M c11 c12);have c14:u7 l.prog w K mg base:=h15.cal X G sc_ssetof (fun _ _ _ _ _ _=>nF fun _=>rfl) (zD M c1 c9 c10 c13);have c15:m6 l.prog w K mg base:=h16.fix X G sc_smatchings (fun _ _ _ _ _ _=>nF fun _=>rfl) 20 (fun _=>rfl) (fun _ _=>rfl) (fun n gs hn=>sW M) 9 (by decide)
 have c16:pI l.prog w K mg base:=h17.cal X G sc_sallsets (fun _ _ _ _ _ _=>nF fun _=>rfl) (u9 M c14 c15);have c17:pJ l.prog w K mg base:=h18.cal X G zq (fun _ _ _ _ _ _=>nF fun _=>rfl) (va M);have c18:gi l.prog w K mg base:=h19.calI X G sc_sLpick (fun _ _ _ _ _ _=>MB fun _ _=>rfl) (vb M);have c19:gQ l.prog w K mg base:=h20.calI X G sH (fun _ _ _ _ _ _=>MB fun _ _=>rfl) (pO M c18);have c20:pK l.prog w K mg base:=h21.calI X G sc_sLname (fun _ _ _ _ _ _=>MB fun _ _=>rfl) (vc M c18 c19);have c21:m7 l.prog w K mg base:=h22.calI X G sc_sLnames (fun _ _ _ _ _ _=>MB fun _ _=>rfl) (sX M c18 c19 c20);have c22:m8 l.prog w K mg base:=h23.alike X G v7 (fun _ _ _ _ _ _=>MB fun _ _=>rfl) 20 (fun n u h=>zr h) (fun n gs hn=>sY M) 6 (by decide)
 have c23:jy l.prog w K mg base:=h24.cal X G p7 (fun _ _ _ _ _ _=>nF fun _=>rfl) (nK M);have c24:ig l.prog w K mg base:=h25.cal X G pB (fun _ _ _ _ _ _=>nF fun _=>rfl) (mr M);have c25:nc l.prog w K mg base:=h26.cal X G sc_sLcanon (fun _ _ _ _ _ _=>nF fun _=>rfl) (sZ M c23 c24);have c26:ii l.prog w K mg base:=h27.cal X G sc_sLbarenames (fun _ _ _ _ _ _=>nF fun _=>rfl) (mt M);intro _ _ _ _ _ _ _;exact Mr M c16 c17 c18 c21 c22 c25 c26
end K59
open PySem PySem.W PyProof.Rows
set_option maxRecDepth 100000 in
set_option maxHeartbeats 0 in
theorem PySem.Challenge.cw_strandwright_k59_all_sets_of_few_holds : PySem.Challenge.rw_strandwright_k59_all_sets_of_few.Holds := by
 w_on;o_law;z_head;(case hw=>w_witness2)
 k_fill
 refine VF.walkZ (l:=PySem.Challenge.rw_strandwright_k59_all_sets_of_few) (k:=11) rfl rfl ⟨rfl,by decide,by decide⟩ (by decide) ?K ?F
 case K=>intro _;rfl
 case F =>
  intro w mg fa h KX G hmg;refine' K59.all_mk KX G hmg (VF.fh ?a1 ?l1 ?c1 ?k1) (VF.fh ?a2 ?l2 ?c2 ?k2) (VF.fh ?a3 ?l3 ?c3 ?k3) (VF.fh ?a4 ?l4 ?c4 ?k4) (VF.fh ?a5 ?l5 ?c5 ?k5) (VF.fh ?a6 ?l6 ?c6 ?k6) (VF.fh ?a7 ?l7 ?c7 ?k7) (VF.fh ?a8 ?l8 ?c8 ?k8) (VF.fh ?a9 ?l9 ?c9 ?k9) (VF.fh ?a10 ?l10 ?c10 ?k10) (VF.fh ?a11 ?l11 ?c11 ?k11) (VF.fh ?a12 ?l12 ?c12 ?k12) (VF.fh ?a13 ?l13 ?c13 ?k13) (VF.fh ?a14 ?l14 ?c14 ?k14) (VF.fh ?a15 ?l15 ?c15 ?k15) (VF.fh ?a16 ?l16 ?c16 ?k16) (VF.fh ?a17 ?l17 ?c17 ?k17) (VF.fh ?a18 ?l18 ?c18 ?k18) (VF.fh ?a19 ?l19 ?c19 ?k19) (VF.fh ?a20 ?l20 ?c20 ?k20) (VF.fh ?a21 ?l21 ?c21 ?k21) (VF.fh ?a22 ?l22 ?c22 ?k22) (VF.fh ?a23 ?l23 ?c23 ?k23) (VF.fh ?a24 ?l24 ?c24 ?k24) (VF.fh ?a25 ?l25 ?c25 ?k25) (VF.fh ?a26 ?l26 ?c26 ?k26) (VF.fh ?a27 ?l27 ?c27 ?k27) (VF.fh ?a28 ?l28 ?c28 ?k28) ?z_all ?z_bool ?z_enumerate ?z_int ?z_isinstance ?z_len ?z_list ?z_min ?z_range ?z_reversed ?z_sorted ?z_str ?z_tuple
  (case a1=>k_is)
  (case l1=>k_is)
  (case c1=>k_is)
  (case k1=>k_is)
  (case a2=>k_is)
  (case l2=>k_is)
  (case c2=>k_is)
  (case k2=>k_is)
  (case a3=>k_is)
  (case l3=>k_is)
  (case c3=>k_is)
  (case k3=>k_is)
  (case a4=>k_is)
  (case l4=>k_is)
  (case c4=>k_is)
  (case k4=>k_is)
  (case a5=>k_is)
  (case l5=>k_is)
  (case c5=>k_is)
  (case k5=>k_is)
  (case a6=>k_is)
  (case l6=>k_is)
  (case c6=>k_is)
  (case k6=>k_is)
  (case a7=>k_is)
  (case l7=>k_is)
  (case c7=>k_is)
  (case k7=>k_is)
  (case a8=>k_is)
  (case l8=>k_is)
  (case c8=>k_is)
  (case k8=>k_is)
  (case a9=>k_is)
  (case l9=>k_is)
  (case c9=>k_is)
  (case k9=>k_is)
  (case a10=>k_is)
  (case l10=>k_is)
  (case c10=>k_is)
  (case k10=>k_is)
  (case a11=>k_is)
  (case l11=>k_is)
  (case c11=>k_is)
  (case k11=>k_is)
  (case a12=>k_is)
  (case l12=>k_is)
  (case c12=>k_is)
  (case k12=>k_is)
  (case a13=>k_is)
  (case l13=>k_is)
  (case c13=>k_is)
  (case k13=>k_is)
  (case a14=>k_is)
  (case l14=>k_is)
  (case c14=>k_is)
  (case k14=>k_is)
  (case a15=>k_is)
  (case l15=>k_is)
  (case c15=>k_is)
  (case k15=>k_is)
  (case a16=>k_is)
  (case l16=>k_is)
  (case c16=>k_is)
  (case k16=>k_is)
  (case a17=>k_is)
  (case l17=>k_is)
  (case c17=>k_is)
  (case k17=>k_is)
  (case a18=>k_is)
  (case l18=>k_is)
  (case c18=>k_is)
  (case k18=>k_is)
  (case a19=>k_is)
  (case l19=>k_is)
  (case c19=>k_is)
  (case k19=>k_is)
  (case a20=>k_is)
  (case l20=>k_is)
  (case c20=>k_is)
  (case k20=>k_is)
  (case a21=>k_is)
  (case l21=>k_is)
  (case c21=>k_is)
  (case k21=>k_is)
  (case a22=>k_is)
  (case l22=>k_is)
  (case c22=>k_is)
  (case k22=>k_is)
  (case a23=>k_is)
  (case l23=>k_is)
  (case c23=>k_is)
  (case k23=>k_is)
  (case a24=>k_is)
  (case l24=>k_is)
  (case c24=>k_is)
  (case k24=>k_is)
  (case a25=>k_is)
  (case l25=>k_is)
  (case c25=>k_is)
  (case k25=>k_is)
  (case a26=>k_is)
  (case l26=>k_is)
  (case c26=>k_is)
  (case k26=>k_is)
  (case a27=>k_is)
  (case l27=>k_is)
  (case c27=>k_is)
  (case k27=>k_is)
  (case a28=>k_is)
  (case l28=>k_is)
  (case c28=>k_is)
  (case k28=>k_is)
  (case z_all=>k_is)
  (case z_bool=>k_is)
  (case z_enumerate=>k_is)
  (case z_int=>k_is)
  (case z_isinstance=>k_is)
  (case z_len=>k_is)
  (case z_list=>k_is)
  (case z_min=>k_is)
  (case z_range=>k_is)
  (case z_reversed=>k_is)
  (case z_sorted=>k_is)
  (case z_str=>k_is)
  (case z_tuple=>k_is)
  

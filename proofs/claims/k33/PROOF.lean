import PyProof.Rows.All
import Wide.All
import OpenK.AllK
import Wide.FinOn
import Lean
import PyProof.EqAt
import PyProof.EqKinds
import PyProof.TupleCall
import KE.KRevIter
import PySem.Challenge.RW_strandwright_k33_first_deeds_by_one
set_option maxHeartbeats 2000000
set_option Elab.async false
set_option linter.all false
set_option maxRecDepth 100000
set_option genSizeOfSpec false
namespace PySem.W.Fast
def tw14615299254805712691:=0
def tw17350279790047604917:=0
def tw6270555513435409691:=0
def tw15854768400110895154:=0
def tw13561488487033228496:=0
def tw5013138109150604186:=0
def tw13616558701455376668:=0
def tw13525526115279438957:=0
def tw3423205615849542010:=0
def tw15429304490046868426:=0
def tw18145899999601746734:=0
def tw14775098520661807844:=0
def tw11931977558986456333:=0
def tw6651127532591166132:=0
def tw9556906483049681456:=0
def tw15125030294728575376:=0
def tw3119772393802617897:=0
def tw7909286375633168452:=0
def tw12754772956572468361:=0
def tw57301295228150585:=0
def tw3908664232151473253:=0
def tw2294592981772828457:=0
def tw16195349828058148604:=0
def tw17747264642346423456:=0
def tw12153776633627137732:=0
def tw16991871294101696339:=0
def tw4980906343330575737:=0
def tw3235912255999028044:=0
def tw7544997831886784948:=0
def tw13636239313750904591:=0
def tw347938748844778516:=0
def tw8908587181028475849:=0
def tw4895208538286198973:=0
def tw11386714317657108680:=0
def tw5118377326651511448:=0
def tw6010040316403897977:=0
def tw6082229317302249515:=0
def tw9661738613071111326:=0
def tw18009680944769026545:=0
def tw7006820296078844997:=0
end PySem.W.Fast
abbrev Aa:=@PySem.wpAny_bind
abbrev Ab:=@PySem.W.Frag
abbrev Ac:=@PySem.Heap.get?_push_of_some
abbrev Ad:=@PySem.wpAny_pure
abbrev Ae:=@decide_eq_false
abbrev Af:=@decide_eq_true
abbrev Ag:=@if_pos
abbrev Ah:=@PyProof.Rows.wpS_pure
abbrev Ai:=@PySem.Heap.get?_push_size
abbrev Aj:=@PySem.Heap.lt_size
abbrev Ak:=@if_neg
abbrev Al:=@PyProof.Rows.wpS_bind
abbrev Am:=@of_decide_eq_true
abbrev An:=@PySem.PassesOwn.never
abbrev Ao:=@PySem.wpAny_newObj_type
abbrev Ap:=@PySem.wpAny_callSpecial?_slot
abbrev Aq:=@PySem.W.mg_none_of
abbrev Ar:=@PySem.W.kia_one
abbrev As:=@PySem.wpAny_call_entry
abbrev At:=@PySem.wpAny_field
abbrev Au:=@PySem.F.plainAttrs_list
abbrev Av:=@PyProof.Rows.slot_tuple_getitem
abbrev Aw:=@PyProof.Rows.wpS_mono
abbrev Ax:=@PyProof.Rows.wpS_forRange
abbrev Ay:=@PySem.wpAny_truthy_bool
abbrev Az:=@PySem.mem_of_lookup
abbrev AA:=@List.Perm.append_left
abbrev AB:=@PySem.wpAny_mono
abbrev AC:=@PySem.wpAny_holding
abbrev AD:=@PySem.W.mg_of
abbrev AE:=@PySem.wpAny_seqItems
abbrev AF:=@PySem.wpAny_typeNameOfWhole_keyiter
abbrev AG:=@PySem.wpAny_setField_rec
abbrev AH:=@PySem.wpAny_rule
abbrev AI:=@Nat.lt_of_le_of_lt
abbrev AJ:=@List.take_of_length_le
abbrev AK:=@List.filter_append
abbrev AL:=@PySem.wpAny_passesOwn
abbrev AM:=@PySem.Str.length_append
abbrev AN:=@Ne.symm
abbrev AO:=@List.reverse_cons
abbrev AQ:=@List.length_range
abbrev AR:=@List.nodup_nil
abbrev AT:=@List.mem_of_mem_drop
abbrev AU:=@List.getElem?_of_mem
abbrev AV:=@PySem.wpAny_typeOf
abbrev AW:=@Nat.lt_succ_self
abbrev AX:=@Nat.lt_of_not_le
abbrev AY:=@List.map_id'
abbrev AZ:=@List.getElem_mem
abbrev A6:=@Array.getElem?_eq_getElem
abbrev A7:=@PySem.F.type_list_extend
abbrev A8:=@PySem.F.slot_list_extend
abbrev A9:=@List.getElem?_take
abbrev Ba:=@PySem.wpAny_getItem_str_slice
abbrev Bb:=@List.pairwise_singleton
abbrev Bc:=@Int.eq_ofNat_of_zero_le
abbrev Be:=@Nat.lt_of_succ_lt
abbrev Bg:=@List.getElem?_set
abbrev Bh:=@List.flatten_cons
abbrev Bi:=@List.drop_drop
abbrev Bj:=@List.perm_append_comm
abbrev Bk:=@List.length_singleton
abbrev Bl:=@PyProof.Rows.wpS_modify
abbrev Bm:=@decide_eq_decide
abbrev Bo:=@List.zipIdx_cons
abbrev Bp:=@Array.size_range
abbrev Bq:=@Nat.add_assoc
abbrev Br:=@List.map_drop
abbrev Bs:=@List.any_cons
abbrev Bt:=@Int.emod_nonneg
abbrev Bu:=@PySem.Heap.SameBut.update
abbrev Bv:=@Array.toList_append
abbrev Bw:=@PyProof.Rows.wpS_get
abbrev Bx:=@PyProof.Rows.listItems_at
abbrev Bz:=@PyProof.Rows.callWith_type1
abbrev BB:=@PySem.Obj.data_mapFields
abbrev BC:=@Nat.sub_add_cancel
abbrev BD:=@Nat.pos_of_ne_zero
abbrev BE:=@Nat.lt_of_le_of_ne
abbrev BF:=@List.zip_cons_cons
abbrev BG:=@List.filter_filter
abbrev BH:=@PySem.Heap.size_push
abbrev BI:=@Array.getElem?_map
abbrev BJ:=@List.getElem?_append_left
abbrev BK:=@Nat.lt_succ_of_lt
abbrev BL:=@List.filter_congr
abbrev BM:=@PySem.wpAny_attempt
abbrev BN:=@PySem.F.args_tuple_add_2
abbrev BO:=@List.all_cons
abbrev BP:=@PySem.F.entry_tuple_add
abbrev BQ:=@Nat.le_of_not_lt
abbrev BR:=@List.ext_getElem
abbrev BS:=@PySem.F.slot_tuple_add
abbrev BT:=@Nat.lt_trans
abbrev BU:=@List.range_succ_eq_map
abbrev BV:=@List.getElem?_set_self
abbrev BW:=@List.flatten_singleton
abbrev BX:=@List.Perm.append_right
abbrev BY:=@PySem.Heap.get?_update_other
abbrev BZ:=@PySem.wpAny_loadPart'
abbrev B0:=@PySem.wpAny_execs_nil
abbrev B1:=@PySem.post_val_or_str
abbrev B2:=@List.of_mem_zip
abbrev B3:=@List.forIn_cons
abbrev B4:=@PySem.F.type_list_pop
abbrev B5:=@PySem.F.slot_list_pop
abbrev B6:=@PySem.F.slot_dict_get
abbrev B7:=@PySem.Heap.get?_update_self
abbrev B8:=@PyProof.Rows.wpS_lift
abbrev B9:=@PySem.wpAny_updateSeq_pair
abbrev Ca:=@PySem.wpAny_setField
abbrev Cb:=@PySem.Str.cps_append
abbrev Cc:=@List.mem_of_mem_take
abbrev Cd:=@List.mem_append_left
abbrev Ce:=@LawfulBEq.eq_of_beq
abbrev Cf:=@PyProof.Rows.entry_tuple_getitem
abbrev Cg:=@List.reverse_append
abbrev Ch:=@PySem.Heap.get?_update_ne
abbrev Ci:=@PySem.wpAny_onRaise
abbrev Cj:=@PySem.wpAny_newList
abbrev Ck:=@PyProof.Rows.listUpdate_at
abbrev Cn:=@PySem.evalPart_none
abbrev Co:=@List.map_take
abbrev Cq:=@PySem.wpAny_Constant_int
abbrev Cr:=@PySem.wpAny_Call_Name_kw
abbrev Cs:=@PySem.tupleKind_room_in1
abbrev Ct:=@PySem.call_meets
abbrev Cu:=@PyProof.Rows.args_tuple_getitem
abbrev Cw:=@PyProof.Rows.Subscript_
abbrev Cy:=@PySem.SeqAt.EqAt.str_int
abbrev Cz:=@PySem.SeqAt.EqAt.int_str
abbrev CB:=@List.filterMap_map
abbrev CC:=@Int.natCast_nonneg
abbrev CD:=@Int.emod_lt_of_pos
abbrev CF:=@PySem.Calls.spliced_cons
abbrev CG:=@Bool.false_eq_true
abbrev CH:=@Array.toList_range
abbrev CJ:=@PySem.wpAny_sequenceKey
abbrev CK:=@PySem.wpAny_pyIter_list
abbrev CL:=@PySem.wpAny_dictEntries
abbrev CM:=@PySem.Txt.slice_le
abbrev CN:=@PySem.W.kitx_list
abbrev CO:=@Nat.pred_lt_of_lt
abbrev CP:=@List.pairwise_map
abbrev CQ:=@List.getElem?_map
abbrev CS:=@List.ext_getElem?
abbrev CT:=@List.count_append
abbrev CU:=@List.any_map
abbrev CV:=@PySem.noFill_tuple_add
abbrev CW:=@PySem.SeqAt.in_tupleAt
abbrev CY:=@Nat.succ_le_succ
abbrev CZ:=@Nat.not_le_of_lt
abbrev C0:=@Nat.min_le_right
abbrev C1:=@Nat.min_eq_right
abbrev C2:=@List.map_reverse
abbrev C3:=@List.getElem_map
abbrev C4:=@List.drop_length
abbrev C5:=@PySem.sizeLine_eq
abbrev C6:=@PySem.wpAny_dictEpoch
abbrev C7:=@List.foldl_cons
abbrev C8:=@List.dropLast_concat_getLast
abbrev C9:=@PySem.typeIs_str
abbrev Db:=@PySem.SeqAt.RcNeAt.lists_lengths
abbrev Dc:=@Nat.mul_le_mul
abbrev Dd:=@List.take_zero
abbrev De:=@List.length_eraseIdx_of_lt
abbrev Df:=@List.getElem?_append_right
abbrev Dg:=@PySem.Calls.Name_function_global
abbrev Dh:=@Bool.false_and
abbrev Di:=@Bool.and_false
abbrev Dj:=@Array.size_map
abbrev Dk:=@List.getLastD_eq_getLast?
abbrev Dl:=@PySem.Calls.call_function_entry
abbrev Dm:=@List.eq_of_mem_replicate
abbrev Do:=@Bool.true_and
abbrev Dq:=@PySem.F.args_dict_get_3
abbrev Dr:=@List.getElem?_replicate
abbrev Ds:=@PySem.W.cellsFrom_some
abbrev Dt:=@PySem.F.plainAttrs_str
abbrev Du:=@PySem.F.entry_dict_get
abbrev Dv:=@Nat.sub_self
abbrev Dw:=@Nat.add_zero
abbrev Dx:=@Nat.add_comm
abbrev Dy:=@List.drop_eq_nil_of_le
abbrev Dz:=@List.all_map
abbrev DB:=@Int.zero_add
abbrev DC:=@Int.ediv_one
abbrev DD:=@List.getElem?_toArray
abbrev DE:=@List.getElem?_reverse
abbrev DF:=@List.eq_nil_or_concat
abbrev DG:=@List.concat_eq_append
abbrev DH:=@List.Pairwise.sublist
abbrev Za:=@List.length_map
abbrev Ya:=@List.getElem?_eq_getElem
abbrev Xa:=@List.length_append
abbrev Wa:=@Option.bind_some
abbrev Va:=@Nat.le_refl
abbrev Qa:=@List.mem_cons_self
abbrev Yb:=@List.mem_singleton
abbrev Xb:=@List.mem_cons_of_mem
abbrev Wb:=@List.mem_of_getElem?
abbrev Vb:=@List.size_toArray
abbrev Qb:=@List.append_assoc
abbrev Zc:=@List.map_append
abbrev Yc:=@List.length_cons
abbrev Xc:=@List.append_nil
abbrev Wc:=@List.getElem?_eq_some_iff
abbrev Vc:=@Nat.lt_of_lt_of_le
abbrev Qc:=@List.mem_map
abbrev Zd:=@List.flatMap_cons
abbrev Yd:=@Nat.le_trans
abbrev Xd:=@Array.length_toList
abbrev Wd:=@List.mem_append
abbrev Vd:=@List.mem_cons
abbrev Qd:=@Bool.false_ne_true
abbrev Ze:=@List.flatMap_append
abbrev Ye:=@Nat.exists_eq_add_one_of_ne_zero
abbrev Xe:=@List.getD_eq_getElem?_getD
abbrev We:=@List.map_cons
abbrev Ve:=@List.length_filter_le
abbrev Qe:=@CQ
abbrev Zf:=@List.length_drop
abbrev Yf:=@Option.map_eq_some_iff
abbrev Xf:=@CG
abbrev Wf:=@Bool.eq_iff_iff
abbrev Vf:=@List.flatMap_singleton
abbrev Qf:=@List.mem_append_right
abbrev Zg:=@List.length_take
abbrev Yg:=@List.length_nil
abbrev Xg:=@List.getElem?_drop
abbrev Wg:=@List.nodup_cons
abbrev Vg:=@List.map_map
abbrev Qg:=@List.mem_filter
abbrev Zh:=@List.filter_cons
abbrev Yh:=@Df
abbrev Xh:=@List.take_append_drop
abbrev Wh:=@List.length_pos_iff
abbrev Vh:=@Bool.and_eq_true
abbrev Qh:=@Nat.ne_of_lt
abbrev Zi:=@List.pairwise_cons
abbrev Yi:=@List.eq_nil_of_length_eq_zero
abbrev Xi:=@List.map_nil
abbrev Wi:=@List.pairwise_append
abbrev Vi:=@BJ
abbrev Qi:=@List.map_congr_left
abbrev Zj:=@Nat.add_le_add_left
abbrev Yj:=@List.length_reverse
abbrev Xj:=@Nat.lt_irrefl
abbrev Wj:=@List.mem_singleton_self
abbrev Vj:=@Nat.ne_of_gt
abbrev Qj:=@List.perm_ext_iff_of_nodup
abbrev Zk:=@List.mem_range
abbrev Yk:=@List.filterMap_cons
abbrev Xk:=@List.pairwise_iff_getElem
abbrev Wk:=@List.length_replicate
abbrev Vk:=@Array.getElem?_toList
abbrev Qk:=@Nat.le_of_lt
abbrev Zl:=@List.all_eq_true
abbrev Yl:=@List.perm_middle
abbrev Xl:=@Nat.zero_le
abbrev Wl:=@Nat.min_eq_left
abbrev Vl:=@Nat.le_add_right
abbrev Ql:=@List.mem_flatMap
abbrev Zm:=@List.getElem?_eq_none
abbrev Ym:=@List.drop_eq_getElem_cons
abbrev Xm:=@List.find?_cons
abbrev Wm:=@List.mem_iff_getElem
abbrev Vm:=@List.nil_append
abbrev Qm:=@Int.toNat_natCast
abbrev Zn:=@Dr
abbrev Yn:=@Nat.add_sub_cancel'
abbrev Xn:=@List.flatten_append
namespace L2
open PySem PySem.Spec PyProof.Rows
abbrev Key:=Sum Int Str
def o8:Key->Value->Bool
 | .inl k,v=>Value.isInt k v
 | .inr x,v=>Value.isStrOf x v
def Pe(w:World):Key->Int
 | .inl k=>hashInt k
 | .inr x=>hashStr w x
theorem cz:∀{k:Key}{v:Value},o8 k v=true->(∃i t,k=Sum.inl i/\v=Value.int i t)∨(∃x t,k=Sum.inr x/\v=Value.str x t)
 | .inl i,v,h=>by
  obtain⟨t,e⟩:=Value.isInt_shape (k:=i) (v:=v) h;exact .inl ⟨i,t,rfl,e⟩
 | .inr x,v,h=>by
  obtain⟨t,e⟩:=Value.isStrOf_shape (x:=x) (v:=v) h;exact .inr ⟨x,t,rfl,e⟩
def zc(i:Int)(t:Tok):o8 (.inl i) (.int i t)=true:=by simp[o8,Value.isInt]
def zd(x:Str)(t:Tok):o8 (.inr x) (.str x t)=true:=by simp[o8,Value.isStrOf]
def KS(a b:Int):decide ((Sum.inl a:Key)=Sum.inl b)=(a == b):=by
 by_cases e:a=b
 ·subst e;simp
 ·have h:¬ (Sum.inl a:Key)=Sum.inl b:=fun q=>e (Sum.inl.inj q);rw[Ae h];exact(beq_eq_false_iff_ne.mpr e).symm
def KU(a b:Str):decide ((Sum.inr a:Key)=Sum.inr b)=decide (a=b):=by
 by_cases e:a=b
 ·subst e;simp
 ·have h:¬ (Sum.inr a:Key)=Sum.inr b:=fun q=>e (Sum.inr.inj q);rw[Ae h,Ae e]
def KW(a:Int)(b:Str):decide ((Sum.inl a:Key)=Sum.inr b)=false:=Ae (fun q=>nomatch q)
def KY(a:Str)(b:Int):decide ((Sum.inr a:Key)=Sum.inl b)=false:=Ae (fun q=>nomatch q)
def cF(prog:Program)(w:World):PySem.KeyKind prog w Key where
 is:=o8
 hash:=Pe w
 inj:=fun v a b ha hb=>by
  rcases cz ha with⟨i,t,rfl,rfl⟩|⟨x,t,rfl,rfl⟩
  ·rcases cz hb with⟨j,u,rfl,e⟩|⟨y,u,rfl,e⟩
   ·injection e with e1 _;rw[e1]
   ·exact nomatch e
  ·rcases cz hb with⟨j,u,rfl,e⟩|⟨y,u,rfl,e⟩
   ·exact nomatch e
   ·injection e with e1 _;rw[e1]
 byValue:=fun k v h=>by
  rcases cz h with⟨i,t,rfl,rfl⟩|⟨x,t,rfl,rfl⟩<;>rfl
 pyHash:=fun hv h=>by
  rcases cz hv with⟨i,t,rfl,rfl⟩|⟨x,t,rfl,rfl⟩
  ·exact wpAny_pyHash_int h
  ·exact wpAny_pyHash_str h
 eqBool:=fun hu hv h=>by
  rcases cz hu with⟨i,t,rfl,rfl⟩|⟨x,t,rfl,rfl⟩
  ·rcases cz hv with⟨j,u,rfl,rfl⟩|⟨y,u,rfl,rfl⟩
   ·rw[KS]at h;exact wpAny_eqBool_int h
   ·rw[KW]at h;exact Cz i t y u _ _ _ _ h
  ·rcases cz hv with⟨j,u,rfl,rfl⟩|⟨y,u,rfl,rfl⟩
   ·rw[KY]at h;exact Cy x t j u _ _ _ _ h
   ·rw[KU]at h;exact wpAny_eqBool_str h
 «strs»:=fun k x t v h=>by
  rcases cz h with⟨i,u,rfl,e⟩|⟨y,u,rfl,e⟩
  ·exact nomatch e
  ·injection e with e1 _
   subst e1;cases v<;>rfl
def tZ(prog:Program)(w:World)(i:Int)(t:Tok):(cF prog w).is (.inl i) (.int i t)=true:=zc i t
def t7(prog:Program)(w:World)(x:Str)(t:Tok):(cF prog w).is (.inr x) (.str x t)=true:=zd x t
end L2
namespace L2
open PySem PySem.Spec PyProof.Rows
inductive V where
 | non|bl (b:Bool)|int (i:Int)|str (x:Str)|byt (b:Array UInt8)|flt (b:UInt64)|ref (a:Addr)|ty (n:String)
 deriving DecidableEq
def RelV:V->Value->Prop
 | .non,u=>u=Value.none
 | .bl b,u=>u=Value.bool b
 | .int i,u=>∃t,u=Value.int i t
 | .str x,u=>∃t,u=Value.str x t
 | .byt b,u=>∃t,u=Value.bytes b t
 | .flt b,u=>∃t,u=Value.float b t
 | .ref a,u=>u=Value.ref a
 | .ty n,u=>u=Value.type n
abbrev Vals:List V->List Value->Prop:=Paired RelV
theorem Vals.length{xs:List V}{us:List Value}(r:Vals xs us):xs.length=us.length:=Paired.length r
theorem Vals.get:∀{xs:List V}{us:List Value}{i:Nat}{x:V},Vals xs us->xs[i]?=some x->∃u,us[i]?=some u/\RelV x u
 | _,_,_,_,.nil,e=>by simp at e
 | _,_,0,_,.cons r _,e=>by simp at e;subst e;exact⟨_,rfl,r⟩
 | _,_,i+1,x,.cons _ t,e=>by
  obtain⟨u,h1,h2⟩:=Vals.get (i:=i) (x:=x) t (by simpa using e)
  exact⟨u,by simpa using h1,h2⟩
theorem Vals.set(r:RelV x u):∀{xs:List V}{us:List Value}(i:Nat),Vals xs us->Vals (xs.set i x) (us.set i u)
 | _,_,_,.nil=>.nil
 | _,_,0,.cons _ t=>.cons r t
 | _,_,i+1,.cons q t=>.cons q (Vals.set r i t)
theorem Vals.append:∀{xs ys:List V}{us ws:List Value},Vals xs us->Vals ys ws->Vals (xs++ys) (us++ws)
 | _,_,_,_,.nil,s=>s
 | _,_,_,_,.cons r t,s=>.cons r (Vals.append t s)
theorem Vals.take:∀{xs:List V}{us:List Value}(n:Nat),Vals xs us->Vals (xs.take n) (us.take n)
 | _,_,0,_=>.nil
 | _,_,_+1,.nil=>.nil
 | _,_,n+1,.cons r t=>.cons r (Vals.take n t)
theorem Vals.drop:∀{xs:List V}{us:List Value}(n:Nat),Vals xs us->Vals (xs.drop n) (us.drop n)
 | _,_,0,r=>r
 | _,_,_+1,.nil=>.nil
 | _,_,n+1,.cons _ t=>Vals.drop n t
def RelO:Option V->Option Value->Prop
 | some v,some u=>RelV v u
 | none,none=>True
 | _,_=>False
def KV{κ:Type}:List (κ×V)->List (κ×Value)->Prop:=Paired fun(p:κ×V) (q:κ×Value)=>p.1=q.1/\RelV p.2 q.2
def kV:Key->V
 | .inl i=>.int i
 | .inr x=>.str x
inductive HO where
  | lst (xs:List V)
  | tup (xs:List V)
  | dK (kvs:List (Key×V))|dT (ep:Nat×List Addr) (kvs:List (List Key×V))
  | set (S:Int->Bool) (n:Nat)
  | ins (C dx:Addr) (fs:List (Str×V))
  | own (x:Addr)
  | xd (fs:List (Str×V))
  | met (f x:Addr)
  | rng (lo hi:Int)
  | frz (o:Obj) (u:HO)
  | tbl (ps:Array Value)
  | ext (φ:Heap->Prop)
abbrev Hp:=Addr->Option HO
def upd(H:Hp)(a:Addr)(o:HO):Hp:=fun b=>if b=a then some o else H b
def bX:upd H a o a=some o:=by unfold upd;rw[Ag rfl]
def bj(h:b≠a):upd H a o b=H b:=by unfold upd;rw[Ak h]
def Nu{H:Hp}{a b:Addr}{o u:HO}(h:H a=some o)(h':H b=some u)(d:o≠u):a≠b:=by
 intro e;subst e;rw[h]at h';exact d (Option.some.inj h')
def bP{H:Hp}{a b:Addr}{o:HO}(h:H a=some o)(h':H b=none):a≠b:=by
 intro e;subst e;rw[h]at h';cases h'
section
variable (P:Program)(w:World)
def ObjOk(H:Hp)(h:Heap)(a:Addr):HO->Prop
 | .lst xs=>xs.length<=sizeLine/\∃(its:List Value)(n:Nat),Vals xs its/\h.get? a=some { cls:=.type "list",data:=.seq its.toArray n }
 | .tup xs=>xs.length<=sizeLine/\∃its:List Value,Vals xs its/\IsTup h a its.toArray
 | .dK kvs=>kvs.length<=sizeLine/\(a == sysModules)=false/\∃vs,KV kvs vs/\h.DictOf (cF P w) a vs
 | .dT ep kvs=>kvs.length<=sizeLine/\(a == sysModules)=false/\∃xs:List (List Key×Addr×Value),
   Paired (fun(p:List Key×V) (q:List Key×Addr×Value)=>p.1=q.1/\H q.2.1=some (.tup (p.1.map kV))/\RelV p.2 q.2.2) kvs xs /\
   xs.map (·.2.1)=ep.2/\∃o es,h.get? a=some o/\o.ExactDict/\o.data=.dict es ep.1/\es.toList=xs.map (entryOfKey (tupleKind (cF P w)))/\(xs.map (·.1)).Nodup
 | .set S n=>h.SetOf (intKind P w) a S n
 | .ins C dx fs=>H dx=some (.own a)/\fs.length<=1000/\dx≠a/\h.get? a=some (PySem.W.instObj C dx) /\
   ∃mA,h.Ns1 dx mA/\(∀f,RelO (fs.lookup f) (mA f))/\PySem.Within mA (fs.map (·.1))
 | .own _=>∃o,h.get? a=some o
 | .xd fs=>∃mA,h.Ns1 a mA/\∀f,RelO (fs.lookup f) (mA f)
 | .rng lo hi=>∃t u v,h.get? a=some { cls:=.type "range",data:=.fields #[.int lo t,.int hi u,.int 1 v] }
 | .frz o u=>h.get? a=some o/\ObjOk H h a u
 | .tbl ps=>h.get? a=some { cls:=.none,data:=.fields ps }
 | .met f x=>h.get? a=some (PySem.W.methodObj (.ref f) (.ref x))
 | .ext φ=>φ h/\(∃o,h.get? a=some o)/\∀h1 h2:Heap,φ h1->(∀o,h1.get? a=some o->h2.get? a=some o)->φ h2
def HOk(H:Hp)(h:Heap):Prop:=∀a o,H a=some o->ObjOk P w H h a o
end
section
variable {P:Program}{w:World}{H H':Hp}{h h':Heap}{a:Addr}{o:HO}
theorem ObjOk.lt(x:ObjOk P w H h a o):a<h.objs.size:=by
 cases o with
 | lst xs=>obtain⟨_,_,_,_,e⟩:=x;exact Aj e
 | tup xs=>obtain⟨_,_,_,p⟩:=x;exact p.lt
 | dK kvs=>obtain⟨_,_,_,_,o,_,_,e,_⟩:=x;exact Aj e
 | dT ep kvs=>obtain⟨_,_,_,_,_,o,_,e,_⟩:=x;exact Aj e
 | set S n=>obtain⟨o,_,_,_,e,_⟩:=x;exact Aj e
 | ins C dx fs=>obtain⟨_,_,_,e,_⟩:=x;exact Aj e
 | own y=>obtain⟨_,e⟩:=x;exact Aj e
 | xd fs=>obtain⟨_,⟨_,_,_,e,_⟩,_⟩:=x;exact Aj e
 | rng lo hi=>obtain⟨_,_,_,e⟩:=x;exact Aj e
 | frz ob u=>obtain⟨e,_⟩:=x;exact Aj e
 | tbl ps=>exact Aj (show h.get? a=some _ from x)
 | met f y=>exact Aj (show h.get? a=some _ from x)
 | ext φ=>obtain⟨_,⟨_,e⟩,_⟩:=x;exact Aj e
theorem Paired.mapP:∀{l₁:List α}{l₂:List β},Paired F l₁ l₂->(∀a b,F a b->G a b)->Paired G l₁ l₂
 | _,_,.nil,_=>.nil
 | _,_,.cons r t,f=>.cons (f _ _ r) (Paired.mapP t f)
def ObjOk.stay(x:ObjOk P w H h a o)(k:∀b u,(b=a∨H b=some (.own a))->h.get? b=some u->h'.get? b=some u)
  (ho:∀b,H b=some (.own a)->H' b=some (.own a))(ht:∀b xs,H b=some (.tup xs)->H' b=some (.tup xs)):ObjOk P w H' h' a o:=by
 induction o with
 | lst xs=>obtain⟨z,its,n,r,e⟩:=x;exact⟨z,its,n,r,k _ _ (.inl rfl) e⟩
 | tup xs=>obtain⟨z,its,r,ob,e,c⟩:=x;exact⟨z,its,r,ob,k _ _ (.inl rfl) e,c⟩
 | dK kvs=>obtain⟨z,y,vs,r,ob,es,ep,e,c⟩:=x;exact⟨z,y,vs,r,ob,es,ep,k _ _ (.inl rfl) e,c⟩
 | dT ep kvs =>
  obtain⟨z,y,xs,r,ra,ob,es,e,c⟩:=x;exact⟨z,y,xs,Paired.mapP r fun p q z=>⟨z.1,ht _ _ z.2.1,z.2.2⟩,ra,ob,es,k _ _ (.inl rfl) e,c⟩
 | set S n=>obtain⟨ob,es,ep,t,e,c⟩:=x;exact⟨ob,es,ep,t,k _ _ (.inl rfl) e,c⟩
 | ins C dx fs =>
  obtain⟨d,z,ne,e,mA,⟨od,es,ep,e2,c⟩,r⟩:=x;exact⟨ho _ d,z,ne,k _ _ (.inl rfl) e,mA,⟨od,es,ep,k _ _ (.inr d) e2,c⟩,r⟩
 | own y=>obtain⟨ob,e⟩:=x;exact⟨ob,k _ _ (.inl rfl) e⟩
 | xd fs=>obtain⟨mA,⟨od,es,ep,e,c⟩,r⟩:=x;exact⟨mA,⟨od,es,ep,k _ _ (.inl rfl) e,c⟩,r⟩
 | rng lo hi=>obtain⟨t,u,v,e⟩:=x;exact⟨t,u,v,k _ _ (.inl rfl) e⟩
 | frz ob u ih=>obtain⟨e,q⟩:=x;exact⟨k _ _ (.inl rfl) e,ih q⟩
 | tbl ps =>
  have e:h.get? a=some { cls:=.none,data:=.fields ps }:=x;show h'.get? a=some { cls:=.none,data:=.fields ps };exact k a _ (.inl rfl) e
 | met f y =>
  have e:h.get? a=some (PySem.W.methodObj (.ref f) (.ref y)):=x;show h'.get? a=some (PySem.W.methodObj (.ref f) (.ref y));exact k a _ (.inl rfl) e
 | ext φ=>obtain⟨p,⟨o,e⟩,st⟩:=x;exact⟨st _ _ p fun o q=>k _ _ (.inl rfl) q,⟨o,k _ _ (.inl rfl) e⟩,st⟩
theorem HOk.lt(x:HOk P w H h)(e:H a=some o):a<h.objs.size:=(x a o e).lt
theorem HOk.fresh(x:HOk P w H h)(e:h.objs.size<=a):H a=none:=by
 cases q:H a with
 | none=>rfl
 | some u=>exact absurd (Vc (x.lt q) e) (Xj _)
def HOk.kept(x:HOk P w H h)(k:∀b u,h.get? b=some u->h'.get? b=some u):HOk P w H h':=fun a o e =>
 (x a o e).stay (fun b u _ q=>k b u q) (fun _ q=>q) fun _ _ q=>q
def HOk.laid(x:HOk P w H h)(k:∀b u,h.get? b=some u->h'.get? b=some u)(hp:h.objs.size<=a)(new:ObjOk P w (upd H a o) h' a o):HOk P w (upd H a o) h':=fun b u e=>by
 have hn:=x.fresh hp;by_cases hb:b=a
 ·subst hb;rw[bX]at e;cases e;exact new
 ·rw[bj hb]at e;exact(x b u e).stay (fun c v _ q=>k c v q) (fun c q=>by rw[bj (bP q hn)];exact q) fun c xs q=>by rw[bj (bP q hn)];exact q
end
def Rd(H:Hp)(a:Addr)(u:HO):Prop:=H a=some u∨∃o,H a=some (.frz o u)
def Rd.ok(r:Rd H a u)(x:HOk P w H h):ObjOk P w H h a u:=by
 rcases r with r|⟨o,r⟩
 ·exact x a u r
 ·obtain⟨_,q⟩:=x a _ r;exact q
def Mut:Option HO->Prop
 | some (.lst _)=>True
 | some (.dK _)=>True
 | some (.dT _ _)=>True
 | some (.set _ _)=>True
 | some (.ins _ _ _)=>True
 | some (.ext _)=>True
 | _=>False
section
variable {P:Program}{w:World}{H:Hp}{h h':Heap}{x e:Addr}{o':HO}
def HOk.write(ok:HOk P w H h)(mu:Mut (H x))(he:e=x∨H e=some (.own x))(k:∀b u,b≠e->h.get? b=some u->h'.get? b=some u)(heo:∃u,h'.get? e=some u)
  (new:ObjOk P w (upd H x o') h' x o'):HOk P w (upd H x o') h':=fun b u q=>by
 have nown:∀c y,H c=some (.own y)->c≠x:=fun c y r z=>by subst z;rw[r]at mu;exact mu
 have ntup:∀c xs,H c=some (.tup xs)->c≠x:=fun c xs r z=>by subst z;rw[r]at mu;exact mu
 by_cases hb:b=x
 ·subst hb;rw[bX]at q;cases q;exact new
 ·rw[bj hb]at q;by_cases hbe:b=e
  ·have q':H b=some (.own x):=by
    rcases he with z|z
    ·exact absurd (hbe.trans z) hb
    ·rw[hbe];exact z
   rw[q]at q';cases q';obtain⟨v,hv⟩:=heo;exact⟨v,by rw[hbe];exact hv⟩
  ·refine(ok b u q).stay (fun c v hc r=>k c v ?_ r) (fun c r=>by rw[bj (nown c b r)];exact r) fun c xs r=>by rw[bj (ntup c xs r)];exact r
   rcases hc with rfl|hc
   ·exact hbe
   ·rintro rfl;rcases he with z|z
    ·exact nown c b hc z
    ·rw[hc]at z;cases z;exact hb rfl
end
structure Un(fs ex:List Addr)(H H':Hp)(h h':Heap):Prop where
 keep:∀b o,h.get? b=some o->H b=none->b∉fs->b∉ex->h'.get? b=some o
 slot:∀b o,h.get? b=some o->H b=none->b∈fs->b∉ex->∃sl,h'.get? b=some { o with slots:=sl }
 free:∀b o,h.get? b=some o->H b=none->b∉ex->H' b=none
 there:∀b o,h.get? b=some o->b∉ex->∃o',h'.get? b=some o'
 tups:∀b xs,H b=some (.tup xs)->H' b=some (.tup xs)
 frzs:∀b o u,H b=some (.frz o u)->H' b=some (.frz o u)
 tbls:∀b ps,H b=some (.tbl ps)->∃more,H' b=some (.tbl (ps++more))
section
variable {fs fs' ex ex':List Addr}{H H1 H2:Hp}{h h1 h2 h':Heap}{a x e:Addr}{o:HO}
def Un.any(u:Un fs ex H H1 h h1)(q:h.get? b=some ob)(n:H b=none)(hx:b∉ex):∃sl,h1.get? b=some { ob with slots:=sl }:=by
 by_cases hb:b∈fs
 ·exact u.slot b ob q n hb hx
 ·exact⟨ob.slots,u.keep b ob q n hb hx⟩
def Un.kept(k:∀b u,h.get? b=some u->h'.get? b=some u):Un fs ex H H h h' :=
 ⟨fun b ob q _ _ _=>k b ob q,fun b ob q _ _ _=>⟨ob.slots,k b ob q⟩,fun _ _ _ n _=>n,fun b ob q _=>⟨ob,k b ob q⟩,fun _ _ q=>q,fun _ _ _ q=>q,fun _ ps q=>⟨#[],by rw[q];simp⟩⟩
def Un.refl:Un fs ex H H h h:=Un.kept fun _ _ q=>q
def Un.laid(k:∀b u,h.get? b=some u->h'.get? b=some u)(hp:h.objs.size<=a)(hn:H a=none):Un fs ex H (upd H a o) h h' where
 keep:=fun b u q _ _ _=>k b u q
 slot:=fun b u q _ _ _=>⟨u.slots,k b u q⟩
 free:=fun b u q n _=>by rw[bj (Qh (Vc (Aj q) hp))];exact n
 there:=fun b u q _=>⟨u,k b u q⟩
 tups:=fun b xs q=>by rw[bj (bP q hn)];exact q
 frzs:=fun b u xs q=>by rw[bj (bP q hn)];exact q
 tbls:=fun b ps q=>⟨#[],by rw[bj (bP q hn),q];simp⟩
def Un.write(mu:Mut (H x))(he:e=x∨H e=some (.own x))(k:∀b u,b≠e->h.get? b=some u->h'.get? b=some u)(heo:∃u,h'.get? e=some u):Un fs ex H (upd H x o) h h':=by
 have hx:∀b,H b=none->b≠x:=fun b n z=>by subst z;rw[n]at mu;exact mu
 have hb:∀b,H b=none->b≠e:=fun b n z=>by
  subst z;rcases he with r|r
  ·exact hx b n r
  ·rw[n]at r;cases r
 have hm:∀b u,H b=some u->¬ Mut (some u)->b≠x:=fun b u q nm z=>by subst z;rw[q]at mu;exact nm mu
 refine⟨fun b u q n _ _=>k b u (hb b n) q,fun b u q n _ _=>⟨u.slots,k b u (hb b n) q⟩,fun b u q n _=>by rw[bj (hx b n)];exact n,fun b u q _=>?_,
  fun b xs q=>by rw[bj (hm b _ q fun z=>z)];exact q,fun b u xs q=>by rw[bj (hm b _ q fun z=>z)];exact q,fun b ps q=>⟨#[],by rw[bj (hm b _ q fun z=>z),q];simp⟩⟩
 by_cases hbe:b=e
 ·subst hbe;exact heo
 ·exact⟨u,k b u hbe q⟩
end
def trk(h:Heap)(H:Hp):List Addr:=(List.range h.objs.size).filter fun a=>(H a).isSome
def rT(h:Heap)(H:Hp):Heap:=PySem.W.hideAll h (trk h H)
def ze(h:Heap)(H:Hp):(rT h H).objs.size=h.objs.size:=PySem.W.hideAll_size _ _
def Eb{h:Heap}(e:h.get? b=some o)(n:H b=none):(rT h H).get? b=some o :=
 PySem.W.hideAll_get _ e fun hm=>by
  have q:(H b).isSome=true:=(Qg.mp hm).2;rw[n]at q;simp at q
theorem HR{h:Heap}(e:(rT h H).get? b=some o):h.get? b=some o/\H b=none:=by
 have e':h.get? b=some o:=PySem.W.of_hideAll (trk h H) e;refine⟨e',?_⟩;cases q:H b with
 | none=>rfl
 | some x =>
  have hm:b∈trk h H:=Qg.mpr ⟨Zk.mpr (Aj e'),by simp[q]⟩
  have z:(rT h H).get? b=none:=PySem.W.hideAll_none (trk h H) hm;rw[z]at e;cases e
end L2
namespace L2
open PySem PySem.Spec PyProof.Rows
structure Mod(K:Ab)(mg:Str->Option Value)(base:Heap):Prop where
 kin:K.In base
 glob:base.Ns mainGlobals mg
 blt:∃mb,base.Ns builtinsNs mb/\∀x:Str,x≠"__name__"->mb x=bootBuiltins x
 nolimit:base.NoLimit
structure Cx where
 prog:Program
 w:World
 K:Ab
 mg:Str->Option Value
 base:Heap
 A:Around
 N:List Str
 s₀:Shared
 H₀:Hp
 env:Env
 outer:List Env
 stack:List Env
 ex:List Addr
 fn:Str->Bool
 calm:Bool
 pn:List (Addr×Obj)
 xe:Value->Shared->Prop
def frs(l:List Env):List Addr:=l.filterMap (·.frame)
abbrev Cx.fs(X:Cx):List Addr:=frs X.outer
def Vis(sc:Scope)(x:Str):Prop:=sc.names.lookup x=some .local∨sc.names.lookup x=some .cell∨sc.names.lookup x=some .free
def Loc(sc:Scope)(x:Str):Prop:=sc.names.lookup x=some .local∨sc.names.lookup x=some .cell
def Look(env:Env)(h:Heap)(m:Str->Option Value)(x:Str)(u:Value):Prop :=
 (env.kindOf x=some .local/\m x=some u)∨((env.kindOf x=some .cell∨env.kindOf x=some .free)/\∃c,env.cells.lookup x=some c/\h.IsCell c (some u))
structure Cx.Ok(X:Cx):Prop where
 mod:Mod X.K X.mg X.base
 kind:X.env.scope.kind=.function
 glob:X.env.globals=mainGlobals
 blt:X.env.builtins=builtinsNs
 above:X.s₀.heap.objs.size<=X.env.locals
 inj:∀x y c,X.env.cells.lookup x=some c->X.env.cells.lookup y=some c->x=y
 has:∀x,(X.env.kindOf x=some .cell∨X.env.kindOf x=some .free)->∃c,X.env.cells.lookup x=some c
 cab:∀x c,X.fn x=true->X.env.cells.lookup x=some c->X.s₀.heap.objs.size<=c
 hd:X.calm=true->X.A.handled=none
 frames:X.A.frames=some X.stack
 stk:X.stack=X.outer∨(X.stack=X.env::X.outer/\X.env.frame=some X.env.locals)
 exf:∀b∈X.ex,b≠X.env.locals/\∀x c,X.env.cells.lookup x=some c->c≠b
 bs:∀b o,X.base.get? b=some o->X.s₀.heap.get? b=some o/\X.H₀ b=none
 bsz:X.base.objs.size<=X.s₀.heap.objs.size
 noex:∀b o,X.base.get? b=some o->b∉X.ex
 exfs:∀b∈X.ex,b∉X.fs
 funs:X.s₀.heap.FunFrames X.base X.outer
 frf:∀b∈X.fs,X.H₀ b=none
structure Inv(X:Cx)(pins:List (Addr×Obj))(σ:List (Option V))(H:Hp)(s:Shared):Prop where
 ok:X.Ok
 os:s.os=X.s₀.os
 bare:AllBare s.gens
 base:Un X.fs X.ex X.H₀ H X.s₀.heap s.heap
 loc:∃m,s.heap.Ns X.env.locals m/\∀(i:Nat)(x:Str)(v:V),X.N[i]?=some x->σ[i]?=some (some v)->Vis X.env.scope x->∃u,RelV v u/\Look X.env s.heap m x u
 cell:∀x c,X.env.cells.lookup x=some c->∃v,s.heap.IsCell c v
 free:H X.env.locals=none
 freeC:∀x c,X.env.cells.lookup x=some c->H c=none
 pin:∀p∈X.pn++pins,s.heap.get? p.1=some p.2/\H p.1=none/\p.1≠X.env.locals/\p.1∉X.fs/\∀v,p.2.data≠.cell v
 hok:HOk X.prog X.w H s.heap
 len:σ.length=X.N.length
section
variable {X:Cx}{pins:List (Addr×Obj)}{σ:List (Option V)}{H H':Hp}{s:Shared}{h':Heap}
def Cx.Ok.nofr(ok:X.Ok)(e:X.base.get? b=some o):b∉X.fs:=fun hb=>by
 have:=(ok.funs.mem hb).1;rw[e]at this;cases this
theorem Inv.bs(I:Inv X pins σ H s):∀b o,X.base.get? b=some o->s.heap.get? b=some o/\H b=none:=fun b o e =>
 ⟨I.base.keep b o (I.ok.bs b o e).1 (I.ok.bs b o e).2 (I.ok.nofr e) (I.ok.noex b o e),I.base.free b o (I.ok.bs b o e).1 (I.ok.bs b o e).2 (I.ok.noex b o e)⟩
def Inv.bk(I:Inv X pins σ H s):∀b o,X.base.get? b=some o->s.heap.get? b=some o:=fun b o e=>(I.bs b o e).1
theorem Inv.mod(I:Inv X pins σ H s):Mod X.K X.mg X.base:=I.ok.mod
def Inv.kIn(I:Inv X pins σ H s):X.K.In s.heap:=I.ok.mod.kin.keeps I.bk
theorem Inv.lt(I:Inv X pins σ H s):X.env.locals<s.heap.objs.size:=let ⟨_,hn,_⟩:=I.loc;hn.lt
def Inv.sz(I:Inv X pins σ H s):X.s₀.heap.objs.size<=s.heap.objs.size:=Yd I.ok.above (Qk I.lt)
def Inv.nofs(I:Inv X pins σ H s)(h:s.heap.objs.size<=a):a∉X.fs:=fun hb=>by
 obtain⟨_,o,ho,_⟩:=I.ok.funs.mem hb;exact absurd (Vc (Aj ho) (Yd I.sz h)) (Xj _)
def Inv.cne(I:Inv X pins σ H s):∀x c,X.env.cells.lookup x=some c->c≠X.env.locals:=fun x c e z=>by
 obtain⟨v,o,ho,hd⟩:=I.cell x c e;obtain⟨m,⟨o',es,ep,ho',hd',_⟩,_⟩:=I.loc;rw[z,ho']at ho;cases ho;rw[hd']at hd;cases hd
theorem Inv.funs(I:Inv X pins σ H s):s.heap.FunFrames X.base X.outer:=by
 have all:∀(l:List Env),(∀b∈frs l,b∈X.fs)->X.s₀.heap.FunFrames X.base l->s.heap.FunFrames X.base l:=by
  intro l;induction l with
  | nil=>intro _ _;trivial
  | cons env r ih =>
   intro hs hl;obtain⟨hk,⟨L,o,hf,hn,ho,hd⟩,hr⟩:=hl;have hL:L∈X.fs:=hs L (by unfold frs;rw[Yk,hf];exact Qa)
   obtain⟨sl,e⟩:=I.base.slot L o ho (I.ok.frf L hL) hL fun z=>I.ok.exfs L z hL;exact⟨hk,⟨L,_,hf,hn,e,hd⟩,ih (fun b hb=>hs b (by unfold frs;rw[Yk,hf];exact Xb _ hb)) hr⟩
 exact all X.outer (fun _ hb=>hb) I.ok.funs
theorem Inv.stack(I:Inv X pins σ H s):s.heap.FunFrames X.base X.stack:=by
 rcases I.ok.stk with e|⟨e,hf⟩
 ·rw[e];exact I.funs
 ·rw[e];obtain⟨m,hn,_⟩:=I.loc;refine .cons (by rw[I.ok.kind];decide) hf hn ?_ I.funs
  exact Heap.get?_none_of_le (Yd I.ok.bsz I.ok.above)
def Inv.stkSub(I:Inv X pins σ H s):∀b∈frs X.stack,b∈X.env.locals::X.fs:=fun b hb=>by
 rcases I.ok.stk with e|⟨e,hf⟩
 ·rw[e]at hb;exact Xb _ hb
 ·rw[e]at hb;unfold frs at hb;rw[Yk,hf]at hb;exact hb
def Inv.stkFree(I:Inv X pins σ H s):∀b∈frs X.stack,H b=none:=fun b hb=>by
 rcases Vd.mp (I.stkSub b hb) with e|hb
 ·rw[e];exact I.free
 ·obtain⟨_,o,ho,_⟩:=I.ok.funs.mem hb;exact I.base.free b o ho (I.ok.frf b hb) fun z=>I.ok.exfs b z hb
def Inv.step{g':Array GenState}{t':Nat}{d':Drawn}{ch:List Addr}(I:Inv X pins σ H s)
  (hch:∀b∈ch,(b∈X.ex∨X.s₀.heap.objs.size<=b)/\b≠X.env.locals/\(∀x c,X.env.cells.lookup x=some c->c≠b)/\∀p∈X.pn++pins,p.1≠b)
  (keep:∀b o,b≠X.env.locals->b∉X.fs->b∉ch->s.heap.get? b=some o->H b=none->h'.get? b=some o)
  (slot:∀b o,b≠X.env.locals->b∈X.fs->b∉ch->s.heap.get? b=some o->H b=none->∃sl,h'.get? b=some { o with slots:=sl }) (free:∀b o,b∉ch->s.heap.get? b=some o->H b=none->H' b=none)
  (there:∀b o,b∉ch->s.heap.get? b=some o->∃o',h'.get? b=some o')
  (tups:∀b xs,H b=some (.tup xs)->H' b=some (.tup xs)) (frzs:∀b o u,H b=some (.frz o u)->H' b=some (.frz o u)) (tbls:∀b ps,H b=some (.tbl ps)->∃more,H' b=some (.tbl (ps++more)))
  (ns:∀m,s.heap.Ns X.env.locals m->h'.Ns X.env.locals m) (hok:HOk X.prog X.w H' h') (hg:AllBare g') :
  Inv X pins σ H' { s with heap:=h',gens:=g',drawn:=d',toks:=t' }:=by
 have neL:∀b o,X.s₀.heap.get? b=some o->b≠X.env.locals:=fun b o e=>Qh (Vc (Aj e) I.ok.above);have neC:∀b o,X.s₀.heap.get? b=some o->b∉X.ex->b∉ch:=fun b o e hx hb=>by
  rcases(hch b hb).1 with z|z
  ·exact hx z
  ·exact absurd (Vc (Aj e) z) (Xj _)
 have cellK:∀x c,X.env.cells.lookup x=some c->∀v,s.heap.IsCell c v->h'.IsCell c v:=fun x c e v ⟨o,ho,hd⟩=>by
  have nch:c∉ch:=fun z=>(hch c z).2.2.1 x c e rfl;by_cases hc:c∈X.fs
  ·obtain⟨sl,q⟩:=slot c o (I.cne x c e) hc nch ho (I.freeC x c e);exact⟨_,q,hd⟩
  ·exact⟨o,keep c o (I.cne x c e) hc nch ho (I.freeC x c e),hd⟩
 refine⟨I.ok,I.os,hg,⟨fun b o e n hb hx=>?_,fun b o e n hb hx=>?_,fun b o e n hx=>?_,fun b o e hx=>?_,fun b xs e=>tups b xs (I.base.tups b xs e),fun b o xs e=>frzs b o xs (I.base.frzs b o xs e),fun b ps e=>?_⟩,?_,fun x c e=>?_,?_,fun x c e=>?_,fun p hp=>?_,hok,I.len⟩
 ·exact keep b o (neL b o e) hb (neC b o e hx) (I.base.keep b o e n hb hx) (I.base.free b o e n hx)
 ·obtain⟨sl,e1⟩:=I.base.slot b o e n hb hx;obtain⟨sl',e2⟩:=slot b _ (neL b o e) hb (neC b o e hx) e1 (I.base.free b o e n hx);exact⟨sl',e2⟩
 ·obtain⟨o',e1⟩:=I.base.there b o e hx;exact free b o' (neC b o e hx) e1 (I.base.free b o e n hx)
 ·obtain⟨o',e1⟩:=I.base.there b o e hx;exact there b o' (neC b o e hx) e1
 ·obtain⟨m1,e1⟩:=I.base.tbls b ps e;obtain⟨m2,e2⟩:=tbls b _ e1;exact⟨m1++m2,by rw[e2,Array.append_assoc]⟩
 ·obtain⟨m,hn,hl⟩:=I.loc;refine⟨m,ns m hn,fun i x v e1 e2 e3=>?_⟩;obtain⟨u,r,l⟩:=hl i x v e1 e2 e3;refine⟨u,r,?_⟩;rcases l with l|⟨k,c,e,z⟩
  ·exact .inl l
  ·exact .inr ⟨k,c,e,cellK x c e _ z⟩
 ·obtain⟨v,z⟩:=I.cell x c e;exact⟨v,cellK x c e v z⟩
 ·obtain⟨m,⟨o,_,_,ho,_⟩,_⟩:=I.loc;exact free _ o (fun z=>(hch _ z).2.1 rfl) ho I.free
 ·obtain⟨v,o,ho,hd⟩:=I.cell x c e;exact free c o (fun z=>(hch c z).2.2.1 x c e rfl) ho (I.freeC x c e)
 ·obtain⟨e,n,ne,nf,d⟩:=I.pin p hp;have nch:p.1∉ch:=fun z=>(hch p.1 z).2.2.2 p hp rfl;exact⟨keep p.1 p.2 ne nf nch e n,free p.1 p.2 nch e n,ne,nf,d⟩
def Inv.un{t':Nat}(I:Inv X pins σ H s)(u:Un X.fs [] H H' s.heap h')(hok:HOk X.prog X.w H' h'):Inv X pins σ H' { s with heap:=h',toks:=t' }:=by
 obtain⟨m,⟨o,es,ep,ho,r⟩,_⟩:=id I.loc;obtain⟨sl,hL⟩:=u.any ho I.free (by simp)
 exact I.step (g':=s.gens) (d':=s.drawn) (ch:=[]) (fun _ z=>nomatch z) (fun b o _ hb _ e n=>u.keep b o e n hb (by simp)) (fun b o _ hb _ e n=>u.slot b o e n hb (by simp)) (fun b o _ e n=>u.free b o e n (by simp)) (fun b o _ e=>u.there b o e (by simp)) u.tups u.frzs u.tbls (fun m' hm=>by
  obtain⟨o',es',ep',ho',r'⟩:=hm;rw[ho]at ho';cases ho'
  exact⟨_,es',ep',hL,r'⟩) hok I.bare
def Inv.call{g':Array GenState}{t':Nat}{d':Drawn}{ch:List Addr}(I:Inv X pins σ H s)(u:Un (frs X.stack) ch H H' s.heap h')(hok:HOk X.prog X.w H' h')(hg:AllBare g')
  (hch:∀b∈ch,(b∈X.ex∨X.s₀.heap.objs.size<=b)/\b≠X.env.locals/\(∀x c,X.env.cells.lookup x=some c->c≠b)/\∀p∈X.pn++pins,p.1≠b) :
  Inv X pins σ H' { s with heap:=h',gens:=g',drawn:=d',toks:=t' }:=by
 obtain⟨m,⟨o,es,ep,ho,r⟩,_⟩:=id I.loc;obtain⟨sl,hL⟩:=u.any ho I.free fun z=>(hch _ z).2.1 rfl
 exact I.step (ch:=ch) hch (fun b o hL hb hc e n=>u.keep b o e n (fun z=>(Vd.mp (I.stkSub b z)).elim hL hb) hc) (fun b o _ _ hc e n=>u.any e n hc) (fun b o hc e n=>u.free b o e n hc) (fun b o hc e=>u.there b o e hc) u.tups u.frzs u.tbls (fun m' hm=>by
  obtain⟨o',es',ep',ho',r'⟩:=hm;rw[ho]at ho';cases ho'
  exact⟨_,es',ep',hL,r'⟩) hok hg
def Inv.turned{t':Nat}{it:Addr}(I:Inv X pins σ H s)(k:∀b o,b≠it->s.heap.get? b=some o->h'.get? b=some o)(hn:H it=none)(hL:it≠X.env.locals)
  (h1:it∈X.ex∨X.s₀.heap.objs.size<=it)(h2:∀x c,X.env.cells.lookup x=some c->c≠it)(h3:∀p∈X.pn++pins,p.1≠it):Inv X pins σ H { s with heap:=h',toks:=t' }:=by
 have nit:∀b u,H b=some u->b≠it:=fun b u e z=>by rw[z,hn]at e;cases e
 refine I.step (g':=s.gens) (d':=s.drawn) (ch:=[it]) (fun b hb=>?_) (fun b o _ _ hc e _=>k b o (fun z=>hc (by simp[z])) e) (fun b o _ _ hc e _=>⟨o.slots,k b o (fun z=>hc (by simp[z])) e⟩) (fun _ _ _ _ n=>n)
  (fun b o hc e=>⟨o,k b o (fun z=>hc (by simp[z])) e⟩) (fun _ _ e=>e) (fun _ _ _ e=>e) (fun b ps e=>⟨#[],by rw[e];simp⟩) (fun m hm=>?_) (fun b u e=>?_) I.bare
 ·have e:b=it:=by simpa using hb
  subst e;exact⟨h1,hL,h2,h3⟩
 ·obtain⟨o,es,ep,ho,r⟩:=hm;exact⟨o,es,ep,k _ o (AN hL) ho,r⟩
 ·refine(I.hok b u e).stay (fun c v hc q=>k c v ?_ q) (fun _ q=>q) fun _ _ q=>q;rcases hc with z|z
  ·rw[z];exact nit b u e
  ·exact nit c _ z
def Inv.tok(I:Inv X pins σ H s)(t:Nat):Inv X pins σ H { s with toks:=t }:=I.un (h':=s.heap) (t':=t) Un.refl I.hok
theorem Inv.kept{t':Nat}(I:Inv X pins σ H s)(k:∀b u,s.heap.get? b=some u->h'.get? b=some u):Inv X pins σ H { s with heap:=h',toks:=t' }:=I.un (Un.kept k) (I.hok.kept k)
theorem Inv.laid{t':Nat}(I:Inv X pins σ H s)(k:∀b u,s.heap.get? b=some u->h'.get? b=some u)(hp:s.heap.objs.size<=a)(new:ObjOk X.prog X.w (upd H a o) h' a o) :
  Inv X pins σ (upd H a o) { s with heap:=h',toks:=t' }:=I.un (Un.laid k hp (I.hok.fresh hp)) (I.hok.laid k hp new)
theorem Inv.write{t':Nat}(I:Inv X pins σ H s)(mu:Mut (H x))(he:e=x∨H e=some (.own x))(k:∀b u,b≠e->s.heap.get? b=some u->h'.get? b=some u)(heo:∃u,h'.get? e=some u)
  (new:ObjOk X.prog X.w (upd H x o) h' x o):Inv X pins σ (upd H x o) { s with heap:=h',toks:=t' }:=I.un (Un.write mu he k heo) (I.hok.write mu he k heo new)
def Inv.weak{σ':List (Option V)}(I:Inv X pins σ H s)(hl:σ'.length=σ.length)(w:∀(i:Nat) v,σ'[i]?=some (some v)->σ[i]?=some (some v)):Inv X pins σ' H s :=
 ⟨I.ok,I.os,I.bare,I.base,let ⟨m,hn,hl'⟩:=I.loc;⟨m,hn,fun i x v e1 e2 e3=>hl' i x v e1 (w i v e2) e3⟩,I.cell,I.free,I.freeC,I.pin,I.hok,hl.trans I.len⟩
def Inv.pins_of(I:Inv X pins σ H s)(h:∀p∈pins',s.heap.get? p.1=some p.2/\H p.1=none/\p.1≠X.env.locals/\p.1∉X.fs/\∀v,p.2.data≠.cell v):Inv X pins' σ H s :=
 ⟨I.ok,I.os,I.bare,I.base,I.loc,I.cell,I.free,I.freeC,fun p hp=>(Wd.mp hp).elim (fun z=>I.pin p (Cd _ z)) (h p),I.hok,I.len⟩
def t8{N:List Str}(hN:N.Nodup){i j:Nat}{x:Str}(a:N[i]?=some x)(b:N[j]?=some x):i=j:=by
 obtain⟨h1,e1⟩:=Wc.mp a;obtain⟨h2,e2⟩:=Wc.mp b;exact(List.getElem_inj hN).mp (e1.trans e2.symm)
def qL{M:Model}{A:Around}{E:Value->Shared->Prop}{i:Nat}{x:Str}{v:V}{u:Value}{Q:Unit->Shared->Prop}(I:Inv X pins σ H s)(hN:X.N.Nodup)(hi:X.N[i]?=some x)(hx:Loc X.env.scope x)(r:RelV v u)
  (h:∀s',Inv X pins (σ.set i (some v)) H s'->(∃a,Heap.SameBut a s.heap s'.heap/\(a=X.env.locals∨X.env.cells.lookup x=some a))->Q () s')(hf:X.fn x=true∨X.env.scope.names.lookup x=some .local:=by first|exact .inl rfl|exact .inr rfl|assumption):wpAny M A (storeName X.env x u) Q E s:=by
 obtain⟨m,hn,hl⟩:=id I.loc;have hcls:(X.env.scope.kind == .class||(X.env.scope.kind == .module&&X.env.locals != X.env.globals))=false:=by rw[I.ok.kind];rfl
 have hiσ:i<σ.length:=by rw[I.len];exact(Wc.mp hi).1
 have cne:=I.cne;have tracked:∀{a:Addr}{h':Heap},(∃o,s.heap.get? a=some o/\H a=none)->Heap.SameBut a s.heap h'->HOk X.prog X.w H h':=fun {a h'} ha hs b ob e=>by
  obtain⟨_,_,hfree⟩:=ha;refine(I.hok b ob e).stay (fun c w' hc q=>(hs.2 c ?_).trans q) (fun _ q=>q) fun _ _ q=>q;rintro rfl;rcases hc with rfl|hc
  ·rw[hfree]at e;cases e
  ·rw[hfree]at hc;cases hc
 rcases hx with hk|hk
 ·refine wpAny_storeName_local hk hn (fun h' hn' hs=>?_) hcls;obtain⟨oL,_,_,hoL,_⟩:=id hn;refine h _ ⟨I.ok,I.os,I.bare,⟨fun b o e n hb hx=>?_,fun b o e n hb hx=>?_,I.base.free,fun b o e hx=>?_,I.base.tups,I.base.frzs,I.base.tbls⟩,⟨_,hn',fun j y v' e1 e2 e3=>?_⟩,fun y c e=>?_,I.free,I.freeC,fun p hp=>?_,tracked ⟨oL,hoL,I.free⟩ hs,by simpa using I.len⟩ ⟨_,hs,.inl rfl⟩
  ·exact(hs.2 b (Qh (Vc (Aj e) I.ok.above))).trans (I.base.keep b o e n hb hx)
  ·obtain⟨sl,e1⟩:=I.base.slot b o e n hb hx;exact⟨sl,(hs.2 b (Qh (Vc (Aj e) I.ok.above))).trans e1⟩
  ·obtain⟨o',e1⟩:=I.base.there b o e hx;exact⟨o',(hs.2 b (Qh (Vc (Aj e) I.ok.above))).trans e1⟩
  ·by_cases hj:j=i
   ·subst hj;rw[hi]at e1;cases e1;rw[BV hiσ]at e2;cases e2;exact⟨u,r,.inl ⟨hk,by simp⟩⟩
   ·rw[List.getElem?_set_ne (AN hj)]at e2;obtain⟨u',r',q⟩:=hl j y v' e1 e2 e3;refine⟨u',r',?_⟩;rcases q with⟨k,e⟩|⟨k,c,e,z⟩
    ·refine .inl ⟨k,?_⟩;have:y≠x:=fun e=>hj (t8 hN e1 (e ▸ hi));simp[this,e]
    ·exact .inr ⟨k,c,e,z.sameBut hs (cne y c e)⟩
  ·obtain⟨w',z⟩:=I.cell y c e;exact⟨w',z.sameBut hs (cne y c e)⟩
  ·obtain⟨e,n,ne,nf,d⟩:=I.pin p hp;exact⟨(hs.2 p.1 ne).trans e,n,ne,nf,d⟩
 ·have hfn:X.fn x=true:=by
   rcases hf with z|z
   ·exact z
   ·rw[z]at hk;cases hk
  obtain⟨c,hc⟩:=I.ok.has x (.inl hk);obtain⟨w',z⟩:=I.cell x c hc;refine wpAny_storeName_cell I.ok.kind hk hc z (fun h' hc' hs=>?_);obtain⟨oc,hoc,hocd⟩:=id z;refine h { s with heap:=h' } ⟨I.ok,I.os,I.bare,⟨fun b o e n hb hx=>?_,fun b o e n hb hx=>?_,I.base.free,fun b o e hx=>?_,I.base.tups,I.base.frzs,I.base.tbls⟩,⟨m,hn.sameBut hs (AN (cne x c hc)),fun j y v' e1 e2 e3=>?_⟩,fun y c' e=>?_,I.free,I.freeC,fun p hp=>?_,tracked ⟨oc,hoc,I.freeC x c hc⟩ hs,by simpa using I.len⟩ ⟨c,hs,.inr hc⟩
  ·exact(hs.2 b (Qh (Vc (Aj e) (I.ok.cab x c hfn hc)))).trans (I.base.keep b o e n hb hx)
  ·obtain⟨sl,e1⟩:=I.base.slot b o e n hb hx;exact⟨sl,(hs.2 b (Qh (Vc (Aj e) (I.ok.cab x c hfn hc)))).trans e1⟩
  ·obtain⟨o',e1⟩:=I.base.there b o e hx;exact⟨o',(hs.2 b (Qh (Vc (Aj e) (I.ok.cab x c hfn hc)))).trans e1⟩
  ·by_cases hj:j=i
   ·subst hj;rw[hi]at e1;cases e1;rw[BV hiσ]at e2;cases e2;exact⟨u,r,.inr ⟨.inl hk,c,hc,hc'⟩⟩
   ·rw[List.getElem?_set_ne (AN hj)]at e2;obtain⟨u',r',q⟩:=hl j y v' e1 e2 e3;refine⟨u',r',?_⟩;rcases q with q|⟨k,c',e,z'⟩
    ·exact .inl q
    ·refine .inr ⟨k,c',e,z'.sameBut hs ?_⟩;rintro rfl;exact hj (t8 hN e1 (I.ok.inj _ _ _ e hc ▸ hi))
  ·by_cases hcc:c'=c
   ·subst hcc;exact⟨_,hc'⟩
   ·obtain⟨w2,z2⟩:=I.cell y c' e;exact⟨w2,z2.sameBut hs hcc⟩
  ·obtain⟨e,n,ne,nf,d⟩:=I.pin p hp;refine⟨(hs.2 p.1 ?_).trans e,n,ne,nf,d⟩;intro q;rw[q,hoc]at e;have q':oc=p.2:=Option.some.inj e;exact d w' (by rw[← q'];exact hocd)
def Ec(I:Inv X pins σ H s)(hN:X.N.Nodup)(hi:X.N[i]?=some x)(hx:Loc X.env.scope x)(r:RelV v u)
  (h:∀s',Inv X pins (σ.set i (some v)) H s'->Q () s')(hf:X.fn x=true∨X.env.scope.names.lookup x=some .local:=by first|exact .inl rfl|exact .inr rfl|assumption):wpAny M A (storeName X.env x u) Q E s :=
 qL I hN hi hx r (fun s' I' _=>h s' I') hf
def Inv.call'{s':Shared}(I:Inv X pins σ H s)(ho:s'.os=s.os)(u:Un (frs X.stack) ch H H' s.heap s'.heap)(hok:HOk X.prog X.w H' s'.heap)(hg:AllBare s'.gens)
  (hch:∀b∈ch,(b∈X.ex∨X.s₀.heap.objs.size<=b)/\b≠X.env.locals/\(∀x c,X.env.cells.lookup x=some c->c≠b)/\∀p∈X.pn++pins,p.1≠b):Inv X pins σ H' s':=by
 obtain⟨h',g',d',t',o'⟩:=s';have e:o'=s.os:=ho;subst e;exact I.call (g':=g') (t':=t') (d':=d') u hok hg hch
end
abbrev XK:=Value->Option Addr->Hp->Prop
abbrev St:=List (Option V)
abbrev VK:=V->Hp->Prop
abbrev TE:=St->Hp->VK->Prop
abbrev TT:=St->Hp->(Bool->Hp->Prop)->Prop
abbrev TA:=St->Hp->(List V->Hp->Prop)->Prop
structure Ends where
 nx:St->Hp->Prop
 rt:VK
 bk:St->Hp->Prop:=fun _ _=>False
 ct:St->Hp->Prop:=fun _ _=>False
abbrev TS:=Ends->St->Hp->Prop
inductive EP(X:Cx)(pins:List (Addr×Obj))(σ:St)(Q:VK)(u:Value)(s':Shared):Prop
 | mk (v:V) (H':Hp) (I:Inv X pins σ H' s') (r:RelV v u) (q:Q v H')
def TP(X:Cx)(pins:List (Addr×Obj))(σ:St)(Q:Bool->Hp->Prop)(b:Bool)(s':Shared):Prop:=∃H',Inv X pins σ H' s'/\Q b H'
inductive AP(X:Cx)(pins:List (Addr×Obj))(σ:St)(Q:List V->Hp->Prop)(us:List Value)(s':Shared):Prop
 | mk (vs:List V) (H':Hp) (I:Inv X pins σ H' s') (r:Vals vs us) (q:Q vs H')
def SP(X:Cx)(pins:List (Addr×Obj))(D:Ends)(f:Flow)(s':Shared):Prop :=
 match f with
 | .next=>∃σ' H',Inv X pins σ' H' s'/\D.nx σ' H'
 | .brk=>∃σ' H',Inv X pins σ' H' s'/\D.bk σ' H'
 | .cont=>∃σ' H',Inv X pins σ' H' s'/\D.ct σ' H'
 | .ret u=>∃v σ' H',Inv X pins σ' H' s'/\RelV v u/\D.rt v H'
def PE(X:Cx)(e:Expr)(t:TE):Prop :=
 ∀(pins:List (Addr×Obj))(s:Shared)(σ:St)(H:Hp)(Q:VK),Inv X pins σ H s->t σ H Q->wpAny (model X.prog X.w) X.A (eval e X.env) (EP X pins σ Q) X.xe s
def PT(X:Cx)(e:Expr)(t:TT):Prop :=
 ∀(pins:List (Addr×Obj))(s:Shared)(σ:St)(H:Hp)(Q:Bool->Hp->Prop),Inv X pins σ H s->t σ H Q->wpAny (model X.prog X.w) X.A (isTrue e X.env (eval e X.env)) (TP X pins σ Q) X.xe s
def PW(X:Cx)(e:Expr)(t:TT):Prop :=
 ∀(whole:Sem Value)(pins:List (Addr×Obj))(s:Shared)(σ:St)(H:Hp)(Q:Bool->Hp->Prop),Inv X pins σ H s->t σ H Q->wpAny (model X.prog X.w) X.A (isTrue e X.env whole) (TP X pins σ Q) X.xe s
def PW.pt(h:PW X e t):PT X e t:=h _
def PA(X:Cx)(es:List Expr)(t:TA):Prop :=
 ∀(pos:Pos)(pins:List (Addr×Obj))(s:Shared)(σ:St)(H:Hp)(Q:List V->Hp->Prop),Inv X pins σ H s->t σ H Q->wpAny (model X.prog X.w) X.A (spliced (backTo pos (starEach es X.env))) (AP X pins σ Q) X.xe s
def PS(X:Cx)(st:Stmt)(t:TS):Prop :=
 ∀(pins:List (Addr×Obj))(s:Shared)(σ:St)(H:Hp)(D:Ends),Inv X pins σ H s->t D σ H->wpAny (model X.prog X.w) X.A (exec st X.env) (SP X pins D) X.xe s
def PSs(X:Cx)(st:List Stmt)(t:TS):Prop :=
 ∀(pins:List (Addr×Obj))(s:Shared)(σ:St)(H:Hp)(D:Ends),Inv X pins σ H s->t D σ H->wpAny (model X.prog X.w) X.A (execs st X.env) (SP X pins D) X.xe s
def thn(h:wpAny M A t Q E s)(hQ:∀a s,Q a s->Q' a s):wpAny M A t Q' E s:=AB h hQ fun _ _ x=>x
end L2
namespace L2
open PySem PySem.Spec PyProof.Rows
section
variable {X:Cx}
def vV(i:Nat):TE:=fun σ H Q=>∃v,σ[i]?=some (some v)/\Q v H
def tC(v:V):TE:=fun _ H Q=>Q v H
def KZ(hN:X.N[i]?=some x)(hv:Vis X.env.scope x)(hd:(x == ("__debug__":Str))=false:=by decide)(hcd:(x == ("__classdict__":Str))=false:=by decide):PE X (.Name x pos) (vV i):=by
 intro pins s σ H Q I h;obtain⟨v,e,h⟩:=h;obtain⟨m,hn,hl⟩:=I.loc;obtain⟨u,r,l⟩:=hl i x v hN e hv;have fin:EP X pins σ Q u s:=⟨v,H,I,r,h⟩;rcases l with⟨hk,hm⟩|⟨hk,c,hc,hcell⟩
 ·exact wpAny_Name (wpAny_loadName_local I.ok.kind hk hn hm fin) hd
 ·rcases hk with hk|hk
  ·exact wpAny_Name (wpAny_loadName_cell I.ok.kind hk hc hcell fin) hd
  ·exact wpAny_Name (wpAny_loadName_free I.ok.kind hk hc hcell fin hcd) hd
def ah{i j pos}:PE X (.Constant (.int i) j pos) (tC (.int i)):=fun _ _ _ H _ I h=>Cq ⟨.int i,H,I.tok _,⟨_,rfl⟩,h⟩
def mn{b j pos}:PE X (.Constant (.bool b) j pos) (tC (.bl b)):=fun _ _ _ H _ I h=>Constant_bool ⟨.bl b,H,I,rfl,h⟩
def rV{j pos}:PE X (.Constant .none j pos) (tC .non):=fun _ _ _ H _ I h=>Constant_none ⟨.non,H,I,rfl,h⟩
def cK{x j pos}:PE X (.Constant (.str x) j pos) (tC (.str x)):=fun _ _ _ H _ I h=>Calls.Constant_str ⟨.str x,H,I.tok _,⟨_,rfl⟩,h⟩
def Gl(X:Cx)(x:Str):Prop:=X.env.kindOf x=some .globalImplicit
def rW(I:Inv X pins σ H s)(hg:Gl X x)(hm:X.mg x=some u)(h:Q u s)
  (hd:(x == ("__debug__":Str))=false:=by decide):wpAny (model X.prog X.w) X.A (eval (.Name x pos) X.env) Q E s :=
 Dg I.ok.kind hg (Calls.loadGlobal_global (by rw[I.ok.glob];exact I.mod.glob.keeps I.bk) hm h) hd
def o9(I:Inv X pins σ H s)(hg:Gl X x)(hm:X.mg x=none)(hv:bootBuiltins x=some u)(h:Q u s)
  (hn:x≠"__name__":=by decide)(hd:(x == ("__debug__":Str))=false:=by decide):wpAny (model X.prog X.w) X.A (eval (.Name x pos) X.env) Q E s:=by
 obtain⟨mb,h1,h2⟩:=I.mod.blt;exact Dg I.ok.kind hg (Calls.loadGlobal_builtin (by rw[I.ok.glob];exact I.mod.glob.keeps I.bk) hm (by rw[I.ok.blt];exact h1.keeps I.bk) ((h2 x hn).trans hv) h) hd
def xg(hg:Gl X x)(hm:X.mg x=some u)(r:RelV v u)(hd:(x == ("__debug__":Str))=false:=by decide):PE X (.Name x pos) (tC v) :=
 fun _ _ _ H _ I h=>rW I hg hm ⟨v,H,I,r,h⟩ hd
def HS(hg:Gl X x)(hm:X.mg x=none)(hv:bootBuiltins x=some u)(r:RelV v u)(hn:x≠"__name__":=by decide)(hd:(x == ("__debug__":Str))=false:=by decide):PE X (.Name x pos) (tC v) :=
 fun _ _ _ H _ I h=>o9 I hg hm hv ⟨v,H,I,r,h⟩ hn hd
variable {a b:Expr}{ta tb:TE}{pos:Pos}
def tB(t:TE):TT:=fun σ H Q=>t σ H fun x H1=>∃c,x=.bl c/\Q c H1
def cL{e:Expr}(h:PE X e t)(he:∀whole,isTrue e X.env whole=(do let v ← whole;standAt e.pos;holding [v] (truthy v)):=by intro _;rfl):PT X e (tB t):=by
 intro pins s σ H Q I hw;refine isTrue_plain (thn (h pins s σ H _ I hw) fun v s1 zz9=>?_) (he _);obtain⟨x,H1,I1,r1,q1⟩:=zz9;obtain⟨d,rfl,q⟩:=q1;cases r1;exact Ay ⟨H1,I1,q⟩
variable {tA tB':TT}{rest:List Expr}
def Nv(t u:TT):TT:=fun σ H Q=>t σ H fun c H1=>if c=true then u σ H1 Q else Q false H1
def tOr(t u:TT):TT:=fun σ H Q=>t σ H fun c H1=>if c=true then Q true H1 else u σ H1 Q
def Nw(t:TT):TT:=fun σ H Q=>t σ H fun c H1=>Q (!c) H1
theorem fH(ha:PT X a tA):PW X (.BoolOp .And [a] pos) tA:=by
 intro wh pins s σ H Q I h;refine isTrue_and (thn (ha pins s σ H Q I h) fun c s1 e=>?_);cases c with
 | true=>exact isTrue_and_nil e
 | false=>exact e
theorem jE(ha:PT X a tA):PW X (.BoolOp .Or [a] pos) tA:=by
 intro wh pins s σ H Q I h;refine isTrue_or (thn (ha pins s σ H Q I h) fun c s1 e=>?_);cases c with
 | false=>exact isTrue_or_nil e
 | true=>exact e
theorem gy(ha:PT X a tA)(hb:PW X (.BoolOp .And (b::rest) pos) tB'):PW X (.BoolOp .And (a::b::rest) pos) (Nv tA tB'):=by
 intro wh pins s σ H Q I h;refine isTrue_and (thn (ha pins s σ H _ I h) fun c s1 zz9=>?_);obtain⟨H1,I1,q1⟩:=zz9;cases c with
 | true=>exact hb wh pins s1 σ H1 Q I1 q1
 | false=>exact⟨H1,I1,q1⟩
theorem kT(ha:PT X a tA)(hb:PW X (.BoolOp .Or (b::rest) pos) tB'):PW X (.BoolOp .Or (a::b::rest) pos) (tOr tA tB'):=by
 intro wh pins s σ H Q I h;refine isTrue_or (thn (ha pins s σ H _ I h) fun c s1 zz9=>?_);obtain⟨H1,I1,q1⟩:=zz9;cases c with
 | true=>exact⟨H1,I1,q1⟩
 | false=>exact hb wh pins s1 σ H1 Q I1 q1
def fV(ha:PT X a tA):PT X (.UnaryOp .Not a pos) (Nw tA):=by
 intro pins s σ H Q I h;exact isTrue_not (ha pins s σ H (fun c H1=>Q (!c) H1) I h)
def JO(ta tb:TE):TE:=fun σ H Q=>ta σ H fun x H1=>∃c,x=.bl c/\if c=true then tb σ H1 Q else Q (.bl false) H1
def JP(ta:TE):TE:=fun σ H Q=>ta σ H fun x H1=>∃c,x=.bl c/\Q (.bl (!c)) H1
def ij{op}(h:PE X a t):PE X (.BoolOp op [a] pos) t:=fun pins s σ H Q I hw=>BoolOp_one (h pins s σ H Q I hw)
theorem gz(ha:PE X a ta)(hb:PE X (.BoolOp .And (b::rest) pos) tb):PE X (.BoolOp .And (a::b::rest) pos) (JO ta tb):=by
 intro pins s σ H Q I h;refine BoolOp_and (thn (ha pins s σ H _ I h) fun v s1 zz9=>?_);obtain⟨x,H1,I1,r1,q1⟩:=zz9;obtain⟨c,rfl,q1⟩:=q1;cases r1;refine Ay ?_;cases c with
 | true=>exact hb pins s1 σ H1 Q I1 q1
 | false=>exact⟨.bl false,H1,I1,rfl,q1⟩
def K1(ha:PE X a ta):PE X (.UnaryOp .Not a pos) (JP ta):=by
 intro pins s σ H Q I h;refine UnaryOp_ (thn (ha pins s σ H _ I h) fun v s1 zz9=>?_);obtain⟨x,H1,I1,r1,q1⟩:=zz9;obtain⟨c,rfl,q1⟩:=q1;cases r1;exact not_of (Ay ⟨.bl (!c),H1,I1,rfl,q1⟩)
def tIf(t:TT)(ta tb:TE):TE:=fun σ H Q=>t σ H fun c H1=>if c=true then ta σ H1 Q else tb σ H1 Q
theorem mq(hc:PT X c tA)(ha:PE X a ta)(hb:PE X b tb):PE X (.IfExp c a b pos) (tIf tA ta tb):=by
 intro pins s σ H Q I h;refine wpAny_IfExp (thn (hc pins s σ H _ I h) fun d s1 zz9=>?_);obtain⟨H1,I1,q1⟩:=zz9;cases d with
 | true=>exact ha pins s1 σ H1 Q I1 q1
 | false=>exact hb pins s1 σ H1 Q I1 q1
end
end L2
namespace L2
open PySem PySem.Spec PyProof.Rows
def SqL(K:Ab)(H:Hp)(a:Addr)(xs:List V):Prop :=
 Rd H a (.lst xs) ∨
  ∃(o:Obj)(its:Array Value)(n:Nat),K.lookup a=some o/\o.cls=.type "list"/\o.dict=none/\o.data=.seq its n/\its.size<=sizeLine/\Vals xs its.toList
def SqT(K:Ab)(H:Hp)(a:Addr)(xs:List V):Prop :=
 Rd H a (.tup xs) ∨
  ∃(o:Obj)(its:Array Value)(n:Nat),K.lookup a=some o/\o.cls=.type "tuple"/\o.data=.seq its n/\its.size<=sizeLine/\Vals xs its.toList
def Pf:Value->Option V
 | .none=>some .non
 | .bool b=>some (.bl b)
 | .int i _=>some (.int i)
 | .str x _=>some (.str x)
 | .bytes b _=>some (.byt b)
 | .float b _=>some (.flt b)
 | .ref a=>some (.ref a)
 | .type n=>some (.ty n)
 | _=>none
theorem RelV.abs(r:RelV x u):Pf u=some x:=by
 cases x with
 | non=>cases r;rfl
 | bl _=>cases r;rfl
 | int _=>obtain⟨t,rfl⟩:=r;rfl
 | str _=>obtain⟨t,rfl⟩:=r;rfl
 | byt _=>obtain⟨t,rfl⟩:=r;rfl
 | flt _=>obtain⟨t,rfl⟩:=r;rfl
 | ref _=>cases r;rfl
 | ty _=>cases r;rfl
theorem RelV.inj(r:RelV x u)(q:RelV y u):x=y:=Option.some.inj (r.abs.symm.trans q.abs)
theorem Vals.inj:∀{xs ys:List V}{us:List Value},Vals xs us->Vals ys us->xs=ys
 | _,_,_,.nil,.nil=>rfl
 | _,_,_,.cons r t,.cons r' t'=>by rw[r.inj r',Vals.inj t t']
section
variable {X:Cx}{pins:List (Addr×Obj)}{σ:St}{H:Hp}{s:Shared}{a:Addr}{xs ys:List V}
def Inv.list(I:Inv X pins σ H s)(h:SqL X.K H a xs):∃its:List Value,Vals xs its/\PlainL s.heap a its.toArray/\xs.length<=sizeLine:=by
 rcases h with h|⟨o,its,n,hk,hc,hd,hs,hz,r⟩
 ·obtain⟨z,its,n,r,e⟩:=h.ok I.hok;exact⟨its,r,⟨_,n,e,rfl,rfl,rfl⟩,z⟩
 ·refine⟨its.toList,r,⟨o,n,I.kIn a o hk,hc,hd,by simpa using hs⟩,?_⟩
  have e:=r.length;simp only[Xd]at e;lia
def Inv.tuple(I:Inv X pins σ H s)(h:SqT X.K H a xs):∃its:List Value,Vals xs its/\IsTup s.heap a its.toArray/\xs.length<=sizeLine:=by
 rcases h with h|⟨o,its,n,hk,hc,hs,hz,r⟩
 ·obtain⟨z,its,r,p⟩:=h.ok I.hok;exact⟨its,r,p,z⟩
 ·refine⟨its.toList,r,⟨o,I.kIn a o hk,hc,n,by simpa using hs⟩,?_⟩
  have e:=r.length;simp only[Xd]at e;lia
def Inv.list_inj(I:Inv X pins σ H s)(h:SqL X.K H a xs)(h':SqL X.K H a ys):xs=ys:=by
 obtain⟨its,r,⟨o,n,e,_,_,d⟩,_⟩:=I.list h;obtain⟨its',r',⟨o',n',e',_,_,d'⟩,_⟩:=I.list h';rw[e]at e';cases e';rw[d]at d';injection d' with d1 _;have:its=its':=by simpa using congrArg Array.toList d1
 subst this;exact r.inj r'
def Inv.tuple_inj(I:Inv X pins σ H s)(h:SqT X.K H a xs)(h':SqT X.K H a ys):xs=ys:=by
 obtain⟨its,r,⟨o,e,_,n,d⟩,_⟩:=I.tuple h;obtain⟨its',r',⟨o',e',_,n',d'⟩,_⟩:=I.tuple h';rw[e]at e';cases e';rw[d]at d';injection d' with d1 _;have:its=its':=by simpa using congrArg Array.toList d1
 subst this;exact r.inj r'
end
abbrev Cx.wish(X:Cx)(E:Value->Shared->Prop):Cx:={ X with xe:=E }
abbrev Cx.nox(X:Cx):Cx:=X.wish fun _ _=>False
theorem Cx.Ok.wish{X:Cx}(ok:X.Ok)(E:Value->Shared->Prop):(X.wish E).Ok :=
 ⟨ok.mod,ok.kind,ok.glob,ok.blt,ok.above,ok.inj,ok.has,ok.cab,ok.hd,ok.frames,ok.stk,ok.exf,ok.bs,ok.bsz,ok.noex,ok.exfs,ok.funs,ok.frf⟩
def Cx.Ok.unwish{X:Cx}(ok:(X.wish E).Ok):X.Ok :=
 ⟨ok.mod,ok.kind,ok.glob,ok.blt,ok.above,ok.inj,ok.has,ok.cab,ok.hd,ok.frames,ok.stk,ok.exf,ok.bs,ok.bsz,ok.noex,ok.exfs,ok.funs,ok.frf⟩
section
variable {X:Cx}{pins:List (Addr×Obj)}{σ:St}{H:Hp}{s:Shared}{E:Value->Shared->Prop}
theorem Inv.wish(I:Inv X pins σ H s)(E:Value->Shared->Prop):Inv (X.wish E) pins σ H s:=⟨I.ok.wish E,I.os,I.bare,I.base,I.loc,I.cell,I.free,I.freeC,I.pin,I.hok,I.len⟩
theorem Inv.unwish(I:Inv (X.wish E) pins σ H s):Inv X pins σ H s:=⟨I.ok.unwish,I.os,I.bare,I.base,I.loc,I.cell,I.free,I.freeC,I.pin,I.hok,I.len⟩
theorem SP.unwish(h:SP (X.wish E) pins D f s'):SP X pins D f s':=by
 cases f with
 | next=>obtain⟨σ',H',I,q⟩:=h;exact⟨σ',H',I.unwish,q⟩
 | brk=>obtain⟨σ',H',I,q⟩:=h;exact⟨σ',H',I.unwish,q⟩
 | cont=>obtain⟨σ',H',I,q⟩:=h;exact⟨σ',H',I.unwish,q⟩
 | ret u=>obtain⟨v,σ',H',I,r,q⟩:=h;exact⟨v,σ',H',I.unwish,r,q⟩
theorem PSs.nox{st:List Stmt}{t:TS}(h:PSs X.nox st t):PSs X st t:=fun pins s σ H D I hw =>
 AB (h pins s σ H D (I.wish _) hw) (fun _ _ q=>q.unwish) fun _ _ z=>False.elim z
end
section
variable {X:Cx}{st:Stmt}{rest:List Stmt}{t u:TS}{e:Expr}{te:TE}{pos:Pos}
def JQ:TS:=fun D σ H=>D.nx σ H
def Nx(t u:TS):TS:=fun D σ H=>t { D with nx:=u D } σ H
def aX:PSs X [] JQ:=fun _ _ σ H _ I h=>B0 ⟨σ,H,I,h⟩
theorem ag(h1:PS X st t)(h2:PSs X rest u):PSs X (st::rest) (Nx t u):=by
 intro pins s σ H D I h;refine wpAny_execs_cons (thn (h1 pins s σ H { D with nx:=u D } I h) fun f s1 q=>?_);cases f with
 | next =>
  obtain⟨σ',H',I',q⟩:=q;exact h2 pins s1 σ' H' D I' q
 | ret v=>exact q
 | brk=>exact q
 | cont=>exact q
theorem aj(h1:PS X st t):PSs X [st] t:=by
 intro pins s σ H D I h;refine wpAny_execs_cons (thn (h1 pins s σ H D I h) fun f s1 q=>?_);cases f with
 | next=>exact B0 q
 | ret v=>exact q
 | brk=>exact q
 | cont=>exact q
def Inv.quiet(I:Inv X pins σ H s):interactive X.env=false:=by simp[interactive,I.ok.kind]
def JR(te:TE):TS:=fun D σ H=>te σ H fun _ H1=>D.nx σ H1
def bK(he:PE X e te)(hs:swapsWith e none pos.line X.env=pure false:=by rfl):PS X (.Expr e pos) (JR te):=by
 intro pins s σ H D I h;exact wpAny_Expr_any (thn (he pins s σ H _ I h) fun v s1 ⟨x,H1,I1,r1,q1⟩=>⟨σ,H1,I1,q1⟩) I.quiet hs
def Ny(te:TE):TS:=fun D σ H=>te σ H D.rt
def aI(he:PE X e te):PS X (.Return (some e) pos) (Ny te):=by
 intro pins s σ H D I h;exact wpAny_Return_some (thn (he pins s σ H _ I h) fun v s1 ⟨x,H1,I1,r1,q1⟩=>⟨x,σ,H1,I1,r1,q1⟩)
def Nz(c:TT)(t u:TS):TS:=fun D σ H=>c σ H fun b H1=>if b=true then t D σ H1 else u D σ H1
theorem bO(hc:PT X c tc)(ha:PSs X a t)(hb:PSs X b u):PS X (.If c a b pos) (Nz tc t u):=by
 intro pins s σ H D I h;refine wpAny_If (thn (hc pins s σ H _ I h) fun d s1 zz9=>?_);obtain⟨H1,I1,q1⟩:=zz9;cases d with
 | true=>exact ha pins s1 σ H1 D I1 q1
 | false=>exact hb pins s1 σ H1 D I1 q1
def Ed:TS:=fun _ _ _=>False
def t9:PS X st Ed:=fun _ _ _ _ _ _ h=>h.elim
end
abbrev TG:=V->St->Hp->(St->Hp->Prop)->Prop
abbrev TGs:=List V->St->Hp->(St->Hp->Prop)->Prop
def PG(X:Cx)(target:Expr)(t:TG):Prop :=
 ∀(pins:List (Addr×Obj))(s:Shared)(σ:St)(H:Hp)(v:V)(u:Value)(Q:St->Hp->Prop),Inv X pins σ H s->RelV v u->t v σ H Q ->
  wpAny (model X.prog X.w) X.A (assign target X.env u) (fun _ s'=>∃σ' H',Inv X pins σ' H' s'/\Q σ' H') X.xe s
def PGs(X:Cx)(ts:List Expr)(t:TGs):Prop :=
 ∀(pins:List (Addr×Obj))(s:Shared)(σ:St)(H:Hp)(vs:List V)(us:List Value)(Q:St->Hp->Prop),Inv X pins σ H s->Vals vs us->t vs σ H Q ->
  wpAny (model X.prog X.w) X.A (assignInOrder ((assignEach ts X.env).map (·.2)) us) (fun _ s'=>∃σ' H',Inv X pins σ' H' s'/\Q σ' H') X.xe s
abbrev HU:=V->V->V->Hp->(Hp->Prop)->Prop
def K2(X:Cx)(t:HU):Prop :=
 ∀(pins:List (Addr×Obj))(s:Shared)(σ:St)(H:Hp)(o i v:V)(ov iv u:Value)(Q:Hp->Prop),Inv X pins σ H s->RelV o ov->RelV i iv->RelV v u->t o i v H Q ->
  wpAny (model X.prog X.w) X.A (setItem ov iv u) (fun _ s'=>∃H',Inv X pins σ H' s'/\Q H') X.xe s
section
variable {X:Cx}{pos:Pos}
def pe(i:Nat):TG:=fun v σ H Q=>Q (σ.set i (some v)) H
def xh(hN:X.N.Nodup)(hi:X.N[i]?=some x)(hx:Loc X.env.scope x)(hf:X.fn x=true∨X.env.scope.names.lookup x=some .local:=by first|exact .inl rfl|exact .inr rfl|assumption):PG X (.Name x pos) (pe i):=by
 intro pins s σ H v u Q I r h;exact wpAny_assign_Name (Ec I hN hi hx r (fun s' I'=>⟨_,H,I',h⟩) hf)
def NA:TGs:=fun vs σ H Q=>vs=[]/\Q σ H
def JT(t:TG)(u:TGs):TGs:=fun vs σ H Q=>∃v r,vs=v::r/\t v σ H fun σ' H'=>u r σ' H' Q
def iU:PGs X [] NA:=by
 intro pins s σ H vs us Q I r h;obtain⟨e,h⟩:=h;subst e;cases r;exact assignInOrder_nil ⟨σ,H,I,h⟩
def cM(h1:PG X e t)(h2:PGs X es u)
  (hs:(assignEach (e::es) X.env).map (·.2)=assign e X.env::(assignEach es X.env).map (·.2):=by rfl):PGs X (e::es) (JT t u):=by
 intro pins s σ H vs us Q I r h;obtain⟨v,vr,e1,h⟩:=h;subst e1;cases r with
 | cons r rr =>
  rw[hs];refine assignInOrder_cons (thn (h1 pins s σ H _ _ _ I r h) fun _ s1 zz9=>?_);obtain⟨σ1,H1,I1,q1⟩:=zz9;exact h2 pins s1 σ1 H1 _ _ Q I1 rr q1
def K3(K:Ab)(n:Nat)(t:TGs):TG:=fun v σ H Q=>∃a xs,v=.ref a/\SqT K H a xs/\xs.length=n/\t xs σ H Q
def K4(hc:X.calm=true)(h:PGs X es t)
  (hn:(assignEach es X.env).length=n:=by rfl)(hst:(assignEach es X.env).findIdx? (·.1)=none:=by rfl):PG X (.Tuple es k pos) (K3 X.K n t):=by
 intro pins s σ H v u Q I r hw;obtain⟨a,xs,e1,hq,hl,hw⟩:=hw;subst e1;cases r;obtain⟨its,rv,ht,hz⟩:=I.tuple hq;refine assign_Tuple_tuple (I.ok.hd hc) ht (by simp[hn,← hl,rv.length]) hst fun h' hx=>?_
 have I1:Inv X pins σ H { s with heap:=h' }:=I.kept (t':=s.toks) fun b o e=>hx b o (Qh (Aj e)) e;exact h pins _ σ H xs _ Q I1 (by simpa using rv) hw
def NB(to ti:TE)(t:HU):TG:=fun v σ H Q=>to σ H fun o H1=>ti σ H1 fun i H2=>t o i v H2 fun H3=>Q σ H3
def jF(ho:PE X o to)(hi:PE X i ti)(hs:K2 X t)
  (ha:∀v,assign (.Subscript o i pos) X.env v=(do
   let ov ← holding [v] (eval o X.env)
   let iv ← holding [v,ov] (eval i X.env)
   standAt pos
   holding [v,ov,iv] (setItem ov iv v)
   release [v,ov,iv] []):=by intro _;rfl):PG X (.Subscript o i pos) (NB to ti t):=by
 intro pins s σ H v u Q I r h;rw[ha];refine Aa (AC (thn (ho pins s σ H _ I h) fun ov s1 zz9=>?_));obtain⟨x,H1,I1,r1,q1⟩:=zz9;refine Aa (AC (thn (hi pins s1 σ H1 _ I1 q1) fun iv s2 zz9=>?_));obtain⟨y,H2,I2,r2,q2⟩:=zz9;refine Aa (wpAny_standAt (Aa (AC (thn (hs pins s2 σ H2 x y v ov iv u _ I2 r1 r2 r q2) fun _ s3 zz9=>?_))));obtain⟨H3,I3,q3⟩:=zz9;exact wpAny_release ⟨σ,H3,I3,q3⟩
def vW(te:TE)(g:TG):TS:=fun D σ H=>te σ H fun x H1=>g x σ H1 D.nx
def ik(he:PE X e te)(hg:PG X tg g)(hs:swapsWithSole [tg] e pos.line X.env=pure false:=by rfl)(hw:swappedStores [tg] e X.env=pure none:=by rfl)
  (h1:(assignEach [tg] X.env).map (·.2)=[assign tg X.env]:=by rfl):PS X (.Assign [tg] e pos) (vW te g):=by
 intro pins s σ H D I h;refine wpAny_Assign_stores (thn (he pins s σ H _ I h) fun v s1 zz9=>?_) hs hw;obtain⟨x,H1,I1,r1,q1⟩:=zz9;rw[h1];exact thn (hg pins s1 σ H1 x v _ I1 r1 q1) fun _ s2 q=>q
end
section
variable {X:Cx}{pos:Pos}
def Ee(c:TT)(tb:TS):TS:=fun D σ H=>∃W:Nat->St->Hp->Prop,(∃m,W m σ H)/\∀m σ H,W m σ H ->
 c σ H fun b H1=>if b=true then ∃N:St->Hp->Prop,(∀σ' H',N σ' H'->∃m',m'<m/\W m' σ' H')/\tb { D with nx:=N,ct:=N,bk:=D.nx } σ H1 else D.nx σ H1
theorem ua(hp:PassesOwn (model X.prog X.w) X.A X.env X.xe)(hc:PT X c tc)(hb:PSs X body tb):PS X (.While c body [] pos) (Ee tc tb):=by
 intro pins s σ H D I h;obtain⟨W,⟨m0,w0⟩,turn⟩:=h;refine wpAny_While (codeAny_whileLoop (fun n s'=>∃σ' H',Inv X pins σ' H' s'/\W n σ' H') ?_ m0 ⟨σ,H,I,w0⟩);rintro n s1 ⟨σ1,H1,I1,w1⟩;refine AL hp (thn (hc pins s1 σ1 H1 _ I1 (turn n σ1 H1 w1)) fun b s2 zz9=>?_);obtain⟨H2,I2,q2⟩:=zz9;cases b with
 | true =>
  obtain⟨N,hN,q2⟩:=q2;rw[Ag rfl];refine AL hp (thn (hb pins s2 σ1 H2 _ I2 q2) fun f s3 q3=>?_);cases f with
  | next =>
   obtain⟨σ3,H3,I3,n3⟩:=q3;obtain⟨m',hm,w3⟩:=hN σ3 H3 n3;exact⟨m',hm,σ3,H3,I3,w3⟩
  | cont =>
   obtain⟨σ3,H3,I3,n3⟩:=q3;obtain⟨m',hm,w3⟩:=hN σ3 H3 n3;exact⟨m',hm,σ3,H3,I3,w3⟩
  | brk=>exact q3
  | ret v=>exact q3
 | false =>
  rw[Ak Qd];exact B0 ⟨σ1,H2,I2,q2⟩
end
structure It where
 go:Nat->Hp->Prop
 yld:Nat->Hp->V->Hp->Prop
 stop:Nat->Hp->Prop
def ol(X:Cx)(pins:List (Addr×Obj))(H:Hp)(b:Addr):Prop :=
 H b=none/\b≠X.env.locals/\b∉X.fs/\(b∈X.ex∨X.s₀.heap.objs.size<=b)/\(∀x c,X.env.cells.lookup x=some c->c≠b)/\∀p∈X.pn++pins,p.1≠b
def Inv.fpOk{s:Shared}(I:Inv X pins σ H s)(hb:s.heap.objs.size<=b)(hn:H' b=none):ol X pins H' b:=by
 refine⟨hn,Vj (Vc I.lt hb),I.nofs hb,.inr (Yd I.sz hb),fun x c e z=>?_,fun p hp z=>?_⟩
 ·obtain⟨v,q⟩:=I.cell x c e;exact absurd (Vc q.lt (by rw[z];exact hb)) (Xj _)
 ·exact absurd (Vc (Aj (I.pin p hp).1) (by rw[z];exact hb)) (Xj _)
structure Turn(P:Program)(w:World)(K:Ab)(tg:Expr)(J:It)(fp:List Addr)(it:Addr)(tn:Nat->Heap->Prop):Prop where
 mem:it∈fp
 obj:∀i h,tn i h->∀b∈fp,∃o,h.get? b=some o/\∀v,o.data≠.cell v
 keep:∀i h h',tn i h->(∀b∈fp,∀o,h.get? b=some o->h'.get? b=some o)->tn i h'
 item:∀(X:Cx),X.prog=P->X.w=w->X.K=K->X.calm=true->∀(i:Nat)(pins:List (Addr×Obj))(s:Shared)(σ:St)(H:Hp)(E:Value->Shared->Prop),Inv X pins σ H s->(∀b∈fp,ol X pins H b)->tn i s.heap->J.go i H ->
  wpAny (model P w) X.A (pyNext (.ref it)) (fun r s1=>∃u,r=some u /\
   wpAny (model P w) X.A (letOwnedTupleGo tg (.ref it) u) (fun _ s2=>∃x H',Inv X pins σ H' s2/\RelV x u/\J.yld i H x H'/\tn (i+1) s2.heap/\∀b∈fp,H' b=none) E s1) E s
 done:∀(X:Cx),X.prog=P->X.w=w->X.K=K->X.calm=true->∀(i:Nat)(pins:List (Addr×Obj))(s:Shared)(σ:St)(H:Hp)(E:Value->Shared->Prop),Inv X pins σ H s->(∀b∈fp,ol X pins H b)->tn i s.heap->J.stop i H ->
  wpAny (model P w) X.A (pyNext (.ref it)) (fun r s1=>r=none/\Inv X pins σ H s1) E s
 self:∀(A:Around)(i:Nat)(s:Shared)(Q:Value->Shared->Prop)(E:Value->Shared->Prop),tn i s.heap->Q (.ref it) s->wpAny (model P w) A (pyIter (.ref it)) Q E s
abbrev TI:=St->Hp->(It->Hp->Prop)->Prop
inductive PIE(X:Cx)(pins:List (Addr×Obj))(σ:St)(tg:Expr)(R:It->Hp->Prop)(itv:Value)(s2:Shared):Prop
 | mk (it:Addr) (fp:List Addr) (tn:Nat->Heap->Prop) (J:It) (H':Hp) (e:itv=.ref it) (I:Inv X pins σ H' s2) (T:Turn X.prog X.w X.K tg J fp it tn) (t0:tn 0 s2.heap) (fo:∀b∈fp,ol X pins H' b) (r:R J H')
def PI(X:Cx)(tg iter:Expr)(wi:TI):Prop :=
 ∀(pins:List (Addr×Obj))(s:Shared)(σ:St)(H:Hp)(R:It->Hp->Prop),Inv X pins σ H s->wi σ H R ->
  wpAny (model X.prog X.w) X.A (eval iter X.env) (fun v s1=>wpAny (model X.prog X.w) X.A (pyIter v) (PIE X pins σ tg R) X.xe s1) X.xe s
def ub{s : Shared}{o : Obj}(ho : s.heap.get? it = some o)(hc : o.cls = .type n)(hd : o.data = .fields vs)
    (hn : ["enumerate", "zip", "dict_itemiterator", "dict_reverseitemiterator", "odict_iterator", "itertools.zip_longest", "itertools.pairwise"].contains n = false)(hQ : Q () s) : wpAny M A (letOwnedTupleGo tg (.ref it) u) Q E s := by
  unfold letOwnedTupleGo;cases tg <;> first
    | exact Ad hQ
    | (cases u <;> first
        | exact Ad hQ
        | (refine Aa (wpAny_load ho ?_)
           rw [hc, hd];show wpAny M A (if (["enumerate", "zip", "dict_itemiterator", "dict_reverseitemiterator", "odict_iterator", "itertools.zip_longest", "itertools.pairwise"].contains n && vs[0]? == some (rawInt _)) = true then _ else _) Q E s;rw [Ak (by intro h; rw [hn, Dh] at h; cases h)]
           exact Ad hQ))
def Itl(K:Ab)(a:Addr):It :=
 ⟨fun i H=>∃xs x,SqL K H a xs/\xs[i]?=some x,fun i H x H'=>H'=H/\∀xs,SqL K H a xs->xs[i]?=some x,fun i H=>∃xs,SqL K H a xs/\xs.length<=i⟩
def Itt(K:Ab)(a:Addr):It :=
 ⟨fun i H=>∃xs x,SqT K H a xs/\xs[i]?=some x,fun i H x H'=>H'=H/\∀xs,SqT K H a xs->xs[i]?=some x,fun i H=>∃xs,SqT K H a xs/\xs.length<=i⟩
def Itr(lo:Int)(n:Nat):It:=⟨fun i _=>i<n,fun i H x H'=>H'=H/\x=.int (lo+i),fun i _=>n<=i⟩
def zf{P:Program}{w:World}{K:Ab}{tg:Expr}(a it:Addr):Turn P w K tg (Itl K a) [it] it (fun i h=>h.IsListIter it a i) where
 mem:=by simp
 obj:=fun i h st b hb=>by
  have e:b=it:=by simpa using hb
  subst e;obtain⟨o,e,c,d⟩:=st;exact⟨o,e,fun v z=>by rw[d]at z;cases z⟩
 keep:=fun i h h' st k=>st.at fun o e=>k it (by simp) o e
 item:=by
  intro X hP hw hK hc i pins s σ H E I hf st hg;subst hP hw hK;obtain⟨xs,x,hq,hx⟩:=hg;obtain⟨its,rv,p,hz⟩:=I.list hq;obtain⟨u,hu,ru⟩:=rv.get hx;obtain⟨f0,f1,f2,f3,f4,f5⟩:=hf it (by simp)
  refine wpAny_pyNext_list_item st p.isList (x:=u) (by simpa using hu) fun h' st' sb=>?_
  have I1:Inv X pins σ H { s with heap:=h' }:=I.turned (t':=s.toks) (fun b o hb e=>(sb.2 b hb).trans e) f0 f1 f3 f4 f5;obtain⟨o,e,c,d⟩:=id st';exact⟨u,rfl,ub (s:={ s with heap:=h' }) e c d (by decide) ⟨x,H,I1,ru,⟨rfl,fun ys hy=>by rw[I.list_inj hy hq];exact hx⟩,st',fun b hb=>(hf b hb).1⟩⟩
 done:=by
  intro X hP hw hK hc i pins s σ H E I hf st hg;subst hP hw hK;obtain⟨xs,hq,hx⟩:=hg;obtain⟨its,rv,p,hz⟩:=I.list hq;obtain⟨f0,f1,f2,f3,f4,f5⟩:=hf it (by simp)
  have hl:=rv.length;exact wpAny_pyNext_list_end (I.ok.hd hc) st p.isList (by simp;lia) fun h' eb=>⟨rfl,I.turned (t':=s.toks) (fun b o hb e=>eb b o hb e) f0 f1 f3 f4 f5⟩
 self:=fun _ _ _ _ _ st h=>wpAny_pyIter_listiter st h
def vX{P:Program}{w:World}{K:Ab}{tg:Expr}(a it:Addr):Turn P w K tg (Itt K a) [it] it (fun i h=>h.IsTupleIter it a i) where
 mem:=by simp
 obj:=fun i h st b hb=>by
  have e:b=it:=by simpa using hb
  subst e;obtain⟨o,e,c,d⟩:=st;exact⟨o,e,fun v z=>by rw[d]at z;cases z⟩
 keep:=fun i h h' st k=>st.at fun o e=>k it (by simp) o e
 item:=by
  intro X hP hw hK hc i pins s σ H E I hf st hg;subst hP hw hK;obtain⟨xs,x,hq,hx⟩:=hg;obtain⟨its,rv,p,hz⟩:=I.tuple hq;obtain⟨u,hu,ru⟩:=rv.get hx;obtain⟨f0,f1,f2,f3,f4,f5⟩:=hf it (by simp)
  refine wpAny_pyNext_tuple_item st (show s.heap.IsTuple a its.toArray from p) (x:=u) (by simpa using hu) fun h' st' sb=>?_
  have I1:Inv X pins σ H { s with heap:=h' }:=I.turned (t':=s.toks) (fun b o hb e=>(sb.2 b hb).trans e) f0 f1 f3 f4 f5;obtain⟨o,e,c,d⟩:=id st';exact⟨u,rfl,ub (s:={ s with heap:=h' }) e c d (by decide) ⟨x,H,I1,ru,⟨rfl,fun ys hy=>by rw[I.tuple_inj hy hq];exact hx⟩,st',fun b hb=>(hf b hb).1⟩⟩
 done:=by
  intro X hP hw hK hc i pins s σ H E I hf st hg;subst hP hw hK;obtain⟨xs,hq,hx⟩:=hg;obtain⟨its,rv,p,hz⟩:=I.tuple hq;obtain⟨f0,f1,f2,f3,f4,f5⟩:=hf it (by simp)
  have hl:=rv.length;exact wpAny_pyNext_tuple_end (I.ok.hd hc) st (show s.heap.IsTuple a its.toArray from p) (by simp;lia) fun h' eb=>⟨rfl,I.turned (t':=s.toks) (fun b o hb e=>eb b o hb e) f0 f1 f3 f4 f5⟩
 self:=fun _ _ _ _ _ st h=>wpAny_pyIter_tupleiter st h
def vY{P:Program}{w:World}{K:Ab}{tg:Expr}(it:Addr)(lo:Int)(n:Nat):Turn P w K tg (Itr lo n) [it] it (fun i h=>IsRangeIter h it (lo+(i:Nat)*1) ((n:Int)-(i:Nat)) 1) where
 mem:=by simp
 obj:=fun i h st b hb=>by
  have e:b=it:=by simpa using hb
  subst e
  exact⟨_,st,fun v z=>by
   have z':Data.fields _=Data.cell v:=z
   cases z'⟩
 keep:=fun i h h' st k=>k it (by simp) _ st
 item:=by
  intro X hP hw hK hc i pins s σ H E I hf st hg;subst hP hw hK;obtain⟨f0,f1,f2,f3,f4,f5⟩:=hf it (by simp)
  have W:=Walks.range (prog:=X.prog) (w:=X.w) (I.ok.hd hc) it lo 1 n;refine W.item i s _ _ hg st fun v h' tk hv st' kk=>?_;obtain⟨t,rfl⟩:=hv;have I1:Inv X pins σ H { s with heap:=h',toks:=tk }:=I.turned (fun b o hb e=>kk b o (by simpa using hb) e) f0 f1 f3 f4 f5
  refine⟨_,rfl,ub (s:={ s with heap:=h',toks:=tk }) (n:="range_iterator") st' rfl rfl (by decide) ⟨.int (lo+i),H,I1,⟨t,?_⟩,⟨rfl,rfl⟩,st',fun b hb=>(hf b hb).1⟩⟩
  rw[Int.mul_one]
 done:=by
  intro X hP hw hK hc i pins s σ H E I hf st hg;subst hP hw hK;obtain⟨f0,f1,f2,f3,f4,f5⟩:=hf it (by simp)
  exact wpAny_pyNext_range_end (I.ok.hd hc) st (by have:n<=i:=hg;lia) fun h' eb=>⟨rfl,I.turned (t':=s.toks) (fun b o hb e=>eb b o hb e) f0 f1 f3 f4 f5⟩
 self:=fun _ _ _ _ _ st h=>wpAny_pyIter_rangeiter st h
end L2
namespace L2
open PySem PySem.Spec PyProof.Rows
section
variable {X:Cx}{tg:Expr}
def xi(K:Ab)(tl:TE):TI:=fun σ H R=>tl σ H fun x H1=>∃a,x=.ref a/\(∃xs,SqL K H1 a xs)/\R (Itl K a) H1
def K5(K:Ab)(tl:TE):TI:=fun σ H R=>tl σ H fun x H1=>∃a,x=.ref a/\(∃xs,SqT K H1 a xs)/\R (Itt K a) H1
def HV{l:Expr}{tl:TE}(hl:PE X l tl):PI X tg l (xi X.K tl):=by
 intro pins s σ H R I h;refine thn (hl pins s σ H _ I h) fun v s1 zz9=>?_;obtain⟨x,H1,I1,r1,q1⟩:=zz9;obtain⟨a,e,⟨xs,hq⟩,q⟩:=q1;subst e;cases r1;obtain⟨its,rv,p,hz⟩:=I1.list hq;refine CK p.isList ?_;refine⟨s1.heap.objs.size,[s1.heap.objs.size],_,_,H1,rfl,I1.kept (t':=s1.toks) fun b o e=>Ac _ e,zf a _,⟨_,Ai _ rfl,rfl,rfl⟩,fun b hb=>?_,q⟩;have e:b=s1.heap.objs.size:=by simpa using hb
 subst e;exact I1.fpOk (Va _) (I1.hok.fresh (Va _))
def K6{l:Expr}{tl:TE}(hl:PE X l tl):PI X tg l (K5 X.K tl):=by
 intro pins s σ H R I h;refine thn (hl pins s σ H _ I h) fun v s1 zz9=>?_;obtain⟨x,H1,I1,r1,q1⟩:=zz9;obtain⟨a,e,⟨xs,hq⟩,q⟩:=q1;subst e;cases r1;obtain⟨its,rv,p,hz⟩:=I1.tuple hq;refine wpAny_pyIter_tuple (show s1.heap.IsTuple a its.toArray from p) ?_;refine⟨s1.heap.objs.size,[s1.heap.objs.size],_,_,H1,rfl,I1.kept (t':=s1.toks) fun b o e=>Ac _ e,vX a _,⟨_,Ai _ rfl,rfl,rfl⟩,fun b hb=>?_,q⟩;have e:b=s1.heap.objs.size:=by simpa using hb
 subst e;exact I1.fpOk (Va _) (I1.hok.fresh (Va _))
def Ef{s:Shared}{R:It->Hp->Prop}{E:Value->Shared->Prop}{lo hi:Int}{t u v:Tok}{tk:Nat}(I:Inv X pins σ H s)(h1:-(2 ^ 62)<=lo)(h2:lo<2 ^ 62)(h3:-(2 ^ 62)<=hi)(h4:hi<2 ^ 62)
  (q:R (Itr lo (hi-lo).toNat) H):wpAny (model X.prog X.w) X.A (pyIter (.ref s.heap.objs.size)) (PIE X pins σ tg R) E { s with heap:=s.heap.push { cls:=.type "range",data:=.fields #[.int lo t,.int hi u,.int 1 v] },toks:=tk }:=by
 refine wpAny_pyIter_range (IsRange.new ..) (small_one h1 h2 h3 h4) ?_;have I1:Inv X pins σ H { s with heap:=s.heap.push { cls:=.type "range",data:=.fields #[.int lo t,.int hi u,.int 1 v] },toks:=tk }:=I.kept fun b o e=>Ac _ e
 refine⟨(s.heap.push { cls:=.type "range",data:=.fields #[.int lo t,.int hi u,.int 1 v] }).objs.size,[(s.heap.push { cls:=.type "range",data:=.fields #[.int lo t,.int hi u,.int 1 v] }).objs.size],_,_,H,rfl,
  I1.kept (t':=tk) fun b o e=>Ac _ e,vY _ lo (hi-lo).toNat,?_,fun b hb=>?_,q⟩
 ·have e1:lo+((0:Nat):Int)*1=lo:=by simp
  have e2:(((hi-lo).toNat:Nat):Int)-((0:Nat):Int)=Builtin.Range.rangeSize lo hi 1:=by rw[rangeSize_one];split<;>lia
  show IsRangeIter _ _ (lo+((0:Nat):Int)*1) ((((hi-lo).toNat:Nat):Int)-((0:Nat):Int)) 1;rw[e1,e2];exact Ai _ rfl
 ·have e:b=(s.heap.push { cls:=.type "range",data:=.fields #[.int lo t,.int hi u,.int 1 v] }).objs.size:=by simpa using hb
  subst e;exact I1.fpOk (Va _) (I1.hok.fresh (Va _))
def JU(ta:TA):TI:=fun σ H R=>ta σ H fun vs H1=>∃j:Int,vs=[.int j]/\-(2 ^ 62)<=j/\j<2 ^ 62/\R (Itr 0 j.toNat) H1
theorem eJ{ta:TA}(hg:Gl X "range")(hm:X.mg "range"=none)(ha:PA X [a] ta)(hs:starEach [a] X.env=[(false,eval a X.env)]:=by rfl):PI X tg (.Call (.Name "range" p) [a] [] pos) (JU ta):=by
 intro pins s σ H R I h;refine Call_ (o9 I hg hm boot_range (Bz (thn (ha pos pins s σ H _ I h) fun us s1 zz9=>?_) hs rfl));obtain⟨vs,H1,I1,r1,q1⟩:=zz9;obtain⟨j,e,q1,q2,q⟩:=q1;subst e;cases r1 with
 | cons r rr =>
  cases rr;obtain⟨t,rfl⟩:=r;exact call_range_1 (Ef I1 (by lia) (by lia) q1 q2 (by simpa using q))
def NC(wi:TI)(g:TG)(tb:TS):TS:=fun D σ H=>wi σ H fun J H1=>∃W:Nat->Nat->St->Hp->Prop,(∃m,W 0 m σ H1)/\∀i m σ H,W i m σ H ->
 (J.stop i H/\D.nx σ H)∨(J.go i H/\∃N:St->Hp->Prop,(∀σ' H',N σ' H'->∃m',m'<m/\W (i+1) m' σ' H')/\∀x H',J.yld i H x H'->g x σ H' fun σ2 H2=>tb { D with nx:=N,ct:=N,bk:=D.nx } σ2 H2)
def pf(fp:List Addr)(h:Heap):List (Addr×Obj):=fp.filterMap fun b=>(h.get? b).map fun o=>(b,o)
def iV{h:Heap}(hb:b∈fp)(e:h.get? b=some o):(b,o)∈pf fp h:=List.mem_filterMap.mpr ⟨b,hb,by rw[e];rfl⟩
theorem zg{h:Heap}(hp:p∈pf fp h):p.1∈fp/\h.get? p.1=some p.2:=by
 obtain⟨b,hb,e⟩:=List.mem_filterMap.mp hp;cases q:h.get? b with
 | none=>rw[q]at e;cases e
 | some o =>
  rw[q]at e;have e':(b,o)=p:=Option.some.inj e;subst e';exact⟨hb,q⟩
def Inv.pinned{s:Shared}(I:Inv X pins σ H s)(hf:∀b∈fp,ol X pins H b)(ho:∀b∈fp,∃o,s.heap.get? b=some o/\∀v,o.data≠.cell v):Inv X (pins++pf fp s.heap) σ H s :=
 I.pins_of fun p hp=>(Wd.mp hp).elim (fun z=>I.pin p (Qf _ z)) fun z=>by
  obtain⟨hb,e⟩:=zg z;obtain⟨f0,f1,f2,_⟩:=hf p.1 hb;obtain⟨o,e',d⟩:=ho p.1 hb;rw[e]at e';cases e';exact⟨e,f0,f1,f2,d⟩
def Inv.unpinned(I:Inv X (pins++pl) σ H s):Inv X pins σ H s:=I.pins_of fun p hp=>I.pin p (Qf _ (Cd _ hp))
def dj(hp:PassesOwn (model X.prog X.w) X.A X.env X.xe)(hc:X.calm=true)(hi:PI X tg iter wi)(hg:PG X tg g)(hb:PSs X body tb)
  (hs:∀x,foldedSetIterable iter X.env x=pure x:=by intro _;rfl):PS X (.For tg iter body [] pos) (NC wi g tb):=by
 intro pins s σ H D I h;refine wpAny_For (thn (hi pins s σ H _ I h) fun v s1 h1=>thn h1 fun itv s2 h2=>?_) hs;obtain⟨it,fp,tn,J,H2,e,I2,T,st2,f2,W,⟨m0,w0⟩,turn⟩:=h2;subst e;have stat:∀{H':Hp},(∀b∈fp,H' b=none)->∀b∈fp,ol X pins H' b:=fun hn b hb=>⟨hn b hb,(f2 b hb).2⟩;refine codeAny_forLoop_any (fun n s'=>∃i σ' H',Inv X pins σ' H' s'/\tn i s'.heap/\(∀b∈fp,H' b=none)/\W i n σ' H') ?_ m0 ⟨0,σ,H2,I2,st2,fun b hb=>(f2 b hb).1,w0⟩;rintro n s3 ⟨i,σ3,H3,I3,st3,fr3,w3⟩;rcases turn i n σ3 H3 w3 with⟨stop,qn⟩|⟨go,N,hN,step⟩
 ·refine AL hp (thn (T.done X rfl rfl rfl hc i pins s3 σ3 H3 X.xe I3 (stat fr3) st3 stop) fun r s4 zz9=>?_);obtain⟨hr,I4⟩:=zz9;subst hr;exact B0 ⟨σ3,H3,I4,qn⟩
 ·refine AL hp (thn (T.item X rfl rfl rfl hc i pins s3 σ3 H3 X.xe I3 (stat fr3) st3 go) fun r s4 zz9=>?_);obtain⟨u,hr,h4⟩:=zz9;subst hr;refine AL hp (thn h4 fun _ s5 zz9=>?_);obtain⟨x,H5,I5,r5,y5,st5,fr5⟩:=zz9;have I5':=I5.pinned (stat fr5) (T.obj _ _ st5);refine AL hp (thn (hg _ s5 σ3 H5 x u _ I5' r5 (step x H5 y5)) fun _ s6 zz9=>?_);obtain⟨σ6,H6,I6,q6⟩:=zz9;refine AL hp (thn (hb _ s6 σ6 H6 _ I6 q6) fun f s7 q7=>?_);have again:∀{σ7:St}{H7:Hp},Inv X (pins++pf fp s5.heap) σ7 H7 s7->N σ7 H7->∃m,m<n/\∃i σ' H',Inv X pins σ' H' s7/\tn i s7.heap/\(∀b∈fp,H' b=none)/\W i m σ' H':=fun {σ7 H7} I7 n7=>by
   obtain⟨m',hm,w7⟩:=hN σ7 H7 n7;refine⟨m',hm,i+1,σ7,H7,I7.unpinned,T.keep _ _ _ st5 fun b hb o e=>(I7.pin (b,o) (Qf _ (Qf _ (iV hb e)))).1,fun b hb=>?_,w7⟩;obtain⟨o,e,d⟩:=T.obj _ _ st5 b hb;exact(I7.pin (b,o) (Qf _ (Qf _ (iV hb e)))).2.1
  cases f with
  | next=>obtain⟨σ7,H7,I7,n7⟩:=q7;exact again I7 n7
  | cont=>obtain⟨σ7,H7,I7,n7⟩:=q7;exact again I7 n7
  | brk=>obtain⟨σ7,H7,I7,q7⟩:=q7;exact⟨σ7,H7,I7.unpinned,q7⟩
  | ret v=>obtain⟨x7,σ7,H7,I7,r7,q7⟩:=q7;exact⟨x7,σ7,H7,I7.unpinned,r7,q7⟩
end
end L2
namespace L2
open PySem PySem.Spec PyProof.Rows
abbrev R2:=V->V->Hp->VK->Prop
def OpR(X:Cx)(f:Value->Value->Sem Value)(r:R2):Prop :=
 ∀(pins:List (Addr×Obj))(s:Shared)(σ:St)(H:Hp)(x y:V)(v u:Value)(Q:VK),Inv X pins σ H s->RelV x v->RelV y u->r x y H Q ->
  wpAny (model X.prog X.w) X.A (f v u) (EP X pins σ Q) X.xe s
def UnR(X:Cx)(f:Value->Sem Value)(r:V->Hp->VK->Prop):Prop :=
 ∀(pins:List (Addr×Obj))(s:Shared)(σ:St)(H:Hp)(x:V)(v:Value)(Q:VK),Inv X pins σ H s->RelV x v->r x H Q ->
  wpAny (model X.prog X.w) X.A (f v) (EP X pins σ Q) X.xe s
def CallR(X:Cx)(f:Value)(r:List V->Hp->VK->Prop):Prop :=
 ∀(pins:List (Addr×Obj))(s:Shared)(σ:St)(H:Hp)(xs:List V)(us:List Value)(Q:VK),Inv X pins σ H s->Vals xs us->r xs H Q ->
  wpAny (model X.prog X.w) X.A (call f us) (EP X pins σ Q) X.xe s
def Pg(X:Cx)(r:V->Hp->(Bool->Hp->Prop)->Prop):Prop :=
 ∀(pins:List (Addr×Obj))(s:Shared)(σ:St)(H:Hp)(x:V)(v:Value)(Q:Bool->Hp->Prop),Inv X pins σ H s->RelV x v->r x H Q ->
  wpAny (model X.prog X.w) X.A (truthy v) (TP X pins σ Q) X.xe s
def tOp(r:R2)(ta tb:TE):TE:=fun σ H Q=>ta σ H fun x H1=>tb σ H1 fun y H2=>r x y H2 Q
def tUn(r:V->Hp->VK->Prop)(ta:TE):TE:=fun σ H Q=>ta σ H fun x H1=>r x H1 Q
def rI(C:Int->Int->Prop)(g:Int->Int->V):R2:=fun x y H Q=>∃i j,x=.int i/\y=.int j/\C i j/\Q (g i j) H
def rI0(g:Int->Int->V):R2:=fun x y H Q=>∃i j,x=.int i/\y=.int j/\Q (g i j) H
def rU(g:Int->V):V->Hp->VK->Prop:=fun x H Q=>∃i,x=.int i/\Q (g i) H
section
variable {X:Cx}{a b c:Expr}{ta tb tc:TE}{pos:Pos}
def K7(ha:PE X a ta)(hb:PE X b tb){R:V->V->Hp->Prop}(I:Inv X pins σ H s)
  (h:ta σ H fun x H1=>tb σ H1 fun y H2=>R x y H2){Q:Value->Shared->Prop}{f:Value->Value->Sem Value}
  (hf:∀v u s2 x y H2,Inv X pins σ H2 s2->RelV x v->RelV y u->R x y H2->wpAny (model X.prog X.w) X.A (f v u) Q X.xe s2) :
  wpAny (model X.prog X.w) X.A (eval a X.env) (fun v s₁=>wpAny (model X.prog X.w) X.A (eval b X.env) (fun u s₂=>wpAny (model X.prog X.w) X.A (f v u) Q X.xe s₂) X.xe s₁) X.xe s:=by
 refine thn (ha pins s σ H _ I h) fun v s1 zz9=>?_;obtain⟨x,H1,I1,r1,q1⟩:=zz9;refine thn (hb pins s1 σ H1 _ I1 q1) fun u s2 zz9=>?_;obtain⟨y,H2,I2,r2,q2⟩:=zz9;exact hf v u s2 x y H2 I2 r1 r2 q2
def cI{op:Operator}{r:R2}(ho:OpR X (binaryOp op) r)(ha:PE X a ta)(hb:PE X b tb):PE X (.BinOp a op b pos) (tOp r ta tb):=by
 intro pins s σ H Q I h;exact wpAny_BinOp (K7 ha hb I h fun v u s2 x y H2 I2 rx ry q=>ho pins s2 σ H2 x y v u Q I2 rx ry q)
def Eg(ho:UnR X (unaryOp op) r)(ha:PE X a ta):PE X (.UnaryOp op a pos) (tUn r ta):=by
 intro pins s σ H Q I h;exact UnaryOp_ (thn (ha pins s σ H _ I h) fun v s1 ⟨x,H1,I1,r1,q1⟩=>ho pins s1 σ H1 x v Q I1 r1 q1)
def opI{f:Value->Value->Sem Value}{C:Int->Int->Prop}{g:Int->Int->Int}
  (rule:∀(i j:Int)(t u:Tok)(s:Shared)(Q:Value->Shared->Prop)(E:Value->Shared->Prop),C i j->Q (.int (g i j) s.toks) { s with toks:=s.toks+1 }->wpAny (model X.prog X.w) X.A (f (.int i t) (.int j u)) Q E s) :
  OpR X f (rI C fun i j=>.int (g i j)):=by
 intro pins s σ H x y v u Q I rx ry h;obtain⟨i,j,rfl,rfl,hc,q⟩:=h;obtain⟨t,rfl⟩:=rx;obtain⟨t',rfl⟩:=ry;exact rule i j t t' s _ _ hc ⟨.int (g i j),H,I.tok _,⟨_,rfl⟩,q⟩
def ND{f:Value->Value->Sem Value}{g:Int->Int->Int}
  (rule:∀(i j:Int)(t u:Tok)(s:Shared)(Q:Value->Shared->Prop)(E:Value->Shared->Prop),Q (.int (g i j) s.toks) { s with toks:=s.toks+1 }->wpAny (model X.prog X.w) X.A (f (.int i t) (.int j u)) Q E s) :
  OpR X f (rI0 fun i j=>.int (g i j)):=by
 intro pins s σ H x y v u Q I rx ry h;obtain⟨i,j,rfl,rfl,q⟩:=h;obtain⟨t,rfl⟩:=rx;obtain⟨t',rfl⟩:=ry;exact rule i j t t' s _ _ ⟨.int (g i j),H,I.tok _,⟨_,rfl⟩,q⟩
def HW{f:Value->Value->Sem Value}{g:Int->Int->Bool}
  (rule:∀(i j:Int)(t u:Tok)(s:Shared)(Q:Value->Shared->Prop)(E:Value->Shared->Prop),Q (.bool (g i j)) s->wpAny (model X.prog X.w) X.A (f (.int i t) (.int j u)) Q E s) :
  OpR X f (rI0 fun i j=>.bl (g i j)):=by
 intro pins s σ H x y v u Q I rx ry h;obtain⟨i,j,rfl,rfl,q⟩:=h;obtain⟨t,rfl⟩:=rx;obtain⟨t',rfl⟩:=ry;exact rule i j t t' s _ _ ⟨.bl (g i j),H,I,rfl,q⟩
def vZ(i j:Int):Prop:=0<j/\j<1073741824
def Eh(i j:Int):Prop:=0<=j/\j<=1000000/\i.natAbs<2 ^ 64
def CMul(i j:Int):Prop:=(-(2 ^ 64)<i/\i<2 ^ 64)∨(-(2 ^ 64)<j/\j<2 ^ 64)
def CMul.ok(h:CMul i j):IntMulOk i j:=by
 rcases h with⟨h1,h2⟩|⟨h1,h2⟩
 ·exact .of_left (intBits_le_64 h1 h2)
 ·exact .of_right (intBits_le_64 h1 h2)
def op_add:OpR X (binaryOp .Add) (rI0 fun i j=>.int (i+j)):=ND fun _ _ _ _ _ _ _ q=>add_int q
def rX:OpR X (binaryOp .Sub) (rI0 fun i j=>.int (i-j)):=ND fun _ _ _ _ _ _ _ q=>sub_int q
def op_mul:OpR X (binaryOp .Mult) (rI CMul fun i j=>.int (i*j)):=opI fun _ _ _ _ _ _ _ hc q=>mul_int q hc.ok
def oJ:OpR X (binaryOp .FloorDiv) (rI vZ fun i j=>.int (i / j)):=opI fun i j _ _ _ _ _ hc q=>by
 have h1:(0:Int)<j:=hc.1;have h2:j<1073741824:=hc.2;exact floordiv_int (by lia) (by rw[Int.fdiv_eq_ediv_of_nonneg i (by lia)];exact q) (.inl (PyProof.noPylong_small (by lia)))
def jG:OpR X (binaryOp .Mod) (rI (fun _ j=>0<j) fun i j=>.int (i % j)):=opI fun i j _ _ _ _ _ hc q=>by
 have h1:(0:Int)<j:=hc;exact mod_int' (by lia) (by rw[Int.fmod_eq_emod_of_nonneg i (by lia)];exact q)
def K8:OpR X (binaryOp .Pow) (rI Eh fun i j=>.int (i ^ j.toNat)):=opI fun _ _ _ _ _ _ _ hc q=>pow_int_small hc.1 hc.2.1 hc.2.2 q
def unI{f:Value->Sem Value}{g:Int->Int}
  (rule:∀(i:Int)(t:Tok)(s:Shared)(Q:Value->Shared->Prop)(E:Value->Shared->Prop),Q (.int (g i) s.toks) { s with toks:=s.toks+1 }->wpAny (model X.prog X.w) X.A (f (.int i t)) Q E s) :
  UnR X f (rU fun i=>.int (g i)):=by
 intro pins s σ H x v Q I rx h;obtain⟨i,rfl,q⟩:=h;obtain⟨t,rfl⟩:=rx;exact rule i t s _ _ ⟨.int (g i),H,I.tok _,⟨_,rfl⟩,q⟩
def v0:UnR X (unaryOp .USub) (rU fun i=>.int (-i)):=unI fun _ _ _ _ _ q=>neg_int q
end
def K9:V->V->Bool
 | .non,.non=>true|.non,.int _=>true|.int _,.non=>true|.non,.bl _=>true|.bl _,.non=>true|.non,.str _=>true|.str _,.non=>true
 | .int _,.int _=>true|.bl _,.bl _=>true|.str _,.str _=>true|.byt _,.byt _=>true
 | .int _,.str _=>true|.str _,.int _=>true|.bl _,.str _=>true|.str _,.bl _=>true
 | _,_=>false
def rEq:R2:=fun x y H Q=>K9 x y=true/\Q (.bl (decide (x=y))) H
def rNe:R2:=fun x y H Q=>K9 x y=true/\Q (.bl (!decide (x=y))) H
def xj:decide (V.int i=V.int j)=(i == j):=by
 rw[Wf];simp
def Ei:decide (V.bl i=V.bl j)=(i == j):=by
 rw[Wf];simp
def xk:decide (V.str i=V.str j)=(i == j):=by
 rw[Wf];simp
def xn{i j:Array UInt8}:decide (V.byt i=V.byt j)=(i.toList == j.toList):=by
 rw[Wf];cases i;cases j;simp
section
variable {X:Cx}{a b c:Expr}{ta tb tc:TE}{pos:Pos}
def bL(I:Inv X pins σ H s)(q:Q (.bl k) H)(e:k=k'):EP X pins σ Q (.bool k') s:=by
 subst e;exact⟨.bl k,H,I,rfl,q⟩
theorem dr:OpR X (compareOp .Eq) rEq:=by
 intro pins s σ H x y v u Q I rx ry h;obtain⟨hs,q⟩:=h;cases x with
 | non =>
  cases rx;cases y with
  | non=>cases ry;exact PySem.EqNone.eq_none_none (bL I q (by simp))
  | bl j=>cases ry;exact PySem.EqNone.eq_none_bool (bL I q (by simp))
  | int j=>obtain⟨t',rfl⟩:=ry;exact PySem.EqNone.eq_none_int (bL I q (by simp))
  | str j=>obtain⟨t',rfl⟩:=ry;exact PySem.EqNone.eq_none_str (bL I q (by simp))
  | _=>exact absurd (show false=true from hs) Qd
 | bl i =>
  cases rx;cases y with
  | non=>cases ry;exact PySem.EqNone.eq_bool_none (bL I q (by simp))
  | bl j=>cases ry;exact eq_bool (bL I q Ei)
  | str j=>obtain⟨t',rfl⟩:=ry;exact PySem.EqMixed.eq_bool_str (bL I q (by simp))
  | _=>exact absurd (show false=true from hs) Qd
 | int i =>
  obtain⟨t,rfl⟩:=rx;cases y with
  | non=>cases ry;exact PySem.EqNone.eq_int_none (bL I q (by simp))
  | int j=>obtain⟨t',rfl⟩:=ry;exact eq_int (bL I q xj)
  | str j=>obtain⟨t',rfl⟩:=ry;exact PySem.EqMixed.eq_int_str (bL I q (by simp))
  | _=>exact absurd (show false=true from hs) Qd
 | str i =>
  obtain⟨t,rfl⟩:=rx;cases y with
  | non=>cases ry;exact PySem.EqNone.eq_str_none (bL I q (by simp))
  | bl j=>cases ry;exact PySem.EqMixed.eq_str_bool (bL I q (by simp))
  | int j=>obtain⟨t',rfl⟩:=ry;exact PySem.EqMixed.eq_str_int (bL I q (by simp))
  | str j=>obtain⟨t',rfl⟩:=ry;exact eq_str (bL I q xk)
  | _=>exact absurd (show false=true from hs) Qd
 | byt i =>
  obtain⟨t,rfl⟩:=rx;cases y with
  | byt j=>obtain⟨t',rfl⟩:=ry;exact PySem.W.eq_bytes (bL I q xn)
  | _=>exact absurd (show false=true from hs) Qd
 | _=>cases y<;>exact absurd (show false=true from hs) Qd
theorem op_ne:OpR X (compareOp .NotEq) rNe:=by
 intro pins s σ H x y v u Q I rx ry h;obtain⟨hs,q⟩:=h;cases x with
 | non =>
  cases rx;cases y with
  | non=>cases ry;exact PySem.EqNone.ne_none_none (bL I q (by simp))
  | bl j=>cases ry;exact PySem.EqNone.ne_none_bool (bL I q (by simp))
  | int j=>obtain⟨t',rfl⟩:=ry;exact PySem.EqNone.ne_none_int (bL I q (by simp))
  | str j=>obtain⟨t',rfl⟩:=ry;exact PySem.EqNone.ne_none_str (bL I q (by simp))
  | _=>exact absurd (show false=true from hs) Qd
 | bl i =>
  cases rx;cases y with
  | non=>cases ry;exact PySem.EqNone.ne_bool_none (bL I q (by simp))
  | bl j=>cases ry;exact ne_bool (bL I q (congrArg not Ei))
  | str j=>obtain⟨t',rfl⟩:=ry;exact PySem.EqMixed.ne_bool_str (bL I q (by simp))
  | _=>exact absurd (show false=true from hs) Qd
 | int i =>
  obtain⟨t,rfl⟩:=rx;cases y with
  | non=>cases ry;exact PySem.EqNone.ne_int_none (bL I q (by simp))
  | int j=>obtain⟨t',rfl⟩:=ry;exact ne_int (bL I q (congrArg not xj))
  | str j=>obtain⟨t',rfl⟩:=ry;exact PySem.EqMixed.ne_int_str (bL I q (by simp))
  | _=>exact absurd (show false=true from hs) Qd
 | str i =>
  obtain⟨t,rfl⟩:=rx;cases y with
  | non=>cases ry;exact PySem.EqNone.ne_str_none (bL I q (by simp))
  | bl j=>cases ry;exact PySem.EqMixed.ne_str_bool (bL I q (by simp))
  | int j=>obtain⟨t',rfl⟩:=ry;exact PySem.EqMixed.ne_str_int (bL I q (by simp))
  | str j=>obtain⟨t',rfl⟩:=ry;exact ne_str (bL I q (congrArg not xk))
  | _=>exact absurd (show false=true from hs) Qd
 | byt i =>
  obtain⟨t,rfl⟩:=rx;cases y with
  | byt j=>obtain⟨t',rfl⟩:=ry;exact PySem.W.ne_bytes (bL I q (congrArg not xn))
  | _=>exact absurd (show false=true from hs) Qd
 | _=>cases y<;>exact absurd (show false=true from hs) Qd
def op_lt:OpR X (compareOp .Lt) (rI0 fun i j=>.bl (decide (i<j))):=HW fun _ _ _ _ _ _ _ q=>lt_int q
def JV:OpR X (compareOp .LtE) (rI0 fun i j=>.bl (decide (i<=j))):=HW fun _ _ _ _ _ _ _ q=>le_int q
def Ej:OpR X (compareOp .Gt) (rI0 fun i j=>.bl (decide (j<i))):=HW fun _ _ _ _ _ _ _ q=>gt_int q
def NE:OpR X (compareOp .GtE) (rI0 fun i j=>.bl (decide (j<=i))):=HW fun _ _ _ _ _ _ _ q=>ge_int q
def zh:OpR X (compareOp .Lt) (fun x y H Q=>∃i j,x=.str i/\y=.str j/\Q (.bl (decide (i.cps.toList<j.cps.toList))) H):=by
 intro pins s σ H x y v u Q I rx ry h;obtain⟨i,j,rfl,rfl,q⟩:=h;obtain⟨t,rfl⟩:=rx;obtain⟨t',rfl⟩:=ry;exact lt_str (bL I q rfl)
def op_in_str:OpR X (compareOp .In) (fun x y H Q=>∃i j,x=.str i/\y=.str j/\Q (.bl (!(Builtin.Str.occurrences j i 0 j.length 1).isEmpty)) H):=by
 intro pins s σ H x y v u Q I rx ry h;obtain⟨i,j,rfl,rfl,q⟩:=h;obtain⟨t,rfl⟩:=rx;obtain⟨t',rfl⟩:=ry;exact in_str (bL I q rfl)
theorem Ek:OpR X (compareOp .Is) (fun x y H Q=>y=.non/\Q (.bl (decide (x=.non))) H):=by
 intro pins s σ H x y v u Q I rx ry h;obtain⟨rfl,q⟩:=h;cases ry;refine is_none_gen (bL I q ?_);cases x<;>first
  | (cases rx;rfl)
  | (obtain⟨t,rfl⟩:=rx;rfl)
def op_notin_str:OpR X (compareOp .NotIn) (fun x y H Q=>∃i j,x=.str i/\y=.str j/\Q (.bl (!(!(Builtin.Str.occurrences j i 0 j.length 1).isEmpty))) H):=by
 intro pins s σ H x y v u Q I rx ry h;obtain⟨i,j,rfl,rfl,q⟩:=h;obtain⟨t,rfl⟩:=rx;obtain⟨t',rfl⟩:=ry;exact notIn_str (bL I q rfl)
def OpR.or(h:OpR X f r)(h':OpR X f r'):OpR X f (fun x y H Q=>r x y H Q∨r' x y H Q):=by
 intro pins s σ H x y v u Q I rx ry q;rcases q with q|q
 ·exact h pins s σ H x y v u Q I rx ry q
 ·exact h' pins s σ H x y v u Q I rx ry q
def Em(b:Expr)(h:op≠.In:=by decide)(h2:op≠.NotIn:=by decide):behindInMarks op b=false:=by
 have e1:(op == CmpOp.In)=false:=by cases op<;>first|rfl|exact absurd rfl h
 have e2:(op == CmpOp.NotIn)=false:=by cases op<;>first|rfl|exact absurd rfl h2
 cases b<;>simp[behindInMarks,e1,e2]
def mr(ho:OpR X (compareOp op) r)(ha:PE X a ta)(hb:PE X b tb)(hm:behindInMarks op b=false):PE X (.Compare a [op] [b] pos) (tOp r ta tb):=by
 intro pins s σ H Q I h;exact wpAny_Compare1 (K7 ha hb I h fun v u s2 x y H2 I2 rx ry q=>ho pins s2 σ H2 x y v u Q I2 rx ry q) hm
def xo(t:TE):TT:=fun σ H Q=>t σ H fun x H'=>∃k,x=.bl k/\Q k H'
def eP(ho:OpR X (compareOp op) r)(ha:PE X a ta)(hb:PE X b tb)(hm:behindInMarks op b=false):PT X (.Compare a [op] [b] pos) (xo (tOp r ta tb)):=by
 intro pins s σ H Q I h
 refine wpAny_isTrue_Compare1 (thn (ha pins s σ H _ I h) fun v s1 ⟨x,H1,I1,r1,q1⟩=>thn (hb pins s1 σ H1 _ I1 q1) fun u s2 ⟨y,H2,I2,r2,q2⟩ =>
  thn (ho pins s2 σ H2 x y v u _ I2 r1 r2 q2) fun c s3 ⟨z,H3,I3,r3,k,e,q3⟩=>?_) hm
 subst e;cases r3;exact Ay ⟨H3,I3,q3⟩
def Ep(r r':R2)(ta tb tc:TE):TE:=fun σ H Q=>ta σ H fun x H1=>tb σ H1 fun y H2=>r x y H2 fun z H3=>∃k,z=.bl k /\
 (if k=true then tc σ H3 fun w' H4=>r' y w' H4 Q else Q (.bl false) H3)
def Er(ho:OpR X (compareOp op) r)(ho':OpR X (compareOp op') r')(ha:PE X a ta)(hb:PE X b tb)(hc:PE X c tc)
  (hm:lastMarks [op,op'] [b,c]=false:=by with_unfolding_all rfl):PT X (.Compare a [op,op'] [b,c] pos) (xo (Ep r r' ta tb tc)):=by
 intro pins s σ H Q I h
 refine isTrue_chain (thn (ha pins s σ H _ I h) fun v s1 ⟨x,H1,I1,r1,q1⟩=>test_link (thn (hb pins s1 σ H1 _ I1 q1) fun u s2 ⟨y,H2,I2,r2,q2⟩ =>
  thn (ho pins s2 σ H2 x y v u _ I2 r1 r2 q2) fun d s3 ⟨z,H3,I3,r3,k,e,q3⟩=>?_)) hm
 subst e;cases r3;refine Ay ?_;cases k with
 | false =>
  obtain⟨k',e',q'⟩:=q3;cases e';exact ite_ff ⟨H3,I3,q'⟩
 | true =>
  refine ite_tt (test_last (thn (hc pins s3 σ H3 _ I3 q3) fun w' s4 ⟨z',H4,I4,r4,q4⟩=>thn (ho' pins s4 σ H4 y z' u w' _ I4 r2 r4 q4) fun d' s5 zz9=>?_));obtain⟨z2,H5,I5,r5,k2,e2,q5⟩:=zz9;subst e2;cases r5;exact Ay ⟨H5,I5,q5⟩
def La(K:Ab)(x:V)(H:Hp)(k:Bool):Prop :=
 match x with
 | .non=>k=false
 | .bl b=>k=b
 | .int i=>k=(i != 0)
 | .str y=>y.length<=sizeLine/\k=((y.length:Int) != 0)
 | .byt y=>y.size<=sizeLine/\k=((y.size:Int) != 0)
 | .ref p=>(∃xs,SqL K H p xs/\k=!xs.isEmpty)∨(∃xs,SqT K H p xs/\k=!xs.isEmpty)∨∃kvs,H p=some (.dK kvs)/\k=!kvs.isEmpty
 | _=>False
def v4{kvs:List (κ×V)}{vs:List (κ×Value)}(r:KV kvs vs):(!vs.isEmpty)=!kvs.isEmpty:=by
 cases r<;>rfl
def ph{xs:List V}{its:List Value}(r:Vals xs its):(!its.toArray.isEmpty)=!xs.isEmpty:=by
 cases r<;>simp
def lg:(sizeLine:Nat)<2 ^ 63:=by rw[C5];decide
theorem Lb:Pg X (fun x H Q=>∃k,La X.K x H k/\Q k H):=by
 intro pins s σ H x v Q I rx h;obtain⟨k,e,q⟩:=h;have hl:=lg;have hs:sizeLine=16777216:=C5;cases x with
 | non =>
  cases rx;have e':k=false:=e;subst e';exact truthy_none ⟨H,I,q⟩
 | bl b =>
  cases rx;have e':k=b:=e;subst e';exact Ay ⟨H,I,q⟩
 | int i =>
  obtain⟨t,rfl⟩:=rx;have e':k=(i != 0):=e;subst e';exact PySem.P.truthy_int ⟨H,I,q⟩
 | str y =>
  obtain⟨t,rfl⟩:=rx;obtain⟨hy,e'⟩:y.length<=sizeLine/\k=((y.length:Int) != 0):=e;subst e';exact PySem.P.truthy_str (by lia) ⟨H,I.tok _,q⟩
 | byt y =>
  obtain⟨t,rfl⟩:=rx;obtain⟨hy,e'⟩:y.size<=sizeLine/\k=((y.size:Int) != 0):=e;subst e';exact PySem.W.truthy_bytes (by lia) ⟨H,I.tok _,q⟩
 | ref p =>
  cases rx;have e':(∃xs,SqL X.K H p xs/\k=!xs.isEmpty)∨(∃xs,SqT X.K H p xs/\k=!xs.isEmpty)∨∃kvs,H p=some (.dK kvs)/\k=!kvs.isEmpty:=e;rcases e' with⟨xs,hx,e'⟩|⟨xs,hx,e'⟩|⟨kvs,hx,e'⟩
  ·subst e';obtain⟨its,r,pl,hz⟩:=I.list hx;have hlen:=r.length;exact wpAny_truthy_list pl.isList (by simp only[Vb];lia) ⟨H,I.tok _,by rw[ph r];exact q⟩
  ·subst e';obtain⟨its,r,pl,hz⟩:=I.tuple hx;have hlen:=r.length;exact truthy_tuple pl (by simp only[Vb];lia) ⟨H,I.tok _,by rw[ph r];exact q⟩
  ·subst e';obtain⟨hz,hS,vs,r,m⟩:kvs.length<=sizeLine/\(p == sysModules)=false/\∃vs,KV kvs vs/\s.heap.DictOf (cF X.prog X.w) p vs:=I.hok p _ hx;have hlen:kvs.length=vs.length:=Paired.length r;exact wpAny_truthy_dict hS m (by lia) ⟨H,I.tok _,by rw[v4 r];exact q⟩
 | _=>exact(show False from e).elim
def Es(ha:PE X a ta)(he:∀whole,isTrue a X.env whole=(do let v ← whole;standAt a.pos;holding [v] (truthy v))) :
  PT X a (fun σ H Q=>ta σ H fun x H'=>∃k,La X.K x H' k/\Q k H'):=by
 intro pins s σ H Q I h;exact isTrue_plain (thn (ha pins s σ H _ I h) fun v s1 ⟨x,H1,I1,r1,q1⟩=>Lb pins s1 σ H1 x v Q I1 r1 q1) (he _)
def op_add_str:OpR X (binaryOp .Add) (fun x y H Q=>∃i j,x=.str i/\y=.str j/\i.length+j.length<=sizeLine/\Q (.str (i++j)) H):=by
 intro pins s σ H x y v u Q I rx ry h;obtain⟨i,j,rfl,rfl,hz,q⟩:=h;obtain⟨t,rfl⟩:=rx;obtain⟨t',rfl⟩:=ry;exact add_str (fun t' tk=>⟨.str (i++j),H,I.tok _,⟨_,rfl⟩,q⟩) hz
theorem vals1(r:Vals [x] us):∃u,us=[u]/\RelV x u:=by
 cases r with
 | cons r1 r2=>cases r2;exact⟨_,rfl,r1⟩
theorem vals2(r:Vals [x,y] us):∃u w',us=[u,w']/\RelV x u/\RelV y w':=by
 cases r with
 | cons r1 r2 =>
  cases r2 with
  | cons r3 r4=>cases r4;exact⟨_,_,rfl,r1,r3⟩
end
end L2
namespace L2
open PySem PySem.Spec PyProof.Rows
structure ObjM(h:Heap)(x dx C:Addr)(mA:Str->Option Value):Prop where
 obj:h.get? x=some (PySem.W.instObj C dx)
 ns:h.Ns1 dx mA
 ne:dx≠x
def zi{h:Heap}(n:h.Ns1 dx mA):∃od,h.get? dx=some od/\∀name,PySem.W.lookIn name od=some (mA name):=by
 obtain⟨o,es,ep,ho,hd,hk,_,hm⟩:=n;refine⟨o,ho,fun name=>?_⟩;have e:=hm name;unfold nsFind findBy at e;rw[← Array.find?_toList]at e;unfold PySem.W.lookIn;rw[hd];dsimp only;split
 ·rename_i y q
  rw[q]at e;exact congrArg some e
 ·rename_i q
  rw[q]at e;have a:es.toList.any (·.refKey)=false:=by
   rw[List.any_eq_false];intro y hy;obtain⟨z,t,hkey⟩:=hk y (Array.mem_toList_iff.mp hy);simp[DictEntry.refKey,hkey]
  have a':¬ es.toList.any (·.refKey)=true:=by rw[a];exact Qd
  rw[Ak a'];exact congrArg some e
def ObjM.look(I:ObjM h x dx C mA):∃od,PySem.W.InstAt h x (PySem.W.instObj C dx) C (some od)/\∀name,PySem.W.lookIn name od=some (mA name) :=
 let ⟨od,ho,hl⟩:=zi I.ns
 ⟨od,⟨I.obj,rfl,rfl,ho⟩,hl⟩
theorem RelO.some_of(r:RelO (some v) o):∃u,o=some u/\RelV v u:=by
 cases o with
 | none=>exact(show False from r).elim
 | some u=>exact⟨u,rfl,r⟩
section
variable {P:Program}{w:World}{H H':Hp}{h h':Heap}{a C dx:Addr}{fs fs':List (Str×V)}
def HX(hok:HOk P w H h)(e:H a=some (.ins C dx fs)):∃mA,ObjM h a dx C mA/\(∀f,RelO (fs.lookup f) (mA f))/\PySem.Within mA (fs.map (·.1))/\fs.length<=1000/\H dx=some (.own a):=by
 obtain⟨d,z,ne,ob,mA,n,r,q⟩:=(show ObjOk P w H h a (.ins C dx fs) from hok a _ e);exact⟨mA,⟨ob,n,ne⟩,r,q,z,d⟩
end
structure Cls(K:Ab)(C:Addr):Prop where
 pg:PySem.W.plainGet K C Str.empty=true
 hd:PySem.W.hasDictIn K C=true
 po:PySem.W.plainOver K C=true
 sa:PySem.W.findIn K (.ref C) "__setattr__"=some (some (.builtin "object.__setattr__"))
def Cls.get{K:Ab}{C:Addr}(c:Cls K C)(f:Str):PySem.W.plainGet K C f=true:=c.pg
section
variable {X:Cx}{pins:List (Addr×Obj)}{σ:St}{H:Hp}{s:Shared}{A:Around}{E:Value->Shared->Prop}{Q:Value->Shared->Prop}{c:Value}{b:Bool}
inductive TyOf(K:Ab)(H:Hp):V->Value->Prop where
 | non:TyOf K H .non (.type "NoneType")
 | bl (x:Bool):TyOf K H (.bl x) (.type "bool")
 | int (i:Int):TyOf K H (.int i) (.type "int")
 | str (x:Str):TyOf K H (.str x) (.type "str")
 | flt (x:UInt64):TyOf K H (.flt x) (.type "float")
 | lst {a:Addr} {xs:List V} (e:H a=some (.lst xs)):TyOf K H (.ref a) (.type "list")
 | frz {a:Addr} {o:Obj} {xs:List V} (e:H a=some (.frz o (.lst xs))):TyOf K H (.ref a) (.type "list")
 | tup {a:Addr} {xs:List V} (e:H a=some (.tup xs)):TyOf K H (.ref a) (.type "tuple")
 | dK {a:Addr} {kvs:List (Key×V)} (e:H a=some (.dK kvs)):TyOf K H (.ref a) (.type "dict")
 | dT {a:Addr} {ep:Nat×List Addr} {kvs:List (List Key×V)} (e:H a=some (.dT ep kvs)):TyOf K H (.ref a) (.type "dict")
 | ins {a C dx:Addr} {fs:List (Str×V)} (e:H a=some (.ins C dx fs)) (cl:Cls K C) (ha:PySem.W.findIn K (.ref C) "__class__"=some (some (.builtin "object.__class__")))
   (hn:PySem.W.specialIn K (.builtin "object.__class__") "__get__"=some (some (.builtin "getset_descriptor.__get__"))) (htk:PySem.W.takesIn K (.builtin "object.__class__")=some true)
   (hm:PySem.W.mroIn K C (.type "object")=some true):TyOf K H (.ref a) (.ref C)
def fu(I:Inv X pins σ H s)(rx:RelV x u)(ty:TyOf X.K H x t)(e:PySem.W.kitOne X.K t c=some b)(h:∀tk,Q (.bool b) { s with toks:=tk }) :
  wpAny (model X.prog X.w) A (call (.builtin "isinstance") [u,c]) Q E s:=by
 cases ty with
 | non=>cases (show u=Value.none from rx);exact Ar PySem.W.kitx_none I.kIn True.intro e (fun z=>nomatch z) h
 | bl y=>cases (show u=Value.bool y from rx);exact Ar PySem.W.kitx_bool I.kIn True.intro e (fun z=>nomatch z) h
 | int i=>obtain⟨t,q⟩:=(show ∃t,u=Value.int i t from rx);cases q;exact Ar PySem.W.kitx_int I.kIn True.intro e (fun z=>nomatch z) h
 | str y=>obtain⟨t,q⟩:=(show ∃t,u=Value.str y t from rx);cases q;exact Ar PySem.W.kitx_str I.kIn True.intro e (fun z=>nomatch z) h
 | flt y=>obtain⟨t,q⟩:=(show ∃t,u=Value.float y t from rx);cases q;exact Ar PySem.W.kitx_float I.kIn True.intro e (fun z=>nomatch z) h
 | @lst a xs ea =>
  cases (show u=Value.ref a from rx);obtain⟨_,_,n,_,h1⟩:=(show ObjOk X.prog X.w H s.heap a (.lst xs) from I.hok a _ ea);exact Ar CN I.kIn ⟨_,h1,rfl⟩ e (fun z=>nomatch z) h
 | @frz a ob xs ea =>
  cases (show u=Value.ref a from rx);obtain⟨_,_,_,n,_,h1⟩:=(show ObjOk X.prog X.w H s.heap a (.frz ob (.lst xs)) from I.hok a _ ea);exact Ar CN I.kIn ⟨_,h1,rfl⟩ e (fun z=>nomatch z) h
 | @tup a xs ea =>
  cases (show u=Value.ref a from rx);obtain⟨_,_,_,p⟩:=(show ObjOk X.prog X.w H s.heap a (.tup xs) from I.hok a _ ea);obtain⟨o,h1,h2,_⟩:=p;exact Ar PySem.W.kitx_tuple I.kIn ⟨o,h1,h2⟩ e (fun z=>nomatch z) h
 | @dK a kvs ea =>
  cases (show u=Value.ref a from rx);obtain⟨_,_,vs,_,p⟩:=(show ObjOk X.prog X.w H s.heap a (.dK kvs) from I.hok a _ ea);obtain⟨o,es,ep,h1,h2,_⟩:=p;exact Ar PySem.W.kitx_dict I.kIn ⟨o,h1,h2.1⟩ e (fun z=>nomatch z) h
 | @dT a ep kvs ea =>
  cases (show u=Value.ref a from rx);obtain⟨_,_,xs,_,_,o,es,h1,h2,_⟩:=(show ObjOk X.prog X.w H s.heap a (.dT ep kvs) from I.hok a _ ea);exact Ar PySem.W.kitx_dict I.kIn ⟨o,h1,h2.1⟩ e (fun z=>nomatch z) h
 | @ins a C dx fs ea cl ha hn htk hm =>
  cases (show u=Value.ref a from rx);obtain⟨mA,O,_⟩:=HX I.hok ea;obtain⟨od,J,_⟩:=O.look;exact Ar (PySem.W.kitx_own (cl.get _) cl.hd ha hn htk hm) I.kIn J e (fun z=>nomatch z) h
end
end L2
namespace L2
open PySem PySem.Spec PyProof.Rows
structure Room(k:Nat)(A:Around):Prop where
 hd:A.handled=none
 dp:A.depth+3*k+5<recursionLimit
 un:A.units+16*k+200<cLine
def Room.mono(r:Room k A)(h:j<=k):Room j A:=⟨r.hd,by have:=r.dp;lia,by have:=r.un;lia⟩
theorem Room.deeper{A:Around}(r:Room (k+1) A)(env:Env):Room k (A.deeper env) :=
 ⟨r.hd,by have:=r.dp;show A.depth+1+3*k+5<_;lia,by have:=r.un;show A.units+3+16*k+200<_;lia⟩
theorem Room.depth{A:Around}(r:Room k A):A.depth<recursionLimit:=by have:=r.dp;lia
theorem Room.units{A:Around}(r:Room k A):A.units+64<cLine:=by have:=r.un;lia
def uc:TA:=fun _ H Q=>Q [] H
def iH(ta:TE)(tr:TA):TA:=fun σ H Q=>ta σ H fun x H1=>tr σ H1 fun xs H2=>Q (x::xs) H2
section
variable {X:Cx}{e:Expr}{es:List Expr}{te:TE}{t:TA}{pos:Pos}
def ac:PA X [] uc:=fun _ _ _ _ H Q I h=>Calls.spliced_nil ⟨[],H,I,.nil,h⟩
def oK(ha:PE X e te)(hr:PA X es t)(hs:starEach (e::es) X.env=(false,eval e X.env)::starEach es X.env:=by rfl):PA X (e::es) (iH te t):=by
 intro pos pins s σ H Q I h;rw[hs];show wpAny _ _ (spliced ((false,eval e X.env)::backTo pos (starEach es X.env))) _ _ s;refine CF (thn (ha pins s σ H _ I h) fun u s1 zz9=>?_);obtain⟨x,H1,I1,r1,q1⟩:=zz9;exact thn (hr pos pins s1 σ H1 _ I1 q1) fun us s2 ⟨xs,H2,I2,r2,q2⟩=>⟨x::xs,H2,I2,.cons r1 r2,q2⟩
def NF(t:TA):TE:=fun σ H Q=>t σ H fun xs H1=>xs.length<=sizeLine/\∀p,H1 p=none->Q (.ref p) (upd H1 p (.tup xs))
def Lc(t:TA):TE:=fun σ H Q=>t σ H fun xs H1=>xs.length<=sizeLine/\∀p,H1 p=none->Q (.ref p) (upd H1 p (.lst xs))
def aM{x1}(h:PA X es t):PE X (.Tuple es x1 pos) (NF t):=by
 intro pins s σ H Q I hq;refine wpAny_Tuple_spliced (thn (h pos pins s σ H _ I hq) fun us s1 ⟨xs,H1,I1,r,z,q⟩=>⟨by rw[← r.length];exact z,?_⟩)
 have hf:H1 s1.heap.objs.size=none:=I1.hok.fresh (Va _);refine⟨.ref s1.heap.objs.size,upd H1 s1.heap.objs.size (.tup xs),I1.laid (t':=s1.toks) (fun b u e=>Ac _ e) (Va _) ?_,rfl,q _ hf⟩;exact⟨z,us,r,⟨_,Ai _ rfl,rfl,_,rfl⟩⟩
def bM(h:PA X es t):PE X (.List es pos) (Lc t):=by
 intro pins s σ H Q I hq;refine wpAny_List_spliced (thn (h pos pins s σ H _ I hq) fun us s1 ⟨xs,H1,I1,r,z,q⟩=>⟨by rw[← r.length];exact z,?_⟩)
 have hf:H1 s1.heap.objs.size=none:=I1.hok.fresh (Va _);refine⟨.ref s1.heap.objs.size,upd H1 s1.heap.objs.size (.lst xs),I1.laid (t':=s1.toks) (fun b u e=>Ac _ e) (Va _) ?_,rfl,q _ hf⟩;exact⟨z,us,0,r,Ai _ rfl⟩
end
abbrev Sp:=List V->Hp->VK->XK->Prop
abbrev CXT:=List Env->Hp->Shared->XK->Value->Shared->Prop
structure Env0(P:Program)(w:World)(K:Ab)(mg:Str->Option Value)(base:Heap)(A:Around)(outer:List Env)(s:Shared)(H:Hp):Prop where
 frames:A.frames=some outer
 mod:Mod K mg base
 bs:∀b o,base.get? b=some o->s.heap.get? b=some o/\H b=none
 bsz:base.objs.size<=s.heap.objs.size
 funs:s.heap.FunFrames base outer
 frf:∀b∈frs outer,H b=none
 hok:HOk P w H s.heap
 bare:AllBare s.gens
def CE(outer:List Env)(P:Program)(w:World)(H:Hp)(s:Shared)(Q:VK)(u:Value)(s':Shared):Prop :=
 ∃v H',s'.os=s.os/\AllBare s'.gens/\Un (frs outer) [] H H' s.heap s'.heap/\HOk P w H' s'.heap/\RelV v u/\Q v H'
def CR(CX:CXT)(outer:List Env)(P:Program)(w:World)(H:Hp)(s:Shared)(Q:VK)(E:XK)(r:Result)(s':Shared):Prop :=
 match r with
 | .ok (.ret u)=>CE outer P w H s Q u s'
 | .ok _=>False
 | .error e=>CX outer H s E e s'
structure FnOk(P:Program)(w:World)(K:Ab)(mg:Str->Option Value)(base:Heap)(CX:CXT)(k:Nat)(f:Addr)(fd:FuncData)(ps:List Str)(sp:Sp):Prop where
 len:∀vs H Q E,sp vs H Q E->vs.length=ps.length
 run:∀(A:Around)(outer:List Env)(s:Shared)(H:Hp)(args:Args)(us:List Value)(vs:List V)(Q:VK)(E:XK),Room k A->Env0 P w K mg base A outer s H->BindsTo s fd args (ps.zip us)->Vals vs us->sp vs H Q E ->
  codeAny (model P w) A (.call (.ref f) args) (CR CX outer P w H s Q E) s
def FnOk.imp{P:Program}{w:World}{K:Ab}{mg:Str->Option Value}{base:Heap}{CX:CXT}{k:Nat}{f:Addr}{fd:FuncData}{ps:List Str}{sp sp':Sp}(F:FnOk P w K mg base CX k f fd ps sp)
  (h:∀vs H Q E,sp' vs H Q E->sp vs H Q E):FnOk P w K mg base CX k f fd ps sp' :=
 ⟨fun vs H Q E q=>F.len vs H Q E (h _ _ _ _ q),fun A outer s H args us vs Q E hr he hb hv hs=>F.run A outer s H args us vs Q E hr he hb hv (h _ _ _ _ hs)⟩
section
variable {X:Cx}{pins:List (Addr×Obj)}{σ:St}{H:Hp}{s s':Shared}
def Inv.env0(I:Inv X pins σ H s):Env0 X.prog X.w X.K X.mg X.base X.A X.stack s H :=
 ⟨I.ok.frames,I.ok.mod,I.bs,Yd I.ok.bsz I.sz,I.stack,I.stkFree,I.hok,I.bare⟩
def Inv.after(I:Inv X pins σ H s)(h:CE X.stack X.prog X.w H s Q u s'):EP X pins σ Q u s':=by
 obtain⟨v,H',os,bare,un,hok,r,q⟩:=h;obtain⟨hh,g,d,t,os'⟩:=s';obtain rfl:os'=s.os:=os;exact⟨v,H',I.call (h':=hh) (g':=g) (d':=d) (t':=t) (ch:=[]) un hok bare (fun b z=>absurd z (by simp)),r,q⟩
end
def Et(sp:Sp)(dvs:List V)(E:XK)(t:TA):TE:=fun σ H Q=>t σ H fun vs H1=>sp (vs++dvs) H1 Q E
def Binds(K:Ab)(fd:FuncData)(ps:List Str)(ds:List Value):Prop :=
 ∀(s:Shared)(us:List Value),K.In s.heap->(us++ds).length=ps.length->BindsTo s fd ⟨us,[]⟩ (ps.zip (us++ds))
def Binds.all{K:Ab}{fd:FuncData}{ps:List Str}(h:∀us:List Value,us.length=ps.length->bindArgs fd ⟨us,[]⟩=pure (ps.zip us)):Binds K fd ps []:=fun s us _ hl=>by
 rw[Xc]at hl ⊢;exact .of_eq (h us hl)
def v5(CX:CXT)(X:Cx)(E:XK):Prop:=∀(pins:List (Addr×Obj))(σ:St)(H:Hp)(s:Shared)(e:Value)(s':Shared),Inv X pins σ H s->CX X.stack H s E e s'->X.xe e s'
section
variable {X:Cx}{CX:CXT}{k:Nat}{f C:Addr}{fd:FuncData}{ps:List Str}{sp:Sp}{dvs:List V}{ds:List Value}{E:XK}{x m:Str}{p pos apos:Pos}{e o:Expr}{es:List Expr}{ta:TE}{t:TA}
def Ld(F:FnOk X.prog X.w X.K X.mg X.base CX k f fd ps sp)(hr:Room k X.A)(hb:Binds X.K fd ps ds)(hd:Vals dvs ds)(hx:v5 CX X E)
  (I:Inv X pins σ H s)(r:Vals vs us)(h:sp (vs++dvs) H Q E):wpAny (model X.prog X.w) X.A (call (.ref f) us) (EP X pins σ Q) X.xe s:=by
 have r2:Vals (vs++dvs) (us++ds):=r.append hd;have hl:(us++ds).length=ps.length:=by rw[← r2.length];exact F.len _ _ _ _ h
 refine wpAny_call (codeAny_mono (F.run X.A X.stack s H ⟨us,[]⟩ (us++ds) (vs++dvs) Q E hr I.env0 (hb s us I.kIn hl) r2 h) fun r s' hq=>?_);cases r with
 | error e=>exact hx pins σ H s e s' I hq
 | ok fl =>
  cases fl with
  | ret u=>exact I.after hq
  | next=>exact False.elim hq
  | brk=>exact False.elim hq
  | cont=>exact False.elim hq
def xp(F:FnOk X.prog X.w X.K X.mg X.base CX k f fd ps sp)(hr:Room k X.A)(hg:Gl X x)(hm:X.mg x=some (.ref f))(hk:PySem.W.keepIn X.K (.ref f)=true)(hb:Binds X.K fd ps ds)(hd:Vals dvs ds)(hx:v5 CX X E)
  (ha:PA X (e::es) t)(hdb:(x == ("__debug__":Str))=false:=by decide)(he:starEach (e::es) X.env=(false,eval e X.env)::starEach es X.env:=by rfl)(hpl:(backTo pos (starEach es X.env)).any (·.1)=false:=by rfl) :
  PE X (.Call (.Name x p) (e::es) [] pos) (Et sp dvs E t):=by
 intro pins s σ H Q I h;refine Cr (rW I hg hm ?_ hdb);refine PySem.W.callWith_K (h₀:=X.base) I.ok.mod.kin hk (thn (ha pos pins s σ H _ I h) fun us s1 ⟨vs,H1,I1,r,q⟩=>⟨I1.kIn,?_⟩) he hpl;exact Ld F hr hb hd hx I1 r q
end
structure FnScope(N P:List Str)(sc:Scope):Prop where
 kind:sc.kind=.function
 co:sc.isCoroutine=false
 gen:sc.isGenerator=false
 nd:N.Nodup
 pre:N.take P.length=P
 par:∀x∈P,sc.names.lookup x=some .local∨sc.names.lookup x=some .cell
 nofree:∀y∈sc.names,y.2≠.free
theorem qM{kindOf:Str->Option NameKind}{x:Str}:∀{binds:List (Str×Value)}{m:Str->Option Value},(∀v,(x,v)∉binds)->bindL kindOf binds m x=m x
 | [],_,_=>rfl
 | (n,v)::r,m,h=>by
  unfold bindL;rw[qM fun w hw=>h w (Xb _ hw)];split
  ·have:x≠n:=by rintro rfl;exact h v Qa
   simp[this]
  ·rfl
theorem qN{kindOf:Str->Option NameKind}{x:Str}:∀{binds:List (Str×Value)}{m:Str->Option Value},(∀v,(x,v)∉binds)->bindC kindOf binds m x=m x
 | [],_,_=>rfl
 | (n,v)::r,m,h=>by
  unfold bindC;rw[qN fun w hw=>h w (Xb _ hw)];split
  ·rfl
  ·have:x≠n:=by rintro rfl;exact h v Qa
   simp[this]
theorem qO{kindOf:Str->Option NameKind}{x:Str}{v:Value}:∀{P:List Str}{vs:List Value}{i:Nat}{m:Str->Option Value},P.Nodup->P[i]?=some x->vs[i]?=some v->kindOf x=some .local ->
  bindL kindOf (P.zip vs) m x=some v
 | [],_,_,_,_,h,_,_=>by simp at h
 | _::_,[],_,_,_,_,h,_=>by simp at h
 | p::P,w::vs,0,m,nd,h1,h2,hk=>by
  simp at h1 h2;subst h1;subst h2;show bindL kindOf ((p,w)::P.zip vs) m p=_;unfold bindL;rw[qM fun v hv=>(Wg.mp nd).1 (B2 hv).1,Ag hk];simp
 | p::P,w::vs,i+1,m,nd,h1,h2,hk=>by
  show bindL kindOf ((p,w)::P.zip vs) m x=_;unfold bindL;exact qO (i:=i) (Wg.mp nd).2 (by simpa using h1) (by simpa using h2) hk
theorem qP{kindOf:Str->Option NameKind}{x:Str}{v:Value}:∀{P:List Str}{vs:List Value}{i:Nat}{m:Str->Option Value},P.Nodup->P[i]?=some x->vs[i]?=some v->kindOf x≠some .local ->
  bindC kindOf (P.zip vs) m x=some v
 | [],_,_,_,_,h,_,_=>by simp at h
 | _::_,[],_,_,_,_,h,_=>by simp at h
 | p::P,w::vs,0,m,nd,h1,h2,hk=>by
  simp at h1 h2;subst h1;subst h2;show bindC kindOf ((p,w)::P.zip vs) m p=_;unfold bindC;rw[qN fun v hv=>(Wg.mp nd).1 (B2 hv).1,Ak hk];simp
 | p::P,w::vs,i+1,m,nd,h1,h2,hk=>by
  show bindC kindOf ((p,w)::P.zip vs) m x=_;unfold bindC;exact qP (i:=i) (Wg.mp nd).2 (by simpa using h1) (by simpa using h2) hk
def start(N:List Str)(vs:List V):St:=vs.map some++List.replicate (N.length-vs.length) none
def ud(CX:CXT)(P:Program)(w:World)(K:Ab)(mg:Str->Option Value)(base:Heap)(N:List Str)(qual:Str)(scope:Scope)(f:Addr)(cd:Value)(A:Around)(outer:List Env)(s:Shared)(H:Hp)(E:XK):Cx where
 prog:=P
 w:=w
 K:=K
 mg:=mg
 base:=base
 A:=A.deeper (envOfC qual scope s.heap.objs.size f cd)
 N:=N
 s₀:=s
 H₀:=H
 env:=envOfC qual scope s.heap.objs.size f cd
 outer:=outer
 stack:=envOfC qual scope s.heap.objs.size f cd::outer
 ex:=[]
 calm:=true
 fn:=fun _=>true
 pn:=[]
 xe:=fun e s'=>wpAny (model P w) (A.deeper (envOfC qual scope s.heap.objs.size f cd)) (leaving (envOfC qual scope s.heap.objs.size f cd) e) (fun _ s''=>CX outer H s E e s'') (fun e' s''=>CX outer H s E e' s'') s'
def ue{sc:Scope}(h:sc.names.lookup x=some .cell):∃c,(cellsFrom n sc.names []).lookup x=some c:=by
 have q:=Ds sc.names n [] (.inl h);exact Option.isSome_iff_exists.mp q
def zj{CX:CXT}{P:Program}{w:World}{K:Ab}{mg:Str->Option Value}{base:Heap}{N ps:List Str}{qual:Str}{scope:Scope}{f:Addr}{cd:Value}{A:Around}{outer:List Env}{s s1:Shared}{H:Hp}{E:XK}{us:List Value}{vs:List V}
  (S:FnScope N ps scope)(hd:A.handled=none)(e0:Env0 P w K mg base A outer s H)(hl:vs.length=ps.length)(r:Vals vs us)
  (x:InCallC s s.heap.objs.size (bindL (envOfC qual scope s.heap.objs.size f cd).kindOf (ps.zip us) fun _=>none) (cellsFrom (s.heap.objs.size+1) scope.names []) (bindC (envOfC qual scope s.heap.objs.size f cd).kindOf (ps.zip us) fun _=>none) s1) :
  Inv (ud CX P w K mg base N qual scope f cd A outer s H E) [] (start N vs) H s1:=by
 have hpl:ps.length<=N.length:=by have:=congrArg List.length S.pre;rw[Zg]at this;lia
 obtain⟨h1,tk,rfl,hk⟩:=x.done;have noA:∀b:Addr,b∉(ud CX P w K mg base N qual scope f cd A outer s H E).ex:=fun b z=>absurd (show b∈([]:List Addr) from z) (by simp)
 refine⟨⟨e0.mod,S.kind,rfl,rfl,Va _,fun y z c h1 h2=>?_,fun y hy=>?_,fun y c _ h=>?_,fun _=>hd,Around.frames_deeper e0.frames,.inr ⟨rfl,rfl⟩,fun b z=>absurd z (noA b),e0.bs,e0.bsz,fun b _ _=>noA b,fun b z=>absurd z (noA b),e0.funs,e0.frf⟩,
  rfl,e0.bare,Un.kept hk,⟨_,x.toInCall.ns,fun i y v h1 h2 h3=>?_⟩,fun y c h=>⟨_,x.cell y c h⟩,e0.hok.fresh (Va _),fun y c h=>?_,fun p hp=>absurd (show p∈([]:List (Addr×Obj)) from hp) (by simp),e0.hok.kept hk,?_⟩
 ·exact name_of_addr x.apart (Az h1) (Az h2)
 ·have hy:scope.names.lookup y=some .cell∨scope.names.lookup y=some .free:=hy;rcases hy with hy|hy
  ·exact ue hy
  ·exact absurd rfl (S.nofree _ (Az hy))
 ·exact Qk (x.above y c (Az h))
 ·have hi:i<vs.length:=by
   unfold start at h2;by_cases hi:i<vs.length
   ·exact hi
   ·rw[Yh (by simpa using hi)]at h2
    rw[Zn]at h2;split at h2<;>cases h2
  have ha:vs[i]?=some v:=by
   unfold start at h2;rw[Vi (by simpa using hi),Qe]at h2
   cases e:vs[i]? with
   | none=>rw[e]at h2;cases h2
   | some a=>rw[e]at h2;cases h2;rfl
  obtain⟨u,hu,rv⟩:=r.get ha;have hp:ps[i]?=some y:=by
   rw[← S.pre,List.getElem?_take_of_lt (by lia)];exact h1
  have ndP:ps.Nodup:=by rw[← S.pre];exact S.nd.sublist (List.take_sublist _ _)
  refine⟨u,rv,?_⟩;rcases S.par y (Wb hp) with k|k
  ·exact .inl ⟨k,qO ndP hp hu k⟩
  ·obtain⟨c,e⟩:=ue (n:=s.heap.objs.size+1) k;refine .inr ⟨.inl k,c,e,?_⟩;have q:=x.cell y c e;rw[qP ndP hp hu (by show scope.names.lookup y≠_;rw[k];decide)]at q
   exact q
 ·exact e0.hok.fresh (Qk (x.above y c (Az h)))
 ·unfold start;show _=N.length;rw[Xa,Za,Wk];lia
def JW{CX:CXT}{K:Ab}{mg:Str->Option Value}{k:Nat}{f:Addr}{name qual:Str}{params:Arguments}{body:List Stmt}{scope:Scope}{dV kV doc pm cdv ct oc:Value}{an od:Option Addr}
  {osl:Array (Option Value)}{N ps:List Str}{sp:Sp}(lk:K.lookup f=some ⟨oc,od,.func (PySem.W.fnOf name qual params body scope dV kV doc pm an cdv ct),osl⟩)(hcd:PySem.W.codeIn K cdv qual=true)(S:FnScope N ps scope)
  (len:∀vs H Q E,sp vs H Q E->vs.length=ps.length)
  (hbody:∀(A:Around)(outer:List Env)(s:Shared)(H:Hp)(vs:List V)(Q:VK)(E:XK),Room k (A.deeper (envOfC qual scope s.heap.objs.size f cdv))->sp vs H Q E ->
   ∃t,PSs (ud CX P w K mg base N qual scope f cdv A outer s H E) body t/\t { nx:=fun _ H'=>Q .non H',rt:=Q } (start N vs) H) :
  FnOk P w K mg base CX (k+1) f (PySem.W.fnOf name qual params body scope dV kV doc pm an cdv ct) ps sp:=by
 refine⟨len,fun A outer s H args us vs Q E hr e0 hb r hsp=>?_⟩;have hl:=len _ _ _ _ hsp;have KX:K.In s.heap:=e0.mod.kin.keeps fun b o e=>(e0.bs b o e).1;have lim:s.heap.NoLimit:=e0.mod.nolimit.keeps fun b o e=>(e0.bs b o e).1;have hkind:∀y∈ps.zip us,scope.names.lookup y.1=some .local∨(scope.names.lookup y.1=some .cell/\((cellsFrom (s.heap.objs.size+1) scope.names []).lookup y.1).isSome=true):=fun⟨n,v⟩ hy=>by
  rcases S.par n (B2 hy).1 with q|q
  ·exact .inl q
  ·exact .inr ⟨q,Ds _ _ _ (.inl q)⟩
 refine codeAny_call_function hr.depth (KX _ _ lk) rfl S.co S.gen rfl (PySem.W.codeRec_of KX hcd) (hb _ _ _ _ ?_);refine wpAny_newFunctionEnv_cells S.kind hkind fun env he s1 x=>?_;subst he;refine⟨lim.keeps x.toInCall.keep,codeAny_func ?_⟩;obtain⟨t,ht,hq⟩:=hbody A outer s H vs Q E (hr.deeper _) hsp;have I:Inv (ud CX P w K mg base N qual scope f cdv A outer s H E) [] (start N vs) H s1:=zj S hr.hd e0 hl r x;refine AB (ht [] s1 (start N vs) H _ I hq) (fun fl s' hs=>?_) fun e s' hs=>hs;have fin:∀{σ':St}{H':Hp}{v:V}{u:Value},Inv (ud CX P w K mg base N qual scope f cdv A outer s H E) [] σ' H' s'->RelV v u->Q v H'->CE outer P w H s Q u s' :=
  fun {σ' H' v u} J rv q=>⟨v,H',J.os,J.bare,J.base,J.hok,rv,q⟩
 cases fl with
 | ret u =>
  obtain⟨v,σ',H',J,rv,q⟩:=hs;exact fin J rv q
 | next =>
  obtain⟨σ',H',J,q⟩:=hs;exact fin (v:=V.non) (u:=Value.none) J rfl q
 | brk =>
  obtain⟨_,_,_,q⟩:=hs;exact False.elim q
 | cont =>
  obtain⟨_,_,_,q⟩:=hs;exact False.elim q
end L2
namespace L2
open PySem PySem.Spec PyProof.Rows
section
variable {X:Cx}{x:Str}{p pos:Pos}{e:Expr}{es:List Expr}{t:TA}{id T:String}{r:List V->Hp->VK->Prop}
def tCB(r:List V->Hp->VK->Prop)(t:TA):TE:=fun σ H Q=>t σ H fun vs H1=>r vs H1 Q
def be(hc:CallR X (.builtin id) r)(hg:Gl X x)(hm:X.mg x=none)(hv:bootBuiltins x=some (.builtin id))(ha:PA X (e::es) t)(hn:x≠"__name__":=by decide)(hdb:(x == ("__debug__":Str))=false:=by decide)
  (he:starEach (e::es) X.env=(false,eval e X.env)::starEach es X.env:=by rfl) (hpl:(backTo pos (starEach es X.env)).any (·.1)=false:=by rfl):PE X (.Call (.Name x p) (e::es) [] pos) (tCB r t):=by
 intro pins s σ H Q I h;refine Cr (o9 I hg hm hv ?_ hn hdb);exact PyProof.Rows.callWith_builtin1 (thn (ha pos pins s σ H _ I h) fun us s1 ⟨vs,H1,I1,r1,q1⟩=>hc pins s1 σ H1 vs us Q I1 r1 q1) he hpl
def iI(hc:CallR X (.type T) r)(hg:Gl X x)(hm:X.mg x=none)(hv:bootBuiltins x=some (.type T))(ha:PA X (e::es) t)(hn:x≠"__name__":=by decide)(hdb:(x == ("__debug__":Str))=false:=by decide)
  (he:starEach (e::es) X.env=(false,eval e X.env)::starEach es X.env:=by rfl) (hpl:(backTo pos (starEach es X.env)).any (·.1)=false:=by rfl):PE X (.Call (.Name x p) (e::es) [] pos) (tCB r t):=by
 intro pins s σ H Q I h;refine Cr (o9 I hg hm hv ?_ hn hdb);exact Bz (thn (ha pos pins s σ H _ I h) fun us s1 ⟨vs,H1,I1,r1,q1⟩=>hc pins s1 σ H1 vs us Q I1 r1 q1) he hpl
end
end L2
namespace L2
open PySem PySem.Spec PyProof.Rows
section
variable {κ:Type}[DecidableEq κ]
def kQ(kvs:List (κ×V))(k:κ):Option V:=(kvs.find? fun kv=>decide (kv.1=k)).map (·.2)
def putK(kvs:List (κ×V))(k:κ)(v:V):List (κ×V) :=
 if (kvs.any fun kv=>decide (kv.1=k))=true then kvs.map (fun kv=>if kv.1=k then(kv.1,v) else kv) else kvs++[(k,v)]
def mt{p:κ×V}{r:List (κ×V)}{k:κ}(e:p.1=k):kQ (p::r) k=some p.2:=by simp[kQ,Xm,e]
def mv{p:κ×V}{r:List (κ×V)}{k:κ}(e:¬ p.1=k):kQ (p::r) k=kQ r k:=by simp[kQ,Xm,e]
theorem uf(k:κ):∀kvs:List (κ×V),(kvs.any fun kv=>decide (kv.1=k))=(kQ kvs k).isSome
 | []=>rfl
 | p::r=>by
  rw[Bs];by_cases e:p.1=k
  ·simp only[mt e,Af e,Bool.true_or,Option.isSome_some]
  ·rw[mv e,Ae e,Bool.false_or];exact uf k r
def nY(kvs:List (κ×V))(k:κ)(v:V):(putK kvs k v).length<=kvs.length+1:=by
 unfold putK;split
 ·rw[Za];lia
 ·rw[Xa,Yc,Yg];lia
theorem RelO.isSome_eq{o:Option V}{u:Option Value}(r:RelO o u):o.isSome=u.isSome:=by
 cases o with
 | none=>cases u with
  | none=>rfl
  | some _=>exact(show False from r).elim
 | some _=>cases u with
  | none=>exact(show False from r).elim
  | some _=>rfl
theorem RelO.getD{o:Option V}{u:Option Value}(r:RelO o u)(rd:RelV d d'):RelV (o.getD d) (u.getD d'):=by
 cases o with
 | none=>cases u with
  | none=>exact rd
  | some _=>exact(show False from r).elim
 | some _=>cases u with
  | none=>exact(show False from r).elim
  | some _=>exact r
theorem KV.val{kvs:List (κ×V)}{vs:List (κ×Value)}(r:KV kvs vs)(k:κ):RelO (kQ kvs k) (valueAt vs k):=by
 unfold KV at r;induction r with
 | nil=>exact True.intro
 | @cons p q ps qs h t ih =>
  obtain⟨h1,h2⟩:=h;by_cases e:p.1=k
  ·have e':q.1=k:=h1.symm.trans e;have b:valueAt (q::qs) k=some q.2:=by simp[valueAt,Xm,e']
   rw[mt e,b];exact h2
  ·have e':¬ q.1=k:=fun z=>e (h1.trans z);have b:valueAt (q::qs) k=valueAt qs k:=by simp[valueAt,Xm,e']
   rw[mv e,b];exact ih
theorem KV.any{kvs:List (κ×V)}{vs:List (κ×Value)}(r:KV kvs vs)(k:κ):(kvs.any fun kv=>decide (kv.1=k))=vs.any fun kv=>decide (kv.1=k):=by
 unfold KV at r;induction r with
 | nil=>rfl
 | cons h t ih=>rw[Bs,Bs,ih,h.1]
def KV.repl{kvs:List (κ×V)}{vs:List (κ×Value)}(r:KV kvs vs)(k:κ)(ry:RelV y u) :
  KV (kvs.map fun kv=>if kv.1=k then(kv.1,y) else kv) (vs.map fun kv=>if kv.1=k then(kv.1,u) else kv):=by
 unfold KV at r ⊢;induction r with
 | nil=>exact .nil
 | @cons p q ps qs h t ih =>
  rw[We,We];refine .cons ?_ ih;obtain⟨h1,h2⟩:=h;by_cases e:p.1=k
  ·rw[Ag e,Ag (h1.symm.trans e)];exact⟨h1,ry⟩
  ·rw[Ak e,Ak (fun z=>e (h1.trans z))];exact⟨h1,h2⟩
def KV.put(r:KV kvs vs)(k:κ)(ry:RelV y u):KV (putK kvs k y) (stored vs k u):=by
 unfold putK stored;rw[r.any k];by_cases e:(vs.any fun kv=>decide (kv.1=k))=true
 ·rw[Ag e,Ag e];exact r.repl k ry
 ·rw[Ak e,Ak e];exact Paired.snoc r ⟨rfl,ry⟩
theorem KV.length{kvs:List (κ×V)}{vs:List (κ×Value)}(r:KV kvs vs):kvs.length=vs.length:=Paired.length r
end
theorem xq(r:RelV (kV k) u):(cF P w).is k u=true:=by
 cases k with
 | inl i=>obtain⟨t,e⟩:=(show ∃t,u=Value.int i t from r);subst e;exact tZ P w i t
 | inr x=>obtain⟨t,e⟩:=(show ∃t,u=Value.str x t from r);subst e;exact t7 P w x t
theorem qQ:∀{ks:List Key}{us:List Value},Vals (ks.map kV) us->ItemsAre (cF P w) ks us
 | [],_,r=>by rw[Xi]at r;cases r;exact .nil
 | k::ks,_,r=>by
  rw[We]at r;cases r with
  | cons h t=>exact .cons (xq h) (qQ t)
abbrev KT(H:Hp):List (List Key×V)->List (List Key×Addr×Value)->Prop:=Paired fun p q=>p.1=q.1/\H q.2.1=some (.tup (p.1.map kV))/\RelV p.2 q.2.2
theorem KT.val{kvs:List (List Key×V)}{xs:List (List Key×Addr×Value)}(r:KT H kvs xs)(k:List Key):RelO (kQ kvs k) ((atKey xs k).map (·.2)):=by
 induction r with
 | nil=>exact True.intro
 | @cons p q ps qs h t ih =>
  obtain⟨h1,_,h2⟩:=h;by_cases e:p.1=k
  ·have e':q.1=k:=h1.symm.trans e;have b:atKey (q::qs) k=some q.2:=by simp[atKey,Xm,e']
   rw[mt e,b];exact h2
  ·have e':¬ q.1=k:=fun z=>e (h1.trans z);have b:atKey (q::qs) k=atKey qs k:=by simp[atKey,Xm,e']
   rw[mv e,b];exact ih
def KT.repl{kvs:List (List Key×V)}{xs:List (List Key×Addr×Value)}(r:KT H kvs xs)(k:List Key)(ry:RelV y u) :
  KT H (kvs.map fun kv=>if kv.1=k then(kv.1,y) else kv) (xs.map (putAt k u)):=by
 induction r with
 | nil=>exact .nil
 | @cons p q ps qs h t ih =>
  rw[We,We];refine .cons ?_ ih;obtain⟨h1,h2,h3⟩:=h;unfold putAt;by_cases e:p.1=k
  ·rw[Ag e,Ag (h1.symm.trans e)];exact⟨h1,h2,ry⟩
  ·rw[Ak e,Ak (fun z=>e (h1.trans z))];exact⟨h1,h2,h3⟩
def KT.put(r:KT H kvs xs)(k:List Key)(hb:H b=some (.tup (k.map kV)))(ry:RelV y u) :
  KT H (putK kvs k y) (storedH xs k b u):=by
 have e:(kvs.any fun kv=>decide (kv.1=k))=(atKey xs k).isSome:=by
  rw[uf,(r.val k).isSome_eq,Option.isSome_map]
 unfold putK storedH;rw[e];by_cases q:(atKey xs k).isSome=true
 ·rw[Ag q,Ag q];exact r.repl k ry
 ·rw[Ak q,Ak q];exact Paired.snoc r ⟨rfl,hb,ry⟩
def KT.keeps(r:KT H kvs xs)(ht:∀b ys,H b=some (.tup ys)->H' b=some (.tup ys)):KT H' kvs xs :=
 Paired.mapP r fun _ _ z=>⟨z.1,ht _ _ z.2.1,z.2.2⟩
section
variable {P:Program}{w:World}{H:Hp}{h:Heap}{a:Addr}
def JX(ok:HOk P w H h)(e:Rd H a u):ObjOk P w H h a u:=e.ok ok
def uk{kvs:List (Key×V)}(ok:HOk P w H h)(e:Rd H a (.dK kvs)):kvs.length<=sizeLine/\(a == sysModules)=false/\∃vs,KV kvs vs/\h.DictOf (cF P w) a vs :=
 show ObjOk P w H h a (.dK kvs) from JX ok e
def JY{kvs:List (Key×V)}(ok:HOk P w H h)(e:H a=some (.dK kvs)):kvs.length<=sizeLine/\(a == sysModules)=false/\∃vs,KV kvs vs/\h.DictOf (cF P w) a vs:=uk ok (.inl e)
def pi{ks:List Key}(ok:HOk P w H h)(e:H a=some (.tup (ks.map kV))):(tupleKind (cF P w)).is h ks a:=by
 obtain⟨_,its,r,o,h1,h2,n,h3⟩:=(show ObjOk P w H h a (.tup (ks.map kV)) from ok a _ e);exact⟨o,its.toArray,n,h1,h2,h3,by simpa using qQ r⟩
def xt{kvs:List (List Key×V)}(ok:HOk P w H h)(e:Rd H a (.dT ep kvs)):kvs.length<=sizeLine/\(a == sysModules)=false /\
  ∃xs,KT H kvs xs/\h.DictOfH (tupleKind (cF P w)) a xs:=by
 obtain⟨z,y,xs,r,_,o,es,h1,h2,h3,h4,h5⟩:=(show ObjOk P w H h a (.dT ep kvs) from JX ok e);refine⟨z,y,xs,r,o,es,ep.1,h1,h2,h3,h4,fun x hx=>?_,h5⟩;have all:∀{l:List (List Key×V)}{m:List (List Key×Addr×Value)},KT H l m->∀x∈m,(tupleKind (cF P w)).is h x.1 x.2.1:=by
  intro l m q;induction q with
  | nil=>intro x hx;exact nomatch hx
  | @cons p q ps qs hq t ih =>
   intro x hx;rcases Vd.mp hx with e|hx
   ·subst e;exact pi ok (by rw[← hq.1];exact hq.2.1)
   ·exact ih x hx
 exact all r x hx
end
section
variable {P:Program}{w:World}{H:Hp}{h:Heap}{a:Addr}
def NG{kvs:List (List Key×V)}(ok:HOk P w H h)(e:H a=some (.dT ep kvs)):kvs.length<=sizeLine/\(a == sysModules)=false /\
  ∃xs,KT H kvs xs/\xs.map (·.2.1)=ep.2/\h.DictOfH (tupleKind (cF P w)) a xs:=by
 obtain⟨z,y,xs,r,ra,o,es,h1,h2,h3,h4,h5⟩:=(show ObjOk P w H h a (.dT ep kvs) from ok a _ e);refine⟨z,y,xs,r,ra,o,es,ep.1,h1,h2,h3,h4,fun x hx=>?_,h5⟩;have all:∀{l:List (List Key×V)}{m:List (List Key×Addr×Value)},KT H l m->∀x∈m,(tupleKind (cF P w)).is h x.1 x.2.1:=fun {l m} q=>by
  induction q with
  | nil=>exact fun x hx=>nomatch hx
  | cons hq t ih =>
   intro x hx;rcases Vd.mp hx with e'|hx
   ·subst e';exact pi ok (by rw[← hq.1];exact hq.2.1)
   ·exact ih x hx
 exact all r x hx
end
def DGet(H:Hp)(a:Addr)(y:V)(r:Option V):Prop :=
 (∃kvs k,Rd H a (.dK kvs)/\y=kV k/\r=kQ kvs k)∨∃ep kvs k b,Rd H a (.dT ep kvs)/\y=.ref b/\H b=some (.tup (k.map kV))/\r=kQ kvs k
def zk(as:List Addr)(kvs:List (List Key×V))(k:List Key)(b:Addr):List Addr:=if (kQ kvs k).isSome=true then as else as++[b]
def NH(H:Hp)(a:Addr)(y v:V)(R:Hp->Prop):Prop :=
 (∃kvs k,H a=some (.dK kvs)/\y=kV k/\kvs.length<sizeLine/\R (upd H a (.dK (putK kvs k v)))) ∨
 ∃ep kvs k b,H a=some (.dT ep kvs)/\y=.ref b/\H b=some (.tup (k.map kV))/\kvs.length<sizeLine/\∀n,R (upd H a (.dT (n,zk ep.2 kvs k b) (putK kvs k v)))
theorem DGet.k{a:Addr}{kvs:List (Key×V)}{k:Key}(e:H a=some (.dK kvs)):DGet H a (kV k) (kQ kvs k):=.inl ⟨kvs,k,.inl e,rfl,rfl⟩
def DGet.t{k:List Key}(e:H a=some (.dT ep kvs))(eb:H b=some (.tup (k.map kV))):DGet H a (.ref b) (kQ kvs k):=.inr ⟨ep,kvs,k,b,.inl e,rfl,eb,rfl⟩
def Le{xs:List (List Key×Addr×Value)}(ra:xs.map (·.2.1)=as)(rel:KT H kvs xs):(storedH xs k b u).map (·.2.1)=zk as kvs k b:=by
 have e:(kQ kvs k).isSome=(atKey xs k).isSome:=by rw[(rel.val k).isSome_eq,Option.isSome_map]
 unfold storedH zk;rw[e];by_cases q:(atKey xs k).isSome=true
 ·rw[Ag q,Ag q,← ra,Vg];refine Qi fun x _=>?_;show(putAt k u x).2.1=x.2.1;unfold putAt;split<;>rfl
 ·rw[Ak q,Ak q,Zc,ra];rfl
section
variable {X:Cx}{pins:List (Addr×Obj)}{σ:St}{H:Hp}{s:Shared}{a:Addr}{y v:V}{u r:Value}{o:Option V}{A:Around}{E:Value->Shared->Prop}
def Inv.big(I:Inv X pins σ H s):sysModules<s.heap.objs.size:=by
 have h:mainGlobals<s.heap.objs.size:=(I.mod.glob.keeps I.bk).lt;exact BT (by decide) h
def zm(hu:A.units+1<cLine)(I:Inv X pins σ H s)(g:DGet H a y (some v))(ry:RelV y u)(h:∀w' s',Inv X pins σ H s'->RelV v w'->Q w' s') :
  wpAny (model X.prog X.w) A (getItem (.ref a) u) Q E s:=by
 rcases g with⟨kvs,k,e,ey,l⟩|⟨ep,kvs,k,b,e,ey,eb,l⟩
 ·subst ey;obtain⟨z,hd,vs,rel,dd⟩:=uk I.hok e;obtain⟨w',hw,rw'⟩:=RelO.some_of (v:=v) (o:=valueAt vs k) (by rw[l];exact rel.val k)
  exact wpAny_getItem_of (xq ry) dd.mapOf hw (h w' _ (I.tok _) rw')
 ·subst ey;cases (show u=Value.ref b from ry);obtain⟨z,hd,xs,rel,dd⟩:=xt I.hok e;obtain⟨w',hw,rw'⟩:=RelO.some_of (v:=v) (o:=(atKey xs k).map (·.2)) (by rw[l];exact rel.val k)
  obtain⟨p,hp,hp2⟩:=Yf.mp hw;refine wpAny_getItem_heap (Cs hu) (pi I.hok eb) dd hp ?_;rw[hp2];exact h w' _ (I.tok _) rw'
def xu{h':Heap}{t':Nat}(I:Inv X pins σ H s)(mu:Mut (H a))(hs:Heap.SameBut a s.heap h')(he:∃q,h'.get? a=some q)(new:ObjOk X.prog X.w (upd H a ob) h' a ob) :
  Inv X pins σ (upd H a ob) { s with heap:=h',toks:=t' } :=
 I.write (x:=a) (e:=a) mu (.inl rfl) (fun b q hb z=>(hs.2 b hb).trans z) he new
def Lf{h':Heap}{kvs:List (Key×V)}(z:kvs.length<=sizeLine)(hd:(a == sysModules)=false)(rel:KV kvs vs)(dd:h'.DictOf (cF P w) a vs) :
  ObjOk P w H' h' a (.dK kvs):=⟨z,hd,vs,rel,dd⟩
def zn{R:Hp->Prop}{Q:Unit->Shared->Prop}(hu:A.units+1<cLine)(I:Inv X pins σ H s)(g:NH H a y v R)(ry:RelV y u)(rv:RelV v r)(h:∀s' H',Inv X pins σ H' s'->R H'->Q () s') :
  wpAny (model X.prog X.w) A (setItem (.ref a) u r) Q E s:=by
 rcases g with⟨kvs,k,e,ey,l,eH⟩|⟨ep,kvs,k,b,e,ey,eb,l,eH⟩
 ·subst ey;obtain⟨z,hd,vs,rel,dd⟩:=JY I.hok e;have hz:vs.length<=sizeLine:=by rw[← rel.length];exact z
  have hl:(putK kvs k v).length<=sizeLine:=by have:=nY kvs k v;lia
  refine wpAny_setItem_pairs (hsz:=hz) (xq ry) dd fun h' dd' hs=>h _ _ ?_ eH;have he:∃q,h'.get? a=some q:=let ⟨q,_,_,hq,_⟩:=dd';⟨q,hq⟩;exact xu I (by rw[e];exact True.intro) hs he (Lf hl hd (rel.put k rv) dd')
 ·subst ey;cases (show u=Value.ref b from ry);obtain⟨z,hd,xs,rel,ra0,dd⟩:=NG I.hok e;have hz:xs.length<=sizeLine:=by rw[← Paired.length rel];exact z
  have hl:(putK kvs k v).length<=sizeLine:=by have:=nY kvs k v;lia
  have ra:xs.map (·.2.1)=ep.2:=ra0;refine wpAny_setItem_heap (hsz:=hz) (Cs hu) (pi I.hok eb) dd fun h' dd' hs=>?_;obtain⟨q,es,ep',hq,h2,h3,h4,_,h5⟩:=dd';refine h _ _ ?_ (eH ep');refine xu I (by rw[e];exact True.intro) hs ⟨q,hq⟩ ⟨hl,hd,_,(rel.put k eb rv).keeps fun c ys ec=>?_,Le ra rel,q,es,hq,h2,h3,h4,h5⟩
  rw[bj (Nu ec e (fun z=>nomatch z))];exact ec
end
def Lg(i:Expr):Prop:=∀ov iv,subscripted i false ov iv=operate [ov,iv] (getItem ov iv)
def HY{A:Around}{E:Value->Shared->Prop}{T id:String}{Q:Value->Shared->Prop}
  (hl:typeLookup (.type T) "__getitem__"=pure (some (.builtin id)))(hs:Lg slice)
  (h:wpAny (model prog w) A (eval value env) (fun o s₁=>wpAny (model prog w) A (eval slice env) (fun i s₂=>s₂.TypeIs o T/\wpAny (model prog w) A (getItem o i) Q E s₂) E s₁) E s) :
  wpAny (model prog w) A (eval (.Subscript value slice pos) env) Q E s:=by
 refine Cw (AB h (fun o s₁ h₁=>AB h₁ (fun i s₂ h₂=>?_) fun _ _ x=>x) fun _ _ x=>x);obtain⟨hT,h₂⟩:=h₂;unfold subscriptTail;refine Aa ?_;rw[getitemInPython_of_ne hT.not_modules];refine Aa (wpAny_specialOf hT hl ?_);have fin:wpAny (model prog w) A (subscripted slice false o i) (fun r s₃=>wpAny (model prog w) A (letTemporaryGo value o r >>= fun _=>pure r) Q E s₃) E s₂:=by
  rw[hs o i];exact wpAny_operating (AB h₂ (fun r s₃ h₃=>Aa (wpAny_letTemporaryGo (Ad h₃))) fun _ _ x=>x)
 first
  | exact Ad (Aa fin)
  | exact Aa (Ad (Aa fin))
  | exact Aa fin
def ul{s:Shared}(I:Inv X pins σ H s)(g:DGet H a y o):s.TypeIs (.ref a) "dict":=by
 rcases g with⟨kvs,k,e,_,_⟩|⟨ep,kvs,k,b,e,_,_,_⟩
 ·obtain⟨_,_,vs,_,dd⟩:=uk I.hok e;exact dd.typeIs
 ·obtain⟨_,_,xs,_,dd⟩:=xt I.hok e;exact dd.typeIs
def NI(td ty:TE):TE:=fun σ H Q=>td σ H fun x H1=>ty σ H1 fun y H2=>∃a v,x=.ref a/\DGet H2 a y (some v)/\Q v H2
section
variable {X:Cx}{o i e value:Expr}{pos pos' tpos:Pos}{td ty tv:TE}
def HZ(hu:X.A.units+1<cLine)(ho:PE X o td)(hi:PE X i ty)(hs:Lg i):PE X (.Subscript o i pos) (NI td ty):=by
 intro pins s σ H Q I h;refine HY PySem.F.slot_dict_getitem.lookup hs (thn (ho pins s σ H _ I h) fun u s1 ⟨x,H1,I1,rx,q1⟩=>thn (hi pins s1 σ H1 _ I1 q1) fun iv s2 zz9=>?_);obtain⟨y,H2,I2,ry,a,v,ex,g,q2⟩:=zz9;subst ex;obtain rfl:u=Value.ref a:=rx;exact⟨ul I2 g,zm hu I2 g ry fun w' s3 I3 rw'=>⟨v,H2,I3,rw',q2⟩⟩
end
def Eu(h:Heap)(hb:sysModules<h.objs.size):ObjOk P w H (h.push { cls:=.type "dict",data:=.dict #[] }) h.objs.size (.dK []) :=
 ⟨Xl _,beq_eq_false_iff_ne.mpr (AN (Qh hb)),[],.nil,Heap.DictOf.new h⟩
def Ev:TE:=fun _ H Q=>∀p,H p=none->Q (.ref p) (upd H p (.dK []))
section
variable {X:Cx}{pos:Pos}
def Ew:PE X (.Dict [] [] pos) Ev:=fun pins s σ H Q I h =>
 wpAny_Dict_empty ⟨.ref s.heap.objs.size,_,I.laid (a:=s.heap.objs.size) (o:=.dK []) (t':=s.toks) (fun _ _ q=>Ac _ q) (Va _) (Eu s.heap I.big),rfl,h _ (I.hok.fresh (Va _))⟩
end
structure M2(X:Cx)(o:Expr)(m:Str)(apos:Pos)(e f:Expr)(cpos:Pos):Prop where
 base:attributeBase o m X.env (eval o X.env)=eval o X.env
 few:((backTo cpos (starEach [e,f] X.env)).all (fun x=>!x.1)&&(backToKw cpos (keywordEach [] X.env)).all (fun x=>x.1.isSome)
  && decide (([e,f]:List Expr).length+([]:List Keyword).length+(if ([]:List Keyword).isEmpty then 0 else 1)<30))=true
 line:(apos.endLine == cpos.line)=true
 trees:backTo cpos (starEach [e,f] X.env)=[(false,eval e X.env),(false,eval f X.env)]
def IsD(H:Hp)(a:Addr):Prop:=(∃kvs,Rd H a (.dK kvs))∨∃ep kvs,Rd H a (.dT ep kvs)
def Lh{s:Shared}(I:Inv X pins σ H s)(d:IsD H a) :
  s.TypeIs (.ref a) "dict"/\(∀b,Value.ref a=.ref b->∃ob,s.heap.get? b=some ob/\ob.dict=none)/\(a == sysModules)=false:=by
 rcases d with⟨kvs,e⟩|⟨ep,kvs,e⟩
 ·obtain⟨_,hd,vs,_,dd⟩:=uk I.hok e;refine⟨dd.typeIs,fun b q=>?_,hd⟩;cases q;obtain⟨ob,_,_,h1,h2,_⟩:=dd;exact⟨ob,h1,h2.2.1⟩
 ·obtain⟨_,hd,xs,_,dd⟩:=xt I.hok e;refine⟨dd.typeIs,fun b q=>?_,hd⟩;cases q;obtain⟨ob,_,_,h1,h2,_⟩:=dd;exact⟨ob,h1,h2.2.1⟩
section
variable {X:Cx}{pins:List (Addr×Obj)}{σ:St}{H:Hp}{s:Shared}{a:Addr}{y d:V}{u r:Value}{o:Option V}{A:Around}{E:Value->Shared->Prop}
def Li(hu:A.units+1<cLine)(I:Inv X pins σ H s)(g:DGet H a y o)(ry:RelV y u)(rd:RelV d r)(h:∀w' s',Inv X pins σ H s'->RelV (o.getD d) w'->Q w' s') :
  wpAny (model X.prog X.w) A (call (.builtin "dict.get") [.ref a,u,r]) Q E s:=by
 rcases g with⟨kvs,k,e,ey,l⟩|⟨ep,kvs,k,b,e,ey,eb,l⟩
 ·subst ey;obtain⟨z,hd,vs,rel,dd⟩:=uk I.hok e;refine call_meetsIn B6 dd.typeIs Du (Dq _ _ _) (meets_dict_get_default (cF X.prog X.w) a (xq ry) hd r) ⟨_,dd.mapOf,h _ _ (I.tok _) ?_⟩;rw[l];exact(rel.val k).getD rd
 ·subst ey;cases (show u=Value.ref b from ry);obtain⟨z,hd,xs,rel,dd⟩:=xt I.hok e;refine call_meetsIn B6 dd.typeIs Du (Dq _ _ _) (meetsH_dict_get_default (tupleKind (cF X.prog X.w)) a b hd r) ⟨Cs hu,k,xs,pi I.hok eb,dd,h _ _ (I.tok _) ?_⟩;rw[l];exact(rel.val k).getD rd
end
def Ex(td ty tx:TE):TE:=fun σ H Q=>td σ H fun x H1=>∃a,x=.ref a/\IsD H1 a/\ty σ H1 fun y H2=>tx σ H2 fun z H3=>∃o,DGet H3 a y o/\Q (o.getD z) H3
section
variable {X:Cx}{o e f:Expr}{apos cpos:Pos}{td ty tx:TE}
def Ey(hu:X.A.units+1<cLine)(ho:PE X o td)(he:PE X e ty)(hf:PE X f tx)(m:M2 X o "get" apos e f cpos):PE X (.Call (.Attribute o "get" apos) [e,f] [] cpos) (Ex td ty tx):=by
 intro pins s σ H Q I h;refine wpAny_Call_method m.base m.few m.line PySem.F.plainAttrs_dict B6 PySem.F.type_dict_get (thn (ho pins s σ H _ I h) fun u s1 zz9=>?_);obtain⟨x,H1,I1,rx,a,ex,d,q1⟩:=zz9;subst ex;obtain rfl:u=Value.ref a:=rx;obtain⟨t1,t2,_⟩:=Lh I1 d;refine⟨t1,t2,?_⟩;rw[m.trees]
 refine Calls.callWith_builtin rfl (Calls.evalArgs_plain (CF (thn (he pins s1 σ H1 _ I1 q1) fun iv s2 ⟨y,H2,I2,ry,q2⟩ =>
  CF (thn (hf pins s2 σ H2 _ I2 q2) fun fv s3 ⟨z,H3,I3,rz,ov,g,q3⟩=>Calls.spliced_nil ?_))))
 exact Li hu I3 g ry rz fun w' s4 I4 rw'=>⟨_,H3,I4,rw',q3⟩
end
end L2
namespace HT
open PySem PyProof.Rows
def rcLt_int(A:Around)(s:Shared)(a:Int)(t:Tok)(c:Int)(u:Tok)(prog:Program)(w:World)(E:Value->Shared->Prop)(Q:Value->Shared->Prop)(h:Q (.bool (decide (a<c))) s) :
  wpAny (model prog w) A (richCompare .Lt (.int a t) (.int c u)) Q E s :=
 (PyProof.Rows.lt_int h:wpAny (model prog w) A (compareOp .Lt (.int a t) (.int c u)) Q E s)
section
variable {prog:Program}{w:World}{A:Around}{E:Value->Shared->Prop}{s:Shared}
def cat_tup{vs ws:List Value}(ht:IsTup s.heap t vs.toArray)(hb:IsTup s.heap b ws.toArray)(hv:vs≠[])
  (h1:ws=[]->Q (.ref t) s)(h2:ws≠[]->Q (.ref s.heap.objs.size) { s with heap:=s.heap.push { cls:=.type "tuple",data:=.seq (vs++ws).toArray } })
  (hsz:vs.length+ws.length<=sizeLine):wpAny (model prog w) A (binaryOp .Add (.ref t) (.ref b)) Q E s:=by
 obtain⟨⟨cls,dd,data,sl⟩,ho,hc,n,hd⟩:=id ht;obtain⟨⟨cls2,dd2,data2,sl2⟩,ho2,hc2,n2,hd2⟩:=id hb;simp only at hc hd hc2 hd2;subst hc hd hc2 hd2;have e:vs.toArray++ws.toArray=(vs++ws).toArray:=by simp
 by_cases hw:ws=[]
 ·exact concat_meets ⟨_,ho,rfl⟩ ⟨_,ho2,rfl⟩ CV seq_tuple_add BS BP (BN _ _)
   (tuple_addW1 t b vs.toArray ws.toArray n n2 dd dd2 sl sl2 (by simpa using hv) (by simp[hw])) ⟨ho,ho2,h1 hw⟩
 ·refine concat_meets ⟨_,ho,rfl⟩ ⟨_,ho2,rfl⟩ CV seq_tuple_add BS BP (BN _ _)
   (tuple_addW2 t b vs.toArray ws.toArray n n2 dd dd2 sl sl2 (by simpa using hv) (by simpa using hw) (by rw[Vb,Vb];exact hsz)) ⟨ho,ho2,?_⟩
  rw[e];exact h2 hw
def sIx(n d:Nat):Option Int->Nat
 | none=>d
 | some v=>if v<0 then(v+(n:Int)).toNat else min v.toNat n
def sIx_none(n d:Nat):sIx n d none=d:=rfl
def sIx_nat(n d k:Nat):sIx n d (some (k:Int))=min k n:=by
 show(if (k:Int)<0 then((k:Int)+(n:Int)).toNat else min (k:Int).toNat n)=min k n;rw[Ak (by lia),Qm]
theorem Lj(n d:Nat)(hd:d<=n)(o:Option Int):sIx n d o<=n:=by
 cases o with
 | none=>exact hd
 | some v =>
  show(if v<0 then(v+(n:Int)).toNat else min v.toNat n)<=n;by_cases hv:v<0
  ·rw[Ag hv];lia
  ·rw[Ak hv];exact C0 _ _
def clip_nat(v:Int)(n:Nat)(hv:¬ v<0):min v (n:Int)=((min v.toNat n:Nat):Int):=by
 obtain⟨k,rfl⟩:=Bc (Int.not_lt.mp hv);rw[Qm];rcases Nat.le_total k n with h|h
 ·rw[Wl h];exact Int.min_eq_left (Int.ofNat_le.mpr h)
 ·rw[C1 h];exact Int.min_eq_right (Int.ofNat_le.mpr h)
def xw(v:Int)(n d:Nat):(if v<0 then max (v+(n:Int)) 0 else min v (n:Int))=((sIx n d (some v):Nat):Int):=by
 show(if v<0 then max (v+(n:Int)) 0 else min v (n:Int))=(((if v<0 then(v+(n:Int)).toNat else min v.toNat n):Nat):Int);by_cases hv:v<0
 ·rw[Ag hv,Ag hv];exact(Int.ofNat_toNat _).symm
 ·rw[Ak hv,Ak hv];exact clip_nat v n hv
def v6(lo hi:Option Int)(n:Nat):Builtin.Slice.sliceAdjust lo hi 1 (n:Int)=(((sIx n 0 lo:Nat):Int),((sIx n n hi:Nat):Int)):=by
 have h1:¬ ((1:Int)<0):=by lia
 unfold Builtin.Slice.sliceAdjust;simp only[h1,if_false];refine Prod.ext ?_ ?_
 ·cases lo with
  | none=>rfl
  | some v=>exact xw v n 0
 ·cases hi with
  | none=>rfl
  | some v=>exact xw v n n
def v7(i j:Nat):Builtin.Slice.slicePlaces (i:Int) (j:Int) 1=j-i:=by
 unfold Builtin.Slice.slicePlaces;have h1:(1:Int) > 0:=by lia
 simp only[h1,if_true,DC];split<;>lia
theorem slicePart_(p:IsPart v o)(h:Q o s):wpAny (model prog w) A (Builtin.Slice.slicePartIndex v) Q E s:=by
 cases p with
 | none=>exact slicePart_none h
 | int i t=>exact slicePart_int h
def iJ{sl:Addr}{vl vu:Value}{lo hi:Option Int}{n:Nat}{Q:Int×Int×Nat->Shared->Prop}(hs:s.heap.IsSliceOf sl vl vu .none)(pl:IsPart vl lo)(pu:IsPart vu hi)
  (h:Q (((sIx n 0 lo:Nat):Int),1,sIx n n hi-sIx n 0 lo) s):wpAny (model prog w) A (Builtin.Slice.sliceApplied (.ref sl) (pure (n:Int))) Q E s:=by
 obtain⟨os,hos,hcs,hds⟩:=id hs;unfold Builtin.Slice.sliceApplied Builtin.Slice.sliceFields;refine Aa (Aa (At hos hds (x:=vl) rfl (Aa (At hos hds (x:=vu) rfl (Aa (At hos hds (x:=.none) rfl (Ad ?_)))))));refine Aa (slicePart_none ?_);show wpAny _ _ (if ((1:Int) == 0)=true then _ else _) _ _ s;rw[Ak (by decide)]
 refine Aa (slicePart_ pl (Aa (slicePart_ pu (Aa (Ad ?_)))));show wpAny _ _ (match Builtin.Slice.sliceAdjust lo hi 1 (n:Int) with|(lo,hi)=>pure (lo,(1:Int),Builtin.Slice.slicePlaces lo hi 1)) _ _ s
 rw[v6 lo hi n];show wpAny _ _ (pure (((sIx n 0 lo:Nat):Int),(1:Int),Builtin.Slice.slicePlaces ((sIx n 0 lo:Nat):Int) ((sIx n n hi:Nat):Int) 1)) _ _ s;rw[v7];exact Ad h
def Ez(xs:Array Value)(i k:Nat):((List.range k).filterMap fun(m:Nat)=>xs[((i:Int)+(m:Int)*1).toNat]?).toArray=((xs.toList.drop i).take k).toArray:=by
 have e:(fun(m:Nat)=>xs[((i:Int)+(m:Int)*1).toNat]?)=fun m=>xs[i+m]?:=by
  funext m
  have:((i:Int)+(m:Int)*1).toNat=i+m:=by lia
  rw[this]
 rw[e];have:=pick_run xs i k;rw[CB]at this;have e2:((fun x=>xs[x]?) ∘ fun x=>i+x)=fun m=>xs[i+m]?:=rfl;rw[e2]at this;rw[this]
def getItem_tuple_cut{t sl:Addr}{items:Array Value}{vl vu:Value}{lo hi:Option Int}{Q:Value->Shared->Prop}(ht:IsTup s.heap t items)(hs:s.heap.IsSliceOf sl vl vu .none)(pl:IsPart vl lo)(pu:IsPart vu hi)
  (hw:¬ (sIx items.size 0 lo=0/\sIx items.size items.size hi=items.size))
  (h:Q (.ref s.heap.objs.size) { s with heap:=s.heap.push { cls:=.type "tuple",data:=.seq ((items.toList.drop (sIx items.size 0 lo)).take (sIx items.size items.size hi-sIx items.size 0 lo)).toArray } })
  (hsz:items.size<=sizeLine):wpAny (model prog w) A (getItem (.ref t) (.ref sl)) Q E s:=by
 have htake:sizeOk (.seq ((items.toList.drop (sIx items.size 0 lo)).take (sIx items.size items.size hi-sIx items.size 0 lo)).toArray):=by
  show((items.toList.drop (sIx items.size 0 lo)).take (sIx items.size items.size hi-sIx items.size 0 lo)).toArray.size<=sizeLine;rw[Vb,Zg,Zf,Xd];exact Yd (C0 _ _) (Yd (Nat.sub_le _ _) hsz)
 have hj:sIx items.size items.size hi<=items.size:=Lj _ _ (Va _) hi;obtain⟨os,hos,hcs,hds⟩:=id hs;have hTs:s.TypeIs (.ref sl) "slice":=⟨os,hos,hcs⟩;unfold getItem
 try with_reducible refine AC ?_
 first|refine Aa (Ad ?_)|skip
 refine Aa (CJ ht.typeIs (by decide) ?_)
 refine Aa (Ap (name:=Str.ofString "__getitem__") ht.typeIs Av
  (As Av ht.typeIs Cf ?_ (Cu _ _)))
 show wpAny _ _ (Builtin.Tuple.tupleItemsOf (.ref t) >>= _) _ _ s;refine Aa (tupleItemsOf_ ht ?_);refine Aa (AV hTs ?_);rw[Ag (by decide)]
 refine Aa (iJ hs pl pu ?_);have hno:¬ ((((sIx items.size 0 lo:Nat):Int) == 0&&(1:Int) == 1&&(sIx items.size items.size hi-sIx items.size 0 lo) == items.size)=true):=by
  intro q;rw[Vh,Vh]at q;have q1:((sIx items.size 0 lo:Nat):Int)=0:=Ce q.1.1;have q2:sIx items.size items.size hi-sIx items.size 0 lo=items.size:=Ce q.2;exact hw ⟨by lia,by lia⟩
 show wpAny _ _ (if (((sIx items.size 0 lo:Nat):Int) == 0&&(1:Int) == 1&&(sIx items.size items.size hi-sIx items.size 0 lo) == items.size)=true then _ else _) _ _ s;rw[Ak hno,Ez]
 first
  | exact Aa (m:=Builtin.Tuple.tupleExact _) (Ao (Ad ⟨_,rfl,Ad h⟩) htake)
  | exact Aa (m:=Builtin.Tuple.tupleExact _) (Ao (Aa (Ad (Ad ⟨_,rfl,Ad h⟩))) htake)
  | exact Aa (Aa (m:=Builtin.Tuple.tupleExact _) (Ao (Ad (Ad ⟨_,rfl,Ad h⟩)) htake))
  | exact Aa (Aa (m:=Builtin.Tuple.tupleExact _) (Ao (Ad ⟨_,rfl,Ad h⟩) htake))
end
end HT
namespace L2
open PySem PySem.Spec PyProof.Rows
abbrev TO:=St->Hp->(Option Int->Hp->Prop)->Prop
def PO(X:Cx)(e:Option Expr)(t:TO):Prop :=
 ∀(pins:List (Addr×Obj))(s:Shared)(σ:St)(H:Hp)(Q:Option Int->Hp->Prop),Inv X pins σ H s->t σ H Q ->
  wpAny (model X.prog X.w) X.A (evalPart e X.env) (fun u s'=>∃o H',Inv X pins σ H' s'/\IsPart u o/\Q o H') X.xe s
def xz:TO:=fun _ H Q=>Q none H
def JZ(t:TE):TO:=fun σ H Q=>t σ H fun x H1=>∃i,x=.int i/\Q (some i) H1
section
variable {X:Cx}{e:Expr}{te:TE}{lo hi:Option Expr}{tl th:TO}{pos p2:Pos}
def dG:PO X none xz:=by
 intro pins s σ H Q I h;rw[Cn];exact Ad ⟨none,H,I,.none,h⟩
def cT(h:PE X e te):PO X (some e) (JZ te):=by
 intro pins s σ H Q I hw;rw[evalPart_some];refine thn (h pins s σ H _ I hw) fun u s1 zz9=>?_;obtain⟨x,H1,I1,r1,q1⟩:=zz9;obtain⟨i,rfl,q⟩:=q1;obtain⟨t,rfl⟩:=r1;exact⟨some i,H1,I1,.int i t,q⟩
def SlR(X:Cx)(r:V->Option Int->Option Int->Hp->VK->Prop):Prop :=
 ∀(pins:List (Addr×Obj))(s:Shared)(σ:St)(H:Hp)(x:V)(v vl vu:Value)(lo hi:Option Int)(sl:Addr)(Q:VK),Inv X pins σ H s->RelV x v->s.heap.IsSliceOf sl vl vu .none->IsPart vl lo->IsPart vu hi->r x lo hi H Q ->
  ∃T id,typeLookup (.type T) "__getitem__"=pure (some (.builtin id))/\s.TypeIs v T/\wpAny (model X.prog X.w) X.A (getItem v (.ref sl)) (EP X pins σ Q) X.xe s
def SlR.or(h:SlR X r)(h':SlR X r'):SlR X (fun x lo hi H Q=>r x lo hi H Q∨r' x lo hi H Q):=by
 intro pins s σ H x v vl vu lo hi sl Q I rx hs pl pu q;rcases q with q|q
 ·exact h pins s σ H x v vl vu lo hi sl Q I rx hs pl pu q
 ·exact h' pins s σ H x v vl vu lo hi sl Q I rx hs pl pu q
def tSl(r:V->Option Int->Option Int->Hp->VK->Prop)(te:TE)(tl th:TO):TE:=fun σ H Q=>te σ H fun x H1=>tl σ H1 fun l H2=>th σ H2 fun u H3=>r x l u H3 Q
def cN(hr:SlR X r)(he:PE X e te)(hl:PO X lo tl)(hu:PO X hi th):PE X (.Subscript e (.Slice lo hi none p2) pos) (tSl r te tl th):=by
 intro pins s σ H Q I h;refine Cw (thn (he pins s σ H _ I h) fun v s1 zz9=>?_);obtain⟨x,H1,I1,r1,q1⟩:=zz9;refine wpAny_Slice (thn (hl pins s1 σ H1 _ I1 q1) fun vl s2 ⟨l,H2,I2,pl,q2⟩=>thn (hu pins s2 σ H2 _ I2 q2) fun vu s3 zz9=>?_);obtain⟨u,H3,I3,pu,q3⟩:=zz9;rw[Cn];refine Ad ?_;have I4:Inv X pins σ H3 { s3 with heap:=s3.heap.push { cls:=.type "slice",data:=.fields #[vl,vu,.none] } }:=I3.kept (t':=s3.toks) fun b ob q=>Ac _ q;obtain⟨T,id,hT,ht,hg⟩:=hr pins { s3 with heap:=s3.heap.push { cls:=.type "slice",data:=.fields #[vl,vu,.none] } } σ H3 x v vl vu l u s3.heap.objs.size Q I4 r1 (Heap.IsSliceOf.new ..) pl pu q3;show wpAny (model X.prog X.w) X.A (subscriptTail e (.Slice lo hi none p2) v (.ref s3.heap.objs.size)) (EP X pins σ Q) X.xe { s3 with heap:=s3.heap.push { cls:=.type "slice",data:=.fields #[vl,vu,.none] } };exact tail_any (ops:=[.ref s3.heap.objs.size,v]) ht hT hg (by with_unfolding_all rfl)
def um(xs:List V)(lo hi:Option Int):List V:=(xs.drop (HT.sIx xs.length 0 lo)).take (HT.sIx xs.length xs.length hi-HT.sIx xs.length 0 lo)
def nZ(xs:List V)(lo hi:Option Int):(um xs lo hi).length<=xs.length:=by
 unfold um;rw[Zg,Zf];lia
def Lk(K:Ab):V->Option Int->Option Int->Hp->VK->Prop:=fun x lo hi H Q=>∃a xs,x=.ref a/\SqT K H a xs /\
 ¬ (HT.sIx xs.length 0 lo=0/\HT.sIx xs.length xs.length hi=xs.length)/\∀p,H p=none->Q (.ref p) (upd H p (.tup (um xs lo hi)))
def Ll:SlR X (Lk X.K):=by
 intro pins s σ H x v vl vu lo hi sl Q I rx hs pl pu h;obtain⟨a,xs,rfl,hx,hw,q⟩:=h;cases rx;obtain⟨its,r,ht,hz⟩:=I.tuple hx;have hlen:its.toArray.size=xs.length:=by rw[Vb];exact r.length.symm
 refine⟨"tuple",_,Av.lookup,ht.typeIs,?_⟩;refine HT.getItem_tuple_cut ht hs pl pu (by rw[hlen];exact hw) ?_ (by rw[hlen];exact hz)
 rw[hlen];refine⟨.ref s.heap.objs.size,_,I.laid (t':=s.toks) (o:=.tup (um xs lo hi)) (fun b ob q=>Ac _ q) (Va _) ?_,rfl,q _ (I.hok.fresh (Va _))⟩;exact⟨Yd (nZ xs lo hi) hz,_,(r.drop (HT.sIx xs.length 0 lo)).take (HT.sIx xs.length xs.length hi-HT.sIx xs.length 0 lo),IsTup.new _ _⟩
def EA(K:Ab):R2:=fun x y H Q=>∃a b xs ys,x=.ref a/\y=.ref b/\SqT K H a xs/\SqT K H b ys/\xs≠[]/\xs.length+ys.length<=sizeLine /\
 (ys=[]->Q (.ref a) H)/\(ys≠[]->∀p,H p=none->Q (.ref p) (upd H p (.tup (xs++ys))))
theorem Vals.nil_iff(r:Vals xs us):us=[]↔xs=[]:=by
 cases r with
 | nil=>simp
 | cons _ _=>simp
def H0:OpR X (binaryOp .Add) (EA X.K):=by
 intro pins s σ H x y v u Q I rx ry h;obtain⟨a,b,xs,ys,rfl,rfl,ha,hb,hx,hz,q1,q2⟩:=h;cases rx;cases ry;obtain⟨its,r1,p1,_⟩:=I.tuple ha;obtain⟨its2,r2,p2,_⟩:=I.tuple hb;refine HT.cat_tup p1 p2 (fun z=>hx (r1.nil_iff.mp z)) (fun z=>⟨.ref a,H,I,rfl,q1 (r2.nil_iff.mp z)⟩) (fun z=>?_) (by rw[← r1.length,← r2.length];exact hz)
 refine⟨.ref s.heap.objs.size,_,I.laid (t':=s.toks) (o:=.tup (xs++ys)) (fun b ob q=>Ac _ q) (Va _) ?_,rfl,q2 (fun w=>z (r2.nil_iff.mpr w)) _ (I.hok.fresh (Va _))⟩;exact⟨by rw[Xa];exact hz,_,r1.append r2,IsTup.new _ _⟩
end
end L2
namespace L2
open PySem PySem.Spec PyProof.Rows
def ixN(n:Nat)(i:Int):Option Nat:=if 0<=i then(if i<n then some i.toNat else none) else if -(n:Int)<=i then some (i+n).toNat else none
def atI{α:Type}(xs:List α)(i:Int):Option α:=(ixN xs.length i).bind fun j=>xs[j]?
def xA(h:ixN n i=some j):seqIndex? i n=some j/\j<n/\-(n:Int)<=i/\i<n:=by
 unfold ixN at h;by_cases h0:0<=i
 ·rw[Ag h0]at h;by_cases h1:i<n
  ·rw[Ag h1]at h;have e:i.toNat=j:=Option.some.inj h;exact⟨by rw[seqIndex_of h0 h1,e],by lia,by lia,h1⟩
  ·rw[Ak h1]at h;cases h
 ·rw[Ak h0]at h;by_cases h1:-(n:Int)<=i
  ·rw[Ag h1]at h;have e:(i+n).toNat=j:=Option.some.inj h;exact⟨by rw[seqIndex_neg (by lia) h1,e],by lia,h1,by lia⟩
  ·rw[Ak h1]at h;cases h
theorem rY{xs:List α}(h:atI xs i=some v):∃j,seqIndex? i xs.length=some j/\xs[j]?=some v/\j<xs.length/\-(xs.length:Int)<=i/\i<xs.length:=by
 unfold atI at h;cases e:ixN xs.length i with
 | none=>rw[e]at h;cases h
 | some j =>
  rw[e]at h;obtain⟨h1,h2,h3,h4⟩:=xA e;exact⟨j,h1,h,h2,h3,h4⟩
def kA{α:Type}{xs:List α}{j:Nat}{v:α}(h:xs[j]?=some v):atI xs (j:Int)=some v:=by
 have hj:j<xs.length:=(Wc.mp h).1;have e:ixN xs.length (j:Int)=some j:=by
  unfold ixN;rw[Ag (by lia),Ag (by lia)];simp
 unfold atI;rw[e];exact h
def xB(b:Expr):Prop:=∀o i,subscripted b false o i=operate [o,i] (getItem o i)
def IxR(X:Cx)(r:R2):Prop :=
 ∀(value slice:Expr)(pins:List (Addr×Obj))(s:Shared)(σ:St)(H:Hp)(x y:V)(v u:Value)(Q:VK),Inv X pins σ H s->RelV x v->RelV y u->r x y H Q ->
  subscripted slice false v u=operate [v,u] (getItem v u)->wpAny (model X.prog X.w) X.A (subscriptTail value slice v u) (EP X pins σ Q) X.xe s
def MtR(X:Cx)(id:String)(r:V->List V->Hp->VK->Prop):Prop :=
 ∀(pins:List (Addr×Obj))(s:Shared)(σ:St)(H:Hp)(x:V)(xs:List V)(v:Value)(us:List Value)(Q:VK),Inv X pins σ H s->RelV x v->Vals xs us->r x xs H Q ->
  wpAny (model X.prog X.w) X.A (call (.builtin id) (v::us)) (EP X pins σ Q) X.xe s
section
variable {X:Cx}{a b:Expr}{ta tb:TE}{pos:Pos}
def IxR.or(h:IxR X r)(h':IxR X r'):IxR X (fun x y H Q=>r x y H Q∨r' x y H Q):=by
 intro value slice pins s σ H x y v u Q I rx ry q hs;rcases q with q|q
 ·exact h value slice pins s σ H x y v u Q I rx ry q hs
 ·exact h' value slice pins s σ H x y v u Q I rx ry q hs
def NJ(hr:IxR X r)(ha:PE X a ta)(hb:PE X b tb)(hs:xB b):PE X (.Subscript a b pos) (tOp r ta tb):=by
 intro pins s σ H Q I h;exact Cw (K7 ha hb I h fun v u s2 x y H2 I2 rx ry q=>hr a b pins s2 σ H2 x y v u Q I2 rx ry q (hs _ _))
def Lm(K:Ab):R2:=fun x y H Q=>∃p xs i v,x=.ref p/\y=.int i/\SqL K H p xs/\atI xs i=some v/\Q v H
def Ln(K:Ab):R2:=fun x y H Q=>∃p xs i v,x=.ref p/\y=.int i/\SqT K H p xs/\atI xs i=some v/\Q v H
def Lo:R2:=fun x y H Q=>∃z i c,x=.str z/\y=.int i/\z.length<=sizeLine/\atI z.cps.toList i=some c/\Q (.str ⟨#[c]⟩) H
def ix_list:IxR X (Lm X.K):=by
 intro value slice pins s σ H x y v u Q I rx ry h hs;obtain⟨p,xs,i,z,rfl,rfl,hq,he,q⟩:=h;cases rx;obtain⟨t,rfl⟩:=ry;obtain⟨its,r,pl,hz⟩:=I.list hq;obtain⟨j,h1,h2,h3,h4,h5⟩:=rY he;obtain⟨w,ew,rw'⟩:=r.get h2;have hl:=r.length;have hn:=lg;have fin:EP X pins σ Q w s:=⟨z,H,I,rw',q⟩;by_cases h0:0<=i
 ·have hj:i.toNat=j:=by
   rw[seqIndex_of h0 h5]at h1;exact Option.some.inj h1
  exact item_listR pl.isList h0 (by lia) (by rw[hj];simpa using ew) fin hs
 ·have hj:(i+(its.toArray.size:Int)).toNat=j:=by
   rw[seqIndex_neg (by lia) h4]at h1
   rw[Vb,← hl];exact Option.some.inj h1
  exact subscriptTail_builtinR (x:=w) pl.isList.typeIs slot_list_getitem.lookup
   (wpAny_getItem_list_neg (Q:=fun r s'=>r=w/\EP X pins σ Q r s') pl.isList (by lia) (by rw[Vb]<;>lia) (by lia) (by rw[hj];simpa using ew) ⟨rfl,fin⟩) hs
def ix_tup:IxR X (Ln X.K):=by
 intro value slice pins s σ H x y v u Q I rx ry h hs;obtain⟨p,xs,i,z,rfl,rfl,hq,he,q⟩:=h;cases rx;obtain⟨t,rfl⟩:=ry;obtain⟨its,r,pl,hz⟩:=I.tuple hq;obtain⟨j,h1,h2,h3,h4,h5⟩:=rY he;obtain⟨w,ew,rw'⟩:=r.get h2;have hl:=r.length;have hn:=lg;have fin:EP X pins σ Q w s:=⟨z,H,I,rw',q⟩;exact subscriptTail_builtinR (x:=w) pl.typeIs slot_tuple_getitem.lookup
  (getItem_tuple (j:=j) (Q:=fun r s'=>r=w/\EP X pins σ Q r s') pl (by lia) (by lia) (by rw[Vb,← hl];exact h1) (by simpa using ew) ⟨rfl,fin⟩) hs
def ix_str:IxR X Lo:=by
 intro value slice pins s σ H x y v u Q I rx ry h hs;obtain⟨z,i,c,rfl,rfl,hz,he,q⟩:=h;obtain⟨t,rfl⟩:=rx;obtain⟨t',rfl⟩:=ry;obtain⟨j,h1,h2,h3,h4,h5⟩:=rY he;have hl:z.cps.toList.length=z.length:=by simp[Str.length]
 rw[hl]at h1 h4 h5;have hn:=lg
 exact tail_any (C9 s z t) slot_str_getitem.lookup (getItem_str (c:=c) (by
  have e1:decide (i < -(2 ^ 63:Int))=false:=Ae (by lia)
  have e2:decide (i ≥ 2 ^ 63)=false:=Ae (by lia)
  rw[e1,e2,Bool.or_false]) (by rw[h1];simpa using h2) ⟨.str ⟨#[c]⟩,H,I.tok _,⟨_,rfl⟩,q⟩) hs
def rIx(K:Ab):R2:=fun x y H Q=>Lm K x y H Q∨Ln K x y H Q∨Lo x y H Q
def Lp:IxR X (rIx X.K):=ix_list.or (ix_tup.or ix_str)
def v8(its:List Value)(n j:Nat)(u:Value):Obj.mapSeq (·.setIfInBounds j u) { cls:=.type "list",data:=.seq its.toArray n }={ cls:=.type "list",data:=.seq (its.set j u).toArray n }:=by
 simp[Obj.mapSeq]
theorem Inv.lst{s:Shared}(I:Inv X pins σ H s)(h:H p=some (.lst xs)) :
  ∃(its:List Value)(n:Nat),Vals xs its/\s.heap.get? p=some { cls:=.type "list",data:=.seq its.toArray n }/\xs.length<=sizeLine:=by
 obtain⟨z,its,n,r,e⟩:=I.hok p _ h;exact⟨its,n,r,e,z⟩
def Inv.lstUpd{s:Shared}{xs ys:List V}{its its':List Value}(I:Inv X pins σ H s)(h:H p=some (.lst xs))
  (ho:s.heap.get? p=some { cls:=.type "list",data:=.seq its.toArray n })(hf:f { cls:=.type "list",data:=.seq its.toArray n }={ cls:=.type "list",data:=.seq its'.toArray n' })(r:Vals ys its')(hz:ys.length<=sizeLine)(t:Nat) :
  Inv X pins σ (upd H p (.lst ys)) { s with heap:=s.heap.update p f,toks:=t }:=by
 have e:(s.heap.update p f).get? p=some { cls:=.type "list",data:=.seq its'.toArray n' }:=by
  rw[B7 f ho (by rw[hf]<;>rfl),hf]
 refine I.write (x:=p) (e:=p) (by rw[h];trivial) (.inl rfl) (fun b u hb q=>(BY _ _ (AN hb)).trans q) ⟨_,e⟩ ?_
 exact⟨hz,its',n',r,e⟩
def J1:V->V->V->Hp->(Hp->Prop)->Prop:=fun o i v H Q=>∃p xs k j,o=.ref p/\i=.int k/\H p=some (.lst xs)/\ixN xs.length k=some j/\Q (upd H p (.lst (xs.set j v)))
def set_list:K2 X J1:=by
 intro pins s σ H o i v ov iv u Q I ro ri rv h;obtain⟨p,xs,k,j,rfl,rfl,hp,hj,q⟩:=h;cases ro;obtain⟨t,rfl⟩:=ri;obtain⟨its,n,r,ho,hz⟩:=I.lst hp;obtain⟨h1,h2,h3,h4⟩:=xA hj;have hl:=r.length;have hn:=lg;have I':Inv X pins σ (upd H p (.lst (xs.set j v))) { s with heap:=s.heap.update p (Obj.mapSeq (·.setIfInBounds j u)) } :=
  I.lstUpd hp ho (v8 its n j u) (r.set rv j) (by rw[List.length_set];exact hz) s.toks
 by_cases h0:0<=k
 ·have hk:k.toNat=j:=by
   rw[seqIndex_of h0 h4]at h1;exact Option.some.inj h1
  exact PySem.W.ki_setAt ho h0 (by lia) (by rw[Vb,← hl];exact h4) (by rw[hk];exact⟨_,I',q⟩)
 ·have hk:(k+(its.toArray.size:Int)).toNat=j:=by
   rw[seqIndex_neg (by lia) h3]at h1
   rw[Vb,← hl];exact Option.some.inj h1
  exact PySem.W.ki_setBack ho (by lia) (by rw[Vb,← hl];exact h3) (by lia) (by rw[hk];exact⟨_,I',q⟩)
def EB(i:Int)(n:Nat):max 0 (min (if i<0 then i+(n:Int) else i) (n:Int))=(((if i<0 then(i+(n:Int)).toNat else min i.toNat n):Nat):Int):=by
 by_cases h:i<0
 ·rw[Ag h,Ag h,Int.min_eq_left (by lia),Int.max_comm];exact(Int.ofNat_toNat _).symm
 ·rw[Ak h,Ak h,HT.clip_nat i n h];exact Int.max_eq_right (CC _)
def rZ(lo hi:Option Int)(n:Nat):(sliceBounds lo hi none n).1=((HT.sIx n 0 lo:Nat):Int)/\(sliceBounds lo hi none n).2.1=((HT.sIx n n hi:Nat):Int)/\(sliceBounds lo hi none n).2.2=1:=by
 refine⟨?_,?_,rfl⟩
 ·cases lo with
  | none=>simp[sliceBounds,HT.sIx]
  | some i=>exact EB i n
 ·cases hi with
  | none=>simp[sliceBounds,HT.sIx]
  | some i=>exact EB i n
def qA(its:List Value)(lo hi:Option Int):slicePick its.toArray lo hi none=((its.drop (HT.sIx its.length 0 lo)).take (HT.sIx its.length its.length hi-HT.sIx its.length 0 lo)).toArray:=by
 obtain⟨h1,h2,h3⟩:=rZ lo hi its.toArray.size;unfold slicePick;rw[h1,h2,h3];simp only[sliceRange_one,pick_run,Vb]<;>rfl
def Lq(K:Ab):V->Option Int->Option Int->Hp->VK->Prop:=fun x lo hi H Q=>∃a xs,x=.ref a/\SqL K H a xs/\∀p,H p=none->Q (.ref p) (upd H p (.lst (um xs lo hi)))
def H9:SlR X (Lq X.K):=by
 intro pins s σ H x v vl vu lo hi sl Q I rx hs pl pu h;obtain⟨a,xs,rfl,hx,q⟩:=h;cases rx;obtain⟨its,r,ht,hz⟩:=I.list hx;have hlen:=r.length;refine⟨"list",_,slot_list_getitem.lookup,ht.isList.typeIs,?_⟩;refine wpAny_getItem_list_slice ht.isList hs pl pu .none (by simp) ?_ (by rw[Vb]<;>lia)
 rw[qA,← hlen];refine⟨.ref s.heap.objs.size,_,I.laid (t':=s.toks) (o:=.lst (um xs lo hi)) (fun b ob q=>Ac _ q) (Va _) ?_,rfl,q _ (I.hok.fresh (Va _))⟩;exact⟨Yd (nZ xs lo hi) hz,_,0,(r.drop (HT.sIx xs.length 0 lo)).take (HT.sIx xs.length xs.length hi-HT.sIx xs.length 0 lo),Ai _ rfl⟩
def kU:V->Bool
 | .non=>true
 | .bl _=>true
 | .int _=>true
 | .str _=>true
 | _=>false
def eqV:V->V->Bool
 | .non,.non=>true
 | .bl a,.bl b=>a == b
 | .bl a,.int b=>(if a then 1 else 0) == b
 | .int a,.bl b=>a == (if b then 1 else 0)
 | .int a,.int b=>a == b
 | .str a,.str b=>a == b
 | _,_=>false
theorem Lr(ry:RelV y u)(rx:RelV x v)(fy:kU y=true)(fx:kU x=true):SeqAt.EqAt A s u v (eqV y x):=by
 cases y with
 | non =>
  cases ry;cases x with
  | non=>cases rx;exact SeqAt.EqAt.same _
  | bl b=>cases rx;exact SeqAt.EqAt.none_bool b
  | int b=>obtain⟨t,rfl⟩:=rx;exact SeqAt.EqAt.none_int b t
  | str b=>obtain⟨t,rfl⟩:=rx;exact SeqAt.EqAt.none_str b t
  | _=>exact absurd (show false=true from fx) Qd
 | bl a =>
  cases ry;cases x with
  | non=>cases rx;exact SeqAt.EqAt.bool_none a
  | bl b=>cases rx;exact SeqAt.EqAt.bool_bool a b
  | int b=>obtain⟨t,rfl⟩:=rx;exact SeqAt.EqAt.bool_int a b t
  | str b=>obtain⟨t,rfl⟩:=rx;exact SeqAt.EqAt.bool_str a b t
  | _=>exact absurd (show false=true from fx) Qd
 | int a =>
  obtain⟨t',rfl⟩:=ry;cases x with
  | non=>cases rx;exact SeqAt.EqAt.int_none a t'
  | bl b=>cases rx;exact SeqAt.EqAt.int_bool a t' b
  | int b=>obtain⟨t,rfl⟩:=rx;exact SeqAt.EqAt.int_int a t' b t
  | str b=>obtain⟨t,rfl⟩:=rx;exact Cz a t' b t
  | _=>exact absurd (show false=true from fx) Qd
 | str a =>
  obtain⟨t',rfl⟩:=ry;cases x with
  | non=>cases rx;exact SeqAt.EqAt.str_none a t'
  | bl b=>cases rx;exact SeqAt.EqAt.str_bool a t' b
  | int b=>obtain⟨t,rfl⟩:=rx;exact Cy a t' b t
  | str b=>obtain⟨t,rfl⟩:=rx;exact SeqAt.EqAt.str_str a t' b t
  | _=>exact absurd (show false=true from fx) Qd
 | _=>exact absurd (show false=true from fy) Qd
def eqU(x:V)(u:Value):Bool:=match u with
 | .none=>eqV .non x
 | .bool b=>eqV (.bl b) x
 | .int i _=>eqV (.int i) x
 | .str z _=>eqV (.str z) x
 | _=>false
theorem EC(r:RelV y u)(f:kU y=true):eqU x u=eqV y x:=by
 cases y with
 | non=>cases r;rfl
 | bl b=>cases r;rfl
 | int i=>obtain⟨t,rfl⟩:=r;rfl
 | str z=>obtain⟨t,rfl⟩:=r;rfl
 | _=>exact absurd (show false=true from f) Qd
theorem mw:∀{xs:List V}{us:List Value},Vals xs us->xs.all kU=true->us.any (eqU x)=xs.any fun y=>eqV y x
 | _,_,.nil,_=>rfl
 | y::xs,u::us,.cons r t,f=>by
  rw[BO,Vh]at f;rw[Bs,Bs,EC r f.1,mw t f.2]
theorem jH(rx:RelV x v)(fx:kU x=true):∀{xs:List V}{us:List Value},Vals xs us->xs.all kU=true->∀u∈us,SeqAt.EqAt A s u v (eqU x u)
 | _,_,.nil,_=>fun u hu=>by cases hu
 | y::xs,u::us,.cons r t,f=>fun u' hu=>by
  rw[BO,Vh]at f;rcases Vd.mp hu with rfl|hu
  ·rw[EC r f.1];exact Lr r rx f.1 fx
  ·exact jH rx fx t f.2 u' hu
def inV(x:V)(xs:List V):Bool:=xs.any fun y=>eqV y x
def rIn(K:Ab)(neg:Bool):R2:=fun x y H Q=>∃p xs,y=.ref p/\(SqL K H p xs∨SqT K H p xs)/\kU x=true/\xs.all kU=true/\Q (.bl (if neg then !inV x xs else inV x xs)) H
def zo:OpR X (compareOp .In) (rIn X.K false):=by
 intro pins s σ H x y v u Q I rx ry h;obtain⟨p,xs,rfl,hq,fx,fs,q⟩:=h;cases ry;rcases hq with hq|hq
 ·obtain⟨its,r,pl,hz⟩:=I.list hq;refine SeqAt.in_listAt (eqU x) pl.isList (fun w hw=>jH rx fx r fs w (by simpa using hw)) ⟨.bl _,H,I,rfl,?_⟩
  rw[show its.toArray.any (eqU x)=its.any (eqU x) by simp,mw r fs]
  exact q
 ·obtain⟨its,r,pl,hz⟩:=I.tuple hq;refine CW (eqU x) pl (fun w hw=>jH rx fx r fs w (by simpa using hw)) ⟨.bl _,H,I,rfl,?_⟩
  rw[show its.toArray.any (eqU x)=its.any (eqU x) by simp,mw r fs]
  exact q
def se:OpR X (compareOp .NotIn) (rIn X.K true):=by
 intro pins s σ H x y v u Q I rx ry h;obtain⟨p,xs,rfl,hq,fx,fs,q⟩:=h;cases ry;rcases hq with hq|hq
 ·obtain⟨its,r,pl,hz⟩:=I.list hq;refine SeqAt.notIn_listAt (eqU x) pl.isList (fun w hw=>jH rx fx r fs w (by simpa using hw)) ⟨.bl _,H,I,rfl,?_⟩
  rw[show its.toArray.any (eqU x)=its.any (eqU x) by simp,mw r fs]
  exact q
 ·obtain⟨its,r,pl,hz⟩:=I.tuple hq;refine SeqAt.notIn_tupleAt (eqU x) pl (fun w hw=>jH rx fx r fs w (by simpa using hw)) ⟨.bl _,H,I,rfl,?_⟩
  rw[show its.toArray.any (eqU x)=its.any (eqU x) by simp,mw r fs]
  exact q
def sh:CallR X (.builtin "len") (fun xs H Q=>∃p ys,xs=[.ref p]/\(SqL X.K H p ys∨SqT X.K H p ys)/\Q (.int ys.length) H):=by
 intro pins s σ H xs us Q I r h;obtain⟨p,ys,rfl,hq,q⟩:=h;obtain⟨u,rfl,rx⟩:=vals1 r;cases rx;have hn:=lg;rcases hq with hq|hq
 ·obtain⟨its,r',pl,hz⟩:=I.list hq;have hlen:=r'.length;exact Calls.call_len_list pl.isList (by simp only[Vb]<;>lia) ⟨.int ys.length,H,I.tok _,⟨s.toks+1,by rw[Vb,hlen]⟩,q⟩
 ·obtain⟨its,r',pl,hz⟩:=I.tuple hq;have hlen:=r'.length;exact len_tuple pl (by simp only[Vb]<;>lia) ⟨.int ys.length,H,I.tok _,⟨s.toks+1,by rw[Vb,hlen]⟩,q⟩
def si:CallR X (.builtin "len") (fun xs H Q=>∃z,xs=[.str z]/\z.length<=sizeLine/\Q (.int z.length) H):=by
 intro pins s σ H xs us Q I r h;obtain⟨z,rfl,hz,q⟩:=h;obtain⟨u,rfl,t,rfl⟩:=vals1 r;have hn:=lg;exact len_str (by lia) ⟨.int z.length,H,I.tok _,⟨_,rfl⟩,q⟩
def CallR.or(h:CallR X f r)(h':CallR X f r'):CallR X f (fun xs H Q=>r xs H Q∨r' xs H Q):=by
 intro pins s σ H xs us Q I rs q;rcases q with q|q
 ·exact h pins s σ H xs us Q I rs q
 ·exact h' pins s σ H xs us Q I rs q
def sk:CallR X (.type "list") (fun xs H Q=>∃p ys,xs=[.ref p]/\(SqL X.K H p ys∨SqT X.K H p ys)/\∀l,H l=none->Q (.ref l) (upd H l (.lst ys))):=by
 intro pins s σ H xs us Q I r h;obtain⟨p,ys,rfl,hq,q⟩:=h;obtain⟨u,rfl,rx⟩:=vals1 r;cases rx;have fin:∀(its:List Value),Vals ys its->ys.length<=sizeLine->∀(h':Heap)(c':Nat),(∀b o',s.heap.get? b=some o'->h'.get? b=some o') ->
   h'.get? s.heap.objs.size=some { cls:=.type "list",dict:=none,data:=.seq its.toArray c',slots:=#[] }->EP X pins σ Q (.ref s.heap.objs.size) { s with heap:=h' }:=fun its r' hz h' c' kp e =>
  ⟨.ref s.heap.objs.size,_,I.laid (t':=s.toks) kp (Va _) (show ObjOk X.prog X.w _ h' _ (.lst ys) from⟨hz,its,c',r',e⟩),rfl,q _ (I.hok.fresh (Va _))⟩
 rcases hq with hq|hq
 ·obtain⟨its,r',pl,hz⟩:=I.list hq;have hlen:=r'.length;obtain⟨o,ho,hc,n,hd⟩:=pl.isList;exact call_list_seq p (.inl rfl) ho hc hd (fun h' c' kp e=>fin its r' hz h' c' kp e) (by simp only[Vb]<;>lia)
 ·obtain⟨its,r',pl,hz⟩:=I.tuple hq;have hlen:=r'.length;obtain⟨o,ho,hc,n,hd⟩:=pl;exact call_list_seq p (.inr rfl) ho hc hd (fun h' c' kp e=>fin its r' hz h' c' kp e) (by simp only[Vb]<;>lia)
def qB:CallR X (.type "tuple") (fun xs H Q=>∃p ys,xs=[.ref p]/\((SqL X.K H p ys/\∀l,H l=none->Q (.ref l) (upd H l (.tup ys)))∨(SqT X.K H p ys/\Q (.ref p) H))):=by
 intro pins s σ H xs us Q I r h;obtain⟨p,ys,rfl,h⟩:=h;obtain⟨u,rfl,rx⟩:=vals1 r;cases rx;rcases h with⟨hq,q⟩|⟨hq,q⟩
 ·obtain⟨its,r',pl,hz⟩:=I.list hq;have hlen:=r'.length;refine call_tuple_list pl.isList (fun h' kp=>?_) (by simp only[Vb]<;>lia)
  have I1:Inv X pins σ H { s with heap:=h' }:=I.kept (t':=s.toks) kp;have I2:Inv X pins σ (upd H h'.objs.size (.tup ys)) { s with heap:=h'.push { cls:=.type "tuple",data:=.seq its.toArray } } :=
   I1.laid (t':=s.toks) (fun b o e=>Ac _ e) (Va _) (show ObjOk X.prog X.w _ _ _ (.tup ys) from⟨hz,its,r',IsTup.new _ _⟩)
  exact⟨.ref h'.objs.size,_,I2,rfl,q _ (I1.hok.fresh (Va _))⟩
 ·obtain⟨its,r',pl,hz⟩:=I.tuple hq;exact call_tuple_same pl ⟨.ref p,H,I,rfl,q⟩
def tyV(K:Ab)(T:String)(x:V)(H:Hp):Prop:=match x with
 | .str _=>T="str"
 | .int _=>T="int"
 | .ref p=>(T="list"/\∃xs,SqL K H p xs)∨(T="tuple"/\∃o,K.lookup p=some o/\o.cls=.type "tuple"/\o.dict=none) ∨
   (T="dict"/\((∃kvs,H p=some (.dK kvs))∨∃ep kvs,H p=some (.dT ep kvs)))∨(T="set"/\∃S n,H p=some (.set S n))
 | _=>False
def Ls{s:Shared}(I:Inv X pins σ H s)(r:RelV x v)(ty:tyV X.K T x H) :
  s.TypeIs v T/\∀a,v=.ref a->∃ob,s.heap.get? a=some ob/\ob.dict=none:=by
 cases x with
 | str z =>
  obtain⟨t,rfl⟩:=r;cases (show T="str" from ty);exact⟨C9 s z t,fun _ e=>nomatch e⟩
 | int i =>
  obtain⟨t,rfl⟩:=r;cases (show T="int" from ty);exact⟨typeIs_int s i t,fun _ e=>nomatch e⟩
 | ref p =>
  cases r;rcases ty with⟨rfl,xs,hq⟩|⟨rfl,o,hk,hc,hd⟩|⟨rfl,hk⟩|⟨rfl,S,n,hk⟩
  ·obtain⟨its,_,pl,_⟩:=I.list hq;refine⟨pl.isList.typeIs,fun a e=>?_⟩;cases e;obtain⟨o,n,e,c,hd,_⟩:=pl;exact⟨o,e,hd⟩
  ·refine⟨⟨o,I.kIn p o hk,hc⟩,fun a e=>?_⟩;cases e;exact⟨o,I.kIn _ o hk,hd⟩
  ·have z:∃o,s.heap.get? p=some o/\o.ExactDict:=by
    rcases hk with⟨kvs,hk⟩|⟨ep,kvs,hk⟩
    ·obtain⟨_,_,_,_,o,_,_,e,ex,_⟩:=I.hok p _ hk;exact⟨o,e,ex⟩
    ·obtain⟨_,_,_,_,_,o,_,e,ex,_⟩:=I.hok p _ hk;exact⟨o,e,ex⟩
   obtain⟨o,e,ex⟩:=z;refine⟨⟨o,e,ex.1⟩,fun a e2=>?_⟩;cases e2;exact⟨o,e,ex.2.1⟩
  ·obtain⟨o,_,_,_,e,ex,_⟩:=I.hok p _ hk;refine⟨⟨o,e,ex.1⟩,fun a e2=>?_⟩;cases e2;exact⟨o,e,ex.2.1⟩
 | _=>exact False.elim ty
def tBM(K:Ab)(T:String)(r:V->List V->Hp->VK->Prop)(to:TE)(t:TA):TE:=fun σ H Q=>to σ H fun x H1=>tyV K T x H1/\t σ H1 fun xs H2=>r x xs H2 Q
variable {o e:Expr}{es:List Expr}{to:TE}{t:TA}{name:Str}{apos cpos:Pos}{T id:String}{r:V->List V->Hp->VK->Prop}
def kW(pa:PlainAttrs T)(slot:Slot T name id)(hty:typeOf (.builtin id)=pure (.type "method_descriptor"))(hm:MtR X id r)(ho:PE X o to)(ha:PA X (e::es) t)
  (hbase:attributeBase o name X.env (eval o X.env)=eval o X.env:=by rfl)
  (hfew:((backTo cpos (starEach (e::es) X.env)).all (fun x=>!x.1)&&(backToKw cpos (keywordEach [] X.env)).all (fun x=>x.1.isSome)
   && decide ((e::es).length+([]:List Keyword).length+(if ([]:List Keyword).isEmpty then 0 else 1)<30))=true:=by rfl)
  (hline:(apos.endLine == cpos.line)=true:=by rfl) (hs:starEach (e::es) X.env=(false,eval e X.env)::starEach es X.env:=by rfl) (hplain:(backTo cpos (starEach es X.env)).any (·.1)=false:=by rfl) :
  PE X (.Call (.Attribute o name apos) (e::es) [] cpos) (tBM X.K T r to t):=by
 intro pins s σ H Q I h;refine wpAny_Call_method_late hbase hfew hline rfl (thn (ho pins s σ H _ I h) fun v s1 zz9=>?_);obtain⟨x,H1,I1,r1,ty,q1⟩:=zz9;obtain⟨h1,h2⟩:=Ls I1 r1 ty;refine⟨T,id,pa,slot,hty,h1,h2,?_⟩;have hA:=ha cpos pins s1 σ H1 _ I1 q1;rw[hs]at hA ⊢;refine Calls.callWith_builtin (by show(false||(backTo cpos (starEach es X.env)).any (·.1))=false;rw[hplain]<;>rfl) (Calls.evalArgs_plain ?_)
 exact thn hA fun us s2 ⟨vs,H2,I2,r2,q2⟩=>hm pins s2 σ H2 x vs v us Q I2 r1 r2 q2
end
end L2
namespace L2
open PySem PySem.Spec PyProof.Rows
def MtM(X:Cx)(id:String)(r:V->List V->Hp->VK->Prop):Prop :=
 ∀(pins:List (Addr×Obj))(s:Shared)(σ:St)(H:Hp)(x:V)(xs:List V)(v:Value)(us:List Value)(Q:VK),Inv X pins σ H s->RelV x v->Vals xs us->r x xs H Q ->
  wpAny (model X.prog X.w) X.A (call (.builtin id) (v::us)) (EP X pins σ Q) X.xe s
theorem Vals.one:∀{x:V}{us:List Value},Vals [x] us->∃u,us=[u]/\RelV x u
 | _,_,.cons r .nil=>⟨_,rfl,r⟩
theorem Vals.eraseIdx:∀{xs:List V}{us:List Value}(i:Nat),Vals xs us->Vals (xs.eraseIdx i) (us.eraseIdx i)
 | _,_,_,.nil=>.nil
 | _,_,0,.cons _ t=>t
 | _,_,i+1,.cons r t=>.cons r (Vals.eraseIdx i t)
theorem Vals.reverse{xs:List V}{us:List Value}(h:Vals xs us):Vals xs.reverse us.reverse:=by
 induction h with
 | nil=>exact .nil
 | cons r t ih=>rw[AO,AO];exact Vals.append ih (.cons r .nil)
theorem qR:∀(l:List α)(i:Nat),(l.eraseIdx i).length<=l.length
 | [],_=>Va _
 | _::_,0=>Nat.le_succ _
 | _::r,i+1=>CY (qR r i)
section
variable {X:Cx}{pins:List (Addr×Obj)}{σ:St}{H:Hp}{s:Shared}{l b:Addr}{xs ys zs:List V}
def Inv.lset{its its':List Value}{t':Nat}(I:Inv X pins σ H s)(hH:H l=some (.lst xs))
  (e:s.heap.get? l=some { cls:=.type "list",data:=.seq its.toArray n })(hf:f its.toArray=its'.toArray)(hv:Vals ys its')(hz:ys.length<=sizeLine) :
  Inv X pins σ (upd H l (.lst ys)) { s with heap:=s.heap.update l (Obj.mapSeq f),toks:=t' }:=by
 have q:=PySem.IsL.update e f;rw[hf]at q;refine I.write (x:=l) (e:=l) (by rw[hH];exact trivial) (.inl rfl) (fun b' u hb hu=>(BY s.heap (Obj.mapSeq f) (AN hb)).trans hu) ⟨_,q⟩ ?_
 exact⟨hz,its',_,hv,q⟩
def Inv.lnew{t':Nat}(I:Inv X pins σ H s)(hv:Vals ys its)(hz:ys.length<=sizeLine) :
  Inv X pins σ (upd H s.heap.objs.size (.lst ys)) { s with heap:=s.heap.push { cls:=.type "list",data:=.seq its.toArray },toks:=t' } :=
 I.laid (fun _ _ q=>Ac _ q) (Va _) ⟨hz,its,0,hv,Ai _ rfl⟩
theorem Inv.fresh(I:Inv X pins σ H s):H s.heap.objs.size=none:=I.hok.fresh (Va _)
def Inv.lstM(I:Inv X pins σ H s)(hH:H l=some (.lst xs)):xs.length<=sizeLine/\∃(its:List Value)(n:Nat),Vals xs its/\xs.length=its.length/\s.heap.get? l=some { cls:=.type "list",data:=.seq its.toArray n }:=by
 obtain⟨z,its,n,r,e⟩:=I.hok l _ hH;exact⟨z,its,n,r,r.length,e⟩
def uo(h:n<=sizeLine):Builtin.List.listTooLong n=false:=by
 unfold Builtin.List.listTooLong;exact Ae (by lia)
end
section
variable {X:Cx}
def sn:V->List V->Hp->VK->Prop:=fun x vs H Q=>∃l xs y,x=.ref l/\vs=[y]/\H l=some (.lst xs)/\xs.length<sizeLine/\Q .non (upd H l (.lst (xs++[y])))
def zp:MtM X "list.append" sn:=by
 intro pins s σ H x vs v us Q I rx rv h;obtain⟨l,xs,y,rfl,rfl,hH,hz,q⟩:=h;cases rx;obtain⟨u,rfl,ru⟩:=rv.one;obtain⟨z,its,n,r,hl,e⟩:=I.lstM hH;refine Ct F.slot_list_append ⟨_,e,rfl⟩ F.entry_list_append (F.args_list_append_2 _ _) (PySem.list_append l its.toArray n u (by rw[Vb];lia)) ⟨e,?_⟩
 refine⟨.non,_,I.lset (its':=its++[u]) hH e (by simp) (r.append (.cons ru .nil)) ?_,rfl,q⟩
 rw[Xa,Bk];lia
def xC:V->List V->Hp->VK->Prop:=fun x vs H Q=>∃l b xs zs,x=.ref l/\vs=[.ref b]/\H l=some (.lst xs)/\H b=some (.lst zs)/\xs.length+zs.length<=sizeLine/\Q .non (upd H l (.lst (xs++zs)))
def zq:MtM X "list.extend" xC:=by
 intro pins s σ H x vs v us Q I rx rv h;obtain⟨l,b,xs,zs,rfl,rfl,hH,hB,hz,q⟩:=h;cases rx;obtain⟨u,rfl,ru⟩:=rv.one;cases ru;obtain⟨z,its,n,r,hl,e⟩:=I.lstM hH;obtain⟨z2,its2,n2,r2,hl2,e2⟩:=I.lstM hB;have hsz:its.toArray.size+its2.toArray.size<=sizeLine:=by rw[Vb,Vb];lia
 have hlong:¬ (!its.toArray.isEmpty&&Builtin.List.listTooLong (its.toArray.size+its2.toArray.size))=true:=by
  rw[uo hsz,Di];exact Qd
 refine Ct F.slot_list_extend ⟨_,e,rfl⟩ F.entry_list_extend (F.args_list_extend_2 _ _)
  (AutoSeq1.list_extend_list_list_0 l its.toArray n b its2.toArray n2 hlong (by rw[Vb];lia) (by lia)) ⟨e,e2,?_⟩
 refine⟨.non,_,I.lset (its':=its++its2) hH e (by simp) (r.append r2) ?_,rfl,q⟩
 rw[Xa];lia
def ED:V->List V->Hp->VK->Prop:=fun x vs H Q=>∃l xs i k y,x=.ref l/\vs=[.int i]/\H l=some (.lst xs)/\-(2 ^ 63)<=i/\i<2 ^ 63/\seqIndex? i xs.length=some k/\xs[k]?=some y/\Q y (upd H l (.lst (xs.eraseIdx k)))
def pj:MtM X "list.pop" ED:=by
 intro pins s σ H x vs v us Q I rx rv h;obtain⟨l,xs,i,k,y,rfl,rfl,hH,h1,h2,hk,hy,q⟩:=h;cases rx;obtain⟨u,rfl,ru⟩:=rv.one;obtain⟨t,rfl⟩:=ru;obtain⟨z,its,n,r,hl,e⟩:=I.lstM hH;obtain⟨w,hw,rw'⟩:=r.get hy;refine Ct F.slot_list_pop ⟨_,e,rfl⟩ F.entry_list_pop (F.args_list_pop_2 _ _)
  (MeetsSeq.list_pop_at l its.toArray n i t k w (fitsIndex_both h1 h2) (by rw[Vb,← hl];exact hk) (by rw[← Vk];exact hw) (by rw[Vb];lia)) ⟨e,?_⟩
 refine⟨y,_,I.lset (its':=its.eraseIdx k) hH e ?_ (r.eraseIdx k) ?_,rw',q⟩
 ·show its.toArray.eraseIdxIfInBounds k=(its.eraseIdx k).toArray;rw[List.eraseIdxIfInBounds_toArray]
 ·have:=qR xs k;lia
def Lu:R2:=fun x y H Q=>∃l b xs zs,x=.ref l/\y=.ref b/\H l=some (.lst xs)/\H b=some (.lst zs)/\xs.length+zs.length<=sizeLine/\∀p,H p=none->Q (.ref p) (upd H p (.lst (xs++zs)))
def op_cat:OpR X (binaryOp .Add) Lu:=by
 intro pins s σ H x y v u Q I rx ry h;obtain⟨l,b,xs,zs,rfl,rfl,hH,hB,hz,q⟩:=h;cases rx;cases ry;obtain⟨z,its,n,r,hl,e⟩:=I.lstM hH;obtain⟨z2,its2,n2,r2,hl2,e2⟩:=I.lstM hB;refine PySem.P.add_list e e2 ?_ (by rw[Vb,Vb];lia)
 have ea:its.toArray++its2.toArray=(its++its2).toArray:=by simp
 rw[ea];exact⟨.ref _,_,I.lnew (t':=s.toks) (r.append r2) (by rw[Xa];lia),rfl,q _ I.fresh⟩
end
end L2
namespace Att
open PySem PySem.W PySem.Calls PyProof.Rows
theorem om:∀(ns:List Int)(vs:List Value),WellAll P h vs (ns.map WData.int)->IntsAre vs ns:=by
 intro ns;induction ns with
 | nil =>
  intro vs w;rw[Xi]at w;cases w;exact .nil
 | cons n ns ih =>
  intro vs w;rw[We]at w;cases w with
  | cons a b =>
   cases a;exact .cons _ _ (ih _ b)
def zr{l:OpenLaw}(hn:l.most=some n){h:Heap}
  (hpre:l.row.toRowW.claim.pre args=true)(hwl:WellAll P h vals args) :
  ∃a vs ns,vals=[Value.ref a]/\args=[WData.list (ns.map WData.int)]/\h.get? a=some { cls:=.type "list",data:=.seq vs.toArray }/\IntsAre vs ns/\ns.length<=n:=by
 have hsh:WShape.hasAll [] args [.list .int]=true:=(pre_splitW hpre).1;have hc:l.pre.holds [] { args:=args }=true:=(pre_splitW hpre).2;obtain⟨d,r,rfl,h1,h2⟩:=hasAllW_cons hsh;obtain rfl:=hasAllW_nil h2;obtain⟨xs,rfl,h3⟩:=hasW_list h1;obtain⟨ns,rfl⟩:=items_int h3;have hlen:ns.length<=n:=by
  unfold OpenLaw.pre at hc;have h4:(WTm.not (.lt (.lit (.int (n:Int))) (.len (.arg 0)))).holds [] { args:=[.list (ns.map .int)] }=true:=by
   have h4:=(holds_andW hc).1;rw[hn]at h4;exact h4
  have h5:=condW_of h4 (w_not (w_lt w_lit (w_len_list (w_arg rfl))));rw[Za]at h5;refine BQ fun q=>?_;have q':(n:Int)<((ns.length:Nat):Int):=by lia
  first
   | (rw[Af q']at h5;exact absurd h5 (by decide))
   | (simp at h5;lia)
 cases hwl with
 | cons w1 w2 =>
  cases w2;cases w1 with
  | list ho hall=>exact⟨_,_,ns,rfl,rfl,ho,om ns _ hall,hlen⟩
def zt(l:OpenLaw)(args:List WData):l.row.toRowW.claim.post args (.bool true) args=true :=
 postW_of (r:=l.row.toRowW) (X:=(true == true))
  (show WShape.has [] (.bool true) .bool=true by first|rfl|decide|simp[WShape.has,WShape.arms,WShape.armsAll])
  (show(WTm.eq .res (.lit (.bool true))).value [] { args:=args,res:=some (.bool true),after:=args }=some (.bool (true == true)) from w_eq_bool (w_res rfl) w_lit) rfl
def attach_call{l:OpenLaw}{d:DefRec}
  (hn:l.most=some n)(hdf:d.params.defaults=[])
  (call:∀(w:World)(s₀ s₁:Shared)(mg mb:Str->Option Value)(fa:Addr)(o:Obj)(pm cd doc:Value)(a:Addr)(vs:List Value)(ns:List Int),
   Ground q loose [] XP w s₀ mg mb s₁.heap->YP w s₁.heap ->
   s₁.heap.get? fa=some o->o.data=.func (docDef d.name d.params d.body d.scope pm cd doc)->s₁.heap.CodeRec cd d.name->mg d.name=some (.ref fa) ->
   s₁.heap.get? a=some { cls:=.type "list",data:=.seq vs.toArray }->IntsAre vs ns->ns.length<=n->s₁.gens=#[] ->
   codeAny (model l.prog w) callerA (.call (.ref fa) ⟨[.ref a],[]⟩) (fun r s'=>r=.ok (.ret (.bool true))/\OldK s₁.heap s'.heap/\s'.os=s₁.os/\AllBare s'.gens) s₁) :
  WalkO q loose XP YP l.row.toRowW d [] (fun f vs=>PySem.call f vs):=by
 intro w s₀ s₁ mg mb G Y fa o pm cd doc dV kV ho hd hcd hD hmg hg args vals as hpre hlay hrd hwl hlo;obtain rfl:dV=.none:=Dflts.none hD hdf;obtain rfl:kV=.none:=Dflts.noKw hD;obtain⟨a,vs,ns,rfl,rfl,hobj,hints,hlen⟩:=zr hn hpre hwl;refine enter_call (codeAny_mono (call w s₀ s₁ mg mb fa o pm cd doc a vs ns G Y ho (fd_plain hd) hcd hmg hobj hints hlen hg) fun r s' hq=>?_);obtain⟨rfl,h2,h3,h4⟩:=hq;exact⟨.inl ⟨.bool true,.bool true,[],rfl,fun _=>rfl,.bool true,zt l _,fun _=>⟨List.Pairwise.nil,fun _ hm=>(nomatch hm)⟩⟩,h2,h3,h4⟩
end Att
namespace L2
open PySem PySem.Spec PyProof.Rows
theorem qS:∀{vs:List Value}{ns:List Int},IntsAre vs ns->Vals (ns.map V.int) vs
 | _,_,.nil=>.nil
 | _,_,.cons n t h=>.cons ⟨t,rfl⟩ (qS h)
def Lx(H:Hp):Prop:=∀b,H b=none∨∃o xs,H b=some (.frz o (.lst xs))
def EE{K:Ab}{s₁:Shared}{vs:List Value}{ns:List Int}
  (KX:K.In s₁.heap)(hns:s₁.heap.Ns mainGlobals mg)(hb:s₁.heap.Ns builtinsNs mb)(hbb:∀x:Str,x≠"__name__"->mb x=bootBuiltins x)(hlim:s₁.heap.NoLimit)(hg:s₁.gens=#[])
  (ha:s₁.heap.get? a=some { cls:=.type "list",data:=.seq vs.toArray }) (hi:IntsAre vs ns) (hl:ns.length<=sizeLine) (hr:Room k callerA)
  (F:∀base:Heap,K.In base->base.Ns mainGlobals mg->FnOk P w K mg base CX k fa fd [x] sp) (hbind:∀(s:Shared)(u:Value),BindsTo s fd ⟨[u],[]⟩ [(x,u)])
  (hsp:∀H:Hp,Lx H->SqL K H a (ns.map V.int)->sp [.ref a] H (fun v _=>v=.bl true) fun _ _ _=>False)
  (hCX:∀H e s',CX [] H s₁ (fun _ _ _=>False) e s'->False) :
  codeAny (model P w) callerA (.call (.ref fa) ⟨[.ref a],[]⟩) (fun r s'=>r=.ok (.ret (.bool true))/\OldK s₁.heap s'.heap/\s'.os=s₁.os/\AllBare s'.gens) s₁:=by
 have rv:=qS hi;have LR:=hi.length;have core:∀H:Hp,Lx H->SqL K H a (ns.map V.int)->HOk P w H s₁.heap->(∀b,H b≠none->b=a)->(H a≠none->K.lookup a=none) ->
   codeAny (model P w) callerA (.call (.ref fa) ⟨[.ref a],[]⟩) (fun r s'=>r=.ok (.ret (.bool true))/\OldK s₁.heap s'.heap/\s'.os=s₁.os/\AllBare s'.gens) s₁:=by
  intro H hO hS hok hA hK;have base_of:∀{b:Addr}{o:Obj},s₁.heap.get? b=some o->H b=none->(rT s₁.heap H).get? b=some o:=fun e n=>Eb e n;have noA:∀{b:Addr}{o:Obj}{es:Array DictEntry}{ep:Nat},s₁.heap.get? b=some o->o.data=.dict es ep->H b=none:=fun {b o es ep} e d=>by
   cases q:H b with
   | none=>rfl
   | some u =>
    have e':b=a:=hA b (by rw[q];simp)
    subst e';rw[ha]at e;cases e;have d':Data.seq vs.toArray _=Data.dict es ep:=d;cases d'
  have nsK:∀{b:Addr}{m:Str->Option Value},s₁.heap.Ns b m->(rT s₁.heap H).Ns b m:=fun {b m} ⟨o,es,ep,e,d,r⟩=>⟨o,es,ep,base_of e (noA e d),d,r⟩
  have hKb:K.In (rT s₁.heap H):=fun b o e=>base_of (KX b o e) (by
   cases q:H b with
   | none=>rfl
   | some u =>
    have e':b=a:=hA b (by rw[q];simp)
    subst e'
    rw[hK (by rw[q];simp)]at e;cases e)
  have hM:Mod K mg (rT s₁.heap H):=⟨hKb,nsK hns,⟨mb,nsK hb,hbb⟩,let ⟨mc,h1,h2⟩:=hlim;⟨mc,nsK h1,h2⟩⟩;have e0:Env0 P w K mg (rT s₁.heap H) callerA [] s₁ H:=⟨rfl,hM,fun b o e=>HR e,Nat.le_of_eq (ze _ _),trivial,fun b hb=>absurd (show b∈([]:List Addr) from hb) (by simp),hok,.of_eq hg⟩
  refine codeAny_mono ((F _ hKb (nsK hns)).run callerA [] s₁ H ⟨[.ref a],[]⟩ [.ref a] [.ref a] _ _ hr e0 (hbind s₁ (.ref a)) (.cons rfl .nil) (hsp H hO hS)) fun r s' h=>?_;cases r with
  | error e=>exact(hCX H e s' h).elim
  | ok fl =>
   cases fl with
   | next=>exact False.elim h
   | brk=>exact False.elim h
   | cont=>exact False.elim h
   | ret u =>
    obtain⟨v,H',os,bare,un,hok',r',q⟩:=h;have q':v=.bl true:=q;subst q';obtain rfl:u=Value.bool true:=r';refine⟨rfl,OldK.of_keep fun b o e=>?_,os,bare⟩;cases q:H b with
    | none=>exact un.keep b o e q (by intro z;exact absurd (show b∈([]:List Addr) from z) (by simp)) (by simp)
    | some u =>
     rcases hO b with z|⟨ob,xs,z⟩
     ·rw[q]at z;cases z
     ·have z2:=un.frzs b ob _ z;obtain⟨e1,_⟩:=hok b _ z;obtain⟨e2,_⟩:=hok' b _ z2;rw[e]at e1;cases e1;exact e2
 cases hk:K.lookup a with
 | some o =>
  have e:=KX a o hk;rw[ha]at e;cases e;refine core (fun _=>none) (fun _=>.inl rfl) (.inr ⟨_,vs.toArray,_,hk,rfl,rfl,rfl,by rw[Vb,LR];exact hl,by simpa using rv⟩) (fun b u z=>by have z':(none:Option HO)=some u:=z;cases z') (fun b z=>absurd rfl z) fun z=>absurd rfl z
 | none =>
  refine core (fun b=>if b=a then some (.frz { cls:=.type "list",data:=.seq vs.toArray } (.lst (ns.map V.int))) else none) (fun b=>?_) (.inl (.inr ⟨{ cls:=.type "list",data:=.seq vs.toArray },Ag rfl⟩)) (fun b u z=>?_) (fun b z=>?_) fun _=>hk
  ·by_cases hb:b=a
   ·exact .inr ⟨_,_,Ag hb⟩
   ·exact .inl (Ak hb)
  ·by_cases hb:b=a
   ·have z':=(Ag hb).symm.trans z;cases z';subst hb;exact⟨ha,by rw[Za];exact hl,vs,_,rv,ha⟩
   ·have z':=(Ak hb).symm.trans z;cases z'
  ·by_cases hb:b=a
   ·exact hb
   ·exact absurd (Ak hb) z
def walk_of{l:PySem.W.OpenLaw}{n k:Nat}{loose:List Str}{XP:(Str->Option Value)->Heap->Prop}{YP:World->Heap->Prop}{d:DefRec}{K:Params->Ab}{CX:World->CXT}{sp:World->Sp}{x:Str}
  (hn:l.most=some n)(hn2:n<=sizeLine)(hdf:d.params.defaults=[])(hr:Room k callerA)
  (hY:∀(w:World)(h:Heap),YP w h->(K w.params).In h)
  (F:∀(w:World)(mg:Str->Option Value)(fa:Addr)(h:Heap),(K w.params).In h->h.Ns mainGlobals mg->mg d.name=some (.ref fa) ->
   ∃fd:FuncData,(∀(s:Shared)(u:Value),BindsTo s fd ⟨[u],[]⟩ [(x,u)]) /\
    ∀base:Heap,(K w.params).In base->base.Ns mainGlobals mg->FnOk l.prog w (K w.params) mg base (CX w) k fa fd [x] (sp w))
  (hsp:∀(w:World)(H:Hp)(a:Addr)(ns:List Int),ns.length<=n->Lx H->SqL (K w.params) H a (ns.map V.int)->sp w [.ref a] H (fun v _=>v=.bl true) fun _ _ _=>False)
  (hCX:∀(w:World)(H:Hp)(s:Shared)(e:Value)(s':Shared),CX w [] H s (fun _ _ _=>False) e s'->False) :
  PySem.W.WalkO q loose XP YP l.row.toRowW d [] (fun f vs=>PySem.call f vs):=by
 refine Att.attach_call hn hdf fun w s₀ s₁ mg mb fa o pm cd doc a vs ns G Y ho hd hcd hmg hobj hints hlen hg=>?_;have KX:=hY w _ Y;obtain⟨fd,hb,hF⟩:=F w mg fa _ KX G.T.g hmg;exact EE KX G.T.g G.T.b G.T.builtins G.T.nolimit hg hobj hints (Yd hlen hn2) hr hF hb (fun H hO hS=>hsp w H a ns hlen hO hS) fun H e s'=>hCX w H s₁ e s'
end L2
namespace L2
open PySem PySem.Spec PyProof.Rows
def fI(s:Stmt):Arguments:=match s with
 | .FunctionDef _ a _ _ _ _ _ _ _ _=>a
 | _=>{ posonlyargs:=[],args:=[],vararg:=none,kwonlyargs:=[],kw_defaults:=[],kwarg:=none,defaults:=[] }
def dH(s:Stmt):List Stmt:=match s with
 | .FunctionDef _ _ b _ _ _ _ _ _ _=>b
 | _=>[]
def ak(s:Stmt):Scope:=match s with
 | .FunctionDef _ _ _ _ _ _ sc _ _ _=>sc
 | _=>{ kind:=.function,names:=[],isGenerator:=false,isCoroutine:=false }
abbrev CX0:CXT:=fun _ _ _ _ _ _=>False
abbrev E0:XK:=fun _ _ _=>False
def J2:v5 CX0 X E0:=fun _ _ _ _ _ _ _ h=>h.elim
structure Fun(K:Ab)(x qual:Str)(st:Stmt)(f:Addr)(fd:FuncData):Prop where
 ex:∃(oc:Value)(od:Option Addr)(kV doc pm:Value)(an:Option Addr)(cdv ct:Value)(osl:Array (Option Value)),
  fd=PySem.W.fnOf x qual (fI st) (dH st) (ak st) .none kV doc pm an cdv ct/\K.lookup f=some ⟨oc,od,.func fd,osl⟩/\PySem.W.codeIn K cdv qual=true
 kp:PySem.W.keepIn K (.ref f)=true
section
variable {P:Program}{w:World}{K:Ab}{mg:Str->Option Value}{base:Heap}
def Fun.ok{x qual:Str}{st:Stmt}{f:Addr}{fd:FuncData}{N ps:List Str}{k:Nat}{sp:Sp}(F:Fun K x qual st f fd)(S:FnScope N ps (ak st))(len:∀vs H Q E,sp vs H Q E->vs.length=ps.length)
  (hbody:∀(cdv:Value)(A:Around)(outer:List Env)(s:Shared)(H:Hp)(vs:List V)(Q:VK)(E:XK),Room k (A.deeper (envOfC qual (ak st) s.heap.objs.size f cdv))->sp vs H Q E ->
   ∃t,PSs (ud CX0 P w K mg base N qual (ak st) f cdv A outer s H E).nox (dH st) t/\t { nx:=fun _ H'=>Q .non H',rt:=Q } (start N vs) H):FnOk P w K mg base CX0 (k+1) f fd ps sp:=by
 obtain⟨oc,od,kV,doc,pm,an,cdv,ct,osl,rfl,lk,hcd⟩:=F.ex;refine JW lk hcd S len fun A outer s H vs Q E hr hsp=>?_;obtain⟨t,h,q⟩:=hbody cdv A outer s H vs Q E hr hsp;exact⟨t,h.nox,q⟩
def Fun.binds{x qual:Str}{st:Stmt}{f:Addr}{fd:FuncData}{ps:List Str}(F:Fun K x qual st f fd)
  (h:∀(kV doc pm:Value)(an:Option Addr)(cdv ct:Value)(us:List Value),us.length=ps.length->bindArgs (PySem.W.fnOf x qual (fI st) (dH st) (ak st) .none kV doc pm an cdv ct) ⟨us,[]⟩=pure (ps.zip us)):Binds K fd ps []:=by
 obtain⟨oc,od,kV,doc,pm,an,cdv,ct,osl,rfl,lk,hcd⟩:=F.ex;exact .all (h kV doc pm an cdv ct)
def Ly{x qual:Str}{st:Stmt}{f:Addr}{oc:Value}{od an:Option Addr}{osl:Array (Option Value)}{kV doc pm cdv ct:Value}(l:K.lookup f=some ⟨oc,od,.func (PySem.W.fnOf x qual (fI st) (dH st) (ak st) .none kV doc pm an cdv ct),osl⟩)
  (c:PySem.W.codeIn K cdv qual=true)(k:PySem.W.keepIn K (.ref f)=true):Fun K x qual st f (PySem.W.fnOf x qual (fI st) (dH st) (ak st) .none kV doc pm an cdv ct):=⟨⟨oc,od,kV,doc,pm,an,cdv,ct,osl,rfl,l,c⟩,k⟩
end
def EF{A:Around}(hr:Room k A):A.units+1<cLine:=AI (Zj (by decide:1<=64) _) hr.units
def zu(h:n<=1000):n<sizeLine:=AI h (by decide)
section
variable {X:Cx}
def pv(i:Nat)(hN:X.N[i]?=some x:=by rfl)(hv:Vis X.env.scope x:=by first|exact Or.inl rfl|exact Or.inr (Or.inl rfl)|exact Or.inr (Or.inr rfl))(hd:(x == ("__debug__":Str))=false:=by decide)
  (hcd:(x == ("__classdict__":Str))=false:=by decide):PE X (.Name x pos) (vV i):=KZ hN hv hd hcd
end
def Same(H H':Hp):Prop:=∀b o,H b=some o->H' b=some o
def Same.refl(H:Hp):Same H H:=fun _ _ h=>h
end L2
namespace L2
open PySem PySem.Spec PyProof.Rows
def cA(env:Env):List (Str×NameKind)->List (Str×Addr)->List (Str×Addr)
 | [],acc=>acc
 | (n,k)::r,acc=>if k=.free then cA env r ((n,(env.cells.lookup n).getD 0)::acc) else cA env r acc
theorem iW{env:Env}{f:Str×NameKind->List (Str×Addr)->Sem (ForInStep (List (Str×Addr)))}
  (h1:∀n k cs c,k=NameKind.free->env.cells.lookup n=some c->f (n,k) cs=pure (.yield ((n,c)::cs)))
  (h2:∀n k cs,k≠NameKind.free->f (n,k) cs=pure (.yield cs)) :
  ∀(names:List (Str×NameKind))(acc:List (Str×Addr)),(∀x∈names,x.2=.free->∃c,env.cells.lookup x.1=some c)->forIn names acc f=pure (cA env names acc)
 | [],_,_=>rfl
 | (n,k)::r,acc,h=>by
  have hr:∀x∈r,x.2=.free->∃c,env.cells.lookup x.1=some c:=fun x hx=>h x (Xb _ hx);by_cases hk:k=.free
  ·obtain⟨c,hc⟩:=h (n,k) Qa hk;have e:cA env ((n,k)::r) acc=cA env r ((n,c)::acc):=by
    show(if k=.free then _ else _)=_;rw[Ag hk];have hc':env.cells.lookup n=some c:=hc;rw[hc'];rfl
   rw[B3,h1 n k acc c hk hc,pure_bind,e];exact iW h1 h2 r _ hr
  ·have e:cA env ((n,k)::r) acc=cA env r acc:=by
    show(if k=.free then _ else _)=_;rw[Ak hk]
   rw[B3,h2 n k acc hk,pure_bind,e];exact iW h1 h2 r _ hr
def mx{scope:Scope}{env:Env}(h:∀x∈scope.names,x.2=.free->∃c,env.cells.lookup x.1=some c):closureFor scope env=pure (cA env scope.names []):=by
 simp only[closureFor];have key:=fun f h1 h2=>iW (env:=env) (f:=f) h1 h2 scope.names [] h
 rw[key _ (fun n k cs c hk hc=>by subst hk;simp[cellOf,hc]) (fun n k cs hk=>by
  have:(k == NameKind.free)=false:=by simpa using hk
  simp only[this,Xf,if_false])]
 rfl
def cU{α β:Type}[BEq α]{x n:α}{k:β}{r:List (α×β)}:List.lookup x ((n,k)::r)=if (x == n)=true then some k else List.lookup x r:=by
 rw[List.lookup_cons];cases x == n<;>rfl
theorem im{env:Env}{x:Str}{c:Addr}:∀(names:List (Str×NameKind))(acc:List (Str×Addr)),(∀x∈names,x.2=.free->∃c,env.cells.lookup x.1=some c) ->
  (∀y c,acc.lookup y=some c->env.cells.lookup y=some c)->(cA env names acc).lookup x=some c->env.cells.lookup x=some c
 | [],acc,_,ha,e=>ha x c e
 | (n,k)::r,acc,h,ha,e=>by
  have hr:∀x∈r,x.2=.free->∃c,env.cells.lookup x.1=some c:=fun x hx=>h x (Xb _ hx);by_cases hk:k=.free
  ·obtain⟨c',hc⟩:=h (n,k) Qa hk;have hc':env.cells.lookup n=some c':=hc;have q:cA env ((n,k)::r) acc=cA env r ((n,c')::acc):=by
    show(if k=.free then _ else _)=_;rw[Ag hk,hc'];rfl
   rw[q]at e;refine im r _ hr (fun y d hy=>?_) e;rw[cU]at hy;by_cases hyn:(y == n)=true
   ·rw[Ag hyn]at hy;have:y=n:=by simpa using hyn
    rw[this,hc',hy]
   ·rw[Ak hyn]at hy;exact ha y d hy
  ·have q:cA env ((n,k)::r) acc=cA env r acc:=by
    show(if k=.free then _ else _)=_;rw[Ak hk]
   rw[q]at e;exact im r _ hr ha e
theorem lh{env:Env}{x:Str}{c:Addr}(hx:env.cells.lookup x=some c):∀(names:List (Str×NameKind))(acc:List (Str×Addr)),(acc.lookup x=some c∨(x,NameKind.free)∈names)->(cA env names acc).lookup x=some c
 | [],acc,h=>by
  rcases h with h|h
  ·exact h
  ·cases h
 | (n,k)::r,acc,h=>by
  by_cases hk:k=.free
  ·have q:cA env ((n,k)::r) acc=cA env r ((n,(env.cells.lookup n).getD 0)::acc):=by
    show(if k=.free then _ else _)=_;rw[Ag hk]
   rw[q];refine lh hx r _ ?_;by_cases hxn:(x == n)=true
   ·left;have e:x=n:=by simpa using hxn
    rw[cU,Ag hxn,← e,hx];rfl
   ·rcases h with h|h
    ·left;rw[cU,Ak hxn];exact h
    ·right;rcases Vd.mp h with h|h
     ·cases h;exact absurd (by simp) hxn
     ·exact h
  ·have q:cA env ((n,k)::r) acc=cA env r acc:=by
    show(if k=.free then _ else _)=_;rw[Ak hk]
   rw[q];refine lh hx r _ ?_;rcases h with h|h
   ·exact .inl h
   ·rcases Vd.mp h with h|h
    ·cases h;exact absurd rfl hk
    ·exact .inr h
theorem eQ{env:Env}{x:Str}:∀(names:List (Str×NameKind)),
  ((names.map fun(n,k)=>if (k == NameKind.free&&env.scope.kind == .function&&env.kindOf n == some .cell) then(n,NameKind.cell) else(n,k)).lookup x=none/\names.lookup x=none) ∨
  ∃k k',names.lookup x=some k/\(names.map fun(n,k)=>if (k == NameKind.free&&env.scope.kind == .function&&env.kindOf n == some .cell) then(n,NameKind.cell) else(n,k)).lookup x=some k'/\(k'=k∨(k=.free/\k'=.cell))
 | []=>.inl ⟨rfl,rfl⟩
 | (n,k)::r=>by
  have ih:=@eQ env x r;show(List.lookup x ((if (k == NameKind.free&&env.scope.kind == .function&&env.kindOf n == some .cell)=true then(n,NameKind.cell) else(n,k))::_)=none/\_)∨∃k' k'',_/\List.lookup x ((if (k == NameKind.free&&env.scope.kind == .function&&env.kindOf n == some .cell)=true then(n,NameKind.cell) else(n,k))::_)=_/\_;by_cases hc:(k == NameKind.free&&env.scope.kind == .function&&env.kindOf n == some .cell)=true
  ·rw[Ag hc,cU,cU];have hk:k=.free:=by
    simp only[Vh]at hc;simpa using hc.1.1
   by_cases hx:(x == n)=true
   ·rw[Ag hx,Ag hx];exact .inr ⟨k,.cell,rfl,rfl,.inr ⟨hk,rfl⟩⟩
   ·rw[Ak hx,Ak hx];exact ih
  ·rw[Ak hc,cU,cU];by_cases hx:(x == n)=true
   ·rw[Ag hx,Ag hx];exact .inr ⟨k,k,rfl,rfl,.inl rfl⟩
   ·rw[Ak hx,Ak hx];exact ih
abbrev cxC(X:Cx)(N:List Str)(scope:Scope)(C:Addr)(s:Shared)(H:Hp)(fp:List Addr):Cx :=
 { X with N:=N,s₀:=s,H₀:=H,env:=compEnvC scope (cA X.env scope.names []) C X.env,outer:=X.stack,stack:=X.stack,ex:=fp,fn:=fun _=>false,pn:=[],xe:=fun _ _=>False }
structure BlkScope(X:Cx)(N:List Str)(k:Nat)(caps:List Nat)(scope:Scope):Prop where
 kind:scope.kind=.function
 nocell:∀y∈scope.names,y.2≠.cell
 loc:∀y∈scope.names,y.2=.local->scope.names.lookup y.1=some .local
 free:∀y∈scope.names,y.2=.free->(X.env.kindOf y.1=some .cell∨X.env.kindOf y.1=some .free)
 len:N.length=k+caps.length
 cap:∀(j i:Nat),caps[j]?=some i->∃x,N[k+j]?=some x/\X.N[i]?=some x/\scope.names.lookup x=some .free
def blk(k:Nat)(caps:List Nat)(σ:St):St:=List.replicate k none++caps.map fun i=>(σ[i]?).getD none
section
variable {X:Cx}{N:List Str}{k:Nat}{caps:List Nat}{scope:Scope}
theorem BlkScope.cells(S:BlkScope X N k caps scope)(ok:X.Ok):∀x∈scope.names,x.2=.free->∃c,X.env.cells.lookup x.1=some c:=fun x hx hk=>ok.has x.1 (S.free x hx hk)
def BlkScope.sub(S:BlkScope X N k caps scope)(ok:X.Ok)(e:(cA X.env scope.names []).lookup x=some c):X.env.cells.lookup x=some c :=
 im _ _ (S.cells ok) (fun y c h=>by cases h) e
def BlkScope.has(S:BlkScope X N k caps scope)(ok:X.Ok)(h:scope.names.lookup x=some .free):∃c,X.env.cells.lookup x=some c/\(cA X.env scope.names []).lookup x=some c:=by
 have hm:=Az h;obtain⟨c,hc⟩:=S.cells ok _ hm rfl;exact⟨c,hc,lh hc _ _ (.inr hm)⟩
def xD(σ:St):(blk k caps σ).length=k+caps.length:=by unfold blk;simp
def xE(h:(blk k caps σ)[i]?=some (some v)):∃j i',i=k+j/\caps[j]?=some i'/\σ[i']?=some (some v):=by grind [blk]
def Lz{s:Shared}(S:BlkScope X N k caps scope)(I:Inv X pins σ H s)(hf:∀b∈fp,ol X pins H b)(hlt:∀b∈fp,b<s.heap.objs.size)(hC:s.heap.objs.size<=C) :
  (cxC X N scope C s H fp).Ok:=by
 have nfs:∀b∈fp,b∉frs X.stack:=fun b hb z=>by
  rcases Vd.mp (I.stkSub b z) with e|e
  ·exact(hf b hb).2.1 e
  ·exact(hf b hb).2.2.1 e
 refine⟨I.ok.mod,S.kind,I.ok.glob,I.ok.blt,hC,fun x y c h1 h2=>I.ok.inj x y c (S.sub I.ok h1) (S.sub I.ok h2),fun x hx=>?_,fun x c h=>(by cases h),I.ok.hd,I.ok.frames,.inl rfl,fun b hb=>⟨?_,fun x c e=>?_⟩,I.bs,Yd I.ok.bsz I.sz,fun b o e hb=>?_,nfs,I.stack,I.stkFree⟩
 ·have hx':(relabel scope X.env).names.lookup x=some .cell∨(relabel scope X.env).names.lookup x=some .free:=hx;rcases eQ (env:=X.env) (x:=x) scope.names with⟨e,_⟩|⟨k1,k2,e1,e2,e3⟩
  ·rcases hx' with z|z<;>(have z':=e.symm.trans z;cases z')
  ·have hk2:k2=.cell∨k2=.free:=by
    rcases hx' with z|z
    ·exact .inl (Option.some.inj (e2.symm.trans z))
    ·exact .inr (Option.some.inj (e2.symm.trans z))
   have hfree:k1=.free:=by
    rcases e3 with z|⟨z,_⟩
    ·rcases hk2 with q|q
     ·exact absurd (z.symm.trans q) (S.nocell _ (Az e1))
     ·exact z.symm.trans q
    ·exact z
   rw[hfree]at e1;obtain⟨c,_,hc⟩:=S.has I.ok e1;exact⟨c,hc⟩
 ·exact Qh (Vc (hlt b hb) hC)
 ·exact(hf b hb).2.2.2.2.1 x c (S.sub I.ok e)
 ·rcases(hf b hb).2.2.2.1 with z|z
  ·exact I.ok.noex b o e z
  ·exact absurd (Vc (Aj (I.ok.bs b o e).1) z) (Xj _)
def Ia{s s3:Shared}(S:BlkScope X N k caps scope)(I:Inv X pins σ H s)(hf:∀b∈fp,ol X pins H b)(hlt:∀b∈fp,b<s.heap.objs.size)
  (hC:s.heap.objs.size<=C)(hos:s3.os=s.os)(hg:s3.gens=s.gens)(kp:∀b o,s.heap.get? b=some o->s3.heap.get? b=some o)(hn:s3.heap.Ns C m):Inv (cxC X N scope C s H fp) [] (blk k caps σ) H s3:=by
 refine⟨Lz S I hf hlt hC,hos,by rw[hg];exact I.bare,Un.kept kp,⟨m,hn,fun i x v e1 e2 e3=>?_⟩,fun x c e=>?_,I.hok.fresh hC,fun x c e=>I.freeC x c (S.sub I.ok e),fun p hp=>absurd hp (by simp),I.hok.kept kp,by rw[xD];exact S.len.symm⟩
 ·obtain⟨j,i',rfl,hc,hv⟩:=xE e2;obtain⟨y,h1,h2,h3⟩:=S.cap j i' hc;have exy:y=x:=Option.some.inj (h1.symm.trans e1);subst exy;obtain⟨c,hc1,hc2⟩:=S.has I.ok h3;obtain⟨m0,hn0,hl0⟩:=I.loc;have hkind:=S.free _ (Az h3) rfl;obtain⟨u,ru,lu⟩:=hl0 i' y v h2 hv (hkind.elim (fun z=>.inr (.inl z)) (fun z=>.inr (.inr z)));refine⟨u,ru,.inr ⟨?_,c,hc2,?_⟩⟩
  ·rcases eQ (env:=X.env) (x:=y) scope.names with⟨_,e⟩|⟨k1,k2,q1,q2,q3⟩
   ·rw[e]at h3;cases h3
   ·have hk1:k1=.free:=Option.some.inj (q1.symm.trans h3);rcases q3 with z|⟨_,z⟩
    ·right;show(relabel scope X.env).names.lookup y=_;exact q2.trans (by rw[z,hk1])
    ·left;show(relabel scope X.env).names.lookup y=_;exact q2.trans (by rw[z])
  ·rcases lu with⟨hk,_⟩|⟨_,c',hc',cell⟩
   ·rcases hkind with z|z<;>(have z':=hk.symm.trans z;cases z')
   ·have:c'=c:=Option.some.inj (hc'.symm.trans hc1);subst this;obtain⟨o,ho,hd⟩:=cell;exact⟨o,kp _ o ho,hd⟩
 ·obtain⟨v,o,ho,hd⟩:=I.cell x c (S.sub I.ok e);exact⟨v,o,kp _ o ho,hd⟩
end
def PIf(X:Cx)(ifs:List Expr)(t:TT):Prop :=
 ∀(pins:List (Addr×Obj))(s:Shared)(σ:St)(H:Hp)(Q:Bool->Hp->Prop),Inv X pins σ H s->t σ H Q ->
  wpAny (model X.prog X.w) X.A (forIn ifs true fun c r=>if r=true then do let ok ← isTrue c X.env (eval c X.env);pure (ForInStep.yield ok) else pure (ForInStep.yield r)) (TP X pins σ Q) X.xe s
def NK:TT:=fun _ H Q=>Q true H
def cy:PIf X [] NK:=fun _ _ _ H _ I h=>wpAny_tests_nil ⟨H,I,h⟩
def iX(h:PT X c t):PIf X [c] t:=fun pins s σ H Q I hw=>wpAny_tests_one (h pins s σ H Q I hw)
theorem jI(I:Nat->Shared->Prop)
  (turn:∀n s,I n s->wpAny (model prog w) A (pyNext it) (fun r s₁=>match r with
   | none=>R (.ok .next) s₁
   | some v=>wpAny (model prog w) A (letOwnedTupleGo target it v) (fun _ s₀=>wpAny (model prog w) A (assign target env v) (fun _ s₂ =>
     wpAny (model prog w) A (forIn ifs true fun c r=>if r=true then do let ok ← isTrue c env (eval c env);pure (ForInStep.yield ok) else pure (ForInStep.yield r)) (fun ok s₃ =>
      if ok=true then wpAny (model prog w) A (eval elt env) (fun x s₄ =>
       wpAny (model prog w) A (call (.builtin "list.append") [acc,x]) (fun _ s₅=>∃m,m<n/\I m s₅) (fun _ _=>False) s₄) (fun _ _=>False) s₃
      else ∃m,m<n/\I m s₃) (fun _ _=>False) s₂) (fun _ _=>False) s₀) (fun _ _=>False) s₁) (fun _ _=>False) s)
  (n:Nat) (h:I n s) :
  codeAny (model prog w) A (.compLoop (.ListComp elt [⟨target,iter,ifs,0⟩] scope pos) 0 it acc env) R s:=by
 refine codeAny_loop rfl I (fun n s hI=>?_) n h;show wpAny _ A ((compTurn (.ListComp elt [⟨target,iter,ifs,0⟩] scope pos) 0 it acc env).onRaise (fun x=>do noteFrame x env;theTreesLotGoes x)) _ _ s
 refine wpAny_noted ?_;rw[compTurn_list];refine Aa (wpAny_standAt (Aa (AB (turn n s hI) (fun r s₁ h₁=>?_) fun _ _ h'=>False.elim h')));cases r with
 | none=>exact Ad h₁
 | some v =>
  refine Aa (AB h₁ (fun _ s₀ h₀=>?_) fun _ _ h'=>False.elim h');refine Aa (AB h₀ (fun _ s₂ h₂=>Aa (AB h₂ (fun ok s₃ h₃=>?_) fun _ _ h'=>False.elim h')) fun _ _ h'=>False.elim h');cases ok with
  | false=>exact Ad ⟨rfl,h₃⟩
  | true =>
   exact Aa (Aa (AB h₃ (fun x s₄ h₄=>Aa (AB h₄ (fun _ s₅ h₅=>Ad (Ad ⟨rfl,h₅⟩)) fun _ _ h'=>False.elim h')) fun _ _ h'=>False.elim h'))
def qT(k:Nat)(caps:List Nat)(wi:TI)(g:TG)(tc:TT)(te:TE):TE:=fun σ H Q=>wi σ H fun J H1=>∃(n:Nat)(W:Nat->List V->Hp->Prop),W 0 [] H1 /\
 (∀xs H,W n xs H->J.stop n H/\∀p,H p=none->Q (.ref p) (upd H p (.lst xs))) /\
 ∀i xs H,i<n->W i xs H->J.go i H/\xs.length<sizeLine/\∀x H',J.yld i H x H'->g x (blk k caps σ) H' fun σ2 H2=>tc σ2 H2 fun ok H3 =>
  if ok=true then te σ2 H3 fun y H4=>σ2.drop k=(blk k caps σ).drop k/\W (i+1) (xs++[y]) H4
  else σ2.drop k=(blk k caps σ).drop k/\W (i+1) xs H3
abbrev fW(its:List Value)(n:Nat):Obj:={ cls:=.type "list",data:=.seq its.toArray n }
def Ka(X:Cx)(pins:List (Addr×Obj))(H:Hp)(C:Addr):Prop :=
 H C=none/\C≠X.env.locals/\(C∈X.ex∨X.s₀.heap.objs.size<=C)/\(∀x c,X.env.cells.lookup x=some c->c≠C)/\∀p∈X.pn++pins,p.1≠C
inductive CI(X':Cx)(A:Addr)(σ:St)(tn:Nat->Heap->Prop)(fp:List Addr)(n0:Nat)(W:Nat->List V->Hp->Prop)(n:Nat)(s':Shared):Prop
 | mk (i:Nat) (xs:List V) (its:List Value) (nn:Nat) (H':Hp) (J:Inv X' [(A,fW its nn)] σ H' s') (st:tn i s'.heap) (fr:∀b∈fp,H' b=none) (vs:Vals xs its) (hz:xs.length<=sizeLine) (hn:n=n0-i) (hi:i<=n0) (w:W i xs H')
def uq{X:Cx}
  (S:BlkScope X N k caps scope)(hc:X.calm=true)(hi:PI X tg iter wi)
  (hg:∀C s H fp,PG (cxC X N scope C s H fp) tg g) (ht:∀C s H fp,PIf (cxC X N scope C s H fp) ifs tc) (he:∀C s H fp,PE (cxC X N scope C s H fp) elt te)
  (hs:∀x,foldedSetIterable iter X.env x=pure x) (I:Inv X pins σ H s) (h:qT k caps wi g tc te σ H Q)
  (fin:∀(D C:Addr)(H4:Hp)(s4:Shared)(m:Str->Option Value),Inv X pins σ H4 s4->s4.heap.Ns C m->Ka X pins H4 C->Q (.ref D) H4->compPost (model X.prog X.w) X.A X.xe use Q' (.ref D) C (.ok .next) s4) :
  wpAny (model X.prog X.w) X.A (comprehension (.ListComp elt [⟨tg,iter,ifs,0⟩] scope pos) scope X.env cpos (newList []) false (eval iter X.env) use) Q' X.xe s:=by
 refine wpAny_comprehension_free rfl hs (mx (S.cells I.ok)) S.kind S.loc ?_;refine thn (hi pins s σ H _ I h) fun v s1 h1=>thn h1 fun itv s2 h2=>?_;obtain⟨it,fp,tn,J,H2,e,I2,T,st2,f2,n0,W,w0,wstop,turn⟩:=h2;subst e;refine Ao (wpAny_newFunctionEnv S.nocell (by intro y hy;simp at hy) (fun h₁ hns₁ hsb₁=>?_) S.kind)
 dsimp only at hns₁ hsb₁ ⊢;generalize hG:s2.heap.push { cls:=.type "list",dict:=none,data:=.seq ([]:List Value).toArray }=G at hns₁ hsb₁ ⊢;have hCG:G.objs.size=s2.heap.objs.size+1:=by rw[← hG,BH]
 have hDC:s2.heap.objs.size≠G.objs.size:=by lia
 have below:∀b,b<s2.heap.objs.size->b≠G.objs.size/\b≠s2.heap.objs.size:=fun b hb=>⟨by lia,by lia⟩
 have old:∀b o,s2.heap.get? b=some o->h₁.get? b=some o:=fun b o e=>hsb₁.extBut b o (below b (Aj e)).1 (Ac _ (hG ▸ Ac _ e));have hacc:h₁.get? s2.heap.objs.size=some (fW [] 0):=hsb₁.extBut _ _ hDC (Ac _ (hG ▸ Ai _ rfl));have hlt:∀b∈fp,b<s2.heap.objs.size:=fun b hb=>by obtain⟨o,ho,_⟩:=T.obj 0 _ st2 b hb;exact Aj ho
 have hDf:s2.heap.objs.size∉fp:=fun z=>Xj _ (hlt _ z);have hle:s2.heap.objs.size<=G.objs.size:=by lia
 have hDcell:∀x c,(cA X.env scope.names []).lookup x=some c->c≠s2.heap.objs.size:=fun x c e z=>by
  obtain⟨v,q⟩:=I2.cell x c (S.sub I2.ok e);exact absurd q.lt (by rw[z];exact Xj _)
 have hDfs:s2.heap.objs.size∉frs X.stack:=fun z=>by
  obtain⟨_,o,ho,_⟩:=I2.stack.mem z;exact absurd (Aj ho) (Xj _)
 have nfs:∀b∈fp,b∉frs X.stack:=fun b hb z=>by
  rcases Vd.mp (I2.stkSub b z) with e|e
  ·exact(f2 b hb).2.1 e
  ·exact(f2 b hb).2.2.1 e
 have fpk:∀{H':Hp}{its:List Value}{n:Nat},(∀b∈fp,H' b=none)->∀b∈fp,ol (cxC X N scope G.objs.size s2 H2 fp) [(s2.heap.objs.size,fW its n)] H' b:=fun {H' its n} hn b hb =>
  ⟨hn b hb,(below b (hlt b hb)).1,nfs b hb,.inl hb,fun x c e=>(f2 b hb).2.2.2.2.1 x c (S.sub I2.ok e),fun p hp=>by
   have e:p=(s2.heap.objs.size,fW its n):=by simpa using hp
   rw[e];exact AN (below b (hlt b hb)).2⟩
 have pinD:∀{H':Hp}{s':Shared}{σ':St}{its:List Value}{n:Nat},Inv (cxC X N scope G.objs.size s2 H2 fp) [] σ' H' s'->s'.heap.get? s2.heap.objs.size=some (fW its n)->H' s2.heap.objs.size=none->Inv (cxC X N scope G.objs.size s2 H2 fp) [(s2.heap.objs.size,fW its n)] σ' H' s':=fun {H' s' σ' its n} J e hn =>
  J.pins_of fun p hp=>by
   have q:p=(s2.heap.objs.size,fW its n):=by simpa using hp
   rw[q];exact⟨e,hn,hDC,hDfs,fun v z=>by cases z⟩
 have I3:Inv (cxC X N scope G.objs.size s2 H2 fp) [] (blk k caps σ) H2 { s2 with heap:=h₁,toks:=s2.toks+([]:List (Str×Value)).length }:=Ia S I2 f2 hlt hle rfl rfl old hns₁;have loop:codeAny (model X.prog X.w) X.A (.compLoop (.ListComp elt [⟨tg,iter,ifs,0⟩] scope pos) 0 (.ref it) (.ref s2.heap.objs.size) (compEnvC scope (cA X.env scope.names []) G.objs.size X.env))
   (compPost (model X.prog X.w) X.A X.xe use Q' (.ref s2.heap.objs.size) G.objs.size) { s2 with heap:=h₁,toks:=s2.toks+([]:List (Str×Value)).length }:=by
  refine jI (CI (cxC X N scope G.objs.size s2 H2 fp) s2.heap.objs.size (blk k caps σ) tn fp n0 W) ?_ n0
   ⟨0,[],[],0,H2,pinD I3 hacc (I2.hok.fresh (Va _)),T.keep _ _ _ st2 fun b _ o e=>old b o e,fun b hb=>(f2 b hb).1,.nil,Xl _,rfl,Xl _,w0⟩
  rintro n s3 ⟨i,xs,its,nn,H3,J3,st3,fr3,vs3,hz3,hn3,hi3,w3⟩;by_cases hin:i<n0
  rotate_left
  ·have ein:i=n0:=by lia
   subst ein;obtain⟨stop,qn⟩:=wstop xs H3 w3;refine thn (T.done (cxC X N scope G.objs.size s2 H2 fp) rfl rfl rfl hc i _ s3 _ H3 _ J3 (fpk fr3) st3 stop) fun r s4 zz9=>?_;obtain⟨hr,J4⟩:=zz9;subst hr;obtain⟨eD,nD,_⟩:=J4.pin (s2.heap.objs.size,fW its nn) (by simp)
   have eD:s4.heap.get? s2.heap.objs.size=some (fW its nn):=eD;have nD:H3 s2.heap.objs.size=none:=nD;obtain⟨m4,hm4,_⟩:=J4.loc;have U:Un (frs X.stack) fp H2 H3 s2.heap s4.heap:=J4.base;have neC:∀b o,s2.heap.get? b=some o->b≠G.objs.size:=fun b o e=>(below b (Aj e)).1;have neD:∀b o,s2.heap.get? b=some o->b≠s2.heap.objs.size:=fun b o e=>(below b (Aj e)).2;have H2D:H2 s2.heap.objs.size=none:=I2.hok.fresh (Va _);have HC:H3 G.objs.size=none:=J4.free;refine fin s2.heap.objs.size G.objs.size (upd H3 s2.heap.objs.size (.lst xs)) s4 m4 (I2.call' (s':=s4) (ch:=fp) J4.os ?_ ?_ J4.bare ?_) hm4 ?_ (qn _ nD)
   ·refine⟨fun b o e n hb hx=>U.keep b o e n hb hx,fun b o e n hb hx=>U.slot b o e n hb hx,fun b o e n hx=>?_,fun b o e hx=>U.there b o e hx,fun b ys e=>?_,fun b o u e=>?_,fun b ps e=>?_⟩
    ·rw[bj (neD b o e)];exact U.free b o e n hx
    ·rw[bj (bP e H2D)];exact U.tups b ys e
    ·rw[bj (bP e H2D)];exact U.frzs b o u e
    ·obtain⟨more,q⟩:=U.tbls b ps e;exact⟨more,by rw[bj (bP e H2D)];exact q⟩
   ·intro b u e;by_cases hb:b=s2.heap.objs.size
    ·subst hb;rw[bX]at e;cases e;exact⟨hz3,its,nn,vs3,eD⟩
    ·rw[bj hb]at e;exact(J4.hok b u e).stay (fun c v _ q=>q) (fun c q=>by rw[bj (bP q nD)];exact q) fun c ys q=>by rw[bj (bP q nD)];exact q
   ·exact fun b hb=>⟨(f2 b hb).2.2.2.1,(f2 b hb).2.1,(f2 b hb).2.2.2.2.1,(f2 b hb).2.2.2.2.2⟩
   ·refine⟨by rw[bj (AN hDC)];exact HC,Vj (Vc I2.lt hle),.inr (Yd I2.sz hle),fun x c e z=>?_,fun p hp z=>?_⟩
    ·obtain⟨v,q⟩:=I2.cell x c e;exact absurd (Vc q.lt (by rw[z];exact hle)) (Xj _)
    ·exact absurd (Vc (Aj (I2.pin p hp).1) (by rw[z];exact hle)) (Xj _)
  ·obtain⟨go,hz,step⟩:=turn i xs H3 hin w3;refine thn (T.item (cxC X N scope G.objs.size s2 H2 fp) rfl rfl rfl hc i _ s3 _ H3 _ J3 (fpk fr3) st3 go) fun r s4 zz9=>?_;obtain⟨u,hr,h4⟩:=zz9;subst hr;refine thn h4 fun _ s5 zz9=>?_;obtain⟨x,H5,J5,r5,y5,st5,fr5⟩:=zz9;have J5':=J5.pinned (fpk fr5) (T.obj _ _ st5);refine thn (hg _ _ _ _ _ s5 _ H5 x u _ J5' r5 (step x H5 y5)) fun _ s6 zz9=>?_;obtain⟨σ6,H6,J6,q6⟩:=zz9;refine thn (ht _ _ _ _ _ s6 σ6 H6 _ J6 q6) fun ok s7 zz9=>?_;obtain⟨H7,J7,q7⟩:=zz9;have wk:∀{σ8:St}{H8:Hp}{s8:Shared}{pl:List (Addr×Obj)},Inv (cxC X N scope G.objs.size s2 H2 fp) pl σ8 H8 s8->σ8.drop k=(blk k caps σ).drop k->Inv (cxC X N scope G.objs.size s2 H2 fp) pl (blk k caps σ) H8 s8:=fun {σ8 H8 s8 pl} J8 hd =>
    J8.weak (by rw[xD,J8.len];exact S.len.symm) fun j v e=>by
     obtain⟨j',i',rfl,hc',hv'⟩:=xE e;have e1:((blk k caps σ).drop k)[j']?=some (some v):=by rw[Xg];exact e
     rw[← hd,Xg]at e1;exact e1
   have recs:∀{σ8:St}{H8:Hp}{s8:Shared},Inv (cxC X N scope G.objs.size s2 H2 fp) ([(s2.heap.objs.size,fW its nn)]++pf fp s5.heap) σ8 H8 s8->(∀b∈fp,∀o,s5.heap.get? b=some o->s8.heap.get? b=some o)/\(∀b∈fp,H8 b=none):=fun {σ8 H8 s8} J8 =>
    ⟨fun b hb o e=>(J8.pin (b,o) (Qf _ (Qf _ (iV hb e)))).1,fun b hb=>by
     obtain⟨o,e,d⟩:=T.obj _ _ st5 b hb
     exact(J8.pin (b,o) (Qf _ (Qf _ (iV hb e)))).2.1⟩
   cases ok with
   | false =>
    rw[Ak (by decide)]at q7 ⊢
    obtain⟨hd,w7⟩:=q7;obtain⟨k1,k2⟩:=recs J7;exact⟨n0-(i+1),by lia,i+1,xs,its,nn,H7,wk J7.unpinned hd,T.keep _ _ _ st5 k1,k2,vs3,hz3,rfl,hin,w7⟩
   | true =>
    rw[Ag rfl]at q7 ⊢;refine thn (he _ _ _ _ _ s7 σ6 H7 _ J7 q7) fun uy s8 zz9=>?_;obtain⟨y,H8,J8,r8,hd,w8⟩:=zz9;obtain⟨k1,k2⟩:=recs J8;obtain⟨eD,nD,_⟩:=J8.pin (s2.heap.objs.size,fW its nn) (by simp)
    have eD:s8.heap.get? s2.heap.objs.size=some (fW its nn):=eD;have nD:H8 s2.heap.objs.size=none:=nD;have hl3:=vs3.length;refine Ct F.slot_list_append ⟨_,eD,rfl⟩ F.entry_list_append (F.args_list_append_2 _ _) (PySem.list_append s2.heap.objs.size its.toArray nn uy (by rw[Vb];lia)) ⟨eD,?_⟩
    have q:=PySem.IsL.update eD (fun a:Array Value=>a.push uy);have qe:its.toArray.push uy=(its++[uy]).toArray:=by simp
    rw[qe]at q;have oth:∀b o,b≠s2.heap.objs.size->s8.heap.get? b=some o->(s8.heap.update s2.heap.objs.size (Obj.mapSeq fun a=>a.push uy)).get? b=some o:=fun b o hb e=>(BY s8.heap _ (AN hb)).trans e;have J9:Inv (cxC X N scope G.objs.size s2 H2 fp) [] σ6 H8 { s8 with heap:=s8.heap.update s2.heap.objs.size (Obj.mapSeq fun a=>a.push uy),toks:=s8.toks } :=
     (J8.pins_of (pins':=[]) fun p hp=>absurd hp (by simp)).turned oth nD hDC (.inr (Va _)) hDcell (fun p hp=>absurd hp (by simp))
    refine⟨n0-(i+1),by lia,i+1,xs++[y],its++[uy],_,H8,wk (pinD J9 q nD) hd,T.keep _ _ _ st5 fun b hb o e=>oth b o (fun z=>hDf (z ▸ hb)) (k1 b hb o e),k2,vs3.append (.cons r8 .nil),?_,rfl,hin,w8⟩
    rw[Xa,Bk];lia
 exact codeAny_compStart_list loop (T.self _ 0 _ _ _ (T.keep _ _ _ st2 fun b _ o e=>old b o e) loop)
def Inv.aside{s:Shared}(I:Inv X pins σ H s)(a:Ka X pins H C)(hs:Heap.SameBut C s.heap h'):Inv X pins σ H { s with heap:=h' } :=
 I.turned (t':=s.toks) (fun b o hb e=>hs.extBut b o hb e) a.1 a.2.1 a.2.2.1 a.2.2.2.1 a.2.2.2.2
def cn{X:Cx}(S:BlkScope X N k caps scope)(hc:X.calm=true)(hi:PI X tg iter wi)
  (hg:∀C s H fp,PG (cxC X N scope C s H fp) tg g)(ht:∀C s H fp,PIf (cxC X N scope C s H fp) ifs tc)(he:∀C s H fp,PE (cxC X N scope C s H fp) elt te)
  (hs:∀x,foldedSetIterable iter X.env x=pure x:=by intro _;rfl):PE X (.ListComp elt [⟨tg,iter,ifs,0⟩] scope pos) (qT k caps wi g tc te):=by
 intro pins s σ H Q I h;rw[eval_ListComp];exact uq (use:=none) S hc hi hg ht he hs I h fun D C H4 s4 m I4 hm a q=>⟨m,hm,fun h' hs'=>⟨.ref D,H4,I4.aside a hs',rfl,q⟩⟩
def Ib{X:Cx}{pos py spos:Pos}(S:BlkScope X N k caps scope)(hc:X.calm=true)(hN:X.N.Nodup)(hi':X.N[i]?=some y)(hy:Loc X.env.scope y)(hi:PI X tg iter wi)
  (hg:∀C s H fp,PG (cxC X N scope C s H fp) tg g)(ht:∀C s H fp,PIf (cxC X N scope C s H fp) ifs tc)(he:∀C s H fp,PE (cxC X N scope C s H fp) elt te)
  (hs:∀x,foldedSetIterable iter X.env x=pure x:=by intro _;rfl) (hsw:swapsWith (.ListComp elt [⟨tg,iter,ifs,0⟩] scope pos) (some (.Name y py)) spos.line X.env=pure true:=by rfl)
  (hf:X.fn y=true∨X.env.scope.names.lookup y=some .local:=by first|exact .inl rfl|exact .inr rfl|assumption) :
  PS X (.Assign [.Name y py] (.ListComp elt [⟨tg,iter,ifs,0⟩] scope pos) spos) (vW (qT k caps wi g tc te) (pe i)):=by
 intro pins s σ H D I h;rw[exec_Assign_Name_used _ _ _ _ hsw];refine Aa (wpAny_standAt (Aa ?_));show wpAny _ X.A (do let _ ← comprehension (.ListComp elt [⟨tg,iter,ifs,0⟩] scope pos) scope X.env _ (newList []) false (eval iter X.env) (some (assign (.Name y py) X.env))) _ _ s
 refine Aa (AB (uq (use:=some (assign (.Name y py) X.env)) (Q':=fun _ s'=>SP X pins D .next s') S hc hi hg ht he hs I h ?_) (fun _ s' hq=>Ad (Ad hq)) fun _ _ e=>e)
 intro Da C H4 s4 m I4 hm a q;refine wpAny_assign_Name (qL I4 hN hi' hy (show RelV (.ref Da) (.ref Da) from rfl) (fun s5 I5 zz9=>?_) hf);obtain⟨b,sb,hb⟩:=zz9;have hbC:C≠b:=by
  rcases hb with z|z
  ·rw[z];exact a.2.1
  ·exact fun e=>a.2.2.2.1 _ _ z e.symm
 exact⟨m,hm.sameBut sb hbC,fun h' hs'=>⟨_,H4,I5.aside a hs',q⟩⟩
end L2
namespace L2
open PySem PySem.Spec PyProof.Rows
def Its(x:Str):It:=⟨fun i _=>i<x.cps.size,fun i H v H'=>H'=H/\∃c,x.cps[i]?=some c/\v=.str ⟨#[c]⟩,fun i _=>x.cps.size<=i⟩
def zv{P:Program}{w:World}{K:Ab}{tg:Expr}(it:Addr)(x:Str)(t:Tok):Turn P w K tg (Its x) [it] it (fun i h=>h.IsStrIter it "str_ascii_iterator" x t i) where
 mem:=by simp
 obj:=fun i h st b hb=>by
  have e:b=it:=by simpa using hb
  subst e;obtain⟨o,e,c,d⟩:=st;exact⟨o,e,fun v z=>by rw[d]at z;cases z⟩
 keep:=fun i h h' st k=>let ⟨o,ho,r⟩:=st;⟨o,k it (by simp) o ho,r⟩
 item:=by
  intro X hP hw hK hc i pins s σ H E I hf st hg;subst hP hw hK;obtain⟨f0,f1,f2,f3,f4,f5⟩:=hf it (by simp)
  have hg':i<x.cps.size:=hg;refine wpAny_pyNext_ascii_item st (c:=x.cps[i]) (by simp[hg']) fun h' st' sb=>?_
  have I1:Inv X pins σ H { s with heap:=h',toks:=s.toks+1 }:=I.turned (fun b o hb e=>sb.extBut b o hb e) f0 f1 f3 f4 f5;obtain⟨o,e,c,d⟩:=id st';exact⟨_,rfl,ub (s:={ s with heap:=h',toks:=s.toks+1 }) e c d (by decide) ⟨.str ⟨#[x.cps[i]]⟩,H,I1,⟨_,rfl⟩,⟨rfl,_,by simp[hg'],rfl⟩,st',fun b hb=>(hf b hb).1⟩⟩
 done:=by
  intro X hP hw hK hc i pins s σ H E I hf st hg;subst hP hw hK;obtain⟨f0,f1,f2,f3,f4,f5⟩:=hf it (by simp)
  have hg':x.cps.size<=i:=hg;exact wpAny_pyNext_ascii_end (I.ok.hd hc) st (by simp[hg']) fun h' eb=>⟨rfl,I.turned (t':=s.toks) (fun b o hb e=>eb b o hb e) f0 f1 f3 f4 f5⟩
 self:=fun _ _ _ _ _ st h=>wpAny_pyIter_striter_ascii st h
def zw{P:Program}{w:World}{K:Ab}{tg:Expr}(it:Addr)(x:Str)(t:Tok):Turn P w K tg (Its x) [it] it (fun i h=>h.IsStrIter it "str_iterator" x t i) where
 mem:=by simp
 obj:=fun i h st b hb=>by
  have e:b=it:=by simpa using hb
  subst e;obtain⟨o,e,c,d⟩:=st;exact⟨o,e,fun v z=>by rw[d]at z;cases z⟩
 keep:=fun i h h' st k=>let ⟨o,ho,r⟩:=st;⟨o,k it (by simp) o ho,r⟩
 item:=by
  intro X hP hw hK hc i pins s σ H E I hf st hg;subst hP hw hK;obtain⟨f0,f1,f2,f3,f4,f5⟩:=hf it (by simp)
  have hg':i<x.cps.size:=hg;refine wpAny_pyNext_wide_item st (c:=x.cps[i]) (by simp[hg']) fun h' st' sb=>?_
  have I1:Inv X pins σ H { s with heap:=h',toks:=s.toks+1 }:=I.turned (fun b o hb e=>sb.extBut b o hb e) f0 f1 f3 f4 f5;obtain⟨o,e,c,d⟩:=id st';exact⟨_,rfl,ub (s:={ s with heap:=h',toks:=s.toks+1 }) e c d (by decide) ⟨.str ⟨#[x.cps[i]]⟩,H,I1,⟨_,rfl⟩,⟨rfl,_,by simp[hg'],rfl⟩,st',fun b hb=>(hf b hb).1⟩⟩
 done:=by
  intro X hP hw hK hc i pins s σ H E I hf st hg;subst hP hw hK;obtain⟨f0,f1,f2,f3,f4,f5⟩:=hf it (by simp)
  have hg':x.cps.size<=i:=hg;exact wpAny_pyNext_wide_end (I.ok.hd hc) st (by simp[hg']) fun h' eb=>⟨rfl,I.turned (t':=s.toks) (fun b o hb e=>eb b o hb e) f0 f1 f3 f4 f5⟩
 self:=fun _ _ _ _ _ st h=>wpAny_pyIter_striter_wide st h
section
variable {X:Cx}{tg:Expr}
def LA(tl:TE):TI:=fun σ H R=>tl σ H fun x H1=>∃z,x=.str z/\R (Its z) H1
def LB{l:Expr}{tl:TE}(hl:PE X l tl):PI X tg l (LA tl):=by
 intro pins s σ H R I h;refine thn (hl pins s σ H _ I h) fun v s1 zz9=>?_;obtain⟨x,H1,I1,r1,q1⟩:=zz9;obtain⟨z,e,q⟩:=q1;subst e;obtain⟨t,rfl⟩:=r1;have fpk:∀b∈[s1.heap.objs.size],ol X pins H1 b:=fun b hb=>by
  have e:b=s1.heap.objs.size:=by simpa using hb
  subst e;exact I1.fpOk (Va _) (I1.hok.fresh (Va _))
 cases ha:z.cps.all (·<128) with
 | true=>exact wpAny_pyIter_ascii ha ⟨s1.heap.objs.size,[s1.heap.objs.size],_,_,H1,rfl,I1.kept (t':=s1.toks) fun b o e=>Ac _ e,zv _ z t,⟨_,Ai _ rfl,rfl,rfl⟩,fpk,q⟩
 | false=>exact wpAny_pyIter_wide ha ⟨s1.heap.objs.size,[s1.heap.objs.size],_,_,H1,rfl,I1.kept (t':=s1.toks) fun b o e=>Ac _ e,zw _ z t,⟨_,Ai _ rfl,rfl,rfl⟩,fpk,q⟩
theorem range_all(bs:List Bool):(List.range bs.length).all (fun i=>bs.getD i true)=bs.all id:=by
 induction bs with
 | nil=>rfl
 | cons b r ih =>
  rw[Yc,BU,BO,Dz,BO,← ih];rfl
def gA(hc:X.calm=true):CallR X (.builtin "all") (fun xs H Q=>∃(p:Addr)(bs:List Bool),xs=[.ref p]/\SqL X.K H p (bs.map V.bl)/\Q (.bl (bs.all id)) H):=by
 intro pins s σ H xs us Q I rv h;obtain⟨p,bs,rfl,hq,q⟩:=h;obtain⟨u,rfl,ru⟩:=vals1 rv;cases ru;obtain⟨its,r,pl,hz⟩:=I.list hq;have hlen:its.length=bs.length:=by have:=r.length;simpa using this.symm
 obtain⟨op,np,ep,cp,dp,sp⟩:=id pl;have hne:p≠s.heap.objs.size:=Qh (Aj ep);refine call_all_walk (CK pl.isList ?_);refine⟨s.heap.objs.size,_,_,_,_,_,fun i=>bs.getD i true,rfl,Walks.list (show X.A.in1.handled=none from I.ok.hd hc) s.heap.objs.size p hne its.toArray,⟨⟨_,Ai _ rfl,rfl,rfl⟩,⟨op,Ac _ ep,cp,np,sp⟩⟩,?_,fun h' tk kp=>?_⟩
 ·intro i v s' Q' E' hv hQ';have hv':its[i]?=some v:=by simpa using hv
  have hi:i<its.length:=(Wc.mp hv').1;have hb:(bs.map V.bl)[i]?=some (V.bl (bs[i]'(by lia))):=by
   rw[Qe,Ya (by lia)];rfl
  obtain⟨u',e1,e2⟩:=r.get hb;rw[hv']at e1;cases e1;cases e2;have:bs.getD i true=bs[i]'(by lia):=by rw[Xe,Ya (by lia)];rfl
  have hQ2:Q' (bs.getD i true) s':=hQ';rw[this]at hQ2;exact Ay hQ2
 ·have e:(List.range its.toArray.size).all (fun i=>bs.getD i true)=bs.all id:=by
   rw[Vb,hlen];exact range_all bs
  rw[e]
  exact⟨.bl (bs.all id),H,I.kept (fun b o e=>kp b o (by
   intro z;have z':b=s.heap.objs.size:=by simpa using z
   exact absurd (Aj e) (by rw[z'];exact Xj _)) (Ac _ e)),rfl,q⟩
theorem pk:∀{ys:List Str}{us:List Value},Vals (ys.map V.str) us->StrsAre us ys
 | [],_,r=>by cases r;exact .nil
 | y::ys,_,r=>by
  cases r with
  | cons a b =>
   obtain⟨t,rfl⟩:=a;exact .cons y t (pk b)
def Ic:MtR X "str.join" (fun x vs H Q=>∃(sep:Str)(p:Addr)(ys:List Str),x=.str sep/\vs=[.ref p]/\SqL X.K H p (ys.map V.str)/\(ys.map (·.length)).sum+ys.length*sep.length<=16777216/\Q (.str (Txt.join sep ys)) H):=by
 intro pins s σ H x vs v us Q I rx rv h;obtain⟨sep,p,ys,rfl,rfl,hq,hz,q⟩:=h;obtain⟨t,rfl⟩:=rx;obtain⟨u,rfl,ru⟩:=vals1 rv;cases ru;obtain⟨its,r,pl,_⟩:=I.list hq;exact join_list pl.isList (pk (by simpa using r)) hz fun t' k=>⟨.str _,H,I.tok k,⟨t',rfl⟩,q⟩
def sgn(x:Str):List V:=x.cps.toList.map fun c=>.str ⟨#[c]⟩
def ut{x:Str}{acc:Array Value}(h:ItemsOf (SignAt x) acc x.cps.size):Vals (sgn x) acc.toList:=by
 obtain⟨h1,h2⟩:=h;have gen:∀(cs:List Nat)(us:List Value),us.length=cs.length->(∀(j:Nat) v,us[j]?=some v->∃c u,cs[j]?=some c/\v=Value.str ⟨#[c]⟩ u)->Vals (cs.map fun c=>V.str ⟨#[c]⟩) us:=by
  intro cs;induction cs with
  | nil=>intro us hl _;cases us with
   | nil=>exact .nil
   | cons _ _=>cases hl
  | cons c cs ih =>
   intro us hl hu;cases us with
   | nil=>cases hl
   | cons u us =>
    obtain⟨c',tk,e1,e2⟩:=hu 0 u rfl;have:c=c':=by simpa using e1
    subst this;subst e2;refine .cons ⟨tk,rfl⟩ (ih us (by simpa using hl) fun j v e=>?_)
    have:=hu (j+1) v (by simpa using e)
    simpa using this
 refine gen x.cps.toList acc.toList (by simp[h1]) fun j v e=>?_
 obtain⟨c,u,e1,e2⟩:=h2 j v (by simpa using e)
 exact⟨c,u,by simpa using e1,e2⟩
def xF(x:Str):(sgn x).length=x.cps.size:=by simp[sgn]
def pq(hc:X.calm=true):CallR X (.type "list") (fun xs H Q=>∃z:Str,xs=[.str z]/\z.cps.size<=sizeLine/\∀l,H l=none->Q (.ref l) (upd H l (.lst (sgn z)))):=by
 intro pins s σ H xs us Q I rv h;obtain⟨z,rfl,hz,q⟩:=h;obtain⟨u,rfl,ru⟩:=vals1 rv;obtain⟨t,rfl⟩:=ru;refine call_list_str (I.ok.hd hc) z t (fun h' tk acc' c' kp hS hi=>?_) hz;refine⟨.ref s.heap.objs.size,upd H s.heap.objs.size (.lst (sgn z)),I.laid kp (Va _) ⟨by rw[xF];exact hz,acc'.toList,c',ut hi,by simpa using hS⟩,rfl,q _ (I.hok.fresh (Va _))⟩
theorem ObjOk.there{h:Heap}(x:ObjOk P w H h a o):∃ob,h.get? a=some ob:=by
 cases o with
 | lst xs=>obtain⟨_,_,_,_,e⟩:=x;exact⟨_,e⟩
 | tup xs=>obtain⟨_,_,_,o,e,_⟩:=x;exact⟨_,e⟩
 | dK kvs=>obtain⟨_,_,_,_,o,_,_,e,_⟩:=x;exact⟨_,e⟩
 | dT ep kvs=>obtain⟨_,_,_,_,_,o,_,e,_⟩:=x;exact⟨_,e⟩
 | set S n=>obtain⟨o,_,_,_,e,_⟩:=x;exact⟨_,e⟩
 | ins C dx fs=>obtain⟨_,_,_,e,_⟩:=x;exact⟨_,e⟩
 | own y=>exact x
 | xd fs=>obtain⟨_,⟨_,_,_,e,_⟩,_⟩:=x;exact⟨_,e⟩
 | rng lo hi=>obtain⟨_,_,_,e⟩:=x;exact⟨_,e⟩
 | frz ob u=>obtain⟨e,_⟩:=x;exact⟨_,e⟩
 | tbl ps=>exact⟨_,x⟩
 | met f y=>exact⟨_,x⟩
 | ext φ=>obtain⟨_,e,_⟩:=x;exact e
def Inv.laid2{s:Shared}{h':Heap}{t':Nat}(I:Inv X pins σ H s)(k:∀b u,s.heap.get? b=some u->h'.get? b=some u)(hne:∀b u,s.heap.get? b=some u->b≠a)(hn:H a=none)(new:ObjOk X.prog X.w (upd H a o) h' a o) :
  Inv X pins σ (upd H a o) { s with heap:=h',toks:=t' }:=by
 refine I.un ⟨fun b u e _ _ _=>k b u e,fun b u e _ _ _=>⟨u.slots,k b u e⟩,fun b u e n _=>by rw[bj (hne b u e)];exact n,fun b u e _=>⟨u,k b u e⟩,fun b xs e=>by rw[bj (bP e hn)];exact e,fun b u v e=>by rw[bj (bP e hn)];exact e,fun b ps e=>⟨#[],by rw[bj (bP e hn),e];simp⟩⟩ ?_
 intro b u e;by_cases hb:b=a
 ·subst hb;rw[bX]at e;cases e;exact new
 ·rw[bj hb]at e;exact(I.hok b u e).stay (fun c v _ q=>k c v q) (fun c q=>by rw[bj (bP q hn)];exact q) fun c xs q=>by rw[bj (bP q hn)];exact q
def on(hc:X.calm=true):CallR X (.type "tuple") (fun xs H Q=>∃z:Str,xs=[.str z]/\z.cps.size<=sizeLine/\∀l,H l=none->Q (.ref l) (upd H l (.tup (sgn z)))):=by
 intro pins s σ H xs us Q I rv h;obtain⟨z,rfl,hz,q⟩:=h;obtain⟨u,rfl,ru⟩:=vals1 rv;obtain⟨t,rfl⟩:=ru;refine call_tuple_str (I.ok.hd hc) z t (fun h' tk acc kp hi=>?_) hz;have hne:∀b u,s.heap.get? b=some u->b≠h'.objs.size:=fun b u e z=>absurd (Aj (kp b u e)) (by rw[z];exact Xj _)
 have hn:H h'.objs.size=none:=by
  cases e:H h'.objs.size with
  | none=>rfl
  | some o =>
   obtain⟨ob,eo⟩:=(I.hok _ _ e).there;exact absurd rfl (hne _ _ eo)
 refine⟨.ref h'.objs.size,upd H h'.objs.size (.tup (sgn z)),I.laid2 (fun b u e=>Ac _ (kp b u e)) hne hn ⟨by rw[xF];exact hz,acc.toList,ut hi,⟨_,Ai _ rfl,rfl,0,by simp⟩⟩,rfl,q _ hn⟩
def LC:SlR X (fun x lo hi H Q=>∃z:Str,x=.str z/\z.length<=sizeLine/\Q (.str (Txt.slice z lo hi)) H):=by
 intro pins s σ H x v vl vu lo hi sl Q I rx hs pl pu h;obtain⟨z,rfl,hz,q⟩:=h;obtain⟨t,rfl⟩:=rx;refine⟨"str",_,F.slot_str_getitem.lookup,C9 _ _ _,?_⟩;have fin:∀(o p:Option Int),lo=o->hi=p->∀t' k,EP X pins σ Q (.str (Txt.slice z o p) t') { s with toks:=k }:=fun o p e1 e2 t' k=>⟨.str _,H,I.tok k,⟨t',rfl⟩,by rw[← e1,← e2];exact q⟩
 cases pl with
 | none =>
  cases pu with
  | none=>exact Ba (l:=none) (u:=none) (st:=none) hs rfl (B1 ⟨Yd (CM z _ _) hz,fun t' k=>fin _ _ rfl rfl t' k⟩)
  | int j uj=>exact Ba (l:=none) (u:=some (j,uj)) (st:=none) hs rfl (B1 ⟨Yd (CM z _ _) hz,fun t' k=>fin _ _ rfl rfl t' k⟩)
 | int i ui =>
  cases pu with
  | none=>exact Ba (l:=some (i,ui)) (u:=none) (st:=none) hs rfl (B1 ⟨Yd (CM z _ _) hz,fun t' k=>fin _ _ rfl rfl t' k⟩)
  | int j uj=>exact Ba (l:=some (i,ui)) (u:=some (j,uj)) (st:=none) hs rfl (B1 ⟨Yd (CM z _ _) hz,fun t' k=>fin _ _ rfl rfl t' k⟩)
theorem mX:∀l:List α,(List.range l.length).filterMap (fun k=>l[k]?)=l
 | []=>rfl
 | x::r=>by
  rw[Yc,BU,Yk,CB];show x::List.filterMap (fun k=>(x::r)[k+1]?) _=_;have e:(fun k=>(x::r)[k+1]?)=fun k=>r[k]?:=by funext k;simp
  rw[e,mX r]
theorem ip:∀{l:List α},(∀a∈l,f a=g a)->l.filterMap f=l.filterMap g
 | [],_=>rfl
 | a::r,h=>by
  rw[Yk,Yk,h a Qa,ip fun b hb=>h b (Xb _ hb)]
def EG(its:List Value):slicePick its.toArray none none (some (-1))=its.reverse.toArray:=by
 unfold slicePick;have e:sliceBounds none none (some (-1)) its.toArray.size=((its.length:Int)-1,-1,-1):=by
  unfold sliceBounds;simp
 rw[e];have r:sliceRange ((its.length:Int)-1) (-1) (-1)=(List.range its.length).map fun k=>its.length-1-k:=by
  unfold sliceRange;have hc:(if (-1:Int) > 0 then(if ((its.length:Int)-1) < -1 then(-1-((its.length:Int)-1)+-1-1) / -1 else 0) else(if ((its.length:Int)-1) > -1 then(((its.length:Int)-1) - -1 - -1-1) / (- -1) else 0))=(its.length:Int):=by
   rw[Ak (by decide)]
   rw[show(- -1:Int)=1 from rfl,DC];split<;>lia
  simp only[hc,Qm];refine Qi fun k hk=>?_;have:=Zk.mp hk;lia
 show((sliceRange ((its.length:Int)-1) (-1) (-1)).filterMap fun i=>its.toArray[i]?).toArray=_;rw[r,CB];congr 1;refine Eq.trans (ip (g:=fun k=>its.reverse[k]?) fun k hk=>?_) ?_
 ·have hk':=Zk.mp hk;show its.toArray[its.length-1-k]?=_;rw[DE hk'];simp
 ·have:=mX its.reverse;rw[Yj]at this;exact this
def Kb(K:Ab)(te:TE):TE:=fun σ H Q=>te σ H fun x H1=>∃a xs,x=.ref a/\SqL K H1 a xs/\∀p,H1 p=none->Q (.ref p) (upd H1 p (.lst xs.reverse))
def LD(he:PE X e te):PE X (.Subscript e (.Slice none none (some (.UnaryOp .USub (.Constant (.int 1) j p1) p2)) p3) pos) (Kb X.K te):=by
 intro pins s σ H Q I h;refine Cw (thn (he pins s σ H _ I h) fun v s1 zz9=>?_);obtain⟨x,H1,I1,r1,q1⟩:=zz9;obtain⟨a,xs,rfl,hx,q⟩:=q1;cases r1;refine wpAny_Slice ?_;rw[Cn];refine Ad ?_;refine Ad ?_;rw[evalPart_some];refine UnaryOp_ (Cq (neg_int ?_));have I2:=I1.tok (s1.toks+1+1);have I4:=I2.kept (t':=s1.toks+1+1) (h':=s1.heap.push { cls:=.type "slice",data:=.fields #[.none,.none,.int (-1) (s1.toks+1)] }) fun b ob q=>Ac _ q;obtain⟨its,r,ht,hz⟩:=I4.list hx;have hlen:=r.length;refine tail_any (ops:=[.ref a,.ref s1.heap.objs.size]) ht.isList.typeIs slot_list_getitem.lookup ?_ (by with_unfolding_all rfl)
 refine wpAny_getItem_list_slice ht.isList (Heap.IsSliceOf.new ..) .none .none (.int (-1) _) (by simp) ?_ (by rw[Vb]<;>lia)
 rw[EG];refine⟨.ref _,_,I4.laid (t':=s1.toks+1+1) (o:=.lst xs.reverse) (fun b ob q=>Ac _ q) (Va _) ?_,rfl,q _ (I4.hok.fresh (Va _))⟩;exact⟨by rw[Yj];exact hz,_,0,r.reverse,Ai _ rfl⟩
end
end L2
namespace L2
open PySem PySem.Spec PyProof.Rows
structure Cal(P:Program)(w:World)(K:Ab)(mg:Str->Option Value)(base:Heap)(x:Str)(k:Nat)(ps:List Str)(sp:Sp):Prop where
 ex:∃f fd,FnOk P w K mg base CX0 k f fd ps sp/\mg x=some (.ref f)/\PySem.W.keepIn K (.ref f)=true/\Binds K fd ps []
def zx(sp:Sp)(t:TA):TE:=fun σ H Q=>t σ H fun vs H1=>sp vs H1 Q E0
section
variable {X:Cx}
def az(C:Cal X.prog X.w X.K X.mg X.base x k ps sp)(hr:Room k' X.A)(hg:Gl X x)(ha:PA X (e::es) t)(hk:k<=k':=by decide)
  (hdb:(x == ("__debug__":Str))=false:=by decide) (he:starEach (e::es) X.env=(false,eval e X.env)::starEach es X.env:=by rfl) (hpl:(backTo pos (starEach es X.env)).any (·.1)=false:=by rfl) :
  PE X (.Call (.Name x p) (e::es) [] pos) (zx sp t):=by
 obtain⟨f,fd,F,hm,hkp,hb⟩:=C.ex;intro pins s σ H Q I h;refine xp F (hr.mono hk) hg hm hkp hb .nil J2 ha hdb he hpl pins s σ H Q I ?_;have e0:zx sp t=Et sp [] E0 t:=by
  funext σ H Q
  unfold zx Et;simp only[Xc]
 rw[e0]at h;exact h
def jJ:Expr->Bool
 | .Starred ..=>false
 | _=>true
def gr(h:jJ e=true):starEach (e::es) env=(false,eval e env)::starEach es env:=by
 cases e<;>first|rfl|cases h
def ai(ha:PE X e te)(hr:PA X es t)(h:jJ e=true:=by rfl):PA X (e::es) (iH te t):=oK ha hr (gr h)
def strsOf:List Expr->Option (List Str)
 | []=>some []
 | .Constant (.str x) _ _::r=>(strsOf r).map (x::·)
 | _=>none
def Kc(xs:List Str):TA:=fun _ H Q=>Q (xs.map V.str) H
theorem sr:∀{es:List Expr}{xs:List Str},strsOf es=some xs->PA X es (Kc xs)
 | [],xs,h=>by
  have e:xs=[]:=(Option.some.inj h).symm;subst e;exact fun pos pins s σ H Q I q=>ac pos pins s σ H Q I q
 | e::r,xs,h=>by
  cases e with
  | Constant c j p =>
   cases c with
   | str x =>
    have h':(strsOf r).map (x::·)=some xs:=h;obtain⟨ys,h1,h2⟩:=Yf.mp h';subst h2;intro pos pins s σ H Q I q;exact oK (cK (x:=x)) (sr h1) (gr rfl) pos pins s σ H Q I q
   | _=>cases h
  | _=>cases h
def Id(hg:Gl X x)(hm:∃t,X.mg x=some (.str z t))(hd:(x == ("__debug__":Str))=false:=by decide):PE X (.Name x pos) (tC (.str z)):=by
 obtain⟨t,h⟩:=hm;exact xg hg h ⟨t,rfl⟩ hd
def Ie(hg:Gl X x)(hm:∃t,X.mg x=some (.int i t))(hd:(x == ("__debug__":Str))=false:=by decide):PE X (.Name x pos) (tC (.int i)):=by
 obtain⟨t,h⟩:=hm;exact xg hg h ⟨t,rfl⟩ hd
def aT(i:Nat){pos' pos:Pos}(hN:X.N.Nodup)(he:PE X e te)(hi:X.N[i]?=some x:=by rfl)(hx:Loc X.env.scope x:=by first|exact Or.inl rfl|exact Or.inr rfl)(hf:X.fn x=true∨X.env.scope.names.lookup x=some .local:=by first|exact .inl rfl|exact .inr rfl|assumption)
  (hs:swapsWithSole [.Name x pos'] e pos.line X.env=pure false:=by rfl) (hw:swappedStores [.Name x pos'] e X.env=pure none:=by rfl) (h1:(assignEach [.Name x pos'] X.env).map (·.2)=[assign (.Name x pos') X.env]:=by rfl) :
  PS X (.Assign [.Name x pos'] e pos) (vW te (pe i)):=ik he (xh hN hi hx hf) hs hw h1
def br(i:Nat)(hN:X.N.Nodup)(hi:X.N[i]?=some x:=by rfl)(hx:Loc X.env.scope x:=by first|exact Or.inl rfl|exact Or.inr rfl)(hf:X.fn x=true∨X.env.scope.names.lookup x=some .local:=by first|exact .inl rfl|exact .inr rfl|assumption):PG X (.Name x pos) (pe i):=xh hN hi hx hf
def mY(i:Nat){pos py spos:Pos}(S:BlkScope X N k caps scope)(hc:X.calm=true)(hN:X.N.Nodup)(hi:PI X tg iter wi)
  (hg:∀C s H fp,PG (cxC X N scope C s H fp) tg g)(ht:∀C s H fp,PIf (cxC X N scope C s H fp) ifs tc)(he:∀C s H fp,PE (cxC X N scope C s H fp) elt te)
  (hi':X.N[i]?=some y:=by rfl) (hy:Loc X.env.scope y:=by first|exact Or.inl rfl|exact Or.inr rfl)
  (hs:∀x,foldedSetIterable iter X.env x=pure x:=by intro _;rfl) (hsw:swapsWith (.ListComp elt [⟨tg,iter,ifs,0⟩] scope pos) (some (.Name y py)) spos.line X.env=pure true:=by rfl)
  (hf:X.fn y=true∨X.env.scope.names.lookup y=some .local:=by first|exact .inl rfl|exact .inr rfl|assumption) :
  PS X (.Assign [.Name y py] (.ListComp elt [⟨tg,iter,ifs,0⟩] scope pos) spos) (vW (qT k caps wi g tc te) (pe i)):=Ib S hc hN hi' hy hi hg ht he hs hsw hf
end
def fw:bootBuiltins "list"=some (.type "list"):=by decide +kernel
def dw:bootBuiltins "tuple"=some (.type "tuple"):=by decide +kernel
def kB:bootBuiltins "str"=some (.type "str"):=by decide +kernel
def mZ:bootBuiltins "int"=some (.type "int"):=by decide +kernel
def gB:bootBuiltins "bool"=some (.type "bool"):=by decide +kernel
def LE{K:Ab}{T S:String}{b:Bool}(h:(if (Value.type T == Value.type S)=true then some true else if PySem.W.kitMeta S=true then(fastBuiltinMro T).map (·.contains (Value.type S)) else none)=some b):PySem.W.kitOne K (.type T) (.type S)=some b:=h
def boot_isinstance:bootBuiltins "isinstance"=some (.builtin "isinstance"):=by decide +kernel
def boot_all:bootBuiltins "all"=some (.builtin "all"):=by decide +kernel
def EH(osc:Scope)(ON N:List Str)(k:Nat)(caps:List Nat)(scope:Scope):Bool :=
 decide (scope.kind=.function)&&scope.names.all (fun y=>decide (y.2≠.cell))&&scope.names.all (fun y=>decide (y.2=.local->scope.names.lookup y.1=some .local)) &&
 scope.names.all (fun y=>decide (y.2=.free->(osc.names.lookup y.1=some .cell∨osc.names.lookup y.1=some .free)))&&decide (N.length=k+caps.length) &&
 (List.range caps.length).all fun j=>match caps[j]?,N[k+j]? with
  | some i,some x=>decide (ON[i]?=some x)&&decide (scope.names.lookup x=some .free)
  | _,_=>false
def cg{X:Cx}(h:EH osc ON N k caps scope=true)(ho:X.env.scope=osc)(hN:X.N=ON):BlkScope X N k caps scope:=by
 unfold EH at h;simp only[Vh,decide_eq_true_eq,Zl]at h;obtain⟨⟨⟨⟨⟨h1,h2⟩,h3⟩,h4⟩,h5⟩,h6⟩:=h;refine⟨h1,h2,h3,fun y hy hf=>?_,h5,fun j i hj=>?_⟩
 ·show X.env.scope.names.lookup y.1=_∨X.env.scope.names.lookup y.1=_;rw[ho];exact h4 y hy hf
 ·have hlt:j<caps.length:=(Wc.mp hj).1;have q:=h6 j (Zk.mpr hlt);rw[hj]at q;cases e:N[k+j]? with
  | none=>rw[e]at q;cases q
  | some x =>
   rw[e]at q;have q':(decide (ON[i]?=some x)&&decide (scope.names.lookup x=some .free))=true:=q;simp only[Vh,decide_eq_true_eq]at q';exact⟨x,rfl,by rw[hN];exact q'.1,q'.2⟩
def bw(h:H p=none)(o:HO):Same H (upd H p o):=fun b u q=>by rw[bj (bP q h)];exact q
def NL:atI (x::r) 0=some x:=kA (j:=0) rfl
def v9{xs:List α}{i:Int}(h0:0<=i)(h1:i<xs.length):∃v,atI xs i=some v/\v∈xs/\xs[i.toNat]?=some v:=by
 have hk:i.toNat<xs.length:=by lia
 have ek:i=((i.toNat:Nat):Int):=by lia
 refine⟨xs[i.toNat],?_,AZ hk,Ya hk⟩;have q:atI xs ((i.toNat:Nat):Int)=some xs[i.toNat]:=kA (Ya hk);rw[← ek]at q;exact q
end L2
namespace L2
open PySem PySem.Spec PyProof.Rows
section
variable {X:Cx}
def qC:MtR X "str.startswith" (fun x vs H Q=>∃(a b:Str),x=.str a/\vs=[.str b]/\Q (.bl (Txt.startswith a b)) H):=by
 intro pins s σ H x vs v us Q I rx rv h;obtain⟨a,b,rfl,rfl,q⟩:=h;obtain⟨t,rfl⟩:=rx;obtain⟨u,rfl,ru⟩:=vals1 rv;obtain⟨t',rfl⟩:=ru;exact SC.startswith ⟨.bl _,H,I,rfl,q⟩
def mulOk_of{x:Str}(h0:0<=n)(hn:n<=1000)(hx:x.length<=1000):MulOk x n:=by
 have hx':(x.length:Int)<=1000:=by lia
 have hm:(x.length:Int)*n<=1000*1000:=Int.mul_le_mul hx' hn h0 (by decide)
 have hm2:x.length*n.toNat<=1000*1000:=Dc hx (by lia)
 refine⟨?_,fun h1 _=>?_,fun h1 h2=>?_⟩
 ·rw[Ae (by lia),Ae (by lia)];rfl
 ·have:(x.length:Int)<=(2 ^ 63-1) / n:=(Int.le_ediv_iff_mul_le (by lia)).mpr (Int.le_trans hm (by decide))
  lia
 ·unfold Builtin.Str.tooLong;have:=zu (Va 1000);exact Ae (by rw[C5];lia)
def wa:OpR X (binaryOp .Mult) (fun x y H Q=>∃(a:Str)(n:Int),x=.str a/\y=.int n/\MulOk a n/\Q (.str (Txt.mul a n)) H):=by
 intro pins s σ H x y v u Q I rx ry h;obtain⟨a,n,rfl,rfl,hok,q⟩:=h;obtain⟨t,rfl⟩:=rx;obtain⟨t',rfl⟩:=ry;exact SB.mul hok fun t2 k=>⟨.str _,H,I.tok k,⟨t2,rfl⟩,q⟩
theorem LF(hu:X.A.units<cLine):OpR X (compareOp .NotEq) (fun x y H Q=>∃(a b:Addr)(xs:List V),x=.ref a/\y=.ref b/\SqL X.K H a xs/\SqL X.K H b []/\Q (.bl (!xs.isEmpty)) H):=by
 intro pins s σ H x y v u Q I rx ry h;obtain⟨a,b,xs,rfl,rfl,ha,hb,q⟩:=h;cases rx;cases ry;obtain⟨its,r,pl,_⟩:=I.list ha;obtain⟨its2,r2,pl2,_⟩:=I.list hb;cases r2;cases xs with
 | nil =>
  cases r;exact SeqAt.RcNeAt.lists (e:=fun _=>true) pl.isList pl2.isList rfl hu (fun j h1 _=>absurd h1 (by simp)) _ _ _ _ ⟨.bl _,H,I,rfl,q⟩
 | cons x1 xr =>
  cases r;exact Db pl.isList pl2.isList (by simp) hu _ _ _ _ ⟨.bl _,H,I,rfl,q⟩
end
def Ig{X:Cx}{K:Ab}(h:X.K=K):IxR X (rIx K):=h ▸ Lp
structure FunD(K:Ab)(x qual:Str)(st:Stmt)(ds:List Value)(f:Addr)(fd:FuncData):Prop where
 ex:∃(oc:Value)(od:Option Addr)(T:Addr)(oT:Obj)(nT:Nat)(kV doc pm:Value)(an:Option Addr)(cdv ct:Value)(osl:Array (Option Value)),
  fd=PySem.W.fnOf x qual (fI st) (dH st) (ak st) (.ref T) kV doc pm an cdv ct/\K.lookup f=some ⟨oc,od,.func fd,osl⟩/\PySem.W.codeIn K cdv qual=true/\K.lookup T=some oT/\oT.data=.seq ds.toArray nT
 kp:PySem.W.keepIn K (.ref f)=true
structure CalD(P:Program)(w:World)(K:Ab)(mg:Str->Option Value)(base:Heap)(x:Str)(k:Nat)(ps:List Str)(dvs:List V)(sp:Sp):Prop where
 ex:∃f fd ds,FnOk P w K mg base CX0 k f fd ps sp/\mg x=some (.ref f)/\PySem.W.keepIn K (.ref f)=true/\Binds K fd ps ds/\Vals dvs ds
def Ke(sp:Sp)(dvs:List V)(t:TA):TE:=fun σ H Q=>t σ H fun vs H1=>sp (vs++dvs) H1 Q E0
section
variable {P:Program}{w:World}{K:Ab}{mg:Str->Option Value}{base:Heap}
def FunD.ok{x qual:Str}{st:Stmt}{ds:List Value}{f:Addr}{fd:FuncData}{N ps:List Str}{k:Nat}{sp:Sp}(F:FunD K x qual st ds f fd)(S:FnScope N ps (ak st))(len:∀vs H Q E,sp vs H Q E->vs.length=ps.length)
  (hbody:∀(cdv:Value)(A:Around)(outer:List Env)(s:Shared)(H:Hp)(vs:List V)(Q:VK)(E:XK),Room k (A.deeper (envOfC qual (ak st) s.heap.objs.size f cdv))->sp vs H Q E ->
   ∃t,PSs (ud CX0 P w K mg base N qual (ak st) f cdv A outer s H E).nox (dH st) t/\t { nx:=fun _ H'=>Q .non H',rt:=Q } (start N vs) H):FnOk P w K mg base CX0 (k+1) f fd ps sp:=by
 obtain⟨oc,od,T,oT,nT,kV,doc,pm,an,cdv,ct,osl,rfl,lk,hcd,_,_⟩:=F.ex;refine JW lk hcd S len fun A outer s H vs Q E hr hsp=>?_;obtain⟨t,h,q⟩:=hbody cdv A outer s H vs Q E hr hsp;exact⟨t,h.nox,q⟩
def FunD.binds{x qual:Str}{st:Stmt}{ds:List Value}{f:Addr}{fd:FuncData}{ps:List Str}(F:FunD K x qual st ds f fd)
  (h:∀(T:Addr)(kV doc pm:Value)(an:Option Addr)(cdv ct:Value)(us:List Value),(us++ds).length=ps.length ->
   ∃k:Option (Array Value)->Sem (List (Str×Value)),bindArgs (PySem.W.fnOf x qual (fI st) (dH st) (ak st) (.ref T) kV doc pm an cdv ct) ⟨us,[]⟩=seqItems? (.ref T) >>= k/\k (some ds.toArray)=pure (ps.zip (us++ds))):Binds K fd ps ds:=by
 obtain⟨oc,od,T,oT,nT,kV,doc,pm,an,cdv,ct,osl,rfl,lk,hcd,hT,hS⟩:=F.ex;intro s us hK hl;obtain⟨k,h1,h2⟩:=h T kV doc pm an cdv ct us hl;exact BindsTo.of_defaults (T:=T) rfl (hK T oT hT) hS h1 h2
end
def su{X:Cx}(C:CalD X.prog X.w X.K X.mg X.base x k ps dvs sp)(hr:Room k' X.A)(hg:Gl X x)(ha:PA X (e::es) t)(hk:k<=k':=by decide)
  (hdb:(x == ("__debug__":Str))=false:=by decide) (he:starEach (e::es) X.env=(false,eval e X.env)::starEach es X.env:=by rfl) (hpl:(backTo pos (starEach es X.env)).any (·.1)=false:=by rfl) :
  PE X (.Call (.Name x p) (e::es) [] pos) (Ke sp dvs t):=by
 obtain⟨f,fd,ds,F,hm,hkp,hb,hv⟩:=C.ex;intro pins s σ H Q I h;exact xp F (hr.mono hk) hg hm hkp hb hv J2 ha hdb he hpl pins s σ H Q I h
theorem uu[DecidableEq α]:∀(l m:List α),l.Nodup->(∀x∈l,x∈m)->l.length<=m.length
 | [],_,_,_=>Xl _
 | a::l,m,h,hs=>by
  have hm:a∈m:=hs a Qa;have h1:=Wg.mp h;have ih:=uu l (m.erase a) h1.2 fun x hx=>by
   have hne:x≠a:=fun e=>h1.1 (e ▸ hx);exact(List.mem_erase_of_ne hne).mpr (hs x (Xb _ hx))
  have hl:=List.length_erase_of_mem hm;have hp:0<m.length:=List.length_pos_of_mem hm;rw[Yc];lia
end L2
namespace VF
open PySem L2
abbrev AS:=Addr->Prop
def bsP{α β γ:Type}{o:Option (α×β)}{f:α×β->Option γ}{z:γ}{P:Prop}(h:o.bind f=some z)(k:∀a b,o=some (a,b)->f (a,b)=some z->P):P:=by
 obtain⟨⟨a,b⟩,e,h⟩:=Option.bind_eq_some_iff.mp h;exact k a b e h
def bsO{α γ:Type}{o:Option α}{f:α->Option γ}{z:γ}{P:Prop}(h:o.bind f=some z)(k:∀a,o=some a->f a=some z->P):P:=by
 obtain⟨a,e,h⟩:=Option.bind_eq_some_iff.mp h;exact k a e h
def aR{i:Decidable c}(h:(if c then x else none)=some z):c/\x=some z:=by simp_all
abbrev U(O Z:AS):AS:=fun p=>O p∨Z p
abbrev ins(p:Addr)(O:AS):AS:=fun b=>b=p∨O b
inductive D where
 | non|bl (b:Bool)|int (i:Int)|str (x:Str)|tup (ds:List D)|lst (ds:List D)|fl (ds:List D)|ty (n:String)|dk (kvs:List (Key×D))|dt (kvs:List (List Key×D))
def TupA(K:Ab)(Y:AS)(H:Hp)(a:Addr)(vs:List V):Prop:=H a=some (.tup vs)/\¬ Y a
def LstA(K:Ab)(Y:AS)(H:Hp)(a:Addr)(vs:List V):Prop:=(Rd H a (.lst vs)/\¬ Y a)∨∀H',SqL K H' a vs
def TupA.sq(h:TupA K Y H a vs):SqT K H a vs:=.inl (.inl h.1)
def LstA.sq(h:LstA K Y H a vs):SqL K H a vs:=by
 rcases h with h|h
 ·exact .inl h.1
 ·exact h H
def KA(Y:AS)(H:Hp)(as:List Addr):Prop:=∀b∈as,¬ Y b/\H b≠none
theorem KA.go(h:KA Y H as)(k:∀b o,H b=some o->¬ Y b->H' b=some o)(n:∀b,Y' b->Y b∨H b=none):KA Y' H' as:=fun b hb=>by
 obtain⟨h1,h2⟩:=h b hb;refine⟨fun z=>(n b z).elim h1 h2,?_⟩;cases e:H b with
 | none=>exact absurd e h2
 | some o=>rw[k b o e h1];simp
def KA.less(h:KA Y H as)(n:∀b,Y' b->Y b):KA Y' H as:=fun b hb=>⟨fun z=>(h b hb).1 (n b z),(h b hb).2⟩
inductive DA(K:Ab)(Y:AS)(H:Hp):V->D->Prop where
 | non:DA K Y H .non .non
 | bl (b:Bool):DA K Y H (.bl b) (.bl b)
 | int (i:Int):DA K Y H (.int i) (.int i)
 | str (x:Str):DA K Y H (.str x) (.str x)
 | tup {a:Addr} {vs:List V} {ds:List D}:TupA K Y H a vs->vs.length=ds.length->(∀(i:Nat) v d,vs[i]?=some v->ds[i]?=some d->DA K Y H v d)->DA K Y H (.ref a) (.tup ds)
 | ty (n:String):DA K Y H (.ty n) (.ty n)
 | lst {a:Addr} {vs:List V} {ds:List D}:¬ Y a->H a=some (.lst vs)->vs.length=ds.length->(∀(i:Nat) v d,vs[i]?=some v->ds[i]?=some d->DA K Y H v d)->DA K Y H (.ref a) (.lst ds)
 | fl {a:Addr} {vs:List V} {ds:List D}:LstA K Y H a vs->vs.length=ds.length->(∀(i:Nat) v d,vs[i]?=some v->ds[i]?=some d->DA K Y H v d)->DA K Y H (.ref a) (.fl ds)
 | dk {a:Addr} {kvs:List (Key×V)} {ds:List (Key×D)}:¬ Y a->H a=some (.dK kvs)->kvs.map (·.1)=ds.map (·.1)->(∀(i:Nat) v d,kvs[i]?=some v->ds[i]?=some d->DA K Y H v.2 d.2)->DA K Y H (.ref a) (.dk ds)
 | dt {a:Addr} {ep:Nat×List Addr} {kvs:List (List Key×V)} {ds:List (List Key×D)}:¬ Y a->KA Y H ep.2->H a=some (.dT ep kvs)->kvs.map (·.1)=ds.map (·.1)->(∀(i:Nat) v d,kvs[i]?=some v->ds[i]?=some d->DA K Y H v.2 d.2)->DA K Y H (.ref a) (.dt ds)
def El(K:Ab)(Y:AS)(H:Hp)(vs:List V)(ds:List D):Prop:=vs.length=ds.length/\∀(i:Nat) v d,vs[i]?=some v->ds[i]?=some d->DA K Y H v d
def Lv(H:Hp)(p:Addr):Prop:=H p≠none/\∀vs,H p≠some (.tup vs)
theorem Lv.same(h:Lv H p)(s:∀o,H p=some o->H' p=some o):Lv H' p:=by
 cases e:H p with
 | none=>exact absurd e h.1
 | some o =>
  refine⟨by rw[s o e];simp,fun vs z=>h.2 vs ?_⟩
  rw[s o e]at z;rw[e];exact z
structure Ext(O:AS)(H:Hp)(O':AS)(H':Hp):Prop where
 kp:∀b o,H b=some o->¬ O b->H' b=some o
 nw:∀b,O' b->O b∨H b=none
 al:∀b,H b≠none->H' b≠none
 lv:∀b,Lv H b->Lv H' b
section
variable {K:Ab}{Y Y' O O' O1 O2 Z:AS}{H H' H1 H2:Hp}{v:V}{d:D}{vs:List V}{ds:List D}{a p:Addr}
def Ext.refl(O:AS)(H:Hp):Ext O H O H:=⟨fun _ _ h _=>h,fun _ h=>.inl h,fun _ h=>h,fun _ h=>h⟩
def Ext.trans(a:Ext O H O1 H1)(b:Ext O1 H1 O2 H2):Ext O H O2 H2:=by
 refine⟨fun c o h n=>b.kp c o (a.kp c o h n) fun z=>?_,fun c h=>?_,fun c h=>b.al c (a.al c h),fun c h=>b.lv c (a.lv c h)⟩
 ·rcases a.nw c z with q|q
  ·exact n q
  ·rw[h]at q;cases q
 ·rcases b.nw c h with q|q
  ·exact a.nw c q
  ·right;cases e:H c with
   | none=>rfl
   | some o=>exact absurd q (a.al c (by rw[e];simp))
theorem Same.ext(h:Same H H'):Ext O H O H':=⟨fun b o e _=>h b o e,fun _ z=>.inl z,fun b z=>by
 cases e:H b with
 | none=>exact absurd e z
 | some o=>rw[h b o e];simp,fun b z=>z.same fun o e=>h b o e⟩
def Rd.keep(r:Rd H a u)(k:∀o,H a=some o->H' a=some o):Rd H' a u:=by
 rcases r with r|⟨o,r⟩
 ·exact .inl (k _ r)
 ·exact .inr ⟨o,k _ r⟩
def Rd.live(r:Rd H a u):H a≠none:=by
 rcases r with r|⟨o,r⟩<;>(rw[r];simp)
def TupA.go(h:TupA K Y H a vs)(k:∀b o,H b=some o->¬ Y b->H' b=some o)(n:∀b,Y' b->Y b∨H b=none):TupA K Y' H' a vs:=by grind [TupA]
def LstA.go(h:LstA K Y H a vs)(k:∀b o,H b=some o->¬ Y b->H' b=some o)(n:∀b,Y' b->Y b∨H b=none):LstA K Y' H' a vs:=by
 rcases h with⟨h1,h2⟩|h
 ·refine .inl ⟨Rd.keep h1 fun o e=>k a o e h2,fun z=>?_⟩;rcases n a z with q|q
  ·exact h2 q
  ·exact Rd.live h1 q
 ·exact .inr h
theorem DA.go(h:DA K Y H v d)(k:∀b o,H b=some o->¬ Y b->H' b=some o)(n:∀b,Y' b->Y b∨H b=none):DA K Y' H' v d:=by
 have no:∀a u,H a=some u->¬ Y a->¬ Y' a:=fun a u e ny z=>by
  rcases n a z with q|q
  ·exact ny q
  ·rw[e]at q;cases q
 induction h with
 | non=>exact .non
 | bl b=>exact .bl b
 | int i=>exact .int i
 | str x=>exact .str x
 | tup h1 h2 _ ih=>exact .tup (h1.go k n) h2 ih
 | ty n=>exact .ty n
 | lst h0 h1 h2 _ ih=>exact .lst (no _ _ h1 h0) (k _ _ h1 h0) h2 ih
 | fl h1 h2 _ ih=>exact .fl (h1.go k n) h2 ih
 | dk h0 h1 h2 _ ih=>exact .dk (no _ _ h1 h0) (k _ _ h1 h0) h2 ih
 | dt h0 ka h1 h2 _ ih=>exact .dt (no _ _ h1 h0) (ka.go k n) (k _ _ h1 h0) h2 ih
def DA.ext(h:DA K (U O Z) H v d)(e:Ext O H O' H'):DA K (U O' Z) H' v d :=
 h.go (fun b o q n=>e.kp b o q fun z=>n (.inl z)) fun b z=>z.elim (fun q=>(e.nw b q).elim (fun x=>.inl (.inl x)) .inr) fun q=>.inl (.inr q)
def DA.less(h:DA K Y H v d)(n:∀b,Y' b->Y b):DA K Y' H v d:=h.go (fun _ _ e _=>e) fun b z=>.inl (n b z)
def DA.same(h:DA K Y H v d)(s:Same H H'):DA K Y H' v d:=h.go (fun b o e _=>s b o e) fun _ z=>.inl z
def DA.away(h:DA K Y H v d)(s:Same H H')(hp:H p=none):DA K (ins p Y) H' v d:=h.go (fun b o e _=>s b o e) fun b z=>z.elim (fun q=>.inr (q ▸ hp)) .inl
theorem El.go(h:El K Y H vs ds)(k:∀b o,H b=some o->¬ Y b->H' b=some o)(n:∀b,Y' b->Y b∨H b=none):El K Y' H' vs ds:=⟨h.1,fun i v d a b=>(h.2 i v d a b).go k n⟩
theorem El.ext(h:El K (U O Z) H vs ds)(e:Ext O H O' H'):El K (U O' Z) H' vs ds:=⟨h.1,fun i v d a b=>(h.2 i v d a b).ext e⟩
theorem El.less(h:El K Y H vs ds)(n:∀b,Y' b->Y b):El K Y' H vs ds:=⟨h.1,fun i v d a b=>(h.2 i v d a b).less n⟩
theorem El.same(h:El K Y H vs ds)(s:Same H H'):El K Y H' vs ds:=⟨h.1,fun i v d a b=>(h.2 i v d a b).same s⟩
theorem El.away(h:El K Y H vs ds)(s:Same H H')(hp:H p=none):El K (ins p Y) H' vs ds:=⟨h.1,fun i v d a b=>(h.2 i v d a b).away s hp⟩
def El.nil:El K Y H [] []:=⟨rfl,fun i v d h=>by simp at h⟩
def El.cons(h:DA K Y H v d)(r:El K Y H vs ds):El K Y H (v::vs) (d::ds):=by grind [El]
theorem El.uncons(h:El K Y H vs (d::ds)):∃v r,vs=v::r/\DA K Y H v d/\El K Y H r ds:=by
 cases vs with
 | nil=>have:=h.1;simp at this
 | cons v r =>
  refine⟨v,r,rfl,h.2 0 v d rfl rfl,?_,fun i v' d' h1 h2=>h.2 (i+1) v' d' (by simpa using h1) (by simpa using h2)⟩
  have:=h.1;simpa using this
def El.unnil(h:El K Y H vs []):vs=[]:=by
 have:=h.1;simpa using this
def El.app(h:El K Y H vs ds)(r:El K Y H ws es):El K Y H (vs++ws) (ds++es):=by grind [El]
def El.at(h:El K Y H vs ds){i:Nat}{d:D}(e:ds[i]?=some d):∃v,vs[i]?=some v/\DA K Y H v d:=by
 have hi:i<ds.length:=(Wc.mp e).1;have hv:i<vs.length:=by rw[h.1];exact hi
 exact⟨vs[i],Ya hv,h.2 i _ d (Ya hv) e⟩
def El.one(h:DA K Y H v d):El K Y H [v] [d]:=El.cons h El.nil
def El.rev(h:El K Y H vs ds):El K Y H vs.reverse ds.reverse:=by grind [El]
theorem El.take(h:El K Y H vs ds)(n:Nat):El K Y H (vs.take n) (ds.take n):=by grind [El]
theorem El.drop(h:El K Y H vs ds)(n:Nat):El K Y H (vs.drop n) (ds.drop n):=by
 refine⟨by simp[h.1],fun i v d h1 h2=>?_⟩
 rw[Xg]at h1 h2;exact h.2 _ v d h1 h2
theorem El.set(h:El K Y H vs ds)(hv:DA K Y H v d)(j:Nat):El K Y H (vs.set j v) (ds.set j d):=by grind [El]
def El.erase(h:El K Y H vs ds)(j:Nat):El K Y H (vs.eraseIdx j) (ds.eraseIdx j):=by grind [El]
def OA(K:Ab)(Y:AS)(H:Hp)(p:Addr):D->Prop
 | .lst ds=>∃vs,H p=some (.lst vs)/\El K Y H vs ds
 | .dk ds=>∃kvs,H p=some (.dK kvs)/\kvs.map (·.1)=ds.map (·.1)/\∀(i:Nat) v d,kvs[i]?=some v->ds[i]?=some d->DA K Y H v.2 d.2
 | .dt ds=>∃ep kvs,KA Y H ep.2/\H p=some (.dT ep kvs)/\kvs.map (·.1)=ds.map (·.1)/\∀(i:Nat) v d,kvs[i]?=some v->ds[i]?=some d->DA K Y H v.2 d.2
 | _=>False
theorem OA.live(h:OA K Y H p d):H p≠none:=by
 cases d with
 | lst ds=>obtain⟨vs,e,_⟩:=h;rw[e];simp
 | dk ds=>obtain⟨vs,e,_⟩:=h;rw[e];simp
 | dt ds=>obtain⟨_,vs,_,e,_⟩:=h;rw[e];simp
 | _=>exact h.elim
theorem OA.lv(h:OA K Y H p d):Lv H p:=by
 cases d with
 | lst ds=>obtain⟨vs,e,_⟩:=h;exact⟨by rw[e];simp,fun _ z=>by rw[e]at z;cases z⟩
 | dk ds=>obtain⟨vs,e,_⟩:=h;exact⟨by rw[e];simp,fun _ z=>by rw[e]at z;cases z⟩
 | dt ds=>obtain⟨_,vs,_,e,_⟩:=h;exact⟨by rw[e];simp,fun _ z=>by rw[e]at z;cases z⟩
 | _=>exact h.elim
theorem OA.go(h:OA K Y H p d)(hp:H' p=H p)(k:∀b o,H b=some o->¬ Y b->H' b=some o)(n:∀b,Y' b->Y b∨H b=none):OA K Y' H' p d:=by
 cases d with
 | lst ds=>obtain⟨vs,e,q⟩:=h;exact⟨vs,hp.trans e,q.go k n⟩
 | dk ds=>obtain⟨vs,e,q1,q2⟩:=h;exact⟨vs,hp.trans e,q1,fun i v d a b=>(q2 i v d a b).go k n⟩
 | dt ds=>obtain⟨ep,vs,ka,e,q1,q2⟩:=h;exact⟨ep,vs,ka.go k n,hp.trans e,q1,fun i v d a b=>(q2 i v d a b).go k n⟩
 | _=>exact h.elim
theorem OA.da(h:OA K Y H p d)(hp:¬ Y' p)(n:∀b,Y' b->Y b):DA K Y' H (.ref p) d:=by
 cases d with
 | lst ds=>obtain⟨vs,e,q⟩:=h;exact .lst hp e q.1 (q.less n).2
 | dk ds=>obtain⟨vs,e,q1,q2⟩:=h;exact .dk hp e q1 fun i v d a b=>(q2 i v d a b).less n
 | dt ds=>obtain⟨ep,vs,ka,e,q1,q2⟩:=h;exact .dt hp (ka.less n) e q1 fun i v d a b=>(q2 i v d a b).less n
 | _=>exact h.elim
def BA(K:Ab)(Y:AS)(H:Hp)(v:V):D->Prop
 | .non=>v=.non
 | .bl b=>v=.bl b
 | .int i=>v=.int i
 | .str x=>v=.str x
 | .tup ds=>∃a vs,v=.ref a/\TupA K Y H a vs/\El K Y H vs ds
 | .ty n=>v=.ty n
 | .lst ds=>∃a vs,v=.ref a/\H a=some (.lst vs)/\El K Y H vs ds
 | .fl ds=>∃a vs,v=.ref a/\LstA K Y H a vs/\El K Y H vs ds
 | .dk ds=>∃a kvs,v=.ref a/\H a=some (.dK kvs)/\kvs.map (·.1)=ds.map (·.1)/\∀(i:Nat) v d,kvs[i]?=some v->ds[i]?=some d->DA K Y H v.2 d.2
 | .dt ds=>∃a ep kvs,v=.ref a/\KA Y H ep.2/\H a=some (.dT ep kvs)/\kvs.map (·.1)=ds.map (·.1)/\∀(i:Nat) v d,kvs[i]?=some v->ds[i]?=some d->DA K Y H v.2 d.2
theorem DA.ba(h:DA K Y H v d):BA K Y H v d:=by
 cases h with
 | non=>rfl
 | bl b=>rfl
 | int i=>rfl
 | str x=>rfl
 | tup h1 h2 h3=>exact⟨_,_,rfl,h1,h2,h3⟩
 | ty n=>rfl
 | lst h0 h1 h2 h3=>exact⟨_,_,rfl,h1,h2,h3⟩
 | fl h1 h2 h3=>exact⟨_,_,rfl,h1,h2,h3⟩
 | dk h0 h1 h2 h3=>exact⟨_,_,rfl,h1,h2,h3⟩
 | dt h0 ka h1 h2 h3=>exact⟨_,_,_,rfl,ka,h1,h2,h3⟩
theorem OA.ba(h:OA K Y H p d):BA K Y H (.ref p) d:=by
 cases d with
 | lst ds=>obtain⟨vs,e,q⟩:=h;exact⟨p,vs,rfl,e,q⟩
 | dk ds=>obtain⟨vs,e,q1,q2⟩:=h;exact⟨p,vs,rfl,e,q1,q2⟩
 | dt ds=>obtain⟨ep,vs,ka,e,q1,q2⟩:=h;exact⟨p,ep,vs,rfl,ka,e,q1,q2⟩
 | _=>exact h.elim
end
end VF
namespace VF
open PySem L2
inductive Sl where
 | e|v (d:D)|o (d:D)|io (d:D)
abbrev En:=List Sl
def Sl.get:Sl->Option D
 | .e=>none
 | .v d=>some d
 | .o d=>some d
 | .io d=>some d
def Sl.ow:Sl->Option D
 | .o d=>some d
 | .io d=>some d
 | _=>none
def Sl.put(y:D):Sl->Sl
 | .io _=>.io y
 | _=>.o y
def Sl.put_ow(y:D)(s:Sl):(s.put y).ow=some y:=by cases s<;>rfl
def Sl.put_v(y z:D)(s:Sl):s.put y≠.v z:=by cases s<;>(intro e;cases e)
inductive Rs where
 | d (x:D)|f (x:D)|s (i:Nat)
structure ER(K:Ab)(st:En)(σ:St)(H:Hp)(O Z:AS):Prop where
 len:st.length=σ.length
 val:∀(i:Nat) d,st[i]?=some (.v d)->∃v,σ[i]?=some (some v)/\DA K (U O Z) H v d
 own:∀(i:Nat) s d,st[i]?=some s->s.ow=some d->∃p,σ[i]?=some (some (.ref p))/\O p/\OA K (U O Z) H p d
 uni:∀(i j:Nat) s t d d' p,st[i]?=some s->s.ow=some d->st[j]?=some t->t.ow=some d'->σ[i]?=some (some (.ref p))->σ[j]?=some (some (.ref p))->i=j
 dis:∀p,O p->¬ Z p
 liv:∀p,U O Z p->Lv H p
structure Kp(st st':En):Prop where
 len:st'.length=st.length
 has:∀(i:Nat) s,st[i]?=some s->s.get≠none->∃s',st'[i]?=some s'/\s'.get≠none
 io:∀(i:Nat) d,st[i]?=some (.io d)->∃d',st'[i]?=some (.io d')
def Kp.refl(st:En):Kp st st:=⟨rfl,fun i s h g=>⟨s,h,g⟩,fun i d h=>⟨d,h⟩⟩
theorem Kp.trans(x:Kp a b)(y:Kp b c):Kp a c:=by
 refine⟨y.len.trans x.len,fun i s h g=>?_,fun i d h=>?_⟩
 ·obtain⟨s',h',g'⟩:=x.has i s h g;exact y.has i s' h' g'
 ·obtain⟨d',h'⟩:=x.io i d h;exact y.io i d' h'
def RVal(K:Ab)(Z:AS)(st:En)(σ:St)(H:Hp)(O:AS)(v:V):Rs->Prop
 | .d x=>DA K (U O Z) H v x
 | .f x=>∃p,v=.ref p/\¬ O p/\¬ Z p/\OA K (ins p (U O Z)) H p x/\ER K st σ H (ins p O) Z
 | .s i=>σ[i]?=some (some v)/\∃s,st[i]?=some s/\s.get≠none
def cont(st:En):Rs->Option D
 | .d x=>some x
 | .f x=>some x
 | .s i=>(st[i]?).bind Sl.get
def Rs.nf:Rs->Rs
 | .f x=>.d x
 | r=>r
section
variable {K:Ab}{Y Y' O O' O1 O2 Z:AS}{H H' H1 H2:Hp}{v:V}{d:D}{vs:List V}{ds:List D}{a p:Addr}{st st' st1 st2:En}{σ σ':St}
def fJ(st:En)(r:Rs):cont st r.nf=cont st r:=by cases r<;>rfl
theorem RVal.nf{r:Rs}(h:RVal K Z st σ H O v r):RVal K Z st σ H O v r.nf:=by
 cases r with
 | d x=>exact h
 | s i=>exact h
 | f x =>
  obtain⟨p,rfl,h1,h2,h3,_⟩:=h;exact h3.da (fun z=>z.elim h1 h2) fun b z=>.inr z
theorem RVal.ba(h:RVal K Z st σ H O v r)(E:ER K st σ H O Z)(c:cont st r=some d):BA K (U O Z) H v d:=by
 cases r with
 | d x=>cases c;exact DA.ba h
 | f x =>
  cases c;have:=RVal.nf h;exact DA.ba (show DA K (U O Z) H v _ from this)
 | s i =>
  obtain⟨h1,s,h2,h3⟩:=h;have c':(st[i]?).bind Sl.get=some d:=c;rw[h2]at c';cases s with
  | e=>cases c'
  | v x =>
   cases c';obtain⟨u,g1,g2⟩:=E.val i _ h2;rw[h1]at g1;cases g1;exact g2.ba
  | o x =>
   cases c';obtain⟨p,g1,g2,g3⟩:=E.own i _ _ h2 rfl;rw[h1]at g1;cases g1;exact g3.ba
  | io x =>
   cases c';obtain⟨p,g1,g2,g3⟩:=E.own i _ _ h2 rfl;rw[h1]at g1;cases g1;exact g3.ba
theorem RVal.ext{r:Rs}(h:RVal K Z st σ H O v r.nf)(e:Ext O H O' H')(k:Kp st st'):RVal K Z st' σ H' O' v r.nf:=by
 cases r with
 | d x=>exact DA.ext (show DA K (U O Z) H v x from h) e
 | f x=>exact DA.ext (show DA K (U O Z) H v x from h) e
 | s i =>
  obtain⟨h1,s,h2,h3⟩:=h;exact⟨h1,k.has i s h2 h3⟩
theorem ER.same(E:ER K st σ H O Z)(s:Same H H'):ER K st σ H' O Z:=by
 refine⟨E.len,fun i d h=>?_,fun i s' d h1 h2=>?_,E.uni,E.dis,fun p hp=>?_⟩
 ·obtain⟨v,h1,h2⟩:=E.val i d h;exact⟨v,h1,h2.same s⟩
 ·obtain⟨p,g1,g2,g3⟩:=E.own i s' d h1 h2;refine⟨p,g1,g2,g3.go ?_ (fun b o e _=>s b o e) fun b z=>.inl z⟩;cases e:H p with
  | none=>exact absurd e g3.live
  | some o=>exact s p o e
 ·exact(E.liv p hp).same fun o e=>s p o e
theorem ER.away(E:ER K st σ H O Z)(s:Same H H')(hp:H p=none)(hp':Lv H' p):ER K st σ H' (ins p O) Z:=by
 have sub:∀b,U (ins p O) Z b->ins p (U O Z) b:=fun b z=>by
  rcases z with(z|z)|z
  ·exact .inl z
  ·exact .inr (.inl z)
  ·exact .inr (.inr z)
 refine⟨E.len,fun i d h=>?_,fun i s' d h1 h2=>?_,E.uni,fun q hq=>?_,fun q hq=>?_⟩
 ·obtain⟨v,h1,h2⟩:=E.val i d h;exact⟨v,h1,(h2.away s hp).less sub⟩
 ·obtain⟨q,g1,g2,g3⟩:=E.own i s' d h1 h2;refine⟨q,g1,.inr g2,g3.go ?_ (fun b o e _=>s b o e) fun b z=>?_⟩
  ·cases e:H q with
   | none=>exact absurd e g3.live
   | some o=>exact s q o e
  ·rcases sub b z with z|z
   ·exact .inr (z ▸ hp)
   ·exact .inl z
 ·rcases hq with rfl|hq
  ·exact fun z=>(E.liv _ (.inr z)).1 hp
  ·exact E.dis q hq
 ·rcases hq with(rfl|hq)|hq
  ·exact hp'
  ·exact(E.same s).liv q (.inl hq)
  ·exact(E.same s).liv q (.inr hq)
def ER.free(E:ER K st σ H O Z)(hp:H p=none):¬ O p/\¬ Z p:=⟨fun z=>(E.liv p (.inl z)).1 hp,fun z=>(E.liv p (.inr z)).1 hp⟩
def ER.new(E:ER K st σ H O Z)(hp:H p=none)(el:El K (U O Z) H vs ds):ER K st σ (upd H p (.lst vs)) O Z/\RVal K Z st σ (upd H p (.lst vs)) O (.ref p) (.f (.lst ds)):=by
 have s:=bw hp (.lst vs);have hf:=E.free hp;refine⟨E.same s,p,rfl,hf.1,hf.2,⟨vs,bX,el.away s hp⟩,E.away s hp ⟨by rw[bX];simp,fun _ z=>by rw[bX]at z;cases z⟩⟩
def ER.newT(E:ER K st σ H O Z)(hp:H p=none)(el:El K (U O Z) H vs ds):ER K st σ (upd H p (.tup vs)) O Z/\RVal K Z st σ (upd H p (.tup vs)) O (.ref p) (.d (.tup ds)):=by
 have s:=bw hp (.tup vs);have hf:=E.free hp;exact⟨E.same s,.tup ⟨bX,fun z=>z.elim hf.1 hf.2⟩ el.1 (el.same s).2⟩
def zy(st:En)(i:Nat):Option En:=match st[i]? with
 | some (.v _)=>some st
 | some (.o d)=>some (st.set i (.v d))
 | _=>none
def EI(st:En):Rs->Option En
 | .s i=>zy st i
 | _=>some st
def aH{l:List α}(h:i≠j):(l.set i x)[j]?=l[j]?:=by rw[Bg,Ak h]
def bC{l:List α}(h:l[i]?=some y):(l.set i x)[i]?=some x:=by
 have hi:=(Wc.mp h).1;rw[Bg,Ag rfl,Ag hi]
def Ih(h:zy st i=some st'):Kp st st'/\∃d,st'[i]?=some (.v d)/\(st[i]?).bind Sl.get=some d:=by
 unfold zy at h;split at h
 ·rename_i d e
  cases h;exact⟨Kp.refl st,d,e,by rw[e];rfl⟩
 ·rename_i d e
  cases h;refine⟨⟨by simp,fun j s hj g=>?_,fun j d' hj=>?_⟩,d,bC e,by rw[e];rfl⟩
  ·by_cases q:i=j
   ·subst q;exact⟨.v d,bC e,by simp[Sl.get]⟩
   ·exact⟨s,by rw[aH q];exact hj,g⟩
  ·have q:i≠j:=fun z=>by subst z;rw[e]at hj;cases hj
   exact⟨d',by rw[aH q];exact hj⟩
 ·cases h
def ER.frz(E:ER K st σ H O Z)(h:zy st i=some st'):∃O',Ext O H O' H/\ER K st' σ H O' Z/\(∀b,O' b->O b):=by
 unfold zy at h;split at h
 ·cases h;exact⟨O,Ext.refl O H,E,fun _ z=>z⟩
 ·rename_i d e
  cases h;obtain⟨p,g1,g2,g3⟩:=E.own i _ _ e rfl;have less:∀b,U (fun b=>O b/\b≠p) Z b->U O Z b:=fun b z=>z.elim (fun q=>.inl q.1) .inr;refine⟨fun b=>O b/\b≠p,⟨fun b o q _=>q,fun b z=>.inl z.1,fun b z=>z,fun b z=>z⟩,⟨by simp[E.len],fun j x hj=>?_,fun j s x hj hs=>?_,fun j k s t x y q hj hs hk ht e1 e2=>?_,fun q hq=>E.dis q hq.1,fun q hq=>E.liv q (less q hq)⟩,fun b z=>z.1⟩
  ·by_cases q:i=j
   ·subst q;rw[bC e]at hj;cases hj;exact⟨.ref p,g1,g3.da (fun z=>z.elim (fun y=>y.2 rfl) (E.dis p g2)) less⟩
   ·rw[aH q]at hj;obtain⟨v,h1,h2⟩:=E.val j x hj;exact⟨v,h1,h2.less less⟩
  ·have q:i≠j:=fun z=>by
    subst z;rw[bC e]at hj;cases hj;cases hs
   rw[aH q]at hj;obtain⟨r,h1,h2,h3⟩:=E.own j s x hj hs;refine⟨r,h1,⟨h2,fun z=>q ?_⟩,h3.go rfl (fun _ _ e _=>e) fun b z=>.inl (less b z)⟩;subst z;exact E.uni i j _ _ _ _ r e rfl hj hs g1 h1
  ·have q1:i≠j:=fun z=>by
    subst z;rw[bC e]at hj;cases hj;cases hs
   have q2:i≠k:=fun z=>by
    subst z;rw[bC e]at hk;cases hk;cases ht
   rw[aH q1]at hj;rw[aH q2]at hk;exact E.uni j k s t x y q hj hs hk ht e1 e2
 ·cases h
theorem RVal.frz(h:RVal K Z st σ H O v r)(E:ER K st σ H O Z)(f:EI st r=some st')(c:cont st r=some d):∃O',Ext O H O' H/\Kp st st'/\ER K st' σ H O' Z/\DA K (U O' Z) H v d:=by
 cases r with
 | d x=>cases f;cases c;exact⟨O,Ext.refl O H,Kp.refl st,E,h⟩
 | f x=>cases f;cases c;exact⟨O,Ext.refl O H,Kp.refl st,E,RVal.nf h⟩
 | s i =>
  obtain⟨h1,s,h2,h3⟩:=h;have f':zy st i=some st':=f;obtain⟨k,x,k1,k2⟩:=Ih f';obtain⟨O',e1,e2,_⟩:=E.frz f';have c':(st[i]?).bind Sl.get=some d:=c;have ex:x=d:=Option.some.inj (k2.symm.trans c');subst ex;obtain⟨u,g1,g2⟩:=e2.val i _ k1;rw[h1]at g1;cases g1;exact⟨O',e1,k,e2,g2⟩
def ER.write{s:Sl}(E:ER K st σ H O Z)(hs:st[i]?=some s)(ho:s.ow=some x)(hp:σ[i]?=some (some (.ref p)))(new:OA K (U O Z) (upd H p o) p y) :
  ER K (st.set i (s.put y)) σ (upd H p o) O Z/\Ext O H O (upd H p o)/\Kp st (st.set i (s.put y)):=by
 obtain⟨q,g1,g2,g3⟩:=E.own i s x hs ho;have eq:q=p:=by rw[hp]at g1;cases g1;rfl
 subst eq;have keep:∀b u,H b=some u->¬ U O Z b->upd H q o b=some u:=fun b u e n=>by
  have hb:b≠q:=fun z=>n (.inl (by rw[z];exact g2))
  rw[bj hb];exact e
 refine⟨⟨by simp[E.len],fun j d hj=>?_,fun j t d hj ht=>?_,fun j k t t' d d' r hj ht hk ht' e1 e2=>?_,E.dis,fun r hr=>?_⟩,⟨fun b u e n=>?_,fun b z=>.inl z,fun b z=>?_,fun b z=>?_⟩,⟨by simp,fun j t hj ht=>?_,fun j d hj=>?_⟩⟩
 ·by_cases e:i=j
  ·subst e;rw[bC hs]at hj;exact absurd (Option.some.inj hj) (Sl.put_v _ _ _)
  ·rw[aH e]at hj;obtain⟨v,h1,h2⟩:=E.val j d hj;exact⟨v,h1,h2.go keep fun b z=>.inl z⟩
 ·by_cases e:i=j
  ·subst e;rw[bC hs]at hj;have:=Option.some.inj hj;subst this;rw[Sl.put_ow]at ht;cases ht;exact⟨q,hp,g2,new⟩
  ·rw[aH e]at hj;obtain⟨r,h1,h2,h3⟩:=E.own j t d hj ht;have hne:r≠q:=fun z=>by subst z;exact e (E.uni i j s t x d r hs ho hj ht hp h1)
   exact⟨r,h1,h2,h3.go (bj hne) keep fun b z=>.inl z⟩
 ·have own':∀(m:Nat)(t:Sl)(d:D),(st.set i (s.put y))[m]?=some t->t.ow=some d->∃t2 d2,st[m]?=some t2/\t2.ow=some d2:=fun m t d hm ht=>by
   by_cases e:i=m
   ·subst e;exact⟨s,x,hs,ho⟩
   ·rw[aH e]at hm;exact⟨t,d,hm,ht⟩
  obtain⟨t1,d1,a1,b1⟩:=own' j t d hj ht;obtain⟨t2,d2,a2,b2⟩:=own' k t' d' hk ht';exact E.uni j k t1 t2 d1 d2 r a1 b1 a2 b2 e1 e2
 ·by_cases e:r=q
  ·subst e;exact new.lv
  ·exact(E.liv r hr).same fun o' eo=>by rw[bj e];exact eo
 ·have hb:b≠q:=fun z=>n (by rw[z];exact g2)
  rw[bj hb];exact e
 ·by_cases e:b=q
  ·subst e;rw[bX];simp
  ·rw[bj e];exact z
 ·by_cases e:b=q
  ·subst e;exact new.lv
  ·exact z.same fun o' eo=>by rw[bj e];exact eo
 ·by_cases e:i=j
  ·subst e;exact⟨s.put y,bC hs,by cases s<;>simp[Sl.put,Sl.get]⟩
  ·exact⟨t,by rw[aH e];exact hj,ht⟩
 ·by_cases e:i=j
  ·subst e;rw[hs]at hj;cases hj;exact⟨y,bC hs⟩
  ·exact⟨d,by rw[aH e];exact hj⟩
end
end VF
namespace VF
open PySem L2
abbrev FE:=En->Option (Rs×En)
abbrev FA:=En->Option (List Rs×En)
abbrev FT:=En->Option (Bool×En)
abbrev Rz:=D×Bool
def mk:Rz->Rs
 | (d,true)=>.f d
 | (d,false)=>.d d
def RES(K:Ab)(Y:AS)(H H':Hp)(v:V):Rz->Prop
 | (d,true)=>∃p,v=.ref p/\H p=none/\OA K (ins p Y) H' p d
 | (d,false)=>DA K Y H' v d
def Fsh(H:Hp)(v:V):Rs->Prop
 | .f _=>∀p,v=.ref p->H p=none
 | _=>True
theorem Ext.dead(e:Ext O H O' H')(h:H' p=none):H p=none:=by
 cases q:H p with
 | none=>rfl
 | some o=>exact absurd h (e.al p (by rw[q];simp))
theorem Fsh.back(h:Fsh H' v r)(e:Ext O H O' H'):Fsh H v r:=by
 cases r with
 | f x=>exact fun p hp=>e.dead (h p hp)
 | d x=>trivial
 | s i=>trivial
def RdE(K:Ab)(te:TE)(f:FE):Prop:=∀(st:En)(σ:St)(H:Hp)(O Z:AS)(Q:VK),ER K st σ H O Z->∀r st',f st=some (r,st') ->
 (∀v H' O',Ext O H O' H'->Kp st st'->ER K st' σ H' O' Z->RVal K Z st' σ H' O' v r->Fsh H v r->Q v H')->te σ H Q
inductive RVs(K:Ab)(Z:AS)(st:En)(σ:St)(H:Hp)(O:AS):List V->List Rs->Prop where
 | nil:RVs K Z st σ H O [] []
 | cons {v:V} {vs:List V} {r:Rs} {rs:List Rs}:RVal K Z st σ H O v r.nf->RVs K Z st σ H O vs rs->RVs K Z st σ H O (v::vs) (r::rs)
def RdA(K:Ab)(ta:TA)(f:FA):Prop:=∀(st:En)(σ:St)(H:Hp)(O Z:AS)(Q:List V->Hp->Prop),ER K st σ H O Z->∀rs st',f st=some (rs,st') ->
 (∀vs H' O',Ext O H O' H'->Kp st st'->ER K st' σ H' O' Z->RVs K Z st' σ H' O' vs rs->Q vs H')->ta σ H Q
def RdT(K:Ab)(tt:TT)(f:FT):Prop:=∀(st:En)(σ:St)(H:Hp)(O Z:AS)(Q:Bool->Hp->Prop),ER K st σ H O Z->∀c st',f st=some (c,st') ->
 (∀H' O',Ext O H O' H'->Kp st st'->ER K st' σ H' O' Z->Q c H')->tt σ H Q
def RdOp(K:Ab)(r:R2)(b:D->D->Option Rz):Prop:=∀(Y:AS)(H:Hp)(x y:V)(d1 d2:D)(z:Rz)(Q:VK),(∀p,Y p->Lv H p)->BA K Y H x d1->BA K Y H y d2->b d1 d2=some z ->
 (∀v H',Same H H'->RES K Y H H' v z->Q v H')->r x y H Q
def NM(K:Ab)(r:V->Hp->VK->Prop)(b:D->Option Rz):Prop:=∀(Y:AS)(H:Hp)(x:V)(d1:D)(z:Rz)(Q:VK),(∀p,Y p->Lv H p)->BA K Y H x d1->b d1=some z ->
 (∀v H',Same H H'->RES K Y H H' v z->Q v H')->r x H Q
inductive BAs(K:Ab)(Y:AS)(H:Hp):List V->List D->Prop where
 | nil:BAs K Y H [] []
 | cons {v:V} {vs:List V} {d:D} {ds:List D}:BA K Y H v d->BAs K Y H vs ds->BAs K Y H (v::vs) (d::ds)
def RdCB(K:Ab)(r:List V->Hp->VK->Prop)(b:List D->Option Rz):Prop:=∀(Y:AS)(H:Hp)(xs:List V)(ds:List D)(z:Rz)(Q:VK),(∀p,Y p->Lv H p)->BAs K Y H xs ds->b ds=some z ->
 (∀v H',Same H H'->RES K Y H H' v z->Q v H')->r xs H Q
section
variable {K:Ab}{Y Y' O O' O1 O2 Z:AS}{H H' H1 H2:Hp}{v:V}{d:D}{vs:List V}{ds:List D}{a p:Addr}{st st' st1 st2:En}{σ σ':St}
theorem RES.rv(E:ER K st σ H O Z)(s:Same H H')(h:RES K (U O Z) H H' v z):ER K st σ H' O Z/\RVal K Z st σ H' O v (mk z):=by
 obtain⟨d,fr⟩:=z;cases fr with
 | false=>exact⟨E.same s,h⟩
 | true =>
  obtain⟨p,rfl,hp,ho⟩:=h;have hf:=E.free hp;exact⟨E.same s,p,rfl,hf.1,hf.2,ho,E.away s hp ho.lv⟩
theorem RES.fsh(h:RES K Y H H' v z):Fsh H v (mk z):=by
 obtain⟨d,fr⟩:=z;cases fr with
 | false=>trivial
 | true=>obtain⟨p,rfl,hp,_⟩:=h;exact fun q e=>by cases e;exact hp
theorem RVs.ext(h:RVs K Z st σ H O vs rs)(e:Ext O H O' H')(k:Kp st st'):RVs K Z st' σ H' O' vs rs:=by
 induction h with
 | nil=>exact .nil
 | cons h1 _ ih=>exact .cons (h1.ext e k) ih
def eS(st:En):List Rs->Option (List D)
 | []=>some []
 | r::rs=>(cont st r).bind fun d=>(eS st rs).bind fun ds=>some (d::ds)
theorem RVs.bas(h:RVs K Z st σ H O vs rs)(E:ER K st σ H O Z):∀{ds:List D},eS st rs=some ds->BAs K (U O Z) H vs ds:=by
 induction h with
 | nil=>intro ds e;cases e;exact .nil
 | @cons v vs r rs h1 _ ih =>
  intro ds e;refine bsO e fun d e1 e=>?_;refine bsO e fun ds' e2 e=>?_;cases e;exact .cons (h1.ba E (by rw[fJ];exact e1)) (ih e2)
def d8:List Rs->En->Option (List D×En)
 | [],st=>some ([],st)
 | r::rs,st=>(cont st r).bind fun d=>(EI st r).bind fun st1=>(d8 rs st1).bind fun x=>some (d::x.1,x.2)
def Ii(st:En)(r:Rs):EI st r.nf=EI st r:=by cases r<;>rfl
theorem RVs.esc:∀{rs:List Rs}{vs:List V}{st:En}{O:AS}{ds:List D}{st':En},RVs K Z st σ H O vs rs->ER K st σ H O Z->d8 rs st=some (ds,st')->∃O',Ext O H O' H/\Kp st st'/\ER K st' σ H O' Z/\El K (U O' Z) H vs ds
 | [],_,st,O,ds,st',.nil,E,e=>by cases e;exact⟨O,Ext.refl O H,Kp.refl _,E,El.nil⟩
 | r::rs,_,st,O,ds,st',.cons h1 h2,E,e=>by
  refine bsO e fun d e1 e=>?_;refine bsO e fun st1 e2 e=>?_;refine bsP e fun ds2 st2 e3 e=>?_;cases e;obtain⟨O1,x1,k1,E1,da⟩:=h1.frz E (by rw[Ii];exact e2) (by rw[fJ];exact e1)
  obtain⟨O2,x2,k2,E2,el⟩:=RVs.esc (h2.ext x1 k1) E1 e3;exact⟨O2,x1.trans x2,k1.trans k2,E2,El.cons (da.ext x2) el⟩
def aC(i:Nat):FE:=fun st=>match st[i]? with
 | some (.v d)=>some (.d d,st)
 | some (.o _)=>some (.s i,st)
 | some (.io _)=>some (.s i,st)
 | _=>none
def LG(i:Nat):RdE K (vV i) (aC i):=by
 intro st σ H O Z Q E r st' h q;unfold aC at h;split at h
 ·rename_i d e
  cases h;obtain⟨v,h1,h2⟩:=E.val i d e;exact⟨v,h1,q v H O (Ext.refl O H) (Kp.refl _) E h2 True.intro⟩
 ·rename_i d e
  cases h;obtain⟨p,h1,h2,h3⟩:=E.own i _ _ e rfl;exact⟨.ref p,h1,q _ H O (Ext.refl O H) (Kp.refl _) E ⟨h1,_,e,by simp[Sl.get]⟩ True.intro⟩
 ·rename_i d e
  cases h;obtain⟨p,h1,h2,h3⟩:=E.own i _ _ e rfl;exact⟨.ref p,h1,q _ H O (Ext.refl O H) (Kp.refl _) E ⟨h1,_,e,by simp[Sl.get]⟩ True.intro⟩
 ·cases h
def fC(d:D):FE:=fun st=>some (.d d,st)
def wc(h:∀Y H,DA K Y H v d):RdE K (tC v) (fC d):=by
 intro st σ H O Z Q E r st' e q;cases e;exact q v H O (Ext.refl O H) (Kp.refl _) E (h _ _) True.intro
def LH(i:Int):RdE K (tC (.int i)) (fC (.int i)):=wc fun _ _=>.int i
def LI(x:Str):RdE K (tC (.str x)) (fC (.str x)):=wc fun _ _=>.str x
def NN(b:Bool):RdE K (tC (.bl b)) (fC (.bl b)):=wc fun _ _=>.bl b
def LJ:RdE K (tC .non) (fC .non):=wc fun _ _=>.non
def fOp(b:D->D->Option Rz)(fa fb:FE):FE:=fun st=>(fa st).bind fun x=>(fb x.2).bind fun y=>(cont y.2 x.1).bind fun d1=>(cont y.2 y.1).bind fun d2=>(b d1 d2).bind fun z=>some (mk z,y.2)
def Kf(hr:RdOp K r b)(ha:RdE K ta fa)(hb:RdE K tb fb):RdE K (tOp r ta tb) (fOp b fa fb):=by
 intro st σ H O Z Q E r' st' h q;refine bsP h fun r1 st1 e1 h=>?_;refine bsP h fun r2 st2 e2 h=>?_;refine bsO h fun d1 e3 h=>?_;refine bsO h fun d2 e4 h=>?_;refine bsO h fun z e5 h=>?_;cases h;refine ha st σ H O Z _ E r1 st1 e1 fun v1 H1 O1 x1 k1 E1 rv1 w1=>?_;refine hb st1 σ H1 O1 Z _ E1 r2 st2 e2 fun v2 H2 O2 x2 k2 E2 rv2 w2=>?_;have b1:=(rv1.nf.ext x2 k2).ba E2 (by rw[fJ];exact e3)
 refine hr (U O2 Z) H2 v1 v2 d1 d2 z _ E2.liv b1 (rv2.ba E2 e4) e5 fun v H3 s hres=>?_;obtain⟨E3,rv3⟩:=hres.rv E2 s;exact q v H3 O2 ((x1.trans x2).trans (Same.ext s)) (k1.trans k2) E3 rv3 (hres.fsh.back (x1.trans x2))
def fUn(b:D->Option Rz)(fa:FE):FE:=fun st=>(fa st).bind fun x=>(cont x.2 x.1).bind fun d1=>(b d1).bind fun z=>some (mk z,x.2)
def Kg(hr:NM K r b)(ha:RdE K ta fa):RdE K (tUn r ta) (fUn b fa):=by
 intro st σ H O Z Q E r' st' h q;refine bsP h fun r1 st1 e1 h=>?_;refine bsO h fun d1 e3 h=>?_;refine bsO h fun z e5 h=>?_;cases h;refine ha st σ H O Z _ E r1 st1 e1 fun v1 H1 O1 x1 k1 E1 rv1 w1=>?_;refine hr (U O1 Z) H1 v1 d1 z _ E1.liv (rv1.ba E1 e3) e5 fun v H3 s hres=>?_;obtain⟨E3,rv3⟩:=hres.rv E1 s;exact q v H3 O1 (x1.trans (Same.ext s)) k1 E3 rv3 (hres.fsh.back x1)
def tru(st:En)(r:Rs):Option Bool:=match cont st r with
 | some (.bl c)=>some c
 | _=>none
def EJ(E:ER K st σ H O Z)(h:RVal K Z st σ H O v r)(t:tru st r=some c):v=.bl c:=by
 unfold tru at t;split at t
 ·rename_i b e
  cases t;exact h.ba E e
 ·cases t
def aA(fa:FE):FT:=fun st=>(fa st).bind fun x=>(tru x.2 x.1).bind fun c=>some (c,x.2)
def sv(ha:RdE K ta fa):RdT K (xo ta) (aA fa):=by
 intro st σ H O Z Q E c st' h q;refine bsP h fun r1 st1 e1 h=>?_;refine bsO h fun c' e2 h=>?_;cases h;exact ha st σ H O Z _ E r1 st1 e1 fun v1 H1 O1 x1 k1 E1 rv1 w1=>⟨c,EJ E1 rv1 e2,q H1 O1 x1 k1 E1⟩
def Kh(ha:RdE K ta fa):RdT K (tB ta) (aA fa):=sv ha
def gC(f:FT):FT:=fun st=>(f st).bind fun x=>some (!x.1,x.2)
def xG(h:RdT K t f):RdT K (Nw t) (gC f):=by
 intro st σ H O Z Q E c st' e q;refine bsP e fun c1 st1 e1 e=>?_;cases e;exact h st σ H O Z _ E c1 st1 e1 q
def eK(f g:FT):FT:=fun st=>(f st).bind fun x=>if x.1=true then g x.2 else some (false,x.2)
theorem xH(h:RdT K t f)(h':RdT K u g):RdT K (Nv t u) (eK f g):=by
 intro st σ H O Z Q E c st' e q;refine bsP e fun c1 st1 e1 e=>?_;refine h st σ H O Z _ E c1 st1 e1 fun H1 O1 x1 k1 E1=>?_;cases c1 with
 | true =>
  rw[Ag rfl]at e ⊢;exact h' st1 σ H1 O1 Z _ E1 c st' e fun H2 O2 x2 k2 E2=>q H2 O2 (x1.trans x2) (k1.trans k2) E2
 | false =>
  simp only[Xf,if_false]at e ⊢;cases e;exact q H1 O1 x1 k1 E1
def m5(f g:FT):FT:=fun st=>(f st).bind fun x=>if x.1=true then some (true,x.2) else g x.2
theorem EK(h:RdT K t f)(h':RdT K u g):RdT K (tOr t u) (m5 f g):=by
 intro st σ H O Z Q E c st' e q;refine bsP e fun c1 st1 e1 e=>?_;refine h st σ H O Z _ E c1 st1 e1 fun H1 O1 x1 k1 E1=>?_;cases c1 with
 | true =>
  rw[Ag rfl]at e ⊢;cases e;exact q H1 O1 x1 k1 E1
 | false =>
  simp only[Xf,if_false]at e ⊢;exact h' st1 σ H1 O1 Z _ E1 c st' e fun H2 O2 x2 k2 E2=>q H2 O2 (x1.trans x2) (k1.trans k2) E2
def bZ:FT:=fun st=>some (true,st)
def LK:RdT K NK bZ:=by
 intro st σ H O Z Q E c st' e q;cases e;exact q H O (Ext.refl O H) (Kp.refl _) E
def g9(fa fb:FE):FE:=fun st=>(fa st).bind fun x=>(tru x.2 x.1).bind fun c=>if c=true then fb x.2 else some (.d (.bl false),x.2)
theorem xI(ha:RdE K ta fa)(hb:RdE K tb fb):RdE K (JO ta tb) (g9 fa fb):=by
 intro st σ H O Z Q E r st' h q;refine bsP h fun r1 st1 e1 h=>?_;refine bsO h fun c e2 h=>?_;refine ha st σ H O Z _ E r1 st1 e1 fun v1 H1 O1 x1 k1 E1 rv1 w1=>⟨c,EJ E1 rv1 e2,?_⟩;cases c with
 | true =>
  rw[Ag rfl]at h ⊢;exact hb st1 σ H1 O1 Z _ E1 r st' h fun v H2 O2 x2 k2 E2 rv w2=>q v H2 O2 (x1.trans x2) (k1.trans k2) E2 rv (w2.back x1)
 | false =>
  rw[Ak (by decide)]at h ⊢
  cases h;exact q _ H1 O1 x1 k1 E1 (.bl false) True.intro
def Ki(fa:FE):FE:=fun st=>(fa st).bind fun x=>(tru x.2 x.1).bind fun c=>some (.d (.bl (!c)),x.2)
def xJ(ha:RdE K ta fa):RdE K (JP ta) (Ki fa):=by
 intro st σ H O Z Q E r st' h q;refine bsP h fun r1 st1 e1 h=>?_;refine bsO h fun c e2 h=>?_;cases h;exact ha st σ H O Z _ E r1 st1 e1 fun v1 H1 O1 x1 k1 E1 rv1 w1=>⟨c,EJ E1 rv1 e2,q _ H1 O1 x1 k1 E1 (.bl _) True.intro⟩
def fIf(f:FT)(fa fb:FE):FE:=fun st=>(f st).bind fun x=>if x.1=true then fa x.2 else fb x.2
theorem Kj(h:RdT K t f)(ha:RdE K ta fa)(hb:RdE K tb fb):RdE K (tIf t ta tb) (fIf f fa fb):=by
 intro st σ H O Z Q E r st' e q;refine bsP e fun c1 st1 e1 e=>?_;refine h st σ H O Z _ E c1 st1 e1 fun H1 O1 x1 k1 E1=>?_;cases c1 with
 | true =>
  rw[Ag rfl]at e ⊢;exact ha st1 σ H1 O1 Z _ E1 r st' e fun v H2 O2 x2 k2 E2 rv w2=>q v H2 O2 (x1.trans x2) (k1.trans k2) E2 rv (w2.back x1)
 | false =>
  simp only[Xf,if_false]at e ⊢;exact hb st1 σ H1 O1 Z _ E1 r st' e fun v H2 O2 x2 k2 E2 rv w2=>q v H2 O2 (x1.trans x2) (k1.trans k2) E2 rv (w2.back x1)
def sx(b b':D->D->Option Rz)(fa fb fc:FE):FE:=fun st=>(fa st).bind fun x=>(fb x.2).bind fun y=>(cont y.2 x.1).bind fun d1=>(cont y.2 y.1).bind fun d2=>(b d1 d2).bind fun z=>match z with
 | (.bl true,false)=>(fc y.2).bind fun w=>(cont w.2 y.1).bind fun d2'=>(cont w.2 w.1).bind fun d3=>(b' d2' d3).bind fun z'=>some (mk z',w.2)
 | (.bl false,false)=>some (.d (.bl false),y.2)
 | _=>none
def uv(hr:RdOp K r b)(hr':RdOp K r' b')(ha:RdE K ta fa)(hb:RdE K tb fb)(hc:RdE K tc fc):RdE K (Ep r r' ta tb tc) (sx b b' fa fb fc):=by
 intro st σ H O Z Q E r0 st' h q;refine bsP h fun r1 st1 e1 h=>?_;refine bsP h fun r2 st2 e2 h=>?_;refine bsO h fun d1 e3 h=>?_;refine bsO h fun d2 e4 h=>?_;refine bsO h fun z e5 h=>?_;refine ha st σ H O Z _ E r1 st1 e1 fun v1 H1 O1 x1 k1 E1 rv1 w1=>?_;refine hb st1 σ H1 O1 Z _ E1 r2 st2 e2 fun v2 H2 O2 x2 k2 E2 rv2 w2=>?_;have b1:=(rv1.nf.ext x2 k2).ba E2 (by rw[fJ];exact e3)
 refine hr (U O2 Z) H2 v1 v2 d1 d2 z _ E2.liv b1 (rv2.ba E2 e4) e5 fun v H3 s hres=>?_;obtain⟨dz,fr⟩:=z;cases dz with
 | bl c =>
  cases fr with
  | true=>cases c<;>cases h
  | false =>
   have ev:v=.bl c:=DA.ba (show DA K (U O2 Z) H3 v (.bl c) from hres);refine⟨c,ev,?_⟩;have E3:=E2.same s;have x3:Ext O2 H2 O2 H3:=Same.ext s;cases c with
   | false =>
    rw[Ak (by decide)]
    cases h;exact q _ H3 O2 ((x1.trans x2).trans x3) (k1.trans k2) E3 (.bl false) True.intro
   | true =>
    rw[Ag rfl];refine bsP h fun r3 st3 g1 h=>?_;refine bsO h fun d2' g2 h=>?_;refine bsO h fun d3 g3 h=>?_;refine bsO h fun z' g4 h=>?_;cases h;refine hc st2 σ H3 O2 Z _ E3 r3 st3 g1 fun v3 H4 O4 x4 k4 E4 rv4 w4=>?_;have b2:=(rv2.nf.ext (x3.trans x4) k4).ba E4 (by rw[fJ];exact g2)
    refine hr' (U O4 Z) H4 v2 v3 d2' d3 z' _ E4.liv b2 (rv4.ba E4 g3) g4 fun w H5 s5 hres5=>?_;obtain⟨E5,rv5⟩:=hres5.rv E4 s5;exact q w H5 O4 ((((x1.trans x2).trans x3).trans x4).trans (Same.ext s5)) ((k1.trans k2).trans k4) E5 rv5 (hres5.fsh.back (((x1.trans x2).trans x3).trans x4))
 | _=>cases fr<;>cases h
def ae:FA:=fun st=>some ([],st)
def LL:RdA K uc ae:=by
 intro st σ H O Z Q E rs st' e q;cases e;exact q [] H O (Ext.refl O H) (Kp.refl _) E .nil
def aa(fa:FE)(fr:FA):FA:=fun st=>(fa st).bind fun x=>(fr x.2).bind fun y=>some (x.1::y.1,y.2)
def xK(ha:RdE K ta fa)(hr:RdA K tr fr):RdA K (iH ta tr) (aa fa fr):=by
 intro st σ H O Z Q E rs st' h q;refine bsP h fun r1 st1 e1 h=>?_;refine bsP h fun rs2 st2 e2 h=>?_;cases h;refine ha st σ H O Z _ E r1 st1 e1 fun v1 H1 O1 x1 k1 E1 rv1 w1=>?_;refine hr st1 σ H1 O1 Z _ E1 rs2 st2 e2 fun vs H2 O2 x2 k2 E2 rvs=>?_;exact q (v1::vs) H2 O2 (x1.trans x2) (k1.trans k2) E2 (.cons (rv1.nf.ext x2 k2) rvs)
def few(h:n<=1000000):n<=sizeLine:=Yd h (by decide)
def bm(fa:FA):FE:=fun st=>(fa st).bind fun x=>(d8 x.1 x.2).bind fun y=>if y.1.length<=1000000 then some (.d (.tup y.1),y.2) else none
def EL(ha:RdA K ta fa):RdE K (NF ta) (bm fa):=by
 intro st σ H O Z Q E r st' h q;refine bsP h fun rs st1 e1 h=>?_;refine bsP h fun ds st2 e2 h=>?_;refine ha st σ H O Z _ E rs st1 e1 fun vs H1 O1 x1 k1 E1 rvs=>?_;obtain⟨O2,x2,k2,E2,el⟩:=rvs.esc E1 e2;obtain⟨hz,h⟩:=aR h;cases h;refine⟨by rw[el.1];exact few hz,fun p hp=>?_⟩
 obtain⟨E3,rv⟩:=E2.newT hp el;exact q _ _ O2 ((x1.trans x2).trans (Same.ext (bw hp _))) (k1.trans k2) E3 rv True.intro
def cB(fa:FA):FE:=fun st=>(fa st).bind fun x=>(d8 x.1 x.2).bind fun y=>if y.1.length<=1000000 then some (.f (.lst y.1),y.2) else none
def EM(ha:RdA K ta fa):RdE K (Lc ta) (cB fa):=by
 intro st σ H O Z Q E r st' h q;refine bsP h fun rs st1 e1 h=>?_;refine bsP h fun ds st2 e2 h=>?_;refine ha st σ H O Z _ E rs st1 e1 fun vs H1 O1 x1 k1 E1 rvs=>?_;obtain⟨O2,x2,k2,E2,el⟩:=rvs.esc E1 e2;obtain⟨hz,h⟩:=aR h;cases h;refine⟨by rw[el.1];exact few hz,fun p hp=>?_⟩
 obtain⟨E3,rv⟩:=E2.new hp el;exact q _ _ O2 ((x1.trans x2).trans (Same.ext (bw hp _))) (k1.trans k2) E3 rv fun p' e=>by cases e;exact(x1.trans x2).dead hp
def fCB(b:List D->Option Rz)(fa:FA):FE:=fun st=>(fa st).bind fun x=>(eS x.2 x.1).bind fun ds=>(b ds).bind fun z=>some (mk z,x.2)
def Kk(hr:RdCB K r b)(ha:RdA K ta fa):RdE K (tCB r ta) (fCB b fa):=by
 intro st σ H O Z Q E r0 st' h q;refine bsP h fun rs st1 e1 h=>?_;refine bsO h fun ds e2 h=>?_;refine bsO h fun z e3 h=>?_;cases h;refine ha st σ H O Z _ E rs st1 e1 fun vs H1 O1 x1 k1 E1 rvs=>?_;refine hr (U O1 Z) H1 vs ds z _ E1.liv (rvs.bas E1 e2) e3 fun v H3 s hres=>?_;obtain⟨E3,rv3⟩:=hres.rv E1 s;exact q v H3 O1 (x1.trans (Same.ext s)) k1 E3 rv3 (hres.fsh.back x1)
end
end VF
namespace VF
open PySem L2
def D.isSc:D->Bool
 | .non=>true
 | .bl _=>true
 | .int _=>true
 | .str _=>true
 | .ty _=>true
 | _=>false
def spV(K:Ab)(g:List D->Option Rz):Sp:=fun vs H Q _=>∃(Z:AS)(ds:List D)(z:Rz),El K Z H vs ds/\(∀p,Z p->Lv H p)/\g ds=some z/\∀v H',Same H H'->RES K Z H H' v z->Q v H'
def Ph(K:Ab)(Y:AS)(f:Addr)(x':D)(H H':Hp)(v:V):Rz->Prop
 | (d,true)=>∃p,v=.ref p/\H p=none/\OA K (ins p Y) H' p d/\OA K (ins p Y) H' f x'
 | (d,false)=>DA K Y H' v d/\OA K Y H' f x'
def jK(K:Ab)(g:D->List D->Option (Rz×D)):Sp:=fun vs H Q _=>∃(f:Addr)(ws:List V)(Z:AS)(x:D)(ds:List D)(z:Rz)(x':D),vs=.ref f::ws/\¬ Z f/\OA K (ins f Z) H f x/\El K (ins f Z) H ws ds/\(∀p,Z p->Lv H p)/\g x ds=some (z,x') /\
 ∀v H',(∀b o,H b=some o->b≠f->H' b=some o)->Ph K (ins f Z) f x' H H' v z->Q v H'
section
variable {K:Ab}{Y Y' O O' O1 O2 Z:AS}{H H' H1 H2:Hp}{v:V}{d:D}{vs:List V}{ds:List D}{a p:Addr}{st st' st1 st2:En}{σ σ':St}
def bi(g:List D->Option Rz)(fa:FA):FE:=fun st=>(fa st).bind fun x=>(d8 x.1 x.2).bind fun y=>(g y.1).bind fun z=>some (mk z,y.2)
def xL(ha:RdA K ta fa):RdE K (zx (spV K g) ta) (bi g fa):=by
 intro st σ H O Z Q E r0 st' h q;refine bsP h fun rs st1 e1 h=>?_;refine bsP h fun ds st2 e2 h=>?_;refine bsO h fun z e3 h=>?_;cases h;refine ha st σ H O Z _ E rs st1 e1 fun vs H1 O1 x1 k1 E1 rvs=>?_;obtain⟨O2,x2,k2,E2,el⟩:=rvs.esc E1 e2;refine⟨U O2 Z,ds,z,el,E2.liv,e3,fun v H3 s hres=>?_⟩;obtain⟨E3,rv3⟩:=hres.rv E2 s;exact q v H3 O2 ((x1.trans x2).trans (Same.ext s)) (k1.trans k2) E3 rv3 (hres.fsh.back (x1.trans x2))
theorem RVal.da0(h:RVal K Z st σ H O v r)(E:ER K st σ H O Z)(c:cont st r=some d):DA K (fun _=>False) H v d:=by
 cases r with
 | d x=>cases c;exact DA.less (show DA K (U O Z) H v d from h) fun b z=>z.elim
 | f x=>cases c;exact DA.less (show DA K (U O Z) H v d from RVal.nf h) fun b z=>z.elim
 | s i =>
  obtain⟨h1,s,h2,h3⟩:=h;have c':(st[i]?).bind Sl.get=some d:=c;rw[h2]at c';cases s with
  | e=>cases c'
  | v x =>
   cases c';obtain⟨u,g1,g2⟩:=E.val i _ h2;rw[h1]at g1;cases g1;exact g2.less fun b z=>z.elim
  | o x =>
   cases c';obtain⟨p,g1,g2,g3⟩:=E.own i _ _ h2 rfl;rw[h1]at g1;cases g1;exact g3.da (fun z=>z) fun b z=>z.elim
  | io x =>
   cases c';obtain⟨p,g1,g2,g3⟩:=E.own i _ _ h2 rfl;rw[h1]at g1;cases g1;exact g3.da (fun z=>z) fun b z=>z.elim
theorem RVs.el0(h:RVs K Z st σ H O vs rs)(E:ER K st σ H O Z):∀{ds:List D},eS st rs=some ds->El K (fun _=>False) H vs ds:=by
 induction h with
 | nil=>intro ds e;cases e;exact El.nil
 | @cons v vs r rs h1 _ ih =>
  intro ds e;refine bsO e fun d e1 e=>?_;refine bsO e fun ds' e2 e=>?_;cases e;exact El.cons (h1.da0 E (by rw[fJ];exact e1)) (ih e2)
theorem DA.sc(h:DA K Y H v d)(s:d.isSc=true):DA K Y' H' v d:=by
 cases h with
 | non=>exact .non
 | bl b=>exact .bl b
 | int i=>exact .int i
 | str x=>exact .str x
 | ty n=>exact .ty n
 | _=>cases s
def bq(g:List D->Option Rz)(fa:FA):FE:=fun st=>(fa st).bind fun x=>(eS x.2 x.1).bind fun ds=>(g ds).bind fun z=>if (z.1.isSc&&!z.2)=true then some (.d z.1,x.2) else none
def uw(ha:RdA K ta fa):RdE K (zx (spV K g) ta) (bq g fa):=by
 intro st σ H O Z Q E r0 st' h q;refine bsP h fun rs st1 e1 h=>?_;refine bsO h fun ds e2 h=>?_;refine bsP h fun dz fr e3 h=>?_;obtain⟨hc,h⟩:=aR h;cases h;have h1:dz.isSc=true/\fr=false:=by simpa using hc
 obtain⟨h1,rfl⟩:=h1;refine ha st σ H O Z _ E rs _ e1 fun vs H1 O1 x1 k1 E1 rvs=>?_;refine⟨fun _=>False,ds,(dz,false),rvs.el0 E1 e2,fun p z=>z.elim,e3,fun v H3 s hres=>?_⟩;exact q v H3 O1 (x1.trans (Same.ext s)) k1 (E1.same s) (DA.sc (show DA K (fun _=>False) H3 v dz from hres) h1) True.intro
def n4{s:Sl}(E:ER K st σ H O Z)(hs:st[i]?=some s)(hx:s.ow=some x)(hv:σ[i]?=some (some v))(el:El K (U O Z) H ws ds)(hg:g x ds=some (z,x'))
  (q:∀v H' O',Ext O H O' H'->Kp st (st.set i (s.put x'))->ER K (st.set i (s.put x')) σ H' O' Z->RVal K Z (st.set i (s.put x')) σ H' O' v (mk z)->Fsh H v (mk z)->Q v H'):jK K g (v::ws) H Q XE:=by
 obtain⟨p,g1,g2,g3⟩:=E.own i s x hs hx;have ev:v=.ref p:=by rw[hv]at g1;cases g1;rfl
 subst ev;have a1:∀b,ins p (fun b=>U O Z b/\b≠p) b->U O Z b:=fun b z=>z.elim (fun q=>by rw[q];exact .inl g2) fun q=>q.1
 have a2:∀b,U O Z b->ins p (fun b=>U O Z b/\b≠p) b:=fun b z=>by
  by_cases e:b=p
  ·exact .inl e
  ·exact .inr ⟨z,e⟩
 refine⟨p,ws,fun b=>U O Z b/\b≠p,x,ds,z,x',rfl,fun z=>z.2 rfl,g3.go rfl (fun _ _ e _=>e) (fun b z=>.inl (a1 b z)),el.less a1,fun b z=>E.liv b z.1,hg,fun u H' kp hres=>?_⟩;have ho:OA K (ins p fun b=>U O Z b/\b≠p) H' p x':=by
  obtain⟨dz,fr⟩:=z;cases fr with
  | false=>exact hres.2
  | true=>obtain⟨r,_,_,_,h⟩:=hres;exact h.go rfl (fun _ _ e _=>e) fun b z=>.inl (.inr z)
 have kp':∀b o,H b=some o->¬ U O Z b->H' b=some o:=fun b o e n=>kp b o e fun z=>n (by rw[z];exact .inl g2)
 have al:∀b,H b≠none->H' b≠none:=fun b hb=>by
  by_cases e:b=p
  ·rw[e];exact ho.live
  ·cases eb:H b with
   | none=>exact absurd eb hb
   | some o=>rw[kp b o eb e];simp
 have al':∀b,Lv H b->Lv H' b:=fun b hb=>by
  by_cases e:b=p
  ·rw[e];exact ho.lv
  ·exact hb.same fun o eb=>kp b o eb e
 have ex:Ext O H O H':=⟨fun b o e n=>kp b o e fun z=>n (by rw[z];exact g2),fun b z=>.inl z,al,al'⟩
 have ho':OA K (U O Z) H' p x':=ho.go rfl (fun _ _ e _=>e) fun b z=>.inl (a2 b z);have mkE:∀(O2:AS),(∀b,O b->O2 b)->(∀b,O2 b->O b∨H b=none)->(∀b,O2 b->¬ Z b)->(∀b,O2 b->Lv H' b)->OA K (U O2 Z) H' p x'->ER K (st.set i (s.put x')) σ H' O2 Z:=fun O2 up dn ds lv ho2=>by
  have nn:∀b,U O2 Z b->U O Z b∨H b=none:=fun b z=>z.elim (fun y=>(dn b y).elim (fun w=>.inl (.inl w)) .inr) fun y=>.inl (.inr y);refine⟨by simp[E.len],fun j d hj=>?_,fun j t d hj ht=>?_,fun j k t t' d d' r hj ht hk ht' e1 e2=>?_,ds,fun r hr=>hr.elim (lv r) fun y=>al' r (E.liv r (.inr y))⟩
  ·by_cases e:i=j
   ·subst e;rw[bC hs]at hj;exact absurd (Option.some.inj hj) (Sl.put_v _ _ _)
   ·rw[aH e]at hj;obtain⟨v,h1,h2⟩:=E.val j d hj;exact⟨v,h1,h2.go kp' nn⟩
  ·by_cases e:i=j
   ·subst e;rw[bC hs]at hj;have:=Option.some.inj hj;subst this;rw[Sl.put_ow]at ht;cases ht;exact⟨p,g1,up p g2,ho2⟩
   ·rw[aH e]at hj;obtain⟨r,h1,h2,h3⟩:=E.own j t d hj ht;have hne:r≠p:=fun z=>by subst z;exact e (E.uni i j s t x d r hs hx hj ht g1 h1)
    refine⟨r,h1,up r h2,h3.go ?_ kp' nn⟩;cases er:H r with
    | none=>exact absurd er h3.live
    | some o=>exact kp r o er hne
  ·have own':∀(m:Nat)(t:Sl)(d:D),(st.set i (s.put x'))[m]?=some t->t.ow=some d->∃t2 d2,st[m]?=some t2/\t2.ow=some d2:=fun m t d hm ht=>by
    by_cases e:i=m
    ·subst e;exact⟨s,x,hs,hx⟩
    ·rw[aH e]at hm;exact⟨t,d,hm,ht⟩
   obtain⟨t1,d1,a1,b1⟩:=own' j t d hj ht;obtain⟨t2,d2,a2,b2⟩:=own' k t' d' hk ht';exact E.uni j k t1 t2 d1 d2 r a1 b1 a2 b2 e1 e2
 have kk:Kp st (st.set i (s.put x')):=by
  refine⟨by simp,fun j t hj ht=>?_,fun j d hj=>?_⟩
  ·by_cases e:i=j
   ·subst e;exact⟨s.put x',bC hs,by cases s<;>simp[Sl.put,Sl.get]⟩
   ·exact⟨t,by rw[aH e];exact hj,ht⟩
  ·by_cases e:i=j
   ·subst e;rw[hs]at hj;cases hj;exact⟨x',bC hs⟩
   ·exact⟨d,by rw[aH e];exact hj⟩
 have E':=mkE O (fun _ z=>z) (fun _ z=>.inl z) E.dis (fun b z=>al' b (E.liv b (.inl z))) ho';refine q u H' O ex kk E' ?_ ?_
 rotate_left
 ·obtain⟨dz,fr⟩:=z;cases fr with
  | false=>trivial
  | true=>obtain⟨r,rfl,hr,_⟩:=hres;exact fun q e=>by cases e;exact hr
 obtain⟨dz,fr⟩:=z;cases fr with
 | false=>exact DA.less (show DA K _ H' u dz from hres.1) a2
 | true =>
  obtain⟨r,rfl,hr,hor,hof⟩:=hres;have hf:=E.free hr;have a3:∀b,ins r (U O Z) b->ins r (ins p fun b=>U O Z b/\b≠p) b:=fun b z=>z.elim .inl fun y=>.inr (a2 b y);refine⟨r,rfl,hf.1,hf.2,hor.go rfl (fun _ _ e _=>e) (fun b z=>.inl (a3 b z)),mkE (ins r O) (fun _ z=>.inr z) (fun b z=>z.elim (fun y=>.inr (by rw[y];exact hr)) .inl) (fun b z=>z.elim (fun y=>by rw[y];exact hf.2) (E.dis b)) (fun b z=>z.elim (fun y=>by rw[y];exact hor.lv) fun y=>al' b (E.liv b (.inl y))) ?_⟩
  exact hof.go rfl (fun _ _ e _=>e) fun b z=>.inl (a3 b (z.elim (fun y=>y.elim .inl fun w=>.inr (.inl w)) fun y=>.inr (.inr y)))
def fIO(g:D->List D->Option (Rz×D))(i:Nat)(fr:FA):FE:=fun st=>(st[i]?).bind fun s0=>(s0.ow).bind fun _=>(fr st).bind fun x=>(d8 x.1 x.2).bind fun y=>(y.2[i]?).bind fun s=>(s.ow).bind fun d=>(g d y.1).bind fun z=>some (mk z.1,y.2.set i (s.put z.2))
def Kl(hr:RdA K tr fr):RdE K (zx (jK K g) (iH (vV i) tr)) (fIO g i fr):=by
 intro st σ H O Z Q E r0 st' h q;refine bsO h fun s0 f1 h=>?_;refine bsO h fun x0 f2 h=>?_;refine bsP h fun rs st1 e1 h=>?_;refine bsP h fun ds st2 e2 h=>?_;refine bsO h fun s e3 h=>?_;refine bsO h fun x e4 h=>?_;refine bsP h fun z x' e5 h=>?_;cases h;obtain⟨p,g1,_,_⟩:=E.own i s0 x0 f1 f2;refine⟨.ref p,g1,?_⟩;refine hr st σ H O Z _ E rs st1 e1 fun vs H1 O1 x1 k1 E1 rvs=>?_;obtain⟨O2,x2,k2,E2,el⟩:=rvs.esc E1 e2;exact n4 E2 e3 e4 g1 el e5 fun v H' O' ex kk E' rv w=>q v H' O' ((x1.trans x2).trans ex) ((k1.trans k2).trans kk) E' rv (w.back (x1.trans x2))
end
end VF
namespace VF
open PySem L2
structure Kq(st:En)(σ:St)(st':En)(σ':St):Prop where
 len:st'.length=st.length
 io:∀(i:Nat) d,st[i]?=some (.io d)->σ'[i]?=σ[i]?/\∃d',st'[i]?=some (.io d')
def Kq.refl(st:En)(σ:St):Kq st σ st σ:=⟨rfl,fun i d h=>⟨rfl,d,h⟩⟩
theorem Kq.trans(h:Kq a x b y)(g:Kq b y c z):Kq a x c z:=by
 refine⟨g.len.trans h.len,fun i d e=>?_⟩;obtain⟨e1,d1,e2⟩:=h.io i d e;obtain⟨e3,d2,e4⟩:=g.io i d1 e2;exact⟨e3.trans e1,d2,e4⟩
def Kp.kq(k:Kp st st'):Kq st σ st' σ:=⟨k.len,fun i d h=>⟨rfl,k.io i d h⟩⟩
abbrev FG:=D->En->Option En
def RdG(K:Ab)(g:TG)(fg:FG)(tg:List Nat):Prop:=∀(st:En)(σ:St)(H:Hp)(O Z:AS)(x:V)(d:D)(Q:St->Hp->Prop),ER K st σ H O Z->DA K (U O Z) H x d->∀st',fg d st=some st' ->
 (∀σ',(∀j,j∉tg->σ'[j]?=σ[j]?/\st'[j]?=st[j]?)->Kq st σ st' σ'->ER K st' σ' H O Z->Q σ' H)->g x σ H Q
def Sl.isIo:Sl->Bool
 | .io _=>true
 | _=>false
def my(i:Nat)(s:Sl)(st:En):Option En:=(st[i]?).bind fun t=>if t.isIo=true then none else some (st.set i s)
section
variable {K:Ab}{Y Y' O O' O1 O2 Z:AS}{H H' H1 H2:Hp}{v:V}{d:D}{vs:List V}{ds:List D}{a p:Addr}{st st' st1 st2:En}{σ σ':St}
def oM(h:my i s st=some st'):∃t,st[i]?=some t/\t.isIo=false/\st'=st.set i s:=by grind [my]
def sy{s t:Sl}(e:st[i]?=some t)(n:t.isIo=false):Kq st σ (st.set i s) (σ.set i w):=by
 refine⟨by simp,fun j d h=>?_⟩
 have q:i≠j:=fun z=>by subst z;rw[e]at h;cases h;cases n
 exact⟨aH q,d,by rw[aH q];exact h⟩
def ER.asg(E:ER K st σ H O Z)(e:st[i]?=some t)(h:DA K (U O Z) H v d):ER K (st.set i (.v d)) (σ.set i (some v)) H O Z:=by
 have hi:i<σ.length:=by rw[← E.len];exact(Wc.mp e).1
 have sg:(σ.set i (some v))[i]?=some (some v):=by rw[Bg,Ag rfl,Ag hi]
 have ne:∀(j:Nat) s x,(st.set i (.v d))[j]?=some s->s.ow=some x->i≠j/\st[j]?=some s:=fun j s x h1 h2=>by
  by_cases q:i=j
  ·subst q;rw[bC e]at h1;cases h1;cases h2
  ·exact⟨q,by rw[aH q]at h1;exact h1⟩
 refine⟨by simp[E.len],fun j x hj=>?_,fun j s x h1 h2=>?_,fun j k s s' x x' r h1 h2 h3 h4 h5 h6=>?_,E.dis,E.liv⟩
 ·by_cases q:i=j
  ·subst q;rw[bC e]at hj;cases hj;exact⟨v,sg,h⟩
  ·rw[aH q]at hj;obtain⟨w,g1,g2⟩:=E.val j x hj;exact⟨w,by rw[aH q];exact g1,g2⟩
 ·obtain⟨q,h1⟩:=ne j s x h1 h2;obtain⟨r,g1,g2⟩:=E.own j s x h1 h2;exact⟨r,by rw[aH q];exact g1,g2⟩
 ·obtain⟨q1,h1⟩:=ne j s x h1 h2;obtain⟨q2,h3⟩:=ne k s' x' h3 h4;rw[aH q1]at h5;rw[aH q2]at h6;exact E.uni j k s s' x x' r h1 h2 h3 h4 h5 h6
def ER.asgF(E0:ER K st σ H O Z)(E:ER K st σ H (ins p O) Z)(np:¬ O p)(e:st[i]?=some t)(h:OA K (ins p (U O Z)) H p x):ER K (st.set i (.o x)) (σ.set i (some (.ref p))) H (ins p O) Z:=by
 have hi:i<σ.length:=by rw[← E.len];exact(Wc.mp e).1
 have sg:(σ.set i (some (V.ref p)))[i]?=some (some (.ref p)):=by rw[Bg,Ag rfl,Ag hi]
 have fresh:∀(j:Nat) s y,st[j]?=some s->s.ow=some y->σ[j]?≠some (some (.ref p)):=fun j s y h1 h2 z=>by
  obtain⟨r,g1,g2,_⟩:=E0.own j s y h1 h2;rw[z]at g1;cases g1;exact np g2
 refine⟨by simp[E.len],fun j y hj=>?_,fun j s y h1 h2=>?_,fun j k s s' y y' r h1 h2 h3 h4 h5 h6=>?_,E.dis,E.liv⟩
 ·by_cases q:i=j
  ·subst q;rw[bC e]at hj;cases hj
  ·rw[aH q]at hj;obtain⟨w,g1,g2⟩:=E.val j y hj;exact⟨w,by rw[aH q];exact g1,g2⟩
 ·by_cases q:i=j
  ·subst q;rw[bC e]at h1;cases h1;cases h2;refine⟨p,sg,.inl rfl,h.go rfl (fun _ _ e _=>e) fun b z=>.inl ?_⟩;rcases z with(z|z)|z
   ·exact .inl z
   ·exact .inr (.inl z)
   ·exact .inr (.inr z)
  ·rw[aH q]at h1;obtain⟨r,g1,g2⟩:=E.own j s y h1 h2;exact⟨r,by rw[aH q];exact g1,g2⟩
 ·by_cases q1:i=j
  ·by_cases q2:i=k
   ·exact q1.symm.trans q2
   ·subst q1;rw[aH q2]at h3 h6;rw[sg]at h5;cases h5;exact absurd h6 (fresh k s' y' h3 h4)
  ·by_cases q2:i=k
   ·subst q2;rw[aH q1]at h1 h5;rw[sg]at h6;cases h6;exact absurd h5 (fresh j s y h1 h2)
   ·rw[aH q1]at h1 h5;rw[aH q2]at h3 h6;exact E.uni j k s s' y y' r h1 h2 h3 h4 h5 h6
def gN(i:Nat):FG:=fun d st=>my i (.v d) st
def cQ(i:Nat):RdG K (pe i) (gN i) [i]:=by
 intro st σ H O Z x d Q E da st' h q;obtain⟨t,e,n,rfl⟩:=oM h;refine q (σ.set i (some x)) (fun j hj=>?_) (sy e n) (E.asg e da);have q:i≠j:=fun z=>hj (by rw[z];simp)
 exact⟨aH q,aH q⟩
def Ij(K:Ab)(g:TGs)(fg:List D->En->Option En)(tg:List Nat):Prop:=∀(st:En)(σ:St)(H:Hp)(O Z:AS)(xs:List V)(ds:List D)(Q:St->Hp->Prop),ER K st σ H O Z->El K (U O Z) H xs ds->∀st',fg ds st=some st' ->
 (∀σ',(∀j,j∉tg->σ'[j]?=σ[j]?/\st'[j]?=st[j]?)->Kq st σ st' σ'->ER K st' σ' H O Z->Q σ' H)->g xs σ H Q
def gsN:List D->En->Option En:=fun ds st=>match ds with
 | []=>some st
 | _=>none
theorem kC:Ij K NA gsN []:=by
 intro st σ H O Z xs ds Q E el st' h q;cases ds with
 | nil =>
  cases h;exact⟨el.unnil,q σ (fun j _=>⟨rfl,rfl⟩) (Kq.refl _ _) E⟩
 | cons d ds=>cases h
def gsC(fg:FG)(fgs:List D->En->Option En):List D->En->Option En:=fun ds st=>match ds with
 | d::r=>(fg d st).bind fun st1=>fgs r st1
 | []=>none
theorem df(h1:RdG K g fg t1)(h2:Ij K gs fgs t2):Ij K (JT g gs) (gsC fg fgs) (t1++t2):=by
 intro st σ H O Z xs ds Q E el st' h q;cases ds with
 | nil=>cases h
 | cons d ds =>
  refine bsO h fun st1 e1 h=>?_;obtain⟨v,r,rfl,da,el⟩:=el.uncons;refine⟨v,r,rfl,h1 st σ H O Z v d _ E da st1 e1 fun σ1 k1 q1 E1=>?_⟩;refine h2 st1 σ1 H O Z r ds _ E1 el st' h fun σ2 k2 q2 E2=>q σ2 (fun j hj=>?_) (q1.trans q2) E2;have a:=k1 j fun z=>hj (Cd _ z);have b:=k2 j fun z=>hj (Qf _ z);exact⟨b.1.trans a.1,b.2.trans a.2⟩
def gT(n:Nat)(fgs:List D->En->Option En):FG:=fun d st=>match d with
 | .tup ds=>if ds.length=n then fgs ds st else none
 | _=>none
theorem m6(h:Ij K gs fgs t):RdG K (K3 K n gs) (gT n fgs) t:=by
 intro st σ H O Z x d Q E da st' e q;cases d with
 | tup ds =>
  obtain⟨hn,e⟩:=aR e;cases da with
  | tup h1 h2 h3=>exact⟨_,_,rfl,h1.sq,h2.trans hn,h st σ H O Z _ ds Q E ⟨h2,h3⟩ st' e q⟩
 | _=>cases e
abbrev FI:=En->Option (List D×En)
def NO(K:Ab)(Z:AS)(J:It)(items:List D)(H:Hp)(O:AS):Prop:=∀H' O',Ext O H O' H'->(∀p,U O' Z p->Lv H' p)->(∀i,items.length<=i->J.stop i H')/\∀(i:Nat) d,items[i]?=some d->J.go i H'/\∀x H'',J.yld i H' x H''->Same H' H''/\DA K (U O' Z) H'' x d
def RdI(K:Ab)(wi:TI)(fi:FI):Prop:=∀(st:En)(σ:St)(H:Hp)(O Z:AS)(R:It->Hp->Prop),ER K st σ H O Z->∀items st',fi st=some (items,st') ->
 (∀J H' O',Ext O H O' H'->Kp st st'->ER K st' σ H' O' Z->NO K Z J items H' O'->R J H')->wi σ H R
def esc(r:Rs)(st:En):Option (D×En):=(cont st r).bind fun d=>(EI st r).bind fun st1=>some (d,st1)
theorem RVal.esc(h:RVal K Z st σ H O v r)(E:ER K st σ H O Z)(e:esc r st=some (d,st')):∃O',Ext O H O' H/\Kp st st'/\ER K st' σ H O' Z/\DA K (U O' Z) H v d:=by
 refine bsO e fun x e1 e=>?_;refine bsO e fun s1 e2 e=>?_;cases e;exact h.frz E e2 e1
def D.its:D->Option (List D)
 | .lst ds=>some ds
 | .fl ds=>some ds
 | _=>none
def D.itt:D->Option (List D)
 | .tup ds=>some ds
 | _=>none
def fIL(fe:FE):FI:=fun st=>(fe st).bind fun x=>(esc x.1 x.2).bind fun y=>(y.1.its).bind fun ds=>some (ds,y.2)
def Ik(h:RdE K te fe):RdI K (xi K te) (fIL fe):=by
 intro st σ H O Z R E items st' e q;refine bsP e fun r st1 e1 e=>?_;refine bsP e fun d st2 e2 e=>?_;refine bsO e fun ds e3 e=>?_;cases e;refine h st σ H O Z _ E r st1 e1 fun v H1 O1 x1 k1 E1 rv w1=>?_;obtain⟨O2,x2,k2,E2,da⟩:=rv.esc E1 e2;have fin:∀{a:Addr}{vs:List V},El K (U O2 Z) H1 vs items->(∀H' O',Ext O2 H1 O' H'->SqL K H' a vs)->xi K (fun _ H Q=>Q (.ref a) H) σ H1 R:=fun {a vs} el sq=>by
  refine⟨a,rfl,⟨vs,sq H1 O2 (Ext.refl _ _)⟩,q _ H1 O2 (x1.trans x2) (k1.trans k2) E2 fun H' O' ex _=>?_⟩;have g1:=sq H' O' ex;have el':=el.ext ex;have hl:=el.1;refine⟨fun i hi=>⟨vs,g1,by lia⟩,fun i d hd=>?_⟩
  obtain⟨v,hv,hdv⟩:=el'.at hd;refine⟨⟨vs,v,g1,hv⟩,fun x H'' hx=>?_⟩;obtain⟨rfl,hx⟩:=hx;have:=hx vs g1;rw[hv]at this;cases this;exact⟨Same.refl _,hdv⟩
 cases d with
 | lst ds' =>
  cases e3;cases da with
  | @lst a vs _ h0 h1 h2 h3=>exact fin ⟨h2,h3⟩ fun H' O' ex=>.inl (.inl (ex.kp a _ h1 fun z=>h0 (.inl z)))
 | fl ds' =>
  cases e3;cases da with
  | @fl a vs _ h1 h2 h3 =>
   refine fin ⟨h2,h3⟩ fun H' O' ex=>?_;rcases h1 with⟨h1,hn⟩|h1
   ·exact .inl (Rd.keep h1 fun o e=>ex.kp a o e fun z=>hn (.inl z))
   ·exact h1 H'
 | _=>cases e3
def fIT(fe:FE):FI:=fun st=>(fe st).bind fun x=>(esc x.1 x.2).bind fun y=>(y.1.itt).bind fun ds=>some (ds,y.2)
theorem LM(h:RdE K te fe):RdI K (K5 K te) (fIT fe):=by
 intro st σ H O Z R E items st' e q;refine bsP e fun r st1 e1 e=>?_;refine bsP e fun d st2 e2 e=>?_;refine bsO e fun ds e3 e=>?_;cases e;refine h st σ H O Z _ E r st1 e1 fun v H1 O1 x1 k1 E1 rv w1=>?_;obtain⟨O2,x2,k2,E2,da⟩:=rv.esc E1 e2;cases d with
 | tup ds' =>
  cases e3;cases da with
  | @tup a vs _ h1 h2 h3 =>
   refine⟨a,rfl,⟨vs,h1.sq⟩,q _ H1 O2 (x1.trans x2) (k1.trans k2) E2 fun H' O' ex _=>?_⟩;have da':=(DA.tup h1 h2 h3).ext ex;cases da' with
   | @tup _ ws _ g1 g2 g3 =>
    refine⟨fun i hi=>⟨ws,g1.sq,by lia⟩,fun i d hd=>?_⟩
    obtain⟨v,hv,hdv⟩:=El.at ⟨g2,g3⟩ hd;refine⟨⟨ws,v,g1.sq,hv⟩,fun x H'' hx=>?_⟩;obtain⟨rfl,hx⟩:=hx;have:=hx ws g1.sq;rw[hv]at this;cases this;exact⟨Same.refl _,hdv⟩
 | _=>cases e3
def rng(lo:Int)(n:Nat):List D:=(List.range n).map fun(i:Nat)=>D.int (lo+(i:Int))
def EN(h:(rng lo n)[i]?=some d):i<n/\d=.int (lo+i):=by grind [rng]
def hU(lo:Int)(n:Nat):(rng lo n).length=n:=by simp[rng]
def EO:NO K Z (Itr lo n) (rng lo n) H O:=fun H' O' ex _=>by
 refine⟨fun i hi=>by rw[hU]at hi;exact hi,fun i d hd=>?_⟩
 obtain⟨h1,rfl⟩:=EN hd;refine⟨h1,fun x H'' hx=>?_⟩;obtain⟨rfl,rfl⟩:=hx;exact⟨Same.refl _,.int _⟩
def LN:List D->Option Int
 | [.int j]=>some j
 | _=>none
def mz(fa:FA):FI:=fun st=>(fa st).bind fun x=>(eS x.2 x.1).bind fun ds=>(LN ds).bind fun j=>if -(2 ^ 62)<=j/\j<2 ^ 62 then some (rng 0 j.toNat,x.2) else none
def xM(h:RdA K ta fa):RdI K (JU ta) (mz fa):=by
 intro st σ H O Z R E items st' e q;refine bsP e fun rs st1 e1 e=>?_;refine bsO e fun ds e2 e=>?_;refine bsO e fun j e3 e=>?_;obtain⟨hc,e⟩:=aR e;cases e;refine h st σ H O Z _ E rs _ e1 fun vs H1 O1 x1 k1 E1 rvs=>?_;have bs:=rvs.bas E1 e2;have ed:ds=[.int j]:=by
  unfold LN at e3;split at e3
  ·cases e3;rfl
  ·cases e3
 subst ed;cases bs with
 | cons b1 b2 =>
  cases b2;obtain rfl:=(show _=V.int j from b1);exact⟨j,rfl,hc.1,hc.2,q _ H1 O1 x1 k1 E1 EO⟩
def px(x:Str):List D:=x.cps.toList.map fun c=>D.str ⟨#[c]⟩
def fIS(fe:FE):FI:=fun st=>(fe st).bind fun x=>match cont x.2 x.1 with
 | some (.str z)=>some (px z,x.2)
 | _=>none
def LO(h:RdE K te fe):RdI K (LA te) (fIS fe):=by
 intro st σ H O Z R E items st' e q;refine bsP e fun r st1 e1 e=>?_;refine h st σ H O Z _ E r st1 e1 fun v H1 O1 x1 k1 E1 rv w1=>?_;dsimp only at e;split at e
 ·rename_i z ez
  cases e;have ev:v=.str z:=rv.ba E1 ez;refine⟨z,ev,q _ H1 O1 x1 k1 E1 fun H' O' ex _=>⟨fun i hi=>?_,fun i d hd=>?_⟩⟩
  ·show z.cps.size<=i;simpa[px]using hi
  ·unfold px at hd;rw[Qe]at hd;obtain⟨c,hc,rfl⟩:=Yf.mp hd;have hc':z.cps[i]?=some c:=by simpa using hc
   refine⟨(Array.getElem?_eq_some_iff.mp hc').1,fun x H'' hx=>?_⟩;obtain⟨rfl,c',h1,rfl⟩:=hx;rw[hc']at h1;cases h1;exact⟨Same.refl _,.str _⟩
 ·cases e
inductive Ot where
 | nx (st:En)|rt (r:Rs) (st:En)|bk (st:En)|ct (st:En)
abbrev FS:=En->Option Ot
def Out(K:Ab)(Z O:AS)(H:Hp)(st:En)(σ:St)(Dn:Ends):Ot->Prop
 | .nx st'=>∀σ' H' O',Ext O H O' H'->Kq st σ st' σ'->ER K st' σ' H' O' Z->Dn.nx σ' H'
 | .rt r st'=>∀v σ' H' O',Ext O H O' H'->Kq st σ st' σ'->ER K st' σ' H' O' Z->RVal K Z st' σ' H' O' v r->Fsh H v r->Dn.rt v H'
 | .bk st'=>∀σ' H' O',Ext O H O' H'->Kq st σ st' σ'->ER K st' σ' H' O' Z->Dn.bk σ' H'
 | .ct st'=>∀σ' H' O',Ext O H O' H'->Kq st σ st' σ'->ER K st' σ' H' O' Z->Dn.ct σ' H'
def RdS(K:Ab)(ts:TS)(F:FS):Prop:=∀(st:En)(σ:St)(H:Hp)(O Z:AS)(Dn:Ends),ER K st σ H O Z->∀o,F st=some o->Out K Z O H st σ Dn o->ts Dn σ H
theorem Out.trans(h:Out K Z O H st σ Dn o)(x:Ext O H O1 H1)(k:Kq st σ st1 σ'):Out K Z O1 H1 st1 σ' Dn o:=by
 cases o with
 | nx s=>exact fun σ2 H2 O2 x2 k2 E2=>h σ2 H2 O2 (x.trans x2) (k.trans k2) E2
 | bk s=>exact fun σ2 H2 O2 x2 k2 E2=>h σ2 H2 O2 (x.trans x2) (k.trans k2) E2
 | ct s=>exact fun σ2 H2 O2 x2 k2 E2=>h σ2 H2 O2 (x.trans x2) (k.trans k2) E2
 | rt r s=>exact fun v σ2 H2 O2 x2 k2 E2 rv w=>h v σ2 H2 O2 (x.trans x2) (k.trans k2) E2 rv (w.back x)
def bQ:FS:=fun st=>some (.nx st)
def Il:RdS K JQ bQ:=by
 intro st σ H O Z Dn E o e q;cases e;exact q σ H O (Ext.refl _ _) (Kq.refl _ _) E
def aD(F G:FS):FS:=fun st=>(F st).bind fun o=>match o with
 | .nx s=>G s
 | o=>some o
theorem EQ(h1:RdS K t F)(h2:RdS K u G):RdS K (Nx t u) (aD F G):=by
 intro st σ H O Z Dn E o e q;refine bsO e fun o1 e1 e=>?_;refine h1 st σ H O Z _ E o1 e1 ?_;cases o1 with
 | nx s=>exact fun σ1 H1 O1 x1 k1 E1=>h2 s σ1 H1 O1 Z Dn E1 o e (q.trans x1 k1)
 | bk s=>cases e;exact q
 | ct s=>cases e;exact q
 | rt r s=>cases e;exact q
def bU(fe:FE):FS:=fun st=>(fe st).bind fun x=>some (.nx x.2)
def xO(h:RdE K te fe):RdS K (JR te) (bU fe):=by
 intro st σ H O Z Dn E o e q;refine bsP e fun r st1 e1 e=>?_;cases e;exact h st σ H O Z _ E r st1 e1 fun v H1 O1 x1 k1 E1 rv w1=>q σ H1 O1 x1 k1.kq E1
def bx(fe:FE):FS:=fun st=>(fe st).bind fun x=>some (.rt x.1 x.2)
def ES(h:RdE K te fe):RdS K (Ny te) (bx fe):=by
 intro st σ H O Z Dn E o e q;refine bsP e fun r st1 e1 e=>?_;cases e;exact h st σ H O Z _ E r st1 e1 fun v H1 O1 x1 k1 E1 rv w1=>q v σ H1 O1 x1 k1.kq E1 rv w1
def sIf(f:FT)(F G:FS):FS:=fun st=>(f st).bind fun x=>if x.1=true then F x.2 else G x.2
theorem Km(hc:RdT K c f)(h1:RdS K t F)(h2:RdS K u G):RdS K (Nz c t u) (sIf f F G):=by
 intro st σ H O Z Dn E o e q;refine bsP e fun b st1 e1 e=>?_;refine hc st σ H O Z _ E b st1 e1 fun H1 O1 x1 k1 E1=>?_;cases b with
 | true =>
  rw[Ag rfl]at e ⊢;exact h1 st1 σ H1 O1 Z Dn E1 o e (q.trans x1 k1.kq)
 | false =>
  simp only[Xf,if_false]at e ⊢;exact h2 st1 σ H1 O1 Z Dn E1 o e (q.trans x1 k1.kq)
def aV(fe:FE)(i:Nat):FS:=fun st=>(fe st).bind fun x=>match x.1 with
 | .d y=>(my i (.v y) x.2).bind fun s=>some (.nx s)
 | .f y=>(my i (.o y) x.2).bind fun s=>some (.nx s)
 | .s j=>(esc (.s j) x.2).bind fun y=>(my i (.v y.1) y.2).bind fun s=>some (.nx s)
theorem ET(h:RdE K te fe):RdS K (vW te (pe i)) (aV fe i):=by
 intro st σ H O Z Dn E o e q;refine bsP e fun r st1 e1 e=>?_;refine h st σ H O Z _ E r st1 e1 fun v H1 O1 x1 k1 E1 rv w1=>?_;show Dn.nx (σ.set i (some v)) H1;cases r with
 | d y =>
  refine bsO e fun s e2 e=>?_;cases e;obtain⟨t,f1,f2,rfl⟩:=oM e2;exact q _ H1 O1 x1 (k1.kq.trans (sy f1 f2)) (E1.asg f1 rv)
 | f y =>
  refine bsO e fun s e2 e=>?_;cases e;obtain⟨t,f1,f2,rfl⟩:=oM e2;obtain⟨p,rfl,np,nz,ho,E2⟩:=rv;have hp:H p=none:=w1 p rfl;exact q _ H1 (ins p O1) ⟨x1.kp,fun b z=>z.elim (fun y=>by rw[y];exact .inr hp) (x1.nw b),x1.al,x1.lv⟩ (k1.kq.trans (sy f1 f2)) (E1.asgF E2 np f1 ho)
 | s j =>
  refine bsP e fun d st2 e2 e=>?_;refine bsO e fun s e3 e=>?_;cases e;obtain⟨O2,x2,k2,E2,da⟩:=rv.esc E1 e2;obtain⟨t,f1,f2,rfl⟩:=oM e3;exact q _ H1 O2 (x1.trans x2) ((k1.kq.trans k2.kq).trans (sy f1 f2)) (E2.asg f1 da)
end
end VF
namespace VF
open PySem L2
section
variable {K:Ab}{Y Y' O O' O1 O2 Z:AS}{H H' H1 H2:Hp}{v:V}{d:D}{vs:List V}{ds:List D}{a p:Addr}{st st' st1 st2:En}{σ σ':St}
def EU(fe:FE)(fg:FG):FS:=fun st=>(fe st).bind fun x=>(esc x.1 x.2).bind fun y=>(fg y.1 y.2).bind fun s=>some (.nx s)
def EV(h:RdE K te fe)(hg:RdG K g fg tg):RdS K (vW te g) (EU fe fg):=by
 intro st σ H O Z Dn E o e q;refine bsP e fun r st1 e1 e=>?_;refine bsP e fun d st2 e2 e=>?_;refine bsO e fun s e3 e=>?_;cases e;refine h st σ H O Z _ E r st1 e1 fun v H1 O1 x1 k1 E1 rv w1=>?_;obtain⟨O2,x2,k2,E2,da⟩:=rv.esc E1 e2;exact hg st2 σ H1 O2 Z v d _ E2 da s e3 fun σ' _ k3 E3=>q σ' H1 O2 (x1.trans x2) ((k1.kq.trans k2.kq).trans k3) E3
def f7(fg:FG)(B:FS):List D->FS
 | [],st=>some (.nx st)
 | x::r,st=>(fg x st).bind fun s1=>(B s1).bind fun o=>match o with
  | .nx s2=>f7 fg B r s2
  | .ct s2=>f7 fg B r s2
  | .bk s2=>some (.nx s2)
  | .rt y s2=>some (.rt y s2)
def ft(fi:FI)(fg:FG)(B:FS):FS:=fun st=>(fi st).bind fun x=>f7 fg B x.1 x.2
def sA(hi:RdI K wi fi)(hg:RdG K g fg tg)(hb:RdS K tb B):RdS K (NC wi g tb) (ft fi fg B):=by
 intro st σ H O Z Dn E o e q;refine bsP e fun items st1 e1 e=>?_;refine hi st σ H O Z _ E items st1 e1 fun J H1 O1 x1 k1 E1 it=>?_;have q1:=q.trans x1 (k1.kq (σ:=σ));refine⟨fun i m σ' H'=>m=items.length-i/\i<=items.length/\∃s O',Ext O1 H1 O' H'/\Kq st1 σ s σ'/\ER K s σ' H' O' Z/\f7 fg B (items.drop i) s=some o,⟨items.length,by simp,Xl _,st1,O1,Ext.refl _ _,Kq.refl _ _,E1,e⟩,?_⟩
 rintro i m σ' H' ⟨rfl,hle,s,O',x2,k2,E2,e2⟩;obtain⟨stop,go⟩:=it H' O' x2 E2.liv;by_cases hlt:i<items.length
 ·right;have hd:items.drop i=items[i]::items.drop (i+1):=Ym hlt;rw[hd]at e2;refine bsO e2 fun s1 e3 e2=>?_;refine bsO e2 fun o1 e4 e2=>?_;obtain⟨g1,g2⟩:=go i _ (Ya hlt);refine⟨g1,fun σ3 H3=>∃s O3,Ext O1 H1 O3 H3/\Kq st1 σ s σ3/\ER K s σ3 H3 O3 Z/\f7 fg B (items.drop (i+1)) s=some o,fun σ3 H3 ⟨s3,O3,x3,k3,E3,e3'⟩=>⟨items.length-(i+1),by lia,rfl,hlt,s3,O3,x3,k3,E3,e3'⟩,fun x H'' hy=>?_⟩
  obtain⟨sm,da⟩:=g2 x H'' hy;have xm:Ext O' H' O' H'':=Same.ext sm;refine hg s σ' H'' O' Z x _ _ (E2.same sm) da s1 e3 fun σ4 _ k4 E4=>?_;refine hb s1 σ4 H'' O' Z _ E4 o1 e4 ?_;have xx:=x2.trans xm;cases o1 with
  | nx s2=>exact fun σ5 H5 O5 x5 k5 E5=>⟨s2,O5,xx.trans x5,(k2.trans k4).trans k5,E5,e2⟩
  | ct s2=>exact fun σ5 H5 O5 x5 k5 E5=>⟨s2,O5,xx.trans x5,(k2.trans k4).trans k5,E5,e2⟩
  | bk s2 =>
   cases e2;exact fun σ5 H5 O5 x5 k5 E5=>q1 σ5 H5 O5 (xx.trans x5) ((k2.trans k4).trans k5) E5
  | rt y s2 =>
   cases e2;exact fun v σ5 H5 O5 x5 k5 E5 rv w=>q1 v σ5 H5 O5 (xx.trans x5) ((k2.trans k4).trans k5) E5 rv (w.back xx)
 ·left;have hn:items.drop i=[]:=Dy (by lia)
  rw[hn]at e2;cases e2;exact⟨stop i (by lia),q1 σ' H' O' x2 k2 E2⟩
def sWh(f:FT)(B:FS):Nat->FS
 | 0,_=>none
 | n+1,st=>(f st).bind fun x=>if x.1=true then(B x.2).bind fun o=>match o with
   | .nx s2=>sWh f B n s2
   | .ct s2=>sWh f B n s2
   | .bk s2=>some (.nx s2)
   | .rt y s2=>some (.rt y s2)
  else some (.nx x.2)
theorem ux(n:Nat)(hc:RdT K c f)(hb:RdS K tb B):RdS K (Ee c tb) (sWh f B n):=by
 intro st σ H O Z Dn E o e q;refine⟨fun m σ' H'=>∃s O',Ext O H O' H'/\Kq st σ s σ'/\ER K s σ' H' O' Z/\sWh f B m s=some o,⟨n,st,O,Ext.refl _ _,Kq.refl _ _,E,e⟩,?_⟩;rintro m σ' H' ⟨s,O',x2,k2,E2,e2⟩;cases m with
 | zero=>cases e2
 | succ m =>
  refine bsP e2 fun b s1 e3 e2=>?_;refine hc s σ' H' O' Z _ E2 b s1 e3 fun H3 O3 x3 k3 E3=>?_;have xx:=x2.trans x3;have kk:=k2.trans (k3.kq (σ:=σ'));cases b with
  | false =>
   simp only[Xf,if_false]at e2 ⊢;cases e2;exact q σ' H3 O3 xx kk E3
  | true =>
   rw[Ag rfl]at e2 ⊢;refine bsO e2 fun o1 e4 e2=>?_;refine⟨fun σ5 H5=>∃s O5,Ext O H O5 H5/\Kq st σ s σ5/\ER K s σ5 H5 O5 Z/\sWh f B m s=some o,fun σ5 H5 h=>⟨m,AW _,h⟩,?_⟩;refine hb s1 σ' H3 O3 Z _ E3 o1 e4 ?_;cases o1 with
   | nx s2=>exact fun σ5 H5 O5 x5 k5 E5=>⟨s2,O5,xx.trans x5,kk.trans k5,E5,e2⟩
   | ct s2=>exact fun σ5 H5 O5 x5 k5 E5=>⟨s2,O5,xx.trans x5,kk.trans k5,E5,e2⟩
   | bk s2 =>
    cases e2;exact fun σ5 H5 O5 x5 k5 E5=>q σ5 H5 O5 (xx.trans x5) (kk.trans k5) E5
   | rt y s2 =>
    cases e2;exact fun v σ5 H5 O5 x5 k5 E5 rv w=>q v σ5 H5 O5 (xx.trans x5) (kk.trans k5) E5 rv (w.back xx)
structure RdM(K:Ab)(T:String)(r:V->List V->Hp->VK->Prop)(ok:D->Bool)(m:D->List D->Option (D×D)):Prop where
 ty:∀(Y:AS)(H:Hp)(p:Addr)(x:D),OA K Y H p x->ok x=true->tyV K T (.ref p) H
 run:∀(Y:AS)(H:Hp)(p:Addr)(x:D)(vs:List V)(ds:List D)(y x':D)(Q:VK),Y p->OA K Y H p x->El K Y H vs ds->m x ds=some (y,x') ->
  (∀v o,DA K Y (upd H p o) v y->OA K Y (upd H p o) p x'->Q v (upd H p o))->r (.ref p) vs H Q
def fM(ok:D->Bool)(m:D->List D->Option (D×D))(i:Nat)(fa:FA):FE:=fun st=>(st[i]?).bind fun s0=>(s0.ow).bind fun x0=>if ok x0=true then(fa st).bind fun x=>(d8 x.1 x.2).bind fun y=>(y.2[i]?).bind fun s=>(s.ow).bind fun d=>(m d y.1).bind fun z=>some (.d z.1,y.2.set i (s.put z.2)) else none
def NP(hm:RdM K T r ok m)(ha:RdA K ta fa):RdE K (tBM K T r (vV i) ta) (fM ok m i fa):=by
 intro st σ H O Z Q E r0 st' h q;refine bsO h fun s0 f1 h=>?_;refine bsO h fun x0 f2 h=>?_;obtain⟨hok,h⟩:=aR h;refine bsP h fun rs st1 e1 h=>?_;refine bsP h fun ds st2 e2 h=>?_;refine bsO h fun s e3 h=>?_;refine bsO h fun x e4 h=>?_;refine bsP h fun y x' e5 h=>?_;cases h;obtain⟨p,g1,g2,g3⟩:=E.own i s0 x0 f1 f2;refine⟨.ref p,g1,hm.ty _ _ _ _ g3 hok,?_⟩;refine ha st σ H O Z _ E rs st1 e1 fun vs H1 O1 x1 k1 E1 rvs=>?_;obtain⟨O2,x2,k2,E2,el⟩:=rvs.esc E1 e2;obtain⟨p',j1,j2,j3⟩:=E2.own i s x e3 e4;have ep:p'=p:=by rw[g1]at j1;cases j1;rfl
 subst ep;refine hm.run (U O2 Z) H1 p' x vs ds y x' _ (.inl j2) j3 el e5 fun v o da ho=>?_;obtain⟨E3,x3,k3⟩:=E2.write e3 e4 g1 ho;exact q v _ O2 ((x1.trans x2).trans x3) ((k1.trans k2).trans k3) E3 da True.intro
def EW(K:Ab)(t:HU)(m:D->D->D->Option D):Prop:=∀(Y:AS)(H:Hp)(p:Addr)(x:D)(k v:V)(dk dv x':D)(Q:Hp->Prop),Y p->OA K Y H p x->BA K Y H k dk->DA K Y H v dv->m x dk dv=some x' ->
 (∀o,OA K Y (upd H p o) p x'->Q (upd H p o))->t (.ref p) k v H Q
def pA(m:D->D->D->Option D)(fe:FE)(i:Nat)(fi:FE):FS:=fun st=>(fe st).bind fun x=>(esc x.1 x.2).bind fun y=>(y.2[i]?).bind fun s0=>(s0.ow).bind fun _=>(fi y.2).bind fun w=>(cont w.2 w.1).bind fun dk=>(w.2[i]?).bind fun s=>(s.ow).bind fun z=>(m z dk y.1).bind fun z'=>some (.nx (w.2.set i (s.put z')))
def EX(hm:EW K t m)(he:RdE K te fe)(hi:RdE K ti fi):RdS K (vW te (NB (vV i) ti t)) (pA m fe i fi):=by
 intro st σ H O Z Dn E o e q;refine bsP e fun r st1 e1 e=>?_;refine bsP e fun dv st2 e2 e=>?_;refine bsO e fun s0 e3 e=>?_;refine bsO e fun x0 e4 e=>?_;refine bsP e fun rk st3 e5 e=>?_;refine bsO e fun dk e6 e=>?_;refine bsO e fun s e7 e=>?_;refine bsO e fun x e8 e=>?_;refine bsO e fun x' e9 e=>?_;cases e;refine he st σ H O Z _ E r st1 e1 fun v H1 O1 x1 k1 E1 rv w1=>?_;obtain⟨O2,x2,k2,E2,da⟩:=rv.esc E1 e2;obtain⟨p,g1,g2,g3⟩:=E2.own i s0 x0 e3 e4;refine⟨.ref p,g1,?_⟩;refine hi st2 σ H1 O2 Z _ E2 rk st3 e5 fun k H3 O3 x3 k3 E3 rk' w3=>?_;obtain⟨p',j1,j2,j3⟩:=E3.own i s x e7 e8;have ep:p'=p:=by rw[g1]at j1;cases j1;rfl
 subst ep;refine hm (U O3 Z) H3 p' x k v dk dv x' _ (.inl j2) j3 (rk'.ba E3 e6) (da.ext x3) e9 fun o ho=>?_;obtain⟨E4,x4,k4⟩:=E3.write e7 e8 g1 ho;exact q σ _ O3 (((x1.trans x2).trans x3).trans x4) (((k1.trans k2).trans k3).trans k4).kq E4
def kR(k:Nat)(caps:List Nat)(st:En):En:=List.replicate k Sl.e++caps.map fun i=>(st[i]?).getD .e
def rst(k:Nat)(s:En):En:=List.replicate k Sl.e++s.drop k
def wb:List Nat->En->En->En
 | i::r,s::sb,st=>wb r sb (st.set i s)
 | _,_,st=>st
def ci(fg:FG)(fc:FT)(fe:FE)(k:Nat):List D->En->Option (List D×En)
 | [],sb=>some ([],sb)
 | x::r,sb=>(fg x sb).bind fun s1=>(fc s1).bind fun c=>if c.1=true then(fe c.2).bind fun y=>(esc y.1 y.2).bind fun w=>(ci fg fc fe k r (rst k w.2)).bind fun z=>some (w.1::z.1,z.2)
  else ci fg fc fe k r (rst k c.2)
def sB(caps:List Nat)(n:Nat):Bool:=decide caps.Nodup&&caps.all fun i=>decide (i<n)
def ce(k:Nat)(caps:List Nat)(fi:FI)(fg:FG)(fc:FT)(fe:FE):FE:=fun st=>(fi st).bind fun x=>if (sB caps x.2.length&&decide (x.1.length<=1000000))=true then(ci fg fc fe k x.1 (kR k caps x.2)).bind fun y=>some (.f (.lst y.1),wb caps (y.2.drop k) x.2) else none
theorem wd:∀(caps:List Nat)(sb st:En),(wb caps sb st).length=st.length
 | [],_,_=>by simp[wb]
 | _::_,[],_=>by simp[wb]
 | i::r,s::sb,st=>by rw[wb,wd r sb];simp
theorem pB:∀(caps:List Nat)(sb st:En){i:Nat},i∉caps->(wb caps sb st)[i]?=st[i]?
 | [],_,_,_,_=>by simp[wb]
 | _::_,[],_,_,_=>by simp[wb]
 | j::r,s::sb,st,i,h=>by
  rw[wb,pB r sb _ (fun z=>h (Xb _ z))];exact aH fun z=>h (by rw[z];simp)
theorem EY:∀(caps:List Nat)(sb st:En){j i:Nat},caps.Nodup->sb.length=caps.length->caps[j]?=some i->i<st.length->(wb caps sb st)[i]?=sb[j]?
 | [],_,_,_,_,_,_,h,_=>by simp at h
 | _::_,[],_,_,_,_,h,_,_=>by simp at h
 | c::r,s::sb,st,0,i,nd,hl,h,hi=>by
  have e:c=i:=by simpa using h
  subst e;rw[wb,pB r sb _ (Wg.mp nd).1];rw[Bg,Ag rfl,Ag hi];rfl
 | c::r,s::sb,st,j+1,i,nd,hl,h,hi=>by
  rw[wb,EY r sb _ (j:=j) (Wg.mp nd).2 (by simpa using hl) (by simpa using h) (by simpa using hi)];rfl
def xP(h:caps[j]?=some i):(kR k caps st)[k+j]?=some ((st[i]?).getD .e):=by grind [kR]
def mB{s:Sl}(h:(kR k caps st)[i]?=some s)(n:s.get≠none):∃j i',i=k+j/\caps[j]?=some i'/\st[i']?=some s:=by
 unfold kR at h;by_cases hi:i<k
 ·rw[Vi (by simpa using hi),Zn,Ag hi]at h
  cases h;exact absurd rfl n
 ·rw[Yh (by simpa using hi),Wk,Qe]at h
  refine⟨i-k,?_⟩;obtain⟨i',e1,e2⟩:=Yf.mp h;refine⟨i',by lia,e1,?_⟩
  cases q:st[i']? with
  | none=>rw[q]at e2;subst e2;exact absurd rfl n
  | some t=>rw[q]at e2;subst e2;rfl
def ll(h:caps[j]?=some i):(blk k caps σ)[k+j]?=some ((σ[i]?).getD none):=by grind [blk]
def jL{s:Sl}(h:s.ow=some d):s.get≠none:=by cases s<;>first|(cases h;done)|simp[Sl.get]
def EZ{l:List Nat}{j j' i:Nat}(nd:l.Nodup)(h:l[j]?=some i)(h':l[j']?=some i):j=j':=by
 obtain⟨h1,h2⟩:=Wc.mp h;obtain⟨h3,h4⟩:=Wc.mp h';exact(List.getElem_inj nd).mp (h2.trans h4.symm)
def Ob(caps:List Nat)(st:En)(σ:St):AS:=fun p=>∃i∈caps,∃s d,st[i]?=some s/\s.ow=some d/\σ[i]?=some (some (.ref p))
def Zb(caps:List Nat)(st:En)(σ:St)(O Z:AS):AS:=fun p=>Z p∨(O p/\¬ Ob caps st σ p)
def Ob.o(E:ER K st σ H O Z)(h:Ob caps st σ q):O q:=by
 obtain⟨i,_,s,d,h1,h2,h3⟩:=h;obtain⟨p,g1,g2,_⟩:=E.own i s d h1 h2;rw[h3]at g1;cases g1;exact g2
def LP{k:Nat}{caps:List Nat}(E:ER K st σ H O Z)(nd:caps.Nodup):ER K (kR k caps st) (blk k caps σ) H (Ob caps st σ) (Zb caps st σ O Z):=by
 have up:∀b,U (Ob caps st σ) (Zb caps st σ O Z) b->U O Z b:=fun b z=>z.elim (fun y=>.inl (Ob.o E y)) fun y=>y.elim .inr fun w=>.inl w.1;refine⟨by simp[kR,blk],fun i d h=>?_,fun i s d h1 h2=>?_,fun i j s t d d' p h1 h2 h3 h4 h5 h6=>?_,fun p h z=>?_,fun p h=>E.liv p (up p h)⟩
 ·obtain⟨j,i',rfl,hc,hs⟩:=mB h (by simp[Sl.get])
  obtain⟨v,g1,g2⟩:=E.val i' d hs;exact⟨v,by rw[ll hc,g1];rfl,g2.less up⟩
 ·obtain⟨j,i',rfl,hc,hs⟩:=mB h1 (jL h2);obtain⟨p,g1,g2,g3⟩:=E.own i' s d hs h2;exact⟨p,by rw[ll hc,g1];rfl,⟨i',Wb hc,s,d,hs,h2,g1⟩,g3.go rfl (fun _ _ e _=>e) fun b z=>.inl (up b z)⟩
 ·obtain⟨j1,i1,rfl,c1,s1⟩:=mB h1 (jL h2);obtain⟨j2,i2,rfl,c2,s2⟩:=mB h3 (jL h4);obtain⟨p1,g1,_⟩:=E.own i1 s d s1 h2;obtain⟨p2,g2,_⟩:=E.own i2 t d' s2 h4;rw[ll c1,g1]at h5;rw[ll c2,g2]at h6;have e1:p1=p:=by simpa using h5
  have e2:p2=p:=by simpa using h6
  subst e1;subst e2;have e:=E.uni i1 i2 s t d d' _ s1 h2 s2 h4 g1 g2;subst e;rw[EZ nd c1 c2]
 ·rcases z with z|z
  ·exact E.dis p (Ob.o E h) z
  ·exact z.2 h
def E8{τ τ':St}(E:ER K st τ H O Z)(hl:τ'.length=τ.length)(hk:k<=st.length)(h:∀j,k<=j->τ'[j]?=τ[j]?):ER K (rst k st) τ' H O Z:=by
 have at_:∀(i:Nat) s,(rst k st)[i]?=some s->s.get≠none->k<=i/\st[i]?=some s:=fun i s e n=>by
  unfold rst at e;by_cases hi:i<k
  ·rw[Vi (by simpa using hi),Zn,Ag hi]at e
   cases e;exact absurd rfl n
  ·rw[Yh (by simpa using hi),Wk,Xg]at e
   have:k+(i-k)=i:=by lia
   rw[this]at e;exact⟨by lia,e⟩
 refine⟨?_,fun i d e=>?_,fun i s d e1 e2=>?_,fun i j s t d d' p e1 e2 e3 e4 e5 e6=>?_,E.dis,E.liv⟩
 ·rw[hl,← E.len];simp[rst];lia
 ·obtain⟨hk,e⟩:=at_ i _ e (by simp[Sl.get])
  obtain⟨v,g1,g2⟩:=E.val i d e;exact⟨v,by rw[h i hk];exact g1,g2⟩
 ·obtain⟨hk,e⟩:=at_ i _ e1 (jL e2);obtain⟨p,g1,g2⟩:=E.own i s d e e2;exact⟨p,by rw[h i hk];exact g1,g2⟩
 ·obtain⟨hk1,e1⟩:=at_ i _ e1 (jL e2);obtain⟨hk2,e3⟩:=at_ j _ e3 (jL e4);rw[h i hk1]at e5;rw[h j hk2]at e6;exact E.uni i j s t d d' p e1 e2 e3 e4 e5 e6
def Oo(caps:List Nat)(st:En)(σ:St)(O Oi:AS):AS:=fun p=>Oi p∨(O p/\¬ Ob caps st σ p)
def we(E:ER K st σ H O Z)(x:Ext (Ob caps st σ) H Oi H'):Ext O H (Oo caps st σ O Oi) H' :=
 ⟨fun b o e n=>x.kp b o e fun z=>n (Ob.o E z),fun b z=>z.elim (fun y=>(x.nw b y).elim (fun w=>.inl (Ob.o E w)) .inr) fun y=>.inl y.1,x.al,x.lv⟩
def E9{caps:List Nat}{sb:En}(E:ER K st σ H O Z)(nd:caps.Nodup)(lt:∀i∈caps,i<st.length)(hl:sb.length=k+caps.length)(x:Ext (Ob caps st σ) H Oi H')(B:ER K sb (blk k caps σ) H' Oi (Zb caps st σ O Z)) :
  ER K (wb caps (sb.drop k) st) σ H' (Oo caps st σ O Oi) Z:=by
 have dl:(sb.drop k).length=caps.length:=by rw[Zf];lia
 have cap:∀(j i:Nat),caps[j]?=some i->(wb caps (sb.drop k) st)[i]?=sb[k+j]?:=fun j i h=>by
  rw[EY caps _ st nd dl h (lt i (Wb h)),Xg]
 have out:∀i,i∉caps->(wb caps (sb.drop k) st)[i]?=st[i]?:=fun i h=>pB caps _ st h;have same:∀b,U (Oo caps st σ O Oi) Z b->U Oi (Zb caps st σ O Z) b:=fun b z=>by
  rcases z with(z|z)|z
  ·exact .inl z
  ·exact .inr (.inr z)
  ·exact .inr (.inl z)
 have kp:∀b o,H b=some o->¬ U O Z b->H' b=some o:=fun b o e n=>x.kp b o e fun z=>n (.inl (Ob.o E z));have nn:∀b,U (Oo caps st σ O Oi) Z b->U O Z b∨H b=none:=fun b z=>by
  rcases z with z|z
  ·exact((we E x).nw b z).elim (fun y=>.inl (.inl y)) .inr
  ·exact .inl (.inr z)
 have nob:∀(i:Nat) s d p,i∉caps->st[i]?=some s->s.ow=some d->σ[i]?=some (some (.ref p))->¬ Ob caps st σ p:=fun i s d p hn h1 h2 h3 z=>by
  obtain⟨i0,hm,s0,d0,g1,g2,g3⟩:=z;have:=E.uni i i0 s s0 d d0 p h1 h2 g1 g2 h3 g3;subst this;exact hn hm
 have bget:∀{j i:Nat}{v:V},caps[j]?=some i->(blk k caps σ)[k+j]?=some (some v)->σ[i]?=some (some v):=fun {j i v} hc hb=>by
  rw[ll hc]at hb;have hb':=Option.some.inj hb;cases q:σ[i]? with
  | none=>rw[q]at hb';cases hb'
  | some w=>rw[q]at hb';have:w=some v:=hb';rw[this]
 have own:∀(i:Nat) s d,(wb caps (sb.drop k) st)[i]?=some s->s.ow=some d->(∃j,caps[j]?=some i/\sb[k+j]?=some s)∨(i∉caps/\st[i]?=some s):=fun i s d h1 _=>by
  by_cases hc:i∈caps
  ·obtain⟨j,hj⟩:=AU hc;rw[cap j i hj]at h1;exact .inl ⟨j,hj,h1⟩
  ·rw[out i hc]at h1;exact .inr ⟨hc,h1⟩
 refine⟨by rw[wd];exact E.len,fun i d h=>?_,fun i s d h1 h2=>?_,fun i j s t d d' p h1 h2 h3 h4 h5 h6=>?_,fun p h=>?_,fun p h=>?_⟩
 ·by_cases hc:i∈caps
  ·obtain⟨j,hj⟩:=AU hc;rw[cap j i hj]at h;obtain⟨v,g1,g2⟩:=B.val _ d h;exact⟨v,bget hj g1,g2.less same⟩
  ·rw[out i hc]at h;obtain⟨v,g1,g2⟩:=E.val i d h;exact⟨v,g1,g2.go kp nn⟩
 ·rcases own i s d h1 h2 with⟨j,hj,hs⟩|⟨hc,hs⟩
  ·obtain⟨p,g1,g2,g3⟩:=B.own _ s d hs h2;exact⟨p,bget hj g1,.inl g2,g3.go rfl (fun _ _ e _=>e) fun b z=>.inl (same b z)⟩
  ·obtain⟨p,g1,g2,g3⟩:=E.own i s d hs h2;have nb:=nob i s d p hc hs h2 g1;refine⟨p,g1,.inr ⟨g2,nb⟩,g3.go ?_ kp nn⟩;cases q:H p with
   | none=>exact absurd q g3.live
   | some o=>exact x.kp p o q nb
 ·rcases own i s d h1 h2 with⟨j1,c1,s1⟩|⟨c1,s1⟩<;>rcases own j t d' h3 h4 with⟨j2,c2,s2⟩|⟨c2,s2⟩
  ·have e:=B.uni _ _ s t d d' p s1 h2 s2 h4 (by rw[ll c1,h5];rfl) (by rw[ll c2,h6];rfl)
   have e':j1=j2:=by lia
   subst e';rw[c1]at c2;exact Option.some.inj c2
  ·exfalso
   obtain⟨q,g1,g2,_⟩:=B.own _ s d s1 h2;have:=bget c1 g1;rw[h5]at this;cases this;have nb:=nob j t d' p c2 s2 h4 h6;obtain⟨q2,k1,_,k3⟩:=E.own j t d' s2 h4;rw[h6]at k1;cases k1;exact(x.nw p g2).elim nb k3.live
  ·exfalso
   obtain⟨q,g1,g2,_⟩:=B.own _ t d' s2 h4;have:=bget c2 g1;rw[h6]at this;cases this;have nb:=nob i s d p c1 s1 h2 h5;obtain⟨q2,k1,_,k3⟩:=E.own i s d s1 h2;rw[h5]at k1;cases k1;exact(x.nw p g2).elim nb k3.live
  ·exact E.uni i j s t d d' p s1 h2 s2 h4 h5 h6
 ·rcases h with h|h
  ·exact fun z=>B.dis p h (.inl z)
  ·exact E.dis p h.1
 ·rcases h with(h|h)|h
  ·exact B.liv p (.inl h)
  ·exact x.lv p (E.liv p (.inl h.1))
  ·exact x.lv p (E.liv p (.inr h))
def Fb{a b:En}(h0:∀(i:Nat) s,a[i]?=some s->i<k->s=.e)(h:Kp a b)(hk:k<=b.length):Kp a (rst k b):=by
 have lk:(rst k b).length=b.length:=by simp[rst];lia
 have at_:∀i,k<=i->(rst k b)[i]?=b[i]?:=fun i hi=>by
  unfold rst;rw[Yh (by simpa using hi),Wk,Xg]
  congr 1;lia
 refine⟨lk.trans h.len,fun i s e g=>?_,fun i d e=>?_⟩
 ·by_cases hi:i<k
  ·have:=h0 i s e hi;subst this;exact absurd rfl g
  ·obtain⟨s',e',g'⟩:=h.has i s e g;exact⟨s',by rw[at_ i (by lia)];exact e',g'⟩
 ·by_cases hi:i<k
  ·have:=h0 i _ e hi;cases this
  ·obtain⟨d',e'⟩:=h.io i d e;exact⟨d',by rw[at_ i (by lia)];exact e'⟩
def NQ{caps:List Nat}{sb:En}(nd:caps.Nodup)(lt:∀i∈caps,i<st.length)(hl:sb.length=k+caps.length)(h:Kp (kR k caps st) sb):Kp st (wb caps (sb.drop k) st):=by
 have dl:(sb.drop k).length=caps.length:=by rw[Zf];lia
 have cap:∀(j i:Nat),caps[j]?=some i->(wb caps (sb.drop k) st)[i]?=sb[k+j]?:=fun j i h=>by
  rw[EY caps _ st nd dl h (lt i (Wb h)),Xg]
 refine⟨wd _ _ _,fun i s e g=>?_,fun i d e=>?_⟩
 ·by_cases hc:i∈caps
  ·obtain⟨j,hj⟩:=AU hc;rw[cap j i hj];exact h.has (k+j) s (by rw[xP hj,e];rfl) g
  ·exact⟨s,by rw[pB _ _ _ hc];exact e,g⟩
 ·by_cases hc:i∈caps
  ·obtain⟨j,hj⟩:=AU hc;rw[cap j i hj];exact h.io (k+j) d (by rw[xP hj,e];rfl)
  ·exact⟨d,by rw[pB _ _ _ hc];exact e⟩
def sC(i:Nat)(s:Sl)(h:(kR k caps st)[i]?=some s)(hi:i<k):s=.e:=by grind [Sl,kR]
def ItC(K:Ab)(Z:AS)(caps:List Nat)(st:En)(σ:St)(J:It)(items:List D)(H:Hp)(O:AS):Prop:=∀H' Oi,Ext (Ob caps st σ) H Oi H'->(∀p,U (Oo caps st σ O Oi) Z p->Lv H' p)->(∀i,items.length<=i->J.stop i H')/\∀(i:Nat) d,items[i]?=some d->J.go i H'/\∀x H'',J.yld i H' x H''->Same H' H''/\DA K (U (Oo caps st σ O Oi) Z) H'' x d
def NR(K:Ab)(caps:List Nat)(wi:TI)(fi:FI):Prop:=∀(st:En)(σ:St)(H:Hp)(O Z:AS)(R:It->Hp->Prop),ER K st σ H O Z->∀items st',fi st=some (items,st') ->
 (∀J H' O',Ext O H O' H'->Kp st st'->ER K st' σ H' O' Z->ItC K Z caps st' σ J items H' O'->R J H')->wi σ H R
def RdI.ic(h:RdI K wi fi):NR K caps wi fi:=fun st σ H O Z R E items st' e q =>
 h st σ H O Z R E items st' e fun J H1 O1 x1 k1 E1 it=>q J H1 O1 x1 k1 E1 fun H' Oi x2 lv=>it H' _ (we E1 x2) lv
def Fc(hi:NR K caps wi fi)(hg:RdG K g fg tg)(ht:∀j∈tg,j<k)(hc:RdT K tc fc)(he:RdE K te fe) :
  RdE K (qT k caps wi g tc te) (ce k caps fi fg fc fe):=by
 intro st σ H O Z Q E r st' h q;refine bsP h fun items st1 e1 h=>?_;by_cases hok:(sB caps st1.length&&decide (items.length<=1000000))=true
 rotate_left
 ·simp only[Ak hok]at h;cases h
 simp only[Ag hok]at h;refine bsP h fun total sf e2 h=>?_;cases h;have hok1:caps.Nodup/\(∀i∈caps,i<st1.length)/\items.length<=1000000:=by
  rw[Vh,decide_eq_true_eq]at hok;unfold sB at hok;rw[Vh,decide_eq_true_eq,Zl]at hok;exact⟨hok.1.1,fun i hi=>Am (hok.1.2 i hi),hok.2⟩
 obtain⟨nd,lt,hfew⟩:=hok1;refine hi st σ H O Z _ E items st1 e1 fun J H1 O1 x1 k1 E1 it=>?_;have bl:(blk k caps σ).length=k+caps.length:=by simp[blk]
 have el:(kR k caps st1).length=k+caps.length:=by simp[kR]
 refine⟨items.length,fun i xs H'=>∃sb Oi ds ds2,Ext (Ob caps st1 σ) H1 Oi H'/\ER K sb (blk k caps σ) H' Oi (Zb caps st1 σ O1 Z)/\El K (U Oi (Zb caps st1 σ O1 Z)) H' xs ds/\ci fg fc fe k (items.drop i) sb=some (ds2,sf)/\ds++ds2=total/\Kp (kR k caps st1) sb/\xs.length<=i,
  ⟨kR k caps st1,Ob caps st1 σ,[],total,Ext.refl _ _,LP E1 nd,El.nil,e2,rfl,Kp.refl _,Va _⟩,?_,?_⟩
 ·rintro xs H' ⟨sb,Oi,ds,ds2,x2,B,exs,e3,ed,kb,_⟩;rw[Dy (Va _)]at e3;obtain⟨rfl,rfl⟩:([]:List D)=ds2/\sb=sf:=by
   have:=Option.some.inj e3;exact⟨congrArg Prod.fst this,congrArg Prod.snd this⟩
  rw[Xc]at ed;subst ed;obtain⟨stop,_⟩:=it H' Oi x2 (E9 E1 nd lt (kb.len.trans el) x2 B).liv;refine⟨stop _ (Va _),fun p hp=>?_⟩;have sl:sb.length=k+caps.length:=kb.len.trans el;have Eo:=E9 E1 nd lt sl x2 B;have ko:=NQ nd lt sl kb;have el2:El K (U (Oo caps st1 σ O1 Oi) Z) H' xs ds:=exs.less fun b z=>by
   rcases z with(z|z)|z
   ·exact .inl z
   ·exact .inr (.inr z)
   ·exact .inr (.inl z)
  obtain⟨E3,rv⟩:=Eo.new hp el2;have xx:=x1.trans (we E1 x2);exact q _ _ _ (xx.trans (Same.ext (bw hp _))) (k1.trans ko) E3 rv fun p' e=>by cases e;exact xx.dead hp
 ·rintro i xs H' hlt ⟨sb,Oi,ds,ds2,x2,B,exs,e3,ed,kb,hxl⟩;have hd:items.drop i=items[i]::items.drop (i+1):=Ym hlt;rw[hd]at e3;refine bsO e3 fun s1 e4 e3=>?_;refine bsP e3 fun c s2 e5 e3=>?_;obtain⟨_,go⟩:=it H' Oi x2 (E9 E1 nd lt (kb.len.trans el) x2 B).liv;obtain⟨g1,g2⟩:=go i _ (Ya hlt);refine⟨g1,AI hxl (Vc hlt (few hfew)),fun x H'' hy=>?_⟩;obtain⟨sm,da⟩:=g2 x H'' hy;have xm:Ext Oi H' Oi H'':=Same.ext sm;have da':DA K (U Oi (Zb caps st1 σ O1 Z)) H'' x items[i]:=da.less fun b z=>by
   rcases z with z|z|z
   ·exact .inl (.inl z)
   ·exact .inr z
   ·exact .inl (.inr z)
  refine hg sb _ H'' Oi _ x _ _ (B.same sm) da' s1 e4 fun τ kt kq3 E4=>?_;have sl:sb.length=k+caps.length:=kb.len.trans el;have tl:τ.length=(blk k caps σ).length:=by rw[← E4.len,kq3.len,sl,bl]
  have tk:∀j,k<=j->(blk k caps σ)[j]?=τ[j]?:=fun j hj=>((kt j fun z=>absurd (ht j z) (by lia)).1).symm
  have drop:τ.drop k=(blk k caps σ).drop k:=by
   refine CS fun j=>?_;rw[Xg,Xg];exact(tk _ (by lia)).symm
  have kp1:Kp (kR k caps st1) s1:=by
   refine⟨kq3.len.trans kb.len,fun j s e g=>?_,fun j d e=>?_⟩
   ·by_cases hj:j<k
    ·have:=sC j s e hj;subst this;exact absurd rfl g
    ·obtain⟨s',e',g'⟩:=kb.has j s e g;exact⟨s',by rw[(kt j fun z=>absurd (ht j z) (by lia)).2];exact e',g'⟩
   ·by_cases hj:j<k
    ·have:=sC j _ e hj;cases this
    ·obtain⟨d',e'⟩:=kb.io j d e;exact⟨d',by rw[(kt j fun z=>absurd (ht j z) (by lia)).2];exact e'⟩
  refine hc s1 τ H'' Oi _ _ E4 c s2 e5 fun H3 O3 x3 k3 E5=>?_;have kp2:=kp1.trans k3;cases c with
  | false =>
   simp only[Xf,if_false]at e3 ⊢;have hs2:k<=s2.length:=by rw[kp2.len,el];lia
   exact⟨drop,rst k s2,O3,ds,ds2,(x2.trans xm).trans x3,E8 E5 tl.symm hs2 tk,exs.ext (xm.trans x3),e3,ed,Fb sC kp2 hs2,by lia⟩
  | true =>
   rw[Ag rfl]at e3 ⊢;refine bsP e3 fun ry s3 e6 e3=>?_;refine bsP e3 fun dy s4 e7 e3=>?_;refine bsP e3 fun ds3 sf' e8 e3=>?_;cases e3;refine he s2 τ H3 O3 _ _ E5 ry s3 e6 fun y H4 O4 x4 k4 E6 rv w=>?_;obtain⟨O5,x5,k5,E7,day⟩:=rv.esc E6 e7;have kp3:=(kp2.trans k4).trans k5;have hs4:k<=s4.length:=by rw[kp3.len,el];lia
   refine⟨drop,rst k s4,O5,ds++[dy],ds3,(((x2.trans xm).trans x3).trans x4).trans x5,E8 E7 tl.symm hs4 tk,(exs.ext (((xm.trans x3).trans x4).trans x5)).app (El.one day),e8,by rw[Qb];exact ed,Fb sC kp3 hs4,by simp;lia⟩
def oN(hi:RdI K wi fi)(hg:RdG K g fg tg)(ht:∀j∈tg,j<k)(hc:RdT K tc fc)(he:RdE K te fe) :
  RdE K (qT k caps wi g tc te) (ce k caps fi fg fc fe):=Fc hi.ic hg ht hc he
def iY(n:Nat)(ds:List D):En:=ds.map Sl.v++List.replicate (n-ds.length) Sl.e
def LQ(st:En):Rs->Option Rz
 | .d x=>some (x,false)
 | .f x=>some (x,true)
 | .s i=>match st[i]? with
  | some (.o x)=>some (x,true)
  | some (.v x)=>some (x,false)
  | _=>none
def fin:Ot->Option Rz
 | .nx _=>some (.non,false)
 | .rt r st=>LQ st r
 | _=>none
def bz(F:FS)(n m:Nat):List D->Option Rz:=fun ds=>if ds.length=m then(F (iY n ds)).bind fin else none
def Fd{N:List Str}(el:El K Z H vs ds)(lv:∀p,Z p->Lv H p):ER K (iY N.length ds) (L2.start N vs) H (fun _=>False) Z:=by
 have gv:∀(i:Nat) s,(iY N.length ds)[i]?=some s->s.get≠none->∃d,s=.v d/\ds[i]?=some d:=fun i s e n=>by
  unfold iY at e;by_cases hi:i<ds.length
  ·rw[Vi (by simpa using hi),Qe]at e
   obtain⟨d,h1,h2⟩:=Yf.mp e;exact⟨d,h2.symm,h1⟩
  ·rw[Yh (by simpa using hi),Zn]at e
   by_cases hz:i-(ds.map Sl.v).length<N.length-ds.length
   ·rw[Ag hz]at e;cases e;exact absurd rfl n
   ·rw[Ak hz]at e;cases e
 have no:∀(i:Nat) s d,(iY N.length ds)[i]?=some s->s.ow=some d->False:=fun i s d e h=>by
  obtain⟨x,rfl,_⟩:=gv i s e (jL h);cases h
 refine⟨by simp[iY,L2.start,el.1],fun i d e=>?_,fun i s d e h=>(no i s d e h).elim,fun i j s t d d' p e h=>(no i s d e h).elim,fun p h=>h.elim,fun p h=>h.elim (fun z=>z.elim) (lv p)⟩
 obtain⟨x,h1,h2⟩:=gv i _ e (by simp[Sl.get])
 cases h1;obtain⟨v,g1,g2⟩:=el.at h2;refine⟨v,?_,g2.less fun b z=>z.elim (fun y=>y.elim) fun y=>y⟩;unfold L2.start;have hi:=(Wc.mp g1).1;rw[Vi (by simpa using hi),Qe,g1];rfl
def Im{N:List Str}(h:RdS K ts F)(sp:spV K (bz F N.length m) vs H Q XE):ts { nx:=fun _ H'=>Q .non H',rt:=Q } (L2.start N vs) H:=by
 obtain⟨Z,ds,z,el,lv,e,q⟩:=sp;have hm:ds.length=m:=by
  by_cases hm:ds.length=m
  ·exact hm
  ·simp only[bz,Ak hm]at e;cases e
 simp only[bz,Ag hm]at e;refine bsO e fun o e1 e2=>?_;have same:∀{O':AS}{H':Hp},Ext (fun _=>False) H O' H'->Same H H':=fun {O' H'} x b o e=>x.kp b o e fun z=>z;refine h _ _ H _ Z _ (Fd el lv) o e1 ?_;cases o with
 | nx s =>
  cases e2;exact fun σ' H' O' x _ _=>q .non H' (same x) .non
 | bk s=>cases e2
 | ct s=>cases e2
 | rt r s =>
  intro v σ' H' O' x k E rv w;have sub:∀b,Z b->U O' Z b:=fun b z=>.inr z;cases r with
  | d y=>cases e2;exact q v H' (same x) (DA.less (show DA K (U O' Z) H' v y from rv) sub)
  | f y =>
   cases e2;obtain⟨p,rfl,h1,h2,h3,_⟩:=rv;exact q _ H' (same x) ⟨p,rfl,w p rfl,h3.go rfl (fun _ _ e _=>e) fun b z=>.inl (z.elim .inl fun y=>.inr (.inr y))⟩
  | s i =>
   obtain⟨h1,t,h2,h3⟩:=rv
   have e2':(match s[i]? with
    | some (.o x)=>some (x,true)
    | some (.v x)=>some (x,false)
    | _=>none)=some z:=e2
   rw[h2]at e2';cases t with
   | e=>cases e2'
   | io y=>cases e2'
   | v y =>
    cases e2';obtain⟨u,g1,g2⟩:=E.val i y h2;rw[h1]at g1;cases g1;exact q v H' (same x) (g2.less sub)
   | o y =>
    cases e2';obtain⟨p,g1,g2,g3⟩:=E.own i _ y h2 rfl;rw[h1]at g1;cases g1;refine q _ H' (same x) ⟨p,rfl,(x.nw p g2).elim (fun z=>z.elim) (fun z=>z),g3.go rfl (fun _ _ e _=>e) fun b z=>.inl (z.elim (fun y=>.inl (by rw[y];exact g2)) fun y=>.inr y)⟩
def iq(n:Nat)(x:D)(ds:List D):En:=Sl.io x::(ds.map Sl.v++List.replicate (n-(ds.length+1)) Sl.e)
def zz(z:Option Rz)(st:En):Option (Rz×D):=match st[0]? with
 | some (Sl.io x)=>z.bind fun y=>some (y,x)
 | _=>none
def Kn:Ot->Option (Rz×D)
 | .nx st=>zz (some (.non,false)) st
 | .rt r st=>zz (LQ st r) st
 | _=>none
def cV(F:FS)(n m:Nat):D->List D->Option (Rz×D):=fun x ds=>if ds.length+1=m then(F (iq n x ds)).bind Kn else none
def zF{N : List Str}(nz : ¬ Z f)(ho : OA K (ins f Z) H f x)(el : El K (ins f Z) H ws ds)(lv : ∀ p, Z p → Lv H p) : ER K (iq N.length x ds) (L2.start N (.ref f :: ws)) H (fun b => b = f) Z := by
  have gv : ∀ (i : Nat) s, (iq N.length x ds)[i]? = some s → s.get ≠ none → (i = 0 ∧ s = .io x) ∨ ∃ j d, i = j + 1 ∧ s = .v d ∧ ds[j]? = some d := fun i s e n => by
    cases i with
    | zero => left; exact ⟨rfl, by have : Sl.io x = s := by simpa [iq] using e
                                   exact this.symm⟩
    | succ j =>
      right;have e : (ds.map Sl.v ++ List.replicate (N.length - (ds.length + 1)) Sl.e)[j]? = some s := by simpa [iq] using e
      by_cases hi : j < ds.length
      · rw [BJ (by simpa using hi), CQ] at e
        obtain ⟨d, h1, h2⟩ := Option.map_eq_some_iff.mp e;exact ⟨j, d, rfl, h2.symm, h1⟩
      · rw [Df (by simpa using hi), Dr] at e
        by_cases hz : j - (ds.map Sl.v).length < N.length - (ds.length + 1)
        · rw [Ag hz] at e; cases e; exact absurd rfl n
        · rw [Ak hz] at e; cases e
  have s0 : (L2.start N (.ref f :: ws))[0]? = some (some (.ref f)) := by simp [L2.start]
  have own0 : ∀ (i : Nat) s d, (iq N.length x ds)[i]? = some s → s.ow = some d → i = 0 ∧ d = x := fun i s d e h => by
    rcases gv i s e (jL h) with ⟨h1, rfl⟩ | ⟨j, d', _, rfl, _⟩
    · cases h; exact ⟨h1, rfl⟩
    · cases h
  refine ⟨by simp [iq, L2.start, el.1], fun i d e => ?_, fun i s d e h => ?_, fun i j s t d d' p e h e' h' _ _ => ?_, fun p h => by rw [h]; exact nz, fun p h => ?_⟩
  · rcases gv i _ e (by simp [Sl.get]) with ⟨_, h⟩ | ⟨j, d', rfl, h, h2⟩
    · cases h
    · cases h
      obtain ⟨v, g1, g2⟩ := el.at h2;refine ⟨v, ?_, g2⟩;have hi := (List.getElem?_eq_some_iff.mp g1).1;unfold L2.start;rw [BJ (by simp; lia), CQ]
      simp [g1]
  · obtain ⟨rfl, rfl⟩ := own0 i s d e h
    exact ⟨f, s0, rfl, ho⟩
  · rw [(own0 i s d e h).1, (own0 j t d' e' h').1]
  · rcases h with h | h
    · rw [h]; exact ho.lv
    · exact lv p h
def qU{N:List Str}(h:RdS K ts F)(sp:jK K (cV F N.length m) vs H Q XE):ts { nx:=fun _ H'=>Q .non H',rt:=Q } (L2.start N vs) H:=by
 obtain⟨f,ws,Z,x,ds,z,x',rfl,nz,ho,el,lv,e,q⟩:=sp;have hm:ds.length+1=m:=by
  by_cases hm:ds.length+1=m
  ·exact hm
  ·simp only[cV,Ak hm]at e;cases e
 simp only[cV,Ag hm]at e;refine bsO e fun o e1 e2=>?_;have but:∀{O':AS}{H':Hp},Ext (fun b=>b=f) H O' H'->∀b o,H b=some o->b≠f->H' b=some o:=fun {O' H'} x b o e n=>x.kp b o e n;have i0:(iq N.length x ds)[0]?=some (.io x):=rfl;have s0:(L2.start N (.ref f::ws))[0]?=some (some (.ref f)):=by simp[L2.start]
 have f0:∀{s:En}{σ':St}{H':Hp}{O':AS}{y:D},Kq (iq N.length x ds) (L2.start N (.ref f::ws)) s σ'->ER K s σ' H' O' Z->s[0]?=some (.io y)->O' f/\OA K (U O' Z) H' f y:=fun {s σ' H' O' y} k E e=>by
  obtain⟨g1,_⟩:=k.io 0 x i0;obtain⟨p,h1,h2,h3⟩:=E.own 0 _ y e rfl;rw[g1,s0]at h1;cases h1;exact⟨h2,h3⟩
 refine h _ _ H _ Z _ (zF nz ho el lv) o e1 ?_;cases o with
 | bk s=>cases e2
 | ct s=>cases e2
 | nx s =>
  intro σ' H' O' x2 k E;have e3:zz (some (.non,false)) s=some (z,x'):=e2;unfold zz at e3;split at e3
  ·rename_i y ey
   cases e3;obtain⟨h1,h2⟩:=f0 k E ey;exact q .non H' (but x2) ⟨.non,h2.go rfl (fun _ _ e _=>e) fun b z=>.inl (z.elim (fun w=>.inl (by rw[w];exact h1)) .inr)⟩
  ·cases e3
 | rt r s =>
  intro v σ' H' O' x2 k E rv w;have e3:zz (LQ s r) s=some (z,x'):=e2;unfold zz at e3;split at e3
  ·rename_i y ey
   refine bsO e3 fun z' e4 e3=>?_;cases e3;obtain⟨h1,h2⟩:=f0 k E ey;have sub:∀b,ins f Z b->U O' Z b:=fun b z=>z.elim (fun w=>.inl (by rw[w];exact h1)) .inr
   cases r with
   | d u=>cases e4;exact q v H' (but x2) ⟨DA.less (show DA K (U O' Z) H' v u from rv) sub,h2.go rfl (fun _ _ e _=>e) fun b z=>.inl (sub b z)⟩
   | f u =>
    cases e4;obtain⟨p,rfl,g1,g2,g3,E2⟩:=rv;obtain⟨h3,h4⟩:=f0 k E2 ey;exact q _ H' (but x2) ⟨p,rfl,w p rfl,g3.go rfl (fun _ _ e _=>e) (fun b z=>.inl (z.elim .inl fun y=>.inr (sub b y))),h4.go rfl (fun _ _ e _=>e) fun b z=>.inl (z.elim (fun y=>.inl (.inl y)) fun y=>(sub b y).elim (fun a=>.inl (.inr a)) .inr)⟩
   | s i =>
    obtain⟨g1,t,g2,g3⟩:=rv
    have e5:(match s[i]? with
     | some (.o x)=>some (x,true)
     | some (.v x)=>some (x,false)
     | _=>none)=some z:=e4
    rw[g2]at e5;cases t with
    | e=>cases e5
    | io u=>cases e5
    | v u =>
     cases e5;obtain⟨u',j1,j2⟩:=E.val i u g2;rw[g1]at j1;cases j1;exact q v H' (but x2) ⟨j2.less sub,h2.go rfl (fun _ _ e _=>e) fun b z=>.inl (sub b z)⟩
    | o u =>
     cases e5;obtain⟨p,j1,j2,j3⟩:=E.own i _ u g2 rfl;rw[g1]at j1;cases j1;have npf:p≠f:=fun z=>by
      subst z;obtain⟨p0,l1,_⟩:=E.own 0 _ _ ey rfl;obtain⟨l2,_⟩:=k.io 0 x i0;rw[l2,s0]at l1;cases l1;have:=E.uni i 0 _ _ u _ _ g2 rfl ey rfl g1 (by rw[l2,s0])
      subst this;rw[ey]at g2;cases g2
     have hp:H p=none:=(x2.nw p j2).elim (fun z=>absurd z npf) (fun z=>z);have sub2:∀b,ins p (ins f Z) b->U O' Z b:=fun b z=>z.elim (fun y=>.inl (by rw[y];exact j2)) (sub b)
     exact q _ H' (but x2) ⟨p,rfl,hp,j3.go rfl (fun _ _ e _=>e) (fun b z=>.inl (sub2 b z)),h2.go rfl (fun _ _ e _=>e) fun b z=>.inl (sub2 b z)⟩
  ·cases e3
def LR(sp:spV K (bz F n m) vs H Q XE):vs.length=m:=by
 obtain⟨Z,ds,z,el,lv,e,q⟩:=sp;by_cases hm:ds.length=m
 ·exact el.1.trans hm
 ·simp only[bz,Ak hm]at e;cases e
def Ko(sp:jK K (cV F n m) vs H Q XE):vs.length=m:=by
 obtain⟨f,ws,Z,x,ds,z,x',rfl,nz,ho,el,lv,e,q⟩:=sp;by_cases hm:ds.length+1=m
 ·have:=el.1;simp;lia
 ·simp only[cV,Ak hm]at e;cases e
end
end VF
namespace VF
open PySem L2
section
variable {K:Ab}{Y Y':AS}{H H':Hp}{v:V}{d:D}{vs:List V}{ds:List D}
def orD(b b':D->D->Option Rz):D->D->Option Rz:=fun x y=>match b x y with
 | some z=>some z
 | none=>b' x y
def RdOp.or(h:RdOp K r b)(h':RdOp K r' b'):RdOp K (fun x y H Q=>r x y H Q∨r' x y H Q) (orD b b'):=by grind [RdOp,orD]
def orC(b b':List D->Option Rz):List D->Option Rz:=fun x=>match b x with
 | some z=>some z
 | none=>b' x
def RdCB.or(h:RdCB K r b)(h':RdCB K r' b'):RdCB K (fun xs H Q=>r xs H Q∨r' xs H Q) (orC b b'):=by grind [RdCB,orC]
def bI0(g:Int->Int->D):D->D->Option Rz
 | .int i,.int j=>some (g i j,false)
 | _,_=>none
theorem qV(h:∀Y H i j,DA K Y H (gV i j) (gD i j)):RdOp K (rI0 gV) (bI0 gD):=by
 intro Y H x y d1 d2 z Q lv b1 b2 e q;cases d1 with
 | int i =>
  cases d2 with
  | int j =>
   cases e;exact⟨i,j,b1,b2,q _ H (Same.refl H) (h Y H i j)⟩
  | _=>cases e
 | _=>cases e
def bI(C:Int->Int->Prop)[∀i j,Decidable (C i j)](g:Int->Int->D):D->D->Option Rz
 | .int i,.int j=>if C i j then some (g i j,false) else none
 | _,_=>none
theorem Ip[dc:∀i j,Decidable (C i j)](h:∀Y H i j,DA K Y H (gV i j) (gD i j)):RdOp K (rI C gV) (bI C gD):=by
 intro Y H x y d1 d2 z Q lv b1 b2 e q;cases d1 with
 | int i =>
  cases d2 with
  | int j =>
   obtain⟨c,e⟩:=aR e;cases e;exact⟨i,j,b1,b2,c,q _ H (Same.refl H) (h Y H i j)⟩
  | _=>cases e
 | _=>cases e
instance (i j:Int):Decidable (CMul i j):=by unfold CMul;infer_instance
instance (i j:Int):Decidable (vZ i j):=by unfold vZ;infer_instance
instance (i j:Int):Decidable (Eh i j):=by unfold Eh;infer_instance
def qW:=bI0 fun i j=>.int (i+j)
def zG:=bI0 fun i j=>.int (i-j)
def xQ:=bI CMul fun i j=>.int (i*j)
def wg:=bI vZ fun i j=>.int (i / j)
def pC:=bI (fun _ j=>0<j) fun i j=>.int (i % j)
def NS:=bI Eh fun i j=>.int (i ^ j.toNat)
def NT:=bI0 fun i j=>.bl (decide (i<j))
def bLe:=bI0 fun i j=>.bl (decide (i<=j))
def bGt:=bI0 fun i j=>.bl (decide (j<i))
def bGe:=bI0 fun i j=>.bl (decide (j<=i))
def ro_addI:RdOp K (rI0 fun i j=>.int (i+j)) qW:=qV fun _ _ _ _=>.int _
def LS:RdOp K (rI0 fun i j=>.int (i-j)) zG:=qV fun _ _ _ _=>.int _
def ro_mulI:RdOp K (rI CMul fun i j=>.int (i*j)) xQ:=Ip fun _ _ _ _=>.int _
def LT:RdOp K (rI vZ fun i j=>.int (i / j)) wg:=Ip fun _ _ _ _=>.int _
def LU:RdOp K (rI (fun _ j=>0<j) fun i j=>.int (i % j)) pC:=Ip fun _ _ _ _=>.int _
def LV:RdOp K (rI Eh fun i j=>.int (i ^ j.toNat)) NS:=Ip fun _ _ _ _=>.int _
def ro_ltI:RdOp K (rI0 fun i j=>.bl (decide (i<j))) NT:=qV fun _ _ _ _=>.bl _
def NU:RdOp K (rI0 fun i j=>.bl (decide (i<=j))) bLe:=qV fun _ _ _ _=>.bl _
def NV:RdOp K (rI0 fun i j=>.bl (decide (j<i))) bGt:=qV fun _ _ _ _=>.bl _
def NW:RdOp K (rI0 fun i j=>.bl (decide (j<=i))) bGe:=qV fun _ _ _ _=>.bl _
def Iq:D->Option Rz
 | .int i=>some (.int (-i),false)
 | _=>none
theorem LW:NM K (rU fun i=>.int (-i)) Iq:=by
 intro Y H x d1 z Q lv b1 e q;cases d1 with
 | int i=>cases e;exact⟨i,b1,q _ H (Same.refl H) (.int _)⟩
 | _=>cases e
def scD:D->Option V
 | .non=>some .non
 | .bl b=>some (.bl b)
 | .int i=>some (.int i)
 | .str x=>some (.str x)
 | _=>none
theorem m7(h:BA K Y H v d)(e:scD d=some w):v=w:=by
 cases d with
 | non=>cases e;exact h
 | bl b=>cases e;exact h
 | int i=>cases e;exact h
 | str x=>cases e;exact h
 | _=>cases e
theorem uz(e:scD d=some w):kU w=true:=by
 cases d with
 | non=>cases e;rfl
 | bl b=>cases e;rfl
 | int i=>cases e;rfl
 | str x=>cases e;rfl
 | _=>cases e
def zH(neg:Bool):D->D->Option Rz:=fun a b=>(scD a).bind fun x=>(scD b).bind fun y=>if K9 x y=true then some (.bl (if neg then !decide (x=y) else decide (x=y)),false) else none
def LX:RdOp K rEq (zH false):=by
 intro Y H x y d1 d2 z Q lv b1 b2 e q;refine bsO e fun x' e1 e=>?_;refine bsO e fun y' e2 e=>?_;obtain⟨c,e⟩:=aR e;cases e;obtain rfl:=m7 b1 e1;obtain rfl:=m7 b2 e2;exact⟨c,q _ H (Same.refl H) (.bl _)⟩
def ro_neS:RdOp K rNe (zH true):=by
 intro Y H x y d1 d2 z Q lv b1 b2 e q;refine bsO e fun x' e1 e=>?_;refine bsO e fun y' e2 e=>?_;obtain⟨c,e⟩:=aR e;cases e;obtain rfl:=m7 b1 e1;obtain rfl:=m7 b2 e2;exact⟨c,q _ H (Same.refl H) (.bl _)⟩
def D.isN:D->Bool
 | .non=>true
 | _=>false
theorem LY(h:BA K Y H v d):decide (v=.non)=d.isN:=by
 cases d with
 | non=>rw[show v=V.non from h];rfl
 | bl b=>rw[show v=V.bl b from h];rfl
 | int i=>rw[show v=V.int i from h];rfl
 | str x=>rw[show v=V.str x from h];rfl
 | ty x=>rw[show v=V.ty x from h];rfl
 | tup ds=>obtain⟨a,_,rfl,_⟩:=h;rfl
 | lst ds=>obtain⟨a,_,rfl,_⟩:=h;rfl
 | fl ds=>obtain⟨a,_,rfl,_⟩:=h;rfl
 | dk ds=>obtain⟨a,_,rfl,_⟩:=h;rfl
 | dt ds=>obtain⟨a,_,_,rfl,_⟩:=h;rfl
def LZ(neg:Bool):D->D->Option Rz
 | a,.non=>some (.bl (if neg then !a.isN else a.isN),false)
 | _,_=>none
theorem L7:RdOp K (fun x y H Q=>y=.non/\Q (.bl (decide (x=.non))) H) (LZ false):=by
 intro Y H x y d1 d2 z Q lv b1 b2 e q;cases d2 with
 | non =>
  cases e;refine⟨b2,?_⟩;rw[LY b1];exact q _ H (Same.refl H) (.bl _)
 | _=>cases e
def qX:D->D->Option Rz
 | .str a,.str b=>if a.length+b.length<=1000000 then some (.str (a++b),false) else none
 | _,_=>none
theorem ro_addS:RdOp K (fun x y H Q=>∃i j,x=.str i/\y=.str j/\i.length+j.length<=sizeLine/\Q (.str (i++j)) H) qX:=by
 intro Y H x y d1 d2 z Q lv b1 b2 e q;cases d1 with
 | str a =>
  cases d2 with
  | str b =>
   obtain⟨c,e⟩:=aR e;cases e;exact⟨a,b,b1,b2,few c,q _ H (Same.refl H) (.str _)⟩
  | _=>cases e
 | _=>cases e
def iZ(el:El K Y H vs ds)(hp:H p=none):RES K Y H (upd H p (.lst vs)) (.ref p) (.lst ds,true) :=
 ⟨p,rfl,hp,vs,bX,el.away (bw hp _) hp⟩
def jM(el:El K Y H vs ds)(hp:H p=none)(lv:∀p,Y p->Lv H p):RES K Y H (upd H p (.tup vs)) (.ref p) (.tup ds,false) :=
 .tup ⟨bX,fun z=>(lv p z).1 hp⟩ el.1 (el.same (bw hp _)).2
def wj:D->D->Option Rz
 | .lst a,.lst b=>if a.length+b.length<=1000000 then some (.lst (a++b),true) else none
 | _,_=>none
theorem ro_cat:RdOp K Lu wj:=by
 intro Y H x y d1 d2 z Q lv b1 b2 e q;cases d1 with
 | lst a =>
  cases d2 with
  | lst b =>
   obtain⟨c,e⟩:=aR e;cases e;obtain⟨p,xs,rfl,hp,el⟩:=b1;obtain⟨p2,ys,rfl,hp2,el2⟩:=b2;exact⟨p,p2,xs,ys,rfl,rfl,hp,hp2,by rw[el.1,el2.1];exact few c,fun r hr=>q _ _ (bw hr _) (iZ (el.app el2) hr)⟩
  | _=>cases e
 | _=>cases e
def qY:D->D->Option Rz
 | .tup (x::a),.tup (y::b)=>if a.length+b.length<=999998 then some (.tup ((x::a)++(y::b)),false) else none
 | .tup (x::a),.tup []=>if a.length<=999998 then some (.tup (x::a),false) else none
 | _,_=>none
theorem Ir:RdOp K (EA K) qY:=by
 intro Y H x y d1 d2 z Q lv b1 b2 e q;cases d1 with
 | tup a =>
  cases a with
  | nil=>cases e
  | cons a0 a =>
  cases d2 with
  | tup b =>
   obtain⟨p,xs,rfl,hp,el⟩:=b1;obtain⟨p2,ys,rfl,hp2,el2⟩:=b2;have hx:xs≠[]:=fun z=>by have:=el.1;rw[z]at this;cases this
   cases b with
   | nil =>
    obtain⟨c,e⟩:=aR e;cases e;obtain rfl:=el2.unnil;exact⟨p,p2,xs,[],rfl,rfl,hp.sq,hp2.sq,hx,by rw[el.1];exact few (by simp;lia),fun _=>q _ H (Same.refl H) (.tup hp el.1 el.2),fun z=>absurd rfl z⟩
   | cons b0 b =>
    obtain⟨c,e⟩:=aR e;cases e;have hy:ys≠[]:=fun z=>by have:=el2.1;rw[z]at this;cases this
    exact⟨p,p2,xs,ys,rfl,rfl,hp.sq,hp2.sq,hx,by rw[el.1,el2.1];exact few (by simp;lia),fun z=>absurd z hy,fun _ r hr=>q _ _ (bw hr _) (jM (el.app el2) hr lv)⟩
  | _=>cases e
 | _=>cases e
def cj:=orD qW (orD qX (orD wj qY))
def Fe:D->D->Option Rz
 | .str a,.int n=>if 0<=n/\n<=1000/\a.length<=1000 then some (.str (Txt.mul a n),false) else none
 | _,_=>none
theorem Iu:RdOp K (fun x y H Q=>∃(a:Str)(n:Int),x=.str a/\y=.int n/\MulOk a n/\Q (.str (Txt.mul a n)) H) Fe:=by
 intro Y H x y d1 d2 z Q lv b1 b2 e q;cases d1 with
 | str a =>
  cases d2 with
  | int n =>
   obtain⟨c,e⟩:=aR e;cases e;exact⟨a,n,b1,b2,mulOk_of c.1 c.2.1 c.2.2,q _ H (Same.refl H) (.str _)⟩
  | _=>cases e
 | _=>cases e
def oq:=orD xQ Fe
def NX:D->D->Option Rz
 | .str a,.str b=>some (.bl (decide (a.cps.toList<b.cps.toList)),false)
 | _,_=>none
theorem L8:RdOp K (fun x y H Q=>∃i j,x=.str i/\y=.str j/\Q (.bl (decide (i.cps.toList<j.cps.toList))) H) NX:=by
 intro Y H x y d1 d2 z Q lv b1 b2 e q;cases d1 with
 | str a =>
  cases d2 with
  | str b=>cases e;exact⟨a,b,b1,b2,q _ H (Same.refl H) (.bl _)⟩
  | _=>cases e
 | _=>cases e
def bLt:=orD NT NX
def Ff(neg:Bool):D->D->Option Rz
 | .str a,.str b=>some (.bl (if neg then !(!(Builtin.Str.occurrences b a 0 b.length 1).isEmpty) else !(Builtin.Str.occurrences b a 0 b.length 1).isEmpty),false)
 | _,_=>none
theorem ro_inS:RdOp K (fun x y H Q=>∃i j,x=.str i/\y=.str j/\Q (.bl (!(Builtin.Str.occurrences j i 0 j.length 1).isEmpty)) H) (Ff false):=by
 intro Y H x y d1 d2 z Q lv b1 b2 e q;cases d1 with
 | str a =>
  cases d2 with
  | str b=>cases e;exact⟨a,b,b1,b2,q _ H (Same.refl H) (.bl _)⟩
  | _=>cases e
 | _=>cases e
theorem ro_notinS:RdOp K (fun x y H Q=>∃i j,x=.str i/\y=.str j/\Q (.bl (!(!(Builtin.Str.occurrences j i 0 j.length 1).isEmpty))) H) (Ff true):=by
 intro Y H x y d1 d2 z Q lv b1 b2 e q;cases d1 with
 | str a =>
  cases d2 with
  | str b=>cases e;exact⟨a,b,b1,b2,q _ H (Same.refl H) (.bl _)⟩
  | _=>cases e
 | _=>cases e
def qZ:List D->Option (List V)
 | []=>some []
 | d::r=>(scD d).bind fun v=>(qZ r).bind fun vs=>some (v::vs)
theorem uA:∀{ds:List D}{vs ws:List V},El K Y H vs ds->qZ ds=some ws->vs=ws/\ws.all kU=true
 | [],vs,ws,el,e=>by cases e;exact⟨el.unnil,rfl⟩
 | d::r,vs,ws,el,e=>by
  refine bsO e fun w e1 e=>?_;refine bsO e fun ws' e2 e=>?_;cases e;obtain⟨v,t,rfl,da,el⟩:=el.uncons;obtain⟨rfl,h⟩:=uA el e2;have hv:=m7 da.ba e1;subst hv;exact⟨rfl,by rw[BO,uz e1,h];rfl⟩
def D.seq:D->Option (List D)
 | .lst ds=>some ds
 | .tup ds=>some ds
 | .fl ds=>some ds
 | _=>none
theorem m8(h:BA K Y H v d)(e:d.seq=some ds):∃a vs,v=.ref a/\(SqL K H a vs∨SqT K H a vs)/\El K Y H vs ds:=by
 cases d with
 | lst _=>cases e;obtain⟨a,vs,h1,h2,h3⟩:=h;exact⟨a,vs,h1,.inl (.inl (.inl h2)),h3⟩
 | tup _=>cases e;obtain⟨a,vs,h1,h2,h3⟩:=h;exact⟨a,vs,h1,.inr h2.sq,h3⟩
 | fl _=>cases e;obtain⟨a,vs,h1,h2,h3⟩:=h;exact⟨a,vs,h1,.inl h2.sq,h3⟩
 | _=>cases e
def Iv(neg:Bool):D->D->Option Rz:=fun a b=>(scD a).bind fun x=>(b.seq).bind fun ds=>(qZ ds).bind fun ws=>some (.bl (if neg then !inV x ws else inV x ws),false)
def Fg(neg:Bool):RdOp K (rIn K neg) (Iv neg):=by
 intro Y H x y d1 d2 z Q lv b1 b2 e q;refine bsO e fun x' e1 e=>?_;refine bsO e fun ds e2 e=>?_;refine bsO e fun ws e3 e=>?_;cases e;obtain⟨a,vs,rfl,sq,el⟩:=m8 b2 e2;obtain rfl:=m7 b1 e1;obtain⟨rfl,h⟩:=uA el e3;exact⟨a,vs,rfl,sq,uz e1,h,q _ H (Same.refl H) (.bl _)⟩
def bIn:=orD (Ff false) (Iv false)
def lm:=orD (Ff true) (Iv true)
def Fh:D->D->Option Rz
 | .lst ds,.int i=>(atI ds i).bind fun d=>some (d,false)
 | .fl ds,.int i=>(atI ds i).bind fun d=>some (d,false)
 | _,_=>none
def Iw:D->D->Option Rz
 | .tup ds,.int i=>(atI ds i).bind fun d=>some (d,false)
 | _,_=>none
def L9:D->D->Option Rz
 | .str z,.int i=>if z.length<=1000000 then(atI z.cps.toList i).bind fun c=>some (.str ⟨#[c]⟩,false) else none
 | _,_=>none
def wl(el:El K Y H vs ds)(e:atI ds i=some d):∃v,atI vs i=some v/\DA K Y H v d:=by
 unfold atI at e ⊢;rw[el.1];refine bsO e fun j e1 e2=>?_;obtain⟨v,h1,h2⟩:=el.at e2;exact⟨v,by rw[e1];exact h1,h2⟩
theorem ro_ixL:RdOp K (Lm K) Fh:=by
 intro Y H x y d1 d2 z Q lv b1 b2 e q;cases d1 with
 | lst a =>
  cases d2 with
  | int i =>
   refine bsO e fun d e1 e=>?_;cases e;obtain⟨p,xs,rfl,hp,el⟩:=b1;obtain⟨v,h1,h2⟩:=wl el e1;exact⟨p,xs,i,v,rfl,b2,.inl (.inl hp),h1,q v H (Same.refl H) h2⟩
  | _=>cases e
 | fl a =>
  cases d2 with
  | int i =>
   refine bsO e fun d e1 e=>?_;cases e;obtain⟨p,xs,rfl,hp,el⟩:=b1;obtain⟨v,h1,h2⟩:=wl el e1;exact⟨p,xs,i,v,rfl,b2,hp.sq,h1,q v H (Same.refl H) h2⟩
  | _=>cases e
 | _=>cases e
theorem ro_ixT:RdOp K (Ln K) Iw:=by
 intro Y H x y d1 d2 z Q lv b1 b2 e q;cases d1 with
 | tup a =>
  cases d2 with
  | int i =>
   refine bsO e fun d e1 e=>?_;cases e;obtain⟨p,xs,rfl,hp,el⟩:=b1;obtain⟨v,h1,h2⟩:=wl el e1;exact⟨p,xs,i,v,rfl,b2,hp.sq,h1,q v H (Same.refl H) h2⟩
  | _=>cases e
 | _=>cases e
theorem Ma:RdOp K Lo L9:=by
 intro Y H x y d1 d2 z Q lv b1 b2 e q;cases d1 with
 | str a =>
  cases d2 with
  | int i =>
   obtain⟨c,e⟩:=aR e;refine bsO e fun ch e1 e=>?_;cases e;exact⟨a,i,ch,b1,b2,few c,e1,q _ H (Same.refl H) (.str _)⟩
  | _=>cases e
 | _=>cases e
def bIx:=orD Fh (orD Iw L9)
def NY:RdOp K (rIx K) bIx:=ro_ixL.or (ro_ixT.or Ma)
abbrev FO:=En->Option (Option Int×En)
def RdO(K:Ab)(t:TO)(f:FO):Prop:=∀(st:En)(σ:St)(H:Hp)(O Z:AS)(Q:Option Int->Hp->Prop),ER K st σ H O Z->∀c st',f st=some (c,st') ->
 (∀H' O',Ext O H O' H'->Kp st st'->ER K st' σ H' O' Z->Q c H')->t σ H Q
def oNo:FO:=fun st=>some (none,st)
def Mb:RdO K xz oNo:=by
 intro st σ H O Z Q E c st' e q;cases e;exact q H O (Ext.refl _ _) (Kp.refl _) E
def asInt(st:En)(r:Rs):Option Int:=match cont st r with
 | some (.int i)=>some i
 | _=>none
def cC(fe:FE):FO:=fun st=>(fe st).bind fun x=>(asInt x.2 x.1).bind fun i=>some (some i,x.2)
def uB(h:RdE K te fe):RdO K (JZ te) (cC fe):=by
 intro st σ H O Z Q E c st' e q;refine bsP e fun r st1 e1 e=>?_;refine bsO e fun i e2 e=>?_;cases e;refine h st σ H O Z _ E r _ e1 fun v H1 O1 x1 k1 E1 rv w=>?_;have ev:v=.int i:=by
  unfold asInt at e2;split at e2
  ·rename_i j ej
   cases e2;exact rv.ba E1 ej
  ·cases e2
 exact⟨i,ev,q H1 O1 x1 k1 E1⟩
def RdSl(K:Ab)(r:V->Option Int->Option Int->Hp->VK->Prop)(b:D->Option Int->Option Int->Option Rz):Prop:=∀(Y:AS)(H:Hp)(x:V)(lo hi:Option Int)(d1:D)(z:Rz)(Q:VK),(∀p,Y p->Lv H p)->BA K Y H x d1->b d1 lo hi=some z ->
 (∀v H',Same H H'->RES K Y H H' v z->Q v H')->r x lo hi H Q
def fSl(b:D->Option Int->Option Int->Option Rz)(fe:FE)(fl fh:FO):FE:=fun st=>(fe st).bind fun x=>(fl x.2).bind fun l=>(fh l.2).bind fun u=>(cont u.2 x.1).bind fun d=>(b d l.1 u.1).bind fun z=>some (mk z,u.2)
def uC(hr:RdSl K r b)(he:RdE K te fe)(hl:RdO K tl fl)(hh:RdO K th fh):RdE K (tSl r te tl th) (fSl b fe fl fh):=by
 intro st σ H O Z Q E r' st' h q;refine bsP h fun r1 st1 e1 h=>?_;refine bsP h fun lo st2 e2 h=>?_;refine bsP h fun hi st3 e3 h=>?_;refine bsO h fun d1 e4 h=>?_;refine bsO h fun z e5 h=>?_;cases h;refine he st σ H O Z _ E r1 st1 e1 fun v1 H1 O1 x1 k1 E1 rv1 w1=>?_;refine hl st1 σ H1 O1 Z _ E1 lo st2 e2 fun H2 O2 x2 k2 E2=>?_;refine hh st2 σ H2 O2 Z _ E2 hi _ e3 fun H3 O3 x3 k3 E3=>?_;have b1:=(rv1.nf.ext (x2.trans x3) (k2.trans k3)).ba E3 (by rw[fJ];exact e4)
 refine hr (U O3 Z) H3 v1 lo hi d1 z _ E3.liv b1 e5 fun v H4 s hres=>?_;obtain⟨E4,rv4⟩:=hres.rv E3 s;have xx:=(x1.trans x2).trans x3;exact q v H4 O3 (xx.trans (Same.ext s)) ((k1.trans k2).trans k3) E4 rv4 (hres.fsh.back xx)
def cutD(xs:List D)(lo hi:Option Int):List D:=(xs.drop (HT.sIx xs.length 0 lo)).take (HT.sIx xs.length xs.length hi-HT.sIx xs.length 0 lo)
def El.cut(el:El K Y H vs ds)(lo hi:Option Int):El K Y H (um vs lo hi) (cutD ds lo hi):=by
 unfold um cutD;rw[el.1];exact(el.drop _).take _
def orS(b b':D->Option Int->Option Int->Option Rz):D->Option Int->Option Int->Option Rz:=fun x l h=>match b x l h with
 | some z=>some z
 | none=>b' x l h
def RdSl.or(h:RdSl K r b)(h':RdSl K r' b'):RdSl K (fun x lo hi H Q=>r x lo hi H Q∨r' x lo hi H Q) (orS b b'):=by grind [RdSl,orS]
def zJ:D->Option Int->Option Int->Option Rz
 | .lst ds,lo,hi=>some (.lst (cutD ds lo hi),true)
 | .fl ds,lo,hi=>some (.lst (cutD ds lo hi),true)
 | _,_,_=>none
theorem NZ:RdSl K (Lq K) zJ:=by
 intro Y H x lo hi d1 z Q lv b1 e q;cases d1 with
 | lst a =>
  cases e;obtain⟨p,xs,rfl,hp,el⟩:=b1;exact⟨p,xs,rfl,.inl (.inl hp),fun r hr=>q _ _ (bw hr _) (iZ (el.cut lo hi) hr)⟩
 | fl a =>
  cases e;obtain⟨p,xs,rfl,hp,el⟩:=b1;exact⟨p,xs,rfl,hp.sq,fun r hr=>q _ _ (bw hr _) (iZ (el.cut lo hi) hr)⟩
 | _=>cases e
def ot:D->Option Int->Option Int->Option Rz
 | .tup ds,lo,hi=>if HT.sIx ds.length 0 lo=0/\HT.sIx ds.length ds.length hi=ds.length then none else some (.tup (cutD ds lo hi),false)
 | _,_,_=>none
theorem N0:RdSl K (Lk K) ot:=by
 intro Y H x lo hi d1 z Q lv b1 e q;cases d1 with
 | tup a =>
  by_cases c:HT.sIx a.length 0 lo=0/\HT.sIx a.length a.length hi=a.length
  ·simp only[ot,Ag c]at e;cases e
  ·simp only[ot,Ak c]at e;cases e;obtain⟨p,xs,rfl,hp,el⟩:=b1;exact⟨p,xs,rfl,hp.sq,by rw[el.1];exact c,fun r hr=>q _ _ (bw hr _) (jM (el.cut lo hi) hr lv)⟩
 | _=>cases e
def Fi:D->Option Int->Option Int->Option Rz
 | .str z,lo,hi=>if z.length<=1000000 then some (.str (Txt.slice z lo hi),false) else none
 | _,_,_=>none
theorem N1:RdSl K (fun x lo hi H Q=>∃z:Str,x=.str z/\z.length<=sizeLine/\Q (.str (Txt.slice z lo hi)) H) Fi:=by
 intro Y H x lo hi d1 z Q lv b1 e q;cases d1 with
 | str a =>
  obtain⟨c,e⟩:=aR e;cases e;exact⟨a,b1,few c,q _ H (Same.refl H) (.str _)⟩
 | _=>cases e
def bSl:=orS zJ (orS ot Fi)
def Fj:List D->Option Rz
 | [d]=>(d.seq).bind fun ds=>some (.int ds.length,false)
 | _=>none
theorem rc_lenQ:RdCB K (fun xs H Q=>∃p ys,xs=[.ref p]/\(SqL K H p ys∨SqT K H p ys)/\Q (.int ys.length) H) Fj:=by
 intro Y H xs ds z Q lv bs e q;cases bs with
 | nil=>cases e
 | cons b1 bs =>
  cases bs with
  | cons _ _=>cases e
  | nil =>
   refine bsO e fun es e1 e=>?_;cases e;obtain⟨a,vs,rfl,sq,el⟩:=m8 b1 e1;refine⟨a,vs,rfl,sq,?_⟩;rw[el.1];exact q _ H (Same.refl H) (.int _)
def Fk:List D->Option Rz
 | [.str z]=>if z.length<=1000000 then some (.int z.length,false) else none
 | _=>none
theorem Ix:RdCB K (fun xs H Q=>∃z:Str,xs=[.str z]/\z.length<=sizeLine/\Q (.int z.length) H) Fk:=by
 intro Y H xs ds z Q lv bs e q;cases bs with
 | nil=>cases e
 | @cons v vs d ds b1 bs =>
  cases bs with
  | cons _ _=>cases d<;>cases e
  | nil =>
   cases d with
   | str a =>
    obtain⟨c,e⟩:=aR e;cases e;exact⟨a,by rw[show v=V.str a from b1],few c,q _ H (Same.refl H) (.int _)⟩
   | _=>cases e
def bJ:=orC Fj Fk
def Kr:List D->Option Rz
 | [d]=>(d.seq).bind fun ds=>some (.lst ds,true)
 | _=>none
theorem rc_list:RdCB K (fun xs H Q=>∃p ys,xs=[.ref p]/\(SqL K H p ys∨SqT K H p ys)/\∀l,H l=none->Q (.ref l) (upd H l (.lst ys))) Kr:=by
 intro Y H xs ds z Q lv bs e q;cases bs with
 | nil=>cases e
 | cons b1 bs =>
  cases bs with
  | cons _ _=>cases e
  | nil =>
   refine bsO e fun es e1 e=>?_;cases e;obtain⟨a,vs,rfl,sq,el⟩:=m8 b1 e1;exact⟨a,vs,rfl,sq,fun r hr=>q _ _ (bw hr _) (iZ el hr)⟩
def Fm:List D->Option Rz
 | [.lst ds]=>some (.tup ds,false)
 | [.fl ds]=>some (.tup ds,false)
 | [.tup ds]=>some (.tup ds,false)
 | _=>none
theorem rc_tuple:RdCB K (fun xs H Q=>∃p ys,xs=[.ref p]/\((SqL K H p ys/\∀l,H l=none->Q (.ref l) (upd H l (.tup ys)))∨(SqT K H p ys/\Q (.ref p) H))) Fm:=by
 intro Y H xs ds z Q lv bs e q;cases bs with
 | nil=>cases e
 | @cons v vs d ds b1 bs =>
  cases bs with
  | cons _ _=>cases d<;>cases e
  | nil =>
   cases d with
   | lst a =>
    cases e;obtain⟨p,xs,rfl,hp,el⟩:=b1;exact⟨p,xs,rfl,.inl ⟨.inl (.inl hp),fun r hr=>q _ _ (bw hr _) (jM el hr lv)⟩⟩
   | fl a =>
    cases e;obtain⟨p,xs,rfl,hp,el⟩:=b1;exact⟨p,xs,rfl,.inl ⟨hp.sq,fun r hr=>q _ _ (bw hr _) (jM el hr lv)⟩⟩
   | tup a =>
    cases e;obtain⟨p,xs,rfl,hp,el⟩:=b1;exact⟨p,xs,rfl,.inr ⟨hp.sq,q _ H (Same.refl H) (.tup hp el.1 el.2)⟩⟩
   | _=>cases e
def mC:List D->Option (List Bool)
 | []=>some []
 | .bl b::r=>(mC r).bind fun bs=>some (b::bs)
 | _=>none
theorem uD:∀{ds:List D}{vs:List V}{bs:List Bool},El K Y H vs ds->mC ds=some bs->vs=bs.map V.bl
 | [],vs,bs,el,e=>by cases e;exact el.unnil
 | d::r,vs,bs,el,e=>by
  obtain⟨v,t,rfl,da,el2⟩:=el.uncons;cases d with
  | bl b =>
   refine bsO e fun bs' e1 e=>?_;cases e;have h:=uD el2 e1;rw[h,show v=V.bl b from da.ba];rfl
  | _=>cases e
def ou:List D->Option Rz
 | [.lst ds]=>(mC ds).bind fun bs=>some (.bl (bs.all id),false)
 | _=>none
theorem Fn:RdCB K (fun xs H Q=>∃(p:Addr)(bs:List Bool),xs=[.ref p]/\SqL K H p (bs.map V.bl)/\Q (.bl (bs.all id)) H) ou:=by
 intro Y H xs ds z Q lv bs e q;cases bs with
 | nil=>cases e
 | @cons v vs d ds b1 bs =>
  cases bs with
  | cons _ _=>cases d<;>cases e
  | nil =>
   cases d with
   | lst a =>
    refine bsO e fun bs e1 e=>?_;cases e;obtain⟨p,xs,rfl,hp,el⟩:=b1;obtain rfl:=uD el e1;exact⟨p,bs,rfl,.inl (.inl hp),q _ H (Same.refl H) (.bl _)⟩
   | _=>cases e
def Mc(K:Ab)(r:V->List V->Hp->VK->Prop)(b:D->List D->Option Rz):Prop:=∀(Y:AS)(H:Hp)(x:V)(xs:List V)(d:D)(ds:List D)(z:Rz)(Q:VK),(∀p,Y p->Lv H p)->BA K Y H x d->BAs K Y H xs ds->b d ds=some z ->
 (∀v H',Same H H'->RES K Y H H' v z->Q v H')->r x xs H Q
def Me(T:String):D->Bool
 | .str _=>decide (T="str")
 | .lst _=>decide (T="list")
 | .dk _=>decide (T="dict")
 | .dt _=>decide (T="dict")
 | _=>false
theorem N2(h:BA K Y H v d)(e:Me T d=true):tyV K T v H:=by
 cases d with
 | str x =>
  have e':T="str":=Am e;rw[show v=V.str x from h];exact e'
 | lst x=>obtain⟨a,vs,rfl,h1,_⟩:=h;exact .inl ⟨Am e,vs,.inl (.inl h1)⟩
 | dk x=>obtain⟨a,vs,rfl,h1,_⟩:=h;exact .inr (.inr (.inl ⟨Am e,.inl ⟨vs,h1⟩⟩))
 | dt x=>obtain⟨a,ep,vs,rfl,_,h1,_⟩:=h;exact .inr (.inr (.inl ⟨Am e,.inr ⟨ep,vs,h1⟩⟩))
 | _=>cases e
def fBM(T:String)(b:D->List D->Option Rz)(fo:FE)(fa:FA):FE:=fun st=>(fo st).bind fun x=>(cont x.2 x.1).bind fun d0=>if Me T d0=true then(fa x.2).bind fun y=>(cont y.2 x.1).bind fun d=>(eS y.2 y.1).bind fun ds=>(b d ds).bind fun z=>some (mk z,y.2) else none
def Ks(hr:Mc K r b)(ho:RdE K to fo)(ha:RdA K ta fa):RdE K (tBM K T r to ta) (fBM T b fo fa):=by
 intro st σ H O Z Q E r' st' h q;refine bsP h fun r1 st1 e1 h=>?_;refine bsO h fun d0 e2 h=>?_;obtain⟨c,h⟩:=aR h;refine bsP h fun rs st2 e3 h=>?_;refine bsO h fun d e4 h=>?_;refine bsO h fun ds e5 h=>?_;refine bsO h fun z e6 h=>?_;cases h;refine ho st σ H O Z _ E r1 st1 e1 fun v1 H1 O1 x1 k1 E1 rv1 w1=>⟨N2 (rv1.ba E1 e2) c,?_⟩;refine ha st1 σ H1 O1 Z _ E1 rs _ e3 fun vs H2 O2 x2 k2 E2 rvs=>?_;have b1:=(rv1.nf.ext x2 k2).ba E2 (by rw[fJ];exact e4)
 refine hr (U O2 Z) H2 v1 vs d ds z _ E2.liv b1 (rvs.bas E2 e5) e6 fun v H3 s hres=>?_;obtain⟨E3,rv3⟩:=hres.rv E2 s;exact q v H3 O2 ((x1.trans x2).trans (Same.ext s)) (k1.trans k2) E3 rv3 (hres.fsh.back (x1.trans x2))
def m9:List D->Option (List Str)
 | []=>some []
 | .str x::r=>(m9 r).bind fun xs=>some (x::xs)
 | _=>none
theorem q0:∀{ds:List D}{vs:List V}{xs:List Str},El K Y H vs ds->m9 ds=some xs->vs=xs.map V.str
 | [],vs,xs,el,e=>by cases e;exact el.unnil
 | d::r,vs,xs,el,e=>by
  obtain⟨v,t,rfl,da,el2⟩:=el.uncons;cases d with
  | str b =>
   refine bsO e fun xs' e1 e=>?_;cases e;have h:=q0 el2 e1;rw[h,show v=V.str b from da.ba];rfl
  | _=>cases e
def Fo:D->List D->Option Rz
 | .str sep,[.lst ds]=>(m9 ds).bind fun ys=>if (ys.map (·.length)).sum+ys.length*sep.length<=16777216 then some (.str (Txt.join sep ys),false) else none
 | _,_=>none
theorem xR:Mc K (fun x vs H Q=>∃(sep:Str)(p:Addr)(ys:List Str),x=.str sep/\vs=[.ref p]/\SqL K H p (ys.map V.str)/\(ys.map (·.length)).sum+ys.length*sep.length<=16777216/\Q (.str (Txt.join sep ys)) H) Fo:=by
 intro Y H x xs d ds z Q lv b1 bs e q;cases d with
 | str sep =>
  cases bs with
  | nil=>cases e
  | @cons v vs d ds b2 bs =>
   cases bs with
   | cons _ _=>cases d<;>cases e
   | nil =>
    cases d with
    | lst es =>
     refine bsO e fun ys e1 e=>?_;obtain⟨c,e⟩:=aR e;cases e;obtain⟨p,ws,rfl,hp,el⟩:=b2;obtain rfl:=q0 el e1;exact⟨sep,p,ys,b1,rfl,.inl (.inl hp),c,q _ H (Same.refl H) (.str _)⟩
    | _=>cases e
 | _=>cases e
def xS:D->List D->Option Rz
 | .str a,[.str b]=>some (.bl (Txt.startswith a b),false)
 | _,_=>none
theorem rb:Mc K (fun x vs H Q=>∃(a b:Str),x=.str a/\vs=[.str b]/\Q (.bl (Txt.startswith a b)) H) xS:=by
 intro Y H x xs d ds z Q lv b1 bs e q;cases d with
 | str a =>
  cases bs with
  | nil=>cases e
  | @cons v vs d ds b2 bs =>
   cases bs with
   | cons _ _=>cases d<;>cases e
   | nil =>
    cases d with
    | str b=>cases e;exact⟨a,b,b1,by rw[show v=V.str b from b2],q _ H (Same.refl H) (.bl _)⟩
    | _=>cases e
 | _=>cases e
def isL:D->Bool
 | .lst _=>true
 | _=>false
theorem tyL(h:OA K Y H p x)(e:isL x=true):tyV K "list" (.ref p) H:=by
 cases x with
 | lst ds=>obtain⟨vs,h1,_⟩:=h;exact .inl ⟨rfl,vs,.inl (.inl h1)⟩
 | _=>cases e
theorem El.upd(h:El K Y H vs ds)(hp:Y p):El K Y (L2.upd H p o) vs ds:=h.go (fun b u e n=>by
 have hb:b≠p:=fun z=>n (by rw[z];exact hp)
 rw[bj hb];exact e) fun b z=>.inl z
theorem DA.upd(h:DA K Y H v d)(hp:Y p):DA K Y (L2.upd H p o) v d:=h.go (fun b u e n=>by
 have hb:b≠p:=fun z=>n (by rw[z];exact hp)
 rw[bj hb];exact e) fun b z=>.inl z
def aY:D->List D->Option (D×D)
 | .lst xs,[y]=>if xs.length<1000000 then some (.non,.lst (xs++[y])) else none
 | _,_=>none
theorem re:RdM K "list" sn isL aY:=⟨fun Y H p x h e=>tyL h e,fun Y H p x vs ds y x' Q hp ho el e q=>by
 cases x with
 | lst xs =>
  cases ds with
  | nil=>cases e
  | cons d ds =>
   cases ds with
   | cons _ _=>cases e
   | nil =>
    obtain⟨c,e⟩:=aR e;cases e;obtain⟨ws,h1,h2⟩:=ho;obtain⟨v,r,rfl,da,el⟩:=el.uncons;obtain rfl:=el.unnil;exact⟨p,ws,v,rfl,rfl,h1,by rw[h2.1];exact few (by lia),q .non _ .non ⟨_,bX,(h2.app (El.one da)).upd hp⟩⟩
 | _=>cases e⟩
def ir:D->List D->Option (D×D)
 | .lst xs,[.int i]=>if -(2 ^ 63)<=i/\i<2 ^ 63 then(seqIndex? i xs.length).bind fun k=>(xs[k]?).bind fun y=>some (y,.lst (xs.eraseIdx k)) else none
 | _,_=>none
theorem uE:RdM K "list" ED isL ir:=⟨fun Y H p x h e=>tyL h e,fun Y H p x vs ds y x' Q hp ho el e q=>by
 cases x with
 | lst xs =>
  cases ds with
  | nil=>cases e
  | cons d ds =>
   cases d with
   | int i =>
    cases ds with
    | cons _ _=>cases e
    | nil =>
     obtain⟨c,e⟩:=aR e;refine bsO e fun k e1 e=>?_;refine bsO e fun y' e2 e=>?_;cases e;obtain⟨ws,h1,h2⟩:=ho;obtain⟨v,r,rfl,da,el⟩:=el.uncons;obtain rfl:=el.unnil;obtain rfl:=(show v=V.int i from da.ba);obtain⟨u,g1,g2⟩:=h2.at e2;exact⟨p,ws,i,k,u,rfl,rfl,h1,c.1,c.2,by rw[h2.1];exact e1,g1,q u _ (g2.upd hp) ⟨_,bX,(h2.erase k).upd hp⟩⟩
   | _=>cases ds<;>cases e
 | _=>cases e⟩
def mD:D->D->D->Option D
 | .lst xs,.int k,v=>(ixN xs.length k).bind fun j=>some (.lst (xs.set j v))
 | _,_,_=>none
theorem zK:EW K J1 mD:=by
 intro Y H p x k v dk dv x' Q hp ho bk da e q;cases x with
 | lst xs =>
  cases dk with
  | int i =>
   refine bsO e fun j e1 e=>?_;cases e;obtain⟨ws,h1,h2⟩:=ho;exact⟨p,ws,i,j,rfl,bk,h1,by rw[h2.1];exact e1,q _ ⟨_,bX,(h2.set da j).upd hp⟩⟩
  | _=>cases e
 | _=>cases e
def Fp(xs:List Str):FA:=fun st=>some (xs.map fun x=>.d (.str x),st)
theorem Iy:RdA K (Kc xs) (Fp xs):=by
 intro st σ H O Z Q E rs st' e q;cases e;refine q _ H O (Ext.refl _ _) (Kp.refl _) E ?_;clear q;induction xs with
 | nil=>exact .nil
 | cons x r ih=>exact .cons (show DA K _ H (.str x) (.str x) from .str x) ih
end
end VF
namespace VF
open PySem PySem.Spec PyProof.Rows L2
section
variable {X:Cx}{K:Ab}{Y:AS}{H:Hp}{v:V}{d:D}{vs:List V}{ds:List D}
def xT(K:Ab):R2:=fun x y H Q=>(rI0 fun i j=>.int (i+j)) x y H Q∨((∃i j,x=.str i/\y=.str j/\i.length+j.length<=sizeLine/\Q (.str (i++j)) H)∨(Lu x y H Q∨EA K x y H Q))
def xU(h:X.K=K):OpR X (binaryOp .Add) (xT K):=op_add.or (op_add_str.or (op_cat.or (h ▸ H0)))
def ro_addA:RdOp K (xT K) cj:=ro_addI.or (ro_addS.or (ro_cat.or Ir))
def Kt:R2:=fun x y H Q=>(rI CMul fun i j=>.int (i*j)) x y H Q∨(∃(a:Str)(n:Int),x=.str a/\y=.int n/\MulOk a n/\Q (.str (Txt.mul a n)) H)
def mE:OpR X (binaryOp .Mult) Kt:=op_mul.or wa
def Iz:RdOp K Kt oq:=ro_mulI.or Iu
def N3:R2:=fun x y H Q=>(rI0 fun i j=>.bl (decide (i<j))) x y H Q∨(∃i j,x=.str i/\y=.str j/\Q (.bl (decide (i.cps.toList<j.cps.toList))) H)
def wm:OpR X (compareOp .Lt) N3:=op_lt.or zh
def Mf:RdOp K N3 bLt:=ro_ltI.or L8
def Mi(K:Ab):R2:=fun x y H Q=>(∃i j,x=.str i/\y=.str j/\Q (.bl (!(Builtin.Str.occurrences j i 0 j.length 1).isEmpty)) H)∨rIn K false x y H Q
def sE(h:X.K=K):OpR X (compareOp .In) (Mi K):=op_in_str.or (h ▸ zo)
def ro_inA:RdOp K (Mi K) bIn:=ro_inS.or (Fg false)
def sF(K:Ab):R2:=fun x y H Q=>(∃i j,x=.str i/\y=.str j/\Q (.bl (!(!(Builtin.Str.occurrences j i 0 j.length 1).isEmpty))) H)∨rIn K true x y H Q
def ng(h:X.K=K):OpR X (compareOp .NotIn) (sF K):=op_notin_str.or (h ▸ se)
def ro_notinA:RdOp K (sF K) lm:=ro_notinS.or (Fg true)
def bEq:=zH false
def Mj(_:X.K=K)(_:X.A.units+64<cLine):OpR X (compareOp .Eq) rEq:=dr
def ro_eqA:RdOp K rEq bEq:=LX
def Mk:D->D->Option Rz
 | .lst xs,.lst []=>some (.bl (!xs.isEmpty),false)
 | _,_=>none
def N4(K:Ab):R2:=fun x y H Q=>∃(a b:Addr)(xs:List V),x=.ref a/\y=.ref b/\SqL K H a xs/\SqL K H b []/\Q (.bl (!xs.isEmpty)) H
theorem Ml:RdOp K (N4 K) Mk:=by
 intro Y H x y d1 d2 z Q lv b1 b2 e q;cases d1 with
 | lst xs =>
  cases d2 with
  | lst ys =>
   cases ys with
   | nil =>
    cases e;obtain⟨p,ws,rfl,hp,el⟩:=b1;obtain⟨p2,zs,rfl,hp2,el2⟩:=b2;obtain rfl:=el2.unnil;refine⟨p,p2,ws,rfl,rfl,.inl (.inl hp),.inl (.inl hp2),?_⟩;have e:ws.isEmpty=xs.isEmpty:=by
     cases ws with
     | nil=>cases xs with
      | nil=>rfl
      | cons _ _=>cases el.1
     | cons _ _=>cases xs with
      | nil=>cases el.1
      | cons _ _=>rfl
    rw[e];exact q _ H (Same.refl H) (.bl _)
   | cons _ _=>cases e
  | _=>cases e
 | _=>cases e
def bNe:=orD (zH true) Mk
def Mm(K:Ab):R2:=fun x y H Q=>rNe x y H Q∨N4 K x y H Q
def i7(h:X.K=K)(hu:X.A.units+64<cLine):OpR X (compareOp .NotEq) (Mm K):=op_ne.or (by subst h;exact LF (by lia))
def ro_neA:RdOp K (Mm K) bNe:=ro_neS.or Ml
def Mn(K:Ab):V->Option Int->Option Int->Hp->VK->Prop:=fun x lo hi H Q=>Lq K x lo hi H Q∨(Lk K x lo hi H Q∨(∃z:Str,x=.str z/\z.length<=sizeLine/\Q (.str (Txt.slice z lo hi)) H))
def fX(h:X.K=K):SlR X (Mn K):=SlR.or (h ▸ H9) (SlR.or (h ▸ Ll) LC)
def xV:RdSl K (Mn K) bSl:=RdSl.or NZ (RdSl.or N0 N1)
def Fq(K:Ab):List V->Hp->VK->Prop:=fun xs H Q=>(∃p ys,xs=[.ref p]/\(SqL K H p ys∨SqT K H p ys)/\Q (.int ys.length) H)∨(∃z:Str,xs=[.str z]/\z.length<=sizeLine/\Q (.int z.length) H)
def zL(h:X.K=K):CallR X (.builtin "len") (Fq K):=CallR.or (h ▸ sh) si
def Mp:RdCB K (Fq K) bJ:=rc_lenQ.or Ix
def Fr(z:Str):El K Y H (sgn z) (px z):=by
 refine⟨by simp[sgn,px],fun i v d h1 h2=>?_⟩
 unfold sgn at h1;unfold px at h2;rw[Qe]at h1 h2;obtain⟨c,e1,rfl⟩:=Yf.mp h1;rw[e1]at h2;obtain rfl:=Option.some.inj h2;exact .str _
def Ft:List D->Option Rz
 | [.str z]=>if z.cps.size<=1000000 then some (.lst (px z),true) else none
 | _=>none
def Fu:List V->Hp->VK->Prop:=fun xs H Q=>∃z:Str,xs=[.str z]/\z.cps.size<=sizeLine/\∀l,H l=none->Q (.ref l) (upd H l (.lst (sgn z)))
theorem Fv:RdCB K Fu Ft:=by
 intro Y H xs ds z Q lv bs e q;cases bs with
 | nil=>cases e
 | @cons v vs d ds b1 bs =>
  cases bs with
  | cons _ _=>cases d<;>cases e
  | nil =>
   cases d with
   | str a =>
    obtain⟨c,e⟩:=aR e;cases e;exact⟨a,by rw[show v=V.str a from b1],few c,fun r hr=>q _ _ (bw hr _) (iZ (Fr a) hr)⟩
   | _=>cases e
def xW:List D->Option Rz
 | [.str z]=>if z.cps.size<=1000000 then some (.tup (px z),false) else none
 | _=>none
def xX:List V->Hp->VK->Prop:=fun xs H Q=>∃z:Str,xs=[.str z]/\z.cps.size<=sizeLine/\∀l,H l=none->Q (.ref l) (upd H l (.tup (sgn z)))
theorem zM:RdCB K xX xW:=by
 intro Y H xs ds z Q lv bs e q;cases bs with
 | nil=>cases e
 | @cons v vs d ds b1 bs =>
  cases bs with
  | cons _ _=>cases d<;>cases e
  | nil =>
   cases d with
   | str a =>
    obtain⟨c,e⟩:=aR e;cases e;exact⟨a,by rw[show v=V.str a from b1],few c,fun r hr=>q _ _ (bw hr _) (jM (Fr a) hr lv)⟩
   | _=>cases e
def jN:=orC Kr Ft
def bn:=orC Fm xW
def Fw(K:Ab):List V->Hp->VK->Prop:=fun xs H Q=>(∃p ys,xs=[.ref p]/\(SqL K H p ys∨SqT K H p ys)/\∀l,H l=none->Q (.ref l) (upd H l (.lst ys)))∨Fu xs H Q
def sG(K:Ab):List V->Hp->VK->Prop:=fun xs H Q=>(∃p ys,xs=[.ref p]/\((SqL K H p ys/\∀l,H l=none->Q (.ref l) (upd H l (.tup ys)))∨(SqT K H p ys/\Q (.ref p) H)))∨xX xs H Q
def i8(h:X.K=K)(hc:X.calm=true):CallR X (.type "list") (Fw K):=CallR.or (h ▸ sk) (pq hc)
def uF(h:X.K=K)(hc:X.calm=true):CallR X (.type "tuple") (sG K):=CallR.or (h ▸ qB) (on hc)
def Fx:RdCB K (Fw K) jN:=rc_list.or Fv
def zN:RdCB K (sG K) bn:=rc_tuple.or zM
def tyN:D->String
 | .non=>"NoneType"
 | .bl _=>"bool"
 | .int _=>"int"
 | .str _=>"str"
 | .tup _=>"tuple"
 | .lst _=>"list"
 | .fl _=>"list"
 | .dk _=>"dict"
 | .dt _=>"dict"
 | .ty _=>"type"
def Fy(n T:String):Bool:=n == T||(n == "bool"&&T == "int")
def Mq:∀n∈["NoneType","bool","int","str","tuple","list","dict"],∀T∈["bool","int","str","tuple","list","dict"],
  (if (Value.type n == Value.type T)=true then some true else if PySem.W.kitMeta T=true then(fastBuiltinMro n).map (·.contains (Value.type T)) else none)=some (Fy n T):=by decide +kernel
def Pi:List D->Option Rz
 | [d,.ty T]=>if (["bool","int","str","tuple","list","dict"].contains T&&tyN d != "type")=true then some (.bl (Fy (tyN d) T),false) else none
 | _=>none
def cf:=Pi
def Mr(K:Ab):List V->Hp->VK->Prop:=fun xs H Q=>∃(Y:AS)(x:V)(d:D)(T:String),xs=[x,.ty T]/\BA K Y H x d/\(["bool","int","str","tuple","list","dict"].contains T&&tyN d != "type")=true/\Q (.bl (Fy (tyN d) T)) H
theorem zO:RdCB K (Mr K) cf:=by
 intro Y H xs ds z Q lv bs e q;cases bs with
 | nil=>cases e
 | @cons v vs d ds b1 bs =>
  cases bs with
  | nil=>cases e
  | @cons v2 vs2 d2 ds2 b2 bs =>
   cases bs with
   | cons _ _=>cases d2<;>cases e
   | nil =>
    cases d2 with
    | ty T =>
     obtain⟨c,e⟩:=aR e;cases e;exact⟨Y,v,d,T,by rw[show v2=V.ty T from b2],b1,c,q _ H (Same.refl H) (.bl _)⟩
    | _=>cases e
def sH(h:X.K=K):CallR X (.builtin "isinstance") (Mr K):=by
 subst h;intro pins s σ H xs us Q I rv h;obtain⟨Y,x,d,T,rfl,b1,c,q⟩:=h;obtain⟨u,w',rfl,rx,ry⟩:=vals2 rv;cases (show w'=Value.type T from ry);rw[Vh]at c;have hT:T∈["bool","int","str","tuple","list","dict"]:=List.contains_iff_mem.mp c.1;have fin:∀tk,EP X pins σ Q (.bool (Fy (tyN d) T)) { s with toks:=tk }:=fun tk=>⟨.bl _,H,I.tok tk,rfl,q⟩;have ko:∀n∈["NoneType","bool","int","str","tuple","list","dict"],tyN d=n->PySem.W.kitOne X.K (.type n) (.type T)=some (Fy (tyN d) T):=fun n hn e=>by
  rw[e];exact LE (Mq n hn T hT)
 cases d with
 | non =>
  obtain rfl:=(show x=V.non from b1);exact fu I rx .non (ko "NoneType" (by decide) rfl) fin
 | bl b =>
  obtain rfl:=(show x=V.bl b from b1);exact fu I rx (.bl b) (ko "bool" (by decide) rfl) fin
 | int i =>
  obtain rfl:=(show x=V.int i from b1);exact fu I rx (.int i) (ko "int" (by decide) rfl) fin
 | str z =>
  obtain rfl:=(show x=V.str z from b1);exact fu I rx (.str z) (ko "str" (by decide) rfl) fin
 | ty n=>exact absurd c.2 (by simp[tyN])
 | lst ds =>
  obtain⟨a,vs,rfl,h1,_⟩:=b1;exact fu I rx (.lst h1) (ko "list" (by decide) rfl) fin
 | fl ds =>
  obtain⟨a,vs,rfl,h1,_⟩:=b1;cases (show u=Value.ref a from rx);obtain⟨its,_,pl,_⟩:=I.list h1.sq;obtain⟨o,ho,hc,_⟩:=pl.isList;exact Ar CN I.kIn ⟨o,ho,hc⟩ (ko "list" (by decide) rfl) (fun z=>nomatch z) fin
 | tup ds =>
  obtain⟨a,vs,rfl,h1,_⟩:=b1;cases (show u=Value.ref a from rx);obtain⟨its,_,pl,_⟩:=I.tuple h1.sq;obtain⟨o,ho,hc,_⟩:=pl;exact Ar PySem.W.kitx_tuple I.kIn ⟨o,ho,hc⟩ (ko "tuple" (by decide) rfl) (fun z=>nomatch z) fin
 | dk ds =>
  obtain⟨a,vs,rfl,h1,_⟩:=b1;exact fu I rx (.dK h1) (ko "dict" (by decide) rfl) fin
 | dt ds =>
  obtain⟨a,ep,vs,rfl,_,h1,_⟩:=b1;exact fu I rx (.dT h1) (ko "dict" (by decide) rfl) fin
def ox(l:Addr)(its:Array Value)(n:Nat)(b:Addr)(more:Array Value)(m:Nat)(dd:Option Addr)(sl:Array (Option Value))(h0:¬(!its.isEmpty&&Builtin.List.listTooLong (its.size+more.size))=true)(h1:its.size<=sizeLine)(h2:its.size+more.size<=sizeLine+1) :
  Meets (Builtin.«list.extend» ⟨[.ref l,.ref b],[]⟩) (fun _ R s=>s.heap.get? l=some { cls:=.type "list",dict:=none,data:=.seq its n,slots:=#[] }/\s.heap.get? b=some { cls:=.type "tuple",dict:=dd,data:=.seq more m,slots:=sl }/\R (.ok (.ret Value.none)) { s with heap:=s.heap.update l (Obj.mapSeq fun x=>x++more),toks:=s.toks }) :=
 .of_wp fun prog w A R s0 hh=>by
  obtain⟨hp,gg,dp,tks,oo⟩:=s0;obtain⟨hl,hb,hR⟩:=hh;have a1:=AutoSeq1.idx_int;have a2:=AutoSeq1.sub_tuple_tuple;have a3:=AutoSeq1.sub_list_list;have a4:=AutoSeq1.sub_tuple_list;have a5:=AutoSeq1.sub_list_tuple;have fits:(its++more).size<=sizeLine+1:=by
   rw[Array.size_append];exact h2
  wp_walk using (wpAny_updateSeq hl rfl (hz:=h1) (_hz':=fits)),BZ hl,BZ hb
  exact⟨_,rfl,hR⟩
def Ku(K:Ab):V->List V->Hp->VK->Prop:=fun x vs H Q=>∃l b xs zs,x=.ref l/\vs=[.ref b]/\H l=some (.lst xs)/\SqT K H b zs/\xs.length+zs.length<=sizeLine/\Q .non (upd H l (.lst (xs++zs)))
def IA(h:X.K=K):MtM X "list.extend" (Ku K):=by
 subst h;intro pins s σ H x vs v us Q I rx rv h;obtain⟨l,b,xs,zs,rfl,rfl,hH,hB,hz,q⟩:=h;cases rx;obtain⟨u,rfl,ru⟩:=rv.one;cases ru;obtain⟨z,its,n,r,hl,e⟩:=I.lstM hH;obtain⟨its2,r2,pl,hz2⟩:=I.tuple hB;obtain⟨⟨c2,dd2,d2,sl2⟩,ho2,hc2,n2,hd2⟩:=id pl;obtain rfl:c2=.type "tuple":=hc2;obtain rfl:d2=.seq its2.toArray n2:=hd2;have hl2:=r2.length;have hsz:its.toArray.size+its2.toArray.size<=sizeLine:=by rw[Vb,Vb];lia
 have hlong:¬ (!its.toArray.isEmpty&&Builtin.List.listTooLong (its.toArray.size+its2.toArray.size))=true:=by
  rw[uo hsz,Di];exact Qd
 refine Ct F.slot_list_extend ⟨_,e,rfl⟩ F.entry_list_extend (F.args_list_extend_2 _ _)
  (ox l its.toArray n b its2.toArray n2 dd2 sl2 hlong (by rw[Vb];lia) (by lia)) ⟨e,ho2,?_⟩
 refine⟨.non,_,I.lset (its':=its++its2) hH e (by simp) (r.append r2) ?_,rfl,q⟩
 rw[Xa];lia
def Kv(K:Ab):V->List V->Hp->VK->Prop:=fun x vs H Q=>xC x vs H Q∨Ku K x vs H Q
def i9(h:X.K=K)(_:X.calm=true):MtM X "list.extend" (Kv K):=by
 intro pins s σ H x vs v us Q I rx rv hh;rcases hh with hh|hh
 ·exact zq pins s σ H x vs v us Q I rx rv hh
 ·exact IA h pins s σ H x vs v us Q I rx rv hh
def hV:D->List D->Option (D×D)
 | .lst xs,[.lst ys]=>if xs.length+ys.length<=1000000 then some (.non,.lst (xs++ys)) else none
 | .lst xs,[.tup ys]=>if xs.length+ys.length<=1000000 then some (.non,.lst (xs++ys)) else none
 | _,_=>none
theorem rf:RdM K "list" (Kv K) isL hV:=⟨fun Y H p x h e=>tyL h e,fun Y H p x vs ds y x' Q hp ho el e q=>by
 cases x with
 | lst xs =>
  cases ds with
  | nil=>cases e
  | cons d ds =>
   cases ds with
   | cons _ _=>cases d<;>cases e
   | nil =>
    obtain⟨ws,h1,h2⟩:=ho;obtain⟨v,r,rfl,da,el⟩:=el.uncons;obtain rfl:=el.unnil;cases d with
    | lst ys =>
     obtain⟨c,e⟩:=aR e;cases e;cases da with
     | @lst a us _ g0 g1 g2 g3=>exact .inl ⟨p,a,ws,us,rfl,rfl,h1,g1,by rw[h2.1,g2];exact few c,q .non _ .non ⟨_,bX,(h2.app ⟨g2,g3⟩).upd hp⟩⟩
    | tup ys =>
     obtain⟨c,e⟩:=aR e;cases e;cases da with
     | @tup a us _ g1 g2 g3=>exact .inr ⟨p,a,ws,us,rfl,rfl,h1,g1.sq,by rw[h2.1,g2];exact few c,q .non _ .non ⟨_,bX,(h2.app ⟨g2,g3⟩).upd hp⟩⟩
    | _=>cases e
 | _=>cases e⟩
def N5(K:Ab)(tl:TE):TI:=fun σ H R=>xi K tl σ H R∨(K5 K tl σ H R∨LA tl σ H R)
def bN(h:X.K=K)(hl:PE X l tl):PI X tg l (N5 K tl):=by
 subst h;intro pins s σ H R I hh;rcases hh with hh|hh|hh
 ·exact HV hl pins s σ H R I hh
 ·exact K6 hl pins s σ H R I hh
 ·exact LB hl pins s σ H R I hh
def fIA(fe:FE):FI:=fun st=>match fIL fe st with
 | some z=>some z
 | none=>match fIT fe st with
  | some z=>some z
  | none=>fIS fe st
def Fz(h:RdE K te fe):RdI K (N5 K te) (fIA fe):=by
 intro st σ H O Z R E items st' e q;unfold fIA at e;split at e
 ·rename_i z ez
  cases e;exact .inl (Ik h st σ H O Z R E items st' ez q)
 ·split at e
  ·rename_i z ez
   cases e;exact .inr (.inl (LM h st σ H O Z R E items st' ez q))
  ·exact .inr (.inr (LO h st σ H O Z R E items st' e q))
end
end VF
namespace VF
open PySem PySem.Spec PyProof.Rows L2
section
variable {prog:Program}{w:World}{A:Around}{E:Value->Shared->Prop}{s:Shared}
def wn(n:Nat):Builtin.Slice.slicePlaces ((n:Int)-1) (-1) (-1)=n:=by
 unfold Builtin.Slice.slicePlaces;rw[Ak (by decide)]
 have e:(- (-1):Int)=1:=rfl;rw[e,DC];split<;>lia
def wo(n:Nat):Builtin.Slice.sliceAdjust none none (-1) (n:Int)=((n:Int)-1,-1):=by
 unfold Builtin.Slice.sliceAdjust;simp
def uG{sl:Addr}{n:Nat}{t:Tok}{Q:Int×Int×Nat->Shared->Prop}(hs:s.heap.IsSliceOf sl .none .none (.int (-1) t))(h:Q ((n:Int)-1,-1,n) s) :
  wpAny (model prog w) A (Builtin.Slice.sliceApplied (.ref sl) (pure (n:Int))) Q E s:=by
 obtain⟨os,hos,hcs,hds⟩:=id hs;unfold Builtin.Slice.sliceApplied Builtin.Slice.sliceFields;refine Aa (Aa (At hos hds (x:=.none) rfl (Aa (At hos hds (x:=.none) rfl (Aa (At hos hds (x:=.int (-1) t) rfl (Ad ?_)))))));refine Aa (HT.slicePart_ (.int (-1) t) ?_);show wpAny _ _ (if ((-1:Int) == 0)=true then _ else _) _ _ s;rw[Ak (by decide)]
 refine Aa (HT.slicePart_ .none (Aa (HT.slicePart_ .none (Aa (Ad ?_)))));show wpAny _ _ (match Builtin.Slice.sliceAdjust none none (-1) (n:Int) with|(lo,hi)=>pure (lo,(-1:Int),Builtin.Slice.slicePlaces lo hi (-1))) _ _ s
 rw[wo];show wpAny _ _ (pure ((n:Int)-1,(-1:Int),Builtin.Slice.slicePlaces ((n:Int)-1) (-1) (-1))) _ _ s;rw[wn];exact Ad h
def picked_rev(its:List Value):((List.range its.length).filterMap fun(k:Nat)=>its.toArray[((its.length:Int)-1+(k:Int)*(-1)).toNat]?).toArray=its.reverse.toArray:=by
 congr 1;refine Eq.trans (ip (g:=fun k=>its.reverse[k]?) fun k hk=>?_) ?_
 ·have hk':=Zk.mp hk;have e:((its.length:Int)-1+(k:Int)*(-1)).toNat=its.length-1-k:=by lia
  rw[e,DE hk'];simp
 ·have:=mX its.reverse;rw[Yj]at this;exact this
def lw{its:List Value}(ht:IsTup s.heap t its.toArray)(hs:s.heap.IsSliceOf sl .none .none (.int (-1) u))(hsz:its.length<=sizeLine)
  (h:Q (.ref s.heap.objs.size) { s with heap:=s.heap.push { cls:=.type "tuple",data:=.seq its.reverse.toArray } }):wpAny (model prog w) A (getItem (.ref t) (.ref sl)) Q E s:=by
 have fits:sizeOk (.seq its.reverse.toArray):=by
  show its.reverse.toArray.size<=sizeLine;rw[Vb,Yj];exact hsz
 obtain⟨os,hos,hcs,hds⟩:=id hs;have hT:s.TypeIs (.ref sl) "slice":=⟨os,hos,hcs⟩;unfold getItem
 try with_reducible refine AC ?_
 first
  | refine Aa (Ad ?_)
  | skip
 refine Aa (CJ ht.typeIs (by decide) ?_)
 refine Aa (Ap (name:=Str.ofString "__getitem__") ht.typeIs Av (As Av ht.typeIs Cf ?_ (Cu _ _)));show wpAny _ _ (Builtin.Tuple.tupleItemsOf (.ref t) >>= _) _ _ s;refine Aa (tupleItemsOf_ ht ?_);refine Aa (AV hT ?_);rw[Ag (by decide)]
 refine Aa (uG hs ?_);have hno:¬ ((((its.toArray.size:Int)-1) == 0&&(-1:Int) == 1&&its.toArray.size == its.toArray.size)=true):=by
  intro q;rw[Vh,Vh]at q;exact absurd q.1.2 (by decide)
 show wpAny _ _ (if (((its.toArray.size:Int)-1) == 0&&(-1:Int) == 1&&its.toArray.size == its.toArray.size)=true then _ else _) _ _ s;rw[Ak hno];show wpAny _ _ (Builtin.Tuple.tupleExact ((List.range its.toArray.size).filterMap fun(k:Nat)=>its.toArray[((its.toArray.size:Int)-1+(k:Int)*(-1)).toNat]?).toArray >>= _) _ _ s;have e:((List.range its.toArray.size).filterMap fun(k:Nat)=>its.toArray[((its.toArray.size:Int)-1+(k:Int)*(-1)).toNat]?).toArray=its.reverse.toArray:=picked_rev its;rw[e]
 first
  | exact Aa (m:=Builtin.Tuple.tupleExact _) (Ao (Ad ⟨_,rfl,Ad h⟩) fits)
  | exact Aa (m:=Builtin.Tuple.tupleExact _) (Ao (Aa (Ad (Ad ⟨_,rfl,Ad h⟩))) fits)
  | exact Aa (Aa (m:=Builtin.Tuple.tupleExact _) (Ao (Ad (Ad ⟨_,rfl,Ad h⟩)) fits))
  | exact Aa (Aa (m:=Builtin.Tuple.tupleExact _) (Ao (Ad ⟨_,rfl,Ad h⟩) fits))
end
section
variable {X:Cx}{K:Ab}{Y:AS}{H:Hp}{v:V}{d:D}{vs:List V}{ds:List D}
def Kw(K:Ab)(te:TE):TE:=fun σ H Q=>te σ H fun x H1=>∃a xs,x=.ref a/\SqT K H1 a xs/\∀p,H1 p=none->Q (.ref p) (upd H1 p (.tup xs.reverse))
def IB(he:PE X e te):PE X (.Subscript e (.Slice none none (some (.UnaryOp .USub (.Constant (.int 1) j p1) p2)) p3) pos) (Kw X.K te):=by
 intro pins s σ H Q I h;refine Cw (thn (he pins s σ H _ I h) fun v s1 zz9=>?_);obtain⟨x,H1,I1,r1,q1⟩:=zz9;obtain⟨a,xs,rfl,hx,q⟩:=q1;cases r1;refine wpAny_Slice ?_;rw[Cn];refine Ad ?_;refine Ad ?_;rw[evalPart_some];refine UnaryOp_ (Cq (neg_int ?_));have I2:=I1.tok (s1.toks+1+1);have I4:=I2.kept (t':=s1.toks+1+1) (h':=s1.heap.push { cls:=.type "slice",data:=.fields #[.none,.none,.int (-1) (s1.toks+1)] }) fun b ob q=>Ac _ q;obtain⟨its,r,ht,hz⟩:=I4.tuple hx;have hlen:=r.length;refine tail_any (ops:=[.ref a,.ref s1.heap.objs.size]) ht.typeIs Av.lookup ?_ (by with_unfolding_all rfl)
 refine lw ht (Heap.IsSliceOf.new ..) (by lia) ?_
 refine⟨.ref _,_,I4.laid (t':=s1.toks+1+1) (o:=.tup xs.reverse) (fun b ob q=>Ac _ q) (Va _) ?_,rfl,q _ (I4.hok.fresh (Va _))⟩;exact⟨by rw[Yj];exact hz,_,r.reverse,IsTup.new _ _⟩
def Kx(K:Ab)(te:TE):TE:=fun σ H Q=>Kb K te σ H Q∨Kw K te σ H Q
def xY(h:X.K=K)(he:PE X e te):PE X (.Subscript e (.Slice none none (some (.UnaryOp .USub (.Constant (.int 1) j p1) p2)) p3) pos) (Kx K te):=by
 subst h;intro pins s σ H Q I hh;rcases hh with hh|hh
 ·exact LD he pins s σ H Q I hh
 ·exact IB he pins s σ H Q I hh
def IC:D->Option Rz
 | .lst ds=>some (.lst ds.reverse,true)
 | .fl ds=>some (.lst ds.reverse,true)
 | .tup ds=>some (.tup ds.reverse,false)
 | _=>none
def uH(fe:FE):FE:=fun st=>(fe st).bind fun x=>(cont x.2 x.1).bind fun d=>(IC d).bind fun z=>some (mk z,x.2)
theorem FB(h:RdE K te fe):RdE K (Kx K te) (uH fe):=by
 intro st σ H O Z Q E r st' e q;refine bsP e fun r1 st1 e1 e=>?_;refine bsO e fun d e2 e=>?_;refine bsO e fun z e3 e=>?_;cases e;cases d with
 | lst ds =>
  cases e3;refine .inl (h st σ H O Z _ E r1 _ e1 fun v H1 O1 x1 k1 E1 rv w1=>?_);obtain⟨a,vs,rfl,h1,el⟩:=rv.ba E1 e2;refine⟨a,vs,rfl,.inl (.inl h1),fun p hp=>?_⟩;obtain⟨E3,rv3⟩:=E1.new hp el.rev;exact q _ _ O1 (x1.trans (Same.ext (bw hp _))) k1 E3 rv3 fun p' e=>by cases e;exact x1.dead hp
 | fl ds =>
  cases e3;refine .inl (h st σ H O Z _ E r1 _ e1 fun v H1 O1 x1 k1 E1 rv w1=>?_);obtain⟨a,vs,rfl,h1,el⟩:=rv.ba E1 e2;refine⟨a,vs,rfl,h1.sq,fun p hp=>?_⟩;obtain⟨E3,rv3⟩:=E1.new hp el.rev;exact q _ _ O1 (x1.trans (Same.ext (bw hp _))) k1 E3 rv3 fun p' e=>by cases e;exact x1.dead hp
 | tup ds =>
  cases e3;refine .inr (h st σ H O Z _ E r1 _ e1 fun v H1 O1 x1 k1 E1 rv w1=>?_);obtain⟨a,vs,rfl,h1,el⟩:=rv.ba E1 e2;refine⟨a,vs,rfl,h1.sq,fun p hp=>?_⟩;obtain⟨E3,rv3⟩:=E1.newT hp el.rev;exact q _ _ O1 (x1.trans (Same.ext (bw hp _))) k1 E3 rv3 True.intro
 | _=>cases e3
def leS(a b:Str):Prop:=¬ b.cps.toList<a.cps.toList
instance (a b:Str):Decidable (leS a b):=by unfold leS;infer_instance
def FC(h:leS a b)(g:leS b a):a=b:=by
 unfold leS at *;rw[List.not_lt]at *;have e:=List.le_antisymm h g;cases a;cases b;exact congrArg Str.mk (Array.toList_inj.mp e)
def boot_sorted:bootBuiltins "sorted"=some (.builtin "sorted"):=by decide +kernel
end
end VF
namespace VF
open PySem L2
section
variable {K:Ab}
def zP(g:D->List D->Option (Rz×D))(i:Nat)(dds:List D)(fr:FA):FE:=fun st=>(st[i]?).bind fun s0=>(s0.ow).bind fun _=>(fr st).bind fun x=>(d8 x.1 x.2).bind fun y=>(y.2[i]?).bind fun s=>(s.ow).bind fun d=>(g d (y.1++dds)).bind fun z=>some (mk z.1,y.2.set i (s.put z.2))
def FD(hd:∀Y H,El K Y H dvs dds)(hr:RdA K tr fr):RdE K (Ke (jK K g) dvs (iH (vV i) tr)) (zP g i dds fr):=by
 intro st σ H O Z Q E r0 st' h q;refine bsO h fun s0 f1 h=>?_;refine bsO h fun x0 f2 h=>?_;refine bsP h fun rs st1 e1 h=>?_;refine bsP h fun ds st2 e2 h=>?_;refine bsO h fun s e3 h=>?_;refine bsO h fun x e4 h=>?_;refine bsP h fun z x' e5 h=>?_;cases h;obtain⟨p,g1,_,_⟩:=E.own i s0 x0 f1 f2;refine⟨.ref p,g1,?_⟩;refine hr st σ H O Z _ E rs st1 e1 fun vs H1 O1 x1 k1 E1 rvs=>?_;obtain⟨O2,x2,k2,E2,el⟩:=rvs.esc E1 e2;exact n4 E2 e3 e4 g1 (el.app (hd _ _)) e5 fun v H' O' ex kk E' rv w=>q v H' O' ((x1.trans x2).trans ex) ((k1.trans k2).trans kk) E' rv (w.back (x1.trans x2))
def eM{X:Cx}(hg:Gl X x)(hm:X.mg x=none)(hv:bootBuiltins x=some (.type T))(hn:x≠"__name__":=by decide)(hd:(x == ("__debug__":Str))=false:=by decide):PE X (.Name x pos) (tC (.ty T)):=HS hg hm hv rfl hn hd
def xZ(K:Ab):Sp:=fun vs H Q _=>∃(a:Addr)(ns:List Int),vs=[.ref a]/\SqL K H a (ns.map V.int)/\ns.length<=63/\∀H',Q (.bl true) H'
end
end VF
namespace VF
open PySem L2
inductive Dp:Nat->D->Prop where
 | bl (n:Nat) (b:Bool):Dp (n+1) (.bl b)
 | int (n:Nat) (i:Int):Dp (n+1) (.int i)
 | str (n:Nat) (x:Str):Dp (n+1) (.str x)
 | non (n:Nat):Dp (n+1) .non
 | tup {n:Nat} {ds:List D}:ds.length<=1000000->(∀d∈ds,Dp n d)->Dp (n+1) (.tup ds)
 | lst {n:Nat} {ds:List D}:ds.length<=1000000->(∀d∈ds,Dp n d)->Dp (n+1) (.lst ds)
open Classical in
noncomputable def d9(n:Nat):List D->Option Rz
 | [u,v]=>if u=v/\Dp n u then some (.bl true,false) else none
 | _=>none
open Classical in
def gE(h:Dp n u):d9 n [u,u]=some (.bl true,false):=by
 show(if u=u/\Dp n u then some (D.bl true,false) else none)=_;rw[Ag ⟨rfl,h⟩]
def rj(h:d9 n ds=some z):∃u,ds=[u,u]/\Dp n u/\z=(.bl true,false):=by
 unfold d9 at h;split at h
 ·rename_i u v
  by_cases c:u=v/\Dp n u
  ·rw[Ag c]at h;obtain⟨rfl,c⟩:=c;exact⟨u,rfl,c,(Option.some.inj h).symm⟩
  ·rw[Ak c]at h;cases h
 ·cases h
end VF
namespace VF
open PySem L2
section
variable {st st1 st2 st3 s s1 s2:En}{r r1 r2:Rs}{d d1 d2 x y x':D}{ds es:List D}{rs:List Rs}{z:Rz}{o:Ot}{i k n m:Nat}{F G B:FS}{fa fb fe fi':FE}{fr:FA}{f g:FT}{fi:FI}{fg:FG}{caps:List Nat}
def ao(h:F st=some (.nx s))(h2:G s=a):aD F G st=a:=by simp only[aD,h,Wa];exact h2
def iu(h:F st=some (.rt r s)):aD F G st=some (.rt r s):=by simp only[aD,h,Wa]
def dI(h:f st=some (true,s))(h2:F s=a):sIf f F G st=a:=by simp only[sIf,h,Wa,if_true];exact h2
def b7(h:f st=some (false,s))(h2:G s=a):sIf f F G st=a:=by simp only[sIf,h,Wa,Xf,if_false];exact h2
def cJ(h:fe st=some (.d x,s))(h2:my i (.v x) s=some s1):aV fe i st=some (.nx s1):=by simp only[aV,h,Wa,h2]
def dS(h:fe st=some (.f x,s))(h2:my i (.o x) s=some s1):aV fe i st=some (.nx s1):=by simp only[aV,h,Wa,h2]
def bE(h:fe st=some (r,s)):bU fe st=some (.nx s):=by simp only[bU,h,Wa]
def aQ(h:fe st=some (r,s)):bx fe st=some (.rt r s):=by simp only[bx,h,Wa]
def aw(h1:fa st=some (r1,s1))(h2:fb s1=some (r2,s2))(h3:cont s2 r1=some d1)(h4:cont s2 r2=some d2)(h5:b d1 d2=some z)(hz:mk z=r:=by rfl):fOp b fa fb st=some (r,s2):=by
 simp only[fOp,h1,h2,h3,h4,h5,hz,Wa]
def af(h1:fa st=some (r,s1))(h2:fr s1=some (rs,s2)):aa fa fr st=some (r::rs,s2):=by simp only[aa,h1,h2,Wa]
def aN(h1:fr st=some (rs,s1))(h2:eS s1 rs=some ds)(h3:b ds=some z)(hz:mk z=r:=by rfl):fCB b fr st=some (r,s1):=by simp only[fCB,h1,h2,h3,hz,Wa]
def aP(h1:fr st=some (rs,s1))(h2:d8 rs s1=some (ds,s2))(h3:b ds=some z)(hz:mk z=r:=by rfl):bi b fr st=some (r,s2):=by simp only[bi,h1,h2,h3,hz,Wa]
def bp(h1:fr st=some (rs,s1))(h2:eS s1 rs=some ds)(h3:b ds=some (d,false))(h4:d.isSc=true):bq b fr st=some (.d d,s1):=by
 simp only[bq,h1,h2,h3,Wa,h4];rfl
def bV{t t0:Sl}(h0:st[i]?=some t0)(h00:t0.ow=some x0)(h1:fr st=some (rs,s1))(h2:d8 rs s1=some (ds,s2))(h3:s2[i]?=some t)(h4:t.ow=some x)(h5:b x ds=some (z,x'))(hz:mk z=r:=by rfl)(h6:s2.set i (t.put x')=st3:=by rfl):fIO b i fr st=some (r,st3):=by
 simp only[fIO,h0,h00,h1,h2,h3,h4,h5,h6,hz,Wa]
def wp{t t0:Sl}(h0:st[i]?=some t0)(h00:t0.ow=some x0)(h1:fr st=some (rs,s1))(h2:d8 rs s1=some (ds,s2))(h3:s2[i]?=some t)(h4:t.ow=some x)(h5:b x (ds++es)=some (z,x'))(hz:mk z=r:=by rfl)(h6:s2.set i (t.put x')=st3:=by rfl):zP b i es fr st=some (r,st3):=by
 simp only[zP,h0,h00,h1,h2,h3,h4,h5,h6,hz,Wa]
def dU{t t0:Sl}(h0:st[i]?=some t0)(h00:t0.ow=some x0)(hk:ok x0=true)(h1:fr st=some (rs,s1))(h2:d8 rs s1=some (ds,s2))(h3:s2[i]?=some t)(h4:t.ow=some x)(h5:mm x ds=some (y,x'))(h6:s2.set i (t.put x')=st3:=by rfl):fM ok mm i fr st=some (.d y,st3):=by
 simp only[fM,h0,h00,hk,h1,h2,h3,h4,h5,h6,Wa,if_true]
def aG(h:fe st=some (r,s))(h2:tru s r=some c):aA fe st=some (c,s):=by simp only[aA,h,h2,Wa]
def jO(h:f st=some (c,s)):gC f st=some (!c,s):=by simp only[gC,h,Wa]
def eT(h:f st=some (true,s))(h2:g s=a):eK f g st=a:=by simp only[eK,h,Wa,if_true];exact h2
def iK(h:f st=some (false,s)):eK f g st=some (false,s):=by simp only[eK,h,Wa,Xf,if_false]
def sI(h:f st=some (false,s))(h2:g s=a):m5 f g st=a:=by simp only[m5,h,Wa,Xf,if_false];exact h2
def iw(h:fa st=some (r,s))(h1:tru s r=some true)(h2:fb s=a):g9 fa fb st=a:=by simp only[g9,h,h1,Wa,if_true];exact h2
def bF(h1:fi st=some (ds,s1))(h2:(sB caps s1.length&&decide (ds.length<=1000000))=true)(h3:ci fg fc fe k ds (kR k caps s1)=some (es,s2))(h4:wb caps (s2.drop k) s1=st3:=by rfl):ce k caps fi fg fc fe st=some (.f (.lst es),st3):=by
 simp only[ce,h1,Wa];rw[Ag h2,h3,← h4];rfl
def cW(h1:fi st=some (ds,s1))(h2:f7 fg B ds s1=some o):ft fi fg B st=some o:=by simp only[ft,h1,Wa];exact h2
def aS(h0:ds.length=m)(h1:F (iY n ds)=some o)(h2:fin o=some z):bz F n m ds=some z:=by
 simp only[bz,Ag h0,h1,Wa];exact h2
def cr(h0:ds.length+1=m)(h1:F (iq n x ds)=some o)(h2:Kn o=some w):cV F n m x ds=some w:=by
 simp only[cV,Ag h0,h1,Wa];exact h2
theorem nh(h:D->D):∀(items:List D)(sb:En),(∀x∈items,∃s1 s2 y s3 s4,fg x sb=some s1/\fc s1=some (true,s2)/\fe s2=some (y,s3)/\esc y s3=some (h x,s4)/\rst k s4=sb)->ci fg fc fe k items sb=some (items.map h,sb)
 | [],sb,_=>rfl
 | x::r,sb,hh=>by
  obtain⟨s1,s2,y,s3,s4,e1,e2,e3,e4,e5⟩:=hh x Qa;have ih:=nh h r sb fun z hz=>hh z (Xb _ hz);simp only[ci,e1,e2,e3,e4,Wa,if_true,e5,ih,We]
theorem rl(I:List D->En->Prop)(step:∀(pre:List D)(x:D)(sb:En),I pre sb->∃s1 s2 y s3 d s4,fg x sb=some s1/\fc s1=some (true,s2)/\fe s2=some (y,s3)/\esc y s3=some (d,s4)/\I (pre++[d]) (rst k s4)) :
  ∀(items:List D)(pre:List D)(sb:En),I pre sb->∃ds sf,ci fg fc fe k items sb=some (ds,sf)/\ds.length=items.length/\I (pre++ds) sf
 | [],pre,sb,h=>⟨[],sb,rfl,rfl,by rw[Xc];exact h⟩
 | x::r,pre,sb,h=>by
  obtain⟨s1,s2,y,s3,d,s4,e1,e2,e3,e4,e5⟩:=step pre x sb h;obtain⟨ds,sf,e6,e7,e8⟩:=rl I step r (pre++[d]) (rst k s4) e5;refine⟨d::ds,sf,?_,by simp[e7],by rw[Qb]at e8;exact e8⟩
  simp only[ci,e1,e2,e3,e4,Wa,if_true,e6]
theorem uI(all:List D)(I:List D->En->Prop)(step:∀(gone:List D)(x:D)(st:En),x∈all->I gone st->∃s1 s2,fg x st=some s1/\B s1=some (.nx s2)/\I (gone++[x]) s2) :
  ∀(items gone:List D)(st:En),(∀x∈items,x∈all)->I gone st->∃sf,f7 fg B items st=some (.nx sf)/\I (gone++items) sf
 | [],gone,st,_,h=>⟨st,rfl,by rw[Xc];exact h⟩
 | x::r,gone,st,ha,h=>by
  obtain⟨s1,s2,e1,e2,e3⟩:=step gone x st (ha x Qa) h;obtain⟨sf,e4,e5⟩:=uI all I step r (gone++[x]) s2 (fun z hz=>ha z (Xb _ hz)) e3;refine⟨sf,?_,by rw[Qb]at e5;exact e5⟩
  simp only[f7,e1,e2,Wa];exact e4
theorem sJ(I:Nat->En->Prop)(Out:En->Prop)(step:∀(m:Nat)(st:En),I m st->(∃s1,f st=some (false,s1)/\Out s1)∨∃s1 s2 m',f st=some (true,s1)/\B s1=some (.nx s2)/\m'<m/\I m' s2) :
  ∀(n m:Nat)(st:En),m<n->I m st->∃sf,sWh f B n st=some (.nx sf)/\Out sf
 | 0,m,st,hn,_=>absurd hn (Nat.not_lt_zero _)
 | n+1,m,st,hn,h=>by
  rcases step m st h with⟨s1,e1,ho⟩|⟨s1,s2,m',e1,e2,hm,h2⟩
  ·exact⟨s1,by simp only[sWh,e1,Wa,Xf,if_false],ho⟩
  ·obtain⟨sf,e3,ho⟩:=sJ I Out step n m' s2 (by lia) h2
   exact⟨sf,by simp only[sWh,e1,e2,Wa,if_true];exact e3,ho⟩
end
end VF
namespace VF
open PySem L2
def ix_str{z:Str}(hz:z.length<=1000000)(h:atI z.cps.toList i=some c):bIx (.str z) (.int i)=some (.str ⟨#[c]⟩,false):=by
 have e1:Fh (.str z) (.int i)=none:=rfl;have e2:Iw (.str z) (.int i)=none:=rfl;have e3:L9 (.str z) (.int i)=some (.str ⟨#[c]⟩,false):=by
  show(if z.length<=1000000 then(atI z.cps.toList i).bind (fun c=>some (D.str ⟨#[c]⟩,false)) else none)=_;rw[Ag hz,h];rfl
 unfold bIx orD;rw[e1,e2];exact e3
def oO{a b:Str}(h:a.length+b.length<=1000000):cj (.str a) (.str b)=some (.str (a++b),false):=by
 have e1:qW (.str a) (.str b)=none:=rfl;have e2:qX (.str a) (.str b)=some (.str (a++b),false):=by
  show(if a.length+b.length<=1000000 then some (D.str (a++b),false) else none)=_;rw[Ag h]
 unfold cj orD;rw[e1,e2]
def x6{a:Str}(h:0<=n/\n<=1000/\a.length<=1000):oq (.str a) (.int n)=some (.str (Txt.mul a n),false):=by
 have e1:xQ (.str a) (.int n)=none:=rfl;have e2:Fe (.str a) (.int n)=some (.str (Txt.mul a n),false):=by
  show(if 0<=n/\n<=1000/\a.length<=1000 then some (D.str (Txt.mul a n),false) else none)=_;rw[Ag h]
 unfold oq orD;rw[e1,e2]
theorem pD:∀xs:List Str,m9 (xs.map D.str)=some xs
 | []=>rfl
 | x::r=>by
  show(m9 (r.map D.str)).bind (fun xs=>some (x::xs))=_;rw[pD r];rfl
theorem rm:∀xs:List Str,qZ (xs.map D.str)=some (xs.map V.str)
 | []=>rfl
 | x::r=>by
  show(qZ (r.map D.str)).bind (fun vs=>some (V.str x::vs))=_;rw[rm r];rfl
theorem rq:∀n:Nat,mC (List.replicate n (D.bl true))=some (List.replicate n true)
 | 0=>rfl
 | n+1=>by
  show(mC (List.replicate n (D.bl true))).bind (fun bs=>some (true::bs))=_;rw[rq n];rfl
def jP(n:Nat):ou [.lst (List.replicate n (D.bl true))]=some (.bl true,false):=by
 show(mC (List.replicate n (D.bl true))).bind (fun bs=>some (D.bl (bs.all id),false))=_;rw[rq];show some (D.bl ((List.replicate n true).all id),false)=_;have:(List.replicate n true).all id=true:=by
  rw[Zl];intro b hb;exact Dm hb
 rw[this]
def Ky{xs:List Str}:bIn (.str x) (.lst (xs.map D.str))=some (.bl (decide (x∈xs)),false):=by
 have e1:Ff false (.str x) (.lst (xs.map D.str))=none:=rfl;have e2:Iv false (.str x) (.lst (xs.map D.str))=some (.bl (decide (x∈xs)),false):=by
  show(qZ (xs.map D.str)).bind (fun ws=>some (D.bl (inV (.str x) ws),false))=_;rw[rm];show some (D.bl (inV (.str x) (xs.map V.str)),false)=_;have e:inV (.str x) (xs.map V.str)=decide (x∈xs):=by
   unfold inV;rw[CU];induction xs with
   | nil=>rfl
   | cons y r ih =>
    rw[Bs,ih rfl];show((y == x)||decide (x∈r))=_;by_cases e:y=x
    ·subst e;simp
    ·have e':¬ x=y:=fun z=>e z.symm;simp[e,e']
  rw[e]
 unfold bIn orD;rw[e1];exact e2
def wq{z:Str}(h:z.length<=1000000):bSl (.str z) lo hi=some (.str (Txt.slice z lo hi),false):=by
 have e1:zJ (.str z) lo hi=none:=rfl;have e2:ot (.str z) lo hi=none:=rfl;have e3:Fi (.str z) lo hi=some (.str (Txt.slice z lo hi),false):=by
  show(if z.length<=1000000 then some (D.str (Txt.slice z lo hi),false) else none)=_;rw[Ag h]
 unfold bSl orS;rw[e1,e2];exact e3
section
variable {st s s1 s2 s3:En}{r r1:Rs}{rs:List Rs}{d d0 d1:D}{ds:List D}{z:Rz}{fe fo:FE}{fa:FA}{fl fh:FO}
def N6(h1:fo st=some (r1,s1))(h2:cont s1 r1=some d0)(h3:Me T d0=true)(h4:fa s1=some (rs,s2))(h5:cont s2 r1=some d)(h6:eS s2 rs=some ds)(h7:b d ds=some z)(hz:mk z=r:=by rfl):fBM T b fo fa st=some (r,s2):=by
 simp only[fBM,h1,h2,h3,h4,h5,h6,h7,hz,Wa,if_true]
def fK{j:Int}(h1:fa st=some (rs,s1))(h2:eS s1 rs=some [.int j])(h3:-(2 ^ 62)<=j/\j<2 ^ 62):mz fa st=some (rng 0 j.toNat,s1):=by
 simp only[mz,h1,h2,Wa,LN];rw[Ag h3]
def hW(h1:fe st=some (r,s1))(h2:fl s1=some (lo,s2))(h3:fh s2=some (hi,s3))(h4:cont s3 r=some d)(h5:b d lo hi=some z)(hz:mk z=r':=by rfl):fSl b fe fl fh st=some (r',s3):=by
 simp only[fSl,h1,h2,h3,h4,h5,hz,Wa]
def x8{f:FT}{fa fb:FE}{a:Option (Rs×En)}(h:f st=some (true,s))(h2:fa s=a):fIf f fa fb st=a:=by simp only[fIf,h,Wa,if_true];exact h2
def x9{f:FT}{fa fb:FE}{a:Option (Rs×En)}(h:f st=some (false,s))(h2:fb s=a):fIf f fa fb st=a:=by simp only[fIf,h,Wa,Xf,if_false];exact h2
def iL(h1:fe st=some (r,s1))(h2:esc r s1=some (.lst ds,s2)):fIA fe st=some (ds,s2):=by
 have:fIL fe st=some (ds,s2):=by simp only[fIL,h1,h2,Wa,D.its]
 unfold fIA;rw[this]
def dW(h1:fe st=some (r,s1))(h2:esc r s1=some (.tup ds,s2)):fIA fe st=some (ds,s2):=by
 have e1:fIL fe st=none:=by simp only[fIL,h1,h2,Wa,D.its,Option.bind_none]
 have e2:fIT fe st=some (ds,s2):=by simp only[fIT,h1,h2,Wa,D.itt]
 unfold fIA;rw[e1,e2]
def FF(h1:fe st=some (r,s1))(h2:cont s1 r=some d)(h3:IC d=some z)(hz:mk z=r':=by rfl):uH fe st=some (r',s1):=by
 simp only[uH,h1,h2,h3,hz,Wa]
def aU(h1:fa st=some (rs,s1))(h2:d8 rs s1=some (ds,s2))(h3:ds.length<=1000000):bm fa st=some (.d (.tup ds),s2):=by
 simp only[bm,h1,h2,Wa];rw[Ag h3]
end
theorem pE(all:List D)(I:List D->En->Prop)(step:∀(gone:List D)(x:D)(rest:List D)(st:En),all=gone++x::rest->I gone st->∃s1 s2,fg x st=some s1/\B s1=some (.nx s2)/\I (gone++[x]) s2) :
  ∀(items gone:List D)(st:En),all=gone++items->I gone st->∃sf,f7 fg B items st=some (.nx sf)/\I all sf
 | [],gone,st,ha,h=>⟨st,rfl,by rw[ha,Xc];exact h⟩
 | x::r,gone,st,ha,h=>by
  obtain⟨s1,s2,e1,e2,e3⟩:=step gone x r st ha h;obtain⟨sf,e4,e5⟩:=pE all I step r (gone++[x]) s2 (by rw[Qb];exact ha) e3
  refine⟨sf,?_,e5⟩;simp only[f7,e1,e2,Wa];exact e4
theorem rA(all:List D)(I:List D->List D->En->Prop)(step:∀(gone:List D)(x:D)(rest pre:List D)(sb:En),all=gone++x::rest->I gone pre sb->∃s1 s2 y s3 d s4,fg x sb=some s1/\fc s1=some (true,s2)/\fe s2=some (y,s3)/\esc y s3=some (d,s4)/\I (gone++[x]) (pre++[d]) (rst k s4)) :
  ∀(items gone pre:List D)(sb:En),all=gone++items->I gone pre sb->∃ds sf,ci fg fc fe k items sb=some (ds,sf)/\I all (pre++ds) sf
 | [],gone,pre,sb,ha,h=>⟨[],sb,rfl,by rw[ha,Xc,Xc];exact h⟩
 | x::r,gone,pre,sb,ha,h=>by
  obtain⟨s1,s2,y,s3,d,s4,e1,e2,e3,e4,e5⟩:=step gone x r pre sb ha h;obtain⟨ds,sf,e6,e8⟩:=rA all I step r (gone++[x]) (pre++[d]) (rst k s4) (by rw[Qb];exact ha) e5
  refine⟨d::ds,sf,?_,by rw[Qb]at e8;exact e8⟩
  simp only[ci,e1,e2,e3,e4,Wa,if_true,e6]
end VF
namespace VF
open PySem L2
inductive Pl:Nat->D->Prop where
 | non (n:Nat):Pl (n+1) .non
 | int (n:Nat) (i:Int):Pl (n+1) (.int i)
 | str (n:Nat) (x:Str):Pl (n+1) (.str x)
 | tup {n:Nat} {ds:List D}:(∀d∈ds,Pl n d)->Pl (n+1) (.tup ds)
 | lst {n:Nat} {ds:List D}:(∀d∈ds,Pl n d)->Pl (n+1) (.lst ds)
inductive RH(h:Heap):Value->D->Prop where
 | non:RH h .none .non
 | int (i:Int) (t:Tok):RH h (.int i t) (.int i)
 | str (x:Str) (t:Tok):RH h (.str x t) (.str x)
 | tup {a:Addr} {its:List Value} {ds:List D}:h.IsTuple a its.toArray->its.length=ds.length->(∀(i:Nat) u d,its[i]?=some u->ds[i]?=some d->RH h u d)->RH h (.ref a) (.tup ds)
 | lst {a:Addr} {its:List Value} {ds:List D}:h.IsList a its.toArray->its.length=ds.length->(∀(i:Nat) u d,its[i]?=some u->ds[i]?=some d->RH h u d)->RH h (.ref a) (.lst ds)
section
variable {X:Cx}{K:Ab}{Y:AS}{H:Hp}{s:Shared}{pins:List (Addr×Obj)}{σ:St}
theorem Pl.up(h:Pl n d):Pl (n+1) d:=by
 induction h with
 | non n=>exact .non _
 | int n i=>exact .int _ i
 | str n x=>exact .str _ x
 | tup _ ih=>exact .tup ih
 | lst _ ih=>exact .lst ih
theorem eU:∀{vs:List V}{us:List Value},Vals vs us->∀(i:Nat) u,us[i]?=some u->∃v,vs[i]?=some v/\RelV v u
 | _,_,.nil,i,u,h=>by simp at h
 | v::_,w::_,.cons r rs,0,u,h=>by
  have e:w=u:=by simpa using h
  exact⟨v,rfl,e ▸ r⟩
 | _::_,_::_,.cons r rs,i+1,u,h=>by
  obtain⟨v,h1,h2⟩:=eU rs i u (by simpa using h)
  exact⟨v,by simpa using h1,h2⟩
theorem DA.rh(h:DA K Y H v d)(p:Pl n d)(I:Inv X pins σ H s)(hK:X.K=K):∀{u:Value},RelV v u->RH s.heap u d:=by
 induction h generalizing n with
 | non=>intro u r;cases r;exact .non
 | bl b=>cases p
 | int i=>intro u r;obtain⟨t,rfl⟩:=r;exact .int i t
 | str x=>intro u r;obtain⟨t,rfl⟩:=r;exact .str x t
 | ty n=>cases p
 | fl _ _ _ _=>cases p
 | dk _ _ _ _ _=>cases p
 | dt _ _ _ _ _ _=>cases p
 | @tup a vs ds h1 h2 h3 ih =>
  intro u r;cases r;cases p with
  | tup p =>
   obtain⟨its,r,t,_⟩:=I.tuple (hK ▸ h1.sq);refine .tup t (r.length.symm.trans h2) fun i u d e1 e2=>?_;obtain⟨v,e3,rv⟩:=eU r i u e1;exact ih i v d e3 e2 (p d (Wb e2)) rv
 | @lst a vs ds h0 h1 h2 h3 ih =>
  intro u r;cases r;cases p with
  | lst p =>
   obtain⟨its,r,t,_⟩:=I.list (show SqL X.K H a vs from .inl (.inl h1));refine .lst t.isList (r.length.symm.trans h2) fun i u d e1 e2=>?_;obtain⟨v,e3,rv⟩:=eU r i u e1;exact ih i v d e3 e2 (p d (Wb e2)) rv
theorem BA.rh(h:BA K Y H v d)(p:Pl n d)(I:Inv X pins σ H s)(hK:X.K=K)(ru:RelV v u):RH s.heap u d:=by
 cases p with
 | non=>cases (show v=.non from h);cases ru;exact .non
 | int _ i=>cases (show v=.int i from h);obtain⟨t,rfl⟩:=ru;exact .int i t
 | str _ x=>cases (show v=.str x from h);obtain⟨t,rfl⟩:=ru;exact .str x t
 | tup p =>
  obtain⟨a,vs,rfl,h1,el⟩:=h;cases ru;obtain⟨its,r,t,_⟩:=I.tuple (hK ▸ h1.sq);refine .tup t (r.length.symm.trans el.1) fun i u d e1 e2=>?_;obtain⟨v,e3,rv⟩:=eU r i u e1;exact(el.2 i v d e3 e2).rh (p d (Wb e2)) I hK rv
 | lst p =>
  obtain⟨a,vs,rfl,h1,el⟩:=h;cases ru;obtain⟨its,r,t,_⟩:=I.list (show SqL X.K H a vs from .inl (.inl h1));refine .lst t.isList (r.length.symm.trans el.1) fun i u d e1 e2=>?_;obtain⟨v,e3,rv⟩:=eU r i u e1;exact(el.2 i v d e3 e2).rh (p d (Wb e2)) I hK rv
def zQ{h:Heap}(h1:h.IsTuple a x)(h2:h.IsTuple a y):x=y:=by
 obtain⟨o,e1,_,n,d1⟩:=h1;obtain⟨o',e2,_,n',d2⟩:=h2;rw[e1]at e2;cases e2;rw[d1]at d2;cases d2;rfl
def wr{h:Heap}(h1:h.IsList a x)(h2:h.IsList a y):x=y:=by
 obtain⟨o,e1,_,n,d1⟩:=h1;obtain⟨o',e2,_,n',d2⟩:=h2;rw[e1]at e2;cases e2;rw[d1]at d2;cases d2;rfl
def uJ{h:Heap}(h1:h.IsList a x)(h2:h.IsTuple a y):False:=by
 obtain⟨o,e1,c1,_⟩:=h1;obtain⟨o',e2,c2,_⟩:=h2;rw[e1]at e2;cases e2;rw[c1]at c2;injection c2 with c2;exact absurd c2 (by decide)
theorem RH.inj(r:RH h u d):∀{d':D},RH h u d'->d=d':=by
 induction r with
 | non=>intro d' r';cases r';rfl
 | int i t=>intro d' r';cases r';rfl
 | str x t=>intro d' r';cases r';rfl
 | @tup a its ds t hl _ ih =>
  intro d' r';cases r' with
  | @tup _ its' ds' t' hl' f =>
   have e:its=its':=by simpa using zQ t t'
   subst e;have:ds=ds':=by
    refine BR (hl.symm.trans hl') fun i h1 h2=>?_;exact ih i its[i] ds[i] (Ya (by lia)) (Ya h1) (f i its[i] ds'[i] (Ya (by lia)) (Ya h2))
   rw[this]
  | lst t' _ _=>exact(uJ t' t).elim
 | @lst a its ds t hl _ ih =>
  intro d' r';cases r' with
  | @lst _ its' ds' t' hl' f =>
   have e:its=its':=by simpa using wr t t'
   subst e;have:ds=ds':=by
    refine BR (hl.symm.trans hl') fun i h1 h2=>?_;exact ih i its[i] ds[i] (Ya (by lia)) (Ya h1) (f i its[i] ds'[i] (Ya (by lia)) (Ya h2))
   rw[this]
  | tup t' _ _=>exact(uJ t t').elim
open Classical in
def FJ{xs ys:List D}(h:xs.length=ys.length):((List.range xs.length).all fun j=>decide (xs[j]?=ys[j]?))=decide (xs=ys):=by
 rw[Wf,Zl,decide_eq_true_eq];constructor
 ·intro e;refine CS fun j=>?_;by_cases hj:j<xs.length
  ·exact Am (e j (Zk.mpr hj))
  ·rw[Zm (by lia),Zm (by lia)]
 ·rintro rfl j _;exact Af rfl
open Classical in
def eq3{d1 d2:D}{u1 u2:Value}{A:Around}(h:¬ d1=d2)(a:SeqAt.EqAt A s u1 u2 false)(b:SeqAt.RcAt A s u1 u2 false)(c:SeqAt.RcNeAt A s u1 u2 true) :
  SeqAt.EqAt A s u1 u2 (decide (d1=d2))/\SeqAt.RcAt A s u1 u2 (decide (d1=d2))/\SeqAt.RcNeAt A s u1 u2 (!decide (d1=d2)):=by
 rw[Ae h];exact⟨a,b,c⟩
open Classical in
def it3{s:Shared}{its its':List Value}{ds ds':List D}(hl:its.length=ds.length)(hl':its'.length=ds'.length)(f:∀(j:Nat) u d,its[j]?=some u->ds[j]?=some d->RH s.heap u d)(f':∀(j:Nat) u d,its'[j]?=some u->ds'[j]?=some d->RH s.heap u d)(p1:∀d∈ds,Pl n d)(p2:∀d∈ds',Pl n d)
  (ih:∀{d1 d2:D}{u1 u2:Value},Pl n d1->Pl n d2->RH s.heap u1 d1->RH s.heap u2 d2->SeqAt.EqAt A s u1 u2 (decide (d1=d2)))(j:Nat)(h1:j<its.toArray.size)(h2:j<its'.toArray.size):SeqAt.EqAt A s its.toArray[j] its'.toArray[j] (decide (ds[j]?=ds'[j]?)):=by
 have h1':j<its.length:=by simpa using h1
 have h2':j<its'.length:=by simpa using h2
 have e1:ds[j]?=some ds[j]:=Ya (hl ▸ h1');have e2:ds'[j]?=some ds'[j]:=Ya (hl' ▸ h2');have z:=ih (p1 _ (Wb e1)) (p2 _ (Wb e2)) (f j its[j] _ (Ya h1') e1) (f' j its'[j] _ (Ya h2') e2);have e:decide (ds[j]?=ds'[j]?)=decide (ds[j]=ds'[j]):=by rw[e1,e2,Wf];simp
 rw[e];exact z
open Classical in
def RH.eqAt:∀(n:Nat){s:Shared}{d1 d2:D}{u1 u2:Value}{A:Around},Pl n d1->Pl n d2->RH s.heap u1 d1->RH s.heap u2 d2->A.units+n<cLine ->
  SeqAt.EqAt A s u1 u2 (decide (d1=d2))/\SeqAt.RcAt A s u1 u2 (decide (d1=d2))/\SeqAt.RcNeAt A s u1 u2 (!decide (d1=d2)):=by
 intro n;induction n with
 | zero=>intro s d1 d2 u1 u2 A p;cases p
 | succ n ih =>
  intro s d1 d2 u1 u2 A p1 p2 r1 r2 hu;have hu':A.units<cLine:=by lia
  cases r1 with
  | non =>
   cases r2 with
   | non=>rw[Af rfl];exact⟨SeqAt.EqAt.same _,SeqAt.RcAt.none_none,SeqAt.RcNeAt.none_none⟩
   | int i t=>exact eq3 (by intro z;cases z) (SeqAt.EqAt.none_int _ _) (SeqAt.RcAt.none_int _ _) (SeqAt.RcNeAt.none_int _ _)
   | str x t=>exact eq3 (by intro z;cases z) (SeqAt.EqAt.none_str _ _) (SeqAt.RcAt.none_str _ _) (SeqAt.RcNeAt.none_str _ _)
   | tup t _ _=>exact eq3 (by intro z;cases z) (SeqAt.EqAt.none_tuple t hu') (SeqAt.RcAt.none_tuple t hu') (SeqAt.RcNeAt.none_tuple t hu')
   | lst t _ _=>exact eq3 (by intro z;cases z) (SeqAt.EqAt.none_list t hu') (SeqAt.RcAt.none_list t hu') (SeqAt.RcNeAt.none_list t hu')
  | int i t =>
   cases r2 with
   | non=>exact eq3 (by intro z;cases z) (SeqAt.EqAt.int_none _ _) (SeqAt.RcAt.int_none _ _) (SeqAt.RcNeAt.int_none _ _)
   | int j t' =>
    have e:decide (D.int i=D.int j)=(i == j):=by rw[Wf];simp
    rw[e];exact⟨SeqAt.EqAt.int_int _ _ _ _,SeqAt.RcAt.int_int _ _ _ _,SeqAt.RcNeAt.int_int _ _ _ _⟩
   | str x t'=>exact eq3 (by intro z;cases z) (Cz _ _ _ _) (SeqAt.RcAt.int_str _ _ _ _) (SeqAt.RcNeAt.int_str _ _ _ _)
   | tup t' _ _=>exact eq3 (by intro z;cases z) (SeqAt.EqAt.int_tuple _ _ t' hu') (SeqAt.RcAt.int_tuple _ _ t' hu') (SeqAt.RcNeAt.int_tuple _ _ t' hu')
   | lst t' _ _=>exact eq3 (by intro z;cases z) (SeqAt.EqAt.int_list _ _ t' hu') (SeqAt.RcAt.int_list _ _ t' hu') (SeqAt.RcNeAt.int_list _ _ t' hu')
  | str x t =>
   cases r2 with
   | non=>exact eq3 (by intro z;cases z) (SeqAt.EqAt.str_none _ _) (SeqAt.RcAt.str_none _ _) (SeqAt.RcNeAt.str_none _ _)
   | int j t'=>exact eq3 (by intro z;cases z) (Cy _ _ _ _) (SeqAt.RcAt.str_int _ _ _ _) (SeqAt.RcNeAt.str_int _ _ _ _)
   | str y t' =>
    have e:decide (D.str x=D.str y)=(x == y):=by rw[Wf];simp
    rw[e];exact⟨SeqAt.EqAt.str_str _ _ _ _,SeqAt.RcAt.str_str _ _ _ _,SeqAt.RcNeAt.str_str _ _ _ _⟩
   | tup t' _ _=>exact eq3 (by intro z;cases z) (SeqAt.EqAt.str_tuple _ _ t' hu') (SeqAt.RcAt.str_tuple _ _ t' hu') (SeqAt.RcNeAt.str_tuple _ _ t' hu')
   | lst t' _ _=>exact eq3 (by intro z;cases z) (SeqAt.EqAt.str_list _ _ t' hu') (SeqAt.RcAt.str_list _ _ t' hu') (SeqAt.RcNeAt.str_list _ _ t' hu')
  | @tup a its ds t hl f =>
   cases r2 with
   | non=>exact eq3 (by intro z;cases z) (SeqAt.EqAt.tuple_none t hu') (SeqAt.RcAt.tuple_none t hu') (SeqAt.RcNeAt.tuple_none t hu')
   | int j t'=>exact eq3 (by intro z;cases z) (SeqAt.EqAt.tuple_int _ _ t hu') (SeqAt.RcAt.tuple_int _ _ t hu') (SeqAt.RcNeAt.tuple_int _ _ t hu')
   | str y t'=>exact eq3 (by intro z;cases z) (SeqAt.EqAt.tuple_str _ _ t hu') (SeqAt.RcAt.tuple_str _ _ t hu') (SeqAt.RcNeAt.tuple_str _ _ t hu')
   | lst t' _ _=>exact eq3 (by intro z;cases z) (SeqAt.EqAt.tuple_list t t' hu') (SeqAt.RcAt.tuple_list t t' hu') (SeqAt.RcNeAt.tuple_list t t' hu')
   | @tup b its' ds' t' hl' f' =>
    cases p1 with
    | tup p1 =>
    cases p2 with
    | tup p2 =>
    have it:=it3 (A:=A.in1) hl hl' f f' p1 p2 fun q1 q2 q3 q4=>(ih (A:=A.in1) q1 q2 q3 q4 (by show A.units+1+n<cLine;lia)).1
    have e:decide (D.tup ds=D.tup ds')=((List.range (min its.toArray.size its'.toArray.size)).all (fun j=>decide (ds[j]?=ds'[j]?))&&its.toArray.size == its'.toArray.size):=by
     simp only[Vb];by_cases hh:its.length=its'.length
     ·rw[← hh,Nat.min_self,hl,FJ (by lia),Wf];simp
     ·have:ds≠ds':=fun z=>hh (by rw[hl,hl',z])
      rw[Wf];simp[hh,this]
    have rc:SeqAt.RcAt A s (.ref a) (.ref b) (decide (D.tup ds=D.tup ds')):=by
     rw[e];exact SeqAt.RcAt.tuples (A:=A) (e:=fun j=>decide (ds[j]?=ds'[j]?)) t t' hu' it
    have rn:SeqAt.RcNeAt A s (.ref a) (.ref b) (!decide (D.tup ds=D.tup ds')):=by
     rw[e];exact SeqAt.RcNeAt.tuples (A:=A) (e:=fun j=>decide (ds[j]?=ds'[j]?)) t t' hu' it
    refine⟨?_,rc,rn⟩;by_cases hab:a=b
    ·subst hab;have:=RH.inj (RH.tup t hl f) (RH.tup t' hl' f');rw[this,Af rfl];exact SeqAt.EqAt.same _
    ·exact SeqAt.EqAt.of_refs hab rc
  | @lst a its ds t hl f =>
   cases r2 with
   | non=>exact eq3 (by intro z;cases z) (SeqAt.EqAt.list_none t hu') (SeqAt.RcAt.list_none t hu') (SeqAt.RcNeAt.list_none t hu')
   | int j t'=>exact eq3 (by intro z;cases z) (SeqAt.EqAt.list_int _ _ t hu') (SeqAt.RcAt.list_int _ _ t hu') (SeqAt.RcNeAt.list_int _ _ t hu')
   | str y t'=>exact eq3 (by intro z;cases z) (SeqAt.EqAt.list_str _ _ t hu') (SeqAt.RcAt.list_str _ _ t hu') (SeqAt.RcNeAt.list_str _ _ t hu')
   | tup t' _ _=>exact eq3 (by intro z;cases z) (SeqAt.EqAt.list_tuple t t' hu') (SeqAt.RcAt.list_tuple t t' hu') (SeqAt.RcNeAt.list_tuple t t' hu')
   | @lst b its' ds' t' hl' f' =>
    cases p1 with
    | lst p1 =>
    cases p2 with
    | lst p2 =>
    have it:=it3 (A:=A.in1) hl hl' f f' p1 p2 fun q1 q2 q3 q4=>(ih (A:=A.in1) q1 q2 q3 q4 (by show A.units+1+n<cLine;lia)).1
    have both:SeqAt.RcAt A s (.ref a) (.ref b) (decide (D.lst ds=D.lst ds'))/\SeqAt.RcNeAt A s (.ref a) (.ref b) (!decide (D.lst ds=D.lst ds')):=by
     by_cases hh:its.length=its'.length
     ·have e:decide (D.lst ds=D.lst ds')=(List.range its.toArray.size).all fun j=>decide (ds[j]?=ds'[j]?):=by
       simp only[Vb];rw[hl,FJ (by lia),Wf];simp
      rw[e];exact⟨SeqAt.RcAt.lists (A:=A) (e:=fun j=>decide (ds[j]?=ds'[j]?)) t t' (by simpa using hh) hu' it,SeqAt.RcNeAt.lists (A:=A) (e:=fun j=>decide (ds[j]?=ds'[j]?)) t t' (by simpa using hh) hu' it⟩
     ·have:ds≠ds':=fun z=>hh (by rw[hl,hl',z])
      rw[Ae (by intro z;cases z;exact this rfl)]
      exact⟨SeqAt.RcAt.lists_lengths t t' (by simpa using hh) hu',Db t t' (by simpa using hh) hu'⟩
    obtain⟨rc,rn⟩:=both;refine⟨?_,rc,rn⟩;by_cases hab:a=b
    ·subst hab;have:=RH.inj (RH.lst t hl f) (RH.lst t' hl' f');rw[this,Af rfl];exact SeqAt.EqAt.same _
    ·exact SeqAt.EqAt.of_refs hab rc
open Classical in
noncomputable def wt(neg:Bool):D->D->Option Rz:=fun a b=>if Pl 40 a/\Pl 40 b then some (.bl (if neg then !decide (a=b) else decide (a=b)),false) else none
open Classical in
def FK(K:Ab)(neg:Bool):R2:=fun x y H Q=>∃(Y:AS)(a b:D),BA K Y H x a/\BA K Y H y b/\Pl 40 a/\Pl 40 b/\Q (.bl (if neg then !decide (a=b) else decide (a=b))) H
def FL(neg:Bool):RdOp K (FK K neg) (wt neg):=by
 intro Y H x y d1 d2 z Q lv b1 b2 e q;unfold wt at e;obtain⟨c,e⟩:=aR e;cases e;exact⟨Y,d1,d2,b1,b2,c.1,c.2,q _ H (Same.refl H) (.bl _)⟩
def Ms(h:X.K=K)(hu:X.A.units+64<cLine):OpR X (compareOp .Eq) (FK K false):=by
 intro pins s σ H x y v u Q I rx ry ⟨Y,a,b,b1,b2,p1,p2,q⟩;exact(RH.eqAt 40 (A:=X.A) p1 p2 (b1.rh p1 I h rx) (b2.rh p2 I h ry) (by lia)).2.1 _ _ _ _ ⟨.bl _,H,I,rfl,q⟩
def Mt(h:X.K=K)(hu:X.A.units+64<cLine):OpR X (compareOp .NotEq) (FK K true):=by
 intro pins s σ H x y v u Q I rx ry ⟨Y,a,b,b1,b2,p1,p2,q⟩;exact(RH.eqAt 40 (A:=X.A) p1 p2 (b1.rh p1 I h rx) (b2.rh p2 I h ry) (by lia)).2.2 _ _ _ _ ⟨.bl _,H,I,rfl,q⟩
noncomputable def kS:=orD bEq (wt false)
noncomputable def ni:=orD bNe (wt true)
def N7(K:Ab):R2:=fun x y H Q=>rEq x y H Q∨FK K false x y H Q
def N8(K:Ab):R2:=fun x y H Q=>Mm K x y H Q∨FK K true x y H Q
def jQ(h:X.K=K)(hu:X.A.units+64<cLine):OpR X (compareOp .Eq) (N7 K):=(Mj h hu).or (Ms h hu)
def Mu:RdOp K (N7 K) kS:=ro_eqA.or (FL false)
def wu(h:X.K=K)(hu:X.A.units+64<cLine):OpR X (compareOp .NotEq) (N8 K):=(i7 h hu).or (Mt h hu)
def Mv:RdOp K (N8 K) ni:=ro_neA.or (FL true)
open Classical in
noncomputable def zR(neg:Bool):D->D->Option Rz:=fun a b=>match b.seq with
 | some ds=>if Pl 40 a/\(∀d∈ds,Pl 40 d) then some (.bl (if neg then !decide (a∈ds) else decide (a∈ds)),false) else none
 | none=>none
open Classical in
def FM(K:Ab)(neg:Bool):R2:=fun x y H Q=>∃(Y:AS)(a b:D)(ds:List D),BA K Y H x a/\BA K Y H y b/\b.seq=some ds/\Pl 40 a/\(∀d∈ds,Pl 40 d)/\Q (.bl (if neg then !decide (a∈ds) else decide (a∈ds))) H
def FN(neg:Bool):RdOp K (FM K neg) (zR neg):=by
 intro Y H x y d1 d2 z Q lv b1 b2 e q;unfold zR at e;split at e
 ·rename_i ds hs
  obtain⟨c,e⟩:=aR e;cases e;exact⟨Y,d1,d2,ds,b1,b2,hs,c.1,c.2,q _ H (Same.refl H) (.bl _)⟩
 ·cases e
open Classical in
def pF{ds:List D}{its:List Value}{A:Around}(hl:its.length=ds.length)(f:∀(i:Nat) u d,its[i]?=some u->ds[i]?=some d->RH s.heap u d)(p1:Pl 40 a)(p2:∀d∈ds,Pl 40 d)(r:RH s.heap u a)(hu:A.units+64<cLine) :
  (∀y,y∈its.toArray->SeqAt.EqAt A.in1 s y u (decide (RH s.heap y a)))/\its.toArray.any (fun y=>decide (RH s.heap y a))=decide (a∈ds):=by
 constructor
 ·intro y hy;obtain⟨i,hi,rfl⟩:=Wm.mp (show y∈its by simpa using hy)
  have e1:ds[i]?=some ds[i]:=Ya (by lia)
  have ry:=f i its[i] _ (Ya hi) e1;have z:=(RH.eqAt 40 (A:=A.in1) (p2 _ (Wb e1)) p1 ry r (by show A.units+1+40<cLine;lia)).1
  have e:decide (ds[i]=a)=decide (RH s.heap its[i] a):=by
   rw[Wf,decide_eq_true_eq,decide_eq_true_eq];exact⟨fun e=>e ▸ ry,fun r'=>ry.inj r'⟩
  rw[← e];exact z
 ·rw[Wf,decide_eq_true_eq];simp only[List.any_toArray,List.any_eq_true,decide_eq_true_eq];constructor
  ·rintro⟨y,hy,ry⟩;obtain⟨i,hi,rfl⟩:=Wm.mp hy;have e1:ds[i]?=some ds[i]:=Ya (by lia)
   have:=(f i its[i] _ (Ya hi) e1).inj ry;rw[← this];exact Wb e1
  ·intro ha;obtain⟨i,hi,rfl⟩:=Wm.mp ha;exact⟨its[i],AZ _,f i _ _ (Ya (by lia)) (Ya hi)⟩
def rB{d:D}{ds:List D}(h:BA K Y H v d)(e:d.seq=some ds)(p:∀x∈ds,Pl 40 x)(I:Inv X pins σ H s)(hK:X.K=K)(ru:RelV v u) :
  ∃a its,u=.ref a/\(s.heap.IsList a (List.toArray its)∨s.heap.IsTuple a its.toArray)/\its.length=ds.length/\∀(i:Nat) u d,its[i]?=some u->ds[i]?=some d->RH s.heap u d:=by
 obtain⟨a,vs,rfl,sq,el⟩:=m8 h e;cases ru;have rest:∀{its:List Value},Vals vs its->its.length=ds.length/\∀(i:Nat) u d,its[i]?=some u->ds[i]?=some d->RH s.heap u d:=fun {its} r=>by
  refine⟨r.length.symm.trans el.1,fun i u d e1 e2=>?_⟩;obtain⟨v,e3,rv⟩:=eU r i u e1;exact(el.2 i v d e3 e2).rh (p d (Wb e2)) I hK rv
 rcases sq with sq|sq
 ·obtain⟨its,r,t,_⟩:=I.list (hK ▸ sq);exact⟨a,its,rfl,.inl t.isList,rest r⟩
 ·obtain⟨its,r,t,_⟩:=I.tuple (hK ▸ sq);exact⟨a,its,rfl,.inr t,rest r⟩
def Mw(h:X.K=K)(hu:X.A.units+64<cLine):OpR X (compareOp .In) (FM K false):=by
 intro pins s σ H x y v u Q I rx ry ⟨Y,a,b,ds,b1,b2,hs,p1,p2,q⟩;obtain⟨l,its,rfl,hl,hn,f⟩:=rB b2 hs p2 I h ry;obtain⟨h1,h2⟩:=pF (A:=X.A) hn f p1 p2 (b1.rh p1 I h rx) hu;rcases hl with hl|hl
 ·refine SeqAt.in_listAt _ hl h1 ?_;rw[h2];exact⟨.bl _,H,I,rfl,q⟩
 ·refine CW _ hl h1 ?_;rw[h2];exact⟨.bl _,H,I,rfl,q⟩
def zS(h:X.K=K)(hu:X.A.units+64<cLine):OpR X (compareOp .NotIn) (FM K true):=by
 intro pins s σ H x y v u Q I rx ry ⟨Y,a,b,ds,b1,b2,hs,p1,p2,q⟩;obtain⟨l,its,rfl,hl,hn,f⟩:=rB b2 hs p2 I h ry;obtain⟨h1,h2⟩:=pF (A:=X.A) hn f p1 p2 (b1.rh p1 I h rx) hu;rcases hl with hl|hl
 ·refine SeqAt.notIn_listAt _ hl h1 ?_;rw[h2];exact⟨.bl _,H,I,rfl,q⟩
 ·refine SeqAt.notIn_tupleAt _ hl h1 ?_;rw[h2];exact⟨.bl _,H,I,rfl,q⟩
noncomputable def uK:=orD bIn (zR false)
noncomputable def hZ:=orD lm (zR true)
def N9(K:Ab):R2:=fun x y H Q=>Mi K x y H Q∨FM K false x y H Q
def yb(K:Ab):R2:=fun x y H Q=>sF K x y H Q∨FM K true x y H Q
def wv(h:X.K=K)(hu:X.A.units+64<cLine):OpR X (compareOp .In) (N9 K):=(sE h).or (Mw h hu)
def Mx:RdOp K (N9 K) uK:=ro_inA.or (FN false)
def iM(h:X.K=K)(hu:X.A.units+64<cLine):OpR X (compareOp .NotIn) (yb K):=(ng h).or (zS h hu)
def zT:RdOp K (yb K) hZ:=ro_notinA.or (FN true)
end
end VF
namespace VF
open PySem L2 PySem.Spec
section
variable {X:Cx}{a b e:Expr}{ta te:TE}
def ja(hK:X.K=K)(hc:X.calm=true)(h:PGs X es t)
  (hn:(assignEach es X.env).length=n:=by rfl)(hst:(assignEach es X.env).findIdx? (·.1)=none:=by rfl):PG X (.Tuple es k pos) (K3 K n t):=hK ▸ K4 hc h hn hst
end
section
variable {K:Ab}{Y O O' Z:AS}{H H':Hp}{v:V}{d:D}{st st':En}{σ:St}
def ww:FS:=fun _=>none
def FP:RdS K Ed ww:=by
 intro st σ H O Z Dn E o e;cases e
end
end VF
namespace VF
open PySem L2 PySem.Spec
section
variable {X:Cx}{K:Ab}
def FQ(K:Ab):R2:=fun x y H Q=>∃a b ys,x=.ref a/\y=.ref b/\SqT K H a []/\SqT K H b ys/\Q (.ref b) H
def ID(h:X.K=K):OpR X (binaryOp .Add) (FQ K):=by
 intro pins s σ H x y v u Q I rx ry hh;obtain⟨a,b,ys,rfl,rfl,ha,hb,q⟩:=hh;cases rx;cases ry;subst h;obtain⟨its,r1,p1,_⟩:=I.tuple ha;obtain⟨its2,r2,p2,_⟩:=I.tuple hb;cases r1;obtain⟨⟨cls,dd,data,sl⟩,ho,hc,n,hd⟩:=id p1;obtain⟨⟨cls2,dd2,data2,sl2⟩,ho2,hc2,n2,hd2⟩:=id p2;simp only at hc hd hc2 hd2;subst hc hd hc2 hd2;exact concat_meets ⟨_,ho,rfl⟩ ⟨_,ho2,rfl⟩ CV seq_tuple_add BS BP (BN _ _)
   (PyProof.Rows.tuple_addW0 a b _ _ n n2 dd dd2 sl sl2 rfl) ⟨ho,ho2,.ref b,H,I,rfl,q⟩
def Kz:D->D->Option Rz
 | .tup [],.tup b=>some (.tup b,false)
 | _,_=>none
theorem IE:RdOp K (FQ K) Kz:=by
 intro Y H x y d1 d2 z Q lv b1 b2 e q;cases d1 with
 | tup a =>
  cases a with
  | cons a0 a=>cases e
  | nil =>
   cases d2 with
   | tup b =>
    cases e;obtain⟨p,xs,rfl,hp,el⟩:=b1;obtain⟨p2,ys,rfl,hp2,el2⟩:=b2;obtain rfl:=el.unnil;exact⟨p,p2,ys,rfl,rfl,hp.sq,hp2.sq,q _ H (Same.refl H) (.tup hp2 el2.1 el2.2)⟩
   | _=>cases e
 | _=>cases e
def f8:=orD cj Kz
def KB(K:Ab):R2:=fun x y H Q=>xT K x y H Q∨FQ K x y H Q
def jb(h:X.K=K):OpR X (binaryOp .Add) (KB K):=(xU h).or (ID h)
def IF:RdOp K (KB K) f8:=ro_addA.or IE
def My(K:Ab):V->Option Int->Option Int->Hp->VK->Prop:=fun x lo hi H Q=>∃a xs,x=.ref a/\SqT K H a xs/\(HT.sIx xs.length 0 lo=0/\HT.sIx xs.length xs.length hi=xs.length)/\Q (.ref a) H
end
end VF
namespace HT
open PySem PyProof.Rows
section
variable {prog:Program}{w:World}{A:Around}{E:Value->Shared->Prop}{s:Shared}
def getItem_tuple_all{t sl:Addr}{items:Array Value}{vl vu:Value}{lo hi:Option Int}{Q:Value->Shared->Prop}(ht:IsTup s.heap t items)(hs:s.heap.IsSliceOf sl vl vu .none)(pl:IsPart vl lo)(pu:IsPart vu hi)
  (hw:sIx items.size 0 lo=0/\sIx items.size items.size hi=items.size)(h:Q (.ref t) s):wpAny (model prog w) A (getItem (.ref t) (.ref sl)) Q E s:=by
 obtain⟨os,hos,hcs,hds⟩:=id hs;have hTs:s.TypeIs (.ref sl) "slice":=⟨os,hos,hcs⟩;unfold getItem
 try with_reducible refine AC ?_
 first|refine Aa (Ad ?_)|skip
 refine Aa (CJ ht.typeIs (by decide) ?_)
 refine Aa (Ap (name:=Str.ofString "__getitem__") ht.typeIs Av
  (As Av ht.typeIs Cf ?_ (Cu _ _)))
 show wpAny _ _ (Builtin.Tuple.tupleItemsOf (.ref t) >>= _) _ _ s;refine Aa (tupleItemsOf_ ht ?_);refine Aa (AV hTs ?_);rw[Ag (by decide)]
 refine Aa (iJ hs pl pu ?_);have hyes:(((sIx items.size 0 lo:Nat):Int) == 0&&(1:Int) == 1&&(sIx items.size items.size hi-sIx items.size 0 lo) == items.size)=true:=by
  rw[hw.1,hw.2];simp
 show wpAny _ _ (if (((sIx items.size 0 lo:Nat):Int) == 0&&(1:Int) == 1&&(sIx items.size items.size hi-sIx items.size 0 lo) == items.size)=true then _ else _) _ _ s;rw[Ag hyes];unfold Builtin.Tuple.tupleIsExact;refine Aa (Aa (AV ht.typeIs (Ad ?_)));rw[Ag (by decide)]
 exact Aa (AH (Ad ⟨_,rfl,Ad h⟩))
end
end HT
namespace VF
open PySem L2
section
variable {X:Cx}{K:Ab}
def FR(h:X.K=K):SlR X (My K):=by
 intro pins s σ H x v vl vu lo hi sl Q I rx hs pl pu hh;obtain⟨a,xs,rfl,hx,hw,q⟩:=hh;cases rx;subst h;obtain⟨its,r,ht,hz⟩:=I.tuple hx;have hlen:its.toArray.size=xs.length:=by rw[Vb];exact r.length.symm
 refine⟨"tuple",_,Av.lookup,ht.typeIs,?_⟩;exact HT.getItem_tuple_all ht hs pl pu (by rw[hlen];exact hw) ⟨.ref a,H,I,rfl,q⟩
def IG:D->Option Int->Option Int->Option Rz
 | .tup ds,lo,hi=>if HT.sIx ds.length 0 lo=0/\HT.sIx ds.length ds.length hi=ds.length then some (.tup ds,false) else none
 | _,_,_=>none
theorem Oa:RdSl K (My K) IG:=by
 intro Y H x lo hi d1 z Q lv b1 e q;cases d1 with
 | tup a =>
  obtain⟨c,e⟩:=aR e;cases e;obtain⟨p,xs,rfl,hp,el⟩:=b1;exact⟨p,xs,rfl,hp.sq,by rw[el.1];exact c,q _ H (Same.refl H) (.tup hp el.1 el.2)⟩
 | _=>cases e
def oy:=orS bSl IG
def Oc(K:Ab):V->Option Int->Option Int->Hp->VK->Prop:=fun x lo hi H Q=>Mn K x lo hi H Q∨My K x lo hi H Q
def sK(h:X.K=K):SlR X (Oc K):=SlR.or (fX h) (FR h)
def FU:RdSl K (Oc K) oy:=RdSl.or xV Oa
def sL(ds:List D)(lo hi:Option Int):oy (.tup ds) lo hi=some (.tup (cutD ds lo hi),false):=by
 have e1:zJ (.tup ds) lo hi=none:=rfl;have e3:Fi (.tup ds) lo hi=none:=rfl;by_cases c:HT.sIx ds.length 0 lo=0/\HT.sIx ds.length ds.length hi=ds.length
 ·have e2:ot (.tup ds) lo hi=none:=by simp only[ot,Ag c]
  have e4:IG (.tup ds) lo hi=some (.tup ds,false):=by simp only[IG,Ag c]
  have e5:cutD ds lo hi=ds:=by
   unfold cutD;rw[c.1,c.2];simp
  unfold oy bSl orS;rw[e1,e2,e3,e4,e5]
 ·have e2:ot (.tup ds) lo hi=some (.tup (cutD ds lo hi),false):=by simp only[ot,Ak c]
  unfold oy bSl orS;rw[e1,e2]
theorem yc{a b:List D}(h:a.length+b.length<=100000):f8 (.tup a) (.tup b)=some (.tup (a++b),false):=by
 have e1:qW (.tup a) (.tup b)=none:=rfl;have e2:qX (.tup a) (.tup b)=none:=rfl;have e3:wj (.tup a) (.tup b)=none:=rfl;cases a with
 | nil =>
  have e4:qY (.tup []) (.tup b)=none:=rfl;unfold f8 cj orD;rw[e1,e2,e3,e4];rfl
 | cons x a =>
  have e4:qY (.tup (x::a)) (.tup b)=some (.tup (x::a++b),false):=by
   simp only[Yc]at h;cases b with
   | nil=>simp only[qY,Xc];rw[Ag (by lia)]
   | cons y b =>
    simp only[Yc]at h;simp only[qY];rw[Ag (by lia)]
  unfold f8 cj orD;rw[e1,e2,e3,e4]
def uL{a b:List D}(h:a.length+b.length<=1000000):f8 (.lst a) (.lst b)=some (.lst (a++b),true):=by
 have e1:qW (.lst a) (.lst b)=none:=rfl;have e2:qX (.lst a) (.lst b)=none:=rfl;have e3:wj (.lst a) (.lst b)=some (.lst (a++b),true):=by simp only[wj];rw[Ag h]
 unfold f8 cj orD;rw[e1,e2,e3]
def FV{ds:List D}(h:j<=ds.length):cutD ds none (some (j:Int))=ds.take j:=by
 unfold cutD;rw[HT.sIx_none,HT.sIx_nat,Wl h];simp
def mF{ds:List D}(h:i<=ds.length):cutD ds (some (i:Int)) none=ds.drop i:=by
 unfold cutD;rw[HT.sIx_none,HT.sIx_nat,Wl h,AJ];rw[Zf];lia
def IH{ds:List D}(h:i<=ds.length)(h':j<=ds.length):cutD ds (some (i:Int)) (some (j:Int))=(ds.drop i).take (j-i):=by
 unfold cutD;rw[HT.sIx_nat,HT.sIx_nat,Wl h,Wl h']
end
end VF
namespace VF
open PySem L2
section
variable {α:Type}{fg:FG}{B:FS}{fc:FT}{fe:FE}{k:Nat}
theorem cw(f:α->D)(all:List α)(I:List α->En->Prop)(step:∀(gone:List α)(x:α)(rest:List α)(st:En),all=gone++x::rest->I gone st->∃s1 s2,fg (f x) st=some s1/\B s1=some (.nx s2)/\I (gone++[x]) s2) :
  ∀(items gone:List α)(st:En),all=gone++items->I gone st->∃sf,f7 fg B (items.map f) st=some (.nx sf)/\I all sf
 | [],gone,st,ha,h=>⟨st,rfl,by rw[ha,Xc];exact h⟩
 | x::r,gone,st,ha,h=>by
  obtain⟨s1,s2,e1,e2,e3⟩:=step gone x r st ha h;obtain⟨sf,e4,e5⟩:=cw f all I step r (gone++[x]) s2 (by rw[Qb];exact ha) e3
  refine⟨sf,?_,e5⟩;simp only[We,f7,e1,e2,Wa];exact e4
theorem dA(f g:α->D)(p:α->Bool)(sb:En):∀(xs:List α),(∀x∈xs,∃s1 s2,fg (f x) sb=some s1/\fc s1=some (p x,s2)/\(p x=false->rst k s2=sb)/\(p x=true->∃y s3 s4,fe s2=some (y,s3)/\esc y s3=some (g x,s4)/\rst k s4=sb)) ->
  ci fg fc fe k (xs.map f) sb=some ((xs.filter p).map g,sb)
 | [],_=>rfl
 | x::r,h=>by
  obtain⟨s1,s2,e1,e2,hf,ht⟩:=h x Qa;have ih:=dA f g p sb r fun y hy=>h y (Xb _ hy);cases hp:p x with
  | false =>
   rw[hp]at e2;simp only[We,ci,e1,e2,Wa,Xf,if_false,hf hp,ih,Zh,hp]
  | true =>
   rw[hp]at e2;obtain⟨y,s3,s4,e3,e4,e5⟩:=ht hp;simp only[We,ci,e1,e2,Wa,if_true,e3,e4,e5,ih,Zh,hp]
def bW(f g:α->D)(sb:En)(xs:List α)(h:∀x∈xs,∃s1 s2 y s3 s4,fg (f x) sb=some s1/\fc s1=some (true,s2)/\fe s2=some (y,s3)/\esc y s3=some (g x,s4)/\rst k s4=sb) :
  ci fg fc fe k (xs.map f) sb=some (xs.map g,sb):=by
 have:=dA (fg:=fg) (fc:=fc) (fe:=fe) (k:=k) f g (fun _=>true) sb xs fun x hx=>by
  obtain⟨s1,s2,y,s3,s4,e1,e2,e3,e4,e5⟩:=h x hx;exact⟨s1,s2,e1,e2,fun z=>(Bool.noConfusion z),fun _=>⟨y,s3,s4,e3,e4,e5⟩⟩
 rw[this,List.filter_eq_self.mpr fun _ _=>rfl]
end
section
variable {st s1:En}{rs:List Rs}{fa:FA}
def sM{xs ys:List D}(h:xs.length+ys.length<=1000000):hV (.lst xs) [.lst ys]=some (.non,.lst (xs++ys)):=by
 show(if xs.length+ys.length<=1000000 then some (D.non,D.lst (xs++ys)) else none)=_;rw[Ag h]
end
end VF
namespace VF22
open PySem PySem.Spec PyProof.Rows L2 VF
def ItN(t:Bool):String:=if t then "tuple_iterator" else "list_iterator"
def SqN(t:Bool):String:=if t then "tuple" else "list"
def Io(t:Bool)(h:Heap)(a l:Addr)(i:Nat):Prop:=∃o,h.get? a=some o/\o.cls=.type (ItN t)/\o.data=.fields #[.ref l,.int i 0]
def So(t:Bool)(h:Heap)(l:Addr)(xs:Array Value):Prop:=∃o,h.get? l=some o/\o.cls=.type (SqN t)/\∃n,o.data=.seq xs n
variable {t t1 t2:Bool}{h h':Heap}
theorem Io.by(a:Io t h it l i)(k:∀o,h.get? it=some o->h'.get? it=some o):Io t h' it l i:=by
 obtain⟨o,e,r⟩:=a;exact⟨o,k o e,r⟩
theorem So.by(a:So t h l xs)(k:∀o,h.get? l=some o->h'.get? l=some o):So t h' l xs:=by
 obtain⟨o,e,r⟩:=a;exact⟨o,k o e,r⟩
section
variable {P:Program}{w:World}{A:Around}{E:Value->Shared->Prop}{s:Shared}
def FW(a:Io t s.heap it l i)(b:So t s.heap l xs)(hx:xs[i]?=some x)
  (q:∀h1,Io t h1 it l (i+1)->Heap.SameBut it s.heap h1->Q x { s with heap:=h1 }):wpAny (model P w) A (Builtin.SmallTypes.nextOf (.ref it)) Q E s:=by
 cases t with
 | false=>exact wpAny_nextOf_list_item (i:=i) (l:=l) (items:=xs) a b hx q
 | true =>
  obtain⟨u,hu,cu,du⟩:=id a;obtain⟨v,hv,cv,nv,dv⟩:=b;have ty:s.heap.IsTupleIter it l i:=⟨u,hu,cu,du⟩;unfold Builtin.SmallTypes.nextOf;refine Aa (Ap (name:=Str.ofString "__next__") ty.typeIs F.slot_tuple_iterator_next (As F.slot_tuple_iterator_next ty.typeIs F.entry_tuple_iterator_next ?_ (F.args_tuple_iterator_next_1 _)));show wpAny _ _ (field (.ref it) 0 >>= _) _ _ _;refine Aa (At hu du (x:=.ref l) rfl ?_);show wpAny _ _ (if (Value.ref l == Value.none)=true then _ else _) _ _ _;rw[Ak (show ¬ ((Value.ref l == .none)=true) from Qd)];show wpAny _ _ (field (.ref it) 1 >>= _) _ _ _;refine Aa (At hu du (x:=.int i 0) rfl ?_);show wpAny _ _ (seqItems? (.ref l) >>= _) _ _ _;refine Aa (AE hv dv ?_);simp only[hx,Qm];refine Aa (Ca hu du (by simp) (Ad ⟨x,rfl,Ad (q _ ?_ (Bu ..))⟩))
  refine⟨_,B7 _ hu (Obj.isFreed_of_fields (BB du _)),(Obj.cls_mapFields ..).trans cu,?_⟩;rw[BB du];simp[rawInt]
def FX(hh:A.handled=none)(a:Io t s.heap it l i)(b:So t s.heap l xs)(hx:xs[i]?=none)
  (q:∀h1 e,Heap.ExtBut it s.heap h1->(∃o,h1.get? e=some o/\o.cls=.type "StopIteration")->E (.ref e) { s with heap:=h1 }):wpAny (model P w) A (Builtin.SmallTypes.nextOf (.ref it)) Q E s:=by
 cases t with
 | false=>exact wpAny_nextOf_list_end (i:=i) (l:=l) (items:=xs) hh a b hx q
 | true =>
  obtain⟨u,hu,cu,du⟩:=id a;obtain⟨v,hv,cv,nv,dv⟩:=b;have ty:s.heap.IsTupleIter it l i:=⟨u,hu,cu,du⟩;unfold Builtin.SmallTypes.nextOf;refine Aa (Ap (name:=Str.ofString "__next__") ty.typeIs F.slot_tuple_iterator_next (As F.slot_tuple_iterator_next ty.typeIs F.entry_tuple_iterator_next ?_ (F.args_tuple_iterator_next_1 _)));show wpAny _ _ (field (.ref it) 0 >>= _) _ _ _;refine Aa (At hu du (x:=.ref l) rfl ?_);show wpAny _ _ (if (Value.ref l == Value.none)=true then _ else _) _ _ _;rw[Ak (show ¬ ((Value.ref l == .none)=true) from Qd)];show wpAny _ _ (field (.ref it) 1 >>= _) _ _ _;refine Aa (At hu du (x:=.int i 0) rfl ?_);show wpAny _ _ (seqItems? (.ref l) >>= _) _ _ _;refine Aa (AE hv dv ?_);simp only[hx,Qm];refine Aa (AH (Aa (Ca hu du (by simp) ?_)))
  show wpAny _ _ (newExc (.type "StopIteration") [] >>= _) _ _ _;refine Aa ?_;simp only[newExc,newTuple];refine Aa (Ao ?_ (by size_fits))
  refine Aa (m:=firstArgMember _ _) (wpAny_of_eq (a:=.none) (by first|rfl|(simp only[firstArgMember];rfl)) ?_)
  refine Ao ?_ (by size_fits)
  simp only[raiseNew];refine Aa (wpAny_handled ?_)
  first|rw[show A.in1.handled=none from hh]|rw[hh]
  refine Aa (Ad (wpAny_throw ?_));exact q _ _ (((Bu ..).extBut.push _).push _) ⟨_,Ai _ rfl,rfl⟩
def Od(W:ZipApart z T1 T2 i1 i2 l1 l2)(hz:IsZip s.heap z T1 T2 .none)(p1:IsPair s.heap T1 (.ref i1) (.ref i2))(p2:IsPair s.heap T2 a b)
  (u1:Io t1 s.heap i1 l1 k)(u2:Io t2 s.heap i2 l2 k)(v1:So t1 s.heap l1 xs)(v2:So t2 s.heap l2 ys)(hx:xs[k]?=some x)(hy:ys[k]?=some y)
  (q:∀g,IsZip g z T1 T2 (rawInt s.heap.objs.size)->IsPair g T2 x y->Io t1 g i1 l1 (k+1)->Io t2 g i2 l2 (k+1)->IsPair g s.heap.objs.size x y ->
   (∀c o,c≠z->c≠T2->c≠i1->c≠i2->s.heap.get? c=some o->g.get? c=some o)->Q (some (.ref s.heap.objs.size)) { s with heap:=g }):wpAny (model P w) A (pyNext (.ref z)) Q E s:=by
 have ty:s.TypeIs (.ref z) "zip":=⟨_,hz,rfl⟩;unfold pyNext;refine Aa (BM (Ap (name:=Str.ofString "__next__") ty F.slot_zip_next (As F.slot_zip_next ty F.entry_zip_next ?_ (F.args_zip_next_1 _))));show wpAny _ _ (field (.ref z) 2 >>= _) _ _ s;refine Aa (At hz rfl (x:=.bool false) rfl ?_);show wpAny _ _ (field (.ref z) 3 >>= _) _ _ s;refine Aa (At hz rfl (x:=.ref T1) rfl ?_);refine Aa (AE p1 rfl ?_);show wpAny _ _ (Builtin.SmallTypes.ownedTupleIsFree (.ref z) >>= _) _ _ s;refine Aa ?_;unfold Builtin.SmallTypes.ownedTupleIsFree;refine Aa (At hz rfl (x:=Value.none) rfl (Ad ?_));simp only[if_true];refine Aa (AH ?_);refine Aa (At hz rfl (x:=.ref T2) rfl ?_);refine Aa (AG hz (by simp) fun g1 z1 s1=>?_)
 replace z1:IsZip g1 z T1 T2 .ellipsis:=z1
 refine Aa ?_;simp only[B3,List.forIn_nil,Bo,List.zipIdx_nil];refine Aa (Aa (Ci ?_));show wpAny _ _ (Builtin.SmallTypes.nextOf (.ref i1) >>= _) _ _ { s with heap:=g1 };refine Aa (FW (s:={ s with heap:=g1 }) (u1.by fun o e=>s1.extBut _ o W.i1z e) (v1.by fun o e=>s1.extBut _ o W.l1z e) hx fun g2 n1 s2=>Ad ?_)
 have p22:IsPair g2 T2 a b:=s2.extBut _ _ W.TOi1 (s1.extBut _ _ W.TOz p2);refine Aa (AE p22 rfl ?_);refine Aa (B9 p22 fun g3 p23 s3=>?_);replace p23:IsPair g3 T2 x b:=p23;refine Aa (wpAny_letGo (Ad ?_));refine Aa (Aa (Ci ?_));show wpAny _ _ (Builtin.SmallTypes.nextOf (.ref i2) >>= _) _ _ { s with heap:=g3 };refine Aa (FW (s:={ s with heap:=g3 }) (u2.by fun o e=>s3.extBut _ o W.TOi2.symm (s2.extBut _ o W.i12.symm (s1.extBut _ o W.i2z e))) (v2.by fun o e=>s3.extBut _ o W.l2TO (s2.extBut _ o W.l2i1 (s1.extBut _ o W.l2z e))) hy fun g4 n2 s4=>Ad ?_)
 have p24:IsPair g4 T2 x b:=s4.extBut _ _ W.TOi2 p23;refine Aa (AE p24 rfl ?_);refine Aa (B9 p24 fun g5 p25 s5=>?_);replace p25:IsPair g5 T2 x y:=p25;refine Aa (wpAny_letGo (Ad (Ad ?_)));refine Aa (AE p25 rfl ?_);refine Aa (wpAny_newTuple ?_);have sz:g5.objs.size=s.heap.objs.size:=by rw[s5.1,s4.1,s3.1,s2.1,s1.1]
 have z5:IsZip g5 z T1 T2 .ellipsis:=s5.extBut _ _ W.TOz.symm (s4.extBut _ _ W.i2z.symm (s3.extBut _ _ W.TOz.symm (s2.extBut _ _ W.i1z.symm z1)));have k5:∀c o,c≠z->c≠T2->c≠i1->c≠i2->s.heap.get? c=some o->g5.get? c=some o:=fun c o c1 c2 c3 c4 e=>s5.extBut _ _ c2 (s4.extBut _ _ c4 (s3.extBut _ _ c2 (s2.extBut _ _ c3 (s1.extBut _ _ c1 e))));have n15:Io t1 g5 i1 l1 (k+1):=n1.by fun o e=>s5.extBut _ o W.TOi1.symm (s4.extBut _ o W.i12 (s3.extBut _ o W.TOi1.symm e))
 have n25:Io t2 g5 i2 l2 (k+1):=n2.by fun o e=>s5.extBut _ o W.TOi2.symm e
 have zl:z<g5.objs.size:=Aj z5;show wpAny _ _ (Builtin.SmallTypes.ownedTupleHandOut (.ref z) (.ref g5.objs.size) >>= _) _ _ _;refine Aa ?_;unfold Builtin.SmallTypes.ownedTupleHandOut;have z6:IsZip (g5.push { cls:=.type "tuple",data:=.seq #[x,y] }) z T1 T2 .ellipsis:=Ac _ z5;refine Aa (AG z6 (by simp) fun g7 z7 s7=>?_)
 replace z7:IsZip g7 z T1 T2 (rawInt g5.objs.size):=z7
 refine AG z7 (by simp) fun g8 z8 s8=>?_
 replace z8:IsZip g8 z T1 T2 (rawInt g5.objs.size):=z8
 have up:∀c o,c≠z->g5.get? c=some o->g8.get? c=some o:=fun c o c1 e=>s8.extBut _ _ c1 (s7.extBut _ _ c1 (Ac _ e));have pT:IsPair g8 g5.objs.size x y:=s8.extBut _ _ (Vj zl) (s7.extBut _ _ (Vj zl) (Ai _ rfl));rw[sz]at z8 pT;refine Ad ⟨_,rfl,Ad ?_⟩;show Q (some (.ref g5.objs.size)) _;rw[sz];exact q g8 z8 (up _ _ W.TOz p25) (n15.by fun o e=>up _ o W.i1z e) (n25.by fun o e=>up _ o W.i2z e) pT fun c o c1 c2 c3 c4 e=>up c o c1 (k5 c o c1 c2 c3 c4 e)
def Mz(hh:A.handled=none)(W:ZipApart z T1 T2 i1 i2 l1 l2)(hz:IsZip s.heap z T1 T2 .none)(p1:IsPair s.heap T1 (.ref i1) (.ref i2))(p2:IsPair s.heap T2 a b)
  (u1:Io t1 s.heap i1 l1 k)(u2:Io t2 s.heap i2 l2 k)(v1:So t1 s.heap l1 xs)(v2:So t2 s.heap l2 ys)(hend:xs[k]?=none∨ys[k]?=none)
  (q:∀g,(∀c o,c≠z->c≠T2->c≠i1->c≠i2->s.heap.get? c=some o->g.get? c=some o)->Q none { s with heap:=g }):wpAny (model P w) A (pyNext (.ref z)) Q E s:=by
 have ty:s.TypeIs (.ref z) "zip":=⟨_,hz,rfl⟩;unfold pyNext;have fin:∀g e,(∀c o,c≠z->c≠T2->c≠i1->c≠i2->s.heap.get? c=some o->g.get? c=some o)->(∃o,g.get? e=some o/\o.cls=.type "StopIteration")->wpAny (model P w) A (do if (← isInstance (.ref e) (.type "StopIteration")) then return none else throw (.ref e)) Q E { s with heap:=g }:=fun g e kp ⟨o,ho,ho2⟩ =>
  Aa (wpAny_isInstance (T:="StopIteration") (b:=true) ⟨o,ho,ho2⟩ isSubtype_stop (Ad (q g kp)))
 refine Aa (BM (Ap (name:=Str.ofString "__next__") ty F.slot_zip_next (As F.slot_zip_next ty F.entry_zip_next ?_ (F.args_zip_next_1 _))));show wpAny _ _ (field (.ref z) 2 >>= _) _ _ s;refine Aa (At hz rfl (x:=.bool false) rfl ?_);show wpAny _ _ (field (.ref z) 3 >>= _) _ _ s;refine Aa (At hz rfl (x:=.ref T1) rfl ?_);refine Aa (AE p1 rfl ?_);show wpAny _ _ (Builtin.SmallTypes.ownedTupleIsFree (.ref z) >>= _) _ _ s;refine Aa ?_;unfold Builtin.SmallTypes.ownedTupleIsFree;refine Aa (At hz rfl (x:=Value.none) rfl (Ad ?_));simp only[if_true];refine Aa (AH ?_);refine Aa (At hz rfl (x:=.ref T2) rfl ?_);refine Aa (AG hz (by simp) fun g1 z1 s1=>?_)
 replace z1:IsZip g1 z T1 T2 .ellipsis:=z1
 refine Aa ?_;simp only[B3,List.forIn_nil,Bo,List.zipIdx_nil];refine Aa (Aa (Ci ?_));show wpAny _ _ (Builtin.SmallTypes.nextOf (.ref i1) >>= _) _ _ { s with heap:=g1 };have w1:Io t1 g1 i1 l1 k:=u1.by fun o e=>s1.extBut _ o W.i1z e
 have w2:So t1 g1 l1 xs:=v1.by fun o e=>s1.extBut _ o W.l1z e
 cases hx:xs[k]? with
 | none =>
  refine Aa (FX (s:={ s with heap:=g1 }) hh w1 w2 hx fun g2 e s2 he=>?_);obtain⟨oe,he1,he2⟩:=he;have z2:IsZip g2 z T1 T2 .ellipsis:=s2 _ _ W.i1z.symm z1;have ne:e≠z:=fun m=>by subst m;rw[z2]at he1;cases he1;simp at he2
  exact AG z2 (by simp) fun g3 _ s3=>fin g3 e (fun c o c1 _ c3 _ m=>s3.extBut _ _ c1 (s2 _ _ c3 (s1.extBut _ _ c1 m))) ⟨oe,s3.extBut _ _ ne he1,he2⟩
 | some x =>
  have hy:ys[k]?=none:=by
   rcases hend with m|m
   ·rw[hx]at m;cases m
   ·exact m
  refine Aa (FW (s:={ s with heap:=g1 }) w1 w2 hx fun g2 n1 s2=>Ad ?_);have p22:IsPair g2 T2 a b:=s2.extBut _ _ W.TOi1 (s1.extBut _ _ W.TOz p2);refine Aa (AE p22 rfl ?_);refine Aa (B9 p22 fun g3 p23 s3=>?_);refine Aa (wpAny_letGo (Ad ?_));refine Aa (Aa (Ci ?_));show wpAny _ _ (Builtin.SmallTypes.nextOf (.ref i2) >>= _) _ _ { s with heap:=g3 };refine Aa (FX (s:={ s with heap:=g3 }) hh (u2.by fun o e=>s3.extBut _ o W.TOi2.symm (s2.extBut _ o W.i12.symm (s1.extBut _ o W.i2z e))) (v2.by fun o e=>s3.extBut _ o W.l2TO (s2.extBut _ o W.l2i1 (s1.extBut _ o W.l2z e))) hy fun g4 e s4 he=>?_)
  obtain⟨oe,he1,he2⟩:=he;have z4:IsZip g4 z T1 T2 .ellipsis:=s4 _ _ W.i2z.symm (s3.extBut _ _ W.TOz.symm (s2.extBut _ _ W.i1z.symm z1));have ne:e≠z:=fun m=>by subst m;rw[z4]at he1;cases he1;simp at he2
  exact AG z4 (by simp) fun g5 _ s5=>fin g5 e (fun c o c1 c2 c3 c4 m=>s5.extBut _ _ c1 (s4 _ _ c4 (s3.extBut _ _ c2 (s2.extBut _ _ c3 (s1.extBut _ _ c1 m))))) ⟨oe,s5.extBut _ _ ne he1,he2⟩
end
end VF22
namespace VF22
open PySem PySem.Spec PyProof.Rows L2 VF
section
variable {t t1 t2:Bool}{P:Program}{w:World}{A:Around}{E:Value->Shared->Prop}{s:Shared}
def zI(t:Bool)(l:Addr):Obj:={ cls:=.type (ItN t),data:=.fields #[.ref l,.int 0 0] }
theorem yd(b:So t s.heap l xs)(q:Q (.ref s.heap.objs.size) { s with heap:=s.heap.push (zI t l) }):wpAny (model P w) A (pyIter (.ref l)) Q E s:=by
 cases t with
 | false=>exact CK (items:=xs) b q
 | true=>exact wpAny_pyIter_tuple (items:=xs) b q
abbrev zA(t1:Bool)(h:Heap)(l1:Addr):Heap:=h.push (zI t1 l1)
abbrev zB(t1 t2:Bool)(h:Heap)(l1 l2:Addr):Heap:=(zA t1 h l1).push (zI t2 l2)
abbrev zC(t1 t2:Bool)(h:Heap)(l1 l2:Addr):Heap:=(zB t1 t2 h l1 l2).push { cls:=.type "tuple",data:=.seq #[.ref h.objs.size,.ref (zA t1 h l1).objs.size] }
abbrev zD(t1 t2:Bool)(h:Heap)(l1 l2:Addr):Heap:=(zC t1 t2 h l1 l2).push { cls:=.type "tuple",data:=.seq #[.none,.none] }
abbrev zE(t1 t2:Bool)(h:Heap)(l1 l2:Addr):Heap:=(zD t1 t2 h l1 l2).push { cls:=.type "zip",data:=.fields #[.none,.bool false,.bool false,.ref (zB t1 t2 h l1 l2).objs.size,.ref (zC t1 t2 h l1 l2).objs.size] }
def FY(t1 t2:Bool)(l1 l2:Addr)(xs ys:Array Value):Meets (Builtin.«zip.__new__» ⟨[.type "zip",.ref l1,.ref l2],[]⟩) (fun _ R s=>So t1 s.heap l1 xs/\So t2 s.heap l2 ys /\
   R (.ok (.ret (.ref (zD t1 t2 s.heap l1 l2).objs.size))) { s with heap:=zE t1 t2 s.heap l1 l2 }) :=
 .of_wp fun prog w A R s h=>by
  obtain⟨hp,g,d,tk,os⟩:=s;obtain⟨v1,v2,h⟩:=h;have hsub:=sub_zip;have L1:So t1 (Shared.heap ⟨hp,g,d,tk,os⟩) l1 xs:=v1;have L2:So t2 (Shared.heap ⟨hp.push (zI t1 l1),g,d,tk,os⟩) l2 ys:=So.by v2 fun o e=>Ac _ e
  wp_walk using yd L1,yd L2
  exact⟨_,rfl,h⟩
def FZ(v1:So t1 s.heap l1 xs)(v2:So t2 s.heap l2 ys)
  (q:∀g,IsZip g (s.heap.objs.size+4) (s.heap.objs.size+2) (s.heap.objs.size+3) .none->IsPair g (s.heap.objs.size+2) (.ref s.heap.objs.size) (.ref (s.heap.objs.size+1))->IsPair g (s.heap.objs.size+3) .none .none ->
   Io t1 g s.heap.objs.size l1 0->Io t2 g (s.heap.objs.size+1) l2 0->(∀c o,s.heap.get? c=some o->g.get? c=some o)->Q (.ref (s.heap.objs.size+4)) { s with heap:=g }) :
  wpAny (model P w) A (call (.type "zip") [.ref l1,.ref l2]) Q E s:=by
 refine callType_new F.called_zip (by decide) (F.typeCall_zip_2 _ _) (F.newCall_zip_2 _ _) (fun obj=>F.args_object_init_3 obj _ _) F.entry_zip_new (FY t1 t2 l1 l2 xs ys) ⟨v1,v2,?_⟩
 have m1:(zA t1 s.heap l1).objs.size=s.heap.objs.size+1:=BH ..;have m2:(zB t1 t2 s.heap l1 l2).objs.size=s.heap.objs.size+2:=by rw[BH,m1]
 have m3:(zC t1 t2 s.heap l1 l2).objs.size=s.heap.objs.size+3:=by rw[BH,m2]
 have m4:(zD t1 t2 s.heap l1 l2).objs.size=s.heap.objs.size+4:=by rw[BH,m3]
 have g5:(zE t1 t2 s.heap l1 l2).get? (zD t1 t2 s.heap l1 l2).objs.size=some _:=Ai _ rfl;have g4:(zE t1 t2 s.heap l1 l2).get? (zC t1 t2 s.heap l1 l2).objs.size=some _:=Ac _ (Ai _ rfl);have g3:(zE t1 t2 s.heap l1 l2).get? (zB t1 t2 s.heap l1 l2).objs.size=some _:=Ac _ (Ac _ (Ai _ rfl));have g2:(zE t1 t2 s.heap l1 l2).get? (zA t1 s.heap l1).objs.size=some (zI t2 l2):=Ac _ (Ac _ (Ac _ (Ai _ rfl)));have g1:(zE t1 t2 s.heap l1 l2).get? s.heap.objs.size=some (zI t1 l1):=Ac _ (Ac _ (Ac _ (Ac _ (Ai _ rfl))));show _/\_;rw[m2,m3,m4]at g5;rw[m1,m2]at g3;rw[m3]at g4;rw[m1]at g2;rw[m4];exact⟨⟨_,g5,rfl⟩,q _ g5 g3 g4 ⟨_,g1,rfl,rfl⟩ ⟨_,g2,rfl,rfl⟩ fun c o e=>Ac _ (Ac _ (Ac _ (Ac _ (Ac _ e))))⟩
end
section
variable {X:Cx}{K:Ab}{t t1 t2:Bool}{pins:List (Addr×Obj)}{σ:L2.St}{H:Hp}{s:Shared}{h':Heap}
def ye{t':Nat}{ch:List Addr}(I:L2.Inv X pins σ H s)(f:∀b∈ch,ol X pins H b)(k:∀b o,b∉ch->s.heap.get? b=some o->h'.get? b=some o):L2.Inv X pins σ H { s with heap:=h',toks:=t' }:=by
 have nit:∀b u,H b=some u->b∉ch:=fun b u e z=>by rw[(f b z).1]at e;cases e
 refine I.step (g':=s.gens) (d':=s.drawn) (ch:=ch) (fun b hb=>?_) (fun b o _ _ hc e _=>k b o hc e) (fun b o _ _ hc e _=>⟨o.slots,k b o hc e⟩) (fun _ _ _ _ n=>n)
  (fun b o hc e=>⟨o,k b o hc e⟩) (fun _ _ e=>e) (fun _ _ _ e=>e) (fun b ps e=>⟨#[],by rw[e];simp⟩) (fun m hm=>?_) (fun b u e=>?_) I.bare
 ·obtain⟨_,f1,_,f3,f4,f5⟩:=f b hb;exact⟨f3,f1,f4,f5⟩
 ·obtain⟨o,es,ep,ho,r⟩:=hm;exact⟨o,es,ep,k _ o (fun z=>(f _ z).2.1 rfl) ho,r⟩
 ·refine(I.hok b u e).stay (fun c v hc q=>k c v ?_ q) (fun _ q=>q) fun _ _ q=>q;rcases hc with z|z
  ·rw[z];exact nit b u e
  ·exact nit c _ z
def Sq(K:Ab)(t:Bool)(H:Hp)(a:Addr)(xs:List V):Prop:=if t then SqT K H a xs else SqL K H a xs
theorem Sq.so(I:L2.Inv X pins σ H s)(h:Sq X.K t H l xs):∃its:List Value,Vals xs its/\So t s.heap l its.toArray:=by
 cases t with
 | false =>
  obtain⟨its,rv,p,_⟩:=I.list h;exact⟨its,rv,p.isList⟩
 | true =>
  obtain⟨its,rv,p,_⟩:=I.tuple h;exact⟨its,rv,p⟩
theorem Sq.inj(I:L2.Inv X pins σ H s)(h:Sq X.K t H l xs)(h2:Sq X.K t H l ys):xs=ys:=by
 cases t with
 | false=>exact I.list_inj h h2
 | true=>exact I.tuple_inj h h2
def Itz(K : Ab)(t1 t2 : Bool)(l1 l2 : Addr) : It :=
  ⟨fun i H => ∃ xs ys x y, Sq K t1 H l1 xs ∧ Sq K t2 H l2 ys ∧ xs[i]? = some x ∧ ys[i]? = some y,
   fun i H v H' => ∃ p x y, v = .ref p ∧ H p = none ∧ H' = upd H p (.tup [x, y]) ∧ (∀ xs, Sq K t1 H l1 xs → xs[i]? = some x) ∧ ∀ ys, Sq K t2 H l2 ys → ys[i]? = some y,
   fun i H => ∃ xs ys, Sq K t1 H l1 xs ∧ Sq K t2 H l2 ys ∧ (xs.length ≤ i ∨ ys.length ≤ i)⟩
def Zs(t1 t2:Bool)(z T1 T2 i1 i2 l1 l2:Addr)(i:Nat)(h:Heap):Prop:=IsZip h z T1 T2 .none/\IsPair h T1 (.ref i1) (.ref i2)/\(∃a b,IsPair h T2 a b)/\Io t1 h i1 l1 i/\Io t2 h i2 l2 i
def Oe(h:b∈[z,T1,T2,i1,i2]):b=z∨b=T1∨b=T2∨b=i1∨b=i2:=by simpa using h
theorem Zs.at{h:Heap}(st:Zs t1 t2 z T1 T2 i1 i2 l1 l2 i h)(hb:b∈[z,T1,T2,i1,i2]):∃o,h.get? b=some o/\∀v,o.data≠.cell v:=by
 obtain⟨a1,a2,⟨_,_,a3⟩,⟨o1,a4,_,d4⟩,⟨o2,a5,_,d5⟩⟩:=st;rcases Oe hb with rfl|rfl|rfl|rfl|rfl
 ·exact⟨_,a1,fun v m=>by cases m⟩
 ·exact⟨_,a2,fun v m=>by cases m⟩
 ·exact⟨_,a3,fun v m=>by cases m⟩
 ·exact⟨_,a4,fun v m=>by rw[d4]at m;cases m⟩
 ·exact⟨_,a5,fun v m=>by rw[d5]at m;cases m⟩
def F3{es:List Expr}{x1}{z T1 T2 i1 i2 l1 l2:Addr}(W:ZipApart z T1 T2 i1 i2 l1 l2):Turn P w K (.Tuple es x1 ps) (Itz K t1 t2 l1 l2) [z,T1,T2,i1,i2] z (Zs t1 t2 z T1 T2 i1 i2 l1 l2) where
 mem:=.head _
 obj:=fun i h st b hb=>st.at hb
 keep:=fun i h h' st k=>by
  obtain⟨a1,a2,⟨a,b,a3⟩,a4,a5⟩:=st;exact⟨k z (.head _) _ a1,k T1 (.tail _ (.head _)) _ a2,⟨a,b,k T2 (.tail _ (.tail _ (.head _))) _ a3⟩,a4.by fun o e=>k i1 (.tail _ (.tail _ (.tail _ (.head _)))) o e,a5.by fun o e=>k i2 (.tail _ (.tail _ (.tail _ (.tail _ (.head _))))) o e⟩
 item:=by
  intro X hP hw hK hc i pins s σ H E I hf st hg;subst hP hw hK;obtain⟨xs,ys,x,y,q1,q2,e1,e2⟩:=hg;obtain⟨is,r1,v1⟩:=q1.so I;obtain⟨js,r2,v2⟩:=q2.so I;obtain⟨u,hu,ru⟩:=r1.get e1;obtain⟨v,hv,rv⟩:=r2.get e2;have hn:H s.heap.objs.size=none:=I.hok.fresh (Va _);have lt:∀b∈[z,T1,T2,i1,i2],b≠s.heap.objs.size:=fun b hb=>by
   obtain⟨o,ho,_⟩:=Zs.at st hb;exact Qh (Aj ho)
  obtain⟨a1,a2,⟨a,b,a3⟩,a4,a5⟩:=st;refine Od W a1 a2 a3 a4 a5 v1 v2 (x:=u) (y:=v) (by simpa using hu) (by simpa using hv) fun g z1 p2 n1 n2 pT kp=>?_
  refine⟨_,rfl,wpAny_letOwnedTupleGo_zip (s:={ s with heap:=g }) z1 fun g2 z2 sb=>?_⟩;have kk:∀c o,c≠z->c≠T2->c≠i1->c≠i2->s.heap.get? c=some o->g2.get? c=some o:=fun c o c1 c2 c3 c4 e=>sb.extBut _ _ c1 (kp c o c1 c2 c3 c4 e);have pT2:IsPair g2 s.heap.objs.size u v:=sb.extBut _ _ (AN (lt z (.head _))) pT;have I1:L2.Inv X pins σ (upd H s.heap.objs.size (.tup [x,y])) { s with heap:=s.heap.push { cls:=.type "tuple",data:=.seq #[u,v] },toks:=s.toks } :=
   I.laid (fun b o e=>Ac _ e) (Va _) ⟨show 2<=sizeLine by decide,[u,v],.cons ru (.cons rv .nil),⟨_,Ai _ rfl,rfl,_,rfl⟩⟩
  have ff:∀b∈[z,T1,T2,i1,i2],ol X pins (upd H s.heap.objs.size (.tup [x,y])) b:=fun b hb=>by
   obtain⟨f0,f1,f2,f3,f4,f5⟩:=hf b hb;exact⟨by rw[bj (lt b hb)];exact f0,f1,f2,f3,f4,f5⟩
  have I2:L2.Inv X pins σ (upd H s.heap.objs.size (.tup [x,y])) { s with heap:=g2 }:=by
   refine ye (s:={ s with heap:=s.heap.push { cls:=.type "tuple",data:=.seq #[u,v] } }) (t':=s.toks) I1 ff fun c o hc e=>?_;rcases Heap.get?_push_cases e with⟨rfl,rfl⟩|e
   ·exact pT2
   ·exact kk c o (fun m=>hc (m ▸ .head _)) (fun m=>hc (m ▸ .tail _ (.tail _ (.head _)))) (fun m=>hc (m ▸ .tail _ (.tail _ (.tail _ (.head _))))) (fun m=>hc (m ▸ .tail _ (.tail _ (.tail _ (.tail _ (.head _)))))) e
  refine⟨.ref s.heap.objs.size,_,I2,rfl,⟨_,x,y,rfl,hn,rfl,fun zs hz=>by rw[hz.inj I q1];exact e1,fun zs hz=>by rw[hz.inj I q2];exact e2⟩,?_,fun b hb=>(ff b hb).1⟩
  exact⟨z2,sb.extBut _ _ W.TIz (kp _ _ W.TIz W.TITO W.TIi1 W.TIi2 a2),⟨_,_,sb.extBut _ _ W.TOz p2⟩,n1.by fun o e=>sb.extBut _ o W.i1z e,n2.by fun o e=>sb.extBut _ o W.i2z e⟩
 done:=by
  intro X hP hw hK hc i pins s σ H E I hf st hg;subst hP hw hK;obtain⟨xs,ys,q1,q2,hl⟩:=hg;obtain⟨a1,a2,⟨a,b,a3⟩,a4,a5⟩:=st;obtain⟨is,r1,v1⟩:=q1.so I;obtain⟨js,r2,v2⟩:=q2.so I;have l1:=r1.length;have l2:=r2.length;refine Mz (I.ok.hd hc) W a1 a2 a3 a4 a5 v1 v2 (hl.imp (fun m=>by rw[DD];exact Zm (l1 ▸ m)) fun m=>by rw[DD];exact Zm (l2 ▸ m)) fun g kp=>⟨rfl,ye (t':=s.toks) I hf fun c o hc e=>?_⟩
  exact kp c o (fun m=>hc (m ▸ .head _)) (fun m=>hc (m ▸ .tail _ (.tail _ (.head _)))) (fun m=>hc (m ▸ .tail _ (.tail _ (.tail _ (.head _))))) (fun m=>hc (m ▸ .tail _ (.tail _ (.tail _ (.tail _ (.head _)))))) e
 self:=fun _ _ _ _ _ st h=>wpAny_pyIter_zip st.1 h
def MA(K:Ab)(ta:TA):TI:=fun σ H R=>ta σ H fun vs H1=>∃t1 t2 l1 l2 xs ys,vs=[.ref l1,.ref l2]/\Sq K t1 H1 l1 xs/\Sq K t2 H1 l2 ys/\R (Itz K t1 t2 l1 l2) H1
def boot_zip:bootBuiltins "zip"=some (.type "zip"):=by decide +kernel
def II{x1}(hg:Gl X "zip")(hm:X.mg "zip"=none)(ha:PA X [a,b] ta)(hs:starEach [a,b] X.env=[(false,eval a X.env),(false,eval b X.env)])(hs2:starEach [b] X.env=[(false,eval b X.env)]) :
  PI X (.Tuple es x1 ps) (.Call (.Name "zip" p) [a,b] [] pos) (MA X.K ta):=by
 intro pins s σ H R I h;refine Call_ (o9 I hg hm boot_zip (Bz (thn (ha pos pins s σ H _ I h) fun us s1 ⟨vs,H1,I1,r1,q1⟩=>?_) (by rw[hs,hs2]) (by rw[hs2];rfl)))
 obtain⟨t1,t2,l1,l2,xs,ys,e,w1,w2,q⟩:=q1;subst e;cases r1 with
 | cons r rr =>
  cases rr with
  | cons r' rr =>
   cases rr;cases r;cases r';obtain⟨is,r1,v1⟩:=w1.so I1;obtain⟨js,r2,v2⟩:=w2.so I1;refine FZ v1 v2 fun g z p1 p2 n1 n2 kp=>?_;obtain⟨o1,ho1,_⟩:=id v1;obtain⟨o2,ho2,_⟩:=id v2;refine wpAny_pyIter_zip (s:={ s1 with heap:=g }) z ⟨_,[s1.heap.objs.size+4,s1.heap.objs.size+2,s1.heap.objs.size+3,s1.heap.objs.size,s1.heap.objs.size+1],_,_,H1,rfl,I1.kept (t':=s1.toks) kp,F3 (PySem.W.ktu_apart _ _ _ (Aj ho1) (Aj ho2)),⟨z,p1,⟨_,_,p2⟩,n1,n2⟩,fun b hb=>?_,q⟩;have hb':=Oe hb;have le:s1.heap.objs.size<=b:=by
    rcases hb' with m|m|m|m|m<;>(rw[m];first|exact Vl _ _|exact Va _)
   exact I1.fpOk le (I1.hok.fresh le)
end
end VF22
namespace VF22
open PySem L2 VF
section
variable {X:Cx}{K:Ab}{O O' Z:AS}{H H':Hp}{v:V}{d:D}
def sqD:D->Option (List D)
 | .lst ds=>some ds
 | .fl ds=>some ds
 | .tup ds=>some ds
 | _=>none
def MB:List D->Option (List D×List D)
 | [a,b]=>(sqD a).bind fun x=>(sqD b).bind fun y=>some (x,y)
 | _=>none
def pr(a b:D):D:=.tup [a,b]
def fIZ(fa:FA):FI:=fun st=>(fa st).bind fun x=>(d8 x.1 x.2).bind fun y=>(MB y.1).bind fun w=>some (List.zipWith pr w.1 w.2,y.2)
theorem KC(da:DA K (U O Z) H v d)(e:sqD d=some is):∃t l ws,v=.ref l/\∀H' O',Ext O H O' H'->Sq K t H' l ws/\El K (U O' Z) H' ws is:=by
 cases d with
 | lst ds =>
  cases e;cases da with
  | @lst a vs _ h0 h1 h2 h3=>exact⟨false,a,vs,rfl,fun H' O' ex=>⟨.inl (.inl (ex.kp a _ h1 fun z=>h0 (.inl z))),El.ext ⟨h2,h3⟩ ex⟩⟩
 | fl ds =>
  cases e;cases da with
  | @fl a vs _ h1 h2 h3 =>
   refine⟨false,a,vs,rfl,fun H' O' ex=>⟨?_,El.ext ⟨h2,h3⟩ ex⟩⟩;rcases h1 with⟨h1,hn⟩|h1
   ·exact .inl (Rd.keep h1 fun o e=>ex.kp a o e fun z=>hn (.inl z))
   ·exact h1 H'
 | tup ds =>
  cases e;cases da with
  | @tup a vs _ h1 h2 h3 =>
   refine⟨true,a,vs,rfl,fun H' O' ex=>⟨?_,El.ext ⟨h2,h3⟩ ex⟩⟩;exact .inl (.inl (ex.kp a _ h1.1 fun z=>h1.2 (.inl z)))
 | _=>cases e
def Of{as bs:List D}{i:Nat}{d:D}(h:(List.zipWith pr as bs)[i]?=some d):∃a b,as[i]?=some a/\bs[i]?=some b/\d=.tup [a,b]:=by grind [D,pr]
def F4{ta:TA}{fa:FA}(h:RdA K ta fa):RdI K (MA K ta) (fIZ fa):=by
 intro st σ H O Z R E items st' e q;refine bsP e fun rs st1 e1 e=>?_;refine bsP e fun ds st2 e2 e=>?_;refine bsP e fun as bs e3 e=>?_;cases e;refine h st σ H O Z _ E rs st1 e1 fun vs H1 O1 x1 k1 E1 rvs=>?_;obtain⟨O2,x2,k2,E2,el⟩:=rvs.esc E1 e2;replace e3:MB ds=some (as,bs):=e3;unfold MB at e3;split at e3
 ·rename_i a b
  refine bsO e3 fun as' e4 e3=>?_;refine bsO e3 fun bs' e5 e3=>?_;cases e3;obtain⟨v1,r,rfl,da1,el⟩:=el.uncons;obtain⟨v2,r,rfl,da2,el⟩:=el.uncons;obtain rfl:=el.unnil;obtain⟨t1,l1,xs,rfl,k3⟩:=KC da1 e4;obtain⟨t2,l2,ys,rfl,k4⟩:=KC da2 e5;refine⟨t1,t2,l1,l2,xs,ys,rfl,(k3 H1 O2 (Ext.refl _ _)).1,(k4 H1 O2 (Ext.refl _ _)).1,q _ H1 O2 (x1.trans x2) (k1.trans k2) E2 fun H' O' ex liv=>?_⟩;obtain⟨s1,el1⟩:=k3 H' O' ex;obtain⟨s2,el2⟩:=k4 H' O' ex;have n1:=el1.1;have n2:=el2.1;refine⟨fun i hi=>⟨xs,ys,s1,s2,?_⟩,fun i d hd=>?_⟩
  ·replace hi:(List.zipWith pr as bs).length<=i:=hi
   rw[List.length_zipWith]at hi;lia
  ·obtain⟨a,b,ha,hb,rfl⟩:=Of hd;obtain⟨x,hx,dx⟩:=el1.at ha;obtain⟨y,hy,dy⟩:=el2.at hb;refine⟨⟨xs,ys,x,y,s1,s2,hx,hy⟩,?_⟩;rintro v H'' ⟨p,x',y',rfl,hn,rfl,f1,f2⟩;have ex':=f1 xs s1;have ey':=f2 ys s2;rw[hx]at ex';rw[hy]at ey';cases ex';cases ey';have sm:=bw hn (.tup [x,y]);exact⟨sm,.tup ⟨bX,fun z=>(liv p z).1 hn⟩ rfl ((El.cons dx (El.one dy)).same sm).2⟩
 ·cases e3
def F5{x1}(h:X.K=K)(hg:Gl X "zip")(hs:starEach [a,b] X.env=[(false,eval a X.env),(false,eval b X.env)])(hs2:starEach [b] X.env=[(false,eval b X.env)])(hm:X.mg "zip"=none)(ha:PE X a te)(hb:PE X b te2) :
  PI X (.Tuple es x1 ps) (.Call (.Name "zip" p) [a,b] [] pos) (MA K (iH te (iH te2 uc))):=by
 subst h;exact II hg hm (oK ha (oK hb ac hs2) (by rw[hs,hs2])) hs hs2
end
end VF22
namespace TS
open PySem PyProof.Rows
def fQ{M:Model}{A:Around}{E:Value->Shared->Prop}{σ γ:Type}{X Y:StateT σ Sem γ}{p:Prop}{d:Decidable p}{Q:γ->σ->Prop}{st:σ}(h:p)(k:wpS M A E s X Q st):wpS M A E s (@ite _ p d X Y) Q st:=by rw[Ag h];exact k
def eV{M:Model}{A:Around}{E:Value->Shared->Prop}{σ γ:Type}{X Y:StateT σ Sem γ}{p:Prop}{d:Decidable p}{Q:γ->σ->Prop}{st:σ}(h:¬ p)(k:wpS M A E s Y Q st):wpS M A E s (@ite _ p d X Y) Q st:=by rw[Ak h];exact k
def F6{α β:Type}(f:α->β)(x:Array α)(i j:Nat):(x.map f).swapIfInBounds i j=(x.swapIfInBounds i j).map f:=by grind
theorem nj{α β γ:Type}(f:α->β)(p q:γ->Nat):∀(l:List γ)(x:Array α),l.foldl (fun a k=>a.swapIfInBounds (p k) (q k)) (x.map f)=(l.foldl (fun a k=>a.swapIfInBounds (p k) (q k)) x).map f
 | [],x=>rfl
 | k::l,x=>by
  rw[C7,C7,F6];exact nj f p q l _
def wx(f:α->β)(x:Array α)(i d:Nat):bubble (x.map f) i d=(bubble x i d).map f:=nj f _ _ _ x
def jc(f:α->β)(x:Array α)(i j d:Nat):mirror (x.map f) i j d=(mirror x i j d).map f:=nj f _ _ _ x
structure Cm(prog:Program)(w:World)(A:Around)(s:Shared)(k:SortKind)(f:Nat->Keyed)(N:Nat)(c:Nat->Nat->Bool):Prop where
 lt:∀(E:Value->Shared->Prop)(Q:Bool->Shared->Prop)(g h:Nat),g<N->h<N->Q (c g h) s->wpAny (model prog w) A (keyLt' k (f g).1 (f h).1) Q E s
 irr:∀g,c g g=false
 tra:∀g h i,c g h=true->c h i=true->c g i=true
 neg:∀g h i,c g i=true->c g h=true∨c h i=true
def Bf(c:Nat->Nat->Bool)(g h:Nat):Prop:=c g h=true∨(c h g=false/\g<h)
structure Rp(k:SortKind)(f:Nat->Keyed)(N:Nat)(st:SortSt)(γ:Array Nat):Prop where
 arr:arrOf st=γ.map f
 kind:kindOf st=k
 fine:failedOf st=none
 perm:γ.Perm (Array.range N)
section
variable {prog:Program}{w:World}{A:Around}{E:Value->Shared->Prop}{s:Shared}{k:SortKind}{f:Nat->Keyed}{N:Nat}{c:Nat->Nat->Bool}{st:SortSt}{γ:Array Nat}
theorem Cm.asy(C:Cm prog w A s k f N c)(e:c g h=true):c h g=false:=by
 cases e':c h g with
 | false=>rfl
 | true=>exact absurd (C.tra g h g e e') (by rw[C.irr];exact Bool.noConfusion)
def Cm.le(C:Cm prog w A s k f N c)(e:Bf c g h):c h g=false:=by
 rcases e with e|e
 ·exact C.asy e
 ·exact e.1
theorem Cm.letr(C:Cm prog w A s k f N c)(e:c h g=false)(e':c i h=false):c i g=false:=by
 cases e2:c i g with
 | false=>rfl
 | true =>
  rcases C.neg i h g e2 with q|q
  ·rw[q]at e';exact e'
  ·rw[q]at e;exact e
theorem Cm.trans(C:Cm prog w A s k f N c)(e:Bf c g h)(e':Bf c h i):Bf c g i:=by
 have l:=C.letr (C.le e) (C.le e');cases e2:c g i with
 | true=>exact .inl e2
 | false =>
  refine .inr ⟨l,?_⟩;rcases e with e|e
  ·rcases C.neg g i h e with q|q
   ·rw[q]at e2;cases e2
   ·rw[C.le e']at q;cases q
  ·rcases e' with e'|e'
   ·rcases C.neg h g i e' with q|q
    ·rw[e.1]at q;cases q
    ·rw[q]at e2;cases e2
   ·exact BT e.2 e'.2
theorem Rp.size(R:Rp k f N st γ):γ.size=N:=by rw[R.perm.size_eq,Bp]
def Rp.bnd(R:Rp k f N st γ){i g:Nat}(e:γ[i]?=some g):g<N:=by
 have hm:g∈γ:=Array.mem_of_getElem? e;exact Array.mem_range.mp (R.perm.mem_iff.mp hm)
def Rp.at(R:Rp k f N st γ){i g:Nat}(e:γ[i]?=some g):(arrOf st)[i]?=some (f g):=by rw[R.arr,BI,e];rfl
def Rp.put(R:Rp k f N st γ){γ':Array Nat}(p:γ'.Perm γ)(e:x=γ'.map f):Rp k f N (setArr st x) γ':=⟨e,R.kind,R.fine,p.trans R.perm⟩
def uM(C:Cm prog w A s k f N c)(hk:kindOf st=k)(bg:g<N)(bh:h<N)(q:Q (some (c g h)) st):wpS (model prog w) A E s (lt' (f g) (f h)) Q st:=by
 rw[lt'_eq];refine Al (Bw ?_);subst hk;exact Al (B8 (BM (C.lt _ _ g h bg bh ⟨rfl,Ah q⟩)))
def kD(C:Cm prog w A s k f N c)(R:Rp k f N st γ){i j g h:Nat}(ei:γ[i]?=some g)(ej:γ[j]?=some h){Q:Option Bool->SortSt->Prop}(q:Q (some (c g h)) st):wpS (model prog w) A E s (ltAt' i j) Q st:=by
 rw[ltAt'_eq];refine Al (Bw ?_);dsimp only;rw[elem'_eq,elem'_eq,R.at ei,R.at ej];exact Al (Ah (Al (Ah (uM C R.kind (R.bnd ei) (R.bnd ej) q))))
end
end TS
namespace TS
open PySem PyProof.Rows
def Sg(c:Nat->Nat->Bool)(γ:Array Nat)(lo hi:Nat):Prop:=∀i j g h,lo<=i->i<j->j<hi->γ[i]?=some g->γ[j]?=some h->Bf c g h
def Ow(γ:Array Nat)(lo hi:Nat):Prop:=∀i g,lo<=i->i<hi->γ[i]?=some g->lo<=g/\g<hi
def Raw(γ:Array Nat)(lo hi:Nat):Prop:=∀i,lo<=i->i<hi->γ[i]?=some i
def Out(γ γ':Array Nat)(lo hi:Nat):Prop:=∀i,i<lo∨hi<=i->γ'[i]?=γ[i]?
def Out.refl(γ:Array Nat)(lo hi:Nat):Out γ γ lo hi:=fun _ _=>rfl
section
variable {prog:Program}{w:World}{A:Around}{E:Value->Shared->Prop}{s:Shared}{k:SortKind}{f:Nat->Keyed}{N:Nat}{c:Nat->Nat->Bool}{st:SortSt}{γ:Array Nat}
def jR{γ:Array Nat}(h:i<γ.size):∃g,γ[i]?=some g:=⟨_,A6 h⟩
def mid(h:l<u):l<=(l+u) / 2/\(l+u) / 2<u:=by lia
def Og(h:u-l<=m-y)(h1:t<u)(h2:l<=t):t-l<=m-(y+1):=by lia
def Oh(h:u-l<=m-y)(h1:l<=t)(h2:t<u):u-(t+1)<=m-(y+1):=by lia
inductive Bub(γ:Array Nat)(a b i g:Nat):Prop
 | at_ (h:i=a) (e:γ[b]?=some g)
 | mid (j:Nat) (h:i=j+1) (k:a<=j) (l:j<b) (e:γ[j]?=some g)
 | lo (h:i<a) (e:γ[i]?=some g)
 | hi (h:b<i)
def pG(e:(if i=a then γ[b]? else if a<i/\i<=b then γ[i-1]? else γ[i]?)=some g):Bub γ a b i g:=by
 by_cases h:i=a
 ·rw[Ag h]at e;exact .at_ h e
 ·rw[Ak h]at e;by_cases h2:a<i/\i<=b
  ·rw[Ag h2]at e;obtain⟨j,rfl⟩:=Ye (Vj (AI (Xl _) h2.1));exact .mid j rfl (Nat.le_of_lt_succ h2.1) h2.2 e
  ·rw[Ak h2]at e;by_cases h3:i<a
   ·exact .lo h3 e
   ·exact .hi (AX fun z=>h2 ⟨BE (BQ h3) (AN h),z⟩)
def F7(hab:a<=b)(h:b<i):(if i=a then γ[b]? else if a<i/\i<=b then γ[i-1]? else γ[i]?)=γ[i]?:=by
 rw[Ak (Vj (AI hab h)),Ak fun z=>CZ h z.2]
def MC(h:i<a):(if i=a then γ[b]? else if a<i/\i<=b then γ[i-1]? else γ[i]?)=γ[i]?:=by
 rw[Ak (Qh h),Ak fun z=>Nat.lt_asymm h z.1]
def IJ(C:Cm prog w A s k f N c)(R:Rp k f N st γ){lo n ok:Nat}(hn:lo+n<=N)(h1:1<=ok)(hok:ok<=n)(sg:Sg c γ lo (lo+ok))(ow:Ow γ lo (lo+ok))(raw:Raw γ (lo+ok) N)
  {Q:Bool->SortSt->Prop}(q:∀(x:Array Keyed)(γ':Array Nat),Rp k f N (setArr st x) γ'->Sg c γ' lo (lo+n)->Ow γ' lo (lo+n)->Raw γ' (lo+n) N->Out γ γ' lo (lo+n)->Q true (setArr st x)) :
  wpS (model prog w) A E s (binarySort' lo n ok) Q st:=by
 rw[binarySort'_eq]
 refine Al (Aw (Ax (I:=fun m r st'=>r=(none,())/\∃x γ',st'=setArr st x/\Rp k f N st' γ'/\Sg c γ' lo (lo+m)/\Ow γ' lo (lo+m)/\Raw γ' (lo+m) N/\Out γ γ' lo (lo+m))
  (Q:=fun r st'=>r=(none,())/\∃x γ',st'=setArr st x/\Rp k f N st' γ'/\Sg c γ' lo (lo+n)/\Ow γ' lo (lo+n)/\Raw γ' (lo+n) N/\Out γ γ' lo (lo+n)) ?step ?fin ?init) ?post)
 case post =>
  rintro r st' ⟨rfl,x,γ',rfl,R',a1,a2,a3,a4⟩;exact Ah (q x γ' R' a1 a2 a3 a4)
 case init =>
  rw[show max ok 1=ok by lia]
  exact⟨rfl,arrOf st,γ,rfl,R,sg,ow,raw,Out.refl _ _ _⟩
 case fin =>
  rintro r st' h;rw[show max (max ok 1) n=n by lia]at h
  exact h
 case step =>
  rintro m r st' hm hmn ⟨rfl,x,γ',rfl,R',a1,a2,a3,a4⟩;have em:γ'[lo+m]?=some (lo+m):=a3 (lo+m) (Va _) (by lia)
  refine Al (Aw (Ax (I:=fun y r st''=>st''=setArr st x/\∃l u,r=(none,l,u)/\l<=u/\u<=m/\u-l<=m-y /\
    (∀i g,lo<=i->i<lo+l->γ'[i]?=some g->c (lo+m) g=false)/\(∀i g,lo+u<=i->i<lo+m->γ'[i]?=some g->c (lo+m) g=true))
   (Q:=fun r st''=>st''=setArr st x/\∃l u,r=(none,l,u)/\l<=m /\
    (∀i g,lo<=i->i<lo+l->γ'[i]?=some g->c (lo+m) g=false)/\(∀i g,lo+l<=i->i<lo+m->γ'[i]?=some g->c (lo+m) g=true)) ?istep ?ifin ?iinit) ?ipost)
  case iinit=>exact⟨rfl,0,m,rfl,by lia,by lia,by lia,fun i g p1 p2=>by lia,fun i g p1 p2=>by lia⟩
  case ifin =>
   rintro r st'' ⟨rfl,l,u,rfl,b1,b2,b3,b4,b5⟩;obtain rfl:l=u:=by lia
   exact⟨rfl,l,l,rfl,b2,b4,b5⟩
  case istep =>
   rintro y r st'' _ hy ⟨rfl,l,u,rfl,b1,b2,b3,b4,b5⟩;dsimp only;by_cases hge:l ≥ u
   ·refine fQ hge ?_;obtain rfl:l=u:=by lia
    exact Ah ⟨rfl,l,l,rfl,b2,b4,b5⟩
   ·refine eV hge ?_;have hq:l<=(l+u) / 2/\(l+u) / 2<u:=mid (AX hge);generalize (l+u) / 2=t at hq;obtain⟨q1,q2⟩:=hq;have q3:t-l<=m-(y+1):=Og b3 q2 q1;have q4:u-(t+1)<=m-(y+1):=Oh b3 q1 q2;obtain⟨g,eg⟩:=jR (γ:=γ') (i:=lo+t) (by rw[R'.size];lia)
    refine Al (kD C R' em eg ?_);cases hc:c (lo+m) g with
    | true =>
     refine Ah ⟨rfl,l,t,rfl,q1,by lia,q3,b4,fun i g' p1 p2 e=>?_⟩
     by_cases hi:i=lo+t
     ·subst hi;rw[eg]at e;cases e;exact hc
     ·have bf:=a1 _ i g g' (by lia) (by lia) p2 eg e
      rcases C.neg _ g' _ hc with z|z
      ·exact z
      ·rw[C.le bf]at z;cases z
    | false =>
     refine Ah ⟨rfl,t+1,u,rfl,q2,b2,q4,fun i g' p1 p2 e=>?_,b5⟩;by_cases hi:i=lo+t
     ·subst hi;rw[eg]at e;cases e;exact hc
     ·have bf:=a1 i _ g' g p1 (by lia) (by lia) e eg
      exact C.letr (C.le bf) hc
  case ipost =>
   rintro r st'' ⟨rfl,l,u,rfl,b2,b4,b5⟩;show wpS _ _ _ _ (do moveDown' (lo+m) (lo+l);pure (ForInStep.yield (none,()))) _ _
   rw[moveDown'_eq];have hs:lo+m<γ'.size:=by rw[R'.size];lia
   have gb:=getElem?_bubble hs (lo+m-(lo+l)) (Nat.sub_le _ _);rw[Nat.sub_sub_self (Zj b2 lo)]at gb;refine Al (Bl (Ah ⟨rfl,bubble x (lo+m) (lo+m-(lo+l)),bubble γ' (lo+m) (lo+m-(lo+l)),rfl,R'.put (bubble_perm _ _ _) ?_,?_,?_,?_,?_⟩))
   ·rw[R'.arr,wx]
   ·intro i j g h p1 p2 p3 e1 e2;rw[gb]at e1 e2;cases pG e1 with
    | at_ y e1 =>
     rw[em]at e1;cases e1;cases pG e2 with
     | at_ z e2=>lia
     | mid j' z z1 z2 e2=>exact .inl (b5 _ h z1 z2 e2)
     | lo z e2=>lia
     | hi z=>lia
    | mid i' y y1 y2 e1 =>
     cases pG e2 with
     | at_ z e2=>lia
     | mid j' z z1 z2 e2=>exact a1 _ _ g h (Yd (Vl _ _) y1) (by lia) z2 e1 e2
     | lo z e2=>lia
     | hi z=>lia
    | lo y e1 =>
     have ym:i<lo+m:=Vc y (Zj b2 lo);cases pG e2 with
     | at_ z e2 =>
      rw[em]at e2;cases e2;exact .inr ⟨b4 i g p1 y e1,(a2 i g p1 ym e1).2⟩
     | mid j' z z1 z2 e2=>exact a1 i _ g h p1 (Vc y z1) z2 e1 e2
     | lo z e2=>exact a1 i j g h p1 p2 (Vc z (Zj b2 lo)) e1 e2
     | hi z=>lia
    | hi y=>lia
   ·intro i g p1 p2 e;rw[gb]at e;cases pG e with
    | at_ z e=>rw[em]at e;cases e;exact⟨Vl _ _,AW _⟩
    | mid j z z1 z2 e=>exact⟨(a2 _ g (Yd (Vl _ _) z1) z2 e).1,BK (a2 _ g (Yd (Vl _ _) z1) z2 e).2⟩
    | lo z e =>
     have ym:i<lo+m:=Vc z (Zj b2 lo);exact⟨(a2 i g p1 ym e).1,BK (a2 i g p1 ym e).2⟩
    | hi z=>lia
   ·intro i p1 p2;rw[gb,F7 (Zj b2 lo) p1];exact a3 i (Qk p1) p2
   ·intro i p;rw[gb];rcases p with p|p
    ·rw[MC (Vc p (Vl _ _))];exact a4 i (.inl p)
    ·rw[F7 (Zj b2 lo) p];exact a4 i (.inr (Qk p))
end
end TS
namespace TS
open PySem PyProof.Rows
section
variable {prog:Program}{w:World}{A:Around}{E:Value->Shared->Prop}{s:Shared}{k:SortKind}{f:Nat->Keyed}{N:Nat}{c:Nat->Nat->Bool}{st:SortSt}{γ:Array Nat}
def Sg.more(C:Cm prog w A s k f N c){lo n g h:Nat}(sg:Sg c γ lo n)(h1:lo<n)(e:γ[n-1]?=some g)(e':γ[n]?=some h)(b:Bf c g h):Sg c γ lo (n+1):=by
 intro i j g' h' p1 p2 p3 e1 e2;by_cases hj:j<n
 ·exact sg i j g' h' p1 p2 hj e1 e2
 ·obtain rfl:j=n:=by lia
  rw[e']at e2;cases e2;by_cases hi:i=j-1
  ·subst hi;rw[e]at e1;cases e1;exact b
  ·exact C.trans (sg i (j-1) g' g p1 (by lia) (by lia) e1 e) b
def uN(C:Cm prog w A s k f N c){lo x h:Nat}(sg:Sg c γ lo (lo+x))(ow:Ow γ lo (lo+x))(raw:Raw γ (lo+x) N)(h1:1<=x)(hx:lo+x<N)(e:γ[lo+x-1]?=some h)(hc:c (lo+x) h=false) :
  Sg c γ lo (lo+(x+1))/\Ow γ lo (lo+(x+1))/\Raw γ (lo+(x+1)) N:=by
 have en:=raw (lo+x) (Va _) hx;refine⟨sg.more C (by lia) e en (.inr ⟨hc,(ow _ h (by lia) (by lia) e).2⟩),fun i g p1 p2 e1=>?_,fun i p1 p2=>raw i (by lia) p2⟩
 by_cases hi:i<lo+x
 ·have:=ow i g p1 hi e1;lia
 ·obtain rfl:i=lo+x:=by lia
  rw[en]at e1;cases e1;lia
structure Fl(c:Nat->Nat->Bool)(γ:Array Nat)(lo m n:Nat):Prop where
 le:lo<=m
 lt:m<n
 fall:∀i j g h,lo<=i->i<j->j<m->γ[i]?=some g->γ[j]?=some h->Bf c h g
 cross:∀i j g h,lo<=i->i<m->m<=j->j<n->γ[i]?=some g->γ[j]?=some h->c h g=true
 same:∀i j g h,m<=i->i<n->m<=j->j<n->γ[i]?=some g->γ[j]?=some h->c g h=false
 raw:Raw γ m n
 own:Ow γ lo n
def Fa(c:Nat->Nat->Bool)(γ:Array Nat)(lo n:Nat):Prop:=∀i j g h,lo<=i->i<j->j<n->γ[i]?=some g->γ[j]?=some h->Bf c h g
def ly(hn:n<=γ.size)(h1:a<=i)(h2:i<n):∃i',a<=i'/\i'<n/\i+i'+1=a+n/\(mirror γ a n ((n-a) / 2))[i]?=γ[i']? :=
 ⟨a+n-1-i,by lia,by lia,by lia,by rw[getElem?_mirror_all hn,Ag ⟨h1,h2⟩]⟩
def jd(hn:n<=γ.size)(h:i<a∨n<=i):(mirror γ a n ((n-a) / 2))[i]?=γ[i]?:=by
 rw[getElem?_mirror_all hn,Ak fun z=>h.elim (fun q=>CZ q z.1) fun q=>CZ z.2 q]
def zU{lo n:Nat}(fa:Fa c γ lo n)(hn:n<=γ.size):Sg c (mirror γ lo n ((n-lo) / 2)) lo n:=by
 intro i j g h p1 p2 p3 e1 e2;obtain⟨i',a1,a2,a3,a4⟩:=ly (γ:=γ) hn p1 (BT p2 p3);obtain⟨j',b1,b2,b3,b4⟩:=ly (γ:=γ) hn (Yd p1 (Qk p2)) p3;exact fa j' i' h g b1 (by lia) a2 (b4 ▸ e2) (a4 ▸ e1)
def kE{lo a n:Nat}(ow:Ow γ lo n)(ha:lo<=a)(hn:n<=γ.size):Ow (mirror γ a n ((n-a) / 2)) lo n:=by
 intro i g p1 p2 e;by_cases hi:a<=i
 ·obtain⟨i',a1,a2,a3,a4⟩:=ly (γ:=γ) hn hi p2;exact ow i' g (Yd ha a1) a2 (a4 ▸ e)
 ·rw[jd hn (.inl (AX hi))]at e;exact ow i g p1 p2 e
def gF(raw:Raw γ n m)(hn:n<=γ.size):Raw (mirror γ a n ((n-a) / 2)) n m:=by
 intro i p1 p2;rw[jd hn (.inr p1)];exact raw i p1 p2
def je{lo a n:Nat}{γ':Array Nat}(o:Out γ γ' lo n)(ha:lo<=a)(hn:n<=γ'.size):Out γ (mirror γ' a n ((n-a) / 2)) lo n:=by
 intro i p;rw[jd hn (p.imp (fun q=>Vc q ha) id)];exact o i p
def Out.wide{lo n n':Nat}{γ':Array Nat}(o:Out γ γ' lo n)(h:n<=n'):Out γ γ' lo n':=fun i p=>o i (by lia)
def Fl.turn{lo m n:Nat}(F:Fl c γ lo m n)(hn:n<=γ.size):Fa c (mirror γ m n ((n-m) / 2)) lo n:=by
 intro i j g h p1 p2 p3 e1 e2;by_cases hj:j<m
 ·rw[jd hn (.inl (BT p2 hj))]at e1;rw[jd hn (.inl hj)]at e2;exact F.fall i j g h p1 p2 hj e1 e2
 obtain⟨j',b1,b2,b3,b4⟩:=ly (γ:=γ) hn (BQ hj) p3;rw[b4]at e2;by_cases hi:i<m
 ·rw[jd hn (.inl hi)]at e1;exact .inl (F.cross i j' g h p1 hi b1 b2 e1 e2)
 ·obtain⟨i',a1,a2,a3,a4⟩:=ly (γ:=γ) hn (BQ hi) (BT p2 p3);rw[a4]at e1;refine .inr ⟨F.same i' j' g h a1 a2 b1 b2 e1 e2,?_⟩;rw[F.raw i' a1 a2]at e1;rw[F.raw j' b1 b2]at e2;cases e1;cases e2;lia
def Fl.fa1{lo m:Nat}(F:Fl c γ lo m (m+1)):Fa c γ lo (m+1):=by
 intro i j g h p1 p2 p3 e1 e2;by_cases hj:j<m
 ·exact F.fall i j g h p1 p2 hj e1 e2
 ·exact .inl (F.cross i j g h p1 (by lia) (by lia) p3 e1 e2)
def Fa.next(C:Cm prog w A s k f N c){lo n g:Nat}(fa:Fa c γ lo n)(ow:Ow γ lo n)(raw:Raw γ n N)(hl:lo<n)(hn:n<N)(z:∀i g,lo<=i->i<n->γ[i]?=some g->c n g=true):Fl c γ lo n (n+1):=by
 have en:=raw n (Va _) hn;refine⟨by lia,by lia,fa,fun i j g h p1 p2 p3 p4 e1 e2=>?_,fun i j g h p1 p2 p3 p4 e1 e2=>?_,fun i p1 p2=>raw i p1 (by lia),fun i g p1 p2 e=>?_⟩
 ·obtain rfl:j=n:=by lia
  rw[en]at e2;cases e2;exact z i g p1 p2 e1
 ·obtain rfl:i=n:=by lia
  obtain rfl:j=i:=by lia
  rw[en]at e1 e2;cases e1;cases e2;exact C.irr _
 ·by_cases hi:i<n
  ·have:=ow i g p1 hi e;lia
  ·obtain rfl:i=n:=by lia
   rw[en]at e;cases e;lia
def Fl.more(C:Cm prog w A s k f N c){lo m n:Nat}(F:Fl c γ lo m n)(raw:Raw γ n N)(hn:n<N)(z1:c n (n-1)=false)(z2:c (n-1) n=false):Fl c γ lo m (n+1):=by
 have en:=raw n (Va _) hn;have ep:=F.raw (n-1) (by have:=F.lt;lia) (by have:=F.lt;lia)
 have hlt:=F.lt;have hle:=F.le;refine⟨hle,by lia,F.fall,fun i j g h p1 p2 p3 p4 e1 e2=>?_,fun i j g h p1 p2 p3 p4 e1 e2=>?_,fun i p1 p2=>?_,fun i g p1 p2 e=>?_⟩
 ·by_cases hj:j<n
  ·exact F.cross i j g h p1 p2 p3 hj e1 e2
  ·obtain rfl:j=n:=by lia
   rw[en]at e2;cases e2;rcases C.neg _ j _ (F.cross i (j-1) g (j-1) p1 p2 (by lia) (by lia) e1 ep) with q|q
   ·rw[z2]at q;cases q
   ·exact q
 ·have key:∀a g,m<=a->a<n+1->γ[a]?=some g->c g (n-1)=false/\c (n-1) g=false:=by
   intro a g q1 q2 e;by_cases ha:a<n
   ·exact⟨F.same a (n-1) g (n-1) q1 ha (by lia) (by lia) e ep,F.same (n-1) a (n-1) g (by lia) (by lia) q1 ha ep e⟩
   ·obtain rfl:a=n:=by lia
    rw[en]at e;cases e;exact⟨z1,z2⟩
  exact C.letr (key j h p3 p4 e2).2 (key i g p1 p2 e1).1
 ·by_cases hi:i<n
  ·exact F.raw i p1 hi
  ·exact raw i (by lia) (by lia)
 ·by_cases hi:i<n
  ·have:=F.own i g p1 hi e;lia
  ·obtain rfl:i=n:=by lia
   rw[en]at e;cases e;lia
def Fl.below(C:Cm prog w A s k f N c){lo m n x:Nat}(F:Fl c γ lo m n)(z:c x (n-1)=true):∀i g,lo<=i->i<n->γ[i]?=some g->c x g=true:=by
 have hlt:=F.lt;have ep:=F.raw (n-1) (by lia) (by lia)
 intro i g p1 p2 e;rcases C.neg x g _ z with q|q
 ·exact q
 ·by_cases hi:i<m
  ·exact absurd (F.cross i (n-1) g (n-1) p1 hi (by lia) (by lia) e ep) (by rw[C.asy q];exact Bool.noConfusion)
  ·rw[F.same i (n - 1) g (n - 1) (by lia) p2 (by lia) (by lia) e ep]at q;cases q
def Rn(k:SortKind)(f:Nat->Keyed)(N:Nat)(c:Nat->Nat->Bool)(lo:Nat)(st:SortSt)(γ:Array Nat)(n:Nat)(st':SortSt):Prop :=
 ∃x γ',st'=setArr st x/\Rp k f N st' γ'/\Sg c γ' lo (lo+n)/\Ow γ' lo (lo+n)/\Raw γ' (lo+n) N/\Out γ γ' lo (lo+n)
def uO(lo n nrem:Nat):StateT SortSt Sem (Option Nat):=do
 reverseSlice' lo (lo+n)
 let r ← forIn [n:nrem] ((none,n):Option (Option Nat)×Nat) fun _ r=>do
  match ← ltAt' (lo+r.2) (lo+r.2-1) with
  | some smaller=>if smaller=true then pure (ForInStep.done (none,r.2)) else pure (ForInStep.yield (none,r.2+1))
  | _=>pure (ForInStep.done (some none,r.2))
 match r.1 with
 | some z=>pure z
 | none=>pure (some r.2)
def pH(lo x nrem:Nat):StateT SortSt Sem (Option Nat):=do
 liftM (rule "list.sort.descending-run")
 let r ← forIn [x+1:nrem] ((none,x+1,0):Option (Option Nat)×Nat×Nat) fun _ r=>do
  match ← ltAt' (lo+r.2.1) (lo+r.2.1-1) with
  | some smaller =>
   if smaller=true then
    if r.2.2 > 0 then do
     reverseSlice' (lo+r.2.1-(r.2.2+1)) (lo+r.2.1)
     pure (ForInStep.yield (none,r.2.1+1,0))
    else pure (ForInStep.yield (none,r.2.1+1,0))
   else do
    match ← ltAt' (lo+r.2.1-1) (lo+r.2.1) with
    | some larger=>if larger=true then pure (ForInStep.done (none,r.2.1,r.2.2)) else pure (ForInStep.yield (none,r.2.1+1,r.2.2+1))
    | _=>pure (ForInStep.done (some none,r.2.1,r.2.2))
  | _=>pure (ForInStep.done (some none,r.2.1,r.2.2))
 match r.1 with
 | some z=>pure z
 | none =>
  if r.2.2 > 0 then do
   reverseSlice' (lo+r.2.1-(r.2.2+1)) (lo+r.2.1)
   uO lo r.2.1 nrem
  else uO lo r.2.1 nrem
def sN(h:Q () (setArr st (mirror (arrOf st) i j ((j-i) / 2)))):wpS (model prog w) A E s (reverseSlice' i j) Q st:=by
 rw[reverseSlice'_eq];exact Bl h
def yf(C:Cm prog w A s k f N c){st₀:SortSt}{γ₀:Array Nat}{lo n:Nat}{y:Array Keyed}(R:Rp k f N (setArr st₀ y) γ)(h1:1<=n)(hn:lo+n<=N)(fa:Fa c γ lo (lo+n))(ow:Ow γ lo (lo+n))(raw:Raw γ (lo+n) N)(out:Out γ₀ γ lo (lo+n))
  {Q:Option Nat->SortSt->Prop}(q:∀n st',1<=n->lo+n<=N->Rn k f N c lo st₀ γ₀ n st'->Q (some n) st'):wpS (model prog w) A E s (uO lo n (N-lo)) Q (setArr st₀ y):=by
 have hs:lo+n<=γ.size:=by rw[R.size];exact hn
 refine Al (sN ?_);have R1:Rp k f N (setArr st₀ (mirror y lo (lo+n) ((lo+n-lo) / 2))) (mirror γ lo (lo+n) ((lo+n-lo) / 2)):=R.put (mirror_perm _ _ _ _) (by rw[show y=γ.map f from R.arr,jc])
 have sg:=zU fa hs;have ow':=kE ow (Va lo) hs;have raw':=gF (a:=lo) raw hs;have out':=je out (Va lo) hs;generalize mirror γ lo (lo+n) ((lo+n-lo) / 2)=δ at R1 sg ow' raw' out';generalize mirror y lo (lo+n) ((lo+n-lo) / 2)=y' at R1
 refine Al (Aw (Ax (I:=fun x r st'=>st'=setArr st₀ y'/\r=(none,x)/\n<=x/\lo+x<=N/\Sg c δ lo (lo+x)/\Ow δ lo (lo+x)/\Raw δ (lo+x) N)
  (Q:=fun r st'=>st'=setArr st₀ y'/\∃x,r=(none,x)/\n<=x/\lo+x<=N/\Sg c δ lo (lo+x)/\Ow δ lo (lo+x)/\Raw δ (lo+x) N) ?step ?fin ?init) ?post)
 case init=>exact⟨rfl,rfl,Va _,hn,sg,ow',raw'⟩
 case fin =>
  rintro r st' ⟨rfl,rfl,b1,b2,b3,b4,b5⟩;exact⟨rfl,_,rfl,b1,b2,b3,b4,b5⟩
 case step =>
  rintro x r st' p1 p2 ⟨rfl,rfl,b1,b2,b3,b4,b5⟩;dsimp only;have en:=b5 (lo+x) (by lia) (by lia)
  obtain⟨g,ep⟩:=jR (γ:=δ) (i:=lo+x-1) (by rw[R1.size];lia)
  refine Al (kD C R1 en ep ?_);cases hc:c (lo+x) g with
  | true=>exact Ah ⟨rfl,x,rfl,b1,b2,b3,b4,b5⟩
  | false =>
   obtain⟨a1,a2,a3⟩:=uN C b3 b4 b5 (by lia) (by lia) ep hc
   exact Ah ⟨rfl,rfl,by lia,by lia,a1,a2,a3⟩
 case post =>
  rintro r st' ⟨rfl,x,rfl,b1,b2,b3,b4,b5⟩;exact Ah (q x _ (by lia) b2 ⟨y',δ,rfl,R1,b3,b4,b5,out'.wide (by lia)⟩)
def yg(C:Cm prog w A s k f N c){st₀:SortSt}{γ₀:Array Nat}{lo x:Nat}{y:Array Keyed}(R:Rp k f N (setArr st₀ y) γ)(hx:lo+x<N)(F:Fl c γ lo (lo+x) (lo+x+1))(raw:Raw γ (lo+x+1) N)(out:Out γ₀ γ lo (lo+x+1))
  {Q:Option Nat->SortSt->Prop}(q:∀n st',1<=n->lo+n<=N->Rn k f N c lo st₀ γ₀ n st'->Q (some n) st'):wpS (model prog w) A E s (pH lo x (N-lo)) Q (setArr st₀ y):=by
 refine Al (B8 (AH ⟨rfl,?_⟩))
 refine Al (Aw (Ax (I:=fun n r st'=>∃e y' δ,r=(none,n,e)/\st'=setArr st₀ y'/\Rp k f N (setArr st₀ y') δ/\e+1<=n/\lo+n<=N/\Fl c δ lo (lo+n-(e+1)) (lo+n)/\Raw δ (lo+n) N/\Out γ₀ δ lo (lo+n))
  (Q:=fun r st'=>∃n e y' δ,r=(none,n,e)/\st'=setArr st₀ y'/\Rp k f N (setArr st₀ y') δ/\e+1<=n/\lo+n<=N/\Fl c δ lo (lo+n-(e+1)) (lo+n)/\Raw δ (lo+n) N/\Out γ₀ δ lo (lo+n)) ?step ?fin ?init) ?post)
 case init=>exact⟨0,y,γ,rfl,rfl,R,by lia,by lia,F,raw,out⟩
 case fin =>
  rintro r st' ⟨e,y',δ,h⟩;exact⟨_,e,y',δ,h⟩
 case step =>
  rintro n r st' p1 p2 ⟨e,y',δ,rfl,rfl,R1,b1,b2,F1,raw1,out1⟩;dsimp only;have en:=raw1 (lo+n) (Va _) (by lia)
  have s1:1<=lo+n:=by lia
  have ep:=F1.raw (lo+n-1) (Nat.sub_le_sub_left (CY (Xl e)) _) (Nat.sub_lt s1 Nat.one_pos);have hs:lo+n<=δ.size:=by rw[R1.size];exact b2
  refine Al (kD C R1 en ep ?_);cases hc:c (lo+n) (lo+n-1) with
  | true =>
   dsimp only;refine fQ rfl ?_;have bl:=F1.below C hc;by_cases he:e > 0
   ·refine fQ he ?_;refine Al (sN (Ah ?_));have fa:=F1.turn hs;have ow':=kE F1.own F1.le hs;have raw':=gF (a:=lo+n-(e+1)) raw1 hs;have out':=je out1 F1.le hs;refine⟨0,_,mirror δ (lo+n-(e+1)) (lo+n) ((lo+n-(lo+n-(e+1))) / 2),rfl,rfl,R1.put (mirror_perm _ _ _ _) (by rw[show arrOf (setArr st₀ y')=δ.map f from R1.arr,jc]),by lia,by lia,?_,fun i q1 q2=>raw' i (by lia) q2,out'.wide (by lia)⟩
    refine fa.next C (g:=0) ow' raw' (by lia) (by lia) fun i g q1 q2 e1=>?_
    by_cases hi:lo+n-(e+1)<=i
    ·obtain⟨i',a1,a2,_,a4⟩:=ly (γ:=δ) hs hi q2;exact bl i' g (Yd F1.le a1) a2 (a4 ▸ e1)
    ·rw[jd hs (.inl (AX hi))]at e1;exact bl i g q1 q2 e1
   ·obtain rfl:e=0:=by lia
    refine eV he ?_;have F2:Fl c δ lo (lo+n-1) (lo+n-1+1):=by rw[BC s1];exact F1
    have fa:=F2.fa1;rw[BC s1]at fa;exact Ah ⟨0,y',δ,rfl,rfl,R1,by lia,by lia,fa.next C (g:=0) F1.own raw1 (by lia) (by lia) bl,fun i q1 q2=>raw1 i (by lia) q2,out1.wide (by lia)⟩
  | false =>
   dsimp only;refine eV Bool.noConfusion ?_;refine Al (kD C R1 ep en ?_);cases hc2:c (lo+n-1) (lo+n) with
   | true=>exact Ah ⟨n,e,y',δ,rfl,rfl,R1,b1,b2,F1,raw1,out1⟩
   | false =>
    refine Ah ⟨e+1,y',δ,rfl,rfl,R1,by lia,by lia,?_,fun i q1 q2=>raw1 i (by lia) q2,out1.wide (by lia)⟩
    rw[show lo+(n+1) - (e+1+1)=lo+n - (e+1) from Nat.succ_sub_succ _ _];exact F1.more C raw1 (by lia) hc hc2
 case post =>
  rintro r st' ⟨n,e,y',δ,rfl,rfl,R1,b1,b2,F1,raw1,out1⟩;have hs:lo+n<=δ.size:=by rw[R1.size];exact b2
  have s1:1<=lo+n:=by lia
  dsimp only;by_cases he:e > 0
  ·refine fQ he ?_;refine Al (sN ?_);exact yf C (γ:=mirror δ (lo+n-(e+1)) (lo+n) ((lo+n-(lo+n-(e+1))) / 2)) (R1.put (mirror_perm _ _ _ _) (by rw[show arrOf (setArr st₀ y')=δ.map f from R1.arr,jc])) (by lia) b2 (F1.turn hs) (kE F1.own F1.le hs) (gF (a:=lo+n-(e+1)) raw1 hs) (je out1 F1.le hs) q
  ·obtain rfl:e=0:=by lia
   refine eV he ?_;have F2:Fl c δ lo (lo+n-1) (lo+n-1+1):=by rw[BC s1];exact F1
   have fa:=F2.fa1;rw[BC s1]at fa;exact yf C R1 (by lia) b2 fa F1.own raw1 out1 q
def MD(C:Cm prog w A s k f N c)(R:Rp k f N st γ){lo:Nat}(hl:lo<N)(raw:Raw γ lo N)
  {Q:Option Nat->SortSt->Prop}(q:∀n st',1<=n->lo+n<=N->Rn k f N c lo st γ n st'->Q (some n) st'):wpS (model prog w) A E s (countRun' lo (N-lo)) Q st:=by
 rw[countRun'_eq];have sg1:Sg c γ lo (lo+1):=fun i j g h p1 p2 p3=>by lia
 have ow1:Ow γ lo (lo+1):=fun i g p1 p2 e=>by
  obtain rfl:i=lo:=by lia
  rw[raw i (Va _) hl]at e;cases e;lia
 refine Al (Aw (Ax (I:=fun x r st'=>st'=st/\r=(none,x)/\1<=x/\lo+x<=N/\Sg c γ lo (lo+x)/\Ow γ lo (lo+x)/\∀i g h,lo<=i->i+1<lo+x->γ[i]?=some g->γ[i+1]?=some h->c h g=false)
  (Q:=fun r st'=>st'=st/\∃x,r=(none,x)/\1<=x/\lo+x<=N/\Sg c γ lo (lo+x)/\Ow γ lo (lo+x)/\(lo+x=N∨c (lo+x) (lo+x-1)=true)) ?step ?fin ?init) ?post)
 case init=>exact⟨rfl,rfl,by lia,by lia,sg1,ow1,fun i g h p1 p2=>by lia⟩
 case fin =>
  rintro r st' ⟨rfl,rfl,b1,b2,b3,b4,b5⟩;exact⟨rfl,_,rfl,b1,b2,b3,b4,.inl (by lia)⟩
 case step =>
  rintro x r st' p1 p2 ⟨rfl,rfl,b1,b2,b3,b4,b5⟩;dsimp only;have en:=raw (lo+x) (by lia) (by lia)
  have ep:=raw (lo+x-1) (by lia) (by lia)
  refine Al (kD C R en ep ?_);cases hc:c (lo+x) (lo+x-1) with
  | true=>exact Ah ⟨rfl,x,rfl,b1,b2,b3,b4,.inr hc⟩
  | false =>
   obtain⟨a1,a2,_⟩:=uN C b3 b4 (fun i q1 q2=>raw i (by lia) q2) b1 (by lia) ep hc
   refine Ah ⟨rfl,rfl,by lia,by lia,a1,a2,fun i g h q1 q2 e1 e2=>?_⟩
   rw[raw i q1 (by lia)]at e1
   rw[raw (i+1) (by lia) (by lia)]at e2
   cases e1;cases e2;by_cases hi:i+1<lo+x
   ·exact b5 i i (i+1) q1 hi (raw _ q1 (by lia)) (raw _ (by lia) (by lia))
   ·obtain rfl:i=lo+x-1:=by lia
    rw[show lo+x - 1+1=lo+x by lia];exact hc
 case post =>
  rintro r st' ⟨rfl,x,rfl,b1,b2,b3,b4,b6⟩;dsimp only;by_cases hx:lo+x=N
  ·refine fQ (by simp;lia) ?_
   exact Ah (q x _ b1 b2 ⟨_,γ,rfl,R,b3,b4,fun i q1 q2=>raw i (by lia) q2,Out.refl _ _ _⟩)
  ·refine eV (by simp;lia) ?_
   have hc:c (lo+x) (lo+x-1)=true:=b6.resolve_left hx;have hs:lo+x<=γ.size:=by rw[R.size];exact b2
   have raw':Raw γ (lo+x) N:=fun i q1 q2=>raw i (by lia) q2
   by_cases h1:x > 1
   ·refine fQ h1 ?_;refine Al (kD C R (raw lo (Va _) hl) (raw (lo+x-1) (by lia) (by lia)) ?_)
    cases hr:c lo (lo+x-1) with
    | true=>exact Ah (q x _ b1 b2 ⟨_,γ,rfl,R,b3,b4,raw',Out.refl _ _ _⟩)
    | false =>
     dsimp only;refine eV Bool.noConfusion ?_;have le:∀a b,lo<=a->a<lo+x->lo<=b->b<lo+x->a<=b->c b a=false:=fun a b p1 p2 p3 p4 p5=>by
      by_cases ab:a=b
      ·subst ab;exact C.irr _
      ·exact C.le (b3 a b a b p1 (by lia) p4 (raw a p1 (by lia)) (raw b p3 (by lia)))
     have al:∀a b,lo<=a->a<lo+x->lo<=b->b<lo+x->c a b=false:=fun a b p1 p2 p3 p4=>by
      by_cases ab:b<=a
      ·exact le b a p3 p4 p1 p2 ab
      ·cases hab:c a b with
       | false=>rfl
       | true =>
        rcases C.neg a lo b hab with z|z
        ·rw[le lo a (Va _) (by lia) p1 p2 p1]at z;exact z.symm
        ·rcases C.neg lo (lo+x-1) b z with z|z
         ·rw[hr]at z;exact z.symm
         ·rw[le b (lo+x - 1) p3 p4 (by lia) (by lia) (by lia)]at z;exact z.symm
     have F0:Fl c γ lo lo (lo+x):=⟨Va _,by lia,fun i j g h p1 p2 p3=>by lia,fun i j g h p1 p2=>by lia,fun i j g h p1 p2 p3 p4 e1 e2=>by
      rw[raw i p1 (by lia)]at e1
      rw[raw j p3 (by lia)]at e2
      cases e1;cases e2
      exact al i j p1 p2 p3 p4,fun i p1 p2=>raw i p1 (by lia),b4⟩
     refine Al (sN ?_);refine(show ∀{m:StateT SortSt Sem (Option Nat)}{t:SortSt},m=pH lo x (N-lo)->wpS (model prog w) A E s (pH lo x (N-lo)) Q t->wpS (model prog w) A E s m Q t from fun e h=>e ▸ h) ?_
      (yg C (st₀:=st') (γ₀:=γ) (γ:=mirror γ lo (lo+x) ((lo+x-lo) / 2)) (R.put (mirror_perm _ _ _ _) (by rw[R.arr,jc])) (by lia)
       ((F0.turn hs).next C (g:=0) (kE b4 (Va _) hs) (gF (a:=lo) raw' hs) (by lia) (by lia) fun i g p1 p2 e=>?_) (fun i q1 q2=>gF (a:=lo) raw' hs i (by lia) q2) ((je (Out.refl γ lo (lo+x)) (Va _) hs).wide (by lia)) q)
     ·unfold pH uO;congr 1;funext _v;congr 1;funext z;obtain⟨z1,z2,z3⟩:=z;cases z1 with
      | some z1=>rfl
      | none =>
       dsimp only;split
       ·congr 1;funext _y;congr 1;funext _u;congr 1;funext z;obtain⟨z1,z2⟩:=z;cases z1<;>rfl
       ·congr 1;funext _u;congr 1;funext z;obtain⟨z1,z2⟩:=z;cases z1<;>rfl
     ·obtain⟨i',a1,a2,_,a4⟩:=ly (γ:=γ) hs p1 p2;exact F0.below C hc i' g a1 a2 (a4 ▸ e)
   ·obtain rfl:x=1:=by lia
    refine eV h1 ?_;have fa:Fa c γ lo (lo+1):=fun i j g h p1 p2 p3=>by lia
    refine(show ∀{m:StateT SortSt Sem (Option Nat)},m=pH lo 1 (N-lo)->wpS (model prog w) A E s (pH lo 1 (N-lo)) Q st'->wpS (model prog w) A E s m Q st' from fun e h=>e ▸ h) ?_ (yg C (st₀:=st') (y:=arrOf st') (γ₀:=γ) (γ:=γ) R (by lia) (fa.next C (g:=0) b4 raw' (by lia) (by lia) fun i g p1 p2 e=>?_) (fun i q1 q2=>raw i (by lia) q2) (Out.refl _ _ _) q)
    ·unfold pH uO;congr 1;funext _v;congr 1;funext z;obtain⟨z1,z2,z3⟩:=z;cases z1 with
     | some z1=>rfl
     | none =>
      dsimp only;split
      ·congr 1;funext _y;congr 1;funext _u;congr 1;funext z;obtain⟨z1,z2⟩:=z;cases z1<;>rfl
      ·congr 1;funext _u;congr 1;funext z;obtain⟨z1,z2⟩:=z;cases z1<;>rfl
    obtain rfl:i=lo:=by lia
    rw[raw i (Va _) hl]at e;cases e;exact hc
end
end TS
namespace TS
open PySem PyProof.Rows
def By(left:Bool)(key:Keyed)(arr:Array Keyed)(base i:Nat):StateT SortSt Sem (Option Bool):=do
 let p ← elem' arr (base+i)
 if left then lt' p key else return (← lt' key p).map (!·)
def gal:Bool->Keyed->Array Keyed->Nat->Nat->Nat->StateT SortSt Sem (Option Nat):=sortPriv% PySem.Builtin.gallop
section
variable {prog:Program}{w:World}{A:Around}{E:Value->Shared->Prop}{s:Shared}{k:SortKind}{f:Nat->Keyed}{N:Nat}{c:Nat->Nat->Bool}{st:SortSt}{δ:Array Nat}
def bb(c:Nat->Nat->Bool)(left:Bool)(t g:Nat):Bool:=if left then c g t else !c t g
def yh(C:Cm prog w A s k f N c)(hk:kindOf st=k)(ht:t<N)(hg:g<N)(e:δ[base+i]?=some g)(q:Q (some (bb c left t g)) st) :
  wpS (model prog w) A E s (By left (f t) (δ.map f) base i) Q st:=by
 unfold By;rw[elem'_eq,BI,e];refine Al (Ah ?_);cases left with
 | true=>exact uM C hk hg ht q
 | false=>exact Al (uM C hk ht hg (Ah q))
def F8(left:Bool)(key:Keyed)(arr:Array Keyed)(base n l h:Nat):StateT SortSt Sem (Option Nat):=do
 let r ← forIn [0:n] ((none,l,h):Option (Option Nat)×Nat×Nat) fun _ r=>do
  if r.2.1 ≥ r.2.2 then pure (ForInStep.done (none,r.2.1,r.2.2)) else do
   match ← By left key arr base (r.2.1+(r.2.2-r.2.1) / 2) with
   | some mo=>if mo=true then pure (ForInStep.yield (none,r.2.1+(r.2.2-r.2.1) / 2+1,r.2.2)) else pure (ForInStep.yield (none,r.2.1,r.2.1+(r.2.2-r.2.1) / 2))
   | _=>pure (ForInStep.done (some none,r.2.1,r.2.2))
 match r.1 with
 | some z=>pure z
 | none=>pure (some r.2.2)
def Tr(c:Nat->Nat->Bool)(left:Bool)(t base:Nat)(δ:Array Nat)(m:Nat):Prop:=∀(i g:Nat),base<=i->i<base+m->δ[i]?=some g->bb c left t g=true
def Fs(c:Nat->Nat->Bool)(left:Bool)(t base n:Nat)(δ:Array Nat)(m:Nat):Prop:=∀(i g:Nat),base+m<=i->i<base+n->δ[i]?=some g->bb c left t g=false
def Mo(c:Nat->Nat->Bool)(left:Bool)(t base n:Nat)(δ:Array Nat):Prop:=∀(i j g h:Nat),base<=i->i<j->j<base+n->δ[i]?=some g->δ[j]?=some h->bb c left t h=true->bb c left t g=true
def Mo.tr(mo:Mo c left t base n δ)(hm:m<n)(e:δ[base+m]?=some g)(h:bb c left t g=true):Tr c left t base δ (m+1):=by grind [Mo,bb,Tr]
def Mo.fs(mo:Mo c left t base n δ)(hm:m<n)(e:δ[base+m]?=some g)(h:bb c left t g=false):Fs c left t base n δ m:=by grind [Mo,bb,Fs]
def Pj(q:l<h):l<=l+(h-l) / 2/\l+(h-l) / 2<h:=by lia
def yi(C:Cm prog w A s k f N c)(hk:kindOf st=k)(ht:t<N)(hb:∀(i g:Nat),δ[i]?=some g->g<N)(hs:base+n<=δ.size)(mo:Mo c left t base n δ)
  (h1:l<=h)(h2:h<=n)(tr:Tr c left t base δ l)(fs:Fs c left t base n δ h)(q:∀m,m<=n->Tr c left t base δ m->Fs c left t base n δ m->Q (some m) st) :
  wpS (model prog w) A E s (F8 left (f t) (δ.map f) base n l h) Q st:=by
 refine Al (Aw (Ax (I:=fun x r st'=>st'=st/\∃l h,r=(none,l,h)/\l<=h/\h<=n/\h-l<=n-x/\Tr c left t base δ l/\Fs c left t base n δ h)
  (Q:=fun r st'=>st'=st/\∃l,r=(none,l,l)/\l<=n/\Tr c left t base δ l/\Fs c left t base n δ l) ?step ?fin ?init) ?post)
 case init=>exact⟨rfl,l,h,rfl,h1,h2,by lia,tr,fs⟩
 case fin =>
  rintro r st' ⟨rfl,l,h,rfl,b1,b2,b3,b4,b5⟩;obtain rfl:l=h:=by lia
  exact⟨rfl,l,rfl,b2,b4,b5⟩
 case step =>
  rintro x r st' p1 p2 ⟨rfl,l,h,rfl,b1,b2,b3,b4,b5⟩;dsimp only;by_cases hlh:l ≥ h
  ·refine fQ hlh ?_;obtain rfl:l=h:=by lia
   exact Ah ⟨rfl,l,rfl,b2,b4,b5⟩
  ·refine eV hlh ?_;obtain⟨q1,q2⟩:=Pj (AX hlh);generalize l+(h-l) / 2=t' at q1 q2 ⊢;have q5:t'<n:=Vc q2 b2;obtain⟨g,e⟩:=jR (γ:=δ) (i:=base+t') (Vc (Nat.add_lt_add_left q5 base) hs);refine Al (yh C hk ht (hb _ _ e) e ?_);cases hc:bb c left t g with
   | true=>exact Ah ⟨rfl,_,_,rfl,q2,b2,Oh b3 q1 q2,mo.tr q5 e hc,b5⟩
   | false=>exact Ah ⟨rfl,_,_,rfl,q1,Qk q5,Og b3 q2 q1,b4,mo.fs q5 e hc⟩
 case post =>
  rintro r st' ⟨rfl,l,rfl,b1,b2,b3⟩;exact Ah (q l b1 b2 b3)
def F9(C:Cm prog w A s k f N c)(hk:kindOf st=k)(ht:t<N)(hb:∀(i g:Nat),δ[i]?=some g->g<N)(hs:base+n<=δ.size)(hh:hint<n)(mo:Mo c left t base n δ)
  (q:∀m,m<=n->Tr c left t base δ m->Fs c left t base n δ m->Q (some m) st) :
  wpS (model prog w) A E s (gal left (f t) (δ.map f) base n hint) Q st:=by
 obtain⟨g0,e0⟩:=jR (γ:=δ) (i:=base+hint) (by lia)
 refine Al (yh C hk ht (hb _ _ e0) e0 ?_);have sw:∀{m m':StateT SortSt Sem (Option Nat)},m=m'->wpS (model prog w) A E s m' Q st->wpS (model prog w) A E s m Q st:=fun e h=>e ▸ h;dsimp only;cases hc:bb c left t g0 with
 | true =>
  refine fQ rfl ?_
  refine Al (Aw (Ax (I:=fun x r st'=>st'=st/\∃a o,r=(none,a,o)/\a<o/\x<o/\a<n-hint/\Tr c left t base δ (hint+a+1))
   (Q:=fun r st'=>st'=st/\∃a o,r=(none,a,o)/\a<o/\a<n-hint/\Tr c left t base δ (hint+a+1)/\(n-hint<=o∨Fs c left t base n δ (hint+o))) ?step ?fin ?init) ?post)
  case init=>exact⟨rfl,0,1,rfl,by lia,by lia,by lia,mo.tr hh e0 hc⟩
  case fin =>
   rintro r st' ⟨rfl,a,o,rfl,b1,b2,b3,b4⟩;exact⟨rfl,a,o,rfl,b1,b3,b4,.inl (by lia)⟩
  case step =>
   rintro x r st' p1 p2 ⟨rfl,a,o,rfl,b1,b2,b3,b4⟩;dsimp only;by_cases ho:o ≥ n-hint
   ·refine fQ ho ?_;exact Ah ⟨rfl,a,o,rfl,b1,b3,b4,.inl ho⟩
   ·refine eV ho ?_;obtain⟨g,e⟩:=jR (γ:=δ) (i:=base+(hint+o)) (by lia)
    refine Al (yh C hk ht (hb _ _ e) e ?_);cases hc:bb c left t g with
    | true=>exact Ah ⟨rfl,o,2*o+1,rfl,by lia,by lia,by lia,mo.tr (by lia) e hc⟩
    | false=>exact Ah ⟨rfl,a,o,rfl,b1,b3,b4,.inr (mo.fs (by lia) e hc)⟩
  case post =>
   rintro r st' ⟨rfl,a,o,rfl,b1,b3,b4,b5⟩;refine sw (m':=F8 left (f t) (δ.map f) base n (hint+a+1) (hint+min o (n-hint))) (by unfold F8;dsimp only;congr 1;funext z;obtain⟨z1,z2,z3⟩:=z;cases z1<;>rfl) (yi C hk ht hb hs mo (Zj (Nat.lt_min.mpr ⟨b1,b3⟩) hint) (Yd (Zj (C0 _ _) _) (Nat.le_of_eq (Yn (Qk hh)))) b4 ?_ q)
   by_cases ho:n-hint<=o
   ·intro i g p1 p2;rw[C1 ho,Yn (Qk hh)]at p1;exact absurd p2 (Nat.not_lt_of_le p1)
   ·rw[Wl (Nat.le_of_not_le ho)];exact b5.resolve_left ho
 | false =>
  refine eV Bool.noConfusion ?_
  refine Al (Aw (Ax (I:=fun x r st'=>st'=st/\∃a o,r=(none,a,o)/\a<o/\x<o/\a<hint+1/\Fs c left t base n δ (hint-a))
   (Q:=fun r st'=>st'=st/\∃a o,r=(none,a,o)/\a<o/\a<hint+1/\Fs c left t base n δ (hint-a)/\(hint+1<=o∨Tr c left t base δ (hint-o+1))) ?step ?fin ?init) ?post)
  case init=>exact⟨rfl,0,1,rfl,by lia,by lia,by lia,mo.fs hh e0 hc⟩
  case fin =>
   rintro r st' ⟨rfl,a,o,rfl,b1,b2,b3,b4⟩;exact⟨rfl,a,o,rfl,b1,b3,b4,.inl (by lia)⟩
  case step =>
   rintro x r st' p1 p2 ⟨rfl,a,o,rfl,b1,b2,b3,b4⟩;dsimp only;by_cases ho:o ≥ hint+1
   ·refine fQ ho ?_;exact Ah ⟨rfl,a,o,rfl,b1,b3,b4,.inl ho⟩
   ·refine eV ho ?_;obtain⟨g,e⟩:=jR (γ:=δ) (i:=base+(hint-o)) (by lia)
    refine Al (yh C hk ht (hb _ _ e) e ?_);cases hc:bb c left t g with
    | true=>exact Ah ⟨rfl,a,o,rfl,b1,b3,b4,.inr (mo.tr (by lia) e hc)⟩
    | false=>exact Ah ⟨rfl,o,2*o+1,rfl,by lia,by lia,by lia,mo.fs (by lia) e hc⟩
  case post =>
   rintro r st' ⟨rfl,a,o,rfl,b1,b3,b4,b5⟩;refine sw (m':=F8 left (f t) (δ.map f) base n (hint+1-min o (hint+1)) (hint-a)) (by unfold F8;dsimp only;congr 1;funext z;obtain⟨z1,z2,z3⟩:=z;cases z1<;>rfl) (yi C hk ht hb hs mo (Nat.succ_sub_succ hint a ▸ Nat.sub_le_sub_left (Nat.lt_min.mpr ⟨b1,b3⟩) _) (Yd (Nat.sub_le _ _) (Qk hh)) ?_ b4 q)
   by_cases ho:hint+1<=o
   ·intro i g p1 p2;rw[C1 ho,Dv]at p2;exact absurd p2 (Nat.not_lt_of_le p1)
   ·rw[Wl (Nat.le_of_not_le ho),Nat.succ_sub (Nat.le_of_lt_succ (AX ho))];exact b5.resolve_left ho
end
end TS
namespace TS
open PySem PyProof.Rows
structure Mg(c:Nat->Nat->Bool)(α β ω la lb:List Nat):Prop where
 so:ω.Pairwise (Bf c)
 sa:la.Pairwise (Bf c)
 sb:lb.Pairwise (Bf c)
 xa:∀g∈ω,∀h∈la,Bf c g h
 xb:∀g∈ω,∀h∈lb,Bf c g h
 tag:∀g∈la,∀h∈lb,g<h
 perm:(ω++la++lb).Perm (α++β)
def Gd(c:Nat->Nat->Bool)(α β l:List Nat):Prop:=l.Pairwise (Bf c)/\l.Perm (α++β)
section
variable {prog:Program}{w:World}{A:Around}{s:Shared}{k:SortKind}{f:Nat->Keyed}{N:Nat}{c:Nat->Nat->Bool}{α β ω la lb:List Nat}{x y:Nat}
def Mg.takeB(C:Cm prog w A s k f N c)(J:Mg c α β ω (x::la) (y::lb))(h:c y x=true):Mg c α β (ω++[y]) (x::la) lb:=by
 have sa:=Zi.mp J.sa;have sb:=Zi.mp J.sb;have ya:∀z∈x::la,Bf c y z:=fun z hz=>by
  rcases Vd.mp hz with rfl|hz
  ·exact .inl h
  ·exact C.trans (.inl h) (sa.1 z hz)
 refine⟨?_,J.sa,sb.2,fun g hg z hz=>?_,fun g hg z hz=>?_,fun g hg z hz=>J.tag g hg z (Xb _ hz),?_⟩
 ·rw[Wi];exact⟨J.so,Bb _ _,fun g hg z hz=>by rw[Yb.mp hz];exact J.xb g hg y Qa⟩
 ·rcases Wd.mp hg with hg|hg
  ·exact J.xa g hg z hz
  ·rw[Yb.mp hg];exact ya z hz
 ·rcases Wd.mp hg with hg|hg
  ·exact J.xb g hg z (Xb _ hz)
  ·rw[Yb.mp hg];exact sb.1 z hz
 ·refine List.Perm.trans ?_ J.perm;rw[Qb,Qb,Qb];refine AA ω ?_;exact(Yl (l₁:=x::la) (a:=y) (l₂:=lb)).symm
def Mg.takeA(C:Cm prog w A s k f N c)(J:Mg c α β ω (x::la) (y::lb))(h:c y x=false):Mg c α β (ω++[x]) la (y::lb):=by
 have sa:=Zi.mp J.sa;have sb:=Zi.mp J.sb;have xy:Bf c x y:=.inr ⟨h,J.tag x Qa y Qa⟩;refine⟨?_,sa.2,J.sb,fun g hg z hz=>?_,fun g hg z hz=>?_,fun g hg z hz=>J.tag g (Xb _ hg) z hz,?_⟩
 ·rw[Wi];exact⟨J.so,Bb _ _,fun g hg z hz=>by rw[Yb.mp hz];exact J.xa g hg x Qa⟩
 ·rcases Wd.mp hg with hg|hg
  ·exact J.xa g hg z (Xb _ hz)
  ·rw[Yb.mp hg];exact sa.1 z hz
 ·rcases Wd.mp hg with hg|hg
  ·exact J.xb g hg z hz
  ·rw[Yb.mp hg];rcases Vd.mp hz with rfl|hz
   ·exact xy
   ·exact C.trans xy (sb.1 z hz)
 ·refine List.Perm.trans ?_ J.perm;rw[Qb ω [x] la];exact List.Perm.refl _
theorem Mg.takeAs(C:Cm prog w A s k f N c):∀(l:List Nat){ω la:List Nat},Mg c α β ω (l++la) (y::lb)->(∀g∈l,c y g=false)->Mg c α β (ω++l) la (y::lb)
 | [],ω,la,J,_=>by rw[Xc];exact J
 | x::l,ω,la,J,h=>by
  have:=Mg.takeAs C l (J.takeA C (h x Qa)) fun g hg=>h g (Xb _ hg);rwa [Qb]at this
theorem Mg.takeBs(C:Cm prog w A s k f N c):∀(l:List Nat){ω lb:List Nat},Mg c α β ω (x::la) (l++lb)->(∀g∈l,c g x=true)->Mg c α β (ω++l) (x::la) lb
 | [],ω,lb,J,_=>by rw[Xc];exact J
 | y::l,ω,lb,J,h=>by
  have:=Mg.takeBs C l (J.takeB C (h y Qa)) fun g hg=>h g (Xb _ hg);rwa [Qb]at this
def Mg.doneA(J:Mg c α β ω la []):Gd c α β (ω++la):=by
 refine⟨Wi.mpr ⟨J.so,J.sa,J.xa⟩,?_⟩;have:=J.perm;rwa [Xc]at this
def Mg.doneB(J:Mg c α β ω [] lb):Gd c α β (ω++lb):=by
 refine⟨Wi.mpr ⟨J.so,J.sb,J.xb⟩,?_⟩;have:=J.perm;rwa [Xc]at this
def Mg.last(C:Cm prog w A s k f N c)(J:Mg c α β ω [x] lb)(h:∀g∈lb,c g x=true):Gd c α β (ω++lb++[x]):=by
 have J':Mg c α β ω [x] (lb++[]):=by rw[Xc];exact J
 exact(J'.takeBs C lb h).doneA
end
end TS
namespace TS
open PySem PyProof.Rows
def ar(f:Nat->Keyed)(l:List Nat):Array Keyed:=l.toArray.map f
def Lw(f:Nat->Keyed)(c:Nat->Nat->Bool)(α β:List Nat)(o:Array Keyed)(i j:Nat):Prop:=∃ω,o=ar f ω/\Mg c α β ω (α.drop i) (β.drop j)
def Rt(f:Nat->Keyed)(c:Nat->Nat->Bool)(α β:List Nat)(o:Array Keyed):Prop:=∃l,o=ar f l/\Gd c α β l
section
variable {prog:Program}{w:World}{A:Around}{s:Shared}{k:SortKind}{f:Nat->Keyed}{N:Nat}{c:Nat->Nat->Bool}{α β:List Nat}{o:Array Keyed}{i j x y:Nat}
def f9(l:List Nat):(ar f l).size=l.length:=by simp[ar]
def oP(l:List Nat)(g:Nat):(ar f l).push (f g)=ar f (l++[g]):=by simp[ar]
def fY(l m:List Nat):ar f l++ar f m=ar f (l++m):=by simp[ar]
def lA(l:List Nat)(p q:Nat):(ar f l).extract p q=ar f ((l.drop p).take (q-p)):=by simp[ar,List.extract]
def sO(l:List Nat)(p:Nat):(ar f l).extract p (ar f l).size=ar f (l.drop p):=by
 rw[lA,f9,AJ (by rw[Zf];exact Va _)]
def Oj{l:List Nat}{p g:Nat}(e:l[p]?=some g):(ar f l)[p]?=some (f g):=by simp[ar,e]
def pI{l:List Nat}(e:l[p]?=some g):l.drop p=g::l.drop (p+1):=by
 obtain⟨h,rfl⟩:=Wc.mp e;exact Ym h
def Lw.b(C:Cm prog w A s k f N c)(L:Lw f c α β o i j)(hx:α[i]?=some x)(hy:β[j]?=some y)(h:c y x=true):Lw f c α β (o.push (f y)) i (j+1):=by
 obtain⟨ω,rfl,J⟩:=L;refine⟨ω++[y],oP _ _,?_⟩;rw[pI hx]at J ⊢;rw[pI hy]at J;exact J.takeB C h
def Lw.a(C:Cm prog w A s k f N c)(L:Lw f c α β o i j)(hx:α[i]?=some x)(hy:β[j]?=some y)(h:c y x=false):Lw f c α β (o.push (f x)) (i+1) j:=by
 obtain⟨ω,rfl,J⟩:=L;refine⟨ω++[x],oP _ _,?_⟩;rw[pI hy]at J ⊢;rw[pI hx]at J;exact J.takeA C h
def Lw.as(C:Cm prog w A s k f N c)(L:Lw f c α β o i j)(hy:β[j]?=some y)(h:∀p g,i<=p->p<i+u->α[p]?=some g->c y g=false):Lw f c α β (o++(ar f α).extract i (i+u)) (i+u) j:=by
 obtain⟨ω,rfl,J⟩:=L;refine⟨ω++(α.drop i).take u,by rw[lA,show i+u - i=u by lia,fY],?_⟩
 rw[pI hy]at J ⊢;refine Mg.takeAs C _ (la:=α.drop (i+u)) (by rw[← Bi,Xh];exact J) fun g hg=>?_
 obtain⟨p,hp⟩:=List.mem_iff_getElem?.mp hg;rw[A9]at hp;split at hp
 ·rw[Xg]at hp;exact h (i+p) g (by lia) (by lia) hp
 ·cases hp
def Lw.bs(C:Cm prog w A s k f N c)(L:Lw f c α β o i j)(hx:α[i]?=some x)(h:∀p g,j<=p->p<j+u->β[p]?=some g->c g x=true):Lw f c α β (o++(ar f β).extract j (j+u)) i (j+u):=by
 obtain⟨ω,rfl,J⟩:=L;refine⟨ω++(β.drop j).take u,by rw[lA,show j+u - j=u by lia,fY],?_⟩
 rw[pI hx]at J ⊢;refine Mg.takeBs C _ (lb:=β.drop (j+u)) (by rw[← Bi (i:=u) (j:=j),Xh];exact J) fun g hg=>?_
 obtain⟨p,hp⟩:=List.mem_iff_getElem?.mp hg;rw[A9]at hp;split at hp
 ·rw[Xg]at hp;exact h (j+p) g (by lia) (by lia) hp
 ·cases hp
def Lw.dn(L:Lw f c α β o i j)(h:j=β.length∨i=α.length):Rt f c α β (o++(ar f α).extract i (ar f α).size++(ar f β).extract j (ar f β).size):=by
 obtain⟨ω,rfl,J⟩:=L;rw[sO,sO,fY,fY];refine⟨_,rfl,?_⟩;rcases h with rfl|rfl
 ·rw[C4]at J ⊢;rw[Xc];exact J.doneA
 ·rw[C4]at J ⊢;rw[Xc];exact J.doneB
def Lw.la(C:Cm prog w A s k f N c)(L:Lw f c α β o i j)(hx:α[i]?=some x)(h:i+1=α.length)(z:∀g∈β,c g x=true):Rt f c α β (o++(ar f β).extract j (ar f β).size++(ar f α).extract i (ar f α).size):=by
 obtain⟨ω,rfl,J⟩:=L;rw[sO,sO,fY,fY];refine⟨_,rfl,?_⟩;rw[pI hx,h,C4]at J ⊢;exact J.last C fun g hg=>z g (AT hg)
end
end TS
namespace TS
open PySem PyProof.Rows
inductive Ex2{A B R:Type}(g:A->B->R)(p:A->B->Prop):R->Prop|mk (a b) (h:p a b):Ex2 g p (g a b)
inductive Ex4{A B C D R:Type}(g:A->B->C->D->R)(p:A->B->C->D->Prop):R->Prop|mk (a b c d) (h:p a b c d):Ex4 g p (g a b c d)
inductive Ex5{A B C D E R:Type}(g:A->B->C->D->E->R)(p:A->B->C->D->E->Prop):R->Prop|mk (a b c d e) (h:p a b c d e):Ex5 g p (g a b c d e)
inductive Ex6{A B C D E F R:Type}(g:A->B->C->D->E->F->R)(p:A->B->C->D->E->F->Prop):R->Prop|mk (a b c d e f) (h:p a b c d e f):Ex6 g p (g a b c d e f)
def mlo:Array Keyed->Array Keyed->StateT SortSt Sem (Array Keyed):=sortPriv% PySem.Builtin.mergeLo
structure Sm(a b:SortSt):Prop where
 arr:arrOf b=arrOf a
 kind:kindOf b=kindOf a
 pend:pendingOf b=pendingOf a
 fine:failedOf b=failedOf a
def pJ{M:Model}{A:Around}{E:Value->Shared->Prop}{σ γ:Type}{B:Nat->StateT σ Sem γ}{p:Prop}{d:Decidable p}{m2:Nat}{Q:γ->σ->Prop}{st:σ}(h:∀m,wpS M A E s (B m) Q st):∀m1,wpS M A E s (@ite _ p d (B m1) (B m2)) Q st:=by
 intro m1;by_cases hp:p
 ·rw[Ag hp];exact h _
 ·rw[Ak hp];exact h _
def oQ{M:Model}{A:Around}{E:Value->Shared->Prop}{σ γ:Type}{X:StateT σ Sem γ}{B:Array Keyed->Nat->StateT σ Sem γ}{p:Prop}{d:Decidable p}{o:Array Keyed}{i:Nat}{Q:γ->σ->Prop}{st:σ}(I:Array Keyed->Nat->Prop)
  (h:p->(∀o i,I o i->wpS M A E s (B o i) Q st)->wpS M A E s X Q st)(g:¬ p->I o i)(hB:∀o i,I o i->wpS M A E s (B o i) Q st):wpS M A E s (@ite _ p d X (B o i)) Q st:=by
 by_cases hp:p
 ·rw[Ag hp];exact h hp hB
 ·rw[Ak hp];exact hB _ _ (g hp)
def Ol{M:Model}{A:Around}{E:Value->Shared->Prop}{σ γ O ρ A0 A1 A2 A3:Type}{lo hi:Nat}{F:Nat->Option O×ρ->StateT σ Sem (ForInStep (Option O×ρ))}{K:Option O×ρ->StateT σ Sem γ}(S:σ->Prop)(R:O->Prop)(g:A0->A1->A2->A3->ρ)(p:Nat->A0->A1->A2->A3->Prop)(p':A0->A1->A2->A3->Prop){Q:γ->σ->Prop}
  (step:∀x a b c d st,S st->p x a b c d->wpS M A E s (F x (none,g a b c d)) (fun r st'=>match r with|.done c'=>S st'/\(Ex2 (fun o z=>(some o,z)) (fun o _=>R o) c'∨Ex4 (fun a b c d=>(none,g a b c d)) p' c')|.yield c'=>S st'/\Ex4 (fun a b c d=>(none,g a b c d)) (p (x+1)) c') st)
  (fin:∀a b c d,p (max lo hi) a b c d->False) {r:Option O×ρ} {st:σ} (hS:S st) (init:Ex4 (fun a b c d=>(none,g a b c d)) (p lo) r) (sm:∀o z st',S st'->R o->wpS M A E s (K (some o,z)) Q st') (nn:∀a b c d st',S st'->p' a b c d->wpS M A E s (K (none,g a b c d)) Q st'):wpS M A E s (forIn [lo:hi] r F >>= K) Q st:=by
 refine Al (Aw (Ax (I:=fun x r st=>S st/\Ex4 (fun a b c d=>(none,g a b c d)) (p x) r) (Q:=fun r st=>S st/\(Ex2 (fun o z=>(some o,z)) (fun o _=>R o) r∨Ex4 (fun a b c d=>(none,g a b c d)) p' r)) ?_ ?_ ⟨hS,init⟩) ?_)
 ·rintro x r st _ _ ⟨h,a,b,c,d,z⟩;exact Aw (step x a b c d st h z) fun r st' h=>by cases r<;>exact h
 ·rintro r st ⟨_,a,b,c,d,z⟩;exact(fin a b c d z).elim
 ·rintro r st ⟨h,⟨o,z,h1⟩|⟨a,b,c,d,h1⟩⟩
  ·exact sm o z st h h1
  ·exact nn a b c d st h h1
def Om{M:Model}{A:Around}{E:Value->Shared->Prop}{σ γ O ρ A0 A1 A2 A3 A4:Type}{lo hi:Nat}{F:Nat->Option O×ρ->StateT σ Sem (ForInStep (Option O×ρ))}{K:Option O×ρ->StateT σ Sem γ}(S:σ->Prop)(R:O->Prop)(g:A0->A1->A2->A3->A4->ρ)(p:Nat->A0->A1->A2->A3->A4->Prop)(p':A0->A1->A2->A3->A4->Prop){Q:γ->σ->Prop}
  (step:∀x a b c d e st,S st->p x a b c d e->wpS M A E s (F x (none,g a b c d e)) (fun r st'=>match r with|.done c'=>S st'/\(Ex2 (fun o z=>(some o,z)) (fun o _=>R o) c'∨Ex5 (fun a b c d e=>(none,g a b c d e)) p' c')|.yield c'=>S st'/\Ex5 (fun a b c d e=>(none,g a b c d e)) (p (x+1)) c') st)
  (fin:∀a b c d e,p (max lo hi) a b c d e->False) {r:Option O×ρ} {st:σ} (hS:S st) (init:Ex5 (fun a b c d e=>(none,g a b c d e)) (p lo) r) (sm:∀o z st',S st'->R o->wpS M A E s (K (some o,z)) Q st') (nn:∀a b c d e st',S st'->p' a b c d e->wpS M A E s (K (none,g a b c d e)) Q st'):wpS M A E s (forIn [lo:hi] r F >>= K) Q st:=by
 refine Al (Aw (Ax (I:=fun x r st=>S st/\Ex5 (fun a b c d e=>(none,g a b c d e)) (p x) r) (Q:=fun r st=>S st/\(Ex2 (fun o z=>(some o,z)) (fun o _=>R o) r∨Ex5 (fun a b c d e=>(none,g a b c d e)) p' r)) ?_ ?_ ⟨hS,init⟩) ?_)
 ·rintro x r st _ _ ⟨h,a,b,c,d,e,z⟩;exact Aw (step x a b c d e st h z) fun r st' h=>by cases r<;>exact h
 ·rintro r st ⟨_,a,b,c,d,e,z⟩;exact(fin a b c d e z).elim
 ·rintro r st ⟨h,⟨o,z,h1⟩|⟨a,b,c,d,e,h1⟩⟩
  ·exact sm o z st h h1
  ·exact nn a b c d e st h h1
def On{M:Model}{A:Around}{E:Value->Shared->Prop}{σ γ O ρ A0 A1 A2 A3 A4 A5:Type}{lo hi:Nat}{F:Nat->Option O×ρ->StateT σ Sem (ForInStep (Option O×ρ))}{K:Option O×ρ->StateT σ Sem γ}(S:σ->Prop)(R:O->Prop)(g:A0->A1->A2->A3->A4->A5->ρ)(p:Nat->A0->A1->A2->A3->A4->A5->Prop)(p':A0->A1->A2->A3->A4->A5->Prop){Q:γ->σ->Prop}
  (step:∀x a b c d e f st,S st->p x a b c d e f->wpS M A E s (F x (none,g a b c d e f)) (fun r st'=>match r with|.done c'=>S st'/\(Ex2 (fun o z=>(some o,z)) (fun o _=>R o) c'∨Ex6 (fun a b c d e f=>(none,g a b c d e f)) p' c')|.yield c'=>S st'/\Ex6 (fun a b c d e f=>(none,g a b c d e f)) (p (x+1)) c') st)
  (fin:∀a b c d e f,p (max lo hi) a b c d e f->False) {r:Option O×ρ} {st:σ} (hS:S st) (init:Ex6 (fun a b c d e f=>(none,g a b c d e f)) (p lo) r) (sm:∀o z st',S st'->R o->wpS M A E s (K (some o,z)) Q st') (nn:∀a b c d e f st',S st'->p' a b c d e f->wpS M A E s (K (none,g a b c d e f)) Q st'):wpS M A E s (forIn [lo:hi] r F >>= K) Q st:=by
 refine Al (Aw (Ax (I:=fun x r st=>S st/\Ex6 (fun a b c d e f=>(none,g a b c d e f)) (p x) r) (Q:=fun r st=>S st/\(Ex2 (fun o z=>(some o,z)) (fun o _=>R o) r∨Ex6 (fun a b c d e f=>(none,g a b c d e f)) p' r)) ?_ ?_ ⟨hS,init⟩) ?_)
 ·rintro x r st _ _ ⟨h,a,b,c,d,e,f,z⟩;exact Aw (step x a b c d e f st h z) fun r st' h=>by cases r<;>exact h
 ·rintro r st ⟨_,a,b,c,d,e,f,z⟩;exact(fin a b c d e f z).elim
 ·rintro r st ⟨h,⟨o,z,h1⟩|⟨a,b,c,d,e,f,h1⟩⟩
  ·exact sm o z st h h1
  ·exact nn a b c d e f st h h1
section
variable {prog:Program}{w:World}{A:Around}{E:Value->Shared->Prop}{s:Shared}{k:SortKind}{f:Nat->Keyed}{N:Nat}{c:Nat->Nat->Bool}{st:SortSt}{α β:List Nat}
def Sm.refl(a:SortSt):Sm a a:=⟨rfl,rfl,rfl,rfl⟩
theorem Sm.trans(x:Sm a b)(y:Sm b d):Sm a d:=⟨y.arr.trans x.arr,y.kind.trans x.kind,y.pend.trans x.pend,y.fine.trans x.fine⟩
structure Two(c:Nat->Nat->Bool)(N:Nat)(α β:List Nat):Prop where
 sa:α.Pairwise (Bf c)
 sb:β.Pairwise (Bf c)
 tag:∀g∈α,∀h∈β,g<h
 ba:∀g∈α,g<N
 bb:∀g∈β,g<N
 na:α≠[]
 nb:β≠[]
 first:∀x y,α[0]?=some x->β[0]?=some y->c y x=true
 last:∀x,α[α.length-1]?=some x->∀g∈β,c g x=true
def Op(e:l[i]?=some g)(q:Q (f g) st):wpS (model prog w) A E s (elem' (ar f l) i) Q st:=by
 rw[elem'_eq,Oj e];exact Ah q
def Ga(C:Cm prog w A s k f N c){l:List Nat}(hs:l.Pairwise (Bf c))(t base n:Nat):Mo c false t base n l.toArray:=by
 intro i j g h p1 p2 p3 e1 e2 z;have e1':l[i]?=some g:=by simpa using e1
 have e2':l[j]?=some h:=by simpa using e2
 obtain⟨hi,rfl⟩:=Wc.mp e1';obtain⟨hj,rfl⟩:=Wc.mp e2';have b:=C.le (Xk.mp hs i j hi hj p2);simp only[bb,Xf,if_false,Bool.not_eq_true']at z ⊢;cases z2:c t l[i] with
 | false=>rfl
 | true =>
  rcases C.neg t l[j] l[i] z2 with q|q
  ·rw[z]at q;cases q
  ·rw[b]at q;cases q
def IM(C:Cm prog w A s k f N c){l:List Nat}(hs:l.Pairwise (Bf c))(t base n:Nat):Mo c true t base n l.toArray:=by
 intro i j g h p1 p2 p3 e1 e2 z;have e1':l[i]?=some g:=by simpa using e1
 have e2':l[j]?=some h:=by simpa using e2
 obtain⟨hi,rfl⟩:=Wc.mp e1';obtain⟨hj,rfl⟩:=Wc.mp e2';have b:=C.le (Xk.mp hs i j hi hj p2);simp only[bb,if_true]at z ⊢;rcases C.neg l[j] l[i] t z with q|q
 ·rw[b]at q;cases q
 ·exact q
def ME(C:Cm prog w A s k f N c)(hk:kindOf st=k){l:List Nat}(hs:l.Pairwise (Bf c))(hb:∀g∈l,g<N)(ht:t<N)(hz:base+n<=l.length)(hh:hint<n)
  (q:∀m,m<=n->(∀i g,base<=i->i<base+m->l[i]?=some g->bb c left t g=true)->(∀i g,base+m<=i->i<base+n->l[i]?=some g->bb c left t g=false)->Q (some m) st) :
  wpS (model prog w) A E s ((sortPriv% PySem.Builtin.gallop) left (f t) (ar f l) base n hint) Q st:=by
 show wpS (model prog w) A E s (gal left (f t) (ar f l) base n hint) Q st;have mo:Mo c left t base n l.toArray:=by
  cases left with
  | true=>exact IM C hs t base n
  | false=>exact Ga C hs t base n
 refine F9 C hk ht (δ:=l.toArray) (fun i g e=>hb g ?_) (by simpa using hz) hh mo fun m h1 h2 h3=>q m h1 (fun i g p1 p2 e=>h2 i g p1 p2 (by simpa using e)) fun i g p1 p2 e=>h3 i g p1 p2 (by simpa using e)
 exact Wb (by simpa using e)
def Oq(q:∀st',Sm st st'->Q ⟨⟩ st'):wpS (model prog w) A E s ((sortPriv% PySem.Builtin.setMinGallop) g) Q st:=Bl (q _ ⟨rfl,rfl,rfl,rfl⟩)
def fL{M:Model}{σ γ:Type}{X Y:StateT σ Sem γ}{p:Prop}{d:Decidable p}{Q:γ->σ->Prop}{st:σ}(t:p->wpS M A E s X Q st)(e:¬ p->wpS M A E s Y Q st):wpS M A E s (@ite _ p d X Y) Q st:=by
 by_cases h:p
 ·exact fQ h (t h)
 ·exact eV h (e h)
def cG{M:Model}{σ γ:Type}{X Y:StateT σ Sem γ}{a b:Nat}{d:Decidable ((a == b)=true)}{Q:γ->σ->Prop}{st:σ}(t:a=b->wpS M A E s X Q st)(e:a≠b->wpS M A E s Y Q st):wpS M A E s (@ite _ ((a == b)=true) d X Y) Q st :=
 fL (fun h=>t (Ce h)) fun h=>e fun z=>h (z ▸ beq_self_eq_true _)
section
variable {γ:Type}{Q:γ->SortSt->Prop}{l:List Nat}{i:Nat}{K:Keyed->StateT SortSt Sem γ}
def elk(e:l[i]?=some g)(q:wpS (model prog w) A E s (K (f g)) Q st):wpS (model prog w) A E s (elem' (ar f l) i >>= K) Q st:=Al (Op e q)
def elb(h:i<l.length)(q:∀g,l[i]?=some g->wpS (model prog w) A E s (K (f g)) Q st):wpS (model prog w) A E s (elem' (ar f l) i >>= K) Q st:=elk (Ya h) (q _ (Ya h))
def sgb{g:Nat}{K:Unit->StateT SortSt Sem γ}(q:∀st',Sm st st'->wpS (model prog w) A E s (K ⟨⟩) Q st'):wpS (model prog w) A E s ((sortPriv% PySem.Builtin.setMinGallop) g >>= K) Q st:=Al (Oq q)
def glob(C:Cm prog w A s k f N c)(hk:kindOf st=k)(hs:l.Pairwise (Bf c))(hb:∀g∈l,g<N){left:Bool}{t base n hint:Nat}(ht:t<N)(hz:base+n<=l.length)(hh:hint<n){K:Option Nat->StateT SortSt Sem γ}
  (q:∀m,m<=n->(∀i g,base<=i->i<base+m->l[i]?=some g->bb c left t g=true)->(∀i g,base+m<=i->i<base+n->l[i]?=some g->bb c left t g=false)->wpS (model prog w) A E s (K (some m)) Q st) :
  wpS (model prog w) A E s ((sortPriv% PySem.Builtin.gallop) left (f t) (ar f l) base n hint >>= K) Q st:=Al (ME C hk hs hb ht hz hh q)
end
def Ex4.of{r a b c d}(e:r=g a b c d)(h:p a b c d):Ex4 g p r:=e ▸ ⟨a,b,c,d,h⟩
def Lw.bv(C:Cm prog w A s k f N c){o:Array Keyed}(L:Lw f c α β o i j)(hl:i<α.length)(hy:β[j]?=some y)(h:∀x,α[i]?=some x->c y x=true):Lw f c α β (o.push (f y)) i (j+1):=L.b C (Ya hl) hy (h _ (Ya hl))
def Lw.av(C:Cm prog w A s k f N c){o:Array Keyed}(L:Lw f c α β o i j)(hl:j<β.length)(hx:α[i]?=some x)(h:∀y,β[j]?=some y->c y x=false):Lw f c α β (o.push (f x)) (i+1) j:=L.a C hx (Ya hl) (h _ (Ya hl))
def Lw.dq(L:Lw f c α β o i j)(h:j=(ar f β).size∨i=(ar f α).size):Rt f c α β (o++(ar f α).extract i (ar f α).size++(ar f β).extract j (ar f β).size):=L.dn (h.imp (·.trans (f9 _)) (·.trans (f9 _)))
def Lw.lq(C:Cm prog w A s k f N c)(T:Two c N α β)(L:Lw f c α β o i j)(h:i+1=(ar f α).size):Rt f c α β (o++(ar f β).extract j (ar f β).size++(ar f α).extract i (ar f α).size):=by
 rw[f9]at h;obtain⟨x,hx⟩:∃x,α[i]?=some x:=⟨_,Ya (h ▸ AW i)⟩;exact L.la C hx h (T.last x (by rw[← h];exact hx))
set_option maxHeartbeats 1000000 in
def MF(C:Cm prog w A s k f N c)(hk:kindOf st=k)(T:Two c N α β){Q:Array Keyed->SortSt->Prop}(q:∀o st',Sm st st'->Rt f c α β o->Q o st'):wpS (model prog w) A E s (mlo (ar f α) (ar f β)) Q st:=by
 have la:0<α.length:=Wh.mpr T.na;have lb:0<β.length:=Wh.mpr T.nb;obtain⟨x0,hx0⟩:∃x,α[0]?=some x:=⟨_,Ya la⟩;obtain⟨y0,hy0⟩:∃y,β[0]?=some y:=⟨_,Ya lb⟩;have M0:Mg c α β [] α β:=⟨List.Pairwise.nil,T.sa,T.sb,fun g hg=>by simp at hg,fun g hg=>by simp at hg,T.tag,List.Perm.refl _⟩
 have L0:Lw f c α β #[] 0 0:=⟨[],by simp[ar],by simpa using M0⟩
 have L1:Lw f c α β #[f y0] 0 1:=by have:=L0.b C hx0 hy0 (T.first _ _ hx0 hy0);simpa using this
 have za:(ar f α).size=α.length:=f9 _;have zb:(ar f β).size=β.length:=f9 _;refine Al (B8 (AH ⟨rfl,elk hy0 ?_⟩));refine cG (fun h1=>Ah (q _ _ (Sm.refl _) (L1.dq (.inl h1)))) fun h1=>cG (fun h2=>Ah (q _ _ (Sm.refl _) (L1.lq C T h2))) fun h2=>Al (Bw ?_);refine Ol (Sm st) (Rt f c α β) (fun o i j m=>(o,i,j,m)) (fun x o i j _=>Lw f c α β o i j/\i+1<α.length/\j<β.length/\x<i+j) (fun _ _ _ _=>False) ?step ?fin (Sm.refl _) ?init (fun o z st' sm R=>Ah (q _ _ sm R)) fun _ _ _ _ _ _ z=>z.elim
 case init=>exact⟨_,_,_,_,L1,by lia,by lia,Va _⟩
 case fin =>
  rintro o i j m ⟨L,b1,b2,b3⟩;lia
 case step =>
  intro x o i j m st' sm hI;have hk':kindOf st'=k:=sm.kind.trans hk;dsimp (config:={ zeta:=false,zetaHave:=false }) only;refine Om (fun st2=>st2=st') (Rt f c α β) (fun o' i' j' a b=>(o',i',j',a,b)) (fun y o' i' j' _ _=>Lw f c α β o' i' j'/\i'+1<α.length/\j'<β.length/\i'+j'=i+j+y)
   (fun o' i' j' _ _=>Lw f c α β o' i' j'/\i'+1<α.length/\j'<β.length/\i+j<i'+j') ?step1 ?fin1 rfl ?init1 (fun o' z st2 e R=>Ah ⟨e ▸ sm,.inl ⟨o',_,R⟩⟩) ?post1
  case init1=>exact⟨_,_,_,_,_,hI.1,hI.2.1,hI.2.2.1,rfl⟩
  case fin1 =>
   rintro o' i' j' a b ⟨L',c1,c2,c3⟩;lia
  case step1 =>
   intro y o' i' j' a b st2 e hI;subst e;have L':=hI.1;have c1:=hI.2.1;have c2:=hI.2.2.1;have c3:=hI.2.2.2;dsimp (config:={ zeta:=false,zetaHave:=false }) only;refine elb c2 fun yv hy=>elb (Be c1) fun xv hx=>Al (uM C hk' (T.bb _ (Wb hy)) (T.ba _ (Wb hx)) ?_);dsimp (config:={ zeta:=false,zetaHave:=false }) only;refine fL (fun hc=>?_) fun hc=>?_
   ·have L2:=L'.b C hx hy hc;refine elk hy (cG (fun e1=>Ah ⟨rfl,.inl ⟨_,_,L2.dq (.inl e1)⟩⟩) fun e1=>?_);have c2':j'+1<β.length:=BE c2 (zb ▸ e1);exact fL (fun _=>Ah ⟨rfl,.inr ⟨_,_,_,_,_,L2,c1,c2',by lia⟩⟩) fun _=>Ah ⟨rfl,_,_,_,_,_,L2,c1,c2',congrArg Nat.succ c3⟩
   ·have L2:=L'.a C hx hy (Bool.eq_false_iff.mpr hc);refine elk hx (cG (fun e1=>Ah ⟨rfl,.inl ⟨_,_,L2.lq C T e1⟩⟩) fun e1=>?_);have c1':i'+1+1<α.length:=BE c1 (za ▸ e1);exact fL (fun _=>Ah ⟨rfl,.inr ⟨_,_,_,_,_,L2,c1',c2,by lia⟩⟩) fun _=>Ah ⟨rfl,_,_,_,_,_,L2,c1',c2,by lia⟩
  case post1 =>
   intro o' i' j' a b st2 e hI';subst e;dsimp (config:={ zeta:=false,zetaHave:=false }) only;refine Al (B8 (AH ⟨rfl,?_⟩));refine On (Sm st) (Rt f c α β) (fun o2 i2 j2 m2 a2 b2=>(o2,i2,j2,m2,a2,b2)) (fun y o2 i2 j2 _ _ _=>Lw f c α β o2 i2 j2/\i2+1<α.length/\j2<β.length/\i'+j'+y<=i2+j2)
    (fun o2 i2 j2 _ _ _=>Lw f c α β o2 i2 j2/\i2+1<α.length/\j2<β.length/\i'+j'<=i2+j2) ?step2 ?fin2 sm ?init2 (fun o' z st2 sm R=>Ah ⟨sm,.inl ⟨o',_,R⟩⟩) ?post2
   case init2=>exact⟨_,_,_,_,_,_,hI'.1,hI'.2.1,hI'.2.2.1,Va _⟩
   case fin2 =>
    rintro o2 i2 j2 m2 a2 b2 ⟨L2,d1,d2,d3⟩;lia
   case post2 =>
    intro o2 i2 j2 m2 a2 b2 st3 sm3 hI2;dsimp only;exact sgb fun st4 sm4'=>Ah ⟨sm3.trans sm4',_,_,_,_,hI2.1,hI2.2.1,hI2.2.2.1,Vc (AI (hI.2.2.2) hI'.2.2.2) hI2.2.2.2⟩
   case step2 =>
    intro y o2 i2 j2 m2 a2 b2 st3 sm3 hI2;have L2:=hI2.1;have d1:=hI2.2.1;have d2:=hI2.2.2.1;have d3:=hI2.2.2.2;dsimp only;generalize m2-1=m1;revert m1;apply pJ;intro m3;refine sgb fun st4 sm4'=>elb d2 fun yv hy=>?_;have sm4:Sm st st4:=sm3.trans sm4';have hk4:kindOf st4=k:=sm4.kind.trans hk;refine glob C hk4 T.sa T.ba (T.bb _ (Wb hy)) (left:=false) (base:=i2) (n:=(ar f α).size-i2) (hint:=0) (by lia) (by lia) fun u hu tr fs=>?_
    have L3:=L2.as C hy (u:=u) fun p g z1 z2 z3=>by simpa[bb]using tr p g z1 z2 z3
    dsimp only;apply oQ (o:=o2) (i:=i2) (I:=fun o i=>Lw f c α β o i j2/\i=i2+u/\i+1<α.length)
    case g=>exact fun hu0=>⟨L2,by lia,d1⟩
    case h=>exact fun _ key=>cG (fun e1=>Ah ⟨sm4,.inl ⟨_,_,L3.lq C T e1⟩⟩) fun e1=>cG (fun e2=>Ah ⟨sm4,.inl ⟨_,_,L3.dq (.inr e2)⟩⟩) fun e2=>key _ _ ⟨L3,rfl,by lia⟩
    intro o i hJ;have L3:=hJ.1;have hi:=hJ.2.1;have hl:=Be hJ.2.2;have L4:=L3.bv C hl hy fun x hx=>by simpa[bb]using fs i x (by lia) (by lia) hx
    refine elk hy ?_;generalize hj4:j2+1=j4 at L4 ⊢;generalize o.push (f yv)=o4 at L4 ⊢;refine cG (fun e3=>Ah ⟨sm4,.inl ⟨_,_,L4.dq (.inl e3)⟩⟩) fun e3=>elb hl fun xv hx=>?_;refine glob C hk4 T.sb T.bb (T.ba _ (Wb hx)) (left:=true) (base:=j4) (n:=(ar f β).size-j4) (hint:=0) (by lia) (by lia) fun v hv tr2 fs2=>?_
    have L5:=L4.bs C hx (u:=v) fun p g z1 z2 z3=>by simpa[bb]using tr2 p g z1 z2 z3
    dsimp only;apply oQ (o:=o4) (i:=j4) (I:=fun o j=>Lw f c α β o i j/\j=j4+v/\j<β.length)
    case g=>exact fun hv0=>⟨L4,by lia,by lia⟩
    case h=>exact fun _ key=>cG (fun e4=>Ah ⟨sm4,.inl ⟨_,_,L5.dq (.inl e4)⟩⟩) fun e4=>key _ _ ⟨L5,rfl,by lia⟩
    intro o5 j5 hJ5;have hj5:=hJ5.2.1;have hl5:=hJ5.2.2;have L6:=hJ5.1.av C hl5 hx fun y hy=>by simpa[bb]using fs2 j5 y (by lia) (by lia) hy
    refine elk hx (cG (fun e5=>Ah ⟨sm4,.inl ⟨_,_,L6.lq C T e5⟩⟩) fun e5=>?_);have w1:i+1+1<α.length:=BE hJ.2.2 (za ▸ e5);have w2:i'+j'+(y+1)<=i+1+j5:=by lia
    exact fL (fun _=>Ah ⟨sm4,.inr ⟨_,_,_,_,_,_,L6,w1,hl5,Yd (Vl _ _) w2⟩⟩) fun _=>Ah ⟨sm4,_,_,_,_,_,_,L6,w1,hl5,w2⟩
end
end TS
namespace TS
open PySem PyProof.Rows
structure Mh(c:Nat->Nat->Bool)(α β la lb ω:List Nat):Prop where
 so:ω.Pairwise (Bf c)
 sa:la.Pairwise (Bf c)
 sb:lb.Pairwise (Bf c)
 xa:∀g∈la,∀h∈ω,Bf c g h
 xb:∀g∈lb,∀h∈ω,Bf c g h
 tag:∀g∈la,∀h∈lb,g<h
 perm:(la++lb++ω).Perm (α++β)
section
variable {prog:Program}{w:World}{A:Around}{s:Shared}{k:SortKind}{f:Nat->Keyed}{N:Nat}{c:Nat->Nat->Bool}{α β ω la lb:List Nat}{x y:Nat}
def oR{l:List Nat}(h:(l++[x]).Pairwise (Bf c)):l.Pairwise (Bf c)/\∀g∈l,Bf c g x:=by
 have:=Wi.mp h;exact⟨this.1,fun g hg=>this.2.2 g hg x (Yb.mpr rfl)⟩
def Mh.takeA(C:Cm prog w A s k f N c)(J:Mh c α β (la++[x]) (lb++[y]) ω)(h:c y x=true):Mh c α β la (lb++[y]) (x::ω):=by
 have sa:=oR J.sa;have sb:=oR J.sb;refine⟨Zi.mpr ⟨fun g hg=>J.xa x (by simp) g hg,J.so⟩,sa.1,J.sb,fun g hg z hz=>?_,fun g hg z hz=>?_,fun g hg z hz=>J.tag g (by simp[hg]) z hz,?_⟩
 ·rcases Vd.mp hz with rfl|hz
  ·exact sa.2 g hg
  ·exact J.xa g (by simp[hg]) z hz
 ·rcases Vd.mp hz with rfl|hz
  ·rcases Wd.mp hg with hg|hg
   ·exact C.trans (sb.2 g hg) (.inl h)
   ·rw[Yb.mp hg];exact .inl h
  ·exact J.xb g hg z hz
 ·refine List.Perm.trans ?_ J.perm;have p:(la++(lb++[y])++x::ω).Perm (x::(la++(lb++[y])++ω)):=Yl;have q:(la++[x]++(lb++[y])++ω).Perm (x::(la++(lb++[y])++ω)):=by
   rw[Qb la,Qb la];exact List.perm_middle.trans (by rw[Qb la];exact List.Perm.refl _)
  exact p.trans q.symm
def Mh.takeB(C:Cm prog w A s k f N c)(J:Mh c α β (la++[x]) (lb++[y]) ω)(h:c y x=false):Mh c α β (la++[x]) lb (y::ω):=by
 have sa:=oR J.sa;have sb:=oR J.sb;have xy:Bf c x y:=.inr ⟨h,J.tag x (by simp) y (by simp)⟩
 refine⟨Zi.mpr ⟨fun g hg=>J.xb y (by simp) g hg,J.so⟩,J.sa,sb.1,fun g hg z hz=>?_,fun g hg z hz=>?_,fun g hg z hz=>J.tag g hg z (by simp[hz]),?_⟩
 ·rcases Vd.mp hz with rfl|hz
  ·rcases Wd.mp hg with hg|hg
   ·exact C.trans (sa.2 g hg) xy
   ·rw[Yb.mp hg];exact xy
  ·exact J.xa g hg z hz
 ·rcases Vd.mp hz with rfl|hz
  ·exact sb.2 g hg
  ·exact J.xb g (by simp[hg]) z hz
 ·refine List.Perm.trans ?_ J.perm;have e:la++[x]++lb++y::ω=la++[x]++(lb++[y])++ω:=by simp
  rw[e]
theorem Mh.takeAs(C:Cm prog w A s k f N c):∀(n:Nat)(l:List Nat),l.length=n->∀{ω la:List Nat},Mh c α β (la++l) (lb++[y]) ω->(∀g∈l,c y g=true)->Mh c α β la (lb++[y]) (l++ω)
 | 0,l,hn,ω,la,J,_=>by
  obtain rfl:=Yi hn;simpa using J
 | n+1,l,hn,ω,la,J,h=>by
  rcases DF l with rfl|⟨l',x,rfl⟩
  ·simp at hn
  ·rw[DG]at J h hn ⊢;rw[← Qb]at J;have:=Mh.takeAs C n l' (by simpa using hn) (J.takeA C (h x (by simp))) fun g hg=>h g (by simp[hg])
   simpa using this
theorem Mh.takeBs(C:Cm prog w A s k f N c):∀(n:Nat)(l:List Nat),l.length=n->∀{ω lb:List Nat},Mh c α β (la++[x]) (lb++l) ω->(∀g∈l,c g x=false)->Mh c α β (la++[x]) lb (l++ω)
 | 0,l,hn,ω,lb,J,_=>by
  obtain rfl:=Yi hn;simpa using J
 | n+1,l,hn,ω,lb,J,h=>by
  rcases DF l with rfl|⟨l',y,rfl⟩
  ·simp at hn
  ·rw[DG]at J h hn ⊢;rw[← Qb]at J;have:=Mh.takeBs C n l' (by simpa using hn) (J.takeB C (h y (by simp))) fun g hg=>h g (by simp[hg])
   simpa using this
def Mh.doneA(J:Mh c α β la [] ω):Gd c α β (la++ω):=by
 refine⟨Wi.mpr ⟨J.sa,J.so,J.xa⟩,?_⟩;have:=J.perm;rwa [Xc]at this
def Mh.doneB(J:Mh c α β [] lb ω):Gd c α β (lb++ω):=⟨Wi.mpr ⟨J.sb,J.so,J.xb⟩,by have:=J.perm;rwa [Vm]at this⟩
def Mh.firstB(C:Cm prog w A s k f N c)(J:Mh c α β la [y] ω)(h:∀g∈la,c y g=true):Gd c α β ([y]++la++ω):=by
 have J':Mh c α β ([]++la) ([]++[y]) ω:=by simpa using J
 have:=(Mh.takeAs C la.length la rfl J' h).doneB;simpa using this
end
def Hw(f:Nat->Keyed)(c:Nat->Nat->Bool)(α β:List Nat)(o:Array Keyed)(i j:Nat):Prop:=∃ω,o=ar f ω.reverse/\Mh c α β (α.take i) (β.take j) ω
section
variable {prog:Program}{w:World}{A:Around}{E:Value->Shared->Prop}{s:Shared}{k:SortKind}{f:Nat->Keyed}{N:Nat}{c:Nat->Nat->Bool}{α β:List Nat}{o:Array Keyed}{i j x y:Nat}{st:SortSt}
def sP(l:List Nat):(ar f l).reverse=ar f l.reverse:=by simp[ar]
def yj(l:List Nat)(p:Nat):(ar f l).extract 0 p=ar f (l.take p):=by rw[lA];simp
def pK{l:List Nat}(e:l[p]?=some g):l.take (p+1)=l.take p++[g]:=by rw[List.take_succ,e];rfl
def Hw.a(C:Cm prog w A s k f N c)(L:Hw f c α β o (i+1) (j+1))(hx:α[i]?=some x)(hy:β[j]?=some y)(h:c y x=true):Hw f c α β (o.push (f x)) i (j+1):=by
 obtain⟨ω,rfl,J⟩:=L;refine⟨x::ω,by rw[oP,AO],?_⟩
 rw[pK hx]at J;rw[pK hy]at J ⊢;exact J.takeA C h
def Hw.b(C:Cm prog w A s k f N c)(L:Hw f c α β o (i+1) (j+1))(hx:α[i]?=some x)(hy:β[j]?=some y)(h:c y x=false):Hw f c α β (o.push (f y)) (i+1) j:=by
 obtain⟨ω,rfl,J⟩:=L;refine⟨y::ω,by rw[oP,AO],?_⟩
 rw[pK hy]at J;rw[pK hx]at J ⊢;exact J.takeB C h
def uP{l:List Nat}(h:u<=i):l.take i=l.take u++(l.drop u).take (i-u):=by
 rw[List.take_drop,show u+(i - u)=i by lia]
 have:=Xh u (l.take i);rw[List.take_take,Wl h]at this;exact this.symm
def sQ{l:List Nat}(h:g∈(l.drop u).take n):∃p,u<=p/\p<u+n/\l[p]?=some g:=by
 obtain⟨p,hp⟩:=List.mem_iff_getElem?.mp h;rw[A9]at hp;split at hp
 ·rw[Xg]at hp;exact⟨u+p,by lia,by lia,hp⟩
 ·cases hp
def Hw.as(C:Cm prog w A s k f N c)(L:Hw f c α β o i (j+1))(hy:β[j]?=some y)(hu:u<=i)(h:∀p g,u<=p->p<i->α[p]?=some g->c y g=true):Hw f c α β (o++((ar f α).extract u i).reverse) u (j+1):=by
 obtain⟨ω,rfl,J⟩:=L;refine⟨(α.drop u).take (i-u)++ω,by rw[lA,sP,fY,Cg],?_⟩
 rw[pK hy]at J ⊢;rw[uP hu]at J;exact Mh.takeAs C _ _ rfl J fun g hg=>by
  obtain⟨p,p1,p2,p3⟩:=sQ hg;exact h p g p1 (by lia) p3
def Hw.bs(C:Cm prog w A s k f N c)(L:Hw f c α β o (i+1) j)(hx:α[i]?=some x)(hu:u<=j)(h:∀p g,u<=p->p<j->β[p]?=some g->c g x=false):Hw f c α β (o++((ar f β).extract u j).reverse) (i+1) u:=by
 obtain⟨ω,rfl,J⟩:=L;refine⟨(β.drop u).take (j-u)++ω,by rw[lA,sP,fY,Cg],?_⟩
 rw[pK hx]at J ⊢;rw[uP hu]at J;exact Mh.takeBs C _ _ rfl J fun g hg=>by
  obtain⟨p,p1,p2,p3⟩:=sQ hg;exact h p g p1 (by lia) p3
def Hw.dn(L:Hw f c α β o i j)(h:i=0∨j=0):Rt f c α β ((ar f α).extract 0 i++(ar f β).extract 0 j++o.reverse):=by
 obtain⟨ω,rfl,J⟩:=L;rw[yj,yj,sP,List.reverse_reverse,fY,fY];refine⟨_,rfl,?_⟩;rcases h with rfl|rfl
 ·rw[Dd]at J ⊢;rw[Vm];exact J.doneB
 ·rw[Dd]at J ⊢;rw[Xc];exact J.doneA
def Hw.fb(C:Cm prog w A s k f N c)(T:Two c N α β)(L:Hw f c α β o i 1):Rt f c α β ((ar f β).extract 0 1++(ar f α).extract 0 i++o.reverse):=by
 have lb:0<β.length:=Wh.mpr T.nb;have la:0<α.length:=Wh.mpr T.na;obtain⟨y0,hy0⟩:∃y,β[0]?=some y:=⟨_,Ya lb⟩;obtain⟨x0,hx0⟩:∃x,α[0]?=some x:=⟨_,Ya la⟩;have hc:=T.first _ _ hx0 hy0
 obtain⟨ω,rfl,J⟩:=L;rw[yj,yj,sP,List.reverse_reverse,fY,fY];refine⟨_,rfl,?_⟩;have e:β.take 1=[y0]:=by have:=pK hy0;simpa using this
 rw[e]at J ⊢;refine J.firstB C fun g hg=>?_;obtain⟨p,hp⟩:=List.mem_iff_getElem?.mp (Cc hg);by_cases h0:p=0
 ·subst h0;rw[hx0]at hp;cases hp;exact hc
 ·obtain⟨hp1,rfl⟩:=Wc.mp hp;obtain⟨hx1,rfl⟩:=Wc.mp hx0;have b:=C.le (Xk.mp T.sa 0 p hx1 hp1 (by lia))
  rcases C.neg y0 α[p] α[0] hc with q|q
  ·exact q
  ·rw[b]at q;cases q
end
end TS
namespace TS
open PySem PyProof.Rows
def mhi:Array Keyed->Array Keyed->StateT SortSt Sem (Array Keyed):=sortPriv% PySem.Builtin.mergeHi
section
variable {prog:Program}{w:World}{A:Around}{E:Value->Shared->Prop}{s:Shared}{k:SortKind}{f:Nat->Keyed}{N:Nat}{c:Nat->Nat->Bool}{st:SortSt}{α β:List Nat}
def Hw.fc(C:Cm prog w A s k f N c)(T:Two c N α β){o:Array Keyed}(L:Hw f c α β o i j)(h:j=1):Rt f c α β ((ar f β).extract 0 j++(ar f α).extract 0 i++o.reverse):=by subst h;exact L.fb C T
def Hw.bu(C:Cm prog w A s k f N c){o:Array Keyed}(L:Hw f c α β o i j)(h0:0<i)(h1:j=j'+1)(hy:β[j']?=some y)(hl:i-1<α.length)(h:∀x,α[i-1]?=some x->c y x=false):Hw f c α β (o.push (f y)) i j':=by
 subst h1;obtain⟨i,rfl⟩:=Ye (Vj h0);have e:α[i]?=some α[i]:=Ya hl;exact L.b C e hy (h _ e)
def Hw.au(C:Cm prog w A s k f N c){o:Array Keyed}(L:Hw f c α β o i j)(h0:0<i)(h1:0<j)(hx:α[i-1]?=some x)(hl:j-1<β.length)(h:∀y,β[j-1]?=some y->c y x=true):Hw f c α β (o.push (f x)) (i-1) j:=by
 obtain⟨i,rfl⟩:=Ye (Vj h0);obtain⟨j,rfl⟩:=Ye (Vj h1);have e:β[j]?=some β[j]:=Ya hl;exact L.a C hx e (h _ e)
def Hw.bt(C:Cm prog w A s k f N c)(L:Hw f c α β o i j)(h0:0<i)(hx:α[i-1]?=some x)(hu:u<=j)(h:∀p g,u<=p->p<j->β[p]?=some g->c g x=false):Hw f c α β (o++((ar f β).extract u j).reverse) i u:=by
 obtain⟨i,rfl⟩:=Ye (Vj h0);exact L.bs C hx hu h
set_option maxHeartbeats 1000000 in
def MG(C:Cm prog w A s k f N c)(hk:kindOf st=k)(T:Two c N α β)(q:∀o st',Sm st st'->Rt f c α β o->Q o st'):wpS (model prog w) A E s (mhi (ar f α) (ar f β)) Q st:=by
 have la:0<α.length:=Wh.mpr T.na;have lb:0<β.length:=Wh.mpr T.nb;obtain⟨n,hn⟩:∃n,α.length=n+1:=Ye (Vj la);obtain⟨b,hb⟩:∃b,β.length=b+1:=Ye (Vj lb);obtain⟨xl,hxl⟩:∃x,α[n]?=some x:=⟨_,Ya (hn ▸ AW n)⟩;obtain⟨yl,hyl⟩:∃y,β[b]?=some y:=⟨_,Ya (hb ▸ AW b)⟩;have M0:Mh c α β α β []:=⟨List.Pairwise.nil,T.sa,T.sb,fun g hg h hh=>by simp at hh,fun g hg h hh=>by simp at hh,T.tag,by simp⟩
 have L0:Hw f c α β #[] (n+1) (b+1):=⟨[],by simp[ar],by rw[← hn,← hb,List.take_length,List.take_length];exact M0⟩
 have hcl:c yl xl=true:=T.last xl (by rw[hn];exact hxl) yl (Wb hyl)
 have sa:(ar f α).size-1=n:=by rw[f9,hn];rfl
 have sb:(ar f β).size=b+1:=by rw[f9,hb]
 have L1:Hw f c α β #[f xl] ((ar f α).size-1) (ar f β).size:=by rw[sa,sb];have:=L0.a C hxl hyl hcl;simpa using this
 refine Al (B8 (AH ⟨rfl,elk (by rw[sa];exact hxl) ?_⟩))
 refine cG (fun h1=>Ah (q _ _ (Sm.refl _) (L1.dn (.inl h1)))) fun h1=>cG (fun h2=>Ah (q _ _ (Sm.refl _) (L1.fc C T h2))) fun h2=>Al (Bw ?_);have za:(ar f α).size=α.length:=f9 _;refine Ol (Sm st) (Rt f c α β) (fun o i j m=>(i+1,j+1+1,o,m)) (fun x o i j _=>Hw f c α β o (i+1) (j+1+1)/\i<α.length/\j+1<β.length/\x+i+j+3<α.length+β.length) (fun _ _ _ _=>False) ?step ?fin (Sm.refl _) ?init (fun o z st' sm R=>Ah (q _ _ sm R)) fun _ _ _ _ _ _ z=>z.elim
 case init =>
  rw[sa]at h1 L1;rw[sb]at h2 L1;obtain⟨n1,rfl⟩:=Ye h1;obtain⟨b1,rfl⟩:∃m,b=m+1:=Ye fun z=>h2 (by rw[z])
  exact Ex4.of (by rw[sa,sb]) ⟨L1,by lia,by lia,by lia⟩
 case fin =>
  rintro o i j m ⟨L,b1,b2,b3⟩;lia
 case step =>
  intro x o i j m st' sm hI;have hk':kindOf st'=k:=sm.kind.trans hk;dsimp (config:={ zeta:=false,zetaHave:=false }) only;refine Om (fun st2=>st2=st') (Rt f c α β) (fun o' i' j' a b=>(i'+1,j'+1+1,o',a,b)) (fun y o' i' j' _ _=>Hw f c α β o' (i'+1) (j'+1+1)/\i'<α.length/\j'+1<β.length/\y+i'+j'=i+j)
   (fun o' i' j' _ _=>Hw f c α β o' (i'+1) (j'+1+1)/\i'<α.length/\j'+1<β.length/\i'+j'<i+j) ?step1 ?fin1 rfl ?init1 (fun o' z st2 e R=>Ah ⟨e ▸ sm,.inl ⟨o',_,R⟩⟩) ?post1
  case init1=>exact⟨_,_,_,_,_,hI.1,hI.2.1,hI.2.2.1,Nat.zero_add _ ▸ rfl⟩
  case fin1 =>
   rintro o' i' j' a b ⟨L',c1,c2,c3⟩;lia
  case step1 =>
   intro y o' i' j' a b st2 e hI;subst e;have L':=hI.1;have c1:=hI.2.1;have c2:=hI.2.2.1;have c3:=hI.2.2.2;dsimp (config:={ zeta:=false,zetaHave:=false }) only;refine elb c2 fun yv hy=>elb c1 fun xv hx=>Al (uM C hk' (T.bb _ (Wb hy)) (T.ba _ (Wb hx)) ?_);dsimp (config:={ zeta:=false,zetaHave:=false }) only;refine fL (fun hc=>?_) fun hc=>?_
   ·have L2:=L'.a C hx hy hc;refine elk hx (cG (fun e1=>Ah ⟨rfl,.inl ⟨_,_,L2.dn (.inl e1)⟩⟩) fun e1=>?_);obtain⟨i1,rfl⟩:=Ye e1;have c1':i1<α.length:=Be c1;exact fL (fun _=>Ah ⟨rfl,.inr ⟨_,i1,j',_,_,L2,c1',c2,by lia⟩⟩) fun _=>Ah ⟨rfl,_,i1,j',_,_,L2,c1',c2,by lia⟩
   ·have L2:=L'.b C hx hy (Bool.eq_false_iff.mpr hc);refine elk hy (cG (fun e1=>Ah ⟨rfl,.inl ⟨_,_,L2.fc C T e1⟩⟩) fun e1=>?_);obtain⟨j1,rfl⟩:∃m,j'=m+1:=Ye fun z=>e1 (by rw[z])
    have c2':j1+1<β.length:=Be c2;exact fL (fun _=>Ah ⟨rfl,.inr ⟨_,i',j1,_,_,L2,c1,c2',by lia⟩⟩) fun _=>Ah ⟨rfl,_,i',j1,_,_,L2,c1,c2',by lia⟩
  case post1 =>
   intro o' i' j' a b st2 e hI';subst e;dsimp (config:={ zeta:=false,zetaHave:=false }) only;refine Al (B8 (AH ⟨rfl,?_⟩));refine On (Sm st) (Rt f c α β) (fun o2 i2 j2 m2 a2 b2=>(i2,j2,o2,m2,a2,b2)) (fun y o2 i2 j2 _ _ _=>Hw f c α β o2 i2 j2/\0<i2/\i2<=α.length/\1<j2/\j2<=β.length/\i2+j2+y<=i'+1+(j'+1+1))
    (fun o2 i2 j2 _ _ _=>Hw f c α β o2 i2 j2/\0<i2/\i2<=α.length/\1<j2/\j2<=β.length/\i2+j2<=i'+1+(j'+1+1)) ?step2 ?fin2 sm ?init2 (fun o' z st2 sm R=>Ah ⟨sm,.inl ⟨o',_,R⟩⟩) ?post2
   case init2=>exact⟨_,_,_,_,_,_,hI'.1,Nat.succ_pos _,hI'.2.1,Nat.succ_lt_succ (Nat.succ_pos _),hI'.2.2.1,Va _⟩
   case fin2 =>
    rintro o2 i2 j2 m2 a2 b2 ⟨L2,d1,d2,d3,d4,d5⟩;have:=hI'.2.1;have:=hI'.2.2.1;lia
   case post2 =>
    intro o2 i2 j2 m2 a2 b2 st3 sm3 hI2;dsimp only;refine sgb fun st4 sm4'=>Ah ⟨sm3.trans sm4',?_⟩;obtain⟨L2,d1,d2,d3,d4,d5⟩:=hI2;obtain⟨i3,rfl⟩:=Ye (Vj d1);obtain⟨j3,rfl⟩:∃m,j2=m+1+1:=⟨j2-2,by lia⟩
    have:=hI.2.2.2;have:=hI'.2.2.2;exact⟨_,i3,j3,_,L2,d2,d4,by lia⟩
   case step2 =>
    intro y o2 i2 j2 m2 a2 b2 st3 sm3 hI2;have L2:=hI2.1;have d1:=hI2.2.1;have d2:=hI2.2.2.1;have d3:=hI2.2.2.2.1;have d4:=hI2.2.2.2.2.1;have d5:=hI2.2.2.2.2.2;dsimp only;generalize hj3:j2-1=j3;have ej:j2=j3+1:=by lia
    have hjl:j3<β.length:=by lia
    generalize m2-1=m1;revert m1;apply pJ;intro m3;refine sgb fun st4 sm4'=>elb hjl fun yv hy=>?_;have sm4:Sm st st4:=sm3.trans sm4';have hk4:kindOf st4=k:=sm4.kind.trans hk;refine glob C hk4 T.sa T.ba (T.bb _ (Wb hy)) (left:=false) (by lia) (CO d1) fun u hu tr fs=>?_
    have L3:=(ej ▸ L2:Hw f c α β o2 i2 (j3+1)).as C hy hu fun p g z1 z2 z3=>by simpa[bb]using fs p g (by lia) (by lia) z3
    rw[← ej]at L3;dsimp only;generalize hk1:i2-u=k1;apply oQ (o:=o2) (i:=i2) (I:=fun o i=>Hw f c α β o i j2/\i=u/\0<i)
    case g=>exact fun hu0=>⟨L2,by lia,d1⟩
    case h=>exact fun _ key=>cG (fun e1=>Ah ⟨sm4,.inl ⟨_,_,L3.dn (.inl e1)⟩⟩) fun e1=>key _ u ⟨L3,rfl,BD e1⟩
    rintro o i ⟨L3,hi,hl⟩;have hj0:0<j3:=by lia
    have hi2:i-1<i:=CO hl;have hiu:i<=i2:=hi ▸ hu;have hia:i-1<α.length:=Vc hi2 (Yd hiu d2);have L4:=L3.bu C hl ej hy hia fun x hx=>by simpa[bb]using tr _ x (Xl _) (by lia) hx
    refine elk hy ?_;generalize o.push (f yv)=o4 at L4 ⊢;refine cG (fun e3=>Ah ⟨sm4,.inl ⟨_,_,L4.fc C T e3⟩⟩) fun e3=>elb hia fun xv hx=>?_;refine glob C hk4 T.sb T.bb (T.ba _ (Wb hx)) (left:=true) (base:=0) (n:=j3) (by lia) (CO hj0) fun v hv tr2 fs2=>?_
    have L5:=L4.bt C hl hx hv fun p g z1 z2 z3=>by simpa[bb]using fs2 p g (by lia) (by lia) z3
    dsimp only;generalize hk2:j3-v=k2;apply oQ (o:=o4) (i:=j3) (I:=fun o j=>Hw f c α β o i j/\j=v/\1<j)
    case g=>exact fun hv0=>⟨L4,by lia,by lia⟩
    case h=>exact fun _ key=>cG (fun e4=>Ah ⟨sm4,.inl ⟨_,_,L5.fc C T e4⟩⟩) fun e4=>cG (fun e7=>Ah ⟨sm4,.inl ⟨_,_,L5.dn (.inr e7)⟩⟩) fun e7=>key _ v ⟨L5,rfl,by lia⟩
    rintro o5 j5 ⟨L5,hj5,hl5⟩;have hj7:0<j5:=Be hl5;have hj6:j5-1<β.length:=by lia
    have L6:=L5.au C hl hj7 hx hj6 fun y hy=>by simpa[bb]using tr2 _ y (Xl _) (by lia) hy
    refine elk hx (cG (fun e5=>Ah ⟨sm4,.inl ⟨_,_,L6.dn (.inl e5)⟩⟩) fun e5=>?_);have w1:=BD e5;have w3:j5<=β.length:=by lia
    have w2:i-1+j5+(y+1)<=i'+1+(j'+1+1):=by lia
    exact fL (fun _=>Ah ⟨sm4,.inr ⟨_,_,_,_,_,_,L6,w1,Qk hia,hl5,w3,Yd (Vl _ _) w2⟩⟩) fun _=>Ah ⟨sm4,_,_,_,_,_,_,L6,w1,Qk hia,hl5,w3,w2⟩
end
end TS
namespace TS
open PySem PyProof.Rows
theorem uQ(sa:Nat):∀(ms:List α)(j:Nat)(x:Array α),sa+j+ms.length<=x.size ->
  ((ms.zipIdx j).foldl (fun a (p:α×Nat)=>a.setIfInBounds (sa+p.2) p.1) x).toList=x.toList.take (sa+j)++ms++x.toList.drop (sa+j+ms.length)
 | [],j,x,_=>by simp
 | m::ms,j,x,h=>by
  rw[Yc]at h;rw[Bo,C7,uQ sa ms (j+1) _ (by rw[Array.size_setIfInBounds];lia)]
  have hl:sa+j<x.toList.length:=by rw[Xd];lia
  have e:(x.setIfInBounds (sa+j) m).toList=x.toList.set (sa+j) m:=by simp
  have e1:(x.toList.set (sa+j) m).take (sa+(j+1))=x.toList.take (sa+j)++[m]:=by
   rw[show sa+(j+1)=sa+j+1 by lia,List.take_succ,List.take_set_of_le (Va _),BV hl];rfl
  have e2:(x.toList.set (sa+j) m).drop (sa+(j+1)+ms.length)=x.toList.drop (sa+j+(ms.length+1)):=by
   rw[List.drop_set_of_lt (by lia),show sa+(j+1)+ms.length=sa+j+(ms.length+1) by lia]
  rw[e,e1,e2,Yc];simp
def pc(γ:Array Nat)(lo n:Nat):List Nat:=(γ.toList.drop lo).take n
section
variable {prog:Program}{w:World}{A:Around}{E:Value->Shared->Prop}{s:Shared}{k:SortKind}{f:Nat->Keyed}{N:Nat}{c:Nat->Nat->Bool}{st:SortSt}{γ:Array Nat}
def lB{lo n:Nat}(h:lo+n<=γ.size):(pc γ lo n).length=n:=by
 unfold pc;rw[Zg,Zf,Xd];lia
def yk{lo n i:Nat}(h:i<n):(pc γ lo n)[i]?=γ[lo+i]?:=by
 unfold pc;rw[A9,Ag h,Xg];simp
def pL(lo:Nat)(n m:Nat):pc γ lo (n+m)=pc γ lo n++pc γ (lo+n) m:=by
 unfold pc;rw[List.take_add,Bi]
def yn{lo n:Nat}(sg:Sg c γ lo (lo+n)):(pc γ lo n).Pairwise (Bf c):=by
 rw[Xk];intro i j hi hj hij;have li:i<n:=by have:=List.length_take_le n (γ.toList.drop lo);unfold pc at hi;lia
 have lj:j<n:=by have:=List.length_take_le n (γ.toList.drop lo);unfold pc at hj;lia
 exact sg (lo+i) (lo+j) _ _ (by lia) (by lia) (by lia) (by rw[← yk li];exact Ya hi) (by rw[← yk lj];exact Ya hj)
def gG{lo n g:Nat}(h:g∈pc γ lo n):∃i,lo<=i/\i<lo+n/\γ[i]?=some g:=by
 obtain⟨p,h1,h2,h3⟩:=sQ h;exact⟨p,h1,h2,by simpa using h3⟩
def KD(lo n:Nat):(γ.map f).extract lo (lo+n)=ar f (pc γ lo n):=by
 have e:γ.map f=ar f γ.toList:=by simp[ar]
 rw[e,lA,show lo+n - lo=n by lia];rfl
theorem Os(C:Cm prog w A s k f N c){lo n:Nat}(sg:Sg c γ lo (lo+n))(left:Bool)(t:Nat):Mo c left t lo n γ:=by
 intro i j g h p1 p2 p3 e1 e2 z;have b:=C.le (sg i j g h p1 p2 p3 e1 e2);cases left with
 | false =>
  simp only[bb,Xf,if_false,Bool.not_eq_true']at z ⊢;cases z2:c t g with
  | false=>rfl
  | true =>
   rcases C.neg t h g z2 with q|q
   ·rw[z]at q;cases q
   ·rw[b]at q;cases q
 | true =>
  simp only[bb,if_true]at z ⊢;rcases C.neg h g t z with q|q
  ·rw[b]at q;cases q
  ·exact q
def whole{lo n:Nat}(h:lo+n<=γ.size):γ.toList=γ.toList.take lo++pc γ lo n++γ.toList.drop (lo+n):=by
 unfold pc;rw[← Bi,Qb,Xh,Xh]
def zV{lo n:Nat}(h:lo+n<=γ.size){X:List Nat}(p:X.Perm (pc γ lo n)){γ':Array Nat}(e:γ'.toList=γ.toList.take lo++X++γ.toList.drop (lo+n)) :
  γ'.Perm γ/\Out γ γ' lo (lo+n)/\(∀i,i<n->γ'[lo+i]?=X[i]?):=by
 have hX:X.length=n:=by rw[p.length_eq,lB h]
 have hlo:(γ.toList.take lo).length=lo:=by rw[Zg,Xd];lia
 have hg:∀i:Nat,γ'[i]?=γ'.toList[i]?:=fun i=>Vk.symm;have hg2:∀i:Nat,γ[i]?=γ.toList[i]?:=fun i=>Vk.symm;refine⟨?_,fun i hi=>?_,fun i hi=>?_⟩
 ·rw[Array.perm_iff_toList_perm,e]
  conv=>rhs;rw[whole h]
  exact(p.append_left _).append_right _
 ·rw[hg,hg2,e];rcases hi with hi|hi
  ·rw[Qb,Vi (by lia),A9,Ag hi]
  ·rw[Yh (by rw[Xa];lia),Xa,hlo,hX,Xg]
   congr 1;lia
 ·rw[hg,e,Qb,Yh (by lia),hlo,Vi (by lia)]
  congr 1;lia
def MH{lo n:Nat}{X:List Nat}{γ':Array Nat}(hX:X.length=n)(at':∀i,i<n->γ'[lo+i]?=X[i]?)(pw:X.Pairwise (Bf c)):Sg c γ' lo (lo+n):=by
 intro i j g h p1 p2 p3 e1 e2;have e1':X[i - lo]?=some g:=by rw[← at' (i - lo) (by lia),show lo+(i - lo)=i by lia];exact e1
 have e2':X[j - lo]?=some h:=by rw[← at' (j - lo) (by lia),show lo+(j - lo)=j by lia];exact e2
 obtain⟨hi,rfl⟩:=Wc.mp e1';obtain⟨hj,rfl⟩:=Wc.mp e2';exact Xk.mp pw _ _ hi hj (by lia)
def MI{lo n:Nat}{X:List Nat}{γ':Array Nat}(at':∀i,i<n->γ'[lo+i]?=X[i]?)(ow:∀g∈X,lo<=g/\g<lo+n):Ow γ' lo (lo+n):=by
 intro i g p1 p2 e;refine ow g (Wb (i:=i-lo) ?_);rw[← at' (i - lo) (by lia),show lo+(i - lo)=i by lia];exact e
end
end TS
namespace TS
open PySem PyProof.Rows
def mat:Nat->StateT SortSt Sem Bool:=sortPriv% PySem.Builtin.mergeAt
section
variable {prog:Program}{w:World}{A:Around}{E:Value->Shared->Prop}{s:Shared}{k:SortKind}{f:Nat->Keyed}{N:Nat}{c:Nat->Nat->Bool}{st:SortSt}{γ:Array Nat}
def IN{σ:Type}{st' st0:σ}{Q:PUnit->σ->Prop}(h:Q ⟨⟩ st'):wpS (model prog w) A E s (set st':StateT σ Sem PUnit) Q st0:=by
 unfold wpS;rw[StateT.run_set];exact Ad ⟨rfl,h⟩
def Gb(e:γ[i]?=some g)(q:Q (f g) st):wpS (model prog w) A E s (elem' (γ.map f) i) Q st:=by
 rw[elem'_eq,BI,e];exact Ah q
def Gc(C:Cm prog w A s k f N c)(hk:kindOf st=k)(ht:t<N)(hb:∀(i g:Nat),γ[i]?=some g->g<N)(hs:base+n<=γ.size)(hh:hint<n)(sg:Sg c γ base (base+n))
  (q:∀m,m<=n->Tr c left t base γ m->Fs c left t base n γ m->Q (some m) st) :
  wpS (model prog w) A E s ((sortPriv% PySem.Builtin.gallop) left (f t) (γ.map f) base n hint) Q st:=F9 C hk ht hb hs hh (Os C sg left t) q
structure Mtd(k:SortKind)(f:Nat->Keyed)(N:Nat)(c:Nat->Nat->Bool)(γ:Array Nat)(lo n:Nat)(st':SortSt)(γ':Array Nat):Prop where
 rp:Rp k f N st' γ'
 sg:Sg c γ' lo (lo+n)
 ow:Ow γ' lo (lo+n)
 out:Out γ γ' lo (lo+n)
def MJ(C:Cm prog w A s k f N c)(R:Rp k f N st γ){i sa na p1 nb p2:Nat}(e1:(pendingOf st)[i]?=some (sa,na,p1))(e2:(pendingOf st)[i+1]?=some (sa+na,nb,p2))(ha:1<=na)(hb:1<=nb)(hN:sa+na+nb<=N)
  (ga:Sg c γ sa (sa+na))(oa:Ow γ sa (sa+na))(gb:Sg c γ (sa+na) (sa+na+nb))(ob:Ow γ (sa+na) (sa+na+nb))
  {Q:Bool->SortSt->Prop} (q:∀st' γ',Mtd k f N c γ sa (na+nb) st' γ'->pendingOf st'=((pendingOf st).setIfInBounds i (sa,na+nb,p1)).eraseIdxIfInBounds (i+1)->Q true st') :
  wpS (model prog w) A E s (mat i) Q st:=by
 have hsz:=R.size;have bnd:∀(i g:Nat),γ[i]?=some g->g<N:=fun i g e=>R.bnd e;obtain⟨t,ht⟩:=jR (γ:=γ) (i:=sa+na) (by lia)
 obtain⟨x,hx⟩:=jR (γ:=γ) (i:=sa+na-1) (by lia)
 have tN:=bnd _ _ ht;have xN:=bnd _ _ hx;have tagab:∀i j g h,sa<=i->i<sa+na->sa+na<=j->j<sa+na+nb->γ[i]?=some g->γ[j]?=some h->g<h:=fun i j g h a1 a2 a3 a4 z1 z2=>by
  have:=oa i g a1 a2 z1;have:=ob j h a3 a4 z2;lia
 have tb:∀j h,sa+na<=j->j<sa+na+nb->γ[j]?=some h->c h t=false:=fun j h a3 a4 z=>by
  by_cases hj:j=sa+na
  ·subst hj;rw[ht]at z;cases z;exact C.irr _
  ·exact C.le (gb (sa+na) j t h (Va _) (by lia) a4 ht z)
 have ax:∀i g,sa<=i->i<sa+na->γ[i]?=some g->c x g=false:=fun i g a1 a2 z=>by
  by_cases hi:i=sa+na-1
  ·subst hi;rw[hx]at z;cases z;exact C.irr _
  ·exact C.le (ga i (sa+na-1) g x a1 (by lia) (by lia) z hx)
 have idle:(∀i j g h,sa<=i->i<sa+na->sa+na<=j->j<sa+na+nb->γ[i]?=some g->γ[j]?=some h->c h g=false)->∀st1,arrOf st1=arrOf st->kindOf st1=kindOf st->failedOf st1=failedOf st->Mtd k f N c γ sa (na+nb) st1 γ:=fun hc st1 a1 k1 f1=>by
  refine⟨⟨a1.trans R.arr,k1.trans R.kind,f1.trans R.fine,R.perm⟩,fun i j g h z1 z2 z3 z4 z5=>?_,fun i g z1 z2 z3=>?_,Out.refl _ _ _⟩
  ·by_cases hi:i<sa+na
   ·by_cases hj:j<sa+na
    ·exact ga i j g h z1 z2 hj z4 z5
    ·exact .inr ⟨hc i j g h z1 hi (by lia) (by lia) z4 z5,tagab i j g h z1 hi (by lia) (by lia) z4 z5⟩
   ·exact gb i j g h (by lia) z2 (by lia) z4 z5
  ·by_cases hi:i<sa+na
   ·have:=oa i g z1 hi z3;lia
   ·have:=ob i g (by lia) (by lia) z3;lia
 have ra:(sortPriv% PySem.Builtin.SortState.a) st=γ.map f:=R.arr;refine Al (Bw ?_);dsimp only;rw[e1,e2];dsimp only;refine Al (Aw (Q:=fun _ st1=>arrOf st1=arrOf st/\kindOf st1=kindOf st/\failedOf st1=failedOf st/\pendingOf st1=((pendingOf st).setIfInBounds i (sa,na+nb,p1)).eraseIdxIfInBounds (i+1)) (IN ⟨rfl,rfl,rfl,rfl⟩) ?_);rintro _ st1 ⟨a1,k1,f1,pd1⟩;have hk1:kindOf st1=k:=k1.trans R.kind;rw[ra];refine Al (Gb ht ?_);refine Al (Gc C hk1 tN bnd (left:=false) (base:=sa) (n:=na) (hint:=0) (by lia) (by lia) ga fun u hu tr fs=>?_)
 dsimp only;have tr':∀i g,sa<=i->i<sa+u->γ[i]?=some g->c t g=false:=fun i g z1 z2 z3=>by simpa[bb]using tr i g z1 z2 z3
 have fs':∀i g,sa+u<=i->i<sa+na->γ[i]?=some g->c t g=true:=fun i g z1 z2 z3=>by simpa[bb]using fs i g z1 z2 z3
 by_cases e3:(na-u == 0)=true
 ·refine fQ e3 ?_;have e3':na-u=0:=Ce e3;refine Ah (q st1 γ (idle (fun i j g h z1 z2 z3 z4 z5 z6=>?_) st1 a1 k1 f1) pd1);exact C.letr (tr' i g z1 (by lia) z5) (tb j h z3 z4 z6)
 refine eV e3 ?_;have e3':na-u≠0:=fun z=>e3 (by rw[z];rfl)
 have eu:sa+u+(na-u)=sa+na:=by rw[Bq,Yn hu]
 rw[eu];refine Al (Gb hx ?_);refine Al (Gc C hk1 xN bnd (left:=true) (base:=sa+na) (n:=nb) (hint:=nb-1) (by lia) (by lia) gb fun v hv tr2 fs2=>?_)
 dsimp only;have tr2':∀i g,sa+na<=i->i<sa+na+v->γ[i]?=some g->c g x=true:=fun i g z1 z2 z3=>by simpa[bb]using tr2 i g z1 z2 z3
 have fs2':∀i g,sa+na+v<=i->i<sa+na+nb->γ[i]?=some g->c g x=false:=fun i g z1 z2 z3=>by simpa[bb]using fs2 i g z1 z2 z3
 by_cases e4:(v == 0)=true
 ·refine fQ e4 ?_;have e4':v=0:=Ce e4;refine Ah (q st1 γ (idle (fun i j g h z1 z2 z3 z4 z5 z6=>?_) st1 a1 k1 f1) pd1);exact C.letr (ax i g z1 z2 z5) (fs2' j h (by lia) z4 z6)
 refine eV e4 ?_;have e4':v≠0:=fun z=>e4 (by rw[z];rfl)
 have ex:(γ.map f).extract (sa+u) (sa+na)=ar f (pc γ (sa+u) (na-u)):=by
  have:=KD (γ:=γ) (f:=f) (sa+u) (na-u);rwa [eu]at this
 have ey:(γ.map f).extract (sa+na) (sa+na+v)=ar f (pc γ (sa+na) v):=KD _ _;rw[ex,ey];have T:Two c N (pc γ (sa+u) (na-u)) (pc γ (sa+na) v):=by
  refine⟨yn fun i j g h z1 z2 z3=>ga i j g h (by lia) z2 (by lia),yn fun i j g h z1 z2 z3=>gb i j g h z1 z2 (by lia),fun g hg h hh=>?_,fun g hg=>?_,fun g hg=>?_,fun z=>?_,fun z=>?_,fun x' y' z1 z2=>?_,fun x' z1 g hg=>?_⟩
  ·obtain⟨i,y1,y2,y3⟩:=gG hg;obtain⟨j,y4,y5,y6⟩:=gG hh;exact tagab i j g h (by lia) (by lia) y4 (by lia) y3 y6
  ·obtain⟨i,y1,y2,y3⟩:=gG hg;exact bnd i g y3
  ·obtain⟨i,y1,y2,y3⟩:=gG hg;exact bnd i g y3
  ·have:=lB (γ:=γ) (lo:=sa+u) (n:=na-u) (by lia)
   rw[z]at this;simp at this;lia
  ·have:=lB (γ:=γ) (lo:=sa+na) (n:=v) (by lia)
   rw[z]at this;simp at this;lia
  ·rw[yk (by lia)]at z1 z2
   rw[Dw]at z1 z2;rw[ht]at z2;cases z2;exact fs' (sa+u) x' (Va _) (by lia) z1
  ·rw[lB (by lia),yk (Nat.sub_lt (BD e3') Nat.one_pos),show sa+u+(na - u - 1)=sa+na - 1 by rw[← Nat.add_sub_assoc (BD e3'),eu],hx]at z1
   cases z1;obtain⟨i,y1,y2,y3⟩:=gG hg;exact tr2' i g y1 y2 y3
 have fin:∀(o:Array Keyed)(st2:SortSt),Sm st1 st2->Rt f c (pc γ (sa+u) (na-u)) (pc γ (sa+na) v) o->∀st3:SortSt,arrOf st3=o.toList.zipIdx.foldl (fun a (p:Keyed×Nat)=>a.setIfInBounds (sa+u+p.2) p.1) (arrOf st2)->kindOf st3=kindOf st2->pendingOf st3=pendingOf st2->failedOf st3=failedOf st2 ->
   ∃γ',Mtd k f N c γ sa (na+nb) st3 γ':=fun o st2 sm2 rt st3 a3 k3 _ f3=>by
  obtain⟨l,rfl,gd⟩:=rt;have hl:l.length=na-u+v:=by rw[gd.2.length_eq,Xa,lB (by lia),lB (by lia)]
  have sp:pc γ sa (na+nb)=pc γ sa u++(pc γ (sa+u) (na-u)++pc γ (sa+na) v)++pc γ (sa+na+v) (nb-v):=by
   have h1:na+nb=u+((na-u)+(v+(nb-v))):=by rw[Yn hv,← Bq,Yn hu]
   rw[h1,pL,pL (sa+u),pL (sa+u+(na - u)),eu];simp
  have pX:(pc γ sa u++l++pc γ (sa+na+v) (nb-v)).Perm (pc γ sa (na+nb)):=by
   rw[sp];exact(gd.2.append_left _).append_right _
  have hX:(pc γ sa u++l++pc γ (sa+na+v) (nb-v)).length=na+nb:=by rw[pX.length_eq,lB (by lia)]
  let γ':Array Nat:=(γ.toList.take sa++(pc γ sa u++l++pc γ (sa+na+v) (nb-v))++γ.toList.drop (sa+(na+nb))).toArray
  have eγ:γ'.toList=γ.toList.take sa++(pc γ sa u++l++pc γ (sa+na+v) (nb-v))++γ.toList.drop (sa+(na+nb)):=rfl;obtain⟨n1,n2,n3⟩:=zV (γ:=γ) (lo:=sa) (n:=na+nb) (by lia) pX eγ
  have pw:(pc γ sa u++l++pc γ (sa+na+v) (nb-v)).Pairwise (Bf c):=by
   have inl:∀h∈l,(∃i,sa+u<=i/\i<sa+na/\γ[i]?=some h)∨∃j,sa+na<=j/\j<sa+na+v/\γ[j]?=some h:=fun h hh=>by
    rcases Wd.mp (gd.2.mem_iff.mp hh) with hh|hh
    ·obtain⟨i,y1,y2,y3⟩:=gG hh;exact .inl ⟨i,y1,by lia,y3⟩
    ·obtain⟨i,y1,y2,y3⟩:=gG hh;exact .inr ⟨i,y1,y2,y3⟩
   rw[Wi,Wi];refine⟨⟨yn fun i j g h z1 z2 z3=>ga i j g h z1 z2 (by lia),gd.1,fun g hg h hh=>?_⟩,yn fun i j g h z1 z2 z3=>gb i j g h (by lia) z2 (by lia),fun g hg h hh=>?_⟩
   ·obtain⟨i,y1,y2,y3⟩:=gG hg;rcases inl h hh with⟨j,y4,y5,y6⟩|⟨j,y4,y5,y6⟩
    ·exact ga i j g h y1 (by lia) y5 y3 y6
    ·exact .inr ⟨C.letr (tr' i g y1 y2 y3) (tb j h y4 (by lia) y6),tagab i j g h y1 (by lia) y4 (by lia) y3 y6⟩
   ·obtain⟨j,y4,y5,y6⟩:=gG hh;rcases Wd.mp hg with hg|hg
    ·obtain⟨i,y1,y2,y3⟩:=gG hg;exact .inr ⟨C.letr (ax i g y1 (by lia) y3) (fs2' j h y4 (by lia) y6),tagab i j g h y1 (by lia) (by lia) (by lia) y3 y6⟩
    ·rcases inl g hg with⟨i,y1,y2,y3⟩|⟨i,y1,y2,y3⟩
     ·exact .inr ⟨C.letr (ax i g (by lia) y2 y3) (fs2' j h y4 (by lia) y6),tagab i j g h (by lia) y2 (by lia) (by lia) y3 y6⟩
     ·exact gb i j g h y1 (by lia) (by lia) y3 y6
  refine⟨γ',⟨?_,(k3.trans sm2.kind).trans hk1,(f3.trans sm2.fine).trans (f1.trans R.fine),n1.trans R.perm⟩,MH hX n3 pw,MI n3 fun g hg=>?_,n2⟩
  ·have ar1:arrOf st2=γ.map f:=(sm2.arr.trans a1).trans R.arr;rw[a3,ar1];apply Array.toList_inj.mp;have:=uQ (sa+u) (ar f l).toList 0 (γ.map f) (by rw[Dj,hsz];simp[ar,hl];lia)
   rw[Dw]at this;rw[this];have el:(ar f l).toList=l.map f:=by simp[ar]
   rw[el,Za,hl,Array.toList_map,Array.toList_map,eγ];rw[← Co,← Br,← Zc,← Zc];congr 1;have t1:γ.toList.take (sa+u)=γ.toList.take sa++pc γ sa u:=by
    unfold pc;rw[List.take_add]
   have t2:γ.toList.drop (sa+u+(na-u+v))=pc γ (sa+na+v) (nb-v)++γ.toList.drop (sa+(na+nb)):=by
    unfold pc;have h:=Xh (nb-v) (γ.toList.drop (sa+na+v));rw[Bi,show sa+na+v+(nb - v)=sa+(na+nb) by rw[Bq,Yn hv,Bq]]at h
    rw[show sa+u+(na - u+v)=sa+na+v by rw[← Bq,eu],h]
   rw[t1,t2];simp
  ·have hg':=pX.mem_iff.mp hg;obtain⟨i,y1,y2,y3⟩:=gG hg';by_cases hi:i<sa+na
   ·have:=oa i g y1 hi y3;lia
   ·have:=ob i g (by lia) (by lia) y3;lia
 by_cases e5:na-u<=v
 ·refine fQ e5 ?_;refine Al (MF C hk1 T fun o st2 sm2 rt=>?_);refine Al (Aw (Q:=fun _ st3=>arrOf st3=o.toList.zipIdx.foldl (fun a (p:Keyed×Nat)=>a.setIfInBounds (sa+u+p.2) p.1) (arrOf st2)/\kindOf st3=kindOf st2/\pendingOf st3=pendingOf st2/\failedOf st3=failedOf st2) (Bl ⟨rfl,rfl,rfl,rfl⟩) ?_);rintro _ st3 ⟨a3,k3,p3,f3⟩;obtain⟨γ',M⟩:=fin o st2 sm2 rt st3 a3 k3 p3 f3;refine Al (Bw ?_);have hf:failedOf st3=none:=M.rp.fine;have:=q st3 γ' M (p3.trans (sm2.pend.trans pd1));refine Ah ?_;rw[show((sortPriv% PySem.Builtin.SortState.failed) st3).isNone=true by rw[show(sortPriv% PySem.Builtin.SortState.failed) st3=none from hf];rfl]
  exact this
 ·refine eV e5 ?_;refine Al (MG C hk1 T fun o st2 sm2 rt=>?_);refine Al (Aw (Q:=fun _ st3=>arrOf st3=o.toList.zipIdx.foldl (fun a (p:Keyed×Nat)=>a.setIfInBounds (sa+u+p.2) p.1) (arrOf st2)/\kindOf st3=kindOf st2/\pendingOf st3=pendingOf st2/\failedOf st3=failedOf st2) (Bl ⟨rfl,rfl,rfl,rfl⟩) ?_);rintro _ st3 ⟨a3,k3,p3,f3⟩;obtain⟨γ',M⟩:=fin o st2 sm2 rt st3 a3 k3 p3 f3;refine Al (Bw ?_);have hf:failedOf st3=none:=M.rp.fine;have:=q st3 γ' M (p3.trans (sm2.pend.trans pd1));refine Ah ?_;rw[show((sortPriv% PySem.Builtin.SortState.failed) st3).isNone=true by rw[show(sortPriv% PySem.Builtin.SortState.failed) st3=none from hf];rfl]
  exact this
end
end TS
namespace TS
open PySem PyProof.Rows
def Pk:StateT SortSt Sem Unit:=sortPriv% PySem.Builtin.sortRuns
abbrev Run:=Nat×Nat×Nat
def Cv(c:Nat->Nat->Bool)(γ:Array Nat):Nat->List Run->Nat->Prop
 | a,[],b=>a=b
 | a,r::l,b=>r.1=a/\1<=r.2.1/\Sg c γ a (a+r.2.1)/\Ow γ a (a+r.2.1)/\Cv c γ (a+r.2.1) l b
section
variable {prog:Program}{w:World}{A:Around}{E:Value->Shared->Prop}{s:Shared}{k:SortKind}{f:Nat->Keyed}{N:Nat}{c:Nat->Nat->Bool}{st:SortSt}{γ γ':Array Nat}
theorem Cv.le:∀{l:List Run}{a b:Nat},Cv c γ a l b->a+l.length<=b
 | [],a,b,h=>by cases h;simp
 | r::l,a,b,h=>by
  have:=Cv.le h.2.2.2.2;have:=h.2.1;rw[Yc];lia
theorem Cv.congr:∀{l:List Run}{a b:Nat},Cv c γ a l b->(∀i,a<=i->i<b->γ'[i]?=γ[i]?)->Cv c γ' a l b
 | [],a,b,h,_=>h
 | r::l,a,b,⟨h1,h2,h3,h4,h5⟩,e=>by
  have hb:=Cv.le h5;refine⟨h1,h2,fun i j g h z1 z2 z3 z4 z5=>h3 i j g h z1 z2 z3 (by rw[← e i z1 (by lia)];exact z4) (by rw[← e j (by lia) (by lia)];exact z5),fun i g z1 z2 z3=>h4 i g z1 z2 (by rw[← e i z1 (by lia)];exact z3),Cv.congr h5 fun i z1 z2=>e i (by lia) z2⟩
theorem Cv.app:∀{l m:List Run}{a b:Nat},Cv c γ a (l++m) b↔∃d,Cv c γ a l d/\Cv c γ d m b
 | [],m,a,b=>⟨fun h=>⟨a,rfl,h⟩,fun⟨d,h1,h2⟩=>by cases h1;exact h2⟩
 | r::l,m,a,b=>by
  constructor
  ·rintro⟨h1,h2,h3,h4,h5⟩;obtain⟨d,h6,h7⟩:=Cv.app.mp h5;exact⟨d,⟨h1,h2,h3,h4,h6⟩,h7⟩
  ·rintro⟨d,⟨h1,h2,h3,h4,h6⟩,h7⟩;exact⟨h1,h2,h3,h4,Cv.app.mpr ⟨d,h6,h7⟩⟩
structure Sr(k:SortKind)(f:Nat->Keyed)(N:Nat)(c:Nat->Nat->Bool)(lo:Nat)(δ:Array Nat)(st:SortSt)(γ:Array Nat):Prop where
 rp:Rp k f N st γ
 cv:Cv c γ 0 (pendingOf st).toList lo
 tl:∀i,lo<=i->γ[i]?=δ[i]?
 le:lo<=N
def MK{l:List Run}(h:i+1<l.length):∃l1 r1 r2 l2,l=l1++r1::r2::l2/\l1.length=i:=by
 refine⟨l.take i,l[i],l[i+1],l.drop (i+2),?_,by rw[Zg];lia⟩
 have h1:=Xh i l;rw[Ym (by lia:i<l.length),Ym (by lia:i+1<l.length)]at h1
 exact h1.symm
def zW(l1 l2:List Run)(r1 r2 r:Run):((l1++r1::r2::l2).set l1.length r).eraseIdx (l1.length+1)=l1++r::l2:=by
 rw[List.set_append_right _ _ (Va _),Dv,List.set_cons_zero,List.eraseIdx_append_of_length_le (by lia)]
 congr 1;rw[show l1.length+1 - l1.length=1 by lia];rfl
def uR(C:Cm prog w A s k f N c){lo i:Nat}{δ:Array Nat}(S:Sr k f N c lo δ st γ)(hi:i+1<(pendingOf st).size){Q:Bool->SortSt->Prop}
  (q:∀st' γ',Sr k f N c lo δ st' γ'->(pendingOf st').size+1=(pendingOf st).size->Q true st'):wpS (model prog w) A E s ((sortPriv% PySem.Builtin.mergeAt) i) Q st:=by
 obtain⟨l1,⟨sa,na,p1⟩,⟨sb,nb,p2⟩,l2,hl,hl1⟩:=MK (l:=(pendingOf st).toList) (i:=i) (by rw[Xd];exact hi)
 have cv:=S.cv;rw[hl]at cv;obtain⟨d,c1,c2⟩:=Cv.app.mp cv;obtain⟨h1,h2,h3,h4,h5,h6,h7,h8,h9⟩:=c2;dsimp only at h1 h2 h3 h4 h5 h6 h7 h8 h9;subst h1 h5;have hle:=Cv.le h9;have hN:=S.le;have e1:(pendingOf st)[i]?=some (sa,na,p1):=by rw[← Vk,hl,← hl1,Yh (Va _),Dv];rfl
 have e2:(pendingOf st)[i+1]?=some (sa+na,nb,p2):=by rw[← Vk,hl,← hl1,Yh (by lia),show l1.length+1 - l1.length=1 by lia];rfl
 refine MJ C S.rp e1 e2 h2 h6 (by lia) h3 h4 h7 h8 fun st' γ' M pd=>?_
 have out:∀i,i<sa∨sa+(na+nb)<=i->γ'[i]?=γ[i]?:=M.out;have hp:(pendingOf st').toList=l1++(sa,na+nb,p1)::l2:=by
  rw[pd,Array.toList_eraseIdxIfInBounds,Array.toList_setIfInBounds,hl,← hl1,zW]
 refine q st' γ' ⟨M.rp,?_,fun i z1=>?_,S.le⟩ ?_
 ·rw[hp];refine Cv.app.mpr ⟨sa,c1.congr fun i z1 z2=>out i (.inl z2),rfl,by show 1<=na+nb;lia,M.sg,M.ow,?_⟩
  show Cv c γ' (sa+(na+nb)) l2 lo;rw[← Bq];exact h9.congr fun i z1 z2=>out i (.inr (by lia))
 ·rw[out i (.inr (by lia))];exact S.tl i z1
 ·have a1:(pendingOf st').size=(l1++(sa,na+nb,p1)::l2).length:=by rw[← hp,Xd]
  have a2:(pendingOf st).size=(l1++(sa,na,p1)::(sa+na,nb,p2)::l2).length:=by rw[← hl,Xd]
  rw[a1,a2];simp only[Xa,Yc];lia
theorem Cv.modify(hg:∀r,(g r).1=r.1/\(g r).2.1=r.2.1):∀{l:List Run}{i a b:Nat},Cv c γ a l b->Cv c γ a (l.modify i g) b
 | [],i,a,b,h=>by simpa using h
 | r::l,0,a,b,⟨h1,h2,h3,h4,h5⟩=>by
  rw[List.modify_zero_cons];have:=hg r;exact⟨this.1.trans h1,by rw[this.2];exact h2,by rw[this.2];exact h3,by rw[this.2];exact h4,by rw[this.2];exact h5⟩
 | r::l,i+1,a,b,⟨h1,h2,h3,h4,h5⟩=>by
  rw[List.modify_succ_cons];exact⟨h1,h2,h3,h4,Cv.modify hg h5⟩
def ML(C:Cm prog w A s k f N c)(R:Rp k f N st γ){lo n ok:Nat}(hn:lo+n<=N)(h1:1<=ok)(hok:ok<=n)(sg:Sg c γ lo (lo+ok))(ow:Ow γ lo (lo+ok))(raw:Raw γ (lo+ok) N)
  {Q:Bool->SortSt->Prop}(q:∀(x:Array Keyed)(γ':Array Nat),Rp k f N (setArr st x) γ'->Sg c γ' lo (lo+n)->Ow γ' lo (lo+n)->Raw γ' (lo+n) N->Out γ γ' lo (lo+n)->Q true (setArr st x)) :
  wpS (model prog w) A E s ((sortPriv% PySem.Builtin.binarySort) lo n ok) Q st:=IJ C R hn h1 hok sg ow raw q
def MM(C:Cm prog w A s k f N c)(R:Rp k f N st γ){lo:Nat}(hl:lo<N)(raw:Raw γ lo N)
  {Q:Option Nat->SortSt->Prop}(q:∀n st',1<=n->lo+n<=N->Rn k f N c lo st γ n st'->Q (some n) st'):wpS (model prog w) A E s ((sortPriv% PySem.Builtin.countRun) lo (N-lo)) Q st:=MD C R hl raw q
def Ge{M:Model}{σ γ:Type}{X:StateT σ Sem γ}{B:Nat->StateT σ Sem γ}{p:Prop}{d:Decidable p}{n:Nat}{Q:γ->σ->Prop}{st:σ}(I:Nat->σ->Prop)
  (h:p->(∀n st,I n st->wpS M A E s (B n) Q st)->wpS M A E s X Q st)(g:¬ p->I n st)(hB:∀n st,I n st->wpS M A E s (B n) Q st):wpS M A E s (@ite _ p d X (B n)) Q st:=fL (fun z=>h z hB) fun z=>hB _ _ (g z)
def IO(C:Cm prog w A s k f N c)(R:Rp k f N st γ)(hp:pendingOf st=#[])(raw:Raw γ 0 N){Q:Unit->SortSt->Prop}(q:∀st' γ',Rp k f N st' γ'->Sg c γ' 0 N->Q ⟨⟩ st'):wpS (model prog w) A E s Pk Q st:=by
 have hsz:((sortPriv% PySem.Builtin.SortState.a) st).size=N:=by
  have:=congrArg Array.size R.arr;rw[Dj,R.size]at this;exact this
 refine Al (Bw ?_);dsimp only;rw[hsz];refine Al (Aw (Ax (I:=fun x r st'=>∃lo,r=(none,lo)/\x<=lo/\∃γ',Sr k f N c lo γ' st' γ'/\Raw γ' lo N) (Q:=fun r st'=>r=(none,N)/\∃γ',Sr k f N c N γ' st' γ') ?step ?fin ?init) ?post)
 case init=>exact⟨0,rfl,Va _,γ,⟨R,by rw[hp];rfl,fun _ _=>rfl,Xl _⟩,raw⟩
 case fin =>
  rintro r st' ⟨lo,rfl,hx,γ',S,rw'⟩;have:=S.le;obtain rfl:lo=N:=by lia
  exact⟨rfl,γ',S⟩
 case step =>
  rintro x r st' _ hxN ⟨lo,rfl,hx,γ',S,raw'⟩;dsimp only;by_cases hl:lo ≥ N
  ·refine fQ hl ?_;have:=S.le;obtain rfl:lo=N:=by lia
   exact Ah ⟨rfl,γ',S⟩
  refine eV hl ?_;refine Al (MM C S.rp (by lia) raw' fun n st1 hn1 hn2 rn=>?_)
  dsimp only;apply Ge (n:=n) (I:=fun n st1=>∃γ1,Rp k f N st1 γ1/\pendingOf st1=pendingOf st'/\1<=n/\lo+n<=N/\Sg c γ1 lo (lo+n)/\Ow γ1 lo (lo+n)/\Raw γ1 (lo+n) N/\Out γ' γ1 lo (lo+n))
  case g =>
   obtain⟨xa,γ1,hst1,R1,sg1,ow1,raw1,out1⟩:=rn;exact fun _=>⟨γ1,R1,by rw[hst1],hn1,hn2,sg1,ow1,raw1,out1⟩
  case h =>
   intro hm key;obtain⟨xa,γ1,hst1,R1,sg1,ow1,raw1,out1⟩:=rn;refine Al (B8 (AH ⟨rfl,?_⟩));generalize hm2:min (N-lo) ((sortPriv% PySem.Builtin.minRun) N N 0)=n2;have hn3:n<=n2:=by rw[← hm2];lia
   have hn4:lo+n2<=N:=by rw[← hm2];lia
   exact Al (ML C R1 hn4 hn1 hn3 sg1 ow1 raw1 fun xb γ2b R2 sg2 ow2 raw2 out2=>eV (by decide) (key n2 _ ⟨γ2b,R2,by rw[hst1],Yd hn1 hn3,hn4,sg2,ow2,raw2,fun i hi=>(out2 i hi).trans (out1 i (by lia))⟩))
  clear rn hn1 hn2;intro n st1 hJ;obtain⟨γ1,hJ⟩:=hJ;have R1:=hJ.1;have pd1:=hJ.2.1;have hn1:=hJ.2.2.1;have hn2:=hJ.2.2.2.1;have sg1:=hJ.2.2.2.2.1;have ow1:=hJ.2.2.2.2.2.1;have raw1:=hJ.2.2.2.2.2.2.1;have out1:=hJ.2.2.2.2.2.2.2;refine Al (Bw ?_);have cv1:Cv c γ1 0 (pendingOf st1).toList lo:=by rw[pd1];exact S.cv.congr fun i _ z2=>out1 i (.inl z2)
  have S1:Sr k f N c lo γ1 st1 γ1:=⟨R1,cv1,fun _ _=>rfl,S.le⟩;have push:∀(st2:SortSt)(γ2:Array Nat),Sr k f N c lo γ1 st2 γ2->∀st3:SortSt,arrOf st3=arrOf st2->kindOf st3=kindOf st2->failedOf st3=failedOf st2->pendingOf st3=(pendingOf st2).push (lo,n,0)->∃γ',Sr k f N c (lo+n) γ' st3 γ'/\Raw γ' (lo+n) N:=fun st2 γ2 S2 st3 a3 k3 f3 p3=>by
   refine⟨γ2,⟨⟨a3.trans S2.rp.arr,k3.trans S2.rp.kind,f3.trans S2.rp.fine,S2.rp.perm⟩,?_,fun _ _=>rfl,hn2⟩,fun i z1 z2=>?_⟩
   ·rw[p3,Array.toList_push];refine Cv.app.mpr ⟨lo,S2.cv,rfl,hn1,fun i j g h z1 z2 z3 z4 z5=>?_,fun i g z1 z2 z3=>?_,rfl⟩
    ·exact sg1 i j g h z1 z2 z3 (by rw[← S2.tl i z1];exact z4) (by rw[← S2.tl j (by lia)];exact z5)
    ·exact ow1 i g z1 z2 (by rw[← S2.tl i z1];exact z3)
   ·rw[S2.tl i (by lia)];exact raw1 i z1 z2
  split
  ·rename_i s1 n1 sd hback
   refine Al (Aw (Ax (I:=fun _ r st2=>r=(none,())/\∃γ2,Sr k f N c lo γ1 st2 γ2) (Q:=fun r st2=>r=(none,())/\∃γ2,Sr k f N c lo γ1 st2 γ2) ?step2 ?fin2 ?init2) ?post2)
   case init2=>exact⟨rfl,γ1,S1⟩
   case fin2=>exact fun r st2 h=>h
   case step2 =>
    rintro y r st2 _ _ ⟨rfl,γ2,S2⟩;refine Al (Bw ?_);split
    ·rename_i o1 o2 older hold
     have hsz2:(pendingOf st2).size > 1:=by
      by_cases hz:(pendingOf st2).size > 1
      ·exact hz
      ·rw[Ak hz]at hold;cases hold
     by_cases ho:older<=(sortPriv% PySem.Builtin.power) N (2*s1+n1) (2*s1+n1+n1+n) N
     ·refine fQ ho ?_;exact Ah ⟨rfl,γ2,S2⟩
     ·refine eV ho ?_;refine Al (uR C S2 (i:=(pendingOf st2).size-2) (by lia) fun st3 γ3 S3 _=>?_)
      exact Ah ⟨rfl,γ3,S3⟩
    ·exact Ah ⟨rfl,γ2,S2⟩
   case post2 =>
    rintro r st2 ⟨rfl,γ2,S2⟩;dsimp only;refine Al (Aw (Q:=fun _ st3=>∃γ3,Sr k f N c lo γ1 st3 γ3) (Bl ⟨γ2,⟨S2.rp.arr,S2.rp.kind,S2.rp.fine,S2.rp.perm⟩,?_,S2.tl,S2.le⟩) ?_)
    ·show Cv c γ2 0 ((pendingOf st2).modify ((pendingOf st2).size-1) _).toList lo;rw[Array.toList_modify];refine Cv.modify (g:=fun x=>(x.1,x.2.1,_)) (fun r=>?_) S2.cv;exact⟨rfl,rfl⟩
    rintro _ st3 ⟨γ3,S3⟩;refine Al (Aw (Q:=fun _ st4=>∃γ',Sr k f N c (lo+n) γ' st4 γ'/\Raw γ' (lo+n) N) (Bl (push st3 γ3 S3 _ rfl rfl rfl rfl)) ?_);rintro _ st4 ⟨γ4,S4,raw4⟩;exact Ah ⟨_,rfl,by lia,γ4,S4,raw4⟩
  ·refine Al (Aw (Q:=fun _ st4=>∃γ',Sr k f N c (lo+n) γ' st4 γ'/\Raw γ' (lo+n) N) (Bl (push st1 γ1 S1 _ rfl rfl rfl rfl)) ?_);rintro _ st4 ⟨γ4,S4,raw4⟩;exact Ah ⟨_,rfl,by lia,γ4,S4,raw4⟩
 case post =>
  rintro r st' ⟨rfl,γ',S⟩;dsimp only;refine Al (Aw (Ax (I:=fun x r st2=>r=(none,())/\∃γ2,Sr k f N c N γ' st2 γ2/\(pendingOf st2).size+x<=N) (Q:=fun r st2=>r=(none,())/\∃γ2,Sr k f N c N γ' st2 γ2/\(pendingOf st2).size<=1) ?step3 ?fin3 ?init3) ?post3)
  case init3 =>
   refine⟨rfl,γ',S,?_⟩;have:=S.cv.le;rw[Xd]at this;lia
  case fin3 =>
   rintro r st2 ⟨rfl,γ2,S2,hz⟩;exact⟨rfl,γ2,S2,by lia⟩
  case step3 =>
   rintro y r st2 _ _ ⟨rfl,γ2,S2,hz⟩;refine Al (Bw ?_);by_cases h1:((sortPriv% PySem.Builtin.SortState.pending) st2).size<=1
   ·refine fQ h1 ?_;exact Ah ⟨rfl,γ2,S2,h1⟩
   refine eV h1 ?_;have h1':¬ (pendingOf st2).size<=1:=h1;refine Al (uR C S2 ?_ fun st3 γ3 S3 hs3=>Ah ⟨rfl,γ3,S3,by lia⟩)
   have pick:∀(p:Prop) [Decidable p],(if p then(pendingOf st2).size-2-1 else(pendingOf st2).size-2)+1<(pendingOf st2).size:=fun p _=>by
    split<;>lia
   exact pick _
  case post3 =>
   rintro r st2 ⟨rfl,γ2,S2,hz⟩;dsimp only;refine Ah (q st2 γ2 S2.rp ?_);have cv:=S2.cv;rw[← Xd]at hz;generalize (pendingOf st2).toList=l at cv hz;cases l with
   | nil =>
    have:0=N:=cv;subst this;exact fun i j g h z1 z2 z3=>by lia
   | cons r l =>
    cases l with
    | cons _ _=>simp at hz
    | nil =>
     obtain⟨h1,h2,h3,h4,h5⟩:=cv;have e:0+r.2.1=N:=h5;rw[e]at h3;exact h3
end
end TS
namespace VF
open PySem L2
open Classical in
noncomputable def ltL(lt:D->D->Bool):List D->List D->Bool
 | [],[]=>false
 | [],_::_=>true
 | _::_,[]=>false
 | x::xs,y::ys=>if x=y then ltL lt xs ys else lt x y
noncomputable def ltN:Nat->D->D->Bool
 | 0,_,_=>false
 | _+1,.int i,.int j=>decide (i<j)
 | _+1,.str x,.str y=>decide (x.cps.toList<y.cps.toList)
 | n+1,.tup xs,.tup ys=>ltL (ltN n) xs ys
 | _+1,_,_=>false
def Cp:Nat->D->D->Prop
 | 0,_,_=>False
 | _+1,.int _,.int _=>True
 | _+1,.str _,.str _=>True
 | n+1,.tup xs,.tup ys=>∀(i:Nat) x y,xs[i]?=some x->ys[i]?=some y->Cp n x y
 | _+1,_,_=>False
theorem yo:∀(xs:List D),ltL lt xs xs=false
 | []=>rfl
 | x::xs=>by
  unfold ltL;rw[Ag rfl];exact yo xs
theorem mG:∀(n:Nat)(a:D),ltN n a a=false
 | 0,_=>rfl
 | n+1,a=>by
  cases a with
  | int i=>exact Ae (Int.lt_irrefl i)
  | str x=>exact Ae (List.lt_irrefl _)
  | tup xs=>exact yo xs
  | _=>rfl
structure Or(n:Nat):Prop where
 tri:∀{a b:D},Cp n a b->a=b∨ltN n a b=true∨ltN n b a=true
 tra:∀{a b c:D},Cp n a b->Cp n b c->Cp n a c->ltN n a b=true->ltN n b c=true->ltN n a c=true
abbrev Cl(n:Nat)(xs ys:List D):Prop:=∀(i:Nat) x y,xs[i]?=some x->ys[i]?=some y->Cp n x y
def Cl.tail(h:Cl n (x::xs) (y::ys)):Cl n xs ys:=fun i a b e1 e2=>h (i+1) a b (by simpa using e1) (by simpa using e2)
def Cl.head(h:Cl n (x::xs) (y::ys)):Cp n x y:=h 0 x y rfl rfl
open Classical in
def dB:ltL lt (x::xs) (x::ys)=ltL lt xs ys:=by
 show(if x=x then ltL lt xs ys else lt x x)=_;rw[Ag rfl]
open Classical in
def ck(h:x≠y):ltL lt (x::xs) (y::ys)=lt x y:=by
 show(if x=y then ltL lt xs ys else lt x y)=_;rw[Ak h]
theorem yp(O:Or n):∀{xs ys:List D},Cl n xs ys->xs=ys∨ltL (ltN n) xs ys=true∨ltL (ltN n) ys xs=true
 | [],[],_=>.inl rfl
 | [],_::_,_=>.inr (.inl rfl)
 | _::_,[],_=>.inr (.inr rfl)
 | x::xs,y::ys,h=>by
  by_cases e:x=y
  ·subst e;rw[dB,dB];rcases yp O h.tail with q|q
   ·exact .inl (by rw[q])
   ·exact .inr q
  ·rw[ck e,ck (AN e)];rcases O.tri h.head with q|q
   ·exact absurd q e
   ·exact .inr q
theorem yq(O:Or n):∀{xs ys zs:List D},Cl n xs ys->Cl n ys zs->Cl n xs zs->ltL (ltN n) xs ys=true->ltL (ltN n) ys zs=true->ltL (ltN n) xs zs=true
 | [],[],[],_,_,_,h1,_=>h1
 | [],_::_,[],_,_,_,_,h2=>h2
 | [],_,_::_,_,_,_,_,_=>rfl
 | _::_,[],_,_,_,_,h1,_=>by cases h1
 | _::_,_::_,[],_,_,_,_,h2=>by cases h2
 | x::xs,y::ys,z::zs,c1,c2,c3,h1,h2=>by
  by_cases e1:x=y
  ·subst e1;rw[dB]at h1;by_cases e2:x=z
   ·subst e2;rw[dB]at h2 ⊢;exact yq O c1.tail c2.tail c3.tail h1 h2
   ·rw[ck e2]at h2 ⊢;exact h2
  ·rw[ck e1]at h1;by_cases e2:y=z
   ·subst e2;rw[ck e1];exact h1
   ·rw[ck e2]at h2;have h3:=O.tra c1.head c2.head c3.head h1 h2;have e3:x≠z:=fun e=>by subst e;rw[mG]at h3;cases h3
    rw[ck e3];exact h3
theorem nk:∀n,Or n
 | 0=>⟨fun h=>h.elim,fun h=>h.elim⟩
 | n+1=>by
  have O:=nk n;refine⟨fun {a b} h=>?_,fun {a b c} h1 h2 h3 l1 l2=>?_⟩
  ·cases a with
   | int i =>
    cases b with
    | int j =>
     rcases Int.lt_trichotomy i j with q|q|q
     ·exact .inr (.inl (Af q))
     ·exact .inl (by rw[q])
     ·exact .inr (.inr (Af q))
    | _=>exact h.elim
   | str x =>
    cases b with
    | str y =>
     by_cases q:x.cps.toList<y.cps.toList
     ·exact .inr (.inl (Af q))
     ·by_cases q':y.cps.toList<x.cps.toList
      ·exact .inr (.inr (Af q'))
      ·refine .inl ?_;have:=FC (a:=x) (b:=y) q' q;rw[this]
    | _=>exact h.elim
   | tup xs =>
    cases b with
    | tup ys =>
     rcases yp O h with q|q
     ·exact .inl (by rw[q])
     ·exact .inr q
    | _=>exact h.elim
   | _=>exact h.elim
  ·cases a with
   | int i =>
    cases b with
    | int j =>
     cases c with
     | int k =>
      have q1:=Am l1;have q2:=Am l2;exact Af (Int.lt_trans q1 q2)
     | _=>exact h2.elim
    | _=>exact h1.elim
   | str x =>
    cases b with
    | str y =>
     cases c with
     | str z =>
      have q1:=Am l1;have q2:=Am l2;exact Af (List.lt_trans q1 q2)
     | _=>exact h2.elim
    | _=>exact h1.elim
   | tup xs =>
    cases b with
    | tup ys =>
     cases c with
     | tup zs=>exact yq O h1 h2 h3 l1 l2
     | _=>exact h2.elim
    | _=>exact h1.elim
   | _=>exact h1.elim
theorem yt(h:∀a b,lt a b=true->lt b a=false):∀(xs ys:List D),ltL lt xs ys=true->ltL lt ys xs=false
 | [],[],l=>by cases l
 | [],_::_,_=>rfl
 | _::_,[],l=>by cases l
 | x::xs,y::ys,l=>by
  by_cases e:x=y
  ·subst e;rw[dB]at l ⊢;exact yt h xs ys l
  ·rw[ck e]at l;rw[ck (AN e)];exact h x y l
theorem sR:∀(n:Nat)(a b:D),ltN n a b=true->ltN n b a=false
 | 0,_,_,l=>by cases l
 | n+1,a,b,l=>by
  cases a with
  | int i =>
   cases b with
   | int j =>
    have q:=Am l;exact Ae (by lia)
   | _=>cases l
  | str x =>
   cases b with
   | str y =>
    have q:=Am l;exact Ae (List.lt_asymm q)
   | _=>cases l
  | tup xs =>
   cases b with
   | tup ys=>exact yt (sR n) xs ys l
   | _=>cases l
  | _=>cases l
def Srt(n:Nat)(es:List D):Prop:=es.Pairwise fun a b=>ltN n b a=false
open Classical in
noncomputable def bR(n:Nat)(ds:List D):List D:=if h:∃es:List D,es.Perm ds/\Srt n es then h.choose else ds
def et(n:Nat)(ds:List D):(bR n ds).Perm ds:=by
 unfold bR;split
 ·rename_i h;exact h.choose_spec.1
 ·exact List.Perm.refl _
def CA(n:Nat)(ds:List D):Prop:=∀a∈ds,∀b∈ds,Cp n a b
def CA.neg(h:CA n ds)(ha:a∈ds)(hb:b∈ds)(hc:c∈ds)(l:ltN n a c=true):ltN n a b=true∨ltN n b c=true:=by
 rcases(nk n).tri (h a ha b hb) with q|q|q
 ·subst q;exact .inr l
 ·exact .inl q
 ·exact .inr ((nk n).tra (h b hb a ha) (h a ha c hc) (h b hb c hc) q l)
def eE{ds es:List D}(h:CA n ds)(p:es.Perm ds)(s:Srt n es):es=bR n ds:=by
 have ex:∃es:List D,es.Perm ds/\Srt n es:=⟨es,p,s⟩;have e:bR n ds=ex.choose:=by unfold bR;rw[dif_pos ex]
 obtain⟨p2,s2⟩:=ex.choose_spec;rw[e];refine(p.trans p2.symm).eq_of_pairwise (fun a b ha hb h1 h2=>?_) s s2;rcases(nk n).tri (h a (p.mem_iff.mp ha) b (p2.mem_iff.mp hb)) with q|q|q
 ·exact q
 ·rw[h2]at q;cases q
 ·rw[h1]at q;cases q
end VF
namespace VF
open PySem L2 PySem.SeqAt
open PySem.AutoSeq1 (wpAny_loadPart')
open PySem.MeetsSeq PySem.MeetsSeq2 PySem.MeetsSeq3
def LtAt(A:Around)(s:Shared)(u v:Value)(b:Bool):Prop:=∀(prog:Program)(w:World)(E:Value->Shared->Prop)(Q:Value->Shared->Prop),Q (.bool b) s->wpAny (model prog w) A (richCompare .Lt u v) Q E s
open Classical in
inductive IL(A:Around)(s:Shared)(lt:D->D->Bool):List Value->List Value->List D->List D->Prop where
 | left {ws:List Value} {es:List D}:ws.length=es.length->IL A s lt [] ws [] es
 | right {vs:List Value} {ds:List D}:vs.length=ds.length->IL A s lt vs [] ds []
 | cons {v w:Value} {vs ws:List Value} {d e:D} {ds es:List D}:EqAt A.in1 s v w (decide (d=e))->(d≠e->LtAt A.in1 s v w (lt d e))->IL A s lt vs ws ds es->IL A s lt (v::vs) (w::ws) (d::ds) (e::es)
open Classical in
inductive KL(A:Around)(s:Shared)(lt:D->D->Bool)(n m:Nat)(R:Result->Shared->Prop){α β:Type}(rest:List (Value×Value))(b:Option α×β)(s':Shared):Prop
 | mk (vs ws:List Value) (ds' es':List D) (e1:b.1=none) (e2:s'=s) (hz:rest=vs.zip ws) (hi:IL A s lt vs ws ds' es') (hlen:vs.length+m=ws.length+n) (hR:R (.ok (.ret (.bool (ltL lt ds' es')))) s)
open Classical in
def qD(l b:Addr)(items items2:Array Value)(n n2:Nat)(dd dd2:Option Addr)(sl sl2:Array (Option Value))(lt:D->D->Bool)(ds es:List D) :
  Meets (Builtin.«tuple.__lt__» ⟨[.ref l,.ref b],[]⟩)
   (fun A R s=>s.heap.get? l=some { cls:=.type "tuple",dict:=dd,data:=.seq items n,slots:=sl }/\s.heap.get? b=some { cls:=.type "tuple",dict:=dd2,data:=.seq items2 n2,slots:=sl2 } /\
    IL A s lt items.toList items2.toList ds es/\R (.ok (.ret (.bool (ltL lt ds es)))) s) :=
 .of_wp fun prog w A R s h=>by
  obtain⟨hp,g,d,tk,os⟩:=s;obtain⟨hl,hb,hI,h⟩:=h;have f2:=AutoSeq1.sub_tuple_tuple
  wp_walk using BZ hl,BZ hb,wpAny_forIn_list _ (KL A ⟨hp,g,d,tk,os⟩ lt items.size items2.size R) _
  case turn =>
   rintro⟨y,x⟩ rest b s' ⟨vs,ws,ds',es',hb',rfl,hz,hi,hlen,hR⟩;cases hi with
   | left _=>rw[List.zip_nil_left]at hz;cases hz
   | right _=>rw[List.zip_nil_right]at hz;cases hz
   | @cons v w' vs' ws' d' e' ds2 es2 he hlt hi' =>
    rw[BF]at hz;injection hz with hyx hrest;injection hyx with hy hx;subst hy hx;simp only[Yc]at hlen;refine Aa (he prog w _ _ ?_);by_cases hde:d'=e'
    ·subst hde;rw[Af rfl];rw[dB]at hR
     wp_walk
     exact⟨_,_,_,_,rfl,rfl,hrest,hi',by lia,hR⟩
    ·rw[Ae hde];rw[ck hde]at hR;have hri:=hlt hde prog w
     wp_walk using hri
     exact⟨_,rfl,by simpa using hR⟩
  case fin =>
   rintro⟨b1,b2⟩ s' ⟨vs,ws,ds',es',hb',rfl,hz,hi,hlen,hR⟩;simp only at hb';subst hb';have hv:ltL lt ds' es'=decide (items.size<items2.size):=by
    cases hi with
    | left hl2 =>
     cases es' with
     | nil =>
      simp only[Yg]at hlen hl2;exact(Ae (by lia)).symm
     | cons e0 e1 =>
      simp only[Yg,Yc]at hlen hl2;exact(Af (by lia)).symm
    | right hl2 =>
     cases ds' with
     | nil =>
      simp only[Yg]at hlen hl2;exact(Ae (by lia)).symm
     | cons e0 e1 =>
      simp only[Yg,Yc]at hlen hl2;exact(Ae (by lia)).symm
    | cons _ _ _ =>
     rw[BF]at hz;cases hz
   rw[hv]at hR
   wp_walk
   exact⟨_,rfl,by simpa[Builtin.Tuple.tupleCompareSizes]using hR⟩
  case h =>
   exact⟨items.toList,items2.toList,ds,es,rfl,rfl,rfl,hI,by rw[Xd,Xd,Dx],h⟩
def LtAt.tuples{A:Around}{s:Shared}{items items2:Array Value}(hl:s.heap.IsTuple l items)(hb:s.heap.IsTuple b items2)(hu:A.units<cLine)(hI:IL A s lt items.toList items2.toList ds es) :
  LtAt A s (.ref l) (.ref b) (ltL lt ds es):=fun prog w E Q h=>by
 obtain⟨⟨cls,dd,data,sl⟩,ho,hc,n,hd⟩:=id hl;obtain⟨⟨cls2,dd2,data2,sl2⟩,ho2,hc2,n2,hd2⟩:=id hb;simp only at hc hd hc2 hd2;subst hc hd hc2 hd2;exact richCompare_meets_room (op:=.Lt) ⟨_,ho,rfl⟩ ⟨_,ho2,rfl⟩ PySem.F.slot_tuple_lt PySem.F.entry_tuple_lt (PySem.F.args_tuple_lt_2 _ _) (qD l b items items2 n n2 dd dd2 sl sl2 lt ds es)
  ⟨ho,ho2,hI,show Value.bool (ltL lt ds es)≠Value.notImplemented/\Q (.bool (ltL lt ds es)) s from⟨(fun x=>nomatch x),h⟩⟩ hu
theorem KF{A:Around}:∀{vs ws:List Value}{ds es:List D},vs.length=ds.length->ws.length=es.length ->
  (∀(i:Nat) v w d e,vs[i]?=some v->ws[i]?=some w->ds[i]?=some d->es[i]?=some e->(∀b,(b=true↔d=e)->EqAt A.in1 s v w b)/\(d≠e->LtAt A.in1 s v w (lt d e)))->IL A s lt vs ws ds es
 | [],_,[],_,_,h2,_=>.left h2
 | _::_,[],_::_,[],h1,_,_=>.right h1
 | v::vs,w::ws,d::ds,e::es,h1,h2,h=>by
  obtain⟨a1,a2⟩:=h 0 v w d e rfl rfl rfl rfl;exact .cons (a1 _ (by simp)) a2 (KF (by simpa using h1) (by simpa using h2) fun i v' w' d' e' z1 z2 z3 z4=>h (i+1) v' w' d' e' (by simpa using z1) (by simpa using z2) (by simpa using z3) (by simpa using z4))
 | [],_,_::_,_,h1,_,_=>by simp at h1
 | _::_,_,[],_,h1,_,_=>by simp at h1
 | _::_,[],_::_,_::_,_,h2,_=>by simp at h2
 | _::_,_::_,_::_,[],_,h2,_=>by simp at h2
open Classical in
def uS{A:Around}{u v:Value}{d e:D}(h:EqAt A s u v (decide (d=e)))(b:Bool)(hb:b=true↔d=e):EqAt A s u v b:=by
 have:b=decide (d=e):=by rw[Wf,hb,decide_eq_true_eq]
 rw[this];exact h
theorem RH.ltAt:∀(n:Nat){s:Shared}{d1 d2:D}{u1 u2:Value}{A:Around},Pl n d1->Pl n d2->Cp n d1 d2->RH s.heap u1 d1->RH s.heap u2 d2->A.units+n<cLine->LtAt A s u1 u2 (ltN n d1 d2):=by
 intro n;induction n with
 | zero=>intro s d1 d2 u1 u2 A p;cases p
 | succ n ih =>
  intro s d1 d2 u1 u2 A p1 p2 cp r1 r2 hu;cases r1 with
  | non=>exact cp.elim
  | int i t =>
   cases r2 with
   | int j t'=>exact fun prog w E Q h=>HT.rcLt_int A s i t j t' prog w E Q h
   | _=>exact cp.elim
  | str x t =>
   cases r2 with
   | str y t'=>exact fun prog w E Q h=>(PyProof.Rows.lt_str h:wpAny (model prog w) A (compareOp .Lt (.str x t) (.str y t')) Q E s)
   | _=>exact cp.elim
  | lst _ _ _=>exact cp.elim
  | @tup a its ds t hl f =>
   cases r2 with
   | @tup b its' ds' t' hl' f' =>
    cases p1 with
    | tup p1 =>
    cases p2 with
    | tup p2 =>
    refine LtAt.tuples t t' (by lia) (KF (by simpa using hl) (by simpa using hl') fun i v w d e z1 z2 z3 z4=>?_)
    have z1':its[i]?=some v:=by simpa using z1
    have z2':its'[i]?=some w:=by simpa using z2
    have m1:=p1 d (Wb z3);have m2:=p2 e (Wb z4);have hu':A.in1.units+n<cLine:=by show A.units+1+n<cLine;lia
    exact⟨uS (RH.eqAt n m1 m2 (f i v d z1' z3) (f' i w e z2' z4) hu').1,fun _=>ih m1 m2 (cp i d e z3 z4) (f i v d z1' z3) (f' i w e z2' z4) hu'⟩
   | _=>exact cp.elim
end VF
namespace VF
open PySem L2 PyProof.Rows PySem.SeqAt
def uT(A:Around)(s:Shared)(fl:Bool)(u v:Value)(c:Bool):Prop:=∀(prog:Program)(w:World)(E:Value->Shared->Prop)(Q:Bool->Shared->Prop),Q c s->wpAny (model prog w) A (oneLt' fl u v) Q E s
open Classical in
inductive IK(A:Around)(s:Shared)(b:Bool)(lt:D->D->Bool):Nat->List Value->List Value->List D->List D->Prop where
 | left {i:Nat} {ws:List Value} {es:List D}:ws.length=es.length->IK A s b lt i [] ws [] es
 | right {i:Nat} {vs:List Value} {ds:List D}:vs.length=ds.length->IK A s b lt i vs [] ds []
 | cons {i:Nat} {v w:Value} {vs ws:List Value} {d e:D} {ds es:List D}:EqAt A s v w (decide (d=e))->(d≠e->uT A s (b&&i == 0) v w (lt d e))->IK A s b lt (i+1) vs ws ds es->IK A s b lt i (v::vs) (w::ws) (d::ds) (e::es)
section
variable {prog:Program}{w:World}{A:Around}{E:Value->Shared->Prop}{s:Shared}
def Gf(h:LtAt A s u v c):uT A s false u v c:=fun prog w E Q q=>by
 rw[oneLt'_eq];dsimp only;rw[Ak Bool.noConfusion];exact Aa (h prog w _ _ (Ay q))
theorem yu(fl:Bool):uT A s fl (.int a t) (.int b u) (decide (a<b)):=fun prog w E Q q=>by
 cases fl with
 | true=>exact oneLt_int q
 | false=>exact Gf (fun prog w E Q h=>HT.rcLt_int A s a t b u prog w E Q h) prog w E Q q
theorem yw{a b:Str}(fl:Bool):uT A s fl (.str a t) (.str b u) (decide (a.cps.toList<b.cps.toList)):=fun prog w E Q q=>by
 cases fl with
 | true=>exact oneLt_str q
 | false=>exact Gf (fun prog w E Q h=>(PyProof.Rows.lt_str h:wpAny (model prog w) A (compareOp .Lt (.str a t) (.str b u)) Q E s)) prog w E Q q
inductive KI(A:Around)(s:Shared)(b:Bool)(lt:D->D->Bool)(n m:Nat)(Q:Bool->Shared->Prop)(rest:List ((Value×Value)×Nat))(r:Option Bool×Unit)(s':Shared):Prop
 | mk (i:Nat) (vs ws:List Value) (ds' es':List D) (e1:s'=s) (e2:r=(none,())) (hz:rest=(vs.zip ws).zipIdx i) (hi:IK A s b lt i vs ws ds' es') (hlen:vs.length+m=ws.length+n) (hR:Q (ltL lt ds' es') s)
open Classical in
def IP{xs ys:Array Value}(hl:s.heap.IsTuple l xs)(hr:s.heap.IsTuple r ys)(hI:IK A s b lt 0 xs.toList ys.toList ds es)(q:Q (ltL lt ds es) s) :
  wpAny (model prog w) A (keyLt' (tuples' b) (.ref l) (.ref r)) Q E s:=by
 obtain⟨o1,g1,_,n1,d1⟩:=hl;obtain⟨o2,g2,_,n2,d2⟩:=hr;refine Aa (Bx g1 d1 ?_);refine Aa (Bx g2 d2 ?_);refine Aa (wpAny_forIn_list _ (KI A s b lt xs.size ys.size Q) _ ?_ ?_ _ _ ?_)
 ·rintro⟨⟨y,x⟩,j⟩ rest r s' ⟨i,vs,ws,ds',es',rfl,rfl,hz,hi,hlen,hR⟩;cases hi with
  | left _=>rw[List.zip_nil_left]at hz;cases hz
  | right _=>rw[List.zip_nil_right]at hz;cases hz
  | @cons _ v w' vs' ws' d' e' ds2 es2 he hlt hi' =>
   rw[BF,Bo]at hz;injection hz with hyx hrest;injection hyx with hy hj;injection hy with hy hx;subst hy hx hj;simp only[Yc]at hlen;dsimp only;refine Aa (he prog w _ _ ?_);by_cases hde:d'=e'
   ·subst hde;rw[Af rfl];rw[dB]at hR;exact Ad ⟨_,_,_,_,_,rfl,rfl,hrest,hi',by lia,hR⟩
   ·rw[Ae hde];rw[ck hde]at hR;exact Aa (hlt hde prog w _ _ (Ad (Ad hR)))
 ·rintro r s' ⟨i,vs,ws,ds',es',rfl,rfl,hz,hi,hlen,hR⟩;have hv:ltL lt ds' es'=decide (xs.size<ys.size):=by
   cases hi with
   | left hl2 =>
    cases es' with
    | nil =>
     simp only[Yg]at hlen hl2;exact(Ae (by lia)).symm
    | cons e0 e1 =>
     simp only[Yg,Yc]at hlen hl2;exact(Af (by lia)).symm
   | right hl2 =>
    cases ds' with
    | nil =>
     simp only[Yg]at hlen hl2;exact(Ae (by lia)).symm
    | cons e0 e1 =>
     simp only[Yg,Yc]at hlen hl2;exact(Ae (by lia)).symm
   | cons _ _ _ =>
    rw[BF,Bo]at hz;cases hz
  rw[hv]at hR;exact Ad hR
 ·exact⟨0,xs.toList,ys.toList,ds,es,rfl,rfl,rfl,hI,by rw[Xd,Xd,Dx],q⟩
theorem KG:∀{i:Nat}{vs ws:List Value}{ds es:List D},vs.length=ds.length->ws.length=es.length ->
  (∀(j:Nat) v w d e,vs[j]?=some v->ws[j]?=some w->ds[j]?=some d->es[j]?=some e->(∀c,(c=true↔d=e)->EqAt A s v w c)/\(d≠e->uT A s (b&&(i+j) == 0) v w (lt d e)))->IK A s b lt i vs ws ds es
 | _,[],_,[],_,_,h2,_=>.left h2
 | _,_::_,[],_::_,[],h1,_,_=>.right h1
 | i,v::vs,w::ws,d::ds,e::es,h1,h2,h=>by
  obtain⟨a1,a2⟩:=h 0 v w d e rfl rfl rfl rfl;refine .cons (a1 _ (by simp)) a2 (KG (by simpa using h1) (by simpa using h2) fun j v' w' d' e' z1 z2 z3 z4=>?_)
  have:=h (j+1) v' w' d' e' (by simpa using z1) (by simpa using z2) (by simpa using z3) (by simpa using z4)
  rwa [show i+(j+1)=i+1+j by lia]at this
 | _,[],_,_::_,_,h1,_,_=>by simp at h1
 | _,_::_,_,[],_,h1,_,_=>by simp at h1
 | _,_::_,[],_::_,_::_,_,h2,_=>by simp at h2
 | _,_::_,_::_,_::_,[],_,h2,_=>by simp at h2
def MN(d:D):Prop:=match d with
 | .tup (.int _::_)=>True
 | _=>False
def MO(d:D):Prop:=match d with
 | .tup (.str _::_)=>True
 | _=>False
theorem yx(h:MN d):∃i r,d=.tup (.int i::r):=by
 cases d with
 | tup l =>
  cases l with
  | nil=>exact h.elim
  | cons x r =>
   cases x with
   | int i=>exact⟨_,_,rfl⟩
   | _=>exact h.elim
 | _=>exact h.elim
theorem yy(h:MO d):∃i r,d=.tup (.str i::r):=by
 cases d with
 | tup l =>
  cases l with
  | nil=>exact h.elim
  | cons x r =>
   cases x with
   | str i=>exact⟨_,_,rfl⟩
   | _=>exact h.elim
 | _=>exact h.elim
def Gg(p1:Pl (n+1) d1)(p2:Pl (n+1) d2)(cp:Cp (n+1) d1 d2)(r1:RH s.heap u1 d1)(r2:RH s.heap u2 d2)(hu:A.units+(n+1)<cLine)
  (ht:∃xs,d1=.tup xs)(hb:b=true->(MN d1/\MN d2)∨(MO d1/\MO d2))(q:Q (ltN (n+1) d1 d2) s):wpAny (model prog w) A (keyLt' (tuples' b) u1 u2) Q E s:=by
 obtain⟨xs,rfl⟩:=ht;cases r1 with
 | @tup a its ds t hl f =>
  cases r2 with
  | @tup a2 its' ds' t' hl' f' =>
   cases p1 with
   | tup p1 =>
   cases p2 with
   | tup p2 =>
   refine IP (lt:=ltN n) (ds:=xs) (es:=ds') t t' (KG (by simpa using hl) (by simpa using hl') fun j v w' d e z1 z2 z3 z4=>?_) q
   have z1':its[j]?=some v:=by simpa using z1
   have z2':its'[j]?=some w':=by simpa using z2
   have m1:=p1 d (Wb z3);have m2:=p2 e (Wb z4);have k1:=f j v d z1' z3;have k2:=f' j w' e z2' z4;have c1:=cp j d e z3 z4;refine⟨uS (RH.eqAt n m1 m2 k1 k2 (by lia)).1,fun _=>?_⟩
   cases hfl:(b&&(0+j) == 0) with
   | false=>exact Gf (RH.ltAt n m1 m2 c1 k1 k2 (by lia))
   | true =>
    rw[Vh]at hfl;have hj:j=0:=by have:=Ce hfl.2;lia
    subst hj;rcases hb hfl.1 with⟨g1,g2⟩|⟨g1,g2⟩
    ·obtain⟨i,r,e1⟩:=yx g1;obtain⟨i2,r2,e2⟩:=yx g2;cases e1;cases e2;cases z3;cases z4;cases k1;cases k2;cases n with
     | zero=>cases m1
     | succ n=>exact yu true
    ·obtain⟨i,r,e1⟩:=yy g1;obtain⟨i2,r2,e2⟩:=yy g2;cases e1;cases e2;cases z3;cases z4;cases k1;cases k2;cases n with
     | zero=>cases m1
     | succ n=>exact yw true
  | _=>exact cp.elim
end
end VF
namespace VF
open PySem L2 PyProof.Rows
section
variable {M:Model}{prog:Program}{w:World}{A:Around}{E:Value->Shared->Prop}{s:Shared}
theorem yz:∀(l:List α),(∀v∈l,∀Q:β->Shared->Prop,Q (g v) s->wpAny M A (f v) Q E s)->∀Q:List β->Shared->Prop,Q (l.map g) s->wpAny M A (l.mapM f) Q E s
 | [],_,Q,q=>by rw[List.mapM_nil];exact Ad q
 | v::l,h,Q,q=>by
  rw[List.mapM_cons];exact Aa (h v Qa _ (Aa (yz l (fun u hu=>h u (Xb _ hu)) _ (Ad q))))
def yA{l:List α}(h:∀v∈l,∀Q:β->Shared->Prop,Q (g v) s->wpAny M A (f v) Q E s)(q:Q (l.map g).toArray s):wpAny M A (l.toArray.mapM f) Q E s:=by
 rw[List.mapM_toArray,map_eq_pure_bind];exact Aa (yz l h _ (Ad q))
def tyD:D->String
 | .int _=>"int"
 | .str _=>"str"
 | .tup _=>"tuple"
 | _=>"list"
theorem RH.ty(r:RH s.heap u d)(h:d≠.non):s.TypeIs u (tyD d):=by
 cases r with
 | non=>exact absurd rfl h
 | int i t=>exact typeIs_int s i t
 | str x t=>exact C9 s x t
 | tup t _ _=>obtain⟨o,h1,h2,_⟩:=t;exact⟨o,h1,h2⟩
 | lst t _ _=>obtain⟨o,h1,h2,_⟩:=t;exact⟨o,h1,h2⟩
def Gh{us:List Value}{ds:List D}(hne:us≠[])(hl:us.length=ds.length)(r:∀(i:Nat) u d,us[i]?=some u->ds[i]?=some d->RH s.heap u d/\d≠.non/\tyD d=T)(q:Q (some (.type T)) s) :
  wpAny M A (oneTypeOnly' us.toArray) Q E s:=by
 rw[oneTypeOnly'_eq];refine Aa (yA (g:=fun _=>Value.type T) (fun v hv Q q=>?_) ?_)
 ·obtain⟨i,hi,rfl⟩:=Wm.mp hv;obtain⟨r1,r2,r3⟩:=r i us[i] ds[i] (Ya hi) (Ya (by lia))
  exact AV (r3 ▸ r1.ty r2) q
 ·cases us with
  | nil=>exact absurd rfl hne
  | cons u us =>
   have h0:(List.map (fun _=>Value.type T) (u::us)).toArray[0]?=some (Value.type T):=by simp
   rw[h0];have hall:((List.map (fun _=>Value.type T) (u::us)).toArray.all fun x=>x == Value.type T)=true:=by
    simp only[List.all_toArray,Dz,Zl];intro _ _;exact beq_self_eq_true _
   dsimp only;rw[hall,Ag rfl];exact Ad q
def Gi(r:RH s.heap u d)(h:d≠.non)(ht:tyD d≠"tuple")(q:Q none s):wpAny M A (firstOfTuple' u) Q E s:=by
 refine Aa (AV (r.ty h) ?_);rw[Ag (by rw[bne_iff_ne];intro e;injection e with e;exact ht e)]
 exact Ad q
def zX{its:List Value}(t:s.heap.IsTuple a its.toArray)(e:its=u::us)(q:Q (some u) s):wpAny M A (firstOfTuple' (.ref a)) Q E s:=by
 obtain⟨o,h1,h2,n,h3⟩:=t;refine Aa (AV (T:="tuple") ⟨o,h1,h2⟩ ?_);rw[Ak (by rw[bne_iff_ne];intro z;exact z rfl)]
 refine Aa (Bx h1 h3 ?_);subst e;exact Ad q
inductive Kd:List D->SortKind->Prop where
 | sc {ds:List D} {T:String}:T≠"tuple"->(∀d∈ds,d≠.non/\tyD d=T)->Kd ds oneType'
 | tp {ds:List D} {T:String}:(∀d∈ds,∃x xs,d=.tup (x::xs)/\x≠.non/\tyD x=T)->Kd ds (tuples' (T != "tuple"))
def Ou{us:List Value}{ds:List D}(hne:us≠[])(hl:us.length=ds.length)(r:∀(i:Nat) u d,us[i]?=some u->ds[i]?=some d->RH s.heap u d)(hk:Kd ds κ)(q:Q κ s) :
  wpAny M A (keyKind' us.toArray) Q E s:=by
 rw[keyKind'_eq];cases hk with
 | @sc T hT h =>
  refine Aa (yA (g:=fun _=>none) (fun v hv Q q=>?_) ?_)
  ·obtain⟨i,hi,rfl⟩:=Wm.mp hv;have hd:=h ds[i] (AZ _);exact Gi (r i _ _ (Ya hi) (Ya (by lia))) hd.1 (by rw[hd.2];exact hT) q
  ·cases us with
   | nil=>exact absurd rfl hne
   | cons u us =>
    rw[Ak (by simp),Ak (by simp)]
    refine Aa (Gh (T:=T) hne hl (fun i u d e1 e2=>⟨r i u d e1 e2,h d (Wb e2)⟩) ?_);exact Ad q
 | @tp T h =>
  have hx:∀(i:Nat)(hi:i<us.length),∃u0 x xs,(∀Q:Option Value->Shared->Prop,Q (some u0) s->wpAny M A (firstOfTuple' us[i]) Q E s)/\ds[i]?=some (.tup (x::xs))/\RH s.heap u0 x/\x≠.non/\tyD x=T:=fun i hi=>by
   have hd:i<ds.length:=by lia
   obtain⟨x,xs,e,h1,h2⟩:=h ds[i] (AZ _);have rr:=r i us[i] ds[i] (Ya hi) (Ya hd);rw[e]at rr;generalize us[i]=v at rr;cases rr with
   | @tup a its _ t hl f =>
    cases its with
    | nil=>simp at hl
    | cons u0 ur=>exact⟨u0,x,xs,fun Q q=>zX t rfl q,by rw[Ya hd,e],f 0 u0 x rfl rfl,h1,h2⟩
  have hf:∃fs:List Value,fs.length=us.length/\(∀Q:Array (Option Value)->Shared->Prop,Q (fs.map some).toArray s->wpAny M A (us.toArray.mapM firstOfTuple') Q E s)/\∀(i:Nat) u,fs[i]?=some u->∃x,RH s.heap u x/\x≠.non/\tyD x=T:=by
   have:∀l:List Value,(∀v∈l,∃u0 x,(∀Q:Option Value->Shared->Prop,Q (some u0) s->wpAny M A (firstOfTuple' v) Q E s)/\RH s.heap u0 x/\x≠.non/\tyD x=T) ->
     ∃fs:List Value,fs.length=l.length/\(∀Q:List (Option Value)->Shared->Prop,Q (fs.map some) s->wpAny M A (l.mapM firstOfTuple') Q E s)/\∀(i:Nat) u,fs[i]?=some u->∃x,RH s.heap u x/\x≠.non/\tyD x=T:=fun l=>by
    induction l with
    | nil=>exact fun _=>⟨[],rfl,fun Q q=>by rw[List.mapM_nil];exact Ad q,fun i u e=>by simp at e⟩
    | cons v l ih =>
     intro hv;obtain⟨fs,f1,f2,f3⟩:=ih fun u hu=>hv u (Xb _ hu);obtain⟨u0,x,g1,g2⟩:=hv v Qa;refine⟨u0::fs,by simp[f1],fun Q q=>?_,fun i u e=>?_⟩
     ·rw[List.mapM_cons];exact Aa (g1 _ (Aa (f2 _ (Ad q))))
     ·cases i with
      | zero =>
       have:u0=u:=by simpa using e
       subst this;exact⟨x,g2⟩
      | succ i=>exact f3 i u (by simpa using e)
   obtain⟨fs,f1,f2,f3⟩:=this us fun v hv=>by
    obtain⟨i,hi,rfl⟩:=Wm.mp hv;obtain⟨u0,x,xs,a1,_,a2⟩:=hx i hi;exact⟨u0,x,a1,a2⟩
   refine⟨fs,f1,fun Q q=>?_,f3⟩;rw[List.mapM_toArray,map_eq_pure_bind];exact Aa (f2 _ (Ad q))
  obtain⟨fs,f1,f2,f3⟩:=hf;refine Aa (f2 _ ?_);rw[Ag (by simp)]
  refine Aa (AH ?_);have e1:(fs.map some).toArray.filterMap id=fs.toArray:=by simp
  rw[e1];have hne':fs≠[]:=fun z=>by
   rw[z]at f1;exact hne (Yi f1.symm)
  obtain⟨xs,hxs,hxx⟩:∃xs:List D,fs.length=xs.length/\∀(i:Nat) u d,fs[i]?=some u->xs[i]?=some d->RH s.heap u d/\d≠.non/\tyD d=T:=by
   have:∀l:List Value,(∀(i:Nat) u,l[i]?=some u->∃x,RH s.heap u x/\x≠.non/\tyD x=T)->∃xs:List D,l.length=xs.length/\∀(i:Nat) u d,l[i]?=some u->xs[i]?=some d->RH s.heap u d/\d≠.non/\tyD d=T:=fun l=>by
    induction l with
    | nil=>exact fun _=>⟨[],rfl,fun i u d e=>by simp at e⟩
    | cons v l ih =>
     intro hv;obtain⟨xs,x1,x2⟩:=ih fun i u e=>hv (i+1) u (by simpa using e)
     obtain⟨x,hx⟩:=hv 0 v rfl;refine⟨x::xs,by simp[x1],fun i u d e1 e2=>?_⟩
     cases i with
     | zero =>
      have a1:v=u:=by simpa using e1
      have a2:x=d:=by simpa using e2
      subst a1 a2;exact hx
     | succ i=>exact x2 i u d (by simpa using e1) (by simpa using e2)
   exact this fs f3
  refine Aa (Gh (T:=T) hne' hxs hxx ?_);have e2:(Option.any (fun x=>x != Value.type "tuple") (some (Value.type T)))=(T != "tuple"):=by
   show(Value.type T != Value.type "tuple")=_;rw[Wf,bne_iff_ne,bne_iff_ne];constructor
   ·exact fun h e=>h (by rw[e])
   ·exact fun h e=>h (by injection e)
  rw[e2];exact Ad q
end
end VF
namespace VF
open PySem L2 PyProof.Rows TS
section
variable {prog:Program}{w:World}{A:Around}{E:Value->Shared->Prop}{s:Shared}
theorem RH.kept{h h':Heap}(k:∀b o,h.get? b=some o->h'.get? b=some o)(r:RH h u d):RH h' u d:=by
 induction r with
 | non=>exact .non
 | int i t=>exact .int i t
 | str x t=>exact .str x t
 | tup t hl _ ih=>obtain⟨o,h1,h2⟩:=t;exact .tup ⟨o,k _ o h1,h2⟩ hl ih
 | lst t hl _ ih=>obtain⟨o,h1,h2⟩:=t;exact .lst ⟨o,k _ o h1,h2⟩ hl ih
def dk(ds:List D)(g:Nat):D:=ds.getD g (ds.headD .non)
def rC(h:ds[g]?=some d):dk ds g=d:=by
 unfold dk;rw[Xe,h];rfl
theorem jf(h:ds≠[])(g:Nat):dk ds g∈ds:=by
 cases e:ds[g]? with
 | some d=>rw[rC e];exact Wb e
 | none =>
  cases ds with
  | nil=>exact absurd rfl h
  | cons x xs =>
   unfold dk;rw[Xe,e];simp
noncomputable def cD(ds:List D)(g h:Nat):Bool:=ltN 40 (dk ds g) (dk ds h)
theorem Gj(h:Cp n d e)(ht:tyD d≠"tuple"):(∃i j,d=.int i/\e=.int j)∨∃x y,d=.str x/\e=.str y:=by
 cases n with
 | zero=>exact h.elim
 | succ n =>
  cases d with
  | int i =>
   cases e with
   | int j=>exact .inl ⟨i,j,rfl,rfl⟩
   | _=>exact h.elim
  | str x =>
   cases e with
   | str y=>exact .inr ⟨x,y,rfl,rfl⟩
   | _=>exact h.elim
  | tup xs=>exact absurd rfl ht
  | _=>exact h.elim
def IQ{us vs:List Value}{ds:List D}(hl:us.length=ds.length)(r:∀(i:Nat) u d,us[i]?=some u->ds[i]?=some d->RH s.heap u d)(pl:∀d∈ds,Pl 40 d)(ca:CA 40 ds)(hk:Kd ds κ)(hu:A.units+40<cLine) :
  Cm prog w A s κ (fun g=>(us.getD g .none,vs.getD g .none)) us.length (cD ds):=by
 refine⟨fun E Q g h hg hh q=>?_,fun g=>mG _ _,fun g h i h1 h2=>?_,fun g h i h1=>?_⟩
 ·have eg:us[g]?=some us[g]:=Ya hg;have eh:us[h]?=some us[h]:=Ya hh;have dg:ds[g]?=some ds[g]:=Ya (by lia)
  have dh:ds[h]?=some ds[h]:=Ya (by lia)
  have q':Q (ltN 40 ds[g] ds[h]) s:=by unfold cD at q;rw[rC dg,rC dh]at q;exact q
  have rg:=r g _ _ eg dg;have rh:=r h _ _ eh dh;have mg:=Wb dg;have mh:=Wb dh;have cp:=ca _ mg _ mh;show wpAny (model prog w) A (keyLt' κ (us.getD g .none) (us.getD h .none)) Q E s;rw[Xe,Xe,eg,eh];show wpAny (model prog w) A (keyLt' κ us[g] us[h]) Q E s;generalize us[g]=ug at rg;generalize us[h]=uh at rh;generalize ds[g]=a at *;generalize ds[h]=b at *;cases hk with
  | @sc T hT hd =>
   rw[keyLt'_oneType];rcases Gj cp (by rw[(hd a mg).2];exact hT) with⟨i,j,rfl,rfl⟩|⟨x,y,rfl,rfl⟩
   ·cases rg;cases rh;exact yu true prog w E Q q'
   ·cases rg;cases rh;exact yw true prog w E Q q'
  | @tp T hd =>
   obtain⟨x,xs,rfl,nx,tx⟩:=hd a mg;obtain⟨y,ys,rfl,ny,ty⟩:=hd b mh;refine Gg (n:=39) (pl _ mg) (pl _ mh) cp rg rh (by lia) ⟨_,rfl⟩ (fun hb=>?_) q'
   have hT:T≠"tuple":=by rwa [bne_iff_ne]at hb
   rcases Gj (cp 0 x y rfl rfl) (by rw[tx];exact hT) with⟨i,j,rfl,rfl⟩|⟨x,y,rfl,rfl⟩
   ·exact .inl ⟨trivial,trivial⟩
   ·exact .inr ⟨trivial,trivial⟩
 ·by_cases hne:ds=[]
  ·subst hne;have:cD [] g h=false:=mG 40 .non;rw[this]at h1;cases h1
  ·exact(nk 40).tra (ca _ (jf hne g) _ (jf hne h)) (ca _ (jf hne h) _ (jf hne i)) (ca _ (jf hne g) _ (jf hne i)) h1 h2
 ·by_cases hne:ds=[]
  ·subst hne;have:cD [] g i=false:=mG 40 .non;rw[this]at h1;cases h1
  ·exact ca.neg (jf hne g) (jf hne h) (jf hne i) h1
def dm(vs:List Value)(γ:Array Nat):Array Value:=γ.map fun g=>vs.getD g .none
def rD{vs : List Value}{ds : List D}(ho : s.heap.get? a = some (seqObj "list" vs.toArray n))(hz : vs.length ≤ sizeLine)
    (hl : vs.length = ds.length)(r : ∀ (i : Nat) u d, vs[i]? = some u → ds[i]? = some d → RH (((s.heap.update a (Obj.mapSeq fun _ => #[])).push (seqObj "tuple" vs.toArray 0)).push (seqObj "list" #[] 0)) u d)
    (pl : ∀ d ∈ ds, Pl 40 d) (ca : CA 40 ds) (hk : Kd ds κ) (hu : A.units + 40 < cLine)
    (fin : ∀ γ : Array Nat, γ.Perm (Array.range vs.length) → Sg (cD ds) γ 0 vs.length → P (.done (.ret .none)) { s with heap := sortedHeap s.heap a vs (dm vs γ) }) :
    wpAny (model prog w) A (Builtin.«list.sort» ⟨[.ref a], []⟩) P E s := by
  rw [list_sort_plain];have small := Aj ho;refine Aa (Bx ho rfl (Aa (Ck ho rfl ?_)));obtain ⟨ep, hE⟩ : ∃ ep, (s.heap.update a (Obj.mapSeq fun _ => #[])).get? a = some (seqObj "list" #[] ep) := ⟨_, get?_update_seq ho (fun _ => #[])⟩;refine Aa (seqEpoch_at hE rfl (Aa (wpAny_newTuple (Aa (Cj (AC ?_))))));have hE2 : (((s.heap.update a (Obj.mapSeq fun _ => #[])).push (seqObj "tuple" vs.toArray 0)).push (seqObj "list" #[] 0)).get? a = some (seqObj "list" #[] ep) :=
    Ac _ (Ac _ hE)
  generalize hH : ((s.heap.update a (Obj.mapSeq fun _ => #[])).push (seqObj "tuple" vs.toArray 0)).push (seqObj "list" #[] 0) = h6 at r hE2;show wpAny (model prog w) A _ P E { s with heap := h6 };dsimp only;have hsz : vs.toArray.size = vs.length := by simp
  have zs : ∀ γ : Array Nat, γ.Perm (Array.range vs.length) → (dm vs γ).size ≤ sizeLine + 1 := fun γ p => by
    unfold dm;rw [Dj, p.size_eq, Bp]; lia
  have done : ∀ γ : Array Nat, γ.Perm (Array.range vs.length) → Sg (cD ds) γ 0 vs.length → P (.done (.ret .none)) { s with heap := h6.update a (Obj.mapSeq fun _ => dm vs γ) } := fun γ p g => by
    have := fin γ p g;unfold sortedHeap at this;rw [← hH]; exact this
  have e0 : vs.toArray.zip vs.toArray = (Array.range vs.length).map fun g => (vs.getD g .none, vs.getD g .none) := by
    apply Array.ext_getElem?
    intro i;rw [BI, Array.getElem?_range];by_cases hi : i < vs.length
    · rw [Ag hi]; simp [hi]
    · rw [Ak hi]; simp [hi]
  by_cases few : vs.toArray.size < 2
  · rw [Ag few, Ag few]
    refine Aa (Ad ?_);rw [StateT.run_pure];refine Aa (Ad ?_);dsimp only;have em : (vs.toArray.zip vs.toArray).map (fun x => x.2) = dm vs (Array.range vs.length) := by
      rw [e0, Array.map_map]; rfl
    refine Aa (seqEpoch_at hE2 rfl (Aa (Ck hE2 rfl ?_ (hsz2 := ?_))))
    · simp only [bne_self_eq_false, CG, if_false]
      refine Ad ?_;rw [em];exact done _ (Array.Perm.refl _) fun i j g h z1 z2 z3 => by lia
    · rw [em]; exact zs _ (Array.Perm.refl _)
  · rw [Ak few, Ak few]
    have hne : vs ≠ [] := fun z => few (by rw [z]; decide)
    refine Aa (Ou (s := { s with heap := h6 }) hne hl r hk ?_);have C : Cm prog w A { s with heap := h6 } κ (fun g => (vs.getD g .none, vs.getD g .none)) vs.length (cD ds) := IQ (s := { s with heap := h6 }) hl r pl ca hk hu
    refine Aa (AB (IO (st := SortSt.mk' κ (vs.toArray.zip vs.toArray) #[] 7 none) C (γ := Array.range vs.length) ⟨e0, rfl, rfl, Array.Perm.refl _⟩ rfl (fun i _ z => by rw [Array.getElem?_range, Ag z])
      (Q := fun _ st' => ∃ γ, Rp κ (fun g => (vs.getD g .none, vs.getD g .none)) vs.length st' γ ∧ Sg (cD ds) γ 0 vs.length) fun st' γ' R g => ⟨γ', R, g⟩) ?_ fun _ _ e => e)
    rintro ⟨⟨⟩, st'⟩ s' ⟨rfl, γ, R, g⟩;dsimp only;have em : (arrOf st').map (fun x => x.2) = dm vs γ := by
      rw [R.arr, Array.map_map]; rfl
    refine Aa (seqEpoch_at hE2 rfl (Aa (Ck hE2 rfl ?_ (hsz2 := ?_))))
    · rw [show failedOf st' = none from R.fine]
      simp only [bne_self_eq_false, CG, if_false];refine Ad ?_;show P (.done (.ret .none)) { s with heap := h6.update a (Obj.mapSeq fun _ => (arrOf st').map (fun x => x.2)) };rw [em];exact done γ R.perm g
    · show ((arrOf st').map (fun x => x.2)).size ≤ sizeLine + 1
      rw [em]; exact zs γ R.perm
end
end VF
namespace VF
open PySem L2 PyProof.Rows TS
section
variable {prog:Program}{w:World}{A:Around}{E:Value->Shared->Prop}{s:Shared}
def uU{vs:List Value}(hl:s.heap.IsList l vs.toArray∨s.heap.IsTuple l vs.toArray)(hz:vs.length<=sizeLine)
  (q:Q vs { s with heap:=(s.heap.push (seqObj "list" #[] 0)).update s.heap.objs.size (Obj.mapSeq (·++vs.toArray)) }):wpAny (model prog w) A (collect (.ref l)) Q E s:=by
 rcases hl with hl|hl
 ·exact collect_list hl q hz
 obtain⟨o,ho,hc,m,hd⟩:=id hl;have kept:=Ac (seqObj "list" #[] 0) ho;have new:(s.heap.push (seqObj "list" #[] 0)).get? s.heap.objs.size=some (seqObj "list" #[] 0):=Ai _ rfl;unfold collect;refine Aa (wpAny_runValue (codeAny_builtin entry_proto_collect' ?_));refine Aa (Cj (Ad ⟨Code.quiet_builtin _ (by decide +kernel),codeAny_builtin entry_list_iadd' ?_⟩))
 show wpAny _ _ (Builtin.List.listExtendWith (.ref s.heap.objs.size) (.ref l) (.ref s.heap.objs.size)) _ _ { s with heap:=s.heap.push (seqObj "list" #[] 0) };unfold Builtin.List.listExtendWith;refine Aa (AV (T:="tuple") ⟨o,kept,hc⟩ ?_);rw[Ag (by rw[show(Value.type "tuple" == Value.type "tuple")=true from rfl,Bool.or_true])]
 refine Aa (Bx kept hd (Aa (Bx new rfl ?_)));rw[Ak (by simp)]
 have room:((#[]:Array Value)++vs.toArray).size<=sizeLine+1:=by
  rw[Array.size_append,Vb];simp;lia
 refine Aa (Ck new rfl ?_ (Xl _) room);refine Ad ?_;have at':=get?_update_seq new (fun x=>x++vs.toArray);refine Aa (wpAny_load at' ?_);show wpAny _ _ (pure ((#[]:Array Value)++vs.toArray).toList) Q E _;have e:((#[]:Array Value)++vs.toArray).toList=vs:=by simp
 rw[e];exact Ad q
def uV{vs:List Value}{ds:List D}(hl:s.heap.IsList l vs.toArray∨s.heap.IsTuple l vs.toArray)(hz:vs.length<=sizeLine)
  (hn:vs.length=ds.length)(r:∀(i:Nat) u d,vs[i]?=some u->ds[i]?=some d->RH s.heap u d)(pl:∀d∈ds,Pl 40 d)(ca:CA 40 ds)(hk:Kd ds κ)(hu:A.units+64<cLine)
  (fin:∀γ:Array Nat,γ.Perm (Array.range vs.length)->Sg (cD ds) γ 0 vs.length->Q (.ref (s.heap.objs.size+1)) { s with heap:=sortedAll s.heap vs (dm vs γ) }) :
  wpAny (model prog w) A (call (.builtin "sorted") [.ref l]) Q E s:=by
 refine Dl kind_sorted plain_sorted entry_sorted (args_sorted1 _) ?_;refine Aa (m:=checkCount "sorted" 1 1 _) (Ad (Aa (uU hl hz (Aa (Cj ?_)))));generalize hg:(s.heap.push (seqObj "list" #[] 0)).update s.heap.objs.size (Obj.mapSeq (·++vs.toArray))=h1;have z1:h1.objs.size=s.heap.objs.size+1:=by rw[← hg,Heap.size_update,size_push']
 have old:∀b o,s.heap.get? b=some o->h1.get? b=some o:=fun b o e=>by
  rw[← hg];exact(Ch _ _ _ _ (Qh (Aj e))).trans (Ac _ e)
 have mine:(h1.push (seqObj "list" vs.toArray 0)).get? (s.heap.objs.size+1)=some (seqObj "list" vs.toArray 0):=by rw[← z1];exact Ai _ rfl
 show wpAny _ _ _ _ _ { s with heap:=h1.push (seqObj "list" vs.toArray 0) };rw[z1];refine Aa (AC (As slot_list_sort ⟨_,mine,rfl⟩ entry_list_sort ?_ (args_list_sort _)));refine rD (s:={ s with heap:=h1.push (seqObj "list" vs.toArray 0) }) mine hz hn (fun i u d e1 e2=>(r i u d e1 e2).kept fun b o e=>?_) pl ca hk (by show A.units+1+1+40<cLine;lia) fun γ p g=>?_
 ·have hb:=Aj e;refine Ac _ (Ac _ ?_);have hne:b≠s.heap.objs.size+1:=Qh (BK hb);exact(Ch _ _ _ _ hne).trans (Ac _ (old b o e))
 ·refine⟨_,rfl,Ad ⟨_,rfl,?_⟩⟩;have:=fin γ p g;unfold sortedAll at this;rw[hg]at this;exact this
end
def Gk{ds:List D}{γ:Array Nat}(ca:CA 40 ds)(p:γ.Perm (Array.range ds.length))(g:Sg (cD ds) γ 0 ds.length):(γ.toList.map (dk ds))=bR 40 ds:=by
 have hsz:γ.size=ds.length:=by rw[p.size_eq,Bp]
 refine eE ca ?_ ?_
 ·have p1:(γ.toList.map (dk ds)).Perm ((List.range ds.length).map (dk ds)):=by
   have:=Array.perm_iff_toList_perm.mp p;rw[CH]at this;exact this.map _
  have e:(List.range ds.length).map (dk ds)=ds:=by
   refine BR (by simp) fun i h1 h2=>?_
   rw[C3,List.getElem_range,rC (Ya h2)]
  rwa [e]at p1
 ·unfold Srt;rw[CP,Xk];intro i j hi hj hij;rw[Xd]at hi hj;have b:=g i j γ.toList[i] γ.toList[j] (Xl _) hij (by lia) (by rw[← Vk];exact Ya _) (by rw[← Vk];exact Ya _)
  rcases b with b|b
  ·exact sR _ _ _ b
  ·exact b.1
section
variable {X:Cx}{K:Ab}{Y:AS}{H:Hp}
def Gm(K:Ab):List V->Hp->VK->Prop:=fun xs H Q=>∃(Y:AS)(v:V)(d:D)(ds:List D)(κ:SortKind),xs=[v]/\BA K Y H v d/\d.seq=some ds/\(∀x∈ds,Pl 40 x)/\CA 40 ds/\Kd ds κ /\
 ∀(p:Addr)(vs:List V),H p=none->El K Y H vs (bR 40 ds)->Q (.ref p) (upd H p (.lst vs))
def bD(h:X.K=K)(hr:Room n X.A):CallR X (.builtin "sorted") (Gm K):=by
 intro pins s σ H xs us Q I rv hh;obtain⟨Y,v,d,ds,κ,rfl,ba,hs,pl,ca,hk,q⟩:=hh;obtain⟨u,rfl,ru⟩:=vals1 rv;obtain⟨a,vs,rfl,sq,el⟩:=m8 ba hs;cases ru;have main:∀its:List Value,Vals vs its->(s.heap.IsList a its.toArray∨s.heap.IsTuple a its.toArray)->vs.length<=sizeLine->wpAny (model X.prog X.w) X.A (call (.builtin "sorted") [.ref a]) (EP X pins σ Q) X.xe s:=fun its r t hz=>by
  have hn:its.length=ds.length:=r.length.symm.trans el.1;have rr:∀(i:Nat) u d,its[i]?=some u->ds[i]?=some d->RH s.heap u d:=fun i u d e1 e2=>by
   obtain⟨v,e3,rv⟩:=eU r i u e1;exact(el.2 i v d e3 e2).rh (pl d (Wb e2)) I h rv
  have hz':its.length<=sizeLine:=by rw[← r.length];exact hz
  refine uV t hz' hn rr pl ca hk hr.units fun γ p g=>?_;rw[hn]at p g;obtain⟨e,he⟩:=sortedAll_at s.heap its (dm its γ);have hγ:∀g∈γ.toList,g<ds.length:=fun g hg=>by
   have:=(Array.perm_iff_toList_perm.mp p).mem_iff.mp hg;rw[CH]at this;exact Zk.mp this
  have eo:=Gk ca p g
  let ws:List V:=γ.toList.map fun g=>vs.getD g .non
  have vw:Vals ws (dm its γ).toList:=by
   have e2:(dm its γ).toList=γ.toList.map fun g=>its.getD g .none:=by unfold dm;simp
   rw[e2];have:∀l:List Nat,(∀g∈l,g<ds.length)->Vals (l.map fun g=>vs.getD g .non) (l.map fun g=>its.getD g .none):=fun l=>by
    induction l with
    | nil=>exact fun _=>.nil
    | cons g l ih =>
     intro hl;have hg:g<ds.length:=hl g Qa;have a1:its[g]?=some its[g]:=Ya (by lia)
     obtain⟨v,e3,rv⟩:=eU r g _ a1;refine .cons ?_ (ih fun x hx=>hl x (Xb _ hx));show RelV (vs.getD g .non) (its.getD g .none);rw[Xe,Xe,e3,a1];exact rv
   exact this _ hγ
  have elw:El K Y H ws (bR 40 ds):=by
   rw[← eo];refine⟨by simp[ws],fun i v d h1 h2=>?_⟩
   rw[Qe]at h1 h2;obtain⟨g1,k1,k2⟩:=Yf.mp h1;obtain⟨g2,k3,k4⟩:=Yf.mp h2;rw[k1]at k3;cases k3;have hg:g1<ds.length:=hγ g1 (Wb k1);have d1:ds[g1]?=some ds[g1]:=Ya hg;obtain⟨v',e3,da⟩:=el.at d1;rw[rC d1]at k4;rw[Xe,e3]at k2;subst k4;have:v'=v:=k2;subst this;exact da
  have hlw:ws.length=ds.length:=by
   show(γ.toList.map _).length=_;rw[Za,Xd,p.size_eq,Bp]
  refine⟨.ref (s.heap.objs.size+1),upd H (s.heap.objs.size+1) (.lst ws),I.laid (t':=s.toks) (fun b o z=>sortedAll_old z) (Nat.le_succ _) ⟨by lia,(dm its γ).toList,e,vw,by simpa using he⟩,rfl,q _ ws (I.hok.fresh (Nat.le_succ _)) elw⟩
 rcases sq with sq|sq
 ·obtain⟨its,r,t,hz⟩:=I.list (h ▸ sq);exact main its r (.inl t.isList) hz
 ·obtain⟨its,r,t,hz⟩:=I.tuple (h ▸ sq);exact main its r (.inr t) hz
open Classical in
noncomputable def bS:List D->Option Rz
 | [d]=>match d.seq with
  | some ds=>if (∀x∈ds,Pl 40 x)/\CA 40 ds/\∃κ,Kd ds κ then some (.lst (bR 40 ds),true) else none
  | none=>none
 | _=>none
theorem Gn:RdCB K (Gm K) bS:=by
 intro Y H xs ds z Q lv bs e q;cases bs with
 | nil=>cases e
 | @cons v vs d ds b1 bs =>
  cases bs with
  | cons _ _=>cases e
  | nil =>
   unfold bS at e;dsimp only at e;split at e
   ·rename_i xs hs
    obtain⟨c,e⟩:=aR e;cases e;obtain⟨c1,c2,κ,c3⟩:=c;exact⟨Y,v,d,xs,κ,rfl,b1,hs,c1,c2,c3,fun p ws hp el=>q _ _ (bw hp _) (iZ el hp)⟩
   ·cases e
end
end VF
namespace VF22
open PySem PySem.Spec PyProof.Rows L2 VF
def Gp:D->Option Key
 | .int i=>some (.inl i)
 | .str x=>some (.inr x)
 | _=>none
def yB:List D->Option (List Key)
 | []=>some []
 | d::r=>(Gp d).bind fun k=>(yB r).bind fun ks=>some (k::ks)
section
variable {κ:Type}[DecidableEq κ]
def gH(kvs:List (κ×D))(k:κ):Option D:=(kvs.find? fun kv=>decide (kv.1=k)).map (·.2)
def uW(kvs:List (κ×D))(k:κ)(d:D):List (κ×D):=if (kvs.any fun kv=>decide (kv.1=k))=true then kvs.map (fun kv=>if kv.1=k then(kv.1,d) else kv) else kvs++[(k,d)]
def Go(R:V->D->Prop)(kvs:List (κ×V))(ds:List (κ×D)):Prop:=kvs.map (·.1)=ds.map (·.1)/\∀(i:Nat) v d,kvs[i]?=some v->ds[i]?=some d->R v.2 d.2
def Go.nil:Go R ([]:List (κ×V)) []:=⟨rfl,fun i v d h _=>by simp at h⟩
def Go.cons(h1:p.1=q.1)(h2:R p.2 q.2)(t:Go R kvs ds):Go R (p::kvs) (q::ds):=by grind [Go]
def Go.un(h:Go R (p::kvs) (q::ds)):p.1=q.1/\R p.2 q.2/\Go R kvs ds:=by
 obtain⟨h1,h2⟩:=h;rw[We,We]at h1;injection h1 with a b;exact⟨a,h2 0 p q rfl rfl,b,fun i v d x y=>h2 (i+1) v d x y⟩
theorem Go.look:∀{kvs:List (κ×V)}{ds:List (κ×D)}(k:κ),Go R kvs ds->(kQ kvs k=none/\gH ds k=none)∨∃v d,kQ kvs k=some v/\gH ds k=some d/\R v d
 | [],[],_,_=>.inl ⟨rfl,rfl⟩
 | [],_::_,_,h=>by have:=h.1;simp at this
 | _::_,[],_,h=>by have:=h.1;simp at this
 | p::ps,q::qs,k,h=>by
  obtain⟨h1,h2,h3⟩:=h.un;by_cases e:p.1=k
  ·refine .inr ⟨p.2,q.2,mt e,?_,h2⟩;simp[gH,Xm,h1.symm.trans e]
  ·have e':¬ q.1=k:=fun z=>e (h1.trans z);rw[mv e,show gH (q::qs) k=gH qs k by simp[gH,Xm,e']]
   exact h3.look k
theorem Go.any{kvs:List (κ×V)}{ds:List (κ×D)}(h:Go R kvs ds)(k:κ):(kvs.any fun kv=>decide (kv.1=k))=ds.any fun kv=>decide (kv.1=k):=by
 have a:∀l:List (κ×V),(l.any fun kv=>decide (kv.1=k))=(l.map (·.1)).any fun x=>decide (x=k):=fun l=>by rw[CU];rfl
 rw[a,h.1,CU];rfl
theorem Go.repl(k:κ)(r:R y d):∀{kvs:List (κ×V)}{ds:List (κ×D)},Go R kvs ds->Go R (kvs.map fun kv=>if kv.1=k then(kv.1,y) else kv) (ds.map fun kv=>if kv.1=k then(kv.1,d) else kv)
 | [],[],_=>Go.nil
 | [],_::_,h=>by have:=h.1;simp at this
 | _::_,[],h=>by have:=h.1;simp at this
 | p::ps,q::qs,h=>by
  obtain⟨h1,h2,h3⟩:=h.un;rw[We,We];by_cases e:p.1=k
  ·rw[Ag e,Ag (h1.symm.trans e)];exact Go.cons h1 r (h3.repl k r)
  ·rw[Ak e,Ak fun z=>e (h1.trans z)];exact Go.cons h1 h2 (h3.repl k r)
theorem Go.snoc(k:κ)(r:R y d):∀{kvs:List (κ×V)}{ds:List (κ×D)},Go R kvs ds->Go R (kvs++[(k,y)]) (ds++[(k,d)])
 | [],[],_=>Go.cons rfl r Go.nil
 | [],_::_,h=>by have:=h.1;simp at this
 | _::_,[],h=>by have:=h.1;simp at this
 | p::ps,q::qs,h=>by
  obtain⟨h1,h2,h3⟩:=h.un;exact Go.cons h1 h2 (h3.snoc k r)
def Go.put(k:κ)(h:Go R kvs ds)(r:R y d):Go R (putK kvs k y) (uW ds k d):=by
 unfold putK uW;rw[h.any k];split
 ·exact h.repl k r
 ·exact h.snoc k r
def Go.len{kvs:List (κ×V)}{ds:List (κ×D)}(h:Go R kvs ds):kvs.length=ds.length:=by
 have:=congrArg List.length h.1;rwa [Za,Za]at this
def Go.map(h:Go R kvs ds)(f:∀v d,R v d->S v d):Go S kvs ds:=⟨h.1,fun i v d a b=>f _ _ (h.2 i v d a b)⟩
end
section
variable {K:Ab}{Y:AS}{H:Hp}
theorem Ov(h:DA K Y H v d)(e:Gp d=some k):v=kV k:=by
 cases d with
 | int i=>cases e;cases h;rfl
 | str x=>cases e;cases h;rfl
 | _=>cases e
theorem KH(h:BA K Y H v d)(e:Gp d=some k):v=kV k:=by
 cases d with
 | int i=>cases e;exact h
 | str x=>cases e;exact h
 | _=>cases e
theorem wy:∀{ds:List D}{vs:List V}{ks:List Key},El K Y H vs ds->yB ds=some ks->vs=ks.map kV
 | [],vs,ks,h,e=>by
  cases e;obtain rfl:=h.unnil;rfl
 | d::r,vs,ks,h,e=>by
  refine bsO e fun k e1 e=>?_;refine bsO e fun ks' e2 e=>?_;cases e;obtain⟨v,vr,rfl,da,el⟩:=h.uncons;rw[Ov da e1,wy el e2];rfl
def atD:D->D->Option (Option D)
 | .dt kvs,.tup ds=>(yB ds).bind fun ks=>some (gH kvs ks)
 | .dk kvs,d=>(Gp d).bind fun k=>some (gH kvs k)
 | _,_=>none
theorem Ox(b1:BA K Y H x d1)(b2:BA K Y H y d2)(e:atD d1 d2=some o):∃(a:Addr)(r:Option V),x=.ref a/\DGet H a y r/\((r=none/\o=none)∨∃v d,r=some v/\o=some d/\DA K Y H v d):=by
 cases d1 with
 | dt kvs =>
  cases d2 with
  | tup ds =>
   refine bsO e fun ks e1 e=>?_;cases e;obtain⟨a,ep,kv,rfl,_,h1,h2,h3⟩:=b1;obtain⟨b,vs,rfl,t,el⟩:=b2;have:=wy el e1;subst this;exact⟨a,_,rfl,DGet.t h1 t.1,Go.look ks ⟨h2,h3⟩⟩
  | _=>cases e
 | dk kvs =>
  refine bsO e fun k e1 e=>?_;cases e;obtain⟨a,kv,rfl,h1,h2,h3⟩:=b1;have:=KH b2 e1;subst this;exact⟨a,_,rfl,DGet.k h1,Go.look k ⟨h2,h3⟩⟩
 | _=>cases e
def rDG:R2:=fun x y H Q=>∃a v,x=.ref a/\DGet H a y (some v)/\Q v H
def Gq:D->D->Option Rz:=fun d1 d2=>(atD d1 d2).bind fun o=>o.bind fun d=>some (d,false)
def IR:RdOp K rDG Gq:=by
 intro Y H x y d1 d2 z Q lv b1 b2 e q;refine bsO e fun o e1 e=>?_;obtain⟨d,rfl,e⟩:=Option.bind_eq_some_iff.mp e;cases e;obtain⟨a,r,rfl,g,h|⟨v,d',rfl,h2,da⟩⟩:=Ox b1 b2 e1
 ·cases h.2
 ·cases h2;exact⟨a,v,rfl,g,q v H (Same.refl H) da⟩
def KJ:HU:=fun x k v H Q=>∃a,x=.ref a/\NH H a k v Q
def Gr:D->D->D->Option D
 | .dt kvs,.tup ds,v=>(yB ds).bind fun ks=>if kvs.length<100000 then some (.dt (uW kvs ks v)) else none
 | .dk kvs,d,v=>(Gp d).bind fun k=>if kvs.length<100000 then some (.dk (uW kvs k v)) else none
 | _,_,_=>none
def zY:EW K KJ Gr:=by
 intro Y H p x k v dk dv x' Q hp ho bk da e q;have lim:(100000:Nat)<=sizeLine:=by rw[C5];decide
 cases x with
 | dt kvs =>
  cases dk with
  | tup ds =>
   refine bsO e fun ks e1 e=>?_;by_cases c:kvs.length<100000
   ·rw[Ag c]at e;cases e;obtain⟨ep,kv,ka,h1,h2,h3⟩:=ho;obtain⟨b,vs,rfl,t,el⟩:=bk;have:=wy el e1;subst this;have g:Go (DA K Y H) kv kvs:=⟨h2,h3⟩;refine⟨p,rfl,.inr ⟨ep,kv,ks,b,h1,rfl,t.1,by have:=g.len;lia,fun n=>q _ ?_⟩⟩
    have g':=(g.put ks da).map (S:=DA K Y (upd H p (.dT (n,zk ep.2 kv ks b) (putK kv ks v)))) fun v d h=>h.upd hp;refine⟨(n,zk ep.2 kv ks b),_,KA.go (Y:=Y) (H:=H) (fun c hc=>?_) (fun c o e n=>by rw[bj fun z=>n (by rw[z];exact hp)];exact e) (fun c z=>.inl z),bX,g'.1,g'.2⟩
    unfold zk at hc;split at hc
    ·exact ka c hc
    ·rcases Wd.mp hc with hc|hc
     ·exact ka c hc
     ·rw[Yb.mp hc];exact⟨t.2,by rw[t.1];simp⟩
   ·rw[Ak c]at e;cases e
  | _=>cases e
 | dk kvs =>
  refine bsO e fun kk e1 e=>?_;by_cases c:kvs.length<100000
  ·rw[Ag c]at e;cases e;obtain⟨kv,h1,h2,h3⟩:=ho;have:=KH bk e1;subst this;have g:Go (DA K Y H) kv kvs:=⟨h2,h3⟩;refine⟨p,rfl,.inl ⟨kv,kk,h1,rfl,by have:=g.len;lia,q _ ?_⟩⟩
   have g':=(g.put kk da).map (S:=DA K Y (upd H p (.dK (putK kv kk v)))) fun v d h=>h.upd hp;exact⟨_,bX,g'.1,g'.2⟩
  ·rw[Ak c]at e;cases e
 | _=>cases e
def KK(d:D):FE:=fun st=>some (.f d,st)
def Gs:RdE K Ev (KK (.dk [])):=by
 intro st σ H O Z Q E r st' h q;cases h;intro p hp;have hres:RES K (U O Z) H (upd H p (.dK [])) (.ref p) (.dk [],true):=⟨p,rfl,hp,[],bX,rfl,fun i v d a _=>by simp at a⟩
 obtain⟨E3,rv⟩:=hres.rv E (bw hp _);exact q _ _ O (Same.ext (bw hp _)) (Kp.refl _) E3 rv fun p' e=>by cases e;exact hp
end
section
variable {X:Cx}
def Gu(hu:X.A.units+1<cLine)(ho:PE X o td)(hi:PE X i ty)(hs:Lg i):PE X (.Subscript o i pos) (tOp rDG td ty):=HZ hu ho hi hs
def zZ(hu:X.A.units+1<cLine):K2 X KJ:=by
 intro pins s σ H o i v ov iv u Q I ro ri rv h;obtain⟨a,rfl,g⟩:=h;cases ro;exact zn hu I g ri rv fun s' H' I' q=>⟨H',I',q⟩
end
end VF22
namespace VF22
open PySem PySem.Spec PyProof.Rows L2 VF
section
variable {prog:Program}{w:World}{A:Around}{E:Value->Shared->Prop}{s:Shared}
def RawD(h:Heap)(d:Addr)(es:Array DictEntry)(ep:Nat):Prop:=∃o,h.get? d=some o/\o.ExactDict/\o.data=.dict es ep
def RawD.at{h h':Heap}(x:RawD h d es ep)(e:∀o,h.get? d=some o->h'.get? d=some o):RawD h' d es ep:=let ⟨o,ho,r⟩:=x;⟨o,e _ ho,r⟩
def RawD.typeIs(x:RawD s.heap d es ep):s.TypeIs (.ref d) "dict":=let ⟨o,ho,c,_⟩:=x;⟨o,ho,c.1⟩
def Gv{es:Array DictEntry}(hd:(d == sysModules)=false)(hm:RawD s.heap d es ep)
  (q:Q (.ref s.heap.objs.size) { s with heap:=s.heap.push { cls:=.type "dict_keyiterator",data:=.fields #[.ref d,.int 0 0,.int es.size 0,.int ep 0] } }) :
  wpAny (model prog w) A (pyIter (.ref d)) Q E s:=by
 have ty:=hm.typeIs;obtain⟨o,ho,hc,dat⟩:=hm;refine wpAny_pyIter_slot ty F.slot_dict_iter (As F.slot_dict_iter ty F.entry_dict_iter ?_ (F.args_dict_iter_1 _));unfold Builtin.«dict.__iter__»;refine Aa ?_;unfold Builtin.Dict.dictSlotNone;refine Aa (wpAny_notOrdered_dict ty ?_);show wpAny _ _ (pure (Value.ref d)) _ _ s;refine Ad ?_;show wpAny _ _ (Builtin.Dict.showsAll d >>= _) _ _ s;unfold Builtin.Dict.showsAll;rw[Ak (by rw[hd];exact Qd)]
 refine Aa (Ad (Aa (CL ho dat (Aa (C6 ho dat ?_)))));refine Aa (Ao (Ad ⟨_,rfl,"dict_keyiterator",_,⟨_,Ai _ rfl,rfl⟩,F.slot_dict_keyiterator_next.lookup,?_⟩));simpa[rawInt]using q
def Gw{es:Array DictEntry}{x:DictEntry}(hit:s.heap.IsKeyIter it d i es.size ep)(hm:RawD s.heap d es ep)(hx:es[i]?=some x)
  (q:∀h',h'.IsKeyIter it d (i+1) es.size ep->Heap.SameBut it s.heap h'->Q (some x.key) { s with heap:=h' }):wpAny (model prog w) A (pyNext (.ref it)) Q E s:=by
 obtain⟨o,ho,hc,hd⟩:=id hit;obtain⟨od,hod,hcd,hdd⟩:=hm;unfold pyNext;refine Aa (BM (Ap (name:=Str.ofString "__next__") hit.typeIs F.slot_dict_keyiterator_next (As F.slot_dict_keyiterator_next hit.typeIs F.entry_dict_keyiterator_next ?_ (F.args_dict_keyiterator_next_1 _))));refine Aa (Ad (Aa (Aa ?_)));refine Aa (AF hit.typeIs (Ad (Aa (wpAny_fieldsOf ho hd ?_))));have own:Builtin.Dict_items.ownsTuple "dict_keyiterator"=false:=by decide
 simp only[own,Xf,if_false];show wpAny _ _ (if (Value.ref d == Value.none)=true then _ else _) _ _ s;rw[Ak (show ¬ ((Value.ref d == Value.none)=true) from Qd)];refine Aa (Ad (Aa (CL hod hdd ?_)));rw[Ak (by simp)];refine Aa (Ad (Aa (C6 hod hdd ?_)))
 rw[Ak (by simp)];refine Ad ?_
 have hlt:i<es.size:=(Array.getElem?_eq_some_iff.mp hx).1;have ex:es[i]=x:=(Array.getElem?_eq_some_iff.mp hx).2;simp only[show ¬ ((i:Int)<0) from by lia,if_false,Qm,hx]
 refine Aa (Aa (AF hit.typeIs (Ad (Aa (wpAny_isOneOf_keyiter hit.typeIs ?_)))));show wpAny _ _ (setField (.ref it) 1 (rawInt ((i:Int)+1)) >>= _) _ _ s;refine Aa (Ca ho hd (by simp) ?_)
 have hit':(s.heap.update it (Obj.mapFields (·.setIfInBounds 1 (rawInt ((i:Int)+1))))).IsKeyIter it d (i+1) es.size ep:=⟨_,B7 _ ho (Obj.isFreed_of_fields (BB hd _)),(Obj.cls_mapFields ..).trans hc,by rw[BB hd];simp[rawInt]⟩
 refine Aa (AC (Aa (wpAny_isOneOf_keyiter (s:={ s with heap:=s.heap.update it (Obj.mapFields (·.setIfInBounds 1 (rawInt ((i:Int)+1)))) }) hit'.typeIs ?_)));show wpAny _ _ (pure x.key) _ _ _;exact Ad (Ad ⟨_,rfl,Ad (q _ hit' (Bu ..))⟩)
def IS{es:Array DictEntry}(hh:A.handled=none)(hit:s.heap.IsKeyIter it d i es.size ep)(hm:RawD s.heap d es ep)(hx:es.size<=i)
  (q:∀h',Heap.ExtBut it s.heap h'->Q none { s with heap:=h' }):wpAny (model prog w) A (pyNext (.ref it)) Q E s:=by
 obtain⟨o,ho,hc,hd⟩:=id hit;obtain⟨od,hod,hcd,hdd⟩:=hm;unfold pyNext;refine Aa (BM (Ap (name:=Str.ofString "__next__") hit.typeIs F.slot_dict_keyiterator_next (As F.slot_dict_keyiterator_next hit.typeIs F.entry_dict_keyiterator_next ?_ (F.args_dict_keyiterator_next_1 _))));refine Aa (Ad (Aa (Aa ?_)));refine Aa (AF hit.typeIs (Ad (Aa (wpAny_fieldsOf ho hd ?_))));have own:Builtin.Dict_items.ownsTuple "dict_keyiterator"=false:=by decide
 simp only[own,Xf,if_false];show wpAny _ _ (if (Value.ref d == Value.none)=true then _ else _) _ _ s;rw[Ak (show ¬ ((Value.ref d == Value.none)=true) from Qd)];refine Aa (Ad (Aa (CL hod hdd ?_)));rw[Ak (by simp)];refine Aa (Ad (Aa (C6 hod hdd ?_)))
 rw[Ak (by simp)];refine Ad ?_
 simp only[show ¬ ((i:Int)<0) from by lia,if_false,Qm,Array.getElem?_eq_none hx]
 refine Aa (Aa (AF hit.typeIs (Ad ?_)));show wpAny _ _ (setField (.ref it) 0 .none >>= _) _ _ s;refine Aa (Ca ho hd (by simp) ?_)
 show wpAny _ _ (newExc (.type "StopIteration") [] >>= _) _ _ _;refine Aa ?_;simp only[newExc,newTuple];refine Aa (Ao ?_ (by size_fits))
 refine Aa (m:=firstArgMember _ _) (wpAny_of_eq (a:=Value.none) (by first|rfl|(simp only[firstArgMember];rfl)) (Ao ?_ (by size_fits)))
 simp only[raiseNew];refine Aa (wpAny_handled ?_);rw[show A.in1.handled=none from hh];refine Aa (Ad (wpAny_throw ?_));refine Aa (wpAny_isInstance (T:="StopIteration") (b:=true) ⟨_,Ai _ rfl,rfl⟩ isSubtype_stop (Ad (q _ ?_)));exact((Bu ..).extBut.push _).push _
def z9(hh:A.handled=none)(I d:Addr)(hne:d≠I)(es:Array DictEntry)(ep:Nat) :
  Walks prog w A I [I,d] [I] es.size (fun i v=>(es[i]?).map (·.key)=some v) (fun i h=>h.IsKeyIter I d i es.size ep/\RawD h d es ep) where
 sub:=fun b hb=>by simp at hb;simp[hb]
 frame:=fun _ _ _ st hk=>⟨st.1.at fun o e=>hk I (by simp) o e,st.2.at fun o e=>hk d (by simp) o e⟩
 item:=fun i s Q E hi st hQ=>by
  have hx:es[i]?=some es[i]:=A6 hi;refine Gw st.1 st.2 hx fun h' hit' hs'=>hQ _ h' s.toks (by rw[hx];rfl) ⟨hit',st.2.at fun o e=>hs'.extBut d o hne e⟩ fun b o hb e=>hs'.extBut b o (fun z=>hb (by simp[z])) e
 done:=fun s Q E st hQ=>IS hh st.1 st.2 (Va _) fun h' he'=>hQ h' s.toks fun b o hb e=>he' b o (fun z=>hb (by simp[z])) e
 self:=fun _ _ _ _ st hQ=>wpAny_pyIter_keyiter st.1 hQ
end
end VF22
namespace VF22
open PySem PySem.Spec PyProof.Rows L2 VF
section
variable {X:Cx}{K:Ab}{O O' Z:AS}{H H':Hp}{tg:Expr}
def gI:Key->D
 | .inl i=>.int i
 | .inr x=>.str x
theorem Gx(k:Key):DA K Y H (kV k) (gI k):=by
 cases k with
 | inl i=>exact .int i
 | inr x=>exact .str x
end
end VF22
namespace VF22
open PySem PySem.Spec PyProof.Rows L2 VF TS
section
variable {prog:Program}{w:World}{A:Around}{E:Value->Shared->Prop}{s:Shared}
def RawD.lt{h:Heap}(x:RawD h d es ep):d<h.objs.size:=let ⟨_,ho,_⟩:=x;Aj ho
def IT{es:Array DictEntry}(lo:(d == sysModules)=false):PySem.W.KdlSrc prog w "dict" d d es.size (fun i v=>(es[i]?).map (·.key)=some v) (fun h=>RawD h d es ep) where
 type:=fun _ m=>m.typeIs
 there:=fun _ m=>⟨m.lt,m.lt⟩
 keep:=fun _ _ m k=>m.at fun o e=>k d (.inl rfl) o e
 notList:=by decide
 notTuple:=by decide
 hint:=fun _ _ _ _ m q=>PySem.W.kdl_hint_dict m.typeIs q
 iter:=fun _ _ hh m=>⟨_,_,(fun _ _ q=>Gv lo m q),z9 hh _ d (Qh m.lt) es ep,⟨⟨_,Ai _ rfl,rfl,rfl⟩,m.at fun o e=>Ac _ e⟩⟩
def uX{es:Array DictEntry}(hh:A.handled=none)(lo:(d == sysModules)=false)(hm:RawD s.heap d es ep)(hz:es.size<=sizeLine)
  (q:∀h' tk,(∀b o,s.heap.get? b=some o->h'.get? b=some o)->Q (es.toList.map (·.key)) { s with heap:=h',toks:=tk }):wpAny (model prog w) A (collect (.ref d)) Q E s:=by
 refine PySem.W.kdu_collect (IT lo) hh hm hz fun h' tk acc' kp hi=>?_;have e:acc'.toList=es.toList.map (·.key):=by
  refine BR (by rw[Xd,hi.1,Za,Xd]) fun i h1 h2=>?_
  have a:(es[i]?).map (·.key)=some acc'[i]:=hi.2 i acc'[i] (A6 (by simpa using h1))
  rw[A6 (by rw[Za,Xd]at h2;exact h2)]at a
  have a':=Option.some.inj a;rw[Array.getElem_toList,C3,Array.getElem_toList];exact a'.symm
 rw[e];exact q h' tk kp
def DI{vs:List Value}{ds:List D}(hh:A.handled=none)
  (coll:∀(A:Around)(E:Value->Shared->Prop)(Q:List Value->Shared->Prop),A.handled=none->(∀h' tk,(∀b o,s.heap.get? b=some o->h'.get? b=some o)->Q vs { s with heap:=h',toks:=tk })->wpAny (model prog w) A (collect x) Q E s)(hz:vs.length<=sizeLine)
  (hn:vs.length=ds.length) (r:∀(i:Nat) u d,vs[i]?=some u->ds[i]?=some d->RH s.heap u d) (pl:∀d∈ds,Pl 40 d) (ca:CA 40 ds) (hk:Kd ds κ) (hu:A.units+64<cLine)
  (fin:∀(γ:Array Nat)(h':Heap)(a:Addr)(n tk:Nat),γ.Perm (Array.range vs.length)->Sg (cD ds) γ 0 vs.length->(∀b o,s.heap.get? b=some o->h'.get? b=some o)->(∀b o,s.heap.get? b=some o->b≠a)->h'.get? a=some (seqObj "list" (dm vs γ) n)->Q (.ref a) { s with heap:=h',toks:=tk }) :
  wpAny (model prog w) A (call (.builtin "sorted") [x]) Q E s:=by
 refine Dl kind_sorted plain_sorted entry_sorted (args_sorted1 _) ?_;refine Aa (m:=checkCount "sorted" 1 1 _) (Ad (Aa (coll _ _ _ hh fun h1 tk kp=>Aa (Cj ?_))));have mine:(h1.push (seqObj "list" vs.toArray 0)).get? h1.objs.size=some (seqObj "list" vs.toArray 0):=Ai _ rfl;show wpAny _ _ _ _ _ { s with heap:=h1.push (seqObj "list" vs.toArray 0),toks:=tk };refine Aa (AC (As slot_list_sort ⟨_,mine,rfl⟩ entry_list_sort ?_ (args_list_sort _)));have old2:∀b o,s.heap.get? b=some o->b≠h1.objs.size:=fun b o e=>Qh (Aj (kp b o e));refine rD (s:={ s with heap:=h1.push (seqObj "list" vs.toArray 0),toks:=tk }) mine hz hn (fun i u d e1 e2=>(r i u d e1 e2).kept fun b o e=>?_) pl ca hk (by show A.units+1+1+40<cLine;lia) fun γ p g=>?_
 ·exact Ac _ (Ac _ ((Ch _ _ _ _ (old2 b o e)).trans (Ac _ (kp b o e))))
 ·obtain⟨n,hn'⟩:=sortedHeap_at (n:=0) (vs:=vs) (out:=dm vs γ) mine;refine⟨_,rfl,Ad ⟨_,rfl,fin γ _ _ n tk p g (fun b o e=>?_) old2 hn'⟩⟩;have hb:b<(h1.push (seqObj "list" vs.toArray 0)).objs.size:=by rw[size_push'];exact BK (Aj (kp b o e))
  rw[sortedHeap_old (old2 b o e) hb];exact Ac _ (kp b o e)
end
end VF22
namespace VF22
open PySem PySem.Spec PyProof.Rows L2 VF
section
variable {X:Cx}{K:Ab}
@[irreducible] def PAi(X:Cx)(es:List Expr)(t:TA):Prop:=PA X es t
def IU:PAi X [] uc:=by unfold PAi;exact ac
def uY(ha:PE X e te)(hr:PAi X es t)(h:jJ e=true):PAi X (e::es) (iH te t):=by
 unfold PAi at *;exact ai ha hr h
def IV(h:PAi X es t):PE X (.List es pos) (Lc t):=by
 unfold PAi at h;exact bM h
end
end VF22
namespace VF22
open PySem L2 VF
section
variable {X:Cx}{K:Ab}
def Oy:D->Bool
 | .dt _=>true
 | .dk _=>true
 | _=>false
def dOf:Rs->Option D
 | .d x=>some x
 | _=>none
def IW(fd fy fx:FE):FE:=fun st=>(fd st).bind fun x=>(cont x.2 x.1).bind fun d0=>if Oy d0=true then(fy x.2).bind fun y=>(fx y.2).bind fun z=>(cont z.2 x.1).bind fun d1=>(cont z.2 y.1).bind fun d2=>(atD d1 d2).bind fun o=>(dOf z.1).bind fun dz=>some (.d (o.getD dz),z.2) else none
def uZ(hd:RdE K td fd)(hy:RdE K ty fy)(hx:RdE K tx fx):RdE K (Ex td ty tx) (IW fd fy fx):=by
 intro st σ H O Z Q E r' st' h q;refine bsP h fun r1 st1 e1 h=>?_;refine bsO h fun d0 e0 h=>?_;obtain⟨c,h⟩:=aR h;refine bsP h fun r2 st2 e2 h=>?_;refine bsP h fun r3 st3 e3 h=>?_;refine bsO h fun d1 e4 h=>?_;refine bsO h fun d2 e5 h=>?_;refine bsO h fun o e6 h=>?_;refine bsO h fun dz e7 h=>?_;cases h;refine hd st σ H O Z _ E r1 st1 e1 fun v1 H1 O1 x1 k1 E1 rv1 w1=>?_;have b0:=rv1.ba E1 e0;have isd:∃a,v1=.ref a/\IsD H1 a:=by
  cases d0 with
  | dt kvs =>
   obtain⟨a,ep,kv,rfl,_,h1,_⟩:=b0;exact⟨a,rfl,.inr ⟨ep,kv,.inl h1⟩⟩
  | dk kvs =>
   obtain⟨a,kv,rfl,h1,_⟩:=b0;exact⟨a,rfl,.inl ⟨kv,.inl h1⟩⟩
  | _=>cases c
 obtain⟨a,rfl,isd⟩:=isd;refine⟨a,rfl,isd,hy st1 σ H1 O1 Z _ E1 r2 st2 e2 fun v2 H2 O2 x2 k2 E2 rv2 w2=>hx st2 σ H2 O2 Z _ E2 r3 st3 e3 fun v3 H3 O3 x3 k3 E3 rv3 w3=>?_⟩;have b1:=(rv1.nf.ext (x2.trans x3) (k2.trans k3)).ba E3 (by rw[fJ];exact e4)
 have b2:=(rv2.nf.ext x3 k3).ba E3 (by rw[fJ];exact e5)
 obtain⟨a',r,ea,g,hh⟩:=Ox b1 b2 e6;cases ea;refine⟨r,g,?_⟩;rcases hh with⟨rfl,rfl⟩|⟨v,d,rfl,rfl,da⟩
 ·cases r3 with
  | d x =>
   cases e7;exact q v3 H3 O3 ((x1.trans x2).trans x3) ((k1.trans k2).trans k3) E3 rv3 True.intro
  | f x=>cases e7
  | s i=>cases e7
 ·exact q v H3 O3 ((x1.trans x2).trans x3) ((k1.trans k2).trans k3) E3 da True.intro
end
end VF22
namespace VF
open PySem PySem.Spec PyProof.Rows L2
def fsc{N P:List Str}{sc:Scope}(h:N.Nodup/\(∀x∈P,sc.names.lookup x=some .local∨sc.names.lookup x=some .cell)/\∀y∈sc.names,y.2≠.free)(a:sc.kind=.function:=by rfl)(b:sc.isCoroutine=false:=by rfl)(c:sc.isGenerator=false:=by rfl)(d:N.take P.length=P:=by rfl):FnScope N P sc:=⟨a,b,c,h.1,d,h.2.1,h.2.2⟩
structure FH(K:Ab)(x:Str)(st:Stmt):Prop where
 ex:∃f fd,Fun K x x st f fd/\PySem.W.nsIn K mainGlobals x=some (some (.ref f))
def fh{K:Ab}{x:Str}{st:Stmt}{f:Addr}{oc:Value}{od an:Option Addr}{osl:Array (Option Value)}{kV doc pm cdv ct:Value}(a:PySem.W.nsIn K mainGlobals x=some (some (.ref f)))
  (l:K.lookup f=some ⟨oc,od,.func (PySem.W.fnOf x x (fI st) (dH st) (ak st) .none kV doc pm an cdv ct),osl⟩)(c:PySem.W.codeIn K cdv x=true)(k:PySem.W.keepIn K (.ref f)=true):FH K x st:=⟨f,_,Ly l c k,a⟩
def Bn(x:Str)(st:Stmt)(ps:List Str):Prop:=∀(kV doc pm:Value)(an:Option Addr)(cdv ct:Value)(us:List Value),us.length=ps.length->bindArgs (PySem.W.fnOf x x (fI st) (dH st) (ak st) .none kV doc pm an cdv ct) ⟨us,[]⟩=pure (ps.zip us)
theorem arS{n:Nat}{P:List Value->Prop}{us:List Value}(hl:us.length=n+1)(h:∀a r,r.length=n->P (a::r)):P us:=by
 cases us with
 | nil=>cases hl
 | cons a r=>exact h a r (Nat.succ.inj hl)
def ar1{P:List Value->Prop}(h:∀a,P [a])(us:List Value)(hl:us.length=1):P us:=arS hl fun a r hr=>by
 rw[Yi hr];exact h a
def ar2{P:List Value->Prop}(h:∀a b,P [a,b])(us:List Value)(hl:us.length=2):P us:=arS hl fun a r hr=>ar1 (P:=fun r=>P (a::r)) (h a) r hr
def ar3{P:List Value->Prop}(h:∀a b c,P [a,b,c])(us:List Value)(hl:us.length=3):P us:=arS hl fun a r hr=>ar2 (P:=fun r=>P (a::r)) (h a) r hr
section
variable {P:Program}{w:World}{K:Ab}{mg:Str->Option Value}{base h:Heap}{x:Str}{st:Stmt}{N ps:List Str}{k:Nat}{F:FS}
abbrev Bd'(P:Program)(w:World)(K:Ab)(mg:Str->Option Value)(base:Heap)(x:Str)(st:Stmt)(N:List Str)(k:Nat)(F:FS):Prop :=
 ∀{f:Addr}{cdv:Value}{A:Around}{outer:List Env}{s:Shared}{H:Hp}{E:XK},Room k (A.deeper (envOfC x (ak st) s.heap.objs.size f cdv))->∃t,PSs (ud CX0 P w K mg base N x (ak st) f cdv A outer s H E).nox (dH st) t/\RdS K t F
def okV(F':Fun K x x st f fd)(S:FnScope N ps (ak st))(hB:Bd' P w K mg base x st N k F):FnOk P w K mg base CX0 (k+1) f fd ps (spV K (bz F N.length ps.length)):=by
 refine F'.ok S (fun vs H Q E h=>LR h) fun cdv A outer s H vs Q E hr h=>?_;obtain⟨t,h1,h2⟩:=hB hr;exact⟨t,h1,Im h2 h⟩
def FH.cal(h':FH K x st)(X:K.In h)(G:h.Ns mainGlobals mg)(S:FnScope N ps (ak st))(hb:Bn x st ps)(hB:Bd' P w K mg base x st N k F):Cal P w K mg base x (k+1) ps (spV K (bz F N.length ps.length)):=by
 obtain⟨f,fd,F',a⟩:=h'.ex;exact⟨f,fd,okV F' S hB,AD X G a,F'.kp,F'.binds hb⟩
def FH.calI(h':FH K x st)(X:K.In h)(G:h.Ns mainGlobals mg)(S:FnScope N ps (ak st))(hb:Bn x st ps)(hB:Bd' P w K mg base x st N k F):Cal P w K mg base x (k+1) ps (jK K (cV F N.length ps.length)):=by
 obtain⟨f,fd,F',a⟩:=h'.ex;refine⟨f,fd,F'.ok S (fun vs H Q E h=>Ko h) fun cdv A outer s H vs Q E hr h=>?_,AD X G a,F'.kp,F'.binds hb⟩;obtain⟨t,h1,h2⟩:=hB hr;exact⟨t,h1,qU h2 h⟩
theorem FH.calR{sp:Nat->Sp}(h':FH K x st)(X:K.In h)(G:h.Ns mainGlobals mg)(hb:Bn x st ps)(m:Nat)(h0:∀f fd,FnOk P w K mg base CX0 0 f fd ps (sp 0))(h1:∀n,n<=m->Cal P w K mg base x n ps (sp n)->∀f fd,Fun K x x st f fd->FnOk P w K mg base CX0 (n+1) f fd ps (sp (n+1))):∀n,n<=m+1->Cal P w K mg base x n ps (sp n):=by
 obtain⟨f,fd,F',a⟩:=h'.ex;intro n;induction n with
 | zero=>exact fun _=>⟨f,fd,h0 f fd,AD X G a,F'.kp,F'.binds hb⟩
 | succ n ih=>exact fun hn=>⟨f,fd,h1 n (Nat.le_of_succ_le_succ hn) (ih (Nat.le_of_succ_le hn)) f fd F',AD X G a,F'.kp,F'.binds hb⟩
def IX:FnOk P w K mg base CX0 0 f fd ps (spV K (d9 0)):=by
 have no:∀vs H Q E,¬ spV K (d9 0) vs H Q E:=fun vs H Q E h=>by
  obtain⟨Z,ds,z,el,lv,e,q⟩:=h;obtain⟨u,_,hd,_⟩:=rj e;cases hd
 exact⟨fun vs H Q E h=>absurd h (no vs H Q E),fun A outer s H args us vs Q E _ _ _ _ h=>absurd h (no vs H Q E)⟩
def FH.alike{F:(List D->Option Rz)->FS}(h':FH K x st)(X:K.In h)(G:h.Ns mainGlobals mg)(S:FnScope N ps (ak st))(hb:Bn x st ps)(m:Nat)(hv:∀n u,Dp (n+1) u->bz (F (d9 n)) N.length ps.length [u,u]=some (.bl true,false))
  (hB:∀n g,n<=m->Cal P w K mg base x n ps (spV K g)->Bd' P w K mg base x st N n (F g)):∀n,n<=m+1->Cal P w K mg base x n ps (spV K (d9 n)) :=
 h'.calR X G hb m (fun _ _=>IX) fun n hn c f fd F'=>(okV F' S (hB n _ hn c)).imp fun vs H Q E hs=>by
  obtain⟨Z,ds,z,el,lv,e,q⟩:=hs;obtain⟨u,rfl,hd,rfl⟩:=rj e;exact⟨Z,[u,u],(.bl true,false),el,lv,hv n u hd,q⟩
theorem FH.law(h':FH K "law" st)(X:K.In h)(G:h.Ns mainGlobals mg)(hfa:mg "law"=some (.ref fa))(S:FnScope N ["_law_script"] (ak st))(hb:Bn "law" st ["_law_script"])(lv:∀ns:List Int,bz F N.length 1 [.fl (ns.map D.int)]=some (.bl true,false))
  (hB:∀base:Heap,Bd' P w K mg base "law" st N k F):∃fd:FuncData,(∀(s:Shared)(v:Value),BindsTo s fd ⟨[v],[]⟩ [("_law_script",v)])/\∀base:Heap,K.In base->base.Ns mainGlobals mg->FnOk P w K mg base CX0 (k+1) fa fd ["_law_script"] (xZ K):=by
 obtain⟨f,fd,F',a⟩:=h'.ex;have e:=hfa.symm.trans (AD X G a);cases e;refine⟨fd,fun s v=>?_,fun base _ _=>(okV F' S (hB base)).imp fun vs H Q E h=>?_⟩
 ·obtain⟨oc,od,kV,doc,pm,an,cdv,ct,osl,rfl,lk,hcd⟩:=F'.ex;exact .of_eq (hb kV doc pm an cdv ct [v] rfl)
 ·obtain⟨a,ns,rfl,sq,_,q⟩:=h;refine⟨fun _=>False,[.fl (ns.map D.int)],(.bl true,false),El.one (.fl (vs:=ns.map V.int) ?_ (by simp) fun i v d h1 h2=>?_),fun p z=>z.elim,lv ns,fun v H' _ r=>?_⟩
  ·rcases sq with s|s
   ·exact .inl ⟨s,fun z=>z⟩
   ·exact .inr fun H'=>.inr s
  ·rw[Qe]at h1 h2;obtain⟨c,e1,rfl⟩:=Yf.mp h1;rw[e1]at h2;obtain rfl:=Option.some.inj h2;exact .int _
  ·obtain rfl:=(show v=V.bl true from DA.ba (show DA K (fun _=>False) H' v (.bl true) from r));exact q H'
end
def walkL{l:PySem.W.OpenLaw}{loose:List Str}{XP:(Str->Option Value)->Heap->Prop}{YP:World->Heap->Prop}{d:DefRec}{K:Params->Ab}{k:Nat}(hn:l.most=some 63)(hdf:d.params.defaults=[])(hr:Room k callerA)
  (hY:∀(w:World)(h:Heap),YP w h->(K w.params).In h)
  (F:∀(w:World)(mg:Str->Option Value)(fa:Addr)(h:Heap),(K w.params).In h->h.Ns mainGlobals mg->mg d.name=some (.ref fa) ->
   ∃fd:FuncData,(∀(s:Shared)(u:Value),BindsTo s fd ⟨[u],[]⟩ [("_law_script",u)])/\∀base:Heap,(K w.params).In base->base.Ns mainGlobals mg->FnOk l.prog w (K w.params) mg base CX0 k fa fd ["_law_script"] (xZ (K w.params))) :
  PySem.W.WalkO q loose XP YP l.row.toRowW d [] (fun f vs=>PySem.call f vs) :=
 L2.walk_of (n:=63) (k:=k) (x:="_law_script") (CX:=fun _=>CX0) (sp:=fun w=>xZ (K w.params)) hn (by decide) hdf hr hY F (fun _ _ a ns hl _ hS=>⟨a,ns,rfl,hS,hl,fun _=>rfl⟩) fun _ _ _ _ _ z=>z
end VF
namespace VF22
open PySem PySem.Spec PyProof.Rows L2 VF TS
section
variable {X:Cx}{K:Ab}{Y:AS}{H:Hp}{s:Shared}{pins:List (Addr×Obj)}{σ:L2.St}
open Classical in
noncomputable def qE:D->D->Option Rz:=fun a b=>if Pl 40 a/\Pl 40 b/\Cp 40 a b then some (.bl (ltN 40 a b),false) else none
def Oz(K:Ab):R2:=fun x y H Q=>∃(Y:AS)(a b:D),BA K Y H x a/\BA K Y H y b/\Pl 40 a/\Pl 40 b/\Cp 40 a b/\Q (.bl (ltN 40 a b)) H
def MP:RdOp K (Oz K) qE:=by
 intro Y H x y d1 d2 z Q lv b1 b2 e q;unfold qE at e;obtain⟨c,e⟩:=aR e;cases e;exact⟨Y,d1,d2,b1,b2,c.1,c.2.1,c.2.2,q _ H (Same.refl H) (.bl _)⟩
def MQ(h:X.K=K)(hu:X.A.units+64<cLine):OpR X (compareOp .Lt) (Oz K):=by
 intro pins s σ H x y v u Q I rx ry ⟨Y,a,b,b1,b2,p1,p2,c,q⟩;exact RH.ltAt 40 (A:=X.A) p1 p2 c (b1.rh p1 I h rx) (b2.rh p2 I h ry) (by lia) _ _ _ _ ⟨.bl _,H,I,rfl,q⟩
inductive GT(K:Ab):V->D->Prop where
 | int (i:Int):GT K (.int i) (.int i)
 | str (x:Str):GT K (.str x) (.str x)
 | tup {a:Addr} {vs:List V} {ds:List D}:(∀H,SqT K H a vs)->vs.length=ds.length->(∀(i:Nat) v d,vs[i]?=some v->ds[i]?=some d->GT K v d)->GT K (.ref a) (.tup ds)
theorem GT.rh(h:GT K v d)(I:Inv X pins σ H s)(hK:X.K=K):∀{u:Value},RelV v u->RH s.heap u d:=by
 induction h with
 | int i=>intro u r;obtain⟨t,rfl⟩:=r;exact .int i t
 | str x=>intro u r;obtain⟨t,rfl⟩:=r;exact .str x t
 | @tup a vs ds h1 h2 h3 ih =>
  intro u r;cases r;obtain⟨its,r,t,_⟩:=I.tuple (hK ▸ h1 H);refine .tup t (r.length.symm.trans h2) fun i u d e1 e2=>?_;obtain⟨v,e3,rv⟩:=eU r i u e1;exact ih i v d e3 e2 rv
def GlT(K:Ab)(mg:Str->Option Value)(x:Str)(ds:List D):Prop:=∃a,mg x=some (.ref a)/\GT K (.ref a) (.tup ds)
def tGT(K:Ab)(ds:List D):TE:=fun _ H Q=>∀a,GT K (.ref a) (.tup ds)->Q (.ref a) H
def OB(hg:Gl X x)(hm:GlT K X.mg x ds)(hd:(x == ("__debug__":Str))=false:=by decide):PE X (.Name x pos) (tGT K ds):=by
 obtain⟨a,e,g⟩:=hm;exact fun _ _ _ H _ I q=>rW I hg e ⟨.ref a,H,I,rfl,q a g⟩ hd
open Classical in
def OC(K:Ab)(ds:List D):R2:=fun x y H Q=>∃(Y:AS)(a:D),BA K Y H x a/\Pl 40 a/\GT K y (.tup ds)/\(∀d∈ds,Pl 40 d)/\Q (.bl (decide (a∈ds))) H
open Classical in
theorem MR(h:X.K=K)(hu:X.A.units+64<cLine):OpR X (compareOp .In) (OC K ds):=by
 intro pins s σ H x y v u Q I rx ry ⟨Y,a,b1,p1,g,p2,q⟩;have r:=g.rh I h ry;cases r with
 | @tup l its _ hl hn f =>
  obtain⟨h1,h2⟩:=pF (A:=X.A) hn f p1 p2 (b1.rh p1 I h rx) hu;refine CW _ hl h1 ?_;rw[h2];exact⟨.bl _,H,I,rfl,q⟩
open Classical in
noncomputable def IY(ds:List D)(fe:FE):FE:=fun st=>(fe st).bind fun x=>(cont x.2 x.1).bind fun d=>if Pl 40 d/\∀e∈ds,Pl 40 e then some (.d (.bl (decide (d∈ds))),x.2) else none
def Gy(h:RdE K te fe):RdE K (tOp (OC K ds) te (tGT K ds)) (IY ds fe):=by
 intro st σ H O Z Q E r' st' h' q;refine bsP h' fun r1 st1 e1 h'=>?_;refine bsO h' fun d1 e3 h'=>?_;obtain⟨c,h'⟩:=aR h';cases h';refine h st σ H O Z _ E r1 st1 e1 fun v1 H1 O1 x1 k1 E1 rv1 w1=>fun a g=>?_;exact⟨_,d1,rv1.ba E1 e3,c.1,g,c.2,q _ H1 O1 x1 k1 E1 (.bl _) True.intro⟩
def IZ(h:o8 k v=true):RelV (kV k) v:=by
 rcases cz h with⟨i,t,rfl,rfl⟩|⟨x,t,rfl,rfl⟩
 ·exact⟨t,rfl⟩
 ·exact⟨t,rfl⟩
theorem Gz:∀{es:List DictEntry}{vs:List (Key×Value)},Pairs (cF P w) es vs->Vals (vs.map fun kv=>kV kv.1) (es.map (·.key))
 | _,_,.nil=>.nil
 | _,_,.cons h _ r=>.cons (IZ h) (Gz r)
theorem I0{kvs:List (Key×V)}{vs:List (Key×Value)}(h:KV kvs vs):vs.map (fun kv=>kV kv.1)=kvs.map fun kv=>kV kv.1:=by
 induction h with
 | nil=>rfl
 | cons h _ ih=>rw[We,We,ih,h.1]
def GA(K:Ab):List V->Hp->VK->Prop:=fun xs H Q=>∃(a:Addr)(kvs:List (Key×V))(κ:SortKind),xs=[.ref a]/\H a=some (.dK kvs)/\(∀x∈kvs.map (fun kv=>gI kv.1),Pl 40 x)/\CA 40 (kvs.map fun kv=>gI kv.1)/\Kd (kvs.map fun kv=>gI kv.1) κ /\
 ∀(p:Addr)(ws:List V),H p=none->(∀Y:AS,El K Y H ws (bR 40 (kvs.map fun kv=>gI kv.1)))->Q (.ref p) (upd H p (.lst ws))
def u3(h:X.K=K)(hc:X.calm=true)(hr:Room n X.A):CallR X (.builtin "sorted") (GA K):=by
 intro pins s σ H xs us Q I rv hh;obtain⟨a,kvs,κ,rfl,ha,pl,ca,hk,q⟩:=hh;obtain⟨u,rfl,ru⟩:=vals1 rv;cases ru;obtain⟨hz,lo,vs,rk,o,es,ep,e1,e2,e3,_,e5,_⟩:=JY I.hok ha;have vk:Vals (kvs.map fun kv=>kV kv.1) (es.toList.map (·.key)):=I0 rk ▸ Gz e5;have esz:(es.toList.map (·.key)).length=kvs.length:=by rw[← vk.length,Za]
 have esz':es.size=kvs.length:=by rw[Za,Xd]at esz;exact esz
 have ln:(es.toList.map (·.key)).length=(kvs.map fun kv=>gI kv.1).length:=by rw[esz,Za]
 refine DI (vs:=es.toList.map (·.key)) (ds:=kvs.map fun kv=>gI kv.1) (κ:=κ) (I.ok.hd hc) (fun A E Q hA q=>uX hA lo ⟨o,e1,e2,e3⟩ (by rw[esz'];exact hz) q) (by rw[esz];exact hz) ln (fun i u d g1 g2=>?_) pl ca hk hr.units fun γ h' p n tk pm g kp ge hat=>?_
 ·obtain⟨v,g3,rv⟩:=eU vk i u g1;have g2':=g2;rw[Qe]at g2 g3;obtain⟨kv,k1,k2⟩:=Yf.mp g2;rw[k1]at g3;cases g3;have da:DA K (fun _=>False) H (kV kv.1) (gI kv.1):=Gx kv.1;subst k2;exact da.rh (pl _ (Wb g2')) I h rv
 ·rw[ln]at pm g;have hpn:H p=none:=by
   cases e:H p with
   | none=>rfl
   | some o =>
    obtain⟨ob,e'⟩:=(I.hok p o e).there;exact absurd rfl (ge p ob e')
  have eo:=Gk ca pm g;have hγ:∀g∈γ.toList,g<kvs.length:=fun g hg=>by
   have:=(Array.perm_iff_toList_perm.mp pm).mem_iff.mp hg;rw[CH,Za]at this;exact Zk.mp this
  have e2:(dm (es.toList.map (·.key)) γ).toList=γ.toList.map fun g=>(es.toList.map (·.key)).getD g .none:=by unfold dm;simp
  have vw:Vals (γ.toList.map fun g=>(kvs.map fun kv=>kV kv.1).getD g .non) (dm (es.toList.map (·.key)) γ).toList:=by
   rw[e2];have:∀l:List Nat,(∀g∈l,g<kvs.length)->Vals (l.map fun g=>(kvs.map fun kv=>kV kv.1).getD g .non) (l.map fun g=>(es.toList.map (·.key)).getD g .none):=fun l=>by
    induction l with
    | nil=>exact fun _=>.nil
    | cons g l ih =>
     intro hl;have hg:g<kvs.length:=hl g Qa;have a1:(es.toList.map (·.key))[g]?=some ((es.toList.map (·.key))[g]'(by rw[esz];exact hg)):=Ya _
     obtain⟨v,g3,rv⟩:=eU vk g _ a1;refine .cons ?_ (ih fun x hx=>hl x (Xb _ hx));show RelV ((kvs.map fun kv=>kV kv.1).getD g .non) ((es.toList.map (·.key)).getD g .none);rw[Xe,Xe,a1,g3,Option.getD_some,Option.getD_some];exact rv
   exact this _ hγ
  refine⟨.ref p,upd H p (.lst (γ.toList.map fun g=>(kvs.map fun kv=>kV kv.1).getD g .non)),I.laid2 kp ge hpn ⟨?_,(dm (es.toList.map (·.key)) γ).toList,n,vw,by simpa using hat⟩,rfl,q p _ hpn fun Y=>?_⟩
  ·rw[Za,Xd,pm.size_eq,Bp,Za];exact hz
  ·rw[← eo];have:∀l:List Nat,(∀g∈l,g<kvs.length)->El K Y H (l.map fun g=>(kvs.map fun kv=>kV kv.1).getD g .non) (l.map (dk (kvs.map fun kv=>gI kv.1))):=fun l=>by
    induction l with
    | nil=>exact fun _=>El.nil
    | cons g l ih =>
     intro hl;have hg:g<kvs.length:=hl g Qa;rw[We,We];refine El.cons ?_ (ih fun x hx=>hl x (Xb _ hx));show DA K Y H ((kvs.map fun kv=>kV kv.1).getD g .non) _;rw[rC (d:=gI kvs[g].1) (by rw[Qe,Ya hg];rfl),Xe,Qe,Ya hg]
     exact Gx _
   exact this _ hγ
open Classical in
noncomputable def kF:List D->Option Rz
 | [.dk kvs]=>if (∀x∈kvs.map (fun kv=>gI kv.1),Pl 40 x)/\CA 40 (kvs.map fun kv=>gI kv.1)/\∃κ,Kd (kvs.map fun kv=>gI kv.1) κ then some (.lst (bR 40 (kvs.map fun kv=>gI kv.1)),true) else none
 | _=>none
theorem DJ:RdCB K (GA K) kF:=by
 intro Y H xs ds z Q lv bs e q;cases bs with
 | nil=>cases e
 | @cons v vs d ds b1 bs =>
  cases bs with
  | cons _ _=>cases d<;>cases e
  | nil =>
   cases d with
   | dk kd =>
    dsimp only[kF]at e;obtain⟨a,kvs,rfl,h1,h2,h3⟩:=b1;have ek:(kd.map fun kv=>gI kv.1)=kvs.map fun kv=>gI kv.1:=by
     have:∀{α:Type}(l:List (Key×α)),(l.map fun kv=>gI kv.1)=(l.map (·.1)).map gI:=fun l=>by rw[Vg];rfl
     rw[this,this,h2]
    rw[ek]at e;obtain⟨c,e⟩:=aR e;cases e;obtain⟨c1,c2,κ,c3⟩:=c;exact⟨a,kvs,κ,rfl,h1,c1,c2,c3,fun p ws hp el=>q _ _ (bw hp _) (iZ (el _) hp)⟩
   | _=>cases e
end
end VF22
namespace VF22
open PySem PySem.Spec PyProof.Rows L2 VF
section
variable {K:Ab}
def GV(K:Ab)(u:Value)(d:D):Prop:=∃v,RelV v u/\GT K v d
inductive GVs(K:Ab):List Value->List D->Prop where
 | nil:GVs K [] []
 | cons {u:Value} {d:D} {us:List Value} {ds:List D}:GV K u d->GVs K us ds->GVs K (u::us) (d::ds)
def gv_int:GV K (.int i t) (.int i):=⟨.int i,⟨t,rfl⟩,.int i⟩
theorem GVs.ex:∀{us:List Value}{ds:List D},GVs K us ds->∃vs,Vals vs us/\vs.length=ds.length/\∀(i:Nat) v d,vs[i]?=some v->ds[i]?=some d->GT K v d
 | _,_,.nil=>⟨[],.nil,rfl,fun i v d h=>by simp at h⟩
 | _,_,.cons h r=>by
  obtain⟨v,h1,h2⟩:=h;obtain⟨vs,r1,r2,r3⟩:=r.ex;refine⟨v::vs,.cons h1 r1,by rw[Yc,Yc,r2],fun i w d e1 e2=>?_⟩
  cases i with
  | zero=>cases e1;cases e2;exact h2
  | succ i=>exact r3 i w d (by simpa using e1) (by simpa using e2)
def gv_tup{us:List Value}{ds:List D}(h1:K.lookup a=some ⟨.type "tuple",td,.seq us.toArray n,sl⟩)(h:GVs K us ds)(h4:ds.length<=1000:=by decide):GV K (.ref a) (.tup ds):=by
 obtain⟨vs,r1,r2,r3⟩:=h.ex;have h4:us.toArray.size<=sizeLine:=by
  rw[Vb,← r1.length,r2];exact Yd h4 (by decide)
 exact⟨.ref a,rfl,.tup (fun H=>.inr ⟨_,us.toArray,n,h1,rfl,rfl,h4,r1⟩) r2 r3⟩
theorem GV.glt(h:GV K (.ref a) (.tup ds))(e:mg x=some (.ref a)):GlT K mg x ds:=by
 obtain⟨v,r,g⟩:=h;cases g with
 | @tup b vs _ h1 h2 h3 =>
  cases r;exact⟨a,e,.tup h1 h2 h3⟩
structure FHD(K:Ab)(x:Str)(st:Stmt)(ds:List Value):Prop where
 ex:∃f fd,FunD K x x st ds f fd/\PySem.W.nsIn K mainGlobals x=some (some (.ref f))
def fhd{x:Str}{st:Stmt}{ds:List Value}{f T:Addr}{nT:Nat}{oc tc:Value}{od an td:Option Addr}{osl tsl:Array (Option Value)}{kV doc pm cdv ct:Value}(a:PySem.W.nsIn K mainGlobals x=some (some (.ref f)))
  (l:K.lookup f=some ⟨oc,od,.func (PySem.W.fnOf x x (fI st) (dH st) (ak st) (.ref T) kV doc pm an cdv ct),osl⟩)(c:PySem.W.codeIn K cdv x=true)(k:PySem.W.keepIn K (.ref f)=true)(t:K.lookup T=some ⟨tc,td,.seq ds.toArray nT,tsl⟩):FHD K x st ds :=
 ⟨f,_,⟨⟨_,_,_,_,_,_,_,_,_,_,_,_,rfl,l,c,t,rfl⟩,k⟩,a⟩
def BnD(x:Str)(st:Stmt)(ps:List Str)(ds:List Value):Prop:=∀(T:Addr)(kV doc pm:Value)(an:Option Addr)(cdv ct:Value)(us:List Value),(us++ds).length=ps.length ->
 ∃k:Option (Array Value)->Sem (List (Str×Value)),bindArgs (PySem.W.fnOf x x (fI st) (dH st) (ak st) (.ref T) kV doc pm an cdv ct) ⟨us,[]⟩=seqItems? (.ref T) >>= k/\k (some ds.toArray)=pure (ps.zip (us++ds))
variable {P:Program}{w:World}{mg:Str->Option Value}{base h:Heap}{x:Str}{st:Stmt}{N ps:List Str}{k:Nat}{F:FS}{ds:List Value}{dvs:List V}
def FHD.calI(h':FHD K x st ds)(X:K.In h)(G:h.Ns mainGlobals mg)(S:FnScope N ps (ak st))(hb:BnD x st ps ds)(hv:Vals dvs ds)(hB:Bd' P w K mg base x st N k F):CalD P w K mg base x (k+1) ps dvs (jK K (cV F N.length ps.length)):=by
 obtain⟨f,fd,F',a⟩:=h'.ex;refine⟨f,fd,ds,F'.ok S (fun vs H Q E h=>Ko h) fun cdv A outer s H vs Q E hr h=>?_,AD X G a,F'.kp,F'.binds hb,hv⟩;obtain⟨t,h1,h2⟩:=hB hr;exact⟨t,h1,qU h2 h⟩
def OD(K:Ab)(ta:TE):TT:=fun σ H Q=>ta σ H fun x H'=>∃k,La K x H' k/\Q k H'
def I8{X:Cx}{a:Expr}(h:X.K=K)(ha:PE X a ta)(he:∀whole,isTrue a X.env whole=(do let v ← whole;standAt a.pos;holding [v] (truthy v)):=by intro _;rfl):PT X a (OD K ta):=h ▸ Es ha he
def GB(fa:FE):FT:=fun st=>(fa st).bind fun x=>(cont x.2 x.1).bind fun d=>(d.seq).bind fun ds=>some (!ds.isEmpty,x.2)
def u4(ha:RdE K ta fa):RdT K (OD K ta) (GB fa):=by
 intro st σ H O Z Q E c st' h q;refine bsP h fun r1 st1 e1 h=>bsO h fun d e2 h=>bsO h fun ds e3 h=>?_;cases h;refine ha st σ H O Z _ E r1 st1 e1 fun v1 H1 O1 x1 k1 E1 rv1 w1=>?_;obtain⟨a,vs,rfl,sq,el⟩:=m8 (rv1.ba E1 e2) e3;have e:(!ds.isEmpty)=!vs.isEmpty:=by
  have:=el.1;cases vs<;>cases ds<;>first|rfl|cases this
 refine⟨!ds.isEmpty,?_,q H1 O1 x1 k1 E1⟩;rcases sq with sq|sq
 ·exact .inl ⟨vs,sq,e⟩
 ·exact .inr (.inl ⟨vs,sq,e⟩)
def MS{st s:En}{r:Rs}{d:D}{ds:List D}{b:Bool}(h:fe st=some (r,s))(h1:cont s r=some d)(h2:Pl 40 d)(h3:∀e∈ds,Pl 40 e)(h4:b=true↔d∈ds):IY ds fe st=some (.d (.bl b),s):=by
 classical
 simp only[IY,h,h1,Wa];rw[Ag ⟨h2,h3⟩];have:decide (d∈ds)=b:=by
  rw[Wf,decide_eq_true_eq];exact h4.symm
 rw[← this]
def GC(h1:Pl 40 a)(h2:Pl 40 b)(h3:Cp 40 a b):qE a b=some (.bl (ltN 40 a b),false):=by
 unfold qE;rw[Ag ⟨h1,h2,h3⟩]
def DK{kvs:List (Key×D)}(h1:∀x∈kvs.map (fun kv=>gI kv.1),Pl 40 x)(h2:CA 40 (kvs.map fun kv=>gI kv.1))(h3:∃κ,Kd (kvs.map fun kv=>gI kv.1) κ):kF [.dk kvs]=some (.lst (bR 40 (kvs.map fun kv=>gI kv.1)),true):=by
 dsimp only[kF];exact Ag ⟨h1,h2,h3⟩
end
end VF22
namespace VF22
open PySem PySem.Spec PyProof.Rows L2 VF
section
variable (K:Ab){X:Cx}{a b o:Expr}{ta tb to:TE}{p pos apos cpos:Pos}
def aE(ha:PE X a ta)(hb:PE X b tb)(h:X.K=K:=by rfl)(hs:xB b:=by exact fun _ _=>rfl):PE X (.Subscript a b pos) (tOp (rIx K) ta tb):=NJ (Ig h) ha hb hs
def aZ(hm:X.mg "len"=none)(ha:PE X a ta)(h:X.K=K:=by rfl)(hg:Gl X "len":=by rfl)(n:jJ a=true:=by rfl):PE X (.Call (.Name "len" p) [a] [] pos) (tCB (Fq K) (iH ta uc)) :=
 be (zL h) hg hm PySem.boot_len (ai ha ac n) (by decide) (by decide) (gr n) rfl
def b9(hm:X.mg "tuple"=none)(ha:PE X a ta)(h:X.K=K:=by rfl)(c:X.calm=true:=by rfl)(hg:Gl X "tuple":=by rfl)(n:jJ a=true:=by rfl):PE X (.Call (.Name "tuple" p) [a] [] pos) (tCB (sG K) (iH ta uc)) :=
 iI (uF h c) hg hm dw (ai ha ac n) (by decide) (by decide) (gr n) rfl
def cx(hm:X.mg "isinstance"=none)(ha:PE X a ta)(hb:PE X b tb)(h:X.K=K:=by rfl)(hg:Gl X "isinstance":=by rfl)(n:jJ a=true:=by rfl)(n':jJ b=true:=by rfl)(hpl:(backTo pos (starEach [b] X.env)).any (·.1)=false:=by rfl) :
  PE X (.Call (.Name "isinstance" p) [a,b] [] pos) (tCB (Mr K) (iH ta (iH tb uc))) :=
 be (sH h) hg hm L2.boot_isinstance (ai ha (ai hb ac n') n) (by decide) (by decide) (gr n) hpl
def bG(ha:PE X a ta)(hb:PE X b tb)(h:X.K=K:=by rfl):PE X (.BinOp a .Add b pos) (tOp (xT K) ta tb):=cI (xU h) ha hb
def jg(ho:OpR X (compareOp op) r)(ha:PE X a ta)(hb:PE X b tb)(h:op≠.In:=by decide)(h2:op≠.NotIn:=by decide):PE X (.Compare a [op] [b] pos) (tOp r ta tb):=mr ho ha hb (Em _ h h2)
def aO(ho:OpR X (compareOp op) r)(ha:PE X a ta)(hb:PE X b tb)(h:op≠.In:=by decide)(h2:op≠.NotIn:=by decide):PT X (.Compare a [op] [b] pos) (xo (tOp r ta tb)):=eP ho ha hb (Em _ h h2)
def cc(ho:PE X o to)(ha:PE X a ta)(n:jJ a=true:=by rfl)(hbase:attributeBase o "append" X.env (eval o X.env)=eval o X.env:=by rfl)
  (hfew:((backTo cpos (starEach [a] X.env)).all (fun x=>!x.1)&&(backToKw cpos (keywordEach [] X.env)).all (fun x=>x.1.isSome)
   && decide (([a]:List Expr).length+([]:List Keyword).length+(if ([]:List Keyword).isEmpty then 0 else 1)<30))=true:=by rfl)
  (hline:(apos.endLine == cpos.line)=true:=by rfl):PE X (.Call (.Attribute o "append" apos) [a] [] cpos) (tBM X.K "list" sn to (iH ta uc)) :=
 kW Au PySem.F.slot_list_append PySem.F.type_list_append zp ho (ai ha ac n) hbase hfew hline (gr n) rfl
end
end VF22
namespace VF22
open PySem L2 VF
def MT{X:Cx}{ON:List Str}{S:Scope}{C:Addr}{s:Shared}{H:Hp}{fp:List Addr}{N:List Str}{k:Nat}{caps:List Nat}{scope:Scope}(h:EH S ON N k caps scope=true):BlkScope (cxC X ON S C s H fp) N k caps scope:=by
 have B:=cg (X:={ X with N:=ON,env:={ X.env with scope:=S } }) h rfl rfl;refine⟨B.kind,B.nocell,B.loc,fun y hy hf=>?_,B.len,B.cap⟩;have q:S.names.lookup y.1=some .cell∨S.names.lookup y.1=some .free:=B.free y hy hf;show(relabel S X.env).names.lookup y.1=some .cell∨(relabel S X.env).names.lookup y.1=some .free;rcases eQ (env:=X.env) (x:=y.1) S.names with⟨_,z⟩|⟨a,b,e1,e2,e3⟩
 ·rw[z]at q;rcases q with q|q<;>cases q
 ·have e4:(relabel S X.env).names.lookup y.1=some b:=e2;rw[e4];rw[e1]at q;rcases e3 with e3|e3
  ·rw[e3];exact q
  ·rw[e3.2];exact .inl rfl
end VF22
namespace VL
open PySem L2 VF
def Lw(x:Str):Prop:=∀c∈x.cps.toList,97<=c/\c<=122
abbrev letS:Str:=Str.ofString "abcdefghijklmnopqrstuvwxyz"
def pM:letS.cps.toList=List.range' 97 26:=by decide +kernel
def Nm(x:Str):Prop:=1<=x.length/\x.length<=6/\Lw x
def GD{ys:List Str}(h:∀y∈ys,∃c,y=⟨#[c]⟩/\97<=c/\c<=122):Lw (Txt.join (Str.ofString "") ys):=by
 intro c hc;have e:Txt.join (Str.ofString "") ys=Str.join (Str.ofString "") ys:=StrLaws.glued_eq_join _ _;rw[e]at hc;rcases(PyProof.Rows.mem_join _ _ _).mp hc with⟨t,ht,hct⟩|⟨_,z⟩
 ·obtain⟨c',rfl,h1⟩:=h t ht;have:c=c':=by simpa using hct
  rw[this];exact h1
 ·have hE:(Str.ofString "").cps.toList=[]:=by decide +kernel
  rw[hE]at z;cases z
theorem join_ones{ys:List Str}(h:∀y∈ys,∃c,y=(⟨#[c]⟩:Str)):(Txt.join (Str.ofString "") ys).length=ys.length :=
 PySem.W.KT.join_ones ys fun a ha=>by obtain⟨c,rfl⟩:=h a ha;rfl
theorem GE{ys:List Str}(h:∀y∈ys,∃c,y=(⟨#[c]⟩:Str)):(ys.map (·.length)).sum=ys.length:=by
 induction ys with
 | nil=>rfl
 | cons y r ih =>
  obtain⟨c,rfl⟩:=h y Qa;rw[We,List.sum_cons,ih fun z hz=>h z (Xb _ hz)];show 1+r.length=r.length+1;lia
def Lw.app{x y:Str}(a:Lw x)(b:Lw y):Lw (x++y):=fun c hc=>by
 rw[Cb,Bv]at hc;rcases Wd.mp hc with z|z
 ·exact a c z
 ·exact b c z
def GF:Lw (Str.ofString ""):=fun c hc=>by
 have hE:(Str.ofString "").cps.toList=[]:=by decide +kernel
 rw[hE]at hc;cases hc
def word(s:Nat):Str:=Txt.mul ⟨#[97+s % 26]⟩ (1+((s:Nat):Int) / 26)
def kG(s:Nat):(word s).cps.toList=List.replicate (1+s / 26) (97+s % 26):=by
 unfold word;rw[PyProof.Rows.mul_one_list];have e:(1+((s:Nat):Int) / 26).toNat=1+s / 26:=by lia
 rw[e]
def u5(s:Nat):(word s).length=1+s / 26:=by
 have:=congrArg List.length (kG s);rw[Wk,Xd]at this;exact this
def GG{a b:Nat}(h:word a=word b):a=b:=by
 have h1:(word a).cps.toList=(word b).cps.toList:=by rw[h]
 rw[kG,kG]at h1;have h2:=congrArg List.length h1;rw[Wk,Wk]at h2;have h3:=congrArg (fun l=>l[0]?) h1;simp only[Zn]at h3;rw[Ag (by lia),Ag (by lia)]at h3
 have h4:=Option.some.inj h3;lia
def I9{s:Nat}(h:s<=120):Nm (word s):=by
 refine⟨by rw[u5];lia,by rw[u5];lia,fun c hc=>?_⟩
 rw[kG]at hc;have:=Dm hc;lia
def DL{xs:List Str}{s:Nat}(h:∀j,j<s->word j∈xs):s<=xs.length:=by
 have:=uu ((List.range s).map word) xs (by
  show List.Pairwise _ _;rw[CP];exact List.nodup_range.imp fun hne e=>hne (GG e)) (fun x hx=>by
  obtain⟨j,hj,rfl⟩:=Qc.mp hx
  exact h j (Zk.mp hj))
 rw[Za,AQ]at this;exact this
def MU(s:Nat):atI letS.cps.toList (((s:Nat):Int) % 26)=some (97+s % 26):=by
 have e:((s:Nat):Int) % 26=(((s % 26:Nat)):Int):=by lia
 rw[e];refine kA ?_;rw[pM,List.getElem?_range' (by lia)]
 congr 1;lia
theorem jh{α:Type}:∀{l:List α}{i:Nat}(h:i<l.length),(l[i]::l.eraseIdx i).Perm l
 | _::_,0,_=>List.Perm.refl _
 | x::r,i+1,h=>(List.Perm.swap x _ _).trans (List.Perm.cons x (jh (l:=r) (i:=i) (Nat.lt_of_succ_lt_succ h)))
abbrev minus:Str:=Str.ofString "-"
def bd(p:Bool×Str):Str:=if p.1 then minus++p.2 else p.2
def ji:minus.cps.toList=[45]:=by decide +kernel
def pN{p:Bool×Str}(h:Nm p.2):1<=(bd p).length/\(bd p).length<=7:=by
 have e:minus.length=1:=by decide +kernel
 unfold bd;split
 ·rw[AM,e];have:=h.1;have:=h.2.1;lia
 ·have:=h.1;have:=h.2.1;lia
def Ja{x y:Str}(h:x.cps.toList=y.cps.toList):x=y:=by
 cases x;cases y;have:_=_:=Array.toList_inj.mp h;exact congrArg Str.mk this
def wz{n:Str}:Txt.slice (minus++n) (some 1) none=n:=by
 have e:minus.length=1:=by decide +kernel
 rw[PyProof.Rows.slice_from_eq (i:=1) (b:=((minus++n).length:Int)) (by decide) (by rw[AM,e];lia) rfl]
 refine Ja ?_;show((List.drop 1 (minus++n).cps.toList).take _).toArray.toList=_;rw[Cb,Bv,ji,AM,e];show List.take _ n.cps.toList=_;refine AJ ?_;rw[Xd];show n.length<=_;lia
def u7{p:Bool×Str}(h:Nm p.2):∃c,atI (bd p).cps.toList 0=some c/\(V.str ⟨#[c]⟩=V.str minus↔p.1=true):=by
 obtain⟨t,n⟩:=p;have em:(⟨#[45]⟩:Str)=minus:=by decide +kernel
 cases t with
 | true =>
  refine⟨45,?_,fun _=>rfl,fun _=>by rw[em]⟩
  show atI (minus++n).cps.toList 0=_;rw[Cb,Bv,ji];exact NL
 | false =>
  have h1:1<=n.length:=h.1;cases e:n.cps.toList with
  | nil =>
   have:=congrArg List.length e;rw[Xd]at this;have h2:n.cps.size=n.length:=rfl;rw[h2]at this;simp at this;lia
  | cons c r =>
   refine⟨c,?_,fun z=>?_,fun z=>by cases z⟩
   ·show atI n.cps.toList 0=_;rw[e];exact NL
   ·have hc:=h.2.2 c (by show c∈n.cps.toList;rw[e];exact Qa)
    have z1:(⟨#[c]⟩:Str)=minus:=V.str.inj z;rw[← em]at z1;have z2:c=45:=by simpa using z1
    lia
def DM{d:Int}{n:Str}(d0:0<=d)(d1:d<2):Txt.mul minus d++n=bd (decide (d=1),n):=by
 have h:d=0∨d=1:=by lia
 rcases h with rfl|rfl
 ·show(if (0:Int)<1 then Str.empty else _)++n=_;rw[Ag (by decide)]
  exact Str.empty_append n
 ·rfl
theorem Jb{n:Str}(h:Nm n):∃c r,n.cps.toList=c::r/\c≠45:=by
 cases e:n.cps.toList with
 | nil =>
  have h1:1<=n.length:=h.1;have:=congrArg List.length e;rw[Xd]at this;have h2:n.cps.size=n.length:=rfl;rw[h2]at this;simp at this;lia
 | cons c r =>
  refine⟨c,r,rfl,fun z=>?_⟩;have hc:=h.2.2 c (by rw[e];exact Qa)
  lia
def DN{t:Bool}{n:Str}(h:Nm n):Txt.startswith (bd (t,n)) minus=t:=by
 have e1:minus.length=1:=by decide +kernel
 have hl:=(pN (p:=(t,n)) h).1;unfold Txt.startswith
 rw[Af (show 0+minus.length<=(bd (t,n)).length by lia),Do,StrLaws.subAt_eq,ji,e1]
 cases t with
 | true =>
  show((((minus++n).cps.toList).drop 0).take 1 == [45])=true;rw[Cb,Bv,ji];rfl
 | false =>
  obtain⟨c,r,e,hc⟩:=Jb h;show(((n.cps.toList).drop 0).take 1 == [45])=false;rw[e];show([c] == [45])=false;simp[hc]
end VL
namespace K33
open PySem L2 VF VF22
noncomputable section
abbrev aq:FE:=aC 0
abbrev aJ:FE:=aC 1
abbrev bA:FE:=aC 2
abbrev aW:FE:=aC 3
abbrev bo:FE:=aC 4
abbrev dC:FE:=aC 5
abbrev dR:FE:=aC 6
abbrev pO:FE:=aC 7
abbrev lC:FE:=aC 8
abbrev GH:FE:=aC 9
abbrev Jc:FE:=aC 10
abbrev aL:FE:=fC (.int 0)
abbrev aF:FE:=fC (.int 1)
abbrev bY:FE:=fC (.int 2)
abbrev dJ:FE:=fC (.int 3)
abbrev jk:FE:=fC (.int 4)
abbrev sS:FE:=fC (.int 6)
abbrev yC:FE:=fC (.int 7)
abbrev u8:FE:=fC (.int 10)
abbrev GI:FE:=fC (.int 13)
abbrev GJ:FE:=fC (.int 18)
abbrev GK:FE:=fC (.int 23)
abbrev pP:FE:=fC (.int 26)
abbrev wA:FE:=fC (.int 7919)
abbrev u9:FE:=fC (.int 40013)
abbrev va:FE:=fC (.int 48271)
abbrev n5:FE:=fC (.int 65521)
abbrev kX:FE:=fC (.int 1000003)
abbrev pQ:FE:=fC (.int 12820163)
abbrev iN:FE:=fC (.int 2147483647)
def n6:FE :=
  (fOp bIn aq (fC (.str "abcdefghijklmnopqrstuvwxyz")))
def nq:FS :=
  (aD (sIf (m5 (gC (aA (fCB cf (aa aq (aa (fC (.ty "str")) ae))))) (gC (aA (sx bLe bLe aF (fCB bJ (aa aq ae)) sS)))) (bx (fC (.bl false))) bQ)
  (bx (fCB ou (aa (ce 1 [] (fIA aq) (gN 0) bZ n6) ae))))
def kH:List D->Option Rz:=bz nq 1 1
def jS:FS :=
  (bx (fBM "str" xS aq (aa (fC (.str "-")) ae)))
def dE:List D->Option Rz:=bz jS 1 1
def nr:FS :=
  (bx (fIf (aA (bq dE (aa aq ae))) (fSl bSl aq (cC aF) oNo) aq))
def iO:List D->Option Rz:=bz nr 1 1
def lD:FS :=
  (bx (fIf (aA (bq dE (aa aq ae))) (bq iO (aa aq ae)) (fOp cj (fC (.str "-")) aq)))
def lF:List D->Option Rz:=bz lD 1 1
def jl:FS :=
  (sIf (aA (fCB cf (aa bA (aa (fC (.ty "str")) ae)))) (bU (fM isL aY 1 (aa bA ae))) (bU (fM isL hV 1 (aa (fOp bIx bA aF) ae))))
def lG:FS :=
  (aD (aV (cB ae) 1)
  (aD (ft (fIA aq) (gN 2) jl)
  (bx aJ)))
def lH:List D->Option Rz:=bz lG 3 1
def gc:FE :=
  (bq iO (aa aq ae))
def lI:FS :=
  (bx (fCB bS (aa (ce 1 [] (fIA (bi lH (aa aq ae))) (gN 0) bZ gc) ae)))
def lK:List D->Option Rz:=bz lI 1 1
def lL:FS :=
  (bx (g9 (fCB cf (aa aq (aa (fC (.ty "int")) ae))) (Ki (fCB cf (aa aq (aa (fC (.ty "bool")) ae))))))
def pR:List D->Option Rz:=bz lL 1 1
def dL:FS :=
  (pA Gr (fOp cj (IW aJ aW aL) aF) 1 aW)
def dM:FS :=
  (ft (fIA (bi lK (aa bA ae))) (gN 3) dL)
def dN:FT :=
  (aA (fOp bLt (fOp Gq aJ aq) (fCB bJ (aa bA ae))))
def dO:FE :=
  aq
def gJ:FS :=
  (aD (aV (KK (.dk [])) 1)
  (aD (ft (fIA aq) (gN 2) dM)
  (aD (aV (ce 1 [1,0] (fIA (fCB kF (aa aJ ae))) (gN 0) dN dO) 4)
  (sIf (GB bo) ww bQ))))
def gK:List D->Option Rz:=bz gJ 5 1
def lM:FS :=
  (bx (bm (aa (bq iO (aa aq ae)) (aa (fIf (aA (bq dE (aa aq ae))) aF aL) ae))))
def eG:List D->Option Rz:=bz lM 1 1
def jU:FS :=
  (bx (bi eG (aa (bq lF (aa aq ae)) ae)))
def eN:List D->Option Rz:=bz jU 1 1
def lN:FS :=
  (bx (fCB bn (aa (fCB bS (aa aq ae)) ae)))
def fz:List D->Option Rz:=bz lN 1 1
def jm:FE :=
  (fOp qE aq aJ)
def pS:FS :=
  (bx (fCB ou (aa (ce 2 [] (fIZ (aa aq (aa (fSl bSl aq (cC aF) oNo) ae))) (gT 2 (gsC (gN 0) (gsC (gN 1) gsN))) bZ jm) ae)))
def dX:List D->Option Rz:=bz pS 1 1
def pU:FS :=
  (aD (sIf (m5 (gC (aA (fCB cf (aa aq (aa (fC (.ty "tuple")) ae))))) (m5 (aA (fOp bNe (fCB bJ (aa aq ae)) bY)) (gC (aA (bq kH (aa (fOp bIx aq aL) ae)))))) (bx (fC (.bl false))) bQ)
  (bx (g9 (bq pR (aa (fOp bIx aq aF) ae)) (fOp bIn (fOp bIx aq aF) (bm (aa aL (aa aF ae)))))))
def pV:List D->Option Rz:=bz pU 1 1
def gf:FE :=
  (bq pV (aa aq ae))
def lO:FS :=
  (aD (sIf (m5 (gC (aA (fCB cf (aa aq (aa (fC (.ty "tuple")) ae))))) (aA (fOp lm (fCB bJ (aa aq ae)) (bm (aa aF (aa bY ae)))))) (bx (fC (.bl false))) bQ)
  (bx (g9 (fCB ou (aa (ce 1 [] (fIA aq) (gN 0) bZ gf) ae)) (bq dX (aa aq ae)))))
def jn:List D->Option Rz:=bz lO 1 1
def gL:FS :=
  (bx (ce 2 [] (fIZ (aa aq (aa (fSl bSl aq (cC aF) oNo) ae))) (gT 2 (gsC (gN 0) (gsC (gN 1) gsN))) bZ (bi fz (aa (bm (aa (bi eN (aa aq ae)) (aa (bi eG (aa aJ ae)) ae))) ae))))
def eW:List D->Option Rz:=bz gL 1 1
def fZ:FS :=
  (aD (aV (fOp bIx aq aF) 1)
  (aD (aV (bi eG (aa (fOp bIx aJ aL) ae)) 2)
  (aD (aV (bi eN (aa (fOp bIx aJ (fUn Iq aF)) ae)) 3)
  (aD (aV (fIf (aA (fOp bEq (fOp bIx aq aL) (fC (.str "open")))) (cB (aa (bm (aa bA ae)) (aa (bm (aa aW ae)) ae))) (cB (aa (bi fz (aa (bm (aa bA (aa aW ae))) ae)) ae))) 4)
  (bx (fOp cj (bi eW (aa aJ ae)) bo))))))
def d7:List D->Option Rz:=bz fZ 5 1
def jV:FS :=
  (aD (aV (cB ae) 1)
  (aD (ft (fIA aq) (gN 2) (bU (fM isL hV 1 (aa (bi d7 (aa bA ae)) ae))))
  (bx (fCB bn (aa (fCB bS (aa aJ ae)) ae)))))
def fR:List D->Option Rz:=bz jV 3 1
def ia:FE :=
  (bq jn (aa aq ae))
def nC:FS :=
  (aD (sIf (m5 (gC (aA (fCB cf (aa aq (aa (fC (.ty "tuple")) ae))))) (aA (fOp lm (fCB bJ (aa aq ae)) (bm (aa aF (aa bY ae)))))) (bx (fC (.bl false))) bQ)
  (bx (g9 (fCB ou (aa (ce 1 [] (fIA aq) (gN 0) bZ ia) ae)) (bq dX (aa aq ae)))))
def gu:List D->Option Rz:=bz nC 1 1
def kI:FE :=
  (fCB bJ (aa aq ae))
def sT:FS :=
  (bx (fCB bn (aa (fCB bS (aa (ce 1 [] (fIA aq) (gN 0) bZ kI) ae)) ae)))
def kJ:List D->Option Rz:=bz sT 1 1
def jW:FS :=
  (bU (fM isL hV 1 (aa bA ae)))
def nE:FS :=
  (aD (aV (cB ae) 1)
  (aD (ft (fIA aq) (gN 2) jW)
  (bx (fCB bS (aa aJ ae)))))
def gw:List D->Option Rz:=bz nE 3 1
def ib:FE :=
  (bq gu (aa aq ae))
def nF:FS :=
  (aD (sIf (m5 (gC (aA (fCB cf (aa aq (aa (fC (.ty "tuple")) ae))))) (m5 (aA (fOp ni (fCB bJ (aa aq ae)) bY)) (gC (aA (fCB ou (aa (ce 1 [] (fIA aq) (gN 0) bZ ib) ae)))))) (bx (fC (.bl false))) bQ)
  (aD (aV (fOp bIx aq aL) 1)
  (aD (aV (fOp bIx aq aF) 2)
  (aD (aV (bi gw (aa aJ ae)) 3)
  (aD (sIf (m5 (gC (aA (bq dX (aa aW ae)))) (aA (fOp ni aW (bi gw (aa bA ae))))) (bx (fC (.bl false))) bQ)
  (bx (g9 (IY [.tup [.tup [.int 2],.tup [.int 1,.int 1]],.tup [.tup [.int 1,.int 1],.tup [.int 2]],.tup [.tup [.int 2,.int 2],.tup [.int 2,.int 2]],.tup [.tup [.int 1,.int 2],.tup [.int 1,.int 2]]] (bm (aa (bi kJ (aa aJ ae)) (aa (bi kJ (aa bA ae)) ae)))) (fOp ni aJ bA))))))))
def nG:List D->Option Rz:=bz nF 4 1
def wB:FS :=
  (aD (sIf (gC (aA (bq nG (aa aq ae)))) ww bQ)
  (bx (bm (aa (fOp bIx aq aF) (aa (fOp bIx aq aL) ae)))))
def wC:List D->Option Rz:=bz wB 1 1
def pW:FS :=
  (bx (bm (aa (bm (aa aq ae)) (aa (bm (aa (bm (aa (fOp bIx aq aL) ae)) (aa (bm (aa (fOp bIx aq aF) ae)) ae))) ae))))
def mH:List D->Option Rz:=bz pW 1 1
def jq:FT :=
  (aA (fOp bEq (fCB bJ (aa aq ae)) bY))
def jr:FE :=
  aq
def lP:FS :=
  (bx (ce 1 [] (fIA aq) (gN 0) jq jr))
def lQ:List D->Option Rz:=bz lP 1 1
def fA:FT :=
  (aA (fOp hZ aq aJ))
def fB:FE :=
  aq
def gM:FS :=
  (bx (ce 1 [1] (fIA (bi lQ (aa aq ae))) (gN 0) fA fB))
def eX:List D->Option Rz:=bz gM 2 2
def iy:FS :=
  (bx (bm (aa (bi eX (aa aq (aa aJ ae))) (aa (bi eX (aa aJ (aa aq ae))) ae))))
def iz:List D->Option Rz:=bz iy 2 2
def cX:FE :=
  (bi mH (aa aq ae))
def cY:FE :=
  (bi wC (aa (bi mH (aa aq ae)) ae))
def fD:FS :=
  (aD (bU (bi gK (aa (cB (aa aq (aa aJ ae))) ae)))
  (aD (aV (bi iz (aa (bi fR (aa aq ae)) (aa (bi fR (aa aJ ae)) ae))) 2)
  (aD (aV (ce 1 [] (fIA (fOp bIx bA aL)) (gN 0) bZ cX) 3)
  (bx (bm (aa aW (aa (ce 1 [] (fIA (fOp bIx bA aF)) (gN 0) bZ cY) ae)))))))
def fE:List D->Option Rz:=bz fD 4 2
def eY:FE :=
  (fOp uK aq aJ)
def dF:FT :=
  (aA (fCB ou (aa (ce 1 [1] (fIA (fOp bIx aq aL)) (gN 0) bZ eY) ae)))
def eZ:FE :=
  aq
def jt:FS :=
  (aD (aV (bi fE (aa aq (aa aJ ae))) 2)
  (aD (aV (bi fR (aa aq ae)) 3)
  (aD (aV (ce 1 [3] (fIA (fOp bIx bA aF)) (gN 0) dF eZ) 4)
  (bx (fCB bS (aa (fOp f8 (fOp bIx bA aL) bo) ae))))))
def cZ:List D->Option Rz:=bz jt 5 2
def lR:FS :=
  (bx (cB (aa (fCB jN (aa aq ae)) (aa aL (aa aL (aa aF (aa aL ae)))))))
def lS:List D->Option Rz:=bz lR 1 1
def ju:FS :=
  (aD (sIf (eK (aA (fOp bEq (fOp bIx aq bY) aL)) (aA (fOp bLt (fOp bIx aq aF) (fCB bJ (aa (fOp bIx aq aL) ae))))) (aD (aV (fOp bIx (fOp bIx aq aL) (fOp bIx aq aF)) 2)
  (aD (pA mD (fOp cj (fOp bIx aq aF) aF) 0 aF)
  (sIf (aA (fOp bGe bA (fOp NS u8 GJ))) (pA mD bA 0 bY) (pA mD (fOp pC (fOp cj (fOp cj (fOp oq (fOp bIx aq dJ) u9) (fOp pC bA kX)) aF) iN) 0 dJ)))) bQ)
  (aD (sIf (aA (fOp bGt (fOp bIx aq bY) aL)) (aD (aV (fOp pC (fOp bIx aq bY) aJ) 3)
  (aD (pA mD (fOp wg (fOp bIx aq bY) aJ) 0 bY)
  (bx aW))) bQ)
  (aD (pA mD (fOp cj (fOp bIx aq jk) aF) 0 jk)
  (aD (pA mD (fOp pC (fOp cj (fOp cj (fOp oq (fOp bIx aq dJ) va) pQ) (fOp bIx aq jk)) iN) 0 dJ)
  (bx (fOp pC (fOp wg (fOp pC (fOp oq (fOp cj (fOp pC (fOp bIx aq dJ) n5) aF) (fOp cj (fOp wg (fOp bIx aq dJ) n5) wA)) kX) yC) aJ))))))
def aB:D->List D->Option (Rz×D):=cV ju 4 2
def iA:FS :=
  (bx (fBM "str" Fo (fC (.str "")) (aa (ce 1 [0] (mz (aa aJ ae)) (gN 0) bZ (fOp bIx (fC (.str "abcdefghijklmnopqrstuvwxyz")) (fIO aB 1 (aa pP ae)))) ae)))
def dY:D->List D->Option (Rz×D):=cV iA 2 2
def lU:FS :=
  (aD (sIf (aA (fOp bNe aJ (fC (.str "")))) (bx (fOp cj aJ (fIO dY 0 (aa (fOp cj aF (fIO aB 0 (aa bY ae))) ae)))) bQ)
  (aD (sIf (aA (fOp bEq (fIO aB 0 (aa yC ae)) aL)) (aD (aV (cB (Fp ["to","turn","turns","ring","rings","odd","ours","row","rows","cuts","knots","cover"])) 2)
  (aD (aV (fOp cj bA (cB (Fp ["change","joins","theirs","one","two","home","none","open","keep","tox","onex"]))) 2)
  (bx (fOp bIx bA (fIO aB 0 (aa GK ae)))))) bQ)
  (bx (fIO dY 0 (aa (fOp cj aF (fIO aB 0 (aa sS ae))) ae)))))
def lV:D->List D->Option (Rz×D):=cV lU 3 2
def ie:FS :=
  (aD (aV (fC (.str "")) 2)
  (aD (sIf (aA (fOp bEq (fIO aB 0 (aa dJ ae)) aL)) (aV (fIO dY 0 (aa (fOp cj aF (fIO aB 0 (aa jk ae))) ae)) 2) bQ)
  (aD (aV (cB ae) 3)
  (aD (ft (mz (aa aJ ae)) (gN 4) (aD (aV (fIO lV 0 (aa bA ae)) 5)
  (aD (aV aL 6)
  (aD (sWh (aA (fOp bIn dC aW)) (aD (aV (fOp oq (fOp bIx (fC (.str "abcdefghijklmnopqrstuvwxyz")) (fOp pC dR pP)) (fOp cj aF (fOp wg dR pP))) 5)
  (aV (fOp cj dR aF) 6)) 200)
  (bU (fM isL aY 3 (aa dC ae)))))))
  (bx aW)))))
def jX:D->List D->Option (Rz×D):=cV ie 7 2
def gO:FS :=
  (aD (aV (fCB jN (aa aJ ae)) 2)
  (aD (aV (cB ae) 3)
  (aD (sWh (aA (fOp bNe bA (cB ae))) (bU (fM isL aY 3 (aa (fM isL ir 2 (aa (fIO aB 0 (aa (fCB bJ (aa bA ae)) ae)) ae)) ae))) 300)
  (bx aW))))
def cR:D->List D->Option (Rz×D):=cV gO 4 2
def gP:FS :=
  (aD (sIf (aA (fOp bEq (fOp bIx aq aL) (fC (.str "-")))) (bx (fSl bSl aq (cC aF) oNo)) bQ)
  (bx (fOp cj (fC (.str "-")) aq)))
def bH:List D->Option Rz:=bz gP 1 1
def lW:FS :=
  (bx (fCB bn (aa (ce 1 [0] (fIA (fIO cR 0 (aa aJ ae))) (gN 0) bZ (fOp cj (fOp oq (fC (.str "-")) (fIO aB 1 (aa bY ae))) aq)) ae)))
def gQ:D->List D->Option (Rz×D):=cV lW 2 2
def kK:FS :=
  (aD (aV (cB ae) 3)
  (aD (aV (cB ae) 4)
  (aD (ft (fIA (fIO gQ 0 (aa aJ ae))) (gN 5) (aD (bU (fM isL aY 4 (aa dC ae)))
  (sIf (aA (fOp bEq (fIO aB 0 (aa dJ ae)) aL)) (aD (bU (fM isL aY 3 (aa (bm (aa (fC (.str "open")) (aa (fCB bn (aa bo ae)) ae))) ae)))
  (aV (cB ae) 4)) (sIf (eK (aA bA) (aA (fOp bEq (fIO aB 0 (aa dJ ae)) aL))) (aD (bU (fM isL aY 3 (aa (bm (aa (fC (.str "ring")) (aa (fCB bn (aa bo ae)) ae))) ae)))
  (aV (cB ae) 4)) bQ))))
  (aD (sIf (aA (fOp bNe bo (cB ae))) (bU (fM isL aY 3 (aa (bm (aa (fC (.str "open")) (aa (fCB bn (aa bo ae)) ae))) ae))) bQ)
  (bx (fCB bn (aa aW ae)))))))
def kL:D->List D->Option (Rz×D):=cV kK 6 3
def jv:FS :=
  (aD (aV (ce 2 [] (fIA aJ) (gT 2 (gsC (gN 0) (gsC (gN 1) gsN))) bZ (bm (aa aq (aa (fCB jN (aa aJ ae)) ae)))) 3)
  (aD (ft (mz (aa (fIO aB 0 (aa jk ae)) ae)) (gN 4) (sIf (aA (fOp bNe aW (cB ae))) (aD (EU (fM isL ir 3 (aa (fIO aB 0 (aa (fCB bJ (aa aW ae)) ae)) ae)) (gT 2 (gsC (gN 5) (gsC (gN 6) gsN))))
  (aD (aV (fIO aB 0 (aa jk ae)) 7)
  (aD (aV (fIO aB 0 (aa (fCB bJ (aa dR ae)) ae)) 8)
  (aD (aV (fOp cj (fOp cj lC aF) (fIO aB 0 (aa (fOp zG (fCB bJ (aa dR ae)) lC) ae))) 9)
  (aD (sIf (aA (fOp bEq pO aL)) (aV (fOp cj (fOp cj (fSl bSl dR oNo (cC lC)) (ce 1 [] (fIA (uH (fSl bSl dR (cC lC) (cC GH)))) (gN 0) bZ (bq bH (aa aq ae)))) (fSl bSl dR (cC GH) oNo)) 6) (sIf (eK (aA (fOp bEq pO aF)) (aA (fOp bGt lC aL))) (aD (bU (fM isL aY 3 (aa (bm (aa (fC (.str "open")) (aa (fSl bSl dR oNo (cC lC)) ae))) ae)))
  (aD (aV (fSl bSl dR (cC lC) oNo) 6)
  (aV (fC (.str "open")) 5))) (sIf (eK (aA (fOp bEq pO bY)) (aA (fOp bNe aW (cB ae)))) (aD (aV (fM isL ir 3 (aa (fIO aB 0 (aa (fCB bJ (aa aW ae)) ae)) ae)) 10)
  (aV (fOp cj dR (fOp bIx Jc aF)) 6)) (sIf (eK (aA (fOp bEq pO dJ)) (aA bA)) (aV (fOp bIx (cB (aa (fC (.str "open")) (aa (fC (.str "ring")) ae))) (fIO aB 0 (aa bY ae))) 5) bQ))))
  (bU (fM isL aY 3 (aa (bm (aa dC (aa dR ae))) ae)))))))) bQ))
  (bx (fCB bn (aa (ce 2 [] (fIA aW) (gT 2 (gsC (gN 0) (gsC (gN 1) gsN))) bZ (bm (aa aq (aa (fCB bn (aa aJ ae)) ae)))) ae)))))
def lX:D->List D->Option (Rz×D):=cV jv 11 3
def jY(gs:List D->Option Rz):FS :=
  (aD (sIf (aA (fOp (LZ false) aJ (fC .non))) (bx (fOp (LZ false) aq (fC .non))) bQ)
  (aD (sIf (m5 (aA (fCB cf (aa aJ (aa (fC (.ty "bool")) ae)))) (aA (fCB cf (aa aq (aa (fC (.ty "bool")) ae))))) (bx (g9 (fCB cf (aa aJ (aa (fC (.ty "bool")) ae))) (g9 (fCB cf (aa aq (aa (fC (.ty "bool")) ae))) (fOp bEq aq aJ)))) bQ)
  (aD (sIf (aA (fCB cf (aa aJ (aa (fC (.ty "int")) ae)))) (bx (g9 (fCB cf (aa aq (aa (fC (.ty "int")) ae))) (fOp bEq aq aJ))) bQ)
  (aD (sIf (aA (fCB cf (aa aJ (aa (fC (.ty "str")) ae)))) (bx (g9 (fCB cf (aa aq (aa (fC (.ty "str")) ae))) (fOp bEq aq aJ))) bQ)
  (aD (sIf (m5 (aA (fOp bNe (fCB cf (aa aJ (aa (fC (.ty "tuple")) ae))) (fCB cf (aa aq (aa (fC (.ty "tuple")) ae))))) (aA (fOp bNe (fCB cf (aa aJ (aa (fC (.ty "list")) ae))) (fCB cf (aa aq (aa (fC (.ty "list")) ae)))))) (bx (fC (.bl false))) bQ)
  (bx (g9 (fOp bEq (fCB bJ (aa aq ae)) (fCB bJ (aa aJ ae))) (fCB ou (aa (ce 1 [0,1] (mz (aa (fCB bJ (aa aJ ae)) ae)) (gN 0) bZ (bq gs (aa (fOp bIx aJ aq) (aa (fOp bIx bA aq) ae)))) ae)))))))))
def lY:FS :=
  (aD (sIf (aA (fOp bEq (fOp bIx aq aL) (fC (.str "-")))) (bx (bm (aa (bm (aa (fSl bSl aq (cC aF) oNo) (aa aF ae))) (aa (bm (aa (fSl bSl aq (cC aF) oNo) (aa aL ae))) ae)))) bQ)
  (bx (bm (aa (bm (aa aq (aa aL ae))) (aa (bm (aa aq (aa aF ae))) ae)))))
def gR:List D->Option Rz:=bz lY 1 1
def gh:FS :=
  (aD (aV (cB ae) 1)
  (aD (ft (fIA aq) (gT 2 (gsC (gN 2) (gsC (gN 3) gsN))) (aD (aV (ce 1 [] (fIA aW) (gN 0) bZ (bi gR (aa aq ae))) 4)
  (aD (ft (mz (aa (fOp zG (fCB bJ (aa bo ae)) aF) ae)) (gN 5) (bU (fM isL aY 1 (aa (fCB bn (aa (fCB bS (aa (cB (aa (fOp bIx (fOp bIx bo dC) aF) (aa (fOp bIx (fOp bIx bo (fOp cj dC aF)) aL) ae))) ae)) ae)) ae))))
  (sIf (aA (fOp bEq bA (fC (.str "ring")))) (bU (fM isL aY 1 (aa (fCB bn (aa (fCB bS (aa (cB (aa (fOp bIx (fOp bIx bo (fUn Iq aF)) aF) (aa (fOp bIx (fOp bIx bo aL) aL) ae))) ae)) ae)) ae))) (aD (bU (fM isL aY 1 (aa (bm (aa (fOp bIx (fOp bIx bo aL) aL) ae)) ae)))
  (bU (fM isL aY 1 (aa (bm (aa (fOp bIx (fOp bIx bo (fUn Iq aF)) aF) ae)) ae))))))))
  (bx (fCB bn (aa (fCB bS (aa aJ ae)) ae)))))
def db:List D->Option Rz:=bz gh 6 1
def fj:FT :=
  (aA (fOp hZ aq (fOp bIx aJ aL)))
def fk:FE :=
  aq
def jw:FS :=
  (bx (fCB bn (aa (fCB bS (aa (fOp f8 (ce 1 [1] (fIA aq) (gN 0) fj fk) (fCB jN (aa (fOp bIx aJ aF) ae))) ae)) ae)))
def gi:List D->Option Rz:=bz jw 2 2
def fN:FS :=
  (aD (aV (cB (aa (fCB bn (aa (fCB bS (aa (cB (aa (fOp bIx bA dC) (aa (fOp bIx aW aL) ae))) ae)) ae)) (aa (bm (aa (fOp bIx bA (fOp zG aF dC)) ae)) ae))) 6)
  (bU (fM isL aY 4 (aa (bm (aa (bm (aa aq (aa aJ ae))) (aa (fCB bn (aa (fCB bS (aa dR ae)) ae)) ae))) ae))))
def jZ:FS :=
  (aD (aV aq 2)
  (aD (aV aJ 3)
  (aD (sIf (aA (fOp bEq (fCB bJ (aa aq ae)) aF)) (aD (aV aJ 2)
  (aV aq 3)) bQ)
  (aD (aV (cB ae) 4)
  (aD (ft (mz (aa bY ae)) (gN 5) fN)
  (bx bo))))))
def j7:List D->Option Rz:=bz jZ 7 2
def iB:FS :=
  (aD (aV (cB (aa (fCB bn (aa (fCB bS (aa (cB (aa (fOp bIx aW aL) (aa (fOp bIx bo dC) ae))) ae)) ae)) (aa (fCB bn (aa (fCB bS (aa (cB (aa (fOp bIx aW aF) (aa (fOp bIx bo (fOp zG aF dC)) ae))) ae)) ae)) ae))) 6)
  (bU (fM isL aY 1 (aa (bm (aa (bm (aa aW (aa bo ae))) (aa (fCB bn (aa (fCB bS (aa dR ae)) ae)) ae))) ae))))
def dZ:FS :=
  (sIf (aA (fOp kS (fOp f8 (fCB bJ (aa aW ae)) (fCB bJ (aa bo ae))) bY)) (bU (fM isL aY 1 (aa (bm (aa (bm (aa aW (aa bo ae))) (aa (bm (aa (fCB bn (aa (fCB bS (aa (fOp f8 aW bo) ae)) ae)) ae)) ae))) ae))) (sIf (aA (fOp kS (fOp f8 (fCB bJ (aa aW ae)) (fCB bJ (aa bo ae))) dJ)) (bU (fM isL hV 1 (aa (bi j7 (aa aW (aa bo ae))) ae))) (ft (mz (aa bY ae)) (gN 5) iB)))
def iC:FS :=
  (aD (aV (fOp bIx aq bA) 3)
  (aD (sIf (aA (fOp kS (fCB bJ (aa aW ae)) bY)) (bU (fM isL aY 1 (aa (bm (aa (bm (aa aW ae)) (aa (bm (aa (bm (aa (fOp bIx aW aL) ae)) (aa (bm (aa (fOp bIx aW aF) ae)) ae))) ae))) ae))) bQ)
  (ft (fIA (fSl oy aq (cC (fOp f8 bA aF)) oNo)) (gN 4) dZ)))
def j8:FS :=
  (aD (aV (cB ae) 1)
  (aD (ft (mz (aa (fCB bJ (aa aq ae)) ae)) (gN 2) iC)
  (bx (fCB bS (aa aJ ae)))))
def j9:List D->Option Rz:=bz j8 7 1
def fm:FS :=
  (aD (aV (cB ae) 2)
  (aD (ft (fIA (fIO cR 0 (aa aJ ae))) (gT 2 (gsC (gN 3) (gsC (gN 4) gsN))) (aD (sIf (aA (fOp bEq aW (fC (.str "ring")))) (aD (aV (fIO aB 0 (aa (fCB bJ (aa bo ae)) ae)) 5)
  (aV (fOp f8 (fSl oy bo (cC dC) oNo) (fSl oy bo oNo (cC dC))) 4)) bQ)
  (aD (sIf (aA (fOp bEq (fIO aB 0 (aa bY ae)) aL)) (aV (fCB bn (aa (ce 1 [] (fIA (uH bo)) (gN 0) bZ (bq bH (aa aq ae))) ae)) 4) bQ)
  (bU (fM isL aY 2 (aa (bm (aa aW (aa bo ae))) ae))))))
  (bx (fCB bn (aa bA ae)))))
def gS:D->List D->Option (Rz×D):=cV fm 6 2
def fO:FT :=
  (eK (aA (fOp kS (fCB bJ (aa aq ae)) bY)) (aA (fOp hZ aq aJ)))
def fP:FE :=
  aq
def kY:FT :=
  (eK (aA (fOp kS (fCB bJ (aa aq ae)) bY)) (aA (fOp hZ aq aJ)))
def kZ:FE :=
  aq
def kc:FS :=
  (aD (aV (ce 1 [1] (fIA aq) (gN 0) fO fP) 2)
  (bx (fOp cj (fCB bJ (aa bA ae)) (fCB bJ (aa (ce 1 [0] (fIA aJ) (gN 0) kY kZ) ae)))))
def fS:List D->Option Rz:=bz kc 3 2
def ke:FS :=
  (aD (sIf (aA (fOp bEq (fIO aB 0 (aa dJ ae)) aL)) (bx (zP kL 0 [.bl true] (aa bA ae))) bQ)
  (bx (fIO gS 0 (aa (zP lX 0 [.bl true] (aa aJ ae)) ae))))
def kf:D->List D->Option (Rz×D):=cV ke 3 3
def dP:FS :=
  (sIf (eK (aA (fOp kS (fCB bJ (aa aW ae)) bY)) (aA (fOp hZ aW aJ))) (bU (fM isL aY 2 (aa (bm (aa (bm (aa aW ae)) (aa (bm (aa (bm (aa (fOp bIx aW aL) ae)) (aa (bm (aa (fOp bIx aW aF) ae)) ae))) ae))) ae))) bQ)
def dQ:FS :=
  (sIf (eK (aA (fOp kS (fCB bJ (aa aW ae)) bY)) (eK (aA (fOp uK (bm (aa (fOp bIx aW aL) ae)) aq)) (aA (fOp uK (bm (aa (fOp bIx aW aF) ae)) aq)))) (bU (fM isL aY 2 (aa (bm (aa (bm (aa (bm (aa (fOp bIx aW aL) ae)) (aa (bm (aa (fOp bIx aW aF) ae)) ae))) (aa (bm (aa aW ae)) ae))) ae))) bQ)
def gU:FS :=
  (aD (aV (cB ae) 2)
  (aD (ft (fIA aq) (gN 3) dP)
  (aD (ft (fIA aJ) (gN 3) dQ)
  (bx (fCB bS (aa bA ae))))))
def gW:List D->Option Rz:=bz gU 4 2
def kg:FS :=
  (sIf (eK (aA (fOp kS (fOp cj (fCB bJ (aa (fOp bIx bo aL) ae)) (fCB bJ (aa (fOp bIx bo aF) ae))) dJ)) (aA (fOp bLt (bq fS (aa (bi gi (aa aq (aa bo ae))) (aa aJ ae))) aW))) (bU (fM isL aY 2 (aa bo ae))) bQ)
def nH:FS :=
  (aD (aV (cB ae) 2)
  (aD (sIf (aA (fOp bGt (fCB bJ (aa aq ae)) u8)) (bx (bi gW (aa aq (aa aJ ae)))) bQ)
  (aD (aV (bq fS (aa aq (aa aJ ae))) 3)
  (aD (ft (fIA (bi j9 (aa aq ae))) (gN 4) kg)
  (bx bA)))))
def gx:List D->Option Rz:=bz nH 5 2
def yD:FS :=
  (aD (aV (bi lS (aa aq ae)) 1)
  (aD (aV (fIO aB 1 (aa sS ae)) 2)
  (aD (sIf (aA (fOp bEq (fIO aB 1 (aa jk ae)) aL)) (aV (fIO aB 1 (aa GI ae)) 2) bQ)
  (aD (aV (fIO jX 1 (aa bA ae)) 3)
  (aD (aV (zP kL 1 [.bl true] (aa aW ae)) 4)
  (aD (aV (fIO kf 1 (aa bo (aa aW ae))) 5)
  (aD (aV (bi gx (aa (bi db (aa bo ae)) (aa (bi db (aa dC ae)) ae))) 6)
  (aD (aV (bi cZ (aa bo (aa dC ae))) 7)
  (aD (sIf (gC (aA (bq (d9 8) (aa pO (aa dR ae))))) (bx (fC (.bl false))) bQ)
  (aD (bU (fM isL aY 7 (aa (fC .non) ae)))
  (aD (pA mD (fC .non) 7 aL)
  (aD (sIf (gC (aA (bq (d9 8) (aa (bi cZ (aa dC (aa bo ae))) (aa (bi gx (aa (bi db (aa dC ae)) (aa (bi db (aa bo ae)) ae))) ae))))) (bx (fC (.bl false))) bQ)
  (bx (g9 (bq (d9 8) (aa (bi cZ (aa bo (aa dC ae))) (aa dR ae))) (bq (d9 8) (aa (bi cZ (aa bo (aa bo ae))) (aa (cB ae) ae)))))))))))))))))
end
end K33
namespace K33
open PySem L2 VF VF22
abbrev nl0:List Str:=["thing"]
abbrev nl1:List Str:=["bead"]
abbrev nl2:List Str:=["joint"]
abbrev nl3:List Str:=["_law_bead"]
abbrev nl4:List Str:=["joints"]
abbrev nl5:List Str:=["one","other"]
abbrev nl6:List Str:=["ours","theirs"]
abbrev nl7:List Str:=["_law_flow_here","_law_many"]
abbrev nl8:List Str:=["things"]
abbrev nl9:List Str:=["_law_script"]
abbrev DO:List Str:=["_law_found","_law_due_here"]
abbrev DP:List Str:=["_law_joints_here","_law_theirs"]
abbrev DQ:List Str:=["_law_kind","_law_beads"]
abbrev GL:List Str:=["_law_flow_here","_law_names_here"]
abbrev GM:List Str:=["_law_flow_here","_law_some","_law_rings","_law_strands","_law_k","_law_kind","_law_beads","_law_way","_law_low","_law_high","_law_other_here"]
abbrev GN:List Str:=["_law_joints_here","_law_deed"]
abbrev Jd:List Str:=["one","other","apart","cuts"]
abbrev Je:List Str:=["_law_joints_here","_law_theirs","_law_mine"]
abbrev Jf:List Str:=["_law_flow_here","_law_some","_law_names_here"]
abbrev MV:List Str:=["things","count","thing","name","lacked"]
abbrev MW:List Str:=["thing","gone","come","ends"]
abbrev MX:List Str:=["one","other","both","ours","joins"]
abbrev MY:List Str:=["_law_some","_law_joints_here","_law_kind","_law_beads","_law_ends_here","_law_k"]
abbrev MZ:List Str:=["_law_flow_here","_law_some","_law_told","_law_kind","_law_beads","_law_at"]
abbrev OE:List Str:=["strand","beads","begin","end","outer"]
abbrev OF:List Str:=["_law_flow_here","_law_many","_law_cell","_law_digit"]
abbrev OG:List Str:=["_law_flow_here","_law_stem","_law_words"]
abbrev OH:List Str:=["_law_flow_here","_law_many","_law_stem","_law_names_here","_law_k","_law_name_here","_law_spare"]
abbrev OI:List Str:=["_law_flow_here","_law_things","_law_left","_law_told"]
abbrev OJ:List Str:=["_law_flow_here","_law_names_here","_law_rings","_law_strands","_law_piece","_law_bead"]
abbrev OK:List Str:=["_law_flow_here","_law_names_here","_law_rings"]
abbrev OL:List Str:=["_law_flow_here","_law_some","_law_rings"]
abbrev OM:List Str:=["_law_one","_law_other_here","_law_pair","_law_free","_law_told","_law_k","_law_come"]
abbrev OO:List Str:=["_law_joints_here","_law_found","_law_k","_law_one","_law_other_here","_law_way","_law_come"]
abbrev OP:List Str:=["_law_joints_here","_law_theirs","_law_found","_law_joint"]
abbrev OQ:List Str:=["_law_joints_here","_law_theirs","_law_found","_law_far","_law_deed"]
abbrev OR:List Str:=["_law_script","_law_flow_here","_law_many","_law_names_here","_law_some","_law_other_here","_law_due_here","_law_found"]
abbrev OS:List Str:=["_law_k","_law_found","_law_due_here"]
def top(i:Nat):Stmt:=PySem.Challenge.pw_strandwright_k33_first_deeds_by_one.main.body.getD i (.Pass ⟨0,0,0,0⟩)
abbrev oS:Stmt:=top 7
abbrev nI:Stmt:=top 8
abbrev sU:Stmt:=top 9
abbrev nJ:Stmt:=top 10
abbrev pY:Stmt:=top 11
abbrev mI:Stmt:=top 12
abbrev pZ:Stmt:=top 14
abbrev gj:Stmt:=top 15
abbrev p6:Stmt:=top 17
abbrev nK:Stmt:=top 18
abbrev p7:Stmt:=top 19
abbrev oU:Stmt:=top 20
abbrev wD:Stmt:=top 21
abbrev mJ:Stmt:=top 22
abbrev gk:Stmt:=top 23
abbrev iD:Stmt:=top 24
abbrev nL:Stmt:=top 25
abbrev oV:Stmt:=top 28
abbrev sV:Stmt:=top 29
abbrev sW:Stmt:=top 30
abbrev oW:Stmt:=top 31
abbrev GO:Stmt:=top 32
abbrev wE:Stmt:=top 33
abbrev mK:Stmt:=top 35
abbrev gm:Stmt:=top 36
abbrev kh:Stmt:=top 37
abbrev d6:Stmt:=top 38
abbrev jx:Stmt:=top 39
abbrev wF:Stmt:=top 41
abbrev wG:Stmt:=top 42
abbrev kM:Stmt:=top 43
abbrev wH:Stmt:=top 44
abbrev sX:Stmt:=top 45
abbrev lZ:Stmt:=top 46
abbrev ma:Stmt:=top 47
abbrev sY:Stmt:=top 48
abbrev GP:Stmt:=top 49
abbrev nM:Stmt:=top 50
abbrev oX:Stmt:=top 51
abbrev wI:Stmt:=top 52
abbrev mL:Stmt:=top 53
abbrev mM:Stmt:=top 54
abbrev sZ:Stmt:=top 56
abbrev tf:Stmt:=top 55
abbrev jy:Stmt:=top 57
abbrev mN:Stmt:=top 58
abbrev tj:Stmt:=top 59
abbrev nN:Stmt:=top 60
abbrev GQ:Stmt:=top 61
abbrev M1:Stmt:=top 62
def wJ:FnScope nl0 nl0 (ak oS):=fsc (by decide +kernel)
def tm:FnScope nl1 nl1 (ak nI):=fsc (by decide +kernel)
def wK:FnScope nl1 nl1 (ak sU):=fsc (by decide +kernel)
def tq:FnScope nl1 nl1 (ak nJ):=fsc (by decide +kernel)
def sc_sbeadsin:FnScope ["thing","beads","part"] nl0 (ak pY):=fsc (by decide +kernel)
def vb:FnScope nl0 nl0 (ak mI):=fsc (by decide +kernel)
def vc:FnScope nl0 nl0 (ak pZ):=fsc (by decide +kernel)
def sc_srefuselacks:FnScope MV nl8 (ak gj):=fsc (by decide +kernel)
def vd:FnScope nl1 nl1 (ak p6):=fsc (by decide +kernel)
def tu:FnScope nl1 nl1 (ak nK):=fsc (by decide +kernel)
def ve:FnScope ["ends"] ["ends"] (ak p7):=fsc (by decide +kernel)
def wL:FnScope nl8 nl8 (ak oU):=fsc (by decide +kernel)
def DR:FnScope nl0 nl0 (ak wD):=fsc (by decide +kernel)
def vf:FnScope nl0 nl0 (ak mJ):=fsc (by decide +kernel)
def oz:FnScope ["beads"] ["beads"] (ak gk):=fsc (by decide +kernel)
def sc_sstrandjoints:FnScope OE ["strand"] (ak iD):=fsc (by decide +kernel)
def sc_sjointsof:FnScope ["some","joints","strand"] ["some"] (ak nL):=fsc (by decide +kernel)
def wM:FnScope nl0 nl0 (ak oV):=fsc (by decide +kernel)
def DS:FnScope nl4 nl4 (ak sV):=fsc (by decide +kernel)
def sc_sendsof:FnScope ["joints","ends","joint"] nl4 (ak sW):=fsc (by decide +kernel)
def sc_sisdeed:FnScope MW nl0 (ak oW):=fsc (by decide +kernel)
def GR:FnScope ["deed"] ["deed"] (ak GO):=fsc (by decide +kernel)
def DT:FnScope nl2 nl2 (ak wE):=fsc (by decide +kernel)
def vg:FnScope nl4 nl4 (ak mK):=fsc (by decide +kernel)
def oA:FnScope nl6 nl6 (ak gm):=fsc (by decide +kernel)
def p8:FnScope nl6 nl6 (ak kh):=fsc (by decide +kernel)
def sc_scutsandjoins:FnScope Jd nl5 (ak d6):=fsc (by decide +kernel)
def sc_sfirstsone:FnScope MX nl5 (ak jx):=fsc (by decide +kernel)
def DU:FnScope nl9 nl9 (ak wF):=fsc (by decide +kernel)
def sc_sLpick:FnScope OF nl7 (ak wG):=fsc (by decide +kernel)
def tw:FnScope nl7 nl7 (ak kM):=fsc (by decide +kernel)
def sc_sLname:FnScope OG ["_law_flow_here","_law_stem"] (ak wH):=fsc (by decide +kernel)
def sc_sLnames:FnScope OH nl7 (ak sX):=fsc (by decide +kernel)
def sc_sLshuffled:FnScope OI ["_law_flow_here","_law_things"] (ak lZ):=fsc (by decide +kernel)
def qF:FnScope nl3 nl3 (ak ma):=fsc (by decide +kernel)
def DV:FnScope GL GL (ak sY):=fsc (by decide +kernel)
def sc_sLset:FnScope OJ OK (ak GP):=fsc (by decide +kernel)
def sc_sLnear:FnScope GM OL (ak nM):=fsc (by decide +kernel)
def wN:FnScope DO DO (ak oX):=fsc (by decide +kernel)
def DW:FnScope nl3 nl3 (ak wI):=fsc (by decide +kernel)
def sc_sLjoints:FnScope MY ["_law_some"] (ak mL):=fsc (by decide +kernel)
def vh:FnScope GN GN (ak mM):=fsc (by decide +kernel)
def sc_sLthree:FnScope OM ["_law_one","_law_other_here"] (ak sZ):=fsc (by decide +kernel)
def sc_sLdeeds:FnScope OO ["_law_joints_here"] (ak tf):=fsc (by decide +kernel)
def sc_sLrestated:FnScope MZ ["_law_flow_here","_law_some"] (ak jy):=fsc (by decide +kernel)
def sc_sLapart:FnScope Je DP (ak mN):=fsc (by decide +kernel)
def wO:FnScope Jf Jf (ak tj):=fsc (by decide +kernel)
def sc_sLmanydue:FnScope OP DP (ak nN):=fsc (by decide +kernel)
def sc_sLdue:FnScope OQ DP (ak GQ):=fsc (by decide +kernel)
def sc_slaw:FnScope OR nl9 (ak M1):=fsc (by decide +kernel)
structure Md(K:Ab)(mg:Str->Option Value):Prop where
 n_all:mg "all"=none
 n_bool:mg "bool"=none
 n_int:mg "int"=none
 n_isinstance:mg "isinstance"=none
 n_len:mg "len"=none
 n_list:mg "list"=none
 n_range:mg "range"=none
 n_sorted:mg "sorted"=none
 n_str:mg "str"=none
 n_tuple:mg "tuple"=none
 n_zip:mg "zip"=none
 c_LETTERS:∃t,mg "LETTERS"=some (.str "abcdefghijklmnopqrstuvwxyz" t)
 c_LONGEST_NAME:∃t,mg "LONGEST_NAME"=some (.int 6 t)
 c_FORMS:GlT K mg "FORMS" [.tup [.tup [.int 2],.tup [.int 1,.int 1]],.tup [.tup [.int 1,.int 1],.tup [.int 2]],.tup [.tup [.int 2,.int 2],.tup [.int 2,.int 2]],.tup [.tup [.int 1,.int 2],.tup [.int 1,.int 2]]]
end K33
namespace VF
open PySem L2
def wP(h:CMul i j):oq (.int i) (.int j)=some (.int (i*j),false):=by
 have:xQ (.int i) (.int j)=some (.int (i*j),false):=by
  show(if CMul i j then some (D.int (i*j),false) else none)=_;rw[Ag h]
 unfold oq orD;rw[this]
def GS(h:0<j):pC (.int i) (.int j)=some (.int (i % j),false):=by
 show(if 0<j then some (D.int (i % j),false) else none)=_;rw[Ag h]
def M3(h:vZ i j):wg (.int i) (.int j)=some (.int (i / j),false):=by
 show(if vZ i j then some (D.int (i / j),false) else none)=_;rw[Ag h]
def ki(h:atI ds i=some d):bIx (.lst ds) (.int i)=some (d,false):=by
 have:Fh (.lst ds) (.int i)=some (d,false):=by
  show(atI ds i).bind (fun d=>some (d,false))=_;rw[h];rfl
 unfold bIx orD;rw[this]
def ix_tup(h:atI ds i=some d):bIx (.tup ds) (.int i)=some (d,false):=by
 have e1:Fh (.tup ds) (.int i)=none:=rfl;have:Iw (.tup ds) (.int i)=some (d,false):=by
  show(atI ds i).bind (fun d=>some (d,false))=_;rw[h];rfl
 unfold bIx orD;rw[e1,this]
def fF{f:FT}{st s:En}{b c:Bool}(h:f st=some (b,s))(e:b=c):f st=some (c,s):=e ▸ h
def p9{mm:D->D->D->Option D}{i:Nat}{st s1 s2 s3:En}{r rk:Rs}{dv dk z z':D}{t t0:Sl}{x0:D}(h1:fe st=some (r,s1))(h2:esc r s1=some (dv,s2))(h0:s2[i]?=some t0)(h00:t0.ow=some x0)(h3:fi s2=some (rk,s3))(h4:cont s3 rk=some dk)(h5:s3[i]?=some t)(h6:t.ow=some z)(h7:mm z dk dv=some z'){s4:En}(h8:s3.set i (t.put z')=s4:=by rfl):pA mm fe i fi st=some (.nx s4):=by
 simp only[pA,h1,h2,h0,h00,h3,h4,h5,h6,h7,h8,Wa]
end VF
namespace K33
open PySem L2 VF
def Fl(ns:List Int)(i m sd c:Int):D:=.lst [.lst (ns.map D.int),.int i,.int m,.int sd,.int c]
def b8(φ:D):Prop:=∃ns i m sd c,φ=Fl ns i m sd c/\0<=i/\0<=m/\0<=sd/\0<=c
def Jg(ns:List Int):lS [.fl (ns.map D.int)]=some (Fl ns 0 0 1 0,true):=rfl
def bT{φ : D}{n : Int}(hφ : b8 φ)(h0 : 0 < n)(h1 : n ≤ 1000) : ∃ d φ', aB φ [.int n] = some ((.int d, false), φ') ∧ 0 ≤ d ∧ d < n ∧ b8 φ' := by
  obtain ⟨ns, i, m, sd, c, rfl, hi, hm, hs, hc⟩ := hφ;have sp : ∃ A B, ju = aD A B ∧
     (∃ o i' m' sd', A [.io (Fl ns i m sd c), .v (.int n), .e, .e] = some (.nx [.io (Fl ns i' m' sd' c), .v (.int n), o, .e]) ∧ 0 ≤ i' ∧ 0 ≤ m' ∧ 0 ≤ sd') ∧
     (∀ o i m sd, 0 ≤ i → 0 ≤ m → 0 ≤ sd → ∃ d φ' s3, B [.io (Fl ns i m sd c), .v (.int n), o, .e] = some (.rt (.d (.int d)) [.io φ', .v (.int n), o, s3]) ∧ 0 ≤ d ∧ d < n ∧ b8 φ') := by
    refine ⟨_, _, rfl, ?_, ?_⟩
    · by_cases c1 : m = 0
      · subst c1
        by_cases c2 : i < ((ns.map D.int).length : Int)
        · obtain ⟨v, hv, hm', _⟩ := v9 hi c2
          obtain ⟨z, _, rfl⟩ := List.mem_map.mp hm';have t2 : eK (aA (fOp bEq (fOp bIx (aC 0) (fC (.int 2))) (fC (.int 0)))) (aA (fOp bLt (fOp bIx (aC 0) (fC (.int 1))) (fCB bJ (aa (fOp bIx (aC 0) (fC (.int 0))) ae)))) [.io (Fl ns i 0 sd c), .v (.int n), .e, .e] = some (true, [.io (Fl ns i 0 sd c), .v (.int n), .e, .e]) :=
            eT rfl (fF (b := decide (i < ((ns.map D.int).length : Int))) rfl (Af c2))
          by_cases c3 : (10 : Int) ^ (18 : Int).toNat ≤ z
          · have p18 : (0 : Int) ≤ 10 ^ (18 : Int).toNat := by decide
            refine ⟨.v (.int z), i + 1, z, sd, ?_, by lia, by lia, hs⟩
            refine dI t2 ?_;refine ao (cJ (x := .int z) (aw rfl rfl rfl rfl (ki hv)) rfl) ?_;refine ao (s := [.io (Fl ns (i + 1) 0 sd c), .v (.int n), .v (.int z), .e]) rfl ?_;refine dI (fF (b := decide ((10 : Int) ^ (18 : Int).toNat ≤ z)) (s := [.io (Fl ns (i + 1) 0 sd c), .v (.int n), .v (.int z), .e]) rfl (Af c3)) ?_;rfl
          · refine ⟨.v (.int z), i + 1, 0, (sd * 40013 + z % 1000003 + 1) % 2147483647, ?_, by lia, by lia, Bt _ (by decide)⟩
            refine dI t2 ?_;refine ao (cJ (x := .int z) (aw rfl rfl rfl rfl (ki hv)) rfl) ?_;refine ao (s := [.io (Fl ns (i + 1) 0 sd c), .v (.int n), .v (.int z), .e]) rfl ?_;refine b7 (fF (b := decide ((10 : Int) ^ (18 : Int).toNat ≤ z)) (s := [.io (Fl ns (i + 1) 0 sd c), .v (.int n), .v (.int z), .e]) rfl (Ae c3)) ?_;exact p9 (aw (aw (aw (aw rfl rfl rfl rfl (wP (j := 40013) (.inr ⟨by decide, by decide⟩))) rfl rfl rfl rfl) rfl rfl rfl rfl) rfl rfl rfl rfl) rfl rfl rfl rfl rfl rfl rfl rfl
        · refine ⟨.e, i, 0, sd, ?_, hi, hm, hs⟩
          exact b7 (eT (s := [.io (Fl ns i 0 sd c), .v (.int n), .e, .e]) rfl (fF (b := decide (i < ((ns.map D.int).length : Int))) rfl (Ae c2))) rfl
      · refine ⟨.e, i, m, sd, ?_, hi, hm, hs⟩
        have e : decide (V.int m = V.int 0) = false := Ae fun z => c1 (V.int.inj z);exact b7 (iK (fF (b := decide (V.int m = V.int 0)) (s := [.io (Fl ns i m sd c), .v (.int n), .e, .e]) rfl e)) rfl
    · intro o i m sd hi hm hs
      by_cases c1 : 0 < m
      · refine ⟨m % n, Fl ns i (m / n) sd c, .v (.int (m % n)), ?_, Bt _ (by lia), CD _ h0, ⟨ns, i, m / n, sd, c, rfl, hi, Int.ediv_nonneg hm (by lia), hs, hc⟩⟩
        refine iu ?_;refine dI (fF (b := decide (0 < m)) (s := [.io (Fl ns i m sd c), .v (.int n), o, .e]) rfl (Af c1)) ?_;refine ao (s := [.io (Fl ns i m sd c), .v (.int n), o, .v (.int (m % n))]) (cJ (aw rfl rfl rfl rfl (GS h0)) rfl) ?_;refine ao (s := [.io (Fl ns i (m / n) sd c), .v (.int n), o, .v (.int (m % n))]) (p9 (aw rfl rfl rfl rfl (M3 ⟨h0, by lia⟩)) rfl rfl rfl rfl rfl rfl rfl rfl) ?_
        rfl
      · refine ⟨(((sd * 48271 + 12820163 + (c + 1)) % 2147483647 % 65521 + 1) * ((sd * 48271 + 12820163 + (c + 1)) % 2147483647 / 65521 + 7919) % 1000003 / 7) % n, Fl ns i m ((sd * 48271 + 12820163 + (c + 1)) % 2147483647) (c + 1), .e, ?_, ?_, ?_, ⟨ns, i, m, _, _, rfl, hi, hm, Bt _ (by decide), by lia⟩⟩
        · refine ao (b7 (fF (b := decide (0 < m)) (s := [.io (Fl ns i m sd c), .v (.int n), o, .e]) rfl (Ae c1)) rfl) ?_
          refine ao (s := [.io (Fl ns i m sd (c + 1)), .v (.int n), o, .e]) rfl ?_;refine ao (s := [.io (Fl ns i m ((sd * 48271 + 12820163 + (c + 1)) % 2147483647) (c + 1)), .v (.int n), o, .e]) (p9 (aw (aw (aw (aw rfl rfl rfl rfl (wP (j := 48271) (.inr ⟨by decide, by decide⟩))) rfl rfl rfl rfl) rfl rfl rfl rfl) rfl rfl rfl rfl) rfl rfl rfl rfl rfl rfl rfl rfl) ?_
          have a := Bt ((sd * 48271 + 12820163 + (c + 1)) % 2147483647) (show (65521 : Int) ≠ 0 by decide)
          have b := CD ((sd * 48271 + 12820163 + (c + 1)) % 2147483647) (show (0 : Int) < 65521 by decide)
          exact aQ (aw (aw (aw (aw rfl rfl rfl rfl (wP (.inl ⟨by lia, by lia⟩))) rfl rfl rfl rfl) rfl rfl rfl rfl) rfl rfl rfl (GS h0))
        · exact Bt _ (by lia)
        · exact CD _ h0
  obtain ⟨A, B, eF, ⟨o, i', m', sd', eA, hi', hm', hs'⟩, hB⟩ := sp;obtain ⟨d, φ', s3, eB, h2, h3, h4⟩ := hB o i' m' sd' hi' hm' hs';refine ⟨d, φ', ?_, h2, h3, h4⟩;refine cr (o := .rt (.d (.int d)) [.io φ', .v (.int n), o, s3]) rfl ?_ rfl;rw [eF];exact ao eA eB
end K33
namespace K33
open PySem L2 VF VL
def md(hφ:b8 φ)(h0:0<=k)(h1:k<=100):∃x φ',dY φ [.int k]=some ((.str x,false),φ')/\(x.length:Int)=k/\Lw x/\b8 φ':=by
 have hE:(Str.ofString "").length=0:=by decide +kernel
 have cl:=rl (fg:=gN 0) (fc:=bZ) (k:=1) (fe:=fOp bIx (fC (.str "abcdefghijklmnopqrstuvwxyz")) (fIO aB 1 (aa (fC (.int 26)) ae)))
  (fun pre sb=>∃φ' ys,sb=[.e,.io φ']/\b8 φ'/\pre=ys.map D.str/\∀y∈ys,∃c,y=(⟨#[c]⟩:Str)/\97<=c/\c<=122) (by
   rintro pre x sb ⟨φ',ys,rfl,hf,rfl,hy⟩;obtain⟨d,φ2,e,d0,d1,hf2⟩:=bT (n:=26) hf (by decide) (by decide)
   obtain⟨c,hc,hm,_⟩:=v9 (xs:=letS.cps.toList) d0 (by rw[pM,List.length_range'];exact d1)
   refine⟨[.v x,.io φ'],[.v x,.io φ'],.d (.str ⟨#[c]⟩),[.v x,.io φ2],.str ⟨#[c]⟩,[.v x,.io φ2],rfl,rfl,aw rfl (bV rfl rfl rfl rfl rfl rfl e) rfl rfl (ix_str (by decide +kernel) hc),rfl,φ2,ys++[⟨#[c]⟩],rfl,hf2,by rw[Zc];rfl,fun y hy2=>?_⟩
   rcases Wd.mp hy2 with z|z
   ·exact hy y z
   ·have:y=⟨#[c]⟩:=by simpa using z
    rw[pM,List.mem_range'_1]at hm
    exact⟨c,this,by lia⟩)
  (rng 0 k.toNat) [] [.e,.io φ] ⟨φ,[],rfl,hφ,rfl,fun y hy=>by cases hy⟩
 obtain⟨ds,sf,e1,e2,φ',ys,rfl,hf,e3,hy⟩:=cl;rw[Vm]at e3;subst e3;rw[hU,Za]at e2;have hy':∀y∈ys,∃c,y=(⟨#[c]⟩:Str):=fun y h=>by obtain⟨c,e,_⟩:=hy y h;exact⟨c,e⟩
 refine⟨Txt.join (Str.ofString "") ys,φ',?_,by rw[join_ones hy'];lia,GD hy,hf⟩
 have hj:Fo (.str "") [.lst (ys.map D.str)]=some (.str (Txt.join (Str.ofString "") ys),false):=by
  show(m9 (ys.map D.str)).bind (fun ys=>if (ys.map (·.length)).sum+ys.length*(Str.ofString "").length<=16777216 then some (D.str (Txt.join (Str.ofString "") ys),false) else none)=_;rw[pD];show(if _ then _ else _)=_;rw[Ag (by rw[GE hy',hE];lia)]
 refine cr (o:=.rt (.d (.str (Txt.join (Str.ofString "") ys))) [.io φ',.v (.int k)]) rfl ?_ rfl
 exact aQ (N6 rfl rfl rfl (af (bF (fK rfl rfl ⟨by lia,by lia⟩) (by
  show(true&&decide ((rng 0 k.toNat).length<=1000000))=true
  rw[hU,Af (by lia)];rfl) e1) rfl) rfl rfl hj)
abbrev w1:List Str:=["to","turn","turns","ring","rings","odd","ours","row","rows","cuts","knots","cover"]
abbrev w2:List Str:=["change","joins","theirs","one","two","home","none","open","keep","tox","onex"]
abbrev wordsS:List Str:=w1++w2
def okN(x:Str):Bool:=decide (1<=x.length/\x.length<=6)&&x.cps.toList.all fun c=>decide (97<=c/\c<=122)
def M4(h:okN x=true):Nm x:=by
 unfold okN at h;rw[Vh,decide_eq_true_eq,Zl]at h;exact⟨h.1.1,h.1.2,fun c hc=>Am (h.2 c hc)⟩
def GU:∀v∈wordsS,okN v=true:=Zl.mp (by decide +kernel)
def Jh{st:Str}(hφ:b8 φ)(hst:st.length<=4)(lst:Lw st):∃x φ',lV φ [.str st]=some ((.str x,false),φ')/\Nm x/\b8 φ':=by
 by_cases c0:st=""
 ·subst c0;obtain⟨d,φ1,e1,d0,d1,f1⟩:=bT (n:=7) hφ (by decide) (by decide)
  by_cases c1:d=0
  ·subst c1;obtain⟨d2,φ2,e2,d20,d21,f2⟩:=bT (n:=23) f1 (by decide) (by decide)
   obtain⟨v,hv,hm,_⟩:=v9 (xs:=wordsS.map D.str) d20 (by rw[Za];exact d21)
   obtain⟨x,hx,rfl⟩:=Qc.mp hm;refine⟨x,φ2,?_,M4 (GU x hx),f2⟩;refine cr (o:=.rt (.d (.str x)) [.io φ2,.v (.str ""),.o (.lst (wordsS.map D.str))]) rfl ?_ rfl;refine ao (s:=[.io φ,.v (.str ""),.e]) rfl ?_;refine iu ?_;refine dI (s:=[.io φ1,.v (.str ""),.e]) (aG (aw (bV rfl rfl rfl rfl rfl rfl e1) rfl rfl rfl rfl) rfl) ?_;refine ao (s:=[.io φ1,.v (.str ""),.o (.lst (w1.map D.str))]) rfl ?_;refine ao (s:=[.io φ1,.v (.str ""),.o (.lst (wordsS.map D.str))]) rfl ?_;exact aQ (aw rfl (bV rfl rfl rfl rfl rfl rfl e2) rfl rfl (ki hv))
  ·obtain⟨d2,φ2,e2,d20,d21,f2⟩:=bT (n:=6) f1 (by decide) (by decide)
   obtain⟨x,φ3,e3,hx,lx,f3⟩:=md (k:=1+d2) f2 (by lia) (by lia)
   refine⟨x,φ3,?_,⟨by lia,by lia,lx⟩,f3⟩
   refine cr (o:=.rt (.d (.str x)) [.io φ3,.v (.str ""),.e]) rfl ?_ rfl;refine ao (s:=[.io φ,.v (.str ""),.e]) rfl ?_;have t:decide (V.int d=V.int 0)=false:=Ae fun z=>c1 (V.int.inj z);refine ao (b7 (s:=[.io φ1,.v (.str ""),.e]) (fF (b:=decide (V.int d=V.int 0)) (aG (aw (bV rfl rfl rfl rfl rfl rfl e1) rfl rfl rfl rfl) rfl) t) rfl) ?_;exact aQ (bV rfl rfl (af (aw rfl (bV rfl rfl rfl rfl rfl rfl e2) rfl rfl rfl) rfl) rfl rfl rfl e3)
 ·obtain⟨d,φ1,e1,d0,d1,f1⟩:=bT (n:=2) hφ (by decide) (by decide)
  obtain⟨x,φ2,e2,hx,lx,f2⟩:=md (k:=1+d) f1 (by lia) (by lia)
  refine⟨st++x,φ2,?_,⟨by rw[AM];lia,by rw[AM];lia,lst.app lx⟩,f2⟩
  refine cr (o:=.rt (.d (.str (st++x))) [.io φ2,.v (.str st),.e]) rfl ?_ rfl;refine iu ?_;have t:(!decide (V.str st=V.str ""))=true:=by rw[Ae (fun z=>c0 (V.str.inj z))];rfl
  refine dI (s:=[.io φ,.v (.str st),.e]) (fF (b:=!decide (V.str st=V.str "")) rfl t) ?_;exact aQ (aw rfl (bV rfl rfl (af (aw rfl (bV rfl rfl rfl rfl rfl rfl e1) rfl rfl rfl) rfl) rfl rfl rfl e2) rfl rfl (oO (by lia)))
end K33
namespace VF
open PySem L2
def bB{s t:Sl}{st s1:En}(h:st[i]?=some t)(n:t.isIo=false)(e:st.set i s=s1:=by rfl):my i s st=some s1:=by
 unfold my;rw[h];show(if t.isIo=true then none else some (st.set i s))=_;rw[Ak (by rw[n];decide),e]
def cO{xs:List D}(h:xs.length<1000000):aY (.lst xs) [y]=some (.non,.lst (xs++[y])):=by
 show(if xs.length<1000000 then some (D.non,D.lst (xs++[y])) else none)=_;rw[Ag h]
def qa{xs:List D}{i:Int}(h0:0<=i)(h1:i<xs.length)(h2:xs.length<=1000000)(hk:i.toNat<xs.length):ir (.lst xs) [.int i]=some (xs[i.toNat],.lst (xs.eraseIdx i.toNat)):=by
 show(if -(2 ^ 63)<=i/\i<2 ^ 63 then(seqIndex? i xs.length).bind fun k=>(xs[k]?).bind fun y=>some (y,D.lst (xs.eraseIdx k)) else none)=_;rw[Ag ⟨by lia,by lia⟩,PySem.seqIndex_of h0 h1]
 show(xs[i.toNat]?).bind (fun y=>some (y,D.lst (xs.eraseIdx i.toNat)))=_;rw[Ya hk];rfl
def gq{α:Type}{f:α->D}{g:D->α}(hg:∀a,g (f a)=a){ys:List D}{xs:List α}(p:ys.Perm (xs.map f)):∃zs:List α,ys=zs.map f/\zs.Perm xs:=by
 have h1:∀y∈ys,∃z,y=f z:=fun y hy=>by
  obtain⟨z,_,rfl⟩:=Qc.mp (p.mem_iff.mp hy);exact⟨z,rfl⟩
 refine⟨ys.map g,?_,?_⟩
 ·rw[Vg];refine(AY ys).symm.trans (Qi fun y hy=>?_);obtain⟨z,rfl⟩:=h1 y hy;show f z=f (g (f z));rw[hg]
 ·have:=p.map g;rw[Vg]at this;refine this.trans (List.Perm.of_eq ?_);exact(Qi fun z _=>hg z).trans (AY xs)
end VF
namespace K33
open PySem L2 VF VL
def GW(hφ:b8 φ)(h0:0<=n)(h1:n<=100):∃(xs:List Str)(φ':D),jX φ [.int n]=some ((.lst (xs.map D.str),true),φ')/\(xs.length:Int)=n/\(∀x∈xs,Nm x)/\xs.Nodup/\b8 φ':=by
 obtain⟨d,φ1,e1,d0,d1,f1⟩:=bT (n:=3) hφ (by decide) (by decide)
 have sp:∃A B C R,ie=aD A (aD B (aD C R)) /\
   (∃st φ2,A [.io φ,.v (.int n),.e,.e,.e,.e,.e]=some (.nx [.io φ,.v (.int n),.v (.str ""),.e,.e,.e,.e])/\B [.io φ,.v (.int n),.v (.str ""),.e,.e,.e,.e]=some (.nx [.io φ2,.v (.int n),.v (.str st),.e,.e,.e,.e]) /\
    C [.io φ2,.v (.int n),.v (.str st),.e,.e,.e,.e]=some (.nx [.io φ2,.v (.int n),.v (.str st),.o (.lst []),.e,.e,.e])/\b8 φ2/\st.length<=4/\Lw st) /\
   (∀st φ2,b8 φ2->st.length<=4->Lw st->∃(xs:List Str)(φ':D)(o4 o5 o6:Sl),R [.io φ2,.v (.int n),.v (.str st),.o (.lst []),.e,.e,.e]=some (.rt (.s 3) [.io φ',.v (.int n),.v (.str st),.o (.lst (xs.map D.str)),o4,o5,o6])/\(xs.length:Int)=n/\(∀x∈xs,Nm x)/\xs.Nodup/\b8 φ'):=by
  refine⟨_,_,_,_,rfl,?_,?_⟩
  ·by_cases c:d=0
   ·subst c;obtain⟨d2,φ2,e2,d20,d21,f2⟩:=bT (n:=4) f1 (by decide) (by decide)
    obtain⟨x,φ3,e3,hx,lx,f3⟩:=md (k:=1+d2) f2 (by lia) (by lia)
    refine⟨x,φ3,rfl,?_,rfl,f3,by lia,lx⟩
    refine dI (s:=[.io φ1,.v (.int n),.v (.str ""),.e,.e,.e,.e]) (aG (aw (bV rfl rfl rfl rfl rfl rfl e1) rfl rfl rfl rfl) rfl) ?_;exact cJ (bV rfl rfl (af (aw rfl (bV rfl rfl rfl rfl rfl rfl e2) rfl rfl rfl) rfl) rfl rfl rfl e3) rfl
   ·refine⟨"",φ1,rfl,?_,rfl,f1,by decide +kernel,GF⟩
    have t:decide (V.int d=V.int 0)=false:=Ae fun z=>c (V.int.inj z);exact b7 (s:=[.io φ1,.v (.int n),.v (.str ""),.e,.e,.e,.e]) (fF (b:=decide (V.int d=V.int 0)) (aG (aw (bV rfl rfl rfl rfl rfl rfl e1) rfl rfl rfl rfl) rfl) t) rfl
  ·intro st φ2 f2 hst lst
   have lp:∀(fg:FG)(B:FS),fg=gN 4->(∀(φ':D)(xs:List Str)(k:D)(o5 o6:Sl),b8 φ'->xs.length<=200->(∀x∈xs,Nm x)->xs.Nodup->xs.length<=110->o5.isIo=false->o6.isIo=false ->
     ∃φ2 x o6',B [.io φ',.v (.int n),.v (.str st),.o (.lst (xs.map D.str)),.v k,o5,o6]=some (.nx [.io φ2,.v (.int n),.v (.str st),.o (.lst ((xs++[x]).map D.str)),.v k,.v (.str x),.v o6'])/\b8 φ2/\Nm x/\x∉xs) ->
     ∃(xs:List Str)(φ':D)(o4 o5 o6:Sl),aD (ft (mz (aa (aC 1) ae)) fg B) (bx (aC 3)) [.io φ2,.v (.int n),.v (.str st),.o (.lst []),.e,.e,.e]=some (.rt (.s 3) [.io φ',.v (.int n),.v (.str st),.o (.lst (xs.map D.str)),o4,o5,o6])/\(xs.length:Int)=n/\(∀x∈xs,Nm x)/\xs.Nodup/\b8 φ':=by
    intro fg B hfg hB;subst hfg;obtain⟨sf,e,φ',xs,o4,o5,o6,rfl,hf,hl,hx,nd,_⟩:=pE (fg:=gN 4) (B:=B) (rng 0 n.toNat) (fun gone s=>∃(φ':D)(xs:List Str)(o4 o5 o6:Sl),s=[.io φ',.v (.int n),.v (.str st),.o (.lst (xs.map D.str)),o4,o5,o6]/\b8 φ'/\xs.length=gone.length/\(∀x∈xs,Nm x)/\xs.Nodup/\o4.isIo=false/\o5.isIo=false/\o6.isIo=false)
     (fun gone x rest s ha zz8=>by
      obtain⟨φ',xs,o4,o5,o6,hs,hf,hl,hx,nd,q4,q5,q6⟩:=zz8;subst hs;have hg:=congrArg List.length ha;rw[hU,Xa,Yc]at hg;obtain⟨φ3,y,o6',eB,f3,ny,hy⟩:=hB φ' xs x o5 o6 hf (by lia) hx nd (by lia) q5 q6
      refine⟨_,_,bB rfl q4,eB,φ3,xs++[y],.v x,.v (.str y),.v o6',rfl,f3,by simp[hl],fun z hz=>?_,?_,rfl,rfl,rfl⟩
      ·rcases Wd.mp hz with w|w
       ·exact hx z w
       ·have:z=y:=by simpa using w
        rw[this];exact ny
      ·rw[List.nodup_append]
       exact⟨nd,by simp,fun a ha b hb e=>by
        have:b=y:=by simpa using hb
        subst this;subst e;exact hy ha⟩) (rng 0 n.toNat) [] [.io φ2,.v (.int n),.v (.str st),.o (.lst []),.e,.e,.e] rfl ⟨φ2,[],.e,.e,.e,rfl,f2,rfl,fun x hx=>(by cases hx),AR,rfl,rfl,rfl⟩
    rw[hU]at hl;exact⟨xs,φ',o4,o5,o6,ao (cW (fK rfl rfl ⟨by lia,by lia⟩) e) rfl,by lia,hx,nd,hf⟩
   refine lp _ _ rfl ?_;intro φ' xs k o5 o6 hf _ hx nd hl q5 q6;obtain⟨x,φ3,e3,nx,f3⟩:=Jh hf hst lst;obtain⟨sf,ew,s',y,rfl,ny,hy⟩:=sJ (f:=aA (fOp bIn (aC 5) (aC 3))) (B:=aD (aV (fOp oq (fOp bIx (fC (.str "abcdefghijklmnopqrstuvwxyz")) (fOp pC (aC 6) (fC (.int 26)))) (fOp cj (fC (.int 1)) (fOp wg (aC 6) (fC (.int 26))))) 5) (aV (fOp cj (aC 6) (fC (.int 1))) 6))
    (fun m s=>∃(j:Nat)(x:Str),s=[.io φ3,.v (.int n),.v (.str st),.o (.lst (xs.map D.str)),.v k,.v (.str x),.v (.int j)]/\Nm x/\m+j=xs.length+2/\j<=xs.length+1/\(∀i,i+1<j->word i∈xs)/\(j=0∨x=word (j-1)))
    (fun s=>∃(j:Nat)(x:Str),s=[.io φ3,.v (.int n),.v (.str st),.o (.lst (xs.map D.str)),.v k,.v (.str x),.v (.int j)]/\Nm x/\x∉xs)
    (by
     rintro m s ⟨j,x,rfl,nx,hm,hj,hw,hxj⟩;by_cases c:x∈xs
     ·right;have hall:∀i,i<j->word i∈xs:=fun i hi=>by
       rcases hxj with z|z
       ·lia
       ·by_cases e:i+1<j
        ·exact hw i e
        ·have:i=j-1:=by lia
         rw[this,← z];exact c
      have hle:=DL hall;obtain⟨m',rfl⟩:∃m',m=m'+1:=⟨m-1,by lia⟩
      have d0:(0:Int)<=1+(j:Int) / 26:=Int.add_nonneg (by decide) (Int.ediv_nonneg (CC j) (by decide))
      have d1:1+(j:Int) / 26<=1000:=Int.le_trans (Int.add_le_add_left (Int.ediv_le_self 26 (CC j)) 1) (by lia)
      refine⟨_,[.io φ3,.v (.int n),.v (.str st),.o (.lst (xs.map D.str)),.v k,.v (.str (word j)),.v (.int ((j+1:Nat):Int))],m',fF (aG (aw rfl rfl rfl rfl Ky) rfl) (Af c),?_,AW _,j+1,word j,rfl,I9 (by lia),by lia,CY hle,fun i hi=>hall i (by lia),.inr rfl⟩
      refine ao (s:=[.io φ3,.v (.int n),.v (.str st),.o (.lst (xs.map D.str)),.v k,.v (.str (word j)),.v (.int j)]) (cJ (aw (aw rfl rfl rfl rfl (ix_str (by decide +kernel) (MU j))) (aw rfl rfl rfl rfl rfl) rfl rfl (x6 ⟨d0,d1,(by show 1<=1000;decide)⟩)) rfl) ?_
      rfl
     ·left
      exact⟨_,fF (aG (aw rfl rfl rfl rfl Ky) rfl) (Ae c),j,x,rfl,nx,c⟩)
    200 (xs.length+2) [.io φ3,.v (.int n),.v (.str st),.o (.lst (xs.map D.str)),.v k,.v (.str x),.v (.int 0)] (by lia) ⟨0,x,rfl,nx,rfl,Xl _,fun i hi=>absurd hi (by lia),.inl rfl⟩
   refine⟨φ3,y,.int s',?_,f3,ny,hy⟩;refine ao (cJ (bV rfl rfl rfl rfl rfl rfl e3) (bB rfl q5)) ?_;refine ao (cJ (x:=.int 0) rfl (bB rfl q6)) ?_;refine ao ew ?_;refine bE (dU rfl rfl rfl rfl rfl rfl rfl (cO (by rw[Za];lia)) ?_)
   rw[Zc];rfl
 obtain⟨A,B,C,R,eF,⟨st,φ2,eA,eB,eC,f2,hst,lst⟩,hR⟩:=sp;obtain⟨xs,φ',o4,o5,o6,eR,hl,hx,nd,hf⟩:=hR st φ2 f2 hst lst;refine⟨xs,φ',?_,hl,hx,nd,hf⟩;refine cr (o:=.rt (.s 3) [.io φ',.v (.int n),.v (.str st),.o (.lst (xs.map D.str)),o4,o5,o6]) rfl ?_ rfl;rw[eF];exact ao eA (ao eB (ao eC eR))
def Ji{xs:List D}(hφ:b8 φ)(hx:xs.length<=200):∃(ys:List D)(φ':D),cR φ [.lst xs]=some ((.lst ys,true),φ')/\ys.Perm xs/\b8 φ':=by
 obtain⟨sf,ew,ts,φ',rfl,pm,hf⟩:=sJ (f:=aA (fOp bNe (aC 2) (cB ae))) (B:=bU (fM isL aY 3 (aa (fM isL ir 2 (aa (fIO aB 0 (aa (fCB bJ (aa (aC 2) ae)) ae)) ae)) ae)))
  (fun m s=>∃(ls ts:List D)(φ':D),s=[.io φ',.v (.lst xs),.o (.lst ls),.o (.lst ts)]/\b8 φ'/\(ts++ls).Perm xs/\m=ls.length)
  (fun s=>∃(ts:List D)(φ':D),s=[.io φ',.v (.lst xs),.o (.lst []),.o (.lst ts)]/\ts.Perm xs/\b8 φ')
  (by
   rintro m s ⟨ls,ts,φ',rfl,hf,pm,rfl⟩;have hlen:ts.length+ls.length=xs.length:=by have:=pm.length_eq;rw[Xa]at this;exact this
   cases ls with
   | nil =>
    rw[Xc]at pm;exact .inl ⟨_,rfl,ts,φ',rfl,pm,hf⟩
   | cons y lr =>
    right;have hl0:(y::lr).length=lr.length+1:=rfl;obtain⟨d,φ2,e,d0,d1,f2⟩:=bT (n:=((y::lr).length:Int)) hf (by lia) (by lia)
    have hk:d.toNat<(y::lr).length:=by lia
    refine⟨_,[.io φ2,.v (.lst xs),.o (.lst ((y::lr).eraseIdx d.toNat)),.o (.lst (ts++[(y::lr)[d.toNat]]))],((y::lr).eraseIdx d.toNat).length,rfl,?_,?_,_,_,φ2,rfl,f2,?_,rfl⟩
    ·exact bE (dU rfl rfl rfl (af (dU rfl rfl rfl (af (bV rfl rfl rfl rfl rfl rfl e) rfl) rfl rfl rfl (qa d0 d1 (by lia) hk)) rfl) rfl rfl rfl (cO (by lia)))
    ·rw[De hk];lia
    ·refine List.Perm.trans ?_ pm;rw[Qb]
     exact AA ts (jh hk))
  300 xs.length [.io φ,.v (.lst xs),.o (.lst xs),.o (.lst [])] (by lia) ⟨xs,[],φ,rfl,hφ,List.Perm.refl _,rfl⟩
 refine⟨ts,φ',?_,pm,hf⟩;refine cr (o:=.rt (.s 3) [.io φ',.v (.lst xs),.o (.lst []),.o (.lst ts)]) rfl ?_ rfl;refine ao (s:=[.io φ,.v (.lst xs),.o (.lst xs),.e]) rfl ?_;refine ao (s:=[.io φ,.v (.lst xs),.o (.lst xs),.o (.lst [])]) rfl ?_;exact ao ew rfl
end K33
namespace VF
open PySem L2
def GX(xs:List D):bn [.lst xs]=some (.tup xs,false):=rfl
def GY{xs ys:List D}(h:xs.length+ys.length<=1000000):hV (.lst xs) [.tup ys]=some (.non,.lst (xs++ys)):=by
 show(if xs.length+ys.length<=1000000 then some (D.non,D.lst (xs++ys)) else none)=_;rw[Ag h]
end VF
namespace K33
open PySem L2 VF VL
abbrev bdD(p:Bool×Str):D:=.str (bd p)
abbrev aK:=Bool×List (Bool×Str)
def kd(r:Bool):Str:=if r then "ring" else "open"
def stD(s:aK):D:=.tup [.str (kd s.1),.tup (s.2.map bdD)]
def gX(h:Nm p.2):(bd p).length<=1000000:=by have:=(pN h).2;lia
def Jj{xs:List Str}(hφ:b8 φ)(hx:xs.length<=200)(nm:∀x∈xs,Nm x):∃(ps:List (Bool×Str))(φ':D),gQ φ [.lst (xs.map D.str)]=some ((.tup (ps.map bdD),false),φ')/\(ps.map (·.2)).Perm xs/\b8 φ':=by
 obtain⟨ys,φ1,e1,pm,f1⟩:=Ji (xs:=xs.map D.str) hφ (by rw[Za];exact hx)
 obtain⟨zs,rfl,pz⟩:=gq (g:=fun d=>match d with|.str z=>z|_=>Str.empty) (fun _=>rfl) pm
 have hzl:=pz.length_eq;have nz:∀z∈zs,Nm z:=fun z hz=>nm z (pz.mem_iff.mp hz);obtain⟨ds,sf,ec,φ2,ps,rfl,f2,e3,e4⟩:=rA (fg:=gN 0) (fc:=bZ) (k:=1) (fe:=fOp cj (fOp oq (fC (.str "-")) (fIO aB 1 (aa (fC (.int 2)) ae))) (aC 0)) (zs.map D.str)
  (fun gone pre sb=>∃(φ':D)(ps:List (Bool×Str)),sb=[.e,.io φ']/\b8 φ'/\pre=ps.map bdD/\gone=(ps.map (·.2)).map D.str)
  (by
   rintro gone x rest pre sb ha ⟨φ',ps,rfl,hf,rfl,rfl⟩;obtain⟨d,φ2,e,d0,d1,f2⟩:=bT (n:=2) hf (by decide) (by decide)
   have hxm:x∈zs.map D.str:=by rw[ha];simp
   obtain⟨z,hz,rfl⟩:=Qc.mp hxm;have hm:=DM (d:=d) (n:=z) d0 d1;refine⟨[.v (.str z),.io φ'],[.v (.str z),.io φ'],.d (bdD (decide (d=1),z)),[.v (.str z),.io φ2],bdD (decide (d=1),z),[.v (.str z),.io φ2],rfl,rfl,?_,rfl,φ2,ps++[(decide (d=1),z)],rfl,f2,by rw[Zc];rfl,by rw[Zc,Zc];rfl⟩
   refine aw (aw rfl (bV rfl rfl rfl rfl rfl rfl e) rfl rfl (x6 ⟨d0,by lia,by decide +kernel⟩)) rfl rfl rfl (oO ?_) ?_
   ·have:=(pN (p:=(decide (d=1),z)) (nz z hz)).2;rw[← hm,AM]at this;show(Txt.mul minus d).length+z.length<=_;lia
   ·show Rs.d (D.str (Txt.mul minus d++z))=_
    rw[hm])
  (zs.map D.str) [] [] [.e,.io φ1] rfl ⟨φ1,[],rfl,f1,rfl,rfl⟩
 rw[Vm]at e3;subst e3;have e5:zs=ps.map (·.2):=by
  have:=congrArg (List.map (fun d:D=>match d with|.str z=>z|_=>Str.empty)) e4
  rw[Vg,Vg]at this;exact((AY zs).symm.trans this).trans (AY _)
 refine⟨ps,φ2,?_,by rw[← e5];exact pz,f2⟩
 refine cr (o:=.rt (.d (.tup (ps.map bdD))) [.io φ2,.v (.lst (xs.map D.str))]) rfl ?_ rfl;refine aQ (aN (af (bF (iL (bV rfl rfl rfl rfl rfl rfl e1) rfl) ?_ ec) rfl) rfl rfl);show(true&&decide ((zs.map D.str).length<=1000000))=true;rw[Za,Af (by lia)];rfl
theorem mO:∀(ss:List aK),(∀s∈ss,s.2≠[])->ss.length<=(ss.flatMap (·.2)).length
 | [],_=>Va _
 | s::r,h=>by
  have ih:=mO r fun x hx=>h x (Xb _ hx);have hs:1<=s.2.length:=by
   cases e:s.2 with
   | nil=>exact absurd e (h s Qa)
   | cons _ _=>simp
  rw[Zd,Xa,Yc];lia
def GZ{xs:List Str}(hφ:b8 φ)(hx:xs.length<=200)(nm:∀x∈xs,Nm x):∃(ss:List aK)(φ':D),kL φ [.lst (xs.map D.str),.bl true]=some ((.tup (ss.map stD),false),φ')/\(∀s∈ss,s.2≠[])/\((ss.flatMap (·.2)).map (·.2)).Perm xs/\b8 φ':=by
 obtain⟨ps,φ1,e1,pm,f1⟩:=Jj hφ hx nm;have hpl:ps.length=xs.length:=by have:=pm.length_eq;rw[Za]at this;exact this
 have lp:∀(B:FS),(∀(φ':D)(ss:List aK)(piece:List (Bool×Str))(b:Bool×Str),b8 φ'->(∀s∈ss,s.2≠[])->ss.length<=300->piece.length<=300 ->
    ∃(φ2:D)(ss2:List aK)(piece2:List (Bool×Str)),B [.io φ',.v (.lst (xs.map D.str)),.v (.bl true),.o (.lst (ss.map stD)),.o (.lst (piece.map bdD)),.v (bdD b)]=some (.nx [.io φ2,.v (.lst (xs.map D.str)),.v (.bl true),.o (.lst (ss2.map stD)),.o (.lst (piece2.map bdD)),.v (bdD b)])/\b8 φ2/\(∀s∈ss2,s.2≠[])/\ss2.flatMap (·.2)++piece2=ss.flatMap (·.2)++piece++[b]) ->
   ∃(φ':D)(ss:List aK)(piece:List (Bool×Str))(o5:Sl),ft (fIA (fIO gQ 0 (aa (aC 1) ae))) (gN 5) B [.io φ,.v (.lst (xs.map D.str)),.v (.bl true),.o (.lst []),.o (.lst []),.e]=some (.nx [.io φ',.v (.lst (xs.map D.str)),.v (.bl true),.o (.lst (ss.map stD)),.o (.lst (piece.map bdD)),o5])/\b8 φ'/\(∀s∈ss,s.2≠[])/\ss.flatMap (·.2)++piece=ps:=by
  intro B hB;obtain⟨sf,e,φ',ss,piece,o5,gp,rfl,hf,hne,hg,hgp,hgp3,_⟩:=pE (fg:=gN 5) (B:=B) (ps.map bdD) (fun gone s=>∃(φ':D)(ss:List aK)(piece:List (Bool×Str))(o5:Sl)(gp:List (Bool×Str)),s=[.io φ',.v (.lst (xs.map D.str)),.v (.bl true),.o (.lst (ss.map stD)),.o (.lst (piece.map bdD)),o5]/\b8 φ'/\(∀s∈ss,s.2≠[])/\ss.flatMap (·.2)++piece=gp/\(∃r,gp++r=ps)/\gone=gp.map bdD/\o5.isIo=false)
   (by
    rintro gone x rest s ha ⟨φ',ss,piece,o5,gp,rfl,hf,hne,hg,⟨r,hr⟩,rfl,q5⟩;cases r with
    | nil =>
     rw[Xc]at hr;subst hr;have:=congrArg List.length ha;simp at this
    | cons b r =>
     have hb:bdD b=x:=by
      rw[← hr,Zc]at ha;have:=List.append_cancel_left ha;exact(List.cons.inj this).1
     have hlen:=congrArg List.length hr;rw[Xa,Yc]at hlen;have hl2:=congrArg List.length hg;rw[Xa]at hl2;have hl3:=mO ss hne;obtain⟨φ2,ss2,piece2,eB,f2,hne2,hfl⟩:=hB φ' ss piece b hf hne (by lia) (by lia)
     subst hb
     exact⟨_,_,bB rfl q5,eB,φ2,ss2,piece2,.v (bdD b),gp++[b],rfl,f2,hne2,by rw[hfl,hg],⟨r,by rw[Qb];exact hr⟩,by rw[Zc];rfl,rfl⟩)
   (ps.map bdD) [] [.io φ1,.v (.lst (xs.map D.str)),.v (.bl true),.o (.lst []),.o (.lst []),.e] rfl ⟨φ1,[],[],.e,[],rfl,f1,fun s hs=>(by cases hs),rfl,⟨ps,rfl⟩,rfl,rfl⟩
  obtain⟨⟨r,hr⟩,hgp2⟩:(∃r,gp++r=ps)/\ps.map bdD=gp.map bdD:=⟨hgp,hgp3⟩;have hlen:=congrArg List.length hgp2;rw[Za,Za]at hlen;have hl2:=congrArg List.length hr;rw[Xa]at hl2;have:r=[]:=Yi (by lia)
  subst this;rw[Xc]at hr;exact⟨φ',ss,piece,o5,cW (dW (bV rfl rfl rfl rfl rfl rfl e1) rfl) e,hf,hne,by rw[hg,hr]⟩
 have sp:∃B R,kK=aD (aV (cB ae) 3) (aD (aV (cB ae) 4) (aD (ft (fIA (fIO gQ 0 (aa (aC 1) ae))) (gN 5) B) R)) /\
   (∀(φ':D)(ss:List aK)(piece:List (Bool×Str))(b:Bool×Str),b8 φ'->(∀s∈ss,s.2≠[])->ss.length<=300->piece.length<=300 ->
    ∃(φ2:D)(ss2:List aK)(piece2:List (Bool×Str)),B [.io φ',.v (.lst (xs.map D.str)),.v (.bl true),.o (.lst (ss.map stD)),.o (.lst (piece.map bdD)),.v (bdD b)]=some (.nx [.io φ2,.v (.lst (xs.map D.str)),.v (.bl true),.o (.lst (ss2.map stD)),.o (.lst (piece2.map bdD)),.v (bdD b)])/\b8 φ2/\(∀s∈ss2,s.2≠[])/\ss2.flatMap (·.2)++piece2=ss.flatMap (·.2)++piece++[b]) /\
   (∀(φ':D)(ss:List aK)(piece:List (Bool×Str))(o5:Sl),ss.length<=300->(∀s∈ss,s.2≠[])->∃(ss2:List aK)(s':En),R [.io φ',.v (.lst (xs.map D.str)),.v (.bl true),.o (.lst (ss.map stD)),.o (.lst (piece.map bdD)),o5]=some (.rt (.d (.tup (ss2.map stD))) (.io φ'::s'))/\(∀s∈ss2,s.2≠[])/\ss2.flatMap (·.2)=ss.flatMap (·.2)++piece):=by
  refine⟨_,_,rfl,?_,?_⟩
  ·intro φ' ss piece b hf hne hs hp;have ap:bU (fM isL aY 4 (aa (aC 5) ae)) [.io φ',.v (.lst (xs.map D.str)),.v (.bl true),.o (.lst (ss.map stD)),.o (.lst (piece.map bdD)),.v (bdD b)]=some (.nx [.io φ',.v (.lst (xs.map D.str)),.v (.bl true),.o (.lst (ss.map stD)),.o (.lst ((piece++[b]).map bdD)),.v (bdD b)]) :=
    bE (dU rfl rfl rfl rfl rfl rfl rfl (cO (by rw[Za];lia)) (by rw[Zc];rfl))
   have nw:∀(r:Bool),∀s∈ss++[(r,piece++[b])],s.2≠[]:=fun r s hs=>by
    rcases Wd.mp hs with z|z
    ·exact hne s z
    ·have:s=(r,piece++[b]):=by simpa using z
     rw[this];simp
   have fl:∀(r:Bool),(ss++[(r,piece++[b])]).flatMap (·.2)++[]=ss.flatMap (·.2)++piece++[b]:=fun r=>by
    rw[Ze];simp
   have ms:∀r,(ss++[(r,piece++[b])]).map stD=ss.map stD++[stD (r,piece++[b])]:=fun r=>by rw[Zc];rfl
   have lss:(ss.map stD).length<1000000:=by rw[Za];lia
   obtain⟨d,φ2,e2,d0,d1,f2⟩:=bT (n:=3) hf (by decide) (by decide)
   by_cases c:d=0
   ·subst c;refine⟨φ2,ss++[(false,piece++[b])],[],ao ap ?_,f2,nw false,fl false⟩;refine dI (s:=[.io φ2,.v (.lst (xs.map D.str)),.v (.bl true),.o (.lst (ss.map stD)),.o (.lst ((piece++[b]).map bdD)),.v (bdD b)]) (aG (aw (bV rfl rfl rfl rfl rfl rfl e2) rfl rfl rfl rfl) rfl) ?_;refine ao (bE (dU rfl rfl rfl rfl rfl rfl rfl (cO lss) (st3:=[.io φ2,.v (.lst (xs.map D.str)),.v (.bl true),.o (.lst ((ss++[(false,piece++[b])]).map stD)),.o (.lst ((piece++[b]).map bdD)),.v (bdD b)]) (by rw[ms];rfl))) ?_
    rfl
   ·have t:decide (V.int d=V.int 0)=false:=Ae fun z=>c (V.int.inj z);obtain⟨d2,φ3,e3,d20,d21,f3⟩:=bT (n:=3) f2 (by decide) (by decide)
    have tst:∀s,aA (fOp bEq (fIO aB 0 (aa (fC (.int 3)) ae)) (fC (.int 0))) (.io φ2::s)=some (decide (V.int d2=V.int 0),.io φ3::s):=fun s=>aG (aw (bV rfl rfl rfl rfl rfl rfl e3) rfl rfl rfl rfl) rfl;by_cases c2:d2=0
    ·subst c2;refine⟨φ3,ss++[(true,piece++[b])],[],ao ap ?_,f3,nw true,fl true⟩;refine b7 (s:=[.io φ2,.v (.lst (xs.map D.str)),.v (.bl true),.o (.lst (ss.map stD)),.o (.lst ((piece++[b]).map bdD)),.v (bdD b)]) (fF (aG (aw (bV rfl rfl rfl rfl rfl rfl e2) rfl rfl rfl rfl) rfl) t) ?_;refine dI (s:=[.io φ3,.v (.lst (xs.map D.str)),.v (.bl true),.o (.lst (ss.map stD)),.o (.lst ((piece++[b]).map bdD)),.v (bdD b)]) (eT rfl (tst _)) ?_;refine ao (bE (dU rfl rfl rfl rfl rfl rfl rfl (cO lss) (st3:=[.io φ3,.v (.lst (xs.map D.str)),.v (.bl true),.o (.lst ((ss++[(true,piece++[b])]).map stD)),.o (.lst ((piece++[b]).map bdD)),.v (bdD b)]) (by rw[ms];rfl))) ?_
     rfl
    ·have t2:decide (V.int d2=V.int 0)=false:=Ae fun z=>c2 (V.int.inj z);refine⟨φ3,ss,piece++[b],ao ap ?_,f3,hne,by rw[Qb]⟩
     refine b7 (s:=[.io φ2,.v (.lst (xs.map D.str)),.v (.bl true),.o (.lst (ss.map stD)),.o (.lst ((piece++[b]).map bdD)),.v (bdD b)]) (fF (aG (aw (bV rfl rfl rfl rfl rfl rfl e2) rfl rfl rfl rfl) rfl) t) ?_;exact b7 (eT rfl (fF (tst _) t2)) rfl
  ·intro φ' ss piece o5 hs hne;cases piece with
   | nil =>
    exact⟨ss,_,ao (b7 rfl rfl) (aQ (aN rfl rfl rfl)),hne,by rw[Xc]⟩
   | cons p pr =>
    refine⟨ss++[(false,p::pr)],[.v (.lst (xs.map D.str)),.v (.bl true),.o (.lst ((ss++[(false,p::pr)]).map stD)),.o (.lst ((p::pr).map bdD)),o5],?_,fun s hs=>?_,by rw[Ze];simp⟩
    ·refine ao (dI rfl (bE (dU rfl rfl rfl rfl rfl rfl rfl (cO (by rw[Za];lia)) (st3:=[.io φ',.v (.lst (xs.map D.str)),.v (.bl true),.o (.lst ((ss++[(false,p::pr)]).map stD)),.o (.lst ((p::pr).map bdD)),o5]) (by rw[show(ss++[(false,p::pr)]).map stD=ss.map stD++[stD (false,p::pr)] from by rw[Zc];rfl];rfl)))) ?_
     exact aQ (aN rfl rfl rfl)
    ·rcases Wd.mp hs with z|z
     ·exact hne s z
     ·have:s=(false,p::pr):=by simpa using z
      rw[this];simp
 obtain⟨B,R,eF,hB,hR⟩:=sp;obtain⟨φ',ss,piece,o5,eL,hf,hne,hps⟩:=lp B hB;have hl2:=congrArg List.length hps;rw[Xa]at hl2;have hl3:=mO ss hne;obtain⟨ss2,s',eR,hne2,hfl⟩:=hR φ' ss piece o5 (by lia) hne
 refine⟨ss2,φ',?_,hne2,by rw[hfl,hps];exact pm,hf⟩
 refine cr (o:=.rt (.d (.tup (ss2.map stD))) (.io φ'::s')) rfl ?_ rfl;rw[eF];exact ao rfl (ao rfl (ao eL eR))
end K33
namespace VF
open PySem L2
def Jk(h:x∈rng 0 n):∃i:Nat,i<n/\x=.int i:=by
 obtain⟨i,hi⟩:=AU h;obtain⟨h1,h2⟩:=EN hi;exact⟨i,h1,by rw[h2,DB]⟩
theorem oY(xs:List α)(d:D):xs.map (fun _=>d)=List.replicate xs.length d:=by
 induction xs with
 | nil=>rfl
 | cons x r ih=>rw[We,ih];rfl
end VF
namespace K33
open PySem L2 VF VL
def DX(h:Dp (n+1) u):bz (jY (d9 n)) 2 2 [u,u]=some (.bl true,false):=by
 have seqs:∀(ds:List D),ds.length<=1000000->(∀d∈ds,Dp n d)->∀(u:D),(∀i d,atI ds i=some d->bIx u (.int i)=some (d,false)) ->
   ci (gN 0) bZ (bq (d9 n) (aa (fOp bIx (aC 1) (aC 0)) (aa (fOp bIx (aC 2) (aC 0)) ae))) 1 (rng 0 ((ds.length:Int)).toNat) [.e,.v u,.v u]=some (List.replicate ds.length (D.bl true),[.e,.v u,.v u]):=fun ds hl hd u hu=>by
  have e:=nh (fg:=gN 0) (fc:=bZ) (k:=1) (fe:=bq (d9 n) (aa (fOp bIx (aC 1) (aC 0)) (aa (fOp bIx (aC 2) (aC 0)) ae))) (fun _=>D.bl true) (rng 0 ((ds.length:Int)).toNat) [.e,.v u,.v u] (fun x hx=>by
   obtain⟨i,hi,rfl⟩:=Jk hx;have hi':i<ds.length:=by lia
   have ha:atI ds (i:Int)=some ds[i]:=kA (Ya hi');refine⟨[.v (.int i),.v u,.v u],[.v (.int i),.v u,.v u],.d (.bl true),[.v (.int i),.v u,.v u],[.v (.int i),.v u,.v u],rfl,rfl,?_,rfl,rfl⟩
   exact bp (af (aw rfl rfl rfl rfl (hu _ _ ha)) (af (aw rfl rfl rfl rfl (hu _ _ ha)) rfl)) rfl (gE (hd _ (AZ hi'))) rfl)
  rw[e,oY,hU];have:((ds.length:Int)).toNat=ds.length:=by lia
  rw[this]
 cases h with
 | bl _ b=>cases b<;>rfl
 | int _ i =>
  refine aS (o:=.rt (.d (.bl true)) [.v (.int i),.v (.int i)]) rfl ?_ rfl;refine ao (s:=[.v (.int i),.v (.int i)]) rfl (ao (s:=[.v (.int i),.v (.int i)]) rfl (iu (dI (s:=[.v (.int i),.v (.int i)]) rfl ?_)));refine aQ (iw (s:=[.v (.int i),.v (.int i)]) rfl rfl (aw rfl rfl rfl rfl (z:=(.bl (decide (V.int i=V.int i)),false)) rfl ?_));rw[Af rfl];rfl
 | non _=>rfl
 | str _ x =>
  refine aS (o:=.rt (.d (.bl true)) [.v (.str x),.v (.str x)]) rfl ?_ rfl;refine ao (s:=[.v (.str x),.v (.str x)]) rfl (ao (s:=[.v (.str x),.v (.str x)]) rfl (ao (s:=[.v (.str x),.v (.str x)]) rfl (iu (dI (s:=[.v (.str x),.v (.str x)]) rfl ?_))));refine aQ (iw (s:=[.v (.str x),.v (.str x)]) rfl rfl (aw rfl rfl rfl rfl (z:=(.bl (decide (V.str x=V.str x)),false)) rfl ?_));rw[Af rfl];rfl
 | @tup _ ds hl hd =>
  refine aS (o:=.rt (.d (.bl true)) [.v (.tup ds),.v (.tup ds)]) rfl ?_ rfl;refine ao (s:=[.v (.tup ds),.v (.tup ds)]) rfl (ao (s:=[.v (.tup ds),.v (.tup ds)]) rfl (ao (s:=[.v (.tup ds),.v (.tup ds)]) rfl (ao (s:=[.v (.tup ds),.v (.tup ds)]) rfl (ao (s:=[.v (.tup ds),.v (.tup ds)]) rfl ?_))));refine aQ (iw (s:=[.v (.tup ds),.v (.tup ds)]) (r:=.d (.bl (decide (V.int ds.length=V.int ds.length)))) rfl (by rw[Af rfl];rfl) ?_)
  refine aN (af (bF (fK (j:=(ds.length:Int)) rfl rfl ⟨by lia,by lia⟩) (by
   show(true&&decide ((rng 0 ((ds.length:Int)).toNat).length<=1000000))=true
   rw[hU,Af (by lia)];rfl) (seqs ds hl hd (.tup ds) fun i d h=>VF.ix_tup h)) rfl) rfl (jP _)
 | @lst _ ds hl hd =>
  refine aS (o:=.rt (.d (.bl true)) [.v (.lst ds),.v (.lst ds)]) rfl ?_ rfl;refine ao (s:=[.v (.lst ds),.v (.lst ds)]) rfl (ao (s:=[.v (.lst ds),.v (.lst ds)]) rfl (ao (s:=[.v (.lst ds),.v (.lst ds)]) rfl (ao (s:=[.v (.lst ds),.v (.lst ds)]) rfl (ao (s:=[.v (.lst ds),.v (.lst ds)]) rfl ?_))));refine aQ (iw (s:=[.v (.lst ds),.v (.lst ds)]) (r:=.d (.bl (decide (V.int ds.length=V.int ds.length)))) rfl (by rw[Af rfl];rfl) ?_)
  refine aN (af (bF (fK (j:=(ds.length:Int)) rfl rfl ⟨by lia,by lia⟩) (by
   show(true&&decide ((rng 0 ((ds.length:Int)).toNat).length<=1000000))=true
   rw[hU,Af (by lia)];rfl) (seqs ds hl hd (.lst ds) fun i d h=>ki h)) rfl) rfl (jP _)
end K33
namespace VF
open PySem L2
theorem G0:∀(es:List D),CA n (d::es)->Srt n es->∃fs:List D,fs.Perm (d::es)/\Srt n fs
 | [],_,_=>⟨[d],List.Perm.refl _,Bb _ _⟩
 | e::es,h,s=>by
  obtain⟨s1,s2⟩:=Zi.mp s;cases c:ltN n e d with
  | true =>
   have up:∀x∈d::es,x∈d::e::es:=fun x hx=>by
    rcases Vd.mp hx with m|m
    ·rw[m];exact Qa
    ·exact Xb _ (Xb _ m)
   obtain⟨fs,p,q⟩:=G0 (n:=n) (d:=d) es (fun a ha b hb=>h a (up a ha) b (up b hb)) s2;refine⟨e::fs,(p.cons e).trans (List.Perm.swap d e es),Zi.mpr ⟨fun f hf=>?_,q⟩⟩;rcases Vd.mp (p.mem_iff.mp hf) with m|m
   ·rw[m];exact sR n e d c
   ·exact s1 f m
  | false =>
   refine⟨d::e::es,List.Perm.refl _,Zi.mpr ⟨fun b hb=>?_,s⟩⟩;rcases Vd.mp hb with m|m
   ·rw[m];exact c
   ·cases k:ltN n b d with
    | false=>rfl
    | true =>
     rcases h.neg (a:=b) (b:=e) (c:=d) (by simp[m]) (by simp) (by simp) k with z|z
     ·rw[s1 b m]at z;cases z
     ·rw[c]at z;cases z
theorem wQ:∀(ds:List D),CA n ds->∃es:List D,es.Perm ds/\Srt n es
 | [],_=>⟨[],List.Perm.refl _,List.Pairwise.nil⟩
 | d::ds,h=>by
  obtain⟨es,p,q⟩:=wQ ds fun a ha b hb=>h a (Xb _ ha) b (Xb _ hb);have pd:(d::es).Perm (d::ds):=p.cons d;obtain⟨fs,p2,q2⟩:=G0 (n:=n) (d:=d) es (fun a ha b hb=>h a (pd.mem_iff.mp ha) b (pd.mem_iff.mp hb)) q;exact⟨fs,p2.trans pd,q2⟩
def ig{ds es:List D}(h:CA n ds)(p:ds.Perm es):bR n ds=bR n es:=by
 obtain⟨fs,p1,q⟩:=wQ ds h;rw[← eE h p1 q];exact eE (fun a ha b hb=>h a (p.mem_iff.mpr ha) b (p.mem_iff.mpr hb)) (p1.trans p) q
end VF
namespace K33
open PySem L2 VF VL
abbrev End:=Str×Int
def eD(e:End):D:=.tup [.str e.1,.int e.2]
abbrev Jnt:=List End
def jD(j:Jnt):D:=.tup (j.map eD)
def rE(n:Nat)(e:End):Pl (n+2) (eD e):=.tup fun d hd=>by
 rcases Vd.mp hd with rfl|hd
 ·exact .str _ _
 ·obtain rfl:=Yb.mp hd;exact .int _ _
def mP(n:Nat)(j:Jnt):Pl (n+3) (jD j):=.tup fun d hd=>by
 obtain⟨e,_,rfl⟩:=Qc.mp hd;exact rE n e
def unE:D->End
 | .tup [.str n,.int i]=>(n,i)
 | _=>(Str.empty,0)
def unJ:D->Jnt
 | .tup es=>es.map unE
 | _=>[]
def M5(e:End):unE (eD e)=e:=rfl
def tz(j:Jnt):unJ (jD j)=j:=by
 show(j.map eD).map unE=j;rw[Vg];exact AY j
def yE(n:Nat)(a b:End):Cp (n+2) (eD a) (eD b):=by
 intro i x y e1 e2
 match i,e1,e2 with
 | 0,e1,e2 =>
  have q1:D.str a.1=x:=by simpa using e1
  have q2:D.str b.1=y:=by simpa using e2
  subst q1 q2;trivial
 | 1,e1,e2 =>
  have q1:D.int a.2=x:=by simpa using e1
  have q2:D.int b.2=y:=by simpa using e2
  subst q1 q2;trivial
 | i+2,e1,_=>simp at e1
def G1(n:Nat)(a b:Jnt):Cp (n+3) (jD a) (jD b):=by
 intro i x y e1 e2;rw[Qe]at e1 e2;obtain⟨c,_,rfl⟩:=Yf.mp e1;obtain⟨d,_,rfl⟩:=Yf.mp e2;exact yE n c d
noncomputable section
def bc(xs:List End):List End:=(bR 40 (xs.map eD)).map unE
def fT(xs:List Jnt):List Jnt:=(bR 40 (xs.map jD)).map unJ
def Jl(xs:List End):CA 40 (xs.map eD):=fun a ha b hb=>by
 obtain⟨e,_,rfl⟩:=Qc.mp ha;obtain⟨e',_,rfl⟩:=Qc.mp hb;exact yE 38 e e'
def M6(xs:List Jnt):CA 40 (xs.map jD):=fun a ha b hb=>by
 obtain⟨e,_,rfl⟩:=Qc.mp ha;obtain⟨e',_,rfl⟩:=Qc.mp hb;exact G1 37 e e'
def cS(xs:List End):bR 40 (xs.map eD)=(bc xs).map eD/\(bc xs).Perm xs:=by
 obtain⟨ys,e,p⟩:=gq (f:=eD) (g:=unE) M5 (et 40 (xs.map eD));have h:bc xs=ys:=by
  unfold bc;rw[e,Vg];exact AY ys
 rw[h];exact⟨e,p⟩
def di(xs:List Jnt):bR 40 (xs.map jD)=(fT xs).map jD/\(fT xs).Perm xs:=by
 obtain⟨ys,e,p⟩:=gq (f:=jD) (g:=unJ) tz (et 40 (xs.map jD));have h:fT xs=ys:=by
  unfold fT;rw[e,Vg,show(unJ ∘ jD)=id from funext tz,List.map_id]
 rw[h];exact⟨e,p⟩
def eI{xs ys:List End}(p:xs.Perm ys):bc xs=bc ys:=by
 unfold bc;rw[ig (Jl xs) (p.map eD)]
def qb{xs ys:List Jnt}(p:xs.Perm ys):fT xs=fT ys:=by
 unfold fT;rw[ig (M6 xs) (p.map jD)]
def eO{d:D}(xs:List End)(h0:d.seq=some (xs.map eD)):bS [d]=some (.lst ((bc xs).map eD),true):=by
 rw[← (cS xs).1];unfold bS;dsimp only;rw[h0];dsimp only;refine Ag ⟨fun x hx=>?_,Jl xs,⟨_,.tp (T:="str") fun d hd=>?_⟩⟩
 ·obtain⟨e,_,rfl⟩:=Qc.mp hx;exact rE 38 e
 ·obtain⟨e,_,rfl⟩:=Qc.mp hd;exact⟨_,_,rfl,fun z=>(by cases z),rfl⟩
def iP{d:D}(xs:List Jnt)(hn:∀j∈xs,j≠[])(h0:d.seq=some (xs.map jD)):bS [d]=some (.lst ((fT xs).map jD),true):=by
 rw[← (di xs).1];unfold bS;dsimp only;rw[h0];dsimp only;refine Ag ⟨fun x hx=>?_,M6 xs,⟨_,.tp (T:="tuple") fun d hd=>?_⟩⟩
 ·obtain⟨e,_,rfl⟩:=Qc.mp hx;exact mP 37 e
 ·obtain⟨j,hj,rfl⟩:=Qc.mp hd;cases j with
  | nil=>exact absurd rfl (hn _ hj)
  | cons e r=>exact⟨eD e,r.map eD,rfl,fun z=>(by cases z),rfl⟩
end
end K33
namespace K33
open PySem L2 VF VL
def iQ(h:Nm n):dE [bdD (t,n)]=some (.bl t,false):=by
 have e:dE [bdD (t,n)]=some (.bl (Txt.startswith (bd (t,n)) minus),false):=rfl;rw[e,DN h]
theorem nO(h:Nm n):iO [bdD (t,n)]=some (.str n,false):=by
 refine aS (o:=.rt (.d (.str n)) [.v (bdD (t,n))]) rfl ?_ rfl;cases t with
 | true =>
  refine aQ (x8 (s:=[.v (bdD (true,n))]) (aG (bp rfl rfl (iQ h) rfl) rfl) (hW rfl rfl rfl rfl (wq (gX h)) ?_));show Rs.d (D.str (Txt.slice (minus++n) (some 1) none))=_;rw[wz]
 | false=>exact aQ (x9 (s:=[.v (bdD (false,n))]) (aG (bp rfl rfl (iQ h) rfl) rfl) rfl)
def M7(h:Nm n):lF [bdD (t,n)]=some (bdD (!t,n),false):=by
 have e1:minus.length=1:=by decide +kernel
 refine aS (o:=.rt (.d (bdD (!t,n))) [.v (bdD (t,n))]) rfl ?_ rfl;cases t with
 | true=>exact aQ (x8 (s:=[.v (bdD (true,n))]) (aG (bp rfl rfl (iQ h) rfl) rfl) (bp rfl rfl (nO h) rfl))
 | false=>exact aQ (x9 (s:=[.v (bdD (false,n))]) (aG (bp rfl rfl (iQ h) rfl) rfl) (aw rfl rfl rfl rfl (oO (by
   have:=(pN (p:=(false,n)) h).2;show minus.length+(bd (false,n)).length<=_
   lia))))
def yF(h:Nm n):bH [bdD (t,n)]=some (bdD (!t,n),false):=by
 have e1:minus.length=1:=by decide +kernel
 obtain⟨c,hc,hcm⟩:=u7 (p:=(t,n)) h;refine aS (o:=.rt (.d (bdD (!t,n))) [.v (bdD (t,n))]) rfl ?_ rfl;cases t with
 | true =>
  refine iu (dI (s:=[.v (bdD (true,n))]) (fF (aG (aw (aw rfl rfl rfl rfl (ix_str (gX h) hc)) rfl rfl rfl rfl) rfl) (Af (hcm.mpr rfl))) (aQ (hW rfl rfl rfl rfl (wq (gX h)) ?_)));show Rs.d (D.str (Txt.slice (minus++n) (some 1) none))=_;rw[wz];rfl
 | false =>
  refine ao (b7 (s:=[.v (bdD (false,n))]) (fF (aG (aw (aw rfl rfl rfl rfl (ix_str (gX h) hc)) rfl rfl rfl rfl) rfl) (Ae fun z=>by cases (hcm.mp z))) rfl) ?_
  exact aQ (aw rfl rfl rfl rfl (oO (by
   have:=(pN (p:=(false,n)) h).2;show minus.length+(bd (false,n)).length<=_
   lia)))
def leE(p:Bool×Str):End:=(p.2,if p.1 then 1 else 0)
def riE(p:Bool×Str):End:=(p.2,if p.1 then 0 else 1)
def tD(h:Nm n):eG [bdD (t,n)]=some (eD (leE (t,n)),false):=by
 refine aS (o:=.rt (.d (eD (leE (t,n)))) [.v (bdD (t,n))]) rfl (aQ ?_) rfl;have h1:aA (bq dE (aa (aC 0) ae)) [.v (bdD (t,n))]=some (t,[.v (bdD (t,n))]):=aG (bp rfl rfl (iQ h) rfl) rfl;refine aU (af (bp rfl rfl (nO h) rfl) (af (r:=.d (.int (if t then 1 else 0))) ?_ rfl)) rfl (by show 2<=1000000;decide)
 cases t with
 | true=>exact x8 h1 rfl
 | false=>exact x9 h1 rfl
def vi(h:Nm n):eN [bdD (t,n)]=some (eD (riE (t,n)),false):=by
 have e:riE (t,n)=leE (!t,n):=by cases t<;>rfl
 rw[e];exact aS (o:=.rt (.d (eD (leE (!t,n)))) [.v (bdD (t,n))]) rfl (aQ (aP (af (bp rfl rfl (M7 h) rfl) rfl) rfl (tD h))) rfl
def vj:fz [.tup [eD a,eD b]]=some (jD (bc [a,b]),false):=by
 refine aS (o:=.rt (.d (jD (bc [a,b]))) [.v (.tup [eD a,eD b])]) rfl (aQ (aN (af (aN (af rfl rfl) rfl (eO [a,b] rfl)) rfl) rfl rfl)) rfl
end K33
namespace K33
open PySem L2 VF VL VF22
noncomputable section
def inn(ps:List (Bool×Str)):List Jnt:=(ps.zip (ps.drop 1)).map fun q=>bc [riE q.1,leE q.2]
def OT(xs ys:List (Bool×Str)):List.zipWith pr (xs.map bdD) (ys.map bdD)=(xs.zip ys).map fun q=>pr (bdD q.1) (bdD q.2):=by
 rw[List.zipWith_map,List.zip,List.map_zipWith]
def G2{ps:List (Bool×Str)}(hn:∀p∈ps,Nm p.2)(hl:ps.length<=100)(hs:bSl (.tup (ps.map bdD)) (some 1) none=some (.tup ((ps.drop 1).map bdD),false)) :
  eW [.tup (ps.map bdD)]=some (.lst ((inn ps).map jD),true):=by
 have ec:ci (gT 2 (gsC (gN 0) (gsC (gN 1) gsN))) bZ (bi fz (aa (bm (aa (bi eN (aa (aC 0) ae)) (aa (bi eG (aa (aC 1) ae)) ae))) ae)) 2 ((ps.zip (ps.drop 1)).map fun q=>pr (bdD q.1) (bdD q.2)) [.e,.e]=some ((inn ps).map jD,[.e,.e]):=by
  have:=bW (fg:=gT 2 (gsC (gN 0) (gsC (gN 1) gsN))) (fc:=bZ) (fe:=bi fz (aa (bm (aa (bi eN (aa (aC 0) ae)) (aa (bi eG (aa (aC 1) ae)) ae))) ae)) (k:=2)
   (fun q:(Bool×Str)×(Bool×Str)=>pr (bdD q.1) (bdD q.2)) (fun q=>jD (bc [riE q.1,leE q.2])) [.e,.e] (ps.zip (ps.drop 1)) fun q hq=>by
    have m:=B2 hq;have n1:=hn q.1 m.1;have n2:=hn q.2 (AT m.2);refine⟨[.v (bdD q.1),.v (bdD q.2)],[.v (bdD q.1),.v (bdD q.2)],.d (jD (bc [riE q.1,leE q.2])),[.v (bdD q.1),.v (bdD q.2)],[.v (bdD q.1),.v (bdD q.2)],rfl,rfl,?_,rfl,rfl⟩;exact aP (af (aU (af (aP rfl rfl (vi n1)) (af (aP rfl rfl (tD n2)) rfl)) rfl (by show 2<=1000000;decide)) rfl) rfl vj
  rw[this,inn,Vg];rfl
 refine aS (o:=.rt (.f (.lst ((inn ps).map jD))) [.v (.tup (ps.map bdD))]) rfl (aQ (bF (s1:=[.v (.tup (ps.map bdD))]) (ds:=(ps.zip (ps.drop 1)).map fun q=>pr (bdD q.1) (bdD q.2)) ?_ ?_ ec)) rfl
 ·have e1:(aa (aC 0) (aa (fSl bSl (aC 0) (cC (fC (.int 1))) oNo) ae)) (iY 1 [.tup (ps.map bdD)])=some (_,_):=af rfl (af (hW rfl rfl rfl rfl hs) rfl);show((aa (aC 0) (aa (fSl bSl (aC 0) (cC (fC (.int 1))) oNo) ae)) (iY 1 [.tup (ps.map bdD)])).bind _=_;rw[e1,← OT];rfl
 ·show(true&&decide (((ps.zip (ps.drop 1)).map fun q=>pr (bdD q.1) (bdD q.2)).length<=1000000))=true;rw[Za,List.length_zip,Af (by lia)];rfl
end
end K33
namespace K33
open PySem L2 VF VL
def yG:bSl (.tup (d::ds)) (some 1) none=some (.tup ds,false):=by
 have h:=sL (d::ds) (some 1) none;have e1:zJ (.tup (d::ds)) (some 1) none=none:=rfl;have c:¬ (HT.sIx (d::ds).length 0 (some 1)=0/\HT.sIx (d::ds).length (d::ds).length none=(d::ds).length):=fun z=>by
  have m:min 1 (d::ds).length=0:=(HT.sIx_nat (d::ds).length 0 1).symm.trans z.1;rw[Yc]at m;lia
 have e2:ot (.tup (d::ds)) (some 1) none=some (.tup (cutD (d::ds) (some 1) none),false):=by simp only[ot,Ak c]
 have e3:cutD (d::ds) (some 1) none=ds:=mF (i:=1) (by rw[Yc];lia)
 rw[e3]at e2;show orS zJ (orS ot Fi) _ _ _=_;simp only[orS,e1,e2]
end K33
namespace VF
open PySem L2
def fq{ds:List D}(h1:fa st=some (rs,s1))(h2:d8 rs s1=some (ds,s2))(h3:ds.length<=1000000):cB fa st=some (.f (.lst ds),s2):=by
 simp only[cB,h1,h2,Wa];rw[Ag h3]
def G3(h1:fa st=some (r,s))(h2:cont s r=some d)(h3:b d=some z)(hz:mk z=r':=by rfl):fUn b fa st=some (r',s):=by
 simp only[fUn,h1,h2,h3,hz,Wa]
def oZ{a b:List D}(h:a.length+b.length<=1000000):cj (.lst a) (.lst b)=some (.lst (a++b),true):=by
 have e1:qW (.lst a) (.lst b)=none:=rfl;have e2:qX (.lst a) (.lst b)=none:=rfl;have e3:wj (.lst a) (.lst b)=some (.lst (a++b),true):=by simp only[wj];rw[Ag h]
 unfold cj orD;rw[e1,e2,e3]
end VF
namespace K33
open PySem L2 VF VL VF22
def me{l:List D}(hl:l.length<=n)(hn:n<=1000000:=by decide)(hb:b=true):(b&&decide (l.length<=1000000))=true:=by rw[hb,Af (by lia)];rfl
def tE{α:Type}{f:α->D}{xs:List α}{i:Nat}{x:α}(h:xs[i]?=some x):atI (xs.map f) (i:Int)=some (f x):=kA (xs:=xs.map f) (j:=i) (by rw[Qe,h];rfl)
def yH{xs:List α}(h:xs[xs.length-1]?=some x):atI (xs.map f) (-1)=some (f x):=by
 have hl:=(Wc.mp h).1;unfold atI ixN;rw[Ak (by lia),Ag (by rw[Za];lia)]
 show(xs.map f)[(-1+((xs.map f).length:Int)).toNat]?=_;rw[Za,show(-1+(xs.length:Int)).toNat=xs.length - 1 by lia,Qe,h];rfl
noncomputable section
abbrev z0:Bool×Str:=(false,Str.empty)
def tF(s:aK):List Jnt:=if s.1 then [bc [leE (s.2.headD z0),riE (s.2.getLastD z0)]] else [[leE (s.2.headD z0)],[riE (s.2.getLastD z0)]]
def sj(s:aK):List Jnt:=inn s.2++tF s
theorem yI{ps:List (Bool×Str)}(h:ps≠[]):ps[0]?=some (ps.headD z0):=by
 cases ps with
 | nil=>exact absurd rfl h
 | cons p r=>rfl
theorem yJ{ps:List (Bool×Str)}(h:ps≠[]):ps[ps.length-1]?=some (ps.getLastD z0):=by
 rw[← List.getLast?_eq_getElem?,Dk];cases ps with
 | nil=>exact absurd rfl h
 | cons p r=>rw[List.getLast?_cons];rfl
def mQ(ps:List (Bool×Str)):(inn ps).length=ps.length-1:=by
 unfold inn;rw[Za,List.length_zip,Zf];lia
def M8(h:s.2≠[]):(sj s).length<=s.2.length+1:=by
 have:=Wh.mpr h;unfold sj tF;rw[Xa,mQ];split<;>(simp only[Yc,Yg];lia)
def G4(a b:End):(bc [a,b]).length=2:=(cS [a,b]).2.length_eq
def KM(h:j∈sj s):j≠[]:=by
 have two:∀a b:End,bc [a,b]≠[]:=fun a b z=>by have:=G4 a b;rw[z]at this;cases this
 unfold sj at h;rcases Wd.mp h with h|h
 ·unfold inn at h;obtain⟨q,_,rfl⟩:=Qc.mp h;exact two _ _
 ·unfold tF at h;split at h
  ·obtain rfl:=Yb.mp h;exact two _ _
  ·simp at h;rcases h with rfl|rfl<;>simp
def DY{s:aK}(hs:s.2≠[])(hn:∀p∈s.2,Nm p.2)(hl:s.2.length<=100):d7 [stD s]=some (.lst ((sj s).map jD),true):=by
 obtain⟨r,ps⟩:=s;dsimp only at hs hn hl;have h0:=yI hs;have hL:=yJ hs;have n0:=hn _ (Wb h0);have nl:=hn _ (Wb hL);generalize e0:ps.headD z0=p0 at h0 n0;generalize eL:ps.getLastD z0=pl at hL nl;have i0:bIx (.tup (ps.map bdD)) (.int 0)=some (bdD p0,false):=VF.ix_tup (tE (i:=0) h0);have il:bIx (.tup (ps.map bdD)) (.int (-1))=some (bdD pl,false):=VF.ix_tup (yH hL);have hsl:bSl (.tup (ps.map bdD)) (some 1) none=some (.tup ((ps.drop 1).map bdD),false):=by
  cases ps with
  | nil=>exact absurd rfl hs
  | cons p q=>exact yG
 have hi:=G2 hn hl hsl;have hll:(inn ps).length<=100:=by rw[mQ];lia
 have eo:tF (r,ps)=if r then [bc [leE p0,riE pl]] else [[leE p0],[riE pl]]:=by unfold tF;dsimp only;rw[e0,eL]
 unfold sj;rw[eo];dsimp only;refine aS (o:=.rt (.f (.lst ((inn ps++(if r then [bc [leE p0,riE pl]] else [[leE p0],[riE pl]])).map jD))) [.v (stD (r,ps)),.v (.tup (ps.map bdD)),.v (eD (leE p0)),.v (eD (riE pl)),.o (.lst ((if r then [bc [leE p0,riE pl]] else [[leE p0],[riE pl]]).map jD))]) rfl ?_ rfl;refine ao (s:=[.v (stD (r,ps)),.v (.tup (ps.map bdD)),.e,.e,.e]) (cJ rfl rfl) ?_;refine ao (s:=[.v (stD (r,ps)),.v (.tup (ps.map bdD)),.v (eD (leE p0)),.e,.e]) (cJ (aP (af (aw rfl rfl rfl rfl i0) rfl) rfl (tD (t:=p0.1) (n:=p0.2) n0)) rfl) ?_;refine ao (s:=[.v (stD (r,ps)),.v (.tup (ps.map bdD)),.v (eD (leE p0)),.v (eD (riE pl)),.e]) (cJ (aP (af (aw rfl (G3 rfl rfl rfl) rfl rfl il) rfl) rfl (vi (t:=pl.1) (n:=pl.2) nl)) rfl) ?_;have fin:∀os:List Jnt,os.length<=2->(bx (fOp cj (bi eW (aa (aC 1) ae)) (aC 4))) [.v (stD (r,ps)),.v (.tup (ps.map bdD)),.v (eD (leE p0)),.v (eD (riE pl)),.o (.lst (os.map jD))]=some (.rt (.f (.lst ((inn ps++os).map jD))) [.v (stD (r,ps)),.v (.tup (ps.map bdD)),.v (eD (leE p0)),.v (eD (riE pl)),.o (.lst (os.map jD))]):=fun os ho=>by
  refine aQ (aw (aP rfl rfl hi) rfl rfl rfl (oZ ?_) ?_)
  ·rw[Za,Za];lia
  ·rw[Zc];rfl
 cases r with
 | true =>
  refine ao (dS (x9 (s:=[.v (stD (true,ps)),.v (.tup (ps.map bdD)),.v (eD (leE p0)),.v (eD (riE pl)),.e]) rfl (fq (af (aP (af (aU rfl rfl (by show 2<=1000000;decide)) rfl) rfl vj) rfl) rfl (by show 1<=1000000;decide))) rfl) ?_
  exact fin [bc [leE p0,riE pl]] (by show 1<=2;decide)
 | false =>
  refine ao (dS (x8 (s:=[.v (stD (false,ps)),.v (.tup (ps.map bdD)),.v (eD (leE p0)),.v (eD (riE pl)),.e]) rfl (fq (af (aU rfl rfl (by show 1<=1000000;decide)) (af (aU rfl rfl (by show 1<=1000000;decide)) rfl)) rfl (by show 2<=1000000;decide))) rfl) ?_
  exact fin [[leE p0],[riE pl]] (by show 2<=2;decide)
theorem o0:∀{ss:List aK},(∀s∈ss,s.2≠[])->(ss.flatMap sj).length<=2*(ss.flatMap (·.2)).length
 | [],_=>Va _
 | s::r,h=>by
  have ih:=o0 fun x hx=>h x (Xb _ hx);have h1:=h s Qa;have h2:=M8 h1;have:=Wh.mpr h1;rw[Zd,Zd,Xa,Xa];lia
def jo(ss:List aK):List Jnt:=fT (ss.flatMap sj)
def nP{ss:List aK}(hne:∀s∈ss,s.2≠[])(hn:∀s∈ss,∀p∈s.2,Nm p.2)(hl:(ss.flatMap (·.2)).length<=100):fR [.tup (ss.map stD)]=some (.tup ((jo ss).map jD),false):=by
 have hj:=o0 hne;obtain⟨sf,e,s2,rfl,q2⟩:=cw (fg:=gN 2) (B:=bU (fM isL hV 1 (aa (bi d7 (aa (aC 2) ae)) ae))) stD ss
  (fun gone st=>∃s2:Sl,st=[.v (.tup (ss.map stD)),.o (.lst ((gone.flatMap sj).map jD)),s2]/\s2.isIo=false)
  (by
   rintro gone s rest st ha ⟨s2,rfl,q2⟩;have hm:s∈ss:=by rw[ha];simp
   have hsl:s.2.length<=100:=by
    have:=congrArg (fun l=>(List.flatMap (fun x:aK=>x.2) l).length) ha;simp only[Ze,Zd,Xa]at this;lia
   have hgl:(gone.flatMap sj).length+(sj s).length<=200:=by
    have:=congrArg (fun l=>(List.flatMap sj l).length) ha;simp only[Ze,Zd,Xa]at this;lia
   refine⟨_,[.v (.tup (ss.map stD)),.o (.lst (((gone++[s]).flatMap sj).map jD)),.v (stD s)],bB rfl q2,?_,.v (stD s),rfl,rfl⟩;refine bE (dU rfl rfl rfl (af (aP rfl rfl (DY (hne s hm) (hn s hm) hsl)) rfl) rfl rfl rfl (sM ?_) ?_)
   ·rw[Za,Za];lia
   ·rw[Ze,Vf,Zc];rfl)
  ss [] [.v (.tup (ss.map stD)),.o (.lst []),.e] rfl ⟨.e,rfl,rfl⟩
 refine aS (o:=.rt (.d (.tup ((jo ss).map jD))) [.v (.tup (ss.map stD)),.o (.lst ((ss.flatMap sj).map jD)),s2]) rfl ?_ rfl;refine ao rfl (ao (cW (dW rfl rfl) e) (aQ (aN (af (aN rfl rfl (iP (ss.flatMap sj) (fun j hj=>?_) rfl)) rfl) rfl rfl)));obtain⟨s,_,h⟩:=Ql.mp hj;exact KM h
end
end K33
namespace K33
open PySem L2 VF VL VF22
noncomputable section
def cP(p:Bool×Str):D:=.tup [eD (leE p),eD (riE p)]
theorem Jm(h:Nm p.2):gR [bdD p]=some (cP p,false):=by
 obtain⟨t,n⟩:=p;obtain⟨c,hc,hcm⟩:=u7 (p:=(t,n)) h;refine aS (o:=.rt (.d (cP (t,n))) [.v (bdD (t,n))]) rfl ?_ rfl;cases t with
 | true =>
  have hs:bSl (bdD (true,n)) (some 1) none=some (.str n,false):=by
   rw[wq (gX h)];show some (D.str (Txt.slice (minus++n) (some 1) none),false)=_;rw[wz]
  refine iu (dI (s:=[.v (bdD (true,n))]) (fF (aG (aw (aw rfl rfl rfl rfl (ix_str (gX h) hc)) rfl rfl rfl rfl) rfl) (Af (hcm.mpr rfl))) (aQ ?_));exact aU (af (aU (af (hW rfl rfl rfl rfl hs) rfl) rfl (by show 2<=1000000;decide)) (af (aU (af (hW rfl rfl rfl rfl hs) rfl) rfl (by show 2<=1000000;decide)) rfl)) rfl (by show 2<=1000000;decide)
 | false =>
  refine ao (b7 (s:=[.v (bdD (false,n))]) (fF (aG (aw (aw rfl rfl rfl rfl (ix_str (gX h) hc)) rfl rfl rfl rfl) rfl) (Ae fun z=>by cases (hcm.mp z))) rfl) (aQ ?_)
  exact aU (af (aU rfl rfl (by show 2<=1000000;decide)) (af (aU rfl rfl (by show 2<=1000000;decide)) rfl)) rfl (by show 2<=1000000;decide)
def G5{ps:List (Bool×Str)}(hp:∀p∈ps,Nm p.2):ci (gN 0) bZ (bi gR (aa (aC 0) ae)) 1 (ps.map bdD) [.e]=some (ps.map cP,[.e]) :=
 bW (fg:=gN 0) (fc:=bZ) (fe:=bi gR (aa (aC 0) ae)) (k:=1) bdD cP [.e] ps fun p hpp=>⟨[.v (bdD p)],[.v (bdD p)],.d (cP p),[.v (bdD p)],[.v (bdD p)],rfl,rfl,aP rfl rfl (Jm (hp p hpp)),rfl,rfl⟩
def Jn(p q:Bool×Str):Jnt:=bc [riE p,leE q]
def G6(h1:ps[i]?=some a)(h2:ps[i+1]?=some b):(inn ps).take (i+1)=(inn ps).take i++[Jn a b]:=by
 rw[List.take_add_one];congr 1;unfold inn;rw[Qe];have:(ps.zip (ps.drop 1))[i]?=some (a,b):=by
  rw[List.getElem?_zip_eq_some];refine⟨h1,?_⟩;rw[Xg,Dx];exact h2
 rw[this];rfl
def DZ{S kd bs:D}{ps:List (Bool×Str)}(h1:1<=ps.length)(hl:ps.length<=100)(B:FS)
  (hB:B=bU (fM isL aY 1 (aa (fCB bn (aa (fCB bS (aa (cB (aa (fOp bIx (fOp bIx (aC 4) (aC 5)) (fC (.int 1))) (aa (fOp bIx (fOp bIx (aC 4) (fOp cj (aC 5) (fC (.int 1)))) (fC (.int 0))) ae))) ae)) ae)) ae)))
  (js:List Jnt) (hj:js.length<=500) (s5:Sl) (q5:s5.isIo=false) :
  ∃(s5':Sl),f7 (gN 5) B (rng 0 (ps.length-1)) [.v S,.o (.lst (js.map jD)),.v kd,.v bs,.o (.lst (ps.map cP)),s5]=some (.nx [.v S,.o (.lst ((js++inn ps).map jD)),.v kd,.v bs,.o (.lst (ps.map cP)),s5'])/\s5'.isIo=false:=by
 have e0:rng 0 (ps.length-1)=(List.range (ps.length-1)).map fun t:Nat=>D.int (t:Int):=by
  unfold rng;exact Qi fun t _=>by rw[DB]
 rw[e0];obtain⟨sf,e,s5',rfl,q5'⟩:=cw (fg:=gN 5) (B:=B) (fun t:Nat=>D.int (t:Int)) (List.range (ps.length-1))
  (fun gone st=>∃(s5':Sl),st=[.v S,.o (.lst ((js++(inn ps).take gone.length).map jD)),.v kd,.v bs,.o (.lst (ps.map cP)),s5']/\s5'.isIo=false)
  (by
   rintro gone x rest st ha ⟨s5',rfl,q5'⟩;have hx:x<ps.length-1:=Zk.mp (by rw[ha];simp)
   have hg:x=gone.length:=by
    have:=congrArg (fun l=>l[gone.length]?) ha;rw[List.getElem?_range (by have:=congrArg List.length ha;rw[AQ,Xa,Yc]at this;lia)]at this
    simpa using this.symm
   have a1:ps[x]?=some ps[x]:=Ya (by lia)
   have a2:ps[x+1]?=some ps[x+1]:=Ya (by lia)
   have i1:bIx (.lst (ps.map cP)) (.int (x:Int))=some (cP ps[x],false):=ki (tE a1);have i2:bIx (.lst (ps.map cP)) (.int ((x:Int)+1))=some (cP ps[x+1],false):=by
    have:=tE (f:=cP) a2;rw[Int.natCast_add]at this;exact ki this
   have ej:=eO (d:=.lst [eD (riE ps[x]),eD (leE ps[x+1])]) [riE ps[x],leE ps[x+1]] rfl;refine⟨_,[.v S,.o (.lst ((js++(inn ps).take (gone++[x]).length).map jD)),.v kd,.v bs,.o (.lst (ps.map cP)),.v (.int (x:Int))],bB rfl q5',?_,.v (.int (x:Int)),rfl,rfl⟩;rw[hB];refine bE (dU rfl rfl rfl (af (aN (af (aN (af (fq (af (aw (aw rfl rfl rfl rfl i1) rfl rfl rfl rfl) (af (aw (aw rfl (aw rfl rfl rfl rfl rfl) rfl rfl i2) rfl rfl rfl rfl) rfl)) rfl (by show 2<=1000000;decide)) rfl) rfl ej) rfl) rfl rfl) rfl) rfl rfl rfl (cO ?_) ?_)
   ·rw[Za,Xa,Zg,mQ];lia
   ·rw[Xa,Bk,← hg,G6 a1 a2,← Qb,Zc (l₁:=js++_)];rfl)
  (List.range (ps.length-1)) [] [.v S,.o (.lst (js.map jD)),.v kd,.v bs,.o (.lst (ps.map cP)),s5] rfl ⟨s5,by rw[Yg,Dd,Xc],q5⟩
 rw[AQ,AJ (by rw[mQ];lia)]at e
 exact⟨s5',e,q5'⟩
def wR{ss:List aK}(hne:∀s∈ss,s.2≠[])(hn:∀s∈ss,∀p∈s.2,Nm p.2)(hl:(ss.flatMap (·.2)).length<=100):db [.tup (ss.map stD)]=some (.tup ((jo ss).map jD),false):=by
 have hj:=o0 hne;have sp:∃B,gh=aD (aV (cB ae) 1) (aD (ft (fIA (aC 0)) (VF.gT 2 (gsC (gN 2) (gsC (gN 3) gsN))) B) (bx (fCB bn (aa (fCB bS (aa (aC 1) ae)) ae)))) /\
   ∀(S:D)(js:List Jnt)(s:aK)(s4 s5:Sl),s.2≠[]->(∀p∈s.2,Nm p.2)->s.2.length<=100->js.length<=300->s4.isIo=false->s5.isIo=false ->
    ∃(s4' s5':Sl),B [.v S,.o (.lst (js.map jD)),.v (.str (kd s.1)),.v (.tup (s.2.map bdD)),s4,s5]=some (.nx [.v S,.o (.lst ((js++sj s).map jD)),.v (.str (kd s.1)),.v (.tup (s.2.map bdD)),s4',s5'])/\s4'.isIo=false/\s5'.isIo=false:=by
  refine⟨_,rfl,fun S js s s4 s5 hs hp hsl hj q4 q5=>?_⟩;obtain⟨r,ps⟩:=s;dsimp only at hs hp hsl ⊢;have hps:1<=ps.length:=Wh.mpr hs;have cm:=G5 hp;obtain⟨s5',e1,q5'⟩:=DZ (S:=S) (kd:=.str (kd r)) (bs:=.tup (ps.map bdD)) hps hsl _ rfl js (by lia) s5 q5
  have hp0:=yI hs;have hpl:=yJ hs;have i0:bIx (.lst (ps.map cP)) (.int 0)=some (cP (ps.headD z0),false):=ki (tE (i:=0) hp0);have il:bIx (.lst (ps.map cP)) (.int (-1))=some (cP (ps.getLastD z0),false):=ki (yH hpl);have len4:bJ [.lst (ps.map cP)]=some (.int ps.length,false):=by
   show some (D.int ((ps.map cP).length:Nat),false)=_;rw[Za]
  have esub:((ps.length:Int)-1).toNat=ps.length-1:=by lia
  have hil:(js++inn ps).length<=500:=by rw[Xa,mQ];lia
  cases r with
  | true =>
   have ej:=eO (d:=.lst [eD (riE (ps.getLastD z0)),eD (leE (ps.headD z0))]) [riE (ps.getLastD z0),leE (ps.headD z0)] rfl;have es:sj (true,ps)=inn ps++[bc [riE (ps.getLastD z0),leE (ps.headD z0)]]:=by
    show inn ps++[bc [leE (ps.headD z0),riE (ps.getLastD z0)]]=_;rw[eI (List.Perm.swap _ _ [])]
   refine⟨.o (.lst (ps.map cP)),s5',?_,rfl,q5'⟩;refine ao (s:=[.v S,.o (.lst (js.map jD)),.v (.str (kd true)),.v (.tup (ps.map bdD)),.o (.lst (ps.map cP)),s5]) (dS (bF (s2:=[.e]) (dW rfl rfl) (me (n:=100) (by rw[Za];exact hsl) (by decide) rfl) cm) (bB rfl q4)) ?_
   refine ao (cW (fK (j:=(ps.length:Int)-1) (af (aw (aN rfl rfl len4) rfl rfl rfl rfl) rfl) rfl ⟨by lia,by lia⟩) (by rw[esub];exact e1)) ?_
   refine dI (s:=[.v S,.o (.lst ((js++inn ps).map jD)),.v (.str (kd true)),.v (.tup (ps.map bdD)),.o (.lst (ps.map cP)),s5']) rfl ?_;refine bE (dU rfl rfl rfl (af (aN (af (aN (af (fq (af (aw (aw rfl (G3 rfl rfl rfl) rfl rfl il) rfl rfl rfl rfl) (af (aw (aw rfl rfl rfl rfl i0) rfl rfl rfl rfl) rfl)) rfl (by show 2<=1000000;decide)) rfl) rfl ej) rfl) rfl rfl) rfl) rfl rfl rfl (cO ?_) ?_)
   ·rw[Za];lia
   ·rw[es,← Qb,Zc (l₁:=js++inn ps)];rfl
  | false =>
   have es:sj (false,ps)=inn ps++[[leE (ps.headD z0)],[riE (ps.getLastD z0)]]:=rfl;refine⟨.o (.lst (ps.map cP)),s5',?_,rfl,q5'⟩;refine ao (s:=[.v S,.o (.lst (js.map jD)),.v (.str (kd false)),.v (.tup (ps.map bdD)),.o (.lst (ps.map cP)),s5]) (dS (bF (s2:=[.e]) (dW rfl rfl) (me (n:=100) (by rw[Za];exact hsl) (by decide) rfl) cm) (bB rfl q4)) ?_
   refine ao (cW (fK (j:=(ps.length:Int)-1) (af (aw (aN rfl rfl len4) rfl rfl rfl rfl) rfl) rfl ⟨by lia,by lia⟩) (by rw[esub];exact e1)) ?_
   refine b7 (s:=[.v S,.o (.lst ((js++inn ps).map jD)),.v (.str (kd false)),.v (.tup (ps.map bdD)),.o (.lst (ps.map cP)),s5']) rfl ?_;refine ao (s:=[.v S,.o (.lst ((js++inn ps++[[leE (ps.headD z0)]]).map jD)),.v (.str (kd false)),.v (.tup (ps.map bdD)),.o (.lst (ps.map cP)),s5']) (bE (dU rfl rfl rfl (af (aU (af (aw (aw rfl rfl rfl rfl i0) rfl rfl rfl rfl) rfl) rfl (by show 1<=1000000;decide)) rfl) rfl rfl rfl (cO ?_) ?_)) ?_
   ·rw[Za];lia
   ·rw[Zc (l₁:=js++inn ps)];rfl
   refine bE (dU rfl rfl rfl (af (aU (af (aw (aw rfl (G3 rfl rfl rfl) rfl rfl il) rfl rfl rfl rfl) rfl) rfl (by show 1<=1000000;decide)) rfl) rfl rfl rfl (cO ?_) ?_)
   ·rw[Za,Xa,Bk];lia
   ·rw[es,show js++(inn ps++[[leE (ps.headD z0)],[riE (ps.getLastD z0)]])=js++inn ps++[[leE (ps.headD z0)]]++[[riE (ps.getLastD z0)]] by simp,Zc (l₁:=js++inn ps++[[leE (ps.headD z0)]])];rfl
 obtain⟨B,eF,hB⟩:=sp;obtain⟨sf,e,s2,s3,s4,s5,rfl,q2,q3,q4,q5⟩:=cw (fg:=VF.gT 2 (gsC (gN 2) (gsC (gN 3) gsN))) (B:=B) stD ss
  (fun gone st=>∃(s2 s3 s4 s5:Sl),st=[.v (.tup (ss.map stD)),.o (.lst ((gone.flatMap sj).map jD)),s2,s3,s4,s5]/\s2.isIo=false/\s3.isIo=false/\s4.isIo=false/\s5.isIo=false)
  (by
   rintro gone s rest st ha ⟨s2,s3,s4,s5,rfl,q2,q3,q4,q5⟩;have hm:s∈ss:=by rw[ha];simp
   have hsl:s.2.length<=100:=by
    have:=congrArg (fun l=>(List.flatMap (fun x:aK=>x.2) l).length) ha;simp only[Ze,Zd,Xa]at this;lia
   have hgl:(gone.flatMap sj).length<=200:=by
    have:=congrArg (fun l=>(List.flatMap sj l).length) ha;simp only[Ze,Zd,Xa]at this;lia
   obtain⟨s4',s5',eb,q4',q5'⟩:=hB (.tup (ss.map stD)) (gone.flatMap sj) s s4 s5 (hne s hm) (hn s hm) hsl (by lia) q4 q5
   refine⟨[.v (.tup (ss.map stD)),.o (.lst ((gone.flatMap sj).map jD)),.v (.str (kd s.1)),.v (.tup (s.2.map bdD)),s4,s5],_,?_,eb,.v (.str (kd s.1)),.v (.tup (s.2.map bdD)),s4',s5',by rw[Ze,Vf],rfl,rfl,q4',q5'⟩
   show(if 2=2 then gsC (gN 2) (gsC (gN 3) gsN) [.str (kd s.1),.tup (s.2.map bdD)] _ else none)=_;rw[Ag rfl];show(gN 2 (.str (kd s.1)) _).bind _=_;rw[show gN 2 (.str (kd s.1)) [.v (.tup (ss.map stD)),.o (.lst ((gone.flatMap sj).map jD)),s2,s3,s4,s5]=some [.v (.tup (ss.map stD)),.o (.lst ((gone.flatMap sj).map jD)),.v (.str (kd s.1)),s3,s4,s5] from bB rfl q2];show(gN 3 (.tup (s.2.map bdD)) _).bind _=_;rw[show gN 3 (.tup (s.2.map bdD)) [.v (.tup (ss.map stD)),.o (.lst ((gone.flatMap sj).map jD)),.v (.str (kd s.1)),s3,s4,s5]=some [.v (.tup (ss.map stD)),.o (.lst ((gone.flatMap sj).map jD)),.v (.str (kd s.1)),.v (.tup (s.2.map bdD)),s4,s5] from bB rfl q3]
   rfl)
  ss [] [.v (.tup (ss.map stD)),.o (.lst []),.e,.e,.e,.e] rfl ⟨.e,.e,.e,.e,rfl,rfl,rfl,rfl,rfl⟩
 refine aS (o:=.rt (.d (.tup ((jo ss).map jD))) [.v (.tup (ss.map stD)),.o (.lst ((ss.flatMap sj).map jD)),s2,s3,s4,s5]) rfl ?_ rfl;rw[eF];refine ao rfl (ao (cW (dW rfl rfl) e) (aQ (aN (af (aN rfl rfl (iP (ss.flatMap sj) (fun j hj=>?_) rfl)) rfl) rfl rfl)));obtain⟨s,_,h⟩:=Ql.mp hj;exact KM h
abbrev Bd:=Bool×Str
def yK(p q:Bd)(r:List Bd):inn (p::q::r)=Jn p q::inn (q::r):=rfl
theorem o3:∀(xs:List Bd)(y:Bd)(ys:List Bd),xs≠[]->inn (xs++y::ys)=inn xs++Jn (xs.getLastD z0) y::inn (y::ys)
 | [],_,_,h=>absurd rfl h
 | [x],y,ys,_=>rfl
 | x::x'::r,y,ys,_=>by
  have ih:=o3 (x'::r) y ys (by simp)
  show Jn x x'::inn (x'::r++y::ys)=Jn x x'::(inn (x'::r)++_);rw[ih];rfl
def flp(p:Bd):Bd:=(!p.1,p.2)
def G7(p:Bd):leE (flp p)=riE p:=by obtain⟨t,n⟩:=p;cases t<;>rfl
def G8(p:Bd):riE (flp p)=leE p:=by obtain⟨t,n⟩:=p;cases t<;>rfl
def M9(p q:Bd):Jn (flp q) (flp p)=Jn p q:=by
 unfold Jn;rw[G8,G7];exact eI (List.Perm.swap _ _ [])
def fU(ps:List Bd):List Bd:=ps.reverse.map flp
def qc(p:Bd)(r:List Bd):fU (p::r)=fU r++[flp p]:=by unfold fU;rw[AO,Zc];rfl
def mR(xs:List α)(x z:α):(xs++[x]).getLastD z=x:=by rw[Dk];simp
def vm:(fU (p::r)).getLastD z0=flp p:=by rw[qc,mR]
def G9:fU (p::r)≠[]:=by rw[qc];simp
theorem yL:∀ps:List Bd,inn (fU ps)=(inn ps).reverse
 | []=>rfl
 | [p]=>rfl
 | p::q::r=>by
  have ih:=yL (q::r);rw[qc,o3 _ _ _ G9,ih,vm,M9,yK,AO];rfl
def Ha(ps:List Bd)(h:ps≠[]):(fU ps).headD z0=flp (ps.getLastD z0):=by
 obtain⟨r,p,rfl⟩:∃r p,ps=r++[p]:=⟨ps.dropLast,ps.getLast h,(C8 h).symm⟩;rw[mR];unfold fU;rw[Cg];rfl
theorem D0(ps:List Bd)(h:ps≠[]):(fU ps).getLastD z0=flp (ps.headD z0):=by
 cases ps with
 | nil=>exact absurd rfl h
 | cons p r=>exact vm
theorem Na(h:ps≠[]):(sj (b,fU ps)).Perm (sj (b,ps)):=by
 unfold sj tF;dsimp only;rw[yL,Ha ps h,D0 ps h,G7,G8];refine List.Perm.append (List.reverse_perm _) ?_;cases b with
 | true =>
  show [bc [riE (ps.getLastD z0),leE (ps.headD z0)]].Perm [bc [leE (ps.headD z0),riE (ps.getLastD z0)]];rw[eI (List.Perm.swap _ _ [])]
 | false=>exact List.Perm.swap _ _ []
def yM(ps:List Bd):tF (true,ps)=[Jn (ps.getLastD z0) (ps.headD z0)]:=by
 show [bc [leE (ps.headD z0),riE (ps.getLastD z0)]]=[bc [riE (ps.getLastD z0),leE (ps.headD z0)]];rw[eI (List.Perm.swap _ _ [])]
def rF{xs ys:List Bd}(h:ys≠[]):(xs++ys).getLastD z0=ys.getLastD z0:=by
 obtain⟨r,p,rfl⟩:∃r p,ys=r++[p]:=⟨ys.dropLast,ys.getLast h,(C8 h).symm⟩;rw[← Qb,mR,mR]
theorem Nb:(sj (true,ys++xs)).Perm (sj (true,xs++ys)):=by
 cases xs with
 | nil=>rw[Xc,Vm]
 | cons x xr =>
  cases ys with
  | nil=>rw[Xc,Vm]
  | cons y yr =>
   unfold sj;rw[yM,yM,rF (by simp),rF (by simp)]
   dsimp only;rw[o3 (y::yr) x xr (by simp),o3 (x::xr) y yr (by simp)]
   show(inn (y::yr)++Jn ((y::yr).getLastD z0) x::inn (x::xr)++[Jn ((x::xr).getLastD z0) y]).Perm (inn (x::xr)++Jn ((x::xr).getLastD z0) y::inn (y::yr)++[Jn ((y::yr).getLastD z0) x]);generalize inn (y::yr)=A;generalize inn (x::xr)=B;generalize Jn ((y::yr).getLastD z0) x=u;generalize Jn ((x::xr).getLastD z0) y=v;rw[show A++u::B++[v]=(A++[u])++(B++[v]) by simp,show B++v::A++[u]=(B++[v])++(A++[u]) by simp]
   exact Bj
def jB(ps:List Bd):List End:=ps.map leE++ps.map riE
theorem vn:∀(p:Bd)(r:List Bd),((inn (p::r)).flatten++[leE p]++[riE ((p::r).getLastD z0)]).Perm (jB (p::r))
 | p,[]=>List.Perm.refl _
 | p,q::r=>by
  have ih:=vn q r;have e:((p::q::r).getLastD z0)=(q::r).getLastD z0:=rfl;rw[yK,e,Bh];generalize (inn (q::r)).flatten=A at ih ⊢;generalize (q::r).getLastD z0=l at ih ⊢;have h1:(Jn p q).Perm [riE p,leE q]:=(cS _).2;have h2:(jB (p::q::r)).Perm (riE p::leE p::jB (q::r)):=by
   show(leE p::((q::r).map leE++riE p::(q::r).map riE)).Perm _;exact((Yl).cons _).trans (List.Perm.swap _ _ _)
  refine List.Perm.trans ?_ h2.symm;have h3:(Jn p q++A++[leE p]++[riE l]).Perm (riE p::leE p::(A++[leE q]++[riE l])):=by
   refine((((h1.append_right A).append_right [leE p]).append_right [riE l])).trans ?_;show(riE p::leE q::(A++[leE p]++[riE l])).Perm _;refine List.Perm.cons _ ?_;have e1:leE q::(A++[leE p]++[riE l])=(leE q::A)++leE p::[riE l]:=by simp
   have e2:leE p::(A++[leE q]++[riE l])=leE p::(A++leE q::[riE l]):=by simp
   rw[e1,e2];exact(Yl).trans ((Yl.symm).cons _)
  exact h3.trans ((ih.cons _).cons _)
theorem Jo(h:s.2≠[]):((sj s).flatten).Perm (jB s.2):=by
 obtain⟨b,ps⟩:=s;cases ps with
 | nil=>exact absurd rfl h
 | cons p r =>
  refine List.Perm.trans ?_ (vn p r);unfold sj;rw[Xn,Qb];refine AA _ ?_;cases b with
  | true =>
   show([bc [leE p,riE ((p::r).getLastD z0)]].flatten).Perm ([leE p]++[riE ((p::r).getLastD z0)]);rw[BW];exact(cS _).2
  | false=>exact List.Perm.refl _
def zero(x:Str):End:=(x,0)
def one(x:Str):End:=(x,1)
theorem jz:∀ps:List Bd,(jB ps).Perm ((ps.map (·.2)).map zero++(ps.map (·.2)).map one)
 | []=>List.Perm.refl _
 | p::r=>by
  have ih:=jz r;have h1:(jB (p::r)).Perm (leE p::riE p::jB r):=(Yl).cons _;refine h1.trans ?_;have h2:((((p::r).map (·.2)).map zero++((p::r).map (·.2)).map one)).Perm (zero p.2::one p.2::((r.map (·.2)).map zero++(r.map (·.2)).map one)):=(Yl).cons _;refine List.Perm.trans ?_ h2.symm;obtain⟨t,n⟩:=p;cases t with
  | true=>exact(List.Perm.swap _ _ _).trans ((ih.cons _).cons _)
  | false=>exact(ih.cons _).cons _
def Hb(a b:List Bd):(jB (a++b)).Perm (jB a++jB b):=by
 unfold jB;rw[Zc,Zc];have e1:a.map leE++b.map leE++(a.map riE++b.map riE)=a.map leE++(b.map leE++a.map riE)++b.map riE:=by simp
 have e2:a.map leE++a.map riE++(b.map leE++b.map riE)=a.map leE++(a.map riE++b.map leE)++b.map riE:=by simp
 rw[e1,e2];exact(AA _ Bj).append_right _
theorem kN:∀{ss:List aK},(∀s∈ss,s.2≠[])->((ss.flatMap sj).flatten).Perm (jB (ss.flatMap (·.2)))
 | [],_=>List.Perm.refl _
 | s::r,h=>by
  have ih:=kN fun x hx=>h x (Xb _ hx);rw[Zd,Zd,Xn];exact((Jo (h s Qa)).append ih).trans (Hb _ _).symm
def tG{ss:List aK}(h:∀s∈ss,s.2≠[]){xs:List Str}(p:((ss.flatMap (·.2)).map (·.2)).Perm xs):((jo ss).flatten).Perm (xs.map zero++xs.map one):=by
 have h1:(jo ss).Perm (ss.flatMap sj):=(di _).2;refine(h1.flatten).trans ((kN h).trans ((jz _).trans ?_));exact(p.map zero).append (p.map one)
def Hc{xs:List D}(hφ:b8 φ)(hx:xs.length<=200):∃(ys:List D)(φ':D),cR φ [.tup xs]=some ((.lst ys,true),φ')/\ys.Perm xs/\b8 φ':=by
 obtain⟨sf,ew,ts,φ',rfl,pm,hf⟩:=sJ (f:=aA (fOp bNe (aC 2) (cB ae))) (B:=bU (fM isL aY 3 (aa (fM isL ir 2 (aa (fIO aB 0 (aa (fCB bJ (aa (aC 2) ae)) ae)) ae)) ae)))
  (fun m s=>∃(ls ts:List D)(φ':D),s=[.io φ',.v (.tup xs),.o (.lst ls),.o (.lst ts)]/\b8 φ'/\(ts++ls).Perm xs/\m=ls.length)
  (fun s=>∃(ts:List D)(φ':D),s=[.io φ',.v (.tup xs),.o (.lst []),.o (.lst ts)]/\ts.Perm xs/\b8 φ')
  (by
   rintro m s ⟨ls,ts,φ',rfl,hf,pm,rfl⟩;have hlen:ts.length+ls.length=xs.length:=by have:=pm.length_eq;rw[Xa]at this;exact this
   cases ls with
   | nil =>
    rw[Xc]at pm;exact .inl ⟨_,rfl,ts,φ',rfl,pm,hf⟩
   | cons y lr =>
    right;have hl0:(y::lr).length=lr.length+1:=rfl;obtain⟨d,φ2,e,d0,d1,f2⟩:=bT (n:=((y::lr).length:Int)) hf (by lia) (by lia)
    have hk:d.toNat<(y::lr).length:=by lia
    refine⟨_,[.io φ2,.v (.tup xs),.o (.lst ((y::lr).eraseIdx d.toNat)),.o (.lst (ts++[(y::lr)[d.toNat]]))],((y::lr).eraseIdx d.toNat).length,rfl,?_,?_,_,_,φ2,rfl,f2,?_,rfl⟩
    ·exact bE (dU rfl rfl rfl (af (dU rfl rfl rfl (af (bV rfl rfl rfl rfl rfl rfl e) rfl) rfl rfl rfl (qa d0 d1 (by lia) hk)) rfl) rfl rfl rfl (cO (by lia)))
    ·rw[De hk];lia
    ·refine List.Perm.trans ?_ pm;rw[Qb]
     exact AA ts (jh hk))
  300 xs.length [.io φ,.v (.tup xs),.o (.lst xs),.o (.lst [])] (by lia) ⟨xs,[],φ,rfl,hφ,List.Perm.refl _,rfl⟩
 refine⟨ts,φ',?_,pm,hf⟩;refine cr (o:=.rt (.s 3) [.io φ',.v (.tup xs),.o (.lst []),.o (.lst ts)]) rfl ?_ rfl;refine ao (s:=[.io φ,.v (.tup xs),.o (.lst xs),.e]) rfl ?_;refine ao (s:=[.io φ,.v (.tup xs),.o (.lst xs),.o (.lst [])]) rfl ?_;exact ao ew rfl
theorem nQ:∀{ys:List β}{xs:List α},ys.Perm (xs.map f)->∃zs:List α,ys=zs.map f/\zs.Perm xs
 | [],xs,p=>⟨[],rfl,by
  have:=p.length_eq;rw[Za,Yg]at this
  rw[Yi this.symm]⟩
 | y::r,xs,p=>by
  obtain⟨x,hx,rfl⟩:=Qc.mp (p.mem_iff.mp Qa);obtain⟨a,b,rfl⟩:=List.append_of_mem hx;have p2:(f x::r).Perm (f x::(a++b).map f):=by
   refine p.trans ?_;rw[Zc,Zc,We];exact Yl
  obtain⟨zs,rfl,q⟩:=nQ (List.Perm.cons_inv p2);exact⟨x::zs,rfl,(q.cons x).trans Yl.symm⟩
structure Tld(s t:aK):Prop where
 ne:t.2≠[]
 nm:∀p∈t.2,Nm p.2
 ln:t.2.length=s.2.length
 js:(sj t).Perm (sj s)
def vo{us:List aK}{s5:Sl}(hφ:b8 φ)(hs:s.2≠[])(hn:∀p∈s.2,Nm p.2)(hl:s.2.length<=100)(hu:us.length<=200)(q5:s5.isIo=false)(B:FS)
  (hB:B=(aD (sIf (aA (fOp bEq (aC 3) (fC (.str "ring")))) (aD (aV (fIO aB 0 (aa (fCB bJ (aa (aC 4) ae)) ae)) 5)
  (aV (fOp f8 (fSl oy (aC 4) (cC (aC 5)) oNo) (fSl oy (aC 4) oNo (cC (aC 5)))) 4)) bQ)
  (aD (sIf (aA (fOp bEq (fIO aB 0 (aa (fC (.int 2)) ae)) (fC (.int 0)))) (aV (fCB bn (aa (ce 1 [] (fIA (uH (aC 4))) (gN 0) bZ (bq bH (aa (aC 0) ae))) ae)) 4) bQ)
  (bU (fM isL aY 2 (aa (bm (aa (aC 3) (aa (aC 4) ae))) ae)))))) :
  ∃(t:aK)(φ':D)(s5':Sl),Tld s t/\b8 φ'/\s5'.isIo=false /\
   B [.io φ,.v S,.o (.lst (us.map stD)),.v (.str (kd s.1)),.v (.tup (s.2.map bdD)),s5]=some (.nx [.io φ',.v S,.o (.lst ((us++[t]).map stD)),.v (.str (kd s.1)),.v (.tup (t.2.map bdD)),s5']):=by
 obtain⟨r,ps⟩:=s;dsimp only at hs hn hl ⊢;have hps:1<=ps.length:=Wh.mpr hs;have rest:∀(φ1:D)(qs:List Bd)(s5':Sl),b8 φ1->s5'.isIo=false->Tld (r,ps) (r,qs)->∃(t:aK)(φ':D),Tld (r,ps) t/\b8 φ' /\
   (aD (sIf (aA (fOp bEq (fIO aB 0 (aa (fC (.int 2)) ae)) (fC (.int 0)))) (aV (fCB bn (aa (ce 1 [] (fIA (uH (aC 4))) (gN 0) bZ (bq bH (aa (aC 0) ae))) ae)) 4) bQ)
    (bU (fM isL aY 2 (aa (bm (aa (aC 3) (aa (aC 4) ae))) ae)))) [.io φ1,.v S,.o (.lst (us.map stD)),.v (.str (kd r)),.v (.tup (qs.map bdD)),s5']=some (.nx [.io φ',.v S,.o (.lst ((us++[t]).map stD)),.v (.str (kd r)),.v (.tup (t.2.map bdD)),s5']):=by
  intro φ1 qs s5' f1 q5' T;have fin:∀(φ2:D)(ts:List Bd),(bU (fM isL aY 2 (aa (bm (aa (aC 3) (aa (aC 4) ae))) ae))) [.io φ2,.v S,.o (.lst (us.map stD)),.v (.str (kd r)),.v (.tup (ts.map bdD)),s5']=some (.nx [.io φ2,.v S,.o (.lst ((us++[(r,ts)]).map stD)),.v (.str (kd r)),.v (.tup (ts.map bdD)),s5']):=fun φ2 ts=>by
   refine bE (dU rfl rfl rfl (af (aU rfl rfl (by show 2<=1000000;decide)) rfl) rfl rfl rfl (cO ?_) ?_)
   ·rw[Za];lia
   ·rw[Zc];rfl
  obtain⟨d,φ2,e2,d0,d1,f2⟩:=bT (n:=2) f1 (by decide) (by decide)
  by_cases c:d=0
  ·subst c;have T2:Tld (r,ps) (r,fU qs):=by
    refine⟨?_,fun p hp=>?_,?_,(Na T.ne).trans T.js⟩
    ·cases qs with
     | nil=>exact absurd rfl T.ne
     | cons q qr=>exact G9
    ·obtain⟨q,hq,rfl⟩:=Qc.mp hp;exact T.nm q (List.mem_reverse.mp hq)
    ·show(qs.reverse.map flp).length=_;rw[Za,Yj];exact T.ln
   have cm:ci (gN 0) bZ (bq bH (aa (aC 0) ae)) 1 (qs.reverse.map bdD) [.e]=some ((fU qs).map bdD,[.e]):=by
    have:=bW (fg:=gN 0) (fc:=bZ) (fe:=bq bH (aa (aC 0) ae)) (k:=1) bdD (fun p=>bdD (flp p)) [.e] qs.reverse fun p hpp=>⟨[.v (bdD p)],[.v (bdD p)],.d (bdD (flp p)),[.v (bdD p)],[.v (bdD p)],rfl,rfl,bp rfl rfl (yF (t:=p.1) (n:=p.2) (T.nm p (List.mem_reverse.mp hpp))) rfl,rfl,rfl⟩;rw[this];unfold fU;rw[Vg];rfl
   refine⟨(r,fU qs),φ2,T2,f2,?_⟩;have hrev:IC (.tup (qs.map bdD))=some (.tup (qs.reverse.map bdD),false):=by
    rw[C2];rfl
   refine ao (dI (s:=[.io φ2,.v S,.o (.lst (us.map stD)),.v (.str (kd r)),.v (.tup (qs.map bdD)),s5']) (aG (aw (bV rfl rfl rfl rfl rfl rfl e2) rfl rfl rfl rfl) rfl) (cJ (aN (af (bF (s2:=[.e]) (dW (FF rfl rfl hrev) rfl) (me (n:=100) ?_ (by decide) rfl) cm) rfl) rfl rfl) rfl)) (fin φ2 (fU qs))
   rw[Za,Yj];exact T.ln ▸ hl
  ·have t:decide (V.int d=V.int 0)=false:=Ae fun z=>c (V.int.inj z);exact⟨(r,qs),φ2,T,f2,ao (b7 (s:=[.io φ2,.v S,.o (.lst (us.map stD)),.v (.str (kd r)),.v (.tup (qs.map bdD)),s5']) (fF (aG (aw (bV rfl rfl rfl rfl rfl rfl e2) rfl rfl rfl rfl) rfl) t) rfl) (fin φ2 qs)⟩
 rw[hB];cases r with
 | false =>
  obtain⟨t,φ',T,f',e⟩:=rest φ ps s5 hφ q5 ⟨hs,hn,rfl,List.Perm.refl _⟩;exact⟨t,φ',s5,T,f',q5,ao (b7 (s:=[.io φ,.v S,.o (.lst (us.map stD)),.v (.str (kd false)),.v (.tup (ps.map bdD)),s5]) rfl rfl) e⟩
 | true =>
  obtain⟨d,φ1,e1,d0,d1,f1⟩:=bT (n:=(ps.length:Int)) hφ (by lia) (by lia)
  obtain⟨k,rfl⟩:=Bc d0;have hk:k<=(ps.map bdD).length:=by rw[Za];lia
  have s1:oy (.tup (ps.map bdD)) (some (k:Int)) none=some (.tup ((ps.drop k).map bdD),false):=by rw[sL,mF hk,Br]
  have s2:oy (.tup (ps.map bdD)) none (some (k:Int))=some (.tup ((ps.take k).map bdD),false):=by rw[sL,FV hk,Co]
  have ct:f8 (.tup ((ps.drop k).map bdD)) (.tup ((ps.take k).map bdD))=some (.tup ((ps.drop k++ps.take k).map bdD),false):=by
   rw[yc (by rw[Za,Za,Zf,Zg];lia),Zc]
  have T:Tld (true,ps) (true,ps.drop k++ps.take k):=by
   have ln:(ps.drop k++ps.take k).length=ps.length:=by rw[Xa,Zf,Zg];lia
   refine⟨fun z=>?_,fun p hp=>?_,ln,?_⟩
   ·have z':ps.drop k++ps.take k=[]:=z;rw[z',Yg]at ln;lia
   ·rcases Wd.mp hp with m|m
    ·exact hn p (AT m)
    ·exact hn p (Cc m)
   ·have:=Nb (xs:=ps.take k) (ys:=ps.drop k);rwa [Xh]at this
  have len4:bJ [.tup (ps.map bdD)]=some (.int ps.length,false):=by
   show some (D.int ((ps.map bdD).length:Nat),false)=_;rw[Za]
  obtain⟨t,φ',T',f',e⟩:=rest φ1 (ps.drop k++ps.take k) (.v (.int (k:Int))) f1 rfl T;refine⟨t,φ',.v (.int (k:Int)),T',f',rfl,ao (dI (s:=[.io φ,.v S,.o (.lst (us.map stD)),.v (.str (kd true)),.v (.tup (ps.map bdD)),s5]) rfl ?_) e⟩;refine ao (s:=[.io φ1,.v S,.o (.lst (us.map stD)),.v (.str (kd true)),.v (.tup (ps.map bdD)),.v (.int (k:Int))]) (cJ (bV rfl rfl (af (aN rfl rfl len4) rfl) rfl rfl rfl e1) (bB rfl q5)) ?_;exact cJ (aw (hW rfl rfl rfl rfl s1) (hW rfl rfl rfl rfl s2) rfl rfl ct) rfl
def vp{ss:List aK}(hφ:b8 φ)(hne:∀s∈ss,s.2≠[])(hn:∀s∈ss,∀p∈s.2,Nm p.2)(hl:(ss.flatMap (·.2)).length<=100) :
  ∃(ts:List aK)(φ':D),gS φ [.tup (ss.map stD)]=some ((.tup (ts.map stD),false),φ')/\(∀s∈ts,s.2≠[])/\(∀s∈ts,∀p∈s.2,Nm p.2)/\(ts.flatMap (·.2)).length=(ss.flatMap (·.2)).length/\(ts.flatMap sj).Perm (ss.flatMap sj)/\b8 φ':=by
 have hsl:=mO ss hne;obtain⟨ys,φ1,e1,pm,f1⟩:=Hc (xs:=ss.map stD) hφ (by rw[Za];lia)
 obtain⟨us,rfl,pu⟩:=nQ pm;have sp:∃B,fm=aD (aV (cB ae) 2) (aD (ft (fIA (fIO cR 0 (aa (aC 1) ae))) (VF.gT 2 (gsC (gN 3) (gsC (gN 4) gsN))) B) (bx (fCB bn (aa (aC 2) ae)))) /\
   ∀(us:List aK)(φ:D)(s:aK)(s5:Sl),b8 φ->s.2≠[]->(∀p∈s.2,Nm p.2)->s.2.length<=100->us.length<=200->s5.isIo=false->∃(t:aK)(φ':D)(s5':Sl),Tld s t/\b8 φ'/\s5'.isIo=false /\
    B [.io φ,.v (.tup (ss.map stD)),.o (.lst (us.map stD)),.v (.str (kd s.1)),.v (.tup (s.2.map bdD)),s5]=some (.nx [.io φ',.v (.tup (ss.map stD)),.o (.lst ((us++[t]).map stD)),.v (.str (kd s.1)),.v (.tup (t.2.map bdD)),s5']) :=
  ⟨_,rfl,fun us φ s s5 a b c d e f=>vo a b c d e f _ rfl⟩
 obtain⟨B,eF,hB⟩:=sp;have len:∀s∈us,s.2.length<=100:=fun s hs=>by
  obtain⟨a,b,e⟩:=List.append_of_mem (pu.mem_iff.mp hs);rw[e,Ze,Zd,Xa,Xa]at hl;lia
 have hul:us.length<=100:=by rw[pu.length_eq];lia
 obtain⟨sf,e,ts,φ',s3,s4,s5,rfl,q3,q4,q5,f',hne',hn',hl',hp',htl⟩:=cw (fg:=VF.gT 2 (gsC (gN 3) (gsC (gN 4) gsN))) (B:=B) stD us
  (fun gone st=>∃(ts:List aK)(φ':D)(s3 s4 s5:Sl),st=[.io φ',.v (.tup (ss.map stD)),.o (.lst (ts.map stD)),s3,s4,s5]/\s3.isIo=false/\s4.isIo=false/\s5.isIo=false/\b8 φ'/\(∀s∈ts,s.2≠[])/\(∀s∈ts,∀p∈s.2,Nm p.2)/\(ts.flatMap (·.2)).length=(gone.flatMap (·.2)).length/\(ts.flatMap sj).Perm (gone.flatMap sj)/\ts.length=gone.length)
  (by
   rintro gone s rest st ha ⟨ts,φ',s3,s4,s5,rfl,q3,q4,q5,f',hne',hn',hl',hp',htl⟩;have hm:s∈us:=by rw[ha];simp
   have hm':=pu.mem_iff.mp hm;have hgl:gone.length<=100:=by have:=congrArg List.length ha;rw[Xa]at this;lia
   obtain⟨t,φ2,s5',T,f2,q5',eb⟩:=hB ts φ' s s5 f' (hne s hm') (hn s hm') (len s hm) (by lia) q5
   refine⟨[.io φ',.v (.tup (ss.map stD)),.o (.lst (ts.map stD)),.v (.str (kd s.1)),.v (.tup (s.2.map bdD)),s5],_,?_,eb,ts++[t],φ2,.v (.str (kd s.1)),.v (.tup (t.2.map bdD)),s5',rfl,rfl,rfl,q5',f2,fun x hx=>?_,fun x hx=>?_,?_,?_,by rw[Xa,Xa,htl];rfl⟩
   ·show(if 2=2 then gsC (gN 3) (gsC (gN 4) gsN) [.str (kd s.1),.tup (s.2.map bdD)] _ else none)=_;rw[Ag rfl];show(gN 3 (.str (kd s.1)) _).bind _=_;rw[show gN 3 (.str (kd s.1)) [.io φ',.v (.tup (ss.map stD)),.o (.lst (ts.map stD)),s3,s4,s5]=some [.io φ',.v (.tup (ss.map stD)),.o (.lst (ts.map stD)),.v (.str (kd s.1)),s4,s5] from bB rfl q3];show(gN 4 (.tup (s.2.map bdD)) _).bind _=_;rw[show gN 4 (.tup (s.2.map bdD)) [.io φ',.v (.tup (ss.map stD)),.o (.lst (ts.map stD)),.v (.str (kd s.1)),s4,s5]=some [.io φ',.v (.tup (ss.map stD)),.o (.lst (ts.map stD)),.v (.str (kd s.1)),.v (.tup (s.2.map bdD)),s5] from bB rfl q4];rfl
   ·rcases Wd.mp hx with m|m
    ·exact hne' x m
    ·obtain rfl:=Yb.mp m;exact T.ne
   ·rcases Wd.mp hx with m|m
    ·exact hn' x m
    ·obtain rfl:=Yb.mp m;exact T.nm
   ·rw[Ze,Ze,Vf,Vf,Xa,Xa,hl',T.ln]
   ·rw[Ze,Ze,Vf,Vf]
    exact hp'.append T.js)
  us [] [.io φ1,.v (.tup (ss.map stD)),.o (.lst []),.e,.e,.e] rfl ⟨[],φ1,.e,.e,.e,rfl,rfl,rfl,rfl,f1,fun x hx=>by simp at hx,fun x hx=>by simp at hx,rfl,List.Perm.refl _,rfl⟩
 refine⟨ts,φ',?_,hne',hn',?_,hp'.trans (pu.flatMap_right sj),f'⟩
 ·refine cr (o:=.rt (.d (.tup (ts.map stD))) [.io φ',.v (.tup (ss.map stD)),.o (.lst (ts.map stD)),s3,s4,s5]) rfl ?_ rfl;rw[eF];exact ao rfl (ao (cW (iL (bV rfl rfl rfl rfl rfl rfl e1) rfl) e) (aQ (aN rfl rfl rfl)))
 ·rw[hl'];exact(pu.flatMap_right (·.2)).length_eq
end
end K33
namespace K33
open PySem L2 VF VL
def nms(ps:List Bd):List Str:=ps.map (·.2)
def Jp(ps:List Bd):nms (fU ps)=(nms ps).reverse:=by
 unfold nms fU;rw[Vg,← C2];rfl
def qd(ps:List Bd):(fU ps).length=ps.length:=by unfold fU;rw[Za,Yj]
def kO(a b:List Bd):nms (a++b)=nms a++nms b:=Zc ..
def atZ(e:End):Option Str:=if e.2=0 then some e.1 else none
def qf(xs:List Str):(xs.map zero++xs.map one).filterMap atZ=xs:=by
 have h0:∀l:List Str,(l.map zero).filterMap atZ=l:=fun l=>by
  induction l with
  | nil=>rfl
  | cons x r ih=>rw[We,Yk,ih];rfl
 have h1:∀l:List Str,(l.map one).filterMap atZ=[]:=fun l=>by
  induction l with
  | nil=>rfl
  | cons x r ih=>rw[We,Yk,ih];rfl
 rw[List.filterMap_append,h0,h1,Xc]
def Hd{ss ts:List aK}(hs:∀s∈ss,s.2≠[])(ht:∀s∈ts,s.2≠[])(p:(ts.flatMap sj).Perm (ss.flatMap sj)):((ts.flatMap (·.2)).map (·.2)).Perm ((ss.flatMap (·.2)).map (·.2)):=by
 have h1:=((kN ht).trans (jz _)).symm.trans ((p.flatten).trans ((kN hs).trans (jz _)));have h2:=h1.filterMap atZ;rwa [qf,qf]at h2
end K33
namespace VF
open PySem L2
def Nc(h1:fe st=some (r,s1))(h2:esc r s1=some (d,s2))(h3:fg d s2=some s3):EU fe fg st=some (.nx s3):=by
 simp only[EU,h1,h2,h3,Wa]
def gt2(h1:my i (.v a) st=some s1)(h2:my j (.v b) s1=some s2):VF.gT 2 (gsC (gN i) (gsC (gN j) gsN)) (.tup [a,b]) st=some s2:=by
 show(if 2=2 then gsC (gN i) (gsC (gN j) gsN) [a,b] st else none)=_;rw[Ag rfl];show(my i (.v a) st).bind _=_;rw[h1];show(my j (.v b) s1).bind _=_;rw[h2];rfl
end VF
namespace K33
open PySem L2 VF VL VF22
noncomputable section
def stL(s:aK):D:=.tup [.str (kd s.1),.lst (s.2.map bdD)]
theorem yN(f:α->β):∀(l:List α)(i:Nat),(l.map f).eraseIdx i=(l.eraseIdx i).map f
 | [],_=>rfl
 | _::_,0=>rfl
 | x::l,i+1=>by
  show f x::(l.map f).eraseIdx i=f x::(l.eraseIdx i).map f;rw[yN f l i]
def OU{ss:List aK}{i:Int}(h0:0<=i)(h1:i<ss.length)(hl:ss.length<=1000):∃s ss1,ir (.lst (ss.map stL)) [.int i]=some (stL s,.lst (ss1.map stL))/\(s::ss1).Perm ss:=by
 have hk:i.toNat<(ss.map stL).length:=by rw[Za];lia
 have hk':i.toNat<ss.length:=by lia
 refine⟨ss[i.toNat],ss.eraseIdx i.toNat,?_,jh hk'⟩;rw[qa h0 (by rw[Za];exact h1) (by rw[Za];lia) hk,C3,yN]
structure WF(N:List Str)(ss:List aK):Prop where
 ne:∀s∈ss,s.2≠[]
 nm:((ss.flatMap (·.2)).map (·.2)).Perm N
def WF.perm{ss ts:List aK}(w:WF N ss)(p:ts.Perm ss):WF N ts:=⟨fun s hs=>w.ne s (p.mem_iff.mp hs),((p.flatMap_right _).map _).trans w.nm⟩
def WF.beads(w:WF N ss)(hN:∀x∈N,Nm x):∀s∈ss,∀p∈s.2,Nm p.2:=fun s hs p hp=>hN _ (w.nm.mem_iff.mp (Qc.mpr ⟨p,Ql.mpr ⟨s,hs,hp⟩,rfl⟩))
def WF.len{N:List Str}{ss:List aK}(w:WF N ss):(ss.flatMap (·.2)).length=N.length:=by
 have:=w.nm.length_eq;rwa [Za]at this
def WF.cnt{N:List Str}{ss:List aK}(w:WF N ss):ss.length<=N.length:=w.len ▸ mO ss w.ne
def WF.one{N:List Str}(w:WF N (s::ss)):s.2.length<=N.length:=by
 have:=w.len;rw[Zd,Xa]at this;lia
def WF.put{ss ss2:List aK}(w:WF N (s::ss))(h1:∀x∈ss2,x.2≠[])(h2:qs≠[])(h3:(nms qs++ss2.flatMap fun x=>nms x.2).Perm (nms s.2++ss.flatMap fun x=>nms x.2)):WF N (ss2++[(k,qs)]):=by
 refine⟨fun x hx=>?_,?_⟩
 ·rcases Wd.mp hx with m|m
  ·exact h1 x m
  ·obtain rfl:=Yb.mp m;exact h2
 ·refine List.Perm.trans ?_ w.nm;rw[List.map_flatMap,List.map_flatMap,Ze,Vf,Zd];exact Bj.trans h3
abbrev nS(φ S:D)(ss:List aK)(s4 s5 s6 s7 s8 s9 s10:Sl):En:=[.io φ,.v S,.v (.bl true),.o (.lst (ss.map stL)),s4,s5,s6,s7,s8,s9,s10]
def He{ss:List aK}{qs:List Bd}(h6:s6=.v (.lst (qs.map bdD))∨s6=.o (.lst (qs.map bdD)))(hl:ss.length<=1000) :
  (bU (fM isL aY 3 (aa (bm (aa (aC 5) (aa (aC 6) ae))) ae))) (nS φ S ss s4 (.v (.str (kd k))) s6 s7 s8 s9 s10)=some (.nx (nS φ S (ss++[(k,qs)]) s4 (.v (.str (kd k))) (.v (.lst (qs.map bdD))) s7 s8 s9 s10)):=by
 have ap:(ss.map stL).length<1000000:=by rw[Za];lia
 rcases h6 with rfl|rfl
 ·refine bE (dU rfl rfl rfl (af (aU rfl rfl (by show 2<=1000000;decide)) rfl) rfl rfl rfl (cO ap) ?_)
  show [_,_,_,Sl.o (.lst (ss.map stL++[stL (k,qs)])),_,_,_,_,_,_,_]=_;unfold nS;rw[Zc];rfl
 ·refine bE (dU rfl rfl rfl (af (aU rfl rfl (by show 2<=1000000;decide)) rfl) rfl rfl rfl (cO ap) ?_)
  show [_,_,_,Sl.o (.lst (ss.map stL++[stL (k,qs)])),_,_,_,_,_,_,_]=_;unfold nS;rw[Zc];rfl
def nBr:FS:=(sIf (aA (fOp bEq (aC 7) (fC (.int 0)))) (aV (fOp cj (fOp cj (fSl bSl (aC 6) oNo (cC (aC 8))) (ce 1 [] (fIA (uH (fSl bSl (aC 6) (cC (aC 8)) (cC (aC 9))))) (gN 0) bZ (bq bH (aa (aC 0) ae)))) (fSl bSl (aC 6) (cC (aC 9)) oNo)) 6) (sIf (eK (aA (fOp bEq (aC 7) (fC (.int 1)))) (aA (fOp bGt (aC 8) (fC (.int 0))))) (aD (bU (fM isL aY 3 (aa (bm (aa (fC (.str "open")) (aa (fSl bSl (aC 6) oNo (cC (aC 8))) ae))) ae)))
  (aD (aV (fSl bSl (aC 6) (cC (aC 8)) oNo) 6)
  (aV (fC (.str "open")) 5))) (sIf (eK (aA (fOp bEq (aC 7) (fC (.int 2)))) (aA (fOp bNe (aC 3) (cB ae)))) (aD (aV (fM isL ir 3 (aa (fIO aB 0 (aa (fCB bJ (aa (aC 3) ae)) ae)) ae)) 10)
  (aV (fOp cj (aC 6) (fOp bIx (aC 10) (fC (.int 1)))) 6)) (sIf (eK (aA (fOp bEq (aC 7) (fC (.int 3)))) (aA (aC 2))) (aV (fOp bIx (cB (aa (fC (.str "open")) (aa (fC (.str "ring")) ae))) (fIO aB 0 (aa (fC (.int 2)) ae))) 5) bQ))))
def slL(ds:List D)(lo hi:Option Int):bSl (.lst ds) lo hi=some (.lst (cutD ds lo hi),true):=rfl
def Jq{N:List Str}{s4 s10:Sl}(hφ:b8 φ)(wf:WF N (s::ss))(hN:∀x∈N,Nm x)(hNl:N.length<=100)(hw0:0<=w)(hw:w<4)(hl:l<s.2.length)(hlh:l<h)(hh:h<=s.2.length)(q10:s10.isIo=false) :
  ∃(φ':D)(ss2:List aK)(k:Bool)(qs:List Bd)(s6' s10':Sl),nBr (nS φ S ss s4 (.v (.str (kd s.1))) (.v (.lst (s.2.map bdD))) (.v (.int w)) (.v (.int (l:Int))) (.v (.int (h:Int))) s10)=some (.nx (nS φ' S ss2 s4 (.v (.str (kd k))) s6' (.v (.int w)) (.v (.int (l:Int))) (.v (.int (h:Int))) s10'))/\b8 φ'/\s10'.isIo=false/\(s6'=.v (.lst (qs.map bdD))∨s6'=.o (.lst (qs.map bdD)))/\WF N (ss2++[(k,qs)])/\ss2.length<=1000:=by
 have hc:=wf.cnt;have ho:=wf.one;rw[Yc]at hc;obtain⟨rg,ps⟩:=s;dsimp only at hl hh ho ⊢;have hlm:l<=(ps.map bdD).length:=by rw[Za];lia
 have hhm:h<=(ps.map bdD).length:=by rw[Za];lia
 have hne:∀x∈ss,x.2≠[]:=fun x hx=>wf.ne x (Xb _ hx);have hps:ps≠[]:=fun z=>by rw[z]at hl;exact absurd hl (Nat.not_lt_zero _)
 have cutT:bSl (.lst (ps.map bdD)) none (some (l:Int))=some (.lst ((ps.take l).map bdD),true):=by rw[slL,FV hlm,Co]
 have cutF:bSl (.lst (ps.map bdD)) (some (l:Int)) none=some (.lst ((ps.drop l).map bdD),true):=by rw[slL,mF hlm,Br]
 have ws:w=0∨w=1∨w=2∨w=3:=by lia
 rcases ws with rfl|rfl|rfl|rfl
 ·-- a stretch turned
  have cutM:bSl (.lst (ps.map bdD)) (some (l:Int)) (some (h:Int))=some (.lst (((ps.drop l).take (h-l)).map bdD),true):=by rw[slL,IH hlm hhm,Co,Br]
  have cutE:bSl (.lst (ps.map bdD)) (some (h:Int)) none=some (.lst ((ps.drop h).map bdD),true):=by rw[slL,mF hhm,Br]
  have hrev:IC (.lst (((ps.drop l).take (h-l)).map bdD))=some (.lst (((ps.drop l).take (h-l)).reverse.map bdD),true):=by rw[C2];rfl
  have nmp:∀p∈ps,Nm p.2:=wf.beads hN _ Qa;have cm:ci (gN 0) bZ (bq bH (aa (aC 0) ae)) 1 (((ps.drop l).take (h-l)).reverse.map bdD) [.e]=some ((fU ((ps.drop l).take (h-l))).map bdD,[.e]):=by
   have:=bW (fg:=gN 0) (fc:=bZ) (fe:=bq bH (aa (aC 0) ae)) (k:=1) bdD (fun p=>bdD (flp p)) [.e] ((ps.drop l).take (h-l)).reverse fun p hpp=>⟨[.v (bdD p)],[.v (bdD p)],.d (bdD (flp p)),[.v (bdD p)],[.v (bdD p)],rfl,rfl,bp rfl rfl (yF (t:=p.1) (n:=p.2) (nmp p (AT (Cc (List.mem_reverse.mp hpp))))) rfl,rfl,rfl⟩;rw[this];unfold fU;rw[Vg];rfl
  have l1:((ps.drop l).take (h-l)).reverse.length<=100:=by rw[Yj,Zg,Zf];lia
  have a1:cj (.lst ((ps.take l).map bdD)) (.lst ((fU ((ps.drop l).take (h-l))).map bdD))=some (.lst ((ps.take l++fU ((ps.drop l).take (h-l))).map bdD),true):=by
   rw[oZ,Zc];rw[Za,Za,qd,Zg,Zg,Zf];lia
  have a2:cj (.lst ((ps.take l++fU ((ps.drop l).take (h-l))).map bdD)) (.lst ((ps.drop h).map bdD))=some (.lst ((ps.take l++fU ((ps.drop l).take (h-l))++ps.drop h).map bdD),true):=by
   rw[oZ,← Zc];rw[Za,Za,Xa,qd,Zg,Zg,Zf,Zf];lia
  refine⟨φ,ss,rg,ps.take l++fU ((ps.drop l).take (h-l))++ps.drop h,.o _,s10,?_,hφ,q10,.inr rfl,wf.put hne ?_ ?_,by lia⟩
  ·refine dI (s:=nS φ S ss s4 (.v (.str (kd rg))) (.v (.lst (ps.map bdD))) (.v (.int 0)) (.v (.int (l:Int))) (.v (.int (h:Int))) s10) rfl ?_;refine dS (aw (aw (hW rfl rfl rfl rfl cutT) (bF (s2:=[.e]) (iL (FF (hW rfl rfl rfl rfl cutM) rfl hrev) rfl) (me (n:=100) ?_ (by decide) rfl) cm) rfl rfl a1) (hW rfl rfl rfl rfl cutE) rfl rfl a2) rfl
   rw[Za];exact l1
  ·intro z;have:=congrArg List.length z;rw[Xa,Xa,qd,Zg,Zg,Zf,Zf,Yg]at this;lia
  ·refine BX _ ?_;rw[kO,kO,Jp];refine((((List.reverse_perm _).append_left _).append_right _).trans ?_);rw[← kO,← kO];have:ps.take l++(ps.drop l).take (h-l)++ps.drop h=ps:=by
    rw[Qb];have e:ps.drop h=(ps.drop l).drop (h-l):=by rw[Bi];congr 1;lia
    rw[e,Xh,Xh]
   rw[this]
 ·-- a strand cut
  by_cases c:l=0
  ·subst c;exact⟨φ,ss,rg,ps,.v _,s10,b7 rfl (b7 (eT rfl rfl) (b7 (iK rfl) (b7 (iK rfl) rfl))),hφ,q10,.inl rfl,wf.put hne hps (List.Perm.refl _),by lia⟩
  ·have gt:bGt (.int (l:Int)) (.int 0)=some (.bl true,false):=by
    show some (D.bl (decide ((0:Int)<l)),false)=_;rw[Af (by lia)]
   refine⟨φ,ss++[(false,ps.take l)],false,ps.drop l,.o _,s10,?_,hφ,q10,.inr rfl,wf.put (fun x hx=>?_) (fun z=>?_) ?_,by rw[Xa];show ss.length+1<=_;lia⟩
   ·refine b7 (s:=nS φ S ss s4 (.v (.str (kd rg))) (.v (.lst (ps.map bdD))) (.v (.int 1)) (.v (.int (l:Int))) (.v (.int (h:Int))) s10) rfl ?_;refine dI (s:=nS φ S ss s4 (.v (.str (kd rg))) (.v (.lst (ps.map bdD))) (.v (.int 1)) (.v (.int (l:Int))) (.v (.int (h:Int))) s10) (eT rfl (aG (aw rfl rfl rfl rfl gt) rfl)) ?_;refine ao (s:=nS φ S (ss++[(false,ps.take l)]) s4 (.v (.str (kd rg))) (.v (.lst (ps.map bdD))) (.v (.int 1)) (.v (.int (l:Int))) (.v (.int (h:Int))) s10) ?_ ?_
    ·refine bE (dU rfl rfl rfl (af (aU (af rfl (af (hW rfl rfl rfl rfl cutT) rfl)) rfl (by show 2<=1000000;decide)) rfl) rfl rfl rfl (cO (by rw[Za];lia)) ?_)
     show [_,_,_,Sl.o (.lst (ss.map stL++[stL (false,ps.take l)])),_,_,_,_,_,_,_]=_;unfold nS;rw[Zc];rfl
    ·exact ao (dS (hW rfl rfl rfl rfl cutF) rfl) (cJ rfl rfl)
   ·rcases Wd.mp hx with m|m
    ·exact hne x m
    ·obtain rfl:=Yb.mp m;intro z;have z:ps.take l=[]:=z;have:=congrArg List.length z;rw[Zg,Yg]at this;lia
   ·have:=congrArg List.length z;rw[Zf,Yg]at this;lia
   ·rw[Ze,Vf];show(nms (ps.drop l)++((ss.flatMap fun x=>nms x.2)++nms (ps.take l))).Perm (nms ps++_);have e:nms ps=nms (ps.take l)++nms (ps.drop l):=by rw[← kO,Xh]
    rw[e];refine List.Perm.trans ?_ (BX _ Bj);rw[Qb];exact Bj.append_left _
 ·-- two joined
  cases ss with
  | nil =>
   exact⟨φ,[],rg,ps,.v _,s10,b7 rfl (b7 (iK rfl) (b7 (eT rfl rfl) (b7 (iK rfl) rfl))),hφ,q10,.inl rfl,wf.put hne hps (List.Perm.refl _),by decide⟩
  | cons o os =>
   have hlc:((o::os).length:Int)<=1000:=by lia
   obtain⟨d,φ2,e,d0,d1,f2⟩:=bT (n:=((o::os).length:Int)) hφ (by simp) hlc
   obtain⟨t,ts,ep,pp⟩:=OU (ss:=o::os) d0 d1 (by lia)
   have len3:bJ [.lst ((o::os).map stL)]=some (.int ((o::os).length:Int),false):=by
    show some (D.int (((o::os).map stL).length:Nat),false)=_;rw[Za]
   have wf2:WF N ((rg,ps)::t::ts):=wf.perm (pp.cons _);have ht:=wf2.len;rw[Zd,Zd,Xa,Xa]at ht;dsimp only at ht;have hts:=wf2.cnt;rw[Yc,Yc]at hts;have a1:cj (.lst (ps.map bdD)) (.lst (t.2.map bdD))=some (.lst ((ps++t.2).map bdD),true):=by
    rw[oZ,Zc];rw[Za,Za];lia
   refine⟨φ2,ts,rg,ps++t.2,.o _,.v (stL t),?_,f2,rfl,.inr rfl,WF.put (s:=(rg,ps)) (ss:=t::ts) wf2 (fun x hx=>wf2.ne x (by simp[hx])) (fun z=>hps (List.append_eq_nil_iff.mp z).1) ?_,by lia⟩
   ·refine b7 (s:=nS φ S (o::os) s4 (.v (.str (kd rg))) (.v (.lst (ps.map bdD))) (.v (.int 2)) (.v (.int (l:Int))) (.v (.int (h:Int))) s10) rfl ?_;refine b7 (s:=nS φ S (o::os) s4 (.v (.str (kd rg))) (.v (.lst (ps.map bdD))) (.v (.int 2)) (.v (.int (l:Int))) (.v (.int (h:Int))) s10) (iK rfl) ?_;refine dI (s:=nS φ S (o::os) s4 (.v (.str (kd rg))) (.v (.lst (ps.map bdD))) (.v (.int 2)) (.v (.int (l:Int))) (.v (.int (h:Int))) s10) (eT rfl rfl) ?_;refine ao (s:=nS φ2 S ts s4 (.v (.str (kd rg))) (.v (.lst (ps.map bdD))) (.v (.int 2)) (.v (.int (l:Int))) (.v (.int (h:Int))) (.v (stL t))) (cJ (dU rfl rfl rfl (af (bV rfl rfl (af (aN rfl rfl len3) rfl) rfl rfl rfl e) rfl) rfl rfl rfl ep) (bB rfl q10)) ?_;exact dS (aw rfl (aw rfl rfl rfl rfl (show bIx (stL t) (.int 1)=some (.lst (t.2.map bdD),false) from rfl)) rfl rfl a1) rfl
   ·rw[Zd,kO,Qb]
 ·-- a ring opened,an open one closed
  obtain⟨d,φ2,e,d0,d1,f2⟩:=bT (n:=2) hφ (by decide) (by decide)
  have ds:d=0∨d=1:=by lia
  have go:∀k:Bool,bIx (.lst [.str "open",.str "ring"]) (.int d)=some (.str (kd k),false)->nBr (nS φ S ss s4 (.v (.str (kd rg))) (.v (.lst (ps.map bdD))) (.v (.int 3)) (.v (.int (l:Int))) (.v (.int (h:Int))) s10)=some (.nx (nS φ2 S ss s4 (.v (.str (kd k))) (.v (.lst (ps.map bdD))) (.v (.int 3)) (.v (.int (l:Int))) (.v (.int (h:Int))) s10)):=fun k ek=>by
   refine b7 (s:=nS φ S ss s4 (.v (.str (kd rg))) (.v (.lst (ps.map bdD))) (.v (.int 3)) (.v (.int (l:Int))) (.v (.int (h:Int))) s10) rfl ?_;refine b7 (s:=nS φ S ss s4 (.v (.str (kd rg))) (.v (.lst (ps.map bdD))) (.v (.int 3)) (.v (.int (l:Int))) (.v (.int (h:Int))) s10) (iK rfl) ?_;refine b7 (s:=nS φ S ss s4 (.v (.str (kd rg))) (.v (.lst (ps.map bdD))) (.v (.int 3)) (.v (.int (l:Int))) (.v (.int (h:Int))) s10) (iK rfl) ?_;refine dI (s:=nS φ S ss s4 (.v (.str (kd rg))) (.v (.lst (ps.map bdD))) (.v (.int 3)) (.v (.int (l:Int))) (.v (.int (h:Int))) s10) (eT rfl rfl) ?_;exact cJ (aw (fq rfl rfl (by show 2<=1000000;decide)) (bV rfl rfl rfl rfl rfl rfl e) rfl rfl ek) rfl
  rcases ds with rfl|rfl
  ·exact⟨φ2,ss,false,ps,.v _,s10,go false rfl,f2,q10,.inl rfl,wf.put hne hps (List.Perm.refl _),by lia⟩
  ·exact⟨φ2,ss,true,ps,.v _,s10,go true rfl,f2,q10,.inl rfl,wf.put hne hps (List.Perm.refl _),by lia⟩
def nBd:FS:=(sIf (aA (fOp bNe (aC 3) (cB ae))) (aD (EU (fM isL ir 3 (aa (fIO aB 0 (aa (fCB bJ (aa (aC 3) ae)) ae)) ae)) (VF.gT 2 (gsC (gN 5) (gsC (gN 6) gsN))))
  (aD (aV (fIO aB 0 (aa (fC (.int 4)) ae)) 7)
  (aD (aV (fIO aB 0 (aa (fCB bJ (aa (aC 6) ae)) ae)) 8)
  (aD (aV (fOp cj (fOp cj (aC 8) (fC (.int 1))) (fIO aB 0 (aa (fOp zG (fCB bJ (aa (aC 6) ae)) (aC 8)) ae))) 9)
  (aD nBr (bU (fM isL aY 3 (aa (bm (aa (aC 5) (aa (aC 6) ae))) ae)))))))) bQ)
def tH(f:α->D)(xs:List α):bJ [.lst (xs.map f)]=some (.int (xs.length:Int),false):=by
 show some (D.int ((xs.map f).length:Nat),false)=_;rw[Za]
def Hf{N:List Str}{s4 s5 s6 s7 s8 s9 s10:Sl}(hφ:b8 φ)(wf:WF N ss)(hN:∀x∈N,Nm x)(hNl:N.length<=100)(q5:s5.isIo=false)(q6:s6.isIo=false)(q7:s7.isIo=false)(q8:s8.isIo=false)(q9:s9.isIo=false)(q10:s10.isIo=false) :
  ∃(φ':D)(ss':List aK)(s5' s6' s7' s8' s9' s10':Sl),nBd (nS φ S ss s4 s5 s6 s7 s8 s9 s10)=some (.nx (nS φ' S ss' s4 s5' s6' s7' s8' s9' s10'))/\b8 φ'/\WF N ss'/\s5'.isIo=false/\s6'.isIo=false/\s7'.isIo=false/\s8'.isIo=false/\s9'.isIo=false/\s10'.isIo=false:=by
 cases ss with
 | nil=>exact⟨φ,[],s5,s6,s7,s8,s9,s10,b7 rfl rfl,hφ,wf,q5,q6,q7,q8,q9,q10⟩
 | cons o os =>
  have hc:=wf.cnt;have hlc:((o::os).length:Int)<=1000:=by lia
  obtain⟨d,φ1,e1,d0,d1,f1⟩:=bT (n:=((o::os).length:Int)) hφ (by simp) hlc
  obtain⟨t,ts,ep,pp⟩:=OU (ss:=o::os) d0 d1 (by lia)
  have wf1:WF N (t::ts):=wf.perm pp;have ht:=wf1.one;have htn:1<=t.2.length:=Wh.mpr (wf1.ne t Qa);obtain⟨w,φ2,e2,w0,w1,f2⟩:=bT (n:=4) f1 (by decide) (by decide)
  obtain⟨l,φ3,e3,l0,l1,f3⟩:=bT (n:=(t.2.length:Int)) f2 (by lia) (by lia)
  obtain⟨l,rfl⟩:∃m:Nat,l=m:=⟨l.toNat,by lia⟩
  obtain⟨j,φ4,e4,j0,j1,f4⟩:=bT (n:=(t.2.length:Int)-l) f3 (by lia) (by lia)
  obtain⟨j,rfl⟩:∃m:Nat,j=m:=⟨j.toNat,by lia⟩
  have eh:(l:Int)+1+j=((l+1+j:Nat):Int):=by lia
  have ad:cj (.int ((l:Int)+1)) (.int (j:Int))=some (.int ((l+1+j:Nat):Int),false):=by
   show some (D.int ((l:Int)+1+j),false)=_;rw[eh]
  obtain⟨φ5,ss2,k,qs,s6',s10',eb,f5,q10',h6,wf5,h2⟩:=Jq (S:=S) (s4:=s4) (w:=w) (l:=l) (h:=l+1+j) f4 wf1 hN hNl w0 w1 (by lia) (by lia) (by lia) q10
  refine⟨φ5,ss2++[(k,qs)],.v (.str (kd k)),.v (.lst (qs.map bdD)),.v (.int w),.v (.int (l:Int)),.v (.int ((l+1+j:Nat):Int)),s10',?_,f5,wf5,rfl,rfl,rfl,rfl,rfl,q10'⟩;refine dI (s:=nS φ S (o::os) s4 s5 s6 s7 s8 s9 s10) rfl ?_;refine ao (s:=nS φ1 S ts s4 (.v (.str (kd t.1))) (.v (.lst (t.2.map bdD))) s7 s8 s9 s10) (Nc (dU rfl rfl rfl (af (bV rfl rfl (af (aN rfl rfl (tH stL (o::os))) rfl) rfl rfl rfl e1) rfl) rfl rfl rfl ep) rfl (gt2 (bB rfl q5) (bB rfl q6))) ?_;refine ao (s:=nS φ2 S ts s4 (.v (.str (kd t.1))) (.v (.lst (t.2.map bdD))) (.v (.int w)) s8 s9 s10) (cJ (bV rfl rfl rfl rfl rfl rfl e2) (bB rfl q7)) ?_;refine ao (s:=nS φ3 S ts s4 (.v (.str (kd t.1))) (.v (.lst (t.2.map bdD))) (.v (.int w)) (.v (.int (l:Int))) s9 s10) (cJ (bV rfl rfl (af (aN rfl rfl (tH bdD t.2)) rfl) rfl rfl rfl e3) (bB rfl q8)) ?_;refine ao (s:=nS φ4 S ts s4 (.v (.str (kd t.1))) (.v (.lst (t.2.map bdD))) (.v (.int w)) (.v (.int (l:Int))) (.v (.int ((l+1+j:Nat):Int))) s10) (cJ (aw (aw rfl rfl rfl rfl rfl) (bV rfl rfl (af (aw (aN rfl rfl (tH bdD t.2)) rfl rfl rfl rfl) rfl) rfl rfl rfl e4) rfl rfl ad) (bB rfl q9)) ?_;exact ao eb (He h6 h2)
def Jr{N:List Str}{ss:List aK}(hφ:b8 φ)(wf:WF N ss)(hN:∀x∈N,Nm x)(hNl:N.length<=100):∃(ts:List aK)(φ':D),lX φ [.tup (ss.map stD),.bl true]=some ((.tup (ts.map stD),false),φ')/\WF N ts/\b8 φ':=by
 have hc:=wf.cnt;obtain⟨d,φ1,e1,d0,d1,f1⟩:=bT (n:=4) hφ (by decide) (by decide)
 have cm1:ci (VF.gT 2 (gsC (gN 0) (gsC (gN 1) gsN))) bZ (bm (aa (aC 0) (aa (fCB jN (aa (aC 1) ae)) ae))) 2 (ss.map stD) [.e,.e]=some (ss.map stL,[.e,.e]) :=
  bW stD stL [.e,.e] ss fun s hs=>⟨[.v (.str (kd s.1)),.v (.tup (s.2.map bdD))],[.v (.str (kd s.1)),.v (.tup (s.2.map bdD))],.d (stL s),[.v (.str (kd s.1)),.v (.tup (s.2.map bdD))],[.v (.str (kd s.1)),.v (.tup (s.2.map bdD))],gt2 rfl rfl,rfl,aU rfl rfl (by show 2<=1000000;decide),rfl,rfl⟩
 obtain⟨sf,ef,φ',ts,s4,s5,s6,s7,s8,s9,s10,rfl,f',wf',q4,q5,q6,q7,q8,q9,q10⟩:=uI (fg:=gN 4) (B:=nBd) (rng 0 d.toNat)
  (fun _ st=>∃(φ':D)(ts:List aK)(s4 s5 s6 s7 s8 s9 s10:Sl),st=nS φ' (.tup (ss.map stD)) ts s4 s5 s6 s7 s8 s9 s10/\b8 φ'/\WF N ts/\s4.isIo=false/\s5.isIo=false/\s6.isIo=false/\s7.isIo=false/\s8.isIo=false/\s9.isIo=false/\s10.isIo=false)
  (by
   rintro _ x _ _ ⟨φ',ts,s4,s5,s6,s7,s8,s9,s10,rfl,f',wf',q4,q5,q6,q7,q8,q9,q10⟩;obtain⟨φ2,ss',s5',s6',s7',s8',s9',s10',eb,f2,w2,r5,r6,r7,r8,r9,r10⟩:=Hf (S:=.tup (ss.map stD)) (s4:=.v x) f' wf' hN hNl q5 q6 q7 q8 q9 q10
   exact⟨_,_,bB rfl q4,eb,φ2,ss',.v x,s5',s6',s7',s8',s9',s10',rfl,f2,w2,rfl,r5,r6,r7,r8,r9,r10⟩)
  (rng 0 d.toNat) [] (nS φ1 (.tup (ss.map stD)) ss .e .e .e .e .e .e .e) (fun _ h=>h) ⟨φ1,ss,.e,.e,.e,.e,.e,.e,.e,rfl,f1,wf,rfl,rfl,rfl,rfl,rfl,rfl,rfl⟩
 have hc':=wf'.cnt;have cm2:ci (VF.gT 2 (gsC (gN 0) (gsC (gN 1) gsN))) bZ (bm (aa (aC 0) (aa (fCB bn (aa (aC 1) ae)) ae))) 2 (ts.map stL) [.e,.e]=some (ts.map stD,[.e,.e]) :=
  bW stL stD [.e,.e] ts fun s hs=>⟨[.v (.str (kd s.1)),.v (.lst (s.2.map bdD))],[.v (.str (kd s.1)),.v (.lst (s.2.map bdD))],.d (stD s),[.v (.str (kd s.1)),.v (.lst (s.2.map bdD))],[.v (.str (kd s.1)),.v (.lst (s.2.map bdD))],gt2 rfl rfl,rfl,aU rfl rfl (by show 2<=1000000;decide),rfl,rfl⟩
 refine⟨ts,φ',?_,wf',f'⟩;have sp:jv=aD (aV (ce 2 [] (fIA (aC 1)) (VF.gT 2 (gsC (gN 0) (gsC (gN 1) gsN))) bZ (bm (aa (aC 0) (aa (fCB jN (aa (aC 1) ae)) ae)))) 3)
  (aD (ft (mz (aa (fIO aB 0 (aa (fC (.int 4)) ae)) ae)) (gN 4) nBd)
  (bx (fCB bn (aa (ce 2 [] (fIA (aC 3)) (VF.gT 2 (gsC (gN 0) (gsC (gN 1) gsN))) bZ (bm (aa (aC 0) (aa (fCB bn (aa (aC 1) ae)) ae)))) ae)))):=rfl
 refine cr (o:=.rt (.d (.tup (ts.map stD))) [.io φ',.v (.tup (ss.map stD)),.v (.bl true),.v (.lst (ts.map stL)),s4,s5,s6,s7,s8,s9,s10]) rfl ?_ rfl;rw[sp];refine ao (s:=nS φ (.tup (ss.map stD)) ss .e .e .e .e .e .e .e) (dS (bF (s1:=[.io φ,.v (.tup (ss.map stD)),.v (.bl true),.e,.e,.e,.e,.e,.e,.e,.e]) (ds:=ss.map stD) (s2:=[.e,.e]) (dW rfl rfl) (me (n:=100) (by rw[Za];lia) (by decide) rfl) cm1) rfl) ?_
 refine ao (cW (fK (j:=d) (af (bV rfl rfl rfl rfl rfl rfl e1) rfl) rfl ⟨by lia,by lia⟩) ef) ?_
 exact aQ (aN (af (bF (ds:=ts.map stL) (s2:=[.e,.e]) (iL rfl rfl) (me (n:=100) (by rw[Za];lia) (by decide) rfl) cm2) rfl) rfl rfl)
end
end K33
namespace VF
open PySem L2
theorem rG(f:α->Bool):∀xs:List α,mC (xs.map fun x=>D.bl (f x))=some (xs.map f)
 | []=>rfl
 | x::r=>by
  show(mC (r.map fun x=>D.bl (f x))).bind _=_;rw[rG f r];rfl
def Nd(f:α->Bool)(xs:List α):ou [.lst (xs.map fun x=>D.bl (f x))]=some (.bl (xs.all f),false):=by
 show(mC _).bind _=_;rw[rG];show some (D.bl ((xs.map f).all id),false)=_;rw[Dz];rfl
def cH{ds:List D}{i:Nat}{d:D}(h:ds[i]?=some d):bIx (.tup ds) (.int i)=some (d,false):=VF.ix_tup (kA h)
def Nf(ne:xs≠[])(pa:Pl 40 (.tup xs))(pb:Pl 40 (.tup ys))(h:c=true↔D.tup xs=D.tup ys):ni (.tup xs) (.tup ys)=some (.bl (!c),false):=by
 have e1:bNe (.tup xs) (.tup ys)=none:=by
  cases xs with
  | nil=>exact absurd rfl ne
  | cons _ _=>rfl
 unfold ni orD;rw[e1];unfold wt;dsimp only;have dc:∀i:Decidable (D.tup xs=D.tup ys),@decide _ i=c:=fun i=>by rw[Wf,decide_eq_true_eq];exact h.symm
 rw[Ag ⟨pa,pb⟩,dc];rfl
def Hg(h:∀d∈ds,Pl n d)(hn:n<=39):ni (.lst ds) (.lst ds)=some (.bl false,false):=by
 have up:∀(k:Nat){m:Nat}{d:D},Pl m d->Pl (m+k) d:=fun k=>by
  induction k with
  | zero=>intro m d h;exact h
  | succ k ih=>intro m d h;exact(ih h).up
 have e1:zH true (.lst ds) (.lst ds)=none:=rfl;have p:Pl 40 (.lst ds):=.lst fun d hd=>by
  have:=up (39-n) (h d hd);rwa [show n+(39-n)=39 by lia]at this
 cases ds with
 | nil =>
  unfold ni bNe orD;rw[e1];rfl
 | cons x r =>
  have e2:Mk (.lst (x::r)) (.lst (x::r))=none:=rfl;have e3:wt true (.lst (x::r)) (.lst (x::r))=some (.bl false,false):=by
   unfold wt;rw[Ag ⟨p,p⟩];simp
  unfold ni bNe orD;rw[e1,e2];exact e3
def Js{xs L:List Int}(pm:L.Perm xs)(pw:L.Pairwise (·<=·)){d:D}(hd:d.seq=some (xs.map D.int)):bS [d]=some (.lst (L.map D.int),true):=by
 have ca:CA 40 (xs.map D.int):=fun a ha b hb=>by
  obtain⟨p,_,rfl⟩:=Qc.mp ha;obtain⟨q,_,rfl⟩:=Qc.mp hb;trivial
 have es:L.map D.int=bR 40 (xs.map D.int):=eE ca (pm.map _) (by
  unfold Srt;rw[CP]
  exact List.Pairwise.imp (fun {a b} (hab:a<=b)=>Ae (by lia)) pw)
 unfold bS;simp only[hd]
 rw[Ag ⟨fun x hx=>by obtain⟨p,_,rfl⟩:=Qc.mp hx;exact .int _ _,ca,_,.sc (T:="int") (by decide) fun d hd=>by
  obtain⟨p,_,rfl⟩:=Qc.mp hd
  exact⟨by simp,rfl⟩⟩,← es]
def Hh(i:Int):ni (.int i) (.int i)=some (.bl false,false):=by
 have e1:zH true (.int i) (.int i)=some (.bl false,false):=by
  show some (D.bl (!decide (V.int i=V.int i)),false)=_;rw[Af rfl];rfl
 unfold ni bNe orD;rw[e1]
def plB:Nat->D->Bool
 | n+1,.tup ds=>ds.all (plB n)
 | _+1,.int _=>true
 | _,_=>false
theorem Hi:∀{n:Nat}{d:D},plB n d=true->Pl n d
 | 0,d,h=>by cases d<;>cases h
 | n+1,d,h=>by
  cases d with
  | int i=>exact .int n i
  | tup ds=>exact .tup fun e he=>Hi (Zl.mp h e he)
  | _=>cases h
def nR(h:CA n ds):Srt n (bR n ds):=by
 obtain⟨es,p,q⟩:=wQ ds h;rw[← eE h p q];exact q
end VF
namespace K33
open PySem L2 VF VL VF22
noncomputable section
def inL(c:Nat):Bool:=!(Builtin.Str.occurrences ("abcdefghijklmnopqrstuvwxyz":Str) ⟨#[c]⟩ 0 ("abcdefghijklmnopqrstuvwxyz":Str).length 1).isEmpty
def Jt:∀c:Nat,c<123->97<=c->inL c=true:=by decide +kernel
def okT(x:Str):Bool:=(decide (1<=x.length)&&decide (x.length<=6))&&x.cps.toList.all inL
def Ng(h:Nm x):okT x=true:=by
 obtain⟨h1,h2,h3⟩:=h;unfold okT;rw[Af h1,Af h2];simp only[Bool.and_self,Do];rw[Zl];intro c hc;have:=h3 c hc;exact Jt c (by lia) this.1
theorem len_str{x:Str}(h:x.length<=1000000):bJ [.str x]=some (.int (x.length:Int),false):=by
 first
  | rfl
  | (unfold bJ orC;simp[Fj,D.seq,Fk,h])
def Hj{x:Str}(h:x.length<=1000000):kH [.str x]=some (.bl (okT x),false):=by
 have hc:ce 1 [] (fIA (aC 0)) (gN 0) bZ (fOp bIn (aC 0) (fC (.str "abcdefghijklmnopqrstuvwxyz"))) [.v (.str x)]=some (.f (.lst (x.cps.toList.map fun c=>D.bl (inL c))),[.v (.str x)]):=by
  refine bF (s1:=[.v (.str x)]) (ds:=px x) (s2:=[.e]) rfl (by
   have:(px x).length=x.length:=by unfold px;rw[Za,Xd];rfl
   rw[this,Af h];rfl) ?_
  exact bW (fun c=>D.str ⟨#[c]⟩) (fun c=>D.bl (inL c)) [.e] x.cps.toList fun c _=>⟨[.v (.str ⟨#[c]⟩)],[.v (.str ⟨#[c]⟩)],.d (.bl (inL c)),[.v (.str ⟨#[c]⟩)],[.v (.str ⟨#[c]⟩)],rfl,rfl,aw rfl rfl rfl rfl rfl,rfl,rfl⟩
 have ch:aA (sx bLe bLe (fC (.int 1)) (fCB bJ (aa (aC 0) ae)) (fC (.int 6))) [.v (.str x)]=some (decide (1<=x.length)&&decide (x.length<=6),[.v (.str x)]):=by
  have l1:fCB bJ (aa (aC 0) ae) [.v (.str x)]=some (.d (.int (x.length:Int)),[.v (.str x)]):=aN rfl rfl (len_str h);have b1:bLe (.int 1) (.int (x.length:Int))=some (.bl (decide (1<=x.length)),false):=by
   show some (D.bl (decide ((1:Int)<=(x.length:Int))),false)=_;congr 3;rw[Bm];lia
  have b2:bLe (.int (x.length:Int)) (.int 6)=some (.bl (decide (x.length<=6)),false):=by
   show some (D.bl (decide ((x.length:Int)<=6)),false)=_;congr 3;rw[Bm];lia
  refine aG (r:=.d (.bl (decide (1<=x.length)&&decide (x.length<=6)))) ?_ rfl;unfold sx;simp only[fC,l1,Wa,cont,b1];cases decide (1<=x.length) with
  | false=>rfl
  | true =>
   simp only[b2,Wa];rfl
 refine aS (o:=.rt (.d (.bl (okT x))) [.v (.str x)]) rfl ?_ rfl;unfold okT;cases e:(decide (1<=x.length)&&decide (x.length<=6)) with
 | false =>
  rw[e]at ch;exact iu (dI (s:=[.v (.str x)]) (sI (s:=[.v (.str x)]) rfl (jO ch)) rfl)
 | true =>
  rw[e]at ch;refine ao (b7 (s:=[.v (.str x)]) (sI (s:=[.v (.str x)]) rfl (jO ch)) rfl) ?_;exact aQ (aN (af hc rfl) rfl (Nd inL x.cps.toList))
theorem qG{j:Jnt}(h:j.length=1∨j.length=2):(∃a,j=[a])∨∃a b,j=[a,b]:=by
 cases j with
 | nil=>rcases h with z|z<;>cases z
 | cons a r =>
  cases r with
  | nil=>exact .inl ⟨a,rfl⟩
  | cons b r =>
   cases r with
   | nil=>exact .inr ⟨a,b,rfl⟩
   | cons c r =>
    rw[Yc,Yc,Yc]at h;lia
def qH(e:End)(es:Jnt):bIx (jD (e::es)) (.int 0)=some (eD e,false):=cH (i:=0) rfl
def tI(e f:End)(es:Jnt):bIx (jD (e::f::es)) (.int 1)=some (eD f,false):=cH (i:=1) rfl
def Hk(es:List End):(bc es).length=es.length:=(cS es).2.length_eq
def kj(a b:End):bc [a,b]=bc [b,a]:=eI (List.Perm.swap b a [])
def oB(j:Jnt):bJ [jD j]=some (.int (j.length:Int),false):=by
 show some (D.int (((j.map eD).length:Nat):Int),false)=_;rw[Za]
def Hl(h:Nm x):kH [.str x]=some (.bl true,false):=by
 rw[Hj (by have:=h.2.1;lia),Ng h]
def EOk(e:End):Prop:=Nm e.1/\(e.2=0∨e.2=1)
def Ju{e:End}(h:EOk e):pV [eD e]=some (.bl true,false):=by
 obtain⟨x,i⟩:=e;obtain⟨h1,h2⟩:=h;refine aS (o:=.rt (.d (.bl true)) [.v (eD (x,i))]) rfl ?_ rfl;refine ao (b7 (s:=[.v (eD (x,i))]) (sI (s:=[.v (eD (x,i))]) rfl (sI (s:=[.v (eD (x,i))]) rfl (jO (aG (bp (af (aw rfl rfl rfl rfl (cH (i:=0) rfl)) rfl) rfl (Hl h1) rfl) rfl)))) rfl) ?_;rcases h2 with h2|h2
 ·have h2:i=0:=h2;subst h2;exact aQ (iw (s:=[.v (eD (x,0))]) rfl rfl rfl)
 ·have h2:i=1:=h2;subst h2;exact aQ (iw (s:=[.v (eD (x,1))]) rfl rfl rfl)
def KN{qs:List (D×D)}(hz:fIZ (aa (aC 0) (aa (fSl bSl (aC 0) (cC (fC (.int 1))) oNo) ae)) [.v d]=some (qs.map fun q=>pr q.1 q.2,[.v d]))(hl:qs.length<=2)(hq:∀q∈qs,qE q.1 q.2=some (.bl true,false)):dX [d]=some (.bl true,false):=by
 have ec:ci (gT 2 (gsC (gN 0) (gsC (gN 1) gsN))) bZ jm 2 (qs.map fun q=>pr q.1 q.2) [.e,.e]=some (qs.map fun _=>D.bl true,[.e,.e]) :=
  bW (fg:=gT 2 (gsC (gN 0) (gsC (gN 1) gsN))) (fc:=bZ) (fe:=jm) (k:=2) (fun q:D×D=>pr q.1 q.2) (fun _=>D.bl true) [.e,.e] qs fun q h =>
   ⟨[.v q.1,.v q.2],[.v q.1,.v q.2],.d (.bl true),[.v q.1,.v q.2],[.v q.1,.v q.2],rfl,rfl,aw rfl rfl rfl rfl (hq q h),rfl,rfl⟩
 refine aS (o:=.rt (.d (.bl true)) [.v d]) rfl (aQ (aN (z:=(.bl true,false)) (af (bF hz ?_ ec) rfl) rfl ?_)) rfl
 ·show(true&&decide ((qs.map fun q=>pr q.1 q.2).length<=1000000))=true;rw[Za,Af (by lia)];rfl
 ·show ou [.lst (qs.map fun _=>D.bl true)]=_;rw[oY];exact jP _
def tJ(x:D):dX [.tup [x]]=some (.bl true,false):=rfl
def yO(h:qE x y=some (.bl true,false)):dX [.tup [x,y]]=some (.bl true,false):=by
 refine KN (qs:=[(x,y)]) ?_ (by show 1<=2;decide) fun q hq=>by rw[Yb.mp hq];exact h
 have e1:(aa (aC 0) (aa (fSl bSl (aC 0) (cC (fC (.int 1))) oNo) ae)) [.v (.tup [x,y])]=some (_,_):=af rfl (af (hW rfl rfl rfl rfl yG) rfl);show((aa (aC 0) (aa (fSl bSl (aC 0) (cC (fC (.int 1))) oNo) ae)) [.v (.tup [x,y])]).bind _=_;rw[e1];rfl
def Jv(h:qE x y=some (.bl true,false)):dX [.lst [x,y]]=some (.bl true,false):=by
 refine KN (qs:=[(x,y)]) ?_ (by show 1<=2;decide) fun q hq=>by rw[Yb.mp hq];exact h
 rfl
def ltE(h:ltN 40 (eD a) (eD b)=true):qE (eD a) (eD b)=some (.bl true,false):=by
 rw[GC (rE 38 a) (rE 38 b) (yE 38 a b),h]
def Pm(h:ltN 40 (eD a) (eD b)=true)(hne:a≠b):qE (jD [a]) (jD [b])=some (.bl true,false):=by
 rw[GC (mP 37 [a]) (mP 37 [b]) (G1 37 [a] [b])];have ne:¬ eD a=eD b:=fun z=>hne (by have:=congrArg unE z;exact this)
 have e:ltN 40 (jD [a]) (jD [b])=ltN 39 (eD a) (eD b):=by
  show ltL (ltN 39) [eD a] [eD b]=_;unfold ltL;rw[Ak ne]
 have e2:ltN 39 (eD a) (eD b)=ltN 40 (eD a) (eD b):=by
  show ltL (ltN 38) [.str a.1,.int a.2] [.str b.1,.int b.2]=ltL (ltN 39) [.str a.1,.int a.2] [.str b.1,.int b.2];unfold ltL ltL;rfl
 rw[e,e2,h]
def Hm{j:Jnt}(h:∀e∈j,EOk e):ci (gN 0) bZ gf 1 (j.map eD) [.e]=some (j.map fun _=>D.bl true,[.e]) :=
 bW (fg:=gN 0) (fc:=bZ) (fe:=gf) (k:=1) eD (fun _=>D.bl true) [.e] j fun e he=>⟨[.v (eD e)],[.v (eD e)],.d (.bl true),[.v (eD e)],[.v (eD e)],rfl,rfl,bp rfl rfl (Ju (h e he)) rfl,rfl,rfl⟩
def nU{j:Jnt}(hl:j.length=1∨j.length=2)(h:∀e∈j,EOk e)(hr:dX [jD j]=some (.bl true,false)):jn [jD j]=some (.bl true,false):=by
 refine aS (o:=.rt (.d (.bl true)) [.v (jD j)]) rfl ?_ rfl;have t:aA (fOp lm (fCB bJ (aa (aC 0) ae)) (bm (aa (fC (.int 1)) (aa (fC (.int 2)) ae)))) [.v (jD j)]=some (false,[.v (jD j)]):=by
  rcases hl with hl|hl
  ·exact aG (aw (aN rfl rfl (oB j)) rfl rfl rfl (z:=(.bl false,false)) (by rw[hl];rfl)) rfl
  ·exact aG (aw (aN rfl rfl (oB j)) rfl rfl rfl (z:=(.bl false,false)) (by rw[hl];rfl)) rfl
 refine ao (b7 (sI (s:=[.v (jD j)]) rfl t) rfl) ?_;refine aQ (iw (aN (af (bF (dW rfl rfl) ?_ (Hm h)) rfl) rfl (by rw[oY];exact jP _)) rfl (bp rfl rfl hr rfl))
 show(true&&decide ((j.map eD).length<=1000000))=true;rw[Za,Af (by lia)];rfl
def vq{js:List Jnt}(hl:js.length=1∨js.length=2)(h:∀j∈js,jn [jD j]=some (.bl true,false))(hr:dX [.tup (js.map jD)]=some (.bl true,false)):gu [.tup (js.map jD)]=some (.bl true,false):=by
 have ec:ci (gN 0) bZ ia 1 (js.map jD) [.e]=some (js.map fun _=>D.bl true,[.e]) :=
  bW (fg:=gN 0) (fc:=bZ) (fe:=ia) (k:=1) jD (fun _=>D.bl true) [.e] js fun e he=>⟨[.v (jD e)],[.v (jD e)],.d (.bl true),[.v (jD e)],[.v (jD e)],rfl,rfl,bp rfl rfl (h e he) rfl,rfl,rfl⟩
 have ln:bJ [.tup (js.map jD)]=some (.int (js.length:Int),false):=by
  show some (D.int (((js.map jD).length:Nat):Int),false)=_;rw[Za]
 refine aS (o:=.rt (.d (.bl true)) [.v (.tup (js.map jD))]) rfl ?_ rfl;have t:aA (fOp lm (fCB bJ (aa (aC 0) ae)) (bm (aa (fC (.int 1)) (aa (fC (.int 2)) ae)))) [.v (.tup (js.map jD))]=some (false,[.v (.tup (js.map jD))]):=by
  rcases hl with hl|hl
  ·exact aG (aw (aN rfl rfl ln) rfl rfl rfl (z:=(.bl false,false)) (by rw[hl];rfl)) rfl
  ·exact aG (aw (aN rfl rfl ln) rfl rfl rfl (z:=(.bl false,false)) (by rw[hl];rfl)) rfl
 refine ao (b7 (sI (s:=[.v (.tup (js.map jD))]) rfl t) rfl) ?_;refine aQ (iw (aN (af (bF (dW rfl rfl) ?_ ec) rfl) rfl (by rw[oY];exact jP _)) rfl (bp rfl rfl hr rfl))
 show(true&&decide ((js.map jD).length<=1000000))=true;rw[Za,Af (by lia)];rfl
def vt{js:List Jnt}{L:List Int}(hl:js.length<=2)(pm:L.Perm (js.map fun j=>(j.length:Int)))(pw:L.Pairwise (·<=·)):kJ [.tup (js.map jD)]=some (.tup (L.map D.int),false):=by
 have ec:ci (gN 0) bZ kI 1 (js.map jD) [.e]=some (js.map fun j=>D.int (j.length:Int),[.e]) :=
  bW (fg:=gN 0) (fc:=bZ) (fe:=kI) (k:=1) jD (fun j=>D.int (j.length:Int)) [.e] js fun e _=>⟨[.v (jD e)],[.v (jD e)],.d (.int (e.length:Int)),[.v (jD e)],[.v (jD e)],rfl,rfl,aN rfl rfl (oB e),rfl,rfl⟩
 refine aS (o:=.rt (.d (.tup (L.map D.int))) [.v (.tup (js.map jD))]) rfl ?_ rfl;refine aQ (aN (af (aN (af (bF (dW rfl rfl) ?_ ec) rfl) rfl (Js pm pw ?_)) rfl) rfl rfl)
 ·show(true&&decide ((js.map jD).length<=1000000))=true;rw[Za,Af (by lia)];rfl
 ·show some (js.map fun j=>D.int (j.length:Int))=_;rw[Vg];rfl
def rH{js:List Jnt}(hl:js.flatten.length<=1000):gw [.tup (js.map jD)]=some (.lst ((bc js.flatten).map eD),true):=by
 obtain⟨sf,e,s2,rfl,_⟩:=cw (fg:=gN 2) (B:=jW) jD js
  (fun gone st=>∃s2:Sl,st=[.v (.tup (js.map jD)),.o (.lst (gone.flatten.map eD)),s2]/\s2.isIo=false)
  (by
   rintro gone j rest st ha ⟨s2,rfl,q⟩;have hg:=congrArg (fun l=>l.flatten.length) ha;simp only[Xn,Bh,Xa]at hg;refine⟨_,[.v (.tup (js.map jD)),.o (.lst ((gone++[j]).flatten.map eD)),.v (jD j)],bB rfl q,?_,.v (jD j),rfl,rfl⟩;refine bE (dU rfl rfl rfl rfl rfl rfl rfl (GY (ys:=j.map eD) (by rw[Za,Za];lia)) ?_)
   rw[Xn,Zc,BW];rfl)
  js [] [.v (.tup (js.map jD)),.o (.lst []),.e] rfl ⟨.e,rfl,rfl⟩
 refine aS (o:=.rt (.f (.lst ((bc js.flatten).map eD))) [.v (.tup (js.map jD)),.o (.lst (js.flatten.map eD)),s2]) rfl ?_ rfl;exact ao (dS (fq rfl rfl (by show 0<=1000000;decide)) rfl) (ao (cW (dW rfl rfl) e) (aQ (aN rfl rfl (eO js.flatten rfl))))
structure PJ(a b:End):Prop where
 l:EOk a
 r:EOk b
 n:a≠b
 s:bc [a,b]=[a,b]
def OV(h:a≠b):eD a≠eD b:=fun z=>h (by have:=congrArg unE z;exact this)
def PJ.lt(h:PJ a b):ltN 40 (eD a) (eD b)=true:=by
 have hs:=nR (Jl [a,b]);rw[(cS [a,b]).1,h.s]at hs;have h1:ltN 40 (eD b) (eD a)=false:=(Zi.mp hs).1 (eD b) (by simp)
 rcases(nk 40).tri (yE 38 a b) with z|z|z
 ·exact absurd z (OV h.n)
 ·exact z
 ·rw[h1]at z;cases z
def k0(a b:End):D:=.tup [.tup [jD [a,b]],.tup [jD [a],jD [b]]]
def Hn(a b:End):mH [jD [a,b]]=some (k0 a b,false):=rfl
def yP(js:List Jnt):Pl (n+4) (.tup (js.map jD)):=.tup fun d hd=>by
 obtain⟨j,_,rfl⟩:=Qc.mp hd;exact mP n j
def Ho(h:PJ a b):nG [k0 a b]=some (.bl true,false):=by
 have hE:∀e∈[a,b],EOk e:=fun e he=>by
  rcases Vd.mp he with z|z
  ·rw[z];exact h.l
  ·rw[Yb.mp z];exact h.r
 have h0:gu [.tup [jD [a,b]]]=some (.bl true,false):=vq (js:=[[a,b]]) (.inl rfl) (fun j hj=>by
  rw[Yb.mp hj]
  exact nU (.inr rfl) hE (yO (ltE h.lt))) (tJ _)
 have h1:gu [.tup [jD [a],jD [b]]]=some (.bl true,false):=vq (js:=[[a],[b]]) (.inr rfl) (fun j hj=>by
  rcases Vd.mp hj with z|z
  ·rw[z];exact nU (.inl rfl) (fun e he=>by rw[Yb.mp he];exact h.l) (tJ _)
  ·rw[Yb.mp z];exact nU (.inl rfl) (fun e he=>by rw[Yb.mp he];exact h.r) (tJ _)) (yO (Pm h.lt h.n))
 have ec:ci (gN 0) bZ ib 1 [.tup [jD [a,b]],.tup [jD [a],jD [b]]] [.e]=some ([.bl true,.bl true],[.e]) :=
  nh (fg:=gN 0) (fc:=bZ) (fe:=ib) (k:=1) (fun _=>D.bl true) [.tup [jD [a,b]],.tup [jD [a],jD [b]]] [.e] fun x hx=>by
   have hx':gu [x]=some (.bl true,false):=by
    rcases Vd.mp hx with z|z
    ·rw[z];exact h0
    ·rw[Yb.mp z];exact h1
   exact⟨[.v x],[.v x],.d (.bl true),[.v x],[.v x],rfl,rfl,bp rfl rfl hx' rfl,rfl,rfl⟩
 have e0:gw [.tup [jD [a,b]]]=some (.lst [eD a,eD b],true):=by
  have:=rH (js:=[[a,b]]) (by show 2<=1000;decide)
  rw[show([[a,b]]:List Jnt).flatten=[a,b] from rfl,h.s]at this;exact this
 have e1:gw [.tup [jD [a],jD [b]]]=some (.lst [eD a,eD b],true):=by
  have:=rH (js:=[[a],[b]]) (by show 2<=1000;decide)
  rw[show([[a],[b]]:List Jnt).flatten=[a,b] from rfl,h.s]at this;exact this
 have z0:kJ [.tup [jD [a,b]]]=some (.tup [.int 2],false):=vt (js:=[[a,b]]) (L:=[2]) (by show 1<=2;decide) (List.Perm.refl _) (by simp)
 have z1:kJ [.tup [jD [a],jD [b]]]=some (.tup [.int 1,.int 1],false):=vt (js:=[[a],[b]]) (L:=[1,1]) (by show 2<=2;decide) (List.Perm.refl _) (by simp)
 have ne:ni (.lst [eD a,eD b]) (.lst [eD a,eD b])=some (.bl false,false):=Hg (n:=2) (fun d hd=>by
  rcases Vd.mp hd with z|z
  ·rw[z];exact rE 0 a
  ·rw[Yb.mp z];exact rE 0 b) (by decide)
 have nt:ni (.tup [jD [a,b]]) (.tup [jD [a],jD [b]])=some (.bl true,false):=Nf (c:=false) (by simp) (yP (n:=36) [[a,b]]) (yP (n:=36) [[a],[b]]) ⟨fun z=>(by cases z),fun z=>(by injection z with z;injection z with _ z;cases z)⟩
 refine aS (o:=.rt (.d (.bl true)) [.v (k0 a b),.v (.tup [jD [a,b]]),.v (.tup [jD [a],jD [b]]),.o (.lst [eD a,eD b])]) rfl ?_ rfl;refine ao (b7 (s:=[.v (k0 a b),.e,.e,.e]) (sI (s:=[.v (k0 a b),.e,.e,.e]) rfl (sI (aG (aw (aN rfl rfl (z:=(.int 2,false)) rfl) rfl rfl rfl (Hh 2)) rfl) (jO (aG (aN (af (bF (dW rfl rfl) rfl ec) rfl) rfl (z:=(.bl true,false)) rfl) rfl)))) rfl) ?_;refine ao (cJ (aw rfl rfl rfl rfl (cH (i:=0) rfl)) rfl) (ao (cJ (aw rfl rfl rfl rfl (cH (i:=1) rfl)) rfl) (ao (dS (aP rfl rfl e0) rfl) ?_));refine ao (b7 (sI (jO (aG (bp rfl rfl (Jv (ltE h.lt)) rfl) rfl)) (aG (aw rfl (aP rfl rfl e1) rfl rfl ne) rfl)) rfl) ?_;refine aQ (iw (MS (b:=true) (aU (af (aP rfl rfl z0) (af (aP rfl rfl z1) rfl)) rfl (by show 2<=1000000;decide)) rfl (Hi rfl) (fun e he=>Hi ?_) ?_) rfl (aw rfl rfl rfl rfl nt))
 ·simp only[Vd,List.not_mem_nil,or_false]at he;rcases he with rfl|rfl|rfl|rfl<;>rfl
 ·exact⟨fun _=>Qa,fun _=>rfl⟩
def yQ(a b:End):D:=.tup [.tup [jD [a],jD [b]],.tup [jD [a,b]]]
def Jw(h:PJ a b):wC [k0 a b]=some (yQ a b,false):=by
 refine aS (o:=.rt (.d (yQ a b)) [.v (k0 a b)]) rfl ?_ rfl;refine ao (b7 (s:=[.v (k0 a b)]) (jO (aG (bp rfl rfl (Ho h) rfl) rfl)) rfl) ?_;exact aQ (aU (af (aw rfl rfl rfl rfl (cH (i:=1) rfl)) (af (aw rfl rfl rfl rfl (cH (i:=0) rfl)) rfl)) rfl (by show 2<=1000000;decide))
end
end K33
namespace VF22
open PySem L2 VF
def Nh{o:Option D}(h1:fd st=some (r1,s1))(h0:cont s1 r1=some d0)(hd:Oy d0=true)(h2:fy s1=some (r2,s2))(h3:fx s2=some (r3,s3))(h4:cont s3 r1=some d1)(h5:cont s3 r2=some d2)(h6:atD d1 d2=some o)(h7:dOf r3=some dz)(hr:o.getD dz=d):IW fd fy fx st=some (.d d,s3):=by
 simp only[IW,h1,h0,hd,h2,h3,h4,h5,h6,h7,hr,Wa,if_true]
theorem vv(f:Str->D)(n:Str):∀Z:List Str,gH (Z.map fun m=>((Sum.inr m:Key),f m)) (Sum.inr n)=if n∈Z then some (f n) else none
 | []=>rfl
 | m::r=>by
  by_cases c:m=n
  ·subst c;rw[Ag Qa];unfold gH;rw[We,List.find?_cons_of_pos (by simp)];rfl
  ·have ih:=vv f n r;have e:gH ((m::r).map fun m=>((Sum.inr m:Key),f m)) (Sum.inr n)=gH (r.map fun m=>((Sum.inr m:Key),f m)) (Sum.inr n):=by
    unfold gH;rw[We,List.find?_cons_of_neg (by simp[c])]
   rw[e,ih];have:n∈m::r↔n∈r:=by simp[AN c]
   by_cases h:n∈r
   ·rw[Ag h,Ag (this.mpr h)]
   ·rw[Ak h,Ak fun z=>h (this.mp z)]
def Jx(f g:Str->D)(n:Str)(Z:List Str)(h:∀m,m≠n->g m=f m):uW (Z.map fun m=>((Sum.inr m:Key),f m)) (Sum.inr n) (g n)=(if n∈Z then Z else Z++[n]).map fun m=>((Sum.inr m:Key),g m):=by
 have an:((Z.map fun m=>((Sum.inr m:Key),f m)).any fun kv=>decide (kv.1=(Sum.inr n:Key)))=decide (n∈Z):=by
  rw[CU,Wf,List.any_eq_true,decide_eq_true_eq];constructor
  ·rintro⟨m,hm,e⟩;have:m=n:=by simpa using e
   exact this ▸ hm
  ·exact fun hn=>⟨n,hn,by simp⟩
 unfold uW;rw[an];by_cases c:n∈Z
 ·rw[Ag (Af c),Ag c,Vg];refine Qi fun m _=>?_;by_cases e:m=n
  ·subst e;simp
  ·simp[e,h m e]
 ·rw[Ak (by simp[c]),Ak c,Zc]
  congr 1;exact Qi fun m hm=>by rw[h m fun z=>c (z ▸ hm)]
end VF22
namespace K33
open PySem L2 VF VL VF22
noncomputable section
def unS:D->Str
 | .str x=>x
 | _=>Str.empty
def de(xs:List Str):List Str:=(bR 40 (xs.map D.str)).map unS
def Ni(xs:List Str):CA 40 (xs.map D.str):=fun a ha b hb=>by
 obtain⟨e,_,rfl⟩:=Qc.mp ha;obtain⟨e',_,rfl⟩:=Qc.mp hb;trivial
def fG(xs:List Str):bR 40 (xs.map D.str)=(de xs).map D.str/\(de xs).Perm xs:=by
 obtain⟨ys,e,p⟩:=gq (f:=D.str) (g:=unS) (fun _=>rfl) (et 40 (xs.map D.str));have h:de xs=ys:=by
  unfold de;rw[e,Vg];exact AY ys
 rw[h];exact⟨e,p⟩
def wS{xs ys:List Str}(p:xs.Perm ys):de xs=de ys:=by
 unfold de;rw[ig (Ni xs) (p.map D.str)]
def OW(xs:List Str):∃κ,Kd (xs.map D.str) κ:=⟨_,.sc (T:="str") (by decide) fun d hd=>by
 obtain⟨x,_,rfl⟩:=Qc.mp hd
 exact⟨by simp,rfl⟩⟩
def OX{xs:List Str}:∀d∈xs.map D.str,Pl 40 d:=fun d hd=>by
 obtain⟨x,_,rfl⟩:=Qc.mp hd;exact .str _ x
def D1{d:D}(xs:List Str)(h0:d.seq=some (xs.map D.str)):bS [d]=some (.lst ((de xs).map D.str),true):=by
 rw[← (fG xs).1];unfold bS;dsimp only;rw[h0];dsimp only;exact Ag ⟨OX,Ni xs,OW xs⟩
def Hq{ss:List aK}(hl:(ss.flatMap (·.2)).length<=100):lH [.tup (ss.map stD)]=some (.lst ((ss.flatMap (·.2)).map bdD),true):=by
 obtain⟨sf,e,s2,rfl,_⟩:=cw (fg:=gN 2) (B:=jl) stD ss
  (fun gone st=>∃s2:Sl,st=[.v (.tup (ss.map stD)),.o (.lst ((gone.flatMap (·.2)).map bdD)),s2]/\s2.isIo=false)
  (by
   rintro gone s rest st ha ⟨s2,rfl,q⟩;have hg:=congrArg (fun l=>(l.flatMap (·.2)).length) ha;simp only[Ze,Zd,Xa]at hg;refine⟨_,[.v (.tup (ss.map stD)),.o (.lst (((gone++[s]).flatMap (·.2)).map bdD)),.v (stD s)],bB rfl q,?_,.v (stD s),rfl,rfl⟩;refine b7 (s:=[.v (.tup (ss.map stD)),.o (.lst ((gone.flatMap (·.2)).map bdD)),.v (stD s)]) rfl ?_;refine bE (dU rfl rfl rfl (af (aw rfl rfl rfl rfl (cH (i:=1) rfl)) rfl) rfl rfl rfl (GY (ys:=s.2.map bdD) (by rw[Za,Za];lia)) ?_)
   rw[Ze,Zc,Vf];rfl)
  ss [] [.v (.tup (ss.map stD)),.o (.lst []),.e] rfl ⟨.e,rfl,rfl⟩
 refine aS (o:=.rt (.s 1) [.v (.tup (ss.map stD)),.o (.lst ((ss.flatMap (·.2)).map bdD)),s2]) rfl ?_ rfl;exact ao (dS (fq rfl rfl (by show 0<=1000000;decide)) rfl) (ao (cW (dW rfl rfl) e) rfl)
def nmz(ss:List aK):List Str:=(ss.flatMap (·.2)).map (·.2)
def Nj{ss:List aK}(hn:∀s∈ss,∀p∈s.2,Nm p.2)(hl:(ss.flatMap (·.2)).length<=100):lK [.tup (ss.map stD)]=some (.lst ((de (nmz ss)).map D.str),true):=by
 have np:∀p∈ss.flatMap (·.2),Nm p.2:=fun p hp=>by
  obtain⟨s,h1,h2⟩:=Ql.mp hp;exact hn s h1 p h2
 have ec:ci (gN 0) bZ gc 1 ((ss.flatMap (·.2)).map bdD) [.e]=some ((ss.flatMap (·.2)).map fun p=>D.str p.2,[.e]) :=
  bW (fg:=gN 0) (fc:=bZ) (fe:=gc) (k:=1) bdD (fun p=>D.str p.2) [.e] (ss.flatMap (·.2)) fun p hp=>⟨[.v (bdD p)],[.v (bdD p)],.d (.str p.2),[.v (bdD p)],[.v (bdD p)],rfl,rfl,bp rfl rfl (nO (t:=p.1) (n:=p.2) (np p hp)) rfl,rfl,rfl⟩
 refine aS (o:=.rt (.f (.lst ((de (nmz ss)).map D.str))) [.v (.tup (ss.map stD))]) rfl ?_ rfl;refine aQ (aN (af (bF (iL (aP rfl rfl (Hq hl)) rfl) (me (n:=100) (by rw[Za];exact hl) (by decide) rfl) ec) rfl) rfl (D1 (nmz ss) ?_))
 show some _=_;unfold nmz;rw[Vg];rfl
def iE(Z gone:List Str):List (Key×D):=Z.map fun m=>((Sum.inr m:Key),D.int ((gone.count m:Nat):Int))
structure CI(Z gone:List Str):Prop where
 mem:∀n,n∈Z↔n∈gone
 len:Z.length<=gone.length
def vx{Z gone:List Str}(n:Str):gH (iE Z gone) (Sum.inr n)=if n∈Z then some (D.int ((gone.count n:Nat):Int)) else none:=vv (fun m=>D.int ((gone.count m:Nat):Int)) n Z
def Jy(n:Str):uW (iE Z gone) (Sum.inr n) (.int (((gone++[n]).count n:Nat):Int))=iE (if n∈Z then Z else Z++[n]) (gone++[n]) :=
 Jx (fun m=>D.int ((gone.count m:Nat):Int)) (fun m=>D.int (((gone++[n]).count m:Nat):Int)) n Z fun m hm=>by
  have:(gone++[n]).count m=gone.count m:=by
   rw[CT,List.count_cons_of_ne (AN hm),List.count_nil,Dw]
  rw[this]
def CI.put(h:CI Z gone)(n:Str):CI (if n∈Z then Z else Z++[n]) (gone++[n]):=by
 by_cases c:n∈Z
 ·rw[Ag c];refine⟨fun m=>?_,by have:=h.len;rw[Xa];lia⟩
  rw[Wd,← h.mem m,Yb];exact⟨.inl,fun z=>z.elim id fun e=>e ▸ c⟩
 ·rw[Ak c];refine⟨fun m=>?_,by have:=h.len;rw[Xa,Xa];lia⟩
  rw[Wd,Wd,h.mem m]
def Hr{Z gone:List Str}(h:CI Z gone)(hl:gone.length<=1000):dL [.v L,.o (.dk (iE Z gone)),.v x,.v (.str n),.e]=some (.nx [.v L,.o (.dk (iE (if n∈Z then Z else Z++[n]) (gone++[n]))),.v x,.v (.str n),.e]):=by
 have hg:(if n∈Z then some (D.int ((gone.count n:Nat):Int)) else none).getD (.int 0)=.int ((gone.count n:Nat):Int):=by
  by_cases c:n∈Z
  ·rw[Ag c];rfl
  ·rw[Ak c,List.count_eq_zero.mpr fun z=>c ((h.mem n).mpr z)];rfl
 have ha:cj (.int ((gone.count n:Nat):Int)) (.int 1)=some (.int (((gone++[n]).count n:Nat):Int),false):=by
  have:(((gone++[n]).count n:Nat):Int)=((gone.count n:Nat):Int)+1:=by
   rw[CT,List.count_singleton_self];rfl
  rw[this];rfl
 have hz:(iE Z gone).length<100000:=by
  have:=h.len;unfold iE;rw[Za];lia
 have hs:Gr (.dk (iE Z gone)) (.str n) (.int (((gone++[n]).count n:Nat):Int))=some (.dk (iE (if n∈Z then Z else Z++[n]) (gone++[n]))):=by
  show(if (iE Z gone).length<100000 then some (D.dk (uW (iE Z gone) (Sum.inr n) _)) else none)=_;rw[Ag hz,Jy]
 have hat:atD (.dk (iE Z gone)) (.str n)=some (if n∈Z then some (D.int ((gone.count n:Nat):Int)) else none):=congrArg some (vx n);exact p9 (aw (Nh rfl rfl rfl rfl rfl rfl rfl hat rfl hg) rfl rfl rfl ha) rfl rfl rfl rfl rfl rfl rfl hs
def D2{ss:List aK}{Z gone:List Str}{s3:Sl}(h:CI Z gone)(hn:∀s∈ss,∀p∈s.2,Nm p.2)(hl:(ss.flatMap (·.2)).length<=100)(hg:gone.length<=500)(q3:s3.isIo=false):∃(Z':List Str)(s3':Sl),dM [.v L,.o (.dk (iE Z gone)),.v (.tup (ss.map stD)),s3,.e]=some (.nx [.v L,.o (.dk (iE Z' (gone++de (nmz ss)))),.v (.tup (ss.map stD)),s3',.e])/\CI Z' (gone++de (nmz ss))/\s3'.isIo=false:=by
 have ln:(de (nmz ss)).length<=100:=by rw[(fG _).2.length_eq];unfold nmz;rw[Za];exact hl
 obtain⟨sf,e,Z',s3',rfl,hc,q⟩:=cw (fg:=gN 3) (B:=dL) D.str (de (nmz ss))
  (fun g st=>∃(Z':List Str)(s3':Sl),st=[.v L,.o (.dk (iE Z' (gone++g))),.v (.tup (ss.map stD)),s3',.e]/\CI Z' (gone++g)/\s3'.isIo=false)
  (by
   rintro g n rest st ha ⟨Z',s3',rfl,hc,q⟩;have hz:=congrArg List.length ha;rw[Xa]at hz
   refine⟨_,_,bB rfl q,Hr hc (by rw[Xa];lia),_,.v (.str n),by rw[← Qb],by rw[← Qb];exact hc.put n,rfl⟩)
  (de (nmz ss)) [] [.v L,.o (.dk (iE Z gone)),.v (.tup (ss.map stD)),s3,.e] rfl ⟨Z,s3,by rw[Xc],by rw[Xc];exact h,q3⟩
 exact⟨Z',s3',cW (iL (aP rfl rfl (Nj hn hl)) rfl) e,hc,q⟩
def Jz:∀{l:List Str}{n:Str},l.Nodup->n∈l->l.count n=1:=by grind
abbrev sD(ss:List aK):D:=.tup (ss.map stD)
def D3{ss ts:List aK}(hn:∀s∈ss,∀p∈s.2,Nm p.2)(hl:(ss.flatMap (·.2)).length<=100)(hn':∀s∈ts,∀p∈s.2,Nm p.2)(hl':(ts.flatMap (·.2)).length<=100)(nd:(nmz ss).Nodup)(pm:(nmz ts).Perm (nmz ss)):gK [.lst [sD ss,sD ts]]=some (.non,false):=by
 have e0:=wS pm;have ln:∀us:List aK,(us.flatMap (·.2)).length<=100->(de (nmz us)).length<=100:=fun us h=>by rw[(fG _).2.length_eq];unfold nmz;rw[Za];exact h
 have l1:=ln ss hl;have l2:=ln ts hl';obtain⟨sf,e,Z,s2,s3,rfl,hc,q2,q3⟩:=cw (fg:=gN 2) (B:=dM) sD [ss,ts]
  (fun gone st=>∃(Z:List Str)(s2 s3:Sl),st=[.v (.lst [sD ss,sD ts]),.o (.dk (iE Z (gone.flatMap fun us=>de (nmz us)))),s2,s3,.e]/\CI Z (gone.flatMap fun us=>de (nmz us))/\s2.isIo=false/\s3.isIo=false)
  (by
   rintro gone us rest st ha ⟨Z,s2,s3,rfl,hc,q2,q3⟩;have hm:us=ss∨us=ts:=by
    have:us∈[ss,ts]:=by rw[ha];simp
    simpa using this
   have hg:(gone.flatMap fun us=>de (nmz us)).length<=500:=by
    have:=congrArg (fun l=>(l.flatMap fun us=>de (nmz us)).length) ha;simp only[Ze,Zd,List.flatMap_nil,Xa,Yg]at this;lia
   have nu:∀s∈us,∀p∈s.2,Nm p.2:=by rcases hm with rfl|rfl<;>assumption
   have lu:(us.flatMap (·.2)).length<=100:=by rcases hm with rfl|rfl<;>assumption
   obtain⟨Z',s3',eB,hc',q3'⟩:=D2 (L:=.lst [sD ss,sD ts]) hc nu lu hg q3;refine⟨_,_,bB rfl q2,eB,Z',.v (sD us),s3',?_,?_,rfl,q3'⟩
   ·rw[Ze,Vf]
   ·rw[Ze,Vf];exact hc')
  [ss,ts] [] [.v (.lst [sD ss,sD ts]),.o (.dk []),.e,.e,.e] rfl ⟨[],.e,.e,rfl,⟨fun n=>Iff.rfl,Va _⟩,rfl,rfl⟩
 have eg:([ss,ts].flatMap fun us=>de (nmz us))=de (nmz ss)++de (nmz ss):=by
  rw[Zd,Zd,List.flatMap_nil,Xc,e0]
 rw[eg]at e hc;have ndS:(de (nmz ss)).Nodup:=(fG _).2.nodup_iff.mpr nd;have two:∀n∈Z,(de (nmz ss)++de (nmz ss)).count n=2:=fun n hz=>by
  have hm:n∈de (nmz ss):=by rcases Wd.mp ((hc.mem n).mp hz) with z|z<;>exact z
  rw[CT,Jz ndS hm]
 have ks:(iE Z (de (nmz ss)++de (nmz ss))).map (fun kv=>gI kv.1)=Z.map D.str:=by
  unfold iE;rw[Vg];rfl
 have es:kF [.dk (iE Z (de (nmz ss)++de (nmz ss)))]=some (.lst ((de Z).map D.str),true):=by
  rw[DK (by rw[ks];exact OX) (by rw[ks];exact Ni Z) (by rw[ks];exact OW Z),ks,(fG Z).1]
 generalize hG:iE Z (de (nmz ss)++de (nmz ss))=G at e es;have ec:ci (gN 0) dN dO 1 ((de Z).map D.str) [.e,.o (.dk G),.v (.lst [sD ss,sD ts])]=some ([],[.e,.o (.dk G),.v (.lst [sD ss,sD ts])]):=by
  have:=dA (fg:=gN 0) (fc:=dN) (fe:=dO) (k:=1) D.str D.str (fun _=>false) [.e,.o (.dk G),.v (.lst [sD ss,sD ts])] (de Z) fun n hn=>by
   have hz:n∈Z:=(fG Z).2.mem_iff.mp hn;have hd:Gq (.dk G) (.str n)=some (.int 2,false):=by
    show((some (gH G (Sum.inr n))).bind fun o=>o.bind fun d=>some (d,false))=_;rw[← hG,vx,Ag hz,two n hz];rfl
   exact⟨[.v (.str n),.o (.dk G),.v (.lst [sD ss,sD ts])],[.v (.str n),.o (.dk G),.v (.lst [sD ss,sD ts])],rfl,aG (aw (aw rfl rfl rfl rfl hd) (aN rfl rfl (z:=(.int 2,false)) rfl) rfl rfl (z:=(.bl false,false)) rfl) rfl,fun _=>rfl,fun z=>by cases z⟩
  rw[this];have:(de Z).filter (fun _=>false)=[]:=List.filter_eq_nil_iff.mpr fun _ _ z=>by cases z
  rw[this];rfl
 have lz:(de Z).length<=1000:=by
  have:=hc.len;rw[Xa]at this;rw[(fG Z).2.length_eq];lia
 refine aS (o:=.nx [.v (.lst [sD ss,sD ts]),.o (.dk G),s2,s3,.o (.lst [])]) rfl ?_ rfl;refine ao (s:=[.v (.lst [sD ss,sD ts]),.o (.dk []),.e,.e,.e]) rfl (ao (cW (iL rfl rfl) e) (ao (s:=[.v (.lst [sD ss,sD ts]),.o (.dk G),s2,s3,.o (.lst [])]) (dS (bF (iL (aN rfl rfl es) rfl) ?_ ec) rfl) (b7 (s:=[.v (.lst [sD ss,sD ts]),.o (.dk G),s2,s3,.o (.lst [])]) rfl rfl)));show(true&&decide (((de Z).map D.str).length<=1000000))=true;rw[Za,Af (by lia)];rfl
def prs(js:List Jnt):List Jnt:=js.filter fun j=>decide (j.length=2)
def lck(a b:List Jnt):List Jnt:=(prs a).filter fun j=>!decide (j∈b)
def OY(j:Jnt)(h:fe st=some (.d (.int (j.length:Int)),st)):aA (fOp bEq fe (fC (.int 2))) st=some (decide (j.length=2),st):=by
 refine fF (aG (aw h rfl rfl rfl (z:=(.bl (decide (V.int (j.length:Int)=V.int 2)),false)) rfl) rfl) ?_;rw[Bm];exact⟨fun z=>by injection z with z;lia,fun z=>by rw[z];rfl⟩
def Hs{b:List Jnt}:jD j∈b.map jD↔j∈b:=by
 constructor
 ·intro h;obtain⟨k,hk,e⟩:=Qc.mp h;have:=congrArg unJ e;rw[tz,tz]at this;exact this ▸ hk
 ·exact fun h=>List.mem_map_of_mem h
def kl(j:Jnt)(b:List Jnt):hZ (jD j) (.tup (b.map jD))=some (.bl (!decide (j∈b)),false):=by
 have e1:lm (jD j) (.tup (b.map jD))=none:=rfl;unfold hZ orD;rw[e1];unfold zR;dsimp only[D.seq];have dc:∀i:Decidable (jD j∈b.map jD),@decide _ i=decide (j∈b):=fun i=>by rw[Wf,decide_eq_true_eq,decide_eq_true_eq];exact Hs
 rw[Ag ⟨mP 37 j,fun d hd=>by obtain⟨k,_,rfl⟩:=Qc.mp hd;exact mP 37 k⟩,dc]
 rfl
def Ht{js:List Jnt}(hl:js.length<=1000):lQ [.tup (js.map jD)]=some (.lst ((prs js).map jD),true):=by
 refine aS (o:=.rt (.f (.lst ((prs js).map jD))) [.v (.tup (js.map jD))]) rfl ?_ rfl;refine aQ (bF (s2:=[.e]) (dW rfl rfl) (me (n:=1000) (by rw[Za];exact hl) (by decide) rfl) ?_)
 exact dA (fg:=gN 0) (fc:=jq) (fe:=jr) (k:=1) jD jD (fun j=>decide (j.length=2)) [.e] js fun j _ =>
  ⟨[.v (jD j)],[.v (jD j)],rfl,OY j (aN rfl rfl (oB j)),fun _=>rfl,fun _=>⟨.d (jD j),[.v (jD j)],[.v (jD j)],rfl,rfl,rfl⟩⟩
def rJ{a b:List Jnt}(hl:a.length<=1000):eX [.tup (a.map jD),.tup (b.map jD)]=some (.lst ((lck a b).map jD),true):=by
 have hp:(prs a).length<=1000:=Yd (Ve _ _) hl;refine aS (o:=.rt (.f (.lst ((lck a b).map jD))) [.v (.tup (a.map jD)),.v (.tup (b.map jD))]) rfl ?_ rfl;refine aQ (bF (s2:=[.e,.v (.tup (b.map jD))]) (iL (aP rfl rfl (Ht hl)) rfl) (me (n:=1000) (by rw[Za];exact hp) (by decide) rfl) ?_)
 exact dA (fg:=gN 0) (fc:=fA) (fe:=fB) (k:=1) jD jD (fun j=>!decide (j∈b)) [.e,.v (.tup (b.map jD))] (prs a) fun j _ =>
  ⟨[.v (jD j),.v (.tup (b.map jD))],[.v (jD j),.v (.tup (b.map jD))],rfl,aG (aw rfl rfl rfl rfl (kl j b)) rfl,fun _=>rfl,fun _=>⟨.d (jD j),[.v (jD j),.v (.tup (b.map jD))],[.v (jD j),.v (.tup (b.map jD))],rfl,rfl,rfl⟩⟩
def Hu{a b:List Jnt}(ha:a.length<=1000)(hb:b.length<=1000):iz [.tup (a.map jD),.tup (b.map jD)]=some (.tup [.lst ((lck a b).map jD),.lst ((lck b a).map jD)],false):=by
 refine aS (o:=.rt (.d (.tup [.lst ((lck a b).map jD),.lst ((lck b a).map jD)])) [.v (.tup (a.map jD)),.v (.tup (b.map jD))]) rfl ?_ rfl;exact aQ (aU (af (aP rfl rfl (rJ ha)) (af (aP rfl rfl (rJ hb)) rfl)) rfl (by show 2<=1000000;decide))
end
end K33
namespace K33
open PySem L2 VF VL VF22
noncomputable section
def km(a:End):bc [a]=[a]:=List.perm_singleton.mp (cS [a]).2
def mf(l:List End):bc (bc l)=bc l:=eI (cS l).2
def Hv(h:j∈sj s):bc j=j:=by
 rcases Wd.mp h with h|h
 ·obtain⟨q,_,rfl⟩:=Qc.mp h;exact mf _
 ·unfold tF at h;by_cases c:s.1=true
  ·rw[Ag c]at h;rw[Yb.mp h];exact mf _
  ·rw[Ak c]at h;rcases Vd.mp h with z|z
   ·rw[z];exact km _
   ·rw[Yb.mp z];exact km _
theorem yR:∀{L:List (List α)},L.flatten.Nodup->(∀l∈L,l≠[])->L.Nodup
 | [],_,_=>AR
 | l::r,h,hn=>by
  rw[Bh]at h;obtain⟨_,h2,h3⟩:=List.nodup_append.mp h;refine Wg.mpr ⟨fun hl=>?_,yR h2 fun x hx=>hn x (Xb _ hx)⟩;cases l with
  | nil=>exact hn [] Qa rfl
  | cons a t=>exact h3 a Qa a (List.mem_flatten.mpr ⟨_,hl,Qa⟩) rfl
def yS{L:List (List α)}{l:List α}(h:L.flatten.Nodup)(hl:l∈L):l.Nodup:=by grind
section
variable {N:List Str}{ss ts us:List aK}
def Pn{α β:Type}{f:α->β}(hf:∀a b,f a=f b->a=b):∀{l:List α},l.Nodup->(l.map f).Nodup:=by grind
def tK(nd:N.Nodup):(N.map zero++N.map one).Nodup:=by grind [zero,one]
def JA(w:WF N ss)(nd:N.Nodup):(jo ss).flatten.Nodup:=(tG w.ne w.nm).nodup_iff.mpr (tK nd)
def Hx(h:j∈jo ss):∃s∈ss,j∈sj s:=Ql.mp ((di _).2.mem_iff.mp h)
def KO(w:WF N ss)(nd:N.Nodup)(hN:∀x∈N,Nm x){j:Jnt}(h:j∈jo ss)(h2:j.length=2):∃a b,j=[a,b]/\PJ a b:=by
 obtain⟨a,b,rfl⟩:∃a b,j=[a,b]:=by
  rcases qG (.inr h2) with⟨a,e⟩|z
  ·rw[e]at h2;cases h2
  ·exact z
 obtain⟨s,_,hs⟩:=Hx h;have hj:=yS (JA w nd) h;have ok:∀e∈[a,b],EOk e:=fun e he=>by
  have:=(tG w.ne w.nm).mem_iff.mp (List.mem_flatten.mpr ⟨_,h,he⟩);rcases Wd.mp this with z|z
  ·obtain⟨x,hx,rfl⟩:=Qc.mp z;exact⟨hN x hx,.inl rfl⟩
  ·obtain⟨x,hx,rfl⟩:=Qc.mp z;exact⟨hN x hx,.inr rfl⟩
 exact⟨a,b,rfl,ok a (by simp),ok b (by simp),fun z=>(Wg.mp hj).1 (by rw[z];exact Wj b),Hv hs⟩
def lck_in{j:Jnt}:j∈lck a b↔j∈a/\j.length=2/\j∉b:=by
 unfold lck prs;rw[Qg,Qg];simp[and_assoc]
def iF(w:WF N ss)(hNl:N.length<=100):(jo ss).length<=1000:=by
 have h1:=o0 w.ne;have h2:=(di (ss.flatMap sj)).2.length_eq;have h3:=w.len;show(fT (ss.flatMap sj)).length<=1000;lia
def wT:Jnt->D
 | [a,b]=>k0 a b
 | _=>.non
def rK:Jnt->D
 | [a,b]=>yQ a b
 | _=>.non
def JB(w:WF N ss)(w':WF N ts)(nd:N.Nodup)(hN:∀x∈N,Nm x)(hNl:N.length<=100):fE [sD ss,sD ts]=some (.tup [.lst ((lck (jo ss) (jo ts)).map wT),.lst ((lck (jo ts) (jo ss)).map rK)],false):=by
 have h1:=iF w hNl;have h2:=iF w' hNl;have f:∀{a b:List Jnt},a.length<=1000->(lck a b).length<=1000:=fun h=>Yd (Ve _ _) (Yd (Ve _ _) h);have c1:ci (gN 0) bZ cX 1 ((lck (jo ss) (jo ts)).map jD) [.e]=some ((lck (jo ss) (jo ts)).map wT,[.e]) :=
  bW (fg:=gN 0) (fc:=bZ) (fe:=cX) (k:=1) jD wT [.e] (lck (jo ss) (jo ts)) fun j hj=>by
   obtain⟨m1,m2,_⟩:=lck_in.mp hj;obtain⟨a,b,rfl,_⟩:=KO w nd hN m1 m2;exact⟨[.v (jD [a,b])],[.v (jD [a,b])],.d (k0 a b),[.v (jD [a,b])],[.v (jD [a,b])],rfl,rfl,aP rfl rfl (Hn a b),rfl,rfl⟩
 have c2:ci (gN 0) bZ cY 1 ((lck (jo ts) (jo ss)).map jD) [.e]=some ((lck (jo ts) (jo ss)).map rK,[.e]) :=
  bW (fg:=gN 0) (fc:=bZ) (fe:=cY) (k:=1) jD rK [.e] (lck (jo ts) (jo ss)) fun j hj=>by
   obtain⟨m1,m2,_⟩:=lck_in.mp hj;obtain⟨a,b,rfl,h⟩:=KO w' nd hN m1 m2;exact⟨[.v (jD [a,b])],[.v (jD [a,b])],.d (yQ a b),[.v (jD [a,b])],[.v (jD [a,b])],rfl,rfl,aP (af (aP rfl rfl (Hn a b)) rfl) rfl (Jw h),rfl,rfl⟩
 have hr:=D3 (ss:=ss) (ts:=ts) (w.beads hN) (by rw[w.len];exact hNl) (w'.beads hN) (by rw[w'.len];exact hNl) (w.nm.nodup_iff.mpr nd) (w'.nm.trans w.nm.symm)
 have j1:=nP w.ne (w.beads hN) (by rw[w.len];exact hNl)
 have j2:=nP w'.ne (w'.beads hN) (by rw[w'.len];exact hNl)
 refine aS (o:=.rt (.d (.tup [.lst ((lck (jo ss) (jo ts)).map wT),.lst ((lck (jo ts) (jo ss)).map rK)])) [.v (sD ss),.v (sD ts),.v (.tup [.lst ((lck (jo ss) (jo ts)).map jD),.lst ((lck (jo ts) (jo ss)).map jD)]),.v (.lst ((lck (jo ss) (jo ts)).map wT))]) rfl ?_ rfl;refine ao (bE (aP (af (fq rfl rfl (by show 2<=1000000;decide)) rfl) rfl hr)) ?_
 refine ao (cJ (aP (af (aP rfl rfl j1) (af (aP rfl rfl j2) rfl)) rfl (Hu h1 h2)) rfl) ?_;refine ao (dS (bF (iL (aw rfl rfl rfl rfl (cH (i:=0) rfl)) rfl) (me (n:=1000) (by rw[Za];exact f h1) (by decide) rfl) c1) rfl) ?_
 exact aQ (aU (af rfl (af (bF (iL (aw rfl rfl rfl rfl (cH (i:=1) rfl)) rfl) (me (n:=1000) (by rw[Za];exact f h2) (by decide) rfl) c2) rfl)) rfl (by show 2<=1000000;decide))
def far(a b:List Jnt):Nat:=(lck a b).length+(lck b a).length
def wU(j:Jnt)(h:fe st=some (.d (.int (j.length:Int)),st)):aA (fOp kS fe (fC (.int 2))) st=some (decide (j.length=2),st):=by
 refine fF (aG (aw h rfl rfl rfl (z:=(.bl (decide (V.int (j.length:Int)=V.int 2)),false)) rfl) rfl) ?_;rw[Bm];exact⟨fun z=>by injection z with z;lia,fun z=>by rw[z];rfl⟩
def Nk(a b:List Jnt):a.filter (fun j=>decide (j.length=2)&&!decide (j∈b))=lck a b:=by
 unfold lck prs;rw[BG];exact BL fun j _=>Bool.and_comm _ _
def yT{a b:List Jnt}:ci (gN 0) fO fP 1 (a.map jD) [.e,.v (.tup (b.map jD))]=some ((lck a b).map jD,[.e,.v (.tup (b.map jD))]):=by
 rw[← Nk];refine dA (fg:=gN 0) (fc:=fO) (fe:=fP) (k:=1) jD jD (fun j=>decide (j.length=2)&&!decide (j∈b)) [.e,.v (.tup (b.map jD))] a fun j _ =>
  ⟨[.v (jD j),.v (.tup (b.map jD))],[.v (jD j),.v (.tup (b.map jD))],rfl,?_,fun _=>rfl,fun _=>⟨.d (jD j),[.v (jD j),.v (.tup (b.map jD))],[.v (jD j),.v (.tup (b.map jD))],rfl,rfl,rfl⟩⟩
 have t:=wU j (st:=[.v (jD j),.v (.tup (b.map jD))]) (fe:=fCB bJ (aa (aC 0) ae)) (aN rfl rfl (oB j));cases c:decide (j.length=2) with
 | true=>rw[c]at t;exact eT t (aG (aw rfl rfl rfl rfl (kl j b)) rfl)
 | false=>rw[c]at t;exact iK t
def rL{a b:List Jnt}(ha:a.length<=1000)(hb:b.length<=1000):fS [.tup (a.map jD),.tup (b.map jD)]=some (.int (far a b:Nat),false):=by
 have ln:∀l:List Jnt,bJ [.lst (l.map jD)]=some (.int (l.length:Int),false):=fun l=>by
  show some (D.int (((l.map jD).length:Nat):Int),false)=_;rw[Za]
 refine aS (o:=.rt (.d (.int (far a b:Nat))) [.v (.tup (a.map jD)),.v (.tup (b.map jD)),.o (.lst ((lck a b).map jD))]) rfl ?_ rfl;refine ao (dS (bF (dW rfl rfl) (me (n:=1000) (by rw[Za];exact ha) (by decide) rfl) yT) rfl) ?_
 refine aQ (aw (aN rfl rfl (ln _)) (aN (af (bF (dW rfl rfl) (me (n:=1000) (by rw[Za];exact hb) (by decide) rfl) (yT (a:=b) (b:=a))) rfl) rfl (ln _)) rfl rfl rfl ?_)
 show Rs.d (D.int (((lck a b).length:Int)+((lck b a).length:Int)))=_;congr 2
def Hy(hφ:b8 φ)(w:WF N ss)(hN:∀x∈N,Nm x)(hNl:N.length<=100):∃(ts:List aK)(φ':D),kf φ [sD ss,.lst (N.map D.str)]=some ((sD ts,false),φ')/\WF N ts/\b8 φ':=by
 obtain⟨d,φ1,e1,d0,d1,f1⟩:=bT (n:=3) hφ (by decide) (by decide)
 by_cases c:d=0
 ·subst c;obtain⟨ts,φ2,e2,h2,h3,f2⟩:=GZ f1 (by lia) hN
  refine⟨ts,φ2,?_,⟨h2,h3⟩,f2⟩;refine cr (o:=.rt (.d (sD ts)) [.io φ2,.v (sD ss),.v (.lst (N.map D.str))]) rfl ?_ rfl;exact iu (dI (aG (aw (bV rfl rfl rfl rfl rfl rfl e1) rfl rfl rfl rfl) rfl) (aQ (wp rfl rfl rfl rfl rfl rfl e2)))
 ·obtain⟨us,φ2,e2,w2,f2⟩:=Jr f1 w hN hNl;obtain⟨ts,φ3,e3,h1,_,_,h4,f3⟩:=vp f2 w2.ne (w2.beads hN) (by rw[w2.len];exact hNl)
  refine⟨ts,φ3,?_,⟨h1,(Hd w2.ne h1 h4).trans w2.nm⟩,f3⟩;refine cr (o:=.rt (.d (sD ts)) [.io φ3,.v (sD ss),.v (.lst (N.map D.str))]) rfl ?_ rfl;have t:decide (V.int d=V.int 0)=false:=Ae fun z=>c (V.int.inj z);exact ao (b7 (fF (aG (aw (bV rfl rfl rfl rfl rfl rfl e1) rfl rfl rfl rfl) rfl) t) rfl) (aQ (bV rfl rfl (af (wp rfl rfl rfl rfl rfl rfl e2) rfl) rfl rfl rfl e3))
end
end
end K33
namespace K33
open PySem L2 VF VL VF22
noncomputable section
structure JS(E:List End)(J:List Jnt):Prop where
 fl:J.flatten.Perm E
 sz:∀j∈J,j.length=1∨j.length=2
 so:∀j∈J,bc j=j
 st:fT J=J
theorem qg:∀{L:List (List α)}{x y:List α}{a:α},L.flatten.Nodup->x∈L->y∈L->a∈x->a∈y->x=y
 | l::r,x,y,a,h,hx,hy,ax,ay=>by
  rw[Bh]at h;obtain⟨_,h2,h3⟩:=List.nodup_append.mp h;rcases Vd.mp hx with e1|hx'<;>rcases Vd.mp hy with e2|hy'
  ·rw[e1,e2]
  ·exact absurd rfl (h3 a (e1 ▸ ax) a (List.mem_flatten.mpr ⟨_,hy',ay⟩))
  ·exact absurd rfl (h3 a (e2 ▸ ay) a (List.mem_flatten.mpr ⟨_,hx',ax⟩))
  ·exact qg h2 hx' hy' ax ay
theorem vy:∀{L:List (List α)},(∀l∈L,l≠[])->L.length<=L.flatten.length
 | [],_=>Va _
 | l::r,h=>by
  have:=vy fun x hx=>h x (Xb _ hx);have:=Wh.mpr (h l Qa);rw[Bh,Xa,Yc];lia
def qh(l:List Jnt):fT (fT l)=fT l:=qb (di l).2
def bhd(J g c:List Jnt):List Jnt:=fT (J.filter (fun j=>!decide (j∈g))++c)
section
variable {E:List End}{J T J0 g c:List Jnt}{j k x:Jnt}{a b:End}{gone rest:List (Bool×Jnt)}{N:List Str}{ss:List aK}
def bhd_in:x∈bhd J g c↔(x∈J/\x∉g)∨x∈c:=by
 unfold bhd;rw[(di _).2.mem_iff,Wd,Qg];simp
def JS.fnd(h:JS E J)(nd:E.Nodup):J.flatten.Nodup:=h.fl.nodup_iff.mpr nd
def JS.ne(h:JS E J)(hj:j∈J):j≠[]:=fun z=>by rcases h.sz j hj with q|q<;>(rw[z]at q;cases q)
theorem JS.nd(h:JS E J)(nd:E.Nodup):J.Nodup:=yR (h.fnd nd) fun _ hj=>h.ne hj
def JS.len(h:JS E J):J.length<=E.length:=by rw[← h.fl.length_eq];exact vy fun _ hj=>h.ne hj
def JS.two(h:JS E J)(nd:E.Nodup)(hj:j∈J)(h2:j.length=2):∃a b,j=[a,b]/\a≠b/\bc [a,b]=[a,b]:=by
 obtain⟨a,b,rfl⟩:∃a b,j=[a,b]:=by
  rcases qG (.inr h2) with⟨a,e⟩|z
  ·rw[e]at h2;cases h2
  ·exact z
 exact⟨a,b,rfl,fun z=>(Wg.mp (yS (h.fnd nd) hj)).1 (by rw[z];exact Wj b),h.so _ hj⟩
def JS.move(h:JS E J)(nd:E.Nodup)(hg:∀x∈g,x∈J)(gn:g.Nodup)(hc:c.flatten.Perm g.flatten)(cs:∀j∈c,j.length=1∨j.length=2)(co:∀j∈c,bc j=j):JS E (bhd J g c):=by
 have p1:(J.filter (fun j=>decide (j∈g))).Perm g:=(Qj ((h.nd nd).filter _) gn).mpr fun x=>by
  rw[Qg,decide_eq_true_eq];exact⟨fun z=>z.2,fun z=>⟨hg x z,z⟩⟩
 have p2:=List.filter_append_perm (fun j=>decide (j∈g)) J;refine⟨?_,fun j hj=>?_,fun j hj=>?_,qh _⟩
 ·refine((di _).2.flatten).trans ?_;rw[Xn];refine Bj.trans ((hc.append_right _).trans ?_);refine((p1.symm.flatten).append_right _).trans ?_;rw[← Xn];exact(p2.flatten).trans h.fl
 ·rcases bhd_in.mp hj with q|q
  ·exact h.sz j q.1
  ·exact cs j q
 ·rcases bhd_in.mp hj with q|q
  ·exact h.so j q.1
  ·exact co j q
def OZ{j:Jnt}(h:j∈sj s):j.length=1∨j.length=2:=by
 rcases Wd.mp h with h|h
 ·obtain⟨q,_,rfl⟩:=Qc.mp h;exact .inr (G4 _ _)
 ·unfold tF at h;by_cases c:s.1=true
  ·rw[Ag c]at h;rw[Yb.mp h];exact .inr (G4 _ _)
  ·rw[Ak c]at h;rcases Vd.mp h with z|z
   ·rw[z];exact .inl rfl
   ·rw[Yb.mp z];exact .inl rfl
def rM(w:WF N ss):JS (N.map zero++N.map one) (jo ss):=⟨tG w.ne w.nm,fun j hj=>by
 obtain⟨s,_,h⟩:=Hx hj;exact OZ h,fun j hj=>by
 obtain⟨s,_,h⟩:=Hx hj
 exact Hv h,qh _⟩
end
end
end K33
namespace VF
open PySem L2
section
variable {st s:En}{r:Rs}{fe:FE}
def Hz(h:fe st=some (r,s))(h2:cont s r=some (.int i)):cC fe st=some (some i,s):=by
 simp only[cC,h,Wa,asInt,h2]
end
end VF
namespace K33
open PySem L2 VF VL VF22
noncomputable section
abbrev gY:=List Jnt×List Jnt
def j2c{j:Jnt}(h:j.length=2):∃a b,j=[a,b]:=by
 rcases qG (.inr h) with⟨a,rfl⟩|z
 ·cases h
 ·exact z
def j1c{j:Jnt}(h:j.length=1):∃a,j=[a]:=by
 rcases qG (.inl h) with z|⟨a,b,rfl⟩
 ·exact z
 ·cases h
def jsD(js:List Jnt):D:=.tup (js.map jD)
def dD(p:gY):D:=.tup [jsD p.1,jsD p.2]
def o7(h:es≠[]):bc es≠[]:=fun z=>h (Yi (by rw[← Hk,z];rfl))
def xc(o:End)(os:List End)(x y:End):List Jnt:=fT [bc [o,x],bc (os++[y])]
def cms:Jnt->Jnt->List (List Jnt)
 | [a,b],o::os=>[xc o os a b,xc o os b a]
 | [x],[a,b]=>[xc x [] a b,xc x [] b a]
 | [x],[y]=>[[bc [x,y]]]
 | _,_=>[]
def dn(one other:Jnt):List gY:=(cms one other).map fun c=>([one,other],c)
def O0(h:f st=some (r,s))(c:cont s r=some (.int i)):aA (fOp bEq f (fC (.int i))) st=some (true,s):=by
 refine aG (aw h rfl c rfl (z:=(.bl true,false)) ?_) rfl;show some (D.bl (decide (V.int i=V.int i)),false)=_;rw[Af rfl]
def O6(h:f st=some (r,s))(c:cont s r=some (.int i))(ne:i≠j):aA (fOp bEq f (fC (.int j))) st=some (false,s):=by
 refine aG (aw h rfl c rfl (z:=(.bl false,false)) ?_) rfl;show some (D.bl (decide (V.int i=V.int j)),false)=_;rw[Ae fun z=>ne (by injection z)]
def KP(n:Nat)(js:List Jnt):Pl (n+4) (jsD js):=.tup fun d hd=>by
 obtain⟨j,_,rfl⟩:=Qc.mp hd;exact mP n j
def O7(n:Nat)(p:gY):Pl (n+5) (dD p):=.tup fun d hd=>by
 rcases Vd.mp hd with rfl|hd
 ·exact KP n _
 ·obtain rfl:=Yb.mp hd;exact KP n _
def KQ(n:Nat)(a b:List Jnt):Cp (n+4) (jsD a) (jsD b):=by
 intro i x y e1 e2;rw[Qe]at e1 e2;obtain⟨c,_,rfl⟩:=Yf.mp e1;obtain⟨d,_,rfl⟩:=Yf.mp e2;exact G1 n c d
def O8(n:Nat)(a b:gY):Cp (n+5) (dD a) (dD b):=by
 intro i x y e1 e2
 match i,e1,e2 with
 | 0,e1,e2 =>
  have q1:jsD a.1=x:=by simpa using e1
  have q2:jsD b.1=y:=by simpa using e2
  subst q1 q2;exact KQ n _ _
 | 1,e1,e2 =>
  have q1:jsD a.2=x:=by simpa using e1
  have q2:jsD b.2=y:=by simpa using e2
  subst q1 q2;exact KQ n _ _
 | i+2,e1,_=>simp at e1
def JC(ps:List gY):CA 40 (ps.map dD):=fun a ha b hb=>by
 obtain⟨e,_,rfl⟩:=Qc.mp ha;obtain⟨e',_,rfl⟩:=Qc.mp hb;exact O8 35 e e'
def mi{d:D}(ps:List gY)(h0:d.seq=some (ps.map dD)):bS [d]=some (.lst (bR 40 (ps.map dD)),true):=by
 unfold bS;dsimp only;rw[h0];dsimp only;refine Ag ⟨fun x hx=>?_,JC ps,⟨_,.tp (T:="tuple") fun d hd=>?_⟩⟩
 ·obtain⟨e,_,rfl⟩:=Qc.mp hx;exact O7 35 e
 ·obtain⟨p,hp,rfl⟩:=Qc.mp hd;exact⟨jsD p.1,[jsD p.2],rfl,fun z=>(by cases z),rfl⟩
def vz{ps qs:List gY}(h:ps.Perm qs):bR 40 (ps.map dD)=bR 40 (qs.map dD):=ig (JC ps) (h.map dD)
def isP(j:Jnt):Bool:=decide (j.length=2)
def mj:Jnt->gY
 | [a,b]=>([[a,b]],[[a],[b]])
 | _=>([],[])
def prd(js:List Jnt)(k:Nat):List gY:=(js.drop (k+1)).flatMap (dn (js.getD k []))
def am(js:List Jnt):List gY:=(js.filter isP).map mj++(List.range js.length).flatMap (prd js)
def tL(a b:Jnt):(dn a b).length<=2:=by
 unfold dn;rw[Za];unfold cms;split<;>simp
def J12(js:List Jnt):Prop:=∀j∈js,j.length=1∨j.length=2
def O9{ds:List D}(h:k<=ds.length):oy (.tup ds) (some (k:Int)) none=some (.tup (ds.drop k),false):=by
 rw[sL];congr 3;unfold cutD;rw[HT.sIx_nat,HT.sIx_none,Wl h];exact AJ (by rw[Zf];lia)
def yU(js:List Jnt)(k:Nat):(prd js k).length<=2*js.length:=by
 unfold prd;have gl:∀(one:Jnt)(g:List Jnt),(g.flatMap (dn one)).length<=2*g.length:=fun one g=>by
  induction g with
  | nil=>simp
  | cons x g ih =>
   rw[Zd,Xa,Yc];have:=tL one x;lia
 have:=gl (js.getD k []) (js.drop (k+1));rw[Zf]at this;lia
theorem vA(js:List Jnt):∀g:List Nat,(g.flatMap (prd js)).length<=g.length*(2*js.length)
 | []=>by simp
 | x::g=>by
  rw[Zd,Xa,Yc,Nat.succ_mul];have:=yU js x;have:=vA js g;lia
def HA(a b:Jnt):fT [a,b]=fT [b,a]:=qb (List.Perm.swap b a [])
def Nl(o x y:End):xc o [] x y=fT [bc [x,o],[y]]:=by
 unfold xc;rw[kj o x,Vm,km]
def yV{one other:Jnt}{a b o x y:End}{acc:List D}{k k':Int}{s6:Sl}(hx:bIx (jD [a,b]) (.int k)=some (eD x,false))(hk:1-k=k')(hy:bIx (jD [a,b]) (.int k')=some (eD y,false))(ha:acc.length<1000)(i6:s6.isIo=false) :
  ∃t6,fN [.v (jD one),.v (jD other),.v (jD [a,b]),.v (jD [o]),.o (.lst acc),.v (.int k),s6]=some (.nx [.v (jD one),.v (jD other),.v (jD [a,b]),.v (jD [o]),.o (.lst (acc++[dD ([one,other],xc o [] x y)])),.v (.int k),t6])/\t6.isIo=false:=by
 have s1:=eO (d:=.lst [eD x,eD o]) [x,o] rfl
 have srt:=iP (d:=.lst [jD (bc [x,o]),jD [y]]) [bc [x,o],[y]] (fun j hj=>by
  rcases Vd.mp hj with rfl|hj
  ·exact o7 (by simp)
  ·rw[Yb.mp hj];simp) rfl
 refine⟨.o (.lst [jD (bc [x,o]),jD [y]]),?_,rfl⟩;refine ao (s:=[.v (jD one),.v (jD other),.v (jD [a,b]),.v (jD [o]),.o (.lst acc),.v (.int k),.o (.lst [jD (bc [x,o]),jD [y]])]) (dS (x:=.lst [jD (bc [x,o]),jD [y]]) (s:=[.v (jD one),.v (jD other),.v (jD [a,b]),.v (jD [o]),.o (.lst acc),.v (.int k),s6]) (fq (af (aN (af (aN (af (fq (af (aw rfl rfl rfl rfl hx) (af (aw rfl rfl rfl rfl (qH o [])) rfl)) rfl (by simp)) rfl) rfl s1) rfl) rfl (z:=(jD (bc [x,o]),false)) rfl) (af (aU (af (aw rfl (aw rfl rfl rfl rfl (z:=(.int k',false)) (by rw[← hk];rfl)) rfl rfl hy) rfl) rfl (by simp)) rfl)) rfl (by simp)) (bB (t:=s6) rfl i6)) ?_
 rw[Nl];exact bE (dU rfl rfl rfl (af (aU (af (aU rfl rfl (by simp)) (af (aN (af (aN rfl rfl srt) rfl) rfl (z:=(jsD (fT [bc [x,o],[y]]),false)) rfl) rfl)) rfl (by simp)) rfl) rfl rfl rfl (cO (by lia)))
def qi{one other:Jnt}(a b o:End):∃u6,(ft (mz (aa (fC (.int 2)) ae)) (gN 5) fN) [.v (jD one),.v (jD other),.v (jD [a,b]),.v (jD [o]),.o (.lst []),.e,.e]=some (.nx [.v (jD one),.v (jD other),.v (jD [a,b]),.v (jD [o]),.o (.lst [dD ([one,other],xc o [] a b),dD ([one,other],xc o [] b a)]),.v (.int 1),u6]):=by
 obtain⟨t6,e1,i6⟩:=yV (one:=one) (other:=other) (a:=a) (b:=b) (o:=o) (acc:=[]) (k:=0) (s6:=.e) (qH a [b]) rfl (tI a b []) (by decide) rfl
 obtain⟨u6,e2,_⟩:=yV (one:=one) (other:=other) (a:=a) (b:=b) (o:=o) (acc:=[dD ([one,other],xc o [] a b)]) (k:=1) (s6:=t6) (tI a b []) rfl (qH a [b]) (by simp) i6
 refine⟨u6,cW (ds:=[.int 0,.int 1]) (s1:=[.v (jD one),.v (jD other),.v (jD [a,b]),.v (jD [o]),.o (.lst []),.e,.e]) (fK (j:=2) rfl rfl ⟨by decide,by decide⟩) ?_⟩
 have g1:gN 5 (.int 0) [.v (jD one),.v (jD other),.v (jD [a,b]),.v (jD [o]),.o (.lst []),.e,.e]=some [.v (jD one),.v (jD other),.v (jD [a,b]),.v (jD [o]),.o (.lst []),.v (.int 0),.e]:=rfl;have g2:gN 5 (.int 1) [.v (jD one),.v (jD other),.v (jD [a,b]),.v (jD [o]),.o (.lst [dD ([one,other],xc o [] a b)]),.v (.int 0),t6]=some [.v (jD one),.v (jD other),.v (jD [a,b]),.v (jD [o]),.o (.lst [dD ([one,other],xc o [] a b)]),.v (.int 1),t6]:=rfl;simp only[Vm]at e1;simp only[f7,g1,e1,g2,e2,Wa];rfl
def vB{one other:Jnt}(h:(one.length=2/\other.length=1)∨(one.length=1/\other.length=2)):j7 [jD one,jD other]=some (.lst ((dn one other).map dD),true):=by
 rcases h with⟨h1,h2⟩|⟨h1,h2⟩
 ·obtain⟨a,b,rfl⟩:=j2c h1;obtain⟨o,rfl⟩:=j1c h2;obtain⟨u6,e⟩:=qi (one:=[a,b]) (other:=[o]) a b o;refine aS (o:=.rt (.s 4) [.v (jD [a,b]),.v (jD [o]),.v (jD [a,b]),.v (jD [o]),.o (.lst ((dn [a,b] [o]).map dD)),.v (.int 1),u6]) rfl ?_ rfl;refine ao (s:=[.v (jD [a,b]),.v (jD [o]),.v (jD [a,b]),.e,.e,.e,.e]) rfl ?_;refine ao (s:=[.v (jD [a,b]),.v (jD [o]),.v (jD [a,b]),.v (jD [o]),.e,.e,.e]) rfl ?_;refine ao (b7 (O6 (i:=2) (aN rfl rfl (oB [a,b])) rfl (by decide)) rfl) ?_
  refine ao (s:=[.v (jD [a,b]),.v (jD [o]),.v (jD [a,b]),.v (jD [o]),.o (.lst []),.e,.e]) rfl ?_;exact ao e rfl
 ·obtain⟨o,rfl⟩:=j1c h1;obtain⟨a,b,rfl⟩:=j2c h2;obtain⟨u6,e⟩:=qi (one:=[o]) (other:=[a,b]) a b o;refine aS (o:=.rt (.s 4) [.v (jD [o]),.v (jD [a,b]),.v (jD [a,b]),.v (jD [o]),.o (.lst ((dn [o] [a,b]).map dD)),.v (.int 1),u6]) rfl ?_ rfl;refine ao (s:=[.v (jD [o]),.v (jD [a,b]),.v (jD [o]),.e,.e,.e,.e]) rfl ?_;refine ao (s:=[.v (jD [o]),.v (jD [a,b]),.v (jD [o]),.v (jD [a,b]),.e,.e,.e]) rfl ?_;refine ao (s:=[.v (jD [o]),.v (jD [a,b]),.v (jD [a,b]),.v (jD [o]),.e,.e,.e]) (dI (O0 (aN rfl rfl (oB [o])) rfl) (ao (s:=[.v (jD [o]),.v (jD [a,b]),.v (jD [a,b]),.v (jD [a,b]),.e,.e,.e]) rfl rfl)) ?_;refine ao (s:=[.v (jD [o]),.v (jD [a,b]),.v (jD [a,b]),.v (jD [o]),.o (.lst []),.e,.e]) rfl ?_;exact ao e rfl
def Nn:kS (.int i) (.int j)=some (.bl (decide (i=j)),false):=by
 have e:bEq (.int i) (.int j)=some (.bl (decide (i=j)),false):=by
  show some (D.bl (decide (V.int i=V.int j)),false)=_;by_cases h:i=j
  ·subst h;simp
  ·rw[Ae h,Ae (fun z=>h (V.int.inj z))]
 unfold kS orD;rw[e]
def yW{JS K0:D}{a b c d x y:End}{acc:List D}{k k':Int}{s6:Sl}(hx:bIx (jD [c,d]) (.int k)=some (eD x,false))(hk:1-k=k')(hy:bIx (jD [c,d]) (.int k')=some (eD y,false))(ha:acc.length<100000)(i6:s6.isIo=false) :
  ∃t6,iB [.v JS,.o (.lst acc),.v K0,.v (jD [a,b]),.v (jD [c,d]),.v (.int k),s6]=some (.nx [.v JS,.o (.lst (acc++[dD ([[a,b],[c,d]],fT [bc [a,x],bc [b,y]])])),.v K0,.v (jD [a,b]),.v (jD [c,d]),.v (.int k),t6])/\t6.isIo=false:=by
 have s1:=eO (d:=.lst [eD a,eD x]) [a,x] rfl;have s2:=eO (d:=.lst [eD b,eD y]) [b,y] rfl
 have srt:=iP (d:=.lst [jD (bc [a,x]),jD (bc [b,y])]) [bc [a,x],bc [b,y]] (fun j hj=>by
  rcases Vd.mp hj with rfl|hj
  ·exact o7 (by simp)
  ·rw[Yb.mp hj];exact o7 (by simp)) rfl
 refine⟨.o (.lst [jD (bc [a,x]),jD (bc [b,y])]),?_,rfl⟩;refine ao (s:=[.v JS,.o (.lst acc),.v K0,.v (jD [a,b]),.v (jD [c,d]),.v (.int k),.o (.lst [jD (bc [a,x]),jD (bc [b,y])])]) (dS (x:=.lst [jD (bc [a,x]),jD (bc [b,y])]) (s:=[.v JS,.o (.lst acc),.v K0,.v (jD [a,b]),.v (jD [c,d]),.v (.int k),s6]) (fq (af (aN (af (aN (af (fq (af (aw rfl rfl rfl rfl (qH a [b])) (af (aw rfl rfl rfl rfl hx) rfl)) rfl (by simp)) rfl) rfl s1) rfl) rfl (z:=(jD (bc [a,x]),false)) rfl) (af (aN (af (aN (af (fq (af (aw rfl rfl rfl rfl (tI a b [])) (af (aw rfl (aw rfl rfl rfl rfl (z:=(.int k',false)) (by rw[← hk];rfl)) rfl rfl hy) rfl)) rfl (by simp)) rfl) rfl s2) rfl) rfl (z:=(jD (bc [b,y]),false)) rfl) rfl)) rfl (by simp)) (bB (t:=s6) rfl i6)) ?_
 exact bE (dU rfl rfl rfl (af (aU (af (aU rfl rfl (by simp)) (af (aN (af (aN rfl rfl srt) rfl) rfl (z:=(jsD (fT [bc [a,x],bc [b,y]]),false)) rfl) rfl)) rfl (by simp)) rfl) rfl rfl rfl (cO (by lia)))
def JD{JS K0:D}{one other:Jnt}{acc:List D}{s5 s6:Sl}(h1:one.length=1∨one.length=2)(h2:other.length=1∨other.length=2)(ha:acc.length+2<=100000)(i5:s5.isIo=false)(i6:s6.isIo=false) :
  ∃t5 t6,dZ [.v JS,.o (.lst acc),.v K0,.v (jD one),.v (jD other),s5,s6]=some (.nx [.v JS,.o (.lst (acc++(dn one other).map dD)),.v K0,.v (jD one),.v (jD other),t5,t6])/\t5.isIo=false/\t6.isIo=false:=by
 have tst:∀m:Int,aA (fOp kS (fOp f8 (fCB bJ (aa (aC 3) ae)) (fCB bJ (aa (aC 4) ae))) (fC (.int m))) [.v JS,.o (.lst acc),.v K0,.v (jD one),.v (jD other),s5,s6]=some (decide (((one.length:Int)+(other.length:Int))=m),[.v JS,.o (.lst acc),.v K0,.v (jD one),.v (jD other),s5,s6]):=fun m =>
  aG (aw (aw (aN rfl rfl (oB one)) (aN rfl rfl (oB other)) rfl rfl (z:=(.int ((one.length:Int)+(other.length:Int)),false)) rfl) rfl rfl rfl Nn) rfl
 have t2:=tst 2;have t3:=tst 3;rcases qG h1 with⟨x,rfl⟩|⟨a,b,rfl⟩<;>rcases qG h2 with⟨y,rfl⟩|⟨c,d,rfl⟩
 ·have s1:=eO (d:=.tup ([eD x]++[eD y])) [x,y] rfl;refine⟨s5,s6,dI t2 ?_,i5,i6⟩;exact bE (dU rfl rfl rfl (af (r:=.d (dD ([[x],[y]],[bc [x,y]]))) (aU (af (aU rfl rfl (by simp)) (af (aU (af (aN (af (aN (af (aw rfl rfl rfl rfl (yc (a:=[eD x]) (b:=[eD y]) (by simp))) rfl) rfl s1) rfl) rfl (z:=(jD (bc [x,y]),false)) rfl) rfl) rfl (by simp)) rfl)) rfl (by simp)) rfl) rfl rfl rfl (cO (by lia)))
 ·refine⟨s5,s6,b7 t2 (dI t3 ?_),i5,i6⟩;exact bE (dU rfl rfl rfl (af (aP rfl rfl (vB (one:=[x]) (other:=[c,d]) (.inr ⟨rfl,rfl⟩))) rfl) rfl rfl rfl (sM (by rw[Za];have:=tL [x] [c,d];lia)))
 ·refine⟨s5,s6,b7 t2 (dI t3 ?_),i5,i6⟩;exact bE (dU rfl rfl rfl (af (aP rfl rfl (vB (one:=[a,b]) (other:=[y]) (.inl ⟨rfl,rfl⟩))) rfl) rfl rfl rfl (sM (by rw[Za];have:=tL [a,b] [y];lia)))
 ·obtain⟨t6,e1,i6'⟩:=yW (JS:=JS) (K0:=K0) (a:=a) (b:=b) (c:=c) (d:=d) (acc:=acc) (k:=0) (s6:=s6) (qH c [d]) rfl (tI c d []) (by lia) i6
  obtain⟨u6,e2,j6⟩:=yW (JS:=JS) (K0:=K0) (a:=a) (b:=b) (c:=c) (d:=d) (acc:=acc++[dD ([[a,b],[c,d]],fT [bc [a,c],bc [b,d]])]) (k:=1) (s6:=t6) (tI c d []) rfl (qH c [d]) (by rw[Xa];simp only[Yc,Yg];lia) i6'
  have x1:fT [bc [a,c],bc [b,d]]=xc c [d] a b:=by
   unfold xc;rw[kj a c,kj b d];rfl
  have x2:fT [bc [a,d],bc [b,c]]=xc c [d] b a:=by
   unfold xc;rw[HA,kj b c,kj a d];rfl
  rw[x1]at e1 e2;rw[x2]at e2;have ef:(dn [a,b] [c,d]).map dD=[dD ([[a,b],[c,d]],xc c [d] a b)]++[dD ([[a,b],[c,d]],xc c [d] b a)]:=rfl;refine⟨.v (.int 1),u6,b7 t2 (b7 t3 (cW (ds:=[.int 0,.int 1]) (s1:=[.v JS,.o (.lst acc),.v K0,.v (jD [a,b]),.v (jD [c,d]),s5,s6]) (fK (j:=2) rfl rfl ⟨by decide,by decide⟩) ?_)),rfl,j6⟩
  have g1:gN 5 (.int 0) [.v JS,.o (.lst acc),.v K0,.v (jD [a,b]),.v (jD [c,d]),s5,s6]=some [.v JS,.o (.lst acc),.v K0,.v (jD [a,b]),.v (jD [c,d]),.v (.int 0),s6]:=by
   show(if s5.isIo=true then none else _)=_;rw[i5];rfl
  have g2:gN 5 (.int 1) [.v JS,.o (.lst (acc++[dD ([[a,b],[c,d]],xc c [d] a b)])),.v K0,.v (jD [a,b]),.v (jD [c,d]),.v (.int 0),t6]=some [.v JS,.o (.lst (acc++[dD ([[a,b],[c,d]],xc c [d] a b)])),.v K0,.v (jD [a,b]),.v (jD [c,d]),.v (.int 1),t6]:=rfl;rw[ef,← Qb];simp only[f7,g1,e1,g2,e2,Wa]
theorem rN(f g:α->List β):∀l:List α,(l.flatMap fun x=>f x++g x).Perm (l.flatMap f++l.flatMap g)
 | []=>List.Perm.refl _
 | x::r=>by
  rw[Zd,Zd,Zd];refine(AA (f x++g x) (rN f g r)).trans ?_;rw[Qb,Qb];refine AA _ ?_;rw[← Qb,← Qb];exact BX _ Bj
def ct1(j:Jnt):List gY:=if isP j=true then [mj j] else []
theorem yX:∀js:List Jnt,js.flatMap ct1=(js.filter isP).map mj
 | []=>rfl
 | j::r=>by
  rw[Zd,yX r,Zh];unfold ct1;cases isP j<;>rfl
def No(js:List Jnt):(List.range js.length).map (fun k=>js.getD k [])=js:=by
 refine CS fun i=>?_;rw[Qe];by_cases hi:i<js.length
 ·rw[List.getElem?_range hi,Ya hi];show some (js.getD i [])=_;rw[Xe,Ya hi];rfl
 ·rw[Zm (by rw[AQ];lia),Zm (by lia)];rfl
def lw1(js:List Jnt)(k:Nat):List gY:=ct1 (js.getD k [])++prd js k
def JE(js:List Jnt):((List.range js.length).flatMap (lw1 js)).Perm (am js):=by
 refine(rN (fun k=>ct1 (js.getD k [])) (prd js) (List.range js.length)).trans ?_;unfold am;rw[← yX];have e:(List.range js.length).flatMap (fun k=>ct1 (js.getD k []))=js.flatMap ct1:=by
  have:=congrArg (fun l=>l.flatMap ct1) (No js);simp only[List.flatMap_map]at this;exact this
 rw[e]
def yY(j:Jnt):(ct1 j).length<=1:=by unfold ct1;split<;>simp
def HB{JS K0:D}{rest:List Jnt}{one:Jnt}{acc:List D}{s4 s5 s6:Sl}(h1:one.length=1∨one.length=2)(hr:J12 rest)(hl:acc.length+2*rest.length<=99000)(i4:s4.isIo=false)(i5:s5.isIo=false)(i6:s6.isIo=false) :
  ∃t4 t5 t6,f7 (gN 4) dZ (rest.map jD) [.v JS,.o (.lst acc),.v K0,.v (jD one),s4,s5,s6]=some (.nx [.v JS,.o (.lst (acc++(rest.flatMap (dn one)).map dD)),.v K0,.v (jD one),t4,t5,t6])/\t4.isIo=false/\t5.isIo=false/\t6.isIo=false:=by
 obtain⟨sf,el,t4,t5,t6,rfl,j4,j5,j6⟩:=cw (fg:=gN 4) (B:=dZ) jD rest (fun gone st=>∃s4 s5 s6,st=[.v JS,.o (.lst (acc++(gone.flatMap (dn one)).map dD)),.v K0,.v (jD one),s4,s5,s6]/\s4.isIo=false/\s5.isIo=false/\s6.isIo=false)
  (by
   rintro gone j rs st ha ⟨s4,s5,s6,rfl,i4,i5,i6⟩;have hj:=hr j (by rw[ha];exact Qf _ Qa)
   have ln:=congrArg List.length ha;rw[Xa,Yc]at ln;have gl:∀g:List Jnt,(g.flatMap (dn one)).length<=2*g.length:=fun g=>by
    induction g with
    | nil=>simp
    | cons x g ih =>
     rw[Zd,Xa,Yc];have:=tL one x;lia
   have g1:=gl gone;obtain⟨t5,t6,e1,k5,k6⟩:=JD (JS:=JS) (K0:=K0) (one:=one) (other:=j) (acc:=acc++(gone.flatMap (dn one)).map dD) (s5:=s5) (s6:=s6) h1 hj (by rw[Xa,Za];lia) i5 i6
   refine⟨[.v JS,.o (.lst (acc++(gone.flatMap (dn one)).map dD)),.v K0,.v (jD one),.v (jD j),s5,s6],_,by show(if s4.isIo=true then none else _)=_;rw[i4];rfl,e1,.v (jD j),t5,t6,?_,rfl,k5,k6⟩
   rw[Ze,Vf,Zc,← Qb])
  rest [] [.v JS,.o (.lst acc),.v K0,.v (jD one),s4,s5,s6] rfl ⟨s4,s5,s6,by simp,i4,i5,i6⟩
 exact⟨t4,t5,t6,el,j4,j5,j6⟩
def D4{js:List Jnt}(h:J12 js)(hl:js.length<=200):j9 [.tup (js.map jD)]=some (.lst (bR 40 ((am js).map dD)),true):=by
 have big:∀g:List Nat,g.length<=js.length->(g.flatMap (lw1 js)).length<=80200:=fun g hg=>by
  have:∀g:List Nat,(g.flatMap (lw1 js)).length<=g.length*(2*js.length+1):=fun g=>by
   induction g with
   | nil=>simp
   | cons x g ih =>
    rw[Zd,Xa,Yc,Nat.succ_mul];have a:=yU js x;have b:=yY (js.getD x []);have c:(lw1 js x).length=(ct1 (js.getD x [])).length+(prd js x).length:=by unfold lw1;rw[Xa]
    lia
  have h1:=this g;have h2:g.length*(2*js.length+1)<=200*401:=Dc (by lia) (by lia)
  lia
 obtain⟨sf,el,s2,s3,s4,s5,s6,rfl,_⟩:=cw (fg:=gN 2) (B:=iC) (fun k:Nat=>D.int (0+(k:Int))) (List.range js.length) (fun gone st=>∃s2 s3 s4 s5 s6,st=[.v (.tup (js.map jD)),.o (.lst ((gone.flatMap (lw1 js)).map dD)),s2,s3,s4,s5,s6]/\s2.isIo=false/\s3.isIo=false/\s4.isIo=false/\s5.isIo=false/\s6.isIo=false)
  (by
   rintro gone k rest st ha ⟨s2,s3,s4,s5,s6,rfl,i2,i3,i4,i5,i6⟩;have hk:k<js.length:=by
    have:k∈List.range js.length:=by rw[ha];exact Qf _ Qa
    exact Zk.mp this
   have gl:gone.length<=js.length:=by
    have:=congrArg List.length ha;rw[AQ,Xa,Yc]at this;lia
   have hone:(js.getD k []).length=1∨(js.getD k []).length=2:=by
    rw[Xe,Ya hk];exact h _ (AZ hk)
   have ix:bIx (.tup (js.map jD)) (.int (k:Int))=some (jD (js.getD k []),false):=cH (i:=k) (by
    rw[Qe,Ya hk,Xe,Ya hk];rfl)
   have bg:=big gone gl;have cutS:(sIf (aA (fOp kS (fCB bJ (aa (aC 3) ae)) (fC (.int 2)))) (bU (fM isL aY 1 (aa (bm (aa (bm (aa (aC 3) ae)) (aa (bm (aa (bm (aa (fOp bIx (aC 3) (fC (.int 0))) ae)) (aa (bm (aa (fOp bIx (aC 3) (fC (.int 1))) ae)) ae))) ae))) ae))) bQ) [.v (.tup (js.map jD)),.o (.lst ((gone.flatMap (lw1 js)).map dD)),.v (.int (k:Int)),.v (jD (js.getD k [])),s4,s5,s6]=some (.nx [.v (.tup (js.map jD)),.o (.lst ((gone.flatMap (lw1 js)).map dD++(ct1 (js.getD k [])).map dD)),.v (.int (k:Int)),.v (jD (js.getD k [])),s4,s5,s6]):=by
    generalize js.getD k []=one at hone;have tst:aA (fOp kS (fCB bJ (aa (aC 3) ae)) (fC (.int 2))) [.v (.tup (js.map jD)),.o (.lst ((gone.flatMap (lw1 js)).map dD)),.v (.int (k:Int)),.v (jD one),s4,s5,s6]=some (decide ((one.length:Int)=2),[.v (.tup (js.map jD)),.o (.lst ((gone.flatMap (lw1 js)).map dD)),.v (.int (k:Int)),.v (jD one),s4,s5,s6]):=aG (aw (aN rfl rfl (oB one)) rfl rfl rfl Nn) rfl;rcases qG hone with⟨x,rfl⟩|⟨a,b,rfl⟩
    ·refine b7 tst ?_;show some _=some (Ot.nx [_,.o (.lst ((gone.flatMap (lw1 js)).map dD++[])),_,_,_,_,_]);rw[Xc]
    ·exact dI tst (bE (dU rfl rfl rfl (af (r:=.d (dD (mj [a,b]))) (aU (af (aU rfl rfl (by simp)) (af (aU (af (aU (af (aw rfl rfl rfl rfl (qH a [b])) rfl) rfl (by simp)) (af (aU (af (aw rfl rfl rfl rfl (tI a b [])) rfl) rfl (by simp)) rfl)) rfl (by simp)) rfl)) rfl (by simp)) rfl) rfl rfl rfl (cO (by rw[Za];lia))))
   have c1:=yY (js.getD k [])
   obtain⟨t4,t5,t6,e1,j4,j5,j6⟩:=HB (JS:=.tup (js.map jD)) (K0:=.int (k:Int)) (rest:=js.drop (k+1)) (one:=js.getD k []) (acc:=(gone.flatMap (lw1 js)).map dD++(ct1 (js.getD k [])).map dD) (s4:=s4) (s5:=s5) (s6:=s6) hone (fun j hj=>h j (AT hj)) (by
    rw[Xa,Za,Za,Zf];lia) i4 i5 i6
   have sl:=O9 (ds:=js.map jD) (k:=k+1) (by rw[Za];lia)
   rw[← Br]at sl;refine⟨[.v (.tup (js.map jD)),.o (.lst ((gone.flatMap (lw1 js)).map dD)),.v (.int (k:Int)),s3,s4,s5,s6],[.v (.tup (js.map jD)),.o (.lst (((gone++[k]).flatMap (lw1 js)).map dD)),.v (.int (k:Int)),.v (jD (js.getD k [])),t4,t5,t6],by rw[DB];show(if s2.isIo=true then none else _)=_;rw[i2];rfl,?_,.v (.int (k:Int)),.v (jD (js.getD k [])),t4,t5,t6,rfl,rfl,rfl,j4,j5,j6⟩
   refine ao (s:=[.v (.tup (js.map jD)),.o (.lst ((gone.flatMap (lw1 js)).map dD)),.v (.int (k:Int)),.v (jD (js.getD k [])),s4,s5,s6]) (cJ (aw rfl rfl rfl rfl ix) (bB (t:=s3) rfl i3)) ?_;refine ao cutS ?_;have ee:((gone++[k]).flatMap (lw1 js)).map dD=(gone.flatMap (lw1 js)).map dD++(ct1 (js.getD k [])).map dD++((js.drop (k+1)).flatMap (dn (js.getD k []))).map dD:=by
    rw[Ze,Vf,Zc];unfold lw1 prd;rw[Zc,← Qb]
   rw[ee]
   exact cW (dW (hW rfl (Hz (i:=((k+1:Nat):Int)) rfl rfl) rfl rfl sl) rfl) e1)
  (List.range js.length) [] [.v (.tup (js.map jD)),.o (.lst []),.e,.e,.e,.e,.e] rfl ⟨.e,.e,.e,.e,.e,rfl,rfl,rfl,rfl,rfl,rfl⟩
 rw[← vz (JE js)];refine aS (o:=.rt (.f (.lst (bR 40 (((List.range js.length).flatMap (lw1 js)).map dD)))) [.v (.tup (js.map jD)),.o (.lst (((List.range js.length).flatMap (lw1 js)).map dD)),s2,s3,s4,s5,s6]) rfl ?_ rfl;refine ao (s:=[.v (.tup (js.map jD)),.o (.lst []),.e,.e,.e,.e,.e]) rfl ?_;have lt:bJ [.tup (js.map jD)]=some (.int (js.length:Int),false):=by
  show some (D.int (((js.map jD).length:Nat):Int),false)=_;rw[Za]
 refine ao (cW (fK (j:=(js.length:Int)) (af (aN rfl rfl lt) rfl) rfl ⟨by lia,by lia⟩) el) ?_
 exact aQ (aN rfl rfl (mi ((List.range js.length).flatMap (lw1 js)) rfl))
end
end K33
namespace K33
open PySem L2 VF VL VF22
noncomputable section
def D5(xs:List D):jN [.tup xs]=some (.lst xs,true):=rfl
def wV(j:Jnt)(b:List Jnt):uK (jD j) (.tup (b.map jD))=some (.bl (decide (j∈b)),false):=by
 have e1:bIn (jD j) (.tup (b.map jD))=none:=rfl;unfold uK orD;rw[e1];unfold zR;dsimp only[D.seq];have dc:∀i:Decidable (jD j∈b.map jD),@decide _ i=decide (j∈b):=fun i=>by rw[Wf,decide_eq_true_eq,decide_eq_true_eq];exact Hs
 rw[Ag ⟨mP 37 j,fun d hd=>by obtain⟨k,_,rfl⟩:=Qc.mp hd;exact mP 37 k⟩,dc]
 rfl
def D6{J:List Jnt}(hl:J.length<=1000)(hc:p.2.length<=1000)(ne:∀j∈J,j≠[])(nc:∀j∈p.2,j≠[]):gi [.tup (J.map jD),dD p]=some (.tup ((bhd J p.1 p.2).map jD),false):=by
 obtain⟨g,c⟩:=p;have ec:ci (gN 0) fj fk 1 (J.map jD) [.e,.v (dD (g,c))]=some ((J.filter (fun j=>!decide (j∈g))).map jD,[.e,.v (dD (g,c))]) :=
  dA (fg:=gN 0) (fc:=fj) (fe:=fk) (k:=1) jD jD (fun j=>!decide (j∈g)) [.e,.v (dD (g,c))] J fun j _ =>
   ⟨[.v (jD j),.v (dD (g,c))],[.v (jD j),.v (dD (g,c))],rfl,aG (aw rfl (aw rfl rfl rfl rfl (cH (i:=0) rfl)) rfl rfl (kl j g)) rfl,fun _=>rfl,fun _=>⟨.d (jD j),[.v (jD j),.v (dD (g,c))],[.v (jD j),.v (dD (g,c))],rfl,rfl,rfl⟩⟩
 have hf:(J.filter (fun j=>!decide (j∈g))).length<=1000:=Yd (Ve _ _) hl;refine aS (o:=.rt (.d (.tup ((bhd J g c).map jD))) [.v (.tup (J.map jD)),.v (dD (g,c))]) rfl ?_ rfl;refine aQ (aN (af (aN (af (aw (bF (dW rfl rfl) (me (n:=1000) (by rw[Za];exact hl) (by decide) rfl) ec) (aN (af (aw rfl rfl rfl rfl (cH (i:=1) rfl)) rfl) rfl (D5 _)) rfl rfl (uL (by rw[Za,Za];exact Yd (Nat.add_le_add hf hc) (by decide)))) rfl) rfl (iP (J.filter (fun j=>!decide (j∈g))++c) (fun j hj=>?_) (by rw[Zc];rfl))) rfl) rfl (GX _))
 rcases Wd.mp hj with z|z
 ·exact ne j (Qg.mp z).1
 ·exact nc j z
def jn1(J:List Jnt):Jnt->Bool
 | [a,b]=>decide ([a]∈J)&&decide ([b]∈J)
 | _=>false
def iR:Jnt->gY
 | [a,b]=>([[a],[b]],[[a,b]])
 | _=>([],[])
def fd(J T:List Jnt):List gY:=(lck J T).map mj++(T.filter (jn1 J)).map iR
def JF(p q b:List Jnt):lck (p++q) b=lck p b++lck q b:=by unfold lck prs;rw[AK,AK]
def tM{xs:List D}(h:xs.length<=n)(hn:n<1000000:=by decide):aY (.lst xs) [y]=some (.non,.lst (xs++[y])):=cO (by lia)
theorem md1{J T:List Jnt}{F:List D}(hF:F.length<=2000)(j:Jnt):dP [.v (.tup (J.map jD)),.v (.tup (T.map jD)),.o (.lst F),.v (jD j)]=some (.nx [.v (.tup (J.map jD)),.v (.tup (T.map jD)),.o (.lst (F++((lck [j] T).map mj).map dD)),.v (jD j)]):=by
 have t:=wU j (st:=[.v (.tup (J.map jD)),.v (.tup (T.map jD)),.o (.lst F),.v (jD j)]) (fe:=fCB bJ (aa (aC 3) ae)) (aN rfl rfl (oB j));cases c:decide (j.length=2) with
 | false =>
  rw[c]at t;have e:lck [j] T=[]:=by unfold lck prs;rw[Zh,Ak (by rw[c];decide)];rfl
  rw[e,Xi,Xi,Xc];exact b7 (iK t) rfl
 | true =>
  rw[c]at t;by_cases d:j∈T
  ·have e:lck [j] T=[]:=by unfold lck prs;rw[Zh,Ag c,Zh,Ak (by simp[d])];rfl
   rw[e,Xi,Xi,Xc];exact b7 (fF (eT t (aG (aw rfl rfl rfl rfl (kl j T)) rfl)) (by simp[d])) rfl
  ·have e:lck [j] T=[j]:=by unfold lck prs;rw[Zh,Ag c,Zh,Ag (by simp[d])];rfl
   rw[e];obtain⟨a,b,rfl⟩:=j2c (Am c);refine dI (fF (eT t (aG (aw rfl rfl rfl rfl (kl [a,b] T)) rfl)) (by simp[d])) ?_
   exact bE (dU rfl rfl rfl (af (aU (af (aU rfl rfl (by show 1<=1000000;decide)) (af (aU (af (aU (af (aw rfl rfl rfl rfl (qH a [b])) rfl) rfl (by show 1<=1000000;decide)) (af (aU (af (aw rfl rfl rfl rfl (tI a b [])) rfl) rfl (by show 1<=1000000;decide)) rfl)) rfl (by show 2<=1000000;decide)) rfl)) rfl (by show 2<=1000000;decide)) rfl) rfl rfl rfl (tM hF))
def md2{J T:List Jnt}{F:List D}(hF:F.length<=2000)(j:Jnt)(hj:j.length=1∨j.length=2):dQ [.v (.tup (J.map jD)),.v (.tup (T.map jD)),.o (.lst F),.v (jD j)]=some (.nx [.v (.tup (J.map jD)),.v (.tup (T.map jD)),.o (.lst (F++(([j].filter (jn1 J)).map iR).map dD)),.v (jD j)]):=by
 have t:=wU j (st:=[.v (.tup (J.map jD)),.v (.tup (T.map jD)),.o (.lst F),.v (jD j)]) (fe:=fCB bJ (aa (aC 3) ae)) (aN rfl rfl (oB j));rcases qG hj with⟨a,rfl⟩|⟨a,b,rfl⟩
 ·have e:[[a]].filter (jn1 J)=[]:=rfl;rw[e,Xi,Xi,Xc];exact b7 (iK t) rfl
 ·have ta:aA (fOp uK (bm (aa (fOp bIx (aC 3) (fC (.int 0))) ae)) (aC 0)) [.v (.tup (J.map jD)),.v (.tup (T.map jD)),.o (.lst F),.v (jD [a,b])]=some (decide ([a]∈J),[.v (.tup (J.map jD)),.v (.tup (T.map jD)),.o (.lst F),.v (jD [a,b])]) :=
   aG (aw (aU (af (aw rfl rfl rfl rfl (qH a [b])) rfl) rfl (by show 1<=1000000;decide)) rfl rfl rfl (wV [a] J)) rfl
  have tb:aA (fOp uK (bm (aa (fOp bIx (aC 3) (fC (.int 1))) ae)) (aC 0)) [.v (.tup (J.map jD)),.v (.tup (T.map jD)),.o (.lst F),.v (jD [a,b])]=some (decide ([b]∈J),[.v (.tup (J.map jD)),.v (.tup (T.map jD)),.o (.lst F),.v (jD [a,b])]) :=
   aG (aw (aU (af (aw rfl rfl rfl rfl (tI a b [])) rfl) rfl (by show 1<=1000000;decide)) rfl rfl rfl (wV [b] J)) rfl
  by_cases ca:[a]∈J
  ·rw[Af ca]at ta;by_cases cb:[b]∈J
   ·rw[Af cb]at tb;have e:[[a,b]].filter (jn1 J)=[[a,b]]:=by
     rw[Zh,Ag (by show(decide ([a]∈J)&&decide ([b]∈J))=true;rw[Af ca,Af cb];rfl)];rfl
    rw[e];refine dI (eT t (eT ta tb)) ?_;exact bE (dU rfl rfl rfl (af (aU (af (aU (af (aU (af (aw rfl rfl rfl rfl (qH a [b])) rfl) rfl (by show 1<=1000000;decide)) (af (aU (af (aw rfl rfl rfl rfl (tI a b [])) rfl) rfl (by show 1<=1000000;decide)) rfl)) rfl (by show 2<=1000000;decide)) (af (aU rfl rfl (by show 1<=1000000;decide)) rfl)) rfl (by show 2<=1000000;decide)) rfl) rfl rfl rfl (tM hF))
   ·rw[Ae cb]at tb;have e:[[a,b]].filter (jn1 J)=[]:=by
     rw[Zh,Ak (by show ¬ (decide ([a]∈J)&&decide ([b]∈J))=true;rw[Ae cb,Di];decide)];rfl
    rw[e,Xi,Xi,Xc];exact b7 (eT t (eT ta tb)) rfl
  ·rw[Ae ca]at ta;have e:[[a,b]].filter (jn1 J)=[]:=by
    rw[Zh,Ak (by show ¬ (decide ([a]∈J)&&decide ([b]∈J))=true;rw[Ae ca,Dh];decide)];rfl
   rw[e,Xi,Xi,Xc];exact b7 (eT t (iK ta)) rfl
def JG{J T:List Jnt}(hJ:J.length<=1000)(hT:T.length<=1000)(sz:∀j∈T,j.length=1∨j.length=2):gW [.tup (J.map jD),.tup (T.map jD)]=some (.lst (bR 40 ((fd J T).map dD)),true):=by
 have l1:∀g:List Jnt,(lck g T).length<=g.length:=fun g=>Yd (Ve _ _) (Ve _ _);obtain⟨sf,e1,s3,rfl,q3⟩:=cw (fg:=gN 3) (B:=dP) jD J
  (fun gone st=>∃s3:Sl,st=[.v (.tup (J.map jD)),.v (.tup (T.map jD)),.o (.lst (((lck gone T).map mj).map dD)),s3]/\s3.isIo=false)
  (by
   rintro gone j rest st ha ⟨s3,rfl,q3⟩;have hg:gone.length<=1000:=by rw[ha,Xa]at hJ;lia
   refine⟨_,_,bB rfl q3,md1 (by rw[Za,Za];have:=l1 gone;lia) j,.v (jD j),?_,rfl⟩
   rw[JF,Zc,Zc])
  J [] [.v (.tup (J.map jD)),.v (.tup (T.map jD)),.o (.lst []),.e] rfl ⟨.e,rfl,rfl⟩
 obtain⟨sg,e2,s4,rfl,q4⟩:=cw (fg:=gN 3) (B:=dQ) jD T
  (fun gone st=>∃s3:Sl,st=[.v (.tup (J.map jD)),.v (.tup (T.map jD)),.o (.lst (((lck J T).map mj).map dD++((gone.filter (jn1 J)).map iR).map dD)),s3]/\s3.isIo=false)
  (by
   rintro gone j rest st ha ⟨s3,rfl,q3⟩;have hm:j∈T:=by rw[ha];simp
   have hg:gone.length<=1000:=by rw[ha,Xa]at hT;lia
   have hf:(gone.filter (jn1 J)).length<=gone.length:=Ve _ _;refine⟨_,_,bB rfl q3,md2 (by rw[Xa,Za,Za,Za,Za];have:=l1 J;lia) j (sz j hm),.v (jD j),?_,rfl⟩
   rw[AK,Zc,Zc,Qb])
  T [] [.v (.tup (J.map jD)),.v (.tup (T.map jD)),.o (.lst (((lck J T).map mj).map dD)),s3] rfl ⟨s3,by rw[List.filter_nil,Xi,Xi,Xc],q3⟩
 rw[← Zc]at e2;refine aS (o:=.rt (.f (.lst (bR 40 ((fd J T).map dD)))) [.v (.tup (J.map jD)),.v (.tup (T.map jD)),.o (.lst ((fd J T).map dD)),s4]) rfl ?_ rfl;exact ao (s:=[.v (.tup (J.map jD)),.v (.tup (T.map jD)),.o (.lst []),.e]) rfl (ao (cW (dW rfl rfl) e1) (ao (cW (dW rfl rfl) e2) (aQ (aN rfl rfl (mi (fd J T) rfl)))))
def JH(x y:Bool):ou [.lst [.bl x,.bl y]]=some (.bl (x&&y),false):=by cases x<;>cases y<;>rfl
def JI{J:List Jnt}:dF [.v (dD (iR [a,b])),.v (.tup (J.map jD))]=some (jn1 J [a,b],[.v (dD (iR [a,b])),.v (.tup (J.map jD))]):=by
 have ec:ci (gN 0) bZ eY 1 ([[a],[b]].map jD) [.e,.v (.tup (J.map jD))]=some ([[a],[b]].map (fun j=>D.bl (decide (j∈J))),[.e,.v (.tup (J.map jD))]) :=
  bW (fg:=gN 0) (fc:=bZ) (fe:=eY) (k:=1) jD (fun j=>D.bl (decide (j∈J))) [.e,.v (.tup (J.map jD))] [[a],[b]] fun j _ =>
   ⟨[.v (jD j),.v (.tup (J.map jD))],[.v (jD j),.v (.tup (J.map jD))],.d (.bl (decide (j∈J))),[.v (jD j),.v (.tup (J.map jD))],[.v (jD j),.v (.tup (J.map jD))],rfl,rfl,aw rfl rfl rfl rfl (wV j J),rfl,rfl⟩
 exact aG (aN (af (bF (dW (aw rfl rfl rfl rfl (cH (i:=0) rfl)) rfl) rfl ec) rfl) rfl (JH _ _)) rfl
section
variable {N:List Str}{ss ts us:List aK}{E:List End}{J T:List Jnt}
def yZ(nd:E.Nodup)(hJ:JS E J):(lck T J).filter (jn1 J)=T.filter (jn1 J):=by
 unfold lck prs;rw[BG,BG];refine BL fun j _=>?_
 match j with
 | []=>rfl
 | [a]=>rfl
 | [a,b] =>
  cases c:jn1 J [a,b] with
  | false=>rfl
  | true =>
   have ha:[a]∈J:=Am (Bool.and_eq_true_iff.mp (show(decide ([a]∈J)&&decide ([b]∈J))=true from c)).1;have:¬ [a,b]∈J:=fun z=>by
    have:=qg (hJ.fnd nd) z ha (Qa) (Wj a);cases this
   simp[this]
 | a::b::d::r=>rfl
def Np{j:Jnt}(h:j.length=2):wT j=dD (mj j):=by obtain⟨a,b,rfl⟩:=j2c h;rfl
def JJ{j:Jnt}(h:j.length=2):rK j=dD (iR j):=by obtain⟨a,b,rfl⟩:=j2c h;rfl
def nV(w:WF N ss)(w':WF N ts)(nd:N.Nodup)(hN:∀x∈N,Nm x)(hNl:N.length<=100):cZ [sD ss,sD ts]=some (.lst (bR 40 ((fd (jo ss) (jo ts)).map dD)),true):=by
 have h1:=iF w hNl;have h2:=iF w' hNl;have f:∀{a b:List Jnt},a.length<=1000->(lck a b).length<=1000:=fun h=>Yd (Ve _ _) (Yd (Ve _ _) h);have l1:=f (b:=jo ts) h1;have l2:=f (b:=jo ss) h2;have j1:=nP w.ne (w.beads hN) (by rw[w.len];exact hNl)
 have eb:=JB w w' nd hN hNl;have c1:(lck (jo ss) (jo ts)).map wT=((lck (jo ss) (jo ts)).map mj).map dD:=by
  rw[Vg];exact Qi fun j hj=>Np (lck_in.mp hj).2.1
 have c2:(lck (jo ts) (jo ss)).map rK=(lck (jo ts) (jo ss)).map fun j=>dD (iR j):=Qi fun j hj=>JJ (lck_in.mp hj).2.1;rw[c1,c2]at eb;have ec:ci (gN 0) dF eZ 1 ((lck (jo ts) (jo ss)).map fun j=>dD (iR j)) [.e,.v (.tup ((jo ss).map jD))]=some (((lck (jo ts) (jo ss)).filter (jn1 (jo ss))).map (fun j=>dD (iR j)),[.e,.v (.tup ((jo ss).map jD))]) :=
  dA (fg:=gN 0) (fc:=dF) (fe:=eZ) (k:=1) (fun j=>dD (iR j)) (fun j=>dD (iR j)) (jn1 (jo ss)) [.e,.v (.tup ((jo ss).map jD))] (lck (jo ts) (jo ss)) fun j hj=>by
   obtain⟨a,b,rfl⟩:=j2c (lck_in.mp hj).2.1;exact⟨[.v (dD (iR [a,b])),.v (.tup ((jo ss).map jD))],[.v (dD (iR [a,b])),.v (.tup ((jo ss).map jD))],rfl,JI,fun _=>rfl,fun _=>⟨.d (dD (iR [a,b])),[.v (dD (iR [a,b])),.v (.tup ((jo ss).map jD))],[.v (dD (iR [a,b])),.v (.tup ((jo ss).map jD))],rfl,rfl,rfl⟩⟩
 rw[yZ (tK nd) (rM w)]at ec;have lf:((jo ts).filter (jn1 (jo ss))).length<=1000:=Yd (Ve _ _) h2;have em:((jo ts).filter (jn1 (jo ss))).map (fun j=>dD (iR j))=(((jo ts).filter (jn1 (jo ss))).map iR).map dD:=by rw[Vg];rfl
 rw[em]at ec;refine aS (o:=.rt (.f (.lst (bR 40 ((fd (jo ss) (jo ts)).map dD)))) [.v (sD ss),.v (sD ts),.v (.tup [.lst (((lck (jo ss) (jo ts)).map mj).map dD),.lst ((lck (jo ts) (jo ss)).map fun j=>dD (iR j))]),.v (.tup ((jo ss).map jD)),.o (.lst ((((jo ts).filter (jn1 (jo ss))).map iR).map dD))]) rfl ?_ rfl;refine ao (cJ (aP rfl rfl eb) rfl) ?_;refine ao (cJ (aP rfl rfl j1) rfl) ?_;refine ao (dS (bF (iL (aw rfl rfl rfl rfl (cH (i:=1) rfl)) rfl) (me (n:=1000) (by rw[Za];exact l2) (by decide) rfl) ec) rfl) ?_
 refine aQ (aN (af (aw (aw rfl rfl rfl rfl (cH (i:=0) rfl)) rfl rfl rfl (uL (by rw[Za,Za,Za,Za];lia))) rfl) rfl (mi (fd (jo ss) (jo ts)) ?_))
 unfold fd;rw[Zc];rfl
end
end
end K33
namespace K33
open PySem L2 VF VL VF22
noncomputable section
def jp(x y:Jnt):List gY:=match x,y with
 | [a],[b]=>[([[a],[b]],[bc [a,b]])]
 | _,_=>[]
def three(p:gY):Bool:=decide (p.1.length+p.2.length=3)
def pw:List Jnt->List gY
 | []=>[]
 | x::r=>r.flatMap (dn x)++pw r
def pw1:List Jnt->List gY
 | []=>[]
 | x::r=>r.flatMap (jp x)++pw1 r
theorem HD:∀js:List Jnt,(List.range js.length).flatMap (prd js)=pw js
 | []=>rfl
 | x::r=>by
  rw[Yc,BU,Zd];have:(List.map Nat.succ (List.range r.length)).flatMap (prd (x::r))=(List.range r.length).flatMap (prd r):=by
   rw[List.flatMap_map];rfl
  rw[this,HD r];rfl
def Nq(o:End)(os:List End)(x y:End):(xc o os x y).length=2:=(di _).2.length_eq
def iS{x y:Jnt}{o:End}{os:List End}{c d:End}:three ([x,y],xc o os c d)=false:=by
 show decide (2+(xc o os c d).length=3)=false;rw[Nq];rfl
def HE{x y:Jnt}(h1:x.length=1∨x.length=2)(h2:y.length=1∨y.length=2):(dn x y).filter three=jp x y:=by
 have two:∀p q:gY,three p=false->three q=false->[p,q].filter three=[]:=fun p q hp hq=>by simp[Zh,hp,hq]
 rcases qG h1 with⟨a,rfl⟩|⟨a,b,rfl⟩<;>rcases qG h2 with⟨c,rfl⟩|⟨c,d,rfl⟩
 ·rfl
 ·exact two _ _ iS iS
 ·exact two _ _ iS iS
 ·exact two _ _ iS iS
theorem vC:∀{l:List α},(∀x∈l,f x=g x)->l.flatMap f=l.flatMap g
 | [],_=>rfl
 | x::r,h=>by rw[Zd,Zd,h x Qa,vC fun y hy=>h y (Xb _ hy)]
theorem qj:∀{js:List Jnt},J12 js->(pw js).filter three=pw1 js
 | [],_=>rfl
 | x::r,h=>by
  show(r.flatMap (dn x)++pw r).filter three=r.flatMap (jp x)++pw1 r;rw[AK,List.filter_flatMap,qj fun j hj=>h j (Xb _ hj)];rw[vC fun y hy=>HE (h x Qa) (h y (Xb _ hy))]
def jp_in:p∈jp x y↔∃a b,x=[a]/\y=[b]/\p=([[a],[b]],[bc [a,b]]):=by
 constructor
 ·intro h;unfold jp at h;split at h
  ·exact⟨_,_,rfl,rfl,Yb.mp h⟩
  ·cases h
 ·rintro⟨a,b,rfl,rfl,rfl⟩;exact Wj _
theorem pw1_in:∀{js:List Jnt}{p:gY},p∈pw1 js↔∃a b,[[a],[b]].Sublist js/\p=([[a],[b]],[bc [a,b]])
 | [],p=>⟨fun h=>(by cases h),fun⟨_,_,h,_⟩=>(by cases h)⟩
 | x::r,p=>by
  show p∈r.flatMap (jp x)++pw1 r↔_;rw[Wd,Ql,pw1_in];constructor
  ·rintro(⟨y,hy,hp⟩|⟨a,b,hs,e⟩)
   ·obtain⟨a,b,rfl,rfl,e⟩:=jp_in.mp hp;exact⟨a,b,(List.singleton_sublist.mpr hy).cons_cons _,e⟩
   ·exact⟨a,b,hs.cons x,e⟩
  ·rintro⟨a,b,hs,e⟩;cases hs with
   | cons _ h=>exact .inr ⟨a,b,h,e⟩
   | cons_cons _ h=>exact .inl ⟨[b],List.singleton_sublist.mp h,jp_in.mpr ⟨a,b,rfl,rfl,e⟩⟩
theorem HF:∀{r:List Jnt},r.Nodup->(r.flatMap (jp x)).Nodup
 | [],_=>AR
 | y::r,h=>by
  obtain⟨h1,h2⟩:=Wg.mp h;rw[Zd];refine List.nodup_append.mpr ⟨?_,HF h2,fun p hp q hq e=>?_⟩
  ·unfold jp;split
   ·exact Wg.mpr ⟨List.not_mem_nil,AR⟩
   ·exact AR
  ·obtain⟨z,hz,hq⟩:=Ql.mp hq;obtain⟨a,b,rfl,rfl,e1⟩:=jp_in.mp hp;obtain⟨c,d,e2,rfl,e3⟩:=jp_in.mp hq;rw[e1,e3]at e;have:=(Prod.mk.inj e).1;simp at this;exact h1 (this.2 ▸ hz)
theorem HG:∀{js:List Jnt},js.Nodup->(pw1 js).Nodup
 | [],_=>AR
 | x::r,h=>by
  obtain⟨h1,h2⟩:=Wg.mp h;refine List.nodup_append.mpr ⟨HF h2,HG h2,fun p hp q hq e=>?_⟩;obtain⟨z,hz,hp⟩:=Ql.mp hp;obtain⟨a,b,rfl,rfl,e1⟩:=jp_in.mp hp;obtain⟨c,d,hs,e3⟩:=pw1_in.mp hq;rw[e1,e3]at e;have:=(Prod.mk.inj e).1;simp at this;exact h1 (hs.subset (by rw[this.1];exact Qa))
def Pa(a b:End):ltN 39 (eD a) (eD b)=ltN 40 (eD a) (eD b):=rfl
open Classical in
def vD(st:fT J=J)(hs:[[a],[b]].Sublist J):bc [a,b]=[a,b]:=by
 have h1:Srt 40 (J.map jD):=by
  rw[← st,← (di J).1];exact nR (M6 J)
 have h2:([[a],[b]].map jD).Pairwise fun x y=>ltN 40 y x=false:=DH (hs.map jD) h1;have h3:ltN 40 (jD [b]) (jD [a])=false:=(Zi.mp h2).1 _ (Wj _);have h4:ltN 40 (eD b) (eD a)=false:=by
  by_cases e:eD b=eD a
  ·rw[e];exact mG 40 _
  ·have:ltN 40 (jD [b]) (jD [a])=if eD b=eD a then ltL (ltN 39) [] [] else ltN 39 (eD b) (eD a):=rfl;rw[this,Ak e]at h3;rw[← Pa];exact h3
 have h5:[eD a,eD b]=bR 40 ([a,b].map eD):=eE (Jl [a,b]) (List.Perm.refl _) (Zi.mpr ⟨fun d hd=>by rw[Yb.mp hd];exact h4,Bb _ _⟩)
 rw[(cS [a,b]).1]at h5;have:=congrArg (List.map unE) h5;rw[Vg]at this;exact((AY (bc [a,b])).symm.trans this.symm)
theorem y7:∀{J:List Jnt},x∈J->y∈J->x≠y->[x,y].Sublist J∨[y,x].Sublist J
 | z::r,hx,hy,h=>by
  rcases Vd.mp hx with e1|hx'<;>rcases Vd.mp hy with e2|hy'
  ·exact absurd (e1.trans e2.symm) h
  ·rw[e1];exact .inl ((List.singleton_sublist.mpr hy').cons_cons _)
  ·rw[e2];exact .inr ((List.singleton_sublist.mpr hx').cons_cons _)
  ·rcases y7 hx' hy' h with q|q
   ·exact .inl (q.cons _)
   ·exact .inr (q.cons _)
def y8{A B T:List Jnt}{s:Jnt}(nA:A.Nodup)(nB:B.Nodup)(nT:T.Nodup)(h2:s.length=2)(hs:s∉A)(h:∀x:Jnt,x.length=2->(x∈B↔x∈A∨x=s)) :
  (s∈T->far A T=far B T+1)/\(s∉T->far B T=far A T+1):=by
 have f:∀{a b:List Jnt},a.Nodup->(lck a b).Nodup:=fun h=>(h.filter _).filter _;have hB:s∈B:=(h s h2).mpr (.inr rfl);constructor
 ·intro c;have p1:(lck A T).Perm (lck B T):=(Qj (f nA) (f nB)).mpr fun x=>by
   rw[lck_in,lck_in];constructor
   ·rintro⟨a1,a2,a3⟩;exact⟨(h x a2).mpr (.inl a1),a2,a3⟩
   ·rintro⟨a1,a2,a3⟩;rcases(h x a2).mp a1 with z|z
    ·exact⟨z,a2,a3⟩
    ·exact absurd (z ▸ c) a3
  have p2:(lck T A).Perm (s::lck T B):=(Qj (f nT) (Wg.mpr ⟨fun z=>(lck_in.mp z).2.2 hB,f nT⟩)).mpr fun x=>by
   rw[Vd,lck_in,lck_in];constructor
   ·rintro⟨a1,a2,a3⟩;by_cases e:x=s
    ·exact .inl e
    ·exact .inr ⟨a1,a2,fun z=>((h x a2).mp z).elim a3 e⟩
   ·rintro(e|⟨a1,a2,a3⟩)
    ·rw[e];exact⟨c,h2,hs⟩
    ·exact⟨a1,a2,fun z=>a3 ((h x a2).mpr (.inl z))⟩
  unfold far;rw[p1.length_eq,p2.length_eq,Yc];lia
 ·intro c;have p1:(lck B T).Perm (s::lck A T):=(Qj (f nB) (Wg.mpr ⟨fun z=>hs (lck_in.mp z).1,f nA⟩)).mpr fun x=>by
   rw[Vd,lck_in,lck_in];constructor
   ·rintro⟨a1,a2,a3⟩;rcases(h x a2).mp a1 with z|z
    ·exact .inr ⟨z,a2,a3⟩
    ·exact .inl z
   ·rintro(e|⟨a1,a2,a3⟩)
    ·rw[e];exact⟨hB,h2,c⟩
    ·exact⟨(h x a2).mpr (.inl a1),a2,a3⟩
  have p2:(lck T A).Perm (lck T B):=(Qj (f nT) (f nT)).mpr fun x=>by
   rw[lck_in,lck_in];constructor
   ·rintro⟨a1,a2,a3⟩;exact⟨a1,a2,fun z=>((h x a2).mp z).elim a3 fun e=>c (e ▸ a1)⟩
   ·rintro⟨a1,a2,a3⟩;exact⟨a1,a2,fun z=>a3 ((h x a2).mpr (.inl z))⟩
  unfold far;rw[p1.length_eq,p2.length_eq,Yc];lia
section
variable {E:List End}{J T:List Jnt}{a b:End}
def wW{x:Jnt}(h2:x.length=2):x∉[[a],[b]]:=by grind
def JS.cut(h:JS E J)(nd:E.Nodup)(hm:[a,b]∈J):JS E (bhd J [[a,b]] [[a],[b]]):=by
 refine h.move nd (fun x hx=>by rw[Yb.mp hx];exact hm) (by simp) (List.Perm.refl _) ?_ ?_
 ·intro j hj;rcases Vd.mp hj with z|z
  ·rw[z];exact .inl rfl
  ·rw[Yb.mp z];exact .inl rfl
 ·intro j hj;rcases Vd.mp hj with z|z
  ·rw[z];exact km _
  ·rw[Yb.mp z];exact km _
def JS.join(h:JS E J)(nd:E.Nodup)(ha:[a]∈J)(hb:[b]∈J)(ab:a≠b):JS E (bhd J [[a],[b]] [bc [a,b]]):=by
 refine h.move nd (fun x hx=>?_) (by simp[ab]) ?_ ?_ ?_
 ·rcases Vd.mp hx with z|z
  ·rw[z];exact ha
  ·rw[Yb.mp z];exact hb
 ·rw[BW];exact(cS _).2
 ·intro j hj;rw[Yb.mp hj];exact .inr (G4 _ _)
 ·intro j hj;rw[Yb.mp hj];exact mf _
def JK(nd:E.Nodup)(hJ:JS E J)(hT:JS E T)(hm:[a,b]∈J):decide (far (bhd J [[a,b]] [[a],[b]]) T<far J T)=!decide ([a,b]∈T):=by
 obtain⟨h1,h2⟩:=y8 (A:=bhd J [[a,b]] [[a],[b]]) (B:=J) (T:=T) (s:=[a,b]) ((hJ.cut nd hm).nd nd) (hJ.nd nd) (hT.nd nd) rfl
  (fun z=>by
   rcases bhd_in.mp z with z|z
   ·exact z.2 (Wj _)
   ·exact wW rfl z)
  (fun x hx=>by
   rw[bhd_in];constructor
   ·intro z;by_cases e:x=[a,b]
    ·exact .inr e
    ·exact .inl (.inl ⟨z,fun q=>e (Yb.mp q)⟩)
   ·rintro((z|z)|z)
    ·exact z.1
    ·exact absurd z (wW hx)
    ·rw[z];exact hm)
 by_cases c:[a,b]∈T
 ·rw[Af c,Ae (by have:=h1 c;lia)];rfl
 ·rw[Ae c,Af (by have:=h2 c;lia)];rfl
def vE(nd:E.Nodup)(hJ:JS E J)(hT:JS E T)(ha:[a]∈J)(hb:[b]∈J)(ab:a≠b):decide (far (bhd J [[a],[b]] [bc [a,b]]) T<far J T)=decide (bc [a,b]∈T):=by
 have l2:=G4 a b;obtain⟨h1,h2⟩:=y8 (A:=J) (B:=bhd J [[a],[b]] [bc [a,b]]) (T:=T) (s:=bc [a,b]) (hJ.nd nd) ((hJ.join nd ha hb ab).nd nd) (hT.nd nd) l2
  (fun z=>by
   have:=qg (hJ.fnd nd) z ha ((cS _).2.mem_iff.mpr (Qa)) (Wj a)
   rw[this]at l2;cases l2)
  (fun x hx=>by
   rw[bhd_in,Yb]
   exact⟨fun z=>z.elim (fun q=>.inl q.1) .inr,fun z=>z.elim (fun q=>.inl ⟨q,wW hx⟩) .inr⟩)
 by_cases c:bc [a,b]∈T
 ·rw[Af c,Af (by have:=h1 c;lia)]
 ·rw[Ae c,Ae (by have:=h2 c;lia)]
def pp(J T:List Jnt)(p:gY):Bool:=three p&&decide (far (bhd J p.1 p.2) T<far J T)
theorem KR:∀{l:List α},l.Nodup->(∀a∈l,∀b∈l,f a=f b->a=b)->(l.map f).Nodup
 | [],_,_=>AR
 | a::r,h,hf=>by
  obtain⟨h1,h2⟩:=Wg.mp h;rw[We];refine Wg.mpr ⟨fun z=>?_,KR h2 fun x hx y hy=>hf x (Xb _ hx) y (Xb _ hy)⟩;obtain⟨b,hb,e⟩:=Qc.mp z;exact h1 (hf b (Xb _ hb) a Qa e ▸ hb)
def tO(h:jn1 J j=true):∃a b,j=[a,b]/\[a]∈J/\[b]∈J:=by
 unfold jn1 at h;split at h
 ·obtain⟨h1,h2⟩:=Bool.and_eq_true_iff.mp h;exact⟨_,_,rfl,Am h1,Am h2⟩
 ·cases h
def Pb(nd:E.Nodup)(hJ:JS E J)(hT:JS E T):((am J).filter (pp J T)).Perm (fd J T):=by
 unfold am fd;rw[HD,AK];refine List.Perm.append ?_ ?_
 ·rw[List.filter_map];have:(J.filter isP).filter (pp J T ∘ mj)=lck J T:=by
   show(J.filter isP).filter (pp J T ∘ mj)=(J.filter isP).filter fun j=>!decide (j∈T);refine BL fun j hj=>?_;obtain⟨m1,m2⟩:=Qg.mp hj;obtain⟨a,b,rfl⟩:=j2c (Am m2);show(true&&decide (far (bhd J [[a,b]] [[a],[b]]) T<far J T))=_;rw[Do,JK nd hJ hT m1]
  rw[this]
 ·have e:(pw J).filter (pp J T)=(pw1 J).filter fun p=>decide (far (bhd J p.1 p.2) T<far J T):=by
   rw[← qj hJ.sz,BG];refine BL fun p _=>?_;exact Bool.and_comm _ _
  rw[e];refine(Qj ((HG (hJ.nd nd)).filter _) (KR ((hT.nd nd).filter _) ?_)).mpr fun p=>?_
  ·intro x hx y hy e;obtain⟨a,b,rfl,_⟩:=tO (Qg.mp hx).2;obtain⟨c,d,rfl,_⟩:=tO (Qg.mp hy).2;exact List.cons.inj (Prod.mk.inj e).2 |>.1
  ·rw[Qg,pw1_in,Qc];constructor
   ·rintro⟨⟨a,b,hs,rfl⟩,hp⟩;have so:=vD hJ.st hs;have ha:[a]∈J:=hs.subset (by simp)
    have hb:[b]∈J:=hs.subset (by simp)
    have ab:a≠b:=fun z=>by
     have:=List.Nodup.sublist hs (hJ.nd nd);rw[z]at this;simp at this
    rw[vE nd hJ hT ha hb ab,so]at hp;refine⟨[a,b],Qg.mpr ⟨Am hp,?_⟩,by rw[so];rfl⟩
    show(decide ([a]∈J)&&decide ([b]∈J))=true;rw[Af ha,Af hb];rfl
   ·rintro⟨j,hj,rfl⟩;obtain⟨m1,m2⟩:=Qg.mp hj;obtain⟨a,b,rfl,ha,hb⟩:=tO m2;obtain⟨a',b',e,ab,so⟩:=hT.two nd m1 rfl;obtain⟨rfl,rfl⟩:a=a'/\b=b':=by simpa using e
    refine⟨⟨a,b,?_,by rw[so];rfl⟩,?_⟩
    ·rcases y7 ha hb (by simp[ab]) with z|z
     ·exact z
     ·have:=vD hJ.st z;rw[eI (List.Perm.swap a b []),so]at this;exact absurd (List.cons.inj this).1 ab
    ·show decide (far (bhd J [[a],[b]] [[a,b]]) T<far J T)=true;have:=vE nd hJ hT ha hb ab;rw[so]at this;rw[this,Af m1]
end
end
end K33
namespace K33
open PySem L2 VF VL VF22
noncomputable section
section
variable {E:List End}{J T:List Jnt}
def HH(js:List Jnt):bJ [jsD js]=some (.int (js.length:Int),false):=by
 show some (D.int (((js.map jD).length:Nat):Int),false)=_;rw[Za]
def HI(p:gY)(h:st[4]?=some (.v (dD p))):aA (fOp kS (fOp cj (fCB bJ (aa (fOp bIx (aC 4) (fC (.int 0))) ae)) (fCB bJ (aa (fOp bIx (aC 4) (fC (.int 1))) ae))) (fC (.int 3))) st=some (three p,st):=by
 have v:aC 4 st=some (.d (dD p),st):=by unfold aC;rw[h]
 have i0:bIx (dD p) (.int 0)=some (jsD p.1,false):=cH (i:=0) rfl;have i1:bIx (dD p) (.int 1)=some (jsD p.2,false):=cH (i:=1) rfl;refine fF (aG (aw (aw (aN (af (aw v rfl rfl rfl i0) rfl) rfl (HH p.1)) (aN (af (aw v rfl rfl rfl i1) rfl) rfl (HH p.2)) rfl rfl (z:=(.int ((p.1.length:Int)+(p.2.length:Int)),false)) rfl) rfl rfl rfl Nn) rfl) ?_;unfold three;rw[Bm];lia
def Pc(nd:E.Nodup)(hJ:JS E J)(hp:p∈am J)(h3:three p=true):p.2.length<=2/\∀j∈p.2,j≠[]:=by
 unfold am at hp;rw[HD]at hp;rcases Wd.mp hp with z|z
 ·obtain⟨j,hj,rfl⟩:=Qc.mp z;obtain⟨a,b,rfl⟩:=j2c (Am (Qg.mp hj).2);refine⟨by show 2<=2;decide,fun j hj=>?_⟩
  have hj:j∈[[a],[b]]:=hj;intro q;rw[q]at hj;simp at hj
 ·have:p∈pw1 J:=by rw[← qj hJ.sz];exact Qg.mpr ⟨z,h3⟩
  obtain⟨a,b,_,rfl⟩:=pw1_in.mp this;refine⟨by show 1<=2;decide,fun j hj=>?_⟩
  rw[Yb.mp hj];exact o7 (by simp)
def HJ(nd:E.Nodup)(hE:E.length<=200)(hJ:JS E J)(hT:JS E T):gx [.tup (J.map jD),.tup (T.map jD)]=some (.lst (bR 40 ((fd J T).map dD)),true):=by
 have lJ:=Yd hJ.len hE;have lT:=Yd hT.len hE;have bl:bJ [.tup (J.map jD)]=some (.int (J.length:Int),false):=HH J;have tst:aA (fOp bGt (fCB bJ (aa (aC 0) ae)) (fC (.int 10))) [.v (.tup (J.map jD)),.v (.tup (T.map jD)),.o (.lst []),.e,.e]=some (decide ((10:Int)<J.length),[.v (.tup (J.map jD)),.v (.tup (T.map jD)),.o (.lst []),.e,.e]) :=
  aG (aw (aN rfl rfl bl) rfl rfl rfl (z:=(.bl (decide ((10:Int)<J.length)),false)) rfl) rfl
 by_cases c:(10:Int)<J.length
 ·rw[Af c]at tst;refine aS (o:=.rt (.f (.lst (bR 40 ((fd J T).map dD)))) [.v (.tup (J.map jD)),.v (.tup (T.map jD)),.o (.lst []),.e,.e]) rfl ?_ rfl;exact ao (s:=[.v (.tup (J.map jD)),.v (.tup (T.map jD)),.o (.lst []),.e,.e]) rfl (iu (dI tst (aQ (aP rfl rfl (JG (by lia) (by lia) hT.sz)))))
 ·rw[Ae c]at tst;obtain⟨ps,ep,pp_⟩:=nQ (et 40 ((am J).map dD));have ld:=D4 hJ.sz lJ;rw[ep]at ld;have lps:ps.length<=1000:=by
   rw[pp_.length_eq];unfold am;have h1:((J.filter isP).map mj).length<=10:=by rw[Za];have:=Ve isP J;lia
   have h2:=vA J (List.range J.length);rw[AQ]at h2;have h3:J.length*(2*J.length)<=10*20:=Dc (by lia) (by lia)
   rw[Xa];lia
  obtain⟨sf,e,s4,rfl,q4⟩:=cw (fg:=gN 4) (B:=kg) dD ps
   (fun gone st=>∃s4:Sl,st=[.v (.tup (J.map jD)),.v (.tup (T.map jD)),.o (.lst ((gone.filter (pp J T)).map dD)),.v (.int (far J T:Nat)),s4]/\s4.isIo=false)
   (by
    rintro gone p rest st ha ⟨s4,rfl,q4⟩;have hm:p∈am J:=pp_.mem_iff.mp (by rw[ha];simp)
    have hg:(gone.filter (pp J T)).length<=1000:=by
     have:=Ve (pp J T) gone;rw[ha,Xa]at lps;lia
    have t3:=HI p (st:=[.v (.tup (J.map jD)),.v (.tup (T.map jD)),.o (.lst ((gone.filter (pp J T)).map dD)),.v (.int (far J T:Nat)),.v (dD p)]) rfl;refine⟨_,[.v (.tup (J.map jD)),.v (.tup (T.map jD)),.o (.lst (((gone++[p]).filter (pp J T)).map dD)),.v (.int (far J T:Nat)),.v (dD p)],bB rfl q4,?_,.v (dD p),rfl,rfl⟩;rw[AK,Zc];cases c3:three p with
    | false =>
     rw[c3]at t3;have:[p].filter (pp J T)=[]:=by
      rw[Zh,Ak (by unfold pp;rw[c3,Dh];decide)];rfl
     rw[this,Xi,Xc];exact b7 (iK t3) rfl
    | true =>
     rw[c3]at t3;obtain⟨l2,ne2⟩:=Pc nd hJ hm c3;have eb:=D6 (J:=J) (p:=p) (by lia) (by lia) (fun _ h=>hJ.ne h) ne2
     have lb:(bhd J p.1 p.2).length<=1000:=by
      unfold bhd;rw[(di _).2.length_eq,Xa];have:=Ve (fun j=>!decide (j∈p.1)) J;lia
     have ea:=rL (a:=bhd J p.1 p.2) (b:=T) lb (by lia)
     have tl:aA (fOp bLt (bq fS (aa (bi gi (aa (aC 0) (aa (aC 4) ae))) (aa (aC 1) ae))) (aC 3)) [.v (.tup (J.map jD)),.v (.tup (T.map jD)),.o (.lst ((gone.filter (pp J T)).map dD)),.v (.int (far J T:Nat)),.v (dD p)]=some (decide (((far (bhd J p.1 p.2) T:Nat):Int)<((far J T:Nat):Int)),[.v (.tup (J.map jD)),.v (.tup (T.map jD)),.o (.lst ((gone.filter (pp J T)).map dD)),.v (.int (far J T:Nat)),.v (dD p)]) :=
      aG (aw (bp (af (aP rfl rfl eb) rfl) rfl ea rfl) rfl rfl rfl (z:=(.bl (decide (((far (bhd J p.1 p.2) T:Nat):Int)<((far J T:Nat):Int))),false)) rfl) rfl
     by_cases d:far (bhd J p.1 p.2) T<far J T
     ·rw[Af (by lia)]at tl
      have:[p].filter (pp J T)=[p]:=by
       rw[Zh,Ag (by unfold pp;rw[c3,Af d];rfl)];rfl
      rw[this];exact dI (eT t3 tl) (bE (dU rfl rfl rfl rfl rfl rfl rfl (tM (n:=1000) (by rw[Za];exact hg))))
     ·rw[Ae (by lia)]at tl
      have:[p].filter (pp J T)=[]:=by
       rw[Zh,Ak (by unfold pp;rw[c3,Ae d];decide)];rfl
      rw[this,Xi,Xc]
      exact b7 (eT t3 tl) rfl)
   ps [] [.v (.tup (J.map jD)),.v (.tup (T.map jD)),.o (.lst []),.v (.int (far J T:Nat)),.e] rfl ⟨.e,rfl,rfl⟩
  have fin:(ps.filter (pp J T)).map dD=bR 40 ((fd J T).map dD):=by
   refine eE (JC (fd J T)) (((pp_.filter _).trans (Pb nd hJ hT)).map dD) ?_;have h1:Srt 40 (ps.map dD):=by rw[← ep];exact nR (JC (am J))
   exact DH (List.filter_sublist.map dD) h1
  rw[fin]at e;refine aS (o:=.rt (.s 2) [.v (.tup (J.map jD)),.v (.tup (T.map jD)),.o (.lst (bR 40 ((fd J T).map dD))),.v (.int (far J T:Nat)),s4]) rfl ?_ rfl;exact ao (s:=[.v (.tup (J.map jD)),.v (.tup (T.map jD)),.o (.lst []),.e,.e]) rfl (ao (b7 tst rfl) (ao (cJ (bp rfl rfl (rL (by lia) (by lia)) rfl) rfl) (ao (cW (iL (aP rfl rfl ld) rfl) e) (aQ rfl))))
end
end
end K33
namespace K33
open PySem L2 VF VL VF22
noncomputable section
def jT(ss:List aK):D:=.tup ((jo ss).map jD)
def D7{P:D->Prop}{x y:D}(h1:P x)(h2:P y):∀d∈[x,y],P d:=by simp_all
def Nr{P:D->Prop}{x:D}(h1:P x):∀d∈[x],P d:=fun d hd=>by rw[Yb.mp hd];exact h1
def HK(n:Nat)(e:End):Dp (n+2) (eD e):=.tup (by show 2<=1000000;decide) (D7 (.str _ _) (.int _ _))
def tP(n:Nat)(a:End):Dp (n+3) (jD [a]):=.tup (by show 1<=1000000;decide) (Nr (HK n a))
def HL(n:Nat)(a b:End):Dp (n+3) (jD [a,b]):=.tup (by show 2<=1000000;decide) (D7 (HK n a) (HK n b))
def Pd(n:Nat){J T:List Jnt}{d:D}(h:d∈(fd J T).map dD):Dp (n+5) d:=by
 obtain⟨p,hp,rfl⟩:=Qc.mp h;rcases Wd.mp hp with z|z
 ·obtain⟨j,hj,rfl⟩:=Qc.mp z;obtain⟨a,b,rfl⟩:=j2c (lck_in.mp hj).2.1;exact .tup (by show 2<=1000000;decide) (D7 (.tup (by show 1<=1000000;decide) (Nr (HL n _ _))) (.tup (by show 2<=1000000;decide) (D7 (tP n _) (tP n _))))
 ·obtain⟨j,hj,rfl⟩:=Qc.mp z;obtain⟨a,b,rfl,_⟩:=tO (Qg.mp hj).2;exact .tup (by show 2<=1000000;decide) (D7 (.tup (by show 2<=1000000;decide) (D7 (tP n _) (tP n _))) (.tup (by show 1<=1000000;decide) (Nr (HL n _ _))))
def HM{J T:List Jnt}(hJ:J.length<=1000)(hT:T.length<=1000):(bR 40 ((fd J T).map dD)).length<=2000:=by
 rw[(et _ _).length_eq,Za];unfold fd;have h1:(lck J T).length<=J.length:=Yd (Ve _ _) (Ve _ _);have h2:=Ve (jn1 J) T;rw[Xa,Za,Za];lia
def HN{J T:List Jnt}(hJ:J.length<=1000)(hT:T.length<=1000):Dp 8 (.lst (bR 40 ((fd J T).map dD))):=.lst (Yd (HM hJ hT) (by decide)) fun d hd=>Pd 2 ((et _ _).mem_iff.mp hd)
def JL{E:List End}(nd:E.Nodup)(hJ:JS E J):fd J J=[]:=by
 have h:lck J J=[]:=List.eq_nil_iff_forall_not_mem.mpr fun j hj=>by
  obtain⟨h1,_,h2⟩:=lck_in.mp hj;exact h2 h1
 unfold fd;rw[← yZ nd hJ,h];rfl
def JM(ns:List Int):bz yD 8 1 [.fl (ns.map D.int)]=some (.bl true,false):=by
 have f0:b8 (Fl ns 0 0 1 0):=⟨ns,0,0,1,0,rfl,by decide,by decide,by decide,by decide⟩
 obtain⟨d1,φ1,e1,d10,d11,f1⟩:=bT (n:=6) f0 (by decide) (by decide)
 obtain⟨d2,φ2,e2,d20,d21,f2⟩:=bT (n:=4) f1 (by decide) (by decide)
 generalize hS:D.fl (ns.map D.int)=S;have sp:∃A B C R,yD=aD A (aD B (aD C R)) /\
   A [.v S,.e,.e,.e,.e,.e,.e,.e]=some (.nx [.v S,.o (Fl ns 0 0 1 0),.e,.e,.e,.e,.e,.e]) /\
   B [.v S,.o (Fl ns 0 0 1 0),.e,.e,.e,.e,.e,.e]=some (.nx [.v S,.o φ1,.v (.int d1),.e,.e,.e,.e,.e]) /\
   (∃(n:Nat)(φ3:D),C [.v S,.o φ1,.v (.int d1),.e,.e,.e,.e,.e]=some (.nx [.v S,.o φ3,.v (.int n),.e,.e,.e,.e,.e])/\n<=40/\b8 φ3) /\
   (∀(n:Nat)(φ3:D),n<=40->b8 φ3->∃s,R [.v S,.o φ3,.v (.int n),.e,.e,.e,.e,.e]=some (.rt (.d (.bl true)) s)):=by
  refine⟨_,_,_,_,rfl,dS (aP rfl rfl (hS ▸ Jg ns)) rfl,cJ (bV rfl rfl rfl rfl rfl rfl e1) rfl,?_,?_⟩
  ·by_cases c:d2=0
   ·subst c;obtain⟨d3,φ3,e3,d30,d31,f3⟩:=bT (n:=13) f2 (by decide) (by decide)
    obtain⟨n,rfl⟩:=Bc d30;refine⟨n,φ3,?_,by lia,f3⟩
    refine dI (s:=[.v S,.o φ2,.v (.int d1),.e,.e,.e,.e,.e]) (aG (aw (bV rfl rfl rfl rfl rfl rfl e2) rfl rfl rfl rfl) rfl) ?_;exact cJ (bV rfl rfl rfl rfl rfl rfl e3) rfl
   ·obtain⟨n,rfl⟩:=Bc d10;refine⟨n,φ2,?_,by lia,f2⟩
    have t:decide (V.int d2=V.int 0)=false:=Ae fun z=>c (V.int.inj z);exact b7 (s:=[.v S,.o φ2,.v (.int n),.e,.e,.e,.e,.e]) (fF (aG (aw (bV rfl rfl rfl rfl rfl rfl e2) rfl rfl rfl rfl) rfl) t) rfl
  ·intro n φ3 hn f3;obtain⟨N,φ4,e4,hxl,nm,nd,f4⟩:=GW (n:=(n:Int)) f3 (by lia) (by lia)
   have hNl:N.length<=100:=by lia
   obtain⟨s0,φ5,e5,h51,h52,f5⟩:=GZ f4 (by lia) nm
   have w0:WF N s0:=⟨h51,h52⟩;obtain⟨s1,φ6,e6,w1,f6⟩:=Hy f5 w0 nm hNl;have jj:∀{s:List aK},WF N s->db [sD s]=some (jT s,false):=fun w=>wR w.ne (w.beads nm) (by rw[w.len];exact hNl)
   have ndE:=tK nd;have lE:(N.map zero++N.map one).length<=200:=by rw[Xa,Za,Za];lia
   have r01:=nV w0 w1 nd nm hNl;have r10:=nV w1 w0 nd nm hNl;have r00:cZ [sD s0,sD s0]=some (.lst [],true):=by
    rw[nV w0 w0 nd nm hNl,JL ndE (rM w0)];have:bR 40 (([]:List gY).map dD)=[]:=List.perm_nil.mp (et 40 []);rw[this]
   have g01:gx [jT s0,jT s1]=some (.lst (bR 40 ((fd (jo s0) (jo s1)).map dD)),true):=HJ ndE lE (rM w0) (rM w1);have g10:gx [jT s1,jT s0]=some (.lst (bR 40 ((fd (jo s1) (jo s0)).map dD)),true):=HJ ndE lE (rM w1) (rM w0);have dp0:=HN (iF w0 hNl) (iF w1 hNl);have dp1:=HN (iF w1 hNl) (iF w0 hNl);have l0:=HM (iF w0 hNl) (iF w1 hNl);generalize bR 40 ((fd (jo s0) (jo s1)).map dD)=R at r01 g01 dp0 l0;generalize bR 40 ((fd (jo s1) (jo s0)).map dD)=R' at r10 g10 dp1;have pt:mD (.lst (R++[D.non])) (.int 0) .non=some (.lst ((R++[D.non]).set 0 .non)):=by
    show(ixN (R++[D.non]).length 0).bind _=_;have:ixN (R++[D.non]).length 0=some 0:=by
     unfold ixN;rw[Ag (by decide),Ag (by rw[Xa];simp)];rfl
    rw[this];rfl
   refine⟨[.v S,.o φ6,.v (.int n),.v (.lst (N.map D.str)),.v (sD s0),.v (sD s1),.o (.lst R),.o (.lst ((R++[D.non]).set 0 .non))],?_⟩;refine ao (s:=[.v S,.o φ4,.v (.int n),.o (.lst (N.map D.str)),.e,.e,.e,.e]) (dS (bV rfl rfl rfl rfl rfl rfl e4) rfl) ?_;refine ao (s:=[.v S,.o φ5,.v (.int n),.v (.lst (N.map D.str)),.v (sD s0),.e,.e,.e]) (cJ (wp rfl rfl rfl rfl rfl rfl e5) rfl) ?_;refine ao (s:=[.v S,.o φ6,.v (.int n),.v (.lst (N.map D.str)),.v (sD s0),.v (sD s1),.e,.e]) (cJ (bV rfl rfl rfl rfl rfl rfl e6) rfl) ?_;refine ao (s:=[.v S,.o φ6,.v (.int n),.v (.lst (N.map D.str)),.v (sD s0),.v (sD s1),.o (.lst R),.e]) (dS (aP (af (aP rfl rfl (jj w0)) (af (aP rfl rfl (jj w1)) rfl)) rfl g01) rfl) ?_;refine ao (s:=[.v S,.o φ6,.v (.int n),.v (.lst (N.map D.str)),.v (sD s0),.v (sD s1),.o (.lst R),.o (.lst R)]) (dS (aP rfl rfl r01) rfl) ?_;refine ao (b7 (s:=[.v S,.o φ6,.v (.int n),.v (.lst (N.map D.str)),.v (sD s0),.v (sD s1),.o (.lst R),.o (.lst R)]) (jO (aG (bp rfl rfl (gE dp0) rfl) rfl)) rfl) ?_;refine ao (s:=[.v S,.o φ6,.v (.int n),.v (.lst (N.map D.str)),.v (sD s0),.v (sD s1),.o (.lst R),.o (.lst (R++[D.non]))]) (bE (dU rfl rfl rfl rfl rfl rfl rfl (cO (by lia)))) ?_
   refine ao (s:=[.v S,.o φ6,.v (.int n),.v (.lst (N.map D.str)),.v (sD s0),.v (sD s1),.o (.lst R),.o (.lst ((R++[D.non]).set 0 .non))]) (p9 rfl rfl rfl rfl rfl rfl rfl rfl pt) ?_;refine ao (b7 (s:=[.v S,.o φ6,.v (.int n),.v (.lst (N.map D.str)),.v (sD s0),.v (sD s1),.o (.lst R),.o (.lst ((R++[D.non]).set 0 .non))]) (jO (aG (bp (af (aP rfl rfl r10) (af (aP (af (aP rfl rfl (jj w1)) (af (aP rfl rfl (jj w0)) rfl)) rfl g10) rfl)) rfl (gE dp1) rfl) rfl)) rfl) ?_;refine aQ (iw (s:=[.v S,.o φ6,.v (.int n),.v (.lst (N.map D.str)),.v (sD s0),.v (sD s1),.o (.lst R),.o (.lst ((R++[D.non]).set 0 .non))]) (bp (af (aP rfl rfl r01) rfl) rfl (gE dp0) rfl) rfl ?_);exact bp (af (aP rfl rfl r00) (af (fq rfl rfl (by show 0<=1000000;decide)) rfl)) rfl (gE (.lst (by show 0<=1000000;decide) fun d hd=>by cases hd)) rfl
 obtain⟨A,B,C,R,eF,eA,eB,⟨k,φ3,eC,k1,f3⟩,hR⟩:=sp;obtain⟨s,eR⟩:=hR k φ3 k1 f3;refine aS (o:=.rt (.d (.bl true)) s) rfl ?_ rfl;rw[eF];exact ao eA (ao eB (ao eC eR))
end
end K33
namespace K33
open PySem L2 VF VF22
local macro_rules|`(tactic| walk_at "r")=>`(tactic| repeat' first|(with_reducible first|refine xK ?_ ?_|exact LG _|exact LL|refine Kf ?_ ?_ ?_|exact LH _|refine EQ ?_ ?_|refine Kk ?_ ?_|exact NY|refine ET ?_|refine ES ?_|refine EL ?_|refine sv ?_|refine Km ?_ ?_ ?_|refine xL ?_|exact Il|exact Mp|refine Fz ?_|refine EM ?_|refine Kl ?_|refine NP ?_ ?_|exact ro_addA|refine xO ?_|refine uw ?_|exact ro_eqA|refine Kh ?_|refine oN ?_ (cQ _) (by decide) ?_ ?_|exact re|exact zN|exact LI _|exact zO|exact wc fun _ _=>.ty _|exact LK|exact Gn|refine sA ?_ (cQ _) ?_|refine uB ?_|refine uC ?_ ?_ ?_ ?_|exact Mb|refine xG ?_|exact xV|refine xI ?_ ?_|refine xH ?_ ?_|refine EK ?_ ?_|exact NN _|refine EX ?_ ?_ ?_|exact ro_neA|exact LU|refine xM ?_|exact Mu|exact Fn|exact IF|exact zK|exact zT|exact Iz|refine Kj ?_ ?_ ?_|exact rf|refine oN ?_ (m6 (df (cQ _) (df (cQ _) kC))) (by decide) ?_ ?_|exact Fx|exact LT|exact LS|exact LJ|exact ro_inA|exact Mf|exact LW|refine Kg ?_ ?_|exact Mv|exact Mx|exact NV|exact uE|exact FU|refine FD (fun _ _=>El.one (.bl _)) ?_|exact NU|refine Ks ?_ ?_ ?_|exact FP|refine F4 ?_|exact ro_notinA|exact Iy|refine ux _ ?_ ?_|refine FB ?_|exact L7|refine sA ?_ (m6 (df (cQ _) (df (cQ _) kC))) ?_|exact wc fun _ _=>.int _|refine uv ?_ ?_ ?_ ?_ ?_|exact wc fun _ _=>.str _|exact rb|refine xJ ?_|exact Gs|exact zY|refine uZ ?_ ?_ ?_|exact DJ|exact IR|refine u4 ?_|exact MP|refine Gy ?_|exact NW|exact LV|exact xR|refine EV ?_ (m6 (df (cQ _) (df (cQ _) kC))))|walk_at "s")
local macro_rules|`(tactic| walk_at "s")=>`(tactic| first|refine NP ?_ ?_|refine oN ?_ (cQ _) (by decide) ?_ ?_|exact re|refine sA ?_ (cQ _) ?_|refine uC ?_ ?_ ?_ ?_|exact Fn|exact rf|refine oN ?_ (m6 (df (cQ _) (df (cQ _) kC))) (by decide) ?_ ?_|exact uE|refine Ks ?_ ?_ ?_|refine ux _ ?_ ?_|refine FB ?_|refine sA ?_ (m6 (df (cQ _) (df (cQ _) kC))) ?_|exact rb|refine Gy ?_|exact xR|refine xK ?_ ?_|refine Kf ?_ ?_ ?_|refine EQ ?_ ?_|refine Kk ?_ ?_|refine ET ?_|refine ES ?_|refine EL ?_|refine sv ?_|refine Km ?_ ?_ ?_|refine xL ?_|refine Fz ?_|refine EM ?_|refine Kl ?_|refine xO ?_|refine uw ?_|refine Kh ?_|refine uB ?_|refine xG ?_|refine xI ?_ ?_|refine xH ?_ ?_|refine EK ?_ ?_|refine EX ?_ ?_ ?_|refine xM ?_|refine Kj ?_ ?_ ?_|refine Kg ?_ ?_|refine FD (fun _ _=>El.one (.bl _)) ?_|refine F4 ?_|refine uv ?_ ?_ ?_ ?_ ?_|refine xJ ?_|refine uZ ?_ ?_ ?_|refine u4 ?_|refine EV ?_ (m6 (df (cQ _) (df (cQ _) kC))))
section
variable (P:Program)(w:World)(K:Ab)(mg:Str->Option Value)(base:Heap)
abbrev rO:=Cal P w K mg base "is_name" 1 nl0 (spV K kH)
abbrev ii:=Cal P w K mg base "is_turned" 1 nl1 (spV K dE)
abbrev kP:=Cal P w K mg base "name_of" 2 nl1 (spV K iO)
abbrev qk:=Cal P w K mg base "mirrored" 3 nl1 (spV K lF)
abbrev ql:=Cal P w K mg base "beads_in" 1 nl0 (spV K lH)
abbrev qm:=Cal P w K mg base "names_in" 3 nl0 (spV K lK)
abbrev qo:=Cal P w K mg base "is_whole" 1 nl0 (spV K pR)
abbrev kn:=Cal P w K mg base "refuse_lacks" 4 nl8 (spV K gK)
abbrev jA:=Cal P w K mg base "left_end" 3 nl1 (spV K eG)
abbrev kr:=Cal P w K mg base "right_end" 4 nl1 (spV K eN)
abbrev ml:=Cal P w K mg base "joint_of" 1 ["ends"] (spV K fz)
abbrev mS:=Cal P w K mg base "rising" 1 nl8 (spV K dX)
abbrev vF:=Cal P w K mg base "is_end" 2 nl0 (spV K pV)
abbrev qp:=Cal P w K mg base "is_joint" 3 nl0 (spV K jn)
abbrev ku:=Cal P w K mg base "inner_joints" 5 ["beads"] (spV K eW)
abbrev jC:=Cal P w K mg base "strand_joints" 6 ["strand"] (spV K d7)
abbrev kw:=Cal P w K mg base "joints_of" 7 ["some"] (spV K fR)
abbrev rP:=Cal P w K mg base "is_half" 4 nl0 (spV K gu)
abbrev y9:=Cal P w K mg base "sizes" 1 nl4 (spV K kJ)
abbrev rQ:=Cal P w K mg base "ends_of" 1 nl4 (spV K gw)
abbrev rR:=Cal P w K mg base "is_deed" 5 nl0 (spV K nG)
abbrev HP:=Cal P w K mg base "back" 6 ["deed"] (spV K wC)
abbrev vG:=Cal P w K mg base "cut_of" 1 nl2 (spV K mH)
abbrev qq:=Cal P w K mg base "pairs_in" 1 nl4 (spV K lQ)
abbrev kx:=Cal P w K mg base "pairs_lacked" 2 nl6 (spV K eX)
abbrev lc:=Cal P w K mg base "pairs_apart" 3 nl6 (spV K iz)
abbrev iT:=Cal P w K mg base "cuts_and_joins" 8 nl5 (spV K fE)
abbrev mT:=Cal P w K mg base "firsts_one" 9 nl5 (spV K cZ)
abbrev qt:=Cal P w K mg base "_law_flow" 1 nl9 (spV K lS)
abbrev cE:=Cal P w K mg base "_law_pick" 1 nl7 (jK K aB)
abbrev iG:=Cal P w K mg base "_law_letters" 2 nl7 (jK K dY)
abbrev qu:=Cal P w K mg base "_law_name" 3 ["_law_flow_here","_law_stem"] (jK K lV)
abbrev n8:=Cal P w K mg base "_law_names" 4 nl7 (jK K jX)
abbrev gZ:=Cal P w K mg base "_law_shuffled" 2 ["_law_flow_here","_law_things"] (jK K cR)
abbrev g6:=Cal P w K mg base "_law_mirrored" 1 nl3 (spV K bH)
abbrev qv:=Cal P w K mg base "_law_line" 3 GL (jK K gQ)
abbrev nW:=CalD P w K mg base "_law_set" 4 OK [.bl true] (jK K kL)
abbrev qw:=CalD P w K mg base "_law_near" 2 OL [.bl true] (jK K lX)
abbrev n9:=Cal P w K mg base "_law_alike" 8 DO (spV K (d9 8))
abbrev qx:=Cal P w K mg base "_law_ends" 1 nl3 (spV K gR)
abbrev mU:=Cal P w K mg base "_law_joints" 2 ["_law_some"] (spV K db)
abbrev mV:=Cal P w K mg base "_law_behind" 1 GN (spV K gi)
abbrev og:=Cal P w K mg base "_law_three" 1 ["_law_one","_law_other_here"] (spV K j7)
abbrev oh:=Cal P w K mg base "_law_deeds" 2 ["_law_joints_here"] (spV K j9)
abbrev ky:=Cal P w K mg base "_law_restated" 3 ["_law_flow_here","_law_some"] (jK K gS)
abbrev oi:=Cal P w K mg base "_law_apart" 1 DP (spV K fS)
abbrev oj:=Cal P w K mg base "_law_other" 5 Jf (jK K kf)
abbrev kz:=Cal P w K mg base "_law_many_due" 1 DP (spV K gW)
abbrev rS:=Cal P w K mg base "_law_due" 3 DP (spV K gx)
end
section
variable {P:Program}{w:World}{K:Ab}{mg:Str->Option Value}{base:Heap}
def wX(M:Md K mg):Bd' P w K mg base "is_name" oS nl0 0 nq:=fun hr=>⟨_,(ag (bO (PW.pt (kT (fV (cL (cx K M.n_isinstance (pv 0) (eM rfl M.n_str kB)))) (jE (fV (Er JV JV ah (aZ K M.n_len (pv 0)) (Ie rfl M.c_LONGEST_NAME)))))) (aj (aI mn)) aX)
   (aj (aI (be (gA rfl) rfl M.n_all boot_all (ai (cn (cg (osc:=(ak oS)) (ON:=nl0) (N:=["letter"]) (k:=1) (caps:=[]) (by decide +kernel) rfl rfl) rfl (bN (K:=K) rfl (pv 0)) (fun _ _ _ _=>(br 0 (by show(["letter"]:List Str).Nodup;decide +kernel))) (fun _ _ _ _=>cy) (fun _ _ _ _=>(mr (sE (K:=K) rfl) (pv 0) (Id rfl M.c_LETTERS) (by with_unfolding_all rfl)))) ac))))),by delta nq;delta n6;walk_at "r"⟩
def tQ(M:Md K mg):Bd' P w K mg base "is_turned" nI nl1 0 jS:=fun hr=>⟨_,(aj (aI (kW Dt PySem.F.slot_str_startswith PySem.F.type_str_startswith qC (pv 0) (ai cK ac)))),by delta jS;walk_at "r"⟩
def wY(M:Md K mg)(c1:ii P w K mg base):Bd' P w K mg base "name_of" sU nl1 1 nr:=fun hr=>⟨_,(aj (aI (mq (cL (az c1 hr rfl (ai (pv 0) ac))) (cN (fX (K:=K) rfl) (pv 0) (cT ah) dG) (pv 0)))),by delta nr;walk_at "r"⟩
def vH(M:Md K mg)(c1:ii P w K mg base)(c2:kP P w K mg base):Bd' P w K mg base "mirrored" nJ nl1 2 lD:=fun hr=>⟨_,(aj (aI (mq (cL (az c1 hr rfl (ai (pv 0) ac))) (az c2 hr rfl (ai (pv 0) ac)) (bG K cK (pv 0))))),by delta lD;walk_at "r"⟩
def vI(M:Md K mg):Bd' P w K mg base "beads_in" pY ["thing","beads","part"] 0 lG:=fun hr=>⟨_,(ag (aT 1 sc_sbeadsin.nd (bM ac))
   (ag (dj An rfl (bN (K:=K) rfl (pv 0)) (br 2 sc_sbeadsin.nd) (aj (bO (cL (cx K M.n_isinstance (pv 2) (eM rfl M.n_str kB))) (aj (bK (cc (pv 1) (pv 2)))) (aj (bK (kW Au A8 A7 (i9 (K:=K) rfl rfl) (pv 1) (ai (aE K (pv 2) ah) ac)))))))
   (aj (aI (pv 1))))),by delta lG;delta jl;walk_at "r"⟩
def vJ(M:Md K mg)(c2:kP P w K mg base)(c4:ql P w K mg base):Bd' P w K mg base "names_in" mI nl0 2 lI:=fun hr=>⟨_,(aj (aI (be (bD (K:=K) rfl hr) rfl M.n_sorted boot_sorted (ai (cn (cg (osc:=(ak mI)) (ON:=nl0) (N:=nl1) (k:=1) (caps:=[]) (by decide +kernel) rfl rfl) rfl (bN (K:=K) rfl (az c4 hr rfl (ai (pv 0) ac))) (fun _ _ _ _=>(br 0 (by show(nl1:List Str).Nodup;decide +kernel))) (fun _ _ _ _=>cy) (fun _ _ _ _=>(az c2 hr rfl (ai (pv 0) ac)))) ac)))),by delta lI;delta gc;walk_at "r"⟩
def vK(M:Md K mg):Bd' P w K mg base "is_whole" pZ nl0 0 lL:=fun hr=>⟨_,(aj (aI (gz (cx K M.n_isinstance (pv 0) (eM rfl M.n_int mZ)) (ij (K1 (cx K M.n_isinstance (pv 0) (eM rfl M.n_bool gB))))))),by delta lL;walk_at "r"⟩
def oC(M:Md K mg)(c5:qm P w K mg base):Bd' P w K mg base "refuse_lacks" gj MV 3 gJ:=fun hr=>⟨_,(ag (aT 1 sc_srefuselacks.nd Ew)
   (ag (dj An rfl (bN (K:=K) rfl (pv 0)) (br 2 sc_srefuselacks.nd) (aj (dj An rfl (bN (K:=K) rfl (az c5 hr rfl (ai (pv 2) ac))) (br 3 sc_srefuselacks.nd) (aj (ik (bG K (Ey (EF hr) (pv 1) (pv 3) ah ⟨rfl,rfl,rfl,rfl⟩) ah) (jF (pv 1) (pv 3) (zZ (EF hr))))))))
   (ag (mY 4 (cg (osc:=(ak gj)) (ON:=MV) (N:=["name","count","things"]) (k:=1) (caps:=[1,0]) (by decide +kernel) rfl rfl) rfl sc_srefuselacks.nd (bN (K:=K) rfl (be (u3 (K:=K) rfl rfl hr) rfl M.n_sorted boot_sorted (ai (pv 1) ac))) (fun _ _ _ _=>(br 0 (by show(["name","count","things"]:List Str).Nodup;decide +kernel))) (fun _ _ _ _=>iX (aO wm (Gu (EF hr) (pv 1) (pv 0) (fun _ _=>rfl)) (aZ K M.n_len (pv 2)))) (fun _ _ _ _=>(pv 0)))
   (aj (bO (I8 (K:=K) rfl (pv 4)) (aj t9) aX))))),by delta gJ;delta dO;delta dN;delta dM;delta dL;walk_at "r"⟩
def vL(M:Md K mg)(c1:ii P w K mg base)(c2:kP P w K mg base):Bd' P w K mg base "left_end" p6 nl1 2 lM:=fun hr=>⟨_,(aj (aI (aM (ai (az c2 hr rfl (ai (pv 0) ac)) (ai (mq (cL (az c1 hr rfl (ai (pv 0) ac))) ah ah) ac))))),by delta lM;walk_at "r"⟩
def tR(M:Md K mg)(c3:qk P w K mg base)(c8:jA P w K mg base):Bd' P w K mg base "right_end" nK nl1 3 jU:=fun hr=>⟨_,(aj (aI (az c8 hr rfl (ai (az c3 hr rfl (ai (pv 0) ac)) ac)))),by delta jU;walk_at "r"⟩
def vM(M:Md K mg):Bd' P w K mg base "joint_of" p7 ["ends"] 0 lN:=fun hr=>⟨_,(aj (aI (b9 K M.n_tuple (be (bD (K:=K) rfl hr) rfl M.n_sorted boot_sorted (ai (pv 0) ac))))),by delta lN;walk_at "r"⟩
def D8(M:Md K mg):Bd' P w K mg base "rising" oU nl8 0 pS:=fun hr=>⟨_,(aj (aI (be (gA rfl) rfl M.n_all boot_all (ai (cn (cg (osc:=(ak oU)) (ON:=nl8) (N:=nl5) (k:=2) (caps:=[]) (by decide +kernel) rfl rfl) rfl (F5 (K:=K) rfl rfl rfl rfl M.n_zip (pv 0) (cN (fX (K:=K) rfl) (pv 0) (cT ah) dG)) (fun _ _ _ _=>(ja (K:=K) (n:=2) rfl rfl (cM (br 0 (by show(nl5:List Str).Nodup;decide +kernel)) (cM (br 1 (by show(nl5:List Str).Nodup;decide +kernel)) iU)))) (fun _ _ _ _=>cy) (fun _ _ _ _=>(jg (MQ (K:=K) rfl hr.units) (pv 0) (pv 1)))) ac)))),by delta pS;delta jm;walk_at "r"⟩
def D9(M:Md K mg)(c0:rO P w K mg base)(c6:qo P w K mg base):Bd' P w K mg base "is_end" wD nl0 1 pU:=fun hr=>⟨_,(ag (bO (PW.pt (kT (fV (cL (cx K M.n_isinstance (pv 0) (eM rfl M.n_tuple dw)))) (kT (aO (i7 (K:=K) rfl hr.units) (aZ K M.n_len (pv 0)) ah) (jE (fV (cL (az c0 hr rfl (ai (aE K (pv 0) ah) ac)))))))) (aj (aI mn)) aX)
   (aj (aI (gz (az c6 hr rfl (ai (aE K (pv 0) ah) ac)) (ij (mr (sE (K:=K) rfl) (aE K (pv 0) ah) (aM (ai ah (ai ah ac))) (by with_unfolding_all rfl))))))),by delta pU;walk_at "r"⟩
def vN(M:Md K mg)(c11:mS P w K mg base)(c12:vF P w K mg base):Bd' P w K mg base "is_joint" mJ nl0 2 lO:=fun hr=>⟨_,(ag (bO (PW.pt (kT (fV (cL (cx K M.n_isinstance (pv 0) (eM rfl M.n_tuple dw)))) (jE (eP (ng (K:=K) rfl) (aZ K M.n_len (pv 0)) (aM (ai ah (ai ah ac))) (by with_unfolding_all rfl))))) (aj (aI mn)) aX)
   (aj (aI (gz (be (gA rfl) rfl M.n_all boot_all (ai (cn (cg (osc:=(ak mJ)) (ON:=nl0) (N:=["end"]) (k:=1) (caps:=[]) (by decide +kernel) rfl rfl) rfl (bN (K:=K) rfl (pv 0)) (fun _ _ _ _=>(br 0 (by show(["end"]:List Str).Nodup;decide +kernel))) (fun _ _ _ _=>cy) (fun _ _ _ _=>(az c12 hr rfl (ai (pv 0) ac)))) ac)) (ij (az c11 hr rfl (ai (pv 0) ac))))))),by delta lO;delta gf;walk_at "r"⟩
def oD(M:Md K mg)(c8:jA P w K mg base)(c9:kr P w K mg base)(c10:ml P w K mg base):Bd' P w K mg base "inner_joints" gk ["beads"] 4 gL:=fun hr=>⟨_,(aj (aI (cn (cg (osc:=(ak gk)) (ON:=["beads"]) (N:=nl5) (k:=2) (caps:=[]) (by decide +kernel) rfl rfl) rfl (F5 (K:=K) rfl rfl rfl rfl M.n_zip (pv 0) (cN (fX (K:=K) rfl) (pv 0) (cT ah) dG)) (fun _ _ _ _=>(ja (K:=K) (n:=2) rfl rfl (cM (br 0 (by show(nl5:List Str).Nodup;decide +kernel)) (cM (br 1 (by show(nl5:List Str).Nodup;decide +kernel)) iU)))) (fun _ _ _ _=>cy) (fun _ _ _ _=>(az c10 hr rfl (ai (aM (ai (az c9 hr rfl (ai (pv 0) ac)) (ai (az c8 hr rfl (ai (pv 1) ac)) ac))) ac)))))),by delta gL;walk_at "r"⟩
def nX(M:Md K mg)(c8:jA P w K mg base)(c9:kr P w K mg base)(c10:ml P w K mg base)(c14:ku P w K mg base):Bd' P w K mg base "strand_joints" iD OE 5 fZ:=fun hr=>⟨_,(ag (aT 1 sc_sstrandjoints.nd (aE K (pv 0) ah))
   (ag (aT 2 sc_sstrandjoints.nd (az c8 hr rfl (ai (aE K (pv 1) ah) ac)))
   (ag (aT 3 sc_sstrandjoints.nd (az c9 hr rfl (ai (aE K (pv 1) (Eg v0 ah)) ac)))
   (ag (aT 4 sc_sstrandjoints.nd (mq (aO dr (aE K (pv 0) ah) cK) (bM (ai (aM (ai (pv 2) ac)) (ai (aM (ai (pv 3) ac)) ac))) (bM (ai (az c10 hr rfl (ai (aM (ai (pv 2) (ai (pv 3) ac))) ac)) ac))))
   (aj (aI (bG K (az c14 hr rfl (ai (pv 1) ac)) (pv 4)))))))),by delta fZ;walk_at "r"⟩
def tS(M:Md K mg)(c15:jC P w K mg base):Bd' P w K mg base "joints_of" nL ["some","joints","strand"] 6 jV:=fun hr=>⟨_,(ag (aT 1 sc_sjointsof.nd (bM ac))
   (ag (dj An rfl (bN (K:=K) rfl (pv 0)) (br 2 sc_sjointsof.nd) (aj (bK (kW Au A8 A7 (i9 (K:=K) rfl rfl) (pv 1) (ai (az c15 hr rfl (ai (pv 2) ac)) ac)))))
   (aj (aI (b9 K M.n_tuple (be (bD (K:=K) rfl hr) rfl M.n_sorted boot_sorted (ai (pv 1) ac))))))),by delta jV;walk_at "r"⟩
def wZ(M:Md K mg)(c11:mS P w K mg base)(c13:qp P w K mg base):Bd' P w K mg base "is_half" oV nl0 3 nC:=fun hr=>⟨_,(ag (bO (PW.pt (kT (fV (cL (cx K M.n_isinstance (pv 0) (eM rfl M.n_tuple dw)))) (jE (eP (ng (K:=K) rfl) (aZ K M.n_len (pv 0)) (aM (ai ah (ai ah ac))) (by with_unfolding_all rfl))))) (aj (aI mn)) aX)
   (aj (aI (gz (be (gA rfl) rfl M.n_all boot_all (ai (cn (cg (osc:=(ak oV)) (ON:=nl0) (N:=nl2) (k:=1) (caps:=[]) (by decide +kernel) rfl rfl) rfl (bN (K:=K) rfl (pv 0)) (fun _ _ _ _=>(br 0 (by show(nl2:List Str).Nodup;decide +kernel))) (fun _ _ _ _=>cy) (fun _ _ _ _=>(az c13 hr rfl (ai (pv 0) ac)))) ac)) (ij (az c11 hr rfl (ai (pv 0) ac))))))),by delta nC;delta ia;walk_at "r"⟩
def HQ(M:Md K mg):Bd' P w K mg base "sizes" sV nl4 0 sT:=fun hr=>⟨_,(aj (aI (b9 K M.n_tuple (be (bD (K:=K) rfl hr) rfl M.n_sorted boot_sorted (ai (cn (cg (osc:=(ak sV)) (ON:=nl4) (N:=nl2) (k:=1) (caps:=[]) (by decide +kernel) rfl rfl) rfl (bN (K:=K) rfl (pv 0)) (fun _ _ _ _=>(br 0 (by show(nl2:List Str).Nodup;decide +kernel))) (fun _ _ _ _=>cy) (fun _ _ _ _=>(aZ K M.n_len (pv 0)))) ac))))),by delta sT;delta kI;walk_at "r"⟩
def w5(M:Md K mg):Bd' P w K mg base "ends_of" sW ["joints","ends","joint"] 0 nE:=fun hr=>⟨_,(ag (aT 1 sc_sendsof.nd (bM ac))
   (ag (dj An rfl (bN (K:=K) rfl (pv 0)) (br 2 sc_sendsof.nd) (aj (bK (kW Au A8 A7 (i9 (K:=K) rfl rfl) (pv 1) (ai (pv 2) ac)))))
   (aj (aI (be (bD (K:=K) rfl hr) rfl M.n_sorted boot_sorted (ai (pv 1) ac)))))),by delta nE;delta jW;walk_at "r"⟩
def w6(M:Md K mg)(c11:mS P w K mg base)(c17:rP P w K mg base)(c18:y9 P w K mg base)(c19:rQ P w K mg base):Bd' P w K mg base "is_deed" oW MW 4 nF:=fun hr=>⟨_,(ag (bO (PW.pt (kT (fV (cL (cx K M.n_isinstance (pv 0) (eM rfl M.n_tuple dw)))) (kT (aO (wu (K:=K) rfl hr.units) (aZ K M.n_len (pv 0)) ah) (jE (fV (cL (be (gA rfl) rfl M.n_all boot_all (ai (cn (cg (osc:=(ak oW)) (ON:=MW) (N:=["half"]) (k:=1) (caps:=[]) (by decide +kernel) rfl rfl) rfl (bN (K:=K) rfl (pv 0)) (fun _ _ _ _=>(br 0 (by show(["half"]:List Str).Nodup;decide +kernel))) (fun _ _ _ _=>cy) (fun _ _ _ _=>(az c17 hr rfl (ai (pv 0) ac)))) ac)))))))) (aj (aI mn)) aX)
   (ag (aT 1 sc_sisdeed.nd (aE K (pv 0) ah))
   (ag (aT 2 sc_sisdeed.nd (aE K (pv 0) ah))
   (ag (aT 3 sc_sisdeed.nd (az c19 hr rfl (ai (pv 1) ac)))
   (ag (bO (PW.pt (kT (fV (cL (az c11 hr rfl (ai (pv 3) ac)))) (jE (aO (wu (K:=K) rfl hr.units) (pv 3) (az c19 hr rfl (ai (pv 2) ac)))))) (aj (aI mn)) aX)
   (aj (aI (gz (mr (MR (K:=K) rfl hr.units) (aM (ai (az c18 hr rfl (ai (pv 1) ac)) (ai (az c18 hr rfl (ai (pv 2) ac)) ac))) (OB rfl M.c_FORMS) (by with_unfolding_all rfl)) (ij (jg (wu (K:=K) rfl hr.units) (pv 1) (pv 2))))))))))),by delta nF;delta ib;walk_at "r"⟩
def JN(M:Md K mg)(c20:rR P w K mg base):Bd' P w K mg base "back" GO ["deed"] 5 wB:=fun hr=>⟨_,(ag (bO (fV (cL (az c20 hr rfl (ai (pv 0) ac)))) (aj t9) aX)
   (aj (aI (aM (ai (aE K (pv 0) ah) (ai (aE K (pv 0) ah) ac)))))),by delta wB;walk_at "r"⟩
def Ea(M:Md K mg):Bd' P w K mg base "cut_of" wE nl2 0 pW:=fun hr=>⟨_,(aj (aI (aM (ai (aM (ai (pv 0) ac)) (ai (aM (ai (aM (ai (aE K (pv 0) ah) ac)) (ai (aM (ai (aE K (pv 0) ah) ac)) ac))) ac))))),by delta pW;walk_at "r"⟩
def vO(M:Md K mg):Bd' P w K mg base "pairs_in" mK nl4 0 lP:=fun hr=>⟨_,(aj (aI (cn (cg (osc:=(ak mK)) (ON:=nl4) (N:=nl2) (k:=1) (caps:=[]) (by decide +kernel) rfl rfl) rfl (bN (K:=K) rfl (pv 0)) (fun _ _ _ _=>(br 0 (by show(nl2:List Str).Nodup;decide +kernel))) (fun _ _ _ _=>iX (aO dr (aZ K M.n_len (pv 0)) ah)) (fun _ _ _ _=>(pv 0))))),by delta lP;delta jr;delta jq;walk_at "r"⟩
def oE(M:Md K mg)(c23:qq P w K mg base):Bd' P w K mg base "pairs_lacked" gm nl6 1 gM:=fun hr=>⟨_,(aj (aI (cn (cg (osc:=(ak gm)) (ON:=nl6) (N:=["joint","theirs"]) (k:=1) (caps:=[1]) (by decide +kernel) rfl rfl) rfl (bN (K:=K) rfl (az c23 hr rfl (ai (pv 0) ac))) (fun _ _ _ _=>(br 0 (by show(["joint","theirs"]:List Str).Nodup;decide +kernel))) (fun _ _ _ _=>iX (eP (iM (K:=K) rfl hr.units) (pv 0) (pv 1) (by with_unfolding_all rfl))) (fun _ _ _ _=>(pv 0))))),by delta gM;delta fB;delta fA;walk_at "r"⟩
def qy(M:Md K mg)(c24:kx P w K mg base):Bd' P w K mg base "pairs_apart" kh nl6 2 iy:=fun hr=>⟨_,(aj (aI (aM (ai (az c24 hr rfl (ai (pv 0) (ai (pv 1) ac))) (ai (az c24 hr rfl (ai (pv 1) (ai (pv 0) ac))) ac))))),by delta iy;walk_at "r"⟩
def mW(M:Md K mg)(c7:kn P w K mg base)(c16:kw P w K mg base)(c21:HP P w K mg base)(c22:vG P w K mg base)(c25:lc P w K mg base):Bd' P w K mg base "cuts_and_joins" d6 Jd 7 fD:=fun hr=>⟨_,(ag (bK (az c7 hr rfl (ai (bM (ai (pv 0) (ai (pv 1) ac))) ac)))
   (ag (aT 2 sc_scutsandjoins.nd (az c25 hr rfl (ai (az c16 hr rfl (ai (pv 0) ac)) (ai (az c16 hr rfl (ai (pv 1) ac)) ac))))
   (ag (mY 3 (cg (osc:=(ak d6)) (ON:=Jd) (N:=nl2) (k:=1) (caps:=[]) (by decide +kernel) rfl rfl) rfl sc_scutsandjoins.nd (bN (K:=K) rfl (aE K (pv 2) ah)) (fun _ _ _ _=>(br 0 (by show(nl2:List Str).Nodup;decide +kernel))) (fun _ _ _ _=>cy) (fun _ _ _ _=>(az c22 hr rfl (ai (pv 0) ac))))
   (aj (aI (aM (ai (pv 3) (ai (cn (cg (osc:=(ak d6)) (ON:=Jd) (N:=nl2) (k:=1) (caps:=[]) (by decide +kernel) rfl rfl) rfl (bN (K:=K) rfl (aE K (pv 2) ah)) (fun _ _ _ _=>(br 0 (by show(nl2:List Str).Nodup;decide +kernel))) (fun _ _ _ _=>cy) (fun _ _ _ _=>(az c21 hr rfl (ai (az c22 hr rfl (ai (pv 0) ac)) ac)))) ac)))))))),by delta fD;delta cY;delta cX;walk_at "r"⟩
def qI(M:Md K mg)(c16:kw P w K mg base)(c26:iT P w K mg base):Bd' P w K mg base "firsts_one" jx MX 8 jt:=fun hr=>⟨_,(ag (aT 2 sc_sfirstsone.nd (az c26 hr rfl (ai (pv 0) (ai (pv 1) ac))))
   (ag (aT 3 sc_sfirstsone.nd (az c16 hr rfl (ai (pv 0) ac)))
   (ag (mY 4 (cg (osc:=(ak jx)) (ON:=MX) (N:=["join","ours"]) (k:=1) (caps:=[3]) (by decide +kernel) rfl rfl) rfl sc_sfirstsone.nd (bN (K:=K) rfl (aE K (pv 2) ah)) (fun _ _ _ _=>(br 0 (by show(["join","ours"]:List Str).Nodup;decide +kernel))) (fun _ _ _ _=>iX (cL (be (gA rfl) rfl M.n_all boot_all (ai (cn (MT (N:=["joint","ours"]) (k:=1) (caps:=[1]) (by decide +kernel)) rfl (bN (K:=K) rfl (aE K (pv 0) ah)) (fun _ _ _ _=>(br 0 (by show(["joint","ours"]:List Str).Nodup;decide +kernel))) (fun _ _ _ _=>cy) (fun _ _ _ _=>(mr (wv (K:=K) rfl hr.units) (pv 0) (pv 1) (by with_unfolding_all rfl)))) ac)))) (fun _ _ _ _=>(pv 0)))
   (aj (aI (be (bD (K:=K) rfl hr) rfl M.n_sorted boot_sorted (ai (cI (jb (K:=K) rfl) (aE K (pv 2) ah) (pv 4)) ac))))))),by delta jt;delta eZ;delta dF;delta eY;walk_at "r"⟩
def vP(M:Md K mg):Bd' P w K mg base "_law_flow" wF nl9 0 lR:=fun hr=>⟨_,(aj (aI (IV (uY (iI (i8 (K:=K) rfl rfl) rfl M.n_list fw (ai (pv 0) ac)) (uY ah (uY ah (uY ah (uY ah IU rfl) rfl) rfl) rfl) rfl)))),by delta lR;walk_at "r"⟩
def vQ(M:Md K mg):Bd' P w K mg base "_law_pick" wG OF 0 ju:=fun hr=>⟨_,(ag (bO (PW.pt (gy (aO dr (aE K (pv 0) ah) ah) (fH (aO wm (aE K (pv 0) ah) (aZ K M.n_len (aE K (pv 0) ah)))))) (ag (aT 2 sc_sLpick.nd (aE K (aE K (pv 0) ah) (aE K (pv 0) ah)))
   (ag (ik (bG K (aE K (pv 0) ah) ah) (jF (pv 0) ah set_list))
   (aj (bO (aO NE (pv 2) (cI K8 ah ah)) (aj (ik (pv 2) (jF (pv 0) ah set_list))) (aj (ik (cI jG (bG K (bG K (cI mE (aE K (pv 0) ah) ah) (cI jG (pv 2) ah)) ah) ah) (jF (pv 0) ah set_list))))))) aX)
   (ag (bO (aO Ej (aE K (pv 0) ah) ah) (ag (aT 3 sc_sLpick.nd (cI jG (aE K (pv 0) ah) (pv 1)))
   (ag (ik (cI oJ (aE K (pv 0) ah) (pv 1)) (jF (pv 0) ah set_list))
   (aj (aI (pv 3))))) aX)
   (ag (ik (bG K (aE K (pv 0) ah) ah) (jF (pv 0) ah set_list))
   (ag (ik (cI jG (bG K (bG K (cI mE (aE K (pv 0) ah) ah) ah) (aE K (pv 0) ah)) ah) (jF (pv 0) ah set_list))
   (aj (aI (cI jG (cI oJ (cI jG (cI mE (bG K (cI jG (aE K (pv 0) ah) ah) ah) (bG K (cI oJ (aE K (pv 0) ah) ah) ah)) ah) ah) (pv 1)))))))),by delta ju;walk_at "r"⟩
def qz(M:Md K mg)(c29:cE P w K mg base):Bd' P w K mg base "_law_letters" kM nl7 1 iA:=fun hr=>⟨_,(aj (aI (kW Dt PySem.F.slot_str_join PySem.F.type_str_join Ic cK (ai (cn (cg (osc:=(ak kM)) (ON:=nl7) (N:=["_law_k","_law_flow_here"]) (k:=1) (caps:=[0]) (by decide +kernel) rfl rfl) rfl (eJ rfl M.n_range (ai (pv 1) ac)) (fun _ _ _ _=>(br 0 (by show(["_law_k","_law_flow_here"]:List Str).Nodup;decide +kernel))) (fun _ _ _ _=>cy) (fun _ _ _ _=>(aE K cK (az c29 hr rfl (ai (pv 1) (ai ah ac)))))) ac)))),by delta iA;walk_at "r"⟩
def vR(M:Md K mg)(c29:cE P w K mg base)(c30:iG P w K mg base):Bd' P w K mg base "_law_name" wH OG 2 lU:=fun hr=>⟨_,(ag (bO (aO (i7 (K:=K) rfl hr.units) (pv 1) cK) (aj (aI (bG K (pv 1) (az c30 hr rfl (ai (pv 0) (ai (bG K ah (az c29 hr rfl (ai (pv 0) (ai ah ac)))) ac)))))) aX)
   (@ag _ _ _ _ _ (bO (aO dr (az c29 hr rfl (ai (pv 0) (ai ah ac))) ah) (@ag _ _ _ _ _ (@aT _ _ _ _ 2 _ _ sc_sLname.nd (@bM _ _ _ _ (@sr _ _ _ (by rfl))) (by rfl) (by first|exact Or.inl rfl|exact Or.inr rfl) (by first|exact .inl rfl|exact .inr rfl) (by rfl) (by rfl) (by rfl))
   (ag (aT 2 sc_sLname.nd (bG K (pv 2) (@bM _ _ _ _ (@sr _ _ _ (by rfl)))))
   (aj (aI (aE K (pv 2) (az c29 hr rfl (ai (pv 0) (ai ah ac)))))))) aX)
   (aj (aI (az c30 hr rfl (ai (pv 0) (ai (bG K ah (az c29 hr rfl (ai (pv 0) (ai ah ac)))) ac))))))),by delta lU;walk_at "r"⟩
def tT(M:Md K mg)(c29:cE P w K mg base)(c30:iG P w K mg base)(c31:qu P w K mg base):Bd' P w K mg base "_law_names" sX OH 3 ie:=fun hr=>⟨_,(ag (aT 2 sc_sLnames.nd cK)
   (ag (bO (aO dr (az c29 hr rfl (ai (pv 0) (ai ah ac))) ah) (aj (aT 2 sc_sLnames.nd (az c30 hr rfl (ai (pv 0) (ai (bG K ah (az c29 hr rfl (ai (pv 0) (ai ah ac)))) ac))))) aX)
   (ag (aT 3 sc_sLnames.nd (bM ac))
   (ag (dj An rfl (eJ rfl M.n_range (ai (pv 1) ac)) (br 4 sc_sLnames.nd) (ag (aT 5 sc_sLnames.nd (az c31 hr rfl (ai (pv 0) (ai (pv 2) ac))))
   (ag (aT 6 sc_sLnames.nd ah)
   (ag (ua An (eP (sE (K:=K) rfl) (pv 5) (pv 3) (by with_unfolding_all rfl)) (ag (aT 5 sc_sLnames.nd (cI mE (aE K cK (cI jG (pv 6) ah)) (bG K ah (cI oJ (pv 6) ah))))
   (aj (aT 6 sc_sLnames.nd (bG K (pv 6) ah)))))
   (aj (bK (cc (pv 3) (pv 5))))))))
   (aj (aI (pv 3))))))),by delta ie;walk_at "r"⟩
def oF(M:Md K mg)(c29:cE P w K mg base):Bd' P w K mg base "_law_shuffled" lZ OI 1 gO:=fun hr=>⟨_,(ag (aT 2 sc_sLshuffled.nd (iI (i8 (K:=K) rfl rfl) rfl M.n_list fw (ai (pv 1) ac)))
   (ag (aT 3 sc_sLshuffled.nd (bM ac))
   (ag (ua An (aO (i7 (K:=K) rfl hr.units) (pv 2) (bM ac)) (aj (bK (cc (pv 3) (kW Au B5 B4 pj (pv 2) (ai (az c29 hr rfl (ai (pv 0) (ai (aZ K M.n_len (pv 2)) ac))) ac))))))
   (aj (aI (pv 3)))))),by delta gO;walk_at "r"⟩
def oG(M:Md K mg):Bd' P w K mg base "_law_mirrored" ma nl3 0 gP:=fun hr=>⟨_,(ag (bO (aO dr (aE K (pv 0) ah) cK) (aj (aI (cN (fX (K:=K) rfl) (pv 0) (cT ah) dG))) aX)
   (aj (aI (bG K cK (pv 0))))),by delta gP;walk_at "r"⟩
def vS(M:Md K mg)(c29:cE P w K mg base)(c33:gZ P w K mg base):Bd' P w K mg base "_law_line" sY GL 2 lW:=fun hr=>⟨_,(aj (aI (b9 K M.n_tuple (cn (cg (osc:=(ak sY)) (ON:=GL) (N:=["_law_name_here","_law_flow_here"]) (k:=1) (caps:=[0]) (by decide +kernel) rfl rfl) rfl (bN (K:=K) rfl (az c33 hr rfl (ai (pv 0) (ai (pv 1) ac)))) (fun _ _ _ _=>(br 0 (by show(["_law_name_here","_law_flow_here"]:List Str).Nodup;decide +kernel))) (fun _ _ _ _=>cy) (fun _ _ _ _=>(bG K (cI mE cK (az c29 hr rfl (ai (pv 1) (ai ah ac)))) (pv 0))))))),by delta lW;walk_at "r"⟩
def w9(M:Md K mg)(c29:cE P w K mg base)(c35:qv P w K mg base):Bd' P w K mg base "_law_set" GP OJ 3 kK:=fun hr=>⟨_,(ag (aT 3 sc_sLset.nd (bM ac))
   (ag (aT 4 sc_sLset.nd (bM ac))
   (ag (dj An rfl (bN (K:=K) rfl (az c35 hr rfl (ai (pv 0) (ai (pv 1) ac)))) (br 5 sc_sLset.nd) (ag (bK (cc (pv 4) (pv 5)))
   (aj (bO (aO dr (az c29 hr rfl (ai (pv 0) (ai ah ac))) ah) (ag (bK (cc (pv 3) (aM (ai cK (ai (b9 K M.n_tuple (pv 4)) ac)))))
   (aj (aT 4 sc_sLset.nd (bM ac)))) (aj (bO (PW.pt (gy (cL (pv 2)) (fH (aO dr (az c29 hr rfl (ai (pv 0) (ai ah ac))) ah)))) (ag (bK (cc (pv 3) (aM (ai cK (ai (b9 K M.n_tuple (pv 4)) ac)))))
   (aj (aT 4 sc_sLset.nd (bM ac)))) aX))))))
   (ag (bO (aO (i7 (K:=K) rfl hr.units) (pv 4) (bM ac)) (aj (bK (cc (pv 3) (aM (ai cK (ai (b9 K M.n_tuple (pv 4)) ac)))))) aX)
   (aj (aI (b9 K M.n_tuple (pv 3)))))))),by delta kK;walk_at "r"⟩
def vT(M:Md K mg)(c29:cE P w K mg base)(c34:g6 P w K mg base):Bd' P w K mg base "_law_near" nM GM 1 jv:=fun hr=>⟨_,(ag (mY 3 (cg (osc:=(ak nM)) (ON:=GM) (N:=DQ) (k:=2) (caps:=[]) (by decide +kernel) rfl rfl) rfl sc_sLnear.nd (bN (K:=K) rfl (pv 1)) (fun _ _ _ _=>(ja (K:=K) (n:=2) rfl rfl (cM (br 0 (by show(DQ:List Str).Nodup;decide +kernel)) (cM (br 1 (by show(DQ:List Str).Nodup;decide +kernel)) iU)))) (fun _ _ _ _=>cy) (fun _ _ _ _=>(aM (ai (pv 0) (ai (iI (i8 (K:=K) rfl rfl) rfl M.n_list fw (ai (pv 1) ac)) ac)))))
   (ag (dj An rfl (eJ rfl M.n_range (ai (az c29 hr rfl (ai (pv 0) (ai ah ac))) ac)) (br 4 sc_sLnear.nd) (aj (bO (aO (i7 (K:=K) rfl hr.units) (pv 3) (bM ac)) (ag (ik (kW Au B5 B4 pj (pv 3) (ai (az c29 hr rfl (ai (pv 0) (ai (aZ K M.n_len (pv 3)) ac))) ac)) (ja (K:=K) (n:=2) rfl rfl (cM (br 5 sc_sLnear.nd) (cM (br 6 sc_sLnear.nd) iU))))
   (ag (aT 7 sc_sLnear.nd (az c29 hr rfl (ai (pv 0) (ai ah ac))))
   (ag (aT 8 sc_sLnear.nd (az c29 hr rfl (ai (pv 0) (ai (aZ K M.n_len (pv 6)) ac))))
   (ag (aT 9 sc_sLnear.nd (bG K (bG K (pv 8) ah) (az c29 hr rfl (ai (pv 0) (ai (cI rX (aZ K M.n_len (pv 6)) (pv 8)) ac)))))
   (ag (bO (aO dr (pv 7) ah) (aj (aT 6 sc_sLnear.nd (bG K (bG K (cN (fX (K:=K) rfl) (pv 6) dG (cT (pv 8))) (cn (cg (osc:=(ak nM)) (ON:=GM) (N:=nl3) (k:=1) (caps:=[]) (by decide +kernel) rfl rfl) rfl (bN (K:=K) rfl (xY (K:=K) rfl (cN (fX (K:=K) rfl) (pv 6) (cT (pv 8)) (cT (pv 9))))) (fun _ _ _ _=>(br 0 (by show(nl3:List Str).Nodup;decide +kernel))) (fun _ _ _ _=>cy) (fun _ _ _ _=>(az c34 hr rfl (ai (pv 0) ac))))) (cN (fX (K:=K) rfl) (pv 6) (cT (pv 9)) dG)))) (aj (bO (PW.pt (gy (aO dr (pv 7) ah) (fH (aO Ej (pv 8) ah)))) (ag (bK (cc (pv 3) (aM (ai cK (ai (cN (fX (K:=K) rfl) (pv 6) dG (cT (pv 8))) ac)))))
   (ag (aT 6 sc_sLnear.nd (cN (fX (K:=K) rfl) (pv 6) (cT (pv 8)) dG))
   (aj (aT 5 sc_sLnear.nd cK)))) (aj (bO (PW.pt (gy (aO dr (pv 7) ah) (fH (aO (i7 (K:=K) rfl hr.units) (pv 3) (bM ac))))) (ag (aT 10 sc_sLnear.nd (kW Au B5 B4 pj (pv 3) (ai (az c29 hr rfl (ai (pv 0) (ai (aZ K M.n_len (pv 3)) ac))) ac)))
   (aj (aT 6 sc_sLnear.nd (bG K (pv 6) (aE K (pv 10) ah))))) (aj (bO (PW.pt (gy (aO dr (pv 7) ah) (fH (cL (pv 2))))) (aj (aT 5 sc_sLnear.nd (aE K (bM (ai cK (ai cK ac))) (az c29 hr rfl (ai (pv 0) (ai ah ac)))))) aX)))))))
   (aj (bK (cc (pv 3) (aM (ai (pv 5) (ai (pv 6) ac))))))))))) aX)))
   (aj (aI (b9 K M.n_tuple (cn (cg (osc:=(ak nM)) (ON:=GM) (N:=DQ) (k:=2) (caps:=[]) (by decide +kernel) rfl rfl) rfl (bN (K:=K) rfl (pv 3)) (fun _ _ _ _=>(ja (K:=K) (n:=2) rfl rfl (cM (br 0 (by show(DQ:List Str).Nodup;decide +kernel)) (cM (br 1 (by show(DQ:List Str).Nodup;decide +kernel)) iU)))) (fun _ _ _ _=>cy) (fun _ _ _ _=>(aM (ai (pv 0) (ai (b9 K M.n_tuple (pv 1)) ac)))))))))),by delta jv;walk_at "r"⟩
def tU{n:Nat}{gs:List D->Option Rz}(M:Md K mg)(c38:Cal P w K mg base "_law_alike" n DO (spV K gs)):Bd' P w K mg base "_law_alike" oX DO n (jY gs):=fun hr=>⟨_,(ag (bO (aO Ek (pv 1) rV) (aj (aI (jg Ek (pv 0) rV))) aX)
   (ag (bO (PW.pt (kT (cL (cx K M.n_isinstance (pv 1) (eM rfl M.n_bool gB))) (jE (cL (cx K M.n_isinstance (pv 0) (eM rfl M.n_bool gB)))))) (aj (aI (gz (cx K M.n_isinstance (pv 1) (eM rfl M.n_bool gB)) (gz (cx K M.n_isinstance (pv 0) (eM rfl M.n_bool gB)) (ij (jg dr (pv 0) (pv 1))))))) aX)
   (ag (bO (cL (cx K M.n_isinstance (pv 1) (eM rfl M.n_int mZ))) (aj (aI (gz (cx K M.n_isinstance (pv 0) (eM rfl M.n_int mZ)) (ij (jg dr (pv 0) (pv 1)))))) aX)
   (ag (bO (cL (cx K M.n_isinstance (pv 1) (eM rfl M.n_str kB))) (aj (aI (gz (cx K M.n_isinstance (pv 0) (eM rfl M.n_str kB)) (ij (jg dr (pv 0) (pv 1)))))) aX)
   (ag (bO (PW.pt (kT (aO (i7 (K:=K) rfl hr.units) (cx K M.n_isinstance (pv 1) (eM rfl M.n_tuple dw)) (cx K M.n_isinstance (pv 0) (eM rfl M.n_tuple dw))) (jE (aO (i7 (K:=K) rfl hr.units) (cx K M.n_isinstance (pv 1) (eM rfl M.n_list fw)) (cx K M.n_isinstance (pv 0) (eM rfl M.n_list fw)))))) (aj (aI mn)) aX)
   (aj (aI (gz (jg dr (aZ K M.n_len (pv 0)) (aZ K M.n_len (pv 1))) (ij (be (gA rfl) rfl M.n_all boot_all (ai (cn (cg (osc:=(ak oX)) (ON:=DO) (N:=OS) (k:=1) (caps:=[0,1]) (by decide +kernel) rfl rfl) rfl (eJ rfl M.n_range (ai (aZ K M.n_len (pv 1)) ac)) (fun _ _ _ _=>(br 0 (by show(OS:List Str).Nodup;decide +kernel))) (fun _ _ _ _=>cy) (fun _ _ _ _=>(az c38 hr rfl (ai (aE K (pv 1) (pv 0)) (ai (aE K (pv 2) (pv 0)) ac)) (Va _)))) ac))))))))))),by delta jY;walk_at "r"⟩
def vU(M:Md K mg):Bd' P w K mg base "_law_ends" wI nl3 0 lY:=fun hr=>⟨_,(ag (bO (aO dr (aE K (pv 0) ah) cK) (aj (aI (aM (ai (aM (ai (cN (fX (K:=K) rfl) (pv 0) (cT ah) dG) (ai ah ac))) (ai (aM (ai (cN (fX (K:=K) rfl) (pv 0) (cT ah) dG) (ai ah ac))) ac))))) aX)
   (aj (aI (aM (ai (aM (ai (pv 0) (ai ah ac))) (ai (aM (ai (pv 0) (ai ah ac))) ac)))))),by delta lY;walk_at "r"⟩
def qJ(M:Md K mg)(c39:qx P w K mg base):Bd' P w K mg base "_law_joints" mL MY 1 gh:=fun hr=>⟨_,(ag (aT 1 sc_sLjoints.nd (bM ac))
   (ag (dj An rfl (bN (K:=K) rfl (pv 0)) (ja (K:=K) (n:=2) rfl rfl (cM (br 2 sc_sLjoints.nd) (cM (br 3 sc_sLjoints.nd) iU))) (ag (mY 4 (cg (osc:=(ak mL)) (ON:=MY) (N:=nl3) (k:=1) (caps:=[]) (by decide +kernel) rfl rfl) rfl sc_sLjoints.nd (bN (K:=K) rfl (pv 3)) (fun _ _ _ _=>(br 0 (by show(nl3:List Str).Nodup;decide +kernel))) (fun _ _ _ _=>cy) (fun _ _ _ _=>(az c39 hr rfl (ai (pv 0) ac))))
   (ag (dj An rfl (eJ rfl M.n_range (ai (cI rX (aZ K M.n_len (pv 4)) ah) ac)) (br 5 sc_sLjoints.nd) (aj (bK (cc (pv 1) (b9 K M.n_tuple (be (bD (K:=K) rfl hr) rfl M.n_sorted boot_sorted (ai (bM (ai (aE K (aE K (pv 4) (pv 5)) ah) (ai (aE K (aE K (pv 4) (bG K (pv 5) ah)) ah) ac))) ac)))))))
   (aj (bO (aO dr (pv 2) cK) (aj (bK (cc (pv 1) (b9 K M.n_tuple (be (bD (K:=K) rfl hr) rfl M.n_sorted boot_sorted (ai (bM (ai (aE K (aE K (pv 4) (Eg v0 ah)) ah) (ai (aE K (aE K (pv 4) ah) ah) ac))) ac)))))) (ag (bK (cc (pv 1) (aM (ai (aE K (aE K (pv 4) ah) ah) ac))))
   (aj (bK (cc (pv 1) (aM (ai (aE K (aE K (pv 4) (Eg v0 ah)) ah) ac)))))))))))
   (aj (aI (b9 K M.n_tuple (be (bD (K:=K) rfl hr) rfl M.n_sorted boot_sorted (ai (pv 1) ac))))))),by delta gh;walk_at "r"⟩
def qK(M:Md K mg):Bd' P w K mg base "_law_behind" mM GN 0 jw:=fun hr=>⟨_,(aj (aI (b9 K M.n_tuple (be (bD (K:=K) rfl hr) rfl M.n_sorted boot_sorted (ai (cI (jb (K:=K) rfl) (cn (cg (osc:=(ak mM)) (ON:=GN) (N:=["_law_joint","_law_deed"]) (k:=1) (caps:=[1]) (by decide +kernel) rfl rfl) rfl (bN (K:=K) rfl (pv 0)) (fun _ _ _ _=>(br 0 (by show(["_law_joint","_law_deed"]:List Str).Nodup;decide +kernel))) (fun _ _ _ _=>iX (eP (iM (K:=K) rfl hr.units) (pv 0) (aE K (pv 1) ah) (by with_unfolding_all rfl))) (fun _ _ _ _=>(pv 0))) (iI (i8 (K:=K) rfl rfl) rfl M.n_list fw (ai (aE K (pv 1) ah) ac))) ac))))),by delta jw;delta fk;delta fj;walk_at "r"⟩
def tV(M:Md K mg):Bd' P w K mg base "_law_three" sZ OM 0 jZ:=fun hr=>⟨_,(ag (aT 2 sc_sLthree.nd (pv 0))
   (ag (aT 3 sc_sLthree.nd (pv 1))
   (ag (bO (aO dr (aZ K M.n_len (pv 0)) ah) (ag (aT 2 sc_sLthree.nd (pv 1))
   (aj (aT 3 sc_sLthree.nd (pv 0)))) aX)
   (ag (aT 4 sc_sLthree.nd (bM ac))
   (ag (dj An rfl (eJ rfl M.n_range (ai ah ac)) (br 5 sc_sLthree.nd) (ag (aT 6 sc_sLthree.nd (bM (ai (b9 K M.n_tuple (be (bD (K:=K) rfl hr) rfl M.n_sorted boot_sorted (ai (bM (ai (aE K (pv 2) (pv 5)) (ai (aE K (pv 3) ah) ac))) ac))) (ai (aM (ai (aE K (pv 2) (cI rX ah (pv 5))) ac)) ac))))
   (aj (bK (cc (pv 4) (aM (ai (aM (ai (pv 0) (ai (pv 1) ac))) (ai (b9 K M.n_tuple (be (bD (K:=K) rfl hr) rfl M.n_sorted boot_sorted (ai (pv 6) ac))) ac))))))))
   (aj (aI (pv 4)))))))),by delta jZ;delta fN;walk_at "r"⟩
def tW(M:Md K mg)(c43:og P w K mg base):Bd' P w K mg base "_law_deeds" tf OO 1 j8:=fun hr=>⟨_,(ag (aT 1 sc_sLdeeds.nd (bM ac))
   (ag (dj An rfl (eJ rfl M.n_range (ai (aZ K M.n_len (pv 0)) ac)) (br 2 sc_sLdeeds.nd) (ag (aT 3 sc_sLdeeds.nd (aE K (pv 0) (pv 2)))
   (ag (bO (aO (jQ (K:=K) rfl hr.units) (aZ K M.n_len (pv 3)) ah) (aj (bK (cc (pv 1) (aM (ai (aM (ai (pv 3) ac)) (ai (aM (ai (aM (ai (aE K (pv 3) ah) ac)) (ai (aM (ai (aE K (pv 3) ah) ac)) ac))) ac)))))) aX)
   (aj (dj An rfl (bN (K:=K) rfl (cN (sK (K:=K) rfl) (pv 0) (cT (cI (jb (K:=K) rfl) (pv 2) ah)) dG)) (br 4 sc_sLdeeds.nd) (aj (bO (aO (jQ (K:=K) rfl hr.units) (cI (jb (K:=K) rfl) (aZ K M.n_len (pv 3)) (aZ K M.n_len (pv 4))) ah) (aj (bK (cc (pv 1) (aM (ai (aM (ai (pv 3) (ai (pv 4) ac))) (ai (aM (ai (b9 K M.n_tuple (be (bD (K:=K) rfl hr) rfl M.n_sorted boot_sorted (ai (cI (jb (K:=K) rfl) (pv 3) (pv 4)) ac))) ac)) ac)))))) (aj (bO (aO (jQ (K:=K) rfl hr.units) (cI (jb (K:=K) rfl) (aZ K M.n_len (pv 3)) (aZ K M.n_len (pv 4))) ah) (aj (bK (kW Au A8 A7 (i9 (K:=K) rfl rfl) (pv 1) (ai (az c43 hr rfl (ai (pv 3) (ai (pv 4) ac))) ac)))) (aj (dj An rfl (eJ rfl M.n_range (ai ah ac)) (br 5 sc_sLdeeds.nd) (ag (aT 6 sc_sLdeeds.nd (bM (ai (b9 K M.n_tuple (be (bD (K:=K) rfl hr) rfl M.n_sorted boot_sorted (ai (bM (ai (aE K (pv 3) ah) (ai (aE K (pv 4) (pv 5)) ac))) ac))) (ai (b9 K M.n_tuple (be (bD (K:=K) rfl hr) rfl M.n_sorted boot_sorted (ai (bM (ai (aE K (pv 3) ah) (ai (aE K (pv 4) (cI rX ah (pv 5))) ac))) ac))) ac))))
   (aj (bK (cc (pv 1) (aM (ai (aM (ai (pv 3) (ai (pv 4) ac))) (ai (b9 K M.n_tuple (be (bD (K:=K) rfl hr) rfl M.n_sorted boot_sorted (ai (pv 6) ac))) ac))))))))))))))))))
   (aj (aI (be (bD (K:=K) rfl hr) rfl M.n_sorted boot_sorted (ai (pv 1) ac)))))),by delta j8;delta iC;delta dZ;delta iB;walk_at "r"⟩
def oH(M:Md K mg)(c29:cE P w K mg base)(c33:gZ P w K mg base)(c34:g6 P w K mg base):Bd' P w K mg base "_law_restated" jy MZ 2 fm:=fun hr=>⟨_,(ag (aT 2 sc_sLrestated.nd (bM ac))
   (ag (dj An rfl (bN (K:=K) rfl (az c33 hr rfl (ai (pv 0) (ai (pv 1) ac)))) (ja (K:=K) (n:=2) rfl rfl (cM (br 3 sc_sLrestated.nd) (cM (br 4 sc_sLrestated.nd) iU))) (ag (bO (aO dr (pv 3) cK) (ag (aT 5 sc_sLrestated.nd (az c29 hr rfl (ai (pv 0) (ai (aZ K M.n_len (pv 4)) ac))))
   (aj (aT 4 sc_sLrestated.nd (cI (jb (K:=K) rfl) (cN (sK (K:=K) rfl) (pv 4) (cT (pv 5)) dG) (cN (sK (K:=K) rfl) (pv 4) dG (cT (pv 5))))))) aX)
   (ag (bO (aO dr (az c29 hr rfl (ai (pv 0) (ai ah ac))) ah) (aj (aT 4 sc_sLrestated.nd (b9 K M.n_tuple (cn (cg (osc:=(ak jy)) (ON:=MZ) (N:=nl3) (k:=1) (caps:=[]) (by decide +kernel) rfl rfl) rfl (bN (K:=K) rfl (xY (K:=K) rfl (pv 4))) (fun _ _ _ _=>(br 0 (by show(nl3:List Str).Nodup;decide +kernel))) (fun _ _ _ _=>cy) (fun _ _ _ _=>(az c34 hr rfl (ai (pv 0) ac))))))) aX)
   (aj (bK (cc (pv 2) (aM (ai (pv 3) (ai (pv 4) ac)))))))))
   (aj (aI (b9 K M.n_tuple (pv 2)))))),by delta fm;walk_at "r"⟩
def tX(M:Md K mg):Bd' P w K mg base "_law_apart" mN Je 0 kc:=fun hr=>⟨_,(ag (mY 2 (cg (osc:=(ak mN)) (ON:=Je) (N:=["_law_joint","_law_theirs"]) (k:=1) (caps:=[1]) (by decide +kernel) rfl rfl) rfl sc_sLapart.nd (bN (K:=K) rfl (pv 0)) (fun _ _ _ _=>(br 0 (by show(["_law_joint","_law_theirs"]:List Str).Nodup;decide +kernel))) (fun _ _ _ _=>iX (PW.pt (gy (aO (jQ (K:=K) rfl hr.units) (aZ K M.n_len (pv 0)) ah) (fH (eP (iM (K:=K) rfl hr.units) (pv 0) (pv 1) (by with_unfolding_all rfl)))))) (fun _ _ _ _=>(pv 0)))
   (aj (aI (bG K (aZ K M.n_len (pv 2)) (aZ K M.n_len (cn (cg (osc:=(ak mN)) (ON:=Je) (N:=["_law_joint","_law_joints_here"]) (k:=1) (caps:=[0]) (by decide +kernel) rfl rfl) rfl (bN (K:=K) rfl (pv 1)) (fun _ _ _ _=>(br 0 (by show(["_law_joint","_law_joints_here"]:List Str).Nodup;decide +kernel))) (fun _ _ _ _=>iX (PW.pt (gy (aO (jQ (K:=K) rfl hr.units) (aZ K M.n_len (pv 0)) ah) (fH (eP (iM (K:=K) rfl hr.units) (pv 0) (pv 1) (by with_unfolding_all rfl)))))) (fun _ _ _ _=>(pv 0)))))))),by delta kc;delta kZ;delta kY;delta fP;delta fO;walk_at "r"⟩
def tY(M:Md K mg)(c29:cE P w K mg base)(c36:nW P w K mg base)(c37:qw P w K mg base)(c44:ky P w K mg base):Bd' P w K mg base "_law_other" tj Jf 4 ke:=fun hr=>⟨_,(ag (bO (aO dr (az c29 hr rfl (ai (pv 0) (ai ah ac))) ah) (aj (aI (su c36 hr rfl (ai (pv 0) (ai (pv 2) ac))))) aX)
   (aj (aI (az c44 hr rfl (ai (pv 0) (ai (su c37 hr rfl (ai (pv 0) (ai (pv 1) ac))) ac)))))),by delta ke;walk_at "r"⟩
def oI(M:Md K mg):Bd' P w K mg base "_law_many_due" nN OP 0 gU:=fun hr=>⟨_,(ag (aT 2 sc_sLmanydue.nd (bM ac))
   (ag (dj An rfl (bN (K:=K) rfl (pv 0)) (br 3 sc_sLmanydue.nd) (aj (bO (PW.pt (gy (aO (jQ (K:=K) rfl hr.units) (aZ K M.n_len (pv 3)) ah) (fH (eP (iM (K:=K) rfl hr.units) (pv 3) (pv 1) (by with_unfolding_all rfl))))) (aj (bK (cc (pv 2) (aM (ai (aM (ai (pv 3) ac)) (ai (aM (ai (aM (ai (aE K (pv 3) ah) ac)) (ai (aM (ai (aE K (pv 3) ah) ac)) ac))) ac)))))) aX)))
   (ag (dj An rfl (bN (K:=K) rfl (pv 1)) (br 3 sc_sLmanydue.nd) (aj (bO (PW.pt (gy (aO (jQ (K:=K) rfl hr.units) (aZ K M.n_len (pv 3)) ah) (gy (eP (wv (K:=K) rfl hr.units) (aM (ai (aE K (pv 3) ah) ac)) (pv 0) (by with_unfolding_all rfl)) (fH (eP (wv (K:=K) rfl hr.units) (aM (ai (aE K (pv 3) ah) ac)) (pv 0) (by with_unfolding_all rfl)))))) (aj (bK (cc (pv 2) (aM (ai (aM (ai (aM (ai (aE K (pv 3) ah) ac)) (ai (aM (ai (aE K (pv 3) ah) ac)) ac))) (ai (aM (ai (pv 3) ac)) ac)))))) aX)))
   (aj (aI (be (bD (K:=K) rfl hr) rfl M.n_sorted boot_sorted (ai (pv 2) ac))))))),by delta gU;delta dQ;delta dP;walk_at "r"⟩
def xf(M:Md K mg)(c41:mV P w K mg base)(c42:oh P w K mg base)(c45:oi P w K mg base)(c47:kz P w K mg base):Bd' P w K mg base "_law_due" GQ OQ 2 nH:=fun hr=>⟨_,(ag (aT 2 sc_sLdue.nd (bM ac))
   (ag (bO (aO Ej (aZ K M.n_len (pv 0)) ah) (aj (aI (az c47 hr rfl (ai (pv 0) (ai (pv 1) ac))))) aX)
   (ag (aT 3 sc_sLdue.nd (az c45 hr rfl (ai (pv 0) (ai (pv 1) ac))))
   (ag (dj An rfl (bN (K:=K) rfl (az c42 hr rfl (ai (pv 0) ac))) (br 4 sc_sLdue.nd) (aj (bO (PW.pt (gy (aO (jQ (K:=K) rfl hr.units) (bG K (aZ K M.n_len (aE K (pv 4) ah)) (aZ K M.n_len (aE K (pv 4) ah))) ah) (fH (aO wm (az c45 hr rfl (ai (az c41 hr rfl (ai (pv 0) (ai (pv 4) ac))) (ai (pv 1) ac))) (pv 3))))) (aj (bK (cc (pv 2) (pv 4)))) aX)))
   (aj (aI (pv 2))))))),by delta nH;delta kg;walk_at "r"⟩
def Nt(M:Md K mg)(c27:mT P w K mg base)(c28:qt P w K mg base)(c29:cE P w K mg base)(c32:n8 P w K mg base)(c36:nW P w K mg base)(c38:n9 P w K mg base)(c40:mU P w K mg base)(c46:oj P w K mg base)(c48:rS P w K mg base):Bd' P w K mg base "law" M1 OR 9 yD:=fun hr=>⟨_,(ag (aT 1 sc_slaw.nd (az c28 hr rfl (ai (pv 0) ac)))
   (ag (aT 2 sc_slaw.nd (az c29 hr rfl (ai (pv 1) (ai ah ac))))
   (ag (bO (aO dr (az c29 hr rfl (ai (pv 1) (ai ah ac))) ah) (aj (aT 2 sc_slaw.nd (az c29 hr rfl (ai (pv 1) (ai ah ac))))) aX)
   (ag (aT 3 sc_slaw.nd (az c32 hr rfl (ai (pv 1) (ai (pv 2) ac))))
   (ag (aT 4 sc_slaw.nd (su c36 hr rfl (ai (pv 1) (ai (pv 3) ac))))
   (ag (aT 5 sc_slaw.nd (az c46 hr rfl (ai (pv 1) (ai (pv 4) (ai (pv 3) ac)))))
   (ag (aT 6 sc_slaw.nd (az c48 hr rfl (ai (az c40 hr rfl (ai (pv 4) ac)) (ai (az c40 hr rfl (ai (pv 5) ac)) ac))))
   (ag (aT 7 sc_slaw.nd (az c27 hr rfl (ai (pv 4) (ai (pv 5) ac))))
   (ag (bO (fV (cL (az c38 hr rfl (ai (pv 7) (ai (pv 6) ac))))) (aj (aI mn)) aX)
   (ag (bK (cc (pv 7) rV))
   (ag (ik rV (jF (pv 7) ah set_list))
   (ag (bO (fV (cL (az c38 hr rfl (ai (az c27 hr rfl (ai (pv 5) (ai (pv 4) ac))) (ai (az c48 hr rfl (ai (az c40 hr rfl (ai (pv 5) ac)) (ai (az c40 hr rfl (ai (pv 4) ac)) ac))) ac))))) (aj (aI mn)) aX)
   (aj (aI (gz (az c38 hr rfl (ai (az c27 hr rfl (ai (pv 4) (ai (pv 5) ac))) (ai (pv 6) ac))) (ij (az c38 hr rfl (ai (az c27 hr rfl (ai (pv 4) (ai (pv 4) ac))) (ai (bM ac) ac))))))))))))))))))),by delta yD;walk_at "r"⟩
end
set_option maxHeartbeats 0 in
def all_mk{l:PySem.W.OpenLaw}{w:World}{K:Ab}{h:Heap}{mg:Str->Option Value}{fa:Addr}(X:K.In h)(G:h.Ns mainGlobals mg)(hfa:mg "law"=some (.ref fa))
  (h1:FH K "is_name" oS)(h2:FH K "is_turned" nI)(h3:FH K "name_of" sU)(h4:FH K "mirrored" nJ)(h5:FH K "beads_in" pY)(h6:FH K "names_in" mI)(h7:FH K "is_whole" pZ)(h8:FH K "refuse_lacks" gj)(h9:FH K "left_end" p6)(h10:FH K "right_end" nK)(h11:FH K "joint_of" p7)(h12:FH K "rising" oU)(h13:FH K "is_end" wD)(h14:FH K "is_joint" mJ)(h15:FH K "inner_joints" gk)(h16:FH K "strand_joints" iD)(h17:FH K "joints_of" nL)(h18:FH K "is_half" oV)(h19:FH K "sizes" sV)(h20:FH K "ends_of" sW)(h21:FH K "is_deed" oW)(h22:FH K "back" GO)(h23:FH K "cut_of" wE)(h24:FH K "pairs_in" mK)(h25:FH K "pairs_lacked" gm)(h26:FH K "pairs_apart" kh)(h27:FH K "cuts_and_joins" d6)(h28:FH K "firsts_one" jx)(h29:FH K "_law_flow" wF)(h30:FH K "_law_pick" wG)(h31:FH K "_law_letters" kM)(h32:FH K "_law_name" wH)(h33:FH K "_law_names" sX)(h34:FH K "_law_shuffled" lZ)(h35:FH K "_law_mirrored" ma)(h36:FH K "_law_line" sY)(h37:FHD K "_law_set" GP [.bool true])(h38:FHD K "_law_near" nM [.bool true])(h39:FH K "_law_alike" oX)(h40:FH K "_law_ends" wI)(h41:FH K "_law_joints" mL)(h42:FH K "_law_behind" mM)(h43:FH K "_law_three" sZ)(h44:FH K "_law_deeds" tf)(h45:FH K "_law_restated" jy)(h46:FH K "_law_apart" mN)(h47:FH K "_law_other" tj)(h48:FH K "_law_many_due" nN)(h49:FH K "_law_due" GQ)(h50:FH K "law" M1){ct_LETTERS:Tok}(cv_LETTERS:PySem.W.nsIn K mainGlobals "LETTERS"=some (some (.str "abcdefghijklmnopqrstuvwxyz" ct_LETTERS))){ct_LONGEST_NAME:Tok}(cv_LONGEST_NAME:PySem.W.nsIn K mainGlobals "LONGEST_NAME"=some (some (.int 6 ct_LONGEST_NAME))){cA_FORMS:Addr}(ca_FORMS:PySem.W.nsIn K mainGlobals "FORMS"=some (some (.ref cA_FORMS)))(cg_FORMS:GV K (.ref cA_FORMS) (.tup [.tup [.tup [.int 2],.tup [.int 1,.int 1]],.tup [.tup [.int 1,.int 1],.tup [.int 2]],.tup [.tup [.int 2,.int 2],.tup [.int 2,.int 2]],.tup [.tup [.int 1,.int 2],.tup [.int 1,.int 2]]]))
  (z_all:PySem.W.nsIn K mainGlobals "all"=some none) (z_bool:PySem.W.nsIn K mainGlobals "bool"=some none) (z_int:PySem.W.nsIn K mainGlobals "int"=some none) (z_isinstance:PySem.W.nsIn K mainGlobals "isinstance"=some none) (z_len:PySem.W.nsIn K mainGlobals "len"=some none) (z_list:PySem.W.nsIn K mainGlobals "list"=some none) (z_range:PySem.W.nsIn K mainGlobals "range"=some none) (z_sorted:PySem.W.nsIn K mainGlobals "sorted"=some none) (z_str:PySem.W.nsIn K mainGlobals "str"=some none) (z_tuple:PySem.W.nsIn K mainGlobals "tuple"=some none) (z_zip:PySem.W.nsIn K mainGlobals "zip"=some none) :
  ∃fd:FuncData,(∀(s:Shared)(v:Value),BindsTo s fd ⟨[v],[]⟩ [("_law_script",v)])/\∀base:Heap,K.In base->base.Ns mainGlobals mg->FnOk l.prog w K mg base CX0 10 fa fd nl9 (xZ K):=by
 have M:Md K mg:=⟨Aq X G z_all,Aq X G z_bool,Aq X G z_int,Aq X G z_isinstance,Aq X G z_len,Aq X G z_list,Aq X G z_range,Aq X G z_sorted,Aq X G z_str,Aq X G z_tuple,Aq X G z_zip,⟨_,AD X G cv_LETTERS⟩,⟨_,AD X G cv_LONGEST_NAME⟩,cg_FORMS.glt (AD X G ca_FORMS)⟩;refine h50.law X G hfa sc_slaw (fun _ _ _ _ _ _=>ar1 fun _=>rfl) JM fun base=>?_;have c0:rO l.prog w K mg base:=h1.cal X G wJ (fun _ _ _ _ _ _=>ar1 fun _=>rfl) (wX M);have c1:ii l.prog w K mg base:=h2.cal X G tm (fun _ _ _ _ _ _=>ar1 fun _=>rfl) (tQ M);have c2:kP l.prog w K mg base:=h3.cal X G wK (fun _ _ _ _ _ _=>ar1 fun _=>rfl) (wY M c1);have c3:qk l.prog w K mg base:=h4.cal X G tq (fun _ _ _ _ _ _=>ar1 fun _=>rfl) (vH M c1 c2);have c4:ql l.prog w K mg base:=h5.cal X G sc_sbeadsin (fun _ _ _ _ _ _=>ar1 fun _=>rfl) (vI M);have c5:qm l.prog w K mg base:=h6.cal X G vb (fun _ _ _ _ _ _=>ar1 fun _=>rfl) (vJ M c2 c4);have c6:qo l.prog w K mg base:=h7.cal X G vc (fun _ _ _ _ _ _=>ar1 fun _=>rfl) (vK M);have c7:kn l.prog w K mg base:=h8.cal X G sc_srefuselacks (fun _ _ _ _ _ _=>ar1 fun _=>rfl) (oC M c5);have c8:jA l.prog w K mg base:=h9.cal X G vd (fun _ _ _ _ _ _=>ar1 fun _=>rfl) (vL M c1 c2);have c9:kr l.prog w K mg base:=h10.cal X G tu (fun _ _ _ _ _ _=>ar1 fun _=>rfl) (tR M c3 c8);have c10:ml l.prog w K mg base:=h11.cal X G ve (fun _ _ _ _ _ _=>ar1 fun _=>rfl) (vM M);have c11:mS l.prog w K mg base:=h12.cal X G wL (fun _ _ _ _ _ _=>ar1 fun _=>rfl) (D8 M);have c12:vF l.prog w K mg base:=h13.cal X G DR (fun _ _ _ _ _ _=>ar1 fun _=>rfl) (D9 M c0 c6);have c13:qp l.prog w K mg base:=h14.cal X G vf (fun _ _ _ _ _ _=>ar1 fun _=>rfl) (vN M c11 c12);have c14:ku l.prog w K mg base:=h15.cal X G oz (fun _ _ _ _ _ _=>ar1 fun _=>rfl) (oD M c8 c9 c10);have c15:jC l.prog w K mg base:=h16.cal X G sc_sstrandjoints (fun _ _ _ _ _ _=>ar1 fun _=>rfl) (nX M c8 c9 c10 c14);have c16:kw l.prog w K mg base:=h17.cal X G sc_sjointsof (fun _ _ _ _ _ _=>ar1 fun _=>rfl) (tS M c15);have c17:rP l.prog w K mg base:=h18.cal X G wM (fun _ _ _ _ _ _=>ar1 fun _=>rfl) (wZ M c11 c13);have c18:y9 l.prog w K mg base:=h19.cal X G DS (fun _ _ _ _ _ _=>ar1 fun _=>rfl) (HQ M);have c19:rQ l.prog w K mg base:=h20.cal X G sc_sendsof (fun _ _ _ _ _ _=>ar1 fun _=>rfl) (w5 M);have c20:rR l.prog w K mg base:=h21.cal X G sc_sisdeed (fun _ _ _ _ _ _=>ar1 fun _=>rfl) (w6 M c11 c17 c18 c19)
 have c21:HP l.prog w K mg base:=h22.cal X G GR (fun _ _ _ _ _ _=>ar1 fun _=>rfl) (JN M c20);have c22:vG l.prog w K mg base:=h23.cal X G DT (fun _ _ _ _ _ _=>ar1 fun _=>rfl) (Ea M);have c23:qq l.prog w K mg base:=h24.cal X G vg (fun _ _ _ _ _ _=>ar1 fun _=>rfl) (vO M);have c24:kx l.prog w K mg base:=h25.cal X G oA (fun _ _ _ _ _ _=>ar2 fun _ _=>rfl) (oE M c23);have c25:lc l.prog w K mg base:=h26.cal X G p8 (fun _ _ _ _ _ _=>ar2 fun _ _=>rfl) (qy M c24);have c26:iT l.prog w K mg base:=h27.cal X G sc_scutsandjoins (fun _ _ _ _ _ _=>ar2 fun _ _=>rfl) (mW M c7 c16 c21 c22 c25);have c27:mT l.prog w K mg base:=h28.cal X G sc_sfirstsone (fun _ _ _ _ _ _=>ar2 fun _ _=>rfl) (qI M c16 c26);have c28:qt l.prog w K mg base:=h29.cal X G DU (fun _ _ _ _ _ _=>ar1 fun _=>rfl) (vP M);have c29:cE l.prog w K mg base:=h30.calI X G sc_sLpick (fun _ _ _ _ _ _=>ar2 fun _ _=>rfl) (vQ M);have c30:iG l.prog w K mg base:=h31.calI X G tw (fun _ _ _ _ _ _=>ar2 fun _ _=>rfl) (qz M c29);have c31:qu l.prog w K mg base:=h32.calI X G sc_sLname (fun _ _ _ _ _ _=>ar2 fun _ _=>rfl) (vR M c29 c30);have c32:n8 l.prog w K mg base:=h33.calI X G sc_sLnames (fun _ _ _ _ _ _=>ar2 fun _ _=>rfl) (tT M c29 c30 c31);have c33:gZ l.prog w K mg base:=h34.calI X G sc_sLshuffled (fun _ _ _ _ _ _=>ar2 fun _ _=>rfl) (oF M c29);have c34:g6 l.prog w K mg base:=h35.cal X G qF (fun _ _ _ _ _ _=>ar1 fun _=>rfl) (oG M);have c35:qv l.prog w K mg base:=h36.calI X G DV (fun _ _ _ _ _ _=>ar2 fun _ _=>rfl) (vS M c29 c33);have c36:nW l.prog w K mg base:=h37.calI X G sc_sLset (fun _ _ _ _ _ _ _ us hl=>match us,(show us.length=2 by simpa using hl) with|[_,_],_=>⟨_,rfl,rfl⟩) (.cons rfl .nil) (w9 M c29 c35)
 have c37:qw l.prog w K mg base:=h38.calI X G sc_sLnear (fun _ _ _ _ _ _ _ us hl=>match us,(show us.length=2 by simpa using hl) with|[_,_],_=>⟨_,rfl,rfl⟩) (.cons rfl .nil) (vT M c29 c34)
 have c38:n9 l.prog w K mg base:=h39.alike X G wN (fun _ _ _ _ _ _=>ar2 fun _ _=>rfl) 20 (fun n u h=>DX h) (fun n gs hn=>tU M) 8 (by decide)
 have c39:qx l.prog w K mg base:=h40.cal X G DW (fun _ _ _ _ _ _=>ar1 fun _=>rfl) (vU M);have c40:mU l.prog w K mg base:=h41.cal X G sc_sLjoints (fun _ _ _ _ _ _=>ar1 fun _=>rfl) (qJ M c39);have c41:mV l.prog w K mg base:=h42.cal X G vh (fun _ _ _ _ _ _=>ar2 fun _ _=>rfl) (qK M);have c43:og l.prog w K mg base:=h43.cal X G sc_sLthree (fun _ _ _ _ _ _=>ar2 fun _ _=>rfl) (tV M);have c42:oh l.prog w K mg base:=h44.cal X G sc_sLdeeds (fun _ _ _ _ _ _=>ar1 fun _=>rfl) (tW M c43);have c44:ky l.prog w K mg base:=h45.calI X G sc_sLrestated (fun _ _ _ _ _ _=>ar2 fun _ _=>rfl) (oH M c29 c33 c34);have c45:oi l.prog w K mg base:=h46.cal X G sc_sLapart (fun _ _ _ _ _ _=>ar2 fun _ _=>rfl) (tX M);have c46:oj l.prog w K mg base:=h47.calI X G wO (fun _ _ _ _ _ _=>ar3 fun _ _ _=>rfl) (tY M c29 c36 c37 c44);have c47:kz l.prog w K mg base:=h48.cal X G sc_sLmanydue (fun _ _ _ _ _ _=>ar2 fun _ _=>rfl) (oI M);have c48:rS l.prog w K mg base:=h49.cal X G sc_sLdue (fun _ _ _ _ _ _=>ar2 fun _ _=>rfl) (xf M c41 c42 c45 c47);intro _ _ _ _ _ _ _;exact Nt M c27 c28 c29 c32 c36 c38 c40 c46 c48
end K33
open PySem PySem.W PyProof.Rows
set_option maxRecDepth 100000 in
set_option maxHeartbeats 0 in
theorem PySem.Challenge.cw_strandwright_k33_first_deeds_by_one_holds : PySem.Challenge.rw_strandwright_k33_first_deeds_by_one.Holds := by
 w_on;o_law;k_head;(case hw=>w_witness2)
 k_fill
 refine VF.walkL (l:=PySem.Challenge.rw_strandwright_k33_first_deeds_by_one) (k:=10) rfl rfl ⟨rfl,by decide,by decide⟩ (fun w h Y=>PySem.W.kIn_of Y) ?F
 case F =>
  intro w mg fa h KX G hmg;refine' K33.all_mk KX G hmg (VF.fh ?a1 ?l1 ?c1 ?k1) (VF.fh ?a2 ?l2 ?c2 ?k2) (VF.fh ?a3 ?l3 ?c3 ?k3) (VF.fh ?a4 ?l4 ?c4 ?k4) (VF.fh ?a5 ?l5 ?c5 ?k5) (VF.fh ?a6 ?l6 ?c6 ?k6) (VF.fh ?a7 ?l7 ?c7 ?k7) (VF.fh ?a8 ?l8 ?c8 ?k8) (VF.fh ?a9 ?l9 ?c9 ?k9) (VF.fh ?a10 ?l10 ?c10 ?k10) (VF.fh ?a11 ?l11 ?c11 ?k11) (VF.fh ?a12 ?l12 ?c12 ?k12) (VF.fh ?a13 ?l13 ?c13 ?k13) (VF.fh ?a14 ?l14 ?c14 ?k14) (VF.fh ?a15 ?l15 ?c15 ?k15) (VF.fh ?a16 ?l16 ?c16 ?k16) (VF.fh ?a17 ?l17 ?c17 ?k17) (VF.fh ?a18 ?l18 ?c18 ?k18) (VF.fh ?a19 ?l19 ?c19 ?k19) (VF.fh ?a20 ?l20 ?c20 ?k20) (VF.fh ?a21 ?l21 ?c21 ?k21) (VF.fh ?a22 ?l22 ?c22 ?k22) (VF.fh ?a23 ?l23 ?c23 ?k23) (VF.fh ?a24 ?l24 ?c24 ?k24) (VF.fh ?a25 ?l25 ?c25 ?k25) (VF.fh ?a26 ?l26 ?c26 ?k26) (VF.fh ?a27 ?l27 ?c27 ?k27) (VF.fh ?a28 ?l28 ?c28 ?k28) (VF.fh ?a29 ?l29 ?c29 ?k29) (VF.fh ?a30 ?l30 ?c30 ?k30) (VF.fh ?a31 ?l31 ?c31 ?k31) (VF.fh ?a32 ?l32 ?c32 ?k32) (VF.fh ?a33 ?l33 ?c33 ?k33) (VF.fh ?a34 ?l34 ?c34 ?k34) (VF.fh ?a35 ?l35 ?c35 ?k35) (VF.fh ?a36 ?l36 ?c36 ?k36) (VF22.fhd ?a37 ?l37 ?c37 ?k37 ?t37) (VF22.fhd ?a38 ?l38 ?c38 ?k38 ?t38) (VF.fh ?a39 ?l39 ?c39 ?k39) (VF.fh ?a40 ?l40 ?c40 ?k40) (VF.fh ?a41 ?l41 ?c41 ?k41) (VF.fh ?a42 ?l42 ?c42 ?k42) (VF.fh ?a43 ?l43 ?c43 ?k43) (VF.fh ?a44 ?l44 ?c44 ?k44) (VF.fh ?a45 ?l45 ?c45 ?k45) (VF.fh ?a46 ?l46 ?c46 ?k46) (VF.fh ?a47 ?l47 ?c47 ?k47) (VF.fh ?a48 ?l48 ?c48 ?k48) (VF.fh ?a49 ?l49 ?c49 ?k49) (VF.fh ?a50 ?l50 ?c50 ?k50) ?cv_LETTERS ?cv_LONGEST_NAME ?ca_FORMS (VF22.gv_tup ?cq (.cons (VF22.gv_tup ?cq0 (.cons (VF22.gv_tup ?cq00 (.cons VF22.gv_int .nil)) (.cons (VF22.gv_tup ?cq01 (.cons VF22.gv_int (.cons VF22.gv_int .nil))) .nil))) (.cons (VF22.gv_tup ?cq1 (.cons (VF22.gv_tup ?cq10 (.cons VF22.gv_int (.cons VF22.gv_int .nil))) (.cons (VF22.gv_tup ?cq11 (.cons VF22.gv_int .nil)) .nil))) (.cons (VF22.gv_tup ?cq2 (.cons (VF22.gv_tup ?cq20 (.cons VF22.gv_int (.cons VF22.gv_int .nil))) (.cons (VF22.gv_tup ?cq21 (.cons VF22.gv_int (.cons VF22.gv_int .nil))) .nil))) (.cons (VF22.gv_tup ?cq3 (.cons (VF22.gv_tup ?cq30 (.cons VF22.gv_int (.cons VF22.gv_int .nil))) (.cons (VF22.gv_tup ?cq31 (.cons VF22.gv_int (.cons VF22.gv_int .nil))) .nil))) .nil))))) ?z_all ?z_bool ?z_int ?z_isinstance ?z_len ?z_list ?z_range ?z_sorted ?z_str ?z_tuple ?z_zip
  all_goals try k_is

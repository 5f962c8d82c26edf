import PyProof.Rows.All
import Wide.All
import OpenK.AllK
import Wide.FinOn
import Lean
import PyProof.EqAt
import PyProof.EqKinds
import PyProof.TupleCall
import KE.KRevIter
import PySem.Challenge.RW_strandwright_k34_whole_rows_by_one
set_option maxHeartbeats 2000000
set_option Elab.async false
set_option linter.all false
set_option maxRecDepth 100000
set_option genSizeOfSpec false
set_option tactic.hygienic false
namespace PySem.W.Fast
def tw1283142795606073188:=0
def tw2759651433796762410:=0
def tw2928938677248696238:=0
def tw12472236496653741967:=0
def tw2596690334356965126:=0
def tw11016003592171185071:=0
def tw7783537563378283174:=0
def tw7334095527229524467:=0
def tw2753951455467509509:=0
def tw16456896175228054722:=0
def tw8469973464407420493:=0
def tw8793539645516857490:=0
def tw6821447412507972416:=0
def tw17603218110210312213:=0
def tw6474054167460104399:=0
def tw8800636031448289647:=0
def tw2367600176426854828:=0
def tw4226992763607062750:=0
def tw3308826558828046318:=0
def tw819034763935619509:=0
def tw16073160832282379230:=0
def tw13546957847639628159:=0
def tw15993029634599357464:=0
def tw12921613311281253402:=0
def tw11331286253760463659:=0
def tw12128904676011142913:=0
def tw4937517000627338676:=0
def tw10591155066903169853:=0
def tw8022020605970994977:=0
def tw14109584710877751854:=0
def tw5815198271095451588:=0
def tw15492935520868193394:=0
def tw6681506520795663067:=0
def tw6875149795646831692:=0
def tw14071390658543249548:=0
end PySem.W.Fast
abbrev Aa:=@PySem.wpAny_bind
abbrev Ab:=@PySem.W.Frag
abbrev Ac:=@PySem.Heap.get?_push_of_some
abbrev Ad:=@PySem.wpAny_pure
abbrev Ae:=@if_pos
abbrev Af:=@decide_eq_true
abbrev Ag:=@decide_eq_false
abbrev Ah:=@PyProof.Rows.wpS_pure
abbrev Ai:=@PySem.Heap.get?_push_size
abbrev Aj:=@PySem.Heap.lt_size
abbrev Ak:=@if_neg
abbrev Al:=@PyProof.Rows.wpS_bind
abbrev Am:=@of_decide_eq_true
abbrev An:=@PySem.wpAny_newObj_type
abbrev Ao:=@PySem.PassesOwn.never
abbrev Ap:=@PySem.wpAny_callSpecial?_slot
abbrev Aq:=@PySem.W.mg_none_of
abbrev Ar:=@PySem.W.kia_one
abbrev As:=@PySem.wpAny_call_entry
abbrev At:=@PySem.wpAny_field
abbrev Au:=@PySem.F.plainAttrs_list
abbrev Av:=@PyProof.Rows.slot_tuple_getitem
abbrev Aw:=@PyProof.Rows.wpS_mono
abbrev Ax:=@PyProof.Rows.wpS_forRange
abbrev Ay:=@PySem.wpAny_truthy_bool
abbrev Az:=@PySem.mem_of_lookup
abbrev AA:=@PySem.wpAny_mono
abbrev AB:=@PySem.wpAny_holding
abbrev AC:=@PySem.W.mg_of
abbrev AD:=@PySem.wpAny_seqItems
abbrev AE:=@Array.size_map
abbrev AF:=@PySem.wpAny_typeNameOfWhole_keyiter
abbrev AG:=@PySem.wpAny_setField_rec
abbrev AH:=@PySem.wpAny_rule
abbrev AI:=@PySem.wpAny_passesOwn
abbrev AJ:=@List.Perm.append_left
abbrev AK:=@PySem.Str.length_append
abbrev AL:=@Ne.symm
abbrev AM:=@List.reverse_cons
abbrev AN:=@List.getElem?_set
abbrev AO:=@List.flatten_cons
abbrev AQ:=@List.getElem?_of_mem
abbrev AR:=@PySem.wpAny_typeOf
abbrev AT:=@Nat.lt_succ_self
abbrev AU:=@Nat.lt_of_not_le
abbrev AV:=@List.map_nil
abbrev AW:=@Array.getElem?_eq_getElem
abbrev AX:=@Array.swapIfInBounds_def
abbrev AY:=@List.nil_append
abbrev AZ:=@PySem.wpAny_getItem_str_slice
abbrev A6:=@List.mem_singleton_self
abbrev A7:=@Nat.lt_of_succ_lt
abbrev A8:=@List.take_of_length_le
abbrev A9:=@List.map_id'
abbrev Ba:=@List.drop_drop
abbrev Bb:=@List.length_singleton
abbrev Bc:=@List.getElem?_reverse
abbrev Be:=@PyProof.Rows.wpS_modify
abbrev Bg:=@List.zipIdx_cons
abbrev Bh:=@List.getElem_mem
abbrev Bi:=@Array.size_range
abbrev Bj:=@Nat.add_assoc
abbrev Bk:=@List.any_cons
abbrev Bl:=@List.mem_of_mem_drop
abbrev Bm:=@Int.emod_nonneg
abbrev Bo:=@PySem.Heap.SameBut.update
abbrev Bp:=@Array.toList_append
abbrev Bq:=@PyProof.Rows.wpS_get
abbrev Br:=@PyProof.Rows.listItems_at
abbrev Bs:=@PyProof.Rows.callWith_type1
abbrev Bt:=@PySem.Obj.data_mapFields
abbrev Bu:=@Nat.sub_add_cancel
abbrev Bv:=@Nat.pos_of_ne_zero
abbrev Bw:=@Nat.lt_of_le_of_ne
abbrev Bx:=@List.zip_cons_cons
abbrev Bz:=@PySem.Heap.size_push
abbrev BB:=@List.getElem?_append_left
abbrev BC:=@Nat.lt_succ_of_lt
abbrev BD:=@PySem.wpAny_attempt
abbrev BE:=@PySem.F.type_list_extend
abbrev BF:=@PySem.F.slot_list_extend
abbrev BG:=@PySem.F.args_tuple_add_2
abbrev BH:=@List.map_drop
abbrev BI:=@List.all_cons
abbrev BJ:=@decide_eq_decide
abbrev BK:=@PySem.F.entry_tuple_add
abbrev BL:=@Nat.le_of_not_lt
abbrev BM:=@List.pairwise_singleton
abbrev BN:=@List.ext_getElem
abbrev BO:=@Int.eq_ofNat_of_zero_le
abbrev BP:=@PySem.call_meets
abbrev BQ:=@PySem.F.slot_tuple_add
abbrev BR:=@Nat.lt_trans
abbrev BS:=@List.getElem?_set_self
abbrev BT:=@PySem.Heap.get?_update_other
abbrev BU:=@PySem.wpAny_loadPart'
abbrev BV:=@PySem.wpAny_execs_nil
abbrev BW:=@PySem.post_val_or_str
abbrev BX:=@List.of_mem_zip
abbrev BY:=@List.forIn_cons
abbrev BZ:=@PySem.F.type_list_pop
abbrev B0:=@PySem.F.slot_list_pop
abbrev B1:=@PySem.F.slot_dict_get
abbrev B2:=@List.perm_append_comm
abbrev B3:=@PySem.Heap.get?_update_self
abbrev B4:=@PyProof.Rows.wpS_lift
abbrev B5:=@PySem.wpAny_updateSeq_pair
abbrev B6:=@PySem.wpAny_setField
abbrev B7:=@PySem.Str.cps_append
abbrev B8:=@Nat.sub_le_sub_right
abbrev B9:=@List.mem_of_mem_take
abbrev Ca:=@LawfulBEq.eq_of_beq
abbrev Cb:=@PyProof.Rows.entry_tuple_getitem
abbrev Cc:=@Nat.sub_le_sub_left
abbrev Cd:=@List.reverse_append
abbrev Ce:=@PySem.Heap.get?_update_ne
abbrev Cf:=@PySem.wpAny_onRaise
abbrev Cg:=@PySem.wpAny_newList
abbrev Ch:=@PyProof.Rows.listUpdate_at
abbrev Ci:=@PySem.evalPart_none
abbrev Cj:=@List.map_take
abbrev Ck:=@PySem.wpAny_Constant_int
abbrev Cn:=@PySem.wpAny_Call_Name_kw
abbrev Co:=@PySem.tupleKind_room_in1
abbrev Cq:=@PyProof.Rows.args_tuple_getitem
abbrev Cr:=@PyProof.Rows.Subscript_
abbrev Cs:=@PySem.SeqAt.EqAt.str_int
abbrev Ct:=@PySem.SeqAt.EqAt.int_str
abbrev Cu:=@List.filter_append
abbrev Cw:=@List.filterMap_map
abbrev Cy:=@Int.natCast_nonneg
abbrev Cz:=@Int.emod_lt_of_pos
abbrev CB:=@PySem.Calls.spliced_cons
abbrev CC:=@Bool.false_eq_true
abbrev CD:=@Array.toList_range
abbrev CF:=@PySem.wpAny_sequenceKey
abbrev CG:=@PySem.wpAny_pyIter_list
abbrev CH:=@PySem.wpAny_dictEntries
abbrev CJ:=@PySem.Txt.slice_le
abbrev CK:=@PySem.W.kitx_list
abbrev CL:=@Nat.pred_lt_of_lt
abbrev CM:=@List.pairwise_map
abbrev CN:=@List.length_range
abbrev CO:=@List.getElem?_map
abbrev CP:=@List.count_append
abbrev CQ:=@List.any_map
abbrev CS:=@PySem.noFill_tuple_add
abbrev CT:=@PySem.SeqAt.in_tupleAt
abbrev CU:=@Nat.succ_le_succ
abbrev CV:=@Nat.not_le_of_lt
abbrev CW:=@Nat.min_le_right
abbrev CY:=@Nat.min_eq_right
abbrev CZ:=@List.map_reverse
abbrev C0:=@List.getElem_map
abbrev C1:=@List.drop_length
abbrev C2:=@PySem.sizeLine_eq
abbrev C3:=@PySem.wpAny_dictEpoch
abbrev C4:=@List.foldl_cons
abbrev C5:=@List.dropLast_concat_getLast
abbrev C6:=@PySem.typeIs_str
abbrev C7:=@PySem.SeqAt.RcNeAt.lists_lengths
abbrev C8:=@List.take_zero
abbrev C9:=@List.perm_ext_iff_of_nodup
abbrev Db:=@List.nodup_nil
abbrev Dc:=@List.length_eraseIdx_of_lt
abbrev Dd:=@List.getElem?_append_right
abbrev De:=@PySem.Calls.Name_function_global
abbrev Df:=@Bool.and_false
abbrev Dg:=@List.getLastD_eq_getLast?
abbrev Dh:=@PySem.Calls.call_function_entry
abbrev Di:=@List.eq_of_mem_replicate
abbrev Dj:=@PySem.F.slot_list_index
abbrev Dk:=@PySem.F.args_dict_get_3
abbrev Dl:=@Nat.add_sub_cancel_left
abbrev Dm:=@List.getElem?_replicate
abbrev Do:=@PySem.W.cellsFrom_some
abbrev Dq:=@PySem.F.plainAttrs_str
abbrev Dr:=@PySem.F.entry_dict_get
abbrev Ds:=@Nat.sub_self
abbrev Dt:=@Nat.add_zero
abbrev Du:=@Nat.add_comm
abbrev Dv:=@List.range_succ_eq_map
abbrev Dw:=@List.flatten_singleton
abbrev Dx:=@List.drop_eq_nil_of_le
abbrev Dy:=@List.all_map
abbrev Dz:=@List.Perm.append_right
abbrev DB:=@Int.ediv_one
abbrev DC:=@List.getElem?_toArray
abbrev DD:=@List.eq_nil_or_concat
abbrev DE:=@List.count_cons_of_ne
abbrev DF:=@List.concat_eq_append
abbrev Za:=@List.getElem?_eq_getElem
abbrev Ya:=@List.length_map
abbrev Xa:=@List.length_append
abbrev Wa:=@Option.bind_some
abbrev Va:=@List.mem_singleton
abbrev Qa:=@Nat.le_refl
abbrev Yb:=@List.mem_of_getElem?
abbrev Xb:=@List.size_toArray
abbrev Wb:=@List.mem_cons_self
abbrev Vb:=@List.mem_cons_of_mem
abbrev Qb:=@List.getElem?_eq_some_iff
abbrev Zc:=@List.map_append
abbrev Yc:=@List.append_assoc
abbrev Xc:=@List.mem_map
abbrev Wc:=@List.mem_append
abbrev Vc:=@List.append_nil
abbrev Qc:=@Nat.lt_of_lt_of_le
abbrev Zd:=@Nat.le_trans
abbrev Yd:=@Array.length_toList
abbrev Xd:=@List.length_cons
abbrev Wd:=@Bool.false_ne_true
abbrev Vd:=@List.mem_cons
abbrev Qd:=@Nat.exists_eq_add_one_of_ne_zero
abbrev Ze:=@List.flatMap_append
abbrev Ye:=@Dd
abbrev Xe:=@List.map_cons
abbrev We:=@CO
abbrev Ve:=@List.flatMap_cons
abbrev Qe:=@CC
abbrev Zf:=@Bool.eq_iff_iff
abbrev Yf:=@List.getD_eq_getElem?_getD
abbrev Xf:=@BB
abbrev Wf:=@List.length_take
abbrev Vf:=@List.length_drop
abbrev Qf:=@List.getElem?_drop
abbrev Zg:=@Option.map_eq_some_iff
abbrev Yg:=@List.length_nil
abbrev Xg:=@List.mem_append_right
abbrev Wg:=@List.flatMap_singleton
abbrev Vg:=@List.map_map
abbrev Qg:=@List.take_append_drop
abbrev Zh:=@List.length_filter_le
abbrev Yh:=@List.length_pos_iff
abbrev Xh:=@Bool.and_eq_true
abbrev Wh:=@List.mem_append_left
abbrev Vh:=@Nat.ne_of_lt
abbrev Qh:=@List.length_replicate
abbrev Zi:=@List.nodup_cons
abbrev Yi:=@List.pairwise_cons
abbrev Xi:=@List.pairwise_append
abbrev Wi:=@List.eq_nil_of_length_eq_zero
abbrev Vi:=@Nat.add_le_add_left
abbrev Qi:=@List.length_reverse
abbrev Zj:=@Nat.lt_irrefl
abbrev Yj:=@Dm
abbrev Xj:=@List.filter_cons
abbrev Wj:=@Nat.le_of_lt
abbrev Vj:=@Nat.ne_of_gt
abbrev Qj:=@List.filterMap_cons
abbrev Zk:=@List.pairwise_iff_getElem
abbrev Yk:=@Array.getElem?_toList
abbrev Xk:=@List.all_eq_true
abbrev Wk:=@Nat.le_add_right
abbrev Vk:=@List.perm_middle
abbrev Qk:=@Nat.zero_le
abbrev Zl:=@List.mem_range
abbrev Yl:=@List.map_congr_left
abbrev Xl:=@Nat.add_sub_cancel'
abbrev Wl:=@Array.getElem?_map
abbrev Vl:=@List.drop_eq_getElem_cons
abbrev Ql:=@List.mem_filter
abbrev Zm:=@List.find?_cons
abbrev Ym:=@Nat.min_eq_left
abbrev Xm:=@List.mem_iff_getElem
abbrev Wm:=@Int.toNat_natCast
abbrev Vm:=@List.nodup_append
abbrev Qm:=@List.flatten_append
abbrev Zn:=@Nat.lt_of_le_of_lt
abbrev Yn:=@List.getElem?_take
abbrev Xn:=@List.getElem?_eq_none
namespace L2
open PySem PySem.Spec PyProof.Rows
abbrev Key:=Sum Int Str
def ot:Key->Value->Bool
 | .inl k,v=>Value.isInt k v
 | .inr x,v=>Value.isStrOf x v
def Ng(w:World):Key->Int
 | .inl k=>hashInt k
 | .inr x=>hashStr w x
theorem cK:∀{k:Key}{v:Value},ot k v=true->(∃i t,k=Sum.inl i/\v=Value.int i t)∨(∃x t,k=Sum.inr x/\v=Value.str x t)
 | .inl i,v,h=>by
  obtain⟨t,e⟩:=Value.isInt_shape (k:=i) (v:=v) h;exact .inl ⟨i,t,rfl,e⟩
 | .inr x,v,h=>by
  obtain⟨t,e⟩:=Value.isStrOf_shape (x:=x) (v:=v) h;exact .inr ⟨x,t,rfl,e⟩
def yi(i:Int)(t:Tok):ot (.inl i) (.int i t)=true:=by simp[ot,Value.isInt]
def yj(x:Str)(t:Tok):ot (.inr x) (.str x t)=true:=by simp[ot,Value.isStrOf]
def Ju(a b:Int):decide ((Sum.inl a:Key)=Sum.inl b)=(a == b):=by
 by_cases e:a=b
 ·subst e;simp
 ·have h:¬ (Sum.inl a:Key)=Sum.inl b:=fun q=>e (Sum.inl.inj q);rw[Ag h];exact(beq_eq_false_iff_ne.mpr e).symm
def Jv(a b:Str):decide ((Sum.inr a:Key)=Sum.inr b)=decide (a=b):=by
 by_cases e:a=b
 ·subst e;simp
 ·have h:¬ (Sum.inr a:Key)=Sum.inr b:=fun q=>e (Sum.inr.inj q);rw[Ag h,Ag e]
def Jw(a:Int)(b:Str):decide ((Sum.inl a:Key)=Sum.inr b)=false:=Ag (fun q=>nomatch q)
def Jx(a:Str)(b:Int):decide ((Sum.inr a:Key)=Sum.inl b)=false:=Ag (fun q=>nomatch q)
def cO(prog:Program)(w:World):PySem.KeyKind prog w Key where
 is:=ot
 hash:=Ng w
 inj:=fun v a b ha hb=>by
  rcases cK ha with⟨i,t,rfl,rfl⟩|⟨x,t,rfl,rfl⟩
  ·rcases cK hb with⟨j,u,rfl,e⟩|⟨y,u,rfl,e⟩
   ·injection e with e1 _;rw[e1]
   ·exact nomatch e
  ·rcases cK hb with⟨j,u,rfl,e⟩|⟨y,u,rfl,e⟩
   ·exact nomatch e
   ·injection e with e1 _;rw[e1]
 byValue:=fun k v h=>by
  rcases cK h with⟨i,t,rfl,rfl⟩|⟨x,t,rfl,rfl⟩<;>rfl
 pyHash:=fun hv h=>by
  rcases cK hv with⟨i,t,rfl,rfl⟩|⟨x,t,rfl,rfl⟩
  ·exact wpAny_pyHash_int h
  ·exact wpAny_pyHash_str h
 eqBool:=fun hu hv h=>by
  rcases cK hu with⟨i,t,rfl,rfl⟩|⟨x,t,rfl,rfl⟩
  ·rcases cK hv with⟨j,u,rfl,rfl⟩|⟨y,u,rfl,rfl⟩
   ·rw[Ju]at h;exact wpAny_eqBool_int h
   ·rw[Jw]at h;exact Ct i t y u _ _ _ _ h
  ·rcases cK hv with⟨j,u,rfl,rfl⟩|⟨y,u,rfl,rfl⟩
   ·rw[Jx]at h;exact Cs x t j u _ _ _ _ h
   ·rw[Jv]at h;exact wpAny_eqBool_str h
 «strs»:=fun k x t v h=>by
  rcases cK h with⟨i,u,rfl,e⟩|⟨y,u,rfl,e⟩
  ·exact nomatch e
  ·injection e with e1 _
   subst e1;cases v<;>rfl
def tD(prog:Program)(w:World)(i:Int)(t:Tok):(cO prog w).is (.inl i) (.int i t)=true:=yi i t
def tE(prog:Program)(w:World)(x:Str)(t:Tok):(cO prog w).is (.inr x) (.str x t)=true:=yj x t
end L2
namespace L2
open PySem PySem.Spec PyProof.Rows
inductive V where
 | non|bl (b:Bool)|int (i:Int)|str (x:Str)|byt (b:Array UInt8)|flt (b:UInt64)|ref (a:Addr)|ty (n:String)
 deriving DecidableEq
def RelV:V->Value->Prop
 | .non,u=>u=Value.none
 | .bl b,u=>u=Value.bool b
 | .int i,u=>∃t,u=Value.int i t
 | .str x,u=>∃t,u=Value.str x t
 | .byt b,u=>∃t,u=Value.bytes b t
 | .flt b,u=>∃t,u=Value.float b t
 | .ref a,u=>u=Value.ref a
 | .ty n,u=>u=Value.type n
abbrev Vals:List V->List Value->Prop:=Paired RelV
theorem Vals.length{xs:List V}{us:List Value}(r:Vals xs us):xs.length=us.length:=Paired.length r
theorem Vals.get:∀{xs:List V}{us:List Value}{i:Nat}{x:V},Vals xs us->xs[i]?=some x->∃u,us[i]?=some u/\RelV x u
 | _,_,_,_,.nil,e=>by simp at e
 | _,_,0,_,.cons r _,e=>by simp at e;subst e;exact⟨_,rfl,r⟩
 | _,_,i+1,x,.cons _ t,e=>by
  obtain⟨u,h1,h2⟩:=Vals.get (i:=i) (x:=x) t (by simpa using e)
  exact⟨u,by simpa using h1,h2⟩
theorem Vals.set(r:RelV x u):∀{xs:List V}{us:List Value}(i:Nat),Vals xs us->Vals (xs.set i x) (us.set i u)
 | _,_,_,.nil=>.nil
 | _,_,0,.cons _ t=>.cons r t
 | _,_,i+1,.cons q t=>.cons q (Vals.set r i t)
theorem Vals.append:∀{xs ys:List V}{us ws:List Value},Vals xs us->Vals ys ws->Vals (xs++ys) (us++ws)
 | _,_,_,_,.nil,s=>s
 | _,_,_,_,.cons r t,s=>.cons r (Vals.append t s)
theorem Vals.take:∀{xs:List V}{us:List Value}(n:Nat),Vals xs us->Vals (xs.take n) (us.take n)
 | _,_,0,_=>.nil
 | _,_,_+1,.nil=>.nil
 | _,_,n+1,.cons r t=>.cons r (Vals.take n t)
theorem Vals.drop:∀{xs:List V}{us:List Value}(n:Nat),Vals xs us->Vals (xs.drop n) (us.drop n)
 | _,_,0,r=>r
 | _,_,_+1,.nil=>.nil
 | _,_,n+1,.cons _ t=>Vals.drop n t
def RelO:Option V->Option Value->Prop
 | some v,some u=>RelV v u
 | none,none=>True
 | _,_=>False
def KV{κ:Type}:List (κ×V)->List (κ×Value)->Prop:=Paired fun(p:κ×V) (q:κ×Value)=>p.1=q.1/\RelV p.2 q.2
def kV:Key->V
 | .inl i=>.int i
 | .inr x=>.str x
inductive HO where
  | lst (xs:List V)
  | tup (xs:List V)
  | dK (kvs:List (Key×V))|dT (ep:Nat×List Addr) (kvs:List (List Key×V))
  | set (S:Int->Bool) (n:Nat)
  | ins (C dx:Addr) (fs:List (Str×V))
  | own (x:Addr)
  | xd (fs:List (Str×V))
  | met (f x:Addr)
  | rng (lo hi:Int)
  | frz (o:Obj) (u:HO)
  | tbl (ps:Array Value)
  | ext (φ:Heap->Prop)
abbrev Hp:=Addr->Option HO
def upd(H:Hp)(a:Addr)(o:HO):Hp:=fun b=>if b=a then some o else H b
def bT:upd H a o a=some o:=by unfold upd;rw[Ae rfl]
def bn(h:b≠a):upd H a o b=H b:=by unfold upd;rw[Ak h]
def LK{H:Hp}{a b:Addr}{o u:HO}(h:H a=some o)(h':H b=some u)(d:o≠u):a≠b:=by
 intro e;subst e;rw[h]at h';exact d (Option.some.inj h')
def bM{H:Hp}{a b:Addr}{o:HO}(h:H a=some o)(h':H b=none):a≠b:=by
 intro e;subst e;rw[h]at h';cases h'
section
variable (P:Program)(w:World)
def ObjOk(H:Hp)(h:Heap)(a:Addr):HO->Prop
 | .lst xs=>xs.length<=sizeLine/\∃(its:List Value)(n:Nat),Vals xs its/\h.get? a=some { cls:=.type "list",data:=.seq its.toArray n }
 | .tup xs=>xs.length<=sizeLine/\∃its:List Value,Vals xs its/\IsTup h a its.toArray
 | .dK kvs=>kvs.length<=sizeLine/\(a == sysModules)=false/\∃vs,KV kvs vs/\h.DictOf (cO P w) a vs
 | .dT ep kvs=>kvs.length<=sizeLine/\(a == sysModules)=false/\∃xs:List (List Key×Addr×Value),
   Paired (fun(p:List Key×V) (q:List Key×Addr×Value)=>p.1=q.1/\H q.2.1=some (.tup (p.1.map kV))/\RelV p.2 q.2.2) kvs xs /\
   xs.map (·.2.1)=ep.2/\∃o es,h.get? a=some o/\o.ExactDict/\o.data=.dict es ep.1/\es.toList=xs.map (entryOfKey (tupleKind (cO P w)))/\(xs.map (·.1)).Nodup
 | .set S n=>h.SetOf (intKind P w) a S n
 | .ins C dx fs=>H dx=some (.own a)/\fs.length<=1000/\dx≠a/\h.get? a=some (PySem.W.instObj C dx) /\
   ∃mA,h.Ns1 dx mA/\(∀f,RelO (fs.lookup f) (mA f))/\PySem.Within mA (fs.map (·.1))
 | .own _=>∃o,h.get? a=some o
 | .xd fs=>∃mA,h.Ns1 a mA/\∀f,RelO (fs.lookup f) (mA f)
 | .rng lo hi=>∃t u v,h.get? a=some { cls:=.type "range",data:=.fields #[.int lo t,.int hi u,.int 1 v] }
 | .frz o u=>h.get? a=some o/\ObjOk H h a u
 | .tbl ps=>h.get? a=some { cls:=.none,data:=.fields ps }
 | .met f x=>h.get? a=some (PySem.W.methodObj (.ref f) (.ref x))
 | .ext φ=>φ h/\(∃o,h.get? a=some o)/\∀h1 h2:Heap,φ h1->(∀o,h1.get? a=some o->h2.get? a=some o)->φ h2
def HOk(H:Hp)(h:Heap):Prop:=∀a o,H a=some o->ObjOk P w H h a o
end
section
variable {P:Program}{w:World}{H H':Hp}{h h':Heap}{a:Addr}{o:HO}
theorem ObjOk.lt(x:ObjOk P w H h a o):a<h.objs.size:=by
 cases o with
 | lst xs=>obtain⟨_,_,_,_,e⟩:=x;exact Aj e
 | tup xs=>obtain⟨_,_,_,p⟩:=x;exact p.lt
 | dK kvs=>obtain⟨_,_,_,_,o,_,_,e,_⟩:=x;exact Aj e
 | dT ep kvs=>obtain⟨_,_,_,_,_,o,_,e,_⟩:=x;exact Aj e
 | set S n=>obtain⟨o,_,_,_,e,_⟩:=x;exact Aj e
 | ins C dx fs=>obtain⟨_,_,_,e,_⟩:=x;exact Aj e
 | own y=>obtain⟨_,e⟩:=x;exact Aj e
 | xd fs=>obtain⟨_,⟨_,_,_,e,_⟩,_⟩:=x;exact Aj e
 | rng lo hi=>obtain⟨_,_,_,e⟩:=x;exact Aj e
 | frz ob u=>obtain⟨e,_⟩:=x;exact Aj e
 | tbl ps=>exact Aj (show h.get? a=some _ from x)
 | met f y=>exact Aj (show h.get? a=some _ from x)
 | ext φ=>obtain⟨_,⟨_,e⟩,_⟩:=x;exact Aj e
theorem Paired.mapP:∀{l₁:List α}{l₂:List β},Paired F l₁ l₂->(∀a b,F a b->G a b)->Paired G l₁ l₂
 | _,_,.nil,_=>.nil
 | _,_,.cons r t,f=>.cons (f _ _ r) (Paired.mapP t f)
def ObjOk.stay(x:ObjOk P w H h a o)(k:∀b u,(b=a∨H b=some (.own a))->h.get? b=some u->h'.get? b=some u)
  (ho:∀b,H b=some (.own a)->H' b=some (.own a))(ht:∀b xs,H b=some (.tup xs)->H' b=some (.tup xs)):ObjOk P w H' h' a o:=by
 induction o with
 | lst xs=>obtain⟨z,its,n,r,e⟩:=x;exact⟨z,its,n,r,k _ _ (.inl rfl) e⟩
 | tup xs=>obtain⟨z,its,r,ob,e,c⟩:=x;exact⟨z,its,r,ob,k _ _ (.inl rfl) e,c⟩
 | dK kvs=>obtain⟨z,y,vs,r,ob,es,ep,e,c⟩:=x;exact⟨z,y,vs,r,ob,es,ep,k _ _ (.inl rfl) e,c⟩
 | dT ep kvs =>
  obtain⟨z,y,xs,r,ra,ob,es,e,c⟩:=x;exact⟨z,y,xs,Paired.mapP r fun p q z=>⟨z.1,ht _ _ z.2.1,z.2.2⟩,ra,ob,es,k _ _ (.inl rfl) e,c⟩
 | set S n=>obtain⟨ob,es,ep,t,e,c⟩:=x;exact⟨ob,es,ep,t,k _ _ (.inl rfl) e,c⟩
 | ins C dx fs =>
  obtain⟨d,z,ne,e,mA,⟨od,es,ep,e2,c⟩,r⟩:=x;exact⟨ho _ d,z,ne,k _ _ (.inl rfl) e,mA,⟨od,es,ep,k _ _ (.inr d) e2,c⟩,r⟩
 | own y=>obtain⟨ob,e⟩:=x;exact⟨ob,k _ _ (.inl rfl) e⟩
 | xd fs=>obtain⟨mA,⟨od,es,ep,e,c⟩,r⟩:=x;exact⟨mA,⟨od,es,ep,k _ _ (.inl rfl) e,c⟩,r⟩
 | rng lo hi=>obtain⟨t,u,v,e⟩:=x;exact⟨t,u,v,k _ _ (.inl rfl) e⟩
 | frz ob u ih=>obtain⟨e,q⟩:=x;exact⟨k _ _ (.inl rfl) e,ih q⟩
 | tbl ps =>
  have e:h.get? a=some { cls:=.none,data:=.fields ps }:=x;show h'.get? a=some { cls:=.none,data:=.fields ps };exact k a _ (.inl rfl) e
 | met f y =>
  have e:h.get? a=some (PySem.W.methodObj (.ref f) (.ref y)):=x;show h'.get? a=some (PySem.W.methodObj (.ref f) (.ref y));exact k a _ (.inl rfl) e
 | ext φ=>obtain⟨p,⟨o,e⟩,st⟩:=x;exact⟨st _ _ p fun o q=>k _ _ (.inl rfl) q,⟨o,k _ _ (.inl rfl) e⟩,st⟩
theorem HOk.lt(x:HOk P w H h)(e:H a=some o):a<h.objs.size:=(x a o e).lt
theorem HOk.fresh(x:HOk P w H h)(e:h.objs.size<=a):H a=none:=by
 cases q:H a with
 | none=>rfl
 | some u=>exact absurd (Qc (x.lt q) e) (Zj _)
def HOk.kept(x:HOk P w H h)(k:∀b u,h.get? b=some u->h'.get? b=some u):HOk P w H h':=fun a o e =>
 (x a o e).stay (fun b u _ q=>k b u q) (fun _ q=>q) fun _ _ q=>q
def HOk.laid(x:HOk P w H h)(k:∀b u,h.get? b=some u->h'.get? b=some u)(hp:h.objs.size<=a)(new:ObjOk P w (upd H a o) h' a o):HOk P w (upd H a o) h':=fun b u e=>by
 have hn:=x.fresh hp;by_cases hb:b=a
 ·subst hb;rw[bT]at e;cases e;exact new
 ·rw[bn hb]at e;exact(x b u e).stay (fun c v _ q=>k c v q) (fun c q=>by rw[bn (bM q hn)];exact q) fun c xs q=>by rw[bn (bM q hn)];exact q
end
def Rd(H:Hp)(a:Addr)(u:HO):Prop:=H a=some u∨∃o,H a=some (.frz o u)
def Rd.ok(r:Rd H a u)(x:HOk P w H h):ObjOk P w H h a u:=by
 rcases r with r|⟨o,r⟩
 ·exact x a u r
 ·obtain⟨_,q⟩:=x a _ r;exact q
def Mut:Option HO->Prop
 | some (.lst _)=>True
 | some (.dK _)=>True
 | some (.dT _ _)=>True
 | some (.set _ _)=>True
 | some (.ins _ _ _)=>True
 | some (.ext _)=>True
 | _=>False
section
variable {P:Program}{w:World}{H:Hp}{h h':Heap}{x e:Addr}{o':HO}
def HOk.write(ok:HOk P w H h)(mu:Mut (H x))(he:e=x∨H e=some (.own x))(k:∀b u,b≠e->h.get? b=some u->h'.get? b=some u)(heo:∃u,h'.get? e=some u)
  (new:ObjOk P w (upd H x o') h' x o'):HOk P w (upd H x o') h':=fun b u q=>by
 have nown:∀c y,H c=some (.own y)->c≠x:=fun c y r z=>by subst z;rw[r]at mu;exact mu
 have ntup:∀c xs,H c=some (.tup xs)->c≠x:=fun c xs r z=>by subst z;rw[r]at mu;exact mu
 by_cases hb:b=x
 ·subst hb;rw[bT]at q;cases q;exact new
 ·rw[bn hb]at q;by_cases hbe:b=e
  ·have q':H b=some (.own x):=by
    rcases he with z|z
    ·exact absurd (hbe.trans z) hb
    ·rw[hbe];exact z
   rw[q]at q';cases q';obtain⟨v,hv⟩:=heo;exact⟨v,by rw[hbe];exact hv⟩
  ·refine(ok b u q).stay (fun c v hc r=>k c v ?_ r) (fun c r=>by rw[bn (nown c b r)];exact r) fun c xs r=>by rw[bn (ntup c xs r)];exact r
   rcases hc with rfl|hc
   ·exact hbe
   ·rintro rfl;rcases he with z|z
    ·exact nown c b hc z
    ·rw[hc]at z;cases z;exact hb rfl
end
structure Un(fs ex:List Addr)(H H':Hp)(h h':Heap):Prop where
 keep:∀b o,h.get? b=some o->H b=none->b∉fs->b∉ex->h'.get? b=some o
 slot:∀b o,h.get? b=some o->H b=none->b∈fs->b∉ex->∃sl,h'.get? b=some { o with slots:=sl }
 free:∀b o,h.get? b=some o->H b=none->b∉ex->H' b=none
 there:∀b o,h.get? b=some o->b∉ex->∃o',h'.get? b=some o'
 tups:∀b xs,H b=some (.tup xs)->H' b=some (.tup xs)
 frzs:∀b o u,H b=some (.frz o u)->H' b=some (.frz o u)
 tbls:∀b ps,H b=some (.tbl ps)->∃more,H' b=some (.tbl (ps++more))
section
variable {fs fs' ex ex':List Addr}{H H1 H2:Hp}{h h1 h2 h':Heap}{a x e:Addr}{o:HO}
def Un.any(u:Un fs ex H H1 h h1)(q:h.get? b=some ob)(n:H b=none)(hx:b∉ex):∃sl,h1.get? b=some { ob with slots:=sl }:=by
 by_cases hb:b∈fs
 ·exact u.slot b ob q n hb hx
 ·exact⟨ob.slots,u.keep b ob q n hb hx⟩
def Un.kept(k:∀b u,h.get? b=some u->h'.get? b=some u):Un fs ex H H h h' :=
 ⟨fun b ob q _ _ _=>k b ob q,fun b ob q _ _ _=>⟨ob.slots,k b ob q⟩,fun _ _ _ n _=>n,fun b ob q _=>⟨ob,k b ob q⟩,fun _ _ q=>q,fun _ _ _ q=>q,fun _ ps q=>⟨#[],by rw[q];simp⟩⟩
def Un.refl:Un fs ex H H h h:=Un.kept fun _ _ q=>q
def Un.laid(k:∀b u,h.get? b=some u->h'.get? b=some u)(hp:h.objs.size<=a)(hn:H a=none):Un fs ex H (upd H a o) h h' where
 keep:=fun b u q _ _ _=>k b u q
 slot:=fun b u q _ _ _=>⟨u.slots,k b u q⟩
 free:=fun b u q n _=>by rw[bn (Vh (Qc (Aj q) hp))];exact n
 there:=fun b u q _=>⟨u,k b u q⟩
 tups:=fun b xs q=>by rw[bn (bM q hn)];exact q
 frzs:=fun b u xs q=>by rw[bn (bM q hn)];exact q
 tbls:=fun b ps q=>⟨#[],by rw[bn (bM q hn),q];simp⟩
def Un.write(mu:Mut (H x))(he:e=x∨H e=some (.own x))(k:∀b u,b≠e->h.get? b=some u->h'.get? b=some u)(heo:∃u,h'.get? e=some u):Un fs ex H (upd H x o) h h':=by
 have hx:∀b,H b=none->b≠x:=fun b n z=>by subst z;rw[n]at mu;exact mu
 have hb:∀b,H b=none->b≠e:=fun b n z=>by
  subst z;rcases he with r|r
  ·exact hx b n r
  ·rw[n]at r;cases r
 have hm:∀b u,H b=some u->¬ Mut (some u)->b≠x:=fun b u q nm z=>by subst z;rw[q]at mu;exact nm mu
 refine⟨fun b u q n _ _=>k b u (hb b n) q,fun b u q n _ _=>⟨u.slots,k b u (hb b n) q⟩,fun b u q n _=>by rw[bn (hx b n)];exact n,fun b u q _=>?_,
  fun b xs q=>by rw[bn (hm b _ q fun z=>z)];exact q,fun b u xs q=>by rw[bn (hm b _ q fun z=>z)];exact q,fun b ps q=>⟨#[],by rw[bn (hm b _ q fun z=>z),q];simp⟩⟩
 by_cases hbe:b=e
 ·subst hbe;exact heo
 ·exact⟨u,k b u hbe q⟩
end
def trk(h:Heap)(H:Hp):List Addr:=(List.range h.objs.size).filter fun a=>(H a).isSome
def rC(h:Heap)(H:Hp):Heap:=PySem.W.hideAll h (trk h H)
def yk(h:Heap)(H:Hp):(rC h H).objs.size=h.objs.size:=PySem.W.hideAll_size _ _
def zM{h:Heap}(e:h.get? b=some o)(n:H b=none):(rC h H).get? b=some o :=
 PySem.W.hideAll_get _ e fun hm=>by
  have q:(H b).isSome=true:=(Ql.mp hm).2;rw[n]at q;simp at q
theorem GK{h:Heap}(e:(rC h H).get? b=some o):h.get? b=some o/\H b=none:=by
 have e':h.get? b=some o:=PySem.W.of_hideAll (trk h H) e;refine⟨e',?_⟩;cases q:H b with
 | none=>rfl
 | some x =>
  have hm:b∈trk h H:=Ql.mpr ⟨Zl.mpr (Aj e'),by simp[q]⟩
  have z:(rC h H).get? b=none:=PySem.W.hideAll_none (trk h H) hm;rw[z]at e;cases e
end L2
namespace L2
open PySem PySem.Spec PyProof.Rows
structure Mod(K:Ab)(mg:Str->Option Value)(base:Heap):Prop where
 kin:K.In base
 glob:base.Ns mainGlobals mg
 blt:∃mb,base.Ns builtinsNs mb/\∀x:Str,x≠"__name__"->mb x=bootBuiltins x
 nolimit:base.NoLimit
structure Cx where
 prog:Program
 w:World
 K:Ab
 mg:Str->Option Value
 base:Heap
 A:Around
 N:List Str
 s₀:Shared
 H₀:Hp
 env:Env
 outer:List Env
 stack:List Env
 ex:List Addr
 fn:Str->Bool
 calm:Bool
 pn:List (Addr×Obj)
 xe:Value->Shared->Prop
def frs(l:List Env):List Addr:=l.filterMap (·.frame)
abbrev Cx.fs(X:Cx):List Addr:=frs X.outer
def Vis(sc:Scope)(x:Str):Prop:=sc.names.lookup x=some .local∨sc.names.lookup x=some .cell∨sc.names.lookup x=some .free
def Loc(sc:Scope)(x:Str):Prop:=sc.names.lookup x=some .local∨sc.names.lookup x=some .cell
def Look(env:Env)(h:Heap)(m:Str->Option Value)(x:Str)(u:Value):Prop :=
 (env.kindOf x=some .local/\m x=some u)∨((env.kindOf x=some .cell∨env.kindOf x=some .free)/\∃c,env.cells.lookup x=some c/\h.IsCell c (some u))
structure Cx.Ok(X:Cx):Prop where
 mod:Mod X.K X.mg X.base
 kind:X.env.scope.kind=.function
 glob:X.env.globals=mainGlobals
 blt:X.env.builtins=builtinsNs
 above:X.s₀.heap.objs.size<=X.env.locals
 inj:∀x y c,X.env.cells.lookup x=some c->X.env.cells.lookup y=some c->x=y
 has:∀x,(X.env.kindOf x=some .cell∨X.env.kindOf x=some .free)->∃c,X.env.cells.lookup x=some c
 cab:∀x c,X.fn x=true->X.env.cells.lookup x=some c->X.s₀.heap.objs.size<=c
 hd:X.calm=true->X.A.handled=none
 frames:X.A.frames=some X.stack
 stk:X.stack=X.outer∨(X.stack=X.env::X.outer/\X.env.frame=some X.env.locals)
 exf:∀b∈X.ex,b≠X.env.locals/\∀x c,X.env.cells.lookup x=some c->c≠b
 bs:∀b o,X.base.get? b=some o->X.s₀.heap.get? b=some o/\X.H₀ b=none
 bsz:X.base.objs.size<=X.s₀.heap.objs.size
 noex:∀b o,X.base.get? b=some o->b∉X.ex
 exfs:∀b∈X.ex,b∉X.fs
 funs:X.s₀.heap.FunFrames X.base X.outer
 frf:∀b∈X.fs,X.H₀ b=none
structure Inv(X:Cx)(pins:List (Addr×Obj))(σ:List (Option V))(H:Hp)(s:Shared):Prop where
 ok:X.Ok
 os:s.os=X.s₀.os
 bare:AllBare s.gens
 base:Un X.fs X.ex X.H₀ H X.s₀.heap s.heap
 loc:∃m,s.heap.Ns X.env.locals m/\∀(i:Nat)(x:Str)(v:V),X.N[i]?=some x->σ[i]?=some (some v)->Vis X.env.scope x->∃u,RelV v u/\Look X.env s.heap m x u
 cell:∀x c,X.env.cells.lookup x=some c->∃v,s.heap.IsCell c v
 free:H X.env.locals=none
 freeC:∀x c,X.env.cells.lookup x=some c->H c=none
 pin:∀p∈X.pn++pins,s.heap.get? p.1=some p.2/\H p.1=none/\p.1≠X.env.locals/\p.1∉X.fs/\∀v,p.2.data≠.cell v
 hok:HOk X.prog X.w H s.heap
 len:σ.length=X.N.length
section
variable {X:Cx}{pins:List (Addr×Obj)}{σ:List (Option V)}{H H':Hp}{s:Shared}{h':Heap}
def Cx.Ok.nofr(ok:X.Ok)(e:X.base.get? b=some o):b∉X.fs:=fun hb=>by
 have:=(ok.funs.mem hb).1;rw[e]at this;cases this
theorem Inv.bs(I:Inv X pins σ H s):∀b o,X.base.get? b=some o->s.heap.get? b=some o/\H b=none:=fun b o e =>
 ⟨I.base.keep b o (I.ok.bs b o e).1 (I.ok.bs b o e).2 (I.ok.nofr e) (I.ok.noex b o e),I.base.free b o (I.ok.bs b o e).1 (I.ok.bs b o e).2 (I.ok.noex b o e)⟩
def Inv.bk(I:Inv X pins σ H s):∀b o,X.base.get? b=some o->s.heap.get? b=some o:=fun b o e=>(I.bs b o e).1
theorem Inv.mod(I:Inv X pins σ H s):Mod X.K X.mg X.base:=I.ok.mod
def Inv.kIn(I:Inv X pins σ H s):X.K.In s.heap:=I.ok.mod.kin.keeps I.bk
theorem Inv.lt(I:Inv X pins σ H s):X.env.locals<s.heap.objs.size:=let ⟨_,hn,_⟩:=I.loc;hn.lt
def Inv.sz(I:Inv X pins σ H s):X.s₀.heap.objs.size<=s.heap.objs.size:=Zd I.ok.above (Wj I.lt)
def Inv.nofs(I:Inv X pins σ H s)(h:s.heap.objs.size<=a):a∉X.fs:=fun hb=>by
 obtain⟨_,o,ho,_⟩:=I.ok.funs.mem hb;exact absurd (Qc (Aj ho) (Zd I.sz h)) (Zj _)
def Inv.cne(I:Inv X pins σ H s):∀x c,X.env.cells.lookup x=some c->c≠X.env.locals:=fun x c e z=>by
 obtain⟨v,o,ho,hd⟩:=I.cell x c e;obtain⟨m,⟨o',es,ep,ho',hd',_⟩,_⟩:=I.loc;rw[z,ho']at ho;cases ho;rw[hd']at hd;cases hd
theorem Inv.funs(I:Inv X pins σ H s):s.heap.FunFrames X.base X.outer:=by
 have all:∀(l:List Env),(∀b∈frs l,b∈X.fs)->X.s₀.heap.FunFrames X.base l->s.heap.FunFrames X.base l:=by
  intro l;induction l with
  | nil=>intro _ _;trivial
  | cons env r ih =>
   intro hs hl;obtain⟨hk,⟨L,o,hf,hn,ho,hd⟩,hr⟩:=hl;have hL:L∈X.fs:=hs L (by unfold frs;rw[Qj,hf];exact Wb)
   obtain⟨sl,e⟩:=I.base.slot L o ho (I.ok.frf L hL) hL fun z=>I.ok.exfs L z hL;exact⟨hk,⟨L,_,hf,hn,e,hd⟩,ih (fun b hb=>hs b (by unfold frs;rw[Qj,hf];exact Vb _ hb)) hr⟩
 exact all X.outer (fun _ hb=>hb) I.ok.funs
theorem Inv.stack(I:Inv X pins σ H s):s.heap.FunFrames X.base X.stack:=by
 rcases I.ok.stk with e|⟨e,hf⟩
 ·rw[e];exact I.funs
 ·rw[e];obtain⟨m,hn,_⟩:=I.loc;refine .cons (by rw[I.ok.kind];decide) hf hn ?_ I.funs
  exact Heap.get?_none_of_le (Zd I.ok.bsz I.ok.above)
def Inv.stkSub(I:Inv X pins σ H s):∀b∈frs X.stack,b∈X.env.locals::X.fs:=fun b hb=>by
 rcases I.ok.stk with e|⟨e,hf⟩
 ·rw[e]at hb;exact Vb _ hb
 ·rw[e]at hb;unfold frs at hb;rw[Qj,hf]at hb;exact hb
def Inv.stkFree(I:Inv X pins σ H s):∀b∈frs X.stack,H b=none:=fun b hb=>by
 rcases Vd.mp (I.stkSub b hb) with e|hb
 ·rw[e];exact I.free
 ·obtain⟨_,o,ho,_⟩:=I.ok.funs.mem hb;exact I.base.free b o ho (I.ok.frf b hb) fun z=>I.ok.exfs b z hb
def Inv.step{g':Array GenState}{t':Nat}{d':Drawn}{ch:List Addr}(I:Inv X pins σ H s)
  (hch:∀b∈ch,(b∈X.ex∨X.s₀.heap.objs.size<=b)/\b≠X.env.locals/\(∀x c,X.env.cells.lookup x=some c->c≠b)/\∀p∈X.pn++pins,p.1≠b)
  (keep:∀b o,b≠X.env.locals->b∉X.fs->b∉ch->s.heap.get? b=some o->H b=none->h'.get? b=some o)
  (slot:∀b o,b≠X.env.locals->b∈X.fs->b∉ch->s.heap.get? b=some o->H b=none->∃sl,h'.get? b=some { o with slots:=sl }) (free:∀b o,b∉ch->s.heap.get? b=some o->H b=none->H' b=none)
  (there:∀b o,b∉ch->s.heap.get? b=some o->∃o',h'.get? b=some o')
  (tups:∀b xs,H b=some (.tup xs)->H' b=some (.tup xs)) (frzs:∀b o u,H b=some (.frz o u)->H' b=some (.frz o u)) (tbls:∀b ps,H b=some (.tbl ps)->∃more,H' b=some (.tbl (ps++more)))
  (ns:∀m,s.heap.Ns X.env.locals m->h'.Ns X.env.locals m) (hok:HOk X.prog X.w H' h') (hg:AllBare g') :
  Inv X pins σ H' { s with heap:=h',gens:=g',drawn:=d',toks:=t' }:=by
 have neL:∀b o,X.s₀.heap.get? b=some o->b≠X.env.locals:=fun b o e=>Vh (Qc (Aj e) I.ok.above);have neC:∀b o,X.s₀.heap.get? b=some o->b∉X.ex->b∉ch:=fun b o e hx hb=>by
  rcases(hch b hb).1 with z|z
  ·exact hx z
  ·exact absurd (Qc (Aj e) z) (Zj _)
 have cellK:∀x c,X.env.cells.lookup x=some c->∀v,s.heap.IsCell c v->h'.IsCell c v:=fun x c e v ⟨o,ho,hd⟩=>by
  have nch:c∉ch:=fun z=>(hch c z).2.2.1 x c e rfl;by_cases hc:c∈X.fs
  ·obtain⟨sl,q⟩:=slot c o (I.cne x c e) hc nch ho (I.freeC x c e);exact⟨_,q,hd⟩
  ·exact⟨o,keep c o (I.cne x c e) hc nch ho (I.freeC x c e),hd⟩
 refine⟨I.ok,I.os,hg,⟨fun b o e n hb hx=>?_,fun b o e n hb hx=>?_,fun b o e n hx=>?_,fun b o e hx=>?_,fun b xs e=>tups b xs (I.base.tups b xs e),fun b o xs e=>frzs b o xs (I.base.frzs b o xs e),fun b ps e=>?_⟩,?_,fun x c e=>?_,?_,fun x c e=>?_,fun p hp=>?_,hok,I.len⟩
 ·exact keep b o (neL b o e) hb (neC b o e hx) (I.base.keep b o e n hb hx) (I.base.free b o e n hx)
 ·obtain⟨sl,e1⟩:=I.base.slot b o e n hb hx;obtain⟨sl',e2⟩:=slot b _ (neL b o e) hb (neC b o e hx) e1 (I.base.free b o e n hx);exact⟨sl',e2⟩
 ·obtain⟨o',e1⟩:=I.base.there b o e hx;exact free b o' (neC b o e hx) e1 (I.base.free b o e n hx)
 ·obtain⟨o',e1⟩:=I.base.there b o e hx;exact there b o' (neC b o e hx) e1
 ·obtain⟨m1,e1⟩:=I.base.tbls b ps e;obtain⟨m2,e2⟩:=tbls b _ e1;exact⟨m1++m2,by rw[e2,Array.append_assoc]⟩
 ·obtain⟨m,hn,hl⟩:=I.loc;refine⟨m,ns m hn,fun i x v e1 e2 e3=>?_⟩;obtain⟨u,r,l⟩:=hl i x v e1 e2 e3;refine⟨u,r,?_⟩;rcases l with l|⟨k,c,e,z⟩
  ·exact .inl l
  ·exact .inr ⟨k,c,e,cellK x c e _ z⟩
 ·obtain⟨v,z⟩:=I.cell x c e;exact⟨v,cellK x c e v z⟩
 ·obtain⟨m,⟨o,_,_,ho,_⟩,_⟩:=I.loc;exact free _ o (fun z=>(hch _ z).2.1 rfl) ho I.free
 ·obtain⟨v,o,ho,hd⟩:=I.cell x c e;exact free c o (fun z=>(hch c z).2.2.1 x c e rfl) ho (I.freeC x c e)
 ·obtain⟨e,n,ne,nf,d⟩:=I.pin p hp;have nch:p.1∉ch:=fun z=>(hch p.1 z).2.2.2 p hp rfl;exact⟨keep p.1 p.2 ne nf nch e n,free p.1 p.2 nch e n,ne,nf,d⟩
def Inv.un{t':Nat}(I:Inv X pins σ H s)(u:Un X.fs [] H H' s.heap h')(hok:HOk X.prog X.w H' h'):Inv X pins σ H' { s with heap:=h',toks:=t' }:=by
 obtain⟨m,⟨o,es,ep,ho,r⟩,_⟩:=id I.loc;obtain⟨sl,hL⟩:=u.any ho I.free (by simp)
 exact I.step (g':=s.gens) (d':=s.drawn) (ch:=[]) (fun _ z=>nomatch z) (fun b o _ hb _ e n=>u.keep b o e n hb (by simp)) (fun b o _ hb _ e n=>u.slot b o e n hb (by simp)) (fun b o _ e n=>u.free b o e n (by simp)) (fun b o _ e=>u.there b o e (by simp)) u.tups u.frzs u.tbls (fun m' hm=>by
  obtain⟨o',es',ep',ho',r'⟩:=hm;rw[ho]at ho';cases ho'
  exact⟨_,es',ep',hL,r'⟩) hok I.bare
def Inv.call{g':Array GenState}{t':Nat}{d':Drawn}{ch:List Addr}(I:Inv X pins σ H s)(u:Un (frs X.stack) ch H H' s.heap h')(hok:HOk X.prog X.w H' h')(hg:AllBare g')
  (hch:∀b∈ch,(b∈X.ex∨X.s₀.heap.objs.size<=b)/\b≠X.env.locals/\(∀x c,X.env.cells.lookup x=some c->c≠b)/\∀p∈X.pn++pins,p.1≠b) :
  Inv X pins σ H' { s with heap:=h',gens:=g',drawn:=d',toks:=t' }:=by
 obtain⟨m,⟨o,es,ep,ho,r⟩,_⟩:=id I.loc;obtain⟨sl,hL⟩:=u.any ho I.free fun z=>(hch _ z).2.1 rfl
 exact I.step (ch:=ch) hch (fun b o hL hb hc e n=>u.keep b o e n (fun z=>(Vd.mp (I.stkSub b z)).elim hL hb) hc) (fun b o _ _ hc e n=>u.any e n hc) (fun b o hc e n=>u.free b o e n hc) (fun b o hc e=>u.there b o e hc) u.tups u.frzs u.tbls (fun m' hm=>by
  obtain⟨o',es',ep',ho',r'⟩:=hm;rw[ho]at ho';cases ho'
  exact⟨_,es',ep',hL,r'⟩) hok hg
def Inv.turned{t':Nat}{it:Addr}(I:Inv X pins σ H s)(k:∀b o,b≠it->s.heap.get? b=some o->h'.get? b=some o)(hn:H it=none)(hL:it≠X.env.locals)
  (h1:it∈X.ex∨X.s₀.heap.objs.size<=it)(h2:∀x c,X.env.cells.lookup x=some c->c≠it)(h3:∀p∈X.pn++pins,p.1≠it):Inv X pins σ H { s with heap:=h',toks:=t' }:=by
 have nit:∀b u,H b=some u->b≠it:=fun b u e z=>by rw[z,hn]at e;cases e
 refine I.step (g':=s.gens) (d':=s.drawn) (ch:=[it]) (fun b hb=>?_) (fun b o _ _ hc e _=>k b o (fun z=>hc (by simp[z])) e) (fun b o _ _ hc e _=>⟨o.slots,k b o (fun z=>hc (by simp[z])) e⟩) (fun _ _ _ _ n=>n)
  (fun b o hc e=>⟨o,k b o (fun z=>hc (by simp[z])) e⟩) (fun _ _ e=>e) (fun _ _ _ e=>e) (fun b ps e=>⟨#[],by rw[e];simp⟩) (fun m hm=>?_) (fun b u e=>?_) I.bare
 ·have e:b=it:=by simpa using hb
  subst e;exact⟨h1,hL,h2,h3⟩
 ·obtain⟨o,es,ep,ho,r⟩:=hm;exact⟨o,es,ep,k _ o (AL hL) ho,r⟩
 ·refine(I.hok b u e).stay (fun c v hc q=>k c v ?_ q) (fun _ q=>q) fun _ _ q=>q;rcases hc with z|z
  ·rw[z];exact nit b u e
  ·exact nit c _ z
def Inv.tok(I:Inv X pins σ H s)(t:Nat):Inv X pins σ H { s with toks:=t }:=I.un (h':=s.heap) (t':=t) Un.refl I.hok
theorem Inv.kept{t':Nat}(I:Inv X pins σ H s)(k:∀b u,s.heap.get? b=some u->h'.get? b=some u):Inv X pins σ H { s with heap:=h',toks:=t' }:=I.un (Un.kept k) (I.hok.kept k)
theorem Inv.laid{t':Nat}(I:Inv X pins σ H s)(k:∀b u,s.heap.get? b=some u->h'.get? b=some u)(hp:s.heap.objs.size<=a)(new:ObjOk X.prog X.w (upd H a o) h' a o) :
  Inv X pins σ (upd H a o) { s with heap:=h',toks:=t' }:=I.un (Un.laid k hp (I.hok.fresh hp)) (I.hok.laid k hp new)
theorem Inv.write{t':Nat}(I:Inv X pins σ H s)(mu:Mut (H x))(he:e=x∨H e=some (.own x))(k:∀b u,b≠e->s.heap.get? b=some u->h'.get? b=some u)(heo:∃u,h'.get? e=some u)
  (new:ObjOk X.prog X.w (upd H x o) h' x o):Inv X pins σ (upd H x o) { s with heap:=h',toks:=t' }:=I.un (Un.write mu he k heo) (I.hok.write mu he k heo new)
def Inv.weak{σ':List (Option V)}(I:Inv X pins σ H s)(hl:σ'.length=σ.length)(w:∀(i:Nat) v,σ'[i]?=some (some v)->σ[i]?=some (some v)):Inv X pins σ' H s :=
 ⟨I.ok,I.os,I.bare,I.base,let ⟨m,hn,hl'⟩:=I.loc;⟨m,hn,fun i x v e1 e2 e3=>hl' i x v e1 (w i v e2) e3⟩,I.cell,I.free,I.freeC,I.pin,I.hok,hl.trans I.len⟩
def Inv.pins_of(I:Inv X pins σ H s)(h:∀p∈pins',s.heap.get? p.1=some p.2/\H p.1=none/\p.1≠X.env.locals/\p.1∉X.fs/\∀v,p.2.data≠.cell v):Inv X pins' σ H s :=
 ⟨I.ok,I.os,I.bare,I.base,I.loc,I.cell,I.free,I.freeC,fun p hp=>(Wc.mp hp).elim (fun z=>I.pin p (Wh _ z)) (h p),I.hok,I.len⟩
def tF{N:List Str}(hN:N.Nodup){i j:Nat}{x:Str}(a:N[i]?=some x)(b:N[j]?=some x):i=j:=by
 obtain⟨h1,e1⟩:=Qb.mp a;obtain⟨h2,e2⟩:=Qb.mp b;exact(List.getElem_inj hN).mp (e1.trans e2.symm)
def qu{M:Model}{A:Around}{E:Value->Shared->Prop}{i:Nat}{x:Str}{v:V}{u:Value}{Q:Unit->Shared->Prop}(I:Inv X pins σ H s)(hN:X.N.Nodup)(hi:X.N[i]?=some x)(hx:Loc X.env.scope x)(r:RelV v u)
  (h:∀s',Inv X pins (σ.set i (some v)) H s'->(∃a,Heap.SameBut a s.heap s'.heap/\(a=X.env.locals∨X.env.cells.lookup x=some a))->Q () s')(hf:X.fn x=true∨X.env.scope.names.lookup x=some .local:=by first|exact .inl rfl|exact .inr rfl|assumption):wpAny M A (storeName X.env x u) Q E s:=by
 obtain⟨m,hn,hl⟩:=id I.loc;have hcls:(X.env.scope.kind == .class||(X.env.scope.kind == .module&&X.env.locals != X.env.globals))=false:=by rw[I.ok.kind];rfl
 have hiσ:i<σ.length:=by rw[I.len];exact(Qb.mp hi).1
 have cne:=I.cne;have tracked:∀{a:Addr}{h':Heap},(∃o,s.heap.get? a=some o/\H a=none)->Heap.SameBut a s.heap h'->HOk X.prog X.w H h':=fun {a h'} ha hs b ob e=>by
  obtain⟨_,_,hfree⟩:=ha;refine(I.hok b ob e).stay (fun c w' hc q=>(hs.2 c ?_).trans q) (fun _ q=>q) fun _ _ q=>q;rintro rfl;rcases hc with rfl|hc
  ·rw[hfree]at e;cases e
  ·rw[hfree]at hc;cases hc
 rcases hx with hk|hk
 ·refine wpAny_storeName_local hk hn (fun h' hn' hs=>?_) hcls;obtain⟨oL,_,_,hoL,_⟩:=id hn;refine h _ ⟨I.ok,I.os,I.bare,⟨fun b o e n hb hx=>?_,fun b o e n hb hx=>?_,I.base.free,fun b o e hx=>?_,I.base.tups,I.base.frzs,I.base.tbls⟩,⟨_,hn',fun j y v' e1 e2 e3=>?_⟩,fun y c e=>?_,I.free,I.freeC,fun p hp=>?_,tracked ⟨oL,hoL,I.free⟩ hs,by simpa using I.len⟩ ⟨_,hs,.inl rfl⟩
  ·exact(hs.2 b (Vh (Qc (Aj e) I.ok.above))).trans (I.base.keep b o e n hb hx)
  ·obtain⟨sl,e1⟩:=I.base.slot b o e n hb hx;exact⟨sl,(hs.2 b (Vh (Qc (Aj e) I.ok.above))).trans e1⟩
  ·obtain⟨o',e1⟩:=I.base.there b o e hx;exact⟨o',(hs.2 b (Vh (Qc (Aj e) I.ok.above))).trans e1⟩
  ·by_cases hj:j=i
   ·subst hj;rw[hi]at e1;cases e1;rw[BS hiσ]at e2;cases e2;exact⟨u,r,.inl ⟨hk,by simp⟩⟩
   ·rw[List.getElem?_set_ne (AL hj)]at e2;obtain⟨u',r',q⟩:=hl j y v' e1 e2 e3;refine⟨u',r',?_⟩;rcases q with⟨k,e⟩|⟨k,c,e,z⟩
    ·refine .inl ⟨k,?_⟩;have:y≠x:=fun e=>hj (tF hN e1 (e ▸ hi));simp[this,e]
    ·exact .inr ⟨k,c,e,z.sameBut hs (cne y c e)⟩
  ·obtain⟨w',z⟩:=I.cell y c e;exact⟨w',z.sameBut hs (cne y c e)⟩
  ·obtain⟨e,n,ne,nf,d⟩:=I.pin p hp;exact⟨(hs.2 p.1 ne).trans e,n,ne,nf,d⟩
 ·have hfn:X.fn x=true:=by
   rcases hf with z|z
   ·exact z
   ·rw[z]at hk;cases hk
  obtain⟨c,hc⟩:=I.ok.has x (.inl hk);obtain⟨w',z⟩:=I.cell x c hc;refine wpAny_storeName_cell I.ok.kind hk hc z (fun h' hc' hs=>?_);obtain⟨oc,hoc,hocd⟩:=id z;refine h { s with heap:=h' } ⟨I.ok,I.os,I.bare,⟨fun b o e n hb hx=>?_,fun b o e n hb hx=>?_,I.base.free,fun b o e hx=>?_,I.base.tups,I.base.frzs,I.base.tbls⟩,⟨m,hn.sameBut hs (AL (cne x c hc)),fun j y v' e1 e2 e3=>?_⟩,fun y c' e=>?_,I.free,I.freeC,fun p hp=>?_,tracked ⟨oc,hoc,I.freeC x c hc⟩ hs,by simpa using I.len⟩ ⟨c,hs,.inr hc⟩
  ·exact(hs.2 b (Vh (Qc (Aj e) (I.ok.cab x c hfn hc)))).trans (I.base.keep b o e n hb hx)
  ·obtain⟨sl,e1⟩:=I.base.slot b o e n hb hx;exact⟨sl,(hs.2 b (Vh (Qc (Aj e) (I.ok.cab x c hfn hc)))).trans e1⟩
  ·obtain⟨o',e1⟩:=I.base.there b o e hx;exact⟨o',(hs.2 b (Vh (Qc (Aj e) (I.ok.cab x c hfn hc)))).trans e1⟩
  ·by_cases hj:j=i
   ·subst hj;rw[hi]at e1;cases e1;rw[BS hiσ]at e2;cases e2;exact⟨u,r,.inr ⟨.inl hk,c,hc,hc'⟩⟩
   ·rw[List.getElem?_set_ne (AL hj)]at e2;obtain⟨u',r',q⟩:=hl j y v' e1 e2 e3;refine⟨u',r',?_⟩;rcases q with q|⟨k,c',e,z'⟩
    ·exact .inl q
    ·refine .inr ⟨k,c',e,z'.sameBut hs ?_⟩;rintro rfl;exact hj (tF hN e1 (I.ok.inj _ _ _ e hc ▸ hi))
  ·by_cases hcc:c'=c
   ·subst hcc;exact⟨_,hc'⟩
   ·obtain⟨w2,z2⟩:=I.cell y c' e;exact⟨w2,z2.sameBut hs hcc⟩
  ·obtain⟨e,n,ne,nf,d⟩:=I.pin p hp;refine⟨(hs.2 p.1 ?_).trans e,n,ne,nf,d⟩;intro q;rw[q,hoc]at e;have q':oc=p.2:=Option.some.inj e;exact d w' (by rw[← q'];exact hocd)
def zN(I:Inv X pins σ H s)(hN:X.N.Nodup)(hi:X.N[i]?=some x)(hx:Loc X.env.scope x)(r:RelV v u)
  (h:∀s',Inv X pins (σ.set i (some v)) H s'->Q () s')(hf:X.fn x=true∨X.env.scope.names.lookup x=some .local:=by first|exact .inl rfl|exact .inr rfl|assumption):wpAny M A (storeName X.env x u) Q E s :=
 qu I hN hi hx r (fun s' I' _=>h s' I') hf
def Inv.call'{s':Shared}(I:Inv X pins σ H s)(ho:s'.os=s.os)(u:Un (frs X.stack) ch H H' s.heap s'.heap)(hok:HOk X.prog X.w H' s'.heap)(hg:AllBare s'.gens)
  (hch:∀b∈ch,(b∈X.ex∨X.s₀.heap.objs.size<=b)/\b≠X.env.locals/\(∀x c,X.env.cells.lookup x=some c->c≠b)/\∀p∈X.pn++pins,p.1≠b):Inv X pins σ H' s':=by
 obtain⟨h',g',d',t',o'⟩:=s';have e:o'=s.os:=ho;subst e;exact I.call (g':=g') (t':=t') (d':=d') u hok hg hch
end
abbrev XK:=Value->Option Addr->Hp->Prop
abbrev St:=List (Option V)
abbrev VK:=V->Hp->Prop
abbrev TE:=St->Hp->VK->Prop
abbrev TT:=St->Hp->(Bool->Hp->Prop)->Prop
abbrev TA:=St->Hp->(List V->Hp->Prop)->Prop
structure Ends where
 nx:St->Hp->Prop
 rt:VK
 bk:St->Hp->Prop:=fun _ _=>False
 ct:St->Hp->Prop:=fun _ _=>False
abbrev TS:=Ends->St->Hp->Prop
inductive EP(X:Cx)(pins:List (Addr×Obj))(σ:St)(Q:VK)(u:Value)(s':Shared):Prop
 | mk (v:V) (H':Hp) (I:Inv X pins σ H' s') (r:RelV v u) (q:Q v H')
def TP(X:Cx)(pins:List (Addr×Obj))(σ:St)(Q:Bool->Hp->Prop)(b:Bool)(s':Shared):Prop:=∃H',Inv X pins σ H' s'/\Q b H'
inductive AP(X:Cx)(pins:List (Addr×Obj))(σ:St)(Q:List V->Hp->Prop)(us:List Value)(s':Shared):Prop
 | mk (vs:List V) (H':Hp) (I:Inv X pins σ H' s') (r:Vals vs us) (q:Q vs H')
def SP(X:Cx)(pins:List (Addr×Obj))(D:Ends)(f:Flow)(s':Shared):Prop :=
 match f with
 | .next=>∃σ' H',Inv X pins σ' H' s'/\D.nx σ' H'
 | .brk=>∃σ' H',Inv X pins σ' H' s'/\D.bk σ' H'
 | .cont=>∃σ' H',Inv X pins σ' H' s'/\D.ct σ' H'
 | .ret u=>∃v σ' H',Inv X pins σ' H' s'/\RelV v u/\D.rt v H'
def PE(X:Cx)(e:Expr)(t:TE):Prop :=
 ∀(pins:List (Addr×Obj))(s:Shared)(σ:St)(H:Hp)(Q:VK),Inv X pins σ H s->t σ H Q->wpAny (model X.prog X.w) X.A (eval e X.env) (EP X pins σ Q) X.xe s
def PT(X:Cx)(e:Expr)(t:TT):Prop :=
 ∀(pins:List (Addr×Obj))(s:Shared)(σ:St)(H:Hp)(Q:Bool->Hp->Prop),Inv X pins σ H s->t σ H Q->wpAny (model X.prog X.w) X.A (isTrue e X.env (eval e X.env)) (TP X pins σ Q) X.xe s
def PW(X:Cx)(e:Expr)(t:TT):Prop :=
 ∀(whole:Sem Value)(pins:List (Addr×Obj))(s:Shared)(σ:St)(H:Hp)(Q:Bool->Hp->Prop),Inv X pins σ H s->t σ H Q->wpAny (model X.prog X.w) X.A (isTrue e X.env whole) (TP X pins σ Q) X.xe s
def PW.pt(h:PW X e t):PT X e t:=h _
def PA(X:Cx)(es:List Expr)(t:TA):Prop :=
 ∀(pos:Pos)(pins:List (Addr×Obj))(s:Shared)(σ:St)(H:Hp)(Q:List V->Hp->Prop),Inv X pins σ H s->t σ H Q->wpAny (model X.prog X.w) X.A (spliced (backTo pos (starEach es X.env))) (AP X pins σ Q) X.xe s
def PS(X:Cx)(st:Stmt)(t:TS):Prop :=
 ∀(pins:List (Addr×Obj))(s:Shared)(σ:St)(H:Hp)(D:Ends),Inv X pins σ H s->t D σ H->wpAny (model X.prog X.w) X.A (exec st X.env) (SP X pins D) X.xe s
def PSs(X:Cx)(st:List Stmt)(t:TS):Prop :=
 ∀(pins:List (Addr×Obj))(s:Shared)(σ:St)(H:Hp)(D:Ends),Inv X pins σ H s->t D σ H->wpAny (model X.prog X.w) X.A (execs st X.env) (SP X pins D) X.xe s
def thn(h:wpAny M A t Q E s)(hQ:∀a s,Q a s->Q' a s):wpAny M A t Q' E s:=AA h hQ fun _ _ x=>x
end L2
namespace L2
open PySem PySem.Spec PyProof.Rows
section
variable {X:Cx}
def vn(i:Nat):TE:=fun σ H Q=>∃v,σ[i]?=some (some v)/\Q v H
def tC(v:V):TE:=fun _ H Q=>Q v H
def Jy(hN:X.N[i]?=some x)(hv:Vis X.env.scope x)(hd:(x == ("__debug__":Str))=false:=by decide)(hcd:(x == ("__classdict__":Str))=false:=by decide):PE X (.Name x pos) (vn i):=by
 intro pins s σ H Q I h;obtain⟨v,e,h⟩:=h;obtain⟨m,hn,hl⟩:=I.loc;obtain⟨u,r,l⟩:=hl i x v hN e hv;have fin:EP X pins σ Q u s:=⟨v,H,I,r,h⟩;rcases l with⟨hk,hm⟩|⟨hk,c,hc,hcell⟩
 ·exact wpAny_Name (wpAny_loadName_local I.ok.kind hk hn hm fin) hd
 ·rcases hk with hk|hk
  ·exact wpAny_Name (wpAny_loadName_cell I.ok.kind hk hc hcell fin) hd
  ·exact wpAny_Name (wpAny_loadName_free I.ok.kind hk hc hcell fin hcd) hd
def ao{i j pos}:PE X (.Constant (.int i) j pos) (tC (.int i)):=fun _ _ _ H _ I h=>Ck ⟨.int i,H,I.tok _,⟨_,rfl⟩,h⟩
def jt{b j pos}:PE X (.Constant (.bool b) j pos) (tC (.bl b)):=fun _ _ _ H _ I h=>Constant_bool ⟨.bl b,H,I,rfl,h⟩
def rD{j pos}:PE X (.Constant .none j pos) (tC .non):=fun _ _ _ H _ I h=>Constant_none ⟨.non,H,I,rfl,h⟩
def cS{x j pos}:PE X (.Constant (.str x) j pos) (tC (.str x)):=fun _ _ _ H _ I h=>Calls.Constant_str ⟨.str x,H,I.tok _,⟨_,rfl⟩,h⟩
def Gl(X:Cx)(x:Str):Prop:=X.env.kindOf x=some .globalImplicit
def rE(I:Inv X pins σ H s)(hg:Gl X x)(hm:X.mg x=some u)(h:Q u s)
  (hd:(x == ("__debug__":Str))=false:=by decide):wpAny (model X.prog X.w) X.A (eval (.Name x pos) X.env) Q E s :=
 De I.ok.kind hg (Calls.loadGlobal_global (by rw[I.ok.glob];exact I.mod.glob.keeps I.bk) hm h) hd
def ou(I:Inv X pins σ H s)(hg:Gl X x)(hm:X.mg x=none)(hv:bootBuiltins x=some u)(h:Q u s)
  (hn:x≠"__name__":=by decide)(hd:(x == ("__debug__":Str))=false:=by decide):wpAny (model X.prog X.w) X.A (eval (.Name x pos) X.env) Q E s:=by
 obtain⟨mb,h1,h2⟩:=I.mod.blt;exact De I.ok.kind hg (Calls.loadGlobal_builtin (by rw[I.ok.glob];exact I.mod.glob.keeps I.bk) hm (by rw[I.ok.blt];exact h1.keeps I.bk) ((h2 x hn).trans hv) h) hd
def wB(hg:Gl X x)(hm:X.mg x=some u)(r:RelV v u)(hd:(x == ("__debug__":Str))=false:=by decide):PE X (.Name x pos) (tC v) :=
 fun _ _ _ H _ I h=>rE I hg hm ⟨v,H,I,r,h⟩ hd
def GL(hg:Gl X x)(hm:X.mg x=none)(hv:bootBuiltins x=some u)(r:RelV v u)(hn:x≠"__name__":=by decide)(hd:(x == ("__debug__":Str))=false:=by decide):PE X (.Name x pos) (tC v) :=
 fun _ _ _ H _ I h=>ou I hg hm hv ⟨v,H,I,r,h⟩ hn hd
variable {a b:Expr}{ta tb:TE}{pos:Pos}
def tB(t:TE):TT:=fun σ H Q=>t σ H fun x H1=>∃c,x=.bl c/\Q c H1
def cL{e:Expr}(h:PE X e t)(he:∀whole,isTrue e X.env whole=(do let v ← whole;standAt e.pos;holding [v] (truthy v)):=by intro _;rfl):PT X e (tB t):=by
 intro pins s σ H Q I hw;refine isTrue_plain (thn (h pins s σ H _ I hw) fun v s1 zz9=>?_) (he _);obtain⟨x,H1,I1,r1,q1⟩:=zz9;obtain⟨d,rfl,q⟩:=q1;cases r1;exact Ay ⟨H1,I1,q⟩
variable {tA tB':TT}{rest:List Expr}
def LL(t u:TT):TT:=fun σ H Q=>t σ H fun c H1=>if c=true then u σ H1 Q else Q false H1
def tOr(t u:TT):TT:=fun σ H Q=>t σ H fun c H1=>if c=true then Q true H1 else u σ H1 Q
def LM(t:TT):TT:=fun σ H Q=>t σ H fun c H1=>Q (!c) H1
theorem f9(ha:PT X a tA):PW X (.BoolOp .And [a] pos) tA:=by
 intro wh pins s σ H Q I h;refine isTrue_and (thn (ha pins s σ H Q I h) fun c s1 e=>?_);cases c with
 | true=>exact isTrue_and_nil e
 | false=>exact e
theorem hW(ha:PT X a tA):PW X (.BoolOp .Or [a] pos) tA:=by
 intro wh pins s σ H Q I h;refine isTrue_or (thn (ha pins s σ H Q I h) fun c s1 e=>?_);cases c with
 | false=>exact isTrue_or_nil e
 | true=>exact e
theorem hZ(ha:PT X a tA)(hb:PW X (.BoolOp .And (b::rest) pos) tB'):PW X (.BoolOp .And (a::b::rest) pos) (LL tA tB'):=by
 intro wh pins s σ H Q I h;refine isTrue_and (thn (ha pins s σ H _ I h) fun c s1 zz9=>?_);obtain⟨H1,I1,q1⟩:=zz9;cases c with
 | true=>exact hb wh pins s1 σ H1 Q I1 q1
 | false=>exact⟨H1,I1,q1⟩
theorem jl(ha:PT X a tA)(hb:PW X (.BoolOp .Or (b::rest) pos) tB'):PW X (.BoolOp .Or (a::b::rest) pos) (tOr tA tB'):=by
 intro wh pins s σ H Q I h;refine isTrue_or (thn (ha pins s σ H _ I h) fun c s1 zz9=>?_);obtain⟨H1,I1,q1⟩:=zz9;cases c with
 | true=>exact⟨H1,I1,q1⟩
 | false=>exact hb wh pins s1 σ H1 Q I1 q1
def eQ(ha:PT X a tA):PT X (.UnaryOp .Not a pos) (LM tA):=by
 intro pins s σ H Q I h;exact isTrue_not (ha pins s σ H (fun c H1=>Q (!c) H1) I h)
def IA(ta tb:TE):TE:=fun σ H Q=>ta σ H fun x H1=>∃c,x=.bl c/\if c=true then tb σ H1 Q else Q (.bl false) H1
def IB(ta:TE):TE:=fun σ H Q=>ta σ H fun x H1=>∃c,x=.bl c/\Q (.bl (!c)) H1
def ia{op}(h:PE X a t):PE X (.BoolOp op [a] pos) t:=fun pins s σ H Q I hw=>BoolOp_one (h pins s σ H Q I hw)
theorem gw(ha:PE X a ta)(hb:PE X (.BoolOp .And (b::rest) pos) tb):PE X (.BoolOp .And (a::b::rest) pos) (IA ta tb):=by
 intro pins s σ H Q I h;refine BoolOp_and (thn (ha pins s σ H _ I h) fun v s1 zz9=>?_);obtain⟨x,H1,I1,r1,q1⟩:=zz9;obtain⟨c,rfl,q1⟩:=q1;cases r1;refine Ay ?_;cases c with
 | true=>exact hb pins s1 σ H1 Q I1 q1
 | false=>exact⟨.bl false,H1,I1,rfl,q1⟩
def Jz(ha:PE X a ta):PE X (.UnaryOp .Not a pos) (IB ta):=by
 intro pins s σ H Q I h;refine UnaryOp_ (thn (ha pins s σ H _ I h) fun v s1 zz9=>?_);obtain⟨x,H1,I1,r1,q1⟩:=zz9;obtain⟨c,rfl,q1⟩:=q1;cases r1;exact not_of (Ay ⟨.bl (!c),H1,I1,rfl,q1⟩)
def tIf(t:TT)(ta tb:TE):TE:=fun σ H Q=>t σ H fun c H1=>if c=true then ta σ H1 Q else tb σ H1 Q
theorem lD(hc:PT X c tA)(ha:PE X a ta)(hb:PE X b tb):PE X (.IfExp c a b pos) (tIf tA ta tb):=by
 intro pins s σ H Q I h;refine wpAny_IfExp (thn (hc pins s σ H _ I h) fun d s1 zz9=>?_);obtain⟨H1,I1,q1⟩:=zz9;cases d with
 | true=>exact ha pins s1 σ H1 Q I1 q1
 | false=>exact hb pins s1 σ H1 Q I1 q1
end
end L2
namespace L2
open PySem PySem.Spec PyProof.Rows
def SqL(K:Ab)(H:Hp)(a:Addr)(xs:List V):Prop :=
 Rd H a (.lst xs) ∨
  ∃(o:Obj)(its:Array Value)(n:Nat),K.lookup a=some o/\o.cls=.type "list"/\o.dict=none/\o.data=.seq its n/\its.size<=sizeLine/\Vals xs its.toList
def SqT(K:Ab)(H:Hp)(a:Addr)(xs:List V):Prop :=
 Rd H a (.tup xs) ∨
  ∃(o:Obj)(its:Array Value)(n:Nat),K.lookup a=some o/\o.cls=.type "tuple"/\o.data=.seq its n/\its.size<=sizeLine/\Vals xs its.toList
def Nh:Value->Option V
 | .none=>some .non
 | .bool b=>some (.bl b)
 | .int i _=>some (.int i)
 | .str x _=>some (.str x)
 | .bytes b _=>some (.byt b)
 | .float b _=>some (.flt b)
 | .ref a=>some (.ref a)
 | .type n=>some (.ty n)
 | _=>none
theorem RelV.abs(r:RelV x u):Nh u=some x:=by
 cases x with
 | non=>cases r;rfl
 | bl _=>cases r;rfl
 | int _=>obtain⟨t,rfl⟩:=r;rfl
 | str _=>obtain⟨t,rfl⟩:=r;rfl
 | byt _=>obtain⟨t,rfl⟩:=r;rfl
 | flt _=>obtain⟨t,rfl⟩:=r;rfl
 | ref _=>cases r;rfl
 | ty _=>cases r;rfl
theorem RelV.inj(r:RelV x u)(q:RelV y u):x=y:=Option.some.inj (r.abs.symm.trans q.abs)
theorem Vals.inj:∀{xs ys:List V}{us:List Value},Vals xs us->Vals ys us->xs=ys
 | _,_,_,.nil,.nil=>rfl
 | _,_,_,.cons r t,.cons r' t'=>by rw[r.inj r',Vals.inj t t']
section
variable {X:Cx}{pins:List (Addr×Obj)}{σ:St}{H:Hp}{s:Shared}{a:Addr}{xs ys:List V}
def Inv.list(I:Inv X pins σ H s)(h:SqL X.K H a xs):∃its:List Value,Vals xs its/\PlainL s.heap a its.toArray/\xs.length<=sizeLine:=by
 rcases h with h|⟨o,its,n,hk,hc,hd,hs,hz,r⟩
 ·obtain⟨z,its,n,r,e⟩:=h.ok I.hok;exact⟨its,r,⟨_,n,e,rfl,rfl,rfl⟩,z⟩
 ·refine⟨its.toList,r,⟨o,n,I.kIn a o hk,hc,hd,by simpa using hs⟩,?_⟩
  have e:=r.length;simp only[Yd]at e;lia
def Inv.tuple(I:Inv X pins σ H s)(h:SqT X.K H a xs):∃its:List Value,Vals xs its/\IsTup s.heap a its.toArray/\xs.length<=sizeLine:=by
 rcases h with h|⟨o,its,n,hk,hc,hs,hz,r⟩
 ·obtain⟨z,its,r,p⟩:=h.ok I.hok;exact⟨its,r,p,z⟩
 ·refine⟨its.toList,r,⟨o,I.kIn a o hk,hc,n,by simpa using hs⟩,?_⟩
  have e:=r.length;simp only[Yd]at e;lia
def Inv.list_inj(I:Inv X pins σ H s)(h:SqL X.K H a xs)(h':SqL X.K H a ys):xs=ys:=by
 obtain⟨its,r,⟨o,n,e,_,_,d⟩,_⟩:=I.list h;obtain⟨its',r',⟨o',n',e',_,_,d'⟩,_⟩:=I.list h';rw[e]at e';cases e';rw[d]at d';injection d' with d1 _;have:its=its':=by simpa using congrArg Array.toList d1
 subst this;exact r.inj r'
def Inv.tuple_inj(I:Inv X pins σ H s)(h:SqT X.K H a xs)(h':SqT X.K H a ys):xs=ys:=by
 obtain⟨its,r,⟨o,e,_,n,d⟩,_⟩:=I.tuple h;obtain⟨its',r',⟨o',e',_,n',d'⟩,_⟩:=I.tuple h';rw[e]at e';cases e';rw[d]at d';injection d' with d1 _;have:its=its':=by simpa using congrArg Array.toList d1
 subst this;exact r.inj r'
end
abbrev Cx.wish(X:Cx)(E:Value->Shared->Prop):Cx:={ X with xe:=E }
abbrev Cx.nox(X:Cx):Cx:=X.wish fun _ _=>False
theorem Cx.Ok.wish{X:Cx}(ok:X.Ok)(E:Value->Shared->Prop):(X.wish E).Ok :=
 ⟨ok.mod,ok.kind,ok.glob,ok.blt,ok.above,ok.inj,ok.has,ok.cab,ok.hd,ok.frames,ok.stk,ok.exf,ok.bs,ok.bsz,ok.noex,ok.exfs,ok.funs,ok.frf⟩
def Cx.Ok.unwish{X:Cx}(ok:(X.wish E).Ok):X.Ok :=
 ⟨ok.mod,ok.kind,ok.glob,ok.blt,ok.above,ok.inj,ok.has,ok.cab,ok.hd,ok.frames,ok.stk,ok.exf,ok.bs,ok.bsz,ok.noex,ok.exfs,ok.funs,ok.frf⟩
section
variable {X:Cx}{pins:List (Addr×Obj)}{σ:St}{H:Hp}{s:Shared}{E:Value->Shared->Prop}
theorem Inv.wish(I:Inv X pins σ H s)(E:Value->Shared->Prop):Inv (X.wish E) pins σ H s:=⟨I.ok.wish E,I.os,I.bare,I.base,I.loc,I.cell,I.free,I.freeC,I.pin,I.hok,I.len⟩
theorem Inv.unwish(I:Inv (X.wish E) pins σ H s):Inv X pins σ H s:=⟨I.ok.unwish,I.os,I.bare,I.base,I.loc,I.cell,I.free,I.freeC,I.pin,I.hok,I.len⟩
theorem SP.unwish(h:SP (X.wish E) pins D f s'):SP X pins D f s':=by
 cases f with
 | next=>obtain⟨σ',H',I,q⟩:=h;exact⟨σ',H',I.unwish,q⟩
 | brk=>obtain⟨σ',H',I,q⟩:=h;exact⟨σ',H',I.unwish,q⟩
 | cont=>obtain⟨σ',H',I,q⟩:=h;exact⟨σ',H',I.unwish,q⟩
 | ret u=>obtain⟨v,σ',H',I,r,q⟩:=h;exact⟨v,σ',H',I.unwish,r,q⟩
theorem PSs.nox{st:List Stmt}{t:TS}(h:PSs X.nox st t):PSs X st t:=fun pins s σ H D I hw =>
 AA (h pins s σ H D (I.wish _) hw) (fun _ _ q=>q.unwish) fun _ _ z=>False.elim z
end
section
variable {X:Cx}{st:Stmt}{rest:List Stmt}{t u:TS}{e:Expr}{te:TE}{pos:Pos}
def IC:TS:=fun D σ H=>D.nx σ H
def LN(t u:TS):TS:=fun D σ H=>t { D with nx:=u D } σ H
def bj:PSs X [] IC:=fun _ _ σ H _ I h=>BV ⟨σ,H,I,h⟩
theorem am(h1:PS X st t)(h2:PSs X rest u):PSs X (st::rest) (LN t u):=by
 intro pins s σ H D I h;refine wpAny_execs_cons (thn (h1 pins s σ H { D with nx:=u D } I h) fun f s1 q=>?_);cases f with
 | next =>
  obtain⟨σ',H',I',q⟩:=q;exact h2 pins s1 σ' H' D I' q
 | ret v=>exact q
 | brk=>exact q
 | cont=>exact q
theorem aA(h1:PS X st t):PSs X [st] t:=by
 intro pins s σ H D I h;refine wpAny_execs_cons (thn (h1 pins s σ H D I h) fun f s1 q=>?_);cases f with
 | next=>exact BV q
 | ret v=>exact q
 | brk=>exact q
 | cont=>exact q
def Inv.quiet(I:Inv X pins σ H s):interactive X.env=false:=by simp[interactive,I.ok.kind]
def ID(te:TE):TS:=fun D σ H=>te σ H fun _ H1=>D.nx σ H1
def cj(he:PE X e te)(hs:swapsWith e none pos.line X.env=pure false:=by rfl):PS X (.Expr e pos) (ID te):=by
 intro pins s σ H D I h;exact wpAny_Expr_any (thn (he pins s σ H _ I h) fun v s1 ⟨x,H1,I1,r1,q1⟩=>⟨σ,H1,I1,q1⟩) I.quiet hs
def LO(te:TE):TS:=fun D σ H=>te σ H D.rt
def aK(he:PE X e te):PS X (.Return (some e) pos) (LO te):=by
 intro pins s σ H D I h;exact wpAny_Return_some (thn (he pins s σ H _ I h) fun v s1 ⟨x,H1,I1,r1,q1⟩=>⟨x,σ,H1,I1,r1,q1⟩)
def LP(c:TT)(t u:TS):TS:=fun D σ H=>c σ H fun b H1=>if b=true then t D σ H1 else u D σ H1
theorem bW(hc:PT X c tc)(ha:PSs X a t)(hb:PSs X b u):PS X (.If c a b pos) (LP tc t u):=by
 intro pins s σ H D I h;refine wpAny_If (thn (hc pins s σ H _ I h) fun d s1 zz9=>?_);obtain⟨H1,I1,q1⟩:=zz9;cases d with
 | true=>exact ha pins s1 σ H1 D I1 q1
 | false=>exact hb pins s1 σ H1 D I1 q1
def zO:TS:=fun _ _ _=>False
def tG:PS X st zO:=fun _ _ _ _ _ _ h=>h.elim
end
abbrev TG:=V->St->Hp->(St->Hp->Prop)->Prop
abbrev TGs:=List V->St->Hp->(St->Hp->Prop)->Prop
def PG(X:Cx)(target:Expr)(t:TG):Prop :=
 ∀(pins:List (Addr×Obj))(s:Shared)(σ:St)(H:Hp)(v:V)(u:Value)(Q:St->Hp->Prop),Inv X pins σ H s->RelV v u->t v σ H Q ->
  wpAny (model X.prog X.w) X.A (assign target X.env u) (fun _ s'=>∃σ' H',Inv X pins σ' H' s'/\Q σ' H') X.xe s
def PGs(X:Cx)(ts:List Expr)(t:TGs):Prop :=
 ∀(pins:List (Addr×Obj))(s:Shared)(σ:St)(H:Hp)(vs:List V)(us:List Value)(Q:St->Hp->Prop),Inv X pins σ H s->Vals vs us->t vs σ H Q ->
  wpAny (model X.prog X.w) X.A (assignInOrder ((assignEach ts X.env).map (·.2)) us) (fun _ s'=>∃σ' H',Inv X pins σ' H' s'/\Q σ' H') X.xe s
abbrev GM:=V->V->V->Hp->(Hp->Prop)->Prop
def JA(X:Cx)(t:GM):Prop :=
 ∀(pins:List (Addr×Obj))(s:Shared)(σ:St)(H:Hp)(o i v:V)(ov iv u:Value)(Q:Hp->Prop),Inv X pins σ H s->RelV o ov->RelV i iv->RelV v u->t o i v H Q ->
  wpAny (model X.prog X.w) X.A (setItem ov iv u) (fun _ s'=>∃H',Inv X pins σ H' s'/\Q H') X.xe s
section
variable {X:Cx}{pos:Pos}
def ox(i:Nat):TG:=fun v σ H Q=>Q (σ.set i (some v)) H
def wC(hN:X.N.Nodup)(hi:X.N[i]?=some x)(hx:Loc X.env.scope x)(hf:X.fn x=true∨X.env.scope.names.lookup x=some .local:=by first|exact .inl rfl|exact .inr rfl|assumption):PG X (.Name x pos) (ox i):=by
 intro pins s σ H v u Q I r h;exact wpAny_assign_Name (zN I hN hi hx r (fun s' I'=>⟨_,H,I',h⟩) hf)
def LQ:TGs:=fun vs σ H Q=>vs=[]/\Q σ H
def IE(t:TG)(u:TGs):TGs:=fun vs σ H Q=>∃v r,vs=v::r/\t v σ H fun σ' H'=>u r σ' H' Q
def iL:PGs X [] LQ:=by
 intro pins s σ H vs us Q I r h;obtain⟨e,h⟩:=h;subst e;cases r;exact assignInOrder_nil ⟨σ,H,I,h⟩
def cU(h1:PG X e t)(h2:PGs X es u)
  (hs:(assignEach (e::es) X.env).map (·.2)=assign e X.env::(assignEach es X.env).map (·.2):=by rfl):PGs X (e::es) (IE t u):=by
 intro pins s σ H vs us Q I r h;obtain⟨v,vr,e1,h⟩:=h;subst e1;cases r with
 | cons r rr =>
  rw[hs];refine assignInOrder_cons (thn (h1 pins s σ H _ _ _ I r h) fun _ s1 zz9=>?_);obtain⟨σ1,H1,I1,q1⟩:=zz9;exact h2 pins s1 σ1 H1 _ _ Q I1 rr q1
def JB(K:Ab)(n:Nat)(t:TGs):TG:=fun v σ H Q=>∃a xs,v=.ref a/\SqT K H a xs/\xs.length=n/\t xs σ H Q
def JC(hc:X.calm=true)(h:PGs X es t)
  (hn:(assignEach es X.env).length=n:=by rfl)(hst:(assignEach es X.env).findIdx? (·.1)=none:=by rfl):PG X (.Tuple es k pos) (JB X.K n t):=by
 intro pins s σ H v u Q I r hw;obtain⟨a,xs,e1,hq,hl,hw⟩:=hw;subst e1;cases r;obtain⟨its,rv,ht,hz⟩:=I.tuple hq;refine assign_Tuple_tuple (I.ok.hd hc) ht (by simp[hn,← hl,rv.length]) hst fun h' hx=>?_
 have I1:Inv X pins σ H { s with heap:=h' }:=I.kept (t':=s.toks) fun b o e=>hx b o (Vh (Aj e)) e;exact h pins _ σ H xs _ Q I1 (by simpa using rv) hw
def LR(to ti:TE)(t:GM):TG:=fun v σ H Q=>to σ H fun o H1=>ti σ H1 fun i H2=>t o i v H2 fun H3=>Q σ H3
def ju(ho:PE X o to)(hi:PE X i ti)(hs:JA X t)
  (ha:∀v,assign (.Subscript o i pos) X.env v=(do
   let ov ← holding [v] (eval o X.env)
   let iv ← holding [v,ov] (eval i X.env)
   standAt pos
   holding [v,ov,iv] (setItem ov iv v)
   release [v,ov,iv] []):=by intro _;rfl):PG X (.Subscript o i pos) (LR to ti t):=by
 intro pins s σ H v u Q I r h;rw[ha];refine Aa (AB (thn (ho pins s σ H _ I h) fun ov s1 zz9=>?_));obtain⟨x,H1,I1,r1,q1⟩:=zz9;refine Aa (AB (thn (hi pins s1 σ H1 _ I1 q1) fun iv s2 zz9=>?_));obtain⟨y,H2,I2,r2,q2⟩:=zz9;refine Aa (wpAny_standAt (Aa (AB (thn (hs pins s2 σ H2 x y v ov iv u _ I2 r1 r2 r q2) fun _ s3 zz9=>?_))));obtain⟨H3,I3,q3⟩:=zz9;exact wpAny_release ⟨σ,H3,I3,q3⟩
def vo(te:TE)(g:TG):TS:=fun D σ H=>te σ H fun x H1=>g x σ H1 D.nx
def ib(he:PE X e te)(hg:PG X tg g)(hs:swapsWithSole [tg] e pos.line X.env=pure false:=by rfl)(hw:swappedStores [tg] e X.env=pure none:=by rfl)
  (h1:(assignEach [tg] X.env).map (·.2)=[assign tg X.env]:=by rfl):PS X (.Assign [tg] e pos) (vo te g):=by
 intro pins s σ H D I h;refine wpAny_Assign_stores (thn (he pins s σ H _ I h) fun v s1 zz9=>?_) hs hw;obtain⟨x,H1,I1,r1,q1⟩:=zz9;rw[h1];exact thn (hg pins s1 σ H1 x v _ I1 r1 q1) fun _ s2 q=>q
end
section
variable {X:Cx}{pos:Pos}
def zP(c:TT)(tb:TS):TS:=fun D σ H=>∃W:Nat->St->Hp->Prop,(∃m,W m σ H)/\∀m σ H,W m σ H ->
 c σ H fun b H1=>if b=true then ∃N:St->Hp->Prop,(∀σ' H',N σ' H'->∃m',m'<m/\W m' σ' H')/\tb { D with nx:=N,ct:=N,bk:=D.nx } σ H1 else D.nx σ H1
theorem tH(hp:PassesOwn (model X.prog X.w) X.A X.env X.xe)(hc:PT X c tc)(hb:PSs X body tb):PS X (.While c body [] pos) (zP tc tb):=by
 intro pins s σ H D I h;obtain⟨W,⟨m0,w0⟩,turn⟩:=h;refine wpAny_While (codeAny_whileLoop (fun n s'=>∃σ' H',Inv X pins σ' H' s'/\W n σ' H') ?_ m0 ⟨σ,H,I,w0⟩);rintro n s1 ⟨σ1,H1,I1,w1⟩;refine AI hp (thn (hc pins s1 σ1 H1 _ I1 (turn n σ1 H1 w1)) fun b s2 zz9=>?_);obtain⟨H2,I2,q2⟩:=zz9;cases b with
 | true =>
  obtain⟨N,hN,q2⟩:=q2;rw[Ae rfl];refine AI hp (thn (hb pins s2 σ1 H2 _ I2 q2) fun f s3 q3=>?_);cases f with
  | next =>
   obtain⟨σ3,H3,I3,n3⟩:=q3;obtain⟨m',hm,w3⟩:=hN σ3 H3 n3;exact⟨m',hm,σ3,H3,I3,w3⟩
  | cont =>
   obtain⟨σ3,H3,I3,n3⟩:=q3;obtain⟨m',hm,w3⟩:=hN σ3 H3 n3;exact⟨m',hm,σ3,H3,I3,w3⟩
  | brk=>exact q3
  | ret v=>exact q3
 | false =>
  rw[Ak Wd];exact BV ⟨σ1,H2,I2,q2⟩
end
structure It where
 go:Nat->Hp->Prop
 yld:Nat->Hp->V->Hp->Prop
 stop:Nat->Hp->Prop
def nF(X:Cx)(pins:List (Addr×Obj))(H:Hp)(b:Addr):Prop :=
 H b=none/\b≠X.env.locals/\b∉X.fs/\(b∈X.ex∨X.s₀.heap.objs.size<=b)/\(∀x c,X.env.cells.lookup x=some c->c≠b)/\∀p∈X.pn++pins,p.1≠b
def Inv.fpOk{s:Shared}(I:Inv X pins σ H s)(hb:s.heap.objs.size<=b)(hn:H' b=none):nF X pins H' b:=by
 refine⟨hn,Vj (Qc I.lt hb),I.nofs hb,.inr (Zd I.sz hb),fun x c e z=>?_,fun p hp z=>?_⟩
 ·obtain⟨v,q⟩:=I.cell x c e;exact absurd (Qc q.lt (by rw[z];exact hb)) (Zj _)
 ·exact absurd (Qc (Aj (I.pin p hp).1) (by rw[z];exact hb)) (Zj _)
structure Turn(P:Program)(w:World)(K:Ab)(tg:Expr)(J:It)(fp:List Addr)(it:Addr)(tn:Nat->Heap->Prop):Prop where
 mem:it∈fp
 obj:∀i h,tn i h->∀b∈fp,∃o,h.get? b=some o/\∀v,o.data≠.cell v
 keep:∀i h h',tn i h->(∀b∈fp,∀o,h.get? b=some o->h'.get? b=some o)->tn i h'
 item:∀(X:Cx),X.prog=P->X.w=w->X.K=K->X.calm=true->∀(i:Nat)(pins:List (Addr×Obj))(s:Shared)(σ:St)(H:Hp)(E:Value->Shared->Prop),Inv X pins σ H s->(∀b∈fp,nF X pins H b)->tn i s.heap->J.go i H ->
  wpAny (model P w) X.A (pyNext (.ref it)) (fun r s1=>∃u,r=some u /\
   wpAny (model P w) X.A (letOwnedTupleGo tg (.ref it) u) (fun _ s2=>∃x H',Inv X pins σ H' s2/\RelV x u/\J.yld i H x H'/\tn (i+1) s2.heap/\∀b∈fp,H' b=none) E s1) E s
 done:∀(X:Cx),X.prog=P->X.w=w->X.K=K->X.calm=true->∀(i:Nat)(pins:List (Addr×Obj))(s:Shared)(σ:St)(H:Hp)(E:Value->Shared->Prop),Inv X pins σ H s->(∀b∈fp,nF X pins H b)->tn i s.heap->J.stop i H ->
  wpAny (model P w) X.A (pyNext (.ref it)) (fun r s1=>r=none/\Inv X pins σ H s1) E s
 self:∀(A:Around)(i:Nat)(s:Shared)(Q:Value->Shared->Prop)(E:Value->Shared->Prop),tn i s.heap->Q (.ref it) s->wpAny (model P w) A (pyIter (.ref it)) Q E s
abbrev TI:=St->Hp->(It->Hp->Prop)->Prop
inductive PIE(X:Cx)(pins:List (Addr×Obj))(σ:St)(tg:Expr)(R:It->Hp->Prop)(itv:Value)(s2:Shared):Prop
 | mk (it:Addr) (fp:List Addr) (tn:Nat->Heap->Prop) (J:It) (H':Hp) (e:itv=.ref it) (I:Inv X pins σ H' s2) (T:Turn X.prog X.w X.K tg J fp it tn) (t0:tn 0 s2.heap) (fo:∀b∈fp,nF X pins H' b) (r:R J H')
def PI(X:Cx)(tg iter:Expr)(wi:TI):Prop :=
 ∀(pins:List (Addr×Obj))(s:Shared)(σ:St)(H:Hp)(R:It->Hp->Prop),Inv X pins σ H s->wi σ H R ->
  wpAny (model X.prog X.w) X.A (eval iter X.env) (fun v s1=>wpAny (model X.prog X.w) X.A (pyIter v) (PIE X pins σ tg R) X.xe s1) X.xe s
def tI{s : Shared}{o : Obj}(ho : s.heap.get? it = some o)(hc : o.cls = .type n)(hd : o.data = .fields vs)
    (hn : ["enumerate", "zip", "dict_itemiterator", "dict_reverseitemiterator", "odict_iterator", "itertools.zip_longest", "itertools.pairwise"].contains n = false)(hQ : Q () s) : wpAny M A (letOwnedTupleGo tg (.ref it) u) Q E s := by
  unfold letOwnedTupleGo;cases tg <;> first
    | exact Ad hQ
    | (cases u <;> first
        | exact Ad hQ
        | (refine Aa (wpAny_load ho ?_)
           rw [hc, hd];show wpAny M A (if (["enumerate", "zip", "dict_itemiterator", "dict_reverseitemiterator", "odict_iterator", "itertools.zip_longest", "itertools.pairwise"].contains n && vs[0]? == some (rawInt _)) = true then _ else _) Q E s;rw [Ak (by intro h; rw [hn, Bool.false_and] at h; cases h)]
           exact Ad hQ))
def Itl(K:Ab)(a:Addr):It :=
 ⟨fun i H=>∃xs x,SqL K H a xs/\xs[i]?=some x,fun i H x H'=>H'=H/\∀xs,SqL K H a xs->xs[i]?=some x,fun i H=>∃xs,SqL K H a xs/\xs.length<=i⟩
def Itt(K:Ab)(a:Addr):It :=
 ⟨fun i H=>∃xs x,SqT K H a xs/\xs[i]?=some x,fun i H x H'=>H'=H/\∀xs,SqT K H a xs->xs[i]?=some x,fun i H=>∃xs,SqT K H a xs/\xs.length<=i⟩
def Itr(lo:Int)(n:Nat):It:=⟨fun i _=>i<n,fun i H x H'=>H'=H/\x=.int (lo+i),fun i _=>n<=i⟩
def yn{P:Program}{w:World}{K:Ab}{tg:Expr}(a it:Addr):Turn P w K tg (Itl K a) [it] it (fun i h=>h.IsListIter it a i) where
 mem:=by simp
 obj:=fun i h st b hb=>by
  have e:b=it:=by simpa using hb
  subst e;obtain⟨o,e,c,d⟩:=st;exact⟨o,e,fun v z=>by rw[d]at z;cases z⟩
 keep:=fun i h h' st k=>st.at fun o e=>k it (by simp) o e
 item:=by
  intro X hP hw hK hc i pins s σ H E I hf st hg;subst hP hw hK;obtain⟨xs,x,hq,hx⟩:=hg;obtain⟨its,rv,p,hz⟩:=I.list hq;obtain⟨u,hu,ru⟩:=rv.get hx;obtain⟨f0,f1,f2,f3,f4,f5⟩:=hf it (by simp)
  refine wpAny_pyNext_list_item st p.isList (x:=u) (by simpa using hu) fun h' st' sb=>?_
  have I1:Inv X pins σ H { s with heap:=h' }:=I.turned (t':=s.toks) (fun b o hb e=>(sb.2 b hb).trans e) f0 f1 f3 f4 f5;obtain⟨o,e,c,d⟩:=id st';exact⟨u,rfl,tI (s:={ s with heap:=h' }) e c d (by decide) ⟨x,H,I1,ru,⟨rfl,fun ys hy=>by rw[I.list_inj hy hq];exact hx⟩,st',fun b hb=>(hf b hb).1⟩⟩
 done:=by
  intro X hP hw hK hc i pins s σ H E I hf st hg;subst hP hw hK;obtain⟨xs,hq,hx⟩:=hg;obtain⟨its,rv,p,hz⟩:=I.list hq;obtain⟨f0,f1,f2,f3,f4,f5⟩:=hf it (by simp)
  have hl:=rv.length;exact wpAny_pyNext_list_end (I.ok.hd hc) st p.isList (by simp;lia) fun h' eb=>⟨rfl,I.turned (t':=s.toks) (fun b o hb e=>eb b o hb e) f0 f1 f3 f4 f5⟩
 self:=fun _ _ _ _ _ st h=>wpAny_pyIter_listiter st h
def vp{P:Program}{w:World}{K:Ab}{tg:Expr}(a it:Addr):Turn P w K tg (Itt K a) [it] it (fun i h=>h.IsTupleIter it a i) where
 mem:=by simp
 obj:=fun i h st b hb=>by
  have e:b=it:=by simpa using hb
  subst e;obtain⟨o,e,c,d⟩:=st;exact⟨o,e,fun v z=>by rw[d]at z;cases z⟩
 keep:=fun i h h' st k=>st.at fun o e=>k it (by simp) o e
 item:=by
  intro X hP hw hK hc i pins s σ H E I hf st hg;subst hP hw hK;obtain⟨xs,x,hq,hx⟩:=hg;obtain⟨its,rv,p,hz⟩:=I.tuple hq;obtain⟨u,hu,ru⟩:=rv.get hx;obtain⟨f0,f1,f2,f3,f4,f5⟩:=hf it (by simp)
  refine wpAny_pyNext_tuple_item st (show s.heap.IsTuple a its.toArray from p) (x:=u) (by simpa using hu) fun h' st' sb=>?_
  have I1:Inv X pins σ H { s with heap:=h' }:=I.turned (t':=s.toks) (fun b o hb e=>(sb.2 b hb).trans e) f0 f1 f3 f4 f5;obtain⟨o,e,c,d⟩:=id st';exact⟨u,rfl,tI (s:={ s with heap:=h' }) e c d (by decide) ⟨x,H,I1,ru,⟨rfl,fun ys hy=>by rw[I.tuple_inj hy hq];exact hx⟩,st',fun b hb=>(hf b hb).1⟩⟩
 done:=by
  intro X hP hw hK hc i pins s σ H E I hf st hg;subst hP hw hK;obtain⟨xs,hq,hx⟩:=hg;obtain⟨its,rv,p,hz⟩:=I.tuple hq;obtain⟨f0,f1,f2,f3,f4,f5⟩:=hf it (by simp)
  have hl:=rv.length;exact wpAny_pyNext_tuple_end (I.ok.hd hc) st (show s.heap.IsTuple a its.toArray from p) (by simp;lia) fun h' eb=>⟨rfl,I.turned (t':=s.toks) (fun b o hb e=>eb b o hb e) f0 f1 f3 f4 f5⟩
 self:=fun _ _ _ _ _ st h=>wpAny_pyIter_tupleiter st h
def vq{P:Program}{w:World}{K:Ab}{tg:Expr}(it:Addr)(lo:Int)(n:Nat):Turn P w K tg (Itr lo n) [it] it (fun i h=>IsRangeIter h it (lo+(i:Nat)*1) ((n:Int)-(i:Nat)) 1) where
 mem:=by simp
 obj:=fun i h st b hb=>by
  have e:b=it:=by simpa using hb
  subst e
  exact⟨_,st,fun v z=>by
   have z':Data.fields _=Data.cell v:=z
   cases z'⟩
 keep:=fun i h h' st k=>k it (by simp) _ st
 item:=by
  intro X hP hw hK hc i pins s σ H E I hf st hg;subst hP hw hK;obtain⟨f0,f1,f2,f3,f4,f5⟩:=hf it (by simp)
  have W:=Walks.range (prog:=X.prog) (w:=X.w) (I.ok.hd hc) it lo 1 n;refine W.item i s _ _ hg st fun v h' tk hv st' kk=>?_;obtain⟨t,rfl⟩:=hv;have I1:Inv X pins σ H { s with heap:=h',toks:=tk }:=I.turned (fun b o hb e=>kk b o (by simpa using hb) e) f0 f1 f3 f4 f5
  refine⟨_,rfl,tI (s:={ s with heap:=h',toks:=tk }) (n:="range_iterator") st' rfl rfl (by decide) ⟨.int (lo+i),H,I1,⟨t,?_⟩,⟨rfl,rfl⟩,st',fun b hb=>(hf b hb).1⟩⟩
  rw[Int.mul_one]
 done:=by
  intro X hP hw hK hc i pins s σ H E I hf st hg;subst hP hw hK;obtain⟨f0,f1,f2,f3,f4,f5⟩:=hf it (by simp)
  exact wpAny_pyNext_range_end (I.ok.hd hc) st (by have:n<=i:=hg;lia) fun h' eb=>⟨rfl,I.turned (t':=s.toks) (fun b o hb e=>eb b o hb e) f0 f1 f3 f4 f5⟩
 self:=fun _ _ _ _ _ st h=>wpAny_pyIter_rangeiter st h
end L2
namespace L2
open PySem PySem.Spec PyProof.Rows
section
variable {X:Cx}{tg:Expr}
def wD(K:Ab)(tl:TE):TI:=fun σ H R=>tl σ H fun x H1=>∃a,x=.ref a/\(∃xs,SqL K H1 a xs)/\R (Itl K a) H1
def JD(K:Ab)(tl:TE):TI:=fun σ H R=>tl σ H fun x H1=>∃a,x=.ref a/\(∃xs,SqT K H1 a xs)/\R (Itt K a) H1
def GN{l:Expr}{tl:TE}(hl:PE X l tl):PI X tg l (wD X.K tl):=by
 intro pins s σ H R I h;refine thn (hl pins s σ H _ I h) fun v s1 zz9=>?_;obtain⟨x,H1,I1,r1,q1⟩:=zz9;obtain⟨a,e,⟨xs,hq⟩,q⟩:=q1;subst e;cases r1;obtain⟨its,rv,p,hz⟩:=I1.list hq;refine CG p.isList ?_;refine⟨s1.heap.objs.size,[s1.heap.objs.size],_,_,H1,rfl,I1.kept (t':=s1.toks) fun b o e=>Ac _ e,yn a _,⟨_,Ai _ rfl,rfl,rfl⟩,fun b hb=>?_,q⟩;have e:b=s1.heap.objs.size:=by simpa using hb
 subst e;exact I1.fpOk (Qa _) (I1.hok.fresh (Qa _))
def JE{l:Expr}{tl:TE}(hl:PE X l tl):PI X tg l (JD X.K tl):=by
 intro pins s σ H R I h;refine thn (hl pins s σ H _ I h) fun v s1 zz9=>?_;obtain⟨x,H1,I1,r1,q1⟩:=zz9;obtain⟨a,e,⟨xs,hq⟩,q⟩:=q1;subst e;cases r1;obtain⟨its,rv,p,hz⟩:=I1.tuple hq;refine wpAny_pyIter_tuple (show s1.heap.IsTuple a its.toArray from p) ?_;refine⟨s1.heap.objs.size,[s1.heap.objs.size],_,_,H1,rfl,I1.kept (t':=s1.toks) fun b o e=>Ac _ e,vp a _,⟨_,Ai _ rfl,rfl,rfl⟩,fun b hb=>?_,q⟩;have e:b=s1.heap.objs.size:=by simpa using hb
 subst e;exact I1.fpOk (Qa _) (I1.hok.fresh (Qa _))
def zQ{s:Shared}{R:It->Hp->Prop}{E:Value->Shared->Prop}{lo hi:Int}{t u v:Tok}{tk:Nat}(I:Inv X pins σ H s)(h1:-(2 ^ 62)<=lo)(h2:lo<2 ^ 62)(h3:-(2 ^ 62)<=hi)(h4:hi<2 ^ 62)
  (q:R (Itr lo (hi-lo).toNat) H):wpAny (model X.prog X.w) X.A (pyIter (.ref s.heap.objs.size)) (PIE X pins σ tg R) E { s with heap:=s.heap.push { cls:=.type "range",data:=.fields #[.int lo t,.int hi u,.int 1 v] },toks:=tk }:=by
 refine wpAny_pyIter_range (IsRange.new ..) (small_one h1 h2 h3 h4) ?_;have I1:Inv X pins σ H { s with heap:=s.heap.push { cls:=.type "range",data:=.fields #[.int lo t,.int hi u,.int 1 v] },toks:=tk }:=I.kept fun b o e=>Ac _ e
 refine⟨(s.heap.push { cls:=.type "range",data:=.fields #[.int lo t,.int hi u,.int 1 v] }).objs.size,[(s.heap.push { cls:=.type "range",data:=.fields #[.int lo t,.int hi u,.int 1 v] }).objs.size],_,_,H,rfl,
  I1.kept (t':=tk) fun b o e=>Ac _ e,vq _ lo (hi-lo).toNat,?_,fun b hb=>?_,q⟩
 ·have e1:lo+((0:Nat):Int)*1=lo:=by simp
  have e2:(((hi-lo).toNat:Nat):Int)-((0:Nat):Int)=Builtin.Range.rangeSize lo hi 1:=by rw[rangeSize_one];split<;>lia
  show IsRangeIter _ _ (lo+((0:Nat):Int)*1) ((((hi-lo).toNat:Nat):Int)-((0:Nat):Int)) 1;rw[e1,e2];exact Ai _ rfl
 ·have e:b=(s.heap.push { cls:=.type "range",data:=.fields #[.int lo t,.int hi u,.int 1 v] }).objs.size:=by simpa using hb
  subst e;exact I1.fpOk (Qa _) (I1.hok.fresh (Qa _))
def IF(ta:TA):TI:=fun σ H R=>ta σ H fun vs H1=>∃j:Int,vs=[.int j]/\-(2 ^ 62)<=j/\j<2 ^ 62/\R (Itr 0 j.toNat) H1
theorem iA{ta:TA}(hg:Gl X "range")(hm:X.mg "range"=none)(ha:PA X [a] ta)(hs:starEach [a] X.env=[(false,eval a X.env)]:=by rfl):PI X tg (.Call (.Name "range" p) [a] [] pos) (IF ta):=by
 intro pins s σ H R I h;refine Call_ (ou I hg hm boot_range (Bs (thn (ha pos pins s σ H _ I h) fun us s1 zz9=>?_) hs rfl));obtain⟨vs,H1,I1,r1,q1⟩:=zz9;obtain⟨j,e,q1,q2,q⟩:=q1;subst e;cases r1 with
 | cons r rr =>
  cases rr;obtain⟨t,rfl⟩:=r;exact call_range_1 (zQ I1 (by lia) (by lia) q1 q2 (by simpa using q))
def LS(wi:TI)(g:TG)(tb:TS):TS:=fun D σ H=>wi σ H fun J H1=>∃W:Nat->Nat->St->Hp->Prop,(∃m,W 0 m σ H1)/\∀i m σ H,W i m σ H ->
 (J.stop i H/\D.nx σ H)∨(J.go i H/\∃N:St->Hp->Prop,(∀σ' H',N σ' H'->∃m',m'<m/\W (i+1) m' σ' H')/\∀x H',J.yld i H x H'->g x σ H' fun σ2 H2=>tb { D with nx:=N,ct:=N,bk:=D.nx } σ2 H2)
def oy(fp:List Addr)(h:Heap):List (Addr×Obj):=fp.filterMap fun b=>(h.get? b).map fun o=>(b,o)
def iM{h:Heap}(hb:b∈fp)(e:h.get? b=some o):(b,o)∈oy fp h:=List.mem_filterMap.mpr ⟨b,hb,by rw[e];rfl⟩
theorem yo{h:Heap}(hp:p∈oy fp h):p.1∈fp/\h.get? p.1=some p.2:=by
 obtain⟨b,hb,e⟩:=List.mem_filterMap.mp hp;cases q:h.get? b with
 | none=>rw[q]at e;cases e
 | some o =>
  rw[q]at e;have e':(b,o)=p:=Option.some.inj e;subst e';exact⟨hb,q⟩
def Inv.pinned{s:Shared}(I:Inv X pins σ H s)(hf:∀b∈fp,nF X pins H b)(ho:∀b∈fp,∃o,s.heap.get? b=some o/\∀v,o.data≠.cell v):Inv X (pins++oy fp s.heap) σ H s :=
 I.pins_of fun p hp=>(Wc.mp hp).elim (fun z=>I.pin p (Xg _ z)) fun z=>by
  obtain⟨hb,e⟩:=yo z;obtain⟨f0,f1,f2,_⟩:=hf p.1 hb;obtain⟨o,e',d⟩:=ho p.1 hb;rw[e]at e';cases e';exact⟨e,f0,f1,f2,d⟩
def Inv.unpinned(I:Inv X (pins++pl) σ H s):Inv X pins σ H s:=I.pins_of fun p hp=>I.pin p (Xg _ (Wh _ hp))
def eS(hp:PassesOwn (model X.prog X.w) X.A X.env X.xe)(hc:X.calm=true)(hi:PI X tg iter wi)(hg:PG X tg g)(hb:PSs X body tb)
  (hs:∀x,foldedSetIterable iter X.env x=pure x:=by intro _;rfl):PS X (.For tg iter body [] pos) (LS wi g tb):=by
 intro pins s σ H D I h;refine wpAny_For (thn (hi pins s σ H _ I h) fun v s1 h1=>thn h1 fun itv s2 h2=>?_) hs;obtain⟨it,fp,tn,J,H2,e,I2,T,st2,f2,W,⟨m0,w0⟩,turn⟩:=h2;subst e;have stat:∀{H':Hp},(∀b∈fp,H' b=none)->∀b∈fp,nF X pins H' b:=fun hn b hb=>⟨hn b hb,(f2 b hb).2⟩;refine codeAny_forLoop_any (fun n s'=>∃i σ' H',Inv X pins σ' H' s'/\tn i s'.heap/\(∀b∈fp,H' b=none)/\W i n σ' H') ?_ m0 ⟨0,σ,H2,I2,st2,fun b hb=>(f2 b hb).1,w0⟩;rintro n s3 ⟨i,σ3,H3,I3,st3,fr3,w3⟩;rcases turn i n σ3 H3 w3 with⟨stop,qn⟩|⟨go,N,hN,step⟩
 ·refine AI hp (thn (T.done X rfl rfl rfl hc i pins s3 σ3 H3 X.xe I3 (stat fr3) st3 stop) fun r s4 zz9=>?_);obtain⟨hr,I4⟩:=zz9;subst hr;exact BV ⟨σ3,H3,I4,qn⟩
 ·refine AI hp (thn (T.item X rfl rfl rfl hc i pins s3 σ3 H3 X.xe I3 (stat fr3) st3 go) fun r s4 zz9=>?_);obtain⟨u,hr,h4⟩:=zz9;subst hr;refine AI hp (thn h4 fun _ s5 zz9=>?_);obtain⟨x,H5,I5,r5,y5,st5,fr5⟩:=zz9;have I5':=I5.pinned (stat fr5) (T.obj _ _ st5);refine AI hp (thn (hg _ s5 σ3 H5 x u _ I5' r5 (step x H5 y5)) fun _ s6 zz9=>?_);obtain⟨σ6,H6,I6,q6⟩:=zz9;refine AI hp (thn (hb _ s6 σ6 H6 _ I6 q6) fun f s7 q7=>?_);have again:∀{σ7:St}{H7:Hp},Inv X (pins++oy fp s5.heap) σ7 H7 s7->N σ7 H7->∃m,m<n/\∃i σ' H',Inv X pins σ' H' s7/\tn i s7.heap/\(∀b∈fp,H' b=none)/\W i m σ' H':=fun {σ7 H7} I7 n7=>by
   obtain⟨m',hm,w7⟩:=hN σ7 H7 n7;refine⟨m',hm,i+1,σ7,H7,I7.unpinned,T.keep _ _ _ st5 fun b hb o e=>(I7.pin (b,o) (Xg _ (Xg _ (iM hb e)))).1,fun b hb=>?_,w7⟩;obtain⟨o,e,d⟩:=T.obj _ _ st5 b hb;exact(I7.pin (b,o) (Xg _ (Xg _ (iM hb e)))).2.1
  cases f with
  | next=>obtain⟨σ7,H7,I7,n7⟩:=q7;exact again I7 n7
  | cont=>obtain⟨σ7,H7,I7,n7⟩:=q7;exact again I7 n7
  | brk=>obtain⟨σ7,H7,I7,q7⟩:=q7;exact⟨σ7,H7,I7.unpinned,q7⟩
  | ret v=>obtain⟨x7,σ7,H7,I7,r7,q7⟩:=q7;exact⟨x7,σ7,H7,I7.unpinned,r7,q7⟩
end
end L2
namespace L2
open PySem PySem.Spec PyProof.Rows
abbrev R2:=V->V->Hp->VK->Prop
def OpR(X:Cx)(f:Value->Value->Sem Value)(r:R2):Prop :=
 ∀(pins:List (Addr×Obj))(s:Shared)(σ:St)(H:Hp)(x y:V)(v u:Value)(Q:VK),Inv X pins σ H s->RelV x v->RelV y u->r x y H Q ->
  wpAny (model X.prog X.w) X.A (f v u) (EP X pins σ Q) X.xe s
def UnR(X:Cx)(f:Value->Sem Value)(r:V->Hp->VK->Prop):Prop :=
 ∀(pins:List (Addr×Obj))(s:Shared)(σ:St)(H:Hp)(x:V)(v:Value)(Q:VK),Inv X pins σ H s->RelV x v->r x H Q ->
  wpAny (model X.prog X.w) X.A (f v) (EP X pins σ Q) X.xe s
def CallR(X:Cx)(f:Value)(r:List V->Hp->VK->Prop):Prop :=
 ∀(pins:List (Addr×Obj))(s:Shared)(σ:St)(H:Hp)(xs:List V)(us:List Value)(Q:VK),Inv X pins σ H s->Vals xs us->r xs H Q ->
  wpAny (model X.prog X.w) X.A (call f us) (EP X pins σ Q) X.xe s
def Ni(X:Cx)(r:V->Hp->(Bool->Hp->Prop)->Prop):Prop :=
 ∀(pins:List (Addr×Obj))(s:Shared)(σ:St)(H:Hp)(x:V)(v:Value)(Q:Bool->Hp->Prop),Inv X pins σ H s->RelV x v->r x H Q ->
  wpAny (model X.prog X.w) X.A (truthy v) (TP X pins σ Q) X.xe s
def tOp(r:R2)(ta tb:TE):TE:=fun σ H Q=>ta σ H fun x H1=>tb σ H1 fun y H2=>r x y H2 Q
def tUn(r:V->Hp->VK->Prop)(ta:TE):TE:=fun σ H Q=>ta σ H fun x H1=>r x H1 Q
def rI(C:Int->Int->Prop)(g:Int->Int->V):R2:=fun x y H Q=>∃i j,x=.int i/\y=.int j/\C i j/\Q (g i j) H
def rI0(g:Int->Int->V):R2:=fun x y H Q=>∃i j,x=.int i/\y=.int j/\Q (g i j) H
def rU(g:Int->V):V->Hp->VK->Prop:=fun x H Q=>∃i,x=.int i/\Q (g i) H
section
variable {X:Cx}{a b c:Expr}{ta tb tc:TE}{pos:Pos}
def JF(ha:PE X a ta)(hb:PE X b tb){R:V->V->Hp->Prop}(I:Inv X pins σ H s)
  (h:ta σ H fun x H1=>tb σ H1 fun y H2=>R x y H2){Q:Value->Shared->Prop}{f:Value->Value->Sem Value}
  (hf:∀v u s2 x y H2,Inv X pins σ H2 s2->RelV x v->RelV y u->R x y H2->wpAny (model X.prog X.w) X.A (f v u) Q X.xe s2) :
  wpAny (model X.prog X.w) X.A (eval a X.env) (fun v s₁=>wpAny (model X.prog X.w) X.A (eval b X.env) (fun u s₂=>wpAny (model X.prog X.w) X.A (f v u) Q X.xe s₂) X.xe s₁) X.xe s:=by
 refine thn (ha pins s σ H _ I h) fun v s1 zz9=>?_;obtain⟨x,H1,I1,r1,q1⟩:=zz9;refine thn (hb pins s1 σ H1 _ I1 q1) fun u s2 zz9=>?_;obtain⟨y,H2,I2,r2,q2⟩:=zz9;exact hf v u s2 x y H2 I2 r1 r2 q2
def dH{op:Operator}{r:R2}(ho:OpR X (binaryOp op) r)(ha:PE X a ta)(hb:PE X b tb):PE X (.BinOp a op b pos) (tOp r ta tb):=by
 intro pins s σ H Q I h;exact wpAny_BinOp (JF ha hb I h fun v u s2 x y H2 I2 rx ry q=>ho pins s2 σ H2 x y v u Q I2 rx ry q)
def zR(ho:UnR X (unaryOp op) r)(ha:PE X a ta):PE X (.UnaryOp op a pos) (tUn r ta):=by
 intro pins s σ H Q I h;exact UnaryOp_ (thn (ha pins s σ H _ I h) fun v s1 ⟨x,H1,I1,r1,q1⟩=>ho pins s1 σ H1 x v Q I1 r1 q1)
def opI{f:Value->Value->Sem Value}{C:Int->Int->Prop}{g:Int->Int->Int}
  (rule:∀(i j:Int)(t u:Tok)(s:Shared)(Q:Value->Shared->Prop)(E:Value->Shared->Prop),C i j->Q (.int (g i j) s.toks) { s with toks:=s.toks+1 }->wpAny (model X.prog X.w) X.A (f (.int i t) (.int j u)) Q E s) :
  OpR X f (rI C fun i j=>.int (g i j)):=by
 intro pins s σ H x y v u Q I rx ry h;obtain⟨i,j,rfl,rfl,hc,q⟩:=h;obtain⟨t,rfl⟩:=rx;obtain⟨t',rfl⟩:=ry;exact rule i j t t' s _ _ hc ⟨.int (g i j),H,I.tok _,⟨_,rfl⟩,q⟩
def LT{f:Value->Value->Sem Value}{g:Int->Int->Int}
  (rule:∀(i j:Int)(t u:Tok)(s:Shared)(Q:Value->Shared->Prop)(E:Value->Shared->Prop),Q (.int (g i j) s.toks) { s with toks:=s.toks+1 }->wpAny (model X.prog X.w) X.A (f (.int i t) (.int j u)) Q E s) :
  OpR X f (rI0 fun i j=>.int (g i j)):=by
 intro pins s σ H x y v u Q I rx ry h;obtain⟨i,j,rfl,rfl,q⟩:=h;obtain⟨t,rfl⟩:=rx;obtain⟨t',rfl⟩:=ry;exact rule i j t t' s _ _ ⟨.int (g i j),H,I.tok _,⟨_,rfl⟩,q⟩
def GO{f:Value->Value->Sem Value}{g:Int->Int->Bool}
  (rule:∀(i j:Int)(t u:Tok)(s:Shared)(Q:Value->Shared->Prop)(E:Value->Shared->Prop),Q (.bool (g i j)) s->wpAny (model X.prog X.w) X.A (f (.int i t) (.int j u)) Q E s) :
  OpR X f (rI0 fun i j=>.bl (g i j)):=by
 intro pins s σ H x y v u Q I rx ry h;obtain⟨i,j,rfl,rfl,q⟩:=h;obtain⟨t,rfl⟩:=rx;obtain⟨t',rfl⟩:=ry;exact rule i j t t' s _ _ ⟨.bl (g i j),H,I,rfl,q⟩
def vt(i j:Int):Prop:=0<j/\j<1073741824
def zS(i j:Int):Prop:=0<=j/\j<=1000000/\i.natAbs<2 ^ 64
def CMul(i j:Int):Prop:=(-(2 ^ 64)<i/\i<2 ^ 64)∨(-(2 ^ 64)<j/\j<2 ^ 64)
def CMul.ok(h:CMul i j):IntMulOk i j:=by
 rcases h with⟨h1,h2⟩|⟨h1,h2⟩
 ·exact .of_left (intBits_le_64 h1 h2)
 ·exact .of_right (intBits_le_64 h1 h2)
def op_add:OpR X (binaryOp .Add) (rI0 fun i j=>.int (i+j)):=LT fun _ _ _ _ _ _ _ q=>add_int q
def zT:OpR X (binaryOp .Sub) (rI0 fun i j=>.int (i-j)):=LT fun _ _ _ _ _ _ _ q=>sub_int q
def op_mul:OpR X (binaryOp .Mult) (rI CMul fun i j=>.int (i*j)):=opI fun _ _ _ _ _ _ _ hc q=>mul_int q hc.ok
def nV:OpR X (binaryOp .FloorDiv) (rI vt fun i j=>.int (i / j)):=opI fun i j _ _ _ _ _ hc q=>by
 have h1:(0:Int)<j:=hc.1;have h2:j<1073741824:=hc.2;exact floordiv_int (by lia) (by rw[Int.fdiv_eq_ediv_of_nonneg i (by lia)];exact q) (.inl (PyProof.noPylong_small (by lia)))
def jv:OpR X (binaryOp .Mod) (rI (fun _ j=>0<j) fun i j=>.int (i % j)):=opI fun i j _ _ _ _ _ hc q=>by
 have h1:(0:Int)<j:=hc;exact mod_int' (by lia) (by rw[Int.fmod_eq_emod_of_nonneg i (by lia)];exact q)
def JG:OpR X (binaryOp .Pow) (rI zS fun i j=>.int (i ^ j.toNat)):=opI fun _ _ _ _ _ _ _ hc q=>pow_int_small hc.1 hc.2.1 hc.2.2 q
def unI{f:Value->Sem Value}{g:Int->Int}
  (rule:∀(i:Int)(t:Tok)(s:Shared)(Q:Value->Shared->Prop)(E:Value->Shared->Prop),Q (.int (g i) s.toks) { s with toks:=s.toks+1 }->wpAny (model X.prog X.w) X.A (f (.int i t)) Q E s) :
  UnR X f (rU fun i=>.int (g i)):=by
 intro pins s σ H x v Q I rx h;obtain⟨i,rfl,q⟩:=h;obtain⟨t,rfl⟩:=rx;exact rule i t s _ _ ⟨.int (g i),H,I.tok _,⟨_,rfl⟩,q⟩
def vv:UnR X (unaryOp .USub) (rU fun i=>.int (-i)):=unI fun _ _ _ _ _ q=>neg_int q
end
def JH:V->V->Bool
 | .non,.non=>true|.non,.int _=>true|.int _,.non=>true|.non,.bl _=>true|.bl _,.non=>true|.non,.str _=>true|.str _,.non=>true
 | .int _,.int _=>true|.bl _,.bl _=>true|.str _,.str _=>true|.byt _,.byt _=>true
 | .int _,.str _=>true|.str _,.int _=>true|.bl _,.str _=>true|.str _,.bl _=>true
 | _,_=>false
def rEq:R2:=fun x y H Q=>JH x y=true/\Q (.bl (decide (x=y))) H
def rNe:R2:=fun x y H Q=>JH x y=true/\Q (.bl (!decide (x=y))) H
def wE:decide (V.int i=V.int j)=(i == j):=by
 rw[Zf];simp
def zU:decide (V.bl i=V.bl j)=(i == j):=by
 rw[Zf];simp
def wF:decide (V.str i=V.str j)=(i == j):=by
 rw[Zf];simp
def wG{i j:Array UInt8}:decide (V.byt i=V.byt j)=(i.toList == j.toList):=by
 rw[Zf];cases i;cases j;simp
section
variable {X:Cx}{a b c:Expr}{ta tb tc:TE}{pos:Pos}
def bK(I:Inv X pins σ H s)(q:Q (.bl k) H)(e:k=k'):EP X pins σ Q (.bool k') s:=by
 subst e;exact⟨.bl k,H,I,rfl,q⟩
theorem dW:OpR X (compareOp .Eq) rEq:=by
 intro pins s σ H x y v u Q I rx ry h;obtain⟨hs,q⟩:=h;cases x with
 | non =>
  cases rx;cases y with
  | non=>cases ry;exact PySem.EqNone.eq_none_none (bK I q (by simp))
  | bl j=>cases ry;exact PySem.EqNone.eq_none_bool (bK I q (by simp))
  | int j=>obtain⟨t',rfl⟩:=ry;exact PySem.EqNone.eq_none_int (bK I q (by simp))
  | str j=>obtain⟨t',rfl⟩:=ry;exact PySem.EqNone.eq_none_str (bK I q (by simp))
  | _=>exact absurd (show false=true from hs) Wd
 | bl i =>
  cases rx;cases y with
  | non=>cases ry;exact PySem.EqNone.eq_bool_none (bK I q (by simp))
  | bl j=>cases ry;exact eq_bool (bK I q zU)
  | str j=>obtain⟨t',rfl⟩:=ry;exact PySem.EqMixed.eq_bool_str (bK I q (by simp))
  | _=>exact absurd (show false=true from hs) Wd
 | int i =>
  obtain⟨t,rfl⟩:=rx;cases y with
  | non=>cases ry;exact PySem.EqNone.eq_int_none (bK I q (by simp))
  | int j=>obtain⟨t',rfl⟩:=ry;exact eq_int (bK I q wE)
  | str j=>obtain⟨t',rfl⟩:=ry;exact PySem.EqMixed.eq_int_str (bK I q (by simp))
  | _=>exact absurd (show false=true from hs) Wd
 | str i =>
  obtain⟨t,rfl⟩:=rx;cases y with
  | non=>cases ry;exact PySem.EqNone.eq_str_none (bK I q (by simp))
  | bl j=>cases ry;exact PySem.EqMixed.eq_str_bool (bK I q (by simp))
  | int j=>obtain⟨t',rfl⟩:=ry;exact PySem.EqMixed.eq_str_int (bK I q (by simp))
  | str j=>obtain⟨t',rfl⟩:=ry;exact eq_str (bK I q wF)
  | _=>exact absurd (show false=true from hs) Wd
 | byt i =>
  obtain⟨t,rfl⟩:=rx;cases y with
  | byt j=>obtain⟨t',rfl⟩:=ry;exact PySem.W.eq_bytes (bK I q wG)
  | _=>exact absurd (show false=true from hs) Wd
 | _=>cases y<;>exact absurd (show false=true from hs) Wd
theorem op_ne:OpR X (compareOp .NotEq) rNe:=by
 intro pins s σ H x y v u Q I rx ry h;obtain⟨hs,q⟩:=h;cases x with
 | non =>
  cases rx;cases y with
  | non=>cases ry;exact PySem.EqNone.ne_none_none (bK I q (by simp))
  | bl j=>cases ry;exact PySem.EqNone.ne_none_bool (bK I q (by simp))
  | int j=>obtain⟨t',rfl⟩:=ry;exact PySem.EqNone.ne_none_int (bK I q (by simp))
  | str j=>obtain⟨t',rfl⟩:=ry;exact PySem.EqNone.ne_none_str (bK I q (by simp))
  | _=>exact absurd (show false=true from hs) Wd
 | bl i =>
  cases rx;cases y with
  | non=>cases ry;exact PySem.EqNone.ne_bool_none (bK I q (by simp))
  | bl j=>cases ry;exact ne_bool (bK I q (congrArg not zU))
  | str j=>obtain⟨t',rfl⟩:=ry;exact PySem.EqMixed.ne_bool_str (bK I q (by simp))
  | _=>exact absurd (show false=true from hs) Wd
 | int i =>
  obtain⟨t,rfl⟩:=rx;cases y with
  | non=>cases ry;exact PySem.EqNone.ne_int_none (bK I q (by simp))
  | int j=>obtain⟨t',rfl⟩:=ry;exact ne_int (bK I q (congrArg not wE))
  | str j=>obtain⟨t',rfl⟩:=ry;exact PySem.EqMixed.ne_int_str (bK I q (by simp))
  | _=>exact absurd (show false=true from hs) Wd
 | str i =>
  obtain⟨t,rfl⟩:=rx;cases y with
  | non=>cases ry;exact PySem.EqNone.ne_str_none (bK I q (by simp))
  | bl j=>cases ry;exact PySem.EqMixed.ne_str_bool (bK I q (by simp))
  | int j=>obtain⟨t',rfl⟩:=ry;exact PySem.EqMixed.ne_str_int (bK I q (by simp))
  | str j=>obtain⟨t',rfl⟩:=ry;exact ne_str (bK I q (congrArg not wF))
  | _=>exact absurd (show false=true from hs) Wd
 | byt i =>
  obtain⟨t,rfl⟩:=rx;cases y with
  | byt j=>obtain⟨t',rfl⟩:=ry;exact PySem.W.ne_bytes (bK I q (congrArg not wG))
  | _=>exact absurd (show false=true from hs) Wd
 | _=>cases y<;>exact absurd (show false=true from hs) Wd
def op_lt:OpR X (compareOp .Lt) (rI0 fun i j=>.bl (decide (i<j))):=GO fun _ _ _ _ _ _ _ q=>lt_int q
def IG:OpR X (compareOp .LtE) (rI0 fun i j=>.bl (decide (i<=j))):=GO fun _ _ _ _ _ _ _ q=>le_int q
def IH:OpR X (compareOp .Gt) (rI0 fun i j=>.bl (decide (j<i))):=GO fun _ _ _ _ _ _ _ q=>gt_int q
def LU:OpR X (compareOp .GtE) (rI0 fun i j=>.bl (decide (j<=i))):=GO fun _ _ _ _ _ _ _ q=>ge_int q
def yp:OpR X (compareOp .Lt) (fun x y H Q=>∃i j,x=.str i/\y=.str j/\Q (.bl (decide (i.cps.toList<j.cps.toList))) H):=by
 intro pins s σ H x y v u Q I rx ry h;obtain⟨i,j,rfl,rfl,q⟩:=h;obtain⟨t,rfl⟩:=rx;obtain⟨t',rfl⟩:=ry;exact lt_str (bK I q rfl)
def op_in_str:OpR X (compareOp .In) (fun x y H Q=>∃i j,x=.str i/\y=.str j/\Q (.bl (!(Builtin.Str.occurrences j i 0 j.length 1).isEmpty)) H):=by
 intro pins s σ H x y v u Q I rx ry h;obtain⟨i,j,rfl,rfl,q⟩:=h;obtain⟨t,rfl⟩:=rx;obtain⟨t',rfl⟩:=ry;exact in_str (bK I q rfl)
theorem zV:OpR X (compareOp .Is) (fun x y H Q=>y=.non/\Q (.bl (decide (x=.non))) H):=by
 intro pins s σ H x y v u Q I rx ry h;obtain⟨rfl,q⟩:=h;cases ry;refine is_none_gen (bK I q ?_);cases x<;>first
  | (cases rx;rfl)
  | (obtain⟨t,rfl⟩:=rx;rfl)
def op_notin_str:OpR X (compareOp .NotIn) (fun x y H Q=>∃i j,x=.str i/\y=.str j/\Q (.bl (!(!(Builtin.Str.occurrences j i 0 j.length 1).isEmpty))) H):=by
 intro pins s σ H x y v u Q I rx ry h;obtain⟨i,j,rfl,rfl,q⟩:=h;obtain⟨t,rfl⟩:=rx;obtain⟨t',rfl⟩:=ry;exact notIn_str (bK I q rfl)
def OpR.or(h:OpR X f r)(h':OpR X f r'):OpR X f (fun x y H Q=>r x y H Q∨r' x y H Q):=by
 intro pins s σ H x y v u Q I rx ry q;rcases q with q|q
 ·exact h pins s σ H x y v u Q I rx ry q
 ·exact h' pins s σ H x y v u Q I rx ry q
def zW(b:Expr)(h:op≠.In:=by decide)(h2:op≠.NotIn:=by decide):behindInMarks op b=false:=by
 have e1:(op == CmpOp.In)=false:=by cases op<;>first|rfl|exact absurd rfl h
 have e2:(op == CmpOp.NotIn)=false:=by cases op<;>first|rfl|exact absurd rfl h2
 cases b<;>simp[behindInMarks,e1,e2]
def nW(ho:OpR X (compareOp op) r)(ha:PE X a ta)(hb:PE X b tb)(hm:behindInMarks op b=false):PE X (.Compare a [op] [b] pos) (tOp r ta tb):=by
 intro pins s σ H Q I h;exact wpAny_Compare1 (JF ha hb I h fun v u s2 x y H2 I2 rx ry q=>ho pins s2 σ H2 x y v u Q I2 rx ry q) hm
def wH(t:TE):TT:=fun σ H Q=>t σ H fun x H'=>∃k,x=.bl k/\Q k H'
def d8(ho:OpR X (compareOp op) r)(ha:PE X a ta)(hb:PE X b tb)(hm:behindInMarks op b=false):PT X (.Compare a [op] [b] pos) (wH (tOp r ta tb)):=by
 intro pins s σ H Q I h
 refine wpAny_isTrue_Compare1 (thn (ha pins s σ H _ I h) fun v s1 ⟨x,H1,I1,r1,q1⟩=>thn (hb pins s1 σ H1 _ I1 q1) fun u s2 ⟨y,H2,I2,r2,q2⟩ =>
  thn (ho pins s2 σ H2 x y v u _ I2 r1 r2 q2) fun c s3 ⟨z,H3,I3,r3,k,e,q3⟩=>?_) hm
 subst e;cases r3;exact Ay ⟨H3,I3,q3⟩
def zX(r r':R2)(ta tb tc:TE):TE:=fun σ H Q=>ta σ H fun x H1=>tb σ H1 fun y H2=>r x y H2 fun z H3=>∃k,z=.bl k /\
 (if k=true then tc σ H3 fun w' H4=>r' y w' H4 Q else Q (.bl false) H3)
def zY(ho:OpR X (compareOp op) r)(ho':OpR X (compareOp op') r')(ha:PE X a ta)(hb:PE X b tb)(hc:PE X c tc)
  (hm:lastMarks [op,op'] [b,c]=false:=by with_unfolding_all rfl):PT X (.Compare a [op,op'] [b,c] pos) (wH (zX r r' ta tb tc)):=by
 intro pins s σ H Q I h
 refine isTrue_chain (thn (ha pins s σ H _ I h) fun v s1 ⟨x,H1,I1,r1,q1⟩=>test_link (thn (hb pins s1 σ H1 _ I1 q1) fun u s2 ⟨y,H2,I2,r2,q2⟩ =>
  thn (ho pins s2 σ H2 x y v u _ I2 r1 r2 q2) fun d s3 ⟨z,H3,I3,r3,k,e,q3⟩=>?_)) hm
 subst e;cases r3;refine Ay ?_;cases k with
 | false =>
  obtain⟨k',e',q'⟩:=q3;cases e';exact ite_ff ⟨H3,I3,q'⟩
 | true =>
  refine ite_tt (test_last (thn (hc pins s3 σ H3 _ I3 q3) fun w' s4 ⟨z',H4,I4,r4,q4⟩=>thn (ho' pins s4 σ H4 y z' u w' _ I4 r2 r4 q4) fun d' s5 zz9=>?_));obtain⟨z2,H5,I5,r5,k2,e2,q5⟩:=zz9;subst e2;cases r5;exact Ay ⟨H5,I5,q5⟩
def JI(K:Ab)(x:V)(H:Hp)(k:Bool):Prop :=
 match x with
 | .non=>k=false
 | .bl b=>k=b
 | .int i=>k=(i != 0)
 | .str y=>y.length<=sizeLine/\k=((y.length:Int) != 0)
 | .byt y=>y.size<=sizeLine/\k=((y.size:Int) != 0)
 | .ref p=>(∃xs,SqL K H p xs/\k=!xs.isEmpty)∨(∃xs,SqT K H p xs/\k=!xs.isEmpty)∨∃kvs,H p=some (.dK kvs)/\k=!kvs.isEmpty
 | _=>False
def vx{kvs:List (κ×V)}{vs:List (κ×Value)}(r:KV kvs vs):(!vs.isEmpty)=!kvs.isEmpty:=by
 cases r<;>rfl
def oz{xs:List V}{its:List Value}(r:Vals xs its):(!its.toArray.isEmpty)=!xs.isEmpty:=by
 cases r<;>simp
def kJ:(sizeLine:Nat)<2 ^ 63:=by rw[C2];decide
theorem JJ:Ni X (fun x H Q=>∃k,JI X.K x H k/\Q k H):=by
 intro pins s σ H x v Q I rx h;obtain⟨k,e,q⟩:=h;have hl:=kJ;have hs:sizeLine=16777216:=C2;cases x with
 | non =>
  cases rx;have e':k=false:=e;subst e';exact truthy_none ⟨H,I,q⟩
 | bl b =>
  cases rx;have e':k=b:=e;subst e';exact Ay ⟨H,I,q⟩
 | int i =>
  obtain⟨t,rfl⟩:=rx;have e':k=(i != 0):=e;subst e';exact PySem.P.truthy_int ⟨H,I,q⟩
 | str y =>
  obtain⟨t,rfl⟩:=rx;obtain⟨hy,e'⟩:y.length<=sizeLine/\k=((y.length:Int) != 0):=e;subst e';exact PySem.P.truthy_str (by lia) ⟨H,I.tok _,q⟩
 | byt y =>
  obtain⟨t,rfl⟩:=rx;obtain⟨hy,e'⟩:y.size<=sizeLine/\k=((y.size:Int) != 0):=e;subst e';exact PySem.W.truthy_bytes (by lia) ⟨H,I.tok _,q⟩
 | ref p =>
  cases rx;have e':(∃xs,SqL X.K H p xs/\k=!xs.isEmpty)∨(∃xs,SqT X.K H p xs/\k=!xs.isEmpty)∨∃kvs,H p=some (.dK kvs)/\k=!kvs.isEmpty:=e;rcases e' with⟨xs,hx,e'⟩|⟨xs,hx,e'⟩|⟨kvs,hx,e'⟩
  ·subst e';obtain⟨its,r,pl,hz⟩:=I.list hx;have hlen:=r.length;exact wpAny_truthy_list pl.isList (by simp only[Xb];lia) ⟨H,I.tok _,by rw[oz r];exact q⟩
  ·subst e';obtain⟨its,r,pl,hz⟩:=I.tuple hx;have hlen:=r.length;exact truthy_tuple pl (by simp only[Xb];lia) ⟨H,I.tok _,by rw[oz r];exact q⟩
  ·subst e';obtain⟨hz,hS,vs,r,m⟩:kvs.length<=sizeLine/\(p == sysModules)=false/\∃vs,KV kvs vs/\s.heap.DictOf (cO X.prog X.w) p vs:=I.hok p _ hx;have hlen:kvs.length=vs.length:=Paired.length r;exact wpAny_truthy_dict hS m (by lia) ⟨H,I.tok _,by rw[vx r];exact q⟩
 | _=>exact(show False from e).elim
def zZ(ha:PE X a ta)(he:∀whole,isTrue a X.env whole=(do let v ← whole;standAt a.pos;holding [v] (truthy v))) :
  PT X a (fun σ H Q=>ta σ H fun x H'=>∃k,JI X.K x H' k/\Q k H'):=by
 intro pins s σ H Q I h;exact isTrue_plain (thn (ha pins s σ H _ I h) fun v s1 ⟨x,H1,I1,r1,q1⟩=>JJ pins s1 σ H1 x v Q I1 r1 q1) (he _)
def op_add_str:OpR X (binaryOp .Add) (fun x y H Q=>∃i j,x=.str i/\y=.str j/\i.length+j.length<=sizeLine/\Q (.str (i++j)) H):=by
 intro pins s σ H x y v u Q I rx ry h;obtain⟨i,j,rfl,rfl,hz,q⟩:=h;obtain⟨t,rfl⟩:=rx;obtain⟨t',rfl⟩:=ry;exact add_str (fun t' tk=>⟨.str (i++j),H,I.tok _,⟨_,rfl⟩,q⟩) hz
theorem vals1(r:Vals [x] us):∃u,us=[u]/\RelV x u:=by
 cases r with
 | cons r1 r2=>cases r2;exact⟨_,rfl,r1⟩
theorem vals2(r:Vals [x,y] us):∃u w',us=[u,w']/\RelV x u/\RelV y w':=by
 cases r with
 | cons r1 r2 =>
  cases r2 with
  | cons r3 r4=>cases r4;exact⟨_,_,rfl,r1,r3⟩
end
end L2
namespace L2
open PySem PySem.Spec PyProof.Rows
structure ObjM(h:Heap)(x dx C:Addr)(mA:Str->Option Value):Prop where
 obj:h.get? x=some (PySem.W.instObj C dx)
 ns:h.Ns1 dx mA
 ne:dx≠x
set_option tactic.hygienic true in
def yq{h:Heap}(n:h.Ns1 dx mA):∃od,h.get? dx=some od/\∀name,PySem.W.lookIn name od=some (mA name):=by
 obtain⟨o,es,ep,ho,hd,hk,_,hm⟩:=n;refine⟨o,ho,fun name=>?_⟩;have e:=hm name;unfold nsFind findBy at e;rw[← Array.find?_toList]at e;unfold PySem.W.lookIn;rw[hd];dsimp only;split
 ·rename_i y q
  rw[q]at e;exact congrArg some e
 ·rename_i q
  rw[q]at e;have a:es.toList.any (·.refKey)=false:=by
   rw[List.any_eq_false];intro y hy;obtain⟨z,t,hkey⟩:=hk y (Array.mem_toList_iff.mp hy);simp[DictEntry.refKey,hkey]
  have a':¬ es.toList.any (·.refKey)=true:=by rw[a];exact Wd
  rw[Ak a'];exact congrArg some e
def ObjM.look(I:ObjM h x dx C mA):∃od,PySem.W.InstAt h x (PySem.W.instObj C dx) C (some od)/\∀name,PySem.W.lookIn name od=some (mA name) :=
 let ⟨od,ho,hl⟩:=yq I.ns
 ⟨od,⟨I.obj,rfl,rfl,ho⟩,hl⟩
theorem RelO.some_of(r:RelO (some v) o):∃u,o=some u/\RelV v u:=by
 cases o with
 | none=>exact(show False from r).elim
 | some u=>exact⟨u,rfl,r⟩
section
variable {P:Program}{w:World}{H H':Hp}{h h':Heap}{a C dx:Addr}{fs fs':List (Str×V)}
def GP(hok:HOk P w H h)(e:H a=some (.ins C dx fs)):∃mA,ObjM h a dx C mA/\(∀f,RelO (fs.lookup f) (mA f))/\PySem.Within mA (fs.map (·.1))/\fs.length<=1000/\H dx=some (.own a):=by
 obtain⟨d,z,ne,ob,mA,n,r,q⟩:=(show ObjOk P w H h a (.ins C dx fs) from hok a _ e);exact⟨mA,⟨ob,n,ne⟩,r,q,z,d⟩
end
structure Cls(K:Ab)(C:Addr):Prop where
 pg:PySem.W.plainGet K C Str.empty=true
 hd:PySem.W.hasDictIn K C=true
 po:PySem.W.plainOver K C=true
 sa:PySem.W.findIn K (.ref C) "__setattr__"=some (some (.builtin "object.__setattr__"))
def Cls.get{K:Ab}{C:Addr}(c:Cls K C)(f:Str):PySem.W.plainGet K C f=true:=c.pg
section
variable {X:Cx}{pins:List (Addr×Obj)}{σ:St}{H:Hp}{s:Shared}{A:Around}{E:Value->Shared->Prop}{Q:Value->Shared->Prop}{c:Value}{b:Bool}
inductive TyOf(K:Ab)(H:Hp):V->Value->Prop where
 | non:TyOf K H .non (.type "NoneType")
 | bl (x:Bool):TyOf K H (.bl x) (.type "bool")
 | int (i:Int):TyOf K H (.int i) (.type "int")
 | str (x:Str):TyOf K H (.str x) (.type "str")
 | flt (x:UInt64):TyOf K H (.flt x) (.type "float")
 | lst {a:Addr} {xs:List V} (e:H a=some (.lst xs)):TyOf K H (.ref a) (.type "list")
 | frz {a:Addr} {o:Obj} {xs:List V} (e:H a=some (.frz o (.lst xs))):TyOf K H (.ref a) (.type "list")
 | tup {a:Addr} {xs:List V} (e:H a=some (.tup xs)):TyOf K H (.ref a) (.type "tuple")
 | dK {a:Addr} {kvs:List (Key×V)} (e:H a=some (.dK kvs)):TyOf K H (.ref a) (.type "dict")
 | dT {a:Addr} {ep:Nat×List Addr} {kvs:List (List Key×V)} (e:H a=some (.dT ep kvs)):TyOf K H (.ref a) (.type "dict")
 | ins {a C dx:Addr} {fs:List (Str×V)} (e:H a=some (.ins C dx fs)) (cl:Cls K C) (ha:PySem.W.findIn K (.ref C) "__class__"=some (some (.builtin "object.__class__")))
   (hn:PySem.W.specialIn K (.builtin "object.__class__") "__get__"=some (some (.builtin "getset_descriptor.__get__"))) (htk:PySem.W.takesIn K (.builtin "object.__class__")=some true)
   (hm:PySem.W.mroIn K C (.type "object")=some true):TyOf K H (.ref a) (.ref C)
def fw(I:Inv X pins σ H s)(rx:RelV x u)(ty:TyOf X.K H x t)(e:PySem.W.kitOne X.K t c=some b)(h:∀tk,Q (.bool b) { s with toks:=tk }) :
  wpAny (model X.prog X.w) A (call (.builtin "isinstance") [u,c]) Q E s:=by
 cases ty with
 | non=>cases (show u=Value.none from rx);exact Ar PySem.W.kitx_none I.kIn True.intro e (fun z=>nomatch z) h
 | bl y=>cases (show u=Value.bool y from rx);exact Ar PySem.W.kitx_bool I.kIn True.intro e (fun z=>nomatch z) h
 | int i=>obtain⟨t,q⟩:=(show ∃t,u=Value.int i t from rx);cases q;exact Ar PySem.W.kitx_int I.kIn True.intro e (fun z=>nomatch z) h
 | str y=>obtain⟨t,q⟩:=(show ∃t,u=Value.str y t from rx);cases q;exact Ar PySem.W.kitx_str I.kIn True.intro e (fun z=>nomatch z) h
 | flt y=>obtain⟨t,q⟩:=(show ∃t,u=Value.float y t from rx);cases q;exact Ar PySem.W.kitx_float I.kIn True.intro e (fun z=>nomatch z) h
 | @lst a xs ea =>
  cases (show u=Value.ref a from rx);obtain⟨_,_,n,_,h1⟩:=(show ObjOk X.prog X.w H s.heap a (.lst xs) from I.hok a _ ea);exact Ar CK I.kIn ⟨_,h1,rfl⟩ e (fun z=>nomatch z) h
 | @frz a ob xs ea =>
  cases (show u=Value.ref a from rx);obtain⟨_,_,_,n,_,h1⟩:=(show ObjOk X.prog X.w H s.heap a (.frz ob (.lst xs)) from I.hok a _ ea);exact Ar CK I.kIn ⟨_,h1,rfl⟩ e (fun z=>nomatch z) h
 | @tup a xs ea =>
  cases (show u=Value.ref a from rx);obtain⟨_,_,_,p⟩:=(show ObjOk X.prog X.w H s.heap a (.tup xs) from I.hok a _ ea);obtain⟨o,h1,h2,_⟩:=p;exact Ar PySem.W.kitx_tuple I.kIn ⟨o,h1,h2⟩ e (fun z=>nomatch z) h
 | @dK a kvs ea =>
  cases (show u=Value.ref a from rx);obtain⟨_,_,vs,_,p⟩:=(show ObjOk X.prog X.w H s.heap a (.dK kvs) from I.hok a _ ea);obtain⟨o,es,ep,h1,h2,_⟩:=p;exact Ar PySem.W.kitx_dict I.kIn ⟨o,h1,h2.1⟩ e (fun z=>nomatch z) h
 | @dT a ep kvs ea =>
  cases (show u=Value.ref a from rx);obtain⟨_,_,xs,_,_,o,es,h1,h2,_⟩:=(show ObjOk X.prog X.w H s.heap a (.dT ep kvs) from I.hok a _ ea);exact Ar PySem.W.kitx_dict I.kIn ⟨o,h1,h2.1⟩ e (fun z=>nomatch z) h
 | @ins a C dx fs ea cl ha hn htk hm =>
  cases (show u=Value.ref a from rx);obtain⟨mA,O,_⟩:=GP I.hok ea;obtain⟨od,J,_⟩:=O.look;exact Ar (PySem.W.kitx_own (cl.get _) cl.hd ha hn htk hm) I.kIn J e (fun z=>nomatch z) h
end
end L2
namespace L2
open PySem PySem.Spec PyProof.Rows
structure Room(k:Nat)(A:Around):Prop where
 hd:A.handled=none
 dp:A.depth+3*k+5<recursionLimit
 un:A.units+16*k+200<cLine
def Room.mono(r:Room k A)(h:j<=k):Room j A:=⟨r.hd,by have:=r.dp;lia,by have:=r.un;lia⟩
theorem Room.deeper{A:Around}(r:Room (k+1) A)(env:Env):Room k (A.deeper env) :=
 ⟨r.hd,by have:=r.dp;show A.depth+1+3*k+5<_;lia,by have:=r.un;show A.units+3+16*k+200<_;lia⟩
theorem Room.depth{A:Around}(r:Room k A):A.depth<recursionLimit:=by have:=r.dp;lia
theorem Room.units{A:Around}(r:Room k A):A.units+64<cLine:=by have:=r.un;lia
def tJ:TA:=fun _ H Q=>Q [] H
def iB(ta:TE)(tr:TA):TA:=fun σ H Q=>ta σ H fun x H1=>tr σ H1 fun xs H2=>Q (x::xs) H2
section
variable {X:Cx}{e:Expr}{es:List Expr}{te:TE}{t:TA}{pos:Pos}
def ah:PA X [] tJ:=fun _ _ _ _ H Q I h=>Calls.spliced_nil ⟨[],H,I,.nil,h⟩
def nX(ha:PE X e te)(hr:PA X es t)(hs:starEach (e::es) X.env=(false,eval e X.env)::starEach es X.env:=by rfl):PA X (e::es) (iB te t):=by
 intro pos pins s σ H Q I h;rw[hs];show wpAny _ _ (spliced ((false,eval e X.env)::backTo pos (starEach es X.env))) _ _ s;refine CB (thn (ha pins s σ H _ I h) fun u s1 zz9=>?_);obtain⟨x,H1,I1,r1,q1⟩:=zz9;exact thn (hr pos pins s1 σ H1 _ I1 q1) fun us s2 ⟨xs,H2,I2,r2,q2⟩=>⟨x::xs,H2,I2,.cons r1 r2,q2⟩
def LV(t:TA):TE:=fun σ H Q=>t σ H fun xs H1=>xs.length<=sizeLine/\∀p,H1 p=none->Q (.ref p) (upd H1 p (.tup xs))
def JK(t:TA):TE:=fun σ H Q=>t σ H fun xs H1=>xs.length<=sizeLine/\∀p,H1 p=none->Q (.ref p) (upd H1 p (.lst xs))
def bc{x1}(h:PA X es t):PE X (.Tuple es x1 pos) (LV t):=by
 intro pins s σ H Q I hq;refine wpAny_Tuple_spliced (thn (h pos pins s σ H _ I hq) fun us s1 ⟨xs,H1,I1,r,z,q⟩=>⟨by rw[← r.length];exact z,?_⟩)
 have hf:H1 s1.heap.objs.size=none:=I1.hok.fresh (Qa _);refine⟨.ref s1.heap.objs.size,upd H1 s1.heap.objs.size (.tup xs),I1.laid (t':=s1.toks) (fun b u e=>Ac _ e) (Qa _) ?_,rfl,q _ hf⟩;exact⟨z,us,r,⟨_,Ai _ rfl,rfl,_,rfl⟩⟩
def cr(h:PA X es t):PE X (.List es pos) (JK t):=by
 intro pins s σ H Q I hq;refine wpAny_List_spliced (thn (h pos pins s σ H _ I hq) fun us s1 ⟨xs,H1,I1,r,z,q⟩=>⟨by rw[← r.length];exact z,?_⟩)
 have hf:H1 s1.heap.objs.size=none:=I1.hok.fresh (Qa _);refine⟨.ref s1.heap.objs.size,upd H1 s1.heap.objs.size (.lst xs),I1.laid (t':=s1.toks) (fun b u e=>Ac _ e) (Qa _) ?_,rfl,q _ hf⟩;exact⟨z,us,0,r,Ai _ rfl⟩
end
abbrev Sp:=List V->Hp->VK->XK->Prop
abbrev CXT:=List Env->Hp->Shared->XK->Value->Shared->Prop
structure Env0(P:Program)(w:World)(K:Ab)(mg:Str->Option Value)(base:Heap)(A:Around)(outer:List Env)(s:Shared)(H:Hp):Prop where
 frames:A.frames=some outer
 mod:Mod K mg base
 bs:∀b o,base.get? b=some o->s.heap.get? b=some o/\H b=none
 bsz:base.objs.size<=s.heap.objs.size
 funs:s.heap.FunFrames base outer
 frf:∀b∈frs outer,H b=none
 hok:HOk P w H s.heap
 bare:AllBare s.gens
def CE(outer:List Env)(P:Program)(w:World)(H:Hp)(s:Shared)(Q:VK)(u:Value)(s':Shared):Prop :=
 ∃v H',s'.os=s.os/\AllBare s'.gens/\Un (frs outer) [] H H' s.heap s'.heap/\HOk P w H' s'.heap/\RelV v u/\Q v H'
def CR(CX:CXT)(outer:List Env)(P:Program)(w:World)(H:Hp)(s:Shared)(Q:VK)(E:XK)(r:Result)(s':Shared):Prop :=
 match r with
 | .ok (.ret u)=>CE outer P w H s Q u s'
 | .ok _=>False
 | .error e=>CX outer H s E e s'
structure FnOk(P:Program)(w:World)(K:Ab)(mg:Str->Option Value)(base:Heap)(CX:CXT)(k:Nat)(f:Addr)(fd:FuncData)(ps:List Str)(sp:Sp):Prop where
 len:∀vs H Q E,sp vs H Q E->vs.length=ps.length
 run:∀(A:Around)(outer:List Env)(s:Shared)(H:Hp)(args:Args)(us:List Value)(vs:List V)(Q:VK)(E:XK),Room k A->Env0 P w K mg base A outer s H->BindsTo s fd args (ps.zip us)->Vals vs us->sp vs H Q E ->
  codeAny (model P w) A (.call (.ref f) args) (CR CX outer P w H s Q E) s
def FnOk.imp{P:Program}{w:World}{K:Ab}{mg:Str->Option Value}{base:Heap}{CX:CXT}{k:Nat}{f:Addr}{fd:FuncData}{ps:List Str}{sp sp':Sp}(F:FnOk P w K mg base CX k f fd ps sp)
  (h:∀vs H Q E,sp' vs H Q E->sp vs H Q E):FnOk P w K mg base CX k f fd ps sp' :=
 ⟨fun vs H Q E q=>F.len vs H Q E (h _ _ _ _ q),fun A outer s H args us vs Q E hr he hb hv hs=>F.run A outer s H args us vs Q E hr he hb hv (h _ _ _ _ hs)⟩
section
variable {X:Cx}{pins:List (Addr×Obj)}{σ:St}{H:Hp}{s s':Shared}
def Inv.env0(I:Inv X pins σ H s):Env0 X.prog X.w X.K X.mg X.base X.A X.stack s H :=
 ⟨I.ok.frames,I.ok.mod,I.bs,Zd I.ok.bsz I.sz,I.stack,I.stkFree,I.hok,I.bare⟩
def Inv.after(I:Inv X pins σ H s)(h:CE X.stack X.prog X.w H s Q u s'):EP X pins σ Q u s':=by
 obtain⟨v,H',os,bare,un,hok,r,q⟩:=h;obtain⟨hh,g,d,t,os'⟩:=s';obtain rfl:os'=s.os:=os;exact⟨v,H',I.call (h':=hh) (g':=g) (d':=d) (t':=t) (ch:=[]) un hok bare (fun b z=>absurd z (by simp)),r,q⟩
end
def z9(sp:Sp)(dvs:List V)(E:XK)(t:TA):TE:=fun σ H Q=>t σ H fun vs H1=>sp (vs++dvs) H1 Q E
def Binds(K:Ab)(fd:FuncData)(ps:List Str)(ds:List Value):Prop :=
 ∀(s:Shared)(us:List Value),K.In s.heap->(us++ds).length=ps.length->BindsTo s fd ⟨us,[]⟩ (ps.zip (us++ds))
def Binds.all{K:Ab}{fd:FuncData}{ps:List Str}(h:∀us:List Value,us.length=ps.length->bindArgs fd ⟨us,[]⟩=pure (ps.zip us)):Binds K fd ps []:=fun s us _ hl=>by
 rw[Vc]at hl ⊢;exact .of_eq (h us hl)
def vy(CX:CXT)(X:Cx)(E:XK):Prop:=∀(pins:List (Addr×Obj))(σ:St)(H:Hp)(s:Shared)(e:Value)(s':Shared),Inv X pins σ H s->CX X.stack H s E e s'->X.xe e s'
section
variable {X:Cx}{CX:CXT}{k:Nat}{f C:Addr}{fd:FuncData}{ps:List Str}{sp:Sp}{dvs:List V}{ds:List Value}{E:XK}{x m:Str}{p pos apos:Pos}{e o:Expr}{es:List Expr}{ta:TE}{t:TA}
def JL(F:FnOk X.prog X.w X.K X.mg X.base CX k f fd ps sp)(hr:Room k X.A)(hb:Binds X.K fd ps ds)(hd:Vals dvs ds)(hx:vy CX X E)
  (I:Inv X pins σ H s)(r:Vals vs us)(h:sp (vs++dvs) H Q E):wpAny (model X.prog X.w) X.A (call (.ref f) us) (EP X pins σ Q) X.xe s:=by
 have r2:Vals (vs++dvs) (us++ds):=r.append hd;have hl:(us++ds).length=ps.length:=by rw[← r2.length];exact F.len _ _ _ _ h
 refine wpAny_call (codeAny_mono (F.run X.A X.stack s H ⟨us,[]⟩ (us++ds) (vs++dvs) Q E hr I.env0 (hb s us I.kIn hl) r2 h) fun r s' hq=>?_);cases r with
 | error e=>exact hx pins σ H s e s' I hq
 | ok fl =>
  cases fl with
  | ret u=>exact I.after hq
  | next=>exact False.elim hq
  | brk=>exact False.elim hq
  | cont=>exact False.elim hq
def wI(F:FnOk X.prog X.w X.K X.mg X.base CX k f fd ps sp)(hr:Room k X.A)(hg:Gl X x)(hm:X.mg x=some (.ref f))(hk:PySem.W.keepIn X.K (.ref f)=true)(hb:Binds X.K fd ps ds)(hd:Vals dvs ds)(hx:vy CX X E)
  (ha:PA X (e::es) t)(hdb:(x == ("__debug__":Str))=false:=by decide)(he:starEach (e::es) X.env=(false,eval e X.env)::starEach es X.env:=by rfl)(hpl:(backTo pos (starEach es X.env)).any (·.1)=false:=by rfl) :
  PE X (.Call (.Name x p) (e::es) [] pos) (z9 sp dvs E t):=by
 intro pins s σ H Q I h;refine Cn (rE I hg hm ?_ hdb);refine PySem.W.callWith_K (h₀:=X.base) I.ok.mod.kin hk (thn (ha pos pins s σ H _ I h) fun us s1 ⟨vs,H1,I1,r,q⟩=>⟨I1.kIn,?_⟩) he hpl;exact JL F hr hb hd hx I1 r q
end
structure FnScope(N P:List Str)(sc:Scope):Prop where
 kind:sc.kind=.function
 co:sc.isCoroutine=false
 gen:sc.isGenerator=false
 nd:N.Nodup
 pre:N.take P.length=P
 par:∀x∈P,sc.names.lookup x=some .local∨sc.names.lookup x=some .cell
 nofree:∀y∈sc.names,y.2≠.free
theorem qv{kindOf:Str->Option NameKind}{x:Str}:∀{binds:List (Str×Value)}{m:Str->Option Value},(∀v,(x,v)∉binds)->bindL kindOf binds m x=m x
 | [],_,_=>rfl
 | (n,v)::r,m,h=>by
  unfold bindL;rw[qv fun w hw=>h w (Vb _ hw)];split
  ·have:x≠n:=by rintro rfl;exact h v Wb
   simp[this]
  ·rfl
theorem qw{kindOf:Str->Option NameKind}{x:Str}:∀{binds:List (Str×Value)}{m:Str->Option Value},(∀v,(x,v)∉binds)->bindC kindOf binds m x=m x
 | [],_,_=>rfl
 | (n,v)::r,m,h=>by
  unfold bindC;rw[qw fun w hw=>h w (Vb _ hw)];split
  ·rfl
  ·have:x≠n:=by rintro rfl;exact h v Wb
   simp[this]
theorem qx{kindOf:Str->Option NameKind}{x:Str}{v:Value}:∀{P:List Str}{vs:List Value}{i:Nat}{m:Str->Option Value},P.Nodup->P[i]?=some x->vs[i]?=some v->kindOf x=some .local ->
  bindL kindOf (P.zip vs) m x=some v
 | [],_,_,_,_,h,_,_=>by simp at h
 | _::_,[],_,_,_,_,h,_=>by simp at h
 | p::P,w::vs,0,m,nd,h1,h2,hk=>by
  simp at h1 h2;subst h1;subst h2;show bindL kindOf ((p,w)::P.zip vs) m p=_;unfold bindL;rw[qv fun v hv=>(Zi.mp nd).1 (BX hv).1,Ae hk];simp
 | p::P,w::vs,i+1,m,nd,h1,h2,hk=>by
  show bindL kindOf ((p,w)::P.zip vs) m x=_;unfold bindL;exact qx (i:=i) (Zi.mp nd).2 (by simpa using h1) (by simpa using h2) hk
theorem qy{kindOf:Str->Option NameKind}{x:Str}{v:Value}:∀{P:List Str}{vs:List Value}{i:Nat}{m:Str->Option Value},P.Nodup->P[i]?=some x->vs[i]?=some v->kindOf x≠some .local ->
  bindC kindOf (P.zip vs) m x=some v
 | [],_,_,_,_,h,_,_=>by simp at h
 | _::_,[],_,_,_,_,h,_=>by simp at h
 | p::P,w::vs,0,m,nd,h1,h2,hk=>by
  simp at h1 h2;subst h1;subst h2;show bindC kindOf ((p,w)::P.zip vs) m p=_;unfold bindC;rw[qw fun v hv=>(Zi.mp nd).1 (BX hv).1,Ak hk];simp
 | p::P,w::vs,i+1,m,nd,h1,h2,hk=>by
  show bindC kindOf ((p,w)::P.zip vs) m x=_;unfold bindC;exact qy (i:=i) (Zi.mp nd).2 (by simpa using h1) (by simpa using h2) hk
def start(N:List Str)(vs:List V):St:=vs.map some++List.replicate (N.length-vs.length) none
def tK(CX:CXT)(P:Program)(w:World)(K:Ab)(mg:Str->Option Value)(base:Heap)(N:List Str)(qual:Str)(scope:Scope)(f:Addr)(cd:Value)(A:Around)(outer:List Env)(s:Shared)(H:Hp)(E:XK):Cx where
 prog:=P
 w:=w
 K:=K
 mg:=mg
 base:=base
 A:=A.deeper (envOfC qual scope s.heap.objs.size f cd)
 N:=N
 s₀:=s
 H₀:=H
 env:=envOfC qual scope s.heap.objs.size f cd
 outer:=outer
 stack:=envOfC qual scope s.heap.objs.size f cd::outer
 ex:=[]
 calm:=true
 fn:=fun _=>true
 pn:=[]
 xe:=fun e s'=>wpAny (model P w) (A.deeper (envOfC qual scope s.heap.objs.size f cd)) (leaving (envOfC qual scope s.heap.objs.size f cd) e) (fun _ s''=>CX outer H s E e s'') (fun e' s''=>CX outer H s E e' s'') s'
def tL{sc:Scope}(h:sc.names.lookup x=some .cell):∃c,(cellsFrom n sc.names []).lookup x=some c:=by
 have q:=Do sc.names n [] (.inl h);exact Option.isSome_iff_exists.mp q
def yt{CX:CXT}{P:Program}{w:World}{K:Ab}{mg:Str->Option Value}{base:Heap}{N ps:List Str}{qual:Str}{scope:Scope}{f:Addr}{cd:Value}{A:Around}{outer:List Env}{s s1:Shared}{H:Hp}{E:XK}{us:List Value}{vs:List V}
  (S:FnScope N ps scope)(hd:A.handled=none)(e0:Env0 P w K mg base A outer s H)(hl:vs.length=ps.length)(r:Vals vs us)
  (x:InCallC s s.heap.objs.size (bindL (envOfC qual scope s.heap.objs.size f cd).kindOf (ps.zip us) fun _=>none) (cellsFrom (s.heap.objs.size+1) scope.names []) (bindC (envOfC qual scope s.heap.objs.size f cd).kindOf (ps.zip us) fun _=>none) s1) :
  Inv (tK CX P w K mg base N qual scope f cd A outer s H E) [] (start N vs) H s1:=by
 have hpl:ps.length<=N.length:=by have:=congrArg List.length S.pre;rw[Wf]at this;lia
 obtain⟨h1,tk,rfl,hk⟩:=x.done;have noA:∀b:Addr,b∉(tK CX P w K mg base N qual scope f cd A outer s H E).ex:=fun b z=>absurd (show b∈([]:List Addr) from z) (by simp)
 refine⟨⟨e0.mod,S.kind,rfl,rfl,Qa _,fun y z c h1 h2=>?_,fun y hy=>?_,fun y c _ h=>?_,fun _=>hd,Around.frames_deeper e0.frames,.inr ⟨rfl,rfl⟩,fun b z=>absurd z (noA b),e0.bs,e0.bsz,fun b _ _=>noA b,fun b z=>absurd z (noA b),e0.funs,e0.frf⟩,
  rfl,e0.bare,Un.kept hk,⟨_,x.toInCall.ns,fun i y v h1 h2 h3=>?_⟩,fun y c h=>⟨_,x.cell y c h⟩,e0.hok.fresh (Qa _),fun y c h=>?_,fun p hp=>absurd (show p∈([]:List (Addr×Obj)) from hp) (by simp),e0.hok.kept hk,?_⟩
 ·exact name_of_addr x.apart (Az h1) (Az h2)
 ·have hy:scope.names.lookup y=some .cell∨scope.names.lookup y=some .free:=hy;rcases hy with hy|hy
  ·exact tL hy
  ·exact absurd rfl (S.nofree _ (Az hy))
 ·exact Wj (x.above y c (Az h))
 ·have hi:i<vs.length:=by
   unfold start at h2;by_cases hi:i<vs.length
   ·exact hi
   ·rw[Ye (by simpa using hi)]at h2
    rw[Yj]at h2;split at h2<;>cases h2
  have ha:vs[i]?=some v:=by
   unfold start at h2;rw[Xf (by simpa using hi),We]at h2
   cases e:vs[i]? with
   | none=>rw[e]at h2;cases h2
   | some a=>rw[e]at h2;cases h2;rfl
  obtain⟨u,hu,rv⟩:=r.get ha;have hp:ps[i]?=some y:=by
   rw[← S.pre,List.getElem?_take_of_lt (by lia)];exact h1
  have ndP:ps.Nodup:=by rw[← S.pre];exact S.nd.sublist (List.take_sublist _ _)
  refine⟨u,rv,?_⟩;rcases S.par y (Yb hp) with k|k
  ·exact .inl ⟨k,qx ndP hp hu k⟩
  ·obtain⟨c,e⟩:=tL (n:=s.heap.objs.size+1) k;refine .inr ⟨.inl k,c,e,?_⟩;have q:=x.cell y c e;rw[qy ndP hp hu (by show scope.names.lookup y≠_;rw[k];decide)]at q
   exact q
 ·exact e0.hok.fresh (Wj (x.above y c (Az h)))
 ·unfold start;show _=N.length;rw[Xa,Ya,Qh];lia
def II{CX:CXT}{K:Ab}{mg:Str->Option Value}{k:Nat}{f:Addr}{name qual:Str}{params:Arguments}{body:List Stmt}{scope:Scope}{dV kV doc pm cdv ct oc:Value}{an od:Option Addr}
  {osl:Array (Option Value)}{N ps:List Str}{sp:Sp}(lk:K.lookup f=some ⟨oc,od,.func (PySem.W.fnOf name qual params body scope dV kV doc pm an cdv ct),osl⟩)(hcd:PySem.W.codeIn K cdv qual=true)(S:FnScope N ps scope)
  (len:∀vs H Q E,sp vs H Q E->vs.length=ps.length)
  (hbody:∀(A:Around)(outer:List Env)(s:Shared)(H:Hp)(vs:List V)(Q:VK)(E:XK),Room k (A.deeper (envOfC qual scope s.heap.objs.size f cdv))->sp vs H Q E ->
   ∃t,PSs (tK CX P w K mg base N qual scope f cdv A outer s H E) body t/\t { nx:=fun _ H'=>Q .non H',rt:=Q } (start N vs) H) :
  FnOk P w K mg base CX (k+1) f (PySem.W.fnOf name qual params body scope dV kV doc pm an cdv ct) ps sp:=by
 refine⟨len,fun A outer s H args us vs Q E hr e0 hb r hsp=>?_⟩;have hl:=len _ _ _ _ hsp;have KX:K.In s.heap:=e0.mod.kin.keeps fun b o e=>(e0.bs b o e).1;have lim:s.heap.NoLimit:=e0.mod.nolimit.keeps fun b o e=>(e0.bs b o e).1;have hkind:∀y∈ps.zip us,scope.names.lookup y.1=some .local∨(scope.names.lookup y.1=some .cell/\((cellsFrom (s.heap.objs.size+1) scope.names []).lookup y.1).isSome=true):=fun⟨n,v⟩ hy=>by
  rcases S.par n (BX hy).1 with q|q
  ·exact .inl q
  ·exact .inr ⟨q,Do _ _ _ (.inl q)⟩
 refine codeAny_call_function hr.depth (KX _ _ lk) rfl S.co S.gen rfl (PySem.W.codeRec_of KX hcd) (hb _ _ _ _ ?_);refine wpAny_newFunctionEnv_cells S.kind hkind fun env he s1 x=>?_;subst he;refine⟨lim.keeps x.toInCall.keep,codeAny_func ?_⟩;obtain⟨t,ht,hq⟩:=hbody A outer s H vs Q E (hr.deeper _) hsp;have I:Inv (tK CX P w K mg base N qual scope f cdv A outer s H E) [] (start N vs) H s1:=yt S hr.hd e0 hl r x;refine AA (ht [] s1 (start N vs) H _ I hq) (fun fl s' hs=>?_) fun e s' hs=>hs;have fin:∀{σ':St}{H':Hp}{v:V}{u:Value},Inv (tK CX P w K mg base N qual scope f cdv A outer s H E) [] σ' H' s'->RelV v u->Q v H'->CE outer P w H s Q u s' :=
  fun {σ' H' v u} J rv q=>⟨v,H',J.os,J.bare,J.base,J.hok,rv,q⟩
 cases fl with
 | ret u =>
  obtain⟨v,σ',H',J,rv,q⟩:=hs;exact fin J rv q
 | next =>
  obtain⟨σ',H',J,q⟩:=hs;exact fin (v:=V.non) (u:=Value.none) J rfl q
 | brk =>
  obtain⟨_,_,_,q⟩:=hs;exact False.elim q
 | cont =>
  obtain⟨_,_,_,q⟩:=hs;exact False.elim q
end L2
namespace L2
open PySem PySem.Spec PyProof.Rows
section
variable {X:Cx}{x:Str}{p pos:Pos}{e:Expr}{es:List Expr}{t:TA}{id T:String}{r:List V->Hp->VK->Prop}
def tCB(r:List V->Hp->VK->Prop)(t:TA):TE:=fun σ H Q=>t σ H fun vs H1=>r vs H1 Q
def cf(hc:CallR X (.builtin id) r)(hg:Gl X x)(hm:X.mg x=none)(hv:bootBuiltins x=some (.builtin id))(ha:PA X (e::es) t)(hn:x≠"__name__":=by decide)(hdb:(x == ("__debug__":Str))=false:=by decide)
  (he:starEach (e::es) X.env=(false,eval e X.env)::starEach es X.env:=by rfl) (hpl:(backTo pos (starEach es X.env)).any (·.1)=false:=by rfl):PE X (.Call (.Name x p) (e::es) [] pos) (tCB r t):=by
 intro pins s σ H Q I h;refine Cn (ou I hg hm hv ?_ hn hdb);exact PyProof.Rows.callWith_builtin1 (thn (ha pos pins s σ H _ I h) fun us s1 ⟨vs,H1,I1,r1,q1⟩=>hc pins s1 σ H1 vs us Q I1 r1 q1) he hpl
def gk(hc:CallR X (.type T) r)(hg:Gl X x)(hm:X.mg x=none)(hv:bootBuiltins x=some (.type T))(ha:PA X (e::es) t)(hn:x≠"__name__":=by decide)(hdb:(x == ("__debug__":Str))=false:=by decide)
  (he:starEach (e::es) X.env=(false,eval e X.env)::starEach es X.env:=by rfl) (hpl:(backTo pos (starEach es X.env)).any (·.1)=false:=by rfl):PE X (.Call (.Name x p) (e::es) [] pos) (tCB r t):=by
 intro pins s σ H Q I h;refine Cn (ou I hg hm hv ?_ hn hdb);exact Bs (thn (ha pos pins s σ H _ I h) fun us s1 ⟨vs,H1,I1,r1,q1⟩=>hc pins s1 σ H1 vs us Q I1 r1 q1) he hpl
end
end L2
namespace L2
open PySem PySem.Spec PyProof.Rows
section
variable {κ:Type}[DecidableEq κ]
def kC(kvs:List (κ×V))(k:κ):Option V:=(kvs.find? fun kv=>decide (kv.1=k)).map (·.2)
def putK(kvs:List (κ×V))(k:κ)(v:V):List (κ×V) :=
 if (kvs.any fun kv=>decide (kv.1=k))=true then kvs.map (fun kv=>if kv.1=k then(kv.1,v) else kv) else kvs++[(k,v)]
def lF{p:κ×V}{r:List (κ×V)}{k:κ}(e:p.1=k):kC (p::r) k=some p.2:=by simp[kC,Zm,e]
def lG{p:κ×V}{r:List (κ×V)}{k:κ}(e:¬ p.1=k):kC (p::r) k=kC r k:=by simp[kC,Zm,e]
theorem tM(k:κ):∀kvs:List (κ×V),(kvs.any fun kv=>decide (kv.1=k))=(kC kvs k).isSome
 | []=>rfl
 | p::r=>by
  rw[Bk];by_cases e:p.1=k
  ·simp only[lF e,Af e,Bool.true_or,Option.isSome_some]
  ·rw[lG e,Ag e,Bool.false_or];exact tM k r
def mZ(kvs:List (κ×V))(k:κ)(v:V):(putK kvs k v).length<=kvs.length+1:=by
 unfold putK;split
 ·rw[Ya];lia
 ·rw[Xa,Xd,Yg];lia
theorem RelO.isSome_eq{o:Option V}{u:Option Value}(r:RelO o u):o.isSome=u.isSome:=by
 cases o with
 | none=>cases u with
  | none=>rfl
  | some _=>exact(show False from r).elim
 | some _=>cases u with
  | none=>exact(show False from r).elim
  | some _=>rfl
theorem RelO.getD{o:Option V}{u:Option Value}(r:RelO o u)(rd:RelV d d'):RelV (o.getD d) (u.getD d'):=by
 cases o with
 | none=>cases u with
  | none=>exact rd
  | some _=>exact(show False from r).elim
 | some _=>cases u with
  | none=>exact(show False from r).elim
  | some _=>exact r
theorem KV.val{kvs:List (κ×V)}{vs:List (κ×Value)}(r:KV kvs vs)(k:κ):RelO (kC kvs k) (valueAt vs k):=by
 unfold KV at r;induction r with
 | nil=>exact True.intro
 | @cons p q ps qs h t ih =>
  obtain⟨h1,h2⟩:=h;by_cases e:p.1=k
  ·have e':q.1=k:=h1.symm.trans e;have b:valueAt (q::qs) k=some q.2:=by simp[valueAt,Zm,e']
   rw[lF e,b];exact h2
  ·have e':¬ q.1=k:=fun z=>e (h1.trans z);have b:valueAt (q::qs) k=valueAt qs k:=by simp[valueAt,Zm,e']
   rw[lG e,b];exact ih
theorem KV.any{kvs:List (κ×V)}{vs:List (κ×Value)}(r:KV kvs vs)(k:κ):(kvs.any fun kv=>decide (kv.1=k))=vs.any fun kv=>decide (kv.1=k):=by
 unfold KV at r;induction r with
 | nil=>rfl
 | cons h t ih=>rw[Bk,Bk,ih,h.1]
def KV.repl{kvs:List (κ×V)}{vs:List (κ×Value)}(r:KV kvs vs)(k:κ)(ry:RelV y u) :
  KV (kvs.map fun kv=>if kv.1=k then(kv.1,y) else kv) (vs.map fun kv=>if kv.1=k then(kv.1,u) else kv):=by
 unfold KV at r ⊢;induction r with
 | nil=>exact .nil
 | @cons p q ps qs h t ih =>
  rw[Xe,Xe];refine .cons ?_ ih;obtain⟨h1,h2⟩:=h;by_cases e:p.1=k
  ·rw[Ae e,Ae (h1.symm.trans e)];exact⟨h1,ry⟩
  ·rw[Ak e,Ak (fun z=>e (h1.trans z))];exact⟨h1,h2⟩
def KV.put(r:KV kvs vs)(k:κ)(ry:RelV y u):KV (putK kvs k y) (stored vs k u):=by
 unfold putK stored;rw[r.any k];by_cases e:(vs.any fun kv=>decide (kv.1=k))=true
 ·rw[Ae e,Ae e];exact r.repl k ry
 ·rw[Ak e,Ak e];exact Paired.snoc r ⟨rfl,ry⟩
theorem KV.length{kvs:List (κ×V)}{vs:List (κ×Value)}(r:KV kvs vs):kvs.length=vs.length:=Paired.length r
end
theorem wJ(r:RelV (kV k) u):(cO P w).is k u=true:=by
 cases k with
 | inl i=>obtain⟨t,e⟩:=(show ∃t,u=Value.int i t from r);subst e;exact tD P w i t
 | inr x=>obtain⟨t,e⟩:=(show ∃t,u=Value.str x t from r);subst e;exact tE P w x t
theorem qz:∀{ks:List Key}{us:List Value},Vals (ks.map kV) us->ItemsAre (cO P w) ks us
 | [],_,r=>by rw[AV]at r;cases r;exact .nil
 | k::ks,_,r=>by
  rw[Xe]at r;cases r with
  | cons h t=>exact .cons (wJ h) (qz t)
abbrev KT(H:Hp):List (List Key×V)->List (List Key×Addr×Value)->Prop:=Paired fun p q=>p.1=q.1/\H q.2.1=some (.tup (p.1.map kV))/\RelV p.2 q.2.2
theorem KT.val{kvs:List (List Key×V)}{xs:List (List Key×Addr×Value)}(r:KT H kvs xs)(k:List Key):RelO (kC kvs k) ((atKey xs k).map (·.2)):=by
 induction r with
 | nil=>exact True.intro
 | @cons p q ps qs h t ih =>
  obtain⟨h1,_,h2⟩:=h;by_cases e:p.1=k
  ·have e':q.1=k:=h1.symm.trans e;have b:atKey (q::qs) k=some q.2:=by simp[atKey,Zm,e']
   rw[lF e,b];exact h2
  ·have e':¬ q.1=k:=fun z=>e (h1.trans z);have b:atKey (q::qs) k=atKey qs k:=by simp[atKey,Zm,e']
   rw[lG e,b];exact ih
def KT.repl{kvs:List (List Key×V)}{xs:List (List Key×Addr×Value)}(r:KT H kvs xs)(k:List Key)(ry:RelV y u) :
  KT H (kvs.map fun kv=>if kv.1=k then(kv.1,y) else kv) (xs.map (putAt k u)):=by
 induction r with
 | nil=>exact .nil
 | @cons p q ps qs h t ih =>
  rw[Xe,Xe];refine .cons ?_ ih;obtain⟨h1,h2,h3⟩:=h;unfold putAt;by_cases e:p.1=k
  ·rw[Ae e,Ae (h1.symm.trans e)];exact⟨h1,h2,ry⟩
  ·rw[Ak e,Ak (fun z=>e (h1.trans z))];exact⟨h1,h2,h3⟩
def KT.put(r:KT H kvs xs)(k:List Key)(hb:H b=some (.tup (k.map kV)))(ry:RelV y u) :
  KT H (putK kvs k y) (storedH xs k b u):=by
 have e:(kvs.any fun kv=>decide (kv.1=k))=(atKey xs k).isSome:=by
  rw[tM,(r.val k).isSome_eq,Option.isSome_map]
 unfold putK storedH;rw[e];by_cases q:(atKey xs k).isSome=true
 ·rw[Ae q,Ae q];exact r.repl k ry
 ·rw[Ak q,Ak q];exact Paired.snoc r ⟨rfl,hb,ry⟩
def KT.keeps(r:KT H kvs xs)(ht:∀b ys,H b=some (.tup ys)->H' b=some (.tup ys)):KT H' kvs xs :=
 Paired.mapP r fun _ _ z=>⟨z.1,ht _ _ z.2.1,z.2.2⟩
section
variable {P:Program}{w:World}{H:Hp}{h:Heap}{a:Addr}
def IJ(ok:HOk P w H h)(e:Rd H a u):ObjOk P w H h a u:=e.ok ok
def tO{kvs:List (Key×V)}(ok:HOk P w H h)(e:Rd H a (.dK kvs)):kvs.length<=sizeLine/\(a == sysModules)=false/\∃vs,KV kvs vs/\h.DictOf (cO P w) a vs :=
 show ObjOk P w H h a (.dK kvs) from IJ ok e
def IM{kvs:List (Key×V)}(ok:HOk P w H h)(e:H a=some (.dK kvs)):kvs.length<=sizeLine/\(a == sysModules)=false/\∃vs,KV kvs vs/\h.DictOf (cO P w) a vs:=tO ok (.inl e)
def oA{ks:List Key}(ok:HOk P w H h)(e:H a=some (.tup (ks.map kV))):(tupleKind (cO P w)).is h ks a:=by
 obtain⟨_,its,r,o,h1,h2,n,h3⟩:=(show ObjOk P w H h a (.tup (ks.map kV)) from ok a _ e);exact⟨o,its.toArray,n,h1,h2,h3,by simpa using qz r⟩
def wK{kvs:List (List Key×V)}(ok:HOk P w H h)(e:Rd H a (.dT ep kvs)):kvs.length<=sizeLine/\(a == sysModules)=false /\
  ∃xs,KT H kvs xs/\h.DictOfH (tupleKind (cO P w)) a xs:=by
 obtain⟨z,y,xs,r,_,o,es,h1,h2,h3,h4,h5⟩:=(show ObjOk P w H h a (.dT ep kvs) from IJ ok e);refine⟨z,y,xs,r,o,es,ep.1,h1,h2,h3,h4,fun x hx=>?_,h5⟩;have all:∀{l:List (List Key×V)}{m:List (List Key×Addr×Value)},KT H l m->∀x∈m,(tupleKind (cO P w)).is h x.1 x.2.1:=by
  intro l m q;induction q with
  | nil=>intro x hx;exact nomatch hx
  | @cons p q ps qs hq t ih =>
   intro x hx;rcases Vd.mp hx with e|hx
   ·subst e;exact oA ok (by rw[← hq.1];exact hq.2.1)
   ·exact ih x hx
 exact all r x hx
end
section
variable {P:Program}{w:World}{H:Hp}{h:Heap}{a:Addr}
def LW{kvs:List (List Key×V)}(ok:HOk P w H h)(e:H a=some (.dT ep kvs)):kvs.length<=sizeLine/\(a == sysModules)=false /\
  ∃xs,KT H kvs xs/\xs.map (·.2.1)=ep.2/\h.DictOfH (tupleKind (cO P w)) a xs:=by
 obtain⟨z,y,xs,r,ra,o,es,h1,h2,h3,h4,h5⟩:=(show ObjOk P w H h a (.dT ep kvs) from ok a _ e);refine⟨z,y,xs,r,ra,o,es,ep.1,h1,h2,h3,h4,fun x hx=>?_,h5⟩;have all:∀{l:List (List Key×V)}{m:List (List Key×Addr×Value)},KT H l m->∀x∈m,(tupleKind (cO P w)).is h x.1 x.2.1:=fun {l m} q=>by
  induction q with
  | nil=>exact fun x hx=>nomatch hx
  | cons hq t ih =>
   intro x hx;rcases Vd.mp hx with e'|hx
   ·subst e';exact oA ok (by rw[← hq.1];exact hq.2.1)
   ·exact ih x hx
 exact all r x hx
end
def DGet(H:Hp)(a:Addr)(y:V)(r:Option V):Prop :=
 (∃kvs k,Rd H a (.dK kvs)/\y=kV k/\r=kC kvs k)∨∃ep kvs k b,Rd H a (.dT ep kvs)/\y=.ref b/\H b=some (.tup (k.map kV))/\r=kC kvs k
def yu(as:List Addr)(kvs:List (List Key×V))(k:List Key)(b:Addr):List Addr:=if (kC kvs k).isSome=true then as else as++[b]
def LX(H:Hp)(a:Addr)(y v:V)(R:Hp->Prop):Prop :=
 (∃kvs k,H a=some (.dK kvs)/\y=kV k/\kvs.length<sizeLine/\R (upd H a (.dK (putK kvs k v)))) ∨
 ∃ep kvs k b,H a=some (.dT ep kvs)/\y=.ref b/\H b=some (.tup (k.map kV))/\kvs.length<sizeLine/\∀n,R (upd H a (.dT (n,yu ep.2 kvs k b) (putK kvs k v)))
theorem DGet.k{a:Addr}{kvs:List (Key×V)}{k:Key}(e:H a=some (.dK kvs)):DGet H a (kV k) (kC kvs k):=.inl ⟨kvs,k,.inl e,rfl,rfl⟩
def DGet.t{k:List Key}(e:H a=some (.dT ep kvs))(eb:H b=some (.tup (k.map kV))):DGet H a (.ref b) (kC kvs k):=.inr ⟨ep,kvs,k,b,.inl e,rfl,eb,rfl⟩
def JM{xs:List (List Key×Addr×Value)}(ra:xs.map (·.2.1)=as)(rel:KT H kvs xs):(storedH xs k b u).map (·.2.1)=yu as kvs k b:=by
 have e:(kC kvs k).isSome=(atKey xs k).isSome:=by rw[(rel.val k).isSome_eq,Option.isSome_map]
 unfold storedH yu;rw[e];by_cases q:(atKey xs k).isSome=true
 ·rw[Ae q,Ae q,← ra,Vg];refine Yl fun x _=>?_;show(putAt k u x).2.1=x.2.1;unfold putAt;split<;>rfl
 ·rw[Ak q,Ak q,Zc,ra];rfl
section
variable {X:Cx}{pins:List (Addr×Obj)}{σ:St}{H:Hp}{s:Shared}{a:Addr}{y v:V}{u r:Value}{o:Option V}{A:Around}{E:Value->Shared->Prop}
def Inv.big(I:Inv X pins σ H s):sysModules<s.heap.objs.size:=by
 have h:mainGlobals<s.heap.objs.size:=(I.mod.glob.keeps I.bk).lt;exact BR (by decide) h
def yw(hu:A.units+1<cLine)(I:Inv X pins σ H s)(g:DGet H a y (some v))(ry:RelV y u)(h:∀w' s',Inv X pins σ H s'->RelV v w'->Q w' s') :
  wpAny (model X.prog X.w) A (getItem (.ref a) u) Q E s:=by
 rcases g with⟨kvs,k,e,ey,l⟩|⟨ep,kvs,k,b,e,ey,eb,l⟩
 ·subst ey;obtain⟨z,hd,vs,rel,dd⟩:=tO I.hok e;obtain⟨w',hw,rw'⟩:=RelO.some_of (v:=v) (o:=valueAt vs k) (by rw[l];exact rel.val k)
  exact wpAny_getItem_of (wJ ry) dd.mapOf hw (h w' _ (I.tok _) rw')
 ·subst ey;cases (show u=Value.ref b from ry);obtain⟨z,hd,xs,rel,dd⟩:=wK I.hok e;obtain⟨w',hw,rw'⟩:=RelO.some_of (v:=v) (o:=(atKey xs k).map (·.2)) (by rw[l];exact rel.val k)
  obtain⟨p,hp,hp2⟩:=Zg.mp hw;refine wpAny_getItem_heap (Co hu) (oA I.hok eb) dd hp ?_;rw[hp2];exact h w' _ (I.tok _) rw'
def wL{h':Heap}{t':Nat}(I:Inv X pins σ H s)(mu:Mut (H a))(hs:Heap.SameBut a s.heap h')(he:∃q,h'.get? a=some q)(new:ObjOk X.prog X.w (upd H a ob) h' a ob) :
  Inv X pins σ (upd H a ob) { s with heap:=h',toks:=t' } :=
 I.write (x:=a) (e:=a) mu (.inl rfl) (fun b q hb z=>(hs.2 b hb).trans z) he new
def JN{h':Heap}{kvs:List (Key×V)}(z:kvs.length<=sizeLine)(hd:(a == sysModules)=false)(rel:KV kvs vs)(dd:h'.DictOf (cO P w) a vs) :
  ObjOk P w H' h' a (.dK kvs):=⟨z,hd,vs,rel,dd⟩
def yx{R:Hp->Prop}{Q:Unit->Shared->Prop}(hu:A.units+1<cLine)(I:Inv X pins σ H s)(g:LX H a y v R)(ry:RelV y u)(rv:RelV v r)(h:∀s' H',Inv X pins σ H' s'->R H'->Q () s') :
  wpAny (model X.prog X.w) A (setItem (.ref a) u r) Q E s:=by
 rcases g with⟨kvs,k,e,ey,l,eH⟩|⟨ep,kvs,k,b,e,ey,eb,l,eH⟩
 ·subst ey;obtain⟨z,hd,vs,rel,dd⟩:=IM I.hok e;have hz:vs.length<=sizeLine:=by rw[← rel.length];exact z
  have hl:(putK kvs k v).length<=sizeLine:=by have:=mZ kvs k v;lia
  refine wpAny_setItem_pairs (hsz:=hz) (wJ ry) dd fun h' dd' hs=>h _ _ ?_ eH;have he:∃q,h'.get? a=some q:=let ⟨q,_,_,hq,_⟩:=dd';⟨q,hq⟩;exact wL I (by rw[e];exact True.intro) hs he (JN hl hd (rel.put k rv) dd')
 ·subst ey;cases (show u=Value.ref b from ry);obtain⟨z,hd,xs,rel,ra0,dd⟩:=LW I.hok e;have hz:xs.length<=sizeLine:=by rw[← Paired.length rel];exact z
  have hl:(putK kvs k v).length<=sizeLine:=by have:=mZ kvs k v;lia
  have ra:xs.map (·.2.1)=ep.2:=ra0;refine wpAny_setItem_heap (hsz:=hz) (Co hu) (oA I.hok eb) dd fun h' dd' hs=>?_;obtain⟨q,es,ep',hq,h2,h3,h4,_,h5⟩:=dd';refine h _ _ ?_ (eH ep');refine wL I (by rw[e];exact True.intro) hs ⟨q,hq⟩ ⟨hl,hd,_,(rel.put k eb rv).keeps fun c ys ec=>?_,JM ra rel,q,es,hq,h2,h3,h4,h5⟩
  rw[bn (LK ec e (fun z=>nomatch z))];exact ec
end
def JO(i:Expr):Prop:=∀ov iv,subscripted i false ov iv=operate [ov,iv] (getItem ov iv)
def GQ{A:Around}{E:Value->Shared->Prop}{T id:String}{Q:Value->Shared->Prop}
  (hl:typeLookup (.type T) "__getitem__"=pure (some (.builtin id)))(hs:JO slice)
  (h:wpAny (model prog w) A (eval value env) (fun o s₁=>wpAny (model prog w) A (eval slice env) (fun i s₂=>s₂.TypeIs o T/\wpAny (model prog w) A (getItem o i) Q E s₂) E s₁) E s) :
  wpAny (model prog w) A (eval (.Subscript value slice pos) env) Q E s:=by
 refine Cr (AA h (fun o s₁ h₁=>AA h₁ (fun i s₂ h₂=>?_) fun _ _ x=>x) fun _ _ x=>x);obtain⟨hT,h₂⟩:=h₂;unfold subscriptTail;refine Aa ?_;rw[getitemInPython_of_ne hT.not_modules];refine Aa (wpAny_specialOf hT hl ?_);have fin:wpAny (model prog w) A (subscripted slice false o i) (fun r s₃=>wpAny (model prog w) A (letTemporaryGo value o r >>= fun _=>pure r) Q E s₃) E s₂:=by
  rw[hs o i];exact wpAny_operating (AA h₂ (fun r s₃ h₃=>Aa (wpAny_letTemporaryGo (Ad h₃))) fun _ _ x=>x)
 first
  | exact Ad (Aa fin)
  | exact Aa (Ad (Aa fin))
  | exact Aa fin
def tP{s:Shared}(I:Inv X pins σ H s)(g:DGet H a y o):s.TypeIs (.ref a) "dict":=by
 rcases g with⟨kvs,k,e,_,_⟩|⟨ep,kvs,k,b,e,_,_,_⟩
 ·obtain⟨_,_,vs,_,dd⟩:=tO I.hok e;exact dd.typeIs
 ·obtain⟨_,_,xs,_,dd⟩:=wK I.hok e;exact dd.typeIs
def LY(td ty:TE):TE:=fun σ H Q=>td σ H fun x H1=>ty σ H1 fun y H2=>∃a v,x=.ref a/\DGet H2 a y (some v)/\Q v H2
section
variable {X:Cx}{o i e value:Expr}{pos pos' tpos:Pos}{td ty tv:TE}
def GR(hu:X.A.units+1<cLine)(ho:PE X o td)(hi:PE X i ty)(hs:JO i):PE X (.Subscript o i pos) (LY td ty):=by
 intro pins s σ H Q I h;refine GQ PySem.F.slot_dict_getitem.lookup hs (thn (ho pins s σ H _ I h) fun u s1 ⟨x,H1,I1,rx,q1⟩=>thn (hi pins s1 σ H1 _ I1 q1) fun iv s2 zz9=>?_);obtain⟨y,H2,I2,ry,a,v,ex,g,q2⟩:=zz9;subst ex;obtain rfl:u=Value.ref a:=rx;exact⟨tP I2 g,yw hu I2 g ry fun w' s3 I3 rw'=>⟨v,H2,I3,rw',q2⟩⟩
end
def DG(h:Heap)(hb:sysModules<h.objs.size):ObjOk P w H (h.push { cls:=.type "dict",data:=.dict #[] }) h.objs.size (.dK []) :=
 ⟨Qk _,beq_eq_false_iff_ne.mpr (AL (Vh hb)),[],.nil,Heap.DictOf.new h⟩
def DH:TE:=fun _ H Q=>∀p,H p=none->Q (.ref p) (upd H p (.dK []))
section
variable {X:Cx}{pos:Pos}
def DI:PE X (.Dict [] [] pos) DH:=fun pins s σ H Q I h =>
 wpAny_Dict_empty ⟨.ref s.heap.objs.size,_,I.laid (a:=s.heap.objs.size) (o:=.dK []) (t':=s.toks) (fun _ _ q=>Ac _ q) (Qa _) (DG s.heap I.big),rfl,h _ (I.hok.fresh (Qa _))⟩
end
structure M2(X:Cx)(o:Expr)(m:Str)(apos:Pos)(e f:Expr)(cpos:Pos):Prop where
 base:attributeBase o m X.env (eval o X.env)=eval o X.env
 few:((backTo cpos (starEach [e,f] X.env)).all (fun x=>!x.1)&&(backToKw cpos (keywordEach [] X.env)).all (fun x=>x.1.isSome)
  && decide (([e,f]:List Expr).length+([]:List Keyword).length+(if ([]:List Keyword).isEmpty then 0 else 1)<30))=true
 line:(apos.endLine == cpos.line)=true
 trees:backTo cpos (starEach [e,f] X.env)=[(false,eval e X.env),(false,eval f X.env)]
def IsD(H:Hp)(a:Addr):Prop:=(∃kvs,Rd H a (.dK kvs))∨∃ep kvs,Rd H a (.dT ep kvs)
def JP{s:Shared}(I:Inv X pins σ H s)(d:IsD H a) :
  s.TypeIs (.ref a) "dict"/\(∀b,Value.ref a=.ref b->∃ob,s.heap.get? b=some ob/\ob.dict=none)/\(a == sysModules)=false:=by
 rcases d with⟨kvs,e⟩|⟨ep,kvs,e⟩
 ·obtain⟨_,hd,vs,_,dd⟩:=tO I.hok e;refine⟨dd.typeIs,fun b q=>?_,hd⟩;cases q;obtain⟨ob,_,_,h1,h2,_⟩:=dd;exact⟨ob,h1,h2.2.1⟩
 ·obtain⟨_,hd,xs,_,dd⟩:=wK I.hok e;refine⟨dd.typeIs,fun b q=>?_,hd⟩;cases q;obtain⟨ob,_,_,h1,h2,_⟩:=dd;exact⟨ob,h1,h2.2.1⟩
section
variable {X:Cx}{pins:List (Addr×Obj)}{σ:St}{H:Hp}{s:Shared}{a:Addr}{y d:V}{u r:Value}{o:Option V}{A:Around}{E:Value->Shared->Prop}
def JQ(hu:A.units+1<cLine)(I:Inv X pins σ H s)(g:DGet H a y o)(ry:RelV y u)(rd:RelV d r)(h:∀w' s',Inv X pins σ H s'->RelV (o.getD d) w'->Q w' s') :
  wpAny (model X.prog X.w) A (call (.builtin "dict.get") [.ref a,u,r]) Q E s:=by
 rcases g with⟨kvs,k,e,ey,l⟩|⟨ep,kvs,k,b,e,ey,eb,l⟩
 ·subst ey;obtain⟨z,hd,vs,rel,dd⟩:=tO I.hok e;refine call_meetsIn B1 dd.typeIs Dr (Dk _ _ _) (meets_dict_get_default (cO X.prog X.w) a (wJ ry) hd r) ⟨_,dd.mapOf,h _ _ (I.tok _) ?_⟩;rw[l];exact(rel.val k).getD rd
 ·subst ey;cases (show u=Value.ref b from ry);obtain⟨z,hd,xs,rel,dd⟩:=wK I.hok e;refine call_meetsIn B1 dd.typeIs Dr (Dk _ _ _) (meetsH_dict_get_default (tupleKind (cO X.prog X.w)) a b hd r) ⟨Co hu,k,xs,oA I.hok eb,dd,h _ _ (I.tok _) ?_⟩;rw[l];exact(rel.val k).getD rd
end
def DJ(td ty tx:TE):TE:=fun σ H Q=>td σ H fun x H1=>∃a,x=.ref a/\IsD H1 a/\ty σ H1 fun y H2=>tx σ H2 fun z H3=>∃o,DGet H3 a y o/\Q (o.getD z) H3
section
variable {X:Cx}{o e f:Expr}{apos cpos:Pos}{td ty tx:TE}
def DK(hu:X.A.units+1<cLine)(ho:PE X o td)(he:PE X e ty)(hf:PE X f tx)(m:M2 X o "get" apos e f cpos):PE X (.Call (.Attribute o "get" apos) [e,f] [] cpos) (DJ td ty tx):=by
 intro pins s σ H Q I h;refine wpAny_Call_method m.base m.few m.line PySem.F.plainAttrs_dict B1 PySem.F.type_dict_get (thn (ho pins s σ H _ I h) fun u s1 zz9=>?_);obtain⟨x,H1,I1,rx,a,ex,d,q1⟩:=zz9;subst ex;obtain rfl:u=Value.ref a:=rx;obtain⟨t1,t2,_⟩:=JP I1 d;refine⟨t1,t2,?_⟩;rw[m.trees]
 refine Calls.callWith_builtin rfl (Calls.evalArgs_plain (CB (thn (he pins s1 σ H1 _ I1 q1) fun iv s2 ⟨y,H2,I2,ry,q2⟩ =>
  CB (thn (hf pins s2 σ H2 _ I2 q2) fun fv s3 ⟨z,H3,I3,rz,ov,g,q3⟩=>Calls.spliced_nil ?_))))
 exact JQ hu I3 g ry rz fun w' s4 I4 rw'=>⟨_,H3,I4,rw',q3⟩
end
end L2
namespace HT
open PySem PyProof.Rows
def rcLt_int(A:Around)(s:Shared)(a:Int)(t:Tok)(c:Int)(u:Tok)(prog:Program)(w:World)(E:Value->Shared->Prop)(Q:Value->Shared->Prop)(h:Q (.bool (decide (a<c))) s) :
  wpAny (model prog w) A (richCompare .Lt (.int a t) (.int c u)) Q E s :=
 (PyProof.Rows.lt_int h:wpAny (model prog w) A (compareOp .Lt (.int a t) (.int c u)) Q E s)
section
variable {prog:Program}{w:World}{A:Around}{E:Value->Shared->Prop}{s:Shared}
def cat_tup{vs ws:List Value}(ht:IsTup s.heap t vs.toArray)(hb:IsTup s.heap b ws.toArray)(hv:vs≠[])
  (h1:ws=[]->Q (.ref t) s)(h2:ws≠[]->Q (.ref s.heap.objs.size) { s with heap:=s.heap.push { cls:=.type "tuple",data:=.seq (vs++ws).toArray } })
  (hsz:vs.length+ws.length<=sizeLine):wpAny (model prog w) A (binaryOp .Add (.ref t) (.ref b)) Q E s:=by
 obtain⟨⟨cls,dd,data,sl⟩,ho,hc,n,hd⟩:=id ht;obtain⟨⟨cls2,dd2,data2,sl2⟩,ho2,hc2,n2,hd2⟩:=id hb;simp only at hc hd hc2 hd2;subst hc hd hc2 hd2;have e:vs.toArray++ws.toArray=(vs++ws).toArray:=by simp
 by_cases hw:ws=[]
 ·exact concat_meets ⟨_,ho,rfl⟩ ⟨_,ho2,rfl⟩ CS seq_tuple_add BQ BK (BG _ _)
   (tuple_addW1 t b vs.toArray ws.toArray n n2 dd dd2 sl sl2 (by simpa using hv) (by simp[hw])) ⟨ho,ho2,h1 hw⟩
 ·refine concat_meets ⟨_,ho,rfl⟩ ⟨_,ho2,rfl⟩ CS seq_tuple_add BQ BK (BG _ _)
   (tuple_addW2 t b vs.toArray ws.toArray n n2 dd dd2 sl sl2 (by simpa using hv) (by simpa using hw) (by rw[Xb,Xb];exact hsz)) ⟨ho,ho2,?_⟩
  rw[e];exact h2 hw
def sIx(n d:Nat):Option Int->Nat
 | none=>d
 | some v=>if v<0 then(v+(n:Int)).toNat else min v.toNat n
def sIx_none(n d:Nat):sIx n d none=d:=rfl
def sIx_nat(n d k:Nat):sIx n d (some (k:Int))=min k n:=by
 show(if (k:Int)<0 then((k:Int)+(n:Int)).toNat else min (k:Int).toNat n)=min k n;rw[Ak (by lia),Wm]
theorem JR(n d:Nat)(hd:d<=n)(o:Option Int):sIx n d o<=n:=by
 cases o with
 | none=>exact hd
 | some v =>
  show(if v<0 then(v+(n:Int)).toNat else min v.toNat n)<=n;by_cases hv:v<0
  ·rw[Ae hv];lia
  ·rw[Ak hv];exact CW _ _
def clip_nat(v:Int)(n:Nat)(hv:¬ v<0):min v (n:Int)=((min v.toNat n:Nat):Int):=by
 obtain⟨k,rfl⟩:=BO (Int.not_lt.mp hv);rw[Wm];rcases Nat.le_total k n with h|h
 ·rw[Ym h];exact Int.min_eq_left (Int.ofNat_le.mpr h)
 ·rw[CY h];exact Int.min_eq_right (Int.ofNat_le.mpr h)
def wM(v:Int)(n d:Nat):(if v<0 then max (v+(n:Int)) 0 else min v (n:Int))=((sIx n d (some v):Nat):Int):=by
 show(if v<0 then max (v+(n:Int)) 0 else min v (n:Int))=(((if v<0 then(v+(n:Int)).toNat else min v.toNat n):Nat):Int);by_cases hv:v<0
 ·rw[Ae hv,Ae hv];exact(Int.ofNat_toNat _).symm
 ·rw[Ak hv,Ak hv];exact clip_nat v n hv
def vz(lo hi:Option Int)(n:Nat):Builtin.Slice.sliceAdjust lo hi 1 (n:Int)=(((sIx n 0 lo:Nat):Int),((sIx n n hi:Nat):Int)):=by
 have h1:¬ ((1:Int)<0):=by lia
 unfold Builtin.Slice.sliceAdjust;simp only[h1,if_false];refine Prod.ext ?_ ?_
 ·cases lo with
  | none=>rfl
  | some v=>exact wM v n 0
 ·cases hi with
  | none=>rfl
  | some v=>exact wM v n n
def vA(i j:Nat):Builtin.Slice.slicePlaces (i:Int) (j:Int) 1=j-i:=by
 unfold Builtin.Slice.slicePlaces;have h1:(1:Int) > 0:=by lia
 simp only[h1,if_true,DB];split<;>lia
theorem slicePart_(p:IsPart v o)(h:Q o s):wpAny (model prog w) A (Builtin.Slice.slicePartIndex v) Q E s:=by
 cases p with
 | none=>exact slicePart_none h
 | int i t=>exact slicePart_int h
def iC{sl:Addr}{vl vu:Value}{lo hi:Option Int}{n:Nat}{Q:Int×Int×Nat->Shared->Prop}(hs:s.heap.IsSliceOf sl vl vu .none)(pl:IsPart vl lo)(pu:IsPart vu hi)
  (h:Q (((sIx n 0 lo:Nat):Int),1,sIx n n hi-sIx n 0 lo) s):wpAny (model prog w) A (Builtin.Slice.sliceApplied (.ref sl) (pure (n:Int))) Q E s:=by
 obtain⟨os,hos,hcs,hds⟩:=id hs;unfold Builtin.Slice.sliceApplied Builtin.Slice.sliceFields;refine Aa (Aa (At hos hds (x:=vl) rfl (Aa (At hos hds (x:=vu) rfl (Aa (At hos hds (x:=.none) rfl (Ad ?_)))))));refine Aa (slicePart_none ?_);show wpAny _ _ (if ((1:Int) == 0)=true then _ else _) _ _ s;rw[Ak (by decide)]
 refine Aa (slicePart_ pl (Aa (slicePart_ pu (Aa (Ad ?_)))));show wpAny _ _ (match Builtin.Slice.sliceAdjust lo hi 1 (n:Int) with|(lo,hi)=>pure (lo,(1:Int),Builtin.Slice.slicePlaces lo hi 1)) _ _ s
 rw[vz lo hi n];show wpAny _ _ (pure (((sIx n 0 lo:Nat):Int),(1:Int),Builtin.Slice.slicePlaces ((sIx n 0 lo:Nat):Int) ((sIx n n hi:Nat):Int) 1)) _ _ s;rw[vA];exact Ad h
def DL(xs:Array Value)(i k:Nat):((List.range k).filterMap fun(m:Nat)=>xs[((i:Int)+(m:Int)*1).toNat]?).toArray=((xs.toList.drop i).take k).toArray:=by
 have e:(fun(m:Nat)=>xs[((i:Int)+(m:Int)*1).toNat]?)=fun m=>xs[i+m]?:=by
  funext m
  have:((i:Int)+(m:Int)*1).toNat=i+m:=by lia
  rw[this]
 rw[e];have:=pick_run xs i k;rw[Cw]at this;have e2:((fun x=>xs[x]?) ∘ fun x=>i+x)=fun m=>xs[i+m]?:=rfl;rw[e2]at this;rw[this]
def getItem_tuple_cut{t sl:Addr}{items:Array Value}{vl vu:Value}{lo hi:Option Int}{Q:Value->Shared->Prop}(ht:IsTup s.heap t items)(hs:s.heap.IsSliceOf sl vl vu .none)(pl:IsPart vl lo)(pu:IsPart vu hi)
  (hw:¬ (sIx items.size 0 lo=0/\sIx items.size items.size hi=items.size))
  (h:Q (.ref s.heap.objs.size) { s with heap:=s.heap.push { cls:=.type "tuple",data:=.seq ((items.toList.drop (sIx items.size 0 lo)).take (sIx items.size items.size hi-sIx items.size 0 lo)).toArray } })
  (hsz:items.size<=sizeLine):wpAny (model prog w) A (getItem (.ref t) (.ref sl)) Q E s:=by
 have htake:sizeOk (.seq ((items.toList.drop (sIx items.size 0 lo)).take (sIx items.size items.size hi-sIx items.size 0 lo)).toArray):=by
  show((items.toList.drop (sIx items.size 0 lo)).take (sIx items.size items.size hi-sIx items.size 0 lo)).toArray.size<=sizeLine;rw[Xb,Wf,Vf,Yd];exact Zd (CW _ _) (Zd (Nat.sub_le _ _) hsz)
 have hj:sIx items.size items.size hi<=items.size:=JR _ _ (Qa _) hi;obtain⟨os,hos,hcs,hds⟩:=id hs;have hTs:s.TypeIs (.ref sl) "slice":=⟨os,hos,hcs⟩;unfold getItem
 try with_reducible refine AB ?_
 first|refine Aa (Ad ?_)|skip
 refine Aa (CF ht.typeIs (by decide) ?_)
 refine Aa (Ap (name:=Str.ofString "__getitem__") ht.typeIs Av
  (As Av ht.typeIs Cb ?_ (Cq _ _)))
 show wpAny _ _ (Builtin.Tuple.tupleItemsOf (.ref t) >>= _) _ _ s;refine Aa (tupleItemsOf_ ht ?_);refine Aa (AR hTs ?_);rw[Ae (by decide)]
 refine Aa (iC hs pl pu ?_);have hno:¬ ((((sIx items.size 0 lo:Nat):Int) == 0&&(1:Int) == 1&&(sIx items.size items.size hi-sIx items.size 0 lo) == items.size)=true):=by
  intro q;rw[Xh,Xh]at q;have q1:((sIx items.size 0 lo:Nat):Int)=0:=Ca q.1.1;have q2:sIx items.size items.size hi-sIx items.size 0 lo=items.size:=Ca q.2;exact hw ⟨by lia,by lia⟩
 show wpAny _ _ (if (((sIx items.size 0 lo:Nat):Int) == 0&&(1:Int) == 1&&(sIx items.size items.size hi-sIx items.size 0 lo) == items.size)=true then _ else _) _ _ s;rw[Ak hno,DL]
 first
  | exact Aa (m:=Builtin.Tuple.tupleExact _) (An (Ad ⟨_,rfl,Ad h⟩) htake)
  | exact Aa (m:=Builtin.Tuple.tupleExact _) (An (Aa (Ad (Ad ⟨_,rfl,Ad h⟩))) htake)
  | exact Aa (Aa (m:=Builtin.Tuple.tupleExact _) (An (Ad (Ad ⟨_,rfl,Ad h⟩)) htake))
  | exact Aa (Aa (m:=Builtin.Tuple.tupleExact _) (An (Ad ⟨_,rfl,Ad h⟩) htake))
end
end HT
namespace L2
open PySem PySem.Spec PyProof.Rows
abbrev TO:=St->Hp->(Option Int->Hp->Prop)->Prop
def PO(X:Cx)(e:Option Expr)(t:TO):Prop :=
 ∀(pins:List (Addr×Obj))(s:Shared)(σ:St)(H:Hp)(Q:Option Int->Hp->Prop),Inv X pins σ H s->t σ H Q ->
  wpAny (model X.prog X.w) X.A (evalPart e X.env) (fun u s'=>∃o H',Inv X pins σ H' s'/\IsPart u o/\Q o H') X.xe s
def wN:TO:=fun _ H Q=>Q none H
def IN(t:TE):TO:=fun σ H Q=>t σ H fun x H1=>∃i,x=.int i/\Q (some i) H1
section
variable {X:Cx}{e:Expr}{te:TE}{lo hi:Option Expr}{tl th:TO}{pos p2:Pos}
def d9:PO X none wN:=by
 intro pins s σ H Q I h;rw[Ci];exact Ad ⟨none,H,I,.none,h⟩
def dI(h:PE X e te):PO X (some e) (IN te):=by
 intro pins s σ H Q I hw;rw[evalPart_some];refine thn (h pins s σ H _ I hw) fun u s1 zz9=>?_;obtain⟨x,H1,I1,r1,q1⟩:=zz9;obtain⟨i,rfl,q⟩:=q1;obtain⟨t,rfl⟩:=r1;exact⟨some i,H1,I1,.int i t,q⟩
def SlR(X:Cx)(r:V->Option Int->Option Int->Hp->VK->Prop):Prop :=
 ∀(pins:List (Addr×Obj))(s:Shared)(σ:St)(H:Hp)(x:V)(v vl vu:Value)(lo hi:Option Int)(sl:Addr)(Q:VK),Inv X pins σ H s->RelV x v->s.heap.IsSliceOf sl vl vu .none->IsPart vl lo->IsPart vu hi->r x lo hi H Q ->
  ∃T id,typeLookup (.type T) "__getitem__"=pure (some (.builtin id))/\s.TypeIs v T/\wpAny (model X.prog X.w) X.A (getItem v (.ref sl)) (EP X pins σ Q) X.xe s
def SlR.or(h:SlR X r)(h':SlR X r'):SlR X (fun x lo hi H Q=>r x lo hi H Q∨r' x lo hi H Q):=by
 intro pins s σ H x v vl vu lo hi sl Q I rx hs pl pu q;rcases q with q|q
 ·exact h pins s σ H x v vl vu lo hi sl Q I rx hs pl pu q
 ·exact h' pins s σ H x v vl vu lo hi sl Q I rx hs pl pu q
def tSl(r:V->Option Int->Option Int->Hp->VK->Prop)(te:TE)(tl th:TO):TE:=fun σ H Q=>te σ H fun x H1=>tl σ H1 fun l H2=>th σ H2 fun u H3=>r x l u H3 Q
def di(hr:SlR X r)(he:PE X e te)(hl:PO X lo tl)(hu:PO X hi th):PE X (.Subscript e (.Slice lo hi none p2) pos) (tSl r te tl th):=by
 intro pins s σ H Q I h;refine Cr (thn (he pins s σ H _ I h) fun v s1 zz9=>?_);obtain⟨x,H1,I1,r1,q1⟩:=zz9;refine wpAny_Slice (thn (hl pins s1 σ H1 _ I1 q1) fun vl s2 ⟨l,H2,I2,pl,q2⟩=>thn (hu pins s2 σ H2 _ I2 q2) fun vu s3 zz9=>?_);obtain⟨u,H3,I3,pu,q3⟩:=zz9;rw[Ci];refine Ad ?_;have I4:Inv X pins σ H3 { s3 with heap:=s3.heap.push { cls:=.type "slice",data:=.fields #[vl,vu,.none] } }:=I3.kept (t':=s3.toks) fun b ob q=>Ac _ q;obtain⟨T,id,hT,ht,hg⟩:=hr pins { s3 with heap:=s3.heap.push { cls:=.type "slice",data:=.fields #[vl,vu,.none] } } σ H3 x v vl vu l u s3.heap.objs.size Q I4 r1 (Heap.IsSliceOf.new ..) pl pu q3;show wpAny (model X.prog X.w) X.A (subscriptTail e (.Slice lo hi none p2) v (.ref s3.heap.objs.size)) (EP X pins σ Q) X.xe { s3 with heap:=s3.heap.push { cls:=.type "slice",data:=.fields #[vl,vu,.none] } };exact tail_any (ops:=[.ref s3.heap.objs.size,v]) ht hT hg (by with_unfolding_all rfl)
def tQ(xs:List V)(lo hi:Option Int):List V:=(xs.drop (HT.sIx xs.length 0 lo)).take (HT.sIx xs.length xs.length hi-HT.sIx xs.length 0 lo)
def m5(xs:List V)(lo hi:Option Int):(tQ xs lo hi).length<=xs.length:=by
 unfold tQ;rw[Wf,Vf];lia
def JT(K:Ab):V->Option Int->Option Int->Hp->VK->Prop:=fun x lo hi H Q=>∃a xs,x=.ref a/\SqT K H a xs /\
 ¬ (HT.sIx xs.length 0 lo=0/\HT.sIx xs.length xs.length hi=xs.length)/\∀p,H p=none->Q (.ref p) (upd H p (.tup (tQ xs lo hi)))
def JU:SlR X (JT X.K):=by
 intro pins s σ H x v vl vu lo hi sl Q I rx hs pl pu h;obtain⟨a,xs,rfl,hx,hw,q⟩:=h;cases rx;obtain⟨its,r,ht,hz⟩:=I.tuple hx;have hlen:its.toArray.size=xs.length:=by rw[Xb];exact r.length.symm
 refine⟨"tuple",_,Av.lookup,ht.typeIs,?_⟩;refine HT.getItem_tuple_cut ht hs pl pu (by rw[hlen];exact hw) ?_ (by rw[hlen];exact hz)
 rw[hlen];refine⟨.ref s.heap.objs.size,_,I.laid (t':=s.toks) (o:=.tup (tQ xs lo hi)) (fun b ob q=>Ac _ q) (Qa _) ?_,rfl,q _ (I.hok.fresh (Qa _))⟩;exact⟨Zd (m5 xs lo hi) hz,_,(r.drop (HT.sIx xs.length 0 lo)).take (HT.sIx xs.length xs.length hi-HT.sIx xs.length 0 lo),IsTup.new _ _⟩
def DM(K:Ab):R2:=fun x y H Q=>∃a b xs ys,x=.ref a/\y=.ref b/\SqT K H a xs/\SqT K H b ys/\xs≠[]/\xs.length+ys.length<=sizeLine /\
 (ys=[]->Q (.ref a) H)/\(ys≠[]->∀p,H p=none->Q (.ref p) (upd H p (.tup (xs++ys))))
theorem Vals.nil_iff(r:Vals xs us):us=[]↔xs=[]:=by
 cases r with
 | nil=>simp
 | cons _ _=>simp
def GS:OpR X (binaryOp .Add) (DM X.K):=by
 intro pins s σ H x y v u Q I rx ry h;obtain⟨a,b,xs,ys,rfl,rfl,ha,hb,hx,hz,q1,q2⟩:=h;cases rx;cases ry;obtain⟨its,r1,p1,_⟩:=I.tuple ha;obtain⟨its2,r2,p2,_⟩:=I.tuple hb;refine HT.cat_tup p1 p2 (fun z=>hx (r1.nil_iff.mp z)) (fun z=>⟨.ref a,H,I,rfl,q1 (r2.nil_iff.mp z)⟩) (fun z=>?_) (by rw[← r1.length,← r2.length];exact hz)
 refine⟨.ref s.heap.objs.size,_,I.laid (t':=s.toks) (o:=.tup (xs++ys)) (fun b ob q=>Ac _ q) (Qa _) ?_,rfl,q2 (fun w=>z (r2.nil_iff.mpr w)) _ (I.hok.fresh (Qa _))⟩;exact⟨by rw[Xa];exact hz,_,r1.append r2,IsTup.new _ _⟩
end
end L2
namespace L2
open PySem PySem.Spec PyProof.Rows
def ixN(n:Nat)(i:Int):Option Nat:=if 0<=i then(if i<n then some i.toNat else none) else if -(n:Int)<=i then some (i+n).toNat else none
def atI{α:Type}(xs:List α)(i:Int):Option α:=(ixN xs.length i).bind fun j=>xs[j]?
def wO(h:ixN n i=some j):seqIndex? i n=some j/\j<n/\-(n:Int)<=i/\i<n:=by
 unfold ixN at h;by_cases h0:0<=i
 ·rw[Ae h0]at h;by_cases h1:i<n
  ·rw[Ae h1]at h;have e:i.toNat=j:=Option.some.inj h;exact⟨by rw[seqIndex_of h0 h1,e],by lia,by lia,h1⟩
  ·rw[Ak h1]at h;cases h
 ·rw[Ak h0]at h;by_cases h1:-(n:Int)<=i
  ·rw[Ae h1]at h;have e:(i+n).toNat=j:=Option.some.inj h;exact⟨by rw[seqIndex_neg (by lia) h1,e],by lia,h1,by lia⟩
  ·rw[Ak h1]at h;cases h
theorem rF{xs:List α}(h:atI xs i=some v):∃j,seqIndex? i xs.length=some j/\xs[j]?=some v/\j<xs.length/\-(xs.length:Int)<=i/\i<xs.length:=by
 unfold atI at h;cases e:ixN xs.length i with
 | none=>rw[e]at h;cases h
 | some j =>
  rw[e]at h;obtain⟨h1,h2,h3,h4⟩:=wO e;exact⟨j,h1,h,h2,h3,h4⟩
def iN{α:Type}{xs:List α}{j:Nat}{v:α}(h:xs[j]?=some v):atI xs (j:Int)=some v:=by
 have hj:j<xs.length:=(Qb.mp h).1;have e:ixN xs.length (j:Int)=some j:=by
  unfold ixN;rw[Ae (by lia),Ae (by lia)];simp
 unfold atI;rw[e];exact h
def wP(b:Expr):Prop:=∀o i,subscripted b false o i=operate [o,i] (getItem o i)
def IxR(X:Cx)(r:R2):Prop :=
 ∀(value slice:Expr)(pins:List (Addr×Obj))(s:Shared)(σ:St)(H:Hp)(x y:V)(v u:Value)(Q:VK),Inv X pins σ H s->RelV x v->RelV y u->r x y H Q ->
  subscripted slice false v u=operate [v,u] (getItem v u)->wpAny (model X.prog X.w) X.A (subscriptTail value slice v u) (EP X pins σ Q) X.xe s
def MtR(X:Cx)(id:String)(r:V->List V->Hp->VK->Prop):Prop :=
 ∀(pins:List (Addr×Obj))(s:Shared)(σ:St)(H:Hp)(x:V)(xs:List V)(v:Value)(us:List Value)(Q:VK),Inv X pins σ H s->RelV x v->Vals xs us->r x xs H Q ->
  wpAny (model X.prog X.w) X.A (call (.builtin id) (v::us)) (EP X pins σ Q) X.xe s
section
variable {X:Cx}{a b:Expr}{ta tb:TE}{pos:Pos}
def IxR.or(h:IxR X r)(h':IxR X r'):IxR X (fun x y H Q=>r x y H Q∨r' x y H Q):=by
 intro value slice pins s σ H x y v u Q I rx ry q hs;rcases q with q|q
 ·exact h value slice pins s σ H x y v u Q I rx ry q hs
 ·exact h' value slice pins s σ H x y v u Q I rx ry q hs
def LZ(hr:IxR X r)(ha:PE X a ta)(hb:PE X b tb)(hs:wP b):PE X (.Subscript a b pos) (tOp r ta tb):=by
 intro pins s σ H Q I h;exact Cr (JF ha hb I h fun v u s2 x y H2 I2 rx ry q=>hr a b pins s2 σ H2 x y v u Q I2 rx ry q (hs _ _))
def JV(K:Ab):R2:=fun x y H Q=>∃p xs i v,x=.ref p/\y=.int i/\SqL K H p xs/\atI xs i=some v/\Q v H
def JW(K:Ab):R2:=fun x y H Q=>∃p xs i v,x=.ref p/\y=.int i/\SqT K H p xs/\atI xs i=some v/\Q v H
def JX:R2:=fun x y H Q=>∃z i c,x=.str z/\y=.int i/\z.length<=sizeLine/\atI z.cps.toList i=some c/\Q (.str ⟨#[c]⟩) H
def ix_list:IxR X (JV X.K):=by
 intro value slice pins s σ H x y v u Q I rx ry h hs;obtain⟨p,xs,i,z,rfl,rfl,hq,he,q⟩:=h;cases rx;obtain⟨t,rfl⟩:=ry;obtain⟨its,r,pl,hz⟩:=I.list hq;obtain⟨j,h1,h2,h3,h4,h5⟩:=rF he;obtain⟨w,ew,rw'⟩:=r.get h2;have hl:=r.length;have hn:=kJ;have fin:EP X pins σ Q w s:=⟨z,H,I,rw',q⟩;by_cases h0:0<=i
 ·have hj:i.toNat=j:=by
   rw[seqIndex_of h0 h5]at h1;exact Option.some.inj h1
  exact item_listR pl.isList h0 (by lia) (by rw[hj];simpa using ew) fin hs
 ·have hj:(i+(its.toArray.size:Int)).toNat=j:=by
   rw[seqIndex_neg (by lia) h4]at h1
   rw[Xb,← hl];exact Option.some.inj h1
  exact subscriptTail_builtinR (x:=w) pl.isList.typeIs slot_list_getitem.lookup
   (wpAny_getItem_list_neg (Q:=fun r s'=>r=w/\EP X pins σ Q r s') pl.isList (by lia) (by rw[Xb]<;>lia) (by lia) (by rw[hj];simpa using ew) ⟨rfl,fin⟩) hs
def ix_tup:IxR X (JW X.K):=by
 intro value slice pins s σ H x y v u Q I rx ry h hs;obtain⟨p,xs,i,z,rfl,rfl,hq,he,q⟩:=h;cases rx;obtain⟨t,rfl⟩:=ry;obtain⟨its,r,pl,hz⟩:=I.tuple hq;obtain⟨j,h1,h2,h3,h4,h5⟩:=rF he;obtain⟨w,ew,rw'⟩:=r.get h2;have hl:=r.length;have hn:=kJ;have fin:EP X pins σ Q w s:=⟨z,H,I,rw',q⟩;exact subscriptTail_builtinR (x:=w) pl.typeIs slot_tuple_getitem.lookup
  (getItem_tuple (j:=j) (Q:=fun r s'=>r=w/\EP X pins σ Q r s') pl (by lia) (by lia) (by rw[Xb,← hl];exact h1) (by simpa using ew) ⟨rfl,fin⟩) hs
def ix_str:IxR X JX:=by
 intro value slice pins s σ H x y v u Q I rx ry h hs;obtain⟨z,i,c,rfl,rfl,hz,he,q⟩:=h;obtain⟨t,rfl⟩:=rx;obtain⟨t',rfl⟩:=ry;obtain⟨j,h1,h2,h3,h4,h5⟩:=rF he;have hl:z.cps.toList.length=z.length:=by simp[Str.length]
 rw[hl]at h1 h4 h5;have hn:=kJ
 exact tail_any (C6 s z t) slot_str_getitem.lookup (getItem_str (c:=c) (by
  have e1:decide (i < -(2 ^ 63:Int))=false:=Ag (by lia)
  have e2:decide (i ≥ 2 ^ 63)=false:=Ag (by lia)
  rw[e1,e2,Bool.or_false]) (by rw[h1];simpa using h2) ⟨.str ⟨#[c]⟩,H,I.tok _,⟨_,rfl⟩,q⟩) hs
def rIx(K:Ab):R2:=fun x y H Q=>JV K x y H Q∨JW K x y H Q∨JX x y H Q
def JY:IxR X (rIx X.K):=ix_list.or (ix_tup.or ix_str)
def vB(its:List Value)(n j:Nat)(u:Value):Obj.mapSeq (·.setIfInBounds j u) { cls:=.type "list",data:=.seq its.toArray n }={ cls:=.type "list",data:=.seq (its.set j u).toArray n }:=by
 simp[Obj.mapSeq]
theorem Inv.lst{s:Shared}(I:Inv X pins σ H s)(h:H p=some (.lst xs)) :
  ∃(its:List Value)(n:Nat),Vals xs its/\s.heap.get? p=some { cls:=.type "list",data:=.seq its.toArray n }/\xs.length<=sizeLine:=by
 obtain⟨z,its,n,r,e⟩:=I.hok p _ h;exact⟨its,n,r,e,z⟩
def Inv.lstUpd{s:Shared}{xs ys:List V}{its its':List Value}(I:Inv X pins σ H s)(h:H p=some (.lst xs))
  (ho:s.heap.get? p=some { cls:=.type "list",data:=.seq its.toArray n })(hf:f { cls:=.type "list",data:=.seq its.toArray n }={ cls:=.type "list",data:=.seq its'.toArray n' })(r:Vals ys its')(hz:ys.length<=sizeLine)(t:Nat) :
  Inv X pins σ (upd H p (.lst ys)) { s with heap:=s.heap.update p f,toks:=t }:=by
 have e:(s.heap.update p f).get? p=some { cls:=.type "list",data:=.seq its'.toArray n' }:=by
  rw[B3 f ho (by rw[hf]<;>rfl),hf]
 refine I.write (x:=p) (e:=p) (by rw[h];trivial) (.inl rfl) (fun b u hb q=>(BT _ _ (AL hb)).trans q) ⟨_,e⟩ ?_
 exact⟨hz,its',n',r,e⟩
def IO:V->V->V->Hp->(Hp->Prop)->Prop:=fun o i v H Q=>∃p xs k j,o=.ref p/\i=.int k/\H p=some (.lst xs)/\ixN xs.length k=some j/\Q (upd H p (.lst (xs.set j v)))
def set_list:JA X IO:=by
 intro pins s σ H o i v ov iv u Q I ro ri rv h;obtain⟨p,xs,k,j,rfl,rfl,hp,hj,q⟩:=h;cases ro;obtain⟨t,rfl⟩:=ri;obtain⟨its,n,r,ho,hz⟩:=I.lst hp;obtain⟨h1,h2,h3,h4⟩:=wO hj;have hl:=r.length;have hn:=kJ;have I':Inv X pins σ (upd H p (.lst (xs.set j v))) { s with heap:=s.heap.update p (Obj.mapSeq (·.setIfInBounds j u)) } :=
  I.lstUpd hp ho (vB its n j u) (r.set rv j) (by rw[List.length_set];exact hz) s.toks
 by_cases h0:0<=k
 ·have hk:k.toNat=j:=by
   rw[seqIndex_of h0 h4]at h1;exact Option.some.inj h1
  exact PySem.W.ki_setAt ho h0 (by lia) (by rw[Xb,← hl];exact h4) (by rw[hk];exact⟨_,I',q⟩)
 ·have hk:(k+(its.toArray.size:Int)).toNat=j:=by
   rw[seqIndex_neg (by lia) h3]at h1
   rw[Xb,← hl];exact Option.some.inj h1
  exact PySem.W.ki_setBack ho (by lia) (by rw[Xb,← hl];exact h3) (by lia) (by rw[hk];exact⟨_,I',q⟩)
def DN(i:Int)(n:Nat):max 0 (min (if i<0 then i+(n:Int) else i) (n:Int))=(((if i<0 then(i+(n:Int)).toNat else min i.toNat n):Nat):Int):=by
 by_cases h:i<0
 ·rw[Ae h,Ae h,Int.min_eq_left (by lia),Int.max_comm];exact(Int.ofNat_toNat _).symm
 ·rw[Ak h,Ak h,HT.clip_nat i n h];exact Int.max_eq_right (Cy _)
def rG(lo hi:Option Int)(n:Nat):(sliceBounds lo hi none n).1=((HT.sIx n 0 lo:Nat):Int)/\(sliceBounds lo hi none n).2.1=((HT.sIx n n hi:Nat):Int)/\(sliceBounds lo hi none n).2.2=1:=by
 refine⟨?_,?_,rfl⟩
 ·cases lo with
  | none=>simp[sliceBounds,HT.sIx]
  | some i=>exact DN i n
 ·cases hi with
  | none=>simp[sliceBounds,HT.sIx]
  | some i=>exact DN i n
def qc(its:List Value)(lo hi:Option Int):slicePick its.toArray lo hi none=((its.drop (HT.sIx its.length 0 lo)).take (HT.sIx its.length its.length hi-HT.sIx its.length 0 lo)).toArray:=by
 obtain⟨h1,h2,h3⟩:=rG lo hi its.toArray.size;unfold slicePick;rw[h1,h2,h3];simp only[sliceRange_one,pick_run,Xb]<;>rfl
def JZ(K:Ab):V->Option Int->Option Int->Hp->VK->Prop:=fun x lo hi H Q=>∃a xs,x=.ref a/\SqL K H a xs/\∀p,H p=none->Q (.ref p) (upd H p (.lst (tQ xs lo hi)))
def GU:SlR X (JZ X.K):=by
 intro pins s σ H x v vl vu lo hi sl Q I rx hs pl pu h;obtain⟨a,xs,rfl,hx,q⟩:=h;cases rx;obtain⟨its,r,ht,hz⟩:=I.list hx;have hlen:=r.length;refine⟨"list",_,slot_list_getitem.lookup,ht.isList.typeIs,?_⟩;refine wpAny_getItem_list_slice ht.isList hs pl pu .none (by simp) ?_ (by rw[Xb]<;>lia)
 rw[qc,← hlen];refine⟨.ref s.heap.objs.size,_,I.laid (t':=s.toks) (o:=.lst (tQ xs lo hi)) (fun b ob q=>Ac _ q) (Qa _) ?_,rfl,q _ (I.hok.fresh (Qa _))⟩;exact⟨Zd (m5 xs lo hi) hz,_,0,(r.drop (HT.sIx xs.length 0 lo)).take (HT.sIx xs.length xs.length hi-HT.sIx xs.length 0 lo),Ai _ rfl⟩
def kE:V->Bool
 | .non=>true
 | .bl _=>true
 | .int _=>true
 | .str _=>true
 | _=>false
def eqV:V->V->Bool
 | .non,.non=>true
 | .bl a,.bl b=>a == b
 | .bl a,.int b=>(if a then 1 else 0) == b
 | .int a,.bl b=>a == (if b then 1 else 0)
 | .int a,.int b=>a == b
 | .str a,.str b=>a == b
 | _,_=>false
theorem J1(ry:RelV y u)(rx:RelV x v)(fy:kE y=true)(fx:kE x=true):SeqAt.EqAt A s u v (eqV y x):=by
 cases y with
 | non =>
  cases ry;cases x with
  | non=>cases rx;exact SeqAt.EqAt.same _
  | bl b=>cases rx;exact SeqAt.EqAt.none_bool b
  | int b=>obtain⟨t,rfl⟩:=rx;exact SeqAt.EqAt.none_int b t
  | str b=>obtain⟨t,rfl⟩:=rx;exact SeqAt.EqAt.none_str b t
  | _=>exact absurd (show false=true from fx) Wd
 | bl a =>
  cases ry;cases x with
  | non=>cases rx;exact SeqAt.EqAt.bool_none a
  | bl b=>cases rx;exact SeqAt.EqAt.bool_bool a b
  | int b=>obtain⟨t,rfl⟩:=rx;exact SeqAt.EqAt.bool_int a b t
  | str b=>obtain⟨t,rfl⟩:=rx;exact SeqAt.EqAt.bool_str a b t
  | _=>exact absurd (show false=true from fx) Wd
 | int a =>
  obtain⟨t',rfl⟩:=ry;cases x with
  | non=>cases rx;exact SeqAt.EqAt.int_none a t'
  | bl b=>cases rx;exact SeqAt.EqAt.int_bool a t' b
  | int b=>obtain⟨t,rfl⟩:=rx;exact SeqAt.EqAt.int_int a t' b t
  | str b=>obtain⟨t,rfl⟩:=rx;exact Ct a t' b t
  | _=>exact absurd (show false=true from fx) Wd
 | str a =>
  obtain⟨t',rfl⟩:=ry;cases x with
  | non=>cases rx;exact SeqAt.EqAt.str_none a t'
  | bl b=>cases rx;exact SeqAt.EqAt.str_bool a t' b
  | int b=>obtain⟨t,rfl⟩:=rx;exact Cs a t' b t
  | str b=>obtain⟨t,rfl⟩:=rx;exact SeqAt.EqAt.str_str a t' b t
  | _=>exact absurd (show false=true from fx) Wd
 | _=>exact absurd (show false=true from fy) Wd
def eqU(x:V)(u:Value):Bool:=match u with
 | .none=>eqV .non x
 | .bool b=>eqV (.bl b) x
 | .int i _=>eqV (.int i) x
 | .str z _=>eqV (.str z) x
 | _=>false
theorem DO(r:RelV y u)(f:kE y=true):eqU x u=eqV y x:=by
 cases y with
 | non=>cases r;rfl
 | bl b=>cases r;rfl
 | int i=>obtain⟨t,rfl⟩:=r;rfl
 | str z=>obtain⟨t,rfl⟩:=r;rfl
 | _=>exact absurd (show false=true from f) Wd
theorem lH:∀{xs:List V}{us:List Value},Vals xs us->xs.all kE=true->us.any (eqU x)=xs.any fun y=>eqV y x
 | _,_,.nil,_=>rfl
 | y::xs,u::us,.cons r t,f=>by
  rw[BI,Xh]at f;rw[Bk,Bk,DO r f.1,lH t f.2]
theorem jw(rx:RelV x v)(fx:kE x=true):∀{xs:List V}{us:List Value},Vals xs us->xs.all kE=true->∀u∈us,SeqAt.EqAt A s u v (eqU x u)
 | _,_,.nil,_=>fun u hu=>by cases hu
 | y::xs,u::us,.cons r t,f=>fun u' hu=>by
  rw[BI,Xh]at f;rcases Vd.mp hu with rfl|hu
  ·rw[DO r f.1];exact J1 r rx f.1 fx
  ·exact jw rx fx t f.2 u' hu
def inV(x:V)(xs:List V):Bool:=xs.any fun y=>eqV y x
def rIn(K:Ab)(neg:Bool):R2:=fun x y H Q=>∃p xs,y=.ref p/\(SqL K H p xs∨SqT K H p xs)/\kE x=true/\xs.all kE=true/\Q (.bl (if neg then !inV x xs else inV x xs)) H
def yy:OpR X (compareOp .In) (rIn X.K false):=by
 intro pins s σ H x y v u Q I rx ry h;obtain⟨p,xs,rfl,hq,fx,fs,q⟩:=h;cases ry;rcases hq with hq|hq
 ·obtain⟨its,r,pl,hz⟩:=I.list hq;refine SeqAt.in_listAt (eqU x) pl.isList (fun w hw=>jw rx fx r fs w (by simpa using hw)) ⟨.bl _,H,I,rfl,?_⟩
  rw[show its.toArray.any (eqU x)=its.any (eqU x) by simp,lH r fs]
  exact q
 ·obtain⟨its,r,pl,hz⟩:=I.tuple hq;refine CT (eqU x) pl (fun w hw=>jw rx fx r fs w (by simpa using hw)) ⟨.bl _,H,I,rfl,?_⟩
  rw[show its.toArray.any (eqU x)=its.any (eqU x) by simp,lH r fs]
  exact q
def rH:OpR X (compareOp .NotIn) (rIn X.K true):=by
 intro pins s σ H x y v u Q I rx ry h;obtain⟨p,xs,rfl,hq,fx,fs,q⟩:=h;cases ry;rcases hq with hq|hq
 ·obtain⟨its,r,pl,hz⟩:=I.list hq;refine SeqAt.notIn_listAt (eqU x) pl.isList (fun w hw=>jw rx fx r fs w (by simpa using hw)) ⟨.bl _,H,I,rfl,?_⟩
  rw[show its.toArray.any (eqU x)=its.any (eqU x) by simp,lH r fs]
  exact q
 ·obtain⟨its,r,pl,hz⟩:=I.tuple hq;refine SeqAt.notIn_tupleAt (eqU x) pl (fun w hw=>jw rx fx r fs w (by simpa using hw)) ⟨.bl _,H,I,rfl,?_⟩
  rw[show its.toArray.any (eqU x)=its.any (eqU x) by simp,lH r fs]
  exact q
def rJ:CallR X (.builtin "len") (fun xs H Q=>∃p ys,xs=[.ref p]/\(SqL X.K H p ys∨SqT X.K H p ys)/\Q (.int ys.length) H):=by
 intro pins s σ H xs us Q I r h;obtain⟨p,ys,rfl,hq,q⟩:=h;obtain⟨u,rfl,rx⟩:=vals1 r;cases rx;have hn:=kJ;rcases hq with hq|hq
 ·obtain⟨its,r',pl,hz⟩:=I.list hq;have hlen:=r'.length;exact Calls.call_len_list pl.isList (by simp only[Xb]<;>lia) ⟨.int ys.length,H,I.tok _,⟨s.toks+1,by rw[Xb,hlen]⟩,q⟩
 ·obtain⟨its,r',pl,hz⟩:=I.tuple hq;have hlen:=r'.length;exact len_tuple pl (by simp only[Xb]<;>lia) ⟨.int ys.length,H,I.tok _,⟨s.toks+1,by rw[Xb,hlen]⟩,q⟩
def rK:CallR X (.builtin "len") (fun xs H Q=>∃z,xs=[.str z]/\z.length<=sizeLine/\Q (.int z.length) H):=by
 intro pins s σ H xs us Q I r h;obtain⟨z,rfl,hz,q⟩:=h;obtain⟨u,rfl,t,rfl⟩:=vals1 r;have hn:=kJ;exact len_str (by lia) ⟨.int z.length,H,I.tok _,⟨_,rfl⟩,q⟩
def CallR.or(h:CallR X f r)(h':CallR X f r'):CallR X f (fun xs H Q=>r xs H Q∨r' xs H Q):=by
 intro pins s σ H xs us Q I rs q;rcases q with q|q
 ·exact h pins s σ H xs us Q I rs q
 ·exact h' pins s σ H xs us Q I rs q
def rL:CallR X (.type "list") (fun xs H Q=>∃p ys,xs=[.ref p]/\(SqL X.K H p ys∨SqT X.K H p ys)/\∀l,H l=none->Q (.ref l) (upd H l (.lst ys))):=by
 intro pins s σ H xs us Q I r h;obtain⟨p,ys,rfl,hq,q⟩:=h;obtain⟨u,rfl,rx⟩:=vals1 r;cases rx;have fin:∀(its:List Value),Vals ys its->ys.length<=sizeLine->∀(h':Heap)(c':Nat),(∀b o',s.heap.get? b=some o'->h'.get? b=some o') ->
   h'.get? s.heap.objs.size=some { cls:=.type "list",dict:=none,data:=.seq its.toArray c',slots:=#[] }->EP X pins σ Q (.ref s.heap.objs.size) { s with heap:=h' }:=fun its r' hz h' c' kp e =>
  ⟨.ref s.heap.objs.size,_,I.laid (t':=s.toks) kp (Qa _) (show ObjOk X.prog X.w _ h' _ (.lst ys) from⟨hz,its,c',r',e⟩),rfl,q _ (I.hok.fresh (Qa _))⟩
 rcases hq with hq|hq
 ·obtain⟨its,r',pl,hz⟩:=I.list hq;have hlen:=r'.length;obtain⟨o,ho,hc,n,hd⟩:=pl.isList;exact call_list_seq p (.inl rfl) ho hc hd (fun h' c' kp e=>fin its r' hz h' c' kp e) (by simp only[Xb]<;>lia)
 ·obtain⟨its,r',pl,hz⟩:=I.tuple hq;have hlen:=r'.length;obtain⟨o,ho,hc,n,hd⟩:=pl;exact call_list_seq p (.inr rfl) ho hc hd (fun h' c' kp e=>fin its r' hz h' c' kp e) (by simp only[Xb]<;>lia)
def qd:CallR X (.type "tuple") (fun xs H Q=>∃p ys,xs=[.ref p]/\((SqL X.K H p ys/\∀l,H l=none->Q (.ref l) (upd H l (.tup ys)))∨(SqT X.K H p ys/\Q (.ref p) H))):=by
 intro pins s σ H xs us Q I r h;obtain⟨p,ys,rfl,h⟩:=h;obtain⟨u,rfl,rx⟩:=vals1 r;cases rx;rcases h with⟨hq,q⟩|⟨hq,q⟩
 ·obtain⟨its,r',pl,hz⟩:=I.list hq;have hlen:=r'.length;refine call_tuple_list pl.isList (fun h' kp=>?_) (by simp only[Xb]<;>lia)
  have I1:Inv X pins σ H { s with heap:=h' }:=I.kept (t':=s.toks) kp;have I2:Inv X pins σ (upd H h'.objs.size (.tup ys)) { s with heap:=h'.push { cls:=.type "tuple",data:=.seq its.toArray } } :=
   I1.laid (t':=s.toks) (fun b o e=>Ac _ e) (Qa _) (show ObjOk X.prog X.w _ _ _ (.tup ys) from⟨hz,its,r',IsTup.new _ _⟩)
  exact⟨.ref h'.objs.size,_,I2,rfl,q _ (I1.hok.fresh (Qa _))⟩
 ·obtain⟨its,r',pl,hz⟩:=I.tuple hq;exact call_tuple_same pl ⟨.ref p,H,I,rfl,q⟩
def tyV(K:Ab)(T:String)(x:V)(H:Hp):Prop:=match x with
 | .str _=>T="str"
 | .int _=>T="int"
 | .ref p=>(T="list"/\∃xs,SqL K H p xs)∨(T="tuple"/\∃o,K.lookup p=some o/\o.cls=.type "tuple"/\o.dict=none) ∨
   (T="dict"/\((∃kvs,H p=some (.dK kvs))∨∃ep kvs,H p=some (.dT ep kvs)))∨(T="set"/\∃S n,H p=some (.set S n))
 | _=>False
def J2{s:Shared}(I:Inv X pins σ H s)(r:RelV x v)(ty:tyV X.K T x H) :
  s.TypeIs v T/\∀a,v=.ref a->∃ob,s.heap.get? a=some ob/\ob.dict=none:=by
 cases x with
 | str z =>
  obtain⟨t,rfl⟩:=r;cases (show T="str" from ty);exact⟨C6 s z t,fun _ e=>nomatch e⟩
 | int i =>
  obtain⟨t,rfl⟩:=r;cases (show T="int" from ty);exact⟨typeIs_int s i t,fun _ e=>nomatch e⟩
 | ref p =>
  cases r;rcases ty with⟨rfl,xs,hq⟩|⟨rfl,o,hk,hc,hd⟩|⟨rfl,hk⟩|⟨rfl,S,n,hk⟩
  ·obtain⟨its,_,pl,_⟩:=I.list hq;refine⟨pl.isList.typeIs,fun a e=>?_⟩;cases e;obtain⟨o,n,e,c,hd,_⟩:=pl;exact⟨o,e,hd⟩
  ·refine⟨⟨o,I.kIn p o hk,hc⟩,fun a e=>?_⟩;cases e;exact⟨o,I.kIn _ o hk,hd⟩
  ·have z:∃o,s.heap.get? p=some o/\o.ExactDict:=by
    rcases hk with⟨kvs,hk⟩|⟨ep,kvs,hk⟩
    ·obtain⟨_,_,_,_,o,_,_,e,ex,_⟩:=I.hok p _ hk;exact⟨o,e,ex⟩
    ·obtain⟨_,_,_,_,_,o,_,e,ex,_⟩:=I.hok p _ hk;exact⟨o,e,ex⟩
   obtain⟨o,e,ex⟩:=z;refine⟨⟨o,e,ex.1⟩,fun a e2=>?_⟩;cases e2;exact⟨o,e,ex.2.1⟩
  ·obtain⟨o,_,_,_,e,ex,_⟩:=I.hok p _ hk;refine⟨⟨o,e,ex.1⟩,fun a e2=>?_⟩;cases e2;exact⟨o,e,ex.2.1⟩
 | _=>exact False.elim ty
def tBM(K:Ab)(T:String)(r:V->List V->Hp->VK->Prop)(to:TE)(t:TA):TE:=fun σ H Q=>to σ H fun x H1=>tyV K T x H1/\t σ H1 fun xs H2=>r x xs H2 Q
variable {o e:Expr}{es:List Expr}{to:TE}{t:TA}{name:Str}{apos cpos:Pos}{T id:String}{r:V->List V->Hp->VK->Prop}
def kF(pa:PlainAttrs T)(slot:Slot T name id)(hty:typeOf (.builtin id)=pure (.type "method_descriptor"))(hm:MtR X id r)(ho:PE X o to)(ha:PA X (e::es) t)
  (hbase:attributeBase o name X.env (eval o X.env)=eval o X.env:=by rfl)
  (hfew:((backTo cpos (starEach (e::es) X.env)).all (fun x=>!x.1)&&(backToKw cpos (keywordEach [] X.env)).all (fun x=>x.1.isSome)
   && decide ((e::es).length+([]:List Keyword).length+(if ([]:List Keyword).isEmpty then 0 else 1)<30))=true:=by rfl)
  (hline:(apos.endLine == cpos.line)=true:=by rfl) (hs:starEach (e::es) X.env=(false,eval e X.env)::starEach es X.env:=by rfl) (hplain:(backTo cpos (starEach es X.env)).any (·.1)=false:=by rfl) :
  PE X (.Call (.Attribute o name apos) (e::es) [] cpos) (tBM X.K T r to t):=by
 intro pins s σ H Q I h;refine wpAny_Call_method_late hbase hfew hline rfl (thn (ho pins s σ H _ I h) fun v s1 zz9=>?_);obtain⟨x,H1,I1,r1,ty,q1⟩:=zz9;obtain⟨h1,h2⟩:=J2 I1 r1 ty;refine⟨T,id,pa,slot,hty,h1,h2,?_⟩;have hA:=ha cpos pins s1 σ H1 _ I1 q1;rw[hs]at hA ⊢;refine Calls.callWith_builtin (by show(false||(backTo cpos (starEach es X.env)).any (·.1))=false;rw[hplain]<;>rfl) (Calls.evalArgs_plain ?_)
 exact thn hA fun us s2 ⟨vs,H2,I2,r2,q2⟩=>hm pins s2 σ H2 x vs v us Q I2 r1 r2 q2
end
end L2
namespace L2
open PySem PySem.Spec PyProof.Rows
def MtM(X:Cx)(id:String)(r:V->List V->Hp->VK->Prop):Prop :=
 ∀(pins:List (Addr×Obj))(s:Shared)(σ:St)(H:Hp)(x:V)(xs:List V)(v:Value)(us:List Value)(Q:VK),Inv X pins σ H s->RelV x v->Vals xs us->r x xs H Q ->
  wpAny (model X.prog X.w) X.A (call (.builtin id) (v::us)) (EP X pins σ Q) X.xe s
theorem Vals.one:∀{x:V}{us:List Value},Vals [x] us->∃u,us=[u]/\RelV x u
 | _,_,.cons r .nil=>⟨_,rfl,r⟩
theorem Vals.eraseIdx:∀{xs:List V}{us:List Value}(i:Nat),Vals xs us->Vals (xs.eraseIdx i) (us.eraseIdx i)
 | _,_,_,.nil=>.nil
 | _,_,0,.cons _ t=>t
 | _,_,i+1,.cons r t=>.cons r (Vals.eraseIdx i t)
theorem Vals.reverse{xs:List V}{us:List Value}(h:Vals xs us):Vals xs.reverse us.reverse:=by
 induction h with
 | nil=>exact .nil
 | cons r t ih=>rw[AM,AM];exact Vals.append ih (.cons r .nil)
theorem qA:∀(l:List α)(i:Nat),(l.eraseIdx i).length<=l.length
 | [],_=>Qa _
 | _::_,0=>Nat.le_succ _
 | _::r,i+1=>CU (qA r i)
section
variable {X:Cx}{pins:List (Addr×Obj)}{σ:St}{H:Hp}{s:Shared}{l b:Addr}{xs ys zs:List V}
def Inv.lset{its its':List Value}{t':Nat}(I:Inv X pins σ H s)(hH:H l=some (.lst xs))
  (e:s.heap.get? l=some { cls:=.type "list",data:=.seq its.toArray n })(hf:f its.toArray=its'.toArray)(hv:Vals ys its')(hz:ys.length<=sizeLine) :
  Inv X pins σ (upd H l (.lst ys)) { s with heap:=s.heap.update l (Obj.mapSeq f),toks:=t' }:=by
 have q:=PySem.IsL.update e f;rw[hf]at q;refine I.write (x:=l) (e:=l) (by rw[hH];exact trivial) (.inl rfl) (fun b' u hb hu=>(BT s.heap (Obj.mapSeq f) (AL hb)).trans hu) ⟨_,q⟩ ?_
 exact⟨hz,its',_,hv,q⟩
def Inv.lnew{t':Nat}(I:Inv X pins σ H s)(hv:Vals ys its)(hz:ys.length<=sizeLine) :
  Inv X pins σ (upd H s.heap.objs.size (.lst ys)) { s with heap:=s.heap.push { cls:=.type "list",data:=.seq its.toArray },toks:=t' } :=
 I.laid (fun _ _ q=>Ac _ q) (Qa _) ⟨hz,its,0,hv,Ai _ rfl⟩
theorem Inv.fresh(I:Inv X pins σ H s):H s.heap.objs.size=none:=I.hok.fresh (Qa _)
def Inv.lstM(I:Inv X pins σ H s)(hH:H l=some (.lst xs)):xs.length<=sizeLine/\∃(its:List Value)(n:Nat),Vals xs its/\xs.length=its.length/\s.heap.get? l=some { cls:=.type "list",data:=.seq its.toArray n }:=by
 obtain⟨z,its,n,r,e⟩:=I.hok l _ hH;exact⟨z,its,n,r,r.length,e⟩
def tR(h:n<=sizeLine):Builtin.List.listTooLong n=false:=by
 unfold Builtin.List.listTooLong;exact Ag (by lia)
end
section
variable {X:Cx}
def rM:V->List V->Hp->VK->Prop:=fun x vs H Q=>∃l xs y,x=.ref l/\vs=[y]/\H l=some (.lst xs)/\xs.length<sizeLine/\Q .non (upd H l (.lst (xs++[y])))
def yz:MtM X "list.append" rM:=by
 intro pins s σ H x vs v us Q I rx rv h;obtain⟨l,xs,y,rfl,rfl,hH,hz,q⟩:=h;cases rx;obtain⟨u,rfl,ru⟩:=rv.one;obtain⟨z,its,n,r,hl,e⟩:=I.lstM hH;refine BP F.slot_list_append ⟨_,e,rfl⟩ F.entry_list_append (F.args_list_append_2 _ _) (PySem.list_append l its.toArray n u (by rw[Xb];lia)) ⟨e,?_⟩
 refine⟨.non,_,I.lset (its':=its++[u]) hH e (by simp) (r.append (.cons ru .nil)) ?_,rfl,q⟩
 rw[Xa,Bb];lia
def wQ:V->List V->Hp->VK->Prop:=fun x vs H Q=>∃l b xs zs,x=.ref l/\vs=[.ref b]/\H l=some (.lst xs)/\H b=some (.lst zs)/\xs.length+zs.length<=sizeLine/\Q .non (upd H l (.lst (xs++zs)))
def yA:MtM X "list.extend" wQ:=by
 intro pins s σ H x vs v us Q I rx rv h;obtain⟨l,b,xs,zs,rfl,rfl,hH,hB,hz,q⟩:=h;cases rx;obtain⟨u,rfl,ru⟩:=rv.one;cases ru;obtain⟨z,its,n,r,hl,e⟩:=I.lstM hH;obtain⟨z2,its2,n2,r2,hl2,e2⟩:=I.lstM hB;have hsz:its.toArray.size+its2.toArray.size<=sizeLine:=by rw[Xb,Xb];lia
 have hlong:¬ (!its.toArray.isEmpty&&Builtin.List.listTooLong (its.toArray.size+its2.toArray.size))=true:=by
  rw[tR hsz,Df];exact Wd
 refine BP F.slot_list_extend ⟨_,e,rfl⟩ F.entry_list_extend (F.args_list_extend_2 _ _)
  (AutoSeq1.list_extend_list_list_0 l its.toArray n b its2.toArray n2 hlong (by rw[Xb];lia) (by lia)) ⟨e,e2,?_⟩
 refine⟨.non,_,I.lset (its':=its++its2) hH e (by simp) (r.append r2) ?_,rfl,q⟩
 rw[Xa];lia
def DP:V->List V->Hp->VK->Prop:=fun x vs H Q=>∃l xs i k y,x=.ref l/\vs=[.int i]/\H l=some (.lst xs)/\-(2 ^ 63)<=i/\i<2 ^ 63/\seqIndex? i xs.length=some k/\xs[k]?=some y/\Q y (upd H l (.lst (xs.eraseIdx k)))
def oB:MtM X "list.pop" DP:=by
 intro pins s σ H x vs v us Q I rx rv h;obtain⟨l,xs,i,k,y,rfl,rfl,hH,h1,h2,hk,hy,q⟩:=h;cases rx;obtain⟨u,rfl,ru⟩:=rv.one;obtain⟨t,rfl⟩:=ru;obtain⟨z,its,n,r,hl,e⟩:=I.lstM hH;obtain⟨w,hw,rw'⟩:=r.get hy;refine BP F.slot_list_pop ⟨_,e,rfl⟩ F.entry_list_pop (F.args_list_pop_2 _ _)
  (MeetsSeq.list_pop_at l its.toArray n i t k w (fitsIndex_both h1 h2) (by rw[Xb,← hl];exact hk) (by rw[← Yk];exact hw) (by rw[Xb];lia)) ⟨e,?_⟩
 refine⟨y,_,I.lset (its':=its.eraseIdx k) hH e ?_ (r.eraseIdx k) ?_,rw',q⟩
 ·show its.toArray.eraseIdxIfInBounds k=(its.eraseIdx k).toArray;rw[List.eraseIdxIfInBounds_toArray]
 ·have:=qA xs k;lia
def Ka:R2:=fun x y H Q=>∃l b xs zs,x=.ref l/\y=.ref b/\H l=some (.lst xs)/\H b=some (.lst zs)/\xs.length+zs.length<=sizeLine/\∀p,H p=none->Q (.ref p) (upd H p (.lst (xs++zs)))
def op_cat:OpR X (binaryOp .Add) Ka:=by
 intro pins s σ H x y v u Q I rx ry h;obtain⟨l,b,xs,zs,rfl,rfl,hH,hB,hz,q⟩:=h;cases rx;cases ry;obtain⟨z,its,n,r,hl,e⟩:=I.lstM hH;obtain⟨z2,its2,n2,r2,hl2,e2⟩:=I.lstM hB;refine PySem.P.add_list e e2 ?_ (by rw[Xb,Xb];lia)
 have ea:its.toArray++its2.toArray=(its++its2).toArray:=by simp
 rw[ea];exact⟨.ref _,_,I.lnew (t':=s.toks) (r.append r2) (by rw[Xa];lia),rfl,q _ I.fresh⟩
end
end L2
namespace Att
open PySem PySem.W PySem.Calls PyProof.Rows
theorem nG:∀(ns:List Int)(vs:List Value),WellAll P h vs (ns.map WData.int)->IntsAre vs ns:=by
 intro ns;induction ns with
 | nil =>
  intro vs w;rw[AV]at w;cases w;exact .nil
 | cons n ns ih =>
  intro vs w;rw[Xe]at w;cases w with
  | cons a b =>
   cases a;exact .cons _ _ (ih _ b)
def yB{l:OpenLaw}(hn:l.most=some n){h:Heap}
  (hpre:l.row.toRowW.claim.pre args=true)(hwl:WellAll P h vals args) :
  ∃a vs ns,vals=[Value.ref a]/\args=[WData.list (ns.map WData.int)]/\h.get? a=some { cls:=.type "list",data:=.seq vs.toArray }/\IntsAre vs ns/\ns.length<=n:=by
 have hsh:WShape.hasAll [] args [.list .int]=true:=(pre_splitW hpre).1;have hc:l.pre.holds [] { args:=args }=true:=(pre_splitW hpre).2;obtain⟨d,r,rfl,h1,h2⟩:=hasAllW_cons hsh;obtain rfl:=hasAllW_nil h2;obtain⟨xs,rfl,h3⟩:=hasW_list h1;obtain⟨ns,rfl⟩:=items_int h3;have hlen:ns.length<=n:=by
  unfold OpenLaw.pre at hc;have h4:(WTm.not (.lt (.lit (.int (n:Int))) (.len (.arg 0)))).holds [] { args:=[.list (ns.map .int)] }=true:=by
   have h4:=(holds_andW hc).1;rw[hn]at h4;exact h4
  have h5:=condW_of h4 (w_not (w_lt w_lit (w_len_list (w_arg rfl))));rw[Ya]at h5;refine BL fun q=>?_;have q':(n:Int)<((ns.length:Nat):Int):=by lia
  first
   | (rw[Af q']at h5;exact absurd h5 (by decide))
   | (simp at h5;lia)
 cases hwl with
 | cons w1 w2 =>
  cases w2;cases w1 with
  | list ho hall=>exact⟨_,_,ns,rfl,rfl,ho,nG ns _ hall,hlen⟩
def yC(l:OpenLaw)(args:List WData):l.row.toRowW.claim.post args (.bool true) args=true :=
 postW_of (r:=l.row.toRowW) (X:=(true == true))
  (show WShape.has [] (.bool true) .bool=true by first|rfl|decide|simp[WShape.has,WShape.arms,WShape.armsAll])
  (show(WTm.eq .res (.lit (.bool true))).value [] { args:=args,res:=some (.bool true),after:=args }=some (.bool (true == true)) from w_eq_bool (w_res rfl) w_lit) rfl
def attach_call{l:OpenLaw}{d:DefRec}
  (hn:l.most=some n)(hdf:d.params.defaults=[])
  (call:∀(w:World)(s₀ s₁:Shared)(mg mb:Str->Option Value)(fa:Addr)(o:Obj)(pm cd doc:Value)(a:Addr)(vs:List Value)(ns:List Int),
   Ground q loose [] XP w s₀ mg mb s₁.heap->YP w s₁.heap ->
   s₁.heap.get? fa=some o->o.data=.func (docDef d.name d.params d.body d.scope pm cd doc)->s₁.heap.CodeRec cd d.name->mg d.name=some (.ref fa) ->
   s₁.heap.get? a=some { cls:=.type "list",data:=.seq vs.toArray }->IntsAre vs ns->ns.length<=n->s₁.gens=#[] ->
   codeAny (model l.prog w) callerA (.call (.ref fa) ⟨[.ref a],[]⟩) (fun r s'=>r=.ok (.ret (.bool true))/\OldK s₁.heap s'.heap/\s'.os=s₁.os/\AllBare s'.gens) s₁) :
  WalkO q loose XP YP l.row.toRowW d [] (fun f vs=>PySem.call f vs):=by
 intro w s₀ s₁ mg mb G Y fa o pm cd doc dV kV ho hd hcd hD hmg hg args vals as hpre hlay hrd hwl hlo;obtain rfl:dV=.none:=Dflts.none hD hdf;obtain rfl:kV=.none:=Dflts.noKw hD;obtain⟨a,vs,ns,rfl,rfl,hobj,hints,hlen⟩:=yB hn hpre hwl;refine enter_call (codeAny_mono (call w s₀ s₁ mg mb fa o pm cd doc a vs ns G Y ho (fd_plain hd) hcd hmg hobj hints hlen hg) fun r s' hq=>?_);obtain⟨rfl,h2,h3,h4⟩:=hq;exact⟨.inl ⟨.bool true,.bool true,[],rfl,fun _=>rfl,.bool true,yC l _,fun _=>⟨List.Pairwise.nil,fun _ hm=>(nomatch hm)⟩⟩,h2,h3,h4⟩
end Att
namespace L2
open PySem PySem.Spec PyProof.Rows
theorem qB:∀{vs:List Value}{ns:List Int},IntsAre vs ns->Vals (ns.map V.int) vs
 | _,_,.nil=>.nil
 | _,_,.cons n t h=>.cons ⟨t,rfl⟩ (qB h)
def Kb(H:Hp):Prop:=∀b,H b=none∨∃o xs,H b=some (.frz o (.lst xs))
def DQ{K:Ab}{s₁:Shared}{vs:List Value}{ns:List Int}
  (KX:K.In s₁.heap)(hns:s₁.heap.Ns mainGlobals mg)(hb:s₁.heap.Ns builtinsNs mb)(hbb:∀x:Str,x≠"__name__"->mb x=bootBuiltins x)(hlim:s₁.heap.NoLimit)(hg:s₁.gens=#[])
  (ha:s₁.heap.get? a=some { cls:=.type "list",data:=.seq vs.toArray }) (hi:IntsAre vs ns) (hl:ns.length<=sizeLine) (hr:Room k callerA)
  (F:∀base:Heap,K.In base->base.Ns mainGlobals mg->FnOk P w K mg base CX k fa fd [x] sp) (hbind:∀(s:Shared)(u:Value),BindsTo s fd ⟨[u],[]⟩ [(x,u)])
  (hsp:∀H:Hp,Kb H->SqL K H a (ns.map V.int)->sp [.ref a] H (fun v _=>v=.bl true) fun _ _ _=>False)
  (hCX:∀H e s',CX [] H s₁ (fun _ _ _=>False) e s'->False) :
  codeAny (model P w) callerA (.call (.ref fa) ⟨[.ref a],[]⟩) (fun r s'=>r=.ok (.ret (.bool true))/\OldK s₁.heap s'.heap/\s'.os=s₁.os/\AllBare s'.gens) s₁:=by
 have rv:=qB hi;have Kt:=hi.length;have core:∀H:Hp,Kb H->SqL K H a (ns.map V.int)->HOk P w H s₁.heap->(∀b,H b≠none->b=a)->(H a≠none->K.lookup a=none) ->
   codeAny (model P w) callerA (.call (.ref fa) ⟨[.ref a],[]⟩) (fun r s'=>r=.ok (.ret (.bool true))/\OldK s₁.heap s'.heap/\s'.os=s₁.os/\AllBare s'.gens) s₁:=by
  intro H hO hS hok hA hK;have base_of:∀{b:Addr}{o:Obj},s₁.heap.get? b=some o->H b=none->(rC s₁.heap H).get? b=some o:=fun e n=>zM e n;have noA:∀{b:Addr}{o:Obj}{es:Array DictEntry}{ep:Nat},s₁.heap.get? b=some o->o.data=.dict es ep->H b=none:=fun {b o es ep} e d=>by
   cases q:H b with
   | none=>rfl
   | some u =>
    have e':b=a:=hA b (by rw[q];simp)
    subst e';rw[ha]at e;cases e;have d':Data.seq vs.toArray _=Data.dict es ep:=d;cases d'
  have nsK:∀{b:Addr}{m:Str->Option Value},s₁.heap.Ns b m->(rC s₁.heap H).Ns b m:=fun {b m} ⟨o,es,ep,e,d,r⟩=>⟨o,es,ep,base_of e (noA e d),d,r⟩
  have hKb:K.In (rC s₁.heap H):=fun b o e=>base_of (KX b o e) (by
   cases q:H b with
   | none=>rfl
   | some u =>
    have e':b=a:=hA b (by rw[q];simp)
    subst e'
    rw[hK (by rw[q];simp)]at e;cases e)
  have hM:Mod K mg (rC s₁.heap H):=⟨hKb,nsK hns,⟨mb,nsK hb,hbb⟩,let ⟨mc,h1,h2⟩:=hlim;⟨mc,nsK h1,h2⟩⟩;have e0:Env0 P w K mg (rC s₁.heap H) callerA [] s₁ H:=⟨rfl,hM,fun b o e=>GK e,Nat.le_of_eq (yk _ _),trivial,fun b hb=>absurd (show b∈([]:List Addr) from hb) (by simp),hok,.of_eq hg⟩
  refine codeAny_mono ((F _ hKb (nsK hns)).run callerA [] s₁ H ⟨[.ref a],[]⟩ [.ref a] [.ref a] _ _ hr e0 (hbind s₁ (.ref a)) (.cons rfl .nil) (hsp H hO hS)) fun r s' h=>?_;cases r with
  | error e=>exact(hCX H e s' h).elim
  | ok fl =>
   cases fl with
   | next=>exact False.elim h
   | brk=>exact False.elim h
   | cont=>exact False.elim h
   | ret u =>
    obtain⟨v,H',os,bare,un,hok',r',q⟩:=h;have q':v=.bl true:=q;subst q';obtain rfl:u=Value.bool true:=r';refine⟨rfl,OldK.of_keep fun b o e=>?_,os,bare⟩;cases q:H b with
    | none=>exact un.keep b o e q (by intro z;exact absurd (show b∈([]:List Addr) from z) (by simp)) (by simp)
    | some u =>
     rcases hO b with z|⟨ob,xs,z⟩
     ·rw[q]at z;cases z
     ·have z2:=un.frzs b ob _ z;obtain⟨e1,_⟩:=hok b _ z;obtain⟨e2,_⟩:=hok' b _ z2;rw[e]at e1;cases e1;exact e2
 cases hk:K.lookup a with
 | some o =>
  have e:=KX a o hk;rw[ha]at e;cases e;refine core (fun _=>none) (fun _=>.inl rfl) (.inr ⟨_,vs.toArray,_,hk,rfl,rfl,rfl,by rw[Xb,Kt];exact hl,by simpa using rv⟩) (fun b u z=>by have z':(none:Option HO)=some u:=z;cases z') (fun b z=>absurd rfl z) fun z=>absurd rfl z
 | none =>
  refine core (fun b=>if b=a then some (.frz { cls:=.type "list",data:=.seq vs.toArray } (.lst (ns.map V.int))) else none) (fun b=>?_) (.inl (.inr ⟨{ cls:=.type "list",data:=.seq vs.toArray },Ae rfl⟩)) (fun b u z=>?_) (fun b z=>?_) fun _=>hk
  ·by_cases hb:b=a
   ·exact .inr ⟨_,_,Ae hb⟩
   ·exact .inl (Ak hb)
  ·by_cases hb:b=a
   ·have z':=(Ae hb).symm.trans z;cases z';subst hb;exact⟨ha,by rw[Ya];exact hl,vs,_,rv,ha⟩
   ·have z':=(Ak hb).symm.trans z;cases z'
  ·by_cases hb:b=a
   ·exact hb
   ·exact absurd (Ak hb) z
def walk_of{l:PySem.W.OpenLaw}{n k:Nat}{loose:List Str}{XP:(Str->Option Value)->Heap->Prop}{YP:World->Heap->Prop}{d:DefRec}{K:Params->Ab}{CX:World->CXT}{sp:World->Sp}{x:Str}
  (hn:l.most=some n)(hn2:n<=sizeLine)(hdf:d.params.defaults=[])(hr:Room k callerA)
  (hY:∀(w:World)(h:Heap),YP w h->(K w.params).In h)
  (F:∀(w:World)(mg:Str->Option Value)(fa:Addr)(h:Heap),(K w.params).In h->h.Ns mainGlobals mg->mg d.name=some (.ref fa) ->
   ∃fd:FuncData,(∀(s:Shared)(u:Value),BindsTo s fd ⟨[u],[]⟩ [(x,u)]) /\
    ∀base:Heap,(K w.params).In base->base.Ns mainGlobals mg->FnOk l.prog w (K w.params) mg base (CX w) k fa fd [x] (sp w))
  (hsp:∀(w:World)(H:Hp)(a:Addr)(ns:List Int),ns.length<=n->Kb H->SqL (K w.params) H a (ns.map V.int)->sp w [.ref a] H (fun v _=>v=.bl true) fun _ _ _=>False)
  (hCX:∀(w:World)(H:Hp)(s:Shared)(e:Value)(s':Shared),CX w [] H s (fun _ _ _=>False) e s'->False) :
  PySem.W.WalkO q loose XP YP l.row.toRowW d [] (fun f vs=>PySem.call f vs):=by
 refine Att.attach_call hn hdf fun w s₀ s₁ mg mb fa o pm cd doc a vs ns G Y ho hd hcd hmg hobj hints hlen hg=>?_;have KX:=hY w _ Y;obtain⟨fd,hb,hF⟩:=F w mg fa _ KX G.T.g hmg;exact DQ KX G.T.g G.T.b G.T.builtins G.T.nolimit hg hobj hints (Zd hlen hn2) hr hF hb (fun H hO hS=>hsp w H a ns hlen hO hS) fun H e s'=>hCX w H s₁ e s'
end L2
namespace L2
open PySem PySem.Spec PyProof.Rows
def fN(s:Stmt):Arguments:=match s with
 | .FunctionDef _ a _ _ _ _ _ _ _ _=>a
 | _=>{ posonlyargs:=[],args:=[],vararg:=none,kwonlyargs:=[],kw_defaults:=[],kwarg:=none,defaults:=[] }
def dS(s:Stmt):List Stmt:=match s with
 | .FunctionDef _ _ b _ _ _ _ _ _ _=>b
 | _=>[]
def aw(s:Stmt):Scope:=match s with
 | .FunctionDef _ _ _ _ _ _ sc _ _ _=>sc
 | _=>{ kind:=.function,names:=[],isGenerator:=false,isCoroutine:=false }
abbrev CX0:CXT:=fun _ _ _ _ _ _=>False
abbrev E0:XK:=fun _ _ _=>False
def IP:vy CX0 X E0:=fun _ _ _ _ _ _ _ h=>h.elim
structure Fun(K:Ab)(x qual:Str)(st:Stmt)(f:Addr)(fd:FuncData):Prop where
 ex:∃(oc:Value)(od:Option Addr)(kV doc pm:Value)(an:Option Addr)(cdv ct:Value)(osl:Array (Option Value)),
  fd=PySem.W.fnOf x qual (fN st) (dS st) (aw st) .none kV doc pm an cdv ct/\K.lookup f=some ⟨oc,od,.func fd,osl⟩/\PySem.W.codeIn K cdv qual=true
 kp:PySem.W.keepIn K (.ref f)=true
section
variable {P:Program}{w:World}{K:Ab}{mg:Str->Option Value}{base:Heap}
def Fun.ok{x qual:Str}{st:Stmt}{f:Addr}{fd:FuncData}{N ps:List Str}{k:Nat}{sp:Sp}(F:Fun K x qual st f fd)(S:FnScope N ps (aw st))(len:∀vs H Q E,sp vs H Q E->vs.length=ps.length)
  (hbody:∀(cdv:Value)(A:Around)(outer:List Env)(s:Shared)(H:Hp)(vs:List V)(Q:VK)(E:XK),Room k (A.deeper (envOfC qual (aw st) s.heap.objs.size f cdv))->sp vs H Q E ->
   ∃t,PSs (tK CX0 P w K mg base N qual (aw st) f cdv A outer s H E).nox (dS st) t/\t { nx:=fun _ H'=>Q .non H',rt:=Q } (start N vs) H):FnOk P w K mg base CX0 (k+1) f fd ps sp:=by
 obtain⟨oc,od,kV,doc,pm,an,cdv,ct,osl,rfl,lk,hcd⟩:=F.ex;refine II lk hcd S len fun A outer s H vs Q E hr hsp=>?_;obtain⟨t,h,q⟩:=hbody cdv A outer s H vs Q E hr hsp;exact⟨t,h.nox,q⟩
def Fun.binds{x qual:Str}{st:Stmt}{f:Addr}{fd:FuncData}{ps:List Str}(F:Fun K x qual st f fd)
  (h:∀(kV doc pm:Value)(an:Option Addr)(cdv ct:Value)(us:List Value),us.length=ps.length->bindArgs (PySem.W.fnOf x qual (fN st) (dS st) (aw st) .none kV doc pm an cdv ct) ⟨us,[]⟩=pure (ps.zip us)):Binds K fd ps []:=by
 obtain⟨oc,od,kV,doc,pm,an,cdv,ct,osl,rfl,lk,hcd⟩:=F.ex;exact .all (h kV doc pm an cdv ct)
def Kc{x qual:Str}{st:Stmt}{f:Addr}{oc:Value}{od an:Option Addr}{osl:Array (Option Value)}{kV doc pm cdv ct:Value}(l:K.lookup f=some ⟨oc,od,.func (PySem.W.fnOf x qual (fN st) (dS st) (aw st) .none kV doc pm an cdv ct),osl⟩)
  (c:PySem.W.codeIn K cdv qual=true)(k:PySem.W.keepIn K (.ref f)=true):Fun K x qual st f (PySem.W.fnOf x qual (fN st) (dS st) (aw st) .none kV doc pm an cdv ct):=⟨⟨oc,od,kV,doc,pm,an,cdv,ct,osl,rfl,l,c⟩,k⟩
end
def DR{A:Around}(hr:Room k A):A.units+1<cLine:=Zn (Vi (by decide:1<=64) _) hr.units
def yD(h:n<=1000):n<sizeLine:=Zn h (by decide)
section
variable {X:Cx}
def pv(i:Nat)(hN:X.N[i]?=some x:=by rfl)(hv:Vis X.env.scope x:=by first|exact Or.inl rfl|exact Or.inr (Or.inl rfl)|exact Or.inr (Or.inr rfl))(hd:(x == ("__debug__":Str))=false:=by decide)
  (hcd:(x == ("__classdict__":Str))=false:=by decide):PE X (.Name x pos) (vn i):=Jy hN hv hd hcd
end
def Same(H H':Hp):Prop:=∀b o,H b=some o->H' b=some o
def Same.refl(H:Hp):Same H H:=fun _ _ h=>h
end L2
namespace L2
open PySem PySem.Spec PyProof.Rows
def cM(env:Env):List (Str×NameKind)->List (Str×Addr)->List (Str×Addr)
 | [],acc=>acc
 | (n,k)::r,acc=>if k=.free then cM env r ((n,(env.cells.lookup n).getD 0)::acc) else cM env r acc
theorem iO{env:Env}{f:Str×NameKind->List (Str×Addr)->Sem (ForInStep (List (Str×Addr)))}
  (h1:∀n k cs c,k=NameKind.free->env.cells.lookup n=some c->f (n,k) cs=pure (.yield ((n,c)::cs)))
  (h2:∀n k cs,k≠NameKind.free->f (n,k) cs=pure (.yield cs)) :
  ∀(names:List (Str×NameKind))(acc:List (Str×Addr)),(∀x∈names,x.2=.free->∃c,env.cells.lookup x.1=some c)->forIn names acc f=pure (cM env names acc)
 | [],_,_=>rfl
 | (n,k)::r,acc,h=>by
  have hr:∀x∈r,x.2=.free->∃c,env.cells.lookup x.1=some c:=fun x hx=>h x (Vb _ hx);by_cases hk:k=.free
  ·obtain⟨c,hc⟩:=h (n,k) Wb hk;have e:cM env ((n,k)::r) acc=cM env r ((n,c)::acc):=by
    show(if k=.free then _ else _)=_;rw[Ae hk];have hc':env.cells.lookup n=some c:=hc;rw[hc'];rfl
   rw[BY,h1 n k acc c hk hc,pure_bind,e];exact iO h1 h2 r _ hr
  ·have e:cM env ((n,k)::r) acc=cM env r acc:=by
    show(if k=.free then _ else _)=_;rw[Ak hk]
   rw[BY,h2 n k acc hk,pure_bind,e];exact iO h1 h2 r _ hr
def lI{scope:Scope}{env:Env}(h:∀x∈scope.names,x.2=.free->∃c,env.cells.lookup x.1=some c):closureFor scope env=pure (cM env scope.names []):=by
 simp only[closureFor];have key:=fun f h1 h2=>iO (env:=env) (f:=f) h1 h2 scope.names [] h
 rw[key _ (fun n k cs c hk hc=>by subst hk;simp[cellOf,hc]) (fun n k cs hk=>by
  have:(k == NameKind.free)=false:=by simpa using hk
  simp only[this,Qe,if_false])]
 rfl
def dr{α β:Type}[BEq α]{x n:α}{k:β}{r:List (α×β)}:List.lookup x ((n,k)::r)=if (x == n)=true then some k else List.lookup x r:=by
 rw[List.lookup_cons];cases x == n<;>rfl
theorem ie{env:Env}{x:Str}{c:Addr}:∀(names:List (Str×NameKind))(acc:List (Str×Addr)),(∀x∈names,x.2=.free->∃c,env.cells.lookup x.1=some c) ->
  (∀y c,acc.lookup y=some c->env.cells.lookup y=some c)->(cM env names acc).lookup x=some c->env.cells.lookup x=some c
 | [],acc,_,ha,e=>ha x c e
 | (n,k)::r,acc,h,ha,e=>by
  have hr:∀x∈r,x.2=.free->∃c,env.cells.lookup x.1=some c:=fun x hx=>h x (Vb _ hx);by_cases hk:k=.free
  ·obtain⟨c',hc⟩:=h (n,k) Wb hk;have hc':env.cells.lookup n=some c':=hc;have q:cM env ((n,k)::r) acc=cM env r ((n,c')::acc):=by
    show(if k=.free then _ else _)=_;rw[Ae hk,hc'];rfl
   rw[q]at e;refine ie r _ hr (fun y d hy=>?_) e;rw[dr]at hy;by_cases hyn:(y == n)=true
   ·rw[Ae hyn]at hy;have:y=n:=by simpa using hyn
    rw[this,hc',hy]
   ·rw[Ak hyn]at hy;exact ha y d hy
  ·have q:cM env ((n,k)::r) acc=cM env r acc:=by
    show(if k=.free then _ else _)=_;rw[Ak hk]
   rw[q]at e;exact ie r _ hr ha e
theorem kK{env:Env}{x:Str}{c:Addr}(hx:env.cells.lookup x=some c):∀(names:List (Str×NameKind))(acc:List (Str×Addr)),(acc.lookup x=some c∨(x,NameKind.free)∈names)->(cM env names acc).lookup x=some c
 | [],acc,h=>by
  rcases h with h|h
  ·exact h
  ·cases h
 | (n,k)::r,acc,h=>by
  by_cases hk:k=.free
  ·have q:cM env ((n,k)::r) acc=cM env r ((n,(env.cells.lookup n).getD 0)::acc):=by
    show(if k=.free then _ else _)=_;rw[Ae hk]
   rw[q];refine kK hx r _ ?_;by_cases hxn:(x == n)=true
   ·left;have e:x=n:=by simpa using hxn
    rw[dr,Ae hxn,← e,hx];rfl
   ·rcases h with h|h
    ·left;rw[dr,Ak hxn];exact h
    ·right;rcases Vd.mp h with h|h
     ·cases h;exact absurd (by simp) hxn
     ·exact h
  ·have q:cM env ((n,k)::r) acc=cM env r acc:=by
    show(if k=.free then _ else _)=_;rw[Ak hk]
   rw[q];refine kK hx r _ ?_;rcases h with h|h
   ·exact .inl h
   ·rcases Vd.mp h with h|h
    ·cases h;exact absurd rfl hk
    ·exact .inr h
theorem gx{env:Env}{x:Str}:∀(names:List (Str×NameKind)),
  ((names.map fun(n,k)=>if (k == NameKind.free&&env.scope.kind == .function&&env.kindOf n == some .cell) then(n,NameKind.cell) else(n,k)).lookup x=none/\names.lookup x=none) ∨
  ∃k k',names.lookup x=some k/\(names.map fun(n,k)=>if (k == NameKind.free&&env.scope.kind == .function&&env.kindOf n == some .cell) then(n,NameKind.cell) else(n,k)).lookup x=some k'/\(k'=k∨(k=.free/\k'=.cell))
 | []=>.inl ⟨rfl,rfl⟩
 | (n,k)::r=>by
  have ih:=@gx env x r;show(List.lookup x ((if (k == NameKind.free&&env.scope.kind == .function&&env.kindOf n == some .cell)=true then(n,NameKind.cell) else(n,k))::_)=none/\_)∨∃k' k'',_/\List.lookup x ((if (k == NameKind.free&&env.scope.kind == .function&&env.kindOf n == some .cell)=true then(n,NameKind.cell) else(n,k))::_)=_/\_;by_cases hc:(k == NameKind.free&&env.scope.kind == .function&&env.kindOf n == some .cell)=true
  ·rw[Ae hc,dr,dr];have hk:k=.free:=by
    simp only[Xh]at hc;simpa using hc.1.1
   by_cases hx:(x == n)=true
   ·rw[Ae hx,Ae hx];exact .inr ⟨k,.cell,rfl,rfl,.inr ⟨hk,rfl⟩⟩
   ·rw[Ak hx,Ak hx];exact ih
  ·rw[Ak hc,dr,dr];by_cases hx:(x == n)=true
   ·rw[Ae hx,Ae hx];exact .inr ⟨k,k,rfl,rfl,.inl rfl⟩
   ·rw[Ak hx,Ak hx];exact ih
abbrev cxC(X:Cx)(N:List Str)(scope:Scope)(C:Addr)(s:Shared)(H:Hp)(fp:List Addr):Cx :=
 { X with N:=N,s₀:=s,H₀:=H,env:=compEnvC scope (cM X.env scope.names []) C X.env,outer:=X.stack,stack:=X.stack,ex:=fp,fn:=fun _=>false,pn:=[],xe:=fun _ _=>False }
structure BlkScope(X:Cx)(N:List Str)(k:Nat)(caps:List Nat)(scope:Scope):Prop where
 kind:scope.kind=.function
 nocell:∀y∈scope.names,y.2≠.cell
 loc:∀y∈scope.names,y.2=.local->scope.names.lookup y.1=some .local
 free:∀y∈scope.names,y.2=.free->(X.env.kindOf y.1=some .cell∨X.env.kindOf y.1=some .free)
 len:N.length=k+caps.length
 cap:∀(j i:Nat),caps[j]?=some i->∃x,N[k+j]?=some x/\X.N[i]?=some x/\scope.names.lookup x=some .free
def blk(k:Nat)(caps:List Nat)(σ:St):St:=List.replicate k none++caps.map fun i=>(σ[i]?).getD none
section
variable {X:Cx}{N:List Str}{k:Nat}{caps:List Nat}{scope:Scope}
theorem BlkScope.cells(S:BlkScope X N k caps scope)(ok:X.Ok):∀x∈scope.names,x.2=.free->∃c,X.env.cells.lookup x.1=some c:=fun x hx hk=>ok.has x.1 (S.free x hx hk)
def BlkScope.sub(S:BlkScope X N k caps scope)(ok:X.Ok)(e:(cM X.env scope.names []).lookup x=some c):X.env.cells.lookup x=some c :=
 ie _ _ (S.cells ok) (fun y c h=>by cases h) e
def BlkScope.has(S:BlkScope X N k caps scope)(ok:X.Ok)(h:scope.names.lookup x=some .free):∃c,X.env.cells.lookup x=some c/\(cM X.env scope.names []).lookup x=some c:=by
 have hm:=Az h;obtain⟨c,hc⟩:=S.cells ok _ hm rfl;exact⟨c,hc,kK hc _ _ (.inr hm)⟩
def wR(σ:St):(blk k caps σ).length=k+caps.length:=by unfold blk;simp
def wS(h:(blk k caps σ)[i]?=some (some v)):∃j i',i=k+j/\caps[j]?=some i'/\σ[i']?=some (some v):=by
 unfold blk at h;by_cases hi:i<k
 ·rw[Xf (by simpa using hi),Yj]at h
  split at h<;>cases h
 ·rw[Ye (by simpa using hi),Qh,We]at h
  refine⟨i-k,?_⟩;cases e:caps[i-k]? with
  | none=>rw[e]at h;cases h
  | some i' =>
   rw[e]at h;refine⟨i',by lia,rfl,?_⟩
   have h':(σ[i']?).getD none=some v:=by simpa using h
   cases q:σ[i']? with
   | none=>rw[q]at h';cases h'
   | some o=>rw[q]at h';have h'':o=some v:=h';rw[h'']
def Ke{s:Shared}(S:BlkScope X N k caps scope)(I:Inv X pins σ H s)(hf:∀b∈fp,nF X pins H b)(hlt:∀b∈fp,b<s.heap.objs.size)(hC:s.heap.objs.size<=C) :
  (cxC X N scope C s H fp).Ok:=by
 have nfs:∀b∈fp,b∉frs X.stack:=fun b hb z=>by
  rcases Vd.mp (I.stkSub b z) with e|e
  ·exact(hf b hb).2.1 e
  ·exact(hf b hb).2.2.1 e
 refine⟨I.ok.mod,S.kind,I.ok.glob,I.ok.blt,hC,fun x y c h1 h2=>I.ok.inj x y c (S.sub I.ok h1) (S.sub I.ok h2),fun x hx=>?_,fun x c h=>(by cases h),I.ok.hd,I.ok.frames,.inl rfl,fun b hb=>⟨?_,fun x c e=>?_⟩,I.bs,Zd I.ok.bsz I.sz,fun b o e hb=>?_,nfs,I.stack,I.stkFree⟩
 ·have hx':(relabel scope X.env).names.lookup x=some .cell∨(relabel scope X.env).names.lookup x=some .free:=hx;rcases gx (env:=X.env) (x:=x) scope.names with⟨e,_⟩|⟨k1,k2,e1,e2,e3⟩
  ·rcases hx' with z|z<;>(have z':=e.symm.trans z;cases z')
  ·have hk2:k2=.cell∨k2=.free:=by
    rcases hx' with z|z
    ·exact .inl (Option.some.inj (e2.symm.trans z))
    ·exact .inr (Option.some.inj (e2.symm.trans z))
   have hfree:k1=.free:=by
    rcases e3 with z|⟨z,_⟩
    ·rcases hk2 with q|q
     ·exact absurd (z.symm.trans q) (S.nocell _ (Az e1))
     ·exact z.symm.trans q
    ·exact z
   rw[hfree]at e1;obtain⟨c,_,hc⟩:=S.has I.ok e1;exact⟨c,hc⟩
 ·exact Vh (Qc (hlt b hb) hC)
 ·exact(hf b hb).2.2.2.2.1 x c (S.sub I.ok e)
 ·rcases(hf b hb).2.2.2.1 with z|z
  ·exact I.ok.noex b o e z
  ·exact absurd (Qc (Aj (I.ok.bs b o e).1) z) (Zj _)
def GW{s s3:Shared}(S:BlkScope X N k caps scope)(I:Inv X pins σ H s)(hf:∀b∈fp,nF X pins H b)(hlt:∀b∈fp,b<s.heap.objs.size)
  (hC:s.heap.objs.size<=C)(hos:s3.os=s.os)(hg:s3.gens=s.gens)(kp:∀b o,s.heap.get? b=some o->s3.heap.get? b=some o)(hn:s3.heap.Ns C m):Inv (cxC X N scope C s H fp) [] (blk k caps σ) H s3:=by
 refine⟨Ke S I hf hlt hC,hos,by rw[hg];exact I.bare,Un.kept kp,⟨m,hn,fun i x v e1 e2 e3=>?_⟩,fun x c e=>?_,I.hok.fresh hC,fun x c e=>I.freeC x c (S.sub I.ok e),fun p hp=>absurd hp (by simp),I.hok.kept kp,by rw[wR];exact S.len.symm⟩
 ·obtain⟨j,i',rfl,hc,hv⟩:=wS e2;obtain⟨y,h1,h2,h3⟩:=S.cap j i' hc;have exy:y=x:=Option.some.inj (h1.symm.trans e1);subst exy;obtain⟨c,hc1,hc2⟩:=S.has I.ok h3;obtain⟨m0,hn0,hl0⟩:=I.loc;have hkind:=S.free _ (Az h3) rfl;obtain⟨u,ru,lu⟩:=hl0 i' y v h2 hv (hkind.elim (fun z=>.inr (.inl z)) (fun z=>.inr (.inr z)));refine⟨u,ru,.inr ⟨?_,c,hc2,?_⟩⟩
  ·rcases gx (env:=X.env) (x:=y) scope.names with⟨_,e⟩|⟨k1,k2,q1,q2,q3⟩
   ·rw[e]at h3;cases h3
   ·have hk1:k1=.free:=Option.some.inj (q1.symm.trans h3);rcases q3 with z|⟨_,z⟩
    ·right;show(relabel scope X.env).names.lookup y=_;exact q2.trans (by rw[z,hk1])
    ·left;show(relabel scope X.env).names.lookup y=_;exact q2.trans (by rw[z])
  ·rcases lu with⟨hk,_⟩|⟨_,c',hc',cell⟩
   ·rcases hkind with z|z<;>(have z':=hk.symm.trans z;cases z')
   ·have:c'=c:=Option.some.inj (hc'.symm.trans hc1);subst this;obtain⟨o,ho,hd⟩:=cell;exact⟨o,kp _ o ho,hd⟩
 ·obtain⟨v,o,ho,hd⟩:=I.cell x c (S.sub I.ok e);exact⟨v,o,kp _ o ho,hd⟩
end
def PIf(X:Cx)(ifs:List Expr)(t:TT):Prop :=
 ∀(pins:List (Addr×Obj))(s:Shared)(σ:St)(H:Hp)(Q:Bool->Hp->Prop),Inv X pins σ H s->t σ H Q ->
  wpAny (model X.prog X.w) X.A (forIn ifs true fun c r=>if r=true then do let ok ← isTrue c X.env (eval c X.env);pure (ForInStep.yield ok) else pure (ForInStep.yield r)) (TP X pins σ Q) X.xe s
def L7:TT:=fun _ H Q=>Q true H
def cP:PIf X [] L7:=fun _ _ _ H _ I h=>wpAny_tests_nil ⟨H,I,h⟩
def kg(h:PT X c t):PIf X [c] t:=fun pins s σ H Q I hw=>wpAny_tests_one (h pins s σ H Q I hw)
theorem jx(I:Nat->Shared->Prop)
  (turn:∀n s,I n s->wpAny (model prog w) A (pyNext it) (fun r s₁=>match r with
   | none=>R (.ok .next) s₁
   | some v=>wpAny (model prog w) A (letOwnedTupleGo target it v) (fun _ s₀=>wpAny (model prog w) A (assign target env v) (fun _ s₂ =>
     wpAny (model prog w) A (forIn ifs true fun c r=>if r=true then do let ok ← isTrue c env (eval c env);pure (ForInStep.yield ok) else pure (ForInStep.yield r)) (fun ok s₃ =>
      if ok=true then wpAny (model prog w) A (eval elt env) (fun x s₄ =>
       wpAny (model prog w) A (call (.builtin "list.append") [acc,x]) (fun _ s₅=>∃m,m<n/\I m s₅) (fun _ _=>False) s₄) (fun _ _=>False) s₃
      else ∃m,m<n/\I m s₃) (fun _ _=>False) s₂) (fun _ _=>False) s₀) (fun _ _=>False) s₁) (fun _ _=>False) s)
  (n:Nat) (h:I n s) :
  codeAny (model prog w) A (.compLoop (.ListComp elt [⟨target,iter,ifs,0⟩] scope pos) 0 it acc env) R s:=by
 refine codeAny_loop rfl I (fun n s hI=>?_) n h;show wpAny _ A ((compTurn (.ListComp elt [⟨target,iter,ifs,0⟩] scope pos) 0 it acc env).onRaise (fun x=>do noteFrame x env;theTreesLotGoes x)) _ _ s
 refine wpAny_noted ?_;rw[compTurn_list];refine Aa (wpAny_standAt (Aa (AA (turn n s hI) (fun r s₁ h₁=>?_) fun _ _ h'=>False.elim h')));cases r with
 | none=>exact Ad h₁
 | some v =>
  refine Aa (AA h₁ (fun _ s₀ h₀=>?_) fun _ _ h'=>False.elim h');refine Aa (AA h₀ (fun _ s₂ h₂=>Aa (AA h₂ (fun ok s₃ h₃=>?_) fun _ _ h'=>False.elim h')) fun _ _ h'=>False.elim h');cases ok with
  | false=>exact Ad ⟨rfl,h₃⟩
  | true =>
   exact Aa (Aa (AA h₃ (fun x s₄ h₄=>Aa (AA h₄ (fun _ s₅ h₅=>Ad (Ad ⟨rfl,h₅⟩)) fun _ _ h'=>False.elim h')) fun _ _ h'=>False.elim h'))
def qC(k:Nat)(caps:List Nat)(wi:TI)(g:TG)(tc:TT)(te:TE):TE:=fun σ H Q=>wi σ H fun J H1=>∃(n:Nat)(W:Nat->List V->Hp->Prop),W 0 [] H1 /\
 (∀xs H,W n xs H->J.stop n H/\∀p,H p=none->Q (.ref p) (upd H p (.lst xs))) /\
 ∀i xs H,i<n->W i xs H->J.go i H/\xs.length<sizeLine/\∀x H',J.yld i H x H'->g x (blk k caps σ) H' fun σ2 H2=>tc σ2 H2 fun ok H3 =>
  if ok=true then te σ2 H3 fun y H4=>σ2.drop k=(blk k caps σ).drop k/\W (i+1) (xs++[y]) H4
  else σ2.drop k=(blk k caps σ).drop k/\W (i+1) xs H3
abbrev fW(its:List Value)(n:Nat):Obj:={ cls:=.type "list",data:=.seq its.toArray n }
def IQ(X:Cx)(pins:List (Addr×Obj))(H:Hp)(C:Addr):Prop :=
 H C=none/\C≠X.env.locals/\(C∈X.ex∨X.s₀.heap.objs.size<=C)/\(∀x c,X.env.cells.lookup x=some c->c≠C)/\∀p∈X.pn++pins,p.1≠C
inductive CI(X':Cx)(A:Addr)(σ:St)(tn:Nat->Heap->Prop)(fp:List Addr)(n0:Nat)(W:Nat->List V->Hp->Prop)(n:Nat)(s':Shared):Prop
 | mk (i:Nat) (xs:List V) (its:List Value) (nn:Nat) (H':Hp) (J:Inv X' [(A,fW its nn)] σ H' s') (st:tn i s'.heap) (fr:∀b∈fp,H' b=none) (vs:Vals xs its) (hz:xs.length<=sizeLine) (hn:n=n0-i) (hi:i<=n0) (w:W i xs H')
def tS{X:Cx}
  (S:BlkScope X N k caps scope)(hc:X.calm=true)(hi:PI X tg iter wi)
  (hg:∀C s H fp,PG (cxC X N scope C s H fp) tg g) (ht:∀C s H fp,PIf (cxC X N scope C s H fp) ifs tc) (he:∀C s H fp,PE (cxC X N scope C s H fp) elt te)
  (hs:∀x,foldedSetIterable iter X.env x=pure x) (I:Inv X pins σ H s) (h:qC k caps wi g tc te σ H Q)
  (fin:∀(D C:Addr)(H4:Hp)(s4:Shared)(m:Str->Option Value),Inv X pins σ H4 s4->s4.heap.Ns C m->IQ X pins H4 C->Q (.ref D) H4->compPost (model X.prog X.w) X.A X.xe use Q' (.ref D) C (.ok .next) s4) :
  wpAny (model X.prog X.w) X.A (comprehension (.ListComp elt [⟨tg,iter,ifs,0⟩] scope pos) scope X.env cpos (newList []) false (eval iter X.env) use) Q' X.xe s:=by
 refine wpAny_comprehension_free rfl hs (lI (S.cells I.ok)) S.kind S.loc ?_;refine thn (hi pins s σ H _ I h) fun v s1 h1=>thn h1 fun itv s2 h2=>?_;obtain⟨it,fp,tn,J,H2,e,I2,T,st2,f2,n0,W,w0,wstop,turn⟩:=h2;subst e;refine An (wpAny_newFunctionEnv S.nocell (by intro y hy;simp at hy) (fun h₁ hns₁ hsb₁=>?_) S.kind)
 dsimp only at hns₁ hsb₁ ⊢;generalize hG:s2.heap.push { cls:=.type "list",dict:=none,data:=.seq ([]:List Value).toArray }=G at hns₁ hsb₁ ⊢;have hCG:G.objs.size=s2.heap.objs.size+1:=by rw[← hG,Bz]
 have hDC:s2.heap.objs.size≠G.objs.size:=by lia
 have below:∀b,b<s2.heap.objs.size->b≠G.objs.size/\b≠s2.heap.objs.size:=fun b hb=>⟨by lia,by lia⟩
 have old:∀b o,s2.heap.get? b=some o->h₁.get? b=some o:=fun b o e=>hsb₁.extBut b o (below b (Aj e)).1 (Ac _ (hG ▸ Ac _ e));have hacc:h₁.get? s2.heap.objs.size=some (fW [] 0):=hsb₁.extBut _ _ hDC (Ac _ (hG ▸ Ai _ rfl));have hlt:∀b∈fp,b<s2.heap.objs.size:=fun b hb=>by obtain⟨o,ho,_⟩:=T.obj 0 _ st2 b hb;exact Aj ho
 have hDf:s2.heap.objs.size∉fp:=fun z=>Zj _ (hlt _ z);have hle:s2.heap.objs.size<=G.objs.size:=by lia
 have hDcell:∀x c,(cM X.env scope.names []).lookup x=some c->c≠s2.heap.objs.size:=fun x c e z=>by
  obtain⟨v,q⟩:=I2.cell x c (S.sub I2.ok e);exact absurd q.lt (by rw[z];exact Zj _)
 have hDfs:s2.heap.objs.size∉frs X.stack:=fun z=>by
  obtain⟨_,o,ho,_⟩:=I2.stack.mem z;exact absurd (Aj ho) (Zj _)
 have nfs:∀b∈fp,b∉frs X.stack:=fun b hb z=>by
  rcases Vd.mp (I2.stkSub b z) with e|e
  ·exact(f2 b hb).2.1 e
  ·exact(f2 b hb).2.2.1 e
 have fpk:∀{H':Hp}{its:List Value}{n:Nat},(∀b∈fp,H' b=none)->∀b∈fp,nF (cxC X N scope G.objs.size s2 H2 fp) [(s2.heap.objs.size,fW its n)] H' b:=fun {H' its n} hn b hb =>
  ⟨hn b hb,(below b (hlt b hb)).1,nfs b hb,.inl hb,fun x c e=>(f2 b hb).2.2.2.2.1 x c (S.sub I2.ok e),fun p hp=>by
   have e:p=(s2.heap.objs.size,fW its n):=by simpa using hp
   rw[e];exact AL (below b (hlt b hb)).2⟩
 have pinD:∀{H':Hp}{s':Shared}{σ':St}{its:List Value}{n:Nat},Inv (cxC X N scope G.objs.size s2 H2 fp) [] σ' H' s'->s'.heap.get? s2.heap.objs.size=some (fW its n)->H' s2.heap.objs.size=none->Inv (cxC X N scope G.objs.size s2 H2 fp) [(s2.heap.objs.size,fW its n)] σ' H' s':=fun {H' s' σ' its n} J e hn =>
  J.pins_of fun p hp=>by
   have q:p=(s2.heap.objs.size,fW its n):=by simpa using hp
   rw[q];exact⟨e,hn,hDC,hDfs,fun v z=>by cases z⟩
 have I3:Inv (cxC X N scope G.objs.size s2 H2 fp) [] (blk k caps σ) H2 { s2 with heap:=h₁,toks:=s2.toks+([]:List (Str×Value)).length }:=GW S I2 f2 hlt hle rfl rfl old hns₁;have loop:codeAny (model X.prog X.w) X.A (.compLoop (.ListComp elt [⟨tg,iter,ifs,0⟩] scope pos) 0 (.ref it) (.ref s2.heap.objs.size) (compEnvC scope (cM X.env scope.names []) G.objs.size X.env))
   (compPost (model X.prog X.w) X.A X.xe use Q' (.ref s2.heap.objs.size) G.objs.size) { s2 with heap:=h₁,toks:=s2.toks+([]:List (Str×Value)).length }:=by
  refine jx (CI (cxC X N scope G.objs.size s2 H2 fp) s2.heap.objs.size (blk k caps σ) tn fp n0 W) ?_ n0
   ⟨0,[],[],0,H2,pinD I3 hacc (I2.hok.fresh (Qa _)),T.keep _ _ _ st2 fun b _ o e=>old b o e,fun b hb=>(f2 b hb).1,.nil,Qk _,rfl,Qk _,w0⟩
  rintro n s3 ⟨i,xs,its,nn,H3,J3,st3,fr3,vs3,hz3,hn3,hi3,w3⟩;by_cases hin:i<n0
  rotate_left
  ·have ein:i=n0:=by lia
   subst ein;obtain⟨stop,qn⟩:=wstop xs H3 w3;refine thn (T.done (cxC X N scope G.objs.size s2 H2 fp) rfl rfl rfl hc i _ s3 _ H3 _ J3 (fpk fr3) st3 stop) fun r s4 zz9=>?_;obtain⟨hr,J4⟩:=zz9;subst hr;obtain⟨eD,nD,_⟩:=J4.pin (s2.heap.objs.size,fW its nn) (by simp)
   have eD:s4.heap.get? s2.heap.objs.size=some (fW its nn):=eD;have nD:H3 s2.heap.objs.size=none:=nD;obtain⟨m4,hm4,_⟩:=J4.loc;have U:Un (frs X.stack) fp H2 H3 s2.heap s4.heap:=J4.base;have neC:∀b o,s2.heap.get? b=some o->b≠G.objs.size:=fun b o e=>(below b (Aj e)).1;have neD:∀b o,s2.heap.get? b=some o->b≠s2.heap.objs.size:=fun b o e=>(below b (Aj e)).2;have H2D:H2 s2.heap.objs.size=none:=I2.hok.fresh (Qa _);have HC:H3 G.objs.size=none:=J4.free;refine fin s2.heap.objs.size G.objs.size (upd H3 s2.heap.objs.size (.lst xs)) s4 m4 (I2.call' (s':=s4) (ch:=fp) J4.os ?_ ?_ J4.bare ?_) hm4 ?_ (qn _ nD)
   ·refine⟨fun b o e n hb hx=>U.keep b o e n hb hx,fun b o e n hb hx=>U.slot b o e n hb hx,fun b o e n hx=>?_,fun b o e hx=>U.there b o e hx,fun b ys e=>?_,fun b o u e=>?_,fun b ps e=>?_⟩
    ·rw[bn (neD b o e)];exact U.free b o e n hx
    ·rw[bn (bM e H2D)];exact U.tups b ys e
    ·rw[bn (bM e H2D)];exact U.frzs b o u e
    ·obtain⟨more,q⟩:=U.tbls b ps e;exact⟨more,by rw[bn (bM e H2D)];exact q⟩
   ·intro b u e;by_cases hb:b=s2.heap.objs.size
    ·subst hb;rw[bT]at e;cases e;exact⟨hz3,its,nn,vs3,eD⟩
    ·rw[bn hb]at e;exact(J4.hok b u e).stay (fun c v _ q=>q) (fun c q=>by rw[bn (bM q nD)];exact q) fun c ys q=>by rw[bn (bM q nD)];exact q
   ·exact fun b hb=>⟨(f2 b hb).2.2.2.1,(f2 b hb).2.1,(f2 b hb).2.2.2.2.1,(f2 b hb).2.2.2.2.2⟩
   ·refine⟨by rw[bn (AL hDC)];exact HC,Vj (Qc I2.lt hle),.inr (Zd I2.sz hle),fun x c e z=>?_,fun p hp z=>?_⟩
    ·obtain⟨v,q⟩:=I2.cell x c e;exact absurd (Qc q.lt (by rw[z];exact hle)) (Zj _)
    ·exact absurd (Qc (Aj (I2.pin p hp).1) (by rw[z];exact hle)) (Zj _)
  ·obtain⟨go,hz,step⟩:=turn i xs H3 hin w3;refine thn (T.item (cxC X N scope G.objs.size s2 H2 fp) rfl rfl rfl hc i _ s3 _ H3 _ J3 (fpk fr3) st3 go) fun r s4 zz9=>?_;obtain⟨u,hr,h4⟩:=zz9;subst hr;refine thn h4 fun _ s5 zz9=>?_;obtain⟨x,H5,J5,r5,y5,st5,fr5⟩:=zz9;have J5':=J5.pinned (fpk fr5) (T.obj _ _ st5);refine thn (hg _ _ _ _ _ s5 _ H5 x u _ J5' r5 (step x H5 y5)) fun _ s6 zz9=>?_;obtain⟨σ6,H6,J6,q6⟩:=zz9;refine thn (ht _ _ _ _ _ s6 σ6 H6 _ J6 q6) fun ok s7 zz9=>?_;obtain⟨H7,J7,q7⟩:=zz9;have wk:∀{σ8:St}{H8:Hp}{s8:Shared}{pl:List (Addr×Obj)},Inv (cxC X N scope G.objs.size s2 H2 fp) pl σ8 H8 s8->σ8.drop k=(blk k caps σ).drop k->Inv (cxC X N scope G.objs.size s2 H2 fp) pl (blk k caps σ) H8 s8:=fun {σ8 H8 s8 pl} J8 hd =>
    J8.weak (by rw[wR,J8.len];exact S.len.symm) fun j v e=>by
     obtain⟨j',i',rfl,hc',hv'⟩:=wS e;have e1:((blk k caps σ).drop k)[j']?=some (some v):=by rw[Qf];exact e
     rw[← hd,Qf]at e1;exact e1
   have recs:∀{σ8:St}{H8:Hp}{s8:Shared},Inv (cxC X N scope G.objs.size s2 H2 fp) ([(s2.heap.objs.size,fW its nn)]++oy fp s5.heap) σ8 H8 s8->(∀b∈fp,∀o,s5.heap.get? b=some o->s8.heap.get? b=some o)/\(∀b∈fp,H8 b=none):=fun {σ8 H8 s8} J8 =>
    ⟨fun b hb o e=>(J8.pin (b,o) (Xg _ (Xg _ (iM hb e)))).1,fun b hb=>by
     obtain⟨o,e,d⟩:=T.obj _ _ st5 b hb
     exact(J8.pin (b,o) (Xg _ (Xg _ (iM hb e)))).2.1⟩
   cases ok with
   | false =>
    rw[Ak (by decide)]at q7 ⊢
    obtain⟨hd,w7⟩:=q7;obtain⟨k1,k2⟩:=recs J7;exact⟨n0-(i+1),by lia,i+1,xs,its,nn,H7,wk J7.unpinned hd,T.keep _ _ _ st5 k1,k2,vs3,hz3,rfl,hin,w7⟩
   | true =>
    rw[Ae rfl]at q7 ⊢;refine thn (he _ _ _ _ _ s7 σ6 H7 _ J7 q7) fun uy s8 zz9=>?_;obtain⟨y,H8,J8,r8,hd,w8⟩:=zz9;obtain⟨k1,k2⟩:=recs J8;obtain⟨eD,nD,_⟩:=J8.pin (s2.heap.objs.size,fW its nn) (by simp)
    have eD:s8.heap.get? s2.heap.objs.size=some (fW its nn):=eD;have nD:H8 s2.heap.objs.size=none:=nD;have hl3:=vs3.length;refine BP F.slot_list_append ⟨_,eD,rfl⟩ F.entry_list_append (F.args_list_append_2 _ _) (PySem.list_append s2.heap.objs.size its.toArray nn uy (by rw[Xb];lia)) ⟨eD,?_⟩
    have q:=PySem.IsL.update eD (fun a:Array Value=>a.push uy);have qe:its.toArray.push uy=(its++[uy]).toArray:=by simp
    rw[qe]at q;have oth:∀b o,b≠s2.heap.objs.size->s8.heap.get? b=some o->(s8.heap.update s2.heap.objs.size (Obj.mapSeq fun a=>a.push uy)).get? b=some o:=fun b o hb e=>(BT s8.heap _ (AL hb)).trans e;have J9:Inv (cxC X N scope G.objs.size s2 H2 fp) [] σ6 H8 { s8 with heap:=s8.heap.update s2.heap.objs.size (Obj.mapSeq fun a=>a.push uy),toks:=s8.toks } :=
     (J8.pins_of (pins':=[]) fun p hp=>absurd hp (by simp)).turned oth nD hDC (.inr (Qa _)) hDcell (fun p hp=>absurd hp (by simp))
    refine⟨n0-(i+1),by lia,i+1,xs++[y],its++[uy],_,H8,wk (pinD J9 q nD) hd,T.keep _ _ _ st5 fun b hb o e=>oth b o (fun z=>hDf (z ▸ hb)) (k1 b hb o e),k2,vs3.append (.cons r8 .nil),?_,rfl,hin,w8⟩
    rw[Xa,Bb];lia
 exact codeAny_compStart_list loop (T.self _ 0 _ _ _ (T.keep _ _ _ st2 fun b _ o e=>old b o e) loop)
def Inv.aside{s:Shared}(I:Inv X pins σ H s)(a:IQ X pins H C)(hs:Heap.SameBut C s.heap h'):Inv X pins σ H { s with heap:=h' } :=
 I.turned (t':=s.toks) (fun b o hb e=>hs.extBut b o hb e) a.1 a.2.1 a.2.2.1 a.2.2.2.1 a.2.2.2.2
def cH{X:Cx}(S:BlkScope X N k caps scope)(hc:X.calm=true)(hi:PI X tg iter wi)
  (hg:∀C s H fp,PG (cxC X N scope C s H fp) tg g)(ht:∀C s H fp,PIf (cxC X N scope C s H fp) ifs tc)(he:∀C s H fp,PE (cxC X N scope C s H fp) elt te)
  (hs:∀x,foldedSetIterable iter X.env x=pure x:=by intro _;rfl):PE X (.ListComp elt [⟨tg,iter,ifs,0⟩] scope pos) (qC k caps wi g tc te):=by
 intro pins s σ H Q I h;rw[eval_ListComp];exact tS (use:=none) S hc hi hg ht he hs I h fun D C H4 s4 m I4 hm a q=>⟨m,hm,fun h' hs'=>⟨.ref D,H4,I4.aside a hs',rfl,q⟩⟩
set_option tactic.hygienic true in
def GX{X:Cx}{pos py spos:Pos}(S:BlkScope X N k caps scope)(hc:X.calm=true)(hN:X.N.Nodup)(hi':X.N[i]?=some y)(hy:Loc X.env.scope y)(hi:PI X tg iter wi)
  (hg:∀C s H fp,PG (cxC X N scope C s H fp) tg g)(ht:∀C s H fp,PIf (cxC X N scope C s H fp) ifs tc)(he:∀C s H fp,PE (cxC X N scope C s H fp) elt te)
  (hs:∀x,foldedSetIterable iter X.env x=pure x:=by intro _;rfl) (hsw:swapsWith (.ListComp elt [⟨tg,iter,ifs,0⟩] scope pos) (some (.Name y py)) spos.line X.env=pure true:=by rfl)
  (hf:X.fn y=true∨X.env.scope.names.lookup y=some .local:=by first|exact .inl rfl|exact .inr rfl|assumption) :
  PS X (.Assign [.Name y py] (.ListComp elt [⟨tg,iter,ifs,0⟩] scope pos) spos) (vo (qC k caps wi g tc te) (ox i)):=by
 intro pins s σ H D I h;rw[exec_Assign_Name_used _ _ _ _ hsw];refine Aa (wpAny_standAt (Aa ?_));show wpAny _ X.A (do let _ ← comprehension (.ListComp elt [⟨tg,iter,ifs,0⟩] scope pos) scope X.env _ (newList []) false (eval iter X.env) (some (assign (.Name y py) X.env))) _ _ s
 refine Aa (AA (tS (use:=some (assign (.Name y py) X.env)) (Q':=fun _ s'=>SP X pins D .next s') S hc hi hg ht he hs I h ?_) (fun _ s' hq=>Ad (Ad hq)) fun _ _ e=>e)
 intro Da C H4 s4 m I4 hm a q;refine wpAny_assign_Name (qu I4 hN hi' hy (show RelV (.ref Da) (.ref Da) from rfl) (fun s5 I5 zz9=>?_) hf);obtain⟨b,sb,hb⟩:=zz9;have hbC:C≠b:=by
  rcases hb with z|z
  ·rw[z];exact a.2.1
  ·exact fun e=>a.2.2.2.1 _ _ z e.symm
 exact⟨m,hm.sameBut sb hbC,fun h' hs'=>⟨_,H4,I5.aside a hs',q⟩⟩
end L2
namespace L2
open PySem PySem.Spec PyProof.Rows
def Its(x:Str):It:=⟨fun i _=>i<x.cps.size,fun i H v H'=>H'=H/\∃c,x.cps[i]?=some c/\v=.str ⟨#[c]⟩,fun i _=>x.cps.size<=i⟩
def yE{P:Program}{w:World}{K:Ab}{tg:Expr}(it:Addr)(x:Str)(t:Tok):Turn P w K tg (Its x) [it] it (fun i h=>h.IsStrIter it "str_ascii_iterator" x t i) where
 mem:=by simp
 obj:=fun i h st b hb=>by
  have e:b=it:=by simpa using hb
  subst e;obtain⟨o,e,c,d⟩:=st;exact⟨o,e,fun v z=>by rw[d]at z;cases z⟩
 keep:=fun i h h' st k=>let ⟨o,ho,r⟩:=st;⟨o,k it (by simp) o ho,r⟩
 item:=by
  intro X hP hw hK hc i pins s σ H E I hf st hg;subst hP hw hK;obtain⟨f0,f1,f2,f3,f4,f5⟩:=hf it (by simp)
  have hg':i<x.cps.size:=hg;refine wpAny_pyNext_ascii_item st (c:=x.cps[i]) (by simp[hg']) fun h' st' sb=>?_
  have I1:Inv X pins σ H { s with heap:=h',toks:=s.toks+1 }:=I.turned (fun b o hb e=>sb.extBut b o hb e) f0 f1 f3 f4 f5;obtain⟨o,e,c,d⟩:=id st';exact⟨_,rfl,tI (s:={ s with heap:=h',toks:=s.toks+1 }) e c d (by decide) ⟨.str ⟨#[x.cps[i]]⟩,H,I1,⟨_,rfl⟩,⟨rfl,_,by simp[hg'],rfl⟩,st',fun b hb=>(hf b hb).1⟩⟩
 done:=by
  intro X hP hw hK hc i pins s σ H E I hf st hg;subst hP hw hK;obtain⟨f0,f1,f2,f3,f4,f5⟩:=hf it (by simp)
  have hg':x.cps.size<=i:=hg;exact wpAny_pyNext_ascii_end (I.ok.hd hc) st (by simp[hg']) fun h' eb=>⟨rfl,I.turned (t':=s.toks) (fun b o hb e=>eb b o hb e) f0 f1 f3 f4 f5⟩
 self:=fun _ _ _ _ _ st h=>wpAny_pyIter_striter_ascii st h
def yF{P:Program}{w:World}{K:Ab}{tg:Expr}(it:Addr)(x:Str)(t:Tok):Turn P w K tg (Its x) [it] it (fun i h=>h.IsStrIter it "str_iterator" x t i) where
 mem:=by simp
 obj:=fun i h st b hb=>by
  have e:b=it:=by simpa using hb
  subst e;obtain⟨o,e,c,d⟩:=st;exact⟨o,e,fun v z=>by rw[d]at z;cases z⟩
 keep:=fun i h h' st k=>let ⟨o,ho,r⟩:=st;⟨o,k it (by simp) o ho,r⟩
 item:=by
  intro X hP hw hK hc i pins s σ H E I hf st hg;subst hP hw hK;obtain⟨f0,f1,f2,f3,f4,f5⟩:=hf it (by simp)
  have hg':i<x.cps.size:=hg;refine wpAny_pyNext_wide_item st (c:=x.cps[i]) (by simp[hg']) fun h' st' sb=>?_
  have I1:Inv X pins σ H { s with heap:=h',toks:=s.toks+1 }:=I.turned (fun b o hb e=>sb.extBut b o hb e) f0 f1 f3 f4 f5;obtain⟨o,e,c,d⟩:=id st';exact⟨_,rfl,tI (s:={ s with heap:=h',toks:=s.toks+1 }) e c d (by decide) ⟨.str ⟨#[x.cps[i]]⟩,H,I1,⟨_,rfl⟩,⟨rfl,_,by simp[hg'],rfl⟩,st',fun b hb=>(hf b hb).1⟩⟩
 done:=by
  intro X hP hw hK hc i pins s σ H E I hf st hg;subst hP hw hK;obtain⟨f0,f1,f2,f3,f4,f5⟩:=hf it (by simp)
  have hg':x.cps.size<=i:=hg;exact wpAny_pyNext_wide_end (I.ok.hd hc) st (by simp[hg']) fun h' eb=>⟨rfl,I.turned (t':=s.toks) (fun b o hb e=>eb b o hb e) f0 f1 f3 f4 f5⟩
 self:=fun _ _ _ _ _ st h=>wpAny_pyIter_striter_wide st h
section
variable {X:Cx}{tg:Expr}
def Kf(tl:TE):TI:=fun σ H R=>tl σ H fun x H1=>∃z,x=.str z/\R (Its z) H1
def Kg{l:Expr}{tl:TE}(hl:PE X l tl):PI X tg l (Kf tl):=by
 intro pins s σ H R I h;refine thn (hl pins s σ H _ I h) fun v s1 zz9=>?_;obtain⟨x,H1,I1,r1,q1⟩:=zz9;obtain⟨z,e,q⟩:=q1;subst e;obtain⟨t,rfl⟩:=r1;have fpk:∀b∈[s1.heap.objs.size],nF X pins H1 b:=fun b hb=>by
  have e:b=s1.heap.objs.size:=by simpa using hb
  subst e;exact I1.fpOk (Qa _) (I1.hok.fresh (Qa _))
 cases ha:z.cps.all (·<128) with
 | true=>exact wpAny_pyIter_ascii ha ⟨s1.heap.objs.size,[s1.heap.objs.size],_,_,H1,rfl,I1.kept (t':=s1.toks) fun b o e=>Ac _ e,yE _ z t,⟨_,Ai _ rfl,rfl,rfl⟩,fpk,q⟩
 | false=>exact wpAny_pyIter_wide ha ⟨s1.heap.objs.size,[s1.heap.objs.size],_,_,H1,rfl,I1.kept (t':=s1.toks) fun b o e=>Ac _ e,yF _ z t,⟨_,Ai _ rfl,rfl,rfl⟩,fpk,q⟩
theorem range_all(bs:List Bool):(List.range bs.length).all (fun i=>bs.getD i true)=bs.all id:=by
 induction bs with
 | nil=>rfl
 | cons b r ih =>
  rw[Xd,Dv,BI,Dy,BI,← ih];rfl
def iD(hc:X.calm=true):CallR X (.builtin "all") (fun xs H Q=>∃(p:Addr)(bs:List Bool),xs=[.ref p]/\SqL X.K H p (bs.map V.bl)/\Q (.bl (bs.all id)) H):=by
 intro pins s σ H xs us Q I rv h;obtain⟨p,bs,rfl,hq,q⟩:=h;obtain⟨u,rfl,ru⟩:=vals1 rv;cases ru;obtain⟨its,r,pl,hz⟩:=I.list hq;have hlen:its.length=bs.length:=by have:=r.length;simpa using this.symm
 obtain⟨op,np,ep,cp,dp,sp⟩:=id pl;have hne:p≠s.heap.objs.size:=Vh (Aj ep);refine call_all_walk (CG pl.isList ?_);refine⟨s.heap.objs.size,_,_,_,_,_,fun i=>bs.getD i true,rfl,Walks.list (show X.A.in1.handled=none from I.ok.hd hc) s.heap.objs.size p hne its.toArray,⟨⟨_,Ai _ rfl,rfl,rfl⟩,⟨op,Ac _ ep,cp,np,sp⟩⟩,?_,fun h' tk kp=>?_⟩
 ·intro i v s' Q' E' hv hQ';have hv':its[i]?=some v:=by simpa using hv
  have hi:i<its.length:=(Qb.mp hv').1;have hb:(bs.map V.bl)[i]?=some (V.bl (bs[i]'(by lia))):=by
   rw[We,Za (by lia)];rfl
  obtain⟨u',e1,e2⟩:=r.get hb;rw[hv']at e1;cases e1;cases e2;have:bs.getD i true=bs[i]'(by lia):=by rw[Yf,Za (by lia)];rfl
  have hQ2:Q' (bs.getD i true) s':=hQ';rw[this]at hQ2;exact Ay hQ2
 ·have e:(List.range its.toArray.size).all (fun i=>bs.getD i true)=bs.all id:=by
   rw[Xb,hlen];exact range_all bs
  rw[e]
  exact⟨.bl (bs.all id),H,I.kept (fun b o e=>kp b o (by
   intro z;have z':b=s.heap.objs.size:=by simpa using z
   exact absurd (Aj e) (by rw[z'];exact Zj _)) (Ac _ e)),rfl,q⟩
theorem oC:∀{ys:List Str}{us:List Value},Vals (ys.map V.str) us->StrsAre us ys
 | [],_,r=>by cases r;exact .nil
 | y::ys,_,r=>by
  cases r with
  | cons a b =>
   obtain⟨t,rfl⟩:=a;exact .cons y t (oC b)
def GY:MtR X "str.join" (fun x vs H Q=>∃(sep:Str)(p:Addr)(ys:List Str),x=.str sep/\vs=[.ref p]/\SqL X.K H p (ys.map V.str)/\(ys.map (·.length)).sum+ys.length*sep.length<=16777216/\Q (.str (Txt.join sep ys)) H):=by
 intro pins s σ H x vs v us Q I rx rv h;obtain⟨sep,p,ys,rfl,rfl,hq,hz,q⟩:=h;obtain⟨t,rfl⟩:=rx;obtain⟨u,rfl,ru⟩:=vals1 rv;cases ru;obtain⟨its,r,pl,_⟩:=I.list hq;exact join_list pl.isList (oC (by simpa using r)) hz fun t' k=>⟨.str _,H,I.tok k,⟨t',rfl⟩,q⟩
def sgn(x:Str):List V:=x.cps.toList.map fun c=>.str ⟨#[c]⟩
def tT{x:Str}{acc:Array Value}(h:ItemsOf (SignAt x) acc x.cps.size):Vals (sgn x) acc.toList:=by
 obtain⟨h1,h2⟩:=h;have gen:∀(cs:List Nat)(us:List Value),us.length=cs.length->(∀(j:Nat) v,us[j]?=some v->∃c u,cs[j]?=some c/\v=Value.str ⟨#[c]⟩ u)->Vals (cs.map fun c=>V.str ⟨#[c]⟩) us:=by
  intro cs;induction cs with
  | nil=>intro us hl _;cases us with
   | nil=>exact .nil
   | cons _ _=>cases hl
  | cons c cs ih =>
   intro us hl hu;cases us with
   | nil=>cases hl
   | cons u us =>
    obtain⟨c',tk,e1,e2⟩:=hu 0 u rfl;have:c=c':=by simpa using e1
    subst this;subst e2;refine .cons ⟨tk,rfl⟩ (ih us (by simpa using hl) fun j v e=>?_)
    have:=hu (j+1) v (by simpa using e)
    simpa using this
 refine gen x.cps.toList acc.toList (by simp[h1]) fun j v e=>?_
 obtain⟨c,u,e1,e2⟩:=h2 j v (by simpa using e)
 exact⟨c,u,by simpa using e1,e2⟩
def wT(x:Str):(sgn x).length=x.cps.size:=by simp[sgn]
def oD(hc:X.calm=true):CallR X (.type "list") (fun xs H Q=>∃z:Str,xs=[.str z]/\z.cps.size<=sizeLine/\∀l,H l=none->Q (.ref l) (upd H l (.lst (sgn z)))):=by
 intro pins s σ H xs us Q I rv h;obtain⟨z,rfl,hz,q⟩:=h;obtain⟨u,rfl,ru⟩:=vals1 rv;obtain⟨t,rfl⟩:=ru;refine call_list_str (I.ok.hd hc) z t (fun h' tk acc' c' kp hS hi=>?_) hz;refine⟨.ref s.heap.objs.size,upd H s.heap.objs.size (.lst (sgn z)),I.laid kp (Qa _) ⟨by rw[wT];exact hz,acc'.toList,c',tT hi,by simpa using hS⟩,rfl,q _ (I.hok.fresh (Qa _))⟩
theorem ObjOk.there{h:Heap}(x:ObjOk P w H h a o):∃ob,h.get? a=some ob:=by
 cases o with
 | lst xs=>obtain⟨_,_,_,_,e⟩:=x;exact⟨_,e⟩
 | tup xs=>obtain⟨_,_,_,o,e,_⟩:=x;exact⟨_,e⟩
 | dK kvs=>obtain⟨_,_,_,_,o,_,_,e,_⟩:=x;exact⟨_,e⟩
 | dT ep kvs=>obtain⟨_,_,_,_,_,o,_,e,_⟩:=x;exact⟨_,e⟩
 | set S n=>obtain⟨o,_,_,_,e,_⟩:=x;exact⟨_,e⟩
 | ins C dx fs=>obtain⟨_,_,_,e,_⟩:=x;exact⟨_,e⟩
 | own y=>exact x
 | xd fs=>obtain⟨_,⟨_,_,_,e,_⟩,_⟩:=x;exact⟨_,e⟩
 | rng lo hi=>obtain⟨_,_,_,e⟩:=x;exact⟨_,e⟩
 | frz ob u=>obtain⟨e,_⟩:=x;exact⟨_,e⟩
 | tbl ps=>exact⟨_,x⟩
 | met f y=>exact⟨_,x⟩
 | ext φ=>obtain⟨_,e,_⟩:=x;exact e
def Inv.laid2{s:Shared}{h':Heap}{t':Nat}(I:Inv X pins σ H s)(k:∀b u,s.heap.get? b=some u->h'.get? b=some u)(hne:∀b u,s.heap.get? b=some u->b≠a)(hn:H a=none)(new:ObjOk X.prog X.w (upd H a o) h' a o) :
  Inv X pins σ (upd H a o) { s with heap:=h',toks:=t' }:=by
 refine I.un ⟨fun b u e _ _ _=>k b u e,fun b u e _ _ _=>⟨u.slots,k b u e⟩,fun b u e n _=>by rw[bn (hne b u e)];exact n,fun b u e _=>⟨u,k b u e⟩,fun b xs e=>by rw[bn (bM e hn)];exact e,fun b u v e=>by rw[bn (bM e hn)];exact e,fun b ps e=>⟨#[],by rw[bn (bM e hn),e];simp⟩⟩ ?_
 intro b u e;by_cases hb:b=a
 ·subst hb;rw[bT]at e;cases e;exact new
 ·rw[bn hb]at e;exact(I.hok b u e).stay (fun c v _ q=>k c v q) (fun c q=>by rw[bn (bM q hn)];exact q) fun c xs q=>by rw[bn (bM q hn)];exact q
def nH(hc:X.calm=true):CallR X (.type "tuple") (fun xs H Q=>∃z:Str,xs=[.str z]/\z.cps.size<=sizeLine/\∀l,H l=none->Q (.ref l) (upd H l (.tup (sgn z)))):=by
 intro pins s σ H xs us Q I rv h;obtain⟨z,rfl,hz,q⟩:=h;obtain⟨u,rfl,ru⟩:=vals1 rv;obtain⟨t,rfl⟩:=ru;refine call_tuple_str (I.ok.hd hc) z t (fun h' tk acc kp hi=>?_) hz;have hne:∀b u,s.heap.get? b=some u->b≠h'.objs.size:=fun b u e z=>absurd (Aj (kp b u e)) (by rw[z];exact Zj _)
 have hn:H h'.objs.size=none:=by
  cases e:H h'.objs.size with
  | none=>rfl
  | some o =>
   obtain⟨ob,eo⟩:=(I.hok _ _ e).there;exact absurd rfl (hne _ _ eo)
 refine⟨.ref h'.objs.size,upd H h'.objs.size (.tup (sgn z)),I.laid2 (fun b u e=>Ac _ (kp b u e)) hne hn ⟨by rw[wT];exact hz,acc.toList,tT hi,⟨_,Ai _ rfl,rfl,0,by simp⟩⟩,rfl,q _ hn⟩
def Kh:SlR X (fun x lo hi H Q=>∃z:Str,x=.str z/\z.length<=sizeLine/\Q (.str (Txt.slice z lo hi)) H):=by
 intro pins s σ H x v vl vu lo hi sl Q I rx hs pl pu h;obtain⟨z,rfl,hz,q⟩:=h;obtain⟨t,rfl⟩:=rx;refine⟨"str",_,F.slot_str_getitem.lookup,C6 _ _ _,?_⟩;have fin:∀(o p:Option Int),lo=o->hi=p->∀t' k,EP X pins σ Q (.str (Txt.slice z o p) t') { s with toks:=k }:=fun o p e1 e2 t' k=>⟨.str _,H,I.tok k,⟨t',rfl⟩,by rw[← e1,← e2];exact q⟩
 cases pl with
 | none =>
  cases pu with
  | none=>exact AZ (l:=none) (u:=none) (st:=none) hs rfl (BW ⟨Zd (CJ z _ _) hz,fun t' k=>fin _ _ rfl rfl t' k⟩)
  | int j uj=>exact AZ (l:=none) (u:=some (j,uj)) (st:=none) hs rfl (BW ⟨Zd (CJ z _ _) hz,fun t' k=>fin _ _ rfl rfl t' k⟩)
 | int i ui =>
  cases pu with
  | none=>exact AZ (l:=some (i,ui)) (u:=none) (st:=none) hs rfl (BW ⟨Zd (CJ z _ _) hz,fun t' k=>fin _ _ rfl rfl t' k⟩)
  | int j uj=>exact AZ (l:=some (i,ui)) (u:=some (j,uj)) (st:=none) hs rfl (BW ⟨Zd (CJ z _ _) hz,fun t' k=>fin _ _ rfl rfl t' k⟩)
theorem my:∀l:List α,(List.range l.length).filterMap (fun k=>l[k]?)=l
 | []=>rfl
 | x::r=>by
  rw[Xd,Dv,Qj,Cw];show x::List.filterMap (fun k=>(x::r)[k+1]?) _=_;have e:(fun k=>(x::r)[k+1]?)=fun k=>r[k]?:=by funext k;simp
  rw[e,my r]
theorem ig:∀{l:List α},(∀a∈l,f a=g a)->l.filterMap f=l.filterMap g
 | [],_=>rfl
 | a::r,h=>by
  rw[Qj,Qj,h a Wb,ig fun b hb=>h b (Vb _ hb)]
def DS(its:List Value):slicePick its.toArray none none (some (-1))=its.reverse.toArray:=by
 unfold slicePick;have e:sliceBounds none none (some (-1)) its.toArray.size=((its.length:Int)-1,-1,-1):=by
  unfold sliceBounds;simp
 rw[e];have r:sliceRange ((its.length:Int)-1) (-1) (-1)=(List.range its.length).map fun k=>its.length-1-k:=by
  unfold sliceRange;have hc:(if (-1:Int) > 0 then(if ((its.length:Int)-1) < -1 then(-1-((its.length:Int)-1)+-1-1) / -1 else 0) else(if ((its.length:Int)-1) > -1 then(((its.length:Int)-1) - -1 - -1-1) / (- -1) else 0))=(its.length:Int):=by
   rw[Ak (by decide)]
   rw[show(- -1:Int)=1 from rfl,DB];split<;>lia
  simp only[hc,Wm];refine Yl fun k hk=>?_;have:=Zl.mp hk;lia
 show((sliceRange ((its.length:Int)-1) (-1) (-1)).filterMap fun i=>its.toArray[i]?).toArray=_;rw[r,Cw];congr 1;refine Eq.trans (ig (g:=fun k=>its.reverse[k]?) fun k hk=>?_) ?_
 ·have hk':=Zl.mp hk;show its.toArray[its.length-1-k]?=_;rw[Bc hk'];simp
 ·have:=my its.reverse;rw[Qi]at this;exact this
def IR(K:Ab)(te:TE):TE:=fun σ H Q=>te σ H fun x H1=>∃a xs,x=.ref a/\SqL K H1 a xs/\∀p,H1 p=none->Q (.ref p) (upd H1 p (.lst xs.reverse))
def Ki(he:PE X e te):PE X (.Subscript e (.Slice none none (some (.UnaryOp .USub (.Constant (.int 1) j p1) p2)) p3) pos) (IR X.K te):=by
 intro pins s σ H Q I h;refine Cr (thn (he pins s σ H _ I h) fun v s1 zz9=>?_);obtain⟨x,H1,I1,r1,q1⟩:=zz9;obtain⟨a,xs,rfl,hx,q⟩:=q1;cases r1;refine wpAny_Slice ?_;rw[Ci];refine Ad ?_;refine Ad ?_;rw[evalPart_some];refine UnaryOp_ (Ck (neg_int ?_));have I2:=I1.tok (s1.toks+1+1);have I4:=I2.kept (t':=s1.toks+1+1) (h':=s1.heap.push { cls:=.type "slice",data:=.fields #[.none,.none,.int (-1) (s1.toks+1)] }) fun b ob q=>Ac _ q;obtain⟨its,r,ht,hz⟩:=I4.list hx;have hlen:=r.length;refine tail_any (ops:=[.ref a,.ref s1.heap.objs.size]) ht.isList.typeIs slot_list_getitem.lookup ?_ (by with_unfolding_all rfl)
 refine wpAny_getItem_list_slice ht.isList (Heap.IsSliceOf.new ..) .none .none (.int (-1) _) (by simp) ?_ (by rw[Xb]<;>lia)
 rw[DS];refine⟨.ref _,_,I4.laid (t':=s1.toks+1+1) (o:=.lst xs.reverse) (fun b ob q=>Ac _ q) (Qa _) ?_,rfl,q _ (I4.hok.fresh (Qa _))⟩;exact⟨by rw[Qi];exact hz,_,0,r.reverse,Ai _ rfl⟩
end
end L2
namespace L2
open PySem PySem.Spec PyProof.Rows
structure Cal(P:Program)(w:World)(K:Ab)(mg:Str->Option Value)(base:Heap)(x:Str)(k:Nat)(ps:List Str)(sp:Sp):Prop where
 ex:∃f fd,FnOk P w K mg base CX0 k f fd ps sp/\mg x=some (.ref f)/\PySem.W.keepIn K (.ref f)=true/\Binds K fd ps []
def vC(sp:Sp)(t:TA):TE:=fun σ H Q=>t σ H fun vs H1=>sp vs H1 Q E0
section
variable {X:Cx}
def aF(C:Cal X.prog X.w X.K X.mg X.base x k ps sp)(hr:Room k' X.A)(hg:Gl X x)(ha:PA X (e::es) t)(hk:k<=k':=by decide)
  (hdb:(x == ("__debug__":Str))=false:=by decide) (he:starEach (e::es) X.env=(false,eval e X.env)::starEach es X.env:=by rfl) (hpl:(backTo pos (starEach es X.env)).any (·.1)=false:=by rfl) :
  PE X (.Call (.Name x p) (e::es) [] pos) (vC sp t):=by
 obtain⟨f,fd,F,hm,hkp,hb⟩:=C.ex;intro pins s σ H Q I h;refine wI F (hr.mono hk) hg hm hkp hb .nil IP ha hdb he hpl pins s σ H Q I ?_;have e0:vC sp t=z9 sp [] E0 t:=by
  funext σ H Q
  unfold vC z9;simp only[Vc]
 rw[e0]at h;exact h
def jy:Expr->Bool
 | .Starred ..=>false
 | _=>true
def gl(h:jy e=true):starEach (e::es) env=(false,eval e env)::starEach es env:=by
 cases e<;>first|rfl|cases h
def az(ha:PE X e te)(hr:PA X es t)(h:jy e=true:=by rfl):PA X (e::es) (iB te t):=nX ha hr (gl h)
def strsOf:List Expr->Option (List Str)
 | []=>some []
 | .Constant (.str x) _ _::r=>(strsOf r).map (x::·)
 | _=>none
def IS(xs:List Str):TA:=fun _ H Q=>Q (xs.map V.str) H
theorem rN:∀{es:List Expr}{xs:List Str},strsOf es=some xs->PA X es (IS xs)
 | [],xs,h=>by
  have e:xs=[]:=(Option.some.inj h).symm;subst e;exact fun pos pins s σ H Q I q=>ah pos pins s σ H Q I q
 | e::r,xs,h=>by
  cases e with
  | Constant c j p =>
   cases c with
   | str x =>
    have h':(strsOf r).map (x::·)=some xs:=h;obtain⟨ys,h1,h2⟩:=Zg.mp h';subst h2;intro pos pins s σ H Q I q;exact nX (cS (x:=x)) (rN h1) (gl rfl) pos pins s σ H Q I q
   | _=>cases h
  | _=>cases h
def GZ(hg:Gl X x)(hm:∃t,X.mg x=some (.str z t))(hd:(x == ("__debug__":Str))=false:=by decide):PE X (.Name x pos) (tC (.str z)):=by
 obtain⟨t,h⟩:=hm;exact wB hg h ⟨t,rfl⟩ hd
def G0(hg:Gl X x)(hm:∃t,X.mg x=some (.int i t))(hd:(x == ("__debug__":Str))=false:=by decide):PE X (.Name x pos) (tC (.int i)):=by
 obtain⟨t,h⟩:=hm;exact wB hg h ⟨t,rfl⟩ hd
def bo(i:Nat){pos' pos:Pos}(hN:X.N.Nodup)(he:PE X e te)(hi:X.N[i]?=some x:=by rfl)(hx:Loc X.env.scope x:=by first|exact Or.inl rfl|exact Or.inr rfl)(hf:X.fn x=true∨X.env.scope.names.lookup x=some .local:=by first|exact .inl rfl|exact .inr rfl|assumption)
  (hs:swapsWithSole [.Name x pos'] e pos.line X.env=pure false:=by rfl) (hw:swappedStores [.Name x pos'] e X.env=pure none:=by rfl) (h1:(assignEach [.Name x pos'] X.env).map (·.2)=[assign (.Name x pos') X.env]:=by rfl) :
  PS X (.Assign [.Name x pos'] e pos) (vo te (ox i)):=ib he (wC hN hi hx hf) hs hw h1
def bJ(i:Nat)(hN:X.N.Nodup)(hi:X.N[i]?=some x:=by rfl)(hx:Loc X.env.scope x:=by first|exact Or.inl rfl|exact Or.inr rfl)(hf:X.fn x=true∨X.env.scope.names.lookup x=some .local:=by first|exact .inl rfl|exact .inr rfl|assumption):PG X (.Name x pos) (ox i):=wC hN hi hx hf
def oE(i:Nat){pos py spos:Pos}(S:BlkScope X N k caps scope)(hc:X.calm=true)(hN:X.N.Nodup)(hi:PI X tg iter wi)
  (hg:∀C s H fp,PG (cxC X N scope C s H fp) tg g)(ht:∀C s H fp,PIf (cxC X N scope C s H fp) ifs tc)(he:∀C s H fp,PE (cxC X N scope C s H fp) elt te)
  (hi':X.N[i]?=some y:=by rfl) (hy:Loc X.env.scope y:=by first|exact Or.inl rfl|exact Or.inr rfl)
  (hs:∀x,foldedSetIterable iter X.env x=pure x:=by intro _;rfl) (hsw:swapsWith (.ListComp elt [⟨tg,iter,ifs,0⟩] scope pos) (some (.Name y py)) spos.line X.env=pure true:=by rfl)
  (hf:X.fn y=true∨X.env.scope.names.lookup y=some .local:=by first|exact .inl rfl|exact .inr rfl|assumption) :
  PS X (.Assign [.Name y py] (.ListComp elt [⟨tg,iter,ifs,0⟩] scope pos) spos) (vo (qC k caps wi g tc te) (ox i)):=GX S hc hN hi' hy hi hg ht he hs hsw hf
end
def dM:bootBuiltins "list"=some (.type "list"):=by decide +kernel
def dN:bootBuiltins "tuple"=some (.type "tuple"):=by decide +kernel
def kh:bootBuiltins "str"=some (.type "str"):=by decide +kernel
def mz:bootBuiltins "int"=some (.type "int"):=by decide +kernel
def gy:bootBuiltins "bool"=some (.type "bool"):=by decide +kernel
def Kj{K:Ab}{T S:String}{b:Bool}(h:(if (Value.type T == Value.type S)=true then some true else if PySem.W.kitMeta S=true then(fastBuiltinMro T).map (·.contains (Value.type S)) else none)=some b):PySem.W.kitOne K (.type T) (.type S)=some b:=h
def boot_isinstance:bootBuiltins "isinstance"=some (.builtin "isinstance"):=by decide +kernel
def boot_all:bootBuiltins "all"=some (.builtin "all"):=by decide +kernel
def IT(osc:Scope)(ON N:List Str)(k:Nat)(caps:List Nat)(scope:Scope):Bool :=
 decide (scope.kind=.function)&&scope.names.all (fun y=>decide (y.2≠.cell))&&scope.names.all (fun y=>decide (y.2=.local->scope.names.lookup y.1=some .local)) &&
 scope.names.all (fun y=>decide (y.2=.free->(osc.names.lookup y.1=some .cell∨osc.names.lookup y.1=some .free)))&&decide (N.length=k+caps.length) &&
 (List.range caps.length).all fun j=>match caps[j]?,N[k+j]? with
  | some i,some x=>decide (ON[i]?=some x)&&decide (scope.names.lookup x=some .free)
  | _,_=>false
def cI{X:Cx}(h:IT osc ON N k caps scope=true)(ho:X.env.scope=osc)(hN:X.N=ON):BlkScope X N k caps scope:=by
 unfold IT at h;simp only[Xh,decide_eq_true_eq,Xk]at h;obtain⟨⟨⟨⟨⟨h1,h2⟩,h3⟩,h4⟩,h5⟩,h6⟩:=h;refine⟨h1,h2,h3,fun y hy hf=>?_,h5,fun j i hj=>?_⟩
 ·show X.env.scope.names.lookup y.1=_∨X.env.scope.names.lookup y.1=_;rw[ho];exact h4 y hy hf
 ·have hlt:j<caps.length:=(Qb.mp hj).1;have q:=h6 j (Zl.mpr hlt);rw[hj]at q;cases e:N[k+j]? with
  | none=>rw[e]at q;cases q
  | some x =>
   rw[e]at q;have q':(decide (ON[i]?=some x)&&decide (scope.names.lookup x=some .free))=true:=q;simp only[Xh,decide_eq_true_eq]at q';exact⟨x,rfl,by rw[hN];exact q'.1,q'.2⟩
def br(h:H p=none)(o:HO):Same H (upd H p o):=fun b u q=>by rw[bn (bM q h)];exact q
def L8:atI (x::r) 0=some x:=iN (j:=0) rfl
def vD{xs:List α}{i:Int}(h0:0<=i)(h1:i<xs.length):∃v,atI xs i=some v/\v∈xs/\xs[i.toNat]?=some v:=by
 have hk:i.toNat<xs.length:=by lia
 have ek:i=((i.toNat:Nat):Int):=by lia
 refine⟨xs[i.toNat],?_,Bh hk,Za hk⟩;have q:atI xs ((i.toNat:Nat):Int)=some xs[i.toNat]:=iN (Za hk);rw[← ek]at q;exact q
end L2
namespace L2
open PySem PySem.Spec PyProof.Rows
section
variable {X:Cx}
def qf:MtR X "str.startswith" (fun x vs H Q=>∃(a b:Str),x=.str a/\vs=[.str b]/\Q (.bl (Txt.startswith a b)) H):=by
 intro pins s σ H x vs v us Q I rx rv h;obtain⟨a,b,rfl,rfl,q⟩:=h;obtain⟨t,rfl⟩:=rx;obtain⟨u,rfl,ru⟩:=vals1 rv;obtain⟨t',rfl⟩:=ru;exact SC.startswith ⟨.bl _,H,I,rfl,q⟩
def mulOk_of{x:Str}(h0:0<=n)(hn:n<=1000)(hx:x.length<=1000):MulOk x n:=by
 have hx':(x.length:Int)<=1000:=by lia
 have hm:(x.length:Int)*n<=1000*1000:=Int.mul_le_mul hx' hn h0 (by decide)
 have hm2:x.length*n.toNat<=1000*1000:=Nat.mul_le_mul hx (by lia)
 refine⟨?_,fun h1 _=>?_,fun h1 h2=>?_⟩
 ·rw[Ag (by lia),Ag (by lia)];rfl
 ·have:(x.length:Int)<=(2 ^ 63-1) / n:=(Int.le_ediv_iff_mul_le (by lia)).mpr (Int.le_trans hm (by decide))
  lia
 ·unfold Builtin.Str.tooLong;have:=yD (Qa 1000);exact Ag (by rw[C2];lia)
def vE:OpR X (binaryOp .Mult) (fun x y H Q=>∃(a:Str)(n:Int),x=.str a/\y=.int n/\MulOk a n/\Q (.str (Txt.mul a n)) H):=by
 intro pins s σ H x y v u Q I rx ry h;obtain⟨a,n,rfl,rfl,hok,q⟩:=h;obtain⟨t,rfl⟩:=rx;obtain⟨t',rfl⟩:=ry;exact SB.mul hok fun t2 k=>⟨.str _,H,I.tok k,⟨t2,rfl⟩,q⟩
theorem Kk(hu:X.A.units<cLine):OpR X (compareOp .NotEq) (fun x y H Q=>∃(a b:Addr)(xs:List V),x=.ref a/\y=.ref b/\SqL X.K H a xs/\SqL X.K H b []/\Q (.bl (!xs.isEmpty)) H):=by
 intro pins s σ H x y v u Q I rx ry h;obtain⟨a,b,xs,rfl,rfl,ha,hb,q⟩:=h;cases rx;cases ry;obtain⟨its,r,pl,_⟩:=I.list ha;obtain⟨its2,r2,pl2,_⟩:=I.list hb;cases r2;cases xs with
 | nil =>
  cases r;exact SeqAt.RcNeAt.lists (e:=fun _=>true) pl.isList pl2.isList rfl hu (fun j h1 _=>absurd h1 (by simp)) _ _ _ _ ⟨.bl _,H,I,rfl,q⟩
 | cons x1 xr =>
  cases r;exact C7 pl.isList pl2.isList (by simp) hu _ _ _ _ ⟨.bl _,H,I,rfl,q⟩
end
def G1{X:Cx}{K:Ab}(h:X.K=K):IxR X (rIx K):=h ▸ JY
structure FunD(K:Ab)(x qual:Str)(st:Stmt)(ds:List Value)(f:Addr)(fd:FuncData):Prop where
 ex:∃(oc:Value)(od:Option Addr)(T:Addr)(oT:Obj)(nT:Nat)(kV doc pm:Value)(an:Option Addr)(cdv ct:Value)(osl:Array (Option Value)),
  fd=PySem.W.fnOf x qual (fN st) (dS st) (aw st) (.ref T) kV doc pm an cdv ct/\K.lookup f=some ⟨oc,od,.func fd,osl⟩/\PySem.W.codeIn K cdv qual=true/\K.lookup T=some oT/\oT.data=.seq ds.toArray nT
 kp:PySem.W.keepIn K (.ref f)=true
structure CalD(P:Program)(w:World)(K:Ab)(mg:Str->Option Value)(base:Heap)(x:Str)(k:Nat)(ps:List Str)(dvs:List V)(sp:Sp):Prop where
 ex:∃f fd ds,FnOk P w K mg base CX0 k f fd ps sp/\mg x=some (.ref f)/\PySem.W.keepIn K (.ref f)=true/\Binds K fd ps ds/\Vals dvs ds
def IU(sp:Sp)(dvs:List V)(t:TA):TE:=fun σ H Q=>t σ H fun vs H1=>sp (vs++dvs) H1 Q E0
section
variable {P:Program}{w:World}{K:Ab}{mg:Str->Option Value}{base:Heap}
def FunD.ok{x qual:Str}{st:Stmt}{ds:List Value}{f:Addr}{fd:FuncData}{N ps:List Str}{k:Nat}{sp:Sp}(F:FunD K x qual st ds f fd)(S:FnScope N ps (aw st))(len:∀vs H Q E,sp vs H Q E->vs.length=ps.length)
  (hbody:∀(cdv:Value)(A:Around)(outer:List Env)(s:Shared)(H:Hp)(vs:List V)(Q:VK)(E:XK),Room k (A.deeper (envOfC qual (aw st) s.heap.objs.size f cdv))->sp vs H Q E ->
   ∃t,PSs (tK CX0 P w K mg base N qual (aw st) f cdv A outer s H E).nox (dS st) t/\t { nx:=fun _ H'=>Q .non H',rt:=Q } (start N vs) H):FnOk P w K mg base CX0 (k+1) f fd ps sp:=by
 obtain⟨oc,od,T,oT,nT,kV,doc,pm,an,cdv,ct,osl,rfl,lk,hcd,_,_⟩:=F.ex;refine II lk hcd S len fun A outer s H vs Q E hr hsp=>?_;obtain⟨t,h,q⟩:=hbody cdv A outer s H vs Q E hr hsp;exact⟨t,h.nox,q⟩
def FunD.binds{x qual:Str}{st:Stmt}{ds:List Value}{f:Addr}{fd:FuncData}{ps:List Str}(F:FunD K x qual st ds f fd)
  (h:∀(T:Addr)(kV doc pm:Value)(an:Option Addr)(cdv ct:Value)(us:List Value),(us++ds).length=ps.length ->
   ∃k:Option (Array Value)->Sem (List (Str×Value)),bindArgs (PySem.W.fnOf x qual (fN st) (dS st) (aw st) (.ref T) kV doc pm an cdv ct) ⟨us,[]⟩=seqItems? (.ref T) >>= k/\k (some ds.toArray)=pure (ps.zip (us++ds))):Binds K fd ps ds:=by
 obtain⟨oc,od,T,oT,nT,kV,doc,pm,an,cdv,ct,osl,rfl,lk,hcd,hT,hS⟩:=F.ex;intro s us hK hl;obtain⟨k,h1,h2⟩:=h T kV doc pm an cdv ct us hl;exact BindsTo.of_defaults (T:=T) rfl (hK T oT hT) hS h1 h2
end
def rO{X:Cx}(C:CalD X.prog X.w X.K X.mg X.base x k ps dvs sp)(hr:Room k' X.A)(hg:Gl X x)(ha:PA X (e::es) t)(hk:k<=k':=by decide)
  (hdb:(x == ("__debug__":Str))=false:=by decide) (he:starEach (e::es) X.env=(false,eval e X.env)::starEach es X.env:=by rfl) (hpl:(backTo pos (starEach es X.env)).any (·.1)=false:=by rfl) :
  PE X (.Call (.Name x p) (e::es) [] pos) (IU sp dvs t):=by
 obtain⟨f,fd,ds,F,hm,hkp,hb,hv⟩:=C.ex;intro pins s σ H Q I h;exact wI F (hr.mono hk) hg hm hkp hb hv IP ha hdb he hpl pins s σ H Q I h
theorem tU[DecidableEq α]:∀(l m:List α),l.Nodup->(∀x∈l,x∈m)->l.length<=m.length
 | [],_,_,_=>Qk _
 | a::l,m,h,hs=>by
  have hm:a∈m:=hs a Wb;have h1:=Zi.mp h;have ih:=tU l (m.erase a) h1.2 fun x hx=>by
   have hne:x≠a:=fun e=>h1.1 (e ▸ hx);exact(List.mem_erase_of_ne hne).mpr (hs x (Vb _ hx))
  have hl:=List.length_erase_of_mem hm;have hp:0<m.length:=List.length_pos_of_mem hm;rw[Xd];lia
end L2
namespace VF
open PySem L2
abbrev AS:=Addr->Prop
def bsP{α β γ:Type}{o:Option (α×β)}{f:α×β->Option γ}{z:γ}{P:Prop}(h:o.bind f=some z)(k:∀a b,o=some (a,b)->f (a,b)=some z->P):P:=by
 obtain⟨⟨a,b⟩,e,h⟩:=Option.bind_eq_some_iff.mp h;exact k a b e h
def bsO{α γ:Type}{o:Option α}{f:α->Option γ}{z:γ}{P:Prop}(h:o.bind f=some z)(k:∀a,o=some a->f a=some z->P):P:=by
 obtain⟨a,e,h⟩:=Option.bind_eq_some_iff.mp h;exact k a e h
def aT{i:Decidable c}(h:(if c then x else none)=some z):c/\x=some z:=by
 by_cases q:c
 ·rw[Ae q]at h;exact⟨q,h⟩
 ·rw[Ak q]at h;cases h
abbrev U(O Z:AS):AS:=fun p=>O p∨Z p
abbrev ins(p:Addr)(O:AS):AS:=fun b=>b=p∨O b
inductive D where
 | non|bl (b:Bool)|int (i:Int)|str (x:Str)|tup (ds:List D)|lst (ds:List D)|fl (ds:List D)|ty (n:String)|dk (kvs:List (Key×D))|dt (kvs:List (List Key×D))
def TupA(K:Ab)(Y:AS)(H:Hp)(a:Addr)(vs:List V):Prop:=H a=some (.tup vs)/\¬ Y a
def LstA(K:Ab)(Y:AS)(H:Hp)(a:Addr)(vs:List V):Prop:=(Rd H a (.lst vs)/\¬ Y a)∨∀H',SqL K H' a vs
def TupA.sq(h:TupA K Y H a vs):SqT K H a vs:=.inl (.inl h.1)
def LstA.sq(h:LstA K Y H a vs):SqL K H a vs:=by
 rcases h with h|h
 ·exact .inl h.1
 ·exact h H
def KA(Y:AS)(H:Hp)(as:List Addr):Prop:=∀b∈as,¬ Y b/\H b≠none
theorem KA.go(h:KA Y H as)(k:∀b o,H b=some o->¬ Y b->H' b=some o)(n:∀b,Y' b->Y b∨H b=none):KA Y' H' as:=fun b hb=>by
 obtain⟨h1,h2⟩:=h b hb;refine⟨fun z=>(n b z).elim h1 h2,?_⟩;cases e:H b with
 | none=>exact absurd e h2
 | some o=>rw[k b o e h1];simp
def KA.less(h:KA Y H as)(n:∀b,Y' b->Y b):KA Y' H as:=fun b hb=>⟨fun z=>(h b hb).1 (n b z),(h b hb).2⟩
inductive DA(K:Ab)(Y:AS)(H:Hp):V->D->Prop where
 | non:DA K Y H .non .non
 | bl (b:Bool):DA K Y H (.bl b) (.bl b)
 | int (i:Int):DA K Y H (.int i) (.int i)
 | str (x:Str):DA K Y H (.str x) (.str x)
 | tup {a:Addr} {vs:List V} {ds:List D}:TupA K Y H a vs->vs.length=ds.length->(∀(i:Nat) v d,vs[i]?=some v->ds[i]?=some d->DA K Y H v d)->DA K Y H (.ref a) (.tup ds)
 | ty (n:String):DA K Y H (.ty n) (.ty n)
 | lst {a:Addr} {vs:List V} {ds:List D}:¬ Y a->H a=some (.lst vs)->vs.length=ds.length->(∀(i:Nat) v d,vs[i]?=some v->ds[i]?=some d->DA K Y H v d)->DA K Y H (.ref a) (.lst ds)
 | fl {a:Addr} {vs:List V} {ds:List D}:LstA K Y H a vs->vs.length=ds.length->(∀(i:Nat) v d,vs[i]?=some v->ds[i]?=some d->DA K Y H v d)->DA K Y H (.ref a) (.fl ds)
 | dk {a:Addr} {kvs:List (Key×V)} {ds:List (Key×D)}:¬ Y a->H a=some (.dK kvs)->kvs.map (·.1)=ds.map (·.1)->(∀(i:Nat) v d,kvs[i]?=some v->ds[i]?=some d->DA K Y H v.2 d.2)->DA K Y H (.ref a) (.dk ds)
 | dt {a:Addr} {ep:Nat×List Addr} {kvs:List (List Key×V)} {ds:List (List Key×D)}:¬ Y a->KA Y H ep.2->H a=some (.dT ep kvs)->kvs.map (·.1)=ds.map (·.1)->(∀(i:Nat) v d,kvs[i]?=some v->ds[i]?=some d->DA K Y H v.2 d.2)->DA K Y H (.ref a) (.dt ds)
def El(K:Ab)(Y:AS)(H:Hp)(vs:List V)(ds:List D):Prop:=vs.length=ds.length/\∀(i:Nat) v d,vs[i]?=some v->ds[i]?=some d->DA K Y H v d
def Lv(H:Hp)(p:Addr):Prop:=H p≠none/\∀vs,H p≠some (.tup vs)
theorem Lv.same(h:Lv H p)(s:∀o,H p=some o->H' p=some o):Lv H' p:=by
 cases e:H p with
 | none=>exact absurd e h.1
 | some o =>
  refine⟨by rw[s o e];simp,fun vs z=>h.2 vs ?_⟩
  rw[s o e]at z;rw[e];exact z
structure Ext(O:AS)(H:Hp)(O':AS)(H':Hp):Prop where
 kp:∀b o,H b=some o->¬ O b->H' b=some o
 nw:∀b,O' b->O b∨H b=none
 al:∀b,H b≠none->H' b≠none
 lv:∀b,Lv H b->Lv H' b
section
variable {K:Ab}{Y Y' O O' O1 O2 Z:AS}{H H' H1 H2:Hp}{v:V}{d:D}{vs:List V}{ds:List D}{a p:Addr}
def Ext.refl(O:AS)(H:Hp):Ext O H O H:=⟨fun _ _ h _=>h,fun _ h=>.inl h,fun _ h=>h,fun _ h=>h⟩
def Ext.trans(a:Ext O H O1 H1)(b:Ext O1 H1 O2 H2):Ext O H O2 H2:=by
 refine⟨fun c o h n=>b.kp c o (a.kp c o h n) fun z=>?_,fun c h=>?_,fun c h=>b.al c (a.al c h),fun c h=>b.lv c (a.lv c h)⟩
 ·rcases a.nw c z with q|q
  ·exact n q
  ·rw[h]at q;cases q
 ·rcases b.nw c h with q|q
  ·exact a.nw c q
  ·right;cases e:H c with
   | none=>rfl
   | some o=>exact absurd q (a.al c (by rw[e];simp))
theorem Same.ext(h:Same H H'):Ext O H O H':=⟨fun b o e _=>h b o e,fun _ z=>.inl z,fun b z=>by
 cases e:H b with
 | none=>exact absurd e z
 | some o=>rw[h b o e];simp,fun b z=>z.same fun o e=>h b o e⟩
def Rd.keep(r:Rd H a u)(k:∀o,H a=some o->H' a=some o):Rd H' a u:=by
 rcases r with r|⟨o,r⟩
 ·exact .inl (k _ r)
 ·exact .inr ⟨o,k _ r⟩
def Rd.live(r:Rd H a u):H a≠none:=by
 rcases r with r|⟨o,r⟩<;>(rw[r];simp)
def TupA.go(h:TupA K Y H a vs)(k:∀b o,H b=some o->¬ Y b->H' b=some o)(n:∀b,Y' b->Y b∨H b=none):TupA K Y' H' a vs:=by
 obtain⟨h1,h2⟩:=h;refine⟨k a _ h1 h2,fun z=>?_⟩;rcases n a z with q|q
 ·exact h2 q
 ·rw[h1]at q;cases q
def LstA.go(h:LstA K Y H a vs)(k:∀b o,H b=some o->¬ Y b->H' b=some o)(n:∀b,Y' b->Y b∨H b=none):LstA K Y' H' a vs:=by
 rcases h with⟨h1,h2⟩|h
 ·refine .inl ⟨Rd.keep h1 fun o e=>k a o e h2,fun z=>?_⟩;rcases n a z with q|q
  ·exact h2 q
  ·exact Rd.live h1 q
 ·exact .inr h
theorem DA.go(h:DA K Y H v d)(k:∀b o,H b=some o->¬ Y b->H' b=some o)(n:∀b,Y' b->Y b∨H b=none):DA K Y' H' v d:=by
 have no:∀a u,H a=some u->¬ Y a->¬ Y' a:=fun a u e ny z=>by
  rcases n a z with q|q
  ·exact ny q
  ·rw[e]at q;cases q
 induction h with
 | non=>exact .non
 | bl b=>exact .bl b
 | int i=>exact .int i
 | str x=>exact .str x
 | tup h1 h2 _ ih=>exact .tup (h1.go k n) h2 ih
 | ty n=>exact .ty n
 | lst h0 h1 h2 _ ih=>exact .lst (no _ _ h1 h0) (k _ _ h1 h0) h2 ih
 | fl h1 h2 _ ih=>exact .fl (h1.go k n) h2 ih
 | dk h0 h1 h2 _ ih=>exact .dk (no _ _ h1 h0) (k _ _ h1 h0) h2 ih
 | dt h0 ka h1 h2 _ ih=>exact .dt (no _ _ h1 h0) (ka.go k n) (k _ _ h1 h0) h2 ih
def DA.ext(h:DA K (U O Z) H v d)(e:Ext O H O' H'):DA K (U O' Z) H' v d :=
 h.go (fun b o q n=>e.kp b o q fun z=>n (.inl z)) fun b z=>z.elim (fun q=>(e.nw b q).elim (fun x=>.inl (.inl x)) .inr) fun q=>.inl (.inr q)
def DA.less(h:DA K Y H v d)(n:∀b,Y' b->Y b):DA K Y' H v d:=h.go (fun _ _ e _=>e) fun b z=>.inl (n b z)
def DA.same(h:DA K Y H v d)(s:Same H H'):DA K Y H' v d:=h.go (fun b o e _=>s b o e) fun _ z=>.inl z
def DA.away(h:DA K Y H v d)(s:Same H H')(hp:H p=none):DA K (ins p Y) H' v d:=h.go (fun b o e _=>s b o e) fun b z=>z.elim (fun q=>.inr (q ▸ hp)) .inl
theorem El.go(h:El K Y H vs ds)(k:∀b o,H b=some o->¬ Y b->H' b=some o)(n:∀b,Y' b->Y b∨H b=none):El K Y' H' vs ds:=⟨h.1,fun i v d a b=>(h.2 i v d a b).go k n⟩
theorem El.ext(h:El K (U O Z) H vs ds)(e:Ext O H O' H'):El K (U O' Z) H' vs ds:=⟨h.1,fun i v d a b=>(h.2 i v d a b).ext e⟩
theorem El.less(h:El K Y H vs ds)(n:∀b,Y' b->Y b):El K Y' H vs ds:=⟨h.1,fun i v d a b=>(h.2 i v d a b).less n⟩
theorem El.same(h:El K Y H vs ds)(s:Same H H'):El K Y H' vs ds:=⟨h.1,fun i v d a b=>(h.2 i v d a b).same s⟩
theorem El.away(h:El K Y H vs ds)(s:Same H H')(hp:H p=none):El K (ins p Y) H' vs ds:=⟨h.1,fun i v d a b=>(h.2 i v d a b).away s hp⟩
def El.nil:El K Y H [] []:=⟨rfl,fun i v d h=>by simp at h⟩
def El.cons(h:DA K Y H v d)(r:El K Y H vs ds):El K Y H (v::vs) (d::ds):=by
 refine⟨by simp[r.1],fun i v' d' h1 h2=>?_⟩
 cases i with
 | zero =>
  have e1:v=v':=by simpa using h1
  have e2:d=d':=by simpa using h2
  subst e1 e2;exact h
 | succ i=>exact r.2 i v' d' (by simpa using h1) (by simpa using h2)
theorem El.uncons(h:El K Y H vs (d::ds)):∃v r,vs=v::r/\DA K Y H v d/\El K Y H r ds:=by
 cases vs with
 | nil=>have:=h.1;simp at this
 | cons v r =>
  refine⟨v,r,rfl,h.2 0 v d rfl rfl,?_,fun i v' d' h1 h2=>h.2 (i+1) v' d' (by simpa using h1) (by simpa using h2)⟩
  have:=h.1;simpa using this
def El.unnil(h:El K Y H vs []):vs=[]:=by
 have:=h.1;simpa using this
def El.app(h:El K Y H vs ds)(r:El K Y H ws es):El K Y H (vs++ws) (ds++es):=by
 refine⟨by simp[h.1,r.1],fun i v d h1 h2=>?_⟩
 by_cases hi:i<vs.length
 ·rw[Xf hi]at h1;rw[Xf (by rw[← h.1];exact hi)]at h2
  exact h.2 i v d h1 h2
 ·rw[Ye (by lia)]at h1
  rw[Ye (by rw[← h.1];lia),← h.1]at h2
  exact r.2 _ v d h1 h2
def El.at(h:El K Y H vs ds){i:Nat}{d:D}(e:ds[i]?=some d):∃v,vs[i]?=some v/\DA K Y H v d:=by
 have hi:i<ds.length:=(Qb.mp e).1;have hv:i<vs.length:=by rw[h.1];exact hi
 exact⟨vs[i],Za hv,h.2 i _ d (Za hv) e⟩
def El.one(h:DA K Y H v d):El K Y H [v] [d]:=El.cons h El.nil
def El.rev(h:El K Y H vs ds):El K Y H vs.reverse ds.reverse:=by
 refine⟨by simp[h.1],fun i v d h1 h2=>?_⟩
 have hi:i<vs.length:=by
  have:=(Qb.mp h1).1;simpa using this
 rw[Bc hi]at h1;rw[Bc (by rw[← h.1];exact hi),← h.1]at h2
 exact h.2 _ v d h1 h2
set_option tactic.hygienic true in
theorem El.take(h:El K Y H vs ds)(n:Nat):El K Y H (vs.take n) (ds.take n):=by
 refine⟨by simp[h.1],fun i v d h1 h2=>?_⟩
 rw[Yn]at h1 h2;split at h1
 ·rename_i q;rw[Ae q]at h2;exact h.2 i v d h1 h2
 ·cases h1
theorem El.drop(h:El K Y H vs ds)(n:Nat):El K Y H (vs.drop n) (ds.drop n):=by
 refine⟨by simp[h.1],fun i v d h1 h2=>?_⟩
 rw[Qf]at h1 h2;exact h.2 _ v d h1 h2
theorem El.set(h:El K Y H vs ds)(hv:DA K Y H v d)(j:Nat):El K Y H (vs.set j v) (ds.set j d):=by
 refine⟨by simp[h.1],fun i v' d' h1 h2=>?_⟩
 rw[AN]at h1 h2;by_cases e:j=i
 ·rw[Ae e]at h1 h2;obtain⟨hl,h1⟩:=aT h1;rw[Ae (by rw[← h.1];exact hl)]at h2
  have e1:v=v':=by simpa using h1
  have e2:d=d':=by simpa using h2
  subst e1 e2;exact hv
 ·rw[Ak e]at h1 h2;exact h.2 i v' d' h1 h2
set_option tactic.hygienic true in
def El.erase(h:El K Y H vs ds)(j:Nat):El K Y H (vs.eraseIdx j) (ds.eraseIdx j):=by
 refine⟨by simp[List.length_eraseIdx,h.1],fun i v d h1 h2=>?_⟩
 rw[List.getElem?_eraseIdx]at h1 h2;split at h1
 ·rename_i q;rw[Ae q]at h2;exact h.2 _ v d h1 h2
 ·rename_i q;rw[Ak q]at h2;exact h.2 _ v d h1 h2
def OA(K:Ab)(Y:AS)(H:Hp)(p:Addr):D->Prop
 | .lst ds=>∃vs,H p=some (.lst vs)/\El K Y H vs ds
 | .dk ds=>∃kvs,H p=some (.dK kvs)/\kvs.map (·.1)=ds.map (·.1)/\∀(i:Nat) v d,kvs[i]?=some v->ds[i]?=some d->DA K Y H v.2 d.2
 | .dt ds=>∃ep kvs,KA Y H ep.2/\H p=some (.dT ep kvs)/\kvs.map (·.1)=ds.map (·.1)/\∀(i:Nat) v d,kvs[i]?=some v->ds[i]?=some d->DA K Y H v.2 d.2
 | _=>False
theorem OA.live(h:OA K Y H p d):H p≠none:=by
 cases d with
 | lst ds=>obtain⟨vs,e,_⟩:=h;rw[e];simp
 | dk ds=>obtain⟨vs,e,_⟩:=h;rw[e];simp
 | dt ds=>obtain⟨_,vs,_,e,_⟩:=h;rw[e];simp
 | _=>exact h.elim
theorem OA.lv(h:OA K Y H p d):Lv H p:=by
 cases d with
 | lst ds=>obtain⟨vs,e,_⟩:=h;exact⟨by rw[e];simp,fun _ z=>by rw[e]at z;cases z⟩
 | dk ds=>obtain⟨vs,e,_⟩:=h;exact⟨by rw[e];simp,fun _ z=>by rw[e]at z;cases z⟩
 | dt ds=>obtain⟨_,vs,_,e,_⟩:=h;exact⟨by rw[e];simp,fun _ z=>by rw[e]at z;cases z⟩
 | _=>exact h.elim
theorem OA.go(h:OA K Y H p d)(hp:H' p=H p)(k:∀b o,H b=some o->¬ Y b->H' b=some o)(n:∀b,Y' b->Y b∨H b=none):OA K Y' H' p d:=by
 cases d with
 | lst ds=>obtain⟨vs,e,q⟩:=h;exact⟨vs,hp.trans e,q.go k n⟩
 | dk ds=>obtain⟨vs,e,q1,q2⟩:=h;exact⟨vs,hp.trans e,q1,fun i v d a b=>(q2 i v d a b).go k n⟩
 | dt ds=>obtain⟨ep,vs,ka,e,q1,q2⟩:=h;exact⟨ep,vs,ka.go k n,hp.trans e,q1,fun i v d a b=>(q2 i v d a b).go k n⟩
 | _=>exact h.elim
theorem OA.da(h:OA K Y H p d)(hp:¬ Y' p)(n:∀b,Y' b->Y b):DA K Y' H (.ref p) d:=by
 cases d with
 | lst ds=>obtain⟨vs,e,q⟩:=h;exact .lst hp e q.1 (q.less n).2
 | dk ds=>obtain⟨vs,e,q1,q2⟩:=h;exact .dk hp e q1 fun i v d a b=>(q2 i v d a b).less n
 | dt ds=>obtain⟨ep,vs,ka,e,q1,q2⟩:=h;exact .dt hp (ka.less n) e q1 fun i v d a b=>(q2 i v d a b).less n
 | _=>exact h.elim
def BA(K:Ab)(Y:AS)(H:Hp)(v:V):D->Prop
 | .non=>v=.non
 | .bl b=>v=.bl b
 | .int i=>v=.int i
 | .str x=>v=.str x
 | .tup ds=>∃a vs,v=.ref a/\TupA K Y H a vs/\El K Y H vs ds
 | .ty n=>v=.ty n
 | .lst ds=>∃a vs,v=.ref a/\H a=some (.lst vs)/\El K Y H vs ds
 | .fl ds=>∃a vs,v=.ref a/\LstA K Y H a vs/\El K Y H vs ds
 | .dk ds=>∃a kvs,v=.ref a/\H a=some (.dK kvs)/\kvs.map (·.1)=ds.map (·.1)/\∀(i:Nat) v d,kvs[i]?=some v->ds[i]?=some d->DA K Y H v.2 d.2
 | .dt ds=>∃a ep kvs,v=.ref a/\KA Y H ep.2/\H a=some (.dT ep kvs)/\kvs.map (·.1)=ds.map (·.1)/\∀(i:Nat) v d,kvs[i]?=some v->ds[i]?=some d->DA K Y H v.2 d.2
theorem DA.ba(h:DA K Y H v d):BA K Y H v d:=by
 cases h with
 | non=>rfl
 | bl b=>rfl
 | int i=>rfl
 | str x=>rfl
 | tup h1 h2 h3=>exact⟨_,_,rfl,h1,h2,h3⟩
 | ty n=>rfl
 | lst h0 h1 h2 h3=>exact⟨_,_,rfl,h1,h2,h3⟩
 | fl h1 h2 h3=>exact⟨_,_,rfl,h1,h2,h3⟩
 | dk h0 h1 h2 h3=>exact⟨_,_,rfl,h1,h2,h3⟩
 | dt h0 ka h1 h2 h3=>exact⟨_,_,_,rfl,ka,h1,h2,h3⟩
theorem OA.ba(h:OA K Y H p d):BA K Y H (.ref p) d:=by
 cases d with
 | lst ds=>obtain⟨vs,e,q⟩:=h;exact⟨p,vs,rfl,e,q⟩
 | dk ds=>obtain⟨vs,e,q1,q2⟩:=h;exact⟨p,vs,rfl,e,q1,q2⟩
 | dt ds=>obtain⟨ep,vs,ka,e,q1,q2⟩:=h;exact⟨p,ep,vs,rfl,ka,e,q1,q2⟩
 | _=>exact h.elim
end
end VF
namespace VF
open PySem L2
inductive Sl where
 | e|v (d:D)|o (d:D)|io (d:D)
abbrev En:=List Sl
def Sl.get:Sl->Option D
 | .e=>none
 | .v d=>some d
 | .o d=>some d
 | .io d=>some d
def Sl.ow:Sl->Option D
 | .o d=>some d
 | .io d=>some d
 | _=>none
def Sl.put(y:D):Sl->Sl
 | .io _=>.io y
 | _=>.o y
def Sl.put_ow(y:D)(s:Sl):(s.put y).ow=some y:=by cases s<;>rfl
def Sl.put_v(y z:D)(s:Sl):s.put y≠.v z:=by cases s<;>(intro e;cases e)
inductive Rs where
 | d (x:D)|f (x:D)|s (i:Nat)
structure ER(K:Ab)(st:En)(σ:St)(H:Hp)(O Z:AS):Prop where
 len:st.length=σ.length
 val:∀(i:Nat) d,st[i]?=some (.v d)->∃v,σ[i]?=some (some v)/\DA K (U O Z) H v d
 own:∀(i:Nat) s d,st[i]?=some s->s.ow=some d->∃p,σ[i]?=some (some (.ref p))/\O p/\OA K (U O Z) H p d
 uni:∀(i j:Nat) s t d d' p,st[i]?=some s->s.ow=some d->st[j]?=some t->t.ow=some d'->σ[i]?=some (some (.ref p))->σ[j]?=some (some (.ref p))->i=j
 dis:∀p,O p->¬ Z p
 liv:∀p,U O Z p->Lv H p
structure Kp(st st':En):Prop where
 len:st'.length=st.length
 has:∀(i:Nat) s,st[i]?=some s->s.get≠none->∃s',st'[i]?=some s'/\s'.get≠none
 io:∀(i:Nat) d,st[i]?=some (.io d)->∃d',st'[i]?=some (.io d')
def Kp.refl(st:En):Kp st st:=⟨rfl,fun i s h g=>⟨s,h,g⟩,fun i d h=>⟨d,h⟩⟩
theorem Kp.trans(x:Kp a b)(y:Kp b c):Kp a c:=by
 refine⟨y.len.trans x.len,fun i s h g=>?_,fun i d h=>?_⟩
 ·obtain⟨s',h',g'⟩:=x.has i s h g;exact y.has i s' h' g'
 ·obtain⟨d',h'⟩:=x.io i d h;exact y.io i d' h'
def RVal(K:Ab)(Z:AS)(st:En)(σ:St)(H:Hp)(O:AS)(v:V):Rs->Prop
 | .d x=>DA K (U O Z) H v x
 | .f x=>∃p,v=.ref p/\¬ O p/\¬ Z p/\OA K (ins p (U O Z)) H p x/\ER K st σ H (ins p O) Z
 | .s i=>σ[i]?=some (some v)/\∃s,st[i]?=some s/\s.get≠none
def cont(st:En):Rs->Option D
 | .d x=>some x
 | .f x=>some x
 | .s i=>(st[i]?).bind Sl.get
def Rs.nf:Rs->Rs
 | .f x=>.d x
 | r=>r
section
variable {K:Ab}{Y Y' O O' O1 O2 Z:AS}{H H' H1 H2:Hp}{v:V}{d:D}{vs:List V}{ds:List D}{a p:Addr}{st st' st1 st2:En}{σ σ':St}
def fO(st:En)(r:Rs):cont st r.nf=cont st r:=by cases r<;>rfl
theorem RVal.nf{r:Rs}(h:RVal K Z st σ H O v r):RVal K Z st σ H O v r.nf:=by
 cases r with
 | d x=>exact h
 | s i=>exact h
 | f x =>
  obtain⟨p,rfl,h1,h2,h3,_⟩:=h;exact h3.da (fun z=>z.elim h1 h2) fun b z=>.inr z
theorem RVal.ba(h:RVal K Z st σ H O v r)(E:ER K st σ H O Z)(c:cont st r=some d):BA K (U O Z) H v d:=by
 cases r with
 | d x=>cases c;exact DA.ba h
 | f x =>
  cases c;have:=RVal.nf h;exact DA.ba (show DA K (U O Z) H v _ from this)
 | s i =>
  obtain⟨h1,s,h2,h3⟩:=h;have c':(st[i]?).bind Sl.get=some d:=c;rw[h2]at c';cases s with
  | e=>cases c'
  | v x =>
   cases c';obtain⟨u,g1,g2⟩:=E.val i _ h2;rw[h1]at g1;cases g1;exact g2.ba
  | o x =>
   cases c';obtain⟨p,g1,g2,g3⟩:=E.own i _ _ h2 rfl;rw[h1]at g1;cases g1;exact g3.ba
  | io x =>
   cases c';obtain⟨p,g1,g2,g3⟩:=E.own i _ _ h2 rfl;rw[h1]at g1;cases g1;exact g3.ba
theorem RVal.ext{r:Rs}(h:RVal K Z st σ H O v r.nf)(e:Ext O H O' H')(k:Kp st st'):RVal K Z st' σ H' O' v r.nf:=by
 cases r with
 | d x=>exact DA.ext (show DA K (U O Z) H v x from h) e
 | f x=>exact DA.ext (show DA K (U O Z) H v x from h) e
 | s i =>
  obtain⟨h1,s,h2,h3⟩:=h;exact⟨h1,k.has i s h2 h3⟩
theorem ER.same(E:ER K st σ H O Z)(s:Same H H'):ER K st σ H' O Z:=by
 refine⟨E.len,fun i d h=>?_,fun i s' d h1 h2=>?_,E.uni,E.dis,fun p hp=>?_⟩
 ·obtain⟨v,h1,h2⟩:=E.val i d h;exact⟨v,h1,h2.same s⟩
 ·obtain⟨p,g1,g2,g3⟩:=E.own i s' d h1 h2;refine⟨p,g1,g2,g3.go ?_ (fun b o e _=>s b o e) fun b z=>.inl z⟩;cases e:H p with
  | none=>exact absurd e g3.live
  | some o=>exact s p o e
 ·exact(E.liv p hp).same fun o e=>s p o e
theorem ER.away(E:ER K st σ H O Z)(s:Same H H')(hp:H p=none)(hp':Lv H' p):ER K st σ H' (ins p O) Z:=by
 have sub:∀b,U (ins p O) Z b->ins p (U O Z) b:=fun b z=>by
  rcases z with(z|z)|z
  ·exact .inl z
  ·exact .inr (.inl z)
  ·exact .inr (.inr z)
 refine⟨E.len,fun i d h=>?_,fun i s' d h1 h2=>?_,E.uni,fun q hq=>?_,fun q hq=>?_⟩
 ·obtain⟨v,h1,h2⟩:=E.val i d h;exact⟨v,h1,(h2.away s hp).less sub⟩
 ·obtain⟨q,g1,g2,g3⟩:=E.own i s' d h1 h2;refine⟨q,g1,.inr g2,g3.go ?_ (fun b o e _=>s b o e) fun b z=>?_⟩
  ·cases e:H q with
   | none=>exact absurd e g3.live
   | some o=>exact s q o e
  ·rcases sub b z with z|z
   ·exact .inr (z ▸ hp)
   ·exact .inl z
 ·rcases hq with rfl|hq
  ·exact fun z=>(E.liv _ (.inr z)).1 hp
  ·exact E.dis q hq
 ·rcases hq with(rfl|hq)|hq
  ·exact hp'
  ·exact(E.same s).liv q (.inl hq)
  ·exact(E.same s).liv q (.inr hq)
def ER.free(E:ER K st σ H O Z)(hp:H p=none):¬ O p/\¬ Z p:=⟨fun z=>(E.liv p (.inl z)).1 hp,fun z=>(E.liv p (.inr z)).1 hp⟩
def ER.new(E:ER K st σ H O Z)(hp:H p=none)(el:El K (U O Z) H vs ds):ER K st σ (upd H p (.lst vs)) O Z/\RVal K Z st σ (upd H p (.lst vs)) O (.ref p) (.f (.lst ds)):=by
 have s:=br hp (.lst vs);have hf:=E.free hp;refine⟨E.same s,p,rfl,hf.1,hf.2,⟨vs,bT,el.away s hp⟩,E.away s hp ⟨by rw[bT];simp,fun _ z=>by rw[bT]at z;cases z⟩⟩
def ER.newT(E:ER K st σ H O Z)(hp:H p=none)(el:El K (U O Z) H vs ds):ER K st σ (upd H p (.tup vs)) O Z/\RVal K Z st σ (upd H p (.tup vs)) O (.ref p) (.d (.tup ds)):=by
 have s:=br hp (.tup vs);have hf:=E.free hp;exact⟨E.same s,.tup ⟨bT,fun z=>z.elim hf.1 hf.2⟩ el.1 (el.same s).2⟩
def yG(st:En)(i:Nat):Option En:=match st[i]? with
 | some (.v _)=>some st
 | some (.o d)=>some (st.set i (.v d))
 | _=>none
def DT(st:En):Rs->Option En
 | .s i=>yG st i
 | _=>some st
def aJ{l:List α}(h:i≠j):(l.set i x)[j]?=l[j]?:=by rw[AN,Ak h]
def bA{l:List α}(h:l[i]?=some y):(l.set i x)[i]?=some x:=by
 have hi:=(Qb.mp h).1;rw[AN,Ae rfl,Ae hi]
set_option tactic.hygienic true in
def G2(h:yG st i=some st'):Kp st st'/\∃d,st'[i]?=some (.v d)/\(st[i]?).bind Sl.get=some d:=by
 unfold yG at h;split at h
 ·rename_i d e
  cases h;exact⟨Kp.refl st,d,e,by rw[e];rfl⟩
 ·rename_i d e
  cases h;refine⟨⟨by simp,fun j s hj g=>?_,fun j d' hj=>?_⟩,d,bA e,by rw[e];rfl⟩
  ·by_cases q:i=j
   ·subst q;exact⟨.v d,bA e,by simp[Sl.get]⟩
   ·exact⟨s,by rw[aJ q];exact hj,g⟩
  ·have q:i≠j:=fun z=>by subst z;rw[e]at hj;cases hj
   exact⟨d',by rw[aJ q];exact hj⟩
 ·cases h
set_option tactic.hygienic true in
def ER.frz(E:ER K st σ H O Z)(h:yG st i=some st'):∃O',Ext O H O' H/\ER K st' σ H O' Z/\(∀b,O' b->O b):=by
 unfold yG at h;split at h
 ·cases h;exact⟨O,Ext.refl O H,E,fun _ z=>z⟩
 ·rename_i d e
  cases h;obtain⟨p,g1,g2,g3⟩:=E.own i _ _ e rfl;have less:∀b,U (fun b=>O b/\b≠p) Z b->U O Z b:=fun b z=>z.elim (fun q=>.inl q.1) .inr;refine⟨fun b=>O b/\b≠p,⟨fun b o q _=>q,fun b z=>.inl z.1,fun b z=>z,fun b z=>z⟩,⟨by simp[E.len],fun j x hj=>?_,fun j s x hj hs=>?_,fun j k s t x y q hj hs hk ht e1 e2=>?_,fun q hq=>E.dis q hq.1,fun q hq=>E.liv q (less q hq)⟩,fun b z=>z.1⟩
  ·by_cases q:i=j
   ·subst q;rw[bA e]at hj;cases hj;exact⟨.ref p,g1,g3.da (fun z=>z.elim (fun y=>y.2 rfl) (E.dis p g2)) less⟩
   ·rw[aJ q]at hj;obtain⟨v,h1,h2⟩:=E.val j x hj;exact⟨v,h1,h2.less less⟩
  ·have q:i≠j:=fun z=>by
    subst z;rw[bA e]at hj;cases hj;cases hs
   rw[aJ q]at hj;obtain⟨r,h1,h2,h3⟩:=E.own j s x hj hs;refine⟨r,h1,⟨h2,fun z=>q ?_⟩,h3.go rfl (fun _ _ e _=>e) fun b z=>.inl (less b z)⟩;subst z;exact E.uni i j _ _ _ _ r e rfl hj hs g1 h1
  ·have q1:i≠j:=fun z=>by
    subst z;rw[bA e]at hj;cases hj;cases hs
   have q2:i≠k:=fun z=>by
    subst z;rw[bA e]at hk;cases hk;cases ht
   rw[aJ q1]at hj;rw[aJ q2]at hk;exact E.uni j k s t x y q hj hs hk ht e1 e2
 ·cases h
theorem RVal.frz(h:RVal K Z st σ H O v r)(E:ER K st σ H O Z)(f:DT st r=some st')(c:cont st r=some d):∃O',Ext O H O' H/\Kp st st'/\ER K st' σ H O' Z/\DA K (U O' Z) H v d:=by
 cases r with
 | d x=>cases f;cases c;exact⟨O,Ext.refl O H,Kp.refl st,E,h⟩
 | f x=>cases f;cases c;exact⟨O,Ext.refl O H,Kp.refl st,E,RVal.nf h⟩
 | s i =>
  obtain⟨h1,s,h2,h3⟩:=h;have f':yG st i=some st':=f;obtain⟨k,x,k1,k2⟩:=G2 f';obtain⟨O',e1,e2,_⟩:=E.frz f';have c':(st[i]?).bind Sl.get=some d:=c;have ex:x=d:=Option.some.inj (k2.symm.trans c');subst ex;obtain⟨u,g1,g2⟩:=e2.val i _ k1;rw[h1]at g1;cases g1;exact⟨O',e1,k,e2,g2⟩
def ER.write{s:Sl}(E:ER K st σ H O Z)(hs:st[i]?=some s)(ho:s.ow=some x)(hp:σ[i]?=some (some (.ref p)))(new:OA K (U O Z) (upd H p o) p y) :
  ER K (st.set i (s.put y)) σ (upd H p o) O Z/\Ext O H O (upd H p o)/\Kp st (st.set i (s.put y)):=by
 obtain⟨q,g1,g2,g3⟩:=E.own i s x hs ho;have eq:q=p:=by rw[hp]at g1;cases g1;rfl
 subst eq;have keep:∀b u,H b=some u->¬ U O Z b->upd H q o b=some u:=fun b u e n=>by
  have hb:b≠q:=fun z=>n (.inl (by rw[z];exact g2))
  rw[bn hb];exact e
 refine⟨⟨by simp[E.len],fun j d hj=>?_,fun j t d hj ht=>?_,fun j k t t' d d' r hj ht hk ht' e1 e2=>?_,E.dis,fun r hr=>?_⟩,⟨fun b u e n=>?_,fun b z=>.inl z,fun b z=>?_,fun b z=>?_⟩,⟨by simp,fun j t hj ht=>?_,fun j d hj=>?_⟩⟩
 ·by_cases e:i=j
  ·subst e;rw[bA hs]at hj;exact absurd (Option.some.inj hj) (Sl.put_v _ _ _)
  ·rw[aJ e]at hj;obtain⟨v,h1,h2⟩:=E.val j d hj;exact⟨v,h1,h2.go keep fun b z=>.inl z⟩
 ·by_cases e:i=j
  ·subst e;rw[bA hs]at hj;have:=Option.some.inj hj;subst this;rw[Sl.put_ow]at ht;cases ht;exact⟨q,hp,g2,new⟩
  ·rw[aJ e]at hj;obtain⟨r,h1,h2,h3⟩:=E.own j t d hj ht;have hne:r≠q:=fun z=>by subst z;exact e (E.uni i j s t x d r hs ho hj ht hp h1)
   exact⟨r,h1,h2,h3.go (bn hne) keep fun b z=>.inl z⟩
 ·have own':∀(m:Nat)(t:Sl)(d:D),(st.set i (s.put y))[m]?=some t->t.ow=some d->∃t2 d2,st[m]?=some t2/\t2.ow=some d2:=fun m t d hm ht=>by
   by_cases e:i=m
   ·subst e;exact⟨s,x,hs,ho⟩
   ·rw[aJ e]at hm;exact⟨t,d,hm,ht⟩
  obtain⟨t1,d1,a1,b1⟩:=own' j t d hj ht;obtain⟨t2,d2,a2,b2⟩:=own' k t' d' hk ht';exact E.uni j k t1 t2 d1 d2 r a1 b1 a2 b2 e1 e2
 ·by_cases e:r=q
  ·subst e;exact new.lv
  ·exact(E.liv r hr).same fun o' eo=>by rw[bn e];exact eo
 ·have hb:b≠q:=fun z=>n (by rw[z];exact g2)
  rw[bn hb];exact e
 ·by_cases e:b=q
  ·subst e;rw[bT];simp
  ·rw[bn e];exact z
 ·by_cases e:b=q
  ·subst e;exact new.lv
  ·exact z.same fun o' eo=>by rw[bn e];exact eo
 ·by_cases e:i=j
  ·subst e;exact⟨s.put y,bA hs,by cases s<;>simp[Sl.put,Sl.get]⟩
  ·exact⟨t,by rw[aJ e];exact hj,ht⟩
 ·by_cases e:i=j
  ·subst e;rw[hs]at hj;cases hj;exact⟨y,bA hs⟩
  ·exact⟨d,by rw[aJ e];exact hj⟩
end
end VF
namespace VF
open PySem L2
abbrev FE:=En->Option (Rs×En)
abbrev FA:=En->Option (List Rs×En)
abbrev FT:=En->Option (Bool×En)
abbrev Rz:=D×Bool
def mk:Rz->Rs
 | (d,true)=>.f d
 | (d,false)=>.d d
def RES(K:Ab)(Y:AS)(H H':Hp)(v:V):Rz->Prop
 | (d,true)=>∃p,v=.ref p/\H p=none/\OA K (ins p Y) H' p d
 | (d,false)=>DA K Y H' v d
def Fsh(H:Hp)(v:V):Rs->Prop
 | .f _=>∀p,v=.ref p->H p=none
 | _=>True
theorem Ext.dead(e:Ext O H O' H')(h:H' p=none):H p=none:=by
 cases q:H p with
 | none=>rfl
 | some o=>exact absurd h (e.al p (by rw[q];simp))
theorem Fsh.back(h:Fsh H' v r)(e:Ext O H O' H'):Fsh H v r:=by
 cases r with
 | f x=>exact fun p hp=>e.dead (h p hp)
 | d x=>trivial
 | s i=>trivial
def RdE(K:Ab)(te:TE)(f:FE):Prop:=∀(st:En)(σ:St)(H:Hp)(O Z:AS)(Q:VK),ER K st σ H O Z->∀r st',f st=some (r,st') ->
 (∀v H' O',Ext O H O' H'->Kp st st'->ER K st' σ H' O' Z->RVal K Z st' σ H' O' v r->Fsh H v r->Q v H')->te σ H Q
inductive RVs(K:Ab)(Z:AS)(st:En)(σ:St)(H:Hp)(O:AS):List V->List Rs->Prop where
 | nil:RVs K Z st σ H O [] []
 | cons {v:V} {vs:List V} {r:Rs} {rs:List Rs}:RVal K Z st σ H O v r.nf->RVs K Z st σ H O vs rs->RVs K Z st σ H O (v::vs) (r::rs)
def RdA(K:Ab)(ta:TA)(f:FA):Prop:=∀(st:En)(σ:St)(H:Hp)(O Z:AS)(Q:List V->Hp->Prop),ER K st σ H O Z->∀rs st',f st=some (rs,st') ->
 (∀vs H' O',Ext O H O' H'->Kp st st'->ER K st' σ H' O' Z->RVs K Z st' σ H' O' vs rs->Q vs H')->ta σ H Q
def RdT(K:Ab)(tt:TT)(f:FT):Prop:=∀(st:En)(σ:St)(H:Hp)(O Z:AS)(Q:Bool->Hp->Prop),ER K st σ H O Z->∀c st',f st=some (c,st') ->
 (∀H' O',Ext O H O' H'->Kp st st'->ER K st' σ H' O' Z->Q c H')->tt σ H Q
def RdOp(K:Ab)(r:R2)(b:D->D->Option Rz):Prop:=∀(Y:AS)(H:Hp)(x y:V)(d1 d2:D)(z:Rz)(Q:VK),(∀p,Y p->Lv H p)->BA K Y H x d1->BA K Y H y d2->b d1 d2=some z ->
 (∀v H',Same H H'->RES K Y H H' v z->Q v H')->r x y H Q
def L9(K:Ab)(r:V->Hp->VK->Prop)(b:D->Option Rz):Prop:=∀(Y:AS)(H:Hp)(x:V)(d1:D)(z:Rz)(Q:VK),(∀p,Y p->Lv H p)->BA K Y H x d1->b d1=some z ->
 (∀v H',Same H H'->RES K Y H H' v z->Q v H')->r x H Q
inductive BAs(K:Ab)(Y:AS)(H:Hp):List V->List D->Prop where
 | nil:BAs K Y H [] []
 | cons {v:V} {vs:List V} {d:D} {ds:List D}:BA K Y H v d->BAs K Y H vs ds->BAs K Y H (v::vs) (d::ds)
def RdCB(K:Ab)(r:List V->Hp->VK->Prop)(b:List D->Option Rz):Prop:=∀(Y:AS)(H:Hp)(xs:List V)(ds:List D)(z:Rz)(Q:VK),(∀p,Y p->Lv H p)->BAs K Y H xs ds->b ds=some z ->
 (∀v H',Same H H'->RES K Y H H' v z->Q v H')->r xs H Q
section
variable {K:Ab}{Y Y' O O' O1 O2 Z:AS}{H H' H1 H2:Hp}{v:V}{d:D}{vs:List V}{ds:List D}{a p:Addr}{st st' st1 st2:En}{σ σ':St}
theorem RES.rv(E:ER K st σ H O Z)(s:Same H H')(h:RES K (U O Z) H H' v z):ER K st σ H' O Z/\RVal K Z st σ H' O v (mk z):=by
 obtain⟨d,fr⟩:=z;cases fr with
 | false=>exact⟨E.same s,h⟩
 | true =>
  obtain⟨p,rfl,hp,ho⟩:=h;have hf:=E.free hp;exact⟨E.same s,p,rfl,hf.1,hf.2,ho,E.away s hp ho.lv⟩
theorem RES.fsh(h:RES K Y H H' v z):Fsh H v (mk z):=by
 obtain⟨d,fr⟩:=z;cases fr with
 | false=>trivial
 | true=>obtain⟨p,rfl,hp,_⟩:=h;exact fun q e=>by cases e;exact hp
theorem RVs.ext(h:RVs K Z st σ H O vs rs)(e:Ext O H O' H')(k:Kp st st'):RVs K Z st' σ H' O' vs rs:=by
 induction h with
 | nil=>exact .nil
 | cons h1 _ ih=>exact .cons (h1.ext e k) ih
def dU(st:En):List Rs->Option (List D)
 | []=>some []
 | r::rs=>(cont st r).bind fun d=>(dU st rs).bind fun ds=>some (d::ds)
theorem RVs.bas(h:RVs K Z st σ H O vs rs)(E:ER K st σ H O Z):∀{ds:List D},dU st rs=some ds->BAs K (U O Z) H vs ds:=by
 induction h with
 | nil=>intro ds e;cases e;exact .nil
 | @cons v vs r rs h1 _ ih =>
  intro ds e;refine bsO e fun d e1 e=>?_;refine bsO e fun ds' e2 e=>?_;cases e;exact .cons (h1.ba E (by rw[fO];exact e1)) (ih e2)
def eG:List Rs->En->Option (List D×En)
 | [],st=>some ([],st)
 | r::rs,st=>(cont st r).bind fun d=>(DT st r).bind fun st1=>(eG rs st1).bind fun x=>some (d::x.1,x.2)
def G3(st:En)(r:Rs):DT st r.nf=DT st r:=by cases r<;>rfl
theorem RVs.esc:∀{rs:List Rs}{vs:List V}{st:En}{O:AS}{ds:List D}{st':En},RVs K Z st σ H O vs rs->ER K st σ H O Z->eG rs st=some (ds,st')->∃O',Ext O H O' H/\Kp st st'/\ER K st' σ H O' Z/\El K (U O' Z) H vs ds
 | [],_,st,O,ds,st',.nil,E,e=>by cases e;exact⟨O,Ext.refl O H,Kp.refl _,E,El.nil⟩
 | r::rs,_,st,O,ds,st',.cons h1 h2,E,e=>by
  refine bsO e fun d e1 e=>?_;refine bsO e fun st1 e2 e=>?_;refine bsP e fun ds2 st2 e3 e=>?_;cases e;obtain⟨O1,x1,k1,E1,da⟩:=h1.frz E (by rw[G3];exact e2) (by rw[fO];exact e1)
  obtain⟨O2,x2,k2,E2,el⟩:=RVs.esc (h2.ext x1 k1) E1 e3;exact⟨O2,x1.trans x2,k1.trans k2,E2,El.cons (da.ext x2) el⟩
def ag(i:Nat):FE:=fun st=>match st[i]? with
 | some (.v d)=>some (.d d,st)
 | some (.o _)=>some (.s i,st)
 | some (.io _)=>some (.s i,st)
 | _=>none
set_option tactic.hygienic true in
def ae(i:Nat):RdE K (vn i) (ag i):=by
 intro st σ H O Z Q E r st' h q;unfold ag at h;split at h
 ·rename_i d e
  cases h;obtain⟨v,h1,h2⟩:=E.val i d e;exact⟨v,h1,q v H O (Ext.refl O H) (Kp.refl _) E h2 True.intro⟩
 ·rename_i d e
  cases h;obtain⟨p,h1,h2,h3⟩:=E.own i _ _ e rfl;exact⟨.ref p,h1,q _ H O (Ext.refl O H) (Kp.refl _) E ⟨h1,_,e,by simp[Sl.get]⟩ True.intro⟩
 ·rename_i d e
  cases h;obtain⟨p,h1,h2,h3⟩:=E.own i _ _ e rfl;exact⟨.ref p,h1,q _ H O (Ext.refl O H) (Kp.refl _) E ⟨h1,_,e,by simp[Sl.get]⟩ True.intro⟩
 ·cases h
def fC(d:D):FE:=fun st=>some (.d d,st)
def fz(h:∀Y H,DA K Y H v d):RdE K (tC v) (fC d):=by
 intro st σ H O Z Q E r st' e q;cases e;exact q v H O (Ext.refl O H) (Kp.refl _) E (h _ _) True.intro
def aq(i:Int):RdE K (tC (.int i)) (fC (.int i)):=fz fun _ _=>.int i
def cY(x:Str):RdE K (tC (.str x)) (fC (.str x)):=fz fun _ _=>.str x
def jz(b:Bool):RdE K (tC (.bl b)) (fC (.bl b)):=fz fun _ _=>.bl b
def rP:RdE K (tC .non) (fC .non):=fz fun _ _=>.non
def fOp(b:D->D->Option Rz)(fa fb:FE):FE:=fun st=>(fa st).bind fun x=>(fb x.2).bind fun y=>(cont y.2 x.1).bind fun d1=>(cont y.2 y.1).bind fun d2=>(b d1 d2).bind fun z=>some (mk z,y.2)
def aB(hr:RdOp K r b)(ha:RdE K ta fa)(hb:RdE K tb fb):RdE K (tOp r ta tb) (fOp b fa fb):=by
 intro st σ H O Z Q E r' st' h q;refine bsP h fun r1 st1 e1 h=>?_;refine bsP h fun r2 st2 e2 h=>?_;refine bsO h fun d1 e3 h=>?_;refine bsO h fun d2 e4 h=>?_;refine bsO h fun z e5 h=>?_;cases h;refine ha st σ H O Z _ E r1 st1 e1 fun v1 H1 O1 x1 k1 E1 rv1 w1=>?_;refine hb st1 σ H1 O1 Z _ E1 r2 st2 e2 fun v2 H2 O2 x2 k2 E2 rv2 w2=>?_;have b1:=(rv1.nf.ext x2 k2).ba E2 (by rw[fO];exact e3)
 refine hr (U O2 Z) H2 v1 v2 d1 d2 z _ E2.liv b1 (rv2.ba E2 e4) e5 fun v H3 s hres=>?_;obtain⟨E3,rv3⟩:=hres.rv E2 s;exact q v H3 O2 ((x1.trans x2).trans (Same.ext s)) (k1.trans k2) E3 rv3 (hres.fsh.back (x1.trans x2))
def fUn(b:D->Option Rz)(fa:FE):FE:=fun st=>(fa st).bind fun x=>(cont x.2 x.1).bind fun d1=>(b d1).bind fun z=>some (mk z,x.2)
def DU(hr:L9 K r b)(ha:RdE K ta fa):RdE K (tUn r ta) (fUn b fa):=by
 intro st σ H O Z Q E r' st' h q;refine bsP h fun r1 st1 e1 h=>?_;refine bsO h fun d1 e3 h=>?_;refine bsO h fun z e5 h=>?_;cases h;refine ha st σ H O Z _ E r1 st1 e1 fun v1 H1 O1 x1 k1 E1 rv1 w1=>?_;refine hr (U O1 Z) H1 v1 d1 z _ E1.liv (rv1.ba E1 e3) e5 fun v H3 s hres=>?_;obtain⟨E3,rv3⟩:=hres.rv E1 s;exact q v H3 O1 (x1.trans (Same.ext s)) k1 E3 rv3 (hres.fsh.back x1)
def tru(st:En)(r:Rs):Option Bool:=match cont st r with
 | some (.bl c)=>some c
 | _=>none
set_option tactic.hygienic true in
def DV(E:ER K st σ H O Z)(h:RVal K Z st σ H O v r)(t:tru st r=some c):v=.bl c:=by
 unfold tru at t;split at t
 ·rename_i b e
  cases t;exact h.ba E e
 ·cases t
def aH(fa:FE):FT:=fun st=>(fa st).bind fun x=>(tru x.2 x.1).bind fun c=>some (c,x.2)
def aN(ha:RdE K ta fa):RdT K (wH ta) (aH fa):=by
 intro st σ H O Z Q E c st' h q;refine bsP h fun r1 st1 e1 h=>?_;refine bsO h fun c' e2 h=>?_;cases h;exact ha st σ H O Z _ E r1 st1 e1 fun v1 H1 O1 x1 k1 E1 rv1 w1=>⟨c,DV E1 rv1 e2,q H1 O1 x1 k1 E1⟩
def dO(ha:RdE K ta fa):RdT K (tB ta) (aH fa):=aN ha
def fR(f:FT):FT:=fun st=>(f st).bind fun x=>some (!x.1,x.2)
def dJ(h:RdT K t f):RdT K (LM t) (fR f):=by
 intro st σ H O Z Q E c st' e q;refine bsP e fun c1 st1 e1 e=>?_;cases e;exact h st σ H O Z _ E c1 st1 e1 q
def eT(f g:FT):FT:=fun st=>(f st).bind fun x=>if x.1=true then g x.2 else some (false,x.2)
theorem fP(h:RdT K t f)(h':RdT K u g):RdT K (LL t u) (eT f g):=by
 intro st σ H O Z Q E c st' e q;refine bsP e fun c1 st1 e1 e=>?_;refine h st σ H O Z _ E c1 st1 e1 fun H1 O1 x1 k1 E1=>?_;cases c1 with
 | true =>
  rw[Ae rfl]at e ⊢;exact h' st1 σ H1 O1 Z _ E1 c st' e fun H2 O2 x2 k2 E2=>q H2 O2 (x1.trans x2) (k1.trans k2) E2
 | false =>
  simp only[Qe,if_false]at e ⊢;cases e;exact q H1 O1 x1 k1 E1
def kL(f g:FT):FT:=fun st=>(f st).bind fun x=>if x.1=true then some (true,x.2) else g x.2
theorem fX(h:RdT K t f)(h':RdT K u g):RdT K (tOr t u) (kL f g):=by
 intro st σ H O Z Q E c st' e q;refine bsP e fun c1 st1 e1 e=>?_;refine h st σ H O Z _ E c1 st1 e1 fun H1 O1 x1 k1 E1=>?_;cases c1 with
 | true =>
  rw[Ae rfl]at e ⊢;cases e;exact q H1 O1 x1 k1 E1
 | false =>
  simp only[Qe,if_false]at e ⊢;exact h' st1 σ H1 O1 Z _ E1 c st' e fun H2 O2 x2 k2 E2=>q H2 O2 (x1.trans x2) (k1.trans k2) E2
def cg:FT:=fun st=>some (true,st)
def dF:RdT K L7 cg:=by
 intro st σ H O Z Q E c st' e q;cases e;exact q H O (Ext.refl O H) (Kp.refl _) E
def gW(fa fb:FE):FE:=fun st=>(fa st).bind fun x=>(tru x.2 x.1).bind fun c=>if c=true then fb x.2 else some (.d (.bl false),x.2)
theorem eU(ha:RdE K ta fa)(hb:RdE K tb fb):RdE K (IA ta tb) (gW fa fb):=by
 intro st σ H O Z Q E r st' h q;refine bsP h fun r1 st1 e1 h=>?_;refine bsO h fun c e2 h=>?_;refine ha st σ H O Z _ E r1 st1 e1 fun v1 H1 O1 x1 k1 E1 rv1 w1=>⟨c,DV E1 rv1 e2,?_⟩;cases c with
 | true =>
  rw[Ae rfl]at h ⊢;exact hb st1 σ H1 O1 Z _ E1 r st' h fun v H2 O2 x2 k2 E2 rv w2=>q v H2 O2 (x1.trans x2) (k1.trans k2) E2 rv (w2.back x1)
 | false =>
  rw[Ak (by decide)]at h ⊢
  cases h;exact q _ H1 O1 x1 k1 E1 (.bl false) True.intro
def IV(fa:FE):FE:=fun st=>(fa st).bind fun x=>(tru x.2 x.1).bind fun c=>some (.d (.bl (!c)),x.2)
def G4(ha:RdE K ta fa):RdE K (IB ta) (IV fa):=by
 intro st σ H O Z Q E r st' h q;refine bsP h fun r1 st1 e1 h=>?_;refine bsO h fun c e2 h=>?_;cases h;exact ha st σ H O Z _ E r1 st1 e1 fun v1 H1 O1 x1 k1 E1 rv1 w1=>⟨c,DV E1 rv1 e2,q _ H1 O1 x1 k1 E1 (.bl _) True.intro⟩
def fIf(f:FT)(fa fb:FE):FE:=fun st=>(f st).bind fun x=>if x.1=true then fa x.2 else fb x.2
theorem wU(h:RdT K t f)(ha:RdE K ta fa)(hb:RdE K tb fb):RdE K (tIf t ta tb) (fIf f fa fb):=by
 intro st σ H O Z Q E r st' e q;refine bsP e fun c1 st1 e1 e=>?_;refine h st σ H O Z _ E c1 st1 e1 fun H1 O1 x1 k1 E1=>?_;cases c1 with
 | true =>
  rw[Ae rfl]at e ⊢;exact ha st1 σ H1 O1 Z _ E1 r st' e fun v H2 O2 x2 k2 E2 rv w2=>q v H2 O2 (x1.trans x2) (k1.trans k2) E2 rv (w2.back x1)
 | false =>
  simp only[Qe,if_false]at e ⊢;exact hb st1 σ H1 O1 Z _ E1 r st' e fun v H2 O2 x2 k2 E2 rv w2=>q v H2 O2 (x1.trans x2) (k1.trans k2) E2 rv (w2.back x1)
def rQ(b b':D->D->Option Rz)(fa fb fc:FE):FE:=fun st=>(fa st).bind fun x=>(fb x.2).bind fun y=>(cont y.2 x.1).bind fun d1=>(cont y.2 y.1).bind fun d2=>(b d1 d2).bind fun z=>match z with
 | (.bl true,false)=>(fc y.2).bind fun w=>(cont w.2 y.1).bind fun d2'=>(cont w.2 w.1).bind fun d3=>(b' d2' d3).bind fun z'=>some (mk z',w.2)
 | (.bl false,false)=>some (.d (.bl false),y.2)
 | _=>none
def DW(hr:RdOp K r b)(hr':RdOp K r' b')(ha:RdE K ta fa)(hb:RdE K tb fb)(hc:RdE K tc fc):RdE K (zX r r' ta tb tc) (rQ b b' fa fb fc):=by
 intro st σ H O Z Q E r0 st' h q;refine bsP h fun r1 st1 e1 h=>?_;refine bsP h fun r2 st2 e2 h=>?_;refine bsO h fun d1 e3 h=>?_;refine bsO h fun d2 e4 h=>?_;refine bsO h fun z e5 h=>?_;refine ha st σ H O Z _ E r1 st1 e1 fun v1 H1 O1 x1 k1 E1 rv1 w1=>?_;refine hb st1 σ H1 O1 Z _ E1 r2 st2 e2 fun v2 H2 O2 x2 k2 E2 rv2 w2=>?_;have b1:=(rv1.nf.ext x2 k2).ba E2 (by rw[fO];exact e3)
 refine hr (U O2 Z) H2 v1 v2 d1 d2 z _ E2.liv b1 (rv2.ba E2 e4) e5 fun v H3 s hres=>?_;obtain⟨dz,fr⟩:=z;cases dz with
 | bl c =>
  cases fr with
  | true=>cases c<;>cases h
  | false =>
   have ev:v=.bl c:=DA.ba (show DA K (U O2 Z) H3 v (.bl c) from hres);refine⟨c,ev,?_⟩;have E3:=E2.same s;have x3:Ext O2 H2 O2 H3:=Same.ext s;cases c with
   | false =>
    rw[Ak (by decide)]
    cases h;exact q _ H3 O2 ((x1.trans x2).trans x3) (k1.trans k2) E3 (.bl false) True.intro
   | true =>
    rw[Ae rfl];refine bsP h fun r3 st3 g1 h=>?_;refine bsO h fun d2' g2 h=>?_;refine bsO h fun d3 g3 h=>?_;refine bsO h fun z' g4 h=>?_;cases h;refine hc st2 σ H3 O2 Z _ E3 r3 st3 g1 fun v3 H4 O4 x4 k4 E4 rv4 w4=>?_;have b2:=(rv2.nf.ext (x3.trans x4) k4).ba E4 (by rw[fO];exact g2)
    refine hr' (U O4 Z) H4 v2 v3 d2' d3 z' _ E4.liv b2 (rv4.ba E4 g3) g4 fun w H5 s5 hres5=>?_;obtain⟨E5,rv5⟩:=hres5.rv E4 s5;exact q w H5 O4 ((((x1.trans x2).trans x3).trans x4).trans (Same.ext s5)) ((k1.trans k2).trans k4) E5 rv5 (hres5.fsh.back (((x1.trans x2).trans x3).trans x4))
 | _=>cases fr<;>cases h
def ai:FA:=fun st=>some ([],st)
def af:RdA K tJ ai:=by
 intro st σ H O Z Q E rs st' e q;cases e;exact q [] H O (Ext.refl O H) (Kp.refl _) E .nil
def ac(fa:FE)(fr:FA):FA:=fun st=>(fa st).bind fun x=>(fr x.2).bind fun y=>some (x.1::y.1,y.2)
def aa(ha:RdE K ta fa)(hr:RdA K tr fr):RdA K (iB ta tr) (ac fa fr):=by
 intro st σ H O Z Q E rs st' h q;refine bsP h fun r1 st1 e1 h=>?_;refine bsP h fun rs2 st2 e2 h=>?_;cases h;refine ha st σ H O Z _ E r1 st1 e1 fun v1 H1 O1 x1 k1 E1 rv1 w1=>?_;refine hr st1 σ H1 O1 Z _ E1 rs2 st2 e2 fun vs H2 O2 x2 k2 E2 rvs=>?_;exact q (v1::vs) H2 O2 (x1.trans x2) (k1.trans k2) E2 (.cons (rv1.nf.ext x2 k2) rvs)
def few(h:n<=1000000):n<=sizeLine:=Zd h (by decide)
def bQ(fa:FA):FE:=fun st=>(fa st).bind fun x=>(eG x.1 x.2).bind fun y=>if y.1.length<=1000000 then some (.d (.tup y.1),y.2) else none
def be(ha:RdA K ta fa):RdE K (LV ta) (bQ fa):=by
 intro st σ H O Z Q E r st' h q;refine bsP h fun rs st1 e1 h=>?_;refine bsP h fun ds st2 e2 h=>?_;refine ha st σ H O Z _ E rs st1 e1 fun vs H1 O1 x1 k1 E1 rvs=>?_;obtain⟨O2,x2,k2,E2,el⟩:=rvs.esc E1 e2;obtain⟨hz,h⟩:=aT h;cases h;refine⟨by rw[el.1];exact few hz,fun p hp=>?_⟩
 obtain⟨E3,rv⟩:=E2.newT hp el;exact q _ _ O2 ((x1.trans x2).trans (Same.ext (br hp _))) (k1.trans k2) E3 rv True.intro
def dw(fa:FA):FE:=fun st=>(fa st).bind fun x=>(eG x.1 x.2).bind fun y=>if y.1.length<=1000000 then some (.f (.lst y.1),y.2) else none
def cw(ha:RdA K ta fa):RdE K (JK ta) (dw fa):=by
 intro st σ H O Z Q E r st' h q;refine bsP h fun rs st1 e1 h=>?_;refine bsP h fun ds st2 e2 h=>?_;refine ha st σ H O Z _ E rs st1 e1 fun vs H1 O1 x1 k1 E1 rvs=>?_;obtain⟨O2,x2,k2,E2,el⟩:=rvs.esc E1 e2;obtain⟨hz,h⟩:=aT h;cases h;refine⟨by rw[el.1];exact few hz,fun p hp=>?_⟩
 obtain⟨E3,rv⟩:=E2.new hp el;exact q _ _ O2 ((x1.trans x2).trans (Same.ext (br hp _))) (k1.trans k2) E3 rv fun p' e=>by cases e;exact(x1.trans x2).dead hp
def fCB(b:List D->Option Rz)(fa:FA):FE:=fun st=>(fa st).bind fun x=>(dU x.2 x.1).bind fun ds=>(b ds).bind fun z=>some (mk z,x.2)
def aP(hr:RdCB K r b)(ha:RdA K ta fa):RdE K (tCB r ta) (fCB b fa):=by
 intro st σ H O Z Q E r0 st' h q;refine bsP h fun rs st1 e1 h=>?_;refine bsO h fun ds e2 h=>?_;refine bsO h fun z e3 h=>?_;cases h;refine ha st σ H O Z _ E rs st1 e1 fun vs H1 O1 x1 k1 E1 rvs=>?_;refine hr (U O1 Z) H1 vs ds z _ E1.liv (rvs.bas E1 e2) e3 fun v H3 s hres=>?_;obtain⟨E3,rv3⟩:=hres.rv E1 s;exact q v H3 O1 (x1.trans (Same.ext s)) k1 E3 rv3 (hres.fsh.back x1)
end
end VF
namespace VF
open PySem L2
def D.isSc:D->Bool
 | .non=>true
 | .bl _=>true
 | .int _=>true
 | .str _=>true
 | .ty _=>true
 | _=>false
def spV(K:Ab)(g:List D->Option Rz):Sp:=fun vs H Q _=>∃(Z:AS)(ds:List D)(z:Rz),El K Z H vs ds/\(∀p,Z p->Lv H p)/\g ds=some z/\∀v H',Same H H'->RES K Z H H' v z->Q v H'
def Nj(K:Ab)(Y:AS)(f:Addr)(x':D)(H H':Hp)(v:V):Rz->Prop
 | (d,true)=>∃p,v=.ref p/\H p=none/\OA K (ins p Y) H' p d/\OA K (ins p Y) H' f x'
 | (d,false)=>DA K Y H' v d/\OA K Y H' f x'
def jA(K:Ab)(g:D->List D->Option (Rz×D)):Sp:=fun vs H Q _=>∃(f:Addr)(ws:List V)(Z:AS)(x:D)(ds:List D)(z:Rz)(x':D),vs=.ref f::ws/\¬ Z f/\OA K (ins f Z) H f x/\El K (ins f Z) H ws ds/\(∀p,Z p->Lv H p)/\g x ds=some (z,x') /\
 ∀v H',(∀b o,H b=some o->b≠f->H' b=some o)->Nj K (ins f Z) f x' H H' v z->Q v H'
section
variable {K:Ab}{Y Y' O O' O1 O2 Z:AS}{H H' H1 H2:Hp}{v:V}{d:D}{vs:List V}{ds:List D}{a p:Addr}{st st' st1 st2:En}{σ σ':St}
def bB(g:List D->Option Rz)(fa:FA):FE:=fun st=>(fa st).bind fun x=>(eG x.1 x.2).bind fun y=>(g y.1).bind fun z=>some (mk z,y.2)
def aY(ha:RdA K ta fa):RdE K (vC (spV K g) ta) (bB g fa):=by
 intro st σ H O Z Q E r0 st' h q;refine bsP h fun rs st1 e1 h=>?_;refine bsP h fun ds st2 e2 h=>?_;refine bsO h fun z e3 h=>?_;cases h;refine ha st σ H O Z _ E rs st1 e1 fun vs H1 O1 x1 k1 E1 rvs=>?_;obtain⟨O2,x2,k2,E2,el⟩:=rvs.esc E1 e2;refine⟨U O2 Z,ds,z,el,E2.liv,e3,fun v H3 s hres=>?_⟩;obtain⟨E3,rv3⟩:=hres.rv E2 s;exact q v H3 O2 ((x1.trans x2).trans (Same.ext s)) (k1.trans k2) E3 rv3 (hres.fsh.back (x1.trans x2))
theorem RVal.da0(h:RVal K Z st σ H O v r)(E:ER K st σ H O Z)(c:cont st r=some d):DA K (fun _=>False) H v d:=by
 cases r with
 | d x=>cases c;exact DA.less (show DA K (U O Z) H v d from h) fun b z=>z.elim
 | f x=>cases c;exact DA.less (show DA K (U O Z) H v d from RVal.nf h) fun b z=>z.elim
 | s i =>
  obtain⟨h1,s,h2,h3⟩:=h;have c':(st[i]?).bind Sl.get=some d:=c;rw[h2]at c';cases s with
  | e=>cases c'
  | v x =>
   cases c';obtain⟨u,g1,g2⟩:=E.val i _ h2;rw[h1]at g1;cases g1;exact g2.less fun b z=>z.elim
  | o x =>
   cases c';obtain⟨p,g1,g2,g3⟩:=E.own i _ _ h2 rfl;rw[h1]at g1;cases g1;exact g3.da (fun z=>z) fun b z=>z.elim
  | io x =>
   cases c';obtain⟨p,g1,g2,g3⟩:=E.own i _ _ h2 rfl;rw[h1]at g1;cases g1;exact g3.da (fun z=>z) fun b z=>z.elim
theorem RVs.el0(h:RVs K Z st σ H O vs rs)(E:ER K st σ H O Z):∀{ds:List D},dU st rs=some ds->El K (fun _=>False) H vs ds:=by
 induction h with
 | nil=>intro ds e;cases e;exact El.nil
 | @cons v vs r rs h1 _ ih =>
  intro ds e;refine bsO e fun d e1 e=>?_;refine bsO e fun ds' e2 e=>?_;cases e;exact El.cons (h1.da0 E (by rw[fO];exact e1)) (ih e2)
theorem DA.sc(h:DA K Y H v d)(s:d.isSc=true):DA K Y' H' v d:=by
 cases h with
 | non=>exact .non
 | bl b=>exact .bl b
 | int i=>exact .int i
 | str x=>exact .str x
 | ty n=>exact .ty n
 | _=>cases s
def bF(g:List D->Option Rz)(fa:FA):FE:=fun st=>(fa st).bind fun x=>(dU x.2 x.1).bind fun ds=>(g ds).bind fun z=>if (z.1.isSc&&!z.2)=true then some (.d z.1,x.2) else none
def bG(ha:RdA K ta fa):RdE K (vC (spV K g) ta) (bF g fa):=by
 intro st σ H O Z Q E r0 st' h q;refine bsP h fun rs st1 e1 h=>?_;refine bsO h fun ds e2 h=>?_;refine bsP h fun dz fr e3 h=>?_;obtain⟨hc,h⟩:=aT h;cases h;have h1:dz.isSc=true/\fr=false:=by simpa using hc
 obtain⟨h1,rfl⟩:=h1;refine ha st σ H O Z _ E rs _ e1 fun vs H1 O1 x1 k1 E1 rvs=>?_;refine⟨fun _=>False,ds,(dz,false),rvs.el0 E1 e2,fun p z=>z.elim,e3,fun v H3 s hres=>?_⟩;exact q v H3 O1 (x1.trans (Same.ext s)) k1 (E1.same s) (DA.sc (show DA K (fun _=>False) H3 v dz from hres) h1) True.intro
def m6{s:Sl}(E:ER K st σ H O Z)(hs:st[i]?=some s)(hx:s.ow=some x)(hv:σ[i]?=some (some v))(el:El K (U O Z) H ws ds)(hg:g x ds=some (z,x'))
  (q:∀v H' O',Ext O H O' H'->Kp st (st.set i (s.put x'))->ER K (st.set i (s.put x')) σ H' O' Z->RVal K Z (st.set i (s.put x')) σ H' O' v (mk z)->Fsh H v (mk z)->Q v H'):jA K g (v::ws) H Q XE:=by
 obtain⟨p,g1,g2,g3⟩:=E.own i s x hs hx;have ev:v=.ref p:=by rw[hv]at g1;cases g1;rfl
 subst ev;have a1:∀b,ins p (fun b=>U O Z b/\b≠p) b->U O Z b:=fun b z=>z.elim (fun q=>by rw[q];exact .inl g2) fun q=>q.1
 have a2:∀b,U O Z b->ins p (fun b=>U O Z b/\b≠p) b:=fun b z=>by
  by_cases e:b=p
  ·exact .inl e
  ·exact .inr ⟨z,e⟩
 refine⟨p,ws,fun b=>U O Z b/\b≠p,x,ds,z,x',rfl,fun z=>z.2 rfl,g3.go rfl (fun _ _ e _=>e) (fun b z=>.inl (a1 b z)),el.less a1,fun b z=>E.liv b z.1,hg,fun u H' kp hres=>?_⟩;have ho:OA K (ins p fun b=>U O Z b/\b≠p) H' p x':=by
  obtain⟨dz,fr⟩:=z;cases fr with
  | false=>exact hres.2
  | true=>obtain⟨r,_,_,_,h⟩:=hres;exact h.go rfl (fun _ _ e _=>e) fun b z=>.inl (.inr z)
 have kp':∀b o,H b=some o->¬ U O Z b->H' b=some o:=fun b o e n=>kp b o e fun z=>n (by rw[z];exact .inl g2)
 have al:∀b,H b≠none->H' b≠none:=fun b hb=>by
  by_cases e:b=p
  ·rw[e];exact ho.live
  ·cases eb:H b with
   | none=>exact absurd eb hb
   | some o=>rw[kp b o eb e];simp
 have al':∀b,Lv H b->Lv H' b:=fun b hb=>by
  by_cases e:b=p
  ·rw[e];exact ho.lv
  ·exact hb.same fun o eb=>kp b o eb e
 have ex:Ext O H O H':=⟨fun b o e n=>kp b o e fun z=>n (by rw[z];exact g2),fun b z=>.inl z,al,al'⟩
 have ho':OA K (U O Z) H' p x':=ho.go rfl (fun _ _ e _=>e) fun b z=>.inl (a2 b z);have mkE:∀(O2:AS),(∀b,O b->O2 b)->(∀b,O2 b->O b∨H b=none)->(∀b,O2 b->¬ Z b)->(∀b,O2 b->Lv H' b)->OA K (U O2 Z) H' p x'->ER K (st.set i (s.put x')) σ H' O2 Z:=fun O2 up dn ds lv ho2=>by
  have nn:∀b,U O2 Z b->U O Z b∨H b=none:=fun b z=>z.elim (fun y=>(dn b y).elim (fun w=>.inl (.inl w)) .inr) fun y=>.inl (.inr y);refine⟨by simp[E.len],fun j d hj=>?_,fun j t d hj ht=>?_,fun j k t t' d d' r hj ht hk ht' e1 e2=>?_,ds,fun r hr=>hr.elim (lv r) fun y=>al' r (E.liv r (.inr y))⟩
  ·by_cases e:i=j
   ·subst e;rw[bA hs]at hj;exact absurd (Option.some.inj hj) (Sl.put_v _ _ _)
   ·rw[aJ e]at hj;obtain⟨v,h1,h2⟩:=E.val j d hj;exact⟨v,h1,h2.go kp' nn⟩
  ·by_cases e:i=j
   ·subst e;rw[bA hs]at hj;have:=Option.some.inj hj;subst this;rw[Sl.put_ow]at ht;cases ht;exact⟨p,g1,up p g2,ho2⟩
   ·rw[aJ e]at hj;obtain⟨r,h1,h2,h3⟩:=E.own j t d hj ht;have hne:r≠p:=fun z=>by subst z;exact e (E.uni i j s t x d r hs hx hj ht g1 h1)
    refine⟨r,h1,up r h2,h3.go ?_ kp' nn⟩;cases er:H r with
    | none=>exact absurd er h3.live
    | some o=>exact kp r o er hne
  ·have own':∀(m:Nat)(t:Sl)(d:D),(st.set i (s.put x'))[m]?=some t->t.ow=some d->∃t2 d2,st[m]?=some t2/\t2.ow=some d2:=fun m t d hm ht=>by
    by_cases e:i=m
    ·subst e;exact⟨s,x,hs,hx⟩
    ·rw[aJ e]at hm;exact⟨t,d,hm,ht⟩
   obtain⟨t1,d1,a1,b1⟩:=own' j t d hj ht;obtain⟨t2,d2,a2,b2⟩:=own' k t' d' hk ht';exact E.uni j k t1 t2 d1 d2 r a1 b1 a2 b2 e1 e2
 have kk:Kp st (st.set i (s.put x')):=by
  refine⟨by simp,fun j t hj ht=>?_,fun j d hj=>?_⟩
  ·by_cases e:i=j
   ·subst e;exact⟨s.put x',bA hs,by cases s<;>simp[Sl.put,Sl.get]⟩
   ·exact⟨t,by rw[aJ e];exact hj,ht⟩
  ·by_cases e:i=j
   ·subst e;rw[hs]at hj;cases hj;exact⟨x',bA hs⟩
   ·exact⟨d,by rw[aJ e];exact hj⟩
 have E':=mkE O (fun _ z=>z) (fun _ z=>.inl z) E.dis (fun b z=>al' b (E.liv b (.inl z))) ho';refine q u H' O ex kk E' ?_ ?_
 rotate_left
 ·obtain⟨dz,fr⟩:=z;cases fr with
  | false=>trivial
  | true=>obtain⟨r,rfl,hr,_⟩:=hres;exact fun q e=>by cases e;exact hr
 obtain⟨dz,fr⟩:=z;cases fr with
 | false=>exact DA.less (show DA K _ H' u dz from hres.1) a2
 | true =>
  obtain⟨r,rfl,hr,hor,hof⟩:=hres;have hf:=E.free hr;have a3:∀b,ins r (U O Z) b->ins r (ins p fun b=>U O Z b/\b≠p) b:=fun b z=>z.elim .inl fun y=>.inr (a2 b y);refine⟨r,rfl,hf.1,hf.2,hor.go rfl (fun _ _ e _=>e) (fun b z=>.inl (a3 b z)),mkE (ins r O) (fun _ z=>.inr z) (fun b z=>z.elim (fun y=>.inr (by rw[y];exact hr)) .inl) (fun b z=>z.elim (fun y=>by rw[y];exact hf.2) (E.dis b)) (fun b z=>z.elim (fun y=>by rw[y];exact hor.lv) fun y=>al' b (E.liv b (.inl y))) ?_⟩
  exact hof.go rfl (fun _ _ e _=>e) fun b z=>.inl (a3 b (z.elim (fun y=>y.elim .inl fun w=>.inr (.inl w)) fun y=>.inr (.inr y)))
def fIO(g:D->List D->Option (Rz×D))(i:Nat)(fr:FA):FE:=fun st=>(st[i]?).bind fun s0=>(s0.ow).bind fun _=>(fr st).bind fun x=>(eG x.1 x.2).bind fun y=>(y.2[i]?).bind fun s=>(s.ow).bind fun d=>(g d y.1).bind fun z=>some (mk z.1,y.2.set i (s.put z.2))
def cF(hr:RdA K tr fr):RdE K (vC (jA K g) (iB (vn i) tr)) (fIO g i fr):=by
 intro st σ H O Z Q E r0 st' h q;refine bsO h fun s0 f1 h=>?_;refine bsO h fun x0 f2 h=>?_;refine bsP h fun rs st1 e1 h=>?_;refine bsP h fun ds st2 e2 h=>?_;refine bsO h fun s e3 h=>?_;refine bsO h fun x e4 h=>?_;refine bsP h fun z x' e5 h=>?_;cases h;obtain⟨p,g1,_,_⟩:=E.own i s0 x0 f1 f2;refine⟨.ref p,g1,?_⟩;refine hr st σ H O Z _ E rs st1 e1 fun vs H1 O1 x1 k1 E1 rvs=>?_;obtain⟨O2,x2,k2,E2,el⟩:=rvs.esc E1 e2;exact m6 E2 e3 e4 g1 el e5 fun v H' O' ex kk E' rv w=>q v H' O' ((x1.trans x2).trans ex) ((k1.trans k2).trans kk) E' rv (w.back (x1.trans x2))
end
end VF
namespace VF
open PySem L2
structure Kq(st:En)(σ:St)(st':En)(σ':St):Prop where
 len:st'.length=st.length
 io:∀(i:Nat) d,st[i]?=some (.io d)->σ'[i]?=σ[i]?/\∃d',st'[i]?=some (.io d')
def Kq.refl(st:En)(σ:St):Kq st σ st σ:=⟨rfl,fun i d h=>⟨rfl,d,h⟩⟩
theorem Kq.trans(h:Kq a x b y)(g:Kq b y c z):Kq a x c z:=by
 refine⟨g.len.trans h.len,fun i d e=>?_⟩;obtain⟨e1,d1,e2⟩:=h.io i d e;obtain⟨e3,d2,e4⟩:=g.io i d1 e2;exact⟨e3.trans e1,d2,e4⟩
def Kp.kq(k:Kp st st'):Kq st σ st' σ:=⟨k.len,fun i d h=>⟨rfl,k.io i d h⟩⟩
abbrev FG:=D->En->Option En
def RdG(K:Ab)(g:TG)(fg:FG)(tg:List Nat):Prop:=∀(st:En)(σ:St)(H:Hp)(O Z:AS)(x:V)(d:D)(Q:St->Hp->Prop),ER K st σ H O Z->DA K (U O Z) H x d->∀st',fg d st=some st' ->
 (∀σ',(∀j,j∉tg->σ'[j]?=σ[j]?/\st'[j]?=st[j]?)->Kq st σ st' σ'->ER K st' σ' H O Z->Q σ' H)->g x σ H Q
def Sl.isIo:Sl->Bool
 | .io _=>true
 | _=>false
def mB(i:Nat)(s:Sl)(st:En):Option En:=(st[i]?).bind fun t=>if t.isIo=true then none else some (st.set i s)
section
variable {K:Ab}{Y Y' O O' O1 O2 Z:AS}{H H' H1 H2:Hp}{v:V}{d:D}{vs:List V}{ds:List D}{a p:Addr}{st st' st1 st2:En}{σ σ':St}
def nY(h:mB i s st=some st'):∃t,st[i]?=some t/\t.isIo=false/\st'=st.set i s:=by
 refine bsO h fun t e h=>?_;by_cases c:t.isIo=true
 ·simp only[Ae c]at h;cases h
 ·simp only[Ak c]at h;cases h;exact⟨t,e,by simpa using c,rfl⟩
def rR{s t:Sl}(e:st[i]?=some t)(n:t.isIo=false):Kq st σ (st.set i s) (σ.set i w):=by
 refine⟨by simp,fun j d h=>?_⟩
 have q:i≠j:=fun z=>by subst z;rw[e]at h;cases h;cases n
 exact⟨aJ q,d,by rw[aJ q];exact h⟩
def ER.asg(E:ER K st σ H O Z)(e:st[i]?=some t)(h:DA K (U O Z) H v d):ER K (st.set i (.v d)) (σ.set i (some v)) H O Z:=by
 have hi:i<σ.length:=by rw[← E.len];exact(Qb.mp e).1
 have sg:(σ.set i (some v))[i]?=some (some v):=by rw[AN,Ae rfl,Ae hi]
 have ne:∀(j:Nat) s x,(st.set i (.v d))[j]?=some s->s.ow=some x->i≠j/\st[j]?=some s:=fun j s x h1 h2=>by
  by_cases q:i=j
  ·subst q;rw[bA e]at h1;cases h1;cases h2
  ·exact⟨q,by rw[aJ q]at h1;exact h1⟩
 refine⟨by simp[E.len],fun j x hj=>?_,fun j s x h1 h2=>?_,fun j k s s' x x' r h1 h2 h3 h4 h5 h6=>?_,E.dis,E.liv⟩
 ·by_cases q:i=j
  ·subst q;rw[bA e]at hj;cases hj;exact⟨v,sg,h⟩
  ·rw[aJ q]at hj;obtain⟨w,g1,g2⟩:=E.val j x hj;exact⟨w,by rw[aJ q];exact g1,g2⟩
 ·obtain⟨q,h1⟩:=ne j s x h1 h2;obtain⟨r,g1,g2⟩:=E.own j s x h1 h2;exact⟨r,by rw[aJ q];exact g1,g2⟩
 ·obtain⟨q1,h1⟩:=ne j s x h1 h2;obtain⟨q2,h3⟩:=ne k s' x' h3 h4;rw[aJ q1]at h5;rw[aJ q2]at h6;exact E.uni j k s s' x x' r h1 h2 h3 h4 h5 h6
def ER.asgF(E0:ER K st σ H O Z)(E:ER K st σ H (ins p O) Z)(np:¬ O p)(e:st[i]?=some t)(h:OA K (ins p (U O Z)) H p x):ER K (st.set i (.o x)) (σ.set i (some (.ref p))) H (ins p O) Z:=by
 have hi:i<σ.length:=by rw[← E.len];exact(Qb.mp e).1
 have sg:(σ.set i (some (V.ref p)))[i]?=some (some (.ref p)):=by rw[AN,Ae rfl,Ae hi]
 have fresh:∀(j:Nat) s y,st[j]?=some s->s.ow=some y->σ[j]?≠some (some (.ref p)):=fun j s y h1 h2 z=>by
  obtain⟨r,g1,g2,_⟩:=E0.own j s y h1 h2;rw[z]at g1;cases g1;exact np g2
 refine⟨by simp[E.len],fun j y hj=>?_,fun j s y h1 h2=>?_,fun j k s s' y y' r h1 h2 h3 h4 h5 h6=>?_,E.dis,E.liv⟩
 ·by_cases q:i=j
  ·subst q;rw[bA e]at hj;cases hj
  ·rw[aJ q]at hj;obtain⟨w,g1,g2⟩:=E.val j y hj;exact⟨w,by rw[aJ q];exact g1,g2⟩
 ·by_cases q:i=j
  ·subst q;rw[bA e]at h1;cases h1;cases h2;refine⟨p,sg,.inl rfl,h.go rfl (fun _ _ e _=>e) fun b z=>.inl ?_⟩;rcases z with(z|z)|z
   ·exact .inl z
   ·exact .inr (.inl z)
   ·exact .inr (.inr z)
  ·rw[aJ q]at h1;obtain⟨r,g1,g2⟩:=E.own j s y h1 h2;exact⟨r,by rw[aJ q];exact g1,g2⟩
 ·by_cases q1:i=j
  ·by_cases q2:i=k
   ·exact q1.symm.trans q2
   ·subst q1;rw[aJ q2]at h3 h6;rw[sg]at h5;cases h5;exact absurd h6 (fresh k s' y' h3 h4)
  ·by_cases q2:i=k
   ·subst q2;rw[aJ q1]at h1 h5;rw[sg]at h6;cases h6;exact absurd h5 (fresh j s y h1 h2)
   ·rw[aJ q1]at h1 h5;rw[aJ q2]at h3 h6;exact E.uni j k s s' y y' r h1 h2 h3 h4 h5 h6
def gN(i:Nat):FG:=fun d st=>mB i (.v d) st
def aS(i:Nat):RdG K (ox i) (gN i) [i]:=by
 intro st σ H O Z x d Q E da st' h q;obtain⟨t,e,n,rfl⟩:=nY h;refine q (σ.set i (some x)) (fun j hj=>?_) (rR e n) (E.asg e da);have q:i≠j:=fun z=>hj (by rw[z];simp)
 exact⟨aJ q,aJ q⟩
def G5(K:Ab)(g:TGs)(fg:List D->En->Option En)(tg:List Nat):Prop:=∀(st:En)(σ:St)(H:Hp)(O Z:AS)(xs:List V)(ds:List D)(Q:St->Hp->Prop),ER K st σ H O Z->El K (U O Z) H xs ds->∀st',fg ds st=some st' ->
 (∀σ',(∀j,j∉tg->σ'[j]?=σ[j]?/\st'[j]?=st[j]?)->Kq st σ st' σ'->ER K st' σ' H O Z->Q σ' H)->g xs σ H Q
def gsN:List D->En->Option En:=fun ds st=>match ds with
 | []=>some st
 | _=>none
theorem iP:G5 K LQ gsN []:=by
 intro st σ H O Z xs ds Q E el st' h q;cases ds with
 | nil =>
  cases h;exact⟨el.unnil,q σ (fun j _=>⟨rfl,rfl⟩) (Kq.refl _ _) E⟩
 | cons d ds=>cases h
def gsC(fg:FG)(fgs:List D->En->Option En):List D->En->Option En:=fun ds st=>match ds with
 | d::r=>(fg d st).bind fun st1=>fgs r st1
 | []=>none
theorem cV(h1:RdG K g fg t1)(h2:G5 K gs fgs t2):G5 K (IE g gs) (gsC fg fgs) (t1++t2):=by
 intro st σ H O Z xs ds Q E el st' h q;cases ds with
 | nil=>cases h
 | cons d ds =>
  refine bsO h fun st1 e1 h=>?_;obtain⟨v,r,rfl,da,el⟩:=el.uncons;refine⟨v,r,rfl,h1 st σ H O Z v d _ E da st1 e1 fun σ1 k1 q1 E1=>?_⟩;refine h2 st1 σ1 H O Z r ds _ E1 el st' h fun σ2 k2 q2 E2=>q σ2 (fun j hj=>?_) (q1.trans q2) E2;have a:=k1 j fun z=>hj (Wh _ z);have b:=k2 j fun z=>hj (Xg _ z);exact⟨b.1.trans a.1,b.2.trans a.2⟩
def gT(n:Nat)(fgs:List D->En->Option En):FG:=fun d st=>match d with
 | .tup ds=>if ds.length=n then fgs ds st else none
 | _=>none
theorem kM(h:G5 K gs fgs t):RdG K (JB K n gs) (gT n fgs) t:=by
 intro st σ H O Z x d Q E da st' e q;cases d with
 | tup ds =>
  obtain⟨hn,e⟩:=aT e;cases da with
  | tup h1 h2 h3=>exact⟨_,_,rfl,h1.sq,h2.trans hn,h st σ H O Z _ ds Q E ⟨h2,h3⟩ st' e q⟩
 | _=>cases e
abbrev FI:=En->Option (List D×En)
def Ma(K:Ab)(Z:AS)(J:It)(items:List D)(H:Hp)(O:AS):Prop:=∀H' O',Ext O H O' H'->(∀p,U O' Z p->Lv H' p)->(∀i,items.length<=i->J.stop i H')/\∀(i:Nat) d,items[i]?=some d->J.go i H'/\∀x H'',J.yld i H' x H''->Same H' H''/\DA K (U O' Z) H'' x d
def RdI(K:Ab)(wi:TI)(fi:FI):Prop:=∀(st:En)(σ:St)(H:Hp)(O Z:AS)(R:It->Hp->Prop),ER K st σ H O Z->∀items st',fi st=some (items,st') ->
 (∀J H' O',Ext O H O' H'->Kp st st'->ER K st' σ H' O' Z->Ma K Z J items H' O'->R J H')->wi σ H R
def esc(r:Rs)(st:En):Option (D×En):=(cont st r).bind fun d=>(DT st r).bind fun st1=>some (d,st1)
theorem RVal.esc(h:RVal K Z st σ H O v r)(E:ER K st σ H O Z)(e:esc r st=some (d,st')):∃O',Ext O H O' H/\Kp st st'/\ER K st' σ H O' Z/\DA K (U O' Z) H v d:=by
 refine bsO e fun x e1 e=>?_;refine bsO e fun s1 e2 e=>?_;cases e;exact h.frz E e2 e1
def D.its:D->Option (List D)
 | .lst ds=>some ds
 | .fl ds=>some ds
 | _=>none
def D.itt:D->Option (List D)
 | .tup ds=>some ds
 | _=>none
def fIL(fe:FE):FI:=fun st=>(fe st).bind fun x=>(esc x.1 x.2).bind fun y=>(y.1.its).bind fun ds=>some (ds,y.2)
def G6(h:RdE K te fe):RdI K (wD K te) (fIL fe):=by
 intro st σ H O Z R E items st' e q;refine bsP e fun r st1 e1 e=>?_;refine bsP e fun d st2 e2 e=>?_;refine bsO e fun ds e3 e=>?_;cases e;refine h st σ H O Z _ E r st1 e1 fun v H1 O1 x1 k1 E1 rv w1=>?_;obtain⟨O2,x2,k2,E2,da⟩:=rv.esc E1 e2;have fin:∀{a:Addr}{vs:List V},El K (U O2 Z) H1 vs items->(∀H' O',Ext O2 H1 O' H'->SqL K H' a vs)->wD K (fun _ H Q=>Q (.ref a) H) σ H1 R:=fun {a vs} el sq=>by
  refine⟨a,rfl,⟨vs,sq H1 O2 (Ext.refl _ _)⟩,q _ H1 O2 (x1.trans x2) (k1.trans k2) E2 fun H' O' ex _=>?_⟩;have g1:=sq H' O' ex;have el':=el.ext ex;have hl:=el.1;refine⟨fun i hi=>⟨vs,g1,by lia⟩,fun i d hd=>?_⟩
  obtain⟨v,hv,hdv⟩:=el'.at hd;refine⟨⟨vs,v,g1,hv⟩,fun x H'' hx=>?_⟩;obtain⟨rfl,hx⟩:=hx;have:=hx vs g1;rw[hv]at this;cases this;exact⟨Same.refl _,hdv⟩
 cases d with
 | lst ds' =>
  cases e3;cases da with
  | @lst a vs _ h0 h1 h2 h3=>exact fin ⟨h2,h3⟩ fun H' O' ex=>.inl (.inl (ex.kp a _ h1 fun z=>h0 (.inl z)))
 | fl ds' =>
  cases e3;cases da with
  | @fl a vs _ h1 h2 h3 =>
   refine fin ⟨h2,h3⟩ fun H' O' ex=>?_;rcases h1 with⟨h1,hn⟩|h1
   ·exact .inl (Rd.keep h1 fun o e=>ex.kp a o e fun z=>hn (.inl z))
   ·exact h1 H'
 | _=>cases e3
def fIT(fe:FE):FI:=fun st=>(fe st).bind fun x=>(esc x.1 x.2).bind fun y=>(y.1.itt).bind fun ds=>some (ds,y.2)
theorem Kl(h:RdE K te fe):RdI K (JD K te) (fIT fe):=by
 intro st σ H O Z R E items st' e q;refine bsP e fun r st1 e1 e=>?_;refine bsP e fun d st2 e2 e=>?_;refine bsO e fun ds e3 e=>?_;cases e;refine h st σ H O Z _ E r st1 e1 fun v H1 O1 x1 k1 E1 rv w1=>?_;obtain⟨O2,x2,k2,E2,da⟩:=rv.esc E1 e2;cases d with
 | tup ds' =>
  cases e3;cases da with
  | @tup a vs _ h1 h2 h3 =>
   refine⟨a,rfl,⟨vs,h1.sq⟩,q _ H1 O2 (x1.trans x2) (k1.trans k2) E2 fun H' O' ex _=>?_⟩;have da':=(DA.tup h1 h2 h3).ext ex;cases da' with
   | @tup _ ws _ g1 g2 g3 =>
    refine⟨fun i hi=>⟨ws,g1.sq,by lia⟩,fun i d hd=>?_⟩
    obtain⟨v,hv,hdv⟩:=El.at ⟨g2,g3⟩ hd;refine⟨⟨ws,v,g1.sq,hv⟩,fun x H'' hx=>?_⟩;obtain⟨rfl,hx⟩:=hx;have:=hx ws g1.sq;rw[hv]at this;cases this;exact⟨Same.refl _,hdv⟩
 | _=>cases e3
def rng(lo:Int)(n:Nat):List D:=(List.range n).map fun(i:Nat)=>D.int (lo+(i:Int))
def DX(h:(rng lo n)[i]?=some d):i<n/\d=.int (lo+i):=by
 unfold rng at h;rw[We]at h;by_cases hi:i<n
 ·rw[List.getElem?_range hi]at h;exact⟨hi,(Option.some.inj h).symm⟩
 ·rw[Xn (by simpa using hi)]at h;cases h
def gX(lo:Int)(n:Nat):(rng lo n).length=n:=by simp[rng]
def DY:Ma K Z (Itr lo n) (rng lo n) H O:=fun H' O' ex _=>by
 refine⟨fun i hi=>by rw[gX]at hi;exact hi,fun i d hd=>?_⟩
 obtain⟨h1,rfl⟩:=DX hd;refine⟨h1,fun x H'' hx=>?_⟩;obtain⟨rfl,rfl⟩:=hx;exact⟨Same.refl _,.int _⟩
def Km:List D->Option Int
 | [.int j]=>some j
 | _=>none
def qg(fa:FA):FI:=fun st=>(fa st).bind fun x=>(dU x.2 x.1).bind fun ds=>(Km ds).bind fun j=>if -(2 ^ 62)<=j/\j<2 ^ 62 then some (rng 0 j.toNat,x.2) else none
def lK(h:RdA K ta fa):RdI K (IF ta) (qg fa):=by
 intro st σ H O Z R E items st' e q;refine bsP e fun rs st1 e1 e=>?_;refine bsO e fun ds e2 e=>?_;refine bsO e fun j e3 e=>?_;obtain⟨hc,e⟩:=aT e;cases e;refine h st σ H O Z _ E rs _ e1 fun vs H1 O1 x1 k1 E1 rvs=>?_;have bs:=rvs.bas E1 e2;have ed:ds=[.int j]:=by
  unfold Km at e3;split at e3
  ·cases e3;rfl
  ·cases e3
 subst ed;cases bs with
 | cons b1 b2 =>
  cases b2;obtain rfl:=(show _=V.int j from b1);exact⟨j,rfl,hc.1,hc.2,q _ H1 O1 x1 k1 E1 DY⟩
def oF(x:Str):List D:=x.cps.toList.map fun c=>D.str ⟨#[c]⟩
def fIS(fe:FE):FI:=fun st=>(fe st).bind fun x=>match cont x.2 x.1 with
 | some (.str z)=>some (oF z,x.2)
 | _=>none
set_option tactic.hygienic true in
def Kn(h:RdE K te fe):RdI K (Kf te) (fIS fe):=by
 intro st σ H O Z R E items st' e q;refine bsP e fun r st1 e1 e=>?_;refine h st σ H O Z _ E r st1 e1 fun v H1 O1 x1 k1 E1 rv w1=>?_;dsimp only at e;split at e
 ·rename_i z ez
  cases e;have ev:v=.str z:=rv.ba E1 ez;refine⟨z,ev,q _ H1 O1 x1 k1 E1 fun H' O' ex _=>⟨fun i hi=>?_,fun i d hd=>?_⟩⟩
  ·show z.cps.size<=i;simpa[oF]using hi
  ·unfold oF at hd;rw[We]at hd;obtain⟨c,hc,rfl⟩:=Zg.mp hd;have hc':z.cps[i]?=some c:=by simpa using hc
   refine⟨(Array.getElem?_eq_some_iff.mp hc').1,fun x H'' hx=>?_⟩;obtain⟨rfl,c',h1,rfl⟩:=hx;rw[hc']at h1;cases h1;exact⟨Same.refl _,.str _⟩
 ·cases e
inductive Ot where
 | nx (st:En)|rt (r:Rs) (st:En)|bk (st:En)|ct (st:En)
abbrev FS:=En->Option Ot
def Out(K:Ab)(Z O:AS)(H:Hp)(st:En)(σ:St)(Dn:Ends):Ot->Prop
 | .nx st'=>∀σ' H' O',Ext O H O' H'->Kq st σ st' σ'->ER K st' σ' H' O' Z->Dn.nx σ' H'
 | .rt r st'=>∀v σ' H' O',Ext O H O' H'->Kq st σ st' σ'->ER K st' σ' H' O' Z->RVal K Z st' σ' H' O' v r->Fsh H v r->Dn.rt v H'
 | .bk st'=>∀σ' H' O',Ext O H O' H'->Kq st σ st' σ'->ER K st' σ' H' O' Z->Dn.bk σ' H'
 | .ct st'=>∀σ' H' O',Ext O H O' H'->Kq st σ st' σ'->ER K st' σ' H' O' Z->Dn.ct σ' H'
def RdS(K:Ab)(ts:TS)(F:FS):Prop:=∀(st:En)(σ:St)(H:Hp)(O Z:AS)(Dn:Ends),ER K st σ H O Z->∀o,F st=some o->Out K Z O H st σ Dn o->ts Dn σ H
theorem Out.trans(h:Out K Z O H st σ Dn o)(x:Ext O H O1 H1)(k:Kq st σ st1 σ'):Out K Z O1 H1 st1 σ' Dn o:=by
 cases o with
 | nx s=>exact fun σ2 H2 O2 x2 k2 E2=>h σ2 H2 O2 (x.trans x2) (k.trans k2) E2
 | bk s=>exact fun σ2 H2 O2 x2 k2 E2=>h σ2 H2 O2 (x.trans x2) (k.trans k2) E2
 | ct s=>exact fun σ2 H2 O2 x2 k2 E2=>h σ2 H2 O2 (x.trans x2) (k.trans k2) E2
 | rt r s=>exact fun v σ2 H2 O2 x2 k2 E2 rv w=>h v σ2 H2 O2 (x.trans x2) (k.trans k2) E2 rv (w.back x)
def bZ:FS:=fun st=>some (.nx st)
def bm:RdS K IC bZ:=by
 intro st σ H O Z Dn E o e q;cases e;exact q σ H O (Ext.refl _ _) (Kq.refl _ _) E
def aL(F G:FS):FS:=fun st=>(F st).bind fun o=>match o with
 | .nx s=>G s
 | o=>some o
theorem aD(h1:RdS K t F)(h2:RdS K u G):RdS K (LN t u) (aL F G):=by
 intro st σ H O Z Dn E o e q;refine bsO e fun o1 e1 e=>?_;refine h1 st σ H O Z _ E o1 e1 ?_;cases o1 with
 | nx s=>exact fun σ1 H1 O1 x1 k1 E1=>h2 s σ1 H1 O1 Z Dn E1 o e (q.trans x1 k1)
 | bk s=>cases e;exact q
 | ct s=>cases e;exact q
 | rt r s=>cases e;exact q
def cx(fe:FE):FS:=fun st=>(fe st).bind fun x=>some (.nx x.2)
def ck(h:RdE K te fe):RdS K (ID te) (cx fe):=by
 intro st σ H O Z Dn E o e q;refine bsP e fun r st1 e1 e=>?_;cases e;exact h st σ H O Z _ E r st1 e1 fun v H1 O1 x1 k1 E1 rv w1=>q σ H1 O1 x1 k1.kq E1
def bx(fe:FE):FS:=fun st=>(fe st).bind fun x=>some (.rt x.1 x.2)
def aM(h:RdE K te fe):RdS K (LO te) (bx fe):=by
 intro st σ H O Z Dn E o e q;refine bsP e fun r st1 e1 e=>?_;cases e;exact h st σ H O Z _ E r st1 e1 fun v H1 O1 x1 k1 E1 rv w1=>q v σ H1 O1 x1 k1.kq E1 rv w1
def sIf(f:FT)(F G:FS):FS:=fun st=>(f st).bind fun x=>if x.1=true then F x.2 else G x.2
theorem bX(hc:RdT K c f)(h1:RdS K t F)(h2:RdS K u G):RdS K (LP c t u) (sIf f F G):=by
 intro st σ H O Z Dn E o e q;refine bsP e fun b st1 e1 e=>?_;refine hc st σ H O Z _ E b st1 e1 fun H1 O1 x1 k1 E1=>?_;cases b with
 | true =>
  rw[Ae rfl]at e ⊢;exact h1 st1 σ H1 O1 Z Dn E1 o e (q.trans x1 k1.kq)
 | false =>
  simp only[Qe,if_false]at e ⊢;exact h2 st1 σ H1 O1 Z Dn E1 o e (q.trans x1 k1.kq)
def bi(fe:FE)(i:Nat):FS:=fun st=>(fe st).bind fun x=>match x.1 with
 | .d y=>(mB i (.v y) x.2).bind fun s=>some (.nx s)
 | .f y=>(mB i (.o y) x.2).bind fun s=>some (.nx s)
 | .s j=>(esc (.s j) x.2).bind fun y=>(mB i (.v y.1) y.2).bind fun s=>some (.nx s)
theorem aR(h:RdE K te fe):RdS K (vo te (ox i)) (bi fe i):=by
 intro st σ H O Z Dn E o e q;refine bsP e fun r st1 e1 e=>?_;refine h st σ H O Z _ E r st1 e1 fun v H1 O1 x1 k1 E1 rv w1=>?_;show Dn.nx (σ.set i (some v)) H1;cases r with
 | d y =>
  refine bsO e fun s e2 e=>?_;cases e;obtain⟨t,f1,f2,rfl⟩:=nY e2;exact q _ H1 O1 x1 (k1.kq.trans (rR f1 f2)) (E1.asg f1 rv)
 | f y =>
  refine bsO e fun s e2 e=>?_;cases e;obtain⟨t,f1,f2,rfl⟩:=nY e2;obtain⟨p,rfl,np,nz,ho,E2⟩:=rv;have hp:H p=none:=w1 p rfl;exact q _ H1 (ins p O1) ⟨x1.kp,fun b z=>z.elim (fun y=>by rw[y];exact .inr hp) (x1.nw b),x1.al,x1.lv⟩ (k1.kq.trans (rR f1 f2)) (E1.asgF E2 np f1 ho)
 | s j =>
  refine bsP e fun d st2 e2 e=>?_;refine bsO e fun s e3 e=>?_;cases e;obtain⟨O2,x2,k2,E2,da⟩:=rv.esc E1 e2;obtain⟨t,f1,f2,rfl⟩:=nY e3;exact q _ H1 O2 (x1.trans x2) ((k1.kq.trans k2.kq).trans (rR f1 f2)) (E2.asg f1 da)
end
end VF
namespace VF
open PySem L2
section
variable {K:Ab}{Y Y' O O' O1 O2 Z:AS}{H H' H1 H2:Hp}{v:V}{d:D}{vs:List V}{ds:List D}{a p:Addr}{st st' st1 st2:En}{σ σ':St}
def DZ(fe:FE)(fg:FG):FS:=fun st=>(fe st).bind fun x=>(esc x.1 x.2).bind fun y=>(fg y.1 y.2).bind fun s=>some (.nx s)
def Ko(h:RdE K te fe)(hg:RdG K g fg tg):RdS K (vo te g) (DZ fe fg):=by
 intro st σ H O Z Dn E o e q;refine bsP e fun r st1 e1 e=>?_;refine bsP e fun d st2 e2 e=>?_;refine bsO e fun s e3 e=>?_;cases e;refine h st σ H O Z _ E r st1 e1 fun v H1 O1 x1 k1 E1 rv w1=>?_;obtain⟨O2,x2,k2,E2,da⟩:=rv.esc E1 e2;exact hg st2 σ H1 O2 Z v d _ E2 da s e3 fun σ' _ k3 E3=>q σ' H1 O2 (x1.trans x2) ((k1.kq.trans k2.kq).trans k3) E3
def iE(fg:FG)(B:FS):List D->FS
 | [],st=>some (.nx st)
 | x::r,st=>(fg x st).bind fun s1=>(B s1).bind fun o=>match o with
  | .nx s2=>iE fg B r s2
  | .ct s2=>iE fg B r s2
  | .bk s2=>some (.nx s2)
  | .rt y s2=>some (.rt y s2)
def gz(fi:FI)(fg:FG)(B:FS):FS:=fun st=>(fi st).bind fun x=>iE fg B x.1 x.2
def eV(hi:RdI K wi fi)(hg:RdG K g fg tg)(hb:RdS K tb B):RdS K (LS wi g tb) (gz fi fg B):=by
 intro st σ H O Z Dn E o e q;refine bsP e fun items st1 e1 e=>?_;refine hi st σ H O Z _ E items st1 e1 fun J H1 O1 x1 k1 E1 it=>?_;have q1:=q.trans x1 (k1.kq (σ:=σ));refine⟨fun i m σ' H'=>m=items.length-i/\i<=items.length/\∃s O',Ext O1 H1 O' H'/\Kq st1 σ s σ'/\ER K s σ' H' O' Z/\iE fg B (items.drop i) s=some o,⟨items.length,by simp,Qk _,st1,O1,Ext.refl _ _,Kq.refl _ _,E1,e⟩,?_⟩
 rintro i m σ' H' ⟨rfl,hle,s,O',x2,k2,E2,e2⟩;obtain⟨stop,go⟩:=it H' O' x2 E2.liv;by_cases hlt:i<items.length
 ·right;have hd:items.drop i=items[i]::items.drop (i+1):=Vl hlt;rw[hd]at e2;refine bsO e2 fun s1 e3 e2=>?_;refine bsO e2 fun o1 e4 e2=>?_;obtain⟨g1,g2⟩:=go i _ (Za hlt);refine⟨g1,fun σ3 H3=>∃s O3,Ext O1 H1 O3 H3/\Kq st1 σ s σ3/\ER K s σ3 H3 O3 Z/\iE fg B (items.drop (i+1)) s=some o,fun σ3 H3 ⟨s3,O3,x3,k3,E3,e3'⟩=>⟨items.length-(i+1),by lia,rfl,hlt,s3,O3,x3,k3,E3,e3'⟩,fun x H'' hy=>?_⟩
  obtain⟨sm,da⟩:=g2 x H'' hy;have xm:Ext O' H' O' H'':=Same.ext sm;refine hg s σ' H'' O' Z x _ _ (E2.same sm) da s1 e3 fun σ4 _ k4 E4=>?_;refine hb s1 σ4 H'' O' Z _ E4 o1 e4 ?_;have xx:=x2.trans xm;cases o1 with
  | nx s2=>exact fun σ5 H5 O5 x5 k5 E5=>⟨s2,O5,xx.trans x5,(k2.trans k4).trans k5,E5,e2⟩
  | ct s2=>exact fun σ5 H5 O5 x5 k5 E5=>⟨s2,O5,xx.trans x5,(k2.trans k4).trans k5,E5,e2⟩
  | bk s2 =>
   cases e2;exact fun σ5 H5 O5 x5 k5 E5=>q1 σ5 H5 O5 (xx.trans x5) ((k2.trans k4).trans k5) E5
  | rt y s2 =>
   cases e2;exact fun v σ5 H5 O5 x5 k5 E5 rv w=>q1 v σ5 H5 O5 (xx.trans x5) ((k2.trans k4).trans k5) E5 rv (w.back xx)
 ·left;have hn:items.drop i=[]:=Dx (by lia)
  rw[hn]at e2;cases e2;exact⟨stop i (by lia),q1 σ' H' O' x2 k2 E2⟩
def sWh(f:FT)(B:FS):Nat->FS
 | 0,_=>none
 | n+1,st=>(f st).bind fun x=>if x.1=true then(B x.2).bind fun o=>match o with
   | .nx s2=>sWh f B n s2
   | .ct s2=>sWh f B n s2
   | .bk s2=>some (.nx s2)
   | .rt y s2=>some (.rt y s2)
  else some (.nx x.2)
theorem tV(n:Nat)(hc:RdT K c f)(hb:RdS K tb B):RdS K (zP c tb) (sWh f B n):=by
 intro st σ H O Z Dn E o e q;refine⟨fun m σ' H'=>∃s O',Ext O H O' H'/\Kq st σ s σ'/\ER K s σ' H' O' Z/\sWh f B m s=some o,⟨n,st,O,Ext.refl _ _,Kq.refl _ _,E,e⟩,?_⟩;rintro m σ' H' ⟨s,O',x2,k2,E2,e2⟩;cases m with
 | zero=>cases e2
 | succ m =>
  refine bsP e2 fun b s1 e3 e2=>?_;refine hc s σ' H' O' Z _ E2 b s1 e3 fun H3 O3 x3 k3 E3=>?_;have xx:=x2.trans x3;have kk:=k2.trans (k3.kq (σ:=σ'));cases b with
  | false =>
   simp only[Qe,if_false]at e2 ⊢;cases e2;exact q σ' H3 O3 xx kk E3
  | true =>
   rw[Ae rfl]at e2 ⊢;refine bsO e2 fun o1 e4 e2=>?_;refine⟨fun σ5 H5=>∃s O5,Ext O H O5 H5/\Kq st σ s σ5/\ER K s σ5 H5 O5 Z/\sWh f B m s=some o,fun σ5 H5 h=>⟨m,AT _,h⟩,?_⟩;refine hb s1 σ' H3 O3 Z _ E3 o1 e4 ?_;cases o1 with
   | nx s2=>exact fun σ5 H5 O5 x5 k5 E5=>⟨s2,O5,xx.trans x5,kk.trans k5,E5,e2⟩
   | ct s2=>exact fun σ5 H5 O5 x5 k5 E5=>⟨s2,O5,xx.trans x5,kk.trans k5,E5,e2⟩
   | bk s2 =>
    cases e2;exact fun σ5 H5 O5 x5 k5 E5=>q σ5 H5 O5 (xx.trans x5) (kk.trans k5) E5
   | rt y s2 =>
    cases e2;exact fun v σ5 H5 O5 x5 k5 E5 rv w=>q v σ5 H5 O5 (xx.trans x5) (kk.trans k5) E5 rv (w.back xx)
structure RdM(K:Ab)(T:String)(r:V->List V->Hp->VK->Prop)(ok:D->Bool)(m:D->List D->Option (D×D)):Prop where
 ty:∀(Y:AS)(H:Hp)(p:Addr)(x:D),OA K Y H p x->ok x=true->tyV K T (.ref p) H
 run:∀(Y:AS)(H:Hp)(p:Addr)(x:D)(vs:List V)(ds:List D)(y x':D)(Q:VK),Y p->OA K Y H p x->El K Y H vs ds->m x ds=some (y,x') ->
  (∀v o,DA K Y (upd H p o) v y->OA K Y (upd H p o) p x'->Q v (upd H p o))->r (.ref p) vs H Q
def fM(ok:D->Bool)(m:D->List D->Option (D×D))(i:Nat)(fa:FA):FE:=fun st=>(st[i]?).bind fun s0=>(s0.ow).bind fun x0=>if ok x0=true then(fa st).bind fun x=>(eG x.1 x.2).bind fun y=>(y.2[i]?).bind fun s=>(s.ow).bind fun d=>(m d y.1).bind fun z=>some (.d z.1,y.2.set i (s.put z.2)) else none
def gA(hm:RdM K T r ok m)(ha:RdA K ta fa):RdE K (tBM K T r (vn i) ta) (fM ok m i fa):=by
 intro st σ H O Z Q E r0 st' h q;refine bsO h fun s0 f1 h=>?_;refine bsO h fun x0 f2 h=>?_;obtain⟨hok,h⟩:=aT h;refine bsP h fun rs st1 e1 h=>?_;refine bsP h fun ds st2 e2 h=>?_;refine bsO h fun s e3 h=>?_;refine bsO h fun x e4 h=>?_;refine bsP h fun y x' e5 h=>?_;cases h;obtain⟨p,g1,g2,g3⟩:=E.own i s0 x0 f1 f2;refine⟨.ref p,g1,hm.ty _ _ _ _ g3 hok,?_⟩;refine ha st σ H O Z _ E rs st1 e1 fun vs H1 O1 x1 k1 E1 rvs=>?_;obtain⟨O2,x2,k2,E2,el⟩:=rvs.esc E1 e2;obtain⟨p',j1,j2,j3⟩:=E2.own i s x e3 e4;have ep:p'=p:=by rw[g1]at j1;cases j1;rfl
 subst ep;refine hm.run (U O2 Z) H1 p' x vs ds y x' _ (.inl j2) j3 el e5 fun v o da ho=>?_;obtain⟨E3,x3,k3⟩:=E2.write e3 e4 g1 ho;exact q v _ O2 ((x1.trans x2).trans x3) ((k1.trans k2).trans k3) E3 da True.intro
def D0(K:Ab)(t:GM)(m:D->D->D->Option D):Prop:=∀(Y:AS)(H:Hp)(p:Addr)(x:D)(k v:V)(dk dv x':D)(Q:Hp->Prop),Y p->OA K Y H p x->BA K Y H k dk->DA K Y H v dv->m x dk dv=some x' ->
 (∀o,OA K Y (upd H p o) p x'->Q (upd H p o))->t (.ref p) k v H Q
def oG(m:D->D->D->Option D)(fe:FE)(i:Nat)(fi:FE):FS:=fun st=>(fe st).bind fun x=>(esc x.1 x.2).bind fun y=>(y.2[i]?).bind fun s0=>(s0.ow).bind fun _=>(fi y.2).bind fun w=>(cont w.2 w.1).bind fun dk=>(w.2[i]?).bind fun s=>(s.ow).bind fun z=>(m z dk y.1).bind fun z'=>some (.nx (w.2.set i (s.put z')))
def jB(hm:D0 K t m)(he:RdE K te fe)(hi:RdE K ti fi):RdS K (vo te (LR (vn i) ti t)) (oG m fe i fi):=by
 intro st σ H O Z Dn E o e q;refine bsP e fun r st1 e1 e=>?_;refine bsP e fun dv st2 e2 e=>?_;refine bsO e fun s0 e3 e=>?_;refine bsO e fun x0 e4 e=>?_;refine bsP e fun rk st3 e5 e=>?_;refine bsO e fun dk e6 e=>?_;refine bsO e fun s e7 e=>?_;refine bsO e fun x e8 e=>?_;refine bsO e fun x' e9 e=>?_;cases e;refine he st σ H O Z _ E r st1 e1 fun v H1 O1 x1 k1 E1 rv w1=>?_;obtain⟨O2,x2,k2,E2,da⟩:=rv.esc E1 e2;obtain⟨p,g1,g2,g3⟩:=E2.own i s0 x0 e3 e4;refine⟨.ref p,g1,?_⟩;refine hi st2 σ H1 O2 Z _ E2 rk st3 e5 fun k H3 O3 x3 k3 E3 rk' w3=>?_;obtain⟨p',j1,j2,j3⟩:=E3.own i s x e7 e8;have ep:p'=p:=by rw[g1]at j1;cases j1;rfl
 subst ep;refine hm (U O3 Z) H3 p' x k v dk dv x' _ (.inl j2) j3 (rk'.ba E3 e6) (da.ext x3) e9 fun o ho=>?_;obtain⟨E4,x4,k4⟩:=E3.write e7 e8 g1 ho;exact q σ _ O3 (((x1.trans x2).trans x3).trans x4) (((k1.trans k2).trans k3).trans k4).kq E4
def kD(k:Nat)(caps:List Nat)(st:En):En:=List.replicate k Sl.e++caps.map fun i=>(st[i]?).getD .e
def rst(k:Nat)(s:En):En:=List.replicate k Sl.e++s.drop k
def wb:List Nat->En->En->En
 | i::r,s::sb,st=>wb r sb (st.set i s)
 | _,_,st=>st
def cG(fg:FG)(fc:FT)(fe:FE)(k:Nat):List D->En->Option (List D×En)
 | [],sb=>some ([],sb)
 | x::r,sb=>(fg x sb).bind fun s1=>(fc s1).bind fun c=>if c.1=true then(fe c.2).bind fun y=>(esc y.1 y.2).bind fun w=>(cG fg fc fe k r (rst k w.2)).bind fun z=>some (w.1::z.1,z.2)
  else cG fg fc fe k r (rst k c.2)
def rS(caps:List Nat)(n:Nat):Bool:=decide caps.Nodup&&caps.all fun i=>decide (i<n)
def cB(k:Nat)(caps:List Nat)(fi:FI)(fg:FG)(fc:FT)(fe:FE):FE:=fun st=>(fi st).bind fun x=>if (rS caps x.2.length&&decide (x.1.length<=1000000))=true then(cG fg fc fe k x.1 (kD k caps x.2)).bind fun y=>some (.f (.lst y.1),wb caps (y.2.drop k) x.2) else none
theorem vF:∀(caps:List Nat)(sb st:En),(wb caps sb st).length=st.length
 | [],_,_=>by simp[wb]
 | _::_,[],_=>by simp[wb]
 | i::r,s::sb,st=>by rw[wb,vF r sb];simp
theorem oH:∀(caps:List Nat)(sb st:En){i:Nat},i∉caps->(wb caps sb st)[i]?=st[i]?
 | [],_,_,_,_=>by simp[wb]
 | _::_,[],_,_,_=>by simp[wb]
 | j::r,s::sb,st,i,h=>by
  rw[wb,oH r sb _ (fun z=>h (Vb _ z))];exact aJ fun z=>h (by rw[z];simp)
theorem D1:∀(caps:List Nat)(sb st:En){j i:Nat},caps.Nodup->sb.length=caps.length->caps[j]?=some i->i<st.length->(wb caps sb st)[i]?=sb[j]?
 | [],_,_,_,_,_,_,h,_=>by simp at h
 | _::_,[],_,_,_,_,h,_,_=>by simp at h
 | c::r,s::sb,st,0,i,nd,hl,h,hi=>by
  have e:c=i:=by simpa using h
  subst e;rw[wb,oH r sb _ (Zi.mp nd).1];rw[AN,Ae rfl,Ae hi];rfl
 | c::r,s::sb,st,j+1,i,nd,hl,h,hi=>by
  rw[wb,D1 r sb _ (j:=j) (Zi.mp nd).2 (by simpa using hl) (by simpa using h) (by simpa using hi)];rfl
def wV(h:caps[j]?=some i):(kD k caps st)[k+j]?=some ((st[i]?).getD .e):=by
 unfold kD;rw[Ye (by simp),Qh,Dl,We,h];rfl
def lL{s:Sl}(h:(kD k caps st)[i]?=some s)(n:s.get≠none):∃j i',i=k+j/\caps[j]?=some i'/\st[i']?=some s:=by
 unfold kD at h;by_cases hi:i<k
 ·rw[Xf (by simpa using hi),Yj,Ae hi]at h
  cases h;exact absurd rfl n
 ·rw[Ye (by simpa using hi),Qh,We]at h
  refine⟨i-k,?_⟩;obtain⟨i',e1,e2⟩:=Zg.mp h;refine⟨i',by lia,e1,?_⟩
  cases q:st[i']? with
  | none=>rw[q]at e2;subst e2;exact absurd rfl n
  | some t=>rw[q]at e2;subst e2;rfl
def kN(h:caps[j]?=some i):(blk k caps σ)[k+j]?=some ((σ[i]?).getD none):=by
 unfold blk;rw[Ye (by simp),Qh,Dl,We,h];rfl
def jC{s:Sl}(h:s.ow=some d):s.get≠none:=by cases s<;>first|(cases h;done)|simp[Sl.get]
def D2{l:List Nat}{j j' i:Nat}(nd:l.Nodup)(h:l[j]?=some i)(h':l[j']?=some i):j=j':=by
 obtain⟨h1,h2⟩:=Qb.mp h;obtain⟨h3,h4⟩:=Qb.mp h';exact(List.getElem_inj nd).mp (h2.trans h4.symm)
def Ob(caps:List Nat)(st:En)(σ:St):AS:=fun p=>∃i∈caps,∃s d,st[i]?=some s/\s.ow=some d/\σ[i]?=some (some (.ref p))
def Zb(caps:List Nat)(st:En)(σ:St)(O Z:AS):AS:=fun p=>Z p∨(O p/\¬ Ob caps st σ p)
def Ob.o(E:ER K st σ H O Z)(h:Ob caps st σ q):O q:=by
 obtain⟨i,_,s,d,h1,h2,h3⟩:=h;obtain⟨p,g1,g2,_⟩:=E.own i s d h1 h2;rw[h3]at g1;cases g1;exact g2
def Kr{k:Nat}{caps:List Nat}(E:ER K st σ H O Z)(nd:caps.Nodup):ER K (kD k caps st) (blk k caps σ) H (Ob caps st σ) (Zb caps st σ O Z):=by
 have up:∀b,U (Ob caps st σ) (Zb caps st σ O Z) b->U O Z b:=fun b z=>z.elim (fun y=>.inl (Ob.o E y)) fun y=>y.elim .inr fun w=>.inl w.1;refine⟨by simp[kD,blk],fun i d h=>?_,fun i s d h1 h2=>?_,fun i j s t d d' p h1 h2 h3 h4 h5 h6=>?_,fun p h z=>?_,fun p h=>E.liv p (up p h)⟩
 ·obtain⟨j,i',rfl,hc,hs⟩:=lL h (by simp[Sl.get])
  obtain⟨v,g1,g2⟩:=E.val i' d hs;exact⟨v,by rw[kN hc,g1];rfl,g2.less up⟩
 ·obtain⟨j,i',rfl,hc,hs⟩:=lL h1 (jC h2);obtain⟨p,g1,g2,g3⟩:=E.own i' s d hs h2;exact⟨p,by rw[kN hc,g1];rfl,⟨i',Yb hc,s,d,hs,h2,g1⟩,g3.go rfl (fun _ _ e _=>e) fun b z=>.inl (up b z)⟩
 ·obtain⟨j1,i1,rfl,c1,s1⟩:=lL h1 (jC h2);obtain⟨j2,i2,rfl,c2,s2⟩:=lL h3 (jC h4);obtain⟨p1,g1,_⟩:=E.own i1 s d s1 h2;obtain⟨p2,g2,_⟩:=E.own i2 t d' s2 h4;rw[kN c1,g1]at h5;rw[kN c2,g2]at h6;have e1:p1=p:=by simpa using h5
  have e2:p2=p:=by simpa using h6
  subst e1;subst e2;have e:=E.uni i1 i2 s t d d' _ s1 h2 s2 h4 g1 g2;subst e;rw[D2 nd c1 c2]
 ·rcases z with z|z
  ·exact E.dis p (Ob.o E h) z
  ·exact z.2 h
def D3{τ τ':St}(E:ER K st τ H O Z)(hl:τ'.length=τ.length)(hk:k<=st.length)(h:∀j,k<=j->τ'[j]?=τ[j]?):ER K (rst k st) τ' H O Z:=by
 have at_:∀(i:Nat) s,(rst k st)[i]?=some s->s.get≠none->k<=i/\st[i]?=some s:=fun i s e n=>by
  unfold rst at e;by_cases hi:i<k
  ·rw[Xf (by simpa using hi),Yj,Ae hi]at e
   cases e;exact absurd rfl n
  ·rw[Ye (by simpa using hi),Qh,Qf]at e
   have:k+(i-k)=i:=by lia
   rw[this]at e;exact⟨by lia,e⟩
 refine⟨?_,fun i d e=>?_,fun i s d e1 e2=>?_,fun i j s t d d' p e1 e2 e3 e4 e5 e6=>?_,E.dis,E.liv⟩
 ·rw[hl,← E.len];simp[rst];lia
 ·obtain⟨hk,e⟩:=at_ i _ e (by simp[Sl.get])
  obtain⟨v,g1,g2⟩:=E.val i d e;exact⟨v,by rw[h i hk];exact g1,g2⟩
 ·obtain⟨hk,e⟩:=at_ i _ e1 (jC e2);obtain⟨p,g1,g2⟩:=E.own i s d e e2;exact⟨p,by rw[h i hk];exact g1,g2⟩
 ·obtain⟨hk1,e1⟩:=at_ i _ e1 (jC e2);obtain⟨hk2,e3⟩:=at_ j _ e3 (jC e4);rw[h i hk1]at e5;rw[h j hk2]at e6;exact E.uni i j s t d d' p e1 e2 e3 e4 e5 e6
def Oo(caps:List Nat)(st:En)(σ:St)(O Oi:AS):AS:=fun p=>Oi p∨(O p/\¬ Ob caps st σ p)
def vG(E:ER K st σ H O Z)(x:Ext (Ob caps st σ) H Oi H'):Ext O H (Oo caps st σ O Oi) H' :=
 ⟨fun b o e n=>x.kp b o e fun z=>n (Ob.o E z),fun b z=>z.elim (fun y=>(x.nw b y).elim (fun w=>.inl (Ob.o E w)) .inr) fun y=>.inl y.1,x.al,x.lv⟩
def D4{caps:List Nat}{sb:En}(E:ER K st σ H O Z)(nd:caps.Nodup)(lt:∀i∈caps,i<st.length)(hl:sb.length=k+caps.length)(x:Ext (Ob caps st σ) H Oi H')(B:ER K sb (blk k caps σ) H' Oi (Zb caps st σ O Z)) :
  ER K (wb caps (sb.drop k) st) σ H' (Oo caps st σ O Oi) Z:=by
 have dl:(sb.drop k).length=caps.length:=by rw[Vf];lia
 have cap:∀(j i:Nat),caps[j]?=some i->(wb caps (sb.drop k) st)[i]?=sb[k+j]?:=fun j i h=>by
  rw[D1 caps _ st nd dl h (lt i (Yb h)),Qf]
 have out:∀i,i∉caps->(wb caps (sb.drop k) st)[i]?=st[i]?:=fun i h=>oH caps _ st h;have same:∀b,U (Oo caps st σ O Oi) Z b->U Oi (Zb caps st σ O Z) b:=fun b z=>by
  rcases z with(z|z)|z
  ·exact .inl z
  ·exact .inr (.inr z)
  ·exact .inr (.inl z)
 have kp:∀b o,H b=some o->¬ U O Z b->H' b=some o:=fun b o e n=>x.kp b o e fun z=>n (.inl (Ob.o E z));have nn:∀b,U (Oo caps st σ O Oi) Z b->U O Z b∨H b=none:=fun b z=>by
  rcases z with z|z
  ·exact((vG E x).nw b z).elim (fun y=>.inl (.inl y)) .inr
  ·exact .inl (.inr z)
 have nob:∀(i:Nat) s d p,i∉caps->st[i]?=some s->s.ow=some d->σ[i]?=some (some (.ref p))->¬ Ob caps st σ p:=fun i s d p hn h1 h2 h3 z=>by
  obtain⟨i0,hm,s0,d0,g1,g2,g3⟩:=z;have:=E.uni i i0 s s0 d d0 p h1 h2 g1 g2 h3 g3;subst this;exact hn hm
 have bget:∀{j i:Nat}{v:V},caps[j]?=some i->(blk k caps σ)[k+j]?=some (some v)->σ[i]?=some (some v):=fun {j i v} hc hb=>by
  rw[kN hc]at hb;have hb':=Option.some.inj hb;cases q:σ[i]? with
  | none=>rw[q]at hb';cases hb'
  | some w=>rw[q]at hb';have:w=some v:=hb';rw[this]
 have own:∀(i:Nat) s d,(wb caps (sb.drop k) st)[i]?=some s->s.ow=some d->(∃j,caps[j]?=some i/\sb[k+j]?=some s)∨(i∉caps/\st[i]?=some s):=fun i s d h1 _=>by
  by_cases hc:i∈caps
  ·obtain⟨j,hj⟩:=AQ hc;rw[cap j i hj]at h1;exact .inl ⟨j,hj,h1⟩
  ·rw[out i hc]at h1;exact .inr ⟨hc,h1⟩
 refine⟨by rw[vF];exact E.len,fun i d h=>?_,fun i s d h1 h2=>?_,fun i j s t d d' p h1 h2 h3 h4 h5 h6=>?_,fun p h=>?_,fun p h=>?_⟩
 ·by_cases hc:i∈caps
  ·obtain⟨j,hj⟩:=AQ hc;rw[cap j i hj]at h;obtain⟨v,g1,g2⟩:=B.val _ d h;exact⟨v,bget hj g1,g2.less same⟩
  ·rw[out i hc]at h;obtain⟨v,g1,g2⟩:=E.val i d h;exact⟨v,g1,g2.go kp nn⟩
 ·rcases own i s d h1 h2 with⟨j,hj,hs⟩|⟨hc,hs⟩
  ·obtain⟨p,g1,g2,g3⟩:=B.own _ s d hs h2;exact⟨p,bget hj g1,.inl g2,g3.go rfl (fun _ _ e _=>e) fun b z=>.inl (same b z)⟩
  ·obtain⟨p,g1,g2,g3⟩:=E.own i s d hs h2;have nb:=nob i s d p hc hs h2 g1;refine⟨p,g1,.inr ⟨g2,nb⟩,g3.go ?_ kp nn⟩;cases q:H p with
   | none=>exact absurd q g3.live
   | some o=>exact x.kp p o q nb
 ·rcases own i s d h1 h2 with⟨j1,c1,s1⟩|⟨c1,s1⟩<;>rcases own j t d' h3 h4 with⟨j2,c2,s2⟩|⟨c2,s2⟩
  ·have e:=B.uni _ _ s t d d' p s1 h2 s2 h4 (by rw[kN c1,h5];rfl) (by rw[kN c2,h6];rfl)
   have e':j1=j2:=by lia
   subst e';rw[c1]at c2;exact Option.some.inj c2
  ·exfalso
   obtain⟨q,g1,g2,_⟩:=B.own _ s d s1 h2;have:=bget c1 g1;rw[h5]at this;cases this;have nb:=nob j t d' p c2 s2 h4 h6;obtain⟨q2,k1,_,k3⟩:=E.own j t d' s2 h4;rw[h6]at k1;cases k1;exact(x.nw p g2).elim nb k3.live
  ·exfalso
   obtain⟨q,g1,g2,_⟩:=B.own _ t d' s2 h4;have:=bget c2 g1;rw[h6]at this;cases this;have nb:=nob i s d p c1 s1 h2 h5;obtain⟨q2,k1,_,k3⟩:=E.own i s d s1 h2;rw[h5]at k1;cases k1;exact(x.nw p g2).elim nb k3.live
  ·exact E.uni i j s t d d' p s1 h2 s2 h4 h5 h6
 ·rcases h with h|h
  ·exact fun z=>B.dis p h (.inl z)
  ·exact E.dis p h.1
 ·rcases h with(h|h)|h
  ·exact B.liv p (.inl h)
  ·exact x.lv p (E.liv p (.inl h.1))
  ·exact x.lv p (E.liv p (.inr h))
def D5{a b:En}(h0:∀(i:Nat) s,a[i]?=some s->i<k->s=.e)(h:Kp a b)(hk:k<=b.length):Kp a (rst k b):=by
 have lk:(rst k b).length=b.length:=by simp[rst];lia
 have at_:∀i,k<=i->(rst k b)[i]?=b[i]?:=fun i hi=>by
  unfold rst;rw[Ye (by simpa using hi),Qh,Qf]
  congr 1;lia
 refine⟨lk.trans h.len,fun i s e g=>?_,fun i d e=>?_⟩
 ·by_cases hi:i<k
  ·have:=h0 i s e hi;subst this;exact absurd rfl g
  ·obtain⟨s',e',g'⟩:=h.has i s e g;exact⟨s',by rw[at_ i (by lia)];exact e',g'⟩
 ·by_cases hi:i<k
  ·have:=h0 i _ e hi;cases this
  ·obtain⟨d',e'⟩:=h.io i d e;exact⟨d',by rw[at_ i (by lia)];exact e'⟩
def Mb{caps:List Nat}{sb:En}(nd:caps.Nodup)(lt:∀i∈caps,i<st.length)(hl:sb.length=k+caps.length)(h:Kp (kD k caps st) sb):Kp st (wb caps (sb.drop k) st):=by
 have dl:(sb.drop k).length=caps.length:=by rw[Vf];lia
 have cap:∀(j i:Nat),caps[j]?=some i->(wb caps (sb.drop k) st)[i]?=sb[k+j]?:=fun j i h=>by
  rw[D1 caps _ st nd dl h (lt i (Yb h)),Qf]
 refine⟨vF _ _ _,fun i s e g=>?_,fun i d e=>?_⟩
 ·by_cases hc:i∈caps
  ·obtain⟨j,hj⟩:=AQ hc;rw[cap j i hj];exact h.has (k+j) s (by rw[wV hj,e];rfl) g
  ·exact⟨s,by rw[oH _ _ _ hc];exact e,g⟩
 ·by_cases hc:i∈caps
  ·obtain⟨j,hj⟩:=AQ hc;rw[cap j i hj];exact h.io (k+j) d (by rw[wV hj,e];rfl)
  ·exact⟨d,by rw[oH _ _ _ hc];exact e⟩
def rT(i:Nat)(s:Sl)(h:(kD k caps st)[i]?=some s)(hi:i<k):s=.e:=by
 unfold kD at h;rw[Xf (by simpa using hi),Yj,Ae hi]at h
 exact(Option.some.inj h).symm
def ItC(K:Ab)(Z:AS)(caps:List Nat)(st:En)(σ:St)(J:It)(items:List D)(H:Hp)(O:AS):Prop:=∀H' Oi,Ext (Ob caps st σ) H Oi H'->(∀p,U (Oo caps st σ O Oi) Z p->Lv H' p)->(∀i,items.length<=i->J.stop i H')/\∀(i:Nat) d,items[i]?=some d->J.go i H'/\∀x H'',J.yld i H' x H''->Same H' H''/\DA K (U (Oo caps st σ O Oi) Z) H'' x d
def Mc(K:Ab)(caps:List Nat)(wi:TI)(fi:FI):Prop:=∀(st:En)(σ:St)(H:Hp)(O Z:AS)(R:It->Hp->Prop),ER K st σ H O Z->∀items st',fi st=some (items,st') ->
 (∀J H' O',Ext O H O' H'->Kp st st'->ER K st' σ H' O' Z->ItC K Z caps st' σ J items H' O'->R J H')->wi σ H R
def RdI.ic(h:RdI K wi fi):Mc K caps wi fi:=fun st σ H O Z R E items st' e q =>
 h st σ H O Z R E items st' e fun J H1 O1 x1 k1 E1 it=>q J H1 O1 x1 k1 E1 fun H' Oi x2 lv=>it H' _ (vG E1 x2) lv
def D6(hi:Mc K caps wi fi)(hg:RdG K g fg tg)(ht:∀j∈tg,j<k)(hc:RdT K tc fc)(he:RdE K te fe) :
  RdE K (qC k caps wi g tc te) (cB k caps fi fg fc fe):=by
 intro st σ H O Z Q E r st' h q;refine bsP h fun items st1 e1 h=>?_;by_cases hok:(rS caps st1.length&&decide (items.length<=1000000))=true
 rotate_left
 ·simp only[Ak hok]at h;cases h
 simp only[Ae hok]at h;refine bsP h fun total sf e2 h=>?_;cases h;have hok1:caps.Nodup/\(∀i∈caps,i<st1.length)/\items.length<=1000000:=by
  rw[Xh,decide_eq_true_eq]at hok;unfold rS at hok;rw[Xh,decide_eq_true_eq,Xk]at hok;exact⟨hok.1.1,fun i hi=>Am (hok.1.2 i hi),hok.2⟩
 obtain⟨nd,lt,hfew⟩:=hok1;refine hi st σ H O Z _ E items st1 e1 fun J H1 O1 x1 k1 E1 it=>?_;have bl:(blk k caps σ).length=k+caps.length:=by simp[blk]
 have el:(kD k caps st1).length=k+caps.length:=by simp[kD]
 refine⟨items.length,fun i xs H'=>∃sb Oi ds ds2,Ext (Ob caps st1 σ) H1 Oi H'/\ER K sb (blk k caps σ) H' Oi (Zb caps st1 σ O1 Z)/\El K (U Oi (Zb caps st1 σ O1 Z)) H' xs ds/\cG fg fc fe k (items.drop i) sb=some (ds2,sf)/\ds++ds2=total/\Kp (kD k caps st1) sb/\xs.length<=i,
  ⟨kD k caps st1,Ob caps st1 σ,[],total,Ext.refl _ _,Kr E1 nd,El.nil,e2,rfl,Kp.refl _,Qa _⟩,?_,?_⟩
 ·rintro xs H' ⟨sb,Oi,ds,ds2,x2,B,exs,e3,ed,kb,_⟩;rw[Dx (Qa _)]at e3;obtain⟨rfl,rfl⟩:([]:List D)=ds2/\sb=sf:=by
   have:=Option.some.inj e3;exact⟨congrArg Prod.fst this,congrArg Prod.snd this⟩
  rw[Vc]at ed;subst ed;obtain⟨stop,_⟩:=it H' Oi x2 (D4 E1 nd lt (kb.len.trans el) x2 B).liv;refine⟨stop _ (Qa _),fun p hp=>?_⟩;have sl:sb.length=k+caps.length:=kb.len.trans el;have Eo:=D4 E1 nd lt sl x2 B;have ko:=Mb nd lt sl kb;have el2:El K (U (Oo caps st1 σ O1 Oi) Z) H' xs ds:=exs.less fun b z=>by
   rcases z with(z|z)|z
   ·exact .inl z
   ·exact .inr (.inr z)
   ·exact .inr (.inl z)
  obtain⟨E3,rv⟩:=Eo.new hp el2;have xx:=x1.trans (vG E1 x2);exact q _ _ _ (xx.trans (Same.ext (br hp _))) (k1.trans ko) E3 rv fun p' e=>by cases e;exact xx.dead hp
 ·rintro i xs H' hlt ⟨sb,Oi,ds,ds2,x2,B,exs,e3,ed,kb,hxl⟩;have hd:items.drop i=items[i]::items.drop (i+1):=Vl hlt;rw[hd]at e3;refine bsO e3 fun s1 e4 e3=>?_;refine bsP e3 fun c s2 e5 e3=>?_;obtain⟨_,go⟩:=it H' Oi x2 (D4 E1 nd lt (kb.len.trans el) x2 B).liv;obtain⟨g1,g2⟩:=go i _ (Za hlt);refine⟨g1,Zn hxl (Qc hlt (few hfew)),fun x H'' hy=>?_⟩;obtain⟨sm,da⟩:=g2 x H'' hy;have xm:Ext Oi H' Oi H'':=Same.ext sm;have da':DA K (U Oi (Zb caps st1 σ O1 Z)) H'' x items[i]:=da.less fun b z=>by
   rcases z with z|z|z
   ·exact .inl (.inl z)
   ·exact .inr z
   ·exact .inl (.inr z)
  refine hg sb _ H'' Oi _ x _ _ (B.same sm) da' s1 e4 fun τ kt kq3 E4=>?_;have sl:sb.length=k+caps.length:=kb.len.trans el;have tl:τ.length=(blk k caps σ).length:=by rw[← E4.len,kq3.len,sl,bl]
  have tk:∀j,k<=j->(blk k caps σ)[j]?=τ[j]?:=fun j hj=>((kt j fun z=>absurd (ht j z) (by lia)).1).symm
  have drop:τ.drop k=(blk k caps σ).drop k:=by
   refine List.ext_getElem? fun j=>?_;rw[Qf,Qf];exact(tk _ (by lia)).symm
  have kp1:Kp (kD k caps st1) s1:=by
   refine⟨kq3.len.trans kb.len,fun j s e g=>?_,fun j d e=>?_⟩
   ·by_cases hj:j<k
    ·have:=rT j s e hj;subst this;exact absurd rfl g
    ·obtain⟨s',e',g'⟩:=kb.has j s e g;exact⟨s',by rw[(kt j fun z=>absurd (ht j z) (by lia)).2];exact e',g'⟩
   ·by_cases hj:j<k
    ·have:=rT j _ e hj;cases this
    ·obtain⟨d',e'⟩:=kb.io j d e;exact⟨d',by rw[(kt j fun z=>absurd (ht j z) (by lia)).2];exact e'⟩
  refine hc s1 τ H'' Oi _ _ E4 c s2 e5 fun H3 O3 x3 k3 E5=>?_;have kp2:=kp1.trans k3;cases c with
  | false =>
   simp only[Qe,if_false]at e3 ⊢;have hs2:k<=s2.length:=by rw[kp2.len,el];lia
   exact⟨drop,rst k s2,O3,ds,ds2,(x2.trans xm).trans x3,D3 E5 tl.symm hs2 tk,exs.ext (xm.trans x3),e3,ed,D5 rT kp2 hs2,by lia⟩
  | true =>
   rw[Ae rfl]at e3 ⊢;refine bsP e3 fun ry s3 e6 e3=>?_;refine bsP e3 fun dy s4 e7 e3=>?_;refine bsP e3 fun ds3 sf' e8 e3=>?_;cases e3;refine he s2 τ H3 O3 _ _ E5 ry s3 e6 fun y H4 O4 x4 k4 E6 rv w=>?_;obtain⟨O5,x5,k5,E7,day⟩:=rv.esc E6 e7;have kp3:=(kp2.trans k4).trans k5;have hs4:k<=s4.length:=by rw[kp3.len,el];lia
   refine⟨drop,rst k s4,O5,ds++[dy],ds3,(((x2.trans xm).trans x3).trans x4).trans x5,D3 E7 tl.symm hs4 tk,(exs.ext (((xm.trans x3).trans x4).trans x5)).app (El.one day),e8,by rw[Yc];exact ed,D5 rT kp3 hs4,by simp;lia⟩
def bV(hi:RdI K wi fi)(hg:RdG K g fg tg)(ht:∀j∈tg,j<k)(hc:RdT K tc fc)(he:RdE K te fe) :
  RdE K (qC k caps wi g tc te) (cB k caps fi fg fc fe):=D6 hi.ic hg ht hc he
def iQ(n:Nat)(ds:List D):En:=ds.map Sl.v++List.replicate (n-ds.length) Sl.e
def Ks(st:En):Rs->Option Rz
 | .d x=>some (x,false)
 | .f x=>some (x,true)
 | .s i=>match st[i]? with
  | some (.o x)=>some (x,true)
  | some (.v x)=>some (x,false)
  | _=>none
def fin:Ot->Option Rz
 | .nx _=>some (.non,false)
 | .rt r st=>Ks st r
 | _=>none
def bC(F:FS)(n m:Nat):List D->Option Rz:=fun ds=>if ds.length=m then(F (iQ n ds)).bind fin else none
def D7{N:List Str}(el:El K Z H vs ds)(lv:∀p,Z p->Lv H p):ER K (iQ N.length ds) (L2.start N vs) H (fun _=>False) Z:=by
 have gv:∀(i:Nat) s,(iQ N.length ds)[i]?=some s->s.get≠none->∃d,s=.v d/\ds[i]?=some d:=fun i s e n=>by
  unfold iQ at e;by_cases hi:i<ds.length
  ·rw[Xf (by simpa using hi),We]at e
   obtain⟨d,h1,h2⟩:=Zg.mp e;exact⟨d,h2.symm,h1⟩
  ·rw[Ye (by simpa using hi),Yj]at e
   by_cases hz:i-(ds.map Sl.v).length<N.length-ds.length
   ·rw[Ae hz]at e;cases e;exact absurd rfl n
   ·rw[Ak hz]at e;cases e
 have no:∀(i:Nat) s d,(iQ N.length ds)[i]?=some s->s.ow=some d->False:=fun i s d e h=>by
  obtain⟨x,rfl,_⟩:=gv i s e (jC h);cases h
 refine⟨by simp[iQ,L2.start,el.1],fun i d e=>?_,fun i s d e h=>(no i s d e h).elim,fun i j s t d d' p e h=>(no i s d e h).elim,fun p h=>h.elim,fun p h=>h.elim (fun z=>z.elim) (lv p)⟩
 obtain⟨x,h1,h2⟩:=gv i _ e (by simp[Sl.get])
 cases h1;obtain⟨v,g1,g2⟩:=el.at h2;refine⟨v,?_,g2.less fun b z=>z.elim (fun y=>y.elim) fun y=>y⟩;unfold L2.start;have hi:=(Qb.mp g1).1;rw[Xf (by simpa using hi),We,g1];rfl
def G7{N:List Str}(h:RdS K ts F)(sp:spV K (bC F N.length m) vs H Q XE):ts { nx:=fun _ H'=>Q .non H',rt:=Q } (L2.start N vs) H:=by
 obtain⟨Z,ds,z,el,lv,e,q⟩:=sp;have hm:ds.length=m:=by
  by_cases hm:ds.length=m
  ·exact hm
  ·simp only[bC,Ak hm]at e;cases e
 simp only[bC,Ae hm]at e;refine bsO e fun o e1 e2=>?_;have same:∀{O':AS}{H':Hp},Ext (fun _=>False) H O' H'->Same H H':=fun {O' H'} x b o e=>x.kp b o e fun z=>z;refine h _ _ H _ Z _ (D7 el lv) o e1 ?_;cases o with
 | nx s =>
  cases e2;exact fun σ' H' O' x _ _=>q .non H' (same x) .non
 | bk s=>cases e2
 | ct s=>cases e2
 | rt r s =>
  intro v σ' H' O' x k E rv w;have sub:∀b,Z b->U O' Z b:=fun b z=>.inr z;cases r with
  | d y=>cases e2;exact q v H' (same x) (DA.less (show DA K (U O' Z) H' v y from rv) sub)
  | f y =>
   cases e2;obtain⟨p,rfl,h1,h2,h3,_⟩:=rv;exact q _ H' (same x) ⟨p,rfl,w p rfl,h3.go rfl (fun _ _ e _=>e) fun b z=>.inl (z.elim .inl fun y=>.inr (.inr y))⟩
  | s i =>
   obtain⟨h1,t,h2,h3⟩:=rv
   have e2':(match s[i]? with
    | some (.o x)=>some (x,true)
    | some (.v x)=>some (x,false)
    | _=>none)=some z:=e2
   rw[h2]at e2';cases t with
   | e=>cases e2'
   | io y=>cases e2'
   | v y =>
    cases e2';obtain⟨u,g1,g2⟩:=E.val i y h2;rw[h1]at g1;cases g1;exact q v H' (same x) (g2.less sub)
   | o y =>
    cases e2';obtain⟨p,g1,g2,g3⟩:=E.own i _ y h2 rfl;rw[h1]at g1;cases g1;refine q _ H' (same x) ⟨p,rfl,(x.nw p g2).elim (fun z=>z.elim) (fun z=>z),g3.go rfl (fun _ _ e _=>e) fun b z=>.inl (z.elim (fun y=>.inl (by rw[y];exact g2)) fun y=>.inr y)⟩
def ii(n:Nat)(x:D)(ds:List D):En:=Sl.io x::(ds.map Sl.v++List.replicate (n-(ds.length+1)) Sl.e)
def yH(z:Option Rz)(st:En):Option (Rz×D):=match st[0]? with
 | some (Sl.io x)=>z.bind fun y=>some (y,x)
 | _=>none
def IW:Ot->Option (Rz×D)
 | .nx st=>yH (some (.non,false)) st
 | .rt r st=>yH (Ks st r) st
 | _=>none
def dA(F:FS)(n m:Nat):D->List D->Option (Rz×D):=fun x ds=>if ds.length+1=m then(F (ii n x ds)).bind IW else none
def yI{N : List Str}(nz : ¬ Z f)(ho : OA K (ins f Z) H f x)(el : El K (ins f Z) H ws ds)(lv : ∀ p, Z p → Lv H p) : ER K (ii N.length x ds) (L2.start N (.ref f :: ws)) H (fun b => b = f) Z := by
  have gv : ∀ (i : Nat) s, (ii N.length x ds)[i]? = some s → s.get ≠ none → (i = 0 ∧ s = .io x) ∨ ∃ j d, i = j + 1 ∧ s = .v d ∧ ds[j]? = some d := fun i s e n => by
    cases i with
    | zero => left; exact ⟨rfl, by have : Sl.io x = s := by simpa [ii] using e
                                   exact this.symm⟩
    | succ j =>
      right;have e : (ds.map Sl.v ++ List.replicate (N.length - (ds.length + 1)) Sl.e)[j]? = some s := by simpa [ii] using e
      by_cases hi : j < ds.length
      · rw [BB (by simpa using hi), CO] at e
        obtain ⟨d, h1, h2⟩ := Option.map_eq_some_iff.mp e;exact ⟨j, d, rfl, h2.symm, h1⟩
      · rw [Dd (by simpa using hi), Dm] at e
        by_cases hz : j - (ds.map Sl.v).length < N.length - (ds.length + 1)
        · rw [Ae hz] at e; cases e; exact absurd rfl n
        · rw [Ak hz] at e; cases e
  have s0 : (L2.start N (.ref f :: ws))[0]? = some (some (.ref f)) := by simp [L2.start]
  have own0 : ∀ (i : Nat) s d, (ii N.length x ds)[i]? = some s → s.ow = some d → i = 0 ∧ d = x := fun i s d e h => by
    rcases gv i s e (jC h) with ⟨h1, rfl⟩ | ⟨j, d', _, rfl, _⟩
    · cases h; exact ⟨h1, rfl⟩
    · cases h
  refine ⟨by simp [ii, L2.start, el.1], fun i d e => ?_, fun i s d e h => ?_, fun i j s t d d' p e h e' h' _ _ => ?_, fun p h => by rw [h]; exact nz, fun p h => ?_⟩
  · rcases gv i _ e (by simp [Sl.get]) with ⟨_, h⟩ | ⟨j, d', rfl, h, h2⟩
    · cases h
    · cases h
      obtain ⟨v, g1, g2⟩ := el.at h2;refine ⟨v, ?_, g2⟩;have hi := (List.getElem?_eq_some_iff.mp g1).1;unfold L2.start;rw [BB (by simp; lia), CO]
      simp [g1]
  · obtain ⟨rfl, rfl⟩ := own0 i s d e h
    exact ⟨f, s0, rfl, ho⟩
  · rw [(own0 i s d e h).1, (own0 j t d' e' h').1]
  · rcases h with h | h
    · rw [h]; exact ho.lv
    · exact lv p h
set_option tactic.hygienic true in
def qD{N:List Str}(h:RdS K ts F)(sp:jA K (dA F N.length m) vs H Q XE):ts { nx:=fun _ H'=>Q .non H',rt:=Q } (L2.start N vs) H:=by
 obtain⟨f,ws,Z,x,ds,z,x',rfl,nz,ho,el,lv,e,q⟩:=sp;have hm:ds.length+1=m:=by
  by_cases hm:ds.length+1=m
  ·exact hm
  ·simp only[dA,Ak hm]at e;cases e
 simp only[dA,Ae hm]at e;refine bsO e fun o e1 e2=>?_;have but:∀{O':AS}{H':Hp},Ext (fun b=>b=f) H O' H'->∀b o,H b=some o->b≠f->H' b=some o:=fun {O' H'} x b o e n=>x.kp b o e n;have i0:(ii N.length x ds)[0]?=some (.io x):=rfl;have s0:(L2.start N (.ref f::ws))[0]?=some (some (.ref f)):=by simp[L2.start]
 have f0:∀{s:En}{σ':St}{H':Hp}{O':AS}{y:D},Kq (ii N.length x ds) (L2.start N (.ref f::ws)) s σ'->ER K s σ' H' O' Z->s[0]?=some (.io y)->O' f/\OA K (U O' Z) H' f y:=fun {s σ' H' O' y} k E e=>by
  obtain⟨g1,_⟩:=k.io 0 x i0;obtain⟨p,h1,h2,h3⟩:=E.own 0 _ y e rfl;rw[g1,s0]at h1;cases h1;exact⟨h2,h3⟩
 refine h _ _ H _ Z _ (yI nz ho el lv) o e1 ?_;cases o with
 | bk s=>cases e2
 | ct s=>cases e2
 | nx s =>
  intro σ' H' O' x2 k E;have e3:yH (some (.non,false)) s=some (z,x'):=e2;unfold yH at e3;split at e3
  ·rename_i y ey
   cases e3;obtain⟨h1,h2⟩:=f0 k E ey;exact q .non H' (but x2) ⟨.non,h2.go rfl (fun _ _ e _=>e) fun b z=>.inl (z.elim (fun w=>.inl (by rw[w];exact h1)) .inr)⟩
  ·cases e3
 | rt r s =>
  intro v σ' H' O' x2 k E rv w;have e3:yH (Ks s r) s=some (z,x'):=e2;unfold yH at e3;split at e3
  ·rename_i y ey
   refine bsO e3 fun z' e4 e3=>?_;cases e3;obtain⟨h1,h2⟩:=f0 k E ey;have sub:∀b,ins f Z b->U O' Z b:=fun b z=>z.elim (fun w=>.inl (by rw[w];exact h1)) .inr
   cases r with
   | d u=>cases e4;exact q v H' (but x2) ⟨DA.less (show DA K (U O' Z) H' v u from rv) sub,h2.go rfl (fun _ _ e _=>e) fun b z=>.inl (sub b z)⟩
   | f u =>
    cases e4;obtain⟨p,rfl,g1,g2,g3,E2⟩:=rv;obtain⟨h3,h4⟩:=f0 k E2 ey;exact q _ H' (but x2) ⟨p,rfl,w p rfl,g3.go rfl (fun _ _ e _=>e) (fun b z=>.inl (z.elim .inl fun y=>.inr (sub b y))),h4.go rfl (fun _ _ e _=>e) fun b z=>.inl (z.elim (fun y=>.inl (.inl y)) fun y=>(sub b y).elim (fun a=>.inl (.inr a)) .inr)⟩
   | s i =>
    obtain⟨g1,t,g2,g3⟩:=rv
    have e5:(match s[i]? with
     | some (.o x)=>some (x,true)
     | some (.v x)=>some (x,false)
     | _=>none)=some z:=e4
    rw[g2]at e5;cases t with
    | e=>cases e5
    | io u=>cases e5
    | v u =>
     cases e5;obtain⟨u',j1,j2⟩:=E.val i u g2;rw[g1]at j1;cases j1;exact q v H' (but x2) ⟨j2.less sub,h2.go rfl (fun _ _ e _=>e) fun b z=>.inl (sub b z)⟩
    | o u =>
     cases e5;obtain⟨p,j1,j2,j3⟩:=E.own i _ u g2 rfl;rw[g1]at j1;cases j1;have npf:p≠f:=fun z=>by
      subst z;obtain⟨p0,l1,_⟩:=E.own 0 _ _ ey rfl;obtain⟨l2,_⟩:=k.io 0 x i0;rw[l2,s0]at l1;cases l1;have:=E.uni i 0 _ _ u _ _ g2 rfl ey rfl g1 (by rw[l2,s0])
      subst this;rw[ey]at g2;cases g2
     have hp:H p=none:=(x2.nw p j2).elim (fun z=>absurd z npf) (fun z=>z);have sub2:∀b,ins p (ins f Z) b->U O' Z b:=fun b z=>z.elim (fun y=>.inl (by rw[y];exact j2)) (sub b)
     exact q _ H' (but x2) ⟨p,rfl,hp,j3.go rfl (fun _ _ e _=>e) (fun b z=>.inl (sub2 b z)),h2.go rfl (fun _ _ e _=>e) fun b z=>.inl (sub2 b z)⟩
  ·cases e3
def Kt(sp:spV K (bC F n m) vs H Q XE):vs.length=m:=by
 obtain⟨Z,ds,z,el,lv,e,q⟩:=sp;by_cases hm:ds.length=m
 ·exact el.1.trans hm
 ·simp only[bC,Ak hm]at e;cases e
def IX(sp:jA K (dA F n m) vs H Q XE):vs.length=m:=by
 obtain⟨f,ws,Z,x,ds,z,x',rfl,nz,ho,el,lv,e,q⟩:=sp;by_cases hm:ds.length+1=m
 ·have:=el.1;simp;lia
 ·simp only[dA,Ak hm]at e;cases e
end
end VF
namespace VF
open PySem L2
section
variable {K:Ab}{Y Y':AS}{H H':Hp}{v:V}{d:D}{vs:List V}{ds:List D}
def orD(b b':D->D->Option Rz):D->D->Option Rz:=fun x y=>match b x y with
 | some z=>some z
 | none=>b' x y
set_option tactic.hygienic true in
def RdOp.or(h:RdOp K r b)(h':RdOp K r' b'):RdOp K (fun x y H Q=>r x y H Q∨r' x y H Q) (orD b b'):=by
 intro Y H x y d1 d2 z Q lv b1 b2 e q;unfold orD at e;split at e
 ·rename_i z' ez
  cases e;exact .inl (h Y H x y d1 d2 z Q lv b1 b2 ez q)
 ·exact .inr (h' Y H x y d1 d2 z Q lv b1 b2 e q)
def orC(b b':List D->Option Rz):List D->Option Rz:=fun x=>match b x with
 | some z=>some z
 | none=>b' x
set_option tactic.hygienic true in
def RdCB.or(h:RdCB K r b)(h':RdCB K r' b'):RdCB K (fun xs H Q=>r xs H Q∨r' xs H Q) (orC b b'):=by
 intro Y H xs ds z Q lv b1 e q;unfold orC at e;split at e
 ·rename_i z' ez
  cases e;exact .inl (h Y H xs ds z Q lv b1 ez q)
 ·exact .inr (h' Y H xs ds z Q lv b1 e q)
def bI0(g:Int->Int->D):D->D->Option Rz
 | .int i,.int j=>some (g i j,false)
 | _,_=>none
theorem qE(h:∀Y H i j,DA K Y H (gV i j) (gD i j)):RdOp K (rI0 gV) (bI0 gD):=by
 intro Y H x y d1 d2 z Q lv b1 b2 e q;cases d1 with
 | int i =>
  cases d2 with
  | int j =>
   cases e;exact⟨i,j,b1,b2,q _ H (Same.refl H) (h Y H i j)⟩
  | _=>cases e
 | _=>cases e
def bI(C:Int->Int->Prop)[∀i j,Decidable (C i j)](g:Int->Int->D):D->D->Option Rz
 | .int i,.int j=>if C i j then some (g i j,false) else none
 | _,_=>none
theorem G8[dc:∀i j,Decidable (C i j)](h:∀Y H i j,DA K Y H (gV i j) (gD i j)):RdOp K (rI C gV) (bI C gD):=by
 intro Y H x y d1 d2 z Q lv b1 b2 e q;cases d1 with
 | int i =>
  cases d2 with
  | int j =>
   obtain⟨c,e⟩:=aT e;cases e;exact⟨i,j,b1,b2,c,q _ H (Same.refl H) (h Y H i j)⟩
  | _=>cases e
 | _=>cases e
instance (i j:Int):Decidable (CMul i j):=by unfold CMul;infer_instance
instance (i j:Int):Decidable (vt i j):=by unfold vt;infer_instance
instance (i j:Int):Decidable (zS i j):=by unfold zS;infer_instance
def qF:=bI0 fun i j=>.int (i+j)
def G9:=bI0 fun i j=>.int (i-j)
def wW:=bI CMul fun i j=>.int (i*j)
def vH:=bI vt fun i j=>.int (i / j)
def oI:=bI (fun _ j=>0<j) fun i j=>.int (i % j)
def Me:=bI zS fun i j=>.int (i ^ j.toNat)
def Mf:=bI0 fun i j=>.bl (decide (i<j))
def bLe:=bI0 fun i j=>.bl (decide (i<=j))
def bGt:=bI0 fun i j=>.bl (decide (j<i))
def bGe:=bI0 fun i j=>.bl (decide (j<=i))
def ro_addI:RdOp K (rI0 fun i j=>.int (i+j)) qF:=qE fun _ _ _ _=>.int _
def D8:RdOp K (rI0 fun i j=>.int (i-j)) G9:=qE fun _ _ _ _=>.int _
def ro_mulI:RdOp K (rI CMul fun i j=>.int (i*j)) wW:=G8 fun _ _ _ _=>.int _
def rV:RdOp K (rI vt fun i j=>.int (i / j)) vH:=G8 fun _ _ _ _=>.int _
def jE:RdOp K (rI (fun _ j=>0<j) fun i j=>.int (i % j)) oI:=G8 fun _ _ _ _=>.int _
def Ku:RdOp K (rI zS fun i j=>.int (i ^ j.toNat)) Me:=G8 fun _ _ _ _=>.int _
def ro_ltI:RdOp K (rI0 fun i j=>.bl (decide (i<j))) Mf:=qE fun _ _ _ _=>.bl _
def IY:RdOp K (rI0 fun i j=>.bl (decide (i<=j))) bLe:=qE fun _ _ _ _=>.bl _
def IZ:RdOp K (rI0 fun i j=>.bl (decide (j<i))) bGt:=qE fun _ _ _ _=>.bl _
def Mi:RdOp K (rI0 fun i j=>.bl (decide (j<=i))) bGe:=qE fun _ _ _ _=>.bl _
def Ha:D->Option Rz
 | .int i=>some (.int (-i),false)
 | _=>none
theorem vI:L9 K (rU fun i=>.int (-i)) Ha:=by
 intro Y H x d1 z Q lv b1 e q;cases d1 with
 | int i=>cases e;exact⟨i,b1,q _ H (Same.refl H) (.int _)⟩
 | _=>cases e
def scD:D->Option V
 | .non=>some .non
 | .bl b=>some (.bl b)
 | .int i=>some (.int i)
 | .str x=>some (.str x)
 | _=>none
theorem mC(h:BA K Y H v d)(e:scD d=some w):v=w:=by
 cases d with
 | non=>cases e;exact h
 | bl b=>cases e;exact h
 | int i=>cases e;exact h
 | str x=>cases e;exact h
 | _=>cases e
theorem tW(e:scD d=some w):kE w=true:=by
 cases d with
 | non=>cases e;rfl
 | bl b=>cases e;rfl
 | int i=>cases e;rfl
 | str x=>cases e;rfl
 | _=>cases e
def yJ(neg:Bool):D->D->Option Rz:=fun a b=>(scD a).bind fun x=>(scD b).bind fun y=>if JH x y=true then some (.bl (if neg then !decide (x=y) else decide (x=y)),false) else none
def Kv:RdOp K rEq (yJ false):=by
 intro Y H x y d1 d2 z Q lv b1 b2 e q;refine bsO e fun x' e1 e=>?_;refine bsO e fun y' e2 e=>?_;obtain⟨c,e⟩:=aT e;cases e;obtain rfl:=mC b1 e1;obtain rfl:=mC b2 e2;exact⟨c,q _ H (Same.refl H) (.bl _)⟩
def ro_neS:RdOp K rNe (yJ true):=by
 intro Y H x y d1 d2 z Q lv b1 b2 e q;refine bsO e fun x' e1 e=>?_;refine bsO e fun y' e2 e=>?_;obtain⟨c,e⟩:=aT e;cases e;obtain rfl:=mC b1 e1;obtain rfl:=mC b2 e2;exact⟨c,q _ H (Same.refl H) (.bl _)⟩
def D.isN:D->Bool
 | .non=>true
 | _=>false
theorem Kw(h:BA K Y H v d):decide (v=.non)=d.isN:=by
 cases d with
 | non=>rw[show v=V.non from h];rfl
 | bl b=>rw[show v=V.bl b from h];rfl
 | int i=>rw[show v=V.int i from h];rfl
 | str x=>rw[show v=V.str x from h];rfl
 | ty x=>rw[show v=V.ty x from h];rfl
 | tup ds=>obtain⟨a,_,rfl,_⟩:=h;rfl
 | lst ds=>obtain⟨a,_,rfl,_⟩:=h;rfl
 | fl ds=>obtain⟨a,_,rfl,_⟩:=h;rfl
 | dk ds=>obtain⟨a,_,rfl,_⟩:=h;rfl
 | dt ds=>obtain⟨a,_,_,rfl,_⟩:=h;rfl
def Kx(neg:Bool):D->D->Option Rz
 | a,.non=>some (.bl (if neg then !a.isN else a.isN),false)
 | _,_=>none
theorem D9:RdOp K (fun x y H Q=>y=.non/\Q (.bl (decide (x=.non))) H) (Kx false):=by
 intro Y H x y d1 d2 z Q lv b1 b2 e q;cases d2 with
 | non =>
  cases e;refine⟨b2,?_⟩;rw[Kw b1];exact q _ H (Same.refl H) (.bl _)
 | _=>cases e
def qG:D->D->Option Rz
 | .str a,.str b=>if a.length+b.length<=1000000 then some (.str (a++b),false) else none
 | _,_=>none
theorem ro_addS:RdOp K (fun x y H Q=>∃i j,x=.str i/\y=.str j/\i.length+j.length<=sizeLine/\Q (.str (i++j)) H) qG:=by
 intro Y H x y d1 d2 z Q lv b1 b2 e q;cases d1 with
 | str a =>
  cases d2 with
  | str b =>
   obtain⟨c,e⟩:=aT e;cases e;exact⟨a,b,b1,b2,few c,q _ H (Same.refl H) (.str _)⟩
  | _=>cases e
 | _=>cases e
def iR(el:El K Y H vs ds)(hp:H p=none):RES K Y H (upd H p (.lst vs)) (.ref p) (.lst ds,true) :=
 ⟨p,rfl,hp,vs,bT,el.away (br hp _) hp⟩
def jF(el:El K Y H vs ds)(hp:H p=none)(lv:∀p,Y p->Lv H p):RES K Y H (upd H p (.tup vs)) (.ref p) (.tup ds,false) :=
 .tup ⟨bT,fun z=>(lv p z).1 hp⟩ el.1 (el.same (br hp _)).2
def vJ:D->D->Option Rz
 | .lst a,.lst b=>if a.length+b.length<=1000000 then some (.lst (a++b),true) else none
 | _,_=>none
theorem ro_cat:RdOp K Ka vJ:=by
 intro Y H x y d1 d2 z Q lv b1 b2 e q;cases d1 with
 | lst a =>
  cases d2 with
  | lst b =>
   obtain⟨c,e⟩:=aT e;cases e;obtain⟨p,xs,rfl,hp,el⟩:=b1;obtain⟨p2,ys,rfl,hp2,el2⟩:=b2;exact⟨p,p2,xs,ys,rfl,rfl,hp,hp2,by rw[el.1,el2.1];exact few c,fun r hr=>q _ _ (br hr _) (iR (el.app el2) hr)⟩
  | _=>cases e
 | _=>cases e
def qH:D->D->Option Rz
 | .tup (x::a),.tup (y::b)=>if a.length+b.length<=999998 then some (.tup ((x::a)++(y::b)),false) else none
 | .tup (x::a),.tup []=>if a.length<=999998 then some (.tup (x::a),false) else none
 | _,_=>none
theorem Hb:RdOp K (DM K) qH:=by
 intro Y H x y d1 d2 z Q lv b1 b2 e q;cases d1 with
 | tup a =>
  cases a with
  | nil=>cases e
  | cons a0 a =>
  cases d2 with
  | tup b =>
   obtain⟨p,xs,rfl,hp,el⟩:=b1;obtain⟨p2,ys,rfl,hp2,el2⟩:=b2;have hx:xs≠[]:=fun z=>by have:=el.1;rw[z]at this;cases this
   cases b with
   | nil =>
    obtain⟨c,e⟩:=aT e;cases e;obtain rfl:=el2.unnil;exact⟨p,p2,xs,[],rfl,rfl,hp.sq,hp2.sq,hx,by rw[el.1];exact few (by simp;lia),fun _=>q _ H (Same.refl H) (.tup hp el.1 el.2),fun z=>absurd rfl z⟩
   | cons b0 b =>
    obtain⟨c,e⟩:=aT e;cases e;have hy:ys≠[]:=fun z=>by have:=el2.1;rw[z]at this;cases this
    exact⟨p,p2,xs,ys,rfl,rfl,hp.sq,hp2.sq,hx,by rw[el.1,el2.1];exact few (by simp;lia),fun z=>absurd z hy,fun _ r hr=>q _ _ (br hr _) (jF (el.app el2) hr lv)⟩
  | _=>cases e
 | _=>cases e
def cE:=orD qF (orD qG (orD vJ qH))
def Ea:D->D->Option Rz
 | .str a,.int n=>if 0<=n/\n<=1000/\a.length<=1000 then some (.str (Txt.mul a n),false) else none
 | _,_=>none
theorem Hc:RdOp K (fun x y H Q=>∃(a:Str)(n:Int),x=.str a/\y=.int n/\MulOk a n/\Q (.str (Txt.mul a n)) H) Ea:=by
 intro Y H x y d1 d2 z Q lv b1 b2 e q;cases d1 with
 | str a =>
  cases d2 with
  | int n =>
   obtain⟨c,e⟩:=aT e;cases e;exact⟨a,n,b1,b2,mulOk_of c.1 c.2.1 c.2.2,q _ H (Same.refl H) (.str _)⟩
  | _=>cases e
 | _=>cases e
def nI:=orD wW Ea
def Mj:D->D->Option Rz
 | .str a,.str b=>some (.bl (decide (a.cps.toList<b.cps.toList)),false)
 | _,_=>none
theorem Ky:RdOp K (fun x y H Q=>∃i j,x=.str i/\y=.str j/\Q (.bl (decide (i.cps.toList<j.cps.toList))) H) Mj:=by
 intro Y H x y d1 d2 z Q lv b1 b2 e q;cases d1 with
 | str a =>
  cases d2 with
  | str b=>cases e;exact⟨a,b,b1,b2,q _ H (Same.refl H) (.bl _)⟩
  | _=>cases e
 | _=>cases e
def bLt:=orD Mf Mj
def Eb(neg:Bool):D->D->Option Rz
 | .str a,.str b=>some (.bl (if neg then !(!(Builtin.Str.occurrences b a 0 b.length 1).isEmpty) else !(Builtin.Str.occurrences b a 0 b.length 1).isEmpty),false)
 | _,_=>none
theorem ro_inS:RdOp K (fun x y H Q=>∃i j,x=.str i/\y=.str j/\Q (.bl (!(Builtin.Str.occurrences j i 0 j.length 1).isEmpty)) H) (Eb false):=by
 intro Y H x y d1 d2 z Q lv b1 b2 e q;cases d1 with
 | str a =>
  cases d2 with
  | str b=>cases e;exact⟨a,b,b1,b2,q _ H (Same.refl H) (.bl _)⟩
  | _=>cases e
 | _=>cases e
theorem ro_notinS:RdOp K (fun x y H Q=>∃i j,x=.str i/\y=.str j/\Q (.bl (!(!(Builtin.Str.occurrences j i 0 j.length 1).isEmpty))) H) (Eb true):=by
 intro Y H x y d1 d2 z Q lv b1 b2 e q;cases d1 with
 | str a =>
  cases d2 with
  | str b=>cases e;exact⟨a,b,b1,b2,q _ H (Same.refl H) (.bl _)⟩
  | _=>cases e
 | _=>cases e
def qI:List D->Option (List V)
 | []=>some []
 | d::r=>(scD d).bind fun v=>(qI r).bind fun vs=>some (v::vs)
theorem tX:∀{ds:List D}{vs ws:List V},El K Y H vs ds->qI ds=some ws->vs=ws/\ws.all kE=true
 | [],vs,ws,el,e=>by cases e;exact⟨el.unnil,rfl⟩
 | d::r,vs,ws,el,e=>by
  refine bsO e fun w e1 e=>?_;refine bsO e fun ws' e2 e=>?_;cases e;obtain⟨v,t,rfl,da,el⟩:=el.uncons;obtain⟨rfl,h⟩:=tX el e2;have hv:=mC da.ba e1;subst hv;exact⟨rfl,by rw[BI,tW e1,h];rfl⟩
def D.seq:D->Option (List D)
 | .lst ds=>some ds
 | .tup ds=>some ds
 | .fl ds=>some ds
 | _=>none
theorem mD(h:BA K Y H v d)(e:d.seq=some ds):∃a vs,v=.ref a/\(SqL K H a vs∨SqT K H a vs)/\El K Y H vs ds:=by
 cases d with
 | lst _=>cases e;obtain⟨a,vs,h1,h2,h3⟩:=h;exact⟨a,vs,h1,.inl (.inl (.inl h2)),h3⟩
 | tup _=>cases e;obtain⟨a,vs,h1,h2,h3⟩:=h;exact⟨a,vs,h1,.inr h2.sq,h3⟩
 | fl _=>cases e;obtain⟨a,vs,h1,h2,h3⟩:=h;exact⟨a,vs,h1,.inl h2.sq,h3⟩
 | _=>cases e
def Hd(neg:Bool):D->D->Option Rz:=fun a b=>(scD a).bind fun x=>(b.seq).bind fun ds=>(qI ds).bind fun ws=>some (.bl (if neg then !inV x ws else inV x ws),false)
def Ec(neg:Bool):RdOp K (rIn K neg) (Hd neg):=by
 intro Y H x y d1 d2 z Q lv b1 b2 e q;refine bsO e fun x' e1 e=>?_;refine bsO e fun ds e2 e=>?_;refine bsO e fun ws e3 e=>?_;cases e;obtain⟨a,vs,rfl,sq,el⟩:=mD b2 e2;obtain rfl:=mC b1 e1;obtain⟨rfl,h⟩:=tX el e3;exact⟨a,vs,rfl,sq,tW e1,h,q _ H (Same.refl H) (.bl _)⟩
def bIn:=orD (Eb false) (Hd false)
def jG:=orD (Eb true) (Hd true)
def Ed:D->D->Option Rz
 | .lst ds,.int i=>(atI ds i).bind fun d=>some (d,false)
 | .fl ds,.int i=>(atI ds i).bind fun d=>some (d,false)
 | _,_=>none
def He:D->D->Option Rz
 | .tup ds,.int i=>(atI ds i).bind fun d=>some (d,false)
 | _,_=>none
def Kz:D->D->Option Rz
 | .str z,.int i=>if z.length<=1000000 then(atI z.cps.toList i).bind fun c=>some (.str ⟨#[c]⟩,false) else none
 | _,_=>none
def vK(el:El K Y H vs ds)(e:atI ds i=some d):∃v,atI vs i=some v/\DA K Y H v d:=by
 unfold atI at e ⊢;rw[el.1];refine bsO e fun j e1 e2=>?_;obtain⟨v,h1,h2⟩:=el.at e2;exact⟨v,by rw[e1];exact h1,h2⟩
theorem ro_ixL:RdOp K (JV K) Ed:=by
 intro Y H x y d1 d2 z Q lv b1 b2 e q;cases d1 with
 | lst a =>
  cases d2 with
  | int i =>
   refine bsO e fun d e1 e=>?_;cases e;obtain⟨p,xs,rfl,hp,el⟩:=b1;obtain⟨v,h1,h2⟩:=vK el e1;exact⟨p,xs,i,v,rfl,b2,.inl (.inl hp),h1,q v H (Same.refl H) h2⟩
  | _=>cases e
 | fl a =>
  cases d2 with
  | int i =>
   refine bsO e fun d e1 e=>?_;cases e;obtain⟨p,xs,rfl,hp,el⟩:=b1;obtain⟨v,h1,h2⟩:=vK el e1;exact⟨p,xs,i,v,rfl,b2,hp.sq,h1,q v H (Same.refl H) h2⟩
  | _=>cases e
 | _=>cases e
theorem ro_ixT:RdOp K (JW K) He:=by
 intro Y H x y d1 d2 z Q lv b1 b2 e q;cases d1 with
 | tup a =>
  cases d2 with
  | int i =>
   refine bsO e fun d e1 e=>?_;cases e;obtain⟨p,xs,rfl,hp,el⟩:=b1;obtain⟨v,h1,h2⟩:=vK el e1;exact⟨p,xs,i,v,rfl,b2,hp.sq,h1,q v H (Same.refl H) h2⟩
  | _=>cases e
 | _=>cases e
theorem KB:RdOp K JX Kz:=by
 intro Y H x y d1 d2 z Q lv b1 b2 e q;cases d1 with
 | str a =>
  cases d2 with
  | int i =>
   obtain⟨c,e⟩:=aT e;refine bsO e fun ch e1 e=>?_;cases e;exact⟨a,i,ch,b1,b2,few c,e1,q _ H (Same.refl H) (.str _)⟩
  | _=>cases e
 | _=>cases e
def bIx:=orD Ed (orD He Kz)
def aV:RdOp K (rIx K) bIx:=ro_ixL.or (ro_ixT.or KB)
abbrev FO:=En->Option (Option Int×En)
def RdO(K:Ab)(t:TO)(f:FO):Prop:=∀(st:En)(σ:St)(H:Hp)(O Z:AS)(Q:Option Int->Hp->Prop),ER K st σ H O Z->∀c st',f st=some (c,st') ->
 (∀H' O',Ext O H O' H'->Kp st st'->ER K st' σ H' O' Z->Q c H')->t σ H Q
def oNo:FO:=fun st=>some (none,st)
def fY:RdO K wN oNo:=by
 intro st σ H O Z Q E c st' e q;cases e;exact q H O (Ext.refl _ _) (Kp.refl _) E
def asInt(st:En)(r:Rs):Option Int:=match cont st r with
 | some (.int i)=>some i
 | _=>none
def cR(fe:FE):FO:=fun st=>(fe st).bind fun x=>(asInt x.2 x.1).bind fun i=>some (some i,x.2)
set_option tactic.hygienic true in
def cW(h:RdE K te fe):RdO K (IN te) (cR fe):=by
 intro st σ H O Z Q E c st' e q;refine bsP e fun r st1 e1 e=>?_;refine bsO e fun i e2 e=>?_;cases e;refine h st σ H O Z _ E r _ e1 fun v H1 O1 x1 k1 E1 rv w=>?_;have ev:v=.int i:=by
  unfold asInt at e2;split at e2
  ·rename_i j ej
   cases e2;exact rv.ba E1 ej
  ·cases e2
 exact⟨i,ev,q H1 O1 x1 k1 E1⟩
def RdSl(K:Ab)(r:V->Option Int->Option Int->Hp->VK->Prop)(b:D->Option Int->Option Int->Option Rz):Prop:=∀(Y:AS)(H:Hp)(x:V)(lo hi:Option Int)(d1:D)(z:Rz)(Q:VK),(∀p,Y p->Lv H p)->BA K Y H x d1->b d1 lo hi=some z ->
 (∀v H',Same H H'->RES K Y H H' v z->Q v H')->r x lo hi H Q
def fSl(b:D->Option Int->Option Int->Option Rz)(fe:FE)(fl fh:FO):FE:=fun st=>(fe st).bind fun x=>(fl x.2).bind fun l=>(fh l.2).bind fun u=>(cont u.2 x.1).bind fun d=>(b d l.1 u.1).bind fun z=>some (mk z,u.2)
def dj(hr:RdSl K r b)(he:RdE K te fe)(hl:RdO K tl fl)(hh:RdO K th fh):RdE K (tSl r te tl th) (fSl b fe fl fh):=by
 intro st σ H O Z Q E r' st' h q;refine bsP h fun r1 st1 e1 h=>?_;refine bsP h fun lo st2 e2 h=>?_;refine bsP h fun hi st3 e3 h=>?_;refine bsO h fun d1 e4 h=>?_;refine bsO h fun z e5 h=>?_;cases h;refine he st σ H O Z _ E r1 st1 e1 fun v1 H1 O1 x1 k1 E1 rv1 w1=>?_;refine hl st1 σ H1 O1 Z _ E1 lo st2 e2 fun H2 O2 x2 k2 E2=>?_;refine hh st2 σ H2 O2 Z _ E2 hi _ e3 fun H3 O3 x3 k3 E3=>?_;have b1:=(rv1.nf.ext (x2.trans x3) (k2.trans k3)).ba E3 (by rw[fO];exact e4)
 refine hr (U O3 Z) H3 v1 lo hi d1 z _ E3.liv b1 e5 fun v H4 s hres=>?_;obtain⟨E4,rv4⟩:=hres.rv E3 s;have xx:=(x1.trans x2).trans x3;exact q v H4 O3 (xx.trans (Same.ext s)) ((k1.trans k2).trans k3) E4 rv4 (hres.fsh.back xx)
def cutD(xs:List D)(lo hi:Option Int):List D:=(xs.drop (HT.sIx xs.length 0 lo)).take (HT.sIx xs.length xs.length hi-HT.sIx xs.length 0 lo)
def El.cut(el:El K Y H vs ds)(lo hi:Option Int):El K Y H (tQ vs lo hi) (cutD ds lo hi):=by
 unfold tQ cutD;rw[el.1];exact(el.drop _).take _
def orS(b b':D->Option Int->Option Int->Option Rz):D->Option Int->Option Int->Option Rz:=fun x l h=>match b x l h with
 | some z=>some z
 | none=>b' x l h
set_option tactic.hygienic true in
def RdSl.or(h:RdSl K r b)(h':RdSl K r' b'):RdSl K (fun x lo hi H Q=>r x lo hi H Q∨r' x lo hi H Q) (orS b b'):=by
 intro Y H x lo hi d1 z Q lv b1 e q;unfold orS at e;split at e
 ·rename_i z' ez
  cases e;exact .inl (h Y H x lo hi d1 z Q lv b1 ez q)
 ·exact .inr (h' Y H x lo hi d1 z Q lv b1 e q)
def yK:D->Option Int->Option Int->Option Rz
 | .lst ds,lo,hi=>some (.lst (cutD ds lo hi),true)
 | .fl ds,lo,hi=>some (.lst (cutD ds lo hi),true)
 | _,_,_=>none
theorem Mk:RdSl K (JZ K) yK:=by
 intro Y H x lo hi d1 z Q lv b1 e q;cases d1 with
 | lst a =>
  cases e;obtain⟨p,xs,rfl,hp,el⟩:=b1;exact⟨p,xs,rfl,.inl (.inl hp),fun r hr=>q _ _ (br hr _) (iR (el.cut lo hi) hr)⟩
 | fl a =>
  cases e;obtain⟨p,xs,rfl,hp,el⟩:=b1;exact⟨p,xs,rfl,hp.sq,fun r hr=>q _ _ (br hr _) (iR (el.cut lo hi) hr)⟩
 | _=>cases e
def nJ:D->Option Int->Option Int->Option Rz
 | .tup ds,lo,hi=>if HT.sIx ds.length 0 lo=0/\HT.sIx ds.length ds.length hi=ds.length then none else some (.tup (cutD ds lo hi),false)
 | _,_,_=>none
theorem Ml:RdSl K (JT K) nJ:=by
 intro Y H x lo hi d1 z Q lv b1 e q;cases d1 with
 | tup a =>
  by_cases c:HT.sIx a.length 0 lo=0/\HT.sIx a.length a.length hi=a.length
  ·simp only[nJ,Ae c]at e;cases e
  ·simp only[nJ,Ak c]at e;cases e;obtain⟨p,xs,rfl,hp,el⟩:=b1;exact⟨p,xs,rfl,hp.sq,by rw[el.1];exact c,fun r hr=>q _ _ (br hr _) (jF (el.cut lo hi) hr lv)⟩
 | _=>cases e
def Ee:D->Option Int->Option Int->Option Rz
 | .str z,lo,hi=>if z.length<=1000000 then some (.str (Txt.slice z lo hi),false) else none
 | _,_,_=>none
theorem Mm:RdSl K (fun x lo hi H Q=>∃z:Str,x=.str z/\z.length<=sizeLine/\Q (.str (Txt.slice z lo hi)) H) Ee:=by
 intro Y H x lo hi d1 z Q lv b1 e q;cases d1 with
 | str a =>
  obtain⟨c,e⟩:=aT e;cases e;exact⟨a,b1,few c,q _ H (Same.refl H) (.str _)⟩
 | _=>cases e
def bSl:=orS yK (orS nJ Ee)
def Ef:List D->Option Rz
 | [d]=>(d.seq).bind fun ds=>some (.int ds.length,false)
 | _=>none
theorem rc_lenQ:RdCB K (fun xs H Q=>∃p ys,xs=[.ref p]/\(SqL K H p ys∨SqT K H p ys)/\Q (.int ys.length) H) Ef:=by
 intro Y H xs ds z Q lv bs e q;cases bs with
 | nil=>cases e
 | cons b1 bs =>
  cases bs with
  | cons _ _=>cases e
  | nil =>
   refine bsO e fun es e1 e=>?_;cases e;obtain⟨a,vs,rfl,sq,el⟩:=mD b1 e1;refine⟨a,vs,rfl,sq,?_⟩;rw[el.1];exact q _ H (Same.refl H) (.int _)
def Eg:List D->Option Rz
 | [.str z]=>if z.length<=1000000 then some (.int z.length,false) else none
 | _=>none
theorem Hf:RdCB K (fun xs H Q=>∃z:Str,xs=[.str z]/\z.length<=sizeLine/\Q (.int z.length) H) Eg:=by
 intro Y H xs ds z Q lv bs e q;cases bs with
 | nil=>cases e
 | @cons v vs d ds b1 bs =>
  cases bs with
  | cons _ _=>cases d<;>cases e
  | nil =>
   cases d with
   | str a =>
    obtain⟨c,e⟩:=aT e;cases e;exact⟨a,by rw[show v=V.str a from b1],few c,q _ H (Same.refl H) (.int _)⟩
   | _=>cases e
def cA:=orC Ef Eg
def I0:List D->Option Rz
 | [d]=>(d.seq).bind fun ds=>some (.lst ds,true)
 | _=>none
theorem rc_list:RdCB K (fun xs H Q=>∃p ys,xs=[.ref p]/\(SqL K H p ys∨SqT K H p ys)/\∀l,H l=none->Q (.ref l) (upd H l (.lst ys))) I0:=by
 intro Y H xs ds z Q lv bs e q;cases bs with
 | nil=>cases e
 | cons b1 bs =>
  cases bs with
  | cons _ _=>cases e
  | nil =>
   refine bsO e fun es e1 e=>?_;cases e;obtain⟨a,vs,rfl,sq,el⟩:=mD b1 e1;exact⟨a,vs,rfl,sq,fun r hr=>q _ _ (br hr _) (iR el hr)⟩
def Eh:List D->Option Rz
 | [.lst ds]=>some (.tup ds,false)
 | [.fl ds]=>some (.tup ds,false)
 | [.tup ds]=>some (.tup ds,false)
 | _=>none
theorem rc_tuple:RdCB K (fun xs H Q=>∃p ys,xs=[.ref p]/\((SqL K H p ys/\∀l,H l=none->Q (.ref l) (upd H l (.tup ys)))∨(SqT K H p ys/\Q (.ref p) H))) Eh:=by
 intro Y H xs ds z Q lv bs e q;cases bs with
 | nil=>cases e
 | @cons v vs d ds b1 bs =>
  cases bs with
  | cons _ _=>cases d<;>cases e
  | nil =>
   cases d with
   | lst a =>
    cases e;obtain⟨p,xs,rfl,hp,el⟩:=b1;exact⟨p,xs,rfl,.inl ⟨.inl (.inl hp),fun r hr=>q _ _ (br hr _) (jF el hr lv)⟩⟩
   | fl a =>
    cases e;obtain⟨p,xs,rfl,hp,el⟩:=b1;exact⟨p,xs,rfl,.inl ⟨hp.sq,fun r hr=>q _ _ (br hr _) (jF el hr lv)⟩⟩
   | tup a =>
    cases e;obtain⟨p,xs,rfl,hp,el⟩:=b1;exact⟨p,xs,rfl,.inr ⟨hp.sq,q _ H (Same.refl H) (.tup hp el.1 el.2)⟩⟩
   | _=>cases e
def lM:List D->Option (List Bool)
 | []=>some []
 | .bl b::r=>(lM r).bind fun bs=>some (b::bs)
 | _=>none
theorem tY:∀{ds:List D}{vs:List V}{bs:List Bool},El K Y H vs ds->lM ds=some bs->vs=bs.map V.bl
 | [],vs,bs,el,e=>by cases e;exact el.unnil
 | d::r,vs,bs,el,e=>by
  obtain⟨v,t,rfl,da,el2⟩:=el.uncons;cases d with
  | bl b =>
   refine bsO e fun bs' e1 e=>?_;cases e;have h:=tY el2 e1;rw[h,show v=V.bl b from da.ba];rfl
  | _=>cases e
def qh:List D->Option Rz
 | [.lst ds]=>(lM ds).bind fun bs=>some (.bl (bs.all id),false)
 | _=>none
theorem mE:RdCB K (fun xs H Q=>∃(p:Addr)(bs:List Bool),xs=[.ref p]/\SqL K H p (bs.map V.bl)/\Q (.bl (bs.all id)) H) qh:=by
 intro Y H xs ds z Q lv bs e q;cases bs with
 | nil=>cases e
 | @cons v vs d ds b1 bs =>
  cases bs with
  | cons _ _=>cases d<;>cases e
  | nil =>
   cases d with
   | lst a =>
    refine bsO e fun bs e1 e=>?_;cases e;obtain⟨p,xs,rfl,hp,el⟩:=b1;obtain rfl:=tY el e1;exact⟨p,bs,rfl,.inl (.inl hp),q _ H (Same.refl H) (.bl _)⟩
   | _=>cases e
def Hg(K:Ab)(r:V->List V->Hp->VK->Prop)(b:D->List D->Option Rz):Prop:=∀(Y:AS)(H:Hp)(x:V)(xs:List V)(d:D)(ds:List D)(z:Rz)(Q:VK),(∀p,Y p->Lv H p)->BA K Y H x d->BAs K Y H xs ds->b d ds=some z ->
 (∀v H',Same H H'->RES K Y H H' v z->Q v H')->r x xs H Q
def KC(T:String):D->Bool
 | .str _=>decide (T="str")
 | .lst _=>decide (T="list")
 | .dk _=>decide (T="dict")
 | .dt _=>decide (T="dict")
 | _=>false
theorem Mn(h:BA K Y H v d)(e:KC T d=true):tyV K T v H:=by
 cases d with
 | str x =>
  have e':T="str":=Am e;rw[show v=V.str x from h];exact e'
 | lst x=>obtain⟨a,vs,rfl,h1,_⟩:=h;exact .inl ⟨Am e,vs,.inl (.inl h1)⟩
 | dk x=>obtain⟨a,vs,rfl,h1,_⟩:=h;exact .inr (.inr (.inl ⟨Am e,.inl ⟨vs,h1⟩⟩))
 | dt x=>obtain⟨a,ep,vs,rfl,_,h1,_⟩:=h;exact .inr (.inr (.inl ⟨Am e,.inr ⟨ep,vs,h1⟩⟩))
 | _=>cases e
def fBM(T:String)(b:D->List D->Option Rz)(fo:FE)(fa:FA):FE:=fun st=>(fo st).bind fun x=>(cont x.2 x.1).bind fun d0=>if KC T d0=true then(fa x.2).bind fun y=>(cont y.2 x.1).bind fun d=>(dU y.2 y.1).bind fun ds=>(b d ds).bind fun z=>some (mk z,y.2) else none
def Ei(hr:Hg K r b)(ho:RdE K to fo)(ha:RdA K ta fa):RdE K (tBM K T r to ta) (fBM T b fo fa):=by
 intro st σ H O Z Q E r' st' h q;refine bsP h fun r1 st1 e1 h=>?_;refine bsO h fun d0 e2 h=>?_;obtain⟨c,h⟩:=aT h;refine bsP h fun rs st2 e3 h=>?_;refine bsO h fun d e4 h=>?_;refine bsO h fun ds e5 h=>?_;refine bsO h fun z e6 h=>?_;cases h;refine ho st σ H O Z _ E r1 st1 e1 fun v1 H1 O1 x1 k1 E1 rv1 w1=>⟨Mn (rv1.ba E1 e2) c,?_⟩;refine ha st1 σ H1 O1 Z _ E1 rs _ e3 fun vs H2 O2 x2 k2 E2 rvs=>?_;have b1:=(rv1.nf.ext x2 k2).ba E2 (by rw[fO];exact e4)
 refine hr (U O2 Z) H2 v1 vs d ds z _ E2.liv b1 (rvs.bas E2 e5) e6 fun v H3 s hres=>?_;obtain⟨E3,rv3⟩:=hres.rv E2 s;exact q v H3 O2 ((x1.trans x2).trans (Same.ext s)) (k1.trans k2) E3 rv3 (hres.fsh.back (x1.trans x2))
def mF:List D->Option (List Str)
 | []=>some []
 | .str x::r=>(mF r).bind fun xs=>some (x::xs)
 | _=>none
theorem qJ:∀{ds:List D}{vs:List V}{xs:List Str},El K Y H vs ds->mF ds=some xs->vs=xs.map V.str
 | [],vs,xs,el,e=>by cases e;exact el.unnil
 | d::r,vs,xs,el,e=>by
  obtain⟨v,t,rfl,da,el2⟩:=el.uncons;cases d with
  | str b =>
   refine bsO e fun xs' e1 e=>?_;cases e;have h:=qJ el2 e1;rw[h,show v=V.str b from da.ba];rfl
  | _=>cases e
def Ej:D->List D->Option Rz
 | .str sep,[.lst ds]=>(mF ds).bind fun ys=>if (ys.map (·.length)).sum+ys.length*sep.length<=16777216 then some (.str (Txt.join sep ys),false) else none
 | _,_=>none
theorem Hh:Hg K (fun x vs H Q=>∃(sep:Str)(p:Addr)(ys:List Str),x=.str sep/\vs=[.ref p]/\SqL K H p (ys.map V.str)/\(ys.map (·.length)).sum+ys.length*sep.length<=16777216/\Q (.str (Txt.join sep ys)) H) Ej:=by
 intro Y H x xs d ds z Q lv b1 bs e q;cases d with
 | str sep =>
  cases bs with
  | nil=>cases e
  | @cons v vs d ds b2 bs =>
   cases bs with
   | cons _ _=>cases d<;>cases e
   | nil =>
    cases d with
    | lst es =>
     refine bsO e fun ys e1 e=>?_;obtain⟨c,e⟩:=aT e;cases e;obtain⟨p,ws,rfl,hp,el⟩:=b2;obtain rfl:=qJ el e1;exact⟨sep,p,ys,b1,rfl,.inl (.inl hp),c,q _ H (Same.refl H) (.str _)⟩
    | _=>cases e
 | _=>cases e
def wX:D->List D->Option Rz
 | .str a,[.str b]=>some (.bl (Txt.startswith a b),false)
 | _,_=>none
theorem yL:Hg K (fun x vs H Q=>∃(a b:Str),x=.str a/\vs=[.str b]/\Q (.bl (Txt.startswith a b)) H) wX:=by
 intro Y H x xs d ds z Q lv b1 bs e q;cases d with
 | str a =>
  cases bs with
  | nil=>cases e
  | @cons v vs d ds b2 bs =>
   cases bs with
   | cons _ _=>cases d<;>cases e
   | nil =>
    cases d with
    | str b=>cases e;exact⟨a,b,b1,by rw[show v=V.str b from b2],q _ H (Same.refl H) (.bl _)⟩
    | _=>cases e
 | _=>cases e
def isL:D->Bool
 | .lst _=>true
 | _=>false
theorem tyL(h:OA K Y H p x)(e:isL x=true):tyV K "list" (.ref p) H:=by
 cases x with
 | lst ds=>obtain⟨vs,h1,_⟩:=h;exact .inl ⟨rfl,vs,.inl (.inl h1)⟩
 | _=>cases e
theorem El.upd(h:El K Y H vs ds)(hp:Y p):El K Y (L2.upd H p o) vs ds:=h.go (fun b u e n=>by
 have hb:b≠p:=fun z=>n (by rw[z];exact hp)
 rw[bn hb];exact e) fun b z=>.inl z
theorem DA.upd(h:DA K Y H v d)(hp:Y p):DA K Y (L2.upd H p o) v d:=h.go (fun b u e n=>by
 have hb:b≠p:=fun z=>n (by rw[z];exact hp)
 rw[bn hb];exact e) fun b z=>.inl z
def bw:D->List D->Option (D×D)
 | .lst xs,[y]=>if xs.length<1000000 then some (.non,.lst (xs++[y])) else none
 | _,_=>none
theorem bU:RdM K "list" rM isL bw:=⟨fun Y H p x h e=>tyL h e,fun Y H p x vs ds y x' Q hp ho el e q=>by
 cases x with
 | lst xs =>
  cases ds with
  | nil=>cases e
  | cons d ds =>
   cases ds with
   | cons _ _=>cases e
   | nil =>
    obtain⟨c,e⟩:=aT e;cases e;obtain⟨ws,h1,h2⟩:=ho;obtain⟨v,r,rfl,da,el⟩:=el.uncons;obtain rfl:=el.unnil;exact⟨p,ws,v,rfl,rfl,h1,by rw[h2.1];exact few (by lia),q .non _ .non ⟨_,bT,(h2.app (El.one da)).upd hp⟩⟩
 | _=>cases e⟩
def ij:D->List D->Option (D×D)
 | .lst xs,[.int i]=>if -(2 ^ 63)<=i/\i<2 ^ 63 then(seqIndex? i xs.length).bind fun k=>(xs[k]?).bind fun y=>some (y,.lst (xs.eraseIdx k)) else none
 | _,_=>none
theorem oJ:RdM K "list" DP isL ij:=⟨fun Y H p x h e=>tyL h e,fun Y H p x vs ds y x' Q hp ho el e q=>by
 cases x with
 | lst xs =>
  cases ds with
  | nil=>cases e
  | cons d ds =>
   cases d with
   | int i =>
    cases ds with
    | cons _ _=>cases e
    | nil =>
     obtain⟨c,e⟩:=aT e;refine bsO e fun k e1 e=>?_;refine bsO e fun y' e2 e=>?_;cases e;obtain⟨ws,h1,h2⟩:=ho;obtain⟨v,r,rfl,da,el⟩:=el.uncons;obtain rfl:=el.unnil;obtain rfl:=(show v=V.int i from da.ba);obtain⟨u,g1,g2⟩:=h2.at e2;exact⟨p,ws,i,k,u,rfl,rfl,h1,c.1,c.2,by rw[h2.1];exact e1,g1,q u _ (g2.upd hp) ⟨_,bT,(h2.erase k).upd hp⟩⟩
   | _=>cases ds<;>cases e
 | _=>cases e⟩
def lN:D->D->D->Option D
 | .lst xs,.int k,v=>(ixN xs.length k).bind fun j=>some (.lst (xs.set j v))
 | _,_,_=>none
theorem fA:D0 K IO lN:=by
 intro Y H p x k v dk dv x' Q hp ho bk da e q;cases x with
 | lst xs =>
  cases dk with
  | int i =>
   refine bsO e fun j e1 e=>?_;cases e;obtain⟨ws,h1,h2⟩:=ho;exact⟨p,ws,i,j,rfl,bk,h1,by rw[h2.1];exact e1,q _ ⟨_,bT,(h2.set da j).upd hp⟩⟩
  | _=>cases e
 | _=>cases e
def Ek(xs:List Str):FA:=fun st=>some (xs.map fun x=>.d (.str x),st)
theorem wY:RdA K (IS xs) (Ek xs):=by
 intro st σ H O Z Q E rs st' e q;cases e;refine q _ H O (Ext.refl _ _) (Kp.refl _) E ?_;clear q;induction xs with
 | nil=>exact .nil
 | cons x r ih=>exact .cons (show DA K _ H (.str x) (.str x) from .str x) ih
end
end VF
namespace VF
open PySem PySem.Spec PyProof.Rows L2
section
variable {X:Cx}{K:Ab}{Y:AS}{H:Hp}{v:V}{d:D}{vs:List V}{ds:List D}
def wZ(K:Ab):R2:=fun x y H Q=>(rI0 fun i j=>.int (i+j)) x y H Q∨((∃i j,x=.str i/\y=.str j/\i.length+j.length<=sizeLine/\Q (.str (i++j)) H)∨(Ka x y H Q∨DM K x y H Q))
def w5(h:X.K=K):OpR X (binaryOp .Add) (wZ K):=op_add.or (op_add_str.or (op_cat.or (h ▸ GS)))
def ro_addA:RdOp K (wZ K) cE:=ro_addI.or (ro_addS.or (ro_cat.or Hb))
def I8:R2:=fun x y H Q=>(rI CMul fun i j=>.int (i*j)) x y H Q∨(∃(a:Str)(n:Int),x=.str a/\y=.int n/\MulOk a n/\Q (.str (Txt.mul a n)) H)
def lO:OpR X (binaryOp .Mult) I8:=op_mul.or vE
def lP:RdOp K I8 nI:=ro_mulI.or Hc
def Mp:R2:=fun x y H Q=>(rI0 fun i j=>.bl (decide (i<j))) x y H Q∨(∃i j,x=.str i/\y=.str j/\Q (.bl (decide (i.cps.toList<j.cps.toList))) H)
def Em:OpR X (compareOp .Lt) Mp:=op_lt.or yp
def Ep:RdOp K Mp bLt:=ro_ltI.or Ky
def KD(K:Ab):R2:=fun x y H Q=>(∃i j,x=.str i/\y=.str j/\Q (.bl (!(Builtin.Str.occurrences j i 0 j.length 1).isEmpty)) H)∨rIn K false x y H Q
def rW(h:X.K=K):OpR X (compareOp .In) (KD K):=op_in_str.or (h ▸ yy)
def ro_inA:RdOp K (KD K) bIn:=ro_inS.or (Ec false)
def rX(K:Ab):R2:=fun x y H Q=>(∃i j,x=.str i/\y=.str j/\Q (.bl (!(!(Builtin.Str.occurrences j i 0 j.length 1).isEmpty))) H)∨rIn K true x y H Q
def mG(h:X.K=K):OpR X (compareOp .NotIn) (rX K):=op_notin_str.or (h ▸ rH)
def ro_notinA:RdOp K (rX K) jG:=ro_notinS.or (Ec true)
def bEq:=yJ false
def KF(_:X.K=K)(_:X.A.units+64<cLine):OpR X (compareOp .Eq) rEq:=dW
def ro_eqA:RdOp K rEq bEq:=Kv
def KG:D->D->Option Rz
 | .lst xs,.lst []=>some (.bl (!xs.isEmpty),false)
 | _,_=>none
def Mq(K:Ab):R2:=fun x y H Q=>∃(a b:Addr)(xs:List V),x=.ref a/\y=.ref b/\SqL K H a xs/\SqL K H b []/\Q (.bl (!xs.isEmpty)) H
theorem KH:RdOp K (Mq K) KG:=by
 intro Y H x y d1 d2 z Q lv b1 b2 e q;cases d1 with
 | lst xs =>
  cases d2 with
  | lst ys =>
   cases ys with
   | nil =>
    cases e;obtain⟨p,ws,rfl,hp,el⟩:=b1;obtain⟨p2,zs,rfl,hp2,el2⟩:=b2;obtain rfl:=el2.unnil;refine⟨p,p2,ws,rfl,rfl,.inl (.inl hp),.inl (.inl hp2),?_⟩;have e:ws.isEmpty=xs.isEmpty:=by
     cases ws with
     | nil=>cases xs with
      | nil=>rfl
      | cons _ _=>cases el.1
     | cons _ _=>cases xs with
      | nil=>cases el.1
      | cons _ _=>rfl
    rw[e];exact q _ H (Same.refl H) (.bl _)
   | cons _ _=>cases e
  | _=>cases e
 | _=>cases e
def bNe:=orD (yJ true) KG
def KJ(K:Ab):R2:=fun x y H Q=>rNe x y H Q∨Mq K x y H Q
def iS(h:X.K=K)(hu:X.A.units+64<cLine):OpR X (compareOp .NotEq) (KJ K):=op_ne.or (by subst h;exact Kk (by lia))
def ro_neA:RdOp K (KJ K) bNe:=ro_neS.or KH
def KK(K:Ab):V->Option Int->Option Int->Hp->VK->Prop:=fun x lo hi H Q=>JZ K x lo hi H Q∨(JT K x lo hi H Q∨(∃z:Str,x=.str z/\z.length<=sizeLine/\Q (.str (Txt.slice z lo hi)) H))
def fZ(h:X.K=K):SlR X (KK K):=SlR.or (h ▸ GU) (SlR.or (h ▸ JU) Kh)
def ee:RdSl K (KK K) bSl:=RdSl.or Mk (RdSl.or Ml Mm)
def Er(K:Ab):List V->Hp->VK->Prop:=fun xs H Q=>(∃p ys,xs=[.ref p]/\(SqL K H p ys∨SqT K H p ys)/\Q (.int ys.length) H)∨(∃z:Str,xs=[.str z]/\z.length<=sizeLine/\Q (.int z.length) H)
def yM(h:X.K=K):CallR X (.builtin "len") (Er K):=CallR.or (h ▸ rJ) rK
def cy:RdCB K (Er K) cA:=rc_lenQ.or Hf
def Es(z:Str):El K Y H (sgn z) (oF z):=by
 refine⟨by simp[sgn,oF],fun i v d h1 h2=>?_⟩
 unfold sgn at h1;unfold oF at h2;rw[We]at h1 h2;obtain⟨c,e1,rfl⟩:=Zg.mp h1;rw[e1]at h2;obtain rfl:=Option.some.inj h2;exact .str _
def Et:List D->Option Rz
 | [.str z]=>if z.cps.size<=1000000 then some (.lst (oF z),true) else none
 | _=>none
def Eu:List V->Hp->VK->Prop:=fun xs H Q=>∃z:Str,xs=[.str z]/\z.cps.size<=sizeLine/\∀l,H l=none->Q (.ref l) (upd H l (.lst (sgn z)))
theorem Ev:RdCB K Eu Et:=by
 intro Y H xs ds z Q lv bs e q;cases bs with
 | nil=>cases e
 | @cons v vs d ds b1 bs =>
  cases bs with
  | cons _ _=>cases d<;>cases e
  | nil =>
   cases d with
   | str a =>
    obtain⟨c,e⟩:=aT e;cases e;exact⟨a,by rw[show v=V.str a from b1],few c,fun r hr=>q _ _ (br hr _) (iR (Es a) hr)⟩
   | _=>cases e
def w6:List D->Option Rz
 | [.str z]=>if z.cps.size<=1000000 then some (.tup (oF z),false) else none
 | _=>none
def w9:List V->Hp->VK->Prop:=fun xs H Q=>∃z:Str,xs=[.str z]/\z.cps.size<=sizeLine/\∀l,H l=none->Q (.ref l) (upd H l (.tup (sgn z)))
theorem yN:RdCB K w9 w6:=by
 intro Y H xs ds z Q lv bs e q;cases bs with
 | nil=>cases e
 | @cons v vs d ds b1 bs =>
  cases bs with
  | cons _ _=>cases d<;>cases e
  | nil =>
   cases d with
   | str a =>
    obtain⟨c,e⟩:=aT e;cases e;exact⟨a,by rw[show v=V.str a from b1],few c,fun r hr=>q _ _ (br hr _) (jF (Es a) hr lv)⟩
   | _=>cases e
def ik:=orC I0 Et
def bN:=orC Eh w6
def Ew(K:Ab):List V->Hp->VK->Prop:=fun xs H Q=>(∃p ys,xs=[.ref p]/\(SqL K H p ys∨SqT K H p ys)/\∀l,H l=none->Q (.ref l) (upd H l (.lst ys)))∨Eu xs H Q
def rY(K:Ab):List V->Hp->VK->Prop:=fun xs H Q=>(∃p ys,xs=[.ref p]/\((SqL K H p ys/\∀l,H l=none->Q (.ref l) (upd H l (.tup ys)))∨(SqT K H p ys/\Q (.ref p) H)))∨w9 xs H Q
def gB(h:X.K=K)(hc:X.calm=true):CallR X (.type "list") (Ew K):=CallR.or (h ▸ rL) (oD hc)
def tZ(h:X.K=K)(hc:X.calm=true):CallR X (.type "tuple") (rY K):=CallR.or (h ▸ qd) (nH hc)
def jH:RdCB K (Ew K) ik:=rc_list.or Ev
def cc:RdCB K (rY K) bN:=rc_tuple.or yN
def tyN:D->String
 | .non=>"NoneType"
 | .bl _=>"bool"
 | .int _=>"int"
 | .str _=>"str"
 | .tup _=>"tuple"
 | .lst _=>"list"
 | .fl _=>"list"
 | .dk _=>"dict"
 | .dt _=>"dict"
 | .ty _=>"type"
def Ex(n T:String):Bool:=n == T||(n == "bool"&&T == "int")
def KM:∀n∈["NoneType","bool","int","str","tuple","list","dict"],∀T∈["bool","int","str","tuple","list","dict"],
  (if (Value.type n == Value.type T)=true then some true else if PySem.W.kitMeta T=true then(fastBuiltinMro n).map (·.contains (Value.type T)) else none)=some (Ex n T):=by decide +kernel
def Nk:List D->Option Rz
 | [d,.ty T]=>if (["bool","int","str","tuple","list","dict"].contains T&&tyN d != "type")=true then some (.bl (Ex (tyN d) T),false) else none
 | _=>none
def b7:=Nk
def KN(K:Ab):List V->Hp->VK->Prop:=fun xs H Q=>∃(Y:AS)(x:V)(d:D)(T:String),xs=[x,.ty T]/\BA K Y H x d/\(["bool","int","str","tuple","list","dict"].contains T&&tyN d != "type")=true/\Q (.bl (Ex (tyN d) T)) H
theorem bz:RdCB K (KN K) b7:=by
 intro Y H xs ds z Q lv bs e q;cases bs with
 | nil=>cases e
 | @cons v vs d ds b1 bs =>
  cases bs with
  | nil=>cases e
  | @cons v2 vs2 d2 ds2 b2 bs =>
   cases bs with
   | cons _ _=>cases d2<;>cases e
   | nil =>
    cases d2 with
    | ty T =>
     obtain⟨c,e⟩:=aT e;cases e;exact⟨Y,v,d,T,by rw[show v2=V.ty T from b2],b1,c,q _ H (Same.refl H) (.bl _)⟩
    | _=>cases e
def rZ(h:X.K=K):CallR X (.builtin "isinstance") (KN K):=by
 subst h;intro pins s σ H xs us Q I rv h;obtain⟨Y,x,d,T,rfl,b1,c,q⟩:=h;obtain⟨u,w',rfl,rx,ry⟩:=vals2 rv;cases (show w'=Value.type T from ry);rw[Xh]at c;have hT:T∈["bool","int","str","tuple","list","dict"]:=List.contains_iff_mem.mp c.1;have fin:∀tk,EP X pins σ Q (.bool (Ex (tyN d) T)) { s with toks:=tk }:=fun tk=>⟨.bl _,H,I.tok tk,rfl,q⟩;have ko:∀n∈["NoneType","bool","int","str","tuple","list","dict"],tyN d=n->PySem.W.kitOne X.K (.type n) (.type T)=some (Ex (tyN d) T):=fun n hn e=>by
  rw[e];exact Kj (KM n hn T hT)
 cases d with
 | non =>
  obtain rfl:=(show x=V.non from b1);exact fw I rx .non (ko "NoneType" (by decide) rfl) fin
 | bl b =>
  obtain rfl:=(show x=V.bl b from b1);exact fw I rx (.bl b) (ko "bool" (by decide) rfl) fin
 | int i =>
  obtain rfl:=(show x=V.int i from b1);exact fw I rx (.int i) (ko "int" (by decide) rfl) fin
 | str z =>
  obtain rfl:=(show x=V.str z from b1);exact fw I rx (.str z) (ko "str" (by decide) rfl) fin
 | ty n=>exact absurd c.2 (by simp[tyN])
 | lst ds =>
  obtain⟨a,vs,rfl,h1,_⟩:=b1;exact fw I rx (.lst h1) (ko "list" (by decide) rfl) fin
 | fl ds =>
  obtain⟨a,vs,rfl,h1,_⟩:=b1;cases (show u=Value.ref a from rx);obtain⟨its,_,pl,_⟩:=I.list h1.sq;obtain⟨o,ho,hc,_⟩:=pl.isList;exact Ar CK I.kIn ⟨o,ho,hc⟩ (ko "list" (by decide) rfl) (fun z=>nomatch z) fin
 | tup ds =>
  obtain⟨a,vs,rfl,h1,_⟩:=b1;cases (show u=Value.ref a from rx);obtain⟨its,_,pl,_⟩:=I.tuple h1.sq;obtain⟨o,ho,hc,_⟩:=pl;exact Ar PySem.W.kitx_tuple I.kIn ⟨o,ho,hc⟩ (ko "tuple" (by decide) rfl) (fun z=>nomatch z) fin
 | dk ds =>
  obtain⟨a,vs,rfl,h1,_⟩:=b1;exact fw I rx (.dK h1) (ko "dict" (by decide) rfl) fin
 | dt ds =>
  obtain⟨a,ep,vs,rfl,_,h1,_⟩:=b1;exact fw I rx (.dT h1) (ko "dict" (by decide) rfl) fin
def nK(l:Addr)(its:Array Value)(n:Nat)(b:Addr)(more:Array Value)(m:Nat)(dd:Option Addr)(sl:Array (Option Value))(h0:¬(!its.isEmpty&&Builtin.List.listTooLong (its.size+more.size))=true)(h1:its.size<=sizeLine)(h2:its.size+more.size<=sizeLine+1) :
  Meets (Builtin.«list.extend» ⟨[.ref l,.ref b],[]⟩) (fun _ R s=>s.heap.get? l=some { cls:=.type "list",dict:=none,data:=.seq its n,slots:=#[] }/\s.heap.get? b=some { cls:=.type "tuple",dict:=dd,data:=.seq more m,slots:=sl }/\R (.ok (.ret Value.none)) { s with heap:=s.heap.update l (Obj.mapSeq fun x=>x++more),toks:=s.toks }) :=
 .of_wp fun prog w A R s0 hh=>by
  obtain⟨hp,gg,dp,tks,oo⟩:=s0;obtain⟨hl,hb,hR⟩:=hh;have a1:=AutoSeq1.idx_int;have a2:=AutoSeq1.sub_tuple_tuple;have a3:=AutoSeq1.sub_list_list;have a4:=AutoSeq1.sub_tuple_list;have a5:=AutoSeq1.sub_list_tuple;have fits:(its++more).size<=sizeLine+1:=by
   rw[Array.size_append];exact h2
  wp_walk using (wpAny_updateSeq hl rfl (hz:=h1) (_hz':=fits)),BU hl,BU hb
  exact⟨_,rfl,hR⟩
def I9(K:Ab):V->List V->Hp->VK->Prop:=fun x vs H Q=>∃l b xs zs,x=.ref l/\vs=[.ref b]/\H l=some (.lst xs)/\SqT K H b zs/\xs.length+zs.length<=sizeLine/\Q .non (upd H l (.lst (xs++zs)))
def Hi(h:X.K=K):MtM X "list.extend" (I9 K):=by
 subst h;intro pins s σ H x vs v us Q I rx rv h;obtain⟨l,b,xs,zs,rfl,rfl,hH,hB,hz,q⟩:=h;cases rx;obtain⟨u,rfl,ru⟩:=rv.one;cases ru;obtain⟨z,its,n,r,hl,e⟩:=I.lstM hH;obtain⟨its2,r2,pl,hz2⟩:=I.tuple hB;obtain⟨⟨c2,dd2,d2,sl2⟩,ho2,hc2,n2,hd2⟩:=id pl;obtain rfl:c2=.type "tuple":=hc2;obtain rfl:d2=.seq its2.toArray n2:=hd2;have hl2:=r2.length;have hsz:its.toArray.size+its2.toArray.size<=sizeLine:=by rw[Xb,Xb];lia
 have hlong:¬ (!its.toArray.isEmpty&&Builtin.List.listTooLong (its.toArray.size+its2.toArray.size))=true:=by
  rw[tR hsz,Df];exact Wd
 refine BP F.slot_list_extend ⟨_,e,rfl⟩ F.entry_list_extend (F.args_list_extend_2 _ _)
  (nK l its.toArray n b its2.toArray n2 dd2 sl2 hlong (by rw[Xb];lia) (by lia)) ⟨e,ho2,?_⟩
 refine⟨.non,_,I.lset (its':=its++its2) hH e (by simp) (r.append r2) ?_,rfl,q⟩
 rw[Xa];lia
def Ja(K:Ab):V->List V->Hp->VK->Prop:=fun x vs H Q=>wQ x vs H Q∨I9 K x vs H Q
def kO(h:X.K=K)(_:X.calm=true):MtM X "list.extend" (Ja K):=by
 intro pins s σ H x vs v us Q I rx rv hh;rcases hh with hh|hh
 ·exact yA pins s σ H x vs v us Q I rx rv hh
 ·exact Hi h pins s σ H x vs v us Q I rx rv hh
def iT:D->List D->Option (D×D)
 | .lst xs,[.lst ys]=>if xs.length+ys.length<=1000000 then some (.non,.lst (xs++ys)) else none
 | .lst xs,[.tup ys]=>if xs.length+ys.length<=1000000 then some (.non,.lst (xs++ys)) else none
 | _,_=>none
theorem mH:RdM K "list" (Ja K) isL iT:=⟨fun Y H p x h e=>tyL h e,fun Y H p x vs ds y x' Q hp ho el e q=>by
 cases x with
 | lst xs =>
  cases ds with
  | nil=>cases e
  | cons d ds =>
   cases ds with
   | cons _ _=>cases d<;>cases e
   | nil =>
    obtain⟨ws,h1,h2⟩:=ho;obtain⟨v,r,rfl,da,el⟩:=el.uncons;obtain rfl:=el.unnil;cases d with
    | lst ys =>
     obtain⟨c,e⟩:=aT e;cases e;cases da with
     | @lst a us _ g0 g1 g2 g3=>exact .inl ⟨p,a,ws,us,rfl,rfl,h1,g1,by rw[h2.1,g2];exact few c,q .non _ .non ⟨_,bT,(h2.app ⟨g2,g3⟩).upd hp⟩⟩
    | tup ys =>
     obtain⟨c,e⟩:=aT e;cases e;cases da with
     | @tup a us _ g1 g2 g3=>exact .inr ⟨p,a,ws,us,rfl,rfl,h1,g1.sq,by rw[h2.1,g2];exact few c,q .non _ .non ⟨_,bT,(h2.app ⟨g2,g3⟩).upd hp⟩⟩
    | _=>cases e
 | _=>cases e⟩
def Mr(K:Ab)(tl:TE):TI:=fun σ H R=>wD K tl σ H R∨(JD K tl σ H R∨Kf tl σ H R)
def bR(h:X.K=K)(hl:PE X l tl):PI X tg l (Mr K tl):=by
 subst h;intro pins s σ H R I hh;rcases hh with hh|hh|hh
 ·exact GN hl pins s σ H R I hh
 ·exact JE hl pins s σ H R I hh
 ·exact Kg hl pins s σ H R I hh
def fIA(fe:FE):FI:=fun st=>match fIL fe st with
 | some z=>some z
 | none=>match fIT fe st with
  | some z=>some z
  | none=>fIS fe st
set_option tactic.hygienic true in
def bS(h:RdE K te fe):RdI K (Mr K te) (fIA fe):=by
 intro st σ H O Z R E items st' e q;unfold fIA at e;split at e
 ·rename_i z ez
  cases e;exact .inl (G6 h st σ H O Z R E items st' ez q)
 ·split at e
  ·rename_i z ez
   cases e;exact .inr (.inl (Kl h st σ H O Z R E items st' ez q))
  ·exact .inr (.inr (Kn h st σ H O Z R E items st' e q))
end
end VF
namespace VF
open PySem PySem.Spec PyProof.Rows L2
section
variable {prog:Program}{w:World}{A:Around}{E:Value->Shared->Prop}{s:Shared}
def vL(n:Nat):Builtin.Slice.slicePlaces ((n:Int)-1) (-1) (-1)=n:=by
 unfold Builtin.Slice.slicePlaces;rw[Ak (by decide)]
 have e:(- (-1):Int)=1:=rfl;rw[e,DB];split<;>lia
def vM(n:Nat):Builtin.Slice.sliceAdjust none none (-1) (n:Int)=((n:Int)-1,-1):=by
 unfold Builtin.Slice.sliceAdjust;simp
def t3{sl:Addr}{n:Nat}{t:Tok}{Q:Int×Int×Nat->Shared->Prop}(hs:s.heap.IsSliceOf sl .none .none (.int (-1) t))(h:Q ((n:Int)-1,-1,n) s) :
  wpAny (model prog w) A (Builtin.Slice.sliceApplied (.ref sl) (pure (n:Int))) Q E s:=by
 obtain⟨os,hos,hcs,hds⟩:=id hs;unfold Builtin.Slice.sliceApplied Builtin.Slice.sliceFields;refine Aa (Aa (At hos hds (x:=.none) rfl (Aa (At hos hds (x:=.none) rfl (Aa (At hos hds (x:=.int (-1) t) rfl (Ad ?_)))))));refine Aa (HT.slicePart_ (.int (-1) t) ?_);show wpAny _ _ (if ((-1:Int) == 0)=true then _ else _) _ _ s;rw[Ak (by decide)]
 refine Aa (HT.slicePart_ .none (Aa (HT.slicePart_ .none (Aa (Ad ?_)))));show wpAny _ _ (match Builtin.Slice.sliceAdjust none none (-1) (n:Int) with|(lo,hi)=>pure (lo,(-1:Int),Builtin.Slice.slicePlaces lo hi (-1))) _ _ s
 rw[vM];show wpAny _ _ (pure ((n:Int)-1,(-1:Int),Builtin.Slice.slicePlaces ((n:Int)-1) (-1) (-1))) _ _ s;rw[vL];exact Ad h
def picked_rev(its:List Value):((List.range its.length).filterMap fun(k:Nat)=>its.toArray[((its.length:Int)-1+(k:Int)*(-1)).toNat]?).toArray=its.reverse.toArray:=by
 congr 1;refine Eq.trans (ig (g:=fun k=>its.reverse[k]?) fun k hk=>?_) ?_
 ·have hk':=Zl.mp hk;have e:((its.length:Int)-1+(k:Int)*(-1)).toNat=its.length-1-k:=by lia
  rw[e,Bc hk'];simp
 ·have:=my its.reverse;rw[Qi]at this;exact this
def kP{its:List Value}(ht:IsTup s.heap t its.toArray)(hs:s.heap.IsSliceOf sl .none .none (.int (-1) u))(hsz:its.length<=sizeLine)
  (h:Q (.ref s.heap.objs.size) { s with heap:=s.heap.push { cls:=.type "tuple",data:=.seq its.reverse.toArray } }):wpAny (model prog w) A (getItem (.ref t) (.ref sl)) Q E s:=by
 have fits:sizeOk (.seq its.reverse.toArray):=by
  show its.reverse.toArray.size<=sizeLine;rw[Xb,Qi];exact hsz
 obtain⟨os,hos,hcs,hds⟩:=id hs;have hT:s.TypeIs (.ref sl) "slice":=⟨os,hos,hcs⟩;unfold getItem
 try with_reducible refine AB ?_
 first
  | refine Aa (Ad ?_)
  | skip
 refine Aa (CF ht.typeIs (by decide) ?_)
 refine Aa (Ap (name:=Str.ofString "__getitem__") ht.typeIs Av (As Av ht.typeIs Cb ?_ (Cq _ _)));show wpAny _ _ (Builtin.Tuple.tupleItemsOf (.ref t) >>= _) _ _ s;refine Aa (tupleItemsOf_ ht ?_);refine Aa (AR hT ?_);rw[Ae (by decide)]
 refine Aa (t3 hs ?_);have hno:¬ ((((its.toArray.size:Int)-1) == 0&&(-1:Int) == 1&&its.toArray.size == its.toArray.size)=true):=by
  intro q;rw[Xh,Xh]at q;exact absurd q.1.2 (by decide)
 show wpAny _ _ (if (((its.toArray.size:Int)-1) == 0&&(-1:Int) == 1&&its.toArray.size == its.toArray.size)=true then _ else _) _ _ s;rw[Ak hno];show wpAny _ _ (Builtin.Tuple.tupleExact ((List.range its.toArray.size).filterMap fun(k:Nat)=>its.toArray[((its.toArray.size:Int)-1+(k:Int)*(-1)).toNat]?).toArray >>= _) _ _ s;have e:((List.range its.toArray.size).filterMap fun(k:Nat)=>its.toArray[((its.toArray.size:Int)-1+(k:Int)*(-1)).toNat]?).toArray=its.reverse.toArray:=picked_rev its;rw[e]
 first
  | exact Aa (m:=Builtin.Tuple.tupleExact _) (An (Ad ⟨_,rfl,Ad h⟩) fits)
  | exact Aa (m:=Builtin.Tuple.tupleExact _) (An (Aa (Ad (Ad ⟨_,rfl,Ad h⟩))) fits)
  | exact Aa (Aa (m:=Builtin.Tuple.tupleExact _) (An (Ad (Ad ⟨_,rfl,Ad h⟩)) fits))
  | exact Aa (Aa (m:=Builtin.Tuple.tupleExact _) (An (Ad ⟨_,rfl,Ad h⟩) fits))
end
section
variable {X:Cx}{K:Ab}{Y:AS}{H:Hp}{v:V}{d:D}{vs:List V}{ds:List D}
def Jb(K:Ab)(te:TE):TE:=fun σ H Q=>te σ H fun x H1=>∃a xs,x=.ref a/\SqT K H1 a xs/\∀p,H1 p=none->Q (.ref p) (upd H1 p (.tup xs.reverse))
def Hj(he:PE X e te):PE X (.Subscript e (.Slice none none (some (.UnaryOp .USub (.Constant (.int 1) j p1) p2)) p3) pos) (Jb X.K te):=by
 intro pins s σ H Q I h;refine Cr (thn (he pins s σ H _ I h) fun v s1 zz9=>?_);obtain⟨x,H1,I1,r1,q1⟩:=zz9;obtain⟨a,xs,rfl,hx,q⟩:=q1;cases r1;refine wpAny_Slice ?_;rw[Ci];refine Ad ?_;refine Ad ?_;rw[evalPart_some];refine UnaryOp_ (Ck (neg_int ?_));have I2:=I1.tok (s1.toks+1+1);have I4:=I2.kept (t':=s1.toks+1+1) (h':=s1.heap.push { cls:=.type "slice",data:=.fields #[.none,.none,.int (-1) (s1.toks+1)] }) fun b ob q=>Ac _ q;obtain⟨its,r,ht,hz⟩:=I4.tuple hx;have hlen:=r.length;refine tail_any (ops:=[.ref a,.ref s1.heap.objs.size]) ht.typeIs Av.lookup ?_ (by with_unfolding_all rfl)
 refine kP ht (Heap.IsSliceOf.new ..) (by lia) ?_
 refine⟨.ref _,_,I4.laid (t':=s1.toks+1+1) (o:=.tup xs.reverse) (fun b ob q=>Ac _ q) (Qa _) ?_,rfl,q _ (I4.hok.fresh (Qa _))⟩;exact⟨by rw[Qi];exact hz,_,r.reverse,IsTup.new _ _⟩
def Jc(K:Ab)(te:TE):TE:=fun σ H Q=>IR K te σ H Q∨Jb K te σ H Q
def xc(h:X.K=K)(he:PE X e te):PE X (.Subscript e (.Slice none none (some (.UnaryOp .USub (.Constant (.int 1) j p1) p2)) p3) pos) (Jc K te):=by
 subst h;intro pins s σ H Q I hh;rcases hh with hh|hh
 ·exact Ki he pins s σ H Q I hh
 ·exact Hj he pins s σ H Q I hh
def Hk:D->Option Rz
 | .lst ds=>some (.lst ds.reverse,true)
 | .fl ds=>some (.lst ds.reverse,true)
 | .tup ds=>some (.tup ds.reverse,false)
 | _=>none
def t4(fe:FE):FE:=fun st=>(fe st).bind fun x=>(cont x.2 x.1).bind fun d=>(Hk d).bind fun z=>some (mk z,x.2)
theorem Ey(h:RdE K te fe):RdE K (Jc K te) (t4 fe):=by
 intro st σ H O Z Q E r st' e q;refine bsP e fun r1 st1 e1 e=>?_;refine bsO e fun d e2 e=>?_;refine bsO e fun z e3 e=>?_;cases e;cases d with
 | lst ds =>
  cases e3;refine .inl (h st σ H O Z _ E r1 _ e1 fun v H1 O1 x1 k1 E1 rv w1=>?_);obtain⟨a,vs,rfl,h1,el⟩:=rv.ba E1 e2;refine⟨a,vs,rfl,.inl (.inl h1),fun p hp=>?_⟩;obtain⟨E3,rv3⟩:=E1.new hp el.rev;exact q _ _ O1 (x1.trans (Same.ext (br hp _))) k1 E3 rv3 fun p' e=>by cases e;exact x1.dead hp
 | fl ds =>
  cases e3;refine .inl (h st σ H O Z _ E r1 _ e1 fun v H1 O1 x1 k1 E1 rv w1=>?_);obtain⟨a,vs,rfl,h1,el⟩:=rv.ba E1 e2;refine⟨a,vs,rfl,h1.sq,fun p hp=>?_⟩;obtain⟨E3,rv3⟩:=E1.new hp el.rev;exact q _ _ O1 (x1.trans (Same.ext (br hp _))) k1 E3 rv3 fun p' e=>by cases e;exact x1.dead hp
 | tup ds =>
  cases e3;refine .inr (h st σ H O Z _ E r1 _ e1 fun v H1 O1 x1 k1 E1 rv w1=>?_);obtain⟨a,vs,rfl,h1,el⟩:=rv.ba E1 e2;refine⟨a,vs,rfl,h1.sq,fun p hp=>?_⟩;obtain⟨E3,rv3⟩:=E1.newT hp el.rev;exact q _ _ O1 (x1.trans (Same.ext (br hp _))) k1 E3 rv3 True.intro
 | _=>cases e3
def leS(a b:Str):Prop:=¬ b.cps.toList<a.cps.toList
instance (a b:Str):Decidable (leS a b):=by unfold leS;infer_instance
def Ez(h:leS a b)(g:leS b a):a=b:=by
 unfold leS at *;rw[List.not_lt]at *;have e:=List.le_antisymm h g;cases a;cases b;exact congrArg Str.mk (Array.toList_inj.mp e)
def boot_sorted:bootBuiltins "sorted"=some (.builtin "sorted"):=by decide +kernel
end
end VF
namespace VF
open PySem L2
section
variable {K:Ab}
def yO(g:D->List D->Option (Rz×D))(i:Nat)(dds:List D)(fr:FA):FE:=fun st=>(st[i]?).bind fun s0=>(s0.ow).bind fun _=>(fr st).bind fun x=>(eG x.1 x.2).bind fun y=>(y.2[i]?).bind fun s=>(s.ow).bind fun d=>(g d (y.1++dds)).bind fun z=>some (mk z.1,y.2.set i (s.put z.2))
def vN(hd:∀Y H,El K Y H dvs dds)(hr:RdA K tr fr):RdE K (IU (jA K g) dvs (iB (vn i) tr)) (yO g i dds fr):=by
 intro st σ H O Z Q E r0 st' h q;refine bsO h fun s0 f1 h=>?_;refine bsO h fun x0 f2 h=>?_;refine bsP h fun rs st1 e1 h=>?_;refine bsP h fun ds st2 e2 h=>?_;refine bsO h fun s e3 h=>?_;refine bsO h fun x e4 h=>?_;refine bsP h fun z x' e5 h=>?_;cases h;obtain⟨p,g1,_,_⟩:=E.own i s0 x0 f1 f2;refine⟨.ref p,g1,?_⟩;refine hr st σ H O Z _ E rs st1 e1 fun vs H1 O1 x1 k1 E1 rvs=>?_;obtain⟨O2,x2,k2,E2,el⟩:=rvs.esc E1 e2;exact m6 E2 e3 e4 g1 (el.app (hd _ _)) e5 fun v H' O' ex kk E' rv w=>q v H' O' ((x1.trans x2).trans ex) ((k1.trans k2).trans kk) E' rv (w.back (x1.trans x2))
def dY{X:Cx}(hg:Gl X x)(hm:X.mg x=none)(hv:bootBuiltins x=some (.type T))(hn:x≠"__name__":=by decide)(hd:(x == ("__debug__":Str))=false:=by decide):PE X (.Name x pos) (tC (.ty T)):=GL hg hm hv rfl hn hd
def xf(K:Ab):Sp:=fun vs H Q _=>∃(a:Addr)(ns:List Int),vs=[.ref a]/\SqL K H a (ns.map V.int)/\ns.length<=63/\∀H',Q (.bl true) H'
end
end VF
namespace VF
open PySem L2
inductive Dp:Nat->D->Prop where
 | bl (n:Nat) (b:Bool):Dp (n+1) (.bl b)
 | int (n:Nat) (i:Int):Dp (n+1) (.int i)
 | str (n:Nat) (x:Str):Dp (n+1) (.str x)
 | non (n:Nat):Dp (n+1) .non
 | tup {n:Nat} {ds:List D}:ds.length<=1000000->(∀d∈ds,Dp n d)->Dp (n+1) (.tup ds)
 | lst {n:Nat} {ds:List D}:ds.length<=1000000->(∀d∈ds,Dp n d)->Dp (n+1) (.lst ds)
open Classical in
noncomputable def eW(n:Nat):List D->Option Rz
 | [u,v]=>if u=v/\Dp n u then some (.bl true,false) else none
 | _=>none
open Classical in
def iU(h:Dp n u):eW n [u,u]=some (.bl true,false):=by
 show(if u=u/\Dp n u then some (D.bl true,false) else none)=_;rw[Ae ⟨rfl,h⟩]
set_option tactic.hygienic true in
def qK(h:eW n ds=some z):∃u,ds=[u,u]/\Dp n u/\z=(.bl true,false):=by
 unfold eW at h;split at h
 ·rename_i u v
  by_cases c:u=v/\Dp n u
  ·rw[Ae c]at h;obtain⟨rfl,c⟩:=c;exact⟨u,rfl,c,(Option.some.inj h).symm⟩
  ·rw[Ak c]at h;cases h
 ·cases h
end VF
namespace VF
open PySem L2
section
variable {st st1 st2 st3 s s1 s2:En}{r r1 r2:Rs}{d d1 d2 x y x':D}{ds es:List D}{rs:List Rs}{z:Rz}{o:Ot}{i k n m:Nat}{F G B:FS}{fa fb fe fi':FE}{fr:FA}{f g:FT}{fi:FI}{fg:FG}{caps:List Nat}
def aC(h:F st=some (.nx s))(h2:G s=a):aL F G st=a:=by simp only[aL,h,Wa];exact h2
def iV(h:F st=some (.rt r s)):aL F G st=some (.rt r s):=by simp only[aL,h,Wa]
def fS(h:f st=some (true,s))(h2:F s=a):sIf f F G st=a:=by simp only[sIf,h,Wa,if_true];exact h2
def cJ(h:f st=some (false,s))(h2:G s=a):sIf f F G st=a:=by simp only[sIf,h,Wa,Qe,if_false];exact h2
def db(h:fe st=some (.d x,s))(h2:mB i (.v x) s=some s1):bi fe i st=some (.nx s1):=by simp only[bi,h,Wa,h2]
def eX(h:fe st=some (.f x,s))(h2:mB i (.o x) s=some s1):bi fe i st=some (.nx s1):=by simp only[bi,h,Wa,h2]
def ce(h:fe st=some (r,s)):cx fe st=some (.nx s):=by simp only[cx,h,Wa]
def aU(h:fe st=some (r,s)):bx fe st=some (.rt r s):=by simp only[bx,h,Wa]
def aE(h1:fa st=some (r1,s1))(h2:fb s1=some (r2,s2))(h3:cont s2 r1=some d1)(h4:cont s2 r2=some d2)(h5:b d1 d2=some z)(hz:mk z=r:=by rfl):fOp b fa fb st=some (r,s2):=by
 simp only[fOp,h1,h2,h3,h4,h5,hz,Wa]
def aj(h1:fa st=some (r,s1))(h2:fr s1=some (rs,s2)):ac fa fr st=some (r::rs,s2):=by simp only[ac,h1,h2,Wa]
def bp(h1:fr st=some (rs,s1))(h2:dU s1 rs=some ds)(h3:b ds=some z)(hz:mk z=r:=by rfl):fCB b fr st=some (r,s1):=by simp only[fCB,h1,h2,h3,hz,Wa]
def aZ(h1:fr st=some (rs,s1))(h2:eG rs s1=some (ds,s2))(h3:b ds=some z)(hz:mk z=r:=by rfl):bB b fr st=some (r,s2):=by simp only[bB,h1,h2,h3,hz,Wa]
def bD(h1:fr st=some (rs,s1))(h2:dU s1 rs=some ds)(h3:b ds=some (d,false))(h4:d.isSc=true):bF b fr st=some (.d d,s1):=by
 simp only[bF,h1,h2,h3,Wa,h4];rfl
def bY{t t0:Sl}(h0:st[i]?=some t0)(h00:t0.ow=some x0)(h1:fr st=some (rs,s1))(h2:eG rs s1=some (ds,s2))(h3:s2[i]?=some t)(h4:t.ow=some x)(h5:b x ds=some (z,x'))(hz:mk z=r:=by rfl)(h6:s2.set i (t.put x')=st3:=by rfl):fIO b i fr st=some (r,st3):=by
 simp only[fIO,h0,h00,h1,h2,h3,h4,h5,h6,hz,Wa]
def vO{t t0:Sl}(h0:st[i]?=some t0)(h00:t0.ow=some x0)(h1:fr st=some (rs,s1))(h2:eG rs s1=some (ds,s2))(h3:s2[i]?=some t)(h4:t.ow=some x)(h5:b x (ds++es)=some (z,x'))(hz:mk z=r:=by rfl)(h6:s2.set i (t.put x')=st3:=by rfl):yO b i es fr st=some (r,st3):=by
 simp only[yO,h0,h00,h1,h2,h3,h4,h5,h6,hz,Wa]
def f6{t t0:Sl}(h0:st[i]?=some t0)(h00:t0.ow=some x0)(hk:ok x0=true)(h1:fr st=some (rs,s1))(h2:eG rs s1=some (ds,s2))(h3:s2[i]?=some t)(h4:t.ow=some x)(h5:mm x ds=some (y,x'))(h6:s2.set i (t.put x')=st3:=by rfl):fM ok mm i fr st=some (.d y,st3):=by
 simp only[fM,h0,h00,hk,h1,h2,h3,h4,h5,h6,Wa,if_true]
def aQ(h:fe st=some (r,s))(h2:tru s r=some c):aH fe st=some (c,s):=by simp only[aH,h,h2,Wa]
def im(h:f st=some (c,s)):fR f st=some (!c,s):=by simp only[fR,h,Wa]
def fT(h:f st=some (true,s))(h2:g s=a):eT f g st=a:=by simp only[eT,h,Wa,if_true];exact h2
def jm(h:f st=some (false,s)):eT f g st=some (false,s):=by simp only[eT,h,Wa,Qe,if_false]
def oK(h:f st=some (false,s))(h2:g s=a):kL f g st=a:=by simp only[kL,h,Wa,Qe,if_false];exact h2
def ip(h:fa st=some (r,s))(h1:tru s r=some true)(h2:fb s=a):gW fa fb st=a:=by simp only[gW,h,h1,Wa,if_true];exact h2
def bO(h1:fi st=some (ds,s1))(h2:(rS caps s1.length&&decide (ds.length<=1000000))=true)(h3:cG fg fc fe k ds (kD k caps s1)=some (es,s2))(h4:wb caps (s2.drop k) s1=st3:=by rfl):cB k caps fi fg fc fe st=some (.f (.lst es),st3):=by
 simp only[cB,h1,Wa];rw[Ae h2,h3,← h4];rfl
def eI(h1:fi st=some (ds,s1))(h2:iE fg B ds s1=some o):gz fi fg B st=some o:=by simp only[gz,h1,Wa];exact h2
def aW(h0:ds.length=m)(h1:F (iQ n ds)=some o)(h2:fin o=some z):bC F n m ds=some z:=by
 simp only[bC,Ae h0,h1,Wa];exact h2
def cC(h0:ds.length+1=m)(h1:F (ii n x ds)=some o)(h2:IW o=some w):dA F n m x ds=some w:=by
 simp only[dA,Ae h0,h1,Wa];exact h2
theorem mI(h:D->D):∀(items:List D)(sb:En),(∀x∈items,∃s1 s2 y s3 s4,fg x sb=some s1/\fc s1=some (true,s2)/\fe s2=some (y,s3)/\esc y s3=some (h x,s4)/\rst k s4=sb)->cG fg fc fe k items sb=some (items.map h,sb)
 | [],sb,_=>rfl
 | x::r,sb,hh=>by
  obtain⟨s1,s2,y,s3,s4,e1,e2,e3,e4,e5⟩:=hh x Wb;have ih:=mI h r sb fun z hz=>hh z (Vb _ hz);simp only[cG,e1,e2,e3,e4,Wa,if_true,e5,ih,Xe]
theorem qL(I:List D->En->Prop)(step:∀(pre:List D)(x:D)(sb:En),I pre sb->∃s1 s2 y s3 d s4,fg x sb=some s1/\fc s1=some (true,s2)/\fe s2=some (y,s3)/\esc y s3=some (d,s4)/\I (pre++[d]) (rst k s4)) :
  ∀(items:List D)(pre:List D)(sb:En),I pre sb->∃ds sf,cG fg fc fe k items sb=some (ds,sf)/\ds.length=items.length/\I (pre++ds) sf
 | [],pre,sb,h=>⟨[],sb,rfl,rfl,by rw[Vc];exact h⟩
 | x::r,pre,sb,h=>by
  obtain⟨s1,s2,y,s3,d,s4,e1,e2,e3,e4,e5⟩:=step pre x sb h;obtain⟨ds,sf,e6,e7,e8⟩:=qL I step r (pre++[d]) (rst k s4) e5;refine⟨d::ds,sf,?_,by simp[e7],by rw[Yc]at e8;exact e8⟩
  simp only[cG,e1,e2,e3,e4,Wa,if_true,e6]
theorem t5(all:List D)(I:List D->En->Prop)(step:∀(gone:List D)(x:D)(st:En),x∈all->I gone st->∃s1 s2,fg x st=some s1/\B s1=some (.nx s2)/\I (gone++[x]) s2) :
  ∀(items gone:List D)(st:En),(∀x∈items,x∈all)->I gone st->∃sf,iE fg B items st=some (.nx sf)/\I (gone++items) sf
 | [],gone,st,_,h=>⟨st,rfl,by rw[Vc];exact h⟩
 | x::r,gone,st,ha,h=>by
  obtain⟨s1,s2,e1,e2,e3⟩:=step gone x st (ha x Wb) h;obtain⟨sf,e4,e5⟩:=t5 all I step r (gone++[x]) s2 (fun z hz=>ha z (Vb _ hz)) e3;refine⟨sf,?_,by rw[Yc]at e5;exact e5⟩
  simp only[iE,e1,e2,Wa];exact e4
theorem se(I:Nat->En->Prop)(Out:En->Prop)(step:∀(m:Nat)(st:En),I m st->(∃s1,f st=some (false,s1)/\Out s1)∨∃s1 s2 m',f st=some (true,s1)/\B s1=some (.nx s2)/\m'<m/\I m' s2) :
  ∀(n m:Nat)(st:En),m<n->I m st->∃sf,sWh f B n st=some (.nx sf)/\Out sf
 | 0,m,st,hn,_=>absurd hn (Nat.not_lt_zero _)
 | n+1,m,st,hn,h=>by
  rcases step m st h with⟨s1,e1,ho⟩|⟨s1,s2,m',e1,e2,hm,h2⟩
  ·exact⟨s1,by simp only[sWh,e1,Wa,Qe,if_false],ho⟩
  ·obtain⟨sf,e3,ho⟩:=se I Out step n m' s2 (by lia) h2
   exact⟨sf,by simp only[sWh,e1,e2,Wa,if_true];exact e3,ho⟩
end
end VF
namespace VF
open PySem L2
def ix_str{z:Str}(hz:z.length<=1000000)(h:atI z.cps.toList i=some c):bIx (.str z) (.int i)=some (.str ⟨#[c]⟩,false):=by
 have e1:Ed (.str z) (.int i)=none:=rfl;have e2:He (.str z) (.int i)=none:=rfl;have e3:Kz (.str z) (.int i)=some (.str ⟨#[c]⟩,false):=by
  show(if z.length<=1000000 then(atI z.cps.toList i).bind (fun c=>some (D.str ⟨#[c]⟩,false)) else none)=_;rw[Ae hz,h];rfl
 unfold bIx orD;rw[e1,e2];exact e3
def nZ{a b:Str}(h:a.length+b.length<=1000000):cE (.str a) (.str b)=some (.str (a++b),false):=by
 have e1:qF (.str a) (.str b)=none:=rfl;have e2:qG (.str a) (.str b)=some (.str (a++b),false):=by
  show(if a.length+b.length<=1000000 then some (D.str (a++b),false) else none)=_;rw[Ae h]
 unfold cE orD;rw[e1,e2]
def xg{a:Str}(h:0<=n/\n<=1000/\a.length<=1000):nI (.str a) (.int n)=some (.str (Txt.mul a n),false):=by
 have e1:wW (.str a) (.int n)=none:=rfl;have e2:Ea (.str a) (.int n)=some (.str (Txt.mul a n),false):=by
  show(if 0<=n/\n<=1000/\a.length<=1000 then some (D.str (Txt.mul a n),false) else none)=_;rw[Ae h]
 unfold nI orD;rw[e1,e2]
theorem oM:∀xs:List Str,mF (xs.map D.str)=some xs
 | []=>rfl
 | x::r=>by
  show(mF (r.map D.str)).bind (fun xs=>some (x::xs))=_;rw[oM r];rfl
theorem qM:∀xs:List Str,qI (xs.map D.str)=some (xs.map V.str)
 | []=>rfl
 | x::r=>by
  show(qI (r.map D.str)).bind (fun vs=>some (V.str x::vs))=_;rw[qM r];rfl
theorem qN:∀n:Nat,lM (List.replicate n (D.bl true))=some (List.replicate n true)
 | 0=>rfl
 | n+1=>by
  show(lM (List.replicate n (D.bl true))).bind (fun bs=>some (true::bs))=_;rw[qN n];rfl
def jI(n:Nat):qh [.lst (List.replicate n (D.bl true))]=some (.bl true,false):=by
 show(lM (List.replicate n (D.bl true))).bind (fun bs=>some (D.bl (bs.all id),false))=_;rw[qN];show some (D.bl ((List.replicate n true).all id),false)=_;have:(List.replicate n true).all id=true:=by
  rw[Xk];intro b hb;exact Di hb
 rw[this]
def Jd{xs:List Str}:bIn (.str x) (.lst (xs.map D.str))=some (.bl (decide (x∈xs)),false):=by
 have e1:Eb false (.str x) (.lst (xs.map D.str))=none:=rfl;have e2:Hd false (.str x) (.lst (xs.map D.str))=some (.bl (decide (x∈xs)),false):=by
  show(qI (xs.map D.str)).bind (fun ws=>some (D.bl (inV (.str x) ws),false))=_;rw[qM];show some (D.bl (inV (.str x) (xs.map V.str)),false)=_;have e:inV (.str x) (xs.map V.str)=decide (x∈xs):=by
   unfold inV;rw[CQ];induction xs with
   | nil=>rfl
   | cons y r ih =>
    rw[Bk,ih rfl];show((y == x)||decide (x∈r))=_;by_cases e:y=x
    ·subst e;simp
    ·have e':¬ x=y:=fun z=>e z.symm;simp[e,e']
  rw[e]
 unfold bIn orD;rw[e1];exact e2
def vP{z:Str}(h:z.length<=1000000):bSl (.str z) lo hi=some (.str (Txt.slice z lo hi),false):=by
 have e1:yK (.str z) lo hi=none:=rfl;have e2:nJ (.str z) lo hi=none:=rfl;have e3:Ee (.str z) lo hi=some (.str (Txt.slice z lo hi),false):=by
  show(if z.length<=1000000 then some (D.str (Txt.slice z lo hi),false) else none)=_;rw[Ae h]
 unfold bSl orS;rw[e1,e2];exact e3
section
variable {st s s1 s2 s3:En}{r r1:Rs}{rs:List Rs}{d d0 d1:D}{ds:List D}{z:Rz}{fe fo:FE}{fa:FA}{fl fh:FO}
def Je(h1:fo st=some (r1,s1))(h2:cont s1 r1=some d0)(h3:KC T d0=true)(h4:fa s1=some (rs,s2))(h5:cont s2 r1=some d)(h6:dU s2 rs=some ds)(h7:b d ds=some z)(hz:mk z=r:=by rfl):fBM T b fo fa st=some (r,s2):=by
 simp only[fBM,h1,h2,h3,h4,h5,h6,h7,hz,Wa,if_true]
def iW{j:Int}(h1:fa st=some (rs,s1))(h2:dU s1 rs=some [.int j])(h3:-(2 ^ 62)<=j/\j<2 ^ 62):qg fa st=some (rng 0 j.toNat,s1):=by
 simp only[qg,h1,h2,Wa,Km];rw[Ae h3]
def gY(h1:fe st=some (r,s1))(h2:fl s1=some (lo,s2))(h3:fh s2=some (hi,s3))(h4:cont s3 r=some d)(h5:b d lo hi=some z)(hz:mk z=r':=by rfl):fSl b fe fl fh st=some (r',s3):=by
 simp only[fSl,h1,h2,h3,h4,h5,hz,Wa]
def xh{f:FT}{fa fb:FE}{a:Option (Rs×En)}(h:f st=some (true,s))(h2:fa s=a):fIf f fa fb st=a:=by simp only[fIf,h,Wa,if_true];exact h2
def xi{f:FT}{fa fb:FE}{a:Option (Rs×En)}(h:f st=some (false,s))(h2:fb s=a):fIf f fa fb st=a:=by simp only[fIf,h,Wa,Qe,if_false];exact h2
def jn(h1:fe st=some (r,s1))(h2:esc r s1=some (.lst ds,s2)):fIA fe st=some (ds,s2):=by
 have:fIL fe st=some (ds,s2):=by simp only[fIL,h1,h2,Wa,D.its]
 unfold fIA;rw[this]
def eY(h1:fe st=some (r,s1))(h2:esc r s1=some (.tup ds,s2)):fIA fe st=some (ds,s2):=by
 have e1:fIL fe st=none:=by simp only[fIL,h1,h2,Wa,D.its,Option.bind_none]
 have e2:fIT fe st=some (ds,s2):=by simp only[fIT,h1,h2,Wa,D.itt]
 unfold fIA;rw[e1,e2]
def EA(h1:fe st=some (r,s1))(h2:cont s1 r=some d)(h3:Hk d=some z)(hz:mk z=r':=by rfl):t4 fe st=some (r',s1):=by
 simp only[t4,h1,h2,h3,hz,Wa]
def bq(h1:fa st=some (rs,s1))(h2:eG rs s1=some (ds,s2))(h3:ds.length<=1000000):bQ fa st=some (.d (.tup ds),s2):=by
 simp only[bQ,h1,h2,Wa];rw[Ae h3]
end
theorem oN(all:List D)(I:List D->En->Prop)(step:∀(gone:List D)(x:D)(rest:List D)(st:En),all=gone++x::rest->I gone st->∃s1 s2,fg x st=some s1/\B s1=some (.nx s2)/\I (gone++[x]) s2) :
  ∀(items gone:List D)(st:En),all=gone++items->I gone st->∃sf,iE fg B items st=some (.nx sf)/\I all sf
 | [],gone,st,ha,h=>⟨st,rfl,by rw[ha,Vc];exact h⟩
 | x::r,gone,st,ha,h=>by
  obtain⟨s1,s2,e1,e2,e3⟩:=step gone x r st ha h;obtain⟨sf,e4,e5⟩:=oN all I step r (gone++[x]) s2 (by rw[Yc];exact ha) e3
  refine⟨sf,?_,e5⟩;simp only[iE,e1,e2,Wa];exact e4
theorem qO(all:List D)(I:List D->List D->En->Prop)(step:∀(gone:List D)(x:D)(rest pre:List D)(sb:En),all=gone++x::rest->I gone pre sb->∃s1 s2 y s3 d s4,fg x sb=some s1/\fc s1=some (true,s2)/\fe s2=some (y,s3)/\esc y s3=some (d,s4)/\I (gone++[x]) (pre++[d]) (rst k s4)) :
  ∀(items gone pre:List D)(sb:En),all=gone++items->I gone pre sb->∃ds sf,cG fg fc fe k items sb=some (ds,sf)/\I all (pre++ds) sf
 | [],gone,pre,sb,ha,h=>⟨[],sb,rfl,by rw[ha,Vc,Vc];exact h⟩
 | x::r,gone,pre,sb,ha,h=>by
  obtain⟨s1,s2,y,s3,d,s4,e1,e2,e3,e4,e5⟩:=step gone x r pre sb ha h;obtain⟨ds,sf,e6,e8⟩:=qO all I step r (gone++[x]) (pre++[d]) (rst k s4) (by rw[Yc];exact ha) e5
  refine⟨d::ds,sf,?_,by rw[Yc]at e8;exact e8⟩
  simp only[cG,e1,e2,e3,e4,Wa,if_true,e6]
end VF
namespace VF
open PySem L2
inductive Pl:Nat->D->Prop where
 | non (n:Nat):Pl (n+1) .non
 | int (n:Nat) (i:Int):Pl (n+1) (.int i)
 | str (n:Nat) (x:Str):Pl (n+1) (.str x)
 | tup {n:Nat} {ds:List D}:(∀d∈ds,Pl n d)->Pl (n+1) (.tup ds)
 | lst {n:Nat} {ds:List D}:(∀d∈ds,Pl n d)->Pl (n+1) (.lst ds)
inductive RH(h:Heap):Value->D->Prop where
 | non:RH h .none .non
 | int (i:Int) (t:Tok):RH h (.int i t) (.int i)
 | str (x:Str) (t:Tok):RH h (.str x t) (.str x)
 | tup {a:Addr} {its:List Value} {ds:List D}:h.IsTuple a its.toArray->its.length=ds.length->(∀(i:Nat) u d,its[i]?=some u->ds[i]?=some d->RH h u d)->RH h (.ref a) (.tup ds)
 | lst {a:Addr} {its:List Value} {ds:List D}:h.IsList a its.toArray->its.length=ds.length->(∀(i:Nat) u d,its[i]?=some u->ds[i]?=some d->RH h u d)->RH h (.ref a) (.lst ds)
section
variable {X:Cx}{K:Ab}{Y:AS}{H:Hp}{s:Shared}{pins:List (Addr×Obj)}{σ:St}
theorem Pl.up(h:Pl n d):Pl (n+1) d:=by
 induction h with
 | non n=>exact .non _
 | int n i=>exact .int _ i
 | str n x=>exact .str _ x
 | tup _ ih=>exact .tup ih
 | lst _ ih=>exact .lst ih
theorem et:∀{vs:List V}{us:List Value},Vals vs us->∀(i:Nat) u,us[i]?=some u->∃v,vs[i]?=some v/\RelV v u
 | _,_,.nil,i,u,h=>by simp at h
 | v::_,w::_,.cons r rs,0,u,h=>by
  have e:w=u:=by simpa using h
  exact⟨v,rfl,e ▸ r⟩
 | _::_,_::_,.cons r rs,i+1,u,h=>by
  obtain⟨v,h1,h2⟩:=et rs i u (by simpa using h)
  exact⟨v,by simpa using h1,h2⟩
theorem DA.rh(h:DA K Y H v d)(p:Pl n d)(I:Inv X pins σ H s)(hK:X.K=K):∀{u:Value},RelV v u->RH s.heap u d:=by
 induction h generalizing n with
 | non=>intro u r;cases r;exact .non
 | bl b=>cases p
 | int i=>intro u r;obtain⟨t,rfl⟩:=r;exact .int i t
 | str x=>intro u r;obtain⟨t,rfl⟩:=r;exact .str x t
 | ty n=>cases p
 | fl _ _ _ _=>cases p
 | dk _ _ _ _ _=>cases p
 | dt _ _ _ _ _ _=>cases p
 | @tup a vs ds h1 h2 h3 ih =>
  intro u r;cases r;cases p with
  | tup p =>
   obtain⟨its,r,t,_⟩:=I.tuple (hK ▸ h1.sq);refine .tup t (r.length.symm.trans h2) fun i u d e1 e2=>?_;obtain⟨v,e3,rv⟩:=et r i u e1;exact ih i v d e3 e2 (p d (Yb e2)) rv
 | @lst a vs ds h0 h1 h2 h3 ih =>
  intro u r;cases r;cases p with
  | lst p =>
   obtain⟨its,r,t,_⟩:=I.list (show SqL X.K H a vs from .inl (.inl h1));refine .lst t.isList (r.length.symm.trans h2) fun i u d e1 e2=>?_;obtain⟨v,e3,rv⟩:=et r i u e1;exact ih i v d e3 e2 (p d (Yb e2)) rv
theorem BA.rh(h:BA K Y H v d)(p:Pl n d)(I:Inv X pins σ H s)(hK:X.K=K)(ru:RelV v u):RH s.heap u d:=by
 cases p with
 | non=>cases (show v=.non from h);cases ru;exact .non
 | int _ i=>cases (show v=.int i from h);obtain⟨t,rfl⟩:=ru;exact .int i t
 | str _ x=>cases (show v=.str x from h);obtain⟨t,rfl⟩:=ru;exact .str x t
 | tup p =>
  obtain⟨a,vs,rfl,h1,el⟩:=h;cases ru;obtain⟨its,r,t,_⟩:=I.tuple (hK ▸ h1.sq);refine .tup t (r.length.symm.trans el.1) fun i u d e1 e2=>?_;obtain⟨v,e3,rv⟩:=et r i u e1;exact(el.2 i v d e3 e2).rh (p d (Yb e2)) I hK rv
 | lst p =>
  obtain⟨a,vs,rfl,h1,el⟩:=h;cases ru;obtain⟨its,r,t,_⟩:=I.list (show SqL X.K H a vs from .inl (.inl h1));refine .lst t.isList (r.length.symm.trans el.1) fun i u d e1 e2=>?_;obtain⟨v,e3,rv⟩:=et r i u e1;exact(el.2 i v d e3 e2).rh (p d (Yb e2)) I hK rv
def yP{h:Heap}(h1:h.IsTuple a x)(h2:h.IsTuple a y):x=y:=by
 obtain⟨o,e1,_,n,d1⟩:=h1;obtain⟨o',e2,_,n',d2⟩:=h2;rw[e1]at e2;cases e2;rw[d1]at d2;cases d2;rfl
def vQ{h:Heap}(h1:h.IsList a x)(h2:h.IsList a y):x=y:=by
 obtain⟨o,e1,_,n,d1⟩:=h1;obtain⟨o',e2,_,n',d2⟩:=h2;rw[e1]at e2;cases e2;rw[d1]at d2;cases d2;rfl
def t6{h:Heap}(h1:h.IsList a x)(h2:h.IsTuple a y):False:=by
 obtain⟨o,e1,c1,_⟩:=h1;obtain⟨o',e2,c2,_⟩:=h2;rw[e1]at e2;cases e2;rw[c1]at c2;injection c2 with c2;exact absurd c2 (by decide)
theorem RH.inj(r:RH h u d):∀{d':D},RH h u d'->d=d':=by
 induction r with
 | non=>intro d' r';cases r';rfl
 | int i t=>intro d' r';cases r';rfl
 | str x t=>intro d' r';cases r';rfl
 | @tup a its ds t hl _ ih =>
  intro d' r';cases r' with
  | @tup _ its' ds' t' hl' f =>
   have e:its=its':=by simpa using yP t t'
   subst e;have:ds=ds':=by
    refine BN (hl.symm.trans hl') fun i h1 h2=>?_;exact ih i its[i] ds[i] (Za (by lia)) (Za h1) (f i its[i] ds'[i] (Za (by lia)) (Za h2))
   rw[this]
  | lst t' _ _=>exact(t6 t' t).elim
 | @lst a its ds t hl _ ih =>
  intro d' r';cases r' with
  | @lst _ its' ds' t' hl' f =>
   have e:its=its':=by simpa using vQ t t'
   subst e;have:ds=ds':=by
    refine BN (hl.symm.trans hl') fun i h1 h2=>?_;exact ih i its[i] ds[i] (Za (by lia)) (Za h1) (f i its[i] ds'[i] (Za (by lia)) (Za h2))
   rw[this]
  | tup t' _ _=>exact(t6 t t').elim
open Classical in
def EB{xs ys:List D}(h:xs.length=ys.length):((List.range xs.length).all fun j=>decide (xs[j]?=ys[j]?))=decide (xs=ys):=by
 rw[Zf,Xk,decide_eq_true_eq];constructor
 ·intro e;refine List.ext_getElem? fun j=>?_;by_cases hj:j<xs.length
  ·exact Am (e j (Zl.mpr hj))
  ·rw[Xn (by lia),Xn (by lia)]
 ·rintro rfl j _;exact Af rfl
open Classical in
def eq3{d1 d2:D}{u1 u2:Value}{A:Around}(h:¬ d1=d2)(a:SeqAt.EqAt A s u1 u2 false)(b:SeqAt.RcAt A s u1 u2 false)(c:SeqAt.RcNeAt A s u1 u2 true) :
  SeqAt.EqAt A s u1 u2 (decide (d1=d2))/\SeqAt.RcAt A s u1 u2 (decide (d1=d2))/\SeqAt.RcNeAt A s u1 u2 (!decide (d1=d2)):=by
 rw[Ag h];exact⟨a,b,c⟩
open Classical in
def it3{s:Shared}{its its':List Value}{ds ds':List D}(hl:its.length=ds.length)(hl':its'.length=ds'.length)(f:∀(j:Nat) u d,its[j]?=some u->ds[j]?=some d->RH s.heap u d)(f':∀(j:Nat) u d,its'[j]?=some u->ds'[j]?=some d->RH s.heap u d)(p1:∀d∈ds,Pl n d)(p2:∀d∈ds',Pl n d)
  (ih:∀{d1 d2:D}{u1 u2:Value},Pl n d1->Pl n d2->RH s.heap u1 d1->RH s.heap u2 d2->SeqAt.EqAt A s u1 u2 (decide (d1=d2)))(j:Nat)(h1:j<its.toArray.size)(h2:j<its'.toArray.size):SeqAt.EqAt A s its.toArray[j] its'.toArray[j] (decide (ds[j]?=ds'[j]?)):=by
 have h1':j<its.length:=by simpa using h1
 have h2':j<its'.length:=by simpa using h2
 have e1:ds[j]?=some ds[j]:=Za (hl ▸ h1');have e2:ds'[j]?=some ds'[j]:=Za (hl' ▸ h2');have z:=ih (p1 _ (Yb e1)) (p2 _ (Yb e2)) (f j its[j] _ (Za h1') e1) (f' j its'[j] _ (Za h2') e2);have e:decide (ds[j]?=ds'[j]?)=decide (ds[j]=ds'[j]):=by rw[e1,e2,Zf];simp
 rw[e];exact z
open Classical in
def RH.eqAt:∀(n:Nat){s:Shared}{d1 d2:D}{u1 u2:Value}{A:Around},Pl n d1->Pl n d2->RH s.heap u1 d1->RH s.heap u2 d2->A.units+n<cLine ->
  SeqAt.EqAt A s u1 u2 (decide (d1=d2))/\SeqAt.RcAt A s u1 u2 (decide (d1=d2))/\SeqAt.RcNeAt A s u1 u2 (!decide (d1=d2)):=by
 intro n;induction n with
 | zero=>intro s d1 d2 u1 u2 A p;cases p
 | succ n ih =>
  intro s d1 d2 u1 u2 A p1 p2 r1 r2 hu;have hu':A.units<cLine:=by lia
  cases r1 with
  | non =>
   cases r2 with
   | non=>rw[Af rfl];exact⟨SeqAt.EqAt.same _,SeqAt.RcAt.none_none,SeqAt.RcNeAt.none_none⟩
   | int i t=>exact eq3 (by intro z;cases z) (SeqAt.EqAt.none_int _ _) (SeqAt.RcAt.none_int _ _) (SeqAt.RcNeAt.none_int _ _)
   | str x t=>exact eq3 (by intro z;cases z) (SeqAt.EqAt.none_str _ _) (SeqAt.RcAt.none_str _ _) (SeqAt.RcNeAt.none_str _ _)
   | tup t _ _=>exact eq3 (by intro z;cases z) (SeqAt.EqAt.none_tuple t hu') (SeqAt.RcAt.none_tuple t hu') (SeqAt.RcNeAt.none_tuple t hu')
   | lst t _ _=>exact eq3 (by intro z;cases z) (SeqAt.EqAt.none_list t hu') (SeqAt.RcAt.none_list t hu') (SeqAt.RcNeAt.none_list t hu')
  | int i t =>
   cases r2 with
   | non=>exact eq3 (by intro z;cases z) (SeqAt.EqAt.int_none _ _) (SeqAt.RcAt.int_none _ _) (SeqAt.RcNeAt.int_none _ _)
   | int j t' =>
    have e:decide (D.int i=D.int j)=(i == j):=by rw[Zf];simp
    rw[e];exact⟨SeqAt.EqAt.int_int _ _ _ _,SeqAt.RcAt.int_int _ _ _ _,SeqAt.RcNeAt.int_int _ _ _ _⟩
   | str x t'=>exact eq3 (by intro z;cases z) (Ct _ _ _ _) (SeqAt.RcAt.int_str _ _ _ _) (SeqAt.RcNeAt.int_str _ _ _ _)
   | tup t' _ _=>exact eq3 (by intro z;cases z) (SeqAt.EqAt.int_tuple _ _ t' hu') (SeqAt.RcAt.int_tuple _ _ t' hu') (SeqAt.RcNeAt.int_tuple _ _ t' hu')
   | lst t' _ _=>exact eq3 (by intro z;cases z) (SeqAt.EqAt.int_list _ _ t' hu') (SeqAt.RcAt.int_list _ _ t' hu') (SeqAt.RcNeAt.int_list _ _ t' hu')
  | str x t =>
   cases r2 with
   | non=>exact eq3 (by intro z;cases z) (SeqAt.EqAt.str_none _ _) (SeqAt.RcAt.str_none _ _) (SeqAt.RcNeAt.str_none _ _)
   | int j t'=>exact eq3 (by intro z;cases z) (Cs _ _ _ _) (SeqAt.RcAt.str_int _ _ _ _) (SeqAt.RcNeAt.str_int _ _ _ _)
   | str y t' =>
    have e:decide (D.str x=D.str y)=(x == y):=by rw[Zf];simp
    rw[e];exact⟨SeqAt.EqAt.str_str _ _ _ _,SeqAt.RcAt.str_str _ _ _ _,SeqAt.RcNeAt.str_str _ _ _ _⟩
   | tup t' _ _=>exact eq3 (by intro z;cases z) (SeqAt.EqAt.str_tuple _ _ t' hu') (SeqAt.RcAt.str_tuple _ _ t' hu') (SeqAt.RcNeAt.str_tuple _ _ t' hu')
   | lst t' _ _=>exact eq3 (by intro z;cases z) (SeqAt.EqAt.str_list _ _ t' hu') (SeqAt.RcAt.str_list _ _ t' hu') (SeqAt.RcNeAt.str_list _ _ t' hu')
  | @tup a its ds t hl f =>
   cases r2 with
   | non=>exact eq3 (by intro z;cases z) (SeqAt.EqAt.tuple_none t hu') (SeqAt.RcAt.tuple_none t hu') (SeqAt.RcNeAt.tuple_none t hu')
   | int j t'=>exact eq3 (by intro z;cases z) (SeqAt.EqAt.tuple_int _ _ t hu') (SeqAt.RcAt.tuple_int _ _ t hu') (SeqAt.RcNeAt.tuple_int _ _ t hu')
   | str y t'=>exact eq3 (by intro z;cases z) (SeqAt.EqAt.tuple_str _ _ t hu') (SeqAt.RcAt.tuple_str _ _ t hu') (SeqAt.RcNeAt.tuple_str _ _ t hu')
   | lst t' _ _=>exact eq3 (by intro z;cases z) (SeqAt.EqAt.tuple_list t t' hu') (SeqAt.RcAt.tuple_list t t' hu') (SeqAt.RcNeAt.tuple_list t t' hu')
   | @tup b its' ds' t' hl' f' =>
    cases p1 with
    | tup p1 =>
    cases p2 with
    | tup p2 =>
    have it:=it3 (A:=A.in1) hl hl' f f' p1 p2 fun q1 q2 q3 q4=>(ih (A:=A.in1) q1 q2 q3 q4 (by show A.units+1+n<cLine;lia)).1
    have e:decide (D.tup ds=D.tup ds')=((List.range (min its.toArray.size its'.toArray.size)).all (fun j=>decide (ds[j]?=ds'[j]?))&&its.toArray.size == its'.toArray.size):=by
     simp only[Xb];by_cases hh:its.length=its'.length
     ·rw[← hh,Nat.min_self,hl,EB (by lia),Zf];simp
     ·have:ds≠ds':=fun z=>hh (by rw[hl,hl',z])
      rw[Zf];simp[hh,this]
    have rc:SeqAt.RcAt A s (.ref a) (.ref b) (decide (D.tup ds=D.tup ds')):=by
     rw[e];exact SeqAt.RcAt.tuples (A:=A) (e:=fun j=>decide (ds[j]?=ds'[j]?)) t t' hu' it
    have rn:SeqAt.RcNeAt A s (.ref a) (.ref b) (!decide (D.tup ds=D.tup ds')):=by
     rw[e];exact SeqAt.RcNeAt.tuples (A:=A) (e:=fun j=>decide (ds[j]?=ds'[j]?)) t t' hu' it
    refine⟨?_,rc,rn⟩;by_cases hab:a=b
    ·subst hab;have:=RH.inj (RH.tup t hl f) (RH.tup t' hl' f');rw[this,Af rfl];exact SeqAt.EqAt.same _
    ·exact SeqAt.EqAt.of_refs hab rc
  | @lst a its ds t hl f =>
   cases r2 with
   | non=>exact eq3 (by intro z;cases z) (SeqAt.EqAt.list_none t hu') (SeqAt.RcAt.list_none t hu') (SeqAt.RcNeAt.list_none t hu')
   | int j t'=>exact eq3 (by intro z;cases z) (SeqAt.EqAt.list_int _ _ t hu') (SeqAt.RcAt.list_int _ _ t hu') (SeqAt.RcNeAt.list_int _ _ t hu')
   | str y t'=>exact eq3 (by intro z;cases z) (SeqAt.EqAt.list_str _ _ t hu') (SeqAt.RcAt.list_str _ _ t hu') (SeqAt.RcNeAt.list_str _ _ t hu')
   | tup t' _ _=>exact eq3 (by intro z;cases z) (SeqAt.EqAt.list_tuple t t' hu') (SeqAt.RcAt.list_tuple t t' hu') (SeqAt.RcNeAt.list_tuple t t' hu')
   | @lst b its' ds' t' hl' f' =>
    cases p1 with
    | lst p1 =>
    cases p2 with
    | lst p2 =>
    have it:=it3 (A:=A.in1) hl hl' f f' p1 p2 fun q1 q2 q3 q4=>(ih (A:=A.in1) q1 q2 q3 q4 (by show A.units+1+n<cLine;lia)).1
    have both:SeqAt.RcAt A s (.ref a) (.ref b) (decide (D.lst ds=D.lst ds'))/\SeqAt.RcNeAt A s (.ref a) (.ref b) (!decide (D.lst ds=D.lst ds')):=by
     by_cases hh:its.length=its'.length
     ·have e:decide (D.lst ds=D.lst ds')=(List.range its.toArray.size).all fun j=>decide (ds[j]?=ds'[j]?):=by
       simp only[Xb];rw[hl,EB (by lia),Zf];simp
      rw[e];exact⟨SeqAt.RcAt.lists (A:=A) (e:=fun j=>decide (ds[j]?=ds'[j]?)) t t' (by simpa using hh) hu' it,SeqAt.RcNeAt.lists (A:=A) (e:=fun j=>decide (ds[j]?=ds'[j]?)) t t' (by simpa using hh) hu' it⟩
     ·have:ds≠ds':=fun z=>hh (by rw[hl,hl',z])
      rw[Ag (by intro z;cases z;exact this rfl)]
      exact⟨SeqAt.RcAt.lists_lengths t t' (by simpa using hh) hu',C7 t t' (by simpa using hh) hu'⟩
    obtain⟨rc,rn⟩:=both;refine⟨?_,rc,rn⟩;by_cases hab:a=b
    ·subst hab;have:=RH.inj (RH.lst t hl f) (RH.lst t' hl' f');rw[this,Af rfl];exact SeqAt.EqAt.same _
    ·exact SeqAt.EqAt.of_refs hab rc
open Classical in
noncomputable def t7(neg:Bool):D->D->Option Rz:=fun a b=>if Pl 40 a/\Pl 40 b then some (.bl (if neg then !decide (a=b) else decide (a=b)),false) else none
open Classical in
def EC(K:Ab)(neg:Bool):R2:=fun x y H Q=>∃(Y:AS)(a b:D),BA K Y H x a/\BA K Y H y b/\Pl 40 a/\Pl 40 b/\Q (.bl (if neg then !decide (a=b) else decide (a=b))) H
def ED(neg:Bool):RdOp K (EC K neg) (t7 neg):=by
 intro Y H x y d1 d2 z Q lv b1 b2 e q;unfold t7 at e;obtain⟨c,e⟩:=aT e;cases e;exact⟨Y,d1,d2,b1,b2,c.1,c.2,q _ H (Same.refl H) (.bl _)⟩
def KO(h:X.K=K)(hu:X.A.units+64<cLine):OpR X (compareOp .Eq) (EC K false):=by
 intro pins s σ H x y v u Q I rx ry ⟨Y,a,b,b1,b2,p1,p2,q⟩;exact(RH.eqAt 40 (A:=X.A) p1 p2 (b1.rh p1 I h rx) (b2.rh p2 I h ry) (by lia)).2.1 _ _ _ _ ⟨.bl _,H,I,rfl,q⟩
def KP(h:X.K=K)(hu:X.A.units+64<cLine):OpR X (compareOp .NotEq) (EC K true):=by
 intro pins s σ H x y v u Q I rx ry ⟨Y,a,b,b1,b2,p1,p2,q⟩;exact(RH.eqAt 40 (A:=X.A) p1 p2 (b1.rh p1 I h rx) (b2.rh p2 I h ry) (by lia)).2.2 _ _ _ _ ⟨.bl _,H,I,rfl,q⟩
noncomputable def sh:=orD bEq (t7 false)
noncomputable def lQ:=orD bNe (t7 true)
def Ms(K:Ab):R2:=fun x y H Q=>rEq x y H Q∨EC K false x y H Q
def Mt(K:Ab):R2:=fun x y H Q=>KJ K x y H Q∨EC K true x y H Q
def oO(h:X.K=K)(hu:X.A.units+64<cLine):OpR X (compareOp .Eq) (Ms K):=(KF h hu).or (KO h hu)
def oP:RdOp K (Ms K) sh:=ro_eqA.or (ED false)
def si(h:X.K=K)(hu:X.A.units+64<cLine):OpR X (compareOp .NotEq) (Mt K):=(iS h hu).or (KP h hu)
def sk:RdOp K (Mt K) lQ:=ro_neA.or (ED true)
open Classical in
noncomputable def vR(neg:Bool):D->D->Option Rz:=fun a b=>match b.seq with
 | some ds=>if Pl 40 a/\(∀d∈ds,Pl 40 d) then some (.bl (if neg then !decide (a∈ds) else decide (a∈ds)),false) else none
 | none=>none
open Classical in
def EE(K:Ab)(neg:Bool):R2:=fun x y H Q=>∃(Y:AS)(a b:D)(ds:List D),BA K Y H x a/\BA K Y H y b/\b.seq=some ds/\Pl 40 a/\(∀d∈ds,Pl 40 d)/\Q (.bl (if neg then !decide (a∈ds) else decide (a∈ds))) H
set_option tactic.hygienic true in
def EF(neg:Bool):RdOp K (EE K neg) (vR neg):=by
 intro Y H x y d1 d2 z Q lv b1 b2 e q;unfold vR at e;split at e
 ·rename_i ds hs
  obtain⟨c,e⟩:=aT e;cases e;exact⟨Y,d1,d2,ds,b1,b2,hs,c.1,c.2,q _ H (Same.refl H) (.bl _)⟩
 ·cases e
open Classical in
def lR{ds:List D}{its:List Value}{A:Around}(hl:its.length=ds.length)(f:∀(i:Nat) u d,its[i]?=some u->ds[i]?=some d->RH s.heap u d)(p1:Pl 40 a)(p2:∀d∈ds,Pl 40 d)(r:RH s.heap u a)(hu:A.units+64<cLine) :
  (∀y,y∈its.toArray->SeqAt.EqAt A.in1 s y u (decide (RH s.heap y a)))/\its.toArray.any (fun y=>decide (RH s.heap y a))=decide (a∈ds):=by
 constructor
 ·intro y hy;obtain⟨i,hi,rfl⟩:=Xm.mp (show y∈its by simpa using hy)
  have e1:ds[i]?=some ds[i]:=Za (by lia)
  have ry:=f i its[i] _ (Za hi) e1;have z:=(RH.eqAt 40 (A:=A.in1) (p2 _ (Yb e1)) p1 ry r (by show A.units+1+40<cLine;lia)).1
  have e:decide (ds[i]=a)=decide (RH s.heap its[i] a):=by
   rw[Zf,decide_eq_true_eq,decide_eq_true_eq];exact⟨fun e=>e ▸ ry,fun r'=>ry.inj r'⟩
  rw[← e];exact z
 ·rw[Zf,decide_eq_true_eq];simp only[List.any_toArray,List.any_eq_true,decide_eq_true_eq];constructor
  ·rintro⟨y,hy,ry⟩;obtain⟨i,hi,rfl⟩:=Xm.mp hy;have e1:ds[i]?=some ds[i]:=Za (by lia)
   have:=(f i its[i] _ (Za hi) e1).inj ry;rw[← this];exact Yb e1
  ·intro ha;obtain⟨i,hi,rfl⟩:=Xm.mp ha;exact⟨its[i],Bh _,f i _ _ (Za (by lia)) (Za hi)⟩
def qP{d:D}{ds:List D}(h:BA K Y H v d)(e:d.seq=some ds)(p:∀x∈ds,Pl 40 x)(I:Inv X pins σ H s)(hK:X.K=K)(ru:RelV v u) :
  ∃a its,u=.ref a/\(s.heap.IsList a (List.toArray its)∨s.heap.IsTuple a its.toArray)/\its.length=ds.length/\∀(i:Nat) u d,its[i]?=some u->ds[i]?=some d->RH s.heap u d:=by
 obtain⟨a,vs,rfl,sq,el⟩:=mD h e;cases ru;have rest:∀{its:List Value},Vals vs its->its.length=ds.length/\∀(i:Nat) u d,its[i]?=some u->ds[i]?=some d->RH s.heap u d:=fun {its} r=>by
  refine⟨r.length.symm.trans el.1,fun i u d e1 e2=>?_⟩;obtain⟨v,e3,rv⟩:=et r i u e1;exact(el.2 i v d e3 e2).rh (p d (Yb e2)) I hK rv
 rcases sq with sq|sq
 ·obtain⟨its,r,t,_⟩:=I.list (hK ▸ sq);exact⟨a,its,rfl,.inl t.isList,rest r⟩
 ·obtain⟨its,r,t,_⟩:=I.tuple (hK ▸ sq);exact⟨a,its,rfl,.inr t,rest r⟩
def KQ(h:X.K=K)(hu:X.A.units+64<cLine):OpR X (compareOp .In) (EE K false):=by
 intro pins s σ H x y v u Q I rx ry ⟨Y,a,b,ds,b1,b2,hs,p1,p2,q⟩;obtain⟨l,its,rfl,hl,hn,f⟩:=qP b2 hs p2 I h ry;obtain⟨h1,h2⟩:=lR (A:=X.A) hn f p1 p2 (b1.rh p1 I h rx) hu;rcases hl with hl|hl
 ·refine SeqAt.in_listAt _ hl h1 ?_;rw[h2];exact⟨.bl _,H,I,rfl,q⟩
 ·refine CT _ hl h1 ?_;rw[h2];exact⟨.bl _,H,I,rfl,q⟩
def yQ(h:X.K=K)(hu:X.A.units+64<cLine):OpR X (compareOp .NotIn) (EE K true):=by
 intro pins s σ H x y v u Q I rx ry ⟨Y,a,b,ds,b1,b2,hs,p1,p2,q⟩;obtain⟨l,its,rfl,hl,hn,f⟩:=qP b2 hs p2 I h ry;obtain⟨h1,h2⟩:=lR (A:=X.A) hn f p1 p2 (b1.rh p1 I h rx) hu;rcases hl with hl|hl
 ·refine SeqAt.notIn_listAt _ hl h1 ?_;rw[h2];exact⟨.bl _,H,I,rfl,q⟩
 ·refine SeqAt.notIn_tupleAt _ hl h1 ?_;rw[h2];exact⟨.bl _,H,I,rfl,q⟩
noncomputable def vS:=orD bIn (vR false)
noncomputable def eZ:=orD jG (vR true)
def Mu(K:Ab):R2:=fun x y H Q=>KD K x y H Q∨EE K false x y H Q
def xj(K:Ab):R2:=fun x y H Q=>rX K x y H Q∨EE K true x y H Q
def EG(h:X.K=K)(hu:X.A.units+64<cLine):OpR X (compareOp .In) (Mu K):=(rW h).or (KQ h hu)
def EH:RdOp K (Mu K) vS:=ro_inA.or (EF false)
def gm(h:X.K=K)(hu:X.A.units+64<cLine):OpR X (compareOp .NotIn) (xj K):=(mG h).or (yQ h hu)
def gq:RdOp K (xj K) eZ:=ro_notinA.or (EF true)
end
end VF
namespace VF
open PySem L2 PySem.Spec
section
variable {X:Cx}{a b e:Expr}{ta te:TE}
def iX(hK:X.K=K)(hc:X.calm=true)(h:PGs X es t)
  (hn:(assignEach es X.env).length=n:=by rfl)(hst:(assignEach es X.env).findIdx? (·.1)=none:=by rfl):PG X (.Tuple es k pos) (JB K n t):=hK ▸ JC hc h hn hst
end
section
variable {K:Ab}{Y O O' Z:AS}{H H':Hp}{v:V}{d:D}{st st':En}{σ:St}
def vT:FS:=fun _=>none
def t8:RdS K zO vT:=by
 intro st σ H O Z Dn E o e;cases e
end
end VF
namespace VF
open PySem L2 PySem.Spec
section
variable {X:Cx}{K:Ab}
def EI(K:Ab):R2:=fun x y H Q=>∃a b ys,x=.ref a/\y=.ref b/\SqT K H a []/\SqT K H b ys/\Q (.ref b) H
def Hl(h:X.K=K):OpR X (binaryOp .Add) (EI K):=by
 intro pins s σ H x y v u Q I rx ry hh;obtain⟨a,b,ys,rfl,rfl,ha,hb,q⟩:=hh;cases rx;cases ry;subst h;obtain⟨its,r1,p1,_⟩:=I.tuple ha;obtain⟨its2,r2,p2,_⟩:=I.tuple hb;cases r1;obtain⟨⟨cls,dd,data,sl⟩,ho,hc,n,hd⟩:=id p1;obtain⟨⟨cls2,dd2,data2,sl2⟩,ho2,hc2,n2,hd2⟩:=id p2;simp only at hc hd hc2 hd2;subst hc hd hc2 hd2;exact concat_meets ⟨_,ho,rfl⟩ ⟨_,ho2,rfl⟩ CS seq_tuple_add BQ BK (BG _ _)
   (PyProof.Rows.tuple_addW0 a b _ _ n n2 dd dd2 sl sl2 rfl) ⟨ho,ho2,.ref b,H,I,rfl,q⟩
def Jf:D->D->Option Rz
 | .tup [],.tup b=>some (.tup b,false)
 | _,_=>none
theorem Hm:RdOp K (EI K) Jf:=by
 intro Y H x y d1 d2 z Q lv b1 b2 e q;cases d1 with
 | tup a =>
  cases a with
  | cons a0 a=>cases e
  | nil =>
   cases d2 with
   | tup b =>
    cases e;obtain⟨p,xs,rfl,hp,el⟩:=b1;obtain⟨p2,ys,rfl,hp2,el2⟩:=b2;obtain rfl:=el.unnil;exact⟨p,p2,ys,rfl,rfl,hp.sq,hp2.sq,q _ H (Same.refl H) (.tup hp2 el2.1 el2.2)⟩
   | _=>cases e
 | _=>cases e
def jJ:=orD cE Jf
def Jg(K:Ab):R2:=fun x y H Q=>wZ K x y H Q∨EI K x y H Q
def sn(h:X.K=K):OpR X (binaryOp .Add) (Jg K):=(w5 h).or (Hl h)
def sr:RdOp K (Jg K) jJ:=ro_addA.or Hm
def KR(K:Ab):V->Option Int->Option Int->Hp->VK->Prop:=fun x lo hi H Q=>∃a xs,x=.ref a/\SqT K H a xs/\(HT.sIx xs.length 0 lo=0/\HT.sIx xs.length xs.length hi=xs.length)/\Q (.ref a) H
end
end VF
namespace HT
open PySem PyProof.Rows
section
variable {prog:Program}{w:World}{A:Around}{E:Value->Shared->Prop}{s:Shared}
def getItem_tuple_all{t sl:Addr}{items:Array Value}{vl vu:Value}{lo hi:Option Int}{Q:Value->Shared->Prop}(ht:IsTup s.heap t items)(hs:s.heap.IsSliceOf sl vl vu .none)(pl:IsPart vl lo)(pu:IsPart vu hi)
  (hw:sIx items.size 0 lo=0/\sIx items.size items.size hi=items.size)(h:Q (.ref t) s):wpAny (model prog w) A (getItem (.ref t) (.ref sl)) Q E s:=by
 obtain⟨os,hos,hcs,hds⟩:=id hs;have hTs:s.TypeIs (.ref sl) "slice":=⟨os,hos,hcs⟩;unfold getItem
 try with_reducible refine AB ?_
 first|refine Aa (Ad ?_)|skip
 refine Aa (CF ht.typeIs (by decide) ?_)
 refine Aa (Ap (name:=Str.ofString "__getitem__") ht.typeIs Av
  (As Av ht.typeIs Cb ?_ (Cq _ _)))
 show wpAny _ _ (Builtin.Tuple.tupleItemsOf (.ref t) >>= _) _ _ s;refine Aa (tupleItemsOf_ ht ?_);refine Aa (AR hTs ?_);rw[Ae (by decide)]
 refine Aa (iC hs pl pu ?_);have hyes:(((sIx items.size 0 lo:Nat):Int) == 0&&(1:Int) == 1&&(sIx items.size items.size hi-sIx items.size 0 lo) == items.size)=true:=by
  rw[hw.1,hw.2];simp
 show wpAny _ _ (if (((sIx items.size 0 lo:Nat):Int) == 0&&(1:Int) == 1&&(sIx items.size items.size hi-sIx items.size 0 lo) == items.size)=true then _ else _) _ _ s;rw[Ae hyes];unfold Builtin.Tuple.tupleIsExact;refine Aa (Aa (AR ht.typeIs (Ad ?_)));rw[Ae (by decide)]
 exact Aa (AH (Ad ⟨_,rfl,Ad h⟩))
end
end HT
namespace VF
open PySem L2
section
variable {X:Cx}{K:Ab}
def EJ(h:X.K=K):SlR X (KR K):=by
 intro pins s σ H x v vl vu lo hi sl Q I rx hs pl pu hh;obtain⟨a,xs,rfl,hx,hw,q⟩:=hh;cases rx;subst h;obtain⟨its,r,ht,hz⟩:=I.tuple hx;have hlen:its.toArray.size=xs.length:=by rw[Xb];exact r.length.symm
 refine⟨"tuple",_,Av.lookup,ht.typeIs,?_⟩;exact HT.getItem_tuple_all ht hs pl pu (by rw[hlen];exact hw) ⟨.ref a,H,I,rfl,q⟩
def Hn:D->Option Int->Option Int->Option Rz
 | .tup ds,lo,hi=>if HT.sIx ds.length 0 lo=0/\HT.sIx ds.length ds.length hi=ds.length then some (.tup ds,false) else none
 | _,_,_=>none
theorem Mv:RdSl K (KR K) Hn:=by
 intro Y H x lo hi d1 z Q lv b1 e q;cases d1 with
 | tup a =>
  obtain⟨c,e⟩:=aT e;cases e;obtain⟨p,xs,rfl,hp,el⟩:=b1;exact⟨p,xs,rfl,hp.sq,by rw[el.1];exact c,q _ H (Same.refl H) (.tup hp el.1 el.2)⟩
 | _=>cases e
def qi:=orS bSl Hn
def Mw(K:Ab):V->Option Int->Option Int->Hp->VK->Prop:=fun x lo hi H Q=>KK K x lo hi H Q∨KR K x lo hi H Q
def xk(h:X.K=K):SlR X (Mw K):=SlR.or (fZ h) (EJ h)
def t9:RdSl K (Mw K) qi:=RdSl.or ee Mv
def vU(ds:List D)(lo hi:Option Int):qi (.tup ds) lo hi=some (.tup (cutD ds lo hi),false):=by
 have e1:yK (.tup ds) lo hi=none:=rfl;have e3:Ee (.tup ds) lo hi=none:=rfl;by_cases c:HT.sIx ds.length 0 lo=0/\HT.sIx ds.length ds.length hi=ds.length
 ·have e2:nJ (.tup ds) lo hi=none:=by simp only[nJ,Ae c]
  have e4:Hn (.tup ds) lo hi=some (.tup ds,false):=by simp only[Hn,Ae c]
  have e5:cutD ds lo hi=ds:=by
   unfold cutD;rw[c.1,c.2];simp
  unfold qi bSl orS;rw[e1,e2,e3,e4,e5]
 ·have e2:nJ (.tup ds) lo hi=some (.tup (cutD ds lo hi),false):=by simp only[nJ,Ak c]
  unfold qi bSl orS;rw[e1,e2]
theorem Ho{a b:List D}(h:a.length+b.length<=100000):jJ (.tup a) (.tup b)=some (.tup (a++b),false):=by
 have e1:qF (.tup a) (.tup b)=none:=rfl;have e2:qG (.tup a) (.tup b)=none:=rfl;have e3:vJ (.tup a) (.tup b)=none:=rfl;cases a with
 | nil =>
  have e4:qH (.tup []) (.tup b)=none:=rfl;unfold jJ cE orD;rw[e1,e2,e3,e4];rfl
 | cons x a =>
  have e4:qH (.tup (x::a)) (.tup b)=some (.tup (x::a++b),false):=by
   simp only[Xd]at h;cases b with
   | nil=>simp only[qH,Vc];rw[Ae (by lia)]
   | cons y b =>
    simp only[Xd]at h;simp only[qH];rw[Ae (by lia)]
  unfold jJ cE orD;rw[e1,e2,e3,e4]
def ua{a b:List D}(h:a.length+b.length<=1000000):jJ (.lst a) (.lst b)=some (.lst (a++b),true):=by
 have e1:qF (.lst a) (.lst b)=none:=rfl;have e2:qG (.lst a) (.lst b)=none:=rfl;have e3:vJ (.lst a) (.lst b)=some (.lst (a++b),true):=by simp only[vJ];rw[Ae h]
 unfold jJ cE orD;rw[e1,e2,e3]
def EK{ds:List D}(h:j<=ds.length):cutD ds none (some (j:Int))=ds.take j:=by
 unfold cutD;rw[HT.sIx_none,HT.sIx_nat,Ym h];simp
def lS{ds:List D}(h:i<=ds.length):cutD ds (some (i:Int)) none=ds.drop i:=by
 unfold cutD;rw[HT.sIx_none,HT.sIx_nat,Ym h,A8];rw[Vf];lia
def Hq{ds:List D}(h:i<=ds.length)(h':j<=ds.length):cutD ds (some (i:Int)) (some (j:Int))=(ds.drop i).take (j-i):=by
 unfold cutD;rw[HT.sIx_nat,HT.sIx_nat,Ym h,Ym h']
end
end VF
namespace VF
open PySem L2
section
variable {α:Type}{fg:FG}{B:FS}{fc:FT}{fe:FE}{k:Nat}
theorem cT(f:α->D)(all:List α)(I:List α->En->Prop)(step:∀(gone:List α)(x:α)(rest:List α)(st:En),all=gone++x::rest->I gone st->∃s1 s2,fg (f x) st=some s1/\B s1=some (.nx s2)/\I (gone++[x]) s2) :
  ∀(items gone:List α)(st:En),all=gone++items->I gone st->∃sf,iE fg B (items.map f) st=some (.nx sf)/\I all sf
 | [],gone,st,ha,h=>⟨st,rfl,by rw[ha,Vc];exact h⟩
 | x::r,gone,st,ha,h=>by
  obtain⟨s1,s2,e1,e2,e3⟩:=step gone x r st ha h;obtain⟨sf,e4,e5⟩:=cT f all I step r (gone++[x]) s2 (by rw[Yc];exact ha) e3
  refine⟨sf,?_,e5⟩;simp only[Xe,iE,e1,e2,Wa];exact e4
theorem eJ(f g:α->D)(p:α->Bool)(sb:En):∀(xs:List α),(∀x∈xs,∃s1 s2,fg (f x) sb=some s1/\fc s1=some (p x,s2)/\(p x=false->rst k s2=sb)/\(p x=true->∃y s3 s4,fe s2=some (y,s3)/\esc y s3=some (g x,s4)/\rst k s4=sb)) ->
  cG fg fc fe k (xs.map f) sb=some ((xs.filter p).map g,sb)
 | [],_=>rfl
 | x::r,h=>by
  obtain⟨s1,s2,e1,e2,hf,ht⟩:=h x Wb;have ih:=eJ f g p sb r fun y hy=>h y (Vb _ hy);cases hp:p x with
  | false =>
   rw[hp]at e2;simp only[Xe,cG,e1,e2,Wa,Qe,if_false,hf hp,ih,Xj,hp]
  | true =>
   rw[hp]at e2;obtain⟨y,s3,s4,e3,e4,e5⟩:=ht hp;simp only[Xe,cG,e1,e2,Wa,if_true,e3,e4,e5,ih,Xj,hp]
def b8(f g:α->D)(sb:En)(xs:List α)(h:∀x∈xs,∃s1 s2 y s3 s4,fg (f x) sb=some s1/\fc s1=some (true,s2)/\fe s2=some (y,s3)/\esc y s3=some (g x,s4)/\rst k s4=sb) :
  cG fg fc fe k (xs.map f) sb=some (xs.map g,sb):=by
 have:=eJ (fg:=fg) (fc:=fc) (fe:=fe) (k:=k) f g (fun _=>true) sb xs fun x hx=>by
  obtain⟨s1,s2,y,s3,s4,e1,e2,e3,e4,e5⟩:=h x hx;exact⟨s1,s2,e1,e2,fun z=>(Bool.noConfusion z),fun _=>⟨y,s3,s4,e3,e4,e5⟩⟩
 rw[this,List.filter_eq_self.mpr fun _ _=>rfl]
end
section
variable {st s1:En}{rs:List Rs}{fa:FA}
def Hr{xs ys:List D}(h:xs.length+ys.length<=1000000):iT (.lst xs) [.lst ys]=some (.non,.lst (xs++ys)):=by
 show(if xs.length+ys.length<=1000000 then some (D.non,D.lst (xs++ys)) else none)=_;rw[Ae h]
end
end VF
namespace VF22
open PySem PySem.Spec PyProof.Rows L2 VF
def ItN(t:Bool):String:=if t then "tuple_iterator" else "list_iterator"
def SqN(t:Bool):String:=if t then "tuple" else "list"
def Io(t:Bool)(h:Heap)(a l:Addr)(i:Nat):Prop:=∃o,h.get? a=some o/\o.cls=.type (ItN t)/\o.data=.fields #[.ref l,.int i 0]
def So(t:Bool)(h:Heap)(l:Addr)(xs:Array Value):Prop:=∃o,h.get? l=some o/\o.cls=.type (SqN t)/\∃n,o.data=.seq xs n
variable {t t1 t2:Bool}{h h':Heap}
theorem Io.by(a:Io t h it l i)(k:∀o,h.get? it=some o->h'.get? it=some o):Io t h' it l i:=by
 obtain⟨o,e,r⟩:=a;exact⟨o,k o e,r⟩
theorem So.by(a:So t h l xs)(k:∀o,h.get? l=some o->h'.get? l=some o):So t h' l xs:=by
 obtain⟨o,e,r⟩:=a;exact⟨o,k o e,r⟩
section
variable {P:Program}{w:World}{A:Around}{E:Value->Shared->Prop}{s:Shared}
def EL(a:Io t s.heap it l i)(b:So t s.heap l xs)(hx:xs[i]?=some x)
  (q:∀h1,Io t h1 it l (i+1)->Heap.SameBut it s.heap h1->Q x { s with heap:=h1 }):wpAny (model P w) A (Builtin.SmallTypes.nextOf (.ref it)) Q E s:=by
 cases t with
 | false=>exact wpAny_nextOf_list_item (i:=i) (l:=l) (items:=xs) a b hx q
 | true =>
  obtain⟨u,hu,cu,du⟩:=id a;obtain⟨v,hv,cv,nv,dv⟩:=b;have ty:s.heap.IsTupleIter it l i:=⟨u,hu,cu,du⟩;unfold Builtin.SmallTypes.nextOf;refine Aa (Ap (name:=Str.ofString "__next__") ty.typeIs F.slot_tuple_iterator_next (As F.slot_tuple_iterator_next ty.typeIs F.entry_tuple_iterator_next ?_ (F.args_tuple_iterator_next_1 _)));show wpAny _ _ (field (.ref it) 0 >>= _) _ _ _;refine Aa (At hu du (x:=.ref l) rfl ?_);show wpAny _ _ (if (Value.ref l == Value.none)=true then _ else _) _ _ _;rw[Ak (show ¬ ((Value.ref l == .none)=true) from Wd)];show wpAny _ _ (field (.ref it) 1 >>= _) _ _ _;refine Aa (At hu du (x:=.int i 0) rfl ?_);show wpAny _ _ (seqItems? (.ref l) >>= _) _ _ _;refine Aa (AD hv dv ?_);simp only[hx,Wm];refine Aa (B6 hu du (by simp) (Ad ⟨x,rfl,Ad (q _ ?_ (Bo ..))⟩))
  refine⟨_,B3 _ hu (Obj.isFreed_of_fields (Bt du _)),(Obj.cls_mapFields ..).trans cu,?_⟩;rw[Bt du];simp[rawInt]
def EM(hh:A.handled=none)(a:Io t s.heap it l i)(b:So t s.heap l xs)(hx:xs[i]?=none)
  (q:∀h1 e,Heap.ExtBut it s.heap h1->(∃o,h1.get? e=some o/\o.cls=.type "StopIteration")->E (.ref e) { s with heap:=h1 }):wpAny (model P w) A (Builtin.SmallTypes.nextOf (.ref it)) Q E s:=by
 cases t with
 | false=>exact wpAny_nextOf_list_end (i:=i) (l:=l) (items:=xs) hh a b hx q
 | true =>
  obtain⟨u,hu,cu,du⟩:=id a;obtain⟨v,hv,cv,nv,dv⟩:=b;have ty:s.heap.IsTupleIter it l i:=⟨u,hu,cu,du⟩;unfold Builtin.SmallTypes.nextOf;refine Aa (Ap (name:=Str.ofString "__next__") ty.typeIs F.slot_tuple_iterator_next (As F.slot_tuple_iterator_next ty.typeIs F.entry_tuple_iterator_next ?_ (F.args_tuple_iterator_next_1 _)));show wpAny _ _ (field (.ref it) 0 >>= _) _ _ _;refine Aa (At hu du (x:=.ref l) rfl ?_);show wpAny _ _ (if (Value.ref l == Value.none)=true then _ else _) _ _ _;rw[Ak (show ¬ ((Value.ref l == .none)=true) from Wd)];show wpAny _ _ (field (.ref it) 1 >>= _) _ _ _;refine Aa (At hu du (x:=.int i 0) rfl ?_);show wpAny _ _ (seqItems? (.ref l) >>= _) _ _ _;refine Aa (AD hv dv ?_);simp only[hx,Wm];refine Aa (AH (Aa (B6 hu du (by simp) ?_)))
  show wpAny _ _ (newExc (.type "StopIteration") [] >>= _) _ _ _;refine Aa ?_;simp only[newExc,newTuple];refine Aa (An ?_ (by size_fits))
  refine Aa (m:=firstArgMember _ _) (wpAny_of_eq (a:=.none) (by first|rfl|(simp only[firstArgMember];rfl)) ?_)
  refine An ?_ (by size_fits)
  simp only[raiseNew];refine Aa (wpAny_handled ?_)
  first|rw[show A.in1.handled=none from hh]|rw[hh]
  refine Aa (Ad (wpAny_throw ?_));exact q _ _ (((Bo ..).extBut.push _).push _) ⟨_,Ai _ rfl,rfl⟩
def Mx(W:ZipApart z T1 T2 i1 i2 l1 l2)(hz:IsZip s.heap z T1 T2 .none)(p1:IsPair s.heap T1 (.ref i1) (.ref i2))(p2:IsPair s.heap T2 a b)
  (u1:Io t1 s.heap i1 l1 k)(u2:Io t2 s.heap i2 l2 k)(v1:So t1 s.heap l1 xs)(v2:So t2 s.heap l2 ys)(hx:xs[k]?=some x)(hy:ys[k]?=some y)
  (q:∀g,IsZip g z T1 T2 (rawInt s.heap.objs.size)->IsPair g T2 x y->Io t1 g i1 l1 (k+1)->Io t2 g i2 l2 (k+1)->IsPair g s.heap.objs.size x y ->
   (∀c o,c≠z->c≠T2->c≠i1->c≠i2->s.heap.get? c=some o->g.get? c=some o)->Q (some (.ref s.heap.objs.size)) { s with heap:=g }):wpAny (model P w) A (pyNext (.ref z)) Q E s:=by
 have ty:s.TypeIs (.ref z) "zip":=⟨_,hz,rfl⟩;unfold pyNext;refine Aa (BD (Ap (name:=Str.ofString "__next__") ty F.slot_zip_next (As F.slot_zip_next ty F.entry_zip_next ?_ (F.args_zip_next_1 _))));show wpAny _ _ (field (.ref z) 2 >>= _) _ _ s;refine Aa (At hz rfl (x:=.bool false) rfl ?_);show wpAny _ _ (field (.ref z) 3 >>= _) _ _ s;refine Aa (At hz rfl (x:=.ref T1) rfl ?_);refine Aa (AD p1 rfl ?_);show wpAny _ _ (Builtin.SmallTypes.ownedTupleIsFree (.ref z) >>= _) _ _ s;refine Aa ?_;unfold Builtin.SmallTypes.ownedTupleIsFree;refine Aa (At hz rfl (x:=Value.none) rfl (Ad ?_));simp only[if_true];refine Aa (AH ?_);refine Aa (At hz rfl (x:=.ref T2) rfl ?_);refine Aa (AG hz (by simp) fun g1 z1 s1=>?_)
 replace z1:IsZip g1 z T1 T2 .ellipsis:=z1
 refine Aa ?_;simp only[BY,List.forIn_nil,Bg,List.zipIdx_nil];refine Aa (Aa (Cf ?_));show wpAny _ _ (Builtin.SmallTypes.nextOf (.ref i1) >>= _) _ _ { s with heap:=g1 };refine Aa (EL (s:={ s with heap:=g1 }) (u1.by fun o e=>s1.extBut _ o W.i1z e) (v1.by fun o e=>s1.extBut _ o W.l1z e) hx fun g2 n1 s2=>Ad ?_)
 have p22:IsPair g2 T2 a b:=s2.extBut _ _ W.TOi1 (s1.extBut _ _ W.TOz p2);refine Aa (AD p22 rfl ?_);refine Aa (B5 p22 fun g3 p23 s3=>?_);replace p23:IsPair g3 T2 x b:=p23;refine Aa (wpAny_letGo (Ad ?_));refine Aa (Aa (Cf ?_));show wpAny _ _ (Builtin.SmallTypes.nextOf (.ref i2) >>= _) _ _ { s with heap:=g3 };refine Aa (EL (s:={ s with heap:=g3 }) (u2.by fun o e=>s3.extBut _ o W.TOi2.symm (s2.extBut _ o W.i12.symm (s1.extBut _ o W.i2z e))) (v2.by fun o e=>s3.extBut _ o W.l2TO (s2.extBut _ o W.l2i1 (s1.extBut _ o W.l2z e))) hy fun g4 n2 s4=>Ad ?_)
 have p24:IsPair g4 T2 x b:=s4.extBut _ _ W.TOi2 p23;refine Aa (AD p24 rfl ?_);refine Aa (B5 p24 fun g5 p25 s5=>?_);replace p25:IsPair g5 T2 x y:=p25;refine Aa (wpAny_letGo (Ad (Ad ?_)));refine Aa (AD p25 rfl ?_);refine Aa (wpAny_newTuple ?_);have sz:g5.objs.size=s.heap.objs.size:=by rw[s5.1,s4.1,s3.1,s2.1,s1.1]
 have z5:IsZip g5 z T1 T2 .ellipsis:=s5.extBut _ _ W.TOz.symm (s4.extBut _ _ W.i2z.symm (s3.extBut _ _ W.TOz.symm (s2.extBut _ _ W.i1z.symm z1)));have k5:∀c o,c≠z->c≠T2->c≠i1->c≠i2->s.heap.get? c=some o->g5.get? c=some o:=fun c o c1 c2 c3 c4 e=>s5.extBut _ _ c2 (s4.extBut _ _ c4 (s3.extBut _ _ c2 (s2.extBut _ _ c3 (s1.extBut _ _ c1 e))));have n15:Io t1 g5 i1 l1 (k+1):=n1.by fun o e=>s5.extBut _ o W.TOi1.symm (s4.extBut _ o W.i12 (s3.extBut _ o W.TOi1.symm e))
 have n25:Io t2 g5 i2 l2 (k+1):=n2.by fun o e=>s5.extBut _ o W.TOi2.symm e
 have zl:z<g5.objs.size:=Aj z5;show wpAny _ _ (Builtin.SmallTypes.ownedTupleHandOut (.ref z) (.ref g5.objs.size) >>= _) _ _ _;refine Aa ?_;unfold Builtin.SmallTypes.ownedTupleHandOut;have z6:IsZip (g5.push { cls:=.type "tuple",data:=.seq #[x,y] }) z T1 T2 .ellipsis:=Ac _ z5;refine Aa (AG z6 (by simp) fun g7 z7 s7=>?_)
 replace z7:IsZip g7 z T1 T2 (rawInt g5.objs.size):=z7
 refine AG z7 (by simp) fun g8 z8 s8=>?_
 replace z8:IsZip g8 z T1 T2 (rawInt g5.objs.size):=z8
 have up:∀c o,c≠z->g5.get? c=some o->g8.get? c=some o:=fun c o c1 e=>s8.extBut _ _ c1 (s7.extBut _ _ c1 (Ac _ e));have pT:IsPair g8 g5.objs.size x y:=s8.extBut _ _ (Vj zl) (s7.extBut _ _ (Vj zl) (Ai _ rfl));rw[sz]at z8 pT;refine Ad ⟨_,rfl,Ad ?_⟩;show Q (some (.ref g5.objs.size)) _;rw[sz];exact q g8 z8 (up _ _ W.TOz p25) (n15.by fun o e=>up _ o W.i1z e) (n25.by fun o e=>up _ o W.i2z e) pT fun c o c1 c2 c3 c4 e=>up c o c1 (k5 c o c1 c2 c3 c4 e)
def KS(hh:A.handled=none)(W:ZipApart z T1 T2 i1 i2 l1 l2)(hz:IsZip s.heap z T1 T2 .none)(p1:IsPair s.heap T1 (.ref i1) (.ref i2))(p2:IsPair s.heap T2 a b)
  (u1:Io t1 s.heap i1 l1 k)(u2:Io t2 s.heap i2 l2 k)(v1:So t1 s.heap l1 xs)(v2:So t2 s.heap l2 ys)(hend:xs[k]?=none∨ys[k]?=none)
  (q:∀g,(∀c o,c≠z->c≠T2->c≠i1->c≠i2->s.heap.get? c=some o->g.get? c=some o)->Q none { s with heap:=g }):wpAny (model P w) A (pyNext (.ref z)) Q E s:=by
 have ty:s.TypeIs (.ref z) "zip":=⟨_,hz,rfl⟩;unfold pyNext;have fin:∀g e,(∀c o,c≠z->c≠T2->c≠i1->c≠i2->s.heap.get? c=some o->g.get? c=some o)->(∃o,g.get? e=some o/\o.cls=.type "StopIteration")->wpAny (model P w) A (do if (← isInstance (.ref e) (.type "StopIteration")) then return none else throw (.ref e)) Q E { s with heap:=g }:=fun g e kp ⟨o,ho,ho2⟩ =>
  Aa (wpAny_isInstance (T:="StopIteration") (b:=true) ⟨o,ho,ho2⟩ isSubtype_stop (Ad (q g kp)))
 refine Aa (BD (Ap (name:=Str.ofString "__next__") ty F.slot_zip_next (As F.slot_zip_next ty F.entry_zip_next ?_ (F.args_zip_next_1 _))));show wpAny _ _ (field (.ref z) 2 >>= _) _ _ s;refine Aa (At hz rfl (x:=.bool false) rfl ?_);show wpAny _ _ (field (.ref z) 3 >>= _) _ _ s;refine Aa (At hz rfl (x:=.ref T1) rfl ?_);refine Aa (AD p1 rfl ?_);show wpAny _ _ (Builtin.SmallTypes.ownedTupleIsFree (.ref z) >>= _) _ _ s;refine Aa ?_;unfold Builtin.SmallTypes.ownedTupleIsFree;refine Aa (At hz rfl (x:=Value.none) rfl (Ad ?_));simp only[if_true];refine Aa (AH ?_);refine Aa (At hz rfl (x:=.ref T2) rfl ?_);refine Aa (AG hz (by simp) fun g1 z1 s1=>?_)
 replace z1:IsZip g1 z T1 T2 .ellipsis:=z1
 refine Aa ?_;simp only[BY,List.forIn_nil,Bg,List.zipIdx_nil];refine Aa (Aa (Cf ?_));show wpAny _ _ (Builtin.SmallTypes.nextOf (.ref i1) >>= _) _ _ { s with heap:=g1 };have w1:Io t1 g1 i1 l1 k:=u1.by fun o e=>s1.extBut _ o W.i1z e
 have w2:So t1 g1 l1 xs:=v1.by fun o e=>s1.extBut _ o W.l1z e
 cases hx:xs[k]? with
 | none =>
  refine Aa (EM (s:={ s with heap:=g1 }) hh w1 w2 hx fun g2 e s2 he=>?_);obtain⟨oe,he1,he2⟩:=he;have z2:IsZip g2 z T1 T2 .ellipsis:=s2 _ _ W.i1z.symm z1;have ne:e≠z:=fun m=>by subst m;rw[z2]at he1;cases he1;simp at he2
  exact AG z2 (by simp) fun g3 _ s3=>fin g3 e (fun c o c1 _ c3 _ m=>s3.extBut _ _ c1 (s2 _ _ c3 (s1.extBut _ _ c1 m))) ⟨oe,s3.extBut _ _ ne he1,he2⟩
 | some x =>
  have hy:ys[k]?=none:=by
   rcases hend with m|m
   ·rw[hx]at m;cases m
   ·exact m
  refine Aa (EL (s:={ s with heap:=g1 }) w1 w2 hx fun g2 n1 s2=>Ad ?_);have p22:IsPair g2 T2 a b:=s2.extBut _ _ W.TOi1 (s1.extBut _ _ W.TOz p2);refine Aa (AD p22 rfl ?_);refine Aa (B5 p22 fun g3 p23 s3=>?_);refine Aa (wpAny_letGo (Ad ?_));refine Aa (Aa (Cf ?_));show wpAny _ _ (Builtin.SmallTypes.nextOf (.ref i2) >>= _) _ _ { s with heap:=g3 };refine Aa (EM (s:={ s with heap:=g3 }) hh (u2.by fun o e=>s3.extBut _ o W.TOi2.symm (s2.extBut _ o W.i12.symm (s1.extBut _ o W.i2z e))) (v2.by fun o e=>s3.extBut _ o W.l2TO (s2.extBut _ o W.l2i1 (s1.extBut _ o W.l2z e))) hy fun g4 e s4 he=>?_)
  obtain⟨oe,he1,he2⟩:=he;have z4:IsZip g4 z T1 T2 .ellipsis:=s4 _ _ W.i2z.symm (s3.extBut _ _ W.TOz.symm (s2.extBut _ _ W.i1z.symm z1));have ne:e≠z:=fun m=>by subst m;rw[z4]at he1;cases he1;simp at he2
  exact AG z4 (by simp) fun g5 _ s5=>fin g5 e (fun c o c1 c2 c3 c4 m=>s5.extBut _ _ c1 (s4 _ _ c4 (s3.extBut _ _ c2 (s2.extBut _ _ c3 (s1.extBut _ _ c1 m))))) ⟨oe,s5.extBut _ _ ne he1,he2⟩
end
end VF22
namespace VF22
open PySem PySem.Spec PyProof.Rows L2 VF
section
variable {t t1 t2:Bool}{P:Program}{w:World}{A:Around}{E:Value->Shared->Prop}{s:Shared}
def zI(t:Bool)(l:Addr):Obj:={ cls:=.type (ItN t),data:=.fields #[.ref l,.int 0 0] }
theorem xn(b:So t s.heap l xs)(q:Q (.ref s.heap.objs.size) { s with heap:=s.heap.push (zI t l) }):wpAny (model P w) A (pyIter (.ref l)) Q E s:=by
 cases t with
 | false=>exact CG (items:=xs) b q
 | true=>exact wpAny_pyIter_tuple (items:=xs) b q
abbrev zA(t1:Bool)(h:Heap)(l1:Addr):Heap:=h.push (zI t1 l1)
abbrev zB(t1 t2:Bool)(h:Heap)(l1 l2:Addr):Heap:=(zA t1 h l1).push (zI t2 l2)
abbrev zC(t1 t2:Bool)(h:Heap)(l1 l2:Addr):Heap:=(zB t1 t2 h l1 l2).push { cls:=.type "tuple",data:=.seq #[.ref h.objs.size,.ref (zA t1 h l1).objs.size] }
abbrev zD(t1 t2:Bool)(h:Heap)(l1 l2:Addr):Heap:=(zC t1 t2 h l1 l2).push { cls:=.type "tuple",data:=.seq #[.none,.none] }
abbrev zE(t1 t2:Bool)(h:Heap)(l1 l2:Addr):Heap:=(zD t1 t2 h l1 l2).push { cls:=.type "zip",data:=.fields #[.none,.bool false,.bool false,.ref (zB t1 t2 h l1 l2).objs.size,.ref (zC t1 t2 h l1 l2).objs.size] }
def EN(t1 t2:Bool)(l1 l2:Addr)(xs ys:Array Value):Meets (Builtin.«zip.__new__» ⟨[.type "zip",.ref l1,.ref l2],[]⟩) (fun _ R s=>So t1 s.heap l1 xs/\So t2 s.heap l2 ys /\
   R (.ok (.ret (.ref (zD t1 t2 s.heap l1 l2).objs.size))) { s with heap:=zE t1 t2 s.heap l1 l2 }) :=
 .of_wp fun prog w A R s h=>by
  obtain⟨hp,g,d,tk,os⟩:=s;obtain⟨v1,v2,h⟩:=h;have hsub:=sub_zip;have L1:So t1 (Shared.heap ⟨hp,g,d,tk,os⟩) l1 xs:=v1;have L2:So t2 (Shared.heap ⟨hp.push (zI t1 l1),g,d,tk,os⟩) l2 ys:=So.by v2 fun o e=>Ac _ e
  wp_walk using xn L1,xn L2
  exact⟨_,rfl,h⟩
def EO(v1:So t1 s.heap l1 xs)(v2:So t2 s.heap l2 ys)
  (q:∀g,IsZip g (s.heap.objs.size+4) (s.heap.objs.size+2) (s.heap.objs.size+3) .none->IsPair g (s.heap.objs.size+2) (.ref s.heap.objs.size) (.ref (s.heap.objs.size+1))->IsPair g (s.heap.objs.size+3) .none .none ->
   Io t1 g s.heap.objs.size l1 0->Io t2 g (s.heap.objs.size+1) l2 0->(∀c o,s.heap.get? c=some o->g.get? c=some o)->Q (.ref (s.heap.objs.size+4)) { s with heap:=g }) :
  wpAny (model P w) A (call (.type "zip") [.ref l1,.ref l2]) Q E s:=by
 refine callType_new F.called_zip (by decide) (F.typeCall_zip_2 _ _) (F.newCall_zip_2 _ _) (fun obj=>F.args_object_init_3 obj _ _) F.entry_zip_new (EN t1 t2 l1 l2 xs ys) ⟨v1,v2,?_⟩
 have m1:(zA t1 s.heap l1).objs.size=s.heap.objs.size+1:=Bz ..;have m2:(zB t1 t2 s.heap l1 l2).objs.size=s.heap.objs.size+2:=by rw[Bz,m1]
 have m3:(zC t1 t2 s.heap l1 l2).objs.size=s.heap.objs.size+3:=by rw[Bz,m2]
 have m4:(zD t1 t2 s.heap l1 l2).objs.size=s.heap.objs.size+4:=by rw[Bz,m3]
 have g5:(zE t1 t2 s.heap l1 l2).get? (zD t1 t2 s.heap l1 l2).objs.size=some _:=Ai _ rfl;have g4:(zE t1 t2 s.heap l1 l2).get? (zC t1 t2 s.heap l1 l2).objs.size=some _:=Ac _ (Ai _ rfl);have g3:(zE t1 t2 s.heap l1 l2).get? (zB t1 t2 s.heap l1 l2).objs.size=some _:=Ac _ (Ac _ (Ai _ rfl));have g2:(zE t1 t2 s.heap l1 l2).get? (zA t1 s.heap l1).objs.size=some (zI t2 l2):=Ac _ (Ac _ (Ac _ (Ai _ rfl)));have g1:(zE t1 t2 s.heap l1 l2).get? s.heap.objs.size=some (zI t1 l1):=Ac _ (Ac _ (Ac _ (Ac _ (Ai _ rfl))));show _/\_;rw[m2,m3,m4]at g5;rw[m1,m2]at g3;rw[m3]at g4;rw[m1]at g2;rw[m4];exact⟨⟨_,g5,rfl⟩,q _ g5 g3 g4 ⟨_,g1,rfl,rfl⟩ ⟨_,g2,rfl,rfl⟩ fun c o e=>Ac _ (Ac _ (Ac _ (Ac _ (Ac _ e))))⟩
end
section
variable {X:Cx}{K:Ab}{t t1 t2:Bool}{pins:List (Addr×Obj)}{σ:L2.St}{H:Hp}{s:Shared}{h':Heap}
def xo{t':Nat}{ch:List Addr}(I:L2.Inv X pins σ H s)(f:∀b∈ch,nF X pins H b)(k:∀b o,b∉ch->s.heap.get? b=some o->h'.get? b=some o):L2.Inv X pins σ H { s with heap:=h',toks:=t' }:=by
 have nit:∀b u,H b=some u->b∉ch:=fun b u e z=>by rw[(f b z).1]at e;cases e
 refine I.step (g':=s.gens) (d':=s.drawn) (ch:=ch) (fun b hb=>?_) (fun b o _ _ hc e _=>k b o hc e) (fun b o _ _ hc e _=>⟨o.slots,k b o hc e⟩) (fun _ _ _ _ n=>n)
  (fun b o hc e=>⟨o,k b o hc e⟩) (fun _ _ e=>e) (fun _ _ _ e=>e) (fun b ps e=>⟨#[],by rw[e];simp⟩) (fun m hm=>?_) (fun b u e=>?_) I.bare
 ·obtain⟨_,f1,_,f3,f4,f5⟩:=f b hb;exact⟨f3,f1,f4,f5⟩
 ·obtain⟨o,es,ep,ho,r⟩:=hm;exact⟨o,es,ep,k _ o (fun z=>(f _ z).2.1 rfl) ho,r⟩
 ·refine(I.hok b u e).stay (fun c v hc q=>k c v ?_ q) (fun _ q=>q) fun _ _ q=>q;rcases hc with z|z
  ·rw[z];exact nit b u e
  ·exact nit c _ z
def Sq(K:Ab)(t:Bool)(H:Hp)(a:Addr)(xs:List V):Prop:=if t then SqT K H a xs else SqL K H a xs
theorem Sq.so(I:L2.Inv X pins σ H s)(h:Sq X.K t H l xs):∃its:List Value,Vals xs its/\So t s.heap l its.toArray:=by
 cases t with
 | false =>
  obtain⟨its,rv,p,_⟩:=I.list h;exact⟨its,rv,p.isList⟩
 | true =>
  obtain⟨its,rv,p,_⟩:=I.tuple h;exact⟨its,rv,p⟩
theorem Sq.inj(I:L2.Inv X pins σ H s)(h:Sq X.K t H l xs)(h2:Sq X.K t H l ys):xs=ys:=by
 cases t with
 | false=>exact I.list_inj h h2
 | true=>exact I.tuple_inj h h2
def Itz(K : Ab)(t1 t2 : Bool)(l1 l2 : Addr) : It :=
  ⟨fun i H => ∃ xs ys x y, Sq K t1 H l1 xs ∧ Sq K t2 H l2 ys ∧ xs[i]? = some x ∧ ys[i]? = some y,
   fun i H v H' => ∃ p x y, v = .ref p ∧ H p = none ∧ H' = upd H p (.tup [x, y]) ∧ (∀ xs, Sq K t1 H l1 xs → xs[i]? = some x) ∧ ∀ ys, Sq K t2 H l2 ys → ys[i]? = some y,
   fun i H => ∃ xs ys, Sq K t1 H l1 xs ∧ Sq K t2 H l2 ys ∧ (xs.length ≤ i ∨ ys.length ≤ i)⟩
def Zs(t1 t2:Bool)(z T1 T2 i1 i2 l1 l2:Addr)(i:Nat)(h:Heap):Prop:=IsZip h z T1 T2 .none/\IsPair h T1 (.ref i1) (.ref i2)/\(∃a b,IsPair h T2 a b)/\Io t1 h i1 l1 i/\Io t2 h i2 l2 i
def My(h:b∈[z,T1,T2,i1,i2]):b=z∨b=T1∨b=T2∨b=i1∨b=i2:=by simpa using h
theorem Zs.at{h:Heap}(st:Zs t1 t2 z T1 T2 i1 i2 l1 l2 i h)(hb:b∈[z,T1,T2,i1,i2]):∃o,h.get? b=some o/\∀v,o.data≠.cell v:=by
 obtain⟨a1,a2,⟨_,_,a3⟩,⟨o1,a4,_,d4⟩,⟨o2,a5,_,d5⟩⟩:=st;rcases My hb with rfl|rfl|rfl|rfl|rfl
 ·exact⟨_,a1,fun v m=>by cases m⟩
 ·exact⟨_,a2,fun v m=>by cases m⟩
 ·exact⟨_,a3,fun v m=>by cases m⟩
 ·exact⟨_,a4,fun v m=>by rw[d4]at m;cases m⟩
 ·exact⟨_,a5,fun v m=>by rw[d5]at m;cases m⟩
def EQ{es:List Expr}{x1}{z T1 T2 i1 i2 l1 l2:Addr}(W:ZipApart z T1 T2 i1 i2 l1 l2):Turn P w K (.Tuple es x1 ps) (Itz K t1 t2 l1 l2) [z,T1,T2,i1,i2] z (Zs t1 t2 z T1 T2 i1 i2 l1 l2) where
 mem:=.head _
 obj:=fun i h st b hb=>st.at hb
 keep:=fun i h h' st k=>by
  obtain⟨a1,a2,⟨a,b,a3⟩,a4,a5⟩:=st;exact⟨k z (.head _) _ a1,k T1 (.tail _ (.head _)) _ a2,⟨a,b,k T2 (.tail _ (.tail _ (.head _))) _ a3⟩,a4.by fun o e=>k i1 (.tail _ (.tail _ (.tail _ (.head _)))) o e,a5.by fun o e=>k i2 (.tail _ (.tail _ (.tail _ (.tail _ (.head _))))) o e⟩
 item:=by
  intro X hP hw hK hc i pins s σ H E I hf st hg;subst hP hw hK;obtain⟨xs,ys,x,y,q1,q2,e1,e2⟩:=hg;obtain⟨is,r1,v1⟩:=q1.so I;obtain⟨js,r2,v2⟩:=q2.so I;obtain⟨u,hu,ru⟩:=r1.get e1;obtain⟨v,hv,rv⟩:=r2.get e2;have hn:H s.heap.objs.size=none:=I.hok.fresh (Qa _);have lt:∀b∈[z,T1,T2,i1,i2],b≠s.heap.objs.size:=fun b hb=>by
   obtain⟨o,ho,_⟩:=Zs.at st hb;exact Vh (Aj ho)
  obtain⟨a1,a2,⟨a,b,a3⟩,a4,a5⟩:=st;refine Mx W a1 a2 a3 a4 a5 v1 v2 (x:=u) (y:=v) (by simpa using hu) (by simpa using hv) fun g z1 p2 n1 n2 pT kp=>?_
  refine⟨_,rfl,wpAny_letOwnedTupleGo_zip (s:={ s with heap:=g }) z1 fun g2 z2 sb=>?_⟩;have kk:∀c o,c≠z->c≠T2->c≠i1->c≠i2->s.heap.get? c=some o->g2.get? c=some o:=fun c o c1 c2 c3 c4 e=>sb.extBut _ _ c1 (kp c o c1 c2 c3 c4 e);have pT2:IsPair g2 s.heap.objs.size u v:=sb.extBut _ _ (AL (lt z (.head _))) pT;have I1:L2.Inv X pins σ (upd H s.heap.objs.size (.tup [x,y])) { s with heap:=s.heap.push { cls:=.type "tuple",data:=.seq #[u,v] },toks:=s.toks } :=
   I.laid (fun b o e=>Ac _ e) (Qa _) ⟨show 2<=sizeLine by decide,[u,v],.cons ru (.cons rv .nil),⟨_,Ai _ rfl,rfl,_,rfl⟩⟩
  have ff:∀b∈[z,T1,T2,i1,i2],nF X pins (upd H s.heap.objs.size (.tup [x,y])) b:=fun b hb=>by
   obtain⟨f0,f1,f2,f3,f4,f5⟩:=hf b hb;exact⟨by rw[bn (lt b hb)];exact f0,f1,f2,f3,f4,f5⟩
  have I2:L2.Inv X pins σ (upd H s.heap.objs.size (.tup [x,y])) { s with heap:=g2 }:=by
   refine xo (s:={ s with heap:=s.heap.push { cls:=.type "tuple",data:=.seq #[u,v] } }) (t':=s.toks) I1 ff fun c o hc e=>?_;rcases Heap.get?_push_cases e with⟨rfl,rfl⟩|e
   ·exact pT2
   ·exact kk c o (fun m=>hc (m ▸ .head _)) (fun m=>hc (m ▸ .tail _ (.tail _ (.head _)))) (fun m=>hc (m ▸ .tail _ (.tail _ (.tail _ (.head _))))) (fun m=>hc (m ▸ .tail _ (.tail _ (.tail _ (.tail _ (.head _)))))) e
  refine⟨.ref s.heap.objs.size,_,I2,rfl,⟨_,x,y,rfl,hn,rfl,fun zs hz=>by rw[hz.inj I q1];exact e1,fun zs hz=>by rw[hz.inj I q2];exact e2⟩,?_,fun b hb=>(ff b hb).1⟩
  exact⟨z2,sb.extBut _ _ W.TIz (kp _ _ W.TIz W.TITO W.TIi1 W.TIi2 a2),⟨_,_,sb.extBut _ _ W.TOz p2⟩,n1.by fun o e=>sb.extBut _ o W.i1z e,n2.by fun o e=>sb.extBut _ o W.i2z e⟩
 done:=by
  intro X hP hw hK hc i pins s σ H E I hf st hg;subst hP hw hK;obtain⟨xs,ys,q1,q2,hl⟩:=hg;obtain⟨a1,a2,⟨a,b,a3⟩,a4,a5⟩:=st;obtain⟨is,r1,v1⟩:=q1.so I;obtain⟨js,r2,v2⟩:=q2.so I;have l1:=r1.length;have l2:=r2.length;refine KS (I.ok.hd hc) W a1 a2 a3 a4 a5 v1 v2 (hl.imp (fun m=>by rw[DC];exact Xn (l1 ▸ m)) fun m=>by rw[DC];exact Xn (l2 ▸ m)) fun g kp=>⟨rfl,xo (t':=s.toks) I hf fun c o hc e=>?_⟩
  exact kp c o (fun m=>hc (m ▸ .head _)) (fun m=>hc (m ▸ .tail _ (.tail _ (.head _)))) (fun m=>hc (m ▸ .tail _ (.tail _ (.tail _ (.head _))))) (fun m=>hc (m ▸ .tail _ (.tail _ (.tail _ (.tail _ (.head _)))))) e
 self:=fun _ _ _ _ _ st h=>wpAny_pyIter_zip st.1 h
def KU(K:Ab)(ta:TA):TI:=fun σ H R=>ta σ H fun vs H1=>∃t1 t2 l1 l2 xs ys,vs=[.ref l1,.ref l2]/\Sq K t1 H1 l1 xs/\Sq K t2 H1 l2 ys/\R (Itz K t1 t2 l1 l2) H1
def boot_zip:bootBuiltins "zip"=some (.type "zip"):=by decide +kernel
def Hs{x1}(hg:Gl X "zip")(hm:X.mg "zip"=none)(ha:PA X [a,b] ta)(hs:starEach [a,b] X.env=[(false,eval a X.env),(false,eval b X.env)])(hs2:starEach [b] X.env=[(false,eval b X.env)]) :
  PI X (.Tuple es x1 ps) (.Call (.Name "zip" p) [a,b] [] pos) (KU X.K ta):=by
 intro pins s σ H R I h;refine Call_ (ou I hg hm boot_zip (Bs (thn (ha pos pins s σ H _ I h) fun us s1 ⟨vs,H1,I1,r1,q1⟩=>?_) (by rw[hs,hs2]) (by rw[hs2];rfl)))
 obtain⟨t1,t2,l1,l2,xs,ys,e,w1,w2,q⟩:=q1;subst e;cases r1 with
 | cons r rr =>
  cases rr with
  | cons r' rr =>
   cases rr;cases r;cases r';obtain⟨is,r1,v1⟩:=w1.so I1;obtain⟨js,r2,v2⟩:=w2.so I1;refine EO v1 v2 fun g z p1 p2 n1 n2 kp=>?_;obtain⟨o1,ho1,_⟩:=id v1;obtain⟨o2,ho2,_⟩:=id v2;refine wpAny_pyIter_zip (s:={ s1 with heap:=g }) z ⟨_,[s1.heap.objs.size+4,s1.heap.objs.size+2,s1.heap.objs.size+3,s1.heap.objs.size,s1.heap.objs.size+1],_,_,H1,rfl,I1.kept (t':=s1.toks) kp,EQ (PySem.W.ktu_apart _ _ _ (Aj ho1) (Aj ho2)),⟨z,p1,⟨_,_,p2⟩,n1,n2⟩,fun b hb=>?_,q⟩;have hb':=My hb;have le:s1.heap.objs.size<=b:=by
    rcases hb' with m|m|m|m|m<;>(rw[m];first|exact Wk _ _|exact Qa _)
   exact I1.fpOk le (I1.hok.fresh le)
end
end VF22
namespace VF22
open PySem L2 VF
section
variable {X:Cx}{K:Ab}{O O' Z:AS}{H H':Hp}{v:V}{d:D}
def sqD:D->Option (List D)
 | .lst ds=>some ds
 | .fl ds=>some ds
 | .tup ds=>some ds
 | _=>none
def KW:List D->Option (List D×List D)
 | [a,b]=>(sqD a).bind fun x=>(sqD b).bind fun y=>some (x,y)
 | _=>none
def pr(a b:D):D:=.tup [a,b]
def fIZ(fa:FA):FI:=fun st=>(fa st).bind fun x=>(eG x.1 x.2).bind fun y=>(KW y.1).bind fun w=>some (List.zipWith pr w.1 w.2,y.2)
theorem Jh(da:DA K (U O Z) H v d)(e:sqD d=some is):∃t l ws,v=.ref l/\∀H' O',Ext O H O' H'->Sq K t H' l ws/\El K (U O' Z) H' ws is:=by
 cases d with
 | lst ds =>
  cases e;cases da with
  | @lst a vs _ h0 h1 h2 h3=>exact⟨false,a,vs,rfl,fun H' O' ex=>⟨.inl (.inl (ex.kp a _ h1 fun z=>h0 (.inl z))),El.ext ⟨h2,h3⟩ ex⟩⟩
 | fl ds =>
  cases e;cases da with
  | @fl a vs _ h1 h2 h3 =>
   refine⟨false,a,vs,rfl,fun H' O' ex=>⟨?_,El.ext ⟨h2,h3⟩ ex⟩⟩;rcases h1 with⟨h1,hn⟩|h1
   ·exact .inl (Rd.keep h1 fun o e=>ex.kp a o e fun z=>hn (.inl z))
   ·exact h1 H'
 | tup ds =>
  cases e;cases da with
  | @tup a vs _ h1 h2 h3 =>
   refine⟨true,a,vs,rfl,fun H' O' ex=>⟨?_,El.ext ⟨h2,h3⟩ ex⟩⟩;exact .inl (.inl (ex.kp a _ h1.1 fun z=>h1.2 (.inl z)))
 | _=>cases e
theorem Mz{as bs:List D}{i:Nat}{d:D}(h:(List.zipWith pr as bs)[i]?=some d):∃a b,as[i]?=some a/\bs[i]?=some b/\d=.tup [a,b]:=by
 rw[List.getElem?_zipWith]at h;cases ea:as[i]? with
 | none=>rw[ea]at h;cases h
 | some a =>
  cases eb:bs[i]? with
  | none=>rw[ea,eb]at h;cases h
  | some b =>
   rw[ea,eb]at h;exact⟨a,b,rfl,rfl,(Option.some.inj h).symm⟩
set_option tactic.hygienic true in
def ES{ta:TA}{fa:FA}(h:RdA K ta fa):RdI K (KU K ta) (fIZ fa):=by
 intro st σ H O Z R E items st' e q;refine bsP e fun rs st1 e1 e=>?_;refine bsP e fun ds st2 e2 e=>?_;refine bsP e fun as bs e3 e=>?_;cases e;refine h st σ H O Z _ E rs st1 e1 fun vs H1 O1 x1 k1 E1 rvs=>?_;obtain⟨O2,x2,k2,E2,el⟩:=rvs.esc E1 e2;replace e3:KW ds=some (as,bs):=e3;unfold KW at e3;split at e3
 ·rename_i a b
  refine bsO e3 fun as' e4 e3=>?_;refine bsO e3 fun bs' e5 e3=>?_;cases e3;obtain⟨v1,r,rfl,da1,el⟩:=el.uncons;obtain⟨v2,r,rfl,da2,el⟩:=el.uncons;obtain rfl:=el.unnil;obtain⟨t1,l1,xs,rfl,k3⟩:=Jh da1 e4;obtain⟨t2,l2,ys,rfl,k4⟩:=Jh da2 e5;refine⟨t1,t2,l1,l2,xs,ys,rfl,(k3 H1 O2 (Ext.refl _ _)).1,(k4 H1 O2 (Ext.refl _ _)).1,q _ H1 O2 (x1.trans x2) (k1.trans k2) E2 fun H' O' ex liv=>?_⟩;obtain⟨s1,el1⟩:=k3 H' O' ex;obtain⟨s2,el2⟩:=k4 H' O' ex;have n1:=el1.1;have n2:=el2.1;refine⟨fun i hi=>⟨xs,ys,s1,s2,?_⟩,fun i d hd=>?_⟩
  ·replace hi:(List.zipWith pr as bs).length<=i:=hi
   rw[List.length_zipWith]at hi;lia
  ·obtain⟨a,b,ha,hb,rfl⟩:=Mz hd;obtain⟨x,hx,dx⟩:=el1.at ha;obtain⟨y,hy,dy⟩:=el2.at hb;refine⟨⟨xs,ys,x,y,s1,s2,hx,hy⟩,?_⟩;rintro v H'' ⟨p,x',y',rfl,hn,rfl,f1,f2⟩;have ex':=f1 xs s1;have ey':=f2 ys s2;rw[hx]at ex';rw[hy]at ey';cases ex';cases ey';have sm:=br hn (.tup [x,y]);exact⟨sm,.tup ⟨bT,fun z=>(liv p z).1 hn⟩ rfl ((El.cons dx (El.one dy)).same sm).2⟩
 ·cases e3
def ET{x1}(h:X.K=K)(hg:Gl X "zip")(hs:starEach [a,b] X.env=[(false,eval a X.env),(false,eval b X.env)])(hs2:starEach [b] X.env=[(false,eval b X.env)])(hm:X.mg "zip"=none)(ha:PE X a te)(hb:PE X b te2) :
  PI X (.Tuple es x1 ps) (.Call (.Name "zip" p) [a,b] [] pos) (KU K (iB te (iB te2 tJ))):=by
 subst h;exact Hs hg hm (nX ha (nX hb ah hs2) (by rw[hs,hs2])) hs hs2
end
end VF22
namespace TS
open PySem PyProof.Rows
def fU{M:Model}{A:Around}{E:Value->Shared->Prop}{σ γ:Type}{X Y:StateT σ Sem γ}{p:Prop}{d:Decidable p}{Q:γ->σ->Prop}{st:σ}(h:p)(k:wpS M A E s X Q st):wpS M A E s (@ite _ p d X Y) Q st:=by rw[Ae h];exact k
def fj{M:Model}{A:Around}{E:Value->Shared->Prop}{σ γ:Type}{X Y:StateT σ Sem γ}{p:Prop}{d:Decidable p}{Q:γ->σ->Prop}{st:σ}(h:¬ p)(k:wpS M A E s Y Q st):wpS M A E s (@ite _ p d X Y) Q st:=by rw[Ak h];exact k
def EU{α β:Type}(f:α->β)(x:Array α)(i j:Nat):(x.map f).swapIfInBounds i j=(x.swapIfInBounds i j).map f:=by
 apply Array.ext_getElem?
 intro k;by_cases hi:i<x.size
 ·by_cases hj:j<x.size
  ·rw[getElem?_swapIB (by rw[AE];exact hi) (by rw[AE];exact hj),Wl,Wl,Wl,Wl,getElem?_swapIB hi hj]
   split
   ·rfl
   ·split<;>rfl
  ·rw[AX,AX,dif_pos (by rw[AE];exact hi),dif_pos hi,dif_neg (by rw[AE];exact hj),dif_neg hj]
 ·rw[AX,AX,dif_neg (by rw[AE];exact hi),dif_neg hi]
theorem mJ{α β γ:Type}(f:α->β)(p q:γ->Nat):∀(l:List γ)(x:Array α),l.foldl (fun a k=>a.swapIfInBounds (p k) (q k)) (x.map f)=(l.foldl (fun a k=>a.swapIfInBounds (p k) (q k)) x).map f
 | [],x=>rfl
 | k::l,x=>by
  rw[C4,C4,EU];exact mJ f p q l _
def vV(f:α->β)(x:Array α)(i d:Nat):bubble (x.map f) i d=(bubble x i d).map f:=mJ f _ _ _ x
def iY(f:α->β)(x:Array α)(i j d:Nat):mirror (x.map f) i j d=(mirror x i j d).map f:=mJ f _ _ _ x
structure Cm(prog:Program)(w:World)(A:Around)(s:Shared)(k:SortKind)(f:Nat->Keyed)(N:Nat)(c:Nat->Nat->Bool):Prop where
 lt:∀(E:Value->Shared->Prop)(Q:Bool->Shared->Prop)(g h:Nat),g<N->h<N->Q (c g h) s->wpAny (model prog w) A (keyLt' k (f g).1 (f h).1) Q E s
 irr:∀g,c g g=false
 tra:∀g h i,c g h=true->c h i=true->c g i=true
 neg:∀g h i,c g i=true->c g h=true∨c h i=true
def Bf(c:Nat->Nat->Bool)(g h:Nat):Prop:=c g h=true∨(c h g=false/\g<h)
structure Rp(k:SortKind)(f:Nat->Keyed)(N:Nat)(st:SortSt)(γ:Array Nat):Prop where
 arr:arrOf st=γ.map f
 kind:kindOf st=k
 fine:failedOf st=none
 perm:γ.Perm (Array.range N)
section
variable {prog:Program}{w:World}{A:Around}{E:Value->Shared->Prop}{s:Shared}{k:SortKind}{f:Nat->Keyed}{N:Nat}{c:Nat->Nat->Bool}{st:SortSt}{γ:Array Nat}
theorem Cm.asy(C:Cm prog w A s k f N c)(e:c g h=true):c h g=false:=by
 cases e':c h g with
 | false=>rfl
 | true=>exact absurd (C.tra g h g e e') (by rw[C.irr];exact Bool.noConfusion)
def Cm.le(C:Cm prog w A s k f N c)(e:Bf c g h):c h g=false:=by
 rcases e with e|e
 ·exact C.asy e
 ·exact e.1
theorem Cm.letr(C:Cm prog w A s k f N c)(e:c h g=false)(e':c i h=false):c i g=false:=by
 cases e2:c i g with
 | false=>rfl
 | true =>
  rcases C.neg i h g e2 with q|q
  ·rw[q]at e';exact e'
  ·rw[q]at e;exact e
theorem Cm.trans(C:Cm prog w A s k f N c)(e:Bf c g h)(e':Bf c h i):Bf c g i:=by
 have l:=C.letr (C.le e) (C.le e');cases e2:c g i with
 | true=>exact .inl e2
 | false =>
  refine .inr ⟨l,?_⟩;rcases e with e|e
  ·rcases C.neg g i h e with q|q
   ·rw[q]at e2;cases e2
   ·rw[C.le e']at q;cases q
  ·rcases e' with e'|e'
   ·rcases C.neg h g i e' with q|q
    ·rw[e.1]at q;cases q
    ·rw[q]at e2;cases e2
   ·exact BR e.2 e'.2
theorem Rp.size(R:Rp k f N st γ):γ.size=N:=by rw[R.perm.size_eq,Bi]
def Rp.bnd(R:Rp k f N st γ){i g:Nat}(e:γ[i]?=some g):g<N:=by
 have hm:g∈γ:=Array.mem_of_getElem? e;exact Array.mem_range.mp (R.perm.mem_iff.mp hm)
def Rp.at(R:Rp k f N st γ){i g:Nat}(e:γ[i]?=some g):(arrOf st)[i]?=some (f g):=by rw[R.arr,Wl,e];rfl
def Rp.put(R:Rp k f N st γ){γ':Array Nat}(p:γ'.Perm γ)(e:x=γ'.map f):Rp k f N (setArr st x) γ':=⟨e,R.kind,R.fine,p.trans R.perm⟩
def ub(C:Cm prog w A s k f N c)(hk:kindOf st=k)(bg:g<N)(bh:h<N)(q:Q (some (c g h)) st):wpS (model prog w) A E s (lt' (f g) (f h)) Q st:=by
 rw[lt'_eq];refine Al (Bq ?_);subst hk;exact Al (B4 (BD (C.lt _ _ g h bg bh ⟨rfl,Ah q⟩)))
def ki(C:Cm prog w A s k f N c)(R:Rp k f N st γ){i j g h:Nat}(ei:γ[i]?=some g)(ej:γ[j]?=some h){Q:Option Bool->SortSt->Prop}(q:Q (some (c g h)) st):wpS (model prog w) A E s (ltAt' i j) Q st:=by
 rw[ltAt'_eq];refine Al (Bq ?_);dsimp only;rw[elem'_eq,elem'_eq,R.at ei,R.at ej];exact Al (Ah (Al (Ah (ub C R.kind (R.bnd ei) (R.bnd ej) q))))
end
end TS
namespace TS
open PySem PyProof.Rows
def Sg(c:Nat->Nat->Bool)(γ:Array Nat)(lo hi:Nat):Prop:=∀i j g h,lo<=i->i<j->j<hi->γ[i]?=some g->γ[j]?=some h->Bf c g h
def Ow(γ:Array Nat)(lo hi:Nat):Prop:=∀i g,lo<=i->i<hi->γ[i]?=some g->lo<=g/\g<hi
def Raw(γ:Array Nat)(lo hi:Nat):Prop:=∀i,lo<=i->i<hi->γ[i]?=some i
def Out(γ γ':Array Nat)(lo hi:Nat):Prop:=∀i,i<lo∨hi<=i->γ'[i]?=γ[i]?
def Out.refl(γ:Array Nat)(lo hi:Nat):Out γ γ lo hi:=fun _ _=>rfl
section
variable {prog:Program}{w:World}{A:Around}{E:Value->Shared->Prop}{s:Shared}{k:SortKind}{f:Nat->Keyed}{N:Nat}{c:Nat->Nat->Bool}{st:SortSt}{γ:Array Nat}
def jK{γ:Array Nat}(h:i<γ.size):∃g,γ[i]?=some g:=⟨_,AW h⟩
def mid(h:l<u):l<=(l+u) / 2/\(l+u) / 2<u:=⟨(Nat.le_div_iff_mul_le (by decide)).mpr (by lia),(Nat.div_lt_iff_lt_mul (by decide)).mpr (by lia)⟩
def MA(h:u-l<=m-y)(h1:t<u)(h2:l<=t):t-l<=m-(y+1):=Zd (B8 (Nat.le_sub_one_of_lt h1) l) (by rw[Nat.sub_right_comm,← Nat.sub_sub];exact B8 h 1)
def MB(h:u-l<=m-y)(h1:l<=t)(h2:t<u):u-(t+1)<=m-(y+1):=by rw[← Nat.sub_sub,← Nat.sub_sub];exact B8 (Zd (Cc h1 u) h) 1
inductive Bub(γ:Array Nat)(a b i g:Nat):Prop
 | at_ (h:i=a) (e:γ[b]?=some g)
 | mid (j:Nat) (h:i=j+1) (k:a<=j) (l:j<b) (e:γ[j]?=some g)
 | lo (h:i<a) (e:γ[i]?=some g)
 | hi (h:b<i)
def oQ(e:(if i=a then γ[b]? else if a<i/\i<=b then γ[i-1]? else γ[i]?)=some g):Bub γ a b i g:=by
 by_cases h:i=a
 ·rw[Ae h]at e;exact .at_ h e
 ·rw[Ak h]at e;by_cases h2:a<i/\i<=b
  ·rw[Ae h2]at e;obtain⟨j,rfl⟩:=Qd (Vj (Zn (Qk _) h2.1));exact .mid j rfl (Nat.le_of_lt_succ h2.1) h2.2 e
  ·rw[Ak h2]at e;by_cases h3:i<a
   ·exact .lo h3 e
   ·exact .hi (AU fun z=>h2 ⟨Bw (BL h3) (AL h),z⟩)
def EV(hab:a<=b)(h:b<i):(if i=a then γ[b]? else if a<i/\i<=b then γ[i-1]? else γ[i]?)=γ[i]?:=by
 rw[Ak (Vj (Zn hab h)),Ak fun z=>CV h z.2]
def KY(h:i<a):(if i=a then γ[b]? else if a<i/\i<=b then γ[i-1]? else γ[i]?)=γ[i]?:=by
 rw[Ak (Vh h),Ak fun z=>Nat.lt_asymm h z.1]
def Ht(C:Cm prog w A s k f N c)(R:Rp k f N st γ){lo n ok:Nat}(hn:lo+n<=N)(h1:1<=ok)(hok:ok<=n)(sg:Sg c γ lo (lo+ok))(ow:Ow γ lo (lo+ok))(raw:Raw γ (lo+ok) N)
  {Q:Bool->SortSt->Prop}(q:∀(x:Array Keyed)(γ':Array Nat),Rp k f N (setArr st x) γ'->Sg c γ' lo (lo+n)->Ow γ' lo (lo+n)->Raw γ' (lo+n) N->Out γ γ' lo (lo+n)->Q true (setArr st x)) :
  wpS (model prog w) A E s (binarySort' lo n ok) Q st:=by
 rw[binarySort'_eq]
 refine Al (Aw (Ax (I:=fun m r st'=>r=(none,())/\∃x γ',st'=setArr st x/\Rp k f N st' γ'/\Sg c γ' lo (lo+m)/\Ow γ' lo (lo+m)/\Raw γ' (lo+m) N/\Out γ γ' lo (lo+m))
  (Q:=fun r st'=>r=(none,())/\∃x γ',st'=setArr st x/\Rp k f N st' γ'/\Sg c γ' lo (lo+n)/\Ow γ' lo (lo+n)/\Raw γ' (lo+n) N/\Out γ γ' lo (lo+n)) ?step ?fin ?init) ?post)
 case post =>
  rintro r st' ⟨rfl,x,γ',rfl,R',a1,a2,a3,a4⟩;exact Ah (q x γ' R' a1 a2 a3 a4)
 case init =>
  rw[show max ok 1=ok by lia]
  exact⟨rfl,arrOf st,γ,rfl,R,sg,ow,raw,Out.refl _ _ _⟩
 case fin =>
  rintro r st' h;rw[show max (max ok 1) n=n by lia]at h
  exact h
 case step =>
  rintro m r st' hm hmn ⟨rfl,x,γ',rfl,R',a1,a2,a3,a4⟩;have em:γ'[lo+m]?=some (lo+m):=a3 (lo+m) (Qa _) (by lia)
  refine Al (Aw (Ax (I:=fun y r st''=>st''=setArr st x/\∃l u,r=(none,l,u)/\l<=u/\u<=m/\u-l<=m-y /\
    (∀i g,lo<=i->i<lo+l->γ'[i]?=some g->c (lo+m) g=false)/\(∀i g,lo+u<=i->i<lo+m->γ'[i]?=some g->c (lo+m) g=true))
   (Q:=fun r st''=>st''=setArr st x/\∃l u,r=(none,l,u)/\l<=m /\
    (∀i g,lo<=i->i<lo+l->γ'[i]?=some g->c (lo+m) g=false)/\(∀i g,lo+l<=i->i<lo+m->γ'[i]?=some g->c (lo+m) g=true)) ?istep ?ifin ?iinit) ?ipost)
  case iinit=>exact⟨rfl,0,m,rfl,by lia,by lia,by lia,fun i g p1 p2=>by lia,fun i g p1 p2=>by lia⟩
  case ifin =>
   rintro r st'' ⟨rfl,l,u,rfl,b1,b2,b3,b4,b5⟩;obtain rfl:l=u:=by lia
   exact⟨rfl,l,l,rfl,b2,b4,b5⟩
  case istep =>
   rintro y r st'' _ hy ⟨rfl,l,u,rfl,b1,b2,b3,b4,b5⟩;dsimp only;by_cases hge:l ≥ u
   ·refine fU hge ?_;obtain rfl:l=u:=by lia
    exact Ah ⟨rfl,l,l,rfl,b2,b4,b5⟩
   ·refine fj hge ?_;have hq:l<=(l+u) / 2/\(l+u) / 2<u:=mid (AU hge);generalize (l+u) / 2=t at hq;obtain⟨q1,q2⟩:=hq;have q3:t-l<=m-(y+1):=MA b3 q2 q1;have q4:u-(t+1)<=m-(y+1):=MB b3 q1 q2;obtain⟨g,eg⟩:=jK (γ:=γ') (i:=lo+t) (by rw[R'.size];lia)
    refine Al (ki C R' em eg ?_);cases hc:c (lo+m) g with
    | true =>
     refine Ah ⟨rfl,l,t,rfl,q1,by lia,q3,b4,fun i g' p1 p2 e=>?_⟩
     by_cases hi:i=lo+t
     ·subst hi;rw[eg]at e;cases e;exact hc
     ·have bf:=a1 _ i g g' (by lia) (by lia) p2 eg e
      rcases C.neg _ g' _ hc with z|z
      ·exact z
      ·rw[C.le bf]at z;cases z
    | false =>
     refine Ah ⟨rfl,t+1,u,rfl,q2,b2,q4,fun i g' p1 p2 e=>?_,b5⟩;by_cases hi:i=lo+t
     ·subst hi;rw[eg]at e;cases e;exact hc
     ·have bf:=a1 i _ g' g p1 (by lia) (by lia) e eg
      exact C.letr (C.le bf) hc
  case ipost =>
   rintro r st'' ⟨rfl,l,u,rfl,b2,b4,b5⟩;show wpS _ _ _ _ (do moveDown' (lo+m) (lo+l);pure (ForInStep.yield (none,()))) _ _
   rw[moveDown'_eq];have hs:lo+m<γ'.size:=by rw[R'.size];lia
   have gb:=getElem?_bubble hs (lo+m-(lo+l)) (Nat.sub_le _ _);rw[Nat.sub_sub_self (Vi b2 lo)]at gb;refine Al (Be (Ah ⟨rfl,bubble x (lo+m) (lo+m-(lo+l)),bubble γ' (lo+m) (lo+m-(lo+l)),rfl,R'.put (bubble_perm _ _ _) ?_,?_,?_,?_,?_⟩))
   ·rw[R'.arr,vV]
   ·intro i j g h p1 p2 p3 e1 e2;rw[gb]at e1 e2;cases oQ e1 with
    | at_ y e1 =>
     rw[em]at e1;cases e1;cases oQ e2 with
     | at_ z e2=>lia
     | mid j' z z1 z2 e2=>exact .inl (b5 _ h z1 z2 e2)
     | lo z e2=>lia
     | hi z=>lia
    | mid i' y y1 y2 e1 =>
     cases oQ e2 with
     | at_ z e2=>lia
     | mid j' z z1 z2 e2=>exact a1 _ _ g h (Zd (Wk _ _) y1) (by lia) z2 e1 e2
     | lo z e2=>lia
     | hi z=>lia
    | lo y e1 =>
     have ym:i<lo+m:=Qc y (Vi b2 lo);cases oQ e2 with
     | at_ z e2 =>
      rw[em]at e2;cases e2;exact .inr ⟨b4 i g p1 y e1,(a2 i g p1 ym e1).2⟩
     | mid j' z z1 z2 e2=>exact a1 i _ g h p1 (Qc y z1) z2 e1 e2
     | lo z e2=>exact a1 i j g h p1 p2 (Qc z (Vi b2 lo)) e1 e2
     | hi z=>lia
    | hi y=>lia
   ·intro i g p1 p2 e;rw[gb]at e;cases oQ e with
    | at_ z e=>rw[em]at e;cases e;exact⟨Wk _ _,AT _⟩
    | mid j z z1 z2 e=>exact⟨(a2 _ g (Zd (Wk _ _) z1) z2 e).1,BC (a2 _ g (Zd (Wk _ _) z1) z2 e).2⟩
    | lo z e =>
     have ym:i<lo+m:=Qc z (Vi b2 lo);exact⟨(a2 i g p1 ym e).1,BC (a2 i g p1 ym e).2⟩
    | hi z=>lia
   ·intro i p1 p2;rw[gb,EV (Vi b2 lo) p1];exact a3 i (Wj p1) p2
   ·intro i p;rw[gb];rcases p with p|p
    ·rw[KY (Qc p (Wk _ _))];exact a4 i (.inl p)
    ·rw[EV (Vi b2 lo) p];exact a4 i (.inr (Wj p))
end
end TS
namespace TS
open PySem PyProof.Rows
section
variable {prog:Program}{w:World}{A:Around}{E:Value->Shared->Prop}{s:Shared}{k:SortKind}{f:Nat->Keyed}{N:Nat}{c:Nat->Nat->Bool}{st:SortSt}{γ:Array Nat}
def Sg.more(C:Cm prog w A s k f N c){lo n g h:Nat}(sg:Sg c γ lo n)(h1:lo<n)(e:γ[n-1]?=some g)(e':γ[n]?=some h)(b:Bf c g h):Sg c γ lo (n+1):=by
 intro i j g' h' p1 p2 p3 e1 e2;by_cases hj:j<n
 ·exact sg i j g' h' p1 p2 hj e1 e2
 ·obtain rfl:j=n:=by lia
  rw[e']at e2;cases e2;by_cases hi:i=j-1
  ·subst hi;rw[e]at e1;cases e1;exact b
  ·exact C.trans (sg i (j-1) g' g p1 (by lia) (by lia) e1 e) b
def uc(C:Cm prog w A s k f N c){lo x h:Nat}(sg:Sg c γ lo (lo+x))(ow:Ow γ lo (lo+x))(raw:Raw γ (lo+x) N)(h1:1<=x)(hx:lo+x<N)(e:γ[lo+x-1]?=some h)(hc:c (lo+x) h=false) :
  Sg c γ lo (lo+(x+1))/\Ow γ lo (lo+(x+1))/\Raw γ (lo+(x+1)) N:=by
 have en:=raw (lo+x) (Qa _) hx;refine⟨sg.more C (by lia) e en (.inr ⟨hc,(ow _ h (by lia) (by lia) e).2⟩),fun i g p1 p2 e1=>?_,fun i p1 p2=>raw i (by lia) p2⟩
 by_cases hi:i<lo+x
 ·have:=ow i g p1 hi e1;lia
 ·obtain rfl:i=lo+x:=by lia
  rw[en]at e1;cases e1;lia
structure Fl(c:Nat->Nat->Bool)(γ:Array Nat)(lo m n:Nat):Prop where
 le:lo<=m
 lt:m<n
 fall:∀i j g h,lo<=i->i<j->j<m->γ[i]?=some g->γ[j]?=some h->Bf c h g
 cross:∀i j g h,lo<=i->i<m->m<=j->j<n->γ[i]?=some g->γ[j]?=some h->c h g=true
 same:∀i j g h,m<=i->i<n->m<=j->j<n->γ[i]?=some g->γ[j]?=some h->c g h=false
 raw:Raw γ m n
 own:Ow γ lo n
def Fa(c:Nat->Nat->Bool)(γ:Array Nat)(lo n:Nat):Prop:=∀i j g h,lo<=i->i<j->j<n->γ[i]?=some g->γ[j]?=some h->Bf c h g
def kQ(hn:n<=γ.size)(h1:a<=i)(h2:i<n):∃i',a<=i'/\i'<n/\i+i'+1=a+n/\(mirror γ a n ((n-a) / 2))[i]?=γ[i']? :=
 ⟨a+n-1-i,by lia,by lia,by lia,by rw[getElem?_mirror_all hn,Ae ⟨h1,h2⟩]⟩
def iZ(hn:n<=γ.size)(h:i<a∨n<=i):(mirror γ a n ((n-a) / 2))[i]?=γ[i]?:=by
 rw[getElem?_mirror_all hn,Ak fun z=>h.elim (fun q=>CV q z.1) fun q=>CV z.2 q]
def yR{lo n:Nat}(fa:Fa c γ lo n)(hn:n<=γ.size):Sg c (mirror γ lo n ((n-lo) / 2)) lo n:=by
 intro i j g h p1 p2 p3 e1 e2;obtain⟨i',a1,a2,a3,a4⟩:=kQ (γ:=γ) hn p1 (BR p2 p3);obtain⟨j',b1,b2,b3,b4⟩:=kQ (γ:=γ) hn (Zd p1 (Wj p2)) p3;exact fa j' i' h g b1 (by lia) a2 (b4 ▸ e2) (a4 ▸ e1)
def kl{lo a n:Nat}(ow:Ow γ lo n)(ha:lo<=a)(hn:n<=γ.size):Ow (mirror γ a n ((n-a) / 2)) lo n:=by
 intro i g p1 p2 e;by_cases hi:a<=i
 ·obtain⟨i',a1,a2,a3,a4⟩:=kQ (γ:=γ) hn hi p2;exact ow i' g (Zd ha a1) a2 (a4 ▸ e)
 ·rw[iZ hn (.inl (AU hi))]at e;exact ow i g p1 p2 e
def gC(raw:Raw γ n m)(hn:n<=γ.size):Raw (mirror γ a n ((n-a) / 2)) n m:=by
 intro i p1 p2;rw[iZ hn (.inr p1)];exact raw i p1 p2
def i4{lo a n:Nat}{γ':Array Nat}(o:Out γ γ' lo n)(ha:lo<=a)(hn:n<=γ'.size):Out γ (mirror γ' a n ((n-a) / 2)) lo n:=by
 intro i p;rw[iZ hn (p.imp (fun q=>Qc q ha) id)];exact o i p
def Out.wide{lo n n':Nat}{γ':Array Nat}(o:Out γ γ' lo n)(h:n<=n'):Out γ γ' lo n':=fun i p=>o i (by lia)
def Fl.turn{lo m n:Nat}(F:Fl c γ lo m n)(hn:n<=γ.size):Fa c (mirror γ m n ((n-m) / 2)) lo n:=by
 intro i j g h p1 p2 p3 e1 e2;by_cases hj:j<m
 ·rw[iZ hn (.inl (BR p2 hj))]at e1;rw[iZ hn (.inl hj)]at e2;exact F.fall i j g h p1 p2 hj e1 e2
 obtain⟨j',b1,b2,b3,b4⟩:=kQ (γ:=γ) hn (BL hj) p3;rw[b4]at e2;by_cases hi:i<m
 ·rw[iZ hn (.inl hi)]at e1;exact .inl (F.cross i j' g h p1 hi b1 b2 e1 e2)
 ·obtain⟨i',a1,a2,a3,a4⟩:=kQ (γ:=γ) hn (BL hi) (BR p2 p3);rw[a4]at e1;refine .inr ⟨F.same i' j' g h a1 a2 b1 b2 e1 e2,?_⟩;rw[F.raw i' a1 a2]at e1;rw[F.raw j' b1 b2]at e2;cases e1;cases e2;lia
def Fl.fa1{lo m:Nat}(F:Fl c γ lo m (m+1)):Fa c γ lo (m+1):=by
 intro i j g h p1 p2 p3 e1 e2;by_cases hj:j<m
 ·exact F.fall i j g h p1 p2 hj e1 e2
 ·exact .inl (F.cross i j g h p1 (by lia) (by lia) p3 e1 e2)
def Fa.next(C:Cm prog w A s k f N c){lo n g:Nat}(fa:Fa c γ lo n)(ow:Ow γ lo n)(raw:Raw γ n N)(hl:lo<n)(hn:n<N)(z:∀i g,lo<=i->i<n->γ[i]?=some g->c n g=true):Fl c γ lo n (n+1):=by
 have en:=raw n (Qa _) hn;refine⟨by lia,by lia,fa,fun i j g h p1 p2 p3 p4 e1 e2=>?_,fun i j g h p1 p2 p3 p4 e1 e2=>?_,fun i p1 p2=>raw i p1 (by lia),fun i g p1 p2 e=>?_⟩
 ·obtain rfl:j=n:=by lia
  rw[en]at e2;cases e2;exact z i g p1 p2 e1
 ·obtain rfl:i=n:=by lia
  obtain rfl:j=i:=by lia
  rw[en]at e1 e2;cases e1;cases e2;exact C.irr _
 ·by_cases hi:i<n
  ·have:=ow i g p1 hi e;lia
  ·obtain rfl:i=n:=by lia
   rw[en]at e;cases e;lia
def Fl.more(C:Cm prog w A s k f N c){lo m n:Nat}(F:Fl c γ lo m n)(raw:Raw γ n N)(hn:n<N)(z1:c n (n-1)=false)(z2:c (n-1) n=false):Fl c γ lo m (n+1):=by
 have en:=raw n (Qa _) hn;have ep:=F.raw (n-1) (by have:=F.lt;lia) (by have:=F.lt;lia)
 have hlt:=F.lt;have hle:=F.le;refine⟨hle,by lia,F.fall,fun i j g h p1 p2 p3 p4 e1 e2=>?_,fun i j g h p1 p2 p3 p4 e1 e2=>?_,fun i p1 p2=>?_,fun i g p1 p2 e=>?_⟩
 ·by_cases hj:j<n
  ·exact F.cross i j g h p1 p2 p3 hj e1 e2
  ·obtain rfl:j=n:=by lia
   rw[en]at e2;cases e2;rcases C.neg _ j _ (F.cross i (j-1) g (j-1) p1 p2 (by lia) (by lia) e1 ep) with q|q
   ·rw[z2]at q;cases q
   ·exact q
 ·have key:∀a g,m<=a->a<n+1->γ[a]?=some g->c g (n-1)=false/\c (n-1) g=false:=by
   intro a g q1 q2 e;by_cases ha:a<n
   ·exact⟨F.same a (n-1) g (n-1) q1 ha (by lia) (by lia) e ep,F.same (n-1) a (n-1) g (by lia) (by lia) q1 ha ep e⟩
   ·obtain rfl:a=n:=by lia
    rw[en]at e;cases e;exact⟨z1,z2⟩
  exact C.letr (key j h p3 p4 e2).2 (key i g p1 p2 e1).1
 ·by_cases hi:i<n
  ·exact F.raw i p1 hi
  ·exact raw i (by lia) (by lia)
 ·by_cases hi:i<n
  ·have:=F.own i g p1 hi e;lia
  ·obtain rfl:i=n:=by lia
   rw[en]at e;cases e;lia
def Fl.below(C:Cm prog w A s k f N c){lo m n x:Nat}(F:Fl c γ lo m n)(z:c x (n-1)=true):∀i g,lo<=i->i<n->γ[i]?=some g->c x g=true:=by
 have hlt:=F.lt;have ep:=F.raw (n-1) (by lia) (by lia)
 intro i g p1 p2 e;rcases C.neg x g _ z with q|q
 ·exact q
 ·by_cases hi:i<m
  ·exact absurd (F.cross i (n-1) g (n-1) p1 hi (by lia) (by lia) e ep) (by rw[C.asy q];exact Bool.noConfusion)
  ·rw[F.same i (n - 1) g (n - 1) (by lia) p2 (by lia) (by lia) e ep]at q;cases q
def Rn(k:SortKind)(f:Nat->Keyed)(N:Nat)(c:Nat->Nat->Bool)(lo:Nat)(st:SortSt)(γ:Array Nat)(n:Nat)(st':SortSt):Prop :=
 ∃x γ',st'=setArr st x/\Rp k f N st' γ'/\Sg c γ' lo (lo+n)/\Ow γ' lo (lo+n)/\Raw γ' (lo+n) N/\Out γ γ' lo (lo+n)
def ud(lo n nrem:Nat):StateT SortSt Sem (Option Nat):=do
 reverseSlice' lo (lo+n)
 let r ← forIn [n:nrem] ((none,n):Option (Option Nat)×Nat) fun _ r=>do
  match ← ltAt' (lo+r.2) (lo+r.2-1) with
  | some smaller=>if smaller=true then pure (ForInStep.done (none,r.2)) else pure (ForInStep.yield (none,r.2+1))
  | _=>pure (ForInStep.done (some none,r.2))
 match r.1 with
 | some z=>pure z
 | none=>pure (some r.2)
def oR(lo x nrem:Nat):StateT SortSt Sem (Option Nat):=do
 liftM (rule "list.sort.descending-run")
 let r ← forIn [x+1:nrem] ((none,x+1,0):Option (Option Nat)×Nat×Nat) fun _ r=>do
  match ← ltAt' (lo+r.2.1) (lo+r.2.1-1) with
  | some smaller =>
   if smaller=true then
    if r.2.2 > 0 then do
     reverseSlice' (lo+r.2.1-(r.2.2+1)) (lo+r.2.1)
     pure (ForInStep.yield (none,r.2.1+1,0))
    else pure (ForInStep.yield (none,r.2.1+1,0))
   else do
    match ← ltAt' (lo+r.2.1-1) (lo+r.2.1) with
    | some larger=>if larger=true then pure (ForInStep.done (none,r.2.1,r.2.2)) else pure (ForInStep.yield (none,r.2.1+1,r.2.2+1))
    | _=>pure (ForInStep.done (some none,r.2.1,r.2.2))
  | _=>pure (ForInStep.done (some none,r.2.1,r.2.2))
 match r.1 with
 | some z=>pure z
 | none =>
  if r.2.2 > 0 then do
   reverseSlice' (lo+r.2.1-(r.2.2+1)) (lo+r.2.1)
   ud lo r.2.1 nrem
  else ud lo r.2.1 nrem
def su(h:Q () (setArr st (mirror (arrOf st) i j ((j-i) / 2)))):wpS (model prog w) A E s (reverseSlice' i j) Q st:=by
 rw[reverseSlice'_eq];exact Be h
def xp(C:Cm prog w A s k f N c){st₀:SortSt}{γ₀:Array Nat}{lo n:Nat}{y:Array Keyed}(R:Rp k f N (setArr st₀ y) γ)(h1:1<=n)(hn:lo+n<=N)(fa:Fa c γ lo (lo+n))(ow:Ow γ lo (lo+n))(raw:Raw γ (lo+n) N)(out:Out γ₀ γ lo (lo+n))
  {Q:Option Nat->SortSt->Prop}(q:∀n st',1<=n->lo+n<=N->Rn k f N c lo st₀ γ₀ n st'->Q (some n) st'):wpS (model prog w) A E s (ud lo n (N-lo)) Q (setArr st₀ y):=by
 have hs:lo+n<=γ.size:=by rw[R.size];exact hn
 refine Al (su ?_);have R1:Rp k f N (setArr st₀ (mirror y lo (lo+n) ((lo+n-lo) / 2))) (mirror γ lo (lo+n) ((lo+n-lo) / 2)):=R.put (mirror_perm _ _ _ _) (by rw[show y=γ.map f from R.arr,iY])
 have sg:=yR fa hs;have ow':=kl ow (Qa lo) hs;have raw':=gC (a:=lo) raw hs;have out':=i4 out (Qa lo) hs;generalize mirror γ lo (lo+n) ((lo+n-lo) / 2)=δ at R1 sg ow' raw' out';generalize mirror y lo (lo+n) ((lo+n-lo) / 2)=y' at R1
 refine Al (Aw (Ax (I:=fun x r st'=>st'=setArr st₀ y'/\r=(none,x)/\n<=x/\lo+x<=N/\Sg c δ lo (lo+x)/\Ow δ lo (lo+x)/\Raw δ (lo+x) N)
  (Q:=fun r st'=>st'=setArr st₀ y'/\∃x,r=(none,x)/\n<=x/\lo+x<=N/\Sg c δ lo (lo+x)/\Ow δ lo (lo+x)/\Raw δ (lo+x) N) ?step ?fin ?init) ?post)
 case init=>exact⟨rfl,rfl,Qa _,hn,sg,ow',raw'⟩
 case fin =>
  rintro r st' ⟨rfl,rfl,b1,b2,b3,b4,b5⟩;exact⟨rfl,_,rfl,b1,b2,b3,b4,b5⟩
 case step =>
  rintro x r st' p1 p2 ⟨rfl,rfl,b1,b2,b3,b4,b5⟩;dsimp only;have en:=b5 (lo+x) (by lia) (by lia)
  obtain⟨g,ep⟩:=jK (γ:=δ) (i:=lo+x-1) (by rw[R1.size];lia)
  refine Al (ki C R1 en ep ?_);cases hc:c (lo+x) g with
  | true=>exact Ah ⟨rfl,x,rfl,b1,b2,b3,b4,b5⟩
  | false =>
   obtain⟨a1,a2,a3⟩:=uc C b3 b4 b5 (by lia) (by lia) ep hc
   exact Ah ⟨rfl,rfl,by lia,by lia,a1,a2,a3⟩
 case post =>
  rintro r st' ⟨rfl,x,rfl,b1,b2,b3,b4,b5⟩;exact Ah (q x _ (by lia) b2 ⟨y',δ,rfl,R1,b3,b4,b5,out'.wide (by lia)⟩)
set_option tactic.hygienic true in
def xq(C:Cm prog w A s k f N c){st₀:SortSt}{γ₀:Array Nat}{lo x:Nat}{y:Array Keyed}(R:Rp k f N (setArr st₀ y) γ)(hx:lo+x<N)(F:Fl c γ lo (lo+x) (lo+x+1))(raw:Raw γ (lo+x+1) N)(out:Out γ₀ γ lo (lo+x+1))
  {Q:Option Nat->SortSt->Prop}(q:∀n st',1<=n->lo+n<=N->Rn k f N c lo st₀ γ₀ n st'->Q (some n) st'):wpS (model prog w) A E s (oR lo x (N-lo)) Q (setArr st₀ y):=by
 refine Al (B4 (AH ⟨rfl,?_⟩))
 refine Al (Aw (Ax (I:=fun n r st'=>∃e y' δ,r=(none,n,e)/\st'=setArr st₀ y'/\Rp k f N (setArr st₀ y') δ/\e+1<=n/\lo+n<=N/\Fl c δ lo (lo+n-(e+1)) (lo+n)/\Raw δ (lo+n) N/\Out γ₀ δ lo (lo+n))
  (Q:=fun r st'=>∃n e y' δ,r=(none,n,e)/\st'=setArr st₀ y'/\Rp k f N (setArr st₀ y') δ/\e+1<=n/\lo+n<=N/\Fl c δ lo (lo+n-(e+1)) (lo+n)/\Raw δ (lo+n) N/\Out γ₀ δ lo (lo+n)) ?step ?fin ?init) ?post)
 case init=>exact⟨0,y,γ,rfl,rfl,R,by lia,by lia,F,raw,out⟩
 case fin =>
  rintro r st' ⟨e,y',δ,h⟩;exact⟨_,e,y',δ,h⟩
 case step =>
  rintro n r st' p1 p2 ⟨e,y',δ,rfl,rfl,R1,b1,b2,F1,raw1,out1⟩;dsimp only;have en:=raw1 (lo+n) (Qa _) (by lia)
  have s1:1<=lo+n:=by lia
  have ep:=F1.raw (lo+n-1) (Cc (CU (Qk e)) _) (Nat.sub_lt s1 Nat.one_pos);have hs:lo+n<=δ.size:=by rw[R1.size];exact b2
  refine Al (ki C R1 en ep ?_);cases hc:c (lo+n) (lo+n-1) with
  | true =>
   dsimp only;refine fU rfl ?_;have bl:=F1.below C hc;by_cases he:e > 0
   ·refine fU he ?_;refine Al (su (Ah ?_));have fa:=F1.turn hs;have ow':=kl F1.own F1.le hs;have raw':=gC (a:=lo+n-(e+1)) raw1 hs;have out':=i4 out1 F1.le hs;refine⟨0,_,mirror δ (lo+n-(e+1)) (lo+n) ((lo+n-(lo+n-(e+1))) / 2),rfl,rfl,R1.put (mirror_perm _ _ _ _) (by rw[show arrOf (setArr st₀ y')=δ.map f from R1.arr,iY]),by lia,by lia,?_,fun i q1 q2=>raw' i (by lia) q2,out'.wide (by lia)⟩
    refine fa.next C (g:=0) ow' raw' (by lia) (by lia) fun i g q1 q2 e1=>?_
    by_cases hi:lo+n-(e+1)<=i
    ·obtain⟨i',a1,a2,_,a4⟩:=kQ (γ:=δ) hs hi q2;exact bl i' g (Zd F1.le a1) a2 (a4 ▸ e1)
    ·rw[iZ hs (.inl (AU hi))]at e1;exact bl i g q1 q2 e1
   ·obtain rfl:e=0:=by lia
    refine fj he ?_;have F2:Fl c δ lo (lo+n-1) (lo+n-1+1):=by rw[Bu s1];exact F1
    have fa:=F2.fa1;rw[Bu s1]at fa;exact Ah ⟨0,y',δ,rfl,rfl,R1,by lia,by lia,fa.next C (g:=0) F1.own raw1 (by lia) (by lia) bl,fun i q1 q2=>raw1 i (by lia) q2,out1.wide (by lia)⟩
  | false =>
   dsimp only;refine fj Bool.noConfusion ?_;refine Al (ki C R1 ep en ?_);cases hc2:c (lo+n-1) (lo+n) with
   | true=>exact Ah ⟨n,e,y',δ,rfl,rfl,R1,b1,b2,F1,raw1,out1⟩
   | false =>
    refine Ah ⟨e+1,y',δ,rfl,rfl,R1,by lia,by lia,?_,fun i q1 q2=>raw1 i (by lia) q2,out1.wide (by lia)⟩
    rw[show lo+(n+1) - (e+1+1)=lo+n - (e+1) from Nat.succ_sub_succ _ _];exact F1.more C raw1 (by lia) hc hc2
 case post =>
  rintro r st' ⟨n,e,y',δ,rfl,rfl,R1,b1,b2,F1,raw1,out1⟩;have hs:lo+n<=δ.size:=by rw[R1.size];exact b2
  have s1:1<=lo+n:=by lia
  dsimp only;by_cases he:e > 0
  ·refine fU he ?_;refine Al (su ?_);exact xp C (γ:=mirror δ (lo+n-(e+1)) (lo+n) ((lo+n-(lo+n-(e+1))) / 2)) (R1.put (mirror_perm _ _ _ _) (by rw[show arrOf (setArr st₀ y')=δ.map f from R1.arr,iY])) (by lia) b2 (F1.turn hs) (kl F1.own F1.le hs) (gC (a:=lo+n-(e+1)) raw1 hs) (i4 out1 F1.le hs) q
  ·obtain rfl:e=0:=by lia
   refine fj he ?_;have F2:Fl c δ lo (lo+n-1) (lo+n-1+1):=by rw[Bu s1];exact F1
   have fa:=F2.fa1;rw[Bu s1]at fa;exact xp C R1 (by lia) b2 fa F1.own raw1 out1 q
set_option tactic.hygienic true in
def KZ(C:Cm prog w A s k f N c)(R:Rp k f N st γ){lo:Nat}(hl:lo<N)(raw:Raw γ lo N)
  {Q:Option Nat->SortSt->Prop}(q:∀n st',1<=n->lo+n<=N->Rn k f N c lo st γ n st'->Q (some n) st'):wpS (model prog w) A E s (countRun' lo (N-lo)) Q st:=by
 rw[countRun'_eq];have sg1:Sg c γ lo (lo+1):=fun i j g h p1 p2 p3=>by lia
 have ow1:Ow γ lo (lo+1):=fun i g p1 p2 e=>by
  obtain rfl:i=lo:=by lia
  rw[raw i (Qa _) hl]at e;cases e;lia
 refine Al (Aw (Ax (I:=fun x r st'=>st'=st/\r=(none,x)/\1<=x/\lo+x<=N/\Sg c γ lo (lo+x)/\Ow γ lo (lo+x)/\∀i g h,lo<=i->i+1<lo+x->γ[i]?=some g->γ[i+1]?=some h->c h g=false)
  (Q:=fun r st'=>st'=st/\∃x,r=(none,x)/\1<=x/\lo+x<=N/\Sg c γ lo (lo+x)/\Ow γ lo (lo+x)/\(lo+x=N∨c (lo+x) (lo+x-1)=true)) ?step ?fin ?init) ?post)
 case init=>exact⟨rfl,rfl,by lia,by lia,sg1,ow1,fun i g h p1 p2=>by lia⟩
 case fin =>
  rintro r st' ⟨rfl,rfl,b1,b2,b3,b4,b5⟩;exact⟨rfl,_,rfl,b1,b2,b3,b4,.inl (by lia)⟩
 case step =>
  rintro x r st' p1 p2 ⟨rfl,rfl,b1,b2,b3,b4,b5⟩;dsimp only;have en:=raw (lo+x) (by lia) (by lia)
  have ep:=raw (lo+x-1) (by lia) (by lia)
  refine Al (ki C R en ep ?_);cases hc:c (lo+x) (lo+x-1) with
  | true=>exact Ah ⟨rfl,x,rfl,b1,b2,b3,b4,.inr hc⟩
  | false =>
   obtain⟨a1,a2,_⟩:=uc C b3 b4 (fun i q1 q2=>raw i (by lia) q2) b1 (by lia) ep hc
   refine Ah ⟨rfl,rfl,by lia,by lia,a1,a2,fun i g h q1 q2 e1 e2=>?_⟩
   rw[raw i q1 (by lia)]at e1
   rw[raw (i+1) (by lia) (by lia)]at e2
   cases e1;cases e2;by_cases hi:i+1<lo+x
   ·exact b5 i i (i+1) q1 hi (raw _ q1 (by lia)) (raw _ (by lia) (by lia))
   ·obtain rfl:i=lo+x-1:=by lia
    rw[show lo+x - 1+1=lo+x by lia];exact hc
 case post =>
  rintro r st' ⟨rfl,x,rfl,b1,b2,b3,b4,b6⟩;dsimp only;by_cases hx:lo+x=N
  ·refine fU (by simp;lia) ?_
   exact Ah (q x _ b1 b2 ⟨_,γ,rfl,R,b3,b4,fun i q1 q2=>raw i (by lia) q2,Out.refl _ _ _⟩)
  ·refine fj (by simp;lia) ?_
   have hc:c (lo+x) (lo+x-1)=true:=b6.resolve_left hx;have hs:lo+x<=γ.size:=by rw[R.size];exact b2
   have raw':Raw γ (lo+x) N:=fun i q1 q2=>raw i (by lia) q2
   by_cases h1:x > 1
   ·refine fU h1 ?_;refine Al (ki C R (raw lo (Qa _) hl) (raw (lo+x-1) (by lia) (by lia)) ?_)
    cases hr:c lo (lo+x-1) with
    | true=>exact Ah (q x _ b1 b2 ⟨_,γ,rfl,R,b3,b4,raw',Out.refl _ _ _⟩)
    | false =>
     dsimp only;refine fj Bool.noConfusion ?_;have le:∀a b,lo<=a->a<lo+x->lo<=b->b<lo+x->a<=b->c b a=false:=fun a b p1 p2 p3 p4 p5=>by
      by_cases ab:a=b
      ·subst ab;exact C.irr _
      ·exact C.le (b3 a b a b p1 (by lia) p4 (raw a p1 (by lia)) (raw b p3 (by lia)))
     have al:∀a b,lo<=a->a<lo+x->lo<=b->b<lo+x->c a b=false:=fun a b p1 p2 p3 p4=>by
      by_cases ab:b<=a
      ·exact le b a p3 p4 p1 p2 ab
      ·cases hab:c a b with
       | false=>rfl
       | true =>
        rcases C.neg a lo b hab with z|z
        ·rw[le lo a (Qa _) (by lia) p1 p2 p1]at z;exact z.symm
        ·rcases C.neg lo (lo+x-1) b z with z|z
         ·rw[hr]at z;exact z.symm
         ·rw[le b (lo+x - 1) p3 p4 (by lia) (by lia) (by lia)]at z;exact z.symm
     have F0:Fl c γ lo lo (lo+x):=⟨Qa _,by lia,fun i j g h p1 p2 p3=>by lia,fun i j g h p1 p2=>by lia,fun i j g h p1 p2 p3 p4 e1 e2=>by
      rw[raw i p1 (by lia)]at e1
      rw[raw j p3 (by lia)]at e2
      cases e1;cases e2
      exact al i j p1 p2 p3 p4,fun i p1 p2=>raw i p1 (by lia),b4⟩
     refine Al (su ?_);refine(show ∀{m:StateT SortSt Sem (Option Nat)}{t:SortSt},m=oR lo x (N-lo)->wpS (model prog w) A E s (oR lo x (N-lo)) Q t->wpS (model prog w) A E s m Q t from fun e h=>e ▸ h) ?_
      (xq C (st₀:=st') (γ₀:=γ) (γ:=mirror γ lo (lo+x) ((lo+x-lo) / 2)) (R.put (mirror_perm _ _ _ _) (by rw[R.arr,iY])) (by lia)
       ((F0.turn hs).next C (g:=0) (kl b4 (Qa _) hs) (gC (a:=lo) raw' hs) (by lia) (by lia) fun i g p1 p2 e=>?_) (fun i q1 q2=>gC (a:=lo) raw' hs i (by lia) q2) ((i4 (Out.refl γ lo (lo+x)) (Qa _) hs).wide (by lia)) q)
     ·unfold oR ud;congr 1;funext _v;congr 1;funext z;obtain⟨z1,z2,z3⟩:=z;cases z1 with
      | some z1=>rfl
      | none =>
       dsimp only;split
       ·congr 1;funext _y;congr 1;funext _u;congr 1;funext z;obtain⟨z1,z2⟩:=z;cases z1<;>rfl
       ·congr 1;funext _u;congr 1;funext z;obtain⟨z1,z2⟩:=z;cases z1<;>rfl
     ·obtain⟨i',a1,a2,_,a4⟩:=kQ (γ:=γ) hs p1 p2;exact F0.below C hc i' g a1 a2 (a4 ▸ e)
   ·obtain rfl:x=1:=by lia
    refine fj h1 ?_;have fa:Fa c γ lo (lo+1):=fun i j g h p1 p2 p3=>by lia
    refine(show ∀{m:StateT SortSt Sem (Option Nat)},m=oR lo 1 (N-lo)->wpS (model prog w) A E s (oR lo 1 (N-lo)) Q st'->wpS (model prog w) A E s m Q st' from fun e h=>e ▸ h) ?_ (xq C (st₀:=st') (y:=arrOf st') (γ₀:=γ) (γ:=γ) R (by lia) (fa.next C (g:=0) b4 raw' (by lia) (by lia) fun i g p1 p2 e=>?_) (fun i q1 q2=>raw i (by lia) q2) (Out.refl _ _ _) q)
    ·unfold oR ud;congr 1;funext _v;congr 1;funext z;obtain⟨z1,z2,z3⟩:=z;cases z1 with
     | some z1=>rfl
     | none =>
      dsimp only;split
      ·congr 1;funext _y;congr 1;funext _u;congr 1;funext z;obtain⟨z1,z2⟩:=z;cases z1<;>rfl
      ·congr 1;funext _u;congr 1;funext z;obtain⟨z1,z2⟩:=z;cases z1<;>rfl
    obtain rfl:i=lo:=by lia
    rw[raw i (Qa _) hl]at e;cases e;exact hc
end
end TS
namespace TS
open PySem PyProof.Rows
def By(left:Bool)(key:Keyed)(arr:Array Keyed)(base i:Nat):StateT SortSt Sem (Option Bool):=do
 let p ← elem' arr (base+i)
 if left then lt' p key else return (← lt' key p).map (!·)
def gal:Bool->Keyed->Array Keyed->Nat->Nat->Nat->StateT SortSt Sem (Option Nat):=sortPriv% PySem.Builtin.gallop
section
variable {prog:Program}{w:World}{A:Around}{E:Value->Shared->Prop}{s:Shared}{k:SortKind}{f:Nat->Keyed}{N:Nat}{c:Nat->Nat->Bool}{st:SortSt}{δ:Array Nat}
def bb(c:Nat->Nat->Bool)(left:Bool)(t g:Nat):Bool:=if left then c g t else !c t g
def xt(C:Cm prog w A s k f N c)(hk:kindOf st=k)(ht:t<N)(hg:g<N)(e:δ[base+i]?=some g)(q:Q (some (bb c left t g)) st) :
  wpS (model prog w) A E s (By left (f t) (δ.map f) base i) Q st:=by
 unfold By;rw[elem'_eq,Wl,e];refine Al (Ah ?_);cases left with
 | true=>exact ub C hk hg ht q
 | false=>exact Al (ub C hk ht hg (Ah q))
def EW(left:Bool)(key:Keyed)(arr:Array Keyed)(base n l h:Nat):StateT SortSt Sem (Option Nat):=do
 let r ← forIn [0:n] ((none,l,h):Option (Option Nat)×Nat×Nat) fun _ r=>do
  if r.2.1 ≥ r.2.2 then pure (ForInStep.done (none,r.2.1,r.2.2)) else do
   match ← By left key arr base (r.2.1+(r.2.2-r.2.1) / 2) with
   | some mo=>if mo=true then pure (ForInStep.yield (none,r.2.1+(r.2.2-r.2.1) / 2+1,r.2.2)) else pure (ForInStep.yield (none,r.2.1,r.2.1+(r.2.2-r.2.1) / 2))
   | _=>pure (ForInStep.done (some none,r.2.1,r.2.2))
 match r.1 with
 | some z=>pure z
 | none=>pure (some r.2.2)
def Tr(c:Nat->Nat->Bool)(left:Bool)(t base:Nat)(δ:Array Nat)(m:Nat):Prop:=∀(i g:Nat),base<=i->i<base+m->δ[i]?=some g->bb c left t g=true
def Fs(c:Nat->Nat->Bool)(left:Bool)(t base n:Nat)(δ:Array Nat)(m:Nat):Prop:=∀(i g:Nat),base+m<=i->i<base+n->δ[i]?=some g->bb c left t g=false
def Mo(c:Nat->Nat->Bool)(left:Bool)(t base n:Nat)(δ:Array Nat):Prop:=∀(i j g h:Nat),base<=i->i<j->j<base+n->δ[i]?=some g->δ[j]?=some h->bb c left t h=true->bb c left t g=true
def Mo.tr(mo:Mo c left t base n δ)(hm:m<n)(e:δ[base+m]?=some g)(h:bb c left t g=true):Tr c left t base δ (m+1):=by
 intro i g' p1 p2 e';by_cases hi:i=base+m
 ·subst hi;rw[e]at e';cases e';exact h
 ·exact mo i (base+m) g' g p1 (by lia) (by lia) e' e h
def Mo.fs(mo:Mo c left t base n δ)(hm:m<n)(e:δ[base+m]?=some g)(h:bb c left t g=false):Fs c left t base n δ m:=by
 intro i g' p1 p2 e';by_cases hi:i=base+m
 ·subst hi;rw[e]at e';cases e';exact h
 ·cases z:bb c left t g' with
  | false=>rfl
  | true=>exact absurd (mo (base+m) i g g' (by lia) (by lia) p2 e e' z) (by rw[h];exact Bool.noConfusion)
def Nl(q:l<h):l<=l+(h-l) / 2/\l+(h-l) / 2<h:=⟨Wk _ _,Nat.lt_of_lt_of_eq (Nat.add_lt_add_left (Nat.div_lt_self (Nat.sub_pos_of_lt q) (by decide)) l) (Xl (Wj q))⟩
def xu(C:Cm prog w A s k f N c)(hk:kindOf st=k)(ht:t<N)(hb:∀(i g:Nat),δ[i]?=some g->g<N)(hs:base+n<=δ.size)(mo:Mo c left t base n δ)
  (h1:l<=h)(h2:h<=n)(tr:Tr c left t base δ l)(fs:Fs c left t base n δ h)(q:∀m,m<=n->Tr c left t base δ m->Fs c left t base n δ m->Q (some m) st) :
  wpS (model prog w) A E s (EW left (f t) (δ.map f) base n l h) Q st:=by
 refine Al (Aw (Ax (I:=fun x r st'=>st'=st/\∃l h,r=(none,l,h)/\l<=h/\h<=n/\h-l<=n-x/\Tr c left t base δ l/\Fs c left t base n δ h)
  (Q:=fun r st'=>st'=st/\∃l,r=(none,l,l)/\l<=n/\Tr c left t base δ l/\Fs c left t base n δ l) ?step ?fin ?init) ?post)
 case init=>exact⟨rfl,l,h,rfl,h1,h2,by lia,tr,fs⟩
 case fin =>
  rintro r st' ⟨rfl,l,h,rfl,b1,b2,b3,b4,b5⟩;obtain rfl:l=h:=by lia
  exact⟨rfl,l,rfl,b2,b4,b5⟩
 case step =>
  rintro x r st' p1 p2 ⟨rfl,l,h,rfl,b1,b2,b3,b4,b5⟩;dsimp only;by_cases hlh:l ≥ h
  ·refine fU hlh ?_;obtain rfl:l=h:=by lia
   exact Ah ⟨rfl,l,rfl,b2,b4,b5⟩
  ·refine fj hlh ?_;obtain⟨q1,q2⟩:=Nl (AU hlh);generalize l+(h-l) / 2=t' at q1 q2 ⊢;have q5:t'<n:=Qc q2 b2;obtain⟨g,e⟩:=jK (γ:=δ) (i:=base+t') (Qc (Nat.add_lt_add_left q5 base) hs);refine Al (xt C hk ht (hb _ _ e) e ?_);cases hc:bb c left t g with
   | true=>exact Ah ⟨rfl,_,_,rfl,q2,b2,MB b3 q1 q2,mo.tr q5 e hc,b5⟩
   | false=>exact Ah ⟨rfl,_,_,rfl,q1,Wj q5,MA b3 q2 q1,b4,mo.fs q5 e hc⟩
 case post =>
  rintro r st' ⟨rfl,l,rfl,b1,b2,b3⟩;exact Ah (q l b1 b2 b3)
def EX(C:Cm prog w A s k f N c)(hk:kindOf st=k)(ht:t<N)(hb:∀(i g:Nat),δ[i]?=some g->g<N)(hs:base+n<=δ.size)(hh:hint<n)(mo:Mo c left t base n δ)
  (q:∀m,m<=n->Tr c left t base δ m->Fs c left t base n δ m->Q (some m) st) :
  wpS (model prog w) A E s (gal left (f t) (δ.map f) base n hint) Q st:=by
 obtain⟨g0,e0⟩:=jK (γ:=δ) (i:=base+hint) (by lia)
 refine Al (xt C hk ht (hb _ _ e0) e0 ?_);have sw:∀{m m':StateT SortSt Sem (Option Nat)},m=m'->wpS (model prog w) A E s m' Q st->wpS (model prog w) A E s m Q st:=fun e h=>e ▸ h;dsimp only;cases hc:bb c left t g0 with
 | true =>
  refine fU rfl ?_
  refine Al (Aw (Ax (I:=fun x r st'=>st'=st/\∃a o,r=(none,a,o)/\a<o/\x<o/\a<n-hint/\Tr c left t base δ (hint+a+1))
   (Q:=fun r st'=>st'=st/\∃a o,r=(none,a,o)/\a<o/\a<n-hint/\Tr c left t base δ (hint+a+1)/\(n-hint<=o∨Fs c left t base n δ (hint+o))) ?step ?fin ?init) ?post)
  case init=>exact⟨rfl,0,1,rfl,by lia,by lia,by lia,mo.tr hh e0 hc⟩
  case fin =>
   rintro r st' ⟨rfl,a,o,rfl,b1,b2,b3,b4⟩;exact⟨rfl,a,o,rfl,b1,b3,b4,.inl (by lia)⟩
  case step =>
   rintro x r st' p1 p2 ⟨rfl,a,o,rfl,b1,b2,b3,b4⟩;dsimp only;by_cases ho:o ≥ n-hint
   ·refine fU ho ?_;exact Ah ⟨rfl,a,o,rfl,b1,b3,b4,.inl ho⟩
   ·refine fj ho ?_;obtain⟨g,e⟩:=jK (γ:=δ) (i:=base+(hint+o)) (by lia)
    refine Al (xt C hk ht (hb _ _ e) e ?_);cases hc:bb c left t g with
    | true=>exact Ah ⟨rfl,o,2*o+1,rfl,by lia,by lia,by lia,mo.tr (by lia) e hc⟩
    | false=>exact Ah ⟨rfl,a,o,rfl,b1,b3,b4,.inr (mo.fs (by lia) e hc)⟩
  case post =>
   rintro r st' ⟨rfl,a,o,rfl,b1,b3,b4,b5⟩;refine sw (m':=EW left (f t) (δ.map f) base n (hint+a+1) (hint+min o (n-hint))) (by unfold EW;dsimp only;congr 1;funext z;obtain⟨z1,z2,z3⟩:=z;cases z1<;>rfl) (xu C hk ht hb hs mo (Vi (Nat.lt_min.mpr ⟨b1,b3⟩) hint) (Zd (Vi (CW _ _) _) (Nat.le_of_eq (Xl (Wj hh)))) b4 ?_ q)
   by_cases ho:n-hint<=o
   ·intro i g p1 p2;rw[CY ho,Xl (Wj hh)]at p1;exact absurd p2 (Nat.not_lt_of_le p1)
   ·rw[Ym (Nat.le_of_not_le ho)];exact b5.resolve_left ho
 | false =>
  refine fj Bool.noConfusion ?_
  refine Al (Aw (Ax (I:=fun x r st'=>st'=st/\∃a o,r=(none,a,o)/\a<o/\x<o/\a<hint+1/\Fs c left t base n δ (hint-a))
   (Q:=fun r st'=>st'=st/\∃a o,r=(none,a,o)/\a<o/\a<hint+1/\Fs c left t base n δ (hint-a)/\(hint+1<=o∨Tr c left t base δ (hint-o+1))) ?step ?fin ?init) ?post)
  case init=>exact⟨rfl,0,1,rfl,by lia,by lia,by lia,mo.fs hh e0 hc⟩
  case fin =>
   rintro r st' ⟨rfl,a,o,rfl,b1,b2,b3,b4⟩;exact⟨rfl,a,o,rfl,b1,b3,b4,.inl (by lia)⟩
  case step =>
   rintro x r st' p1 p2 ⟨rfl,a,o,rfl,b1,b2,b3,b4⟩;dsimp only;by_cases ho:o ≥ hint+1
   ·refine fU ho ?_;exact Ah ⟨rfl,a,o,rfl,b1,b3,b4,.inl ho⟩
   ·refine fj ho ?_;obtain⟨g,e⟩:=jK (γ:=δ) (i:=base+(hint-o)) (by lia)
    refine Al (xt C hk ht (hb _ _ e) e ?_);cases hc:bb c left t g with
    | true=>exact Ah ⟨rfl,a,o,rfl,b1,b3,b4,.inr (mo.tr (by lia) e hc)⟩
    | false=>exact Ah ⟨rfl,o,2*o+1,rfl,by lia,by lia,by lia,mo.fs (by lia) e hc⟩
  case post =>
   rintro r st' ⟨rfl,a,o,rfl,b1,b3,b4,b5⟩;refine sw (m':=EW left (f t) (δ.map f) base n (hint+1-min o (hint+1)) (hint-a)) (by unfold EW;dsimp only;congr 1;funext z;obtain⟨z1,z2,z3⟩:=z;cases z1<;>rfl) (xu C hk ht hb hs mo (Nat.succ_sub_succ hint a ▸ Cc (Nat.lt_min.mpr ⟨b1,b3⟩) _) (Zd (Nat.sub_le _ _) (Wj hh)) ?_ b4 q)
   by_cases ho:hint+1<=o
   ·intro i g p1 p2;rw[CY ho,Ds]at p2;exact absurd p2 (Nat.not_lt_of_le p1)
   ·rw[Ym (Nat.le_of_not_le ho),Nat.succ_sub (Nat.le_of_lt_succ (AU ho))];exact b5.resolve_left ho
end
end TS
namespace TS
open PySem PyProof.Rows
structure Mg(c:Nat->Nat->Bool)(α β ω la lb:List Nat):Prop where
 so:ω.Pairwise (Bf c)
 sa:la.Pairwise (Bf c)
 sb:lb.Pairwise (Bf c)
 xa:∀g∈ω,∀h∈la,Bf c g h
 xb:∀g∈ω,∀h∈lb,Bf c g h
 tag:∀g∈la,∀h∈lb,g<h
 perm:(ω++la++lb).Perm (α++β)
def Gd(c:Nat->Nat->Bool)(α β l:List Nat):Prop:=l.Pairwise (Bf c)/\l.Perm (α++β)
section
variable {prog:Program}{w:World}{A:Around}{s:Shared}{k:SortKind}{f:Nat->Keyed}{N:Nat}{c:Nat->Nat->Bool}{α β ω la lb:List Nat}{x y:Nat}
def Mg.takeB(C:Cm prog w A s k f N c)(J:Mg c α β ω (x::la) (y::lb))(h:c y x=true):Mg c α β (ω++[y]) (x::la) lb:=by
 have sa:=Yi.mp J.sa;have sb:=Yi.mp J.sb;have ya:∀z∈x::la,Bf c y z:=fun z hz=>by
  rcases Vd.mp hz with rfl|hz
  ·exact .inl h
  ·exact C.trans (.inl h) (sa.1 z hz)
 refine⟨?_,J.sa,sb.2,fun g hg z hz=>?_,fun g hg z hz=>?_,fun g hg z hz=>J.tag g hg z (Vb _ hz),?_⟩
 ·rw[Xi];exact⟨J.so,BM _ _,fun g hg z hz=>by rw[Va.mp hz];exact J.xb g hg y Wb⟩
 ·rcases Wc.mp hg with hg|hg
  ·exact J.xa g hg z hz
  ·rw[Va.mp hg];exact ya z hz
 ·rcases Wc.mp hg with hg|hg
  ·exact J.xb g hg z (Vb _ hz)
  ·rw[Va.mp hg];exact sb.1 z hz
 ·refine List.Perm.trans ?_ J.perm;rw[Yc,Yc,Yc];refine AJ ω ?_;exact(Vk (l₁:=x::la) (a:=y) (l₂:=lb)).symm
def Mg.takeA(C:Cm prog w A s k f N c)(J:Mg c α β ω (x::la) (y::lb))(h:c y x=false):Mg c α β (ω++[x]) la (y::lb):=by
 have sa:=Yi.mp J.sa;have sb:=Yi.mp J.sb;have xy:Bf c x y:=.inr ⟨h,J.tag x Wb y Wb⟩;refine⟨?_,sa.2,J.sb,fun g hg z hz=>?_,fun g hg z hz=>?_,fun g hg z hz=>J.tag g (Vb _ hg) z hz,?_⟩
 ·rw[Xi];exact⟨J.so,BM _ _,fun g hg z hz=>by rw[Va.mp hz];exact J.xa g hg x Wb⟩
 ·rcases Wc.mp hg with hg|hg
  ·exact J.xa g hg z (Vb _ hz)
  ·rw[Va.mp hg];exact sa.1 z hz
 ·rcases Wc.mp hg with hg|hg
  ·exact J.xb g hg z hz
  ·rw[Va.mp hg];rcases Vd.mp hz with rfl|hz
   ·exact xy
   ·exact C.trans xy (sb.1 z hz)
 ·refine List.Perm.trans ?_ J.perm;rw[Yc ω [x] la];exact List.Perm.refl _
theorem Mg.takeAs(C:Cm prog w A s k f N c):∀(l:List Nat){ω la:List Nat},Mg c α β ω (l++la) (y::lb)->(∀g∈l,c y g=false)->Mg c α β (ω++l) la (y::lb)
 | [],ω,la,J,_=>by rw[Vc];exact J
 | x::l,ω,la,J,h=>by
  have:=Mg.takeAs C l (J.takeA C (h x Wb)) fun g hg=>h g (Vb _ hg);rwa [Yc]at this
theorem Mg.takeBs(C:Cm prog w A s k f N c):∀(l:List Nat){ω lb:List Nat},Mg c α β ω (x::la) (l++lb)->(∀g∈l,c g x=true)->Mg c α β (ω++l) (x::la) lb
 | [],ω,lb,J,_=>by rw[Vc];exact J
 | y::l,ω,lb,J,h=>by
  have:=Mg.takeBs C l (J.takeB C (h y Wb)) fun g hg=>h g (Vb _ hg);rwa [Yc]at this
def Mg.doneA(J:Mg c α β ω la []):Gd c α β (ω++la):=by
 refine⟨Xi.mpr ⟨J.so,J.sa,J.xa⟩,?_⟩;have:=J.perm;rwa [Vc]at this
def Mg.doneB(J:Mg c α β ω [] lb):Gd c α β (ω++lb):=by
 refine⟨Xi.mpr ⟨J.so,J.sb,J.xb⟩,?_⟩;have:=J.perm;rwa [Vc]at this
def Mg.last(C:Cm prog w A s k f N c)(J:Mg c α β ω [x] lb)(h:∀g∈lb,c g x=true):Gd c α β (ω++lb++[x]):=by
 have J':Mg c α β ω [x] (lb++[]):=by rw[Vc];exact J
 exact(J'.takeBs C lb h).doneA
end
end TS
namespace TS
open PySem PyProof.Rows
def ar(f:Nat->Keyed)(l:List Nat):Array Keyed:=l.toArray.map f
def Lw(f:Nat->Keyed)(c:Nat->Nat->Bool)(α β:List Nat)(o:Array Keyed)(i j:Nat):Prop:=∃ω,o=ar f ω/\Mg c α β ω (α.drop i) (β.drop j)
def Rt(f:Nat->Keyed)(c:Nat->Nat->Bool)(α β:List Nat)(o:Array Keyed):Prop:=∃l,o=ar f l/\Gd c α β l
section
variable {prog:Program}{w:World}{A:Around}{s:Shared}{k:SortKind}{f:Nat->Keyed}{N:Nat}{c:Nat->Nat->Bool}{α β:List Nat}{o:Array Keyed}{i j x y:Nat}
def gc(l:List Nat):(ar f l).size=l.length:=by simp[ar]
def n4(l:List Nat)(g:Nat):(ar f l).push (f g)=ar f (l++[g]):=by simp[ar]
def f7(l m:List Nat):ar f l++ar f m=ar f (l++m):=by simp[ar]
def kR(l:List Nat)(p q:Nat):(ar f l).extract p q=ar f ((l.drop p).take (q-p)):=by simp[ar,List.extract]
def sv(l:List Nat)(p:Nat):(ar f l).extract p (ar f l).size=ar f (l.drop p):=by
 rw[kR,gc,A8 (by rw[Vf];exact Qa _)]
def MC{l:List Nat}{p g:Nat}(e:l[p]?=some g):(ar f l)[p]?=some (f g):=by simp[ar,e]
def oS{l:List Nat}(e:l[p]?=some g):l.drop p=g::l.drop (p+1):=by
 obtain⟨h,rfl⟩:=Qb.mp e;exact Vl h
def Lw.b(C:Cm prog w A s k f N c)(L:Lw f c α β o i j)(hx:α[i]?=some x)(hy:β[j]?=some y)(h:c y x=true):Lw f c α β (o.push (f y)) i (j+1):=by
 obtain⟨ω,rfl,J⟩:=L;refine⟨ω++[y],n4 _ _,?_⟩;rw[oS hx]at J ⊢;rw[oS hy]at J;exact J.takeB C h
def Lw.a(C:Cm prog w A s k f N c)(L:Lw f c α β o i j)(hx:α[i]?=some x)(hy:β[j]?=some y)(h:c y x=false):Lw f c α β (o.push (f x)) (i+1) j:=by
 obtain⟨ω,rfl,J⟩:=L;refine⟨ω++[x],n4 _ _,?_⟩;rw[oS hy]at J ⊢;rw[oS hx]at J;exact J.takeA C h
def Lw.as(C:Cm prog w A s k f N c)(L:Lw f c α β o i j)(hy:β[j]?=some y)(h:∀p g,i<=p->p<i+u->α[p]?=some g->c y g=false):Lw f c α β (o++(ar f α).extract i (i+u)) (i+u) j:=by
 obtain⟨ω,rfl,J⟩:=L;refine⟨ω++(α.drop i).take u,by rw[kR,show i+u - i=u by lia,f7],?_⟩
 rw[oS hy]at J ⊢;refine Mg.takeAs C _ (la:=α.drop (i+u)) (by rw[← Ba,Qg];exact J) fun g hg=>?_
 obtain⟨p,hp⟩:=List.mem_iff_getElem?.mp hg;rw[Yn]at hp;split at hp
 ·rw[Qf]at hp;exact h (i+p) g (by lia) (by lia) hp
 ·cases hp
def Lw.bs(C:Cm prog w A s k f N c)(L:Lw f c α β o i j)(hx:α[i]?=some x)(h:∀p g,j<=p->p<j+u->β[p]?=some g->c g x=true):Lw f c α β (o++(ar f β).extract j (j+u)) i (j+u):=by
 obtain⟨ω,rfl,J⟩:=L;refine⟨ω++(β.drop j).take u,by rw[kR,show j+u - j=u by lia,f7],?_⟩
 rw[oS hx]at J ⊢;refine Mg.takeBs C _ (lb:=β.drop (j+u)) (by rw[← Ba (i:=u) (j:=j),Qg];exact J) fun g hg=>?_
 obtain⟨p,hp⟩:=List.mem_iff_getElem?.mp hg;rw[Yn]at hp;split at hp
 ·rw[Qf]at hp;exact h (j+p) g (by lia) (by lia) hp
 ·cases hp
def Lw.dn(L:Lw f c α β o i j)(h:j=β.length∨i=α.length):Rt f c α β (o++(ar f α).extract i (ar f α).size++(ar f β).extract j (ar f β).size):=by
 obtain⟨ω,rfl,J⟩:=L;rw[sv,sv,f7,f7];refine⟨_,rfl,?_⟩;rcases h with rfl|rfl
 ·rw[C1]at J ⊢;rw[Vc];exact J.doneA
 ·rw[C1]at J ⊢;rw[Vc];exact J.doneB
def Lw.la(C:Cm prog w A s k f N c)(L:Lw f c α β o i j)(hx:α[i]?=some x)(h:i+1=α.length)(z:∀g∈β,c g x=true):Rt f c α β (o++(ar f β).extract j (ar f β).size++(ar f α).extract i (ar f α).size):=by
 obtain⟨ω,rfl,J⟩:=L;rw[sv,sv,f7,f7];refine⟨_,rfl,?_⟩;rw[oS hx,h,C1]at J ⊢;exact J.last C fun g hg=>z g (Bl hg)
end
end TS
namespace TS
open PySem PyProof.Rows
inductive Ex2{A B R:Type}(g:A->B->R)(p:A->B->Prop):R->Prop|mk (a b) (h:p a b):Ex2 g p (g a b)
inductive Ex4{A B C D R:Type}(g:A->B->C->D->R)(p:A->B->C->D->Prop):R->Prop|mk (a b c d) (h:p a b c d):Ex4 g p (g a b c d)
inductive Ex5{A B C D E R:Type}(g:A->B->C->D->E->R)(p:A->B->C->D->E->Prop):R->Prop|mk (a b c d e) (h:p a b c d e):Ex5 g p (g a b c d e)
inductive Ex6{A B C D E F R:Type}(g:A->B->C->D->E->F->R)(p:A->B->C->D->E->F->Prop):R->Prop|mk (a b c d e f) (h:p a b c d e f):Ex6 g p (g a b c d e f)
def mlo:Array Keyed->Array Keyed->StateT SortSt Sem (Array Keyed):=sortPriv% PySem.Builtin.mergeLo
structure Sm(a b:SortSt):Prop where
 arr:arrOf b=arrOf a
 kind:kindOf b=kindOf a
 pend:pendingOf b=pendingOf a
 fine:failedOf b=failedOf a
def oU{M:Model}{A:Around}{E:Value->Shared->Prop}{σ γ:Type}{B:Nat->StateT σ Sem γ}{p:Prop}{d:Decidable p}{m2:Nat}{Q:γ->σ->Prop}{st:σ}(h:∀m,wpS M A E s (B m) Q st):∀m1,wpS M A E s (@ite _ p d (B m1) (B m2)) Q st:=by
 intro m1;by_cases hp:p
 ·rw[Ae hp];exact h _
 ·rw[Ak hp];exact h _
def n5{M:Model}{A:Around}{E:Value->Shared->Prop}{σ γ:Type}{X:StateT σ Sem γ}{B:Array Keyed->Nat->StateT σ Sem γ}{p:Prop}{d:Decidable p}{o:Array Keyed}{i:Nat}{Q:γ->σ->Prop}{st:σ}(I:Array Keyed->Nat->Prop)
  (h:p->(∀o i,I o i->wpS M A E s (B o i) Q st)->wpS M A E s X Q st)(g:¬ p->I o i)(hB:∀o i,I o i->wpS M A E s (B o i) Q st):wpS M A E s (@ite _ p d X (B o i)) Q st:=by
 by_cases hp:p
 ·rw[Ae hp];exact h hp hB
 ·rw[Ak hp];exact hB _ _ (g hp)
def MD{M:Model}{A:Around}{E:Value->Shared->Prop}{σ γ O ρ A0 A1 A2 A3:Type}{lo hi:Nat}{F:Nat->Option O×ρ->StateT σ Sem (ForInStep (Option O×ρ))}{K:Option O×ρ->StateT σ Sem γ}(S:σ->Prop)(R:O->Prop)(g:A0->A1->A2->A3->ρ)(p:Nat->A0->A1->A2->A3->Prop)(p':A0->A1->A2->A3->Prop){Q:γ->σ->Prop}
  (step:∀x a b c d st,S st->p x a b c d->wpS M A E s (F x (none,g a b c d)) (fun r st'=>match r with|.done c'=>S st'/\(Ex2 (fun o z=>(some o,z)) (fun o _=>R o) c'∨Ex4 (fun a b c d=>(none,g a b c d)) p' c')|.yield c'=>S st'/\Ex4 (fun a b c d=>(none,g a b c d)) (p (x+1)) c') st)
  (fin:∀a b c d,p (max lo hi) a b c d->False) {r:Option O×ρ} {st:σ} (hS:S st) (init:Ex4 (fun a b c d=>(none,g a b c d)) (p lo) r) (sm:∀o z st',S st'->R o->wpS M A E s (K (some o,z)) Q st') (nn:∀a b c d st',S st'->p' a b c d->wpS M A E s (K (none,g a b c d)) Q st'):wpS M A E s (forIn [lo:hi] r F >>= K) Q st:=by
 refine Al (Aw (Ax (I:=fun x r st=>S st/\Ex4 (fun a b c d=>(none,g a b c d)) (p x) r) (Q:=fun r st=>S st/\(Ex2 (fun o z=>(some o,z)) (fun o _=>R o) r∨Ex4 (fun a b c d=>(none,g a b c d)) p' r)) ?_ ?_ ⟨hS,init⟩) ?_)
 ·rintro x r st _ _ ⟨h,a,b,c,d,z⟩;exact Aw (step x a b c d st h z) fun r st' h=>by cases r<;>exact h
 ·rintro r st ⟨_,a,b,c,d,z⟩;exact(fin a b c d z).elim
 ·rintro r st ⟨h,⟨o,z,h1⟩|⟨a,b,c,d,h1⟩⟩
  ·exact sm o z st h h1
  ·exact nn a b c d st h h1
def ME{M:Model}{A:Around}{E:Value->Shared->Prop}{σ γ O ρ A0 A1 A2 A3 A4:Type}{lo hi:Nat}{F:Nat->Option O×ρ->StateT σ Sem (ForInStep (Option O×ρ))}{K:Option O×ρ->StateT σ Sem γ}(S:σ->Prop)(R:O->Prop)(g:A0->A1->A2->A3->A4->ρ)(p:Nat->A0->A1->A2->A3->A4->Prop)(p':A0->A1->A2->A3->A4->Prop){Q:γ->σ->Prop}
  (step:∀x a b c d e st,S st->p x a b c d e->wpS M A E s (F x (none,g a b c d e)) (fun r st'=>match r with|.done c'=>S st'/\(Ex2 (fun o z=>(some o,z)) (fun o _=>R o) c'∨Ex5 (fun a b c d e=>(none,g a b c d e)) p' c')|.yield c'=>S st'/\Ex5 (fun a b c d e=>(none,g a b c d e)) (p (x+1)) c') st)
  (fin:∀a b c d e,p (max lo hi) a b c d e->False) {r:Option O×ρ} {st:σ} (hS:S st) (init:Ex5 (fun a b c d e=>(none,g a b c d e)) (p lo) r) (sm:∀o z st',S st'->R o->wpS M A E s (K (some o,z)) Q st') (nn:∀a b c d e st',S st'->p' a b c d e->wpS M A E s (K (none,g a b c d e)) Q st'):wpS M A E s (forIn [lo:hi] r F >>= K) Q st:=by
 refine Al (Aw (Ax (I:=fun x r st=>S st/\Ex5 (fun a b c d e=>(none,g a b c d e)) (p x) r) (Q:=fun r st=>S st/\(Ex2 (fun o z=>(some o,z)) (fun o _=>R o) r∨Ex5 (fun a b c d e=>(none,g a b c d e)) p' r)) ?_ ?_ ⟨hS,init⟩) ?_)
 ·rintro x r st _ _ ⟨h,a,b,c,d,e,z⟩;exact Aw (step x a b c d e st h z) fun r st' h=>by cases r<;>exact h
 ·rintro r st ⟨_,a,b,c,d,e,z⟩;exact(fin a b c d e z).elim
 ·rintro r st ⟨h,⟨o,z,h1⟩|⟨a,b,c,d,e,h1⟩⟩
  ·exact sm o z st h h1
  ·exact nn a b c d e st h h1
def MF{M:Model}{A:Around}{E:Value->Shared->Prop}{σ γ O ρ A0 A1 A2 A3 A4 A5:Type}{lo hi:Nat}{F:Nat->Option O×ρ->StateT σ Sem (ForInStep (Option O×ρ))}{K:Option O×ρ->StateT σ Sem γ}(S:σ->Prop)(R:O->Prop)(g:A0->A1->A2->A3->A4->A5->ρ)(p:Nat->A0->A1->A2->A3->A4->A5->Prop)(p':A0->A1->A2->A3->A4->A5->Prop){Q:γ->σ->Prop}
  (step:∀x a b c d e f st,S st->p x a b c d e f->wpS M A E s (F x (none,g a b c d e f)) (fun r st'=>match r with|.done c'=>S st'/\(Ex2 (fun o z=>(some o,z)) (fun o _=>R o) c'∨Ex6 (fun a b c d e f=>(none,g a b c d e f)) p' c')|.yield c'=>S st'/\Ex6 (fun a b c d e f=>(none,g a b c d e f)) (p (x+1)) c') st)
  (fin:∀a b c d e f,p (max lo hi) a b c d e f->False) {r:Option O×ρ} {st:σ} (hS:S st) (init:Ex6 (fun a b c d e f=>(none,g a b c d e f)) (p lo) r) (sm:∀o z st',S st'->R o->wpS M A E s (K (some o,z)) Q st') (nn:∀a b c d e f st',S st'->p' a b c d e f->wpS M A E s (K (none,g a b c d e f)) Q st'):wpS M A E s (forIn [lo:hi] r F >>= K) Q st:=by
 refine Al (Aw (Ax (I:=fun x r st=>S st/\Ex6 (fun a b c d e f=>(none,g a b c d e f)) (p x) r) (Q:=fun r st=>S st/\(Ex2 (fun o z=>(some o,z)) (fun o _=>R o) r∨Ex6 (fun a b c d e f=>(none,g a b c d e f)) p' r)) ?_ ?_ ⟨hS,init⟩) ?_)
 ·rintro x r st _ _ ⟨h,a,b,c,d,e,f,z⟩;exact Aw (step x a b c d e f st h z) fun r st' h=>by cases r<;>exact h
 ·rintro r st ⟨_,a,b,c,d,e,f,z⟩;exact(fin a b c d e f z).elim
 ·rintro r st ⟨h,⟨o,z,h1⟩|⟨a,b,c,d,e,f,h1⟩⟩
  ·exact sm o z st h h1
  ·exact nn a b c d e f st h h1
section
variable {prog:Program}{w:World}{A:Around}{E:Value->Shared->Prop}{s:Shared}{k:SortKind}{f:Nat->Keyed}{N:Nat}{c:Nat->Nat->Bool}{st:SortSt}{α β:List Nat}
def Sm.refl(a:SortSt):Sm a a:=⟨rfl,rfl,rfl,rfl⟩
theorem Sm.trans(x:Sm a b)(y:Sm b d):Sm a d:=⟨y.arr.trans x.arr,y.kind.trans x.kind,y.pend.trans x.pend,y.fine.trans x.fine⟩
structure Two(c:Nat->Nat->Bool)(N:Nat)(α β:List Nat):Prop where
 sa:α.Pairwise (Bf c)
 sb:β.Pairwise (Bf c)
 tag:∀g∈α,∀h∈β,g<h
 ba:∀g∈α,g<N
 bb:∀g∈β,g<N
 na:α≠[]
 nb:β≠[]
 first:∀x y,α[0]?=some x->β[0]?=some y->c y x=true
 last:∀x,α[α.length-1]?=some x->∀g∈β,c g x=true
def MG(e:l[i]?=some g)(q:Q (f g) st):wpS (model prog w) A E s (elem' (ar f l) i) Q st:=by
 rw[elem'_eq,MC e];exact Ah q
def EY(C:Cm prog w A s k f N c){l:List Nat}(hs:l.Pairwise (Bf c))(t base n:Nat):Mo c false t base n l.toArray:=by
 intro i j g h p1 p2 p3 e1 e2 z;have e1':l[i]?=some g:=by simpa using e1
 have e2':l[j]?=some h:=by simpa using e2
 obtain⟨hi,rfl⟩:=Qb.mp e1';obtain⟨hj,rfl⟩:=Qb.mp e2';have b:=C.le (Zk.mp hs i j hi hj p2);simp only[bb,Qe,if_false,Bool.not_eq_true']at z ⊢;cases z2:c t l[i] with
 | false=>rfl
 | true =>
  rcases C.neg t l[j] l[i] z2 with q|q
  ·rw[z]at q;cases q
  ·rw[b]at q;cases q
def Hu(C:Cm prog w A s k f N c){l:List Nat}(hs:l.Pairwise (Bf c))(t base n:Nat):Mo c true t base n l.toArray:=by
 intro i j g h p1 p2 p3 e1 e2 z;have e1':l[i]?=some g:=by simpa using e1
 have e2':l[j]?=some h:=by simpa using e2
 obtain⟨hi,rfl⟩:=Qb.mp e1';obtain⟨hj,rfl⟩:=Qb.mp e2';have b:=C.le (Zk.mp hs i j hi hj p2);simp only[bb,if_true]at z ⊢;rcases C.neg l[j] l[i] t z with q|q
 ·rw[b]at q;cases q
 ·exact q
def K0(C:Cm prog w A s k f N c)(hk:kindOf st=k){l:List Nat}(hs:l.Pairwise (Bf c))(hb:∀g∈l,g<N)(ht:t<N)(hz:base+n<=l.length)(hh:hint<n)
  (q:∀m,m<=n->(∀i g,base<=i->i<base+m->l[i]?=some g->bb c left t g=true)->(∀i g,base+m<=i->i<base+n->l[i]?=some g->bb c left t g=false)->Q (some m) st) :
  wpS (model prog w) A E s ((sortPriv% PySem.Builtin.gallop) left (f t) (ar f l) base n hint) Q st:=by
 show wpS (model prog w) A E s (gal left (f t) (ar f l) base n hint) Q st;have mo:Mo c left t base n l.toArray:=by
  cases left with
  | true=>exact Hu C hs t base n
  | false=>exact EY C hs t base n
 refine EX C hk ht (δ:=l.toArray) (fun i g e=>hb g ?_) (by simpa using hz) hh mo fun m h1 h2 h3=>q m h1 (fun i g p1 p2 e=>h2 i g p1 p2 (by simpa using e)) fun i g p1 p2 e=>h3 i g p1 p2 (by simpa using e)
 exact Yb (by simpa using e)
def MH(q:∀st',Sm st st'->Q ⟨⟩ st'):wpS (model prog w) A E s ((sortPriv% PySem.Builtin.setMinGallop) g) Q st:=Be (q _ ⟨rfl,rfl,rfl,rfl⟩)
def fQ{M:Model}{σ γ:Type}{X Y:StateT σ Sem γ}{p:Prop}{d:Decidable p}{Q:γ->σ->Prop}{st:σ}(t:p->wpS M A E s X Q st)(e:¬ p->wpS M A E s Y Q st):wpS M A E s (@ite _ p d X Y) Q st:=by
 by_cases h:p
 ·exact fU h (t h)
 ·exact fj h (e h)
def cQ{M:Model}{σ γ:Type}{X Y:StateT σ Sem γ}{a b:Nat}{d:Decidable ((a == b)=true)}{Q:γ->σ->Prop}{st:σ}(t:a=b->wpS M A E s X Q st)(e:a≠b->wpS M A E s Y Q st):wpS M A E s (@ite _ ((a == b)=true) d X Y) Q st :=
 fQ (fun h=>t (Ca h)) fun h=>e fun z=>h (z ▸ beq_self_eq_true _)
section
variable {γ:Type}{Q:γ->SortSt->Prop}{l:List Nat}{i:Nat}{K:Keyed->StateT SortSt Sem γ}
def elk(e:l[i]?=some g)(q:wpS (model prog w) A E s (K (f g)) Q st):wpS (model prog w) A E s (elem' (ar f l) i >>= K) Q st:=Al (MG e q)
def elb(h:i<l.length)(q:∀g,l[i]?=some g->wpS (model prog w) A E s (K (f g)) Q st):wpS (model prog w) A E s (elem' (ar f l) i >>= K) Q st:=elk (Za h) (q _ (Za h))
def sgb{g:Nat}{K:Unit->StateT SortSt Sem γ}(q:∀st',Sm st st'->wpS (model prog w) A E s (K ⟨⟩) Q st'):wpS (model prog w) A E s ((sortPriv% PySem.Builtin.setMinGallop) g >>= K) Q st:=Al (MH q)
def glob(C:Cm prog w A s k f N c)(hk:kindOf st=k)(hs:l.Pairwise (Bf c))(hb:∀g∈l,g<N){left:Bool}{t base n hint:Nat}(ht:t<N)(hz:base+n<=l.length)(hh:hint<n){K:Option Nat->StateT SortSt Sem γ}
  (q:∀m,m<=n->(∀i g,base<=i->i<base+m->l[i]?=some g->bb c left t g=true)->(∀i g,base+m<=i->i<base+n->l[i]?=some g->bb c left t g=false)->wpS (model prog w) A E s (K (some m)) Q st) :
  wpS (model prog w) A E s ((sortPriv% PySem.Builtin.gallop) left (f t) (ar f l) base n hint >>= K) Q st:=Al (K0 C hk hs hb ht hz hh q)
end
def Ex4.of{r a b c d}(e:r=g a b c d)(h:p a b c d):Ex4 g p r:=e ▸ ⟨a,b,c,d,h⟩
def Lw.bv(C:Cm prog w A s k f N c){o:Array Keyed}(L:Lw f c α β o i j)(hl:i<α.length)(hy:β[j]?=some y)(h:∀x,α[i]?=some x->c y x=true):Lw f c α β (o.push (f y)) i (j+1):=L.b C (Za hl) hy (h _ (Za hl))
def Lw.av(C:Cm prog w A s k f N c){o:Array Keyed}(L:Lw f c α β o i j)(hl:j<β.length)(hx:α[i]?=some x)(h:∀y,β[j]?=some y->c y x=false):Lw f c α β (o.push (f x)) (i+1) j:=L.a C hx (Za hl) (h _ (Za hl))
def Lw.dq(L:Lw f c α β o i j)(h:j=(ar f β).size∨i=(ar f α).size):Rt f c α β (o++(ar f α).extract i (ar f α).size++(ar f β).extract j (ar f β).size):=L.dn (h.imp (·.trans (gc _)) (·.trans (gc _)))
def Lw.lq(C:Cm prog w A s k f N c)(T:Two c N α β)(L:Lw f c α β o i j)(h:i+1=(ar f α).size):Rt f c α β (o++(ar f β).extract j (ar f β).size++(ar f α).extract i (ar f α).size):=by
 rw[gc]at h;obtain⟨x,hx⟩:∃x,α[i]?=some x:=⟨_,Za (h ▸ AT i)⟩;exact L.la C hx h (T.last x (by rw[← h];exact hx))
set_option maxHeartbeats 1000000 in
def K1(C:Cm prog w A s k f N c)(hk:kindOf st=k)(T:Two c N α β){Q:Array Keyed->SortSt->Prop}(q:∀o st',Sm st st'->Rt f c α β o->Q o st'):wpS (model prog w) A E s (mlo (ar f α) (ar f β)) Q st:=by
 have la:0<α.length:=Yh.mpr T.na;have lb:0<β.length:=Yh.mpr T.nb;obtain⟨x0,hx0⟩:∃x,α[0]?=some x:=⟨_,Za la⟩;obtain⟨y0,hy0⟩:∃y,β[0]?=some y:=⟨_,Za lb⟩;have M0:Mg c α β [] α β:=⟨List.Pairwise.nil,T.sa,T.sb,fun g hg=>by simp at hg,fun g hg=>by simp at hg,T.tag,List.Perm.refl _⟩
 have L0:Lw f c α β #[] 0 0:=⟨[],by simp[ar],by simpa using M0⟩
 have L1:Lw f c α β #[f y0] 0 1:=by have:=L0.b C hx0 hy0 (T.first _ _ hx0 hy0);simpa using this
 have za:(ar f α).size=α.length:=gc _;have zb:(ar f β).size=β.length:=gc _;refine Al (B4 (AH ⟨rfl,elk hy0 ?_⟩));refine cQ (fun h1=>Ah (q _ _ (Sm.refl _) (L1.dq (.inl h1)))) fun h1=>cQ (fun h2=>Ah (q _ _ (Sm.refl _) (L1.lq C T h2))) fun h2=>Al (Bq ?_);refine MD (Sm st) (Rt f c α β) (fun o i j m=>(o,i,j,m)) (fun x o i j _=>Lw f c α β o i j/\i+1<α.length/\j<β.length/\x<i+j) (fun _ _ _ _=>False) ?step ?fin (Sm.refl _) ?init (fun o z st' sm R=>Ah (q _ _ sm R)) fun _ _ _ _ _ _ z=>z.elim
 case init=>exact⟨_,_,_,_,L1,by lia,by lia,Qa _⟩
 case fin =>
  rintro o i j m ⟨L,b1,b2,b3⟩;lia
 case step =>
  intro x o i j m st' sm hI;have hk':kindOf st'=k:=sm.kind.trans hk;dsimp (config:={ zeta:=false,zetaHave:=false }) only;refine ME (fun st2=>st2=st') (Rt f c α β) (fun o' i' j' a b=>(o',i',j',a,b)) (fun y o' i' j' _ _=>Lw f c α β o' i' j'/\i'+1<α.length/\j'<β.length/\i'+j'=i+j+y)
   (fun o' i' j' _ _=>Lw f c α β o' i' j'/\i'+1<α.length/\j'<β.length/\i+j<i'+j') ?step1 ?fin1 rfl ?init1 (fun o' z st2 e R=>Ah ⟨e ▸ sm,.inl ⟨o',_,R⟩⟩) ?post1
  case init1=>exact⟨_,_,_,_,_,hI.1,hI.2.1,hI.2.2.1,rfl⟩
  case fin1 =>
   rintro o' i' j' a b ⟨L',c1,c2,c3⟩;lia
  case step1 =>
   intro y o' i' j' a b st2 e hI;subst e;have L':=hI.1;have c1:=hI.2.1;have c2:=hI.2.2.1;have c3:=hI.2.2.2;dsimp (config:={ zeta:=false,zetaHave:=false }) only;refine elb c2 fun yv hy=>elb (A7 c1) fun xv hx=>Al (ub C hk' (T.bb _ (Yb hy)) (T.ba _ (Yb hx)) ?_);dsimp (config:={ zeta:=false,zetaHave:=false }) only;refine fQ (fun hc=>?_) fun hc=>?_
   ·have L2:=L'.b C hx hy hc;refine elk hy (cQ (fun e1=>Ah ⟨rfl,.inl ⟨_,_,L2.dq (.inl e1)⟩⟩) fun e1=>?_);have c2':j'+1<β.length:=Bw c2 (zb ▸ e1);exact fQ (fun _=>Ah ⟨rfl,.inr ⟨_,_,_,_,_,L2,c1,c2',by lia⟩⟩) fun _=>Ah ⟨rfl,_,_,_,_,_,L2,c1,c2',congrArg Nat.succ c3⟩
   ·have L2:=L'.a C hx hy (Bool.eq_false_iff.mpr hc);refine elk hx (cQ (fun e1=>Ah ⟨rfl,.inl ⟨_,_,L2.lq C T e1⟩⟩) fun e1=>?_);have c1':i'+1+1<α.length:=Bw c1 (za ▸ e1);exact fQ (fun _=>Ah ⟨rfl,.inr ⟨_,_,_,_,_,L2,c1',c2,by lia⟩⟩) fun _=>Ah ⟨rfl,_,_,_,_,_,L2,c1',c2,by lia⟩
  case post1 =>
   intro o' i' j' a b st2 e hI';subst e;dsimp (config:={ zeta:=false,zetaHave:=false }) only;refine Al (B4 (AH ⟨rfl,?_⟩));refine MF (Sm st) (Rt f c α β) (fun o2 i2 j2 m2 a2 b2=>(o2,i2,j2,m2,a2,b2)) (fun y o2 i2 j2 _ _ _=>Lw f c α β o2 i2 j2/\i2+1<α.length/\j2<β.length/\i'+j'+y<=i2+j2)
    (fun o2 i2 j2 _ _ _=>Lw f c α β o2 i2 j2/\i2+1<α.length/\j2<β.length/\i'+j'<=i2+j2) ?step2 ?fin2 sm ?init2 (fun o' z st2 sm R=>Ah ⟨sm,.inl ⟨o',_,R⟩⟩) ?post2
   case init2=>exact⟨_,_,_,_,_,_,hI'.1,hI'.2.1,hI'.2.2.1,Qa _⟩
   case fin2 =>
    rintro o2 i2 j2 m2 a2 b2 ⟨L2,d1,d2,d3⟩;lia
   case post2 =>
    intro o2 i2 j2 m2 a2 b2 st3 sm3 hI2;dsimp only;exact sgb fun st4 sm4'=>Ah ⟨sm3.trans sm4',_,_,_,_,hI2.1,hI2.2.1,hI2.2.2.1,Qc (Zn (hI.2.2.2) hI'.2.2.2) hI2.2.2.2⟩
   case step2 =>
    intro y o2 i2 j2 m2 a2 b2 st3 sm3 hI2;have L2:=hI2.1;have d1:=hI2.2.1;have d2:=hI2.2.2.1;have d3:=hI2.2.2.2;dsimp only;generalize m2-1=m1;revert m1;apply oU;intro m3;refine sgb fun st4 sm4'=>elb d2 fun yv hy=>?_;have sm4:Sm st st4:=sm3.trans sm4';have hk4:kindOf st4=k:=sm4.kind.trans hk;refine glob C hk4 T.sa T.ba (T.bb _ (Yb hy)) (left:=false) (base:=i2) (n:=(ar f α).size-i2) (hint:=0) (by lia) (by lia) fun u hu tr fs=>?_
    have L3:=L2.as C hy (u:=u) fun p g z1 z2 z3=>by simpa[bb]using tr p g z1 z2 z3
    dsimp only;apply n5 (o:=o2) (i:=i2) (I:=fun o i=>Lw f c α β o i j2/\i=i2+u/\i+1<α.length)
    case g=>exact fun hu0=>⟨L2,by lia,d1⟩
    case h=>exact fun _ key=>cQ (fun e1=>Ah ⟨sm4,.inl ⟨_,_,L3.lq C T e1⟩⟩) fun e1=>cQ (fun e2=>Ah ⟨sm4,.inl ⟨_,_,L3.dq (.inr e2)⟩⟩) fun e2=>key _ _ ⟨L3,rfl,by lia⟩
    intro o i hJ;have L3:=hJ.1;have hi:=hJ.2.1;have hl:=A7 hJ.2.2;have L4:=L3.bv C hl hy fun x hx=>by simpa[bb]using fs i x (by lia) (by lia) hx
    refine elk hy ?_;generalize hj4:j2+1=j4 at L4 ⊢;generalize o.push (f yv)=o4 at L4 ⊢;refine cQ (fun e3=>Ah ⟨sm4,.inl ⟨_,_,L4.dq (.inl e3)⟩⟩) fun e3=>elb hl fun xv hx=>?_;refine glob C hk4 T.sb T.bb (T.ba _ (Yb hx)) (left:=true) (base:=j4) (n:=(ar f β).size-j4) (hint:=0) (by lia) (by lia) fun v hv tr2 fs2=>?_
    have L5:=L4.bs C hx (u:=v) fun p g z1 z2 z3=>by simpa[bb]using tr2 p g z1 z2 z3
    dsimp only;apply n5 (o:=o4) (i:=j4) (I:=fun o j=>Lw f c α β o i j/\j=j4+v/\j<β.length)
    case g=>exact fun hv0=>⟨L4,by lia,by lia⟩
    case h=>exact fun _ key=>cQ (fun e4=>Ah ⟨sm4,.inl ⟨_,_,L5.dq (.inl e4)⟩⟩) fun e4=>key _ _ ⟨L5,rfl,by lia⟩
    intro o5 j5 hJ5;have hj5:=hJ5.2.1;have hl5:=hJ5.2.2;have L6:=hJ5.1.av C hl5 hx fun y hy=>by simpa[bb]using fs2 j5 y (by lia) (by lia) hy
    refine elk hx (cQ (fun e5=>Ah ⟨sm4,.inl ⟨_,_,L6.lq C T e5⟩⟩) fun e5=>?_);have w1:i+1+1<α.length:=Bw hJ.2.2 (za ▸ e5);have w2:i'+j'+(y+1)<=i+1+j5:=by lia
    exact fQ (fun _=>Ah ⟨sm4,.inr ⟨_,_,_,_,_,_,L6,w1,hl5,Zd (Wk _ _) w2⟩⟩) fun _=>Ah ⟨sm4,_,_,_,_,_,_,L6,w1,hl5,w2⟩
end
end TS
namespace TS
open PySem PyProof.Rows
structure Mh(c:Nat->Nat->Bool)(α β la lb ω:List Nat):Prop where
 so:ω.Pairwise (Bf c)
 sa:la.Pairwise (Bf c)
 sb:lb.Pairwise (Bf c)
 xa:∀g∈la,∀h∈ω,Bf c g h
 xb:∀g∈lb,∀h∈ω,Bf c g h
 tag:∀g∈la,∀h∈lb,g<h
 perm:(la++lb++ω).Perm (α++β)
section
variable {prog:Program}{w:World}{A:Around}{s:Shared}{k:SortKind}{f:Nat->Keyed}{N:Nat}{c:Nat->Nat->Bool}{α β ω la lb:List Nat}{x y:Nat}
def n6{l:List Nat}(h:(l++[x]).Pairwise (Bf c)):l.Pairwise (Bf c)/\∀g∈l,Bf c g x:=by
 have:=Xi.mp h;exact⟨this.1,fun g hg=>this.2.2 g hg x (Va.mpr rfl)⟩
def Mh.takeA(C:Cm prog w A s k f N c)(J:Mh c α β (la++[x]) (lb++[y]) ω)(h:c y x=true):Mh c α β la (lb++[y]) (x::ω):=by
 have sa:=n6 J.sa;have sb:=n6 J.sb;refine⟨Yi.mpr ⟨fun g hg=>J.xa x (by simp) g hg,J.so⟩,sa.1,J.sb,fun g hg z hz=>?_,fun g hg z hz=>?_,fun g hg z hz=>J.tag g (by simp[hg]) z hz,?_⟩
 ·rcases Vd.mp hz with rfl|hz
  ·exact sa.2 g hg
  ·exact J.xa g (by simp[hg]) z hz
 ·rcases Vd.mp hz with rfl|hz
  ·rcases Wc.mp hg with hg|hg
   ·exact C.trans (sb.2 g hg) (.inl h)
   ·rw[Va.mp hg];exact .inl h
  ·exact J.xb g hg z hz
 ·refine List.Perm.trans ?_ J.perm;have p:(la++(lb++[y])++x::ω).Perm (x::(la++(lb++[y])++ω)):=Vk;have q:(la++[x]++(lb++[y])++ω).Perm (x::(la++(lb++[y])++ω)):=by
   rw[Yc la,Yc la];exact List.perm_middle.trans (by rw[Yc la];exact List.Perm.refl _)
  exact p.trans q.symm
def Mh.takeB(C:Cm prog w A s k f N c)(J:Mh c α β (la++[x]) (lb++[y]) ω)(h:c y x=false):Mh c α β (la++[x]) lb (y::ω):=by
 have sa:=n6 J.sa;have sb:=n6 J.sb;have xy:Bf c x y:=.inr ⟨h,J.tag x (by simp) y (by simp)⟩
 refine⟨Yi.mpr ⟨fun g hg=>J.xb y (by simp) g hg,J.so⟩,J.sa,sb.1,fun g hg z hz=>?_,fun g hg z hz=>?_,fun g hg z hz=>J.tag g hg z (by simp[hz]),?_⟩
 ·rcases Vd.mp hz with rfl|hz
  ·rcases Wc.mp hg with hg|hg
   ·exact C.trans (sa.2 g hg) xy
   ·rw[Va.mp hg];exact xy
  ·exact J.xa g hg z hz
 ·rcases Vd.mp hz with rfl|hz
  ·exact sb.2 g hg
  ·exact J.xb g (by simp[hg]) z hz
 ·refine List.Perm.trans ?_ J.perm;have e:la++[x]++lb++y::ω=la++[x]++(lb++[y])++ω:=by simp
  rw[e]
theorem Mh.takeAs(C:Cm prog w A s k f N c):∀(n:Nat)(l:List Nat),l.length=n->∀{ω la:List Nat},Mh c α β (la++l) (lb++[y]) ω->(∀g∈l,c y g=true)->Mh c α β la (lb++[y]) (l++ω)
 | 0,l,hn,ω,la,J,_=>by
  obtain rfl:=Wi hn;simpa using J
 | n+1,l,hn,ω,la,J,h=>by
  rcases DD l with rfl|⟨l',x,rfl⟩
  ·simp at hn
  ·rw[DF]at J h hn ⊢;rw[← Yc]at J;have:=Mh.takeAs C n l' (by simpa using hn) (J.takeA C (h x (by simp))) fun g hg=>h g (by simp[hg])
   simpa using this
theorem Mh.takeBs(C:Cm prog w A s k f N c):∀(n:Nat)(l:List Nat),l.length=n->∀{ω lb:List Nat},Mh c α β (la++[x]) (lb++l) ω->(∀g∈l,c g x=false)->Mh c α β (la++[x]) lb (l++ω)
 | 0,l,hn,ω,lb,J,_=>by
  obtain rfl:=Wi hn;simpa using J
 | n+1,l,hn,ω,lb,J,h=>by
  rcases DD l with rfl|⟨l',y,rfl⟩
  ·simp at hn
  ·rw[DF]at J h hn ⊢;rw[← Yc]at J;have:=Mh.takeBs C n l' (by simpa using hn) (J.takeB C (h y (by simp))) fun g hg=>h g (by simp[hg])
   simpa using this
def Mh.doneA(J:Mh c α β la [] ω):Gd c α β (la++ω):=by
 refine⟨Xi.mpr ⟨J.sa,J.so,J.xa⟩,?_⟩;have:=J.perm;rwa [Vc]at this
def Mh.doneB(J:Mh c α β [] lb ω):Gd c α β (lb++ω):=⟨Xi.mpr ⟨J.sb,J.so,J.xb⟩,by have:=J.perm;rwa [AY]at this⟩
def Mh.firstB(C:Cm prog w A s k f N c)(J:Mh c α β la [y] ω)(h:∀g∈la,c y g=true):Gd c α β ([y]++la++ω):=by
 have J':Mh c α β ([]++la) ([]++[y]) ω:=by simpa using J
 have:=(Mh.takeAs C la.length la rfl J' h).doneB;simpa using this
end
def Hw(f:Nat->Keyed)(c:Nat->Nat->Bool)(α β:List Nat)(o:Array Keyed)(i j:Nat):Prop:=∃ω,o=ar f ω.reverse/\Mh c α β (α.take i) (β.take j) ω
section
variable {prog:Program}{w:World}{A:Around}{E:Value->Shared->Prop}{s:Shared}{k:SortKind}{f:Nat->Keyed}{N:Nat}{c:Nat->Nat->Bool}{α β:List Nat}{o:Array Keyed}{i j x y:Nat}{st:SortSt}
def sx(l:List Nat):(ar f l).reverse=ar f l.reverse:=by simp[ar]
def xw(l:List Nat)(p:Nat):(ar f l).extract 0 p=ar f (l.take p):=by rw[kR];simp
def oV{l:List Nat}(e:l[p]?=some g):l.take (p+1)=l.take p++[g]:=by rw[List.take_succ,e];rfl
def Hw.a(C:Cm prog w A s k f N c)(L:Hw f c α β o (i+1) (j+1))(hx:α[i]?=some x)(hy:β[j]?=some y)(h:c y x=true):Hw f c α β (o.push (f x)) i (j+1):=by
 obtain⟨ω,rfl,J⟩:=L;refine⟨x::ω,by rw[n4,AM],?_⟩
 rw[oV hx]at J;rw[oV hy]at J ⊢;exact J.takeA C h
def Hw.b(C:Cm prog w A s k f N c)(L:Hw f c α β o (i+1) (j+1))(hx:α[i]?=some x)(hy:β[j]?=some y)(h:c y x=false):Hw f c α β (o.push (f y)) (i+1) j:=by
 obtain⟨ω,rfl,J⟩:=L;refine⟨y::ω,by rw[n4,AM],?_⟩
 rw[oV hy]at J;rw[oV hx]at J ⊢;exact J.takeB C h
def ue{l:List Nat}(h:u<=i):l.take i=l.take u++(l.drop u).take (i-u):=by
 rw[List.take_drop,show u+(i - u)=i by lia]
 have:=Qg u (l.take i);rw[List.take_take,Ym h]at this;exact this.symm
def sy{l:List Nat}(h:g∈(l.drop u).take n):∃p,u<=p/\p<u+n/\l[p]?=some g:=by
 obtain⟨p,hp⟩:=List.mem_iff_getElem?.mp h;rw[Yn]at hp;split at hp
 ·rw[Qf]at hp;exact⟨u+p,by lia,by lia,hp⟩
 ·cases hp
def Hw.as(C:Cm prog w A s k f N c)(L:Hw f c α β o i (j+1))(hy:β[j]?=some y)(hu:u<=i)(h:∀p g,u<=p->p<i->α[p]?=some g->c y g=true):Hw f c α β (o++((ar f α).extract u i).reverse) u (j+1):=by
 obtain⟨ω,rfl,J⟩:=L;refine⟨(α.drop u).take (i-u)++ω,by rw[kR,sx,f7,Cd],?_⟩
 rw[oV hy]at J ⊢;rw[ue hu]at J;exact Mh.takeAs C _ _ rfl J fun g hg=>by
  obtain⟨p,p1,p2,p3⟩:=sy hg;exact h p g p1 (by lia) p3
def Hw.bs(C:Cm prog w A s k f N c)(L:Hw f c α β o (i+1) j)(hx:α[i]?=some x)(hu:u<=j)(h:∀p g,u<=p->p<j->β[p]?=some g->c g x=false):Hw f c α β (o++((ar f β).extract u j).reverse) (i+1) u:=by
 obtain⟨ω,rfl,J⟩:=L;refine⟨(β.drop u).take (j-u)++ω,by rw[kR,sx,f7,Cd],?_⟩
 rw[oV hx]at J ⊢;rw[ue hu]at J;exact Mh.takeBs C _ _ rfl J fun g hg=>by
  obtain⟨p,p1,p2,p3⟩:=sy hg;exact h p g p1 (by lia) p3
def Hw.dn(L:Hw f c α β o i j)(h:i=0∨j=0):Rt f c α β ((ar f α).extract 0 i++(ar f β).extract 0 j++o.reverse):=by
 obtain⟨ω,rfl,J⟩:=L;rw[xw,xw,sx,List.reverse_reverse,f7,f7];refine⟨_,rfl,?_⟩;rcases h with rfl|rfl
 ·rw[C8]at J ⊢;rw[AY];exact J.doneB
 ·rw[C8]at J ⊢;rw[Vc];exact J.doneA
def Hw.fb(C:Cm prog w A s k f N c)(T:Two c N α β)(L:Hw f c α β o i 1):Rt f c α β ((ar f β).extract 0 1++(ar f α).extract 0 i++o.reverse):=by
 have lb:0<β.length:=Yh.mpr T.nb;have la:0<α.length:=Yh.mpr T.na;obtain⟨y0,hy0⟩:∃y,β[0]?=some y:=⟨_,Za lb⟩;obtain⟨x0,hx0⟩:∃x,α[0]?=some x:=⟨_,Za la⟩;have hc:=T.first _ _ hx0 hy0
 obtain⟨ω,rfl,J⟩:=L;rw[xw,xw,sx,List.reverse_reverse,f7,f7];refine⟨_,rfl,?_⟩;have e:β.take 1=[y0]:=by have:=oV hy0;simpa using this
 rw[e]at J ⊢;refine J.firstB C fun g hg=>?_;obtain⟨p,hp⟩:=List.mem_iff_getElem?.mp (B9 hg);by_cases h0:p=0
 ·subst h0;rw[hx0]at hp;cases hp;exact hc
 ·obtain⟨hp1,rfl⟩:=Qb.mp hp;obtain⟨hx1,rfl⟩:=Qb.mp hx0;have b:=C.le (Zk.mp T.sa 0 p hx1 hp1 (by lia))
  rcases C.neg y0 α[p] α[0] hc with q|q
  ·exact q
  ·rw[b]at q;cases q
end
end TS
namespace TS
open PySem PyProof.Rows
def mhi:Array Keyed->Array Keyed->StateT SortSt Sem (Array Keyed):=sortPriv% PySem.Builtin.mergeHi
section
variable {prog:Program}{w:World}{A:Around}{E:Value->Shared->Prop}{s:Shared}{k:SortKind}{f:Nat->Keyed}{N:Nat}{c:Nat->Nat->Bool}{st:SortSt}{α β:List Nat}
def Hw.fc(C:Cm prog w A s k f N c)(T:Two c N α β){o:Array Keyed}(L:Hw f c α β o i j)(h:j=1):Rt f c α β ((ar f β).extract 0 j++(ar f α).extract 0 i++o.reverse):=by subst h;exact L.fb C T
def Hw.bu(C:Cm prog w A s k f N c){o:Array Keyed}(L:Hw f c α β o i j)(h0:0<i)(h1:j=j'+1)(hy:β[j']?=some y)(hl:i-1<α.length)(h:∀x,α[i-1]?=some x->c y x=false):Hw f c α β (o.push (f y)) i j':=by
 subst h1;obtain⟨i,rfl⟩:=Qd (Vj h0);have e:α[i]?=some α[i]:=Za hl;exact L.b C e hy (h _ e)
def Hw.au(C:Cm prog w A s k f N c){o:Array Keyed}(L:Hw f c α β o i j)(h0:0<i)(h1:0<j)(hx:α[i-1]?=some x)(hl:j-1<β.length)(h:∀y,β[j-1]?=some y->c y x=true):Hw f c α β (o.push (f x)) (i-1) j:=by
 obtain⟨i,rfl⟩:=Qd (Vj h0);obtain⟨j,rfl⟩:=Qd (Vj h1);have e:β[j]?=some β[j]:=Za hl;exact L.a C hx e (h _ e)
def Hw.bt(C:Cm prog w A s k f N c)(L:Hw f c α β o i j)(h0:0<i)(hx:α[i-1]?=some x)(hu:u<=j)(h:∀p g,u<=p->p<j->β[p]?=some g->c g x=false):Hw f c α β (o++((ar f β).extract u j).reverse) i u:=by
 obtain⟨i,rfl⟩:=Qd (Vj h0);exact L.bs C hx hu h
set_option maxHeartbeats 1000000 in
def K2(C:Cm prog w A s k f N c)(hk:kindOf st=k)(T:Two c N α β)(q:∀o st',Sm st st'->Rt f c α β o->Q o st'):wpS (model prog w) A E s (mhi (ar f α) (ar f β)) Q st:=by
 have la:0<α.length:=Yh.mpr T.na;have lb:0<β.length:=Yh.mpr T.nb;obtain⟨n,hn⟩:∃n,α.length=n+1:=Qd (Vj la);obtain⟨b,hb⟩:∃b,β.length=b+1:=Qd (Vj lb);obtain⟨xl,hxl⟩:∃x,α[n]?=some x:=⟨_,Za (hn ▸ AT n)⟩;obtain⟨yl,hyl⟩:∃y,β[b]?=some y:=⟨_,Za (hb ▸ AT b)⟩;have M0:Mh c α β α β []:=⟨List.Pairwise.nil,T.sa,T.sb,fun g hg h hh=>by simp at hh,fun g hg h hh=>by simp at hh,T.tag,by simp⟩
 have L0:Hw f c α β #[] (n+1) (b+1):=⟨[],by simp[ar],by rw[← hn,← hb,List.take_length,List.take_length];exact M0⟩
 have hcl:c yl xl=true:=T.last xl (by rw[hn];exact hxl) yl (Yb hyl)
 have sa:(ar f α).size-1=n:=by rw[gc,hn];rfl
 have sb:(ar f β).size=b+1:=by rw[gc,hb]
 have L1:Hw f c α β #[f xl] ((ar f α).size-1) (ar f β).size:=by rw[sa,sb];have:=L0.a C hxl hyl hcl;simpa using this
 refine Al (B4 (AH ⟨rfl,elk (by rw[sa];exact hxl) ?_⟩))
 refine cQ (fun h1=>Ah (q _ _ (Sm.refl _) (L1.dn (.inl h1)))) fun h1=>cQ (fun h2=>Ah (q _ _ (Sm.refl _) (L1.fc C T h2))) fun h2=>Al (Bq ?_);have za:(ar f α).size=α.length:=gc _;refine MD (Sm st) (Rt f c α β) (fun o i j m=>(i+1,j+1+1,o,m)) (fun x o i j _=>Hw f c α β o (i+1) (j+1+1)/\i<α.length/\j+1<β.length/\x+i+j+3<α.length+β.length) (fun _ _ _ _=>False) ?step ?fin (Sm.refl _) ?init (fun o z st' sm R=>Ah (q _ _ sm R)) fun _ _ _ _ _ _ z=>z.elim
 case init =>
  rw[sa]at h1 L1;rw[sb]at h2 L1;obtain⟨n1,rfl⟩:=Qd h1;obtain⟨b1,rfl⟩:∃m,b=m+1:=Qd fun z=>h2 (by rw[z])
  exact Ex4.of (by rw[sa,sb]) ⟨L1,by lia,by lia,by lia⟩
 case fin =>
  rintro o i j m ⟨L,b1,b2,b3⟩;lia
 case step =>
  intro x o i j m st' sm hI;have hk':kindOf st'=k:=sm.kind.trans hk;dsimp (config:={ zeta:=false,zetaHave:=false }) only;refine ME (fun st2=>st2=st') (Rt f c α β) (fun o' i' j' a b=>(i'+1,j'+1+1,o',a,b)) (fun y o' i' j' _ _=>Hw f c α β o' (i'+1) (j'+1+1)/\i'<α.length/\j'+1<β.length/\y+i'+j'=i+j)
   (fun o' i' j' _ _=>Hw f c α β o' (i'+1) (j'+1+1)/\i'<α.length/\j'+1<β.length/\i'+j'<i+j) ?step1 ?fin1 rfl ?init1 (fun o' z st2 e R=>Ah ⟨e ▸ sm,.inl ⟨o',_,R⟩⟩) ?post1
  case init1=>exact⟨_,_,_,_,_,hI.1,hI.2.1,hI.2.2.1,Nat.zero_add _ ▸ rfl⟩
  case fin1 =>
   rintro o' i' j' a b ⟨L',c1,c2,c3⟩;lia
  case step1 =>
   intro y o' i' j' a b st2 e hI;subst e;have L':=hI.1;have c1:=hI.2.1;have c2:=hI.2.2.1;have c3:=hI.2.2.2;dsimp (config:={ zeta:=false,zetaHave:=false }) only;refine elb c2 fun yv hy=>elb c1 fun xv hx=>Al (ub C hk' (T.bb _ (Yb hy)) (T.ba _ (Yb hx)) ?_);dsimp (config:={ zeta:=false,zetaHave:=false }) only;refine fQ (fun hc=>?_) fun hc=>?_
   ·have L2:=L'.a C hx hy hc;refine elk hx (cQ (fun e1=>Ah ⟨rfl,.inl ⟨_,_,L2.dn (.inl e1)⟩⟩) fun e1=>?_);obtain⟨i1,rfl⟩:=Qd e1;have c1':i1<α.length:=A7 c1;exact fQ (fun _=>Ah ⟨rfl,.inr ⟨_,i1,j',_,_,L2,c1',c2,by lia⟩⟩) fun _=>Ah ⟨rfl,_,i1,j',_,_,L2,c1',c2,by lia⟩
   ·have L2:=L'.b C hx hy (Bool.eq_false_iff.mpr hc);refine elk hy (cQ (fun e1=>Ah ⟨rfl,.inl ⟨_,_,L2.fc C T e1⟩⟩) fun e1=>?_);obtain⟨j1,rfl⟩:∃m,j'=m+1:=Qd fun z=>e1 (by rw[z])
    have c2':j1+1<β.length:=A7 c2;exact fQ (fun _=>Ah ⟨rfl,.inr ⟨_,i',j1,_,_,L2,c1,c2',by lia⟩⟩) fun _=>Ah ⟨rfl,_,i',j1,_,_,L2,c1,c2',by lia⟩
  case post1 =>
   intro o' i' j' a b st2 e hI';subst e;dsimp (config:={ zeta:=false,zetaHave:=false }) only;refine Al (B4 (AH ⟨rfl,?_⟩));refine MF (Sm st) (Rt f c α β) (fun o2 i2 j2 m2 a2 b2=>(i2,j2,o2,m2,a2,b2)) (fun y o2 i2 j2 _ _ _=>Hw f c α β o2 i2 j2/\0<i2/\i2<=α.length/\1<j2/\j2<=β.length/\i2+j2+y<=i'+1+(j'+1+1))
    (fun o2 i2 j2 _ _ _=>Hw f c α β o2 i2 j2/\0<i2/\i2<=α.length/\1<j2/\j2<=β.length/\i2+j2<=i'+1+(j'+1+1)) ?step2 ?fin2 sm ?init2 (fun o' z st2 sm R=>Ah ⟨sm,.inl ⟨o',_,R⟩⟩) ?post2
   case init2=>exact⟨_,_,_,_,_,_,hI'.1,Nat.succ_pos _,hI'.2.1,Nat.succ_lt_succ (Nat.succ_pos _),hI'.2.2.1,Qa _⟩
   case fin2 =>
    rintro o2 i2 j2 m2 a2 b2 ⟨L2,d1,d2,d3,d4,d5⟩;have:=hI'.2.1;have:=hI'.2.2.1;lia
   case post2 =>
    intro o2 i2 j2 m2 a2 b2 st3 sm3 hI2;dsimp only;refine sgb fun st4 sm4'=>Ah ⟨sm3.trans sm4',?_⟩;obtain⟨L2,d1,d2,d3,d4,d5⟩:=hI2;obtain⟨i3,rfl⟩:=Qd (Vj d1);obtain⟨j3,rfl⟩:∃m,j2=m+1+1:=⟨j2-2,by lia⟩
    have:=hI.2.2.2;have:=hI'.2.2.2;exact⟨_,i3,j3,_,L2,d2,d4,by lia⟩
   case step2 =>
    intro y o2 i2 j2 m2 a2 b2 st3 sm3 hI2;have L2:=hI2.1;have d1:=hI2.2.1;have d2:=hI2.2.2.1;have d3:=hI2.2.2.2.1;have d4:=hI2.2.2.2.2.1;have d5:=hI2.2.2.2.2.2;dsimp only;generalize hj3:j2-1=j3;have ej:j2=j3+1:=by lia
    have hjl:j3<β.length:=by lia
    generalize m2-1=m1;revert m1;apply oU;intro m3;refine sgb fun st4 sm4'=>elb hjl fun yv hy=>?_;have sm4:Sm st st4:=sm3.trans sm4';have hk4:kindOf st4=k:=sm4.kind.trans hk;refine glob C hk4 T.sa T.ba (T.bb _ (Yb hy)) (left:=false) (by lia) (CL d1) fun u hu tr fs=>?_
    have L3:=(ej ▸ L2:Hw f c α β o2 i2 (j3+1)).as C hy hu fun p g z1 z2 z3=>by simpa[bb]using fs p g (by lia) (by lia) z3
    rw[← ej]at L3;dsimp only;generalize hk1:i2-u=k1;apply n5 (o:=o2) (i:=i2) (I:=fun o i=>Hw f c α β o i j2/\i=u/\0<i)
    case g=>exact fun hu0=>⟨L2,by lia,d1⟩
    case h=>exact fun _ key=>cQ (fun e1=>Ah ⟨sm4,.inl ⟨_,_,L3.dn (.inl e1)⟩⟩) fun e1=>key _ u ⟨L3,rfl,Bv e1⟩
    rintro o i ⟨L3,hi,hl⟩;have hj0:0<j3:=by lia
    have hi2:i-1<i:=CL hl;have hiu:i<=i2:=hi ▸ hu;have hia:i-1<α.length:=Qc hi2 (Zd hiu d2);have L4:=L3.bu C hl ej hy hia fun x hx=>by simpa[bb]using tr _ x (Qk _) (by lia) hx
    refine elk hy ?_;generalize o.push (f yv)=o4 at L4 ⊢;refine cQ (fun e3=>Ah ⟨sm4,.inl ⟨_,_,L4.fc C T e3⟩⟩) fun e3=>elb hia fun xv hx=>?_;refine glob C hk4 T.sb T.bb (T.ba _ (Yb hx)) (left:=true) (base:=0) (n:=j3) (by lia) (CL hj0) fun v hv tr2 fs2=>?_
    have L5:=L4.bt C hl hx hv fun p g z1 z2 z3=>by simpa[bb]using fs2 p g (by lia) (by lia) z3
    dsimp only;generalize hk2:j3-v=k2;apply n5 (o:=o4) (i:=j3) (I:=fun o j=>Hw f c α β o i j/\j=v/\1<j)
    case g=>exact fun hv0=>⟨L4,by lia,by lia⟩
    case h=>exact fun _ key=>cQ (fun e4=>Ah ⟨sm4,.inl ⟨_,_,L5.fc C T e4⟩⟩) fun e4=>cQ (fun e7=>Ah ⟨sm4,.inl ⟨_,_,L5.dn (.inr e7)⟩⟩) fun e7=>key _ v ⟨L5,rfl,by lia⟩
    rintro o5 j5 ⟨L5,hj5,hl5⟩;have hj7:0<j5:=A7 hl5;have hj6:j5-1<β.length:=by lia
    have L6:=L5.au C hl hj7 hx hj6 fun y hy=>by simpa[bb]using tr2 _ y (Qk _) (by lia) hy
    refine elk hx (cQ (fun e5=>Ah ⟨sm4,.inl ⟨_,_,L6.dn (.inl e5)⟩⟩) fun e5=>?_);have w1:=Bv e5;have w3:j5<=β.length:=by lia
    have w2:i-1+j5+(y+1)<=i'+1+(j'+1+1):=by lia
    exact fQ (fun _=>Ah ⟨sm4,.inr ⟨_,_,_,_,_,_,L6,w1,Wj hia,hl5,w3,Zd (Wk _ _) w2⟩⟩) fun _=>Ah ⟨sm4,_,_,_,_,_,_,L6,w1,Wj hia,hl5,w3,w2⟩
end
end TS
namespace TS
open PySem PyProof.Rows
theorem uf(sa:Nat):∀(ms:List α)(j:Nat)(x:Array α),sa+j+ms.length<=x.size ->
  ((ms.zipIdx j).foldl (fun a (p:α×Nat)=>a.setIfInBounds (sa+p.2) p.1) x).toList=x.toList.take (sa+j)++ms++x.toList.drop (sa+j+ms.length)
 | [],j,x,_=>by simp
 | m::ms,j,x,h=>by
  rw[Xd]at h;rw[Bg,C4,uf sa ms (j+1) _ (by rw[Array.size_setIfInBounds];lia)]
  have hl:sa+j<x.toList.length:=by rw[Yd];lia
  have e:(x.setIfInBounds (sa+j) m).toList=x.toList.set (sa+j) m:=by simp
  have e1:(x.toList.set (sa+j) m).take (sa+(j+1))=x.toList.take (sa+j)++[m]:=by
   rw[show sa+(j+1)=sa+j+1 by lia,List.take_succ,List.take_set_of_le (Qa _),BS hl];rfl
  have e2:(x.toList.set (sa+j) m).drop (sa+(j+1)+ms.length)=x.toList.drop (sa+j+(ms.length+1)):=by
   rw[List.drop_set_of_lt (by lia),show sa+(j+1)+ms.length=sa+j+(ms.length+1) by lia]
  rw[e,e1,e2,Xd];simp
def pc(γ:Array Nat)(lo n:Nat):List Nat:=(γ.toList.drop lo).take n
section
variable {prog:Program}{w:World}{A:Around}{E:Value->Shared->Prop}{s:Shared}{k:SortKind}{f:Nat->Keyed}{N:Nat}{c:Nat->Nat->Bool}{st:SortSt}{γ:Array Nat}
def kS{lo n:Nat}(h:lo+n<=γ.size):(pc γ lo n).length=n:=by
 unfold pc;rw[Wf,Vf,Yd];lia
def xz{lo n i:Nat}(h:i<n):(pc γ lo n)[i]?=γ[lo+i]?:=by
 unfold pc;rw[Yn,Ae h,Qf];simp
def oW(lo:Nat)(n m:Nat):pc γ lo (n+m)=pc γ lo n++pc γ (lo+n) m:=by
 unfold pc;rw[List.take_add,Ba]
def xA{lo n:Nat}(sg:Sg c γ lo (lo+n)):(pc γ lo n).Pairwise (Bf c):=by
 rw[Zk];intro i j hi hj hij;have li:i<n:=by have:=List.length_take_le n (γ.toList.drop lo);unfold pc at hi;lia
 have lj:j<n:=by have:=List.length_take_le n (γ.toList.drop lo);unfold pc at hj;lia
 exact sg (lo+i) (lo+j) _ _ (by lia) (by lia) (by lia) (by rw[← xz li];exact Za hi) (by rw[← xz lj];exact Za hj)
def gE{lo n g:Nat}(h:g∈pc γ lo n):∃i,lo<=i/\i<lo+n/\γ[i]?=some g:=by
 obtain⟨p,h1,h2,h3⟩:=sy h;exact⟨p,h1,h2,by simpa using h3⟩
def Ji(lo n:Nat):(γ.map f).extract lo (lo+n)=ar f (pc γ lo n):=by
 have e:γ.map f=ar f γ.toList:=by simp[ar]
 rw[e,kR,show lo+n - lo=n by lia];rfl
theorem MI(C:Cm prog w A s k f N c){lo n:Nat}(sg:Sg c γ lo (lo+n))(left:Bool)(t:Nat):Mo c left t lo n γ:=by
 intro i j g h p1 p2 p3 e1 e2 z;have b:=C.le (sg i j g h p1 p2 p3 e1 e2);cases left with
 | false =>
  simp only[bb,Qe,if_false,Bool.not_eq_true']at z ⊢;cases z2:c t g with
  | false=>rfl
  | true =>
   rcases C.neg t h g z2 with q|q
   ·rw[z]at q;cases q
   ·rw[b]at q;cases q
 | true =>
  simp only[bb,if_true]at z ⊢;rcases C.neg h g t z with q|q
  ·rw[b]at q;cases q
  ·exact q
def whole{lo n:Nat}(h:lo+n<=γ.size):γ.toList=γ.toList.take lo++pc γ lo n++γ.toList.drop (lo+n):=by
 unfold pc;rw[← Ba,Yc,Qg,Qg]
def yS{lo n:Nat}(h:lo+n<=γ.size){X:List Nat}(p:X.Perm (pc γ lo n)){γ':Array Nat}(e:γ'.toList=γ.toList.take lo++X++γ.toList.drop (lo+n)) :
  γ'.Perm γ/\Out γ γ' lo (lo+n)/\(∀i,i<n->γ'[lo+i]?=X[i]?):=by
 have hX:X.length=n:=by rw[p.length_eq,kS h]
 have hlo:(γ.toList.take lo).length=lo:=by rw[Wf,Yd];lia
 have hg:∀i:Nat,γ'[i]?=γ'.toList[i]?:=fun i=>Yk.symm;have hg2:∀i:Nat,γ[i]?=γ.toList[i]?:=fun i=>Yk.symm;refine⟨?_,fun i hi=>?_,fun i hi=>?_⟩
 ·rw[Array.perm_iff_toList_perm,e]
  conv=>rhs;rw[whole h]
  exact(p.append_left _).append_right _
 ·rw[hg,hg2,e];rcases hi with hi|hi
  ·rw[Yc,Xf (by lia),Yn,Ae hi]
  ·rw[Ye (by rw[Xa];lia),Xa,hlo,hX,Qf]
   congr 1;lia
 ·rw[hg,e,Yc,Ye (by lia),hlo,Xf (by lia)]
  congr 1;lia
def K3{lo n:Nat}{X:List Nat}{γ':Array Nat}(hX:X.length=n)(at':∀i,i<n->γ'[lo+i]?=X[i]?)(pw:X.Pairwise (Bf c)):Sg c γ' lo (lo+n):=by
 intro i j g h p1 p2 p3 e1 e2;have e1':X[i - lo]?=some g:=by rw[← at' (i - lo) (by lia),show lo+(i - lo)=i by lia];exact e1
 have e2':X[j - lo]?=some h:=by rw[← at' (j - lo) (by lia),show lo+(j - lo)=j by lia];exact e2
 obtain⟨hi,rfl⟩:=Qb.mp e1';obtain⟨hj,rfl⟩:=Qb.mp e2';exact Zk.mp pw _ _ hi hj (by lia)
def K4{lo n:Nat}{X:List Nat}{γ':Array Nat}(at':∀i,i<n->γ'[lo+i]?=X[i]?)(ow:∀g∈X,lo<=g/\g<lo+n):Ow γ' lo (lo+n):=by
 intro i g p1 p2 e;refine ow g (Yb (i:=i-lo) ?_);rw[← at' (i - lo) (by lia),show lo+(i - lo)=i by lia];exact e
end
end TS
namespace TS
open PySem PyProof.Rows
def mat:Nat->StateT SortSt Sem Bool:=sortPriv% PySem.Builtin.mergeAt
section
variable {prog:Program}{w:World}{A:Around}{E:Value->Shared->Prop}{s:Shared}{k:SortKind}{f:Nat->Keyed}{N:Nat}{c:Nat->Nat->Bool}{st:SortSt}{γ:Array Nat}
def Hv{σ:Type}{st' st0:σ}{Q:PUnit->σ->Prop}(h:Q ⟨⟩ st'):wpS (model prog w) A E s (set st':StateT σ Sem PUnit) Q st0:=by
 unfold wpS;rw[StateT.run_set];exact Ad ⟨rfl,h⟩
def EZ(e:γ[i]?=some g)(q:Q (f g) st):wpS (model prog w) A E s (elem' (γ.map f) i) Q st:=by
 rw[elem'_eq,Wl,e];exact Ah q
def E8(C:Cm prog w A s k f N c)(hk:kindOf st=k)(ht:t<N)(hb:∀(i g:Nat),γ[i]?=some g->g<N)(hs:base+n<=γ.size)(hh:hint<n)(sg:Sg c γ base (base+n))
  (q:∀m,m<=n->Tr c left t base γ m->Fs c left t base n γ m->Q (some m) st) :
  wpS (model prog w) A E s ((sortPriv% PySem.Builtin.gallop) left (f t) (γ.map f) base n hint) Q st:=EX C hk ht hb hs hh (MI C sg left t) q
structure Mtd(k:SortKind)(f:Nat->Keyed)(N:Nat)(c:Nat->Nat->Bool)(γ:Array Nat)(lo n:Nat)(st':SortSt)(γ':Array Nat):Prop where
 rp:Rp k f N st' γ'
 sg:Sg c γ' lo (lo+n)
 ow:Ow γ' lo (lo+n)
 out:Out γ γ' lo (lo+n)
def K5(C:Cm prog w A s k f N c)(R:Rp k f N st γ){i sa na p1 nb p2:Nat}(e1:(pendingOf st)[i]?=some (sa,na,p1))(e2:(pendingOf st)[i+1]?=some (sa+na,nb,p2))(ha:1<=na)(hb:1<=nb)(hN:sa+na+nb<=N)
  (ga:Sg c γ sa (sa+na))(oa:Ow γ sa (sa+na))(gb:Sg c γ (sa+na) (sa+na+nb))(ob:Ow γ (sa+na) (sa+na+nb))
  {Q:Bool->SortSt->Prop} (q:∀st' γ',Mtd k f N c γ sa (na+nb) st' γ'->pendingOf st'=((pendingOf st).setIfInBounds i (sa,na+nb,p1)).eraseIdxIfInBounds (i+1)->Q true st') :
  wpS (model prog w) A E s (mat i) Q st:=by
 have hsz:=R.size;have bnd:∀(i g:Nat),γ[i]?=some g->g<N:=fun i g e=>R.bnd e;obtain⟨t,ht⟩:=jK (γ:=γ) (i:=sa+na) (by lia)
 obtain⟨x,hx⟩:=jK (γ:=γ) (i:=sa+na-1) (by lia)
 have tN:=bnd _ _ ht;have xN:=bnd _ _ hx;have tagab:∀i j g h,sa<=i->i<sa+na->sa+na<=j->j<sa+na+nb->γ[i]?=some g->γ[j]?=some h->g<h:=fun i j g h a1 a2 a3 a4 z1 z2=>by
  have:=oa i g a1 a2 z1;have:=ob j h a3 a4 z2;lia
 have tb:∀j h,sa+na<=j->j<sa+na+nb->γ[j]?=some h->c h t=false:=fun j h a3 a4 z=>by
  by_cases hj:j=sa+na
  ·subst hj;rw[ht]at z;cases z;exact C.irr _
  ·exact C.le (gb (sa+na) j t h (Qa _) (by lia) a4 ht z)
 have ax:∀i g,sa<=i->i<sa+na->γ[i]?=some g->c x g=false:=fun i g a1 a2 z=>by
  by_cases hi:i=sa+na-1
  ·subst hi;rw[hx]at z;cases z;exact C.irr _
  ·exact C.le (ga i (sa+na-1) g x a1 (by lia) (by lia) z hx)
 have idle:(∀i j g h,sa<=i->i<sa+na->sa+na<=j->j<sa+na+nb->γ[i]?=some g->γ[j]?=some h->c h g=false)->∀st1,arrOf st1=arrOf st->kindOf st1=kindOf st->failedOf st1=failedOf st->Mtd k f N c γ sa (na+nb) st1 γ:=fun hc st1 a1 k1 f1=>by
  refine⟨⟨a1.trans R.arr,k1.trans R.kind,f1.trans R.fine,R.perm⟩,fun i j g h z1 z2 z3 z4 z5=>?_,fun i g z1 z2 z3=>?_,Out.refl _ _ _⟩
  ·by_cases hi:i<sa+na
   ·by_cases hj:j<sa+na
    ·exact ga i j g h z1 z2 hj z4 z5
    ·exact .inr ⟨hc i j g h z1 hi (by lia) (by lia) z4 z5,tagab i j g h z1 hi (by lia) (by lia) z4 z5⟩
   ·exact gb i j g h (by lia) z2 (by lia) z4 z5
  ·by_cases hi:i<sa+na
   ·have:=oa i g z1 hi z3;lia
   ·have:=ob i g (by lia) (by lia) z3;lia
 have ra:(sortPriv% PySem.Builtin.SortState.a) st=γ.map f:=R.arr;refine Al (Bq ?_);dsimp only;rw[e1,e2];dsimp only;refine Al (Aw (Q:=fun _ st1=>arrOf st1=arrOf st/\kindOf st1=kindOf st/\failedOf st1=failedOf st/\pendingOf st1=((pendingOf st).setIfInBounds i (sa,na+nb,p1)).eraseIdxIfInBounds (i+1)) (Hv ⟨rfl,rfl,rfl,rfl⟩) ?_);rintro _ st1 ⟨a1,k1,f1,pd1⟩;have hk1:kindOf st1=k:=k1.trans R.kind;rw[ra];refine Al (EZ ht ?_);refine Al (E8 C hk1 tN bnd (left:=false) (base:=sa) (n:=na) (hint:=0) (by lia) (by lia) ga fun u hu tr fs=>?_)
 dsimp only;have tr':∀i g,sa<=i->i<sa+u->γ[i]?=some g->c t g=false:=fun i g z1 z2 z3=>by simpa[bb]using tr i g z1 z2 z3
 have fs':∀i g,sa+u<=i->i<sa+na->γ[i]?=some g->c t g=true:=fun i g z1 z2 z3=>by simpa[bb]using fs i g z1 z2 z3
 by_cases e3:(na-u == 0)=true
 ·refine fU e3 ?_;have e3':na-u=0:=Ca e3;refine Ah (q st1 γ (idle (fun i j g h z1 z2 z3 z4 z5 z6=>?_) st1 a1 k1 f1) pd1);exact C.letr (tr' i g z1 (by lia) z5) (tb j h z3 z4 z6)
 refine fj e3 ?_;have e3':na-u≠0:=fun z=>e3 (by rw[z];rfl)
 have eu:sa+u+(na-u)=sa+na:=by rw[Bj,Xl hu]
 rw[eu];refine Al (EZ hx ?_);refine Al (E8 C hk1 xN bnd (left:=true) (base:=sa+na) (n:=nb) (hint:=nb-1) (by lia) (by lia) gb fun v hv tr2 fs2=>?_)
 dsimp only;have tr2':∀i g,sa+na<=i->i<sa+na+v->γ[i]?=some g->c g x=true:=fun i g z1 z2 z3=>by simpa[bb]using tr2 i g z1 z2 z3
 have fs2':∀i g,sa+na+v<=i->i<sa+na+nb->γ[i]?=some g->c g x=false:=fun i g z1 z2 z3=>by simpa[bb]using fs2 i g z1 z2 z3
 by_cases e4:(v == 0)=true
 ·refine fU e4 ?_;have e4':v=0:=Ca e4;refine Ah (q st1 γ (idle (fun i j g h z1 z2 z3 z4 z5 z6=>?_) st1 a1 k1 f1) pd1);exact C.letr (ax i g z1 z2 z5) (fs2' j h (by lia) z4 z6)
 refine fj e4 ?_;have e4':v≠0:=fun z=>e4 (by rw[z];rfl)
 have ex:(γ.map f).extract (sa+u) (sa+na)=ar f (pc γ (sa+u) (na-u)):=by
  have:=Ji (γ:=γ) (f:=f) (sa+u) (na-u);rwa [eu]at this
 have ey:(γ.map f).extract (sa+na) (sa+na+v)=ar f (pc γ (sa+na) v):=Ji _ _;rw[ex,ey];have T:Two c N (pc γ (sa+u) (na-u)) (pc γ (sa+na) v):=by
  refine⟨xA fun i j g h z1 z2 z3=>ga i j g h (by lia) z2 (by lia),xA fun i j g h z1 z2 z3=>gb i j g h z1 z2 (by lia),fun g hg h hh=>?_,fun g hg=>?_,fun g hg=>?_,fun z=>?_,fun z=>?_,fun x' y' z1 z2=>?_,fun x' z1 g hg=>?_⟩
  ·obtain⟨i,y1,y2,y3⟩:=gE hg;obtain⟨j,y4,y5,y6⟩:=gE hh;exact tagab i j g h (by lia) (by lia) y4 (by lia) y3 y6
  ·obtain⟨i,y1,y2,y3⟩:=gE hg;exact bnd i g y3
  ·obtain⟨i,y1,y2,y3⟩:=gE hg;exact bnd i g y3
  ·have:=kS (γ:=γ) (lo:=sa+u) (n:=na-u) (by lia)
   rw[z]at this;simp at this;lia
  ·have:=kS (γ:=γ) (lo:=sa+na) (n:=v) (by lia)
   rw[z]at this;simp at this;lia
  ·rw[xz (by lia)]at z1 z2
   rw[Dt]at z1 z2;rw[ht]at z2;cases z2;exact fs' (sa+u) x' (Qa _) (by lia) z1
  ·rw[kS (by lia),xz (Nat.sub_lt (Bv e3') Nat.one_pos),show sa+u+(na - u - 1)=sa+na - 1 by rw[← Nat.add_sub_assoc (Bv e3'),eu],hx]at z1
   cases z1;obtain⟨i,y1,y2,y3⟩:=gE hg;exact tr2' i g y1 y2 y3
 have fin:∀(o:Array Keyed)(st2:SortSt),Sm st1 st2->Rt f c (pc γ (sa+u) (na-u)) (pc γ (sa+na) v) o->∀st3:SortSt,arrOf st3=o.toList.zipIdx.foldl (fun a (p:Keyed×Nat)=>a.setIfInBounds (sa+u+p.2) p.1) (arrOf st2)->kindOf st3=kindOf st2->pendingOf st3=pendingOf st2->failedOf st3=failedOf st2 ->
   ∃γ',Mtd k f N c γ sa (na+nb) st3 γ':=fun o st2 sm2 rt st3 a3 k3 _ f3=>by
  obtain⟨l,rfl,gd⟩:=rt;have hl:l.length=na-u+v:=by rw[gd.2.length_eq,Xa,kS (by lia),kS (by lia)]
  have sp:pc γ sa (na+nb)=pc γ sa u++(pc γ (sa+u) (na-u)++pc γ (sa+na) v)++pc γ (sa+na+v) (nb-v):=by
   have h1:na+nb=u+((na-u)+(v+(nb-v))):=by rw[Xl hv,← Bj,Xl hu]
   rw[h1,oW,oW (sa+u),oW (sa+u+(na - u)),eu];simp
  have pX:(pc γ sa u++l++pc γ (sa+na+v) (nb-v)).Perm (pc γ sa (na+nb)):=by
   rw[sp];exact(gd.2.append_left _).append_right _
  have hX:(pc γ sa u++l++pc γ (sa+na+v) (nb-v)).length=na+nb:=by rw[pX.length_eq,kS (by lia)]
  let γ':Array Nat:=(γ.toList.take sa++(pc γ sa u++l++pc γ (sa+na+v) (nb-v))++γ.toList.drop (sa+(na+nb))).toArray
  have eγ:γ'.toList=γ.toList.take sa++(pc γ sa u++l++pc γ (sa+na+v) (nb-v))++γ.toList.drop (sa+(na+nb)):=rfl;obtain⟨n1,n2,n3⟩:=yS (γ:=γ) (lo:=sa) (n:=na+nb) (by lia) pX eγ
  have pw:(pc γ sa u++l++pc γ (sa+na+v) (nb-v)).Pairwise (Bf c):=by
   have inl:∀h∈l,(∃i,sa+u<=i/\i<sa+na/\γ[i]?=some h)∨∃j,sa+na<=j/\j<sa+na+v/\γ[j]?=some h:=fun h hh=>by
    rcases Wc.mp (gd.2.mem_iff.mp hh) with hh|hh
    ·obtain⟨i,y1,y2,y3⟩:=gE hh;exact .inl ⟨i,y1,by lia,y3⟩
    ·obtain⟨i,y1,y2,y3⟩:=gE hh;exact .inr ⟨i,y1,y2,y3⟩
   rw[Xi,Xi];refine⟨⟨xA fun i j g h z1 z2 z3=>ga i j g h z1 z2 (by lia),gd.1,fun g hg h hh=>?_⟩,xA fun i j g h z1 z2 z3=>gb i j g h (by lia) z2 (by lia),fun g hg h hh=>?_⟩
   ·obtain⟨i,y1,y2,y3⟩:=gE hg;rcases inl h hh with⟨j,y4,y5,y6⟩|⟨j,y4,y5,y6⟩
    ·exact ga i j g h y1 (by lia) y5 y3 y6
    ·exact .inr ⟨C.letr (tr' i g y1 y2 y3) (tb j h y4 (by lia) y6),tagab i j g h y1 (by lia) y4 (by lia) y3 y6⟩
   ·obtain⟨j,y4,y5,y6⟩:=gE hh;rcases Wc.mp hg with hg|hg
    ·obtain⟨i,y1,y2,y3⟩:=gE hg;exact .inr ⟨C.letr (ax i g y1 (by lia) y3) (fs2' j h y4 (by lia) y6),tagab i j g h y1 (by lia) (by lia) (by lia) y3 y6⟩
    ·rcases inl g hg with⟨i,y1,y2,y3⟩|⟨i,y1,y2,y3⟩
     ·exact .inr ⟨C.letr (ax i g (by lia) y2 y3) (fs2' j h y4 (by lia) y6),tagab i j g h (by lia) y2 (by lia) (by lia) y3 y6⟩
     ·exact gb i j g h y1 (by lia) (by lia) y3 y6
  refine⟨γ',⟨?_,(k3.trans sm2.kind).trans hk1,(f3.trans sm2.fine).trans (f1.trans R.fine),n1.trans R.perm⟩,K3 hX n3 pw,K4 n3 fun g hg=>?_,n2⟩
  ·have ar1:arrOf st2=γ.map f:=(sm2.arr.trans a1).trans R.arr;rw[a3,ar1];apply Array.toList_inj.mp;have:=uf (sa+u) (ar f l).toList 0 (γ.map f) (by rw[AE,hsz];simp[ar,hl];lia)
   rw[Dt]at this;rw[this];have el:(ar f l).toList=l.map f:=by simp[ar]
   rw[el,Ya,hl,Array.toList_map,Array.toList_map,eγ];rw[← Cj,← BH,← Zc,← Zc];congr 1;have t1:γ.toList.take (sa+u)=γ.toList.take sa++pc γ sa u:=by
    unfold pc;rw[List.take_add]
   have t2:γ.toList.drop (sa+u+(na-u+v))=pc γ (sa+na+v) (nb-v)++γ.toList.drop (sa+(na+nb)):=by
    unfold pc;have h:=Qg (nb-v) (γ.toList.drop (sa+na+v));rw[Ba,show sa+na+v+(nb - v)=sa+(na+nb) by rw[Bj,Xl hv,Bj]]at h
    rw[show sa+u+(na - u+v)=sa+na+v by rw[← Bj,eu],h]
   rw[t1,t2];simp
  ·have hg':=pX.mem_iff.mp hg;obtain⟨i,y1,y2,y3⟩:=gE hg';by_cases hi:i<sa+na
   ·have:=oa i g y1 hi y3;lia
   ·have:=ob i g (by lia) (by lia) y3;lia
 by_cases e5:na-u<=v
 ·refine fU e5 ?_;refine Al (K1 C hk1 T fun o st2 sm2 rt=>?_);refine Al (Aw (Q:=fun _ st3=>arrOf st3=o.toList.zipIdx.foldl (fun a (p:Keyed×Nat)=>a.setIfInBounds (sa+u+p.2) p.1) (arrOf st2)/\kindOf st3=kindOf st2/\pendingOf st3=pendingOf st2/\failedOf st3=failedOf st2) (Be ⟨rfl,rfl,rfl,rfl⟩) ?_);rintro _ st3 ⟨a3,k3,p3,f3⟩;obtain⟨γ',M⟩:=fin o st2 sm2 rt st3 a3 k3 p3 f3;refine Al (Bq ?_);have hf:failedOf st3=none:=M.rp.fine;have:=q st3 γ' M (p3.trans (sm2.pend.trans pd1));refine Ah ?_;rw[show((sortPriv% PySem.Builtin.SortState.failed) st3).isNone=true by rw[show(sortPriv% PySem.Builtin.SortState.failed) st3=none from hf];rfl]
  exact this
 ·refine fj e5 ?_;refine Al (K2 C hk1 T fun o st2 sm2 rt=>?_);refine Al (Aw (Q:=fun _ st3=>arrOf st3=o.toList.zipIdx.foldl (fun a (p:Keyed×Nat)=>a.setIfInBounds (sa+u+p.2) p.1) (arrOf st2)/\kindOf st3=kindOf st2/\pendingOf st3=pendingOf st2/\failedOf st3=failedOf st2) (Be ⟨rfl,rfl,rfl,rfl⟩) ?_);rintro _ st3 ⟨a3,k3,p3,f3⟩;obtain⟨γ',M⟩:=fin o st2 sm2 rt st3 a3 k3 p3 f3;refine Al (Bq ?_);have hf:failedOf st3=none:=M.rp.fine;have:=q st3 γ' M (p3.trans (sm2.pend.trans pd1));refine Ah ?_;rw[show((sortPriv% PySem.Builtin.SortState.failed) st3).isNone=true by rw[show(sortPriv% PySem.Builtin.SortState.failed) st3=none from hf];rfl]
  exact this
end
end TS
namespace TS
open PySem PyProof.Rows
def Nn:StateT SortSt Sem Unit:=sortPriv% PySem.Builtin.sortRuns
abbrev Run:=Nat×Nat×Nat
def Cv(c:Nat->Nat->Bool)(γ:Array Nat):Nat->List Run->Nat->Prop
 | a,[],b=>a=b
 | a,r::l,b=>r.1=a/\1<=r.2.1/\Sg c γ a (a+r.2.1)/\Ow γ a (a+r.2.1)/\Cv c γ (a+r.2.1) l b
section
variable {prog:Program}{w:World}{A:Around}{E:Value->Shared->Prop}{s:Shared}{k:SortKind}{f:Nat->Keyed}{N:Nat}{c:Nat->Nat->Bool}{st:SortSt}{γ γ':Array Nat}
theorem Cv.le:∀{l:List Run}{a b:Nat},Cv c γ a l b->a+l.length<=b
 | [],a,b,h=>by cases h;simp
 | r::l,a,b,h=>by
  have:=Cv.le h.2.2.2.2;have:=h.2.1;rw[Xd];lia
theorem Cv.congr:∀{l:List Run}{a b:Nat},Cv c γ a l b->(∀i,a<=i->i<b->γ'[i]?=γ[i]?)->Cv c γ' a l b
 | [],a,b,h,_=>h
 | r::l,a,b,⟨h1,h2,h3,h4,h5⟩,e=>by
  have hb:=Cv.le h5;refine⟨h1,h2,fun i j g h z1 z2 z3 z4 z5=>h3 i j g h z1 z2 z3 (by rw[← e i z1 (by lia)];exact z4) (by rw[← e j (by lia) (by lia)];exact z5),fun i g z1 z2 z3=>h4 i g z1 z2 (by rw[← e i z1 (by lia)];exact z3),Cv.congr h5 fun i z1 z2=>e i (by lia) z2⟩
theorem Cv.app:∀{l m:List Run}{a b:Nat},Cv c γ a (l++m) b↔∃d,Cv c γ a l d/\Cv c γ d m b
 | [],m,a,b=>⟨fun h=>⟨a,rfl,h⟩,fun⟨d,h1,h2⟩=>by cases h1;exact h2⟩
 | r::l,m,a,b=>by
  constructor
  ·rintro⟨h1,h2,h3,h4,h5⟩;obtain⟨d,h6,h7⟩:=Cv.app.mp h5;exact⟨d,⟨h1,h2,h3,h4,h6⟩,h7⟩
  ·rintro⟨d,⟨h1,h2,h3,h4,h6⟩,h7⟩;exact⟨h1,h2,h3,h4,Cv.app.mpr ⟨d,h6,h7⟩⟩
structure Sr(k:SortKind)(f:Nat->Keyed)(N:Nat)(c:Nat->Nat->Bool)(lo:Nat)(δ:Array Nat)(st:SortSt)(γ:Array Nat):Prop where
 rp:Rp k f N st γ
 cv:Cv c γ 0 (pendingOf st).toList lo
 tl:∀i,lo<=i->γ[i]?=δ[i]?
 le:lo<=N
def K6{l:List Run}(h:i+1<l.length):∃l1 r1 r2 l2,l=l1++r1::r2::l2/\l1.length=i:=by
 refine⟨l.take i,l[i],l[i+1],l.drop (i+2),?_,by rw[Wf];lia⟩
 have h1:=Qg i l;rw[Vl (by lia:i<l.length),Vl (by lia:i+1<l.length)]at h1
 exact h1.symm
def yT(l1 l2:List Run)(r1 r2 r:Run):((l1++r1::r2::l2).set l1.length r).eraseIdx (l1.length+1)=l1++r::l2:=by
 rw[List.set_append_right _ _ (Qa _),Ds,List.set_cons_zero,List.eraseIdx_append_of_length_le (by lia)]
 congr 1;rw[show l1.length+1 - l1.length=1 by lia];rfl
def uk(C:Cm prog w A s k f N c){lo i:Nat}{δ:Array Nat}(S:Sr k f N c lo δ st γ)(hi:i+1<(pendingOf st).size){Q:Bool->SortSt->Prop}
  (q:∀st' γ',Sr k f N c lo δ st' γ'->(pendingOf st').size+1=(pendingOf st).size->Q true st'):wpS (model prog w) A E s ((sortPriv% PySem.Builtin.mergeAt) i) Q st:=by
 obtain⟨l1,⟨sa,na,p1⟩,⟨sb,nb,p2⟩,l2,hl,hl1⟩:=K6 (l:=(pendingOf st).toList) (i:=i) (by rw[Yd];exact hi)
 have cv:=S.cv;rw[hl]at cv;obtain⟨d,c1,c2⟩:=Cv.app.mp cv;obtain⟨h1,h2,h3,h4,h5,h6,h7,h8,h9⟩:=c2;dsimp only at h1 h2 h3 h4 h5 h6 h7 h8 h9;subst h1 h5;have hle:=Cv.le h9;have hN:=S.le;have e1:(pendingOf st)[i]?=some (sa,na,p1):=by rw[← Yk,hl,← hl1,Ye (Qa _),Ds];rfl
 have e2:(pendingOf st)[i+1]?=some (sa+na,nb,p2):=by rw[← Yk,hl,← hl1,Ye (by lia),show l1.length+1 - l1.length=1 by lia];rfl
 refine K5 C S.rp e1 e2 h2 h6 (by lia) h3 h4 h7 h8 fun st' γ' M pd=>?_
 have out:∀i,i<sa∨sa+(na+nb)<=i->γ'[i]?=γ[i]?:=M.out;have hp:(pendingOf st').toList=l1++(sa,na+nb,p1)::l2:=by
  rw[pd,Array.toList_eraseIdxIfInBounds,Array.toList_setIfInBounds,hl,← hl1,yT]
 refine q st' γ' ⟨M.rp,?_,fun i z1=>?_,S.le⟩ ?_
 ·rw[hp];refine Cv.app.mpr ⟨sa,c1.congr fun i z1 z2=>out i (.inl z2),rfl,by show 1<=na+nb;lia,M.sg,M.ow,?_⟩
  show Cv c γ' (sa+(na+nb)) l2 lo;rw[← Bj];exact h9.congr fun i z1 z2=>out i (.inr (by lia))
 ·rw[out i (.inr (by lia))];exact S.tl i z1
 ·have a1:(pendingOf st').size=(l1++(sa,na+nb,p1)::l2).length:=by rw[← hp,Yd]
  have a2:(pendingOf st).size=(l1++(sa,na,p1)::(sa+na,nb,p2)::l2).length:=by rw[← hl,Yd]
  rw[a1,a2];simp only[Xa,Xd];lia
theorem Cv.modify(hg:∀r,(g r).1=r.1/\(g r).2.1=r.2.1):∀{l:List Run}{i a b:Nat},Cv c γ a l b->Cv c γ a (l.modify i g) b
 | [],i,a,b,h=>by simpa using h
 | r::l,0,a,b,⟨h1,h2,h3,h4,h5⟩=>by
  rw[List.modify_zero_cons];have:=hg r;exact⟨this.1.trans h1,by rw[this.2];exact h2,by rw[this.2];exact h3,by rw[this.2];exact h4,by rw[this.2];exact h5⟩
 | r::l,i+1,a,b,⟨h1,h2,h3,h4,h5⟩=>by
  rw[List.modify_succ_cons];exact⟨h1,h2,h3,h4,Cv.modify hg h5⟩
def K7(C:Cm prog w A s k f N c)(R:Rp k f N st γ){lo n ok:Nat}(hn:lo+n<=N)(h1:1<=ok)(hok:ok<=n)(sg:Sg c γ lo (lo+ok))(ow:Ow γ lo (lo+ok))(raw:Raw γ (lo+ok) N)
  {Q:Bool->SortSt->Prop}(q:∀(x:Array Keyed)(γ':Array Nat),Rp k f N (setArr st x) γ'->Sg c γ' lo (lo+n)->Ow γ' lo (lo+n)->Raw γ' (lo+n) N->Out γ γ' lo (lo+n)->Q true (setArr st x)) :
  wpS (model prog w) A E s ((sortPriv% PySem.Builtin.binarySort) lo n ok) Q st:=Ht C R hn h1 hok sg ow raw q
def K8(C:Cm prog w A s k f N c)(R:Rp k f N st γ){lo:Nat}(hl:lo<N)(raw:Raw γ lo N)
  {Q:Option Nat->SortSt->Prop}(q:∀n st',1<=n->lo+n<=N->Rn k f N c lo st γ n st'->Q (some n) st'):wpS (model prog w) A E s ((sortPriv% PySem.Builtin.countRun) lo (N-lo)) Q st:=KZ C R hl raw q
def E9{M:Model}{σ γ:Type}{X:StateT σ Sem γ}{B:Nat->StateT σ Sem γ}{p:Prop}{d:Decidable p}{n:Nat}{Q:γ->σ->Prop}{st:σ}(I:Nat->σ->Prop)
  (h:p->(∀n st,I n st->wpS M A E s (B n) Q st)->wpS M A E s X Q st)(g:¬ p->I n st)(hB:∀n st,I n st->wpS M A E s (B n) Q st):wpS M A E s (@ite _ p d X (B n)) Q st:=fQ (fun z=>h z hB) fun z=>hB _ _ (g z)
set_option tactic.hygienic true in
def Hx(C:Cm prog w A s k f N c)(R:Rp k f N st γ)(hp:pendingOf st=#[])(raw:Raw γ 0 N){Q:Unit->SortSt->Prop}(q:∀st' γ',Rp k f N st' γ'->Sg c γ' 0 N->Q ⟨⟩ st'):wpS (model prog w) A E s Nn Q st:=by
 have hsz:((sortPriv% PySem.Builtin.SortState.a) st).size=N:=by
  have:=congrArg Array.size R.arr;rw[AE,R.size]at this;exact this
 refine Al (Bq ?_);dsimp only;rw[hsz];refine Al (Aw (Ax (I:=fun x r st'=>∃lo,r=(none,lo)/\x<=lo/\∃γ',Sr k f N c lo γ' st' γ'/\Raw γ' lo N) (Q:=fun r st'=>r=(none,N)/\∃γ',Sr k f N c N γ' st' γ') ?step ?fin ?init) ?post)
 case init=>exact⟨0,rfl,Qa _,γ,⟨R,by rw[hp];rfl,fun _ _=>rfl,Qk _⟩,raw⟩
 case fin =>
  rintro r st' ⟨lo,rfl,hx,γ',S,rw'⟩;have:=S.le;obtain rfl:lo=N:=by lia
  exact⟨rfl,γ',S⟩
 case step =>
  rintro x r st' _ hxN ⟨lo,rfl,hx,γ',S,raw'⟩;dsimp only;by_cases hl:lo ≥ N
  ·refine fU hl ?_;have:=S.le;obtain rfl:lo=N:=by lia
   exact Ah ⟨rfl,γ',S⟩
  refine fj hl ?_;refine Al (K8 C S.rp (by lia) raw' fun n st1 hn1 hn2 rn=>?_)
  dsimp only;apply E9 (n:=n) (I:=fun n st1=>∃γ1,Rp k f N st1 γ1/\pendingOf st1=pendingOf st'/\1<=n/\lo+n<=N/\Sg c γ1 lo (lo+n)/\Ow γ1 lo (lo+n)/\Raw γ1 (lo+n) N/\Out γ' γ1 lo (lo+n))
  case g =>
   obtain⟨xa,γ1,hst1,R1,sg1,ow1,raw1,out1⟩:=rn;exact fun _=>⟨γ1,R1,by rw[hst1],hn1,hn2,sg1,ow1,raw1,out1⟩
  case h =>
   intro hm key;obtain⟨xa,γ1,hst1,R1,sg1,ow1,raw1,out1⟩:=rn;refine Al (B4 (AH ⟨rfl,?_⟩));generalize hm2:min (N-lo) ((sortPriv% PySem.Builtin.minRun) N N 0)=n2;have hn3:n<=n2:=by rw[← hm2];lia
   have hn4:lo+n2<=N:=by rw[← hm2];lia
   exact Al (K7 C R1 hn4 hn1 hn3 sg1 ow1 raw1 fun xb γ2b R2 sg2 ow2 raw2 out2=>fj (by decide) (key n2 _ ⟨γ2b,R2,by rw[hst1],Zd hn1 hn3,hn4,sg2,ow2,raw2,fun i hi=>(out2 i hi).trans (out1 i (by lia))⟩))
  clear rn hn1 hn2;intro n st1 hJ;obtain⟨γ1,hJ⟩:=hJ;have R1:=hJ.1;have pd1:=hJ.2.1;have hn1:=hJ.2.2.1;have hn2:=hJ.2.2.2.1;have sg1:=hJ.2.2.2.2.1;have ow1:=hJ.2.2.2.2.2.1;have raw1:=hJ.2.2.2.2.2.2.1;have out1:=hJ.2.2.2.2.2.2.2;refine Al (Bq ?_);have cv1:Cv c γ1 0 (pendingOf st1).toList lo:=by rw[pd1];exact S.cv.congr fun i _ z2=>out1 i (.inl z2)
  have S1:Sr k f N c lo γ1 st1 γ1:=⟨R1,cv1,fun _ _=>rfl,S.le⟩;have push:∀(st2:SortSt)(γ2:Array Nat),Sr k f N c lo γ1 st2 γ2->∀st3:SortSt,arrOf st3=arrOf st2->kindOf st3=kindOf st2->failedOf st3=failedOf st2->pendingOf st3=(pendingOf st2).push (lo,n,0)->∃γ',Sr k f N c (lo+n) γ' st3 γ'/\Raw γ' (lo+n) N:=fun st2 γ2 S2 st3 a3 k3 f3 p3=>by
   refine⟨γ2,⟨⟨a3.trans S2.rp.arr,k3.trans S2.rp.kind,f3.trans S2.rp.fine,S2.rp.perm⟩,?_,fun _ _=>rfl,hn2⟩,fun i z1 z2=>?_⟩
   ·rw[p3,Array.toList_push];refine Cv.app.mpr ⟨lo,S2.cv,rfl,hn1,fun i j g h z1 z2 z3 z4 z5=>?_,fun i g z1 z2 z3=>?_,rfl⟩
    ·exact sg1 i j g h z1 z2 z3 (by rw[← S2.tl i z1];exact z4) (by rw[← S2.tl j (by lia)];exact z5)
    ·exact ow1 i g z1 z2 (by rw[← S2.tl i z1];exact z3)
   ·rw[S2.tl i (by lia)];exact raw1 i z1 z2
  split
  ·rename_i s1 n1 sd hback
   refine Al (Aw (Ax (I:=fun _ r st2=>r=(none,())/\∃γ2,Sr k f N c lo γ1 st2 γ2) (Q:=fun r st2=>r=(none,())/\∃γ2,Sr k f N c lo γ1 st2 γ2) ?step2 ?fin2 ?init2) ?post2)
   case init2=>exact⟨rfl,γ1,S1⟩
   case fin2=>exact fun r st2 h=>h
   case step2 =>
    rintro y r st2 _ _ ⟨rfl,γ2,S2⟩;refine Al (Bq ?_);split
    ·rename_i o1 o2 older hold
     have hsz2:(pendingOf st2).size > 1:=by
      by_cases hz:(pendingOf st2).size > 1
      ·exact hz
      ·rw[Ak hz]at hold;cases hold
     by_cases ho:older<=(sortPriv% PySem.Builtin.power) N (2*s1+n1) (2*s1+n1+n1+n) N
     ·refine fU ho ?_;exact Ah ⟨rfl,γ2,S2⟩
     ·refine fj ho ?_;refine Al (uk C S2 (i:=(pendingOf st2).size-2) (by lia) fun st3 γ3 S3 _=>?_)
      exact Ah ⟨rfl,γ3,S3⟩
    ·exact Ah ⟨rfl,γ2,S2⟩
   case post2 =>
    rintro r st2 ⟨rfl,γ2,S2⟩;dsimp only;refine Al (Aw (Q:=fun _ st3=>∃γ3,Sr k f N c lo γ1 st3 γ3) (Be ⟨γ2,⟨S2.rp.arr,S2.rp.kind,S2.rp.fine,S2.rp.perm⟩,?_,S2.tl,S2.le⟩) ?_)
    ·show Cv c γ2 0 ((pendingOf st2).modify ((pendingOf st2).size-1) _).toList lo;rw[Array.toList_modify];refine Cv.modify (g:=fun x=>(x.1,x.2.1,_)) (fun r=>?_) S2.cv;exact⟨rfl,rfl⟩
    rintro _ st3 ⟨γ3,S3⟩;refine Al (Aw (Q:=fun _ st4=>∃γ',Sr k f N c (lo+n) γ' st4 γ'/\Raw γ' (lo+n) N) (Be (push st3 γ3 S3 _ rfl rfl rfl rfl)) ?_);rintro _ st4 ⟨γ4,S4,raw4⟩;exact Ah ⟨_,rfl,by lia,γ4,S4,raw4⟩
  ·refine Al (Aw (Q:=fun _ st4=>∃γ',Sr k f N c (lo+n) γ' st4 γ'/\Raw γ' (lo+n) N) (Be (push st1 γ1 S1 _ rfl rfl rfl rfl)) ?_);rintro _ st4 ⟨γ4,S4,raw4⟩;exact Ah ⟨_,rfl,by lia,γ4,S4,raw4⟩
 case post =>
  rintro r st' ⟨rfl,γ',S⟩;dsimp only;refine Al (Aw (Ax (I:=fun x r st2=>r=(none,())/\∃γ2,Sr k f N c N γ' st2 γ2/\(pendingOf st2).size+x<=N) (Q:=fun r st2=>r=(none,())/\∃γ2,Sr k f N c N γ' st2 γ2/\(pendingOf st2).size<=1) ?step3 ?fin3 ?init3) ?post3)
  case init3 =>
   refine⟨rfl,γ',S,?_⟩;have:=S.cv.le;rw[Yd]at this;lia
  case fin3 =>
   rintro r st2 ⟨rfl,γ2,S2,hz⟩;exact⟨rfl,γ2,S2,by lia⟩
  case step3 =>
   rintro y r st2 _ _ ⟨rfl,γ2,S2,hz⟩;refine Al (Bq ?_);by_cases h1:((sortPriv% PySem.Builtin.SortState.pending) st2).size<=1
   ·refine fU h1 ?_;exact Ah ⟨rfl,γ2,S2,h1⟩
   refine fj h1 ?_;have h1':¬ (pendingOf st2).size<=1:=h1;refine Al (uk C S2 ?_ fun st3 γ3 S3 hs3=>Ah ⟨rfl,γ3,S3,by lia⟩)
   have pick:∀(p:Prop) [Decidable p],(if p then(pendingOf st2).size-2-1 else(pendingOf st2).size-2)+1<(pendingOf st2).size:=fun p _=>by
    split<;>lia
   exact pick _
  case post3 =>
   rintro r st2 ⟨rfl,γ2,S2,hz⟩;dsimp only;refine Ah (q st2 γ2 S2.rp ?_);have cv:=S2.cv;rw[← Yd]at hz;generalize (pendingOf st2).toList=l at cv hz;cases l with
   | nil =>
    have:0=N:=cv;subst this;exact fun i j g h z1 z2 z3=>by lia
   | cons r l =>
    cases l with
    | cons _ _=>simp at hz
    | nil =>
     obtain⟨h1,h2,h3,h4,h5⟩:=cv;have e:0+r.2.1=N:=h5;rw[e]at h3;exact h3
end
end TS
namespace VF
open PySem L2
open Classical in
noncomputable def ltL(lt:D->D->Bool):List D->List D->Bool
 | [],[]=>false
 | [],_::_=>true
 | _::_,[]=>false
 | x::xs,y::ys=>if x=y then ltL lt xs ys else lt x y
noncomputable def ltN:Nat->D->D->Bool
 | 0,_,_=>false
 | _+1,.int i,.int j=>decide (i<j)
 | _+1,.str x,.str y=>decide (x.cps.toList<y.cps.toList)
 | n+1,.tup xs,.tup ys=>ltL (ltN n) xs ys
 | _+1,_,_=>false
def Cp:Nat->D->D->Prop
 | 0,_,_=>False
 | _+1,.int _,.int _=>True
 | _+1,.str _,.str _=>True
 | n+1,.tup xs,.tup ys=>∀(i:Nat) x y,xs[i]?=some x->ys[i]?=some y->Cp n x y
 | _+1,_,_=>False
theorem xB:∀(xs:List D),ltL lt xs xs=false
 | []=>rfl
 | x::xs=>by
  unfold ltL;rw[Ae rfl];exact xB xs
theorem n8:∀(n:Nat)(a:D),ltN n a a=false
 | 0,_=>rfl
 | n+1,a=>by
  cases a with
  | int i=>exact Ag (Int.lt_irrefl i)
  | str x=>exact Ag (List.lt_irrefl _)
  | tup xs=>exact xB xs
  | _=>rfl
structure Or(n:Nat):Prop where
 tri:∀{a b:D},Cp n a b->a=b∨ltN n a b=true∨ltN n b a=true
 tra:∀{a b c:D},Cp n a b->Cp n b c->Cp n a c->ltN n a b=true->ltN n b c=true->ltN n a c=true
abbrev Cl(n:Nat)(xs ys:List D):Prop:=∀(i:Nat) x y,xs[i]?=some x->ys[i]?=some y->Cp n x y
def Cl.tail(h:Cl n (x::xs) (y::ys)):Cl n xs ys:=fun i a b e1 e2=>h (i+1) a b (by simpa using e1) (by simpa using e2)
def Cl.head(h:Cl n (x::xs) (y::ys)):Cp n x y:=h 0 x y rfl rfl
open Classical in
def dP:ltL lt (x::xs) (x::ys)=ltL lt xs ys:=by
 show(if x=x then ltL lt xs ys else lt x x)=_;rw[Ae rfl]
open Classical in
def cz(h:x≠y):ltL lt (x::xs) (y::ys)=lt x y:=by
 show(if x=y then ltL lt xs ys else lt x y)=_;rw[Ak h]
theorem xC(O:Or n):∀{xs ys:List D},Cl n xs ys->xs=ys∨ltL (ltN n) xs ys=true∨ltL (ltN n) ys xs=true
 | [],[],_=>.inl rfl
 | [],_::_,_=>.inr (.inl rfl)
 | _::_,[],_=>.inr (.inr rfl)
 | x::xs,y::ys,h=>by
  by_cases e:x=y
  ·subst e;rw[dP,dP];rcases xC O h.tail with q|q
   ·exact .inl (by rw[q])
   ·exact .inr q
  ·rw[cz e,cz (AL e)];rcases O.tri h.head with q|q
   ·exact absurd q e
   ·exact .inr q
theorem xD(O:Or n):∀{xs ys zs:List D},Cl n xs ys->Cl n ys zs->Cl n xs zs->ltL (ltN n) xs ys=true->ltL (ltN n) ys zs=true->ltL (ltN n) xs zs=true
 | [],[],[],_,_,_,h1,_=>h1
 | [],_::_,[],_,_,_,_,h2=>h2
 | [],_,_::_,_,_,_,_,_=>rfl
 | _::_,[],_,_,_,_,h1,_=>by cases h1
 | _::_,_::_,[],_,_,_,_,h2=>by cases h2
 | x::xs,y::ys,z::zs,c1,c2,c3,h1,h2=>by
  by_cases e1:x=y
  ·subst e1;rw[dP]at h1;by_cases e2:x=z
   ·subst e2;rw[dP]at h2 ⊢;exact xD O c1.tail c2.tail c3.tail h1 h2
   ·rw[cz e2]at h2 ⊢;exact h2
  ·rw[cz e1]at h1;by_cases e2:y=z
   ·subst e2;rw[cz e1];exact h1
   ·rw[cz e2]at h2;have h3:=O.tra c1.head c2.head c3.head h1 h2;have e3:x≠z:=fun e=>by subst e;rw[n8]at h3;cases h3
    rw[cz e3];exact h3
theorem mK:∀n,Or n
 | 0=>⟨fun h=>h.elim,fun h=>h.elim⟩
 | n+1=>by
  have O:=mK n;refine⟨fun {a b} h=>?_,fun {a b c} h1 h2 h3 l1 l2=>?_⟩
  ·cases a with
   | int i =>
    cases b with
    | int j =>
     rcases Int.lt_trichotomy i j with q|q|q
     ·exact .inr (.inl (Af q))
     ·exact .inl (by rw[q])
     ·exact .inr (.inr (Af q))
    | _=>exact h.elim
   | str x =>
    cases b with
    | str y =>
     by_cases q:x.cps.toList<y.cps.toList
     ·exact .inr (.inl (Af q))
     ·by_cases q':y.cps.toList<x.cps.toList
      ·exact .inr (.inr (Af q'))
      ·refine .inl ?_;have:=Ez (a:=x) (b:=y) q' q;rw[this]
    | _=>exact h.elim
   | tup xs =>
    cases b with
    | tup ys =>
     rcases xC O h with q|q
     ·exact .inl (by rw[q])
     ·exact .inr q
    | _=>exact h.elim
   | _=>exact h.elim
  ·cases a with
   | int i =>
    cases b with
    | int j =>
     cases c with
     | int k =>
      have q1:=Am l1;have q2:=Am l2;exact Af (Int.lt_trans q1 q2)
     | _=>exact h2.elim
    | _=>exact h1.elim
   | str x =>
    cases b with
    | str y =>
     cases c with
     | str z =>
      have q1:=Am l1;have q2:=Am l2;exact Af (List.lt_trans q1 q2)
     | _=>exact h2.elim
    | _=>exact h1.elim
   | tup xs =>
    cases b with
    | tup ys =>
     cases c with
     | tup zs=>exact xD O h1 h2 h3 l1 l2
     | _=>exact h2.elim
    | _=>exact h1.elim
   | _=>exact h1.elim
theorem xE(h:∀a b,lt a b=true->lt b a=false):∀(xs ys:List D),ltL lt xs ys=true->ltL lt ys xs=false
 | [],[],l=>by cases l
 | [],_::_,_=>rfl
 | _::_,[],l=>by cases l
 | x::xs,y::ys,l=>by
  by_cases e:x=y
  ·subst e;rw[dP]at l ⊢;exact xE h xs ys l
  ·rw[cz e]at l;rw[cz (AL e)];exact h x y l
theorem sA:∀(n:Nat)(a b:D),ltN n a b=true->ltN n b a=false
 | 0,_,_,l=>by cases l
 | n+1,a,b,l=>by
  cases a with
  | int i =>
   cases b with
   | int j =>
    have q:=Am l;exact Ag (by lia)
   | _=>cases l
  | str x =>
   cases b with
   | str y =>
    have q:=Am l;exact Ag (List.lt_asymm q)
   | _=>cases l
  | tup xs =>
   cases b with
   | tup ys=>exact xE (sA n) xs ys l
   | _=>cases l
  | _=>cases l
def Srt(n:Nat)(es:List D):Prop:=es.Pairwise fun a b=>ltN n b a=false
open Classical in
noncomputable def dX(n:Nat)(ds:List D):List D:=if h:∃es:List D,es.Perm ds/\Srt n es then h.choose else ds
set_option tactic.hygienic true in
def kU(n:Nat)(ds:List D):(dX n ds).Perm ds:=by
 unfold dX;split
 ·rename_i h;exact h.choose_spec.1
 ·exact List.Perm.refl _
def CA(n:Nat)(ds:List D):Prop:=∀a∈ds,∀b∈ds,Cp n a b
def CA.neg(h:CA n ds)(ha:a∈ds)(hb:b∈ds)(hc:c∈ds)(l:ltN n a c=true):ltN n a b=true∨ltN n b c=true:=by
 rcases(mK n).tri (h a ha b hb) with q|q|q
 ·subst q;exact .inr l
 ·exact .inl q
 ·exact .inr ((mK n).tra (h b hb a ha) (h a ha c hc) (h b hb c hc) q l)
def gF{ds es:List D}(h:CA n ds)(p:es.Perm ds)(s:Srt n es):es=dX n ds:=by
 have ex:∃es:List D,es.Perm ds/\Srt n es:=⟨es,p,s⟩;have e:dX n ds=ex.choose:=by unfold dX;rw[dif_pos ex]
 obtain⟨p2,s2⟩:=ex.choose_spec;rw[e];refine(p.trans p2.symm).eq_of_pairwise (fun a b ha hb h1 h2=>?_) s s2;rcases(mK n).tri (h a (p.mem_iff.mp ha) b (p2.mem_iff.mp hb)) with q|q|q
 ·exact q
 ·rw[h2]at q;cases q
 ·rw[h1]at q;cases q
end VF
namespace VF
open PySem L2 PySem.SeqAt
open PySem.AutoSeq1 (wpAny_loadPart')
open PySem.MeetsSeq PySem.MeetsSeq2 PySem.MeetsSeq3
def LtAt(A:Around)(s:Shared)(u v:Value)(b:Bool):Prop:=∀(prog:Program)(w:World)(E:Value->Shared->Prop)(Q:Value->Shared->Prop),Q (.bool b) s->wpAny (model prog w) A (richCompare .Lt u v) Q E s
open Classical in
inductive IL(A:Around)(s:Shared)(lt:D->D->Bool):List Value->List Value->List D->List D->Prop where
 | left {ws:List Value} {es:List D}:ws.length=es.length->IL A s lt [] ws [] es
 | right {vs:List Value} {ds:List D}:vs.length=ds.length->IL A s lt vs [] ds []
 | cons {v w:Value} {vs ws:List Value} {d e:D} {ds es:List D}:EqAt A.in1 s v w (decide (d=e))->(d≠e->LtAt A.in1 s v w (lt d e))->IL A s lt vs ws ds es->IL A s lt (v::vs) (w::ws) (d::ds) (e::es)
open Classical in
inductive KL(A:Around)(s:Shared)(lt:D->D->Bool)(n m:Nat)(R:Result->Shared->Prop){α β:Type}(rest:List (Value×Value))(b:Option α×β)(s':Shared):Prop
 | mk (vs ws:List Value) (ds' es':List D) (e1:b.1=none) (e2:s'=s) (hz:rest=vs.zip ws) (hi:IL A s lt vs ws ds' es') (hlen:vs.length+m=ws.length+n) (hR:R (.ok (.ret (.bool (ltL lt ds' es')))) s)
open Classical in
def qj(l b:Addr)(items items2:Array Value)(n n2:Nat)(dd dd2:Option Addr)(sl sl2:Array (Option Value))(lt:D->D->Bool)(ds es:List D) :
  Meets (Builtin.«tuple.__lt__» ⟨[.ref l,.ref b],[]⟩)
   (fun A R s=>s.heap.get? l=some { cls:=.type "tuple",dict:=dd,data:=.seq items n,slots:=sl }/\s.heap.get? b=some { cls:=.type "tuple",dict:=dd2,data:=.seq items2 n2,slots:=sl2 } /\
    IL A s lt items.toList items2.toList ds es/\R (.ok (.ret (.bool (ltL lt ds es)))) s) :=
 .of_wp fun prog w A R s h=>by
  obtain⟨hp,g,d,tk,os⟩:=s;obtain⟨hl,hb,hI,h⟩:=h;have f2:=AutoSeq1.sub_tuple_tuple
  wp_walk using BU hl,BU hb,wpAny_forIn_list _ (KL A ⟨hp,g,d,tk,os⟩ lt items.size items2.size R) _
  case turn =>
   rintro⟨y,x⟩ rest b s' ⟨vs,ws,ds',es',hb',rfl,hz,hi,hlen,hR⟩;cases hi with
   | left _=>rw[List.zip_nil_left]at hz;cases hz
   | right _=>rw[List.zip_nil_right]at hz;cases hz
   | @cons v w' vs' ws' d' e' ds2 es2 he hlt hi' =>
    rw[Bx]at hz;injection hz with hyx hrest;injection hyx with hy hx;subst hy hx;simp only[Xd]at hlen;refine Aa (he prog w _ _ ?_);by_cases hde:d'=e'
    ·subst hde;rw[Af rfl];rw[dP]at hR
     wp_walk
     exact⟨_,_,_,_,rfl,rfl,hrest,hi',by lia,hR⟩
    ·rw[Ag hde];rw[cz hde]at hR;have hri:=hlt hde prog w
     wp_walk using hri
     exact⟨_,rfl,by simpa using hR⟩
  case fin =>
   rintro⟨b1,b2⟩ s' ⟨vs,ws,ds',es',hb',rfl,hz,hi,hlen,hR⟩;simp only at hb';subst hb';have hv:ltL lt ds' es'=decide (items.size<items2.size):=by
    cases hi with
    | left hl2 =>
     cases es' with
     | nil =>
      simp only[Yg]at hlen hl2;exact(Ag (by lia)).symm
     | cons e0 e1 =>
      simp only[Yg,Xd]at hlen hl2;exact(Af (by lia)).symm
    | right hl2 =>
     cases ds' with
     | nil =>
      simp only[Yg]at hlen hl2;exact(Ag (by lia)).symm
     | cons e0 e1 =>
      simp only[Yg,Xd]at hlen hl2;exact(Ag (by lia)).symm
    | cons _ _ _ =>
     rw[Bx]at hz;cases hz
   rw[hv]at hR
   wp_walk
   exact⟨_,rfl,by simpa[Builtin.Tuple.tupleCompareSizes]using hR⟩
  case h =>
   exact⟨items.toList,items2.toList,ds,es,rfl,rfl,rfl,hI,by rw[Yd,Yd,Du],h⟩
def LtAt.tuples{A:Around}{s:Shared}{items items2:Array Value}(hl:s.heap.IsTuple l items)(hb:s.heap.IsTuple b items2)(hu:A.units<cLine)(hI:IL A s lt items.toList items2.toList ds es) :
  LtAt A s (.ref l) (.ref b) (ltL lt ds es):=fun prog w E Q h=>by
 obtain⟨⟨cls,dd,data,sl⟩,ho,hc,n,hd⟩:=id hl;obtain⟨⟨cls2,dd2,data2,sl2⟩,ho2,hc2,n2,hd2⟩:=id hb;simp only at hc hd hc2 hd2;subst hc hd hc2 hd2;exact richCompare_meets_room (op:=.Lt) ⟨_,ho,rfl⟩ ⟨_,ho2,rfl⟩ PySem.F.slot_tuple_lt PySem.F.entry_tuple_lt (PySem.F.args_tuple_lt_2 _ _) (qj l b items items2 n n2 dd dd2 sl sl2 lt ds es)
  ⟨ho,ho2,hI,show Value.bool (ltL lt ds es)≠Value.notImplemented/\Q (.bool (ltL lt ds es)) s from⟨(fun x=>nomatch x),h⟩⟩ hu
theorem Jj{A:Around}:∀{vs ws:List Value}{ds es:List D},vs.length=ds.length->ws.length=es.length ->
  (∀(i:Nat) v w d e,vs[i]?=some v->ws[i]?=some w->ds[i]?=some d->es[i]?=some e->(∀b,(b=true↔d=e)->EqAt A.in1 s v w b)/\(d≠e->LtAt A.in1 s v w (lt d e)))->IL A s lt vs ws ds es
 | [],_,[],_,_,h2,_=>.left h2
 | _::_,[],_::_,[],h1,_,_=>.right h1
 | v::vs,w::ws,d::ds,e::es,h1,h2,h=>by
  obtain⟨a1,a2⟩:=h 0 v w d e rfl rfl rfl rfl;exact .cons (a1 _ (by simp)) a2 (Jj (by simpa using h1) (by simpa using h2) fun i v' w' d' e' z1 z2 z3 z4=>h (i+1) v' w' d' e' (by simpa using z1) (by simpa using z2) (by simpa using z3) (by simpa using z4))
 | [],_,_::_,_,h1,_,_=>by simp at h1
 | _::_,_,[],_,h1,_,_=>by simp at h1
 | _::_,[],_::_,_::_,_,h2,_=>by simp at h2
 | _::_,_::_,_::_,[],_,h2,_=>by simp at h2
open Classical in
def ul{A:Around}{u v:Value}{d e:D}(h:EqAt A s u v (decide (d=e)))(b:Bool)(hb:b=true↔d=e):EqAt A s u v b:=by
 have:b=decide (d=e):=by rw[Zf,hb,decide_eq_true_eq]
 rw[this];exact h
theorem RH.ltAt:∀(n:Nat){s:Shared}{d1 d2:D}{u1 u2:Value}{A:Around},Pl n d1->Pl n d2->Cp n d1 d2->RH s.heap u1 d1->RH s.heap u2 d2->A.units+n<cLine->LtAt A s u1 u2 (ltN n d1 d2):=by
 intro n;induction n with
 | zero=>intro s d1 d2 u1 u2 A p;cases p
 | succ n ih =>
  intro s d1 d2 u1 u2 A p1 p2 cp r1 r2 hu;cases r1 with
  | non=>exact cp.elim
  | int i t =>
   cases r2 with
   | int j t'=>exact fun prog w E Q h=>HT.rcLt_int A s i t j t' prog w E Q h
   | _=>exact cp.elim
  | str x t =>
   cases r2 with
   | str y t'=>exact fun prog w E Q h=>(PyProof.Rows.lt_str h:wpAny (model prog w) A (compareOp .Lt (.str x t) (.str y t')) Q E s)
   | _=>exact cp.elim
  | lst _ _ _=>exact cp.elim
  | @tup a its ds t hl f =>
   cases r2 with
   | @tup b its' ds' t' hl' f' =>
    cases p1 with
    | tup p1 =>
    cases p2 with
    | tup p2 =>
    refine LtAt.tuples t t' (by lia) (Jj (by simpa using hl) (by simpa using hl') fun i v w d e z1 z2 z3 z4=>?_)
    have z1':its[i]?=some v:=by simpa using z1
    have z2':its'[i]?=some w:=by simpa using z2
    have m1:=p1 d (Yb z3);have m2:=p2 e (Yb z4);have hu':A.in1.units+n<cLine:=by show A.units+1+n<cLine;lia
    exact⟨ul (RH.eqAt n m1 m2 (f i v d z1' z3) (f' i w e z2' z4) hu').1,fun _=>ih m1 m2 (cp i d e z3 z4) (f i v d z1' z3) (f' i w e z2' z4) hu'⟩
   | _=>exact cp.elim
end VF
namespace VF
open PySem L2 PyProof.Rows PySem.SeqAt
def um(A:Around)(s:Shared)(fl:Bool)(u v:Value)(c:Bool):Prop:=∀(prog:Program)(w:World)(E:Value->Shared->Prop)(Q:Bool->Shared->Prop),Q c s->wpAny (model prog w) A (oneLt' fl u v) Q E s
open Classical in
inductive IK(A:Around)(s:Shared)(b:Bool)(lt:D->D->Bool):Nat->List Value->List Value->List D->List D->Prop where
 | left {i:Nat} {ws:List Value} {es:List D}:ws.length=es.length->IK A s b lt i [] ws [] es
 | right {i:Nat} {vs:List Value} {ds:List D}:vs.length=ds.length->IK A s b lt i vs [] ds []
 | cons {i:Nat} {v w:Value} {vs ws:List Value} {d e:D} {ds es:List D}:EqAt A s v w (decide (d=e))->(d≠e->um A s (b&&i == 0) v w (lt d e))->IK A s b lt (i+1) vs ws ds es->IK A s b lt i (v::vs) (w::ws) (d::ds) (e::es)
section
variable {prog:Program}{w:World}{A:Around}{E:Value->Shared->Prop}{s:Shared}
def Fb(h:LtAt A s u v c):um A s false u v c:=fun prog w E Q q=>by
 rw[oneLt'_eq];dsimp only;rw[Ak Bool.noConfusion];exact Aa (h prog w _ _ (Ay q))
theorem xF(fl:Bool):um A s fl (.int a t) (.int b u) (decide (a<b)):=fun prog w E Q q=>by
 cases fl with
 | true=>exact oneLt_int q
 | false=>exact Fb (fun prog w E Q h=>HT.rcLt_int A s a t b u prog w E Q h) prog w E Q q
theorem xG{a b:Str}(fl:Bool):um A s fl (.str a t) (.str b u) (decide (a.cps.toList<b.cps.toList)):=fun prog w E Q q=>by
 cases fl with
 | true=>exact oneLt_str q
 | false=>exact Fb (fun prog w E Q h=>(PyProof.Rows.lt_str h:wpAny (model prog w) A (compareOp .Lt (.str a t) (.str b u)) Q E s)) prog w E Q q
inductive KI(A:Around)(s:Shared)(b:Bool)(lt:D->D->Bool)(n m:Nat)(Q:Bool->Shared->Prop)(rest:List ((Value×Value)×Nat))(r:Option Bool×Unit)(s':Shared):Prop
 | mk (i:Nat) (vs ws:List Value) (ds' es':List D) (e1:s'=s) (e2:r=(none,())) (hz:rest=(vs.zip ws).zipIdx i) (hi:IK A s b lt i vs ws ds' es') (hlen:vs.length+m=ws.length+n) (hR:Q (ltL lt ds' es') s)
open Classical in
def Hy{xs ys:Array Value}(hl:s.heap.IsTuple l xs)(hr:s.heap.IsTuple r ys)(hI:IK A s b lt 0 xs.toList ys.toList ds es)(q:Q (ltL lt ds es) s) :
  wpAny (model prog w) A (keyLt' (tuples' b) (.ref l) (.ref r)) Q E s:=by
 obtain⟨o1,g1,_,n1,d1⟩:=hl;obtain⟨o2,g2,_,n2,d2⟩:=hr;refine Aa (Br g1 d1 ?_);refine Aa (Br g2 d2 ?_);refine Aa (wpAny_forIn_list _ (KI A s b lt xs.size ys.size Q) _ ?_ ?_ _ _ ?_)
 ·rintro⟨⟨y,x⟩,j⟩ rest r s' ⟨i,vs,ws,ds',es',rfl,rfl,hz,hi,hlen,hR⟩;cases hi with
  | left _=>rw[List.zip_nil_left]at hz;cases hz
  | right _=>rw[List.zip_nil_right]at hz;cases hz
  | @cons _ v w' vs' ws' d' e' ds2 es2 he hlt hi' =>
   rw[Bx,Bg]at hz;injection hz with hyx hrest;injection hyx with hy hj;injection hy with hy hx;subst hy hx hj;simp only[Xd]at hlen;dsimp only;refine Aa (he prog w _ _ ?_);by_cases hde:d'=e'
   ·subst hde;rw[Af rfl];rw[dP]at hR;exact Ad ⟨_,_,_,_,_,rfl,rfl,hrest,hi',by lia,hR⟩
   ·rw[Ag hde];rw[cz hde]at hR;exact Aa (hlt hde prog w _ _ (Ad (Ad hR)))
 ·rintro r s' ⟨i,vs,ws,ds',es',rfl,rfl,hz,hi,hlen,hR⟩;have hv:ltL lt ds' es'=decide (xs.size<ys.size):=by
   cases hi with
   | left hl2 =>
    cases es' with
    | nil =>
     simp only[Yg]at hlen hl2;exact(Ag (by lia)).symm
    | cons e0 e1 =>
     simp only[Yg,Xd]at hlen hl2;exact(Af (by lia)).symm
   | right hl2 =>
    cases ds' with
    | nil =>
     simp only[Yg]at hlen hl2;exact(Ag (by lia)).symm
    | cons e0 e1 =>
     simp only[Yg,Xd]at hlen hl2;exact(Ag (by lia)).symm
   | cons _ _ _ =>
    rw[Bx,Bg]at hz;cases hz
  rw[hv]at hR;exact Ad hR
 ·exact⟨0,xs.toList,ys.toList,ds,es,rfl,rfl,rfl,hI,by rw[Yd,Yd,Du],q⟩
theorem Jk:∀{i:Nat}{vs ws:List Value}{ds es:List D},vs.length=ds.length->ws.length=es.length ->
  (∀(j:Nat) v w d e,vs[j]?=some v->ws[j]?=some w->ds[j]?=some d->es[j]?=some e->(∀c,(c=true↔d=e)->EqAt A s v w c)/\(d≠e->um A s (b&&(i+j) == 0) v w (lt d e)))->IK A s b lt i vs ws ds es
 | _,[],_,[],_,_,h2,_=>.left h2
 | _,_::_,[],_::_,[],h1,_,_=>.right h1
 | i,v::vs,w::ws,d::ds,e::es,h1,h2,h=>by
  obtain⟨a1,a2⟩:=h 0 v w d e rfl rfl rfl rfl;refine .cons (a1 _ (by simp)) a2 (Jk (by simpa using h1) (by simpa using h2) fun j v' w' d' e' z1 z2 z3 z4=>?_)
  have:=h (j+1) v' w' d' e' (by simpa using z1) (by simpa using z2) (by simpa using z3) (by simpa using z4)
  rwa [show i+(j+1)=i+1+j by lia]at this
 | _,[],_,_::_,_,h1,_,_=>by simp at h1
 | _,_::_,_,[],_,h1,_,_=>by simp at h1
 | _,_::_,[],_::_,_::_,_,h2,_=>by simp at h2
 | _,_::_,_::_,_::_,[],_,h2,_=>by simp at h2
def K9(d:D):Prop:=match d with
 | .tup (.int _::_)=>True
 | _=>False
def La(d:D):Prop:=match d with
 | .tup (.str _::_)=>True
 | _=>False
theorem xH(h:K9 d):∃i r,d=.tup (.int i::r):=by
 cases d with
 | tup l =>
  cases l with
  | nil=>exact h.elim
  | cons x r =>
   cases x with
   | int i=>exact⟨_,_,rfl⟩
   | _=>exact h.elim
 | _=>exact h.elim
theorem xI(h:La d):∃i r,d=.tup (.str i::r):=by
 cases d with
 | tup l =>
  cases l with
  | nil=>exact h.elim
  | cons x r =>
   cases x with
   | str i=>exact⟨_,_,rfl⟩
   | _=>exact h.elim
 | _=>exact h.elim
def Fc(p1:Pl (n+1) d1)(p2:Pl (n+1) d2)(cp:Cp (n+1) d1 d2)(r1:RH s.heap u1 d1)(r2:RH s.heap u2 d2)(hu:A.units+(n+1)<cLine)
  (ht:∃xs,d1=.tup xs)(hb:b=true->(K9 d1/\K9 d2)∨(La d1/\La d2))(q:Q (ltN (n+1) d1 d2) s):wpAny (model prog w) A (keyLt' (tuples' b) u1 u2) Q E s:=by
 obtain⟨xs,rfl⟩:=ht;cases r1 with
 | @tup a its ds t hl f =>
  cases r2 with
  | @tup a2 its' ds' t' hl' f' =>
   cases p1 with
   | tup p1 =>
   cases p2 with
   | tup p2 =>
   refine Hy (lt:=ltN n) (ds:=xs) (es:=ds') t t' (Jk (by simpa using hl) (by simpa using hl') fun j v w' d e z1 z2 z3 z4=>?_) q
   have z1':its[j]?=some v:=by simpa using z1
   have z2':its'[j]?=some w':=by simpa using z2
   have m1:=p1 d (Yb z3);have m2:=p2 e (Yb z4);have k1:=f j v d z1' z3;have k2:=f' j w' e z2' z4;have c1:=cp j d e z3 z4;refine⟨ul (RH.eqAt n m1 m2 k1 k2 (by lia)).1,fun _=>?_⟩
   cases hfl:(b&&(0+j) == 0) with
   | false=>exact Fb (RH.ltAt n m1 m2 c1 k1 k2 (by lia))
   | true =>
    rw[Xh]at hfl;have hj:j=0:=by have:=Ca hfl.2;lia
    subst hj;rcases hb hfl.1 with⟨g1,g2⟩|⟨g1,g2⟩
    ·obtain⟨i,r,e1⟩:=xH g1;obtain⟨i2,r2,e2⟩:=xH g2;cases e1;cases e2;cases z3;cases z4;cases k1;cases k2;cases n with
     | zero=>cases m1
     | succ n=>exact xF true
    ·obtain⟨i,r,e1⟩:=xI g1;obtain⟨i2,r2,e2⟩:=xI g2;cases e1;cases e2;cases z3;cases z4;cases k1;cases k2;cases n with
     | zero=>cases m1
     | succ n=>exact xG true
  | _=>exact cp.elim
end
end VF
namespace VF
open PySem L2 PyProof.Rows
section
variable {M:Model}{prog:Program}{w:World}{A:Around}{E:Value->Shared->Prop}{s:Shared}
theorem xJ:∀(l:List α),(∀v∈l,∀Q:β->Shared->Prop,Q (g v) s->wpAny M A (f v) Q E s)->∀Q:List β->Shared->Prop,Q (l.map g) s->wpAny M A (l.mapM f) Q E s
 | [],_,Q,q=>by rw[List.mapM_nil];exact Ad q
 | v::l,h,Q,q=>by
  rw[List.mapM_cons];exact Aa (h v Wb _ (Aa (xJ l (fun u hu=>h u (Vb _ hu)) _ (Ad q))))
def xK{l:List α}(h:∀v∈l,∀Q:β->Shared->Prop,Q (g v) s->wpAny M A (f v) Q E s)(q:Q (l.map g).toArray s):wpAny M A (l.toArray.mapM f) Q E s:=by
 rw[List.mapM_toArray,map_eq_pure_bind];exact Aa (xJ l h _ (Ad q))
def tyD:D->String
 | .int _=>"int"
 | .str _=>"str"
 | .tup _=>"tuple"
 | _=>"list"
theorem RH.ty(r:RH s.heap u d)(h:d≠.non):s.TypeIs u (tyD d):=by
 cases r with
 | non=>exact absurd rfl h
 | int i t=>exact typeIs_int s i t
 | str x t=>exact C6 s x t
 | tup t _ _=>obtain⟨o,h1,h2,_⟩:=t;exact⟨o,h1,h2⟩
 | lst t _ _=>obtain⟨o,h1,h2,_⟩:=t;exact⟨o,h1,h2⟩
def Fd{us:List Value}{ds:List D}(hne:us≠[])(hl:us.length=ds.length)(r:∀(i:Nat) u d,us[i]?=some u->ds[i]?=some d->RH s.heap u d/\d≠.non/\tyD d=T)(q:Q (some (.type T)) s) :
  wpAny M A (oneTypeOnly' us.toArray) Q E s:=by
 rw[oneTypeOnly'_eq];refine Aa (xK (g:=fun _=>Value.type T) (fun v hv Q q=>?_) ?_)
 ·obtain⟨i,hi,rfl⟩:=Xm.mp hv;obtain⟨r1,r2,r3⟩:=r i us[i] ds[i] (Za hi) (Za (by lia))
  exact AR (r3 ▸ r1.ty r2) q
 ·cases us with
  | nil=>exact absurd rfl hne
  | cons u us =>
   have h0:(List.map (fun _=>Value.type T) (u::us)).toArray[0]?=some (Value.type T):=by simp
   rw[h0];have hall:((List.map (fun _=>Value.type T) (u::us)).toArray.all fun x=>x == Value.type T)=true:=by
    simp only[List.all_toArray,Dy,Xk];intro _ _;exact beq_self_eq_true _
   dsimp only;rw[hall,Ae rfl];exact Ad q
def Fe(r:RH s.heap u d)(h:d≠.non)(ht:tyD d≠"tuple")(q:Q none s):wpAny M A (firstOfTuple' u) Q E s:=by
 refine Aa (AR (r.ty h) ?_);rw[Ae (by rw[bne_iff_ne];intro e;injection e with e;exact ht e)]
 exact Ad q
def yU{its:List Value}(t:s.heap.IsTuple a its.toArray)(e:its=u::us)(q:Q (some u) s):wpAny M A (firstOfTuple' (.ref a)) Q E s:=by
 obtain⟨o,h1,h2,n,h3⟩:=t;refine Aa (AR (T:="tuple") ⟨o,h1,h2⟩ ?_);rw[Ak (by rw[bne_iff_ne];intro z;exact z rfl)]
 refine Aa (Br h1 h3 ?_);subst e;exact Ad q
inductive Kd:List D->SortKind->Prop where
 | sc {ds:List D} {T:String}:T≠"tuple"->(∀d∈ds,d≠.non/\tyD d=T)->Kd ds oneType'
 | tp {ds:List D} {T:String}:(∀d∈ds,∃x xs,d=.tup (x::xs)/\x≠.non/\tyD x=T)->Kd ds (tuples' (T != "tuple"))
def MJ{us:List Value}{ds:List D}(hne:us≠[])(hl:us.length=ds.length)(r:∀(i:Nat) u d,us[i]?=some u->ds[i]?=some d->RH s.heap u d)(hk:Kd ds κ)(q:Q κ s) :
  wpAny M A (keyKind' us.toArray) Q E s:=by
 rw[keyKind'_eq];cases hk with
 | @sc T hT h =>
  refine Aa (xK (g:=fun _=>none) (fun v hv Q q=>?_) ?_)
  ·obtain⟨i,hi,rfl⟩:=Xm.mp hv;have hd:=h ds[i] (Bh _);exact Fe (r i _ _ (Za hi) (Za (by lia))) hd.1 (by rw[hd.2];exact hT) q
  ·cases us with
   | nil=>exact absurd rfl hne
   | cons u us =>
    rw[Ak (by simp),Ak (by simp)]
    refine Aa (Fd (T:=T) hne hl (fun i u d e1 e2=>⟨r i u d e1 e2,h d (Yb e2)⟩) ?_);exact Ad q
 | @tp T h =>
  have hx:∀(i:Nat)(hi:i<us.length),∃u0 x xs,(∀Q:Option Value->Shared->Prop,Q (some u0) s->wpAny M A (firstOfTuple' us[i]) Q E s)/\ds[i]?=some (.tup (x::xs))/\RH s.heap u0 x/\x≠.non/\tyD x=T:=fun i hi=>by
   have hd:i<ds.length:=by lia
   obtain⟨x,xs,e,h1,h2⟩:=h ds[i] (Bh _);have rr:=r i us[i] ds[i] (Za hi) (Za hd);rw[e]at rr;generalize us[i]=v at rr;cases rr with
   | @tup a its _ t hl f =>
    cases its with
    | nil=>simp at hl
    | cons u0 ur=>exact⟨u0,x,xs,fun Q q=>yU t rfl q,by rw[Za hd,e],f 0 u0 x rfl rfl,h1,h2⟩
  have hf:∃fs:List Value,fs.length=us.length/\(∀Q:Array (Option Value)->Shared->Prop,Q (fs.map some).toArray s->wpAny M A (us.toArray.mapM firstOfTuple') Q E s)/\∀(i:Nat) u,fs[i]?=some u->∃x,RH s.heap u x/\x≠.non/\tyD x=T:=by
   have:∀l:List Value,(∀v∈l,∃u0 x,(∀Q:Option Value->Shared->Prop,Q (some u0) s->wpAny M A (firstOfTuple' v) Q E s)/\RH s.heap u0 x/\x≠.non/\tyD x=T) ->
     ∃fs:List Value,fs.length=l.length/\(∀Q:List (Option Value)->Shared->Prop,Q (fs.map some) s->wpAny M A (l.mapM firstOfTuple') Q E s)/\∀(i:Nat) u,fs[i]?=some u->∃x,RH s.heap u x/\x≠.non/\tyD x=T:=fun l=>by
    induction l with
    | nil=>exact fun _=>⟨[],rfl,fun Q q=>by rw[List.mapM_nil];exact Ad q,fun i u e=>by simp at e⟩
    | cons v l ih =>
     intro hv;obtain⟨fs,f1,f2,f3⟩:=ih fun u hu=>hv u (Vb _ hu);obtain⟨u0,x,g1,g2⟩:=hv v Wb;refine⟨u0::fs,by simp[f1],fun Q q=>?_,fun i u e=>?_⟩
     ·rw[List.mapM_cons];exact Aa (g1 _ (Aa (f2 _ (Ad q))))
     ·cases i with
      | zero =>
       have:u0=u:=by simpa using e
       subst this;exact⟨x,g2⟩
      | succ i=>exact f3 i u (by simpa using e)
   obtain⟨fs,f1,f2,f3⟩:=this us fun v hv=>by
    obtain⟨i,hi,rfl⟩:=Xm.mp hv;obtain⟨u0,x,xs,a1,_,a2⟩:=hx i hi;exact⟨u0,x,a1,a2⟩
   refine⟨fs,f1,fun Q q=>?_,f3⟩;rw[List.mapM_toArray,map_eq_pure_bind];exact Aa (f2 _ (Ad q))
  obtain⟨fs,f1,f2,f3⟩:=hf;refine Aa (f2 _ ?_);rw[Ae (by simp)]
  refine Aa (AH ?_);have e1:(fs.map some).toArray.filterMap id=fs.toArray:=by simp
  rw[e1];have hne':fs≠[]:=fun z=>by
   rw[z]at f1;exact hne (Wi f1.symm)
  obtain⟨xs,hxs,hxx⟩:∃xs:List D,fs.length=xs.length/\∀(i:Nat) u d,fs[i]?=some u->xs[i]?=some d->RH s.heap u d/\d≠.non/\tyD d=T:=by
   have:∀l:List Value,(∀(i:Nat) u,l[i]?=some u->∃x,RH s.heap u x/\x≠.non/\tyD x=T)->∃xs:List D,l.length=xs.length/\∀(i:Nat) u d,l[i]?=some u->xs[i]?=some d->RH s.heap u d/\d≠.non/\tyD d=T:=fun l=>by
    induction l with
    | nil=>exact fun _=>⟨[],rfl,fun i u d e=>by simp at e⟩
    | cons v l ih =>
     intro hv;obtain⟨xs,x1,x2⟩:=ih fun i u e=>hv (i+1) u (by simpa using e)
     obtain⟨x,hx⟩:=hv 0 v rfl;refine⟨x::xs,by simp[x1],fun i u d e1 e2=>?_⟩
     cases i with
     | zero =>
      have a1:v=u:=by simpa using e1
      have a2:x=d:=by simpa using e2
      subst a1 a2;exact hx
     | succ i=>exact x2 i u d (by simpa using e1) (by simpa using e2)
   exact this fs f3
  refine Aa (Fd (T:=T) hne' hxs hxx ?_);have e2:(Option.any (fun x=>x != Value.type "tuple") (some (Value.type T)))=(T != "tuple"):=by
   show(Value.type T != Value.type "tuple")=_;rw[Zf,bne_iff_ne,bne_iff_ne];constructor
   ·exact fun h e=>h (by rw[e])
   ·exact fun h e=>h (by injection e)
  rw[e2];exact Ad q
end
end VF
namespace VF
open PySem L2 PyProof.Rows TS
section
variable {prog:Program}{w:World}{A:Around}{E:Value->Shared->Prop}{s:Shared}
theorem RH.kept{h h':Heap}(k:∀b o,h.get? b=some o->h'.get? b=some o)(r:RH h u d):RH h' u d:=by
 induction r with
 | non=>exact .non
 | int i t=>exact .int i t
 | str x t=>exact .str x t
 | tup t hl _ ih=>obtain⟨o,h1,h2⟩:=t;exact .tup ⟨o,k _ o h1,h2⟩ hl ih
 | lst t hl _ ih=>obtain⟨o,h1,h2⟩:=t;exact .lst ⟨o,k _ o h1,h2⟩ hl ih
def dk(ds:List D)(g:Nat):D:=ds.getD g (ds.headD .non)
def qQ(h:ds[g]?=some d):dk ds g=d:=by
 unfold dk;rw[Yf,h];rfl
theorem i5(h:ds≠[])(g:Nat):dk ds g∈ds:=by
 cases e:ds[g]? with
 | some d=>rw[qQ e];exact Yb e
 | none =>
  cases ds with
  | nil=>exact absurd rfl h
  | cons x xs =>
   unfold dk;rw[Yf,e];simp
noncomputable def cD(ds:List D)(g h:Nat):Bool:=ltN 40 (dk ds g) (dk ds h)
theorem Ff(h:Cp n d e)(ht:tyD d≠"tuple"):(∃i j,d=.int i/\e=.int j)∨∃x y,d=.str x/\e=.str y:=by
 cases n with
 | zero=>exact h.elim
 | succ n =>
  cases d with
  | int i =>
   cases e with
   | int j=>exact .inl ⟨i,j,rfl,rfl⟩
   | _=>exact h.elim
  | str x =>
   cases e with
   | str y=>exact .inr ⟨x,y,rfl,rfl⟩
   | _=>exact h.elim
  | tup xs=>exact absurd rfl ht
  | _=>exact h.elim
def Hz{us vs:List Value}{ds:List D}(hl:us.length=ds.length)(r:∀(i:Nat) u d,us[i]?=some u->ds[i]?=some d->RH s.heap u d)(pl:∀d∈ds,Pl 40 d)(ca:CA 40 ds)(hk:Kd ds κ)(hu:A.units+40<cLine) :
  Cm prog w A s κ (fun g=>(us.getD g .none,vs.getD g .none)) us.length (cD ds):=by
 refine⟨fun E Q g h hg hh q=>?_,fun g=>n8 _ _,fun g h i h1 h2=>?_,fun g h i h1=>?_⟩
 ·have eg:us[g]?=some us[g]:=Za hg;have eh:us[h]?=some us[h]:=Za hh;have dg:ds[g]?=some ds[g]:=Za (by lia)
  have dh:ds[h]?=some ds[h]:=Za (by lia)
  have q':Q (ltN 40 ds[g] ds[h]) s:=by unfold cD at q;rw[qQ dg,qQ dh]at q;exact q
  have rg:=r g _ _ eg dg;have rh:=r h _ _ eh dh;have mg:=Yb dg;have mh:=Yb dh;have cp:=ca _ mg _ mh;show wpAny (model prog w) A (keyLt' κ (us.getD g .none) (us.getD h .none)) Q E s;rw[Yf,Yf,eg,eh];show wpAny (model prog w) A (keyLt' κ us[g] us[h]) Q E s;generalize us[g]=ug at rg;generalize us[h]=uh at rh;generalize ds[g]=a at *;generalize ds[h]=b at *;cases hk with
  | @sc T hT hd =>
   rw[keyLt'_oneType];rcases Ff cp (by rw[(hd a mg).2];exact hT) with⟨i,j,rfl,rfl⟩|⟨x,y,rfl,rfl⟩
   ·cases rg;cases rh;exact xF true prog w E Q q'
   ·cases rg;cases rh;exact xG true prog w E Q q'
  | @tp T hd =>
   obtain⟨x,xs,rfl,nx,tx⟩:=hd a mg;obtain⟨y,ys,rfl,ny,ty⟩:=hd b mh;refine Fc (n:=39) (pl _ mg) (pl _ mh) cp rg rh (by lia) ⟨_,rfl⟩ (fun hb=>?_) q'
   have hT:T≠"tuple":=by rwa [bne_iff_ne]at hb
   rcases Ff (cp 0 x y rfl rfl) (by rw[tx];exact hT) with⟨i,j,rfl,rfl⟩|⟨x,y,rfl,rfl⟩
   ·exact .inl ⟨trivial,trivial⟩
   ·exact .inr ⟨trivial,trivial⟩
 ·by_cases hne:ds=[]
  ·subst hne;have:cD [] g h=false:=n8 40 .non;rw[this]at h1;cases h1
  ·exact(mK 40).tra (ca _ (i5 hne g) _ (i5 hne h)) (ca _ (i5 hne h) _ (i5 hne i)) (ca _ (i5 hne g) _ (i5 hne i)) h1 h2
 ·by_cases hne:ds=[]
  ·subst hne;have:cD [] g i=false:=n8 40 .non;rw[this]at h1;cases h1
  ·exact ca.neg (i5 hne g) (i5 hne h) (i5 hne i) h1
def dG(vs:List Value)(γ:Array Nat):Array Value:=γ.map fun g=>vs.getD g .none
def qR{vs : List Value}{ds : List D}(ho : s.heap.get? a = some (seqObj "list" vs.toArray n))(hz : vs.length ≤ sizeLine)
    (hl : vs.length = ds.length)(r : ∀ (i : Nat) u d, vs[i]? = some u → ds[i]? = some d → RH (((s.heap.update a (Obj.mapSeq fun _ => #[])).push (seqObj "tuple" vs.toArray 0)).push (seqObj "list" #[] 0)) u d)
    (pl : ∀ d ∈ ds, Pl 40 d) (ca : CA 40 ds) (hk : Kd ds κ) (hu : A.units + 40 < cLine)
    (fin : ∀ γ : Array Nat, γ.Perm (Array.range vs.length) → Sg (cD ds) γ 0 vs.length → P (.done (.ret .none)) { s with heap := sortedHeap s.heap a vs (dG vs γ) }) :
    wpAny (model prog w) A (Builtin.«list.sort» ⟨[.ref a], []⟩) P E s := by
  rw [list_sort_plain];have small := Aj ho;refine Aa (Br ho rfl (Aa (Ch ho rfl ?_)));obtain ⟨ep, hE⟩ : ∃ ep, (s.heap.update a (Obj.mapSeq fun _ => #[])).get? a = some (seqObj "list" #[] ep) := ⟨_, get?_update_seq ho (fun _ => #[])⟩;refine Aa (seqEpoch_at hE rfl (Aa (wpAny_newTuple (Aa (Cg (AB ?_))))));have hE2 : (((s.heap.update a (Obj.mapSeq fun _ => #[])).push (seqObj "tuple" vs.toArray 0)).push (seqObj "list" #[] 0)).get? a = some (seqObj "list" #[] ep) :=
    Ac _ (Ac _ hE)
  generalize hH : ((s.heap.update a (Obj.mapSeq fun _ => #[])).push (seqObj "tuple" vs.toArray 0)).push (seqObj "list" #[] 0) = h6 at r hE2;show wpAny (model prog w) A _ P E { s with heap := h6 };dsimp only;have hsz : vs.toArray.size = vs.length := by simp
  have zs : ∀ γ : Array Nat, γ.Perm (Array.range vs.length) → (dG vs γ).size ≤ sizeLine + 1 := fun γ p => by
    unfold dG;rw [AE, p.size_eq, Bi]; lia
  have done : ∀ γ : Array Nat, γ.Perm (Array.range vs.length) → Sg (cD ds) γ 0 vs.length → P (.done (.ret .none)) { s with heap := h6.update a (Obj.mapSeq fun _ => dG vs γ) } := fun γ p g => by
    have := fin γ p g;unfold sortedHeap at this;rw [← hH]; exact this
  have e0 : vs.toArray.zip vs.toArray = (Array.range vs.length).map fun g => (vs.getD g .none, vs.getD g .none) := by
    apply Array.ext_getElem?
    intro i;rw [Array.getElem?_map, Array.getElem?_range];by_cases hi : i < vs.length
    · rw [Ae hi]; simp [hi]
    · rw [Ak hi]; simp [hi]
  by_cases few : vs.toArray.size < 2
  · rw [Ae few, Ae few]
    refine Aa (Ad ?_);rw [StateT.run_pure];refine Aa (Ad ?_);dsimp only;have em : (vs.toArray.zip vs.toArray).map (fun x => x.2) = dG vs (Array.range vs.length) := by
      rw [e0, Array.map_map]; rfl
    refine Aa (seqEpoch_at hE2 rfl (Aa (Ch hE2 rfl ?_ (hsz2 := ?_))))
    · simp only [bne_self_eq_false, CC, if_false]
      refine Ad ?_;rw [em];exact done _ (Array.Perm.refl _) fun i j g h z1 z2 z3 => by lia
    · rw [em]; exact zs _ (Array.Perm.refl _)
  · rw [Ak few, Ak few]
    have hne : vs ≠ [] := fun z => few (by rw [z]; decide)
    refine Aa (MJ (s := { s with heap := h6 }) hne hl r hk ?_);have C : Cm prog w A { s with heap := h6 } κ (fun g => (vs.getD g .none, vs.getD g .none)) vs.length (cD ds) := Hz (s := { s with heap := h6 }) hl r pl ca hk hu
    refine Aa (AA (Hx (st := SortSt.mk' κ (vs.toArray.zip vs.toArray) #[] 7 none) C (γ := Array.range vs.length) ⟨e0, rfl, rfl, Array.Perm.refl _⟩ rfl (fun i _ z => by rw [Array.getElem?_range, Ae z])
      (Q := fun _ st' => ∃ γ, Rp κ (fun g => (vs.getD g .none, vs.getD g .none)) vs.length st' γ ∧ Sg (cD ds) γ 0 vs.length) fun st' γ' R g => ⟨γ', R, g⟩) ?_ fun _ _ e => e)
    rintro ⟨⟨⟩, st'⟩ s' ⟨rfl, γ, R, g⟩;dsimp only;have em : (arrOf st').map (fun x => x.2) = dG vs γ := by
      rw [R.arr, Array.map_map]; rfl
    refine Aa (seqEpoch_at hE2 rfl (Aa (Ch hE2 rfl ?_ (hsz2 := ?_))))
    · rw [show failedOf st' = none from R.fine]
      simp only [bne_self_eq_false, CC, if_false];refine Ad ?_;show P (.done (.ret .none)) { s with heap := h6.update a (Obj.mapSeq fun _ => (arrOf st').map (fun x => x.2)) };rw [em];exact done γ R.perm g
    · show ((arrOf st').map (fun x => x.2)).size ≤ sizeLine + 1
      rw [em]; exact zs γ R.perm
end
end VF
namespace VF
open PySem L2 PyProof.Rows TS
section
variable {prog:Program}{w:World}{A:Around}{E:Value->Shared->Prop}{s:Shared}
def uo{vs:List Value}(hl:s.heap.IsList l vs.toArray∨s.heap.IsTuple l vs.toArray)(hz:vs.length<=sizeLine)
  (q:Q vs { s with heap:=(s.heap.push (seqObj "list" #[] 0)).update s.heap.objs.size (Obj.mapSeq (·++vs.toArray)) }):wpAny (model prog w) A (collect (.ref l)) Q E s:=by
 rcases hl with hl|hl
 ·exact collect_list hl q hz
 obtain⟨o,ho,hc,m,hd⟩:=id hl;have kept:=Ac (seqObj "list" #[] 0) ho;have new:(s.heap.push (seqObj "list" #[] 0)).get? s.heap.objs.size=some (seqObj "list" #[] 0):=Ai _ rfl;unfold collect;refine Aa (wpAny_runValue (codeAny_builtin entry_proto_collect' ?_));refine Aa (Cg (Ad ⟨Code.quiet_builtin _ (by decide +kernel),codeAny_builtin entry_list_iadd' ?_⟩))
 show wpAny _ _ (Builtin.List.listExtendWith (.ref s.heap.objs.size) (.ref l) (.ref s.heap.objs.size)) _ _ { s with heap:=s.heap.push (seqObj "list" #[] 0) };unfold Builtin.List.listExtendWith;refine Aa (AR (T:="tuple") ⟨o,kept,hc⟩ ?_);rw[Ae (by rw[show(Value.type "tuple" == Value.type "tuple")=true from rfl,Bool.or_true])]
 refine Aa (Br kept hd (Aa (Br new rfl ?_)));rw[Ak (by simp)]
 have room:((#[]:Array Value)++vs.toArray).size<=sizeLine+1:=by
  rw[Array.size_append,Xb];simp;lia
 refine Aa (Ch new rfl ?_ (Qk _) room);refine Ad ?_;have at':=get?_update_seq new (fun x=>x++vs.toArray);refine Aa (wpAny_load at' ?_);show wpAny _ _ (pure ((#[]:Array Value)++vs.toArray).toList) Q E _;have e:((#[]:Array Value)++vs.toArray).toList=vs:=by simp
 rw[e];exact Ad q
def uq{vs:List Value}{ds:List D}(hl:s.heap.IsList l vs.toArray∨s.heap.IsTuple l vs.toArray)(hz:vs.length<=sizeLine)
  (hn:vs.length=ds.length)(r:∀(i:Nat) u d,vs[i]?=some u->ds[i]?=some d->RH s.heap u d)(pl:∀d∈ds,Pl 40 d)(ca:CA 40 ds)(hk:Kd ds κ)(hu:A.units+64<cLine)
  (fin:∀γ:Array Nat,γ.Perm (Array.range vs.length)->Sg (cD ds) γ 0 vs.length->Q (.ref (s.heap.objs.size+1)) { s with heap:=sortedAll s.heap vs (dG vs γ) }) :
  wpAny (model prog w) A (call (.builtin "sorted") [.ref l]) Q E s:=by
 refine Dh kind_sorted plain_sorted entry_sorted (args_sorted1 _) ?_;refine Aa (m:=checkCount "sorted" 1 1 _) (Ad (Aa (uo hl hz (Aa (Cg ?_)))));generalize hg:(s.heap.push (seqObj "list" #[] 0)).update s.heap.objs.size (Obj.mapSeq (·++vs.toArray))=h1;have z1:h1.objs.size=s.heap.objs.size+1:=by rw[← hg,Heap.size_update,size_push']
 have old:∀b o,s.heap.get? b=some o->h1.get? b=some o:=fun b o e=>by
  rw[← hg];exact(Ce _ _ _ _ (Vh (Aj e))).trans (Ac _ e)
 have mine:(h1.push (seqObj "list" vs.toArray 0)).get? (s.heap.objs.size+1)=some (seqObj "list" vs.toArray 0):=by rw[← z1];exact Ai _ rfl
 show wpAny _ _ _ _ _ { s with heap:=h1.push (seqObj "list" vs.toArray 0) };rw[z1];refine Aa (AB (As slot_list_sort ⟨_,mine,rfl⟩ entry_list_sort ?_ (args_list_sort _)));refine qR (s:={ s with heap:=h1.push (seqObj "list" vs.toArray 0) }) mine hz hn (fun i u d e1 e2=>(r i u d e1 e2).kept fun b o e=>?_) pl ca hk (by show A.units+1+1+40<cLine;lia) fun γ p g=>?_
 ·have hb:=Aj e;refine Ac _ (Ac _ ?_);have hne:b≠s.heap.objs.size+1:=Vh (BC hb);exact(Ce _ _ _ _ hne).trans (Ac _ (old b o e))
 ·refine⟨_,rfl,Ad ⟨_,rfl,?_⟩⟩;have:=fin γ p g;unfold sortedAll at this;rw[hg]at this;exact this
end
def Fg{ds:List D}{γ:Array Nat}(ca:CA 40 ds)(p:γ.Perm (Array.range ds.length))(g:Sg (cD ds) γ 0 ds.length):(γ.toList.map (dk ds))=dX 40 ds:=by
 have hsz:γ.size=ds.length:=by rw[p.size_eq,Bi]
 refine gF ca ?_ ?_
 ·have p1:(γ.toList.map (dk ds)).Perm ((List.range ds.length).map (dk ds)):=by
   have:=Array.perm_iff_toList_perm.mp p;rw[CD]at this;exact this.map _
  have e:(List.range ds.length).map (dk ds)=ds:=by
   refine BN (by simp) fun i h1 h2=>?_
   rw[C0,List.getElem_range,qQ (Za h2)]
  rwa [e]at p1
 ·unfold Srt;rw[CM,Zk];intro i j hi hj hij;rw[Yd]at hi hj;have b:=g i j γ.toList[i] γ.toList[j] (Qk _) hij (by lia) (by rw[← Yk];exact Za _) (by rw[← Yk];exact Za _)
  rcases b with b|b
  ·exact sA _ _ _ b
  ·exact b.1
section
variable {X:Cx}{K:Ab}{Y:AS}{H:Hp}
def Fh(K:Ab):List V->Hp->VK->Prop:=fun xs H Q=>∃(Y:AS)(v:V)(d:D)(ds:List D)(κ:SortKind),xs=[v]/\BA K Y H v d/\d.seq=some ds/\(∀x∈ds,Pl 40 x)/\CA 40 ds/\Kd ds κ /\
 ∀(p:Addr)(vs:List V),H p=none->El K Y H vs (dX 40 ds)->Q (.ref p) (upd H p (.lst vs))
def dB(h:X.K=K)(hr:Room n X.A):CallR X (.builtin "sorted") (Fh K):=by
 intro pins s σ H xs us Q I rv hh;obtain⟨Y,v,d,ds,κ,rfl,ba,hs,pl,ca,hk,q⟩:=hh;obtain⟨u,rfl,ru⟩:=vals1 rv;obtain⟨a,vs,rfl,sq,el⟩:=mD ba hs;cases ru;have main:∀its:List Value,Vals vs its->(s.heap.IsList a its.toArray∨s.heap.IsTuple a its.toArray)->vs.length<=sizeLine->wpAny (model X.prog X.w) X.A (call (.builtin "sorted") [.ref a]) (EP X pins σ Q) X.xe s:=fun its r t hz=>by
  have hn:its.length=ds.length:=r.length.symm.trans el.1;have rr:∀(i:Nat) u d,its[i]?=some u->ds[i]?=some d->RH s.heap u d:=fun i u d e1 e2=>by
   obtain⟨v,e3,rv⟩:=et r i u e1;exact(el.2 i v d e3 e2).rh (pl d (Yb e2)) I h rv
  have hz':its.length<=sizeLine:=by rw[← r.length];exact hz
  refine uq t hz' hn rr pl ca hk hr.units fun γ p g=>?_;rw[hn]at p g;obtain⟨e,he⟩:=sortedAll_at s.heap its (dG its γ);have hγ:∀g∈γ.toList,g<ds.length:=fun g hg=>by
   have:=(Array.perm_iff_toList_perm.mp p).mem_iff.mp hg;rw[CD]at this;exact Zl.mp this
  have eo:=Fg ca p g
  let ws:List V:=γ.toList.map fun g=>vs.getD g .non
  have vw:Vals ws (dG its γ).toList:=by
   have e2:(dG its γ).toList=γ.toList.map fun g=>its.getD g .none:=by unfold dG;simp
   rw[e2];have:∀l:List Nat,(∀g∈l,g<ds.length)->Vals (l.map fun g=>vs.getD g .non) (l.map fun g=>its.getD g .none):=fun l=>by
    induction l with
    | nil=>exact fun _=>.nil
    | cons g l ih =>
     intro hl;have hg:g<ds.length:=hl g Wb;have a1:its[g]?=some its[g]:=Za (by lia)
     obtain⟨v,e3,rv⟩:=et r g _ a1;refine .cons ?_ (ih fun x hx=>hl x (Vb _ hx));show RelV (vs.getD g .non) (its.getD g .none);rw[Yf,Yf,e3,a1];exact rv
   exact this _ hγ
  have elw:El K Y H ws (dX 40 ds):=by
   rw[← eo];refine⟨by simp[ws],fun i v d h1 h2=>?_⟩
   rw[We]at h1 h2;obtain⟨g1,k1,k2⟩:=Zg.mp h1;obtain⟨g2,k3,k4⟩:=Zg.mp h2;rw[k1]at k3;cases k3;have hg:g1<ds.length:=hγ g1 (Yb k1);have d1:ds[g1]?=some ds[g1]:=Za hg;obtain⟨v',e3,da⟩:=el.at d1;rw[qQ d1]at k4;rw[Yf,e3]at k2;subst k4;have:v'=v:=k2;subst this;exact da
  have hlw:ws.length=ds.length:=by
   show(γ.toList.map _).length=_;rw[Ya,Yd,p.size_eq,Bi]
  refine⟨.ref (s.heap.objs.size+1),upd H (s.heap.objs.size+1) (.lst ws),I.laid (t':=s.toks) (fun b o z=>sortedAll_old z) (Nat.le_succ _) ⟨by lia,(dG its γ).toList,e,vw,by simpa using he⟩,rfl,q _ ws (I.hok.fresh (Nat.le_succ _)) elw⟩
 rcases sq with sq|sq
 ·obtain⟨its,r,t,hz⟩:=I.list (h ▸ sq);exact main its r (.inl t.isList) hz
 ·obtain⟨its,r,t,hz⟩:=I.tuple (h ▸ sq);exact main its r (.inr t) hz
open Classical in
noncomputable def cZ:List D->Option Rz
 | [d]=>match d.seq with
  | some ds=>if (∀x∈ds,Pl 40 x)/\CA 40 ds/\∃κ,Kd ds κ then some (.lst (dX 40 ds),true) else none
  | none=>none
 | _=>none
set_option tactic.hygienic true in
theorem fk:RdCB K (Fh K) cZ:=by
 intro Y H xs ds z Q lv bs e q;cases bs with
 | nil=>cases e
 | @cons v vs d ds b1 bs =>
  cases bs with
  | cons _ _=>cases e
  | nil =>
   unfold cZ at e;dsimp only at e;split at e
   ·rename_i xs hs
    obtain⟨c,e⟩:=aT e;cases e;obtain⟨c1,c2,κ,c3⟩:=c;exact⟨Y,v,d,xs,κ,rfl,b1,hs,c1,c2,c3,fun p ws hp el=>q _ _ (br hp _) (iR el hp)⟩
   ·cases e
end
end VF
namespace VF22
open PySem PySem.Spec PyProof.Rows L2 VF
def Fi:D->Option Key
 | .int i=>some (.inl i)
 | .str x=>some (.inr x)
 | _=>none
def xL:List D->Option (List Key)
 | []=>some []
 | d::r=>(Fi d).bind fun k=>(xL r).bind fun ks=>some (k::ks)
section
variable {κ:Type}[DecidableEq κ]
def gG(kvs:List (κ×D))(k:κ):Option D:=(kvs.find? fun kv=>decide (kv.1=k)).map (·.2)
def ut(kvs:List (κ×D))(k:κ)(d:D):List (κ×D):=if (kvs.any fun kv=>decide (kv.1=k))=true then kvs.map (fun kv=>if kv.1=k then(kv.1,d) else kv) else kvs++[(k,d)]
def Go(R:V->D->Prop)(kvs:List (κ×V))(ds:List (κ×D)):Prop:=kvs.map (·.1)=ds.map (·.1)/\∀(i:Nat) v d,kvs[i]?=some v->ds[i]?=some d->R v.2 d.2
def Go.nil:Go R ([]:List (κ×V)) []:=⟨rfl,fun i v d h _=>by simp at h⟩
def Go.cons(h1:p.1=q.1)(h2:R p.2 q.2)(t:Go R kvs ds):Go R (p::kvs) (q::ds) :=
 ⟨by rw[Xe,Xe,h1,t.1],fun i v d a b=>by
  cases i with
  | zero=>cases a;cases b;exact h2
  | succ i=>exact t.2 i v d a b⟩
def Go.un(h:Go R (p::kvs) (q::ds)):p.1=q.1/\R p.2 q.2/\Go R kvs ds:=by
 obtain⟨h1,h2⟩:=h;rw[Xe,Xe]at h1;injection h1 with a b;exact⟨a,h2 0 p q rfl rfl,b,fun i v d x y=>h2 (i+1) v d x y⟩
theorem Go.look:∀{kvs:List (κ×V)}{ds:List (κ×D)}(k:κ),Go R kvs ds->(kC kvs k=none/\gG ds k=none)∨∃v d,kC kvs k=some v/\gG ds k=some d/\R v d
 | [],[],_,_=>.inl ⟨rfl,rfl⟩
 | [],_::_,_,h=>by have:=h.1;simp at this
 | _::_,[],_,h=>by have:=h.1;simp at this
 | p::ps,q::qs,k,h=>by
  obtain⟨h1,h2,h3⟩:=h.un;by_cases e:p.1=k
  ·refine .inr ⟨p.2,q.2,lF e,?_,h2⟩;simp[gG,Zm,h1.symm.trans e]
  ·have e':¬ q.1=k:=fun z=>e (h1.trans z);rw[lG e,show gG (q::qs) k=gG qs k by simp[gG,Zm,e']]
   exact h3.look k
theorem Go.any{kvs:List (κ×V)}{ds:List (κ×D)}(h:Go R kvs ds)(k:κ):(kvs.any fun kv=>decide (kv.1=k))=ds.any fun kv=>decide (kv.1=k):=by
 have a:∀l:List (κ×V),(l.any fun kv=>decide (kv.1=k))=(l.map (·.1)).any fun x=>decide (x=k):=fun l=>by rw[CQ];rfl
 rw[a,h.1,CQ];rfl
theorem Go.repl(k:κ)(r:R y d):∀{kvs:List (κ×V)}{ds:List (κ×D)},Go R kvs ds->Go R (kvs.map fun kv=>if kv.1=k then(kv.1,y) else kv) (ds.map fun kv=>if kv.1=k then(kv.1,d) else kv)
 | [],[],_=>Go.nil
 | [],_::_,h=>by have:=h.1;simp at this
 | _::_,[],h=>by have:=h.1;simp at this
 | p::ps,q::qs,h=>by
  obtain⟨h1,h2,h3⟩:=h.un;rw[Xe,Xe];by_cases e:p.1=k
  ·rw[Ae e,Ae (h1.symm.trans e)];exact Go.cons h1 r (h3.repl k r)
  ·rw[Ak e,Ak fun z=>e (h1.trans z)];exact Go.cons h1 h2 (h3.repl k r)
theorem Go.snoc(k:κ)(r:R y d):∀{kvs:List (κ×V)}{ds:List (κ×D)},Go R kvs ds->Go R (kvs++[(k,y)]) (ds++[(k,d)])
 | [],[],_=>Go.cons rfl r Go.nil
 | [],_::_,h=>by have:=h.1;simp at this
 | _::_,[],h=>by have:=h.1;simp at this
 | p::ps,q::qs,h=>by
  obtain⟨h1,h2,h3⟩:=h.un;exact Go.cons h1 h2 (h3.snoc k r)
def Go.put(k:κ)(h:Go R kvs ds)(r:R y d):Go R (putK kvs k y) (ut ds k d):=by
 unfold putK ut;rw[h.any k];split
 ·exact h.repl k r
 ·exact h.snoc k r
def Go.len{kvs:List (κ×V)}{ds:List (κ×D)}(h:Go R kvs ds):kvs.length=ds.length:=by
 have:=congrArg List.length h.1;rwa [Ya,Ya]at this
def Go.map(h:Go R kvs ds)(f:∀v d,R v d->S v d):Go S kvs ds:=⟨h.1,fun i v d a b=>f _ _ (h.2 i v d a b)⟩
end
section
variable {K:Ab}{Y:AS}{H:Hp}
theorem MK(h:DA K Y H v d)(e:Fi d=some k):v=kV k:=by
 cases d with
 | int i=>cases e;cases h;rfl
 | str x=>cases e;cases h;rfl
 | _=>cases e
theorem Jl(h:BA K Y H v d)(e:Fi d=some k):v=kV k:=by
 cases d with
 | int i=>cases e;exact h
 | str x=>cases e;exact h
 | _=>cases e
theorem vW:∀{ds:List D}{vs:List V}{ks:List Key},El K Y H vs ds->xL ds=some ks->vs=ks.map kV
 | [],vs,ks,h,e=>by
  cases e;obtain rfl:=h.unnil;rfl
 | d::r,vs,ks,h,e=>by
  refine bsO e fun k e1 e=>?_;refine bsO e fun ks' e2 e=>?_;cases e;obtain⟨v,vr,rfl,da,el⟩:=h.uncons;rw[MK da e1,vW el e2];rfl
def atD:D->D->Option (Option D)
 | .dt kvs,.tup ds=>(xL ds).bind fun ks=>some (gG kvs ks)
 | .dk kvs,d=>(Fi d).bind fun k=>some (gG kvs k)
 | _,_=>none
theorem ML(b1:BA K Y H x d1)(b2:BA K Y H y d2)(e:atD d1 d2=some o):∃(a:Addr)(r:Option V),x=.ref a/\DGet H a y r/\((r=none/\o=none)∨∃v d,r=some v/\o=some d/\DA K Y H v d):=by
 cases d1 with
 | dt kvs =>
  cases d2 with
  | tup ds =>
   refine bsO e fun ks e1 e=>?_;cases e;obtain⟨a,ep,kv,rfl,_,h1,h2,h3⟩:=b1;obtain⟨b,vs,rfl,t,el⟩:=b2;have:=vW el e1;subst this;exact⟨a,_,rfl,DGet.t h1 t.1,Go.look ks ⟨h2,h3⟩⟩
  | _=>cases e
 | dk kvs =>
  refine bsO e fun k e1 e=>?_;cases e;obtain⟨a,kv,rfl,h1,h2,h3⟩:=b1;have:=Jl b2 e1;subst this;exact⟨a,_,rfl,DGet.k h1,Go.look k ⟨h2,h3⟩⟩
 | _=>cases e
def rDG:R2:=fun x y H Q=>∃a v,x=.ref a/\DGet H a y (some v)/\Q v H
def Fj:D->D->Option Rz:=fun d1 d2=>(atD d1 d2).bind fun o=>o.bind fun d=>some (d,false)
def HA:RdOp K rDG Fj:=by
 intro Y H x y d1 d2 z Q lv b1 b2 e q;refine bsO e fun o e1 e=>?_;obtain⟨d,rfl,e⟩:=Option.bind_eq_some_iff.mp e;cases e;obtain⟨a,r,rfl,g,h|⟨v,d',rfl,h2,da⟩⟩:=ML b1 b2 e1
 ·cases h.2
 ·cases h2;exact⟨a,v,rfl,g,q v H (Same.refl H) da⟩
def Jm:GM:=fun x k v H Q=>∃a,x=.ref a/\LX H a k v Q
def Fk:D->D->D->Option D
 | .dt kvs,.tup ds,v=>(xL ds).bind fun ks=>if kvs.length<100000 then some (.dt (ut kvs ks v)) else none
 | .dk kvs,d,v=>(Fi d).bind fun k=>if kvs.length<100000 then some (.dk (ut kvs k v)) else none
 | _,_,_=>none
def yV:D0 K Jm Fk:=by
 intro Y H p x k v dk dv x' Q hp ho bk da e q;have lim:(100000:Nat)<=sizeLine:=by rw[C2];decide
 cases x with
 | dt kvs =>
  cases dk with
  | tup ds =>
   refine bsO e fun ks e1 e=>?_;by_cases c:kvs.length<100000
   ·rw[Ae c]at e;cases e;obtain⟨ep,kv,ka,h1,h2,h3⟩:=ho;obtain⟨b,vs,rfl,t,el⟩:=bk;have:=vW el e1;subst this;have g:Go (DA K Y H) kv kvs:=⟨h2,h3⟩;refine⟨p,rfl,.inr ⟨ep,kv,ks,b,h1,rfl,t.1,by have:=g.len;lia,fun n=>q _ ?_⟩⟩
    have g':=(g.put ks da).map (S:=DA K Y (upd H p (.dT (n,yu ep.2 kv ks b) (putK kv ks v)))) fun v d h=>h.upd hp;refine⟨(n,yu ep.2 kv ks b),_,KA.go (Y:=Y) (H:=H) (fun c hc=>?_) (fun c o e n=>by rw[bn fun z=>n (by rw[z];exact hp)];exact e) (fun c z=>.inl z),bT,g'.1,g'.2⟩
    unfold yu at hc;split at hc
    ·exact ka c hc
    ·rcases Wc.mp hc with hc|hc
     ·exact ka c hc
     ·rw[Va.mp hc];exact⟨t.2,by rw[t.1];simp⟩
   ·rw[Ak c]at e;cases e
  | _=>cases e
 | dk kvs =>
  refine bsO e fun kk e1 e=>?_;by_cases c:kvs.length<100000
  ·rw[Ae c]at e;cases e;obtain⟨kv,h1,h2,h3⟩:=ho;have:=Jl bk e1;subst this;have g:Go (DA K Y H) kv kvs:=⟨h2,h3⟩;refine⟨p,rfl,.inl ⟨kv,kk,h1,rfl,by have:=g.len;lia,q _ ?_⟩⟩
   have g':=(g.put kk da).map (S:=DA K Y (upd H p (.dK (putK kv kk v)))) fun v d h=>h.upd hp;exact⟨_,bT,g'.1,g'.2⟩
  ·rw[Ak c]at e;cases e
 | _=>cases e
def Jo(d:D):FE:=fun st=>some (.f d,st)
def Fm:RdE K DH (Jo (.dk [])):=by
 intro st σ H O Z Q E r st' h q;cases h;intro p hp;have hres:RES K (U O Z) H (upd H p (.dK [])) (.ref p) (.dk [],true):=⟨p,rfl,hp,[],bT,rfl,fun i v d a _=>by simp at a⟩
 obtain⟨E3,rv⟩:=hres.rv E (br hp _);exact q _ _ O (Same.ext (br hp _)) (Kp.refl _) E3 rv fun p' e=>by cases e;exact hp
end
section
variable {X:Cx}
def Fn(hu:X.A.units+1<cLine)(ho:PE X o td)(hi:PE X i ty)(hs:JO i):PE X (.Subscript o i pos) (tOp rDG td ty):=GR hu ho hi hs
def yW(hu:X.A.units+1<cLine):JA X Jm:=by
 intro pins s σ H o i v ov iv u Q I ro ri rv h;obtain⟨a,rfl,g⟩:=h;cases ro;exact yx hu I g ri rv fun s' H' I' q=>⟨H',I',q⟩
end
end VF22
namespace VF22
open PySem PySem.Spec PyProof.Rows L2 VF
section
variable {prog:Program}{w:World}{A:Around}{E:Value->Shared->Prop}{s:Shared}
def RawD(h:Heap)(d:Addr)(es:Array DictEntry)(ep:Nat):Prop:=∃o,h.get? d=some o/\o.ExactDict/\o.data=.dict es ep
def RawD.at{h h':Heap}(x:RawD h d es ep)(e:∀o,h.get? d=some o->h'.get? d=some o):RawD h' d es ep:=let ⟨o,ho,r⟩:=x;⟨o,e _ ho,r⟩
def RawD.typeIs(x:RawD s.heap d es ep):s.TypeIs (.ref d) "dict":=let ⟨o,ho,c,_⟩:=x;⟨o,ho,c.1⟩
def Fo{es:Array DictEntry}(hd:(d == sysModules)=false)(hm:RawD s.heap d es ep)
  (q:Q (.ref s.heap.objs.size) { s with heap:=s.heap.push { cls:=.type "dict_keyiterator",data:=.fields #[.ref d,.int 0 0,.int es.size 0,.int ep 0] } }) :
  wpAny (model prog w) A (pyIter (.ref d)) Q E s:=by
 have ty:=hm.typeIs;obtain⟨o,ho,hc,dat⟩:=hm;refine wpAny_pyIter_slot ty F.slot_dict_iter (As F.slot_dict_iter ty F.entry_dict_iter ?_ (F.args_dict_iter_1 _));unfold Builtin.«dict.__iter__»;refine Aa ?_;unfold Builtin.Dict.dictSlotNone;refine Aa (wpAny_notOrdered_dict ty ?_);show wpAny _ _ (pure (Value.ref d)) _ _ s;refine Ad ?_;show wpAny _ _ (Builtin.Dict.showsAll d >>= _) _ _ s;unfold Builtin.Dict.showsAll;rw[Ak (by rw[hd];exact Wd)]
 refine Aa (Ad (Aa (CH ho dat (Aa (C3 ho dat ?_)))));refine Aa (An (Ad ⟨_,rfl,"dict_keyiterator",_,⟨_,Ai _ rfl,rfl⟩,F.slot_dict_keyiterator_next.lookup,?_⟩));simpa[rawInt]using q
def Fp{es:Array DictEntry}{x:DictEntry}(hit:s.heap.IsKeyIter it d i es.size ep)(hm:RawD s.heap d es ep)(hx:es[i]?=some x)
  (q:∀h',h'.IsKeyIter it d (i+1) es.size ep->Heap.SameBut it s.heap h'->Q (some x.key) { s with heap:=h' }):wpAny (model prog w) A (pyNext (.ref it)) Q E s:=by
 obtain⟨o,ho,hc,hd⟩:=id hit;obtain⟨od,hod,hcd,hdd⟩:=hm;unfold pyNext;refine Aa (BD (Ap (name:=Str.ofString "__next__") hit.typeIs F.slot_dict_keyiterator_next (As F.slot_dict_keyiterator_next hit.typeIs F.entry_dict_keyiterator_next ?_ (F.args_dict_keyiterator_next_1 _))));refine Aa (Ad (Aa (Aa ?_)));refine Aa (AF hit.typeIs (Ad (Aa (wpAny_fieldsOf ho hd ?_))));have own:Builtin.Dict_items.ownsTuple "dict_keyiterator"=false:=by decide
 simp only[own,Qe,if_false];show wpAny _ _ (if (Value.ref d == Value.none)=true then _ else _) _ _ s;rw[Ak (show ¬ ((Value.ref d == Value.none)=true) from Wd)];refine Aa (Ad (Aa (CH hod hdd ?_)));rw[Ak (by simp)];refine Aa (Ad (Aa (C3 hod hdd ?_)))
 rw[Ak (by simp)];refine Ad ?_
 have hlt:i<es.size:=(Array.getElem?_eq_some_iff.mp hx).1;have ex:es[i]=x:=(Array.getElem?_eq_some_iff.mp hx).2;simp only[show ¬ ((i:Int)<0) from by lia,if_false,Wm,hx]
 refine Aa (Aa (AF hit.typeIs (Ad (Aa (wpAny_isOneOf_keyiter hit.typeIs ?_)))));show wpAny _ _ (setField (.ref it) 1 (rawInt ((i:Int)+1)) >>= _) _ _ s;refine Aa (B6 ho hd (by simp) ?_)
 have hit':(s.heap.update it (Obj.mapFields (·.setIfInBounds 1 (rawInt ((i:Int)+1))))).IsKeyIter it d (i+1) es.size ep:=⟨_,B3 _ ho (Obj.isFreed_of_fields (Bt hd _)),(Obj.cls_mapFields ..).trans hc,by rw[Bt hd];simp[rawInt]⟩
 refine Aa (AB (Aa (wpAny_isOneOf_keyiter (s:={ s with heap:=s.heap.update it (Obj.mapFields (·.setIfInBounds 1 (rawInt ((i:Int)+1)))) }) hit'.typeIs ?_)));show wpAny _ _ (pure x.key) _ _ _;exact Ad (Ad ⟨_,rfl,Ad (q _ hit' (Bo ..))⟩)
def HB{es:Array DictEntry}(hh:A.handled=none)(hit:s.heap.IsKeyIter it d i es.size ep)(hm:RawD s.heap d es ep)(hx:es.size<=i)
  (q:∀h',Heap.ExtBut it s.heap h'->Q none { s with heap:=h' }):wpAny (model prog w) A (pyNext (.ref it)) Q E s:=by
 obtain⟨o,ho,hc,hd⟩:=id hit;obtain⟨od,hod,hcd,hdd⟩:=hm;unfold pyNext;refine Aa (BD (Ap (name:=Str.ofString "__next__") hit.typeIs F.slot_dict_keyiterator_next (As F.slot_dict_keyiterator_next hit.typeIs F.entry_dict_keyiterator_next ?_ (F.args_dict_keyiterator_next_1 _))));refine Aa (Ad (Aa (Aa ?_)));refine Aa (AF hit.typeIs (Ad (Aa (wpAny_fieldsOf ho hd ?_))));have own:Builtin.Dict_items.ownsTuple "dict_keyiterator"=false:=by decide
 simp only[own,Qe,if_false];show wpAny _ _ (if (Value.ref d == Value.none)=true then _ else _) _ _ s;rw[Ak (show ¬ ((Value.ref d == Value.none)=true) from Wd)];refine Aa (Ad (Aa (CH hod hdd ?_)));rw[Ak (by simp)];refine Aa (Ad (Aa (C3 hod hdd ?_)))
 rw[Ak (by simp)];refine Ad ?_
 simp only[show ¬ ((i:Int)<0) from by lia,if_false,Wm,Array.getElem?_eq_none hx]
 refine Aa (Aa (AF hit.typeIs (Ad ?_)));show wpAny _ _ (setField (.ref it) 0 .none >>= _) _ _ s;refine Aa (B6 ho hd (by simp) ?_)
 show wpAny _ _ (newExc (.type "StopIteration") [] >>= _) _ _ _;refine Aa ?_;simp only[newExc,newTuple];refine Aa (An ?_ (by size_fits))
 refine Aa (m:=firstArgMember _ _) (wpAny_of_eq (a:=Value.none) (by first|rfl|(simp only[firstArgMember];rfl)) (An ?_ (by size_fits)))
 simp only[raiseNew];refine Aa (wpAny_handled ?_);rw[show A.in1.handled=none from hh];refine Aa (Ad (wpAny_throw ?_));refine Aa (wpAny_isInstance (T:="StopIteration") (b:=true) ⟨_,Ai _ rfl,rfl⟩ isSubtype_stop (Ad (q _ ?_)));exact((Bo ..).extBut.push _).push _
def yX(hh:A.handled=none)(I d:Addr)(hne:d≠I)(es:Array DictEntry)(ep:Nat) :
  Walks prog w A I [I,d] [I] es.size (fun i v=>(es[i]?).map (·.key)=some v) (fun i h=>h.IsKeyIter I d i es.size ep/\RawD h d es ep) where
 sub:=fun b hb=>by simp at hb;simp[hb]
 frame:=fun _ _ _ st hk=>⟨st.1.at fun o e=>hk I (by simp) o e,st.2.at fun o e=>hk d (by simp) o e⟩
 item:=fun i s Q E hi st hQ=>by
  have hx:es[i]?=some es[i]:=AW hi;refine Fp st.1 st.2 hx fun h' hit' hs'=>hQ _ h' s.toks (by rw[hx];rfl) ⟨hit',st.2.at fun o e=>hs'.extBut d o hne e⟩ fun b o hb e=>hs'.extBut b o (fun z=>hb (by simp[z])) e
 done:=fun s Q E st hQ=>HB hh st.1 st.2 (Qa _) fun h' he'=>hQ h' s.toks fun b o hb e=>he' b o (fun z=>hb (by simp[z])) e
 self:=fun _ _ _ _ st hQ=>wpAny_pyIter_keyiter st.1 hQ
end
end VF22
namespace VF22
open PySem PySem.Spec PyProof.Rows L2 VF
section
variable {X:Cx}{K:Ab}{O O' Z:AS}{H H':Hp}{tg:Expr}
def gH:Key->D
 | .inl i=>.int i
 | .inr x=>.str x
theorem Fq(k:Key):DA K Y H (kV k) (gH k):=by
 cases k with
 | inl i=>exact .int i
 | inr x=>exact .str x
end
end VF22
namespace VF22
open PySem PySem.Spec PyProof.Rows L2 VF TS
section
variable {prog:Program}{w:World}{A:Around}{E:Value->Shared->Prop}{s:Shared}
def RawD.lt{h:Heap}(x:RawD h d es ep):d<h.objs.size:=let ⟨_,ho,_⟩:=x;Aj ho
def HD{es:Array DictEntry}(lo:(d == sysModules)=false):PySem.W.KdlSrc prog w "dict" d d es.size (fun i v=>(es[i]?).map (·.key)=some v) (fun h=>RawD h d es ep) where
 type:=fun _ m=>m.typeIs
 there:=fun _ m=>⟨m.lt,m.lt⟩
 keep:=fun _ _ m k=>m.at fun o e=>k d (.inl rfl) o e
 notList:=by decide
 notTuple:=by decide
 hint:=fun _ _ _ _ m q=>PySem.W.kdl_hint_dict m.typeIs q
 iter:=fun _ _ hh m=>⟨_,_,(fun _ _ q=>Fo lo m q),yX hh _ d (Vh m.lt) es ep,⟨⟨_,Ai _ rfl,rfl,rfl⟩,m.at fun o e=>Ac _ e⟩⟩
def uu{es:Array DictEntry}(hh:A.handled=none)(lo:(d == sysModules)=false)(hm:RawD s.heap d es ep)(hz:es.size<=sizeLine)
  (q:∀h' tk,(∀b o,s.heap.get? b=some o->h'.get? b=some o)->Q (es.toList.map (·.key)) { s with heap:=h',toks:=tk }):wpAny (model prog w) A (collect (.ref d)) Q E s:=by
 refine PySem.W.kdu_collect (HD lo) hh hm hz fun h' tk acc' kp hi=>?_;have e:acc'.toList=es.toList.map (·.key):=by
  refine BN (by rw[Yd,hi.1,Ya,Yd]) fun i h1 h2=>?_
  have a:(es[i]?).map (·.key)=some acc'[i]:=hi.2 i acc'[i] (AW (by simpa using h1))
  rw[AW (by rw[Ya,Yd]at h2;exact h2)]at a
  have a':=Option.some.inj a;rw[Array.getElem_toList,C0,Array.getElem_toList];exact a'.symm
 rw[e];exact q h' tk kp
def yY{vs:List Value}{ds:List D}(hh:A.handled=none)
  (coll:∀(A:Around)(E:Value->Shared->Prop)(Q:List Value->Shared->Prop),A.handled=none->(∀h' tk,(∀b o,s.heap.get? b=some o->h'.get? b=some o)->Q vs { s with heap:=h',toks:=tk })->wpAny (model prog w) A (collect x) Q E s)(hz:vs.length<=sizeLine)
  (hn:vs.length=ds.length) (r:∀(i:Nat) u d,vs[i]?=some u->ds[i]?=some d->RH s.heap u d) (pl:∀d∈ds,Pl 40 d) (ca:CA 40 ds) (hk:Kd ds κ) (hu:A.units+64<cLine)
  (fin:∀(γ:Array Nat)(h':Heap)(a:Addr)(n tk:Nat),γ.Perm (Array.range vs.length)->Sg (cD ds) γ 0 vs.length->(∀b o,s.heap.get? b=some o->h'.get? b=some o)->(∀b o,s.heap.get? b=some o->b≠a)->h'.get? a=some (seqObj "list" (dG vs γ) n)->Q (.ref a) { s with heap:=h',toks:=tk }) :
  wpAny (model prog w) A (call (.builtin "sorted") [x]) Q E s:=by
 refine Dh kind_sorted plain_sorted entry_sorted (args_sorted1 _) ?_;refine Aa (m:=checkCount "sorted" 1 1 _) (Ad (Aa (coll _ _ _ hh fun h1 tk kp=>Aa (Cg ?_))));have mine:(h1.push (seqObj "list" vs.toArray 0)).get? h1.objs.size=some (seqObj "list" vs.toArray 0):=Ai _ rfl;show wpAny _ _ _ _ _ { s with heap:=h1.push (seqObj "list" vs.toArray 0),toks:=tk };refine Aa (AB (As slot_list_sort ⟨_,mine,rfl⟩ entry_list_sort ?_ (args_list_sort _)));have old2:∀b o,s.heap.get? b=some o->b≠h1.objs.size:=fun b o e=>Vh (Aj (kp b o e));refine qR (s:={ s with heap:=h1.push (seqObj "list" vs.toArray 0),toks:=tk }) mine hz hn (fun i u d e1 e2=>(r i u d e1 e2).kept fun b o e=>?_) pl ca hk (by show A.units+1+1+40<cLine;lia) fun γ p g=>?_
 ·exact Ac _ (Ac _ ((Ce _ _ _ _ (old2 b o e)).trans (Ac _ (kp b o e))))
 ·obtain⟨n,hn'⟩:=sortedHeap_at (n:=0) (vs:=vs) (out:=dG vs γ) mine;refine⟨_,rfl,Ad ⟨_,rfl,fin γ _ _ n tk p g (fun b o e=>?_) old2 hn'⟩⟩;have hb:b<(h1.push (seqObj "list" vs.toArray 0)).objs.size:=by rw[size_push'];exact BC (Aj (kp b o e))
  rw[sortedHeap_old (old2 b o e) hb];exact Ac _ (kp b o e)
end
end VF22
namespace VF22
open PySem L2 VF
inductive Hard:D->Prop where
 | non:Hard .non
 | bl (b:Bool):Hard (.bl b)
 | int (i:Int):Hard (.int i)
 | str (x:Str):Hard (.str x)
 | ty (n:String):Hard (.ty n)
 | tup {ds:List D}:(∀d∈ds,Hard d)->Hard (.tup ds)
def xM(z:Rz):Prop:=(z.2=false/\Hard z.1)∨(z.2=true/\∃ds,z.1=.lst ds/\∀d∈ds,Hard d)
section
variable {K:Ab}{Y Y' O O' O1 O2 Z:AS}{H H' H1 H2:Hp}{v:V}{d:D}{vs:List V}{ds:List D}{a p:Addr}{st st' st1 st2:En}{σ σ':L2.St}
theorem DA.hard(h:DA K Y H v d)(hd:Hard d)(lv:∀p,Y' p->Lv H p):DA K Y' H v d:=by
 induction h with
 | non=>exact .non
 | bl b=>exact .bl b
 | int i=>exact .int i
 | str x=>exact .str x
 | tup h1 h2 _ ih =>
  cases hd with
  | tup hd=>exact .tup ⟨h1.1,fun z=>(lv _ z).2 _ h1.1⟩ h2 fun i v d e1 e2=>ih i v d e1 e2 (hd d (Yb e2))
 | ty n=>exact .ty n
 | _=>cases hd
theorem RES.hard(h:RES K (fun _=>False) H H' v z)(hz:xM z)(s:Same H H')(lv:∀p,Y p->Lv H p):RES K Y H H' v z:=by
 have lv':∀p,Y p->Lv H' p:=fun p hp=>(lv p hp).same fun o e=>s p o e;obtain⟨d,fr⟩:=z;rcases hz with⟨rfl,hz⟩|⟨rfl,ds,rfl,hz⟩
 ·exact DA.hard (show DA K (fun _=>False) H' v d from h) hz lv'
 ·obtain⟨p,rfl,hp,ho⟩:=h;have lp:=ho.lv;obtain⟨ws,h1,h2⟩:=ho;exact⟨p,rfl,hp,ws,h1,h2.1,fun i v d e1 e2=>DA.hard (h2.2 i v d e1 e2) (hz d (Yb e2)) fun q hq=>hq.elim (fun e=>by rw[e];exact lp) (lv' q)⟩
open Classical in
noncomputable def oX(g:List D->Option Rz)(fa:FA):FE:=fun st=>(fa st).bind fun x=>(dU x.2 x.1).bind fun ds=>(g ds).bind fun z=>if xM z then some (mk z,x.2) else none
def uv(ha:RdA K ta fa):RdE K (vC (spV K g) ta) (oX g fa):=by
 intro st σ H O Z Q E r0 st' h q;refine bsP h fun rs st1 e1 h=>?_;refine bsO h fun ds e2 h=>?_;refine bsO h fun z e3 h=>?_;obtain⟨hc,h⟩:=aT h;cases h;refine ha st σ H O Z _ E rs _ e1 fun vs H1 O1 x1 k1 E1 rvs=>?_;refine⟨fun _=>False,ds,z,rvs.el0 E1 e2,fun p z=>z.elim,e3,fun v H3 s hres=>?_⟩;have hres':=RES.hard (Y:=U O1 Z) hres hc s E1.liv;obtain⟨E3,rv3⟩:=hres'.rv E1 s;exact q v H3 O1 (x1.trans (Same.ext s)) k1 E3 rv3 (hres'.fsh.back x1)
def uw(h1:fr st=some (rs,s1))(h2:dU s1 rs=some ds)(h3:b ds=some z)(h4:xM z)(hz:mk z=r:=by rfl):oX b fr st=some (r,s1):=by
 simp only[oX,h1,h2,h3,Wa];rw[Ae h4,hz]
end
end VF22
namespace VF22
open PySem PySem.Spec PyProof.Rows L2 VF
section
variable {X:Cx}{K:Ab}
@[irreducible] def PAi(X:Cx)(es:List Expr)(t:TA):Prop:=PA X es t
def HE:PAi X [] tJ:=by unfold PAi;exact ah
def ux(ha:PE X e te)(hr:PAi X es t)(h:jy e=true):PAi X (e::es) (iB te t):=by
 unfold PAi at *;exact az ha hr h
def HF(h:PAi X es t):PE X (.List es pos) (JK t):=by
 unfold PAi at h;exact cr h
end
end VF22
namespace VF22
open PySem L2 VF
section
variable {X:Cx}{K:Ab}
def MM:D->Bool
 | .dt _=>true
 | .dk _=>true
 | _=>false
def dOf:Rs->Option D
 | .d x=>some x
 | _=>none
def HG(fd fy fx:FE):FE:=fun st=>(fd st).bind fun x=>(cont x.2 x.1).bind fun d0=>if MM d0=true then(fy x.2).bind fun y=>(fx y.2).bind fun z=>(cont z.2 x.1).bind fun d1=>(cont z.2 y.1).bind fun d2=>(atD d1 d2).bind fun o=>(dOf z.1).bind fun dz=>some (.d (o.getD dz),z.2) else none
def Fr(hd:RdE K td fd)(hy:RdE K ty fy)(hx:RdE K tx fx):RdE K (DJ td ty tx) (HG fd fy fx):=by
 intro st σ H O Z Q E r' st' h q;refine bsP h fun r1 st1 e1 h=>?_;refine bsO h fun d0 e0 h=>?_;obtain⟨c,h⟩:=aT h;refine bsP h fun r2 st2 e2 h=>?_;refine bsP h fun r3 st3 e3 h=>?_;refine bsO h fun d1 e4 h=>?_;refine bsO h fun d2 e5 h=>?_;refine bsO h fun o e6 h=>?_;refine bsO h fun dz e7 h=>?_;cases h;refine hd st σ H O Z _ E r1 st1 e1 fun v1 H1 O1 x1 k1 E1 rv1 w1=>?_;have b0:=rv1.ba E1 e0;have isd:∃a,v1=.ref a/\IsD H1 a:=by
  cases d0 with
  | dt kvs =>
   obtain⟨a,ep,kv,rfl,_,h1,_⟩:=b0;exact⟨a,rfl,.inr ⟨ep,kv,.inl h1⟩⟩
  | dk kvs =>
   obtain⟨a,kv,rfl,h1,_⟩:=b0;exact⟨a,rfl,.inl ⟨kv,.inl h1⟩⟩
  | _=>cases c
 obtain⟨a,rfl,isd⟩:=isd;refine⟨a,rfl,isd,hy st1 σ H1 O1 Z _ E1 r2 st2 e2 fun v2 H2 O2 x2 k2 E2 rv2 w2=>hx st2 σ H2 O2 Z _ E2 r3 st3 e3 fun v3 H3 O3 x3 k3 E3 rv3 w3=>?_⟩;have b1:=(rv1.nf.ext (x2.trans x3) (k2.trans k3)).ba E3 (by rw[fO];exact e4)
 have b2:=(rv2.nf.ext x3 k3).ba E3 (by rw[fO];exact e5)
 obtain⟨a',r,ea,g,hh⟩:=ML b1 b2 e6;cases ea;refine⟨r,g,?_⟩;rcases hh with⟨rfl,rfl⟩|⟨v,d,rfl,rfl,da⟩
 ·cases r3 with
  | d x =>
   cases e7;exact q v3 H3 O3 ((x1.trans x2).trans x3) ((k1.trans k2).trans k3) E3 rv3 True.intro
  | f x=>cases e7
  | s i=>cases e7
 ·exact q v H3 O3 ((x1.trans x2).trans x3) ((k1.trans k2).trans k3) E3 da True.intro
end
end VF22
namespace VF
open PySem PySem.Spec PyProof.Rows L2
def fsc{N P:List Str}{sc:Scope}(h:N.Nodup/\(∀x∈P,sc.names.lookup x=some .local∨sc.names.lookup x=some .cell)/\∀y∈sc.names,y.2≠.free)(a:sc.kind=.function:=by rfl)(b:sc.isCoroutine=false:=by rfl)(c:sc.isGenerator=false:=by rfl)(d:N.take P.length=P:=by rfl):FnScope N P sc:=⟨a,b,c,h.1,d,h.2.1,h.2.2⟩
structure FH(K:Ab)(x:Str)(st:Stmt):Prop where
 ex:∃f fd,Fun K x x st f fd/\PySem.W.nsIn K mainGlobals x=some (some (.ref f))
def fh{K:Ab}{x:Str}{st:Stmt}{f:Addr}{oc:Value}{od an:Option Addr}{osl:Array (Option Value)}{kV doc pm cdv ct:Value}(a:PySem.W.nsIn K mainGlobals x=some (some (.ref f)))
  (l:K.lookup f=some ⟨oc,od,.func (PySem.W.fnOf x x (fN st) (dS st) (aw st) .none kV doc pm an cdv ct),osl⟩)(c:PySem.W.codeIn K cdv x=true)(k:PySem.W.keepIn K (.ref f)=true):FH K x st:=⟨f,_,Kc l c k,a⟩
def Bn(x:Str)(st:Stmt)(ps:List Str):Prop:=∀(kV doc pm:Value)(an:Option Addr)(cdv ct:Value)(us:List Value),us.length=ps.length->bindArgs (PySem.W.fnOf x x (fN st) (dS st) (aw st) .none kV doc pm an cdv ct) ⟨us,[]⟩=pure (ps.zip us)
theorem arS{n:Nat}{P:List Value->Prop}{us:List Value}(hl:us.length=n+1)(h:∀a r,r.length=n->P (a::r)):P us:=by
 cases us with
 | nil=>cases hl
 | cons a r=>exact h a r (Nat.succ.inj hl)
def ar1{P:List Value->Prop}(h:∀a,P [a])(us:List Value)(hl:us.length=1):P us:=arS hl fun a r hr=>by
 rw[Wi hr];exact h a
def ar2{P:List Value->Prop}(h:∀a b,P [a,b])(us:List Value)(hl:us.length=2):P us:=arS hl fun a r hr=>ar1 (P:=fun r=>P (a::r)) (h a) r hr
def ar3{P:List Value->Prop}(h:∀a b c,P [a,b,c])(us:List Value)(hl:us.length=3):P us:=arS hl fun a r hr=>ar2 (P:=fun r=>P (a::r)) (h a) r hr
section
variable {P:Program}{w:World}{K:Ab}{mg:Str->Option Value}{base h:Heap}{x:Str}{st:Stmt}{N ps:List Str}{k:Nat}{F:FS}
abbrev Bd'(P:Program)(w:World)(K:Ab)(mg:Str->Option Value)(base:Heap)(x:Str)(st:Stmt)(N:List Str)(k:Nat)(F:FS):Prop :=
 ∀{f:Addr}{cdv:Value}{A:Around}{outer:List Env}{s:Shared}{H:Hp}{E:XK},Room k (A.deeper (envOfC x (aw st) s.heap.objs.size f cdv))->∃t,PSs (tK CX0 P w K mg base N x (aw st) f cdv A outer s H E).nox (dS st) t/\RdS K t F
def okV(F':Fun K x x st f fd)(S:FnScope N ps (aw st))(hB:Bd' P w K mg base x st N k F):FnOk P w K mg base CX0 (k+1) f fd ps (spV K (bC F N.length ps.length)):=by
 refine F'.ok S (fun vs H Q E h=>Kt h) fun cdv A outer s H vs Q E hr h=>?_;obtain⟨t,h1,h2⟩:=hB hr;exact⟨t,h1,G7 h2 h⟩
def FH.cal(h':FH K x st)(X:K.In h)(G:h.Ns mainGlobals mg)(S:FnScope N ps (aw st))(hb:Bn x st ps)(hB:Bd' P w K mg base x st N k F):Cal P w K mg base x (k+1) ps (spV K (bC F N.length ps.length)):=by
 obtain⟨f,fd,F',a⟩:=h'.ex;exact⟨f,fd,okV F' S hB,AC X G a,F'.kp,F'.binds hb⟩
def FH.calI(h':FH K x st)(X:K.In h)(G:h.Ns mainGlobals mg)(S:FnScope N ps (aw st))(hb:Bn x st ps)(hB:Bd' P w K mg base x st N k F):Cal P w K mg base x (k+1) ps (jA K (dA F N.length ps.length)):=by
 obtain⟨f,fd,F',a⟩:=h'.ex;refine⟨f,fd,F'.ok S (fun vs H Q E h=>IX h) fun cdv A outer s H vs Q E hr h=>?_,AC X G a,F'.kp,F'.binds hb⟩;obtain⟨t,h1,h2⟩:=hB hr;exact⟨t,h1,qD h2 h⟩
theorem FH.calR{sp:Nat->Sp}(h':FH K x st)(X:K.In h)(G:h.Ns mainGlobals mg)(hb:Bn x st ps)(m:Nat)(h0:∀f fd,FnOk P w K mg base CX0 0 f fd ps (sp 0))(h1:∀n,n<=m->Cal P w K mg base x n ps (sp n)->∀f fd,Fun K x x st f fd->FnOk P w K mg base CX0 (n+1) f fd ps (sp (n+1))):∀n,n<=m+1->Cal P w K mg base x n ps (sp n):=by
 obtain⟨f,fd,F',a⟩:=h'.ex;intro n;induction n with
 | zero=>exact fun _=>⟨f,fd,h0 f fd,AC X G a,F'.kp,F'.binds hb⟩
 | succ n ih=>exact fun hn=>⟨f,fd,h1 n (Nat.le_of_succ_le_succ hn) (ih (Nat.le_of_succ_le hn)) f fd F',AC X G a,F'.kp,F'.binds hb⟩
def HH:FnOk P w K mg base CX0 0 f fd ps (spV K (eW 0)):=by
 have no:∀vs H Q E,¬ spV K (eW 0) vs H Q E:=fun vs H Q E h=>by
  obtain⟨Z,ds,z,el,lv,e,q⟩:=h;obtain⟨u,_,hd,_⟩:=qK e;cases hd
 exact⟨fun vs H Q E h=>absurd h (no vs H Q E),fun A outer s H args us vs Q E _ _ _ _ h=>absurd h (no vs H Q E)⟩
def FH.alike{F:(List D->Option Rz)->FS}(h':FH K x st)(X:K.In h)(G:h.Ns mainGlobals mg)(S:FnScope N ps (aw st))(hb:Bn x st ps)(m:Nat)(hv:∀n u,Dp (n+1) u->bC (F (eW n)) N.length ps.length [u,u]=some (.bl true,false))
  (hB:∀n g,n<=m->Cal P w K mg base x n ps (spV K g)->Bd' P w K mg base x st N n (F g)):∀n,n<=m+1->Cal P w K mg base x n ps (spV K (eW n)) :=
 h'.calR X G hb m (fun _ _=>HH) fun n hn c f fd F'=>(okV F' S (hB n _ hn c)).imp fun vs H Q E hs=>by
  obtain⟨Z,ds,z,el,lv,e,q⟩:=hs;obtain⟨u,rfl,hd,rfl⟩:=qK e;exact⟨Z,[u,u],(.bl true,false),el,lv,hv n u hd,q⟩
theorem FH.law(h':FH K "law" st)(X:K.In h)(G:h.Ns mainGlobals mg)(hfa:mg "law"=some (.ref fa))(S:FnScope N ["_law_script"] (aw st))(hb:Bn "law" st ["_law_script"])(lv:∀ns:List Int,bC F N.length 1 [.fl (ns.map D.int)]=some (.bl true,false))
  (hB:∀base:Heap,Bd' P w K mg base "law" st N k F):∃fd:FuncData,(∀(s:Shared)(v:Value),BindsTo s fd ⟨[v],[]⟩ [("_law_script",v)])/\∀base:Heap,K.In base->base.Ns mainGlobals mg->FnOk P w K mg base CX0 (k+1) fa fd ["_law_script"] (xf K):=by
 obtain⟨f,fd,F',a⟩:=h'.ex;have e:=hfa.symm.trans (AC X G a);cases e;refine⟨fd,fun s v=>?_,fun base _ _=>(okV F' S (hB base)).imp fun vs H Q E h=>?_⟩
 ·obtain⟨oc,od,kV,doc,pm,an,cdv,ct,osl,rfl,lk,hcd⟩:=F'.ex;exact .of_eq (hb kV doc pm an cdv ct [v] rfl)
 ·obtain⟨a,ns,rfl,sq,_,q⟩:=h;refine⟨fun _=>False,[.fl (ns.map D.int)],(.bl true,false),El.one (.fl (vs:=ns.map V.int) ?_ (by simp) fun i v d h1 h2=>?_),fun p z=>z.elim,lv ns,fun v H' _ r=>?_⟩
  ·rcases sq with s|s
   ·exact .inl ⟨s,fun z=>z⟩
   ·exact .inr fun H'=>.inr s
  ·rw[We]at h1 h2;obtain⟨c,e1,rfl⟩:=Zg.mp h1;rw[e1]at h2;obtain rfl:=Option.some.inj h2;exact .int _
  ·obtain rfl:=(show v=V.bl true from DA.ba (show DA K (fun _=>False) H' v (.bl true) from r));exact q H'
end
def walkL{l:PySem.W.OpenLaw}{loose:List Str}{XP:(Str->Option Value)->Heap->Prop}{YP:World->Heap->Prop}{d:DefRec}{K:Params->Ab}{k:Nat}(hn:l.most=some 63)(hdf:d.params.defaults=[])(hr:Room k callerA)
  (hY:∀(w:World)(h:Heap),YP w h->(K w.params).In h)
  (F:∀(w:World)(mg:Str->Option Value)(fa:Addr)(h:Heap),(K w.params).In h->h.Ns mainGlobals mg->mg d.name=some (.ref fa) ->
   ∃fd:FuncData,(∀(s:Shared)(u:Value),BindsTo s fd ⟨[u],[]⟩ [("_law_script",u)])/\∀base:Heap,(K w.params).In base->base.Ns mainGlobals mg->FnOk l.prog w (K w.params) mg base CX0 k fa fd ["_law_script"] (xf (K w.params))) :
  PySem.W.WalkO q loose XP YP l.row.toRowW d [] (fun f vs=>PySem.call f vs) :=
 L2.walk_of (n:=63) (k:=k) (x:="_law_script") (CX:=fun _=>CX0) (sp:=fun w=>xf (K w.params)) hn (by decide) hdf hr hY F (fun _ _ a ns hl _ hS=>⟨a,ns,rfl,hS,hl,fun _=>rfl⟩) fun _ _ _ _ _ z=>z
end VF
namespace VF22
open PySem PySem.Spec PyProof.Rows L2 VF TS
section
variable {X:Cx}{K:Ab}{Y:AS}{H:Hp}{s:Shared}{pins:List (Addr×Obj)}{σ:L2.St}
open Classical in
noncomputable def qk:D->D->Option Rz:=fun a b=>if Pl 40 a/\Pl 40 b/\Cp 40 a b then some (.bl (ltN 40 a b),false) else none
def MN(K:Ab):R2:=fun x y H Q=>∃(Y:AS)(a b:D),BA K Y H x a/\BA K Y H y b/\Pl 40 a/\Pl 40 b/\Cp 40 a b/\Q (.bl (ltN 40 a b)) H
def Lb:RdOp K (MN K) qk:=by
 intro Y H x y d1 d2 z Q lv b1 b2 e q;unfold qk at e;obtain⟨c,e⟩:=aT e;cases e;exact⟨Y,d1,d2,b1,b2,c.1,c.2.1,c.2.2,q _ H (Same.refl H) (.bl _)⟩
def Lc(h:X.K=K)(hu:X.A.units+64<cLine):OpR X (compareOp .Lt) (MN K):=by
 intro pins s σ H x y v u Q I rx ry ⟨Y,a,b,b1,b2,p1,p2,c,q⟩;exact RH.ltAt 40 (A:=X.A) p1 p2 c (b1.rh p1 I h rx) (b2.rh p2 I h ry) (by lia) _ _ _ _ ⟨.bl _,H,I,rfl,q⟩
inductive GT(K:Ab):V->D->Prop where
 | int (i:Int):GT K (.int i) (.int i)
 | str (x:Str):GT K (.str x) (.str x)
 | tup {a:Addr} {vs:List V} {ds:List D}:(∀H,SqT K H a vs)->vs.length=ds.length->(∀(i:Nat) v d,vs[i]?=some v->ds[i]?=some d->GT K v d)->GT K (.ref a) (.tup ds)
theorem GT.rh(h:GT K v d)(I:Inv X pins σ H s)(hK:X.K=K):∀{u:Value},RelV v u->RH s.heap u d:=by
 induction h with
 | int i=>intro u r;obtain⟨t,rfl⟩:=r;exact .int i t
 | str x=>intro u r;obtain⟨t,rfl⟩:=r;exact .str x t
 | @tup a vs ds h1 h2 h3 ih =>
  intro u r;cases r;obtain⟨its,r,t,_⟩:=I.tuple (hK ▸ h1 H);refine .tup t (r.length.symm.trans h2) fun i u d e1 e2=>?_;obtain⟨v,e3,rv⟩:=et r i u e1;exact ih i v d e3 e2 rv
def GlT(K:Ab)(mg:Str->Option Value)(x:Str)(ds:List D):Prop:=∃a,mg x=some (.ref a)/\GT K (.ref a) (.tup ds)
def tGT(K:Ab)(ds:List D):TE:=fun _ H Q=>∀a,GT K (.ref a) (.tup ds)->Q (.ref a) H
def MO(hg:Gl X x)(hm:GlT K X.mg x ds)(hd:(x == ("__debug__":Str))=false:=by decide):PE X (.Name x pos) (tGT K ds):=by
 obtain⟨a,e,g⟩:=hm;exact fun _ _ _ H _ I q=>rE I hg e ⟨.ref a,H,I,rfl,q a g⟩ hd
open Classical in
def MP(K:Ab)(ds:List D):R2:=fun x y H Q=>∃(Y:AS)(a:D),BA K Y H x a/\Pl 40 a/\GT K y (.tup ds)/\(∀d∈ds,Pl 40 d)/\Q (.bl (decide (a∈ds))) H
open Classical in
theorem Ld(h:X.K=K)(hu:X.A.units+64<cLine):OpR X (compareOp .In) (MP K ds):=by
 intro pins s σ H x y v u Q I rx ry ⟨Y,a,b1,p1,g,p2,q⟩;have r:=g.rh I h ry;cases r with
 | @tup l its _ hl hn f =>
  obtain⟨h1,h2⟩:=lR (A:=X.A) hn f p1 p2 (b1.rh p1 I h rx) hu;refine CT _ hl h1 ?_;rw[h2];exact⟨.bl _,H,I,rfl,q⟩
open Classical in
noncomputable def HI(ds:List D)(fe:FE):FE:=fun st=>(fe st).bind fun x=>(cont x.2 x.1).bind fun d=>if Pl 40 d/\∀e∈ds,Pl 40 e then some (.d (.bl (decide (d∈ds))),x.2) else none
def Le(h:RdE K te fe):RdE K (tOp (MP K ds) te (tGT K ds)) (HI ds fe):=by
 intro st σ H O Z Q E r' st' h' q;refine bsP h' fun r1 st1 e1 h'=>?_;refine bsO h' fun d1 e3 h'=>?_;obtain⟨c,h'⟩:=aT h';cases h';refine h st σ H O Z _ E r1 st1 e1 fun v1 H1 O1 x1 k1 E1 rv1 w1=>fun a g=>?_;exact⟨_,d1,rv1.ba E1 e3,c.1,g,c.2,q _ H1 O1 x1 k1 E1 (.bl _) True.intro⟩
def HJ(h:ot k v=true):RelV (kV k) v:=by
 rcases cK h with⟨i,t,rfl,rfl⟩|⟨x,t,rfl,rfl⟩
 ·exact⟨t,rfl⟩
 ·exact⟨t,rfl⟩
theorem Ft:∀{es:List DictEntry}{vs:List (Key×Value)},Pairs (cO P w) es vs->Vals (vs.map fun kv=>kV kv.1) (es.map (·.key))
 | _,_,.nil=>.nil
 | _,_,.cons h _ r=>.cons (HJ h) (Ft r)
theorem HK{kvs:List (Key×V)}{vs:List (Key×Value)}(h:KV kvs vs):vs.map (fun kv=>kV kv.1)=kvs.map fun kv=>kV kv.1:=by
 induction h with
 | nil=>rfl
 | cons h _ ih=>rw[Xe,Xe,ih,h.1]
def Fu(K:Ab):List V->Hp->VK->Prop:=fun xs H Q=>∃(a:Addr)(kvs:List (Key×V))(κ:SortKind),xs=[.ref a]/\H a=some (.dK kvs)/\(∀x∈kvs.map (fun kv=>gH kv.1),Pl 40 x)/\CA 40 (kvs.map fun kv=>gH kv.1)/\Kd (kvs.map fun kv=>gH kv.1) κ /\
 ∀(p:Addr)(ws:List V),H p=none->(∀Y:AS,El K Y H ws (dX 40 (kvs.map fun kv=>gH kv.1)))->Q (.ref p) (upd H p (.lst ws))
def uz(h:X.K=K)(hc:X.calm=true)(hr:Room n X.A):CallR X (.builtin "sorted") (Fu K):=by
 intro pins s σ H xs us Q I rv hh;obtain⟨a,kvs,κ,rfl,ha,pl,ca,hk,q⟩:=hh;obtain⟨u,rfl,ru⟩:=vals1 rv;cases ru;obtain⟨hz,lo,vs,rk,o,es,ep,e1,e2,e3,_,e5,_⟩:=IM I.hok ha;have vk:Vals (kvs.map fun kv=>kV kv.1) (es.toList.map (·.key)):=HK rk ▸ Ft e5;have esz:(es.toList.map (·.key)).length=kvs.length:=by rw[← vk.length,Ya]
 have esz':es.size=kvs.length:=by rw[Ya,Yd]at esz;exact esz
 have ln:(es.toList.map (·.key)).length=(kvs.map fun kv=>gH kv.1).length:=by rw[esz,Ya]
 refine yY (vs:=es.toList.map (·.key)) (ds:=kvs.map fun kv=>gH kv.1) (κ:=κ) (I.ok.hd hc) (fun A E Q hA q=>uu hA lo ⟨o,e1,e2,e3⟩ (by rw[esz'];exact hz) q) (by rw[esz];exact hz) ln (fun i u d g1 g2=>?_) pl ca hk hr.units fun γ h' p n tk pm g kp ge hat=>?_
 ·obtain⟨v,g3,rv⟩:=et vk i u g1;have g2':=g2;rw[We]at g2 g3;obtain⟨kv,k1,k2⟩:=Zg.mp g2;rw[k1]at g3;cases g3;have da:DA K (fun _=>False) H (kV kv.1) (gH kv.1):=Fq kv.1;subst k2;exact da.rh (pl _ (Yb g2')) I h rv
 ·rw[ln]at pm g;have hpn:H p=none:=by
   cases e:H p with
   | none=>rfl
   | some o =>
    obtain⟨ob,e'⟩:=(I.hok p o e).there;exact absurd rfl (ge p ob e')
  have eo:=Fg ca pm g;have hγ:∀g∈γ.toList,g<kvs.length:=fun g hg=>by
   have:=(Array.perm_iff_toList_perm.mp pm).mem_iff.mp hg;rw[CD,Ya]at this;exact Zl.mp this
  have e2:(dG (es.toList.map (·.key)) γ).toList=γ.toList.map fun g=>(es.toList.map (·.key)).getD g .none:=by unfold dG;simp
  have vw:Vals (γ.toList.map fun g=>(kvs.map fun kv=>kV kv.1).getD g .non) (dG (es.toList.map (·.key)) γ).toList:=by
   rw[e2];have:∀l:List Nat,(∀g∈l,g<kvs.length)->Vals (l.map fun g=>(kvs.map fun kv=>kV kv.1).getD g .non) (l.map fun g=>(es.toList.map (·.key)).getD g .none):=fun l=>by
    induction l with
    | nil=>exact fun _=>.nil
    | cons g l ih =>
     intro hl;have hg:g<kvs.length:=hl g Wb;have a1:(es.toList.map (·.key))[g]?=some ((es.toList.map (·.key))[g]'(by rw[esz];exact hg)):=Za _
     obtain⟨v,g3,rv⟩:=et vk g _ a1;refine .cons ?_ (ih fun x hx=>hl x (Vb _ hx));show RelV ((kvs.map fun kv=>kV kv.1).getD g .non) ((es.toList.map (·.key)).getD g .none);rw[Yf,Yf,a1,g3,Option.getD_some,Option.getD_some];exact rv
   exact this _ hγ
  refine⟨.ref p,upd H p (.lst (γ.toList.map fun g=>(kvs.map fun kv=>kV kv.1).getD g .non)),I.laid2 kp ge hpn ⟨?_,(dG (es.toList.map (·.key)) γ).toList,n,vw,by simpa using hat⟩,rfl,q p _ hpn fun Y=>?_⟩
  ·rw[Ya,Yd,pm.size_eq,Bi,Ya];exact hz
  ·rw[← eo];have:∀l:List Nat,(∀g∈l,g<kvs.length)->El K Y H (l.map fun g=>(kvs.map fun kv=>kV kv.1).getD g .non) (l.map (dk (kvs.map fun kv=>gH kv.1))):=fun l=>by
    induction l with
    | nil=>exact fun _=>El.nil
    | cons g l ih =>
     intro hl;have hg:g<kvs.length:=hl g Wb;rw[Xe,Xe];refine El.cons ?_ (ih fun x hx=>hl x (Vb _ hx));show DA K Y H ((kvs.map fun kv=>kV kv.1).getD g .non) _;rw[qQ (d:=gH kvs[g].1) (by rw[We,Za hg];rfl),Yf,We,Za hg]
     exact Fq _
   exact this _ hγ
open Classical in
noncomputable def km:List D->Option Rz
 | [.dk kvs]=>if (∀x∈kvs.map (fun kv=>gH kv.1),Pl 40 x)/\CA 40 (kvs.map fun kv=>gH kv.1)/\∃κ,Kd (kvs.map fun kv=>gH kv.1) κ then some (.lst (dX 40 (kvs.map fun kv=>gH kv.1)),true) else none
 | _=>none
theorem yZ:RdCB K (Fu K) km:=by
 intro Y H xs ds z Q lv bs e q;cases bs with
 | nil=>cases e
 | @cons v vs d ds b1 bs =>
  cases bs with
  | cons _ _=>cases d<;>cases e
  | nil =>
   cases d with
   | dk kd =>
    dsimp only[km]at e;obtain⟨a,kvs,rfl,h1,h2,h3⟩:=b1;have ek:(kd.map fun kv=>gH kv.1)=kvs.map fun kv=>gH kv.1:=by
     have:∀{α:Type}(l:List (Key×α)),(l.map fun kv=>gH kv.1)=(l.map (·.1)).map gH:=fun l=>by rw[Vg];rfl
     rw[this,this,h2]
    rw[ek]at e;obtain⟨c,e⟩:=aT e;cases e;obtain⟨c1,c2,κ,c3⟩:=c;exact⟨a,kvs,κ,rfl,h1,c1,c2,c3,fun p ws hp el=>q _ _ (br hp _) (iR (el _) hp)⟩
   | _=>cases e
end
end VF22
namespace VF22
open PySem PySem.Spec PyProof.Rows L2 VF
section
variable {K:Ab}
def GV(K:Ab)(u:Value)(d:D):Prop:=∃v,RelV v u/\GT K v d
inductive GVs(K:Ab):List Value->List D->Prop where
 | nil:GVs K [] []
 | cons {u:Value} {d:D} {us:List Value} {ds:List D}:GV K u d->GVs K us ds->GVs K (u::us) (d::ds)
def gv_int:GV K (.int i t) (.int i):=⟨.int i,⟨t,rfl⟩,.int i⟩
theorem GVs.ex:∀{us:List Value}{ds:List D},GVs K us ds->∃vs,Vals vs us/\vs.length=ds.length/\∀(i:Nat) v d,vs[i]?=some v->ds[i]?=some d->GT K v d
 | _,_,.nil=>⟨[],.nil,rfl,fun i v d h=>by simp at h⟩
 | _,_,.cons h r=>by
  obtain⟨v,h1,h2⟩:=h;obtain⟨vs,r1,r2,r3⟩:=r.ex;refine⟨v::vs,.cons h1 r1,by rw[Xd,Xd,r2],fun i w d e1 e2=>?_⟩
  cases i with
  | zero=>cases e1;cases e2;exact h2
  | succ i=>exact r3 i w d (by simpa using e1) (by simpa using e2)
def gv_tup{us:List Value}{ds:List D}(h1:K.lookup a=some ⟨.type "tuple",td,.seq us.toArray n,sl⟩)(h:GVs K us ds)(h4:ds.length<=1000:=by decide):GV K (.ref a) (.tup ds):=by
 obtain⟨vs,r1,r2,r3⟩:=h.ex;have h4:us.toArray.size<=sizeLine:=by
  rw[Xb,← r1.length,r2];exact Zd h4 (by decide)
 exact⟨.ref a,rfl,.tup (fun H=>.inr ⟨_,us.toArray,n,h1,rfl,rfl,h4,r1⟩) r2 r3⟩
theorem GV.glt(h:GV K (.ref a) (.tup ds))(e:mg x=some (.ref a)):GlT K mg x ds:=by
 obtain⟨v,r,g⟩:=h;cases g with
 | @tup b vs _ h1 h2 h3 =>
  cases r;exact⟨a,e,.tup h1 h2 h3⟩
structure FHD(K:Ab)(x:Str)(st:Stmt)(ds:List Value):Prop where
 ex:∃f fd,FunD K x x st ds f fd/\PySem.W.nsIn K mainGlobals x=some (some (.ref f))
def fhd{x:Str}{st:Stmt}{ds:List Value}{f T:Addr}{nT:Nat}{oc tc:Value}{od an td:Option Addr}{osl tsl:Array (Option Value)}{kV doc pm cdv ct:Value}(a:PySem.W.nsIn K mainGlobals x=some (some (.ref f)))
  (l:K.lookup f=some ⟨oc,od,.func (PySem.W.fnOf x x (fN st) (dS st) (aw st) (.ref T) kV doc pm an cdv ct),osl⟩)(c:PySem.W.codeIn K cdv x=true)(k:PySem.W.keepIn K (.ref f)=true)(t:K.lookup T=some ⟨tc,td,.seq ds.toArray nT,tsl⟩):FHD K x st ds :=
 ⟨f,_,⟨⟨_,_,_,_,_,_,_,_,_,_,_,_,rfl,l,c,t,rfl⟩,k⟩,a⟩
def BnD(x:Str)(st:Stmt)(ps:List Str)(ds:List Value):Prop:=∀(T:Addr)(kV doc pm:Value)(an:Option Addr)(cdv ct:Value)(us:List Value),(us++ds).length=ps.length ->
 ∃k:Option (Array Value)->Sem (List (Str×Value)),bindArgs (PySem.W.fnOf x x (fN st) (dS st) (aw st) (.ref T) kV doc pm an cdv ct) ⟨us,[]⟩=seqItems? (.ref T) >>= k/\k (some ds.toArray)=pure (ps.zip (us++ds))
variable {P:Program}{w:World}{mg:Str->Option Value}{base h:Heap}{x:Str}{st:Stmt}{N ps:List Str}{k:Nat}{F:FS}{ds:List Value}{dvs:List V}
def FHD.calI(h':FHD K x st ds)(X:K.In h)(G:h.Ns mainGlobals mg)(S:FnScope N ps (aw st))(hb:BnD x st ps ds)(hv:Vals dvs ds)(hB:Bd' P w K mg base x st N k F):CalD P w K mg base x (k+1) ps dvs (jA K (dA F N.length ps.length)):=by
 obtain⟨f,fd,F',a⟩:=h'.ex;refine⟨f,fd,ds,F'.ok S (fun vs H Q E h=>IX h) fun cdv A outer s H vs Q E hr h=>?_,AC X G a,F'.kp,F'.binds hb,hv⟩;obtain⟨t,h1,h2⟩:=hB hr;exact⟨t,h1,qD h2 h⟩
def MQ(K:Ab)(ta:TE):TT:=fun σ H Q=>ta σ H fun x H'=>∃k,JI K x H' k/\Q k H'
def HL{X:Cx}{a:Expr}(h:X.K=K)(ha:PE X a ta)(he:∀whole,isTrue a X.env whole=(do let v ← whole;standAt a.pos;holding [v] (truthy v)):=by intro _;rfl):PT X a (MQ K ta):=h ▸ zZ ha he
def Fv(fa:FE):FT:=fun st=>(fa st).bind fun x=>(cont x.2 x.1).bind fun d=>(d.seq).bind fun ds=>some (!ds.isEmpty,x.2)
def Fw(ha:RdE K ta fa):RdT K (MQ K ta) (Fv fa):=by
 intro st σ H O Z Q E c st' h q;refine bsP h fun r1 st1 e1 h=>bsO h fun d e2 h=>bsO h fun ds e3 h=>?_;cases h;refine ha st σ H O Z _ E r1 st1 e1 fun v1 H1 O1 x1 k1 E1 rv1 w1=>?_;obtain⟨a,vs,rfl,sq,el⟩:=mD (rv1.ba E1 e2) e3;have e:(!ds.isEmpty)=!vs.isEmpty:=by
  have:=el.1;cases vs<;>cases ds<;>first|rfl|cases this
 refine⟨!ds.isEmpty,?_,q H1 O1 x1 k1 E1⟩;rcases sq with sq|sq
 ·exact .inl ⟨vs,sq,e⟩
 ·exact .inr (.inl ⟨vs,sq,e⟩)
def Lf{st s:En}{r:Rs}{d:D}{ds:List D}{b:Bool}(h:fe st=some (r,s))(h1:cont s r=some d)(h2:Pl 40 d)(h3:∀e∈ds,Pl 40 e)(h4:b=true↔d∈ds):HI ds fe st=some (.d (.bl b),s):=by
 classical
 simp only[HI,h,h1,Wa];rw[Ae ⟨h2,h3⟩];have:decide (d∈ds)=b:=by
  rw[Zf,decide_eq_true_eq];exact h4.symm
 rw[← this]
def Fx(h1:Pl 40 a)(h2:Pl 40 b)(h3:Cp 40 a b):qk a b=some (.bl (ltN 40 a b),false):=by
 unfold qk;rw[Ae ⟨h1,h2,h3⟩]
def y7{kvs:List (Key×D)}(h1:∀x∈kvs.map (fun kv=>gH kv.1),Pl 40 x)(h2:CA 40 (kvs.map fun kv=>gH kv.1))(h3:∃κ,Kd (kvs.map fun kv=>gH kv.1) κ):km [.dk kvs]=some (.lst (dX 40 (kvs.map fun kv=>gH kv.1)),true):=by
 dsimp only[km];exact Ae ⟨h1,h2,h3⟩
end
end VF22
namespace VF22
open PySem PySem.Spec PyProof.Rows L2 VF
section
variable (K:Ab){X:Cx}{a b o:Expr}{ta tb to:TE}{p pos apos cpos:Pos}
def aO(ha:PE X a ta)(hb:PE X b tb)(h:X.K=K:=by rfl)(hs:wP b:=by exact fun _ _=>rfl):PE X (.Subscript a b pos) (tOp (rIx K) ta tb):=LZ (G1 h) ha hb hs
def bP(hm:X.mg "len"=none)(ha:PE X a ta)(h:X.K=K:=by rfl)(hg:Gl X "len":=by rfl)(n:jy a=true:=by rfl):PE X (.Call (.Name "len" p) [a] [] pos) (tCB (Er K) (iB ta tJ)) :=
 cf (yM h) hg hm PySem.boot_len (az ha ah n) (by decide) (by decide) (gl n) rfl
def df(hm:X.mg "tuple"=none)(ha:PE X a ta)(h:X.K=K:=by rfl)(c:X.calm=true:=by rfl)(hg:Gl X "tuple":=by rfl)(n:jy a=true:=by rfl):PE X (.Call (.Name "tuple" p) [a] [] pos) (tCB (rY K) (iB ta tJ)) :=
 gk (tZ h c) hg hm dN (az ha ah n) (by decide) (by decide) (gl n) rfl
def cn(hm:X.mg "isinstance"=none)(ha:PE X a ta)(hb:PE X b tb)(h:X.K=K:=by rfl)(hg:Gl X "isinstance":=by rfl)(n:jy a=true:=by rfl)(n':jy b=true:=by rfl)(hpl:(backTo pos (starEach [b] X.env)).any (·.1)=false:=by rfl) :
  PE X (.Call (.Name "isinstance" p) [a,b] [] pos) (tCB (KN K) (iB ta (iB tb tJ))) :=
 cf (rZ h) hg hm L2.boot_isinstance (az ha (az hb ah n') n) (by decide) (by decide) (gl n) hpl
def bL(ha:PE X a ta)(hb:PE X b tb)(h:X.K=K:=by rfl):PE X (.BinOp a .Add b pos) (tOp (wZ K) ta tb):=dH (w5 h) ha hb
def gZ(ho:OpR X (compareOp op) r)(ha:PE X a ta)(hb:PE X b tb)(h:op≠.In:=by decide)(h2:op≠.NotIn:=by decide):PE X (.Compare a [op] [b] pos) (tOp r ta tb):=nW ho ha hb (zW _ h h2)
def aX(ho:OpR X (compareOp op) r)(ha:PE X a ta)(hb:PE X b tb)(h:op≠.In:=by decide)(h2:op≠.NotIn:=by decide):PT X (.Compare a [op] [b] pos) (wH (tOp r ta tb)):=d8 ho ha hb (zW _ h h2)
def cX(ho:PE X o to)(ha:PE X a ta)(n:jy a=true:=by rfl)(hbase:attributeBase o "append" X.env (eval o X.env)=eval o X.env:=by rfl)
  (hfew:((backTo cpos (starEach [a] X.env)).all (fun x=>!x.1)&&(backToKw cpos (keywordEach [] X.env)).all (fun x=>x.1.isSome)
   && decide (([a]:List Expr).length+([]:List Keyword).length+(if ([]:List Keyword).isEmpty then 0 else 1)<30))=true:=by rfl)
  (hline:(apos.endLine == cpos.line)=true:=by rfl):PE X (.Call (.Attribute o "append" apos) [a] [] cpos) (tBM X.K "list" rM to (iB ta tJ)) :=
 kF Au PySem.F.slot_list_append PySem.F.type_list_append yz ho (az ha ah n) hbase hfew hline (gl n) rfl
end
end VF22
namespace VF22
open PySem PySem.Spec PyProof.Rows L2 VF
section
variable {X:Cx}{K:Ab}
open Classical in
noncomputable def whD(ds:List D)(a:D):Nat:=ds.findIdx fun d=>decide (d=a)
open Classical in
def Fy{ds:List D}{a:D}(h:a∈ds):whD ds a<ds.length/\ds[whD ds a]?=some a:=by
 have h1:whD ds a<ds.length:=List.findIdx_lt_length_of_exists ⟨a,h,by simp⟩
 refine⟨h1,?_⟩;rw[Za h1];have:=List.findIdx_getElem (w:=h1);exact congrArg some (Am this)
def xO(K:Ab):V->List V->Hp->VK->Prop:=fun x vs H Q=>∃(Y:AS)(y:V)(a:D)(ds:List D),vs=[y]/\BA K Y H y a/\BA K Y H x (.lst ds)/\Pl 40 a/\(∀d∈ds,Pl 40 d)/\a∈ds/\Q (.int (whD ds a:Nat)) H
open Classical in
def y8(h:X.K=K)(hu:X.A.units+64<cLine):MtR X "list.index" (xO K):=by
 intro pins s σ H x vs v us Q I rx rv ⟨Y,y,a,ds,ev,b1,b2,p1,p2,ha,q⟩;subst ev;obtain⟨u,rfl,ru⟩:=vals1 rv;have r0:=b1.rh p1 I h ru;obtain⟨p,ws,rfl,hp,el⟩:=b2;subst h;cases rx;obtain⟨its,r,pl,hz⟩:=I.list (.inl (.inl hp));obtain⟨o,n,e,hc,hd,hs⟩:=id pl;have hlen:its.length=ds.length:=r.length.symm.trans el.1;obtain⟨hj,hja⟩:=Fy ha;obtain⟨cls,dd,data,sl⟩:=o;simp only at hc hs;subst hc hs;have f:∀(i:Nat) u d,its[i]?=some u->ds[i]?=some d->RH s.heap u d:=fun i u d e1 e2=>by
  obtain⟨v,e3,rv⟩:=et r i u e1;exact(el.2 i v d e3 e2).rh (p2 d (Yb e2)) I rfl rv
 obtain⟨h1,_⟩:=lR (A:=X.A) hlen f p1 p2 r0 hu;have hwl:ds.length<=2 ^ 24:=by rw[← el.1];exact hz
 refine BP Dj ⟨_,e,rfl⟩ PySem.F.entry_list_index (PySem.F.args_list_index_2 _ _)
  (PySem.SeqAt.list_indexAt p its.toArray n dd sl u (fun y=>decide (RH s.heap y a)) (whD ds a) (by simpa[hlen]using hj) (by lia) ?_ ?_) ⟨e,h1,?_⟩
 ·have hv:its[whD ds a]?=some its[whD ds a]:=Za (by lia)
  exact Af (f _ _ _ hv hja)
 ·intro m hm hlt;have hm':m<its.length:=by simpa using hm
  have hv:its[m]?=some its[m]:=Za hm';have hd':ds[m]?=some ds[m]:=Za (by lia)
  refine Ag fun z=>?_;have:=(f m _ _ hv hd').inj z;have hn:=List.not_of_lt_findIdx (p:=fun d=>decide (d=a)) (xs:=ds) (i:=m) hlt;exact absurd (Af this) (by simpa using hn)
 ·exact⟨.int _,H,I.tok _,⟨_,rfl⟩,q⟩
open Classical in
noncomputable def sB:D->List D->Option Rz
 | .lst ds,[a]=>if Pl 40 a/\(∀d∈ds,Pl 40 d)/\a∈ds then some (.int (whD ds a:Nat),false) else none
 | _,_=>none
theorem y9:Hg K (xO K) sB:=by
 intro Y H x xs d ds z Q lv b1 bs e q;cases d with
 | lst es =>
  cases bs with
  | nil=>cases e
  | @cons v vs d ds b2 bs =>
   cases bs with
   | cons _ _=>cases e
   | nil =>
    obtain⟨c,e⟩:=aT e;cases e;exact⟨Y,v,d,es,rfl,b2,b1,c.1,c.2.1,c.2.2,q _ H (Same.refl H) (.int _)⟩
 | _=>cases e
def Fz{ds:List D}{a:D}(h1:Pl 40 a)(h2:∀d∈ds,Pl 40 d)(h3:a∈ds):sB (.lst ds) [a]=some (.int (whD ds a:Nat),false):=Ae ⟨h1,h2,h3⟩
end
end VF22
namespace VL
open PySem L2 VF
def Lw(x:Str):Prop:=∀c∈x.cps.toList,97<=c/\c<=122
abbrev letS:Str:=Str.ofString "abcdefghijklmnopqrstuvwxyz"
def oY:letS.cps.toList=List.range' 97 26:=by decide +kernel
def Nm(x:Str):Prop:=1<=x.length/\x.length<=6/\Lw x
def FB{ys:List Str}(h:∀y∈ys,∃c,y=⟨#[c]⟩/\97<=c/\c<=122):Lw (Txt.join (Str.ofString "") ys):=by
 intro c hc;have e:Txt.join (Str.ofString "") ys=Str.join (Str.ofString "") ys:=StrLaws.glued_eq_join _ _;rw[e]at hc;rcases(PyProof.Rows.mem_join _ _ _).mp hc with⟨t,ht,hct⟩|⟨_,z⟩
 ·obtain⟨c',rfl,h1⟩:=h t ht;have:c=c':=by simpa using hct
  rw[this];exact h1
 ·have hE:(Str.ofString "").cps.toList=[]:=by decide +kernel
  rw[hE]at z;cases z
theorem join_ones{ys:List Str}(h:∀y∈ys,∃c,y=(⟨#[c]⟩:Str)):(Txt.join (Str.ofString "") ys).length=ys.length :=
 PySem.W.KT.join_ones ys fun a ha=>by obtain⟨c,rfl⟩:=h a ha;rfl
theorem FC{ys:List Str}(h:∀y∈ys,∃c,y=(⟨#[c]⟩:Str)):(ys.map (·.length)).sum=ys.length:=by
 induction ys with
 | nil=>rfl
 | cons y r ih =>
  obtain⟨c,rfl⟩:=h y Wb;rw[Xe,List.sum_cons,ih fun z hz=>h z (Vb _ hz)];show 1+r.length=r.length+1;lia
def Lw.app{x y:Str}(a:Lw x)(b:Lw y):Lw (x++y):=fun c hc=>by
 rw[B7,Bp]at hc;rcases Wc.mp hc with z|z
 ·exact a c z
 ·exact b c z
def FD:Lw (Str.ofString ""):=fun c hc=>by
 have hE:(Str.ofString "").cps.toList=[]:=by decide +kernel
 rw[hE]at hc;cases hc
def word(s:Nat):Str:=Txt.mul ⟨#[97+s % 26]⟩ (1+((s:Nat):Int) / 26)
def kn(s:Nat):(word s).cps.toList=List.replicate (1+s / 26) (97+s % 26):=by
 unfold word;rw[PyProof.Rows.mul_one_list];have e:(1+((s:Nat):Int) / 26).toNat=1+s / 26:=by lia
 rw[e]
def uA(s:Nat):(word s).length=1+s / 26:=by
 have:=congrArg List.length (kn s);rw[Qh,Yd]at this;exact this
def FF{a b:Nat}(h:word a=word b):a=b:=by
 have h1:(word a).cps.toList=(word b).cps.toList:=by rw[h]
 rw[kn,kn]at h1;have h2:=congrArg List.length h1;rw[Qh,Qh]at h2;have h3:=congrArg (fun l=>l[0]?) h1;simp only[Yj]at h3;rw[Ae (by lia),Ae (by lia)]at h3
 have h4:=Option.some.inj h3;lia
def HM{s:Nat}(h:s<=120):Nm (word s):=by
 refine⟨by rw[uA];lia,by rw[uA];lia,fun c hc=>?_⟩
 rw[kn]at hc;have:=Di hc;lia
def zc{xs:List Str}{s:Nat}(h:∀j,j<s->word j∈xs):s<=xs.length:=by
 have:=tU ((List.range s).map word) xs (by
  show List.Pairwise _ _;rw[CM];exact List.nodup_range.imp fun hne e=>hne (FF e)) (fun x hx=>by
  obtain⟨j,hj,rfl⟩:=Xc.mp hx
  exact h j (Zl.mp hj))
 rw[Ya,CN]at this;exact this
def Lg(s:Nat):atI letS.cps.toList (((s:Nat):Int) % 26)=some (97+s % 26):=by
 have e:((s:Nat):Int) % 26=(((s % 26:Nat)):Int):=by lia
 rw[e];refine iN ?_;rw[oY,List.getElem?_range' (by lia)]
 congr 1;lia
theorem i6{α:Type}:∀{l:List α}{i:Nat}(h:i<l.length),(l[i]::l.eraseIdx i).Perm l
 | _::_,0,_=>List.Perm.refl _
 | x::r,i+1,h=>(List.Perm.swap x _ _).trans (List.Perm.cons x (i6 (l:=r) (i:=i) (Nat.lt_of_succ_lt_succ h)))
abbrev minus:Str:=Str.ofString "-"
def bd(p:Bool×Str):Str:=if p.1 then minus++p.2 else p.2
def i7:minus.cps.toList=[45]:=by decide +kernel
def oZ{p:Bool×Str}(h:Nm p.2):1<=(bd p).length/\(bd p).length<=7:=by
 have e:minus.length=1:=by decide +kernel
 unfold bd;split
 ·rw[AK,e];have:=h.1;have:=h.2.1;lia
 ·have:=h.1;have:=h.2.1;lia
def HN{x y:Str}(h:x.cps.toList=y.cps.toList):x=y:=by
 cases x;cases y;have:_=_:=Array.toList_inj.mp h;exact congrArg Str.mk this
def vX{n:Str}:Txt.slice (minus++n) (some 1) none=n:=by
 have e:minus.length=1:=by decide +kernel
 rw[PyProof.Rows.slice_from_eq (i:=1) (b:=((minus++n).length:Int)) (by decide) (by rw[AK,e];lia) rfl]
 refine HN ?_;show((List.drop 1 (minus++n).cps.toList).take _).toArray.toList=_;rw[B7,Bp,i7,AK,e];show List.take _ n.cps.toList=_;refine A8 ?_;rw[Yd];show n.length<=_;lia
def uB{p:Bool×Str}(h:Nm p.2):∃c,atI (bd p).cps.toList 0=some c/\(V.str ⟨#[c]⟩=V.str minus↔p.1=true):=by
 obtain⟨t,n⟩:=p;have em:(⟨#[45]⟩:Str)=minus:=by decide +kernel
 cases t with
 | true =>
  refine⟨45,?_,fun _=>rfl,fun _=>by rw[em]⟩
  show atI (minus++n).cps.toList 0=_;rw[B7,Bp,i7];exact L8
 | false =>
  have h1:1<=n.length:=h.1;cases e:n.cps.toList with
  | nil =>
   have:=congrArg List.length e;rw[Yd]at this;have h2:n.cps.size=n.length:=rfl;rw[h2]at this;simp at this;lia
  | cons c r =>
   refine⟨c,?_,fun z=>?_,fun z=>by cases z⟩
   ·show atI n.cps.toList 0=_;rw[e];exact L8
   ·have hc:=h.2.2 c (by show c∈n.cps.toList;rw[e];exact Wb)
    have z1:(⟨#[c]⟩:Str)=minus:=V.str.inj z;rw[← em]at z1;have z2:c=45:=by simpa using z1
    lia
def zd{d:Int}{n:Str}(d0:0<=d)(d1:d<2):Txt.mul minus d++n=bd (decide (d=1),n):=by
 have h:d=0∨d=1:=by lia
 rcases h with rfl|rfl
 ·show(if (0:Int)<1 then Str.empty else _)++n=_;rw[Ae (by decide)]
  exact Str.empty_append n
 ·rfl
theorem HP{n:Str}(h:Nm n):∃c r,n.cps.toList=c::r/\c≠45:=by
 cases e:n.cps.toList with
 | nil =>
  have h1:1<=n.length:=h.1;have:=congrArg List.length e;rw[Yd]at this;have h2:n.cps.size=n.length:=rfl;rw[h2]at this;simp at this;lia
 | cons c r =>
  refine⟨c,r,rfl,fun z=>?_⟩;have hc:=h.2.2 c (by rw[e];exact Wb)
  lia
def ze{t:Bool}{n:Str}(h:Nm n):Txt.startswith (bd (t,n)) minus=t:=by
 have e1:minus.length=1:=by decide +kernel
 have hl:=(oZ (p:=(t,n)) h).1;unfold Txt.startswith
 rw[Af (show 0+minus.length<=(bd (t,n)).length by lia),Bool.true_and,StrLaws.subAt_eq,i7,e1]
 cases t with
 | true =>
  show((((minus++n).cps.toList).drop 0).take 1 == [45])=true;rw[B7,Bp,i7];rfl
 | false =>
  obtain⟨c,r,e,hc⟩:=HP h;show(((n.cps.toList).drop 0).take 1 == [45])=false;rw[e];show([c] == [45])=false;simp[hc]
end VL
namespace K34
open PySem L2 VF VF22
noncomputable section
def uC:FE :=
  (fOp bIn (ag 0) (fC (.str "abcdefghijklmnopqrstuvwxyz")))
def qS:FS :=
  (aL (sIf (kL (fR (aH (fCB b7 (ac (ag 0) (ac (fC (.ty "str")) ai))))) (fR (aH (rQ bLe bLe (fC (.int 1)) (fCB cA (ac (ag 0) ai)) (fC (.int 6)))))) (bx (fC (.bl false))) bZ)
  (bx (fCB qh (ac (cB 1 [] (fIA (ag 0)) (gN 0) cg uC) ai))))
def kr:List D->Option Rz:=bC qS 1 1
def m7:FS :=
  (bx (fBM "str" wX (ag 0) (ac (fC (.str "-")) ai)))
def dQ:List D->Option Rz:=bC m7 1 1
def qT:FS :=
  (bx (fIf (aH (bF dQ (ac (ag 0) ai))) (fSl bSl (ag 0) (cR (fC (.int 1))) oNo) (ag 0)))
def iF:List D->Option Rz:=bC qT 1 1
def o0:FS :=
  (bx (fIf (aH (bF dQ (ac (ag 0) ai))) (bF iF (ac (ag 0) ai)) (fOp cE (fC (.str "-")) (ag 0))))
def kW:List D->Option Rz:=bC o0 1 1
def lU:FS :=
  (sIf (aH (fCB b7 (ac (ag 2) (ac (fC (.ty "str")) ai)))) (cx (fM isL bw 1 (ac (ag 2) ai))) (cx (fM isL iT 1 (ac (fOp bIx (ag 2) (fC (.int 1))) ai))))
def o3:FS :=
  (aL (bi (dw ai) 1)
  (aL (gz (fIA (ag 0)) (gN 2) lU)
  (bx (ag 1))))
def kX:List D->Option Rz:=bC o3 3 1
def i8:FE :=
  (bF iF (ac (ag 0) ai))
def o7:FS :=
  (bx (fCB cZ (ac (cB 1 [] (fIA (bB kX (ac (ag 0) ai))) (gN 0) cg i8) ai)))
def kY:List D->Option Rz:=bC o7 1 1
def o8:FS :=
  (bx (gW (fCB b7 (ac (ag 0) (ac (fC (.ty "int")) ai))) (IV (fCB b7 (ac (ag 0) (ac (fC (.ty "bool")) ai))))))
def o9:List D->Option Rz:=bC o8 1 1
def fB:FS :=
  (oG Fk (fOp cE (HG (ag 1) (ag 3) (fC (.int 0))) (fC (.int 1))) 1 (ag 3))
def fD:FS :=
  (gz (fIA (bB kY (ac (ag 2) ai))) (gN 3) fB)
def fE:FT :=
  (aH (fOp bLt (fOp Fj (ag 1) (ag 0)) (fCB cA (ac (ag 2) ai))))
def fF:FE :=
  (ag 0)
def jL:FS :=
  (aL (bi (Jo (.dk [])) 1)
  (aL (gz (fIA (ag 0)) (gN 2) fD)
  (aL (bi (cB 1 [1,0] (fIA (fCB km (ac (ag 1) ai))) (gN 0) fE fF) 4)
  (sIf (Fv (ag 4)) vT bZ))))
def gI:List D->Option Rz:=bC jL 5 1
def pe:FS :=
  (bx (bQ (ac (bF iF (ac (ag 0) ai)) (ac (fIf (aH (bF dQ (ac (ag 0) ai))) (fC (.int 1)) (fC (.int 0))) ai))))
def eK:List D->Option Rz:=bC pe 1 1
def m8:FS :=
  (bx (bB eK (ac (bF kW (ac (ag 0) ai)) ai)))
def eO:List D->Option Rz:=bC m8 1 1
def pf:FS :=
  (bx (fCB bN (ac (fCB cZ (ac (ag 0) ai)) ai)))
def fG:List D->Option Rz:=bC pf 1 1
def kZ:FE :=
  (fOp qk (ag 0) (ag 1))
def uD:FS :=
  (bx (fCB qh (ac (cB 2 [] (fIZ (ac (ag 0) (ac (fSl bSl (ag 0) (cR (fC (.int 1))) oNo) ai))) (gT 2 (gsC (gN 0) (gsC (gN 1) gsN))) cg kZ) ai)))
def dZ:List D->Option Rz:=bC uD 1 1
def uE:FS :=
  (aL (sIf (kL (fR (aH (fCB b7 (ac (ag 0) (ac (fC (.ty "tuple")) ai))))) (kL (aH (fOp bNe (fCB cA (ac (ag 0) ai)) (fC (.int 2)))) (fR (aH (bF kr (ac (fOp bIx (ag 0) (fC (.int 0))) ai)))))) (bx (fC (.bl false))) bZ)
  (bx (gW (bF o9 (ac (fOp bIx (ag 0) (fC (.int 1))) ai)) (fOp bIn (fOp bIx (ag 0) (fC (.int 1))) (bQ (ac (fC (.int 0)) (ac (fC (.int 1)) ai)))))))
def ph:List D->Option Rz:=bC uE 1 1
def i9:FE :=
  (bF ph (ac (ag 0) ai))
def pi:FS :=
  (aL (sIf (kL (fR (aH (fCB b7 (ac (ag 0) (ac (fC (.ty "tuple")) ai))))) (aH (fOp jG (fCB cA (ac (ag 0) ai)) (bQ (ac (fC (.int 1)) (ac (fC (.int 2)) ai)))))) (bx (fC (.bl false))) bZ)
  (bx (gW (fCB qh (ac (cB 1 [] (fIA (ag 0)) (gN 0) cg i9) ai)) (bF dZ (ac (ag 0) ai)))))
def ja:List D->Option Rz:=bC pi 1 1
def jM:FS :=
  (bx (cB 2 [] (fIZ (ac (ag 0) (ac (fSl bSl (ag 0) (cR (fC (.int 1))) oNo) ai))) (gT 2 (gsC (gN 0) (gsC (gN 1) gsN))) cg (bB fG (ac (bQ (ac (bB eO (ac (ag 0) ai)) (ac (bB eK (ac (ag 1) ai)) ai))) ai))))
def fm:List D->Option Rz:=bC jM 1 1
def jp:FS :=
  (aL (bi (fOp bIx (ag 0) (fC (.int 1))) 1)
  (aL (bi (bB eK (ac (fOp bIx (ag 1) (fC (.int 0))) ai)) 2)
  (aL (bi (bB eO (ac (fOp bIx (ag 1) (fUn Ha (fC (.int 1)))) ai)) 3)
  (aL (bi (fIf (aH (fOp bEq (fOp bIx (ag 0) (fC (.int 0))) (fC (.str "open")))) (dw (ac (bQ (ac (ag 2) ai)) (ac (bQ (ac (ag 3) ai)) ai))) (dw (ac (bB fG (ac (bQ (ac (ag 2) (ac (ag 3) ai))) ai)) ai))) 4)
  (bx (fOp cE (bB fm (ac (ag 1) ai)) (ag 4)))))))
def eE:List D->Option Rz:=bC jp 5 1
def m9:FS :=
  (aL (bi (dw ai) 1)
  (aL (gz (fIA (ag 0)) (gN 2) (cx (fM isL iT 1 (ac (bB eE (ac (ag 2) ai)) ai))))
  (bx (fCB bN (ac (fCB cZ (ac (ag 1) ai)) ai)))))
def g6:List D->Option Rz:=bC m9 3 1
def jN:FE :=
  (bF ja (ac (ag 0) ai))
def qU:FS :=
  (aL (sIf (kL (fR (aH (fCB b7 (ac (ag 0) (ac (fC (.ty "tuple")) ai))))) (aH (fOp jG (fCB cA (ac (ag 0) ai)) (bQ (ac (fC (.int 1)) (ac (fC (.int 2)) ai)))))) (bx (fC (.bl false))) bZ)
  (bx (gW (fCB qh (ac (cB 1 [] (fIA (ag 0)) (gN 0) cg jN) ai)) (bF dZ (ac (ag 0) ai)))))
def gr:List D->Option Rz:=bC qU 1 1
def mL:FE :=
  (fCB cA (ac (ag 0) ai))
def xP:FS :=
  (bx (fCB bN (ac (fCB cZ (ac (cB 1 [] (fIA (ag 0)) (gN 0) cg mL) ai)) ai)))
def ku:List D->Option Rz:=bC xP 1 1
def ng:FS :=
  (cx (fM isL iT 1 (ac (ag 2) ai)))
def qV:FS :=
  (aL (bi (dw ai) 1)
  (aL (gz (fIA (ag 0)) (gN 2) ng)
  (bx (fCB cZ (ac (ag 1) ai)))))
def gu:List D->Option Rz:=bC qV 3 1
def jO:FE :=
  (bF gr (ac (ag 0) ai))
def qW:FS :=
  (aL (sIf (kL (fR (aH (fCB b7 (ac (ag 0) (ac (fC (.ty "tuple")) ai))))) (kL (aH (fOp lQ (fCB cA (ac (ag 0) ai)) (fC (.int 2)))) (fR (aH (fCB qh (ac (cB 1 [] (fIA (ag 0)) (gN 0) cg jO) ai)))))) (bx (fC (.bl false))) bZ)
  (aL (bi (fOp bIx (ag 0) (fC (.int 0))) 1)
  (aL (bi (fOp bIx (ag 0) (fC (.int 1))) 2)
  (aL (bi (bB gu (ac (ag 1) ai)) 3)
  (aL (sIf (kL (fR (aH (bF dZ (ac (ag 3) ai)))) (aH (fOp lQ (ag 3) (bB gu (ac (ag 2) ai))))) (bx (fC (.bl false))) bZ)
  (bx (gW (HI [.tup [.tup [.int 2],.tup [.int 1,.int 1]],.tup [.tup [.int 1,.int 1],.tup [.int 2]],.tup [.tup [.int 2,.int 2],.tup [.int 2,.int 2]],.tup [.tup [.int 1,.int 2],.tup [.int 1,.int 2]]] (bQ (ac (bB ku (ac (ag 1) ai)) (ac (bB ku (ac (ag 2) ai)) ai)))) (fOp lQ (ag 1) (ag 2)))))))))
def mM:List D->Option Rz:=bC qW 4 1
def FJ:FS :=
  (aL (sIf (fR (aH (bF mM (ac (ag 0) ai)))) vT bZ)
  (bx (bQ (ac (fOp bIx (ag 0) (fC (.int 1))) (ac (fOp bIx (ag 0) (fC (.int 0))) ai)))))
def vY:List D->Option Rz:=bC FJ 1 1
def uF:FS :=
  (bx (bQ (ac (bQ (ac (ag 0) ai)) (ac (bQ (ac (bQ (ac (fOp bIx (ag 0) (fC (.int 0))) ai)) (ac (bQ (ac (fOp bIx (ag 0) (fC (.int 1))) ai)) ai))) ai))))
def lV:List D->Option Rz:=bC uF 1 1
def lW:FT :=
  (aH (fOp bEq (fCB cA (ac (ag 0) ai)) (fC (.int 2))))
def lX:FE :=
  (ag 0)
def pj:FS :=
  (bx (cB 1 [] (fIA (ag 0)) (gN 0) lW lX))
def k0:List D->Option Rz:=bC pj 1 1
def iG:FT :=
  (aH (fOp eZ (ag 0) (ag 1)))
def iH:FE :=
  (ag 0)
def jP:FS :=
  (bx (cB 1 [1] (fIA (bB k0 (ac (ag 0) ai))) (gN 0) iG iH))
def fq:List D->Option Rz:=bC jP 2 2
def kG:FS :=
  (bx (bQ (ac (bB fq (ac (ag 0) (ac (ag 1) ai))) (ac (bB fq (ac (ag 1) (ac (ag 0) ai))) ai))))
def iq:List D->Option Rz:=bC kG 2 2
def eM:FE :=
  (bB lV (ac (ag 0) ai))
def eN:FE :=
  (bB vY (ac (bB lV (ac (ag 0) ai)) ai))
def iI:FS :=
  (aL (cx (bB gI (ac (dw (ac (ag 0) (ac (ag 1) ai))) ai)))
  (aL (bi (bB iq (ac (bB g6 (ac (ag 0) ai)) (ac (bB g6 (ac (ag 1) ai)) ai))) 2)
  (aL (bi (cB 1 [] (fIA (fOp bIx (ag 2) (fC (.int 0)))) (gN 0) cg eM) 3)
  (bx (bQ (ac (ag 3) (ac (cB 1 [] (fIA (fOp bIx (ag 2) (fC (.int 1)))) (gN 0) cg eN) ai)))))))
def fH:List D->Option Rz:=bC iI 4 2
def qX:FS :=
  (aL (bi (bB fH (ac (ag 0) (ac (ag 1) ai))) 2)
  (bx (fOp jJ (fOp bIx (ag 2) (fC (.int 0))) (fOp bIx (ag 2) (fC (.int 1))))))
def fI:List D->Option Rz:=bC qX 3 2
def pk:FS :=
  (bx (dw (ac (fCB ik (ac (ag 0) ai)) (ac (fC (.int 0)) (ac (fC (.int 0)) (ac (fC (.int 1)) (ac (fC (.int 0)) ai)))))))
def lc:List D->Option Rz:=bC pk 1 1
def ld:FS :=
  (aL (sIf (eT (aH (fOp bEq (fOp bIx (ag 0) (fC (.int 2))) (fC (.int 0)))) (aH (fOp bLt (fOp bIx (ag 0) (fC (.int 1))) (fCB cA (ac (fOp bIx (ag 0) (fC (.int 0))) ai))))) (aL (bi (fOp bIx (fOp bIx (ag 0) (fC (.int 0))) (fOp bIx (ag 0) (fC (.int 1)))) 2)
  (aL (oG lN (fOp cE (fOp bIx (ag 0) (fC (.int 1))) (fC (.int 1))) 0 (fC (.int 1)))
  (sIf (aH (fOp bGe (ag 2) (fOp Me (fC (.int 10)) (fC (.int 18))))) (oG lN (ag 2) 0 (fC (.int 2))) (oG lN (fOp oI (fOp cE (fOp cE (fOp nI (fOp bIx (ag 0) (fC (.int 3))) (fC (.int 40013))) (fOp oI (ag 2) (fC (.int 1000003)))) (fC (.int 1))) (fC (.int 2147483647))) 0 (fC (.int 3)))))) bZ)
  (aL (sIf (aH (fOp bGt (fOp bIx (ag 0) (fC (.int 2))) (fC (.int 0)))) (aL (bi (fOp oI (fOp bIx (ag 0) (fC (.int 2))) (ag 1)) 3)
  (aL (oG lN (fOp vH (fOp bIx (ag 0) (fC (.int 2))) (ag 1)) 0 (fC (.int 2)))
  (bx (ag 3)))) bZ)
  (aL (oG lN (fOp cE (fOp bIx (ag 0) (fC (.int 4))) (fC (.int 1))) 0 (fC (.int 4)))
  (aL (oG lN (fOp oI (fOp cE (fOp cE (fOp nI (fOp bIx (ag 0) (fC (.int 3))) (fC (.int 48271))) (fC (.int 12820163))) (fOp bIx (ag 0) (fC (.int 4)))) (fC (.int 2147483647))) 0 (fC (.int 3)))
  (bx (fOp oI (fOp vH (fOp oI (fOp nI (fOp cE (fOp oI (fOp bIx (ag 0) (fC (.int 3))) (fC (.int 65521))) (fC (.int 1))) (fOp cE (fOp vH (fOp bIx (ag 0) (fC (.int 3))) (fC (.int 65521))) (fC (.int 7919)))) (fC (.int 1000003))) (fC (.int 7))) (ag 1)))))))
def aG:D->List D->Option (Rz×D):=dA ld 4 2
def kH:FS :=
  (bx (fBM "str" Ej (fC (.str "")) (ac (cB 1 [0] (qg (ac (ag 1) ai)) (gN 0) cg (fOp bIx (fC (.str "abcdefghijklmnopqrstuvwxyz")) (fIO aG 1 (ac (fC (.int 26)) ai)))) ai)))
def d6:D->List D->Option (Rz×D):=dA kH 2 2
def pq:FS :=
  (aL (sIf (aH (fOp bNe (ag 1) (fC (.str "")))) (bx (fOp cE (ag 1) (fIO d6 0 (ac (fOp cE (fC (.int 1)) (fIO aG 0 (ac (fC (.int 2)) ai))) ai)))) bZ)
  (aL (sIf (aH (fOp bEq (fIO aG 0 (ac (fC (.int 7)) ai)) (fC (.int 0)))) (aL (bi (dw (Ek ["to","turn","turns","ring","rings","odd","ours","row","rows","cuts","knots","cover"])) 2)
  (aL (bi (fOp cE (ag 2) (dw (Ek ["change","joins","theirs","one","two","home","none","open","keep","tox","onex"]))) 2)
  (bx (fOp bIx (ag 2) (fIO aG 0 (ac (fC (.int 23)) ai)))))) bZ)
  (bx (fIO d6 0 (ac (fOp cE (fC (.int 1)) (fIO aG 0 (ac (fC (.int 6)) ai))) ai)))))
def lf:D->List D->Option (Rz×D):=dA pq 3 2
def jQ:FS :=
  (aL (bi (fC (.str "")) 2)
  (aL (sIf (aH (fOp bEq (fIO aG 0 (ac (fC (.int 3)) ai)) (fC (.int 0)))) (bi (fIO d6 0 (ac (fOp cE (fC (.int 1)) (fIO aG 0 (ac (fC (.int 4)) ai))) ai)) 2) bZ)
  (aL (bi (dw ai) 3)
  (aL (gz (qg (ac (ag 1) ai)) (gN 4) (aL (bi (fIO lf 0 (ac (ag 2) ai)) 5)
  (aL (bi (fC (.int 0)) 6)
  (aL (sWh (aH (fOp bIn (ag 5) (ag 3))) (aL (bi (fOp nI (fOp bIx (fC (.str "abcdefghijklmnopqrstuvwxyz")) (fOp oI (ag 6) (fC (.int 26)))) (fOp cE (fC (.int 1)) (fOp vH (ag 6) (fC (.int 26))))) 5)
  (bi (fOp cE (ag 6) (fC (.int 1))) 6)) 200)
  (cx (fM isL bw 3 (ac (ag 5) ai)))))))
  (bx (ag 3))))))
def jR:D->List D->Option (Rz×D):=dA jQ 7 2
def jS:FS :=
  (aL (bi (fCB ik (ac (ag 1) ai)) 2)
  (aL (bi (dw ai) 3)
  (aL (sWh (aH (fOp bNe (ag 2) (dw ai))) (cx (fM isL bw 3 (ac (fM isL ij 2 (ac (fIO aG 0 (ac (fCB cA (ac (ag 2) ai)) ai)) ai)) ai))) 300)
  (bx (ag 3)))))
def dm:D->List D->Option (Rz×D):=dA jS 4 2
def jU:FS :=
  (aL (sIf (aH (fOp bEq (fOp bIx (ag 0) (fC (.int 0))) (fC (.str "-")))) (bx (fSl bSl (ag 0) (cR (fC (.int 1))) oNo)) bZ)
  (bx (fOp cE (fC (.str "-")) (ag 0))))
def bH:List D->Option Rz:=bC jU 1 1
def px:FS :=
  (bx (fCB bN (ac (cB 1 [0] (fIA (fIO dm 0 (ac (ag 1) ai))) (gN 0) cg (fOp cE (fOp nI (fC (.str "-")) (fIO aG 1 (ac (fC (.int 2)) ai))) (ag 0))) ai)))
def gJ:D->List D->Option (Rz×D):=dA px 2 2
def mN:FS :=
  (aL (bi (dw ai) 3)
  (aL (bi (dw ai) 4)
  (aL (gz (fIA (fIO gJ 0 (ac (ag 1) ai))) (gN 5) (aL (cx (fM isL bw 4 (ac (ag 5) ai)))
  (sIf (aH (fOp bEq (fIO aG 0 (ac (fC (.int 3)) ai)) (fC (.int 0)))) (aL (cx (fM isL bw 3 (ac (bQ (ac (fC (.str "open")) (ac (fCB bN (ac (ag 4) ai)) ai))) ai)))
  (bi (dw ai) 4)) (sIf (eT (aH (ag 2)) (aH (fOp bEq (fIO aG 0 (ac (fC (.int 3)) ai)) (fC (.int 0))))) (aL (cx (fM isL bw 3 (ac (bQ (ac (fC (.str "ring")) (ac (fCB bN (ac (ag 4) ai)) ai))) ai)))
  (bi (dw ai) 4)) bZ))))
  (aL (sIf (aH (fOp bNe (ag 4) (dw ai))) (cx (fM isL bw 3 (ac (bQ (ac (fC (.str "open")) (ac (fCB bN (ac (ag 4) ai)) ai))) ai))) bZ)
  (bx (fCB bN (ac (ag 3) ai)))))))
def kw:D->List D->Option (Rz×D):=dA mN 6 3
def lg:FS :=
  (aL (bi (cB 2 [] (fIA (ag 1)) (gT 2 (gsC (gN 0) (gsC (gN 1) gsN))) cg (bQ (ac (ag 0) (ac (fCB ik (ac (ag 1) ai)) ai)))) 3)
  (aL (gz (qg (ac (fIO aG 0 (ac (fC (.int 4)) ai)) ai)) (gN 4) (sIf (aH (fOp bNe (ag 3) (dw ai))) (aL (DZ (fM isL ij 3 (ac (fIO aG 0 (ac (fCB cA (ac (ag 3) ai)) ai)) ai)) (gT 2 (gsC (gN 5) (gsC (gN 6) gsN))))
  (aL (bi (fIO aG 0 (ac (fC (.int 4)) ai)) 7)
  (aL (bi (fIO aG 0 (ac (fCB cA (ac (ag 6) ai)) ai)) 8)
  (aL (bi (fOp cE (fOp cE (ag 8) (fC (.int 1))) (fIO aG 0 (ac (fOp G9 (fCB cA (ac (ag 6) ai)) (ag 8)) ai))) 9)
  (aL (sIf (aH (fOp bEq (ag 7) (fC (.int 0)))) (bi (fOp cE (fOp cE (fSl bSl (ag 6) oNo (cR (ag 8))) (cB 1 [] (fIA (t4 (fSl bSl (ag 6) (cR (ag 8)) (cR (ag 9))))) (gN 0) cg (bF bH (ac (ag 0) ai)))) (fSl bSl (ag 6) (cR (ag 9)) oNo)) 6) (sIf (eT (aH (fOp bEq (ag 7) (fC (.int 1)))) (aH (fOp bGt (ag 8) (fC (.int 0))))) (aL (cx (fM isL bw 3 (ac (bQ (ac (fC (.str "open")) (ac (fSl bSl (ag 6) oNo (cR (ag 8))) ai))) ai)))
  (aL (bi (fSl bSl (ag 6) (cR (ag 8)) oNo) 6)
  (bi (fC (.str "open")) 5))) (sIf (eT (aH (fOp bEq (ag 7) (fC (.int 2)))) (aH (fOp bNe (ag 3) (dw ai)))) (aL (bi (fM isL ij 3 (ac (fIO aG 0 (ac (fCB cA (ac (ag 3) ai)) ai)) ai)) 10)
  (bi (fOp cE (ag 6) (fOp bIx (ag 10) (fC (.int 1)))) 6)) (sIf (eT (aH (fOp bEq (ag 7) (fC (.int 3)))) (aH (ag 2))) (bi (fOp bIx (dw (ac (fC (.str "open")) (ac (fC (.str "ring")) ai))) (fIO aG 0 (ac (fC (.int 2)) ai))) 5) bZ))))
  (cx (fM isL bw 3 (ac (bQ (ac (ag 5) (ac (ag 6) ai))) ai)))))))) bZ))
  (bx (fCB bN (ac (cB 2 [] (fIA (ag 3)) (gT 2 (gsC (gN 0) (gsC (gN 1) gsN))) cg (bQ (ac (ag 0) (ac (fCB bN (ac (ag 1) ai)) ai)))) ai)))))
def lh:D->List D->Option (Rz×D):=dA lg 11 3
def nh(gs:List D->Option Rz):FS :=
  (aL (sIf (aH (fOp (Kx false) (ag 1) (fC .non))) (bx (fOp (Kx false) (ag 0) (fC .non))) bZ)
  (aL (sIf (kL (aH (fCB b7 (ac (ag 1) (ac (fC (.ty "bool")) ai)))) (aH (fCB b7 (ac (ag 0) (ac (fC (.ty "bool")) ai))))) (bx (gW (fCB b7 (ac (ag 1) (ac (fC (.ty "bool")) ai))) (gW (fCB b7 (ac (ag 0) (ac (fC (.ty "bool")) ai))) (fOp bEq (ag 0) (ag 1))))) bZ)
  (aL (sIf (aH (fCB b7 (ac (ag 1) (ac (fC (.ty "int")) ai)))) (bx (gW (fCB b7 (ac (ag 0) (ac (fC (.ty "int")) ai))) (fOp bEq (ag 0) (ag 1)))) bZ)
  (aL (sIf (aH (fCB b7 (ac (ag 1) (ac (fC (.ty "str")) ai)))) (bx (gW (fCB b7 (ac (ag 0) (ac (fC (.ty "str")) ai))) (fOp bEq (ag 0) (ag 1)))) bZ)
  (aL (sIf (kL (aH (fOp bNe (fCB b7 (ac (ag 1) (ac (fC (.ty "tuple")) ai))) (fCB b7 (ac (ag 0) (ac (fC (.ty "tuple")) ai))))) (aH (fOp bNe (fCB b7 (ac (ag 1) (ac (fC (.ty "list")) ai))) (fCB b7 (ac (ag 0) (ac (fC (.ty "list")) ai)))))) (bx (fC (.bl false))) bZ)
  (bx (gW (fOp bEq (fCB cA (ac (ag 0) ai)) (fCB cA (ac (ag 1) ai))) (fCB qh (ac (cB 1 [0,1] (qg (ac (fCB cA (ac (ag 1) ai)) ai)) (gN 0) cg (bF gs (ac (fOp bIx (ag 1) (ag 0)) (ac (fOp bIx (ag 2) (ag 0)) ai)))) ai)))))))))
def pA:FS :=
  (aL (sIf (aH (fOp bEq (fOp bIx (ag 0) (fC (.int 0))) (fC (.str "-")))) (bx (bQ (ac (bQ (ac (fSl bSl (ag 0) (cR (fC (.int 1))) oNo) (ac (fC (.int 1)) ai))) (ac (bQ (ac (fSl bSl (ag 0) (cR (fC (.int 1))) oNo) (ac (fC (.int 0)) ai))) ai)))) bZ)
  (bx (bQ (ac (bQ (ac (ag 0) (ac (fC (.int 0)) ai))) (ac (bQ (ac (ag 0) (ac (fC (.int 1)) ai))) ai)))))
def gK:List D->Option Rz:=bC pA 1 1
def jb:FS :=
  (aL (bi (dw ai) 1)
  (aL (gz (fIA (ag 0)) (gT 2 (gsC (gN 2) (gsC (gN 3) gsN))) (aL (bi (cB 1 [] (fIA (ag 3)) (gN 0) cg (bB gK (ac (ag 0) ai))) 4)
  (aL (gz (qg (ac (fOp G9 (fCB cA (ac (ag 4) ai)) (fC (.int 1))) ai)) (gN 5) (cx (fM isL bw 1 (ac (fCB bN (ac (fCB cZ (ac (dw (ac (fOp bIx (fOp bIx (ag 4) (ag 5)) (fC (.int 1))) (ac (fOp bIx (fOp bIx (ag 4) (fOp cE (ag 5) (fC (.int 1)))) (fC (.int 0))) ai))) ai)) ai)) ai))))
  (sIf (aH (fOp bEq (ag 2) (fC (.str "ring")))) (cx (fM isL bw 1 (ac (fCB bN (ac (fCB cZ (ac (dw (ac (fOp bIx (fOp bIx (ag 4) (fUn Ha (fC (.int 1)))) (fC (.int 1))) (ac (fOp bIx (fOp bIx (ag 4) (fC (.int 0))) (fC (.int 0))) ai))) ai)) ai)) ai))) (aL (cx (fM isL bw 1 (ac (bQ (ac (fOp bIx (fOp bIx (ag 4) (fC (.int 0))) (fC (.int 0))) ai)) ai)))
  (cx (fM isL bw 1 (ac (bQ (ac (fOp bIx (fOp bIx (ag 4) (fUn Ha (fC (.int 1)))) (fC (.int 1))) ai)) ai))))))))
  (bx (fCB bN (ac (fCB cZ (ac (ag 1) ai)) ai)))))
def ft:List D->Option Rz:=bC jb 6 1
def gL:FT :=
  (aH (fOp eZ (ag 0) (fOp bIx (ag 1) (fC (.int 0)))))
def gM:FE :=
  (ag 0)
def lY:FS :=
  (bx (fCB bN (ac (fCB cZ (ac (fOp jJ (cB 1 [1] (fIA (ag 0)) (gN 0) gL gM) (fCB ik (ac (fOp bIx (ag 1) (fC (.int 1))) ai))) ai)) ai)))
def jc:List D->Option Rz:=bC lY 2 2
def gO:FS :=
  (aL (bi (dw ai) 2)
  (aL (gz (fIA (fIO dm 0 (ac (ag 1) ai))) (gT 2 (gsC (gN 3) (gsC (gN 4) gsN))) (aL (sIf (aH (fOp bEq (ag 3) (fC (.str "ring")))) (aL (bi (fIO aG 0 (ac (fCB cA (ac (ag 4) ai)) ai)) 5)
  (bi (fOp jJ (fSl qi (ag 4) (cR (ag 5)) oNo) (fSl qi (ag 4) oNo (cR (ag 5)))) 4)) bZ)
  (aL (sIf (aH (fOp bEq (fIO aG 0 (ac (fC (.int 2)) ai)) (fC (.int 0)))) (bi (fCB bN (ac (cB 1 [] (fIA (t4 (ag 4))) (gN 0) cg (bF bH (ac (ag 0) ai))) ai)) 4) bZ)
  (cx (fM isL bw 2 (ac (bQ (ac (ag 3) (ac (ag 4) ai))) ai))))))
  (bx (fCB bN (ac (ag 2) ai)))))
def fu:D->List D->Option (Rz×D):=dA gO 6 2
def jd:FS :=
  (sIf (eT (aH (fOp sh (fCB cA (ac (ag 3) ai)) (fC (.int 2)))) (aH (fOp eZ (ag 3) (ag 1)))) (cx (fM isL bw 2 (ac (bQ (ac (bQ (ac (ag 3) ai)) (ac (bQ (ac (bQ (ac (fOp bIx (ag 3) (fC (.int 0))) ai)) (ac (bQ (ac (fOp bIx (ag 3) (fC (.int 1))) ai)) ai))) ai))) ai))) bZ)
def je:FS :=
  (sIf (eT (aH (fOp sh (fCB cA (ac (ag 3) ai)) (fC (.int 2)))) (eT (aH (fOp vS (bQ (ac (fOp bIx (ag 3) (fC (.int 0))) ai)) (ag 0))) (aH (fOp vS (bQ (ac (fOp bIx (ag 3) (fC (.int 1))) ai)) (ag 0))))) (cx (fM isL bw 2 (ac (bQ (ac (bQ (ac (bQ (ac (fOp bIx (ag 3) (fC (.int 0))) ai)) (ac (bQ (ac (fOp bIx (ag 3) (fC (.int 1))) ai)) ai))) (ac (bQ (ac (ag 3) ai)) ai))) ai))) bZ)
def pB:FS :=
  (aL (bi (dw ai) 2)
  (aL (gz (fIA (ag 0)) (gN 3) jd)
  (aL (gz (fIA (ag 1)) (gN 3) je)
  (bx (ag 2)))))
def ll:List D->Option Rz:=bC pB 4 2
def ir:FT :=
  (eT (aH (fOp sh (fCB cA (ac (ag 0) ai)) (fC (.int 2)))) (aH (fOp eZ (ag 0) (ag 1))))
def iu:FE :=
  (ag 0)
def ql:FT :=
  (eT (aH (fOp sh (fCB cA (ac (ag 0) ai)) (fC (.int 2)))) (aH (fOp eZ (ag 0) (ag 1))))
def qm:FE :=
  (ag 0)
def ni:FS :=
  (aL (bi (cB 1 [1] (fIA (ag 0)) (gN 0) ir iu) 2)
  (bx (fOp cE (fCB cA (ac (ag 2) ai)) (fCB cA (ac (cB 1 [0] (fIA (ag 1)) (gN 0) ql qm) ai)))))
def jV:List D->Option Rz:=bC ni 3 2
def nj:FS :=
  (aL (sIf (aH (fOp bEq (fIO aG 0 (ac (fC (.int 3)) ai)) (fC (.int 0)))) (bx (yO kw 0 [.bl true] (ac (ag 2) ai))) bZ)
  (bx (fIO fu 0 (ac (yO lh 0 [.bl true] (ac (ag 1) ai)) ai))))
def jW:D->List D->Option (Rz×D):=dA nj 3 3
def iw:FS :=
  (aL (bi (bB ll (ac (ag 1) (ac (ag 2) ai))) 4)
  (aL (sIf (kL (aH (fOp eZ (ag 3) (ag 4))) (fR (aH (bF (eW 8) (ac (ag 3) (ac (fOp bIx (ag 4) (fBM "list" sB (ag 4) (ac (ag 3) ai))) ai)))))) (bx (fC (.bl false))) bZ)
  (bi (bB jc (ac (ag 1) (ac (ag 3) ai))) 1)))
def nk:FS :=
  (aL (sIf (kL (fR (aH (fCB b7 (ac (ag 0) (ac (fC (.ty "list")) ai))))) (aH (fOp lQ (fCB cA (ac (ag 0) ai)) (bF jV (ac (ag 1) (ac (ag 2) ai)))))) (bx (fC (.bl false))) bZ)
  (aL (gz (fIA (ag 0)) (gN 3) iw)
  (bx (fOp sh (ag 1) (ag 2)))))
def eP:List D->Option Rz:=bC nk 5 3
def Jp:FS :=
  (aL (bi (bB lc (ac (ag 0) ai)) 1)
  (aL (bi (fIO jR 1 (ac (fIO aG 1 (ac (fC (.int 13)) ai)) ai)) 2)
  (aL (bi (yO kw 1 [.bl true] (ac (ag 2) ai)) 3)
  (aL (bi (fIO jW 1 (ac (ag 3) (ac (ag 2) ai))) 4)
  (aL (bi (bB ft (ac (ag 3) ai)) 5)
  (aL (bi (bB ft (ac (ag 4) ai)) 6)
  (aL (bi (bB fI (ac (ag 3) (ac (ag 4) ai))) 7)
  (aL (bi (fCB ik (ac (ag 7) ai)) 8)
  (aL (sIf (fR (aH (oX eP (ac (ag 7) (ac (ag 5) (ac (ag 6) ai)))))) (bx (fC (.bl false))) bZ)
  (aL (cx (fM isL bw 7 (ac (fC .non) ai)))
  (aL (oG lN (fC .non) 7 (fC (.int 0)))
  (aL (sIf (fR (aH (oX eP (ac (bB fI (ac (ag 4) (ac (ag 3) ai))) (ac (ag 6) (ac (ag 5) ai)))))) (bx (fC (.bl false))) bZ)
  (bx (gW (bF (eW 8) (ac (bB fI (ac (ag 3) (ac (ag 4) ai))) (ac (ag 8) ai))) (bF (eW 8) (ac (bB fI (ac (ag 4) (ac (fIO fu 1 (ac (ag 4) ai)) ai))) (ac (dw ai) ai)))))))))))))))))
end
end K34
namespace K34
open PySem L2 VF VF22
abbrev nl0:List Str:=["thing"]
abbrev nl1:List Str:=["bead"]
abbrev nl2:List Str:=["joint"]
abbrev nl3:List Str:=["_law_bead"]
abbrev nl4:List Str:=["joints"]
abbrev nl5:List Str:=["one","other"]
abbrev nl6:List Str:=["ours","theirs"]
abbrev nl7:List Str:=["_law_flow_here","_law_many"]
abbrev nl8:List Str:=["things"]
abbrev nl9:List Str:=["_law_script"]
abbrev zf:List Str:=["_law_found","_law_due"]
abbrev zg:List Str:=["_law_kind","_law_beads"]
abbrev FK:List Str:=["_law_flow_here","_law_names_here"]
abbrev FL:List Str:=["_law_flow_here","_law_some","_law_rings","_law_strands","_law_k","_law_kind","_law_beads","_law_way","_law_low","_law_high","_law_other_here"]
abbrev FM:List Str:=["_law_joints_here","_law_deed"]
abbrev HQ:List Str:=["one","other","apart","cuts"]
abbrev HR:List Str:=["_law_joints_here","_law_theirs"]
abbrev HS:List Str:=["_law_joints_here","_law_theirs","_law_mine"]
abbrev HU:List Str:=["_law_flow_here","_law_some","_law_names_here"]
abbrev Lh:List Str:=["things","count","thing","name","lacked"]
abbrev Li:List Str:=["thing","gone","come","ends"]
abbrev Lj:List Str:=["_law_some","_law_joints_here","_law_kind","_law_beads","_law_ends_here","_law_k"]
abbrev Lk:List Str:=["_law_flow_here","_law_some","_law_told","_law_kind","_law_beads","_law_at"]
abbrev MR:List Str:=["strand","beads","begin","end","outer"]
abbrev MS:List Str:=["_law_flow_here","_law_many","_law_cell","_law_digit"]
abbrev MT:List Str:=["_law_flow_here","_law_stem","_law_words"]
abbrev MU:List Str:=["_law_flow_here","_law_many","_law_stem","_law_names_here","_law_k","_law_name_here","_law_spare"]
abbrev MV:List Str:=["_law_flow_here","_law_things","_law_left","_law_told"]
abbrev MW:List Str:=["_law_flow_here","_law_names_here","_law_rings","_law_strands","_law_piece","_law_bead"]
abbrev MX:List Str:=["_law_flow_here","_law_names_here","_law_rings"]
abbrev MY:List Str:=["_law_flow_here","_law_some","_law_rings"]
abbrev MZ:List Str:=["_law_joints_here","_law_theirs","_law_found","_law_joint"]
abbrev M1:List Str:=["_law_told","_law_joints_here","_law_theirs","_law_deed","_law_every"]
abbrev M3:List Str:=["_law_told","_law_joints_here","_law_theirs"]
abbrev M4:List Str:=["_law_script","_law_flow_here","_law_names_here","_law_some","_law_other_here","_law_joints_here","_law_theirs","_law_told","_law_kept"]
def top(i:Nat):Stmt:=PySem.Challenge.pw_strandwright_k34_whole_rows_by_one.main.body.getD i (.Pass ⟨0,0,0,0⟩)
abbrev n9:Stmt:=top 7
abbrev mO:Stmt:=top 8
abbrev sC:Stmt:=top 9
abbrev mP:Stmt:=top 10
abbrev pC:Stmt:=top 11
abbrev lZ:Stmt:=top 12
abbrev pD:Stmt:=top 14
abbrev gf:Stmt:=top 15
abbrev pE:Stmt:=top 17
abbrev mQ:Stmt:=top 18
abbrev pF:Stmt:=top 19
abbrev og:Stmt:=top 20
abbrev vZ:Stmt:=top 21
abbrev ma:Stmt:=top 22
abbrev gh:Stmt:=top 23
abbrev ix:Stmt:=top 24
abbrev mR:Stmt:=top 25
abbrev oh:Stmt:=top 28
abbrev sE:Stmt:=top 29
abbrev sF:Stmt:=top 30
abbrev oi:Stmt:=top 31
abbrev FN:Stmt:=top 32
abbrev v0:Stmt:=top 33
abbrev md:Stmt:=top 35
abbrev gi:Stmt:=top 36
abbrev jX:Stmt:=top 37
abbrev d7:Stmt:=top 38
abbrev sG:Stmt:=top 39
abbrev v4:Stmt:=top 41
abbrev v5:Stmt:=top 42
abbrev kx:Stmt:=top 43
abbrev v6:Stmt:=top 44
abbrev sH:Stmt:=top 45
abbrev lm:Stmt:=top 46
abbrev lw:Stmt:=top 47
abbrev sI:Stmt:=top 48
abbrev FP:Stmt:=top 49
abbrev mS:Stmt:=top 50
abbrev oj:Stmt:=top 51
abbrev v7:Stmt:=top 52
abbrev me:Stmt:=top 53
abbrev mf:Stmt:=top 54
abbrev jf:Stmt:=top 55
abbrev v8:Stmt:=top 56
abbrev mi:Stmt:=top 57
abbrev sJ:Stmt:=top 58
abbrev sK:Stmt:=top 59
abbrev Ll:Stmt:=top 60
def v9:FnScope nl0 nl0 (aw n9):=fsc (by decide +kernel)
def sL:FnScope nl1 nl1 (aw mO):=fsc (by decide +kernel)
def wa:FnScope nl1 nl1 (aw sC):=fsc (by decide +kernel)
def sM:FnScope nl1 nl1 (aw mP):=fsc (by decide +kernel)
def sc_sbeadsin:FnScope ["thing","beads","part"] nl0 (aw pC):=fsc (by decide +kernel)
def uG:FnScope nl0 nl0 (aw lZ):=fsc (by decide +kernel)
def uH:FnScope nl0 nl0 (aw pD):=fsc (by decide +kernel)
def sc_srefuselacks:FnScope Lh nl8 (aw gf):=fsc (by decide +kernel)
def uI:FnScope nl1 nl1 (aw pE):=fsc (by decide +kernel)
def sN:FnScope nl1 nl1 (aw mQ):=fsc (by decide +kernel)
def uJ:FnScope ["ends"] ["ends"] (aw pF):=fsc (by decide +kernel)
def wc:FnScope nl8 nl8 (aw og):=fsc (by decide +kernel)
def zh:FnScope nl0 nl0 (aw vZ):=fsc (by decide +kernel)
def uK:FnScope nl0 nl0 (aw ma):=fsc (by decide +kernel)
def nL:FnScope ["beads"] ["beads"] (aw gh):=fsc (by decide +kernel)
def sc_sstrandjoints:FnScope MR ["strand"] (aw ix):=fsc (by decide +kernel)
def sc_sjointsof:FnScope ["some","joints","strand"] ["some"] (aw mR):=fsc (by decide +kernel)
def wd:FnScope nl0 nl0 (aw oh):=fsc (by decide +kernel)
def zi:FnScope nl4 nl4 (aw sE):=fsc (by decide +kernel)
def sc_sendsof:FnScope ["joints","ends","joint"] nl4 (aw sF):=fsc (by decide +kernel)
def sc_sisdeed:FnScope Li nl0 (aw oi):=fsc (by decide +kernel)
def FQ:FnScope ["deed"] ["deed"] (aw FN):=fsc (by decide +kernel)
def zj:FnScope nl2 nl2 (aw v0):=fsc (by decide +kernel)
def uL:FnScope nl4 nl4 (aw md):=fsc (by decide +kernel)
def nM:FnScope nl6 nl6 (aw gi):=fsc (by decide +kernel)
def pG:FnScope nl6 nl6 (aw jX):=fsc (by decide +kernel)
def sc_scutsandjoins:FnScope HQ nl5 (aw d7):=fsc (by decide +kernel)
def sc_srowone:FnScope ["one","other","both"] nl5 (aw sG):=fsc (by decide +kernel)
def zk:FnScope nl9 nl9 (aw v4):=fsc (by decide +kernel)
def sc_sLpick:FnScope MS nl7 (aw v5):=fsc (by decide +kernel)
def sO:FnScope nl7 nl7 (aw kx):=fsc (by decide +kernel)
def sc_sLname:FnScope MT ["_law_flow_here","_law_stem"] (aw v6):=fsc (by decide +kernel)
def sc_sLnames:FnScope MU nl7 (aw sH):=fsc (by decide +kernel)
def sc_sLshuffled:FnScope MV ["_law_flow_here","_law_things"] (aw lm):=fsc (by decide +kernel)
def qo:FnScope nl3 nl3 (aw lw):=fsc (by decide +kernel)
def zm:FnScope FK FK (aw sI):=fsc (by decide +kernel)
def sc_sLset:FnScope MW MX (aw FP):=fsc (by decide +kernel)
def sc_sLnear:FnScope FL MY (aw mS):=fsc (by decide +kernel)
def we:FnScope zf zf (aw oj):=fsc (by decide +kernel)
def zn:FnScope nl3 nl3 (aw v7):=fsc (by decide +kernel)
def sc_sLjoints:FnScope Lj ["_law_some"] (aw me):=fsc (by decide +kernel)
def uM:FnScope FM FM (aw mf):=fsc (by decide +kernel)
def sc_sLrestated:FnScope Lk ["_law_flow_here","_law_some"] (aw jf):=fsc (by decide +kernel)
def sc_sLgood:FnScope MZ HR (aw v8):=fsc (by decide +kernel)
def sc_sLapart:FnScope HS HR (aw mi):=fsc (by decide +kernel)
def wg:FnScope HU HU (aw sJ):=fsc (by decide +kernel)
def sc_sLright:FnScope M1 M3 (aw sK):=fsc (by decide +kernel)
def sc_slaw:FnScope M4 nl9 (aw Ll):=fsc (by decide +kernel)
structure Md(K:Ab)(mg:Str->Option Value):Prop where
 n_all:mg "all"=none
 n_bool:mg "bool"=none
 n_int:mg "int"=none
 n_isinstance:mg "isinstance"=none
 n_len:mg "len"=none
 n_list:mg "list"=none
 n_range:mg "range"=none
 n_sorted:mg "sorted"=none
 n_str:mg "str"=none
 n_tuple:mg "tuple"=none
 n_zip:mg "zip"=none
 c_LETTERS:∃t,mg "LETTERS"=some (.str "abcdefghijklmnopqrstuvwxyz" t)
 c_LONGEST_NAME:∃t,mg "LONGEST_NAME"=some (.int 6 t)
 c_FORMS:GlT K mg "FORMS" [.tup [.tup [.int 2],.tup [.int 1,.int 1]],.tup [.tup [.int 1,.int 1],.tup [.int 2]],.tup [.tup [.int 2,.int 2],.tup [.int 2,.int 2]],.tup [.tup [.int 1,.int 2],.tup [.int 1,.int 2]]]
end K34
namespace VF
open PySem L2
def wj{i j:Int}(h:CMul i j):nI (.int i) (.int j)=some (.int (i*j),false):=by
 have:wW (.int i) (.int j)=some (.int (i*j),false):=by
  show(if CMul i j then some (D.int (i*j),false) else none)=_;rw[Ae h]
 unfold nI orD;rw[this]
def FR{i j:Int}(h:0<j):oI (.int i) (.int j)=some (.int (i % j),false):=by
 show(if 0<j then some (D.int (i % j),false) else none)=_;rw[Ae h]
def Lm{i j:Int}(h:vt i j):vH (.int i) (.int j)=some (.int (i / j),false):=by
 show(if vt i j then some (D.int (i / j),false) else none)=_;rw[Ae h]
def jg{ds:List D}{i:Int}{d:D}(h:atI ds i=some d):bIx (.lst ds) (.int i)=some (d,false):=by
 have:Ed (.lst ds) (.int i)=some (d,false):=by
  show(atI ds i).bind (fun d=>some (d,false))=_;rw[h];rfl
 unfold bIx orD;rw[this]
def ix_tup{ds:List D}{i:Int}{d:D}(h:atI ds i=some d):bIx (.tup ds) (.int i)=some (d,false):=by
 have e1:Ed (.tup ds) (.int i)=none:=rfl;have:He (.tup ds) (.int i)=some (d,false):=by
  show(atI ds i).bind (fun d=>some (d,false))=_;rw[h];rfl
 unfold bIx orD;rw[e1,this]
def f8{f:FT}{st s:En}{b c:Bool}(h:f st=some (b,s))(e:b=c):f st=some (c,s):=e ▸ h
def pH{mm:D->D->D->Option D}{fe fi:FE}{i:Nat}{st s1 s2 s3:En}{r rk:Rs}{dv dk z z':D}{t t0:Sl}{x0:D}(h1:fe st=some (r,s1))(h2:esc r s1=some (dv,s2))(h0:s2[i]?=some t0)(h00:t0.ow=some x0)(h3:fi s2=some (rk,s3))(h4:cont s3 rk=some dk)(h5:s3[i]?=some t)(h6:t.ow=some z)(h7:mm z dk dv=some z'){s4:En}(h8:s3.set i (t.put z')=s4:=by rfl):oG mm fe i fi st=some (.nx s4):=by
 simp only[oG,h1,h2,h0,h00,h3,h4,h5,h6,h7,h8,Wa]
end VF
namespace K34
open PySem L2 VF
def Fl(ns:List Int)(i m sd c:Int):D:=.lst [.lst (ns.map D.int),.int i,.int m,.int sd,.int c]
def ci(φ:D):Prop:=∃ns i m sd c,φ=Fl ns i m sd c/\0<=i/\0<=m/\0<=sd/\0<=c
def HV(ns:List Int):lc [.fl (ns.map D.int)]=some (Fl ns 0 0 1 0,true):=rfl
def b9{φ : D}{n : Int}(hφ : ci φ)(h0 : 0 < n)(h1 : n ≤ 1000) : ∃ d φ', aG φ [.int n] = some ((.int d, false), φ') ∧ 0 ≤ d ∧ d < n ∧ ci φ' := by
  obtain ⟨ns, i, m, sd, c, rfl, hi, hm, hs, hc⟩ := hφ;have sp : ∃ A B, ld = aL A B ∧
     (∃ o i' m' sd', A [.io (Fl ns i m sd c), .v (.int n), .e, .e] = some (.nx [.io (Fl ns i' m' sd' c), .v (.int n), o, .e]) ∧ 0 ≤ i' ∧ 0 ≤ m' ∧ 0 ≤ sd') ∧
     (∀ o i m sd, 0 ≤ i → 0 ≤ m → 0 ≤ sd → ∃ d φ' s3, B [.io (Fl ns i m sd c), .v (.int n), o, .e] = some (.rt (.d (.int d)) [.io φ', .v (.int n), o, s3]) ∧ 0 ≤ d ∧ d < n ∧ ci φ') := by
    refine ⟨_, _, rfl, ?_, ?_⟩
    · by_cases c1 : m = 0
      · subst c1
        by_cases c2 : i < ((ns.map D.int).length : Int)
        · obtain ⟨v, hv, hm', _⟩ := vD hi c2
          obtain ⟨z, _, rfl⟩ := List.mem_map.mp hm';have t2 : eT (aH (fOp bEq (fOp bIx (ag 0) (fC (.int 2))) (fC (.int 0)))) (aH (fOp bLt (fOp bIx (ag 0) (fC (.int 1))) (fCB cA (ac (fOp bIx (ag 0) (fC (.int 0))) ai)))) [.io (Fl ns i 0 sd c), .v (.int n), .e, .e] = some (true, [.io (Fl ns i 0 sd c), .v (.int n), .e, .e]) :=
            fT rfl (f8 (b := decide (i < ((ns.map D.int).length : Int))) rfl (Af c2))
          by_cases c3 : (10 : Int) ^ (18 : Int).toNat ≤ z
          · have p18 : (0 : Int) ≤ 10 ^ (18 : Int).toNat := by decide
            refine ⟨.v (.int z), i + 1, z, sd, ?_, by lia, by lia, hs⟩
            refine fS t2 ?_;refine aC (db (x := .int z) (aE rfl rfl rfl rfl (jg hv)) rfl) ?_;refine aC (s := [.io (Fl ns (i + 1) 0 sd c), .v (.int n), .v (.int z), .e]) rfl ?_;refine fS (f8 (b := decide ((10 : Int) ^ (18 : Int).toNat ≤ z)) (s := [.io (Fl ns (i + 1) 0 sd c), .v (.int n), .v (.int z), .e]) rfl (Af c3)) ?_;rfl
          · refine ⟨.v (.int z), i + 1, 0, (sd * 40013 + z % 1000003 + 1) % 2147483647, ?_, by lia, by lia, Bm _ (by decide)⟩
            refine fS t2 ?_;refine aC (db (x := .int z) (aE rfl rfl rfl rfl (jg hv)) rfl) ?_;refine aC (s := [.io (Fl ns (i + 1) 0 sd c), .v (.int n), .v (.int z), .e]) rfl ?_;refine cJ (f8 (b := decide ((10 : Int) ^ (18 : Int).toNat ≤ z)) (s := [.io (Fl ns (i + 1) 0 sd c), .v (.int n), .v (.int z), .e]) rfl (Ag c3)) ?_;exact pH (aE (aE (aE (aE rfl rfl rfl rfl (wj (j := 40013) (.inr ⟨by decide, by decide⟩))) rfl rfl rfl rfl) rfl rfl rfl rfl) rfl rfl rfl rfl) rfl rfl rfl rfl rfl rfl rfl rfl
        · refine ⟨.e, i, 0, sd, ?_, hi, hm, hs⟩
          exact cJ (fT (s := [.io (Fl ns i 0 sd c), .v (.int n), .e, .e]) rfl (f8 (b := decide (i < ((ns.map D.int).length : Int))) rfl (Ag c2))) rfl
      · refine ⟨.e, i, m, sd, ?_, hi, hm, hs⟩
        have e : decide (V.int m = V.int 0) = false := Ag fun z => c1 (V.int.inj z);exact cJ (jm (f8 (b := decide (V.int m = V.int 0)) (s := [.io (Fl ns i m sd c), .v (.int n), .e, .e]) rfl e)) rfl
    · intro o i m sd hi hm hs
      by_cases c1 : 0 < m
      · refine ⟨m % n, Fl ns i (m / n) sd c, .v (.int (m % n)), ?_, Bm _ (by lia), Cz _ h0, ⟨ns, i, m / n, sd, c, rfl, hi, Int.ediv_nonneg hm (by lia), hs, hc⟩⟩
        refine iV ?_;refine fS (f8 (b := decide (0 < m)) (s := [.io (Fl ns i m sd c), .v (.int n), o, .e]) rfl (Af c1)) ?_;refine aC (s := [.io (Fl ns i m sd c), .v (.int n), o, .v (.int (m % n))]) (db (aE rfl rfl rfl rfl (FR h0)) rfl) ?_;refine aC (s := [.io (Fl ns i (m / n) sd c), .v (.int n), o, .v (.int (m % n))]) (pH (aE rfl rfl rfl rfl (Lm ⟨h0, by lia⟩)) rfl rfl rfl rfl rfl rfl rfl rfl) ?_
        rfl
      · refine ⟨(((sd * 48271 + 12820163 + (c + 1)) % 2147483647 % 65521 + 1) * ((sd * 48271 + 12820163 + (c + 1)) % 2147483647 / 65521 + 7919) % 1000003 / 7) % n, Fl ns i m ((sd * 48271 + 12820163 + (c + 1)) % 2147483647) (c + 1), .e, ?_, ?_, ?_, ⟨ns, i, m, _, _, rfl, hi, hm, Bm _ (by decide), by lia⟩⟩
        · refine aC (cJ (f8 (b := decide (0 < m)) (s := [.io (Fl ns i m sd c), .v (.int n), o, .e]) rfl (Ag c1)) rfl) ?_
          refine aC (s := [.io (Fl ns i m sd (c + 1)), .v (.int n), o, .e]) rfl ?_;refine aC (s := [.io (Fl ns i m ((sd * 48271 + 12820163 + (c + 1)) % 2147483647) (c + 1)), .v (.int n), o, .e]) (pH (aE (aE (aE (aE rfl rfl rfl rfl (wj (j := 48271) (.inr ⟨by decide, by decide⟩))) rfl rfl rfl rfl) rfl rfl rfl rfl) rfl rfl rfl rfl) rfl rfl rfl rfl rfl rfl rfl rfl) ?_
          have a := Bm ((sd * 48271 + 12820163 + (c + 1)) % 2147483647) (show (65521 : Int) ≠ 0 by decide)
          have b := Cz ((sd * 48271 + 12820163 + (c + 1)) % 2147483647) (show (0 : Int) < 65521 by decide)
          exact aU (aE (aE (aE (aE rfl rfl rfl rfl (wj (.inl ⟨by lia, by lia⟩))) rfl rfl rfl rfl) rfl rfl rfl rfl) rfl rfl rfl (FR h0))
        · exact Bm _ (by lia)
        · exact Cz _ h0
  obtain ⟨A, B, eF, ⟨o, i', m', sd', eA, hi', hm', hs'⟩, hB⟩ := sp;obtain ⟨d, φ', s3, eB, h2, h3, h4⟩ := hB o i' m' sd' hi' hm' hs';refine ⟨d, φ', ?_, h2, h3, h4⟩;refine cC (o := .rt (.d (.int d)) [.io φ', .v (.int n), o, s3]) rfl ?_ rfl;rw [eF];exact aC eA eB
end K34
namespace K34
open PySem L2 VF VL
def ly{φ:D}{k:Int}(hφ:ci φ)(h0:0<=k)(h1:k<=100):∃x φ',d6 φ [.int k]=some ((.str x,false),φ')/\(x.length:Int)=k/\Lw x/\ci φ':=by
 have hE:(Str.ofString "").length=0:=by decide +kernel
 have cl:=qL (fg:=gN 0) (fc:=cg) (k:=1) (fe:=fOp bIx (fC (.str "abcdefghijklmnopqrstuvwxyz")) (fIO aG 1 (ac (fC (.int 26)) ai)))
  (fun pre sb=>∃φ' ys,sb=[.e,.io φ']/\ci φ'/\pre=ys.map D.str/\∀y∈ys,∃c,y=(⟨#[c]⟩:Str)/\97<=c/\c<=122) (by
   rintro pre x sb ⟨φ',ys,rfl,hf,rfl,hy⟩;obtain⟨d,φ2,e,d0,d1,hf2⟩:=b9 (n:=26) hf (by decide) (by decide)
   obtain⟨c,hc,hm,_⟩:=vD (xs:=letS.cps.toList) d0 (by rw[oY,List.length_range'];exact d1)
   refine⟨[.v x,.io φ'],[.v x,.io φ'],.d (.str ⟨#[c]⟩),[.v x,.io φ2],.str ⟨#[c]⟩,[.v x,.io φ2],rfl,rfl,aE rfl (bY rfl rfl rfl rfl rfl rfl e) rfl rfl (ix_str (by decide +kernel) hc),rfl,φ2,ys++[⟨#[c]⟩],rfl,hf2,by rw[Zc];rfl,fun y hy2=>?_⟩
   rcases Wc.mp hy2 with z|z
   ·exact hy y z
   ·have:y=⟨#[c]⟩:=by simpa using z
    rw[oY,List.mem_range'_1]at hm
    exact⟨c,this,by lia⟩)
  (rng 0 k.toNat) [] [.e,.io φ] ⟨φ,[],rfl,hφ,rfl,fun y hy=>by cases hy⟩
 obtain⟨ds,sf,e1,e2,φ',ys,rfl,hf,e3,hy⟩:=cl;rw[AY]at e3;subst e3;rw[gX,Ya]at e2;have hy':∀y∈ys,∃c,y=(⟨#[c]⟩:Str):=fun y h=>by obtain⟨c,e,_⟩:=hy y h;exact⟨c,e⟩
 refine⟨Txt.join (Str.ofString "") ys,φ',?_,by rw[join_ones hy'];lia,FB hy,hf⟩
 have hj:Ej (.str "") [.lst (ys.map D.str)]=some (.str (Txt.join (Str.ofString "") ys),false):=by
  show(mF (ys.map D.str)).bind (fun ys=>if (ys.map (·.length)).sum+ys.length*(Str.ofString "").length<=16777216 then some (D.str (Txt.join (Str.ofString "") ys),false) else none)=_;rw[oM];show(if _ then _ else _)=_;rw[Ae (by rw[FC hy',hE];lia)]
 refine cC (o:=.rt (.d (.str (Txt.join (Str.ofString "") ys))) [.io φ',.v (.int k)]) rfl ?_ rfl
 exact aU (Je rfl rfl rfl (aj (bO (iW rfl rfl ⟨by lia,by lia⟩) (by
  show(true&&decide ((rng 0 k.toNat).length<=1000000))=true
  rw[gX,Af (by lia)];rfl) e1) rfl) rfl rfl hj)
abbrev w1:List Str:=["to","turn","turns","ring","rings","odd","ours","row","rows","cuts","knots","cover"]
abbrev w2:List Str:=["change","joins","theirs","one","two","home","none","open","keep","tox","onex"]
abbrev wordsS:List Str:=w1++w2
def okN(x:Str):Bool:=decide (1<=x.length/\x.length<=6)&&x.cps.toList.all fun c=>decide (97<=c/\c<=122)
def Ln{x:Str}(h:okN x=true):Nm x:=by
 unfold okN at h;rw[Xh,decide_eq_true_eq,Xk]at h;exact⟨h.1.1,h.1.2,fun c hc=>Am (h.2 c hc)⟩
def FU:∀v∈wordsS,okN v=true:=Xk.mp (by decide +kernel)
def HW{φ:D}{st:Str}(hφ:ci φ)(hst:st.length<=4)(lst:Lw st):∃x φ',lf φ [.str st]=some ((.str x,false),φ')/\Nm x/\ci φ':=by
 by_cases c0:st=""
 ·subst c0;obtain⟨d,φ1,e1,d0,d1,f1⟩:=b9 (n:=7) hφ (by decide) (by decide)
  by_cases c1:d=0
  ·subst c1;obtain⟨d2,φ2,e2,d20,d21,f2⟩:=b9 (n:=23) f1 (by decide) (by decide)
   obtain⟨v,hv,hm,_⟩:=vD (xs:=wordsS.map D.str) d20 (by rw[Ya];exact d21)
   obtain⟨x,hx,rfl⟩:=Xc.mp hm;refine⟨x,φ2,?_,Ln (FU x hx),f2⟩;refine cC (o:=.rt (.d (.str x)) [.io φ2,.v (.str ""),.o (.lst (wordsS.map D.str))]) rfl ?_ rfl;refine aC (s:=[.io φ,.v (.str ""),.e]) rfl ?_;refine iV ?_;refine fS (s:=[.io φ1,.v (.str ""),.e]) (aQ (aE (bY rfl rfl rfl rfl rfl rfl e1) rfl rfl rfl rfl) rfl) ?_;refine aC (s:=[.io φ1,.v (.str ""),.o (.lst (w1.map D.str))]) rfl ?_;refine aC (s:=[.io φ1,.v (.str ""),.o (.lst (wordsS.map D.str))]) rfl ?_;exact aU (aE rfl (bY rfl rfl rfl rfl rfl rfl e2) rfl rfl (jg hv))
  ·obtain⟨d2,φ2,e2,d20,d21,f2⟩:=b9 (n:=6) f1 (by decide) (by decide)
   obtain⟨x,φ3,e3,hx,lx,f3⟩:=ly (k:=1+d2) f2 (by lia) (by lia)
   refine⟨x,φ3,?_,⟨by lia,by lia,lx⟩,f3⟩
   refine cC (o:=.rt (.d (.str x)) [.io φ3,.v (.str ""),.e]) rfl ?_ rfl;refine aC (s:=[.io φ,.v (.str ""),.e]) rfl ?_;have t:decide (V.int d=V.int 0)=false:=Ag fun z=>c1 (V.int.inj z);refine aC (cJ (s:=[.io φ1,.v (.str ""),.e]) (f8 (b:=decide (V.int d=V.int 0)) (aQ (aE (bY rfl rfl rfl rfl rfl rfl e1) rfl rfl rfl rfl) rfl) t) rfl) ?_;exact aU (bY rfl rfl (aj (aE rfl (bY rfl rfl rfl rfl rfl rfl e2) rfl rfl rfl) rfl) rfl rfl rfl e3)
 ·obtain⟨d,φ1,e1,d0,d1,f1⟩:=b9 (n:=2) hφ (by decide) (by decide)
  obtain⟨x,φ2,e2,hx,lx,f2⟩:=ly (k:=1+d) f1 (by lia) (by lia)
  refine⟨st++x,φ2,?_,⟨by rw[AK];lia,by rw[AK];lia,lst.app lx⟩,f2⟩
  refine cC (o:=.rt (.d (.str (st++x))) [.io φ2,.v (.str st),.e]) rfl ?_ rfl;refine iV ?_;have t:(!decide (V.str st=V.str ""))=true:=by rw[Ag (fun z=>c0 (V.str.inj z))];rfl
  refine fS (s:=[.io φ,.v (.str st),.e]) (f8 (b:=!decide (V.str st=V.str "")) rfl t) ?_;exact aU (aE rfl (bY rfl rfl (aj (aE rfl (bY rfl rfl rfl rfl rfl rfl e1) rfl rfl rfl) rfl) rfl rfl rfl e2) rfl rfl (nZ (by lia)))
end K34
namespace VF
open PySem L2
def bE{i:Nat}{s t:Sl}{st s1:En}(h:st[i]?=some t)(n:t.isIo=false)(e:st.set i s=s1:=by rfl):mB i s st=some s1:=by
 unfold mB;rw[h];show(if t.isIo=true then none else some (st.set i s))=_;rw[Ak (by rw[n];decide),e]
def dR{xs:List D}{y:D}(h:xs.length<1000000):bw (.lst xs) [y]=some (.non,.lst (xs++[y])):=by
 show(if xs.length<1000000 then some (D.non,D.lst (xs++[y])) else none)=_;rw[Ae h]
def pI{xs:List D}{i:Int}(h0:0<=i)(h1:i<xs.length)(h2:xs.length<=1000000)(hk:i.toNat<xs.length):ij (.lst xs) [.int i]=some (xs[i.toNat],.lst (xs.eraseIdx i.toNat)):=by
 show(if -(2 ^ 63)<=i/\i<2 ^ 63 then(seqIndex? i xs.length).bind fun k=>(xs[k]?).bind fun y=>some (y,D.lst (xs.eraseIdx k)) else none)=_;rw[Ae ⟨by lia,by lia⟩,PySem.seqIndex_of h0 h1]
 show(xs[i.toNat]?).bind (fun y=>some (y,D.lst (xs.eraseIdx i.toNat)))=_;rw[Za hk];rfl
def zo(xs:List D):ik [.lst xs]=some (.lst xs,true):=rfl
def gj{α:Type}{f:α->D}{g:D->α}(hg:∀a,g (f a)=a){ys:List D}{xs:List α}(p:ys.Perm (xs.map f)):∃zs:List α,ys=zs.map f/\zs.Perm xs:=by
 have h1:∀y∈ys,∃z,y=f z:=fun y hy=>by
  obtain⟨z,_,rfl⟩:=Xc.mp (p.mem_iff.mp hy);exact⟨z,rfl⟩
 refine⟨ys.map g,?_,?_⟩
 ·rw[Vg];refine(A9 ys).symm.trans (Yl fun y hy=>?_);obtain⟨z,rfl⟩:=h1 y hy;show f z=f (g (f z));rw[hg]
 ·have:=p.map g;rw[Vg]at this;refine this.trans (List.Perm.of_eq ?_);exact(Yl fun z _=>hg z).trans (A9 xs)
end VF
namespace K34
open PySem L2 VF VL
def FV{φ:D}{n:Int}(hφ:ci φ)(h0:0<=n)(h1:n<=100):∃(xs:List Str)(φ':D),jR φ [.int n]=some ((.lst (xs.map D.str),true),φ')/\(xs.length:Int)=n/\(∀x∈xs,Nm x)/\xs.Nodup/\ci φ':=by
 obtain⟨d,φ1,e1,d0,d1,f1⟩:=b9 (n:=3) hφ (by decide) (by decide)
 have sp:∃A B C R,jQ=aL A (aL B (aL C R)) /\
   (∃st φ2,A [.io φ,.v (.int n),.e,.e,.e,.e,.e]=some (.nx [.io φ,.v (.int n),.v (.str ""),.e,.e,.e,.e])/\B [.io φ,.v (.int n),.v (.str ""),.e,.e,.e,.e]=some (.nx [.io φ2,.v (.int n),.v (.str st),.e,.e,.e,.e]) /\
    C [.io φ2,.v (.int n),.v (.str st),.e,.e,.e,.e]=some (.nx [.io φ2,.v (.int n),.v (.str st),.o (.lst []),.e,.e,.e])/\ci φ2/\st.length<=4/\Lw st) /\
   (∀st φ2,ci φ2->st.length<=4->Lw st->∃(xs:List Str)(φ':D)(o4 o5 o6:Sl),R [.io φ2,.v (.int n),.v (.str st),.o (.lst []),.e,.e,.e]=some (.rt (.s 3) [.io φ',.v (.int n),.v (.str st),.o (.lst (xs.map D.str)),o4,o5,o6])/\(xs.length:Int)=n/\(∀x∈xs,Nm x)/\xs.Nodup/\ci φ'):=by
  refine⟨_,_,_,_,rfl,?_,?_⟩
  ·by_cases c:d=0
   ·subst c;obtain⟨d2,φ2,e2,d20,d21,f2⟩:=b9 (n:=4) f1 (by decide) (by decide)
    obtain⟨x,φ3,e3,hx,lx,f3⟩:=ly (k:=1+d2) f2 (by lia) (by lia)
    refine⟨x,φ3,rfl,?_,rfl,f3,by lia,lx⟩
    refine fS (s:=[.io φ1,.v (.int n),.v (.str ""),.e,.e,.e,.e]) (aQ (aE (bY rfl rfl rfl rfl rfl rfl e1) rfl rfl rfl rfl) rfl) ?_;exact db (bY rfl rfl (aj (aE rfl (bY rfl rfl rfl rfl rfl rfl e2) rfl rfl rfl) rfl) rfl rfl rfl e3) rfl
   ·refine⟨"",φ1,rfl,?_,rfl,f1,by decide +kernel,FD⟩
    have t:decide (V.int d=V.int 0)=false:=Ag fun z=>c (V.int.inj z);exact cJ (s:=[.io φ1,.v (.int n),.v (.str ""),.e,.e,.e,.e]) (f8 (b:=decide (V.int d=V.int 0)) (aQ (aE (bY rfl rfl rfl rfl rfl rfl e1) rfl rfl rfl rfl) rfl) t) rfl
  ·intro st φ2 f2 hst lst
   have lp:∀(fg:FG)(B:FS),fg=gN 4->(∀(φ':D)(xs:List Str)(k:D)(o5 o6:Sl),ci φ'->xs.length<=200->(∀x∈xs,Nm x)->xs.Nodup->xs.length<=110->o5.isIo=false->o6.isIo=false ->
     ∃φ2 x o6',B [.io φ',.v (.int n),.v (.str st),.o (.lst (xs.map D.str)),.v k,o5,o6]=some (.nx [.io φ2,.v (.int n),.v (.str st),.o (.lst ((xs++[x]).map D.str)),.v k,.v (.str x),.v o6'])/\ci φ2/\Nm x/\x∉xs) ->
     ∃(xs:List Str)(φ':D)(o4 o5 o6:Sl),aL (gz (qg (ac (ag 1) ai)) fg B) (bx (ag 3)) [.io φ2,.v (.int n),.v (.str st),.o (.lst []),.e,.e,.e]=some (.rt (.s 3) [.io φ',.v (.int n),.v (.str st),.o (.lst (xs.map D.str)),o4,o5,o6])/\(xs.length:Int)=n/\(∀x∈xs,Nm x)/\xs.Nodup/\ci φ':=by
    intro fg B hfg hB;subst hfg;obtain⟨sf,e,φ',xs,o4,o5,o6,rfl,hf,hl,hx,nd,_⟩:=oN (fg:=gN 4) (B:=B) (rng 0 n.toNat) (fun gone s=>∃(φ':D)(xs:List Str)(o4 o5 o6:Sl),s=[.io φ',.v (.int n),.v (.str st),.o (.lst (xs.map D.str)),o4,o5,o6]/\ci φ'/\xs.length=gone.length/\(∀x∈xs,Nm x)/\xs.Nodup/\o4.isIo=false/\o5.isIo=false/\o6.isIo=false)
     (fun gone x rest s ha zz8=>by
      obtain⟨φ',xs,o4,o5,o6,hs,hf,hl,hx,nd,q4,q5,q6⟩:=zz8;subst hs;have hg:=congrArg List.length ha;rw[gX,Xa,Xd]at hg;obtain⟨φ3,y,o6',eB,f3,ny,hy⟩:=hB φ' xs x o5 o6 hf (by lia) hx nd (by lia) q5 q6
      refine⟨_,_,bE rfl q4,eB,φ3,xs++[y],.v x,.v (.str y),.v o6',rfl,f3,by simp[hl],fun z hz=>?_,?_,rfl,rfl,rfl⟩
      ·rcases Wc.mp hz with w|w
       ·exact hx z w
       ·have:z=y:=by simpa using w
        rw[this];exact ny
      ·rw[Vm]
       exact⟨nd,by simp,fun a ha b hb e=>by
        have:b=y:=by simpa using hb
        subst this;subst e;exact hy ha⟩) (rng 0 n.toNat) [] [.io φ2,.v (.int n),.v (.str st),.o (.lst []),.e,.e,.e] rfl ⟨φ2,[],.e,.e,.e,rfl,f2,rfl,fun x hx=>(by cases hx),Db,rfl,rfl,rfl⟩
    rw[gX]at hl;exact⟨xs,φ',o4,o5,o6,aC (eI (iW rfl rfl ⟨by lia,by lia⟩) e) rfl,by lia,hx,nd,hf⟩
   refine lp _ _ rfl ?_;intro φ' xs k o5 o6 hf _ hx nd hl q5 q6;obtain⟨x,φ3,e3,nx,f3⟩:=HW hf hst lst;obtain⟨sf,ew,s',y,rfl,ny,hy⟩:=se (f:=aH (fOp bIn (ag 5) (ag 3))) (B:=aL (bi (fOp nI (fOp bIx (fC (.str "abcdefghijklmnopqrstuvwxyz")) (fOp oI (ag 6) (fC (.int 26)))) (fOp cE (fC (.int 1)) (fOp vH (ag 6) (fC (.int 26))))) 5) (bi (fOp cE (ag 6) (fC (.int 1))) 6))
    (fun m s=>∃(j:Nat)(x:Str),s=[.io φ3,.v (.int n),.v (.str st),.o (.lst (xs.map D.str)),.v k,.v (.str x),.v (.int j)]/\Nm x/\m+j=xs.length+2/\j<=xs.length+1/\(∀i,i+1<j->word i∈xs)/\(j=0∨x=word (j-1)))
    (fun s=>∃(j:Nat)(x:Str),s=[.io φ3,.v (.int n),.v (.str st),.o (.lst (xs.map D.str)),.v k,.v (.str x),.v (.int j)]/\Nm x/\x∉xs)
    (by
     rintro m s ⟨j,x,rfl,nx,hm,hj,hw,hxj⟩;by_cases c:x∈xs
     ·right;have hall:∀i,i<j->word i∈xs:=fun i hi=>by
       rcases hxj with z|z
       ·lia
       ·by_cases e:i+1<j
        ·exact hw i e
        ·have:i=j-1:=by lia
         rw[this,← z];exact c
      have hle:=zc hall;obtain⟨m',rfl⟩:∃m',m=m'+1:=⟨m-1,by lia⟩
      have d0:(0:Int)<=1+(j:Int) / 26:=Int.add_nonneg (by decide) (Int.ediv_nonneg (Cy j) (by decide))
      have d1:1+(j:Int) / 26<=1000:=Int.le_trans (Int.add_le_add_left (Int.ediv_le_self 26 (Cy j)) 1) (by lia)
      refine⟨_,[.io φ3,.v (.int n),.v (.str st),.o (.lst (xs.map D.str)),.v k,.v (.str (word j)),.v (.int ((j+1:Nat):Int))],m',f8 (aQ (aE rfl rfl rfl rfl Jd) rfl) (Af c),?_,AT _,j+1,word j,rfl,HM (by lia),by lia,CU hle,fun i hi=>hall i (by lia),.inr rfl⟩
      refine aC (s:=[.io φ3,.v (.int n),.v (.str st),.o (.lst (xs.map D.str)),.v k,.v (.str (word j)),.v (.int j)]) (db (aE (aE rfl rfl rfl rfl (ix_str (by decide +kernel) (Lg j))) (aE rfl rfl rfl rfl rfl) rfl rfl (xg ⟨d0,d1,(by show 1<=1000;decide)⟩)) rfl) ?_
      rfl
     ·left
      exact⟨_,f8 (aQ (aE rfl rfl rfl rfl Jd) rfl) (Ag c),j,x,rfl,nx,c⟩)
    200 (xs.length+2) [.io φ3,.v (.int n),.v (.str st),.o (.lst (xs.map D.str)),.v k,.v (.str x),.v (.int 0)] (by lia) ⟨0,x,rfl,nx,rfl,Qk _,fun i hi=>absurd hi (by lia),.inl rfl⟩
   refine⟨φ3,y,.int s',?_,f3,ny,hy⟩;refine aC (db (bY rfl rfl rfl rfl rfl rfl e3) (bE rfl q5)) ?_;refine aC (db (x:=.int 0) rfl (bE rfl q6)) ?_;refine aC ew ?_;refine ce (f6 rfl rfl rfl rfl rfl rfl rfl (dR (by rw[Ya];lia)) ?_)
   rw[Zc];rfl
 obtain⟨A,B,C,R,eF,⟨st,φ2,eA,eB,eC,f2,hst,lst⟩,hR⟩:=sp;obtain⟨xs,φ',o4,o5,o6,eR,hl,hx,nd,hf⟩:=hR st φ2 f2 hst lst;refine⟨xs,φ',?_,hl,hx,nd,hf⟩;refine cC (o:=.rt (.s 3) [.io φ',.v (.int n),.v (.str st),.o (.lst (xs.map D.str)),o4,o5,o6]) rfl ?_ rfl;rw[eF];exact aC eA (aC eB (aC eC eR))
def HX{φ:D}{xs:List D}(hφ:ci φ)(hx:xs.length<=200):∃(ys:List D)(φ':D),dm φ [.lst xs]=some ((.lst ys,true),φ')/\ys.Perm xs/\ci φ':=by
 obtain⟨sf,ew,ts,φ',rfl,pm,hf⟩:=se (f:=aH (fOp bNe (ag 2) (dw ai))) (B:=cx (fM isL bw 3 (ac (fM isL ij 2 (ac (fIO aG 0 (ac (fCB cA (ac (ag 2) ai)) ai)) ai)) ai)))
  (fun m s=>∃(ls ts:List D)(φ':D),s=[.io φ',.v (.lst xs),.o (.lst ls),.o (.lst ts)]/\ci φ'/\(ts++ls).Perm xs/\m=ls.length)
  (fun s=>∃(ts:List D)(φ':D),s=[.io φ',.v (.lst xs),.o (.lst []),.o (.lst ts)]/\ts.Perm xs/\ci φ')
  (by
   rintro m s ⟨ls,ts,φ',rfl,hf,pm,rfl⟩;have hlen:ts.length+ls.length=xs.length:=by have:=pm.length_eq;rw[Xa]at this;exact this
   cases ls with
   | nil =>
    rw[Vc]at pm;exact .inl ⟨_,rfl,ts,φ',rfl,pm,hf⟩
   | cons y lr =>
    right;have hl0:(y::lr).length=lr.length+1:=rfl;obtain⟨d,φ2,e,d0,d1,f2⟩:=b9 (n:=((y::lr).length:Int)) hf (by lia) (by lia)
    have hk:d.toNat<(y::lr).length:=by lia
    refine⟨_,[.io φ2,.v (.lst xs),.o (.lst ((y::lr).eraseIdx d.toNat)),.o (.lst (ts++[(y::lr)[d.toNat]]))],((y::lr).eraseIdx d.toNat).length,rfl,?_,?_,_,_,φ2,rfl,f2,?_,rfl⟩
    ·exact ce (f6 rfl rfl rfl (aj (f6 rfl rfl rfl (aj (bY rfl rfl rfl rfl rfl rfl e) rfl) rfl rfl rfl (pI d0 d1 (by lia) hk)) rfl) rfl rfl rfl (dR (by lia)))
    ·rw[Dc hk];lia
    ·refine List.Perm.trans ?_ pm;rw[Yc]
     exact AJ ts (i6 hk))
  300 xs.length [.io φ,.v (.lst xs),.o (.lst xs),.o (.lst [])] (by lia) ⟨xs,[],φ,rfl,hφ,List.Perm.refl _,rfl⟩
 refine⟨ts,φ',?_,pm,hf⟩;refine cC (o:=.rt (.s 3) [.io φ',.v (.lst xs),.o (.lst []),.o (.lst ts)]) rfl ?_ rfl;refine aC (s:=[.io φ,.v (.lst xs),.o (.lst xs),.e]) rfl ?_;refine aC (s:=[.io φ,.v (.lst xs),.o (.lst xs),.o (.lst [])]) rfl ?_;exact aC ew rfl
end K34
namespace VF
open PySem L2
def FW(xs:List D):bN [.lst xs]=some (.tup xs,false):=rfl
def FX{xs ys:List D}(h:xs.length+ys.length<=1000000):iT (.lst xs) [.tup ys]=some (.non,.lst (xs++ys)):=by
 show(if xs.length+ys.length<=1000000 then some (D.non,D.lst (xs++ys)) else none)=_;rw[Ae h]
end VF
namespace K34
open PySem L2 VF VL
abbrev bdD(p:Bool×Str):D:=.str (bd p)
abbrev aI:=Bool×List (Bool×Str)
def kd(r:Bool):Str:=if r then "ring" else "open"
def stD(s:aI):D:=.tup [.str (kd s.1),.tup (s.2.map bdD)]
def gP{p:Bool×Str}(h:Nm p.2):(bd p).length<=1000000:=by have:=(oZ h).2;lia
def HY{φ:D}{xs:List Str}(hφ:ci φ)(hx:xs.length<=200)(nm:∀x∈xs,Nm x):∃(ps:List (Bool×Str))(φ':D),gJ φ [.lst (xs.map D.str)]=some ((.tup (ps.map bdD),false),φ')/\(ps.map (·.2)).Perm xs/\ci φ':=by
 obtain⟨ys,φ1,e1,pm,f1⟩:=HX (xs:=xs.map D.str) hφ (by rw[Ya];exact hx)
 obtain⟨zs,rfl,pz⟩:=gj (g:=fun d=>match d with|.str z=>z|_=>Str.empty) (fun _=>rfl) pm
 have hzl:=pz.length_eq;have nz:∀z∈zs,Nm z:=fun z hz=>nm z (pz.mem_iff.mp hz);obtain⟨ds,sf,ec,φ2,ps,rfl,f2,e3,e4⟩:=qO (fg:=gN 0) (fc:=cg) (k:=1) (fe:=fOp cE (fOp nI (fC (.str "-")) (fIO aG 1 (ac (fC (.int 2)) ai))) (ag 0)) (zs.map D.str)
  (fun gone pre sb=>∃(φ':D)(ps:List (Bool×Str)),sb=[.e,.io φ']/\ci φ'/\pre=ps.map bdD/\gone=(ps.map (·.2)).map D.str)
  (by
   rintro gone x rest pre sb ha ⟨φ',ps,rfl,hf,rfl,rfl⟩;obtain⟨d,φ2,e,d0,d1,f2⟩:=b9 (n:=2) hf (by decide) (by decide)
   have hxm:x∈zs.map D.str:=by rw[ha];simp
   obtain⟨z,hz,rfl⟩:=Xc.mp hxm;have hm:=zd (d:=d) (n:=z) d0 d1;refine⟨[.v (.str z),.io φ'],[.v (.str z),.io φ'],.d (bdD (decide (d=1),z)),[.v (.str z),.io φ2],bdD (decide (d=1),z),[.v (.str z),.io φ2],rfl,rfl,?_,rfl,φ2,ps++[(decide (d=1),z)],rfl,f2,by rw[Zc];rfl,by rw[Zc,Zc];rfl⟩
   refine aE (aE rfl (bY rfl rfl rfl rfl rfl rfl e) rfl rfl (xg ⟨d0,by lia,by decide +kernel⟩)) rfl rfl rfl (nZ ?_) ?_
   ·have:=(oZ (p:=(decide (d=1),z)) (nz z hz)).2;rw[← hm,AK]at this;show(Txt.mul minus d).length+z.length<=_;lia
   ·show Rs.d (D.str (Txt.mul minus d++z))=_
    rw[hm])
  (zs.map D.str) [] [] [.e,.io φ1] rfl ⟨φ1,[],rfl,f1,rfl,rfl⟩
 rw[AY]at e3;subst e3;have e5:zs=ps.map (·.2):=by
  have:=congrArg (List.map (fun d:D=>match d with|.str z=>z|_=>Str.empty)) e4
  rw[Vg,Vg]at this;exact((A9 zs).symm.trans this).trans (A9 _)
 refine⟨ps,φ2,?_,by rw[← e5];exact pz,f2⟩
 refine cC (o:=.rt (.d (.tup (ps.map bdD))) [.io φ2,.v (.lst (xs.map D.str))]) rfl ?_ rfl;refine aU (bp (aj (bO (jn (bY rfl rfl rfl rfl rfl rfl e1) rfl) ?_ ec) rfl) rfl rfl);show(true&&decide ((zs.map D.str).length<=1000000))=true;rw[Ya,Af (by lia)];rfl
theorem mj:∀(ss:List aI),(∀s∈ss,s.2≠[])->ss.length<=(ss.flatMap (·.2)).length
 | [],_=>Qa _
 | s::r,h=>by
  have ih:=mj r fun x hx=>h x (Vb _ hx);have hs:1<=s.2.length:=by
   cases e:s.2 with
   | nil=>exact absurd e (h s Wb)
   | cons _ _=>simp
  rw[Ve,Xa,Xd];lia
def FY{φ:D}{xs:List Str}(hφ:ci φ)(hx:xs.length<=200)(nm:∀x∈xs,Nm x):∃(ss:List aI)(φ':D),kw φ [.lst (xs.map D.str),.bl true]=some ((.tup (ss.map stD),false),φ')/\(∀s∈ss,s.2≠[])/\((ss.flatMap (·.2)).map (·.2)).Perm xs/\ci φ':=by
 obtain⟨ps,φ1,e1,pm,f1⟩:=HY hφ hx nm;have hpl:ps.length=xs.length:=by have:=pm.length_eq;rw[Ya]at this;exact this
 have lp:∀(B:FS),(∀(φ':D)(ss:List aI)(piece:List (Bool×Str))(b:Bool×Str),ci φ'->(∀s∈ss,s.2≠[])->ss.length<=300->piece.length<=300 ->
    ∃(φ2:D)(ss2:List aI)(piece2:List (Bool×Str)),B [.io φ',.v (.lst (xs.map D.str)),.v (.bl true),.o (.lst (ss.map stD)),.o (.lst (piece.map bdD)),.v (bdD b)]=some (.nx [.io φ2,.v (.lst (xs.map D.str)),.v (.bl true),.o (.lst (ss2.map stD)),.o (.lst (piece2.map bdD)),.v (bdD b)])/\ci φ2/\(∀s∈ss2,s.2≠[])/\ss2.flatMap (·.2)++piece2=ss.flatMap (·.2)++piece++[b]) ->
   ∃(φ':D)(ss:List aI)(piece:List (Bool×Str))(o5:Sl),gz (fIA (fIO gJ 0 (ac (ag 1) ai))) (gN 5) B [.io φ,.v (.lst (xs.map D.str)),.v (.bl true),.o (.lst []),.o (.lst []),.e]=some (.nx [.io φ',.v (.lst (xs.map D.str)),.v (.bl true),.o (.lst (ss.map stD)),.o (.lst (piece.map bdD)),o5])/\ci φ'/\(∀s∈ss,s.2≠[])/\ss.flatMap (·.2)++piece=ps:=by
  intro B hB;obtain⟨sf,e,φ',ss,piece,o5,gp,rfl,hf,hne,hg,hgp,hgp3,_⟩:=oN (fg:=gN 5) (B:=B) (ps.map bdD) (fun gone s=>∃(φ':D)(ss:List aI)(piece:List (Bool×Str))(o5:Sl)(gp:List (Bool×Str)),s=[.io φ',.v (.lst (xs.map D.str)),.v (.bl true),.o (.lst (ss.map stD)),.o (.lst (piece.map bdD)),o5]/\ci φ'/\(∀s∈ss,s.2≠[])/\ss.flatMap (·.2)++piece=gp/\(∃r,gp++r=ps)/\gone=gp.map bdD/\o5.isIo=false)
   (by
    rintro gone x rest s ha ⟨φ',ss,piece,o5,gp,rfl,hf,hne,hg,⟨r,hr⟩,rfl,q5⟩;cases r with
    | nil =>
     rw[Vc]at hr;subst hr;have:=congrArg List.length ha;simp at this
    | cons b r =>
     have hb:bdD b=x:=by
      rw[← hr,Zc]at ha;have:=List.append_cancel_left ha;exact(List.cons.inj this).1
     have hlen:=congrArg List.length hr;rw[Xa,Xd]at hlen;have hl2:=congrArg List.length hg;rw[Xa]at hl2;have hl3:=mj ss hne;obtain⟨φ2,ss2,piece2,eB,f2,hne2,hfl⟩:=hB φ' ss piece b hf hne (by lia) (by lia)
     subst hb
     exact⟨_,_,bE rfl q5,eB,φ2,ss2,piece2,.v (bdD b),gp++[b],rfl,f2,hne2,by rw[hfl,hg],⟨r,by rw[Yc];exact hr⟩,by rw[Zc];rfl,rfl⟩)
   (ps.map bdD) [] [.io φ1,.v (.lst (xs.map D.str)),.v (.bl true),.o (.lst []),.o (.lst []),.e] rfl ⟨φ1,[],[],.e,[],rfl,f1,fun s hs=>(by cases hs),rfl,⟨ps,rfl⟩,rfl,rfl⟩
  obtain⟨⟨r,hr⟩,hgp2⟩:(∃r,gp++r=ps)/\ps.map bdD=gp.map bdD:=⟨hgp,hgp3⟩;have hlen:=congrArg List.length hgp2;rw[Ya,Ya]at hlen;have hl2:=congrArg List.length hr;rw[Xa]at hl2;have:r=[]:=Wi (by lia)
  subst this;rw[Vc]at hr;exact⟨φ',ss,piece,o5,eI (eY (bY rfl rfl rfl rfl rfl rfl e1) rfl) e,hf,hne,by rw[hg,hr]⟩
 have sp:∃B R,mN=aL (bi (dw ai) 3) (aL (bi (dw ai) 4) (aL (gz (fIA (fIO gJ 0 (ac (ag 1) ai))) (gN 5) B) R)) /\
   (∀(φ':D)(ss:List aI)(piece:List (Bool×Str))(b:Bool×Str),ci φ'->(∀s∈ss,s.2≠[])->ss.length<=300->piece.length<=300 ->
    ∃(φ2:D)(ss2:List aI)(piece2:List (Bool×Str)),B [.io φ',.v (.lst (xs.map D.str)),.v (.bl true),.o (.lst (ss.map stD)),.o (.lst (piece.map bdD)),.v (bdD b)]=some (.nx [.io φ2,.v (.lst (xs.map D.str)),.v (.bl true),.o (.lst (ss2.map stD)),.o (.lst (piece2.map bdD)),.v (bdD b)])/\ci φ2/\(∀s∈ss2,s.2≠[])/\ss2.flatMap (·.2)++piece2=ss.flatMap (·.2)++piece++[b]) /\
   (∀(φ':D)(ss:List aI)(piece:List (Bool×Str))(o5:Sl),ss.length<=300->(∀s∈ss,s.2≠[])->∃(ss2:List aI)(s':En),R [.io φ',.v (.lst (xs.map D.str)),.v (.bl true),.o (.lst (ss.map stD)),.o (.lst (piece.map bdD)),o5]=some (.rt (.d (.tup (ss2.map stD))) (.io φ'::s'))/\(∀s∈ss2,s.2≠[])/\ss2.flatMap (·.2)=ss.flatMap (·.2)++piece):=by
  refine⟨_,_,rfl,?_,?_⟩
  ·intro φ' ss piece b hf hne hs hp;have ap:cx (fM isL bw 4 (ac (ag 5) ai)) [.io φ',.v (.lst (xs.map D.str)),.v (.bl true),.o (.lst (ss.map stD)),.o (.lst (piece.map bdD)),.v (bdD b)]=some (.nx [.io φ',.v (.lst (xs.map D.str)),.v (.bl true),.o (.lst (ss.map stD)),.o (.lst ((piece++[b]).map bdD)),.v (bdD b)]) :=
    ce (f6 rfl rfl rfl rfl rfl rfl rfl (dR (by rw[Ya];lia)) (by rw[Zc];rfl))
   have nw:∀(r:Bool),∀s∈ss++[(r,piece++[b])],s.2≠[]:=fun r s hs=>by
    rcases Wc.mp hs with z|z
    ·exact hne s z
    ·have:s=(r,piece++[b]):=by simpa using z
     rw[this];simp
   have fl:∀(r:Bool),(ss++[(r,piece++[b])]).flatMap (·.2)++[]=ss.flatMap (·.2)++piece++[b]:=fun r=>by
    rw[Ze];simp
   have ms:∀r,(ss++[(r,piece++[b])]).map stD=ss.map stD++[stD (r,piece++[b])]:=fun r=>by rw[Zc];rfl
   have lss:(ss.map stD).length<1000000:=by rw[Ya];lia
   obtain⟨d,φ2,e2,d0,d1,f2⟩:=b9 (n:=3) hf (by decide) (by decide)
   by_cases c:d=0
   ·subst c;refine⟨φ2,ss++[(false,piece++[b])],[],aC ap ?_,f2,nw false,fl false⟩;refine fS (s:=[.io φ2,.v (.lst (xs.map D.str)),.v (.bl true),.o (.lst (ss.map stD)),.o (.lst ((piece++[b]).map bdD)),.v (bdD b)]) (aQ (aE (bY rfl rfl rfl rfl rfl rfl e2) rfl rfl rfl rfl) rfl) ?_;refine aC (ce (f6 rfl rfl rfl rfl rfl rfl rfl (dR lss) (st3:=[.io φ2,.v (.lst (xs.map D.str)),.v (.bl true),.o (.lst ((ss++[(false,piece++[b])]).map stD)),.o (.lst ((piece++[b]).map bdD)),.v (bdD b)]) (by rw[ms];rfl))) ?_
    rfl
   ·have t:decide (V.int d=V.int 0)=false:=Ag fun z=>c (V.int.inj z);obtain⟨d2,φ3,e3,d20,d21,f3⟩:=b9 (n:=3) f2 (by decide) (by decide)
    have tst:∀s,aH (fOp bEq (fIO aG 0 (ac (fC (.int 3)) ai)) (fC (.int 0))) (.io φ2::s)=some (decide (V.int d2=V.int 0),.io φ3::s):=fun s=>aQ (aE (bY rfl rfl rfl rfl rfl rfl e3) rfl rfl rfl rfl) rfl;by_cases c2:d2=0
    ·subst c2;refine⟨φ3,ss++[(true,piece++[b])],[],aC ap ?_,f3,nw true,fl true⟩;refine cJ (s:=[.io φ2,.v (.lst (xs.map D.str)),.v (.bl true),.o (.lst (ss.map stD)),.o (.lst ((piece++[b]).map bdD)),.v (bdD b)]) (f8 (aQ (aE (bY rfl rfl rfl rfl rfl rfl e2) rfl rfl rfl rfl) rfl) t) ?_;refine fS (s:=[.io φ3,.v (.lst (xs.map D.str)),.v (.bl true),.o (.lst (ss.map stD)),.o (.lst ((piece++[b]).map bdD)),.v (bdD b)]) (fT rfl (tst _)) ?_;refine aC (ce (f6 rfl rfl rfl rfl rfl rfl rfl (dR lss) (st3:=[.io φ3,.v (.lst (xs.map D.str)),.v (.bl true),.o (.lst ((ss++[(true,piece++[b])]).map stD)),.o (.lst ((piece++[b]).map bdD)),.v (bdD b)]) (by rw[ms];rfl))) ?_
     rfl
    ·have t2:decide (V.int d2=V.int 0)=false:=Ag fun z=>c2 (V.int.inj z);refine⟨φ3,ss,piece++[b],aC ap ?_,f3,hne,by rw[Yc]⟩
     refine cJ (s:=[.io φ2,.v (.lst (xs.map D.str)),.v (.bl true),.o (.lst (ss.map stD)),.o (.lst ((piece++[b]).map bdD)),.v (bdD b)]) (f8 (aQ (aE (bY rfl rfl rfl rfl rfl rfl e2) rfl rfl rfl rfl) rfl) t) ?_;exact cJ (fT rfl (f8 (tst _) t2)) rfl
  ·intro φ' ss piece o5 hs hne;cases piece with
   | nil =>
    exact⟨ss,_,aC (cJ rfl rfl) (aU (bp rfl rfl rfl)),hne,by rw[Vc]⟩
   | cons p pr =>
    refine⟨ss++[(false,p::pr)],[.v (.lst (xs.map D.str)),.v (.bl true),.o (.lst ((ss++[(false,p::pr)]).map stD)),.o (.lst ((p::pr).map bdD)),o5],?_,fun s hs=>?_,by rw[Ze];simp⟩
    ·refine aC (fS rfl (ce (f6 rfl rfl rfl rfl rfl rfl rfl (dR (by rw[Ya];lia)) (st3:=[.io φ',.v (.lst (xs.map D.str)),.v (.bl true),.o (.lst ((ss++[(false,p::pr)]).map stD)),.o (.lst ((p::pr).map bdD)),o5]) (by rw[show(ss++[(false,p::pr)]).map stD=ss.map stD++[stD (false,p::pr)] from by rw[Zc];rfl];rfl)))) ?_
     exact aU (bp rfl rfl rfl)
    ·rcases Wc.mp hs with z|z
     ·exact hne s z
     ·have:s=(false,p::pr):=by simpa using z
      rw[this];simp
 obtain⟨B,R,eF,hB,hR⟩:=sp;obtain⟨φ',ss,piece,o5,eL,hf,hne,hps⟩:=lp B hB;have hl2:=congrArg List.length hps;rw[Xa]at hl2;have hl3:=mj ss hne;obtain⟨ss2,s',eR,hne2,hfl⟩:=hR φ' ss piece o5 (by lia) hne
 refine⟨ss2,φ',?_,hne2,by rw[hfl,hps];exact pm,hf⟩
 refine cC (o:=.rt (.d (.tup (ss2.map stD))) (.io φ'::s')) rfl ?_ rfl;rw[eF];exact aC rfl (aC rfl (aC eL eR))
end K34
namespace VF
open PySem L2
def HZ{n:Nat}{x:D}(h:x∈rng 0 n):∃i:Nat,i<n/\x=.int i:=by
 obtain⟨i,hi⟩:=AQ h;obtain⟨h1,h2⟩:=DX hi;exact⟨i,h1,by rw[h2,Int.zero_add]⟩
theorem ol{α:Type}(xs:List α)(d:D):xs.map (fun _=>d)=List.replicate xs.length d:=by
 induction xs with
 | nil=>rfl
 | cons x r ih=>rw[Xe,ih];rfl
end VF
namespace K34
open PySem L2 VF VL
def zp{n:Nat}{u:D}(h:Dp (n+1) u):bC (nh (eW n)) 2 2 [u,u]=some (.bl true,false):=by
 have seqs:∀(ds:List D),ds.length<=1000000->(∀d∈ds,Dp n d)->∀(u:D),(∀i d,atI ds i=some d->bIx u (.int i)=some (d,false)) ->
   cG (gN 0) cg (bF (eW n) (ac (fOp bIx (ag 1) (ag 0)) (ac (fOp bIx (ag 2) (ag 0)) ai))) 1 (rng 0 ((ds.length:Int)).toNat) [.e,.v u,.v u]=some (List.replicate ds.length (D.bl true),[.e,.v u,.v u]):=fun ds hl hd u hu=>by
  have e:=mI (fg:=gN 0) (fc:=cg) (k:=1) (fe:=bF (eW n) (ac (fOp bIx (ag 1) (ag 0)) (ac (fOp bIx (ag 2) (ag 0)) ai))) (fun _=>D.bl true) (rng 0 ((ds.length:Int)).toNat) [.e,.v u,.v u] (fun x hx=>by
   obtain⟨i,hi,rfl⟩:=HZ hx;have hi':i<ds.length:=by lia
   have ha:atI ds (i:Int)=some ds[i]:=iN (Za hi');refine⟨[.v (.int i),.v u,.v u],[.v (.int i),.v u,.v u],.d (.bl true),[.v (.int i),.v u,.v u],[.v (.int i),.v u,.v u],rfl,rfl,?_,rfl,rfl⟩
   exact bD (aj (aE rfl rfl rfl rfl (hu _ _ ha)) (aj (aE rfl rfl rfl rfl (hu _ _ ha)) rfl)) rfl (iU (hd _ (Bh hi'))) rfl)
  rw[e,ol,gX];have:((ds.length:Int)).toNat=ds.length:=by lia
  rw[this]
 cases h with
 | bl _ b=>cases b<;>rfl
 | int _ i =>
  refine aW (o:=.rt (.d (.bl true)) [.v (.int i),.v (.int i)]) rfl ?_ rfl;refine aC (s:=[.v (.int i),.v (.int i)]) rfl (aC (s:=[.v (.int i),.v (.int i)]) rfl (iV (fS (s:=[.v (.int i),.v (.int i)]) rfl ?_)));refine aU (ip (s:=[.v (.int i),.v (.int i)]) rfl rfl (aE rfl rfl rfl rfl (z:=(.bl (decide (V.int i=V.int i)),false)) rfl ?_));rw[Af rfl];rfl
 | non _=>rfl
 | str _ x =>
  refine aW (o:=.rt (.d (.bl true)) [.v (.str x),.v (.str x)]) rfl ?_ rfl;refine aC (s:=[.v (.str x),.v (.str x)]) rfl (aC (s:=[.v (.str x),.v (.str x)]) rfl (aC (s:=[.v (.str x),.v (.str x)]) rfl (iV (fS (s:=[.v (.str x),.v (.str x)]) rfl ?_))));refine aU (ip (s:=[.v (.str x),.v (.str x)]) rfl rfl (aE rfl rfl rfl rfl (z:=(.bl (decide (V.str x=V.str x)),false)) rfl ?_));rw[Af rfl];rfl
 | @tup _ ds hl hd =>
  refine aW (o:=.rt (.d (.bl true)) [.v (.tup ds),.v (.tup ds)]) rfl ?_ rfl;refine aC (s:=[.v (.tup ds),.v (.tup ds)]) rfl (aC (s:=[.v (.tup ds),.v (.tup ds)]) rfl (aC (s:=[.v (.tup ds),.v (.tup ds)]) rfl (aC (s:=[.v (.tup ds),.v (.tup ds)]) rfl (aC (s:=[.v (.tup ds),.v (.tup ds)]) rfl ?_))));refine aU (ip (s:=[.v (.tup ds),.v (.tup ds)]) (r:=.d (.bl (decide (V.int ds.length=V.int ds.length)))) rfl (by rw[Af rfl];rfl) ?_)
  refine bp (aj (bO (iW (j:=(ds.length:Int)) rfl rfl ⟨by lia,by lia⟩) (by
   show(true&&decide ((rng 0 ((ds.length:Int)).toNat).length<=1000000))=true
   rw[gX,Af (by lia)];rfl) (seqs ds hl hd (.tup ds) fun i d h=>VF.ix_tup h)) rfl) rfl (jI _)
 | @lst _ ds hl hd =>
  refine aW (o:=.rt (.d (.bl true)) [.v (.lst ds),.v (.lst ds)]) rfl ?_ rfl;refine aC (s:=[.v (.lst ds),.v (.lst ds)]) rfl (aC (s:=[.v (.lst ds),.v (.lst ds)]) rfl (aC (s:=[.v (.lst ds),.v (.lst ds)]) rfl (aC (s:=[.v (.lst ds),.v (.lst ds)]) rfl (aC (s:=[.v (.lst ds),.v (.lst ds)]) rfl ?_))));refine aU (ip (s:=[.v (.lst ds),.v (.lst ds)]) (r:=.d (.bl (decide (V.int ds.length=V.int ds.length)))) rfl (by rw[Af rfl];rfl) ?_)
  refine bp (aj (bO (iW (j:=(ds.length:Int)) rfl rfl ⟨by lia,by lia⟩) (by
   show(true&&decide ((rng 0 ((ds.length:Int)).toNat).length<=1000000))=true
   rw[gX,Af (by lia)];rfl) (seqs ds hl hd (.lst ds) fun i d h=>jg h)) rfl) rfl (jI _)
end K34
namespace VF
open PySem L2
theorem FZ{n:Nat}{d:D}:∀(es:List D),CA n (d::es)->Srt n es->∃fs:List D,fs.Perm (d::es)/\Srt n fs
 | [],_,_=>⟨[d],List.Perm.refl _,BM _ _⟩
 | e::es,h,s=>by
  obtain⟨s1,s2⟩:=Yi.mp s;cases c:ltN n e d with
  | true =>
   have up:∀x∈d::es,x∈d::e::es:=fun x hx=>by
    rcases Vd.mp hx with m|m
    ·rw[m];exact Wb
    ·exact Vb _ (Vb _ m)
   obtain⟨fs,p,q⟩:=FZ (n:=n) (d:=d) es (fun a ha b hb=>h a (up a ha) b (up b hb)) s2;refine⟨e::fs,(p.cons e).trans (List.Perm.swap d e es),Yi.mpr ⟨fun f hf=>?_,q⟩⟩;rcases Vd.mp (p.mem_iff.mp hf) with m|m
   ·rw[m];exact sA n e d c
   ·exact s1 f m
  | false =>
   refine⟨d::e::es,List.Perm.refl _,Yi.mpr ⟨fun b hb=>?_,s⟩⟩;rcases Vd.mp hb with m|m
   ·rw[m];exact c
   ·cases k:ltN n b d with
    | false=>rfl
    | true =>
     rcases h.neg (a:=b) (b:=e) (c:=d) (by simp[m]) (by simp) (by simp) k with z|z
     ·rw[s1 b m]at z;cases z
     ·rw[c]at z;cases z
theorem wl{n:Nat}:∀(ds:List D),CA n ds->∃es:List D,es.Perm ds/\Srt n es
 | [],_=>⟨[],List.Perm.refl _,List.Pairwise.nil⟩
 | d::ds,h=>by
  obtain⟨es,p,q⟩:=wl ds fun a ha b hb=>h a (Vb _ ha) b (Vb _ hb);have pd:(d::es).Perm (d::ds):=p.cons d;obtain⟨fs,p2,q2⟩:=FZ (n:=n) (d:=d) es (fun a ha b hb=>h a (pd.mem_iff.mp ha) b (pd.mem_iff.mp hb)) q;exact⟨fs,p2.trans pd,q2⟩
def jY{n:Nat}{ds es:List D}(h:CA n ds)(p:ds.Perm es):dX n ds=dX n es:=by
 obtain⟨fs,p1,q⟩:=wl ds h;rw[← gF h p1 q];exact gF (fun a ha b hb=>h a (p.mem_iff.mpr ha) b (p.mem_iff.mpr hb)) (p1.trans p) q
end VF
namespace K34
open PySem L2 VF VL
abbrev End:=Str×Int
def eD(e:End):D:=.tup [.str e.1,.int e.2]
abbrev Jnt:=List End
def jD(j:Jnt):D:=.tup (j.map eD)
def qY(n:Nat)(e:End):Pl (n+2) (eD e):=.tup fun d hd=>by
 rcases Vd.mp hd with rfl|hd
 ·exact .str _ _
 ·obtain rfl:=Va.mp hd;exact .int _ _
def g9(n:Nat)(j:Jnt):Pl (n+3) (jD j):=.tup fun d hd=>by
 obtain⟨e,_,rfl⟩:=Xc.mp hd;exact qY n e
def unE:D->End
 | .tup [.str n,.int i]=>(n,i)
 | _=>(Str.empty,0)
def unJ:D->Jnt
 | .tup es=>es.map unE
 | _=>[]
def Lo(e:End):unE (eD e)=e:=rfl
def sP(j:Jnt):unJ (jD j)=j:=by
 show(j.map eD).map unE=j;rw[Vg];exact A9 j
def xQ(n:Nat)(a b:End):Cp (n+2) (eD a) (eD b):=by
 intro i x y e1 e2
 match i,e1,e2 with
 | 0,e1,e2 =>
  have q1:D.str a.1=x:=by simpa using e1
  have q2:D.str b.1=y:=by simpa using e2
  subst q1 q2;trivial
 | 1,e1,e2 =>
  have q1:D.int a.2=x:=by simpa using e1
  have q2:D.int b.2=y:=by simpa using e2
  subst q1 q2;trivial
 | i+2,e1,_=>simp at e1
def Jq(n:Nat)(a b:Jnt):Cp (n+3) (jD a) (jD b):=by
 intro i x y e1 e2;rw[We]at e1 e2;obtain⟨c,_,rfl⟩:=Zg.mp e1;obtain⟨d,_,rfl⟩:=Zg.mp e2;exact xQ n c d
noncomputable section
def dC(xs:List End):List End:=(dX 40 (xs.map eD)).map unE
def lA(xs:List Jnt):List Jnt:=(dX 40 (xs.map jD)).map unJ
def Lp(xs:List End):CA 40 (xs.map eD):=fun a ha b hb=>by
 obtain⟨e,_,rfl⟩:=Xc.mp ha;obtain⟨e',_,rfl⟩:=Xc.mp hb;exact xQ 38 e e'
def M5(xs:List Jnt):CA 40 (xs.map jD):=fun a ha b hb=>by
 obtain⟨e,_,rfl⟩:=Xc.mp ha;obtain⟨e',_,rfl⟩:=Xc.mp hb;exact Jq 37 e e'
def fJ(xs:List End):dX 40 (xs.map eD)=(dC xs).map eD/\(dC xs).Perm xs:=by
 obtain⟨ys,e,p⟩:=gj (f:=eD) (g:=unE) Lo (kU 40 (xs.map eD));have h:dC xs=ys:=by
  unfold dC;rw[e,Vg];exact A9 ys
 rw[h];exact⟨e,p⟩
def fK(xs:List Jnt):dX 40 (xs.map jD)=(lA xs).map jD/\(lA xs).Perm xs:=by
 obtain⟨ys,e,p⟩:=gj (f:=jD) (g:=unJ) sP (kU 40 (xs.map jD));have h:lA xs=ys:=by
  unfold lA;rw[e,Vg,show(unJ ∘ jD)=id from funext sP,List.map_id]
 rw[h];exact⟨e,p⟩
def gQ{xs ys:List End}(p:xs.Perm ys):dC xs=dC ys:=by
 unfold dC;rw[jY (Lp xs) (p.map eD)]
def lB{xs ys:List Jnt}(p:xs.Perm ys):lA xs=lA ys:=by
 unfold lA;rw[jY (M5 xs) (p.map jD)]
def ky{d:D}(xs:List End)(h0:d.seq=some (xs.map eD)):cZ [d]=some (.lst ((dC xs).map eD),true):=by
 rw[← (fJ xs).1];unfold cZ;dsimp only;rw[h0];dsimp only;refine Ae ⟨fun x hx=>?_,Lp xs,⟨_,.tp (T:="str") fun d hd=>?_⟩⟩
 ·obtain⟨e,_,rfl⟩:=Xc.mp hx;exact qY 38 e
 ·obtain⟨e,_,rfl⟩:=Xc.mp hd;exact⟨_,_,rfl,fun z=>(by cases z),rfl⟩
def mT{d:D}(xs:List Jnt)(hn:∀j∈xs,j≠[])(h0:d.seq=some (xs.map jD)):cZ [d]=some (.lst ((lA xs).map jD),true):=by
 rw[← (fK xs).1];unfold cZ;dsimp only;rw[h0];dsimp only;refine Ae ⟨fun x hx=>?_,M5 xs,⟨_,.tp (T:="tuple") fun d hd=>?_⟩⟩
 ·obtain⟨e,_,rfl⟩:=Xc.mp hx;exact g9 37 e
 ·obtain⟨j,hj,rfl⟩:=Xc.mp hd;cases j with
  | nil=>exact absurd rfl (hn _ hj)
  | cons e r=>exact⟨eD e,r.map eD,rfl,fun z=>(by cases z),rfl⟩
end
end K34
namespace K34
open PySem L2 VF VL
def iJ{t:Bool}{n:Str}(h:Nm n):dQ [bdD (t,n)]=some (.bl t,false):=by
 have e:dQ [bdD (t,n)]=some (.bl (Txt.startswith (bd (t,n)) minus),false):=rfl;rw[e,ze h]
theorem mU{t:Bool}{n:Str}(h:Nm n):iF [bdD (t,n)]=some (.str n,false):=by
 refine aW (o:=.rt (.d (.str n)) [.v (bdD (t,n))]) rfl ?_ rfl;cases t with
 | true =>
  refine aU (xh (s:=[.v (bdD (true,n))]) (aQ (bD rfl rfl (iJ h) rfl) rfl) (gY rfl rfl rfl rfl (vP (gP h)) ?_));show Rs.d (D.str (Txt.slice (minus++n) (some 1) none))=_;rw[vX]
 | false=>exact aU (xi (s:=[.v (bdD (false,n))]) (aQ (bD rfl rfl (iJ h) rfl) rfl) rfl)
def Lq{t:Bool}{n:Str}(h:Nm n):kW [bdD (t,n)]=some (bdD (!t,n),false):=by
 have e1:minus.length=1:=by decide +kernel
 refine aW (o:=.rt (.d (bdD (!t,n))) [.v (bdD (t,n))]) rfl ?_ rfl;cases t with
 | true=>exact aU (xh (s:=[.v (bdD (true,n))]) (aQ (bD rfl rfl (iJ h) rfl) rfl) (bD rfl rfl (mU h) rfl))
 | false=>exact aU (xi (s:=[.v (bdD (false,n))]) (aQ (bD rfl rfl (iJ h) rfl) rfl) (aE rfl rfl rfl rfl (nZ (by
   have:=(oZ (p:=(false,n)) h).2;show minus.length+(bd (false,n)).length<=_
   lia))))
def xR{t:Bool}{n:Str}(h:Nm n):bH [bdD (t,n)]=some (bdD (!t,n),false):=by
 have e1:minus.length=1:=by decide +kernel
 obtain⟨c,hc,hcm⟩:=uB (p:=(t,n)) h;refine aW (o:=.rt (.d (bdD (!t,n))) [.v (bdD (t,n))]) rfl ?_ rfl;cases t with
 | true =>
  refine iV (fS (s:=[.v (bdD (true,n))]) (f8 (aQ (aE (aE rfl rfl rfl rfl (ix_str (gP h) hc)) rfl rfl rfl rfl) rfl) (Af (hcm.mpr rfl))) (aU (gY rfl rfl rfl rfl (vP (gP h)) ?_)));show Rs.d (D.str (Txt.slice (minus++n) (some 1) none))=_;rw[vX];rfl
 | false =>
  refine aC (cJ (s:=[.v (bdD (false,n))]) (f8 (aQ (aE (aE rfl rfl rfl rfl (ix_str (gP h) hc)) rfl rfl rfl rfl) rfl) (Ag fun z=>by cases (hcm.mp z))) rfl) ?_
  exact aU (aE rfl rfl rfl rfl (nZ (by
   have:=(oZ (p:=(false,n)) h).2;show minus.length+(bd (false,n)).length<=_
   lia)))
def leE(p:Bool×Str):End:=(p.2,if p.1 then 1 else 0)
def riE(p:Bool×Str):End:=(p.2,if p.1 then 0 else 1)
def sQ{t:Bool}{n:Str}(h:Nm n):eK [bdD (t,n)]=some (eD (leE (t,n)),false):=by
 refine aW (o:=.rt (.d (eD (leE (t,n)))) [.v (bdD (t,n))]) rfl (aU ?_) rfl;have h1:aH (bF dQ (ac (ag 0) ai)) [.v (bdD (t,n))]=some (t,[.v (bdD (t,n))]):=aQ (bD rfl rfl (iJ h) rfl) rfl;refine bq (aj (bD rfl rfl (mU h) rfl) (aj (r:=.d (.int (if t then 1 else 0))) ?_ rfl)) rfl (by show 2<=1000000;decide)
 cases t with
 | true=>exact xh h1 rfl
 | false=>exact xi h1 rfl
def uN{t:Bool}{n:Str}(h:Nm n):eO [bdD (t,n)]=some (eD (riE (t,n)),false):=by
 have e:riE (t,n)=leE (!t,n):=by cases t<;>rfl
 rw[e];exact aW (o:=.rt (.d (eD (leE (!t,n)))) [.v (bdD (t,n))]) rfl (aU (aZ (aj (bD rfl rfl (Lq h) rfl) rfl) rfl (sQ h))) rfl
def uO{a b:End}:fG [.tup [eD a,eD b]]=some (jD (dC [a,b]),false):=by
 refine aW (o:=.rt (.d (jD (dC [a,b]))) [.v (.tup [eD a,eD b])]) rfl (aU (bp (aj (bp (aj rfl rfl) rfl (ky [a,b] rfl)) rfl) rfl rfl)) rfl
end K34
namespace K34
open PySem L2 VF VL VF22
noncomputable section
def inn(ps:List (Bool×Str)):List Jnt:=(ps.zip (ps.drop 1)).map fun q=>dC [riE q.1,leE q.2]
def M6(xs ys:List (Bool×Str)):List.zipWith pr (xs.map bdD) (ys.map bdD)=(xs.zip ys).map fun q=>pr (bdD q.1) (bdD q.2):=by
 rw[List.zipWith_map,List.zip,List.map_zipWith]
def F3{ps:List (Bool×Str)}(hn:∀p∈ps,Nm p.2)(hl:ps.length<=100)(hs:bSl (.tup (ps.map bdD)) (some 1) none=some (.tup ((ps.drop 1).map bdD),false)) :
  fm [.tup (ps.map bdD)]=some (.lst ((inn ps).map jD),true):=by
 have ec:cG (gT 2 (gsC (gN 0) (gsC (gN 1) gsN))) cg (bB fG (ac (bQ (ac (bB eO (ac (ag 0) ai)) (ac (bB eK (ac (ag 1) ai)) ai))) ai)) 2 ((ps.zip (ps.drop 1)).map fun q=>pr (bdD q.1) (bdD q.2)) [.e,.e]=some ((inn ps).map jD,[.e,.e]):=by
  have:=b8 (fg:=gT 2 (gsC (gN 0) (gsC (gN 1) gsN))) (fc:=cg) (fe:=bB fG (ac (bQ (ac (bB eO (ac (ag 0) ai)) (ac (bB eK (ac (ag 1) ai)) ai))) ai)) (k:=2)
   (fun q:(Bool×Str)×(Bool×Str)=>pr (bdD q.1) (bdD q.2)) (fun q=>jD (dC [riE q.1,leE q.2])) [.e,.e] (ps.zip (ps.drop 1)) fun q hq=>by
    have m:=BX hq;have n1:=hn q.1 m.1;have n2:=hn q.2 (Bl m.2);refine⟨[.v (bdD q.1),.v (bdD q.2)],[.v (bdD q.1),.v (bdD q.2)],.d (jD (dC [riE q.1,leE q.2])),[.v (bdD q.1),.v (bdD q.2)],[.v (bdD q.1),.v (bdD q.2)],rfl,rfl,?_,rfl,rfl⟩;exact aZ (aj (bq (aj (aZ rfl rfl (uN n1)) (aj (aZ rfl rfl (sQ n2)) rfl)) rfl (by show 2<=1000000;decide)) rfl) rfl uO
  rw[this,inn,Vg];rfl
 refine aW (o:=.rt (.f (.lst ((inn ps).map jD))) [.v (.tup (ps.map bdD))]) rfl (aU (bO (s1:=[.v (.tup (ps.map bdD))]) (ds:=(ps.zip (ps.drop 1)).map fun q=>pr (bdD q.1) (bdD q.2)) ?_ ?_ ec)) rfl
 ·have e1:(ac (ag 0) (ac (fSl bSl (ag 0) (cR (fC (.int 1))) oNo) ai)) (iQ 1 [.tup (ps.map bdD)])=some (_,_):=aj rfl (aj (gY rfl rfl rfl rfl hs) rfl);show((ac (ag 0) (ac (fSl bSl (ag 0) (cR (fC (.int 1))) oNo) ai)) (iQ 1 [.tup (ps.map bdD)])).bind _=_;rw[e1,← M6];rfl
 ·show(true&&decide (((ps.zip (ps.drop 1)).map fun q=>pr (bdD q.1) (bdD q.2)).length<=1000000))=true;rw[Ya,List.length_zip,Af (by lia)];rfl
end
end K34
namespace K34
open PySem L2 VF VL
def sR{d:D}{ds:List D}:bSl (.tup (d::ds)) (some 1) none=some (.tup ds,false):=by
 have h:=vU (d::ds) (some 1) none;have e1:yK (.tup (d::ds)) (some 1) none=none:=rfl;have c:¬ (HT.sIx (d::ds).length 0 (some 1)=0/\HT.sIx (d::ds).length (d::ds).length none=(d::ds).length):=fun z=>by
  have m:min 1 (d::ds).length=0:=(HT.sIx_nat (d::ds).length 0 1).symm.trans z.1;rw[Xd]at m;lia
 have e2:nJ (.tup (d::ds)) (some 1) none=some (.tup (cutD (d::ds) (some 1) none),false):=by simp only[nJ,Ak c]
 have e3:cutD (d::ds) (some 1) none=ds:=lS (i:=1) (by rw[Xd];lia)
 rw[e3]at e2;show orS yK (orS nJ Ee) _ _ _=_;simp only[orS,e1,e2]
end K34
namespace VF
open PySem L2
def jh{fa:FA}{st s1 s2:En}{rs:List Rs}{ds:List D}(h1:fa st=some (rs,s1))(h2:eG rs s1=some (ds,s2))(h3:ds.length<=1000000):dw fa st=some (.f (.lst ds),s2):=by
 simp only[dw,h1,h2,Wa];rw[Ae h3]
def F4{fa:FE}{st s:En}{r:Rs}{b:D->Option Rz}{d:D}{z:Rz}{r':Rs}(h1:fa st=some (r,s))(h2:cont s r=some d)(h3:b d=some z)(hz:mk z=r':=by rfl):fUn b fa st=some (r',s):=by
 simp only[fUn,h1,h2,h3,hz,Wa]
def om{a b:List D}(h:a.length+b.length<=1000000):cE (.lst a) (.lst b)=some (.lst (a++b),true):=by
 have e1:qF (.lst a) (.lst b)=none:=rfl;have e2:qG (.lst a) (.lst b)=none:=rfl;have e3:vJ (.lst a) (.lst b)=some (.lst (a++b),true):=by simp only[vJ];rw[Ae h]
 unfold cE orD;rw[e1,e2,e3]
end VF
namespace K34
open PySem L2 VF VL VF22
def ml{l:List D}{n:Nat}(hl:l.length<=n)(hn:n<=1000000:=by decide){b:Bool}(hb:b=true):(b&&decide (l.length<=1000000))=true:=by rw[hb,Af (by lia)];rfl
def sS{α:Type}{f:α->D}{xs:List α}{i:Nat}{x:α}(h:xs[i]?=some x):atI (xs.map f) (i:Int)=some (f x):=iN (xs:=xs.map f) (j:=i) (by rw[We,h];rfl)
def xS{α:Type}{f:α->D}{xs:List α}{x:α}(h:xs[xs.length-1]?=some x):atI (xs.map f) (-1)=some (f x):=by
 have hl:=(Qb.mp h).1;unfold atI ixN;rw[Ak (by lia),Ae (by rw[Ya];lia)]
 show(xs.map f)[(-1+((xs.map f).length:Int)).toNat]?=_;rw[Ya,show(-1+(xs.length:Int)).toNat=xs.length - 1 by lia,We,h];rfl
noncomputable section
abbrev z0:Bool×Str:=(false,Str.empty)
def sT(s:aI):List Jnt:=if s.1 then [dC [leE (s.2.headD z0),riE (s.2.getLastD z0)]] else [[leE (s.2.headD z0)],[riE (s.2.getLastD z0)]]
def sj(s:aI):List Jnt:=inn s.2++sT s
theorem xT{ps:List (Bool×Str)}(h:ps≠[]):ps[0]?=some (ps.headD z0):=by
 cases ps with
 | nil=>exact absurd rfl h
 | cons p r=>rfl
theorem xU{ps:List (Bool×Str)}(h:ps≠[]):ps[ps.length-1]?=some (ps.getLastD z0):=by
 rw[← List.getLast?_eq_getElem?,Dg];cases ps with
 | nil=>exact absurd rfl h
 | cons p r=>rw[List.getLast?_cons];rfl
def mn(ps:List (Bool×Str)):(inn ps).length=ps.length-1:=by
 unfold inn;rw[Ya,List.length_zip,Vf];lia
def Lr{s:aI}(h:s.2≠[]):(sj s).length<=s.2.length+1:=by
 have:=Yh.mpr h;unfold sj sT;rw[Xa,mn];split<;>(simp only[Xd,Yg];lia)
def Ls(a b:End):(dC [a,b]).length=2:=(fJ [a,b]).2.length_eq
def Jr{s:aI}{j:Jnt}(h:j∈sj s):j≠[]:=by
 have two:∀a b:End,dC [a,b]≠[]:=fun a b z=>by have:=Ls a b;rw[z]at this;cases this
 unfold sj at h;rcases Wc.mp h with h|h
 ·unfold inn at h;obtain⟨q,_,rfl⟩:=Xc.mp h;exact two _ _
 ·unfold sT at h;split at h
  ·obtain rfl:=Va.mp h;exact two _ _
  ·simp at h;rcases h with rfl|rfl<;>simp
def zq{s:aI}(hs:s.2≠[])(hn:∀p∈s.2,Nm p.2)(hl:s.2.length<=100):eE [stD s]=some (.lst ((sj s).map jD),true):=by
 obtain⟨r,ps⟩:=s;dsimp only at hs hn hl;have h0:=xT hs;have hL:=xU hs;have n0:=hn _ (Yb h0);have nl:=hn _ (Yb hL);generalize e0:ps.headD z0=p0 at h0 n0;generalize eL:ps.getLastD z0=pl at hL nl;have i0:bIx (.tup (ps.map bdD)) (.int 0)=some (bdD p0,false):=VF.ix_tup (sS (i:=0) h0);have il:bIx (.tup (ps.map bdD)) (.int (-1))=some (bdD pl,false):=VF.ix_tup (xS hL);have hsl:bSl (.tup (ps.map bdD)) (some 1) none=some (.tup ((ps.drop 1).map bdD),false):=by
  cases ps with
  | nil=>exact absurd rfl hs
  | cons p q=>exact sR
 have hi:=F3 hn hl hsl;have hll:(inn ps).length<=100:=by rw[mn];lia
 have eo:sT (r,ps)=if r then [dC [leE p0,riE pl]] else [[leE p0],[riE pl]]:=by unfold sT;dsimp only;rw[e0,eL]
 unfold sj;rw[eo];dsimp only;refine aW (o:=.rt (.f (.lst ((inn ps++(if r then [dC [leE p0,riE pl]] else [[leE p0],[riE pl]])).map jD))) [.v (stD (r,ps)),.v (.tup (ps.map bdD)),.v (eD (leE p0)),.v (eD (riE pl)),.o (.lst ((if r then [dC [leE p0,riE pl]] else [[leE p0],[riE pl]]).map jD))]) rfl ?_ rfl;refine aC (s:=[.v (stD (r,ps)),.v (.tup (ps.map bdD)),.e,.e,.e]) (db rfl rfl) ?_;refine aC (s:=[.v (stD (r,ps)),.v (.tup (ps.map bdD)),.v (eD (leE p0)),.e,.e]) (db (aZ (aj (aE rfl rfl rfl rfl i0) rfl) rfl (sQ (t:=p0.1) (n:=p0.2) n0)) rfl) ?_;refine aC (s:=[.v (stD (r,ps)),.v (.tup (ps.map bdD)),.v (eD (leE p0)),.v (eD (riE pl)),.e]) (db (aZ (aj (aE rfl (F4 rfl rfl rfl) rfl rfl il) rfl) rfl (uN (t:=pl.1) (n:=pl.2) nl)) rfl) ?_;have fin:∀os:List Jnt,os.length<=2->(bx (fOp cE (bB fm (ac (ag 1) ai)) (ag 4))) [.v (stD (r,ps)),.v (.tup (ps.map bdD)),.v (eD (leE p0)),.v (eD (riE pl)),.o (.lst (os.map jD))]=some (.rt (.f (.lst ((inn ps++os).map jD))) [.v (stD (r,ps)),.v (.tup (ps.map bdD)),.v (eD (leE p0)),.v (eD (riE pl)),.o (.lst (os.map jD))]):=fun os ho=>by
  refine aU (aE (aZ rfl rfl hi) rfl rfl rfl (om ?_) ?_)
  ·rw[Ya,Ya];lia
  ·rw[Zc];rfl
 cases r with
 | true =>
  refine aC (eX (xi (s:=[.v (stD (true,ps)),.v (.tup (ps.map bdD)),.v (eD (leE p0)),.v (eD (riE pl)),.e]) rfl (jh (aj (aZ (aj (bq rfl rfl (by show 2<=1000000;decide)) rfl) rfl uO) rfl) rfl (by show 1<=1000000;decide))) rfl) ?_
  exact fin [dC [leE p0,riE pl]] (by show 1<=2;decide)
 | false =>
  refine aC (eX (xh (s:=[.v (stD (false,ps)),.v (.tup (ps.map bdD)),.v (eD (leE p0)),.v (eD (riE pl)),.e]) rfl (jh (aj (bq rfl rfl (by show 1<=1000000;decide)) (aj (bq rfl rfl (by show 1<=1000000;decide)) rfl)) rfl (by show 2<=1000000;decide))) rfl) ?_
  exact fin [[leE p0],[riE pl]] (by show 2<=2;decide)
theorem on:∀{ss:List aI},(∀s∈ss,s.2≠[])->(ss.flatMap sj).length<=2*(ss.flatMap (·.2)).length
 | [],_=>Qa _
 | s::r,h=>by
  have ih:=on fun x hx=>h x (Vb _ hx);have h1:=h s Wb;have h2:=Lr h1;have:=Yh.mpr h1;rw[Ve,Ve,Xa,Xa];lia
def jo(ss:List aI):List Jnt:=lA (ss.flatMap sj)
def qZ{ss:List aI}(hne:∀s∈ss,s.2≠[])(hn:∀s∈ss,∀p∈s.2,Nm p.2)(hl:(ss.flatMap (·.2)).length<=100):g6 [.tup (ss.map stD)]=some (.tup ((jo ss).map jD),false):=by
 have hj:=on hne;obtain⟨sf,e,s2,rfl,q2⟩:=cT (fg:=gN 2) (B:=cx (fM isL iT 1 (ac (bB eE (ac (ag 2) ai)) ai))) stD ss
  (fun gone st=>∃s2:Sl,st=[.v (.tup (ss.map stD)),.o (.lst ((gone.flatMap sj).map jD)),s2]/\s2.isIo=false)
  (by
   rintro gone s rest st ha ⟨s2,rfl,q2⟩;have hm:s∈ss:=by rw[ha];simp
   have hsl:s.2.length<=100:=by
    have:=congrArg (fun l=>(List.flatMap (fun x:aI=>x.2) l).length) ha;simp only[Ze,Ve,Xa]at this;lia
   have hgl:(gone.flatMap sj).length+(sj s).length<=200:=by
    have:=congrArg (fun l=>(List.flatMap sj l).length) ha;simp only[Ze,Ve,Xa]at this;lia
   refine⟨_,[.v (.tup (ss.map stD)),.o (.lst (((gone++[s]).flatMap sj).map jD)),.v (stD s)],bE rfl q2,?_,.v (stD s),rfl,rfl⟩;refine ce (f6 rfl rfl rfl (aj (aZ rfl rfl (zq (hne s hm) (hn s hm) hsl)) rfl) rfl rfl rfl (Hr ?_) ?_)
   ·rw[Ya,Ya];lia
   ·rw[Ze,Wg,Zc];rfl)
  ss [] [.v (.tup (ss.map stD)),.o (.lst []),.e] rfl ⟨.e,rfl,rfl⟩
 refine aW (o:=.rt (.d (.tup ((jo ss).map jD))) [.v (.tup (ss.map stD)),.o (.lst ((ss.flatMap sj).map jD)),s2]) rfl ?_ rfl;refine aC rfl (aC (eI (eY rfl rfl) e) (aU (bp (aj (bp rfl rfl (mT (ss.flatMap sj) (fun j hj=>?_) rfl)) rfl) rfl rfl)));obtain⟨s,_,h⟩:=List.mem_flatMap.mp hj;exact Jr h
end
end K34
namespace K34
open PySem L2 VF VL VF22
noncomputable section
def de(p:Bool×Str):D:=.tup [eD (leE p),eD (riE p)]
theorem H0{p:Bool×Str}(h:Nm p.2):gK [bdD p]=some (de p,false):=by
 obtain⟨t,n⟩:=p;obtain⟨c,hc,hcm⟩:=uB (p:=(t,n)) h;refine aW (o:=.rt (.d (de (t,n))) [.v (bdD (t,n))]) rfl ?_ rfl;cases t with
 | true =>
  have hs:bSl (bdD (true,n)) (some 1) none=some (.str n,false):=by
   rw[vP (gP h)];show some (D.str (Txt.slice (minus++n) (some 1) none),false)=_;rw[vX]
  refine iV (fS (s:=[.v (bdD (true,n))]) (f8 (aQ (aE (aE rfl rfl rfl rfl (ix_str (gP h) hc)) rfl rfl rfl rfl) rfl) (Af (hcm.mpr rfl))) (aU ?_));exact bq (aj (bq (aj (gY rfl rfl rfl rfl hs) rfl) rfl (by show 2<=1000000;decide)) (aj (bq (aj (gY rfl rfl rfl rfl hs) rfl) rfl (by show 2<=1000000;decide)) rfl)) rfl (by show 2<=1000000;decide)
 | false =>
  refine aC (cJ (s:=[.v (bdD (false,n))]) (f8 (aQ (aE (aE rfl rfl rfl rfl (ix_str (gP h) hc)) rfl rfl rfl rfl) rfl) (Ag fun z=>by cases (hcm.mp z))) rfl) (aU ?_)
  exact bq (aj (bq rfl rfl (by show 2<=1000000;decide)) (aj (bq rfl rfl (by show 2<=1000000;decide)) rfl)) rfl (by show 2<=1000000;decide)
def F5{ps:List (Bool×Str)}(hp:∀p∈ps,Nm p.2):cG (gN 0) cg (bB gK (ac (ag 0) ai)) 1 (ps.map bdD) [.e]=some (ps.map de,[.e]) :=
 b8 (fg:=gN 0) (fc:=cg) (fe:=bB gK (ac (ag 0) ai)) (k:=1) bdD de [.e] ps fun p hpp=>⟨[.v (bdD p)],[.v (bdD p)],.d (de p),[.v (bdD p)],[.v (bdD p)],rfl,rfl,aZ rfl rfl (H0 (hp p hpp)),rfl,rfl⟩
def Jn(p q:Bool×Str):Jnt:=dC [riE p,leE q]
def F6{ps:List (Bool×Str)}{i:Nat}{a b:Bool×Str}(h1:ps[i]?=some a)(h2:ps[i+1]?=some b):(inn ps).take (i+1)=(inn ps).take i++[Jn a b]:=by
 rw[List.take_add_one];congr 1;unfold inn;rw[We];have:(ps.zip (ps.drop 1))[i]?=some (a,b):=by
  rw[List.getElem?_zip_eq_some];refine⟨h1,?_⟩;rw[Qf,Du];exact h2
 rw[this];rfl
def zr{S kd bs:D}{ps:List (Bool×Str)}(h1:1<=ps.length)(hl:ps.length<=100)(B:FS)
  (hB:B=cx (fM isL bw 1 (ac (fCB bN (ac (fCB cZ (ac (dw (ac (fOp bIx (fOp bIx (ag 4) (ag 5)) (fC (.int 1))) (ac (fOp bIx (fOp bIx (ag 4) (fOp cE (ag 5) (fC (.int 1)))) (fC (.int 0))) ai))) ai)) ai)) ai)))
  (js:List Jnt) (hj:js.length<=500) (s5:Sl) (q5:s5.isIo=false) :
  ∃(s5':Sl),iE (gN 5) B (rng 0 (ps.length-1)) [.v S,.o (.lst (js.map jD)),.v kd,.v bs,.o (.lst (ps.map de)),s5]=some (.nx [.v S,.o (.lst ((js++inn ps).map jD)),.v kd,.v bs,.o (.lst (ps.map de)),s5'])/\s5'.isIo=false:=by
 have e0:rng 0 (ps.length-1)=(List.range (ps.length-1)).map fun t:Nat=>D.int (t:Int):=by
  unfold rng;exact Yl fun t _=>by rw[Int.zero_add]
 rw[e0];obtain⟨sf,e,s5',rfl,q5'⟩:=cT (fg:=gN 5) (B:=B) (fun t:Nat=>D.int (t:Int)) (List.range (ps.length-1))
  (fun gone st=>∃(s5':Sl),st=[.v S,.o (.lst ((js++(inn ps).take gone.length).map jD)),.v kd,.v bs,.o (.lst (ps.map de)),s5']/\s5'.isIo=false)
  (by
   rintro gone x rest st ha ⟨s5',rfl,q5'⟩;have hx:x<ps.length-1:=Zl.mp (by rw[ha];simp)
   have hg:x=gone.length:=by
    have:=congrArg (fun l=>l[gone.length]?) ha;rw[List.getElem?_range (by have:=congrArg List.length ha;rw[CN,Xa,Xd]at this;lia)]at this
    simpa using this.symm
   have a1:ps[x]?=some ps[x]:=Za (by lia)
   have a2:ps[x+1]?=some ps[x+1]:=Za (by lia)
   have i1:bIx (.lst (ps.map de)) (.int (x:Int))=some (de ps[x],false):=jg (sS a1);have i2:bIx (.lst (ps.map de)) (.int ((x:Int)+1))=some (de ps[x+1],false):=by
    have:=sS (f:=de) a2;rw[Int.natCast_add]at this;exact jg this
   have ej:=ky (d:=.lst [eD (riE ps[x]),eD (leE ps[x+1])]) [riE ps[x],leE ps[x+1]] rfl;refine⟨_,[.v S,.o (.lst ((js++(inn ps).take (gone++[x]).length).map jD)),.v kd,.v bs,.o (.lst (ps.map de)),.v (.int (x:Int))],bE rfl q5',?_,.v (.int (x:Int)),rfl,rfl⟩;rw[hB];refine ce (f6 rfl rfl rfl (aj (bp (aj (bp (aj (jh (aj (aE (aE rfl rfl rfl rfl i1) rfl rfl rfl rfl) (aj (aE (aE rfl (aE rfl rfl rfl rfl rfl) rfl rfl i2) rfl rfl rfl rfl) rfl)) rfl (by show 2<=1000000;decide)) rfl) rfl ej) rfl) rfl rfl) rfl) rfl rfl rfl (dR ?_) ?_)
   ·rw[Ya,Xa,Wf,mn];lia
   ·rw[Xa,Bb,← hg,F6 a1 a2,← Yc,Zc (l₁:=js++_)];rfl)
  (List.range (ps.length-1)) [] [.v S,.o (.lst (js.map jD)),.v kd,.v bs,.o (.lst (ps.map de)),s5] rfl ⟨s5,by rw[Yg,C8,Vc],q5⟩
 rw[CN,A8 (by rw[mn];lia)]at e
 exact⟨s5',e,q5'⟩
def wm{ss:List aI}(hne:∀s∈ss,s.2≠[])(hn:∀s∈ss,∀p∈s.2,Nm p.2)(hl:(ss.flatMap (·.2)).length<=100):ft [.tup (ss.map stD)]=some (.tup ((jo ss).map jD),false):=by
 have hj:=on hne;have sp:∃B,jb=aL (bi (dw ai) 1) (aL (gz (fIA (ag 0)) (VF.gT 2 (gsC (gN 2) (gsC (gN 3) gsN))) B) (bx (fCB bN (ac (fCB cZ (ac (ag 1) ai)) ai)))) /\
   ∀(S:D)(js:List Jnt)(s:aI)(s4 s5:Sl),s.2≠[]->(∀p∈s.2,Nm p.2)->s.2.length<=100->js.length<=300->s4.isIo=false->s5.isIo=false ->
    ∃(s4' s5':Sl),B [.v S,.o (.lst (js.map jD)),.v (.str (kd s.1)),.v (.tup (s.2.map bdD)),s4,s5]=some (.nx [.v S,.o (.lst ((js++sj s).map jD)),.v (.str (kd s.1)),.v (.tup (s.2.map bdD)),s4',s5'])/\s4'.isIo=false/\s5'.isIo=false:=by
  refine⟨_,rfl,fun S js s s4 s5 hs hp hsl hj q4 q5=>?_⟩;obtain⟨r,ps⟩:=s;dsimp only at hs hp hsl ⊢;have hps:1<=ps.length:=Yh.mpr hs;have cm:=F5 hp;obtain⟨s5',e1,q5'⟩:=zr (S:=S) (kd:=.str (kd r)) (bs:=.tup (ps.map bdD)) hps hsl _ rfl js (by lia) s5 q5
  have hp0:=xT hs;have hpl:=xU hs;have i0:bIx (.lst (ps.map de)) (.int 0)=some (de (ps.headD z0),false):=jg (sS (i:=0) hp0);have il:bIx (.lst (ps.map de)) (.int (-1))=some (de (ps.getLastD z0),false):=jg (xS hpl);have len4:cA [.lst (ps.map de)]=some (.int ps.length,false):=by
   show some (D.int ((ps.map de).length:Nat),false)=_;rw[Ya]
  have esub:((ps.length:Int)-1).toNat=ps.length-1:=by lia
  have hil:(js++inn ps).length<=500:=by rw[Xa,mn];lia
  cases r with
  | true =>
   have ej:=ky (d:=.lst [eD (riE (ps.getLastD z0)),eD (leE (ps.headD z0))]) [riE (ps.getLastD z0),leE (ps.headD z0)] rfl;have es:sj (true,ps)=inn ps++[dC [riE (ps.getLastD z0),leE (ps.headD z0)]]:=by
    show inn ps++[dC [leE (ps.headD z0),riE (ps.getLastD z0)]]=_;rw[gQ (List.Perm.swap _ _ [])]
   refine⟨.o (.lst (ps.map de)),s5',?_,rfl,q5'⟩;refine aC (s:=[.v S,.o (.lst (js.map jD)),.v (.str (kd true)),.v (.tup (ps.map bdD)),.o (.lst (ps.map de)),s5]) (eX (bO (s2:=[.e]) (eY rfl rfl) (ml (n:=100) (by rw[Ya];exact hsl) (by decide) rfl) cm) (bE rfl q4)) ?_
   refine aC (eI (iW (j:=(ps.length:Int)-1) (aj (aE (bp rfl rfl len4) rfl rfl rfl rfl) rfl) rfl ⟨by lia,by lia⟩) (by rw[esub];exact e1)) ?_
   refine fS (s:=[.v S,.o (.lst ((js++inn ps).map jD)),.v (.str (kd true)),.v (.tup (ps.map bdD)),.o (.lst (ps.map de)),s5']) rfl ?_;refine ce (f6 rfl rfl rfl (aj (bp (aj (bp (aj (jh (aj (aE (aE rfl (F4 rfl rfl rfl) rfl rfl il) rfl rfl rfl rfl) (aj (aE (aE rfl rfl rfl rfl i0) rfl rfl rfl rfl) rfl)) rfl (by show 2<=1000000;decide)) rfl) rfl ej) rfl) rfl rfl) rfl) rfl rfl rfl (dR ?_) ?_)
   ·rw[Ya];lia
   ·rw[es,← Yc,Zc (l₁:=js++inn ps)];rfl
  | false =>
   have es:sj (false,ps)=inn ps++[[leE (ps.headD z0)],[riE (ps.getLastD z0)]]:=rfl;refine⟨.o (.lst (ps.map de)),s5',?_,rfl,q5'⟩;refine aC (s:=[.v S,.o (.lst (js.map jD)),.v (.str (kd false)),.v (.tup (ps.map bdD)),.o (.lst (ps.map de)),s5]) (eX (bO (s2:=[.e]) (eY rfl rfl) (ml (n:=100) (by rw[Ya];exact hsl) (by decide) rfl) cm) (bE rfl q4)) ?_
   refine aC (eI (iW (j:=(ps.length:Int)-1) (aj (aE (bp rfl rfl len4) rfl rfl rfl rfl) rfl) rfl ⟨by lia,by lia⟩) (by rw[esub];exact e1)) ?_
   refine cJ (s:=[.v S,.o (.lst ((js++inn ps).map jD)),.v (.str (kd false)),.v (.tup (ps.map bdD)),.o (.lst (ps.map de)),s5']) rfl ?_;refine aC (s:=[.v S,.o (.lst ((js++inn ps++[[leE (ps.headD z0)]]).map jD)),.v (.str (kd false)),.v (.tup (ps.map bdD)),.o (.lst (ps.map de)),s5']) (ce (f6 rfl rfl rfl (aj (bq (aj (aE (aE rfl rfl rfl rfl i0) rfl rfl rfl rfl) rfl) rfl (by show 1<=1000000;decide)) rfl) rfl rfl rfl (dR ?_) ?_)) ?_
   ·rw[Ya];lia
   ·rw[Zc (l₁:=js++inn ps)];rfl
   refine ce (f6 rfl rfl rfl (aj (bq (aj (aE (aE rfl (F4 rfl rfl rfl) rfl rfl il) rfl rfl rfl rfl) rfl) rfl (by show 1<=1000000;decide)) rfl) rfl rfl rfl (dR ?_) ?_)
   ·rw[Ya,Xa,Bb];lia
   ·rw[es,show js++(inn ps++[[leE (ps.headD z0)],[riE (ps.getLastD z0)]])=js++inn ps++[[leE (ps.headD z0)]]++[[riE (ps.getLastD z0)]] by simp,Zc (l₁:=js++inn ps++[[leE (ps.headD z0)]])];rfl
 obtain⟨B,eF,hB⟩:=sp;obtain⟨sf,e,s2,s3,s4,s5,rfl,q2,q3,q4,q5⟩:=cT (fg:=VF.gT 2 (gsC (gN 2) (gsC (gN 3) gsN))) (B:=B) stD ss
  (fun gone st=>∃(s2 s3 s4 s5:Sl),st=[.v (.tup (ss.map stD)),.o (.lst ((gone.flatMap sj).map jD)),s2,s3,s4,s5]/\s2.isIo=false/\s3.isIo=false/\s4.isIo=false/\s5.isIo=false)
  (by
   rintro gone s rest st ha ⟨s2,s3,s4,s5,rfl,q2,q3,q4,q5⟩;have hm:s∈ss:=by rw[ha];simp
   have hsl:s.2.length<=100:=by
    have:=congrArg (fun l=>(List.flatMap (fun x:aI=>x.2) l).length) ha;simp only[Ze,Ve,Xa]at this;lia
   have hgl:(gone.flatMap sj).length<=200:=by
    have:=congrArg (fun l=>(List.flatMap sj l).length) ha;simp only[Ze,Ve,Xa]at this;lia
   obtain⟨s4',s5',eb,q4',q5'⟩:=hB (.tup (ss.map stD)) (gone.flatMap sj) s s4 s5 (hne s hm) (hn s hm) hsl (by lia) q4 q5
   refine⟨[.v (.tup (ss.map stD)),.o (.lst ((gone.flatMap sj).map jD)),.v (.str (kd s.1)),.v (.tup (s.2.map bdD)),s4,s5],_,?_,eb,.v (.str (kd s.1)),.v (.tup (s.2.map bdD)),s4',s5',by rw[Ze,Wg],rfl,rfl,q4',q5'⟩
   show(if 2=2 then gsC (gN 2) (gsC (gN 3) gsN) [.str (kd s.1),.tup (s.2.map bdD)] _ else none)=_;rw[Ae rfl];show(gN 2 (.str (kd s.1)) _).bind _=_;rw[show gN 2 (.str (kd s.1)) [.v (.tup (ss.map stD)),.o (.lst ((gone.flatMap sj).map jD)),s2,s3,s4,s5]=some [.v (.tup (ss.map stD)),.o (.lst ((gone.flatMap sj).map jD)),.v (.str (kd s.1)),s3,s4,s5] from bE rfl q2];show(gN 3 (.tup (s.2.map bdD)) _).bind _=_;rw[show gN 3 (.tup (s.2.map bdD)) [.v (.tup (ss.map stD)),.o (.lst ((gone.flatMap sj).map jD)),.v (.str (kd s.1)),s3,s4,s5]=some [.v (.tup (ss.map stD)),.o (.lst ((gone.flatMap sj).map jD)),.v (.str (kd s.1)),.v (.tup (s.2.map bdD)),s4,s5] from bE rfl q3]
   rfl)
  ss [] [.v (.tup (ss.map stD)),.o (.lst []),.e,.e,.e,.e] rfl ⟨.e,.e,.e,.e,rfl,rfl,rfl,rfl,rfl⟩
 refine aW (o:=.rt (.d (.tup ((jo ss).map jD))) [.v (.tup (ss.map stD)),.o (.lst ((ss.flatMap sj).map jD)),s2,s3,s4,s5]) rfl ?_ rfl;rw[eF];refine aC rfl (aC (eI (eY rfl rfl) e) (aU (bp (aj (bp rfl rfl (mT (ss.flatMap sj) (fun j hj=>?_) rfl)) rfl) rfl rfl)));obtain⟨s,_,h⟩:=List.mem_flatMap.mp hj;exact Jr h
abbrev Bd:=Bool×Str
def xV(p q:Bd)(r:List Bd):inn (p::q::r)=Jn p q::inn (q::r):=rfl
theorem oq:∀(xs:List Bd)(y:Bd)(ys:List Bd),xs≠[]->inn (xs++y::ys)=inn xs++Jn (xs.getLastD z0) y::inn (y::ys)
 | [],_,_,h=>absurd rfl h
 | [x],y,ys,_=>rfl
 | x::x'::r,y,ys,_=>by
  have ih:=oq (x'::r) y ys (by simp)
  show Jn x x'::inn (x'::r++y::ys)=Jn x x'::(inn (x'::r)++_);rw[ih];rfl
def flp(p:Bd):Bd:=(!p.1,p.2)
def F7(p:Bd):leE (flp p)=riE p:=by obtain⟨t,n⟩:=p;cases t<;>rfl
def F8(p:Bd):riE (flp p)=leE p:=by obtain⟨t,n⟩:=p;cases t<;>rfl
def Lu(p q:Bd):Jn (flp q) (flp p)=Jn p q:=by
 unfold Jn;rw[F8,F7];exact gQ (List.Perm.swap _ _ [])
def fV(ps:List Bd):List Bd:=ps.reverse.map flp
def pJ(p:Bd)(r:List Bd):fV (p::r)=fV r++[flp p]:=by unfold fV;rw[AM,Zc];rfl
def mq{α:Type}(xs:List α)(x z:α):(xs++[x]).getLastD z=x:=by rw[Dg];simp
def uP{p:Bd}{r:List Bd}:(fV (p::r)).getLastD z0=flp p:=by rw[pJ,mq]
def F9{p:Bd}{r:List Bd}:fV (p::r)≠[]:=by rw[pJ];simp
theorem xW:∀ps:List Bd,inn (fV ps)=(inn ps).reverse
 | []=>rfl
 | [p]=>rfl
 | p::q::r=>by
  have ih:=xW (q::r);rw[pJ,oq _ _ _ F9,ih,uP,Lu,xV,AM];rfl
def Ga(ps:List Bd)(h:ps≠[]):(fV ps).headD z0=flp (ps.getLastD z0):=by
 obtain⟨r,p,rfl⟩:∃r p,ps=r++[p]:=⟨ps.dropLast,ps.getLast h,(C5 h).symm⟩;rw[mq];unfold fV;rw[Cd];rfl
theorem zt(ps:List Bd)(h:ps≠[]):(fV ps).getLastD z0=flp (ps.headD z0):=by
 cases ps with
 | nil=>exact absurd rfl h
 | cons p r=>exact uP
theorem Lx{b:Bool}{ps:List Bd}(h:ps≠[]):(sj (b,fV ps)).Perm (sj (b,ps)):=by
 unfold sj sT;dsimp only;rw[xW,Ga ps h,zt ps h,F7,F8];refine List.Perm.append (List.reverse_perm _) ?_;cases b with
 | true =>
  show [dC [riE (ps.getLastD z0),leE (ps.headD z0)]].Perm [dC [leE (ps.headD z0),riE (ps.getLastD z0)]];rw[gQ (List.Perm.swap _ _ [])]
 | false=>exact List.Perm.swap _ _ []
def xX(ps:List Bd):sT (true,ps)=[Jn (ps.getLastD z0) (ps.headD z0)]:=by
 show [dC [leE (ps.headD z0),riE (ps.getLastD z0)]]=[dC [riE (ps.getLastD z0),leE (ps.headD z0)]];rw[gQ (List.Perm.swap _ _ [])]
def q0{xs ys:List Bd}(h:ys≠[]):(xs++ys).getLastD z0=ys.getLastD z0:=by
 obtain⟨r,p,rfl⟩:∃r p,ys=r++[p]:=⟨ys.dropLast,ys.getLast h,(C5 h).symm⟩;rw[← Yc,mq,mq]
theorem Ly{xs ys:List Bd}:(sj (true,ys++xs)).Perm (sj (true,xs++ys)):=by
 cases xs with
 | nil=>rw[Vc,AY]
 | cons x xr =>
  cases ys with
  | nil=>rw[Vc,AY]
  | cons y yr =>
   unfold sj;rw[xX,xX,q0 (by simp),q0 (by simp)]
   dsimp only;rw[oq (y::yr) x xr (by simp),oq (x::xr) y yr (by simp)]
   show(inn (y::yr)++Jn ((y::yr).getLastD z0) x::inn (x::xr)++[Jn ((x::xr).getLastD z0) y]).Perm (inn (x::xr)++Jn ((x::xr).getLastD z0) y::inn (y::yr)++[Jn ((y::yr).getLastD z0) x]);generalize inn (y::yr)=A;generalize inn (x::xr)=B;generalize Jn ((y::yr).getLastD z0) x=u;generalize Jn ((x::xr).getLastD z0) y=v;rw[show A++u::B++[v]=(A++[u])++(B++[v]) by simp,show B++v::A++[u]=(B++[v])++(A++[u]) by simp]
   exact B2
def jq(ps:List Bd):List End:=ps.map leE++ps.map riE
theorem uQ:∀(p:Bd)(r:List Bd),((inn (p::r)).flatten++[leE p]++[riE ((p::r).getLastD z0)]).Perm (jq (p::r))
 | p,[]=>List.Perm.refl _
 | p,q::r=>by
  have ih:=uQ q r;have e:((p::q::r).getLastD z0)=(q::r).getLastD z0:=rfl;rw[xV,e,AO];generalize (inn (q::r)).flatten=A at ih ⊢;generalize (q::r).getLastD z0=l at ih ⊢;have h1:(Jn p q).Perm [riE p,leE q]:=(fJ _).2;have h2:(jq (p::q::r)).Perm (riE p::leE p::jq (q::r)):=by
   show(leE p::((q::r).map leE++riE p::(q::r).map riE)).Perm _;exact((Vk).cons _).trans (List.Perm.swap _ _ _)
  refine List.Perm.trans ?_ h2.symm;have h3:(Jn p q++A++[leE p]++[riE l]).Perm (riE p::leE p::(A++[leE q]++[riE l])):=by
   refine((((h1.append_right A).append_right [leE p]).append_right [riE l])).trans ?_;show(riE p::leE q::(A++[leE p]++[riE l])).Perm _;refine List.Perm.cons _ ?_;have e1:leE q::(A++[leE p]++[riE l])=(leE q::A)++leE p::[riE l]:=by simp
   have e2:leE p::(A++[leE q]++[riE l])=leE p::(A++leE q::[riE l]):=by simp
   rw[e1,e2];exact(Vk).trans ((Vk.symm).cons _)
  exact h3.trans ((ih.cons _).cons _)
theorem H9{s:aI}(h:s.2≠[]):((sj s).flatten).Perm (jq s.2):=by
 obtain⟨b,ps⟩:=s;cases ps with
 | nil=>exact absurd rfl h
 | cons p r =>
  refine List.Perm.trans ?_ (uQ p r);unfold sj;rw[Qm,Yc];refine AJ _ ?_;cases b with
  | true =>
   show([dC [leE p,riE ((p::r).getLastD z0)]].flatten).Perm ([leE p]++[riE ((p::r).getLastD z0)]);rw[Dw];exact(fJ _).2
  | false=>exact List.Perm.refl _
def zero(x:Str):End:=(x,0)
def one(x:Str):End:=(x,1)
theorem ji:∀ps:List Bd,(jq ps).Perm ((ps.map (·.2)).map zero++(ps.map (·.2)).map one)
 | []=>List.Perm.refl _
 | p::r=>by
  have ih:=ji r;have h1:(jq (p::r)).Perm (leE p::riE p::jq r):=(Vk).cons _;refine h1.trans ?_;have h2:((((p::r).map (·.2)).map zero++((p::r).map (·.2)).map one)).Perm (zero p.2::one p.2::((r.map (·.2)).map zero++(r.map (·.2)).map one)):=(Vk).cons _;refine List.Perm.trans ?_ h2.symm;obtain⟨t,n⟩:=p;cases t with
  | true=>exact(List.Perm.swap _ _ _).trans ((ih.cons _).cons _)
  | false=>exact(ih.cons _).cons _
def Gb(a b:List Bd):(jq (a++b)).Perm (jq a++jq b):=by
 unfold jq;rw[Zc,Zc];have e1:a.map leE++b.map leE++(a.map riE++b.map riE)=a.map leE++(b.map leE++a.map riE)++b.map riE:=by simp
 have e2:a.map leE++a.map riE++(b.map leE++b.map riE)=a.map leE++(a.map riE++b.map leE)++b.map riE:=by simp
 rw[e1,e2];exact(AJ _ B2).append_right _
theorem kz:∀{ss:List aI},(∀s∈ss,s.2≠[])->((ss.flatMap sj).flatten).Perm (jq (ss.flatMap (·.2)))
 | [],_=>List.Perm.refl _
 | s::r,h=>by
  have ih:=kz fun x hx=>h x (Vb _ hx);rw[Ve,Ve,Qm];exact((H9 (h s Wb)).append ih).trans (Gb _ _).symm
def sU{ss:List aI}(h:∀s∈ss,s.2≠[]){xs:List Str}(p:((ss.flatMap (·.2)).map (·.2)).Perm xs):((jo ss).flatten).Perm (xs.map zero++xs.map one):=by
 have h1:(jo ss).Perm (ss.flatMap sj):=(fK _).2;refine(h1.flatten).trans ((kz h).trans ((ji _).trans ?_));exact(p.map zero).append (p.map one)
def Gc{φ:D}{xs:List D}(hφ:ci φ)(hx:xs.length<=200):∃(ys:List D)(φ':D),dm φ [.tup xs]=some ((.lst ys,true),φ')/\ys.Perm xs/\ci φ':=by
 obtain⟨sf,ew,ts,φ',rfl,pm,hf⟩:=se (f:=aH (fOp bNe (ag 2) (dw ai))) (B:=cx (fM isL bw 3 (ac (fM isL ij 2 (ac (fIO aG 0 (ac (fCB cA (ac (ag 2) ai)) ai)) ai)) ai)))
  (fun m s=>∃(ls ts:List D)(φ':D),s=[.io φ',.v (.tup xs),.o (.lst ls),.o (.lst ts)]/\ci φ'/\(ts++ls).Perm xs/\m=ls.length)
  (fun s=>∃(ts:List D)(φ':D),s=[.io φ',.v (.tup xs),.o (.lst []),.o (.lst ts)]/\ts.Perm xs/\ci φ')
  (by
   rintro m s ⟨ls,ts,φ',rfl,hf,pm,rfl⟩;have hlen:ts.length+ls.length=xs.length:=by have:=pm.length_eq;rw[Xa]at this;exact this
   cases ls with
   | nil =>
    rw[Vc]at pm;exact .inl ⟨_,rfl,ts,φ',rfl,pm,hf⟩
   | cons y lr =>
    right;have hl0:(y::lr).length=lr.length+1:=rfl;obtain⟨d,φ2,e,d0,d1,f2⟩:=b9 (n:=((y::lr).length:Int)) hf (by lia) (by lia)
    have hk:d.toNat<(y::lr).length:=by lia
    refine⟨_,[.io φ2,.v (.tup xs),.o (.lst ((y::lr).eraseIdx d.toNat)),.o (.lst (ts++[(y::lr)[d.toNat]]))],((y::lr).eraseIdx d.toNat).length,rfl,?_,?_,_,_,φ2,rfl,f2,?_,rfl⟩
    ·exact ce (f6 rfl rfl rfl (aj (f6 rfl rfl rfl (aj (bY rfl rfl rfl rfl rfl rfl e) rfl) rfl rfl rfl (pI d0 d1 (by lia) hk)) rfl) rfl rfl rfl (dR (by lia)))
    ·rw[Dc hk];lia
    ·refine List.Perm.trans ?_ pm;rw[Yc]
     exact AJ ts (i6 hk))
  300 xs.length [.io φ,.v (.tup xs),.o (.lst xs),.o (.lst [])] (by lia) ⟨xs,[],φ,rfl,hφ,List.Perm.refl _,rfl⟩
 refine⟨ts,φ',?_,pm,hf⟩;refine cC (o:=.rt (.s 3) [.io φ',.v (.tup xs),.o (.lst []),.o (.lst ts)]) rfl ?_ rfl;refine aC (s:=[.io φ,.v (.tup xs),.o (.lst xs),.e]) rfl ?_;refine aC (s:=[.io φ,.v (.tup xs),.o (.lst xs),.o (.lst [])]) rfl ?_;exact aC ew rfl
theorem rb{α β:Type}{f:α->β}:∀{ys:List β}{xs:List α},ys.Perm (xs.map f)->∃zs:List α,ys=zs.map f/\zs.Perm xs
 | [],xs,p=>⟨[],rfl,by
  have:=p.length_eq;rw[Ya,Yg]at this
  rw[Wi this.symm]⟩
 | y::r,xs,p=>by
  obtain⟨x,hx,rfl⟩:=Xc.mp (p.mem_iff.mp Wb);obtain⟨a,b,rfl⟩:=List.append_of_mem hx;have p2:(f x::r).Perm (f x::(a++b).map f):=by
   refine p.trans ?_;rw[Zc,Zc,Xe];exact Vk
  obtain⟨zs,rfl,q⟩:=rb (List.Perm.cons_inv p2);exact⟨x::zs,rfl,(q.cons x).trans Vk.symm⟩
structure Tld(s t:aI):Prop where
 ne:t.2≠[]
 nm:∀p∈t.2,Nm p.2
 ln:t.2.length=s.2.length
 js:(sj t).Perm (sj s)
def uR{S:D}{us:List aI}{φ:D}{s:aI}{s5:Sl}(hφ:ci φ)(hs:s.2≠[])(hn:∀p∈s.2,Nm p.2)(hl:s.2.length<=100)(hu:us.length<=200)(q5:s5.isIo=false)(B:FS)
  (hB:B=(aL (sIf (aH (fOp bEq (ag 3) (fC (.str "ring")))) (aL (bi (fIO aG 0 (ac (fCB cA (ac (ag 4) ai)) ai)) 5)
  (bi (fOp jJ (fSl qi (ag 4) (cR (ag 5)) oNo) (fSl qi (ag 4) oNo (cR (ag 5)))) 4)) bZ)
  (aL (sIf (aH (fOp bEq (fIO aG 0 (ac (fC (.int 2)) ai)) (fC (.int 0)))) (bi (fCB bN (ac (cB 1 [] (fIA (t4 (ag 4))) (gN 0) cg (bF bH (ac (ag 0) ai))) ai)) 4) bZ)
  (cx (fM isL bw 2 (ac (bQ (ac (ag 3) (ac (ag 4) ai))) ai)))))) :
  ∃(t:aI)(φ':D)(s5':Sl),Tld s t/\ci φ'/\s5'.isIo=false /\
   B [.io φ,.v S,.o (.lst (us.map stD)),.v (.str (kd s.1)),.v (.tup (s.2.map bdD)),s5]=some (.nx [.io φ',.v S,.o (.lst ((us++[t]).map stD)),.v (.str (kd s.1)),.v (.tup (t.2.map bdD)),s5']):=by
 obtain⟨r,ps⟩:=s;dsimp only at hs hn hl ⊢;have hps:1<=ps.length:=Yh.mpr hs;have rest:∀(φ1:D)(qs:List Bd)(s5':Sl),ci φ1->s5'.isIo=false->Tld (r,ps) (r,qs)->∃(t:aI)(φ':D),Tld (r,ps) t/\ci φ' /\
   (aL (sIf (aH (fOp bEq (fIO aG 0 (ac (fC (.int 2)) ai)) (fC (.int 0)))) (bi (fCB bN (ac (cB 1 [] (fIA (t4 (ag 4))) (gN 0) cg (bF bH (ac (ag 0) ai))) ai)) 4) bZ)
    (cx (fM isL bw 2 (ac (bQ (ac (ag 3) (ac (ag 4) ai))) ai)))) [.io φ1,.v S,.o (.lst (us.map stD)),.v (.str (kd r)),.v (.tup (qs.map bdD)),s5']=some (.nx [.io φ',.v S,.o (.lst ((us++[t]).map stD)),.v (.str (kd r)),.v (.tup (t.2.map bdD)),s5']):=by
  intro φ1 qs s5' f1 q5' T;have fin:∀(φ2:D)(ts:List Bd),(cx (fM isL bw 2 (ac (bQ (ac (ag 3) (ac (ag 4) ai))) ai))) [.io φ2,.v S,.o (.lst (us.map stD)),.v (.str (kd r)),.v (.tup (ts.map bdD)),s5']=some (.nx [.io φ2,.v S,.o (.lst ((us++[(r,ts)]).map stD)),.v (.str (kd r)),.v (.tup (ts.map bdD)),s5']):=fun φ2 ts=>by
   refine ce (f6 rfl rfl rfl (aj (bq rfl rfl (by show 2<=1000000;decide)) rfl) rfl rfl rfl (dR ?_) ?_)
   ·rw[Ya];lia
   ·rw[Zc];rfl
  obtain⟨d,φ2,e2,d0,d1,f2⟩:=b9 (n:=2) f1 (by decide) (by decide)
  by_cases c:d=0
  ·subst c;have T2:Tld (r,ps) (r,fV qs):=by
    refine⟨?_,fun p hp=>?_,?_,(Lx T.ne).trans T.js⟩
    ·cases qs with
     | nil=>exact absurd rfl T.ne
     | cons q qr=>exact F9
    ·obtain⟨q,hq,rfl⟩:=Xc.mp hp;exact T.nm q (List.mem_reverse.mp hq)
    ·show(qs.reverse.map flp).length=_;rw[Ya,Qi];exact T.ln
   have cm:cG (gN 0) cg (bF bH (ac (ag 0) ai)) 1 (qs.reverse.map bdD) [.e]=some ((fV qs).map bdD,[.e]):=by
    have:=b8 (fg:=gN 0) (fc:=cg) (fe:=bF bH (ac (ag 0) ai)) (k:=1) bdD (fun p=>bdD (flp p)) [.e] qs.reverse fun p hpp=>⟨[.v (bdD p)],[.v (bdD p)],.d (bdD (flp p)),[.v (bdD p)],[.v (bdD p)],rfl,rfl,bD rfl rfl (xR (t:=p.1) (n:=p.2) (T.nm p (List.mem_reverse.mp hpp))) rfl,rfl,rfl⟩;rw[this];unfold fV;rw[Vg];rfl
   refine⟨(r,fV qs),φ2,T2,f2,?_⟩;have hrev:Hk (.tup (qs.map bdD))=some (.tup (qs.reverse.map bdD),false):=by
    rw[CZ];rfl
   refine aC (fS (s:=[.io φ2,.v S,.o (.lst (us.map stD)),.v (.str (kd r)),.v (.tup (qs.map bdD)),s5']) (aQ (aE (bY rfl rfl rfl rfl rfl rfl e2) rfl rfl rfl rfl) rfl) (db (bp (aj (bO (s2:=[.e]) (eY (EA rfl rfl hrev) rfl) (ml (n:=100) ?_ (by decide) rfl) cm) rfl) rfl rfl) rfl)) (fin φ2 (fV qs))
   rw[Ya,Qi];exact T.ln ▸ hl
  ·have t:decide (V.int d=V.int 0)=false:=Ag fun z=>c (V.int.inj z);exact⟨(r,qs),φ2,T,f2,aC (cJ (s:=[.io φ2,.v S,.o (.lst (us.map stD)),.v (.str (kd r)),.v (.tup (qs.map bdD)),s5']) (f8 (aQ (aE (bY rfl rfl rfl rfl rfl rfl e2) rfl rfl rfl rfl) rfl) t) rfl) (fin φ2 qs)⟩
 rw[hB];cases r with
 | false =>
  obtain⟨t,φ',T,f',e⟩:=rest φ ps s5 hφ q5 ⟨hs,hn,rfl,List.Perm.refl _⟩;exact⟨t,φ',s5,T,f',q5,aC (cJ (s:=[.io φ,.v S,.o (.lst (us.map stD)),.v (.str (kd false)),.v (.tup (ps.map bdD)),s5]) rfl rfl) e⟩
 | true =>
  obtain⟨d,φ1,e1,d0,d1,f1⟩:=b9 (n:=(ps.length:Int)) hφ (by lia) (by lia)
  obtain⟨k,rfl⟩:=BO d0;have hk:k<=(ps.map bdD).length:=by rw[Ya];lia
  have s1:qi (.tup (ps.map bdD)) (some (k:Int)) none=some (.tup ((ps.drop k).map bdD),false):=by rw[vU,lS hk,BH]
  have s2:qi (.tup (ps.map bdD)) none (some (k:Int))=some (.tup ((ps.take k).map bdD),false):=by rw[vU,EK hk,Cj]
  have ct:jJ (.tup ((ps.drop k).map bdD)) (.tup ((ps.take k).map bdD))=some (.tup ((ps.drop k++ps.take k).map bdD),false):=by
   rw[Ho (by rw[Ya,Ya,Vf,Wf];lia),Zc]
  have T:Tld (true,ps) (true,ps.drop k++ps.take k):=by
   have ln:(ps.drop k++ps.take k).length=ps.length:=by rw[Xa,Vf,Wf];lia
   refine⟨fun z=>?_,fun p hp=>?_,ln,?_⟩
   ·have z':ps.drop k++ps.take k=[]:=z;rw[z',Yg]at ln;lia
   ·rcases Wc.mp hp with m|m
    ·exact hn p (Bl m)
    ·exact hn p (B9 m)
   ·have:=Ly (xs:=ps.take k) (ys:=ps.drop k);rwa [Qg]at this
  have len4:cA [.tup (ps.map bdD)]=some (.int ps.length,false):=by
   show some (D.int ((ps.map bdD).length:Nat),false)=_;rw[Ya]
  obtain⟨t,φ',T',f',e⟩:=rest φ1 (ps.drop k++ps.take k) (.v (.int (k:Int))) f1 rfl T;refine⟨t,φ',.v (.int (k:Int)),T',f',rfl,aC (fS (s:=[.io φ,.v S,.o (.lst (us.map stD)),.v (.str (kd true)),.v (.tup (ps.map bdD)),s5]) rfl ?_) e⟩;refine aC (s:=[.io φ1,.v S,.o (.lst (us.map stD)),.v (.str (kd true)),.v (.tup (ps.map bdD)),.v (.int (k:Int))]) (db (bY rfl rfl (aj (bp rfl rfl len4) rfl) rfl rfl rfl e1) (bE rfl q5)) ?_;exact db (aE (gY rfl rfl rfl rfl s1) (gY rfl rfl rfl rfl s2) rfl rfl ct) rfl
def nq{φ:D}{ss:List aI}(hφ:ci φ)(hne:∀s∈ss,s.2≠[])(hn:∀s∈ss,∀p∈s.2,Nm p.2)(hl:(ss.flatMap (·.2)).length<=100) :
  ∃(ts:List aI)(φ':D),fu φ [.tup (ss.map stD)]=some ((.tup (ts.map stD),false),φ')/\(∀s∈ts,s.2≠[])/\(∀s∈ts,∀p∈s.2,Nm p.2)/\(ts.flatMap (·.2)).length=(ss.flatMap (·.2)).length/\(ts.flatMap sj).Perm (ss.flatMap sj)/\ci φ':=by
 have hsl:=mj ss hne;obtain⟨ys,φ1,e1,pm,f1⟩:=Gc (xs:=ss.map stD) hφ (by rw[Ya];lia)
 obtain⟨us,rfl,pu⟩:=rb pm;have sp:∃B,gO=aL (bi (dw ai) 2) (aL (gz (fIA (fIO dm 0 (ac (ag 1) ai))) (VF.gT 2 (gsC (gN 3) (gsC (gN 4) gsN))) B) (bx (fCB bN (ac (ag 2) ai)))) /\
   ∀(us:List aI)(φ:D)(s:aI)(s5:Sl),ci φ->s.2≠[]->(∀p∈s.2,Nm p.2)->s.2.length<=100->us.length<=200->s5.isIo=false->∃(t:aI)(φ':D)(s5':Sl),Tld s t/\ci φ'/\s5'.isIo=false /\
    B [.io φ,.v (.tup (ss.map stD)),.o (.lst (us.map stD)),.v (.str (kd s.1)),.v (.tup (s.2.map bdD)),s5]=some (.nx [.io φ',.v (.tup (ss.map stD)),.o (.lst ((us++[t]).map stD)),.v (.str (kd s.1)),.v (.tup (t.2.map bdD)),s5']) :=
  ⟨_,rfl,fun us φ s s5 a b c d e f=>uR a b c d e f _ rfl⟩
 obtain⟨B,eF,hB⟩:=sp;have len:∀s∈us,s.2.length<=100:=fun s hs=>by
  obtain⟨a,b,e⟩:=List.append_of_mem (pu.mem_iff.mp hs);rw[e,Ze,Ve,Xa,Xa]at hl;lia
 have hul:us.length<=100:=by rw[pu.length_eq];lia
 obtain⟨sf,e,ts,φ',s3,s4,s5,rfl,q3,q4,q5,f',hne',hn',hl',hp',htl⟩:=cT (fg:=VF.gT 2 (gsC (gN 3) (gsC (gN 4) gsN))) (B:=B) stD us
  (fun gone st=>∃(ts:List aI)(φ':D)(s3 s4 s5:Sl),st=[.io φ',.v (.tup (ss.map stD)),.o (.lst (ts.map stD)),s3,s4,s5]/\s3.isIo=false/\s4.isIo=false/\s5.isIo=false/\ci φ'/\(∀s∈ts,s.2≠[])/\(∀s∈ts,∀p∈s.2,Nm p.2)/\(ts.flatMap (·.2)).length=(gone.flatMap (·.2)).length/\(ts.flatMap sj).Perm (gone.flatMap sj)/\ts.length=gone.length)
  (by
   rintro gone s rest st ha ⟨ts,φ',s3,s4,s5,rfl,q3,q4,q5,f',hne',hn',hl',hp',htl⟩;have hm:s∈us:=by rw[ha];simp
   have hm':=pu.mem_iff.mp hm;have hgl:gone.length<=100:=by have:=congrArg List.length ha;rw[Xa]at this;lia
   obtain⟨t,φ2,s5',T,f2,q5',eb⟩:=hB ts φ' s s5 f' (hne s hm') (hn s hm') (len s hm) (by lia) q5
   refine⟨[.io φ',.v (.tup (ss.map stD)),.o (.lst (ts.map stD)),.v (.str (kd s.1)),.v (.tup (s.2.map bdD)),s5],_,?_,eb,ts++[t],φ2,.v (.str (kd s.1)),.v (.tup (t.2.map bdD)),s5',rfl,rfl,rfl,q5',f2,fun x hx=>?_,fun x hx=>?_,?_,?_,by rw[Xa,Xa,htl];rfl⟩
   ·show(if 2=2 then gsC (gN 3) (gsC (gN 4) gsN) [.str (kd s.1),.tup (s.2.map bdD)] _ else none)=_;rw[Ae rfl];show(gN 3 (.str (kd s.1)) _).bind _=_;rw[show gN 3 (.str (kd s.1)) [.io φ',.v (.tup (ss.map stD)),.o (.lst (ts.map stD)),s3,s4,s5]=some [.io φ',.v (.tup (ss.map stD)),.o (.lst (ts.map stD)),.v (.str (kd s.1)),s4,s5] from bE rfl q3];show(gN 4 (.tup (s.2.map bdD)) _).bind _=_;rw[show gN 4 (.tup (s.2.map bdD)) [.io φ',.v (.tup (ss.map stD)),.o (.lst (ts.map stD)),.v (.str (kd s.1)),s4,s5]=some [.io φ',.v (.tup (ss.map stD)),.o (.lst (ts.map stD)),.v (.str (kd s.1)),.v (.tup (s.2.map bdD)),s5] from bE rfl q4];rfl
   ·rcases Wc.mp hx with m|m
    ·exact hne' x m
    ·obtain rfl:=Va.mp m;exact T.ne
   ·rcases Wc.mp hx with m|m
    ·exact hn' x m
    ·obtain rfl:=Va.mp m;exact T.nm
   ·rw[Ze,Ze,Wg,Wg,Xa,Xa,hl',T.ln]
   ·rw[Ze,Ze,Wg,Wg]
    exact hp'.append T.js)
  us [] [.io φ1,.v (.tup (ss.map stD)),.o (.lst []),.e,.e,.e] rfl ⟨[],φ1,.e,.e,.e,rfl,rfl,rfl,rfl,f1,fun x hx=>by simp at hx,fun x hx=>by simp at hx,rfl,List.Perm.refl _,rfl⟩
 refine⟨ts,φ',?_,hne',hn',?_,hp'.trans (pu.flatMap_right sj),f'⟩
 ·refine cC (o:=.rt (.d (.tup (ts.map stD))) [.io φ',.v (.tup (ss.map stD)),.o (.lst (ts.map stD)),s3,s4,s5]) rfl ?_ rfl;rw[eF];exact aC rfl (aC (eI (jn (bY rfl rfl rfl rfl rfl rfl e1) rfl) e) (aU (bp rfl rfl rfl)))
 ·rw[hl'];exact(pu.flatMap_right (·.2)).length_eq
end
end K34
namespace K34
open PySem L2 VF VL
def nms(ps:List Bd):List Str:=ps.map (·.2)
def Ia(ps:List Bd):nms (fV ps)=(nms ps).reverse:=by
 unfold nms fV;rw[Vg,← CZ];rfl
def pK(ps:List Bd):(fV ps).length=ps.length:=by unfold fV;rw[Ya,Qi]
def kA(a b:List Bd):nms (a++b)=nms a++nms b:=Zc ..
def atZ(e:End):Option Str:=if e.2=0 then some e.1 else none
def pL(xs:List Str):(xs.map zero++xs.map one).filterMap atZ=xs:=by
 have h0:∀l:List Str,(l.map zero).filterMap atZ=l:=fun l=>by
  induction l with
  | nil=>rfl
  | cons x r ih=>rw[Xe,Qj,ih];rfl
 have h1:∀l:List Str,(l.map one).filterMap atZ=[]:=fun l=>by
  induction l with
  | nil=>rfl
  | cons x r ih=>rw[Xe,Qj,ih];rfl
 rw[List.filterMap_append,h0,h1,Vc]
def uS{ss ts:List aI}(hs:∀s∈ss,s.2≠[])(ht:∀s∈ts,s.2≠[])(p:(ts.flatMap sj).Perm (ss.flatMap sj)):((ts.flatMap (·.2)).map (·.2)).Perm ((ss.flatMap (·.2)).map (·.2)):=by
 have h1:=((kz ht).trans (ji _)).symm.trans ((p.flatten).trans ((kz hs).trans (ji _)));have h2:=h1.filterMap atZ;rwa [pL,pL]at h2
end K34
namespace VF
open PySem L2
def Lz{fe:FE}{fg:FG}{st s1 s2 s3:En}{r:Rs}{d:D}(h1:fe st=some (r,s1))(h2:esc r s1=some (d,s2))(h3:fg d s2=some s3):DZ fe fg st=some (.nx s3):=by
 simp only[DZ,h1,h2,h3,Wa]
def gt2{i j:Nat}{a b:D}{st s1 s2:En}(h1:mB i (.v a) st=some s1)(h2:mB j (.v b) s1=some s2):VF.gT 2 (gsC (gN i) (gsC (gN j) gsN)) (.tup [a,b]) st=some s2:=by
 show(if 2=2 then gsC (gN i) (gsC (gN j) gsN) [a,b] st else none)=_;rw[Ae rfl];show(mB i (.v a) st).bind _=_;rw[h1];show(mB j (.v b) s1).bind _=_;rw[h2];rfl
end VF
namespace K34
open PySem L2 VF VL VF22
noncomputable section
def stL(s:aI):D:=.tup [.str (kd s.1),.lst (s.2.map bdD)]
theorem xY{α β:Type}(f:α->β):∀(l:List α)(i:Nat),(l.map f).eraseIdx i=(l.eraseIdx i).map f
 | [],_=>rfl
 | _::_,0=>rfl
 | x::l,i+1=>by
  show f x::(l.map f).eraseIdx i=f x::(l.eraseIdx i).map f;rw[xY f l i]
def M7{ss:List aI}{i:Int}(h0:0<=i)(h1:i<ss.length)(hl:ss.length<=1000):∃s ss1,ij (.lst (ss.map stL)) [.int i]=some (stL s,.lst (ss1.map stL))/\(s::ss1).Perm ss:=by
 have hk:i.toNat<(ss.map stL).length:=by rw[Ya];lia
 have hk':i.toNat<ss.length:=by lia
 refine⟨ss[i.toNat],ss.eraseIdx i.toNat,?_,i6 hk'⟩;rw[pI h0 (by rw[Ya];exact h1) (by rw[Ya];lia) hk,C0,xY]
structure WF(N:List Str)(ss:List aI):Prop where
 ne:∀s∈ss,s.2≠[]
 nm:((ss.flatMap (·.2)).map (·.2)).Perm N
def WF.perm{N:List Str}{ss ts:List aI}(w:WF N ss)(p:ts.Perm ss):WF N ts:=⟨fun s hs=>w.ne s (p.mem_iff.mp hs),((p.flatMap_right _).map _).trans w.nm⟩
def WF.beads{N:List Str}{ss:List aI}(w:WF N ss)(hN:∀x∈N,Nm x):∀s∈ss,∀p∈s.2,Nm p.2:=fun s hs p hp=>hN _ (w.nm.mem_iff.mp (Xc.mpr ⟨p,List.mem_flatMap.mpr ⟨s,hs,hp⟩,rfl⟩))
def WF.len{N:List Str}{ss:List aI}(w:WF N ss):(ss.flatMap (·.2)).length=N.length:=by
 have:=w.nm.length_eq;rwa [Ya]at this
def WF.cnt{N:List Str}{ss:List aI}(w:WF N ss):ss.length<=N.length:=w.len ▸ mj ss w.ne
def WF.one{N:List Str}{s:aI}{ss:List aI}(w:WF N (s::ss)):s.2.length<=N.length:=by
 have:=w.len;rw[Ve,Xa]at this;lia
def WF.put{N:List Str}{s:aI}{ss ss2:List aI}{k:Bool}{qs:List Bd}(w:WF N (s::ss))(h1:∀x∈ss2,x.2≠[])(h2:qs≠[])(h3:(nms qs++ss2.flatMap fun x=>nms x.2).Perm (nms s.2++ss.flatMap fun x=>nms x.2)):WF N (ss2++[(k,qs)]):=by
 refine⟨fun x hx=>?_,?_⟩
 ·rcases Wc.mp hx with m|m
  ·exact h1 x m
  ·obtain rfl:=Va.mp m;exact h2
 ·refine List.Perm.trans ?_ w.nm;rw[List.map_flatMap,List.map_flatMap,Ze,Wg,Ve];exact B2.trans h3
abbrev nS(φ S:D)(ss:List aI)(s4 s5 s6 s7 s8 s9 s10:Sl):En:=[.io φ,.v S,.v (.bl true),.o (.lst (ss.map stL)),s4,s5,s6,s7,s8,s9,s10]
def Ge{φ S:D}{ss:List aI}{k:Bool}{qs:List Bd}{s4 s6 s7 s8 s9 s10:Sl}(h6:s6=.v (.lst (qs.map bdD))∨s6=.o (.lst (qs.map bdD)))(hl:ss.length<=1000) :
  (cx (fM isL bw 3 (ac (bQ (ac (ag 5) (ac (ag 6) ai))) ai))) (nS φ S ss s4 (.v (.str (kd k))) s6 s7 s8 s9 s10)=some (.nx (nS φ S (ss++[(k,qs)]) s4 (.v (.str (kd k))) (.v (.lst (qs.map bdD))) s7 s8 s9 s10)):=by
 have ap:(ss.map stL).length<1000000:=by rw[Ya];lia
 rcases h6 with rfl|rfl
 ·refine ce (f6 rfl rfl rfl (aj (bq rfl rfl (by show 2<=1000000;decide)) rfl) rfl rfl rfl (dR ap) ?_)
  show [_,_,_,Sl.o (.lst (ss.map stL++[stL (k,qs)])),_,_,_,_,_,_,_]=_;unfold nS;rw[Zc];rfl
 ·refine ce (f6 rfl rfl rfl (aj (bq rfl rfl (by show 2<=1000000;decide)) rfl) rfl rfl rfl (dR ap) ?_)
  show [_,_,_,Sl.o (.lst (ss.map stL++[stL (k,qs)])),_,_,_,_,_,_,_]=_;unfold nS;rw[Zc];rfl
def nBr:FS:=(sIf (aH (fOp bEq (ag 7) (fC (.int 0)))) (bi (fOp cE (fOp cE (fSl bSl (ag 6) oNo (cR (ag 8))) (cB 1 [] (fIA (t4 (fSl bSl (ag 6) (cR (ag 8)) (cR (ag 9))))) (gN 0) cg (bF bH (ac (ag 0) ai)))) (fSl bSl (ag 6) (cR (ag 9)) oNo)) 6) (sIf (eT (aH (fOp bEq (ag 7) (fC (.int 1)))) (aH (fOp bGt (ag 8) (fC (.int 0))))) (aL (cx (fM isL bw 3 (ac (bQ (ac (fC (.str "open")) (ac (fSl bSl (ag 6) oNo (cR (ag 8))) ai))) ai)))
  (aL (bi (fSl bSl (ag 6) (cR (ag 8)) oNo) 6)
  (bi (fC (.str "open")) 5))) (sIf (eT (aH (fOp bEq (ag 7) (fC (.int 2)))) (aH (fOp bNe (ag 3) (dw ai)))) (aL (bi (fM isL ij 3 (ac (fIO aG 0 (ac (fCB cA (ac (ag 3) ai)) ai)) ai)) 10)
  (bi (fOp cE (ag 6) (fOp bIx (ag 10) (fC (.int 1)))) 6)) (sIf (eT (aH (fOp bEq (ag 7) (fC (.int 3)))) (aH (ag 2))) (bi (fOp bIx (dw (ac (fC (.str "open")) (ac (fC (.str "ring")) ai))) (fIO aG 0 (ac (fC (.int 2)) ai))) 5) bZ))))
def slL(ds:List D)(lo hi:Option Int):bSl (.lst ds) lo hi=some (.lst (cutD ds lo hi),true):=rfl
def Ib{N:List Str}{φ S:D}{s:aI}{ss:List aI}{s4 s10:Sl}{w:Int}{l h:Nat}(hφ:ci φ)(wf:WF N (s::ss))(hN:∀x∈N,Nm x)(hNl:N.length<=100)(hw0:0<=w)(hw:w<4)(hl:l<s.2.length)(hlh:l<h)(hh:h<=s.2.length)(q10:s10.isIo=false) :
  ∃(φ':D)(ss2:List aI)(k:Bool)(qs:List Bd)(s6' s10':Sl),nBr (nS φ S ss s4 (.v (.str (kd s.1))) (.v (.lst (s.2.map bdD))) (.v (.int w)) (.v (.int (l:Int))) (.v (.int (h:Int))) s10)=some (.nx (nS φ' S ss2 s4 (.v (.str (kd k))) s6' (.v (.int w)) (.v (.int (l:Int))) (.v (.int (h:Int))) s10'))/\ci φ'/\s10'.isIo=false/\(s6'=.v (.lst (qs.map bdD))∨s6'=.o (.lst (qs.map bdD)))/\WF N (ss2++[(k,qs)])/\ss2.length<=1000:=by
 have hc:=wf.cnt;have ho:=wf.one;rw[Xd]at hc;obtain⟨rg,ps⟩:=s;dsimp only at hl hh ho ⊢;have hlm:l<=(ps.map bdD).length:=by rw[Ya];lia
 have hhm:h<=(ps.map bdD).length:=by rw[Ya];lia
 have hne:∀x∈ss,x.2≠[]:=fun x hx=>wf.ne x (Vb _ hx);have hps:ps≠[]:=fun z=>by rw[z]at hl;exact absurd hl (Nat.not_lt_zero _)
 have cutT:bSl (.lst (ps.map bdD)) none (some (l:Int))=some (.lst ((ps.take l).map bdD),true):=by rw[slL,EK hlm,Cj]
 have cutF:bSl (.lst (ps.map bdD)) (some (l:Int)) none=some (.lst ((ps.drop l).map bdD),true):=by rw[slL,lS hlm,BH]
 have ws:w=0∨w=1∨w=2∨w=3:=by lia
 rcases ws with rfl|rfl|rfl|rfl
 ·-- a stretch turned
  have cutM:bSl (.lst (ps.map bdD)) (some (l:Int)) (some (h:Int))=some (.lst (((ps.drop l).take (h-l)).map bdD),true):=by rw[slL,Hq hlm hhm,Cj,BH]
  have cutE:bSl (.lst (ps.map bdD)) (some (h:Int)) none=some (.lst ((ps.drop h).map bdD),true):=by rw[slL,lS hhm,BH]
  have hrev:Hk (.lst (((ps.drop l).take (h-l)).map bdD))=some (.lst (((ps.drop l).take (h-l)).reverse.map bdD),true):=by rw[CZ];rfl
  have nmp:∀p∈ps,Nm p.2:=wf.beads hN _ Wb;have cm:cG (gN 0) cg (bF bH (ac (ag 0) ai)) 1 (((ps.drop l).take (h-l)).reverse.map bdD) [.e]=some ((fV ((ps.drop l).take (h-l))).map bdD,[.e]):=by
   have:=b8 (fg:=gN 0) (fc:=cg) (fe:=bF bH (ac (ag 0) ai)) (k:=1) bdD (fun p=>bdD (flp p)) [.e] ((ps.drop l).take (h-l)).reverse fun p hpp=>⟨[.v (bdD p)],[.v (bdD p)],.d (bdD (flp p)),[.v (bdD p)],[.v (bdD p)],rfl,rfl,bD rfl rfl (xR (t:=p.1) (n:=p.2) (nmp p (Bl (B9 (List.mem_reverse.mp hpp))))) rfl,rfl,rfl⟩;rw[this];unfold fV;rw[Vg];rfl
  have l1:((ps.drop l).take (h-l)).reverse.length<=100:=by rw[Qi,Wf,Vf];lia
  have a1:cE (.lst ((ps.take l).map bdD)) (.lst ((fV ((ps.drop l).take (h-l))).map bdD))=some (.lst ((ps.take l++fV ((ps.drop l).take (h-l))).map bdD),true):=by
   rw[om,Zc];rw[Ya,Ya,pK,Wf,Wf,Vf];lia
  have a2:cE (.lst ((ps.take l++fV ((ps.drop l).take (h-l))).map bdD)) (.lst ((ps.drop h).map bdD))=some (.lst ((ps.take l++fV ((ps.drop l).take (h-l))++ps.drop h).map bdD),true):=by
   rw[om,← Zc];rw[Ya,Ya,Xa,pK,Wf,Wf,Vf,Vf];lia
  refine⟨φ,ss,rg,ps.take l++fV ((ps.drop l).take (h-l))++ps.drop h,.o _,s10,?_,hφ,q10,.inr rfl,wf.put hne ?_ ?_,by lia⟩
  ·refine fS (s:=nS φ S ss s4 (.v (.str (kd rg))) (.v (.lst (ps.map bdD))) (.v (.int 0)) (.v (.int (l:Int))) (.v (.int (h:Int))) s10) rfl ?_;refine eX (aE (aE (gY rfl rfl rfl rfl cutT) (bO (s2:=[.e]) (jn (EA (gY rfl rfl rfl rfl cutM) rfl hrev) rfl) (ml (n:=100) ?_ (by decide) rfl) cm) rfl rfl a1) (gY rfl rfl rfl rfl cutE) rfl rfl a2) rfl
   rw[Ya];exact l1
  ·intro z;have:=congrArg List.length z;rw[Xa,Xa,pK,Wf,Wf,Vf,Vf,Yg]at this;lia
  ·refine Dz _ ?_;rw[kA,kA,Ia];refine((((List.reverse_perm _).append_left _).append_right _).trans ?_);rw[← kA,← kA];have:ps.take l++(ps.drop l).take (h-l)++ps.drop h=ps:=by
    rw[Yc];have e:ps.drop h=(ps.drop l).drop (h-l):=by rw[Ba];congr 1;lia
    rw[e,Qg,Qg]
   rw[this]
 ·-- a strand cut
  by_cases c:l=0
  ·subst c;exact⟨φ,ss,rg,ps,.v _,s10,cJ rfl (cJ (fT rfl rfl) (cJ (jm rfl) (cJ (jm rfl) rfl))),hφ,q10,.inl rfl,wf.put hne hps (List.Perm.refl _),by lia⟩
  ·have gt:bGt (.int (l:Int)) (.int 0)=some (.bl true,false):=by
    show some (D.bl (decide ((0:Int)<l)),false)=_;rw[Af (by lia)]
   refine⟨φ,ss++[(false,ps.take l)],false,ps.drop l,.o _,s10,?_,hφ,q10,.inr rfl,wf.put (fun x hx=>?_) (fun z=>?_) ?_,by rw[Xa];show ss.length+1<=_;lia⟩
   ·refine cJ (s:=nS φ S ss s4 (.v (.str (kd rg))) (.v (.lst (ps.map bdD))) (.v (.int 1)) (.v (.int (l:Int))) (.v (.int (h:Int))) s10) rfl ?_;refine fS (s:=nS φ S ss s4 (.v (.str (kd rg))) (.v (.lst (ps.map bdD))) (.v (.int 1)) (.v (.int (l:Int))) (.v (.int (h:Int))) s10) (fT rfl (aQ (aE rfl rfl rfl rfl gt) rfl)) ?_;refine aC (s:=nS φ S (ss++[(false,ps.take l)]) s4 (.v (.str (kd rg))) (.v (.lst (ps.map bdD))) (.v (.int 1)) (.v (.int (l:Int))) (.v (.int (h:Int))) s10) ?_ ?_
    ·refine ce (f6 rfl rfl rfl (aj (bq (aj rfl (aj (gY rfl rfl rfl rfl cutT) rfl)) rfl (by show 2<=1000000;decide)) rfl) rfl rfl rfl (dR (by rw[Ya];lia)) ?_)
     show [_,_,_,Sl.o (.lst (ss.map stL++[stL (false,ps.take l)])),_,_,_,_,_,_,_]=_;unfold nS;rw[Zc];rfl
    ·exact aC (eX (gY rfl rfl rfl rfl cutF) rfl) (db rfl rfl)
   ·rcases Wc.mp hx with m|m
    ·exact hne x m
    ·obtain rfl:=Va.mp m;intro z;have z:ps.take l=[]:=z;have:=congrArg List.length z;rw[Wf,Yg]at this;lia
   ·have:=congrArg List.length z;rw[Vf,Yg]at this;lia
   ·rw[Ze,Wg];show(nms (ps.drop l)++((ss.flatMap fun x=>nms x.2)++nms (ps.take l))).Perm (nms ps++_);have e:nms ps=nms (ps.take l)++nms (ps.drop l):=by rw[← kA,Qg]
    rw[e];refine List.Perm.trans ?_ (Dz _ B2);rw[Yc];exact B2.append_left _
 ·-- two joined
  cases ss with
  | nil =>
   exact⟨φ,[],rg,ps,.v _,s10,cJ rfl (cJ (jm rfl) (cJ (fT rfl rfl) (cJ (jm rfl) rfl))),hφ,q10,.inl rfl,wf.put hne hps (List.Perm.refl _),by decide⟩
  | cons o os =>
   have hlc:((o::os).length:Int)<=1000:=by lia
   obtain⟨d,φ2,e,d0,d1,f2⟩:=b9 (n:=((o::os).length:Int)) hφ (by simp) hlc
   obtain⟨t,ts,ep,pp⟩:=M7 (ss:=o::os) d0 d1 (by lia)
   have len3:cA [.lst ((o::os).map stL)]=some (.int ((o::os).length:Int),false):=by
    show some (D.int (((o::os).map stL).length:Nat),false)=_;rw[Ya]
   have wf2:WF N ((rg,ps)::t::ts):=wf.perm (pp.cons _);have ht:=wf2.len;rw[Ve,Ve,Xa,Xa]at ht;dsimp only at ht;have hts:=wf2.cnt;rw[Xd,Xd]at hts;have a1:cE (.lst (ps.map bdD)) (.lst (t.2.map bdD))=some (.lst ((ps++t.2).map bdD),true):=by
    rw[om,Zc];rw[Ya,Ya];lia
   refine⟨φ2,ts,rg,ps++t.2,.o _,.v (stL t),?_,f2,rfl,.inr rfl,WF.put (s:=(rg,ps)) (ss:=t::ts) wf2 (fun x hx=>wf2.ne x (by simp[hx])) (fun z=>hps (List.append_eq_nil_iff.mp z).1) ?_,by lia⟩
   ·refine cJ (s:=nS φ S (o::os) s4 (.v (.str (kd rg))) (.v (.lst (ps.map bdD))) (.v (.int 2)) (.v (.int (l:Int))) (.v (.int (h:Int))) s10) rfl ?_;refine cJ (s:=nS φ S (o::os) s4 (.v (.str (kd rg))) (.v (.lst (ps.map bdD))) (.v (.int 2)) (.v (.int (l:Int))) (.v (.int (h:Int))) s10) (jm rfl) ?_;refine fS (s:=nS φ S (o::os) s4 (.v (.str (kd rg))) (.v (.lst (ps.map bdD))) (.v (.int 2)) (.v (.int (l:Int))) (.v (.int (h:Int))) s10) (fT rfl rfl) ?_;refine aC (s:=nS φ2 S ts s4 (.v (.str (kd rg))) (.v (.lst (ps.map bdD))) (.v (.int 2)) (.v (.int (l:Int))) (.v (.int (h:Int))) (.v (stL t))) (db (f6 rfl rfl rfl (aj (bY rfl rfl (aj (bp rfl rfl len3) rfl) rfl rfl rfl e) rfl) rfl rfl rfl ep) (bE rfl q10)) ?_;exact eX (aE rfl (aE rfl rfl rfl rfl (show bIx (stL t) (.int 1)=some (.lst (t.2.map bdD),false) from rfl)) rfl rfl a1) rfl
   ·rw[Ve,kA,Yc]
 ·-- a ring opened,an open one closed
  obtain⟨d,φ2,e,d0,d1,f2⟩:=b9 (n:=2) hφ (by decide) (by decide)
  have ds:d=0∨d=1:=by lia
  have go:∀k:Bool,bIx (.lst [.str "open",.str "ring"]) (.int d)=some (.str (kd k),false)->nBr (nS φ S ss s4 (.v (.str (kd rg))) (.v (.lst (ps.map bdD))) (.v (.int 3)) (.v (.int (l:Int))) (.v (.int (h:Int))) s10)=some (.nx (nS φ2 S ss s4 (.v (.str (kd k))) (.v (.lst (ps.map bdD))) (.v (.int 3)) (.v (.int (l:Int))) (.v (.int (h:Int))) s10)):=fun k ek=>by
   refine cJ (s:=nS φ S ss s4 (.v (.str (kd rg))) (.v (.lst (ps.map bdD))) (.v (.int 3)) (.v (.int (l:Int))) (.v (.int (h:Int))) s10) rfl ?_;refine cJ (s:=nS φ S ss s4 (.v (.str (kd rg))) (.v (.lst (ps.map bdD))) (.v (.int 3)) (.v (.int (l:Int))) (.v (.int (h:Int))) s10) (jm rfl) ?_;refine cJ (s:=nS φ S ss s4 (.v (.str (kd rg))) (.v (.lst (ps.map bdD))) (.v (.int 3)) (.v (.int (l:Int))) (.v (.int (h:Int))) s10) (jm rfl) ?_;refine fS (s:=nS φ S ss s4 (.v (.str (kd rg))) (.v (.lst (ps.map bdD))) (.v (.int 3)) (.v (.int (l:Int))) (.v (.int (h:Int))) s10) (fT rfl rfl) ?_;exact db (aE (jh rfl rfl (by show 2<=1000000;decide)) (bY rfl rfl rfl rfl rfl rfl e) rfl rfl ek) rfl
  rcases ds with rfl|rfl
  ·exact⟨φ2,ss,false,ps,.v _,s10,go false rfl,f2,q10,.inl rfl,wf.put hne hps (List.Perm.refl _),by lia⟩
  ·exact⟨φ2,ss,true,ps,.v _,s10,go true rfl,f2,q10,.inl rfl,wf.put hne hps (List.Perm.refl _),by lia⟩
def nBd:FS:=(sIf (aH (fOp bNe (ag 3) (dw ai))) (aL (DZ (fM isL ij 3 (ac (fIO aG 0 (ac (fCB cA (ac (ag 3) ai)) ai)) ai)) (VF.gT 2 (gsC (gN 5) (gsC (gN 6) gsN))))
  (aL (bi (fIO aG 0 (ac (fC (.int 4)) ai)) 7)
  (aL (bi (fIO aG 0 (ac (fCB cA (ac (ag 6) ai)) ai)) 8)
  (aL (bi (fOp cE (fOp cE (ag 8) (fC (.int 1))) (fIO aG 0 (ac (fOp G9 (fCB cA (ac (ag 6) ai)) (ag 8)) ai))) 9)
  (aL nBr (cx (fM isL bw 3 (ac (bQ (ac (ag 5) (ac (ag 6) ai))) ai)))))))) bZ)
def sV{α:Type}(f:α->D)(xs:List α):cA [.lst (xs.map f)]=some (.int (xs.length:Int),false):=by
 show some (D.int ((xs.map f).length:Nat),false)=_;rw[Ya]
def Gf{N:List Str}{φ S:D}{ss:List aI}{s4 s5 s6 s7 s8 s9 s10:Sl}(hφ:ci φ)(wf:WF N ss)(hN:∀x∈N,Nm x)(hNl:N.length<=100)(q5:s5.isIo=false)(q6:s6.isIo=false)(q7:s7.isIo=false)(q8:s8.isIo=false)(q9:s9.isIo=false)(q10:s10.isIo=false) :
  ∃(φ':D)(ss':List aI)(s5' s6' s7' s8' s9' s10':Sl),nBd (nS φ S ss s4 s5 s6 s7 s8 s9 s10)=some (.nx (nS φ' S ss' s4 s5' s6' s7' s8' s9' s10'))/\ci φ'/\WF N ss'/\s5'.isIo=false/\s6'.isIo=false/\s7'.isIo=false/\s8'.isIo=false/\s9'.isIo=false/\s10'.isIo=false:=by
 cases ss with
 | nil=>exact⟨φ,[],s5,s6,s7,s8,s9,s10,cJ rfl rfl,hφ,wf,q5,q6,q7,q8,q9,q10⟩
 | cons o os =>
  have hc:=wf.cnt;have hlc:((o::os).length:Int)<=1000:=by lia
  obtain⟨d,φ1,e1,d0,d1,f1⟩:=b9 (n:=((o::os).length:Int)) hφ (by simp) hlc
  obtain⟨t,ts,ep,pp⟩:=M7 (ss:=o::os) d0 d1 (by lia)
  have wf1:WF N (t::ts):=wf.perm pp;have ht:=wf1.one;have htn:1<=t.2.length:=Yh.mpr (wf1.ne t Wb);obtain⟨w,φ2,e2,w0,w1,f2⟩:=b9 (n:=4) f1 (by decide) (by decide)
  obtain⟨l,φ3,e3,l0,l1,f3⟩:=b9 (n:=(t.2.length:Int)) f2 (by lia) (by lia)
  obtain⟨l,rfl⟩:∃m:Nat,l=m:=⟨l.toNat,by lia⟩
  obtain⟨j,φ4,e4,j0,j1,f4⟩:=b9 (n:=(t.2.length:Int)-l) f3 (by lia) (by lia)
  obtain⟨j,rfl⟩:∃m:Nat,j=m:=⟨j.toNat,by lia⟩
  have eh:(l:Int)+1+j=((l+1+j:Nat):Int):=by lia
  have ad:cE (.int ((l:Int)+1)) (.int (j:Int))=some (.int ((l+1+j:Nat):Int),false):=by
   show some (D.int ((l:Int)+1+j),false)=_;rw[eh]
  obtain⟨φ5,ss2,k,qs,s6',s10',eb,f5,q10',h6,wf5,h2⟩:=Ib (S:=S) (s4:=s4) (w:=w) (l:=l) (h:=l+1+j) f4 wf1 hN hNl w0 w1 (by lia) (by lia) (by lia) q10
  refine⟨φ5,ss2++[(k,qs)],.v (.str (kd k)),.v (.lst (qs.map bdD)),.v (.int w),.v (.int (l:Int)),.v (.int ((l+1+j:Nat):Int)),s10',?_,f5,wf5,rfl,rfl,rfl,rfl,rfl,q10'⟩;refine fS (s:=nS φ S (o::os) s4 s5 s6 s7 s8 s9 s10) rfl ?_;refine aC (s:=nS φ1 S ts s4 (.v (.str (kd t.1))) (.v (.lst (t.2.map bdD))) s7 s8 s9 s10) (Lz (f6 rfl rfl rfl (aj (bY rfl rfl (aj (bp rfl rfl (sV stL (o::os))) rfl) rfl rfl rfl e1) rfl) rfl rfl rfl ep) rfl (gt2 (bE rfl q5) (bE rfl q6))) ?_;refine aC (s:=nS φ2 S ts s4 (.v (.str (kd t.1))) (.v (.lst (t.2.map bdD))) (.v (.int w)) s8 s9 s10) (db (bY rfl rfl rfl rfl rfl rfl e2) (bE rfl q7)) ?_;refine aC (s:=nS φ3 S ts s4 (.v (.str (kd t.1))) (.v (.lst (t.2.map bdD))) (.v (.int w)) (.v (.int (l:Int))) s9 s10) (db (bY rfl rfl (aj (bp rfl rfl (sV bdD t.2)) rfl) rfl rfl rfl e3) (bE rfl q8)) ?_;refine aC (s:=nS φ4 S ts s4 (.v (.str (kd t.1))) (.v (.lst (t.2.map bdD))) (.v (.int w)) (.v (.int (l:Int))) (.v (.int ((l+1+j:Nat):Int))) s10) (db (aE (aE rfl rfl rfl rfl rfl) (bY rfl rfl (aj (aE (bp rfl rfl (sV bdD t.2)) rfl rfl rfl rfl) rfl) rfl rfl rfl e4) rfl rfl ad) (bE rfl q9)) ?_;exact aC eb (Ge h6 h2)
def Ic{N:List Str}{φ:D}{ss:List aI}(hφ:ci φ)(wf:WF N ss)(hN:∀x∈N,Nm x)(hNl:N.length<=100):∃(ts:List aI)(φ':D),lh φ [.tup (ss.map stD),.bl true]=some ((.tup (ts.map stD),false),φ')/\WF N ts/\ci φ':=by
 have hc:=wf.cnt;obtain⟨d,φ1,e1,d0,d1,f1⟩:=b9 (n:=4) hφ (by decide) (by decide)
 have cm1:cG (VF.gT 2 (gsC (gN 0) (gsC (gN 1) gsN))) cg (bQ (ac (ag 0) (ac (fCB ik (ac (ag 1) ai)) ai))) 2 (ss.map stD) [.e,.e]=some (ss.map stL,[.e,.e]) :=
  b8 stD stL [.e,.e] ss fun s hs=>⟨[.v (.str (kd s.1)),.v (.tup (s.2.map bdD))],[.v (.str (kd s.1)),.v (.tup (s.2.map bdD))],.d (stL s),[.v (.str (kd s.1)),.v (.tup (s.2.map bdD))],[.v (.str (kd s.1)),.v (.tup (s.2.map bdD))],gt2 rfl rfl,rfl,bq rfl rfl (by show 2<=1000000;decide),rfl,rfl⟩
 obtain⟨sf,ef,φ',ts,s4,s5,s6,s7,s8,s9,s10,rfl,f',wf',q4,q5,q6,q7,q8,q9,q10⟩:=t5 (fg:=gN 4) (B:=nBd) (rng 0 d.toNat)
  (fun _ st=>∃(φ':D)(ts:List aI)(s4 s5 s6 s7 s8 s9 s10:Sl),st=nS φ' (.tup (ss.map stD)) ts s4 s5 s6 s7 s8 s9 s10/\ci φ'/\WF N ts/\s4.isIo=false/\s5.isIo=false/\s6.isIo=false/\s7.isIo=false/\s8.isIo=false/\s9.isIo=false/\s10.isIo=false)
  (by
   rintro _ x _ _ ⟨φ',ts,s4,s5,s6,s7,s8,s9,s10,rfl,f',wf',q4,q5,q6,q7,q8,q9,q10⟩;obtain⟨φ2,ss',s5',s6',s7',s8',s9',s10',eb,f2,w2,r5,r6,r7,r8,r9,r10⟩:=Gf (S:=.tup (ss.map stD)) (s4:=.v x) f' wf' hN hNl q5 q6 q7 q8 q9 q10
   exact⟨_,_,bE rfl q4,eb,φ2,ss',.v x,s5',s6',s7',s8',s9',s10',rfl,f2,w2,rfl,r5,r6,r7,r8,r9,r10⟩)
  (rng 0 d.toNat) [] (nS φ1 (.tup (ss.map stD)) ss .e .e .e .e .e .e .e) (fun _ h=>h) ⟨φ1,ss,.e,.e,.e,.e,.e,.e,.e,rfl,f1,wf,rfl,rfl,rfl,rfl,rfl,rfl,rfl⟩
 have hc':=wf'.cnt;have cm2:cG (VF.gT 2 (gsC (gN 0) (gsC (gN 1) gsN))) cg (bQ (ac (ag 0) (ac (fCB bN (ac (ag 1) ai)) ai))) 2 (ts.map stL) [.e,.e]=some (ts.map stD,[.e,.e]) :=
  b8 stL stD [.e,.e] ts fun s hs=>⟨[.v (.str (kd s.1)),.v (.lst (s.2.map bdD))],[.v (.str (kd s.1)),.v (.lst (s.2.map bdD))],.d (stD s),[.v (.str (kd s.1)),.v (.lst (s.2.map bdD))],[.v (.str (kd s.1)),.v (.lst (s.2.map bdD))],gt2 rfl rfl,rfl,bq rfl rfl (by show 2<=1000000;decide),rfl,rfl⟩
 refine⟨ts,φ',?_,wf',f'⟩;have sp:lg=aL (bi (cB 2 [] (fIA (ag 1)) (VF.gT 2 (gsC (gN 0) (gsC (gN 1) gsN))) cg (bQ (ac (ag 0) (ac (fCB ik (ac (ag 1) ai)) ai)))) 3)
  (aL (gz (qg (ac (fIO aG 0 (ac (fC (.int 4)) ai)) ai)) (gN 4) nBd)
  (bx (fCB bN (ac (cB 2 [] (fIA (ag 3)) (VF.gT 2 (gsC (gN 0) (gsC (gN 1) gsN))) cg (bQ (ac (ag 0) (ac (fCB bN (ac (ag 1) ai)) ai)))) ai)))):=rfl
 refine cC (o:=.rt (.d (.tup (ts.map stD))) [.io φ',.v (.tup (ss.map stD)),.v (.bl true),.v (.lst (ts.map stL)),s4,s5,s6,s7,s8,s9,s10]) rfl ?_ rfl;rw[sp];refine aC (s:=nS φ (.tup (ss.map stD)) ss .e .e .e .e .e .e .e) (eX (bO (s1:=[.io φ,.v (.tup (ss.map stD)),.v (.bl true),.e,.e,.e,.e,.e,.e,.e,.e]) (ds:=ss.map stD) (s2:=[.e,.e]) (eY rfl rfl) (ml (n:=100) (by rw[Ya];lia) (by decide) rfl) cm1) rfl) ?_
 refine aC (eI (iW (j:=d) (aj (bY rfl rfl rfl rfl rfl rfl e1) rfl) rfl ⟨by lia,by lia⟩) ef) ?_
 exact aU (bp (aj (bO (ds:=ts.map stL) (s2:=[.e,.e]) (jn rfl rfl) (ml (n:=100) (by rw[Ya];lia) (by decide) rfl) cm2) rfl) rfl rfl)
end
end K34
namespace VF
open PySem L2
theorem re{α:Type}(f:α->Bool):∀xs:List α,lM (xs.map fun x=>D.bl (f x))=some (xs.map f)
 | []=>rfl
 | x::r=>by
  show(lM (r.map fun x=>D.bl (f x))).bind _=_;rw[re f r];rfl
def LA{α:Type}(f:α->Bool)(xs:List α):qh [.lst (xs.map fun x=>D.bl (f x))]=some (.bl (xs.all f),false):=by
 show(lM _).bind _=_;rw[re];show some (D.bl ((xs.map f).all id),false)=_;rw[Dy];rfl
def dL{ds:List D}{i:Nat}{d:D}(h:ds[i]?=some d):bIx (.tup ds) (.int i)=some (d,false):=VF.ix_tup (iN h)
def LB{xs ys:List D}{c:Bool}(ne:xs≠[])(pa:Pl 40 (.tup xs))(pb:Pl 40 (.tup ys))(h:c=true↔D.tup xs=D.tup ys):lQ (.tup xs) (.tup ys)=some (.bl (!c),false):=by
 have e1:bNe (.tup xs) (.tup ys)=none:=by
  cases xs with
  | nil=>exact absurd rfl ne
  | cons _ _=>rfl
 unfold lQ orD;rw[e1];unfold t7;dsimp only;have dc:∀i:Decidable (D.tup xs=D.tup ys),@decide _ i=c:=fun i=>by rw[Zf,decide_eq_true_eq];exact h.symm
 rw[Ae ⟨pa,pb⟩,dc];rfl
def Gg{n:Nat}{ds:List D}(h:∀d∈ds,Pl n d)(hn:n<=39):lQ (.lst ds) (.lst ds)=some (.bl false,false):=by
 have up:∀(k:Nat){m:Nat}{d:D},Pl m d->Pl (m+k) d:=fun k=>by
  induction k with
  | zero=>intro m d h;exact h
  | succ k ih=>intro m d h;exact(ih h).up
 have e1:yJ true (.lst ds) (.lst ds)=none:=rfl;have p:Pl 40 (.lst ds):=.lst fun d hd=>by
  have:=up (39-n) (h d hd);rwa [show n+(39-n)=39 by lia]at this
 cases ds with
 | nil =>
  unfold lQ bNe orD;rw[e1];rfl
 | cons x r =>
  have e2:KG (.lst (x::r)) (.lst (x::r))=none:=rfl;have e3:t7 true (.lst (x::r)) (.lst (x::r))=some (.bl false,false):=by
   unfold t7;rw[Ae ⟨p,p⟩];simp
  unfold lQ bNe orD;rw[e1,e2];exact e3
def Id{xs L:List Int}(pm:L.Perm xs)(pw:L.Pairwise (·<=·)){d:D}(hd:d.seq=some (xs.map D.int)):cZ [d]=some (.lst (L.map D.int),true):=by
 have ca:CA 40 (xs.map D.int):=fun a ha b hb=>by
  obtain⟨p,_,rfl⟩:=Xc.mp ha;obtain⟨q,_,rfl⟩:=Xc.mp hb;trivial
 have es:L.map D.int=dX 40 (xs.map D.int):=gF ca (pm.map _) (by
  unfold Srt;rw[CM]
  exact List.Pairwise.imp (fun {a b} (hab:a<=b)=>Ag (by lia)) pw)
 unfold cZ;simp only[hd]
 rw[Ae ⟨fun x hx=>by obtain⟨p,_,rfl⟩:=Xc.mp hx;exact .int _ _,ca,_,.sc (T:="int") (by decide) fun d hd=>by
  obtain⟨p,_,rfl⟩:=Xc.mp hd
  exact⟨by simp,rfl⟩⟩,← es]
def uT(i:Int):lQ (.int i) (.int i)=some (.bl false,false):=by
 have e1:yJ true (.int i) (.int i)=some (.bl false,false):=by
  show some (D.bl (!decide (V.int i=V.int i)),false)=_;rw[Af rfl];rfl
 unfold lQ bNe orD;rw[e1]
def plB:Nat->D->Bool
 | n+1,.tup ds=>ds.all (plB n)
 | _+1,.int _=>true
 | _,_=>false
theorem Gh:∀{n:Nat}{d:D},plB n d=true->Pl n d
 | 0,d,h=>by cases d<;>cases h
 | n+1,d,h=>by
  cases d with
  | int i=>exact .int n i
  | tup ds=>exact .tup fun e he=>Gh (Xk.mp h e he)
  | _=>cases h
def zu{n:Nat}{ds:List D}(h:CA n ds):Srt n (dX n ds):=by
 obtain⟨es,p,q⟩:=wl ds h;rw[← gF h p q];exact q
end VF
namespace K34
open PySem L2 VF VL VF22
noncomputable section
def inL(c:Nat):Bool:=!(Builtin.Str.occurrences ("abcdefghijklmnopqrstuvwxyz":Str) ⟨#[c]⟩ 0 ("abcdefghijklmnopqrstuvwxyz":Str).length 1).isEmpty
def Ie:∀c:Nat,c<123->97<=c->inL c=true:=by decide +kernel
def okT(x:Str):Bool:=(decide (1<=x.length)&&decide (x.length<=6))&&x.cps.toList.all inL
def LC{x:Str}(h:Nm x):okT x=true:=by
 obtain⟨h1,h2,h3⟩:=h;unfold okT;rw[Af h1,Af h2];simp only[Bool.and_self,Bool.true_and];rw[Xk];intro c hc;have:=h3 c hc;exact Ie c (by lia) this.1
theorem len_str{x:Str}(h:x.length<=1000000):cA [.str x]=some (.int (x.length:Int),false):=by
 first
  | rfl
  | (unfold cA orC;simp[Ef,D.seq,Eg,h])
def Gi{x:Str}(h:x.length<=1000000):kr [.str x]=some (.bl (okT x),false):=by
 have hc:cB 1 [] (fIA (ag 0)) (gN 0) cg (fOp bIn (ag 0) (fC (.str "abcdefghijklmnopqrstuvwxyz"))) [.v (.str x)]=some (.f (.lst (x.cps.toList.map fun c=>D.bl (inL c))),[.v (.str x)]):=by
  refine bO (s1:=[.v (.str x)]) (ds:=oF x) (s2:=[.e]) rfl (by
   have:(oF x).length=x.length:=by unfold oF;rw[Ya,Yd];rfl
   rw[this,Af h];rfl) ?_
  exact b8 (fun c=>D.str ⟨#[c]⟩) (fun c=>D.bl (inL c)) [.e] x.cps.toList fun c _=>⟨[.v (.str ⟨#[c]⟩)],[.v (.str ⟨#[c]⟩)],.d (.bl (inL c)),[.v (.str ⟨#[c]⟩)],[.v (.str ⟨#[c]⟩)],rfl,rfl,aE rfl rfl rfl rfl rfl,rfl,rfl⟩
 have ch:aH (rQ bLe bLe (fC (.int 1)) (fCB cA (ac (ag 0) ai)) (fC (.int 6))) [.v (.str x)]=some (decide (1<=x.length)&&decide (x.length<=6),[.v (.str x)]):=by
  have l1:fCB cA (ac (ag 0) ai) [.v (.str x)]=some (.d (.int (x.length:Int)),[.v (.str x)]):=bp rfl rfl (len_str h);have b1:bLe (.int 1) (.int (x.length:Int))=some (.bl (decide (1<=x.length)),false):=by
   show some (D.bl (decide ((1:Int)<=(x.length:Int))),false)=_;congr 3;rw[BJ];lia
  have b2:bLe (.int (x.length:Int)) (.int 6)=some (.bl (decide (x.length<=6)),false):=by
   show some (D.bl (decide ((x.length:Int)<=6)),false)=_;congr 3;rw[BJ];lia
  refine aQ (r:=.d (.bl (decide (1<=x.length)&&decide (x.length<=6)))) ?_ rfl;unfold rQ;simp only[fC,l1,Wa,cont,b1];cases decide (1<=x.length) with
  | false=>rfl
  | true =>
   simp only[b2,Wa];rfl
 refine aW (o:=.rt (.d (.bl (okT x))) [.v (.str x)]) rfl ?_ rfl;unfold okT;cases e:(decide (1<=x.length)&&decide (x.length<=6)) with
 | false =>
  rw[e]at ch;exact iV (fS (s:=[.v (.str x)]) (oK (s:=[.v (.str x)]) rfl (im ch)) rfl)
 | true =>
  rw[e]at ch;refine aC (cJ (s:=[.v (.str x)]) (oK (s:=[.v (.str x)]) rfl (im ch)) rfl) ?_;exact aU (bp (aj hc rfl) rfl (LA inL x.cps.toList))
theorem Ig{j:Jnt}(h:j.length=1∨j.length=2):(∃a,j=[a])∨∃a b,j=[a,b]:=by
 cases j with
 | nil=>rcases h with z|z<;>cases z
 | cons a r =>
  cases r with
  | nil=>exact .inl ⟨a,rfl⟩
  | cons b r =>
   cases r with
   | nil=>exact .inr ⟨a,b,rfl⟩
   | cons c r =>
    rw[Xd,Xd,Xd]at h;lia
def Ih(e:End)(es:Jnt):bIx (jD (e::es)) (.int 0)=some (eD e,false):=dL (i:=0) rfl
def Ii(e f:End)(es:Jnt):bIx (jD (e::f::es)) (.int 1)=some (eD f,false):=dL (i:=1) rfl
def wn(j:Jnt):cA [jD j]=some (.int (j.length:Int),false):=by
 show some (D.int (((j.map eD).length:Nat):Int),false)=_;rw[Ya]
def Gj{x:Str}(h:Nm x):kr [.str x]=some (.bl true,false):=by
 rw[Gi (by have:=h.2.1;lia),LC h]
def EOk(e:End):Prop:=Nm e.1/\(e.2=0∨e.2=1)
def Ij{e:End}(h:EOk e):ph [eD e]=some (.bl true,false):=by
 obtain⟨x,i⟩:=e;obtain⟨h1,h2⟩:=h;refine aW (o:=.rt (.d (.bl true)) [.v (eD (x,i))]) rfl ?_ rfl;refine aC (cJ (s:=[.v (eD (x,i))]) (oK (s:=[.v (eD (x,i))]) rfl (oK (s:=[.v (eD (x,i))]) rfl (im (aQ (bD (aj (aE rfl rfl rfl rfl (dL (i:=0) rfl)) rfl) rfl (Gj h1) rfl) rfl)))) rfl) ?_;rcases h2 with h2|h2
 ·have h2:i=0:=h2;subst h2;exact aU (ip (s:=[.v (eD (x,0))]) rfl rfl rfl)
 ·have h2:i=1:=h2;subst h2;exact aU (ip (s:=[.v (eD (x,1))]) rfl rfl rfl)
def Gk{d:D}{qs:List (D×D)}(hz:fIZ (ac (ag 0) (ac (fSl bSl (ag 0) (cR (fC (.int 1))) oNo) ai)) [.v d]=some (qs.map fun q=>pr q.1 q.2,[.v d]))(hl:qs.length<=2)(hq:∀q∈qs,qk q.1 q.2=some (.bl true,false)):dZ [d]=some (.bl true,false):=by
 have ec:cG (gT 2 (gsC (gN 0) (gsC (gN 1) gsN))) cg kZ 2 (qs.map fun q=>pr q.1 q.2) [.e,.e]=some (qs.map fun _=>D.bl true,[.e,.e]) :=
  b8 (fg:=gT 2 (gsC (gN 0) (gsC (gN 1) gsN))) (fc:=cg) (fe:=kZ) (k:=2) (fun q:D×D=>pr q.1 q.2) (fun _=>D.bl true) [.e,.e] qs fun q h =>
   ⟨[.v q.1,.v q.2],[.v q.1,.v q.2],.d (.bl true),[.v q.1,.v q.2],[.v q.1,.v q.2],rfl,rfl,aE rfl rfl rfl rfl (hq q h),rfl,rfl⟩
 refine aW (o:=.rt (.d (.bl true)) [.v d]) rfl (aU (bp (z:=(.bl true,false)) (aj (bO hz ?_ ec) rfl) rfl ?_)) rfl
 ·show(true&&decide ((qs.map fun q=>pr q.1 q.2).length<=1000000))=true;rw[Ya,Af (by lia)];rfl
 ·show qh [.lst (qs.map fun _=>D.bl true)]=_;rw[ol];exact jI _
def sW(x:D):dZ [.tup [x]]=some (.bl true,false):=by
 refine Gk (qs:=[]) ?_ (by decide) fun q h=>by cases h
 have e1:(ac (ag 0) (ac (fSl bSl (ag 0) (cR (fC (.int 1))) oNo) ai)) [.v (.tup [x])]=some (_,_):=aj rfl (aj (gY rfl rfl rfl rfl sR) rfl);show((ac (ag 0) (ac (fSl bSl (ag 0) (cR (fC (.int 1))) oNo) ai)) [.v (.tup [x])]).bind _=_;rw[e1];rfl
def xZ{x y:D}(h:qk x y=some (.bl true,false)):dZ [.tup [x,y]]=some (.bl true,false):=by
 refine Gk (qs:=[(x,y)]) ?_ (by show 1<=2;decide) fun q hq=>by rw[Va.mp hq];exact h
 have e1:(ac (ag 0) (ac (fSl bSl (ag 0) (cR (fC (.int 1))) oNo) ai)) [.v (.tup [x,y])]=some (_,_):=aj rfl (aj (gY rfl rfl rfl rfl sR) rfl);show((ac (ag 0) (ac (fSl bSl (ag 0) (cR (fC (.int 1))) oNo) ai)) [.v (.tup [x,y])]).bind _=_;rw[e1];rfl
def Ik{x y:D}(h:qk x y=some (.bl true,false)):dZ [.lst [x,y]]=some (.bl true,false):=by
 refine Gk (qs:=[(x,y)]) ?_ (by show 1<=2;decide) fun q hq=>by rw[Va.mp hq];exact h
 rfl
def ltE{a b:End}(h:ltN 40 (eD a) (eD b)=true):qk (eD a) (eD b)=some (.bl true,false):=by
 rw[Fx (qY 38 a) (qY 38 b) (xQ 38 a b),h]
def No{a b:End}(h:ltN 40 (eD a) (eD b)=true)(hne:a≠b):qk (jD [a]) (jD [b])=some (.bl true,false):=by
 rw[Fx (g9 37 [a]) (g9 37 [b]) (Jq 37 [a] [b])];have ne:¬ eD a=eD b:=fun z=>hne (by have:=congrArg unE z;exact this)
 have e:ltN 40 (jD [a]) (jD [b])=ltN 39 (eD a) (eD b):=by
  show ltL (ltN 39) [eD a] [eD b]=_;unfold ltL;rw[Ak ne]
 have e2:ltN 39 (eD a) (eD b)=ltN 40 (eD a) (eD b):=by
  show ltL (ltN 38) [.str a.1,.int a.2] [.str b.1,.int b.2]=ltL (ltN 39) [.str a.1,.int a.2] [.str b.1,.int b.2];unfold ltL ltL;rfl
 rw[e,e2,h]
def Gm{j:Jnt}(h:∀e∈j,EOk e):cG (gN 0) cg i9 1 (j.map eD) [.e]=some (j.map fun _=>D.bl true,[.e]) :=
 b8 (fg:=gN 0) (fc:=cg) (fe:=i9) (k:=1) eD (fun _=>D.bl true) [.e] j fun e he=>⟨[.v (eD e)],[.v (eD e)],.d (.bl true),[.v (eD e)],[.v (eD e)],rfl,rfl,bD rfl rfl (Ij (h e he)) rfl,rfl,rfl⟩
def mV{j:Jnt}(hl:j.length=1∨j.length=2)(h:∀e∈j,EOk e)(hr:dZ [jD j]=some (.bl true,false)):ja [jD j]=some (.bl true,false):=by
 refine aW (o:=.rt (.d (.bl true)) [.v (jD j)]) rfl ?_ rfl;have t:aH (fOp jG (fCB cA (ac (ag 0) ai)) (bQ (ac (fC (.int 1)) (ac (fC (.int 2)) ai)))) [.v (jD j)]=some (false,[.v (jD j)]):=by
  rcases hl with hl|hl
  ·exact aQ (aE (bp rfl rfl (wn j)) rfl rfl rfl (z:=(.bl false,false)) (by rw[hl];rfl)) rfl
  ·exact aQ (aE (bp rfl rfl (wn j)) rfl rfl rfl (z:=(.bl false,false)) (by rw[hl];rfl)) rfl
 refine aC (cJ (oK (s:=[.v (jD j)]) rfl t) rfl) ?_;refine aU (ip (bp (aj (bO (eY rfl rfl) ?_ (Gm h)) rfl) rfl (by rw[ol];exact jI _)) rfl (bD rfl rfl hr rfl))
 show(true&&decide ((j.map eD).length<=1000000))=true;rw[Ya,Af (by lia)];rfl
def uU{js:List Jnt}(hl:js.length=1∨js.length=2)(h:∀j∈js,ja [jD j]=some (.bl true,false))(hr:dZ [.tup (js.map jD)]=some (.bl true,false)):gr [.tup (js.map jD)]=some (.bl true,false):=by
 have ec:cG (gN 0) cg jN 1 (js.map jD) [.e]=some (js.map fun _=>D.bl true,[.e]) :=
  b8 (fg:=gN 0) (fc:=cg) (fe:=jN) (k:=1) jD (fun _=>D.bl true) [.e] js fun e he=>⟨[.v (jD e)],[.v (jD e)],.d (.bl true),[.v (jD e)],[.v (jD e)],rfl,rfl,bD rfl rfl (h e he) rfl,rfl,rfl⟩
 have ln:cA [.tup (js.map jD)]=some (.int (js.length:Int),false):=by
  show some (D.int (((js.map jD).length:Nat):Int),false)=_;rw[Ya]
 refine aW (o:=.rt (.d (.bl true)) [.v (.tup (js.map jD))]) rfl ?_ rfl;have t:aH (fOp jG (fCB cA (ac (ag 0) ai)) (bQ (ac (fC (.int 1)) (ac (fC (.int 2)) ai)))) [.v (.tup (js.map jD))]=some (false,[.v (.tup (js.map jD))]):=by
  rcases hl with hl|hl
  ·exact aQ (aE (bp rfl rfl ln) rfl rfl rfl (z:=(.bl false,false)) (by rw[hl];rfl)) rfl
  ·exact aQ (aE (bp rfl rfl ln) rfl rfl rfl (z:=(.bl false,false)) (by rw[hl];rfl)) rfl
 refine aC (cJ (oK (s:=[.v (.tup (js.map jD))]) rfl t) rfl) ?_;refine aU (ip (bp (aj (bO (eY rfl rfl) ?_ ec) rfl) rfl (by rw[ol];exact jI _)) rfl (bD rfl rfl hr rfl))
 show(true&&decide ((js.map jD).length<=1000000))=true;rw[Ya,Af (by lia)];rfl
def uV{js:List Jnt}{L:List Int}(hl:js.length<=2)(pm:L.Perm (js.map fun j=>(j.length:Int)))(pw:L.Pairwise (·<=·)):ku [.tup (js.map jD)]=some (.tup (L.map D.int),false):=by
 have ec:cG (gN 0) cg mL 1 (js.map jD) [.e]=some (js.map fun j=>D.int (j.length:Int),[.e]) :=
  b8 (fg:=gN 0) (fc:=cg) (fe:=mL) (k:=1) jD (fun j=>D.int (j.length:Int)) [.e] js fun e _=>⟨[.v (jD e)],[.v (jD e)],.d (.int (e.length:Int)),[.v (jD e)],[.v (jD e)],rfl,rfl,bp rfl rfl (wn e),rfl,rfl⟩
 refine aW (o:=.rt (.d (.tup (L.map D.int))) [.v (.tup (js.map jD))]) rfl ?_ rfl;refine aU (bp (aj (bp (aj (bO (eY rfl rfl) ?_ ec) rfl) rfl (Id pm pw ?_)) rfl) rfl rfl)
 ·show(true&&decide ((js.map jD).length<=1000000))=true;rw[Ya,Af (by lia)];rfl
 ·show some (js.map fun j=>D.int (j.length:Int))=_;rw[Vg];rfl
def rf{js:List Jnt}(hl:js.flatten.length<=1000):gu [.tup (js.map jD)]=some (.lst ((dC js.flatten).map eD),true):=by
 obtain⟨sf,e,s2,rfl,_⟩:=cT (fg:=gN 2) (B:=ng) jD js
  (fun gone st=>∃s2:Sl,st=[.v (.tup (js.map jD)),.o (.lst (gone.flatten.map eD)),s2]/\s2.isIo=false)
  (by
   rintro gone j rest st ha ⟨s2,rfl,q⟩;have hg:=congrArg (fun l=>l.flatten.length) ha;simp only[Qm,AO,Xa]at hg;refine⟨_,[.v (.tup (js.map jD)),.o (.lst ((gone++[j]).flatten.map eD)),.v (jD j)],bE rfl q,?_,.v (jD j),rfl,rfl⟩;refine ce (f6 rfl rfl rfl rfl rfl rfl rfl (FX (ys:=j.map eD) (by rw[Ya,Ya];lia)) ?_)
   rw[Qm,Zc,Dw];rfl)
  js [] [.v (.tup (js.map jD)),.o (.lst []),.e] rfl ⟨.e,rfl,rfl⟩
 refine aW (o:=.rt (.f (.lst ((dC js.flatten).map eD))) [.v (.tup (js.map jD)),.o (.lst (js.flatten.map eD)),s2]) rfl ?_ rfl;exact aC (eX (jh rfl rfl (by show 0<=1000000;decide)) rfl) (aC (eI (eY rfl rfl) e) (aU (bp rfl rfl (ky js.flatten rfl))))
structure PJ(a b:End):Prop where
 l:EOk a
 r:EOk b
 n:a≠b
 s:dC [a,b]=[a,b]
def M8{a b:End}(h:a≠b):eD a≠eD b:=fun z=>h (by have:=congrArg unE z;exact this)
def PJ.lt{a b:End}(h:PJ a b):ltN 40 (eD a) (eD b)=true:=by
 have hs:=zu (Lp [a,b]);rw[(fJ [a,b]).1,h.s]at hs;have h1:ltN 40 (eD b) (eD a)=false:=(Yi.mp hs).1 (eD b) (by simp)
 rcases(mK 40).tri (xQ 38 a b) with z|z|z
 ·exact absurd z (M8 h.n)
 ·exact z
 ·rw[h1]at z;cases z
def jZ(a b:End):D:=.tup [.tup [jD [a,b]],.tup [jD [a],jD [b]]]
def Gn(a b:End):lV [jD [a,b]]=some (jZ a b,false):=by
 refine aW (o:=.rt (.d (jZ a b)) [.v (jD [a,b])]) rfl ?_ rfl;exact aU (bq (aj (bq rfl rfl (by show 1<=1000000;decide)) (aj (bq (aj (bq (aj (aE rfl rfl rfl rfl (Ih a [b])) rfl) rfl (by show 1<=1000000;decide)) (aj (bq (aj (aE rfl rfl rfl rfl (Ii a b [])) rfl) rfl (by show 1<=1000000;decide)) rfl)) rfl (by show 2<=1000000;decide)) rfl)) rfl (by show 2<=1000000;decide))
def sX{n:Nat}(js:List Jnt):Pl (n+4) (.tup (js.map jD)):=.tup fun d hd=>by
 obtain⟨j,_,rfl⟩:=Xc.mp hd;exact g9 n j
def Gp{a b:End}(h:PJ a b):mM [jZ a b]=some (.bl true,false):=by
 have hE:∀e∈[a,b],EOk e:=fun e he=>by
  rcases Vd.mp he with z|z
  ·rw[z];exact h.l
  ·rw[Va.mp z];exact h.r
 have h0:gr [.tup [jD [a,b]]]=some (.bl true,false):=uU (js:=[[a,b]]) (.inl rfl) (fun j hj=>by
  rw[Va.mp hj]
  exact mV (.inr rfl) hE (xZ (ltE h.lt))) (sW _)
 have h1:gr [.tup [jD [a],jD [b]]]=some (.bl true,false):=uU (js:=[[a],[b]]) (.inr rfl) (fun j hj=>by
  rcases Vd.mp hj with z|z
  ·rw[z];exact mV (.inl rfl) (fun e he=>by rw[Va.mp he];exact h.l) (sW _)
  ·rw[Va.mp z];exact mV (.inl rfl) (fun e he=>by rw[Va.mp he];exact h.r) (sW _)) (xZ (No h.lt h.n))
 have ec:cG (gN 0) cg jO 1 [.tup [jD [a,b]],.tup [jD [a],jD [b]]] [.e]=some ([.bl true,.bl true],[.e]) :=
  mI (fg:=gN 0) (fc:=cg) (fe:=jO) (k:=1) (fun _=>D.bl true) [.tup [jD [a,b]],.tup [jD [a],jD [b]]] [.e] fun x hx=>by
   have hx':gr [x]=some (.bl true,false):=by
    rcases Vd.mp hx with z|z
    ·rw[z];exact h0
    ·rw[Va.mp z];exact h1
   exact⟨[.v x],[.v x],.d (.bl true),[.v x],[.v x],rfl,rfl,bD rfl rfl hx' rfl,rfl,rfl⟩
 have e0:gu [.tup [jD [a,b]]]=some (.lst [eD a,eD b],true):=by
  have:=rf (js:=[[a,b]]) (by show 2<=1000;decide)
  rw[show([[a,b]]:List Jnt).flatten=[a,b] from rfl,h.s]at this;exact this
 have e1:gu [.tup [jD [a],jD [b]]]=some (.lst [eD a,eD b],true):=by
  have:=rf (js:=[[a],[b]]) (by show 2<=1000;decide)
  rw[show([[a],[b]]:List Jnt).flatten=[a,b] from rfl,h.s]at this;exact this
 have z0:ku [.tup [jD [a,b]]]=some (.tup [.int 2],false):=uV (js:=[[a,b]]) (L:=[2]) (by show 1<=2;decide) (List.Perm.refl _) (by simp)
 have z1:ku [.tup [jD [a],jD [b]]]=some (.tup [.int 1,.int 1],false):=uV (js:=[[a],[b]]) (L:=[1,1]) (by show 2<=2;decide) (List.Perm.refl _) (by simp)
 have ne:lQ (.lst [eD a,eD b]) (.lst [eD a,eD b])=some (.bl false,false):=Gg (n:=2) (fun d hd=>by
  rcases Vd.mp hd with z|z
  ·rw[z];exact qY 0 a
  ·rw[Va.mp z];exact qY 0 b) (by decide)
 have nt:lQ (.tup [jD [a,b]]) (.tup [jD [a],jD [b]])=some (.bl true,false):=LB (c:=false) (by simp) (sX (n:=36) [[a,b]]) (sX (n:=36) [[a],[b]]) ⟨fun z=>(by cases z),fun z=>(by injection z with z;injection z with _ z;cases z)⟩
 refine aW (o:=.rt (.d (.bl true)) [.v (jZ a b),.v (.tup [jD [a,b]]),.v (.tup [jD [a],jD [b]]),.o (.lst [eD a,eD b])]) rfl ?_ rfl;refine aC (cJ (s:=[.v (jZ a b),.e,.e,.e]) (oK (s:=[.v (jZ a b),.e,.e,.e]) rfl (oK (aQ (aE (bp rfl rfl (z:=(.int 2,false)) rfl) rfl rfl rfl (uT 2)) rfl) (im (aQ (bp (aj (bO (eY rfl rfl) rfl ec) rfl) rfl (z:=(.bl true,false)) rfl) rfl)))) rfl) ?_;refine aC (db (aE rfl rfl rfl rfl (dL (i:=0) rfl)) rfl) (aC (db (aE rfl rfl rfl rfl (dL (i:=1) rfl)) rfl) (aC (eX (aZ rfl rfl e0) rfl) ?_));refine aC (cJ (oK (im (aQ (bD rfl rfl (Ik (ltE h.lt)) rfl) rfl)) (aQ (aE rfl (aZ rfl rfl e1) rfl rfl ne) rfl)) rfl) ?_;refine aU (ip (Lf (b:=true) (bq (aj (aZ rfl rfl z0) (aj (aZ rfl rfl z1) rfl)) rfl (by show 2<=1000000;decide)) rfl (Gh rfl) (fun e he=>Gh ?_) ?_) rfl (aE rfl rfl rfl rfl nt))
 ·simp only[Vd,List.not_mem_nil,or_false]at he;rcases he with rfl|rfl|rfl|rfl<;>rfl
 ·exact⟨fun _=>Wb,fun _=>rfl⟩
def x6(a b:End):D:=.tup [.tup [jD [a],jD [b]],.tup [jD [a,b]]]
def Il{a b:End}(h:PJ a b):vY [jZ a b]=some (x6 a b,false):=by
 refine aW (o:=.rt (.d (x6 a b)) [.v (jZ a b)]) rfl ?_ rfl;refine aC (cJ (s:=[.v (jZ a b)]) (im (aQ (bD rfl rfl (Gp h) rfl) rfl)) rfl) ?_;exact aU (bq (aj (aE rfl rfl rfl rfl (dL (i:=1) rfl)) (aj (aE rfl rfl rfl rfl (dL (i:=0) rfl)) rfl)) rfl (by show 2<=1000000;decide))
end
end K34
namespace VF22
open PySem L2 VF
def LD{fd fy fx:FE}{st s1 s2 s3:En}{r1 r2 r3:Rs}{d0 d1 d2 dz d:D}{o:Option D}(h1:fd st=some (r1,s1))(h0:cont s1 r1=some d0)(hd:MM d0=true)(h2:fy s1=some (r2,s2))(h3:fx s2=some (r3,s3))(h4:cont s3 r1=some d1)(h5:cont s3 r2=some d2)(h6:atD d1 d2=some o)(h7:dOf r3=some dz)(hr:o.getD dz=d):HG fd fy fx st=some (.d d,s3):=by
 simp only[HG,h1,h0,hd,h2,h3,h4,h5,h6,h7,hr,Wa,if_true]
theorem uW(f:Str->D)(n:Str):∀Z:List Str,gG (Z.map fun m=>((Sum.inr m:Key),f m)) (Sum.inr n)=if n∈Z then some (f n) else none
 | []=>rfl
 | m::r=>by
  by_cases c:m=n
  ·subst c;rw[Ae Wb];unfold gG;rw[Xe,List.find?_cons_of_pos (by simp)];rfl
  ·have ih:=uW f n r;have e:gG ((m::r).map fun m=>((Sum.inr m:Key),f m)) (Sum.inr n)=gG (r.map fun m=>((Sum.inr m:Key),f m)) (Sum.inr n):=by
    unfold gG;rw[Xe,List.find?_cons_of_neg (by simp[c])]
   rw[e,ih];have:n∈m::r↔n∈r:=by simp[AL c]
   by_cases h:n∈r
   ·rw[Ae h,Ae (this.mpr h)]
   ·rw[Ak h,Ak fun z=>h (this.mp z)]
def Im(f g:Str->D)(n:Str)(Z:List Str)(h:∀m,m≠n->g m=f m):ut (Z.map fun m=>((Sum.inr m:Key),f m)) (Sum.inr n) (g n)=(if n∈Z then Z else Z++[n]).map fun m=>((Sum.inr m:Key),g m):=by
 have an:((Z.map fun m=>((Sum.inr m:Key),f m)).any fun kv=>decide (kv.1=(Sum.inr n:Key)))=decide (n∈Z):=by
  rw[CQ,Zf,List.any_eq_true,decide_eq_true_eq];constructor
  ·rintro⟨m,hm,e⟩;have:m=n:=by simpa using e
   exact this ▸ hm
  ·exact fun hn=>⟨n,hn,by simp⟩
 unfold ut;rw[an];by_cases c:n∈Z
 ·rw[Ae (Af c),Ae c,Vg];refine Yl fun m _=>?_;by_cases e:m=n
  ·subst e;simp
  ·simp[e,h m e]
 ·rw[Ak (by simp[c]),Ak c,Zc]
  congr 1;exact Yl fun m hm=>by rw[h m fun z=>c (z ▸ hm)]
end VF22
namespace K34
open PySem L2 VF VL VF22
noncomputable section
def unS:D->Str
 | .str x=>x
 | _=>Str.empty
def dE(xs:List Str):List Str:=(dX 40 (xs.map D.str)).map unS
def LE(xs:List Str):CA 40 (xs.map D.str):=fun a ha b hb=>by
 obtain⟨e,_,rfl⟩:=Xc.mp ha;obtain⟨e',_,rfl⟩:=Xc.mp hb;trivial
def fL(xs:List Str):dX 40 (xs.map D.str)=(dE xs).map D.str/\(dE xs).Perm xs:=by
 obtain⟨ys,e,p⟩:=gj (f:=D.str) (g:=unS) (fun _=>rfl) (kU 40 (xs.map D.str));have h:dE xs=ys:=by
  unfold dE;rw[e,Vg];exact A9 ys
 rw[h];exact⟨e,p⟩
def wo{xs ys:List Str}(p:xs.Perm ys):dE xs=dE ys:=by
 unfold dE;rw[jY (LE xs) (p.map D.str)]
def M9(xs:List Str):∃κ,Kd (xs.map D.str) κ:=⟨_,.sc (T:="str") (by decide) fun d hd=>by
 obtain⟨x,_,rfl⟩:=Xc.mp hd
 exact⟨by simp,rfl⟩⟩
def Na{xs:List Str}:∀d∈xs.map D.str,Pl 40 d:=fun d hd=>by
 obtain⟨x,_,rfl⟩:=Xc.mp hd;exact .str _ x
def zv{d:D}(xs:List Str)(h0:d.seq=some (xs.map D.str)):cZ [d]=some (.lst ((dE xs).map D.str),true):=by
 rw[← (fL xs).1];unfold cZ;dsimp only;rw[h0];dsimp only;exact Ae ⟨Na,LE xs,M9 xs⟩
def Gq{ss:List aI}(hl:(ss.flatMap (·.2)).length<=100):kX [.tup (ss.map stD)]=some (.lst ((ss.flatMap (·.2)).map bdD),true):=by
 obtain⟨sf,e,s2,rfl,_⟩:=cT (fg:=gN 2) (B:=lU) stD ss
  (fun gone st=>∃s2:Sl,st=[.v (.tup (ss.map stD)),.o (.lst ((gone.flatMap (·.2)).map bdD)),s2]/\s2.isIo=false)
  (by
   rintro gone s rest st ha ⟨s2,rfl,q⟩;have hg:=congrArg (fun l=>(l.flatMap (·.2)).length) ha;simp only[Ze,Ve,Xa]at hg;refine⟨_,[.v (.tup (ss.map stD)),.o (.lst (((gone++[s]).flatMap (·.2)).map bdD)),.v (stD s)],bE rfl q,?_,.v (stD s),rfl,rfl⟩;refine cJ (s:=[.v (.tup (ss.map stD)),.o (.lst ((gone.flatMap (·.2)).map bdD)),.v (stD s)]) rfl ?_;refine ce (f6 rfl rfl rfl (aj (aE rfl rfl rfl rfl (dL (i:=1) rfl)) rfl) rfl rfl rfl (FX (ys:=s.2.map bdD) (by rw[Ya,Ya];lia)) ?_)
   rw[Ze,Zc,Wg];rfl)
  ss [] [.v (.tup (ss.map stD)),.o (.lst []),.e] rfl ⟨.e,rfl,rfl⟩
 refine aW (o:=.rt (.s 1) [.v (.tup (ss.map stD)),.o (.lst ((ss.flatMap (·.2)).map bdD)),s2]) rfl ?_ rfl;exact aC (eX (jh rfl rfl (by show 0<=1000000;decide)) rfl) (aC (eI (eY rfl rfl) e) rfl)
def nmz(ss:List aI):List Str:=(ss.flatMap (·.2)).map (·.2)
def LF{ss:List aI}(hn:∀s∈ss,∀p∈s.2,Nm p.2)(hl:(ss.flatMap (·.2)).length<=100):kY [.tup (ss.map stD)]=some (.lst ((dE (nmz ss)).map D.str),true):=by
 have np:∀p∈ss.flatMap (·.2),Nm p.2:=fun p hp=>by
  obtain⟨s,h1,h2⟩:=List.mem_flatMap.mp hp;exact hn s h1 p h2
 have ec:cG (gN 0) cg i8 1 ((ss.flatMap (·.2)).map bdD) [.e]=some ((ss.flatMap (·.2)).map fun p=>D.str p.2,[.e]) :=
  b8 (fg:=gN 0) (fc:=cg) (fe:=i8) (k:=1) bdD (fun p=>D.str p.2) [.e] (ss.flatMap (·.2)) fun p hp=>⟨[.v (bdD p)],[.v (bdD p)],.d (.str p.2),[.v (bdD p)],[.v (bdD p)],rfl,rfl,bD rfl rfl (mU (t:=p.1) (n:=p.2) (np p hp)) rfl,rfl,rfl⟩
 refine aW (o:=.rt (.f (.lst ((dE (nmz ss)).map D.str))) [.v (.tup (ss.map stD))]) rfl ?_ rfl;refine aU (bp (aj (bO (jn (aZ rfl rfl (Gq hl)) rfl) (ml (n:=100) (by rw[Ya];exact hl) (by decide) rfl) ec) rfl) rfl (zv (nmz ss) ?_))
 show some _=_;unfold nmz;rw[Vg];rfl
def iy(Z gone:List Str):List (Key×D):=Z.map fun m=>((Sum.inr m:Key),D.int ((gone.count m:Nat):Int))
structure CI(Z gone:List Str):Prop where
 mem:∀n,n∈Z↔n∈gone
 len:Z.length<=gone.length
def uX{Z gone:List Str}(n:Str):gG (iy Z gone) (Sum.inr n)=if n∈Z then some (D.int ((gone.count n:Nat):Int)) else none:=uW (fun m=>D.int ((gone.count m:Nat):Int)) n Z
def Ip{Z gone:List Str}(n:Str):ut (iy Z gone) (Sum.inr n) (.int (((gone++[n]).count n:Nat):Int))=iy (if n∈Z then Z else Z++[n]) (gone++[n]) :=
 Im (fun m=>D.int ((gone.count m:Nat):Int)) (fun m=>D.int (((gone++[n]).count m:Nat):Int)) n Z fun m hm=>by
  have:(gone++[n]).count m=gone.count m:=by
   rw[CP,DE (AL hm),List.count_nil,Dt]
  rw[this]
def CI.put{Z gone:List Str}(h:CI Z gone)(n:Str):CI (if n∈Z then Z else Z++[n]) (gone++[n]):=by
 by_cases c:n∈Z
 ·rw[Ae c];refine⟨fun m=>?_,by have:=h.len;rw[Xa];lia⟩
  rw[Wc,← h.mem m,Va];exact⟨.inl,fun z=>z.elim id fun e=>e ▸ c⟩
 ·rw[Ak c];refine⟨fun m=>?_,by have:=h.len;rw[Xa,Xa];lia⟩
  rw[Wc,Wc,h.mem m]
def Gr{L x:D}{Z gone:List Str}{n:Str}(h:CI Z gone)(hl:gone.length<=1000):fB [.v L,.o (.dk (iy Z gone)),.v x,.v (.str n),.e]=some (.nx [.v L,.o (.dk (iy (if n∈Z then Z else Z++[n]) (gone++[n]))),.v x,.v (.str n),.e]):=by
 have hg:(if n∈Z then some (D.int ((gone.count n:Nat):Int)) else none).getD (.int 0)=.int ((gone.count n:Nat):Int):=by
  by_cases c:n∈Z
  ·rw[Ae c];rfl
  ·rw[Ak c,List.count_eq_zero.mpr fun z=>c ((h.mem n).mpr z)];rfl
 have ha:cE (.int ((gone.count n:Nat):Int)) (.int 1)=some (.int (((gone++[n]).count n:Nat):Int),false):=by
  have:(((gone++[n]).count n:Nat):Int)=((gone.count n:Nat):Int)+1:=by
   rw[CP,List.count_singleton_self];rfl
  rw[this];rfl
 have hz:(iy Z gone).length<100000:=by
  have:=h.len;unfold iy;rw[Ya];lia
 have hs:Fk (.dk (iy Z gone)) (.str n) (.int (((gone++[n]).count n:Nat):Int))=some (.dk (iy (if n∈Z then Z else Z++[n]) (gone++[n]))):=by
  show(if (iy Z gone).length<100000 then some (D.dk (ut (iy Z gone) (Sum.inr n) _)) else none)=_;rw[Ae hz,Ip]
 have hat:atD (.dk (iy Z gone)) (.str n)=some (if n∈Z then some (D.int ((gone.count n:Nat):Int)) else none):=congrArg some (uX n);exact pH (aE (LD rfl rfl rfl rfl rfl rfl rfl hat rfl hg) rfl rfl rfl ha) rfl rfl rfl rfl rfl rfl rfl hs
def zw{L:D}{ss:List aI}{Z gone:List Str}{s3:Sl}(h:CI Z gone)(hn:∀s∈ss,∀p∈s.2,Nm p.2)(hl:(ss.flatMap (·.2)).length<=100)(hg:gone.length<=500)(q3:s3.isIo=false):∃(Z':List Str)(s3':Sl),fD [.v L,.o (.dk (iy Z gone)),.v (.tup (ss.map stD)),s3,.e]=some (.nx [.v L,.o (.dk (iy Z' (gone++dE (nmz ss)))),.v (.tup (ss.map stD)),s3',.e])/\CI Z' (gone++dE (nmz ss))/\s3'.isIo=false:=by
 have ln:(dE (nmz ss)).length<=100:=by rw[(fL _).2.length_eq];unfold nmz;rw[Ya];exact hl
 obtain⟨sf,e,Z',s3',rfl,hc,q⟩:=cT (fg:=gN 3) (B:=fB) D.str (dE (nmz ss))
  (fun g st=>∃(Z':List Str)(s3':Sl),st=[.v L,.o (.dk (iy Z' (gone++g))),.v (.tup (ss.map stD)),s3',.e]/\CI Z' (gone++g)/\s3'.isIo=false)
  (by
   rintro g n rest st ha ⟨Z',s3',rfl,hc,q⟩;have hz:=congrArg List.length ha;rw[Xa]at hz
   refine⟨_,_,bE rfl q,Gr hc (by rw[Xa];lia),_,.v (.str n),by rw[← Yc],by rw[← Yc];exact hc.put n,rfl⟩)
  (dE (nmz ss)) [] [.v L,.o (.dk (iy Z gone)),.v (.tup (ss.map stD)),s3,.e] rfl ⟨Z,s3,by rw[Vc],by rw[Vc];exact h,q3⟩
 exact⟨Z',s3',eI (jn (aZ rfl rfl (LF hn hl)) rfl) e,hc,q⟩
theorem x8:∀{l:List Str}{n:Str},l.Nodup->n∈l->l.count n=1
 | m::r,n,h,hn=>by
  obtain⟨h1,h2⟩:=Zi.mp h;by_cases c:m=n
  ·subst c;rw[List.count_cons_self,List.count_eq_zero.mpr h1]
  ·rw[DE c];exact x8 h2 ((Vd.mp hn).resolve_left fun z=>c z.symm)
abbrev sD(ss:List aI):D:=.tup (ss.map stD)
def zx{ss ts:List aI}(hn:∀s∈ss,∀p∈s.2,Nm p.2)(hl:(ss.flatMap (·.2)).length<=100)(hn':∀s∈ts,∀p∈s.2,Nm p.2)(hl':(ts.flatMap (·.2)).length<=100)(nd:(nmz ss).Nodup)(pm:(nmz ts).Perm (nmz ss)):gI [.lst [sD ss,sD ts]]=some (.non,false):=by
 have e0:=wo pm;have ln:∀us:List aI,(us.flatMap (·.2)).length<=100->(dE (nmz us)).length<=100:=fun us h=>by rw[(fL _).2.length_eq];unfold nmz;rw[Ya];exact h
 have l1:=ln ss hl;have l2:=ln ts hl';obtain⟨sf,e,Z,s2,s3,rfl,hc,q2,q3⟩:=cT (fg:=gN 2) (B:=fD) sD [ss,ts]
  (fun gone st=>∃(Z:List Str)(s2 s3:Sl),st=[.v (.lst [sD ss,sD ts]),.o (.dk (iy Z (gone.flatMap fun us=>dE (nmz us)))),s2,s3,.e]/\CI Z (gone.flatMap fun us=>dE (nmz us))/\s2.isIo=false/\s3.isIo=false)
  (by
   rintro gone us rest st ha ⟨Z,s2,s3,rfl,hc,q2,q3⟩;have hm:us=ss∨us=ts:=by
    have:us∈[ss,ts]:=by rw[ha];simp
    simpa using this
   have hg:(gone.flatMap fun us=>dE (nmz us)).length<=500:=by
    have:=congrArg (fun l=>(l.flatMap fun us=>dE (nmz us)).length) ha;simp only[Ze,Ve,List.flatMap_nil,Xa,Yg]at this;lia
   have nu:∀s∈us,∀p∈s.2,Nm p.2:=by rcases hm with rfl|rfl<;>assumption
   have lu:(us.flatMap (·.2)).length<=100:=by rcases hm with rfl|rfl<;>assumption
   obtain⟨Z',s3',eB,hc',q3'⟩:=zw (L:=.lst [sD ss,sD ts]) hc nu lu hg q3;refine⟨_,_,bE rfl q2,eB,Z',.v (sD us),s3',?_,?_,rfl,q3'⟩
   ·rw[Ze,Wg]
   ·rw[Ze,Wg];exact hc')
  [ss,ts] [] [.v (.lst [sD ss,sD ts]),.o (.dk []),.e,.e,.e] rfl ⟨[],.e,.e,rfl,⟨fun n=>Iff.rfl,Qa _⟩,rfl,rfl⟩
 have eg:([ss,ts].flatMap fun us=>dE (nmz us))=dE (nmz ss)++dE (nmz ss):=by
  rw[Ve,Ve,List.flatMap_nil,Vc,e0]
 rw[eg]at e hc;have ndS:(dE (nmz ss)).Nodup:=(fL _).2.nodup_iff.mpr nd;have two:∀n∈Z,(dE (nmz ss)++dE (nmz ss)).count n=2:=fun n hz=>by
  have hm:n∈dE (nmz ss):=by rcases Wc.mp ((hc.mem n).mp hz) with z|z<;>exact z
  rw[CP,x8 ndS hm]
 have ks:(iy Z (dE (nmz ss)++dE (nmz ss))).map (fun kv=>gH kv.1)=Z.map D.str:=by
  unfold iy;rw[Vg];rfl
 have es:km [.dk (iy Z (dE (nmz ss)++dE (nmz ss)))]=some (.lst ((dE Z).map D.str),true):=by
  rw[y7 (by rw[ks];exact Na) (by rw[ks];exact LE Z) (by rw[ks];exact M9 Z),ks,(fL Z).1]
 generalize hG:iy Z (dE (nmz ss)++dE (nmz ss))=G at e es;have ec:cG (gN 0) fE fF 1 ((dE Z).map D.str) [.e,.o (.dk G),.v (.lst [sD ss,sD ts])]=some ([],[.e,.o (.dk G),.v (.lst [sD ss,sD ts])]):=by
  have:=eJ (fg:=gN 0) (fc:=fE) (fe:=fF) (k:=1) D.str D.str (fun _=>false) [.e,.o (.dk G),.v (.lst [sD ss,sD ts])] (dE Z) fun n hn=>by
   have hz:n∈Z:=(fL Z).2.mem_iff.mp hn;have hd:Fj (.dk G) (.str n)=some (.int 2,false):=by
    show((some (gG G (Sum.inr n))).bind fun o=>o.bind fun d=>some (d,false))=_;rw[← hG,uX,Ae hz,two n hz];rfl
   exact⟨[.v (.str n),.o (.dk G),.v (.lst [sD ss,sD ts])],[.v (.str n),.o (.dk G),.v (.lst [sD ss,sD ts])],rfl,aQ (aE (aE rfl rfl rfl rfl hd) (bp rfl rfl (z:=(.int 2,false)) rfl) rfl rfl (z:=(.bl false,false)) rfl) rfl,fun _=>rfl,fun z=>by cases z⟩
  rw[this];have:(dE Z).filter (fun _=>false)=[]:=List.filter_eq_nil_iff.mpr fun _ _ z=>by cases z
  rw[this];rfl
 have lz:(dE Z).length<=1000:=by
  have:=hc.len;rw[Xa]at this;rw[(fL Z).2.length_eq];lia
 refine aW (o:=.nx [.v (.lst [sD ss,sD ts]),.o (.dk G),s2,s3,.o (.lst [])]) rfl ?_ rfl;refine aC (s:=[.v (.lst [sD ss,sD ts]),.o (.dk []),.e,.e,.e]) rfl (aC (eI (jn rfl rfl) e) (aC (s:=[.v (.lst [sD ss,sD ts]),.o (.dk G),s2,s3,.o (.lst [])]) (eX (bO (jn (bp rfl rfl es) rfl) ?_ ec) rfl) (cJ (s:=[.v (.lst [sD ss,sD ts]),.o (.dk G),s2,s3,.o (.lst [])]) rfl rfl)));show(true&&decide (((dE Z).map D.str).length<=1000000))=true;rw[Ya,Af (by lia)];rfl
def prs(js:List Jnt):List Jnt:=js.filter fun j=>decide (j.length=2)
def lck(a b:List Jnt):List Jnt:=(prs a).filter fun j=>!decide (j∈b)
def Nb(j:Jnt){st:En}{fe:FE}(h:fe st=some (.d (.int (j.length:Int)),st)):aH (fOp bEq fe (fC (.int 2))) st=some (decide (j.length=2),st):=by
 refine f8 (aQ (aE h rfl rfl rfl (z:=(.bl (decide (V.int (j.length:Int)=V.int 2)),false)) rfl) rfl) ?_;rw[BJ];exact⟨fun z=>by injection z with z;lia,fun z=>by rw[z];rfl⟩
def Gs{j:Jnt}{b:List Jnt}:jD j∈b.map jD↔j∈b:=by
 constructor
 ·intro h;obtain⟨k,hk,e⟩:=Xc.mp h;have:=congrArg unJ e;rw[sP,sP]at this;exact this ▸ hk
 ·exact fun h=>List.mem_map_of_mem h
def j6(j:Jnt)(b:List Jnt):eZ (jD j) (.tup (b.map jD))=some (.bl (!decide (j∈b)),false):=by
 have e1:jG (jD j) (.tup (b.map jD))=none:=rfl;unfold eZ orD;rw[e1];unfold vR;dsimp only[D.seq];have dc:∀i:Decidable (jD j∈b.map jD),@decide _ i=decide (j∈b):=fun i=>by rw[Zf,decide_eq_true_eq,decide_eq_true_eq];exact Gs
 rw[Ae ⟨g9 37 j,fun d hd=>by obtain⟨k,_,rfl⟩:=Xc.mp hd;exact g9 37 k⟩,dc]
 rfl
def Gu{js:List Jnt}(hl:js.length<=1000):k0 [.tup (js.map jD)]=some (.lst ((prs js).map jD),true):=by
 refine aW (o:=.rt (.f (.lst ((prs js).map jD))) [.v (.tup (js.map jD))]) rfl ?_ rfl;refine aU (bO (s2:=[.e]) (eY rfl rfl) (ml (n:=1000) (by rw[Ya];exact hl) (by decide) rfl) ?_)
 exact eJ (fg:=gN 0) (fc:=lW) (fe:=lX) (k:=1) jD jD (fun j=>decide (j.length=2)) [.e] js fun j _ =>
  ⟨[.v (jD j)],[.v (jD j)],rfl,Nb j (bp rfl rfl (wn j)),fun _=>rfl,fun _=>⟨.d (jD j),[.v (jD j)],[.v (jD j)],rfl,rfl,rfl⟩⟩
def rj{a b:List Jnt}(hl:a.length<=1000):fq [.tup (a.map jD),.tup (b.map jD)]=some (.lst ((lck a b).map jD),true):=by
 have hp:(prs a).length<=1000:=Zd (Zh _ _) hl;refine aW (o:=.rt (.f (.lst ((lck a b).map jD))) [.v (.tup (a.map jD)),.v (.tup (b.map jD))]) rfl ?_ rfl;refine aU (bO (s2:=[.e,.v (.tup (b.map jD))]) (jn (aZ rfl rfl (Gu hl)) rfl) (ml (n:=1000) (by rw[Ya];exact hp) (by decide) rfl) ?_)
 exact eJ (fg:=gN 0) (fc:=iG) (fe:=iH) (k:=1) jD jD (fun j=>!decide (j∈b)) [.e,.v (.tup (b.map jD))] (prs a) fun j _ =>
  ⟨[.v (jD j),.v (.tup (b.map jD))],[.v (jD j),.v (.tup (b.map jD))],rfl,aQ (aE rfl rfl rfl rfl (j6 j b)) rfl,fun _=>rfl,fun _=>⟨.d (jD j),[.v (jD j),.v (.tup (b.map jD))],[.v (jD j),.v (.tup (b.map jD))],rfl,rfl,rfl⟩⟩
def Gv{a b:List Jnt}(ha:a.length<=1000)(hb:b.length<=1000):iq [.tup (a.map jD),.tup (b.map jD)]=some (.tup [.lst ((lck a b).map jD),.lst ((lck b a).map jD)],false):=by
 refine aW (o:=.rt (.d (.tup [.lst ((lck a b).map jD),.lst ((lck b a).map jD)])) [.v (.tup (a.map jD)),.v (.tup (b.map jD))]) rfl ?_ rfl;exact aU (bq (aj (aZ rfl rfl (rj ha)) (aj (aZ rfl rfl (rj hb)) rfl)) rfl (by show 2<=1000000;decide))
end
end K34
namespace K34
open PySem L2 VF VL VF22
noncomputable section
def mr(a:End):dC [a]=[a]:=List.perm_singleton.mp (fJ [a]).2
def pM(l:List End):dC (dC l)=dC l:=gQ (fJ l).2
def Gw{s:aI}{j:Jnt}(h:j∈sj s):dC j=j:=by
 rcases Wc.mp h with h|h
 ·obtain⟨q,_,rfl⟩:=Xc.mp h;exact pM _
 ·unfold sT at h;by_cases c:s.1=true
  ·rw[Ae c]at h;rw[Va.mp h];exact pM _
  ·rw[Ak c]at h;rcases Vd.mp h with z|z
   ·rw[z];exact mr _
   ·rw[Va.mp z];exact mr _
theorem x9{α:Type}:∀{L:List (List α)},L.flatten.Nodup->(∀l∈L,l≠[])->L.Nodup
 | [],_,_=>Db
 | l::r,h,hn=>by
  rw[AO]at h;obtain⟨_,h2,h3⟩:=Vm.mp h;refine Zi.mpr ⟨fun hl=>?_,x9 h2 fun x hx=>hn x (Vb _ hx)⟩;cases l with
  | nil=>exact hn [] Wb rfl
  | cons a t=>exact h3 a Wb a (List.mem_flatten.mpr ⟨_,hl,Wb⟩) rfl
theorem yb{α:Type}{L:List (List α)}{l:List α}(h:L.flatten.Nodup)(hl:l∈L):l.Nodup:=by
 induction L with
 | nil=>cases hl
 | cons x r ih =>
  rw[AO]at h;obtain⟨h1,h2,_⟩:=Vm.mp h;rcases Vd.mp hl with z|z
  ·rw[z];exact h1
  ·exact ih h2 z
section
variable {N:List Str}{ss ts us:List aI}
theorem pN{α β:Type}{f:α->β}(hf:∀a b,f a=f b->a=b):∀{l:List α},l.Nodup->(l.map f).Nodup
 | [],_=>Db
 | a::r,h=>by
  obtain⟨h1,h2⟩:=Zi.mp h;rw[Xe];refine Zi.mpr ⟨fun z=>?_,pN hf h2⟩;obtain⟨b,hb,e⟩:=Xc.mp z;exact h1 (hf _ _ e ▸ hb)
def yc(nd:N.Nodup):(N.map zero++N.map one).Nodup:=by
 refine Vm.mpr ⟨pN (fun a b e=>(Prod.mk.inj e).1) nd,pN (fun a b e=>(Prod.mk.inj e).1) nd,fun a ha b hb e=>?_⟩;obtain⟨x,_,rfl⟩:=Xc.mp ha;obtain⟨y,_,rfl⟩:=Xc.mp hb;have:=(Prod.mk.inj e).2;exact absurd this (by decide)
def Iq(w:WF N ss)(nd:N.Nodup):(jo ss).flatten.Nodup:=(sU w.ne w.nm).nodup_iff.mpr (yc nd)
def Gx{j:Jnt}(h:j∈jo ss):∃s∈ss,j∈sj s:=List.mem_flatMap.mp ((fK _).2.mem_iff.mp h)
def Js(w:WF N ss)(nd:N.Nodup)(hN:∀x∈N,Nm x){j:Jnt}(h:j∈jo ss)(h2:j.length=2):∃a b,j=[a,b]/\PJ a b:=by
 obtain⟨a,b,rfl⟩:∃a b,j=[a,b]:=by
  rcases Ig (.inr h2) with⟨a,e⟩|z
  ·rw[e]at h2;cases h2
  ·exact z
 obtain⟨s,_,hs⟩:=Gx h;have hj:=yb (Iq w nd) h;have ok:∀e∈[a,b],EOk e:=fun e he=>by
  have:=(sU w.ne w.nm).mem_iff.mp (List.mem_flatten.mpr ⟨_,h,he⟩);rcases Wc.mp this with z|z
  ·obtain⟨x,hx,rfl⟩:=Xc.mp z;exact⟨hN x hx,.inl rfl⟩
  ·obtain⟨x,hx,rfl⟩:=Xc.mp z;exact⟨hN x hx,.inr rfl⟩
 exact⟨a,b,rfl,ok a (by simp),ok b (by simp),fun z=>(Zi.mp hj).1 (by rw[z];exact A6 b),Gw hs⟩
def lck_in{a b:List Jnt}{j:Jnt}:j∈lck a b↔j∈a/\j.length=2/\j∉b:=by
 unfold lck prs;rw[Ql,Ql];simp[and_assoc]
def mW(w:WF N ss)(hNl:N.length<=100):(jo ss).length<=1000:=by
 have h1:=on w.ne;have h2:=(fK (ss.flatMap sj)).2.length_eq;have h3:=w.len;show(lA (ss.flatMap sj)).length<=1000;lia
def j7:Jnt->D
 | [a,b]=>jZ a b
 | _=>.non
def hU:Jnt->D
 | [a,b]=>x6 a b
 | _=>.non
def Ir(w:WF N ss)(w':WF N ts)(nd:N.Nodup)(hN:∀x∈N,Nm x)(hNl:N.length<=100):fH [sD ss,sD ts]=some (.tup [.lst ((lck (jo ss) (jo ts)).map j7),.lst ((lck (jo ts) (jo ss)).map hU)],false):=by
 have h1:=mW w hNl;have h2:=mW w' hNl;have f:∀{a b:List Jnt},a.length<=1000->(lck a b).length<=1000:=fun h=>Zd (Zh _ _) (Zd (Zh _ _) h);have c1:cG (gN 0) cg eM 1 ((lck (jo ss) (jo ts)).map jD) [.e]=some ((lck (jo ss) (jo ts)).map j7,[.e]) :=
  b8 (fg:=gN 0) (fc:=cg) (fe:=eM) (k:=1) jD j7 [.e] (lck (jo ss) (jo ts)) fun j hj=>by
   obtain⟨m1,m2,_⟩:=lck_in.mp hj;obtain⟨a,b,rfl,_⟩:=Js w nd hN m1 m2;exact⟨[.v (jD [a,b])],[.v (jD [a,b])],.d (jZ a b),[.v (jD [a,b])],[.v (jD [a,b])],rfl,rfl,aZ rfl rfl (Gn a b),rfl,rfl⟩
 have c2:cG (gN 0) cg eN 1 ((lck (jo ts) (jo ss)).map jD) [.e]=some ((lck (jo ts) (jo ss)).map hU,[.e]) :=
  b8 (fg:=gN 0) (fc:=cg) (fe:=eN) (k:=1) jD hU [.e] (lck (jo ts) (jo ss)) fun j hj=>by
   obtain⟨m1,m2,_⟩:=lck_in.mp hj;obtain⟨a,b,rfl,h⟩:=Js w' nd hN m1 m2;exact⟨[.v (jD [a,b])],[.v (jD [a,b])],.d (x6 a b),[.v (jD [a,b])],[.v (jD [a,b])],rfl,rfl,aZ (aj (aZ rfl rfl (Gn a b)) rfl) rfl (Il h),rfl,rfl⟩
 have hr:=zx (ss:=ss) (ts:=ts) (w.beads hN) (by rw[w.len];exact hNl) (w'.beads hN) (by rw[w'.len];exact hNl) (w.nm.nodup_iff.mpr nd) (w'.nm.trans w.nm.symm)
 have j1:=qZ w.ne (w.beads hN) (by rw[w.len];exact hNl)
 have j2:=qZ w'.ne (w'.beads hN) (by rw[w'.len];exact hNl)
 refine aW (o:=.rt (.d (.tup [.lst ((lck (jo ss) (jo ts)).map j7),.lst ((lck (jo ts) (jo ss)).map hU)])) [.v (sD ss),.v (sD ts),.v (.tup [.lst ((lck (jo ss) (jo ts)).map jD),.lst ((lck (jo ts) (jo ss)).map jD)]),.v (.lst ((lck (jo ss) (jo ts)).map j7))]) rfl ?_ rfl;refine aC (ce (aZ (aj (jh rfl rfl (by show 2<=1000000;decide)) rfl) rfl hr)) ?_
 refine aC (db (aZ (aj (aZ rfl rfl j1) (aj (aZ rfl rfl j2) rfl)) rfl (Gv h1 h2)) rfl) ?_;refine aC (eX (bO (jn (aE rfl rfl rfl rfl (dL (i:=0) rfl)) rfl) (ml (n:=1000) (by rw[Ya];exact f h1) (by decide) rfl) c1) rfl) ?_
 exact aU (bq (aj rfl (aj (bO (jn (aE rfl rfl rfl rfl (dL (i:=1) rfl)) rfl) (ml (n:=1000) (by rw[Ya];exact f h2) (by decide) rfl) c2) rfl)) rfl (by show 2<=1000000;decide))
def far(a b:List Jnt):Nat:=(lck a b).length+(lck b a).length
def wp(j:Jnt){st:En}{fe:FE}(h:fe st=some (.d (.int (j.length:Int)),st)):aH (fOp sh fe (fC (.int 2))) st=some (decide (j.length=2),st):=by
 refine f8 (aQ (aE h rfl rfl rfl (z:=(.bl (decide (V.int (j.length:Int)=V.int 2)),false)) rfl) rfl) ?_;rw[BJ];exact⟨fun z=>by injection z with z;lia,fun z=>by rw[z];rfl⟩
def LG(a b:List Jnt):a.filter (fun j=>decide (j.length=2)&&!decide (j∈b))=lck a b:=by
 unfold lck prs;rw[List.filter_filter];exact List.filter_congr fun j _=>Bool.and_comm _ _
def yd{a b:List Jnt}:cG (gN 0) ir iu 1 (a.map jD) [.e,.v (.tup (b.map jD))]=some ((lck a b).map jD,[.e,.v (.tup (b.map jD))]):=by
 rw[← LG];refine eJ (fg:=gN 0) (fc:=ir) (fe:=iu) (k:=1) jD jD (fun j=>decide (j.length=2)&&!decide (j∈b)) [.e,.v (.tup (b.map jD))] a fun j _ =>
  ⟨[.v (jD j),.v (.tup (b.map jD))],[.v (jD j),.v (.tup (b.map jD))],rfl,?_,fun _=>rfl,fun _=>⟨.d (jD j),[.v (jD j),.v (.tup (b.map jD))],[.v (jD j),.v (.tup (b.map jD))],rfl,rfl,rfl⟩⟩
 have t:=wp j (st:=[.v (jD j),.v (.tup (b.map jD))]) (fe:=fCB cA (ac (ag 0) ai)) (bp rfl rfl (wn j));cases c:decide (j.length=2) with
 | true=>rw[c]at t;exact fT t (aQ (aE rfl rfl rfl rfl (j6 j b)) rfl)
 | false=>rw[c]at t;exact jm t
def zy{a b:List Jnt}(ha:a.length<=1000)(hb:b.length<=1000):jV [.tup (a.map jD),.tup (b.map jD)]=some (.int (far a b:Nat),false):=by
 have ln:∀l:List Jnt,cA [.lst (l.map jD)]=some (.int (l.length:Int),false):=fun l=>by
  show some (D.int (((l.map jD).length:Nat):Int),false)=_;rw[Ya]
 refine aW (o:=.rt (.d (.int (far a b:Nat))) [.v (.tup (a.map jD)),.v (.tup (b.map jD)),.o (.lst ((lck a b).map jD))]) rfl ?_ rfl;refine aC (eX (bO (eY rfl rfl) (ml (n:=1000) (by rw[Ya];exact ha) (by decide) rfl) yd) rfl) ?_
 refine aU (aE (bp rfl rfl (ln _)) (bp (aj (bO (eY rfl rfl) (ml (n:=1000) (by rw[Ya];exact hb) (by decide) rfl) (yd (a:=b) (b:=a))) rfl) rfl (ln _)) rfl rfl rfl ?_)
 show Rs.d (D.int (((lck a b).length:Int)+((lck b a).length:Int)))=_;congr 2
def Gy{φ:D}(hφ:ci φ)(w:WF N ss)(hN:∀x∈N,Nm x)(hNl:N.length<=100):∃(ts:List aI)(φ':D),jW φ [sD ss,.lst (N.map D.str)]=some ((sD ts,false),φ')/\WF N ts/\ci φ':=by
 obtain⟨d,φ1,e1,d0,d1,f1⟩:=b9 (n:=3) hφ (by decide) (by decide)
 by_cases c:d=0
 ·subst c;obtain⟨ts,φ2,e2,h2,h3,f2⟩:=FY f1 (by lia) hN
  refine⟨ts,φ2,?_,⟨h2,h3⟩,f2⟩;refine cC (o:=.rt (.d (sD ts)) [.io φ2,.v (sD ss),.v (.lst (N.map D.str))]) rfl ?_ rfl;exact iV (fS (aQ (aE (bY rfl rfl rfl rfl rfl rfl e1) rfl rfl rfl rfl) rfl) (aU (vO rfl rfl rfl rfl rfl rfl e2)))
 ·obtain⟨us,φ2,e2,w2,f2⟩:=Ic f1 w hN hNl;obtain⟨ts,φ3,e3,h1,_,_,h4,f3⟩:=nq f2 w2.ne (w2.beads hN) (by rw[w2.len];exact hNl)
  refine⟨ts,φ3,?_,⟨h1,(uS w2.ne h1 h4).trans w2.nm⟩,f3⟩;refine cC (o:=.rt (.d (sD ts)) [.io φ3,.v (sD ss),.v (.lst (N.map D.str))]) rfl ?_ rfl;have t:decide (V.int d=V.int 0)=false:=Ag fun z=>c (V.int.inj z);exact aC (cJ (f8 (aQ (aE (bY rfl rfl rfl rfl rfl rfl e1) rfl rfl rfl rfl) rfl) t) rfl) (aU (bY rfl rfl (aj (vO rfl rfl rfl rfl rfl rfl e2) rfl) rfl rfl rfl e3))
end
end
end K34
namespace K34
open PySem L2 VF VL VF22
noncomputable section
structure JS(E:List End)(J:List Jnt):Prop where
 fl:J.flatten.Perm E
 sz:∀j∈J,j.length=1∨j.length=2
 so:∀j∈J,dC j=j
 st:lA J=J
theorem pO{α:Type}:∀{L:List (List α)}{x y:List α}{a:α},L.flatten.Nodup->x∈L->y∈L->a∈x->a∈y->x=y
 | l::r,x,y,a,h,hx,hy,ax,ay=>by
  rw[AO]at h;obtain⟨_,h2,h3⟩:=Vm.mp h;rcases Vd.mp hx with e1|hx'<;>rcases Vd.mp hy with e2|hy'
  ·rw[e1,e2]
  ·exact absurd rfl (h3 a (e1 ▸ ax) a (List.mem_flatten.mpr ⟨_,hy',ay⟩))
  ·exact absurd rfl (h3 a (e2 ▸ ay) a (List.mem_flatten.mpr ⟨_,hx',ax⟩))
  ·exact pO h2 hx' hy' ax ay
theorem uY{α:Type}:∀{L:List (List α)},(∀l∈L,l≠[])->L.length<=L.flatten.length
 | [],_=>Qa _
 | l::r,h=>by
  have:=uY fun x hx=>h x (Vb _ hx);have:=Yh.mpr (h l Wb);rw[AO,Xa,Xd];lia
def pP(l:List Jnt):lA (lA l)=lA l:=lB (fK l).2
def bhd(J g c:List Jnt):List Jnt:=lA (J.filter (fun j=>!decide (j∈g))++c)
section
variable {E:List End}{J T J0 g c:List Jnt}{j k x:Jnt}{a b:End}{gone rest:List (Bool×Jnt)}{N:List Str}{ss:List aI}
def bhd_in:x∈bhd J g c↔(x∈J/\x∉g)∨x∈c:=by
 unfold bhd;rw[(fK _).2.mem_iff,Wc,Ql];simp
def JS.fnd(h:JS E J)(nd:E.Nodup):J.flatten.Nodup:=h.fl.nodup_iff.mpr nd
def JS.ne(h:JS E J)(hj:j∈J):j≠[]:=fun z=>by rcases h.sz j hj with q|q<;>(rw[z]at q;cases q)
theorem JS.nd(h:JS E J)(nd:E.Nodup):J.Nodup:=x9 (h.fnd nd) fun _ hj=>h.ne hj
def JS.has(h:JS E J)(ha:a∈E):∃k∈J,a∈k:=List.mem_flatten.mp (h.fl.mem_iff.mpr ha)
def JS.mem(h:JS E J)(hj:j∈J)(ha:a∈j):a∈E:=h.fl.mem_iff.mp (List.mem_flatten.mpr ⟨j,hj,ha⟩)
def JS.len(h:JS E J):J.length<=E.length:=by rw[← h.fl.length_eq];exact uY fun _ hj=>h.ne hj
def JS.two(h:JS E J)(nd:E.Nodup)(hj:j∈J)(h2:j.length=2):∃a b,j=[a,b]/\a≠b/\dC [a,b]=[a,b]:=by
 obtain⟨a,b,rfl⟩:∃a b,j=[a,b]:=by
  rcases Ig (.inr h2) with⟨a,e⟩|z
  ·rw[e]at h2;cases h2
  ·exact z
 exact⟨a,b,rfl,fun z=>(Zi.mp (yb (h.fnd nd) hj)).1 (by rw[z];exact A6 b),h.so _ hj⟩
def JS.one(h:JS E J)(nd:E.Nodup)(hj:j∈J)(h1:j.length=1)(ha:a∈j):j=[a]:=by
 obtain⟨b,rfl⟩:=List.length_eq_one_iff.mp h1;rw[Va.mp ha]
def JS.move(h:JS E J)(nd:E.Nodup)(hg:∀x∈g,x∈J)(gn:g.Nodup)(hc:c.flatten.Perm g.flatten)(cs:∀j∈c,j.length=1∨j.length=2)(co:∀j∈c,dC j=j):JS E (bhd J g c):=by
 have p1:(J.filter (fun j=>decide (j∈g))).Perm g:=(C9 ((h.nd nd).filter _) gn).mpr fun x=>by
  rw[Ql,decide_eq_true_eq];exact⟨fun z=>z.2,fun z=>⟨hg x z,z⟩⟩
 have p2:=List.filter_append_perm (fun j=>decide (j∈g)) J;refine⟨?_,fun j hj=>?_,fun j hj=>?_,pP _⟩
 ·refine((fK _).2.flatten).trans ?_;rw[Qm];refine B2.trans ((hc.append_right _).trans ?_);refine((p1.symm.flatten).append_right _).trans ?_;rw[← Qm];exact(p2.flatten).trans h.fl
 ·rcases bhd_in.mp hj with q|q
  ·exact h.sz j q.1
  ·exact cs j q
 ·rcases bhd_in.mp hj with q|q
  ·exact h.so j q.1
  ·exact co j q
def Nc{s:aI}{j:Jnt}(h:j∈sj s):j.length=1∨j.length=2:=by
 rcases Wc.mp h with h|h
 ·obtain⟨q,_,rfl⟩:=Xc.mp h;exact .inr (Ls _ _)
 ·unfold sT at h;by_cases c:s.1=true
  ·rw[Ae c]at h;rw[Va.mp h];exact .inr (Ls _ _)
  ·rw[Ak c]at h;rcases Vd.mp h with z|z
   ·rw[z];exact .inl rfl
   ·rw[Va.mp z];exact .inl rfl
def ye(w:WF N ss):JS (N.map zero++N.map one) (jo ss):=⟨sU w.ne w.nm,fun j hj=>by
 obtain⟨s,_,h⟩:=Gx hj;exact Nc h,fun j hj=>by
 obtain⟨s,_,h⟩:=Gx hj
 exact Gw h,pP _⟩
def tg(J T:List Jnt):List (Bool×Jnt):=(lck J T).map (Prod.mk true)++(lck T J).map (Prod.mk false)
def tg_t:(true,j)∈tg J T↔j∈lck J T:=by
 unfold tg;rw[Wc,Xc,Xc]
 exact⟨fun h=>by
  rcases h with⟨x,hx,e⟩|⟨x,hx,e⟩
  ·exact(Prod.mk.inj e).2 ▸ hx
  ·exact absurd (Prod.mk.inj e).1 (by decide),fun h=>.inl ⟨j,h,rfl⟩⟩
def tg_f:(false,j)∈tg J T↔j∈lck T J:=by
 unfold tg;rw[Wc,Xc,Xc]
 exact⟨fun h=>by
  rcases h with⟨x,hx,e⟩|⟨x,hx,e⟩
  ·exact absurd (Prod.mk.inj e).1 (by decide)
  ·exact(Prod.mk.inj e).2 ▸ hx,fun h=>.inr ⟨j,h,rfl⟩⟩
def Jt(hJ:J.Nodup)(hT:T.Nodup):(tg J T).Nodup:=by
 have f:∀{a b:List Jnt},a.Nodup->(lck a b).Nodup:=fun h=>(h.filter _).filter _;refine Vm.mpr ⟨pN (fun a b e=>(Prod.mk.inj e).2) (f hJ),pN (fun a b e=>(Prod.mk.inj e).2) (f hT),fun a ha b hb e=>?_⟩;obtain⟨x,_,rfl⟩:=Xc.mp ha;obtain⟨y,_,rfl⟩:=Xc.mp hb;exact absurd (Prod.mk.inj e).1 (by decide)
def wq{A B:List Jnt}(e:A.map (Prod.mk true)++B.map (Prod.mk false)=gone++(false,j)::rest)(hx:x∈A):(true,x)∈gone:=by
 have hm:(true,x)∈A.map (Prod.mk true):=List.mem_map_of_mem hx;rcases List.append_eq_append_iff.mp e with⟨as,e1,e2⟩|⟨bs,e1,e2⟩
 ·rw[e1];exact Wh _ hm
 ·cases bs with
  | nil=>rw[Vc]at e1;rw[← e1];exact hm
  | cons y r =>
   have ey:(false,j)=y:=(List.cons.inj e2).1;have:(false,j)∈A.map (Prod.mk true):=by rw[e1,ey];simp
   obtain⟨z,_,ez⟩:=Xc.mp this;exact absurd (Prod.mk.inj ez).1 (by decide)
structure Way(E:List End)(J0 T:List Jnt)(gone:List (Bool×Jnt))(J:List Jnt):Prop where
 js:JS E J
 pr:∀x:Jnt,x.length=2->(x∈J↔(x∈J0/\(true,x)∉gone)∨(false,x)∈gone)
def Np(h:JS E J0):Way E J0 T [] J0:=⟨h,fun x _=>by simp⟩
def uZ{α:Type}{x:α}{p q:List α}(h:(p++x::q).Nodup):x∉p:=fun hx=>(Vm.mp h).2.2 x hx x Wb rfl
def Gz(nd:E.Nodup)(h0:JS E J0)(hT:JS E T)(w:Way E J0 T gone J)(e:tg J0 T=gone++(true,j)::rest) :
  ∃a b,j=[a,b]/\j∈lck J T/\Way E J0 T (gone++[(true,j)]) (bhd J [[a,b]] [[a],[b]]):=by
 have hn:=Jt (h0.nd nd) (hT.nd nd);have hj:j∈lck J0 T:=tg_t.mp (by rw[e];simp)
 obtain⟨m1,m2,m3⟩:=lck_in.mp hj;rw[e]at hn;have hJ:j∈J:=(w.pr j m2).mpr (.inl ⟨m1,uZ hn⟩);obtain⟨a,b,rfl,ab,so⟩:=h0.two nd m1 m2;refine⟨a,b,rfl,lck_in.mpr ⟨hJ,rfl,m3⟩,?_,fun x h2=>?_⟩
 ·refine w.js.move nd (fun x hx=>by rw[Va.mp hx];exact hJ) (by simp) (List.Perm.refl _) ?_ ?_
  ·intro j hj;rcases Vd.mp hj with z|z
   ·rw[z];exact .inl rfl
   ·rw[Va.mp z];exact .inl rfl
  ·intro j hj;rcases Vd.mp hj with z|z
   ·rw[z];exact mr _
   ·rw[Va.mp z];exact mr _
 ·have hc:x∉[[a],[b]]:=fun z=>by
   rcases Vd.mp z with z|z
   ·rw[z]at h2;cases h2
   ·rw[Va.mp z]at h2;cases h2
  rw[bhd_in,w.pr x h2];constructor
  ·rintro(⟨z|z,n⟩|z)
   ·refine .inl ⟨z.1,fun q=>?_⟩;rcases Wc.mp q with q|q
    ·exact z.2 q
    ·exact n (by rw[(Prod.mk.inj (Va.mp q)).2];simp)
   ·exact .inr (Wh _ z)
   ·exact absurd z hc
  ·rintro(⟨z1,z2⟩|z)
   ·exact .inl ⟨.inl ⟨z1,fun q=>z2 (Wh _ q)⟩,fun q=>z2 (by rw[Va.mp q];simp)⟩
   ·rcases Wc.mp z with z|z
    ·refine .inl ⟨.inr z,fun q=>m3 ?_⟩;have:(false,x)∈tg J0 T:=by rw[e];exact Wh _ z
     rw[← Va.mp q];exact(lck_in.mp (tg_f.mp this)).1
    ·exact absurd (Prod.mk.inj (Va.mp z)).1 (by decide)
def zz(nd:E.Nodup)(h0:JS E J0)(hT:JS E T)(w:Way E J0 T gone J)(e:tg J0 T=gone++(false,j)::rest) :
  ∃a b,j=[a,b]/\j∈T/\[a]∈J/\[b]∈J/\Way E J0 T (gone++[(false,j)]) (bhd J [[a],[b]] [[a,b]]):=by
 have hn:=Jt (h0.nd nd) (hT.nd nd);have hj:j∈lck T J0:=tg_f.mp (by rw[e];simp)
 obtain⟨m1,m2,m3⟩:=lck_in.mp hj;rw[e]at hn;have free:∀a∈j,[a]∈J:=fun a ha=>by
  obtain⟨k,hk,ak⟩:=w.js.has (hT.mem m1 ha);rcases w.js.sz k hk with z|z
  ·rw[← w.js.one nd hk z ak];exact hk
  ·have kT:k∈T:=by
    rcases(w.pr k z).mp hk with⟨q1,q2⟩|q
    ·by_cases c:k∈T
     ·exact c
     ·exact absurd (wq e (lck_in.mpr ⟨q1,z,c⟩)) q2
    ·have:(false,k)∈tg J0 T:=by rw[e];exact Wh _ q
     exact(lck_in.mp (tg_f.mp this)).1
   have kj:k=j:=pO (hT.fnd nd) kT m1 ak ha;rw[kj]at hk;rcases(w.pr j m2).mp hk with⟨q1,_⟩|q
   ·exact absurd q1 m3
   ·exact absurd q (uZ hn)
 obtain⟨a,b,rfl,ab,so⟩:=hT.two nd m1 m2;have fa:=free a (by simp)
 have fb:=free b (by simp)
 refine⟨a,b,rfl,m1,fa,fb,?_,fun x h2=>?_⟩
 ·refine w.js.move nd (fun x hx=>?_) (by simp[ab]) (List.Perm.refl _) ?_ ?_
  ·rcases Vd.mp hx with z|z
   ·rw[z];exact fa
   ·rw[Va.mp z];exact fb
  ·intro j hj;rw[Va.mp hj];exact .inr rfl
  ·intro j hj;rw[Va.mp hj];exact so
 ·have hc:x∉[[a],[b]]:=fun z=>by
   rcases Vd.mp z with z|z
   ·rw[z]at h2;cases h2
   ·rw[Va.mp z]at h2;cases h2
  rw[bhd_in,w.pr x h2];constructor
  ·rintro(⟨z|z,n⟩|z)
   ·refine .inl ⟨z.1,fun q=>?_⟩;rcases Wc.mp q with q|q
    ·exact z.2 q
    ·exact absurd (Prod.mk.inj (Va.mp q)).1 (by decide)
   ·exact .inr (Wh _ z)
   ·exact .inr (by rw[Va.mp z];simp)
  ·rintro(⟨z1,z2⟩|z)
   ·exact .inl ⟨.inl ⟨z1,fun q=>z2 (Wh _ q)⟩,hc⟩
   ·rcases Wc.mp z with z|z
    ·exact .inl ⟨.inr z,hc⟩
    ·exact .inr (by rw[(Prod.mk.inj (Va.mp z)).2];simp)
def Iu(nd:E.Nodup)(h0:JS E J0)(hT:JS E T)(w:Way E J0 T (tg J0 T) J):J=T:=by
 have pr:∀x:Jnt,x.length=2->(x∈J↔x∈T):=fun x h2=>by
  rw[w.pr x h2,tg_t,tg_f,lck_in,lck_in];by_cases c1:x∈J0<;>by_cases c2:x∈T<;>simp[c1,c2,h2]
 have one:∀{A B:List Jnt},JS E A->JS E B->(∀x:Jnt,x.length=2->(x∈A↔x∈B))->∀x∈A,x∈B:=fun {A B} hA hB h x hx=>by
  rcases hA.sz x hx with z|z
  ·obtain⟨a,rfl⟩:=List.length_eq_one_iff.mp z;obtain⟨k,hk,ak⟩:=hB.has (hA.mem hx (A6 a));rcases hB.sz k hk with q|q
   ·rw[← hB.one nd hk q ak];exact hk
   ·have:=pO (hA.fnd nd) ((h k q).mpr hk) hx ak (A6 a);rw[this]at q;cases q
  ·exact(h x z).mp hx
 have pm:J.Perm T:=(C9 (w.js.nd nd) (hT.nd nd)).mpr fun x=>⟨one w.js hT pr x,one hT w.js (fun y hy=>(pr y hy).symm) x⟩;rw[← w.js.st,← hT.st];exact lB pm
end
end
end K34
namespace K34
open PySem L2 VF VL VF22
noncomputable section
def zF(xs:List D):ik [.tup xs]=some (.lst xs,true):=rfl
def GA(j:Jnt)(b:List Jnt):vS (jD j) (.tup (b.map jD))=some (.bl (decide (j∈b)),false):=by
 have e1:bIn (jD j) (.tup (b.map jD))=none:=rfl;unfold vS orD;rw[e1];unfold vR;dsimp only[D.seq];have dc:∀i:Decidable (jD j∈b.map jD),@decide _ i=decide (j∈b):=fun i=>by rw[Zf,decide_eq_true_eq,decide_eq_true_eq];exact Gs
 rw[Ae ⟨g9 37 j,fun d hd=>by obtain⟨k,_,rfl⟩:=Xc.mp hd;exact g9 37 k⟩,dc]
 rfl
def zG{J g c:List Jnt}(hl:J.length<=1000)(hc:c.length<=1000)(ne:∀j∈J,j≠[])(nc:∀j∈c,j≠[]):jc [.tup (J.map jD),.tup [.tup (g.map jD),.tup (c.map jD)]]=some (.tup ((bhd J g c).map jD),false):=by
 have ec:cG (gN 0) gL gM 1 (J.map jD) [.e,.v (.tup [.tup (g.map jD),.tup (c.map jD)])]=some ((J.filter (fun j=>!decide (j∈g))).map jD,[.e,.v (.tup [.tup (g.map jD),.tup (c.map jD)])]) :=
  eJ (fg:=gN 0) (fc:=gL) (fe:=gM) (k:=1) jD jD (fun j=>!decide (j∈g)) [.e,.v (.tup [.tup (g.map jD),.tup (c.map jD)])] J fun j _ =>
   ⟨[.v (jD j),.v (.tup [.tup (g.map jD),.tup (c.map jD)])],[.v (jD j),.v (.tup [.tup (g.map jD),.tup (c.map jD)])],rfl,aQ (aE rfl (aE rfl rfl rfl rfl (dL (i:=0) rfl)) rfl rfl (j6 j g)) rfl,fun _=>rfl,fun _=>⟨.d (jD j),[.v (jD j),.v (.tup [.tup (g.map jD),.tup (c.map jD)])],[.v (jD j),.v (.tup [.tup (g.map jD),.tup (c.map jD)])],rfl,rfl,rfl⟩⟩
 have hf:(J.filter (fun j=>!decide (j∈g))).length<=1000:=Zd (Zh _ _) hl;refine aW (o:=.rt (.d (.tup ((bhd J g c).map jD))) [.v (.tup (J.map jD)),.v (.tup [.tup (g.map jD),.tup (c.map jD)])]) rfl ?_ rfl;refine aU (bp (aj (bp (aj (aE (bO (eY rfl rfl) (ml (n:=1000) (by rw[Ya];exact hl) (by decide) rfl) ec) (bp (aj (aE rfl rfl rfl rfl (dL (i:=1) rfl)) rfl) rfl (zF _)) rfl rfl (ua (by rw[Ya,Ya];lia))) rfl) rfl (mT (J.filter (fun j=>!decide (j∈g))++c) (fun j hj=>?_) (by rw[Zc];rfl))) rfl) rfl (FW _))
 rcases Wc.mp hj with z|z
 ·exact ne j (Ql.mp z).1
 ·exact nc j z
def jn1(J:List Jnt):Jnt->Bool
 | [a,b]=>decide ([a]∈J)&&decide ([b]∈J)
 | _=>false
def gdl(J T:List Jnt):List D:=(lck J T).map j7++(T.filter (jn1 J)).map hU
def Iv(p q b:List Jnt):lck (p++q) b=lck p b++lck q b:=by unfold lck prs;rw[Cu,Cu]
def yf{xs:List D}{y:D}{n:Nat}(h:xs.length<=n)(hn:n<1000000:=by decide):bw (.lst xs) [y]=some (.non,.lst (xs++[y])):=dR (by lia)
theorem Nd{J T:List Jnt}{F:List D}(hF:F.length<=2000)(j:Jnt):jd [.v (.tup (J.map jD)),.v (.tup (T.map jD)),.o (.lst F),.v (jD j)]=some (.nx [.v (.tup (J.map jD)),.v (.tup (T.map jD)),.o (.lst (F++(lck [j] T).map j7)),.v (jD j)]):=by
 have t:=wp j (st:=[.v (.tup (J.map jD)),.v (.tup (T.map jD)),.o (.lst F),.v (jD j)]) (fe:=fCB cA (ac (ag 3) ai)) (bp rfl rfl (wn j));cases c:decide (j.length=2) with
 | false =>
  rw[c]at t;have e:lck [j] T=[]:=by unfold lck prs;rw[Xj,Ak (by rw[c];decide)];rfl
  rw[e,AV,Vc];exact cJ (jm t) rfl
 | true =>
  rw[c]at t;by_cases d:j∈T
  ·have e:lck [j] T=[]:=by unfold lck prs;rw[Xj,Ae c,Xj,Ak (by simp[d])];rfl
   rw[e,AV,Vc];exact cJ (f8 (fT t (aQ (aE rfl rfl rfl rfl (j6 j T)) rfl)) (by simp[d])) rfl
  ·have e:lck [j] T=[j]:=by unfold lck prs;rw[Xj,Ae c,Xj,Ae (by simp[d])];rfl
   rw[e];obtain⟨a,b,rfl⟩:∃a b,j=[a,b]:=by
    rcases Ig (.inr (Am c)) with⟨a,q⟩|z
    ·rw[q]at c;cases c
    ·exact z
   refine fS (f8 (fT t (aQ (aE rfl rfl rfl rfl (j6 [a,b] T)) rfl)) (by simp[d])) ?_
   exact ce (f6 rfl rfl rfl (aj (bq (aj (bq rfl rfl (by show 1<=1000000;decide)) (aj (bq (aj (bq (aj (aE rfl rfl rfl rfl (Ih a [b])) rfl) rfl (by show 1<=1000000;decide)) (aj (bq (aj (aE rfl rfl rfl rfl (Ii a b [])) rfl) rfl (by show 1<=1000000;decide)) rfl)) rfl (by show 2<=1000000;decide)) rfl)) rfl (by show 2<=1000000;decide)) rfl) rfl rfl rfl (yf hF))
def good2{J T:List Jnt}{F:List D}(hF:F.length<=2000)(j:Jnt)(hj:j.length=1∨j.length=2):je [.v (.tup (J.map jD)),.v (.tup (T.map jD)),.o (.lst F),.v (jD j)]=some (.nx [.v (.tup (J.map jD)),.v (.tup (T.map jD)),.o (.lst (F++([j].filter (jn1 J)).map hU)),.v (jD j)]):=by
 have t:=wp j (st:=[.v (.tup (J.map jD)),.v (.tup (T.map jD)),.o (.lst F),.v (jD j)]) (fe:=fCB cA (ac (ag 3) ai)) (bp rfl rfl (wn j));rcases Ig hj with⟨a,rfl⟩|⟨a,b,rfl⟩
 ·have e:[[a]].filter (jn1 J)=[]:=rfl;rw[e,AV,Vc];exact cJ (jm t) rfl
 ·have ta:aH (fOp vS (bQ (ac (fOp bIx (ag 3) (fC (.int 0))) ai)) (ag 0)) [.v (.tup (J.map jD)),.v (.tup (T.map jD)),.o (.lst F),.v (jD [a,b])]=some (decide ([a]∈J),[.v (.tup (J.map jD)),.v (.tup (T.map jD)),.o (.lst F),.v (jD [a,b])]) :=
   aQ (aE (bq (aj (aE rfl rfl rfl rfl (Ih a [b])) rfl) rfl (by show 1<=1000000;decide)) rfl rfl rfl (GA [a] J)) rfl
  have tb:aH (fOp vS (bQ (ac (fOp bIx (ag 3) (fC (.int 1))) ai)) (ag 0)) [.v (.tup (J.map jD)),.v (.tup (T.map jD)),.o (.lst F),.v (jD [a,b])]=some (decide ([b]∈J),[.v (.tup (J.map jD)),.v (.tup (T.map jD)),.o (.lst F),.v (jD [a,b])]) :=
   aQ (aE (bq (aj (aE rfl rfl rfl rfl (Ii a b [])) rfl) rfl (by show 1<=1000000;decide)) rfl rfl rfl (GA [b] J)) rfl
  by_cases ca:[a]∈J
  ·rw[Af ca]at ta;by_cases cb:[b]∈J
   ·rw[Af cb]at tb;have e:[[a,b]].filter (jn1 J)=[[a,b]]:=by
     rw[Xj,Ae (by show(decide ([a]∈J)&&decide ([b]∈J))=true;rw[Af ca,Af cb];rfl)];rfl
    rw[e];refine fS (fT t (fT ta tb)) ?_;exact ce (f6 rfl rfl rfl (aj (bq (aj (bq (aj (bq (aj (aE rfl rfl rfl rfl (Ih a [b])) rfl) rfl (by show 1<=1000000;decide)) (aj (bq (aj (aE rfl rfl rfl rfl (Ii a b [])) rfl) rfl (by show 1<=1000000;decide)) rfl)) rfl (by show 2<=1000000;decide)) (aj (bq rfl rfl (by show 1<=1000000;decide)) rfl)) rfl (by show 2<=1000000;decide)) rfl) rfl rfl rfl (yf hF))
   ·rw[Ag cb]at tb;have e:[[a,b]].filter (jn1 J)=[]:=by
     rw[Xj,Ak (by show ¬ (decide ([a]∈J)&&decide ([b]∈J))=true;rw[Ag cb,Df];decide)];rfl
    rw[e,AV,Vc];exact cJ (fT t (fT ta tb)) rfl
  ·rw[Ag ca]at ta;have e:[[a,b]].filter (jn1 J)=[]:=by
    rw[Xj,Ak (by show ¬ (decide ([a]∈J)&&decide ([b]∈J))=true;rw[Ag ca,Bool.false_and];decide)];rfl
   rw[e,AV,Vc];exact cJ (fT t (jm ta)) rfl
def Iw{J T:List Jnt}(hJ:J.length<=1000)(hT:T.length<=1000)(sz:∀j∈T,j.length=1∨j.length=2):ll [.tup (J.map jD),.tup (T.map jD)]=some (.lst (gdl J T),true):=by
 have l1:∀g:List Jnt,(lck g T).length<=g.length:=fun g=>Zd (Zh _ _) (Zh _ _);obtain⟨sf,e1,s3,rfl,q3⟩:=cT (fg:=gN 3) (B:=jd) jD J
  (fun gone st=>∃s3:Sl,st=[.v (.tup (J.map jD)),.v (.tup (T.map jD)),.o (.lst ((lck gone T).map j7)),s3]/\s3.isIo=false)
  (by
   rintro gone j rest st ha ⟨s3,rfl,q3⟩;have hg:gone.length<=1000:=by rw[ha,Xa]at hJ;lia
   refine⟨_,_,bE rfl q3,Nd (by rw[Ya];have:=l1 gone;lia) j,.v (jD j),?_,rfl⟩
   rw[Iv,Zc])
  J [] [.v (.tup (J.map jD)),.v (.tup (T.map jD)),.o (.lst []),.e] rfl ⟨.e,rfl,rfl⟩
 obtain⟨sg,e2,s4,rfl,q4⟩:=cT (fg:=gN 3) (B:=je) jD T
  (fun gone st=>∃s3:Sl,st=[.v (.tup (J.map jD)),.v (.tup (T.map jD)),.o (.lst ((lck J T).map j7++(gone.filter (jn1 J)).map hU)),s3]/\s3.isIo=false)
  (by
   rintro gone j rest st ha ⟨s3,rfl,q3⟩;have hm:j∈T:=by rw[ha];simp
   have hg:gone.length<=1000:=by rw[ha,Xa]at hT;lia
   have hf:(gone.filter (jn1 J)).length<=gone.length:=Zh _ _;refine⟨_,_,bE rfl q3,good2 (by rw[Xa,Ya,Ya];have:=l1 J;lia) j (sz j hm),.v (jD j),?_,rfl⟩
   rw[Cu,Zc,Yc])
  T [] [.v (.tup (J.map jD)),.v (.tup (T.map jD)),.o (.lst ((lck J T).map j7)),s3] rfl ⟨s3,by rw[List.filter_nil,AV,Vc],q3⟩
 refine aW (o:=.rt (.s 2) [.v (.tup (J.map jD)),.v (.tup (T.map jD)),.o (.lst (gdl J T)),s4]) rfl ?_ rfl;exact aC (s:=[.v (.tup (J.map jD)),.v (.tup (T.map jD)),.o (.lst []),.e]) rfl (aC (eI (eY rfl rfl) e1) (aC (eI (eY rfl rfl) e2) (aU rfl)))
end
end K34
namespace K34
open PySem L2 VF VL VF22
noncomputable section
def dD:Bool×Jnt->D
 | (true,j)=>j7 j
 | (false,j)=>hU j
def wr(J T:List Jnt):(tg J T).map dD=(lck J T).map j7++(lck T J).map hU:=by
 unfold tg;rw[Zc,Vg,Vg];rfl
def LH(J T:List Jnt):((tg J T).map dD).length=far J T:=by rw[wr,Xa,Ya,Ya];rfl
def qp{P:D->Prop}{x y:D}(h1:P x)(h2:P y):∀d∈[x,y],P d:=fun d hd=>by
 rcases Vd.mp hd with z|z
 ·rw[z];exact h1
 ·rw[Va.mp z];exact h2
def GB{P:D->Prop}{x:D}(h1:P x):∀d∈[x],P d:=fun d hd=>by rw[Va.mp hd];exact h1
def GC(j:Jnt):Pl 40 (j7 j):=by
 unfold j7;split
 ·exact .tup (qp (.tup (GB (g9 35 _))) (.tup (qp (g9 35 _) (g9 35 _))))
 ·exact .non _
def yg(j:Jnt):Pl 40 (hU j):=by
 unfold hU;split
 ·exact .tup (qp (.tup (qp (g9 35 _) (g9 35 _))) (.tup (GB (g9 35 _))))
 ·exact .non _
def GD{J T:List Jnt}:∀d∈gdl J T,Pl 40 d:=fun d hd=>by
 rcases Wc.mp hd with z|z
 ·obtain⟨j,_,rfl⟩:=Xc.mp z;exact GC j
 ·obtain⟨j,_,rfl⟩:=Xc.mp z;exact yg j
def GE(n:Nat)(e:End):Dp (n+2) (eD e):=.tup (by show 2<=1000000;decide) (qp (.str _ _) (.int _ _))
def sY(n:Nat)(a:End):Dp (n+3) (jD [a]):=.tup (by show 1<=1000000;decide) (GB (GE n a))
def GF(n:Nat)(a b:End):Dp (n+3) (jD [a,b]):=.tup (by show 2<=1000000;decide) (qp (GE n a) (GE n b))
def GG(n:Nat)(x:Bool×Jnt):Dp (n+5) (dD x):=by
 obtain⟨t,j⟩:=x;cases t
 ·show Dp (n+5) (hU j);unfold hU;split
  ·exact .tup (by show 2<=1000000;decide) (qp (.tup (by show 2<=1000000;decide) (qp (sY n _) (sY n _))) (.tup (by show 1<=1000000;decide) (GB (GF n _ _))))
  ·exact .non _
 ·show Dp (n+5) (j7 j);unfold j7;split
  ·exact .tup (by show 2<=1000000;decide) (qp (.tup (by show 1<=1000000;decide) (GB (GF n _ _))) (.tup (by show 2<=1000000;decide) (qp (sY n _) (sY n _))))
  ·exact .non _
def zH{ds:List D}{js ks:List Jnt}(p2:∀d∈ds,Pl 40 d)(p1:Pl 40 (.tup [.tup (js.map jD),.tup (ks.map jD)]))(h:D.tup [.tup (js.map jD),.tup (ks.map jD)]∈ds):eZ (.tup [.tup (js.map jD),.tup (ks.map jD)]) (.lst ds)=some (.bl false,false):=by
 have e1:jG (.tup [.tup (js.map jD),.tup (ks.map jD)]) (.lst ds)=none:=rfl;unfold eZ orD;rw[e1];unfold vR;dsimp only[D.seq];rw[Ae ⟨p1,p2⟩];simp[h]
def LI(T:List Jnt):sh (.tup (T.map jD)) (.tup (T.map jD))=some (.bl true,false):=by
 have e1:bEq (.tup (T.map jD)) (.tup (T.map jD))=none:=rfl;have p:Pl 40 (.tup (T.map jD)):=sX T;unfold sh orD;rw[e1];unfold t7;rw[Ae ⟨p,p⟩];simp
section
variable {E:List End}{J0 T:List Jnt}
def u3{J g c:List Jnt}{S:D}{s4:Sl}(hE:E.length<=1000)(hJ:JS E J)(hT:JS E T)(hm:D.tup [.tup (g.map jD),.tup (c.map jD)]∈gdl J T)(p:Pl 40 (.tup [.tup (g.map jD),.tup (c.map jD)]))(dp:Dp 8 (.tup [.tup (g.map jD),.tup (c.map jD)]))(hc:c.length<=1000)(nc:∀j∈c,j≠[])(q:s4.isIo=false) :
  iw [.v S,.v (.tup (J.map jD)),.v (.tup (T.map jD)),.v (.tup [.tup (g.map jD),.tup (c.map jD)]),s4]=some (.nx [.v S,.v (.tup ((bhd J g c).map jD)),.v (.tup (T.map jD)),.v (.tup [.tup (g.map jD),.tup (c.map jD)]),.o (.lst (gdl J T))]):=by
 have lJ:=Zd hJ.len hE;have lT:=Zd hT.len hE;refine aC (s:=[.v S,.v (.tup (J.map jD)),.v (.tup (T.map jD)),.v (.tup [.tup (g.map jD),.tup (c.map jD)]),.o (.lst (gdl J T))]) (eX (aZ rfl rfl (Iw lJ lT hT.sz)) (bE rfl q)) ?_
 refine aC (cJ (s:=[.v S,.v (.tup (J.map jD)),.v (.tup (T.map jD)),.v (.tup [.tup (g.map jD),.tup (c.map jD)]),.o (.lst (gdl J T))]) (oK (aQ (aE rfl rfl rfl rfl (zH GD p hm)) rfl)
  (im (aQ (bD (aj rfl (aj (aE rfl (Je rfl rfl rfl rfl rfl rfl (Fz p GD hm)) rfl rfl (jg (iN (Fy hm).2))) rfl)) rfl (iU dp) rfl) rfl))) rfl) ?_
 exact db (aZ rfl rfl (zG lJ hc (fun _ h=>hJ.ne h) nc)) rfl
def GH(nd:E.Nodup)(hE:E.length<=1000)(h0:JS E J0)(hT:JS E T):eP [.lst ((tg J0 T).map dD),.tup (J0.map jD),.tup (T.map jD)]=some (.bl true,false):=by
 generalize hS:D.lst ((tg J0 T).map dD)=S;obtain⟨sf,e,J,s3,s4,rfl,w,q3,q4⟩:=cT (fg:=gN 3) (B:=iw) dD (tg J0 T)
  (fun gone st=>∃(J:List Jnt)(s3 s4:Sl),st=[.v S,.v (.tup (J.map jD)),.v (.tup (T.map jD)),s3,s4]/\Way E J0 T gone J/\s3.isIo=false/\s4.isIo=false)
  (by
   rintro gone ⟨t,j⟩ rest st ha ⟨J,s3,s4,rfl,w,q3,q4⟩;cases t with
   | true =>
    obtain⟨a,b,rfl,hm,w'⟩:=Gz nd h0 hT w ha;refine⟨_,_,bE rfl q3,u3 (g:=[[a,b]]) (c:=[[a],[b]]) hE w.js hT (Wh _ (Xc.mpr ⟨_,hm,rfl⟩)) (GC [a,b]) (GG 3 (true,[a,b])) (by show 2<=1000;decide) ?_ q4,_,_,_,rfl,w',rfl,rfl⟩
    intro j hj z;rw[z]at hj;simp at hj
   | false =>
    obtain⟨a,b,rfl,hm,ha,hb,w'⟩:=zz nd h0 hT w ha;refine⟨_,_,bE rfl q3,u3 (g:=[[a],[b]]) (c:=[[a,b]]) hE w.js hT (Xg _ (Xc.mpr ⟨[a,b],Ql.mpr ⟨hm,?_⟩,rfl⟩)) (yg [a,b]) (GG 3 (false,[a,b])) (by show 1<=1000;decide) ?_ q4,_,_,_,rfl,w',rfl,rfl⟩
    ·show(decide ([a]∈J)&&decide ([b]∈J))=true;rw[Af ha,Af hb];rfl
    ·intro j hj z;rw[z]at hj
     simp at hj)
  (tg J0 T) [] [.v S,.v (.tup (J0.map jD)),.v (.tup (T.map jD)),.e,.e] rfl ⟨J0,.e,.e,rfl,Np h0,rfl,rfl⟩
 obtain rfl:=Iu nd h0 hT w;have lJ:=Zd h0.len hE;have lT:=Zd hT.len hE;have ln:cA [S]=some (.int (far J0 J:Nat),false):=by
  rw[← hS,← LH];rfl
 have is:aH (fCB b7 (ac (ag 0) (ac (fC (.ty "list")) ai))) [.v S,.v (.tup (J0.map jD)),.v (.tup (J.map jD)),.e,.e]=some (true,[.v S,.v (.tup (J0.map jD)),.v (.tup (J.map jD)),.e,.e]):=by rw[← hS];rfl
 refine aW (o:=.rt (.d (.bl true)) [.v S,.v (.tup (J.map jD)),.v (.tup (J.map jD)),s3,s4]) rfl ?_ rfl;refine aC (cJ (s:=[.v S,.v (.tup (J0.map jD)),.v (.tup (J.map jD)),.e,.e]) (oK (im is) (aQ (aE (bp rfl rfl ln) (bD rfl rfl (zy lJ lT) rfl) rfl rfl (uT _)) rfl)) rfl) ?_;refine aC (eI (jn rfl (by rw[← hS];rfl)) e) ?_
 exact aU (aE rfl rfl rfl rfl (LI J))
end
section
variable {N:List Str}{ss ts us:List aI}
def wt(w:WF N ss)(w':WF N ts)(nd:N.Nodup)(hN:∀x∈N,Nm x)(hNl:N.length<=100):fI [sD ss,sD ts]=some (.lst ((tg (jo ss) (jo ts)).map dD),true):=by
 have h1:=mW w hNl;have h2:=mW w' hNl;have f:∀{a b:List Jnt},a.length<=1000->(lck a b).length<=1000:=fun h=>Zd (Zh _ _) (Zd (Zh _ _) h);have l1:=f (b:=jo ts) h1;have l2:=f (b:=jo ss) h2;refine aW (o:=.rt (.f (.lst ((tg (jo ss) (jo ts)).map dD))) [.v (sD ss),.v (sD ts),.v (.tup [.lst ((lck (jo ss) (jo ts)).map j7),.lst ((lck (jo ts) (jo ss)).map hU)])]) rfl ?_ rfl;rw[wr];refine aC (db (aZ rfl rfl (Ir w w' nd hN hNl)) rfl) ?_;exact aU (aE (aE rfl rfl rfl rfl (dL (i:=0) rfl)) (aE rfl rfl rfl rfl (dL (i:=1) rfl)) rfl rfl (ua (by rw[Ya,Ya];lia)))
end
end
end K34
namespace K34
open PySem L2 VF VL VF22
noncomputable section
def jT(ss:List aI):D:=.tup ((jo ss).map jD)
def Ix(J:List Jnt):tg J J=[]:=by
 have:lck J J=[]:=List.eq_nil_iff_forall_not_mem.mpr fun j hj=>by
  obtain⟨h1,_,h2⟩:=lck_in.mp hj;exact h2 h1
 unfold tg;rw[this];rfl
def Nf:xM (.bl true,false):=.inl ⟨rfl,.bl true⟩
def Iy(ns:List Int):bC Jp 9 1 [.fl (ns.map D.int)]=some (.bl true,false):=by
 have f0:ci (Fl ns 0 0 1 0):=⟨ns,0,0,1,0,rfl,by decide,by decide,by decide,by decide⟩
 obtain⟨d1,φ1,e1,d10,d11,f1⟩:=b9 (n:=13) f0 (by decide) (by decide)
 generalize hS:D.fl (ns.map D.int)=S;obtain⟨n,rfl⟩:=BO d10;obtain⟨N,φ2,e2,hxl,nm,nd,f2⟩:=FV (n:=(n:Int)) f1 (by lia) (by lia)
 have hNl:N.length<=100:=by lia
 obtain⟨s0,φ3,e3,h31,h32,f3⟩:=FY f2 (by lia) nm
 have w0:WF N s0:=⟨h31,h32⟩;obtain⟨s1,φ4,e4,w1,f4⟩:=Gy f3 w0 nm hNl;obtain⟨s2,φ5,e5,h51,h52,h53,h54,f5⟩:=nq f4 w1.ne (w1.beads nm) (by rw[w1.len];exact hNl)
 have w2:WF N s2:=⟨h51,(uS w1.ne h51 h54).trans w1.nm⟩;have j2:jo s2=jo s1:=lB h54;have jj:∀{s:List aI},WF N s->ft [sD s]=some (jT s,false):=fun w=>wm w.ne (w.beads nm) (by rw[w.len];exact hNl)
 have ndE:=yc nd;have lE:(N.map zero++N.map one).length<=1000:=by rw[Xa,Ya,Ya];lia
 have lt:∀s t:List aI,WF N s->WF N t->((tg (jo s) (jo t)).map dD).length<=5000:=fun s t w w'=>by
  have h1:=mW w hNl;have h2:=mW w' hNl;have f:∀a b:List Jnt,(lck a b).length<=a.length:=fun a b=>Zd (Zh _ _) (Zh _ _);have:=f (jo s) (jo t);have:=f (jo t) (jo s);rw[wr,Xa,Ya,Ya];lia
 have dpL:∀l:List (Bool×Jnt),(l.map dD).length<=5000->Dp 8 (.lst (l.map dD)):=fun l h=>.lst (by lia) fun d hd=>by
  obtain⟨x,_,rfl⟩:=Xc.mp hd;exact GG 2 x
 have r01:=wt w0 w1 nd nm hNl;have r10:=wt w1 w0 nd nm hNl;have r12:fI [sD s1,sD s2]=some (.lst [],true):=by
  rw[wt w1 w2 nd nm hNl,j2,Ix];rfl
 have g01:eP [.lst ((tg (jo s0) (jo s1)).map dD),jT s0,jT s1]=some (.bl true,false):=GH ndE lE (ye w0) (ye w1);have g10:eP [.lst ((tg (jo s1) (jo s0)).map dD),jT s1,jT s0]=some (.bl true,false):=GH ndE lE (ye w1) (ye w0);have l01:=lt s0 s1 w0 w1;have dp0:=dpL _ l01;generalize hR:(tg (jo s0) (jo s1)).map dD=R at r01 g01 l01 dp0;have pt:lN (.lst (R++[D.non])) (.int 0) .non=some (.lst ((R++[D.non]).set 0 .non)):=by
  show(ixN (R++[D.non]).length 0).bind _=_;have:ixN (R++[D.non]).length 0=some 0:=by
   unfold ixN;rw[Ae (by decide),Ae (by rw[Xa];simp)];rfl
  rw[this];rfl
 refine aW (o:=.rt (.d (.bl true)) [.v S,.o φ5,.v (.lst (N.map D.str)),.v (sD s0),.v (sD s1),.v (jT s0),.v (jT s1),.o (.lst ((R++[D.non]).set 0 .non)),.o (.lst R)]) rfl ?_ rfl;refine aC (s:=[.v S,.o (Fl ns 0 0 1 0),.e,.e,.e,.e,.e,.e,.e]) (eX (aZ rfl rfl (hS ▸ HV ns)) rfl) ?_;refine aC (s:=[.v S,.o φ2,.o (.lst (N.map D.str)),.e,.e,.e,.e,.e,.e]) (eX (bY rfl rfl (aj (bY rfl rfl rfl rfl rfl rfl e1) rfl) rfl rfl rfl e2) rfl) ?_;refine aC (s:=[.v S,.o φ3,.v (.lst (N.map D.str)),.v (sD s0),.e,.e,.e,.e,.e]) (db (vO rfl rfl rfl rfl rfl rfl e3) rfl) ?_;refine aC (s:=[.v S,.o φ4,.v (.lst (N.map D.str)),.v (sD s0),.v (sD s1),.e,.e,.e,.e]) (db (bY rfl rfl rfl rfl rfl rfl e4) rfl) ?_;refine aC (s:=[.v S,.o φ4,.v (.lst (N.map D.str)),.v (sD s0),.v (sD s1),.v (jT s0),.e,.e,.e]) (db (aZ rfl rfl (jj w0)) rfl) ?_;refine aC (s:=[.v S,.o φ4,.v (.lst (N.map D.str)),.v (sD s0),.v (sD s1),.v (jT s0),.v (jT s1),.e,.e]) (db (aZ rfl rfl (jj w1)) rfl) ?_;refine aC (s:=[.v S,.o φ4,.v (.lst (N.map D.str)),.v (sD s0),.v (sD s1),.v (jT s0),.v (jT s1),.o (.lst R),.e]) (eX (aZ rfl rfl r01) rfl) ?_;refine aC (s:=[.v S,.o φ4,.v (.lst (N.map D.str)),.v (sD s0),.v (sD s1),.v (jT s0),.v (jT s1),.o (.lst R),.o (.lst R)]) (eX (bp rfl rfl (zo R)) rfl) ?_;refine aC (cJ (s:=[.v S,.o φ4,.v (.lst (N.map D.str)),.v (sD s0),.v (sD s1),.v (jT s0),.v (jT s1),.o (.lst R),.o (.lst R)]) (im (aQ (uw rfl rfl g01 Nf) rfl)) rfl) ?_;refine aC (s:=[.v S,.o φ4,.v (.lst (N.map D.str)),.v (sD s0),.v (sD s1),.v (jT s0),.v (jT s1),.o (.lst (R++[D.non])),.o (.lst R)]) (ce (f6 rfl rfl rfl rfl rfl rfl rfl (dR (by lia)))) ?_
 refine aC (s:=[.v S,.o φ4,.v (.lst (N.map D.str)),.v (sD s0),.v (sD s1),.v (jT s0),.v (jT s1),.o (.lst ((R++[D.non]).set 0 .non)),.o (.lst R)]) (pH rfl rfl rfl rfl rfl rfl rfl rfl pt) ?_;refine aC (cJ (s:=[.v S,.o φ4,.v (.lst (N.map D.str)),.v (sD s0),.v (sD s1),.v (jT s0),.v (jT s1),.o (.lst ((R++[D.non]).set 0 .non)),.o (.lst R)]) (im (aQ (uw (aj (aZ rfl rfl r10) rfl) rfl g10 Nf) rfl)) rfl) ?_;refine aU (ip (s:=[.v S,.o φ4,.v (.lst (N.map D.str)),.v (sD s0),.v (sD s1),.v (jT s0),.v (jT s1),.o (.lst ((R++[D.non]).set 0 .non)),.o (.lst R)]) (bD (aj (aZ rfl rfl r01) rfl) rfl (iU dp0) rfl) rfl ?_);exact bD (aj (aZ (aj rfl (aj (bY rfl rfl rfl rfl rfl rfl e5) rfl)) rfl r12) (aj (jh rfl rfl (by show 0<=1000000;decide)) rfl)) rfl (iU (.lst (by show 0<=1000000;decide) fun d hd=>by cases hd)) rfl
end
end K34
namespace K34
open PySem L2 VF VF22
section
variable (P:Program)(w:World)(K:Ab)(mg:Str->Option Value)(base:Heap)
abbrev rl:=Cal P w K mg base "is_name" 1 nl0 (spV K kr)
abbrev hV:=Cal P w K mg base "is_turned" 1 nl1 (spV K dQ)
abbrev kB:=Cal P w K mg base "name_of" 2 nl1 (spV K iF)
abbrev pQ:=Cal P w K mg base "mirrored" 3 nl1 (spV K kW)
abbrev pR:=Cal P w K mg base "beads_in" 1 nl0 (spV K kX)
abbrev pS:=Cal P w K mg base "names_in" 3 nl0 (spV K kY)
abbrev pU:=Cal P w K mg base "is_whole" 1 nl0 (spV K o9)
abbrev j8:=Cal P w K mg base "refuse_lacks" 4 nl8 (spV K gI)
abbrev jk:=Cal P w K mg base "left_end" 3 nl1 (spV K eK)
abbrev j9:=Cal P w K mg base "right_end" 4 nl1 (spV K eO)
abbrev lC:=Cal P w K mg base "joint_of" 1 ["ends"] (spV K fG)
abbrev mt:=Cal P w K mg base "rising" 1 nl8 (spV K dZ)
abbrev u4:=Cal P w K mg base "is_end" 2 nl0 (spV K ph)
abbrev pV:=Cal P w K mg base "is_joint" 3 nl0 (spV K ja)
abbrev kc:=Cal P w K mg base "inner_joints" 5 ["beads"] (spV K fm)
abbrev jr:=Cal P w K mg base "strand_joints" 6 ["strand"] (spV K eE)
abbrev nr:=Cal P w K mg base "joints_of" 7 ["some"] (spV K g6)
abbrev rm:=Cal P w K mg base "is_half" 4 nl0 (spV K gr)
abbrev yh:=Cal P w K mg base "sizes" 1 nl4 (spV K ku)
abbrev rq:=Cal P w K mg base "ends_of" 1 nl4 (spV K gu)
abbrev rA:=Cal P w K mg base "is_deed" 5 nl0 (spV K mM)
abbrev GI:=Cal P w K mg base "back" 6 ["deed"] (spV K vY)
abbrev u5:=Cal P w K mg base "cut_of" 1 nl2 (spV K lV)
abbrev pW:=Cal P w K mg base "pairs_in" 1 nl4 (spV K k0)
abbrev ke:=Cal P w K mg base "pairs_lacked" 2 nl6 (spV K fq)
abbrev kI:=Cal P w K mg base "pairs_apart" 3 nl6 (spV K iq)
abbrev iK:=Cal P w K mg base "cuts_and_joins" 8 nl5 (spV K fH)
abbrev rB:=Cal P w K mg base "row_one" 9 nl5 (spV K fI)
abbrev pY:=Cal P w K mg base "_law_flow" 1 nl9 (spV K lc)
abbrev cN:=Cal P w K mg base "_law_pick" 1 nl7 (jA K aG)
abbrev iz:=Cal P w K mg base "_law_letters" 2 nl7 (jA K d6)
abbrev pZ:=Cal P w K mg base "_law_name" 3 ["_law_flow_here","_law_stem"] (jA K lf)
abbrev nA:=Cal P w K mg base "_law_names" 4 nl7 (jA K jR)
abbrev gR:=Cal P w K mg base "_law_shuffled" 2 ["_law_flow_here","_law_things"] (jA K dm)
abbrev gS:=Cal P w K mg base "_law_mirrored" 1 nl3 (spV K bH)
abbrev p6:=Cal P w K mg base "_law_line" 3 FK (jA K gJ)
abbrev mX:=CalD P w K mg base "_law_set" 4 MX [.bl true] (jA K kw)
abbrev p7:=CalD P w K mg base "_law_near" 2 MY [.bl true] (jA K lh)
abbrev kf:=Cal P w K mg base "_law_alike" 8 zf (spV K (eW 8))
abbrev p8:=Cal P w K mg base "_law_ends" 1 nl3 (spV K gK)
abbrev mv:=Cal P w K mg base "_law_joints" 2 ["_law_some"] (spV K ft)
abbrev mw:=Cal P w K mg base "_law_behind" 1 FM (spV K jc)
abbrev gU:=Cal P w K mg base "_law_restated" 3 ["_law_flow_here","_law_some"] (jA K fu)
abbrev p9:=Cal P w K mg base "_law_good" 1 HR (spV K ll)
abbrev nB:=Cal P w K mg base "_law_apart" 1 HR (spV K jV)
abbrev nC:=Cal P w K mg base "_law_other" 5 HU (jA K jW)
abbrev nE:=Cal P w K mg base "_law_right" 9 M3 (spV K eP)
end
section
variable {P:Program}{w:World}{K:Ab}{mg:Str->Option Value}{base:Heap}
def wu(M:Md K mg):Bd' P w K mg base "is_name" n9 nl0 0 qS:=fun hr=>⟨_,(am (bW (PW.pt (jl (eQ (cL (cn K M.n_isinstance (pv 0) (dY rfl M.n_str kh)))) (hW (eQ (zY IG IG ao (bP K M.n_len (pv 0)) (G0 rfl M.c_LONGEST_NAME)))))) (aA (aK jt)) bj)
   (aA (aK (cf (iD rfl) rfl M.n_all boot_all (az (cH (cI (osc:=(aw n9)) (ON:=nl0) (N:=["letter"]) (k:=1) (caps:=[]) (by decide +kernel) rfl rfl) rfl (bR (K:=K) rfl (pv 0)) (fun _ _ _ _=>(bJ 0 (by show(["letter"]:List Str).Nodup;decide +kernel))) (fun _ _ _ _=>cP) (fun _ _ _ _=>(nW (rW (K:=K) rfl) (pv 0) (GZ rfl M.c_LETTERS) (by with_unfolding_all rfl)))) ah))))),
  (aD (bX (fX (dJ (dO (aP bz (aa (ae 0) (aa (fz fun _ _=>.ty _) af))))) (dJ (aN (DW IY IY (aq _) (aP cy (aa (ae 0) af)) (fz fun _ _=>.int _))))) (aM (jz _)) bm)
   (aM (aP mE (aa (bV (bS (ae 0)) (aS 0) (by decide) dF (aB ro_inA (ae 0) (fz fun _ _=>.str _))) af))))⟩
def sZ(M:Md K mg):Bd' P w K mg base "is_turned" mO nl1 0 m7:=fun hr=>⟨_,(aA (aK (kF Dq PySem.F.slot_str_startswith PySem.F.type_str_startswith qf (pv 0) (az cS ah)))),
  (aM (Ei yL (ae 0) (aa (cY _) af)))⟩
def wv(M:Md K mg)(c1:hV P w K mg base):Bd' P w K mg base "name_of" sC nl1 1 qT:=fun hr=>⟨_,(aA (aK (lD (cL (aF c1 hr rfl (az (pv 0) ah))) (di (fZ (K:=K) rfl) (pv 0) (dI ao) d9) (pv 0)))),
  (aM (wU (dO (bG (aa (ae 0) af))) (dj ee (ae 0) (cW (aq _)) fY) (ae 0)))⟩
def u6(M:Md K mg)(c1:hV P w K mg base)(c2:kB P w K mg base):Bd' P w K mg base "mirrored" mP nl1 2 o0:=fun hr=>⟨_,(aA (aK (lD (cL (aF c1 hr rfl (az (pv 0) ah))) (aF c2 hr rfl (az (pv 0) ah)) (bL K cS (pv 0))))),
  (aM (wU (dO (bG (aa (ae 0) af))) (bG (aa (ae 0) af)) (aB ro_addA (cY _) (ae 0))))⟩
def u7(M:Md K mg):Bd' P w K mg base "beads_in" pC ["thing","beads","part"] 0 o3:=fun hr=>⟨_,(am (bo 1 sc_sbeadsin.nd (cr ah))
   (am (eS Ao rfl (bR (K:=K) rfl (pv 0)) (bJ 2 sc_sbeadsin.nd) (aA (bW (cL (cn K M.n_isinstance (pv 2) (dY rfl M.n_str kh))) (aA (cj (cX (pv 1) (pv 2)))) (aA (cj (kF Au BF BE (kO (K:=K) rfl rfl) (pv 1) (az (aO K (pv 2) ao) ah)))))))
   (aA (aK (pv 1))))),
  (aD (aR (cw af))
   (aD (eV (bS (ae 0)) (aS 2) (bX (dO (aP bz (aa (ae 2) (aa (fz fun _ _=>.ty _) af)))) (ck (gA bU (aa (ae 2) af))) (ck (gA mH (aa (aB aV (ae 2) (aq _)) af)))))
   (aM (ae 1))))⟩
def u8(M:Md K mg)(c2:kB P w K mg base)(c4:pR P w K mg base):Bd' P w K mg base "names_in" lZ nl0 2 o7:=fun hr=>⟨_,(aA (aK (cf (dB (K:=K) rfl hr) rfl M.n_sorted boot_sorted (az (cH (cI (osc:=(aw lZ)) (ON:=nl0) (N:=nl1) (k:=1) (caps:=[]) (by decide +kernel) rfl rfl) rfl (bR (K:=K) rfl (aF c4 hr rfl (az (pv 0) ah))) (fun _ _ _ _=>(bJ 0 (by show(nl1:List Str).Nodup;decide +kernel))) (fun _ _ _ _=>cP) (fun _ _ _ _=>(aF c2 hr rfl (az (pv 0) ah)))) ah)))),
  (aM (aP fk (aa (bV (bS (aY (aa (ae 0) af))) (aS 0) (by decide) dF (bG (aa (ae 0) af))) af)))⟩
def u9(M:Md K mg):Bd' P w K mg base "is_whole" pD nl0 0 o8:=fun hr=>⟨_,(aA (aK (gw (cn K M.n_isinstance (pv 0) (dY rfl M.n_int mz)) (ia (Jz (cn K M.n_isinstance (pv 0) (dY rfl M.n_bool gy))))))),
  (aM (eU (aP bz (aa (ae 0) (aa (fz fun _ _=>.ty _) af))) (G4 (aP bz (aa (ae 0) (aa (fz fun _ _=>.ty _) af))))))⟩
def nN(M:Md K mg)(c5:pS P w K mg base):Bd' P w K mg base "refuse_lacks" gf Lh 3 jL:=fun hr=>⟨_,(am (bo 1 sc_srefuselacks.nd DI)
   (am (eS Ao rfl (bR (K:=K) rfl (pv 0)) (bJ 2 sc_srefuselacks.nd) (aA (eS Ao rfl (bR (K:=K) rfl (aF c5 hr rfl (az (pv 2) ah))) (bJ 3 sc_srefuselacks.nd) (aA (ib (bL K (DK (DR hr) (pv 1) (pv 3) ao ⟨rfl,rfl,rfl,rfl⟩) ao) (ju (pv 1) (pv 3) (yW (DR hr))))))))
   (am (oE 4 (cI (osc:=(aw gf)) (ON:=Lh) (N:=["name","count","things"]) (k:=1) (caps:=[1,0]) (by decide +kernel) rfl rfl) rfl sc_srefuselacks.nd (bR (K:=K) rfl (cf (uz (K:=K) rfl rfl hr) rfl M.n_sorted boot_sorted (az (pv 1) ah))) (fun _ _ _ _=>(bJ 0 (by show(["name","count","things"]:List Str).Nodup;decide +kernel))) (fun _ _ _ _=>kg (aX Em (Fn (DR hr) (pv 1) (pv 0) (fun _ _=>rfl)) (bP K M.n_len (pv 2)))) (fun _ _ _ _=>(pv 0)))
   (aA (bW (HL (K:=K) rfl (pv 4)) (aA tG) bj))))),
  (aD (aR Fm)
   (aD (eV (bS (ae 0)) (aS 2) (eV (bS (aY (aa (ae 2) af))) (aS 3) (jB yV (aB ro_addA (Fr (ae 1) (ae 3) (aq _)) (aq _)) (ae 3))))
   (aD (aR (bV (bS (aP yZ (aa (ae 1) af))) (aS 0) (by decide) (aN (aB Ep (aB HA (ae 1) (ae 0)) (aP cy (aa (ae 2) af)))) (ae 0)))
   (bX (Fw (ae 4)) t8 bm))))⟩
def va(M:Md K mg)(c1:hV P w K mg base)(c2:kB P w K mg base):Bd' P w K mg base "left_end" pE nl1 2 pe:=fun hr=>⟨_,(aA (aK (bc (az (aF c2 hr rfl (az (pv 0) ah)) (az (lD (cL (aF c1 hr rfl (az (pv 0) ah))) ao ao) ah))))),
  (aM (be (aa (bG (aa (ae 0) af)) (aa (wU (dO (bG (aa (ae 0) af))) (aq _) (aq _)) af))))⟩
def tf(M:Md K mg)(c3:pQ P w K mg base)(c8:jk P w K mg base):Bd' P w K mg base "right_end" mQ nl1 3 m8:=fun hr=>⟨_,(aA (aK (aF c8 hr rfl (az (aF c3 hr rfl (az (pv 0) ah)) ah)))),
  (aM (aY (aa (bG (aa (ae 0) af)) af)))⟩
def vb(M:Md K mg):Bd' P w K mg base "joint_of" pF ["ends"] 0 pf:=fun hr=>⟨_,(aA (aK (df K M.n_tuple (cf (dB (K:=K) rfl hr) rfl M.n_sorted boot_sorted (az (pv 0) ah))))),
  (aM (aP cc (aa (aP fk (aa (ae 0) af)) af)))⟩
def zJ(M:Md K mg):Bd' P w K mg base "rising" og nl8 0 uD:=fun hr=>⟨_,(aA (aK (cf (iD rfl) rfl M.n_all boot_all (az (cH (cI (osc:=(aw og)) (ON:=nl8) (N:=nl5) (k:=2) (caps:=[]) (by decide +kernel) rfl rfl) rfl (ET (K:=K) rfl rfl rfl rfl M.n_zip (pv 0) (di (fZ (K:=K) rfl) (pv 0) (dI ao) d9)) (fun _ _ _ _=>(iX (K:=K) (n:=2) rfl rfl (cU (bJ 0 (by show(nl5:List Str).Nodup;decide +kernel)) (cU (bJ 1 (by show(nl5:List Str).Nodup;decide +kernel)) iL)))) (fun _ _ _ _=>cP) (fun _ _ _ _=>(gZ (Lc (K:=K) rfl hr.units) (pv 0) (pv 1)))) ah)))),
  (aM (aP mE (aa (bV (ES (aa (ae 0) (aa (dj ee (ae 0) (cW (aq _)) fY) af))) (kM (cV (aS 0) (cV (aS 1) iP))) (by decide) dF (aB Lb (ae 0) (ae 1))) af)))⟩
def zK(M:Md K mg)(c0:rl P w K mg base)(c6:pU P w K mg base):Bd' P w K mg base "is_end" vZ nl0 1 uE:=fun hr=>⟨_,(am (bW (PW.pt (jl (eQ (cL (cn K M.n_isinstance (pv 0) (dY rfl M.n_tuple dN)))) (jl (aX (iS (K:=K) rfl hr.units) (bP K M.n_len (pv 0)) ao) (hW (eQ (cL (aF c0 hr rfl (az (aO K (pv 0) ao) ah)))))))) (aA (aK jt)) bj)
   (aA (aK (gw (aF c6 hr rfl (az (aO K (pv 0) ao) ah)) (ia (nW (rW (K:=K) rfl) (aO K (pv 0) ao) (bc (az ao (az ao ah))) (by with_unfolding_all rfl))))))),
  (aD (bX (fX (dJ (dO (aP bz (aa (ae 0) (aa (fz fun _ _=>.ty _) af))))) (fX (aN (aB ro_neA (aP cy (aa (ae 0) af)) (aq _))) (dJ (dO (bG (aa (aB aV (ae 0) (aq _)) af)))))) (aM (jz _)) bm)
   (aM (eU (bG (aa (aB aV (ae 0) (aq _)) af)) (aB ro_inA (aB aV (ae 0) (aq _)) (be (aa (aq _) (aa (aq _) af)))))))⟩
def vc(M:Md K mg)(c11:mt P w K mg base)(c12:u4 P w K mg base):Bd' P w K mg base "is_joint" ma nl0 2 pi:=fun hr=>⟨_,(am (bW (PW.pt (jl (eQ (cL (cn K M.n_isinstance (pv 0) (dY rfl M.n_tuple dN)))) (hW (d8 (mG (K:=K) rfl) (bP K M.n_len (pv 0)) (bc (az ao (az ao ah))) (by with_unfolding_all rfl))))) (aA (aK jt)) bj)
   (aA (aK (gw (cf (iD rfl) rfl M.n_all boot_all (az (cH (cI (osc:=(aw ma)) (ON:=nl0) (N:=["end"]) (k:=1) (caps:=[]) (by decide +kernel) rfl rfl) rfl (bR (K:=K) rfl (pv 0)) (fun _ _ _ _=>(bJ 0 (by show(["end"]:List Str).Nodup;decide +kernel))) (fun _ _ _ _=>cP) (fun _ _ _ _=>(aF c12 hr rfl (az (pv 0) ah)))) ah)) (ia (aF c11 hr rfl (az (pv 0) ah))))))),
  (aD (bX (fX (dJ (dO (aP bz (aa (ae 0) (aa (fz fun _ _=>.ty _) af))))) (aN (aB ro_notinA (aP cy (aa (ae 0) af)) (be (aa (aq _) (aa (aq _) af)))))) (aM (jz _)) bm)
   (aM (eU (aP mE (aa (bV (bS (ae 0)) (aS 0) (by decide) dF (bG (aa (ae 0) af))) af)) (bG (aa (ae 0) af)))))⟩
def nO(M:Md K mg)(c8:jk P w K mg base)(c9:j9 P w K mg base)(c10:lC P w K mg base):Bd' P w K mg base "inner_joints" gh ["beads"] 4 jM:=fun hr=>⟨_,(aA (aK (cH (cI (osc:=(aw gh)) (ON:=["beads"]) (N:=nl5) (k:=2) (caps:=[]) (by decide +kernel) rfl rfl) rfl (ET (K:=K) rfl rfl rfl rfl M.n_zip (pv 0) (di (fZ (K:=K) rfl) (pv 0) (dI ao) d9)) (fun _ _ _ _=>(iX (K:=K) (n:=2) rfl rfl (cU (bJ 0 (by show(nl5:List Str).Nodup;decide +kernel)) (cU (bJ 1 (by show(nl5:List Str).Nodup;decide +kernel)) iL)))) (fun _ _ _ _=>cP) (fun _ _ _ _=>(aF c10 hr rfl (az (bc (az (aF c9 hr rfl (az (pv 0) ah)) (az (aF c8 hr rfl (az (pv 1) ah)) ah))) ah)))))),
  (aM (bV (ES (aa (ae 0) (aa (dj ee (ae 0) (cW (aq _)) fY) af))) (kM (cV (aS 0) (cV (aS 1) iP))) (by decide) dF (aY (aa (be (aa (aY (aa (ae 0) af)) (aa (aY (aa (ae 1) af)) af))) af))))⟩
def mY(M:Md K mg)(c8:jk P w K mg base)(c9:j9 P w K mg base)(c10:lC P w K mg base)(c14:kc P w K mg base):Bd' P w K mg base "strand_joints" ix MR 5 jp:=fun hr=>⟨_,(am (bo 1 sc_sstrandjoints.nd (aO K (pv 0) ao))
   (am (bo 2 sc_sstrandjoints.nd (aF c8 hr rfl (az (aO K (pv 1) ao) ah)))
   (am (bo 3 sc_sstrandjoints.nd (aF c9 hr rfl (az (aO K (pv 1) (zR vv ao)) ah)))
   (am (bo 4 sc_sstrandjoints.nd (lD (aX dW (aO K (pv 0) ao) cS) (cr (az (bc (az (pv 2) ah)) (az (bc (az (pv 3) ah)) ah))) (cr (az (aF c10 hr rfl (az (bc (az (pv 2) (az (pv 3) ah))) ah)) ah))))
   (aA (aK (bL K (aF c14 hr rfl (az (pv 1) ah)) (pv 4)))))))),
  (aD (aR (aB aV (ae 0) (aq _)))
   (aD (aR (aY (aa (aB aV (ae 1) (aq _)) af)))
   (aD (aR (aY (aa (aB aV (ae 1) (DU vI (aq _))) af)))
   (aD (aR (wU (aN (aB ro_eqA (aB aV (ae 0) (aq _)) (cY _))) (cw (aa (be (aa (ae 2) af)) (aa (be (aa (ae 3) af)) af))) (cw (aa (aY (aa (be (aa (ae 2) (aa (ae 3) af))) af)) af))))
   (aM (aB ro_addA (aY (aa (ae 1) af)) (ae 4)))))))⟩
def tj(M:Md K mg)(c15:jr P w K mg base):Bd' P w K mg base "joints_of" mR ["some","joints","strand"] 6 m9:=fun hr=>⟨_,(am (bo 1 sc_sjointsof.nd (cr ah))
   (am (eS Ao rfl (bR (K:=K) rfl (pv 0)) (bJ 2 sc_sjointsof.nd) (aA (cj (kF Au BF BE (kO (K:=K) rfl rfl) (pv 1) (az (aF c15 hr rfl (az (pv 2) ah)) ah)))))
   (aA (aK (df K M.n_tuple (cf (dB (K:=K) rfl hr) rfl M.n_sorted boot_sorted (az (pv 1) ah))))))),
  (aD (aR (cw af))
   (aD (eV (bS (ae 0)) (aS 2) (ck (gA mH (aa (aY (aa (ae 2) af)) af))))
   (aM (aP cc (aa (aP fk (aa (ae 1) af)) af)))))⟩
def ww(M:Md K mg)(c11:mt P w K mg base)(c13:pV P w K mg base):Bd' P w K mg base "is_half" oh nl0 3 qU:=fun hr=>⟨_,(am (bW (PW.pt (jl (eQ (cL (cn K M.n_isinstance (pv 0) (dY rfl M.n_tuple dN)))) (hW (d8 (mG (K:=K) rfl) (bP K M.n_len (pv 0)) (bc (az ao (az ao ah))) (by with_unfolding_all rfl))))) (aA (aK jt)) bj)
   (aA (aK (gw (cf (iD rfl) rfl M.n_all boot_all (az (cH (cI (osc:=(aw oh)) (ON:=nl0) (N:=nl2) (k:=1) (caps:=[]) (by decide +kernel) rfl rfl) rfl (bR (K:=K) rfl (pv 0)) (fun _ _ _ _=>(bJ 0 (by show(nl2:List Str).Nodup;decide +kernel))) (fun _ _ _ _=>cP) (fun _ _ _ _=>(aF c13 hr rfl (az (pv 0) ah)))) ah)) (ia (aF c11 hr rfl (az (pv 0) ah))))))),
  (aD (bX (fX (dJ (dO (aP bz (aa (ae 0) (aa (fz fun _ _=>.ty _) af))))) (aN (aB ro_notinA (aP cy (aa (ae 0) af)) (be (aa (aq _) (aa (aq _) af)))))) (aM (jz _)) bm)
   (aM (eU (aP mE (aa (bV (bS (ae 0)) (aS 0) (by decide) dF (bG (aa (ae 0) af))) af)) (bG (aa (ae 0) af)))))⟩
def GJ(M:Md K mg):Bd' P w K mg base "sizes" sE nl4 0 xP:=fun hr=>⟨_,(aA (aK (df K M.n_tuple (cf (dB (K:=K) rfl hr) rfl M.n_sorted boot_sorted (az (cH (cI (osc:=(aw sE)) (ON:=nl4) (N:=nl2) (k:=1) (caps:=[]) (by decide +kernel) rfl rfl) rfl (bR (K:=K) rfl (pv 0)) (fun _ _ _ _=>(bJ 0 (by show(nl2:List Str).Nodup;decide +kernel))) (fun _ _ _ _=>cP) (fun _ _ _ _=>(bP K M.n_len (pv 0)))) ah))))),
  (aM (aP cc (aa (aP fk (aa (bV (bS (ae 0)) (aS 0) (by decide) dF (aP cy (aa (ae 0) af))) af)) af)))⟩
def wx(M:Md K mg):Bd' P w K mg base "ends_of" sF ["joints","ends","joint"] 0 qV:=fun hr=>⟨_,(am (bo 1 sc_sendsof.nd (cr ah))
   (am (eS Ao rfl (bR (K:=K) rfl (pv 0)) (bJ 2 sc_sendsof.nd) (aA (cj (kF Au BF BE (kO (K:=K) rfl rfl) (pv 1) (az (pv 2) ah)))))
   (aA (aK (cf (dB (K:=K) rfl hr) rfl M.n_sorted boot_sorted (az (pv 1) ah)))))),
  (aD (aR (cw af))
   (aD (eV (bS (ae 0)) (aS 2) (ck (gA mH (aa (ae 2) af))))
   (aM (aP fk (aa (ae 1) af)))))⟩
def wy(M:Md K mg)(c11:mt P w K mg base)(c17:rm P w K mg base)(c18:yh P w K mg base)(c19:rq P w K mg base):Bd' P w K mg base "is_deed" oi Li 4 qW:=fun hr=>⟨_,(am (bW (PW.pt (jl (eQ (cL (cn K M.n_isinstance (pv 0) (dY rfl M.n_tuple dN)))) (jl (aX (si (K:=K) rfl hr.units) (bP K M.n_len (pv 0)) ao) (hW (eQ (cL (cf (iD rfl) rfl M.n_all boot_all (az (cH (cI (osc:=(aw oi)) (ON:=Li) (N:=["half"]) (k:=1) (caps:=[]) (by decide +kernel) rfl rfl) rfl (bR (K:=K) rfl (pv 0)) (fun _ _ _ _=>(bJ 0 (by show(["half"]:List Str).Nodup;decide +kernel))) (fun _ _ _ _=>cP) (fun _ _ _ _=>(aF c17 hr rfl (az (pv 0) ah)))) ah)))))))) (aA (aK jt)) bj)
   (am (bo 1 sc_sisdeed.nd (aO K (pv 0) ao))
   (am (bo 2 sc_sisdeed.nd (aO K (pv 0) ao))
   (am (bo 3 sc_sisdeed.nd (aF c19 hr rfl (az (pv 1) ah)))
   (am (bW (PW.pt (jl (eQ (cL (aF c11 hr rfl (az (pv 3) ah)))) (hW (aX (si (K:=K) rfl hr.units) (pv 3) (aF c19 hr rfl (az (pv 2) ah)))))) (aA (aK jt)) bj)
   (aA (aK (gw (nW (Ld (K:=K) rfl hr.units) (bc (az (aF c18 hr rfl (az (pv 1) ah)) (az (aF c18 hr rfl (az (pv 2) ah)) ah))) (MO rfl M.c_FORMS) (by with_unfolding_all rfl)) (ia (gZ (si (K:=K) rfl hr.units) (pv 1) (pv 2))))))))))),
  (aD (bX (fX (dJ (dO (aP bz (aa (ae 0) (aa (fz fun _ _=>.ty _) af))))) (fX (aN (aB sk (aP cy (aa (ae 0) af)) (aq _))) (dJ (dO (aP mE (aa (bV (bS (ae 0)) (aS 0) (by decide) dF (bG (aa (ae 0) af))) af)))))) (aM (jz _)) bm)
   (aD (aR (aB aV (ae 0) (aq _)))
   (aD (aR (aB aV (ae 0) (aq _)))
   (aD (aR (aY (aa (ae 1) af)))
   (aD (bX (fX (dJ (dO (bG (aa (ae 3) af)))) (aN (aB sk (ae 3) (aY (aa (ae 2) af))))) (aM (jz _)) bm)
   (aM (eU (Le (be (aa (aY (aa (ae 1) af)) (aa (aY (aa (ae 2) af)) af)))) (aB sk (ae 1) (ae 2)))))))))⟩
def Iz(M:Md K mg)(c20:rA P w K mg base):Bd' P w K mg base "back" FN ["deed"] 5 FJ:=fun hr=>⟨_,(am (bW (eQ (cL (aF c20 hr rfl (az (pv 0) ah)))) (aA tG) bj)
   (aA (aK (bc (az (aO K (pv 0) ao) (az (aO K (pv 0) ao) ah)))))),
  (aD (bX (dJ (dO (bG (aa (ae 0) af)))) t8 bm)
   (aM (be (aa (aB aV (ae 0) (aq _)) (aa (aB aV (ae 0) (aq _)) af)))))⟩
def zL(M:Md K mg):Bd' P w K mg base "cut_of" v0 nl2 0 uF:=fun hr=>⟨_,(aA (aK (bc (az (bc (az (pv 0) ah)) (az (bc (az (bc (az (aO K (pv 0) ao) ah)) (az (bc (az (aO K (pv 0) ao) ah)) ah))) ah))))),
  (aM (be (aa (be (aa (ae 0) af)) (aa (be (aa (be (aa (aB aV (ae 0) (aq _)) af)) (aa (be (aa (aB aV (ae 0) (aq _)) af)) af))) af))))⟩
def vd(M:Md K mg):Bd' P w K mg base "pairs_in" md nl4 0 pj:=fun hr=>⟨_,(aA (aK (cH (cI (osc:=(aw md)) (ON:=nl4) (N:=nl2) (k:=1) (caps:=[]) (by decide +kernel) rfl rfl) rfl (bR (K:=K) rfl (pv 0)) (fun _ _ _ _=>(bJ 0 (by show(nl2:List Str).Nodup;decide +kernel))) (fun _ _ _ _=>kg (aX dW (bP K M.n_len (pv 0)) ao)) (fun _ _ _ _=>(pv 0))))),
  (aM (bV (bS (ae 0)) (aS 0) (by decide) (aN (aB ro_eqA (aP cy (aa (ae 0) af)) (aq _))) (ae 0)))⟩
def nP(M:Md K mg)(c23:pW P w K mg base):Bd' P w K mg base "pairs_lacked" gi nl6 1 jP:=fun hr=>⟨_,(aA (aK (cH (cI (osc:=(aw gi)) (ON:=nl6) (N:=["joint","theirs"]) (k:=1) (caps:=[1]) (by decide +kernel) rfl rfl) rfl (bR (K:=K) rfl (aF c23 hr rfl (az (pv 0) ah))) (fun _ _ _ _=>(bJ 0 (by show(["joint","theirs"]:List Str).Nodup;decide +kernel))) (fun _ _ _ _=>kg (d8 (gm (K:=K) rfl hr.units) (pv 0) (pv 1) (by with_unfolding_all rfl))) (fun _ _ _ _=>(pv 0))))),
  (aM (bV (bS (aY (aa (ae 0) af))) (aS 0) (by decide) (aN (aB gq (ae 0) (ae 1))) (ae 0)))⟩
def qa(M:Md K mg)(c24:ke P w K mg base):Bd' P w K mg base "pairs_apart" jX nl6 2 kG:=fun hr=>⟨_,(aA (aK (bc (az (aF c24 hr rfl (az (pv 0) (az (pv 1) ah))) (az (aF c24 hr rfl (az (pv 1) (az (pv 0) ah))) ah))))),
  (aM (be (aa (aY (aa (ae 0) (aa (ae 1) af))) (aa (aY (aa (ae 1) (aa (ae 0) af))) af))))⟩
def mx(M:Md K mg)(c7:j8 P w K mg base)(c16:nr P w K mg base)(c21:GI P w K mg base)(c22:u5 P w K mg base)(c25:kI P w K mg base):Bd' P w K mg base "cuts_and_joins" d7 HQ 7 iI:=fun hr=>⟨_,(am (cj (aF c7 hr rfl (az (cr (az (pv 0) (az (pv 1) ah))) ah)))
   (am (bo 2 sc_scutsandjoins.nd (aF c25 hr rfl (az (aF c16 hr rfl (az (pv 0) ah)) (az (aF c16 hr rfl (az (pv 1) ah)) ah))))
   (am (oE 3 (cI (osc:=(aw d7)) (ON:=HQ) (N:=nl2) (k:=1) (caps:=[]) (by decide +kernel) rfl rfl) rfl sc_scutsandjoins.nd (bR (K:=K) rfl (aO K (pv 2) ao)) (fun _ _ _ _=>(bJ 0 (by show(nl2:List Str).Nodup;decide +kernel))) (fun _ _ _ _=>cP) (fun _ _ _ _=>(aF c22 hr rfl (az (pv 0) ah))))
   (aA (aK (bc (az (pv 3) (az (cH (cI (osc:=(aw d7)) (ON:=HQ) (N:=nl2) (k:=1) (caps:=[]) (by decide +kernel) rfl rfl) rfl (bR (K:=K) rfl (aO K (pv 2) ao)) (fun _ _ _ _=>(bJ 0 (by show(nl2:List Str).Nodup;decide +kernel))) (fun _ _ _ _=>cP) (fun _ _ _ _=>(aF c21 hr rfl (az (aF c22 hr rfl (az (pv 0) ah)) ah)))) ah)))))))),
  (aD (ck (aY (aa (cw (aa (ae 0) (aa (ae 1) af))) af)))
   (aD (aR (aY (aa (aY (aa (ae 0) af)) (aa (aY (aa (ae 1) af)) af))))
   (aD (aR (bV (bS (aB aV (ae 2) (aq _))) (aS 0) (by decide) dF (aY (aa (ae 0) af))))
   (aM (be (aa (ae 3) (aa (bV (bS (aB aV (ae 2) (aq _))) (aS 0) (by decide) dF (aY (aa (aY (aa (ae 0) af)) af))) af)))))))⟩
def wz(M:Md K mg)(c26:iK P w K mg base):Bd' P w K mg base "row_one" sG ["one","other","both"] 8 qX:=fun hr=>⟨_,(am (bo 2 sc_srowone.nd (aF c26 hr rfl (az (pv 0) (az (pv 1) ah))))
   (aA (aK (dH (sn (K:=K) rfl) (aO K (pv 2) ao) (aO K (pv 2) ao))))),
  (aD (aR (aY (aa (ae 0) (aa (ae 1) af))))
   (aM (aB sr (aB aV (ae 2) (aq _)) (aB aV (ae 2) (aq _)))))⟩
def ve(M:Md K mg):Bd' P w K mg base "_law_flow" v4 nl9 0 pk:=fun hr=>⟨_,(aA (aK (HF (ux (gk (gB (K:=K) rfl rfl) rfl M.n_list dM (az (pv 0) ah)) (ux ao (ux ao (ux ao (ux ao HE rfl) rfl) rfl) rfl) rfl)))),
  (aM (cw (aa (aP jH (aa (ae 0) af)) (aa (aq _) (aa (aq _) (aa (aq _) (aa (aq _) af)))))))⟩
def vf(M:Md K mg):Bd' P w K mg base "_law_pick" v5 MS 0 ld:=fun hr=>⟨_,(am (bW (PW.pt (hZ (aX dW (aO K (pv 0) ao) ao) (f9 (aX Em (aO K (pv 0) ao) (bP K M.n_len (aO K (pv 0) ao)))))) (am (bo 2 sc_sLpick.nd (aO K (aO K (pv 0) ao) (aO K (pv 0) ao)))
   (am (ib (bL K (aO K (pv 0) ao) ao) (ju (pv 0) ao set_list))
   (aA (bW (aX LU (pv 2) (dH JG ao ao)) (aA (ib (pv 2) (ju (pv 0) ao set_list))) (aA (ib (dH jv (bL K (bL K (dH lO (aO K (pv 0) ao) ao) (dH jv (pv 2) ao)) ao) ao) (ju (pv 0) ao set_list))))))) bj)
   (am (bW (aX IH (aO K (pv 0) ao) ao) (am (bo 3 sc_sLpick.nd (dH jv (aO K (pv 0) ao) (pv 1)))
   (am (ib (dH nV (aO K (pv 0) ao) (pv 1)) (ju (pv 0) ao set_list))
   (aA (aK (pv 3))))) bj)
   (am (ib (bL K (aO K (pv 0) ao) ao) (ju (pv 0) ao set_list))
   (am (ib (dH jv (bL K (bL K (dH lO (aO K (pv 0) ao) ao) ao) (aO K (pv 0) ao)) ao) (ju (pv 0) ao set_list))
   (aA (aK (dH jv (dH nV (dH jv (dH lO (bL K (dH jv (aO K (pv 0) ao) ao) ao) (bL K (dH nV (aO K (pv 0) ao) ao) ao)) ao) ao) (pv 1)))))))),
  (aD (bX (fP (aN (aB ro_eqA (aB aV (ae 0) (aq _)) (aq _))) (aN (aB Ep (aB aV (ae 0) (aq _)) (aP cy (aa (aB aV (ae 0) (aq _)) af))))) (aD (aR (aB aV (aB aV (ae 0) (aq _)) (aB aV (ae 0) (aq _))))
   (aD (jB fA (aB ro_addA (aB aV (ae 0) (aq _)) (aq _)) (aq _))
   (bX (aN (aB Mi (ae 2) (aB Ku (aq _) (aq _)))) (jB fA (ae 2) (aq _)) (jB fA (aB jE (aB ro_addA (aB ro_addA (aB lP (aB aV (ae 0) (aq _)) (aq _)) (aB jE (ae 2) (aq _))) (aq _)) (aq _)) (aq _))))) bm)
   (aD (bX (aN (aB IZ (aB aV (ae 0) (aq _)) (aq _))) (aD (aR (aB jE (aB aV (ae 0) (aq _)) (ae 1)))
   (aD (jB fA (aB rV (aB aV (ae 0) (aq _)) (ae 1)) (aq _))
   (aM (ae 3)))) bm)
   (aD (jB fA (aB ro_addA (aB aV (ae 0) (aq _)) (aq _)) (aq _))
   (aD (jB fA (aB jE (aB ro_addA (aB ro_addA (aB lP (aB aV (ae 0) (aq _)) (aq _)) (aq _)) (aB aV (ae 0) (aq _))) (aq _)) (aq _))
   (aM (aB jE (aB rV (aB jE (aB lP (aB ro_addA (aB jE (aB aV (ae 0) (aq _)) (aq _)) (aq _)) (aB ro_addA (aB rV (aB aV (ae 0) (aq _)) (aq _)) (aq _))) (aq _)) (aq _)) (ae 1)))))))⟩
def qb(M:Md K mg)(c29:cN P w K mg base):Bd' P w K mg base "_law_letters" kx nl7 1 kH:=fun hr=>⟨_,(aA (aK (kF Dq PySem.F.slot_str_join PySem.F.type_str_join GY cS (az (cH (cI (osc:=(aw kx)) (ON:=nl7) (N:=["_law_k","_law_flow_here"]) (k:=1) (caps:=[0]) (by decide +kernel) rfl rfl) rfl (iA rfl M.n_range (az (pv 1) ah)) (fun _ _ _ _=>(bJ 0 (by show(["_law_k","_law_flow_here"]:List Str).Nodup;decide +kernel))) (fun _ _ _ _=>cP) (fun _ _ _ _=>(aO K cS (aF c29 hr rfl (az (pv 1) (az ao ah)))))) ah)))),
  (aM (Ei Hh (cY _) (aa (bV (lK (aa (ae 1) af)) (aS 0) (by decide) dF (aB aV (cY _) (cF (aa (aq _) af)))) af)))⟩
def vg(M:Md K mg)(c29:cN P w K mg base)(c30:iz P w K mg base):Bd' P w K mg base "_law_name" v6 MT 2 pq:=fun hr=>⟨_,(am (bW (aX (iS (K:=K) rfl hr.units) (pv 1) cS) (aA (aK (bL K (pv 1) (aF c30 hr rfl (az (pv 0) (az (bL K ao (aF c29 hr rfl (az (pv 0) (az ao ah)))) ah)))))) bj)
   (@am _ _ _ _ _ (bW (aX dW (aF c29 hr rfl (az (pv 0) (az ao ah))) ao) (@am _ _ _ _ _ (@bo _ _ _ _ 2 _ _ sc_sLname.nd (@cr _ _ _ _ (@rN _ _ _ (by rfl))) (by rfl) (by first|exact Or.inl rfl|exact Or.inr rfl) (by first|exact .inl rfl|exact .inr rfl) (by rfl) (by rfl) (by rfl))
   (am (bo 2 sc_sLname.nd (bL K (pv 2) (@cr _ _ _ _ (@rN _ _ _ (by rfl)))))
   (aA (aK (aO K (pv 2) (aF c29 hr rfl (az (pv 0) (az ao ah)))))))) bj)
   (aA (aK (aF c30 hr rfl (az (pv 0) (az (bL K ao (aF c29 hr rfl (az (pv 0) (az ao ah)))) ah))))))),
  (aD (bX (aN (aB ro_neA (ae 1) (cY _))) (aM (aB ro_addA (ae 1) (cF (aa (aB ro_addA (aq _) (cF (aa (aq _) af))) af)))) bm)
   (aD (bX (aN (aB ro_eqA (cF (aa (aq _) af)) (aq _))) (aD (aR (cw wY))
   (aD (aR (aB ro_addA (ae 2) (cw wY)))
   (aM (aB aV (ae 2) (cF (aa (aq _) af)))))) bm)
   (aM (cF (aa (aB ro_addA (aq _) (cF (aa (aq _) af))) af)))))⟩
def tm(M:Md K mg)(c29:cN P w K mg base)(c30:iz P w K mg base)(c31:pZ P w K mg base):Bd' P w K mg base "_law_names" sH MU 3 jQ:=fun hr=>⟨_,(am (bo 2 sc_sLnames.nd cS)
   (am (bW (aX dW (aF c29 hr rfl (az (pv 0) (az ao ah))) ao) (aA (bo 2 sc_sLnames.nd (aF c30 hr rfl (az (pv 0) (az (bL K ao (aF c29 hr rfl (az (pv 0) (az ao ah)))) ah))))) bj)
   (am (bo 3 sc_sLnames.nd (cr ah))
   (am (eS Ao rfl (iA rfl M.n_range (az (pv 1) ah)) (bJ 4 sc_sLnames.nd) (am (bo 5 sc_sLnames.nd (aF c31 hr rfl (az (pv 0) (az (pv 2) ah))))
   (am (bo 6 sc_sLnames.nd ao)
   (am (tH Ao (d8 (rW (K:=K) rfl) (pv 5) (pv 3) (by with_unfolding_all rfl)) (am (bo 5 sc_sLnames.nd (dH lO (aO K cS (dH jv (pv 6) ao)) (bL K ao (dH nV (pv 6) ao))))
   (aA (bo 6 sc_sLnames.nd (bL K (pv 6) ao)))))
   (aA (cj (cX (pv 3) (pv 5))))))))
   (aA (aK (pv 3))))))),
  (aD (aR (cY _))
   (aD (bX (aN (aB ro_eqA (cF (aa (aq _) af)) (aq _))) (aR (cF (aa (aB ro_addA (aq _) (cF (aa (aq _) af))) af))) bm)
   (aD (aR (cw af))
   (aD (eV (lK (aa (ae 1) af)) (aS 4) (aD (aR (cF (aa (ae 2) af)))
   (aD (aR (aq _))
   (aD (tV 200 (aN (aB ro_inA (ae 5) (ae 3))) (aD (aR (aB lP (aB aV (cY _) (aB jE (ae 6) (aq _))) (aB ro_addA (aq _) (aB rV (ae 6) (aq _)))))
   (aR (aB ro_addA (ae 6) (aq _)))))
   (ck (gA bU (aa (ae 5) af)))))))
   (aM (ae 3))))))⟩
def nQ(M:Md K mg)(c29:cN P w K mg base):Bd' P w K mg base "_law_shuffled" lm MV 1 jS:=fun hr=>⟨_,(am (bo 2 sc_sLshuffled.nd (gk (gB (K:=K) rfl rfl) rfl M.n_list dM (az (pv 1) ah)))
   (am (bo 3 sc_sLshuffled.nd (cr ah))
   (am (tH Ao (aX (iS (K:=K) rfl hr.units) (pv 2) (cr ah)) (aA (cj (cX (pv 3) (kF Au B0 BZ oB (pv 2) (az (aF c29 hr rfl (az (pv 0) (az (bP K M.n_len (pv 2)) ah))) ah))))))
   (aA (aK (pv 3)))))),
  (aD (aR (aP jH (aa (ae 1) af)))
   (aD (aR (cw af))
   (aD (tV 300 (aN (aB ro_neA (ae 2) (cw af))) (ck (gA bU (aa (gA oJ (aa (cF (aa (aP cy (aa (ae 2) af)) af)) af)) af))))
   (aM (ae 3)))))⟩
def nR(M:Md K mg):Bd' P w K mg base "_law_mirrored" lw nl3 0 jU:=fun hr=>⟨_,(am (bW (aX dW (aO K (pv 0) ao) cS) (aA (aK (di (fZ (K:=K) rfl) (pv 0) (dI ao) d9))) bj)
   (aA (aK (bL K cS (pv 0))))),
  (aD (bX (aN (aB ro_eqA (aB aV (ae 0) (aq _)) (cY _))) (aM (dj ee (ae 0) (cW (aq _)) fY)) bm)
   (aM (aB ro_addA (cY _) (ae 0))))⟩
def vh(M:Md K mg)(c29:cN P w K mg base)(c33:gR P w K mg base):Bd' P w K mg base "_law_line" sI FK 2 px:=fun hr=>⟨_,(aA (aK (df K M.n_tuple (cH (cI (osc:=(aw sI)) (ON:=FK) (N:=["_law_name_here","_law_flow_here"]) (k:=1) (caps:=[0]) (by decide +kernel) rfl rfl) rfl (bR (K:=K) rfl (aF c33 hr rfl (az (pv 0) (az (pv 1) ah)))) (fun _ _ _ _=>(bJ 0 (by show(["_law_name_here","_law_flow_here"]:List Str).Nodup;decide +kernel))) (fun _ _ _ _=>cP) (fun _ _ _ _=>(bL K (dH lO cS (aF c29 hr rfl (az (pv 1) (az ao ah)))) (pv 0))))))),
  (aM (aP cc (aa (bV (bS (cF (aa (ae 1) af))) (aS 0) (by decide) dF (aB ro_addA (aB lP (cY _) (cF (aa (aq _) af))) (ae 0))) af)))⟩
def wA(M:Md K mg)(c29:cN P w K mg base)(c35:p6 P w K mg base):Bd' P w K mg base "_law_set" FP MW 3 mN:=fun hr=>⟨_,(am (bo 3 sc_sLset.nd (cr ah))
   (am (bo 4 sc_sLset.nd (cr ah))
   (am (eS Ao rfl (bR (K:=K) rfl (aF c35 hr rfl (az (pv 0) (az (pv 1) ah)))) (bJ 5 sc_sLset.nd) (am (cj (cX (pv 4) (pv 5)))
   (aA (bW (aX dW (aF c29 hr rfl (az (pv 0) (az ao ah))) ao) (am (cj (cX (pv 3) (bc (az cS (az (df K M.n_tuple (pv 4)) ah)))))
   (aA (bo 4 sc_sLset.nd (cr ah)))) (aA (bW (PW.pt (hZ (cL (pv 2)) (f9 (aX dW (aF c29 hr rfl (az (pv 0) (az ao ah))) ao)))) (am (cj (cX (pv 3) (bc (az cS (az (df K M.n_tuple (pv 4)) ah)))))
   (aA (bo 4 sc_sLset.nd (cr ah)))) bj))))))
   (am (bW (aX (iS (K:=K) rfl hr.units) (pv 4) (cr ah)) (aA (cj (cX (pv 3) (bc (az cS (az (df K M.n_tuple (pv 4)) ah)))))) bj)
   (aA (aK (df K M.n_tuple (pv 3)))))))),
  (aD (aR (cw af))
   (aD (aR (cw af))
   (aD (eV (bS (cF (aa (ae 1) af))) (aS 5) (aD (ck (gA bU (aa (ae 5) af)))
   (bX (aN (aB ro_eqA (cF (aa (aq _) af)) (aq _))) (aD (ck (gA bU (aa (be (aa (cY _) (aa (aP cc (aa (ae 4) af)) af))) af)))
   (aR (cw af))) (bX (fP (dO (ae 2)) (aN (aB ro_eqA (cF (aa (aq _) af)) (aq _)))) (aD (ck (gA bU (aa (be (aa (cY _) (aa (aP cc (aa (ae 4) af)) af))) af)))
   (aR (cw af))) bm))))
   (aD (bX (aN (aB ro_neA (ae 4) (cw af))) (ck (gA bU (aa (be (aa (cY _) (aa (aP cc (aa (ae 4) af)) af))) af))) bm)
   (aM (aP cc (aa (ae 3) af)))))))⟩
def vi(M:Md K mg)(c29:cN P w K mg base)(c34:gS P w K mg base):Bd' P w K mg base "_law_near" mS FL 1 lg:=fun hr=>⟨_,(am (oE 3 (cI (osc:=(aw mS)) (ON:=FL) (N:=zg) (k:=2) (caps:=[]) (by decide +kernel) rfl rfl) rfl sc_sLnear.nd (bR (K:=K) rfl (pv 1)) (fun _ _ _ _=>(iX (K:=K) (n:=2) rfl rfl (cU (bJ 0 (by show(zg:List Str).Nodup;decide +kernel)) (cU (bJ 1 (by show(zg:List Str).Nodup;decide +kernel)) iL)))) (fun _ _ _ _=>cP) (fun _ _ _ _=>(bc (az (pv 0) (az (gk (gB (K:=K) rfl rfl) rfl M.n_list dM (az (pv 1) ah)) ah)))))
   (am (eS Ao rfl (iA rfl M.n_range (az (aF c29 hr rfl (az (pv 0) (az ao ah))) ah)) (bJ 4 sc_sLnear.nd) (aA (bW (aX (iS (K:=K) rfl hr.units) (pv 3) (cr ah)) (am (ib (kF Au B0 BZ oB (pv 3) (az (aF c29 hr rfl (az (pv 0) (az (bP K M.n_len (pv 3)) ah))) ah)) (iX (K:=K) (n:=2) rfl rfl (cU (bJ 5 sc_sLnear.nd) (cU (bJ 6 sc_sLnear.nd) iL))))
   (am (bo 7 sc_sLnear.nd (aF c29 hr rfl (az (pv 0) (az ao ah))))
   (am (bo 8 sc_sLnear.nd (aF c29 hr rfl (az (pv 0) (az (bP K M.n_len (pv 6)) ah))))
   (am (bo 9 sc_sLnear.nd (bL K (bL K (pv 8) ao) (aF c29 hr rfl (az (pv 0) (az (dH zT (bP K M.n_len (pv 6)) (pv 8)) ah)))))
   (am (bW (aX dW (pv 7) ao) (aA (bo 6 sc_sLnear.nd (bL K (bL K (di (fZ (K:=K) rfl) (pv 6) d9 (dI (pv 8))) (cH (cI (osc:=(aw mS)) (ON:=FL) (N:=nl3) (k:=1) (caps:=[]) (by decide +kernel) rfl rfl) rfl (bR (K:=K) rfl (xc (K:=K) rfl (di (fZ (K:=K) rfl) (pv 6) (dI (pv 8)) (dI (pv 9))))) (fun _ _ _ _=>(bJ 0 (by show(nl3:List Str).Nodup;decide +kernel))) (fun _ _ _ _=>cP) (fun _ _ _ _=>(aF c34 hr rfl (az (pv 0) ah))))) (di (fZ (K:=K) rfl) (pv 6) (dI (pv 9)) d9)))) (aA (bW (PW.pt (hZ (aX dW (pv 7) ao) (f9 (aX IH (pv 8) ao)))) (am (cj (cX (pv 3) (bc (az cS (az (di (fZ (K:=K) rfl) (pv 6) d9 (dI (pv 8))) ah)))))
   (am (bo 6 sc_sLnear.nd (di (fZ (K:=K) rfl) (pv 6) (dI (pv 8)) d9))
   (aA (bo 5 sc_sLnear.nd cS)))) (aA (bW (PW.pt (hZ (aX dW (pv 7) ao) (f9 (aX (iS (K:=K) rfl hr.units) (pv 3) (cr ah))))) (am (bo 10 sc_sLnear.nd (kF Au B0 BZ oB (pv 3) (az (aF c29 hr rfl (az (pv 0) (az (bP K M.n_len (pv 3)) ah))) ah)))
   (aA (bo 6 sc_sLnear.nd (bL K (pv 6) (aO K (pv 10) ao))))) (aA (bW (PW.pt (hZ (aX dW (pv 7) ao) (f9 (cL (pv 2))))) (aA (bo 5 sc_sLnear.nd (aO K (cr (az cS (az cS ah))) (aF c29 hr rfl (az (pv 0) (az ao ah)))))) bj)))))))
   (aA (cj (cX (pv 3) (bc (az (pv 5) (az (pv 6) ah))))))))))) bj)))
   (aA (aK (df K M.n_tuple (cH (cI (osc:=(aw mS)) (ON:=FL) (N:=zg) (k:=2) (caps:=[]) (by decide +kernel) rfl rfl) rfl (bR (K:=K) rfl (pv 3)) (fun _ _ _ _=>(iX (K:=K) (n:=2) rfl rfl (cU (bJ 0 (by show(zg:List Str).Nodup;decide +kernel)) (cU (bJ 1 (by show(zg:List Str).Nodup;decide +kernel)) iL)))) (fun _ _ _ _=>cP) (fun _ _ _ _=>(bc (az (pv 0) (az (df K M.n_tuple (pv 1)) ah)))))))))),
  (aD (aR (bV (bS (ae 1)) (kM (cV (aS 0) (cV (aS 1) iP))) (by decide) dF (be (aa (ae 0) (aa (aP jH (aa (ae 1) af)) af)))))
   (aD (eV (lK (aa (cF (aa (aq _) af)) af)) (aS 4) (bX (aN (aB ro_neA (ae 3) (cw af))) (aD (Ko (gA oJ (aa (cF (aa (aP cy (aa (ae 3) af)) af)) af)) (kM (cV (aS 5) (cV (aS 6) iP))))
   (aD (aR (cF (aa (aq _) af)))
   (aD (aR (cF (aa (aP cy (aa (ae 6) af)) af)))
   (aD (aR (aB ro_addA (aB ro_addA (ae 8) (aq _)) (cF (aa (aB D8 (aP cy (aa (ae 6) af)) (ae 8)) af))))
   (aD (bX (aN (aB ro_eqA (ae 7) (aq _))) (aR (aB ro_addA (aB ro_addA (dj ee (ae 6) fY (cW (ae 8))) (bV (bS (Ey (dj ee (ae 6) (cW (ae 8)) (cW (ae 9))))) (aS 0) (by decide) dF (bG (aa (ae 0) af)))) (dj ee (ae 6) (cW (ae 9)) fY))) (bX (fP (aN (aB ro_eqA (ae 7) (aq _))) (aN (aB IZ (ae 8) (aq _)))) (aD (ck (gA bU (aa (be (aa (cY _) (aa (dj ee (ae 6) fY (cW (ae 8))) af))) af)))
   (aD (aR (dj ee (ae 6) (cW (ae 8)) fY))
   (aR (cY _)))) (bX (fP (aN (aB ro_eqA (ae 7) (aq _))) (aN (aB ro_neA (ae 3) (cw af)))) (aD (aR (gA oJ (aa (cF (aa (aP cy (aa (ae 3) af)) af)) af)))
   (aR (aB ro_addA (ae 6) (aB aV (ae 10) (aq _))))) (bX (fP (aN (aB ro_eqA (ae 7) (aq _))) (dO (ae 2))) (aR (aB aV (cw (aa (cY _) (aa (cY _) af))) (cF (aa (aq _) af)))) bm))))
   (ck (gA bU (aa (be (aa (ae 5) (aa (ae 6) af))) af)))))))) bm))
   (aM (aP cc (aa (bV (bS (ae 3)) (kM (cV (aS 0) (cV (aS 1) iP))) (by decide) dF (be (aa (ae 0) (aa (aP cc (aa (ae 1) af)) af)))) af)))))⟩
def tq{n:Nat}{gs:List D->Option Rz}(M:Md K mg)(c38:Cal P w K mg base "_law_alike" n zf (spV K gs)):Bd' P w K mg base "_law_alike" oj zf n (nh gs):=fun hr=>⟨_,(am (bW (aX zV (pv 1) rD) (aA (aK (gZ zV (pv 0) rD))) bj)
   (am (bW (PW.pt (jl (cL (cn K M.n_isinstance (pv 1) (dY rfl M.n_bool gy))) (hW (cL (cn K M.n_isinstance (pv 0) (dY rfl M.n_bool gy)))))) (aA (aK (gw (cn K M.n_isinstance (pv 1) (dY rfl M.n_bool gy)) (gw (cn K M.n_isinstance (pv 0) (dY rfl M.n_bool gy)) (ia (gZ dW (pv 0) (pv 1))))))) bj)
   (am (bW (cL (cn K M.n_isinstance (pv 1) (dY rfl M.n_int mz))) (aA (aK (gw (cn K M.n_isinstance (pv 0) (dY rfl M.n_int mz)) (ia (gZ dW (pv 0) (pv 1)))))) bj)
   (am (bW (cL (cn K M.n_isinstance (pv 1) (dY rfl M.n_str kh))) (aA (aK (gw (cn K M.n_isinstance (pv 0) (dY rfl M.n_str kh)) (ia (gZ dW (pv 0) (pv 1)))))) bj)
   (am (bW (PW.pt (jl (aX (iS (K:=K) rfl hr.units) (cn K M.n_isinstance (pv 1) (dY rfl M.n_tuple dN)) (cn K M.n_isinstance (pv 0) (dY rfl M.n_tuple dN))) (hW (aX (iS (K:=K) rfl hr.units) (cn K M.n_isinstance (pv 1) (dY rfl M.n_list dM)) (cn K M.n_isinstance (pv 0) (dY rfl M.n_list dM)))))) (aA (aK jt)) bj)
   (aA (aK (gw (gZ dW (bP K M.n_len (pv 0)) (bP K M.n_len (pv 1))) (ia (cf (iD rfl) rfl M.n_all boot_all (az (cH (cI (osc:=(aw oj)) (ON:=zf) (N:=["_law_k","_law_found","_law_due"]) (k:=1) (caps:=[0,1]) (by decide +kernel) rfl rfl) rfl (iA rfl M.n_range (az (bP K M.n_len (pv 1)) ah)) (fun _ _ _ _=>(bJ 0 (by show(["_law_k","_law_found","_law_due"]:List Str).Nodup;decide +kernel))) (fun _ _ _ _=>cP) (fun _ _ _ _=>(aF c38 hr rfl (az (aO K (pv 1) (pv 0)) (az (aO K (pv 2) (pv 0)) ah)) (Qa _)))) ah))))))))))),
  (aD (bX (aN (aB D9 (ae 1) rP)) (aM (aB D9 (ae 0) rP)) bm)
   (aD (bX (fX (dO (aP bz (aa (ae 1) (aa (fz fun _ _=>.ty _) af)))) (dO (aP bz (aa (ae 0) (aa (fz fun _ _=>.ty _) af))))) (aM (eU (aP bz (aa (ae 1) (aa (fz fun _ _=>.ty _) af))) (eU (aP bz (aa (ae 0) (aa (fz fun _ _=>.ty _) af))) (aB ro_eqA (ae 0) (ae 1))))) bm)
   (aD (bX (dO (aP bz (aa (ae 1) (aa (fz fun _ _=>.ty _) af)))) (aM (eU (aP bz (aa (ae 0) (aa (fz fun _ _=>.ty _) af))) (aB ro_eqA (ae 0) (ae 1)))) bm)
   (aD (bX (dO (aP bz (aa (ae 1) (aa (fz fun _ _=>.ty _) af)))) (aM (eU (aP bz (aa (ae 0) (aa (fz fun _ _=>.ty _) af))) (aB ro_eqA (ae 0) (ae 1)))) bm)
   (aD (bX (fX (aN (aB ro_neA (aP bz (aa (ae 1) (aa (fz fun _ _=>.ty _) af))) (aP bz (aa (ae 0) (aa (fz fun _ _=>.ty _) af))))) (aN (aB ro_neA (aP bz (aa (ae 1) (aa (fz fun _ _=>.ty _) af))) (aP bz (aa (ae 0) (aa (fz fun _ _=>.ty _) af)))))) (aM (jz _)) bm)
   (aM (eU (aB ro_eqA (aP cy (aa (ae 0) af)) (aP cy (aa (ae 1) af))) (aP mE (aa (bV (lK (aa (aP cy (aa (ae 1) af)) af)) (aS 0) (by decide) dF (bG (aa (aB aV (ae 1) (ae 0)) (aa (aB aV (ae 2) (ae 0)) af)))) af)))))))))⟩
def vj(M:Md K mg):Bd' P w K mg base "_law_ends" v7 nl3 0 pA:=fun hr=>⟨_,(am (bW (aX dW (aO K (pv 0) ao) cS) (aA (aK (bc (az (bc (az (di (fZ (K:=K) rfl) (pv 0) (dI ao) d9) (az ao ah))) (az (bc (az (di (fZ (K:=K) rfl) (pv 0) (dI ao) d9) (az ao ah))) ah))))) bj)
   (aA (aK (bc (az (bc (az (pv 0) (az ao ah))) (az (bc (az (pv 0) (az ao ah))) ah)))))),
  (aD (bX (aN (aB ro_eqA (aB aV (ae 0) (aq _)) (cY _))) (aM (be (aa (be (aa (dj ee (ae 0) (cW (aq _)) fY) (aa (aq _) af))) (aa (be (aa (dj ee (ae 0) (cW (aq _)) fY) (aa (aq _) af))) af)))) bm)
   (aM (be (aa (be (aa (ae 0) (aa (aq _) af))) (aa (be (aa (ae 0) (aa (aq _) af))) af)))))⟩
def qq(M:Md K mg)(c39:p8 P w K mg base):Bd' P w K mg base "_law_joints" me Lj 1 jb:=fun hr=>⟨_,(am (bo 1 sc_sLjoints.nd (cr ah))
   (am (eS Ao rfl (bR (K:=K) rfl (pv 0)) (iX (K:=K) (n:=2) rfl rfl (cU (bJ 2 sc_sLjoints.nd) (cU (bJ 3 sc_sLjoints.nd) iL))) (am (oE 4 (cI (osc:=(aw me)) (ON:=Lj) (N:=nl3) (k:=1) (caps:=[]) (by decide +kernel) rfl rfl) rfl sc_sLjoints.nd (bR (K:=K) rfl (pv 3)) (fun _ _ _ _=>(bJ 0 (by show(nl3:List Str).Nodup;decide +kernel))) (fun _ _ _ _=>cP) (fun _ _ _ _=>(aF c39 hr rfl (az (pv 0) ah))))
   (am (eS Ao rfl (iA rfl M.n_range (az (dH zT (bP K M.n_len (pv 4)) ao) ah)) (bJ 5 sc_sLjoints.nd) (aA (cj (cX (pv 1) (df K M.n_tuple (cf (dB (K:=K) rfl hr) rfl M.n_sorted boot_sorted (az (cr (az (aO K (aO K (pv 4) (pv 5)) ao) (az (aO K (aO K (pv 4) (bL K (pv 5) ao)) ao) ah))) ah)))))))
   (aA (bW (aX dW (pv 2) cS) (aA (cj (cX (pv 1) (df K M.n_tuple (cf (dB (K:=K) rfl hr) rfl M.n_sorted boot_sorted (az (cr (az (aO K (aO K (pv 4) (zR vv ao)) ao) (az (aO K (aO K (pv 4) ao) ao) ah))) ah)))))) (am (cj (cX (pv 1) (bc (az (aO K (aO K (pv 4) ao) ao) ah))))
   (aA (cj (cX (pv 1) (bc (az (aO K (aO K (pv 4) (zR vv ao)) ao) ah)))))))))))
   (aA (aK (df K M.n_tuple (cf (dB (K:=K) rfl hr) rfl M.n_sorted boot_sorted (az (pv 1) ah))))))),
  (aD (aR (cw af))
   (aD (eV (bS (ae 0)) (kM (cV (aS 2) (cV (aS 3) iP))) (aD (aR (bV (bS (ae 3)) (aS 0) (by decide) dF (aY (aa (ae 0) af))))
   (aD (eV (lK (aa (aB D8 (aP cy (aa (ae 4) af)) (aq _)) af)) (aS 5) (ck (gA bU (aa (aP cc (aa (aP fk (aa (cw (aa (aB aV (aB aV (ae 4) (ae 5)) (aq _)) (aa (aB aV (aB aV (ae 4) (aB ro_addA (ae 5) (aq _))) (aq _)) af))) af)) af)) af))))
   (bX (aN (aB ro_eqA (ae 2) (cY _))) (ck (gA bU (aa (aP cc (aa (aP fk (aa (cw (aa (aB aV (aB aV (ae 4) (DU vI (aq _))) (aq _)) (aa (aB aV (aB aV (ae 4) (aq _)) (aq _)) af))) af)) af)) af))) (aD (ck (gA bU (aa (be (aa (aB aV (aB aV (ae 4) (aq _)) (aq _)) af)) af)))
   (ck (gA bU (aa (be (aa (aB aV (aB aV (ae 4) (DU vI (aq _))) (aq _)) af)) af))))))))
   (aM (aP cc (aa (aP fk (aa (ae 1) af)) af)))))⟩
def qt(M:Md K mg):Bd' P w K mg base "_law_behind" mf FM 0 lY:=fun hr=>⟨_,(aA (aK (df K M.n_tuple (cf (dB (K:=K) rfl hr) rfl M.n_sorted boot_sorted (az (dH (sn (K:=K) rfl) (cH (cI (osc:=(aw mf)) (ON:=FM) (N:=["_law_joint","_law_deed"]) (k:=1) (caps:=[1]) (by decide +kernel) rfl rfl) rfl (bR (K:=K) rfl (pv 0)) (fun _ _ _ _=>(bJ 0 (by show(["_law_joint","_law_deed"]:List Str).Nodup;decide +kernel))) (fun _ _ _ _=>kg (d8 (gm (K:=K) rfl hr.units) (pv 0) (aO K (pv 1) ao) (by with_unfolding_all rfl))) (fun _ _ _ _=>(pv 0))) (gk (gB (K:=K) rfl rfl) rfl M.n_list dM (az (aO K (pv 1) ao) ah))) ah))))),
  (aM (aP cc (aa (aP fk (aa (aB sr (bV (bS (ae 0)) (aS 0) (by decide) (aN (aB gq (ae 0) (aB aV (ae 1) (aq _)))) (ae 0)) (aP jH (aa (aB aV (ae 1) (aq _)) af))) af)) af)))⟩
def nU(M:Md K mg)(c29:cN P w K mg base)(c33:gR P w K mg base)(c34:gS P w K mg base):Bd' P w K mg base "_law_restated" jf Lk 2 gO:=fun hr=>⟨_,(am (bo 2 sc_sLrestated.nd (cr ah))
   (am (eS Ao rfl (bR (K:=K) rfl (aF c33 hr rfl (az (pv 0) (az (pv 1) ah)))) (iX (K:=K) (n:=2) rfl rfl (cU (bJ 3 sc_sLrestated.nd) (cU (bJ 4 sc_sLrestated.nd) iL))) (am (bW (aX dW (pv 3) cS) (am (bo 5 sc_sLrestated.nd (aF c29 hr rfl (az (pv 0) (az (bP K M.n_len (pv 4)) ah))))
   (aA (bo 4 sc_sLrestated.nd (dH (sn (K:=K) rfl) (di (xk (K:=K) rfl) (pv 4) (dI (pv 5)) d9) (di (xk (K:=K) rfl) (pv 4) d9 (dI (pv 5))))))) bj)
   (am (bW (aX dW (aF c29 hr rfl (az (pv 0) (az ao ah))) ao) (aA (bo 4 sc_sLrestated.nd (df K M.n_tuple (cH (cI (osc:=(aw jf)) (ON:=Lk) (N:=nl3) (k:=1) (caps:=[]) (by decide +kernel) rfl rfl) rfl (bR (K:=K) rfl (xc (K:=K) rfl (pv 4))) (fun _ _ _ _=>(bJ 0 (by show(nl3:List Str).Nodup;decide +kernel))) (fun _ _ _ _=>cP) (fun _ _ _ _=>(aF c34 hr rfl (az (pv 0) ah))))))) bj)
   (aA (cj (cX (pv 2) (bc (az (pv 3) (az (pv 4) ah)))))))))
   (aA (aK (df K M.n_tuple (pv 2)))))),
  (aD (aR (cw af))
   (aD (eV (bS (cF (aa (ae 1) af))) (kM (cV (aS 3) (cV (aS 4) iP))) (aD (bX (aN (aB ro_eqA (ae 3) (cY _))) (aD (aR (cF (aa (aP cy (aa (ae 4) af)) af)))
   (aR (aB sr (dj t9 (ae 4) (cW (ae 5)) fY) (dj t9 (ae 4) fY (cW (ae 5)))))) bm)
   (aD (bX (aN (aB ro_eqA (cF (aa (aq _) af)) (aq _))) (aR (aP cc (aa (bV (bS (Ey (ae 4))) (aS 0) (by decide) dF (bG (aa (ae 0) af))) af))) bm)
   (ck (gA bU (aa (be (aa (ae 3) (aa (ae 4) af))) af))))))
   (aM (aP cc (aa (ae 2) af)))))⟩
def vm(M:Md K mg):Bd' P w K mg base "_law_good" v8 MZ 0 pB:=fun hr=>⟨_,(am (bo 2 sc_sLgood.nd (cr ah))
   (am (eS Ao rfl (bR (K:=K) rfl (pv 0)) (bJ 3 sc_sLgood.nd) (aA (bW (PW.pt (hZ (aX (oO (K:=K) rfl hr.units) (bP K M.n_len (pv 3)) ao) (f9 (d8 (gm (K:=K) rfl hr.units) (pv 3) (pv 1) (by with_unfolding_all rfl))))) (aA (cj (cX (pv 2) (bc (az (bc (az (pv 3) ah)) (az (bc (az (bc (az (aO K (pv 3) ao) ah)) (az (bc (az (aO K (pv 3) ao) ah)) ah))) ah)))))) bj)))
   (am (eS Ao rfl (bR (K:=K) rfl (pv 1)) (bJ 3 sc_sLgood.nd) (aA (bW (PW.pt (hZ (aX (oO (K:=K) rfl hr.units) (bP K M.n_len (pv 3)) ao) (hZ (d8 (EG (K:=K) rfl hr.units) (bc (az (aO K (pv 3) ao) ah)) (pv 0) (by with_unfolding_all rfl)) (f9 (d8 (EG (K:=K) rfl hr.units) (bc (az (aO K (pv 3) ao) ah)) (pv 0) (by with_unfolding_all rfl)))))) (aA (cj (cX (pv 2) (bc (az (bc (az (bc (az (aO K (pv 3) ao) ah)) (az (bc (az (aO K (pv 3) ao) ah)) ah))) (az (bc (az (pv 3) ah)) ah)))))) bj)))
   (aA (aK (pv 2)))))),
  (aD (aR (cw af))
   (aD (eV (bS (ae 0)) (aS 3) (bX (fP (aN (aB oP (aP cy (aa (ae 3) af)) (aq _))) (aN (aB gq (ae 3) (ae 1)))) (ck (gA bU (aa (be (aa (be (aa (ae 3) af)) (aa (be (aa (be (aa (aB aV (ae 3) (aq _)) af)) (aa (be (aa (aB aV (ae 3) (aq _)) af)) af))) af))) af))) bm))
   (aD (eV (bS (ae 1)) (aS 3) (bX (fP (aN (aB oP (aP cy (aa (ae 3) af)) (aq _))) (fP (aN (aB EH (be (aa (aB aV (ae 3) (aq _)) af)) (ae 0))) (aN (aB EH (be (aa (aB aV (ae 3) (aq _)) af)) (ae 0))))) (ck (gA bU (aa (be (aa (be (aa (be (aa (aB aV (ae 3) (aq _)) af)) (aa (be (aa (aB aV (ae 3) (aq _)) af)) af))) (aa (be (aa (ae 3) af)) af))) af))) bm))
   (aM (ae 2)))))⟩
def tu(M:Md K mg):Bd' P w K mg base "_law_apart" mi HS 0 ni:=fun hr=>⟨_,(am (oE 2 (cI (osc:=(aw mi)) (ON:=HS) (N:=["_law_joint","_law_theirs"]) (k:=1) (caps:=[1]) (by decide +kernel) rfl rfl) rfl sc_sLapart.nd (bR (K:=K) rfl (pv 0)) (fun _ _ _ _=>(bJ 0 (by show(["_law_joint","_law_theirs"]:List Str).Nodup;decide +kernel))) (fun _ _ _ _=>kg (PW.pt (hZ (aX (oO (K:=K) rfl hr.units) (bP K M.n_len (pv 0)) ao) (f9 (d8 (gm (K:=K) rfl hr.units) (pv 0) (pv 1) (by with_unfolding_all rfl)))))) (fun _ _ _ _=>(pv 0)))
   (aA (aK (bL K (bP K M.n_len (pv 2)) (bP K M.n_len (cH (cI (osc:=(aw mi)) (ON:=HS) (N:=["_law_joint","_law_joints_here"]) (k:=1) (caps:=[0]) (by decide +kernel) rfl rfl) rfl (bR (K:=K) rfl (pv 1)) (fun _ _ _ _=>(bJ 0 (by show(["_law_joint","_law_joints_here"]:List Str).Nodup;decide +kernel))) (fun _ _ _ _=>kg (PW.pt (hZ (aX (oO (K:=K) rfl hr.units) (bP K M.n_len (pv 0)) ao) (f9 (d8 (gm (K:=K) rfl hr.units) (pv 0) (pv 1) (by with_unfolding_all rfl)))))) (fun _ _ _ _=>(pv 0)))))))),
  (aD (aR (bV (bS (ae 0)) (aS 0) (by decide) (fP (aN (aB oP (aP cy (aa (ae 0) af)) (aq _))) (aN (aB gq (ae 0) (ae 1)))) (ae 0)))
   (aM (aB ro_addA (aP cy (aa (ae 2) af)) (aP cy (aa (bV (bS (ae 1)) (aS 0) (by decide) (fP (aN (aB oP (aP cy (aa (ae 0) af)) (aq _))) (aN (aB gq (ae 0) (ae 1)))) (ae 0)) af)))))⟩
def tw(M:Md K mg)(c29:cN P w K mg base)(c36:mX P w K mg base)(c37:p7 P w K mg base)(c42:gU P w K mg base):Bd' P w K mg base "_law_other" sJ HU 4 nj:=fun hr=>⟨_,(am (bW (aX dW (aF c29 hr rfl (az (pv 0) (az ao ah))) ao) (aA (aK (rO c36 hr rfl (az (pv 0) (az (pv 2) ah))))) bj)
   (aA (aK (aF c42 hr rfl (az (pv 0) (az (rO c37 hr rfl (az (pv 0) (az (pv 1) ah))) ah)))))),
  (aD (bX (aN (aB ro_eqA (cF (aa (aq _) af)) (aq _))) (aM (vN (fun _ _=>El.one (.bl _)) (aa (ae 2) af))) bm)
   (aM (cF (aa (vN (fun _ _=>El.one (.bl _)) (aa (ae 1) af)) af))))⟩
def tz(M:Md K mg)(c38:kf P w K mg base)(c41:mw P w K mg base)(c43:p9 P w K mg base)(c44:nB P w K mg base):Bd' P w K mg base "_law_right" sK M1 8 nk:=fun hr=>⟨_,(am (bW (PW.pt (jl (eQ (cL (cn K M.n_isinstance (pv 0) (dY rfl M.n_list dM)))) (hW (aX (si (K:=K) rfl hr.units) (bP K M.n_len (pv 0)) (aF c44 hr rfl (az (pv 1) (az (pv 2) ah))))))) (aA (aK jt)) bj)
   (am (eS Ao rfl (bR (K:=K) rfl (pv 0)) (bJ 3 sc_sLright.nd) (am (bo 4 sc_sLright.nd (aF c43 hr rfl (az (pv 1) (az (pv 2) ah))))
   (am (bW (PW.pt (jl (d8 (gm (K:=K) rfl hr.units) (pv 3) (pv 4) (by with_unfolding_all rfl)) (hW (eQ (cL (aF c38 hr rfl (az (pv 3) (az (aO K (pv 4) (kF Au Dj PySem.F.type_list_index (y8 (K:=K) rfl hr.units) (pv 4) (az (pv 3) ah))) ah)))))))) (aA (aK jt)) bj)
   (aA (bo 1 sc_sLright.nd (aF c41 hr rfl (az (pv 1) (az (pv 3) ah))))))))
   (aA (aK (gZ (oO (K:=K) rfl hr.units) (pv 1) (pv 2)))))),
  (aD (bX (fX (dJ (dO (aP bz (aa (ae 0) (aa (fz fun _ _=>.ty _) af))))) (aN (aB sk (aP cy (aa (ae 0) af)) (bG (aa (ae 1) (aa (ae 2) af)))))) (aM (jz _)) bm)
   (aD (eV (bS (ae 0)) (aS 3) (aD (aR (aY (aa (ae 1) (aa (ae 2) af))))
   (aD (bX (fX (aN (aB gq (ae 3) (ae 4))) (dJ (dO (bG (aa (ae 3) (aa (aB aV (ae 4) (Ei y9 (ae 4) (aa (ae 3) af))) af)))))) (aM (jz _)) bm)
   (aR (aY (aa (ae 1) (aa (ae 3) af)))))))
   (aM (aB oP (ae 1) (ae 2)))))⟩
def LJ(M:Md K mg)(c27:rB P w K mg base)(c28:pY P w K mg base)(c29:cN P w K mg base)(c32:nA P w K mg base)(c36:mX P w K mg base)(c38:kf P w K mg base)(c40:mv P w K mg base)(c42:gU P w K mg base)(c45:nC P w K mg base)(c46:nE P w K mg base):Bd' P w K mg base "law" Ll M4 9 Jp:=fun hr=>⟨_,(am (bo 1 sc_slaw.nd (aF c28 hr rfl (az (pv 0) ah)))
   (am (bo 2 sc_slaw.nd (aF c32 hr rfl (az (pv 1) (az (aF c29 hr rfl (az (pv 1) (az ao ah))) ah))))
   (am (bo 3 sc_slaw.nd (rO c36 hr rfl (az (pv 1) (az (pv 2) ah))))
   (am (bo 4 sc_slaw.nd (aF c45 hr rfl (az (pv 1) (az (pv 3) (az (pv 2) ah)))))
   (am (bo 5 sc_slaw.nd (aF c40 hr rfl (az (pv 3) ah)))
   (am (bo 6 sc_slaw.nd (aF c40 hr rfl (az (pv 4) ah)))
   (am (bo 7 sc_slaw.nd (aF c27 hr rfl (az (pv 3) (az (pv 4) ah))))
   (am (bo 8 sc_slaw.nd (gk (gB (K:=K) rfl rfl) rfl M.n_list dM (az (pv 7) ah)))
   (am (bW (eQ (cL (aF c46 hr rfl (az (pv 7) (az (pv 5) (az (pv 6) ah)))))) (aA (aK jt)) bj)
   (am (cj (cX (pv 7) rD))
   (am (ib rD (ju (pv 7) ao set_list))
   (am (bW (eQ (cL (aF c46 hr rfl (az (aF c27 hr rfl (az (pv 4) (az (pv 3) ah))) (az (pv 6) (az (pv 5) ah)))))) (aA (aK jt)) bj)
   (aA (aK (gw (aF c38 hr rfl (az (aF c27 hr rfl (az (pv 3) (az (pv 4) ah))) (az (pv 8) ah))) (ia (aF c38 hr rfl (az (aF c27 hr rfl (az (pv 4) (az (aF c42 hr rfl (az (pv 1) (az (pv 4) ah))) ah))) (az (cr ah) ah))))))))))))))))))),
  (aD (aR (aY (aa (ae 0) af)))
   (aD (aR (cF (aa (cF (aa (aq _) af)) af)))
   (aD (aR (vN (fun _ _=>El.one (.bl _)) (aa (ae 2) af)))
   (aD (aR (cF (aa (ae 3) (aa (ae 2) af))))
   (aD (aR (aY (aa (ae 3) af)))
   (aD (aR (aY (aa (ae 4) af)))
   (aD (aR (aY (aa (ae 3) (aa (ae 4) af))))
   (aD (aR (aP jH (aa (ae 7) af)))
   (aD (bX (dJ (dO (uv (aa (ae 7) (aa (ae 5) (aa (ae 6) af)))))) (aM (jz _)) bm)
   (aD (ck (gA bU (aa rP af)))
   (aD (jB fA rP (aq _))
   (aD (bX (dJ (dO (uv (aa (aY (aa (ae 4) (aa (ae 3) af))) (aa (ae 6) (aa (ae 5) af)))))) (aM (jz _)) bm)
   (aM (eU (bG (aa (aY (aa (ae 3) (aa (ae 4) af))) (aa (ae 8) af))) (bG (aa (aY (aa (ae 4) (aa (cF (aa (ae 4) af)) af))) (aa (cw af) af)))))))))))))))))⟩
end
set_option maxHeartbeats 0 in
def all_mk{l:PySem.W.OpenLaw}{w:World}{K:Ab}{h:Heap}{mg:Str->Option Value}{fa:Addr}(X:K.In h)(G:h.Ns mainGlobals mg)(hfa:mg "law"=some (.ref fa))
  (h1:FH K "is_name" n9)(h2:FH K "is_turned" mO)(h3:FH K "name_of" sC)(h4:FH K "mirrored" mP)(h5:FH K "beads_in" pC)(h6:FH K "names_in" lZ)(h7:FH K "is_whole" pD)(h8:FH K "refuse_lacks" gf)(h9:FH K "left_end" pE)(h10:FH K "right_end" mQ)(h11:FH K "joint_of" pF)(h12:FH K "rising" og)(h13:FH K "is_end" vZ)(h14:FH K "is_joint" ma)(h15:FH K "inner_joints" gh)(h16:FH K "strand_joints" ix)(h17:FH K "joints_of" mR)(h18:FH K "is_half" oh)(h19:FH K "sizes" sE)(h20:FH K "ends_of" sF)(h21:FH K "is_deed" oi)(h22:FH K "back" FN)(h23:FH K "cut_of" v0)(h24:FH K "pairs_in" md)(h25:FH K "pairs_lacked" gi)(h26:FH K "pairs_apart" jX)(h27:FH K "cuts_and_joins" d7)(h28:FH K "row_one" sG)(h29:FH K "_law_flow" v4)(h30:FH K "_law_pick" v5)(h31:FH K "_law_letters" kx)(h32:FH K "_law_name" v6)(h33:FH K "_law_names" sH)(h34:FH K "_law_shuffled" lm)(h35:FH K "_law_mirrored" lw)(h36:FH K "_law_line" sI)(h37:FHD K "_law_set" FP [.bool true])(h38:FHD K "_law_near" mS [.bool true])(h39:FH K "_law_alike" oj)(h40:FH K "_law_ends" v7)(h41:FH K "_law_joints" me)(h42:FH K "_law_behind" mf)(h43:FH K "_law_restated" jf)(h44:FH K "_law_good" v8)(h45:FH K "_law_apart" mi)(h46:FH K "_law_other" sJ)(h47:FH K "_law_right" sK)(h48:FH K "law" Ll){ct_LETTERS:Tok}(cv_LETTERS:PySem.W.nsIn K mainGlobals "LETTERS"=some (some (.str "abcdefghijklmnopqrstuvwxyz" ct_LETTERS))){ct_LONGEST_NAME:Tok}(cv_LONGEST_NAME:PySem.W.nsIn K mainGlobals "LONGEST_NAME"=some (some (.int 6 ct_LONGEST_NAME))){cA_FORMS:Addr}(ca_FORMS:PySem.W.nsIn K mainGlobals "FORMS"=some (some (.ref cA_FORMS)))(cg_FORMS:GV K (.ref cA_FORMS) (.tup [.tup [.tup [.int 2],.tup [.int 1,.int 1]],.tup [.tup [.int 1,.int 1],.tup [.int 2]],.tup [.tup [.int 2,.int 2],.tup [.int 2,.int 2]],.tup [.tup [.int 1,.int 2],.tup [.int 1,.int 2]]]))
  (z_all:PySem.W.nsIn K mainGlobals "all"=some none) (z_bool:PySem.W.nsIn K mainGlobals "bool"=some none) (z_int:PySem.W.nsIn K mainGlobals "int"=some none) (z_isinstance:PySem.W.nsIn K mainGlobals "isinstance"=some none) (z_len:PySem.W.nsIn K mainGlobals "len"=some none) (z_list:PySem.W.nsIn K mainGlobals "list"=some none) (z_range:PySem.W.nsIn K mainGlobals "range"=some none) (z_sorted:PySem.W.nsIn K mainGlobals "sorted"=some none) (z_str:PySem.W.nsIn K mainGlobals "str"=some none) (z_tuple:PySem.W.nsIn K mainGlobals "tuple"=some none) (z_zip:PySem.W.nsIn K mainGlobals "zip"=some none) :
  ∃fd:FuncData,(∀(s:Shared)(v:Value),BindsTo s fd ⟨[v],[]⟩ [("_law_script",v)])/\∀base:Heap,K.In base->base.Ns mainGlobals mg->FnOk l.prog w K mg base CX0 10 fa fd nl9 (xf K):=by
 have M:Md K mg:=⟨Aq X G z_all,Aq X G z_bool,Aq X G z_int,Aq X G z_isinstance,Aq X G z_len,Aq X G z_list,Aq X G z_range,Aq X G z_sorted,Aq X G z_str,Aq X G z_tuple,Aq X G z_zip,⟨_,AC X G cv_LETTERS⟩,⟨_,AC X G cv_LONGEST_NAME⟩,cg_FORMS.glt (AC X G ca_FORMS)⟩;refine h48.law X G hfa sc_slaw (fun _ _ _ _ _ _=>ar1 fun _=>rfl) Iy fun base=>?_;have c0:rl l.prog w K mg base:=h1.cal X G v9 (fun _ _ _ _ _ _=>ar1 fun _=>rfl) (wu M);have c1:hV l.prog w K mg base:=h2.cal X G sL (fun _ _ _ _ _ _=>ar1 fun _=>rfl) (sZ M);have c2:kB l.prog w K mg base:=h3.cal X G wa (fun _ _ _ _ _ _=>ar1 fun _=>rfl) (wv M c1);have c3:pQ l.prog w K mg base:=h4.cal X G sM (fun _ _ _ _ _ _=>ar1 fun _=>rfl) (u6 M c1 c2);have c4:pR l.prog w K mg base:=h5.cal X G sc_sbeadsin (fun _ _ _ _ _ _=>ar1 fun _=>rfl) (u7 M);have c5:pS l.prog w K mg base:=h6.cal X G uG (fun _ _ _ _ _ _=>ar1 fun _=>rfl) (u8 M c2 c4);have c6:pU l.prog w K mg base:=h7.cal X G uH (fun _ _ _ _ _ _=>ar1 fun _=>rfl) (u9 M);have c7:j8 l.prog w K mg base:=h8.cal X G sc_srefuselacks (fun _ _ _ _ _ _=>ar1 fun _=>rfl) (nN M c5);have c8:jk l.prog w K mg base:=h9.cal X G uI (fun _ _ _ _ _ _=>ar1 fun _=>rfl) (va M c1 c2);have c9:j9 l.prog w K mg base:=h10.cal X G sN (fun _ _ _ _ _ _=>ar1 fun _=>rfl) (tf M c3 c8);have c10:lC l.prog w K mg base:=h11.cal X G uJ (fun _ _ _ _ _ _=>ar1 fun _=>rfl) (vb M);have c11:mt l.prog w K mg base:=h12.cal X G wc (fun _ _ _ _ _ _=>ar1 fun _=>rfl) (zJ M);have c12:u4 l.prog w K mg base:=h13.cal X G zh (fun _ _ _ _ _ _=>ar1 fun _=>rfl) (zK M c0 c6);have c13:pV l.prog w K mg base:=h14.cal X G uK (fun _ _ _ _ _ _=>ar1 fun _=>rfl) (vc M c11 c12);have c14:kc l.prog w K mg base:=h15.cal X G nL (fun _ _ _ _ _ _=>ar1 fun _=>rfl) (nO M c8 c9 c10);have c15:jr l.prog w K mg base:=h16.cal X G sc_sstrandjoints (fun _ _ _ _ _ _=>ar1 fun _=>rfl) (mY M c8 c9 c10 c14);have c16:nr l.prog w K mg base:=h17.cal X G sc_sjointsof (fun _ _ _ _ _ _=>ar1 fun _=>rfl) (tj M c15);have c17:rm l.prog w K mg base:=h18.cal X G wd (fun _ _ _ _ _ _=>ar1 fun _=>rfl) (ww M c11 c13);have c18:yh l.prog w K mg base:=h19.cal X G zi (fun _ _ _ _ _ _=>ar1 fun _=>rfl) (GJ M);have c19:rq l.prog w K mg base:=h20.cal X G sc_sendsof (fun _ _ _ _ _ _=>ar1 fun _=>rfl) (wx M);have c20:rA l.prog w K mg base:=h21.cal X G sc_sisdeed (fun _ _ _ _ _ _=>ar1 fun _=>rfl) (wy M c11 c17 c18 c19)
 have c21:GI l.prog w K mg base:=h22.cal X G FQ (fun _ _ _ _ _ _=>ar1 fun _=>rfl) (Iz M c20);have c22:u5 l.prog w K mg base:=h23.cal X G zj (fun _ _ _ _ _ _=>ar1 fun _=>rfl) (zL M);have c23:pW l.prog w K mg base:=h24.cal X G uL (fun _ _ _ _ _ _=>ar1 fun _=>rfl) (vd M);have c24:ke l.prog w K mg base:=h25.cal X G nM (fun _ _ _ _ _ _=>ar2 fun _ _=>rfl) (nP M c23);have c25:kI l.prog w K mg base:=h26.cal X G pG (fun _ _ _ _ _ _=>ar2 fun _ _=>rfl) (qa M c24);have c26:iK l.prog w K mg base:=h27.cal X G sc_scutsandjoins (fun _ _ _ _ _ _=>ar2 fun _ _=>rfl) (mx M c7 c16 c21 c22 c25);have c27:rB l.prog w K mg base:=h28.cal X G sc_srowone (fun _ _ _ _ _ _=>ar2 fun _ _=>rfl) (wz M c26);have c28:pY l.prog w K mg base:=h29.cal X G zk (fun _ _ _ _ _ _=>ar1 fun _=>rfl) (ve M);have c29:cN l.prog w K mg base:=h30.calI X G sc_sLpick (fun _ _ _ _ _ _=>ar2 fun _ _=>rfl) (vf M);have c30:iz l.prog w K mg base:=h31.calI X G sO (fun _ _ _ _ _ _=>ar2 fun _ _=>rfl) (qb M c29);have c31:pZ l.prog w K mg base:=h32.calI X G sc_sLname (fun _ _ _ _ _ _=>ar2 fun _ _=>rfl) (vg M c29 c30);have c32:nA l.prog w K mg base:=h33.calI X G sc_sLnames (fun _ _ _ _ _ _=>ar2 fun _ _=>rfl) (tm M c29 c30 c31);have c33:gR l.prog w K mg base:=h34.calI X G sc_sLshuffled (fun _ _ _ _ _ _=>ar2 fun _ _=>rfl) (nQ M c29);have c34:gS l.prog w K mg base:=h35.cal X G qo (fun _ _ _ _ _ _=>ar1 fun _=>rfl) (nR M);have c35:p6 l.prog w K mg base:=h36.calI X G zm (fun _ _ _ _ _ _=>ar2 fun _ _=>rfl) (vh M c29 c33);have c36:mX l.prog w K mg base:=h37.calI X G sc_sLset (fun _ _ _ _ _ _ _ us hl=>match us,(show us.length=2 by simpa using hl) with|[_,_],_=>⟨_,rfl,rfl⟩) (.cons rfl .nil) (wA M c29 c35)
 have c37:p7 l.prog w K mg base:=h38.calI X G sc_sLnear (fun _ _ _ _ _ _ _ us hl=>match us,(show us.length=2 by simpa using hl) with|[_,_],_=>⟨_,rfl,rfl⟩) (.cons rfl .nil) (vi M c29 c34)
 have c38:kf l.prog w K mg base:=h39.alike X G we (fun _ _ _ _ _ _=>ar2 fun _ _=>rfl) 20 (fun n u h=>zp h) (fun n gs hn=>tq M) 8 (by decide)
 have c39:p8 l.prog w K mg base:=h40.cal X G zn (fun _ _ _ _ _ _=>ar1 fun _=>rfl) (vj M);have c40:mv l.prog w K mg base:=h41.cal X G sc_sLjoints (fun _ _ _ _ _ _=>ar1 fun _=>rfl) (qq M c39);have c41:mw l.prog w K mg base:=h42.cal X G uM (fun _ _ _ _ _ _=>ar2 fun _ _=>rfl) (qt M);have c42:gU l.prog w K mg base:=h43.calI X G sc_sLrestated (fun _ _ _ _ _ _=>ar2 fun _ _=>rfl) (nU M c29 c33 c34);have c43:p9 l.prog w K mg base:=h44.cal X G sc_sLgood (fun _ _ _ _ _ _=>ar2 fun _ _=>rfl) (vm M);have c44:nB l.prog w K mg base:=h45.cal X G sc_sLapart (fun _ _ _ _ _ _=>ar2 fun _ _=>rfl) (tu M);have c45:nC l.prog w K mg base:=h46.calI X G wg (fun _ _ _ _ _ _=>ar3 fun _ _ _=>rfl) (tw M c29 c36 c37 c42);have c46:nE l.prog w K mg base:=h47.cal X G sc_sLright (fun _ _ _ _ _ _=>ar3 fun _ _ _=>rfl) (tz M c38 c41 c43 c44);intro _ _ _ _ _ _ _;exact LJ M c27 c28 c29 c32 c36 c38 c40 c42 c45 c46
end K34
open PySem PySem.W PyProof.Rows
set_option tactic.hygienic true
set_option maxRecDepth 100000 in
set_option maxHeartbeats 0 in
theorem PySem.Challenge.cw_strandwright_k34_whole_rows_by_one_holds : PySem.Challenge.rw_strandwright_k34_whole_rows_by_one.Holds := by
 w_on;o_law;k_head;(case hw=>w_witness2)
 k_fill
 refine VF.walkL (l:=PySem.Challenge.rw_strandwright_k34_whole_rows_by_one) (k:=10) rfl rfl ⟨rfl,by decide,by decide⟩ (fun w h Y=>PySem.W.kIn_of Y) ?F
 case F =>
  intro w mg fa h KX G hmg;refine' K34.all_mk KX G hmg (VF.fh ?a1 ?l1 ?c1 ?k1) (VF.fh ?a2 ?l2 ?c2 ?k2) (VF.fh ?a3 ?l3 ?c3 ?k3) (VF.fh ?a4 ?l4 ?c4 ?k4) (VF.fh ?a5 ?l5 ?c5 ?k5) (VF.fh ?a6 ?l6 ?c6 ?k6) (VF.fh ?a7 ?l7 ?c7 ?k7) (VF.fh ?a8 ?l8 ?c8 ?k8) (VF.fh ?a9 ?l9 ?c9 ?k9) (VF.fh ?a10 ?l10 ?c10 ?k10) (VF.fh ?a11 ?l11 ?c11 ?k11) (VF.fh ?a12 ?l12 ?c12 ?k12) (VF.fh ?a13 ?l13 ?c13 ?k13) (VF.fh ?a14 ?l14 ?c14 ?k14) (VF.fh ?a15 ?l15 ?c15 ?k15) (VF.fh ?a16 ?l16 ?c16 ?k16) (VF.fh ?a17 ?l17 ?c17 ?k17) (VF.fh ?a18 ?l18 ?c18 ?k18) (VF.fh ?a19 ?l19 ?c19 ?k19) (VF.fh ?a20 ?l20 ?c20 ?k20) (VF.fh ?a21 ?l21 ?c21 ?k21) (VF.fh ?a22 ?l22 ?c22 ?k22) (VF.fh ?a23 ?l23 ?c23 ?k23) (VF.fh ?a24 ?l24 ?c24 ?k24) (VF.fh ?a25 ?l25 ?c25 ?k25) (VF.fh ?a26 ?l26 ?c26 ?k26) (VF.fh ?a27 ?l27 ?c27 ?k27) (VF.fh ?a28 ?l28 ?c28 ?k28) (VF.fh ?a29 ?l29 ?c29 ?k29) (VF.fh ?a30 ?l30 ?c30 ?k30) (VF.fh ?a31 ?l31 ?c31 ?k31) (VF.fh ?a32 ?l32 ?c32 ?k32) (VF.fh ?a33 ?l33 ?c33 ?k33) (VF.fh ?a34 ?l34 ?c34 ?k34) (VF.fh ?a35 ?l35 ?c35 ?k35) (VF.fh ?a36 ?l36 ?c36 ?k36) (VF22.fhd ?a37 ?l37 ?c37 ?k37 ?t37) (VF22.fhd ?a38 ?l38 ?c38 ?k38 ?t38) (VF.fh ?a39 ?l39 ?c39 ?k39) (VF.fh ?a40 ?l40 ?c40 ?k40) (VF.fh ?a41 ?l41 ?c41 ?k41) (VF.fh ?a42 ?l42 ?c42 ?k42) (VF.fh ?a43 ?l43 ?c43 ?k43) (VF.fh ?a44 ?l44 ?c44 ?k44) (VF.fh ?a45 ?l45 ?c45 ?k45) (VF.fh ?a46 ?l46 ?c46 ?k46) (VF.fh ?a47 ?l47 ?c47 ?k47) (VF.fh ?a48 ?l48 ?c48 ?k48) ?cv_LETTERS ?cv_LONGEST_NAME ?ca_FORMS (VF22.gv_tup ?cq (.cons (VF22.gv_tup ?cq0 (.cons (VF22.gv_tup ?cq00 (.cons VF22.gv_int .nil)) (.cons (VF22.gv_tup ?cq01 (.cons VF22.gv_int (.cons VF22.gv_int .nil))) .nil))) (.cons (VF22.gv_tup ?cq1 (.cons (VF22.gv_tup ?cq10 (.cons VF22.gv_int (.cons VF22.gv_int .nil))) (.cons (VF22.gv_tup ?cq11 (.cons VF22.gv_int .nil)) .nil))) (.cons (VF22.gv_tup ?cq2 (.cons (VF22.gv_tup ?cq20 (.cons VF22.gv_int (.cons VF22.gv_int .nil))) (.cons (VF22.gv_tup ?cq21 (.cons VF22.gv_int (.cons VF22.gv_int .nil))) .nil))) (.cons (VF22.gv_tup ?cq3 (.cons (VF22.gv_tup ?cq30 (.cons VF22.gv_int (.cons VF22.gv_int .nil))) (.cons (VF22.gv_tup ?cq31 (.cons VF22.gv_int (.cons VF22.gv_int .nil))) .nil))) .nil))))) ?z_all ?z_bool ?z_int ?z_isinstance ?z_len ?z_list ?z_range ?z_sorted ?z_str ?z_tuple ?z_zip
  all_goals try k_is

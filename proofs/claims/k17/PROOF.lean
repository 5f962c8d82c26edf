import PyProof.Rows.All
import Wide.All
import OpenK.AllK
import Wide.FinOn
import Lean
import PyProof.EqAt
import PyProof.EqKinds
import PyProof.TupleCall
import KE.KRevIter
import KE.KUnpack
import KE.KIntText
import KE.KSortKey
import PySem.Challenge.RW_strandwright_k17_whole_deeds_go_back
set_option maxHeartbeats 2000000
set_option Elab.async false
set_option linter.all false
set_option maxRecDepth 100000
set_option genSizeOfSpec false
namespace PySem.W.Fast
def tw2961391380353212931:=0
def tw12624611515143106169:=0
def tw12691912757185180874:=0
def tw14544691298478940540:=0
def tw1347455175771476276:=0
def tw15607043200897743484:=0
def tw3441807009899703250:=0
def tw1739001836892786312:=0
def tw1969564846558698149:=0
def tw5316026411642303749:=0
def tw16761203809758515130:=0
def tw661276474005250108:=0
def tw17191609029142938888:=0
def tw16228006069611409997:=0
def tw209982075251740946:=0
def tw1474166227744744647:=0
def tw1795201977957448025:=0
def tw14813695082188678367:=0
def tw1469863944256216112:=0
def tw9581562587966510757:=0
def tw6085569144556793381:=0
def tw2857218179960329468:=0
def tw298069939698046538:=0
def tw6119784540291723248:=0
def tw6331021985067521344:=0
def tw6815813174263286890:=0
def tw16674223259970881473:=0
def tw6152623968787832329:=0
def tw16202128271916934105:=0
def tw2779821385220926049:=0
def tw11595810882144819917:=0
def tw10000009536865524520:=0
def tw14493218028977770299:=0
def tw4747988176184740651:=0
def tw577432988605910029:=0
def tw16655160932910959865:=0
end PySem.W.Fast
abbrev Aa:=@PySem.wpAny_bind
abbrev Ab:=@PySem.W.Frag
abbrev Ac:=@PySem.Heap.get?_push_of_some
abbrev Ad:=@PySem.wpAny_pure
abbrev Ae:=@decide_eq_true
abbrev Af:=@decide_eq_false
abbrev Ag:=@if_pos
abbrev Ah:=@PySem.Heap.get?_push_size
abbrev Ai:=@PySem.Heap.lt_size
abbrev Aj:=@if_neg
abbrev Ak:=@of_decide_eq_true
abbrev Al:=@PySem.PassesOwn.never
abbrev Am:=@PySem.wpAny_callSpecial?_slot
abbrev An:=@PySem.W.mg_none_of
abbrev Ao:=@PySem.wpAny_call_entry
abbrev Ap:=@PyProof.Rows.wpS_bind
abbrev Aq:=@PySem.wpAny_newObj_type
abbrev Ar:=@PySem.wpAny_field
abbrev As:=@PySem.W.kia_one
abbrev At:=@PyProof.Rows.wpS_pure
abbrev Au:=@Ne.symm
abbrev Av:=@PySem.wpAny_truthy_bool
abbrev Aw:=@PySem.wpAny_mono
abbrev Ax:=@PySem.mem_of_lookup
abbrev Ay:=@PySem.Heap.get?_update_ne
abbrev Az:=@PySem.Obj.data_mapFields
abbrev AA:=@PySem.wpAny_holding
abbrev AB:=@PySem.AutoSeq1.wpAny_loadPart'
abbrev AC:=@PySem.F.plainAttrs_list
abbrev AD:=@PySem.Heap.SameBut.update
abbrev AE:=@PyProof.Rows.callWith_type1
abbrev AF:=@PySem.wpAny_attempt
abbrev AG:=@PySem.Str.length_append
abbrev AH:=@PySem.W.mg_of
abbrev AI:=@PyProof.Rows.slot_tuple_getitem
abbrev AJ:=@PySem.wpAny_seqItems
abbrev AK:=@PySem.wpAny_typeNameOfWhole_keyiter
abbrev AL:=@PySem.wpAny_setField_rec
abbrev AM:=@PySem.Heap.get?_update_other
abbrev AN:=@Exists.choose_spec
abbrev AO:=@PySem.wpAny_passesOwn
abbrev AQ:=@PyProof.Rows.listUpdate_at
abbrev AR:=@List.Pairwise.sublist
abbrev AT:=@PySem.Heap.get?_update_self
abbrev AU:=@List.length_range
abbrev AV:=@PySem.wpAny_setField
abbrev AW:=@PySem.wpAny_rule
abbrev AX:=@PySem.wpAny_of_eq
abbrev AY:=@PySem.Heap.size_push
abbrev AZ:=@PySem.wpAny_typeOf
abbrev A0:=@PyProof.Rows.listItems_at
abbrev A1:=@List.length_take
abbrev A2:=@List.filter_sublist
abbrev A3:=@Array.toList_append
abbrev A4:=@Nat.lt_of_le_of_lt
abbrev A5:=@PySem.wpAny_getItem_str_slice
abbrev A6:=@List.pairwise_singleton
abbrev A7:=@PyProof.Rows.wpS_forRange
abbrev A8:=@Nat.zero_add
abbrev A9:=@Nat.lt_succ_of_lt
abbrev Ba:=@List.getElem?_set
abbrev Bb:=@PySem.builtinLookup_eq_fast
abbrev Bc:=@PySem.Obj.isFreed_of_fields
abbrev Be:=@PySem.wpAny_isInstance
abbrev Bg:=@List.perm_middle
abbrev Bh:=@List.ext_getElem
abbrev Bi:=@PySem.wpAny_newList
abbrev Bj:=@List.any_cons
abbrev Bk:=@Array.getElem?_range
abbrev Bl:=@PyProof.Rows.get?_update_seq
abbrev Bm:=@Nat.min_eq_left
abbrev Bo:=@Int.emod_nonneg
abbrev Bp:=@List.length_reverse
abbrev Bq:=@Nat.ne_of_gt
abbrev Br:=@Nat.le_of_lt
abbrev Bs:=@List.map_id'
abbrev Bt:=@PySem.wpAny_Call_Name_kw
abbrev Bu:=@PySem.Str.cps_append
abbrev Bv:=@Nat.sub_add_cancel
abbrev Bw:=@List.zip_cons_cons
abbrev Bx:=@Bool.false_eq_true
abbrev By:=@List.getElem?_zip_eq_some
abbrev Bz:=@List.getElem?_append_left
abbrev BB:=@PySem.wpAny_pyIter_list
abbrev BC:=@Option.isSome_map
abbrev BD:=@List.size_toArray
abbrev BE:=@List.foldl_append
abbrev BF:=@List.ext_getElem?
abbrev BH:=@PySem.F.type_list_extend
abbrev BI:=@PySem.F.slot_list_extend
abbrev BJ:=@PySem.F.args_tuple_add_2
abbrev BK:=@List.getElem?_eq_getElem
abbrev BL:=@List.all_cons
abbrev BM:=@PySem.F.entry_tuple_add
abbrev BN:=@Nat.lt_succ_self
abbrev BO:=@Nat.lt_of_not_le
abbrev BP:=@Nat.le_of_not_lt
abbrev BQ:=@List.zipIdx_cons
abbrev BR:=@List.mem_singleton_self
abbrev BS:=@List.filter_cons
abbrev BT:=@PySem.call_meets
abbrev BU:=@PySem.F.slot_tuple_add
abbrev BV:=@PySem.F.plainAttrs_str
abbrev BW:=@Nat.lt_trans
abbrev BX:=@List.flatten_singleton
abbrev BY:=@PySem.wpAny_specialOf
abbrev BZ:=@PySem.wpAny_loadPart'
abbrev B0:=@PySem.wpAny_execs_nil
abbrev B1:=@PySem.typeLookup_type
abbrev B2:=@PySem.post_val_or_str
abbrev B3:=@List.of_mem_zip
abbrev B4:=@List.forIn_cons
abbrev B5:=@List.perm_append_comm
abbrev B6:=@List.Perm.append_left
abbrev B7:=@PyProof.Rows.wpS_mono
abbrev B8:=@PySem.wpAny_updateSeq_pair
abbrev B9:=@PySem.sizeLine_eq
abbrev Ca:=@PyProof.Rows.seqEpoch_at
abbrev Cb:=@PySem.isSubtype_type
abbrev Cc:=@PySem.isSubtype_stop
abbrev Cd:=@List.mem_of_mem_drop
abbrev Ce:=@List.filterMap_cons
abbrev Cf:=@PySem.wpAny_onRaise
abbrev Cg:=@Array.map_map
abbrev Ch:=@PySem.tupleKind_room_in1
abbrev Ci:=@PySem.SeqAt.EqAt.str_int
abbrev Cj:=@PySem.SeqAt.EqAt.int_str
abbrev Ck:=@List.map_singleton
abbrev Cn:=@List.append_of_mem
abbrev Co:=@Int.natCast_nonneg
abbrev Cq:=@Int.emod_lt_of_pos
abbrev Cr:=@Array.getElem?_map
abbrev Cs:=@PySem.wpAny_dictEntries
abbrev Ct:=@PySem.codeAny_mono
abbrev Cu:=@bne_self_eq_false
abbrev Cv:=@PySem.Txt.slice_le
abbrev Cw:=@PySem.W.kitx_list
abbrev Cy:=@PySem.Obj.cls_mapFields
abbrev Cz:=@Nat.add_comm
abbrev CB:=@List.map_nil
abbrev CC:=@List.mapM_toArray
abbrev CD:=@List.getElem?_map
abbrev CF:=@List.all_map
abbrev CG:=@PySem.noFill_tuple_add
abbrev CH:=@map_eq_pure_bind
abbrev CJ:=@PySem.SeqAt.in_tupleAt
abbrev CK:=@Nat.succ_le_succ
abbrev CL:=@Nat.not_le_of_lt
abbrev CM:=@List.not_mem_nil
abbrev CN:=@List.getElem_map
abbrev CO:=@PySem.Heap.size_update
abbrev CP:=@PySem.wpAny_letGo
abbrev CQ:=@PySem.seqIndex_of
abbrev CS:=@PySem.wpAny_dictEpoch
abbrev CT:=@List.Perm.of_eq
abbrev CU:=@Int.natCast_add
abbrev CV:=@PySem.wpAny_newTuple
abbrev CW:=@PySem.typeIs_str
abbrev CY:=@PySem.SeqAt.RcNeAt.lists_lengths
abbrev CZ:=@List.mapM_cons
abbrev C0:=@List.getElem?_append_right
abbrev C1:=@PySem.Calls.Name_function_global
abbrev C2:=@Array.size_map
abbrev C3:=@List.sublist_append_right
abbrev C4:=@List.pairwise_iff_getElem
abbrev C5:=@List.getLastD_eq_getLast?
abbrev C6:=@List.drop_eq_getElem_cons
abbrev C7:=@PySem.Calls.call_function_entry
abbrev C8:=@List.mapM_nil
abbrev C9:=@List.eq_of_mem_replicate
abbrev Db:=@Int.lt_irrefl
abbrev Dc:=@PySem.F.slot_list_index
abbrev De:=@List.getElem?_replicate
abbrev Df:=@Int.eq_ofNat_of_zero_le
abbrev Dg:=@PySem.W.cellsFrom_some
abbrev Dh:=@List.range_succ_eq_map
abbrev Di:=@List.length_pos_of_mem
abbrev Dj:=@List.getElem?_set_self
abbrev Dk:=@List.drop_eq_nil_of_le
abbrev Dl:=@List.any_map
abbrev Dm:=@Array.getElem?_eq_none
abbrev Do:=@PyProof.Rows.boot_min
abbrev Dq:=@List.getElem?_toArray
abbrev Za:=@List.length_map
abbrev Ya:=@BK
abbrev Xa:=@List.length_append
abbrev Wa:=@List.mem_singleton
abbrev Va:=@List.mem_cons_self
abbrev Qa:=@List.getD_eq_getElem?_getD
abbrev Yb:=@Option.bind_some
abbrev Xb:=@List.mem_of_getElem?
abbrev Wb:=@Nat.le_refl
abbrev Vb:=@List.mem_cons_of_mem
abbrev Qb:=@List.mem_map
abbrev Zc:=@List.mem_append
abbrev Yc:=@List.map_append
abbrev Xc:=@BD
abbrev Wc:=@List.mem_cons
abbrev Vc:=@Option.map_eq_some_iff
abbrev Qc:=@List.length_cons
abbrev Zd:=@List.getElem?_eq_some_iff
abbrev Yd:=@CD
abbrev Xd:=@List.mem_append_right
abbrev Wd:=@Array.length_toList
abbrev Vd:=@Nat.lt_of_lt_of_le
abbrev Qd:=@Bool.false_ne_true
abbrev Ze:=@List.map_map
abbrev Ye:=@Bool.eq_iff_iff
abbrev Xe:=@List.pairwise_cons
abbrev We:=@List.length_singleton
abbrev Ve:=@Nat.le_trans
abbrev Qe:=@Bx
abbrev Zf:=@List.append_assoc
abbrev Yf:=@List.eq_nil_of_length_eq_zero
abbrev Xf:=@List.flatMap_cons
abbrev Wf:=@List.mem_flatten
abbrev Vf:=@List.mem_append_left
abbrev Qf:=@Nat.ne_of_lt
abbrev Zg:=@List.nodup_append
abbrev Yg:=@List.append_nil
abbrev Xg:=@List.flatMap_append
abbrev Wg:=@List.length_nil
abbrev Vg:=@List.flatten_cons
abbrev Qg:=@List.nodup_cons
abbrev Zh:=@Array.perm_iff_toList_perm
abbrev Yh:=@List.map_cons
abbrev Xh:=@List.pairwise_map
abbrev Wh:=@List.mem_filter
abbrev Vh:=@List.map_congr_left
abbrev Qh:=@List.flatten_append
abbrev Zi:=@C0
abbrev Yi:=@Array.getElem?_eq_getElem
abbrev Xi:=@Nat.zero_le
abbrev Wi:=@List.getElem?_drop
abbrev Vi:=@Bool.and_eq_true
abbrev Qi:=@Array.getElem?_toList
abbrev Zj:=@Nat.lt_irrefl
abbrev Yj:=@List.length_drop
abbrev Xj:=@List.all_eq_true
abbrev Wj:=@List.mem_flatMap
abbrev Vj:=@List.mem_map_of_mem
abbrev Qj:=@List.mem_range
abbrev Zk:=@Array.size_range
abbrev Yk:=@List.take_of_length_le
abbrev Xk:=@Bz
abbrev Vk:=@List.nil_append
abbrev Qk:=@List.length_replicate
abbrev Zl:=@List.getElem?_eq_none
abbrev Yl:=@List.length_filter_le
abbrev Xl:=@List.getElem_mem
abbrev Wl:=@List.nodup_nil
abbrev Vl:=@List.getElem?_of_mem
abbrev Ql:=@List.mem_iff_getElem
abbrev Zm:=@List.find?_cons
abbrev Ym:=@Nat.add_le_add_left
abbrev Xm:=@List.flatMap_singleton
abbrev Wm:=@List.singleton_sublist
abbrev Vm:=@List.perm_ext_iff_of_nodup
abbrev Qm:=@Nat.le_add_right
abbrev Zn:=@Array.toList_range
abbrev Yn:=@List.map_id
abbrev Xn:=@Int.toNat_natCast
abbrev Wn:=@De
namespace L2
open PySem PySem.Spec PyProof.Rows
abbrev Key:=Sum Int Str
def rC:Key->Value->Bool|.inl k,v=>Value.isInt k v|.inr x,v=>Value.isStrOf x v
def QG(w:World):Key->Int|.inl k=>hashInt k|.inr x=>hashStr w x
theorem cx:∀{k:Key}{v:Value},rC k v=true->(∃i t,k=Sum.inl i/\v=Value.int i t)\/(∃x t,k=Sum.inr x/\v=Value.str x t)
 | .inl i,v,h=>by
  obtain⟨t,e⟩:=Value.isInt_shape (k:=i) (v:=v) h;exact .inl ⟨i,t,rfl,e⟩
 | .inr x,v,h=>by
  obtain⟨t,e⟩:=Value.isStrOf_shape (x:=x) (v:=v) h;exact .inr ⟨x,t,rfl,e⟩
def zY(i:Int)(t:Tok):rC (.inl i) (.int i t)=true:=by simp[rC,Value.isInt]
def zZ(x:Str)(t:Tok):rC (.inr x) (.str x t)=true:=by simp[rC,Value.isStrOf]
def L7(a b:Int):decide ((Sum.inl a:Key)=Sum.inl b)=(a == b):=by
 by_cases e:a=b
 ·subst e;simp
 ·have h:¬ (Sum.inl a:Key)=Sum.inl b:=fun q=>e (Sum.inl.inj q);rw[Af h];exact(beq_eq_false_iff_ne.mpr e).symm
def L8(a b:Str):decide ((Sum.inr a:Key)=Sum.inr b)=decide (a=b):=by
 by_cases e:a=b
 ·subst e;simp
 ·have h:¬ (Sum.inr a:Key)=Sum.inr b:=fun q=>e (Sum.inr.inj q);rw[Af h,Af e]
def L9(a:Int)(b:Str):decide ((Sum.inl a:Key)=Sum.inr b)=false:=Af (fun q=>nomatch q)
def Ma(a:Str)(b:Int):decide ((Sum.inr a:Key)=Sum.inl b)=false:=Af (fun q=>nomatch q)
def cF(prog:Program)(w:World):PySem.KeyKind prog w Key where
 is:=rC
 hash:=QG w
 inj:=fun v a b ha hb=>by
  rcases cx ha with⟨i,t,rfl,rfl⟩|⟨x,t,rfl,rfl⟩
  ·rcases cx hb with⟨j,u,rfl,e⟩|⟨y,u,rfl,e⟩
   ·injection e with e1 _;rw[e1]
   ·exact nomatch e
  ·rcases cx hb with⟨j,u,rfl,e⟩|⟨y,u,rfl,e⟩
   ·exact nomatch e
   ·injection e with e1 _;rw[e1]
 byValue:=fun k v h=>by
  rcases cx h with⟨i,t,rfl,rfl⟩|⟨x,t,rfl,rfl⟩<;>rfl
 pyHash:=fun hv h=>by
  rcases cx hv with⟨i,t,rfl,rfl⟩|⟨x,t,rfl,rfl⟩
  ·exact wpAny_pyHash_int h
  ·exact wpAny_pyHash_str h
 eqBool:=fun hu hv h=>by
  rcases cx hu with⟨i,t,rfl,rfl⟩|⟨x,t,rfl,rfl⟩
  ·rcases cx hv with⟨j,u,rfl,rfl⟩|⟨y,u,rfl,rfl⟩
   ·rw[L7]at h;exact wpAny_eqBool_int h
   ·rw[L9]at h;exact Cj i t y u _ _ _ _ h
  ·rcases cx hv with⟨j,u,rfl,rfl⟩|⟨y,u,rfl,rfl⟩
   ·rw[Ma]at h;exact Ci x t j u _ _ _ _ h
   ·rw[L8]at h;exact wpAny_eqBool_str h
 «strs»:=fun k x t v h=>by
  rcases cx h with⟨i,u,rfl,e⟩|⟨y,u,rfl,e⟩
  ·exact nomatch e
  ·injection e with e1 _
   subst e1;cases v<;>rfl
def u6(prog:Program)(w:World)(i:Int)(t:Tok):(cF prog w).is (.inl i) (.int i t)=true:=zY i t
def u7(prog:Program)(w:World)(x:Str)(t:Tok):(cF prog w).is (.inr x) (.str x t)=true:=zZ x t
end L2
namespace L2
open PySem PySem.Spec PyProof.Rows
inductive V where
 | non|bl (b:Bool)|int (i:Int)|str (x:Str)|byt (b:Array UInt8)|flt (b:UInt64)|ref (a:Addr)|ty (n:String)
 deriving DecidableEq
def RelV:V->Value->Prop|.non,u=>u=Value.none|.bl b,u=>u=Value.bool b|.int i,u=>∃t,u=Value.int i t|.str x,u=>∃t,u=Value.str x t|.byt b,u=>∃t,u=Value.bytes b t|.flt b,u=>∃t,u=Value.float b t|.ref a,u=>u=Value.ref a|.ty n,u=>u=Value.type n
abbrev Vals:List V->List Value->Prop:=Paired RelV
theorem Vals.length{xs:List V}{us:List Value}(r:Vals xs us):xs.length=us.length:=Paired.length r
theorem Vals.get:∀{xs:List V}{us:List Value}{i:Nat}{x:V},Vals xs us->xs[i]?=some x->∃u,us[i]?=some u/\RelV x u
 |_,_,_,_,.nil,e=>by simp at e
 |_,_,0,_,.cons r _,e=>by simp at e;subst e;exact⟨_,rfl,r⟩
 | _,_,i+1,x,.cons _ t,e=>by
  obtain⟨u,h1,h2⟩:=Vals.get (i:=i) (x:=x) t (by simpa using e)
  exact⟨u,by simpa using h1,h2⟩
theorem Vals.set(r:RelV x u):∀{xs:List V}{us:List Value}(i:Nat),Vals xs us->Vals (xs.set i x) (us.set i u)|_,_,_,.nil=>.nil|_,_,0,.cons _ t=>.cons r t|_,_,i+1,.cons q t=>.cons q (Vals.set r i t)
theorem Vals.append:∀{xs ys:List V}{us ws:List Value},Vals xs us->Vals ys ws->Vals (xs++ys) (us++ws)|_,_,_,_,.nil,s=>s|_,_,_,_,.cons r t,s=>.cons r (Vals.append t s)
theorem Vals.take:∀{xs:List V}{us:List Value}(n:Nat),Vals xs us->Vals (xs.take n) (us.take n)|_,_,0,_=>.nil|_,_,_+1,.nil=>.nil|_,_,n+1,.cons r t=>.cons r (Vals.take n t)
theorem Vals.drop:∀{xs:List V}{us:List Value}(n:Nat),Vals xs us->Vals (xs.drop n) (us.drop n)|_,_,0,r=>r|_,_,_+1,.nil=>.nil|_,_,n+1,.cons _ t=>Vals.drop n t
def RelO:Option V->Option Value->Prop|some v,some u=>RelV v u|none,none=>True|_,_=>False
def KV{κ:Type}:List (κ×V)->List (κ×Value)->Prop:=Paired fun(p:κ×V) (q:κ×Value)=>p.1=q.1/\RelV p.2 q.2
def kV:Key->V|.inl i=>.int i|.inr x=>.str x
inductive HO where
  | lst (xs:List V)
  | tup (xs:List V)
  | dK (kvs:List (Key×V))|dT (ep:Nat×List Addr) (kvs:List (List Key×V))
  | set (S:Int->Bool) (n:Nat)
  | ins (C dx:Addr) (fs:List (Str×V))
  | own (x:Addr)
  | xd (fs:List (Str×V))
  | met (f x:Addr)
  | rng (lo hi:Int)
  | frz (o:Obj) (u:HO)
  | tbl (ps:Array Value)
  | ext (φ:Heap->Prop)
abbrev Hp:=Addr->Option HO
def upd(H:Hp)(a:Addr)(o:HO):Hp:=fun b=>if b=a then some o else H b
def bq:upd H a o a=some o:=by unfold upd;rw[Ag rfl]
def aR(h:b≠a):upd H a o b=H b:=by unfold upd;rw[Aj h]
def Oy{H:Hp}{a b:Addr}{o u:HO}(h:H a=some o)(h':H b=some u)(d:o≠u):a≠b:=by
 intro e;subst e;rw[h]at h';exact d (Option.some.inj h')
def bv{H:Hp}{a b:Addr}{o:HO}(h:H a=some o)(h':H b=none):a≠b:=by
 intro e;subst e;rw[h]at h';cases h'
section
variable (P:Program)(w:World)
def ObjOk(H:Hp)(h:Heap)(a:Addr):HO->Prop
 |.lst xs=>xs.length<=sizeLine/\∃(its:List Value)(n:Nat),Vals xs its/\h.get? a=some { cls:=.type "list",data:=.seq its.toArray n }
 |.tup xs=>xs.length<=sizeLine/\∃its:List Value,Vals xs its/\IsTup h a its.toArray
 |.dK kvs=>kvs.length<=sizeLine/\(a == sysModules)=false/\∃vs,KV kvs vs/\h.DictOf (cF P w) a vs
 | .dT ep kvs=>kvs.length<=sizeLine/\(a == sysModules)=false/\∃xs:List (List Key×Addr×Value),
   Paired (fun(p:List Key×V) (q:List Key×Addr×Value)=>p.1=q.1/\H q.2.1=some (.tup (p.1.map kV))/\RelV p.2 q.2.2) kvs xs /\
   xs.map (·.2.1)=ep.2/\∃o es,h.get? a=some o/\o.ExactDict/\o.data=.dict es ep.1/\es.toList=xs.map (entryOfKey (tupleKind (cF P w)))/\(xs.map (·.1)).Nodup
 |.set S n=>h.SetOf (intKind P w) a S n
 | .ins C dx fs=>H dx=some (.own a)/\fs.length<=1000/\dx≠a/\h.get? a=some (PySem.W.instObj C dx) /\
   ∃mA,h.Ns1 dx mA/\(∀f,RelO (fs.lookup f) (mA f))/\PySem.Within mA (fs.map (·.1))
 |.own _=>∃o,h.get? a=some o
 |.xd fs=>∃mA,h.Ns1 a mA/\∀f,RelO (fs.lookup f) (mA f)
 |.rng lo hi=>∃t u v,h.get? a=some { cls:=.type "range",data:=.fields #[.int lo t,.int hi u,.int 1 v] }
 |.frz o u=>h.get? a=some o/\ObjOk H h a u
 |.tbl ps=>h.get? a=some { cls:=.none,data:=.fields ps }
 |.met f x=>h.get? a=some (PySem.W.methodObj (.ref f) (.ref x))
 |.ext φ=>φ h/\(∃o,h.get? a=some o)/\∀h1 h2:Heap,φ h1->(∀o,h1.get? a=some o->h2.get? a=some o)->φ h2
def HOk(H:Hp)(h:Heap):Prop:=∀a o,H a=some o->ObjOk P w H h a o
end
section
variable {P:Program}{w:World}{H H':Hp}{h h':Heap}{a:Addr}{o:HO}
theorem ObjOk.lt(x:ObjOk P w H h a o):a<h.objs.size:=by
 cases o with
 |lst xs=>obtain⟨_,_,_,_,e⟩:=x;exact Ai e
 |tup xs=>obtain⟨_,_,_,p⟩:=x;exact p.lt
 |dK kvs=>obtain⟨_,_,_,_,o,_,_,e,_⟩:=x;exact Ai e
 |dT ep kvs=>obtain⟨_,_,_,_,_,o,_,e,_⟩:=x;exact Ai e
 |set S n=>obtain⟨o,_,_,_,e,_⟩:=x;exact Ai e
 |ins C dx fs=>obtain⟨_,_,_,e,_⟩:=x;exact Ai e
 |own y=>obtain⟨_,e⟩:=x;exact Ai e
 |xd fs=>obtain⟨_,⟨_,_,_,e,_⟩,_⟩:=x;exact Ai e
 |rng lo hi=>obtain⟨_,_,_,e⟩:=x;exact Ai e
 |frz ob u=>obtain⟨e,_⟩:=x;exact Ai e
 |tbl ps=>exact Ai (show h.get? a=some _ from x)
 |met f y=>exact Ai (show h.get? a=some _ from x)
 |ext φ=>obtain⟨_,⟨_,e⟩,_⟩:=x;exact Ai e
theorem Paired.mapP:∀{l₁:List α}{l₂:List β},Paired F l₁ l₂->(∀a b,F a b->G a b)->Paired G l₁ l₂|_,_,.nil,_=>.nil|_,_,.cons r t,f=>.cons (f _ _ r) (Paired.mapP t f)
def ObjOk.stay(x:ObjOk P w H h a o)(k:∀b u,(b=a\/H b=some (.own a))->h.get? b=some u->h'.get? b=some u)
  (ho:∀b,H b=some (.own a)->H' b=some (.own a))(ht:∀b xs,H b=some (.tup xs)->H' b=some (.tup xs)):ObjOk P w H' h' a o:=by
 induction o with
 |lst xs=>obtain⟨z,its,n,r,e⟩:=x;exact⟨z,its,n,r,k _ _ (.inl rfl) e⟩
 |tup xs=>obtain⟨z,its,r,ob,e,c⟩:=x;exact⟨z,its,r,ob,k _ _ (.inl rfl) e,c⟩
 |dK kvs=>obtain⟨z,y,vs,r,ob,es,ep,e,c⟩:=x;exact⟨z,y,vs,r,ob,es,ep,k _ _ (.inl rfl) e,c⟩
 |dT ep kvs=>
  obtain⟨z,y,xs,r,ra,ob,es,e,c⟩:=x;exact⟨z,y,xs,Paired.mapP r fun p q z=>⟨z.1,ht _ _ z.2.1,z.2.2⟩,ra,ob,es,k _ _ (.inl rfl) e,c⟩
 |set S n=>obtain⟨ob,es,ep,t,e,c⟩:=x;exact⟨ob,es,ep,t,k _ _ (.inl rfl) e,c⟩
 |ins C dx fs=>
  obtain⟨d,z,ne,e,mA,⟨od,es,ep,e2,c⟩,r⟩:=x;exact⟨ho _ d,z,ne,k _ _ (.inl rfl) e,mA,⟨od,es,ep,k _ _ (.inr d) e2,c⟩,r⟩
 |own y=>obtain⟨ob,e⟩:=x;exact⟨ob,k _ _ (.inl rfl) e⟩
 |xd fs=>obtain⟨mA,⟨od,es,ep,e,c⟩,r⟩:=x;exact⟨mA,⟨od,es,ep,k _ _ (.inl rfl) e,c⟩,r⟩
 |rng lo hi=>obtain⟨t,u,v,e⟩:=x;exact⟨t,u,v,k _ _ (.inl rfl) e⟩
 |frz ob u ih=>obtain⟨e,q⟩:=x;exact⟨k _ _ (.inl rfl) e,ih q⟩
 |tbl ps=>
  have e:h.get? a=some { cls:=.none,data:=.fields ps }:=x;show h'.get? a=some { cls:=.none,data:=.fields ps };exact k a _ (.inl rfl) e
 |met f y=>
  have e:h.get? a=some (PySem.W.methodObj (.ref f) (.ref y)):=x;show h'.get? a=some (PySem.W.methodObj (.ref f) (.ref y));exact k a _ (.inl rfl) e
 |ext φ=>obtain⟨p,⟨o,e⟩,st⟩:=x;exact⟨st _ _ p fun o q=>k _ _ (.inl rfl) q,⟨o,k _ _ (.inl rfl) e⟩,st⟩
theorem HOk.lt(x:HOk P w H h)(e:H a=some o):a<h.objs.size:=(x a o e).lt
theorem HOk.fresh(x:HOk P w H h)(e:h.objs.size<=a):H a=none:=by
 cases q:H a with|none=>rfl|some u=>exact absurd (Vd (x.lt q) e) (Zj _)
def HOk.kept(x:HOk P w H h)(k:∀b u,h.get? b=some u->h'.get? b=some u):HOk P w H h':=fun a o e=>
 (x a o e).stay (fun b u _ q=>k b u q) (fun _ q=>q) fun _ _ q=>q
def HOk.laid(x:HOk P w H h)(k:∀b u,h.get? b=some u->h'.get? b=some u)(hp:h.objs.size<=a)(new:ObjOk P w (upd H a o) h' a o):HOk P w (upd H a o) h':=fun b u e=>by
 have hn:=x.fresh hp;by_cases hb:b=a
 ·subst hb;rw[bq]at e;cases e;exact new
 ·rw[aR hb]at e;exact(x b u e).stay (fun c v _ q=>k c v q) (fun c q=>by rw[aR (bv q hn)];exact q) fun c xs q=>by rw[aR (bv q hn)];exact q
end
def Rd(H:Hp)(a:Addr)(u:HO):Prop:=H a=some u\/∃o,H a=some (.frz o u)
def Rd.ok(r:Rd H a u)(x:HOk P w H h):ObjOk P w H h a u:=by
 rcases r with r|⟨o,r⟩
 ·exact x a u r
 ·obtain⟨_,q⟩:=x a _ r;exact q
def Mut:Option HO->Prop|some (.lst _)=>True|some (.dK _)=>True|some (.dT _ _)=>True|some (.set _ _)=>True|some (.ins _ _ _)=>True|some (.ext _)=>True|_=>False
section
variable {P:Program}{w:World}{H:Hp}{h h':Heap}{x e:Addr}{o':HO}
def HOk.write(ok:HOk P w H h)(mu:Mut (H x))(he:e=x\/H e=some (.own x))(k:∀b u,b≠e->h.get? b=some u->h'.get? b=some u)(heo:∃u,h'.get? e=some u)
  (new:ObjOk P w (upd H x o') h' x o'):HOk P w (upd H x o') h':=fun b u q=>by
 have nown:∀c y,H c=some (.own y)->c≠x:=fun c y r z=>by subst z;rw[r]at mu;exact mu
 have ntup:∀c xs,H c=some (.tup xs)->c≠x:=fun c xs r z=>by subst z;rw[r]at mu;exact mu
 by_cases hb:b=x
 ·subst hb;rw[bq]at q;cases q;exact new
 ·rw[aR hb]at q;by_cases hbe:b=e
  ·have q':H b=some (.own x):=by
    rcases he with z|z
    ·exact absurd (hbe.trans z) hb
    ·rw[hbe];exact z
   rw[q]at q';cases q';obtain⟨v,hv⟩:=heo;exact⟨v,by rw[hbe];exact hv⟩
  ·refine(ok b u q).stay (fun c v hc r=>k c v ?_ r) (fun c r=>by rw[aR (nown c b r)];exact r) fun c xs r=>by rw[aR (ntup c xs r)];exact r
   rcases hc with rfl|hc
   ·exact hbe
   ·rintro rfl;rcases he with z|z
    ·exact nown c b hc z
    ·rw[hc]at z;cases z;exact hb rfl
end
structure Un(fs ex:List Addr)(H H':Hp)(h h':Heap):Prop where
 keep:∀b o,h.get? b=some o->H b=none->b∉fs->b∉ex->h'.get? b=some o
 slot:∀b o,h.get? b=some o->H b=none->b∈fs->b∉ex->∃sl,h'.get? b=some { o with slots:=sl }
 free:∀b o,h.get? b=some o->H b=none->b∉ex->H' b=none
 there:∀b o,h.get? b=some o->b∉ex->∃o',h'.get? b=some o'
 tups:∀b xs,H b=some (.tup xs)->H' b=some (.tup xs)
 frzs:∀b o u,H b=some (.frz o u)->H' b=some (.frz o u)
 tbls:∀b ps,H b=some (.tbl ps)->∃more,H' b=some (.tbl (ps++more))
section
variable {fs fs' ex ex':List Addr}{H H1 H2:Hp}{h h1 h2 h':Heap}{a x e:Addr}{o:HO}
def Un.any(u:Un fs ex H H1 h h1)(q:h.get? b=some ob)(n:H b=none)(hx:b∉ex):∃sl,h1.get? b=some { ob with slots:=sl }:=by
 by_cases hb:b∈fs
 ·exact u.slot b ob q n hb hx
 ·exact⟨ob.slots,u.keep b ob q n hb hx⟩
def Un.kept(k:∀b u,h.get? b=some u->h'.get? b=some u):Un fs ex H H h h' :=
 ⟨fun b ob q _ _ _=>k b ob q,fun b ob q _ _ _=>⟨ob.slots,k b ob q⟩,fun _ _ _ n _=>n,fun b ob q _=>⟨ob,k b ob q⟩,fun _ _ q=>q,fun _ _ _ q=>q,fun _ ps q=>⟨#[],by rw[q];simp⟩⟩
def Un.refl:Un fs ex H H h h:=Un.kept fun _ _ q=>q
def Un.laid(k:∀b u,h.get? b=some u->h'.get? b=some u)(hp:h.objs.size<=a)(hn:H a=none):Un fs ex H (upd H a o) h h' where
 keep:=fun b u q _ _ _=>k b u q
 slot:=fun b u q _ _ _=>⟨u.slots,k b u q⟩
 free:=fun b u q n _=>by rw[aR (Qf (Vd (Ai q) hp))];exact n
 there:=fun b u q _=>⟨u,k b u q⟩
 tups:=fun b xs q=>by rw[aR (bv q hn)];exact q
 frzs:=fun b u xs q=>by rw[aR (bv q hn)];exact q
 tbls:=fun b ps q=>⟨#[],by rw[aR (bv q hn),q];simp⟩
def Un.write(mu:Mut (H x))(he:e=x\/H e=some (.own x))(k:∀b u,b≠e->h.get? b=some u->h'.get? b=some u)(heo:∃u,h'.get? e=some u):Un fs ex H (upd H x o) h h':=by
 have hx:∀b,H b=none->b≠x:=fun b n z=>by subst z;rw[n]at mu;exact mu
 have hb:∀b,H b=none->b≠e:=fun b n z=>by
  subst z;rcases he with r|r
  ·exact hx b n r
  ·rw[n]at r;cases r
 have hm:∀b u,H b=some u->¬ Mut (some u)->b≠x:=fun b u q nm z=>by subst z;rw[q]at mu;exact nm mu
 refine⟨fun b u q n _ _=>k b u (hb b n) q,fun b u q n _ _=>⟨u.slots,k b u (hb b n) q⟩,fun b u q n _=>by rw[aR (hx b n)];exact n,fun b u q _=>?_,
  fun b xs q=>by rw[aR (hm b _ q fun z=>z)];exact q,fun b u xs q=>by rw[aR (hm b _ q fun z=>z)];exact q,fun b ps q=>⟨#[],by rw[aR (hm b _ q fun z=>z),q];simp⟩⟩
 by_cases hbe:b=e
 ·subst hbe;exact heo
 ·exact⟨u,k b u hbe q⟩
end
def trk(h:Heap)(H:Hp):List Addr:=(List.range h.objs.size).filter fun a=>(H a).isSome
def sZ(h:Heap)(H:Hp):Heap:=PySem.W.hideAll h (trk h H)
def z9(h:Heap)(H:Hp):(sZ h H).objs.size=h.objs.size:=PySem.W.hideAll_size _ _
def EL{h:Heap}(e:h.get? b=some o)(n:H b=none):(sZ h H).get? b=some o :=
 PySem.W.hideAll_get _ e fun hm=>by
  have q:(H b).isSome=true:=(Wh.mp hm).2;rw[n]at q;simp at q
theorem IY{h:Heap}(e:(sZ h H).get? b=some o):h.get? b=some o/\H b=none:=by
 have e':h.get? b=some o:=PySem.W.of_hideAll (trk h H) e;refine⟨e',?_⟩;cases q:H b with
 |none=>rfl
 |some x=>
  have hm:b∈trk h H:=Wh.mpr ⟨Qj.mpr (Ai e'),by simp[q]⟩
  have z:(sZ h H).get? b=none:=PySem.W.hideAll_none (trk h H) hm;rw[z]at e;cases e
end L2
namespace L2
open PySem PySem.Spec PyProof.Rows
structure Mod(K:Ab)(mg:Str->Option Value)(base:Heap):Prop where
 kin:K.In base
 glob:base.Ns mainGlobals mg
 blt:∃mb,base.Ns builtinsNs mb/\∀x:Str,x≠"__name__"->mb x=bootBuiltins x
 nolimit:base.NoLimit
structure Cx where
 prog:Program
 w:World
 K:Ab
 mg:Str->Option Value
 base:Heap
 A:Around
 N:List Str
 s₀:Shared
 H₀:Hp
 env:Env
 outer:List Env
 stack:List Env
 ex:List Addr
 fn:Str->Bool
 calm:Bool
 pn:List (Addr×Obj)
 xe:Value->Shared->Prop
def frs(l:List Env):List Addr:=l.filterMap (·.frame)
abbrev Cx.fs(X:Cx):List Addr:=frs X.outer
def Vis(sc:Scope)(x:Str):Prop:=sc.names.lookup x=some .local\/sc.names.lookup x=some .cell\/sc.names.lookup x=some .free
def Loc(sc:Scope)(x:Str):Prop:=sc.names.lookup x=some .local\/sc.names.lookup x=some .cell
def Look(env:Env)(h:Heap)(m:Str->Option Value)(x:Str)(u:Value):Prop :=
 (env.kindOf x=some .local/\m x=some u)\/((env.kindOf x=some .cell\/env.kindOf x=some .free)/\∃c,env.cells.lookup x=some c/\h.IsCell c (some u))
structure Cx.Ok(X:Cx):Prop where
 mod:Mod X.K X.mg X.base
 kind:X.env.scope.kind=.function
 glob:X.env.globals=mainGlobals
 blt:X.env.builtins=builtinsNs
 above:X.s₀.heap.objs.size<=X.env.locals
 inj:∀x y c,X.env.cells.lookup x=some c->X.env.cells.lookup y=some c->x=y
 has:∀x,(X.env.kindOf x=some .cell\/X.env.kindOf x=some .free)->∃c,X.env.cells.lookup x=some c
 cab:∀x c,X.fn x=true->X.env.cells.lookup x=some c->X.s₀.heap.objs.size<=c
 hd:X.calm=true->X.A.handled=none
 frames:X.A.frames=some X.stack
 stk:X.stack=X.outer\/(X.stack=X.env::X.outer/\X.env.frame=some X.env.locals)
 exf:∀b∈X.ex,b≠X.env.locals/\∀x c,X.env.cells.lookup x=some c->c≠b
 bs:∀b o,X.base.get? b=some o->X.s₀.heap.get? b=some o/\X.H₀ b=none
 bsz:X.base.objs.size<=X.s₀.heap.objs.size
 noex:∀b o,X.base.get? b=some o->b∉X.ex
 exfs:∀b∈X.ex,b∉X.fs
 funs:X.s₀.heap.FunFrames X.base X.outer
 frf:∀b∈X.fs,X.H₀ b=none
structure Inv(X:Cx)(pins:List (Addr×Obj))(σ:List (Option V))(H:Hp)(s:Shared):Prop where
 ok:X.Ok
 os:s.os=X.s₀.os
 bare:AllBare s.gens
 base:Un X.fs X.ex X.H₀ H X.s₀.heap s.heap
 loc:∃m,s.heap.Ns X.env.locals m/\∀(i:Nat)(x:Str)(v:V),X.N[i]?=some x->σ[i]?=some (some v)->Vis X.env.scope x->∃u,RelV v u/\Look X.env s.heap m x u
 cell:∀x c,X.env.cells.lookup x=some c->∃v,s.heap.IsCell c v
 free:H X.env.locals=none
 freeC:∀x c,X.env.cells.lookup x=some c->H c=none
 pin:∀p∈X.pn++pins,s.heap.get? p.1=some p.2/\H p.1=none/\p.1≠X.env.locals/\p.1∉X.fs/\∀v,p.2.data≠.cell v
 hok:HOk X.prog X.w H s.heap
 len:σ.length=X.N.length
section
variable {X:Cx}{pins:List (Addr×Obj)}{σ:List (Option V)}{H H':Hp}{s:Shared}{h':Heap}
def Cx.Ok.nofr(ok:X.Ok)(e:X.base.get? b=some o):b∉X.fs:=fun hb=>by
 have:=(ok.funs.mem hb).1;rw[e]at this;cases this
theorem Inv.bs(I:Inv X pins σ H s):∀b o,X.base.get? b=some o->s.heap.get? b=some o/\H b=none:=fun b o e=>
 ⟨I.base.keep b o (I.ok.bs b o e).1 (I.ok.bs b o e).2 (I.ok.nofr e) (I.ok.noex b o e),I.base.free b o (I.ok.bs b o e).1 (I.ok.bs b o e).2 (I.ok.noex b o e)⟩
def Inv.bk(I:Inv X pins σ H s):∀b o,X.base.get? b=some o->s.heap.get? b=some o:=fun b o e=>(I.bs b o e).1
theorem Inv.mod(I:Inv X pins σ H s):Mod X.K X.mg X.base:=I.ok.mod
def Inv.kIn(I:Inv X pins σ H s):X.K.In s.heap:=I.ok.mod.kin.keeps I.bk
theorem Inv.lt(I:Inv X pins σ H s):X.env.locals<s.heap.objs.size:=let ⟨_,hn,_⟩:=I.loc;hn.lt
def Inv.sz(I:Inv X pins σ H s):X.s₀.heap.objs.size<=s.heap.objs.size:=Ve I.ok.above (Br I.lt)
def Inv.nofs(I:Inv X pins σ H s)(h:s.heap.objs.size<=a):a∉X.fs:=fun hb=>by
 obtain⟨_,o,ho,_⟩:=I.ok.funs.mem hb;exact absurd (Vd (Ai ho) (Ve I.sz h)) (Zj _)
def Inv.cne(I:Inv X pins σ H s):∀x c,X.env.cells.lookup x=some c->c≠X.env.locals:=fun x c e z=>by
 obtain⟨v,o,ho,hd⟩:=I.cell x c e;obtain⟨m,⟨o',es,ep,ho',hd',_⟩,_⟩:=I.loc;rw[z,ho']at ho;cases ho;rw[hd']at hd;cases hd
theorem Inv.funs(I:Inv X pins σ H s):s.heap.FunFrames X.base X.outer:=by
 have all:∀(l:List Env),(∀b∈frs l,b∈X.fs)->X.s₀.heap.FunFrames X.base l->s.heap.FunFrames X.base l:=by
  intro l;induction l with
  |nil=>intro _ _;trivial
  |cons env r ih=>
   intro hs hl;obtain⟨hk,⟨L,o,hf,hn,ho,hd⟩,hr⟩:=hl;have hL:L∈X.fs:=hs L (by unfold frs;rw[Ce,hf];exact Va)
   obtain⟨sl,e⟩:=I.base.slot L o ho (I.ok.frf L hL) hL fun z=>I.ok.exfs L z hL;exact⟨hk,⟨L,_,hf,hn,e,hd⟩,ih (fun b hb=>hs b (by unfold frs;rw[Ce,hf];exact Vb _ hb)) hr⟩
 exact all X.outer (fun _ hb=>hb) I.ok.funs
theorem Inv.stack(I:Inv X pins σ H s):s.heap.FunFrames X.base X.stack:=by
 rcases I.ok.stk with e|⟨e,hf⟩
 ·rw[e];exact I.funs
 ·rw[e];obtain⟨m,hn,_⟩:=I.loc;refine .cons (by rw[I.ok.kind];decide) hf hn ?_ I.funs
  exact Heap.get?_none_of_le (Ve I.ok.bsz I.ok.above)
def Inv.stkSub(I:Inv X pins σ H s):∀b∈frs X.stack,b∈X.env.locals::X.fs:=fun b hb=>by
 rcases I.ok.stk with e|⟨e,hf⟩
 ·rw[e]at hb;exact Vb _ hb
 ·rw[e]at hb;unfold frs at hb;rw[Ce,hf]at hb;exact hb
def Inv.stkFree(I:Inv X pins σ H s):∀b∈frs X.stack,H b=none:=fun b hb=>by
 rcases Wc.mp (I.stkSub b hb) with e|hb
 ·rw[e];exact I.free
 ·obtain⟨_,o,ho,_⟩:=I.ok.funs.mem hb;exact I.base.free b o ho (I.ok.frf b hb) fun z=>I.ok.exfs b z hb
def Inv.step{g':Array GenState}{t':Nat}{d':Drawn}{ch:List Addr}(I:Inv X pins σ H s)
  (hch:∀b∈ch,(b∈X.ex\/X.s₀.heap.objs.size<=b)/\b≠X.env.locals/\(∀x c,X.env.cells.lookup x=some c->c≠b)/\∀p∈X.pn++pins,p.1≠b)
  (keep:∀b o,b≠X.env.locals->b∉X.fs->b∉ch->s.heap.get? b=some o->H b=none->h'.get? b=some o)
  (slot:∀b o,b≠X.env.locals->b∈X.fs->b∉ch->s.heap.get? b=some o->H b=none->∃sl,h'.get? b=some { o with slots:=sl }) (free:∀b o,b∉ch->s.heap.get? b=some o->H b=none->H' b=none)
  (there:∀b o,b∉ch->s.heap.get? b=some o->∃o',h'.get? b=some o')
  (tups:∀b xs,H b=some (.tup xs)->H' b=some (.tup xs)) (frzs:∀b o u,H b=some (.frz o u)->H' b=some (.frz o u)) (tbls:∀b ps,H b=some (.tbl ps)->∃more,H' b=some (.tbl (ps++more)))
  (ns:∀m,s.heap.Ns X.env.locals m->h'.Ns X.env.locals m) (hok:HOk X.prog X.w H' h') (hg:AllBare g') :
  Inv X pins σ H' { s with heap:=h',gens:=g',drawn:=d',toks:=t' }:=by
 have neL:∀b o,X.s₀.heap.get? b=some o->b≠X.env.locals:=fun b o e=>Qf (Vd (Ai e) I.ok.above);have neC:∀b o,X.s₀.heap.get? b=some o->b∉X.ex->b∉ch:=fun b o e hx hb=>by
  rcases(hch b hb).1 with z|z
  ·exact hx z
  ·exact absurd (Vd (Ai e) z) (Zj _)
 have cellK:∀x c,X.env.cells.lookup x=some c->∀v,s.heap.IsCell c v->h'.IsCell c v:=fun x c e v ⟨o,ho,hd⟩=>by
  have nch:c∉ch:=fun z=>(hch c z).2.2.1 x c e rfl;by_cases hc:c∈X.fs
  ·obtain⟨sl,q⟩:=slot c o (I.cne x c e) hc nch ho (I.freeC x c e);exact⟨_,q,hd⟩
  ·exact⟨o,keep c o (I.cne x c e) hc nch ho (I.freeC x c e),hd⟩
 refine⟨I.ok,I.os,hg,⟨fun b o e n hb hx=>?_,fun b o e n hb hx=>?_,fun b o e n hx=>?_,fun b o e hx=>?_,fun b xs e=>tups b xs (I.base.tups b xs e),fun b o xs e=>frzs b o xs (I.base.frzs b o xs e),fun b ps e=>?_⟩,?_,fun x c e=>?_,?_,fun x c e=>?_,fun p hp=>?_,hok,I.len⟩
 ·exact keep b o (neL b o e) hb (neC b o e hx) (I.base.keep b o e n hb hx) (I.base.free b o e n hx)
 ·obtain⟨sl,e1⟩:=I.base.slot b o e n hb hx;obtain⟨sl',e2⟩:=slot b _ (neL b o e) hb (neC b o e hx) e1 (I.base.free b o e n hx);exact⟨sl',e2⟩
 ·obtain⟨o',e1⟩:=I.base.there b o e hx;exact free b o' (neC b o e hx) e1 (I.base.free b o e n hx)
 ·obtain⟨o',e1⟩:=I.base.there b o e hx;exact there b o' (neC b o e hx) e1
 ·obtain⟨m1,e1⟩:=I.base.tbls b ps e;obtain⟨m2,e2⟩:=tbls b _ e1;exact⟨m1++m2,by rw[e2,Array.append_assoc]⟩
 ·obtain⟨m,hn,hl⟩:=I.loc;refine⟨m,ns m hn,fun i x v e1 e2 e3=>?_⟩;obtain⟨u,r,l⟩:=hl i x v e1 e2 e3;refine⟨u,r,?_⟩;rcases l with l|⟨k,c,e,z⟩
  ·exact .inl l
  ·exact .inr ⟨k,c,e,cellK x c e _ z⟩
 ·obtain⟨v,z⟩:=I.cell x c e;exact⟨v,cellK x c e v z⟩
 ·obtain⟨m,⟨o,_,_,ho,_⟩,_⟩:=I.loc;exact free _ o (fun z=>(hch _ z).2.1 rfl) ho I.free
 ·obtain⟨v,o,ho,hd⟩:=I.cell x c e;exact free c o (fun z=>(hch c z).2.2.1 x c e rfl) ho (I.freeC x c e)
 ·obtain⟨e,n,ne,nf,d⟩:=I.pin p hp;have nch:p.1∉ch:=fun z=>(hch p.1 z).2.2.2 p hp rfl;exact⟨keep p.1 p.2 ne nf nch e n,free p.1 p.2 nch e n,ne,nf,d⟩
def Inv.un{t':Nat}(I:Inv X pins σ H s)(u:Un X.fs [] H H' s.heap h')(hok:HOk X.prog X.w H' h'):Inv X pins σ H' { s with heap:=h',toks:=t' }:=by
 obtain⟨m,⟨o,es,ep,ho,r⟩,_⟩:=id I.loc;obtain⟨sl,hL⟩:=u.any ho I.free (by simp)
 exact I.step (g':=s.gens) (d':=s.drawn) (ch:=[]) (fun _ z=>nomatch z) (fun b o _ hb _ e n=>u.keep b o e n hb (by simp)) (fun b o _ hb _ e n=>u.slot b o e n hb (by simp)) (fun b o _ e n=>u.free b o e n (by simp)) (fun b o _ e=>u.there b o e (by simp)) u.tups u.frzs u.tbls (fun m' hm=>by
  obtain⟨o',es',ep',ho',r'⟩:=hm;rw[ho]at ho';cases ho'
  exact⟨_,es',ep',hL,r'⟩) hok I.bare
def Inv.call{g':Array GenState}{t':Nat}{d':Drawn}{ch:List Addr}(I:Inv X pins σ H s)(u:Un (frs X.stack) ch H H' s.heap h')(hok:HOk X.prog X.w H' h')(hg:AllBare g')
  (hch:∀b∈ch,(b∈X.ex\/X.s₀.heap.objs.size<=b)/\b≠X.env.locals/\(∀x c,X.env.cells.lookup x=some c->c≠b)/\∀p∈X.pn++pins,p.1≠b) :
  Inv X pins σ H' { s with heap:=h',gens:=g',drawn:=d',toks:=t' }:=by
 obtain⟨m,⟨o,es,ep,ho,r⟩,_⟩:=id I.loc;obtain⟨sl,hL⟩:=u.any ho I.free fun z=>(hch _ z).2.1 rfl
 exact I.step (ch:=ch) hch (fun b o hL hb hc e n=>u.keep b o e n (fun z=>(Wc.mp (I.stkSub b z)).elim hL hb) hc) (fun b o _ _ hc e n=>u.any e n hc) (fun b o hc e n=>u.free b o e n hc) (fun b o hc e=>u.there b o e hc) u.tups u.frzs u.tbls (fun m' hm=>by
  obtain⟨o',es',ep',ho',r'⟩:=hm;rw[ho]at ho';cases ho'
  exact⟨_,es',ep',hL,r'⟩) hok hg
def Inv.turned{t':Nat}{it:Addr}(I:Inv X pins σ H s)(k:∀b o,b≠it->s.heap.get? b=some o->h'.get? b=some o)(hn:H it=none)(hL:it≠X.env.locals)
  (h1:it∈X.ex\/X.s₀.heap.objs.size<=it)(h2:∀x c,X.env.cells.lookup x=some c->c≠it)(h3:∀p∈X.pn++pins,p.1≠it):Inv X pins σ H { s with heap:=h',toks:=t' }:=by
 have nit:∀b u,H b=some u->b≠it:=fun b u e z=>by rw[z,hn]at e;cases e
 refine I.step (g':=s.gens) (d':=s.drawn) (ch:=[it]) (fun b hb=>?_) (fun b o _ _ hc e _=>k b o (fun z=>hc (by simp[z])) e) (fun b o _ _ hc e _=>⟨o.slots,k b o (fun z=>hc (by simp[z])) e⟩) (fun _ _ _ _ n=>n)
  (fun b o hc e=>⟨o,k b o (fun z=>hc (by simp[z])) e⟩) (fun _ _ e=>e) (fun _ _ _ e=>e) (fun b ps e=>⟨#[],by rw[e];simp⟩) (fun m hm=>?_) (fun b u e=>?_) I.bare
 ·have e:b=it:=by simpa using hb
  subst e;exact⟨h1,hL,h2,h3⟩
 ·obtain⟨o,es,ep,ho,r⟩:=hm;exact⟨o,es,ep,k _ o (Au hL) ho,r⟩
 ·refine(I.hok b u e).stay (fun c v hc q=>k c v ?_ q) (fun _ q=>q) fun _ _ q=>q;rcases hc with z|z
  ·rw[z];exact nit b u e
  ·exact nit c _ z
def Inv.tok(I:Inv X pins σ H s)(t:Nat):Inv X pins σ H { s with toks:=t }:=I.un (h':=s.heap) (t':=t) Un.refl I.hok
theorem Inv.kept{t':Nat}(I:Inv X pins σ H s)(k:∀b u,s.heap.get? b=some u->h'.get? b=some u):Inv X pins σ H { s with heap:=h',toks:=t' }:=I.un (Un.kept k) (I.hok.kept k)
theorem Inv.laid{t':Nat}(I:Inv X pins σ H s)(k:∀b u,s.heap.get? b=some u->h'.get? b=some u)(hp:s.heap.objs.size<=a)(new:ObjOk X.prog X.w (upd H a o) h' a o) :
  Inv X pins σ (upd H a o) { s with heap:=h',toks:=t' }:=I.un (Un.laid k hp (I.hok.fresh hp)) (I.hok.laid k hp new)
theorem Inv.write{t':Nat}(I:Inv X pins σ H s)(mu:Mut (H x))(he:e=x\/H e=some (.own x))(k:∀b u,b≠e->s.heap.get? b=some u->h'.get? b=some u)(heo:∃u,h'.get? e=some u)
  (new:ObjOk X.prog X.w (upd H x o) h' x o):Inv X pins σ (upd H x o) { s with heap:=h',toks:=t' }:=I.un (Un.write mu he k heo) (I.hok.write mu he k heo new)
def Inv.weak{σ':List (Option V)}(I:Inv X pins σ H s)(hl:σ'.length=σ.length)(w:∀(i:Nat) v,σ'[i]?=some (some v)->σ[i]?=some (some v)):Inv X pins σ' H s :=
 ⟨I.ok,I.os,I.bare,I.base,let ⟨m,hn,hl'⟩:=I.loc;⟨m,hn,fun i x v e1 e2 e3=>hl' i x v e1 (w i v e2) e3⟩,I.cell,I.free,I.freeC,I.pin,I.hok,hl.trans I.len⟩
def Inv.pins_of(I:Inv X pins σ H s)(h:∀p∈pins',s.heap.get? p.1=some p.2/\H p.1=none/\p.1≠X.env.locals/\p.1∉X.fs/\∀v,p.2.data≠.cell v):Inv X pins' σ H s :=
 ⟨I.ok,I.os,I.bare,I.base,I.loc,I.cell,I.free,I.freeC,fun p hp=>(Zc.mp hp).elim (fun z=>I.pin p (Vf _ z)) (h p),I.hok,I.len⟩
def u8{N:List Str}(hN:N.Nodup){i j:Nat}{x:Str}(a:N[i]?=some x)(b:N[j]?=some x):i=j:=by
 obtain⟨h1,e1⟩:=Zd.mp a;obtain⟨h2,e2⟩:=Zd.mp b;exact(List.getElem_inj hN).mp (e1.trans e2.symm)
def rD{M:Model}{A:Around}{E:Value->Shared->Prop}{i:Nat}{x:Str}{v:V}{u:Value}{Q:Unit->Shared->Prop}(I:Inv X pins σ H s)(hN:X.N.Nodup)(hi:X.N[i]?=some x)(hx:Loc X.env.scope x)(r:RelV v u)
  (h:∀s',Inv X pins (σ.set i (some v)) H s'->(∃a,Heap.SameBut a s.heap s'.heap/\(a=X.env.locals\/X.env.cells.lookup x=some a))->Q () s')(hf:X.fn x=true\/X.env.scope.names.lookup x=some .local:=by first|exact .inl rfl|exact .inr rfl|assumption):wpAny M A (storeName X.env x u) Q E s:=by
 obtain⟨m,hn,hl⟩:=id I.loc;have hcls:(X.env.scope.kind == .class||(X.env.scope.kind == .module&&X.env.locals != X.env.globals))=false:=by rw[I.ok.kind];rfl
 have hiσ:i<σ.length:=by rw[I.len];exact(Zd.mp hi).1
 have cne:=I.cne;have tracked:∀{a:Addr}{h':Heap},(∃o,s.heap.get? a=some o/\H a=none)->Heap.SameBut a s.heap h'->HOk X.prog X.w H h':=fun {a h'} ha hs b ob e=>by
  obtain⟨_,_,hfree⟩:=ha;refine(I.hok b ob e).stay (fun c w' hc q=>(hs.2 c ?_).trans q) (fun _ q=>q) fun _ _ q=>q;rintro rfl;rcases hc with rfl|hc
  ·rw[hfree]at e;cases e
  ·rw[hfree]at hc;cases hc
 rcases hx with hk|hk
 ·refine wpAny_storeName_local hk hn (fun h' hn' hs=>?_) hcls;obtain⟨oL,_,_,hoL,_⟩:=id hn;refine h _ ⟨I.ok,I.os,I.bare,⟨fun b o e n hb hx=>?_,fun b o e n hb hx=>?_,I.base.free,fun b o e hx=>?_,I.base.tups,I.base.frzs,I.base.tbls⟩,⟨_,hn',fun j y v' e1 e2 e3=>?_⟩,fun y c e=>?_,I.free,I.freeC,fun p hp=>?_,tracked ⟨oL,hoL,I.free⟩ hs,by simpa using I.len⟩ ⟨_,hs,.inl rfl⟩
  ·exact(hs.2 b (Qf (Vd (Ai e) I.ok.above))).trans (I.base.keep b o e n hb hx)
  ·obtain⟨sl,e1⟩:=I.base.slot b o e n hb hx;exact⟨sl,(hs.2 b (Qf (Vd (Ai e) I.ok.above))).trans e1⟩
  ·obtain⟨o',e1⟩:=I.base.there b o e hx;exact⟨o',(hs.2 b (Qf (Vd (Ai e) I.ok.above))).trans e1⟩
  ·by_cases hj:j=i
   ·subst hj;rw[hi]at e1;cases e1;rw[Dj hiσ]at e2;cases e2;exact⟨u,r,.inl ⟨hk,by simp⟩⟩
   ·rw[List.getElem?_set_ne (Au hj)]at e2;obtain⟨u',r',q⟩:=hl j y v' e1 e2 e3;refine⟨u',r',?_⟩;rcases q with⟨k,e⟩|⟨k,c,e,z⟩
    ·refine .inl ⟨k,?_⟩;have:y≠x:=fun e=>hj (u8 hN e1 (e ▸ hi));simp[this,e]
    ·exact .inr ⟨k,c,e,z.sameBut hs (cne y c e)⟩
  ·obtain⟨w',z⟩:=I.cell y c e;exact⟨w',z.sameBut hs (cne y c e)⟩
  ·obtain⟨e,n,ne,nf,d⟩:=I.pin p hp;exact⟨(hs.2 p.1 ne).trans e,n,ne,nf,d⟩
 ·have hfn:X.fn x=true:=by
   rcases hf with z|z
   ·exact z
   ·rw[z]at hk;cases hk
  obtain⟨c,hc⟩:=I.ok.has x (.inl hk);obtain⟨w',z⟩:=I.cell x c hc;refine wpAny_storeName_cell I.ok.kind hk hc z (fun h' hc' hs=>?_);obtain⟨oc,hoc,hocd⟩:=id z;refine h { s with heap:=h' } ⟨I.ok,I.os,I.bare,⟨fun b o e n hb hx=>?_,fun b o e n hb hx=>?_,I.base.free,fun b o e hx=>?_,I.base.tups,I.base.frzs,I.base.tbls⟩,⟨m,hn.sameBut hs (Au (cne x c hc)),fun j y v' e1 e2 e3=>?_⟩,fun y c' e=>?_,I.free,I.freeC,fun p hp=>?_,tracked ⟨oc,hoc,I.freeC x c hc⟩ hs,by simpa using I.len⟩ ⟨c,hs,.inr hc⟩
  ·exact(hs.2 b (Qf (Vd (Ai e) (I.ok.cab x c hfn hc)))).trans (I.base.keep b o e n hb hx)
  ·obtain⟨sl,e1⟩:=I.base.slot b o e n hb hx;exact⟨sl,(hs.2 b (Qf (Vd (Ai e) (I.ok.cab x c hfn hc)))).trans e1⟩
  ·obtain⟨o',e1⟩:=I.base.there b o e hx;exact⟨o',(hs.2 b (Qf (Vd (Ai e) (I.ok.cab x c hfn hc)))).trans e1⟩
  ·by_cases hj:j=i
   ·subst hj;rw[hi]at e1;cases e1;rw[Dj hiσ]at e2;cases e2;exact⟨u,r,.inr ⟨.inl hk,c,hc,hc'⟩⟩
   ·rw[List.getElem?_set_ne (Au hj)]at e2;obtain⟨u',r',q⟩:=hl j y v' e1 e2 e3;refine⟨u',r',?_⟩;rcases q with q|⟨k,c',e,z'⟩
    ·exact .inl q
    ·refine .inr ⟨k,c',e,z'.sameBut hs ?_⟩;rintro rfl;exact hj (u8 hN e1 (I.ok.inj _ _ _ e hc ▸ hi))
  ·by_cases hcc:c'=c
   ·subst hcc;exact⟨_,hc'⟩
   ·obtain⟨w2,z2⟩:=I.cell y c' e;exact⟨w2,z2.sameBut hs hcc⟩
  ·obtain⟨e,n,ne,nf,d⟩:=I.pin p hp;refine⟨(hs.2 p.1 ?_).trans e,n,ne,nf,d⟩;intro q;rw[q,hoc]at e;have q':oc=p.2:=Option.some.inj e;exact d w' (by rw[<-q'];exact hocd)
def EM(I:Inv X pins σ H s)(hN:X.N.Nodup)(hi:X.N[i]?=some x)(hx:Loc X.env.scope x)(r:RelV v u)
  (h:∀s',Inv X pins (σ.set i (some v)) H s'->Q () s')(hf:X.fn x=true\/X.env.scope.names.lookup x=some .local:=by first|exact .inl rfl|exact .inr rfl|assumption):wpAny M A (storeName X.env x u) Q E s :=
 rD I hN hi hx r (fun s' I' _=>h s' I') hf
def Inv.call'{s':Shared}(I:Inv X pins σ H s)(ho:s'.os=s.os)(u:Un (frs X.stack) ch H H' s.heap s'.heap)(hok:HOk X.prog X.w H' s'.heap)(hg:AllBare s'.gens)
  (hch:∀b∈ch,(b∈X.ex\/X.s₀.heap.objs.size<=b)/\b≠X.env.locals/\(∀x c,X.env.cells.lookup x=some c->c≠b)/\∀p∈X.pn++pins,p.1≠b):Inv X pins σ H' s':=by
 obtain⟨h',g',d',t',o'⟩:=s';have e:o'=s.os:=ho;subst e;exact I.call (g':=g') (t':=t') (d':=d') u hok hg hch
end
abbrev XK:=Value->Option Addr->Hp->Prop
abbrev St:=List (Option V)
abbrev VK:=V->Hp->Prop
abbrev TE:=St->Hp->VK->Prop
abbrev TT:=St->Hp->(Bool->Hp->Prop)->Prop
abbrev TA:=St->Hp->(List V->Hp->Prop)->Prop
structure Ends where
 nx:St->Hp->Prop
 rt:VK
 bk:St->Hp->Prop:=fun _ _=>False
 ct:St->Hp->Prop:=fun _ _=>False
abbrev TS:=Ends->St->Hp->Prop
inductive EP(X:Cx)(pins:List (Addr×Obj))(σ:St)(Q:VK)(u:Value)(s':Shared):Prop
 | mk (v:V) (H':Hp) (I:Inv X pins σ H' s') (r:RelV v u) (q:Q v H')
def TP(X:Cx)(pins:List (Addr×Obj))(σ:St)(Q:Bool->Hp->Prop)(b:Bool)(s':Shared):Prop:=∃H',Inv X pins σ H' s'/\Q b H'
inductive AP(X:Cx)(pins:List (Addr×Obj))(σ:St)(Q:List V->Hp->Prop)(us:List Value)(s':Shared):Prop
 | mk (vs:List V) (H':Hp) (I:Inv X pins σ H' s') (r:Vals vs us) (q:Q vs H')
def SP(X:Cx)(pins:List (Addr×Obj))(D:Ends)(f:Flow)(s':Shared):Prop :=
 match f with|.next=>∃σ' H',Inv X pins σ' H' s'/\D.nx σ' H'|.brk=>∃σ' H',Inv X pins σ' H' s'/\D.bk σ' H'|.cont=>∃σ' H',Inv X pins σ' H' s'/\D.ct σ' H'|.ret u=>∃v σ' H',Inv X pins σ' H' s'/\RelV v u/\D.rt v H'
def PE(X:Cx)(e:Expr)(t:TE):Prop :=
 ∀(pins:List (Addr×Obj))(s:Shared)(σ:St)(H:Hp)(Q:VK),Inv X pins σ H s->t σ H Q->wpAny (model X.prog X.w) X.A (eval e X.env) (EP X pins σ Q) X.xe s
def PT(X:Cx)(e:Expr)(t:TT):Prop :=
 ∀(pins:List (Addr×Obj))(s:Shared)(σ:St)(H:Hp)(Q:Bool->Hp->Prop),Inv X pins σ H s->t σ H Q->wpAny (model X.prog X.w) X.A (isTrue e X.env (eval e X.env)) (TP X pins σ Q) X.xe s
def PW(X:Cx)(e:Expr)(t:TT):Prop :=
 ∀(whole:Sem Value)(pins:List (Addr×Obj))(s:Shared)(σ:St)(H:Hp)(Q:Bool->Hp->Prop),Inv X pins σ H s->t σ H Q->wpAny (model X.prog X.w) X.A (isTrue e X.env whole) (TP X pins σ Q) X.xe s
def PW.pt(h:PW X e t):PT X e t:=h _
def PA(X:Cx)(es:List Expr)(t:TA):Prop :=
 ∀(pos:Pos)(pins:List (Addr×Obj))(s:Shared)(σ:St)(H:Hp)(Q:List V->Hp->Prop),Inv X pins σ H s->t σ H Q->wpAny (model X.prog X.w) X.A (spliced (backTo pos (starEach es X.env))) (AP X pins σ Q) X.xe s
def PS(X:Cx)(st:Stmt)(t:TS):Prop :=
 ∀(pins:List (Addr×Obj))(s:Shared)(σ:St)(H:Hp)(D:Ends),Inv X pins σ H s->t D σ H->wpAny (model X.prog X.w) X.A (exec st X.env) (SP X pins D) X.xe s
def PSs(X:Cx)(st:List Stmt)(t:TS):Prop :=
 ∀(pins:List (Addr×Obj))(s:Shared)(σ:St)(H:Hp)(D:Ends),Inv X pins σ H s->t D σ H->wpAny (model X.prog X.w) X.A (execs st X.env) (SP X pins D) X.xe s
def thn(h:wpAny M A t Q E s)(hQ:∀a s,Q a s->Q' a s):wpAny M A t Q' E s:=Aw h hQ fun _ _ x=>x
end L2
namespace L2
open PySem PySem.Spec PyProof.Rows
section
variable {X:Cx}
def wJ(i:Nat):TE:=fun σ H Q=>∃v,σ[i]?=some (some v)/\Q v H
def tC(v:V):TE:=fun _ H Q=>Q v H
def Mb(hN:X.N[i]?=some x)(hv:Vis X.env.scope x)(hd:(x == ("__debug__":Str))=false:=by decide)(hcd:(x == ("__classdict__":Str))=false:=by decide):PE X (.Name x pos) (wJ i):=by
 intro pins s σ H Q I h;obtain⟨v,e,h⟩:=h;obtain⟨m,hn,hl⟩:=I.loc;obtain⟨u,r,l⟩:=hl i x v hN e hv;have fin:EP X pins σ Q u s:=⟨v,H,I,r,h⟩;rcases l with⟨hk,hm⟩|⟨hk,c,hc,hcell⟩
 ·exact wpAny_Name (wpAny_loadName_local I.ok.kind hk hn hm fin) hd
 ·rcases hk with hk|hk
  ·exact wpAny_Name (wpAny_loadName_cell I.ok.kind hk hc hcell fin) hd
  ·exact wpAny_Name (wpAny_loadName_free I.ok.kind hk hc hcell fin hcd) hd
def ai{i j pos}:PE X (.Constant (.int i) j pos) (tC (.int i)):=fun _ _ _ H _ I h=>wpAny_Constant_int ⟨.int i,H,I.tok _,⟨_,rfl⟩,h⟩
def fD{b j pos}:PE X (.Constant (.bool b) j pos) (tC (.bl b)):=fun _ _ _ H _ I h=>Constant_bool ⟨.bl b,H,I,rfl,h⟩
def lE{j pos}:PE X (.Constant .none j pos) (tC .non):=fun _ _ _ H _ I h=>Constant_none ⟨.non,H,I,rfl,h⟩
def bX{x j pos}:PE X (.Constant (.str x) j pos) (tC (.str x)):=fun _ _ _ H _ I h=>Calls.Constant_str ⟨.str x,H,I.tok _,⟨_,rfl⟩,h⟩
def Gl(X:Cx)(x:Str):Prop:=X.env.kindOf x=some .globalImplicit
def o0(I:Inv X pins σ H s)(hg:Gl X x)(hm:X.mg x=some u)(h:Q u s)
  (hd:(x == ("__debug__":Str))=false:=by decide):wpAny (model X.prog X.w) X.A (eval (.Name x pos) X.env) Q E s :=
 C1 I.ok.kind hg (Calls.loadGlobal_global (by rw[I.ok.glob];exact I.mod.glob.keeps I.bk) hm h) hd
def jO(I:Inv X pins σ H s)(hg:Gl X x)(hm:X.mg x=none)(hv:bootBuiltins x=some u)(h:Q u s)
  (hn:x≠"__name__":=by decide)(hd:(x == ("__debug__":Str))=false:=by decide):wpAny (model X.prog X.w) X.A (eval (.Name x pos) X.env) Q E s:=by
 obtain⟨mb,h1,h2⟩:=I.mod.blt;exact C1 I.ok.kind hg (Calls.loadGlobal_builtin (by rw[I.ok.glob];exact I.mod.glob.keeps I.bk) hm (by rw[I.ok.blt];exact h1.keeps I.bk) ((h2 x hn).trans hv) h) hd
def yb(hg:Gl X x)(hm:X.mg x=some u)(r:RelV v u)(hd:(x == ("__debug__":Str))=false:=by decide):PE X (.Name x pos) (tC v) :=
 fun _ _ _ H _ I h=>o0 I hg hm ⟨v,H,I,r,h⟩ hd
def IZ(hg:Gl X x)(hm:X.mg x=none)(hv:bootBuiltins x=some u)(r:RelV v u)(hn:x≠"__name__":=by decide)(hd:(x == ("__debug__":Str))=false:=by decide):PE X (.Name x pos) (tC v) :=
 fun _ _ _ H _ I h=>jO I hg hm hv ⟨v,H,I,r,h⟩ hn hd
variable {a b:Expr}{ta tb:TE}{pos:Pos}
def tB(t:TE):TT:=fun σ H Q=>t σ H fun x H1=>∃c,x=.bl c/\Q c H1
def bY{e:Expr}(h:PE X e t)(he:∀whole,isTrue e X.env whole=(do let v <-whole;standAt e.pos;holding [v] (truthy v)):=by intro _;rfl):PT X e (tB t):=by
 intro pins s σ H Q I hw;refine isTrue_plain (thn (h pins s σ H _ I hw) fun v s1 zz9=>?_) (he _);obtain⟨x,H1,I1,r1,q1⟩:=zz9;obtain⟨d,rfl,q⟩:=q1;cases r1;exact Av ⟨H1,I1,q⟩
variable {tA tB':TT}{rest:List Expr}
def Oz(t u:TT):TT:=fun σ H Q=>t σ H fun c H1=>if c=true then u σ H1 Q else Q false H1
def tOr(t u:TT):TT:=fun σ H Q=>t σ H fun c H1=>if c=true then Q true H1 else u σ H1 Q
def OB(t:TT):TT:=fun σ H Q=>t σ H fun c H1=>Q (!c) H1
theorem tf(ha:PT X a tA):PW X (.BoolOp .And [a] pos) tA:=by
 intro wh pins s σ H Q I h;refine isTrue_and (thn (ha pins s σ H Q I h) fun c s1 e=>?_);cases c with|true=>exact isTrue_and_nil e|false=>exact e
theorem fN(ha:PT X a tA):PW X (.BoolOp .Or [a] pos) tA:=by
 intro wh pins s σ H Q I h;refine isTrue_or (thn (ha pins s σ H Q I h) fun c s1 e=>?_);cases c with|false=>exact isTrue_or_nil e|true=>exact e
theorem wK(ha:PT X a tA)(hb:PW X (.BoolOp .And (b::rest) pos) tB'):PW X (.BoolOp .And (a::b::rest) pos) (Oz tA tB'):=by
 intro wh pins s σ H Q I h;refine isTrue_and (thn (ha pins s σ H _ I h) fun c s1 zz9=>?_);obtain⟨H1,I1,q1⟩:=zz9;cases c with|true=>exact hb wh pins s1 σ H1 Q I1 q1|false=>exact⟨H1,I1,q1⟩
theorem g6(ha:PT X a tA)(hb:PW X (.BoolOp .Or (b::rest) pos) tB'):PW X (.BoolOp .Or (a::b::rest) pos) (tOr tA tB'):=by
 intro wh pins s σ H Q I h;refine isTrue_or (thn (ha pins s σ H _ I h) fun c s1 zz9=>?_);obtain⟨H1,I1,q1⟩:=zz9;cases c with|true=>exact⟨H1,I1,q1⟩|false=>exact hb wh pins s1 σ H1 Q I1 q1
def dF(ha:PT X a tA):PT X (.UnaryOp .Not a pos) (OB tA):=by
 intro pins s σ H Q I h;exact isTrue_not (ha pins s σ H (fun c H1=>Q (!c) H1) I h)
def K9(ta tb:TE):TE:=fun σ H Q=>ta σ H fun x H1=>∃c,x=.bl c/\if c=true then tb σ H1 Q else Q (.bl false) H1
def La(ta:TE):TE:=fun σ H Q=>ta σ H fun x H1=>∃c,x=.bl c/\Q (.bl (!c)) H1
def iU{op}(h:PE X a t):PE X (.BoolOp op [a] pos) t:=fun pins s σ H Q I hw=>BoolOp_one (h pins s σ H Q I hw)
theorem ik(ha:PE X a ta)(hb:PE X (.BoolOp .And (b::rest) pos) tb):PE X (.BoolOp .And (a::b::rest) pos) (K9 ta tb):=by
 intro pins s σ H Q I h;refine BoolOp_and (thn (ha pins s σ H _ I h) fun v s1 zz9=>?_);obtain⟨x,H1,I1,r1,q1⟩:=zz9;obtain⟨c,rfl,q1⟩:=q1;cases r1;refine Av ?_;cases c with|true=>exact hb pins s1 σ H1 Q I1 q1|false=>exact⟨.bl false,H1,I1,rfl,q1⟩
def Mc(ha:PE X a ta):PE X (.UnaryOp .Not a pos) (La ta):=by
 intro pins s σ H Q I h;refine UnaryOp_ (thn (ha pins s σ H _ I h) fun v s1 zz9=>?_);obtain⟨x,H1,I1,r1,q1⟩:=zz9;obtain⟨c,rfl,q1⟩:=q1;cases r1;exact not_of (Av ⟨.bl (!c),H1,I1,rfl,q1⟩)
def tIf(t:TT)(ta tb:TE):TE:=fun σ H Q=>t σ H fun c H1=>if c=true then ta σ H1 Q else tb σ H1 Q
theorem d9(hc:PT X c tA)(ha:PE X a ta)(hb:PE X b tb):PE X (.IfExp c a b pos) (tIf tA ta tb):=by
 intro pins s σ H Q I h;refine wpAny_IfExp (thn (hc pins s σ H _ I h) fun d s1 zz9=>?_);obtain⟨H1,I1,q1⟩:=zz9;cases d with|true=>exact ha pins s1 σ H1 Q I1 q1|false=>exact hb pins s1 σ H1 Q I1 q1
end
end L2
namespace L2
open PySem PySem.Spec PyProof.Rows
def SqL(K:Ab)(H:Hp)(a:Addr)(xs:List V):Prop :=
 Rd H a (.lst xs) \/
  ∃(o:Obj)(its:Array Value)(n:Nat),K.lookup a=some o/\o.cls=.type "list"/\o.dict=none/\o.data=.seq its n/\its.size<=sizeLine/\Vals xs its.toList
def SqT(K:Ab)(H:Hp)(a:Addr)(xs:List V):Prop :=
 Rd H a (.tup xs) \/
  ∃(o:Obj)(its:Array Value)(n:Nat),K.lookup a=some o/\o.cls=.type "tuple"/\o.data=.seq its n/\its.size<=sizeLine/\Vals xs its.toList
def QH:Value->Option V|.none=>some .non|.bool b=>some (.bl b)|.int i _=>some (.int i)|.str x _=>some (.str x)|.bytes b _=>some (.byt b)|.float b _=>some (.flt b)|.ref a=>some (.ref a)|.type n=>some (.ty n)|_=>none
theorem RelV.abs(r:RelV x u):QH u=some x:=by
 cases x with
 |non=>cases r;rfl
 |bl _=>cases r;rfl
 |int _=>obtain⟨t,rfl⟩:=r;rfl
 |str _=>obtain⟨t,rfl⟩:=r;rfl
 |byt _=>obtain⟨t,rfl⟩:=r;rfl
 |flt _=>obtain⟨t,rfl⟩:=r;rfl
 |ref _=>cases r;rfl
 |ty _=>cases r;rfl
theorem RelV.inj(r:RelV x u)(q:RelV y u):x=y:=Option.some.inj (r.abs.symm.trans q.abs)
theorem Vals.inj:∀{xs ys:List V}{us:List Value},Vals xs us->Vals ys us->xs=ys|_,_,_,.nil,.nil=>rfl|_,_,_,.cons r t,.cons r' t'=>by rw[r.inj r',Vals.inj t t']
section
variable {X:Cx}{pins:List (Addr×Obj)}{σ:St}{H:Hp}{s:Shared}{a:Addr}{xs ys:List V}
def Inv.list(I:Inv X pins σ H s)(h:SqL X.K H a xs):∃its:List Value,Vals xs its/\PlainL s.heap a its.toArray/\xs.length<=sizeLine:=by
 rcases h with h|⟨o,its,n,hk,hc,hd,hs,hz,r⟩
 ·obtain⟨z,its,n,r,e⟩:=h.ok I.hok;exact⟨its,r,⟨_,n,e,rfl,rfl,rfl⟩,z⟩
 ·refine⟨its.toList,r,⟨o,n,I.kIn a o hk,hc,hd,by simpa using hs⟩,?_⟩
  have e:=r.length;simp only[Wd]at e;lia
def Inv.tuple(I:Inv X pins σ H s)(h:SqT X.K H a xs):∃its:List Value,Vals xs its/\IsTup s.heap a its.toArray/\xs.length<=sizeLine:=by
 rcases h with h|⟨o,its,n,hk,hc,hs,hz,r⟩
 ·obtain⟨z,its,r,p⟩:=h.ok I.hok;exact⟨its,r,p,z⟩
 ·refine⟨its.toList,r,⟨o,I.kIn a o hk,hc,n,by simpa using hs⟩,?_⟩
  have e:=r.length;simp only[Wd]at e;lia
def Inv.list_inj(I:Inv X pins σ H s)(h:SqL X.K H a xs)(h':SqL X.K H a ys):xs=ys:=by
 obtain⟨its,r,⟨o,n,e,_,_,d⟩,_⟩:=I.list h;obtain⟨its',r',⟨o',n',e',_,_,d'⟩,_⟩:=I.list h';rw[e]at e';cases e';rw[d]at d';injection d' with d1 _;have:its=its':=by simpa using congrArg Array.toList d1
 subst this;exact r.inj r'
def Inv.tuple_inj(I:Inv X pins σ H s)(h:SqT X.K H a xs)(h':SqT X.K H a ys):xs=ys:=by
 obtain⟨its,r,⟨o,e,_,n,d⟩,_⟩:=I.tuple h;obtain⟨its',r',⟨o',e',_,n',d'⟩,_⟩:=I.tuple h';rw[e]at e';cases e';rw[d]at d';injection d' with d1 _;have:its=its':=by simpa using congrArg Array.toList d1
 subst this;exact r.inj r'
end
abbrev Cx.wish(X:Cx)(E:Value->Shared->Prop):Cx:={ X with xe:=E }
abbrev Cx.nox(X:Cx):Cx:=X.wish fun _ _=>False
theorem Cx.Ok.wish{X:Cx}(ok:X.Ok)(E:Value->Shared->Prop):(X.wish E).Ok :=
 ⟨ok.mod,ok.kind,ok.glob,ok.blt,ok.above,ok.inj,ok.has,ok.cab,ok.hd,ok.frames,ok.stk,ok.exf,ok.bs,ok.bsz,ok.noex,ok.exfs,ok.funs,ok.frf⟩
def Cx.Ok.unwish{X:Cx}(ok:(X.wish E).Ok):X.Ok :=
 ⟨ok.mod,ok.kind,ok.glob,ok.blt,ok.above,ok.inj,ok.has,ok.cab,ok.hd,ok.frames,ok.stk,ok.exf,ok.bs,ok.bsz,ok.noex,ok.exfs,ok.funs,ok.frf⟩
section
variable {X:Cx}{pins:List (Addr×Obj)}{σ:St}{H:Hp}{s:Shared}{E:Value->Shared->Prop}
theorem Inv.wish(I:Inv X pins σ H s)(E:Value->Shared->Prop):Inv (X.wish E) pins σ H s:=⟨I.ok.wish E,I.os,I.bare,I.base,I.loc,I.cell,I.free,I.freeC,I.pin,I.hok,I.len⟩
theorem Inv.unwish(I:Inv (X.wish E) pins σ H s):Inv X pins σ H s:=⟨I.ok.unwish,I.os,I.bare,I.base,I.loc,I.cell,I.free,I.freeC,I.pin,I.hok,I.len⟩
theorem SP.unwish(h:SP (X.wish E) pins D f s'):SP X pins D f s':=by
 cases f with
 |next=>obtain⟨σ',H',I,q⟩:=h;exact⟨σ',H',I.unwish,q⟩
 |brk=>obtain⟨σ',H',I,q⟩:=h;exact⟨σ',H',I.unwish,q⟩
 |cont=>obtain⟨σ',H',I,q⟩:=h;exact⟨σ',H',I.unwish,q⟩
 |ret u=>obtain⟨v,σ',H',I,r,q⟩:=h;exact⟨v,σ',H',I.unwish,r,q⟩
theorem PSs.nox{st:List Stmt}{t:TS}(h:PSs X.nox st t):PSs X st t:=fun pins s σ H D I hw=>
 Aw (h pins s σ H D (I.wish _) hw) (fun _ _ q=>q.unwish) fun _ _ z=>False.elim z
end
section
variable {X:Cx}{st:Stmt}{rest:List Stmt}{t u:TS}{e:Expr}{te:TE}{pos:Pos}
def Lb:TS:=fun D σ H=>D.nx σ H
def OC(t u:TS):TS:=fun D σ H=>t { D with nx:=u D } σ H
def aX:PSs X [] Lb:=fun _ _ σ H _ I h=>B0 ⟨σ,H,I,h⟩
theorem ah(h1:PS X st t)(h2:PSs X rest u):PSs X (st::rest) (OC t u):=by
 intro pins s σ H D I h;refine wpAny_execs_cons (thn (h1 pins s σ H { D with nx:=u D } I h) fun f s1 q=>?_);cases f with
 |next=>
  obtain⟨σ',H',I',q⟩:=q;exact h2 pins s1 σ' H' D I' q
 |ret v=>exact q
 |brk=>exact q
 |cont=>exact q
theorem ao(h1:PS X st t):PSs X [st] t:=by
 intro pins s σ H D I h;refine wpAny_execs_cons (thn (h1 pins s σ H D I h) fun f s1 q=>?_);cases f with|next=>exact B0 q|ret v=>exact q|brk=>exact q|cont=>exact q
def Inv.quiet(I:Inv X pins σ H s):interactive X.env=false:=by simp[interactive,I.ok.kind]
def Lc(te:TE):TS:=fun D σ H=>te σ H fun _ H1=>D.nx σ H1
def bR(he:PE X e te)(hs:swapsWith e none pos.line X.env=pure false:=by rfl):PS X (.Expr e pos) (Lc te):=by
 intro pins s σ H D I h;exact wpAny_Expr_any (thn (he pins s σ H _ I h) fun v s1 ⟨x,H1,I1,r1,q1⟩=>⟨σ,H1,I1,q1⟩) I.quiet hs
def OD(te:TE):TS:=fun D σ H=>te σ H D.rt
def az(he:PE X e te):PS X (.Return (some e) pos) (OD te):=by
 intro pins s σ H D I h;exact wpAny_Return_some (thn (he pins s σ H _ I h) fun v s1 ⟨x,H1,I1,r1,q1⟩=>⟨x,σ,H1,I1,r1,q1⟩)
def OE(c:TT)(t u:TS):TS:=fun D σ H=>c σ H fun b H1=>if b=true then t D σ H1 else u D σ H1
theorem bH(hc:PT X c tc)(ha:PSs X a t)(hb:PSs X b u):PS X (.If c a b pos) (OE tc t u):=by
 intro pins s σ H D I h;refine wpAny_If (thn (hc pins s σ H _ I h) fun d s1 zz9=>?_);obtain⟨H1,I1,q1⟩:=zz9;cases d with|true=>exact ha pins s1 σ H1 D I1 q1|false=>exact hb pins s1 σ H1 D I1 q1
def EN:TS:=fun _ _ _=>False
def u9:PS X st EN:=fun _ _ _ _ _ _ h=>h.elim
end
abbrev TG:=V->St->Hp->(St->Hp->Prop)->Prop
abbrev TGs:=List V->St->Hp->(St->Hp->Prop)->Prop
def PG(X:Cx)(target:Expr)(t:TG):Prop :=
 ∀(pins:List (Addr×Obj))(s:Shared)(σ:St)(H:Hp)(v:V)(u:Value)(Q:St->Hp->Prop),Inv X pins σ H s->RelV v u->t v σ H Q->
  wpAny (model X.prog X.w) X.A (assign target X.env u) (fun _ s'=>∃σ' H',Inv X pins σ' H' s'/\Q σ' H') X.xe s
def PGs(X:Cx)(ts:List Expr)(t:TGs):Prop :=
 ∀(pins:List (Addr×Obj))(s:Shared)(σ:St)(H:Hp)(vs:List V)(us:List Value)(Q:St->Hp->Prop),Inv X pins σ H s->Vals vs us->t vs σ H Q->
  wpAny (model X.prog X.w) X.A (assignInOrder ((assignEach ts X.env).map (·.2)) us) (fun _ s'=>∃σ' H',Inv X pins σ' H' s'/\Q σ' H') X.xe s
abbrev I0:=V->V->V->Hp->(Hp->Prop)->Prop
def Me(X:Cx)(t:I0):Prop :=
 ∀(pins:List (Addr×Obj))(s:Shared)(σ:St)(H:Hp)(o i v:V)(ov iv u:Value)(Q:Hp->Prop),Inv X pins σ H s->RelV o ov->RelV i iv->RelV v u->t o i v H Q->
  wpAny (model X.prog X.w) X.A (setItem ov iv u) (fun _ s'=>∃H',Inv X pins σ H' s'/\Q H') X.xe s
section
variable {X:Cx}{pos:Pos}
def pR(i:Nat):TG:=fun v σ H Q=>Q (σ.set i (some v)) H
def yc(hN:X.N.Nodup)(hi:X.N[i]?=some x)(hx:Loc X.env.scope x)(hf:X.fn x=true\/X.env.scope.names.lookup x=some .local:=by first|exact .inl rfl|exact .inr rfl|assumption):PG X (.Name x pos) (pR i):=by
 intro pins s σ H v u Q I r h;exact wpAny_assign_Name (EM I hN hi hx r (fun s' I'=>⟨_,H,I',h⟩) hf)
def OF:TGs:=fun vs σ H Q=>vs=[]/\Q σ H
def Ld(t:TG)(u:TGs):TGs:=fun vs σ H Q=>∃v r,vs=v::r/\t v σ H fun σ' H'=>u r σ' H' Q
def o3:PGs X [] OF:=by
 intro pins s σ H vs us Q I r h;obtain⟨e,h⟩:=h;subst e;cases r;exact assignInOrder_nil ⟨σ,H,I,h⟩
def fE(h1:PG X e t)(h2:PGs X es u)
  (hs:(assignEach (e::es) X.env).map (·.2)=assign e X.env::(assignEach es X.env).map (·.2):=by rfl):PGs X (e::es) (Ld t u):=by
 intro pins s σ H vs us Q I r h;obtain⟨v,vr,e1,h⟩:=h;subst e1;cases r with
 |cons r rr=>
  rw[hs];refine assignInOrder_cons (thn (h1 pins s σ H _ _ _ I r h) fun _ s1 zz9=>?_);obtain⟨σ1,H1,I1,q1⟩:=zz9;exact h2 pins s1 σ1 H1 _ _ Q I1 rr q1
def Mf(K:Ab)(n:Nat)(t:TGs):TG:=fun v σ H Q=>∃a xs,v=.ref a/\SqT K H a xs/\xs.length=n/\t xs σ H Q
def Mg(hc:X.calm=true)(h:PGs X es t)
  (hn:(assignEach es X.env).length=n:=by rfl)(hst:(assignEach es X.env).findIdx? (·.1)=none:=by rfl):PG X (.Tuple es k pos) (Mf X.K n t):=by
 intro pins s σ H v u Q I r hw;obtain⟨a,xs,e1,hq,hl,hw⟩:=hw;subst e1;cases r;obtain⟨its,rv,ht,hz⟩:=I.tuple hq;refine assign_Tuple_tuple (I.ok.hd hc) ht (by simp[hn,<-hl,rv.length]) hst fun h' hx=>?_
 have I1:Inv X pins σ H { s with heap:=h' }:=I.kept (t':=s.toks) fun b o e=>hx b o (Qf (Ai e)) e;exact h pins _ σ H xs _ Q I1 (by simpa using rv) hw
def OG(to ti:TE)(t:I0):TG:=fun v σ H Q=>to σ H fun o H1=>ti σ H1 fun i H2=>t o i v H2 fun H3=>Q σ H3
def gx(ho:PE X o to)(hi:PE X i ti)(hs:Me X t)
  (ha:∀v,assign (.Subscript o i pos) X.env v=(do
   let ov <-holding [v] (eval o X.env)
   let iv <-holding [v,ov] (eval i X.env)
   standAt pos
   holding [v,ov,iv] (setItem ov iv v)
   release [v,ov,iv] []):=by intro _;rfl):PG X (.Subscript o i pos) (OG to ti t):=by
 intro pins s σ H v u Q I r h;rw[ha];refine Aa (AA (thn (ho pins s σ H _ I h) fun ov s1 zz9=>?_));obtain⟨x,H1,I1,r1,q1⟩:=zz9;refine Aa (AA (thn (hi pins s1 σ H1 _ I1 q1) fun iv s2 zz9=>?_));obtain⟨y,H2,I2,r2,q2⟩:=zz9;refine Aa (wpAny_standAt (Aa (AA (thn (hs pins s2 σ H2 x y v ov iv u _ I2 r1 r2 r q2) fun _ s3 zz9=>?_))));obtain⟨H3,I3,q3⟩:=zz9;exact wpAny_release ⟨σ,H3,I3,q3⟩
def Dr(te:TE)(g:TG):TS:=fun D σ H=>te σ H fun x H1=>g x σ H1 D.nx
def fO(he:PE X e te)(hg:PG X tg g)(hs:swapsWithSole [tg] e pos.line X.env=pure false:=by rfl)(hw:swappedStores [tg] e X.env=pure none:=by rfl)
  (h1:(assignEach [tg] X.env).map (·.2)=[assign tg X.env]:=by rfl):PS X (.Assign [tg] e pos) (Dr te g):=by
 intro pins s σ H D I h;refine wpAny_Assign_stores (thn (he pins s σ H _ I h) fun v s1 zz9=>?_) hs hw;obtain⟨x,H1,I1,r1,q1⟩:=zz9;rw[h1];exact thn (hg pins s1 σ H1 x v _ I1 r1 q1) fun _ s2 q=>q
end
section
variable {X:Cx}{pos:Pos}
def EO(c:TT)(tb:TS):TS:=fun D σ H=>∃W:Nat->St->Hp->Prop,(∃m,W m σ H)/\∀m σ H,W m σ H->
 c σ H fun b H1=>if b=true then ∃N:St->Hp->Prop,(∀σ' H',N σ' H'->∃m',m'<m/\W m' σ' H')/\tb { D with nx:=N,ct:=N,bk:=D.nx } σ H1 else D.nx σ H1
theorem mz(hp:PassesOwn (model X.prog X.w) X.A X.env X.xe)(hc:PT X c tc)(hb:PSs X body tb):PS X (.While c body [] pos) (EO tc tb):=by
 intro pins s σ H D I h;obtain⟨W,⟨m0,w0⟩,turn⟩:=h;refine wpAny_While (codeAny_whileLoop (fun n s'=>∃σ' H',Inv X pins σ' H' s'/\W n σ' H') ?_ m0 ⟨σ,H,I,w0⟩);rintro n s1 ⟨σ1,H1,I1,w1⟩;refine AO hp (thn (hc pins s1 σ1 H1 _ I1 (turn n σ1 H1 w1)) fun b s2 zz9=>?_);obtain⟨H2,I2,q2⟩:=zz9;cases b with
 |true=>
  obtain⟨N,hN,q2⟩:=q2;rw[Ag rfl];refine AO hp (thn (hb pins s2 σ1 H2 _ I2 q2) fun f s3 q3=>?_);cases f with
  |next=>
   obtain⟨σ3,H3,I3,n3⟩:=q3;obtain⟨m',hm,w3⟩:=hN σ3 H3 n3;exact⟨m',hm,σ3,H3,I3,w3⟩
  |cont=>
   obtain⟨σ3,H3,I3,n3⟩:=q3;obtain⟨m',hm,w3⟩:=hN σ3 H3 n3;exact⟨m',hm,σ3,H3,I3,w3⟩
  |brk=>exact q3
  |ret v=>exact q3
 |false=>
  rw[Aj Qd];exact B0 ⟨σ1,H2,I2,q2⟩
end
structure It where
 go:Nat->Hp->Prop
 yld:Nat->Hp->V->Hp->Prop
 stop:Nat->Hp->Prop
def jN(X:Cx)(pins:List (Addr×Obj))(H:Hp)(b:Addr):Prop :=
 H b=none/\b≠X.env.locals/\b∉X.fs/\(b∈X.ex\/X.s₀.heap.objs.size<=b)/\(∀x c,X.env.cells.lookup x=some c->c≠b)/\∀p∈X.pn++pins,p.1≠b
def Inv.fpOk{s:Shared}(I:Inv X pins σ H s)(hb:s.heap.objs.size<=b)(hn:H' b=none):jN X pins H' b:=by
 refine⟨hn,Bq (Vd I.lt hb),I.nofs hb,.inr (Ve I.sz hb),fun x c e z=>?_,fun p hp z=>?_⟩
 ·obtain⟨v,q⟩:=I.cell x c e;exact absurd (Vd q.lt (by rw[z];exact hb)) (Zj _)
 ·exact absurd (Vd (Ai (I.pin p hp).1) (by rw[z];exact hb)) (Zj _)
structure Turn(P:Program)(w:World)(K:Ab)(tg:Expr)(J:It)(fp:List Addr)(it:Addr)(tn:Nat->Heap->Prop):Prop where
 mem:it∈fp
 obj:∀i h,tn i h->∀b∈fp,∃o,h.get? b=some o/\∀v,o.data≠.cell v
 keep:∀i h h',tn i h->(∀b∈fp,∀o,h.get? b=some o->h'.get? b=some o)->tn i h'
 item:∀(X:Cx),X.prog=P->X.w=w->X.K=K->X.calm=true->∀(i:Nat)(pins:List (Addr×Obj))(s:Shared)(σ:St)(H:Hp)(E:Value->Shared->Prop),Inv X pins σ H s->(∀b∈fp,jN X pins H b)->tn i s.heap->J.go i H->
  wpAny (model P w) X.A (pyNext (.ref it)) (fun r s1=>∃u,r=some u /\
   wpAny (model P w) X.A (letOwnedTupleGo tg (.ref it) u) (fun _ s2=>∃x H',Inv X pins σ H' s2/\RelV x u/\J.yld i H x H'/\tn (i+1) s2.heap/\∀b∈fp,H' b=none) E s1) E s
 done:∀(X:Cx),X.prog=P->X.w=w->X.K=K->X.calm=true->∀(i:Nat)(pins:List (Addr×Obj))(s:Shared)(σ:St)(H:Hp)(E:Value->Shared->Prop),Inv X pins σ H s->(∀b∈fp,jN X pins H b)->tn i s.heap->J.stop i H->
  wpAny (model P w) X.A (pyNext (.ref it)) (fun r s1=>r=none/\Inv X pins σ H s1) E s
 self:∀(A:Around)(i:Nat)(s:Shared)(Q:Value->Shared->Prop)(E:Value->Shared->Prop),tn i s.heap->Q (.ref it) s->wpAny (model P w) A (pyIter (.ref it)) Q E s
abbrev TI:=St->Hp->(It->Hp->Prop)->Prop
inductive PIE(X:Cx)(pins:List (Addr×Obj))(σ:St)(tg:Expr)(R:It->Hp->Prop)(itv:Value)(s2:Shared):Prop
 | mk (it:Addr) (fp:List Addr) (tn:Nat->Heap->Prop) (J:It) (H':Hp) (e:itv=.ref it) (I:Inv X pins σ H' s2) (T:Turn X.prog X.w X.K tg J fp it tn) (t0:tn 0 s2.heap) (fo:∀b∈fp,jN X pins H' b) (r:R J H')
def PI(X:Cx)(tg iter:Expr)(wi:TI):Prop :=
 ∀(pins:List (Addr×Obj))(s:Shared)(σ:St)(H:Hp)(R:It->Hp->Prop),Inv X pins σ H s->wi σ H R->
  wpAny (model X.prog X.w) X.A (eval iter X.env) (fun v s1=>wpAny (model X.prog X.w) X.A (pyIter v) (PIE X pins σ tg R) X.xe s1) X.xe s
def rE{s : Shared}{o : Obj}(ho : s.heap.get? it = some o)(hc : o.cls = .type n)(hd : o.data = .fields vs)
    (hn : ["enumerate", "zip", "dict_itemiterator", "dict_reverseitemiterator", "odict_iterator", "itertools.zip_longest", "itertools.pairwise"].contains n = false)(hQ : Q () s) : wpAny M A (letOwnedTupleGo tg (.ref it) u) Q E s := by
  unfold letOwnedTupleGo;cases tg <;> first
    | exact Ad hQ
    | (cases u <;> first
        | exact Ad hQ
        | (refine Aa (wpAny_load ho ?_)
           rw [hc, hd];show wpAny M A (if (["enumerate", "zip", "dict_itemiterator", "dict_reverseitemiterator", "odict_iterator", "itertools.zip_longest", "itertools.pairwise"].contains n && vs[0]? == some (rawInt _)) = true then _ else _) Q E s;rw [Aj (by intro h; rw [hn, Bool.false_and] at h; cases h)]
           exact Ad hQ))
def Itl(K:Ab)(a:Addr):It :=
 ⟨fun i H=>∃xs x,SqL K H a xs/\xs[i]?=some x,fun i H x H'=>H'=H/\∀xs,SqL K H a xs->xs[i]?=some x,fun i H=>∃xs,SqL K H a xs/\xs.length<=i⟩
def Itt(K:Ab)(a:Addr):It :=
 ⟨fun i H=>∃xs x,SqT K H a xs/\xs[i]?=some x,fun i H x H'=>H'=H/\∀xs,SqT K H a xs->xs[i]?=some x,fun i H=>∃xs,SqT K H a xs/\xs.length<=i⟩
def Itr(lo:Int)(n:Nat):It:=⟨fun i _=>i<n,fun i H x H'=>H'=H/\x=.int (lo+i),fun i _=>n<=i⟩
def Ds{P:Program}{w:World}{K:Ab}{tg:Expr}(a it:Addr):Turn P w K tg (Itl K a) [it] it (fun i h=>h.IsListIter it a i) where
 mem:=by simp
 obj:=fun i h st b hb=>by
  have e:b=it:=by simpa using hb
  subst e;obtain⟨o,e,c,d⟩:=st;exact⟨o,e,fun v z=>by rw[d]at z;cases z⟩
 keep:=fun i h h' st k=>st.at fun o e=>k it (by simp) o e
 item:=by
  intro X hP hw hK hc i pins s σ H E I hf st hg;subst hP hw hK;obtain⟨xs,x,hq,hx⟩:=hg;obtain⟨its,rv,p,hz⟩:=I.list hq;obtain⟨u,hu,ru⟩:=rv.get hx;obtain⟨f0,f1,f2,f3,f4,f5⟩:=hf it (by simp)
  refine wpAny_pyNext_list_item st p.isList (x:=u) (by simpa using hu) fun h' st' sb=>?_
  have I1:Inv X pins σ H { s with heap:=h' }:=I.turned (t':=s.toks) (fun b o hb e=>(sb.2 b hb).trans e) f0 f1 f3 f4 f5;obtain⟨o,e,c,d⟩:=id st';exact⟨u,rfl,rE (s:={ s with heap:=h' }) e c d (by decide) ⟨x,H,I1,ru,⟨rfl,fun ys hy=>by rw[I.list_inj hy hq];exact hx⟩,st',fun b hb=>(hf b hb).1⟩⟩
 done:=by
  intro X hP hw hK hc i pins s σ H E I hf st hg;subst hP hw hK;obtain⟨xs,hq,hx⟩:=hg;obtain⟨its,rv,p,hz⟩:=I.list hq;obtain⟨f0,f1,f2,f3,f4,f5⟩:=hf it (by simp)
  have hl:=rv.length;exact wpAny_pyNext_list_end (I.ok.hd hc) st p.isList (by simp;lia) fun h' eb=>⟨rfl,I.turned (t':=s.toks) (fun b o hb e=>eb b o hb e) f0 f1 f3 f4 f5⟩
 self:=fun _ _ _ _ _ st h=>wpAny_pyIter_listiter st h
def wN{P:Program}{w:World}{K:Ab}{tg:Expr}(a it:Addr):Turn P w K tg (Itt K a) [it] it (fun i h=>h.IsTupleIter it a i) where
 mem:=by simp
 obj:=fun i h st b hb=>by
  have e:b=it:=by simpa using hb
  subst e;obtain⟨o,e,c,d⟩:=st;exact⟨o,e,fun v z=>by rw[d]at z;cases z⟩
 keep:=fun i h h' st k=>st.at fun o e=>k it (by simp) o e
 item:=by
  intro X hP hw hK hc i pins s σ H E I hf st hg;subst hP hw hK;obtain⟨xs,x,hq,hx⟩:=hg;obtain⟨its,rv,p,hz⟩:=I.tuple hq;obtain⟨u,hu,ru⟩:=rv.get hx;obtain⟨f0,f1,f2,f3,f4,f5⟩:=hf it (by simp)
  refine wpAny_pyNext_tuple_item st (show s.heap.IsTuple a its.toArray from p) (x:=u) (by simpa using hu) fun h' st' sb=>?_
  have I1:Inv X pins σ H { s with heap:=h' }:=I.turned (t':=s.toks) (fun b o hb e=>(sb.2 b hb).trans e) f0 f1 f3 f4 f5;obtain⟨o,e,c,d⟩:=id st';exact⟨u,rfl,rE (s:={ s with heap:=h' }) e c d (by decide) ⟨x,H,I1,ru,⟨rfl,fun ys hy=>by rw[I.tuple_inj hy hq];exact hx⟩,st',fun b hb=>(hf b hb).1⟩⟩
 done:=by
  intro X hP hw hK hc i pins s σ H E I hf st hg;subst hP hw hK;obtain⟨xs,hq,hx⟩:=hg;obtain⟨its,rv,p,hz⟩:=I.tuple hq;obtain⟨f0,f1,f2,f3,f4,f5⟩:=hf it (by simp)
  have hl:=rv.length;exact wpAny_pyNext_tuple_end (I.ok.hd hc) st (show s.heap.IsTuple a its.toArray from p) (by simp;lia) fun h' eb=>⟨rfl,I.turned (t':=s.toks) (fun b o hb e=>eb b o hb e) f0 f1 f3 f4 f5⟩
 self:=fun _ _ _ _ _ st h=>wpAny_pyIter_tupleiter st h
def wO{P:Program}{w:World}{K:Ab}{tg:Expr}(it:Addr)(lo:Int)(n:Nat):Turn P w K tg (Itr lo n) [it] it (fun i h=>IsRangeIter h it (lo+(i:Nat)*1) ((n:Int)-(i:Nat)) 1) where
 mem:=by simp
 obj:=fun i h st b hb=>by
  have e:b=it:=by simpa using hb
  subst e
  exact⟨_,st,fun v z=>by
   have z':Data.fields _=Data.cell v:=z
   cases z'⟩
 keep:=fun i h h' st k=>k it (by simp) _ st
 item:=by
  intro X hP hw hK hc i pins s σ H E I hf st hg;subst hP hw hK;obtain⟨f0,f1,f2,f3,f4,f5⟩:=hf it (by simp)
  have W:=Walks.range (prog:=X.prog) (w:=X.w) (I.ok.hd hc) it lo 1 n;refine W.item i s _ _ hg st fun v h' tk hv st' kk=>?_;obtain⟨t,rfl⟩:=hv;have I1:Inv X pins σ H { s with heap:=h',toks:=tk }:=I.turned (fun b o hb e=>kk b o (by simpa using hb) e) f0 f1 f3 f4 f5
  refine⟨_,rfl,rE (s:={ s with heap:=h',toks:=tk }) (n:="range_iterator") st' rfl rfl (by decide) ⟨.int (lo+i),H,I1,⟨t,?_⟩,⟨rfl,rfl⟩,st',fun b hb=>(hf b hb).1⟩⟩
  rw[Int.mul_one]
 done:=by
  intro X hP hw hK hc i pins s σ H E I hf st hg;subst hP hw hK;obtain⟨f0,f1,f2,f3,f4,f5⟩:=hf it (by simp)
  exact wpAny_pyNext_range_end (I.ok.hd hc) st (by have:n<=i:=hg;lia) fun h' eb=>⟨rfl,I.turned (t':=s.toks) (fun b o hb e=>eb b o hb e) f0 f1 f3 f4 f5⟩
 self:=fun _ _ _ _ _ st h=>wpAny_pyIter_rangeiter st h
end L2
namespace L2
open PySem PySem.Spec PyProof.Rows
section
variable {X:Cx}{tg:Expr}
def yd(K:Ab)(tl:TE):TI:=fun σ H R=>tl σ H fun x H1=>∃a,x=.ref a/\(∃xs,SqL K H1 a xs)/\R (Itl K a) H1
def Mh(K:Ab)(tl:TE):TI:=fun σ H R=>tl σ H fun x H1=>∃a,x=.ref a/\(∃xs,SqT K H1 a xs)/\R (Itt K a) H1
def I8{l:Expr}{tl:TE}(hl:PE X l tl):PI X tg l (yd X.K tl):=by
 intro pins s σ H R I h;refine thn (hl pins s σ H _ I h) fun v s1 zz9=>?_;obtain⟨x,H1,I1,r1,q1⟩:=zz9;obtain⟨a,e,⟨xs,hq⟩,q⟩:=q1;subst e;cases r1;obtain⟨its,rv,p,hz⟩:=I1.list hq;refine BB p.isList ?_;refine⟨s1.heap.objs.size,[s1.heap.objs.size],_,_,H1,rfl,I1.kept (t':=s1.toks) fun b o e=>Ac _ e,Ds a _,⟨_,Ah _ rfl,rfl,rfl⟩,fun b hb=>?_,q⟩;have e:b=s1.heap.objs.size:=by simpa using hb
 subst e;exact I1.fpOk (Wb _) (I1.hok.fresh (Wb _))
def Mi{l:Expr}{tl:TE}(hl:PE X l tl):PI X tg l (Mh X.K tl):=by
 intro pins s σ H R I h;refine thn (hl pins s σ H _ I h) fun v s1 zz9=>?_;obtain⟨x,H1,I1,r1,q1⟩:=zz9;obtain⟨a,e,⟨xs,hq⟩,q⟩:=q1;subst e;cases r1;obtain⟨its,rv,p,hz⟩:=I1.tuple hq;refine wpAny_pyIter_tuple (show s1.heap.IsTuple a its.toArray from p) ?_;refine⟨s1.heap.objs.size,[s1.heap.objs.size],_,_,H1,rfl,I1.kept (t':=s1.toks) fun b o e=>Ac _ e,wN a _,⟨_,Ah _ rfl,rfl,rfl⟩,fun b hb=>?_,q⟩;have e:b=s1.heap.objs.size:=by simpa using hb
 subst e;exact I1.fpOk (Wb _) (I1.hok.fresh (Wb _))
def EQ{s:Shared}{R:It->Hp->Prop}{E:Value->Shared->Prop}{lo hi:Int}{t u v:Tok}{tk:Nat}(I:Inv X pins σ H s)(h1:-(2 ^ 62)<=lo)(h2:lo<2 ^ 62)(h3:-(2 ^ 62)<=hi)(h4:hi<2 ^ 62)
  (q:R (Itr lo (hi-lo).toNat) H):wpAny (model X.prog X.w) X.A (pyIter (.ref s.heap.objs.size)) (PIE X pins σ tg R) E { s with heap:=s.heap.push { cls:=.type "range",data:=.fields #[.int lo t,.int hi u,.int 1 v] },toks:=tk }:=by
 refine wpAny_pyIter_range (IsRange.new ..) (small_one h1 h2 h3 h4) ?_;have I1:Inv X pins σ H { s with heap:=s.heap.push { cls:=.type "range",data:=.fields #[.int lo t,.int hi u,.int 1 v] },toks:=tk }:=I.kept fun b o e=>Ac _ e
 refine⟨(s.heap.push { cls:=.type "range",data:=.fields #[.int lo t,.int hi u,.int 1 v] }).objs.size,[(s.heap.push { cls:=.type "range",data:=.fields #[.int lo t,.int hi u,.int 1 v] }).objs.size],_,_,H,rfl,
  I1.kept (t':=tk) fun b o e=>Ac _ e,wO _ lo (hi-lo).toNat,?_,fun b hb=>?_,q⟩
 ·have e1:lo+((0:Nat):Int)*1=lo:=by simp
  have e2:(((hi-lo).toNat:Nat):Int)-((0:Nat):Int)=Builtin.Range.rangeSize lo hi 1:=by rw[rangeSize_one];split<;>lia
  show IsRangeIter _ _ (lo+((0:Nat):Int)*1) ((((hi-lo).toNat:Nat):Int)-((0:Nat):Int)) 1;rw[e1,e2];exact Ah _ rfl
 ·have e:b=(s.heap.push { cls:=.type "range",data:=.fields #[.int lo t,.int hi u,.int 1 v] }).objs.size:=by simpa using hb
  subst e;exact I1.fpOk (Wb _) (I1.hok.fresh (Wb _))
def Le(ta:TA):TI:=fun σ H R=>ta σ H fun vs H1=>∃j:Int,vs=[.int j]/\-(2 ^ 62)<=j/\j<2 ^ 62/\R (Itr 0 j.toNat) H1
theorem iJ{ta:TA}(hg:Gl X "range")(hm:X.mg "range"=none)(ha:PA X [a] ta)(hs:starEach [a] X.env=[(false,eval a X.env)]:=by rfl):PI X tg (.Call (.Name "range" p) [a] [] pos) (Le ta):=by
 intro pins s σ H R I h;refine Call_ (jO I hg hm boot_range (AE (thn (ha pos pins s σ H _ I h) fun us s1 zz9=>?_) hs rfl));obtain⟨vs,H1,I1,r1,q1⟩:=zz9;obtain⟨j,e,q1,q2,q⟩:=q1;subst e;cases r1 with
 |cons r rr=>
  cases rr;obtain⟨t,rfl⟩:=r;exact call_range_1 (EQ I1 (by lia) (by lia) q1 q2 (by simpa using q))
def OH(wi:TI)(g:TG)(tb:TS):TS:=fun D σ H=>wi σ H fun J H1=>∃W:Nat->Nat->St->Hp->Prop,(∃m,W 0 m σ H1)/\∀i m σ H,W i m σ H->
 (J.stop i H/\D.nx σ H)\/(J.go i H/\∃N:St->Hp->Prop,(∀σ' H',N σ' H'->∃m',m'<m/\W (i+1) m' σ' H')/\∀x H',J.yld i H x H'->g x σ H' fun σ2 H2=>tb { D with nx:=N,ct:=N,bk:=D.nx } σ2 H2)
def pS(fp:List Addr)(h:Heap):List (Addr×Obj):=fp.filterMap fun b=>(h.get? b).map fun o=>(b,o)
def iV{h:Heap}(hb:b∈fp)(e:h.get? b=some o):(b,o)∈pS fp h:=List.mem_filterMap.mpr ⟨b,hb,by rw[e];rfl⟩
theorem Dt{h:Heap}(hp:p∈pS fp h):p.1∈fp/\h.get? p.1=some p.2:=by
 obtain⟨b,hb,e⟩:=List.mem_filterMap.mp hp;cases q:h.get? b with
 |none=>rw[q]at e;cases e
 |some o=>
  rw[q]at e;have e':(b,o)=p:=Option.some.inj e;subst e';exact⟨hb,q⟩
def Inv.pinned{s:Shared}(I:Inv X pins σ H s)(hf:∀b∈fp,jN X pins H b)(ho:∀b∈fp,∃o,s.heap.get? b=some o/\∀v,o.data≠.cell v):Inv X (pins++pS fp s.heap) σ H s :=
 I.pins_of fun p hp=>(Zc.mp hp).elim (fun z=>I.pin p (Xd _ z)) fun z=>by
  obtain⟨hb,e⟩:=Dt z;obtain⟨f0,f1,f2,_⟩:=hf p.1 hb;obtain⟨o,e',d⟩:=ho p.1 hb;rw[e]at e';cases e';exact⟨e,f0,f1,f2,d⟩
def Inv.unpinned(I:Inv X (pins++pl) σ H s):Inv X pins σ H s:=I.pins_of fun p hp=>I.pin p (Xd _ (Vf _ hp))
def cX(hp:PassesOwn (model X.prog X.w) X.A X.env X.xe)(hc:X.calm=true)(hi:PI X tg iter wi)(hg:PG X tg g)(hb:PSs X body tb)
  (hs:∀x,foldedSetIterable iter X.env x=pure x:=by intro _;rfl):PS X (.For tg iter body [] pos) (OH wi g tb):=by
 intro pins s σ H D I h;refine wpAny_For (thn (hi pins s σ H _ I h) fun v s1 h1=>thn h1 fun itv s2 h2=>?_) hs;obtain⟨it,fp,tn,J,H2,e,I2,T,st2,f2,W,⟨m0,w0⟩,turn⟩:=h2;subst e;have stat:∀{H':Hp},(∀b∈fp,H' b=none)->∀b∈fp,jN X pins H' b:=fun hn b hb=>⟨hn b hb,(f2 b hb).2⟩;refine codeAny_forLoop_any (fun n s'=>∃i σ' H',Inv X pins σ' H' s'/\tn i s'.heap/\(∀b∈fp,H' b=none)/\W i n σ' H') ?_ m0 ⟨0,σ,H2,I2,st2,fun b hb=>(f2 b hb).1,w0⟩;rintro n s3 ⟨i,σ3,H3,I3,st3,fr3,w3⟩;rcases turn i n σ3 H3 w3 with⟨stop,qn⟩|⟨go,N,hN,step⟩
 ·refine AO hp (thn (T.done X rfl rfl rfl hc i pins s3 σ3 H3 X.xe I3 (stat fr3) st3 stop) fun r s4 zz9=>?_);obtain⟨hr,I4⟩:=zz9;subst hr;exact B0 ⟨σ3,H3,I4,qn⟩
 ·refine AO hp (thn (T.item X rfl rfl rfl hc i pins s3 σ3 H3 X.xe I3 (stat fr3) st3 go) fun r s4 zz9=>?_);obtain⟨u,hr,h4⟩:=zz9;subst hr;refine AO hp (thn h4 fun _ s5 zz9=>?_);obtain⟨x,H5,I5,r5,y5,st5,fr5⟩:=zz9;have I5':=I5.pinned (stat fr5) (T.obj _ _ st5);refine AO hp (thn (hg _ s5 σ3 H5 x u _ I5' r5 (step x H5 y5)) fun _ s6 zz9=>?_);obtain⟨σ6,H6,I6,q6⟩:=zz9;refine AO hp (thn (hb _ s6 σ6 H6 _ I6 q6) fun f s7 q7=>?_);have again:∀{σ7:St}{H7:Hp},Inv X (pins++pS fp s5.heap) σ7 H7 s7->N σ7 H7->∃m,m<n/\∃i σ' H',Inv X pins σ' H' s7/\tn i s7.heap/\(∀b∈fp,H' b=none)/\W i m σ' H':=fun {σ7 H7} I7 n7=>by
   obtain⟨m',hm,w7⟩:=hN σ7 H7 n7;refine⟨m',hm,i+1,σ7,H7,I7.unpinned,T.keep _ _ _ st5 fun b hb o e=>(I7.pin (b,o) (Xd _ (Xd _ (iV hb e)))).1,fun b hb=>?_,w7⟩;obtain⟨o,e,d⟩:=T.obj _ _ st5 b hb;exact(I7.pin (b,o) (Xd _ (Xd _ (iV hb e)))).2.1
  cases f with
  |next=>obtain⟨σ7,H7,I7,n7⟩:=q7;exact again I7 n7
  |cont=>obtain⟨σ7,H7,I7,n7⟩:=q7;exact again I7 n7
  |brk=>obtain⟨σ7,H7,I7,q7⟩:=q7;exact⟨σ7,H7,I7.unpinned,q7⟩
  |ret v=>obtain⟨x7,σ7,H7,I7,r7,q7⟩:=q7;exact⟨x7,σ7,H7,I7.unpinned,r7,q7⟩
end
end L2
namespace L2
open PySem PySem.Spec PyProof.Rows
abbrev R2:=V->V->Hp->VK->Prop
def OpR(X:Cx)(f:Value->Value->Sem Value)(r:R2):Prop :=
 ∀(pins:List (Addr×Obj))(s:Shared)(σ:St)(H:Hp)(x y:V)(v u:Value)(Q:VK),Inv X pins σ H s->RelV x v->RelV y u->r x y H Q->
  wpAny (model X.prog X.w) X.A (f v u) (EP X pins σ Q) X.xe s
def UnR(X:Cx)(f:Value->Sem Value)(r:V->Hp->VK->Prop):Prop :=
 ∀(pins:List (Addr×Obj))(s:Shared)(σ:St)(H:Hp)(x:V)(v:Value)(Q:VK),Inv X pins σ H s->RelV x v->r x H Q->
  wpAny (model X.prog X.w) X.A (f v) (EP X pins σ Q) X.xe s
def CallR(X:Cx)(f:Value)(r:List V->Hp->VK->Prop):Prop :=
 ∀(pins:List (Addr×Obj))(s:Shared)(σ:St)(H:Hp)(xs:List V)(us:List Value)(Q:VK),Inv X pins σ H s->Vals xs us->r xs H Q->
  wpAny (model X.prog X.w) X.A (call f us) (EP X pins σ Q) X.xe s
def tOp(r:R2)(ta tb:TE):TE:=fun σ H Q=>ta σ H fun x H1=>tb σ H1 fun y H2=>r x y H2 Q
def tUn(r:V->Hp->VK->Prop)(ta:TE):TE:=fun σ H Q=>ta σ H fun x H1=>r x H1 Q
def rI(C:Int->Int->Prop)(g:Int->Int->V):R2:=fun x y H Q=>∃i j,x=.int i/\y=.int j/\C i j/\Q (g i j) H
def rI0(g:Int->Int->V):R2:=fun x y H Q=>∃i j,x=.int i/\y=.int j/\Q (g i j) H
def rU(g:Int->V):V->Hp->VK->Prop:=fun x H Q=>∃i,x=.int i/\Q (g i) H
section
variable {X:Cx}{a b c:Expr}{ta tb tc:TE}{pos:Pos}
def Mj(ha:PE X a ta)(hb:PE X b tb){R:V->V->Hp->Prop}(I:Inv X pins σ H s)
  (h:ta σ H fun x H1=>tb σ H1 fun y H2=>R x y H2){Q:Value->Shared->Prop}{f:Value->Value->Sem Value}
  (hf:∀v u s2 x y H2,Inv X pins σ H2 s2->RelV x v->RelV y u->R x y H2->wpAny (model X.prog X.w) X.A (f v u) Q X.xe s2) :
  wpAny (model X.prog X.w) X.A (eval a X.env) (fun v s₁=>wpAny (model X.prog X.w) X.A (eval b X.env) (fun u s₂=>wpAny (model X.prog X.w) X.A (f v u) Q X.xe s₂) X.xe s₁) X.xe s:=by
 refine thn (ha pins s σ H _ I h) fun v s1 zz9=>?_;obtain⟨x,H1,I1,r1,q1⟩:=zz9;refine thn (hb pins s1 σ H1 _ I1 q1) fun u s2 zz9=>?_;obtain⟨y,H2,I2,r2,q2⟩:=zz9;exact hf v u s2 x y H2 I2 r1 r2 q2
def b8{op:Operator}{r:R2}(ho:OpR X (binaryOp op) r)(ha:PE X a ta)(hb:PE X b tb):PE X (.BinOp a op b pos) (tOp r ta tb):=by
 intro pins s σ H Q I h;exact wpAny_BinOp (Mj ha hb I h fun v u s2 x y H2 I2 rx ry q=>ho pins s2 σ H2 x y v u Q I2 rx ry q)
def rF(ho:UnR X (unaryOp op) r)(ha:PE X a ta):PE X (.UnaryOp op a pos) (tUn r ta):=by
 intro pins s σ H Q I h;exact UnaryOp_ (thn (ha pins s σ H _ I h) fun v s1 ⟨x,H1,I1,r1,q1⟩=>ho pins s1 σ H1 x v Q I1 r1 q1)
def opI{f:Value->Value->Sem Value}{C:Int->Int->Prop}{g:Int->Int->Int}
  (rule:∀(i j:Int)(t u:Tok)(s:Shared)(Q:Value->Shared->Prop)(E:Value->Shared->Prop),C i j->Q (.int (g i j) s.toks) { s with toks:=s.toks+1 }->wpAny (model X.prog X.w) X.A (f (.int i t) (.int j u)) Q E s) :
  OpR X f (rI C fun i j=>.int (g i j)):=by
 intro pins s σ H x y v u Q I rx ry h;obtain⟨i,j,rfl,rfl,hc,q⟩:=h;obtain⟨t,rfl⟩:=rx;obtain⟨t',rfl⟩:=ry;exact rule i j t t' s _ _ hc ⟨.int (g i j),H,I.tok _,⟨_,rfl⟩,q⟩
def OJ{f:Value->Value->Sem Value}{g:Int->Int->Int}
  (rule:∀(i j:Int)(t u:Tok)(s:Shared)(Q:Value->Shared->Prop)(E:Value->Shared->Prop),Q (.int (g i j) s.toks) { s with toks:=s.toks+1 }->wpAny (model X.prog X.w) X.A (f (.int i t) (.int j u)) Q E s) :
  OpR X f (rI0 fun i j=>.int (g i j)):=by
 intro pins s σ H x y v u Q I rx ry h;obtain⟨i,j,rfl,rfl,q⟩:=h;obtain⟨t,rfl⟩:=rx;obtain⟨t',rfl⟩:=ry;exact rule i j t t' s _ _ ⟨.int (g i j),H,I.tok _,⟨_,rfl⟩,q⟩
def I9{f:Value->Value->Sem Value}{g:Int->Int->Bool}
  (rule:∀(i j:Int)(t u:Tok)(s:Shared)(Q:Value->Shared->Prop)(E:Value->Shared->Prop),Q (.bool (g i j)) s->wpAny (model X.prog X.w) X.A (f (.int i t) (.int j u)) Q E s) :
  OpR X f (rI0 fun i j=>.bl (g i j)):=by
 intro pins s σ H x y v u Q I rx ry h;obtain⟨i,j,rfl,rfl,q⟩:=h;obtain⟨t,rfl⟩:=rx;obtain⟨t',rfl⟩:=ry;exact rule i j t t' s _ _ ⟨.bl (g i j),H,I,rfl,q⟩
def wP(i j:Int):Prop:=0<j/\j<1073741824
def ES(i j:Int):Prop:=0<=j/\j<=1000000/\i.natAbs<2 ^ 64
def CMul(i j:Int):Prop:=(-(2 ^ 64)<i/\i<2 ^ 64)\/(-(2 ^ 64)<j/\j<2 ^ 64)
def CMul.ok(h:CMul i j):IntMulOk i j:=by
 rcases h with⟨h1,h2⟩|⟨h1,h2⟩
 ·exact .of_left (intBits_le_64 h1 h2)
 ·exact .of_right (intBits_le_64 h1 h2)
def op_add:OpR X (binaryOp .Add) (rI0 fun i j=>.int (i+j)):=OJ fun _ _ _ _ _ _ _ q=>add_int q
def pU:OpR X (binaryOp .Sub) (rI0 fun i j=>.int (i-j)):=OJ fun _ _ _ _ _ _ _ q=>sub_int q
def op_mul:OpR X (binaryOp .Mult) (rI CMul fun i j=>.int (i*j)):=opI fun _ _ _ _ _ _ _ hc q=>mul_int q hc.ok
def o7:OpR X (binaryOp .FloorDiv) (rI wP fun i j=>.int (i / j)):=opI fun i j _ _ _ _ _ hc q=>by
 have h1:(0:Int)<j:=hc.1;have h2:j<1073741824:=hc.2;exact floordiv_int (by lia) (by rw[Int.fdiv_eq_ediv_of_nonneg i (by lia)];exact q) (.inl (PyProof.noPylong_small (by lia)))
def iW:OpR X (binaryOp .Mod) (rI (fun _ j=>0<j) fun i j=>.int (i % j)):=opI fun i j _ _ _ _ _ hc q=>by
 have h1:(0:Int)<j:=hc;exact mod_int' (by lia) (by rw[Int.fmod_eq_emod_of_nonneg i (by lia)];exact q)
def Mk:OpR X (binaryOp .Pow) (rI ES fun i j=>.int (i ^ j.toNat)):=opI fun _ _ _ _ _ _ _ hc q=>pow_int_small hc.1 hc.2.1 hc.2.2 q
def unI{f:Value->Sem Value}{g:Int->Int}
  (rule:∀(i:Int)(t:Tok)(s:Shared)(Q:Value->Shared->Prop)(E:Value->Shared->Prop),Q (.int (g i) s.toks) { s with toks:=s.toks+1 }->wpAny (model X.prog X.w) X.A (f (.int i t)) Q E s) :
  UnR X f (rU fun i=>.int (g i)):=by
 intro pins s σ H x v Q I rx h;obtain⟨i,rfl,q⟩:=h;obtain⟨t,rfl⟩:=rx;exact rule i t s _ _ ⟨.int (g i),H,I.tok _,⟨_,rfl⟩,q⟩
def nH:UnR X (unaryOp .USub) (rU fun i=>.int (-i)):=unI fun _ _ _ _ _ q=>neg_int q
end
def Ml:V->V->Bool|.non,.non=>true|.non,.int _=>true|.int _,.non=>true|.non,.bl _=>true|.bl _,.non=>true|.non,.str _=>true|.str _,.non=>true|.int _,.int _=>true|.bl _,.bl _=>true|.str _,.str _=>true|.byt _,.byt _=>true|.int _,.str _=>true|.str _,.int _=>true|.bl _,.str _=>true|.str _,.bl _=>true|_,_=>false
def rEq:R2:=fun x y H Q=>Ml x y=true/\Q (.bl (decide (x=y))) H
def rNe:R2:=fun x y H Q=>Ml x y=true/\Q (.bl (!decide (x=y))) H
def ye:decide (V.int i=V.int j)=(i == j):=by
 rw[Ye];simp
def ET:decide (V.bl i=V.bl j)=(i == j):=by
 rw[Ye];simp
def yf:decide (V.str i=V.str j)=(i == j):=by
 rw[Ye];simp
def yg{i j:Array UInt8}:decide (V.byt i=V.byt j)=(i.toList == j.toList):=by
 rw[Ye];cases i;cases j;simp
section
variable {X:Cx}{a b c:Expr}{ta tb tc:TE}{pos:Pos}
def bn(I:Inv X pins σ H s)(q:Q (.bl k) H)(e:k=k'):EP X pins σ Q (.bool k') s:=by
 subst e;exact⟨.bl k,H,I,rfl,q⟩
theorem dE:OpR X (compareOp .Eq) rEq:=by
 intro pins s σ H x y v u Q I rx ry h;obtain⟨hs,q⟩:=h;cases x with
 |non=>
  cases rx;cases y with
  |non=>cases ry;exact PySem.EqNone.eq_none_none (bn I q (by simp))
  |bl j=>cases ry;exact PySem.EqNone.eq_none_bool (bn I q (by simp))
  |int j=>obtain⟨t',rfl⟩:=ry;exact PySem.EqNone.eq_none_int (bn I q (by simp))
  |str j=>obtain⟨t',rfl⟩:=ry;exact PySem.EqNone.eq_none_str (bn I q (by simp))
  |_=>exact absurd (show false=true from hs) Qd
 |bl i=>
  cases rx;cases y with
  |non=>cases ry;exact PySem.EqNone.eq_bool_none (bn I q (by simp))
  |bl j=>cases ry;exact eq_bool (bn I q ET)
  |str j=>obtain⟨t',rfl⟩:=ry;exact PySem.EqMixed.eq_bool_str (bn I q (by simp))
  |_=>exact absurd (show false=true from hs) Qd
 |int i=>
  obtain⟨t,rfl⟩:=rx;cases y with
  |non=>cases ry;exact PySem.EqNone.eq_int_none (bn I q (by simp))
  |int j=>obtain⟨t',rfl⟩:=ry;exact eq_int (bn I q ye)
  |str j=>obtain⟨t',rfl⟩:=ry;exact PySem.EqMixed.eq_int_str (bn I q (by simp))
  |_=>exact absurd (show false=true from hs) Qd
 |str i=>
  obtain⟨t,rfl⟩:=rx;cases y with
  |non=>cases ry;exact PySem.EqNone.eq_str_none (bn I q (by simp))
  |bl j=>cases ry;exact PySem.EqMixed.eq_str_bool (bn I q (by simp))
  |int j=>obtain⟨t',rfl⟩:=ry;exact PySem.EqMixed.eq_str_int (bn I q (by simp))
  |str j=>obtain⟨t',rfl⟩:=ry;exact eq_str (bn I q yf)
  |_=>exact absurd (show false=true from hs) Qd
 |byt i=>
  obtain⟨t,rfl⟩:=rx;cases y with
  |byt j=>obtain⟨t',rfl⟩:=ry;exact PySem.W.eq_bytes (bn I q yg)
  |_=>exact absurd (show false=true from hs) Qd
 |_=>cases y<;>exact absurd (show false=true from hs) Qd
theorem op_ne:OpR X (compareOp .NotEq) rNe:=by
 intro pins s σ H x y v u Q I rx ry h;obtain⟨hs,q⟩:=h;cases x with
 |non=>
  cases rx;cases y with
  |non=>cases ry;exact PySem.EqNone.ne_none_none (bn I q (by simp))
  |bl j=>cases ry;exact PySem.EqNone.ne_none_bool (bn I q (by simp))
  |int j=>obtain⟨t',rfl⟩:=ry;exact PySem.EqNone.ne_none_int (bn I q (by simp))
  |str j=>obtain⟨t',rfl⟩:=ry;exact PySem.EqNone.ne_none_str (bn I q (by simp))
  |_=>exact absurd (show false=true from hs) Qd
 |bl i=>
  cases rx;cases y with
  |non=>cases ry;exact PySem.EqNone.ne_bool_none (bn I q (by simp))
  |bl j=>cases ry;exact ne_bool (bn I q (congrArg not ET))
  |str j=>obtain⟨t',rfl⟩:=ry;exact PySem.EqMixed.ne_bool_str (bn I q (by simp))
  |_=>exact absurd (show false=true from hs) Qd
 |int i=>
  obtain⟨t,rfl⟩:=rx;cases y with
  |non=>cases ry;exact PySem.EqNone.ne_int_none (bn I q (by simp))
  |int j=>obtain⟨t',rfl⟩:=ry;exact ne_int (bn I q (congrArg not ye))
  |str j=>obtain⟨t',rfl⟩:=ry;exact PySem.EqMixed.ne_int_str (bn I q (by simp))
  |_=>exact absurd (show false=true from hs) Qd
 |str i=>
  obtain⟨t,rfl⟩:=rx;cases y with
  |non=>cases ry;exact PySem.EqNone.ne_str_none (bn I q (by simp))
  |bl j=>cases ry;exact PySem.EqMixed.ne_str_bool (bn I q (by simp))
  |int j=>obtain⟨t',rfl⟩:=ry;exact PySem.EqMixed.ne_str_int (bn I q (by simp))
  |str j=>obtain⟨t',rfl⟩:=ry;exact ne_str (bn I q (congrArg not yf))
  |_=>exact absurd (show false=true from hs) Qd
 |byt i=>
  obtain⟨t,rfl⟩:=rx;cases y with
  |byt j=>obtain⟨t',rfl⟩:=ry;exact PySem.W.ne_bytes (bn I q (congrArg not yg))
  |_=>exact absurd (show false=true from hs) Qd
 |_=>cases y<;>exact absurd (show false=true from hs) Qd
def op_lt:OpR X (compareOp .Lt) (rI0 fun i j=>.bl (decide (i<j))):=I9 fun _ _ _ _ _ _ _ q=>lt_int q
def Lf:OpR X (compareOp .LtE) (rI0 fun i j=>.bl (decide (i<=j))):=I9 fun _ _ _ _ _ _ _ q=>le_int q
def OK:OpR X (compareOp .Gt) (rI0 fun i j=>.bl (decide (j<i))):=I9 fun _ _ _ _ _ _ _ q=>gt_int q
def OL:OpR X (compareOp .GtE) (rI0 fun i j=>.bl (decide (j<=i))):=I9 fun _ _ _ _ _ _ _ q=>ge_int q
def Du:OpR X (compareOp .Lt) (fun x y H Q=>∃i j,x=.str i/\y=.str j/\Q (.bl (decide (i.cps.toList<j.cps.toList))) H):=by
 intro pins s σ H x y v u Q I rx ry h;obtain⟨i,j,rfl,rfl,q⟩:=h;obtain⟨t,rfl⟩:=rx;obtain⟨t',rfl⟩:=ry;exact lt_str (bn I q rfl)
def op_in_str:OpR X (compareOp .In) (fun x y H Q=>∃i j,x=.str i/\y=.str j/\Q (.bl (!(Builtin.Str.occurrences j i 0 j.length 1).isEmpty)) H):=by
 intro pins s σ H x y v u Q I rx ry h;obtain⟨i,j,rfl,rfl,q⟩:=h;obtain⟨t,rfl⟩:=rx;obtain⟨t',rfl⟩:=ry;exact in_str (bn I q rfl)
theorem tj:OpR X (compareOp .Is) (fun x y H Q=>y=.non/\Q (.bl (decide (x=.non))) H):=by
 intro pins s σ H x y v u Q I rx ry h;obtain⟨rfl,q⟩:=h;cases ry;refine is_none_gen (bn I q ?_);cases x<;>first
  | (cases rx;rfl)
  | (obtain⟨t,rfl⟩:=rx;rfl)
theorem Ja:OpR X (compareOp .IsNot) (fun x y H Q=>y=.non/\Q (.bl (!decide (x=.non))) H):=by
 intro pins s σ H x y v u Q I rx ry h;obtain⟨rfl,q⟩:=h;cases ry;refine isnot_none_gen (bn I q ?_);cases x<;>first
  | (cases rx;rfl)
  | (obtain⟨t,rfl⟩:=rx;rfl)
def op_notin_str:OpR X (compareOp .NotIn) (fun x y H Q=>∃i j,x=.str i/\y=.str j/\Q (.bl (!(!(Builtin.Str.occurrences j i 0 j.length 1).isEmpty))) H):=by
 intro pins s σ H x y v u Q I rx ry h;obtain⟨i,j,rfl,rfl,q⟩:=h;obtain⟨t,rfl⟩:=rx;obtain⟨t',rfl⟩:=ry;exact notIn_str (bn I q rfl)
def OpR.or(h:OpR X f r)(h':OpR X f r'):OpR X f (fun x y H Q=>r x y H Q\/r' x y H Q):=by
 intro pins s σ H x y v u Q I rx ry q;rcases q with q|q
 ·exact h pins s σ H x y v u Q I rx ry q
 ·exact h' pins s σ H x y v u Q I rx ry q
def EU(b:Expr)(h:op≠.In:=by decide)(h2:op≠.NotIn:=by decide):behindInMarks op b=false:=by
 have e1:(op == CmpOp.In)=false:=by cases op<;>first|rfl|exact absurd rfl h
 have e2:(op == CmpOp.NotIn)=false:=by cases op<;>first|rfl|exact absurd rfl h2
 cases b<;>simp[behindInMarks,e1,e2]
def mB(ho:OpR X (compareOp op) r)(ha:PE X a ta)(hb:PE X b tb)(hm:behindInMarks op b=false):PE X (.Compare a [op] [b] pos) (tOp r ta tb):=by
 intro pins s σ H Q I h;exact wpAny_Compare1 (Mj ha hb I h fun v u s2 x y H2 I2 rx ry q=>ho pins s2 σ H2 x y v u Q I2 rx ry q) hm
def yh(t:TE):TT:=fun σ H Q=>t σ H fun x H'=>∃k,x=.bl k/\Q k H'
def fq(ho:OpR X (compareOp op) r)(ha:PE X a ta)(hb:PE X b tb)(hm:behindInMarks op b=false):PT X (.Compare a [op] [b] pos) (yh (tOp r ta tb)):=by
 intro pins s σ H Q I h
 refine wpAny_isTrue_Compare1 (thn (ha pins s σ H _ I h) fun v s1 ⟨x,H1,I1,r1,q1⟩=>thn (hb pins s1 σ H1 _ I1 q1) fun u s2 ⟨y,H2,I2,r2,q2⟩=>
  thn (ho pins s2 σ H2 x y v u _ I2 r1 r2 q2) fun c s3 ⟨z,H3,I3,r3,k,e,q3⟩=>?_) hm
 subst e;cases r3;exact Av ⟨H3,I3,q3⟩
def EV(r r':R2)(ta tb tc:TE):TE:=fun σ H Q=>ta σ H fun x H1=>tb σ H1 fun y H2=>r x y H2 fun z H3=>∃k,z=.bl k /\
 (if k=true then tc σ H3 fun w' H4=>r' y w' H4 Q else Q (.bl false) H3)
def EW(ho:OpR X (compareOp op) r)(ho':OpR X (compareOp op') r')(ha:PE X a ta)(hb:PE X b tb)(hc:PE X c tc)
  (hm:lastMarks [op,op'] [b,c]=false:=by with_unfolding_all rfl):PT X (.Compare a [op,op'] [b,c] pos) (yh (EV r r' ta tb tc)):=by
 intro pins s σ H Q I h
 refine isTrue_chain (thn (ha pins s σ H _ I h) fun v s1 ⟨x,H1,I1,r1,q1⟩=>test_link (thn (hb pins s1 σ H1 _ I1 q1) fun u s2 ⟨y,H2,I2,r2,q2⟩=>
  thn (ho pins s2 σ H2 x y v u _ I2 r1 r2 q2) fun d s3 ⟨z,H3,I3,r3,k,e,q3⟩=>?_)) hm
 subst e;cases r3;refine Av ?_;cases k with
 |false=>
  obtain⟨k',e',q'⟩:=q3;cases e';exact ite_ff ⟨H3,I3,q'⟩
 |true=>
  refine ite_tt (test_last (thn (hc pins s3 σ H3 _ I3 q3) fun w' s4 ⟨z',H4,I4,r4,q4⟩=>thn (ho' pins s4 σ H4 y z' u w' _ I4 r2 r4 q4) fun d' s5 zz9=>?_));obtain⟨z2,H5,I5,r5,k2,e2,q5⟩:=zz9;subst e2;cases r5;exact Av ⟨H5,I5,q5⟩
def nI:(sizeLine:Nat)<2 ^ 63:=by rw[B9];decide
def op_add_str:OpR X (binaryOp .Add) (fun x y H Q=>∃i j,x=.str i/\y=.str j/\i.length+j.length<=sizeLine/\Q (.str (i++j)) H):=by
 intro pins s σ H x y v u Q I rx ry h;obtain⟨i,j,rfl,rfl,hz,q⟩:=h;obtain⟨t,rfl⟩:=rx;obtain⟨t',rfl⟩:=ry;exact add_str (fun t' tk=>⟨.str (i++j),H,I.tok _,⟨_,rfl⟩,q⟩) hz
theorem vals1(r:Vals [x] us):∃u,us=[u]/\RelV x u:=by
 cases r with|cons r1 r2=>cases r2;exact⟨_,rfl,r1⟩
theorem vals2(r:Vals [x,y] us):∃u w',us=[u,w']/\RelV x u/\RelV y w':=by
 cases r with
 |cons r1 r2=>
  cases r2 with|cons r3 r4=>cases r4;exact⟨_,_,rfl,r1,r3⟩
def Dv(hc:X.calm=true):CallR X (.builtin "min") (fun xs H Q=>∃i j,xs=[.int i,.int j]/\Q (.int (if j<i then j else i)) H):=by
 intro pins s σ H xs us Q I r h;obtain⟨i,j,rfl,q⟩:=h;obtain⟨u,w',rfl,⟨t,rfl⟩,⟨t',rfl⟩⟩:=vals2 r;refine min_two_ints (I.ok.hd hc) fun h' tk k=>⟨_,H,I.kept k,?_,q⟩;by_cases hj:j<i
 ·rw[Ag hj,Ag hj];exact⟨_,rfl⟩
 ·rw[Aj hj,Aj hj];exact⟨_,rfl⟩
def Dw:CallR X (.type "int") (fun xs H Q=>(∃i,xs=[.int i]/\Q (.int i) H)\/∃k,xs=[.bl k]/\Q (.int (if k then 1 else 0)) H):=by
 intro pins s σ H xs us Q I r h;rcases h with⟨i,rfl,q⟩|⟨k,rfl,q⟩
 ·obtain⟨u,rfl,t,rfl⟩:=vals1 r;exact call_int_int ⟨.int i,H,I,⟨_,rfl⟩,q⟩
 ·obtain⟨u,rfl,r1⟩:=vals1 r;cases r1;exact call_int_bool ⟨.int (if k then 1 else 0),H,I.tok _,⟨_,rfl⟩,q⟩
end
end L2
namespace L2
open PySem PySem.Spec PyProof.Rows
structure ObjM(h:Heap)(x dx C:Addr)(mA:Str->Option Value):Prop where
 obj:h.get? x=some (PySem.W.instObj C dx)
 ns:h.Ns1 dx mA
 ne:dx≠x
def Dx{h:Heap}(n:h.Ns1 dx mA):∃od,h.get? dx=some od/\∀name,PySem.W.lookIn name od=some (mA name):=by
 obtain⟨o,es,ep,ho,hd,hk,_,hm⟩:=n;refine⟨o,ho,fun name=>?_⟩;have e:=hm name;unfold nsFind findBy at e;rw[<-Array.find?_toList]at e;unfold PySem.W.lookIn;rw[hd];dsimp only;split
 ·rename_i y q
  rw[q]at e;exact congrArg some e
 ·rename_i q
  rw[q]at e;have a:es.toList.any (·.refKey)=false:=by
   rw[List.any_eq_false];intro y hy;obtain⟨z,t,hkey⟩:=hk y (Array.mem_toList_iff.mp hy);simp[DictEntry.refKey,hkey]
  have a':¬ es.toList.any (·.refKey)=true:=by rw[a];exact Qd
  rw[Aj a'];exact congrArg some e
def ObjM.look(I:ObjM h x dx C mA):∃od,PySem.W.InstAt h x (PySem.W.instObj C dx) C (some od)/\∀name,PySem.W.lookIn name od=some (mA name) :=
 let ⟨od,ho,hl⟩:=Dx I.ns
 ⟨od,⟨I.obj,rfl,rfl,ho⟩,hl⟩
theorem RelO.some_of(r:RelO (some v) o):∃u,o=some u/\RelV v u:=by
 cases o with|none=>exact(show False from r).elim|some u=>exact⟨u,rfl,r⟩
section
variable {P:Program}{w:World}{H H':Hp}{h h':Heap}{a C dx:Addr}{fs fs':List (Str×V)}
def Jb(hok:HOk P w H h)(e:H a=some (.ins C dx fs)):∃mA,ObjM h a dx C mA/\(∀f,RelO (fs.lookup f) (mA f))/\PySem.Within mA (fs.map (·.1))/\fs.length<=1000/\H dx=some (.own a):=by
 obtain⟨d,z,ne,ob,mA,n,r,q⟩:=(show ObjOk P w H h a (.ins C dx fs) from hok a _ e);exact⟨mA,⟨ob,n,ne⟩,r,q,z,d⟩
end
structure Cls(K:Ab)(C:Addr):Prop where
 pg:PySem.W.plainGet K C Str.empty=true
 hd:PySem.W.hasDictIn K C=true
 po:PySem.W.plainOver K C=true
 sa:PySem.W.findIn K (.ref C) "__setattr__"=some (some (.builtin "object.__setattr__"))
def Cls.get{K:Ab}{C:Addr}(c:Cls K C)(f:Str):PySem.W.plainGet K C f=true:=c.pg
section
variable {X:Cx}{pins:List (Addr×Obj)}{σ:St}{H:Hp}{s:Shared}{A:Around}{E:Value->Shared->Prop}{Q:Value->Shared->Prop}{c:Value}{b:Bool}
inductive TyOf(K:Ab)(H:Hp):V->Value->Prop where
 | non:TyOf K H .non (.type "NoneType")
 | bl (x:Bool):TyOf K H (.bl x) (.type "bool")
 | int (i:Int):TyOf K H (.int i) (.type "int")
 | str (x:Str):TyOf K H (.str x) (.type "str")
 | flt (x:UInt64):TyOf K H (.flt x) (.type "float")
 | lst {a:Addr} {xs:List V} (e:H a=some (.lst xs)):TyOf K H (.ref a) (.type "list")
 | frz {a:Addr} {o:Obj} {xs:List V} (e:H a=some (.frz o (.lst xs))):TyOf K H (.ref a) (.type "list")
 | tup {a:Addr} {xs:List V} (e:H a=some (.tup xs)):TyOf K H (.ref a) (.type "tuple")
 | dK {a:Addr} {kvs:List (Key×V)} (e:H a=some (.dK kvs)):TyOf K H (.ref a) (.type "dict")
 | dT {a:Addr} {ep:Nat×List Addr} {kvs:List (List Key×V)} (e:H a=some (.dT ep kvs)):TyOf K H (.ref a) (.type "dict")
 | ins {a C dx:Addr} {fs:List (Str×V)} (e:H a=some (.ins C dx fs)) (cl:Cls K C) (ha:PySem.W.findIn K (.ref C) "__class__"=some (some (.builtin "object.__class__")))
   (hn:PySem.W.specialIn K (.builtin "object.__class__") "__get__"=some (some (.builtin "getset_descriptor.__get__"))) (htk:PySem.W.takesIn K (.builtin "object.__class__")=some true)
   (hm:PySem.W.mroIn K C (.type "object")=some true):TyOf K H (.ref a) (.ref C)
def eV(I:Inv X pins σ H s)(rx:RelV x u)(ty:TyOf X.K H x t)(e:PySem.W.kitOne X.K t c=some b)(h:∀tk,Q (.bool b) { s with toks:=tk }) :
  wpAny (model X.prog X.w) A (call (.builtin "isinstance") [u,c]) Q E s:=by
 cases ty with
 |non=>cases (show u=Value.none from rx);exact As PySem.W.kitx_none I.kIn True.intro e (fun z=>nomatch z) h
 |bl y=>cases (show u=Value.bool y from rx);exact As PySem.W.kitx_bool I.kIn True.intro e (fun z=>nomatch z) h
 |int i=>obtain⟨t,q⟩:=(show ∃t,u=Value.int i t from rx);cases q;exact As PySem.W.kitx_int I.kIn True.intro e (fun z=>nomatch z) h
 |str y=>obtain⟨t,q⟩:=(show ∃t,u=Value.str y t from rx);cases q;exact As PySem.W.kitx_str I.kIn True.intro e (fun z=>nomatch z) h
 |flt y=>obtain⟨t,q⟩:=(show ∃t,u=Value.float y t from rx);cases q;exact As PySem.W.kitx_float I.kIn True.intro e (fun z=>nomatch z) h
 |@lst a xs ea=>
  cases (show u=Value.ref a from rx);obtain⟨_,_,n,_,h1⟩:=(show ObjOk X.prog X.w H s.heap a (.lst xs) from I.hok a _ ea);exact As Cw I.kIn ⟨_,h1,rfl⟩ e (fun z=>nomatch z) h
 |@frz a ob xs ea=>
  cases (show u=Value.ref a from rx);obtain⟨_,_,_,n,_,h1⟩:=(show ObjOk X.prog X.w H s.heap a (.frz ob (.lst xs)) from I.hok a _ ea);exact As Cw I.kIn ⟨_,h1,rfl⟩ e (fun z=>nomatch z) h
 |@tup a xs ea=>
  cases (show u=Value.ref a from rx);obtain⟨_,_,_,p⟩:=(show ObjOk X.prog X.w H s.heap a (.tup xs) from I.hok a _ ea);obtain⟨o,h1,h2,_⟩:=p;exact As PySem.W.kitx_tuple I.kIn ⟨o,h1,h2⟩ e (fun z=>nomatch z) h
 |@dK a kvs ea=>
  cases (show u=Value.ref a from rx);obtain⟨_,_,vs,_,p⟩:=(show ObjOk X.prog X.w H s.heap a (.dK kvs) from I.hok a _ ea);obtain⟨o,es,ep,h1,h2,_⟩:=p;exact As PySem.W.kitx_dict I.kIn ⟨o,h1,h2.1⟩ e (fun z=>nomatch z) h
 |@dT a ep kvs ea=>
  cases (show u=Value.ref a from rx);obtain⟨_,_,xs,_,_,o,es,h1,h2,_⟩:=(show ObjOk X.prog X.w H s.heap a (.dT ep kvs) from I.hok a _ ea);exact As PySem.W.kitx_dict I.kIn ⟨o,h1,h2.1⟩ e (fun z=>nomatch z) h
 |@ins a C dx fs ea cl ha hn htk hm=>
  cases (show u=Value.ref a from rx);obtain⟨mA,O,_⟩:=Jb I.hok ea;obtain⟨od,J,_⟩:=O.look;exact As (PySem.W.kitx_own (cl.get _) cl.hd ha hn htk hm) I.kIn J e (fun z=>nomatch z) h
end
end L2
namespace L2
open PySem PySem.Spec PyProof.Rows
structure Room(k:Nat)(A:Around):Prop where
 hd:A.handled=none
 dp:A.depth+3*k+5<recursionLimit
 un:A.units+16*k+200<cLine
def Room.mono(r:Room k A)(h:j<=k):Room j A:=⟨r.hd,by have:=r.dp;lia,by have:=r.un;lia⟩
theorem Room.deeper{A:Around}(r:Room (k+1) A)(env:Env):Room k (A.deeper env) :=
 ⟨r.hd,by have:=r.dp;show A.depth+1+3*k+5<_;lia,by have:=r.un;show A.units+3+16*k+200<_;lia⟩
theorem Room.in1{A:Around}(r:Room (k+1) A):Room k A.in1 :=
 ⟨r.hd,by have:=r.dp;show A.depth+3*k+5<_;lia,by have:=r.un;show A.units+1+16*k+200<_;lia⟩
theorem Room.depth{A:Around}(r:Room k A):A.depth<recursionLimit:=by have:=r.dp;lia
theorem Room.units{A:Around}(r:Room k A):A.units+64<cLine:=by have:=r.un;lia
def oH:TA:=fun _ H Q=>Q [] H
def fF(ta:TE)(tr:TA):TA:=fun σ H Q=>ta σ H fun x H1=>tr σ H1 fun xs H2=>Q (x::xs) H2
section
variable {X:Cx}{e:Expr}{es:List Expr}{te:TE}{t:TA}{pos:Pos}
def ae:PA X [] oH:=fun _ _ _ _ H Q I h=>Calls.spliced_nil ⟨[],H,I,.nil,h⟩
def kI(ha:PE X e te)(hr:PA X es t)(hs:starEach (e::es) X.env=(false,eval e X.env)::starEach es X.env:=by rfl):PA X (e::es) (fF te t):=by
 intro pos pins s σ H Q I h;rw[hs];show wpAny _ _ (spliced ((false,eval e X.env)::backTo pos (starEach es X.env))) _ _ s;refine Calls.spliced_cons (thn (ha pins s σ H _ I h) fun u s1 zz9=>?_);obtain⟨x,H1,I1,r1,q1⟩:=zz9;exact thn (hr pos pins s1 σ H1 _ I1 q1) fun us s2 ⟨xs,H2,I2,r2,q2⟩=>⟨x::xs,H2,I2,.cons r1 r2,q2⟩
def OM(t:TA):TE:=fun σ H Q=>t σ H fun xs H1=>xs.length<=sizeLine/\∀p,H1 p=none->Q (.ref p) (upd H1 p (.tup xs))
def Mm(t:TA):TE:=fun σ H Q=>t σ H fun xs H1=>xs.length<=sizeLine/\∀p,H1 p=none->Q (.ref p) (upd H1 p (.lst xs))
def aV{x1}(h:PA X es t):PE X (.Tuple es x1 pos) (OM t):=by
 intro pins s σ H Q I hq;refine wpAny_Tuple_spliced (thn (h pos pins s σ H _ I hq) fun us s1 ⟨xs,H1,I1,r,z,q⟩=>⟨by rw[<-r.length];exact z,?_⟩)
 have hf:H1 s1.heap.objs.size=none:=I1.hok.fresh (Wb _);refine⟨.ref s1.heap.objs.size,upd H1 s1.heap.objs.size (.tup xs),I1.laid (t':=s1.toks) (fun b u e=>Ac _ e) (Wb _) ?_,rfl,q _ hf⟩;exact⟨z,us,r,⟨_,Ah _ rfl,rfl,_,rfl⟩⟩
def bQ(h:PA X es t):PE X (.List es pos) (Mm t):=by
 intro pins s σ H Q I hq;refine wpAny_List_spliced (thn (h pos pins s σ H _ I hq) fun us s1 ⟨xs,H1,I1,r,z,q⟩=>⟨by rw[<-r.length];exact z,?_⟩)
 have hf:H1 s1.heap.objs.size=none:=I1.hok.fresh (Wb _);refine⟨.ref s1.heap.objs.size,upd H1 s1.heap.objs.size (.lst xs),I1.laid (t':=s1.toks) (fun b u e=>Ac _ e) (Wb _) ?_,rfl,q _ hf⟩;exact⟨z,us,0,r,Ah _ rfl⟩
end
abbrev Sp:=List V->Hp->VK->XK->Prop
abbrev CXT:=List Env->Hp->Shared->XK->Value->Shared->Prop
structure Env0(P:Program)(w:World)(K:Ab)(mg:Str->Option Value)(base:Heap)(A:Around)(outer:List Env)(s:Shared)(H:Hp):Prop where
 frames:A.frames=some outer
 mod:Mod K mg base
 bs:∀b o,base.get? b=some o->s.heap.get? b=some o/\H b=none
 bsz:base.objs.size<=s.heap.objs.size
 funs:s.heap.FunFrames base outer
 frf:∀b∈frs outer,H b=none
 hok:HOk P w H s.heap
 bare:AllBare s.gens
def CE(outer:List Env)(P:Program)(w:World)(H:Hp)(s:Shared)(Q:VK)(u:Value)(s':Shared):Prop :=
 ∃v H',s'.os=s.os/\AllBare s'.gens/\Un (frs outer) [] H H' s.heap s'.heap/\HOk P w H' s'.heap/\RelV v u/\Q v H'
def CR(CX:CXT)(outer:List Env)(P:Program)(w:World)(H:Hp)(s:Shared)(Q:VK)(E:XK)(r:Result)(s':Shared):Prop :=
 match r with|.ok (.ret u)=>CE outer P w H s Q u s'|.ok _=>False|.error e=>CX outer H s E e s'
structure FnOk(P:Program)(w:World)(K:Ab)(mg:Str->Option Value)(base:Heap)(CX:CXT)(k:Nat)(f:Addr)(fd:FuncData)(ps:List Str)(sp:Sp):Prop where
 len:∀vs H Q E,sp vs H Q E->vs.length=ps.length
 run:∀(A:Around)(outer:List Env)(s:Shared)(H:Hp)(args:Args)(us:List Value)(vs:List V)(Q:VK)(E:XK),Room k A->Env0 P w K mg base A outer s H->BindsTo s fd args (ps.zip us)->Vals vs us->sp vs H Q E->
  codeAny (model P w) A (.call (.ref f) args) (CR CX outer P w H s Q E) s
def FnOk.imp{P:Program}{w:World}{K:Ab}{mg:Str->Option Value}{base:Heap}{CX:CXT}{k:Nat}{f:Addr}{fd:FuncData}{ps:List Str}{sp sp':Sp}(F:FnOk P w K mg base CX k f fd ps sp)
  (h:∀vs H Q E,sp' vs H Q E->sp vs H Q E):FnOk P w K mg base CX k f fd ps sp' :=
 ⟨fun vs H Q E q=>F.len vs H Q E (h _ _ _ _ q),fun A outer s H args us vs Q E hr he hb hv hs=>F.run A outer s H args us vs Q E hr he hb hv (h _ _ _ _ hs)⟩
theorem Env0.in1{P:Program}{w:World}{K:Ab}{mg:Str->Option Value}{base:Heap}{A:Around}{outer:List Env}{s:Shared}{H:Hp}(e:Env0 P w K mg base A outer s H) :
  Env0 P w K mg base A.in1 outer s H:=⟨e.frames,e.mod,e.bs,e.bsz,e.funs,e.frf,e.hok,e.bare⟩
section
variable {X:Cx}{pins:List (Addr×Obj)}{σ:St}{H:Hp}{s s':Shared}
def Inv.env0(I:Inv X pins σ H s):Env0 X.prog X.w X.K X.mg X.base X.A X.stack s H :=
 ⟨I.ok.frames,I.ok.mod,I.bs,Ve I.ok.bsz I.sz,I.stack,I.stkFree,I.hok,I.bare⟩
def Inv.after(I:Inv X pins σ H s)(h:CE X.stack X.prog X.w H s Q u s'):EP X pins σ Q u s':=by
 obtain⟨v,H',os,bare,un,hok,r,q⟩:=h;obtain⟨hh,g,d,t,os'⟩:=s';obtain rfl:os'=s.os:=os;exact⟨v,H',I.call (h':=hh) (g':=g) (d':=d) (t':=t) (ch:=[]) un hok bare (fun b z=>absurd z (by simp)),r,q⟩
end
def EX(sp:Sp)(dvs:List V)(E:XK)(t:TA):TE:=fun σ H Q=>t σ H fun vs H1=>sp (vs++dvs) H1 Q E
def Binds(K:Ab)(fd:FuncData)(ps:List Str)(ds:List Value):Prop :=
 ∀(s:Shared)(us:List Value),K.In s.heap->(us++ds).length=ps.length->BindsTo s fd ⟨us,[]⟩ (ps.zip (us++ds))
def Binds.all{K:Ab}{fd:FuncData}{ps:List Str}(h:∀us:List Value,us.length=ps.length->bindArgs fd ⟨us,[]⟩=pure (ps.zip us)):Binds K fd ps []:=fun s us _ hl=>by
 rw[Yg]at hl ⊢;exact .of_eq (h us hl)
def wQ(CX:CXT)(X:Cx)(E:XK):Prop:=∀(pins:List (Addr×Obj))(σ:St)(H:Hp)(s:Shared)(e:Value)(s':Shared),Inv X pins σ H s->CX X.stack H s E e s'->X.xe e s'
section
variable {X:Cx}{CX:CXT}{k:Nat}{f C:Addr}{fd:FuncData}{ps:List Str}{sp:Sp}{dvs:List V}{ds:List Value}{E:XK}{x m:Str}{p pos apos:Pos}{e o:Expr}{es:List Expr}{ta:TE}{t:TA}
def Mn(F:FnOk X.prog X.w X.K X.mg X.base CX k f fd ps sp)(hr:Room k X.A)(hb:Binds X.K fd ps ds)(hd:Vals dvs ds)(hx:wQ CX X E)
  (I:Inv X pins σ H s)(r:Vals vs us)(h:sp (vs++dvs) H Q E):wpAny (model X.prog X.w) X.A (call (.ref f) us) (EP X pins σ Q) X.xe s:=by
 have r2:Vals (vs++dvs) (us++ds):=r.append hd;have hl:(us++ds).length=ps.length:=by rw[<-r2.length];exact F.len _ _ _ _ h
 refine wpAny_call (Ct (F.run X.A X.stack s H ⟨us,[]⟩ (us++ds) (vs++dvs) Q E hr I.env0 (hb s us I.kIn hl) r2 h) fun r s' hq=>?_);cases r with
 |error e=>exact hx pins σ H s e s' I hq
 |ok fl=>
  cases fl with|ret u=>exact I.after hq|next=>exact False.elim hq|brk=>exact False.elim hq|cont=>exact False.elim hq
def yi(F:FnOk X.prog X.w X.K X.mg X.base CX k f fd ps sp)(hr:Room k X.A)(hg:Gl X x)(hm:X.mg x=some (.ref f))(hk:PySem.W.keepIn X.K (.ref f)=true)(hb:Binds X.K fd ps ds)(hd:Vals dvs ds)(hx:wQ CX X E)
  (ha:PA X (e::es) t)(hdb:(x == ("__debug__":Str))=false:=by decide)(he:starEach (e::es) X.env=(false,eval e X.env)::starEach es X.env:=by rfl)(hpl:(backTo pos (starEach es X.env)).any (·.1)=false:=by rfl) :
  PE X (.Call (.Name x p) (e::es) [] pos) (EX sp dvs E t):=by
 intro pins s σ H Q I h;refine Bt (o0 I hg hm ?_ hdb);refine PySem.W.callWith_K (h₀:=X.base) I.ok.mod.kin hk (thn (ha pos pins s σ H _ I h) fun us s1 ⟨vs,H1,I1,r,q⟩=>⟨I1.kIn,?_⟩) he hpl;exact Mn F hr hb hd hx I1 r q
end
structure FnScope(N P:List Str)(sc:Scope):Prop where
 kind:sc.kind=.function
 co:sc.isCoroutine=false
 gen:sc.isGenerator=false
 nd:N.Nodup
 pre:N.take P.length=P
 par:∀x∈P,sc.names.lookup x=some .local\/sc.names.lookup x=some .cell
 nofree:∀y∈sc.names,y.2≠.free
theorem rG{kindOf:Str->Option NameKind}{x:Str}:∀{binds:List (Str×Value)}{m:Str->Option Value},(∀v,(x,v)∉binds)->bindL kindOf binds m x=m x
 |[],_,_=>rfl
 | (n,v)::r,m,h=>by
  unfold bindL;rw[rG fun w hw=>h w (Vb _ hw)];split
  ·have:x≠n:=by rintro rfl;exact h v Va
   simp[this]
  ·rfl
theorem rH{kindOf:Str->Option NameKind}{x:Str}:∀{binds:List (Str×Value)}{m:Str->Option Value},(∀v,(x,v)∉binds)->bindC kindOf binds m x=m x
 |[],_,_=>rfl
 | (n,v)::r,m,h=>by
  unfold bindC;rw[rH fun w hw=>h w (Vb _ hw)];split
  ·rfl
  ·have:x≠n:=by rintro rfl;exact h v Va
   simp[this]
theorem rJ{kindOf:Str->Option NameKind}{x:Str}{v:Value}:∀{P:List Str}{vs:List Value}{i:Nat}{m:Str->Option Value},P.Nodup->P[i]?=some x->vs[i]?=some v->kindOf x=some .local->
  bindL kindOf (P.zip vs) m x=some v
 |[],_,_,_,_,h,_,_=>by simp at h
 |_::_,[],_,_,_,_,h,_=>by simp at h
 | p::P,w::vs,0,m,nd,h1,h2,hk=>by
  simp at h1 h2;subst h1;subst h2;show bindL kindOf ((p,w)::P.zip vs) m p=_;unfold bindL;rw[rG fun v hv=>(Qg.mp nd).1 (B3 hv).1,Ag hk];simp
 | p::P,w::vs,i+1,m,nd,h1,h2,hk=>by
  show bindL kindOf ((p,w)::P.zip vs) m x=_;unfold bindL;exact rJ (i:=i) (Qg.mp nd).2 (by simpa using h1) (by simpa using h2) hk
theorem rK{kindOf:Str->Option NameKind}{x:Str}{v:Value}:∀{P:List Str}{vs:List Value}{i:Nat}{m:Str->Option Value},P.Nodup->P[i]?=some x->vs[i]?=some v->kindOf x≠some .local->
  bindC kindOf (P.zip vs) m x=some v
 |[],_,_,_,_,h,_,_=>by simp at h
 |_::_,[],_,_,_,_,h,_=>by simp at h
 | p::P,w::vs,0,m,nd,h1,h2,hk=>by
  simp at h1 h2;subst h1;subst h2;show bindC kindOf ((p,w)::P.zip vs) m p=_;unfold bindC;rw[rH fun v hv=>(Qg.mp nd).1 (B3 hv).1,Aj hk];simp
 | p::P,w::vs,i+1,m,nd,h1,h2,hk=>by
  show bindC kindOf ((p,w)::P.zip vs) m x=_;unfold bindC;exact rK (i:=i) (Qg.mp nd).2 (by simpa using h1) (by simpa using h2) hk
def start(N:List Str)(vs:List V):St:=vs.map some++List.replicate (N.length-vs.length) none
def va(CX:CXT)(P:Program)(w:World)(K:Ab)(mg:Str->Option Value)(base:Heap)(N:List Str)(qual:Str)(scope:Scope)(f:Addr)(cd:Value)(A:Around)(outer:List Env)(s:Shared)(H:Hp)(E:XK):Cx where
 prog:=P
 w:=w
 K:=K
 mg:=mg
 base:=base
 A:=A.deeper (envOfC qual scope s.heap.objs.size f cd)
 N:=N
 s₀:=s
 H₀:=H
 env:=envOfC qual scope s.heap.objs.size f cd
 outer:=outer
 stack:=envOfC qual scope s.heap.objs.size f cd::outer
 ex:=[]
 calm:=true
 fn:=fun _=>true
 pn:=[]
 xe:=fun e s'=>wpAny (model P w) (A.deeper (envOfC qual scope s.heap.objs.size f cd)) (leaving (envOfC qual scope s.heap.objs.size f cd) e) (fun _ s''=>CX outer H s E e s'') (fun e' s''=>CX outer H s E e' s'') s'
def vb{sc:Scope}(h:sc.names.lookup x=some .cell):∃c,(cellsFrom n sc.names []).lookup x=some c:=by
 have q:=Dg sc.names n [] (.inl h);exact Option.isSome_iff_exists.mp q
def Dy{CX:CXT}{P:Program}{w:World}{K:Ab}{mg:Str->Option Value}{base:Heap}{N ps:List Str}{qual:Str}{scope:Scope}{f:Addr}{cd:Value}{A:Around}{outer:List Env}{s s1:Shared}{H:Hp}{E:XK}{us:List Value}{vs:List V}
  (S:FnScope N ps scope)(hd:A.handled=none)(e0:Env0 P w K mg base A outer s H)(hl:vs.length=ps.length)(r:Vals vs us)
  (x:InCallC s s.heap.objs.size (bindL (envOfC qual scope s.heap.objs.size f cd).kindOf (ps.zip us) fun _=>none) (cellsFrom (s.heap.objs.size+1) scope.names []) (bindC (envOfC qual scope s.heap.objs.size f cd).kindOf (ps.zip us) fun _=>none) s1) :
  Inv (va CX P w K mg base N qual scope f cd A outer s H E) [] (start N vs) H s1:=by
 have hpl:ps.length<=N.length:=by have:=congrArg List.length S.pre;rw[A1]at this;lia
 obtain⟨h1,tk,rfl,hk⟩:=x.done;have noA:∀b:Addr,b∉(va CX P w K mg base N qual scope f cd A outer s H E).ex:=fun b z=>absurd (show b∈([]:List Addr) from z) (by simp)
 refine⟨⟨e0.mod,S.kind,rfl,rfl,Wb _,fun y z c h1 h2=>?_,fun y hy=>?_,fun y c _ h=>?_,fun _=>hd,Around.frames_deeper e0.frames,.inr ⟨rfl,rfl⟩,fun b z=>absurd z (noA b),e0.bs,e0.bsz,fun b _ _=>noA b,fun b z=>absurd z (noA b),e0.funs,e0.frf⟩,
  rfl,e0.bare,Un.kept hk,⟨_,x.toInCall.ns,fun i y v h1 h2 h3=>?_⟩,fun y c h=>⟨_,x.cell y c h⟩,e0.hok.fresh (Wb _),fun y c h=>?_,fun p hp=>absurd (show p∈([]:List (Addr×Obj)) from hp) (by simp),e0.hok.kept hk,?_⟩
 ·exact name_of_addr x.apart (Ax h1) (Ax h2)
 ·have hy:scope.names.lookup y=some .cell\/scope.names.lookup y=some .free:=hy;rcases hy with hy|hy
  ·exact vb hy
  ·exact absurd rfl (S.nofree _ (Ax hy))
 ·exact Br (x.above y c (Ax h))
 ·have hi:i<vs.length:=by
   unfold start at h2;by_cases hi:i<vs.length
   ·exact hi
   ·rw[Zi (by simpa using hi)]at h2
    rw[Wn]at h2;split at h2<;>cases h2
  have ha:vs[i]?=some v:=by
   unfold start at h2;rw[Xk (by simpa using hi),Yd]at h2
   cases e:vs[i]? with|none=>rw[e]at h2;cases h2|some a=>rw[e]at h2;cases h2;rfl
  obtain⟨u,hu,rv⟩:=r.get ha;have hp:ps[i]?=some y:=by
   rw[<-S.pre,List.getElem?_take_of_lt (by lia)];exact h1
  have ndP:ps.Nodup:=by rw[<-S.pre];exact S.nd.sublist (List.take_sublist _ _)
  refine⟨u,rv,?_⟩;rcases S.par y (Xb hp) with k|k
  ·exact .inl ⟨k,rJ ndP hp hu k⟩
  ·obtain⟨c,e⟩:=vb (n:=s.heap.objs.size+1) k;refine .inr ⟨.inl k,c,e,?_⟩;have q:=x.cell y c e;rw[rK ndP hp hu (by show scope.names.lookup y≠_;rw[k];decide)]at q
   exact q
 ·exact e0.hok.fresh (Br (x.above y c (Ax h)))
 ·unfold start;show _=N.length;rw[Xa,Za,Qk];lia
def Lg{CX:CXT}{K:Ab}{mg:Str->Option Value}{k:Nat}{f:Addr}{name qual:Str}{params:Arguments}{body:List Stmt}{scope:Scope}{dV kV doc pm cdv ct oc:Value}{an od:Option Addr}
  {osl:Array (Option Value)}{N ps:List Str}{sp:Sp}(lk:K.lookup f=some ⟨oc,od,.func (PySem.W.fnOf name qual params body scope dV kV doc pm an cdv ct),osl⟩)(hcd:PySem.W.codeIn K cdv qual=true)(S:FnScope N ps scope)
  (len:∀vs H Q E,sp vs H Q E->vs.length=ps.length)
  (hbody:∀(A:Around)(outer:List Env)(s:Shared)(H:Hp)(vs:List V)(Q:VK)(E:XK),Room k (A.deeper (envOfC qual scope s.heap.objs.size f cdv))->sp vs H Q E->
   ∃t,PSs (va CX P w K mg base N qual scope f cdv A outer s H E) body t/\t { nx:=fun _ H'=>Q .non H',rt:=Q } (start N vs) H) :
  FnOk P w K mg base CX (k+1) f (PySem.W.fnOf name qual params body scope dV kV doc pm an cdv ct) ps sp:=by
 refine⟨len,fun A outer s H args us vs Q E hr e0 hb r hsp=>?_⟩;have hl:=len _ _ _ _ hsp;have KX:K.In s.heap:=e0.mod.kin.keeps fun b o e=>(e0.bs b o e).1;have lim:s.heap.NoLimit:=e0.mod.nolimit.keeps fun b o e=>(e0.bs b o e).1;have hkind:∀y∈ps.zip us,scope.names.lookup y.1=some .local\/(scope.names.lookup y.1=some .cell/\((cellsFrom (s.heap.objs.size+1) scope.names []).lookup y.1).isSome=true):=fun⟨n,v⟩ hy=>by
  rcases S.par n (B3 hy).1 with q|q
  ·exact .inl q
  ·exact .inr ⟨q,Dg _ _ _ (.inl q)⟩
 refine codeAny_call_function hr.depth (KX _ _ lk) rfl S.co S.gen rfl (PySem.W.codeRec_of KX hcd) (hb _ _ _ _ ?_);refine wpAny_newFunctionEnv_cells S.kind hkind fun env he s1 x=>?_;subst he;refine⟨lim.keeps x.toInCall.keep,codeAny_func ?_⟩;obtain⟨t,ht,hq⟩:=hbody A outer s H vs Q E (hr.deeper _) hsp;have I:Inv (va CX P w K mg base N qual scope f cdv A outer s H E) [] (start N vs) H s1:=Dy S hr.hd e0 hl r x;refine Aw (ht [] s1 (start N vs) H _ I hq) (fun fl s' hs=>?_) fun e s' hs=>hs;have fin:∀{σ':St}{H':Hp}{v:V}{u:Value},Inv (va CX P w K mg base N qual scope f cdv A outer s H E) [] σ' H' s'->RelV v u->Q v H'->CE outer P w H s Q u s' :=
  fun {σ' H' v u} J rv q=>⟨v,H',J.os,J.bare,J.base,J.hok,rv,q⟩
 cases fl with
 |ret u=>
  obtain⟨v,σ',H',J,rv,q⟩:=hs;exact fin J rv q
 |next=>
  obtain⟨σ',H',J,q⟩:=hs;exact fin (v:=V.non) (u:=Value.none) J rfl q
 |brk=>
  obtain⟨_,_,_,q⟩:=hs;exact False.elim q
 |cont=>
  obtain⟨_,_,_,q⟩:=hs;exact False.elim q
end L2
namespace L2
open PySem PySem.Spec PyProof.Rows
section
variable {X:Cx}{x:Str}{p pos:Pos}{e:Expr}{es:List Expr}{t:TA}{id T:String}{r:List V->Hp->VK->Prop}
def tCB(r:List V->Hp->VK->Prop)(t:TA):TE:=fun σ H Q=>t σ H fun vs H1=>r vs H1 Q
def bc(hc:CallR X (.builtin id) r)(hg:Gl X x)(hm:X.mg x=none)(hv:bootBuiltins x=some (.builtin id))(ha:PA X (e::es) t)(hn:x≠"__name__":=by decide)(hdb:(x == ("__debug__":Str))=false:=by decide)
  (he:starEach (e::es) X.env=(false,eval e X.env)::starEach es X.env:=by rfl) (hpl:(backTo pos (starEach es X.env)).any (·.1)=false:=by rfl):PE X (.Call (.Name x p) (e::es) [] pos) (tCB r t):=by
 intro pins s σ H Q I h;refine Bt (jO I hg hm hv ?_ hn hdb);exact PyProof.Rows.callWith_builtin1 (thn (ha pos pins s σ H _ I h) fun us s1 ⟨vs,H1,I1,r1,q1⟩=>hc pins s1 σ H1 vs us Q I1 r1 q1) he hpl
def eW(hc:CallR X (.type T) r)(hg:Gl X x)(hm:X.mg x=none)(hv:bootBuiltins x=some (.type T))(ha:PA X (e::es) t)(hn:x≠"__name__":=by decide)(hdb:(x == ("__debug__":Str))=false:=by decide)
  (he:starEach (e::es) X.env=(false,eval e X.env)::starEach es X.env:=by rfl) (hpl:(backTo pos (starEach es X.env)).any (·.1)=false:=by rfl):PE X (.Call (.Name x p) (e::es) [] pos) (tCB r t):=by
 intro pins s σ H Q I h;refine Bt (jO I hg hm hv ?_ hn hdb);exact AE (thn (ha pos pins s σ H _ I h) fun us s1 ⟨vs,H1,I1,r1,q1⟩=>hc pins s1 σ H1 vs us Q I1 r1 q1) he hpl
end
end L2
namespace L2
open PySem PySem.Spec PyProof.Rows
section
variable {κ:Type}[DecidableEq κ]
def lg(kvs:List (κ×V))(k:κ):Option V:=(kvs.find? fun kv=>decide (kv.1=k)).map (·.2)
def putK(kvs:List (κ×V))(k:κ)(v:V):List (κ×V) :=
 if (kvs.any fun kv=>decide (kv.1=k))=true then kvs.map (fun kv=>if kv.1=k then(kv.1,v) else kv) else kvs++[(k,v)]
def mC{p:κ×V}{r:List (κ×V)}{k:κ}(e:p.1=k):lg (p::r) k=some p.2:=by simp[lg,Zm,e]
def mD{p:κ×V}{r:List (κ×V)}{k:κ}(e:¬ p.1=k):lg (p::r) k=lg r k:=by simp[lg,Zm,e]
theorem vc(k:κ):∀kvs:List (κ×V),(kvs.any fun kv=>decide (kv.1=k))=(lg kvs k).isSome
 |[]=>rfl
 | p::r=>by
  rw[Bj];by_cases e:p.1=k
  ·simp only[mC e,Ae e,Bool.true_or,Option.isSome_some]
  ·rw[mD e,Af e,Bool.false_or];exact vc k r
def om(kvs:List (κ×V))(k:κ)(v:V):(putK kvs k v).length<=kvs.length+1:=by
 unfold putK;split
 ·rw[Za];lia
 ·rw[Xa,Qc,Wg];lia
theorem RelO.isSome_eq{o:Option V}{u:Option Value}(r:RelO o u):o.isSome=u.isSome:=by
 cases o with
 | none=>cases u with|none=>rfl|some _=>exact(show False from r).elim
 | some _=>cases u with|none=>exact(show False from r).elim|some _=>rfl
theorem KV.val{kvs:List (κ×V)}{vs:List (κ×Value)}(r:KV kvs vs)(k:κ):RelO (lg kvs k) (valueAt vs k):=by
 unfold KV at r;induction r with
 |nil=>exact True.intro
 |@cons p q ps qs h t ih=>
  obtain⟨h1,h2⟩:=h;by_cases e:p.1=k
  ·have e':q.1=k:=h1.symm.trans e;have b:valueAt (q::qs) k=some q.2:=by simp[valueAt,Zm,e']
   rw[mC e,b];exact h2
  ·have e':¬ q.1=k:=fun z=>e (h1.trans z);have b:valueAt (q::qs) k=valueAt qs k:=by simp[valueAt,Zm,e']
   rw[mD e,b];exact ih
theorem KV.any{kvs:List (κ×V)}{vs:List (κ×Value)}(r:KV kvs vs)(k:κ):(kvs.any fun kv=>decide (kv.1=k))=vs.any fun kv=>decide (kv.1=k):=by
 unfold KV at r;induction r with|nil=>rfl|cons h t ih=>rw[Bj,Bj,ih,h.1]
def KV.repl{kvs:List (κ×V)}{vs:List (κ×Value)}(r:KV kvs vs)(k:κ)(ry:RelV y u) :
  KV (kvs.map fun kv=>if kv.1=k then(kv.1,y) else kv) (vs.map fun kv=>if kv.1=k then(kv.1,u) else kv):=by
 unfold KV at r ⊢;induction r with
 |nil=>exact .nil
 |@cons p q ps qs h t ih=>
  rw[Yh,Yh];refine .cons ?_ ih;obtain⟨h1,h2⟩:=h;by_cases e:p.1=k
  ·rw[Ag e,Ag (h1.symm.trans e)];exact⟨h1,ry⟩
  ·rw[Aj e,Aj (fun z=>e (h1.trans z))];exact⟨h1,h2⟩
def KV.put(r:KV kvs vs)(k:κ)(ry:RelV y u):KV (putK kvs k y) (stored vs k u):=by
 unfold putK stored;rw[r.any k];by_cases e:(vs.any fun kv=>decide (kv.1=k))=true
 ·rw[Ag e,Ag e];exact r.repl k ry
 ·rw[Aj e,Aj e];exact Paired.snoc r ⟨rfl,ry⟩
theorem KV.length{kvs:List (κ×V)}{vs:List (κ×Value)}(r:KV kvs vs):kvs.length=vs.length:=Paired.length r
end
theorem yj(r:RelV (kV k) u):(cF P w).is k u=true:=by
 cases k with
 |inl i=>obtain⟨t,e⟩:=(show ∃t,u=Value.int i t from r);subst e;exact u6 P w i t
 |inr x=>obtain⟨t,e⟩:=(show ∃t,u=Value.str x t from r);subst e;exact u7 P w x t
theorem rL:∀{ks:List Key}{us:List Value},Vals (ks.map kV) us->ItemsAre (cF P w) ks us
 |[],_,r=>by rw[CB]at r;cases r;exact .nil
 | k::ks,_,r=>by
  rw[Yh]at r;cases r with|cons h t=>exact .cons (yj h) (rL t)
abbrev KT(H:Hp):List (List Key×V)->List (List Key×Addr×Value)->Prop:=Paired fun p q=>p.1=q.1/\H q.2.1=some (.tup (p.1.map kV))/\RelV p.2 q.2.2
theorem KT.val{kvs:List (List Key×V)}{xs:List (List Key×Addr×Value)}(r:KT H kvs xs)(k:List Key):RelO (lg kvs k) ((atKey xs k).map (·.2)):=by
 induction r with
 |nil=>exact True.intro
 |@cons p q ps qs h t ih=>
  obtain⟨h1,_,h2⟩:=h;by_cases e:p.1=k
  ·have e':q.1=k:=h1.symm.trans e;have b:atKey (q::qs) k=some q.2:=by simp[atKey,Zm,e']
   rw[mC e,b];exact h2
  ·have e':¬ q.1=k:=fun z=>e (h1.trans z);have b:atKey (q::qs) k=atKey qs k:=by simp[atKey,Zm,e']
   rw[mD e,b];exact ih
def KT.repl{kvs:List (List Key×V)}{xs:List (List Key×Addr×Value)}(r:KT H kvs xs)(k:List Key)(ry:RelV y u) :
  KT H (kvs.map fun kv=>if kv.1=k then(kv.1,y) else kv) (xs.map (putAt k u)):=by
 induction r with
 |nil=>exact .nil
 |@cons p q ps qs h t ih=>
  rw[Yh,Yh];refine .cons ?_ ih;obtain⟨h1,h2,h3⟩:=h;unfold putAt;by_cases e:p.1=k
  ·rw[Ag e,Ag (h1.symm.trans e)];exact⟨h1,h2,ry⟩
  ·rw[Aj e,Aj (fun z=>e (h1.trans z))];exact⟨h1,h2,h3⟩
def KT.put(r:KT H kvs xs)(k:List Key)(hb:H b=some (.tup (k.map kV)))(ry:RelV y u) :
  KT H (putK kvs k y) (storedH xs k b u):=by
 have e:(kvs.any fun kv=>decide (kv.1=k))=(atKey xs k).isSome:=by
  rw[vc,(r.val k).isSome_eq,BC]
 unfold putK storedH;rw[e];by_cases q:(atKey xs k).isSome=true
 ·rw[Ag q,Ag q];exact r.repl k ry
 ·rw[Aj q,Aj q];exact Paired.snoc r ⟨rfl,hb,ry⟩
def KT.keeps(r:KT H kvs xs)(ht:∀b ys,H b=some (.tup ys)->H' b=some (.tup ys)):KT H' kvs xs :=
 Paired.mapP r fun _ _ z=>⟨z.1,ht _ _ z.2.1,z.2.2⟩
section
variable {P:Program}{w:World}{H:Hp}{h:Heap}{a:Addr}
def Lh(ok:HOk P w H h)(e:Rd H a u):ObjOk P w H h a u:=e.ok ok
def yk{kvs:List (Key×V)}(ok:HOk P w H h)(e:Rd H a (.dK kvs)):kvs.length<=sizeLine/\(a == sysModules)=false/\∃vs,KV kvs vs/\h.DictOf (cF P w) a vs :=
 show ObjOk P w H h a (.dK kvs) from Lh ok e
def OO{kvs:List (Key×V)}(ok:HOk P w H h)(e:H a=some (.dK kvs)):kvs.length<=sizeLine/\(a == sysModules)=false/\∃vs,KV kvs vs/\h.DictOf (cF P w) a vs:=yk ok (.inl e)
def pV{ks:List Key}(ok:HOk P w H h)(e:H a=some (.tup (ks.map kV))):(tupleKind (cF P w)).is h ks a:=by
 obtain⟨_,its,r,o,h1,h2,n,h3⟩:=(show ObjOk P w H h a (.tup (ks.map kV)) from ok a _ e);exact⟨o,its.toArray,n,h1,h2,h3,by simpa using rL r⟩
def EY{kvs:List (List Key×V)}(ok:HOk P w H h)(e:Rd H a (.dT ep kvs)):kvs.length<=sizeLine/\(a == sysModules)=false /\
  ∃xs,KT H kvs xs/\h.DictOfH (tupleKind (cF P w)) a xs:=by
 obtain⟨z,y,xs,r,_,o,es,h1,h2,h3,h4,h5⟩:=(show ObjOk P w H h a (.dT ep kvs) from Lh ok e);refine⟨z,y,xs,r,o,es,ep.1,h1,h2,h3,h4,fun x hx=>?_,h5⟩;have all:∀{l:List (List Key×V)}{m:List (List Key×Addr×Value)},KT H l m->∀x∈m,(tupleKind (cF P w)).is h x.1 x.2.1:=by
  intro l m q;induction q with
  |nil=>intro x hx;exact nomatch hx
  |@cons p q ps qs hq t ih=>
   intro x hx;rcases Wc.mp hx with e|hx
   ·subst e;exact pV ok (by rw[<-hq.1];exact hq.2.1)
   ·exact ih x hx
 exact all r x hx
end
section
variable {P:Program}{w:World}{H:Hp}{h:Heap}{a:Addr}
def OP{kvs:List (List Key×V)}(ok:HOk P w H h)(e:H a=some (.dT ep kvs)):kvs.length<=sizeLine/\(a == sysModules)=false /\
  ∃xs,KT H kvs xs/\xs.map (·.2.1)=ep.2/\h.DictOfH (tupleKind (cF P w)) a xs:=by
 obtain⟨z,y,xs,r,ra,o,es,h1,h2,h3,h4,h5⟩:=(show ObjOk P w H h a (.dT ep kvs) from ok a _ e);refine⟨z,y,xs,r,ra,o,es,ep.1,h1,h2,h3,h4,fun x hx=>?_,h5⟩;have all:∀{l:List (List Key×V)}{m:List (List Key×Addr×Value)},KT H l m->∀x∈m,(tupleKind (cF P w)).is h x.1 x.2.1:=fun {l m} q=>by
  induction q with
  |nil=>exact fun x hx=>nomatch hx
  |cons hq t ih=>
   intro x hx;rcases Wc.mp hx with e'|hx
   ·subst e';exact pV ok (by rw[<-hq.1];exact hq.2.1)
   ·exact ih x hx
 exact all r x hx
end
def DGet(H:Hp)(a:Addr)(y:V)(r:Option V):Prop :=
 (∃kvs k,Rd H a (.dK kvs)/\y=kV k/\r=lg kvs k)\/∃ep kvs k b,Rd H a (.dT ep kvs)/\y=.ref b/\H b=some (.tup (k.map kV))/\r=lg kvs k
def Dz(as:List Addr)(kvs:List (List Key×V))(k:List Key)(b:Addr):List Addr:=if (lg kvs k).isSome=true then as else as++[b]
def OQ(H:Hp)(a:Addr)(y v:V)(R:Hp->Prop):Prop :=
 (∃kvs k,H a=some (.dK kvs)/\y=kV k/\kvs.length<sizeLine/\R (upd H a (.dK (putK kvs k v)))) \/
 ∃ep kvs k b,H a=some (.dT ep kvs)/\y=.ref b/\H b=some (.tup (k.map kV))/\kvs.length<sizeLine/\∀n,R (upd H a (.dT (n,Dz ep.2 kvs k b) (putK kvs k v)))
theorem DGet.k{a:Addr}{kvs:List (Key×V)}{k:Key}(e:H a=some (.dK kvs)):DGet H a (kV k) (lg kvs k):=.inl ⟨kvs,k,.inl e,rfl,rfl⟩
def DGet.t{k:List Key}(e:H a=some (.dT ep kvs))(eb:H b=some (.tup (k.map kV))):DGet H a (.ref b) (lg kvs k):=.inr ⟨ep,kvs,k,b,.inl e,rfl,eb,rfl⟩
def Mo{xs:List (List Key×Addr×Value)}(ra:xs.map (·.2.1)=as)(rel:KT H kvs xs):(storedH xs k b u).map (·.2.1)=Dz as kvs k b:=by
 have e:(lg kvs k).isSome=(atKey xs k).isSome:=by rw[(rel.val k).isSome_eq,BC]
 unfold storedH Dz;rw[e];by_cases q:(atKey xs k).isSome=true
 ·rw[Ag q,Ag q,<-ra,Ze];refine Vh fun x _=>?_;show(putAt k u x).2.1=x.2.1;unfold putAt;split<;>rfl
 ·rw[Aj q,Aj q,Yc,ra];rfl
section
variable {X:Cx}{pins:List (Addr×Obj)}{σ:St}{H:Hp}{s:Shared}{a:Addr}{y v:V}{u r:Value}{o:Option V}{A:Around}{E:Value->Shared->Prop}
def Inv.big(I:Inv X pins σ H s):sysModules<s.heap.objs.size:=by
 have h:mainGlobals<s.heap.objs.size:=(I.mod.glob.keeps I.bk).lt;exact BW (by decide) h
def DB(hu:A.units+1<cLine)(I:Inv X pins σ H s)(g:DGet H a y (some v))(ry:RelV y u)(h:∀w' s',Inv X pins σ H s'->RelV v w'->Q w' s') :
  wpAny (model X.prog X.w) A (getItem (.ref a) u) Q E s:=by
 rcases g with⟨kvs,k,e,ey,l⟩|⟨ep,kvs,k,b,e,ey,eb,l⟩
 ·subst ey;obtain⟨z,hd,vs,rel,dd⟩:=yk I.hok e;obtain⟨w',hw,rw'⟩:=RelO.some_of (v:=v) (o:=valueAt vs k) (by rw[l];exact rel.val k)
  exact wpAny_getItem_of (yj ry) dd.mapOf hw (h w' _ (I.tok _) rw')
 ·subst ey;cases (show u=Value.ref b from ry);obtain⟨z,hd,xs,rel,dd⟩:=EY I.hok e;obtain⟨w',hw,rw'⟩:=RelO.some_of (v:=v) (o:=(atKey xs k).map (·.2)) (by rw[l];exact rel.val k)
  obtain⟨p,hp,hp2⟩:=Vc.mp hw;refine wpAny_getItem_heap (Ch hu) (pV I.hok eb) dd hp ?_;rw[hp2];exact h w' _ (I.tok _) rw'
def Jc(hu:A.units+1<cLine)(I:Inv X pins σ H s)(g:DGet H a y o)(ry:RelV y u)(h:∀s',Inv X pins σ H s'->Q (.bool (!o.isSome)) s') :
  wpAny (model X.prog X.w) A (compareOp .NotIn u (.ref a)) Q E s:=by
 rcases g with⟨kvs,k,e,ey,l⟩|⟨ep,kvs,k,b,e,ey,eb,l⟩
 ·subst ey;obtain⟨z,hd,vs,rel,dd⟩:=yk I.hok e;refine wpAny_notIn_of (yj ry) hd dd.mapOf ?_;rw[<-(rel.val k).isSome_eq,<-l];exact h _ (I.tok _)
 ·subst ey;cases (show u=Value.ref b from ry);obtain⟨z,hd,xs,rel,dd⟩:=EY I.hok e;refine wpAny_notIn_heap (Ch hu) (pV I.hok eb) hd dd ?_;have q:=(rel.val k).isSome_eq;rw[BC]at q;rw[<-q,<-l];exact h _ (I.tok _)
def yl{h':Heap}{t':Nat}(I:Inv X pins σ H s)(mu:Mut (H a))(hs:Heap.SameBut a s.heap h')(he:∃q,h'.get? a=some q)(new:ObjOk X.prog X.w (upd H a ob) h' a ob) :
  Inv X pins σ (upd H a ob) { s with heap:=h',toks:=t' } :=
 I.write (x:=a) (e:=a) mu (.inl rfl) (fun b q hb z=>(hs.2 b hb).trans z) he new
def Mp{h':Heap}{kvs:List (Key×V)}(z:kvs.length<=sizeLine)(hd:(a == sysModules)=false)(rel:KV kvs vs)(dd:h'.DictOf (cF P w) a vs) :
  ObjOk P w H' h' a (.dK kvs):=⟨z,hd,vs,rel,dd⟩
def DC{R:Hp->Prop}{Q:Unit->Shared->Prop}(hu:A.units+1<cLine)(I:Inv X pins σ H s)(g:OQ H a y v R)(ry:RelV y u)(rv:RelV v r)(h:∀s' H',Inv X pins σ H' s'->R H'->Q () s') :
  wpAny (model X.prog X.w) A (setItem (.ref a) u r) Q E s:=by
 rcases g with⟨kvs,k,e,ey,l,eH⟩|⟨ep,kvs,k,b,e,ey,eb,l,eH⟩
 ·subst ey;obtain⟨z,hd,vs,rel,dd⟩:=OO I.hok e;have hz:vs.length<=sizeLine:=by rw[<-rel.length];exact z
  have hl:(putK kvs k v).length<=sizeLine:=by have:=om kvs k v;lia
  refine wpAny_setItem_pairs (hsz:=hz) (yj ry) dd fun h' dd' hs=>h _ _ ?_ eH;have he:∃q,h'.get? a=some q:=let ⟨q,_,_,hq,_⟩:=dd';⟨q,hq⟩;exact yl I (by rw[e];exact True.intro) hs he (Mp hl hd (rel.put k rv) dd')
 ·subst ey;cases (show u=Value.ref b from ry);obtain⟨z,hd,xs,rel,ra0,dd⟩:=OP I.hok e;have hz:xs.length<=sizeLine:=by rw[<-Paired.length rel];exact z
  have hl:(putK kvs k v).length<=sizeLine:=by have:=om kvs k v;lia
  have ra:xs.map (·.2.1)=ep.2:=ra0;refine wpAny_setItem_heap (hsz:=hz) (Ch hu) (pV I.hok eb) dd fun h' dd' hs=>?_;obtain⟨q,es,ep',hq,h2,h3,h4,_,h5⟩:=dd';refine h _ _ ?_ (eH ep');refine yl I (by rw[e];exact True.intro) hs ⟨q,hq⟩ ⟨hl,hd,_,(rel.put k eb rv).keeps fun c ys ec=>?_,Mo ra rel,q,es,hq,h2,h3,h4,h5⟩
  rw[aR (Oy ec e (fun z=>nomatch z))];exact ec
end
def Mq(i:Expr):Prop:=∀ov iv,subscripted i false ov iv=operate [ov,iv] (getItem ov iv)
def Jd{A:Around}{E:Value->Shared->Prop}{T id:String}{Q:Value->Shared->Prop}
  (hl:typeLookup (.type T) "__getitem__"=pure (some (.builtin id)))(hs:Mq slice)
  (h:wpAny (model prog w) A (eval value env) (fun o s₁=>wpAny (model prog w) A (eval slice env) (fun i s₂=>s₂.TypeIs o T/\wpAny (model prog w) A (getItem o i) Q E s₂) E s₁) E s) :
  wpAny (model prog w) A (eval (.Subscript value slice pos) env) Q E s:=by
 refine Subscript_ (Aw h (fun o s₁ h₁=>Aw h₁ (fun i s₂ h₂=>?_) fun _ _ x=>x) fun _ _ x=>x);obtain⟨hT,h₂⟩:=h₂;unfold subscriptTail;refine Aa ?_;rw[getitemInPython_of_ne hT.not_modules];refine Aa (BY hT hl ?_);have fin:wpAny (model prog w) A (subscripted slice false o i) (fun r s₃=>wpAny (model prog w) A (letTemporaryGo value o r >>= fun _=>pure r) Q E s₃) E s₂:=by
  rw[hs o i];exact wpAny_operating (Aw h₂ (fun r s₃ h₃=>Aa (wpAny_letTemporaryGo (Ad h₃))) fun _ _ x=>x)
 first
  | exact Ad (Aa fin)
  | exact Aa (Ad (Aa fin))
  | exact Aa fin
def vd{s:Shared}(I:Inv X pins σ H s)(g:DGet H a y o):s.TypeIs (.ref a) "dict":=by
 rcases g with⟨kvs,k,e,_,_⟩|⟨ep,kvs,k,b,e,_,_,_⟩
 ·obtain⟨_,_,vs,_,dd⟩:=yk I.hok e;exact dd.typeIs
 ·obtain⟨_,_,xs,_,dd⟩:=EY I.hok e;exact dd.typeIs
def OR(td ty:TE):TE:=fun σ H Q=>td σ H fun x H1=>ty σ H1 fun y H2=>∃a v,x=.ref a/\DGet H2 a y (some v)/\Q v H2
section
variable {X:Cx}{o i e value:Expr}{pos pos' tpos:Pos}{td ty tv:TE}
def Je(hu:X.A.units+1<cLine)(ho:PE X o td)(hi:PE X i ty)(hs:Mq i):PE X (.Subscript o i pos) (OR td ty):=by
 intro pins s σ H Q I h;refine Jd PySem.F.slot_dict_getitem.lookup hs (thn (ho pins s σ H _ I h) fun u s1 ⟨x,H1,I1,rx,q1⟩=>thn (hi pins s1 σ H1 _ I1 q1) fun iv s2 zz9=>?_);obtain⟨y,H2,I2,ry,a,v,ex,g,q2⟩:=zz9;subst ex;obtain rfl:u=Value.ref a:=rx;exact⟨vd I2 g,DB hu I2 g ry fun w' s3 I3 rw'=>⟨v,H2,I3,rw',q2⟩⟩
end
def EZ(h:Heap)(hb:sysModules<h.objs.size):ObjOk P w H (h.push { cls:=.type "dict",data:=.dict #[] }) h.objs.size (.dK []) :=
 ⟨Xi _,beq_eq_false_iff_ne.mpr (Au (Qf hb)),[],.nil,Heap.DictOf.new h⟩
def E8(h:Heap)(hb:sysModules<h.objs.size):ObjOk P w H (h.push { cls:=.type "dict",data:=.dict #[] }) h.objs.size (.dT (0,[]) []) :=
 ⟨Xi _,beq_eq_false_iff_ne.mpr (Au (Qf hb)),[],.nil,rfl,_,#[],Ah _ rfl,⟨rfl,rfl,rfl⟩,rfl,rfl,Wl⟩
def E9:TE:=fun _ H Q=>∀p,H p=none->Q (.ref p) (upd H p (.dK []))
def Fb:TE:=fun _ H Q=>∀p,H p=none->Q (.ref p) (upd H p (.dT (0,[]) []))
section
variable {X:Cx}{pos:Pos}
def ve:PE X (.Dict [] [] pos) E9:=fun pins s σ H Q I h=>
 wpAny_Dict_empty ⟨.ref s.heap.objs.size,_,I.laid (a:=s.heap.objs.size) (o:=.dK []) (t':=s.toks) (fun _ _ q=>Ac _ q) (Wb _) (EZ s.heap I.big),rfl,h _ (I.hok.fresh (Wb _))⟩
def vf:PE X (.Dict [] [] pos) Fb:=fun pins s σ H Q I h=>
 wpAny_Dict_empty ⟨.ref s.heap.objs.size,_,I.laid (a:=s.heap.objs.size) (o:=.dT (0,[]) []) (t':=s.toks) (fun _ _ q=>Ac _ q) (Wb _) (E8 s.heap I.big),rfl,h _ (I.hok.fresh (Wb _))⟩
end
end L2
namespace HT
open PySem PyProof.Rows
def rcLt_int(A:Around)(s:Shared)(a:Int)(t:Tok)(c:Int)(u:Tok)(prog:Program)(w:World)(E:Value->Shared->Prop)(Q:Value->Shared->Prop)(h:Q (.bool (decide (a<c))) s) :
  wpAny (model prog w) A (richCompare .Lt (.int a t) (.int c u)) Q E s :=
 (PyProof.Rows.lt_int h:wpAny (model prog w) A (compareOp .Lt (.int a t) (.int c u)) Q E s)
section
variable {prog:Program}{w:World}{A:Around}{E:Value->Shared->Prop}{s:Shared}
def cat_tup{vs ws:List Value}(ht:IsTup s.heap t vs.toArray)(hb:IsTup s.heap b ws.toArray)(hv:vs≠[])
  (h1:ws=[]->Q (.ref t) s)(h2:ws≠[]->Q (.ref s.heap.objs.size) { s with heap:=s.heap.push { cls:=.type "tuple",data:=.seq (vs++ws).toArray } })
  (hsz:vs.length+ws.length<=sizeLine):wpAny (model prog w) A (binaryOp .Add (.ref t) (.ref b)) Q E s:=by
 obtain⟨⟨cls,dd,data,sl⟩,ho,hc,n,hd⟩:=id ht;obtain⟨⟨cls2,dd2,data2,sl2⟩,ho2,hc2,n2,hd2⟩:=id hb;simp only at hc hd hc2 hd2;subst hc hd hc2 hd2;have e:vs.toArray++ws.toArray=(vs++ws).toArray:=by simp
 by_cases hw:ws=[]
 ·exact concat_meets ⟨_,ho,rfl⟩ ⟨_,ho2,rfl⟩ CG seq_tuple_add BU BM (BJ _ _)
   (tuple_addW1 t b vs.toArray ws.toArray n n2 dd dd2 sl sl2 (by simpa using hv) (by simp[hw])) ⟨ho,ho2,h1 hw⟩
 ·refine concat_meets ⟨_,ho,rfl⟩ ⟨_,ho2,rfl⟩ CG seq_tuple_add BU BM (BJ _ _)
   (tuple_addW2 t b vs.toArray ws.toArray n n2 dd dd2 sl sl2 (by simpa using hv) (by simpa using hw) (by rw[Xc,Xc];exact hsz)) ⟨ho,ho2,?_⟩
  rw[e];exact h2 hw
def sIx(n d:Nat):Option Int->Nat|none=>d|some v=>if v<0 then(v+(n:Int)).toNat else min v.toNat n
def sIx_none(n d:Nat):sIx n d none=d:=rfl
def sIx_nat(n d k:Nat):sIx n d (some (k:Int))=min k n:=by
 show(if (k:Int)<0 then((k:Int)+(n:Int)).toNat else min (k:Int).toNat n)=min k n;rw[Aj (by lia),Xn]
theorem Mr(n d:Nat)(hd:d<=n)(o:Option Int):sIx n d o<=n:=by
 cases o with
 |none=>exact hd
 |some v=>
  show(if v<0 then(v+(n:Int)).toNat else min v.toNat n)<=n;by_cases hv:v<0
  ·rw[Ag hv];lia
  ·rw[Aj hv];exact Nat.min_le_right _ _
def clip_nat(v:Int)(n:Nat)(hv:¬ v<0):min v (n:Int)=((min v.toNat n:Nat):Int):=by
 obtain⟨k,rfl⟩:=Df (Int.not_lt.mp hv);rw[Xn];rcases Nat.le_total k n with h|h
 ·rw[Bm h];exact Int.min_eq_left (Int.ofNat_le.mpr h)
 ·rw[Nat.min_eq_right h];exact Int.min_eq_right (Int.ofNat_le.mpr h)
def yn(v:Int)(n d:Nat):(if v<0 then max (v+(n:Int)) 0 else min v (n:Int))=((sIx n d (some v):Nat):Int):=by
 show(if v<0 then max (v+(n:Int)) 0 else min v (n:Int))=(((if v<0 then(v+(n:Int)).toNat else min v.toNat n):Nat):Int);by_cases hv:v<0
 ·rw[Ag hv,Ag hv];exact(Int.ofNat_toNat _).symm
 ·rw[Aj hv,Aj hv];exact clip_nat v n hv
def wR(lo hi:Option Int)(n:Nat):Builtin.Slice.sliceAdjust lo hi 1 (n:Int)=(((sIx n 0 lo:Nat):Int),((sIx n n hi:Nat):Int)):=by
 have h1:¬ ((1:Int)<0):=by lia
 unfold Builtin.Slice.sliceAdjust;simp only[h1,if_false];refine Prod.ext ?_ ?_
 ·cases lo with|none=>rfl|some v=>exact yn v n 0
 ·cases hi with|none=>rfl|some v=>exact yn v n n
def wT(i j:Nat):Builtin.Slice.slicePlaces (i:Int) (j:Int) 1=j-i:=by
 unfold Builtin.Slice.slicePlaces;have h1:(1:Int) > 0:=by lia
 simp only[h1,if_true,Int.ediv_one];split<;>lia
theorem pW(p:IsPart v o)(h:Q o s):wpAny (model prog w) A (Builtin.Slice.slicePartIndex v) Q E s:=by
 cases p with|none=>exact slicePart_none h|int i t=>exact slicePart_int h
def iK{sl:Addr}{vl vu:Value}{lo hi:Option Int}{n:Nat}{Q:Int×Int×Nat->Shared->Prop}(hs:s.heap.IsSliceOf sl vl vu .none)(pl:IsPart vl lo)(pu:IsPart vu hi)
  (h:Q (((sIx n 0 lo:Nat):Int),1,sIx n n hi-sIx n 0 lo) s):wpAny (model prog w) A (Builtin.Slice.sliceApplied (.ref sl) (pure (n:Int))) Q E s:=by
 obtain⟨os,hos,hcs,hds⟩:=id hs;unfold Builtin.Slice.sliceApplied Builtin.Slice.sliceFields;refine Aa (Aa (Ar hos hds (x:=vl) rfl (Aa (Ar hos hds (x:=vu) rfl (Aa (Ar hos hds (x:=.none) rfl (Ad ?_)))))));refine Aa (slicePart_none ?_);show wpAny _ _ (if ((1:Int) == 0)=true then _ else _) _ _ s;rw[Aj (by decide)]
 refine Aa (pW pl (Aa (pW pu (Aa (Ad ?_)))));show wpAny _ _ (match Builtin.Slice.sliceAdjust lo hi 1 (n:Int) with|(lo,hi)=>pure (lo,(1:Int),Builtin.Slice.slicePlaces lo hi 1)) _ _ s
 rw[wR lo hi n];show wpAny _ _ (pure (((sIx n 0 lo:Nat):Int),(1:Int),Builtin.Slice.slicePlaces ((sIx n 0 lo:Nat):Int) ((sIx n n hi:Nat):Int) 1)) _ _ s;rw[wT];exact Ad h
def Fc(xs:Array Value)(i k:Nat):((List.range k).filterMap fun(m:Nat)=>xs[((i:Int)+(m:Int)*1).toNat]?).toArray=((xs.toList.drop i).take k).toArray:=by
 have e:(fun(m:Nat)=>xs[((i:Int)+(m:Int)*1).toNat]?)=fun m=>xs[i+m]?:=by
  funext m
  have:((i:Int)+(m:Int)*1).toNat=i+m:=by lia
  rw[this]
 rw[e];have:=pick_run xs i k;rw[List.filterMap_map]at this;have e2:((fun x=>xs[x]?) ∘ fun x=>i+x)=fun m=>xs[i+m]?:=rfl;rw[e2]at this;rw[this]
def getItem_tuple_cut{t sl:Addr}{items:Array Value}{vl vu:Value}{lo hi:Option Int}{Q:Value->Shared->Prop}(ht:IsTup s.heap t items)(hs:s.heap.IsSliceOf sl vl vu .none)(pl:IsPart vl lo)(pu:IsPart vu hi)
  (hw:¬ (sIx items.size 0 lo=0/\sIx items.size items.size hi=items.size))
  (h:Q (.ref s.heap.objs.size) { s with heap:=s.heap.push { cls:=.type "tuple",data:=.seq ((items.toList.drop (sIx items.size 0 lo)).take (sIx items.size items.size hi-sIx items.size 0 lo)).toArray } })
  (hsz:items.size<=sizeLine):wpAny (model prog w) A (getItem (.ref t) (.ref sl)) Q E s:=by
 have htake:sizeOk (.seq ((items.toList.drop (sIx items.size 0 lo)).take (sIx items.size items.size hi-sIx items.size 0 lo)).toArray):=by
  show((items.toList.drop (sIx items.size 0 lo)).take (sIx items.size items.size hi-sIx items.size 0 lo)).toArray.size<=sizeLine;rw[Xc,A1,Yj,Wd];exact Ve (Nat.min_le_right _ _) (Ve (Nat.sub_le _ _) hsz)
 have hj:sIx items.size items.size hi<=items.size:=Mr _ _ (Wb _) hi;obtain⟨os,hos,hcs,hds⟩:=id hs;have hTs:s.TypeIs (.ref sl) "slice":=⟨os,hos,hcs⟩;unfold getItem
 try with_reducible refine AA ?_
 first|refine Aa (Ad ?_)|skip
 refine Aa (wpAny_sequenceKey ht.typeIs (by decide) ?_)
 refine Aa (Am (name:=Str.ofString "__getitem__") ht.typeIs AI
  (Ao AI ht.typeIs entry_tuple_getitem ?_ (args_tuple_getitem _ _)))
 show wpAny _ _ (Builtin.Tuple.tupleItemsOf (.ref t) >>= _) _ _ s;refine Aa (tupleItemsOf_ ht ?_);refine Aa (AZ hTs ?_);rw[Ag (by decide)]
 refine Aa (iK hs pl pu ?_);have hno:¬ ((((sIx items.size 0 lo:Nat):Int) == 0&&(1:Int) == 1&&(sIx items.size items.size hi-sIx items.size 0 lo) == items.size)=true):=by
  intro q;rw[Vi,Vi]at q;have q1:((sIx items.size 0 lo:Nat):Int)=0:=eq_of_beq q.1.1;have q2:sIx items.size items.size hi-sIx items.size 0 lo=items.size:=eq_of_beq q.2;exact hw ⟨by lia,by lia⟩
 show wpAny _ _ (if (((sIx items.size 0 lo:Nat):Int) == 0&&(1:Int) == 1&&(sIx items.size items.size hi-sIx items.size 0 lo) == items.size)=true then _ else _) _ _ s;rw[Aj hno,Fc]
 first
  | exact Aa (m:=Builtin.Tuple.tupleExact _) (Aq (Ad ⟨_,rfl,Ad h⟩) htake)
  | exact Aa (m:=Builtin.Tuple.tupleExact _) (Aq (Aa (Ad (Ad ⟨_,rfl,Ad h⟩))) htake)
  | exact Aa (Aa (m:=Builtin.Tuple.tupleExact _) (Aq (Ad (Ad ⟨_,rfl,Ad h⟩)) htake))
  | exact Aa (Aa (m:=Builtin.Tuple.tupleExact _) (Aq (Ad ⟨_,rfl,Ad h⟩) htake))
end
end HT
namespace L2
open PySem PySem.Spec PyProof.Rows
abbrev TO:=St->Hp->(Option Int->Hp->Prop)->Prop
def PO(X:Cx)(e:Option Expr)(t:TO):Prop :=
 ∀(pins:List (Addr×Obj))(s:Shared)(σ:St)(H:Hp)(Q:Option Int->Hp->Prop),Inv X pins σ H s->t σ H Q->
  wpAny (model X.prog X.w) X.A (evalPart e X.env) (fun u s'=>∃o H',Inv X pins σ H' s'/\IsPart u o/\Q o H') X.xe s
def yo:TO:=fun _ H Q=>Q none H
def Li(t:TE):TO:=fun σ H Q=>t σ H fun x H1=>∃i,x=.int i/\Q (some i) H1
section
variable {X:Cx}{e:Expr}{te:TE}{lo hi:Option Expr}{tl th:TO}{pos p2:Pos}
def fW:PO X none yo:=by
 intro pins s σ H Q I h;rw[evalPart_none];exact Ad ⟨none,H,I,.none,h⟩
def fX(h:PE X e te):PO X (some e) (Li te):=by
 intro pins s σ H Q I hw;rw[evalPart_some];refine thn (h pins s σ H _ I hw) fun u s1 zz9=>?_;obtain⟨x,H1,I1,r1,q1⟩:=zz9;obtain⟨i,rfl,q⟩:=q1;obtain⟨t,rfl⟩:=r1;exact⟨some i,H1,I1,.int i t,q⟩
def SlR(X:Cx)(r:V->Option Int->Option Int->Hp->VK->Prop):Prop :=
 ∀(pins:List (Addr×Obj))(s:Shared)(σ:St)(H:Hp)(x:V)(v vl vu:Value)(lo hi:Option Int)(sl:Addr)(Q:VK),Inv X pins σ H s->RelV x v->s.heap.IsSliceOf sl vl vu .none->IsPart vl lo->IsPart vu hi->r x lo hi H Q->
  ∃T id,typeLookup (.type T) "__getitem__"=pure (some (.builtin id))/\s.TypeIs v T/\wpAny (model X.prog X.w) X.A (getItem v (.ref sl)) (EP X pins σ Q) X.xe s
def SlR.or(h:SlR X r)(h':SlR X r'):SlR X (fun x lo hi H Q=>r x lo hi H Q\/r' x lo hi H Q):=by
 intro pins s σ H x v vl vu lo hi sl Q I rx hs pl pu q;rcases q with q|q
 ·exact h pins s σ H x v vl vu lo hi sl Q I rx hs pl pu q
 ·exact h' pins s σ H x v vl vu lo hi sl Q I rx hs pl pu q
def tSl(r:V->Option Int->Option Int->Hp->VK->Prop)(te:TE)(tl th:TO):TE:=fun σ H Q=>te σ H fun x H1=>tl σ H1 fun l H2=>th σ H2 fun u H3=>r x l u H3 Q
def ee(hr:SlR X r)(he:PE X e te)(hl:PO X lo tl)(hu:PO X hi th):PE X (.Subscript e (.Slice lo hi none p2) pos) (tSl r te tl th):=by
 intro pins s σ H Q I h;refine Subscript_ (thn (he pins s σ H _ I h) fun v s1 zz9=>?_);obtain⟨x,H1,I1,r1,q1⟩:=zz9;refine wpAny_Slice (thn (hl pins s1 σ H1 _ I1 q1) fun vl s2 ⟨l,H2,I2,pl,q2⟩=>thn (hu pins s2 σ H2 _ I2 q2) fun vu s3 zz9=>?_);obtain⟨u,H3,I3,pu,q3⟩:=zz9;rw[evalPart_none];refine Ad ?_;have I4:Inv X pins σ H3 { s3 with heap:=s3.heap.push { cls:=.type "slice",data:=.fields #[vl,vu,.none] } }:=I3.kept (t':=s3.toks) fun b ob q=>Ac _ q;obtain⟨T,id,hT,ht,hg⟩:=hr pins { s3 with heap:=s3.heap.push { cls:=.type "slice",data:=.fields #[vl,vu,.none] } } σ H3 x v vl vu l u s3.heap.objs.size Q I4 r1 (Heap.IsSliceOf.new ..) pl pu q3;show wpAny (model X.prog X.w) X.A (subscriptTail e (.Slice lo hi none p2) v (.ref s3.heap.objs.size)) (EP X pins σ Q) X.xe { s3 with heap:=s3.heap.push { cls:=.type "slice",data:=.fields #[vl,vu,.none] } };exact tail_any (ops:=[.ref s3.heap.objs.size,v]) ht hT hg (by with_unfolding_all rfl)
def vg(xs:List V)(lo hi:Option Int):List V:=(xs.drop (HT.sIx xs.length 0 lo)).take (HT.sIx xs.length xs.length hi-HT.sIx xs.length 0 lo)
def on(xs:List V)(lo hi:Option Int):(vg xs lo hi).length<=xs.length:=by
 unfold vg;rw[A1,Yj];lia
def Ms(K:Ab):V->Option Int->Option Int->Hp->VK->Prop:=fun x lo hi H Q=>∃a xs,x=.ref a/\SqT K H a xs /\
 ¬ (HT.sIx xs.length 0 lo=0/\HT.sIx xs.length xs.length hi=xs.length)/\∀p,H p=none->Q (.ref p) (upd H p (.tup (vg xs lo hi)))
def Mu:SlR X (Ms X.K):=by
 intro pins s σ H x v vl vu lo hi sl Q I rx hs pl pu h;obtain⟨a,xs,rfl,hx,hw,q⟩:=h;cases rx;obtain⟨its,r,ht,hz⟩:=I.tuple hx;have hlen:its.toArray.size=xs.length:=by rw[Xc];exact r.length.symm
 refine⟨"tuple",_,AI.lookup,ht.typeIs,?_⟩;refine HT.getItem_tuple_cut ht hs pl pu (by rw[hlen];exact hw) ?_ (by rw[hlen];exact hz)
 rw[hlen];refine⟨.ref s.heap.objs.size,_,I.laid (t':=s.toks) (o:=.tup (vg xs lo hi)) (fun b ob q=>Ac _ q) (Wb _) ?_,rfl,q _ (I.hok.fresh (Wb _))⟩;exact⟨Ve (on xs lo hi) hz,_,(r.drop (HT.sIx xs.length 0 lo)).take (HT.sIx xs.length xs.length hi-HT.sIx xs.length 0 lo),IsTup.new _ _⟩
def Fe(K:Ab):R2:=fun x y H Q=>∃a b xs ys,x=.ref a/\y=.ref b/\SqT K H a xs/\SqT K H b ys/\xs≠[]/\xs.length+ys.length<=sizeLine /\
 (ys=[]->Q (.ref a) H)/\(ys≠[]->∀p,H p=none->Q (.ref p) (upd H p (.tup (xs++ys))))
theorem Vals.nil_iff(r:Vals xs us):us=[]↔xs=[]:=by
 cases r with|nil=>simp|cons _ _=>simp
def Jf:OpR X (binaryOp .Add) (Fe X.K):=by
 intro pins s σ H x y v u Q I rx ry h;obtain⟨a,b,xs,ys,rfl,rfl,ha,hb,hx,hz,q1,q2⟩:=h;cases rx;cases ry;obtain⟨its,r1,p1,_⟩:=I.tuple ha;obtain⟨its2,r2,p2,_⟩:=I.tuple hb;refine HT.cat_tup p1 p2 (fun z=>hx (r1.nil_iff.mp z)) (fun z=>⟨.ref a,H,I,rfl,q1 (r2.nil_iff.mp z)⟩) (fun z=>?_) (by rw[<-r1.length,<-r2.length];exact hz)
 refine⟨.ref s.heap.objs.size,_,I.laid (t':=s.toks) (o:=.tup (xs++ys)) (fun b ob q=>Ac _ q) (Wb _) ?_,rfl,q2 (fun w=>z (r2.nil_iff.mpr w)) _ (I.hok.fresh (Wb _))⟩;exact⟨by rw[Xa];exact hz,_,r1.append r2,IsTup.new _ _⟩
end
end L2
namespace L2
open PySem PySem.Spec PyProof.Rows
def ixN(n:Nat)(i:Int):Option Nat:=if 0<=i then(if i<n then some i.toNat else none) else if -(n:Int)<=i then some (i+n).toNat else none
def atI{α:Type}(xs:List α)(i:Int):Option α:=(ixN xs.length i).bind fun j=>xs[j]?
def yp(h:ixN n i=some j):seqIndex? i n=some j/\j<n/\-(n:Int)<=i/\i<n:=by
 unfold ixN at h;by_cases h0:0<=i
 ·rw[Ag h0]at h;by_cases h1:i<n
  ·rw[Ag h1]at h;have e:i.toNat=j:=Option.some.inj h;exact⟨by rw[CQ h0 h1,e],by lia,by lia,h1⟩
  ·rw[Aj h1]at h;cases h
 ·rw[Aj h0]at h;by_cases h1:-(n:Int)<=i
  ·rw[Ag h1]at h;have e:(i+n).toNat=j:=Option.some.inj h;exact⟨by rw[seqIndex_neg (by lia) h1,e],by lia,h1,by lia⟩
  ·rw[Aj h1]at h;cases h
theorem tm{xs:List α}(h:atI xs i=some v):∃j,seqIndex? i xs.length=some j/\xs[j]?=some v/\j<xs.length/\-(xs.length:Int)<=i/\i<xs.length:=by
 unfold atI at h;cases e:ixN xs.length i with
 |none=>rw[e]at h;cases h
 |some j=>
  rw[e]at h;obtain⟨h1,h2,h3,h4⟩:=yp e;exact⟨j,h1,h,h2,h3,h4⟩
def iX{α:Type}{xs:List α}{j:Nat}{v:α}(h:xs[j]?=some v):atI xs (j:Int)=some v:=by
 have hj:j<xs.length:=(Zd.mp h).1;have e:ixN xs.length (j:Int)=some j:=by
  unfold ixN;rw[Ag (by lia),Ag (by lia)];simp
 unfold atI;rw[e];exact h
def yq(b:Expr):Prop:=∀o i,subscripted b false o i=operate [o,i] (getItem o i)
def IxR(X:Cx)(r:R2):Prop :=
 ∀(value slice:Expr)(pins:List (Addr×Obj))(s:Shared)(σ:St)(H:Hp)(x y:V)(v u:Value)(Q:VK),Inv X pins σ H s->RelV x v->RelV y u->r x y H Q->
  subscripted slice false v u=operate [v,u] (getItem v u)->wpAny (model X.prog X.w) X.A (subscriptTail value slice v u) (EP X pins σ Q) X.xe s
def MtR(X:Cx)(id:String)(r:V->List V->Hp->VK->Prop):Prop :=
 ∀(pins:List (Addr×Obj))(s:Shared)(σ:St)(H:Hp)(x:V)(xs:List V)(v:Value)(us:List Value)(Q:VK),Inv X pins σ H s->RelV x v->Vals xs us->r x xs H Q->
  wpAny (model X.prog X.w) X.A (call (.builtin id) (v::us)) (EP X pins σ Q) X.xe s
section
variable {X:Cx}{a b:Expr}{ta tb:TE}{pos:Pos}
def IxR.or(h:IxR X r)(h':IxR X r'):IxR X (fun x y H Q=>r x y H Q\/r' x y H Q):=by
 intro value slice pins s σ H x y v u Q I rx ry q hs;rcases q with q|q
 ·exact h value slice pins s σ H x y v u Q I rx ry q hs
 ·exact h' value slice pins s σ H x y v u Q I rx ry q hs
def OS(hr:IxR X r)(ha:PE X a ta)(hb:PE X b tb)(hs:yq b):PE X (.Subscript a b pos) (tOp r ta tb):=by
 intro pins s σ H Q I h;exact Subscript_ (Mj ha hb I h fun v u s2 x y H2 I2 rx ry q=>hr a b pins s2 σ H2 x y v u Q I2 rx ry q (hs _ _))
def Mv(K:Ab):R2:=fun x y H Q=>∃p xs i v,x=.ref p/\y=.int i/\SqL K H p xs/\atI xs i=some v/\Q v H
def Mw(K:Ab):R2:=fun x y H Q=>∃p xs i v,x=.ref p/\y=.int i/\SqT K H p xs/\atI xs i=some v/\Q v H
def Mx:R2:=fun x y H Q=>∃z i c,x=.str z/\y=.int i/\z.length<=sizeLine/\atI z.cps.toList i=some c/\Q (.str ⟨#[c]⟩) H
def ix_list:IxR X (Mv X.K):=by
 intro value slice pins s σ H x y v u Q I rx ry h hs;obtain⟨p,xs,i,z,rfl,rfl,hq,he,q⟩:=h;cases rx;obtain⟨t,rfl⟩:=ry;obtain⟨its,r,pl,hz⟩:=I.list hq;obtain⟨j,h1,h2,h3,h4,h5⟩:=tm he;obtain⟨w,ew,rw'⟩:=r.get h2;have hl:=r.length;have hn:=nI;have fin:EP X pins σ Q w s:=⟨z,H,I,rw',q⟩;by_cases h0:0<=i
 ·have hj:i.toNat=j:=by
   rw[CQ h0 h5]at h1;exact Option.some.inj h1
  exact item_listR pl.isList h0 (by lia) (by rw[hj];simpa using ew) fin hs
 ·have hj:(i+(its.toArray.size:Int)).toNat=j:=by
   rw[seqIndex_neg (by lia) h4]at h1
   rw[Xc,<-hl];exact Option.some.inj h1
  exact subscriptTail_builtinR (x:=w) pl.isList.typeIs slot_list_getitem.lookup
   (wpAny_getItem_list_neg (Q:=fun r s'=>r=w/\EP X pins σ Q r s') pl.isList (by lia) (by rw[Xc]<;>lia) (by lia) (by rw[hj];simpa using ew) ⟨rfl,fin⟩) hs
def ix_tup:IxR X (Mw X.K):=by
 intro value slice pins s σ H x y v u Q I rx ry h hs;obtain⟨p,xs,i,z,rfl,rfl,hq,he,q⟩:=h;cases rx;obtain⟨t,rfl⟩:=ry;obtain⟨its,r,pl,hz⟩:=I.tuple hq;obtain⟨j,h1,h2,h3,h4,h5⟩:=tm he;obtain⟨w,ew,rw'⟩:=r.get h2;have hl:=r.length;have hn:=nI;have fin:EP X pins σ Q w s:=⟨z,H,I,rw',q⟩;exact subscriptTail_builtinR (x:=w) pl.typeIs slot_tuple_getitem.lookup
  (getItem_tuple (j:=j) (Q:=fun r s'=>r=w/\EP X pins σ Q r s') pl (by lia) (by lia) (by rw[Xc,<-hl];exact h1) (by simpa using ew) ⟨rfl,fin⟩) hs
def ix_str:IxR X Mx:=by
 intro value slice pins s σ H x y v u Q I rx ry h hs;obtain⟨z,i,c,rfl,rfl,hz,he,q⟩:=h;obtain⟨t,rfl⟩:=rx;obtain⟨t',rfl⟩:=ry;obtain⟨j,h1,h2,h3,h4,h5⟩:=tm he;have hl:z.cps.toList.length=z.length:=by simp[Str.length]
 rw[hl]at h1 h4 h5;have hn:=nI
 exact tail_any (CW s z t) slot_str_getitem.lookup (getItem_str (c:=c) (by
  have e1:decide (i < -(2 ^ 63:Int))=false:=Af (by lia)
  have e2:decide (i ≥ 2 ^ 63)=false:=Af (by lia)
  rw[e1,e2,Bool.or_false]) (by rw[h1];simpa using h2) ⟨.str ⟨#[c]⟩,H,I.tok _,⟨_,rfl⟩,q⟩) hs
def rIx(K:Ab):R2:=fun x y H Q=>Mv K x y H Q\/Mw K x y H Q\/Mx x y H Q
def My:IxR X (rIx X.K):=ix_list.or (ix_tup.or ix_str)
def wU(its:List Value)(n j:Nat)(u:Value):Obj.mapSeq (·.setIfInBounds j u) { cls:=.type "list",data:=.seq its.toArray n }={ cls:=.type "list",data:=.seq (its.set j u).toArray n }:=by
 simp[Obj.mapSeq]
theorem Inv.lst{s:Shared}(I:Inv X pins σ H s)(h:H p=some (.lst xs)) :
  ∃(its:List Value)(n:Nat),Vals xs its/\s.heap.get? p=some { cls:=.type "list",data:=.seq its.toArray n }/\xs.length<=sizeLine:=by
 obtain⟨z,its,n,r,e⟩:=I.hok p _ h;exact⟨its,n,r,e,z⟩
def Inv.lstUpd{s:Shared}{xs ys:List V}{its its':List Value}(I:Inv X pins σ H s)(h:H p=some (.lst xs))
  (ho:s.heap.get? p=some { cls:=.type "list",data:=.seq its.toArray n })(hf:f { cls:=.type "list",data:=.seq its.toArray n }={ cls:=.type "list",data:=.seq its'.toArray n' })(r:Vals ys its')(hz:ys.length<=sizeLine)(t:Nat) :
  Inv X pins σ (upd H p (.lst ys)) { s with heap:=s.heap.update p f,toks:=t }:=by
 have e:(s.heap.update p f).get? p=some { cls:=.type "list",data:=.seq its'.toArray n' }:=by
  rw[AT f ho (by rw[hf]<;>rfl),hf]
 refine I.write (x:=p) (e:=p) (by rw[h];trivial) (.inl rfl) (fun b u hb q=>(AM _ _ (Au hb)).trans q) ⟨_,e⟩ ?_
 exact⟨hz,its',n',r,e⟩
def Lj:V->V->V->Hp->(Hp->Prop)->Prop:=fun o i v H Q=>∃p xs k j,o=.ref p/\i=.int k/\H p=some (.lst xs)/\ixN xs.length k=some j/\Q (upd H p (.lst (xs.set j v)))
def set_list:Me X Lj:=by
 intro pins s σ H o i v ov iv u Q I ro ri rv h;obtain⟨p,xs,k,j,rfl,rfl,hp,hj,q⟩:=h;cases ro;obtain⟨t,rfl⟩:=ri;obtain⟨its,n,r,ho,hz⟩:=I.lst hp;obtain⟨h1,h2,h3,h4⟩:=yp hj;have hl:=r.length;have hn:=nI;have I':Inv X pins σ (upd H p (.lst (xs.set j v))) { s with heap:=s.heap.update p (Obj.mapSeq (·.setIfInBounds j u)) } :=
  I.lstUpd hp ho (wU its n j u) (r.set rv j) (by rw[List.length_set];exact hz) s.toks
 by_cases h0:0<=k
 ·have hk:k.toNat=j:=by
   rw[CQ h0 h4]at h1;exact Option.some.inj h1
  exact PySem.W.ki_setAt ho h0 (by lia) (by rw[Xc,<-hl];exact h4) (by rw[hk];exact⟨_,I',q⟩)
 ·have hk:(k+(its.toArray.size:Int)).toNat=j:=by
   rw[seqIndex_neg (by lia) h3]at h1
   rw[Xc,<-hl];exact Option.some.inj h1
  exact PySem.W.ki_setBack ho (by lia) (by rw[Xc,<-hl];exact h3) (by lia) (by rw[hk];exact⟨_,I',q⟩)
def Ff(i:Int)(n:Nat):max 0 (min (if i<0 then i+(n:Int) else i) (n:Int))=(((if i<0 then(i+(n:Int)).toNat else min i.toNat n):Nat):Int):=by
 by_cases h:i<0
 ·rw[Ag h,Ag h,Int.min_eq_left (by lia),Int.max_comm];exact(Int.ofNat_toNat _).symm
 ·rw[Aj h,Aj h,HT.clip_nat i n h];exact Int.max_eq_right (Co _)
def tq(lo hi:Option Int)(n:Nat):(sliceBounds lo hi none n).1=((HT.sIx n 0 lo:Nat):Int)/\(sliceBounds lo hi none n).2.1=((HT.sIx n n hi:Nat):Int)/\(sliceBounds lo hi none n).2.2=1:=by
 refine⟨?_,?_,rfl⟩
 ·cases lo with|none=>simp[sliceBounds,HT.sIx]|some i=>exact Ff i n
 ·cases hi with|none=>simp[sliceBounds,HT.sIx]|some i=>exact Ff i n
def q0(its:List Value)(lo hi:Option Int):slicePick its.toArray lo hi none=((its.drop (HT.sIx its.length 0 lo)).take (HT.sIx its.length its.length hi-HT.sIx its.length 0 lo)).toArray:=by
 obtain⟨h1,h2,h3⟩:=tq lo hi its.toArray.size;unfold slicePick;rw[h1,h2,h3];simp only[sliceRange_one,pick_run,Xc]<;>rfl
def Mz(K:Ab):V->Option Int->Option Int->Hp->VK->Prop:=fun x lo hi H Q=>∃a xs,x=.ref a/\SqL K H a xs/\∀p,H p=none->Q (.ref p) (upd H p (.lst (vg xs lo hi)))
def Jg:SlR X (Mz X.K):=by
 intro pins s σ H x v vl vu lo hi sl Q I rx hs pl pu h;obtain⟨a,xs,rfl,hx,q⟩:=h;cases rx;obtain⟨its,r,ht,hz⟩:=I.list hx;have hlen:=r.length;refine⟨"list",_,slot_list_getitem.lookup,ht.isList.typeIs,?_⟩;refine wpAny_getItem_list_slice ht.isList hs pl pu .none (by simp) ?_ (by rw[Xc]<;>lia)
 rw[q0,<-hlen];refine⟨.ref s.heap.objs.size,_,I.laid (t':=s.toks) (o:=.lst (vg xs lo hi)) (fun b ob q=>Ac _ q) (Wb _) ?_,rfl,q _ (I.hok.fresh (Wb _))⟩;exact⟨Ve (on xs lo hi) hz,_,0,(r.drop (HT.sIx xs.length 0 lo)).take (HT.sIx xs.length xs.length hi-HT.sIx xs.length 0 lo),Ah _ rfl⟩
def lq:V->Bool|.non=>true|.bl _=>true|.int _=>true|.str _=>true|_=>false
def eqV:V->V->Bool|.non,.non=>true|.bl a,.bl b=>a == b|.bl a,.int b=>(if a then 1 else 0) == b|.int a,.bl b=>a == (if b then 1 else 0)|.int a,.int b=>a == b|.str a,.str b=>a == b|_,_=>false
theorem MA(ry:RelV y u)(rx:RelV x v)(fy:lq y=true)(fx:lq x=true):SeqAt.EqAt A s u v (eqV y x):=by
 cases y with
 |non=>
  cases ry;cases x with
  |non=>cases rx;exact SeqAt.EqAt.same _
  |bl b=>cases rx;exact SeqAt.EqAt.none_bool b
  |int b=>obtain⟨t,rfl⟩:=rx;exact SeqAt.EqAt.none_int b t
  |str b=>obtain⟨t,rfl⟩:=rx;exact SeqAt.EqAt.none_str b t
  |_=>exact absurd (show false=true from fx) Qd
 |bl a=>
  cases ry;cases x with
  |non=>cases rx;exact SeqAt.EqAt.bool_none a
  |bl b=>cases rx;exact SeqAt.EqAt.bool_bool a b
  |int b=>obtain⟨t,rfl⟩:=rx;exact SeqAt.EqAt.bool_int a b t
  |str b=>obtain⟨t,rfl⟩:=rx;exact SeqAt.EqAt.bool_str a b t
  |_=>exact absurd (show false=true from fx) Qd
 |int a=>
  obtain⟨t',rfl⟩:=ry;cases x with
  |non=>cases rx;exact SeqAt.EqAt.int_none a t'
  |bl b=>cases rx;exact SeqAt.EqAt.int_bool a t' b
  |int b=>obtain⟨t,rfl⟩:=rx;exact SeqAt.EqAt.int_int a t' b t
  |str b=>obtain⟨t,rfl⟩:=rx;exact Cj a t' b t
  |_=>exact absurd (show false=true from fx) Qd
 |str a=>
  obtain⟨t',rfl⟩:=ry;cases x with
  |non=>cases rx;exact SeqAt.EqAt.str_none a t'
  |bl b=>cases rx;exact SeqAt.EqAt.str_bool a t' b
  |int b=>obtain⟨t,rfl⟩:=rx;exact Ci a t' b t
  |str b=>obtain⟨t,rfl⟩:=rx;exact SeqAt.EqAt.str_str a t' b t
  |_=>exact absurd (show false=true from fx) Qd
 |_=>exact absurd (show false=true from fy) Qd
def eqU(x:V)(u:Value):Bool:=match u with|.none=>eqV .non x|.bool b=>eqV (.bl b) x|.int i _=>eqV (.int i) x|.str z _=>eqV (.str z) x|_=>false
theorem Fg(r:RelV y u)(f:lq y=true):eqU x u=eqV y x:=by
 cases y with
 |non=>cases r;rfl
 |bl b=>cases r;rfl
 |int i=>obtain⟨t,rfl⟩:=r;rfl
 |str z=>obtain⟨t,rfl⟩:=r;rfl
 |_=>exact absurd (show false=true from f) Qd
theorem mE:∀{xs:List V}{us:List Value},Vals xs us->xs.all lq=true->us.any (eqU x)=xs.any fun y=>eqV y x
 |_,_,.nil,_=>rfl
 | y::xs,u::us,.cons r t,f=>by
  rw[BL,Vi]at f;rw[Bj,Bj,Fg r f.1,mE t f.2]
theorem jP(rx:RelV x v)(fx:lq x=true):∀{xs:List V}{us:List Value},Vals xs us->xs.all lq=true->∀u∈us,SeqAt.EqAt A s u v (eqU x u)
 |_,_,.nil,_=>fun u hu=>by cases hu
 | y::xs,u::us,.cons r t,f=>fun u' hu=>by
  rw[BL,Vi]at f;rcases Wc.mp hu with rfl|hu
  ·rw[Fg r f.1];exact MA r rx f.1 fx
  ·exact jP rx fx t f.2 u' hu
def inV(x:V)(xs:List V):Bool:=xs.any fun y=>eqV y x
def rIn(K:Ab)(neg:Bool):R2:=fun x y H Q=>∃p xs,y=.ref p/\(SqL K H p xs\/SqT K H p xs)/\lq x=true/\xs.all lq=true/\Q (.bl (if neg then !inV x xs else inV x xs)) H
def DD:OpR X (compareOp .In) (rIn X.K false):=by
 intro pins s σ H x y v u Q I rx ry h;obtain⟨p,xs,rfl,hq,fx,fs,q⟩:=h;cases ry;rcases hq with hq|hq
 ·obtain⟨its,r,pl,hz⟩:=I.list hq;refine SeqAt.in_listAt (eqU x) pl.isList (fun w hw=>jP rx fx r fs w (by simpa using hw)) ⟨.bl _,H,I,rfl,?_⟩
  rw[show its.toArray.any (eqU x)=its.any (eqU x) by simp,mE r fs]
  exact q
 ·obtain⟨its,r,pl,hz⟩:=I.tuple hq;refine CJ (eqU x) pl (fun w hw=>jP rx fx r fs w (by simpa using hw)) ⟨.bl _,H,I,rfl,?_⟩
  rw[show its.toArray.any (eqU x)=its.any (eqU x) by simp,mE r fs]
  exact q
def tz:OpR X (compareOp .NotIn) (rIn X.K true):=by
 intro pins s σ H x y v u Q I rx ry h;obtain⟨p,xs,rfl,hq,fx,fs,q⟩:=h;cases ry;rcases hq with hq|hq
 ·obtain⟨its,r,pl,hz⟩:=I.list hq;refine SeqAt.notIn_listAt (eqU x) pl.isList (fun w hw=>jP rx fx r fs w (by simpa using hw)) ⟨.bl _,H,I,rfl,?_⟩
  rw[show its.toArray.any (eqU x)=its.any (eqU x) by simp,mE r fs]
  exact q
 ·obtain⟨its,r,pl,hz⟩:=I.tuple hq;refine SeqAt.notIn_tupleAt (eqU x) pl (fun w hw=>jP rx fx r fs w (by simpa using hw)) ⟨.bl _,H,I,rfl,?_⟩
  rw[show its.toArray.any (eqU x)=its.any (eqU x) by simp,mE r fs]
  exact q
def tD:CallR X (.builtin "len") (fun xs H Q=>∃p ys,xs=[.ref p]/\(SqL X.K H p ys\/SqT X.K H p ys)/\Q (.int ys.length) H):=by
 intro pins s σ H xs us Q I r h;obtain⟨p,ys,rfl,hq,q⟩:=h;obtain⟨u,rfl,rx⟩:=vals1 r;cases rx;have hn:=nI;rcases hq with hq|hq
 ·obtain⟨its,r',pl,hz⟩:=I.list hq;have hlen:=r'.length;exact Calls.call_len_list pl.isList (by simp only[Xc]<;>lia) ⟨.int ys.length,H,I.tok _,⟨s.toks+1,by rw[Xc,hlen]⟩,q⟩
 ·obtain⟨its,r',pl,hz⟩:=I.tuple hq;have hlen:=r'.length;exact len_tuple pl (by simp only[Xc]<;>lia) ⟨.int ys.length,H,I.tok _,⟨s.toks+1,by rw[Xc,hlen]⟩,q⟩
def tE:CallR X (.builtin "len") (fun xs H Q=>∃z,xs=[.str z]/\z.length<=sizeLine/\Q (.int z.length) H):=by
 intro pins s σ H xs us Q I r h;obtain⟨z,rfl,hz,q⟩:=h;obtain⟨u,rfl,t,rfl⟩:=vals1 r;have hn:=nI;exact len_str (by lia) ⟨.int z.length,H,I.tok _,⟨_,rfl⟩,q⟩
def CallR.or(h:CallR X f r)(h':CallR X f r'):CallR X f (fun xs H Q=>r xs H Q\/r' xs H Q):=by
 intro pins s σ H xs us Q I rs q;rcases q with q|q
 ·exact h pins s σ H xs us Q I rs q
 ·exact h' pins s σ H xs us Q I rs q
def tF:CallR X (.type "list") (fun xs H Q=>∃p ys,xs=[.ref p]/\(SqL X.K H p ys\/SqT X.K H p ys)/\∀l,H l=none->Q (.ref l) (upd H l (.lst ys))):=by
 intro pins s σ H xs us Q I r h;obtain⟨p,ys,rfl,hq,q⟩:=h;obtain⟨u,rfl,rx⟩:=vals1 r;cases rx;have fin:∀(its:List Value),Vals ys its->ys.length<=sizeLine->∀(h':Heap)(c':Nat),(∀b o',s.heap.get? b=some o'->h'.get? b=some o')->
   h'.get? s.heap.objs.size=some { cls:=.type "list",dict:=none,data:=.seq its.toArray c',slots:=#[] }->EP X pins σ Q (.ref s.heap.objs.size) { s with heap:=h' }:=fun its r' hz h' c' kp e=>
  ⟨.ref s.heap.objs.size,_,I.laid (t':=s.toks) kp (Wb _) (show ObjOk X.prog X.w _ h' _ (.lst ys) from⟨hz,its,c',r',e⟩),rfl,q _ (I.hok.fresh (Wb _))⟩
 rcases hq with hq|hq
 ·obtain⟨its,r',pl,hz⟩:=I.list hq;have hlen:=r'.length;obtain⟨o,ho,hc,n,hd⟩:=pl.isList;exact call_list_seq p (.inl rfl) ho hc hd (fun h' c' kp e=>fin its r' hz h' c' kp e) (by simp only[Xc]<;>lia)
 ·obtain⟨its,r',pl,hz⟩:=I.tuple hq;have hlen:=r'.length;obtain⟨o,ho,hc,n,hd⟩:=pl;exact call_list_seq p (.inr rfl) ho hc hd (fun h' c' kp e=>fin its r' hz h' c' kp e) (by simp only[Xc]<;>lia)
def q8:CallR X (.type "tuple") (fun xs H Q=>∃p ys,xs=[.ref p]/\((SqL X.K H p ys/\∀l,H l=none->Q (.ref l) (upd H l (.tup ys)))\/(SqT X.K H p ys/\Q (.ref p) H))):=by
 intro pins s σ H xs us Q I r h;obtain⟨p,ys,rfl,h⟩:=h;obtain⟨u,rfl,rx⟩:=vals1 r;cases rx;rcases h with⟨hq,q⟩|⟨hq,q⟩
 ·obtain⟨its,r',pl,hz⟩:=I.list hq;have hlen:=r'.length;refine call_tuple_list pl.isList (fun h' kp=>?_) (by simp only[Xc]<;>lia)
  have I1:Inv X pins σ H { s with heap:=h' }:=I.kept (t':=s.toks) kp;have I2:Inv X pins σ (upd H h'.objs.size (.tup ys)) { s with heap:=h'.push { cls:=.type "tuple",data:=.seq its.toArray } } :=
   I1.laid (t':=s.toks) (fun b o e=>Ac _ e) (Wb _) (show ObjOk X.prog X.w _ _ _ (.tup ys) from⟨hz,its,r',IsTup.new _ _⟩)
  exact⟨.ref h'.objs.size,_,I2,rfl,q _ (I1.hok.fresh (Wb _))⟩
 ·obtain⟨its,r',pl,hz⟩:=I.tuple hq;exact call_tuple_same pl ⟨.ref p,H,I,rfl,q⟩
def tyV(K:Ab)(T:String)(x:V)(H:Hp):Prop:=match x with
 |.str _=>T="str"
 |.int _=>T="int"
 | .ref p=>(T="list"/\∃xs,SqL K H p xs)\/(T="tuple"/\∃o,K.lookup p=some o/\o.cls=.type "tuple"/\o.dict=none) \/
   (T="dict"/\((∃kvs,H p=some (.dK kvs))\/∃ep kvs,H p=some (.dT ep kvs)))\/(T="set"/\∃S n,H p=some (.set S n))
 |_=>False
def MB{s:Shared}(I:Inv X pins σ H s)(r:RelV x v)(ty:tyV X.K T x H) :
  s.TypeIs v T/\∀a,v=.ref a->∃ob,s.heap.get? a=some ob/\ob.dict=none:=by
 cases x with
 |str z=>
  obtain⟨t,rfl⟩:=r;cases (show T="str" from ty);exact⟨CW s z t,fun _ e=>nomatch e⟩
 |int i=>
  obtain⟨t,rfl⟩:=r;cases (show T="int" from ty);exact⟨typeIs_int s i t,fun _ e=>nomatch e⟩
 |ref p=>
  cases r;rcases ty with⟨rfl,xs,hq⟩|⟨rfl,o,hk,hc,hd⟩|⟨rfl,hk⟩|⟨rfl,S,n,hk⟩
  ·obtain⟨its,_,pl,_⟩:=I.list hq;refine⟨pl.isList.typeIs,fun a e=>?_⟩;cases e;obtain⟨o,n,e,c,hd,_⟩:=pl;exact⟨o,e,hd⟩
  ·refine⟨⟨o,I.kIn p o hk,hc⟩,fun a e=>?_⟩;cases e;exact⟨o,I.kIn _ o hk,hd⟩
  ·have z:∃o,s.heap.get? p=some o/\o.ExactDict:=by
    rcases hk with⟨kvs,hk⟩|⟨ep,kvs,hk⟩
    ·obtain⟨_,_,_,_,o,_,_,e,ex,_⟩:=I.hok p _ hk;exact⟨o,e,ex⟩
    ·obtain⟨_,_,_,_,_,o,_,e,ex,_⟩:=I.hok p _ hk;exact⟨o,e,ex⟩
   obtain⟨o,e,ex⟩:=z;refine⟨⟨o,e,ex.1⟩,fun a e2=>?_⟩;cases e2;exact⟨o,e,ex.2.1⟩
  ·obtain⟨o,_,_,_,e,ex,_⟩:=I.hok p _ hk;refine⟨⟨o,e,ex.1⟩,fun a e2=>?_⟩;cases e2;exact⟨o,e,ex.2.1⟩
 |_=>exact False.elim ty
def tBM(K:Ab)(T:String)(r:V->List V->Hp->VK->Prop)(to:TE)(t:TA):TE:=fun σ H Q=>to σ H fun x H1=>tyV K T x H1/\t σ H1 fun xs H2=>r x xs H2 Q
variable {o e:Expr}{es:List Expr}{to:TE}{t:TA}{name:Str}{apos cpos:Pos}{T id:String}{r:V->List V->Hp->VK->Prop}
def mF(pa:PlainAttrs T)(slot:Slot T name id)(hty:typeOf (.builtin id)=pure (.type "method_descriptor"))(hm:MtR X id r)(ho:PE X o to)(ha:PA X (e::es) t)
  (hbase:attributeBase o name X.env (eval o X.env)=eval o X.env:=by rfl)
  (hfew:((backTo cpos (starEach (e::es) X.env)).all (fun x=>!x.1)&&(backToKw cpos (keywordEach [] X.env)).all (fun x=>x.1.isSome)
   && decide ((e::es).length+([]:List Keyword).length+(if ([]:List Keyword).isEmpty then 0 else 1)<30))=true:=by rfl)
  (hline:(apos.endLine == cpos.line)=true:=by rfl) (hs:starEach (e::es) X.env=(false,eval e X.env)::starEach es X.env:=by rfl) (hplain:(backTo cpos (starEach es X.env)).any (·.1)=false:=by rfl) :
  PE X (.Call (.Attribute o name apos) (e::es) [] cpos) (tBM X.K T r to t):=by
 intro pins s σ H Q I h;refine wpAny_Call_method_late hbase hfew hline rfl (thn (ho pins s σ H _ I h) fun v s1 zz9=>?_);obtain⟨x,H1,I1,r1,ty,q1⟩:=zz9;obtain⟨h1,h2⟩:=MB I1 r1 ty;refine⟨T,id,pa,slot,hty,h1,h2,?_⟩;have hA:=ha cpos pins s1 σ H1 _ I1 q1;rw[hs]at hA ⊢;refine Calls.callWith_builtin (by show(false||(backTo cpos (starEach es X.env)).any (·.1))=false;rw[hplain]<;>rfl) (Calls.evalArgs_plain ?_)
 exact thn hA fun us s2 ⟨vs,H2,I2,r2,q2⟩=>hm pins s2 σ H2 x vs v us Q I2 r1 r2 q2
end
end L2
namespace L2
open PySem PySem.Spec PyProof.Rows
def MtM(X:Cx)(id:String)(r:V->List V->Hp->VK->Prop):Prop :=
 ∀(pins:List (Addr×Obj))(s:Shared)(σ:St)(H:Hp)(x:V)(xs:List V)(v:Value)(us:List Value)(Q:VK),Inv X pins σ H s->RelV x v->Vals xs us->r x xs H Q->
  wpAny (model X.prog X.w) X.A (call (.builtin id) (v::us)) (EP X pins σ Q) X.xe s
theorem Vals.one:∀{x:V}{us:List Value},Vals [x] us->∃u,us=[u]/\RelV x u|_,_,.cons r .nil=>⟨_,rfl,r⟩
theorem Vals.eraseIdx:∀{xs:List V}{us:List Value}(i:Nat),Vals xs us->Vals (xs.eraseIdx i) (us.eraseIdx i)|_,_,_,.nil=>.nil|_,_,0,.cons _ t=>t|_,_,i+1,.cons r t=>.cons r (Vals.eraseIdx i t)
theorem rM:∀(l:List α)(i:Nat),(l.eraseIdx i).length<=l.length|[],_=>Wb _|_::_,0=>Nat.le_succ _|_::r,i+1=>CK (rM r i)
section
variable {X:Cx}{pins:List (Addr×Obj)}{σ:St}{H:Hp}{s:Shared}{l b:Addr}{xs ys zs:List V}
def Inv.lset{its its':List Value}{t':Nat}(I:Inv X pins σ H s)(hH:H l=some (.lst xs))
  (e:s.heap.get? l=some { cls:=.type "list",data:=.seq its.toArray n })(hf:f its.toArray=its'.toArray)(hv:Vals ys its')(hz:ys.length<=sizeLine) :
  Inv X pins σ (upd H l (.lst ys)) { s with heap:=s.heap.update l (Obj.mapSeq f),toks:=t' }:=by
 have q:=PySem.IsL.update e f;rw[hf]at q;refine I.write (x:=l) (e:=l) (by rw[hH];exact trivial) (.inl rfl) (fun b' u hb hu=>(AM s.heap (Obj.mapSeq f) (Au hb)).trans hu) ⟨_,q⟩ ?_
 exact⟨hz,its',_,hv,q⟩
def Inv.lnew{t':Nat}(I:Inv X pins σ H s)(hv:Vals ys its)(hz:ys.length<=sizeLine) :
  Inv X pins σ (upd H s.heap.objs.size (.lst ys)) { s with heap:=s.heap.push { cls:=.type "list",data:=.seq its.toArray },toks:=t' } :=
 I.laid (fun _ _ q=>Ac _ q) (Wb _) ⟨hz,its,0,hv,Ah _ rfl⟩
theorem Inv.fresh(I:Inv X pins σ H s):H s.heap.objs.size=none:=I.hok.fresh (Wb _)
def Inv.lstM(I:Inv X pins σ H s)(hH:H l=some (.lst xs)):xs.length<=sizeLine/\∃(its:List Value)(n:Nat),Vals xs its/\xs.length=its.length/\s.heap.get? l=some { cls:=.type "list",data:=.seq its.toArray n }:=by
 obtain⟨z,its,n,r,e⟩:=I.hok l _ hH;exact⟨z,its,n,r,r.length,e⟩
def vh(h:n<=sizeLine):Builtin.List.listTooLong n=false:=by
 unfold Builtin.List.listTooLong;exact Af (by lia)
end
section
variable {X:Cx}
def tG:V->List V->Hp->VK->Prop:=fun x vs H Q=>∃l xs y,x=.ref l/\vs=[y]/\H l=some (.lst xs)/\xs.length<sizeLine/\Q .non (upd H l (.lst (xs++[y])))
def DE:MtM X "list.append" tG:=by
 intro pins s σ H x vs v us Q I rx rv h;obtain⟨l,xs,y,rfl,rfl,hH,hz,q⟩:=h;cases rx;obtain⟨u,rfl,ru⟩:=rv.one;obtain⟨z,its,n,r,hl,e⟩:=I.lstM hH;refine BT F.slot_list_append ⟨_,e,rfl⟩ F.entry_list_append (F.args_list_append_2 _ _) (PySem.list_append l its.toArray n u (by rw[Xc];lia)) ⟨e,?_⟩
 refine⟨.non,_,I.lset (its':=its++[u]) hH e (by simp) (r.append (.cons ru .nil)) ?_,rfl,q⟩
 rw[Xa,We];lia
def yr:V->List V->Hp->VK->Prop:=fun x vs H Q=>∃l b xs zs,x=.ref l/\vs=[.ref b]/\H l=some (.lst xs)/\H b=some (.lst zs)/\xs.length+zs.length<=sizeLine/\Q .non (upd H l (.lst (xs++zs)))
def DF:MtM X "list.extend" yr:=by
 intro pins s σ H x vs v us Q I rx rv h;obtain⟨l,b,xs,zs,rfl,rfl,hH,hB,hz,q⟩:=h;cases rx;obtain⟨u,rfl,ru⟩:=rv.one;cases ru;obtain⟨z,its,n,r,hl,e⟩:=I.lstM hH;obtain⟨z2,its2,n2,r2,hl2,e2⟩:=I.lstM hB;have hsz:its.toArray.size+its2.toArray.size<=sizeLine:=by rw[Xc,Xc];lia
 have hlong:¬ (!its.toArray.isEmpty&&Builtin.List.listTooLong (its.toArray.size+its2.toArray.size))=true:=by
  rw[vh hsz,Bool.and_false];exact Qd
 refine BT F.slot_list_extend ⟨_,e,rfl⟩ F.entry_list_extend (F.args_list_extend_2 _ _)
  (AutoSeq1.list_extend_list_list_0 l its.toArray n b its2.toArray n2 hlong (by rw[Xc];lia) (by lia)) ⟨e,e2,?_⟩
 refine⟨.non,_,I.lset (its':=its++its2) hH e (by simp) (r.append r2) ?_,rfl,q⟩
 rw[Xa];lia
def Fh:V->List V->Hp->VK->Prop:=fun x vs H Q=>∃l xs i k y,x=.ref l/\vs=[.int i]/\H l=some (.lst xs)/\-(2 ^ 63)<=i/\i<2 ^ 63/\seqIndex? i xs.length=some k/\xs[k]?=some y/\Q y (upd H l (.lst (xs.eraseIdx k)))
def Fi:MtM X "list.pop" Fh:=by
 intro pins s σ H x vs v us Q I rx rv h;obtain⟨l,xs,i,k,y,rfl,rfl,hH,h1,h2,hk,hy,q⟩:=h;cases rx;obtain⟨u,rfl,ru⟩:=rv.one;obtain⟨t,rfl⟩:=ru;obtain⟨z,its,n,r,hl,e⟩:=I.lstM hH;obtain⟨w,hw,rw'⟩:=r.get hy;refine BT F.slot_list_pop ⟨_,e,rfl⟩ F.entry_list_pop (F.args_list_pop_2 _ _)
  (MeetsSeq.list_pop_at l its.toArray n i t k w (fitsIndex_both h1 h2) (by rw[Xc,<-hl];exact hk) (by rw[<-Qi];exact hw) (by rw[Xc];lia)) ⟨e,?_⟩
 refine⟨y,_,I.lset (its':=its.eraseIdx k) hH e ?_ (r.eraseIdx k) ?_,rw',q⟩
 ·show its.toArray.eraseIdxIfInBounds k=(its.eraseIdx k).toArray;rw[List.eraseIdxIfInBounds_toArray]
 ·have:=rM xs k;lia
def MC:R2:=fun x y H Q=>∃l b xs zs,x=.ref l/\y=.ref b/\H l=some (.lst xs)/\H b=some (.lst zs)/\xs.length+zs.length<=sizeLine/\∀p,H p=none->Q (.ref p) (upd H p (.lst (xs++zs)))
def op_cat:OpR X (binaryOp .Add) MC:=by
 intro pins s σ H x y v u Q I rx ry h;obtain⟨l,b,xs,zs,rfl,rfl,hH,hB,hz,q⟩:=h;cases rx;cases ry;obtain⟨z,its,n,r,hl,e⟩:=I.lstM hH;obtain⟨z2,its2,n2,r2,hl2,e2⟩:=I.lstM hB;refine PySem.P.add_list e e2 ?_ (by rw[Xc,Xc];lia)
 have ea:its.toArray++its2.toArray=(its++its2).toArray:=by simp
 rw[ea];exact⟨.ref _,_,I.lnew (t':=s.toks) (r.append r2) (by rw[Xa];lia),rfl,q _ I.fresh⟩
end
end L2
namespace Att
open PySem PySem.W PySem.Calls PyProof.Rows
theorem oI:∀(ns:List Int)(vs:List Value),WellAll P h vs (ns.map WData.int)->IntsAre vs ns:=by
 intro ns;induction ns with
 |nil=>
  intro vs w;rw[CB]at w;cases w;exact .nil
 |cons n ns ih=>
  intro vs w;rw[Yh]at w;cases w with
  |cons a b=>
   cases a;exact .cons _ _ (ih _ b)
def DG{l:OpenLaw}(hn:l.most=some n){h:Heap}
  (hpre:l.row.toRowW.claim.pre args=true)(hwl:WellAll P h vals args) :
  ∃a vs ns,vals=[Value.ref a]/\args=[WData.list (ns.map WData.int)]/\h.get? a=some { cls:=.type "list",data:=.seq vs.toArray }/\IntsAre vs ns/\ns.length<=n:=by
 have hsh:WShape.hasAll [] args [.list .int]=true:=(pre_splitW hpre).1;have hc:l.pre.holds [] { args:=args }=true:=(pre_splitW hpre).2;obtain⟨d,r,rfl,h1,h2⟩:=hasAllW_cons hsh;obtain rfl:=hasAllW_nil h2;obtain⟨xs,rfl,h3⟩:=hasW_list h1;obtain⟨ns,rfl⟩:=items_int h3;have hlen:ns.length<=n:=by
  unfold OpenLaw.pre at hc;have h4:(WTm.not (.lt (.lit (.int (n:Int))) (.len (.arg 0)))).holds [] { args:=[.list (ns.map .int)] }=true:=by
   have h4:=(holds_andW hc).1;rw[hn]at h4;exact h4
  have h5:=condW_of h4 (w_not (w_lt w_lit (w_len_list (w_arg rfl))));rw[Za]at h5;refine BP fun q=>?_;have q':(n:Int)<((ns.length:Nat):Int):=by lia
  first
   | (rw[Ae q']at h5;exact absurd h5 (by decide))
   | (simp at h5;lia)
 cases hwl with
 |cons w1 w2=>
  cases w2;cases w1 with|list ho hall=>exact⟨_,_,ns,rfl,rfl,ho,oI ns _ hall,hlen⟩
def DH(l:OpenLaw)(args:List WData):l.row.toRowW.claim.post args (.bool true) args=true :=
 postW_of (r:=l.row.toRowW) (X:=(true == true))
  (show WShape.has [] (.bool true) .bool=true by first|rfl|decide|simp[WShape.has,WShape.arms,WShape.armsAll])
  (show(WTm.eq .res (.lit (.bool true))).value [] { args:=args,res:=some (.bool true),after:=args }=some (.bool (true == true)) from w_eq_bool (w_res rfl) w_lit) rfl
def attach_call{l:OpenLaw}{d:DefRec}
  (hn:l.most=some n)(hdf:d.params.defaults=[])
  (call:∀(w:World)(s₀ s₁:Shared)(mg mb:Str->Option Value)(fa:Addr)(o:Obj)(pm cd doc:Value)(a:Addr)(vs:List Value)(ns:List Int),
   Ground q loose [] XP w s₀ mg mb s₁.heap->YP w s₁.heap->
   s₁.heap.get? fa=some o->o.data=.func (docDef d.name d.params d.body d.scope pm cd doc)->s₁.heap.CodeRec cd d.name->mg d.name=some (.ref fa)->
   s₁.heap.get? a=some { cls:=.type "list",data:=.seq vs.toArray }->IntsAre vs ns->ns.length<=n->s₁.gens=#[]->
   codeAny (model l.prog w) callerA (.call (.ref fa) ⟨[.ref a],[]⟩) (fun r s'=>r=.ok (.ret (.bool true))/\OldK s₁.heap s'.heap/\s'.os=s₁.os/\AllBare s'.gens) s₁) :
  WalkO q loose XP YP l.row.toRowW d [] (fun f vs=>PySem.call f vs):=by
 intro w s₀ s₁ mg mb G Y fa o pm cd doc dV kV ho hd hcd hD hmg hg args vals as hpre hlay hrd hwl hlo;obtain rfl:dV=.none:=Dflts.none hD hdf;obtain rfl:kV=.none:=Dflts.noKw hD;obtain⟨a,vs,ns,rfl,rfl,hobj,hints,hlen⟩:=DG hn hpre hwl;refine enter_call (Ct (call w s₀ s₁ mg mb fa o pm cd doc a vs ns G Y ho (fd_plain hd) hcd hmg hobj hints hlen hg) fun r s' hq=>?_);obtain⟨rfl,h2,h3,h4⟩:=hq;exact⟨.inl ⟨.bool true,.bool true,[],rfl,fun _=>rfl,.bool true,DH l _,fun _=>⟨List.Pairwise.nil,fun _ hm=>(nomatch hm)⟩⟩,h2,h3,h4⟩
end Att
namespace L2
open PySem PySem.Spec PyProof.Rows
theorem rN:∀{vs:List Value}{ns:List Int},IntsAre vs ns->Vals (ns.map V.int) vs|_,_,.nil=>.nil|_,_,.cons n t h=>.cons ⟨t,rfl⟩ (rN h)
def MD(H:Hp):Prop:=∀b,H b=none\/∃o xs,H b=some (.frz o (.lst xs))
def Fj{K:Ab}{s₁:Shared}{vs:List Value}{ns:List Int}
  (KX:K.In s₁.heap)(hns:s₁.heap.Ns mainGlobals mg)(hb:s₁.heap.Ns builtinsNs mb)(hbb:∀x:Str,x≠"__name__"->mb x=bootBuiltins x)(hlim:s₁.heap.NoLimit)(hg:s₁.gens=#[])
  (ha:s₁.heap.get? a=some { cls:=.type "list",data:=.seq vs.toArray }) (hi:IntsAre vs ns) (hl:ns.length<=sizeLine) (hr:Room k callerA)
  (F:∀base:Heap,K.In base->base.Ns mainGlobals mg->FnOk P w K mg base CX k fa fd [x] sp) (hbind:∀(s:Shared)(u:Value),BindsTo s fd ⟨[u],[]⟩ [(x,u)])
  (hsp:∀H:Hp,MD H->SqL K H a (ns.map V.int)->sp [.ref a] H (fun v _=>v=.bl true) fun _ _ _=>False)
  (hCX:∀H e s',CX [] H s₁ (fun _ _ _=>False) e s'->False) :
  codeAny (model P w) callerA (.call (.ref fa) ⟨[.ref a],[]⟩) (fun r s'=>r=.ok (.ret (.bool true))/\OldK s₁.heap s'.heap/\s'.os=s₁.os/\AllBare s'.gens) s₁:=by
 have rv:=rN hi;have MW:=hi.length;have core:∀H:Hp,MD H->SqL K H a (ns.map V.int)->HOk P w H s₁.heap->(∀b,H b≠none->b=a)->(H a≠none->K.lookup a=none)->
   codeAny (model P w) callerA (.call (.ref fa) ⟨[.ref a],[]⟩) (fun r s'=>r=.ok (.ret (.bool true))/\OldK s₁.heap s'.heap/\s'.os=s₁.os/\AllBare s'.gens) s₁:=by
  intro H hO hS hok hA hK;have base_of:∀{b:Addr}{o:Obj},s₁.heap.get? b=some o->H b=none->(sZ s₁.heap H).get? b=some o:=fun e n=>EL e n;have noA:∀{b:Addr}{o:Obj}{es:Array DictEntry}{ep:Nat},s₁.heap.get? b=some o->o.data=.dict es ep->H b=none:=fun {b o es ep} e d=>by
   cases q:H b with
   |none=>rfl
   |some u=>
    have e':b=a:=hA b (by rw[q];simp)
    subst e';rw[ha]at e;cases e;have d':Data.seq vs.toArray _=Data.dict es ep:=d;cases d'
  have nsK:∀{b:Addr}{m:Str->Option Value},s₁.heap.Ns b m->(sZ s₁.heap H).Ns b m:=fun {b m} ⟨o,es,ep,e,d,r⟩=>⟨o,es,ep,base_of e (noA e d),d,r⟩
  have hKb:K.In (sZ s₁.heap H):=fun b o e=>base_of (KX b o e) (by
   cases q:H b with
   |none=>rfl
   |some u=>
    have e':b=a:=hA b (by rw[q];simp)
    subst e'
    rw[hK (by rw[q];simp)]at e;cases e)
  have hM:Mod K mg (sZ s₁.heap H):=⟨hKb,nsK hns,⟨mb,nsK hb,hbb⟩,let ⟨mc,h1,h2⟩:=hlim;⟨mc,nsK h1,h2⟩⟩;have e0:Env0 P w K mg (sZ s₁.heap H) callerA [] s₁ H:=⟨rfl,hM,fun b o e=>IY e,Nat.le_of_eq (z9 _ _),trivial,fun b hb=>absurd (show b∈([]:List Addr) from hb) (by simp),hok,.of_eq hg⟩
  refine Ct ((F _ hKb (nsK hns)).run callerA [] s₁ H ⟨[.ref a],[]⟩ [.ref a] [.ref a] _ _ hr e0 (hbind s₁ (.ref a)) (.cons rfl .nil) (hsp H hO hS)) fun r s' h=>?_;cases r with
  |error e=>exact(hCX H e s' h).elim
  |ok fl=>
   cases fl with
   |next=>exact False.elim h
   |brk=>exact False.elim h
   |cont=>exact False.elim h
   |ret u=>
    obtain⟨v,H',os,bare,un,hok',r',q⟩:=h;have q':v=.bl true:=q;subst q';obtain rfl:u=Value.bool true:=r';refine⟨rfl,OldK.of_keep fun b o e=>?_,os,bare⟩;cases q:H b with
    |none=>exact un.keep b o e q (by intro z;exact absurd (show b∈([]:List Addr) from z) (by simp)) (by simp)
    |some u=>
     rcases hO b with z|⟨ob,xs,z⟩
     ·rw[q]at z;cases z
     ·have z2:=un.frzs b ob _ z;obtain⟨e1,_⟩:=hok b _ z;obtain⟨e2,_⟩:=hok' b _ z2;rw[e]at e1;cases e1;exact e2
 cases hk:K.lookup a with
 |some o=>
  have e:=KX a o hk;rw[ha]at e;cases e;refine core (fun _=>none) (fun _=>.inl rfl) (.inr ⟨_,vs.toArray,_,hk,rfl,rfl,rfl,by rw[Xc,MW];exact hl,by simpa using rv⟩) (fun b u z=>by have z':(none:Option HO)=some u:=z;cases z') (fun b z=>absurd rfl z) fun z=>absurd rfl z
 |none=>
  refine core (fun b=>if b=a then some (.frz { cls:=.type "list",data:=.seq vs.toArray } (.lst (ns.map V.int))) else none) (fun b=>?_) (.inl (.inr ⟨{ cls:=.type "list",data:=.seq vs.toArray },Ag rfl⟩)) (fun b u z=>?_) (fun b z=>?_) fun _=>hk
  ·by_cases hb:b=a
   ·exact .inr ⟨_,_,Ag hb⟩
   ·exact .inl (Aj hb)
  ·by_cases hb:b=a
   ·have z':=(Ag hb).symm.trans z;cases z';subst hb;exact⟨ha,by rw[Za];exact hl,vs,_,rv,ha⟩
   ·have z':=(Aj hb).symm.trans z;cases z'
  ·by_cases hb:b=a
   ·exact hb
   ·exact absurd (Aj hb) z
def walk_of{l:PySem.W.OpenLaw}{n k:Nat}{loose:List Str}{XP:(Str->Option Value)->Heap->Prop}{YP:World->Heap->Prop}{d:DefRec}{K:Params->Ab}{CX:World->CXT}{sp:World->Sp}{x:Str}
  (hn:l.most=some n)(hn2:n<=sizeLine)(hdf:d.params.defaults=[])(hr:Room k callerA)
  (hY:∀(w:World)(h:Heap),YP w h->(K w.params).In h)
  (F:∀(w:World)(mg:Str->Option Value)(fa:Addr)(h:Heap),(K w.params).In h->h.Ns mainGlobals mg->mg d.name=some (.ref fa)->
   ∃fd:FuncData,(∀(s:Shared)(u:Value),BindsTo s fd ⟨[u],[]⟩ [(x,u)]) /\
    ∀base:Heap,(K w.params).In base->base.Ns mainGlobals mg->FnOk l.prog w (K w.params) mg base (CX w) k fa fd [x] (sp w))
  (hsp:∀(w:World)(H:Hp)(a:Addr)(ns:List Int),ns.length<=n->MD H->SqL (K w.params) H a (ns.map V.int)->sp w [.ref a] H (fun v _=>v=.bl true) fun _ _ _=>False)
  (hCX:∀(w:World)(H:Hp)(s:Shared)(e:Value)(s':Shared),CX w [] H s (fun _ _ _=>False) e s'->False) :
  PySem.W.WalkO q loose XP YP l.row.toRowW d [] (fun f vs=>PySem.call f vs):=by
 refine Att.attach_call hn hdf fun w s₀ s₁ mg mb fa o pm cd doc a vs ns G Y ho hd hcd hmg hobj hints hlen hg=>?_;have KX:=hY w _ Y;obtain⟨fd,hb,hF⟩:=F w mg fa _ KX G.T.g hmg;exact Fj KX G.T.g G.T.b G.T.builtins G.T.nolimit hg hobj hints (Ve hlen hn2) hr hF hb (fun H hO hS=>hsp w H a ns hlen hO hS) fun H e s'=>hCX w H s₁ e s'
end L2
namespace L2
open PySem PySem.Spec PyProof.Rows
def ft(s:Stmt):Arguments:=match s with|.FunctionDef _ a _ _ _ _ _ _ _ _=>a|_=>{ posonlyargs:=[],args:=[],vararg:=none,kwonlyargs:=[],kw_defaults:=[],kwarg:=none,defaults:=[] }
def dr(s:Stmt):List Stmt:=match s with|.FunctionDef _ _ b _ _ _ _ _ _ _=>b|_=>[]
def ak(s:Stmt):Scope:=match s with|.FunctionDef _ _ _ _ _ _ sc _ _ _=>sc|_=>{ kind:=.function,names:=[],isGenerator:=false,isCoroutine:=false }
abbrev CX0:CXT:=fun _ _ _ _ _ _=>False
abbrev E0:XK:=fun _ _ _=>False
def Lk:wQ CX0 X E0:=fun _ _ _ _ _ _ _ h=>h.elim
structure Fun(K:Ab)(x qual:Str)(st:Stmt)(f:Addr)(fd:FuncData):Prop where
 ex:∃(oc:Value)(od:Option Addr)(kV doc pm:Value)(an:Option Addr)(cdv ct:Value)(osl:Array (Option Value)),
  fd=PySem.W.fnOf x qual (ft st) (dr st) (ak st) .none kV doc pm an cdv ct/\K.lookup f=some ⟨oc,od,.func fd,osl⟩/\PySem.W.codeIn K cdv qual=true
 kp:PySem.W.keepIn K (.ref f)=true
section
variable {P:Program}{w:World}{K:Ab}{mg:Str->Option Value}{base:Heap}
def Fun.ok{x qual:Str}{st:Stmt}{f:Addr}{fd:FuncData}{N ps:List Str}{k:Nat}{sp:Sp}(F:Fun K x qual st f fd)(S:FnScope N ps (ak st))(len:∀vs H Q E,sp vs H Q E->vs.length=ps.length)
  (hbody:∀(cdv:Value)(A:Around)(outer:List Env)(s:Shared)(H:Hp)(vs:List V)(Q:VK)(E:XK),Room k (A.deeper (envOfC qual (ak st) s.heap.objs.size f cdv))->sp vs H Q E->
   ∃t,PSs (va CX0 P w K mg base N qual (ak st) f cdv A outer s H E).nox (dr st) t/\t { nx:=fun _ H'=>Q .non H',rt:=Q } (start N vs) H):FnOk P w K mg base CX0 (k+1) f fd ps sp:=by
 obtain⟨oc,od,kV,doc,pm,an,cdv,ct,osl,rfl,lk,hcd⟩:=F.ex;refine Lg lk hcd S len fun A outer s H vs Q E hr hsp=>?_;obtain⟨t,h,q⟩:=hbody cdv A outer s H vs Q E hr hsp;exact⟨t,h.nox,q⟩
def Fun.binds{x qual:Str}{st:Stmt}{f:Addr}{fd:FuncData}{ps:List Str}(F:Fun K x qual st f fd)
  (h:∀(kV doc pm:Value)(an:Option Addr)(cdv ct:Value)(us:List Value),us.length=ps.length->bindArgs (PySem.W.fnOf x qual (ft st) (dr st) (ak st) .none kV doc pm an cdv ct) ⟨us,[]⟩=pure (ps.zip us)):Binds K fd ps []:=by
 obtain⟨oc,od,kV,doc,pm,an,cdv,ct,osl,rfl,lk,hcd⟩:=F.ex;exact .all (h kV doc pm an cdv ct)
def ME{x qual:Str}{st:Stmt}{f:Addr}{oc:Value}{od an:Option Addr}{osl:Array (Option Value)}{kV doc pm cdv ct:Value}(l:K.lookup f=some ⟨oc,od,.func (PySem.W.fnOf x qual (ft st) (dr st) (ak st) .none kV doc pm an cdv ct),osl⟩)
  (c:PySem.W.codeIn K cdv qual=true)(k:PySem.W.keepIn K (.ref f)=true):Fun K x qual st f (PySem.W.fnOf x qual (ft st) (dr st) (ak st) .none kV doc pm an cdv ct):=⟨⟨oc,od,kV,doc,pm,an,cdv,ct,osl,rfl,l,c⟩,k⟩
end
def jK{A:Around}(hr:Room k A):A.units+1<cLine:=A4 (Ym (by decide:1<=64) _) hr.units
def DI(h:n<=1000):n<sizeLine:=A4 h (by decide)
section
variable {X:Cx}
def pv(i:Nat)(hN:X.N[i]?=some x:=by rfl)(hv:Vis X.env.scope x:=by first|exact Or.inl rfl|exact Or.inr (Or.inl rfl)|exact Or.inr (Or.inr rfl))(hd:(x == ("__debug__":Str))=false:=by decide)
  (hcd:(x == ("__classdict__":Str))=false:=by decide):PE X (.Name x pos) (wJ i):=Mb hN hv hd hcd
end
def Same(H H':Hp):Prop:=∀b o,H b=some o->H' b=some o
def Same.refl(H:Hp):Same H H:=fun _ _ h=>h
end L2
namespace L2
open PySem PySem.Spec PyProof.Rows
def cc(env:Env):List (Str×NameKind)->List (Str×Addr)->List (Str×Addr)|[],acc=>acc|(n,k)::r,acc=>if k=.free then cc env r ((n,(env.cells.lookup n).getD 0)::acc) else cc env r acc
theorem iY{env:Env}{f:Str×NameKind->List (Str×Addr)->Sem (ForInStep (List (Str×Addr)))}
  (h1:∀n k cs c,k=NameKind.free->env.cells.lookup n=some c->f (n,k) cs=pure (.yield ((n,c)::cs)))
  (h2:∀n k cs,k≠NameKind.free->f (n,k) cs=pure (.yield cs)) :
  ∀(names:List (Str×NameKind))(acc:List (Str×Addr)),(∀x∈names,x.2=.free->∃c,env.cells.lookup x.1=some c)->forIn names acc f=pure (cc env names acc)
 |[],_,_=>rfl
 | (n,k)::r,acc,h=>by
  have hr:∀x∈r,x.2=.free->∃c,env.cells.lookup x.1=some c:=fun x hx=>h x (Vb _ hx);by_cases hk:k=.free
  ·obtain⟨c,hc⟩:=h (n,k) Va hk;have e:cc env ((n,k)::r) acc=cc env r ((n,c)::acc):=by
    show(if k=.free then _ else _)=_;rw[Ag hk];have hc':env.cells.lookup n=some c:=hc;rw[hc'];rfl
   rw[B4,h1 n k acc c hk hc,pure_bind,e];exact iY h1 h2 r _ hr
  ·have e:cc env ((n,k)::r) acc=cc env r acc:=by
    show(if k=.free then _ else _)=_;rw[Aj hk]
   rw[B4,h2 n k acc hk,pure_bind,e];exact iY h1 h2 r _ hr
def mG{scope:Scope}{env:Env}(h:∀x∈scope.names,x.2=.free->∃c,env.cells.lookup x.1=some c):closureFor scope env=pure (cc env scope.names []):=by
 simp only[closureFor];have key:=fun f h1 h2=>iY (env:=env) (f:=f) h1 h2 scope.names [] h
 rw[key _ (fun n k cs c hk hc=>by subst hk;simp[cellOf,hc]) (fun n k cs hk=>by
  have:(k == NameKind.free)=false:=by simpa using hk
  simp only[this,Qe,if_false])]
 rfl
def cL{α β:Type}[BEq α]{x n:α}{k:β}{r:List (α×β)}:List.lookup x ((n,k)::r)=if (x == n)=true then some k else List.lookup x r:=by
 rw[List.lookup_cons];cases x == n<;>rfl
theorem im{env:Env}{x:Str}{c:Addr}:∀(names:List (Str×NameKind))(acc:List (Str×Addr)),(∀x∈names,x.2=.free->∃c,env.cells.lookup x.1=some c)->
  (∀y c,acc.lookup y=some c->env.cells.lookup y=some c)->(cc env names acc).lookup x=some c->env.cells.lookup x=some c
 |[],acc,_,ha,e=>ha x c e
 | (n,k)::r,acc,h,ha,e=>by
  have hr:∀x∈r,x.2=.free->∃c,env.cells.lookup x.1=some c:=fun x hx=>h x (Vb _ hx);by_cases hk:k=.free
  ·obtain⟨c',hc⟩:=h (n,k) Va hk;have hc':env.cells.lookup n=some c':=hc;have q:cc env ((n,k)::r) acc=cc env r ((n,c')::acc):=by
    show(if k=.free then _ else _)=_;rw[Ag hk,hc'];rfl
   rw[q]at e;refine im r _ hr (fun y d hy=>?_) e;rw[cL]at hy;by_cases hyn:(y == n)=true
   ·rw[Ag hyn]at hy;have:y=n:=by simpa using hyn
    rw[this,hc',hy]
   ·rw[Aj hyn]at hy;exact ha y d hy
  ·have q:cc env ((n,k)::r) acc=cc env r acc:=by
    show(if k=.free then _ else _)=_;rw[Aj hk]
   rw[q]at e;exact im r _ hr ha e
theorem lF{env:Env}{x:Str}{c:Addr}(hx:env.cells.lookup x=some c):∀(names:List (Str×NameKind))(acc:List (Str×Addr)),(acc.lookup x=some c\/(x,NameKind.free)∈names)->(cc env names acc).lookup x=some c
 | [],acc,h=>by
  rcases h with h|h
  ·exact h
  ·cases h
 | (n,k)::r,acc,h=>by
  by_cases hk:k=.free
  ·have q:cc env ((n,k)::r) acc=cc env r ((n,(env.cells.lookup n).getD 0)::acc):=by
    show(if k=.free then _ else _)=_;rw[Ag hk]
   rw[q];refine lF hx r _ ?_;by_cases hxn:(x == n)=true
   ·left;have e:x=n:=by simpa using hxn
    rw[cL,Ag hxn,<-e,hx];rfl
   ·rcases h with h|h
    ·left;rw[cL,Aj hxn];exact h
    ·right;rcases Wc.mp h with h|h
     ·cases h;exact absurd (by simp) hxn
     ·exact h
  ·have q:cc env ((n,k)::r) acc=cc env r acc:=by
    show(if k=.free then _ else _)=_;rw[Aj hk]
   rw[q];refine lF hx r _ ?_;rcases h with h|h
   ·exact .inl h
   ·rcases Wc.mp h with h|h
    ·cases h;exact absurd rfl hk
    ·exact .inr h
theorem gy{env:Env}{x:Str}:∀(names:List (Str×NameKind)),
  ((names.map fun(n,k)=>if (k == NameKind.free&&env.scope.kind == .function&&env.kindOf n == some .cell) then(n,NameKind.cell) else(n,k)).lookup x=none/\names.lookup x=none) \/
  ∃k k',names.lookup x=some k/\(names.map fun(n,k)=>if (k == NameKind.free&&env.scope.kind == .function&&env.kindOf n == some .cell) then(n,NameKind.cell) else(n,k)).lookup x=some k'/\(k'=k\/(k=.free/\k'=.cell))
 |[]=>.inl ⟨rfl,rfl⟩
 | (n,k)::r=>by
  have ih:=@gy env x r;show(List.lookup x ((if (k == NameKind.free&&env.scope.kind == .function&&env.kindOf n == some .cell)=true then(n,NameKind.cell) else(n,k))::_)=none/\_)\/∃k' k'',_/\List.lookup x ((if (k == NameKind.free&&env.scope.kind == .function&&env.kindOf n == some .cell)=true then(n,NameKind.cell) else(n,k))::_)=_/\_;by_cases hc:(k == NameKind.free&&env.scope.kind == .function&&env.kindOf n == some .cell)=true
  ·rw[Ag hc,cL,cL];have hk:k=.free:=by
    simp only[Vi]at hc;simpa using hc.1.1
   by_cases hx:(x == n)=true
   ·rw[Ag hx,Ag hx];exact .inr ⟨k,.cell,rfl,rfl,.inr ⟨hk,rfl⟩⟩
   ·rw[Aj hx,Aj hx];exact ih
  ·rw[Aj hc,cL,cL];by_cases hx:(x == n)=true
   ·rw[Ag hx,Ag hx];exact .inr ⟨k,k,rfl,rfl,.inl rfl⟩
   ·rw[Aj hx,Aj hx];exact ih
abbrev cxC(X:Cx)(N:List Str)(scope:Scope)(C:Addr)(s:Shared)(H:Hp)(fp:List Addr):Cx :=
 { X with N:=N,s₀:=s,H₀:=H,env:=compEnvC scope (cc X.env scope.names []) C X.env,outer:=X.stack,stack:=X.stack,ex:=fp,fn:=fun _=>false,pn:=[],xe:=fun _ _=>False }
structure BlkScope(X:Cx)(N:List Str)(k:Nat)(caps:List Nat)(scope:Scope):Prop where
 kind:scope.kind=.function
 nocell:∀y∈scope.names,y.2≠.cell
 loc:∀y∈scope.names,y.2=.local->scope.names.lookup y.1=some .local
 free:∀y∈scope.names,y.2=.free->(X.env.kindOf y.1=some .cell\/X.env.kindOf y.1=some .free)
 len:N.length=k+caps.length
 cap:∀(j i:Nat),caps[j]?=some i->∃x,N[k+j]?=some x/\X.N[i]?=some x/\scope.names.lookup x=some .free
def blk(k:Nat)(caps:List Nat)(σ:St):St:=List.replicate k none++caps.map fun i=>(σ[i]?).getD none
section
variable {X:Cx}{N:List Str}{k:Nat}{caps:List Nat}{scope:Scope}
theorem BlkScope.cells(S:BlkScope X N k caps scope)(ok:X.Ok):∀x∈scope.names,x.2=.free->∃c,X.env.cells.lookup x.1=some c:=fun x hx hk=>ok.has x.1 (S.free x hx hk)
def BlkScope.sub(S:BlkScope X N k caps scope)(ok:X.Ok)(e:(cc X.env scope.names []).lookup x=some c):X.env.cells.lookup x=some c :=
 im _ _ (S.cells ok) (fun y c h=>by cases h) e
def BlkScope.has(S:BlkScope X N k caps scope)(ok:X.Ok)(h:scope.names.lookup x=some .free):∃c,X.env.cells.lookup x=some c/\(cc X.env scope.names []).lookup x=some c:=by
 have hm:=Ax h;obtain⟨c,hc⟩:=S.cells ok _ hm rfl;exact⟨c,hc,lF hc _ _ (.inr hm)⟩
def yt(σ:St):(blk k caps σ).length=k+caps.length:=by unfold blk;simp
def yu(h:(blk k caps σ)[i]?=some (some v)):∃j i',i=k+j/\caps[j]?=some i'/\σ[i']?=some (some v):=by grind [blk]
def MF{s:Shared}(S:BlkScope X N k caps scope)(I:Inv X pins σ H s)(hf:∀b∈fp,jN X pins H b)(hlt:∀b∈fp,b<s.heap.objs.size)(hC:s.heap.objs.size<=C) :
  (cxC X N scope C s H fp).Ok:=by
 have nfs:∀b∈fp,b∉frs X.stack:=fun b hb z=>by
  rcases Wc.mp (I.stkSub b z) with e|e
  ·exact(hf b hb).2.1 e
  ·exact(hf b hb).2.2.1 e
 refine⟨I.ok.mod,S.kind,I.ok.glob,I.ok.blt,hC,fun x y c h1 h2=>I.ok.inj x y c (S.sub I.ok h1) (S.sub I.ok h2),fun x hx=>?_,fun x c h=>(by cases h),I.ok.hd,I.ok.frames,.inl rfl,fun b hb=>⟨?_,fun x c e=>?_⟩,I.bs,Ve I.ok.bsz I.sz,fun b o e hb=>?_,nfs,I.stack,I.stkFree⟩
 ·have hx':(relabel scope X.env).names.lookup x=some .cell\/(relabel scope X.env).names.lookup x=some .free:=hx;rcases gy (env:=X.env) (x:=x) scope.names with⟨e,_⟩|⟨k1,k2,e1,e2,e3⟩
  ·rcases hx' with z|z<;>(have z':=e.symm.trans z;cases z')
  ·have hk2:k2=.cell\/k2=.free:=by
    rcases hx' with z|z
    ·exact .inl (Option.some.inj (e2.symm.trans z))
    ·exact .inr (Option.some.inj (e2.symm.trans z))
   have hfree:k1=.free:=by
    rcases e3 with z|⟨z,_⟩
    ·rcases hk2 with q|q
     ·exact absurd (z.symm.trans q) (S.nocell _ (Ax e1))
     ·exact z.symm.trans q
    ·exact z
   rw[hfree]at e1;obtain⟨c,_,hc⟩:=S.has I.ok e1;exact⟨c,hc⟩
 ·exact Qf (Vd (hlt b hb) hC)
 ·exact(hf b hb).2.2.2.2.1 x c (S.sub I.ok e)
 ·rcases(hf b hb).2.2.2.1 with z|z
  ·exact I.ok.noex b o e z
  ·exact absurd (Vd (Ai (I.ok.bs b o e).1) z) (Zj _)
def Jh{s s3:Shared}(S:BlkScope X N k caps scope)(I:Inv X pins σ H s)(hf:∀b∈fp,jN X pins H b)(hlt:∀b∈fp,b<s.heap.objs.size)
  (hC:s.heap.objs.size<=C)(hos:s3.os=s.os)(hg:s3.gens=s.gens)(kp:∀b o,s.heap.get? b=some o->s3.heap.get? b=some o)(hn:s3.heap.Ns C m):Inv (cxC X N scope C s H fp) [] (blk k caps σ) H s3:=by
 refine⟨MF S I hf hlt hC,hos,by rw[hg];exact I.bare,Un.kept kp,⟨m,hn,fun i x v e1 e2 e3=>?_⟩,fun x c e=>?_,I.hok.fresh hC,fun x c e=>I.freeC x c (S.sub I.ok e),fun p hp=>absurd hp (by simp),I.hok.kept kp,by rw[yt];exact S.len.symm⟩
 ·obtain⟨j,i',rfl,hc,hv⟩:=yu e2;obtain⟨y,h1,h2,h3⟩:=S.cap j i' hc;have exy:y=x:=Option.some.inj (h1.symm.trans e1);subst exy;obtain⟨c,hc1,hc2⟩:=S.has I.ok h3;obtain⟨m0,hn0,hl0⟩:=I.loc;have hkind:=S.free _ (Ax h3) rfl;obtain⟨u,ru,lu⟩:=hl0 i' y v h2 hv (hkind.elim (fun z=>.inr (.inl z)) (fun z=>.inr (.inr z)));refine⟨u,ru,.inr ⟨?_,c,hc2,?_⟩⟩
  ·rcases gy (env:=X.env) (x:=y) scope.names with⟨_,e⟩|⟨k1,k2,q1,q2,q3⟩
   ·rw[e]at h3;cases h3
   ·have hk1:k1=.free:=Option.some.inj (q1.symm.trans h3);rcases q3 with z|⟨_,z⟩
    ·right;show(relabel scope X.env).names.lookup y=_;exact q2.trans (by rw[z,hk1])
    ·left;show(relabel scope X.env).names.lookup y=_;exact q2.trans (by rw[z])
  ·rcases lu with⟨hk,_⟩|⟨_,c',hc',cell⟩
   ·rcases hkind with z|z<;>(have z':=hk.symm.trans z;cases z')
   ·have:c'=c:=Option.some.inj (hc'.symm.trans hc1);subst this;obtain⟨o,ho,hd⟩:=cell;exact⟨o,kp _ o ho,hd⟩
 ·obtain⟨v,o,ho,hd⟩:=I.cell x c (S.sub I.ok e);exact⟨v,o,kp _ o ho,hd⟩
end
def PIf(X:Cx)(ifs:List Expr)(t:TT):Prop :=
 ∀(pins:List (Addr×Obj))(s:Shared)(σ:St)(H:Hp)(Q:Bool->Hp->Prop),Inv X pins σ H s->t σ H Q->
  wpAny (model X.prog X.w) X.A (forIn ifs true fun c r=>if r=true then do let ok <-isTrue c X.env (eval c X.env);pure (ForInStep.yield ok) else pure (ForInStep.yield r)) (TP X pins σ Q) X.xe s
def OT:TT:=fun _ H Q=>Q true H
def cG:PIf X [] OT:=fun _ _ _ H _ I h=>wpAny_tests_nil ⟨H,I,h⟩
def mH(h:PT X c t):PIf X [c] t:=fun pins s σ H Q I hw=>wpAny_tests_one (h pins s σ H Q I hw)
theorem jQ(I:Nat->Shared->Prop)
  (turn:∀n s,I n s->wpAny (model prog w) A (pyNext it) (fun r s₁=>match r with
   |none=>R (.ok .next) s₁
   |some v=>wpAny (model prog w) A (letOwnedTupleGo target it v) (fun _ s₀=>wpAny (model prog w) A (assign target env v) (fun _ s₂=>
     wpAny (model prog w) A (forIn ifs true fun c r=>if r=true then do let ok <-isTrue c env (eval c env);pure (ForInStep.yield ok) else pure (ForInStep.yield r)) (fun ok s₃=>
      if ok=true then wpAny (model prog w) A (eval elt env) (fun x s₄=>
       wpAny (model prog w) A (call (.builtin "list.append") [acc,x]) (fun _ s₅=>∃m,m<n/\I m s₅) (fun _ _=>False) s₄) (fun _ _=>False) s₃
      else ∃m,m<n/\I m s₃) (fun _ _=>False) s₂) (fun _ _=>False) s₀) (fun _ _=>False) s₁) (fun _ _=>False) s)
  (n:Nat) (h:I n s) :
  codeAny (model prog w) A (.compLoop (.ListComp elt [⟨target,iter,ifs,0⟩] scope pos) 0 it acc env) R s:=by
 refine codeAny_loop rfl I (fun n s hI=>?_) n h;show wpAny _ A ((compTurn (.ListComp elt [⟨target,iter,ifs,0⟩] scope pos) 0 it acc env).onRaise (fun x=>do noteFrame x env;theTreesLotGoes x)) _ _ s
 refine wpAny_noted ?_;rw[compTurn_list];refine Aa (wpAny_standAt (Aa (Aw (turn n s hI) (fun r s₁ h₁=>?_) fun _ _ h'=>False.elim h')));cases r with
 |none=>exact Ad h₁
 |some v=>
  refine Aa (Aw h₁ (fun _ s₀ h₀=>?_) fun _ _ h'=>False.elim h');refine Aa (Aw h₀ (fun _ s₂ h₂=>Aa (Aw h₂ (fun ok s₃ h₃=>?_) fun _ _ h'=>False.elim h')) fun _ _ h'=>False.elim h');cases ok with
  |false=>exact Ad ⟨rfl,h₃⟩
  |true=>
   exact Aa (Aa (Aw h₃ (fun x s₄ h₄=>Aa (Aw h₄ (fun _ s₅ h₅=>Ad (Ad ⟨rfl,h₅⟩)) fun _ _ h'=>False.elim h')) fun _ _ h'=>False.elim h'))
def rO(k:Nat)(caps:List Nat)(wi:TI)(g:TG)(tc:TT)(te:TE):TE:=fun σ H Q=>wi σ H fun J H1=>∃(n:Nat)(W:Nat->List V->Hp->Prop),W 0 [] H1 /\
 (∀xs H,W n xs H->J.stop n H/\∀p,H p=none->Q (.ref p) (upd H p (.lst xs))) /\
 ∀i xs H,i<n->W i xs H->J.go i H/\xs.length<sizeLine/\∀x H',J.yld i H x H'->g x (blk k caps σ) H' fun σ2 H2=>tc σ2 H2 fun ok H3=>
  if ok=true then te σ2 H3 fun y H4=>σ2.drop k=(blk k caps σ).drop k/\W (i+1) (xs++[y]) H4
  else σ2.drop k=(blk k caps σ).drop k/\W (i+1) xs H3
abbrev fP(its:List Value)(n:Nat):Obj:={ cls:=.type "list",data:=.seq its.toArray n }
def Ll(X:Cx)(pins:List (Addr×Obj))(H:Hp)(C:Addr):Prop :=
 H C=none/\C≠X.env.locals/\(C∈X.ex\/X.s₀.heap.objs.size<=C)/\(∀x c,X.env.cells.lookup x=some c->c≠C)/\∀p∈X.pn++pins,p.1≠C
inductive CI(X':Cx)(A:Addr)(σ:St)(tn:Nat->Heap->Prop)(fp:List Addr)(n0:Nat)(W:Nat->List V->Hp->Prop)(n:Nat)(s':Shared):Prop
 | mk (i:Nat) (xs:List V) (its:List Value) (nn:Nat) (H':Hp) (J:Inv X' [(A,fP its nn)] σ H' s') (st:tn i s'.heap) (fr:∀b∈fp,H' b=none) (vs:Vals xs its) (hz:xs.length<=sizeLine) (hn:n=n0-i) (hi:i<=n0) (w:W i xs H')
def vk{X:Cx}
  (S:BlkScope X N k caps scope)(hc:X.calm=true)(hi:PI X tg iter wi)
  (hg:∀C s H fp,PG (cxC X N scope C s H fp) tg g) (ht:∀C s H fp,PIf (cxC X N scope C s H fp) ifs tc) (he:∀C s H fp,PE (cxC X N scope C s H fp) elt te)
  (hs:∀x,foldedSetIterable iter X.env x=pure x) (I:Inv X pins σ H s) (h:rO k caps wi g tc te σ H Q)
  (fin:∀(D C:Addr)(H4:Hp)(s4:Shared)(m:Str->Option Value),Inv X pins σ H4 s4->s4.heap.Ns C m->Ll X pins H4 C->Q (.ref D) H4->compPost (model X.prog X.w) X.A X.xe use Q' (.ref D) C (.ok .next) s4) :
  wpAny (model X.prog X.w) X.A (comprehension (.ListComp elt [⟨tg,iter,ifs,0⟩] scope pos) scope X.env cpos (newList []) false (eval iter X.env) use) Q' X.xe s:=by
 refine wpAny_comprehension_free rfl hs (mG (S.cells I.ok)) S.kind S.loc ?_;refine thn (hi pins s σ H _ I h) fun v s1 h1=>thn h1 fun itv s2 h2=>?_;obtain⟨it,fp,tn,J,H2,e,I2,T,st2,f2,n0,W,w0,wstop,turn⟩:=h2;subst e;refine Aq (wpAny_newFunctionEnv S.nocell (by intro y hy;simp at hy) (fun h₁ hns₁ hsb₁=>?_) S.kind)
 dsimp only at hns₁ hsb₁ ⊢;generalize hG:s2.heap.push { cls:=.type "list",dict:=none,data:=.seq ([]:List Value).toArray }=G at hns₁ hsb₁ ⊢;have hCG:G.objs.size=s2.heap.objs.size+1:=by rw[<-hG,AY]
 have hDC:s2.heap.objs.size≠G.objs.size:=by lia
 have below:∀b,b<s2.heap.objs.size->b≠G.objs.size/\b≠s2.heap.objs.size:=fun b hb=>⟨by lia,by lia⟩
 have old:∀b o,s2.heap.get? b=some o->h₁.get? b=some o:=fun b o e=>hsb₁.extBut b o (below b (Ai e)).1 (Ac _ (hG ▸ Ac _ e));have hacc:h₁.get? s2.heap.objs.size=some (fP [] 0):=hsb₁.extBut _ _ hDC (Ac _ (hG ▸ Ah _ rfl));have hlt:∀b∈fp,b<s2.heap.objs.size:=fun b hb=>by obtain⟨o,ho,_⟩:=T.obj 0 _ st2 b hb;exact Ai ho
 have hDf:s2.heap.objs.size∉fp:=fun z=>Zj _ (hlt _ z);have hle:s2.heap.objs.size<=G.objs.size:=by lia
 have hDcell:∀x c,(cc X.env scope.names []).lookup x=some c->c≠s2.heap.objs.size:=fun x c e z=>by
  obtain⟨v,q⟩:=I2.cell x c (S.sub I2.ok e);exact absurd q.lt (by rw[z];exact Zj _)
 have hDfs:s2.heap.objs.size∉frs X.stack:=fun z=>by
  obtain⟨_,o,ho,_⟩:=I2.stack.mem z;exact absurd (Ai ho) (Zj _)
 have nfs:∀b∈fp,b∉frs X.stack:=fun b hb z=>by
  rcases Wc.mp (I2.stkSub b z) with e|e
  ·exact(f2 b hb).2.1 e
  ·exact(f2 b hb).2.2.1 e
 have fpk:∀{H':Hp}{its:List Value}{n:Nat},(∀b∈fp,H' b=none)->∀b∈fp,jN (cxC X N scope G.objs.size s2 H2 fp) [(s2.heap.objs.size,fP its n)] H' b:=fun {H' its n} hn b hb=>
  ⟨hn b hb,(below b (hlt b hb)).1,nfs b hb,.inl hb,fun x c e=>(f2 b hb).2.2.2.2.1 x c (S.sub I2.ok e),fun p hp=>by
   have e:p=(s2.heap.objs.size,fP its n):=by simpa using hp
   rw[e];exact Au (below b (hlt b hb)).2⟩
 have pinD:∀{H':Hp}{s':Shared}{σ':St}{its:List Value}{n:Nat},Inv (cxC X N scope G.objs.size s2 H2 fp) [] σ' H' s'->s'.heap.get? s2.heap.objs.size=some (fP its n)->H' s2.heap.objs.size=none->Inv (cxC X N scope G.objs.size s2 H2 fp) [(s2.heap.objs.size,fP its n)] σ' H' s':=fun {H' s' σ' its n} J e hn=>
  J.pins_of fun p hp=>by
   have q:p=(s2.heap.objs.size,fP its n):=by simpa using hp
   rw[q];exact⟨e,hn,hDC,hDfs,fun v z=>by cases z⟩
 have I3:Inv (cxC X N scope G.objs.size s2 H2 fp) [] (blk k caps σ) H2 { s2 with heap:=h₁,toks:=s2.toks+([]:List (Str×Value)).length }:=Jh S I2 f2 hlt hle rfl rfl old hns₁;have loop:codeAny (model X.prog X.w) X.A (.compLoop (.ListComp elt [⟨tg,iter,ifs,0⟩] scope pos) 0 (.ref it) (.ref s2.heap.objs.size) (compEnvC scope (cc X.env scope.names []) G.objs.size X.env))
   (compPost (model X.prog X.w) X.A X.xe use Q' (.ref s2.heap.objs.size) G.objs.size) { s2 with heap:=h₁,toks:=s2.toks+([]:List (Str×Value)).length }:=by
  refine jQ (CI (cxC X N scope G.objs.size s2 H2 fp) s2.heap.objs.size (blk k caps σ) tn fp n0 W) ?_ n0
   ⟨0,[],[],0,H2,pinD I3 hacc (I2.hok.fresh (Wb _)),T.keep _ _ _ st2 fun b _ o e=>old b o e,fun b hb=>(f2 b hb).1,.nil,Xi _,rfl,Xi _,w0⟩
  rintro n s3 ⟨i,xs,its,nn,H3,J3,st3,fr3,vs3,hz3,hn3,hi3,w3⟩;by_cases hin:i<n0
  rotate_left
  ·have ein:i=n0:=by lia
   subst ein;obtain⟨stop,qn⟩:=wstop xs H3 w3;refine thn (T.done (cxC X N scope G.objs.size s2 H2 fp) rfl rfl rfl hc i _ s3 _ H3 _ J3 (fpk fr3) st3 stop) fun r s4 zz9=>?_;obtain⟨hr,J4⟩:=zz9;subst hr;obtain⟨eD,nD,_⟩:=J4.pin (s2.heap.objs.size,fP its nn) (by simp)
   have eD:s4.heap.get? s2.heap.objs.size=some (fP its nn):=eD;have nD:H3 s2.heap.objs.size=none:=nD;obtain⟨m4,hm4,_⟩:=J4.loc;have U:Un (frs X.stack) fp H2 H3 s2.heap s4.heap:=J4.base;have neC:∀b o,s2.heap.get? b=some o->b≠G.objs.size:=fun b o e=>(below b (Ai e)).1;have neD:∀b o,s2.heap.get? b=some o->b≠s2.heap.objs.size:=fun b o e=>(below b (Ai e)).2;have H2D:H2 s2.heap.objs.size=none:=I2.hok.fresh (Wb _);have HC:H3 G.objs.size=none:=J4.free;refine fin s2.heap.objs.size G.objs.size (upd H3 s2.heap.objs.size (.lst xs)) s4 m4 (I2.call' (s':=s4) (ch:=fp) J4.os ?_ ?_ J4.bare ?_) hm4 ?_ (qn _ nD)
   ·refine⟨fun b o e n hb hx=>U.keep b o e n hb hx,fun b o e n hb hx=>U.slot b o e n hb hx,fun b o e n hx=>?_,fun b o e hx=>U.there b o e hx,fun b ys e=>?_,fun b o u e=>?_,fun b ps e=>?_⟩
    ·rw[aR (neD b o e)];exact U.free b o e n hx
    ·rw[aR (bv e H2D)];exact U.tups b ys e
    ·rw[aR (bv e H2D)];exact U.frzs b o u e
    ·obtain⟨more,q⟩:=U.tbls b ps e;exact⟨more,by rw[aR (bv e H2D)];exact q⟩
   ·intro b u e;by_cases hb:b=s2.heap.objs.size
    ·subst hb;rw[bq]at e;cases e;exact⟨hz3,its,nn,vs3,eD⟩
    ·rw[aR hb]at e;exact(J4.hok b u e).stay (fun c v _ q=>q) (fun c q=>by rw[aR (bv q nD)];exact q) fun c ys q=>by rw[aR (bv q nD)];exact q
   ·exact fun b hb=>⟨(f2 b hb).2.2.2.1,(f2 b hb).2.1,(f2 b hb).2.2.2.2.1,(f2 b hb).2.2.2.2.2⟩
   ·refine⟨by rw[aR (Au hDC)];exact HC,Bq (Vd I2.lt hle),.inr (Ve I2.sz hle),fun x c e z=>?_,fun p hp z=>?_⟩
    ·obtain⟨v,q⟩:=I2.cell x c e;exact absurd (Vd q.lt (by rw[z];exact hle)) (Zj _)
    ·exact absurd (Vd (Ai (I2.pin p hp).1) (by rw[z];exact hle)) (Zj _)
  ·obtain⟨go,hz,step⟩:=turn i xs H3 hin w3;refine thn (T.item (cxC X N scope G.objs.size s2 H2 fp) rfl rfl rfl hc i _ s3 _ H3 _ J3 (fpk fr3) st3 go) fun r s4 zz9=>?_;obtain⟨u,hr,h4⟩:=zz9;subst hr;refine thn h4 fun _ s5 zz9=>?_;obtain⟨x,H5,J5,r5,y5,st5,fr5⟩:=zz9;have J5':=J5.pinned (fpk fr5) (T.obj _ _ st5);refine thn (hg _ _ _ _ _ s5 _ H5 x u _ J5' r5 (step x H5 y5)) fun _ s6 zz9=>?_;obtain⟨σ6,H6,J6,q6⟩:=zz9;refine thn (ht _ _ _ _ _ s6 σ6 H6 _ J6 q6) fun ok s7 zz9=>?_;obtain⟨H7,J7,q7⟩:=zz9;have wk:∀{σ8:St}{H8:Hp}{s8:Shared}{pl:List (Addr×Obj)},Inv (cxC X N scope G.objs.size s2 H2 fp) pl σ8 H8 s8->σ8.drop k=(blk k caps σ).drop k->Inv (cxC X N scope G.objs.size s2 H2 fp) pl (blk k caps σ) H8 s8:=fun {σ8 H8 s8 pl} J8 hd=>
    J8.weak (by rw[yt,J8.len];exact S.len.symm) fun j v e=>by
     obtain⟨j',i',rfl,hc',hv'⟩:=yu e;have e1:((blk k caps σ).drop k)[j']?=some (some v):=by rw[Wi];exact e
     rw[<-hd,Wi]at e1;exact e1
   have recs:∀{σ8:St}{H8:Hp}{s8:Shared},Inv (cxC X N scope G.objs.size s2 H2 fp) ([(s2.heap.objs.size,fP its nn)]++pS fp s5.heap) σ8 H8 s8->(∀b∈fp,∀o,s5.heap.get? b=some o->s8.heap.get? b=some o)/\(∀b∈fp,H8 b=none):=fun {σ8 H8 s8} J8=>
    ⟨fun b hb o e=>(J8.pin (b,o) (Xd _ (Xd _ (iV hb e)))).1,fun b hb=>by
     obtain⟨o,e,d⟩:=T.obj _ _ st5 b hb
     exact(J8.pin (b,o) (Xd _ (Xd _ (iV hb e)))).2.1⟩
   cases ok with
   |false=>
    rw[Aj (by decide)]at q7 ⊢
    obtain⟨hd,w7⟩:=q7;obtain⟨k1,k2⟩:=recs J7;exact⟨n0-(i+1),by lia,i+1,xs,its,nn,H7,wk J7.unpinned hd,T.keep _ _ _ st5 k1,k2,vs3,hz3,rfl,hin,w7⟩
   |true=>
    rw[Ag rfl]at q7 ⊢;refine thn (he _ _ _ _ _ s7 σ6 H7 _ J7 q7) fun uy s8 zz9=>?_;obtain⟨y,H8,J8,r8,hd,w8⟩:=zz9;obtain⟨k1,k2⟩:=recs J8;obtain⟨eD,nD,_⟩:=J8.pin (s2.heap.objs.size,fP its nn) (by simp)
    have eD:s8.heap.get? s2.heap.objs.size=some (fP its nn):=eD;have nD:H8 s2.heap.objs.size=none:=nD;have hl3:=vs3.length;refine BT F.slot_list_append ⟨_,eD,rfl⟩ F.entry_list_append (F.args_list_append_2 _ _) (PySem.list_append s2.heap.objs.size its.toArray nn uy (by rw[Xc];lia)) ⟨eD,?_⟩
    have q:=PySem.IsL.update eD (fun a:Array Value=>a.push uy);have qe:its.toArray.push uy=(its++[uy]).toArray:=by simp
    rw[qe]at q;have oth:∀b o,b≠s2.heap.objs.size->s8.heap.get? b=some o->(s8.heap.update s2.heap.objs.size (Obj.mapSeq fun a=>a.push uy)).get? b=some o:=fun b o hb e=>(AM s8.heap _ (Au hb)).trans e;have J9:Inv (cxC X N scope G.objs.size s2 H2 fp) [] σ6 H8 { s8 with heap:=s8.heap.update s2.heap.objs.size (Obj.mapSeq fun a=>a.push uy),toks:=s8.toks } :=
     (J8.pins_of (pins':=[]) fun p hp=>absurd hp (by simp)).turned oth nD hDC (.inr (Wb _)) hDcell (fun p hp=>absurd hp (by simp))
    refine⟨n0-(i+1),by lia,i+1,xs++[y],its++[uy],_,H8,wk (pinD J9 q nD) hd,T.keep _ _ _ st5 fun b hb o e=>oth b o (fun z=>hDf (z ▸ hb)) (k1 b hb o e),k2,vs3.append (.cons r8 .nil),?_,rfl,hin,w8⟩
    rw[Xa,We];lia
 exact codeAny_compStart_list loop (T.self _ 0 _ _ _ (T.keep _ _ _ st2 fun b _ o e=>old b o e) loop)
def Inv.aside{s:Shared}(I:Inv X pins σ H s)(a:Ll X pins H C)(hs:Heap.SameBut C s.heap h'):Inv X pins σ H { s with heap:=h' } :=
 I.turned (t':=s.toks) (fun b o hb e=>hs.extBut b o hb e) a.1 a.2.1 a.2.2.1 a.2.2.2.1 a.2.2.2.2
def cH{X:Cx}(S:BlkScope X N k caps scope)(hc:X.calm=true)(hi:PI X tg iter wi)
  (hg:∀C s H fp,PG (cxC X N scope C s H fp) tg g)(ht:∀C s H fp,PIf (cxC X N scope C s H fp) ifs tc)(he:∀C s H fp,PE (cxC X N scope C s H fp) elt te)
  (hs:∀x,foldedSetIterable iter X.env x=pure x:=by intro _;rfl):PE X (.ListComp elt [⟨tg,iter,ifs,0⟩] scope pos) (rO k caps wi g tc te):=by
 intro pins s σ H Q I h;rw[eval_ListComp];exact vk (use:=none) S hc hi hg ht he hs I h fun D C H4 s4 m I4 hm a q=>⟨m,hm,fun h' hs'=>⟨.ref D,H4,I4.aside a hs',rfl,q⟩⟩
def Ji{X:Cx}{pos py spos:Pos}(S:BlkScope X N k caps scope)(hc:X.calm=true)(hN:X.N.Nodup)(hi':X.N[i]?=some y)(hy:Loc X.env.scope y)(hi:PI X tg iter wi)
  (hg:∀C s H fp,PG (cxC X N scope C s H fp) tg g)(ht:∀C s H fp,PIf (cxC X N scope C s H fp) ifs tc)(he:∀C s H fp,PE (cxC X N scope C s H fp) elt te)
  (hs:∀x,foldedSetIterable iter X.env x=pure x:=by intro _;rfl) (hsw:swapsWith (.ListComp elt [⟨tg,iter,ifs,0⟩] scope pos) (some (.Name y py)) spos.line X.env=pure true:=by rfl)
  (hf:X.fn y=true\/X.env.scope.names.lookup y=some .local:=by first|exact .inl rfl|exact .inr rfl|assumption) :
  PS X (.Assign [.Name y py] (.ListComp elt [⟨tg,iter,ifs,0⟩] scope pos) spos) (Dr (rO k caps wi g tc te) (pR i)):=by
 intro pins s σ H D I h;rw[exec_Assign_Name_used _ _ _ _ hsw];refine Aa (wpAny_standAt (Aa ?_));show wpAny _ X.A (do let _ <-comprehension (.ListComp elt [⟨tg,iter,ifs,0⟩] scope pos) scope X.env _ (newList []) false (eval iter X.env) (some (assign (.Name y py) X.env))) _ _ s
 refine Aa (Aw (vk (use:=some (assign (.Name y py) X.env)) (Q':=fun _ s'=>SP X pins D .next s') S hc hi hg ht he hs I h ?_) (fun _ s' hq=>Ad (Ad hq)) fun _ _ e=>e)
 intro Da C H4 s4 m I4 hm a q;refine wpAny_assign_Name (rD I4 hN hi' hy (show RelV (.ref Da) (.ref Da) from rfl) (fun s5 I5 zz9=>?_) hf);obtain⟨b,sb,hb⟩:=zz9;have hbC:C≠b:=by
  rcases hb with z|z
  ·rw[z];exact a.2.1
  ·exact fun e=>a.2.2.2.1 _ _ z e.symm
 exact⟨m,hm.sameBut sb hbC,fun h' hs'=>⟨_,H4,I5.aside a hs',q⟩⟩
end L2
namespace L2
open PySem PySem.Spec PyProof.Rows
def Its(x:Str):It:=⟨fun i _=>i<x.cps.size,fun i H v H'=>H'=H/\∃c,x.cps[i]?=some c/\v=.str ⟨#[c]⟩,fun i _=>x.cps.size<=i⟩
def DJ{P:Program}{w:World}{K:Ab}{tg:Expr}(it:Addr)(x:Str)(t:Tok):Turn P w K tg (Its x) [it] it (fun i h=>h.IsStrIter it "str_ascii_iterator" x t i) where
 mem:=by simp
 obj:=fun i h st b hb=>by
  have e:b=it:=by simpa using hb
  subst e;obtain⟨o,e,c,d⟩:=st;exact⟨o,e,fun v z=>by rw[d]at z;cases z⟩
 keep:=fun i h h' st k=>let ⟨o,ho,r⟩:=st;⟨o,k it (by simp) o ho,r⟩
 item:=by
  intro X hP hw hK hc i pins s σ H E I hf st hg;subst hP hw hK;obtain⟨f0,f1,f2,f3,f4,f5⟩:=hf it (by simp)
  have hg':i<x.cps.size:=hg;refine wpAny_pyNext_ascii_item st (c:=x.cps[i]) (by simp[hg']) fun h' st' sb=>?_
  have I1:Inv X pins σ H { s with heap:=h',toks:=s.toks+1 }:=I.turned (fun b o hb e=>sb.extBut b o hb e) f0 f1 f3 f4 f5;obtain⟨o,e,c,d⟩:=id st';exact⟨_,rfl,rE (s:={ s with heap:=h',toks:=s.toks+1 }) e c d (by decide) ⟨.str ⟨#[x.cps[i]]⟩,H,I1,⟨_,rfl⟩,⟨rfl,_,by simp[hg'],rfl⟩,st',fun b hb=>(hf b hb).1⟩⟩
 done:=by
  intro X hP hw hK hc i pins s σ H E I hf st hg;subst hP hw hK;obtain⟨f0,f1,f2,f3,f4,f5⟩:=hf it (by simp)
  have hg':x.cps.size<=i:=hg;exact wpAny_pyNext_ascii_end (I.ok.hd hc) st (by simp[hg']) fun h' eb=>⟨rfl,I.turned (t':=s.toks) (fun b o hb e=>eb b o hb e) f0 f1 f3 f4 f5⟩
 self:=fun _ _ _ _ _ st h=>wpAny_pyIter_striter_ascii st h
def DK{P:Program}{w:World}{K:Ab}{tg:Expr}(it:Addr)(x:Str)(t:Tok):Turn P w K tg (Its x) [it] it (fun i h=>h.IsStrIter it "str_iterator" x t i) where
 mem:=by simp
 obj:=fun i h st b hb=>by
  have e:b=it:=by simpa using hb
  subst e;obtain⟨o,e,c,d⟩:=st;exact⟨o,e,fun v z=>by rw[d]at z;cases z⟩
 keep:=fun i h h' st k=>let ⟨o,ho,r⟩:=st;⟨o,k it (by simp) o ho,r⟩
 item:=by
  intro X hP hw hK hc i pins s σ H E I hf st hg;subst hP hw hK;obtain⟨f0,f1,f2,f3,f4,f5⟩:=hf it (by simp)
  have hg':i<x.cps.size:=hg;refine wpAny_pyNext_wide_item st (c:=x.cps[i]) (by simp[hg']) fun h' st' sb=>?_
  have I1:Inv X pins σ H { s with heap:=h',toks:=s.toks+1 }:=I.turned (fun b o hb e=>sb.extBut b o hb e) f0 f1 f3 f4 f5;obtain⟨o,e,c,d⟩:=id st';exact⟨_,rfl,rE (s:={ s with heap:=h',toks:=s.toks+1 }) e c d (by decide) ⟨.str ⟨#[x.cps[i]]⟩,H,I1,⟨_,rfl⟩,⟨rfl,_,by simp[hg'],rfl⟩,st',fun b hb=>(hf b hb).1⟩⟩
 done:=by
  intro X hP hw hK hc i pins s σ H E I hf st hg;subst hP hw hK;obtain⟨f0,f1,f2,f3,f4,f5⟩:=hf it (by simp)
  have hg':x.cps.size<=i:=hg;exact wpAny_pyNext_wide_end (I.ok.hd hc) st (by simp[hg']) fun h' eb=>⟨rfl,I.turned (t':=s.toks) (fun b o hb e=>eb b o hb e) f0 f1 f3 f4 f5⟩
 self:=fun _ _ _ _ _ st h=>wpAny_pyIter_striter_wide st h
section
variable {X:Cx}{tg:Expr}
def MG(tl:TE):TI:=fun σ H R=>tl σ H fun x H1=>∃z,x=.str z/\R (Its z) H1
def MH{l:Expr}{tl:TE}(hl:PE X l tl):PI X tg l (MG tl):=by
 intro pins s σ H R I h;refine thn (hl pins s σ H _ I h) fun v s1 zz9=>?_;obtain⟨x,H1,I1,r1,q1⟩:=zz9;obtain⟨z,e,q⟩:=q1;subst e;obtain⟨t,rfl⟩:=r1;have fpk:∀b∈[s1.heap.objs.size],jN X pins H1 b:=fun b hb=>by
  have e:b=s1.heap.objs.size:=by simpa using hb
  subst e;exact I1.fpOk (Wb _) (I1.hok.fresh (Wb _))
 cases ha:z.cps.all (·<128) with|true=>exact wpAny_pyIter_ascii ha ⟨s1.heap.objs.size,[s1.heap.objs.size],_,_,H1,rfl,I1.kept (t':=s1.toks) fun b o e=>Ac _ e,DJ _ z t,⟨_,Ah _ rfl,rfl,rfl⟩,fpk,q⟩|false=>exact wpAny_pyIter_wide ha ⟨s1.heap.objs.size,[s1.heap.objs.size],_,_,H1,rfl,I1.kept (t':=s1.toks) fun b o e=>Ac _ e,DK _ z t,⟨_,Ah _ rfl,rfl,rfl⟩,fpk,q⟩
theorem range_all(bs:List Bool):(List.range bs.length).all (fun i=>bs.getD i true)=bs.all id:=by
 induction bs with
 |nil=>rfl
 |cons b r ih=>
  rw[Qc,Dh,BL,CF,BL,<-ih];rfl
def gz(hc:X.calm=true):CallR X (.builtin "all") (fun xs H Q=>∃(p:Addr)(bs:List Bool),xs=[.ref p]/\SqL X.K H p (bs.map V.bl)/\Q (.bl (bs.all id)) H):=by
 intro pins s σ H xs us Q I rv h;obtain⟨p,bs,rfl,hq,q⟩:=h;obtain⟨u,rfl,ru⟩:=vals1 rv;cases ru;obtain⟨its,r,pl,hz⟩:=I.list hq;have hlen:its.length=bs.length:=by have:=r.length;simpa using this.symm
 obtain⟨op,np,ep,cp,dp,sp⟩:=id pl;have hne:p≠s.heap.objs.size:=Qf (Ai ep);refine call_all_walk (BB pl.isList ?_);refine⟨s.heap.objs.size,_,_,_,_,_,fun i=>bs.getD i true,rfl,Walks.list (show X.A.in1.handled=none from I.ok.hd hc) s.heap.objs.size p hne its.toArray,⟨⟨_,Ah _ rfl,rfl,rfl⟩,⟨op,Ac _ ep,cp,np,sp⟩⟩,?_,fun h' tk kp=>?_⟩
 ·intro i v s' Q' E' hv hQ';have hv':its[i]?=some v:=by simpa using hv
  have hi:i<its.length:=(Zd.mp hv').1;have hb:(bs.map V.bl)[i]?=some (V.bl (bs[i]'(by lia))):=by
   rw[Yd,Ya (by lia)];rfl
  obtain⟨u',e1,e2⟩:=r.get hb;rw[hv']at e1;cases e1;cases e2;have:bs.getD i true=bs[i]'(by lia):=by rw[Qa,Ya (by lia)];rfl
  have hQ2:Q' (bs.getD i true) s':=hQ';rw[this]at hQ2;exact Av hQ2
 ·have e:(List.range its.toArray.size).all (fun i=>bs.getD i true)=bs.all id:=by
   rw[Xc,hlen];exact range_all bs
  rw[e]
  exact⟨.bl (bs.all id),H,I.kept (fun b o e=>kp b o (by
   intro z;have z':b=s.heap.objs.size:=by simpa using z
   exact absurd (Ai e) (by rw[z'];exact Zj _)) (Ac _ e)),rfl,q⟩
theorem pX:∀{ys:List Str}{us:List Value},Vals (ys.map V.str) us->StrsAre us ys
 |[],_,r=>by cases r;exact .nil
 | y::ys,_,r=>by
  cases r with
  |cons a b=>
   obtain⟨t,rfl⟩:=a;exact .cons y t (pX b)
def Jj:MtR X "str.join" (fun x vs H Q=>∃(sep:Str)(p:Addr)(ys:List Str),x=.str sep/\vs=[.ref p]/\SqL X.K H p (ys.map V.str)/\(ys.map (·.length)).sum+ys.length*sep.length<=16777216/\Q (.str (Txt.join sep ys)) H):=by
 intro pins s σ H x vs v us Q I rx rv h;obtain⟨sep,p,ys,rfl,rfl,hq,hz,q⟩:=h;obtain⟨t,rfl⟩:=rx;obtain⟨u,rfl,ru⟩:=vals1 rv;cases ru;obtain⟨its,r,pl,_⟩:=I.list hq;exact join_list pl.isList (pX (by simpa using r)) hz fun t' k=>⟨.str _,H,I.tok k,⟨t',rfl⟩,q⟩
def sgn(x:Str):List V:=x.cps.toList.map fun c=>.str ⟨#[c]⟩
def vm{x:Str}{acc:Array Value}(h:ItemsOf (SignAt x) acc x.cps.size):Vals (sgn x) acc.toList:=by
 obtain⟨h1,h2⟩:=h;have gen:∀(cs:List Nat)(us:List Value),us.length=cs.length->(∀(j:Nat) v,us[j]?=some v->∃c u,cs[j]?=some c/\v=Value.str ⟨#[c]⟩ u)->Vals (cs.map fun c=>V.str ⟨#[c]⟩) us:=by
  intro cs;induction cs with
  | nil=>intro us hl _;cases us with|nil=>exact .nil|cons _ _=>cases hl
  |cons c cs ih=>
   intro us hl hu;cases us with
   |nil=>cases hl
   |cons u us=>
    obtain⟨c',tk,e1,e2⟩:=hu 0 u rfl;have:c=c':=by simpa using e1
    subst this;subst e2;refine .cons ⟨tk,rfl⟩ (ih us (by simpa using hl) fun j v e=>?_)
    have:=hu (j+1) v (by simpa using e)
    simpa using this
 refine gen x.cps.toList acc.toList (by simp[h1]) fun j v e=>?_
 obtain⟨c,u,e1,e2⟩:=h2 j v (by simpa using e)
 exact⟨c,u,by simpa using e1,e2⟩
def yv(x:Str):(sgn x).length=x.cps.size:=by simp[sgn]
def pY(hc:X.calm=true):CallR X (.type "list") (fun xs H Q=>∃z:Str,xs=[.str z]/\z.cps.size<=sizeLine/\∀l,H l=none->Q (.ref l) (upd H l (.lst (sgn z)))):=by
 intro pins s σ H xs us Q I rv h;obtain⟨z,rfl,hz,q⟩:=h;obtain⟨u,rfl,ru⟩:=vals1 rv;obtain⟨t,rfl⟩:=ru;refine call_list_str (I.ok.hd hc) z t (fun h' tk acc' c' kp hS hi=>?_) hz;refine⟨.ref s.heap.objs.size,upd H s.heap.objs.size (.lst (sgn z)),I.laid kp (Wb _) ⟨by rw[yv];exact hz,acc'.toList,c',vm hi,by simpa using hS⟩,rfl,q _ (I.hok.fresh (Wb _))⟩
theorem ObjOk.there{h:Heap}(x:ObjOk P w H h a o):∃ob,h.get? a=some ob:=by
 cases o with
 |lst xs=>obtain⟨_,_,_,_,e⟩:=x;exact⟨_,e⟩
 |tup xs=>obtain⟨_,_,_,o,e,_⟩:=x;exact⟨_,e⟩
 |dK kvs=>obtain⟨_,_,_,_,o,_,_,e,_⟩:=x;exact⟨_,e⟩
 |dT ep kvs=>obtain⟨_,_,_,_,_,o,_,e,_⟩:=x;exact⟨_,e⟩
 |set S n=>obtain⟨o,_,_,_,e,_⟩:=x;exact⟨_,e⟩
 |ins C dx fs=>obtain⟨_,_,_,e,_⟩:=x;exact⟨_,e⟩
 |own y=>exact x
 |xd fs=>obtain⟨_,⟨_,_,_,e,_⟩,_⟩:=x;exact⟨_,e⟩
 |rng lo hi=>obtain⟨_,_,_,e⟩:=x;exact⟨_,e⟩
 |frz ob u=>obtain⟨e,_⟩:=x;exact⟨_,e⟩
 |tbl ps=>exact⟨_,x⟩
 |met f y=>exact⟨_,x⟩
 |ext φ=>obtain⟨_,e,_⟩:=x;exact e
def Inv.laid2{s:Shared}{h':Heap}{t':Nat}(I:Inv X pins σ H s)(k:∀b u,s.heap.get? b=some u->h'.get? b=some u)(hne:∀b u,s.heap.get? b=some u->b≠a)(hn:H a=none)(new:ObjOk X.prog X.w (upd H a o) h' a o) :
  Inv X pins σ (upd H a o) { s with heap:=h',toks:=t' }:=by
 refine I.un ⟨fun b u e _ _ _=>k b u e,fun b u e _ _ _=>⟨u.slots,k b u e⟩,fun b u e n _=>by rw[aR (hne b u e)];exact n,fun b u e _=>⟨u,k b u e⟩,fun b xs e=>by rw[aR (bv e hn)];exact e,fun b u v e=>by rw[aR (bv e hn)];exact e,fun b ps e=>⟨#[],by rw[aR (bv e hn),e];simp⟩⟩ ?_
 intro b u e;by_cases hb:b=a
 ·subst hb;rw[bq]at e;cases e;exact new
 ·rw[aR hb]at e;exact(I.hok b u e).stay (fun c v _ q=>k c v q) (fun c q=>by rw[aR (bv q hn)];exact q) fun c xs q=>by rw[aR (bv q hn)];exact q
def oJ(hc:X.calm=true):CallR X (.type "tuple") (fun xs H Q=>∃z:Str,xs=[.str z]/\z.cps.size<=sizeLine/\∀l,H l=none->Q (.ref l) (upd H l (.tup (sgn z)))):=by
 intro pins s σ H xs us Q I rv h;obtain⟨z,rfl,hz,q⟩:=h;obtain⟨u,rfl,ru⟩:=vals1 rv;obtain⟨t,rfl⟩:=ru;refine call_tuple_str (I.ok.hd hc) z t (fun h' tk acc kp hi=>?_) hz;have hne:∀b u,s.heap.get? b=some u->b≠h'.objs.size:=fun b u e z=>absurd (Ai (kp b u e)) (by rw[z];exact Zj _)
 have hn:H h'.objs.size=none:=by
  cases e:H h'.objs.size with
  |none=>rfl
  |some o=>
   obtain⟨ob,eo⟩:=(I.hok _ _ e).there;exact absurd rfl (hne _ _ eo)
 refine⟨.ref h'.objs.size,upd H h'.objs.size (.tup (sgn z)),I.laid2 (fun b u e=>Ac _ (kp b u e)) hne hn ⟨by rw[yv];exact hz,acc.toList,vm hi,⟨_,Ah _ rfl,rfl,0,by simp⟩⟩,rfl,q _ hn⟩
def MI:SlR X (fun x lo hi H Q=>∃z:Str,x=.str z/\z.length<=sizeLine/\Q (.str (Txt.slice z lo hi)) H):=by
 intro pins s σ H x v vl vu lo hi sl Q I rx hs pl pu h;obtain⟨z,rfl,hz,q⟩:=h;obtain⟨t,rfl⟩:=rx;refine⟨"str",_,F.slot_str_getitem.lookup,CW _ _ _,?_⟩;have fin:∀(o p:Option Int),lo=o->hi=p->∀t' k,EP X pins σ Q (.str (Txt.slice z o p) t') { s with toks:=k }:=fun o p e1 e2 t' k=>⟨.str _,H,I.tok k,⟨t',rfl⟩,by rw[<-e1,<-e2];exact q⟩
 cases pl with
 |none=>
  cases pu with|none=>exact A5 (l:=none) (u:=none) (st:=none) hs rfl (B2 ⟨Ve (Cv z _ _) hz,fun t' k=>fin _ _ rfl rfl t' k⟩)|int j uj=>exact A5 (l:=none) (u:=some (j,uj)) (st:=none) hs rfl (B2 ⟨Ve (Cv z _ _) hz,fun t' k=>fin _ _ rfl rfl t' k⟩)
 |int i ui=>
  cases pu with|none=>exact A5 (l:=some (i,ui)) (u:=none) (st:=none) hs rfl (B2 ⟨Ve (Cv z _ _) hz,fun t' k=>fin _ _ rfl rfl t' k⟩)|int j uj=>exact A5 (l:=some (i,ui)) (u:=some (j,uj)) (st:=none) hs rfl (B2 ⟨Ve (Cv z _ _) hz,fun t' k=>fin _ _ rfl rfl t' k⟩)
end
end L2
namespace L2
open PySem PySem.Spec PyProof.Rows
structure Cal(P:Program)(w:World)(K:Ab)(mg:Str->Option Value)(base:Heap)(x:Str)(k:Nat)(ps:List Str)(sp:Sp):Prop where
 ex:∃f fd,FnOk P w K mg base CX0 k f fd ps sp/\mg x=some (.ref f)/\PySem.W.keepIn K (.ref f)=true/\Binds K fd ps []
def DL(sp:Sp)(t:TA):TE:=fun σ H Q=>t σ H fun vs H1=>sp vs H1 Q E0
section
variable {X:Cx}
def av(C:Cal X.prog X.w X.K X.mg X.base x k ps sp)(hr:Room k' X.A)(hg:Gl X x)(ha:PA X (e::es) t)(hk:k<=k':=by decide)
  (hdb:(x == ("__debug__":Str))=false:=by decide) (he:starEach (e::es) X.env=(false,eval e X.env)::starEach es X.env:=by rfl) (hpl:(backTo pos (starEach es X.env)).any (·.1)=false:=by rfl) :
  PE X (.Call (.Name x p) (e::es) [] pos) (DL sp t):=by
 obtain⟨f,fd,F,hm,hkp,hb⟩:=C.ex;intro pins s σ H Q I h;refine yi F (hr.mono hk) hg hm hkp hb .nil Lk ha hdb he hpl pins s σ H Q I ?_;have e0:DL sp t=EX sp [] E0 t:=by
  funext σ H Q
  unfold DL EX;simp only[Yg]
 rw[e0]at h;exact h
def jR:Expr->Bool|.Starred ..=>false|_=>true
def gu(h:jR e=true):starEach (e::es) env=(false,eval e env)::starEach es env:=by
 cases e<;>first|rfl|cases h
def ar(ha:PE X e te)(hr:PA X es t)(h:jR e=true:=by rfl):PA X (e::es) (fF te t):=kI ha hr (gu h)
def strsOf:List Expr->Option (List Str)|[]=>some []|.Constant (.str x) _ _::r=>(strsOf r).map (x::·)|_=>none
def Lm(xs:List Str):TA:=fun _ H Q=>Q (xs.map V.str) H
theorem tH:∀{es:List Expr}{xs:List Str},strsOf es=some xs->PA X es (Lm xs)
 | [],xs,h=>by
  have e:xs=[]:=(Option.some.inj h).symm;subst e;exact fun pos pins s σ H Q I q=>ae pos pins s σ H Q I q
 | e::r,xs,h=>by
  cases e with
  |Constant c j p=>
   cases c with
   |str x=>
    have h':(strsOf r).map (x::·)=some xs:=h;obtain⟨ys,h1,h2⟩:=Vc.mp h';subst h2;intro pos pins s σ H Q I q;exact kI (bX (x:=x)) (tH h1) (gu rfl) pos pins s σ H Q I q
   |_=>cases h
  |_=>cases h
def Jk(hg:Gl X x)(hm:∃t,X.mg x=some (.str z t))(hd:(x == ("__debug__":Str))=false:=by decide):PE X (.Name x pos) (tC (.str z)):=by
 obtain⟨t,h⟩:=hm;exact yb hg h ⟨t,rfl⟩ hd
def Jl(hg:Gl X x)(hm:∃t,X.mg x=some (.int i t))(hd:(x == ("__debug__":Str))=false:=by decide):PE X (.Name x pos) (tC (.int i)):=by
 obtain⟨t,h⟩:=hm;exact yb hg h ⟨t,rfl⟩ hd
def aT(i:Nat){pos' pos:Pos}(hN:X.N.Nodup)(he:PE X e te)(hi:X.N[i]?=some x:=by rfl)(hx:Loc X.env.scope x:=by first|exact Or.inl rfl|exact Or.inr rfl)(hf:X.fn x=true\/X.env.scope.names.lookup x=some .local:=by first|exact .inl rfl|exact .inr rfl|assumption)
  (hs:swapsWithSole [.Name x pos'] e pos.line X.env=pure false:=by rfl) (hw:swappedStores [.Name x pos'] e X.env=pure none:=by rfl) (h1:(assignEach [.Name x pos'] X.env).map (·.2)=[assign (.Name x pos') X.env]:=by rfl) :
  PS X (.Assign [.Name x pos'] e pos) (Dr te (pR i)):=fO he (yc hN hi hx hf) hs hw h1
def bw(i:Nat)(hN:X.N.Nodup)(hi:X.N[i]?=some x:=by rfl)(hx:Loc X.env.scope x:=by first|exact Or.inl rfl|exact Or.inr rfl)(hf:X.fn x=true\/X.env.scope.names.lookup x=some .local:=by first|exact .inl rfl|exact .inr rfl|assumption):PG X (.Name x pos) (pR i):=yc hN hi hx hf
def pZ(i:Nat){pos py spos:Pos}(S:BlkScope X N k caps scope)(hc:X.calm=true)(hN:X.N.Nodup)(hi:PI X tg iter wi)
  (hg:∀C s H fp,PG (cxC X N scope C s H fp) tg g)(ht:∀C s H fp,PIf (cxC X N scope C s H fp) ifs tc)(he:∀C s H fp,PE (cxC X N scope C s H fp) elt te)
  (hi':X.N[i]?=some y:=by rfl) (hy:Loc X.env.scope y:=by first|exact Or.inl rfl|exact Or.inr rfl)
  (hs:∀x,foldedSetIterable iter X.env x=pure x:=by intro _;rfl) (hsw:swapsWith (.ListComp elt [⟨tg,iter,ifs,0⟩] scope pos) (some (.Name y py)) spos.line X.env=pure true:=by rfl)
  (hf:X.fn y=true\/X.env.scope.names.lookup y=some .local:=by first|exact .inl rfl|exact .inr rfl|assumption) :
  PS X (.Assign [.Name y py] (.ListComp elt [⟨tg,iter,ifs,0⟩] scope pos) spos) (Dr (rO k caps wi g tc te) (pR i)):=Ji S hc hN hi' hy hi hg ht he hs hsw hf
end
def dR:bootBuiltins "list"=some (.type "list"):=by decide +kernel
def cY:bootBuiltins "tuple"=some (.type "tuple"):=by decide +kernel
def nJ:bootBuiltins "str"=some (.type "str"):=by decide +kernel
def kJ:bootBuiltins "int"=some (.type "int"):=by decide +kernel
def gA:bootBuiltins "bool"=some (.type "bool"):=by decide +kernel
def MJ{K:Ab}{T S:String}{b:Bool}(h:(if (Value.type T == Value.type S)=true then some true else if PySem.W.kitMeta S=true then(fastBuiltinMro T).map (·.contains (Value.type S)) else none)=some b):PySem.W.kitOne K (.type T) (.type S)=some b:=h
def boot_isinstance:bootBuiltins "isinstance"=some (.builtin "isinstance"):=by decide +kernel
def boot_all:bootBuiltins "all"=some (.builtin "all"):=by decide +kernel
def Ln(osc:Scope)(ON N:List Str)(k:Nat)(caps:List Nat)(scope:Scope):Bool :=
 decide (scope.kind=.function)&&scope.names.all (fun y=>decide (y.2≠.cell))&&scope.names.all (fun y=>decide (y.2=.local->scope.names.lookup y.1=some .local)) &&
 scope.names.all (fun y=>decide (y.2=.free->(osc.names.lookup y.1=some .cell\/osc.names.lookup y.1=some .free)))&&decide (N.length=k+caps.length) &&
 (List.range caps.length).all fun j=>match caps[j]?,N[k+j]? with|some i,some x=>decide (ON[i]?=some x)&&decide (scope.names.lookup x=some .free)|_,_=>false
def cz{X:Cx}(h:Ln osc ON N k caps scope=true)(ho:X.env.scope=osc)(hN:X.N=ON):BlkScope X N k caps scope:=by
 unfold Ln at h;simp only[Vi,decide_eq_true_eq,Xj]at h;obtain⟨⟨⟨⟨⟨h1,h2⟩,h3⟩,h4⟩,h5⟩,h6⟩:=h;refine⟨h1,h2,h3,fun y hy hf=>?_,h5,fun j i hj=>?_⟩
 ·show X.env.scope.names.lookup y.1=_\/X.env.scope.names.lookup y.1=_;rw[ho];exact h4 y hy hf
 ·have hlt:j<caps.length:=(Zd.mp hj).1;have q:=h6 j (Qj.mpr hlt);rw[hj]at q;cases e:N[k+j]? with
  |none=>rw[e]at q;cases q
  |some x=>
   rw[e]at q;have q':(decide (ON[i]?=some x)&&decide (scope.names.lookup x=some .free))=true:=q;simp only[Vi,decide_eq_true_eq]at q';exact⟨x,rfl,by rw[hN];exact q'.1,q'.2⟩
def aY(h:H p=none)(o:HO):Same H (upd H p o):=fun b u q=>by rw[aR (bv q h)];exact q
def OU:atI (x::r) 0=some x:=iX (j:=0) rfl
def wV{xs:List α}{i:Int}(h0:0<=i)(h1:i<xs.length):∃v,atI xs i=some v/\v∈xs/\xs[i.toNat]?=some v:=by
 have hk:i.toNat<xs.length:=by lia
 have ek:i=((i.toNat:Nat):Int):=by lia
 refine⟨xs[i.toNat],?_,Xl hk,Ya hk⟩;have q:atI xs ((i.toNat:Nat):Int)=some xs[i.toNat]:=iX (Ya hk);rw[<-ek]at q;exact q
end L2
namespace L2
open PySem PySem.Spec PyProof.Rows
section
variable {X:Cx}
def q9:MtR X "str.startswith" (fun x vs H Q=>∃(a b:Str),x=.str a/\vs=[.str b]/\Q (.bl (Txt.startswith a b)) H):=by
 intro pins s σ H x vs v us Q I rx rv h;obtain⟨a,b,rfl,rfl,q⟩:=h;obtain⟨t,rfl⟩:=rx;obtain⟨u,rfl,ru⟩:=vals1 rv;obtain⟨t',rfl⟩:=ru;exact SC.startswith ⟨.bl _,H,I,rfl,q⟩
def mulOk_of{x:Str}(h0:0<=n)(hn:n<=1000)(hx:x.length<=1000):MulOk x n:=by
 have hx':(x.length:Int)<=1000:=by lia
 have hm:(x.length:Int)*n<=1000*1000:=Int.mul_le_mul hx' hn h0 (by decide)
 have hm2:x.length*n.toNat<=1000*1000:=Nat.mul_le_mul hx (by lia)
 refine⟨?_,fun h1 _=>?_,fun h1 h2=>?_⟩
 ·rw[Af (by lia),Af (by lia)];rfl
 ·have:(x.length:Int)<=(2 ^ 63-1) / n:=(Int.le_ediv_iff_mul_le (by lia)).mpr (Int.le_trans hm (by decide))
  lia
 ·unfold Builtin.Str.tooLong;have:=DI (Wb 1000);exact Af (by rw[B9];lia)
def wW:OpR X (binaryOp .Mult) (fun x y H Q=>∃(a:Str)(n:Int),x=.str a/\y=.int n/\MulOk a n/\Q (.str (Txt.mul a n)) H):=by
 intro pins s σ H x y v u Q I rx ry h;obtain⟨a,n,rfl,rfl,hok,q⟩:=h;obtain⟨t,rfl⟩:=rx;obtain⟨t',rfl⟩:=ry;exact SB.mul hok fun t2 k=>⟨.str _,H,I.tok k,⟨t2,rfl⟩,q⟩
theorem MK(hu:X.A.units<cLine):OpR X (compareOp .NotEq) (fun x y H Q=>∃(a b:Addr)(xs:List V),x=.ref a/\y=.ref b/\SqL X.K H a xs/\SqL X.K H b []/\Q (.bl (!xs.isEmpty)) H):=by
 intro pins s σ H x y v u Q I rx ry h;obtain⟨a,b,xs,rfl,rfl,ha,hb,q⟩:=h;cases rx;cases ry;obtain⟨its,r,pl,_⟩:=I.list ha;obtain⟨its2,r2,pl2,_⟩:=I.list hb;cases r2;cases xs with
 |nil=>
  cases r;exact SeqAt.RcNeAt.lists (e:=fun _=>true) pl.isList pl2.isList rfl hu (fun j h1 _=>absurd h1 (by simp)) _ _ _ _ ⟨.bl _,H,I,rfl,q⟩
 |cons x1 xr=>
  cases r;exact CY pl.isList pl2.isList (by simp) hu _ _ _ _ ⟨.bl _,H,I,rfl,q⟩
end
def Jm{X:Cx}{K:Ab}(h:X.K=K):IxR X (rIx K):=h ▸ My
structure FunD(K:Ab)(x qual:Str)(st:Stmt)(ds:List Value)(f:Addr)(fd:FuncData):Prop where
 ex:∃(oc:Value)(od:Option Addr)(T:Addr)(oT:Obj)(nT:Nat)(kV doc pm:Value)(an:Option Addr)(cdv ct:Value)(osl:Array (Option Value)),
  fd=PySem.W.fnOf x qual (ft st) (dr st) (ak st) (.ref T) kV doc pm an cdv ct/\K.lookup f=some ⟨oc,od,.func fd,osl⟩/\PySem.W.codeIn K cdv qual=true/\K.lookup T=some oT/\oT.data=.seq ds.toArray nT
 kp:PySem.W.keepIn K (.ref f)=true
structure CalD(P:Program)(w:World)(K:Ab)(mg:Str->Option Value)(base:Heap)(x:Str)(k:Nat)(ps:List Str)(dvs:List V)(sp:Sp):Prop where
 ex:∃f fd ds,FnOk P w K mg base CX0 k f fd ps sp/\mg x=some (.ref f)/\PySem.W.keepIn K (.ref f)=true/\Binds K fd ps ds/\Vals dvs ds
def Lo(sp:Sp)(dvs:List V)(t:TA):TE:=fun σ H Q=>t σ H fun vs H1=>sp (vs++dvs) H1 Q E0
section
variable {P:Program}{w:World}{K:Ab}{mg:Str->Option Value}{base:Heap}
def FunD.ok{x qual:Str}{st:Stmt}{ds:List Value}{f:Addr}{fd:FuncData}{N ps:List Str}{k:Nat}{sp:Sp}(F:FunD K x qual st ds f fd)(S:FnScope N ps (ak st))(len:∀vs H Q E,sp vs H Q E->vs.length=ps.length)
  (hbody:∀(cdv:Value)(A:Around)(outer:List Env)(s:Shared)(H:Hp)(vs:List V)(Q:VK)(E:XK),Room k (A.deeper (envOfC qual (ak st) s.heap.objs.size f cdv))->sp vs H Q E->
   ∃t,PSs (va CX0 P w K mg base N qual (ak st) f cdv A outer s H E).nox (dr st) t/\t { nx:=fun _ H'=>Q .non H',rt:=Q } (start N vs) H):FnOk P w K mg base CX0 (k+1) f fd ps sp:=by
 obtain⟨oc,od,T,oT,nT,kV,doc,pm,an,cdv,ct,osl,rfl,lk,hcd,_,_⟩:=F.ex;refine Lg lk hcd S len fun A outer s H vs Q E hr hsp=>?_;obtain⟨t,h,q⟩:=hbody cdv A outer s H vs Q E hr hsp;exact⟨t,h.nox,q⟩
def FunD.binds{x qual:Str}{st:Stmt}{ds:List Value}{f:Addr}{fd:FuncData}{ps:List Str}(F:FunD K x qual st ds f fd)
  (h:∀(T:Addr)(kV doc pm:Value)(an:Option Addr)(cdv ct:Value)(us:List Value),(us++ds).length=ps.length->
   ∃k:Option (Array Value)->Sem (List (Str×Value)),bindArgs (PySem.W.fnOf x qual (ft st) (dr st) (ak st) (.ref T) kV doc pm an cdv ct) ⟨us,[]⟩=seqItems? (.ref T) >>= k/\k (some ds.toArray)=pure (ps.zip (us++ds))):Binds K fd ps ds:=by
 obtain⟨oc,od,T,oT,nT,kV,doc,pm,an,cdv,ct,osl,rfl,lk,hcd,hT,hS⟩:=F.ex;intro s us hK hl;obtain⟨k,h1,h2⟩:=h T kV doc pm an cdv ct us hl;exact BindsTo.of_defaults (T:=T) rfl (hK T oT hT) hS h1 h2
end
def Jo{X:Cx}(C:CalD X.prog X.w X.K X.mg X.base x k ps dvs sp)(hr:Room k' X.A)(hg:Gl X x)(ha:PA X (e::es) t)(hk:k<=k':=by decide)
  (hdb:(x == ("__debug__":Str))=false:=by decide) (he:starEach (e::es) X.env=(false,eval e X.env)::starEach es X.env:=by rfl) (hpl:(backTo pos (starEach es X.env)).any (·.1)=false:=by rfl) :
  PE X (.Call (.Name x p) (e::es) [] pos) (Lo sp dvs t):=by
 obtain⟨f,fd,ds,F,hm,hkp,hb,hv⟩:=C.ex;intro pins s σ H Q I h;exact yi F (hr.mono hk) hg hm hkp hb hv Lk ha hdb he hpl pins s σ H Q I h
theorem jS[DecidableEq α]:∀(l m:List α),l.Nodup->(∀x∈l,x∈m)->l.length<=m.length
 |[],_,_,_=>Xi _
 | a::l,m,h,hs=>by
  have hm:a∈m:=hs a Va;have h1:=Qg.mp h;have ih:=jS l (m.erase a) h1.2 fun x hx=>by
   have hne:x≠a:=fun e=>h1.1 (e ▸ hx);exact(List.mem_erase_of_ne hne).mpr (hs x (Vb _ hx))
  have hl:=List.length_erase_of_mem hm;have hp:0<m.length:=Di hm;rw[Qc];lia
end L2
namespace VF
open PySem L2
abbrev AS:=Addr->Prop
def bsP{α β γ:Type}{o:Option (α×β)}{f:α×β->Option γ}{z:γ}{P:Prop}(h:o.bind f=some z)(k:∀a b,o=some (a,b)->f (a,b)=some z->P):P:=by
 obtain⟨⟨a,b⟩,e,h⟩:=Option.bind_eq_some_iff.mp h;exact k a b e h
def bsO{α γ:Type}{o:Option α}{f:α->Option γ}{z:γ}{P:Prop}(h:o.bind f=some z)(k:∀a,o=some a->f a=some z->P):P:=by
 obtain⟨a,e,h⟩:=Option.bind_eq_some_iff.mp h;exact k a e h
def aM{i:Decidable c}(h:(if c then x else none)=some z):c/\x=some z:=by simp_all
abbrev U(O Z:AS):AS:=fun p=>O p\/Z p
abbrev ins(p:Addr)(O:AS):AS:=fun b=>b=p\/O b
inductive D where
 | non|bl (b:Bool)|int (i:Int)|str (x:Str)|tup (ds:List D)|lst (ds:List D)|fl (ds:List D)|ty (n:String)|dk (kvs:List (Key×D))|dt (kvs:List (List Key×D))
def TupA(K:Ab)(Y:AS)(H:Hp)(a:Addr)(vs:List V):Prop:=H a=some (.tup vs)/\¬ Y a
def LstA(K:Ab)(Y:AS)(H:Hp)(a:Addr)(vs:List V):Prop:=(Rd H a (.lst vs)/\¬ Y a)\/∀H',SqL K H' a vs
def TupA.sq(h:TupA K Y H a vs):SqT K H a vs:=.inl (.inl h.1)
def LstA.sq(h:LstA K Y H a vs):SqL K H a vs:=by
 rcases h with h|h
 ·exact .inl h.1
 ·exact h H
def KA(Y:AS)(H:Hp)(as:List Addr):Prop:=∀b∈as,¬ Y b/\H b≠none
theorem KA.go(h:KA Y H as)(k:∀b o,H b=some o->¬ Y b->H' b=some o)(n:∀b,Y' b->Y b\/H b=none):KA Y' H' as:=fun b hb=>by
 obtain⟨h1,h2⟩:=h b hb;refine⟨fun z=>(n b z).elim h1 h2,?_⟩;cases e:H b with|none=>exact absurd e h2|some o=>rw[k b o e h1];simp
def KA.less(h:KA Y H as)(n:∀b,Y' b->Y b):KA Y' H as:=fun b hb=>⟨fun z=>(h b hb).1 (n b z),(h b hb).2⟩
inductive DA(K:Ab)(Y:AS)(H:Hp):V->D->Prop where
 | non:DA K Y H .non .non
 | bl (b:Bool):DA K Y H (.bl b) (.bl b)
 | int (i:Int):DA K Y H (.int i) (.int i)
 | str (x:Str):DA K Y H (.str x) (.str x)
 | tup {a:Addr} {vs:List V} {ds:List D}:TupA K Y H a vs->vs.length=ds.length->(∀(i:Nat) v d,vs[i]?=some v->ds[i]?=some d->DA K Y H v d)->DA K Y H (.ref a) (.tup ds)
 | ty (n:String):DA K Y H (.ty n) (.ty n)
 | lst {a:Addr} {vs:List V} {ds:List D}:¬ Y a->H a=some (.lst vs)->vs.length=ds.length->(∀(i:Nat) v d,vs[i]?=some v->ds[i]?=some d->DA K Y H v d)->DA K Y H (.ref a) (.lst ds)
 | fl {a:Addr} {vs:List V} {ds:List D}:LstA K Y H a vs->vs.length=ds.length->(∀(i:Nat) v d,vs[i]?=some v->ds[i]?=some d->DA K Y H v d)->DA K Y H (.ref a) (.fl ds)
 | dk {a:Addr} {kvs:List (Key×V)} {ds:List (Key×D)}:¬ Y a->H a=some (.dK kvs)->kvs.map (·.1)=ds.map (·.1)->(∀(i:Nat) v d,kvs[i]?=some v->ds[i]?=some d->DA K Y H v.2 d.2)->DA K Y H (.ref a) (.dk ds)
 | dt {a:Addr} {ep:Nat×List Addr} {kvs:List (List Key×V)} {ds:List (List Key×D)}:¬ Y a->KA Y H ep.2->H a=some (.dT ep kvs)->kvs.map (·.1)=ds.map (·.1)->(∀(i:Nat) v d,kvs[i]?=some v->ds[i]?=some d->DA K Y H v.2 d.2)->DA K Y H (.ref a) (.dt ds)
def El(K:Ab)(Y:AS)(H:Hp)(vs:List V)(ds:List D):Prop:=vs.length=ds.length/\∀(i:Nat) v d,vs[i]?=some v->ds[i]?=some d->DA K Y H v d
def Lv(H:Hp)(p:Addr):Prop:=H p≠none/\∀vs,H p≠some (.tup vs)
theorem Lv.same(h:Lv H p)(s:∀o,H p=some o->H' p=some o):Lv H' p:=by
 cases e:H p with
 |none=>exact absurd e h.1
 |some o=>
  refine⟨by rw[s o e];simp,fun vs z=>h.2 vs ?_⟩
  rw[s o e]at z;rw[e];exact z
structure Ext(O:AS)(H:Hp)(O':AS)(H':Hp):Prop where
 kp:∀b o,H b=some o->¬ O b->H' b=some o
 nw:∀b,O' b->O b\/H b=none
 al:∀b,H b≠none->H' b≠none
 lv:∀b,Lv H b->Lv H' b
section
variable {K:Ab}{Y Y' O O' O1 O2 Z:AS}{H H' H1 H2:Hp}{v:V}{d:D}{vs:List V}{ds:List D}{a p:Addr}
def Ext.refl(O:AS)(H:Hp):Ext O H O H:=⟨fun _ _ h _=>h,fun _ h=>.inl h,fun _ h=>h,fun _ h=>h⟩
def Ext.trans(a:Ext O H O1 H1)(b:Ext O1 H1 O2 H2):Ext O H O2 H2:=by
 refine⟨fun c o h n=>b.kp c o (a.kp c o h n) fun z=>?_,fun c h=>?_,fun c h=>b.al c (a.al c h),fun c h=>b.lv c (a.lv c h)⟩
 ·rcases a.nw c z with q|q
  ·exact n q
  ·rw[h]at q;cases q
 ·rcases b.nw c h with q|q
  ·exact a.nw c q
  ·right;cases e:H c with|none=>rfl|some o=>exact absurd q (a.al c (by rw[e];simp))
theorem Same.ext(h:Same H H'):Ext O H O H':=⟨fun b o e _=>h b o e,fun _ z=>.inl z,fun b z=>by
 cases e:H b with|none=>exact absurd e z|some o=>rw[h b o e];simp,fun b z=>z.same fun o e=>h b o e⟩
def Rd.keep(r:Rd H a u)(k:∀o,H a=some o->H' a=some o):Rd H' a u:=by
 rcases r with r|⟨o,r⟩
 ·exact .inl (k _ r)
 ·exact .inr ⟨o,k _ r⟩
def Rd.live(r:Rd H a u):H a≠none:=by
 rcases r with r|⟨o,r⟩<;>(rw[r];simp)
def TupA.go(h:TupA K Y H a vs)(k:∀b o,H b=some o->¬ Y b->H' b=some o)(n:∀b,Y' b->Y b\/H b=none):TupA K Y' H' a vs:=by grind [TupA]
def LstA.go(h:LstA K Y H a vs)(k:∀b o,H b=some o->¬ Y b->H' b=some o)(n:∀b,Y' b->Y b\/H b=none):LstA K Y' H' a vs:=by
 rcases h with⟨h1,h2⟩|h
 ·refine .inl ⟨Rd.keep h1 fun o e=>k a o e h2,fun z=>?_⟩;rcases n a z with q|q
  ·exact h2 q
  ·exact Rd.live h1 q
 ·exact .inr h
theorem DA.go(h:DA K Y H v d)(k:∀b o,H b=some o->¬ Y b->H' b=some o)(n:∀b,Y' b->Y b\/H b=none):DA K Y' H' v d:=by
 have no:∀a u,H a=some u->¬ Y a->¬ Y' a:=fun a u e ny z=>by
  rcases n a z with q|q
  ·exact ny q
  ·rw[e]at q;cases q
 induction h with|non=>exact .non|bl b=>exact .bl b|int i=>exact .int i|str x=>exact .str x|tup h1 h2 _ ih=>exact .tup (h1.go k n) h2 ih|ty n=>exact .ty n|lst h0 h1 h2 _ ih=>exact .lst (no _ _ h1 h0) (k _ _ h1 h0) h2 ih|fl h1 h2 _ ih=>exact .fl (h1.go k n) h2 ih|dk h0 h1 h2 _ ih=>exact .dk (no _ _ h1 h0) (k _ _ h1 h0) h2 ih|dt h0 ka h1 h2 _ ih=>exact .dt (no _ _ h1 h0) (ka.go k n) (k _ _ h1 h0) h2 ih
def DA.ext(h:DA K (U O Z) H v d)(e:Ext O H O' H'):DA K (U O' Z) H' v d :=
 h.go (fun b o q n=>e.kp b o q fun z=>n (.inl z)) fun b z=>z.elim (fun q=>(e.nw b q).elim (fun x=>.inl (.inl x)) .inr) fun q=>.inl (.inr q)
def DA.less(h:DA K Y H v d)(n:∀b,Y' b->Y b):DA K Y' H v d:=h.go (fun _ _ e _=>e) fun b z=>.inl (n b z)
def DA.same(h:DA K Y H v d)(s:Same H H'):DA K Y H' v d:=h.go (fun b o e _=>s b o e) fun _ z=>.inl z
def DA.away(h:DA K Y H v d)(s:Same H H')(hp:H p=none):DA K (ins p Y) H' v d:=h.go (fun b o e _=>s b o e) fun b z=>z.elim (fun q=>.inr (q ▸ hp)) .inl
theorem El.go(h:El K Y H vs ds)(k:∀b o,H b=some o->¬ Y b->H' b=some o)(n:∀b,Y' b->Y b\/H b=none):El K Y' H' vs ds:=⟨h.1,fun i v d a b=>(h.2 i v d a b).go k n⟩
theorem El.ext(h:El K (U O Z) H vs ds)(e:Ext O H O' H'):El K (U O' Z) H' vs ds:=⟨h.1,fun i v d a b=>(h.2 i v d a b).ext e⟩
theorem El.less(h:El K Y H vs ds)(n:∀b,Y' b->Y b):El K Y' H vs ds:=⟨h.1,fun i v d a b=>(h.2 i v d a b).less n⟩
theorem El.same(h:El K Y H vs ds)(s:Same H H'):El K Y H' vs ds:=⟨h.1,fun i v d a b=>(h.2 i v d a b).same s⟩
theorem El.away(h:El K Y H vs ds)(s:Same H H')(hp:H p=none):El K (ins p Y) H' vs ds:=⟨h.1,fun i v d a b=>(h.2 i v d a b).away s hp⟩
def El.nil:El K Y H [] []:=⟨rfl,fun i v d h=>by simp at h⟩
def El.cons(h:DA K Y H v d)(r:El K Y H vs ds):El K Y H (v::vs) (d::ds):=by grind [El]
theorem El.uncons(h:El K Y H vs (d::ds)):∃v r,vs=v::r/\DA K Y H v d/\El K Y H r ds:=by
 cases vs with
 |nil=>have:=h.1;simp at this
 |cons v r=>
  refine⟨v,r,rfl,h.2 0 v d rfl rfl,?_,fun i v' d' h1 h2=>h.2 (i+1) v' d' (by simpa using h1) (by simpa using h2)⟩
  have:=h.1;simpa using this
def El.unnil(h:El K Y H vs []):vs=[]:=by
 have:=h.1;simpa using this
def El.app(h:El K Y H vs ds)(r:El K Y H ws es):El K Y H (vs++ws) (ds++es):=by grind [El]
def El.at(h:El K Y H vs ds){i:Nat}{d:D}(e:ds[i]?=some d):∃v,vs[i]?=some v/\DA K Y H v d:=by
 have hi:i<ds.length:=(Zd.mp e).1;have hv:i<vs.length:=by rw[h.1];exact hi
 exact⟨vs[i],Ya hv,h.2 i _ d (Ya hv) e⟩
def El.one(h:DA K Y H v d):El K Y H [v] [d]:=El.cons h El.nil
def El.rev(h:El K Y H vs ds):El K Y H vs.reverse ds.reverse:=by grind [El]
theorem El.take(h:El K Y H vs ds)(n:Nat):El K Y H (vs.take n) (ds.take n):=by grind [El]
theorem El.drop(h:El K Y H vs ds)(n:Nat):El K Y H (vs.drop n) (ds.drop n):=by
 refine⟨by simp[h.1],fun i v d h1 h2=>?_⟩
 rw[Wi]at h1 h2;exact h.2 _ v d h1 h2
theorem El.set(h:El K Y H vs ds)(hv:DA K Y H v d)(j:Nat):El K Y H (vs.set j v) (ds.set j d):=by grind [El]
def El.erase(h:El K Y H vs ds)(j:Nat):El K Y H (vs.eraseIdx j) (ds.eraseIdx j):=by grind [El]
def OA(K:Ab)(Y:AS)(H:Hp)(p:Addr):D->Prop|.lst ds=>∃vs,H p=some (.lst vs)/\El K Y H vs ds|.dk ds=>∃kvs,H p=some (.dK kvs)/\kvs.map (·.1)=ds.map (·.1)/\∀(i:Nat) v d,kvs[i]?=some v->ds[i]?=some d->DA K Y H v.2 d.2|.dt ds=>∃ep kvs,KA Y H ep.2/\H p=some (.dT ep kvs)/\kvs.map (·.1)=ds.map (·.1)/\∀(i:Nat) v d,kvs[i]?=some v->ds[i]?=some d->DA K Y H v.2 d.2|_=>False
theorem OA.live(h:OA K Y H p d):H p≠none:=by
 cases d with
 |lst ds=>obtain⟨vs,e,_⟩:=h;rw[e];simp
 |dk ds=>obtain⟨vs,e,_⟩:=h;rw[e];simp
 |dt ds=>obtain⟨_,vs,_,e,_⟩:=h;rw[e];simp
 |_=>exact h.elim
theorem OA.lv(h:OA K Y H p d):Lv H p:=by
 cases d with
 |lst ds=>obtain⟨vs,e,_⟩:=h;exact⟨by rw[e];simp,fun _ z=>by rw[e]at z;cases z⟩
 |dk ds=>obtain⟨vs,e,_⟩:=h;exact⟨by rw[e];simp,fun _ z=>by rw[e]at z;cases z⟩
 |dt ds=>obtain⟨_,vs,_,e,_⟩:=h;exact⟨by rw[e];simp,fun _ z=>by rw[e]at z;cases z⟩
 |_=>exact h.elim
theorem OA.go(h:OA K Y H p d)(hp:H' p=H p)(k:∀b o,H b=some o->¬ Y b->H' b=some o)(n:∀b,Y' b->Y b\/H b=none):OA K Y' H' p d:=by
 cases d with
 |lst ds=>obtain⟨vs,e,q⟩:=h;exact⟨vs,hp.trans e,q.go k n⟩
 |dk ds=>obtain⟨vs,e,q1,q2⟩:=h;exact⟨vs,hp.trans e,q1,fun i v d a b=>(q2 i v d a b).go k n⟩
 |dt ds=>obtain⟨ep,vs,ka,e,q1,q2⟩:=h;exact⟨ep,vs,ka.go k n,hp.trans e,q1,fun i v d a b=>(q2 i v d a b).go k n⟩
 |_=>exact h.elim
theorem OA.da(h:OA K Y H p d)(hp:¬ Y' p)(n:∀b,Y' b->Y b):DA K Y' H (.ref p) d:=by
 cases d with
 |lst ds=>obtain⟨vs,e,q⟩:=h;exact .lst hp e q.1 (q.less n).2
 |dk ds=>obtain⟨vs,e,q1,q2⟩:=h;exact .dk hp e q1 fun i v d a b=>(q2 i v d a b).less n
 |dt ds=>obtain⟨ep,vs,ka,e,q1,q2⟩:=h;exact .dt hp (ka.less n) e q1 fun i v d a b=>(q2 i v d a b).less n
 |_=>exact h.elim
def BA(K:Ab)(Y:AS)(H:Hp)(v:V):D->Prop|.non=>v=.non|.bl b=>v=.bl b|.int i=>v=.int i|.str x=>v=.str x|.tup ds=>∃a vs,v=.ref a/\TupA K Y H a vs/\El K Y H vs ds|.ty n=>v=.ty n|.lst ds=>∃a vs,v=.ref a/\H a=some (.lst vs)/\El K Y H vs ds|.fl ds=>∃a vs,v=.ref a/\LstA K Y H a vs/\El K Y H vs ds|.dk ds=>∃a kvs,v=.ref a/\H a=some (.dK kvs)/\kvs.map (·.1)=ds.map (·.1)/\∀(i:Nat) v d,kvs[i]?=some v->ds[i]?=some d->DA K Y H v.2 d.2|.dt ds=>∃a ep kvs,v=.ref a/\KA Y H ep.2/\H a=some (.dT ep kvs)/\kvs.map (·.1)=ds.map (·.1)/\∀(i:Nat) v d,kvs[i]?=some v->ds[i]?=some d->DA K Y H v.2 d.2
theorem DA.ba(h:DA K Y H v d):BA K Y H v d:=by
 cases h with|non=>rfl|bl b=>rfl|int i=>rfl|str x=>rfl|tup h1 h2 h3=>exact⟨_,_,rfl,h1,h2,h3⟩|ty n=>rfl|lst h0 h1 h2 h3=>exact⟨_,_,rfl,h1,h2,h3⟩|fl h1 h2 h3=>exact⟨_,_,rfl,h1,h2,h3⟩|dk h0 h1 h2 h3=>exact⟨_,_,rfl,h1,h2,h3⟩|dt h0 ka h1 h2 h3=>exact⟨_,_,_,rfl,ka,h1,h2,h3⟩
theorem OA.ba(h:OA K Y H p d):BA K Y H (.ref p) d:=by
 cases d with
 |lst ds=>obtain⟨vs,e,q⟩:=h;exact⟨p,vs,rfl,e,q⟩
 |dk ds=>obtain⟨vs,e,q1,q2⟩:=h;exact⟨p,vs,rfl,e,q1,q2⟩
 |dt ds=>obtain⟨ep,vs,ka,e,q1,q2⟩:=h;exact⟨p,ep,vs,rfl,ka,e,q1,q2⟩
 |_=>exact h.elim
end
end VF
namespace VF
open PySem L2
inductive Sl where
 | e|v (d:D)|o (d:D)|io (d:D)
abbrev En:=List Sl
def Sl.get:Sl->Option D|.e=>none|.v d=>some d|.o d=>some d|.io d=>some d
def Sl.ow:Sl->Option D|.o d=>some d|.io d=>some d|_=>none
def Sl.put(y:D):Sl->Sl|.io _=>.io y|_=>.o y
def Sl.put_ow(y:D)(s:Sl):(s.put y).ow=some y:=by cases s<;>rfl
def Sl.put_v(y z:D)(s:Sl):s.put y≠.v z:=by cases s<;>(intro e;cases e)
inductive Rs where
 | d (x:D)|f (x:D)|s (i:Nat)
structure ER(K:Ab)(st:En)(σ:St)(H:Hp)(O Z:AS):Prop where
 len:st.length=σ.length
 val:∀(i:Nat) d,st[i]?=some (.v d)->∃v,σ[i]?=some (some v)/\DA K (U O Z) H v d
 own:∀(i:Nat) s d,st[i]?=some s->s.ow=some d->∃p,σ[i]?=some (some (.ref p))/\O p/\OA K (U O Z) H p d
 uni:∀(i j:Nat) s t d d' p,st[i]?=some s->s.ow=some d->st[j]?=some t->t.ow=some d'->σ[i]?=some (some (.ref p))->σ[j]?=some (some (.ref p))->i=j
 dis:∀p,O p->¬ Z p
 liv:∀p,U O Z p->Lv H p
structure Kp(st st':En):Prop where
 len:st'.length=st.length
 has:∀(i:Nat) s,st[i]?=some s->s.get≠none->∃s',st'[i]?=some s'/\s'.get≠none
 io:∀(i:Nat) d,st[i]?=some (.io d)->∃d',st'[i]?=some (.io d')
def Kp.refl(st:En):Kp st st:=⟨rfl,fun i s h g=>⟨s,h,g⟩,fun i d h=>⟨d,h⟩⟩
theorem Kp.trans(x:Kp a b)(y:Kp b c):Kp a c:=by
 refine⟨y.len.trans x.len,fun i s h g=>?_,fun i d h=>?_⟩
 ·obtain⟨s',h',g'⟩:=x.has i s h g;exact y.has i s' h' g'
 ·obtain⟨d',h'⟩:=x.io i d h;exact y.io i d' h'
def RVal(K:Ab)(Z:AS)(st:En)(σ:St)(H:Hp)(O:AS)(v:V):Rs->Prop|.d x=>DA K (U O Z) H v x|.f x=>∃p,v=.ref p/\¬ O p/\¬ Z p/\OA K (ins p (U O Z)) H p x/\ER K st σ H (ins p O) Z|.s i=>σ[i]?=some (some v)/\∃s,st[i]?=some s/\s.get≠none
def cont(st:En):Rs->Option D|.d x=>some x|.f x=>some x|.s i=>(st[i]?).bind Sl.get
def Rs.nf:Rs->Rs|.f x=>.d x|r=>r
section
variable {K:Ab}{Y Y' O O' O1 O2 Z:AS}{H H' H1 H2:Hp}{v:V}{d:D}{vs:List V}{ds:List D}{a p:Addr}{st st' st1 st2:En}{σ σ':St}
def g9(st:En)(r:Rs):cont st r.nf=cont st r:=by cases r<;>rfl
theorem RVal.nf{r:Rs}(h:RVal K Z st σ H O v r):RVal K Z st σ H O v r.nf:=by
 cases r with
 |d x=>exact h
 |s i=>exact h
 |f x=>
  obtain⟨p,rfl,h1,h2,h3,_⟩:=h;exact h3.da (fun z=>z.elim h1 h2) fun b z=>.inr z
theorem RVal.ba(h:RVal K Z st σ H O v r)(E:ER K st σ H O Z)(c:cont st r=some d):BA K (U O Z) H v d:=by
 cases r with
 |d x=>cases c;exact DA.ba h
 |f x=>
  cases c;have:=RVal.nf h;exact DA.ba (show DA K (U O Z) H v _ from this)
 |s i=>
  obtain⟨h1,s,h2,h3⟩:=h;have c':(st[i]?).bind Sl.get=some d:=c;rw[h2]at c';cases s with
  |e=>cases c'
  |v x=>
   cases c';obtain⟨u,g1,g2⟩:=E.val i _ h2;rw[h1]at g1;cases g1;exact g2.ba
  |o x=>
   cases c';obtain⟨p,g1,g2,g3⟩:=E.own i _ _ h2 rfl;rw[h1]at g1;cases g1;exact g3.ba
  |io x=>
   cases c';obtain⟨p,g1,g2,g3⟩:=E.own i _ _ h2 rfl;rw[h1]at g1;cases g1;exact g3.ba
theorem RVal.ext{r:Rs}(h:RVal K Z st σ H O v r.nf)(e:Ext O H O' H')(k:Kp st st'):RVal K Z st' σ H' O' v r.nf:=by
 cases r with
 |d x=>exact DA.ext (show DA K (U O Z) H v x from h) e
 |f x=>exact DA.ext (show DA K (U O Z) H v x from h) e
 |s i=>
  obtain⟨h1,s,h2,h3⟩:=h;exact⟨h1,k.has i s h2 h3⟩
theorem ER.same(E:ER K st σ H O Z)(s:Same H H'):ER K st σ H' O Z:=by
 refine⟨E.len,fun i d h=>?_,fun i s' d h1 h2=>?_,E.uni,E.dis,fun p hp=>?_⟩
 ·obtain⟨v,h1,h2⟩:=E.val i d h;exact⟨v,h1,h2.same s⟩
 ·obtain⟨p,g1,g2,g3⟩:=E.own i s' d h1 h2;refine⟨p,g1,g2,g3.go ?_ (fun b o e _=>s b o e) fun b z=>.inl z⟩;cases e:H p with|none=>exact absurd e g3.live|some o=>exact s p o e
 ·exact(E.liv p hp).same fun o e=>s p o e
theorem ER.away(E:ER K st σ H O Z)(s:Same H H')(hp:H p=none)(hp':Lv H' p):ER K st σ H' (ins p O) Z:=by
 have sub:∀b,U (ins p O) Z b->ins p (U O Z) b:=fun b z=>by
  rcases z with(z|z)|z
  ·exact .inl z
  ·exact .inr (.inl z)
  ·exact .inr (.inr z)
 refine⟨E.len,fun i d h=>?_,fun i s' d h1 h2=>?_,E.uni,fun q hq=>?_,fun q hq=>?_⟩
 ·obtain⟨v,h1,h2⟩:=E.val i d h;exact⟨v,h1,(h2.away s hp).less sub⟩
 ·obtain⟨q,g1,g2,g3⟩:=E.own i s' d h1 h2;refine⟨q,g1,.inr g2,g3.go ?_ (fun b o e _=>s b o e) fun b z=>?_⟩
  ·cases e:H q with|none=>exact absurd e g3.live|some o=>exact s q o e
  ·rcases sub b z with z|z
   ·exact .inr (z ▸ hp)
   ·exact .inl z
 ·rcases hq with rfl|hq
  ·exact fun z=>(E.liv _ (.inr z)).1 hp
  ·exact E.dis q hq
 ·rcases hq with(rfl|hq)|hq
  ·exact hp'
  ·exact(E.same s).liv q (.inl hq)
  ·exact(E.same s).liv q (.inr hq)
def ER.free(E:ER K st σ H O Z)(hp:H p=none):¬ O p/\¬ Z p:=⟨fun z=>(E.liv p (.inl z)).1 hp,fun z=>(E.liv p (.inr z)).1 hp⟩
def ER.new(E:ER K st σ H O Z)(hp:H p=none)(el:El K (U O Z) H vs ds):ER K st σ (upd H p (.lst vs)) O Z/\RVal K Z st σ (upd H p (.lst vs)) O (.ref p) (.f (.lst ds)):=by
 have s:=aY hp (.lst vs);have hf:=E.free hp;refine⟨E.same s,p,rfl,hf.1,hf.2,⟨vs,bq,el.away s hp⟩,E.away s hp ⟨by rw[bq];simp,fun _ z=>by rw[bq]at z;cases z⟩⟩
def ER.newT(E:ER K st σ H O Z)(hp:H p=none)(el:El K (U O Z) H vs ds):ER K st σ (upd H p (.tup vs)) O Z/\RVal K Z st σ (upd H p (.tup vs)) O (.ref p) (.d (.tup ds)):=by
 have s:=aY hp (.tup vs);have hf:=E.free hp;exact⟨E.same s,.tup ⟨bq,fun z=>z.elim hf.1 hf.2⟩ el.1 (el.same s).2⟩
def DM(st:En)(i:Nat):Option En:=match st[i]? with|some (.v _)=>some st|some (.o d)=>some (st.set i (.v d))|_=>none
def Fk(st:En):Rs->Option En|.s i=>DM st i|_=>some st
def aD{l:List α}(h:i≠j):(l.set i x)[j]?=l[j]?:=by rw[Ba,Aj h]
def bm{l:List α}(h:l[i]?=some y):(l.set i x)[i]?=some x:=by
 have hi:=(Zd.mp h).1;rw[Ba,Ag rfl,Ag hi]
def Jp(h:DM st i=some st'):Kp st st'/\∃d,st'[i]?=some (.v d)/\(st[i]?).bind Sl.get=some d:=by
 unfold DM at h;split at h
 ·rename_i d e
  cases h;exact⟨Kp.refl st,d,e,by rw[e];rfl⟩
 ·rename_i d e
  cases h;refine⟨⟨by simp,fun j s hj g=>?_,fun j d' hj=>?_⟩,d,bm e,by rw[e];rfl⟩
  ·by_cases q:i=j
   ·subst q;exact⟨.v d,bm e,by simp[Sl.get]⟩
   ·exact⟨s,by rw[aD q];exact hj,g⟩
  ·have q:i≠j:=fun z=>by subst z;rw[e]at hj;cases hj
   exact⟨d',by rw[aD q];exact hj⟩
 ·cases h
def ER.frz(E:ER K st σ H O Z)(h:DM st i=some st'):∃O',Ext O H O' H/\ER K st' σ H O' Z/\(∀b,O' b->O b):=by
 unfold DM at h;split at h
 ·cases h;exact⟨O,Ext.refl O H,E,fun _ z=>z⟩
 ·rename_i d e
  cases h;obtain⟨p,g1,g2,g3⟩:=E.own i _ _ e rfl;have less:∀b,U (fun b=>O b/\b≠p) Z b->U O Z b:=fun b z=>z.elim (fun q=>.inl q.1) .inr;refine⟨fun b=>O b/\b≠p,⟨fun b o q _=>q,fun b z=>.inl z.1,fun b z=>z,fun b z=>z⟩,⟨by simp[E.len],fun j x hj=>?_,fun j s x hj hs=>?_,fun j k s t x y q hj hs hk ht e1 e2=>?_,fun q hq=>E.dis q hq.1,fun q hq=>E.liv q (less q hq)⟩,fun b z=>z.1⟩
  ·by_cases q:i=j
   ·subst q;rw[bm e]at hj;cases hj;exact⟨.ref p,g1,g3.da (fun z=>z.elim (fun y=>y.2 rfl) (E.dis p g2)) less⟩
   ·rw[aD q]at hj;obtain⟨v,h1,h2⟩:=E.val j x hj;exact⟨v,h1,h2.less less⟩
  ·have q:i≠j:=fun z=>by
    subst z;rw[bm e]at hj;cases hj;cases hs
   rw[aD q]at hj;obtain⟨r,h1,h2,h3⟩:=E.own j s x hj hs;refine⟨r,h1,⟨h2,fun z=>q ?_⟩,h3.go rfl (fun _ _ e _=>e) fun b z=>.inl (less b z)⟩;subst z;exact E.uni i j _ _ _ _ r e rfl hj hs g1 h1
  ·have q1:i≠j:=fun z=>by
    subst z;rw[bm e]at hj;cases hj;cases hs
   have q2:i≠k:=fun z=>by
    subst z;rw[bm e]at hk;cases hk;cases ht
   rw[aD q1]at hj;rw[aD q2]at hk;exact E.uni j k s t x y q hj hs hk ht e1 e2
 ·cases h
theorem RVal.frz(h:RVal K Z st σ H O v r)(E:ER K st σ H O Z)(f:Fk st r=some st')(c:cont st r=some d):∃O',Ext O H O' H/\Kp st st'/\ER K st' σ H O' Z/\DA K (U O' Z) H v d:=by
 cases r with
 |d x=>cases f;cases c;exact⟨O,Ext.refl O H,Kp.refl st,E,h⟩
 |f x=>cases f;cases c;exact⟨O,Ext.refl O H,Kp.refl st,E,RVal.nf h⟩
 |s i=>
  obtain⟨h1,s,h2,h3⟩:=h;have f':DM st i=some st':=f;obtain⟨k,x,k1,k2⟩:=Jp f';obtain⟨O',e1,e2,_⟩:=E.frz f';have c':(st[i]?).bind Sl.get=some d:=c;have ex:x=d:=Option.some.inj (k2.symm.trans c');subst ex;obtain⟨u,g1,g2⟩:=e2.val i _ k1;rw[h1]at g1;cases g1;exact⟨O',e1,k,e2,g2⟩
def ER.write{s:Sl}(E:ER K st σ H O Z)(hs:st[i]?=some s)(ho:s.ow=some x)(hp:σ[i]?=some (some (.ref p)))(new:OA K (U O Z) (upd H p o) p y) :
  ER K (st.set i (s.put y)) σ (upd H p o) O Z/\Ext O H O (upd H p o)/\Kp st (st.set i (s.put y)):=by
 obtain⟨q,g1,g2,g3⟩:=E.own i s x hs ho;have eq:q=p:=by rw[hp]at g1;cases g1;rfl
 subst eq;have keep:∀b u,H b=some u->¬ U O Z b->upd H q o b=some u:=fun b u e n=>by
  have hb:b≠q:=fun z=>n (.inl (by rw[z];exact g2))
  rw[aR hb];exact e
 refine⟨⟨by simp[E.len],fun j d hj=>?_,fun j t d hj ht=>?_,fun j k t t' d d' r hj ht hk ht' e1 e2=>?_,E.dis,fun r hr=>?_⟩,⟨fun b u e n=>?_,fun b z=>.inl z,fun b z=>?_,fun b z=>?_⟩,⟨by simp,fun j t hj ht=>?_,fun j d hj=>?_⟩⟩
 ·by_cases e:i=j
  ·subst e;rw[bm hs]at hj;exact absurd (Option.some.inj hj) (Sl.put_v _ _ _)
  ·rw[aD e]at hj;obtain⟨v,h1,h2⟩:=E.val j d hj;exact⟨v,h1,h2.go keep fun b z=>.inl z⟩
 ·by_cases e:i=j
  ·subst e;rw[bm hs]at hj;have:=Option.some.inj hj;subst this;rw[Sl.put_ow]at ht;cases ht;exact⟨q,hp,g2,new⟩
  ·rw[aD e]at hj;obtain⟨r,h1,h2,h3⟩:=E.own j t d hj ht;have hne:r≠q:=fun z=>by subst z;exact e (E.uni i j s t x d r hs ho hj ht hp h1)
   exact⟨r,h1,h2,h3.go (aR hne) keep fun b z=>.inl z⟩
 ·have own':∀(m:Nat)(t:Sl)(d:D),(st.set i (s.put y))[m]?=some t->t.ow=some d->∃t2 d2,st[m]?=some t2/\t2.ow=some d2:=fun m t d hm ht=>by
   by_cases e:i=m
   ·subst e;exact⟨s,x,hs,ho⟩
   ·rw[aD e]at hm;exact⟨t,d,hm,ht⟩
  obtain⟨t1,d1,a1,b1⟩:=own' j t d hj ht;obtain⟨t2,d2,a2,b2⟩:=own' k t' d' hk ht';exact E.uni j k t1 t2 d1 d2 r a1 b1 a2 b2 e1 e2
 ·by_cases e:r=q
  ·subst e;exact new.lv
  ·exact(E.liv r hr).same fun o' eo=>by rw[aR e];exact eo
 ·have hb:b≠q:=fun z=>n (by rw[z];exact g2)
  rw[aR hb];exact e
 ·by_cases e:b=q
  ·subst e;rw[bq];simp
  ·rw[aR e];exact z
 ·by_cases e:b=q
  ·subst e;exact new.lv
  ·exact z.same fun o' eo=>by rw[aR e];exact eo
 ·by_cases e:i=j
  ·subst e;exact⟨s.put y,bm hs,by cases s<;>simp[Sl.put,Sl.get]⟩
  ·exact⟨t,by rw[aD e];exact hj,ht⟩
 ·by_cases e:i=j
  ·subst e;rw[hs]at hj;cases hj;exact⟨y,bm hs⟩
  ·exact⟨d,by rw[aD e];exact hj⟩
end
end VF
namespace VF
open PySem L2
abbrev FE:=En->Option (Rs×En)
abbrev FA:=En->Option (List Rs×En)
abbrev FT:=En->Option (Bool×En)
abbrev Rz:=D×Bool
def mk:Rz->Rs|(d,true)=>.f d|(d,false)=>.d d
def RES(K:Ab)(Y:AS)(H H':Hp)(v:V):Rz->Prop|(d,true)=>∃p,v=.ref p/\H p=none/\OA K (ins p Y) H' p d|(d,false)=>DA K Y H' v d
def Fsh(H:Hp)(v:V):Rs->Prop|.f _=>∀p,v=.ref p->H p=none|_=>True
theorem Ext.dead(e:Ext O H O' H')(h:H' p=none):H p=none:=by
 cases q:H p with|none=>rfl|some o=>exact absurd h (e.al p (by rw[q];simp))
theorem Fsh.back(h:Fsh H' v r)(e:Ext O H O' H'):Fsh H v r:=by
 cases r with|f x=>exact fun p hp=>e.dead (h p hp)|d x=>trivial|s i=>trivial
def RdE(K:Ab)(te:TE)(f:FE):Prop:=∀(st:En)(σ:St)(H:Hp)(O Z:AS)(Q:VK),ER K st σ H O Z->∀r st',f st=some (r,st')->
 (∀v H' O',Ext O H O' H'->Kp st st'->ER K st' σ H' O' Z->RVal K Z st' σ H' O' v r->Fsh H v r->Q v H')->te σ H Q
inductive RVs(K:Ab)(Z:AS)(st:En)(σ:St)(H:Hp)(O:AS):List V->List Rs->Prop where
 | nil:RVs K Z st σ H O [] []
 | cons {v:V} {vs:List V} {r:Rs} {rs:List Rs}:RVal K Z st σ H O v r.nf->RVs K Z st σ H O vs rs->RVs K Z st σ H O (v::vs) (r::rs)
def RdA(K:Ab)(ta:TA)(f:FA):Prop:=∀(st:En)(σ:St)(H:Hp)(O Z:AS)(Q:List V->Hp->Prop),ER K st σ H O Z->∀rs st',f st=some (rs,st')->
 (∀vs H' O',Ext O H O' H'->Kp st st'->ER K st' σ H' O' Z->RVs K Z st' σ H' O' vs rs->Q vs H')->ta σ H Q
def RdT(K:Ab)(tt:TT)(f:FT):Prop:=∀(st:En)(σ:St)(H:Hp)(O Z:AS)(Q:Bool->Hp->Prop),ER K st σ H O Z->∀c st',f st=some (c,st')->
 (∀H' O',Ext O H O' H'->Kp st st'->ER K st' σ H' O' Z->Q c H')->tt σ H Q
def RdOp(K:Ab)(r:R2)(b:D->D->Option Rz):Prop:=∀(Y:AS)(H:Hp)(x y:V)(d1 d2:D)(z:Rz)(Q:VK),(∀p,Y p->Lv H p)->BA K Y H x d1->BA K Y H y d2->b d1 d2=some z->
 (∀v H',Same H H'->RES K Y H H' v z->Q v H')->r x y H Q
def OV(K:Ab)(r:V->Hp->VK->Prop)(b:D->Option Rz):Prop:=∀(Y:AS)(H:Hp)(x:V)(d1:D)(z:Rz)(Q:VK),(∀p,Y p->Lv H p)->BA K Y H x d1->b d1=some z->
 (∀v H',Same H H'->RES K Y H H' v z->Q v H')->r x H Q
inductive BAs(K:Ab)(Y:AS)(H:Hp):List V->List D->Prop where
 | nil:BAs K Y H [] []
 | cons {v:V} {vs:List V} {d:D} {ds:List D}:BA K Y H v d->BAs K Y H vs ds->BAs K Y H (v::vs) (d::ds)
def RdCB(K:Ab)(r:List V->Hp->VK->Prop)(b:List D->Option Rz):Prop:=∀(Y:AS)(H:Hp)(xs:List V)(ds:List D)(z:Rz)(Q:VK),(∀p,Y p->Lv H p)->BAs K Y H xs ds->b ds=some z->
 (∀v H',Same H H'->RES K Y H H' v z->Q v H')->r xs H Q
section
variable {K:Ab}{Y Y' O O' O1 O2 Z:AS}{H H' H1 H2:Hp}{v:V}{d:D}{vs:List V}{ds:List D}{a p:Addr}{st st' st1 st2:En}{σ σ':St}
theorem RES.rv(E:ER K st σ H O Z)(s:Same H H')(h:RES K (U O Z) H H' v z):ER K st σ H' O Z/\RVal K Z st σ H' O v (mk z):=by
 obtain⟨d,fr⟩:=z;cases fr with
 |false=>exact⟨E.same s,h⟩
 |true=>
  obtain⟨p,rfl,hp,ho⟩:=h;have hf:=E.free hp;exact⟨E.same s,p,rfl,hf.1,hf.2,ho,E.away s hp ho.lv⟩
theorem RES.fsh(h:RES K Y H H' v z):Fsh H v (mk z):=by
 obtain⟨d,fr⟩:=z;cases fr with
 |false=>trivial
 |true=>obtain⟨p,rfl,hp,_⟩:=h;exact fun q e=>by cases e;exact hp
theorem RVs.ext(h:RVs K Z st σ H O vs rs)(e:Ext O H O' H')(k:Kp st st'):RVs K Z st' σ H' O' vs rs:=by
 induction h with|nil=>exact .nil|cons h1 _ ih=>exact .cons (h1.ext e k) ih
def ef(st:En):List Rs->Option (List D)|[]=>some []|r::rs=>(cont st r).bind fun d=>(ef st rs).bind fun ds=>some (d::ds)
theorem RVs.bas(h:RVs K Z st σ H O vs rs)(E:ER K st σ H O Z):∀{ds:List D},ef st rs=some ds->BAs K (U O Z) H vs ds:=by
 induction h with
 |nil=>intro ds e;cases e;exact .nil
 |@cons v vs r rs h1 _ ih=>
  intro ds e;refine bsO e fun d e1 e=>?_;refine bsO e fun ds' e2 e=>?_;cases e;exact .cons (h1.ba E (by rw[g9];exact e1)) (ih e2)
def cQ:List Rs->En->Option (List D×En)|[],st=>some ([],st)|r::rs,st=>(cont st r).bind fun d=>(Fk st r).bind fun st1=>(cQ rs st1).bind fun x=>some (d::x.1,x.2)
def Jq(st:En)(r:Rs):Fk st r.nf=Fk st r:=by cases r<;>rfl
theorem RVs.esc:∀{rs:List Rs}{vs:List V}{st:En}{O:AS}{ds:List D}{st':En},RVs K Z st σ H O vs rs->ER K st σ H O Z->cQ rs st=some (ds,st')->∃O',Ext O H O' H/\Kp st st'/\ER K st' σ H O' Z/\El K (U O' Z) H vs ds
 |[],_,st,O,ds,st',.nil,E,e=>by cases e;exact⟨O,Ext.refl O H,Kp.refl _,E,El.nil⟩
 | r::rs,_,st,O,ds,st',.cons h1 h2,E,e=>by
  refine bsO e fun d e1 e=>?_;refine bsO e fun st1 e2 e=>?_;refine bsP e fun ds2 st2 e3 e=>?_;cases e;obtain⟨O1,x1,k1,E1,da⟩:=h1.frz E (by rw[Jq];exact e2) (by rw[g9];exact e1)
  obtain⟨O2,x2,k2,E2,el⟩:=RVs.esc (h2.ext x1 k1) E1 e3;exact⟨O2,x1.trans x2,k1.trans k2,E2,El.cons (da.ext x2) el⟩
def aB(i:Nat):FE:=fun st=>match st[i]? with|some (.v d)=>some (.d d,st)|some (.o _)=>some (.s i,st)|some (.io _)=>some (.s i,st)|_=>none
def ML(i:Nat):RdE K (wJ i) (aB i):=by
 intro st σ H O Z Q E r st' h q;unfold aB at h;split at h
 ·rename_i d e
  cases h;obtain⟨v,h1,h2⟩:=E.val i d e;exact⟨v,h1,q v H O (Ext.refl O H) (Kp.refl _) E h2 True.intro⟩
 ·rename_i d e
  cases h;obtain⟨p,h1,h2,h3⟩:=E.own i _ _ e rfl;exact⟨.ref p,h1,q _ H O (Ext.refl O H) (Kp.refl _) E ⟨h1,_,e,by simp[Sl.get]⟩ True.intro⟩
 ·rename_i d e
  cases h;obtain⟨p,h1,h2,h3⟩:=E.own i _ _ e rfl;exact⟨.ref p,h1,q _ H O (Ext.refl O H) (Kp.refl _) E ⟨h1,_,e,by simp[Sl.get]⟩ True.intro⟩
 ·cases h
def fC(d:D):FE:=fun st=>some (.d d,st)
def wX(h:∀Y H,DA K Y H v d):RdE K (tC v) (fC d):=by
 intro st σ H O Z Q E r st' e q;cases e;exact q v H O (Ext.refl O H) (Kp.refl _) E (h _ _) True.intro
def MM(i:Int):RdE K (tC (.int i)) (fC (.int i)):=wX fun _ _=>.int i
def MN(x:Str):RdE K (tC (.str x)) (fC (.str x)):=wX fun _ _=>.str x
def OW(b:Bool):RdE K (tC (.bl b)) (fC (.bl b)):=wX fun _ _=>.bl b
def MO:RdE K (tC .non) (fC .non):=wX fun _ _=>.non
def fOp(b:D->D->Option Rz)(fa fb:FE):FE:=fun st=>(fa st).bind fun x=>(fb x.2).bind fun y=>(cont y.2 x.1).bind fun d1=>(cont y.2 y.1).bind fun d2=>(b d1 d2).bind fun z=>some (mk z,y.2)
def Lp(hr:RdOp K r b)(ha:RdE K ta fa)(hb:RdE K tb fb):RdE K (tOp r ta tb) (fOp b fa fb):=by
 intro st σ H O Z Q E r' st' h q;refine bsP h fun r1 st1 e1 h=>?_;refine bsP h fun r2 st2 e2 h=>?_;refine bsO h fun d1 e3 h=>?_;refine bsO h fun d2 e4 h=>?_;refine bsO h fun z e5 h=>?_;cases h;refine ha st σ H O Z _ E r1 st1 e1 fun v1 H1 O1 x1 k1 E1 rv1 w1=>?_;refine hb st1 σ H1 O1 Z _ E1 r2 st2 e2 fun v2 H2 O2 x2 k2 E2 rv2 w2=>?_;have b1:=(rv1.nf.ext x2 k2).ba E2 (by rw[g9];exact e3)
 refine hr (U O2 Z) H2 v1 v2 d1 d2 z _ E2.liv b1 (rv2.ba E2 e4) e5 fun v H3 s hres=>?_;obtain⟨E3,rv3⟩:=hres.rv E2 s;exact q v H3 O2 ((x1.trans x2).trans (Same.ext s)) (k1.trans k2) E3 rv3 (hres.fsh.back (x1.trans x2))
def fUn(b:D->Option Rz)(fa:FE):FE:=fun st=>(fa st).bind fun x=>(cont x.2 x.1).bind fun d1=>(b d1).bind fun z=>some (mk z,x.2)
def Lq(hr:OV K r b)(ha:RdE K ta fa):RdE K (tUn r ta) (fUn b fa):=by
 intro st σ H O Z Q E r' st' h q;refine bsP h fun r1 st1 e1 h=>?_;refine bsO h fun d1 e3 h=>?_;refine bsO h fun z e5 h=>?_;cases h;refine ha st σ H O Z _ E r1 st1 e1 fun v1 H1 O1 x1 k1 E1 rv1 w1=>?_;refine hr (U O1 Z) H1 v1 d1 z _ E1.liv (rv1.ba E1 e3) e5 fun v H3 s hres=>?_;obtain⟨E3,rv3⟩:=hres.rv E1 s;exact q v H3 O1 (x1.trans (Same.ext s)) k1 E3 rv3 (hres.fsh.back x1)
def tru(st:En)(r:Rs):Option Bool:=match cont st r with|some (.bl c)=>some c|_=>none
def Fm(E:ER K st σ H O Z)(h:RVal K Z st σ H O v r)(t:tru st r=some c):v=.bl c:=by
 unfold tru at t;split at t
 ·rename_i b e
  cases t;exact h.ba E e
 ·cases t
def ay(fa:FE):FT:=fun st=>(fa st).bind fun x=>(tru x.2 x.1).bind fun c=>some (c,x.2)
def tI(ha:RdE K ta fa):RdT K (yh ta) (ay fa):=by
 intro st σ H O Z Q E c st' h q;refine bsP h fun r1 st1 e1 h=>?_;refine bsO h fun c' e2 h=>?_;cases h;exact ha st σ H O Z _ E r1 st1 e1 fun v1 H1 O1 x1 k1 E1 rv1 w1=>⟨c,Fm E1 rv1 e2,q H1 O1 x1 k1 E1⟩
def Lr(ha:RdE K ta fa):RdT K (tB ta) (ay fa):=tI ha
def eG(f:FT):FT:=fun st=>(f st).bind fun x=>some (!x.1,x.2)
def yw(h:RdT K t f):RdT K (OB t) (eG f):=by
 intro st σ H O Z Q E c st' e q;refine bsP e fun c1 st1 e1 e=>?_;cases e;exact h st σ H O Z _ E c1 st1 e1 q
def lw(f g:FT):FT:=fun st=>(f st).bind fun x=>if x.1=true then g x.2 else some (false,x.2)
theorem yx(h:RdT K t f)(h':RdT K u g):RdT K (Oz t u) (lw f g):=by
 intro st σ H O Z Q E c st' e q;refine bsP e fun c1 st1 e1 e=>?_;refine h st σ H O Z _ E c1 st1 e1 fun H1 O1 x1 k1 E1=>?_;cases c1 with
 |true=>
  rw[Ag rfl]at e ⊢;exact h' st1 σ H1 O1 Z _ E1 c st' e fun H2 O2 x2 k2 E2=>q H2 O2 (x1.trans x2) (k1.trans k2) E2
 |false=>
  simp only[Qe,if_false]at e ⊢;cases e;exact q H1 O1 x1 k1 E1
def jT(f g:FT):FT:=fun st=>(f st).bind fun x=>if x.1=true then some (true,x.2) else g x.2
theorem Fn(h:RdT K t f)(h':RdT K u g):RdT K (tOr t u) (jT f g):=by
 intro st σ H O Z Q E c st' e q;refine bsP e fun c1 st1 e1 e=>?_;refine h st σ H O Z _ E c1 st1 e1 fun H1 O1 x1 k1 E1=>?_;cases c1 with
 |true=>
  rw[Ag rfl]at e ⊢;cases e;exact q H1 O1 x1 k1 E1
 |false=>
  simp only[Qe,if_false]at e ⊢;exact h' st1 σ H1 O1 Z _ E1 c st' e fun H2 O2 x2 k2 E2=>q H2 O2 (x1.trans x2) (k1.trans k2) E2
def cj:FT:=fun st=>some (true,st)
def MP:RdT K OT cj:=by
 intro st σ H O Z Q E c st' e q;cases e;exact q H O (Ext.refl O H) (Kp.refl _) E
def iL(fa fb:FE):FE:=fun st=>(fa st).bind fun x=>(tru x.2 x.1).bind fun c=>if c=true then fb x.2 else some (.d (.bl false),x.2)
theorem yy(ha:RdE K ta fa)(hb:RdE K tb fb):RdE K (K9 ta tb) (iL fa fb):=by
 intro st σ H O Z Q E r st' h q;refine bsP h fun r1 st1 e1 h=>?_;refine bsO h fun c e2 h=>?_;refine ha st σ H O Z _ E r1 st1 e1 fun v1 H1 O1 x1 k1 E1 rv1 w1=>⟨c,Fm E1 rv1 e2,?_⟩;cases c with
 |true=>
  rw[Ag rfl]at h ⊢;exact hb st1 σ H1 O1 Z _ E1 r st' h fun v H2 O2 x2 k2 E2 rv w2=>q v H2 O2 (x1.trans x2) (k1.trans k2) E2 rv (w2.back x1)
 |false=>
  rw[Aj (by decide)]at h ⊢
  cases h;exact q _ H1 O1 x1 k1 E1 (.bl false) True.intro
def Ls(fa:FE):FE:=fun st=>(fa st).bind fun x=>(tru x.2 x.1).bind fun c=>some (.d (.bl (!c)),x.2)
def yz(ha:RdE K ta fa):RdE K (La ta) (Ls fa):=by
 intro st σ H O Z Q E r st' h q;refine bsP h fun r1 st1 e1 h=>?_;refine bsO h fun c e2 h=>?_;cases h;exact ha st σ H O Z _ E r1 st1 e1 fun v1 H1 O1 x1 k1 E1 rv1 w1=>⟨c,Fm E1 rv1 e2,q _ H1 O1 x1 k1 E1 (.bl _) True.intro⟩
def fIf(f:FT)(fa fb:FE):FE:=fun st=>(f st).bind fun x=>if x.1=true then fa x.2 else fb x.2
theorem Lu(h:RdT K t f)(ha:RdE K ta fa)(hb:RdE K tb fb):RdE K (tIf t ta tb) (fIf f fa fb):=by
 intro st σ H O Z Q E r st' e q;refine bsP e fun c1 st1 e1 e=>?_;refine h st σ H O Z _ E c1 st1 e1 fun H1 O1 x1 k1 E1=>?_;cases c1 with
 |true=>
  rw[Ag rfl]at e ⊢;exact ha st1 σ H1 O1 Z _ E1 r st' e fun v H2 O2 x2 k2 E2 rv w2=>q v H2 O2 (x1.trans x2) (k1.trans k2) E2 rv (w2.back x1)
 |false=>
  simp only[Qe,if_false]at e ⊢;exact hb st1 σ H1 O1 Z _ E1 r st' e fun v H2 O2 x2 k2 E2 rv w2=>q v H2 O2 (x1.trans x2) (k1.trans k2) E2 rv (w2.back x1)
def tJ(b b':D->D->Option Rz)(fa fb fc:FE):FE:=fun st=>(fa st).bind fun x=>(fb x.2).bind fun y=>(cont y.2 x.1).bind fun d1=>(cont y.2 y.1).bind fun d2=>(b d1 d2).bind fun z=>match z with|(.bl true,false)=>(fc y.2).bind fun w=>(cont w.2 y.1).bind fun d2'=>(cont w.2 w.1).bind fun d3=>(b' d2' d3).bind fun z'=>some (mk z',w.2)|(.bl false,false)=>some (.d (.bl false),y.2)|_=>none
def vn(hr:RdOp K r b)(hr':RdOp K r' b')(ha:RdE K ta fa)(hb:RdE K tb fb)(hc:RdE K tc fc):RdE K (EV r r' ta tb tc) (tJ b b' fa fb fc):=by
 intro st σ H O Z Q E r0 st' h q;refine bsP h fun r1 st1 e1 h=>?_;refine bsP h fun r2 st2 e2 h=>?_;refine bsO h fun d1 e3 h=>?_;refine bsO h fun d2 e4 h=>?_;refine bsO h fun z e5 h=>?_;refine ha st σ H O Z _ E r1 st1 e1 fun v1 H1 O1 x1 k1 E1 rv1 w1=>?_;refine hb st1 σ H1 O1 Z _ E1 r2 st2 e2 fun v2 H2 O2 x2 k2 E2 rv2 w2=>?_;have b1:=(rv1.nf.ext x2 k2).ba E2 (by rw[g9];exact e3)
 refine hr (U O2 Z) H2 v1 v2 d1 d2 z _ E2.liv b1 (rv2.ba E2 e4) e5 fun v H3 s hres=>?_;obtain⟨dz,fr⟩:=z;cases dz with
 |bl c=>
  cases fr with
  |true=>cases c<;>cases h
  |false=>
   have ev:v=.bl c:=DA.ba (show DA K (U O2 Z) H3 v (.bl c) from hres);refine⟨c,ev,?_⟩;have E3:=E2.same s;have x3:Ext O2 H2 O2 H3:=Same.ext s;cases c with
   |false=>
    rw[Aj (by decide)]
    cases h;exact q _ H3 O2 ((x1.trans x2).trans x3) (k1.trans k2) E3 (.bl false) True.intro
   |true=>
    rw[Ag rfl];refine bsP h fun r3 st3 g1 h=>?_;refine bsO h fun d2' g2 h=>?_;refine bsO h fun d3 g3 h=>?_;refine bsO h fun z' g4 h=>?_;cases h;refine hc st2 σ H3 O2 Z _ E3 r3 st3 g1 fun v3 H4 O4 x4 k4 E4 rv4 w4=>?_;have b2:=(rv2.nf.ext (x3.trans x4) k4).ba E4 (by rw[g9];exact g2)
    refine hr' (U O4 Z) H4 v2 v3 d2' d3 z' _ E4.liv b2 (rv4.ba E4 g3) g4 fun w H5 s5 hres5=>?_;obtain⟨E5,rv5⟩:=hres5.rv E4 s5;exact q w H5 O4 ((((x1.trans x2).trans x3).trans x4).trans (Same.ext s5)) ((k1.trans k2).trans k4) E5 rv5 (hres5.fsh.back (((x1.trans x2).trans x3).trans x4))
 |_=>cases fr<;>cases h
def af:FA:=fun st=>some ([],st)
def MQ:RdA K oH af:=by
 intro st σ H O Z Q E rs st' e q;cases e;exact q [] H O (Ext.refl O H) (Kp.refl _) E .nil
def aa(fa:FE)(fr:FA):FA:=fun st=>(fa st).bind fun x=>(fr x.2).bind fun y=>some (x.1::y.1,y.2)
def yA(ha:RdE K ta fa)(hr:RdA K tr fr):RdA K (fF ta tr) (aa fa fr):=by
 intro st σ H O Z Q E rs st' h q;refine bsP h fun r1 st1 e1 h=>?_;refine bsP h fun rs2 st2 e2 h=>?_;cases h;refine ha st σ H O Z _ E r1 st1 e1 fun v1 H1 O1 x1 k1 E1 rv1 w1=>?_;refine hr st1 σ H1 O1 Z _ E1 rs2 st2 e2 fun vs H2 O2 x2 k2 E2 rvs=>?_;exact q (v1::vs) H2 O2 (x1.trans x2) (k1.trans k2) E2 (.cons (rv1.nf.ext x2 k2) rvs)
def few(h:n<=1000000):n<=sizeLine:=Ve h (by decide)
def bL(fa:FA):FE:=fun st=>(fa st).bind fun x=>(cQ x.1 x.2).bind fun y=>if y.1.length<=1000000 then some (.d (.tup y.1),y.2) else none
def Fo(ha:RdA K ta fa):RdE K (OM ta) (bL fa):=by
 intro st σ H O Z Q E r st' h q;refine bsP h fun rs st1 e1 h=>?_;refine bsP h fun ds st2 e2 h=>?_;refine ha st σ H O Z _ E rs st1 e1 fun vs H1 O1 x1 k1 E1 rvs=>?_;obtain⟨O2,x2,k2,E2,el⟩:=rvs.esc E1 e2;obtain⟨hz,h⟩:=aM h;cases h;refine⟨by rw[el.1];exact few hz,fun p hp=>?_⟩
 obtain⟨E3,rv⟩:=E2.newT hp el;exact q _ _ O2 ((x1.trans x2).trans (Same.ext (aY hp _))) (k1.trans k2) E3 rv True.intro
def cZ(fa:FA):FE:=fun st=>(fa st).bind fun x=>(cQ x.1 x.2).bind fun y=>if y.1.length<=1000000 then some (.f (.lst y.1),y.2) else none
def Fp(ha:RdA K ta fa):RdE K (Mm ta) (cZ fa):=by
 intro st σ H O Z Q E r st' h q;refine bsP h fun rs st1 e1 h=>?_;refine bsP h fun ds st2 e2 h=>?_;refine ha st σ H O Z _ E rs st1 e1 fun vs H1 O1 x1 k1 E1 rvs=>?_;obtain⟨O2,x2,k2,E2,el⟩:=rvs.esc E1 e2;obtain⟨hz,h⟩:=aM h;cases h;refine⟨by rw[el.1];exact few hz,fun p hp=>?_⟩
 obtain⟨E3,rv⟩:=E2.new hp el;exact q _ _ O2 ((x1.trans x2).trans (Same.ext (aY hp _))) (k1.trans k2) E3 rv fun p' e=>by cases e;exact(x1.trans x2).dead hp
def fCB(b:List D->Option Rz)(fa:FA):FE:=fun st=>(fa st).bind fun x=>(ef x.2 x.1).bind fun ds=>(b ds).bind fun z=>some (mk z,x.2)
def Lx(hr:RdCB K r b)(ha:RdA K ta fa):RdE K (tCB r ta) (fCB b fa):=by
 intro st σ H O Z Q E r0 st' h q;refine bsP h fun rs st1 e1 h=>?_;refine bsO h fun ds e2 h=>?_;refine bsO h fun z e3 h=>?_;cases h;refine ha st σ H O Z _ E rs st1 e1 fun vs H1 O1 x1 k1 E1 rvs=>?_;refine hr (U O1 Z) H1 vs ds z _ E1.liv (rvs.bas E1 e2) e3 fun v H3 s hres=>?_;obtain⟨E3,rv3⟩:=hres.rv E1 s;exact q v H3 O1 (x1.trans (Same.ext s)) k1 E3 rv3 (hres.fsh.back x1)
end
end VF
namespace VF
open PySem L2
def D.isSc:D->Bool|.non=>true|.bl _=>true|.int _=>true|.str _=>true|.ty _=>true|_=>false
def spV(K:Ab)(g:List D->Option Rz):Sp:=fun vs H Q _=>∃(Z:AS)(ds:List D)(z:Rz),El K Z H vs ds/\(∀p,Z p->Lv H p)/\g ds=some z/\∀v H',Same H H'->RES K Z H H' v z->Q v H'
def QI(K:Ab)(Y:AS)(f:Addr)(x':D)(H H':Hp)(v:V):Rz->Prop|(d,true)=>∃p,v=.ref p/\H p=none/\OA K (ins p Y) H' p d/\OA K (ins p Y) H' f x'|(d,false)=>DA K Y H' v d/\OA K Y H' f x'
def mI(K:Ab)(g:D->List D->Option (Rz×D)):Sp:=fun vs H Q _=>∃(f:Addr)(ws:List V)(Z:AS)(x:D)(ds:List D)(z:Rz)(x':D),vs=.ref f::ws/\¬ Z f/\OA K (ins f Z) H f x/\El K (ins f Z) H ws ds/\(∀p,Z p->Lv H p)/\g x ds=some (z,x') /\
 ∀v H',(∀b o,H b=some o->b≠f->H' b=some o)->QI K (ins f Z) f x' H H' v z->Q v H'
section
variable {K:Ab}{Y Y' O O' O1 O2 Z:AS}{H H' H1 H2:Hp}{v:V}{d:D}{vs:List V}{ds:List D}{a p:Addr}{st st' st1 st2:En}{σ σ':St}
def aN(g:List D->Option Rz)(fa:FA):FE:=fun st=>(fa st).bind fun x=>(cQ x.1 x.2).bind fun y=>(g y.1).bind fun z=>some (mk z,y.2)
def yB(ha:RdA K ta fa):RdE K (DL (spV K g) ta) (aN g fa):=by
 intro st σ H O Z Q E r0 st' h q;refine bsP h fun rs st1 e1 h=>?_;refine bsP h fun ds st2 e2 h=>?_;refine bsO h fun z e3 h=>?_;cases h;refine ha st σ H O Z _ E rs st1 e1 fun vs H1 O1 x1 k1 E1 rvs=>?_;obtain⟨O2,x2,k2,E2,el⟩:=rvs.esc E1 e2;refine⟨U O2 Z,ds,z,el,E2.liv,e3,fun v H3 s hres=>?_⟩;obtain⟨E3,rv3⟩:=hres.rv E2 s;exact q v H3 O2 ((x1.trans x2).trans (Same.ext s)) (k1.trans k2) E3 rv3 (hres.fsh.back (x1.trans x2))
theorem RVal.da0(h:RVal K Z st σ H O v r)(E:ER K st σ H O Z)(c:cont st r=some d):DA K (fun _=>False) H v d:=by
 cases r with
 |d x=>cases c;exact DA.less (show DA K (U O Z) H v d from h) fun b z=>z.elim
 |f x=>cases c;exact DA.less (show DA K (U O Z) H v d from RVal.nf h) fun b z=>z.elim
 |s i=>
  obtain⟨h1,s,h2,h3⟩:=h;have c':(st[i]?).bind Sl.get=some d:=c;rw[h2]at c';cases s with
  |e=>cases c'
  |v x=>
   cases c';obtain⟨u,g1,g2⟩:=E.val i _ h2;rw[h1]at g1;cases g1;exact g2.less fun b z=>z.elim
  |o x=>
   cases c';obtain⟨p,g1,g2,g3⟩:=E.own i _ _ h2 rfl;rw[h1]at g1;cases g1;exact g3.da (fun z=>z) fun b z=>z.elim
  |io x=>
   cases c';obtain⟨p,g1,g2,g3⟩:=E.own i _ _ h2 rfl;rw[h1]at g1;cases g1;exact g3.da (fun z=>z) fun b z=>z.elim
theorem RVs.el0(h:RVs K Z st σ H O vs rs)(E:ER K st σ H O Z):∀{ds:List D},ef st rs=some ds->El K (fun _=>False) H vs ds:=by
 induction h with
 |nil=>intro ds e;cases e;exact El.nil
 |@cons v vs r rs h1 _ ih=>
  intro ds e;refine bsO e fun d e1 e=>?_;refine bsO e fun ds' e2 e=>?_;cases e;exact El.cons (h1.da0 E (by rw[g9];exact e1)) (ih e2)
theorem DA.sc(h:DA K Y H v d)(s:d.isSc=true):DA K Y' H' v d:=by
 cases h with|non=>exact .non|bl b=>exact .bl b|int i=>exact .int i|str x=>exact .str x|ty n=>exact .ty n|_=>cases s
def aP(g:List D->Option Rz)(fa:FA):FE:=fun st=>(fa st).bind fun x=>(ef x.2 x.1).bind fun ds=>(g ds).bind fun z=>if (z.1.isSc&&!z.2)=true then some (.d z.1,x.2) else none
def vo(ha:RdA K ta fa):RdE K (DL (spV K g) ta) (aP g fa):=by
 intro st σ H O Z Q E r0 st' h q;refine bsP h fun rs st1 e1 h=>?_;refine bsO h fun ds e2 h=>?_;refine bsP h fun dz fr e3 h=>?_;obtain⟨hc,h⟩:=aM h;cases h;have h1:dz.isSc=true/\fr=false:=by simpa using hc
 obtain⟨h1,rfl⟩:=h1;refine ha st σ H O Z _ E rs _ e1 fun vs H1 O1 x1 k1 E1 rvs=>?_;refine⟨fun _=>False,ds,(dz,false),rvs.el0 E1 e2,fun p z=>z.elim,e3,fun v H3 s hres=>?_⟩;exact q v H3 O1 (x1.trans (Same.ext s)) k1 (E1.same s) (DA.sc (show DA K (fun _=>False) H3 v dz from hres) h1) True.intro
def oq{s:Sl}(E:ER K st σ H O Z)(hs:st[i]?=some s)(hx:s.ow=some x)(hv:σ[i]?=some (some v))(el:El K (U O Z) H ws ds)(hg:g x ds=some (z,x'))
  (q:∀v H' O',Ext O H O' H'->Kp st (st.set i (s.put x'))->ER K (st.set i (s.put x')) σ H' O' Z->RVal K Z (st.set i (s.put x')) σ H' O' v (mk z)->Fsh H v (mk z)->Q v H'):mI K g (v::ws) H Q XE:=by
 obtain⟨p,g1,g2,g3⟩:=E.own i s x hs hx;have ev:v=.ref p:=by rw[hv]at g1;cases g1;rfl
 subst ev;have a1:∀b,ins p (fun b=>U O Z b/\b≠p) b->U O Z b:=fun b z=>z.elim (fun q=>by rw[q];exact .inl g2) fun q=>q.1
 have a2:∀b,U O Z b->ins p (fun b=>U O Z b/\b≠p) b:=fun b z=>by
  by_cases e:b=p
  ·exact .inl e
  ·exact .inr ⟨z,e⟩
 refine⟨p,ws,fun b=>U O Z b/\b≠p,x,ds,z,x',rfl,fun z=>z.2 rfl,g3.go rfl (fun _ _ e _=>e) (fun b z=>.inl (a1 b z)),el.less a1,fun b z=>E.liv b z.1,hg,fun u H' kp hres=>?_⟩;have ho:OA K (ins p fun b=>U O Z b/\b≠p) H' p x':=by
  obtain⟨dz,fr⟩:=z;cases fr with
  |false=>exact hres.2
  |true=>obtain⟨r,_,_,_,h⟩:=hres;exact h.go rfl (fun _ _ e _=>e) fun b z=>.inl (.inr z)
 have kp':∀b o,H b=some o->¬ U O Z b->H' b=some o:=fun b o e n=>kp b o e fun z=>n (by rw[z];exact .inl g2)
 have al:∀b,H b≠none->H' b≠none:=fun b hb=>by
  by_cases e:b=p
  ·rw[e];exact ho.live
  ·cases eb:H b with|none=>exact absurd eb hb|some o=>rw[kp b o eb e];simp
 have al':∀b,Lv H b->Lv H' b:=fun b hb=>by
  by_cases e:b=p
  ·rw[e];exact ho.lv
  ·exact hb.same fun o eb=>kp b o eb e
 have ex:Ext O H O H':=⟨fun b o e n=>kp b o e fun z=>n (by rw[z];exact g2),fun b z=>.inl z,al,al'⟩
 have ho':OA K (U O Z) H' p x':=ho.go rfl (fun _ _ e _=>e) fun b z=>.inl (a2 b z);have mkE:∀(O2:AS),(∀b,O b->O2 b)->(∀b,O2 b->O b\/H b=none)->(∀b,O2 b->¬ Z b)->(∀b,O2 b->Lv H' b)->OA K (U O2 Z) H' p x'->ER K (st.set i (s.put x')) σ H' O2 Z:=fun O2 up dn ds lv ho2=>by
  have nn:∀b,U O2 Z b->U O Z b\/H b=none:=fun b z=>z.elim (fun y=>(dn b y).elim (fun w=>.inl (.inl w)) .inr) fun y=>.inl (.inr y);refine⟨by simp[E.len],fun j d hj=>?_,fun j t d hj ht=>?_,fun j k t t' d d' r hj ht hk ht' e1 e2=>?_,ds,fun r hr=>hr.elim (lv r) fun y=>al' r (E.liv r (.inr y))⟩
  ·by_cases e:i=j
   ·subst e;rw[bm hs]at hj;exact absurd (Option.some.inj hj) (Sl.put_v _ _ _)
   ·rw[aD e]at hj;obtain⟨v,h1,h2⟩:=E.val j d hj;exact⟨v,h1,h2.go kp' nn⟩
  ·by_cases e:i=j
   ·subst e;rw[bm hs]at hj;have:=Option.some.inj hj;subst this;rw[Sl.put_ow]at ht;cases ht;exact⟨p,g1,up p g2,ho2⟩
   ·rw[aD e]at hj;obtain⟨r,h1,h2,h3⟩:=E.own j t d hj ht;have hne:r≠p:=fun z=>by subst z;exact e (E.uni i j s t x d r hs hx hj ht g1 h1)
    refine⟨r,h1,up r h2,h3.go ?_ kp' nn⟩;cases er:H r with|none=>exact absurd er h3.live|some o=>exact kp r o er hne
  ·have own':∀(m:Nat)(t:Sl)(d:D),(st.set i (s.put x'))[m]?=some t->t.ow=some d->∃t2 d2,st[m]?=some t2/\t2.ow=some d2:=fun m t d hm ht=>by
    by_cases e:i=m
    ·subst e;exact⟨s,x,hs,hx⟩
    ·rw[aD e]at hm;exact⟨t,d,hm,ht⟩
   obtain⟨t1,d1,a1,b1⟩:=own' j t d hj ht;obtain⟨t2,d2,a2,b2⟩:=own' k t' d' hk ht';exact E.uni j k t1 t2 d1 d2 r a1 b1 a2 b2 e1 e2
 have kk:Kp st (st.set i (s.put x')):=by
  refine⟨by simp,fun j t hj ht=>?_,fun j d hj=>?_⟩
  ·by_cases e:i=j
   ·subst e;exact⟨s.put x',bm hs,by cases s<;>simp[Sl.put,Sl.get]⟩
   ·exact⟨t,by rw[aD e];exact hj,ht⟩
  ·by_cases e:i=j
   ·subst e;rw[hs]at hj;cases hj;exact⟨x',bm hs⟩
   ·exact⟨d,by rw[aD e];exact hj⟩
 have E':=mkE O (fun _ z=>z) (fun _ z=>.inl z) E.dis (fun b z=>al' b (E.liv b (.inl z))) ho';refine q u H' O ex kk E' ?_ ?_
 rotate_left
 ·obtain⟨dz,fr⟩:=z;cases fr with
  |false=>trivial
  |true=>obtain⟨r,rfl,hr,_⟩:=hres;exact fun q e=>by cases e;exact hr
 obtain⟨dz,fr⟩:=z;cases fr with
 |false=>exact DA.less (show DA K _ H' u dz from hres.1) a2
 |true=>
  obtain⟨r,rfl,hr,hor,hof⟩:=hres;have hf:=E.free hr;have a3:∀b,ins r (U O Z) b->ins r (ins p fun b=>U O Z b/\b≠p) b:=fun b z=>z.elim .inl fun y=>.inr (a2 b y);refine⟨r,rfl,hf.1,hf.2,hor.go rfl (fun _ _ e _=>e) (fun b z=>.inl (a3 b z)),mkE (ins r O) (fun _ z=>.inr z) (fun b z=>z.elim (fun y=>.inr (by rw[y];exact hr)) .inl) (fun b z=>z.elim (fun y=>by rw[y];exact hf.2) (E.dis b)) (fun b z=>z.elim (fun y=>by rw[y];exact hor.lv) fun y=>al' b (E.liv b (.inl y))) ?_⟩
  exact hof.go rfl (fun _ _ e _=>e) fun b z=>.inl (a3 b (z.elim (fun y=>y.elim .inl fun w=>.inr (.inl w)) fun y=>.inr (.inr y)))
def fIO(g:D->List D->Option (Rz×D))(i:Nat)(fr:FA):FE:=fun st=>(st[i]?).bind fun s0=>(s0.ow).bind fun _=>(fr st).bind fun x=>(cQ x.1 x.2).bind fun y=>(y.2[i]?).bind fun s=>(s.ow).bind fun d=>(g d y.1).bind fun z=>some (mk z.1,y.2.set i (s.put z.2))
def Ly(hr:RdA K tr fr):RdE K (DL (mI K g) (fF (wJ i) tr)) (fIO g i fr):=by
 intro st σ H O Z Q E r0 st' h q;refine bsO h fun s0 f1 h=>?_;refine bsO h fun x0 f2 h=>?_;refine bsP h fun rs st1 e1 h=>?_;refine bsP h fun ds st2 e2 h=>?_;refine bsO h fun s e3 h=>?_;refine bsO h fun x e4 h=>?_;refine bsP h fun z x' e5 h=>?_;cases h;obtain⟨p,g1,_,_⟩:=E.own i s0 x0 f1 f2;refine⟨.ref p,g1,?_⟩;refine hr st σ H O Z _ E rs st1 e1 fun vs H1 O1 x1 k1 E1 rvs=>?_;obtain⟨O2,x2,k2,E2,el⟩:=rvs.esc E1 e2;exact oq E2 e3 e4 g1 el e5 fun v H' O' ex kk E' rv w=>q v H' O' ((x1.trans x2).trans ex) ((k1.trans k2).trans kk) E' rv (w.back (x1.trans x2))
end
end VF
namespace VF
open PySem L2
structure Kq(st:En)(σ:St)(st':En)(σ':St):Prop where
 len:st'.length=st.length
 io:∀(i:Nat) d,st[i]?=some (.io d)->σ'[i]?=σ[i]?/\∃d',st'[i]?=some (.io d')
def Kq.refl(st:En)(σ:St):Kq st σ st σ:=⟨rfl,fun i d h=>⟨rfl,d,h⟩⟩
theorem Kq.trans(h:Kq a x b y)(g:Kq b y c z):Kq a x c z:=by
 refine⟨g.len.trans h.len,fun i d e=>?_⟩;obtain⟨e1,d1,e2⟩:=h.io i d e;obtain⟨e3,d2,e4⟩:=g.io i d1 e2;exact⟨e3.trans e1,d2,e4⟩
def Kp.kq(k:Kp st st'):Kq st σ st' σ:=⟨k.len,fun i d h=>⟨rfl,k.io i d h⟩⟩
abbrev FG:=D->En->Option En
def RdG(K:Ab)(g:TG)(fg:FG)(tg:List Nat):Prop:=∀(st:En)(σ:St)(H:Hp)(O Z:AS)(x:V)(d:D)(Q:St->Hp->Prop),ER K st σ H O Z->DA K (U O Z) H x d->∀st',fg d st=some st'->
 (∀σ',(∀j,j∉tg->σ'[j]?=σ[j]?/\st'[j]?=st[j]?)->Kq st σ st' σ'->ER K st' σ' H O Z->Q σ' H)->g x σ H Q
def Sl.isIo:Sl->Bool|.io _=>true|_=>false
def nK(i:Nat)(s:Sl)(st:En):Option En:=(st[i]?).bind fun t=>if t.isIo=true then none else some (st.set i s)
section
variable {K:Ab}{Y Y' O O' O1 O2 Z:AS}{H H' H1 H2:Hp}{v:V}{d:D}{vs:List V}{ds:List D}{a p:Addr}{st st' st1 st2:En}{σ σ':St}
def o8(h:nK i s st=some st'):∃t,st[i]?=some t/\t.isIo=false/\st'=st.set i s:=by grind [nK]
def tK{s t:Sl}(e:st[i]?=some t)(n:t.isIo=false):Kq st σ (st.set i s) (σ.set i w):=by
 refine⟨by simp,fun j d h=>?_⟩
 have q:i≠j:=fun z=>by subst z;rw[e]at h;cases h;cases n
 exact⟨aD q,d,by rw[aD q];exact h⟩
def ER.asg(E:ER K st σ H O Z)(e:st[i]?=some t)(h:DA K (U O Z) H v d):ER K (st.set i (.v d)) (σ.set i (some v)) H O Z:=by
 have hi:i<σ.length:=by rw[<-E.len];exact(Zd.mp e).1
 have sg:(σ.set i (some v))[i]?=some (some v):=by rw[Ba,Ag rfl,Ag hi]
 have ne:∀(j:Nat) s x,(st.set i (.v d))[j]?=some s->s.ow=some x->i≠j/\st[j]?=some s:=fun j s x h1 h2=>by
  by_cases q:i=j
  ·subst q;rw[bm e]at h1;cases h1;cases h2
  ·exact⟨q,by rw[aD q]at h1;exact h1⟩
 refine⟨by simp[E.len],fun j x hj=>?_,fun j s x h1 h2=>?_,fun j k s s' x x' r h1 h2 h3 h4 h5 h6=>?_,E.dis,E.liv⟩
 ·by_cases q:i=j
  ·subst q;rw[bm e]at hj;cases hj;exact⟨v,sg,h⟩
  ·rw[aD q]at hj;obtain⟨w,g1,g2⟩:=E.val j x hj;exact⟨w,by rw[aD q];exact g1,g2⟩
 ·obtain⟨q,h1⟩:=ne j s x h1 h2;obtain⟨r,g1,g2⟩:=E.own j s x h1 h2;exact⟨r,by rw[aD q];exact g1,g2⟩
 ·obtain⟨q1,h1⟩:=ne j s x h1 h2;obtain⟨q2,h3⟩:=ne k s' x' h3 h4;rw[aD q1]at h5;rw[aD q2]at h6;exact E.uni j k s s' x x' r h1 h2 h3 h4 h5 h6
def ER.asgF(E0:ER K st σ H O Z)(E:ER K st σ H (ins p O) Z)(np:¬ O p)(e:st[i]?=some t)(h:OA K (ins p (U O Z)) H p x):ER K (st.set i (.o x)) (σ.set i (some (.ref p))) H (ins p O) Z:=by
 have hi:i<σ.length:=by rw[<-E.len];exact(Zd.mp e).1
 have sg:(σ.set i (some (V.ref p)))[i]?=some (some (.ref p)):=by rw[Ba,Ag rfl,Ag hi]
 have fresh:∀(j:Nat) s y,st[j]?=some s->s.ow=some y->σ[j]?≠some (some (.ref p)):=fun j s y h1 h2 z=>by
  obtain⟨r,g1,g2,_⟩:=E0.own j s y h1 h2;rw[z]at g1;cases g1;exact np g2
 refine⟨by simp[E.len],fun j y hj=>?_,fun j s y h1 h2=>?_,fun j k s s' y y' r h1 h2 h3 h4 h5 h6=>?_,E.dis,E.liv⟩
 ·by_cases q:i=j
  ·subst q;rw[bm e]at hj;cases hj
  ·rw[aD q]at hj;obtain⟨w,g1,g2⟩:=E.val j y hj;exact⟨w,by rw[aD q];exact g1,g2⟩
 ·by_cases q:i=j
  ·subst q;rw[bm e]at h1;cases h1;cases h2;refine⟨p,sg,.inl rfl,h.go rfl (fun _ _ e _=>e) fun b z=>.inl ?_⟩;rcases z with(z|z)|z
   ·exact .inl z
   ·exact .inr (.inl z)
   ·exact .inr (.inr z)
  ·rw[aD q]at h1;obtain⟨r,g1,g2⟩:=E.own j s y h1 h2;exact⟨r,by rw[aD q];exact g1,g2⟩
 ·by_cases q1:i=j
  ·by_cases q2:i=k
   ·exact q1.symm.trans q2
   ·subst q1;rw[aD q2]at h3 h6;rw[sg]at h5;cases h5;exact absurd h6 (fresh k s' y' h3 h4)
  ·by_cases q2:i=k
   ·subst q2;rw[aD q1]at h1 h5;rw[sg]at h6;cases h6;exact absurd h5 (fresh j s y h1 h2)
   ·rw[aD q1]at h1 h5;rw[aD q2]at h3 h6;exact E.uni j k s s' y y' r h1 h2 h3 h4 h5 h6
def gN(i:Nat):FG:=fun d st=>nK i (.v d) st
def dM(i:Nat):RdG K (pR i) (gN i) [i]:=by
 intro st σ H O Z x d Q E da st' h q;obtain⟨t,e,n,rfl⟩:=o8 h;refine q (σ.set i (some x)) (fun j hj=>?_) (tK e n) (E.asg e da);have q:i≠j:=fun z=>hj (by rw[z];simp)
 exact⟨aD q,aD q⟩
def Jr(K:Ab)(g:TGs)(fg:List D->En->Option En)(tg:List Nat):Prop:=∀(st:En)(σ:St)(H:Hp)(O Z:AS)(xs:List V)(ds:List D)(Q:St->Hp->Prop),ER K st σ H O Z->El K (U O Z) H xs ds->∀st',fg ds st=some st'->
 (∀σ',(∀j,j∉tg->σ'[j]?=σ[j]?/\st'[j]?=st[j]?)->Kq st σ st' σ'->ER K st' σ' H O Z->Q σ' H)->g xs σ H Q
def gsN:List D->En->Option En:=fun ds st=>match ds with|[]=>some st|_=>none
theorem o9:Jr K OF gsN []:=by
 intro st σ H O Z xs ds Q E el st' h q;cases ds with
 |nil=>
  cases h;exact⟨el.unnil,q σ (fun j _=>⟨rfl,rfl⟩) (Kq.refl _ _) E⟩
 |cons d ds=>cases h
def gsC(fg:FG)(fgs:List D->En->Option En):List D->En->Option En:=fun ds st=>match ds with|d::r=>(fg d st).bind fun st1=>fgs r st1|[]=>none
theorem fG(h1:RdG K g fg t1)(h2:Jr K gs fgs t2):Jr K (Ld g gs) (gsC fg fgs) (t1++t2):=by
 intro st σ H O Z xs ds Q E el st' h q;cases ds with
 |nil=>cases h
 |cons d ds=>
  refine bsO h fun st1 e1 h=>?_;obtain⟨v,r,rfl,da,el⟩:=el.uncons;refine⟨v,r,rfl,h1 st σ H O Z v d _ E da st1 e1 fun σ1 k1 q1 E1=>?_⟩;refine h2 st1 σ1 H O Z r ds _ E1 el st' h fun σ2 k2 q2 E2=>q σ2 (fun j hj=>?_) (q1.trans q2) E2;have a:=k1 j fun z=>hj (Vf _ z);have b:=k2 j fun z=>hj (Xd _ z);exact⟨b.1.trans a.1,b.2.trans a.2⟩
def gT(n:Nat)(fgs:List D->En->Option En):FG:=fun d st=>match d with|.tup ds=>if ds.length=n then fgs ds st else none|_=>none
theorem tL(h:Jr K gs fgs t):RdG K (Mf K n gs) (gT n fgs) t:=by
 intro st σ H O Z x d Q E da st' e q;cases d with
 |tup ds=>
  obtain⟨hn,e⟩:=aM e;cases da with|tup h1 h2 h3=>exact⟨_,_,rfl,h1.sq,h2.trans hn,h st σ H O Z _ ds Q E ⟨h2,h3⟩ st' e q⟩
 |_=>cases e
abbrev FI:=En->Option (List D×En)
def OX(K:Ab)(Z:AS)(J:It)(items:List D)(H:Hp)(O:AS):Prop:=∀H' O',Ext O H O' H'->(∀p,U O' Z p->Lv H' p)->(∀i,items.length<=i->J.stop i H')/\∀(i:Nat) d,items[i]?=some d->J.go i H'/\∀x H'',J.yld i H' x H''->Same H' H''/\DA K (U O' Z) H'' x d
def RdI(K:Ab)(wi:TI)(fi:FI):Prop:=∀(st:En)(σ:St)(H:Hp)(O Z:AS)(R:It->Hp->Prop),ER K st σ H O Z->∀items st',fi st=some (items,st')->
 (∀J H' O',Ext O H O' H'->Kp st st'->ER K st' σ H' O' Z->OX K Z J items H' O'->R J H')->wi σ H R
def esc(r:Rs)(st:En):Option (D×En):=(cont st r).bind fun d=>(Fk st r).bind fun st1=>some (d,st1)
theorem RVal.esc(h:RVal K Z st σ H O v r)(E:ER K st σ H O Z)(e:esc r st=some (d,st')):∃O',Ext O H O' H/\Kp st st'/\ER K st' σ H O' Z/\DA K (U O' Z) H v d:=by
 refine bsO e fun x e1 e=>?_;refine bsO e fun s1 e2 e=>?_;cases e;exact h.frz E e2 e1
def D.its:D->Option (List D)|.lst ds=>some ds|.fl ds=>some ds|_=>none
def D.itt:D->Option (List D)|.tup ds=>some ds|_=>none
def fIL(fe:FE):FI:=fun st=>(fe st).bind fun x=>(esc x.1 x.2).bind fun y=>(y.1.its).bind fun ds=>some (ds,y.2)
def Jt(h:RdE K te fe):RdI K (yd K te) (fIL fe):=by
 intro st σ H O Z R E items st' e q;refine bsP e fun r st1 e1 e=>?_;refine bsP e fun d st2 e2 e=>?_;refine bsO e fun ds e3 e=>?_;cases e;refine h st σ H O Z _ E r st1 e1 fun v H1 O1 x1 k1 E1 rv w1=>?_;obtain⟨O2,x2,k2,E2,da⟩:=rv.esc E1 e2;have fin:∀{a:Addr}{vs:List V},El K (U O2 Z) H1 vs items->(∀H' O',Ext O2 H1 O' H'->SqL K H' a vs)->yd K (fun _ H Q=>Q (.ref a) H) σ H1 R:=fun {a vs} el sq=>by
  refine⟨a,rfl,⟨vs,sq H1 O2 (Ext.refl _ _)⟩,q _ H1 O2 (x1.trans x2) (k1.trans k2) E2 fun H' O' ex _=>?_⟩;have g1:=sq H' O' ex;have el':=el.ext ex;have hl:=el.1;refine⟨fun i hi=>⟨vs,g1,by lia⟩,fun i d hd=>?_⟩
  obtain⟨v,hv,hdv⟩:=el'.at hd;refine⟨⟨vs,v,g1,hv⟩,fun x H'' hx=>?_⟩;obtain⟨rfl,hx⟩:=hx;have:=hx vs g1;rw[hv]at this;cases this;exact⟨Same.refl _,hdv⟩
 cases d with
 |lst ds'=>
  cases e3;cases da with|@lst a vs _ h0 h1 h2 h3=>exact fin ⟨h2,h3⟩ fun H' O' ex=>.inl (.inl (ex.kp a _ h1 fun z=>h0 (.inl z)))
 |fl ds'=>
  cases e3;cases da with
  |@fl a vs _ h1 h2 h3=>
   refine fin ⟨h2,h3⟩ fun H' O' ex=>?_;rcases h1 with⟨h1,hn⟩|h1
   ·exact .inl (Rd.keep h1 fun o e=>ex.kp a o e fun z=>hn (.inl z))
   ·exact h1 H'
 |_=>cases e3
def fIT(fe:FE):FI:=fun st=>(fe st).bind fun x=>(esc x.1 x.2).bind fun y=>(y.1.itt).bind fun ds=>some (ds,y.2)
theorem MR(h:RdE K te fe):RdI K (Mh K te) (fIT fe):=by
 intro st σ H O Z R E items st' e q;refine bsP e fun r st1 e1 e=>?_;refine bsP e fun d st2 e2 e=>?_;refine bsO e fun ds e3 e=>?_;cases e;refine h st σ H O Z _ E r st1 e1 fun v H1 O1 x1 k1 E1 rv w1=>?_;obtain⟨O2,x2,k2,E2,da⟩:=rv.esc E1 e2;cases d with
 |tup ds'=>
  cases e3;cases da with
  |@tup a vs _ h1 h2 h3=>
   refine⟨a,rfl,⟨vs,h1.sq⟩,q _ H1 O2 (x1.trans x2) (k1.trans k2) E2 fun H' O' ex _=>?_⟩;have da':=(DA.tup h1 h2 h3).ext ex;cases da' with
   |@tup _ ws _ g1 g2 g3=>
    refine⟨fun i hi=>⟨ws,g1.sq,by lia⟩,fun i d hd=>?_⟩
    obtain⟨v,hv,hdv⟩:=El.at ⟨g2,g3⟩ hd;refine⟨⟨ws,v,g1.sq,hv⟩,fun x H'' hx=>?_⟩;obtain⟨rfl,hx⟩:=hx;have:=hx ws g1.sq;rw[hv]at this;cases this;exact⟨Same.refl _,hdv⟩
 |_=>cases e3
def rng(lo:Int)(n:Nat):List D:=(List.range n).map fun(i:Nat)=>D.int (lo+(i:Int))
def Fq(h:(rng lo n)[i]?=some d):i<n/\d=.int (lo+i):=by grind [rng]
def hU(lo:Int)(n:Nat):(rng lo n).length=n:=by simp[rng]
def Fr:OX K Z (Itr lo n) (rng lo n) H O:=fun H' O' ex _=>by
 refine⟨fun i hi=>by rw[hU]at hi;exact hi,fun i d hd=>?_⟩
 obtain⟨h1,rfl⟩:=Fq hd;refine⟨h1,fun x H'' hx=>?_⟩;obtain⟨rfl,rfl⟩:=hx;exact⟨Same.refl _,.int _⟩
def MS:List D->Option Int|[.int j]=>some j|_=>none
def tM(fa:FA):FI:=fun st=>(fa st).bind fun x=>(ef x.2 x.1).bind fun ds=>(MS ds).bind fun j=>if -(2 ^ 62)<=j/\j<2 ^ 62 then some (rng 0 j.toNat,x.2) else none
def yC(h:RdA K ta fa):RdI K (Le ta) (tM fa):=by
 intro st σ H O Z R E items st' e q;refine bsP e fun rs st1 e1 e=>?_;refine bsO e fun ds e2 e=>?_;refine bsO e fun j e3 e=>?_;obtain⟨hc,e⟩:=aM e;cases e;refine h st σ H O Z _ E rs _ e1 fun vs H1 O1 x1 k1 E1 rvs=>?_;have bs:=rvs.bas E1 e2;have ed:ds=[.int j]:=by
  unfold MS at e3;split at e3
  ·cases e3;rfl
  ·cases e3
 subst ed;cases bs with
 |cons b1 b2=>
  cases b2;obtain rfl:=(show _=V.int j from b1);exact⟨j,rfl,hc.1,hc.2,q _ H1 O1 x1 k1 E1 Fr⟩
def p6(x:Str):List D:=x.cps.toList.map fun c=>D.str ⟨#[c]⟩
def fIS(fe:FE):FI:=fun st=>(fe st).bind fun x=>match cont x.2 x.1 with|some (.str z)=>some (p6 z,x.2)|_=>none
def MT(h:RdE K te fe):RdI K (MG te) (fIS fe):=by
 intro st σ H O Z R E items st' e q;refine bsP e fun r st1 e1 e=>?_;refine h st σ H O Z _ E r st1 e1 fun v H1 O1 x1 k1 E1 rv w1=>?_;dsimp only at e;split at e
 ·rename_i z ez
  cases e;have ev:v=.str z:=rv.ba E1 ez;refine⟨z,ev,q _ H1 O1 x1 k1 E1 fun H' O' ex _=>⟨fun i hi=>?_,fun i d hd=>?_⟩⟩
  ·show z.cps.size<=i;simpa[p6]using hi
  ·unfold p6 at hd;rw[Yd]at hd;obtain⟨c,hc,rfl⟩:=Vc.mp hd;have hc':z.cps[i]?=some c:=by simpa using hc
   refine⟨(Array.getElem?_eq_some_iff.mp hc').1,fun x H'' hx=>?_⟩;obtain⟨rfl,c',h1,rfl⟩:=hx;rw[hc']at h1;cases h1;exact⟨Same.refl _,.str _⟩
 ·cases e
inductive Ot where
 | nx (st:En)|rt (r:Rs) (st:En)|bk (st:En)|ct (st:En)
abbrev FS:=En->Option Ot
def Out(K:Ab)(Z O:AS)(H:Hp)(st:En)(σ:St)(Dn:Ends):Ot->Prop|.nx st'=>∀σ' H' O',Ext O H O' H'->Kq st σ st' σ'->ER K st' σ' H' O' Z->Dn.nx σ' H'|.rt r st'=>∀v σ' H' O',Ext O H O' H'->Kq st σ st' σ'->ER K st' σ' H' O' Z->RVal K Z st' σ' H' O' v r->Fsh H v r->Dn.rt v H'|.bk st'=>∀σ' H' O',Ext O H O' H'->Kq st σ st' σ'->ER K st' σ' H' O' Z->Dn.bk σ' H'|.ct st'=>∀σ' H' O',Ext O H O' H'->Kq st σ st' σ'->ER K st' σ' H' O' Z->Dn.ct σ' H'
def RdS(K:Ab)(ts:TS)(F:FS):Prop:=∀(st:En)(σ:St)(H:Hp)(O Z:AS)(Dn:Ends),ER K st σ H O Z->∀o,F st=some o->Out K Z O H st σ Dn o->ts Dn σ H
theorem Out.trans(h:Out K Z O H st σ Dn o)(x:Ext O H O1 H1)(k:Kq st σ st1 σ'):Out K Z O1 H1 st1 σ' Dn o:=by
 cases o with|nx s=>exact fun σ2 H2 O2 x2 k2 E2=>h σ2 H2 O2 (x.trans x2) (k.trans k2) E2|bk s=>exact fun σ2 H2 O2 x2 k2 E2=>h σ2 H2 O2 (x.trans x2) (k.trans k2) E2|ct s=>exact fun σ2 H2 O2 x2 k2 E2=>h σ2 H2 O2 (x.trans x2) (k.trans k2) E2|rt r s=>exact fun v σ2 H2 O2 x2 k2 E2 rv w=>h v σ2 H2 O2 (x.trans x2) (k.trans k2) E2 rv (w.back x)
def bT:FS:=fun st=>some (.nx st)
def Ju:RdS K Lb bT:=by
 intro st σ H O Z Dn E o e q;cases e;exact q σ H O (Ext.refl _ _) (Kq.refl _ _) E
def aH(F G:FS):FS:=fun st=>(F st).bind fun o=>match o with|.nx s=>G s|o=>some o
theorem Fs(h1:RdS K t F)(h2:RdS K u G):RdS K (OC t u) (aH F G):=by
 intro st σ H O Z Dn E o e q;refine bsO e fun o1 e1 e=>?_;refine h1 st σ H O Z _ E o1 e1 ?_;cases o1 with|nx s=>exact fun σ1 H1 O1 x1 k1 E1=>h2 s σ1 H1 O1 Z Dn E1 o e (q.trans x1 k1)|bk s=>cases e;exact q|ct s=>cases e;exact q|rt r s=>cases e;exact q
def ck(fe:FE):FS:=fun st=>(fe st).bind fun x=>some (.nx x.2)
def yD(h:RdE K te fe):RdS K (Lc te) (ck fe):=by
 intro st σ H O Z Dn E o e q;refine bsP e fun r st1 e1 e=>?_;cases e;exact h st σ H O Z _ E r st1 e1 fun v H1 O1 x1 k1 E1 rv w1=>q σ H1 O1 x1 k1.kq E1
def aZ(fe:FE):FS:=fun st=>(fe st).bind fun x=>some (.rt x.1 x.2)
def Ft(h:RdE K te fe):RdS K (OD te) (aZ fe):=by
 intro st σ H O Z Dn E o e q;refine bsP e fun r st1 e1 e=>?_;cases e;exact h st σ H O Z _ E r st1 e1 fun v H1 O1 x1 k1 E1 rv w1=>q v σ H1 O1 x1 k1.kq E1 rv w1
def sIf(f:FT)(F G:FS):FS:=fun st=>(f st).bind fun x=>if x.1=true then F x.2 else G x.2
theorem Lz(hc:RdT K c f)(h1:RdS K t F)(h2:RdS K u G):RdS K (OE c t u) (sIf f F G):=by
 intro st σ H O Z Dn E o e q;refine bsP e fun b st1 e1 e=>?_;refine hc st σ H O Z _ E b st1 e1 fun H1 O1 x1 k1 E1=>?_;cases b with
 |true=>
  rw[Ag rfl]at e ⊢;exact h1 st1 σ H1 O1 Z Dn E1 o e (q.trans x1 k1.kq)
 |false=>
  simp only[Qe,if_false]at e ⊢;exact h2 st1 σ H1 O1 Z Dn E1 o e (q.trans x1 k1.kq)
def bb(fe:FE)(i:Nat):FS:=fun st=>(fe st).bind fun x=>match x.1 with|.d y=>(nK i (.v y) x.2).bind fun s=>some (.nx s)|.f y=>(nK i (.o y) x.2).bind fun s=>some (.nx s)|.s j=>(esc (.s j) x.2).bind fun y=>(nK i (.v y.1) y.2).bind fun s=>some (.nx s)
theorem Fu(h:RdE K te fe):RdS K (Dr te (pR i)) (bb fe i):=by
 intro st σ H O Z Dn E o e q;refine bsP e fun r st1 e1 e=>?_;refine h st σ H O Z _ E r st1 e1 fun v H1 O1 x1 k1 E1 rv w1=>?_;show Dn.nx (σ.set i (some v)) H1;cases r with
 |d y=>
  refine bsO e fun s e2 e=>?_;cases e;obtain⟨t,f1,f2,rfl⟩:=o8 e2;exact q _ H1 O1 x1 (k1.kq.trans (tK f1 f2)) (E1.asg f1 rv)
 |f y=>
  refine bsO e fun s e2 e=>?_;cases e;obtain⟨t,f1,f2,rfl⟩:=o8 e2;obtain⟨p,rfl,np,nz,ho,E2⟩:=rv;have hp:H p=none:=w1 p rfl;exact q _ H1 (ins p O1) ⟨x1.kp,fun b z=>z.elim (fun y=>by rw[y];exact .inr hp) (x1.nw b),x1.al,x1.lv⟩ (k1.kq.trans (tK f1 f2)) (E1.asgF E2 np f1 ho)
 |s j=>
  refine bsP e fun d st2 e2 e=>?_;refine bsO e fun s e3 e=>?_;cases e;obtain⟨O2,x2,k2,E2,da⟩:=rv.esc E1 e2;obtain⟨t,f1,f2,rfl⟩:=o8 e3;exact q _ H1 O2 (x1.trans x2) ((k1.kq.trans k2.kq).trans (tK f1 f2)) (E2.asg f1 da)
end
end VF
namespace VF
open PySem L2
section
variable {K:Ab}{Y Y' O O' O1 O2 Z:AS}{H H' H1 H2:Hp}{v:V}{d:D}{vs:List V}{ds:List D}{a p:Addr}{st st' st1 st2:En}{σ σ':St}
def eT(fg:FG)(B:FS):List D->FS
 |[],st=>some (.nx st)
 | x::r,st=>(fg x st).bind fun s1=>(B s1).bind fun o=>match o with|.nx s2=>eT fg B r s2|.ct s2=>eT fg B r s2|.bk s2=>some (.nx s2)|.rt y s2=>some (.rt y s2)
def fY(fi:FI)(fg:FG)(B:FS):FS:=fun st=>(fi st).bind fun x=>eT fg B x.1 x.2
def tN(hi:RdI K wi fi)(hg:RdG K g fg tg)(hb:RdS K tb B):RdS K (OH wi g tb) (fY fi fg B):=by
 intro st σ H O Z Dn E o e q;refine bsP e fun items st1 e1 e=>?_;refine hi st σ H O Z _ E items st1 e1 fun J H1 O1 x1 k1 E1 it=>?_;have q1:=q.trans x1 (k1.kq (σ:=σ));refine⟨fun i m σ' H'=>m=items.length-i/\i<=items.length/\∃s O',Ext O1 H1 O' H'/\Kq st1 σ s σ'/\ER K s σ' H' O' Z/\eT fg B (items.drop i) s=some o,⟨items.length,by simp,Xi _,st1,O1,Ext.refl _ _,Kq.refl _ _,E1,e⟩,?_⟩
 rintro i m σ' H' ⟨rfl,hle,s,O',x2,k2,E2,e2⟩;obtain⟨stop,go⟩:=it H' O' x2 E2.liv;by_cases hlt:i<items.length
 ·right;have hd:items.drop i=items[i]::items.drop (i+1):=C6 hlt;rw[hd]at e2;refine bsO e2 fun s1 e3 e2=>?_;refine bsO e2 fun o1 e4 e2=>?_;obtain⟨g1,g2⟩:=go i _ (Ya hlt);refine⟨g1,fun σ3 H3=>∃s O3,Ext O1 H1 O3 H3/\Kq st1 σ s σ3/\ER K s σ3 H3 O3 Z/\eT fg B (items.drop (i+1)) s=some o,fun σ3 H3 ⟨s3,O3,x3,k3,E3,e3'⟩=>⟨items.length-(i+1),by lia,rfl,hlt,s3,O3,x3,k3,E3,e3'⟩,fun x H'' hy=>?_⟩
  obtain⟨sm,da⟩:=g2 x H'' hy;have xm:Ext O' H' O' H'':=Same.ext sm;refine hg s σ' H'' O' Z x _ _ (E2.same sm) da s1 e3 fun σ4 _ k4 E4=>?_;refine hb s1 σ4 H'' O' Z _ E4 o1 e4 ?_;have xx:=x2.trans xm;cases o1 with
  |nx s2=>exact fun σ5 H5 O5 x5 k5 E5=>⟨s2,O5,xx.trans x5,(k2.trans k4).trans k5,E5,e2⟩
  |ct s2=>exact fun σ5 H5 O5 x5 k5 E5=>⟨s2,O5,xx.trans x5,(k2.trans k4).trans k5,E5,e2⟩
  |bk s2=>
   cases e2;exact fun σ5 H5 O5 x5 k5 E5=>q1 σ5 H5 O5 (xx.trans x5) ((k2.trans k4).trans k5) E5
  |rt y s2=>
   cases e2;exact fun v σ5 H5 O5 x5 k5 E5 rv w=>q1 v σ5 H5 O5 (xx.trans x5) ((k2.trans k4).trans k5) E5 rv (w.back xx)
 ·left;have hn:items.drop i=[]:=Dk (by lia)
  rw[hn]at e2;cases e2;exact⟨stop i (by lia),q1 σ' H' O' x2 k2 E2⟩
def sWh(f:FT)(B:FS):Nat->FS
 |0,_=>none
 | n+1,st=>(f st).bind fun x=>if x.1=true then(B x.2).bind fun o=>match o with|.nx s2=>sWh f B n s2|.ct s2=>sWh f B n s2|.bk s2=>some (.nx s2)|.rt y s2=>some (.rt y s2)
  else some (.nx x.2)
theorem vp(n:Nat)(hc:RdT K c f)(hb:RdS K tb B):RdS K (EO c tb) (sWh f B n):=by
 intro st σ H O Z Dn E o e q;refine⟨fun m σ' H'=>∃s O',Ext O H O' H'/\Kq st σ s σ'/\ER K s σ' H' O' Z/\sWh f B m s=some o,⟨n,st,O,Ext.refl _ _,Kq.refl _ _,E,e⟩,?_⟩;rintro m σ' H' ⟨s,O',x2,k2,E2,e2⟩;cases m with
 |zero=>cases e2
 |succ m=>
  refine bsP e2 fun b s1 e3 e2=>?_;refine hc s σ' H' O' Z _ E2 b s1 e3 fun H3 O3 x3 k3 E3=>?_;have xx:=x2.trans x3;have kk:=k2.trans (k3.kq (σ:=σ'));cases b with
  |false=>
   simp only[Qe,if_false]at e2 ⊢;cases e2;exact q σ' H3 O3 xx kk E3
  |true=>
   rw[Ag rfl]at e2 ⊢;refine bsO e2 fun o1 e4 e2=>?_;refine⟨fun σ5 H5=>∃s O5,Ext O H O5 H5/\Kq st σ s σ5/\ER K s σ5 H5 O5 Z/\sWh f B m s=some o,fun σ5 H5 h=>⟨m,BN _,h⟩,?_⟩;refine hb s1 σ' H3 O3 Z _ E3 o1 e4 ?_;cases o1 with
   |nx s2=>exact fun σ5 H5 O5 x5 k5 E5=>⟨s2,O5,xx.trans x5,kk.trans k5,E5,e2⟩
   |ct s2=>exact fun σ5 H5 O5 x5 k5 E5=>⟨s2,O5,xx.trans x5,kk.trans k5,E5,e2⟩
   |bk s2=>
    cases e2;exact fun σ5 H5 O5 x5 k5 E5=>q σ5 H5 O5 (xx.trans x5) (kk.trans k5) E5
   |rt y s2=>
    cases e2;exact fun v σ5 H5 O5 x5 k5 E5 rv w=>q v σ5 H5 O5 (xx.trans x5) (kk.trans k5) E5 rv (w.back xx)
structure RdM(K:Ab)(T:String)(r:V->List V->Hp->VK->Prop)(ok:D->Bool)(m:D->List D->Option (D×D)):Prop where
 ty:∀(Y:AS)(H:Hp)(p:Addr)(x:D),OA K Y H p x->ok x=true->tyV K T (.ref p) H
 run:∀(Y:AS)(H:Hp)(p:Addr)(x:D)(vs:List V)(ds:List D)(y x':D)(Q:VK),Y p->OA K Y H p x->El K Y H vs ds->m x ds=some (y,x')->
  (∀v o,DA K Y (upd H p o) v y->OA K Y (upd H p o) p x'->Q v (upd H p o))->r (.ref p) vs H Q
def fM(ok:D->Bool)(m:D->List D->Option (D×D))(i:Nat)(fa:FA):FE:=fun st=>(st[i]?).bind fun s0=>(s0.ow).bind fun x0=>if ok x0=true then(fa st).bind fun x=>(cQ x.1 x.2).bind fun y=>(y.2[i]?).bind fun s=>(s.ow).bind fun d=>(m d y.1).bind fun z=>some (.d z.1,y.2.set i (s.put z.2)) else none
def OY(hm:RdM K T r ok m)(ha:RdA K ta fa):RdE K (tBM K T r (wJ i) ta) (fM ok m i fa):=by
 intro st σ H O Z Q E r0 st' h q;refine bsO h fun s0 f1 h=>?_;refine bsO h fun x0 f2 h=>?_;obtain⟨hok,h⟩:=aM h;refine bsP h fun rs st1 e1 h=>?_;refine bsP h fun ds st2 e2 h=>?_;refine bsO h fun s e3 h=>?_;refine bsO h fun x e4 h=>?_;refine bsP h fun y x' e5 h=>?_;cases h;obtain⟨p,g1,g2,g3⟩:=E.own i s0 x0 f1 f2;refine⟨.ref p,g1,hm.ty _ _ _ _ g3 hok,?_⟩;refine ha st σ H O Z _ E rs st1 e1 fun vs H1 O1 x1 k1 E1 rvs=>?_;obtain⟨O2,x2,k2,E2,el⟩:=rvs.esc E1 e2;obtain⟨p',j1,j2,j3⟩:=E2.own i s x e3 e4;have ep:p'=p:=by rw[g1]at j1;cases j1;rfl
 subst ep;refine hm.run (U O2 Z) H1 p' x vs ds y x' _ (.inl j2) j3 el e5 fun v o da ho=>?_;obtain⟨E3,x3,k3⟩:=E2.write e3 e4 g1 ho;exact q v _ O2 ((x1.trans x2).trans x3) ((k1.trans k2).trans k3) E3 da True.intro
def Fv(K:Ab)(t:I0)(m:D->D->D->Option D):Prop:=∀(Y:AS)(H:Hp)(p:Addr)(x:D)(k v:V)(dk dv x':D)(Q:Hp->Prop),Y p->OA K Y H p x->BA K Y H k dk->DA K Y H v dv->m x dk dv=some x'->
 (∀o,OA K Y (upd H p o) p x'->Q (upd H p o))->t (.ref p) k v H Q
def mJ(m:D->D->D->Option D)(fe:FE)(i:Nat)(fi:FE):FS:=fun st=>(fe st).bind fun x=>(esc x.1 x.2).bind fun y=>(y.2[i]?).bind fun s0=>(s0.ow).bind fun _=>(fi y.2).bind fun w=>(cont w.2 w.1).bind fun dk=>(w.2[i]?).bind fun s=>(s.ow).bind fun z=>(m z dk y.1).bind fun z'=>some (.nx (w.2.set i (s.put z')))
def Fw(hm:Fv K t m)(he:RdE K te fe)(hi:RdE K ti fi):RdS K (Dr te (OG (wJ i) ti t)) (mJ m fe i fi):=by
 intro st σ H O Z Dn E o e q;refine bsP e fun r st1 e1 e=>?_;refine bsP e fun dv st2 e2 e=>?_;refine bsO e fun s0 e3 e=>?_;refine bsO e fun x0 e4 e=>?_;refine bsP e fun rk st3 e5 e=>?_;refine bsO e fun dk e6 e=>?_;refine bsO e fun s e7 e=>?_;refine bsO e fun x e8 e=>?_;refine bsO e fun x' e9 e=>?_;cases e;refine he st σ H O Z _ E r st1 e1 fun v H1 O1 x1 k1 E1 rv w1=>?_;obtain⟨O2,x2,k2,E2,da⟩:=rv.esc E1 e2;obtain⟨p,g1,g2,g3⟩:=E2.own i s0 x0 e3 e4;refine⟨.ref p,g1,?_⟩;refine hi st2 σ H1 O2 Z _ E2 rk st3 e5 fun k H3 O3 x3 k3 E3 rk' w3=>?_;obtain⟨p',j1,j2,j3⟩:=E3.own i s x e7 e8;have ep:p'=p:=by rw[g1]at j1;cases j1;rfl
 subst ep;refine hm (U O3 Z) H3 p' x k v dk dv x' _ (.inl j2) j3 (rk'.ba E3 e6) (da.ext x3) e9 fun o ho=>?_;obtain⟨E4,x4,k4⟩:=E3.write e7 e8 g1 ho;exact q σ _ O3 (((x1.trans x2).trans x3).trans x4) (((k1.trans k2).trans k3).trans k4).kq E4
def lh(k:Nat)(caps:List Nat)(st:En):En:=List.replicate k Sl.e++caps.map fun i=>(st[i]?).getD .e
def rst(k:Nat)(s:En):En:=List.replicate k Sl.e++s.drop k
def wb:List Nat->En->En->En|i::r,s::sb,st=>wb r sb (st.set i s)|_,_,st=>st
def b9(fg:FG)(fc:FT)(fe:FE)(k:Nat):List D->En->Option (List D×En)
 |[],sb=>some ([],sb)
 | x::r,sb=>(fg x sb).bind fun s1=>(fc s1).bind fun c=>if c.1=true then(fe c.2).bind fun y=>(esc y.1 y.2).bind fun w=>(b9 fg fc fe k r (rst k w.2)).bind fun z=>some (w.1::z.1,z.2)
  else b9 fg fc fe k r (rst k c.2)
def tO(caps:List Nat)(n:Nat):Bool:=decide caps.Nodup&&caps.all fun i=>decide (i<n)
def cK(k:Nat)(caps:List Nat)(fi:FI)(fg:FG)(fc:FT)(fe:FE):FE:=fun st=>(fi st).bind fun x=>if (tO caps x.2.length&&decide (x.1.length<=1000000))=true then(b9 fg fc fe k x.1 (lh k caps x.2)).bind fun y=>some (.f (.lst y.1),wb caps (y.2.drop k) x.2) else none
theorem wY:∀(caps:List Nat)(sb st:En),(wb caps sb st).length=st.length|[],_,_=>by simp[wb]|_::_,[],_=>by simp[wb]|i::r,s::sb,st=>by rw[wb,wY r sb];simp
theorem p7:∀(caps:List Nat)(sb st:En){i:Nat},i∉caps->(wb caps sb st)[i]?=st[i]?
 |[],_,_,_,_=>by simp[wb]
 |_::_,[],_,_,_=>by simp[wb]
 | j::r,s::sb,st,i,h=>by
  rw[wb,p7 r sb _ (fun z=>h (Vb _ z))];exact aD fun z=>h (by rw[z];simp)
theorem Fx:∀(caps:List Nat)(sb st:En){j i:Nat},caps.Nodup->sb.length=caps.length->caps[j]?=some i->i<st.length->(wb caps sb st)[i]?=sb[j]?
 |[],_,_,_,_,_,_,h,_=>by simp at h
 |_::_,[],_,_,_,_,h,_,_=>by simp at h
 | c::r,s::sb,st,0,i,nd,hl,h,hi=>by
  have e:c=i:=by simpa using h
  subst e;rw[wb,p7 r sb _ (Qg.mp nd).1];rw[Ba,Ag rfl,Ag hi];rfl
 | c::r,s::sb,st,j+1,i,nd,hl,h,hi=>by
  rw[wb,Fx r sb _ (j:=j) (Qg.mp nd).2 (by simpa using hl) (by simpa using h) (by simpa using hi)];rfl
def yE(h:caps[j]?=some i):(lh k caps st)[k+j]?=some ((st[i]?).getD .e):=by grind [lh]
def mK{s:Sl}(h:(lh k caps st)[i]?=some s)(n:s.get≠none):∃j i',i=k+j/\caps[j]?=some i'/\st[i']?=some s:=by
 unfold lh at h;by_cases hi:i<k
 ·rw[Xk (by simpa using hi),Wn,Ag hi]at h
  cases h;exact absurd rfl n
 ·rw[Zi (by simpa using hi),Qk,Yd]at h
  refine⟨i-k,?_⟩;obtain⟨i',e1,e2⟩:=Vc.mp h;refine⟨i',by lia,e1,?_⟩
  cases q:st[i']? with|none=>rw[q]at e2;subst e2;exact absurd rfl n|some t=>rw[q]at e2;subst e2;rfl
def lG(h:caps[j]?=some i):(blk k caps σ)[k+j]?=some ((σ[i]?).getD none):=by grind [blk]
def jU{s:Sl}(h:s.ow=some d):s.get≠none:=by cases s<;>first|(cases h;done)|simp[Sl.get]
def Fy{l:List Nat}{j j' i:Nat}(nd:l.Nodup)(h:l[j]?=some i)(h':l[j']?=some i):j=j':=by
 obtain⟨h1,h2⟩:=Zd.mp h;obtain⟨h3,h4⟩:=Zd.mp h';exact(List.getElem_inj nd).mp (h2.trans h4.symm)
def Ob(caps:List Nat)(st:En)(σ:St):AS:=fun p=>∃i∈caps,∃s d,st[i]?=some s/\s.ow=some d/\σ[i]?=some (some (.ref p))
def Zb(caps:List Nat)(st:En)(σ:St)(O Z:AS):AS:=fun p=>Z p\/(O p/\¬ Ob caps st σ p)
def Ob.o(E:ER K st σ H O Z)(h:Ob caps st σ q):O q:=by
 obtain⟨i,_,s,d,h1,h2,h3⟩:=h;obtain⟨p,g1,g2,_⟩:=E.own i s d h1 h2;rw[h3]at g1;cases g1;exact g2
def MU{k:Nat}{caps:List Nat}(E:ER K st σ H O Z)(nd:caps.Nodup):ER K (lh k caps st) (blk k caps σ) H (Ob caps st σ) (Zb caps st σ O Z):=by
 have up:∀b,U (Ob caps st σ) (Zb caps st σ O Z) b->U O Z b:=fun b z=>z.elim (fun y=>.inl (Ob.o E y)) fun y=>y.elim .inr fun w=>.inl w.1;refine⟨by simp[lh,blk],fun i d h=>?_,fun i s d h1 h2=>?_,fun i j s t d d' p h1 h2 h3 h4 h5 h6=>?_,fun p h z=>?_,fun p h=>E.liv p (up p h)⟩
 ·obtain⟨j,i',rfl,hc,hs⟩:=mK h (by simp[Sl.get])
  obtain⟨v,g1,g2⟩:=E.val i' d hs;exact⟨v,by rw[lG hc,g1];rfl,g2.less up⟩
 ·obtain⟨j,i',rfl,hc,hs⟩:=mK h1 (jU h2);obtain⟨p,g1,g2,g3⟩:=E.own i' s d hs h2;exact⟨p,by rw[lG hc,g1];rfl,⟨i',Xb hc,s,d,hs,h2,g1⟩,g3.go rfl (fun _ _ e _=>e) fun b z=>.inl (up b z)⟩
 ·obtain⟨j1,i1,rfl,c1,s1⟩:=mK h1 (jU h2);obtain⟨j2,i2,rfl,c2,s2⟩:=mK h3 (jU h4);obtain⟨p1,g1,_⟩:=E.own i1 s d s1 h2;obtain⟨p2,g2,_⟩:=E.own i2 t d' s2 h4;rw[lG c1,g1]at h5;rw[lG c2,g2]at h6;have e1:p1=p:=by simpa using h5
  have e2:p2=p:=by simpa using h6
  subst e1;subst e2;have e:=E.uni i1 i2 s t d d' _ s1 h2 s2 h4 g1 g2;subst e;rw[Fy nd c1 c2]
 ·rcases z with z|z
  ·exact E.dis p (Ob.o E h) z
  ·exact z.2 h
def Fz{τ τ':St}(E:ER K st τ H O Z)(hl:τ'.length=τ.length)(hk:k<=st.length)(h:∀j,k<=j->τ'[j]?=τ[j]?):ER K (rst k st) τ' H O Z:=by
 have at_:∀(i:Nat) s,(rst k st)[i]?=some s->s.get≠none->k<=i/\st[i]?=some s:=fun i s e n=>by
  unfold rst at e;by_cases hi:i<k
  ·rw[Xk (by simpa using hi),Wn,Ag hi]at e
   cases e;exact absurd rfl n
  ·rw[Zi (by simpa using hi),Qk,Wi]at e
   have:k+(i-k)=i:=by lia
   rw[this]at e;exact⟨by lia,e⟩
 refine⟨?_,fun i d e=>?_,fun i s d e1 e2=>?_,fun i j s t d d' p e1 e2 e3 e4 e5 e6=>?_,E.dis,E.liv⟩
 ·rw[hl,<-E.len];simp[rst];lia
 ·obtain⟨hk,e⟩:=at_ i _ e (by simp[Sl.get])
  obtain⟨v,g1,g2⟩:=E.val i d e;exact⟨v,by rw[h i hk];exact g1,g2⟩
 ·obtain⟨hk,e⟩:=at_ i _ e1 (jU e2);obtain⟨p,g1,g2⟩:=E.own i s d e e2;exact⟨p,by rw[h i hk];exact g1,g2⟩
 ·obtain⟨hk1,e1⟩:=at_ i _ e1 (jU e2);obtain⟨hk2,e3⟩:=at_ j _ e3 (jU e4);rw[h i hk1]at e5;rw[h j hk2]at e6;exact E.uni i j s t d d' p e1 e2 e3 e4 e5 e6
def Oo(caps:List Nat)(st:En)(σ:St)(O Oi:AS):AS:=fun p=>Oi p\/(O p/\¬ Ob caps st σ p)
def wZ(E:ER K st σ H O Z)(x:Ext (Ob caps st σ) H Oi H'):Ext O H (Oo caps st σ O Oi) H' :=
 ⟨fun b o e n=>x.kp b o e fun z=>n (Ob.o E z),fun b z=>z.elim (fun y=>(x.nw b y).elim (fun w=>.inl (Ob.o E w)) .inr) fun y=>.inl y.1,x.al,x.lv⟩
def FB{caps:List Nat}{sb:En}(E:ER K st σ H O Z)(nd:caps.Nodup)(lt:∀i∈caps,i<st.length)(hl:sb.length=k+caps.length)(x:Ext (Ob caps st σ) H Oi H')(B:ER K sb (blk k caps σ) H' Oi (Zb caps st σ O Z)) :
  ER K (wb caps (sb.drop k) st) σ H' (Oo caps st σ O Oi) Z:=by
 have dl:(sb.drop k).length=caps.length:=by rw[Yj];lia
 have cap:∀(j i:Nat),caps[j]?=some i->(wb caps (sb.drop k) st)[i]?=sb[k+j]?:=fun j i h=>by
  rw[Fx caps _ st nd dl h (lt i (Xb h)),Wi]
 have out:∀i,i∉caps->(wb caps (sb.drop k) st)[i]?=st[i]?:=fun i h=>p7 caps _ st h;have same:∀b,U (Oo caps st σ O Oi) Z b->U Oi (Zb caps st σ O Z) b:=fun b z=>by
  rcases z with(z|z)|z
  ·exact .inl z
  ·exact .inr (.inr z)
  ·exact .inr (.inl z)
 have kp:∀b o,H b=some o->¬ U O Z b->H' b=some o:=fun b o e n=>x.kp b o e fun z=>n (.inl (Ob.o E z));have nn:∀b,U (Oo caps st σ O Oi) Z b->U O Z b\/H b=none:=fun b z=>by
  rcases z with z|z
  ·exact((wZ E x).nw b z).elim (fun y=>.inl (.inl y)) .inr
  ·exact .inl (.inr z)
 have nob:∀(i:Nat) s d p,i∉caps->st[i]?=some s->s.ow=some d->σ[i]?=some (some (.ref p))->¬ Ob caps st σ p:=fun i s d p hn h1 h2 h3 z=>by
  obtain⟨i0,hm,s0,d0,g1,g2,g3⟩:=z;have:=E.uni i i0 s s0 d d0 p h1 h2 g1 g2 h3 g3;subst this;exact hn hm
 have bget:∀{j i:Nat}{v:V},caps[j]?=some i->(blk k caps σ)[k+j]?=some (some v)->σ[i]?=some (some v):=fun {j i v} hc hb=>by
  rw[lG hc]at hb;have hb':=Option.some.inj hb;cases q:σ[i]? with|none=>rw[q]at hb';cases hb'|some w=>rw[q]at hb';have:w=some v:=hb';rw[this]
 have own:∀(i:Nat) s d,(wb caps (sb.drop k) st)[i]?=some s->s.ow=some d->(∃j,caps[j]?=some i/\sb[k+j]?=some s)\/(i∉caps/\st[i]?=some s):=fun i s d h1 _=>by
  by_cases hc:i∈caps
  ·obtain⟨j,hj⟩:=Vl hc;rw[cap j i hj]at h1;exact .inl ⟨j,hj,h1⟩
  ·rw[out i hc]at h1;exact .inr ⟨hc,h1⟩
 refine⟨by rw[wY];exact E.len,fun i d h=>?_,fun i s d h1 h2=>?_,fun i j s t d d' p h1 h2 h3 h4 h5 h6=>?_,fun p h=>?_,fun p h=>?_⟩
 ·by_cases hc:i∈caps
  ·obtain⟨j,hj⟩:=Vl hc;rw[cap j i hj]at h;obtain⟨v,g1,g2⟩:=B.val _ d h;exact⟨v,bget hj g1,g2.less same⟩
  ·rw[out i hc]at h;obtain⟨v,g1,g2⟩:=E.val i d h;exact⟨v,g1,g2.go kp nn⟩
 ·rcases own i s d h1 h2 with⟨j,hj,hs⟩|⟨hc,hs⟩
  ·obtain⟨p,g1,g2,g3⟩:=B.own _ s d hs h2;exact⟨p,bget hj g1,.inl g2,g3.go rfl (fun _ _ e _=>e) fun b z=>.inl (same b z)⟩
  ·obtain⟨p,g1,g2,g3⟩:=E.own i s d hs h2;have nb:=nob i s d p hc hs h2 g1;refine⟨p,g1,.inr ⟨g2,nb⟩,g3.go ?_ kp nn⟩;cases q:H p with|none=>exact absurd q g3.live|some o=>exact x.kp p o q nb
 ·rcases own i s d h1 h2 with⟨j1,c1,s1⟩|⟨c1,s1⟩<;>rcases own j t d' h3 h4 with⟨j2,c2,s2⟩|⟨c2,s2⟩
  ·have e:=B.uni _ _ s t d d' p s1 h2 s2 h4 (by rw[lG c1,h5];rfl) (by rw[lG c2,h6];rfl)
   have e':j1=j2:=by lia
   subst e';rw[c1]at c2;exact Option.some.inj c2
  ·exfalso
   obtain⟨q,g1,g2,_⟩:=B.own _ s d s1 h2;have:=bget c1 g1;rw[h5]at this;cases this;have nb:=nob j t d' p c2 s2 h4 h6;obtain⟨q2,k1,_,k3⟩:=E.own j t d' s2 h4;rw[h6]at k1;cases k1;exact(x.nw p g2).elim nb k3.live
  ·exfalso
   obtain⟨q,g1,g2,_⟩:=B.own _ t d' s2 h4;have:=bget c2 g1;rw[h6]at this;cases this;have nb:=nob i s d p c1 s1 h2 h5;obtain⟨q2,k1,_,k3⟩:=E.own i s d s1 h2;rw[h5]at k1;cases k1;exact(x.nw p g2).elim nb k3.live
  ·exact E.uni i j s t d d' p s1 h2 s2 h4 h5 h6
 ·rcases h with h|h
  ·exact fun z=>B.dis p h (.inl z)
  ·exact E.dis p h.1
 ·rcases h with(h|h)|h
  ·exact B.liv p (.inl h)
  ·exact x.lv p (E.liv p (.inl h.1))
  ·exact x.lv p (E.liv p (.inr h))
def FC{a b:En}(h0:∀(i:Nat) s,a[i]?=some s->i<k->s=.e)(h:Kp a b)(hk:k<=b.length):Kp a (rst k b):=by
 have lk:(rst k b).length=b.length:=by simp[rst];lia
 have at_:∀i,k<=i->(rst k b)[i]?=b[i]?:=fun i hi=>by
  unfold rst;rw[Zi (by simpa using hi),Qk,Wi]
  congr 1;lia
 refine⟨lk.trans h.len,fun i s e g=>?_,fun i d e=>?_⟩
 ·by_cases hi:i<k
  ·have:=h0 i s e hi;subst this;exact absurd rfl g
  ·obtain⟨s',e',g'⟩:=h.has i s e g;exact⟨s',by rw[at_ i (by lia)];exact e',g'⟩
 ·by_cases hi:i<k
  ·have:=h0 i _ e hi;cases this
  ·obtain⟨d',e'⟩:=h.io i d e;exact⟨d',by rw[at_ i (by lia)];exact e'⟩
def OZ{caps:List Nat}{sb:En}(nd:caps.Nodup)(lt:∀i∈caps,i<st.length)(hl:sb.length=k+caps.length)(h:Kp (lh k caps st) sb):Kp st (wb caps (sb.drop k) st):=by
 have dl:(sb.drop k).length=caps.length:=by rw[Yj];lia
 have cap:∀(j i:Nat),caps[j]?=some i->(wb caps (sb.drop k) st)[i]?=sb[k+j]?:=fun j i h=>by
  rw[Fx caps _ st nd dl h (lt i (Xb h)),Wi]
 refine⟨wY _ _ _,fun i s e g=>?_,fun i d e=>?_⟩
 ·by_cases hc:i∈caps
  ·obtain⟨j,hj⟩:=Vl hc;rw[cap j i hj];exact h.has (k+j) s (by rw[yE hj,e];rfl) g
  ·exact⟨s,by rw[p7 _ _ _ hc];exact e,g⟩
 ·by_cases hc:i∈caps
  ·obtain⟨j,hj⟩:=Vl hc;rw[cap j i hj];exact h.io (k+j) d (by rw[yE hj,e];rfl)
  ·exact⟨d,by rw[p7 _ _ _ hc];exact e⟩
def tP(i:Nat)(s:Sl)(h:(lh k caps st)[i]?=some s)(hi:i<k):s=.e:=by grind [Sl,lh]
def ItC(K:Ab)(Z:AS)(caps:List Nat)(st:En)(σ:St)(J:It)(items:List D)(H:Hp)(O:AS):Prop:=∀H' Oi,Ext (Ob caps st σ) H Oi H'->(∀p,U (Oo caps st σ O Oi) Z p->Lv H' p)->(∀i,items.length<=i->J.stop i H')/\∀(i:Nat) d,items[i]?=some d->J.go i H'/\∀x H'',J.yld i H' x H''->Same H' H''/\DA K (U (Oo caps st σ O Oi) Z) H'' x d
def O0(K:Ab)(caps:List Nat)(wi:TI)(fi:FI):Prop:=∀(st:En)(σ:St)(H:Hp)(O Z:AS)(R:It->Hp->Prop),ER K st σ H O Z->∀items st',fi st=some (items,st')->
 (∀J H' O',Ext O H O' H'->Kp st st'->ER K st' σ H' O' Z->ItC K Z caps st' σ J items H' O'->R J H')->wi σ H R
def RdI.ic(h:RdI K wi fi):O0 K caps wi fi:=fun st σ H O Z R E items st' e q=>
 h st σ H O Z R E items st' e fun J H1 O1 x1 k1 E1 it=>q J H1 O1 x1 k1 E1 fun H' Oi x2 lv=>it H' _ (wZ E1 x2) lv
def FD(hi:O0 K caps wi fi)(hg:RdG K g fg tg)(ht:∀j∈tg,j<k)(hc:RdT K tc fc)(he:RdE K te fe) :
  RdE K (rO k caps wi g tc te) (cK k caps fi fg fc fe):=by
 intro st σ H O Z Q E r st' h q;refine bsP h fun items st1 e1 h=>?_;by_cases hok:(tO caps st1.length&&decide (items.length<=1000000))=true
 rotate_left
 ·simp only[Aj hok]at h;cases h
 simp only[Ag hok]at h;refine bsP h fun total sf e2 h=>?_;cases h;have hok1:caps.Nodup/\(∀i∈caps,i<st1.length)/\items.length<=1000000:=by
  rw[Vi,decide_eq_true_eq]at hok;unfold tO at hok;rw[Vi,decide_eq_true_eq,Xj]at hok;exact⟨hok.1.1,fun i hi=>Ak (hok.1.2 i hi),hok.2⟩
 obtain⟨nd,lt,hfew⟩:=hok1;refine hi st σ H O Z _ E items st1 e1 fun J H1 O1 x1 k1 E1 it=>?_;have bl:(blk k caps σ).length=k+caps.length:=by simp[blk]
 have el:(lh k caps st1).length=k+caps.length:=by simp[lh]
 refine⟨items.length,fun i xs H'=>∃sb Oi ds ds2,Ext (Ob caps st1 σ) H1 Oi H'/\ER K sb (blk k caps σ) H' Oi (Zb caps st1 σ O1 Z)/\El K (U Oi (Zb caps st1 σ O1 Z)) H' xs ds/\b9 fg fc fe k (items.drop i) sb=some (ds2,sf)/\ds++ds2=total/\Kp (lh k caps st1) sb/\xs.length<=i,
  ⟨lh k caps st1,Ob caps st1 σ,[],total,Ext.refl _ _,MU E1 nd,El.nil,e2,rfl,Kp.refl _,Wb _⟩,?_,?_⟩
 ·rintro xs H' ⟨sb,Oi,ds,ds2,x2,B,exs,e3,ed,kb,_⟩;rw[Dk (Wb _)]at e3;obtain⟨rfl,rfl⟩:([]:List D)=ds2/\sb=sf:=by
   have:=Option.some.inj e3;exact⟨congrArg Prod.fst this,congrArg Prod.snd this⟩
  rw[Yg]at ed;subst ed;obtain⟨stop,_⟩:=it H' Oi x2 (FB E1 nd lt (kb.len.trans el) x2 B).liv;refine⟨stop _ (Wb _),fun p hp=>?_⟩;have sl:sb.length=k+caps.length:=kb.len.trans el;have Eo:=FB E1 nd lt sl x2 B;have ko:=OZ nd lt sl kb;have el2:El K (U (Oo caps st1 σ O1 Oi) Z) H' xs ds:=exs.less fun b z=>by
   rcases z with(z|z)|z
   ·exact .inl z
   ·exact .inr (.inr z)
   ·exact .inr (.inl z)
  obtain⟨E3,rv⟩:=Eo.new hp el2;have xx:=x1.trans (wZ E1 x2);exact q _ _ _ (xx.trans (Same.ext (aY hp _))) (k1.trans ko) E3 rv fun p' e=>by cases e;exact xx.dead hp
 ·rintro i xs H' hlt ⟨sb,Oi,ds,ds2,x2,B,exs,e3,ed,kb,hxl⟩;have hd:items.drop i=items[i]::items.drop (i+1):=C6 hlt;rw[hd]at e3;refine bsO e3 fun s1 e4 e3=>?_;refine bsP e3 fun c s2 e5 e3=>?_;obtain⟨_,go⟩:=it H' Oi x2 (FB E1 nd lt (kb.len.trans el) x2 B).liv;obtain⟨g1,g2⟩:=go i _ (Ya hlt);refine⟨g1,A4 hxl (Vd hlt (few hfew)),fun x H'' hy=>?_⟩;obtain⟨sm,da⟩:=g2 x H'' hy;have xm:Ext Oi H' Oi H'':=Same.ext sm;have da':DA K (U Oi (Zb caps st1 σ O1 Z)) H'' x items[i]:=da.less fun b z=>by
   rcases z with z|z|z
   ·exact .inl (.inl z)
   ·exact .inr z
   ·exact .inl (.inr z)
  refine hg sb _ H'' Oi _ x _ _ (B.same sm) da' s1 e4 fun τ kt kq3 E4=>?_;have sl:sb.length=k+caps.length:=kb.len.trans el;have tl:τ.length=(blk k caps σ).length:=by rw[<-E4.len,kq3.len,sl,bl]
  have tk:∀j,k<=j->(blk k caps σ)[j]?=τ[j]?:=fun j hj=>((kt j fun z=>absurd (ht j z) (by lia)).1).symm
  have drop:τ.drop k=(blk k caps σ).drop k:=by
   refine BF fun j=>?_;rw[Wi,Wi];exact(tk _ (by lia)).symm
  have kp1:Kp (lh k caps st1) s1:=by
   refine⟨kq3.len.trans kb.len,fun j s e g=>?_,fun j d e=>?_⟩
   ·by_cases hj:j<k
    ·have:=tP j s e hj;subst this;exact absurd rfl g
    ·obtain⟨s',e',g'⟩:=kb.has j s e g;exact⟨s',by rw[(kt j fun z=>absurd (ht j z) (by lia)).2];exact e',g'⟩
   ·by_cases hj:j<k
    ·have:=tP j _ e hj;cases this
    ·obtain⟨d',e'⟩:=kb.io j d e;exact⟨d',by rw[(kt j fun z=>absurd (ht j z) (by lia)).2];exact e'⟩
  refine hc s1 τ H'' Oi _ _ E4 c s2 e5 fun H3 O3 x3 k3 E5=>?_;have kp2:=kp1.trans k3;cases c with
  |false=>
   simp only[Qe,if_false]at e3 ⊢;have hs2:k<=s2.length:=by rw[kp2.len,el];lia
   exact⟨drop,rst k s2,O3,ds,ds2,(x2.trans xm).trans x3,Fz E5 tl.symm hs2 tk,exs.ext (xm.trans x3),e3,ed,FC tP kp2 hs2,by lia⟩
  |true=>
   rw[Ag rfl]at e3 ⊢;refine bsP e3 fun ry s3 e6 e3=>?_;refine bsP e3 fun dy s4 e7 e3=>?_;refine bsP e3 fun ds3 sf' e8 e3=>?_;cases e3;refine he s2 τ H3 O3 _ _ E5 ry s3 e6 fun y H4 O4 x4 k4 E6 rv w=>?_;obtain⟨O5,x5,k5,E7,day⟩:=rv.esc E6 e7;have kp3:=(kp2.trans k4).trans k5;have hs4:k<=s4.length:=by rw[kp3.len,el];lia
   refine⟨drop,rst k s4,O5,ds++[dy],ds3,(((x2.trans xm).trans x3).trans x4).trans x5,Fz E7 tl.symm hs4 tk,(exs.ext (((xm.trans x3).trans x4).trans x5)).app (El.one day),e8,by rw[Zf];exact ed,FC tP kp3 hs4,by simp;lia⟩
def pc(hi:RdI K wi fi)(hg:RdG K g fg tg)(ht:∀j∈tg,j<k)(hc:RdT K tc fc)(he:RdE K te fe) :
  RdE K (rO k caps wi g tc te) (cK k caps fi fg fc fe):=FD hi.ic hg ht hc he
def iZ(n:Nat)(ds:List D):En:=ds.map Sl.v++List.replicate (n-ds.length) Sl.e
def MV(st:En):Rs->Option Rz
 |.d x=>some (x,false)
 |.f x=>some (x,true)
 | .s i=>match st[i]? with|some (.o x)=>some (x,true)|some (.v x)=>some (x,false)|_=>none
def fin:Ot->Option Rz|.nx _=>some (.non,false)|.rt r st=>MV st r|_=>none
def aU(F:FS)(n m:Nat):List D->Option Rz:=fun ds=>if ds.length=m then(F (iZ n ds)).bind fin else none
def FF{N:List Str}(el:El K Z H vs ds)(lv:∀p,Z p->Lv H p):ER K (iZ N.length ds) (L2.start N vs) H (fun _=>False) Z:=by
 have gv:∀(i:Nat) s,(iZ N.length ds)[i]?=some s->s.get≠none->∃d,s=.v d/\ds[i]?=some d:=fun i s e n=>by
  unfold iZ at e;by_cases hi:i<ds.length
  ·rw[Xk (by simpa using hi),Yd]at e
   obtain⟨d,h1,h2⟩:=Vc.mp e;exact⟨d,h2.symm,h1⟩
  ·rw[Zi (by simpa using hi),Wn]at e
   by_cases hz:i-(ds.map Sl.v).length<N.length-ds.length
   ·rw[Ag hz]at e;cases e;exact absurd rfl n
   ·rw[Aj hz]at e;cases e
 have no:∀(i:Nat) s d,(iZ N.length ds)[i]?=some s->s.ow=some d->False:=fun i s d e h=>by
  obtain⟨x,rfl,_⟩:=gv i s e (jU h);cases h
 refine⟨by simp[iZ,L2.start,el.1],fun i d e=>?_,fun i s d e h=>(no i s d e h).elim,fun i j s t d d' p e h=>(no i s d e h).elim,fun p h=>h.elim,fun p h=>h.elim (fun z=>z.elim) (lv p)⟩
 obtain⟨x,h1,h2⟩:=gv i _ e (by simp[Sl.get])
 cases h1;obtain⟨v,g1,g2⟩:=el.at h2;refine⟨v,?_,g2.less fun b z=>z.elim (fun y=>y.elim) fun y=>y⟩;unfold L2.start;have hi:=(Zd.mp g1).1;rw[Xk (by simpa using hi),Yd,g1];rfl
def Jv{N:List Str}(h:RdS K ts F)(sp:spV K (aU F N.length m) vs H Q XE):ts { nx:=fun _ H'=>Q .non H',rt:=Q } (L2.start N vs) H:=by
 obtain⟨Z,ds,z,el,lv,e,q⟩:=sp;have hm:ds.length=m:=by
  by_cases hm:ds.length=m
  ·exact hm
  ·simp only[aU,Aj hm]at e;cases e
 simp only[aU,Ag hm]at e;refine bsO e fun o e1 e2=>?_;have same:∀{O':AS}{H':Hp},Ext (fun _=>False) H O' H'->Same H H':=fun {O' H'} x b o e=>x.kp b o e fun z=>z;refine h _ _ H _ Z _ (FF el lv) o e1 ?_;cases o with
 |nx s=>
  cases e2;exact fun σ' H' O' x _ _=>q .non H' (same x) .non
 |bk s=>cases e2
 |ct s=>cases e2
 |rt r s=>
  intro v σ' H' O' x k E rv w;have sub:∀b,Z b->U O' Z b:=fun b z=>.inr z;cases r with
  |d y=>cases e2;exact q v H' (same x) (DA.less (show DA K (U O' Z) H' v y from rv) sub)
  |f y=>
   cases e2;obtain⟨p,rfl,h1,h2,h3,_⟩:=rv;exact q _ H' (same x) ⟨p,rfl,w p rfl,h3.go rfl (fun _ _ e _=>e) fun b z=>.inl (z.elim .inl fun y=>.inr (.inr y))⟩
  |s i=>
   obtain⟨h1,t,h2,h3⟩:=rv
   have e2':(match s[i]? with|some (.o x)=>some (x,true)|some (.v x)=>some (x,false)|_=>none)=some z:=e2
   rw[h2]at e2';cases t with
   |e=>cases e2'
   |io y=>cases e2'
   |v y=>
    cases e2';obtain⟨u,g1,g2⟩:=E.val i y h2;rw[h1]at g1;cases g1;exact q v H' (same x) (g2.less sub)
   |o y=>
    cases e2';obtain⟨p,g1,g2,g3⟩:=E.own i _ y h2 rfl;rw[h1]at g1;cases g1;refine q _ H' (same x) ⟨p,rfl,(x.nw p g2).elim (fun z=>z.elim) (fun z=>z),g3.go rfl (fun _ _ e _=>e) fun b z=>.inl (z.elim (fun y=>.inl (by rw[y];exact g2)) fun y=>.inr y)⟩
def ip(n:Nat)(x:D)(ds:List D):En:=Sl.io x::(ds.map Sl.v++List.replicate (n-(ds.length+1)) Sl.e)
def DN(z:Option Rz)(st:En):Option (Rz×D):=match st[0]? with|some (Sl.io x)=>z.bind fun y=>some (y,x)|_=>none
def LA:Ot->Option (Rz×D)|.nx st=>DN (some (.non,false)) st|.rt r st=>DN (MV st r) st|_=>none
def dH(F:FS)(n m:Nat):D->List D->Option (Rz×D):=fun x ds=>if ds.length+1=m then(F (ip n x ds)).bind LA else none
def DO{N : List Str}(nz : ¬ Z f)(ho : OA K (ins f Z) H f x)(el : El K (ins f Z) H ws ds)(lv : ∀ p, Z p → Lv H p) : ER K (ip N.length x ds) (L2.start N (.ref f :: ws)) H (fun b => b = f) Z := by
  have gv : ∀ (i : Nat) s, (ip N.length x ds)[i]? = some s → s.get ≠ none → (i = 0 ∧ s = .io x)\/∃ j d, i = j + 1 ∧ s = .v d ∧ ds[j]? = some d := fun i s e n => by
    cases i with
    | zero => left; exact ⟨rfl, by have : Sl.io x = s := by simpa [ip] using e
                                   exact this.symm⟩
    |succ j=>
      right;have e : (ds.map Sl.v ++ List.replicate (N.length - (ds.length + 1)) Sl.e)[j]? = some s := by simpa [ip] using e
      by_cases hi : j < ds.length
      · rw [Bz (by simpa using hi), CD] at e
        obtain ⟨d, h1, h2⟩ := Option.map_eq_some_iff.mp e;exact ⟨j, d, rfl, h2.symm, h1⟩
      · rw [C0 (by simpa using hi), De] at e
        by_cases hz : j - (ds.map Sl.v).length < N.length - (ds.length + 1)
        · rw [Ag hz] at e; cases e; exact absurd rfl n
        · rw [Aj hz] at e; cases e
  have s0 : (L2.start N (.ref f :: ws))[0]? = some (some (.ref f)) := by simp [L2.start]
  have own0 : ∀ (i : Nat) s d, (ip N.length x ds)[i]? = some s → s.ow = some d → i = 0 ∧ d = x := fun i s d e h => by
    rcases gv i s e (jU h) with ⟨h1, rfl⟩ | ⟨j, d', _, rfl, _⟩
    · cases h; exact ⟨h1, rfl⟩
    · cases h
  refine ⟨by simp [ip, L2.start, el.1], fun i d e => ?_, fun i s d e h => ?_, fun i j s t d d' p e h e' h' _ _ => ?_, fun p h => by rw [h]; exact nz, fun p h => ?_⟩
  · rcases gv i _ e (by simp [Sl.get]) with ⟨_, h⟩ | ⟨j, d', rfl, h, h2⟩
    · cases h
    · cases h
      obtain ⟨v, g1, g2⟩ := el.at h2;refine ⟨v, ?_, g2⟩;have hi := (List.getElem?_eq_some_iff.mp g1).1;unfold L2.start;rw [Bz (by simp; lia), CD]
      simp [g1]
  · obtain ⟨rfl, rfl⟩ := own0 i s d e h
    exact ⟨f, s0, rfl, ho⟩
  · rw [(own0 i s d e h).1, (own0 j t d' e' h').1]
  · rcases h with h | h
    · rw [h]; exact ho.lv
    · exact lv p h
def rP{N:List Str}(h:RdS K ts F)(sp:mI K (dH F N.length m) vs H Q XE):ts { nx:=fun _ H'=>Q .non H',rt:=Q } (L2.start N vs) H:=by
 obtain⟨f,ws,Z,x,ds,z,x',rfl,nz,ho,el,lv,e,q⟩:=sp;have hm:ds.length+1=m:=by
  by_cases hm:ds.length+1=m
  ·exact hm
  ·simp only[dH,Aj hm]at e;cases e
 simp only[dH,Ag hm]at e;refine bsO e fun o e1 e2=>?_;have but:∀{O':AS}{H':Hp},Ext (fun b=>b=f) H O' H'->∀b o,H b=some o->b≠f->H' b=some o:=fun {O' H'} x b o e n=>x.kp b o e n;have i0:(ip N.length x ds)[0]?=some (.io x):=rfl;have s0:(L2.start N (.ref f::ws))[0]?=some (some (.ref f)):=by simp[L2.start]
 have f0:∀{s:En}{σ':St}{H':Hp}{O':AS}{y:D},Kq (ip N.length x ds) (L2.start N (.ref f::ws)) s σ'->ER K s σ' H' O' Z->s[0]?=some (.io y)->O' f/\OA K (U O' Z) H' f y:=fun {s σ' H' O' y} k E e=>by
  obtain⟨g1,_⟩:=k.io 0 x i0;obtain⟨p,h1,h2,h3⟩:=E.own 0 _ y e rfl;rw[g1,s0]at h1;cases h1;exact⟨h2,h3⟩
 refine h _ _ H _ Z _ (DO nz ho el lv) o e1 ?_;cases o with
 |bk s=>cases e2
 |ct s=>cases e2
 |nx s=>
  intro σ' H' O' x2 k E;have e3:DN (some (.non,false)) s=some (z,x'):=e2;unfold DN at e3;split at e3
  ·rename_i y ey
   cases e3;obtain⟨h1,h2⟩:=f0 k E ey;exact q .non H' (but x2) ⟨.non,h2.go rfl (fun _ _ e _=>e) fun b z=>.inl (z.elim (fun w=>.inl (by rw[w];exact h1)) .inr)⟩
  ·cases e3
 |rt r s=>
  intro v σ' H' O' x2 k E rv w;have e3:DN (MV s r) s=some (z,x'):=e2;unfold DN at e3;split at e3
  ·rename_i y ey
   refine bsO e3 fun z' e4 e3=>?_;cases e3;obtain⟨h1,h2⟩:=f0 k E ey;have sub:∀b,ins f Z b->U O' Z b:=fun b z=>z.elim (fun w=>.inl (by rw[w];exact h1)) .inr
   cases r with
   |d u=>cases e4;exact q v H' (but x2) ⟨DA.less (show DA K (U O' Z) H' v u from rv) sub,h2.go rfl (fun _ _ e _=>e) fun b z=>.inl (sub b z)⟩
   |f u=>
    cases e4;obtain⟨p,rfl,g1,g2,g3,E2⟩:=rv;obtain⟨h3,h4⟩:=f0 k E2 ey;exact q _ H' (but x2) ⟨p,rfl,w p rfl,g3.go rfl (fun _ _ e _=>e) (fun b z=>.inl (z.elim .inl fun y=>.inr (sub b y))),h4.go rfl (fun _ _ e _=>e) fun b z=>.inl (z.elim (fun y=>.inl (.inl y)) fun y=>(sub b y).elim (fun a=>.inl (.inr a)) .inr)⟩
   |s i=>
    obtain⟨g1,t,g2,g3⟩:=rv
    have e5:(match s[i]? with|some (.o x)=>some (x,true)|some (.v x)=>some (x,false)|_=>none)=some z:=e4
    rw[g2]at e5;cases t with
    |e=>cases e5
    |io u=>cases e5
    |v u=>
     cases e5;obtain⟨u',j1,j2⟩:=E.val i u g2;rw[g1]at j1;cases j1;exact q v H' (but x2) ⟨j2.less sub,h2.go rfl (fun _ _ e _=>e) fun b z=>.inl (sub b z)⟩
    |o u=>
     cases e5;obtain⟨p,j1,j2,j3⟩:=E.own i _ u g2 rfl;rw[g1]at j1;cases j1;have npf:p≠f:=fun z=>by
      subst z;obtain⟨p0,l1,_⟩:=E.own 0 _ _ ey rfl;obtain⟨l2,_⟩:=k.io 0 x i0;rw[l2,s0]at l1;cases l1;have:=E.uni i 0 _ _ u _ _ g2 rfl ey rfl g1 (by rw[l2,s0])
      subst this;rw[ey]at g2;cases g2
     have hp:H p=none:=(x2.nw p j2).elim (fun z=>absurd z npf) (fun z=>z);have sub2:∀b,ins p (ins f Z) b->U O' Z b:=fun b z=>z.elim (fun y=>.inl (by rw[y];exact j2)) (sub b)
     exact q _ H' (but x2) ⟨p,rfl,hp,j3.go rfl (fun _ _ e _=>e) (fun b z=>.inl (sub2 b z)),h2.go rfl (fun _ _ e _=>e) fun b z=>.inl (sub2 b z)⟩
  ·cases e3
def MW(sp:spV K (aU F n m) vs H Q XE):vs.length=m:=by
 obtain⟨Z,ds,z,el,lv,e,q⟩:=sp;by_cases hm:ds.length=m
 ·exact el.1.trans hm
 ·simp only[aU,Aj hm]at e;cases e
def LB(sp:mI K (dH F n m) vs H Q XE):vs.length=m:=by
 obtain⟨f,ws,Z,x,ds,z,x',rfl,nz,ho,el,lv,e,q⟩:=sp;by_cases hm:ds.length+1=m
 ·have:=el.1;simp;lia
 ·simp only[dH,Aj hm]at e;cases e
end
end VF
namespace VF
open PySem L2
section
variable {K:Ab}{Y Y':AS}{H H':Hp}{v:V}{d:D}{vs:List V}{ds:List D}
def orD(b b':D->D->Option Rz):D->D->Option Rz:=fun x y=>match b x y with|some z=>some z|none=>b' x y
def RdOp.or(h:RdOp K r b)(h':RdOp K r' b'):RdOp K (fun x y H Q=>r x y H Q\/r' x y H Q) (orD b b'):=by grind [RdOp,orD]
def orC(b b':List D->Option Rz):List D->Option Rz:=fun x=>match b x with|some z=>some z|none=>b' x
def RdCB.or(h:RdCB K r b)(h':RdCB K r' b'):RdCB K (fun xs H Q=>r xs H Q\/r' xs H Q) (orC b b'):=by grind [RdCB,orC]
def bI0(g:Int->Int->D):D->D->Option Rz|.int i,.int j=>some (g i j,false)|_,_=>none
theorem rQ(h:∀Y H i j,DA K Y H (gV i j) (gD i j)):RdOp K (rI0 gV) (bI0 gD):=by
 intro Y H x y d1 d2 z Q lv b1 b2 e q;cases d1 with
 |int i=>
  cases d2 with
  |int j=>
   cases e;exact⟨i,j,b1,b2,q _ H (Same.refl H) (h Y H i j)⟩
  |_=>cases e
 |_=>cases e
def bI(C:Int->Int->Prop)[∀i j,Decidable (C i j)](g:Int->Int->D):D->D->Option Rz|.int i,.int j=>if C i j then some (g i j,false) else none|_,_=>none
theorem Jw[dc:∀i j,Decidable (C i j)](h:∀Y H i j,DA K Y H (gV i j) (gD i j)):RdOp K (rI C gV) (bI C gD):=by
 intro Y H x y d1 d2 z Q lv b1 b2 e q;cases d1 with
 |int i=>
  cases d2 with
  |int j=>
   obtain⟨c,e⟩:=aM e;cases e;exact⟨i,j,b1,b2,c,q _ H (Same.refl H) (h Y H i j)⟩
  |_=>cases e
 |_=>cases e
instance (i j:Int):Decidable (CMul i j):=by unfold CMul;infer_instance
instance (i j:Int):Decidable (wP i j):=by unfold wP;infer_instance
instance (i j:Int):Decidable (ES i j):=by unfold ES;infer_instance
def rR:=bI0 fun i j=>.int (i+j)
def tQ:=bI0 fun i j=>.int (i-j)
def yF:=bI CMul fun i j=>.int (i*j)
def w5:=bI wP fun i j=>.int (i / j)
def oK:=bI (fun _ j=>0<j) fun i j=>.int (i % j)
def O6:=bI ES fun i j=>.int (i ^ j.toNat)
def MX:=bI0 fun i j=>.bl (decide (i<j))
def bLe:=bI0 fun i j=>.bl (decide (i<=j))
def bGt:=bI0 fun i j=>.bl (decide (j<i))
def bGe:=bI0 fun i j=>.bl (decide (j<=i))
def ro_addI:RdOp K (rI0 fun i j=>.int (i+j)) rR:=rQ fun _ _ _ _=>.int _
def MY:RdOp K (rI0 fun i j=>.int (i-j)) tQ:=rQ fun _ _ _ _=>.int _
def ro_mulI:RdOp K (rI CMul fun i j=>.int (i*j)) yF:=Jw fun _ _ _ _=>.int _
def MZ:RdOp K (rI wP fun i j=>.int (i / j)) w5:=Jw fun _ _ _ _=>.int _
def M0:RdOp K (rI (fun _ j=>0<j) fun i j=>.int (i % j)) oK:=Jw fun _ _ _ _=>.int _
def M1:RdOp K (rI ES fun i j=>.int (i ^ j.toNat)) O6:=Jw fun _ _ _ _=>.int _
def ro_ltI:RdOp K (rI0 fun i j=>.bl (decide (i<j))) MX:=rQ fun _ _ _ _=>.bl _
def O7:RdOp K (rI0 fun i j=>.bl (decide (i<=j))) bLe:=rQ fun _ _ _ _=>.bl _
def O8:RdOp K (rI0 fun i j=>.bl (decide (j<i))) bGt:=rQ fun _ _ _ _=>.bl _
def O9:RdOp K (rI0 fun i j=>.bl (decide (j<=i))) bGe:=rQ fun _ _ _ _=>.bl _
def vq:D->Option Rz|.int i=>some (.int (-i),false)|_=>none
theorem M2:OV K (rU fun i=>.int (-i)) vq:=by
 intro Y H x d1 z Q lv b1 e q;cases d1 with|int i=>cases e;exact⟨i,b1,q _ H (Same.refl H) (.int _)⟩|_=>cases e
def scD:D->Option V|.non=>some .non|.bl b=>some (.bl b)|.int i=>some (.int i)|.str x=>some (.str x)|_=>none
theorem nL(h:BA K Y H v d)(e:scD d=some w):v=w:=by
 cases d with|non=>cases e;exact h|bl b=>cases e;exact h|int i=>cases e;exact h|str x=>cases e;exact h|_=>cases e
theorem vt(e:scD d=some w):lq w=true:=by
 cases d with|non=>cases e;rfl|bl b=>cases e;rfl|int i=>cases e;rfl|str x=>cases e;rfl|_=>cases e
def DP(neg:Bool):D->D->Option Rz:=fun a b=>(scD a).bind fun x=>(scD b).bind fun y=>if Ml x y=true then some (.bl (if neg then !decide (x=y) else decide (x=y)),false) else none
def M3:RdOp K rEq (DP false):=by
 intro Y H x y d1 d2 z Q lv b1 b2 e q;refine bsO e fun x' e1 e=>?_;refine bsO e fun y' e2 e=>?_;obtain⟨c,e⟩:=aM e;cases e;obtain rfl:=nL b1 e1;obtain rfl:=nL b2 e2;exact⟨c,q _ H (Same.refl H) (.bl _)⟩
def ro_neS:RdOp K rNe (DP true):=by
 intro Y H x y d1 d2 z Q lv b1 b2 e q;refine bsO e fun x' e1 e=>?_;refine bsO e fun y' e2 e=>?_;obtain⟨c,e⟩:=aM e;cases e;obtain rfl:=nL b1 e1;obtain rfl:=nL b2 e2;exact⟨c,q _ H (Same.refl H) (.bl _)⟩
def D.isN:D->Bool|.non=>true|_=>false
theorem FJ(h:BA K Y H v d):decide (v=.non)=d.isN:=by
 cases d with
 |non=>rw[show v=V.non from h];rfl
 |bl b=>rw[show v=V.bl b from h];rfl
 |int i=>rw[show v=V.int i from h];rfl
 |str x=>rw[show v=V.str x from h];rfl
 |ty x=>rw[show v=V.ty x from h];rfl
 |tup ds=>obtain⟨a,_,rfl,_⟩:=h;rfl
 |lst ds=>obtain⟨a,_,rfl,_⟩:=h;rfl
 |fl ds=>obtain⟨a,_,rfl,_⟩:=h;rfl
 |dk ds=>obtain⟨a,_,rfl,_⟩:=h;rfl
 |dt ds=>obtain⟨a,_,_,rfl,_⟩:=h;rfl
def oM(neg:Bool):D->D->Option Rz|a,.non=>some (.bl (if neg then !a.isN else a.isN),false)|_,_=>none
theorem M4:RdOp K (fun x y H Q=>y=.non/\Q (.bl (decide (x=.non))) H) (oM false):=by
 intro Y H x y d1 d2 z Q lv b1 b2 e q;cases d2 with
 |non=>
  cases e;refine⟨b2,?_⟩;rw[FJ b1];exact q _ H (Same.refl H) (.bl _)
 |_=>cases e
theorem Jx:RdOp K (fun x y H Q=>y=.non/\Q (.bl (!decide (x=.non))) H) (oM true):=by
 intro Y H x y d1 d2 z Q lv b1 b2 e q;cases d2 with
 |non=>
  cases e;refine⟨b2,?_⟩;rw[FJ b1];exact q _ H (Same.refl H) (.bl _)
 |_=>cases e
def rS:D->D->Option Rz|.str a,.str b=>if a.length+b.length<=1000000 then some (.str (a++b),false) else none|_,_=>none
theorem ro_addS:RdOp K (fun x y H Q=>∃i j,x=.str i/\y=.str j/\i.length+j.length<=sizeLine/\Q (.str (i++j)) H) rS:=by
 intro Y H x y d1 d2 z Q lv b1 b2 e q;cases d1 with
 |str a=>
  cases d2 with
  |str b=>
   obtain⟨c,e⟩:=aM e;cases e;exact⟨a,b,b1,b2,few c,q _ H (Same.refl H) (.str _)⟩
  |_=>cases e
 |_=>cases e
def fZ(el:El K Y H vs ds)(hp:H p=none):RES K Y H (upd H p (.lst vs)) (.ref p) (.lst ds,true) :=
 ⟨p,rfl,hp,vs,bq,el.away (aY hp _) hp⟩
def jV(el:El K Y H vs ds)(hp:H p=none)(lv:∀p,Y p->Lv H p):RES K Y H (upd H p (.tup vs)) (.ref p) (.tup ds,false) :=
 .tup ⟨bq,fun z=>(lv p z).1 hp⟩ el.1 (el.same (aY hp _)).2
def w6:D->D->Option Rz|.lst a,.lst b=>if a.length+b.length<=1000000 then some (.lst (a++b),true) else none|_,_=>none
theorem ro_cat:RdOp K MC w6:=by
 intro Y H x y d1 d2 z Q lv b1 b2 e q;cases d1 with
 |lst a=>
  cases d2 with
  |lst b=>
   obtain⟨c,e⟩:=aM e;cases e;obtain⟨p,xs,rfl,hp,el⟩:=b1;obtain⟨p2,ys,rfl,hp2,el2⟩:=b2;exact⟨p,p2,xs,ys,rfl,rfl,hp,hp2,by rw[el.1,el2.1];exact few c,fun r hr=>q _ _ (aY hr _) (fZ (el.app el2) hr)⟩
  |_=>cases e
 |_=>cases e
def rT:D->D->Option Rz|.tup (x::a),.tup (y::b)=>if a.length+b.length<=999998 then some (.tup ((x::a)++(y::b)),false) else none|.tup (x::a),.tup []=>if a.length<=999998 then some (.tup (x::a),false) else none|_,_=>none
theorem Jy:RdOp K (Fe K) rT:=by
 intro Y H x y d1 d2 z Q lv b1 b2 e q;cases d1 with
 |tup a=>
  cases a with
  |nil=>cases e
  |cons a0 a=>
  cases d2 with
  |tup b=>
   obtain⟨p,xs,rfl,hp,el⟩:=b1;obtain⟨p2,ys,rfl,hp2,el2⟩:=b2;have hx:xs≠[]:=fun z=>by have:=el.1;rw[z]at this;cases this
   cases b with
   |nil=>
    obtain⟨c,e⟩:=aM e;cases e;obtain rfl:=el2.unnil;exact⟨p,p2,xs,[],rfl,rfl,hp.sq,hp2.sq,hx,by rw[el.1];exact few (by simp;lia),fun _=>q _ H (Same.refl H) (.tup hp el.1 el.2),fun z=>absurd rfl z⟩
   |cons b0 b=>
    obtain⟨c,e⟩:=aM e;cases e;have hy:ys≠[]:=fun z=>by have:=el2.1;rw[z]at this;cases this
    exact⟨p,p2,xs,ys,rfl,rfl,hp.sq,hp2.sq,hx,by rw[el.1,el2.1];exact few (by simp;lia),fun z=>absurd z hy,fun _ r hr=>q _ _ (aY hr _) (jV (el.app el2) hr lv)⟩
  |_=>cases e
 |_=>cases e
def cE:=orD rR (orD rS (orD w6 rT))
def FK:D->D->Option Rz|.str a,.int n=>if 0<=n/\n<=1000/\a.length<=1000 then some (.str (Txt.mul a n),false) else none|_,_=>none
theorem Jz:RdOp K (fun x y H Q=>∃(a:Str)(n:Int),x=.str a/\y=.int n/\MulOk a n/\Q (.str (Txt.mul a n)) H) FK:=by
 intro Y H x y d1 d2 z Q lv b1 b2 e q;cases d1 with
 |str a=>
  cases d2 with
  |int n=>
   obtain⟨c,e⟩:=aM e;cases e;exact⟨a,n,b1,b2,mulOk_of c.1 c.2.1 c.2.2,q _ H (Same.refl H) (.str _)⟩
  |_=>cases e
 |_=>cases e
def mL:=orD yF FK
def Pa:D->D->Option Rz|.str a,.str b=>some (.bl (decide (a.cps.toList<b.cps.toList)),false)|_,_=>none
theorem M5:RdOp K (fun x y H Q=>∃i j,x=.str i/\y=.str j/\Q (.bl (decide (i.cps.toList<j.cps.toList))) H) Pa:=by
 intro Y H x y d1 d2 z Q lv b1 b2 e q;cases d1 with
 |str a=>
  cases d2 with|str b=>cases e;exact⟨a,b,b1,b2,q _ H (Same.refl H) (.bl _)⟩|_=>cases e
 |_=>cases e
def bLt:=orD MX Pa
def FL(neg:Bool):D->D->Option Rz|.str a,.str b=>some (.bl (if neg then !(!(Builtin.Str.occurrences b a 0 b.length 1).isEmpty) else !(Builtin.Str.occurrences b a 0 b.length 1).isEmpty),false)|_,_=>none
theorem ro_inS:RdOp K (fun x y H Q=>∃i j,x=.str i/\y=.str j/\Q (.bl (!(Builtin.Str.occurrences j i 0 j.length 1).isEmpty)) H) (FL false):=by
 intro Y H x y d1 d2 z Q lv b1 b2 e q;cases d1 with
 |str a=>
  cases d2 with|str b=>cases e;exact⟨a,b,b1,b2,q _ H (Same.refl H) (.bl _)⟩|_=>cases e
 |_=>cases e
theorem ro_notinS:RdOp K (fun x y H Q=>∃i j,x=.str i/\y=.str j/\Q (.bl (!(!(Builtin.Str.occurrences j i 0 j.length 1).isEmpty))) H) (FL true):=by
 intro Y H x y d1 d2 z Q lv b1 b2 e q;cases d1 with
 |str a=>
  cases d2 with|str b=>cases e;exact⟨a,b,b1,b2,q _ H (Same.refl H) (.bl _)⟩|_=>cases e
 |_=>cases e
def rV:List D->Option (List V)|[]=>some []|d::r=>(scD d).bind fun v=>(rV r).bind fun vs=>some (v::vs)
theorem vx:∀{ds:List D}{vs ws:List V},El K Y H vs ds->rV ds=some ws->vs=ws/\ws.all lq=true
 |[],vs,ws,el,e=>by cases e;exact⟨el.unnil,rfl⟩
 | d::r,vs,ws,el,e=>by
  refine bsO e fun w e1 e=>?_;refine bsO e fun ws' e2 e=>?_;cases e;obtain⟨v,t,rfl,da,el⟩:=el.uncons;obtain⟨rfl,h⟩:=vx el e2;have hv:=nL da.ba e1;subst hv;exact⟨rfl,by rw[BL,vt e1,h];rfl⟩
def D.seq:D->Option (List D)|.lst ds=>some ds|.tup ds=>some ds|.fl ds=>some ds|_=>none
theorem p8(h:BA K Y H v d)(e:d.seq=some ds):∃a vs,v=.ref a/\(SqL K H a vs\/SqT K H a vs)/\El K Y H vs ds:=by
 cases d with
 |lst _=>cases e;obtain⟨a,vs,h1,h2,h3⟩:=h;exact⟨a,vs,h1,.inl (.inl (.inl h2)),h3⟩
 |tup _=>cases e;obtain⟨a,vs,h1,h2,h3⟩:=h;exact⟨a,vs,h1,.inr h2.sq,h3⟩
 |fl _=>cases e;obtain⟨a,vs,h1,h2,h3⟩:=h;exact⟨a,vs,h1,.inl h2.sq,h3⟩
 |_=>cases e
def JA(neg:Bool):D->D->Option Rz:=fun a b=>(scD a).bind fun x=>(b.seq).bind fun ds=>(rV ds).bind fun ws=>some (.bl (if neg then !inV x ws else inV x ws),false)
def FM(neg:Bool):RdOp K (rIn K neg) (JA neg):=by
 intro Y H x y d1 d2 z Q lv b1 b2 e q;refine bsO e fun x' e1 e=>?_;refine bsO e fun ds e2 e=>?_;refine bsO e fun ws e3 e=>?_;cases e;obtain⟨a,vs,rfl,sq,el⟩:=p8 b2 e2;obtain rfl:=nL b1 e1;obtain⟨rfl,h⟩:=vx el e3;exact⟨a,vs,rfl,sq,vt e1,h,q _ H (Same.refl H) (.bl _)⟩
def bIn:=orD (FL false) (JA false)
def lH:=orD (FL true) (JA true)
def FN:D->D->Option Rz|.lst ds,.int i=>(atI ds i).bind fun d=>some (d,false)|.fl ds,.int i=>(atI ds i).bind fun d=>some (d,false)|_,_=>none
def JB:D->D->Option Rz|.tup ds,.int i=>(atI ds i).bind fun d=>some (d,false)|_,_=>none
def M6:D->D->Option Rz|.str z,.int i=>if z.length<=1000000 then(atI z.cps.toList i).bind fun c=>some (.str ⟨#[c]⟩,false) else none|_,_=>none
def w9(el:El K Y H vs ds)(e:atI ds i=some d):∃v,atI vs i=some v/\DA K Y H v d:=by
 unfold atI at e ⊢;rw[el.1];refine bsO e fun j e1 e2=>?_;obtain⟨v,h1,h2⟩:=el.at e2;exact⟨v,by rw[e1];exact h1,h2⟩
theorem ro_ixL:RdOp K (Mv K) FN:=by
 intro Y H x y d1 d2 z Q lv b1 b2 e q;cases d1 with
 |lst a=>
  cases d2 with
  |int i=>
   refine bsO e fun d e1 e=>?_;cases e;obtain⟨p,xs,rfl,hp,el⟩:=b1;obtain⟨v,h1,h2⟩:=w9 el e1;exact⟨p,xs,i,v,rfl,b2,.inl (.inl hp),h1,q v H (Same.refl H) h2⟩
  |_=>cases e
 |fl a=>
  cases d2 with
  |int i=>
   refine bsO e fun d e1 e=>?_;cases e;obtain⟨p,xs,rfl,hp,el⟩:=b1;obtain⟨v,h1,h2⟩:=w9 el e1;exact⟨p,xs,i,v,rfl,b2,hp.sq,h1,q v H (Same.refl H) h2⟩
  |_=>cases e
 |_=>cases e
theorem ro_ixT:RdOp K (Mw K) JB:=by
 intro Y H x y d1 d2 z Q lv b1 b2 e q;cases d1 with
 |tup a=>
  cases d2 with
  |int i=>
   refine bsO e fun d e1 e=>?_;cases e;obtain⟨p,xs,rfl,hp,el⟩:=b1;obtain⟨v,h1,h2⟩:=w9 el e1;exact⟨p,xs,i,v,rfl,b2,hp.sq,h1,q v H (Same.refl H) h2⟩
  |_=>cases e
 |_=>cases e
theorem M7:RdOp K Mx M6:=by
 intro Y H x y d1 d2 z Q lv b1 b2 e q;cases d1 with
 |str a=>
  cases d2 with
  |int i=>
   obtain⟨c,e⟩:=aM e;refine bsO e fun ch e1 e=>?_;cases e;exact⟨a,i,ch,b1,b2,few c,e1,q _ H (Same.refl H) (.str _)⟩
  |_=>cases e
 |_=>cases e
def bIx:=orD FN (orD JB M6)
def Pb:RdOp K (rIx K) bIx:=ro_ixL.or (ro_ixT.or M7)
abbrev FO:=En->Option (Option Int×En)
def RdO(K:Ab)(t:TO)(f:FO):Prop:=∀(st:En)(σ:St)(H:Hp)(O Z:AS)(Q:Option Int->Hp->Prop),ER K st σ H O Z->∀c st',f st=some (c,st')->
 (∀H' O',Ext O H O' H'->Kp st st'->ER K st' σ H' O' Z->Q c H')->t σ H Q
def oNo:FO:=fun st=>some (none,st)
def M8:RdO K yo oNo:=by
 intro st σ H O Z Q E c st' e q;cases e;exact q H O (Ext.refl _ _) (Kp.refl _) E
def asInt(st:En)(r:Rs):Option Int:=match cont st r with|some (.int i)=>some i|_=>none
def eU(fe:FE):FO:=fun st=>(fe st).bind fun x=>(asInt x.2 x.1).bind fun i=>some (some i,x.2)
def vy(h:RdE K te fe):RdO K (Li te) (eU fe):=by
 intro st σ H O Z Q E c st' e q;refine bsP e fun r st1 e1 e=>?_;refine bsO e fun i e2 e=>?_;cases e;refine h st σ H O Z _ E r _ e1 fun v H1 O1 x1 k1 E1 rv w=>?_;have ev:v=.int i:=by
  unfold asInt at e2;split at e2
  ·rename_i j ej
   cases e2;exact rv.ba E1 ej
  ·cases e2
 exact⟨i,ev,q H1 O1 x1 k1 E1⟩
def RdSl(K:Ab)(r:V->Option Int->Option Int->Hp->VK->Prop)(b:D->Option Int->Option Int->Option Rz):Prop:=∀(Y:AS)(H:Hp)(x:V)(lo hi:Option Int)(d1:D)(z:Rz)(Q:VK),(∀p,Y p->Lv H p)->BA K Y H x d1->b d1 lo hi=some z->
 (∀v H',Same H H'->RES K Y H H' v z->Q v H')->r x lo hi H Q
def fSl(b:D->Option Int->Option Int->Option Rz)(fe:FE)(fl fh:FO):FE:=fun st=>(fe st).bind fun x=>(fl x.2).bind fun l=>(fh l.2).bind fun u=>(cont u.2 x.1).bind fun d=>(b d l.1 u.1).bind fun z=>some (mk z,u.2)
def vz(hr:RdSl K r b)(he:RdE K te fe)(hl:RdO K tl fl)(hh:RdO K th fh):RdE K (tSl r te tl th) (fSl b fe fl fh):=by
 intro st σ H O Z Q E r' st' h q;refine bsP h fun r1 st1 e1 h=>?_;refine bsP h fun lo st2 e2 h=>?_;refine bsP h fun hi st3 e3 h=>?_;refine bsO h fun d1 e4 h=>?_;refine bsO h fun z e5 h=>?_;cases h;refine he st σ H O Z _ E r1 st1 e1 fun v1 H1 O1 x1 k1 E1 rv1 w1=>?_;refine hl st1 σ H1 O1 Z _ E1 lo st2 e2 fun H2 O2 x2 k2 E2=>?_;refine hh st2 σ H2 O2 Z _ E2 hi _ e3 fun H3 O3 x3 k3 E3=>?_;have b1:=(rv1.nf.ext (x2.trans x3) (k2.trans k3)).ba E3 (by rw[g9];exact e4)
 refine hr (U O3 Z) H3 v1 lo hi d1 z _ E3.liv b1 e5 fun v H4 s hres=>?_;obtain⟨E4,rv4⟩:=hres.rv E3 s;have xx:=(x1.trans x2).trans x3;exact q v H4 O3 (xx.trans (Same.ext s)) ((k1.trans k2).trans k3) E4 rv4 (hres.fsh.back xx)
def cutD(xs:List D)(lo hi:Option Int):List D:=(xs.drop (HT.sIx xs.length 0 lo)).take (HT.sIx xs.length xs.length hi-HT.sIx xs.length 0 lo)
def El.cut(el:El K Y H vs ds)(lo hi:Option Int):El K Y H (vg vs lo hi) (cutD ds lo hi):=by
 unfold vg cutD;rw[el.1];exact(el.drop _).take _
def orS(b b':D->Option Int->Option Int->Option Rz):D->Option Int->Option Int->Option Rz:=fun x l h=>match b x l h with|some z=>some z|none=>b' x l h
def RdSl.or(h:RdSl K r b)(h':RdSl K r' b'):RdSl K (fun x lo hi H Q=>r x lo hi H Q\/r' x lo hi H Q) (orS b b'):=by grind [RdSl,orS]
def DQ:D->Option Int->Option Int->Option Rz|.lst ds,lo,hi=>some (.lst (cutD ds lo hi),true)|.fl ds,lo,hi=>some (.lst (cutD ds lo hi),true)|_,_,_=>none
theorem Pc:RdSl K (Mz K) DQ:=by
 intro Y H x lo hi d1 z Q lv b1 e q;cases d1 with
 |lst a=>
  cases e;obtain⟨p,xs,rfl,hp,el⟩:=b1;exact⟨p,xs,rfl,.inl (.inl hp),fun r hr=>q _ _ (aY hr _) (fZ (el.cut lo hi) hr)⟩
 |fl a=>
  cases e;obtain⟨p,xs,rfl,hp,el⟩:=b1;exact⟨p,xs,rfl,hp.sq,fun r hr=>q _ _ (aY hr _) (fZ (el.cut lo hi) hr)⟩
 |_=>cases e
def oN:D->Option Int->Option Int->Option Rz|.tup ds,lo,hi=>if HT.sIx ds.length 0 lo=0/\HT.sIx ds.length ds.length hi=ds.length then none else some (.tup (cutD ds lo hi),false)|_,_,_=>none
theorem Pd:RdSl K (Ms K) oN:=by
 intro Y H x lo hi d1 z Q lv b1 e q;cases d1 with
 |tup a=>
  by_cases c:HT.sIx a.length 0 lo=0/\HT.sIx a.length a.length hi=a.length
  ·simp only[oN,Ag c]at e;cases e
  ·simp only[oN,Aj c]at e;cases e;obtain⟨p,xs,rfl,hp,el⟩:=b1;exact⟨p,xs,rfl,hp.sq,by rw[el.1];exact c,fun r hr=>q _ _ (aY hr _) (jV (el.cut lo hi) hr lv)⟩
 |_=>cases e
def FP:D->Option Int->Option Int->Option Rz|.str z,lo,hi=>if z.length<=1000000 then some (.str (Txt.slice z lo hi),false) else none|_,_,_=>none
theorem Pe:RdSl K (fun x lo hi H Q=>∃z:Str,x=.str z/\z.length<=sizeLine/\Q (.str (Txt.slice z lo hi)) H) FP:=by
 intro Y H x lo hi d1 z Q lv b1 e q;cases d1 with
 |str a=>
  obtain⟨c,e⟩:=aM e;cases e;exact⟨a,b1,few c,q _ H (Same.refl H) (.str _)⟩
 |_=>cases e
def bSl:=orS DQ (orS oN FP)
def FQ:List D->Option Rz|[d]=>(d.seq).bind fun ds=>some (.int ds.length,false)|_=>none
theorem rc_lenQ:RdCB K (fun xs H Q=>∃p ys,xs=[.ref p]/\(SqL K H p ys\/SqT K H p ys)/\Q (.int ys.length) H) FQ:=by
 intro Y H xs ds z Q lv bs e q;cases bs with
 |nil=>cases e
 |cons b1 bs=>
  cases bs with
  |cons _ _=>cases e
  |nil=>
   refine bsO e fun es e1 e=>?_;cases e;obtain⟨a,vs,rfl,sq,el⟩:=p8 b1 e1;refine⟨a,vs,rfl,sq,?_⟩;rw[el.1];exact q _ H (Same.refl H) (.int _)
def FU:List D->Option Rz|[.str z]=>if z.length<=1000000 then some (.int z.length,false) else none|_=>none
theorem JC:RdCB K (fun xs H Q=>∃z:Str,xs=[.str z]/\z.length<=sizeLine/\Q (.int z.length) H) FU:=by
 intro Y H xs ds z Q lv bs e q;cases bs with
 |nil=>cases e
 |@cons v vs d ds b1 bs=>
  cases bs with
  |cons _ _=>cases d<;>cases e
  |nil=>
   cases d with
   |str a=>
    obtain⟨c,e⟩:=aM e;cases e;exact⟨a,by rw[show v=V.str a from b1],few c,q _ H (Same.refl H) (.int _)⟩
   |_=>cases e
def ce:=orC FQ FU
def LC:List D->Option Rz|[d]=>(d.seq).bind fun ds=>some (.lst ds,true)|_=>none
theorem rc_list:RdCB K (fun xs H Q=>∃p ys,xs=[.ref p]/\(SqL K H p ys\/SqT K H p ys)/\∀l,H l=none->Q (.ref l) (upd H l (.lst ys))) LC:=by
 intro Y H xs ds z Q lv bs e q;cases bs with
 |nil=>cases e
 |cons b1 bs=>
  cases bs with
  |cons _ _=>cases e
  |nil=>
   refine bsO e fun es e1 e=>?_;cases e;obtain⟨a,vs,rfl,sq,el⟩:=p8 b1 e1;exact⟨a,vs,rfl,sq,fun r hr=>q _ _ (aY hr _) (fZ el hr)⟩
def FV:List D->Option Rz|[.lst ds]=>some (.tup ds,false)|[.fl ds]=>some (.tup ds,false)|[.tup ds]=>some (.tup ds,false)|_=>none
theorem rc_tuple:RdCB K (fun xs H Q=>∃p ys,xs=[.ref p]/\((SqL K H p ys/\∀l,H l=none->Q (.ref l) (upd H l (.tup ys)))\/(SqT K H p ys/\Q (.ref p) H))) FV:=by
 intro Y H xs ds z Q lv bs e q;cases bs with
 |nil=>cases e
 |@cons v vs d ds b1 bs=>
  cases bs with
  |cons _ _=>cases d<;>cases e
  |nil=>
   cases d with
   |lst a=>
    cases e;obtain⟨p,xs,rfl,hp,el⟩:=b1;exact⟨p,xs,rfl,.inl ⟨.inl (.inl hp),fun r hr=>q _ _ (aY hr _) (jV el hr lv)⟩⟩
   |fl a=>
    cases e;obtain⟨p,xs,rfl,hp,el⟩:=b1;exact⟨p,xs,rfl,.inl ⟨hp.sq,fun r hr=>q _ _ (aY hr _) (jV el hr lv)⟩⟩
   |tup a=>
    cases e;obtain⟨p,xs,rfl,hp,el⟩:=b1;exact⟨p,xs,rfl,.inr ⟨hp.sq,q _ H (Same.refl H) (.tup hp el.1 el.2)⟩⟩
   |_=>cases e
def mM:List D->Option (List Bool)|[]=>some []|.bl b::r=>(mM r).bind fun bs=>some (b::bs)|_=>none
theorem vA:∀{ds:List D}{vs:List V}{bs:List Bool},El K Y H vs ds->mM ds=some bs->vs=bs.map V.bl
 |[],vs,bs,el,e=>by cases e;exact el.unnil
 | d::r,vs,bs,el,e=>by
  obtain⟨v,t,rfl,da,el2⟩:=el.uncons;cases d with
  |bl b=>
   refine bsO e fun bs' e1 e=>?_;cases e;have h:=vA el2 e1;rw[h,show v=V.bl b from da.ba];rfl
  |_=>cases e
def p9:List D->Option Rz|[.lst ds]=>(mM ds).bind fun bs=>some (.bl (bs.all id),false)|_=>none
theorem FW:RdCB K (fun xs H Q=>∃(p:Addr)(bs:List Bool),xs=[.ref p]/\SqL K H p (bs.map V.bl)/\Q (.bl (bs.all id)) H) p9:=by
 intro Y H xs ds z Q lv bs e q;cases bs with
 |nil=>cases e
 |@cons v vs d ds b1 bs=>
  cases bs with
  |cons _ _=>cases d<;>cases e
  |nil=>
   cases d with
   |lst a=>
    refine bsO e fun bs e1 e=>?_;cases e;obtain⟨p,xs,rfl,hp,el⟩:=b1;obtain rfl:=vA el e1;exact⟨p,bs,rfl,.inl (.inl hp),q _ H (Same.refl H) (.bl _)⟩
   |_=>cases e
def FX(K:Ab)(r:V->List V->Hp->VK->Prop)(b:D->List D->Option Rz):Prop:=∀(Y:AS)(H:Hp)(x:V)(xs:List V)(d:D)(ds:List D)(z:Rz)(Q:VK),(∀p,Y p->Lv H p)->BA K Y H x d->BAs K Y H xs ds->b d ds=some z->
 (∀v H',Same H H'->RES K Y H H' v z->Q v H')->r x xs H Q
def M9(T:String):D->Bool|.str _=>decide (T="str")|.lst _=>decide (T="list")|.dk _=>decide (T="dict")|.dt _=>decide (T="dict")|_=>false
theorem Pf(h:BA K Y H v d)(e:M9 T d=true):tyV K T v H:=by
 cases d with
 |str x=>
  have e':T="str":=Ak e;rw[show v=V.str x from h];exact e'
 |lst x=>obtain⟨a,vs,rfl,h1,_⟩:=h;exact .inl ⟨Ak e,vs,.inl (.inl h1)⟩
 |dk x=>obtain⟨a,vs,rfl,h1,_⟩:=h;exact .inr (.inr (.inl ⟨Ak e,.inl ⟨vs,h1⟩⟩))
 |dt x=>obtain⟨a,ep,vs,rfl,_,h1,_⟩:=h;exact .inr (.inr (.inl ⟨Ak e,.inr ⟨ep,vs,h1⟩⟩))
 |_=>cases e
def fBM(T:String)(b:D->List D->Option Rz)(fo:FE)(fa:FA):FE:=fun st=>(fo st).bind fun x=>(cont x.2 x.1).bind fun d0=>if M9 T d0=true then(fa x.2).bind fun y=>(cont y.2 x.1).bind fun d=>(ef y.2 y.1).bind fun ds=>(b d ds).bind fun z=>some (mk z,y.2) else none
def LE(hr:FX K r b)(ho:RdE K to fo)(ha:RdA K ta fa):RdE K (tBM K T r to ta) (fBM T b fo fa):=by
 intro st σ H O Z Q E r' st' h q;refine bsP h fun r1 st1 e1 h=>?_;refine bsO h fun d0 e2 h=>?_;obtain⟨c,h⟩:=aM h;refine bsP h fun rs st2 e3 h=>?_;refine bsO h fun d e4 h=>?_;refine bsO h fun ds e5 h=>?_;refine bsO h fun z e6 h=>?_;cases h;refine ho st σ H O Z _ E r1 st1 e1 fun v1 H1 O1 x1 k1 E1 rv1 w1=>⟨Pf (rv1.ba E1 e2) c,?_⟩;refine ha st1 σ H1 O1 Z _ E1 rs _ e3 fun vs H2 O2 x2 k2 E2 rvs=>?_;have b1:=(rv1.nf.ext x2 k2).ba E2 (by rw[g9];exact e4)
 refine hr (U O2 Z) H2 v1 vs d ds z _ E2.liv b1 (rvs.bas E2 e5) e6 fun v H3 s hres=>?_;obtain⟨E3,rv3⟩:=hres.rv E2 s;exact q v H3 O2 ((x1.trans x2).trans (Same.ext s)) (k1.trans k2) E3 rv3 (hres.fsh.back (x1.trans x2))
def iq:List D->Option (List Str)|[]=>some []|.str x::r=>(iq r).bind fun xs=>some (x::xs)|_=>none
theorem kK:∀{ds:List D}{vs:List V}{xs:List Str},El K Y H vs ds->iq ds=some xs->vs=xs.map V.str
 |[],vs,xs,el,e=>by cases e;exact el.unnil
 | d::r,vs,xs,el,e=>by
  obtain⟨v,t,rfl,da,el2⟩:=el.uncons;cases d with
  |str b=>
   refine bsO e fun xs' e1 e=>?_;cases e;have h:=kK el2 e1;rw[h,show v=V.str b from da.ba];rfl
  |_=>cases e
def FY:D->List D->Option Rz|.str sep,[.lst ds]=>(iq ds).bind fun ys=>if (ys.map (·.length)).sum+ys.length*sep.length<=16777216 then some (.str (Txt.join sep ys),false) else none|_,_=>none
theorem yG:FX K (fun x vs H Q=>∃(sep:Str)(p:Addr)(ys:List Str),x=.str sep/\vs=[.ref p]/\SqL K H p (ys.map V.str)/\(ys.map (·.length)).sum+ys.length*sep.length<=16777216/\Q (.str (Txt.join sep ys)) H) FY:=by
 intro Y H x xs d ds z Q lv b1 bs e q;cases d with
 |str sep=>
  cases bs with
  |nil=>cases e
  |@cons v vs d ds b2 bs=>
   cases bs with
   |cons _ _=>cases d<;>cases e
   |nil=>
    cases d with
    |lst es=>
     refine bsO e fun ys e1 e=>?_;obtain⟨c,e⟩:=aM e;cases e;obtain⟨p,ws,rfl,hp,el⟩:=b2;obtain rfl:=kK el e1;exact⟨sep,p,ys,b1,rfl,.inl (.inl hp),c,q _ H (Same.refl H) (.str _)⟩
    |_=>cases e
 |_=>cases e
def yH:D->List D->Option Rz|.str a,[.str b]=>some (.bl (Txt.startswith a b),false)|_,_=>none
theorem rW:FX K (fun x vs H Q=>∃(a b:Str),x=.str a/\vs=[.str b]/\Q (.bl (Txt.startswith a b)) H) yH:=by
 intro Y H x xs d ds z Q lv b1 bs e q;cases d with
 |str a=>
  cases bs with
  |nil=>cases e
  |@cons v vs d ds b2 bs=>
   cases bs with
   |cons _ _=>cases d<;>cases e
   |nil=>
    cases d with|str b=>cases e;exact⟨a,b,b1,by rw[show v=V.str b from b2],q _ H (Same.refl H) (.bl _)⟩|_=>cases e
 |_=>cases e
def isL:D->Bool|.lst _=>true|_=>false
theorem tyL(h:OA K Y H p x)(e:isL x=true):tyV K "list" (.ref p) H:=by
 cases x with
 |lst ds=>obtain⟨vs,h1,_⟩:=h;exact .inl ⟨rfl,vs,.inl (.inl h1)⟩
 |_=>cases e
theorem El.upd(h:El K Y H vs ds)(hp:Y p):El K Y (L2.upd H p o) vs ds:=h.go (fun b u e n=>by
 have hb:b≠p:=fun z=>n (by rw[z];exact hp)
 rw[aR hb];exact e) fun b z=>.inl z
theorem DA.upd(h:DA K Y H v d)(hp:Y p):DA K Y (L2.upd H p o) v d:=h.go (fun b u e n=>by
 have hb:b≠p:=fun z=>n (by rw[z];exact hp)
 rw[aR hb];exact e) fun b z=>.inl z
def bx:D->List D->Option (D×D)|.lst xs,[y]=>if xs.length<1000000 then some (.non,.lst (xs++[y])) else none|_,_=>none
theorem rX:RdM K "list" tG isL bx:=⟨fun Y H p x h e=>tyL h e,fun Y H p x vs ds y x' Q hp ho el e q=>by
 cases x with
 |lst xs=>
  cases ds with
  |nil=>cases e
  |cons d ds=>
   cases ds with
   |cons _ _=>cases e
   |nil=>
    obtain⟨c,e⟩:=aM e;cases e;obtain⟨ws,h1,h2⟩:=ho;obtain⟨v,r,rfl,da,el⟩:=el.uncons;obtain rfl:=el.unnil;exact⟨p,ws,v,rfl,rfl,h1,by rw[h2.1];exact few (by lia),q .non _ .non ⟨_,bq,(h2.app (El.one da)).upd hp⟩⟩
 |_=>cases e⟩
def tR:D->List D->Option (D×D)|.lst xs,[.int i]=>if -(2 ^ 63)<=i/\i<2 ^ 63 then(seqIndex? i xs.length).bind fun k=>(xs[k]?).bind fun y=>some (y,.lst (xs.eraseIdx k)) else none|_,_=>none
theorem vB:RdM K "list" Fh isL tR:=⟨fun Y H p x h e=>tyL h e,fun Y H p x vs ds y x' Q hp ho el e q=>by
 cases x with
 |lst xs=>
  cases ds with
  |nil=>cases e
  |cons d ds=>
   cases d with
   |int i=>
    cases ds with
    |cons _ _=>cases e
    |nil=>
     obtain⟨c,e⟩:=aM e;refine bsO e fun k e1 e=>?_;refine bsO e fun y' e2 e=>?_;cases e;obtain⟨ws,h1,h2⟩:=ho;obtain⟨v,r,rfl,da,el⟩:=el.uncons;obtain rfl:=el.unnil;obtain rfl:=(show v=V.int i from da.ba);obtain⟨u,g1,g2⟩:=h2.at e2;exact⟨p,ws,i,k,u,rfl,rfl,h1,c.1,c.2,by rw[h2.1];exact e1,g1,q u _ (g2.upd hp) ⟨_,bq,(h2.erase k).upd hp⟩⟩
   |_=>cases ds<;>cases e
 |_=>cases e⟩
def qa:D->D->D->Option D|.lst xs,.int k,v=>(ixN xs.length k).bind fun j=>some (.lst (xs.set j v))|_,_,_=>none
theorem DR:Fv K Lj qa:=by
 intro Y H p x k v dk dv x' Q hp ho bk da e q;cases x with
 |lst xs=>
  cases dk with
  |int i=>
   refine bsO e fun j e1 e=>?_;cases e;obtain⟨ws,h1,h2⟩:=ho;exact⟨p,ws,i,j,rfl,bk,h1,by rw[h2.1];exact e1,q _ ⟨_,bq,(h2.set da j).upd hp⟩⟩
  |_=>cases e
 |_=>cases e
def FZ(xs:List Str):FA:=fun st=>some (xs.map fun x=>.d (.str x),st)
theorem JD:RdA K (Lm xs) (FZ xs):=by
 intro st σ H O Z Q E rs st' e q;cases e;refine q _ H O (Ext.refl _ _) (Kp.refl _) E ?_;clear q;induction xs with|nil=>exact .nil|cons x r ih=>exact .cons (show DA K _ H (.str x) (.str x) from .str x) ih
end
end VF
namespace VF
open PySem PySem.Spec PyProof.Rows L2
section
variable {X:Cx}{K:Ab}{Y:AS}{H:Hp}{v:V}{d:D}{vs:List V}{ds:List D}
def yI(K:Ab):R2:=fun x y H Q=>(rI0 fun i j=>.int (i+j)) x y H Q\/((∃i j,x=.str i/\y=.str j/\i.length+j.length<=sizeLine/\Q (.str (i++j)) H)\/(MC x y H Q\/Fe K x y H Q))
def yJ(h:X.K=K):OpR X (binaryOp .Add) (yI K):=op_add.or (op_add_str.or (op_cat.or (h ▸ Jf)))
def ro_addA:RdOp K (yI K) cE:=ro_addI.or (ro_addS.or (ro_cat.or Jy))
def LF:R2:=fun x y H Q=>(rI CMul fun i j=>.int (i*j)) x y H Q\/(∃(a:Str)(n:Int),x=.str a/\y=.int n/\MulOk a n/\Q (.str (Txt.mul a n)) H)
def kL:OpR X (binaryOp .Mult) LF:=op_mul.or wW
def JE:RdOp K LF mL:=ro_mulI.or Jz
def Pg:R2:=fun x y H Q=>(rI0 fun i j=>.bl (decide (i<j))) x y H Q\/(∃i j,x=.str i/\y=.str j/\Q (.bl (decide (i.cps.toList<j.cps.toList))) H)
def F3:OpR X (compareOp .Lt) Pg:=op_lt.or Du
def Na:RdOp K Pg bLt:=ro_ltI.or M5
def Nb(K:Ab):R2:=fun x y H Q=>(∃i j,x=.str i/\y=.str j/\Q (.bl (!(Builtin.Str.occurrences j i 0 j.length 1).isEmpty)) H)\/rIn K false x y H Q
def tS(h:X.K=K):OpR X (compareOp .In) (Nb K):=op_in_str.or (h ▸ DD)
def ro_inA:RdOp K (Nb K) bIn:=ro_inS.or (FM false)
def tT(K:Ab):R2:=fun x y H Q=>(∃i j,x=.str i/\y=.str j/\Q (.bl (!(!(Builtin.Str.occurrences j i 0 j.length 1).isEmpty))) H)\/rIn K true x y H Q
def nM(h:X.K=K):OpR X (compareOp .NotIn) (tT K):=op_notin_str.or (h ▸ tz)
def ro_notinA:RdOp K (tT K) lH:=ro_notinS.or (FM true)
def bEq:=DP false
def Nc(_:X.K=K)(_:X.A.units+64<cLine):OpR X (compareOp .Eq) rEq:=dE
def ro_eqA:RdOp K rEq bEq:=M3
def Nd:D->D->Option Rz|.lst xs,.lst []=>some (.bl (!xs.isEmpty),false)|_,_=>none
def Ph(K:Ab):R2:=fun x y H Q=>∃(a b:Addr)(xs:List V),x=.ref a/\y=.ref b/\SqL K H a xs/\SqL K H b []/\Q (.bl (!xs.isEmpty)) H
theorem Nf:RdOp K (Ph K) Nd:=by
 intro Y H x y d1 d2 z Q lv b1 b2 e q;cases d1 with
 |lst xs=>
  cases d2 with
  |lst ys=>
   cases ys with
   |nil=>
    cases e;obtain⟨p,ws,rfl,hp,el⟩:=b1;obtain⟨p2,zs,rfl,hp2,el2⟩:=b2;obtain rfl:=el2.unnil;refine⟨p,p2,ws,rfl,rfl,.inl (.inl hp),.inl (.inl hp2),?_⟩;have e:ws.isEmpty=xs.isEmpty:=by
     cases ws with
     | nil=>cases xs with|nil=>rfl|cons _ _=>cases el.1
     | cons _ _=>cases xs with|nil=>cases el.1|cons _ _=>rfl
    rw[e];exact q _ H (Same.refl H) (.bl _)
   |cons _ _=>cases e
  |_=>cases e
 |_=>cases e
def bNe:=orD (DP true) Nd
def Ng(K:Ab):R2:=fun x y H Q=>rNe x y H Q\/Ph K x y H Q
def lI(h:X.K=K)(hu:X.A.units+64<cLine):OpR X (compareOp .NotEq) (Ng K):=op_ne.or (by subst h;exact MK (by lia))
def ro_neA:RdOp K (Ng K) bNe:=ro_neS.or Nf
def Nh(K:Ab):V->Option Int->Option Int->Hp->VK->Prop:=fun x lo hi H Q=>Mz K x lo hi H Q\/(Ms K x lo hi H Q\/(∃z:Str,x=.str z/\z.length<=sizeLine/\Q (.str (Txt.slice z lo hi)) H))
def nN(h:X.K=K):SlR X (Nh K):=SlR.or (h ▸ Jg) (SlR.or (h ▸ Mu) MI)
def yK:RdSl K (Nh K) bSl:=RdSl.or Pc (RdSl.or Pd Pe)
def F4(K:Ab):List V->Hp->VK->Prop:=fun xs H Q=>(∃p ys,xs=[.ref p]/\(SqL K H p ys\/SqT K H p ys)/\Q (.int ys.length) H)\/(∃z:Str,xs=[.str z]/\z.length<=sizeLine/\Q (.int z.length) H)
def DS(h:X.K=K):CallR X (.builtin "len") (F4 K):=CallR.or (h ▸ tD) tE
def Ni:RdCB K (F4 K) ce:=rc_lenQ.or JC
def F5(z:Str):El K Y H (sgn z) (p6 z):=by
 refine⟨by simp[sgn,p6],fun i v d h1 h2=>?_⟩
 unfold sgn at h1;unfold p6 at h2;rw[Yd]at h1 h2;obtain⟨c,e1,rfl⟩:=Vc.mp h1;rw[e1]at h2;obtain rfl:=Option.some.inj h2;exact .str _
def F6:List D->Option Rz|[.str z]=>if z.cps.size<=1000000 then some (.lst (p6 z),true) else none|_=>none
def F7:List V->Hp->VK->Prop:=fun xs H Q=>∃z:Str,xs=[.str z]/\z.cps.size<=sizeLine/\∀l,H l=none->Q (.ref l) (upd H l (.lst (sgn z)))
theorem F8:RdCB K F7 F6:=by
 intro Y H xs ds z Q lv bs e q;cases bs with
 |nil=>cases e
 |@cons v vs d ds b1 bs=>
  cases bs with
  |cons _ _=>cases d<;>cases e
  |nil=>
   cases d with
   |str a=>
    obtain⟨c,e⟩:=aM e;cases e;exact⟨a,by rw[show v=V.str a from b1],few c,fun r hr=>q _ _ (aY hr _) (fZ (F5 a) hr)⟩
   |_=>cases e
def yL:List D->Option Rz|[.str z]=>if z.cps.size<=1000000 then some (.tup (p6 z),false) else none|_=>none
def yM:List V->Hp->VK->Prop:=fun xs H Q=>∃z:Str,xs=[.str z]/\z.cps.size<=sizeLine/\∀l,H l=none->Q (.ref l) (upd H l (.tup (sgn z)))
theorem DT:RdCB K yM yL:=by
 intro Y H xs ds z Q lv bs e q;cases bs with
 |nil=>cases e
 |@cons v vs d ds b1 bs=>
  cases bs with
  |cons _ _=>cases d<;>cases e
  |nil=>
   cases d with
   |str a=>
    obtain⟨c,e⟩:=aM e;cases e;exact⟨a,by rw[show v=V.str a from b1],few c,fun r hr=>q _ _ (aY hr _) (jV (F5 a) hr lv)⟩
   |_=>cases e
def nO:=orC LC F6
def br:=orC FV yL
def F9(K:Ab):List V->Hp->VK->Prop:=fun xs H Q=>(∃p ys,xs=[.ref p]/\(SqL K H p ys\/SqT K H p ys)/\∀l,H l=none->Q (.ref l) (upd H l (.lst ys)))\/F7 xs H Q
def tU(K:Ab):List V->Hp->VK->Prop:=fun xs H Q=>(∃p ys,xs=[.ref p]/\((SqL K H p ys/\∀l,H l=none->Q (.ref l) (upd H l (.tup ys)))\/(SqT K H p ys/\Q (.ref p) H)))\/yM xs H Q
def i5(h:X.K=K)(hc:X.calm=true):CallR X (.type "list") (F9 K):=CallR.or (h ▸ tF) (pY hc)
def vC(h:X.K=K)(hc:X.calm=true):CallR X (.type "tuple") (tU K):=CallR.or (h ▸ q8) (oJ hc)
def Ga:RdCB K (F9 K) nO:=rc_list.or F8
def DU:RdCB K (tU K) br:=rc_tuple.or DT
def tyN:D->String|.non=>"NoneType"|.bl _=>"bool"|.int _=>"int"|.str _=>"str"|.tup _=>"tuple"|.lst _=>"list"|.fl _=>"list"|.dk _=>"dict"|.dt _=>"dict"|.ty _=>"type"
def Gb(n T:String):Bool:=n == T||(n == "bool"&&T == "int")
def Nj:∀n∈["NoneType","bool","int","str","tuple","list","dict"],∀T∈["bool","int","str","tuple","list","dict"],
  (if (Value.type n == Value.type T)=true then some true else if PySem.W.kitMeta T=true then(fastBuiltinMro n).map (·.contains (Value.type T)) else none)=some (Gb n T):=by decide +kernel
def QJ:List D->Option Rz|[d,.ty T]=>if (["bool","int","str","tuple","list","dict"].contains T&&tyN d != "type")=true then some (.bl (Gb (tyN d) T),false) else none|_=>none
def bU:=QJ
def Nk(K:Ab):List V->Hp->VK->Prop:=fun xs H Q=>∃(Y:AS)(x:V)(d:D)(T:String),xs=[x,.ty T]/\BA K Y H x d/\(["bool","int","str","tuple","list","dict"].contains T&&tyN d != "type")=true/\Q (.bl (Gb (tyN d) T)) H
theorem DV:RdCB K (Nk K) bU:=by
 intro Y H xs ds z Q lv bs e q;cases bs with
 |nil=>cases e
 |@cons v vs d ds b1 bs=>
  cases bs with
  |nil=>cases e
  |@cons v2 vs2 d2 ds2 b2 bs=>
   cases bs with
   |cons _ _=>cases d2<;>cases e
   |nil=>
    cases d2 with
    |ty T=>
     obtain⟨c,e⟩:=aM e;cases e;exact⟨Y,v,d,T,by rw[show v2=V.ty T from b2],b1,c,q _ H (Same.refl H) (.bl _)⟩
    |_=>cases e
def tV(h:X.K=K):CallR X (.builtin "isinstance") (Nk K):=by
 subst h;intro pins s σ H xs us Q I rv h;obtain⟨Y,x,d,T,rfl,b1,c,q⟩:=h;obtain⟨u,w',rfl,rx,ry⟩:=vals2 rv;cases (show w'=Value.type T from ry);rw[Vi]at c;have hT:T∈["bool","int","str","tuple","list","dict"]:=List.contains_iff_mem.mp c.1;have fin:∀tk,EP X pins σ Q (.bool (Gb (tyN d) T)) { s with toks:=tk }:=fun tk=>⟨.bl _,H,I.tok tk,rfl,q⟩;have ko:∀n∈["NoneType","bool","int","str","tuple","list","dict"],tyN d=n->PySem.W.kitOne X.K (.type n) (.type T)=some (Gb (tyN d) T):=fun n hn e=>by
  rw[e];exact MJ (Nj n hn T hT)
 cases d with
 |non=>
  obtain rfl:=(show x=V.non from b1);exact eV I rx .non (ko "NoneType" (by decide) rfl) fin
 |bl b=>
  obtain rfl:=(show x=V.bl b from b1);exact eV I rx (.bl b) (ko "bool" (by decide) rfl) fin
 |int i=>
  obtain rfl:=(show x=V.int i from b1);exact eV I rx (.int i) (ko "int" (by decide) rfl) fin
 |str z=>
  obtain rfl:=(show x=V.str z from b1);exact eV I rx (.str z) (ko "str" (by decide) rfl) fin
 |ty n=>exact absurd c.2 (by simp[tyN])
 |lst ds=>
  obtain⟨a,vs,rfl,h1,_⟩:=b1;exact eV I rx (.lst h1) (ko "list" (by decide) rfl) fin
 |fl ds=>
  obtain⟨a,vs,rfl,h1,_⟩:=b1;cases (show u=Value.ref a from rx);obtain⟨its,_,pl,_⟩:=I.list h1.sq;obtain⟨o,ho,hc,_⟩:=pl.isList;exact As Cw I.kIn ⟨o,ho,hc⟩ (ko "list" (by decide) rfl) (fun z=>nomatch z) fin
 |tup ds=>
  obtain⟨a,vs,rfl,h1,_⟩:=b1;cases (show u=Value.ref a from rx);obtain⟨its,_,pl,_⟩:=I.tuple h1.sq;obtain⟨o,ho,hc,_⟩:=pl;exact As PySem.W.kitx_tuple I.kIn ⟨o,ho,hc⟩ (ko "tuple" (by decide) rfl) (fun z=>nomatch z) fin
 |dk ds=>
  obtain⟨a,vs,rfl,h1,_⟩:=b1;exact eV I rx (.dK h1) (ko "dict" (by decide) rfl) fin
 |dt ds=>
  obtain⟨a,ep,vs,rfl,_,h1,_⟩:=b1;exact eV I rx (.dT h1) (ko "dict" (by decide) rfl) fin
def oO(l:Addr)(its:Array Value)(n:Nat)(b:Addr)(more:Array Value)(m:Nat)(dd:Option Addr)(sl:Array (Option Value))(h0:¬(!its.isEmpty&&Builtin.List.listTooLong (its.size+more.size))=true)(h1:its.size<=sizeLine)(h2:its.size+more.size<=sizeLine+1) :
  Meets (Builtin.«list.extend» ⟨[.ref l,.ref b],[]⟩) (fun _ R s=>s.heap.get? l=some { cls:=.type "list",dict:=none,data:=.seq its n,slots:=#[] }/\s.heap.get? b=some { cls:=.type "tuple",dict:=dd,data:=.seq more m,slots:=sl }/\R (.ok (.ret Value.none)) { s with heap:=s.heap.update l (Obj.mapSeq fun x=>x++more),toks:=s.toks }) :=
 .of_wp fun prog w A R s0 hh=>by
  obtain⟨hp,gg,dp,tks,oo⟩:=s0;obtain⟨hl,hb,hR⟩:=hh;have a1:=AutoSeq1.idx_int;have a2:=AutoSeq1.sub_tuple_tuple;have a3:=AutoSeq1.sub_list_list;have a4:=AutoSeq1.sub_tuple_list;have a5:=AutoSeq1.sub_list_tuple;have fits:(its++more).size<=sizeLine+1:=by
   rw[Array.size_append];exact h2
  wp_walk using (wpAny_updateSeq hl rfl (hz:=h1) (_hz':=fits)),BZ hl,BZ hb
  exact⟨_,rfl,hR⟩
def LG(K:Ab):V->List V->Hp->VK->Prop:=fun x vs H Q=>∃l b xs zs,x=.ref l/\vs=[.ref b]/\H l=some (.lst xs)/\SqT K H b zs/\xs.length+zs.length<=sizeLine/\Q .non (upd H l (.lst (xs++zs)))
def JF(h:X.K=K):MtM X "list.extend" (LG K):=by
 subst h;intro pins s σ H x vs v us Q I rx rv h;obtain⟨l,b,xs,zs,rfl,rfl,hH,hB,hz,q⟩:=h;cases rx;obtain⟨u,rfl,ru⟩:=rv.one;cases ru;obtain⟨z,its,n,r,hl,e⟩:=I.lstM hH;obtain⟨its2,r2,pl,hz2⟩:=I.tuple hB;obtain⟨⟨c2,dd2,d2,sl2⟩,ho2,hc2,n2,hd2⟩:=id pl;obtain rfl:c2=.type "tuple":=hc2;obtain rfl:d2=.seq its2.toArray n2:=hd2;have hl2:=r2.length;have hsz:its.toArray.size+its2.toArray.size<=sizeLine:=by rw[Xc,Xc];lia
 have hlong:¬ (!its.toArray.isEmpty&&Builtin.List.listTooLong (its.toArray.size+its2.toArray.size))=true:=by
  rw[vh hsz,Bool.and_false];exact Qd
 refine BT F.slot_list_extend ⟨_,e,rfl⟩ F.entry_list_extend (F.args_list_extend_2 _ _)
  (oO l its.toArray n b its2.toArray n2 dd2 sl2 hlong (by rw[Xc];lia) (by lia)) ⟨e,ho2,?_⟩
 refine⟨.non,_,I.lset (its':=its++its2) hH e (by simp) (r.append r2) ?_,rfl,q⟩
 rw[Xa];lia
def LH(K:Ab):V->List V->Hp->VK->Prop:=fun x vs H Q=>yr x vs H Q\/LG K x vs H Q
def lJ(h:X.K=K)(_:X.calm=true):MtM X "list.extend" (LH K):=by
 intro pins s σ H x vs v us Q I rx rv hh;rcases hh with hh|hh
 ·exact DF pins s σ H x vs v us Q I rx rv hh
 ·exact JF h pins s σ H x vs v us Q I rx rv hh
def i6:D->List D->Option (D×D)|.lst xs,[.lst ys]=>if xs.length+ys.length<=1000000 then some (.non,.lst (xs++ys)) else none|.lst xs,[.tup ys]=>if xs.length+ys.length<=1000000 then some (.non,.lst (xs++ys)) else none|_,_=>none
theorem rY:RdM K "list" (LH K) isL i6:=⟨fun Y H p x h e=>tyL h e,fun Y H p x vs ds y x' Q hp ho el e q=>by
 cases x with
 |lst xs=>
  cases ds with
  |nil=>cases e
  |cons d ds=>
   cases ds with
   |cons _ _=>cases d<;>cases e
   |nil=>
    obtain⟨ws,h1,h2⟩:=ho;obtain⟨v,r,rfl,da,el⟩:=el.uncons;obtain rfl:=el.unnil;cases d with
    |lst ys=>
     obtain⟨c,e⟩:=aM e;cases e;cases da with|@lst a us _ g0 g1 g2 g3=>exact .inl ⟨p,a,ws,us,rfl,rfl,h1,g1,by rw[h2.1,g2];exact few c,q .non _ .non ⟨_,bq,(h2.app ⟨g2,g3⟩).upd hp⟩⟩
    |tup ys=>
     obtain⟨c,e⟩:=aM e;cases e;cases da with|@tup a us _ g1 g2 g3=>exact .inr ⟨p,a,ws,us,rfl,rfl,h1,g1.sq,by rw[h2.1,g2];exact few c,q .non _ .non ⟨_,bq,(h2.app ⟨g2,g3⟩).upd hp⟩⟩
    |_=>cases e
 |_=>cases e⟩
def Pi(K:Ab)(tl:TE):TI:=fun σ H R=>yd K tl σ H R\/(Mh K tl σ H R\/MG tl σ H R)
def bE(h:X.K=K)(hl:PE X l tl):PI X tg l (Pi K tl):=by
 subst h;intro pins s σ H R I hh;rcases hh with hh|hh|hh
 ·exact I8 hl pins s σ H R I hh
 ·exact Mi hl pins s σ H R I hh
 ·exact MH hl pins s σ H R I hh
def fIA(fe:FE):FI:=fun st=>match fIL fe st with
 |some z=>some z
 | none=>match fIT fe st with|some z=>some z|none=>fIS fe st
def Gc(h:RdE K te fe):RdI K (Pi K te) (fIA fe):=by
 intro st σ H O Z R E items st' e q;unfold fIA at e;split at e
 ·rename_i z ez
  cases e;exact .inl (Jt h st σ H O Z R E items st' ez q)
 ·split at e
  ·rename_i z ez
   cases e;exact .inr (.inl (MR h st σ H O Z R E items st' ez q))
  ·exact .inr (.inr (MT h st σ H O Z R E items st' e q))
end
end VF
namespace VF
open PySem PySem.Spec PyProof.Rows L2
section
def nx_slot:Slot "reversed" "__next__" "reversed.__next__":=by
 refine .of (owner:="reversed") (n:="__next__") ?_ ?_ ?_ ?_ ?_ ?_
 ·rw[B1,Bb]
  kernel_rfl
 ·decide +kernel
 ·decide +kernel
 ·decide +kernel
 ·first
   | exact .inl (by decide +kernel)
   | exact .inr (by decide +kernel)
 ·rw[Cb]
  kernel_rfl
def yN:Slot "reversed" "__iter__" "reversed.__iter__":=by
 refine .of (owner:="reversed") (n:="__iter__") ?_ ?_ ?_ ?_ ?_ ?_
 ·rw[B1,Bb]
  kernel_rfl
 ·decide +kernel
 ·decide +kernel
 ·decide +kernel
 ·first
   | exact .inl (by decide +kernel)
   | exact .inr (by decide +kernel)
 ·rw[Cb]
  kernel_rfl
def vD:entryFor table "reversed.__next__"=some Builtin.«reversed.__next__»:=by
 refine entryFor_of_tree ?_
 kernel_rfl
def yO(a:Value):argsOk "reversed.__next__" ⟨[a],[]⟩:=by
 unfold argsOk
 kernel_rfl
def JG(a:Value):argsOk "reversed.__iter__" ⟨[a],[]⟩:=by
 unfold argsOk
 kernel_rfl
def Gd:entryFor table "reversed.__iter__"=some Builtin.«dict_keyiterator.__iter__»:=by
 refine entryFor_alias (id':="dict_keyiterator.__iter__") ?_ ?_ ?_ ?_
 ·kernel_rfl
 ·first
   | rfl
   | decide +kernel
   | (unfold String.splitOn;simp +decide [String.splitOnAux])
 ·decide +kernel
 ·kernel_rfl
variable {prog:Program}{w:World}{A:Around}{E:Value->Shared->Prop}{s:Shared}
def IsRv(h:Heap)(it a:Addr)(i:Int):Prop:=∃o,h.get? it=some o/\o.cls=.type "reversed"/\o.data=.fields #[.ref a,rawInt i]
def IsRv.ty(x:IsRv s.heap it a i):s.TypeIs (.ref it) "reversed":=by
 obtain⟨o,ho,hc,_⟩:=x;exact⟨o,ho,hc⟩
def JH{it a:Addr}{i:Nat}{items:Array Value}{x:Value}{Q:Option Value->Shared->Prop}(hit:IsRv s.heap it a (i:Int))(ht:IsTup s.heap a items)(hx:items[i]?=some x)(hz:items.size<=sizeLine)
  (hQ:∀h' t',IsRv h' it a ((i:Int)-1)->Heap.SameBut it s.heap h'->Q (some x) { s with heap:=h',toks:=t' }):wpAny (model prog w) A (pyNext (.ref it)) Q E s:=by
 obtain⟨o,ho,hc,hd⟩:=id hit;have hi:i<items.size:=(Array.getElem?_eq_some_iff.mp hx).1;have hs:=B9;unfold pyNext;refine Aa (AF (Am (name:=Str.ofString "__next__") hit.ty nx_slot (Ao nx_slot hit.ty vD ?_ (yO _))));unfold Builtin.«reversed.__next__»;refine Aa (AX (a:=(Value.ref it,[])) rfl ?_)
 try dsimp only
 refine Aa (Ar ho hd (x:=.ref a) rfl ?_);refine Aa (Ar ho hd (x:=rawInt (i:Int)) rfl ?_);show wpAny _ _ (if (i:Int)<0 then _ else _) _ _ s;rw[Aj (show ¬ ((i:Int)<0) by lia)]
 refine Aa (BY ht.typeIs F.slot_tuple_getitem.lookup ?_)
 try dsimp only
 rw[Aj (by simp)]
 refine Aa (wpAny_mkInt ?_);refine Aa (AF (getItem_tuple (s:={ s with toks:=s.toks+1 }) (show IsTup s.heap a items from ht) (by lia) (by lia) (CQ (by lia) (by lia)) (by simpa using hx) ?_))
 refine Aa (Ar (s:={ s with toks:=s.toks+1 }) ho hd (x:=rawInt (i:Int)) rfl ?_);show wpAny _ _ (setField (Value.ref it) 1 (rawInt ((i:Int)-1)) >>= _) _ _ _;refine Aa (AV (s:={ s with toks:=s.toks+1 }) ho hd (by simp) ?_)
 refine Ad ⟨x,rfl,Ad (hQ _ _ ?_ (AD ..))⟩;refine⟨_,AT _ ho (Bc (Az hd _)),(Cy ..).trans hc,?_⟩;rw[Az hd];simp
def Nl(hh:A.handled=none)(hit:IsRv s.heap it a j)(hj:j<0)
  (hQ:∀h',Heap.ExtBut it s.heap h'->Q none { s with heap:=h' }):wpAny (model prog w) A (pyNext (.ref it)) Q E s:=by
 obtain⟨o,ho,hc,hd⟩:=id hit;unfold pyNext;refine Aa (AF (Am (name:=Str.ofString "__next__") hit.ty nx_slot (Ao nx_slot hit.ty vD ?_ (yO _))));unfold Builtin.«reversed.__next__»;refine Aa (AX (a:=(Value.ref it,[])) rfl ?_)
 try dsimp only
 refine Aa (Ar ho hd (x:=.ref a) rfl ?_);refine Aa (Ar ho hd (x:=rawInt j) rfl ?_);show wpAny _ _ (if j<0 then _ else _) _ _ s;rw[Ag hj];refine Aa (AW ?_);refine Aa ?_;show wpAny _ _ (setField (Value.ref it) 1 (rawInt (-1)) >>= fun _=>setField (Value.ref it) 0 .none) _ _ s;refine Aa (AV ho hd (by simp) ?_)
 have g1:=AT (Obj.mapFields (·.setIfInBounds 1 (rawInt (-1)))) ho (Bc (Az hd _));refine AV g1 (Az hd _) (by simp) ?_
 refine Aa ?_;show wpAny _ _ (newExc (.type "StopIteration") [] >>= _) _ _ _;refine Aa ?_;simp only[newExc,newTuple];refine Aa (Aq ?_ (by size_fits))
 refine Aa (m:=firstArgMember _ _) (AX (a:=Value.none) (by first|rfl|(simp only[firstArgMember];rfl)) ?_)
 refine Aq ?_ (by size_fits)
 simp only[raiseNew];refine Aa (wpAny_handled ?_)
 first|rw[show A.in1.handled=none from hh]|rw[hh]
 refine Aa (Ad (wpAny_throw ?_));refine Aa (Be (T:="StopIteration") (b:=true) ⟨_,Ah _ rfl,rfl⟩ Cc ?_);refine Ad (hQ _ ?_);have e1:Heap.ExtBut it s.heap (s.heap.update it (Obj.mapFields (·.setIfInBounds 1 (rawInt (-1))))):=fun b o2 hb e=>(AM s.heap _ (Au hb)).trans e;have e2:Heap.ExtBut it s.heap ((s.heap.update it (Obj.mapFields (·.setIfInBounds 1 (rawInt (-1))))).update it (Obj.mapFields (·.setIfInBounds 0 .none))):=fun b o2 hb e=>(AM _ _ (Au hb)).trans (e1 b o2 hb e);exact(e2.push _).push _
def yP(hit:IsRv s.heap it a i)(h:Q (.ref it) s):wpAny (model prog w) A (pyIter (.ref it)) Q E s:=by
 refine wpAny_pyIter_slot hit.ty yN (Ao yN hit.ty Gd ?_ (JG _));show wpAny _ _ (ret (.ref it)) _ _ s;exact Ad ⟨_,rfl,"reversed",_,hit.ty,nx_slot.lookup,h⟩
def Nn:typeLookup (.type "tuple") "__reversed__"=pure none:=by
 rw[B1,Bb]
 kernel_rfl
def No:isSubtype (.type "tuple") (.type "dict")=pure false:=by
 rw[Cb]
 kernel_rfl
def vE(a:Addr)(i:Int):Obj:={ cls:=.type "reversed",data:=.fields #[.ref a,rawInt i] }
def Ge(a:Addr)(items:Array Value)(hz:items.size<=sizeLine) :
  Meets (Builtin.«reversed.__new__» ⟨[.type "reversed",.ref a],[]⟩) (fun _ R s=>IsTup s.heap a items/\∀t',R (.ok (.ret (.ref s.heap.objs.size))) { s with heap:=s.heap.push (vE a ((items.size:Int)-1)),toks:=t' }):=by
 have hs:=B9;refine .of_wp fun prog w A R s h=>?_;obtain⟨ht,hR⟩:=h;unfold Builtin.«reversed.__new__»;refine Aa (AX (PySem.newClass_reversed _) ?_)
 try dsimp only
 refine Aa (AX (a:=()) (by first|rfl|kernel_rfl) ?_)
 refine Aa (AX (a:=()) (by first|rfl|kernel_rfl) ?_)
 try dsimp only
 refine Aa (BY ht.typeIs Nn ?_)
 try dsimp only
 refine Aa ?_;show wpAny _ _ (isInstance (.ref a) (.type "dict") >>= _) _ _ s;refine Aa (Be (T:="tuple") (b:=false) ht.typeIs No ?_);rw[Aj (by decide)]
 refine Aa (BY ht.typeIs F.slot_tuple_getitem.lookup ?_);refine Ad ?_;rw[Aj (by decide)]
 refine Aa (len_tuple ht (by lia) ?_)
 refine Aa (AX (a:=some ((items.size:Nat):Int)) rfl ?_);show wpAny _ _ (newObj (.type "reversed") (.fields #[.ref a,rawInt ((items.size:Int)-1)]) >>= _) _ _ _;exact Aa (Aq (Ad ⟨_,rfl,hR _⟩))
def JI:Slot "reversed" "__init__" "object.__init__":=by
 refine .of (owner:="object") (n:="__init__") ?_ ?_ ?_ ?_ ?_ ?_
 ·rw[B1,Bb]
  kernel_rfl
 ·decide +kernel
 ·decide +kernel
 ·decide +kernel
 ·first
   | exact .inl (by decide +kernel)
   | exact .inr (by decide +kernel)
 ·rw[Cb]
  kernel_rfl
def DW:TypeCalled "reversed" "reversed.__new__" "object.__init__":=by
 refine⟨?_,?_,⟨_,_,F.mro_reversed⟩,F.made_reversed,F.plain_reversed_new,F.sub_reversed_self,JI⟩
 ·decide +kernel
 ·exact F.create_reversed
def JJ{items:Array Value}(ht:IsTup s.heap a items)(hz:items.size<=sizeLine)
  (h:∀t',Q (.ref s.heap.objs.size) { s with heap:=s.heap.push (vE a ((items.size:Int)-1)),toks:=t' }):wpAny (model prog w) A (call (.type "reversed") [.ref a]) Q E s :=
 callType_new DW (by decide) (F.typeCall_reversed_1 _) (F.newCall_reversed_1 _) (fun obj=>F.args_object_init_2 obj _) F.entry_reversed_new (Ge a items hz) ⟨ht,fun t'=>⟨⟨_,Ah _ rfl,rfl⟩,h t'⟩⟩
def Itv(K:Ab)(a:Addr)(xs:List V):It:=⟨fun i H=>SqT K H a xs/\i<xs.length,fun i H v H'=>H'=H/\xs.reverse[i]?=some v,fun i _=>xs.length<=i⟩
def JK{P:Program}{w:World}{K:Ab}{tg:Expr}(a it:Addr)(xs:List V):Turn P w K tg (Itv K a xs) [it] it (fun i h=>IsRv h it a ((xs.length:Int)-1-(i:Nat))) where
 mem:=by simp
 obj:=fun i h st b hb=>by
  have e:b=it:=by simpa using hb
  subst e;obtain⟨o,e,c,d⟩:=st;exact⟨o,e,fun v z=>by rw[d]at z;cases z⟩
 keep:=fun i h h' st k=>by
  obtain⟨o,e,r⟩:=st;exact⟨o,k it (by simp) o e,r⟩
 item:=by
  intro X hP hw hK hc i pins s σ H E I hf st hg;subst hP hw hK;obtain⟨f0,f1,f2,f3,f4,f5⟩:=hf it (by simp)
  obtain⟨hq,hi⟩:=hg;obtain⟨its,rv,p,hz⟩:=I.tuple hq;have hl:=rv.length;have e1:((xs.length:Int)-1-(i:Nat))=((xs.length-1-i:Nat):Int):=by lia
  rw[e1]at st;have hx:xs.reverse[i]?=some (xs[xs.length-1-i]'(by lia)):=by
   rw[List.getElem?_reverse hi,Ya (by lia)]
  obtain⟨u,hu,ru⟩:=rv.get (Ya (show xs.length-1-i<xs.length by lia))
  refine JH st p (x:=u) (by simpa using hu) (by rw[Xc];lia) fun h' t' st' sb=>?_
  have I1:Inv X pins σ H { s with heap:=h',toks:=t' }:=I.turned (fun b o hb e=>sb.extBut b o hb e) f0 f1 f3 f4 f5;obtain⟨o,e,c,d⟩:=id st';have e2:(((xs.length-1-i:Nat):Int)-1)=((xs.length:Int)-1-((i+1:Nat):Int)):=by lia
  rw[e2]at st';exact⟨u,rfl,rE (s:={ s with heap:=h',toks:=t' }) e c d (by decide) ⟨_,H,I1,ru,⟨rfl,hx⟩,st',fun b hb=>(hf b hb).1⟩⟩
 done:=by
  intro X hP hw hK hc i pins s σ H E I hf st hg;subst hP hw hK;obtain⟨f0,f1,f2,f3,f4,f5⟩:=hf it (by simp)
  have hg':xs.length<=i:=hg;exact Nl (I.ok.hd hc) st (by lia) fun h' eb=>⟨rfl,I.turned (t':=s.toks) (fun b o hb e=>eb b o hb e) f0 f1 f3 f4 f5⟩
 self:=fun _ _ _ _ _ st h=>yP st h
end
section
variable {X:Cx}{K:Ab}
def Np(K:Ab)(ta:TA):TI:=fun σ H R=>ta σ H fun vs H1=>∃a xs,vs=[.ref a]/\SqT K H1 a xs/\R (Itv K a xs) H1
def boot_reversed:bootBuiltins "reversed"=some (.type "reversed"):=by decide +kernel
theorem JL{tg a:Expr}{ta:TA}{p pos:Pos}(hg:Gl X "reversed")(hm:X.mg "reversed"=none)(ha:PA X [a] ta)(hs:starEach [a] X.env=[(false,eval a X.env)]:=by rfl):PI X tg (.Call (.Name "reversed" p) [a] [] pos) (Np X.K ta):=by
 intro pins s σ H R I h;refine Call_ (jO I hg hm boot_reversed (AE (thn (ha pos pins s σ H _ I h) fun us s1 ⟨vs,H1,I1,r1,q1⟩=>?_) hs rfl));obtain⟨b,xs,e,hq,q⟩:=q1;subst e;cases r1 with
 |cons r rr=>
  cases rr;cases r;obtain⟨its,rv,pt,hz⟩:=I1.tuple hq;have hl:=rv.length;refine JJ pt (by rw[Xc];lia) fun t'=>?_
  have I2:Inv X pins σ H1 { s1 with heap:=s1.heap.push (vE b ((its.toArray.size:Int)-1)),toks:=t' }:=I1.kept fun c o e=>Ac _ e;have st:IsRv (s1.heap.push (vE b ((its.toArray.size:Int)-1))) s1.heap.objs.size b ((xs.length:Int)-1-((0:Nat):Int)):=by
   refine⟨_,Ah _ rfl,rfl,?_⟩;show Data.fields #[.ref b,rawInt ((its.toArray.size:Int)-1)]=_;rw[Xc,<-hl];simp
  refine yP (s:={ s1 with heap:=s1.heap.push (vE b ((its.toArray.size:Int)-1)),toks:=t' }) st ⟨s1.heap.objs.size,[s1.heap.objs.size],_,_,H1,rfl,I2,JK b _ xs,st,fun c hc=>?_,q⟩;have e:c=s1.heap.objs.size:=by simpa using hc
  subst e;exact I1.fpOk (Wb _) (I1.hok.fresh (Wb _))
def vF(h:X.K=K)(hg:Gl X "reversed")(hs:starEach [a] X.env=[(false,eval a X.env)])(hm:X.mg "reversed"=none)(ha:PE X a te):PI X tg (.Call (.Name "reversed" p) [a] [] pos) (Np K (fF te oH)):=by
 subst h;exact JL hg hm (kI ha ae hs) hs
def yQ(fe:FE):FI:=fun st=>(fe st).bind fun x=>(cont x.2 x.1).bind fun d=>(d.itt).bind fun ds=>some (ds.reverse,x.2)
theorem Gf(h:RdE K te fe):RdI K (Np K (fF te oH)) (yQ fe):=by
 intro st σ H O Z R E items st' e q;refine bsP e fun r st1 e1 e=>?_;refine bsO e fun d e2 e=>?_;refine bsO e fun ds e3 e=>?_;cases e;refine h st σ H O Z _ E r _ e1 fun v H1 O1 x1 k1 E1 rv w1=>?_;cases d with
 |tup ds'=>
  cases e3;obtain⟨a,vs,rfl,h1,el⟩:=rv.ba E1 e2;refine⟨a,vs,rfl,h1.sq,q _ H1 O1 x1 k1 E1 fun H' O' ex _=>?_⟩;have da':=(DA.tup h1 el.1 el.2).ext ex;have el':=el.ext ex;have hl:=el.1;have sq:SqT K H' a vs:=TupA.sq (Y:=U O1 Z) (h1.go (fun b o e ny=>ex.kp b o e fun z=>ny (.inl z)) fun b z=>.inl z);refine⟨fun i hi=>?_,fun i d hd=>?_⟩
  ·show vs.length<=i;rw[Bp]at hi;lia
  ·have hi:i<vs.length:=by
    have:=(Zd.mp hd).1;rw[Bp]at this;lia
   refine⟨⟨sq,hi⟩,fun x H'' hx=>?_⟩;obtain⟨rfl,hx⟩:=hx;exact⟨Same.refl _,el'.rev.2 i x d hx hd⟩
 |_=>cases e3
end
end VF
namespace VF
open PySem PySem.Spec PyProof.Rows L2
section
variable {X:Cx}{K:Ab}{Y:AS}{H:Hp}{v:V}{d:D}{vs:List V}{ds:List D}
def leS(a b:Str):Prop:=¬ b.cps.toList<a.cps.toList
instance (a b:Str):Decidable (leS a b):=by unfold leS;infer_instance
def Gg(h:leS a b)(g:leS b a):a=b:=by
 unfold leS at *;rw[List.not_lt]at *;have e:=List.le_antisymm h g;cases a;cases b;exact congrArg Str.mk (Array.toList_inj.mp e)
def boot_sorted:bootBuiltins "sorted"=some (.builtin "sorted"):=by decide +kernel
end
end VF
namespace VF
open PySem L2
section
variable {K:Ab}
def JM(g:D->List D->Option (Rz×D))(i:Nat)(dds:List D)(fr:FA):FE:=fun st=>(st[i]?).bind fun s0=>(s0.ow).bind fun _=>(fr st).bind fun x=>(cQ x.1 x.2).bind fun y=>(y.2[i]?).bind fun s=>(s.ow).bind fun d=>(g d (y.1++dds)).bind fun z=>some (mk z.1,y.2.set i (s.put z.2))
def Gh(hd:∀Y H,El K Y H dvs dds)(hr:RdA K tr fr):RdE K (Lo (mI K g) dvs (fF (wJ i) tr)) (JM g i dds fr):=by
 intro st σ H O Z Q E r0 st' h q;refine bsO h fun s0 f1 h=>?_;refine bsO h fun x0 f2 h=>?_;refine bsP h fun rs st1 e1 h=>?_;refine bsP h fun ds st2 e2 h=>?_;refine bsO h fun s e3 h=>?_;refine bsO h fun x e4 h=>?_;refine bsP h fun z x' e5 h=>?_;cases h;obtain⟨p,g1,_,_⟩:=E.own i s0 x0 f1 f2;refine⟨.ref p,g1,?_⟩;refine hr st σ H O Z _ E rs st1 e1 fun vs H1 O1 x1 k1 E1 rvs=>?_;obtain⟨O2,x2,k2,E2,el⟩:=rvs.esc E1 e2;exact oq E2 e3 e4 g1 (el.app (hd _ _)) e5 fun v H' O' ex kk E' rv w=>q v H' O' ((x1.trans x2).trans ex) ((k1.trans k2).trans kk) E' rv (w.back (x1.trans x2))
def eI{X:Cx}(hg:Gl X x)(hm:X.mg x=none)(hv:bootBuiltins x=some (.type T))(hn:x≠"__name__":=by decide)(hd:(x == ("__debug__":Str))=false:=by decide):PE X (.Name x pos) (tC (.ty T)):=IZ hg hm hv rfl hn hd
def yR(K:Ab):Sp:=fun vs H Q _=>∃(a:Addr)(ns:List Int),vs=[.ref a]/\SqL K H a (ns.map V.int)/\ns.length<=63/\∀H',Q (.bl true) H'
end
end VF
namespace VF
open PySem L2
inductive Dp:Nat->D->Prop where
 | bl (n:Nat) (b:Bool):Dp (n+1) (.bl b)
 | int (n:Nat) (i:Int):Dp (n+1) (.int i)
 | str (n:Nat) (x:Str):Dp (n+1) (.str x)
 | non (n:Nat):Dp (n+1) .non
 | tup {n:Nat} {ds:List D}:ds.length<=1000000->(∀d∈ds,Dp n d)->Dp (n+1) (.tup ds)
 | lst {n:Nat} {ds:List D}:ds.length<=1000000->(∀d∈ds,Dp n d)->Dp (n+1) (.lst ds)
open Classical in
noncomputable def cR(n:Nat):List D->Option Rz
 |[u,v]=>if u=v/\Dp n u then some (.bl true,false) else none
 |_=>none
open Classical in
def ja(h:Dp n u):cR n [u,u]=some (.bl true,false):=by
 show(if u=u/\Dp n u then some (D.bl true,false) else none)=_;rw[Ag ⟨rfl,h⟩]
def rZ(h:cR n ds=some z):∃u,ds=[u,u]/\Dp n u/\z=(.bl true,false):=by
 unfold cR at h;split at h
 ·rename_i u v
  by_cases c:u=v/\Dp n u
  ·rw[Ag c]at h;obtain⟨rfl,c⟩:=c;exact⟨u,rfl,c,(Option.some.inj h).symm⟩
  ·rw[Aj c]at h;cases h
 ·cases h
end VF
namespace VF
open PySem L2
section
variable {st st1 st2 st3 s s1 s2:En}{r r1 r2:Rs}{d d1 d2 x y x':D}{ds es:List D}{rs:List Rs}{z:Rz}{o:Ot}{i k n m:Nat}{F G B:FS}{fa fb fe fi':FE}{fr:FA}{f g:FT}{fi:FI}{fg:FG}{caps:List Nat}
def aq(h:F st=some (.nx s))(h2:G s=a):aH F G st=a:=by simp only[aH,h,Yb];exact h2
def gB(h:F st=some (.rt r s)):aH F G st=some (.rt r s):=by simp only[aH,h,Yb]
def f6(h:f st=some (true,s))(h2:F s=a):sIf f F G st=a:=by simp only[sIf,h,Yb,if_true];exact h2
def cW(h:f st=some (false,s))(h2:G s=a):sIf f F G st=a:=by simp only[sIf,h,Yb,Qe,if_false];exact h2
def cC(h:fe st=some (.d x,s))(h2:nK i (.v x) s=some s1):bb fe i st=some (.nx s1):=by simp only[bb,h,Yb,h2]
def dY(h:fe st=some (.f x,s))(h2:nK i (.o x) s=some s1):bb fe i st=some (.nx s1):=by simp only[bb,h,Yb,h2]
def bV(h:fe st=some (r,s)):ck fe st=some (.nx s):=by simp only[ck,h,Yb]
def aK(h:fe st=some (r,s)):aZ fe st=some (.rt r s):=by simp only[aZ,h,Yb]
def au(h1:fa st=some (r1,s1))(h2:fb s1=some (r2,s2))(h3:cont s2 r1=some d1)(h4:cont s2 r2=some d2)(h5:b d1 d2=some z)(hz:mk z=r:=by rfl):fOp b fa fb st=some (r,s2):=by
 simp only[fOp,h1,h2,h3,h4,h5,hz,Yb]
def ag(h1:fa st=some (r,s1))(h2:fr s1=some (rs,s2)):aa fa fr st=some (r::rs,s2):=by simp only[aa,h1,h2,Yb]
def aL(h1:fr st=some (rs,s1))(h2:ef s1 rs=some ds)(h3:b ds=some z)(hz:mk z=r:=by rfl):fCB b fr st=some (r,s1):=by simp only[fCB,h1,h2,h3,hz,Yb]
def aI(h1:fr st=some (rs,s1))(h2:cQ rs s1=some (ds,s2))(h3:b ds=some z)(hz:mk z=r:=by rfl):aN b fr st=some (r,s2):=by simp only[aN,h1,h2,h3,hz,Yb]
def aQ(h1:fr st=some (rs,s1))(h2:ef s1 rs=some ds)(h3:b ds=some (d,false))(h4:d.isSc=true):aP b fr st=some (.d d,s1):=by
 simp only[aP,h1,h2,h3,Yb,h4];rfl
def cT{t t0:Sl}(h0:st[i]?=some t0)(h00:t0.ow=some x0)(h1:fr st=some (rs,s1))(h2:cQ rs s1=some (ds,s2))(h3:s2[i]?=some t)(h4:t.ow=some x)(h5:b x ds=some (z,x'))(hz:mk z=r:=by rfl)(h6:s2.set i (t.put x')=st3:=by rfl):fIO b i fr st=some (r,st3):=by
 simp only[fIO,h0,h00,h1,h2,h3,h4,h5,h6,hz,Yb]
def Nq{t t0:Sl}(h0:st[i]?=some t0)(h00:t0.ow=some x0)(h1:fr st=some (rs,s1))(h2:cQ rs s1=some (ds,s2))(h3:s2[i]?=some t)(h4:t.ow=some x)(h5:b x (ds++es)=some (z,x'))(hz:mk z=r:=by rfl)(h6:s2.set i (t.put x')=st3:=by rfl):JM b i es fr st=some (r,st3):=by
 simp only[JM,h0,h00,h1,h2,h3,h4,h5,h6,hz,Yb]
def iM{t t0:Sl}(h0:st[i]?=some t0)(h00:t0.ow=some x0)(hk:ok x0=true)(h1:fr st=some (rs,s1))(h2:cQ rs s1=some (ds,s2))(h3:s2[i]?=some t)(h4:t.ow=some x)(h5:mm x ds=some (y,x'))(h6:s2.set i (t.put x')=st3:=by rfl):fM ok mm i fr st=some (.d y,st3):=by
 simp only[fM,h0,h00,hk,h1,h2,h3,h4,h5,h6,Yb,if_true]
def aC(h:fe st=some (r,s))(h2:tru s r=some c):ay fe st=some (c,s):=by simp only[ay,h,h2,Yb]
def fQ(h:f st=some (c,s)):eG f st=some (!c,s):=by simp only[eG,h,Yb]
def r6(h:f st=some (true,s))(h2:g s=a):lw f g st=a:=by simp only[lw,h,Yb,if_true];exact h2
def LI(h:f st=some (false,s)):lw f g st=some (false,s):=by simp only[lw,h,Yb,Qe,if_false]
def nP(h:f st=some (false,s))(h2:g s=a):jT f g st=a:=by simp only[jT,h,Yb,Qe,if_false];exact h2
def jb(h:fa st=some (r,s))(h1:tru s r=some true)(h2:fb s=a):iL fa fb st=a:=by simp only[iL,h,h1,Yb,if_true];exact h2
def bF(h1:fi st=some (ds,s1))(h2:(tO caps s1.length&&decide (ds.length<=1000000))=true)(h3:b9 fg fc fe k ds (lh k caps s1)=some (es,s2))(h4:wb caps (s2.drop k) s1=st3:=by rfl):cK k caps fi fg fc fe st=some (.f (.lst es),st3):=by
 simp only[cK,h1,Yb];rw[Ag h2,h3,<-h4];rfl
def cS(h1:fi st=some (ds,s1))(h2:eT fg B ds s1=some o):fY fi fg B st=some o:=by simp only[fY,h1,Yb];exact h2
def aJ(h0:ds.length=m)(h1:F (iZ n ds)=some o)(h2:fin o=some z):aU F n m ds=some z:=by
 simp only[aU,Ag h0,h1,Yb];exact h2
def dw(h0:ds.length+1=m)(h1:F (ip n x ds)=some o)(h2:LA o=some w):dH F n m x ds=some w:=by
 simp only[dH,Ag h0,h1,Yb];exact h2
theorem nQ(h:D->D):∀(items:List D)(sb:En),(∀x∈items,∃s1 s2 y s3 s4,fg x sb=some s1/\fc s1=some (true,s2)/\fe s2=some (y,s3)/\esc y s3=some (h x,s4)/\rst k s4=sb)->b9 fg fc fe k items sb=some (items.map h,sb)
 |[],sb,_=>rfl
 | x::r,sb,hh=>by
  obtain⟨s1,s2,y,s3,s4,e1,e2,e3,e4,e5⟩:=hh x Va;have ih:=nQ h r sb fun z hz=>hh z (Vb _ hz);simp only[b9,e1,e2,e3,e4,Yb,if_true,e5,ih,Yh]
theorem r9(I:List D->En->Prop)(step:∀(pre:List D)(x:D)(sb:En),I pre sb->∃s1 s2 y s3 d s4,fg x sb=some s1/\fc s1=some (true,s2)/\fe s2=some (y,s3)/\esc y s3=some (d,s4)/\I (pre++[d]) (rst k s4)) :
  ∀(items:List D)(pre:List D)(sb:En),I pre sb->∃ds sf,b9 fg fc fe k items sb=some (ds,sf)/\ds.length=items.length/\I (pre++ds) sf
 |[],pre,sb,h=>⟨[],sb,rfl,rfl,by rw[Yg];exact h⟩
 | x::r,pre,sb,h=>by
  obtain⟨s1,s2,y,s3,d,s4,e1,e2,e3,e4,e5⟩:=step pre x sb h;obtain⟨ds,sf,e6,e7,e8⟩:=r9 I step r (pre++[d]) (rst k s4) e5;refine⟨d::ds,sf,?_,by simp[e7],by rw[Zf]at e8;exact e8⟩
  simp only[b9,e1,e2,e3,e4,Yb,if_true,e6]
theorem tW(I:Nat->En->Prop)(Out:En->Prop)(step:∀(m:Nat)(st:En),I m st->(∃s1,f st=some (false,s1)/\Out s1)\/∃s1 s2 m',f st=some (true,s1)/\B s1=some (.nx s2)/\m'<m/\I m' s2) :
  ∀(n m:Nat)(st:En),m<n->I m st->∃sf,sWh f B n st=some (.nx sf)/\Out sf
 |0,m,st,hn,_=>absurd hn (Nat.not_lt_zero _)
 | n+1,m,st,hn,h=>by
  rcases step m st h with⟨s1,e1,ho⟩|⟨s1,s2,m',e1,e2,hm,h2⟩
  ·exact⟨s1,by simp only[sWh,e1,Yb,Qe,if_false],ho⟩
  ·obtain⟨sf,e3,ho⟩:=tW I Out step n m' s2 (by lia) h2
   exact⟨sf,by simp only[sWh,e1,e2,Yb,if_true];exact e3,ho⟩
end
end VF
namespace VF
open PySem L2
def ix_str{z:Str}(hz:z.length<=1000000)(h:atI z.cps.toList i=some c):bIx (.str z) (.int i)=some (.str ⟨#[c]⟩,false):=by
 have e1:FN (.str z) (.int i)=none:=rfl;have e2:JB (.str z) (.int i)=none:=rfl;have e3:M6 (.str z) (.int i)=some (.str ⟨#[c]⟩,false):=by
  show(if z.length<=1000000 then(atI z.cps.toList i).bind (fun c=>some (D.str ⟨#[c]⟩,false)) else none)=_;rw[Ag hz,h];rfl
 unfold bIx orD;rw[e1,e2];exact e3
def pe{a b:Str}(h:a.length+b.length<=1000000):cE (.str a) (.str b)=some (.str (a++b),false):=by
 have e1:rR (.str a) (.str b)=none:=rfl;have e2:rS (.str a) (.str b)=some (.str (a++b),false):=by
  show(if a.length+b.length<=1000000 then some (D.str (a++b),false) else none)=_;rw[Ag h]
 unfold cE orD;rw[e1,e2]
def tX{a:Str}(h:0<=n/\n<=1000/\a.length<=1000):mL (.str a) (.int n)=some (.str (Txt.mul a n),false):=by
 have e1:yF (.str a) (.int n)=none:=rfl;have e2:FK (.str a) (.int n)=some (.str (Txt.mul a n),false):=by
  show(if 0<=n/\n<=1000/\a.length<=1000 then some (D.str (Txt.mul a n),false) else none)=_;rw[Ag h]
 unfold mL orD;rw[e1,e2]
theorem jc:∀xs:List Str,iq (xs.map D.str)=some xs
 |[]=>rfl
 | x::r=>by
  show(iq (r.map D.str)).bind (fun xs=>some (x::xs))=_;rw[jc r];rfl
theorem sh:∀xs:List Str,rV (xs.map D.str)=some (xs.map V.str)
 |[]=>rfl
 | x::r=>by
  show(rV (r.map D.str)).bind (fun vs=>some (V.str x::vs))=_;rw[sh r];rfl
theorem si:∀n:Nat,mM (List.replicate n (D.bl true))=some (List.replicate n true)
 |0=>rfl
 | n+1=>by
  show(mM (List.replicate n (D.bl true))).bind (fun bs=>some (true::bs))=_;rw[si n];rfl
def jW(n:Nat):p9 [.lst (List.replicate n (D.bl true))]=some (.bl true,false):=by
 show(mM (List.replicate n (D.bl true))).bind (fun bs=>some (D.bl (bs.all id),false))=_;rw[si];show some (D.bl ((List.replicate n true).all id),false)=_;have:(List.replicate n true).all id=true:=by
  rw[Xj];intro b hb;exact C9 hb
 rw[this]
def LJ{xs:List Str}:bIn (.str x) (.lst (xs.map D.str))=some (.bl (decide (x∈xs)),false):=by
 have e1:FL false (.str x) (.lst (xs.map D.str))=none:=rfl;have e2:JA false (.str x) (.lst (xs.map D.str))=some (.bl (decide (x∈xs)),false):=by
  show(rV (xs.map D.str)).bind (fun ws=>some (D.bl (inV (.str x) ws),false))=_;rw[sh];show some (D.bl (inV (.str x) (xs.map V.str)),false)=_;have e:inV (.str x) (xs.map V.str)=decide (x∈xs):=by
   unfold inV;rw[Dl];induction xs with
   |nil=>rfl
   |cons y r ih=>
    rw[Bj,ih rfl];show((y == x)||decide (x∈r))=_;by_cases e:y=x
    ·subst e;simp
    ·have e':¬ x=y:=fun z=>e z.symm;simp[e,e']
  rw[e]
 unfold bIn orD;rw[e1];exact e2
def Gi{z:Str}(h:z.length<=1000000):bSl (.str z) lo hi=some (.str (Txt.slice z lo hi),false):=by
 have e1:DQ (.str z) lo hi=none:=rfl;have e2:oN (.str z) lo hi=none:=rfl;have e3:FP (.str z) lo hi=some (.str (Txt.slice z lo hi),false):=by
  show(if z.length<=1000000 then some (D.str (Txt.slice z lo hi),false) else none)=_;rw[Ag h]
 unfold bSl orS;rw[e1,e2];exact e3
section
variable {st s s1 s2 s3:En}{r r1:Rs}{rs:List Rs}{d d0 d1:D}{ds:List D}{z:Rz}{fe fo:FE}{fa:FA}{fl fh:FO}
def Gj(h1:fo st=some (r1,s1))(h2:cont s1 r1=some d0)(h3:M9 T d0=true)(h4:fa s1=some (rs,s2))(h5:cont s2 r1=some d)(h6:ef s2 rs=some ds)(h7:b d ds=some z)(hz:mk z=r:=by rfl):fBM T b fo fa st=some (r,s2):=by
 simp only[fBM,h1,h2,h3,h4,h5,h6,h7,hz,Yb,if_true]
def jd{j:Int}(h1:fa st=some (rs,s1))(h2:ef s1 rs=some [.int j])(h3:-(2 ^ 62)<=j/\j<2 ^ 62):tM fa st=some (rng 0 j.toNat,s1):=by
 simp only[tM,h1,h2,Yb,MS];rw[Ag h3]
def mN(h1:fe st=some (r,s1))(h2:fl s1=some (lo,s2))(h3:fh s2=some (hi,s3))(h4:cont s3 r=some d)(h5:b d lo hi=some z)(hz:mk z=r':=by rfl):fSl b fe fl fh st=some (r',s3):=by
 simp only[fSl,h1,h2,h3,h4,h5,hz,Yb]
def mO{f:FT}{fa fb:FE}{a:Option (Rs×En)}(h:f st=some (true,s))(h2:fa s=a):fIf f fa fb st=a:=by simp only[fIf,h,Yb,if_true];exact h2
def ot{f:FT}{fa fb:FE}{a:Option (Rs×En)}(h:f st=some (false,s))(h2:fb s=a):fIf f fa fb st=a:=by simp only[fIf,h,Yb,Qe,if_false];exact h2
def su(h1:fe st=some (r,s1))(h2:esc r s1=some (.lst ds,s2)):fIA fe st=some (ds,s2):=by
 have:fIL fe st=some (ds,s2):=by simp only[fIL,h1,h2,Yb,D.its]
 unfold fIA;rw[this]
def db(h1:fe st=some (r,s1))(h2:esc r s1=some (.tup ds,s2)):fIA fe st=some (ds,s2):=by
 have e1:fIL fe st=none:=by simp only[fIL,h1,h2,Yb,D.its,Option.bind_none]
 have e2:fIT fe st=some (ds,s2):=by simp only[fIT,h1,h2,Yb,D.itt]
 unfold fIA;rw[e1,e2]
def JN(h1:fe st=some (r,s1))(h2:cont s1 r=some (.tup ds)):yQ fe st=some (ds.reverse,s1):=by
 simp only[yQ,h1,h2,Yb,D.itt]
def bo(h1:fa st=some (rs,s1))(h2:cQ rs s1=some (ds,s2))(h3:ds.length<=1000000):bL fa st=some (.d (.tup ds),s2):=by
 simp only[bL,h1,h2,Yb];rw[Ag h3]
end
theorem qb(all:List D)(I:List D->En->Prop)(step:∀(gone:List D)(x:D)(rest:List D)(st:En),all=gone++x::rest->I gone st->∃s1 s2,fg x st=some s1/\B s1=some (.nx s2)/\I (gone++[x]) s2) :
  ∀(items gone:List D)(st:En),all=gone++items->I gone st->∃sf,eT fg B items st=some (.nx sf)/\I all sf
 |[],gone,st,ha,h=>⟨st,rfl,by rw[ha,Yg];exact h⟩
 | x::r,gone,st,ha,h=>by
  obtain⟨s1,s2,e1,e2,e3⟩:=step gone x r st ha h;obtain⟨sf,e4,e5⟩:=qb all I step r (gone++[x]) s2 (by rw[Zf];exact ha) e3
  refine⟨sf,?_,e5⟩;simp only[eT,e1,e2,Yb];exact e4
theorem sv(all:List D)(I:List D->List D->En->Prop)(step:∀(gone:List D)(x:D)(rest pre:List D)(sb:En),all=gone++x::rest->I gone pre sb->∃s1 s2 y s3 d s4,fg x sb=some s1/\fc s1=some (true,s2)/\fe s2=some (y,s3)/\esc y s3=some (d,s4)/\I (gone++[x]) (pre++[d]) (rst k s4)) :
  ∀(items gone pre:List D)(sb:En),all=gone++items->I gone pre sb->∃ds sf,b9 fg fc fe k items sb=some (ds,sf)/\I all (pre++ds) sf
 |[],gone,pre,sb,ha,h=>⟨[],sb,rfl,by rw[ha,Yg,Yg];exact h⟩
 | x::r,gone,pre,sb,ha,h=>by
  obtain⟨s1,s2,y,s3,d,s4,e1,e2,e3,e4,e5⟩:=step gone x r pre sb ha h;obtain⟨ds,sf,e6,e8⟩:=sv all I step r (gone++[x]) (pre++[d]) (rst k s4) (by rw[Zf];exact ha) e5
  refine⟨d::ds,sf,?_,by rw[Zf]at e8;exact e8⟩
  simp only[b9,e1,e2,e3,e4,Yb,if_true,e6]
end VF
namespace VF
open PySem L2
section
variable {K:Ab}
def b1(g:D->Option D):List D->Option Rz|[d]=>(g d).map fun r=>(r,false)|_=>none
def b2(g:D->D->Option D):List D->Option Rz|[d,d']=>(g d d').map fun r=>(r,false)|_=>none
theorem Nr(h:∀(Y:AS)(H:Hp)(v:V)(d o:D)(Q:VK),BA K Y H v d->g d=some o->(∀u,DA K Y H u o->Q u H)->r [v] H Q):RdCB K r (b1 g):=by
 intro Y H xs ds z Q lv bs e q;cases bs with
 |nil=>cases e
 |@cons v vs d ds c1 bs=>
  cases bs with
  |cons _ _=>cases e
  |nil=>
   obtain⟨o,eo,rfl⟩:=Vc.mp e;exact h Y H v d o Q c1 eo fun u hu=>q u H (Same.refl H) hu
theorem Nt(h:∀(Y:AS)(H:Hp)(v w:V)(d d' o:D)(Q:VK),BA K Y H v d->BA K Y H w d'->g d d'=some o->(∀u,DA K Y H u o->Q u H)->r [v,w] H Q):RdCB K r (b2 g):=by
 intro Y H xs ds z Q lv bs e q;cases bs with
 |nil=>cases e
 |@cons v vs d ds c1 bs=>
  cases bs with
  |nil=>cases e
  |@cons w ws d' ds' c2 bs=>
   cases bs with
   |cons _ _=>cases e
   |nil=>
    obtain⟨o,eo,rfl⟩:=Vc.mp e;exact h Y H v w d d' o Q c1 c2 eo fun u hu=>q u H (Same.refl H) hu
def Nu:D->D->Option D|.int i,.int j=>some (.int (if j<i then j else i))|_,_=>none
theorem JO:RdCB K (fun xs H Q=>∃i j,xs=[.int i,.int j]/\Q (.int (if j<i then j else i)) H) (b2 Nu):=Nt fun Y H v w d d' o Q c c' e q=>by
 cases d with
 |int i=>
  cases d' with|int j=>cases e;exact⟨i,j,by rw[show v=V.int i from c,show w=V.int j from c'],q _ (.int _)⟩|_=>cases e
 |_=>cases e
def Nv:D->Option D|.int i=>some (.int i)|.bl k=>some (.int (if k then 1 else 0))|_=>none
theorem JP:RdCB K (fun xs H Q=>(∃i,xs=[.int i]/\Q (.int i) H)\/∃k,xs=[.bl k]/\Q (.int (if k then 1 else 0)) H) (b1 Nv):=Nr fun Y H v d o Q c e q=>by
 cases d with|int i=>cases e;exact .inl ⟨i,by rw[show v=V.int i from c],q _ (.int _)⟩|bl k=>cases e;exact .inr ⟨k,by rw[show v=V.bl k from c],q _ (.int _)⟩|_=>cases e
end
end VF
namespace VF
open PySem L2
inductive Pl:Nat->D->Prop where
 | non (n:Nat):Pl (n+1) .non
 | int (n:Nat) (i:Int):Pl (n+1) (.int i)
 | str (n:Nat) (x:Str):Pl (n+1) (.str x)
 | tup {n:Nat} {ds:List D}:(∀d∈ds,Pl n d)->Pl (n+1) (.tup ds)
 | lst {n:Nat} {ds:List D}:(∀d∈ds,Pl n d)->Pl (n+1) (.lst ds)
inductive RH(h:Heap):Value->D->Prop where
 | non:RH h .none .non
 | int (i:Int) (t:Tok):RH h (.int i t) (.int i)
 | str (x:Str) (t:Tok):RH h (.str x t) (.str x)
 | tup {a:Addr} {its:List Value} {ds:List D}:h.IsTuple a its.toArray->its.length=ds.length->(∀(i:Nat) u d,its[i]?=some u->ds[i]?=some d->RH h u d)->RH h (.ref a) (.tup ds)
 | lst {a:Addr} {its:List Value} {ds:List D}:h.IsList a its.toArray->its.length=ds.length->(∀(i:Nat) u d,its[i]?=some u->ds[i]?=some d->RH h u d)->RH h (.ref a) (.lst ds)
section
variable {X:Cx}{K:Ab}{Y:AS}{H:Hp}{s:Shared}{pins:List (Addr×Obj)}{σ:St}
theorem Pl.up(h:Pl n d):Pl (n+1) d:=by
 induction h with|non n=>exact .non _|int n i=>exact .int _ i|str n x=>exact .str _ x|tup _ ih=>exact .tup ih|lst _ ih=>exact .lst ih
theorem cU:∀{vs:List V}{us:List Value},Vals vs us->∀(i:Nat) u,us[i]?=some u->∃v,vs[i]?=some v/\RelV v u
 |_,_,.nil,i,u,h=>by simp at h
 | v::_,w::_,.cons r rs,0,u,h=>by
  have e:w=u:=by simpa using h
  exact⟨v,rfl,e ▸ r⟩
 | _::_,_::_,.cons r rs,i+1,u,h=>by
  obtain⟨v,h1,h2⟩:=cU rs i u (by simpa using h)
  exact⟨v,by simpa using h1,h2⟩
theorem DA.rh(h:DA K Y H v d)(p:Pl n d)(I:Inv X pins σ H s)(hK:X.K=K):∀{u:Value},RelV v u->RH s.heap u d:=by
 induction h generalizing n with
 |non=>intro u r;cases r;exact .non
 |bl b=>cases p
 |int i=>intro u r;obtain⟨t,rfl⟩:=r;exact .int i t
 |str x=>intro u r;obtain⟨t,rfl⟩:=r;exact .str x t
 |ty n=>cases p
 |fl _ _ _ _=>cases p
 |dk _ _ _ _ _=>cases p
 |dt _ _ _ _ _ _=>cases p
 |@tup a vs ds h1 h2 h3 ih=>
  intro u r;cases r;cases p with
  |tup p=>
   obtain⟨its,r,t,_⟩:=I.tuple (hK ▸ h1.sq);refine .tup t (r.length.symm.trans h2) fun i u d e1 e2=>?_;obtain⟨v,e3,rv⟩:=cU r i u e1;exact ih i v d e3 e2 (p d (Xb e2)) rv
 |@lst a vs ds h0 h1 h2 h3 ih=>
  intro u r;cases r;cases p with
  |lst p=>
   obtain⟨its,r,t,_⟩:=I.list (show SqL X.K H a vs from .inl (.inl h1));refine .lst t.isList (r.length.symm.trans h2) fun i u d e1 e2=>?_;obtain⟨v,e3,rv⟩:=cU r i u e1;exact ih i v d e3 e2 (p d (Xb e2)) rv
theorem BA.rh(h:BA K Y H v d)(p:Pl n d)(I:Inv X pins σ H s)(hK:X.K=K)(ru:RelV v u):RH s.heap u d:=by
 cases p with
 |non=>cases (show v=.non from h);cases ru;exact .non
 |int _ i=>cases (show v=.int i from h);obtain⟨t,rfl⟩:=ru;exact .int i t
 |str _ x=>cases (show v=.str x from h);obtain⟨t,rfl⟩:=ru;exact .str x t
 |tup p=>
  obtain⟨a,vs,rfl,h1,el⟩:=h;cases ru;obtain⟨its,r,t,_⟩:=I.tuple (hK ▸ h1.sq);refine .tup t (r.length.symm.trans el.1) fun i u d e1 e2=>?_;obtain⟨v,e3,rv⟩:=cU r i u e1;exact(el.2 i v d e3 e2).rh (p d (Xb e2)) I hK rv
 |lst p=>
  obtain⟨a,vs,rfl,h1,el⟩:=h;cases ru;obtain⟨its,r,t,_⟩:=I.list (show SqL X.K H a vs from .inl (.inl h1));refine .lst t.isList (r.length.symm.trans el.1) fun i u d e1 e2=>?_;obtain⟨v,e3,rv⟩:=cU r i u e1;exact(el.2 i v d e3 e2).rh (p d (Xb e2)) I hK rv
def DX{h:Heap}(h1:h.IsTuple a x)(h2:h.IsTuple a y):x=y:=by
 obtain⟨o,e1,_,n,d1⟩:=h1;obtain⟨o',e2,_,n',d2⟩:=h2;rw[e1]at e2;cases e2;rw[d1]at d2;cases d2;rfl
def xf{h:Heap}(h1:h.IsList a x)(h2:h.IsList a y):x=y:=by
 obtain⟨o,e1,_,n,d1⟩:=h1;obtain⟨o',e2,_,n',d2⟩:=h2;rw[e1]at e2;cases e2;rw[d1]at d2;cases d2;rfl
def vG{h:Heap}(h1:h.IsList a x)(h2:h.IsTuple a y):False:=by
 obtain⟨o,e1,c1,_⟩:=h1;obtain⟨o',e2,c2,_⟩:=h2;rw[e1]at e2;cases e2;rw[c1]at c2;injection c2 with c2;exact absurd c2 (by decide)
theorem RH.inj(r:RH h u d):∀{d':D},RH h u d'->d=d':=by
 induction r with
 |non=>intro d' r';cases r';rfl
 |int i t=>intro d' r';cases r';rfl
 |str x t=>intro d' r';cases r';rfl
 |@tup a its ds t hl _ ih=>
  intro d' r';cases r' with
  |@tup _ its' ds' t' hl' f=>
   have e:its=its':=by simpa using DX t t'
   subst e;have:ds=ds':=by
    refine Bh (hl.symm.trans hl') fun i h1 h2=>?_;exact ih i its[i] ds[i] (Ya (by lia)) (Ya h1) (f i its[i] ds'[i] (Ya (by lia)) (Ya h2))
   rw[this]
  |lst t' _ _=>exact(vG t' t).elim
 |@lst a its ds t hl _ ih=>
  intro d' r';cases r' with
  |@lst _ its' ds' t' hl' f=>
   have e:its=its':=by simpa using xf t t'
   subst e;have:ds=ds':=by
    refine Bh (hl.symm.trans hl') fun i h1 h2=>?_;exact ih i its[i] ds[i] (Ya (by lia)) (Ya h1) (f i its[i] ds'[i] (Ya (by lia)) (Ya h2))
   rw[this]
  |tup t' _ _=>exact(vG t t').elim
open Classical in
def Gk{xs ys:List D}(h:xs.length=ys.length):((List.range xs.length).all fun j=>decide (xs[j]?=ys[j]?))=decide (xs=ys):=by
 rw[Ye,Xj,decide_eq_true_eq];constructor
 ·intro e;refine BF fun j=>?_;by_cases hj:j<xs.length
  ·exact Ak (e j (Qj.mpr hj))
  ·rw[Zl (by lia),Zl (by lia)]
 ·rintro rfl j _;exact Ae rfl
open Classical in
def eq3{d1 d2:D}{u1 u2:Value}{A:Around}(h:¬ d1=d2)(a:SeqAt.EqAt A s u1 u2 false)(b:SeqAt.RcAt A s u1 u2 false)(c:SeqAt.RcNeAt A s u1 u2 true) :
  SeqAt.EqAt A s u1 u2 (decide (d1=d2))/\SeqAt.RcAt A s u1 u2 (decide (d1=d2))/\SeqAt.RcNeAt A s u1 u2 (!decide (d1=d2)):=by
 rw[Af h];exact⟨a,b,c⟩
open Classical in
def it3{s:Shared}{its its':List Value}{ds ds':List D}(hl:its.length=ds.length)(hl':its'.length=ds'.length)(f:∀(j:Nat) u d,its[j]?=some u->ds[j]?=some d->RH s.heap u d)(f':∀(j:Nat) u d,its'[j]?=some u->ds'[j]?=some d->RH s.heap u d)(p1:∀d∈ds,Pl n d)(p2:∀d∈ds',Pl n d)
  (ih:∀{d1 d2:D}{u1 u2:Value},Pl n d1->Pl n d2->RH s.heap u1 d1->RH s.heap u2 d2->SeqAt.EqAt A s u1 u2 (decide (d1=d2)))(j:Nat)(h1:j<its.toArray.size)(h2:j<its'.toArray.size):SeqAt.EqAt A s its.toArray[j] its'.toArray[j] (decide (ds[j]?=ds'[j]?)):=by
 have h1':j<its.length:=by simpa using h1
 have h2':j<its'.length:=by simpa using h2
 have e1:ds[j]?=some ds[j]:=Ya (hl ▸ h1');have e2:ds'[j]?=some ds'[j]:=Ya (hl' ▸ h2');have z:=ih (p1 _ (Xb e1)) (p2 _ (Xb e2)) (f j its[j] _ (Ya h1') e1) (f' j its'[j] _ (Ya h2') e2);have e:decide (ds[j]?=ds'[j]?)=decide (ds[j]=ds'[j]):=by rw[e1,e2,Ye];simp
 rw[e];exact z
open Classical in
def RH.eqAt:∀(n:Nat){s:Shared}{d1 d2:D}{u1 u2:Value}{A:Around},Pl n d1->Pl n d2->RH s.heap u1 d1->RH s.heap u2 d2->A.units+n<cLine->
  SeqAt.EqAt A s u1 u2 (decide (d1=d2))/\SeqAt.RcAt A s u1 u2 (decide (d1=d2))/\SeqAt.RcNeAt A s u1 u2 (!decide (d1=d2)):=by
 intro n;induction n with
 |zero=>intro s d1 d2 u1 u2 A p;cases p
 |succ n ih=>
  intro s d1 d2 u1 u2 A p1 p2 r1 r2 hu;have hu':A.units<cLine:=by lia
  cases r1 with
  |non=>
   cases r2 with|non=>rw[Ae rfl];exact⟨SeqAt.EqAt.same _,SeqAt.RcAt.none_none,SeqAt.RcNeAt.none_none⟩|int i t=>exact eq3 (by intro z;cases z) (SeqAt.EqAt.none_int _ _) (SeqAt.RcAt.none_int _ _) (SeqAt.RcNeAt.none_int _ _)|str x t=>exact eq3 (by intro z;cases z) (SeqAt.EqAt.none_str _ _) (SeqAt.RcAt.none_str _ _) (SeqAt.RcNeAt.none_str _ _)|tup t _ _=>exact eq3 (by intro z;cases z) (SeqAt.EqAt.none_tuple t hu') (SeqAt.RcAt.none_tuple t hu') (SeqAt.RcNeAt.none_tuple t hu')|lst t _ _=>exact eq3 (by intro z;cases z) (SeqAt.EqAt.none_list t hu') (SeqAt.RcAt.none_list t hu') (SeqAt.RcNeAt.none_list t hu')
  |int i t=>
   cases r2 with
   |non=>exact eq3 (by intro z;cases z) (SeqAt.EqAt.int_none _ _) (SeqAt.RcAt.int_none _ _) (SeqAt.RcNeAt.int_none _ _)
   |int j t'=>
    have e:decide (D.int i=D.int j)=(i == j):=by rw[Ye];simp
    rw[e];exact⟨SeqAt.EqAt.int_int _ _ _ _,SeqAt.RcAt.int_int _ _ _ _,SeqAt.RcNeAt.int_int _ _ _ _⟩
   |str x t'=>exact eq3 (by intro z;cases z) (Cj _ _ _ _) (SeqAt.RcAt.int_str _ _ _ _) (SeqAt.RcNeAt.int_str _ _ _ _)
   |tup t' _ _=>exact eq3 (by intro z;cases z) (SeqAt.EqAt.int_tuple _ _ t' hu') (SeqAt.RcAt.int_tuple _ _ t' hu') (SeqAt.RcNeAt.int_tuple _ _ t' hu')
   |lst t' _ _=>exact eq3 (by intro z;cases z) (SeqAt.EqAt.int_list _ _ t' hu') (SeqAt.RcAt.int_list _ _ t' hu') (SeqAt.RcNeAt.int_list _ _ t' hu')
  |str x t=>
   cases r2 with
   |non=>exact eq3 (by intro z;cases z) (SeqAt.EqAt.str_none _ _) (SeqAt.RcAt.str_none _ _) (SeqAt.RcNeAt.str_none _ _)
   |int j t'=>exact eq3 (by intro z;cases z) (Ci _ _ _ _) (SeqAt.RcAt.str_int _ _ _ _) (SeqAt.RcNeAt.str_int _ _ _ _)
   |str y t'=>
    have e:decide (D.str x=D.str y)=(x == y):=by rw[Ye];simp
    rw[e];exact⟨SeqAt.EqAt.str_str _ _ _ _,SeqAt.RcAt.str_str _ _ _ _,SeqAt.RcNeAt.str_str _ _ _ _⟩
   |tup t' _ _=>exact eq3 (by intro z;cases z) (SeqAt.EqAt.str_tuple _ _ t' hu') (SeqAt.RcAt.str_tuple _ _ t' hu') (SeqAt.RcNeAt.str_tuple _ _ t' hu')
   |lst t' _ _=>exact eq3 (by intro z;cases z) (SeqAt.EqAt.str_list _ _ t' hu') (SeqAt.RcAt.str_list _ _ t' hu') (SeqAt.RcNeAt.str_list _ _ t' hu')
  |@tup a its ds t hl f=>
   cases r2 with
   |non=>exact eq3 (by intro z;cases z) (SeqAt.EqAt.tuple_none t hu') (SeqAt.RcAt.tuple_none t hu') (SeqAt.RcNeAt.tuple_none t hu')
   |int j t'=>exact eq3 (by intro z;cases z) (SeqAt.EqAt.tuple_int _ _ t hu') (SeqAt.RcAt.tuple_int _ _ t hu') (SeqAt.RcNeAt.tuple_int _ _ t hu')
   |str y t'=>exact eq3 (by intro z;cases z) (SeqAt.EqAt.tuple_str _ _ t hu') (SeqAt.RcAt.tuple_str _ _ t hu') (SeqAt.RcNeAt.tuple_str _ _ t hu')
   |lst t' _ _=>exact eq3 (by intro z;cases z) (SeqAt.EqAt.tuple_list t t' hu') (SeqAt.RcAt.tuple_list t t' hu') (SeqAt.RcNeAt.tuple_list t t' hu')
   |@tup b its' ds' t' hl' f'=>
    cases p1 with
    |tup p1=>
    cases p2 with
    |tup p2=>
    have it:=it3 (A:=A.in1) hl hl' f f' p1 p2 fun q1 q2 q3 q4=>(ih (A:=A.in1) q1 q2 q3 q4 (by show A.units+1+n<cLine;lia)).1
    have e:decide (D.tup ds=D.tup ds')=((List.range (min its.toArray.size its'.toArray.size)).all (fun j=>decide (ds[j]?=ds'[j]?))&&its.toArray.size == its'.toArray.size):=by
     simp only[Xc];by_cases hh:its.length=its'.length
     ·rw[<-hh,Nat.min_self,hl,Gk (by lia),Ye];simp
     ·have:ds≠ds':=fun z=>hh (by rw[hl,hl',z])
      rw[Ye];simp[hh,this]
    have rc:SeqAt.RcAt A s (.ref a) (.ref b) (decide (D.tup ds=D.tup ds')):=by
     rw[e];exact SeqAt.RcAt.tuples (A:=A) (e:=fun j=>decide (ds[j]?=ds'[j]?)) t t' hu' it
    have rn:SeqAt.RcNeAt A s (.ref a) (.ref b) (!decide (D.tup ds=D.tup ds')):=by
     rw[e];exact SeqAt.RcNeAt.tuples (A:=A) (e:=fun j=>decide (ds[j]?=ds'[j]?)) t t' hu' it
    refine⟨?_,rc,rn⟩;by_cases hab:a=b
    ·subst hab;have:=RH.inj (RH.tup t hl f) (RH.tup t' hl' f');rw[this,Ae rfl];exact SeqAt.EqAt.same _
    ·exact SeqAt.EqAt.of_refs hab rc
  |@lst a its ds t hl f=>
   cases r2 with
   |non=>exact eq3 (by intro z;cases z) (SeqAt.EqAt.list_none t hu') (SeqAt.RcAt.list_none t hu') (SeqAt.RcNeAt.list_none t hu')
   |int j t'=>exact eq3 (by intro z;cases z) (SeqAt.EqAt.list_int _ _ t hu') (SeqAt.RcAt.list_int _ _ t hu') (SeqAt.RcNeAt.list_int _ _ t hu')
   |str y t'=>exact eq3 (by intro z;cases z) (SeqAt.EqAt.list_str _ _ t hu') (SeqAt.RcAt.list_str _ _ t hu') (SeqAt.RcNeAt.list_str _ _ t hu')
   |tup t' _ _=>exact eq3 (by intro z;cases z) (SeqAt.EqAt.list_tuple t t' hu') (SeqAt.RcAt.list_tuple t t' hu') (SeqAt.RcNeAt.list_tuple t t' hu')
   |@lst b its' ds' t' hl' f'=>
    cases p1 with
    |lst p1=>
    cases p2 with
    |lst p2=>
    have it:=it3 (A:=A.in1) hl hl' f f' p1 p2 fun q1 q2 q3 q4=>(ih (A:=A.in1) q1 q2 q3 q4 (by show A.units+1+n<cLine;lia)).1
    have both:SeqAt.RcAt A s (.ref a) (.ref b) (decide (D.lst ds=D.lst ds'))/\SeqAt.RcNeAt A s (.ref a) (.ref b) (!decide (D.lst ds=D.lst ds')):=by
     by_cases hh:its.length=its'.length
     ·have e:decide (D.lst ds=D.lst ds')=(List.range its.toArray.size).all fun j=>decide (ds[j]?=ds'[j]?):=by
       simp only[Xc];rw[hl,Gk (by lia),Ye];simp
      rw[e];exact⟨SeqAt.RcAt.lists (A:=A) (e:=fun j=>decide (ds[j]?=ds'[j]?)) t t' (by simpa using hh) hu' it,SeqAt.RcNeAt.lists (A:=A) (e:=fun j=>decide (ds[j]?=ds'[j]?)) t t' (by simpa using hh) hu' it⟩
     ·have:ds≠ds':=fun z=>hh (by rw[hl,hl',z])
      rw[Af (by intro z;cases z;exact this rfl)]
      exact⟨SeqAt.RcAt.lists_lengths t t' (by simpa using hh) hu',CY t t' (by simpa using hh) hu'⟩
    obtain⟨rc,rn⟩:=both;refine⟨?_,rc,rn⟩;by_cases hab:a=b
    ·subst hab;have:=RH.inj (RH.lst t hl f) (RH.lst t' hl' f');rw[this,Ae rfl];exact SeqAt.EqAt.same _
    ·exact SeqAt.EqAt.of_refs hab rc
open Classical in
noncomputable def vH(neg:Bool):D->D->Option Rz:=fun a b=>if Pl 40 a/\Pl 40 b then some (.bl (if neg then !decide (a=b) else decide (a=b)),false) else none
open Classical in
def Gm(K:Ab)(neg:Bool):R2:=fun x y H Q=>∃(Y:AS)(a b:D),BA K Y H x a/\BA K Y H y b/\Pl 40 a/\Pl 40 b/\Q (.bl (if neg then !decide (a=b) else decide (a=b))) H
def Gn(neg:Bool):RdOp K (Gm K neg) (vH neg):=by
 intro Y H x y d1 d2 z Q lv b1 b2 e q;unfold vH at e;obtain⟨c,e⟩:=aM e;cases e;exact⟨Y,d1,d2,b1,b2,c.1,c.2,q _ H (Same.refl H) (.bl _)⟩
def Nw(h:X.K=K)(hu:X.A.units+64<cLine):OpR X (compareOp .Eq) (Gm K false):=by
 intro pins s σ H x y v u Q I rx ry ⟨Y,a,b,b1,b2,p1,p2,q⟩;exact(RH.eqAt 40 (A:=X.A) p1 p2 (b1.rh p1 I h rx) (b2.rh p2 I h ry) (by lia)).2.1 _ _ _ _ ⟨.bl _,H,I,rfl,q⟩
def Nx(h:X.K=K)(hu:X.A.units+64<cLine):OpR X (compareOp .NotEq) (Gm K true):=by
 intro pins s σ H x y v u Q I rx ry ⟨Y,a,b,b1,b2,p1,p2,q⟩;exact(RH.eqAt 40 (A:=X.A) p1 p2 (b1.rh p1 I h rx) (b2.rh p2 I h ry) (by lia)).2.2 _ _ _ _ ⟨.bl _,H,I,rfl,q⟩
noncomputable def lK:=orD bEq (vH false)
noncomputable def jX:=orD bNe (vH true)
def Pj(K:Ab):R2:=fun x y H Q=>rEq x y H Q\/Gm K false x y H Q
def Pk(K:Ab):R2:=fun x y H Q=>Ng K x y H Q\/Gm K true x y H Q
def qc(h:X.K=K)(hu:X.A.units+64<cLine):OpR X (compareOp .Eq) (Pj K):=(Nc h hu).or (Nw h hu)
def Ny:RdOp K (Pj K) lK:=ro_eqA.or (Gn false)
def tY(h:X.K=K)(hu:X.A.units+64<cLine):OpR X (compareOp .NotEq) (Pk K):=(lI h hu).or (Nx h hu)
def Nz:RdOp K (Pk K) jX:=ro_neA.or (Gn true)
open Classical in
noncomputable def DY(neg:Bool):D->D->Option Rz:=fun a b=>match b.seq with|some ds=>if Pl 40 a/\(∀d∈ds,Pl 40 d) then some (.bl (if neg then !decide (a∈ds) else decide (a∈ds)),false) else none|none=>none
open Classical in
def Gp(K:Ab)(neg:Bool):R2:=fun x y H Q=>∃(Y:AS)(a b:D)(ds:List D),BA K Y H x a/\BA K Y H y b/\b.seq=some ds/\Pl 40 a/\(∀d∈ds,Pl 40 d)/\Q (.bl (if neg then !decide (a∈ds) else decide (a∈ds))) H
def Gq(neg:Bool):RdOp K (Gp K neg) (DY neg):=by
 intro Y H x y d1 d2 z Q lv b1 b2 e q;unfold DY at e;split at e
 ·rename_i ds hs
  obtain⟨c,e⟩:=aM e;cases e;exact⟨Y,d1,d2,ds,b1,b2,hs,c.1,c.2,q _ H (Same.refl H) (.bl _)⟩
 ·cases e
open Classical in
def qd{ds:List D}{its:List Value}{A:Around}(hl:its.length=ds.length)(f:∀(i:Nat) u d,its[i]?=some u->ds[i]?=some d->RH s.heap u d)(p1:Pl 40 a)(p2:∀d∈ds,Pl 40 d)(r:RH s.heap u a)(hu:A.units+64<cLine) :
  (∀y,y∈its.toArray->SeqAt.EqAt A.in1 s y u (decide (RH s.heap y a)))/\its.toArray.any (fun y=>decide (RH s.heap y a))=decide (a∈ds):=by
 constructor
 ·intro y hy;obtain⟨i,hi,rfl⟩:=Ql.mp (show y∈its by simpa using hy)
  have e1:ds[i]?=some ds[i]:=Ya (by lia)
  have ry:=f i its[i] _ (Ya hi) e1;have z:=(RH.eqAt 40 (A:=A.in1) (p2 _ (Xb e1)) p1 ry r (by show A.units+1+40<cLine;lia)).1
  have e:decide (ds[i]=a)=decide (RH s.heap its[i] a):=by
   rw[Ye,decide_eq_true_eq,decide_eq_true_eq];exact⟨fun e=>e ▸ ry,fun r'=>ry.inj r'⟩
  rw[<-e];exact z
 ·rw[Ye,decide_eq_true_eq];simp only[List.any_toArray,List.any_eq_true,decide_eq_true_eq];constructor
  ·rintro⟨y,hy,ry⟩;obtain⟨i,hi,rfl⟩:=Ql.mp hy;have e1:ds[i]?=some ds[i]:=Ya (by lia)
   have:=(f i its[i] _ (Ya hi) e1).inj ry;rw[<-this];exact Xb e1
  ·intro ha;obtain⟨i,hi,rfl⟩:=Ql.mp ha;exact⟨its[i],Xl _,f i _ _ (Ya (by lia)) (Ya hi)⟩
def sA{d:D}{ds:List D}(h:BA K Y H v d)(e:d.seq=some ds)(p:∀x∈ds,Pl 40 x)(I:Inv X pins σ H s)(hK:X.K=K)(ru:RelV v u) :
  ∃a its,u=.ref a/\(s.heap.IsList a (List.toArray its)\/s.heap.IsTuple a its.toArray)/\its.length=ds.length/\∀(i:Nat) u d,its[i]?=some u->ds[i]?=some d->RH s.heap u d:=by
 obtain⟨a,vs,rfl,sq,el⟩:=p8 h e;cases ru;have rest:∀{its:List Value},Vals vs its->its.length=ds.length/\∀(i:Nat) u d,its[i]?=some u->ds[i]?=some d->RH s.heap u d:=fun {its} r=>by
  refine⟨r.length.symm.trans el.1,fun i u d e1 e2=>?_⟩;obtain⟨v,e3,rv⟩:=cU r i u e1;exact(el.2 i v d e3 e2).rh (p d (Xb e2)) I hK rv
 rcases sq with sq|sq
 ·obtain⟨its,r,t,_⟩:=I.list (hK ▸ sq);exact⟨a,its,rfl,.inl t.isList,rest r⟩
 ·obtain⟨its,r,t,_⟩:=I.tuple (hK ▸ sq);exact⟨a,its,rfl,.inr t,rest r⟩
def NA(h:X.K=K)(hu:X.A.units+64<cLine):OpR X (compareOp .In) (Gp K false):=by
 intro pins s σ H x y v u Q I rx ry ⟨Y,a,b,ds,b1,b2,hs,p1,p2,q⟩;obtain⟨l,its,rfl,hl,hn,f⟩:=sA b2 hs p2 I h ry;obtain⟨h1,h2⟩:=qd (A:=X.A) hn f p1 p2 (b1.rh p1 I h rx) hu;rcases hl with hl|hl
 ·refine SeqAt.in_listAt _ hl h1 ?_;rw[h2];exact⟨.bl _,H,I,rfl,q⟩
 ·refine CJ _ hl h1 ?_;rw[h2];exact⟨.bl _,H,I,rfl,q⟩
def DZ(h:X.K=K)(hu:X.A.units+64<cLine):OpR X (compareOp .NotIn) (Gp K true):=by
 intro pins s σ H x y v u Q I rx ry ⟨Y,a,b,ds,b1,b2,hs,p1,p2,q⟩;obtain⟨l,its,rfl,hl,hn,f⟩:=sA b2 hs p2 I h ry;obtain⟨h1,h2⟩:=qd (A:=X.A) hn f p1 p2 (b1.rh p1 I h rx) hu;rcases hl with hl|hl
 ·refine SeqAt.notIn_listAt _ hl h1 ?_;rw[h2];exact⟨.bl _,H,I,rfl,q⟩
 ·refine SeqAt.notIn_tupleAt _ hl h1 ?_;rw[h2];exact⟨.bl _,H,I,rfl,q⟩
noncomputable def xg:=orD bIn (DY false)
noncomputable def hV:=orD lH (DY true)
def Pm(K:Ab):R2:=fun x y H Q=>Nb K x y H Q\/Gp K false x y H Q
def yS(K:Ab):R2:=fun x y H Q=>tT K x y H Q\/Gp K true x y H Q
def Gr(h:X.K=K)(hu:X.A.units+64<cLine):OpR X (compareOp .In) (Pm K):=(tS h).or (NA h hu)
def NB:RdOp K (Pm K) xg:=ro_inA.or (Gq false)
def nR(h:X.K=K)(hu:X.A.units+64<cLine):OpR X (compareOp .NotIn) (yS K):=(nM h).or (DZ h hu)
def D0:RdOp K (yS K) hV:=ro_notinA.or (Gq true)
end
end VF
namespace VF
open PySem L2 PySem.Spec
section
variable {X:Cx}{a b e:Expr}{ta te:TE}
def ph(hK:X.K=K)(hc:X.calm=true)(h:PGs X es t)
  (hn:(assignEach es X.env).length=n:=by rfl)(hst:(assignEach es X.env).findIdx? (·.1)=none:=by rfl):PG X (.Tuple es k pos) (Mf K n t):=hK ▸ Mg hc h hn hst
end
section
variable {K:Ab}{Y O O' Z:AS}{H H':Hp}{v:V}{d:D}{st st':En}{σ:St}
def xh:FS:=fun _=>none
def Gs:RdS K EN xh:=by
 intro st σ H O Z Dn E o e;cases e
end
end VF
namespace VF
open PySem L2 PySem.Spec
section
variable {X:Cx}{K:Ab}
def Gu(K:Ab):R2:=fun x y H Q=>∃a b ys,x=.ref a/\y=.ref b/\SqT K H a []/\SqT K H b ys/\Q (.ref b) H
def JQ(h:X.K=K):OpR X (binaryOp .Add) (Gu K):=by
 intro pins s σ H x y v u Q I rx ry hh;obtain⟨a,b,ys,rfl,rfl,ha,hb,q⟩:=hh;cases rx;cases ry;subst h;obtain⟨its,r1,p1,_⟩:=I.tuple ha;obtain⟨its2,r2,p2,_⟩:=I.tuple hb;cases r1;obtain⟨⟨cls,dd,data,sl⟩,ho,hc,n,hd⟩:=id p1;obtain⟨⟨cls2,dd2,data2,sl2⟩,ho2,hc2,n2,hd2⟩:=id p2;simp only at hc hd hc2 hd2;subst hc hd hc2 hd2;exact concat_meets ⟨_,ho,rfl⟩ ⟨_,ho2,rfl⟩ CG seq_tuple_add BU BM (BJ _ _)
   (PyProof.Rows.tuple_addW0 a b _ _ n n2 dd dd2 sl sl2 rfl) ⟨ho,ho2,.ref b,H,I,rfl,q⟩
def LK:D->D->Option Rz|.tup [],.tup b=>some (.tup b,false)|_,_=>none
theorem JR:RdOp K (Gu K) LK:=by
 intro Y H x y d1 d2 z Q lv b1 b2 e q;cases d1 with
 |tup a=>
  cases a with
  |cons a0 a=>cases e
  |nil=>
   cases d2 with
   |tup b=>
    cases e;obtain⟨p,xs,rfl,hp,el⟩:=b1;obtain⟨p2,ys,rfl,hp2,el2⟩:=b2;obtain rfl:=el.unnil;exact⟨p,p2,ys,rfl,rfl,hp.sq,hp2.sq,q _ H (Same.refl H) (.tup hp2 el2.1 el2.2)⟩
   |_=>cases e
 |_=>cases e
def gC:=orD cE LK
def LL(K:Ab):R2:=fun x y H Q=>yI K x y H Q\/Gu K x y H Q
def kM(h:X.K=K):OpR X (binaryOp .Add) (LL K):=(yJ h).or (JQ h)
def JT:RdOp K (LL K) gC:=ro_addA.or JR
def NC(K:Ab):V->Option Int->Option Int->Hp->VK->Prop:=fun x lo hi H Q=>∃a xs,x=.ref a/\SqT K H a xs/\(HT.sIx xs.length 0 lo=0/\HT.sIx xs.length xs.length hi=xs.length)/\Q (.ref a) H
end
end VF
namespace HT
open PySem PyProof.Rows
section
variable {prog:Program}{w:World}{A:Around}{E:Value->Shared->Prop}{s:Shared}
def getItem_tuple_all{t sl:Addr}{items:Array Value}{vl vu:Value}{lo hi:Option Int}{Q:Value->Shared->Prop}(ht:IsTup s.heap t items)(hs:s.heap.IsSliceOf sl vl vu .none)(pl:IsPart vl lo)(pu:IsPart vu hi)
  (hw:sIx items.size 0 lo=0/\sIx items.size items.size hi=items.size)(h:Q (.ref t) s):wpAny (model prog w) A (getItem (.ref t) (.ref sl)) Q E s:=by
 obtain⟨os,hos,hcs,hds⟩:=id hs;have hTs:s.TypeIs (.ref sl) "slice":=⟨os,hos,hcs⟩;unfold getItem
 try with_reducible refine AA ?_
 first|refine Aa (Ad ?_)|skip
 refine Aa (wpAny_sequenceKey ht.typeIs (by decide) ?_)
 refine Aa (Am (name:=Str.ofString "__getitem__") ht.typeIs AI
  (Ao AI ht.typeIs entry_tuple_getitem ?_ (args_tuple_getitem _ _)))
 show wpAny _ _ (Builtin.Tuple.tupleItemsOf (.ref t) >>= _) _ _ s;refine Aa (tupleItemsOf_ ht ?_);refine Aa (AZ hTs ?_);rw[Ag (by decide)]
 refine Aa (iK hs pl pu ?_);have hyes:(((sIx items.size 0 lo:Nat):Int) == 0&&(1:Int) == 1&&(sIx items.size items.size hi-sIx items.size 0 lo) == items.size)=true:=by
  rw[hw.1,hw.2];simp
 show wpAny _ _ (if (((sIx items.size 0 lo:Nat):Int) == 0&&(1:Int) == 1&&(sIx items.size items.size hi-sIx items.size 0 lo) == items.size)=true then _ else _) _ _ s;rw[Ag hyes];unfold Builtin.Tuple.tupleIsExact;refine Aa (Aa (AZ ht.typeIs (Ad ?_)));rw[Ag (by decide)]
 exact Aa (AW (Ad ⟨_,rfl,Ad h⟩))
end
end HT
namespace VF
open PySem L2
section
variable {X:Cx}{K:Ab}
def Gv(h:X.K=K):SlR X (NC K):=by
 intro pins s σ H x v vl vu lo hi sl Q I rx hs pl pu hh;obtain⟨a,xs,rfl,hx,hw,q⟩:=hh;cases rx;subst h;obtain⟨its,r,ht,hz⟩:=I.tuple hx;have hlen:its.toArray.size=xs.length:=by rw[Xc];exact r.length.symm
 refine⟨"tuple",_,AI.lookup,ht.typeIs,?_⟩;exact HT.getItem_tuple_all ht hs pl pu (by rw[hlen];exact hw) ⟨.ref a,H,I,rfl,q⟩
def JU:D->Option Int->Option Int->Option Rz|.tup ds,lo,hi=>if HT.sIx ds.length 0 lo=0/\HT.sIx ds.length ds.length hi=ds.length then some (.tup ds,false) else none|_,_,_=>none
theorem Pn:RdSl K (NC K) JU:=by
 intro Y H x lo hi d1 z Q lv b1 e q;cases d1 with
 |tup a=>
  obtain⟨c,e⟩:=aM e;cases e;obtain⟨p,xs,rfl,hp,el⟩:=b1;exact⟨p,xs,rfl,hp.sq,by rw[el.1];exact c,q _ H (Same.refl H) (.tup hp el.1 el.2)⟩
 |_=>cases e
def oP:=orS bSl JU
def Po(K:Ab):V->Option Int->Option Int->Hp->VK->Prop:=fun x lo hi H Q=>Nh K x lo hi H Q\/NC K x lo hi H Q
def pi(h:X.K=K):SlR X (Po K):=SlR.or (nN h) (Gv h)
def Gw:RdSl K (Po K) oP:=RdSl.or yK Pn
def qf(ds:List D)(lo hi:Option Int):oP (.tup ds) lo hi=some (.tup (cutD ds lo hi),false):=by
 have e1:DQ (.tup ds) lo hi=none:=rfl;have e3:FP (.tup ds) lo hi=none:=rfl;by_cases c:HT.sIx ds.length 0 lo=0/\HT.sIx ds.length ds.length hi=ds.length
 ·have e2:oN (.tup ds) lo hi=none:=by simp only[oN,Ag c]
  have e4:JU (.tup ds) lo hi=some (.tup ds,false):=by simp only[JU,Ag c]
  have e5:cutD ds lo hi=ds:=by
   unfold cutD;rw[c.1,c.2];simp
  unfold oP bSl orS;rw[e1,e2,e3,e4,e5]
 ·have e2:oN (.tup ds) lo hi=some (.tup (cutD ds lo hi),false):=by simp only[oN,Aj c]
  unfold oP bSl orS;rw[e1,e2]
theorem tZ{a b:List D}(h:a.length+b.length<=100000):gC (.tup a) (.tup b)=some (.tup (a++b),false):=by
 have e1:rR (.tup a) (.tup b)=none:=rfl;have e2:rS (.tup a) (.tup b)=none:=rfl;have e3:w6 (.tup a) (.tup b)=none:=rfl;cases a with
 |nil=>
  have e4:rT (.tup []) (.tup b)=none:=rfl;unfold gC cE orD;rw[e1,e2,e3,e4];rfl
 |cons x a=>
  have e4:rT (.tup (x::a)) (.tup b)=some (.tup (x::a++b),false):=by
   simp only[Qc]at h;cases b with
   |nil=>simp only[rT,Yg];rw[Ag (by lia)]
   |cons y b=>
    simp only[Qc]at h;simp only[rT];rw[Ag (by lia)]
  unfold gC cE orD;rw[e1,e2,e3,e4]
def vI{a b:List D}(h:a.length+b.length<=1000000):gC (.lst a) (.lst b)=some (.lst (a++b),true):=by
 have e1:rR (.lst a) (.lst b)=none:=rfl;have e2:rS (.lst a) (.lst b)=none:=rfl;have e3:w6 (.lst a) (.lst b)=some (.lst (a++b),true):=by simp only[w6];rw[Ag h]
 unfold gC cE orD;rw[e1,e2,e3]
def ND{ds:List D}(h:j<=ds.length):cutD ds none (some (j:Int))=ds.take j:=by
 unfold cutD;rw[HT.sIx_none,HT.sIx_nat,Bm h];simp
def vJ{ds:List D}(h:i<=ds.length):cutD ds (some (i:Int)) none=ds.drop i:=by
 unfold cutD;rw[HT.sIx_none,HT.sIx_nat,Bm h,Yk];rw[Yj];lia
end
end VF
namespace VF
open PySem L2
section
variable {α:Type}{fg:FG}{B:FS}{fc:FT}{fe:FE}{k:Nat}
theorem bM(f:α->D)(all:List α)(I:List α->En->Prop)(step:∀(gone:List α)(x:α)(rest:List α)(st:En),all=gone++x::rest->I gone st->∃s1 s2,fg (f x) st=some s1/\B s1=some (.nx s2)/\I (gone++[x]) s2) :
  ∀(items gone:List α)(st:En),all=gone++items->I gone st->∃sf,eT fg B (items.map f) st=some (.nx sf)/\I all sf
 |[],gone,st,ha,h=>⟨st,rfl,by rw[ha,Yg];exact h⟩
 | x::r,gone,st,ha,h=>by
  obtain⟨s1,s2,e1,e2,e3⟩:=step gone x r st ha h;obtain⟨sf,e4,e5⟩:=bM f all I step r (gone++[x]) s2 (by rw[Zf];exact ha) e3
  refine⟨sf,?_,e5⟩;simp only[Yh,eT,e1,e2,Yb];exact e4
theorem dS(f g:α->D)(p:α->Bool)(sb:En):∀(xs:List α),(∀x∈xs,∃s1 s2,fg (f x) sb=some s1/\fc s1=some (p x,s2)/\(p x=false->rst k s2=sb)/\(p x=true->∃y s3 s4,fe s2=some (y,s3)/\esc y s3=some (g x,s4)/\rst k s4=sb))->
  b9 fg fc fe k (xs.map f) sb=some ((xs.filter p).map g,sb)
 |[],_=>rfl
 | x::r,h=>by
  obtain⟨s1,s2,e1,e2,hf,ht⟩:=h x Va;have ih:=dS f g p sb r fun y hy=>h y (Vb _ hy);cases hp:p x with
  |false=>
   rw[hp]at e2;simp only[Yh,b9,e1,e2,Yb,Qe,if_false,hf hp,ih,BS,hp]
  |true=>
   rw[hp]at e2;obtain⟨y,s3,s4,e3,e4,e5⟩:=ht hp;simp only[Yh,b9,e1,e2,Yb,if_true,e3,e4,e5,ih,BS,hp]
def bZ(f g:α->D)(sb:En)(xs:List α)(h:∀x∈xs,∃s1 s2 y s3 s4,fg (f x) sb=some s1/\fc s1=some (true,s2)/\fe s2=some (y,s3)/\esc y s3=some (g x,s4)/\rst k s4=sb) :
  b9 fg fc fe k (xs.map f) sb=some (xs.map g,sb):=by
 have:=dS (fg:=fg) (fc:=fc) (fe:=fe) (k:=k) f g (fun _=>true) sb xs fun x hx=>by
  obtain⟨s1,s2,y,s3,s4,e1,e2,e3,e4,e5⟩:=h x hx;exact⟨s1,s2,e1,e2,fun z=>(Bool.noConfusion z),fun _=>⟨y,s3,s4,e3,e4,e5⟩⟩
 rw[this,List.filter_eq_self.mpr fun _ _=>rfl]
end
section
variable {st s1:En}{rs:List Rs}{fa:FA}
def yT{xs ys:List D}(h:xs.length+ys.length<=1000000):i6 (.lst xs) [.lst ys]=some (.non,.lst (xs++ys)):=by
 show(if xs.length+ys.length<=1000000 then some (D.non,D.lst (xs++ys)) else none)=_;rw[Ag h]
end
def JV(a n:Nat):rng (a:Int) n=(List.range n).map fun t=>D.int ((a+t:Nat):Int):=by
 unfold rng;exact Vh fun t _=>by rw[CU]
end VF
namespace VF22
open PySem PySem.Spec PyProof.Rows L2 VF
def ItN(t:Bool):String:=if t then "tuple_iterator" else "list_iterator"
def SqN(t:Bool):String:=if t then "tuple" else "list"
def Io(t:Bool)(h:Heap)(a l:Addr)(i:Nat):Prop:=∃o,h.get? a=some o/\o.cls=.type (ItN t)/\o.data=.fields #[.ref l,.int i 0]
def So(t:Bool)(h:Heap)(l:Addr)(xs:Array Value):Prop:=∃o,h.get? l=some o/\o.cls=.type (SqN t)/\∃n,o.data=.seq xs n
variable {t t1 t2:Bool}{h h':Heap}
theorem Io.by(a:Io t h it l i)(k:∀o,h.get? it=some o->h'.get? it=some o):Io t h' it l i:=by
 obtain⟨o,e,r⟩:=a;exact⟨o,k o e,r⟩
theorem So.by(a:So t h l xs)(k:∀o,h.get? l=some o->h'.get? l=some o):So t h' l xs:=by
 obtain⟨o,e,r⟩:=a;exact⟨o,k o e,r⟩
section
variable {P:Program}{w:World}{A:Around}{E:Value->Shared->Prop}{s:Shared}
def yU(a:Io t s.heap it l i)(b:So t s.heap l xs)(hx:xs[i]?=some x)
  (q:∀h1,Io t h1 it l (i+1)->Heap.SameBut it s.heap h1->Q x { s with heap:=h1 }):wpAny (model P w) A (Builtin.SmallTypes.nextOf (.ref it)) Q E s:=by
 cases t with
 |false=>exact wpAny_nextOf_list_item (i:=i) (l:=l) (items:=xs) a b hx q
 |true=>
  obtain⟨u,hu,cu,du⟩:=id a;obtain⟨v,hv,cv,nv,dv⟩:=b;have ty:s.heap.IsTupleIter it l i:=⟨u,hu,cu,du⟩;unfold Builtin.SmallTypes.nextOf;refine Aa (Am (name:=Str.ofString "__next__") ty.typeIs F.slot_tuple_iterator_next (Ao F.slot_tuple_iterator_next ty.typeIs F.entry_tuple_iterator_next ?_ (F.args_tuple_iterator_next_1 _)));show wpAny _ _ (field (.ref it) 0 >>= _) _ _ _;refine Aa (Ar hu du (x:=.ref l) rfl ?_);show wpAny _ _ (if (Value.ref l == Value.none)=true then _ else _) _ _ _;rw[Aj (show ¬ ((Value.ref l == .none)=true) from Qd)];show wpAny _ _ (field (.ref it) 1 >>= _) _ _ _;refine Aa (Ar hu du (x:=.int i 0) rfl ?_);show wpAny _ _ (seqItems? (.ref l) >>= _) _ _ _;refine Aa (AJ hv dv ?_);simp only[hx,Xn];refine Aa (AV hu du (by simp) (Ad ⟨x,rfl,Ad (q _ ?_ (AD ..))⟩))
  refine⟨_,AT _ hu (Bc (Az du _)),(Cy ..).trans cu,?_⟩;rw[Az du];simp[rawInt]
def t6(hh:A.handled=none)(a:Io t s.heap it l i)(b:So t s.heap l xs)(hx:xs[i]?=none)
  (q:∀h1 e,Heap.ExtBut it s.heap h1->(∃o,h1.get? e=some o/\o.cls=.type "StopIteration")->E (.ref e) { s with heap:=h1 }):wpAny (model P w) A (Builtin.SmallTypes.nextOf (.ref it)) Q E s:=by
 cases t with
 |false=>exact wpAny_nextOf_list_end (i:=i) (l:=l) (items:=xs) hh a b hx q
 |true=>
  obtain⟨u,hu,cu,du⟩:=id a;obtain⟨v,hv,cv,nv,dv⟩:=b;have ty:s.heap.IsTupleIter it l i:=⟨u,hu,cu,du⟩;unfold Builtin.SmallTypes.nextOf;refine Aa (Am (name:=Str.ofString "__next__") ty.typeIs F.slot_tuple_iterator_next (Ao F.slot_tuple_iterator_next ty.typeIs F.entry_tuple_iterator_next ?_ (F.args_tuple_iterator_next_1 _)));show wpAny _ _ (field (.ref it) 0 >>= _) _ _ _;refine Aa (Ar hu du (x:=.ref l) rfl ?_);show wpAny _ _ (if (Value.ref l == Value.none)=true then _ else _) _ _ _;rw[Aj (show ¬ ((Value.ref l == .none)=true) from Qd)];show wpAny _ _ (field (.ref it) 1 >>= _) _ _ _;refine Aa (Ar hu du (x:=.int i 0) rfl ?_);show wpAny _ _ (seqItems? (.ref l) >>= _) _ _ _;refine Aa (AJ hv dv ?_);simp only[hx,Xn];refine Aa (AW (Aa (AV hu du (by simp) ?_)))
  show wpAny _ _ (newExc (.type "StopIteration") [] >>= _) _ _ _;refine Aa ?_;simp only[newExc,newTuple];refine Aa (Aq ?_ (by size_fits))
  refine Aa (m:=firstArgMember _ _) (AX (a:=.none) (by first|rfl|(simp only[firstArgMember];rfl)) ?_)
  refine Aq ?_ (by size_fits)
  simp only[raiseNew];refine Aa (wpAny_handled ?_)
  first|rw[show A.in1.handled=none from hh]|rw[hh]
  refine Aa (Ad (wpAny_throw ?_));exact q _ _ (((AD ..).extBut.push _).push _) ⟨_,Ah _ rfl,rfl⟩
def Pp(W:ZipApart z T1 T2 i1 i2 l1 l2)(hz:IsZip s.heap z T1 T2 .none)(p1:IsPair s.heap T1 (.ref i1) (.ref i2))(p2:IsPair s.heap T2 a b)
  (u1:Io t1 s.heap i1 l1 k)(u2:Io t2 s.heap i2 l2 k)(v1:So t1 s.heap l1 xs)(v2:So t2 s.heap l2 ys)(hx:xs[k]?=some x)(hy:ys[k]?=some y)
  (q:∀g,IsZip g z T1 T2 (rawInt s.heap.objs.size)->IsPair g T2 x y->Io t1 g i1 l1 (k+1)->Io t2 g i2 l2 (k+1)->IsPair g s.heap.objs.size x y->
   (∀c o,c≠z->c≠T2->c≠i1->c≠i2->s.heap.get? c=some o->g.get? c=some o)->Q (some (.ref s.heap.objs.size)) { s with heap:=g }):wpAny (model P w) A (pyNext (.ref z)) Q E s:=by
 have ty:s.TypeIs (.ref z) "zip":=⟨_,hz,rfl⟩;unfold pyNext;refine Aa (AF (Am (name:=Str.ofString "__next__") ty F.slot_zip_next (Ao F.slot_zip_next ty F.entry_zip_next ?_ (F.args_zip_next_1 _))));show wpAny _ _ (field (.ref z) 2 >>= _) _ _ s;refine Aa (Ar hz rfl (x:=.bool false) rfl ?_);show wpAny _ _ (field (.ref z) 3 >>= _) _ _ s;refine Aa (Ar hz rfl (x:=.ref T1) rfl ?_);refine Aa (AJ p1 rfl ?_);show wpAny _ _ (Builtin.SmallTypes.ownedTupleIsFree (.ref z) >>= _) _ _ s;refine Aa ?_;unfold Builtin.SmallTypes.ownedTupleIsFree;refine Aa (Ar hz rfl (x:=Value.none) rfl (Ad ?_));simp only[if_true];refine Aa (AW ?_);refine Aa (Ar hz rfl (x:=.ref T2) rfl ?_);refine Aa (AL hz (by simp) fun g1 z1 s1=>?_)
 replace z1:IsZip g1 z T1 T2 .ellipsis:=z1
 refine Aa ?_;simp only[B4,List.forIn_nil,BQ,List.zipIdx_nil];refine Aa (Aa (Cf ?_));show wpAny _ _ (Builtin.SmallTypes.nextOf (.ref i1) >>= _) _ _ { s with heap:=g1 };refine Aa (yU (s:={ s with heap:=g1 }) (u1.by fun o e=>s1.extBut _ o W.i1z e) (v1.by fun o e=>s1.extBut _ o W.l1z e) hx fun g2 n1 s2=>Ad ?_)
 have p22:IsPair g2 T2 a b:=s2.extBut _ _ W.TOi1 (s1.extBut _ _ W.TOz p2);refine Aa (AJ p22 rfl ?_);refine Aa (B8 p22 fun g3 p23 s3=>?_);replace p23:IsPair g3 T2 x b:=p23;refine Aa (CP (Ad ?_));refine Aa (Aa (Cf ?_));show wpAny _ _ (Builtin.SmallTypes.nextOf (.ref i2) >>= _) _ _ { s with heap:=g3 };refine Aa (yU (s:={ s with heap:=g3 }) (u2.by fun o e=>s3.extBut _ o W.TOi2.symm (s2.extBut _ o W.i12.symm (s1.extBut _ o W.i2z e))) (v2.by fun o e=>s3.extBut _ o W.l2TO (s2.extBut _ o W.l2i1 (s1.extBut _ o W.l2z e))) hy fun g4 n2 s4=>Ad ?_)
 have p24:IsPair g4 T2 x b:=s4.extBut _ _ W.TOi2 p23;refine Aa (AJ p24 rfl ?_);refine Aa (B8 p24 fun g5 p25 s5=>?_);replace p25:IsPair g5 T2 x y:=p25;refine Aa (CP (Ad (Ad ?_)));refine Aa (AJ p25 rfl ?_);refine Aa (CV ?_);have sz:g5.objs.size=s.heap.objs.size:=by rw[s5.1,s4.1,s3.1,s2.1,s1.1]
 have z5:IsZip g5 z T1 T2 .ellipsis:=s5.extBut _ _ W.TOz.symm (s4.extBut _ _ W.i2z.symm (s3.extBut _ _ W.TOz.symm (s2.extBut _ _ W.i1z.symm z1)));have k5:∀c o,c≠z->c≠T2->c≠i1->c≠i2->s.heap.get? c=some o->g5.get? c=some o:=fun c o c1 c2 c3 c4 e=>s5.extBut _ _ c2 (s4.extBut _ _ c4 (s3.extBut _ _ c2 (s2.extBut _ _ c3 (s1.extBut _ _ c1 e))));have n15:Io t1 g5 i1 l1 (k+1):=n1.by fun o e=>s5.extBut _ o W.TOi1.symm (s4.extBut _ o W.i12 (s3.extBut _ o W.TOi1.symm e))
 have n25:Io t2 g5 i2 l2 (k+1):=n2.by fun o e=>s5.extBut _ o W.TOi2.symm e
 have zl:z<g5.objs.size:=Ai z5;show wpAny _ _ (Builtin.SmallTypes.ownedTupleHandOut (.ref z) (.ref g5.objs.size) >>= _) _ _ _;refine Aa ?_;unfold Builtin.SmallTypes.ownedTupleHandOut;have z6:IsZip (g5.push { cls:=.type "tuple",data:=.seq #[x,y] }) z T1 T2 .ellipsis:=Ac _ z5;refine Aa (AL z6 (by simp) fun g7 z7 s7=>?_)
 replace z7:IsZip g7 z T1 T2 (rawInt g5.objs.size):=z7
 refine AL z7 (by simp) fun g8 z8 s8=>?_
 replace z8:IsZip g8 z T1 T2 (rawInt g5.objs.size):=z8
 have up:∀c o,c≠z->g5.get? c=some o->g8.get? c=some o:=fun c o c1 e=>s8.extBut _ _ c1 (s7.extBut _ _ c1 (Ac _ e));have pT:IsPair g8 g5.objs.size x y:=s8.extBut _ _ (Bq zl) (s7.extBut _ _ (Bq zl) (Ah _ rfl));rw[sz]at z8 pT;refine Ad ⟨_,rfl,Ad ?_⟩;show Q (some (.ref g5.objs.size)) _;rw[sz];exact q g8 z8 (up _ _ W.TOz p25) (n15.by fun o e=>up _ o W.i1z e) (n25.by fun o e=>up _ o W.i2z e) pT fun c o c1 c2 c3 c4 e=>up c o c1 (k5 c o c1 c2 c3 c4 e)
def NE(hh:A.handled=none)(W:ZipApart z T1 T2 i1 i2 l1 l2)(hz:IsZip s.heap z T1 T2 .none)(p1:IsPair s.heap T1 (.ref i1) (.ref i2))(p2:IsPair s.heap T2 a b)
  (u1:Io t1 s.heap i1 l1 k)(u2:Io t2 s.heap i2 l2 k)(v1:So t1 s.heap l1 xs)(v2:So t2 s.heap l2 ys)(hend:xs[k]?=none\/ys[k]?=none)
  (q:∀g,(∀c o,c≠z->c≠T2->c≠i1->c≠i2->s.heap.get? c=some o->g.get? c=some o)->Q none { s with heap:=g }):wpAny (model P w) A (pyNext (.ref z)) Q E s:=by
 have ty:s.TypeIs (.ref z) "zip":=⟨_,hz,rfl⟩;unfold pyNext;have fin:∀g e,(∀c o,c≠z->c≠T2->c≠i1->c≠i2->s.heap.get? c=some o->g.get? c=some o)->(∃o,g.get? e=some o/\o.cls=.type "StopIteration")->wpAny (model P w) A (do if (<-isInstance (.ref e) (.type "StopIteration")) then return none else throw (.ref e)) Q E { s with heap:=g }:=fun g e kp ⟨o,ho,ho2⟩=>
  Aa (Be (T:="StopIteration") (b:=true) ⟨o,ho,ho2⟩ Cc (Ad (q g kp)))
 refine Aa (AF (Am (name:=Str.ofString "__next__") ty F.slot_zip_next (Ao F.slot_zip_next ty F.entry_zip_next ?_ (F.args_zip_next_1 _))));show wpAny _ _ (field (.ref z) 2 >>= _) _ _ s;refine Aa (Ar hz rfl (x:=.bool false) rfl ?_);show wpAny _ _ (field (.ref z) 3 >>= _) _ _ s;refine Aa (Ar hz rfl (x:=.ref T1) rfl ?_);refine Aa (AJ p1 rfl ?_);show wpAny _ _ (Builtin.SmallTypes.ownedTupleIsFree (.ref z) >>= _) _ _ s;refine Aa ?_;unfold Builtin.SmallTypes.ownedTupleIsFree;refine Aa (Ar hz rfl (x:=Value.none) rfl (Ad ?_));simp only[if_true];refine Aa (AW ?_);refine Aa (Ar hz rfl (x:=.ref T2) rfl ?_);refine Aa (AL hz (by simp) fun g1 z1 s1=>?_)
 replace z1:IsZip g1 z T1 T2 .ellipsis:=z1
 refine Aa ?_;simp only[B4,List.forIn_nil,BQ,List.zipIdx_nil];refine Aa (Aa (Cf ?_));show wpAny _ _ (Builtin.SmallTypes.nextOf (.ref i1) >>= _) _ _ { s with heap:=g1 };have w1:Io t1 g1 i1 l1 k:=u1.by fun o e=>s1.extBut _ o W.i1z e
 have w2:So t1 g1 l1 xs:=v1.by fun o e=>s1.extBut _ o W.l1z e
 cases hx:xs[k]? with
 |none=>
  refine Aa (t6 (s:={ s with heap:=g1 }) hh w1 w2 hx fun g2 e s2 he=>?_);obtain⟨oe,he1,he2⟩:=he;have z2:IsZip g2 z T1 T2 .ellipsis:=s2 _ _ W.i1z.symm z1;have ne:e≠z:=fun m=>by subst m;rw[z2]at he1;cases he1;simp at he2
  exact AL z2 (by simp) fun g3 _ s3=>fin g3 e (fun c o c1 _ c3 _ m=>s3.extBut _ _ c1 (s2 _ _ c3 (s1.extBut _ _ c1 m))) ⟨oe,s3.extBut _ _ ne he1,he2⟩
 |some x=>
  have hy:ys[k]?=none:=by
   rcases hend with m|m
   ·rw[hx]at m;cases m
   ·exact m
  refine Aa (yU (s:={ s with heap:=g1 }) w1 w2 hx fun g2 n1 s2=>Ad ?_);have p22:IsPair g2 T2 a b:=s2.extBut _ _ W.TOi1 (s1.extBut _ _ W.TOz p2);refine Aa (AJ p22 rfl ?_);refine Aa (B8 p22 fun g3 p23 s3=>?_);refine Aa (CP (Ad ?_));refine Aa (Aa (Cf ?_));show wpAny _ _ (Builtin.SmallTypes.nextOf (.ref i2) >>= _) _ _ { s with heap:=g3 };refine Aa (t6 (s:={ s with heap:=g3 }) hh (u2.by fun o e=>s3.extBut _ o W.TOi2.symm (s2.extBut _ o W.i12.symm (s1.extBut _ o W.i2z e))) (v2.by fun o e=>s3.extBut _ o W.l2TO (s2.extBut _ o W.l2i1 (s1.extBut _ o W.l2z e))) hy fun g4 e s4 he=>?_)
  obtain⟨oe,he1,he2⟩:=he;have z4:IsZip g4 z T1 T2 .ellipsis:=s4 _ _ W.i2z.symm (s3.extBut _ _ W.TOz.symm (s2.extBut _ _ W.i1z.symm z1));have ne:e≠z:=fun m=>by subst m;rw[z4]at he1;cases he1;simp at he2
  exact AL z4 (by simp) fun g5 _ s5=>fin g5 e (fun c o c1 c2 c3 c4 m=>s5.extBut _ _ c1 (s4 _ _ c4 (s3.extBut _ _ c2 (s2.extBut _ _ c3 (s1.extBut _ _ c1 m))))) ⟨oe,s5.extBut _ _ ne he1,he2⟩
end
end VF22
namespace VF22
open PySem PySem.Spec PyProof.Rows L2 VF
section
variable {t t1 t2:Bool}{P:Program}{w:World}{A:Around}{E:Value->Shared->Prop}{s:Shared}
def zI(t:Bool)(l:Addr):Obj:={ cls:=.type (ItN t),data:=.fields #[.ref l,.int 0 0] }
theorem kN(b:So t s.heap l xs)(q:Q (.ref s.heap.objs.size) { s with heap:=s.heap.push (zI t l) }):wpAny (model P w) A (pyIter (.ref l)) Q E s:=by
 cases t with|false=>exact BB (items:=xs) b q|true=>exact wpAny_pyIter_tuple (items:=xs) b q
abbrev zA(t1:Bool)(h:Heap)(l1:Addr):Heap:=h.push (zI t1 l1)
abbrev zB(t1 t2:Bool)(h:Heap)(l1 l2:Addr):Heap:=(zA t1 h l1).push (zI t2 l2)
abbrev zC(t1 t2:Bool)(h:Heap)(l1 l2:Addr):Heap:=(zB t1 t2 h l1 l2).push { cls:=.type "tuple",data:=.seq #[.ref h.objs.size,.ref (zA t1 h l1).objs.size] }
abbrev zD(t1 t2:Bool)(h:Heap)(l1 l2:Addr):Heap:=(zC t1 t2 h l1 l2).push { cls:=.type "tuple",data:=.seq #[.none,.none] }
abbrev zE(t1 t2:Bool)(h:Heap)(l1 l2:Addr):Heap:=(zD t1 t2 h l1 l2).push { cls:=.type "zip",data:=.fields #[.none,.bool false,.bool false,.ref (zB t1 t2 h l1 l2).objs.size,.ref (zC t1 t2 h l1 l2).objs.size] }
def Gx(t1 t2:Bool)(l1 l2:Addr)(xs ys:Array Value):Meets (Builtin.«zip.__new__» ⟨[.type "zip",.ref l1,.ref l2],[]⟩) (fun _ R s=>So t1 s.heap l1 xs/\So t2 s.heap l2 ys /\
   R (.ok (.ret (.ref (zD t1 t2 s.heap l1 l2).objs.size))) { s with heap:=zE t1 t2 s.heap l1 l2 }) :=
 .of_wp fun prog w A R s h=>by
  obtain⟨hp,g,d,tk,os⟩:=s;obtain⟨v1,v2,h⟩:=h;have hsub:=sub_zip;have L1:So t1 (Shared.heap ⟨hp,g,d,tk,os⟩) l1 xs:=v1;have L2:So t2 (Shared.heap ⟨hp.push (zI t1 l1),g,d,tk,os⟩) l2 ys:=So.by v2 fun o e=>Ac _ e
  wp_walk using kN L1,kN L2
  exact⟨_,rfl,h⟩
def Gy(v1:So t1 s.heap l1 xs)(v2:So t2 s.heap l2 ys)
  (q:∀g,IsZip g (s.heap.objs.size+4) (s.heap.objs.size+2) (s.heap.objs.size+3) .none->IsPair g (s.heap.objs.size+2) (.ref s.heap.objs.size) (.ref (s.heap.objs.size+1))->IsPair g (s.heap.objs.size+3) .none .none->
   Io t1 g s.heap.objs.size l1 0->Io t2 g (s.heap.objs.size+1) l2 0->(∀c o,s.heap.get? c=some o->g.get? c=some o)->Q (.ref (s.heap.objs.size+4)) { s with heap:=g }) :
  wpAny (model P w) A (call (.type "zip") [.ref l1,.ref l2]) Q E s:=by
 refine callType_new F.called_zip (by decide) (F.typeCall_zip_2 _ _) (F.newCall_zip_2 _ _) (fun obj=>F.args_object_init_3 obj _ _) F.entry_zip_new (Gx t1 t2 l1 l2 xs ys) ⟨v1,v2,?_⟩
 have m1:(zA t1 s.heap l1).objs.size=s.heap.objs.size+1:=AY ..;have m2:(zB t1 t2 s.heap l1 l2).objs.size=s.heap.objs.size+2:=by rw[AY,m1]
 have m3:(zC t1 t2 s.heap l1 l2).objs.size=s.heap.objs.size+3:=by rw[AY,m2]
 have m4:(zD t1 t2 s.heap l1 l2).objs.size=s.heap.objs.size+4:=by rw[AY,m3]
 have g5:(zE t1 t2 s.heap l1 l2).get? (zD t1 t2 s.heap l1 l2).objs.size=some _:=Ah _ rfl;have g4:(zE t1 t2 s.heap l1 l2).get? (zC t1 t2 s.heap l1 l2).objs.size=some _:=Ac _ (Ah _ rfl);have g3:(zE t1 t2 s.heap l1 l2).get? (zB t1 t2 s.heap l1 l2).objs.size=some _:=Ac _ (Ac _ (Ah _ rfl));have g2:(zE t1 t2 s.heap l1 l2).get? (zA t1 s.heap l1).objs.size=some (zI t2 l2):=Ac _ (Ac _ (Ac _ (Ah _ rfl)));have g1:(zE t1 t2 s.heap l1 l2).get? s.heap.objs.size=some (zI t1 l1):=Ac _ (Ac _ (Ac _ (Ac _ (Ah _ rfl))));show _/\_;rw[m2,m3,m4]at g5;rw[m1,m2]at g3;rw[m3]at g4;rw[m1]at g2;rw[m4];exact⟨⟨_,g5,rfl⟩,q _ g5 g3 g4 ⟨_,g1,rfl,rfl⟩ ⟨_,g2,rfl,rfl⟩ fun c o e=>Ac _ (Ac _ (Ac _ (Ac _ (Ac _ e))))⟩
end
section
variable {X:Cx}{K:Ab}{t t1 t2:Bool}{pins:List (Addr×Obj)}{σ:L2.St}{H:Hp}{s:Shared}{h':Heap}
def pj{t':Nat}{ch:List Addr}(I:L2.Inv X pins σ H s)(f:∀b∈ch,jN X pins H b)(k:∀b o,b∉ch->s.heap.get? b=some o->h'.get? b=some o):L2.Inv X pins σ H { s with heap:=h',toks:=t' }:=by
 have nit:∀b u,H b=some u->b∉ch:=fun b u e z=>by rw[(f b z).1]at e;cases e
 refine I.step (g':=s.gens) (d':=s.drawn) (ch:=ch) (fun b hb=>?_) (fun b o _ _ hc e _=>k b o hc e) (fun b o _ _ hc e _=>⟨o.slots,k b o hc e⟩) (fun _ _ _ _ n=>n)
  (fun b o hc e=>⟨o,k b o hc e⟩) (fun _ _ e=>e) (fun _ _ _ e=>e) (fun b ps e=>⟨#[],by rw[e];simp⟩) (fun m hm=>?_) (fun b u e=>?_) I.bare
 ·obtain⟨_,f1,_,f3,f4,f5⟩:=f b hb;exact⟨f3,f1,f4,f5⟩
 ·obtain⟨o,es,ep,ho,r⟩:=hm;exact⟨o,es,ep,k _ o (fun z=>(f _ z).2.1 rfl) ho,r⟩
 ·refine(I.hok b u e).stay (fun c v hc q=>k c v ?_ q) (fun _ q=>q) fun _ _ q=>q;rcases hc with z|z
  ·rw[z];exact nit b u e
  ·exact nit c _ z
def Sq(K:Ab)(t:Bool)(H:Hp)(a:Addr)(xs:List V):Prop:=if t then SqT K H a xs else SqL K H a xs
theorem Sq.so(I:L2.Inv X pins σ H s)(h:Sq X.K t H l xs):∃its:List Value,Vals xs its/\So t s.heap l its.toArray:=by
 cases t with
 |false=>
  obtain⟨its,rv,p,_⟩:=I.list h;exact⟨its,rv,p.isList⟩
 |true=>
  obtain⟨its,rv,p,_⟩:=I.tuple h;exact⟨its,rv,p⟩
theorem Sq.inj(I:L2.Inv X pins σ H s)(h:Sq X.K t H l xs)(h2:Sq X.K t H l ys):xs=ys:=by
 cases t with|false=>exact I.list_inj h h2|true=>exact I.tuple_inj h h2
def Itz(K : Ab)(t1 t2 : Bool)(l1 l2 : Addr) : It :=
  ⟨fun i H => ∃ xs ys x y, Sq K t1 H l1 xs ∧ Sq K t2 H l2 ys ∧ xs[i]? = some x ∧ ys[i]? = some y,
   fun i H v H' => ∃ p x y, v = .ref p ∧ H p = none ∧ H' = upd H p (.tup [x, y]) ∧ (∀ xs, Sq K t1 H l1 xs → xs[i]? = some x) ∧ ∀ ys, Sq K t2 H l2 ys → ys[i]? = some y,
   fun i H => ∃ xs ys, Sq K t1 H l1 xs ∧ Sq K t2 H l2 ys ∧ (xs.length ≤ i\/ys.length ≤ i)⟩
def Zs(t1 t2:Bool)(z T1 T2 i1 i2 l1 l2:Addr)(i:Nat)(h:Heap):Prop:=IsZip h z T1 T2 .none/\IsPair h T1 (.ref i1) (.ref i2)/\(∃a b,IsPair h T2 a b)/\Io t1 h i1 l1 i/\Io t2 h i2 l2 i
def Pq(h:b∈[z,T1,T2,i1,i2]):b=z\/b=T1\/b=T2\/b=i1\/b=i2:=by simpa using h
theorem Zs.at{h:Heap}(st:Zs t1 t2 z T1 T2 i1 i2 l1 l2 i h)(hb:b∈[z,T1,T2,i1,i2]):∃o,h.get? b=some o/\∀v,o.data≠.cell v:=by
 obtain⟨a1,a2,⟨_,_,a3⟩,⟨o1,a4,_,d4⟩,⟨o2,a5,_,d5⟩⟩:=st;rcases Pq hb with rfl|rfl|rfl|rfl|rfl
 ·exact⟨_,a1,fun v m=>by cases m⟩
 ·exact⟨_,a2,fun v m=>by cases m⟩
 ·exact⟨_,a3,fun v m=>by cases m⟩
 ·exact⟨_,a4,fun v m=>by rw[d4]at m;cases m⟩
 ·exact⟨_,a5,fun v m=>by rw[d5]at m;cases m⟩
def Gz{es:List Expr}{x1}{z T1 T2 i1 i2 l1 l2:Addr}(W:ZipApart z T1 T2 i1 i2 l1 l2):Turn P w K (.Tuple es x1 ps) (Itz K t1 t2 l1 l2) [z,T1,T2,i1,i2] z (Zs t1 t2 z T1 T2 i1 i2 l1 l2) where
 mem:=.head _
 obj:=fun i h st b hb=>st.at hb
 keep:=fun i h h' st k=>by
  obtain⟨a1,a2,⟨a,b,a3⟩,a4,a5⟩:=st;exact⟨k z (.head _) _ a1,k T1 (.tail _ (.head _)) _ a2,⟨a,b,k T2 (.tail _ (.tail _ (.head _))) _ a3⟩,a4.by fun o e=>k i1 (.tail _ (.tail _ (.tail _ (.head _)))) o e,a5.by fun o e=>k i2 (.tail _ (.tail _ (.tail _ (.tail _ (.head _))))) o e⟩
 item:=by
  intro X hP hw hK hc i pins s σ H E I hf st hg;subst hP hw hK;obtain⟨xs,ys,x,y,q1,q2,e1,e2⟩:=hg;obtain⟨is,r1,v1⟩:=q1.so I;obtain⟨js,r2,v2⟩:=q2.so I;obtain⟨u,hu,ru⟩:=r1.get e1;obtain⟨v,hv,rv⟩:=r2.get e2;have hn:H s.heap.objs.size=none:=I.hok.fresh (Wb _);have lt:∀b∈[z,T1,T2,i1,i2],b≠s.heap.objs.size:=fun b hb=>by
   obtain⟨o,ho,_⟩:=Zs.at st hb;exact Qf (Ai ho)
  obtain⟨a1,a2,⟨a,b,a3⟩,a4,a5⟩:=st;refine Pp W a1 a2 a3 a4 a5 v1 v2 (x:=u) (y:=v) (by simpa using hu) (by simpa using hv) fun g z1 p2 n1 n2 pT kp=>?_
  refine⟨_,rfl,wpAny_letOwnedTupleGo_zip (s:={ s with heap:=g }) z1 fun g2 z2 sb=>?_⟩;have kk:∀c o,c≠z->c≠T2->c≠i1->c≠i2->s.heap.get? c=some o->g2.get? c=some o:=fun c o c1 c2 c3 c4 e=>sb.extBut _ _ c1 (kp c o c1 c2 c3 c4 e);have pT2:IsPair g2 s.heap.objs.size u v:=sb.extBut _ _ (Au (lt z (.head _))) pT;have I1:L2.Inv X pins σ (upd H s.heap.objs.size (.tup [x,y])) { s with heap:=s.heap.push { cls:=.type "tuple",data:=.seq #[u,v] },toks:=s.toks } :=
   I.laid (fun b o e=>Ac _ e) (Wb _) ⟨show 2<=sizeLine by decide,[u,v],.cons ru (.cons rv .nil),⟨_,Ah _ rfl,rfl,_,rfl⟩⟩
  have ff:∀b∈[z,T1,T2,i1,i2],jN X pins (upd H s.heap.objs.size (.tup [x,y])) b:=fun b hb=>by
   obtain⟨f0,f1,f2,f3,f4,f5⟩:=hf b hb;exact⟨by rw[aR (lt b hb)];exact f0,f1,f2,f3,f4,f5⟩
  have I2:L2.Inv X pins σ (upd H s.heap.objs.size (.tup [x,y])) { s with heap:=g2 }:=by
   refine pj (s:={ s with heap:=s.heap.push { cls:=.type "tuple",data:=.seq #[u,v] } }) (t':=s.toks) I1 ff fun c o hc e=>?_;rcases Heap.get?_push_cases e with⟨rfl,rfl⟩|e
   ·exact pT2
   ·exact kk c o (fun m=>hc (m ▸ .head _)) (fun m=>hc (m ▸ .tail _ (.tail _ (.head _)))) (fun m=>hc (m ▸ .tail _ (.tail _ (.tail _ (.head _))))) (fun m=>hc (m ▸ .tail _ (.tail _ (.tail _ (.tail _ (.head _)))))) e
  refine⟨.ref s.heap.objs.size,_,I2,rfl,⟨_,x,y,rfl,hn,rfl,fun zs hz=>by rw[hz.inj I q1];exact e1,fun zs hz=>by rw[hz.inj I q2];exact e2⟩,?_,fun b hb=>(ff b hb).1⟩
  exact⟨z2,sb.extBut _ _ W.TIz (kp _ _ W.TIz W.TITO W.TIi1 W.TIi2 a2),⟨_,_,sb.extBut _ _ W.TOz p2⟩,n1.by fun o e=>sb.extBut _ o W.i1z e,n2.by fun o e=>sb.extBut _ o W.i2z e⟩
 done:=by
  intro X hP hw hK hc i pins s σ H E I hf st hg;subst hP hw hK;obtain⟨xs,ys,q1,q2,hl⟩:=hg;obtain⟨a1,a2,⟨a,b,a3⟩,a4,a5⟩:=st;obtain⟨is,r1,v1⟩:=q1.so I;obtain⟨js,r2,v2⟩:=q2.so I;have l1:=r1.length;have l2:=r2.length;refine NE (I.ok.hd hc) W a1 a2 a3 a4 a5 v1 v2 (hl.imp (fun m=>by rw[Dq];exact Zl (l1 ▸ m)) fun m=>by rw[Dq];exact Zl (l2 ▸ m)) fun g kp=>⟨rfl,pj (t':=s.toks) I hf fun c o hc e=>?_⟩
  exact kp c o (fun m=>hc (m ▸ .head _)) (fun m=>hc (m ▸ .tail _ (.tail _ (.head _)))) (fun m=>hc (m ▸ .tail _ (.tail _ (.tail _ (.head _))))) (fun m=>hc (m ▸ .tail _ (.tail _ (.tail _ (.tail _ (.head _)))))) e
 self:=fun _ _ _ _ _ st h=>wpAny_pyIter_zip st.1 h
def NF(K:Ab)(ta:TA):TI:=fun σ H R=>ta σ H fun vs H1=>∃t1 t2 l1 l2 xs ys,vs=[.ref l1,.ref l2]/\Sq K t1 H1 l1 xs/\Sq K t2 H1 l2 ys/\R (Itz K t1 t2 l1 l2) H1
def boot_zip:bootBuiltins "zip"=some (.type "zip"):=by decide +kernel
def JW{x1}(hg:Gl X "zip")(hm:X.mg "zip"=none)(ha:PA X [a,b] ta)(hs:starEach [a,b] X.env=[(false,eval a X.env),(false,eval b X.env)])(hs2:starEach [b] X.env=[(false,eval b X.env)]) :
  PI X (.Tuple es x1 ps) (.Call (.Name "zip" p) [a,b] [] pos) (NF X.K ta):=by
 intro pins s σ H R I h;refine Call_ (jO I hg hm boot_zip (AE (thn (ha pos pins s σ H _ I h) fun us s1 ⟨vs,H1,I1,r1,q1⟩=>?_) (by rw[hs,hs2]) (by rw[hs2];rfl)))
 obtain⟨t1,t2,l1,l2,xs,ys,e,w1,w2,q⟩:=q1;subst e;cases r1 with
 |cons r rr=>
  cases rr with
  |cons r' rr=>
   cases rr;cases r;cases r';obtain⟨is,r1,v1⟩:=w1.so I1;obtain⟨js,r2,v2⟩:=w2.so I1;refine Gy v1 v2 fun g z p1 p2 n1 n2 kp=>?_;obtain⟨o1,ho1,_⟩:=id v1;obtain⟨o2,ho2,_⟩:=id v2;refine wpAny_pyIter_zip (s:={ s1 with heap:=g }) z ⟨_,[s1.heap.objs.size+4,s1.heap.objs.size+2,s1.heap.objs.size+3,s1.heap.objs.size,s1.heap.objs.size+1],_,_,H1,rfl,I1.kept (t':=s1.toks) kp,Gz (PySem.W.ktu_apart _ _ _ (Ai ho1) (Ai ho2)),⟨z,p1,⟨_,_,p2⟩,n1,n2⟩,fun b hb=>?_,q⟩;have hb':=Pq hb;have le:s1.heap.objs.size<=b:=by
    rcases hb' with m|m|m|m|m<;>(rw[m];first|exact Qm _ _|exact Wb _)
   exact I1.fpOk le (I1.hok.fresh le)
end
end VF22
namespace VF22
open PySem L2 VF
section
variable {X:Cx}{K:Ab}{O O' Z:AS}{H H':Hp}{v:V}{d:D}
def sqD:D->Option (List D)|.lst ds=>some ds|.fl ds=>some ds|.tup ds=>some ds|_=>none
def NG:List D->Option (List D×List D)|[a,b]=>(sqD a).bind fun x=>(sqD b).bind fun y=>some (x,y)|_=>none
def pr(a b:D):D:=.tup [a,b]
def fIZ(fa:FA):FI:=fun st=>(fa st).bind fun x=>(cQ x.1 x.2).bind fun y=>(NG y.1).bind fun w=>some (List.zipWith pr w.1 w.2,y.2)
theorem GA(da:DA K (U O Z) H v d)(e:sqD d=some is):∃t l ws,v=.ref l/\∀H' O',Ext O H O' H'->Sq K t H' l ws/\El K (U O' Z) H' ws is:=by
 cases d with
 |lst ds=>
  cases e;cases da with|@lst a vs _ h0 h1 h2 h3=>exact⟨false,a,vs,rfl,fun H' O' ex=>⟨.inl (.inl (ex.kp a _ h1 fun z=>h0 (.inl z))),El.ext ⟨h2,h3⟩ ex⟩⟩
 |fl ds=>
  cases e;cases da with
  |@fl a vs _ h1 h2 h3=>
   refine⟨false,a,vs,rfl,fun H' O' ex=>⟨?_,El.ext ⟨h2,h3⟩ ex⟩⟩;rcases h1 with⟨h1,hn⟩|h1
   ·exact .inl (Rd.keep h1 fun o e=>ex.kp a o e fun z=>hn (.inl z))
   ·exact h1 H'
 |tup ds=>
  cases e;cases da with
  |@tup a vs _ h1 h2 h3=>
   refine⟨true,a,vs,rfl,fun H' O' ex=>⟨?_,El.ext ⟨h2,h3⟩ ex⟩⟩;exact .inl (.inl (ex.kp a _ h1.1 fun z=>h1.2 (.inl z)))
 |_=>cases e
def Pr{as bs:List D}{i:Nat}{d:D}(h:(List.zipWith pr as bs)[i]?=some d):∃a b,as[i]?=some a/\bs[i]?=some b/\d=.tup [a,b]:=by grind [D,pr]
def GB{ta:TA}{fa:FA}(h:RdA K ta fa):RdI K (NF K ta) (fIZ fa):=by
 intro st σ H O Z R E items st' e q;refine bsP e fun rs st1 e1 e=>?_;refine bsP e fun ds st2 e2 e=>?_;refine bsP e fun as bs e3 e=>?_;cases e;refine h st σ H O Z _ E rs st1 e1 fun vs H1 O1 x1 k1 E1 rvs=>?_;obtain⟨O2,x2,k2,E2,el⟩:=rvs.esc E1 e2;replace e3:NG ds=some (as,bs):=e3;unfold NG at e3;split at e3
 ·rename_i a b
  refine bsO e3 fun as' e4 e3=>?_;refine bsO e3 fun bs' e5 e3=>?_;cases e3;obtain⟨v1,r,rfl,da1,el⟩:=el.uncons;obtain⟨v2,r,rfl,da2,el⟩:=el.uncons;obtain rfl:=el.unnil;obtain⟨t1,l1,xs,rfl,k3⟩:=GA da1 e4;obtain⟨t2,l2,ys,rfl,k4⟩:=GA da2 e5;refine⟨t1,t2,l1,l2,xs,ys,rfl,(k3 H1 O2 (Ext.refl _ _)).1,(k4 H1 O2 (Ext.refl _ _)).1,q _ H1 O2 (x1.trans x2) (k1.trans k2) E2 fun H' O' ex liv=>?_⟩;obtain⟨s1,el1⟩:=k3 H' O' ex;obtain⟨s2,el2⟩:=k4 H' O' ex;have n1:=el1.1;have n2:=el2.1;refine⟨fun i hi=>⟨xs,ys,s1,s2,?_⟩,fun i d hd=>?_⟩
  ·replace hi:(List.zipWith pr as bs).length<=i:=hi
   rw[List.length_zipWith]at hi;lia
  ·obtain⟨a,b,ha,hb,rfl⟩:=Pr hd;obtain⟨x,hx,dx⟩:=el1.at ha;obtain⟨y,hy,dy⟩:=el2.at hb;refine⟨⟨xs,ys,x,y,s1,s2,hx,hy⟩,?_⟩;rintro v H'' ⟨p,x',y',rfl,hn,rfl,f1,f2⟩;have ex':=f1 xs s1;have ey':=f2 ys s2;rw[hx]at ex';rw[hy]at ey';cases ex';cases ey';have sm:=aY hn (.tup [x,y]);exact⟨sm,.tup ⟨bq,fun z=>(liv p z).1 hn⟩ rfl ((El.cons dx (El.one dy)).same sm).2⟩
 ·cases e3
def GC{x1}(h:X.K=K)(hg:Gl X "zip")(hs:starEach [a,b] X.env=[(false,eval a X.env),(false,eval b X.env)])(hs2:starEach [b] X.env=[(false,eval b X.env)])(hm:X.mg "zip"=none)(ha:PE X a te)(hb:PE X b te2) :
  PI X (.Tuple es x1 ps) (.Call (.Name "zip" p) [a,b] [] pos) (NF K (fF te (fF te2 oH))):=by
 subst h;exact JW hg hm (kI ha (kI hb ae hs2) (by rw[hs,hs2])) hs hs2
end
end VF22
namespace TS
open PySem PyProof.Rows
def sB{M:Model}{A:Around}{E:Value->Shared->Prop}{σ γ:Type}{X Y:StateT σ Sem γ}{p:Prop}{d:Decidable p}{Q:γ->σ->Prop}{st:σ}(h:p)(k:wpS M A E s X Q st):wpS M A E s (@ite _ p d X Y) Q st:=by rw[Ag h];exact k
def qg{M:Model}{A:Around}{E:Value->Shared->Prop}{σ γ:Type}{X Y:StateT σ Sem γ}{p:Prop}{d:Decidable p}{Q:γ->σ->Prop}{st:σ}(h:¬ p)(k:wpS M A E s Y Q st):wpS M A E s (@ite _ p d X Y) Q st:=by rw[Aj h];exact k
def GD{α β:Type}(f:α->β)(x:Array α)(i j:Nat):(x.map f).swapIfInBounds i j=(x.swapIfInBounds i j).map f:=by grind
theorem nS{α β γ:Type}(f:α->β)(p q:γ->Nat):∀(l:List γ)(x:Array α),l.foldl (fun a k=>a.swapIfInBounds (p k) (q k)) (x.map f)=(l.foldl (fun a k=>a.swapIfInBounds (p k) (q k)) x).map f
 |[],x=>rfl
 | k::l,x=>by
  rw[List.foldl_cons,List.foldl_cons,GD];exact nS f p q l _
def xi(f:α->β)(x:Array α)(i d:Nat):bubble (x.map f) i d=(bubble x i d).map f:=nS f _ _ _ x
def je(f:α->β)(x:Array α)(i j d:Nat):mirror (x.map f) i j d=(mirror x i j d).map f:=nS f _ _ _ x
structure Cm(prog:Program)(w:World)(A:Around)(s:Shared)(k:SortKind)(f:Nat->Keyed)(N:Nat)(c:Nat->Nat->Bool):Prop where
 lt:∀(E:Value->Shared->Prop)(Q:Bool->Shared->Prop)(g h:Nat),g<N->h<N->Q (c g h) s->wpAny (model prog w) A (keyLt' k (f g).1 (f h).1) Q E s
 irr:∀g,c g g=false
 tra:∀g h i,c g h=true->c h i=true->c g i=true
 neg:∀g h i,c g i=true->c g h=true\/c h i=true
def Bf(c:Nat->Nat->Bool)(g h:Nat):Prop:=c g h=true\/(c h g=false/\g<h)
structure Rp(k:SortKind)(f:Nat->Keyed)(N:Nat)(st:SortSt)(γ:Array Nat):Prop where
 arr:arrOf st=γ.map f
 kind:kindOf st=k
 fine:failedOf st=none
 perm:γ.Perm (Array.range N)
section
variable {prog:Program}{w:World}{A:Around}{E:Value->Shared->Prop}{s:Shared}{k:SortKind}{f:Nat->Keyed}{N:Nat}{c:Nat->Nat->Bool}{st:SortSt}{γ:Array Nat}
theorem Cm.asy(C:Cm prog w A s k f N c)(e:c g h=true):c h g=false:=by
 cases e':c h g with|false=>rfl|true=>exact absurd (C.tra g h g e e') (by rw[C.irr];exact Bool.noConfusion)
def Cm.le(C:Cm prog w A s k f N c)(e:Bf c g h):c h g=false:=by
 rcases e with e|e
 ·exact C.asy e
 ·exact e.1
theorem Cm.letr(C:Cm prog w A s k f N c)(e:c h g=false)(e':c i h=false):c i g=false:=by
 cases e2:c i g with
 |false=>rfl
 |true=>
  rcases C.neg i h g e2 with q|q
  ·rw[q]at e';exact e'
  ·rw[q]at e;exact e
theorem Cm.trans(C:Cm prog w A s k f N c)(e:Bf c g h)(e':Bf c h i):Bf c g i:=by
 have l:=C.letr (C.le e) (C.le e');cases e2:c g i with
 |true=>exact .inl e2
 |false=>
  refine .inr ⟨l,?_⟩;rcases e with e|e
  ·rcases C.neg g i h e with q|q
   ·rw[q]at e2;cases e2
   ·rw[C.le e']at q;cases q
  ·rcases e' with e'|e'
   ·rcases C.neg h g i e' with q|q
    ·rw[e.1]at q;cases q
    ·rw[q]at e2;cases e2
   ·exact BW e.2 e'.2
theorem Rp.size(R:Rp k f N st γ):γ.size=N:=by rw[R.perm.size_eq,Zk]
def Rp.bnd(R:Rp k f N st γ){i g:Nat}(e:γ[i]?=some g):g<N:=by
 have hm:g∈γ:=Array.mem_of_getElem? e;exact Array.mem_range.mp (R.perm.mem_iff.mp hm)
def Rp.at(R:Rp k f N st γ){i g:Nat}(e:γ[i]?=some g):(arrOf st)[i]?=some (f g):=by rw[R.arr,Cr,e];rfl
def Rp.put(R:Rp k f N st γ){γ':Array Nat}(p:γ'.Perm γ)(e:x=γ'.map f):Rp k f N (setArr st x) γ':=⟨e,R.kind,R.fine,p.trans R.perm⟩
def Ps(C:Cm prog w A s k f N c)(hk:kindOf st=k)(bg:g<N)(bh:h<N)(q:Q (some (c g h)) st):wpS (model prog w) A E s (lt' (f g) (f h)) Q st:=by
 rw[lt'_eq];refine Ap (wpS_get ?_);subst hk;exact Ap (wpS_lift (AF (C.lt _ _ g h bg bh ⟨rfl,At q⟩)))
def kO(C:Cm prog w A s k f N c)(R:Rp k f N st γ){i j g h:Nat}(ei:γ[i]?=some g)(ej:γ[j]?=some h){Q:Option Bool->SortSt->Prop}(q:Q (some (c g h)) st):wpS (model prog w) A E s (ltAt' i j) Q st:=by
 rw[ltAt'_eq];refine Ap (wpS_get ?_);dsimp only;rw[elem'_eq,elem'_eq,R.at ei,R.at ej];exact Ap (At (Ap (At (Ps C R.kind (R.bnd ei) (R.bnd ej) q))))
end
end TS
namespace TS
open PySem PyProof.Rows
def Sg(c:Nat->Nat->Bool)(γ:Array Nat)(lo hi:Nat):Prop:=∀i j g h,lo<=i->i<j->j<hi->γ[i]?=some g->γ[j]?=some h->Bf c g h
def Ow(γ:Array Nat)(lo hi:Nat):Prop:=∀i g,lo<=i->i<hi->γ[i]?=some g->lo<=g/\g<hi
def Raw(γ:Array Nat)(lo hi:Nat):Prop:=∀i,lo<=i->i<hi->γ[i]?=some i
def Out(γ γ':Array Nat)(lo hi:Nat):Prop:=∀i,i<lo\/hi<=i->γ'[i]?=γ[i]?
def Out.refl(γ:Array Nat)(lo hi:Nat):Out γ γ lo hi:=fun _ _=>rfl
section
variable {prog:Program}{w:World}{A:Around}{E:Value->Shared->Prop}{s:Shared}{k:SortKind}{f:Nat->Keyed}{N:Nat}{c:Nat->Nat->Bool}{st:SortSt}{γ:Array Nat}
def GE{γ:Array Nat}(h:i<γ.size):∃g,γ[i]?=some g:=⟨_,Yi h⟩
def mid(h:l<u):l<=(l+u) / 2/\(l+u) / 2<u:=by lia
def QK(h:u-l<=m-y)(h1:t<u)(h2:l<=t):t-l<=m-(y+1):=by lia
def QL(h:u-l<=m-y)(h1:l<=t)(h2:t<u):u-(t+1)<=m-(y+1):=by lia
inductive Bub(γ:Array Nat)(a b i g:Nat):Prop
 | at_ (h:i=a) (e:γ[b]?=some g)
 | mid (j:Nat) (h:i=j+1) (k:a<=j) (l:j<b) (e:γ[j]?=some g)
 | lo (h:i<a) (e:γ[i]?=some g)
 | hi (h:b<i)
def qh(e:(if i=a then γ[b]? else if a<i/\i<=b then γ[i-1]? else γ[i]?)=some g):Bub γ a b i g:=by
 by_cases h:i=a
 ·rw[Ag h]at e;exact .at_ h e
 ·rw[Aj h]at e;by_cases h2:a<i/\i<=b
  ·rw[Ag h2]at e;obtain⟨j,rfl⟩:=Nat.exists_eq_add_one_of_ne_zero (Bq (A4 (Xi _) h2.1));exact .mid j rfl (Nat.le_of_lt_succ h2.1) h2.2 e
  ·rw[Aj h2]at e;by_cases h3:i<a
   ·exact .lo h3 e
   ·exact .hi (BO fun z=>h2 ⟨Nat.lt_of_le_of_ne (BP h3) (Au h),z⟩)
def GF(hab:a<=b)(h:b<i):(if i=a then γ[b]? else if a<i/\i<=b then γ[i-1]? else γ[i]?)=γ[i]?:=by
 rw[Aj (Bq (A4 hab h)),Aj fun z=>CL h z.2]
def NH(h:i<a):(if i=a then γ[b]? else if a<i/\i<=b then γ[i-1]? else γ[i]?)=γ[i]?:=by
 rw[Aj (Qf h),Aj fun z=>Nat.lt_asymm h z.1]
def JX(C:Cm prog w A s k f N c)(R:Rp k f N st γ){lo n ok:Nat}(hn:lo+n<=N)(h1:1<=ok)(hok:ok<=n)(sg:Sg c γ lo (lo+ok))(ow:Ow γ lo (lo+ok))(raw:Raw γ (lo+ok) N)
  {Q:Bool->SortSt->Prop}(q:∀(x:Array Keyed)(γ':Array Nat),Rp k f N (setArr st x) γ'->Sg c γ' lo (lo+n)->Ow γ' lo (lo+n)->Raw γ' (lo+n) N->Out γ γ' lo (lo+n)->Q true (setArr st x)) :
  wpS (model prog w) A E s (binarySort' lo n ok) Q st:=by
 rw[binarySort'_eq]
 refine Ap (B7 (A7 (I:=fun m r st'=>r=(none,())/\∃x γ',st'=setArr st x/\Rp k f N st' γ'/\Sg c γ' lo (lo+m)/\Ow γ' lo (lo+m)/\Raw γ' (lo+m) N/\Out γ γ' lo (lo+m))
  (Q:=fun r st'=>r=(none,())/\∃x γ',st'=setArr st x/\Rp k f N st' γ'/\Sg c γ' lo (lo+n)/\Ow γ' lo (lo+n)/\Raw γ' (lo+n) N/\Out γ γ' lo (lo+n)) ?step ?fin ?init) ?post)
 case post=>
  rintro r st' ⟨rfl,x,γ',rfl,R',a1,a2,a3,a4⟩;exact At (q x γ' R' a1 a2 a3 a4)
 case init=>
  rw[show max ok 1=ok by lia]
  exact⟨rfl,arrOf st,γ,rfl,R,sg,ow,raw,Out.refl _ _ _⟩
 case fin=>
  rintro r st' h;rw[show max (max ok 1) n=n by lia]at h
  exact h
 case step=>
  rintro m r st' hm hmn ⟨rfl,x,γ',rfl,R',a1,a2,a3,a4⟩;have em:γ'[lo+m]?=some (lo+m):=a3 (lo+m) (Wb _) (by lia)
  refine Ap (B7 (A7 (I:=fun y r st''=>st''=setArr st x/\∃l u,r=(none,l,u)/\l<=u/\u<=m/\u-l<=m-y /\
    (∀i g,lo<=i->i<lo+l->γ'[i]?=some g->c (lo+m) g=false)/\(∀i g,lo+u<=i->i<lo+m->γ'[i]?=some g->c (lo+m) g=true))
   (Q:=fun r st''=>st''=setArr st x/\∃l u,r=(none,l,u)/\l<=m /\
    (∀i g,lo<=i->i<lo+l->γ'[i]?=some g->c (lo+m) g=false)/\(∀i g,lo+l<=i->i<lo+m->γ'[i]?=some g->c (lo+m) g=true)) ?istep ?ifin ?iinit) ?ipost)
  case iinit=>exact⟨rfl,0,m,rfl,by lia,by lia,by lia,fun i g p1 p2=>by lia,fun i g p1 p2=>by lia⟩
  case ifin=>
   rintro r st'' ⟨rfl,l,u,rfl,b1,b2,b3,b4,b5⟩;obtain rfl:l=u:=by lia
   exact⟨rfl,l,l,rfl,b2,b4,b5⟩
  case istep=>
   rintro y r st'' _ hy ⟨rfl,l,u,rfl,b1,b2,b3,b4,b5⟩;dsimp only;by_cases hge:l ≥ u
   ·refine sB hge ?_;obtain rfl:l=u:=by lia
    exact At ⟨rfl,l,l,rfl,b2,b4,b5⟩
   ·refine qg hge ?_;have hq:l<=(l+u) / 2/\(l+u) / 2<u:=mid (BO hge);generalize (l+u) / 2=t at hq;obtain⟨q1,q2⟩:=hq;have q3:t-l<=m-(y+1):=QK b3 q2 q1;have q4:u-(t+1)<=m-(y+1):=QL b3 q1 q2;obtain⟨g,eg⟩:=GE (γ:=γ') (i:=lo+t) (by rw[R'.size];lia)
    refine Ap (kO C R' em eg ?_);cases hc:c (lo+m) g with
    |true=>
     refine At ⟨rfl,l,t,rfl,q1,by lia,q3,b4,fun i g' p1 p2 e=>?_⟩
     by_cases hi:i=lo+t
     ·subst hi;rw[eg]at e;cases e;exact hc
     ·have bf:=a1 _ i g g' (by lia) (by lia) p2 eg e
      rcases C.neg _ g' _ hc with z|z
      ·exact z
      ·rw[C.le bf]at z;cases z
    |false=>
     refine At ⟨rfl,t+1,u,rfl,q2,b2,q4,fun i g' p1 p2 e=>?_,b5⟩;by_cases hi:i=lo+t
     ·subst hi;rw[eg]at e;cases e;exact hc
     ·have bf:=a1 i _ g' g p1 (by lia) (by lia) e eg
      exact C.letr (C.le bf) hc
  case ipost=>
   rintro r st'' ⟨rfl,l,u,rfl,b2,b4,b5⟩;show wpS _ _ _ _ (do moveDown' (lo+m) (lo+l);pure (ForInStep.yield (none,()))) _ _
   rw[moveDown'_eq];have hs:lo+m<γ'.size:=by rw[R'.size];lia
   have gb:=getElem?_bubble hs (lo+m-(lo+l)) (Nat.sub_le _ _);rw[Nat.sub_sub_self (Ym b2 lo)]at gb;refine Ap (wpS_modify (At ⟨rfl,bubble x (lo+m) (lo+m-(lo+l)),bubble γ' (lo+m) (lo+m-(lo+l)),rfl,R'.put (bubble_perm _ _ _) ?_,?_,?_,?_,?_⟩))
   ·rw[R'.arr,xi]
   ·intro i j g h p1 p2 p3 e1 e2;rw[gb]at e1 e2;cases qh e1 with
    |at_ y e1=>
     rw[em]at e1;cases e1;cases qh e2 with|at_ z e2=>lia|mid j' z z1 z2 e2=>exact .inl (b5 _ h z1 z2 e2)|lo z e2=>lia|hi z=>lia
    |mid i' y y1 y2 e1=>
     cases qh e2 with|at_ z e2=>lia|mid j' z z1 z2 e2=>exact a1 _ _ g h (Ve (Qm _ _) y1) (by lia) z2 e1 e2|lo z e2=>lia|hi z=>lia
    |lo y e1=>
     have ym:i<lo+m:=Vd y (Ym b2 lo);cases qh e2 with
     |at_ z e2=>
      rw[em]at e2;cases e2;exact .inr ⟨b4 i g p1 y e1,(a2 i g p1 ym e1).2⟩
     |mid j' z z1 z2 e2=>exact a1 i _ g h p1 (Vd y z1) z2 e1 e2
     |lo z e2=>exact a1 i j g h p1 p2 (Vd z (Ym b2 lo)) e1 e2
     |hi z=>lia
    |hi y=>lia
   ·intro i g p1 p2 e;rw[gb]at e;cases qh e with
    |at_ z e=>rw[em]at e;cases e;exact⟨Qm _ _,BN _⟩
    |mid j z z1 z2 e=>exact⟨(a2 _ g (Ve (Qm _ _) z1) z2 e).1,A9 (a2 _ g (Ve (Qm _ _) z1) z2 e).2⟩
    |lo z e=>
     have ym:i<lo+m:=Vd z (Ym b2 lo);exact⟨(a2 i g p1 ym e).1,A9 (a2 i g p1 ym e).2⟩
    |hi z=>lia
   ·intro i p1 p2;rw[gb,GF (Ym b2 lo) p1];exact a3 i (Br p1) p2
   ·intro i p;rw[gb];rcases p with p|p
    ·rw[NH (Vd p (Qm _ _))];exact a4 i (.inl p)
    ·rw[GF (Ym b2 lo) p];exact a4 i (.inr (Br p))
end
end TS
namespace TS
open PySem PyProof.Rows
section
variable {prog:Program}{w:World}{A:Around}{E:Value->Shared->Prop}{s:Shared}{k:SortKind}{f:Nat->Keyed}{N:Nat}{c:Nat->Nat->Bool}{st:SortSt}{γ:Array Nat}
def Sg.more(C:Cm prog w A s k f N c){lo n g h:Nat}(sg:Sg c γ lo n)(h1:lo<n)(e:γ[n-1]?=some g)(e':γ[n]?=some h)(b:Bf c g h):Sg c γ lo (n+1):=by
 intro i j g' h' p1 p2 p3 e1 e2;by_cases hj:j<n
 ·exact sg i j g' h' p1 p2 hj e1 e2
 ·obtain rfl:j=n:=by lia
  rw[e']at e2;cases e2;by_cases hi:i=j-1
  ·subst hi;rw[e]at e1;cases e1;exact b
  ·exact C.trans (sg i (j-1) g' g p1 (by lia) (by lia) e1 e) b
def vK(C:Cm prog w A s k f N c){lo x h:Nat}(sg:Sg c γ lo (lo+x))(ow:Ow γ lo (lo+x))(raw:Raw γ (lo+x) N)(h1:1<=x)(hx:lo+x<N)(e:γ[lo+x-1]?=some h)(hc:c (lo+x) h=false) :
  Sg c γ lo (lo+(x+1))/\Ow γ lo (lo+(x+1))/\Raw γ (lo+(x+1)) N:=by
 have en:=raw (lo+x) (Wb _) hx;refine⟨sg.more C (by lia) e en (.inr ⟨hc,(ow _ h (by lia) (by lia) e).2⟩),fun i g p1 p2 e1=>?_,fun i p1 p2=>raw i (by lia) p2⟩
 by_cases hi:i<lo+x
 ·have:=ow i g p1 hi e1;lia
 ·obtain rfl:i=lo+x:=by lia
  rw[en]at e1;cases e1;lia
structure Fl(c:Nat->Nat->Bool)(γ:Array Nat)(lo m n:Nat):Prop where
 le:lo<=m
 lt:m<n
 fall:∀i j g h,lo<=i->i<j->j<m->γ[i]?=some g->γ[j]?=some h->Bf c h g
 cross:∀i j g h,lo<=i->i<m->m<=j->j<n->γ[i]?=some g->γ[j]?=some h->c h g=true
 same:∀i j g h,m<=i->i<n->m<=j->j<n->γ[i]?=some g->γ[j]?=some h->c g h=false
 raw:Raw γ m n
 own:Ow γ lo n
def Fa(c:Nat->Nat->Bool)(γ:Array Nat)(lo n:Nat):Prop:=∀i j g h,lo<=i->i<j->j<n->γ[i]?=some g->γ[j]?=some h->Bf c h g
def lL(hn:n<=γ.size)(h1:a<=i)(h2:i<n):∃i',a<=i'/\i'<n/\i+i'+1=a+n/\(mirror γ a n ((n-a) / 2))[i]?=γ[i']? :=
 ⟨a+n-1-i,by lia,by lia,by lia,by rw[getElem?_mirror_all hn,Ag ⟨h1,h2⟩]⟩
def jf(hn:n<=γ.size)(h:i<a\/n<=i):(mirror γ a n ((n-a) / 2))[i]?=γ[i]?:=by
 rw[getElem?_mirror_all hn,Aj fun z=>h.elim (fun q=>CL q z.1) fun q=>CL z.2 q]
def D1{lo n:Nat}(fa:Fa c γ lo n)(hn:n<=γ.size):Sg c (mirror γ lo n ((n-lo) / 2)) lo n:=by
 intro i j g h p1 p2 p3 e1 e2;obtain⟨i',a1,a2,a3,a4⟩:=lL (γ:=γ) hn p1 (BW p2 p3);obtain⟨j',b1,b2,b3,b4⟩:=lL (γ:=γ) hn (Ve p1 (Br p2)) p3;exact fa j' i' h g b1 (by lia) a2 (b4 ▸ e2) (a4 ▸ e1)
def kP{lo a n:Nat}(ow:Ow γ lo n)(ha:lo<=a)(hn:n<=γ.size):Ow (mirror γ a n ((n-a) / 2)) lo n:=by
 intro i g p1 p2 e;by_cases hi:a<=i
 ·obtain⟨i',a1,a2,a3,a4⟩:=lL (γ:=γ) hn hi p2;exact ow i' g (Ve ha a1) a2 (a4 ▸ e)
 ·rw[jf hn (.inl (BO hi))]at e;exact ow i g p1 p2 e
def gE(raw:Raw γ n m)(hn:n<=γ.size):Raw (mirror γ a n ((n-a) / 2)) n m:=by
 intro i p1 p2;rw[jf hn (.inr p1)];exact raw i p1 p2
def jg{lo a n:Nat}{γ':Array Nat}(o:Out γ γ' lo n)(ha:lo<=a)(hn:n<=γ'.size):Out γ (mirror γ' a n ((n-a) / 2)) lo n:=by
 intro i p;rw[jf hn (p.imp (fun q=>Vd q ha) id)];exact o i p
def Out.wide{lo n n':Nat}{γ':Array Nat}(o:Out γ γ' lo n)(h:n<=n'):Out γ γ' lo n':=fun i p=>o i (by lia)
def Fl.turn{lo m n:Nat}(F:Fl c γ lo m n)(hn:n<=γ.size):Fa c (mirror γ m n ((n-m) / 2)) lo n:=by
 intro i j g h p1 p2 p3 e1 e2;by_cases hj:j<m
 ·rw[jf hn (.inl (BW p2 hj))]at e1;rw[jf hn (.inl hj)]at e2;exact F.fall i j g h p1 p2 hj e1 e2
 obtain⟨j',b1,b2,b3,b4⟩:=lL (γ:=γ) hn (BP hj) p3;rw[b4]at e2;by_cases hi:i<m
 ·rw[jf hn (.inl hi)]at e1;exact .inl (F.cross i j' g h p1 hi b1 b2 e1 e2)
 ·obtain⟨i',a1,a2,a3,a4⟩:=lL (γ:=γ) hn (BP hi) (BW p2 p3);rw[a4]at e1;refine .inr ⟨F.same i' j' g h a1 a2 b1 b2 e1 e2,?_⟩;rw[F.raw i' a1 a2]at e1;rw[F.raw j' b1 b2]at e2;cases e1;cases e2;lia
def Fl.fa1{lo m:Nat}(F:Fl c γ lo m (m+1)):Fa c γ lo (m+1):=by
 intro i j g h p1 p2 p3 e1 e2;by_cases hj:j<m
 ·exact F.fall i j g h p1 p2 hj e1 e2
 ·exact .inl (F.cross i j g h p1 (by lia) (by lia) p3 e1 e2)
def Fa.next(C:Cm prog w A s k f N c){lo n g:Nat}(fa:Fa c γ lo n)(ow:Ow γ lo n)(raw:Raw γ n N)(hl:lo<n)(hn:n<N)(z:∀i g,lo<=i->i<n->γ[i]?=some g->c n g=true):Fl c γ lo n (n+1):=by
 have en:=raw n (Wb _) hn;refine⟨by lia,by lia,fa,fun i j g h p1 p2 p3 p4 e1 e2=>?_,fun i j g h p1 p2 p3 p4 e1 e2=>?_,fun i p1 p2=>raw i p1 (by lia),fun i g p1 p2 e=>?_⟩
 ·obtain rfl:j=n:=by lia
  rw[en]at e2;cases e2;exact z i g p1 p2 e1
 ·obtain rfl:i=n:=by lia
  obtain rfl:j=i:=by lia
  rw[en]at e1 e2;cases e1;cases e2;exact C.irr _
 ·by_cases hi:i<n
  ·have:=ow i g p1 hi e;lia
  ·obtain rfl:i=n:=by lia
   rw[en]at e;cases e;lia
def Fl.more(C:Cm prog w A s k f N c){lo m n:Nat}(F:Fl c γ lo m n)(raw:Raw γ n N)(hn:n<N)(z1:c n (n-1)=false)(z2:c (n-1) n=false):Fl c γ lo m (n+1):=by
 have en:=raw n (Wb _) hn;have ep:=F.raw (n-1) (by have:=F.lt;lia) (by have:=F.lt;lia)
 have hlt:=F.lt;have hle:=F.le;refine⟨hle,by lia,F.fall,fun i j g h p1 p2 p3 p4 e1 e2=>?_,fun i j g h p1 p2 p3 p4 e1 e2=>?_,fun i p1 p2=>?_,fun i g p1 p2 e=>?_⟩
 ·by_cases hj:j<n
  ·exact F.cross i j g h p1 p2 p3 hj e1 e2
  ·obtain rfl:j=n:=by lia
   rw[en]at e2;cases e2;rcases C.neg _ j _ (F.cross i (j-1) g (j-1) p1 p2 (by lia) (by lia) e1 ep) with q|q
   ·rw[z2]at q;cases q
   ·exact q
 ·have key:∀a g,m<=a->a<n+1->γ[a]?=some g->c g (n-1)=false/\c (n-1) g=false:=by
   intro a g q1 q2 e;by_cases ha:a<n
   ·exact⟨F.same a (n-1) g (n-1) q1 ha (by lia) (by lia) e ep,F.same (n-1) a (n-1) g (by lia) (by lia) q1 ha ep e⟩
   ·obtain rfl:a=n:=by lia
    rw[en]at e;cases e;exact⟨z1,z2⟩
  exact C.letr (key j h p3 p4 e2).2 (key i g p1 p2 e1).1
 ·by_cases hi:i<n
  ·exact F.raw i p1 hi
  ·exact raw i (by lia) (by lia)
 ·by_cases hi:i<n
  ·have:=F.own i g p1 hi e;lia
  ·obtain rfl:i=n:=by lia
   rw[en]at e;cases e;lia
def Fl.below(C:Cm prog w A s k f N c){lo m n x:Nat}(F:Fl c γ lo m n)(z:c x (n-1)=true):∀i g,lo<=i->i<n->γ[i]?=some g->c x g=true:=by
 have hlt:=F.lt;have ep:=F.raw (n-1) (by lia) (by lia)
 intro i g p1 p2 e;rcases C.neg x g _ z with q|q
 ·exact q
 ·by_cases hi:i<m
  ·exact absurd (F.cross i (n-1) g (n-1) p1 hi (by lia) (by lia) e ep) (by rw[C.asy q];exact Bool.noConfusion)
  ·rw[F.same i (n - 1) g (n - 1) (by lia) p2 (by lia) (by lia) e ep]at q;cases q
def Rn(k:SortKind)(f:Nat->Keyed)(N:Nat)(c:Nat->Nat->Bool)(lo:Nat)(st:SortSt)(γ:Array Nat)(n:Nat)(st':SortSt):Prop :=
 ∃x γ',st'=setArr st x/\Rp k f N st' γ'/\Sg c γ' lo (lo+n)/\Ow γ' lo (lo+n)/\Raw γ' (lo+n) N/\Out γ γ' lo (lo+n)
def vL(lo n nrem:Nat):StateT SortSt Sem (Option Nat):=do
 reverseSlice' lo (lo+n)
 let r <-forIn [n:nrem] ((none,n):Option (Option Nat)×Nat) fun _ r=>do
  match <-ltAt' (lo+r.2) (lo+r.2-1) with|some smaller=>if smaller=true then pure (ForInStep.done (none,r.2)) else pure (ForInStep.yield (none,r.2+1))|_=>pure (ForInStep.done (some none,r.2))
 match r.1 with|some z=>pure z|none=>pure (some r.2)
def qi(lo x nrem:Nat):StateT SortSt Sem (Option Nat):=do
 liftM (rule "list.sort.descending-run")
 let r <-forIn [x+1:nrem] ((none,x+1,0):Option (Option Nat)×Nat×Nat) fun _ r=>do
  match <-ltAt' (lo+r.2.1) (lo+r.2.1-1) with
  |some smaller=>
   if smaller=true then
    if r.2.2 > 0 then do
     reverseSlice' (lo+r.2.1-(r.2.2+1)) (lo+r.2.1)
     pure (ForInStep.yield (none,r.2.1+1,0))
    else pure (ForInStep.yield (none,r.2.1+1,0))
   else do
    match <-ltAt' (lo+r.2.1-1) (lo+r.2.1) with|some larger=>if larger=true then pure (ForInStep.done (none,r.2.1,r.2.2)) else pure (ForInStep.yield (none,r.2.1+1,r.2.2+1))|_=>pure (ForInStep.done (some none,r.2.1,r.2.2))
  |_=>pure (ForInStep.done (some none,r.2.1,r.2.2))
 match r.1 with
 |some z=>pure z
 |none=>
  if r.2.2 > 0 then do
   reverseSlice' (lo+r.2.1-(r.2.2+1)) (lo+r.2.1)
   vL lo r.2.1 nrem
  else vL lo r.2.1 nrem
def t8(h:Q () (setArr st (mirror (arrOf st) i j ((j-i) / 2)))):wpS (model prog w) A E s (reverseSlice' i j) Q st:=by
 rw[reverseSlice'_eq];exact wpS_modify h
def yV(C:Cm prog w A s k f N c){st₀:SortSt}{γ₀:Array Nat}{lo n:Nat}{y:Array Keyed}(R:Rp k f N (setArr st₀ y) γ)(h1:1<=n)(hn:lo+n<=N)(fa:Fa c γ lo (lo+n))(ow:Ow γ lo (lo+n))(raw:Raw γ (lo+n) N)(out:Out γ₀ γ lo (lo+n))
  {Q:Option Nat->SortSt->Prop}(q:∀n st',1<=n->lo+n<=N->Rn k f N c lo st₀ γ₀ n st'->Q (some n) st'):wpS (model prog w) A E s (vL lo n (N-lo)) Q (setArr st₀ y):=by
 have hs:lo+n<=γ.size:=by rw[R.size];exact hn
 refine Ap (t8 ?_);have R1:Rp k f N (setArr st₀ (mirror y lo (lo+n) ((lo+n-lo) / 2))) (mirror γ lo (lo+n) ((lo+n-lo) / 2)):=R.put (mirror_perm _ _ _ _) (by rw[show y=γ.map f from R.arr,je])
 have sg:=D1 fa hs;have ow':=kP ow (Wb lo) hs;have raw':=gE (a:=lo) raw hs;have out':=jg out (Wb lo) hs;generalize mirror γ lo (lo+n) ((lo+n-lo) / 2)=δ at R1 sg ow' raw' out';generalize mirror y lo (lo+n) ((lo+n-lo) / 2)=y' at R1
 refine Ap (B7 (A7 (I:=fun x r st'=>st'=setArr st₀ y'/\r=(none,x)/\n<=x/\lo+x<=N/\Sg c δ lo (lo+x)/\Ow δ lo (lo+x)/\Raw δ (lo+x) N)
  (Q:=fun r st'=>st'=setArr st₀ y'/\∃x,r=(none,x)/\n<=x/\lo+x<=N/\Sg c δ lo (lo+x)/\Ow δ lo (lo+x)/\Raw δ (lo+x) N) ?step ?fin ?init) ?post)
 case init=>exact⟨rfl,rfl,Wb _,hn,sg,ow',raw'⟩
 case fin=>
  rintro r st' ⟨rfl,rfl,b1,b2,b3,b4,b5⟩;exact⟨rfl,_,rfl,b1,b2,b3,b4,b5⟩
 case step=>
  rintro x r st' p1 p2 ⟨rfl,rfl,b1,b2,b3,b4,b5⟩;dsimp only;have en:=b5 (lo+x) (by lia) (by lia)
  obtain⟨g,ep⟩:=GE (γ:=δ) (i:=lo+x-1) (by rw[R1.size];lia)
  refine Ap (kO C R1 en ep ?_);cases hc:c (lo+x) g with
  |true=>exact At ⟨rfl,x,rfl,b1,b2,b3,b4,b5⟩
  |false=>
   obtain⟨a1,a2,a3⟩:=vK C b3 b4 b5 (by lia) (by lia) ep hc
   exact At ⟨rfl,rfl,by lia,by lia,a1,a2,a3⟩
 case post=>
  rintro r st' ⟨rfl,x,rfl,b1,b2,b3,b4,b5⟩;exact At (q x _ (by lia) b2 ⟨y',δ,rfl,R1,b3,b4,b5,out'.wide (by lia)⟩)
def yW(C:Cm prog w A s k f N c){st₀:SortSt}{γ₀:Array Nat}{lo x:Nat}{y:Array Keyed}(R:Rp k f N (setArr st₀ y) γ)(hx:lo+x<N)(F:Fl c γ lo (lo+x) (lo+x+1))(raw:Raw γ (lo+x+1) N)(out:Out γ₀ γ lo (lo+x+1))
  {Q:Option Nat->SortSt->Prop}(q:∀n st',1<=n->lo+n<=N->Rn k f N c lo st₀ γ₀ n st'->Q (some n) st'):wpS (model prog w) A E s (qi lo x (N-lo)) Q (setArr st₀ y):=by
 refine Ap (wpS_lift (AW ⟨rfl,?_⟩))
 refine Ap (B7 (A7 (I:=fun n r st'=>∃e y' δ,r=(none,n,e)/\st'=setArr st₀ y'/\Rp k f N (setArr st₀ y') δ/\e+1<=n/\lo+n<=N/\Fl c δ lo (lo+n-(e+1)) (lo+n)/\Raw δ (lo+n) N/\Out γ₀ δ lo (lo+n))
  (Q:=fun r st'=>∃n e y' δ,r=(none,n,e)/\st'=setArr st₀ y'/\Rp k f N (setArr st₀ y') δ/\e+1<=n/\lo+n<=N/\Fl c δ lo (lo+n-(e+1)) (lo+n)/\Raw δ (lo+n) N/\Out γ₀ δ lo (lo+n)) ?step ?fin ?init) ?post)
 case init=>exact⟨0,y,γ,rfl,rfl,R,by lia,by lia,F,raw,out⟩
 case fin=>
  rintro r st' ⟨e,y',δ,h⟩;exact⟨_,e,y',δ,h⟩
 case step=>
  rintro n r st' p1 p2 ⟨e,y',δ,rfl,rfl,R1,b1,b2,F1,raw1,out1⟩;dsimp only;have en:=raw1 (lo+n) (Wb _) (by lia)
  have s1:1<=lo+n:=by lia
  have ep:=F1.raw (lo+n-1) (Nat.sub_le_sub_left (CK (Xi e)) _) (Nat.sub_lt s1 Nat.one_pos);have hs:lo+n<=δ.size:=by rw[R1.size];exact b2
  refine Ap (kO C R1 en ep ?_);cases hc:c (lo+n) (lo+n-1) with
  |true=>
   dsimp only;refine sB rfl ?_;have bl:=F1.below C hc;by_cases he:e > 0
   ·refine sB he ?_;refine Ap (t8 (At ?_));have fa:=F1.turn hs;have ow':=kP F1.own F1.le hs;have raw':=gE (a:=lo+n-(e+1)) raw1 hs;have out':=jg out1 F1.le hs;refine⟨0,_,mirror δ (lo+n-(e+1)) (lo+n) ((lo+n-(lo+n-(e+1))) / 2),rfl,rfl,R1.put (mirror_perm _ _ _ _) (by rw[show arrOf (setArr st₀ y')=δ.map f from R1.arr,je]),by lia,by lia,?_,fun i q1 q2=>raw' i (by lia) q2,out'.wide (by lia)⟩
    refine fa.next C (g:=0) ow' raw' (by lia) (by lia) fun i g q1 q2 e1=>?_
    by_cases hi:lo+n-(e+1)<=i
    ·obtain⟨i',a1,a2,_,a4⟩:=lL (γ:=δ) hs hi q2;exact bl i' g (Ve F1.le a1) a2 (a4 ▸ e1)
    ·rw[jf hs (.inl (BO hi))]at e1;exact bl i g q1 q2 e1
   ·obtain rfl:e=0:=by lia
    refine qg he ?_;have F2:Fl c δ lo (lo+n-1) (lo+n-1+1):=by rw[Bv s1];exact F1
    have fa:=F2.fa1;rw[Bv s1]at fa;exact At ⟨0,y',δ,rfl,rfl,R1,by lia,by lia,fa.next C (g:=0) F1.own raw1 (by lia) (by lia) bl,fun i q1 q2=>raw1 i (by lia) q2,out1.wide (by lia)⟩
  |false=>
   dsimp only;refine qg Bool.noConfusion ?_;refine Ap (kO C R1 ep en ?_);cases hc2:c (lo+n-1) (lo+n) with
   |true=>exact At ⟨n,e,y',δ,rfl,rfl,R1,b1,b2,F1,raw1,out1⟩
   |false=>
    refine At ⟨e+1,y',δ,rfl,rfl,R1,by lia,by lia,?_,fun i q1 q2=>raw1 i (by lia) q2,out1.wide (by lia)⟩
    rw[show lo+(n+1) - (e+1+1)=lo+n - (e+1) from Nat.succ_sub_succ _ _];exact F1.more C raw1 (by lia) hc hc2
 case post=>
  rintro r st' ⟨n,e,y',δ,rfl,rfl,R1,b1,b2,F1,raw1,out1⟩;have hs:lo+n<=δ.size:=by rw[R1.size];exact b2
  have s1:1<=lo+n:=by lia
  dsimp only;by_cases he:e > 0
  ·refine sB he ?_;refine Ap (t8 ?_);exact yV C (γ:=mirror δ (lo+n-(e+1)) (lo+n) ((lo+n-(lo+n-(e+1))) / 2)) (R1.put (mirror_perm _ _ _ _) (by rw[show arrOf (setArr st₀ y')=δ.map f from R1.arr,je])) (by lia) b2 (F1.turn hs) (kP F1.own F1.le hs) (gE (a:=lo+n-(e+1)) raw1 hs) (jg out1 F1.le hs) q
  ·obtain rfl:e=0:=by lia
   refine qg he ?_;have F2:Fl c δ lo (lo+n-1) (lo+n-1+1):=by rw[Bv s1];exact F1
   have fa:=F2.fa1;rw[Bv s1]at fa;exact yV C R1 (by lia) b2 fa F1.own raw1 out1 q
def NI(C:Cm prog w A s k f N c)(R:Rp k f N st γ){lo:Nat}(hl:lo<N)(raw:Raw γ lo N)
  {Q:Option Nat->SortSt->Prop}(q:∀n st',1<=n->lo+n<=N->Rn k f N c lo st γ n st'->Q (some n) st'):wpS (model prog w) A E s (countRun' lo (N-lo)) Q st:=by
 rw[countRun'_eq];have sg1:Sg c γ lo (lo+1):=fun i j g h p1 p2 p3=>by lia
 have ow1:Ow γ lo (lo+1):=fun i g p1 p2 e=>by
  obtain rfl:i=lo:=by lia
  rw[raw i (Wb _) hl]at e;cases e;lia
 refine Ap (B7 (A7 (I:=fun x r st'=>st'=st/\r=(none,x)/\1<=x/\lo+x<=N/\Sg c γ lo (lo+x)/\Ow γ lo (lo+x)/\∀i g h,lo<=i->i+1<lo+x->γ[i]?=some g->γ[i+1]?=some h->c h g=false)
  (Q:=fun r st'=>st'=st/\∃x,r=(none,x)/\1<=x/\lo+x<=N/\Sg c γ lo (lo+x)/\Ow γ lo (lo+x)/\(lo+x=N\/c (lo+x) (lo+x-1)=true)) ?step ?fin ?init) ?post)
 case init=>exact⟨rfl,rfl,by lia,by lia,sg1,ow1,fun i g h p1 p2=>by lia⟩
 case fin=>
  rintro r st' ⟨rfl,rfl,b1,b2,b3,b4,b5⟩;exact⟨rfl,_,rfl,b1,b2,b3,b4,.inl (by lia)⟩
 case step=>
  rintro x r st' p1 p2 ⟨rfl,rfl,b1,b2,b3,b4,b5⟩;dsimp only;have en:=raw (lo+x) (by lia) (by lia)
  have ep:=raw (lo+x-1) (by lia) (by lia)
  refine Ap (kO C R en ep ?_);cases hc:c (lo+x) (lo+x-1) with
  |true=>exact At ⟨rfl,x,rfl,b1,b2,b3,b4,.inr hc⟩
  |false=>
   obtain⟨a1,a2,_⟩:=vK C b3 b4 (fun i q1 q2=>raw i (by lia) q2) b1 (by lia) ep hc
   refine At ⟨rfl,rfl,by lia,by lia,a1,a2,fun i g h q1 q2 e1 e2=>?_⟩
   rw[raw i q1 (by lia)]at e1
   rw[raw (i+1) (by lia) (by lia)]at e2
   cases e1;cases e2;by_cases hi:i+1<lo+x
   ·exact b5 i i (i+1) q1 hi (raw _ q1 (by lia)) (raw _ (by lia) (by lia))
   ·obtain rfl:i=lo+x-1:=by lia
    rw[show lo+x - 1+1=lo+x by lia];exact hc
 case post=>
  rintro r st' ⟨rfl,x,rfl,b1,b2,b3,b4,b6⟩;dsimp only;by_cases hx:lo+x=N
  ·refine sB (by simp;lia) ?_
   exact At (q x _ b1 b2 ⟨_,γ,rfl,R,b3,b4,fun i q1 q2=>raw i (by lia) q2,Out.refl _ _ _⟩)
  ·refine qg (by simp;lia) ?_
   have hc:c (lo+x) (lo+x-1)=true:=b6.resolve_left hx;have hs:lo+x<=γ.size:=by rw[R.size];exact b2
   have raw':Raw γ (lo+x) N:=fun i q1 q2=>raw i (by lia) q2
   by_cases h1:x > 1
   ·refine sB h1 ?_;refine Ap (kO C R (raw lo (Wb _) hl) (raw (lo+x-1) (by lia) (by lia)) ?_)
    cases hr:c lo (lo+x-1) with
    |true=>exact At (q x _ b1 b2 ⟨_,γ,rfl,R,b3,b4,raw',Out.refl _ _ _⟩)
    |false=>
     dsimp only;refine qg Bool.noConfusion ?_;have le:∀a b,lo<=a->a<lo+x->lo<=b->b<lo+x->a<=b->c b a=false:=fun a b p1 p2 p3 p4 p5=>by
      by_cases ab:a=b
      ·subst ab;exact C.irr _
      ·exact C.le (b3 a b a b p1 (by lia) p4 (raw a p1 (by lia)) (raw b p3 (by lia)))
     have al:∀a b,lo<=a->a<lo+x->lo<=b->b<lo+x->c a b=false:=fun a b p1 p2 p3 p4=>by
      by_cases ab:b<=a
      ·exact le b a p3 p4 p1 p2 ab
      ·cases hab:c a b with
       |false=>rfl
       |true=>
        rcases C.neg a lo b hab with z|z
        ·rw[le lo a (Wb _) (by lia) p1 p2 p1]at z;exact z.symm
        ·rcases C.neg lo (lo+x-1) b z with z|z
         ·rw[hr]at z;exact z.symm
         ·rw[le b (lo+x - 1) p3 p4 (by lia) (by lia) (by lia)]at z;exact z.symm
     have F0:Fl c γ lo lo (lo+x):=⟨Wb _,by lia,fun i j g h p1 p2 p3=>by lia,fun i j g h p1 p2=>by lia,fun i j g h p1 p2 p3 p4 e1 e2=>by
      rw[raw i p1 (by lia)]at e1
      rw[raw j p3 (by lia)]at e2
      cases e1;cases e2
      exact al i j p1 p2 p3 p4,fun i p1 p2=>raw i p1 (by lia),b4⟩
     refine Ap (t8 ?_);refine(show ∀{m:StateT SortSt Sem (Option Nat)}{t:SortSt},m=qi lo x (N-lo)->wpS (model prog w) A E s (qi lo x (N-lo)) Q t->wpS (model prog w) A E s m Q t from fun e h=>e ▸ h) ?_
      (yW C (st₀:=st') (γ₀:=γ) (γ:=mirror γ lo (lo+x) ((lo+x-lo) / 2)) (R.put (mirror_perm _ _ _ _) (by rw[R.arr,je])) (by lia)
       ((F0.turn hs).next C (g:=0) (kP b4 (Wb _) hs) (gE (a:=lo) raw' hs) (by lia) (by lia) fun i g p1 p2 e=>?_) (fun i q1 q2=>gE (a:=lo) raw' hs i (by lia) q2) ((jg (Out.refl γ lo (lo+x)) (Wb _) hs).wide (by lia)) q)
     ·unfold qi vL;congr 1;funext _v;congr 1;funext z;obtain⟨z1,z2,z3⟩:=z;cases z1 with
      |some z1=>rfl
      |none=>
       dsimp only;split
       ·congr 1;funext _y;congr 1;funext _u;congr 1;funext z;obtain⟨z1,z2⟩:=z;cases z1<;>rfl
       ·congr 1;funext _u;congr 1;funext z;obtain⟨z1,z2⟩:=z;cases z1<;>rfl
     ·obtain⟨i',a1,a2,_,a4⟩:=lL (γ:=γ) hs p1 p2;exact F0.below C hc i' g a1 a2 (a4 ▸ e)
   ·obtain rfl:x=1:=by lia
    refine qg h1 ?_;have fa:Fa c γ lo (lo+1):=fun i j g h p1 p2 p3=>by lia
    refine(show ∀{m:StateT SortSt Sem (Option Nat)},m=qi lo 1 (N-lo)->wpS (model prog w) A E s (qi lo 1 (N-lo)) Q st'->wpS (model prog w) A E s m Q st' from fun e h=>e ▸ h) ?_ (yW C (st₀:=st') (y:=arrOf st') (γ₀:=γ) (γ:=γ) R (by lia) (fa.next C (g:=0) b4 raw' (by lia) (by lia) fun i g p1 p2 e=>?_) (fun i q1 q2=>raw i (by lia) q2) (Out.refl _ _ _) q)
    ·unfold qi vL;congr 1;funext _v;congr 1;funext z;obtain⟨z1,z2,z3⟩:=z;cases z1 with
     |some z1=>rfl
     |none=>
      dsimp only;split
      ·congr 1;funext _y;congr 1;funext _u;congr 1;funext z;obtain⟨z1,z2⟩:=z;cases z1<;>rfl
      ·congr 1;funext _u;congr 1;funext z;obtain⟨z1,z2⟩:=z;cases z1<;>rfl
    obtain rfl:i=lo:=by lia
    rw[raw i (Wb _) hl]at e;cases e;exact hc
end
end TS
namespace TS
open PySem PyProof.Rows
def QM:StateT SortSt Sem Unit:=sortPriv% PySem.Builtin.sortRuns
section
variable {prog:Program}{w:World}{A:Around}{E:Value->Shared->Prop}{s:Shared}{k:SortKind}{f:Nat->Keyed}{N:Nat}{c:Nat->Nat->Bool}{st:SortSt}{γ:Array Nat}
def NJ(C:Cm prog w A s k f N c)(R:Rp k f N st γ){lo n ok:Nat}(hn:lo+n<=N)(h1:1<=ok)(hok:ok<=n)(sg:Sg c γ lo (lo+ok))(ow:Ow γ lo (lo+ok))(raw:Raw γ (lo+ok) N)
  {Q:Bool->SortSt->Prop}(q:∀(x:Array Keyed)(γ':Array Nat),Rp k f N (setArr st x) γ'->Sg c γ' lo (lo+n)->Ow γ' lo (lo+n)->Raw γ' (lo+n) N->Out γ γ' lo (lo+n)->Q true (setArr st x)) :
  wpS (model prog w) A E s ((sortPriv% PySem.Builtin.binarySort) lo n ok) Q st:=JX C R hn h1 hok sg ow raw q
def NK(C:Cm prog w A s k f N c)(R:Rp k f N st γ){lo:Nat}(hl:lo<N)(raw:Raw γ lo N)
  {Q:Option Nat->SortSt->Prop}(q:∀n st',1<=n->lo+n<=N->Rn k f N c lo st γ n st'->Q (some n) st'):wpS (model prog w) A E s ((sortPriv% PySem.Builtin.countRun) lo (N-lo)) Q st:=NI C R hl raw q
def yX(h64:N<64)(C:Cm prog w A s k f N c)(R:Rp k f N st γ)(hp:pendingOf st=#[])(raw:Raw γ 0 N){Q:Unit->SortSt->Prop}(q:∀st' γ',Rp k f N st' γ'->Sg c γ' 0 N->Q ⟨⟩ st'):wpS (model prog w) A E s QM Q st:=by
 have hsz:((sortPriv% PySem.Builtin.SortState.a) st).size=N:=by
  have:=congrArg Array.size R.arr;rw[C2,R.size]at this;exact this
 have hmin:(sortPriv% PySem.Builtin.minRun) N N 0=N:=by
  cases N with
  |zero=>rfl
  |succ m=>
   show minRun' (m+1) (m+1) 0=m+1;rw[minRun'_succ,Ag h64]
 refine Ap (wpS_get ?_);dsimp only;rw[hsz,hmin]
 refine Ap (B7 (A7 (I:=fun x r st'=>(r=(none,0)/\st'=st/\x=0)\/(r=(none,N)/\(pendingOf st').size<=1/\∃γ',Rp k f N st' γ'/\Sg c γ' 0 N))
  (Q:=fun r st'=>r.1=none/\(pendingOf st').size<=1/\∃γ',Rp k f N st' γ'/\Sg c γ' 0 N) ?step ?fin ?init) ?post)
 case init=>exact .inl ⟨rfl,rfl,rfl⟩
 case fin=>
  rintro r st' (⟨rfl,rfl,hx⟩|⟨rfl,hz,γ',R',g'⟩)
  ·have hN:N=0:=by lia
   subst hN;exact⟨rfl,by rw[hp];exact Xi _,γ,R,fun i j g h z1 z2 z3=>by lia⟩
  ·exact⟨rfl,hz,γ',R',g'⟩
 case step=>
  rintro x r st' _ hxN (⟨rfl,rfl,hx⟩|⟨rfl,hz,γ',R',g'⟩)
  ·dsimp only;have hpos:0<N:=by lia
   rw[Aj (by lia)]
   refine Ap (NK C R hpos raw fun n st1 hn1 hn2 rn=>?_);obtain⟨xa,γ1,hst1,R1,sg1,ow1,raw1,out1⟩:=rn;have pd1:pendingOf st1=#[]:=by rw[hst1];exact hp
   dsimp only;by_cases hm:n<N
   ·rw[Ag hm];refine Ap (wpS_lift (AW ⟨rfl,?_⟩));rw[show min (N - 0) N=N by lia]
    refine Ap (NJ C R1 (n:=N) (by lia) hn1 (by lia) sg1 ow1 raw1 fun xb γ2 R2 sg2 ow2 raw2 out2=>?_)
    rw[Aj (by decide)]
    refine Ap (wpS_get ?_);have hb:((sortPriv% PySem.Builtin.SortState.pending) (setArr st1 xb)).back?=none:=by
     show(pendingOf st1).back?=none;rw[pd1];rfl
    rw[hb];refine Ap (wpS_modify (At (.inr ⟨by rw[A8],?_,γ2,⟨R2.arr,R2.kind,R2.fine,R2.perm⟩,by rw[A8]at sg2;exact sg2⟩)))
    show((pendingOf st1).push _).size<=1;rw[pd1];exact Wb _
   ·rw[Aj hm];obtain rfl:n=N:=by lia
    refine Ap (wpS_get ?_);have hb:((sortPriv% PySem.Builtin.SortState.pending) st1).back?=none:=by
     show(pendingOf st1).back?=none;rw[pd1];rfl
    rw[hb];refine Ap (wpS_modify (At (.inr ⟨by rw[A8],?_,γ1,⟨R1.arr,R1.kind,R1.fine,R1.perm⟩,by rw[A8]at sg1;exact sg1⟩)))
    show((pendingOf st1).push _).size<=1;rw[pd1];exact Wb _
  ·dsimp only;rw[Ag (Wb N)];exact At ⟨rfl,hz,γ',R',g'⟩
 case post=>
  rintro⟨r1,r2⟩ st' ⟨hr,hz,γ',R',g'⟩;dsimp only at hr;subst hr;dsimp only;refine Ap (B7 (A7 (I:=fun _ r st2=>r=(none,())/\st2=st') (Q:=fun r st2=>r=(none,())/\st2=st') ?step3 ?fin3 ?init3) ?post3)
  case init3=>exact⟨rfl,rfl⟩
  case fin3=>exact fun r st2 h=>h
  case step3=>
   rintro y r st2 _ _ ⟨rfl,rfl⟩;refine Ap (wpS_get ?_);rw[Ag (show((sortPriv% PySem.Builtin.SortState.pending) st2).size<=1 from hz)];exact At ⟨rfl,rfl⟩
  case post3=>
   rintro r st2 ⟨rfl,rfl⟩;exact At (q st2 γ' R' g')
end
end TS
namespace VF
open PySem L2
open Classical in
noncomputable def ltL(lt:D->D->Bool):List D->List D->Bool
 |[],[]=>false
 |[],_::_=>true
 |_::_,[]=>false
 |x::xs,y::ys=>if x=y then ltL lt xs ys else lt x y
noncomputable def ltN:Nat->D->D->Bool
 |0,_,_=>false
 |_+1,.int i,.int j=>decide (i<j)
 |_+1,.str x,.str y=>decide (x.cps.toList<y.cps.toList)
 |n+1,.tup xs,.tup ys=>ltL (ltN n) xs ys
 |_+1,_,_=>false
def Cp:Nat->D->D->Prop|0,_,_=>False|_+1,.int _,.int _=>True|_+1,.str _,.str _=>True|n+1,.tup xs,.tup ys=>∀(i:Nat) x y,xs[i]?=some x->ys[i]?=some y->Cp n x y|_+1,_,_=>False
theorem yY:∀(xs:List D),ltL lt xs xs=false
 |[]=>rfl
 | x::xs=>by
  unfold ltL;rw[Ag rfl];exact yY xs
theorem pq:∀(n:Nat)(a:D),ltN n a a=false
 |0,_=>rfl
 | n+1,a=>by
  cases a with|int i=>exact Af (Db i)|str x=>exact Af (List.lt_irrefl _)|tup xs=>exact yY xs|_=>rfl
structure Or(n:Nat):Prop where
 tri:∀{a b:D},Cp n a b->a=b\/ltN n a b=true\/ltN n b a=true
 tra:∀{a b c:D},Cp n a b->Cp n b c->Cp n a c->ltN n a b=true->ltN n b c=true->ltN n a c=true
abbrev Cl(n:Nat)(xs ys:List D):Prop:=∀(i:Nat) x y,xs[i]?=some x->ys[i]?=some y->Cp n x y
def Cl.tail(h:Cl n (x::xs) (y::ys)):Cl n xs ys:=fun i a b e1 e2=>h (i+1) a b (by simpa using e1) (by simpa using e2)
def Cl.head(h:Cl n (x::xs) (y::ys)):Cp n x y:=h 0 x y rfl rfl
open Classical in
def bJ:ltL lt (x::xs) (x::ys)=ltL lt xs ys:=by
 show(if x=x then ltL lt xs ys else lt x x)=_;rw[Ag rfl]
open Classical in
def bj(h:x≠y):ltL lt (x::xs) (y::ys)=lt x y:=by
 show(if x=y then ltL lt xs ys else lt x y)=_;rw[Aj h]
theorem yZ(O:Or n):∀{xs ys:List D},Cl n xs ys->xs=ys\/ltL (ltN n) xs ys=true\/ltL (ltN n) ys xs=true
 |[],[],_=>.inl rfl
 |[],_::_,_=>.inr (.inl rfl)
 |_::_,[],_=>.inr (.inr rfl)
 | x::xs,y::ys,h=>by
  by_cases e:x=y
  ·subst e;rw[bJ,bJ];rcases yZ O h.tail with q|q
   ·exact .inl (by rw[q])
   ·exact .inr q
  ·rw[bj e,bj (Au e)];rcases O.tri h.head with q|q
   ·exact absurd q e
   ·exact .inr q
theorem y0(O:Or n):∀{xs ys zs:List D},Cl n xs ys->Cl n ys zs->Cl n xs zs->ltL (ltN n) xs ys=true->ltL (ltN n) ys zs=true->ltL (ltN n) xs zs=true
 |[],[],[],_,_,_,h1,_=>h1
 |[],_::_,[],_,_,_,_,h2=>h2
 |[],_,_::_,_,_,_,_,_=>rfl
 |_::_,[],_,_,_,_,h1,_=>by cases h1
 |_::_,_::_,[],_,_,_,_,h2=>by cases h2
 | x::xs,y::ys,z::zs,c1,c2,c3,h1,h2=>by
  by_cases e1:x=y
  ·subst e1;rw[bJ]at h1;by_cases e2:x=z
   ·subst e2;rw[bJ]at h2 ⊢;exact y0 O c1.tail c2.tail c3.tail h1 h2
   ·rw[bj e2]at h2 ⊢;exact h2
  ·rw[bj e1]at h1;by_cases e2:y=z
   ·subst e2;rw[bj e1];exact h1
   ·rw[bj e2]at h2;have h3:=O.tra c1.head c2.head c3.head h1 h2;have e3:x≠z:=fun e=>by subst e;rw[pq]at h3;cases h3
    rw[bj e3];exact h3
theorem jY:∀n,Or n
 |0=>⟨fun h=>h.elim,fun h=>h.elim⟩
 | n+1=>by
  have O:=jY n;refine⟨fun {a b} h=>?_,fun {a b c} h1 h2 h3 l1 l2=>?_⟩
  ·cases a with
   |int i=>
    cases b with
    |int j=>
     rcases Int.lt_trichotomy i j with q|q|q
     ·exact .inr (.inl (Ae q))
     ·exact .inl (by rw[q])
     ·exact .inr (.inr (Ae q))
    |_=>exact h.elim
   |str x=>
    cases b with
    |str y=>
     by_cases q:x.cps.toList<y.cps.toList
     ·exact .inr (.inl (Ae q))
     ·by_cases q':y.cps.toList<x.cps.toList
      ·exact .inr (.inr (Ae q'))
      ·refine .inl ?_;have:=Gg (a:=x) (b:=y) q' q;rw[this]
    |_=>exact h.elim
   |tup xs=>
    cases b with
    |tup ys=>
     rcases yZ O h with q|q
     ·exact .inl (by rw[q])
     ·exact .inr q
    |_=>exact h.elim
   |_=>exact h.elim
  ·cases a with
   |int i=>
    cases b with
    |int j=>
     cases c with
     |int k=>
      have q1:=Ak l1;have q2:=Ak l2;exact Ae (Int.lt_trans q1 q2)
     |_=>exact h2.elim
    |_=>exact h1.elim
   |str x=>
    cases b with
    |str y=>
     cases c with
     |str z=>
      have q1:=Ak l1;have q2:=Ak l2;exact Ae (List.lt_trans q1 q2)
     |_=>exact h2.elim
    |_=>exact h1.elim
   |tup xs=>
    cases b with
    |tup ys=>
     cases c with|tup zs=>exact y0 O h1 h2 h3 l1 l2|_=>exact h2.elim
    |_=>exact h1.elim
   |_=>exact h1.elim
theorem y3(h:∀a b,lt a b=true->lt b a=false):∀(xs ys:List D),ltL lt xs ys=true->ltL lt ys xs=false
 |[],[],l=>by cases l
 |[],_::_,_=>rfl
 |_::_,[],l=>by cases l
 | x::xs,y::ys,l=>by
  by_cases e:x=y
  ·subst e;rw[bJ]at l ⊢;exact y3 h xs ys l
  ·rw[bj e]at l;rw[bj (Au e)];exact h x y l
theorem ua:∀(n:Nat)(a b:D),ltN n a b=true->ltN n b a=false
 |0,_,_,l=>by cases l
 | n+1,a,b,l=>by
  cases a with
  |int i=>
   cases b with
   |int j=>
    have q:=Ak l;exact Af (by lia)
   |_=>cases l
  |str x=>
   cases b with
   |str y=>
    have q:=Ak l;exact Af (List.lt_asymm q)
   |_=>cases l
  |tup xs=>
   cases b with|tup ys=>exact y3 (ua n) xs ys l|_=>cases l
  |_=>cases l
def Srt(n:Nat)(es:List D):Prop:=es.Pairwise fun a b=>ltN n b a=false
open Classical in
noncomputable def de(n:Nat)(ds:List D):List D:=if h:∃es:List D,es.Perm ds/\Srt n es then h.choose else ds
def gF(n:Nat)(ds:List D):(de n ds).Perm ds:=by
 unfold de;split
 ·rename_i h;exact h.choose_spec.1
 ·exact List.Perm.refl _
def CA(n:Nat)(ds:List D):Prop:=∀a∈ds,∀b∈ds,Cp n a b
def CA.neg(h:CA n ds)(ha:a∈ds)(hb:b∈ds)(hc:c∈ds)(l:ltN n a c=true):ltN n a b=true\/ltN n b c=true:=by
 rcases(jY n).tri (h a ha b hb) with q|q|q
 ·subst q;exact .inr l
 ·exact .inl q
 ·exact .inr ((jY n).tra (h b hb a ha) (h a ha c hc) (h b hb c hc) q l)
def dU{ds es:List D}(h:CA n ds)(p:es.Perm ds)(s:Srt n es):es=de n ds:=by
 have ex:∃es:List D,es.Perm ds/\Srt n es:=⟨es,p,s⟩;have e:de n ds=ex.choose:=by unfold de;rw[dif_pos ex]
 obtain⟨p2,s2⟩:=ex.choose_spec;rw[e];refine(p.trans p2.symm).eq_of_pairwise (fun a b ha hb h1 h2=>?_) s s2;rcases(jY n).tri (h a (p.mem_iff.mp ha) b (p2.mem_iff.mp hb)) with q|q|q
 ·exact q
 ·rw[h2]at q;cases q
 ·rw[h1]at q;cases q
end VF
namespace VF
open PySem L2 PySem.SeqAt
open PySem.AutoSeq1 (wpAny_loadPart')
open PySem.MeetsSeq PySem.MeetsSeq2 PySem.MeetsSeq3
def LtAt(A:Around)(s:Shared)(u v:Value)(b:Bool):Prop:=∀(prog:Program)(w:World)(E:Value->Shared->Prop)(Q:Value->Shared->Prop),Q (.bool b) s->wpAny (model prog w) A (richCompare .Lt u v) Q E s
open Classical in
inductive IL(A:Around)(s:Shared)(lt:D->D->Bool):List Value->List Value->List D->List D->Prop where
 | left {ws:List Value} {es:List D}:ws.length=es.length->IL A s lt [] ws [] es
 | right {vs:List Value} {ds:List D}:vs.length=ds.length->IL A s lt vs [] ds []
 | cons {v w:Value} {vs ws:List Value} {d e:D} {ds es:List D}:EqAt A.in1 s v w (decide (d=e))->(d≠e->LtAt A.in1 s v w (lt d e))->IL A s lt vs ws ds es->IL A s lt (v::vs) (w::ws) (d::ds) (e::es)
open Classical in
inductive KL(A:Around)(s:Shared)(lt:D->D->Bool)(n m:Nat)(R:Result->Shared->Prop){α β:Type}(rest:List (Value×Value))(b:Option α×β)(s':Shared):Prop
 | mk (vs ws:List Value) (ds' es':List D) (e1:b.1=none) (e2:s'=s) (hz:rest=vs.zip ws) (hi:IL A s lt vs ws ds' es') (hlen:vs.length+m=ws.length+n) (hR:R (.ok (.ret (.bool (ltL lt ds' es')))) s)
open Classical in
def rb(l b:Addr)(items items2:Array Value)(n n2:Nat)(dd dd2:Option Addr)(sl sl2:Array (Option Value))(lt:D->D->Bool)(ds es:List D) :
  Meets (Builtin.«tuple.__lt__» ⟨[.ref l,.ref b],[]⟩)
   (fun A R s=>s.heap.get? l=some { cls:=.type "tuple",dict:=dd,data:=.seq items n,slots:=sl }/\s.heap.get? b=some { cls:=.type "tuple",dict:=dd2,data:=.seq items2 n2,slots:=sl2 } /\
    IL A s lt items.toList items2.toList ds es/\R (.ok (.ret (.bool (ltL lt ds es)))) s) :=
 .of_wp fun prog w A R s h=>by
  obtain⟨hp,g,d,tk,os⟩:=s;obtain⟨hl,hb,hI,h⟩:=h;have f2:=AutoSeq1.sub_tuple_tuple
  wp_walk using BZ hl,BZ hb,wpAny_forIn_list _ (KL A ⟨hp,g,d,tk,os⟩ lt items.size items2.size R) _
  case turn=>
   rintro⟨y,x⟩ rest b s' ⟨vs,ws,ds',es',hb',rfl,hz,hi,hlen,hR⟩;cases hi with
   |left _=>rw[List.zip_nil_left]at hz;cases hz
   |right _=>rw[List.zip_nil_right]at hz;cases hz
   |@cons v w' vs' ws' d' e' ds2 es2 he hlt hi'=>
    rw[Bw]at hz;injection hz with hyx hrest;injection hyx with hy hx;subst hy hx;simp only[Qc]at hlen;refine Aa (he prog w _ _ ?_);by_cases hde:d'=e'
    ·subst hde;rw[Ae rfl];rw[bJ]at hR
     wp_walk
     exact⟨_,_,_,_,rfl,rfl,hrest,hi',by lia,hR⟩
    ·rw[Af hde];rw[bj hde]at hR;have hri:=hlt hde prog w
     wp_walk using hri
     exact⟨_,rfl,by simpa using hR⟩
  case fin=>
   rintro⟨b1,b2⟩ s' ⟨vs,ws,ds',es',hb',rfl,hz,hi,hlen,hR⟩;simp only at hb';subst hb';have hv:ltL lt ds' es'=decide (items.size<items2.size):=by
    cases hi with
    |left hl2=>
     cases es' with
     |nil=>
      simp only[Wg]at hlen hl2;exact(Af (by lia)).symm
     |cons e0 e1=>
      simp only[Wg,Qc]at hlen hl2;exact(Ae (by lia)).symm
    |right hl2=>
     cases ds' with
     |nil=>
      simp only[Wg]at hlen hl2;exact(Af (by lia)).symm
     |cons e0 e1=>
      simp only[Wg,Qc]at hlen hl2;exact(Af (by lia)).symm
    |cons _ _ _=>
     rw[Bw]at hz;cases hz
   rw[hv]at hR
   wp_walk
   exact⟨_,rfl,by simpa[Builtin.Tuple.tupleCompareSizes]using hR⟩
  case h=>
   exact⟨items.toList,items2.toList,ds,es,rfl,rfl,rfl,hI,by rw[Wd,Wd,Cz],h⟩
def LtAt.tuples{A:Around}{s:Shared}{items items2:Array Value}(hl:s.heap.IsTuple l items)(hb:s.heap.IsTuple b items2)(hu:A.units<cLine)(hI:IL A s lt items.toList items2.toList ds es) :
  LtAt A s (.ref l) (.ref b) (ltL lt ds es):=fun prog w E Q h=>by
 obtain⟨⟨cls,dd,data,sl⟩,ho,hc,n,hd⟩:=id hl;obtain⟨⟨cls2,dd2,data2,sl2⟩,ho2,hc2,n2,hd2⟩:=id hb;simp only at hc hd hc2 hd2;subst hc hd hc2 hd2;exact richCompare_meets_room (op:=.Lt) ⟨_,ho,rfl⟩ ⟨_,ho2,rfl⟩ PySem.F.slot_tuple_lt PySem.F.entry_tuple_lt (PySem.F.args_tuple_lt_2 _ _) (rb l b items items2 n n2 dd dd2 sl sl2 lt ds es)
  ⟨ho,ho2,hI,show Value.bool (ltL lt ds es)≠Value.notImplemented/\Q (.bool (ltL lt ds es)) s from⟨(fun x=>nomatch x),h⟩⟩ hu
theorem LM{A:Around}:∀{vs ws:List Value}{ds es:List D},vs.length=ds.length->ws.length=es.length->
  (∀(i:Nat) v w d e,vs[i]?=some v->ws[i]?=some w->ds[i]?=some d->es[i]?=some e->(∀b,(b=true↔d=e)->EqAt A.in1 s v w b)/\(d≠e->LtAt A.in1 s v w (lt d e)))->IL A s lt vs ws ds es
 |[],_,[],_,_,h2,_=>.left h2
 |_::_,[],_::_,[],h1,_,_=>.right h1
 | v::vs,w::ws,d::ds,e::es,h1,h2,h=>by
  obtain⟨a1,a2⟩:=h 0 v w d e rfl rfl rfl rfl;exact .cons (a1 _ (by simp)) a2 (LM (by simpa using h1) (by simpa using h2) fun i v' w' d' e' z1 z2 z3 z4=>h (i+1) v' w' d' e' (by simpa using z1) (by simpa using z2) (by simpa using z3) (by simpa using z4))
 |[],_,_::_,_,h1,_,_=>by simp at h1
 |_::_,_,[],_,h1,_,_=>by simp at h1
 |_::_,[],_::_,_::_,_,h2,_=>by simp at h2
 |_::_,_::_,_::_,[],_,h2,_=>by simp at h2
open Classical in
def vM{A:Around}{u v:Value}{d e:D}(h:EqAt A s u v (decide (d=e)))(b:Bool)(hb:b=true↔d=e):EqAt A s u v b:=by
 have:b=decide (d=e):=by rw[Ye,hb,decide_eq_true_eq]
 rw[this];exact h
theorem RH.ltAt:∀(n:Nat){s:Shared}{d1 d2:D}{u1 u2:Value}{A:Around},Pl n d1->Pl n d2->Cp n d1 d2->RH s.heap u1 d1->RH s.heap u2 d2->A.units+n<cLine->LtAt A s u1 u2 (ltN n d1 d2):=by
 intro n;induction n with
 |zero=>intro s d1 d2 u1 u2 A p;cases p
 |succ n ih=>
  intro s d1 d2 u1 u2 A p1 p2 cp r1 r2 hu;cases r1 with
  |non=>exact cp.elim
  |int i t=>
   cases r2 with|int j t'=>exact fun prog w E Q h=>HT.rcLt_int A s i t j t' prog w E Q h|_=>exact cp.elim
  |str x t=>
   cases r2 with|str y t'=>exact fun prog w E Q h=>(PyProof.Rows.lt_str h:wpAny (model prog w) A (compareOp .Lt (.str x t) (.str y t')) Q E s)|_=>exact cp.elim
  |lst _ _ _=>exact cp.elim
  |@tup a its ds t hl f=>
   cases r2 with
   |@tup b its' ds' t' hl' f'=>
    cases p1 with
    |tup p1=>
    cases p2 with
    |tup p2=>
    refine LtAt.tuples t t' (by lia) (LM (by simpa using hl) (by simpa using hl') fun i v w d e z1 z2 z3 z4=>?_)
    have z1':its[i]?=some v:=by simpa using z1
    have z2':its'[i]?=some w:=by simpa using z2
    have m1:=p1 d (Xb z3);have m2:=p2 e (Xb z4);have hu':A.in1.units+n<cLine:=by show A.units+1+n<cLine;lia
    exact⟨vM (RH.eqAt n m1 m2 (f i v d z1' z3) (f' i w e z2' z4) hu').1,fun _=>ih m1 m2 (cp i d e z3 z4) (f i v d z1' z3) (f' i w e z2' z4) hu'⟩
   |_=>exact cp.elim
end VF
namespace VF
open PySem L2 PyProof.Rows PySem.SeqAt
def sC(A:Around)(s:Shared)(fl:Bool)(u v:Value)(c:Bool):Prop:=∀(prog:Program)(w:World)(E:Value->Shared->Prop)(Q:Bool->Shared->Prop),Q c s->wpAny (model prog w) A (oneLt' fl u v) Q E s
open Classical in
inductive IK(A:Around)(s:Shared)(b:Bool)(lt:D->D->Bool):Nat->List Value->List Value->List D->List D->Prop where
 | left {i:Nat} {ws:List Value} {es:List D}:ws.length=es.length->IK A s b lt i [] ws [] es
 | right {i:Nat} {vs:List Value} {ds:List D}:vs.length=ds.length->IK A s b lt i vs [] ds []
 | cons {i:Nat} {v w:Value} {vs ws:List Value} {d e:D} {ds es:List D}:EqAt A s v w (decide (d=e))->(d≠e->sC A s (b&&i == 0) v w (lt d e))->IK A s b lt (i+1) vs ws ds es->IK A s b lt i (v::vs) (w::ws) (d::ds) (e::es)
section
variable {prog:Program}{w:World}{A:Around}{E:Value->Shared->Prop}{s:Shared}
def y4(h:LtAt A s u v c):sC A s false u v c:=fun prog w E Q q=>by
 rw[oneLt'_eq];dsimp only;rw[Aj Bool.noConfusion];exact Aa (h prog w _ _ (Av q))
theorem y6(fl:Bool):sC A s fl (.int a t) (.int b u) (decide (a<b)):=fun prog w E Q q=>by
 cases fl with|true=>exact oneLt_int q|false=>exact y4 (fun prog w E Q h=>HT.rcLt_int A s a t b u prog w E Q h) prog w E Q q
theorem ub{a b:Str}(fl:Bool):sC A s fl (.str a t) (.str b u) (decide (a.cps.toList<b.cps.toList)):=fun prog w E Q q=>by
 cases fl with|true=>exact oneLt_str q|false=>exact y4 (fun prog w E Q h=>(PyProof.Rows.lt_str h:wpAny (model prog w) A (compareOp .Lt (.str a t) (.str b u)) Q E s)) prog w E Q q
inductive KI(A:Around)(s:Shared)(b:Bool)(lt:D->D->Bool)(n m:Nat)(Q:Bool->Shared->Prop)(rest:List ((Value×Value)×Nat))(r:Option Bool×Unit)(s':Shared):Prop
 | mk (i:Nat) (vs ws:List Value) (ds' es':List D) (e1:s'=s) (e2:r=(none,())) (hz:rest=(vs.zip ws).zipIdx i) (hi:IK A s b lt i vs ws ds' es') (hlen:vs.length+m=ws.length+n) (hR:Q (ltL lt ds' es') s)
open Classical in
def y7{xs ys:Array Value}(hl:s.heap.IsTuple l xs)(hr:s.heap.IsTuple r ys)(hI:IK A s b lt 0 xs.toList ys.toList ds es)(q:Q (ltL lt ds es) s) :
  wpAny (model prog w) A (keyLt' (tuples' b) (.ref l) (.ref r)) Q E s:=by
 obtain⟨o1,g1,_,n1,d1⟩:=hl;obtain⟨o2,g2,_,n2,d2⟩:=hr;refine Aa (A0 g1 d1 ?_);refine Aa (A0 g2 d2 ?_);refine Aa (wpAny_forIn_list _ (KI A s b lt xs.size ys.size Q) _ ?_ ?_ _ _ ?_)
 ·rintro⟨⟨y,x⟩,j⟩ rest r s' ⟨i,vs,ws,ds',es',rfl,rfl,hz,hi,hlen,hR⟩;cases hi with
  |left _=>rw[List.zip_nil_left]at hz;cases hz
  |right _=>rw[List.zip_nil_right]at hz;cases hz
  |@cons _ v w' vs' ws' d' e' ds2 es2 he hlt hi'=>
   rw[Bw,BQ]at hz;injection hz with hyx hrest;injection hyx with hy hj;injection hy with hy hx;subst hy hx hj;simp only[Qc]at hlen;dsimp only;refine Aa (he prog w _ _ ?_);by_cases hde:d'=e'
   ·subst hde;rw[Ae rfl];rw[bJ]at hR;exact Ad ⟨_,_,_,_,_,rfl,rfl,hrest,hi',by lia,hR⟩
   ·rw[Af hde];rw[bj hde]at hR;exact Aa (hlt hde prog w _ _ (Ad (Ad hR)))
 ·rintro r s' ⟨i,vs,ws,ds',es',rfl,rfl,hz,hi,hlen,hR⟩;have hv:ltL lt ds' es'=decide (xs.size<ys.size):=by
   cases hi with
   |left hl2=>
    cases es' with
    |nil=>
     simp only[Wg]at hlen hl2;exact(Af (by lia)).symm
    |cons e0 e1=>
     simp only[Wg,Qc]at hlen hl2;exact(Ae (by lia)).symm
   |right hl2=>
    cases ds' with
    |nil=>
     simp only[Wg]at hlen hl2;exact(Af (by lia)).symm
    |cons e0 e1=>
     simp only[Wg,Qc]at hlen hl2;exact(Af (by lia)).symm
   |cons _ _ _=>
    rw[Bw,BQ]at hz;cases hz
  rw[hv]at hR;exact Ad hR
 ·exact⟨0,xs.toList,ys.toList,ds,es,rfl,rfl,rfl,hI,by rw[Wd,Wd,Cz],q⟩
theorem LN:∀{i:Nat}{vs ws:List Value}{ds es:List D},vs.length=ds.length->ws.length=es.length->
  (∀(j:Nat) v w d e,vs[j]?=some v->ws[j]?=some w->ds[j]?=some d->es[j]?=some e->(∀c,(c=true↔d=e)->EqAt A s v w c)/\(d≠e->sC A s (b&&(i+j) == 0) v w (lt d e)))->IK A s b lt i vs ws ds es
 |_,[],_,[],_,_,h2,_=>.left h2
 |_,_::_,[],_::_,[],h1,_,_=>.right h1
 | i,v::vs,w::ws,d::ds,e::es,h1,h2,h=>by
  obtain⟨a1,a2⟩:=h 0 v w d e rfl rfl rfl rfl;refine .cons (a1 _ (by simp)) a2 (LN (by simpa using h1) (by simpa using h2) fun j v' w' d' e' z1 z2 z3 z4=>?_)
  have:=h (j+1) v' w' d' e' (by simpa using z1) (by simpa using z2) (by simpa using z3) (by simpa using z4)
  rwa [show i+(j+1)=i+1+j by lia]at this
 |_,[],_,_::_,_,h1,_,_=>by simp at h1
 |_,_::_,_,[],_,h1,_,_=>by simp at h1
 |_,_::_,[],_::_,_::_,_,h2,_=>by simp at h2
 |_,_::_,_::_,_::_,[],_,h2,_=>by simp at h2
def NM(d:D):Prop:=match d with|.tup (.int _::_)=>True|_=>False
def NN(d:D):Prop:=match d with|.tup (.str _::_)=>True|_=>False
theorem y8(h:NM d):∃i r,d=.tup (.int i::r):=by
 cases d with
 |tup l=>
  cases l with
  |nil=>exact h.elim
  |cons x r=>
   cases x with|int i=>exact⟨_,_,rfl⟩|_=>exact h.elim
 |_=>exact h.elim
theorem y9(h:NN d):∃i r,d=.tup (.str i::r):=by
 cases d with
 |tup l=>
  cases l with
  |nil=>exact h.elim
  |cons x r=>
   cases x with|str i=>exact⟨_,_,rfl⟩|_=>exact h.elim
 |_=>exact h.elim
def GG(p1:Pl (n+1) d1)(p2:Pl (n+1) d2)(cp:Cp (n+1) d1 d2)(r1:RH s.heap u1 d1)(r2:RH s.heap u2 d2)(hu:A.units+(n+1)<cLine)
  (ht:∃xs,d1=.tup xs)(hb:b=true->(NM d1/\NM d2)\/(NN d1/\NN d2))(q:Q (ltN (n+1) d1 d2) s):wpAny (model prog w) A (keyLt' (tuples' b) u1 u2) Q E s:=by
 obtain⟨xs,rfl⟩:=ht;cases r1 with
 |@tup a its ds t hl f=>
  cases r2 with
  |@tup a2 its' ds' t' hl' f'=>
   cases p1 with
   |tup p1=>
   cases p2 with
   |tup p2=>
   refine y7 (lt:=ltN n) (ds:=xs) (es:=ds') t t' (LN (by simpa using hl) (by simpa using hl') fun j v w' d e z1 z2 z3 z4=>?_) q
   have z1':its[j]?=some v:=by simpa using z1
   have z2':its'[j]?=some w':=by simpa using z2
   have m1:=p1 d (Xb z3);have m2:=p2 e (Xb z4);have k1:=f j v d z1' z3;have k2:=f' j w' e z2' z4;have c1:=cp j d e z3 z4;refine⟨vM (RH.eqAt n m1 m2 k1 k2 (by lia)).1,fun _=>?_⟩
   cases hfl:(b&&(0+j) == 0) with
   |false=>exact y4 (RH.ltAt n m1 m2 c1 k1 k2 (by lia))
   |true=>
    rw[Vi]at hfl;have hj:j=0:=by have:=eq_of_beq hfl.2;lia
    subst hj;rcases hb hfl.1 with⟨g1,g2⟩|⟨g1,g2⟩
    ·obtain⟨i,r,e1⟩:=y8 g1;obtain⟨i2,r2,e2⟩:=y8 g2;cases e1;cases e2;cases z3;cases z4;cases k1;cases k2;cases n with|zero=>cases m1|succ n=>exact y6 true
    ·obtain⟨i,r,e1⟩:=y9 g1;obtain⟨i2,r2,e2⟩:=y9 g2;cases e1;cases e2;cases z3;cases z4;cases k1;cases k2;cases n with|zero=>cases m1|succ n=>exact ub true
  |_=>exact cp.elim
end
end VF
namespace VF
open PySem L2 PyProof.Rows
section
variable {M:Model}{prog:Program}{w:World}{A:Around}{E:Value->Shared->Prop}{s:Shared}
theorem za:∀(l:List α),(∀v∈l,∀Q:β->Shared->Prop,Q (g v) s->wpAny M A (f v) Q E s)->∀Q:List β->Shared->Prop,Q (l.map g) s->wpAny M A (l.mapM f) Q E s
 |[],_,Q,q=>by rw[C8];exact Ad q
 | v::l,h,Q,q=>by
  rw[CZ];exact Aa (h v Va _ (Aa (za l (fun u hu=>h u (Vb _ hu)) _ (Ad q))))
def uc{l:List α}(h:∀v∈l,∀Q:β->Shared->Prop,Q (g v) s->wpAny M A (f v) Q E s)(q:Q (l.map g).toArray s):wpAny M A (l.toArray.mapM f) Q E s:=by
 rw[CC,CH];exact Aa (za l h _ (Ad q))
def tyD:D->String|.int _=>"int"|.str _=>"str"|.tup _=>"tuple"|_=>"list"
theorem RH.ty(r:RH s.heap u d)(h:d≠.non):s.TypeIs u (tyD d):=by
 cases r with
 |non=>exact absurd rfl h
 |int i t=>exact typeIs_int s i t
 |str x t=>exact CW s x t
 |tup t _ _=>obtain⟨o,h1,h2,_⟩:=t;exact⟨o,h1,h2⟩
 |lst t _ _=>obtain⟨o,h1,h2,_⟩:=t;exact⟨o,h1,h2⟩
def GH{us:List Value}{ds:List D}(hne:us≠[])(hl:us.length=ds.length)(r:∀(i:Nat) u d,us[i]?=some u->ds[i]?=some d->RH s.heap u d/\d≠.non/\tyD d=T)(q:Q (some (.type T)) s) :
  wpAny M A (oneTypeOnly' us.toArray) Q E s:=by
 rw[oneTypeOnly'_eq];refine Aa (uc (g:=fun _=>Value.type T) (fun v hv Q q=>?_) ?_)
 ·obtain⟨i,hi,rfl⟩:=Ql.mp hv;obtain⟨r1,r2,r3⟩:=r i us[i] ds[i] (Ya hi) (Ya (by lia))
  exact AZ (r3 ▸ r1.ty r2) q
 ·cases us with
  |nil=>exact absurd rfl hne
  |cons u us=>
   have h0:(List.map (fun _=>Value.type T) (u::us)).toArray[0]?=some (Value.type T):=by simp
   rw[h0];have hall:((List.map (fun _=>Value.type T) (u::us)).toArray.all fun x=>x == Value.type T)=true:=by
    simp only[List.all_toArray,CF,Xj];intro _ _;exact beq_self_eq_true _
   dsimp only;rw[hall,Ag rfl];exact Ad q
def GI(r:RH s.heap u d)(h:d≠.non)(ht:tyD d≠"tuple")(q:Q none s):wpAny M A (firstOfTuple' u) Q E s:=by
 refine Aa (AZ (r.ty h) ?_);rw[Ag (by rw[bne_iff_ne];intro e;injection e with e;exact ht e)]
 exact Ad q
def sD{its:List Value}(t:s.heap.IsTuple a its.toArray)(e:its=u::us)(q:Q (some u) s):wpAny M A (firstOfTuple' (.ref a)) Q E s:=by
 obtain⟨o,h1,h2,n,h3⟩:=t;refine Aa (AZ (T:="tuple") ⟨o,h1,h2⟩ ?_);rw[Aj (by rw[bne_iff_ne];intro z;exact z rfl)]
 refine Aa (A0 h1 h3 ?_);subst e;exact Ad q
inductive Kd:List D->SortKind->Prop where
 | sc {ds:List D} {T:String}:T≠"tuple"->(∀d∈ds,d≠.non/\tyD d=T)->Kd ds oneType'
 | tp {ds:List D} {T:String}:(∀d∈ds,∃x xs,d=.tup (x::xs)/\x≠.non/\tyD x=T)->Kd ds (tuples' (T != "tuple"))
def Pt{us:List Value}{ds:List D}(hne:us≠[])(hl:us.length=ds.length)(r:∀(i:Nat) u d,us[i]?=some u->ds[i]?=some d->RH s.heap u d)(hk:Kd ds κ)(q:Q κ s) :
  wpAny M A (keyKind' us.toArray) Q E s:=by
 rw[keyKind'_eq];cases hk with
 |@sc T hT h=>
  refine Aa (uc (g:=fun _=>none) (fun v hv Q q=>?_) ?_)
  ·obtain⟨i,hi,rfl⟩:=Ql.mp hv;have hd:=h ds[i] (Xl _);exact GI (r i _ _ (Ya hi) (Ya (by lia))) hd.1 (by rw[hd.2];exact hT) q
  ·cases us with
   |nil=>exact absurd rfl hne
   |cons u us=>
    rw[Aj (by simp),Aj (by simp)]
    refine Aa (GH (T:=T) hne hl (fun i u d e1 e2=>⟨r i u d e1 e2,h d (Xb e2)⟩) ?_);exact Ad q
 |@tp T h=>
  have hx:∀(i:Nat)(hi:i<us.length),∃u0 x xs,(∀Q:Option Value->Shared->Prop,Q (some u0) s->wpAny M A (firstOfTuple' us[i]) Q E s)/\ds[i]?=some (.tup (x::xs))/\RH s.heap u0 x/\x≠.non/\tyD x=T:=fun i hi=>by
   have hd:i<ds.length:=by lia
   obtain⟨x,xs,e,h1,h2⟩:=h ds[i] (Xl _);have rr:=r i us[i] ds[i] (Ya hi) (Ya hd);rw[e]at rr;generalize us[i]=v at rr;cases rr with
   |@tup a its _ t hl f=>
    cases its with|nil=>simp at hl|cons u0 ur=>exact⟨u0,x,xs,fun Q q=>sD t rfl q,by rw[Ya hd,e],f 0 u0 x rfl rfl,h1,h2⟩
  have hf:∃fs:List Value,fs.length=us.length/\(∀Q:Array (Option Value)->Shared->Prop,Q (fs.map some).toArray s->wpAny M A (us.toArray.mapM firstOfTuple') Q E s)/\∀(i:Nat) u,fs[i]?=some u->∃x,RH s.heap u x/\x≠.non/\tyD x=T:=by
   have:∀l:List Value,(∀v∈l,∃u0 x,(∀Q:Option Value->Shared->Prop,Q (some u0) s->wpAny M A (firstOfTuple' v) Q E s)/\RH s.heap u0 x/\x≠.non/\tyD x=T)->
     ∃fs:List Value,fs.length=l.length/\(∀Q:List (Option Value)->Shared->Prop,Q (fs.map some) s->wpAny M A (l.mapM firstOfTuple') Q E s)/\∀(i:Nat) u,fs[i]?=some u->∃x,RH s.heap u x/\x≠.non/\tyD x=T:=fun l=>by
    induction l with
    |nil=>exact fun _=>⟨[],rfl,fun Q q=>by rw[C8];exact Ad q,fun i u e=>by simp at e⟩
    |cons v l ih=>
     intro hv;obtain⟨fs,f1,f2,f3⟩:=ih fun u hu=>hv u (Vb _ hu);obtain⟨u0,x,g1,g2⟩:=hv v Va;refine⟨u0::fs,by simp[f1],fun Q q=>?_,fun i u e=>?_⟩
     ·rw[CZ];exact Aa (g1 _ (Aa (f2 _ (Ad q))))
     ·cases i with
      |zero=>
       have:u0=u:=by simpa using e
       subst this;exact⟨x,g2⟩
      |succ i=>exact f3 i u (by simpa using e)
   obtain⟨fs,f1,f2,f3⟩:=this us fun v hv=>by
    obtain⟨i,hi,rfl⟩:=Ql.mp hv;obtain⟨u0,x,xs,a1,_,a2⟩:=hx i hi;exact⟨u0,x,a1,a2⟩
   refine⟨fs,f1,fun Q q=>?_,f3⟩;rw[CC,CH];exact Aa (f2 _ (Ad q))
  obtain⟨fs,f1,f2,f3⟩:=hf;refine Aa (f2 _ ?_);rw[Ag (by simp)]
  refine Aa (AW ?_);have e1:(fs.map some).toArray.filterMap id=fs.toArray:=by simp
  rw[e1];have hne':fs≠[]:=fun z=>by
   rw[z]at f1;exact hne (Yf f1.symm)
  obtain⟨xs,hxs,hxx⟩:∃xs:List D,fs.length=xs.length/\∀(i:Nat) u d,fs[i]?=some u->xs[i]?=some d->RH s.heap u d/\d≠.non/\tyD d=T:=by
   have:∀l:List Value,(∀(i:Nat) u,l[i]?=some u->∃x,RH s.heap u x/\x≠.non/\tyD x=T)->∃xs:List D,l.length=xs.length/\∀(i:Nat) u d,l[i]?=some u->xs[i]?=some d->RH s.heap u d/\d≠.non/\tyD d=T:=fun l=>by
    induction l with
    |nil=>exact fun _=>⟨[],rfl,fun i u d e=>by simp at e⟩
    |cons v l ih=>
     intro hv;obtain⟨xs,x1,x2⟩:=ih fun i u e=>hv (i+1) u (by simpa using e)
     obtain⟨x,hx⟩:=hv 0 v rfl;refine⟨x::xs,by simp[x1],fun i u d e1 e2=>?_⟩
     cases i with
     |zero=>
      have a1:v=u:=by simpa using e1
      have a2:x=d:=by simpa using e2
      subst a1 a2;exact hx
     |succ i=>exact x2 i u d (by simpa using e1) (by simpa using e2)
   exact this fs f3
  refine Aa (GH (T:=T) hne' hxs hxx ?_);have e2:(Option.any (fun x=>x != Value.type "tuple") (some (Value.type T)))=(T != "tuple"):=by
   show(Value.type T != Value.type "tuple")=_;rw[Ye,bne_iff_ne,bne_iff_ne];constructor
   ·exact fun h e=>h (by rw[e])
   ·exact fun h e=>h (by injection e)
  rw[e2];exact Ad q
end
end VF
namespace VF
open PySem L2 PyProof.Rows TS
section
variable {prog:Program}{w:World}{A:Around}{E:Value->Shared->Prop}{s:Shared}
theorem RH.kept{h h':Heap}(k:∀b o,h.get? b=some o->h'.get? b=some o)(r:RH h u d):RH h' u d:=by
 induction r with
 |non=>exact .non
 |int i t=>exact .int i t
 |str x t=>exact .str x t
 |tup t hl _ ih=>obtain⟨o,h1,h2⟩:=t;exact .tup ⟨o,k _ o h1,h2⟩ hl ih
 |lst t hl _ ih=>obtain⟨o,h1,h2⟩:=t;exact .lst ⟨o,k _ o h1,h2⟩ hl ih
def dk(ds:List D)(g:Nat):D:=ds.getD g (ds.headD .non)
def ou(h:ds[g]?=some d):dk ds g=d:=by
 unfold dk;rw[Qa,h];rfl
theorem jh(h:ds≠[])(g:Nat):dk ds g∈ds:=by
 cases e:ds[g]? with
 |some d=>rw[ou e];exact Xb e
 |none=>
  cases ds with
  |nil=>exact absurd rfl h
  |cons x xs=>
   unfold dk;rw[Qa,e];simp
noncomputable def cD(ds:List D)(g h:Nat):Bool:=ltN 40 (dk ds g) (dk ds h)
theorem GJ(h:Cp n d e)(ht:tyD d≠"tuple"):(∃i j,d=.int i/\e=.int j)\/∃x y,d=.str x/\e=.str y:=by
 cases n with
 |zero=>exact h.elim
 |succ n=>
  cases d with
  |int i=>
   cases e with|int j=>exact .inl ⟨i,j,rfl,rfl⟩|_=>exact h.elim
  |str x=>
   cases e with|str y=>exact .inr ⟨x,y,rfl,rfl⟩|_=>exact h.elim
  |tup xs=>exact absurd rfl ht
  |_=>exact h.elim
def JY{us vs:List Value}{ds:List D}(hl:us.length=ds.length)(r:∀(i:Nat) u d,us[i]?=some u->ds[i]?=some d->RH s.heap u d)(pl:∀d∈ds,Pl 40 d)(ca:CA 40 ds)(hk:Kd ds κ)(hu:A.units+40<cLine) :
  Cm prog w A s κ (fun g=>(us.getD g .none,vs.getD g .none)) us.length (cD ds):=by
 refine⟨fun E Q g h hg hh q=>?_,fun g=>pq _ _,fun g h i h1 h2=>?_,fun g h i h1=>?_⟩
 ·have eg:us[g]?=some us[g]:=Ya hg;have eh:us[h]?=some us[h]:=Ya hh;have dg:ds[g]?=some ds[g]:=Ya (by lia)
  have dh:ds[h]?=some ds[h]:=Ya (by lia)
  have q':Q (ltN 40 ds[g] ds[h]) s:=by unfold cD at q;rw[ou dg,ou dh]at q;exact q
  have rg:=r g _ _ eg dg;have rh:=r h _ _ eh dh;have mg:=Xb dg;have mh:=Xb dh;have cp:=ca _ mg _ mh;show wpAny (model prog w) A (keyLt' κ (us.getD g .none) (us.getD h .none)) Q E s;rw[Qa,Qa,eg,eh];show wpAny (model prog w) A (keyLt' κ us[g] us[h]) Q E s;generalize us[g]=ug at rg;generalize us[h]=uh at rh;generalize ds[g]=a at *;generalize ds[h]=b at *;cases hk with
  |@sc T hT hd=>
   rw[keyLt'_oneType];rcases GJ cp (by rw[(hd a mg).2];exact hT) with⟨i,j,rfl,rfl⟩|⟨x,y,rfl,rfl⟩
   ·cases rg;cases rh;exact y6 true prog w E Q q'
   ·cases rg;cases rh;exact ub true prog w E Q q'
  |@tp T hd=>
   obtain⟨x,xs,rfl,nx,tx⟩:=hd a mg;obtain⟨y,ys,rfl,ny,ty⟩:=hd b mh;refine GG (n:=39) (pl _ mg) (pl _ mh) cp rg rh (by lia) ⟨_,rfl⟩ (fun hb=>?_) q'
   have hT:T≠"tuple":=by rwa [bne_iff_ne]at hb
   rcases GJ (cp 0 x y rfl rfl) (by rw[tx];exact hT) with⟨i,j,rfl,rfl⟩|⟨x,y,rfl,rfl⟩
   ·exact .inl ⟨trivial,trivial⟩
   ·exact .inr ⟨trivial,trivial⟩
 ·by_cases hne:ds=[]
  ·subst hne;have:cD [] g h=false:=pq 40 .non;rw[this]at h1;cases h1
  ·exact(jY 40).tra (ca _ (jh hne g) _ (jh hne h)) (ca _ (jh hne h) _ (jh hne i)) (ca _ (jh hne g) _ (jh hne i)) h1 h2
 ·by_cases hne:ds=[]
  ·subst hne;have:cD [] g i=false:=pq 40 .non;rw[this]at h1;cases h1
  ·exact ca.neg (jh hne g) (jh hne h) (jh hne i) h1
def bB(vs:List Value)(γ:Array Nat):Array Value:=γ.map fun g=>vs.getD g .none
def sE{vs : List Value}{ds : List D}(ho : s.heap.get? a = some (seqObj "list" vs.toArray n))(hz : vs.length ≤ sizeLine)
    (hl : vs.length = ds.length)(r : ∀ (i : Nat) u d, vs[i]? = some u → ds[i]? = some d → RH (((s.heap.update a (Obj.mapSeq fun _ => #[])).push (seqObj "tuple" vs.toArray 0)).push (seqObj "list" #[] 0)) u d)
    (pl : ∀ d ∈ ds, Pl 40 d) (ca : CA 40 ds) (hk : Kd ds κ) (hu : A.units + 40 < cLine) (h64 : vs.length < 64)
    (fin : ∀ γ : Array Nat, γ.Perm (Array.range vs.length) → Sg (cD ds) γ 0 vs.length → P (.done (.ret .none)) { s with heap := sortedHeap s.heap a vs (bB vs γ) }) :
    wpAny (model prog w) A (Builtin.«list.sort» ⟨[.ref a], []⟩) P E s := by
  rw [list_sort_plain];have small := Ai ho;refine Aa (A0 ho rfl (Aa (AQ ho rfl ?_)));obtain ⟨ep, hE⟩ : ∃ ep, (s.heap.update a (Obj.mapSeq fun _ => #[])).get? a = some (seqObj "list" #[] ep) := ⟨_, Bl ho (fun _ => #[])⟩;refine Aa (Ca hE rfl (Aa (CV (Aa (Bi (AA ?_))))));have hE2 : (((s.heap.update a (Obj.mapSeq fun _ => #[])).push (seqObj "tuple" vs.toArray 0)).push (seqObj "list" #[] 0)).get? a = some (seqObj "list" #[] ep) :=
    Ac _ (Ac _ hE)
  generalize hH : ((s.heap.update a (Obj.mapSeq fun _ => #[])).push (seqObj "tuple" vs.toArray 0)).push (seqObj "list" #[] 0) = h6 at r hE2;show wpAny (model prog w) A _ P E { s with heap := h6 };dsimp only;have hsz : vs.toArray.size = vs.length := by simp
  have zs : ∀ γ : Array Nat, γ.Perm (Array.range vs.length) → (bB vs γ).size ≤ sizeLine + 1 := fun γ p => by
    unfold bB;rw [C2, p.size_eq, Array.size_range]; lia
  have done : ∀ γ : Array Nat, γ.Perm (Array.range vs.length) → Sg (cD ds) γ 0 vs.length → P (.done (.ret .none)) { s with heap := h6.update a (Obj.mapSeq fun _ => bB vs γ) } := fun γ p g => by
    have := fin γ p g;unfold sortedHeap at this;rw [<-hH]; exact this
  have e0 : vs.toArray.zip vs.toArray = (Array.range vs.length).map fun g => (vs.getD g .none, vs.getD g .none) := by
    apply Array.ext_getElem?
    intro i;rw [Cr, Bk];by_cases hi : i < vs.length
    · rw [Ag hi]; simp [hi]
    · rw [Aj hi]; simp [hi]
  by_cases few : vs.toArray.size < 2
  · rw [Ag few, Ag few]
    refine Aa (Ad ?_);rw [StateT.run_pure];refine Aa (Ad ?_);dsimp only;have em : (vs.toArray.zip vs.toArray).map (fun x => x.2) = bB vs (Array.range vs.length) := by
      rw [e0, Cg]; rfl
    refine Aa (Ca hE2 rfl (Aa (AQ hE2 rfl ?_ (hsz2 := ?_))))
    · simp only [Cu, Bx, if_false]
      refine Ad ?_;rw [em];exact done _ (Array.Perm.refl _) fun i j g h z1 z2 z3 => by lia
    · rw [em]; exact zs _ (Array.Perm.refl _)
  · rw [Aj few, Aj few]
    have hne : vs ≠ [] := fun z => few (by rw [z]; decide)
    refine Aa (Pt (s := { s with heap := h6 }) hne hl r hk ?_);have C : Cm prog w A { s with heap := h6 } κ (fun g => (vs.getD g .none, vs.getD g .none)) vs.length (cD ds) := JY (s := { s with heap := h6 }) hl r pl ca hk hu
    refine Aa (Aw (yX h64 (st := SortSt.mk' κ (vs.toArray.zip vs.toArray) #[] 7 none) C (γ := Array.range vs.length) ⟨e0, rfl, rfl, Array.Perm.refl _⟩ rfl (fun i _ z => by rw [Bk, Ag z])
      (Q := fun _ st' => ∃ γ, Rp κ (fun g => (vs.getD g .none, vs.getD g .none)) vs.length st' γ ∧ Sg (cD ds) γ 0 vs.length) fun st' γ' R g => ⟨γ', R, g⟩) ?_ fun _ _ e => e)
    rintro ⟨⟨⟩, st'⟩ s' ⟨rfl, γ, R, g⟩;dsimp only;have em : (arrOf st').map (fun x => x.2) = bB vs γ := by
      rw [R.arr, Cg]; rfl
    refine Aa (Ca hE2 rfl (Aa (AQ hE2 rfl ?_ (hsz2 := ?_))))
    · rw [show failedOf st' = none from R.fine]
      simp only [Cu, Bx, if_false];refine Ad ?_;show P (.done (.ret .none)) { s with heap := h6.update a (Obj.mapSeq fun _ => (arrOf st').map (fun x => x.2)) };rw [em];exact done γ R.perm g
    · show ((arrOf st').map (fun x => x.2)).size ≤ sizeLine + 1
      rw [em]; exact zs γ R.perm
end
end VF
namespace VF
open PySem L2 PyProof.Rows TS
section
variable {prog:Program}{w:World}{A:Around}{E:Value->Shared->Prop}{s:Shared}
def vN{l:Addr}{vs:List Value}{Q:List Value->Shared->Prop}(hl:s.heap.IsList l vs.toArray\/s.heap.IsTuple l vs.toArray)(hz:vs.length<=sizeLine)
  (q:Q vs { s with heap:=(s.heap.push (seqObj "list" #[] 0)).update s.heap.objs.size (Obj.mapSeq (·++vs.toArray)) }):wpAny (model prog w) A (collect (.ref l)) Q E s:=by
 rcases hl with hl|hl
 ·exact collect_list hl q hz
 obtain⟨o,ho,hc,m,hd⟩:=id hl;have kept:=Ac (seqObj "list" #[] 0) ho;have new:(s.heap.push (seqObj "list" #[] 0)).get? s.heap.objs.size=some (seqObj "list" #[] 0):=Ah _ rfl;unfold collect;refine Aa (wpAny_runValue (codeAny_builtin entry_proto_collect' ?_));refine Aa (Bi (Ad ⟨Code.quiet_builtin _ (by decide +kernel),codeAny_builtin entry_list_iadd' ?_⟩))
 show wpAny _ _ (Builtin.List.listExtendWith (.ref s.heap.objs.size) (.ref l) (.ref s.heap.objs.size)) _ _ { s with heap:=s.heap.push (seqObj "list" #[] 0) };unfold Builtin.List.listExtendWith;refine Aa (AZ (T:="tuple") ⟨o,kept,hc⟩ ?_);rw[Ag (by rw[show(Value.type "tuple" == Value.type "tuple")=true from rfl,Bool.or_true])]
 refine Aa (A0 kept hd (Aa (A0 new rfl ?_)));rw[Aj (by simp)]
 have room:((#[]:Array Value)++vs.toArray).size<=sizeLine+1:=by
  rw[Array.size_append,Xc];simp;lia
 refine Aa (AQ new rfl ?_ (Xi _) room);refine Ad ?_;have at':=Bl new (fun x=>x++vs.toArray);refine Aa (wpAny_load at' ?_);show wpAny _ _ (pure ((#[]:Array Value)++vs.toArray).toList) Q E _;have e:((#[]:Array Value)++vs.toArray).toList=vs:=by simp
 rw[e];exact Ad q
def vO{l:Addr}{vs:List Value}{ds:List D}{κ:SortKind}{Q:Value->Shared->Prop}(hl:s.heap.IsList l vs.toArray\/s.heap.IsTuple l vs.toArray)(hz:vs.length<=sizeLine)
  (hn:vs.length=ds.length)(r:∀(i:Nat) u d,vs[i]?=some u->ds[i]?=some d->RH s.heap u d)(pl:∀d∈ds,Pl 40 d)(ca:CA 40 ds)(hk:Kd ds κ)(hu:A.units+64<cLine)(h64:vs.length<64)
  (fin:∀γ:Array Nat,γ.Perm (Array.range vs.length)->Sg (cD ds) γ 0 vs.length->Q (.ref (s.heap.objs.size+1)) { s with heap:=sortedAll s.heap vs (bB vs γ) }) :
  wpAny (model prog w) A (call (.builtin "sorted") [.ref l]) Q E s:=by
 refine C7 kind_sorted plain_sorted entry_sorted (args_sorted1 _) ?_;refine Aa (m:=checkCount "sorted" 1 1 _) (Ad (Aa (vN hl hz (Aa (Bi ?_)))));generalize hg:(s.heap.push (seqObj "list" #[] 0)).update s.heap.objs.size (Obj.mapSeq (·++vs.toArray))=h1;have z1:h1.objs.size=s.heap.objs.size+1:=by rw[<-hg,CO,size_push']
 have old:∀b o,s.heap.get? b=some o->h1.get? b=some o:=fun b o e=>by
  rw[<-hg];exact(Ay _ _ _ _ (Qf (Ai e))).trans (Ac _ e)
 have mine:(h1.push (seqObj "list" vs.toArray 0)).get? (s.heap.objs.size+1)=some (seqObj "list" vs.toArray 0):=by rw[<-z1];exact Ah _ rfl
 show wpAny _ _ _ _ _ { s with heap:=h1.push (seqObj "list" vs.toArray 0) };rw[z1];refine Aa (AA (Ao slot_list_sort ⟨_,mine,rfl⟩ entry_list_sort ?_ (args_list_sort _)));refine sE (s:={ s with heap:=h1.push (seqObj "list" vs.toArray 0) }) mine hz hn (fun i u d e1 e2=>(r i u d e1 e2).kept fun b o e=>?_) pl ca hk (by show A.units+1+1+40<cLine;lia) h64 fun γ p g=>?_
 ·have hb:=Ai e;refine Ac _ (Ac _ ?_);have hne:b≠s.heap.objs.size+1:=Qf (A9 hb);exact(Ay _ _ _ _ hne).trans (Ac _ (old b o e))
 ·refine⟨_,rfl,Ad ⟨_,rfl,?_⟩⟩;have:=fin γ p g;unfold sortedAll at this;rw[hg]at this;exact this
end
def GK{ds:List D}{γ:Array Nat}(ca:CA 40 ds)(p:γ.Perm (Array.range ds.length))(g:Sg (cD ds) γ 0 ds.length):(γ.toList.map (dk ds))=de 40 ds:=by
 have hsz:γ.size=ds.length:=by rw[p.size_eq,Zk]
 refine dU ca ?_ ?_
 ·have p1:(γ.toList.map (dk ds)).Perm ((List.range ds.length).map (dk ds)):=by
   have:=Zh.mp p;rw[Zn]at this;exact this.map _
  have e:(List.range ds.length).map (dk ds)=ds:=by
   refine Bh (by simp) fun i h1 h2=>?_
   rw[CN,List.getElem_range,ou (Ya h2)]
  rwa [e]at p1
 ·unfold Srt;rw[Xh,C4];intro i j hi hj hij;rw[Wd]at hi hj;have b:=g i j γ.toList[i] γ.toList[j] (Xi _) hij (by lia) (by rw[<-Qi];exact Ya _) (by rw[<-Qi];exact Ya _)
  rcases b with b|b
  ·exact ua _ _ _ b
  ·exact b.1
section
variable {X:Cx}{K:Ab}{Y:AS}{H:Hp}
def GL(K:Ab):List V->Hp->VK->Prop:=fun xs H Q=>∃(Y:AS)(v:V)(d:D)(ds:List D)(κ:SortKind),xs=[v]/\BA K Y H v d/\d.seq=some ds/\(∀x∈ds,Pl 40 x)/\CA 40 ds/\Kd ds κ/\ds.length<64 /\
 ∀(p:Addr)(vs:List V),H p=none->El K Y H vs (de 40 ds)->Q (.ref p) (upd H p (.lst vs))
def bN{n:Nat}(h:X.K=K)(hr:Room n X.A):CallR X (.builtin "sorted") (GL K):=by
 intro pins s σ H xs us Q I rv hh;obtain⟨Y,v,d,ds,κ,rfl,ba,hs,pl,ca,hk,h64,q⟩:=hh;obtain⟨u,rfl,ru⟩:=vals1 rv;obtain⟨a,vs,rfl,sq,el⟩:=p8 ba hs;cases ru;have main:∀its:List Value,Vals vs its->(s.heap.IsList a its.toArray\/s.heap.IsTuple a its.toArray)->vs.length<=sizeLine->wpAny (model X.prog X.w) X.A (call (.builtin "sorted") [.ref a]) (EP X pins σ Q) X.xe s:=fun its r t hz=>by
  have hn:its.length=ds.length:=r.length.symm.trans el.1;have rr:∀(i:Nat) u d,its[i]?=some u->ds[i]?=some d->RH s.heap u d:=fun i u d e1 e2=>by
   obtain⟨v,e3,rv⟩:=cU r i u e1;exact(el.2 i v d e3 e2).rh (pl d (Xb e2)) I h rv
  have hz':its.length<=sizeLine:=by rw[<-r.length];exact hz
  refine vO t hz' hn rr pl ca hk hr.units (by lia) fun γ p g=>?_
  rw[hn]at p g;obtain⟨e,he⟩:=sortedAll_at s.heap its (bB its γ);have hγ:∀g∈γ.toList,g<ds.length:=fun g hg=>by
   have:=(Zh.mp p).mem_iff.mp hg;rw[Zn]at this;exact Qj.mp this
  have eo:=GK ca p g
  let ws:List V:=γ.toList.map fun g=>vs.getD g .non
  have vw:Vals ws (bB its γ).toList:=by
   have e2:(bB its γ).toList=γ.toList.map fun g=>its.getD g .none:=by unfold bB;simp
   rw[e2];have:∀l:List Nat,(∀g∈l,g<ds.length)->Vals (l.map fun g=>vs.getD g .non) (l.map fun g=>its.getD g .none):=fun l=>by
    induction l with
    |nil=>exact fun _=>.nil
    |cons g l ih=>
     intro hl;have hg:g<ds.length:=hl g Va;have a1:its[g]?=some its[g]:=Ya (by lia)
     obtain⟨v,e3,rv⟩:=cU r g _ a1;refine .cons ?_ (ih fun x hx=>hl x (Vb _ hx));show RelV (vs.getD g .non) (its.getD g .none);rw[Qa,Qa,e3,a1];exact rv
   exact this _ hγ
  have elw:El K Y H ws (de 40 ds):=by
   rw[<-eo];refine⟨by simp[ws],fun i v d h1 h2=>?_⟩
   rw[Yd]at h1 h2;obtain⟨g1,k1,k2⟩:=Vc.mp h1;obtain⟨g2,k3,k4⟩:=Vc.mp h2;rw[k1]at k3;cases k3;have hg:g1<ds.length:=hγ g1 (Xb k1);have d1:ds[g1]?=some ds[g1]:=Ya hg;obtain⟨v',e3,da⟩:=el.at d1;rw[ou d1]at k4;rw[Qa,e3]at k2;subst k4;have:v'=v:=k2;subst this;exact da
  have hlw:ws.length=ds.length:=by
   show(γ.toList.map _).length=_;rw[Za,Wd,p.size_eq,Zk]
  refine⟨.ref (s.heap.objs.size+1),upd H (s.heap.objs.size+1) (.lst ws),I.laid (t':=s.toks) (fun b o z=>sortedAll_old z) (Nat.le_succ _) ⟨by lia,(bB its γ).toList,e,vw,by simpa using he⟩,rfl,q _ ws (I.hok.fresh (Nat.le_succ _)) elw⟩
 rcases sq with sq|sq
 ·obtain⟨its,r,t,hz⟩:=I.list (h ▸ sq);exact main its r (.inl t.isList) hz
 ·obtain⟨its,r,t,hz⟩:=I.tuple (h ▸ sq);exact main its r (.inr t) hz
open Classical in
noncomputable def bO:List D->Option Rz
 | [d]=>match d.seq with|some ds=>if (∀x∈ds,Pl 40 x)/\CA 40 ds/\(∃κ,Kd ds κ)/\ds.length<64 then some (.lst (de 40 ds),true) else none|none=>none
 |_=>none
theorem GM:RdCB K (GL K) bO:=by
 intro Y H xs ds z Q lv bs e q;cases bs with
 |nil=>cases e
 |@cons v vs d ds b1 bs=>
  cases bs with
  |cons _ _=>cases e
  |nil=>
   unfold bO at e;dsimp only at e;split at e
   ·rename_i xs hs
    obtain⟨c,e⟩:=aM e;cases e;obtain⟨c1,c2,⟨κ,c3⟩,c4⟩:=c;exact⟨Y,v,d,xs,κ,rfl,b1,hs,c1,c2,c3,c4,fun p ws hp el=>q _ _ (aY hp _) (fZ el hp)⟩
   ·cases e
end
end VF
namespace VF22
open PySem PySem.Spec PyProof.Rows L2 VF
def keyD:D->Option Key|.int i=>some (.inl i)|.str x=>some (.inr x)|_=>none
def zc:List D->Option (List Key)|[]=>some []|d::r=>(keyD d).bind fun k=>(zc r).bind fun ks=>some (k::ks)
section
variable {κ:Type}[DecidableEq κ]
def cg(kvs:List (κ×D))(k:κ):Option D:=(kvs.find? fun kv=>decide (kv.1=k)).map (·.2)
def gZ(kvs:List (κ×D))(k:κ)(d:D):List (κ×D):=if (kvs.any fun kv=>decide (kv.1=k))=true then kvs.map (fun kv=>if kv.1=k then(kv.1,d) else kv) else kvs++[(k,d)]
def Go(R:V->D->Prop)(kvs:List (κ×V))(ds:List (κ×D)):Prop:=kvs.map (·.1)=ds.map (·.1)/\∀(i:Nat) v d,kvs[i]?=some v->ds[i]?=some d->R v.2 d.2
def Go.nil:Go R ([]:List (κ×V)) []:=⟨rfl,fun i v d h _=>by simp at h⟩
def Go.cons(h1:p.1=q.1)(h2:R p.2 q.2)(t:Go R kvs ds):Go R (p::kvs) (q::ds):=by grind [Go]
def Go.un(h:Go R (p::kvs) (q::ds)):p.1=q.1/\R p.2 q.2/\Go R kvs ds:=by
 obtain⟨h1,h2⟩:=h;rw[Yh,Yh]at h1;injection h1 with a b;exact⟨a,h2 0 p q rfl rfl,b,fun i v d x y=>h2 (i+1) v d x y⟩
theorem Go.look:∀{kvs:List (κ×V)}{ds:List (κ×D)}(k:κ),Go R kvs ds->(lg kvs k=none/\cg ds k=none)\/∃v d,lg kvs k=some v/\cg ds k=some d/\R v d
 |[],[],_,_=>.inl ⟨rfl,rfl⟩
 |[],_::_,_,h=>by have:=h.1;simp at this
 |_::_,[],_,h=>by have:=h.1;simp at this
 | p::ps,q::qs,k,h=>by
  obtain⟨h1,h2,h3⟩:=h.un;by_cases e:p.1=k
  ·refine .inr ⟨p.2,q.2,mC e,?_,h2⟩;simp[cg,Zm,h1.symm.trans e]
  ·have e':¬ q.1=k:=fun z=>e (h1.trans z);rw[mD e,show cg (q::qs) k=cg qs k by simp[cg,Zm,e']]
   exact h3.look k
theorem Go.any{kvs:List (κ×V)}{ds:List (κ×D)}(h:Go R kvs ds)(k:κ):(kvs.any fun kv=>decide (kv.1=k))=ds.any fun kv=>decide (kv.1=k):=by
 have a:∀l:List (κ×V),(l.any fun kv=>decide (kv.1=k))=(l.map (·.1)).any fun x=>decide (x=k):=fun l=>by rw[Dl];rfl
 rw[a,h.1,Dl];rfl
theorem Go.repl(k:κ)(r:R y d):∀{kvs:List (κ×V)}{ds:List (κ×D)},Go R kvs ds->Go R (kvs.map fun kv=>if kv.1=k then(kv.1,y) else kv) (ds.map fun kv=>if kv.1=k then(kv.1,d) else kv)
 |[],[],_=>Go.nil
 |[],_::_,h=>by have:=h.1;simp at this
 |_::_,[],h=>by have:=h.1;simp at this
 | p::ps,q::qs,h=>by
  obtain⟨h1,h2,h3⟩:=h.un;rw[Yh,Yh];by_cases e:p.1=k
  ·rw[Ag e,Ag (h1.symm.trans e)];exact Go.cons h1 r (h3.repl k r)
  ·rw[Aj e,Aj fun z=>e (h1.trans z)];exact Go.cons h1 h2 (h3.repl k r)
theorem Go.snoc(k:κ)(r:R y d):∀{kvs:List (κ×V)}{ds:List (κ×D)},Go R kvs ds->Go R (kvs++[(k,y)]) (ds++[(k,d)])
 |[],[],_=>Go.cons rfl r Go.nil
 |[],_::_,h=>by have:=h.1;simp at this
 |_::_,[],h=>by have:=h.1;simp at this
 | p::ps,q::qs,h=>by
  obtain⟨h1,h2,h3⟩:=h.un;exact Go.cons h1 h2 (h3.snoc k r)
def Go.put(k:κ)(h:Go R kvs ds)(r:R y d):Go R (putK kvs k y) (gZ ds k d):=by
 unfold putK gZ;rw[h.any k];split
 ·exact h.repl k r
 ·exact h.snoc k r
def Go.len{kvs:List (κ×V)}{ds:List (κ×D)}(h:Go R kvs ds):kvs.length=ds.length:=by
 have:=congrArg List.length h.1;rwa [Za,Za]at this
def Go.map(h:Go R kvs ds)(f:∀v d,R v d->S v d):Go S kvs ds:=⟨h.1,fun i v d a b=>f _ _ (h.2 i v d a b)⟩
end
section
variable {K:Ab}{Y:AS}{H:Hp}
theorem Pu(h:DA K Y H v d)(e:keyD d=some k):v=kV k:=by
 cases d with|int i=>cases e;cases h;rfl|str x=>cases e;cases h;rfl|_=>cases e
theorem LO(h:BA K Y H v d)(e:keyD d=some k):v=kV k:=by
 cases d with|int i=>cases e;exact h|str x=>cases e;exact h|_=>cases e
theorem xj:∀{ds:List D}{vs:List V}{ks:List Key},El K Y H vs ds->zc ds=some ks->vs=ks.map kV
 | [],vs,ks,h,e=>by
  cases e;obtain rfl:=h.unnil;rfl
 | d::r,vs,ks,h,e=>by
  refine bsO e fun k e1 e=>?_;refine bsO e fun ks' e2 e=>?_;cases e;obtain⟨v,vr,rfl,da,el⟩:=h.uncons;rw[Pu da e1,xj el e2];rfl
def atD:D->D->Option (Option D)|.dt kvs,.tup ds=>(zc ds).bind fun ks=>some (cg kvs ks)|.dk kvs,d=>(keyD d).bind fun k=>some (cg kvs k)|_,_=>none
theorem Pv(b1:BA K Y H x d1)(b2:BA K Y H y d2)(e:atD d1 d2=some o):∃(a:Addr)(r:Option V),x=.ref a/\DGet H a y r/\((r=none/\o=none)\/∃v d,r=some v/\o=some d/\DA K Y H v d):=by
 cases d1 with
 |dt kvs=>
  cases d2 with
  |tup ds=>
   refine bsO e fun ks e1 e=>?_;cases e;obtain⟨a,ep,kv,rfl,_,h1,h2,h3⟩:=b1;obtain⟨b,vs,rfl,t,el⟩:=b2;have:=xj el e1;subst this;exact⟨a,_,rfl,DGet.t h1 t.1,Go.look ks ⟨h2,h3⟩⟩
  |_=>cases e
 |dk kvs=>
  refine bsO e fun k e1 e=>?_;cases e;obtain⟨a,kv,rfl,h1,h2,h3⟩:=b1;have:=LO b2 e1;subst this;exact⟨a,_,rfl,DGet.k h1,Go.look k ⟨h2,h3⟩⟩
 |_=>cases e
def rDG:R2:=fun x y H Q=>∃a v,x=.ref a/\DGet H a y (some v)/\Q v H
def jL:D->D->Option Rz:=fun d1 d2=>(atD d1 d2).bind fun o=>o.bind fun d=>some (d,false)
def JZ:RdOp K rDG jL:=by
 intro Y H x y d1 d2 z Q lv b1 b2 e q;refine bsO e fun o e1 e=>?_;obtain⟨d,rfl,e⟩:=Option.bind_eq_some_iff.mp e;cases e;obtain⟨a,r,rfl,g,h|⟨v,d',rfl,h2,da⟩⟩:=Pv b1 b2 e1
 ·cases h.2
 ·cases h2;exact⟨a,v,rfl,g,q v H (Same.refl H) da⟩
def Pw(neg:Bool):R2:=fun y x H Q=>∃(a:Addr)(o:Option V),x=.ref a/\DGet H a y o/\Q (.bl (if neg then !o.isSome else o.isSome)) H
def GN(neg:Bool):D->D->Option Rz:=fun d2 d1=>(atD d1 d2).bind fun o=>some (.bl (if neg then !o.isSome else o.isSome),false)
def NO(neg:Bool):RdOp K (Pw neg) (GN neg):=by
 intro Y H y x d2 d1 z Q lv b2 b1 e q;refine bsO e fun o e1 e=>?_;cases e;obtain⟨a,r,rfl,g,h⟩:=Pv b1 b2 e1;refine⟨a,r,rfl,g,?_⟩;have:r.isSome=o.isSome:=by
  rcases h with⟨rfl,rfl⟩|⟨v,d,rfl,rfl,_⟩<;>rfl
 rw[this];exact q _ H (Same.refl H) (.bl _)
def LP:I0:=fun x k v H Q=>∃a,x=.ref a/\OQ H a k v Q
def mP:D->D->D->Option D|.dt kvs,.tup ds,v=>(zc ds).bind fun ks=>if kvs.length<100000 then some (.dt (gZ kvs ks v)) else none|.dk kvs,d,v=>(keyD d).bind fun k=>if kvs.length<100000 then some (.dk (gZ kvs k v)) else none|_,_,_=>none
def D2:Fv K LP mP:=by
 intro Y H p x k v dk dv x' Q hp ho bk da e q;have lim:(100000:Nat)<=sizeLine:=by rw[B9];decide
 cases x with
 |dt kvs=>
  cases dk with
  |tup ds=>
   refine bsO e fun ks e1 e=>?_;by_cases c:kvs.length<100000
   ·rw[Ag c]at e;cases e;obtain⟨ep,kv,ka,h1,h2,h3⟩:=ho;obtain⟨b,vs,rfl,t,el⟩:=bk;have:=xj el e1;subst this;have g:Go (DA K Y H) kv kvs:=⟨h2,h3⟩;refine⟨p,rfl,.inr ⟨ep,kv,ks,b,h1,rfl,t.1,by have:=g.len;lia,fun n=>q _ ?_⟩⟩
    have g':=(g.put ks da).map (S:=DA K Y (upd H p (.dT (n,Dz ep.2 kv ks b) (putK kv ks v)))) fun v d h=>h.upd hp;refine⟨(n,Dz ep.2 kv ks b),_,KA.go (Y:=Y) (H:=H) (fun c hc=>?_) (fun c o e n=>by rw[aR fun z=>n (by rw[z];exact hp)];exact e) (fun c z=>.inl z),bq,g'.1,g'.2⟩
    unfold Dz at hc;split at hc
    ·exact ka c hc
    ·rcases Zc.mp hc with hc|hc
     ·exact ka c hc
     ·rw[Wa.mp hc];exact⟨t.2,by rw[t.1];simp⟩
   ·rw[Aj c]at e;cases e
  |_=>cases e
 |dk kvs=>
  refine bsO e fun kk e1 e=>?_;by_cases c:kvs.length<100000
  ·rw[Ag c]at e;cases e;obtain⟨kv,h1,h2,h3⟩:=ho;have:=LO bk e1;subst this;have g:Go (DA K Y H) kv kvs:=⟨h2,h3⟩;refine⟨p,rfl,.inl ⟨kv,kk,h1,rfl,by have:=g.len;lia,q _ ?_⟩⟩
   have g':=(g.put kk da).map (S:=DA K Y (upd H p (.dK (putK kv kk v)))) fun v d h=>h.upd hp;exact⟨_,bq,g'.1,g'.2⟩
  ·rw[Aj c]at e;cases e
 |_=>cases e
def sF(d:D):FE:=fun st=>some (.f d,st)
def GO:RdE K Fb (sF (.dt [])):=by
 intro st σ H O Z Q E r st' h q;cases h;intro p hp;have hres:RES K (U O Z) H (upd H p (.dT (0,[]) [])) (.ref p) (.dt [],true):=⟨p,rfl,hp,(0,[]),[],(fun _ z=>nomatch z),bq,rfl,fun i v d a _=>by simp at a⟩
 obtain⟨E3,rv⟩:=hres.rv E (aY hp _);exact q _ _ O (Same.ext (aY hp _)) (Kp.refl _) E3 rv fun p' e=>by cases e;exact hp
def GP:RdE K E9 (sF (.dk [])):=by
 intro st σ H O Z Q E r st' h q;cases h;intro p hp;have hres:RES K (U O Z) H (upd H p (.dK [])) (.ref p) (.dk [],true):=⟨p,rfl,hp,[],bq,rfl,fun i v d a _=>by simp at a⟩
 obtain⟨E3,rv⟩:=hres.rv E (aY hp _);exact q _ _ O (Same.ext (aY hp _)) (Kp.refl _) E3 rv fun p' e=>by cases e;exact hp
end
section
variable {X:Cx}
def jZ(hu:X.A.units+1<cLine)(ho:PE X o td)(hi:PE X i ty)(hs:Mq i):PE X (.Subscript o i pos) (tOp rDG td ty):=Je hu ho hi hs
def sG(hu:X.A.units+1<cLine):OpR X (compareOp .NotIn) (Pw true):=by
 intro pins s σ H y x v u Q I ry rx h;obtain⟨a,o,rfl,g,q⟩:=h;cases rx;exact Jc hu I g ry fun s' I'=>⟨.bl (!o.isSome),H,I',rfl,q⟩
def iN(hu:X.A.units+1<cLine):Me X LP:=by
 intro pins s σ H o i v ov iv u Q I ro ri rv h;obtain⟨a,rfl,g⟩:=h;cases ro;exact DC hu I g ri rv fun s' H' I' q=>⟨H',I',q⟩
end
end VF22
namespace VF22
open PySem PySem.Spec PyProof.Rows L2 VF
section
variable {prog:Program}{w:World}{A:Around}{E:Value->Shared->Prop}{s:Shared}
def RawD(h:Heap)(d:Addr)(es:Array DictEntry)(ep:Nat):Prop:=∃o,h.get? d=some o/\o.ExactDict/\o.data=.dict es ep
def RawD.at{h h':Heap}(x:RawD h d es ep)(e:∀o,h.get? d=some o->h'.get? d=some o):RawD h' d es ep:=let ⟨o,ho,r⟩:=x;⟨o,e _ ho,r⟩
def RawD.typeIs(x:RawD s.heap d es ep):s.TypeIs (.ref d) "dict":=let ⟨o,ho,c,_⟩:=x;⟨o,ho,c.1⟩
def GQ{es:Array DictEntry}(hd:(d == sysModules)=false)(hm:RawD s.heap d es ep)
  (q:Q (.ref s.heap.objs.size) { s with heap:=s.heap.push { cls:=.type "dict_keyiterator",data:=.fields #[.ref d,.int 0 0,.int es.size 0,.int ep 0] } }) :
  wpAny (model prog w) A (pyIter (.ref d)) Q E s:=by
 have ty:=hm.typeIs;obtain⟨o,ho,hc,dat⟩:=hm;refine wpAny_pyIter_slot ty F.slot_dict_iter (Ao F.slot_dict_iter ty F.entry_dict_iter ?_ (F.args_dict_iter_1 _));unfold Builtin.«dict.__iter__»;refine Aa ?_;unfold Builtin.Dict.dictSlotNone;refine Aa (wpAny_notOrdered_dict ty ?_);show wpAny _ _ (pure (Value.ref d)) _ _ s;refine Ad ?_;show wpAny _ _ (Builtin.Dict.showsAll d >>= _) _ _ s;unfold Builtin.Dict.showsAll;rw[Aj (by rw[hd];exact Qd)]
 refine Aa (Ad (Aa (Cs ho dat (Aa (CS ho dat ?_)))));refine Aa (Aq (Ad ⟨_,rfl,"dict_keyiterator",_,⟨_,Ah _ rfl,rfl⟩,F.slot_dict_keyiterator_next.lookup,?_⟩));simpa[rawInt]using q
def GR{es:Array DictEntry}{x:DictEntry}(hit:s.heap.IsKeyIter it d i es.size ep)(hm:RawD s.heap d es ep)(hx:es[i]?=some x)
  (q:∀h',h'.IsKeyIter it d (i+1) es.size ep->Heap.SameBut it s.heap h'->Q (some x.key) { s with heap:=h' }):wpAny (model prog w) A (pyNext (.ref it)) Q E s:=by
 obtain⟨o,ho,hc,hd⟩:=id hit;obtain⟨od,hod,hcd,hdd⟩:=hm;unfold pyNext;refine Aa (AF (Am (name:=Str.ofString "__next__") hit.typeIs F.slot_dict_keyiterator_next (Ao F.slot_dict_keyiterator_next hit.typeIs F.entry_dict_keyiterator_next ?_ (F.args_dict_keyiterator_next_1 _))));refine Aa (Ad (Aa (Aa ?_)));refine Aa (AK hit.typeIs (Ad (Aa (wpAny_fieldsOf ho hd ?_))));have own:Builtin.Dict_items.ownsTuple "dict_keyiterator"=false:=by decide
 simp only[own,Qe,if_false];show wpAny _ _ (if (Value.ref d == Value.none)=true then _ else _) _ _ s;rw[Aj (show ¬ ((Value.ref d == Value.none)=true) from Qd)];refine Aa (Ad (Aa (Cs hod hdd ?_)));rw[Aj (by simp)];refine Aa (Ad (Aa (CS hod hdd ?_)))
 rw[Aj (by simp)];refine Ad ?_
 have hlt:i<es.size:=(Array.getElem?_eq_some_iff.mp hx).1;have ex:es[i]=x:=(Array.getElem?_eq_some_iff.mp hx).2;simp only[show ¬ ((i:Int)<0) from by lia,if_false,Xn,hx]
 refine Aa (Aa (AK hit.typeIs (Ad (Aa (wpAny_isOneOf_keyiter hit.typeIs ?_)))));show wpAny _ _ (setField (.ref it) 1 (rawInt ((i:Int)+1)) >>= _) _ _ s;refine Aa (AV ho hd (by simp) ?_)
 have hit':(s.heap.update it (Obj.mapFields (·.setIfInBounds 1 (rawInt ((i:Int)+1))))).IsKeyIter it d (i+1) es.size ep:=⟨_,AT _ ho (Bc (Az hd _)),(Cy ..).trans hc,by rw[Az hd];simp[rawInt]⟩
 refine Aa (AA (Aa (wpAny_isOneOf_keyiter (s:={ s with heap:=s.heap.update it (Obj.mapFields (·.setIfInBounds 1 (rawInt ((i:Int)+1)))) }) hit'.typeIs ?_)));show wpAny _ _ (pure x.key) _ _ _;exact Ad (Ad ⟨_,rfl,Ad (q _ hit' (AD ..))⟩)
def J0{es:Array DictEntry}(hh:A.handled=none)(hit:s.heap.IsKeyIter it d i es.size ep)(hm:RawD s.heap d es ep)(hx:es.size<=i)
  (q:∀h',Heap.ExtBut it s.heap h'->Q none { s with heap:=h' }):wpAny (model prog w) A (pyNext (.ref it)) Q E s:=by
 obtain⟨o,ho,hc,hd⟩:=id hit;obtain⟨od,hod,hcd,hdd⟩:=hm;unfold pyNext;refine Aa (AF (Am (name:=Str.ofString "__next__") hit.typeIs F.slot_dict_keyiterator_next (Ao F.slot_dict_keyiterator_next hit.typeIs F.entry_dict_keyiterator_next ?_ (F.args_dict_keyiterator_next_1 _))));refine Aa (Ad (Aa (Aa ?_)));refine Aa (AK hit.typeIs (Ad (Aa (wpAny_fieldsOf ho hd ?_))));have own:Builtin.Dict_items.ownsTuple "dict_keyiterator"=false:=by decide
 simp only[own,Qe,if_false];show wpAny _ _ (if (Value.ref d == Value.none)=true then _ else _) _ _ s;rw[Aj (show ¬ ((Value.ref d == Value.none)=true) from Qd)];refine Aa (Ad (Aa (Cs hod hdd ?_)));rw[Aj (by simp)];refine Aa (Ad (Aa (CS hod hdd ?_)))
 rw[Aj (by simp)];refine Ad ?_
 simp only[show ¬ ((i:Int)<0) from by lia,if_false,Xn,Dm hx]
 refine Aa (Aa (AK hit.typeIs (Ad ?_)));show wpAny _ _ (setField (.ref it) 0 .none >>= _) _ _ s;refine Aa (AV ho hd (by simp) ?_)
 show wpAny _ _ (newExc (.type "StopIteration") [] >>= _) _ _ _;refine Aa ?_;simp only[newExc,newTuple];refine Aa (Aq ?_ (by size_fits))
 refine Aa (m:=firstArgMember _ _) (AX (a:=Value.none) (by first|rfl|(simp only[firstArgMember];rfl)) (Aq ?_ (by size_fits)))
 simp only[raiseNew];refine Aa (wpAny_handled ?_);rw[show A.in1.handled=none from hh];refine Aa (Ad (wpAny_throw ?_));refine Aa (Be (T:="StopIteration") (b:=true) ⟨_,Ah _ rfl,rfl⟩ Cc (Ad (q _ ?_)));exact((AD ..).extBut.push _).push _
def D3(hh:A.handled=none)(I d:Addr)(hne:d≠I)(es:Array DictEntry)(ep:Nat) :
  Walks prog w A I [I,d] [I] es.size (fun i v=>(es[i]?).map (·.key)=some v) (fun i h=>h.IsKeyIter I d i es.size ep/\RawD h d es ep) where
 sub:=fun b hb=>by simp at hb;simp[hb]
 frame:=fun _ _ _ st hk=>⟨st.1.at fun o e=>hk I (by simp) o e,st.2.at fun o e=>hk d (by simp) o e⟩
 item:=fun i s Q E hi st hQ=>by
  have hx:es[i]?=some es[i]:=Yi hi;refine GR st.1 st.2 hx fun h' hit' hs'=>hQ _ h' s.toks (by rw[hx];rfl) ⟨hit',st.2.at fun o e=>hs'.extBut d o hne e⟩ fun b o hb e=>hs'.extBut b o (fun z=>hb (by simp[z])) e
 done:=fun s Q E st hQ=>J0 hh st.1 st.2 (Wb _) fun h' he'=>hQ h' s.toks fun b o hb e=>he' b o (fun z=>hb (by simp[z])) e
 self:=fun _ _ _ _ st hQ=>wpAny_pyIter_keyiter st.1 hQ
end
end VF22
namespace VF22
open PySem PySem.Spec PyProof.Rows L2 VF
section
variable {P:Program}{w:World}{H:Hp}{h:Heap}{a:Addr}{ep:Nat×List Addr}{kvs:List (List Key×V)}
def GS(ok:HOk P w H h)(e:H a=some (.dT ep kvs)):kvs.length<=sizeLine/\(a == sysModules)=false/\∃(xs:List (List Key×Addr×Value))(es:Array DictEntry),KT H kvs xs/\xs.map (·.2.1)=ep.2/\es.toList=xs.map (entryOfKey (tupleKind (cF P w)))/\RawD h a es ep.1/\es.size=kvs.length:=by
 obtain⟨z,y,xs,r,ra,o,es,h1,h2,h3,h4,h5⟩:=(show ObjOk P w H h a (.dT ep kvs) from ok a _ e);refine⟨z,y,xs,es,r,ra,h4,⟨o,h1,h2,h3⟩,?_⟩;have:=congrArg List.length h4;rw[Za,Wd]at this;rw[this,<-Paired.length r]
def GU{xs:List (List Key×Addr×Value)}{es:Array DictEntry}(r:KT H kvs xs)(ra:xs.map (·.2.1)=ep.2)(he:es.toList=xs.map (entryOfKey (tupleKind (cF P w)))){i:Nat}{x:DictEntry}(hx:es[i]?=some x) :
  ∃k v b,kvs[i]?=some (k,v)/\ep.2[i]?=some b/\x.key=.ref b/\H b=some (.tup (k.map kV)):=by
 rw[<-Qi,he,Yd]at hx;obtain⟨q,e1,e2⟩:=Vc.mp hx;have hb:ep.2[i]?=some q.2.1:=by rw[<-ra,Yd,e1];rfl
 have hl:=Paired.length r;have hi:i<kvs.length:=by rw[hl];exact(Zd.mp e1).1
 have go:∀{l:List (List Key×V)}{m:List (List Key×Addr×Value)},KT H l m->∀{j:Nat}{p:List Key×V}{q:List Key×Addr×Value},l[j]?=some p->m[j]?=some q->H q.2.1=some (.tup (p.1.map kV)):=fun {l m} t=>by
  induction t with
  |nil=>intro j p q h1;simp at h1
  |cons hq t ih=>
   intro j p q h1 h2;cases j with
   |zero=>
    cases h1;cases h2;exact hq.2.1
   |succ j=>exact ih (by simpa using h1) (by simpa using h2)
 have ek:kvs[i]?=some (kvs[i].1,kvs[i].2):=Ya hi;refine⟨kvs[i].1,kvs[i].2,q.2.1,ek,hb,by rw[<-e2];rfl,go r ek e1⟩
end
section
variable {X:Cx}{K:Ab}{O O' Z:AS}{H H':Hp}{tg:Expr}
def fH:Key->D|.inl i=>.int i|.inr x=>.str x
theorem NP(k:Key):DA K Y H (kV k) (fH k):=by
 cases k with|inl i=>exact .int i|inr x=>exact .str x
theorem ud:∀ks:List Key,El K Y H (ks.map kV) (ks.map fH)|[]=>El.nil|k::r=>El.cons (NP k) (ud r)
def qj{k:List Key}(h:H b=some (.tup (k.map kV)))(n:¬ Y b):DA K Y H (.ref b) (.tup (k.map fH)):=.tup ⟨h,n⟩ (ud (K:=K) (H:=H) (Y:=Y) k).1 (ud k).2
def pA:D->Option (List D)|.dt kvs=>some (kvs.map fun kv=>.tup (kv.1.map fH))|_=>none
end
end VF22
namespace VF22
open PySem PySem.Spec PyProof.Rows L2 VF TS
section
variable {prog:Program}{w:World}{A:Around}{E:Value->Shared->Prop}{s:Shared}
def RawD.lt{h:Heap}(x:RawD h d es ep):d<h.objs.size:=let ⟨_,ho,_⟩:=x;Ai ho
def zd{es:Array DictEntry}(lo:(d == sysModules)=false):PySem.W.KdlSrc prog w "dict" d d es.size (fun i v=>(es[i]?).map (·.key)=some v) (fun h=>RawD h d es ep) where
 type:=fun _ m=>m.typeIs
 there:=fun _ m=>⟨m.lt,m.lt⟩
 keep:=fun _ _ m k=>m.at fun o e=>k d (.inl rfl) o e
 notList:=by decide
 notTuple:=by decide
 hint:=fun _ _ _ _ m q=>PySem.W.kdl_hint_dict m.typeIs q
 iter:=fun _ _ hh m=>⟨_,_,(fun _ _ q=>GQ lo m q),D3 hh _ d (Qf m.lt) es ep,⟨⟨_,Ah _ rfl,rfl,rfl⟩,m.at fun o e=>Ac _ e⟩⟩
def vP{es:Array DictEntry}(hh:A.handled=none)(lo:(d == sysModules)=false)(hm:RawD s.heap d es ep)(hz:es.size<=sizeLine)
  (q:∀h' tk,(∀b o,s.heap.get? b=some o->h'.get? b=some o)->Q (es.toList.map (·.key)) { s with heap:=h',toks:=tk }):wpAny (model prog w) A (collect (.ref d)) Q E s:=by
 refine PySem.W.kdu_collect (zd lo) hh hm hz fun h' tk acc' kp hi=>?_;have e:acc'.toList=es.toList.map (·.key):=by
  refine Bh (by rw[Wd,hi.1,Za,Wd]) fun i h1 h2=>?_
  have a:(es[i]?).map (·.key)=some acc'[i]:=hi.2 i acc'[i] (Yi (by simpa using h1))
  rw[Yi (by rw[Za,Wd]at h2;exact h2)]at a
  have a':=Option.some.inj a;rw[Array.getElem_toList,CN,Array.getElem_toList];exact a'.symm
 rw[e];exact q h' tk kp
def D4{vs:List Value}{ds:List D}(hh:A.handled=none)
  (coll:∀(A:Around)(E:Value->Shared->Prop)(Q:List Value->Shared->Prop),A.handled=none->(∀h' tk,(∀b o,s.heap.get? b=some o->h'.get? b=some o)->Q vs { s with heap:=h',toks:=tk })->wpAny (model prog w) A (collect x) Q E s)(hz:vs.length<=sizeLine)
  (hn:vs.length=ds.length) (r:∀(i:Nat) u d,vs[i]?=some u->ds[i]?=some d->RH s.heap u d) (pl:∀d∈ds,Pl 40 d) (ca:CA 40 ds) (hk:Kd ds κ) (hu:A.units+64<cLine) (h64:vs.length<64)
  (fin:∀(γ:Array Nat)(h':Heap)(a:Addr)(n tk:Nat),γ.Perm (Array.range vs.length)->Sg (cD ds) γ 0 vs.length->(∀b o,s.heap.get? b=some o->h'.get? b=some o)->(∀b o,s.heap.get? b=some o->b≠a)->h'.get? a=some (seqObj "list" (bB vs γ) n)->Q (.ref a) { s with heap:=h',toks:=tk }) :
  wpAny (model prog w) A (call (.builtin "sorted") [x]) Q E s:=by
 refine C7 kind_sorted plain_sorted entry_sorted (args_sorted1 _) ?_;refine Aa (m:=checkCount "sorted" 1 1 _) (Ad (Aa (coll _ _ _ hh fun h1 tk kp=>Aa (Bi ?_))));have mine:(h1.push (seqObj "list" vs.toArray 0)).get? h1.objs.size=some (seqObj "list" vs.toArray 0):=Ah _ rfl;show wpAny _ _ _ _ _ { s with heap:=h1.push (seqObj "list" vs.toArray 0),toks:=tk };refine Aa (AA (Ao slot_list_sort ⟨_,mine,rfl⟩ entry_list_sort ?_ (args_list_sort _)));have old2:∀b o,s.heap.get? b=some o->b≠h1.objs.size:=fun b o e=>Qf (Ai (kp b o e));refine sE (s:={ s with heap:=h1.push (seqObj "list" vs.toArray 0),toks:=tk }) mine hz hn (fun i u d e1 e2=>(r i u d e1 e2).kept fun b o e=>?_) pl ca hk (by show A.units+1+1+40<cLine;lia) h64 fun γ p g=>?_
 ·exact Ac _ (Ac _ ((Ay _ _ _ _ (old2 b o e)).trans (Ac _ (kp b o e))))
 ·obtain⟨n,hn'⟩:=sortedHeap_at (n:=0) (vs:=vs) (out:=bB vs γ) mine;refine⟨_,rfl,Ad ⟨_,rfl,fin γ _ _ n tk p g (fun b o e=>?_) old2 hn'⟩⟩;have hb:b<(h1.push (seqObj "list" vs.toArray 0)).objs.size:=by rw[size_push'];exact A9 (Ai (kp b o e))
  rw[sortedHeap_old (old2 b o e) hb];exact Ac _ (kp b o e)
end
section
variable {X:Cx}{K:Ab}{Y:AS}{H:Hp}
def GW:List V->Hp->VK->Prop:=fun xs H Q=>∃(a:Addr)(ep:Nat×List Addr)(kvs:List (List Key×V))(κ:SortKind),xs=[.ref a]/\H a=some (.dT ep kvs)/\(∀x∈kvs.map (fun kv=>D.tup (kv.1.map fH)),Pl 40 x)/\CA 40 (kvs.map fun kv=>D.tup (kv.1.map fH))/\Kd (kvs.map fun kv=>D.tup (kv.1.map fH)) κ/\(kvs.map fun kv=>D.tup (kv.1.map fH)).length<64 /\
 ∀(p:Addr)(bs:List Addr),H p=none->(∀b∈bs,b∈ep.2)->(∃ks:List (List Key),ks.map (fun k=>D.tup (k.map fH))=de 40 (kvs.map fun kv=>D.tup (kv.1.map fH))/\bs.length=ks.length/\∀(i:Nat) b k,bs[i]?=some b->ks[i]?=some k->H b=some (.tup (k.map kV)))->Q (.ref p) (upd H p (.lst (bs.map V.ref)))
def qk(h:X.K=K)(hc:X.calm=true)(hr:Room n X.A):CallR X (.builtin "sorted") GW:=by
 intro pins s σ H xs us Q I rv hh;obtain⟨a,ep,kvs,κ,rfl,ha,pl,ca,hk,h64,q⟩:=hh;obtain⟨u,rfl,ru⟩:=vals1 rv;cases ru;obtain⟨hz,lo,xs,es,rk,ra,he,rw',esz⟩:=GS I.hok ha;have key:∀(i:Nat)(x:DictEntry),es[i]?=some x->∃k v b,kvs[i]?=some (k,v)/\ep.2[i]?=some b/\x.key=.ref b/\H b=some (.tup (k.map kV)):=fun i x hx=>GU rk ra he hx;have ln:(es.toList.map (·.key)).length=(kvs.map fun kv=>D.tup (kv.1.map fH)).length:=by rw[Za,Za,Wd,esz]
 have at_:∀(i:Nat) u,(es.toList.map (·.key))[i]?=some u->∃k v b,kvs[i]?=some (k,v)/\ep.2[i]?=some b/\u=.ref b/\H b=some (.tup (k.map kV)):=fun i u e=>by
  rw[Yd]at e;obtain⟨x,e1,e2⟩:=Vc.mp e;obtain⟨k,v,b,g1,g2,g3,g4⟩:=key i x (by rw[<-Qi];exact e1)
  exact⟨k,v,b,g1,g2,by rw[<-e2];exact g3,g4⟩
 refine D4 (vs:=es.toList.map (·.key)) (ds:=kvs.map fun kv=>D.tup (kv.1.map fH)) (κ:=κ) (I.ok.hd hc) (fun A E Q hA q=>vP hA lo rw' (by rw[esz];exact hz) q) (by rw[Za,Wd,esz];exact hz) ln (fun i u d e1 e2=>?_) pl ca hk hr.units (ln ▸ h64) fun γ h' p n tk pm g kp ge hat=>?_
 ·obtain⟨k,v,b,g1,g2,rfl,g4⟩:=at_ i u e1;have e2':=e2;rw[Yd,g1]at e2;cases e2;have da:DA K (fun _=>False) H (.ref b) (.tup (k.map fH)):=qj g4 fun z=>z;exact da.rh (pl _ (Xb e2')) I h rfl
 ·rw[ln]at pm g;have hpn:H p=none:=by
   cases e:H p with
   |none=>rfl
   |some o=>
    obtain⟨ob,e'⟩:=(I.hok p o e).there;exact absurd rfl (ge p ob e')
  have eo:=GK ca pm g;have hγ:∀g∈γ.toList,g<kvs.length:=fun g hg=>by
   have:=(Zh.mp pm).mem_iff.mp hg;rw[Zn,Za]at this;exact Qj.mp this
  have las:ep.2.length=kvs.length:=by rw[<-ra,Za,<-Paired.length rk]
  have e2:(bB (es.toList.map (·.key)) γ).toList=γ.toList.map fun g=>(es.toList.map (·.key)).getD g .none:=by unfold bB;simp
  have vw:Vals ((γ.toList.map fun g=>ep.2.getD g 0).map V.ref) (bB (es.toList.map (·.key)) γ).toList:=by
   rw[e2,Ze];have:∀l:List Nat,(∀g∈l,g<kvs.length)->Vals (l.map (V.ref ∘ fun g=>ep.2.getD g 0)) (l.map fun g=>(es.toList.map (·.key)).getD g .none):=fun l=>by
    induction l with
    |nil=>exact fun _=>.nil
    |cons g l ih=>
     intro hl;have hg:g<kvs.length:=hl g Va;have a1:(es.toList.map (·.key))[g]?=some ((es.toList.map (·.key))[g]'(by rw[ln,Za];exact hg)):=Ya _
     obtain⟨k,v,b,g1,g2,g3,g4⟩:=at_ g _ a1;refine .cons ?_ (ih fun x hx=>hl x (Vb _ hx));show(es.toList.map (·.key)).getD g .none=Value.ref (ep.2.getD g 0);rw[Qa,Qa,a1,g2,Option.getD_some,g3];rfl
   exact this _ hγ
  refine⟨.ref p,upd H p (.lst ((γ.toList.map fun g=>ep.2.getD g 0).map V.ref)),I.laid2 kp ge hpn ⟨?_,(bB (es.toList.map (·.key)) γ).toList,n,vw,by simpa using hat⟩,rfl,q p _ hpn (fun b hb=>?_) ⟨γ.toList.map fun g=>(kvs.map (·.1)).getD g [],?_,by simp,fun i b k h1 h2=>?_⟩⟩
  ·rw[Za,Za,Wd,pm.size_eq,Zk,Za];exact hz
  ·obtain⟨g,hg,rfl⟩:=Qb.mp hb;have hg':=hγ g hg;rw[Qa,Ya (by lia)]
   exact Xl _
  ·rw[<-eo,Ze];refine Vh fun g hg=>?_;have hg':=hγ g hg;show D.tup (((kvs.map (·.1)).getD g []).map fH)=_;rw[ou (d:=D.tup (kvs[g].1.map fH)) (by rw[Yd,Ya hg'];rfl),Qa,Yd,Ya hg'];rfl
  ·rw[Yd]at h1 h2;obtain⟨g1,k1,k2⟩:=Vc.mp h1;obtain⟨g2,k3,k4⟩:=Vc.mp h2;rw[k1]at k3;cases k3;have hg':=hγ g1 (Xb k1);have a1:(es.toList.map (·.key))[g1]?=some ((es.toList.map (·.key))[g1]'(by rw[ln,Za];exact hg')):=Ya _
   obtain⟨k',v,b',f1,f2,f3,f4⟩:=at_ g1 _ a1;rw[Qa,f2]at k2;rw[Qa,Yd,f1]at k4;subst k2 k4;exact f4
open Classical in
noncomputable def lM:List D->Option Rz
 | [d]=>match pA d with|some ds=>if (∀x∈ds,Pl 40 x)/\CA 40 ds/\(∃κ,Kd ds κ)/\ds.length<64 then some (.lst (de 40 ds),true) else none|none=>none
 |_=>none
theorem GX:RdCB K GW lM:=by
 intro Y H xs ds z Q lv bs e q;cases bs with
 |nil=>cases e
 |@cons v vs d ds b1 bs=>
  cases bs with
  |cons _ _=>cases e
  |nil=>
   cases d with
   |dt kd=>
    unfold lM at e;dsimp only[pA]at e;obtain⟨a,ep,kvs,rfl,ka,h1,h2,h3⟩:=b1;have ek:(kd.map fun kv=>D.tup (kv.1.map fH))=kvs.map fun kv=>D.tup (kv.1.map fH):=by
     have:∀{α:Type}(l:List (List Key×α)),(l.map fun kv=>D.tup (kv.1.map fH))=(l.map (·.1)).map fun k=>D.tup (k.map fH):=fun l=>by rw[Ze];rfl
     rw[this,this,h2]
    rw[ek]at e;obtain⟨c,e⟩:=aM e;cases e;obtain⟨c1,c2,⟨κ,c3⟩,c4⟩:=c;refine⟨a,ep,kvs,κ,rfl,h1,c1,c2,c3,c4,fun p bs hp hb ⟨ks,k1,k2,k3⟩=>q _ _ (aY hp _) (fZ ?_ hp)⟩;rw[<-k1];refine⟨by rw[Za,Za,k2],fun i v d e1 e2=>?_⟩
    rw[Yd]at e1 e2;obtain⟨b,f1,rfl⟩:=Vc.mp e1;obtain⟨k,f2,rfl⟩:=Vc.mp e2;exact qj (k3 i b k f1 f2) (ka b (hb b (Xb f1))).1
   |_=>cases e
end
end VF22
namespace VF22
open PySem PySem.Spec PyProof.Rows L2 VF
section
variable {X:Cx}{K:Ab}
@[irreducible] def PAi(X:Cx)(es:List Expr)(t:TA):Prop:=PA X es t
def J1:PAi X [] oH:=by unfold PAi;exact ae
def vQ(ha:PE X e te)(hr:PAi X es t)(h:jR e=true):PAi X (e::es) (fF te t):=by
 unfold PAi at *;exact ar ha hr h
def Ka(h:PAi X es t):PE X (.List es pos) (Mm t):=by
 unfold PAi at h;exact bQ h
end
end VF22
namespace VF22
open PySem PySem.Spec PyProof.Rows L2 VF
section
variable {t:Bool}{P:Program}{w:World}{A:Around}{E:Value->Shared->Prop}{s:Shared}
abbrev eE(t:Bool)(h:Heap)(l:Addr):Heap:=(zA t h l).push { cls:=.type "enumerate",data:=.fields #[.none,.bool false,.ref h.objs.size,rawInt 0,.none,.none] }
def D5(t:Bool)(l:Addr)(xs:Array Value):Meets (Builtin.«enumerate.__new__» ⟨[.type "enumerate",.ref l],[]⟩) (fun _ R s=>So t s.heap l xs/\R (.ok (.ret (.ref (zA t s.heap l).objs.size))) { s with heap:=eE t s.heap l }) :=
 .of_wp fun prog w A R s h=>by
  obtain⟨hp,g,d,tk,os⟩:=s;obtain⟨v1,q⟩:=h;have hsub:=sub_enumerate;have L1:So t (Shared.heap ⟨hp,g,d,tk,os⟩) l xs:=v1;obtain⟨⟨c0,d0,dt0,sl0⟩,ho,hc0,n0,hd0⟩:=id v1;replace hc0:c0=.type (SqN t):=hc0;replace hd0:dt0=.seq xs n0:=hd0;subst hc0 hd0;cases t with
  |false=>
   wp_walk using AB ho
   refine wpAny_stack_any fun z=>Ad ?_;split
   ·rename_i u _ _ _ _ _
    cases (u == Value.type "enumerate")<;>(wp_walk using AB ho,kN L1;exact⟨_,rfl,q⟩)
   ·wp_walk using AB ho,kN L1
    exact⟨_,rfl,q⟩
  |true=>
   wp_walk using AB ho
   refine wpAny_stack_any fun z=>Ad ?_;split
   ·rename_i u _ _ _ _ _
    cases (u == Value.type "enumerate")<;>(wp_walk using AB ho,kN L1;exact⟨_,rfl,q⟩)
   ·wp_walk using AB ho,kN L1
    exact⟨_,rfl,q⟩
def D6(v1:So t s.heap l xs)
  (q:∀g,IsEnum g (s.heap.objs.size+1) s.heap.objs.size 0 .none->Io t g s.heap.objs.size l 0->(∀c o,s.heap.get? c=some o->g.get? c=some o)->Q (.ref (s.heap.objs.size+1)) { s with heap:=g }) :
  wpAny (model P w) A (call (.type "enumerate") [.ref l]) Q E s:=by
 refine callType_new F.called_enumerate (by decide) (F.typeCall_enumerate_1 _) (F.newCall_enumerate_1 _) (fun o=>F.args_object_init_2 o _) F.entry_enumerate_new (D5 t l xs) ⟨v1,?_⟩
 have m1:(zA t s.heap l).objs.size=s.heap.objs.size+1:=AY ..;have g2:(eE t s.heap l).get? (zA t s.heap l).objs.size=some _:=Ah _ rfl;have g1:(eE t s.heap l).get? s.heap.objs.size=some (zI t l):=Ac _ (Ah _ rfl);show _/\_;rw[m1]at g2;rw[m1];exact⟨⟨_,g2,rfl⟩,q _ g2 ⟨_,g1,rfl,rfl⟩ fun c o e=>Ac _ (Ac _ e)⟩
def Px(a:Io t h it l i)(b:So t h l xs):l≠it:=by grind [Io,So]
def NQ(hh:A.handled=none)(he:IsEnum s.heap e it k old)(a:Io t s.heap it l i)(b:So t s.heap l xs)(hx:xs[i]?=none)
  (q:∀g,Heap.ExtBut it s.heap g->Q none { s with heap:=g }):wpAny (model P w) A (pyNext (.ref e)) Q E s:=by
 have ty:s.TypeIs (.ref e) "enumerate":=⟨_,he,rfl⟩;unfold pyNext;refine Aa (AF (Am (name:=Str.ofString "__next__") ty F.slot_enumerate_next (Ao F.slot_enumerate_next ty F.entry_enumerate_next ?_ (F.args_enumerate_next_1 _))));show wpAny _ _ (field (.ref e) 2 >>= _) _ _ _;refine Aa (Ar he rfl (x:=.ref it) rfl (Aa (t6 (A:=A.in1) hh a b hx fun g y ex hy=>?_)));obtain⟨o,ho,hc⟩:=hy;exact Aa (Be (T:="StopIteration") (b:=true) ⟨o,ho,hc⟩ Cc (Ad (q _ ex)))
def drw{xs:Array Value}(hh:A.handled=none)(ne:l≠it):Draws P w A it [it,l] xs.size (fun i x=>xs[i]?=some x) (fun i h=>Io t h it l i/\So t h l xs) where
 live:=fun i h st=>by
  obtain⟨⟨o,ho,_⟩,_⟩:=st;exact⟨o,ho⟩
 frame:=fun i h h' st k=>⟨st.1.by fun o q=>k it (by simp) o q,st.2.by fun o q=>k l (by simp) o q⟩
 item:=fun i s Q E hi st hQ=>yU st.1 st.2 (x:=xs[i]) (by simp[hi]) fun h1 i1 sb=>hQ _ h1 s.toks (by simp[hi]) ⟨i1,st.2.by fun o q=>(sb.2 l ne).trans q⟩ sb
 done:=fun s Q E st hE=>t6 hh st.1 st.2 (by simp) hE
end
section
variable {X:Cx}{K:Ab}{t:Bool}{pins:List (Addr×Obj)}{σ:L2.St}{H:Hp}{s:Shared}{h':Heap}
def Ite(K : Ab)(t : Bool)(l : Addr) : It :=
  ⟨fun i H => ∃ xs x, Sq K t H l xs ∧ xs[i]? = some x,
   fun i H v H' => ∃ p x, v = .ref p ∧ H p = none ∧ H' = upd H p (.tup [.int (i : Int), x]) ∧ ∀ xs, Sq K t H l xs → xs[i]? = some x,
   fun i H => ∃ xs, Sq K t H l xs ∧ xs.length ≤ i⟩
def Es(t:Bool)(e it l:Addr)(i:Nat)(h:Heap):Prop:=(∃old,IsEnum h e it (i:Int) old)/\Io t h it l i
def D7{x1}(ne:e≠it):Turn P w K (.Tuple es x1 ps) (Ite K t l) [e,it] e (Es t e it l) where
 mem:=by simp
 obj:=fun i h st b hb=>by
  obtain⟨⟨old,a1⟩,⟨o2,a2,_,d2⟩⟩:=st;have:b=e\/b=it:=by simpa using hb
  rcases this with rfl|rfl
  ·exact⟨_,a1,fun v m=>by simp at m⟩
  ·exact⟨_,a2,fun v m=>by rw[d2]at m;cases m⟩
 keep:=fun i h h' st k=>by
  obtain⟨⟨old,a1⟩,a2⟩:=st;exact⟨⟨old,k e (by simp) _ a1⟩,a2.by fun o q=>k it (by simp) o q⟩
 item:=by
  intro X hP hw hK hc i pins s σ H E I hf st hg;subst hP hw hK;obtain⟨xs,x,q1,e1⟩:=hg;obtain⟨⟨old,a1⟩,a2⟩:=st;obtain⟨its,rv,p⟩:=q1.so I;obtain⟨u,hu,ru⟩:=rv.get e1;have hn:H s.heap.objs.size=none:=I.hok.fresh (Wb _);have lt:∀b∈[e,it],b≠s.heap.objs.size:=fun b hb=>Qf <| by
   have:b=e\/b=it:=by simpa using hb
   obtain⟨o2,b2,_⟩:=id a2;rcases this with rfl|rfl
   ·exact Ai a1
   ·exact Ai b2
  have nl:=Px a2 p;have nel:e≠l:=fun z=>by
   obtain⟨o,ho,hd,_⟩:=p;rw[<-z,a1]at ho;cases ho;cases t<;>(injection hd with y;exact absurd y (by decide))
  have hi:i<its.toArray.size:=by
   have:=(Zd.mp hu).1;simpa using this
  refine wpAny_pyNext_enum_itemD (drw (A:=X.A.in1) (I.ok.hd hc) nl) a1 ⟨a2,p⟩ hi ne (by simp;exact⟨ne,nel⟩) fun u' g tk hu' z1 st1 pT _ kp=>?_
  have eu:u'=u:=by
   have e1:its.toArray[i]?=some u:=by simpa using hu
   rw[e1]at hu';exact(Option.some.inj hu').symm
  subst eu;refine⟨_,rfl,wpAny_letOwnedTupleGo_enum (s:={ s with heap:=g,toks:=tk+1 }) z1 fun g2 z2 sb=>?_⟩;replace sb:Heap.SameBut e g g2:=sb;have kk:∀c o,c≠e->c≠it->s.heap.get? c=some o->g2.get? c=some o:=fun c o c1 c2 q=>sb.extBut _ _ c1 (kp c o c1 c2 q);have pT2:g2.get? s.heap.objs.size=some { cls:=.type "tuple",data:=.seq #[.int (i:Int) tk,u'] }:=sb.extBut _ _ (Au (lt e (by simp))) pT
  have I1:L2.Inv X pins σ (upd H s.heap.objs.size (.tup [.int (i:Int),x])) { s with heap:=s.heap.push { cls:=.type "tuple",data:=.seq #[.int (i:Int) tk,u'] },toks:=tk+1 } :=
   I.laid (fun b o e=>Ac _ e) (Wb _) ⟨show 2<=sizeLine by decide,[.int (i:Int) tk,u'],.cons ⟨_,rfl⟩ (.cons ru .nil),⟨_,Ah _ rfl,rfl,_,rfl⟩⟩
  have ff:∀b∈[e,it],jN X pins (upd H s.heap.objs.size (.tup [.int (i:Int),x])) b:=fun b hb=>by
   obtain⟨f0,f1,f2,f3,f4,f5⟩:=hf b hb;exact⟨by rw[aR (lt b hb)];exact f0,f1,f2,f3,f4,f5⟩
  have I2:L2.Inv X pins σ (upd H s.heap.objs.size (.tup [.int (i:Int),x])) { s with heap:=g2,toks:=tk+1 }:=by
   refine pj (s:={ s with heap:=s.heap.push { cls:=.type "tuple",data:=.seq #[.int (i:Int) tk,u'] },toks:=tk+1 }) (t':=tk+1) I1 ff fun c o hc q=>?_;have hc':¬ (c=e\/c=it):=fun m=>hc (by simpa using m)
   rcases Heap.get?_push_cases q with⟨rfl,rfl⟩|q
   ·exact pT2
   ·exact kk c o (fun m=>hc' (.inl m)) (fun m=>hc' (.inr m)) q
  refine⟨.ref s.heap.objs.size,_,I2,rfl,⟨_,x,rfl,hn,rfl,fun zs hz=>by rw[hz.inj I q1];exact e1⟩,?_,fun b hb=>(ff b hb).1⟩
  exact⟨⟨_,by rw[CU];exact z2⟩,st1.1.by fun o q=>sb.extBut _ o (Au ne) q⟩
 done:=by
  intro X hP hw hK hc i pins s σ H E I hf st hg;subst hP hw hK;obtain⟨xs,q1,hl⟩:=hg;obtain⟨⟨old,a1⟩,a2⟩:=st;obtain⟨its,rv,p⟩:=q1.so I;have l1:=rv.length;refine NQ (I.ok.hd hc) a1 a2 p (by simp;lia) fun g kp=>⟨rfl,pj (t':=s.toks) I hf fun c o hc q=>?_⟩
  have hc':¬ (c=e\/c=it):=fun m=>hc (by simpa using m)
  exact kp c o (fun m=>hc' (.inr m)) q
 self:=fun _ _ _ _ _ st h=>by
  obtain⟨⟨old,a1⟩,_⟩:=st;exact wpAny_pyIter_enum a1 h
def LQ(K:Ab)(ta:TA):TI:=fun σ H R=>ta σ H fun vs H1=>∃t l xs,vs=[.ref l]/\Sq K t H1 l xs/\R (Ite K t l) H1
def D8:bootBuiltins "enumerate"=some (.type "enumerate"):=by decide +kernel
def Kb{x1}(h:X.K=K)(hg:Gl X "enumerate")(hm:X.mg "enumerate"=none)(ha:PE X a te)(hs:starEach [a] X.env=[(false,eval a X.env)]:=by rfl) :
  PI X (.Tuple es x1 ps) (.Call (.Name "enumerate" p) [a] [] pos) (LQ K (fF te oH)):=by
 subst h;intro pins s σ H R I h;have ha':PA X [a] (fF te oH):=kI ha ae (hs.trans rfl);refine Call_ (jO I hg hm D8 (AE (thn (ha' pos pins s σ H _ I h) fun us s1 ⟨vs,H1,I1,r1,q1⟩=>?_) (hs.trans rfl) rfl));obtain⟨t,l,xs,e,w1,q⟩:=q1;subst e;cases r1 with
 |cons r rr=>
  cases rr;cases r;obtain⟨its,rv,p⟩:=w1.so I1;refine D6 p fun g z n1 kp=>?_;refine wpAny_pyIter_enum (s:={ s1 with heap:=g }) z ⟨_,[s1.heap.objs.size+1,s1.heap.objs.size],_,_,H1,rfl,I1.kept (t':=s1.toks) kp,D7 (Nat.succ_ne_self _),⟨⟨_,z⟩,n1⟩,fun b hb=>?_,q⟩;have hb':b=s1.heap.objs.size+1\/b=s1.heap.objs.size:=by simpa using hb
  have le:s1.heap.objs.size<=b:=by
   rcases hb' with m|m<;>(rw[m];first|exact Qm _ _|exact Wb _)
  exact I1.fpOk le (I1.hok.fresh le)
def Kc:List D->Option (List D)|[a]=>sqD a|_=>none
def enD(ds:List D):List D:=ds.mapIdx fun i d=>.tup [.int (i:Int),d]
def GY(fa:FA):FI:=fun st=>(fa st).bind fun x=>(cQ x.1 x.2).bind fun y=>(Kc y.1).bind fun w=>some (enD w,y.2)
def ze(h:RdA K ta fa):RdI K (LQ K ta) (GY fa):=by
 intro st σ H O Z R E items st' e q;refine bsP e fun rs st1 e1 e=>?_;refine bsP e fun ds st2 e2 e=>?_;refine bsO e fun as e3 e=>?_;cases e;refine h st σ H O Z _ E rs st1 e1 fun vs H1 O1 x1 k1 E1 rvs=>?_;obtain⟨O2,x2,k2,E2,el⟩:=rvs.esc E1 e2;have key:∃d,ds=[d]/\sqD d=some as:=by
  replace e3:Kc ds=some as:=e3
  unfold Kc at e3;split at e3
  ·exact⟨_,rfl,e3⟩
  ·cases e3
 obtain⟨d,rfl,hd⟩:=key;obtain⟨v1,r,rfl,da1,el⟩:=el.uncons;obtain rfl:=el.unnil;obtain⟨t,l,xs,rfl,k3⟩:=GA da1 hd;refine⟨t,l,xs,rfl,(k3 H1 O2 (Ext.refl _ _)).1,q _ H1 O2 (x1.trans x2) (k1.trans k2) E2 fun H' O' ex liv=>?_⟩;obtain⟨s1,el1⟩:=k3 H' O' ex;have n1:=el1.1;refine⟨fun i hi=>⟨xs,s1,?_⟩,fun i d hd=>?_⟩
 ·replace hi:(enD as).length<=i:=hi
  unfold enD at hi;rw[List.length_mapIdx]at hi;lia
 ·replace hd:(enD as)[i]?=some d:=hd
  unfold enD at hd;rw[List.getElem?_mapIdx]at hd;obtain⟨a,ha,rfl⟩:=Vc.mp hd;obtain⟨x,hx,dx⟩:=el1.at ha;refine⟨⟨xs,x,s1,hx⟩,?_⟩;rintro v H'' ⟨p,x',rfl,hn,rfl,f1⟩;have ex':=f1 xs s1;rw[hx]at ex';cases ex';have sm:=aY hn (.tup [.int (i:Int),x]);exact⟨sm,.tup ⟨bq,fun z=>(liv p z).1 hn⟩ rfl ((El.cons (.int _) (El.one dx)).same sm).2⟩
def Py{fa:FA}{st s1 s2:En}{rs:List Rs}{d:D}{ds:List D}(h1:fa st=some (rs,s1))(h2:cQ rs s1=some ([d],s2))(h3:sqD d=some ds):GY fa st=some (enD ds,s2):=by
 simp only[GY,h1,h2,Yb,Kc,h3]
end
end VF22
namespace VF22
open PySem PySem.Spec PyProof.Rows L2 VF
section
variable {X:Cx}{K:Ab}{Y:AS}{H:Hp}
def GZ:List V->Hp->VK->Prop:=fun xs H Q=>∃(a:Addr)(ep:Nat×List Addr)(kvs:List (List Key×V)),xs=[.ref a]/\H a=some (.dT ep kvs) /\
 ∀(p:Addr),H p=none->ep.2.length=kvs.length->(∀(i:Nat) b k v,ep.2[i]?=some b->kvs[i]?=some (k,v)->H b=some (.tup (k.map kV)))->Q (.ref p) (upd H p (.lst (ep.2.map V.ref)))
def xk(h:X.K=K)(hc:X.calm=true):CallR X (.type "list") GZ:=by
 intro pins s σ H xs us Q I rv hh;obtain⟨a,ep,kvs,rfl,ha,q⟩:=hh;obtain⟨u,rfl,ru⟩:=vals1 rv;cases ru;obtain⟨hz,lo,xs,es,rk,ra,he,rw',esz⟩:=GS I.hok ha;have las:ep.2.length=kvs.length:=by rw[<-ra,Za,<-Paired.length rk]
 have key:∀(i:Nat)(x:DictEntry),es[i]?=some x->∃k v b,kvs[i]?=some (k,v)/\ep.2[i]?=some b/\x.key=.ref b/\H b=some (.tup (k.map kV)):=fun i x hx=>GU rk ra he hx;refine PySem.W.kdl_call (zd lo) (I.ok.hd hc) rw' (by rw[esz];exact hz) fun h' tk acc c kp hS hacc=>?_
 have hpn:H s.heap.objs.size=none:=I.hok.fresh (Wb _);have al:acc.toList=ep.2.map Value.ref:=by
  refine BF fun i=>?_;by_cases hi:i<es.size
  ·have hi':i<acc.size:=by rw[hacc.1];exact hi
   have a1:=hacc.2 i acc[i] (Yi hi');have a2:es[i]?=some es[i]:=Yi hi;obtain⟨k,v,b,g1,g2,g3,g4⟩:=key i es[i] a2;have a3:(es[i]?).map (·.key)=some acc[i]:=a1;rw[a2]at a3;have a4:es[i].key=acc[i]:=Option.some.inj a3;rw[Qi,Yi hi',Yd,g2,<-a4,g3];rfl
  ·rw[Qi,Dm (by rw[hacc.1];lia),Zl (by rw[Za];lia)]
 have vw:Vals (ep.2.map V.ref) acc.toList:=by
  rw[al];have:∀l:List Addr,Vals (l.map V.ref) (l.map Value.ref):=fun l=>by
   induction l with|nil=>exact .nil|cons b l ih=>exact .cons rfl ih
  exact this _
 refine⟨.ref s.heap.objs.size,upd H s.heap.objs.size (.lst (ep.2.map V.ref)),I.laid (fun b o e=>kp b o e) (Wb _) ⟨by rw[Za,las];exact hz,acc.toList,c,vw,by simpa using hS⟩,rfl,q _ hpn las fun i b k v e1 e2=>?_⟩
 have hi:i<es.size:=by rw[esz];exact(Zd.mp e2).1
 obtain⟨k',v',b',g1,g2,g3,g4⟩:=key i es[i] (Yi hi);rw[e2]at g1;rw[e1]at g2;cases g1;cases g2;exact g4
def xl:List D->Option Rz|[d]=>(pA d).bind fun ds=>some (.lst ds,true)|_=>none
theorem G0:RdCB K GZ xl:=by
 intro Y H xs ds z Q lv bs e q;cases bs with
 |nil=>cases e
 |@cons v vs d ds b1 bs=>
  cases bs with
  |cons _ _=>cases e
  |nil=>
   cases d with
   |dt kd=>
    replace e:some (D.lst (kd.map fun kv=>D.tup (kv.1.map fH)),true)=some z:=e
    cases e;obtain⟨a,ep,kvs,rfl,ka,h1,h2,h3⟩:=b1;refine⟨a,ep,kvs,rfl,h1,fun p hp las k3=>q _ _ (aY hp _) (fZ ?_ hp)⟩;have ln:kvs.length=kd.length:=by have:=congrArg List.length h2;rwa [Za,Za]at this
    refine⟨by rw[Za,Za,las,ln],fun i v d e1 e2=>?_⟩
    rw[Yd]at e1 e2;obtain⟨b,f1,rfl⟩:=Vc.mp e1;obtain⟨kv,f2,rfl⟩:=Vc.mp e2;have hk:∃w,kvs[i]?=some (kv.1,w):=by
     have:(kvs.map (·.1))[i]?=some kv.1:=by rw[h2,Yd,f2];rfl
     rw[Yd]at this;obtain⟨x,g1,g2⟩:=Vc.mp this;exact⟨x.2,by rw[g1,<-g2]⟩
    obtain⟨w,hk⟩:=hk;exact qj (k3 i b kv.1 w f1 hk) (ka b (Xb f1)).1
   |_=>cases e
end
end VF22
namespace VF
open PySem L2 PySem.Spec PyProof.Rows
section
variable {X:Cx}{K:Ab}
def G1:V->List V->Hp->VK->Prop:=fun x vs H Q=>∃(a b:Str),x=.str a/\vs=[.str b]/\a.length<=1000000/\Q (.str (Txt.stripChars a b)) H
def G2:MtR X "str.strip" G1:=by
 intro pins s σ H x vs v us Q I rx rv h;obtain⟨a,b,rfl,rfl,hz,q⟩:=h;obtain⟨t,rfl⟩:=rx;obtain⟨u,rfl,ru⟩:=vals1 rv;obtain⟨t',rfl⟩:=ru;exact SC.stripChars (fun t' k=>⟨.str _,H,I.tok k,⟨t',rfl⟩,q⟩) (Ve hz (by decide))
def xn:D->List D->Option Rz|.str a,[.str b]=>if a.length<=1000000 then some (.str (Txt.stripChars a b),false) else none|_,_=>none
theorem vR:FX K G1 xn:=by
 intro Y H x xs d ds z Q lv b1 bs e q;cases d with
 |str a=>
  cases bs with
  |nil=>cases e
  |@cons v vs d ds b2 bs=>
   cases bs with
   |cons _ _=>cases d<;>cases e
   |nil=>
    cases d with
    |str b=>
     obtain⟨c,e⟩:=aM e;cases e;exact⟨a,b,b1,by rw[show v=V.str b from b2],c,q _ H (Same.refl H) (.str _)⟩
    |_=>cases e
 |_=>cases e
def G3(K:Ab):V->List V->Hp->VK->Prop:=fun x vs H Q=>∃(p:Addr)(ys:List Str)(b:Str),x=.ref p/\vs=[.str b]/\SqL K H p (ys.map V.str)/\b∈ys/\Q (.int (ys.idxOf b:Nat)) H
def G4(h:X.K=K):MtR X "list.index" (G3 K):=by
 intro pins s σ H x vs v us Q I rx rv hh;obtain⟨p,ys,b,rfl,rfl,sq,hb,q⟩:=hh;subst h;cases rx;obtain⟨u,rfl,ru⟩:=vals1 rv;obtain⟨t,rfl⟩:=ru;obtain⟨its,r,pl,hz⟩:=I.list sq;obtain⟨o,n,e,hc,hd,hs⟩:=id pl;have hlen:its.length=ys.length:=by have:=r.length;simpa using this.symm
 have hj:ys.idxOf b<ys.length:=List.idxOf_lt_length_iff.mpr hb;obtain⟨cls,dd,data,sl⟩:=o;simp only at hc hs;subst hc hs;have itAt:∀(i:Nat) v,its[i]?=some v->∃y t',ys[i]?=some y/\v=.str y t':=fun i v hv=>by
  obtain⟨w,e1,rw'⟩:=cU r i v hv;rw[Yd]at e1;obtain⟨y,e2,rfl⟩:=Vc.mp e1;obtain⟨t',rfl⟩:=rw';exact⟨y,t',e2,rfl⟩
 have hyl:ys.length<=2 ^ 24:=by rw[Za]at hz;exact hz
 let is:Value->Bool:=fun v=>match v with|.str y _=>y == b|_=>false
 refine BT Dc ⟨_,e,rfl⟩ PySem.F.entry_list_index (PySem.F.args_list_index_2 _ _)
  (PySem.SeqAt.list_indexAt p its.toArray n dd sl (.str b t) is (ys.idxOf b) (by simpa[hlen]using hj) (by lia) ?_ ?_) ⟨e,fun y hy=>?_,?_⟩
 ·have hv:its[ys.idxOf b]?=some its[ys.idxOf b]:=Ya (by lia)
  obtain⟨y,t',e1,e2⟩:=itAt _ _ hv;show is its[ys.idxOf b]=true;rw[e2];have:y=b:=by
   rw[Ya hj]at e1;have:=Option.some.inj e1;rw[<-this];exact List.getElem_idxOf hj
  show(y == b)=true;rw[this];simp
 ·intro m hm hlt;have hm':m<its.length:=by simpa using hm
  have hv:its[m]?=some its[m]:=Ya hm';obtain⟨y,t',e1,e2⟩:=itAt _ _ hv;show is its[m]=false;rw[e2];show(y == b)=false;have hmy:m<ys.length:=by lia
  have:=List.not_of_lt_findIdx (p:=(· == b)) (xs:=ys) (i:=m) hlt;rw[Ya hmy]at e1;rw[<-Option.some.inj e1];simpa using this
 ·obtain⟨i,hi⟩:=Vl (show y∈its by simpa using hy)
  obtain⟨z,t',_,rfl⟩:=itAt i y hi;exact PySem.SeqAt.EqAt.str_str _ _ _ _
 ·exact⟨.int _,H,I.tok _,⟨_,rfl⟩,q⟩
def bIndex:D->List D->Option Rz|.lst ds,[.str b]=>(iq ds).bind fun ys=>if b∈ys then some (.int (ys.idxOf b:Nat),false) else none|_,_=>none
theorem vS:FX K (G3 K) bIndex:=by
 intro Y H x xs d ds z Q lv b1 bs e q;cases d with
 |lst es=>
  cases bs with
  |nil=>cases e
  |@cons v vs d ds b2 bs=>
   cases bs with
   |cons _ _=>cases d<;>cases e
   |nil=>
    cases d with
    |str b=>
     refine bsO e fun ys e1 e=>?_;obtain⟨c,e⟩:=aM e;cases e;obtain⟨p,ws,rfl,hp,el⟩:=b1;obtain rfl:=kK el e1;exact⟨p,ys,b,rfl,by rw[show v=V.str b from b2],.inl (.inl hp),c,q _ H (Same.refl H) (.int _)⟩
    |_=>cases e
 |_=>cases e
def ltS(x y:Str):Bool:=decide (x.cps.toList<y.cps.toList)
def zf(ys:List Str):Nat:=argBest (fun i j=>ltS (ys.getD i Str.empty) (ys.getD j Str.empty)) (ys.length-1)
def ll(ys:List Str):Str:=ys.getD (zf ys) Str.empty
def LR(K:Ab):List V->Hp->VK->Prop:=fun xs H Q=>∃(p:Addr)(ys:List Str),xs=[.ref p]/\SqL K H p (ys.map V.str)/\ys≠[]/\Q (.str (ll ys)) H
def D9(h:X.K=K)(hc:X.calm=true):CallR X (.builtin "min") (LR K):=by
 intro pins s σ H xs us Q I rv hh;obtain⟨p,ys,rfl,sq,hne,q⟩:=hh;subst h;obtain⟨u,rfl,ru⟩:=vals1 rv;cases ru;obtain⟨its,r,pl,hz⟩:=I.list sq;have hlen:its.length=ys.length:=by have:=r.length;simpa using this.symm
 obtain⟨op,np,ep,cp,dp,sp⟩:=id pl;have hpn:p≠s.heap.objs.size:=Qf (Ai ep);have hpos:=List.length_pos_iff.mpr hne;have itAt:∀(i:Nat) v,its.toArray[i]?=some v->∃t',v=.str (ys.getD i Str.empty) t':=fun i v hv=>by
  obtain⟨w,e1,rw'⟩:=cU r i v (by simpa using hv)
  rw[Yd]at e1;obtain⟨y,e2,rfl⟩:=Vc.mp e1;obtain⟨t',rfl⟩:=rw';exact⟨t',by rw[Qa,e2];rfl⟩
 refine call_min_walk (BB pl.isList ?_);refine⟨s.heap.objs.size,_,_,_,_,_,fun i j=>ltS (ys.getD i Str.empty) (ys.getD j Str.empty),rfl,Walks.list (show X.A.in1.handled=none from I.ok.hd hc) s.heap.objs.size p hpn its.toArray,⟨⟨_,Ah _ rfl,rfl,rfl⟩,⟨op,Ac _ ep,cp,np,sp⟩⟩,fun b hb=>?_,by rw[Xc];lia,?_,fun v h' tk hv kp=>?_⟩
 ·show b<(s.heap.push _).objs.size;rw[AY];rcases Wc.mp hb with rfl|hb
  ·exact BN _
  ·obtain rfl:=Wa.mp hb;exact A9 (Ai ep)
 ·intro i j vi vj s' Q' E' hi hj hq;obtain⟨t1,rfl⟩:=itAt i vi hi;obtain⟨t2,rfl⟩:=itAt j vj hj;exact PyProof.Rows.lt_str hq
 ·obtain⟨t',rfl⟩:=itAt _ v hv;rw[Xc,hlen];refine⟨.str _,H,I.kept (t':=tk) fun b o e=>?_,⟨t',rfl⟩,q⟩;refine kp b o (fun hm=>?_) (Ac _ e);have:=Ai e;obtain rfl:=Wa.mp hm;exact Zj _ this
def G5:List D->Option Rz|[.lst ds]=>(iq ds).bind fun ys=>if ys=[] then none else some (.str (ll ys),false)|_=>none
theorem Ke:RdCB K (LR K) G5:=by
 intro Y H xs ds z Q lv bs e q;cases bs with
 |nil=>cases e
 |@cons v vs d ds c1 bs=>
  cases bs with
  |cons _ _=>cases d<;>cases e
  |nil=>
   cases d with
   |lst es=>
    refine bsO e fun ys e1 e=>?_;by_cases c:ys=[]
    ·simp only[Ag c]at e;cases e
    ·simp only[Aj c]at e;cases e;obtain⟨p,ws,rfl,hp,el⟩:=c1;obtain rfl:=kK el e1;exact⟨p,ys,rfl,.inl (.inl hp),c,q _ H (Same.refl H) (.str _)⟩
   |_=>cases e
end
end VF
namespace VF
open PySem PySem.Spec PyProof.Rows L2
def fsc{N P:List Str}{sc:Scope}(h:N.Nodup/\(∀x∈P,sc.names.lookup x=some .local\/sc.names.lookup x=some .cell)/\∀y∈sc.names,y.2≠.free)(a:sc.kind=.function:=by rfl)(b:sc.isCoroutine=false:=by rfl)(c:sc.isGenerator=false:=by rfl)(d:N.take P.length=P:=by rfl):FnScope N P sc:=⟨a,b,c,h.1,d,h.2.1,h.2.2⟩
structure FH(K:Ab)(x:Str)(st:Stmt):Prop where
 ex:∃f fd,Fun K x x st f fd/\PySem.W.nsIn K mainGlobals x=some (some (.ref f))
def fh{K:Ab}{x:Str}{st:Stmt}{f:Addr}{oc:Value}{od an:Option Addr}{osl:Array (Option Value)}{kV doc pm cdv ct:Value}(a:PySem.W.nsIn K mainGlobals x=some (some (.ref f)))
  (l:K.lookup f=some ⟨oc,od,.func (PySem.W.fnOf x x (ft st) (dr st) (ak st) .none kV doc pm an cdv ct),osl⟩)(c:PySem.W.codeIn K cdv x=true)(k:PySem.W.keepIn K (.ref f)=true):FH K x st:=⟨f,_,ME l c k,a⟩
def Bn(x:Str)(st:Stmt)(ps:List Str):Prop:=∀(kV doc pm:Value)(an:Option Addr)(cdv ct:Value)(us:List Value),us.length=ps.length->bindArgs (PySem.W.fnOf x x (ft st) (dr st) (ak st) .none kV doc pm an cdv ct) ⟨us,[]⟩=pure (ps.zip us)
theorem arS{n:Nat}{P:List Value->Prop}{us:List Value}(hl:us.length=n+1)(h:∀a r,r.length=n->P (a::r)):P us:=by
 cases us with|nil=>cases hl|cons a r=>exact h a r (Nat.succ.inj hl)
def ar1{P:List Value->Prop}(h:∀a,P [a])(us:List Value)(hl:us.length=1):P us:=arS hl fun a r hr=>by
 rw[Yf hr];exact h a
def ar2{P:List Value->Prop}(h:∀a b,P [a,b])(us:List Value)(hl:us.length=2):P us:=arS hl fun a r hr=>ar1 (P:=fun r=>P (a::r)) (h a) r hr
section
variable {P:Program}{w:World}{K:Ab}{mg:Str->Option Value}{base h:Heap}{x:Str}{st:Stmt}{N ps:List Str}{k:Nat}{F:FS}
abbrev Bd'(P:Program)(w:World)(K:Ab)(mg:Str->Option Value)(base:Heap)(x:Str)(st:Stmt)(N:List Str)(k:Nat)(F:FS):Prop :=
 ∀{f:Addr}{cdv:Value}{A:Around}{outer:List Env}{s:Shared}{H:Hp}{E:XK},Room k (A.deeper (envOfC x (ak st) s.heap.objs.size f cdv))->∃t,PSs (va CX0 P w K mg base N x (ak st) f cdv A outer s H E).nox (dr st) t/\RdS K t F
def okV(F':Fun K x x st f fd)(S:FnScope N ps (ak st))(hB:Bd' P w K mg base x st N k F):FnOk P w K mg base CX0 (k+1) f fd ps (spV K (aU F N.length ps.length)):=by
 refine F'.ok S (fun vs H Q E h=>MW h) fun cdv A outer s H vs Q E hr h=>?_;obtain⟨t,h1,h2⟩:=hB hr;exact⟨t,h1,Jv h2 h⟩
def FH.cal(h':FH K x st)(X:K.In h)(G:h.Ns mainGlobals mg)(S:FnScope N ps (ak st))(hb:Bn x st ps)(hB:Bd' P w K mg base x st N k F):Cal P w K mg base x (k+1) ps (spV K (aU F N.length ps.length)):=by
 obtain⟨f,fd,F',a⟩:=h'.ex;exact⟨f,fd,okV F' S hB,AH X G a,F'.kp,F'.binds hb⟩
def FH.calI(h':FH K x st)(X:K.In h)(G:h.Ns mainGlobals mg)(S:FnScope N ps (ak st))(hb:Bn x st ps)(hB:Bd' P w K mg base x st N k F):Cal P w K mg base x (k+1) ps (mI K (dH F N.length ps.length)):=by
 obtain⟨f,fd,F',a⟩:=h'.ex;refine⟨f,fd,F'.ok S (fun vs H Q E h=>LB h) fun cdv A outer s H vs Q E hr h=>?_,AH X G a,F'.kp,F'.binds hb⟩;obtain⟨t,h1,h2⟩:=hB hr;exact⟨t,h1,rP h2 h⟩
theorem FH.calR{sp:Nat->Sp}(h':FH K x st)(X:K.In h)(G:h.Ns mainGlobals mg)(hb:Bn x st ps)(m:Nat)(h0:∀f fd,FnOk P w K mg base CX0 0 f fd ps (sp 0))(h1:∀n,n<=m->Cal P w K mg base x n ps (sp n)->∀f fd,Fun K x x st f fd->FnOk P w K mg base CX0 (n+1) f fd ps (sp (n+1))):∀n,n<=m+1->Cal P w K mg base x n ps (sp n):=by
 obtain⟨f,fd,F',a⟩:=h'.ex;intro n;induction n with|zero=>exact fun _=>⟨f,fd,h0 f fd,AH X G a,F'.kp,F'.binds hb⟩|succ n ih=>exact fun hn=>⟨f,fd,h1 n (Nat.le_of_succ_le_succ hn) (ih (Nat.le_of_succ_le hn)) f fd F',AH X G a,F'.kp,F'.binds hb⟩
def Kf:FnOk P w K mg base CX0 0 f fd ps (spV K (cR 0)):=by
 have no:∀vs H Q E,¬ spV K (cR 0) vs H Q E:=fun vs H Q E h=>by
  obtain⟨Z,ds,z,el,lv,e,q⟩:=h;obtain⟨u,_,hd,_⟩:=rZ e;cases hd
 exact⟨fun vs H Q E h=>absurd h (no vs H Q E),fun A outer s H args us vs Q E _ _ _ _ h=>absurd h (no vs H Q E)⟩
def FH.alike{F:(List D->Option Rz)->FS}(h':FH K x st)(X:K.In h)(G:h.Ns mainGlobals mg)(S:FnScope N ps (ak st))(hb:Bn x st ps)(m:Nat)(hv:∀n u,Dp (n+1) u->aU (F (cR n)) N.length ps.length [u,u]=some (.bl true,false))
  (hB:∀n g,n<=m->Cal P w K mg base x n ps (spV K g)->Bd' P w K mg base x st N n (F g)):∀n,n<=m+1->Cal P w K mg base x n ps (spV K (cR n)) :=
 h'.calR X G hb m (fun _ _=>Kf) fun n hn c f fd F'=>(okV F' S (hB n _ hn c)).imp fun vs H Q E hs=>by
  obtain⟨Z,ds,z,el,lv,e,q⟩:=hs;obtain⟨u,rfl,hd,rfl⟩:=rZ e;exact⟨Z,[u,u],(.bl true,false),el,lv,hv n u hd,q⟩
theorem FH.law(h':FH K "law" st)(X:K.In h)(G:h.Ns mainGlobals mg)(hfa:mg "law"=some (.ref fa))(S:FnScope N ["_law_script"] (ak st))(hb:Bn "law" st ["_law_script"])(lv:∀ns:List Int,aU F N.length 1 [.fl (ns.map D.int)]=some (.bl true,false))
  (hB:∀base:Heap,Bd' P w K mg base "law" st N k F):∃fd:FuncData,(∀(s:Shared)(v:Value),BindsTo s fd ⟨[v],[]⟩ [("_law_script",v)])/\∀base:Heap,K.In base->base.Ns mainGlobals mg->FnOk P w K mg base CX0 (k+1) fa fd ["_law_script"] (yR K):=by
 obtain⟨f,fd,F',a⟩:=h'.ex;have e:=hfa.symm.trans (AH X G a);cases e;refine⟨fd,fun s v=>?_,fun base _ _=>(okV F' S (hB base)).imp fun vs H Q E h=>?_⟩
 ·obtain⟨oc,od,kV,doc,pm,an,cdv,ct,osl,rfl,lk,hcd⟩:=F'.ex;exact .of_eq (hb kV doc pm an cdv ct [v] rfl)
 ·obtain⟨a,ns,rfl,sq,_,q⟩:=h;refine⟨fun _=>False,[.fl (ns.map D.int)],(.bl true,false),El.one (.fl (vs:=ns.map V.int) ?_ (by simp) fun i v d h1 h2=>?_),fun p z=>z.elim,lv ns,fun v H' _ r=>?_⟩
  ·rcases sq with s|s
   ·exact .inl ⟨s,fun z=>z⟩
   ·exact .inr fun H'=>.inr s
  ·rw[Yd]at h1 h2;obtain⟨c,e1,rfl⟩:=Vc.mp h1;rw[e1]at h2;obtain rfl:=Option.some.inj h2;exact .int _
  ·obtain rfl:=(show v=V.bl true from DA.ba (show DA K (fun _=>False) H' v (.bl true) from r));exact q H'
end
def walkL{l:PySem.W.OpenLaw}{loose:List Str}{XP:(Str->Option Value)->Heap->Prop}{YP:World->Heap->Prop}{d:DefRec}{K:Params->Ab}{k:Nat}(hn:l.most=some 63)(hdf:d.params.defaults=[])(hr:Room k callerA)
  (hY:∀(w:World)(h:Heap),YP w h->(K w.params).In h)
  (F:∀(w:World)(mg:Str->Option Value)(fa:Addr)(h:Heap),(K w.params).In h->h.Ns mainGlobals mg->mg d.name=some (.ref fa)->
   ∃fd:FuncData,(∀(s:Shared)(u:Value),BindsTo s fd ⟨[u],[]⟩ [("_law_script",u)])/\∀base:Heap,(K w.params).In base->base.Ns mainGlobals mg->FnOk l.prog w (K w.params) mg base CX0 k fa fd ["_law_script"] (yR (K w.params))) :
  PySem.W.WalkO q loose XP YP l.row.toRowW d [] (fun f vs=>PySem.call f vs) :=
 L2.walk_of (n:=63) (k:=k) (x:="_law_script") (CX:=fun _=>CX0) (sp:=fun w=>yR (K w.params)) hn (by decide) hdf hr hY F (fun _ _ a ns hl _ hS=>⟨a,ns,rfl,hS,hl,fun _=>rfl⟩) fun _ _ _ _ _ z=>z
end VF
namespace VF22
open PySem PySem.Spec PyProof.Rows L2 VF TS
section
variable {X:Cx}{K:Ab}{Y:AS}{H:Hp}{s:Shared}{pins:List (Addr×Obj)}{σ:L2.St}
open Classical in
noncomputable def ql:D->D->Option Rz:=fun a b=>if Pl 40 a/\Pl 40 b/\Cp 40 a b then some (.bl (ltN 40 a b),false) else none
def Pz(K:Ab):R2:=fun x y H Q=>∃(Y:AS)(a b:D),BA K Y H x a/\BA K Y H y b/\Pl 40 a/\Pl 40 b/\Cp 40 a b/\Q (.bl (ltN 40 a b)) H
def NR:RdOp K (Pz K) ql:=by
 intro Y H x y d1 d2 z Q lv b1 b2 e q;unfold ql at e;obtain⟨c,e⟩:=aM e;cases e;exact⟨Y,d1,d2,b1,b2,c.1,c.2.1,c.2.2,q _ H (Same.refl H) (.bl _)⟩
def NS(h:X.K=K)(hu:X.A.units+64<cLine):OpR X (compareOp .Lt) (Pz K):=by
 intro pins s σ H x y v u Q I rx ry ⟨Y,a,b,b1,b2,p1,p2,c,q⟩;exact RH.ltAt 40 (A:=X.A) p1 p2 c (b1.rh p1 I h rx) (b2.rh p2 I h ry) (by lia) _ _ _ _ ⟨.bl _,H,I,rfl,q⟩
inductive GT(K:Ab):V->D->Prop where
 | int (i:Int):GT K (.int i) (.int i)
 | str (x:Str):GT K (.str x) (.str x)
 | tup {a:Addr} {vs:List V} {ds:List D}:(∀H,SqT K H a vs)->vs.length=ds.length->(∀(i:Nat) v d,vs[i]?=some v->ds[i]?=some d->GT K v d)->GT K (.ref a) (.tup ds)
theorem GT.rh(h:GT K v d)(I:Inv X pins σ H s)(hK:X.K=K):∀{u:Value},RelV v u->RH s.heap u d:=by
 induction h with
 |int i=>intro u r;obtain⟨t,rfl⟩:=r;exact .int i t
 |str x=>intro u r;obtain⟨t,rfl⟩:=r;exact .str x t
 |@tup a vs ds h1 h2 h3 ih=>
  intro u r;cases r;obtain⟨its,r,t,_⟩:=I.tuple (hK ▸ h1 H);refine .tup t (r.length.symm.trans h2) fun i u d e1 e2=>?_;obtain⟨v,e3,rv⟩:=cU r i u e1;exact ih i v d e3 e2 rv
def GlT(K:Ab)(mg:Str->Option Value)(x:Str)(ds:List D):Prop:=∃a,mg x=some (.ref a)/\GT K (.ref a) (.tup ds)
def tGT(K:Ab)(ds:List D):TE:=fun _ H Q=>∀a,GT K (.ref a) (.tup ds)->Q (.ref a) H
def PB(hg:Gl X x)(hm:GlT K X.mg x ds)(hd:(x == ("__debug__":Str))=false:=by decide):PE X (.Name x pos) (tGT K ds):=by
 obtain⟨a,e,g⟩:=hm;exact fun _ _ _ H _ I q=>o0 I hg e ⟨.ref a,H,I,rfl,q a g⟩ hd
open Classical in
def PC(K:Ab)(ds:List D):R2:=fun x y H Q=>∃(Y:AS)(a:D),BA K Y H x a/\Pl 40 a/\GT K y (.tup ds)/\(∀d∈ds,Pl 40 d)/\Q (.bl (decide (a∈ds))) H
open Classical in
theorem NT(h:X.K=K)(hu:X.A.units+64<cLine):OpR X (compareOp .In) (PC K ds):=by
 intro pins s σ H x y v u Q I rx ry ⟨Y,a,b1,p1,g,p2,q⟩;have r:=g.rh I h ry;cases r with
 |@tup l its _ hl hn f=>
  obtain⟨h1,h2⟩:=qd (A:=X.A) hn f p1 p2 (b1.rh p1 I h rx) hu;refine CJ _ hl h1 ?_;rw[h2];exact⟨.bl _,H,I,rfl,q⟩
open Classical in
noncomputable def Kg(ds:List D)(fe:FE):FE:=fun st=>(fe st).bind fun x=>(cont x.2 x.1).bind fun d=>if Pl 40 d/\∀e∈ds,Pl 40 e then some (.d (.bl (decide (d∈ds))),x.2) else none
def G6(h:RdE K te fe):RdE K (tOp (PC K ds) te (tGT K ds)) (Kg ds fe):=by
 intro st σ H O Z Q E r' st' h' q;refine bsP h' fun r1 st1 e1 h'=>?_;refine bsO h' fun d1 e3 h'=>?_;obtain⟨c,h'⟩:=aM h';cases h';refine h st σ H O Z _ E r1 st1 e1 fun v1 H1 O1 x1 k1 E1 rv1 w1=>fun a g=>?_;exact⟨_,d1,rv1.ba E1 e3,c.1,g,c.2,q _ H1 O1 x1 k1 E1 (.bl _) True.intro⟩
end
end VF22
namespace VF22
open PySem PySem.Spec PyProof.Rows L2 VF
section
variable {K:Ab}
def GV(K:Ab)(u:Value)(d:D):Prop:=∃v,RelV v u/\GT K v d
inductive GVs(K:Ab):List Value->List D->Prop where
 | nil:GVs K [] []
 | cons {u:Value} {d:D} {us:List Value} {ds:List D}:GV K u d->GVs K us ds->GVs K (u::us) (d::ds)
def gv_int:GV K (.int i t) (.int i):=⟨.int i,⟨t,rfl⟩,.int i⟩
theorem GVs.ex:∀{us:List Value}{ds:List D},GVs K us ds->∃vs,Vals vs us/\vs.length=ds.length/\∀(i:Nat) v d,vs[i]?=some v->ds[i]?=some d->GT K v d
 |_,_,.nil=>⟨[],.nil,rfl,fun i v d h=>by simp at h⟩
 | _,_,.cons h r=>by
  obtain⟨v,h1,h2⟩:=h;obtain⟨vs,r1,r2,r3⟩:=r.ex;refine⟨v::vs,.cons h1 r1,by rw[Qc,Qc,r2],fun i w d e1 e2=>?_⟩
  cases i with|zero=>cases e1;cases e2;exact h2|succ i=>exact r3 i w d (by simpa using e1) (by simpa using e2)
def gv_tup{us:List Value}{ds:List D}(h1:K.lookup a=some ⟨.type "tuple",td,.seq us.toArray n,sl⟩)(h:GVs K us ds)(h4:ds.length<=1000:=by decide):GV K (.ref a) (.tup ds):=by
 obtain⟨vs,r1,r2,r3⟩:=h.ex;have h4:us.toArray.size<=sizeLine:=by
  rw[Xc,<-r1.length,r2];exact Ve h4 (by decide)
 exact⟨.ref a,rfl,.tup (fun H=>.inr ⟨_,us.toArray,n,h1,rfl,rfl,h4,r1⟩) r2 r3⟩
theorem GV.glt(h:GV K (.ref a) (.tup ds))(e:mg x=some (.ref a)):GlT K mg x ds:=by
 obtain⟨v,r,g⟩:=h;cases g with
 |@tup b vs _ h1 h2 h3=>
  cases r;exact⟨a,e,.tup h1 h2 h3⟩
structure FHD(K:Ab)(x:Str)(st:Stmt)(ds:List Value):Prop where
 ex:∃f fd,FunD K x x st ds f fd/\PySem.W.nsIn K mainGlobals x=some (some (.ref f))
def fhd{x:Str}{st:Stmt}{ds:List Value}{f T:Addr}{nT:Nat}{oc tc:Value}{od an td:Option Addr}{osl tsl:Array (Option Value)}{kV doc pm cdv ct:Value}(a:PySem.W.nsIn K mainGlobals x=some (some (.ref f)))
  (l:K.lookup f=some ⟨oc,od,.func (PySem.W.fnOf x x (ft st) (dr st) (ak st) (.ref T) kV doc pm an cdv ct),osl⟩)(c:PySem.W.codeIn K cdv x=true)(k:PySem.W.keepIn K (.ref f)=true)(t:K.lookup T=some ⟨tc,td,.seq ds.toArray nT,tsl⟩):FHD K x st ds :=
 ⟨f,_,⟨⟨_,_,_,_,_,_,_,_,_,_,_,_,rfl,l,c,t,rfl⟩,k⟩,a⟩
def BnD(x:Str)(st:Stmt)(ps:List Str)(ds:List Value):Prop:=∀(T:Addr)(kV doc pm:Value)(an:Option Addr)(cdv ct:Value)(us:List Value),(us++ds).length=ps.length->
 ∃k:Option (Array Value)->Sem (List (Str×Value)),bindArgs (PySem.W.fnOf x x (ft st) (dr st) (ak st) (.ref T) kV doc pm an cdv ct) ⟨us,[]⟩=seqItems? (.ref T) >>= k/\k (some ds.toArray)=pure (ps.zip (us++ds))
variable {P:Program}{w:World}{mg:Str->Option Value}{base h:Heap}{x:Str}{st:Stmt}{N ps:List Str}{k:Nat}{F:FS}{ds:List Value}{dvs:List V}
def FHD.calI(h':FHD K x st ds)(X:K.In h)(G:h.Ns mainGlobals mg)(S:FnScope N ps (ak st))(hb:BnD x st ps ds)(hv:Vals dvs ds)(hB:Bd' P w K mg base x st N k F):CalD P w K mg base x (k+1) ps dvs (mI K (dH F N.length ps.length)):=by
 obtain⟨f,fd,F',a⟩:=h'.ex;refine⟨f,fd,ds,F'.ok S (fun vs H Q E h=>LB h) fun cdv A outer s H vs Q E hr h=>?_,AH X G a,F'.kp,F'.binds hb,hv⟩;obtain⟨t,h1,h2⟩:=hB hr;exact⟨t,h1,rP h2 h⟩
def NU{st s:En}{r:Rs}{d:D}{ds:List D}{b:Bool}(h:fe st=some (r,s))(h1:cont s r=some d)(h2:Pl 40 d)(h3:∀e∈ds,Pl 40 e)(h4:b=true↔d∈ds):Kg ds fe st=some (.d (.bl b),s):=by
 classical
 simp only[Kg,h,h1,Yb];rw[Ag ⟨h2,h3⟩];have:decide (d∈ds)=b:=by
  rw[Ye,decide_eq_true_eq];exact h4.symm
 rw[<-this]
def G7(h1:Pl 40 a)(h2:Pl 40 b)(h3:Cp 40 a b):ql a b=some (.bl (ltN 40 a b),false):=by
 unfold ql;rw[Ag ⟨h1,h2,h3⟩]
end
end VF22
namespace VF22
open PySem PySem.Spec PyProof.Rows L2 VF
section
variable (K:Ab){X:Cx}{a b o:Expr}{ta tb to:TE}{p pos apos cpos:Pos}
def aw(ha:PE X a ta)(hb:PE X b tb)(h:X.K=K:=by rfl)(hs:yq b:=by exact fun _ _=>rfl):PE X (.Subscript a b pos) (tOp (rIx K) ta tb):=OS (Jm h) ha hb hs
def bz(hm:X.mg "len"=none)(ha:PE X a ta)(h:X.K=K:=by rfl)(hg:Gl X "len":=by rfl)(n:jR a=true:=by rfl):PE X (.Call (.Name "len" p) [a] [] pos) (tCB (F4 K) (fF ta oH)) :=
 bc (DS h) hg hm PySem.boot_len (ar ha ae n) (by decide) (by decide) (gu n) rfl
def bK(hm:X.mg "tuple"=none)(ha:PE X a ta)(h:X.K=K:=by rfl)(c:X.calm=true:=by rfl)(hg:Gl X "tuple":=by rfl)(n:jR a=true:=by rfl):PE X (.Call (.Name "tuple" p) [a] [] pos) (tCB (tU K) (fF ta oH)) :=
 eW (vC h c) hg hm cY (ar ha ae n) (by decide) (by decide) (gu n) rfl
def b7(hm:X.mg "isinstance"=none)(ha:PE X a ta)(hb:PE X b tb)(h:X.K=K:=by rfl)(hg:Gl X "isinstance":=by rfl)(n:jR a=true:=by rfl)(n':jR b=true:=by rfl)(hpl:(backTo pos (starEach [b] X.env)).any (·.1)=false:=by rfl) :
  PE X (.Call (.Name "isinstance" p) [a,b] [] pos) (tCB (Nk K) (fF ta (fF tb oH))) :=
 bc (tV h) hg hm L2.boot_isinstance (ar ha (ar hb ae n') n) (by decide) (by decide) (gu n) hpl
def bA(ha:PE X a ta)(hb:PE X b tb)(h:X.K=K:=by rfl):PE X (.BinOp a .Add b pos) (tOp (yI K) ta tb):=b8 (yJ h) ha hb
def f7(ho:OpR X (compareOp op) r)(ha:PE X a ta)(hb:PE X b tb)(h:op≠.In:=by decide)(h2:op≠.NotIn:=by decide):PE X (.Compare a [op] [b] pos) (tOp r ta tb):=mB ho ha hb (EU _ h h2)
def aS(ho:OpR X (compareOp op) r)(ha:PE X a ta)(hb:PE X b tb)(h:op≠.In:=by decide)(h2:op≠.NotIn:=by decide):PT X (.Compare a [op] [b] pos) (yh (tOp r ta tb)):=fq ho ha hb (EU _ h h2)
def cI(ho:PE X o to)(ha:PE X a ta)(n:jR a=true:=by rfl)(hbase:attributeBase o "append" X.env (eval o X.env)=eval o X.env:=by rfl)
  (hfew:((backTo cpos (starEach [a] X.env)).all (fun x=>!x.1)&&(backToKw cpos (keywordEach [] X.env)).all (fun x=>x.1.isSome)
   && decide (([a]:List Expr).length+([]:List Keyword).length+(if ([]:List Keyword).isEmpty then 0 else 1)<30))=true:=by rfl)
  (hline:(apos.endLine == cpos.line)=true:=by rfl):PE X (.Call (.Attribute o "append" apos) [a] [] cpos) (tBM X.K "list" tG to (fF ta oH)) :=
 mF AC PySem.F.slot_list_append PySem.F.type_list_append DE ho (ar ha ae n) hbase hfew hline (gu n) rfl
end
end VF22
namespace VF
open PySem L2 PyProof.Rows TS PySem.SeqAt
abbrev KB:=Bool×Str
def ltB(p q:KB):Bool:=(!p.1&&q.1)||(p.1 == q.1&&ltS p.2 q.2)
def pB(x:Str):ltS x x=false:=Af (List.lt_irrefl _)
def ue(h1:ltS x y=true)(h2:ltS y z=true):ltS x z=true:=Ae (List.lt_trans (Ak h1) (Ak h2))
def zg(h:ltS x z=true):ltS x y=true\/ltS y z=true:=by
 have ca:CA 1 [.str x,.str y,.str z]:=fun a ha b hb=>by
  simp at ha hb;rcases ha with rfl|rfl|rfl<;>rcases hb with rfl|rfl|rfl<;>trivial
 exact ca.neg (a:=.str x) (b:=.str y) (c:=.str z) (by simp) (by simp) (by simp) h
def mQ(p:KB):ltB p p=false:=by
 obtain⟨b,x⟩:=p;unfold ltB;dsimp only;rw[pB];cases b<;>rfl
def mR(h1:ltB p q=true)(h2:ltB q r=true):ltB p r=true:=by
 obtain⟨a,x⟩:=p;obtain⟨b,y⟩:=q;obtain⟨c,z⟩:=r;cases a<;>cases b<;>cases c<;>simp[ltB]at h1 h2 ⊢
 ·exact ue h1 h2
 ·exact ue h1 h2
def pC(h:ltB p r=true):ltB p q=true\/ltB q r=true:=by
 obtain⟨a,x⟩:=p;obtain⟨b,y⟩:=q;obtain⟨c,z⟩:=r;cases a<;>cases b<;>cases c<;>simp[ltB]at h ⊢
 ·exact zg h
 ·exact zg h
def KH(h:Heap)(u:Value)(p:KB):Prop:=∃a t,u=.ref a/\h.IsTuple a #[.bool p.1,.str p.2 t]
section
variable {prog:Program}{w:World}{A:Around}{E:Value->Shared->Prop}{s:Shared}
def NV(a b:Bool):decide (b2i a<b2i b)=(!a&&b):=by cases a<;>cases b<;>rfl
theorem G8(fl:Bool):sC A s fl (.bool a) (.bool b) (!a&&b):=fun prog w E Q q=>by
 rw[<-NV]at q;cases fl with
 |true=>
  rw[oneLt'_eq];simp only[if_true];refine Aa (wpAny_cRoomFor_byValue rfl ?_);refine Aa (wpAny_callSpecialIfBound?_slot (typeIs_bool' s a) PySem.F.slot_bool_lt (call_gives PySem.F.slot_bool_lt (typeIs_bool' s a) PySem.F.entry_int_lt (PySem.F.args_int_lt_2 _ _) (gives_int_lt_bools a b) ?_));exact Av q
 |false=>exact y4 (fun prog w E Q h=>(lt_bool h:wpAny (model prog w) A (compareOp .Lt (.bool a) (.bool b)) Q E s)) prog w E Q q
def Kh:D->D->Bool|.bl a,.bl b=>!a&&b|.str x,.str y=>ltS x y|_,_=>false
def NW(p q:KB):ltL Kh [.bl p.1,.str p.2] [.bl q.1,.str q.2]=ltB p q:=by
 obtain⟨a,x⟩:=p;obtain⟨b,y⟩:=q;by_cases e:a=b
 ·subst e;rw[bJ];by_cases e2:x=y
  ·subst e2;rw[bJ,mQ];rfl
  ·rw[bj (by intro z;injection z with z;exact e2 z)]
   unfold ltB;cases a<;>simp[Kh]
 ·rw[bj (by intro z;injection z with z;exact e z)]
  unfold ltB;cases a<;>cases b<;>first|exact absurd rfl e|simp[Kh]
open Classical in
def PD(h1:KH s.heap u p)(h2:KH s.heap v q)(hq:Q (ltB p q) s):wpAny (model prog w) A (keyLt' (tuples' true) u v) Q E s:=by
 obtain⟨a,t,rfl,ha⟩:=h1;obtain⟨b,t',rfl,hb⟩:=h2;have e1:EqAt A s (.bool p.1) (.bool q.1) (decide (D.bl p.1=D.bl q.1)):=by
  have:decide (D.bl p.1=D.bl q.1)=(p.1 == q.1):=by rw[Ye];simp
  rw[this];exact EqAt.bool_bool _ _
 have e2:EqAt A s (.str p.2 t) (.str q.2 t') (decide (D.str p.2=D.str q.2)):=by
  have:decide (D.str p.2=D.str q.2)=(p.2 == q.2):=by rw[Ye];simp
  rw[this];exact EqAt.str_str _ _ _ _
 refine y7 (lt:=Kh) (ds:=[.bl p.1,.str p.2]) (es:=[.bl q.1,.str q.2]) ha hb ?_ (by rw[NW];exact hq)
 exact .cons e1 (fun _=>G8 _) (.cons e2 (fun _=>ub _) (.left rfl))
def cB(ks:List KB)(g h:Nat):Bool:=ltB (ks.getD g (false,Str.empty)) (ks.getD h (false,Str.empty))
def QN{us vs:List Value}{ks:List KB}(hl:us.length=ks.length)(r:∀(i:Nat) u p,us[i]?=some u->ks[i]?=some p->KH s.heap u p) :
  Cm prog w A s (tuples' true) (fun g=>(us.getD g .none,vs.getD g .none)) us.length (cB ks):=by
 refine⟨fun E Q g h hg hh q=>?_,fun g=>mQ _,fun g h i h1 h2=>mR h1 h2,fun g h i h1=>pC h1⟩;have eg:us[g]?=some us[g]:=Ya hg;have eh:us[h]?=some us[h]:=Ya hh;have kg:ks[g]?=some ks[g]:=Ya (by lia)
 have kh:ks[h]?=some ks[h]:=Ya (by lia)
 have q':Q (ltB ks[g] ks[h]) s:=by
  unfold cB at q;rw[Qa,Qa,kg,kh]at q;exact q
 show wpAny (model prog w) A (keyLt' (tuples' true) (us.getD g .none) (us.getD h .none)) Q E s;rw[Qa,Qa,eg,eh];exact PD (r g _ _ eg kg) (r h _ _ eh kh) q'
def QO{us:List Value}{ks:List KB}(hne:us≠[])(hl:us.length=ks.length)(r:∀(i:Nat) u p,us[i]?=some u->ks[i]?=some p->KH s.heap u p)(q:Q (tuples' true) s):wpAny M A (keyKind' us.toArray) Q E s:=by
 rw[keyKind'_eq];have hf:∀(us:List Value)(ks:List KB),us.length=ks.length->(∀(i:Nat) u p,us[i]?=some u->ks[i]?=some p->KH s.heap u p)->∀Q:List (Option Value)->Shared->Prop,Q (ks.map fun p=>some (.bool p.1)) s->wpAny M A (us.mapM firstOfTuple') Q E s:=fun us=>by
  induction us with
  |nil=>
   intro ks hl _ Q q;obtain rfl:ks=[]:=Yf hl.symm;rw[C8];exact Ad q
  |cons u us ih=>
   intro ks hl r Q q;cases ks with
   |nil=>simp at hl
   |cons p ks=>
    rw[CZ];obtain⟨a,t,rfl,ht⟩:=r 0 u p rfl rfl;exact Aa (sD (its:=[.bool p.1,.str p.2 t]) ht rfl (Aa (ih ks (by simpa using hl) (fun i u p e1 e2=>r (i+1) u p (by simpa using e1) (by simpa using e2)) _ (Ad q))))
 rw[CC,CH];refine Aa (Aa (hf us ks hl r _ (Ad ?_)));have hnk:ks≠[]:=fun z=>by
  rw[z]at hl;exact hne (Yf hl)
 rw[Ag (by simp)]
 refine Aa (AW ?_);have e1:(ks.map fun p=>some (Value.bool p.1)).toArray.filterMap id=(ks.map fun p=>Value.bool p.1).toArray:=by
  rw[show(ks.map fun p=>some (Value.bool p.1))=(ks.map fun p=>Value.bool p.1).map some by rw[Ze];rfl]
  simp
 rw[e1,oneTypeOnly'_eq];refine Aa (Aa (uc (g:=fun _=>Value.type "bool") (fun v hv Q q=>?_) ?_))
 ·obtain⟨p,_,rfl⟩:=Qb.mp hv;exact AZ (typeIs_bool' s p.1) q
 ·cases ks with
  |nil=>exact absurd rfl hnk
  |cons p ks=>
   have h0:(List.map (fun _=>Value.type "bool") (List.map (fun p:KB=>Value.bool p.1) (p::ks))).toArray[0]?=some (Value.type "bool"):=by simp
   rw[h0];have hall:((List.map (fun _=>Value.type "bool") (List.map (fun p:KB=>Value.bool p.1) (p::ks))).toArray.all fun x=>x == Value.type "bool")=true:=by
    simp only[List.all_toArray,CF,Xj];intro _ _;exact beq_self_eq_true _
   dsimp only;rw[hall,Ag rfl];exact Ad (Ad q)
end
end VF
namespace VF
open PySem L2 PyProof.Rows TS
section
variable {prog:Program}{w:World}{A:Around}{E:Value->Shared->Prop}{s:Shared}
def qm{a kS:Addr}{vs:List Value}{ks:List KB}{kA:Array Value}{e e1:Nat}{st:SortSt}{γ:Array Nat}{P:Fin->Shared->Prop}(hka:kS≠a)
  (g1:s.heap.get? kS=some (seqObj "list" kA e))(g2:s.heap.get? a=some (seqObj "list" #[] e1))(hz:vs.length<=sizeLine)(hk:kA.size=vs.length)
  (hf:failedOf st=none) (ha:(arrOf st).map (·.2)=bB vs γ) (hp:γ.Perm (Array.range vs.length))
  (fin:∀tk,P (.done (.ret .none)) { s with heap:=(s.heap.update kS (Obj.mapSeq fun _=>#[])).update a (Obj.mapSeq fun _=>bB vs γ),toks:=tk }) :
  wpAny (model prog w) A (ksk_tail a false e1 (.ref kS) st) P E s:=by
 have s1:=AD s.heap kS (Obj.mapSeq fun _=>(#[]:Array Value));have na1:(s.heap.update kS (Obj.mapSeq fun _=>(#[]:Array Value))).get? a=some (seqObj "list" #[] e1):=(s1.2 a hka.symm).trans g2;have hsz:(bB vs γ).size=vs.length:=by
  unfold bB;rw[C2,hp.size_eq,Zk]
 unfold ksk_tail;dsimp only;refine Aa (AQ g1 rfl ?_ (by rw[hk];lia) (Xi _))
 refine Aa (CP ?_);refine Aa (Ca na1 rfl ?_)
 refine Aa (AQ na1 rfl ?_ (Xi _) (by
  show(if false=true then((arrOf st).map (·.2)).reverse else(arrOf st).map (·.2)).size<=_
  rw[Aj Bool.noConfusion,ha,hsz];lia))
 rw[hf];simp only[Cu,Qe,if_false];rw[ha];exact Ad (fin _)
def Ea{vs : List Value}{ks : List KB}{kA : Array Value}(hka : kS ≠ a)
    (g1 : s.heap.get? kS = some (seqObj "list" kA e))(g2 : s.heap.get? a = some (seqObj "list" #[] e1))(hz : vs.length ≤ sizeLine)(hk : kA.size = vs.length)(hl : ks.length = vs.length)(h64 : vs.length < 64)
    (r : ∀ (i : Nat) u p, kA[i]? = some u → ks[i]? = some p → KH s.heap u p)
    (fin : ∀ (γ : Array Nat) tk, γ.Perm (Array.range vs.length) → Sg (cB ks) γ 0 vs.length → P (.done (.ret .none)) { s with heap := (s.heap.update kS (Obj.mapSeq fun _ => #[])).update a (Obj.mapSeq fun _ => bB vs γ), toks := tk }) :
    wpAny (model prog w) A (ksk_end a false vs.toArray e1 (.ref kS) kA) P E s := by
  obtain ⟨us, rfl⟩ : ∃ us : List Value, kA = us.toArray := ⟨kA.toList, by simp⟩
  rw [BD] at hk;have r' : ∀ (i : Nat) u p, us[i]? = some u → ks[i]? = some p → KH s.heap u p := fun i u p e1 e2 => r i u p (by simpa using e1) e2
  have e0 : us.toArray.zip vs.toArray = (Array.range vs.length).map fun g => (us.getD g .none, vs.getD g .none) := by
    apply Array.ext_getElem?
    intro i;rw [Cr, Bk];by_cases hi : i < vs.length
    · rw [Ag hi]
      have hi' : i < us.length := by lia
      simp [hi, hi'];rw [By];exact ⟨BK hi', BK hi⟩
    · rw [Aj hi]
      simp [hi];lia
  unfold ksk_end;dsimp only;simp only [Bx, if_false];by_cases few : vs.toArray.size < 2
  · rw [Ag few, Ag few]
    refine Aa (Ad ?_);rw [StateT.run_pure];refine Aa (Ad ?_);dsimp only;rw [BD] at few;refine qm (ks := ks) (γ := Array.range vs.length) hka g1 g2 hz (by simpa using hk) rfl ?_ (Array.Perm.refl _) fun tk => fin _ tk (Array.Perm.refl _) fun i j g h z1 z2 z3 => by lia
    show (us.toArray.zip vs.toArray).map (·.2) = _;rw [e0, Cg]; rfl
  · rw [Aj few, Aj few]
    rw [BD] at few;have hne : us ≠ [] := fun z => few (by rw [z] at hk; simp at hk; lia)
    refine Aa (QO hne (by lia) r' ?_)
    have C : Cm prog w A s (tuples' true) (fun g => (us.getD g .none, vs.getD g .none)) us.length (cB ks) := QN (by lia) r'
    rw [hk] at C
    refine Aa (Aw (yX h64 (st := SortSt.mk' (tuples' true) (us.toArray.zip vs.toArray) #[] 7 none) C (γ := Array.range vs.length) ⟨e0, rfl, rfl, Array.Perm.refl _⟩ rfl (fun i _ z => by rw [Bk, Ag z])
      (Q := fun _ st' => ∃ γ, Rp (tuples' true) (fun g => (us.getD g .none, vs.getD g .none)) vs.length st' γ ∧ Sg (cB ks) γ 0 vs.length) fun st' γ' R g => ⟨γ', R, g⟩) ?_ fun _ _ e => e)
    rintro ⟨⟨⟩, st'⟩ s' ⟨rfl, γ, R, g⟩;dsimp only;refine qm (ks := ks) (γ := γ) hka g1 g2 hz (by simpa using hk) R.fine ?_ R.perm fun tk => fin γ tk R.perm g
    rw [R.arr, Cg]; rfl
def xo{vs:List Value}{ks:List KB}(hka:kS≠a)(hz:vs.length<=sizeLine)(hl:ks.length=vs.length)(h64:vs.length<64)(J:Nat->Array Value->Shared->Prop)
  (hJ:∀i kA s',J i kA s'->(∃e,s'.heap.get? kS=some (seqObj "list" kA e))/\s'.heap.get? a=some (seqObj "list" #[] e1)/\kA.size=i)
  (turn:∀i kA v s',vs[i]?=some v->J i kA s'->wpAny (model prog w) A (call f [v]) (fun u s''=>(∃e,s''.heap.get? kS=some (seqObj "list" kA e))/\J (i+1) (kA.push u) { s'' with heap:=s''.heap.update kS (Obj.mapSeq (·.push u)) }) (fun _ _=>False) s')
  (keys:∀kA s',J vs.length kA s'->∀(i:Nat) u p,kA[i]?=some u->ks[i]?=some p->KH s'.heap u p)
  (fin:∀kA s' (γ:Array Nat) tk,J vs.length kA s'->γ.Perm (Array.range vs.length)->Sg (cB ks) γ 0 vs.length->P (.done (.ret .none)) { s' with heap:=(s'.heap.update kS (Obj.mapSeq fun _=>#[])).update a (Obj.mapSeq fun _=>bB vs γ),toks:=tk })
  (h0:J 0 #[] s):wpAny (model prog w) A (ksk_rest a f false vs.toArray e1 (.ref kS)) P E s:=by
 unfold ksk_rest;refine Aa (AW ?_)
 first
  | rw[List.forIn_toArray]
  | (rw[<-Array.forIn_toList];simp only[List.toList_toArray])
  | rw[<-Array.forIn_toList]
 refine Aa (ksk_fold (fun i s'=>∃kA,J i kA s') vs 0 s ⟨#[],h0⟩ ?step ?done)
 case step=>
  rintro j x s' hx ⟨kA,hj⟩;rw[A8]at hj ⊢;have hjl:j<vs.length:=(Zd.mp hx).1;obtain⟨_,_,hks⟩:=hJ _ _ _ hj;refine Aa (AF (Aw (turn j kA x s' hx hj) (fun u s'' he=>?_) fun _ _ hF=>hF.elim));obtain⟨⟨e,g1⟩,hj'⟩:=he;dsimp only;refine Aa (AQ g1 rfl ?_ (by lia) (Ve (Nat.le_of_eq (Array.size_push ..)) (by lia)))
  exact Ad ⟨rfl,kA.push u,hj'⟩
 case done=>
  rintro s' ⟨kA,hj⟩;rw[A8]at hj;obtain⟨⟨e,g1⟩,g2,hks⟩:=hJ _ _ _ hj;refine Aa (A0 g1 rfl ?_);exact Ea hka g1 g2 hz hks hl h64 (keys kA s' hj) fun γ tk p g=>fin kA s' γ tk hj p g
end
end VF
namespace VF
open PySem L2 PyProof.Rows TS
section
variable {X:Cx}{K:Ab}{pins:List (Addr×Obj)}{σ:L2.St}{H:Hp}{s:Shared}
def PF{oa ok ok':Obj}{t:Nat}(I:L2.Inv X (pins++[(kS,ok),(a,oa)]) σ H s)(fk:jN X pins H0 kS)(hka:kS≠a)(hg:(s.heap.update kS φ).get? kS=some ok')(hc:∀v,ok'.data≠.cell v) :
  L2.Inv X (pins++[(kS,ok'),(a,oa)]) σ H { s with heap:=s.heap.update kS φ,toks:=t }:=by
 obtain⟨_,f1,f2,f3,f4,f5⟩:=fk;have pk:=I.pin (kS,ok) (by simp)
 have pa:=I.pin (a,oa) (by simp)
 have old:∀p∈pins,s.heap.get? p.1=some p.2/\H p.1=none/\p.1≠X.env.locals/\p.1∉X.fs/\∀v,p.2.data≠.cell v:=fun p hp=>I.pin p (Xd _ (Vf _ hp));have I1:L2.Inv X (pins++[(a,oa)]) σ H s:=I.pins_of fun p hp=>by
  rcases Zc.mp hp with z|z
  ·exact old p z
  ·rw[Wa.mp z];exact pa
 have I2:=I1.turned (t':=t) (it:=kS) (h':=s.heap.update kS φ) (fun b o hb e=>(Ay _ _ _ _ hb).trans e) pk.2.1 f1 f3 f4 fun p hp=>by
  rcases Zc.mp hp with z|z
  ·exact f5 p (Vf _ z)
  ·rcases Zc.mp z with z|z
   ·exact f5 p (Xd _ z)
   ·rw[Wa.mp z];exact hka.symm
 refine I2.pins_of fun p hp=>?_;rcases Zc.mp hp with z|z
 ·exact I2.pin p (Xd _ (Vf _ z))
 ·rcases Wc.mp z with rfl|z
  ·exact⟨hg,pk.2.1,f1,f2,hc⟩
  ·rw[Wa.mp z];exact I2.pin (a,oa) (by simp)
def tracked{h':Heap}{t:Nat}(I:L2.Inv X (pins++[(kS,ok),(a,oa)]) σ H s)(fk:jN X pins H0 kS)(fa:jN X pins H0 a)
  (k:∀b o,b≠kS->b≠a->s.heap.get? b=some o->h'.get? b=some o)(new:ObjOk X.prog X.w (upd H a (.lst ws)) h' a (.lst ws)) :
  L2.Inv X pins σ (upd H a (.lst ws)) { s with heap:=h',toks:=t }:=by
 obtain⟨_,f1,f2,f3,f4,f5⟩:=fk;obtain⟨_,g1,g2,g3,g4,g5⟩:=fa;have pk:=I.pin (kS,ok) (by simp)
 have pa:=I.pin (a,oa) (by simp)
 have I1:L2.Inv X pins σ H s:=I.pins_of fun p hp=>I.pin p (Xd _ (Vf _ hp));have nk:H kS=none:=pk.2.1;have na:H a=none:=pa.2.1;have ne:∀b u,H b=some u->b≠a:=fun b u e z=>by rw[z,na]at e;cases e
 have nek:∀b u,H b=some u->b≠kS:=fun b u e z=>by rw[z,nk]at e;cases e
 have two:∀b,b∉[kS,a]->b≠kS/\b≠a:=fun b hb=>⟨fun z=>hb (by simp[z]),fun z=>hb (by simp[z])⟩
 refine I1.step (g':=s.gens) (d':=s.drawn) (ch:=[kS,a]) (fun b hb=>?_) (fun b o _ _ hc e _=>k b o (two b hc).1 (two b hc).2 e) (fun b o _ _ hc e _=>⟨o.slots,k b o (two b hc).1 (two b hc).2 e⟩) (fun b o hc _ n=>by rw[aR (two b hc).2];exact n)
  (fun b o hc e=>⟨o,k b o (two b hc).1 (two b hc).2 e⟩) (fun b xs e=>by rw[aR (ne b _ e)];exact e) (fun b o u e=>by rw[aR (ne b _ e)];exact e) (fun b ps e=>⟨#[],by rw[aR (ne b _ e),e];simp⟩) (fun m hm=>?_) (fun b u e=>?_) I1.bare
 ·rcases Wc.mp hb with rfl|hb
  ·exact⟨f3,f1,f4,f5⟩
  ·obtain rfl:=Wa.mp hb;exact⟨g3,g1,g4,g5⟩
 ·obtain⟨o,es,ep,ho,r⟩:=hm;exact⟨o,es,ep,k _ o (Au f1) (Au g1) ho,r⟩
 ·by_cases hb:b=a
  ·subst hb;rw[bq]at e;cases e;exact new
  ·rw[aR hb]at e;refine(I1.hok b u e).stay (fun c v hc q=>?_) (fun c q=>by rw[aR (ne c _ q)];exact q) fun c xs q=>by rw[aR (ne c _ q)];exact q
   rcases hc with z|z
   ·rw[z]at q ⊢;exact k b v (nek b u e) hb q
   ·exact k c v (nek c _ z) (ne c _ z) q
def keyD(p:KB):D:=.tup [.bl p.1,.str p.2]
theorem PH(h:X.K=K)(I:L2.Inv X pins σ H s)(da:DA K Z H v (keyD p))(ru:RelV v u):KH s.heap u p:=by
 obtain⟨a,xs,rfl,sq,el⟩:=(show BA K Z H v (.tup [.bl p.1,.str p.2]) from da.ba);cases ru;obtain⟨its,r,t,_⟩:=I.tuple (h ▸ sq.sq);obtain⟨v1,r1,rfl,d1,el⟩:=el.uncons;obtain⟨v2,r2,rfl,d2,el⟩:=el.uncons;obtain rfl:=el.unnil;obtain rfl:v1=V.bl p.1:=d1.ba;obtain rfl:v2=V.str p.2:=d2.ba;cases r with
 |cons a1 r=>
  cases r with
  |cons a2 r=>
   cases r;obtain rfl:=(show _=Value.bool p.1 from a1);obtain⟨tt,rfl⟩:=(show ∃t,_=Value.str p.2 t from a2);exact⟨a,tt,rfl,t⟩
inductive SJ(X:Cx)(K:Ab)(pins:List (Addr×Obj))(σ:L2.St)(H:Hp)(a:Addr)(e1:Nat)(ks:List KB)(Z:AS)(i:Nat)(kA:Array Value)(s':Shared):Prop
 | mk (Hi:Hp) (e:Nat) (kvs:List V) (I:L2.Inv X (pins++[(a+2,seqObj "list" kA e),(a,seqObj "list" #[] e1)]) σ Hi s') (sm:Same H Hi) (hsz:kA.size=i) (rk:Vals kvs kA.toList) (hd:∀(j:Nat) v p,kvs[j]?=some v->ks[j]?=some p->DA K Z Hi v (keyD p))
def PJ{s':Shared}(I:L2.Inv X (pins++[p,q]) σ Hi s'):s'.heap.get? p.1=some p.2:=(I.pin p (Xd _ (Xd _ (.head _)))).1
def PK{s':Shared}(I:L2.Inv X (pins++[p,q]) σ Hi s'):s'.heap.get? q.1=some q.2/\Hi q.1=none:=by
 have:=I.pin q (Xd _ (Xd _ (.tail _ (.head _))));exact⟨this.1,this.2.1⟩
def xp(h:X.K=K)(F:FnOk X.prog X.w X.K X.mg X.base CX0 k f fd [x] (spV K g))(hr:Room (k+2) X.A)(hb:Binds X.K fd [x] [])
  (I:L2.Inv X pins σ H s){ds:List D}{ks:List KB}(sq:SqL K H l vs)(el:El K Z H vs ds)(lv:∀p,Z p->Lv H p)(hk:ks.length=ds.length)(h64:ds.length<64)(hg:∀(i:Nat) d p,ds[i]?=some d->ks[i]?=some p->g [d]=some (keyD p,false))
  (q:∀(γ:Array Nat)(H':Hp)(p:Addr)(ws:List V),γ.Perm (Array.range ds.length)->Sg (cB ks) γ 0 ds.length->Same H H'->H' p=none->El K Z H' ws (γ.toList.map (dk ds))->Q (.ref p) (upd H' p (.lst ws))) :
  wpAny (model X.prog X.w) X.A (call (.builtin "sorted") [.ref l] [(Str.ofString "key",.ref f)]) (EP X pins σ Q) X.xe s:=by
 obtain⟨its,r,pl,hz⟩:=I.list (h ▸ sq);have hn:its.length=ds.length:=r.length.symm.trans el.1;have hz':its.length<=sizeLine:=by rw[<-r.length];exact hz
 refine call_function_entry_kw kind_sorted plain_sorted entry_sorted (ksk_s1 _ _) ?_;unfold Builtin.«sorted»;refine Aa (m:=checkCount "sorted" 1 1 _) (Ad ?_);refine Aa (collect_list pl.isList ?_ hz');refine Aa (Bi ?_ hz');generalize hg1:(s.heap.push (seqObj "list" #[] 0)).update s.heap.objs.size (Obj.mapSeq (·++its.toArray))=h1;have z1:h1.objs.size=s.heap.objs.size+1:=by rw[<-hg1,CO,size_push']
 have old1:∀b o,s.heap.get? b=some o->h1.get? b=some o:=fun b o e=>by
  rw[<-hg1];exact(Ay _ _ _ _ (Qf (Ai e))).trans (Ac _ e)
 generalize ha:s.heap.objs.size+1=a at z1;have mine:(h1.push (seqObj "list" its.toArray 0)).get? a=some (seqObj "list" its.toArray 0):=by rw[<-z1];exact Ah _ rfl
 show wpAny _ _ _ _ _ { s with heap:=h1.push (seqObj "list" its.toArray 0) };rw[z1];refine Aa (AA (wpAny_call_entry_kw slot_list_sort ⟨_,mine,rfl⟩ entry_list_sort ?body (ksk_l1 _ _)));show wpAny (model X.prog X.w) X.A.in1.in1 (Builtin.«list.sort» ⟨[.ref a],[(Str.ofString "key",.ref f)]⟩) _ _ _;rw[ksk_t1];generalize hh2:h1.push (seqObj "list" its.toArray 0)=h2 at mine;have z2:h2.objs.size=a+1:=by rw[<-hh2,size_push',z1]
 have old2:∀b o,s.heap.get? b=some o->h2.get? b=some o:=fun b o e=>by rw[<-hh2];exact Ac _ (old1 b o e)
 unfold ksk_tree;refine Aa (A0 mine rfl ?_);refine Aa (AQ mine rfl ?_ (by rw[Xc];lia) (Xi _))
 obtain⟨e1,hE⟩:∃e1,(h2.update a (Obj.mapSeq fun _=>#[])).get? a=some (seqObj "list" #[] e1):=⟨_,Bl mine (fun _=>#[])⟩;refine Aa (Ca hE rfl ?_);refine Aa (CV ?_ (by show its.length<=_;lia))
 refine Aa (Bi ?_ (Xi _));refine AA ?_;have hT:((h2.update a (Obj.mapSeq fun _=>#[])).push (seqObj "tuple" its.toArray 0)).objs.size=a+2:=by rw[size_push',CO,z2]
 generalize hh3:((h2.update a (Obj.mapSeq fun _=>#[])).push (seqObj "tuple" its.toArray 0)).push (seqObj "list" #[] 0)=h3;have gk:h3.get? (a+2)=some (seqObj "list" #[] 0):=by rw[<-hh3,<-hT];exact Ah _ rfl
 have ga:h3.get? a=some (seqObj "list" #[] e1):=by rw[<-hh3];exact Ac _ (Ac _ hE)
 have hbig:s.heap.objs.size<=a:=by lia
 have old3:∀b o,s.heap.get? b=some o->h3.get? b=some o:=fun b o e=>by
  rw[<-hh3];refine Ac _ (Ac _ ?_);have:=Ai e;exact(Ay _ _ _ _ (Qf (Vd this hbig))).trans (old2 b o e)
 have hbig2:s.heap.objs.size<=a+2:=Ve hbig (Qm _ _);have fk:jN X pins H (a+2):=I.fpOk hbig2 (I.hok.fresh hbig2);have fa:jN X pins H a:=I.fpOk hbig (I.hok.fresh hbig);have hka:a+2≠a:=by lia
 have I3:L2.Inv X (pins++[(a+2,seqObj "list" #[] 0),(a,seqObj "list" #[] e1)]) σ H { s with heap:=h3 }:=by
  refine(I.kept (t':=s.toks) old3).pins_of fun p hp=>?_;rcases Zc.mp hp with z|z
  ·exact(I.kept (h':=h3) (t':=s.toks) old3).pin p (Xd _ z)
  ·rcases Wc.mp z with rfl|z
   ·exact⟨gk,fk.1,fk.2.1,fk.2.2.1,fun v z=>by cases z⟩
   ·rw[Wa.mp z];exact⟨ga,fa.1,fa.2.1,fa.2.2.1,fun v z=>by cases z⟩
 show wpAny (model X.prog X.w) X.A.in1.in1 (ksk_rest a (.ref f) false its.toArray e1 (.ref (((h2.update a (Obj.mapSeq fun _=>#[])).push (seqObj "tuple" its.toArray 0)).objs.size))) _ _ { s with heap:=h3 };rw[hT];refine xo (ks:=ks) hka hz' (by lia) (by lia) (SJ X K pins σ H a e1 ks Z) ?hJ ?turn ?keys ?fin ⟨H,0,[],I3,Same.refl H,rfl,.nil,fun j v p e=>by simp at e⟩
 case hJ=>
  rintro i kA s' ⟨Hi,e,kvs,Ii,_,hsz,_⟩;exact⟨⟨e,PJ Ii⟩,(PK Ii).1,hsz⟩
 case keys=>
  rintro kA s' ⟨Hi,e,kvs,Ii,_,hsz,rk,hd⟩ i u p e2 e3;obtain⟨v,e4,rv⟩:=cU rk i u (by simpa using e2)
  exact PH h Ii (hd i v p e4 e3) rv
 case turn=>
  rintro i kA v s' hv ⟨Hi,e,kvs,Ii,sm,hsz,rk,hd⟩;have hi:i<its.length:=(Zd.mp hv).1;obtain⟨vv,e4,rv⟩:=cU r i v hv;obtain⟨d,e5⟩:∃d,ds[i]?=some d:=⟨_,Ya (by lia)⟩
  obtain⟨p,e6⟩:∃p,ks[i]?=some p:=⟨_,Ya (by lia)⟩
  have da:DA K Z Hi vv d:=(el.2 i vv d e4 e5).same sm;have hsp:spV K g [vv] Hi (fun v H'=>Same Hi H'/\DA K Z H' v (keyD p)) E0:=⟨Z,[d],(keyD p,false),El.one da,fun b zb=>(lv b zb).same (sm b),hg i d p e5 e6,fun v H' s2 res=>⟨s2,res⟩⟩;refine wpAny_call (Ct (F.run X.A.in1.in1 X.stack s' Hi ⟨[v],[]⟩ [v] [vv] _ E0 hr.in1.in1 Ii.env0.in1.in1 (hb s' [v] Ii.kIn rfl) (.cons rv .nil) hsp) fun rr s'' hq=>?_);cases rr with
  |error e=>exact hq.elim
  |ok fl=>
   cases fl with
   |next=>exact False.elim hq
   |brk=>exact False.elim hq
   |cont=>exact False.elim hq
   |ret u=>
    obtain⟨nv,Hn,In,ru,sm2,dn⟩:=Ii.after hq;have gk2:s''.heap.get? (a+2)=some (seqObj "list" kA e):=PJ In;refine⟨⟨e,gk2⟩,?_⟩;obtain⟨e',ge⟩:∃e',(s''.heap.update (a+2) (Obj.mapSeq (·.push u))).get? (a+2)=some (seqObj "list" (kA.push u) e'):=⟨_,Bl gk2 (·.push u)⟩;refine⟨Hn,e',kvs++[nv],PF (t:=s''.toks) In fk hka ge (fun v z=>by cases z),fun b o eb=>sm2 b o (sm b o eb),by rw[Array.size_push,hsz],?_,fun j v p' e7 e8=>?_⟩
    ·rw[Array.toList_push];exact rk.append (.cons ru .nil)
    ·have hlk:kvs.length=i:=by rw[rk.length,Wd,hsz]
     by_cases hj:j<kvs.length
     ·rw[Xk hj]at e7;exact(hd j v p' e7 e8).same sm2
     ·rw[Zi (by lia)]at e7
      have hj0:j-kvs.length=0:=by
       have:=(Zd.mp e7).1;rw[We]at this;lia
      rw[hj0]at e7;have e9:nv=v:=by simpa using e7
      have e10:j=i:=by lia
      subst e9 e10;rw[e6]at e8;cases e8;exact dn
 case fin=>
  rintro kA s' γ tk ⟨Hi,e,kvs,Ii,sm,hsz,rk,hd⟩ p gS;refine⟨_,rfl,Ad ⟨_,rfl,?_⟩⟩;rw[hn]at p gS;have hγ:∀g∈γ.toList,g<ds.length:=fun g hg=>by
   have:=(Zh.mp p).mem_iff.mp hg;rw[Zn]at this;exact Qj.mp this
  have vw:∀l:List Nat,(∀g∈l,g<ds.length)->Vals (l.map fun g=>vs.getD g .non) (l.map fun g=>its.getD g .none):=fun l=>by
   induction l with
   |nil=>exact fun _=>.nil
   |cons g l ih=>
    intro hl;have hgd:g<ds.length:=hl g Va;have a1:its[g]?=some its[g]:=Ya (by lia)
    obtain⟨v,e3,rv⟩:=cU r g _ a1;refine .cons ?_ (ih fun x hx=>hl x (Vb _ hx));show RelV (vs.getD g .non) (its.getD g .none);rw[Qa,Qa,e3,a1];exact rv
  obtain⟨ga2,na2⟩:=PK Ii;have s1:=AD s'.heap (a+2) (Obj.mapSeq fun _=>(#[]:Array Value));have na1:(s'.heap.update (a+2) (Obj.mapSeq fun _=>(#[]:Array Value))).get? a=some (seqObj "list" #[] e1):=(s1.2 a hka.symm).trans ga2;obtain⟨e2,ge⟩:∃e2,((s'.heap.update (a+2) (Obj.mapSeq fun _=>#[])).update a (Obj.mapSeq fun _=>bB its γ)).get? a=some (seqObj "list" (bB its γ) e2):=⟨_,Bl na1 (fun _=>bB its γ)⟩;have elw:El K Z Hi (γ.toList.map fun g=>vs.getD g .non) (γ.toList.map (dk ds)):=by
   refine⟨by simp,fun i v d h1 h2=>?_⟩
   rw[Yd]at h1 h2;obtain⟨g1,k1,k2⟩:=Vc.mp h1;obtain⟨g2,k3,k4⟩:=Vc.mp h2;rw[k1]at k3;cases k3;have hgd:g1<ds.length:=hγ g1 (Xb k1);have d1:ds[g1]?=some ds[g1]:=Ya hgd;obtain⟨v',e3,da⟩:=el.at d1;rw[ou d1]at k4;rw[Qa,e3]at k2;subst k4;have:v'=v:=k2;subst this;exact da.same sm
  have hlw:(γ.toList.map fun g=>vs.getD g .non).length<=sizeLine:=by rw[Za,Wd,p.size_eq,Zk];lia
  refine⟨.ref a,upd Hi a (.lst (γ.toList.map fun g=>vs.getD g .non)),tracked (t:=tk) Ii fk fa (fun b o n1 n2 eb=>(Ay _ _ _ _ n2).trans ((Ay _ _ _ _ n1).trans eb)) ⟨hlw,(bB its γ).toList,e2,?_,by simpa using ge⟩,rfl,q γ Hi a _ p gS sm na2 elw⟩
  have e3:(bB its γ).toList=γ.toList.map fun g=>its.getD g .none:=by unfold bB;simp
  rw[e3];exact vw _ hγ
end
end VF
namespace VF
open PySem L2 PyProof.Rows TS
section
variable {X:Cx}{K:Ab}
open Classical in
noncomputable def ox(ks:List KB)(ds:List D):List D:=if h:∃γ:Array Nat,γ.Perm (Array.range ds.length)/\Sg (cB ks) γ 0 ds.length then h.choose.toList.map (dk ds) else []
def uf{γ:Array Nat}(hn:γ.size=n)(g:Sg c γ 0 n):γ.toList.Pairwise (Bf c):=by
 rw[C4];intro i j hi hj hij;rw[Wd]at hi hj;exact g i j γ.toList[i] γ.toList[j] (Xi _) hij (by lia) (by rw[<-Qi];exact Ya _) (by rw[<-Qi];exact Ya _)
def vT{ds:List D}{γ:Array Nat}(p:γ.Perm (Array.range ds.length))(g:Sg (cB ks) γ 0 ds.length):γ.toList.map (dk ds)=ox ks ds:=by
 have ex:∃γ:Array Nat,γ.Perm (Array.range ds.length)/\Sg (cB ks) γ 0 ds.length:=⟨γ,p,g⟩;have e:ox ks ds=ex.choose.toList.map (dk ds):=by unfold ox;rw[dif_pos ex]
 obtain⟨p2,g2⟩:=ex.choose_spec;rw[e];congr 1;have s1:=uf (by rw[p.size_eq,Zk]) g
 have s2:=uf (by rw[p2.size_eq,Zk]) g2
 refine((Zh.mp p).trans (Zh.mp p2).symm).eq_of_pairwise (fun a b _ _ h1 h2=>?_) s1 s2;have asy:∀x y,cB ks x y=true->cB ks y x=true->False:=fun x y z1 z2=>by
  have:=mR z1 z2;rw[mQ]at this;cases this
 rcases h1 with h1|h1
 ·rcases h2 with h2|h2
  ·exact(asy _ _ h1 h2).elim
  ·rw[h2.1]at h1;cases h1
 ·rcases h2 with h2|h2
  ·rw[h1.1]at h2;cases h2
  ·lia
def NX:Option Rz->Option KB|some (.tup [.bl b,.str x],false)=>some (b,x)|_=>none
def Ki(h:NX z=some p):z=some (keyD p,false):=by
 unfold NX at h;split at h
 ·cases h;rfl
 ·cases h
def keysOf(g:List D->Option Rz):List D->Option (List KB)|[]=>some []|d::ds=>(NX (g [d])).bind fun p=>(keysOf g ds).bind fun ps=>some (p::ps)
theorem sH:∀{ds:List D}{ks:List KB},keysOf g ds=some ks->ks.length=ds.length/\∀(i:Nat) d p,ds[i]?=some d->ks[i]?=some p->g [d]=some (keyD p,false)
 |[],ks,h=>by cases h;exact⟨rfl,fun i d p e=>by simp at e⟩
 | d::ds,ks,h=>by
  refine bsO h fun p e1 h=>?_;refine bsO h fun ps e2 h=>?_;cases h;obtain⟨l,r⟩:=sH e2;refine⟨by rw[Qc,Qc,l],fun i d' p' a b=>?_⟩
  cases i with
  |zero=>
   have a1:d=d':=by simpa using a
   have a2:p=p':=by simpa using b
   subst a1 a2;exact Ki e1
  |succ i=>exact r i d' p' (by simpa using a) (by simpa using b)
noncomputable def xq(g:List D->Option Rz):List D->Option Rz
 |[.lst ds]=>if ds.length<64 then(keysOf g ds).bind fun ks=>some (.lst (ox ks ds),true) else none
 |_=>none
def G9(K:Ab)(g:List D->Option Rz):List V->Hp->VK->Prop:=fun xs H Q=>∃(l:Addr)(Z:AS)(vs:List V)(ds:List D)(ks:List KB),xs=[.ref l]/\SqL K H l vs/\El K Z H vs ds/\(∀p,Z p->Lv H p)/\keysOf g ds=some ks/\ds.length<64 /\
 ∀(H':Hp)(p:Addr)(ws:List V),Same H H'->H' p=none->El K Z H' ws (ox ks ds)->Q (.ref p) (upd H' p (.lst ws))
theorem Ha:RdCB K (G9 K g) (xq g):=by
 intro Y H xs ds z Q lv bs e q;cases bs with
 |nil=>cases e
 |@cons v vs d ds b1 bs=>
  cases bs with
  |cons _ _=>cases d<;>cases e
  |nil=>
   cases d with
   |lst es=>
    obtain⟨c,e⟩:=aM e;refine bsO e fun ks e1 e=>?_;cases e;obtain⟨p,ws,rfl,hp,el⟩:=b1;refine⟨p,Y,ws,es,ks,rfl,.inl (.inl hp),el,lv,e1,c,fun H' p' ws' sm hn el'=>q _ _ (fun b o eb=>(aY hn _) b o (sm b o eb)) ?_⟩;have hH:H p'=none:=by
     cases e7:H p' with|none=>rfl|some o=>rw[sm p' o e7]at hn;cases hn
    obtain⟨p2,a1,_,a3⟩:=fZ (K:=K) (Y:=Y) el' hn;exact⟨p2,a1,by cases a1;exact hH,a3⟩
   |_=>cases e
def Hb(h:X.K=K)(C:Cal X.prog X.w X.K X.mg X.base x k [y] (spV K g))(hr:Room k' X.A)(hgs:Gl X "sorted")(hms:X.mg "sorted"=none)(hgf:Gl X x)(ha:PA X (e::es) t)(hk:k+2<=k':=by decide)
  (hdb:(x == ("__debug__":Str))=false:=by decide)
  (he:backTo pos (starEach (e::es) X.env)=(false,eval e X.env)::backTo pos (starEach es X.env):=by rfl) (hpl:(backTo pos (starEach (e::es) X.env)).any (·.1)=false:=by rfl) :
  PE X (.Call (.Name "sorted" p) (e::es) [⟨some "key",.Name x p2,kp⟩] pos) (tCB (G9 K g) t):=by
 intro pins s σ H Q I hw;obtain⟨f,fd,F,hm,hkp,hb⟩:=C.ex;refine Bt (jO I hgs hms boot_sorted ?_);refine PyProof.Rows.callWith_kw (thn (ha pos pins s σ H _ I hw) fun us s1 ⟨vs,H1,I1,r1,q1⟩=>?_) he hpl;refine PyProof.Rows.kws_cons (o0 I1 hgf hm (PyProof.Rows.kws_nil ?_) hdb);obtain⟨l,Z,ws,ds,ks,rfl,sq,el,lv,hks,h64,q⟩:=q1;obtain⟨u,rfl,ru⟩:=vals1 r1;cases ru;obtain⟨hl,hg⟩:=sH hks;exact xp h F (hr.mono hk) hb I1 sq el lv hl h64 hg fun γ H' p' ws' pm sg sm hn el'=>q H' p' ws' sm hn (by rw[<-vT pm sg];exact el')
end
end VF
namespace VF22
open PySem PySem.Spec PyProof.Rows L2 VF
section
variable {X:Cx}{K:Ab}
def Hc:OpR X (compareOp .IsNot) (fun x y H Q=>∃b c,x=.bl b/\y=.bl c/\Q (.bl (b != c)) H):=by
 intro pins s σ H x y v u Q I rx ry h;obtain⟨b,c,rfl,rfl,q⟩:=h;cases rx;cases ry;exact isnot_bool (bn I q rfl)
def Hd:D->D->Option Rz|.bl a,.bl b=>some (.bl (a != b),false)|_,_=>none
theorem He:RdOp K (fun x y H Q=>∃b c,x=.bl b/\y=.bl c/\Q (.bl (b != c)) H) Hd:=by
 intro Y H x y d1 d2 z Q lv b1 b2 e q;cases d1 with
 |bl a=>
  cases d2 with
  |bl b=>
   cases e;exact⟨a,b,b1,b2,q _ H (Same.refl H) (.bl _)⟩
  |_=>cases e
 |_=>cases e
end
end VF22
namespace VL
open PySem L2 VF
def Lw(x:Str):Prop:=∀c∈x.cps.toList,97<=c/\c<=122
abbrev letS:Str:=Str.ofString "abcdefghijklmnopqrstuvwxyz"
def qo:letS.cps.toList=List.range' 97 26:=by decide +kernel
def Nm(x:Str):Prop:=1<=x.length/\x.length<=6/\Lw x
def Hg{ys:List Str}(h:∀y∈ys,∃c,y=⟨#[c]⟩/\97<=c/\c<=122):Lw (Txt.join (Str.ofString "") ys):=by
 intro c hc;have e:Txt.join (Str.ofString "") ys=Str.join (Str.ofString "") ys:=StrLaws.glued_eq_join _ _;rw[e]at hc;rcases(PyProof.Rows.mem_join _ _ _).mp hc with⟨t,ht,hct⟩|⟨_,z⟩
 ·obtain⟨c',rfl,h1⟩:=h t ht;have:c=c':=by simpa using hct
  rw[this];exact h1
 ·have hE:(Str.ofString "").cps.toList=[]:=by decide +kernel
  rw[hE]at z;cases z
theorem join_ones{ys:List Str}(h:∀y∈ys,∃c,y=(⟨#[c]⟩:Str)):(Txt.join (Str.ofString "") ys).length=ys.length :=
 PySem.W.KT.join_ones ys fun a ha=>by obtain⟨c,rfl⟩:=h a ha;rfl
theorem Hh{ys:List Str}(h:∀y∈ys,∃c,y=(⟨#[c]⟩:Str)):(ys.map (·.length)).sum=ys.length:=by
 induction ys with
 |nil=>rfl
 |cons y r ih=>
  obtain⟨c,rfl⟩:=h y Va;rw[Yh,List.sum_cons,ih fun z hz=>h z (Vb _ hz)];show 1+r.length=r.length+1;lia
def Lw.app{x y:Str}(a:Lw x)(b:Lw y):Lw (x++y):=fun c hc=>by
 rw[Bu,A3]at hc;rcases Zc.mp hc with z|z
 ·exact a c z
 ·exact b c z
def Hj:Lw (Str.ofString ""):=fun c hc=>by
 have hE:(Str.ofString "").cps.toList=[]:=by decide +kernel
 rw[hE]at hc;cases hc
def word(s:Nat):Str:=Txt.mul ⟨#[97+s % 26]⟩ (1+((s:Nat):Int) / 26)
def kQ(s:Nat):(word s).cps.toList=List.replicate (1+s / 26) (97+s % 26):=by
 unfold word;rw[PyProof.Rows.mul_one_list];have e:(1+((s:Nat):Int) / 26).toNat=1+s / 26:=by lia
 rw[e]
def vU(s:Nat):(word s).length=1+s / 26:=by
 have:=congrArg List.length (kQ s);rw[Qk,Wd]at this;exact this
def Hk{a b:Nat}(h:word a=word b):a=b:=by
 have h1:(word a).cps.toList=(word b).cps.toList:=by rw[h]
 rw[kQ,kQ]at h1;have h2:=congrArg List.length h1;rw[Qk,Qk]at h2;have h3:=congrArg (fun l=>l[0]?) h1;simp only[Wn]at h3;rw[Ag (by lia),Ag (by lia)]at h3
 have h4:=Option.some.inj h3;lia
def Kj{s:Nat}(h:s<=120):Nm (word s):=by
 refine⟨by rw[vU];lia,by rw[vU];lia,fun c hc=>?_⟩
 rw[kQ]at hc;have:=C9 hc;lia
def Eb{xs:List Str}{s:Nat}(h:∀j,j<s->word j∈xs):s<=xs.length:=by
 have:=jS ((List.range s).map word) xs (by
  show List.Pairwise _ _;rw[Xh];exact List.nodup_range.imp fun hne e=>hne (Hk e)) (fun x hx=>by
  obtain⟨j,hj,rfl⟩:=Qb.mp hx
  exact h j (Qj.mp hj))
 rw[Za,AU]at this;exact this
def NY(s:Nat):atI letS.cps.toList (((s:Nat):Int) % 26)=some (97+s % 26):=by
 have e:((s:Nat):Int) % 26=(((s % 26:Nat)):Int):=by lia
 rw[e];refine iX ?_;rw[qo,List.getElem?_range' (by lia)]
 congr 1;lia
theorem qp{α:Type}:∀{l:List α}{i:Nat}(h:i<l.length),(l[i]::l.eraseIdx i).Perm l|_::_,0,_=>List.Perm.refl _|x::r,i+1,h=>(List.Perm.swap x _ _).trans (List.Perm.cons x (qp (l:=r) (i:=i) (Nat.lt_of_succ_lt_succ h)))
abbrev minus:Str:=Str.ofString "-"
def bd(p:Bool×Str):Str:=if p.1 then minus++p.2 else p.2
def eX:minus.cps.toList=[45]:=by decide +kernel
def qq{p:Bool×Str}(h:Nm p.2):1<=(bd p).length/\(bd p).length<=7:=by
 have e:minus.length=1:=by decide +kernel
 unfold bd;split
 ·rw[AG,e];have:=h.1;have:=h.2.1;lia
 ·have:=h.1;have:=h.2.1;lia
def zh{x y:Str}(h:x.cps.toList=y.cps.toList):x=y:=by
 cases x;cases y;have:_=_:=Array.toList_inj.mp h;exact congrArg Str.mk this
def Hl{n:Str}:Txt.slice (minus++n) (some 1) none=n:=by
 have e:minus.length=1:=by decide +kernel
 rw[PyProof.Rows.slice_from_eq (i:=1) (b:=((minus++n).length:Int)) (by decide) (by rw[AG,e];lia) rfl]
 refine zh ?_;show((List.drop 1 (minus++n).cps.toList).take _).toArray.toList=_;rw[Bu,A3,eX,AG,e];show List.take _ n.cps.toList=_;refine Yk ?_;rw[Wd];show n.length<=_;lia
def Hm{p:Bool×Str}(h:Nm p.2):∃c,atI (bd p).cps.toList 0=some c/\(V.str ⟨#[c]⟩=V.str minus↔p.1=true):=by
 obtain⟨t,n⟩:=p;have em:(⟨#[45]⟩:Str)=minus:=by decide +kernel
 cases t with
 |true=>
  refine⟨45,?_,fun _=>rfl,fun _=>by rw[em]⟩
  show atI (minus++n).cps.toList 0=_;rw[Bu,A3,eX];exact OU
 |false=>
  have h1:1<=n.length:=h.1;cases e:n.cps.toList with
  |nil=>
   have:=congrArg List.length e;rw[Wd]at this;have h2:n.cps.size=n.length:=rfl;rw[h2]at this;simp at this;lia
  |cons c r=>
   refine⟨c,?_,fun z=>?_,fun z=>by cases z⟩
   ·show atI n.cps.toList 0=_;rw[e];exact OU
   ·have hc:=h.2.2 c (by show c∈n.cps.toList;rw[e];exact Va)
    have z1:(⟨#[c]⟩:Str)=minus:=V.str.inj z;rw[<-em]at z1;have z2:c=45:=by simpa using z1
    lia
def sI{d:Int}{n:Str}(d0:0<=d)(d1:d<2):Txt.mul minus d++n=bd (decide (d=1),n):=by
 have h:d=0\/d=1:=by lia
 rcases h with rfl|rfl
 ·show(if (0:Int)<1 then Str.empty else _)++n=_;rw[Ag (by decide)]
  exact Str.empty_append n
 ·rfl
theorem Kk{n:Str}(h:Nm n):∃c r,n.cps.toList=c::r/\c≠45:=by
 cases e:n.cps.toList with
 |nil=>
  have h1:1<=n.length:=h.1;have:=congrArg List.length e;rw[Wd]at this;have h2:n.cps.size=n.length:=rfl;rw[h2]at this;simp at this;lia
 |cons c r=>
  refine⟨c,r,rfl,fun z=>?_⟩;have hc:=h.2.2 c (by rw[e];exact Va)
  lia
def Ec{t:Bool}{n:Str}(h:Nm n):Txt.startswith (bd (t,n)) minus=t:=by
 have e1:minus.length=1:=by decide +kernel
 have hl:=(qq (p:=(t,n)) h).1;unfold Txt.startswith
 rw[Ae (show 0+minus.length<=(bd (t,n)).length by lia),Bool.true_and,StrLaws.subAt_eq,eX,e1]
 cases t with
 |true=>
  show((((minus++n).cps.toList).drop 0).take 1 == [45])=true;rw[Bu,A3,eX];rfl
 |false=>
  obtain⟨c,r,e,hc⟩:=Kk h;show(((n.cps.toList).drop 0).take 1 == [45])=false;rw[e];show([c] == [45])=false;simp[hc]
end VL
namespace K17
open PySem L2 VF VF22
noncomputable section
abbrev aj:FE:=aB 0
abbrev aF:FE:=aB 1
abbrev aW:FE:=aB 2
abbrev bC:FE:=aB 3
abbrev cA:FE:=aB 4
abbrev eJ:FE:=aB 5
abbrev j0:FE:=aB 6
abbrev xt:FE:=aB 7
abbrev NZ:FE:=aB 8
abbrev lN:FE:=aB 9
abbrev mS:FE:=aB 10
abbrev pD:FE:=aB 11
abbrev aG:FE:=fC (.int 0)
abbrev ax:FE:=fC (.int 1)
abbrev cy:FE:=fC (.int 2)
abbrev f8:FE:=fC (.int 3)
abbrev mT:FE:=fC (.int 4)
abbrev uk:FE:=fC (.int 6)
abbrev zi:FE:=fC (.int 7)
abbrev Ho:FE:=fC (.int 10)
abbrev Hq:FE:=fC (.int 18)
abbrev Hr:FE:=fC (.int 23)
abbrev qr:FE:=fC (.int 26)
abbrev xu:FE:=fC (.int 7919)
abbrev vV:FE:=fC (.int 40013)
abbrev vW:FE:=fC (.int 48271)
abbrev oy:FE:=fC (.int 65521)
abbrev ly:FE:=fC (.int 1000003)
abbrev qt:FE:=fC (.int 12820163)
abbrev iO:FE:=fC (.int 2147483647)
def oz:FE :=
  (fOp bIn aj (fC (.str "abcdefghijklmnopqrstuvwxyz")))
def nU:FS :=
  (aH (sIf (jT (eG (ay (fCB bU (aa aj (aa (fC (.ty "str")) af))))) (eG (ay (tJ bLe bLe ax (fCB ce (aa aj af)) uk)))) (aZ (fC (.bl false))) bT)
  (aZ (fCB p9 (aa (cK 1 [] (fIA aj) (gN 0) cj oz) af))))
def kR:List D->Option Rz:=aU nU 1 1
def j4:FS :=
  (aZ (fBM "str" yH aj (aa (fC (.str "-")) af)))
def cb:List D->Option Rz:=aU j4 1 1
def nV:FS :=
  (aZ (fIf (ay (aP cb (aa aj af))) (fSl bSl aj (eU ax) oNo) aj))
def bP:List D->Option Rz:=aU nV 1 1
def lO:FS :=
  (aZ (fIf (ay (aP cb (aa aj af))) (aP bP (aa aj af)) (fOp cE (fC (.str "-")) aj)))
def dW:List D->Option Rz:=aU lO 1 1
def gG:FS :=
  (aZ (fCB br (aa (cK 1 [] (yQ aj) (gN 0) cj (aP dW (aa aj af))) af)))
def df:List D->Option Rz:=aU gG 1 1
def ji:FS :=
  (aH (sIf (ay (fOp bEq (fCB ce (aa aj af)) ax)) (aZ (bL (aa (aP bP (aa (fOp bIx aj aG) af)) af))) bT)
  (aH (sIf (ay (fOp bLt (aP bP (aa (fOp bIx aj aG) af)) (aP bP (aa (fOp bIx aj (fUn vq ax)) af)))) (aZ (fCB br (aa aj af))) bT)
  (aZ (aN df (aa aj af)))))
def jj:List D->Option Rz:=aU ji 1 1
def iu:FS :=
  (aH (bb (cK 1 [] (fIA aj) (gN 0) cj (aP bP (aa aj af))) 1)
  (aZ (fBM "list" bIndex aF (aa (fCB G5 (aa aF af)) af))))
def cO:List D->Option Rz:=aU iu 2 1
def jk:FS :=
  (aH (bb (fIf (ay (aP cb (aa (fOp bIx aj (aP cO (aa aj af))) af))) (aN df (aa aj af)) (fCB br (aa aj af))) 1)
  (aH (bb (aP cO (aa aF af)) 2)
  (aZ (fOp gC (fSl oP aF (eU aW) oNo) (fSl oP aF oNo (eU aW))))))
def jm:List D->Option Rz:=aU jk 3 1
def gH:FS :=
  (aH (sIf (ay (fOp bEq (fOp bIx aj aG) (fC (.str "open")))) (aZ (bL (aa (fC (.str "open")) (aa (aN jj (aa (fOp bIx aj ax) af)) af)))) bT)
  (aZ (bL (aa (fC (.str "ring")) (aa (aN jm (aa (fOp bIx aj ax) af)) af)))))
def di:List D->Option Rz:=aU gH 1 1
def iw:FS :=
  (aZ (bL (aa (fOp bEq (fOp bIx aj aG) (fC (.str "ring"))) (aa (aP bP (aa (fOp bIx (fOp bIx aj ax) aG) af)) af))))
def cP:List D->Option Rz:=aU iw 1 1
def ul:FS :=
  (aZ (fCB br (aa (fCB (xq cP) (aa (cK 1 [] (fIA aj) (gN 0) cj (aN di (aa aj af))) af)) af)))
def um:List D->Option Rz:=aU ul 1 1
def lP:FS :=
  (aZ (iL (fCB bU (aa aj (aa (fC (.ty "int")) af))) (Ls (fCB bU (aa aj (aa (fC (.ty "bool")) af))))))
def qu:List D->Option Rz:=aU lP 1 1
def lQ:FS :=
  (aZ (bL (aa (aP bP (aa aj af)) (aa (fIf (ay (aP cb (aa aj af))) ax aG) af))))
def dX:List D->Option Rz:=aU lQ 1 1
def j8:FS :=
  (aZ (aN dX (aa (aP dW (aa aj af)) af)))
def dZ:List D->Option Rz:=aU j8 1 1
def lR:FS :=
  (aZ (fCB br (aa (fCB bO (aa aj af)) af)))
def ci:List D->Option Rz:=aU lR 1 1
def jn:FE :=
  (fOp ql aj aF)
def qv:FS :=
  (aZ (fCB p9 (aa (cK 2 [] (fIZ (aa aj (aa (fSl bSl aj (eU ax) oNo) af))) (gT 2 (gsC (gN 0) (gsC (gN 1) gsN))) cj jn) af)))
def cM:List D->Option Rz:=aU qv 1 1
def qw:FS :=
  (aH (sIf (jT (eG (ay (fCB bU (aa aj (aa (fC (.ty "tuple")) af))))) (jT (ay (fOp bNe (fCB ce (aa aj af)) cy)) (eG (ay (aP kR (aa (fOp bIx aj aG) af)))))) (aZ (fC (.bl false))) bT)
  (aZ (iL (aP qu (aa (fOp bIx aj ax) af)) (fOp bIn (fOp bIx aj ax) (bL (aa aG (aa ax af)))))))
def qx:List D->Option Rz:=aU qw 1 1
def f9:FE :=
  (aP qx (aa aj af))
def lS:FS :=
  (aH (sIf (jT (eG (ay (fCB bU (aa aj (aa (fC (.ty "tuple")) af))))) (ay (fOp lH (fCB ce (aa aj af)) (bL (aa ax (aa cy af)))))) (aZ (fC (.bl false))) bT)
  (aZ (iL (fCB p9 (aa (cK 1 [] (fIA aj) (gN 0) cj f9) af)) (aP cM (aa aj af)))))
def gI:List D->Option Rz:=aU lS 1 1
def gJ:FS :=
  (aZ (cK 2 [] (fIZ (aa aj (aa (fSl bSl aj (eU ax) oNo) af))) (gT 2 (gsC (gN 0) (gsC (gN 1) gsN))) cj (aN ci (aa (bL (aa (aN dZ (aa aj af)) (aa (aN dX (aa aF af)) af))) af))))
def eK:List D->Option Rz:=aU gJ 1 1
def fR:FS :=
  (aH (bb (fOp bIx aj ax) 1)
  (aH (bb (aN dX (aa (fOp bIx aF aG) af)) 2)
  (aH (bb (aN dZ (aa (fOp bIx aF (fUn vq ax)) af)) 3)
  (aH (bb (fIf (ay (fOp bEq (fOp bIx aj aG) (fC (.str "open")))) (cZ (aa (bL (aa aW af)) (aa (bL (aa bC af)) af))) (cZ (aa (aN ci (aa (bL (aa aW (aa bC af))) af)) af))) 4)
  (aZ (fOp cE (aN eK (aa aF af)) cA))))))
def dN:List D->Option Rz:=aU fR 5 1
def kc:FS :=
  (aH (bb (cZ af) 1)
  (aH (fY (fIA aj) (gN 2) (ck (fM isL i6 1 (aa (aN dN (aa aW af)) af))))
  (aZ (fCB br (aa (fCB bO (aa aF af)) af)))))
def fI:List D->Option Rz:=aU kc 3 1
def fS:FS :=
  (aH (mJ mP (fIf (ay (fOp bEq (fCB ce (aa aW af)) cy)) (fOp bIx aW ax) (fC .non)) 1 (fOp bIx aW aG))
  (mJ mP (fIf (ay (fOp bEq (fCB ce (aa aW af)) cy)) (fOp bIx aW aG) (fC .non)) 1 (fOp bIx aW (fUn vq ax))))
def iy:FS :=
  (aH (bb (sF (.dt [])) 1)
  (aH (fY (fIA aj) (gN 2) fS)
  (aZ aF)))
def iz:List D->Option Rz:=aU iy 3 1
def nW:FS :=
  (aZ (fIf (ay (fOp bEq (fOp bIx aj ax) aG)) (fOp bIx aj aG) (aP dW (aa (fOp bIx aj aG) af))))
def kT:List D->Option Rz:=aU nW 1 1
def qy:FS :=
  (aZ (bL (aa (fOp bIx aj aG) (aa (fOp tQ ax (fOp bIx aj ax)) af))))
def mU:List D->Option Rz:=aU qy 1 1
def gK:FS :=
  (aH (ck (fM isL bx 2 (aa (aN kT (aa bC af)) af)))
  (bb (fOp jL aF (aN mU (aa bC af))) 3))
def jp:FS :=
  (aH (bb (cZ (aa (aN kT (aa aj af)) af)) 2)
  (aH (bb (fOp jL aF (aN mU (aa aj af))) 3)
  (aH (sWh (lw (ay (fOp (oM true) bC (fC .non))) (ay (fOp jX bC aj))) gK 100)
  (aZ (fCB br (aa aW af))))))
def gc:List D->Option Rz:=aU jp 4 2
def jq:FT :=
  (ay (fOp (oM false) (fOp jL aF aj) (fC .non)))
def jr:FE :=
  aj
def jt:FS :=
  (mJ mP (fC (.bl true)) 4 (aP bP (aa xt af)))
def lU:FS :=
  (sIf (ay (fOp (GN true) (fOp bIx eJ aG) cA)) (aH (bb (aN gc (aa eJ (aa aF af))) 6)
  (aH (ck (fM isL bx 3 (aa (bL (aa (fIf (ay (fOp (oM false) (fOp jL aF eJ) (fC .non))) (fC (.str "open")) (fC (.str "ring"))) (aa j0 af))) af)))
  (fY (fIA j0) (gN 7) jt))) bT)
def qz:FS :=
  (aH (bb (aN iz (aa aj af)) 1)
  (aH (bb (cK 1 [1] (fIA (fCB lM (aa aF af))) (gN 0) jq jr) 2)
  (aH (bb (cZ af) 3)
  (aH (bb (sF (.dk [])) 4)
  (aH (fY (fIA (fOp cE aW (fCB lM (aa aF af)))) (gN 5) lU)
  (aZ (aN um (aa bC af))))))))
def qA:List D->Option Rz:=aU qz 8 1
def hW:FE :=
  (aP gI (aa aj af))
def nX:FS :=
  (aH (sIf (jT (eG (ay (fCB bU (aa aj (aa (fC (.ty "tuple")) af))))) (ay (fOp lH (fCB ce (aa aj af)) (bL (aa ax (aa cy af)))))) (aZ (fC (.bl false))) bT)
  (aZ (iL (fCB p9 (aa (cK 1 [] (fIA aj) (gN 0) cj hW) af)) (aP cM (aa aj af)))))
def iP:List D->Option Rz:=aU nX 1 1
def kU:FE :=
  (fCB ce (aa aj af))
def uo:FS :=
  (aZ (fCB br (aa (fCB bO (aa (cK 1 [] (fIA aj) (gN 0) cj kU) af)) af)))
def pE:List D->Option Rz:=aU uo 1 1
def kf:FS :=
  (ck (fM isL i6 1 (aa aW af)))
def nY:FS :=
  (aH (bb (cZ af) 1)
  (aH (fY (fIA aj) (gN 2) kf)
  (aZ (fCB bO (aa aF af)))))
def iQ:List D->Option Rz:=aU nY 3 1
def hX:FE :=
  (aP iP (aa aj af))
def nZ:FS :=
  (aH (sIf (jT (eG (ay (fCB bU (aa aj (aa (fC (.ty "tuple")) af))))) (jT (ay (fOp jX (fCB ce (aa aj af)) cy)) (eG (ay (fCB p9 (aa (cK 1 [] (fIA aj) (gN 0) cj hX) af)))))) (aZ (fC (.bl false))) bT)
  (aH (bb (fOp bIx aj aG) 1)
  (aH (bb (fOp bIx aj ax) 2)
  (aH (bb (aN iQ (aa aF af)) 3)
  (aH (sIf (jT (eG (ay (aP cM (aa bC af)))) (ay (fOp jX bC (aN iQ (aa aW af))))) (aZ (fC (.bl false))) bT)
  (aZ (iL (Kg [.tup [.tup [.int 2],.tup [.int 1,.int 1]],.tup [.tup [.int 1,.int 1],.tup [.int 2]],.tup [.tup [.int 2,.int 2],.tup [.int 2,.int 2]],.tup [.tup [.int 1,.int 2],.tup [.int 1,.int 2]]] (bL (aa (aN pE (aa aF af)) (aa (aN pE (aa aW af)) af)))) (fOp jX aF aW))))))))
def d6:List D->Option Rz:=aU nZ 4 1
def cJ:FE :=
  (fOp xg aj aF)
def eM:FS :=
  (sIf (jT (eG (ay (aP d6 (aa aF af)))) (eG (ay (fCB p9 (aa (cK 1 [0] (fIA (fOp bIx aF aG)) (gN 0) cj cJ) af))))) xh bT)
def eN:List D->Option Rz:=aU eM 2 2
def dA:FT :=
  (ay (fOp hV aj (fOp bIx aF aG)))
def dB:FE :=
  aj
def gL:FS :=
  (aH (bb (cK 1 [1] (fIA aj) (gN 0) dA dB) 2)
  (aZ (fCB br (aa (fCB bO (aa (fOp gC aW (fCB nO (aa (fOp bIx aF ax) af))) af)) af))))
def gM:List D->Option Rz:=aU gL 3 2
def xv:FS :=
  (aH (bb (aN fI (aa aj af)) 2)
  (aH (ck (aN eN (aa aW (aa aF af))))
  (aZ (aN qA (aa (aN gM (aa aW (aa aF af))) af)))))
def uq:List D->Option Rz:=aU xv 3 2
def xw:FS :=
  (aH (sIf (eG (ay (aP d6 (aa aj af)))) xh bT)
  (aZ (bL (aa (fOp bIx aj ax) (aa (fOp bIx aj aG) af)))))
def ut:List D->Option Rz:=aU xw 1 1
def qB:FS :=
  (aZ (bL (aa (bL (aa aj af)) (aa (bL (aa (bL (aa (fOp bIx aj aG) af)) (aa (bL (aa (fOp bIx aj ax) af)) af))) af))))
def qC:List D->Option Rz:=aU qB 1 1
def fu:FS :=
  (aH (bb (cZ (aa (aN ci (aa (bL (aa (fOp bIx aF aG) (aa (fOp bIx aj bC) af))) af)) (aa (aN ci (aa (fOp gC (fSl oP aF (eU ax) oNo) (bL (aa (fOp bIx aj (fOp tQ ax bC)) af))) af)) af))) 4)
  (ck (fM isL bx 2 (aa (fCB br (aa (fCB bO (aa cA af)) af)) af))))
def ki:FS :=
  (aH (bb (cZ af) 2)
  (aH (fY (fIA (bL (aa aG (aa ax af)))) (gN 3) fu)
  (aZ aW)))
def d7:List D->Option Rz:=aU ki 5 2
def gd:FE :=
  (bL (aa (bL (aa aF (aa aW af))) (aa aj af)))
def lV:FS :=
  (aH (sIf (ay (fOp bEq (fCB ce (aa aj af)) cy)) (bb (aN d7 (aa aj (aa aF af))) 2) (sIf (ay (fOp bEq (fCB ce (aa aF af)) cy)) (bb (aN d7 (aa aF (aa aj af))) 2) (bb (cZ (aa (bL (aa (aN ci (aa (fOp gC aj aF) af)) af)) af)) 2)))
  (aZ (cK 1 [0,1] (fIA aW) (gN 0) cj gd)))
def lW:List D->Option Rz:=aU lV 3 2
def fT:FT :=
  (ay (fOp bEq (fCB ce (aa aj af)) cy))
def fU:FE :=
  (aN qC (aa aj af))
def dO:FS :=
  (ck (fM isL i6 1 (aa (aN lW (aa bC (aa cA af))) af)))
def fV:FS :=
  (fY (fIA (fSl oP aj (eU (fOp gC aW ax)) oNo)) (gN 4) dO)
def iA:FS :=
  (aH (bb (cK 1 [] (fIA aj) (gN 0) fT fU) 1)
  (aH (fY (GY (aa aj af)) (gT 2 (gsC (gN 2) (gsC (gN 3) gsN))) fV)
  (aZ (fCB bO (aa aF af)))))
def iB:List D->Option Rz:=aU iA 5 1
def ju:FS :=
  (aZ (aN iB (aa (aN fI (aa aj af)) af)))
def gf:List D->Option Rz:=aU ju 1 1
def lX:FS :=
  (aZ (cZ (aa (fCB nO (aa aj af)) (aa aG (aa aG (aa ax (aa aG af)))))))
def lY:List D->Option Rz:=aU lX 1 1
def jv:FS :=
  (aH (sIf (lw (ay (fOp bEq (fOp bIx aj cy) aG)) (ay (fOp bLt (fOp bIx aj ax) (fCB ce (aa (fOp bIx aj aG) af))))) (aH (bb (fOp bIx (fOp bIx aj aG) (fOp bIx aj ax)) 2)
  (aH (mJ qa (fOp cE (fOp bIx aj ax) ax) 0 ax)
  (sIf (ay (fOp bGe aW (fOp O6 Ho Hq))) (mJ qa aW 0 cy) (mJ qa (fOp oK (fOp cE (fOp cE (fOp mL (fOp bIx aj f8) vV) (fOp oK aW ly)) ax) iO) 0 f8)))) bT)
  (aH (sIf (ay (fOp bGt (fOp bIx aj cy) aG)) (aH (bb (fOp oK (fOp bIx aj cy) aF) 3)
  (aH (mJ qa (fOp w5 (fOp bIx aj cy) aF) 0 cy)
  (aZ bC))) bT)
  (aH (mJ qa (fOp cE (fOp bIx aj mT) ax) 0 mT)
  (aH (mJ qa (fOp oK (fOp cE (fOp cE (fOp mL (fOp bIx aj f8) vW) qt) (fOp bIx aj mT)) iO) 0 f8)
  (aZ (fOp oK (fOp w5 (fOp oK (fOp mL (fOp cE (fOp oK (fOp bIx aj f8) oy) ax) (fOp cE (fOp w5 (fOp bIx aj f8) oy) xu)) ly) zi) aF))))))
def bi:D->List D->Option (Rz×D):=dH jv 4 2
def iC:FS :=
  (aZ (fBM "str" FY (fC (.str "")) (aa (cK 1 [0] (tM (aa aF af)) (gN 0) cj (fOp bIx (fC (.str "abcdefghijklmnopqrstuvwxyz")) (fIO bi 1 (aa qr af)))) af)))
def dL:D->List D->Option (Rz×D):=dH iC 2 2
def lZ:FS :=
  (aH (sIf (ay (fOp bNe aF (fC (.str "")))) (aZ (fOp cE aF (fIO dL 0 (aa (fOp cE ax (fIO bi 0 (aa cy af))) af)))) bT)
  (aH (sIf (ay (fOp bEq (fIO bi 0 (aa zi af)) aG)) (aH (bb (cZ (FZ ["to","turn","turns","ring","rings","odd","ours","row","rows","cuts","knots","cover"])) 2)
  (aH (bb (fOp cE aW (cZ (FZ ["change","joins","theirs","one","two","home","none","open","keep","tox","onex"]))) 2)
  (aZ (fOp bIx aW (fIO bi 0 (aa Hr af)))))) bT)
  (aZ (fIO dL 0 (aa (fOp cE ax (fIO bi 0 (aa uk af))) af)))))
def md:D->List D->Option (Rz×D):=dH lZ 3 2
def hZ:FS :=
  (aH (bb (fC (.str "")) 2)
  (aH (sIf (ay (fOp bEq (fIO bi 0 (aa f8 af)) aG)) (bb (fIO dL 0 (aa (fOp cE ax (fIO bi 0 (aa mT af))) af)) 2) bT)
  (aH (bb (cZ af) 3)
  (aH (fY (tM (aa aF af)) (gN 4) (aH (bb (fIO md 0 (aa aW af)) 5)
  (aH (bb aG 6)
  (aH (sWh (ay (fOp bIn eJ bC)) (aH (bb (fOp mL (fOp bIx (fC (.str "abcdefghijklmnopqrstuvwxyz")) (fOp oK j0 qr)) (fOp cE ax (fOp w5 j0 qr))) 5)
  (bb (fOp cE j0 ax) 6)) 200)
  (ck (fM isL bx 3 (aa eJ af)))))))
  (aZ bC)))))
def kj:D->List D->Option (Rz×D):=dH hZ 7 2
def gO:FS :=
  (aH (bb (fCB nO (aa aF af)) 2)
  (aH (bb (cZ af) 3)
  (aH (sWh (ay (fOp bNe aW (cZ af))) (ck (fM isL bx 3 (aa (fM isL tR 2 (aa (fIO bi 0 (aa (fCB ce (aa aW af)) af)) af)) af))) 300)
  (aZ bC))))
def gP:D->List D->Option (Rz×D):=dH gO 4 2
def me:FS :=
  (aZ (fCB br (aa (cK 1 [0] (fIA (fIO gP 0 (aa aF af))) (gN 0) cj (fOp cE (fOp mL (fC (.str "-")) (fIO bi 1 (aa cy af))) aj)) af)))
def gQ:D->List D->Option (Rz×D):=dH me 2 2
def kW:FS :=
  (aH (bb (cZ af) 3)
  (aH (bb (cZ af) 4)
  (aH (fY (fIA (fIO gQ 0 (aa aF af))) (gN 5) (aH (ck (fM isL bx 4 (aa eJ af)))
  (sIf (ay (fOp bEq (fIO bi 0 (aa f8 af)) aG)) (aH (ck (fM isL bx 3 (aa (bL (aa (fC (.str "open")) (aa (fCB br (aa cA af)) af))) af)))
  (bb (cZ af) 4)) (sIf (lw (ay aW) (ay (fOp bEq (fIO bi 0 (aa f8 af)) aG))) (aH (ck (fM isL bx 3 (aa (bL (aa (fC (.str "ring")) (aa (fCB br (aa cA af)) af))) af)))
  (bb (cZ af) 4)) bT))))
  (aH (sIf (ay (fOp bNe cA (cZ af))) (ck (fM isL bx 3 (aa (bL (aa (fC (.str "open")) (aa (fCB br (aa cA af)) af))) af))) bT)
  (aZ (fCB br (aa bC af)))))))
def n4:D->List D->Option (Rz×D):=dH kW 6 3
def km(gs:List D->Option Rz):FS :=
  (aH (sIf (ay (fOp (oM false) aF (fC .non))) (aZ (fOp (oM false) aj (fC .non))) bT)
  (aH (sIf (jT (ay (fCB bU (aa aF (aa (fC (.ty "bool")) af)))) (ay (fCB bU (aa aj (aa (fC (.ty "bool")) af))))) (aZ (iL (fCB bU (aa aF (aa (fC (.ty "bool")) af))) (iL (fCB bU (aa aj (aa (fC (.ty "bool")) af))) (fOp bEq aj aF)))) bT)
  (aH (sIf (ay (fCB bU (aa aF (aa (fC (.ty "int")) af)))) (aZ (iL (fCB bU (aa aj (aa (fC (.ty "int")) af))) (fOp bEq aj aF))) bT)
  (aH (sIf (ay (fCB bU (aa aF (aa (fC (.ty "str")) af)))) (aZ (iL (fCB bU (aa aj (aa (fC (.ty "str")) af))) (fOp bEq aj aF))) bT)
  (aH (sIf (jT (ay (fOp bNe (fCB bU (aa aF (aa (fC (.ty "tuple")) af))) (fCB bU (aa aj (aa (fC (.ty "tuple")) af))))) (ay (fOp bNe (fCB bU (aa aF (aa (fC (.ty "list")) af))) (fCB bU (aa aj (aa (fC (.ty "list")) af)))))) (aZ (fC (.bl false))) bT)
  (aZ (iL (fOp bEq (fCB ce (aa aj af)) (fCB ce (aa aF af))) (fCB p9 (aa (cK 1 [0,1] (tM (aa (fCB ce (aa aF af)) af)) (gN 0) cj (aP gs (aa (fOp bIx aF aj) (aa (fOp bIx aW aj) af)))) af)))))))))
def mf:FS :=
  (aH (sIf (ay (fOp bEq (fOp bIx aj aG) (fC (.str "-")))) (aZ (bL (aa (bL (aa (fSl bSl aj (eU ax) oNo) (aa ax af))) (aa (bL (aa (fSl bSl aj (eU ax) oNo) (aa aG af))) af)))) bT)
  (aZ (bL (aa (bL (aa aj (aa aG af))) (aa (bL (aa aj (aa ax af))) af)))))
def gR:List D->Option Rz:=aU mf 1 1
def gh:FS :=
  (aH (bb (cZ af) 1)
  (aH (fY (fIA aj) (gT 2 (gsC (gN 2) (gsC (gN 3) gsN))) (aH (bb (cK 1 [] (fIA bC) (gN 0) cj (aN gR (aa aj af))) 4)
  (aH (fY (tM (aa (fOp tQ (fCB ce (aa cA af)) ax) af)) (gN 5) (ck (fM isL bx 1 (aa (fCB br (aa (fCB bO (aa (cZ (aa (fOp bIx (fOp bIx cA eJ) ax) (aa (fOp bIx (fOp bIx cA (fOp cE eJ ax)) aG) af))) af)) af)) af))))
  (sIf (ay (fOp bEq aW (fC (.str "ring")))) (ck (fM isL bx 1 (aa (fCB br (aa (fCB bO (aa (cZ (aa (fOp bIx (fOp bIx cA (fUn vq ax)) ax) (aa (fOp bIx (fOp bIx cA aG) aG) af))) af)) af)) af))) (aH (ck (fM isL bx 1 (aa (bL (aa (fOp bIx (fOp bIx cA aG) aG) af)) af)))
  (ck (fM isL bx 1 (aa (bL (aa (fOp bIx (fOp bIx cA (fUn vq ax)) ax) af)) af))))))))
  (aZ (fCB br (aa (fCB bO (aa aF af)) af)))))
def jw:List D->Option Rz:=aU gh 6 1
def eO:FT :=
  (ay (fOp hV aj (fOp bIx aF aG)))
def eP:FE :=
  aj
def jx:FS :=
  (aZ (fCB br (aa (fCB bO (aa (fOp gC (cK 1 [1] (fIA aj) (gN 0) eO eP) (fCB nO (aa (fOp bIx aF ax) af))) af)) af)))
def jy:List D->Option Rz:=aU jx 2 2
def gU:FS :=
  (aH (ck (fM isL bx 2 (aa (fOp cE (fOp mL (fC (.str "-")) (fOp bIx bC ax)) (fOp bIx bC aG)) af)))
  (aH (bb (fOp jL aj (bL (aa (fOp bIx bC aG) (aa (fOp tQ ax (fOp bIx bC ax)) af)))) 4)
  (aH (sIf (ay (fOp lK (fCB ce (aa cA af)) ax)) (aZ (bL (aa (fC (.str "open")) (aa (fCB br (aa aW af)) af)))) bT)
  (aH (bb (fOp bIx cA (fCB (b1 Nv) (aa (fOp lK (fOp bIx cA aG) (bL (aa (fOp bIx bC aG) (aa (fOp tQ ax (fOp bIx bC ax)) af)))) af))) 3)
  (sIf (ay (fOp lK bC aF)) (aZ (bL (aa (fC (.str "ring")) (aa (fCB br (aa aW af)) af)))) bT)))))
def jz:FS :=
  (aH (bb (cZ af) 2)
  (aH (bb aF 3)
  (sWh (ay (fC (.bl true))) gU 100)))
def gi:List D->Option Rz:=aU jz 5 2
def fv:FS :=
  (mJ mP aW 1 bC)
def fw:FS :=
  (fY (fIA aW) (gN 3) fv)
def fz:FT :=
  (ay (fOp lK (fCB ce (aa aj af)) ax))
def fA:FE :=
  (fOp bIx aj aG)
def fB:FS :=
  (mJ mP (fC (.bl true)) 5 (fBM "str" xn xt (aa (fC (.str "-")) af)))
def iD:FS :=
  (sIf (ay (fOp (GN true) (fOp bIx bC aG) eJ)) (aH (ck (fM isL bx 6 (aa (aN gi (aa aF (aa bC af))) af)))
  (fY (fIA (fOp bIx (fOp bIx j0 (fUn vq ax)) ax)) (gN 7) fB)) bT)
def kn:FS :=
  (aH (bb (sF (.dt [])) 1)
  (aH (fY (fIA aj) (gN 2) fw)
  (aH (bb (fCB bO (aa (cK 1 [] (fIA aj) (gN 0) fz fA) af)) 4)
  (aH (bb (sF (.dk [])) 5)
  (aH (bb (cZ af) 6)
  (aH (fY (fIA (fOp cE cA (fCB bO (aa (fCB xl (aa aF af)) af)))) (gN 3) iD)
  (aZ (fCB br (aa j0 af)))))))))
def fJ:List D->Option Rz:=aU kn 8 1
def pF:FS :=
  (aH (bb (fOp bIx eJ (fOp oK (fOp cE j0 NZ) (fCB ce (aa eJ af)))) 9)
  (aH (bb (aN uq (aa aW (aa lN af))) 10)
  (aH (sIf (jT (ay (fOp Hd (aP d6 (aa lN af)) (fC (.bl true)))) (ay (fOp xg mS xt))) (aZ (fC (.bl false))) bT)
  (aH (ck (fM isL bx 7 (aa mS af)))
  (aH (sIf (eG (ay (aP (cR 6) (aa mS (aa (aN fJ (aa (aN jy (aa bC (aa lN af))) af)) af))))) (aZ (fC (.bl false))) bT)
  (aH (bb (aN ut (aa lN af)) 11)
  (aH (sIf (jT (eG (ay (aP (cR 6) (aa pD (aa (bL (aa (fOp bIx lN ax) (aa (fOp bIx lN aG) af))) af))))) (eG (ay (aP (cR 6) (aa (aN ut (aa pD af)) (aa lN af)))))) (aZ (fC (.bl false))) bT)
  (sIf (jT (ay (fOp hV pD (aN gf (aa mS af)))) (eG (ay (aP (cR 6) (aa (aN uq (aa mS (aa pD af))) (aa cA af)))))) (aZ (fC (.bl false))) bT))))))))
def Hs:FS :=
  (aH (bb (aN lY (aa aj af)) 1)
  (aH (bb (JM n4 1 [.bl true] (aa (fIO kj 1 (aa (fOp cE ax (fIO bi 1 (aa mT af))) af)) af)) 2)
  (aH (bb (aN jw (aa aW af)) 3)
  (aH (bb (aN fJ (aa bC af)) 4)
  (aH (bb (aN gf (aa aW af)) 5)
  (aH (sIf (ay (fOp lK (fCB ce (aa eJ af)) aG)) (aZ (fC (.bl false))) bT)
  (aH (bb (fIO bi 1 (aa (fCB ce (aa eJ af)) af)) 6)
  (aH (bb (cZ (aa cA af)) 7)
  (aH (fY (tM (aa (fCB (b2 Nu) (aa uk (aa (fCB ce (aa eJ af)) af))) af)) (gN 8) pF)
  (aZ (fC (.bl true))))))))))))
def PL:List D->Option Rz:=aU Hs 12 1
end
end K17
namespace K17
open PySem L2 VF VF22
abbrev nl0:List Str:=["thing"]
abbrev nl1:List Str:=["bead"]
abbrev nl2:List Str:=["beads"]
abbrev nl3:List Str:=["joints"]
abbrev nl4:List Str:=["strand"]
abbrev nl5:List Str:=["some"]
abbrev nl6:List Str:=["end"]
abbrev nl7:List Str:=["joint"]
abbrev nl8:List Str:=["_law_flow_here","_law_many"]
abbrev nl9:List Str:=["one","other"]
abbrev xy:List Str:=["joints","deed"]
abbrev Ed:List Str:=["_law_script"]
abbrev Ee:List Str:=["_law_found","_law_due"]
abbrev Ef:List Str:=["_law_bead"]
abbrev Ht:List Str:=["_law_flow_here","_law_names_here"]
abbrev Hu:List Str:=["_law_joints_here","_law_deed"]
abbrev N0:List Str:=["joints","beyond","free","strands","seen","end","beads","bead"]
abbrev N1:List Str:=["thing","gone","come","ends"]
abbrev N2:List Str:=["joints","deed","stay"]
abbrev N3:List Str:=["one","other","comes"]
abbrev N4:List Str:=["joints","found","k","one","other"]
abbrev N5:List Str:=["_law_some","_law_joints_here","_law_kind","_law_beads","_law_ends_here","_law_k"]
abbrev N6:List Str:=["_law_joints_here","_law_stand","_law_joint","_law_end","_law_begins","_law_seen","_law_strands","_law_bead"]
abbrev PM:List Str:=["strand","beads","begin","end","outer"]
abbrev PN:List Str:=["pair","other","found","k","come"]
abbrev PP:List Str:=["_law_flow_here","_law_many","_law_cell","_law_digit"]
abbrev PQ:List Str:=["_law_flow_here","_law_stem","_law_words"]
abbrev PR:List Str:=["_law_flow_here","_law_many","_law_stem","_law_names_here","_law_k","_law_name_here","_law_spare"]
abbrev PU:List Str:=["_law_flow_here","_law_things","_law_left","_law_told"]
abbrev PV:List Str:=["_law_flow_here","_law_names_here","_law_rings","_law_strands","_law_piece","_law_bead"]
abbrev PX:List Str:=["_law_flow_here","_law_names_here","_law_rings"]
abbrev PY:List Str:=["_law_stand","_law_begin","_law_beads","_law_end","_law_joint"]
abbrev PZ:List Str:=["_law_script","_law_flow_here","_law_some","_law_joints_here","_law_begin","_law_every","_law_at","_law_seen","_law_k","_law_deed","_law_then","_law_again"]
def top(i:Nat):Stmt:=PySem.Challenge.pw_strandwright_k17_whole_deeds_go_back.main.body.getD i (.Pass ⟨0,0,0,0⟩)
abbrev pG:Stmt:=top 6
abbrev n5:Stmt:=top 7
abbrev uu:Stmt:=top 8
abbrev n6:Stmt:=top 9
abbrev gj:Stmt:=top 10
abbrev mi:Stmt:=top 12
abbrev ia:Stmt:=top 13
abbrev mj:Stmt:=top 14
abbrev jA:Stmt:=top 15
abbrev kr:Stmt:=top 16
abbrev uv:Stmt:=top 17
abbrev qD:Stmt:=top 19
abbrev qE:Stmt:=top 21
abbrev n8:Stmt:=top 22
abbrev qF:Stmt:=top 23
abbrev pH:Stmt:=top 24
abbrev xz:Stmt:=top 25
abbrev mV:Stmt:=top 26
abbrev gm:Stmt:=top 27
abbrev iE:Stmt:=top 28
abbrev n9:Stmt:=top 29
abbrev ku:Stmt:=top 30
abbrev uw:Stmt:=top 31
abbrev ux:Stmt:=top 32
abbrev ml:Stmt:=top 33
abbrev uz:Stmt:=top 34
abbrev pI:Stmt:=top 37
abbrev uA:Stmt:=top 38
abbrev uB:Stmt:=top 39
abbrev pJ:Stmt:=top 40
abbrev dP:Stmt:=top 41
abbrev ie:Stmt:=top 42
abbrev Hv:Stmt:=top 43
abbrev Hw:Stmt:=top 44
abbrev xA:Stmt:=top 45
abbrev mn:Stmt:=top 46
abbrev mW:Stmt:=top 47
abbrev ig:Stmt:=top 48
abbrev mo:Stmt:=top 49
abbrev xB:Stmt:=top 51
abbrev xC:Stmt:=top 52
abbrev kX:Stmt:=top 53
abbrev xD:Stmt:=top 54
abbrev uC:Stmt:=top 55
abbrev mq:Stmt:=top 56
abbrev uD:Stmt:=top 57
abbrev Hx:Stmt:=top 58
abbrev pK:Stmt:=top 59
abbrev xE:Stmt:=top 60
abbrev mX:Stmt:=top 61
abbrev mY:Stmt:=top 62
abbrev qG:Stmt:=top 63
abbrev pN:Stmt:=top 64
abbrev N7:Stmt:=top 65
def xF:FnScope nl0 nl0 (ak pG):=fsc (by decide +kernel)
def uE:FnScope nl1 nl1 (ak n5):=fsc (by decide +kernel)
def xG:FnScope nl1 nl1 (ak uu):=fsc (by decide +kernel)
def uF:FnScope nl1 nl1 (ak n6):=fsc (by decide +kernel)
def oQ:FnScope nl2 nl2 (ak gj):=fsc (by decide +kernel)
def rd:FnScope nl2 nl2 (ak mi):=fsc (by decide +kernel)
def sc_sfirstplace:FnScope ["beads","names"] nl2 (ak ia):=fsc (by decide +kernel)
def sc_scanonring:FnScope ["beads","side","begin"] nl2 (ak mj):=fsc (by decide +kernel)
def oR:FnScope nl4 nl4 (ak jA):=fsc (by decide +kernel)
def qH:FnScope nl4 nl4 (ak kr):=fsc (by decide +kernel)
def Eg:FnScope nl5 nl5 (ak uv):=fsc (by decide +kernel)
def vX:FnScope nl0 nl0 (ak qD):=fsc (by decide +kernel)
def vY:FnScope nl1 nl1 (ak qE):=fsc (by decide +kernel)
def uG:FnScope nl1 nl1 (ak n8):=fsc (by decide +kernel)
def vZ:FnScope ["ends"] ["ends"] (ak qF):=fsc (by decide +kernel)
def xH:FnScope ["things"] ["things"] (ak pH):=fsc (by decide +kernel)
def Eh:FnScope nl0 nl0 (ak xz):=fsc (by decide +kernel)
def v0:FnScope nl0 nl0 (ak mV):=fsc (by decide +kernel)
def oU:FnScope nl2 nl2 (ak gm):=fsc (by decide +kernel)
def sc_sstrandjoints:FnScope PM nl4 (ak iE):=fsc (by decide +kernel)
def sc_sjointsof:FnScope ["some","joints","strand"] nl5 (ak n9):=fsc (by decide +kernel)
def sc_sendsbeyond:FnScope ["joints","beyond","joint"] nl3 (ak ku):=fsc (by decide +kernel)
def xI:FnScope nl6 nl6 (ak uw):=fsc (by decide +kernel)
def xJ:FnScope nl6 nl6 (ak ux):=fsc (by decide +kernel)
def sc_sbeadsfrom:FnScope ["begin","beyond","beads","here"] ["begin","beyond"] (ak ml):=fsc (by decide +kernel)
def sc_ssetof:FnScope N0 nl3 (ak uz):=fsc (by decide +kernel)
def xK:FnScope nl0 nl0 (ak pI):=fsc (by decide +kernel)
def Ei:FnScope nl3 nl3 (ak uA):=fsc (by decide +kernel)
def sc_sendsof:FnScope ["joints","ends","joint"] nl3 (ak uB):=fsc (by decide +kernel)
def sc_sisdeed:FnScope N1 nl0 (ak pJ):=fsc (by decide +kernel)
def mr:FnScope xy xy (ak dP):=fsc (by decide +kernel)
def sc_sputinplace:FnScope N2 xy (ak ie):=fsc (by decide +kernel)
def sc_sdone:FnScope ["some","deed","joints"] ["some","deed"] (ak Hv):=fsc (by decide +kernel)
def Hy:FnScope ["deed"] ["deed"] (ak Hw):=fsc (by decide +kernel)
def Ej:FnScope nl7 nl7 (ak xA):=fsc (by decide +kernel)
def sc_sexchanges:FnScope PN ["pair","other"] (ak mn):=fsc (by decide +kernel)
def sc_sdeedson:FnScope N3 nl9 (ak mW):=fsc (by decide +kernel)
def sc_sdeedsamong:FnScope N4 nl3 (ak ig):=fsc (by decide +kernel)
def re:FnScope nl5 nl5 (ak mo):=fsc (by decide +kernel)
def Ek:FnScope Ed Ed (ak xB):=fsc (by decide +kernel)
def sc_sLpick:FnScope PP nl8 (ak xC):=fsc (by decide +kernel)
def uH:FnScope nl8 nl8 (ak kX):=fsc (by decide +kernel)
def sc_sLname:FnScope PQ ["_law_flow_here","_law_stem"] (ak xD):=fsc (by decide +kernel)
def sc_sLnames:FnScope PR nl8 (ak uC):=fsc (by decide +kernel)
def sc_sLshuffled:FnScope PU ["_law_flow_here","_law_things"] (ak mq):=fsc (by decide +kernel)
def Em:FnScope Ht Ht (ak uD):=fsc (by decide +kernel)
def sc_sLset:FnScope PV PX (ak Hx):=fsc (by decide +kernel)
def xL:FnScope Ee Ee (ak pK):=fsc (by decide +kernel)
def Ep:FnScope Ef Ef (ak xE):=fsc (by decide +kernel)
def sc_sLjoints:FnScope N5 ["_law_some"] (ak mX):=fsc (by decide +kernel)
def v4:FnScope Hu Hu (ak mY):=fsc (by decide +kernel)
def sc_sLwalked:FnScope PY ["_law_stand","_law_begin"] (ak qG):=fsc (by decide +kernel)
def sc_sLcanon:FnScope N6 ["_law_joints_here"] (ak pN):=fsc (by decide +kernel)
def sc_slaw:FnScope PZ Ed (ak N7):=fsc (by decide +kernel)
structure Md(K:Ab)(mg:Str->Option Value):Prop where
 n_all:mg "all"=none
 n_bool:mg "bool"=none
 n_enumerate:mg "enumerate"=none
 n_int:mg "int"=none
 n_isinstance:mg "isinstance"=none
 n_len:mg "len"=none
 n_list:mg "list"=none
 n_min:mg "min"=none
 n_range:mg "range"=none
 n_reversed:mg "reversed"=none
 n_sorted:mg "sorted"=none
 n_str:mg "str"=none
 n_tuple:mg "tuple"=none
 n_zip:mg "zip"=none
 c_LETTERS:∃t,mg "LETTERS"=some (.str "abcdefghijklmnopqrstuvwxyz" t)
 c_LONGEST_NAME:∃t,mg "LONGEST_NAME"=some (.int 6 t)
 c_FORMS:GlT K mg "FORMS" [.tup [.tup [.int 2],.tup [.int 1,.int 1]],.tup [.tup [.int 1,.int 1],.tup [.int 2]],.tup [.tup [.int 2,.int 2],.tup [.int 2,.int 2]],.tup [.tup [.int 1,.int 2],.tup [.int 1,.int 2]]]
end K17
namespace VF
open PySem L2
def xM(h:CMul i j):mL (.int i) (.int j)=some (.int (i*j),false):=by
 have:yF (.int i) (.int j)=some (.int (i*j),false):=by
  show(if CMul i j then some (D.int (i*j),false) else none)=_;rw[Ag h]
 unfold mL orD;rw[this]
def xN(h:0<j):oK (.int i) (.int j)=some (.int (i % j),false):=by
 show(if 0<j then some (D.int (i % j),false) else none)=_;rw[Ag h]
def N8(h:wP i j):w5 (.int i) (.int j)=some (.int (i / j),false):=by
 show(if wP i j then some (D.int (i / j),false) else none)=_;rw[Ag h]
def iF(h:atI ds i=some d):bIx (.lst ds) (.int i)=some (d,false):=by
 have:FN (.lst ds) (.int i)=some (d,false):=by
  show(atI ds i).bind (fun d=>some (d,false))=_;rw[h];rfl
 unfold bIx orD;rw[this]
def ix_tup(h:atI ds i=some d):bIx (.tup ds) (.int i)=some (d,false):=by
 have e1:FN (.tup ds) (.int i)=none:=rfl;have:JB (.tup ds) (.int i)=some (d,false):=by
  show(atI ds i).bind (fun d=>some (d,false))=_;rw[h];rfl
 unfold bIx orD;rw[e1,this]
def eS{f:FT}{st s:En}{b c:Bool}(h:f st=some (b,s))(e:b=c):f st=some (c,s):=e ▸ h
def iG{mm:D->D->D->Option D}{i:Nat}{st s1 s2 s3:En}{r rk:Rs}{dv dk z z':D}{t t0:Sl}{x0:D}(h1:fe st=some (r,s1))(h2:esc r s1=some (dv,s2))(h0:s2[i]?=some t0)(h00:t0.ow=some x0)(h3:fi s2=some (rk,s3))(h4:cont s3 rk=some dk)(h5:s3[i]?=some t)(h6:t.ow=some z)(h7:mm z dk dv=some z'){s4:En}(h8:s3.set i (t.put z')=s4:=by rfl):mJ mm fe i fi st=some (.nx s4):=by
 simp only[mJ,h1,h2,h0,h00,h3,h4,h5,h6,h7,h8,Yb]
end VF
namespace K17
open PySem L2 VF
def Fl(ns:List Int)(i m sd c:Int):D:=.lst [.lst (ns.map D.int),.int i,.int m,.int sd,.int c]
def dI(φ:D):Prop:=∃ns i m sd c,φ=Fl ns i m sd c/\0<=i/\0<=m/\0<=sd/\0<=c
def Kl(ns:List Int):lY [.fl (ns.map D.int)]=some (Fl ns 0 0 1 0,true):=rfl
def dC{φ : D}{n : Int}(hφ : dI φ)(h0 : 0 < n)(h1 : n ≤ 1000) : ∃ d φ', bi φ [.int n] = some ((.int d, false), φ') ∧ 0 ≤ d ∧ d < n ∧ dI φ' := by
  obtain ⟨ns, i, m, sd, c, rfl, hi, hm, hs, hc⟩ := hφ;have sp : ∃ A B, jv = aH A B ∧
     (∃ o i' m' sd', A [.io (Fl ns i m sd c), .v (.int n), .e, .e] = some (.nx [.io (Fl ns i' m' sd' c), .v (.int n), o, .e]) ∧ 0 ≤ i' ∧ 0 ≤ m' ∧ 0 ≤ sd') ∧
     (∀ o i m sd, 0 ≤ i → 0 ≤ m → 0 ≤ sd → ∃ d φ' s3, B [.io (Fl ns i m sd c), .v (.int n), o, .e] = some (.rt (.d (.int d)) [.io φ', .v (.int n), o, s3]) ∧ 0 ≤ d ∧ d < n ∧ dI φ') := by
    refine ⟨_, _, rfl, ?_, ?_⟩
    · by_cases c1 : m = 0
      · subst c1
        by_cases c2 : i < ((ns.map D.int).length : Int)
        · obtain ⟨v, hv, hm', _⟩ := wV hi c2
          obtain ⟨z, _, rfl⟩ := List.mem_map.mp hm';have t2 : lw (ay (fOp bEq (fOp bIx (aB 0) (fC (.int 2))) (fC (.int 0)))) (ay (fOp bLt (fOp bIx (aB 0) (fC (.int 1))) (fCB ce (aa (fOp bIx (aB 0) (fC (.int 0))) af)))) [.io (Fl ns i 0 sd c), .v (.int n), .e, .e] = some (true, [.io (Fl ns i 0 sd c), .v (.int n), .e, .e]) :=
            r6 rfl (eS (b := decide (i < ((ns.map D.int).length : Int))) rfl (Ae c2))
          by_cases c3 : (10 : Int) ^ (18 : Int).toNat ≤ z
          · have p18 : (0 : Int) ≤ 10 ^ (18 : Int).toNat := by decide
            refine ⟨.v (.int z), i + 1, z, sd, ?_, by lia, by lia, hs⟩
            refine f6 t2 ?_;refine aq (cC (x := .int z) (au rfl rfl rfl rfl (iF hv)) rfl) ?_;refine aq rfl ?_;refine f6 (eS (b := decide ((10 : Int) ^ (18 : Int).toNat ≤ z)) rfl (Ae c3)) ?_;rfl
          · refine ⟨.v (.int z), i + 1, 0, (sd * 40013 + z % 1000003 + 1) % 2147483647, ?_, by lia, by lia, Bo _ (by decide)⟩
            refine f6 t2 ?_;refine aq (cC (x := .int z) (au rfl rfl rfl rfl (iF hv)) rfl) ?_;refine aq rfl ?_;refine cW (eS (b := decide ((10 : Int) ^ (18 : Int).toNat ≤ z)) rfl (Af c3)) ?_;exact iG (au (au (au (au rfl rfl rfl rfl (xM (j := 40013) (.inr ⟨by decide, by decide⟩))) rfl rfl rfl rfl) rfl rfl rfl rfl) rfl rfl rfl rfl) rfl rfl rfl rfl rfl rfl rfl rfl
        · refine ⟨.e, i, 0, sd, ?_, hi, hm, hs⟩
          exact cW (r6 rfl (eS (b := decide (i < ((ns.map D.int).length : Int))) rfl (Af c2))) rfl
      · refine ⟨.e, i, m, sd, ?_, hi, hm, hs⟩
        have e : decide (V.int m = V.int 0) = false := Af fun z => c1 (V.int.inj z);exact cW (LI (eS (b := decide (V.int m = V.int 0)) rfl e)) rfl
    · intro o i m sd hi hm hs
      by_cases c1 : 0 < m
      · refine ⟨m % n, Fl ns i (m / n) sd c, .v (.int (m % n)), ?_, Bo _ (by lia), Cq _ h0, ⟨ns, i, m / n, sd, c, rfl, hi, Int.ediv_nonneg hm (by lia), hs, hc⟩⟩
        refine gB ?_;refine f6 (eS (b := decide (0 < m)) rfl (Ae c1)) ?_;refine aq (cC (au rfl rfl rfl rfl (xN h0)) rfl) ?_;refine aq (iG (au rfl rfl rfl rfl (N8 ⟨h0, by lia⟩)) rfl rfl rfl rfl rfl rfl rfl rfl) ?_
        rfl
      · refine ⟨(((sd * 48271 + 12820163 + (c + 1)) % 2147483647 % 65521 + 1) * ((sd * 48271 + 12820163 + (c + 1)) % 2147483647 / 65521 + 7919) % 1000003 / 7) % n, Fl ns i m ((sd * 48271 + 12820163 + (c + 1)) % 2147483647) (c + 1), .e, ?_, ?_, ?_, ⟨ns, i, m, _, _, rfl, hi, hm, Bo _ (by decide), by lia⟩⟩
        · refine aq (cW (eS (b := decide (0 < m)) rfl (Af c1)) rfl) ?_
          refine aq rfl ?_;refine aq (iG (au (au (au (au rfl rfl rfl rfl (xM (j := 48271) (.inr ⟨by decide, by decide⟩))) rfl rfl rfl rfl) rfl rfl rfl rfl) rfl rfl rfl rfl) rfl rfl rfl rfl rfl rfl rfl rfl) ?_
          have a := Bo ((sd * 48271 + 12820163 + (c + 1)) % 2147483647) (show (65521 : Int) ≠ 0 by decide)
          have b := Cq ((sd * 48271 + 12820163 + (c + 1)) % 2147483647) (show (0 : Int) < 65521 by decide)
          exact aK (au (au (au (au rfl rfl rfl rfl (xM (.inl ⟨by lia, by lia⟩))) rfl rfl rfl rfl) rfl rfl rfl rfl) rfl rfl rfl (xN h0))
        · exact Bo _ (by lia)
        · exact Cq _ h0
  obtain ⟨A, B, eF, ⟨o, i', m', sd', eA, hi', hm', hs'⟩, hB⟩ := sp;obtain ⟨d, φ', s3, eB, h2, h3, h4⟩ := hB o i' m' sd' hi' hm' hs';refine ⟨d, φ', ?_, h2, h3, h4⟩;refine dw (o := .rt (.d (.int d)) [.io φ', .v (.int n), o, s3]) rfl ?_ rfl;rw [eF];exact aq eA eB
end K17
namespace K17
open PySem L2 VF VL
def mv(hφ:dI φ)(h0:0<=k)(h1:k<=100):∃x φ',dL φ [.int k]=some ((.str x,false),φ')/\(x.length:Int)=k/\Lw x/\dI φ':=by
 have hE:(Str.ofString "").length=0:=by decide +kernel
 have cl:=r9 (fg:=gN 0) (fc:=cj) (k:=1) (fe:=fOp bIx (fC (.str "abcdefghijklmnopqrstuvwxyz")) (fIO bi 1 (aa (fC (.int 26)) af)))
  (fun pre sb=>∃φ' ys,sb=[.e,.io φ']/\dI φ'/\pre=ys.map D.str/\∀y∈ys,∃c,y=(⟨#[c]⟩:Str)/\97<=c/\c<=122) (by
   rintro pre x sb ⟨φ',ys,rfl,hf,rfl,hy⟩;obtain⟨d,φ2,e,d0,d1,hf2⟩:=dC (n:=26) hf (by decide) (by decide)
   obtain⟨c,hc,hm,_⟩:=wV (xs:=letS.cps.toList) d0 (by rw[qo,List.length_range'];exact d1)
   refine⟨[.v x,.io φ'],[.v x,.io φ'],.d (.str ⟨#[c]⟩),[.v x,.io φ2],.str ⟨#[c]⟩,[.v x,.io φ2],rfl,rfl,au rfl (cT rfl rfl rfl rfl rfl rfl e) rfl rfl (ix_str (by decide +kernel) hc),rfl,φ2,ys++[⟨#[c]⟩],rfl,hf2,by rw[Yc];rfl,fun y hy2=>?_⟩
   rcases Zc.mp hy2 with z|z
   ·exact hy y z
   ·have:y=⟨#[c]⟩:=by simpa using z
    rw[qo,List.mem_range'_1]at hm
    exact⟨c,this,by lia⟩)
  (rng 0 k.toNat) [] [.e,.io φ] ⟨φ,[],rfl,hφ,rfl,fun y hy=>by cases hy⟩
 obtain⟨ds,sf,e1,e2,φ',ys,rfl,hf,e3,hy⟩:=cl;rw[Vk]at e3;subst e3;rw[hU,Za]at e2;have hy':∀y∈ys,∃c,y=(⟨#[c]⟩:Str):=fun y h=>by obtain⟨c,e,_⟩:=hy y h;exact⟨c,e⟩
 refine⟨Txt.join (Str.ofString "") ys,φ',?_,by rw[join_ones hy'];lia,Hg hy,hf⟩
 have hj:FY (.str "") [.lst (ys.map D.str)]=some (.str (Txt.join (Str.ofString "") ys),false):=by
  show(iq (ys.map D.str)).bind (fun ys=>if (ys.map (·.length)).sum+ys.length*(Str.ofString "").length<=16777216 then some (D.str (Txt.join (Str.ofString "") ys),false) else none)=_;rw[jc];show(if _ then _ else _)=_;rw[Ag (by rw[Hh hy',hE];lia)]
 refine dw (o:=.rt (.d (.str (Txt.join (Str.ofString "") ys))) [.io φ',.v (.int k)]) rfl ?_ rfl
 exact aK (Gj rfl rfl rfl (ag (bF (jd rfl rfl ⟨by lia,by lia⟩) (by
  show(true&&decide ((rng 0 k.toNat).length<=1000000))=true
  rw[hU,Ae (by lia)];rfl) e1) rfl) rfl rfl hj)
abbrev w1:List Str:=["to","turn","turns","ring","rings","odd","ours","row","rows","cuts","knots","cover"]
abbrev w2:List Str:=["change","joins","theirs","one","two","home","none","open","keep","tox","onex"]
abbrev wordsS:List Str:=w1++w2
def okN(x:Str):Bool:=decide (1<=x.length/\x.length<=6)&&x.cps.toList.all fun c=>decide (97<=c/\c<=122)
def N9(h:okN x=true):Nm x:=by
 unfold okN at h;rw[Vi,decide_eq_true_eq,Xj]at h;exact⟨h.1.1,h.1.2,fun c hc=>Ak (h.2 c hc)⟩
def Hz:∀v∈wordsS,okN v=true:=Xj.mp (by decide +kernel)
def Km{st:Str}(hφ:dI φ)(hst:st.length<=4)(lst:Lw st):∃x φ',md φ [.str st]=some ((.str x,false),φ')/\Nm x/\dI φ':=by
 by_cases c0:st=""
 ·subst c0;obtain⟨d,φ1,e1,d0,d1,f1⟩:=dC (n:=7) hφ (by decide) (by decide)
  by_cases c1:d=0
  ·subst c1;obtain⟨d2,φ2,e2,d20,d21,f2⟩:=dC (n:=23) f1 (by decide) (by decide)
   obtain⟨v,hv,hm,_⟩:=wV (xs:=wordsS.map D.str) d20 (by rw[Za];exact d21)
   obtain⟨x,hx,rfl⟩:=Qb.mp hm;refine⟨x,φ2,?_,N9 (Hz x hx),f2⟩;refine dw (o:=.rt (.d (.str x)) [.io φ2,.v (.str ""),.o (.lst (wordsS.map D.str))]) rfl ?_ rfl;refine aq (s:=[.io φ,.v (.str ""),.e]) rfl ?_;refine gB ?_;refine f6 (s:=[.io φ1,.v (.str ""),.e]) (aC (au (cT rfl rfl rfl rfl rfl rfl e1) rfl rfl rfl rfl) rfl) ?_;refine aq (s:=[.io φ1,.v (.str ""),.o (.lst (w1.map D.str))]) rfl ?_;refine aq (s:=[.io φ1,.v (.str ""),.o (.lst (wordsS.map D.str))]) rfl ?_;exact aK (au rfl (cT rfl rfl rfl rfl rfl rfl e2) rfl rfl (iF hv))
  ·obtain⟨d2,φ2,e2,d20,d21,f2⟩:=dC (n:=6) f1 (by decide) (by decide)
   obtain⟨x,φ3,e3,hx,lx,f3⟩:=mv (k:=1+d2) f2 (by lia) (by lia)
   refine⟨x,φ3,?_,⟨by lia,by lia,lx⟩,f3⟩
   refine dw (o:=.rt (.d (.str x)) [.io φ3,.v (.str ""),.e]) rfl ?_ rfl;refine aq (s:=[.io φ,.v (.str ""),.e]) rfl ?_;have t:decide (V.int d=V.int 0)=false:=Af fun z=>c1 (V.int.inj z);refine aq (cW (s:=[.io φ1,.v (.str ""),.e]) (eS (b:=decide (V.int d=V.int 0)) (aC (au (cT rfl rfl rfl rfl rfl rfl e1) rfl rfl rfl rfl) rfl) t) rfl) ?_;exact aK (cT rfl rfl (ag (au rfl (cT rfl rfl rfl rfl rfl rfl e2) rfl rfl rfl) rfl) rfl rfl rfl e3)
 ·obtain⟨d,φ1,e1,d0,d1,f1⟩:=dC (n:=2) hφ (by decide) (by decide)
  obtain⟨x,φ2,e2,hx,lx,f2⟩:=mv (k:=1+d) f1 (by lia) (by lia)
  refine⟨st++x,φ2,?_,⟨by rw[AG];lia,by rw[AG];lia,lst.app lx⟩,f2⟩
  refine dw (o:=.rt (.d (.str (st++x))) [.io φ2,.v (.str st),.e]) rfl ?_ rfl;refine gB ?_;have t:(!decide (V.str st=V.str ""))=true:=by rw[Af (fun z=>c0 (V.str.inj z))];rfl
  refine f6 (s:=[.io φ,.v (.str st),.e]) (eS (b:=!decide (V.str st=V.str "")) rfl t) ?_;exact aK (au rfl (cT rfl rfl (ag (au rfl (cT rfl rfl rfl rfl rfl rfl e1) rfl rfl rfl) rfl) rfl rfl rfl e2) rfl rfl (pe (by lia)))
end K17
namespace VF
open PySem L2
def bp{s t:Sl}{st s1:En}(h:st[i]?=some t)(n:t.isIo=false)(e:st.set i s=s1:=by rfl):nK i s st=some s1:=by
 unfold nK;rw[h];show(if t.isIo=true then none else some (st.set i s))=_;rw[Aj (by rw[n];decide),e]
def dJ{xs:List D}(h:xs.length<1000000):bx (.lst xs) [y]=some (.non,.lst (xs++[y])):=by
 show(if xs.length<1000000 then some (D.non,D.lst (xs++[y])) else none)=_;rw[Ag h]
def HA{xs:List D}{i:Int}(h0:0<=i)(h1:i<xs.length)(h2:xs.length<=1000000)(hk:i.toNat<xs.length):tR (.lst xs) [.int i]=some (xs[i.toNat],.lst (xs.eraseIdx i.toNat)):=by
 show(if -(2 ^ 63)<=i/\i<2 ^ 63 then(seqIndex? i xs.length).bind fun k=>(xs[k]?).bind fun y=>some (y,D.lst (xs.eraseIdx k)) else none)=_;rw[Ag ⟨by lia,by lia⟩,PySem.seqIndex_of h0 h1]
 show(xs[i.toNat]?).bind (fun y=>some (y,D.lst (xs.eraseIdx i.toNat)))=_;rw[Ya hk];rfl
def jB{α:Type}{f:α->D}{g:D->α}(hg:∀a,g (f a)=a){ys:List D}{xs:List α}(p:ys.Perm (xs.map f)):∃zs:List α,ys=zs.map f/\zs.Perm xs:=by
 have h1:∀y∈ys,∃z,y=f z:=fun y hy=>by
  obtain⟨z,_,rfl⟩:=Qb.mp (p.mem_iff.mp hy);exact⟨z,rfl⟩
 refine⟨ys.map g,?_,?_⟩
 ·rw[Ze];refine(Bs ys).symm.trans (Vh fun y hy=>?_);obtain⟨z,rfl⟩:=h1 y hy;show f z=f (g (f z));rw[hg]
 ·have:=p.map g;rw[Ze]at this;refine this.trans (CT ?_);exact(Vh fun z _=>hg z).trans (Bs xs)
end VF
namespace K17
open PySem L2 VF VL
def HB(hφ:dI φ)(h0:0<=n)(h1:n<=100):∃(xs:List Str)(φ':D),kj φ [.int n]=some ((.lst (xs.map D.str),true),φ')/\(xs.length:Int)=n/\(∀x∈xs,Nm x)/\xs.Nodup/\dI φ':=by
 obtain⟨d,φ1,e1,d0,d1,f1⟩:=dC (n:=3) hφ (by decide) (by decide)
 have sp:∃A B C R,hZ=aH A (aH B (aH C R)) /\
   (∃st φ2,A [.io φ,.v (.int n),.e,.e,.e,.e,.e]=some (.nx [.io φ,.v (.int n),.v (.str ""),.e,.e,.e,.e])/\B [.io φ,.v (.int n),.v (.str ""),.e,.e,.e,.e]=some (.nx [.io φ2,.v (.int n),.v (.str st),.e,.e,.e,.e]) /\
    C [.io φ2,.v (.int n),.v (.str st),.e,.e,.e,.e]=some (.nx [.io φ2,.v (.int n),.v (.str st),.o (.lst []),.e,.e,.e])/\dI φ2/\st.length<=4/\Lw st) /\
   (∀st φ2,dI φ2->st.length<=4->Lw st->∃(xs:List Str)(φ':D)(o4 o5 o6:Sl),R [.io φ2,.v (.int n),.v (.str st),.o (.lst []),.e,.e,.e]=some (.rt (.s 3) [.io φ',.v (.int n),.v (.str st),.o (.lst (xs.map D.str)),o4,o5,o6])/\(xs.length:Int)=n/\(∀x∈xs,Nm x)/\xs.Nodup/\dI φ'):=by
  refine⟨_,_,_,_,rfl,?_,?_⟩
  ·by_cases c:d=0
   ·subst c;obtain⟨d2,φ2,e2,d20,d21,f2⟩:=dC (n:=4) f1 (by decide) (by decide)
    obtain⟨x,φ3,e3,hx,lx,f3⟩:=mv (k:=1+d2) f2 (by lia) (by lia)
    refine⟨x,φ3,rfl,?_,rfl,f3,by lia,lx⟩
    refine f6 (aC (au (cT rfl rfl rfl rfl rfl rfl e1) rfl rfl rfl rfl) rfl) ?_;exact cC (cT rfl rfl (ag (au rfl (cT rfl rfl rfl rfl rfl rfl e2) rfl rfl rfl) rfl) rfl rfl rfl e3) rfl
   ·refine⟨"",φ1,rfl,?_,rfl,f1,by decide +kernel,Hj⟩
    have t:decide (V.int d=V.int 0)=false:=Af fun z=>c (V.int.inj z);exact cW (eS (b:=decide (V.int d=V.int 0)) (aC (au (cT rfl rfl rfl rfl rfl rfl e1) rfl rfl rfl rfl) rfl) t) rfl
  ·intro st φ2 f2 hst lst
   have lp:∀(fg:FG)(B:FS),fg=gN 4->(∀(φ':D)(xs:List Str)(k:D)(o5 o6:Sl),dI φ'->xs.length<=200->(∀x∈xs,Nm x)->xs.Nodup->xs.length<=110->o5.isIo=false->o6.isIo=false->
     ∃φ2 x o6',B [.io φ',.v (.int n),.v (.str st),.o (.lst (xs.map D.str)),.v k,o5,o6]=some (.nx [.io φ2,.v (.int n),.v (.str st),.o (.lst ((xs++[x]).map D.str)),.v k,.v (.str x),.v o6'])/\dI φ2/\Nm x/\x∉xs)->
     ∃(xs:List Str)(φ':D)(o4 o5 o6:Sl),aH (fY (tM (aa (aB 1) af)) fg B) (aZ (aB 3)) [.io φ2,.v (.int n),.v (.str st),.o (.lst []),.e,.e,.e]=some (.rt (.s 3) [.io φ',.v (.int n),.v (.str st),.o (.lst (xs.map D.str)),o4,o5,o6])/\(xs.length:Int)=n/\(∀x∈xs,Nm x)/\xs.Nodup/\dI φ':=by
    intro fg B hfg hB;subst hfg;obtain⟨sf,e,φ',xs,o4,o5,o6,rfl,hf,hl,hx,nd,_⟩:=qb (fg:=gN 4) (B:=B) (rng 0 n.toNat) (fun gone s=>∃(φ':D)(xs:List Str)(o4 o5 o6:Sl),s=[.io φ',.v (.int n),.v (.str st),.o (.lst (xs.map D.str)),o4,o5,o6]/\dI φ'/\xs.length=gone.length/\(∀x∈xs,Nm x)/\xs.Nodup/\o4.isIo=false/\o5.isIo=false/\o6.isIo=false)
     (fun gone x rest s ha zz8=>by
      obtain⟨φ',xs,o4,o5,o6,hs,hf,hl,hx,nd,q4,q5,q6⟩:=zz8;subst hs;have hg:=congrArg List.length ha;rw[hU,Xa,Qc]at hg;obtain⟨φ3,y,o6',eB,f3,ny,hy⟩:=hB φ' xs x o5 o6 hf (by lia) hx nd (by lia) q5 q6
      refine⟨_,_,bp rfl q4,eB,φ3,xs++[y],.v x,.v (.str y),.v o6',rfl,f3,by simp[hl],fun z hz=>?_,?_,rfl,rfl,rfl⟩
      ·rcases Zc.mp hz with w|w
       ·exact hx z w
       ·have:z=y:=by simpa using w
        rw[this];exact ny
      ·rw[Zg]
       exact⟨nd,by simp,fun a ha b hb e=>by
        have:b=y:=by simpa using hb
        subst this;subst e;exact hy ha⟩) (rng 0 n.toNat) [] [.io φ2,.v (.int n),.v (.str st),.o (.lst []),.e,.e,.e] rfl ⟨φ2,[],.e,.e,.e,rfl,f2,rfl,fun x hx=>(by cases hx),Wl,rfl,rfl,rfl⟩
    rw[hU]at hl;exact⟨xs,φ',o4,o5,o6,aq (cS (jd rfl rfl ⟨by lia,by lia⟩) e) rfl,by lia,hx,nd,hf⟩
   refine lp _ _ rfl ?_;intro φ' xs k o5 o6 hf _ hx nd hl q5 q6;obtain⟨x,φ3,e3,nx,f3⟩:=Km hf hst lst;obtain⟨sf,ew,s',y,rfl,ny,hy⟩:=tW (f:=ay (fOp bIn (aB 5) (aB 3))) (B:=aH (bb (fOp mL (fOp bIx (fC (.str "abcdefghijklmnopqrstuvwxyz")) (fOp oK (aB 6) (fC (.int 26)))) (fOp cE (fC (.int 1)) (fOp w5 (aB 6) (fC (.int 26))))) 5) (bb (fOp cE (aB 6) (fC (.int 1))) 6))
    (fun m s=>∃(j:Nat)(x:Str),s=[.io φ3,.v (.int n),.v (.str st),.o (.lst (xs.map D.str)),.v k,.v (.str x),.v (.int j)]/\Nm x/\m+j=xs.length+2/\j<=xs.length+1/\(∀i,i+1<j->word i∈xs)/\(j=0\/x=word (j-1)))
    (fun s=>∃(j:Nat)(x:Str),s=[.io φ3,.v (.int n),.v (.str st),.o (.lst (xs.map D.str)),.v k,.v (.str x),.v (.int j)]/\Nm x/\x∉xs)
    (by
     rintro m s ⟨j,x,rfl,nx,hm,hj,hw,hxj⟩;by_cases c:x∈xs
     ·right;have hall:∀i,i<j->word i∈xs:=fun i hi=>by
       rcases hxj with z|z
       ·lia
       ·by_cases e:i+1<j
        ·exact hw i e
        ·have:i=j-1:=by lia
         rw[this,<-z];exact c
      have hle:=Eb hall;obtain⟨m',rfl⟩:∃m',m=m'+1:=⟨m-1,by lia⟩
      have d0:(0:Int)<=1+(j:Int) / 26:=Int.add_nonneg (by decide) (Int.ediv_nonneg (Co j) (by decide))
      have d1:1+(j:Int) / 26<=1000:=Int.le_trans (Int.add_le_add_left (Int.ediv_le_self 26 (Co j)) 1) (by lia)
      refine⟨_,[.io φ3,.v (.int n),.v (.str st),.o (.lst (xs.map D.str)),.v k,.v (.str (word j)),.v (.int ((j+1:Nat):Int))],m',eS (aC (au rfl rfl rfl rfl LJ) rfl) (Ae c),?_,BN _,j+1,word j,rfl,Kj (by lia),by lia,CK hle,fun i hi=>hall i (by lia),.inr rfl⟩
      refine aq (cC (au (au rfl rfl rfl rfl (ix_str (by decide +kernel) (NY j))) (au rfl rfl rfl rfl rfl) rfl rfl (tX ⟨d0,d1,(by show 1<=1000;decide)⟩)) rfl) ?_
      rfl
     ·left
      exact⟨_,eS (aC (au rfl rfl rfl rfl LJ) rfl) (Af c),j,x,rfl,nx,c⟩)
    200 (xs.length+2) [.io φ3,.v (.int n),.v (.str st),.o (.lst (xs.map D.str)),.v k,.v (.str x),.v (.int 0)] (by lia) ⟨0,x,rfl,nx,rfl,Xi _,fun i hi=>absurd hi (by lia),.inl rfl⟩
   refine⟨φ3,y,.int s',?_,f3,ny,hy⟩;refine aq (cC (cT rfl rfl rfl rfl rfl rfl e3) (bp rfl q5)) ?_;refine aq (cC (x:=.int 0) rfl (bp rfl q6)) ?_;refine aq ew ?_;refine bV (iM rfl rfl rfl rfl rfl rfl rfl (dJ (by rw[Za];lia)) ?_)
   rw[Yc];rfl
 obtain⟨A,B,C,R,eF,⟨st,φ2,eA,eB,eC,f2,hst,lst⟩,hR⟩:=sp;obtain⟨xs,φ',o4,o5,o6,eR,hl,hx,nd,hf⟩:=hR st φ2 f2 hst lst;refine⟨xs,φ',?_,hl,hx,nd,hf⟩;refine dw (o:=.rt (.s 3) [.io φ',.v (.int n),.v (.str st),.o (.lst (xs.map D.str)),o4,o5,o6]) rfl ?_ rfl;rw[eF];exact aq eA (aq eB (aq eC eR))
def Kn{xs:List D}(hφ:dI φ)(hx:xs.length<=200):∃(ys:List D)(φ':D),gP φ [.lst xs]=some ((.lst ys,true),φ')/\ys.Perm xs/\dI φ':=by
 obtain⟨sf,ew,ts,φ',rfl,pm,hf⟩:=tW (f:=ay (fOp bNe (aB 2) (cZ af))) (B:=ck (fM isL bx 3 (aa (fM isL tR 2 (aa (fIO bi 0 (aa (fCB ce (aa (aB 2) af)) af)) af)) af)))
  (fun m s=>∃(ls ts:List D)(φ':D),s=[.io φ',.v (.lst xs),.o (.lst ls),.o (.lst ts)]/\dI φ'/\(ts++ls).Perm xs/\m=ls.length)
  (fun s=>∃(ts:List D)(φ':D),s=[.io φ',.v (.lst xs),.o (.lst []),.o (.lst ts)]/\ts.Perm xs/\dI φ')
  (by
   rintro m s ⟨ls,ts,φ',rfl,hf,pm,rfl⟩;have hlen:ts.length+ls.length=xs.length:=by have:=pm.length_eq;rw[Xa]at this;exact this
   cases ls with
   |nil=>
    rw[Yg]at pm;exact .inl ⟨_,rfl,ts,φ',rfl,pm,hf⟩
   |cons y lr=>
    right;have hl0:(y::lr).length=lr.length+1:=rfl;obtain⟨d,φ2,e,d0,d1,f2⟩:=dC (n:=((y::lr).length:Int)) hf (by lia) (by lia)
    have hk:d.toNat<(y::lr).length:=by lia
    refine⟨_,[.io φ2,.v (.lst xs),.o (.lst ((y::lr).eraseIdx d.toNat)),.o (.lst (ts++[(y::lr)[d.toNat]]))],((y::lr).eraseIdx d.toNat).length,rfl,?_,?_,_,_,φ2,rfl,f2,?_,rfl⟩
    ·exact bV (iM rfl rfl rfl (ag (iM rfl rfl rfl (ag (cT rfl rfl rfl rfl rfl rfl e) rfl) rfl rfl rfl (HA d0 d1 (by lia) hk)) rfl) rfl rfl rfl (dJ (by lia)))
    ·rw[List.length_eraseIdx_of_lt hk];lia
    ·refine List.Perm.trans ?_ pm;rw[Zf]
     exact B6 ts (qp hk))
  300 xs.length [.io φ,.v (.lst xs),.o (.lst xs),.o (.lst [])] (by lia) ⟨xs,[],φ,rfl,hφ,List.Perm.refl _,rfl⟩
 refine⟨ts,φ',?_,pm,hf⟩;refine dw (o:=.rt (.s 3) [.io φ',.v (.lst xs),.o (.lst []),.o (.lst ts)]) rfl ?_ rfl;refine aq rfl ?_;refine aq rfl ?_;exact aq ew rfl
end K17
namespace VF
open PySem L2
def v6(xs:List D):br [.lst xs]=some (.tup xs,false):=rfl
def Oa{xs ys:List D}(h:xs.length+ys.length<=1000000):i6 (.lst xs) [.tup ys]=some (.non,.lst (xs++ys)):=by
 show(if xs.length+ys.length<=1000000 then some (D.non,D.lst (xs++ys)) else none)=_;rw[Ag h]
end VF
namespace K17
open PySem L2 VF VL
abbrev bdD(p:Bool×Str):D:=.str (bd p)
abbrev aO:=Bool×List (Bool×Str)
def kd(r:Bool):Str:=if r then "ring" else "open"
def stD(s:aO):D:=.tup [.str (kd s.1),.tup (s.2.map bdD)]
def kw(h:Nm p.2):(bd p).length<=1000000:=by have:=(qq h).2;lia
def Ko{xs:List Str}(hφ:dI φ)(hx:xs.length<=200)(nm:∀x∈xs,Nm x):∃(ps:List (Bool×Str))(φ':D),gQ φ [.lst (xs.map D.str)]=some ((.tup (ps.map bdD),false),φ')/\(ps.map (·.2)).Perm xs/\dI φ':=by
 obtain⟨ys,φ1,e1,pm,f1⟩:=Kn (xs:=xs.map D.str) hφ (by rw[Za];exact hx)
 obtain⟨zs,rfl,pz⟩:=jB (g:=fun d=>match d with|.str z=>z|_=>Str.empty) (fun _=>rfl) pm
 have hzl:=pz.length_eq;have nz:∀z∈zs,Nm z:=fun z hz=>nm z (pz.mem_iff.mp hz);obtain⟨ds,sf,ec,φ2,ps,rfl,f2,e3,e4⟩:=sv (fg:=gN 0) (fc:=cj) (k:=1) (fe:=fOp cE (fOp mL (fC (.str "-")) (fIO bi 1 (aa (fC (.int 2)) af))) (aB 0)) (zs.map D.str)
  (fun gone pre sb=>∃(φ':D)(ps:List (Bool×Str)),sb=[.e,.io φ']/\dI φ'/\pre=ps.map bdD/\gone=(ps.map (·.2)).map D.str)
  (by
   rintro gone x rest pre sb ha ⟨φ',ps,rfl,hf,rfl,rfl⟩;obtain⟨d,φ2,e,d0,d1,f2⟩:=dC (n:=2) hf (by decide) (by decide)
   have hxm:x∈zs.map D.str:=by rw[ha];simp
   obtain⟨z,hz,rfl⟩:=Qb.mp hxm;have hm:=sI (d:=d) (n:=z) d0 d1;refine⟨[.v (.str z),.io φ'],[.v (.str z),.io φ'],.d (bdD (decide (d=1),z)),[.v (.str z),.io φ2],bdD (decide (d=1),z),[.v (.str z),.io φ2],rfl,rfl,?_,rfl,φ2,ps++[(decide (d=1),z)],rfl,f2,by rw[Yc];rfl,by rw[Yc,Yc];rfl⟩
   refine au (au rfl (cT rfl rfl rfl rfl rfl rfl e) rfl rfl (tX ⟨d0,by lia,by decide +kernel⟩)) rfl rfl rfl (pe ?_) ?_
   ·have:=(qq (p:=(decide (d=1),z)) (nz z hz)).2;rw[<-hm,AG]at this;show(Txt.mul minus d).length+z.length<=_;lia
   ·show Rs.d (D.str (Txt.mul minus d++z))=_
    rw[hm])
  (zs.map D.str) [] [] [.e,.io φ1] rfl ⟨φ1,[],rfl,f1,rfl,rfl⟩
 rw[Vk]at e3;subst e3;have e5:zs=ps.map (·.2):=by
  have:=congrArg (List.map (fun d:D=>match d with|.str z=>z|_=>Str.empty)) e4
  rw[Ze,Ze]at this;exact((Bs zs).symm.trans this).trans (Bs _)
 refine⟨ps,φ2,?_,by rw[<-e5];exact pz,f2⟩
 refine dw (o:=.rt (.d (.tup (ps.map bdD))) [.io φ2,.v (.lst (xs.map D.str))]) rfl ?_ rfl;refine aK (aL (ag (bF (su (cT rfl rfl rfl rfl rfl rfl e1) rfl) ?_ ec) rfl) rfl rfl);show(true&&decide ((zs.map D.str).length<=1000000))=true;rw[Za,Ae (by lia)];rfl
theorem jC:∀(ss:List aO),(∀s∈ss,s.2≠[])->ss.length<=(ss.flatMap (·.2)).length
 |[],_=>Wb _
 | s::r,h=>by
  have ih:=jC r fun x hx=>h x (Vb _ hx);have hs:1<=s.2.length:=by
   cases e:s.2 with|nil=>exact absurd e (h s Va)|cons _ _=>simp
  rw[Xf,Xa,Qc];lia
def Oc{xs:List Str}(hφ:dI φ)(hx:xs.length<=200)(nm:∀x∈xs,Nm x):∃(ss:List aO)(φ':D),n4 φ [.lst (xs.map D.str),.bl true]=some ((.tup (ss.map stD),false),φ')/\(∀s∈ss,s.2≠[])/\((ss.flatMap (·.2)).map (·.2)).Perm xs/\dI φ':=by
 obtain⟨ps,φ1,e1,pm,f1⟩:=Ko hφ hx nm;have hpl:ps.length=xs.length:=by have:=pm.length_eq;rw[Za]at this;exact this
 have lp:∀(B:FS),(∀(φ':D)(ss:List aO)(piece:List (Bool×Str))(b:Bool×Str),dI φ'->(∀s∈ss,s.2≠[])->ss.length<=300->piece.length<=300->
    ∃(φ2:D)(ss2:List aO)(piece2:List (Bool×Str)),B [.io φ',.v (.lst (xs.map D.str)),.v (.bl true),.o (.lst (ss.map stD)),.o (.lst (piece.map bdD)),.v (bdD b)]=some (.nx [.io φ2,.v (.lst (xs.map D.str)),.v (.bl true),.o (.lst (ss2.map stD)),.o (.lst (piece2.map bdD)),.v (bdD b)])/\dI φ2/\(∀s∈ss2,s.2≠[])/\ss2.flatMap (·.2)++piece2=ss.flatMap (·.2)++piece++[b])->
   ∃(φ':D)(ss:List aO)(piece:List (Bool×Str))(o5:Sl),fY (fIA (fIO gQ 0 (aa (aB 1) af))) (gN 5) B [.io φ,.v (.lst (xs.map D.str)),.v (.bl true),.o (.lst []),.o (.lst []),.e]=some (.nx [.io φ',.v (.lst (xs.map D.str)),.v (.bl true),.o (.lst (ss.map stD)),.o (.lst (piece.map bdD)),o5])/\dI φ'/\(∀s∈ss,s.2≠[])/\ss.flatMap (·.2)++piece=ps:=by
  intro B hB;obtain⟨sf,e,φ',ss,piece,o5,gp,rfl,hf,hne,hg,hgp,hgp3,_⟩:=qb (fg:=gN 5) (B:=B) (ps.map bdD) (fun gone s=>∃(φ':D)(ss:List aO)(piece:List (Bool×Str))(o5:Sl)(gp:List (Bool×Str)),s=[.io φ',.v (.lst (xs.map D.str)),.v (.bl true),.o (.lst (ss.map stD)),.o (.lst (piece.map bdD)),o5]/\dI φ'/\(∀s∈ss,s.2≠[])/\ss.flatMap (·.2)++piece=gp/\(∃r,gp++r=ps)/\gone=gp.map bdD/\o5.isIo=false)
   (by
    rintro gone x rest s ha ⟨φ',ss,piece,o5,gp,rfl,hf,hne,hg,⟨r,hr⟩,rfl,q5⟩;cases r with
    |nil=>
     rw[Yg]at hr;subst hr;have:=congrArg List.length ha;simp at this
    |cons b r=>
     have hb:bdD b=x:=by
      rw[<-hr,Yc]at ha;have:=List.append_cancel_left ha;exact(List.cons.inj this).1
     have hlen:=congrArg List.length hr;rw[Xa,Qc]at hlen;have hl2:=congrArg List.length hg;rw[Xa]at hl2;have hl3:=jC ss hne;obtain⟨φ2,ss2,piece2,eB,f2,hne2,hfl⟩:=hB φ' ss piece b hf hne (by lia) (by lia)
     subst hb
     exact⟨_,_,bp rfl q5,eB,φ2,ss2,piece2,.v (bdD b),gp++[b],rfl,f2,hne2,by rw[hfl,hg],⟨r,by rw[Zf];exact hr⟩,by rw[Yc];rfl,rfl⟩)
   (ps.map bdD) [] [.io φ1,.v (.lst (xs.map D.str)),.v (.bl true),.o (.lst []),.o (.lst []),.e] rfl ⟨φ1,[],[],.e,[],rfl,f1,fun s hs=>(by cases hs),rfl,⟨ps,rfl⟩,rfl,rfl⟩
  obtain⟨⟨r,hr⟩,hgp2⟩:(∃r,gp++r=ps)/\ps.map bdD=gp.map bdD:=⟨hgp,hgp3⟩;have hlen:=congrArg List.length hgp2;rw[Za,Za]at hlen;have hl2:=congrArg List.length hr;rw[Xa]at hl2;have:r=[]:=Yf (by lia)
  subst this;rw[Yg]at hr;exact⟨φ',ss,piece,o5,cS (db (cT rfl rfl rfl rfl rfl rfl e1) rfl) e,hf,hne,by rw[hg,hr]⟩
 have sp:∃B R,kW=aH (bb (cZ af) 3) (aH (bb (cZ af) 4) (aH (fY (fIA (fIO gQ 0 (aa (aB 1) af))) (gN 5) B) R)) /\
   (∀(φ':D)(ss:List aO)(piece:List (Bool×Str))(b:Bool×Str),dI φ'->(∀s∈ss,s.2≠[])->ss.length<=300->piece.length<=300->
    ∃(φ2:D)(ss2:List aO)(piece2:List (Bool×Str)),B [.io φ',.v (.lst (xs.map D.str)),.v (.bl true),.o (.lst (ss.map stD)),.o (.lst (piece.map bdD)),.v (bdD b)]=some (.nx [.io φ2,.v (.lst (xs.map D.str)),.v (.bl true),.o (.lst (ss2.map stD)),.o (.lst (piece2.map bdD)),.v (bdD b)])/\dI φ2/\(∀s∈ss2,s.2≠[])/\ss2.flatMap (·.2)++piece2=ss.flatMap (·.2)++piece++[b]) /\
   (∀(φ':D)(ss:List aO)(piece:List (Bool×Str))(o5:Sl),ss.length<=300->(∀s∈ss,s.2≠[])->∃(ss2:List aO)(s':En),R [.io φ',.v (.lst (xs.map D.str)),.v (.bl true),.o (.lst (ss.map stD)),.o (.lst (piece.map bdD)),o5]=some (.rt (.d (.tup (ss2.map stD))) (.io φ'::s'))/\(∀s∈ss2,s.2≠[])/\ss2.flatMap (·.2)=ss.flatMap (·.2)++piece):=by
  refine⟨_,_,rfl,?_,?_⟩
  ·intro φ' ss piece b hf hne hs hp;have ap:ck (fM isL bx 4 (aa (aB 5) af)) [.io φ',.v (.lst (xs.map D.str)),.v (.bl true),.o (.lst (ss.map stD)),.o (.lst (piece.map bdD)),.v (bdD b)]=some (.nx [.io φ',.v (.lst (xs.map D.str)),.v (.bl true),.o (.lst (ss.map stD)),.o (.lst ((piece++[b]).map bdD)),.v (bdD b)]) :=
    bV (iM rfl rfl rfl rfl rfl rfl rfl (dJ (by rw[Za];lia)) (by rw[Yc];rfl))
   have nw:∀(r:Bool),∀s∈ss++[(r,piece++[b])],s.2≠[]:=fun r s hs=>by
    rcases Zc.mp hs with z|z
    ·exact hne s z
    ·have:s=(r,piece++[b]):=by simpa using z
     rw[this];simp
   have fl:∀(r:Bool),(ss++[(r,piece++[b])]).flatMap (·.2)++[]=ss.flatMap (·.2)++piece++[b]:=fun r=>by
    rw[Xg];simp
   have ms:∀r,(ss++[(r,piece++[b])]).map stD=ss.map stD++[stD (r,piece++[b])]:=fun r=>by rw[Yc];rfl
   have lss:(ss.map stD).length<1000000:=by rw[Za];lia
   obtain⟨d,φ2,e2,d0,d1,f2⟩:=dC (n:=3) hf (by decide) (by decide)
   by_cases c:d=0
   ·subst c;refine⟨φ2,ss++[(false,piece++[b])],[],aq ap ?_,f2,nw false,fl false⟩;refine f6 (aC (au (cT rfl rfl rfl rfl rfl rfl e2) rfl rfl rfl rfl) rfl) ?_;refine aq (bV (iM rfl rfl rfl rfl rfl rfl rfl (dJ lss) (st3:=[.io φ2,.v (.lst (xs.map D.str)),.v (.bl true),.o (.lst ((ss++[(false,piece++[b])]).map stD)),.o (.lst ((piece++[b]).map bdD)),.v (bdD b)]) (by rw[ms];rfl))) ?_
    rfl
   ·have t:decide (V.int d=V.int 0)=false:=Af fun z=>c (V.int.inj z);obtain⟨d2,φ3,e3,d20,d21,f3⟩:=dC (n:=3) f2 (by decide) (by decide)
    have tst:∀s,ay (fOp bEq (fIO bi 0 (aa (fC (.int 3)) af)) (fC (.int 0))) (.io φ2::s)=some (decide (V.int d2=V.int 0),.io φ3::s):=fun s=>aC (au (cT rfl rfl rfl rfl rfl rfl e3) rfl rfl rfl rfl) rfl;by_cases c2:d2=0
    ·subst c2;refine⟨φ3,ss++[(true,piece++[b])],[],aq ap ?_,f3,nw true,fl true⟩;refine cW (eS (aC (au (cT rfl rfl rfl rfl rfl rfl e2) rfl rfl rfl rfl) rfl) t) ?_;refine f6 (r6 rfl (tst _)) ?_;refine aq (bV (iM rfl rfl rfl rfl rfl rfl rfl (dJ lss) (st3:=[.io φ3,.v (.lst (xs.map D.str)),.v (.bl true),.o (.lst ((ss++[(true,piece++[b])]).map stD)),.o (.lst ((piece++[b]).map bdD)),.v (bdD b)]) (by rw[ms];rfl))) ?_
     rfl
    ·have t2:decide (V.int d2=V.int 0)=false:=Af fun z=>c2 (V.int.inj z);refine⟨φ3,ss,piece++[b],aq ap ?_,f3,hne,by rw[Zf]⟩
     refine cW (eS (aC (au (cT rfl rfl rfl rfl rfl rfl e2) rfl rfl rfl rfl) rfl) t) ?_;exact cW (r6 rfl (eS (tst _) t2)) rfl
  ·intro φ' ss piece o5 hs hne;cases piece with
   |nil=>
    exact⟨ss,_,aq (cW rfl rfl) (aK (aL rfl rfl rfl)),hne,by rw[Yg]⟩
   |cons p pr=>
    refine⟨ss++[(false,p::pr)],[.v (.lst (xs.map D.str)),.v (.bl true),.o (.lst ((ss++[(false,p::pr)]).map stD)),.o (.lst ((p::pr).map bdD)),o5],?_,fun s hs=>?_,by rw[Xg];simp⟩
    ·refine aq (f6 rfl (bV (iM rfl rfl rfl rfl rfl rfl rfl (dJ (by rw[Za];lia)) (st3:=[.io φ',.v (.lst (xs.map D.str)),.v (.bl true),.o (.lst ((ss++[(false,p::pr)]).map stD)),.o (.lst ((p::pr).map bdD)),o5]) (by rw[show(ss++[(false,p::pr)]).map stD=ss.map stD++[stD (false,p::pr)] from by rw[Yc];rfl];rfl)))) ?_
     exact aK (aL rfl rfl rfl)
    ·rcases Zc.mp hs with z|z
     ·exact hne s z
     ·have:s=(false,p::pr):=by simpa using z
      rw[this];simp
 obtain⟨B,R,eF,hB,hR⟩:=sp;obtain⟨φ',ss,piece,o5,eL,hf,hne,hps⟩:=lp B hB;have hl2:=congrArg List.length hps;rw[Xa]at hl2;have hl3:=jC ss hne;obtain⟨ss2,s',eR,hne2,hfl⟩:=hR φ' ss piece o5 (by lia) hne
 refine⟨ss2,φ',?_,hne2,by rw[hfl,hps];exact pm,hf⟩
 refine dw (o:=.rt (.d (.tup (ss2.map stD))) (.io φ'::s')) rfl ?_ rfl;rw[eF];exact aq rfl (aq rfl (aq eL eR))
end K17
namespace VF
open PySem L2
def Kr(h:x∈rng 0 n):∃i:Nat,i<n/\x=.int i:=by
 obtain⟨i,hi⟩:=Vl h;obtain⟨h1,h2⟩:=Fq hi;exact⟨i,h1,by rw[h2,Int.zero_add]⟩
theorem pO(xs:List α)(d:D):xs.map (fun _=>d)=List.replicate xs.length d:=by
 induction xs with|nil=>rfl|cons x r ih=>rw[Yh,ih];rfl
end VF
namespace K17
open PySem L2 VF VL
def Er(h:Dp (n+1) u):aU (km (cR n)) 2 2 [u,u]=some (.bl true,false):=by
 have seqs:∀(ds:List D),ds.length<=1000000->(∀d∈ds,Dp n d)->∀(u:D),(∀i d,atI ds i=some d->bIx u (.int i)=some (d,false))->
   b9 (gN 0) cj (aP (cR n) (aa (fOp bIx (aB 1) (aB 0)) (aa (fOp bIx (aB 2) (aB 0)) af))) 1 (rng 0 ((ds.length:Int)).toNat) [.e,.v u,.v u]=some (List.replicate ds.length (D.bl true),[.e,.v u,.v u]):=fun ds hl hd u hu=>by
  have e:=nQ (fg:=gN 0) (fc:=cj) (k:=1) (fe:=aP (cR n) (aa (fOp bIx (aB 1) (aB 0)) (aa (fOp bIx (aB 2) (aB 0)) af))) (fun _=>D.bl true) (rng 0 ((ds.length:Int)).toNat) [.e,.v u,.v u] (fun x hx=>by
   obtain⟨i,hi,rfl⟩:=Kr hx;have hi':i<ds.length:=by lia
   have ha:atI ds (i:Int)=some ds[i]:=iX (Ya hi');refine⟨[.v (.int i),.v u,.v u],[.v (.int i),.v u,.v u],.d (.bl true),[.v (.int i),.v u,.v u],[.v (.int i),.v u,.v u],rfl,rfl,?_,rfl,rfl⟩
   exact aQ (ag (au rfl rfl rfl rfl (hu _ _ ha)) (ag (au rfl rfl rfl rfl (hu _ _ ha)) rfl)) rfl (ja (hd _ (Xl hi'))) rfl)
  rw[e,pO,hU];have:((ds.length:Int)).toNat=ds.length:=by lia
  rw[this]
 cases h with
 |bl _ b=>cases b<;>rfl
 |int _ i=>
  refine aJ (o:=.rt (.d (.bl true)) [.v (.int i),.v (.int i)]) rfl ?_ rfl;refine aq (s:=[.v (.int i),.v (.int i)]) rfl (aq (s:=[.v (.int i),.v (.int i)]) rfl (gB (f6 (s:=[.v (.int i),.v (.int i)]) rfl ?_)));refine aK (jb (s:=[.v (.int i),.v (.int i)]) rfl rfl (au rfl rfl rfl rfl (z:=(.bl (decide (V.int i=V.int i)),false)) rfl ?_));rw[Ae rfl];rfl
 |non _=>rfl
 |str _ x=>
  refine aJ (o:=.rt (.d (.bl true)) [.v (.str x),.v (.str x)]) rfl ?_ rfl;refine aq (s:=[.v (.str x),.v (.str x)]) rfl (aq (s:=[.v (.str x),.v (.str x)]) rfl (aq (s:=[.v (.str x),.v (.str x)]) rfl (gB (f6 (s:=[.v (.str x),.v (.str x)]) rfl ?_))));refine aK (jb (s:=[.v (.str x),.v (.str x)]) rfl rfl (au rfl rfl rfl rfl (z:=(.bl (decide (V.str x=V.str x)),false)) rfl ?_));rw[Ae rfl];rfl
 |@tup _ ds hl hd=>
  refine aJ (o:=.rt (.d (.bl true)) [.v (.tup ds),.v (.tup ds)]) rfl ?_ rfl;refine aq (s:=[.v (.tup ds),.v (.tup ds)]) rfl (aq (s:=[.v (.tup ds),.v (.tup ds)]) rfl (aq (s:=[.v (.tup ds),.v (.tup ds)]) rfl (aq (s:=[.v (.tup ds),.v (.tup ds)]) rfl (aq (s:=[.v (.tup ds),.v (.tup ds)]) rfl ?_))));refine aK (jb (s:=[.v (.tup ds),.v (.tup ds)]) (r:=.d (.bl (decide (V.int ds.length=V.int ds.length)))) rfl (by rw[Ae rfl];rfl) ?_)
  refine aL (ag (bF (jd (j:=(ds.length:Int)) rfl rfl ⟨by lia,by lia⟩) (by
   show(true&&decide ((rng 0 ((ds.length:Int)).toNat).length<=1000000))=true
   rw[hU,Ae (by lia)];rfl) (seqs ds hl hd (.tup ds) fun i d h=>VF.ix_tup h)) rfl) rfl (jW _)
 |@lst _ ds hl hd=>
  refine aJ (o:=.rt (.d (.bl true)) [.v (.lst ds),.v (.lst ds)]) rfl ?_ rfl;refine aq (s:=[.v (.lst ds),.v (.lst ds)]) rfl (aq (s:=[.v (.lst ds),.v (.lst ds)]) rfl (aq (s:=[.v (.lst ds),.v (.lst ds)]) rfl (aq (s:=[.v (.lst ds),.v (.lst ds)]) rfl (aq (s:=[.v (.lst ds),.v (.lst ds)]) rfl ?_))));refine aK (jb (s:=[.v (.lst ds),.v (.lst ds)]) (r:=.d (.bl (decide (V.int ds.length=V.int ds.length)))) rfl (by rw[Ae rfl];rfl) ?_)
  refine aL (ag (bF (jd (j:=(ds.length:Int)) rfl rfl ⟨by lia,by lia⟩) (by
   show(true&&decide ((rng 0 ((ds.length:Int)).toNat).length<=1000000))=true
   rw[hU,Ae (by lia)];rfl) (seqs ds hl hd (.lst ds) fun i d h=>iF h)) rfl) rfl (jW _)
end K17
namespace VF
open PySem L2
theorem HD{n:Nat}{d:D}:∀(es:List D),CA n (d::es)->Srt n es->∃fs:List D,fs.Perm (d::es)/\Srt n fs
 |[],_,_=>⟨[d],List.Perm.refl _,A6 _ _⟩
 | e::es,h,s=>by
  obtain⟨s1,s2⟩:=Xe.mp s;cases c:ltN n e d with
  |true=>
   have up:∀x∈d::es,x∈d::e::es:=fun x hx=>by
    rcases Wc.mp hx with m|m
    ·rw[m];exact Va
    ·exact Vb _ (Vb _ m)
   obtain⟨fs,p,q⟩:=HD (n:=n) (d:=d) es (fun a ha b hb=>h a (up a ha) b (up b hb)) s2;refine⟨e::fs,(p.cons e).trans (List.Perm.swap d e es),Xe.mpr ⟨fun f hf=>?_,q⟩⟩;rcases Wc.mp (p.mem_iff.mp hf) with m|m
   ·rw[m];exact ua n e d c
   ·exact s1 f m
  |false=>
   refine⟨d::e::es,List.Perm.refl _,Xe.mpr ⟨fun b hb=>?_,s⟩⟩;rcases Wc.mp hb with m|m
   ·rw[m];exact c
   ·cases k:ltN n b d with
    |false=>rfl
    |true=>
     rcases h.neg (a:=b) (b:=e) (c:=d) (by simp[m]) (by simp) (by simp) k with z|z
     ·rw[s1 b m]at z;cases z
     ·rw[c]at z;cases z
theorem xO{n:Nat}:∀(ds:List D),CA n ds->∃es:List D,es.Perm ds/\Srt n es
 |[],_=>⟨[],List.Perm.refl _,List.Pairwise.nil⟩
 | d::ds,h=>by
  obtain⟨es,p,q⟩:=xO ds fun a ha b hb=>h a (Vb _ ha) b (Vb _ hb);have pd:(d::es).Perm (d::ds):=p.cons d;obtain⟨fs,p2,q2⟩:=HD (n:=n) (d:=d) es (fun a ha b hb=>h a (pd.mem_iff.mp ha) b (pd.mem_iff.mp hb)) q;exact⟨fs,p2.trans pd,q2⟩
def oA{n:Nat}{ds es:List D}(h:CA n ds)(p:ds.Perm es):de n ds=de n es:=by
 obtain⟨fs,p1,q⟩:=xO ds h;rw[<-dU h p1 q];exact dU (fun a ha b hb=>h a (p.mem_iff.mpr ha) b (p.mem_iff.mpr hb)) (p1.trans p) q
end VF
namespace K17
open PySem L2 VF VL
abbrev End:=Str×Int
def eD(e:End):D:=.tup [.str e.1,.int e.2]
abbrev Jnt:=List End
def jD(j:Jnt):D:=.tup (j.map eD)
def mZ(n:Nat)(e:End):Pl (n+2) (eD e):=.tup fun d hd=>by
 rcases Wc.mp hd with rfl|hd
 ·exact .str _ _
 ·obtain rfl:=Wa.mp hd;exact .int _ _
def oB(n:Nat)(j:Jnt):Pl (n+3) (jD j):=.tup fun d hd=>by
 obtain⟨e,_,rfl⟩:=Qb.mp hd;exact mZ n e
def unE:D->End|.tup [.str n,.int i]=>(n,i)|_=>(Str.empty,0)
def unJ:D->Jnt|.tup es=>es.map unE|_=>[]
def HE(e:End):unE (eD e)=e:=rfl
def jE(j:Jnt):unJ (jD j)=j:=by
 show(j.map eD).map unE=j;rw[Ze];exact Bs j
def zj(n:Nat)(a b:End):Cp (n+2) (eD a) (eD b):=by
 intro i x y e1 e2
 match i,e1,e2 with
 |0,e1,e2=>
  have q1:D.str a.1=x:=by simpa using e1
  have q2:D.str b.1=y:=by simpa using e2
  subst q1 q2;trivial
 |1,e1,e2=>
  have q1:D.int a.2=x:=by simpa using e1
  have q2:D.int b.2=y:=by simpa using e2
  subst q1 q2;trivial
 |i+2,e1,_=>simp at e1
def zk(n:Nat)(a b:Jnt):Cp (n+3) (jD a) (jD b):=by
 intro i x y e1 e2;rw[Yd]at e1 e2;obtain⟨c,_,rfl⟩:=Vc.mp e1;obtain⟨d,_,rfl⟩:=Vc.mp e2;exact zj n c d
noncomputable section
def aA(xs:List End):List End:=(de 40 (xs.map eD)).map unE
def bD(xs:List Jnt):List Jnt:=(de 40 (xs.map jD)).map unJ
def HF(xs:List End):CA 40 (xs.map eD):=fun a ha b hb=>by
 obtain⟨e,_,rfl⟩:=Qb.mp ha;obtain⟨e',_,rfl⟩:=Qb.mp hb;exact zj 38 e e'
def HG(xs:List Jnt):CA 40 (xs.map jD):=fun a ha b hb=>by
 obtain⟨e,_,rfl⟩:=Qb.mp ha;obtain⟨e',_,rfl⟩:=Qb.mp hb;exact zk 37 e e'
def aE(xs:List End):de 40 (xs.map eD)=(aA xs).map eD/\(aA xs).Perm xs:=by
 obtain⟨ys,e,p⟩:=jB (f:=eD) (g:=unE) HE (gF 40 (xs.map eD));have h:aA xs=ys:=by
  unfold aA;rw[e,Ze];exact Bs ys
 rw[h];exact⟨e,p⟩
def bW(xs:List Jnt):de 40 (xs.map jD)=(bD xs).map jD/\(bD xs).Perm xs:=by
 obtain⟨ys,e,p⟩:=jB (f:=jD) (g:=unJ) jE (gF 40 (xs.map jD));have h:bD xs=ys:=by
  unfold bD;rw[e,Ze,show(unJ ∘ jD)=id from funext jE,Yn]
 rw[h];exact⟨e,p⟩
def eY{xs ys:List End}(p:xs.Perm ys):aA xs=aA ys:=by
 unfold aA;rw[oA (HF xs) (p.map eD)]
def jF{xs ys:List Jnt}(p:xs.Perm ys):bD xs=bD ys:=by
 unfold bD;rw[oA (HG xs) (p.map jD)]
def d8{d:D}(xs:List End)(hl:xs.length<64)(h0:d.seq=some (xs.map eD)):bO [d]=some (.lst ((aA xs).map eD),true):=by
 rw[<-(aE xs).1];unfold bO;dsimp only;rw[h0];dsimp only;refine Ag ⟨fun x hx=>?_,HF xs,⟨_,.tp (T:="str") fun d hd=>?_⟩,by rw[Za];exact hl⟩
 ·obtain⟨e,_,rfl⟩:=Qb.mp hx;exact mZ 38 e
 ·obtain⟨e,_,rfl⟩:=Qb.mp hd;exact⟨_,_,rfl,fun z=>(by cases z),rfl⟩
def kY{d:D}(xs:List Jnt)(hl:xs.length<64)(hn:∀j∈xs,j≠[])(h0:d.seq=some (xs.map jD)):bO [d]=some (.lst ((bD xs).map jD),true):=by
 rw[<-(bW xs).1];unfold bO;dsimp only;rw[h0];dsimp only;refine Ag ⟨fun x hx=>?_,HG xs,⟨_,.tp (T:="tuple") fun d hd=>?_⟩,by rw[Za];exact hl⟩
 ·obtain⟨e,_,rfl⟩:=Qb.mp hx;exact oB 37 e
 ·obtain⟨j,hj,rfl⟩:=Qb.mp hd;cases j with|nil=>exact absurd rfl (hn _ hj)|cons e r=>exact⟨eD e,r.map eD,rfl,fun z=>(by cases z),rfl⟩
end
end K17
namespace K17
open PySem L2 VF VL
def gw(h:Nm n):cb [bdD (t,n)]=some (.bl t,false):=by
 have e:cb [bdD (t,n)]=some (.bl (Txt.startswith (bd (t,n)) minus),false):=rfl;rw[e,Ec h]
theorem eZ(h:Nm n):bP [bdD (t,n)]=some (.str n,false):=by
 refine aJ (o:=.rt (.d (.str n)) [.v (bdD (t,n))]) rfl ?_ rfl;cases t with
 |true=>
  refine aK (mO (aC (aQ rfl rfl (gw h) rfl) rfl) (mN rfl rfl rfl rfl (Gi (kw h)) ?_));show Rs.d (D.str (Txt.slice (minus++n) (some 1) none))=_;rw[Hl]
 |false=>exact aK (ot (aC (aQ rfl rfl (gw h) rfl) rfl) rfl)
def xP(h:Nm n):dW [bdD (t,n)]=some (bdD (!t,n),false):=by
 have e1:minus.length=1:=by decide +kernel
 refine aJ (o:=.rt (.d (bdD (!t,n))) [.v (bdD (t,n))]) rfl ?_ rfl;cases t with
 |true=>exact aK (mO (aC (aQ rfl rfl (gw h) rfl) rfl) (aQ rfl rfl (eZ h) rfl))
 | false=>exact aK (ot (aC (aQ rfl rfl (gw h) rfl) rfl) (au rfl rfl rfl rfl (pe (by
   have:=(qq (p:=(false,n)) h).2;show minus.length+(bd (false,n)).length<=_
   lia))))
def leE(p:Bool×Str):End:=(p.2,if p.1 then 1 else 0)
def riE(p:Bool×Str):End:=(p.2,if p.1 then 0 else 1)
def uI(h:Nm n):dX [bdD (t,n)]=some (eD (leE (t,n)),false):=by
 refine aJ (o:=.rt (.d (eD (leE (t,n)))) [.v (bdD (t,n))]) rfl (aK ?_) rfl;have h1:ay (aP cb (aa (aB 0) af)) [.v (bdD (t,n))]=some (t,[.v (bdD (t,n))]):=aC (aQ rfl rfl (gw h) rfl) rfl;refine bo (ag (aQ rfl rfl (eZ h) rfl) (ag (r:=.d (.int (if t then 1 else 0))) ?_ rfl)) rfl (by show 2<=1000000;decide)
 cases t with|true=>exact mO h1 rfl|false=>exact ot h1 rfl
def v7(h:Nm n):dZ [bdD (t,n)]=some (eD (riE (t,n)),false):=by
 have e:riE (t,n)=leE (!t,n):=by cases t<;>rfl
 rw[e];exact aJ (o:=.rt (.d (eD (leE (!t,n)))) [.v (bdD (t,n))]) rfl (aK (aI (ag (aQ rfl rfl (xP h) rfl) rfl) rfl (uI h))) rfl
def v8:ci [.tup [eD a,eD b]]=some (jD (aA [a,b]),false):=by
 refine aJ (o:=.rt (.d (jD (aA [a,b]))) [.v (.tup [eD a,eD b])]) rfl (aK (aL (ag (aL (ag rfl rfl) rfl (d8 [a,b] (by simp) rfl)) rfl) rfl rfl)) rfl
end K17
namespace K17
open PySem L2 VF VL VF22
noncomputable section
def inn(ps:List (Bool×Str)):List Jnt:=(ps.zip (ps.drop 1)).map fun q=>aA [riE q.1,leE q.2]
def P0(xs ys:List (Bool×Str)):List.zipWith pr (xs.map bdD) (ys.map bdD)=(xs.zip ys).map fun q=>pr (bdD q.1) (bdD q.2):=by
 rw[List.zipWith_map,List.zip,List.map_zipWith]
def HH{ps:List (Bool×Str)}(hn:∀p∈ps,Nm p.2)(hl:ps.length<=100)(hs:bSl (.tup (ps.map bdD)) (some 1) none=some (.tup ((ps.drop 1).map bdD),false)) :
  eK [.tup (ps.map bdD)]=some (.lst ((inn ps).map jD),true):=by
 have ec:b9 (gT 2 (gsC (gN 0) (gsC (gN 1) gsN))) cj (aN ci (aa (bL (aa (aN dZ (aa (aB 0) af)) (aa (aN dX (aa (aB 1) af)) af))) af)) 2 ((ps.zip (ps.drop 1)).map fun q=>pr (bdD q.1) (bdD q.2)) [.e,.e]=some ((inn ps).map jD,[.e,.e]):=by
  have:=bZ (fg:=gT 2 (gsC (gN 0) (gsC (gN 1) gsN))) (fc:=cj) (fe:=aN ci (aa (bL (aa (aN dZ (aa (aB 0) af)) (aa (aN dX (aa (aB 1) af)) af))) af)) (k:=2)
   (fun q:(Bool×Str)×(Bool×Str)=>pr (bdD q.1) (bdD q.2)) (fun q=>jD (aA [riE q.1,leE q.2])) [.e,.e] (ps.zip (ps.drop 1)) fun q hq=>by
    have m:=B3 hq;have n1:=hn q.1 m.1;have n2:=hn q.2 (Cd m.2);refine⟨[.v (bdD q.1),.v (bdD q.2)],[.v (bdD q.1),.v (bdD q.2)],.d (jD (aA [riE q.1,leE q.2])),[.v (bdD q.1),.v (bdD q.2)],[.v (bdD q.1),.v (bdD q.2)],rfl,rfl,?_,rfl,rfl⟩;exact aI (ag (bo (ag (aI rfl rfl (v7 n1)) (ag (aI rfl rfl (uI n2)) rfl)) rfl (by show 2<=1000000;decide)) rfl) rfl v8
  rw[this,inn,Ze];rfl
 refine aJ (o:=.rt (.f (.lst ((inn ps).map jD))) [.v (.tup (ps.map bdD))]) rfl (aK (bF (s1:=[.v (.tup (ps.map bdD))]) (ds:=(ps.zip (ps.drop 1)).map fun q=>pr (bdD q.1) (bdD q.2)) ?_ ?_ ec)) rfl
 ·have e1:(aa (aB 0) (aa (fSl bSl (aB 0) (eU (fC (.int 1))) oNo) af)) (iZ 1 [.tup (ps.map bdD)])=some (_,_):=ag rfl (ag (mN rfl rfl rfl rfl hs) rfl);show((aa (aB 0) (aa (fSl bSl (aB 0) (eU (fC (.int 1))) oNo) af)) (iZ 1 [.tup (ps.map bdD)])).bind _=_;rw[e1,<-P0];rfl
 ·show(true&&decide (((ps.zip (ps.drop 1)).map fun q=>pr (bdD q.1) (bdD q.2)).length<=1000000))=true;rw[Za,List.length_zip,Ae (by lia)];rfl
end
end K17
namespace K17
open PySem L2 VF VL
def zm:bSl (.tup (d::ds)) (some 1) none=some (.tup ds,false):=by
 have h:=qf (d::ds) (some 1) none;have e1:DQ (.tup (d::ds)) (some 1) none=none:=rfl;have c:¬ (HT.sIx (d::ds).length 0 (some 1)=0/\HT.sIx (d::ds).length (d::ds).length none=(d::ds).length):=fun z=>by
  have m:min 1 (d::ds).length=0:=(HT.sIx_nat (d::ds).length 0 1).symm.trans z.1;rw[Qc]at m;lia
 have e2:oN (.tup (d::ds)) (some 1) none=some (.tup (cutD (d::ds) (some 1) none),false):=by simp only[oN,Aj c]
 have e3:cutD (d::ds) (some 1) none=ds:=vJ (i:=1) (by rw[Qc];lia)
 rw[e3]at e2;show orS DQ (orS oN FP) _ _ _=_;simp only[orS,e1,e2]
end K17
namespace VF
open PySem L2
def jG{ds:List D}(h1:fa st=some (rs,s1))(h2:cQ rs s1=some (ds,s2))(h3:ds.length<=1000000):cZ fa st=some (.f (.lst ds),s2):=by
 simp only[cZ,h1,h2,Yb];rw[Ag h3]
def qI(h1:fa st=some (r,s))(h2:cont s r=some d)(h3:b d=some z)(hz:mk z=r':=by rfl):fUn b fa st=some (r',s):=by
 simp only[fUn,h1,h2,h3,hz,Yb]
def uJ{a b:List D}(h:a.length+b.length<=1000000):cE (.lst a) (.lst b)=some (.lst (a++b),true):=by
 have e1:rR (.lst a) (.lst b)=none:=rfl;have e2:rS (.lst a) (.lst b)=none:=rfl;have e3:w6 (.lst a) (.lst b)=some (.lst (a++b),true):=by simp only[w6];rw[Ag h]
 unfold cE orD;rw[e1,e2,e3]
end VF
namespace K17
open PySem L2 VF VL VF22
def rf{l:List D}(hl:l.length<=n)(hn:n<=1000000:=by decide)(hb:b=true):(b&&decide (l.length<=1000000))=true:=by rw[hb,Ae (by lia)];rfl
def mw{α:Type}{f:α->D}{xs:List α}{i:Nat}{x:α}(h:xs[i]?=some x):atI (xs.map f) (i:Int)=some (f x):=iX (xs:=xs.map f) (j:=i) (by rw[Yd,h];rfl)
def kZ{xs:List α}(h:xs[xs.length-1]?=some x):atI (xs.map f) (-1)=some (f x):=by
 have hl:=(Zd.mp h).1;unfold atI ixN;rw[Aj (by lia),Ag (by rw[Za];lia)]
 show(xs.map f)[(-1+((xs.map f).length:Int)).toNat]?=_;rw[Za,show(-1+(xs.length:Int)).toNat=xs.length - 1 by lia,Yd,h];rfl
noncomputable section
abbrev z0:Bool×Str:=(false,Str.empty)
def Et(s:aO):List Jnt:=if s.1 then [aA [leE (s.2.headD z0),riE (s.2.getLastD z0)]] else [[leE (s.2.headD z0)],[riE (s.2.getLastD z0)]]
def sj(s:aO):List Jnt:=inn s.2++Et s
theorem dQ{ps:List (Bool×Str)}(h:ps≠[]):ps[0]?=some (ps.headD z0):=by
 cases ps with|nil=>exact absurd rfl h|cons p r=>rfl
theorem gn{ps:List (Bool×Str)}(h:ps≠[]):ps[ps.length-1]?=some (ps.getLastD z0):=by
 rw[<-List.getLast?_eq_getElem?,C5];cases ps with|nil=>exact absurd rfl h|cons p r=>rw[List.getLast?_cons];rfl
def m5(ps:List (Bool×Str)):(inn ps).length=ps.length-1:=by
 unfold inn;rw[Za,List.length_zip,Yj];lia
def Od(h:s.2≠[]):(sj s).length<=s.2.length+1:=by
 have:=List.length_pos_iff.mpr h;unfold sj Et;rw[Xa,m5];split<;>(simp only[Qc,Wg];lia)
def qJ(a b:End):(aA [a,b]).length=2:=(aE [a,b]).2.length_eq
def HI(h:j∈sj s):j≠[]:=by
 have two:∀a b:End,aA [a,b]≠[]:=fun a b z=>by have:=qJ a b;rw[z]at this;cases this
 unfold sj at h;rcases Zc.mp h with h|h
 ·unfold inn at h;obtain⟨q,_,rfl⟩:=Qb.mp h;exact two _ _
 ·unfold Et at h;split at h
  ·obtain rfl:=Wa.mp h;exact two _ _
  ·simp at h;rcases h with rfl|rfl<;>simp
def Eu{s:aO}(hs:s.2≠[])(hn:∀p∈s.2,Nm p.2)(hl:s.2.length<=100):dN [stD s]=some (.lst ((sj s).map jD),true):=by
 obtain⟨r,ps⟩:=s;dsimp only at hs hn hl;have h0:=dQ hs;have hL:=gn hs;have n0:=hn _ (Xb h0);have nl:=hn _ (Xb hL);generalize e0:ps.headD z0=p0 at h0 n0;generalize eL:ps.getLastD z0=pl at hL nl;have i0:bIx (.tup (ps.map bdD)) (.int 0)=some (bdD p0,false):=VF.ix_tup (mw (i:=0) h0);have il:bIx (.tup (ps.map bdD)) (.int (-1))=some (bdD pl,false):=VF.ix_tup (kZ hL);have hsl:bSl (.tup (ps.map bdD)) (some 1) none=some (.tup ((ps.drop 1).map bdD),false):=by
  cases ps with|nil=>exact absurd rfl hs|cons p q=>exact zm
 have hi:=HH hn hl hsl;have hll:(inn ps).length<=100:=by rw[m5];lia
 have eo:Et (r,ps)=if r then [aA [leE p0,riE pl]] else [[leE p0],[riE pl]]:=by unfold Et;dsimp only;rw[e0,eL]
 unfold sj;rw[eo];dsimp only;refine aJ (o:=.rt (.f (.lst ((inn ps++(if r then [aA [leE p0,riE pl]] else [[leE p0],[riE pl]])).map jD))) [.v (stD (r,ps)),.v (.tup (ps.map bdD)),.v (eD (leE p0)),.v (eD (riE pl)),.o (.lst ((if r then [aA [leE p0,riE pl]] else [[leE p0],[riE pl]]).map jD))]) rfl ?_ rfl;refine aq (cC rfl rfl) ?_;refine aq (cC (aI (ag (au rfl rfl rfl rfl i0) rfl) rfl (uI (t:=p0.1) (n:=p0.2) n0)) rfl) ?_;refine aq (cC (aI (ag (au rfl (qI rfl rfl rfl) rfl rfl il) rfl) rfl (v7 (t:=pl.1) (n:=pl.2) nl)) rfl) ?_;have fin:∀os:List Jnt,os.length<=2->(aZ (fOp cE (aN eK (aa (aB 1) af)) (aB 4))) [.v (stD (r,ps)),.v (.tup (ps.map bdD)),.v (eD (leE p0)),.v (eD (riE pl)),.o (.lst (os.map jD))]=some (.rt (.f (.lst ((inn ps++os).map jD))) [.v (stD (r,ps)),.v (.tup (ps.map bdD)),.v (eD (leE p0)),.v (eD (riE pl)),.o (.lst (os.map jD))]):=fun os ho=>by
  refine aK (au (aI rfl rfl hi) rfl rfl rfl (uJ ?_) ?_)
  ·rw[Za,Za];lia
  ·rw[Yc];rfl
 cases r with
 |true=>
  refine aq (dY (ot rfl (jG (ag (aI (ag (bo rfl rfl (by show 2<=1000000;decide)) rfl) rfl v8) rfl) rfl (by show 1<=1000000;decide))) rfl) ?_
  exact fin [aA [leE p0,riE pl]] (by show 1<=2;decide)
 |false=>
  refine aq (dY (mO rfl (jG (ag (bo rfl rfl (by show 1<=1000000;decide)) (ag (bo rfl rfl (by show 1<=1000000;decide)) rfl)) rfl (by show 2<=1000000;decide))) rfl) ?_
  exact fin [[leE p0],[riE pl]] (by show 2<=2;decide)
theorem uK:∀{ss:List aO},(∀s∈ss,s.2≠[])->(ss.flatMap sj).length<=2*(ss.flatMap (·.2)).length
 |[],_=>Wb _
 | s::r,h=>by
  have ih:=uK fun x hx=>h x (Vb _ hx);have h1:=h s Va;have h2:=Od h1;have:=List.length_pos_iff.mpr h1;rw[Xf,Xf,Xa,Xa];lia
def jo(ss:List aO):List Jnt:=bD (ss.flatMap sj)
def Ev{ss:List aO}(hne:∀s∈ss,s.2≠[])(hn:∀s∈ss,∀p∈s.2,Nm p.2)(hl:(ss.flatMap (·.2)).length<=30):fI [.tup (ss.map stD)]=some (.tup ((jo ss).map jD),false):=by
 have hj:=uK hne;obtain⟨sf,e,s2,rfl,q2⟩:=bM (fg:=gN 2) (B:=ck (fM isL i6 1 (aa (aN dN (aa (aB 2) af)) af))) stD ss
  (fun gone st=>∃s2:Sl,st=[.v (.tup (ss.map stD)),.o (.lst ((gone.flatMap sj).map jD)),s2]/\s2.isIo=false)
  (by
   rintro gone s rest st ha ⟨s2,rfl,q2⟩;have hm:s∈ss:=by rw[ha];simp
   have hsl:s.2.length<=100:=by
    have:=congrArg (fun l=>(List.flatMap (fun x:aO=>x.2) l).length) ha;simp only[Xg,Xf,Xa]at this;lia
   have hgl:(gone.flatMap sj).length+(sj s).length<=200:=by
    have:=congrArg (fun l=>(List.flatMap sj l).length) ha;simp only[Xg,Xf,Xa]at this;lia
   refine⟨_,[.v (.tup (ss.map stD)),.o (.lst (((gone++[s]).flatMap sj).map jD)),.v (stD s)],bp rfl q2,?_,.v (stD s),rfl,rfl⟩;refine bV (iM rfl rfl rfl (ag (aI rfl rfl (Eu (hne s hm) (hn s hm) hsl)) rfl) rfl rfl rfl (yT ?_) ?_)
   ·rw[Za,Za];lia
   ·rw[Xg,Xm,Yc];rfl)
  ss [] [.v (.tup (ss.map stD)),.o (.lst []),.e] rfl ⟨.e,rfl,rfl⟩
 refine aJ (o:=.rt (.d (.tup ((jo ss).map jD))) [.v (.tup (ss.map stD)),.o (.lst ((ss.flatMap sj).map jD)),s2]) rfl ?_ rfl;refine aq rfl (aq (cS (db rfl rfl) e) (aK (aL (ag (aL rfl rfl (kY (ss.flatMap sj) (by lia) (fun j hj=>?_) rfl)) rfl) rfl rfl)))
 obtain⟨s,_,h⟩:=Wj.mp hj;exact HI h
end
end K17
namespace K17
open PySem L2 VF VL VF22
noncomputable section
def cV(p:Bool×Str):D:=.tup [eD (leE p),eD (riE p)]
theorem Ks(h:Nm p.2):gR [bdD p]=some (cV p,false):=by
 obtain⟨t,n⟩:=p;obtain⟨c,hc,hcm⟩:=Hm (p:=(t,n)) h;refine aJ (o:=.rt (.d (cV (t,n))) [.v (bdD (t,n))]) rfl ?_ rfl;cases t with
 |true=>
  have hs:bSl (bdD (true,n)) (some 1) none=some (.str n,false):=by
   rw[Gi (kw h)];show some (D.str (Txt.slice (minus++n) (some 1) none),false)=_;rw[Hl]
  refine gB (f6 (eS (aC (au (au rfl rfl rfl rfl (ix_str (kw h) hc)) rfl rfl rfl rfl) rfl) (Ae (hcm.mpr rfl))) (aK ?_));exact bo (ag (bo (ag (mN rfl rfl rfl rfl hs) rfl) rfl (by show 2<=1000000;decide)) (ag (bo (ag (mN rfl rfl rfl rfl hs) rfl) rfl (by show 2<=1000000;decide)) rfl)) rfl (by show 2<=1000000;decide)
 |false=>
  refine aq (cW (eS (aC (au (au rfl rfl rfl rfl (ix_str (kw h) hc)) rfl rfl rfl rfl) rfl) (Af fun z=>by cases (hcm.mp z))) rfl) (aK ?_)
  exact bo (ag (bo rfl rfl (by show 2<=1000000;decide)) (ag (bo rfl rfl (by show 2<=1000000;decide)) rfl)) rfl (by show 2<=1000000;decide)
def HJ{ps:List (Bool×Str)}(hp:∀p∈ps,Nm p.2):b9 (gN 0) cj (aN gR (aa (aB 0) af)) 1 (ps.map bdD) [.e]=some (ps.map cV,[.e]) :=
 bZ (fg:=gN 0) (fc:=cj) (fe:=aN gR (aa (aB 0) af)) (k:=1) bdD cV [.e] ps fun p hpp=>⟨[.v (bdD p)],[.v (bdD p)],.d (cV p),[.v (bdD p)],[.v (bdD p)],rfl,rfl,aI rfl rfl (Ks (hp p hpp)),rfl,rfl⟩
def Jn(p q:Bool×Str):Jnt:=aA [riE p,leE q]
def HK(h1:ps[i]?=some a)(h2:ps[i+1]?=some b):(inn ps).take (i+1)=(inn ps).take i++[Jn a b]:=by
 rw[List.take_add_one];congr 1;unfold inn;rw[Yd];have:(ps.zip (ps.drop 1))[i]?=some (a,b):=by
  rw[By];refine⟨h1,?_⟩;rw[Wi,Cz];exact h2
 rw[this];rfl
def Ew{S kd bs:D}{ps:List (Bool×Str)}(h1:1<=ps.length)(hl:ps.length<=100)(B:FS)
  (hB:B=ck (fM isL bx 1 (aa (fCB br (aa (fCB bO (aa (cZ (aa (fOp bIx (fOp bIx (aB 4) (aB 5)) (fC (.int 1))) (aa (fOp bIx (fOp bIx (aB 4) (fOp cE (aB 5) (fC (.int 1)))) (fC (.int 0))) af))) af)) af)) af)))
  (js:List Jnt) (hj:js.length<=500) (s5:Sl) (q5:s5.isIo=false) :
  ∃(s5':Sl),eT (gN 5) B (rng 0 (ps.length-1)) [.v S,.o (.lst (js.map jD)),.v kd,.v bs,.o (.lst (ps.map cV)),s5]=some (.nx [.v S,.o (.lst ((js++inn ps).map jD)),.v kd,.v bs,.o (.lst (ps.map cV)),s5'])/\s5'.isIo=false:=by
 have e0:rng 0 (ps.length-1)=(List.range (ps.length-1)).map fun t:Nat=>D.int (t:Int):=by
  unfold rng;exact Vh fun t _=>by rw[Int.zero_add]
 rw[e0];obtain⟨sf,e,s5',rfl,q5'⟩:=bM (fg:=gN 5) (B:=B) (fun t:Nat=>D.int (t:Int)) (List.range (ps.length-1))
  (fun gone st=>∃(s5':Sl),st=[.v S,.o (.lst ((js++(inn ps).take gone.length).map jD)),.v kd,.v bs,.o (.lst (ps.map cV)),s5']/\s5'.isIo=false)
  (by
   rintro gone x rest st ha ⟨s5',rfl,q5'⟩;have hx:x<ps.length-1:=Qj.mp (by rw[ha];simp)
   have hg:x=gone.length:=by
    have:=congrArg (fun l=>l[gone.length]?) ha;rw[List.getElem?_range (by have:=congrArg List.length ha;rw[AU,Xa,Qc]at this;lia)]at this
    simpa using this.symm
   have a1:ps[x]?=some ps[x]:=Ya (by lia)
   have a2:ps[x+1]?=some ps[x+1]:=Ya (by lia)
   have i1:bIx (.lst (ps.map cV)) (.int (x:Int))=some (cV ps[x],false):=iF (mw a1);have i2:bIx (.lst (ps.map cV)) (.int ((x:Int)+1))=some (cV ps[x+1],false):=by
    have:=mw (f:=cV) a2;rw[CU]at this;exact iF this
   have ej:=d8 (d:=.lst [eD (riE ps[x]),eD (leE ps[x+1])]) [riE ps[x],leE ps[x+1]] (by simp) rfl
   refine⟨_,[.v S,.o (.lst ((js++(inn ps).take (gone++[x]).length).map jD)),.v kd,.v bs,.o (.lst (ps.map cV)),.v (.int (x:Int))],bp rfl q5',?_,.v (.int (x:Int)),rfl,rfl⟩;rw[hB];refine bV (iM rfl rfl rfl (ag (aL (ag (aL (ag (jG (ag (au (au rfl rfl rfl rfl i1) rfl rfl rfl rfl) (ag (au (au rfl (au rfl rfl rfl rfl rfl) rfl rfl i2) rfl rfl rfl rfl) rfl)) rfl (by show 2<=1000000;decide)) rfl) rfl ej) rfl) rfl rfl) rfl) rfl rfl rfl (dJ ?_) ?_)
   ·rw[Za,Xa,A1,m5];lia
   ·rw[Xa,We,<-hg,HK a1 a2,<-Zf,Yc (l₁:=js++_)];rfl)
  (List.range (ps.length-1)) [] [.v S,.o (.lst (js.map jD)),.v kd,.v bs,.o (.lst (ps.map cV)),s5] rfl ⟨s5,by rw[Wg,List.take_zero,Yg],q5⟩
 rw[AU,Yk (by rw[m5];lia)]at e
 exact⟨s5',e,q5'⟩
def xQ{ss:List aO}(hne:∀s∈ss,s.2≠[])(hn:∀s∈ss,∀p∈s.2,Nm p.2)(hl:(ss.flatMap (·.2)).length<=30):jw [.tup (ss.map stD)]=some (.tup ((jo ss).map jD),false):=by
 have hj:=uK hne;have sp:∃B,gh=aH (bb (cZ af) 1) (aH (fY (fIA (aB 0)) (VF.gT 2 (gsC (gN 2) (gsC (gN 3) gsN))) B) (aZ (fCB br (aa (fCB bO (aa (aB 1) af)) af)))) /\
   ∀(S:D)(js:List Jnt)(s:aO)(s4 s5:Sl),s.2≠[]->(∀p∈s.2,Nm p.2)->s.2.length<=100->js.length<=300->s4.isIo=false->s5.isIo=false->
    ∃(s4' s5':Sl),B [.v S,.o (.lst (js.map jD)),.v (.str (kd s.1)),.v (.tup (s.2.map bdD)),s4,s5]=some (.nx [.v S,.o (.lst ((js++sj s).map jD)),.v (.str (kd s.1)),.v (.tup (s.2.map bdD)),s4',s5'])/\s4'.isIo=false/\s5'.isIo=false:=by
  refine⟨_,rfl,fun S js s s4 s5 hs hp hsl hj q4 q5=>?_⟩;obtain⟨r,ps⟩:=s;dsimp only at hs hp hsl ⊢;have hps:1<=ps.length:=List.length_pos_iff.mpr hs;have cm:=HJ hp;obtain⟨s5',e1,q5'⟩:=Ew (S:=S) (kd:=.str (kd r)) (bs:=.tup (ps.map bdD)) hps hsl _ rfl js (by lia) s5 q5
  have hp0:=dQ hs;have hpl:=gn hs;have i0:bIx (.lst (ps.map cV)) (.int 0)=some (cV (ps.headD z0),false):=iF (mw (i:=0) hp0);have il:bIx (.lst (ps.map cV)) (.int (-1))=some (cV (ps.getLastD z0),false):=iF (kZ hpl);have len4:ce [.lst (ps.map cV)]=some (.int ps.length,false):=by
   show some (D.int ((ps.map cV).length:Nat),false)=_;rw[Za]
  have esub:((ps.length:Int)-1).toNat=ps.length-1:=by lia
  have hil:(js++inn ps).length<=500:=by rw[Xa,m5];lia
  cases r with
  |true=>
   have ej:=d8 (d:=.lst [eD (riE (ps.getLastD z0)),eD (leE (ps.headD z0))]) [riE (ps.getLastD z0),leE (ps.headD z0)] (by simp) rfl
   have es:sj (true,ps)=inn ps++[aA [riE (ps.getLastD z0),leE (ps.headD z0)]]:=by
    show inn ps++[aA [leE (ps.headD z0),riE (ps.getLastD z0)]]=_;rw[eY (List.Perm.swap _ _ [])]
   refine⟨.o (.lst (ps.map cV)),s5',?_,rfl,q5'⟩;refine aq (dY (bF (db rfl rfl) (rf (n:=100) (by rw[Za];exact hsl) (by decide) rfl) cm) (bp rfl q4)) ?_
   refine aq (cS (jd (j:=(ps.length:Int)-1) (ag (au (aL rfl rfl len4) rfl rfl rfl rfl) rfl) rfl ⟨by lia,by lia⟩) (by rw[esub];exact e1)) ?_
   refine f6 rfl ?_;refine bV (iM rfl rfl rfl (ag (aL (ag (aL (ag (jG (ag (au (au rfl (qI rfl rfl rfl) rfl rfl il) rfl rfl rfl rfl) (ag (au (au rfl rfl rfl rfl i0) rfl rfl rfl rfl) rfl)) rfl (by show 2<=1000000;decide)) rfl) rfl ej) rfl) rfl rfl) rfl) rfl rfl rfl (dJ ?_) ?_)
   ·rw[Za];lia
   ·rw[es,<-Zf,Yc (l₁:=js++inn ps)];rfl
  |false=>
   have es:sj (false,ps)=inn ps++[[leE (ps.headD z0)],[riE (ps.getLastD z0)]]:=rfl;refine⟨.o (.lst (ps.map cV)),s5',?_,rfl,q5'⟩;refine aq (dY (bF (db rfl rfl) (rf (n:=100) (by rw[Za];exact hsl) (by decide) rfl) cm) (bp rfl q4)) ?_
   refine aq (cS (jd (j:=(ps.length:Int)-1) (ag (au (aL rfl rfl len4) rfl rfl rfl rfl) rfl) rfl ⟨by lia,by lia⟩) (by rw[esub];exact e1)) ?_
   refine cW rfl ?_;refine aq (s:=[.v S,.o (.lst ((js++inn ps++[[leE (ps.headD z0)]]).map jD)),.v (.str (kd false)),.v (.tup (ps.map bdD)),.o (.lst (ps.map cV)),s5']) (bV (iM rfl rfl rfl (ag (bo (ag (au (au rfl rfl rfl rfl i0) rfl rfl rfl rfl) rfl) rfl (by show 1<=1000000;decide)) rfl) rfl rfl rfl (dJ ?_) ?_)) ?_
   ·rw[Za];lia
   ·rw[Yc (l₁:=js++inn ps)];rfl
   refine bV (iM rfl rfl rfl (ag (bo (ag (au (au rfl (qI rfl rfl rfl) rfl rfl il) rfl rfl rfl rfl) rfl) rfl (by show 1<=1000000;decide)) rfl) rfl rfl rfl (dJ ?_) ?_)
   ·rw[Za,Xa,We];lia
   ·rw[es,show js++(inn ps++[[leE (ps.headD z0)],[riE (ps.getLastD z0)]])=js++inn ps++[[leE (ps.headD z0)]]++[[riE (ps.getLastD z0)]] by simp,Yc (l₁:=js++inn ps++[[leE (ps.headD z0)]])];rfl
 obtain⟨B,eF,hB⟩:=sp;obtain⟨sf,e,s2,s3,s4,s5,rfl,q2,q3,q4,q5⟩:=bM (fg:=VF.gT 2 (gsC (gN 2) (gsC (gN 3) gsN))) (B:=B) stD ss
  (fun gone st=>∃(s2 s3 s4 s5:Sl),st=[.v (.tup (ss.map stD)),.o (.lst ((gone.flatMap sj).map jD)),s2,s3,s4,s5]/\s2.isIo=false/\s3.isIo=false/\s4.isIo=false/\s5.isIo=false)
  (by
   rintro gone s rest st ha ⟨s2,s3,s4,s5,rfl,q2,q3,q4,q5⟩;have hm:s∈ss:=by rw[ha];simp
   have hsl:s.2.length<=100:=by
    have:=congrArg (fun l=>(List.flatMap (fun x:aO=>x.2) l).length) ha;simp only[Xg,Xf,Xa]at this;lia
   have hgl:(gone.flatMap sj).length<=200:=by
    have:=congrArg (fun l=>(List.flatMap sj l).length) ha;simp only[Xg,Xf,Xa]at this;lia
   obtain⟨s4',s5',eb,q4',q5'⟩:=hB (.tup (ss.map stD)) (gone.flatMap sj) s s4 s5 (hne s hm) (hn s hm) hsl (by lia) q4 q5
   refine⟨[.v (.tup (ss.map stD)),.o (.lst ((gone.flatMap sj).map jD)),.v (.str (kd s.1)),.v (.tup (s.2.map bdD)),s4,s5],_,?_,eb,.v (.str (kd s.1)),.v (.tup (s.2.map bdD)),s4',s5',by rw[Xg,Xm],rfl,rfl,q4',q5'⟩
   show(if 2=2 then gsC (gN 2) (gsC (gN 3) gsN) [.str (kd s.1),.tup (s.2.map bdD)] _ else none)=_;rw[Ag rfl];show(gN 2 (.str (kd s.1)) _).bind _=_;rw[show gN 2 (.str (kd s.1)) [.v (.tup (ss.map stD)),.o (.lst ((gone.flatMap sj).map jD)),s2,s3,s4,s5]=some [.v (.tup (ss.map stD)),.o (.lst ((gone.flatMap sj).map jD)),.v (.str (kd s.1)),s3,s4,s5] from bp rfl q2];show(gN 3 (.tup (s.2.map bdD)) _).bind _=_;rw[show gN 3 (.tup (s.2.map bdD)) [.v (.tup (ss.map stD)),.o (.lst ((gone.flatMap sj).map jD)),.v (.str (kd s.1)),s3,s4,s5]=some [.v (.tup (ss.map stD)),.o (.lst ((gone.flatMap sj).map jD)),.v (.str (kd s.1)),.v (.tup (s.2.map bdD)),s4,s5] from bp rfl q3]
   rfl)
  ss [] [.v (.tup (ss.map stD)),.o (.lst []),.e,.e,.e,.e] rfl ⟨.e,.e,.e,.e,rfl,rfl,rfl,rfl,rfl⟩
 refine aJ (o:=.rt (.d (.tup ((jo ss).map jD))) [.v (.tup (ss.map stD)),.o (.lst ((ss.flatMap sj).map jD)),s2,s3,s4,s5]) rfl ?_ rfl;rw[eF];refine aq rfl (aq (cS (db rfl rfl) e) (aK (aL (ag (aL rfl rfl (kY (ss.flatMap sj) (by lia) (fun j hj=>?_) rfl)) rfl) rfl rfl)))
 obtain⟨s,_,h⟩:=Wj.mp hj;exact HI h
abbrev Bd:=Bool×Str
def Kt(p q:Bd)(r:List Bd):inn (p::q::r)=Jn p q::inn (q::r):=rfl
theorem zn:∀(xs:List Bd)(y:Bd)(ys:List Bd),xs≠[]->inn (xs++y::ys)=inn xs++Jn (xs.getLastD z0) y::inn (y::ys)
 |[],_,_,h=>absurd rfl h
 |[x],y,ys,_=>rfl
 | x::x'::r,y,ys,_=>by
  have ih:=zn (x'::r) y ys (by simp)
  show Jn x x'::inn (x'::r++y::ys)=Jn x x'::(inn (x'::r)++_);rw[ih];rfl
def flp(p:Bd):Bd:=(!p.1,p.2)
def dj(ps:List Bd):List Bd:=ps.reverse.map flp
def HL(p:Bd)(r:List Bd):dj (p::r)=dj r++[flp p]:=by unfold dj;rw[List.reverse_cons,Yc];rfl
def v9(xs:List α)(x z:α):(xs++[x]).getLastD z=x:=by rw[C5];simp
def iR(ps:List Bd):List End:=ps.map leE++ps.map riE
theorem wa:∀(p:Bd)(r:List Bd),((inn (p::r)).flatten++[leE p]++[riE ((p::r).getLastD z0)]).Perm (iR (p::r))
 |p,[]=>List.Perm.refl _
 | p,q::r=>by
  have ih:=wa q r;have e:((p::q::r).getLastD z0)=(q::r).getLastD z0:=rfl;rw[Kt,e,Vg];generalize (inn (q::r)).flatten=A at ih ⊢;generalize (q::r).getLastD z0=l at ih ⊢;have h1:(Jn p q).Perm [riE p,leE q]:=(aE _).2;have h2:(iR (p::q::r)).Perm (riE p::leE p::iR (q::r)):=by
   show(leE p::((q::r).map leE++riE p::(q::r).map riE)).Perm _;exact((Bg).cons _).trans (List.Perm.swap _ _ _)
  refine List.Perm.trans ?_ h2.symm;have h3:(Jn p q++A++[leE p]++[riE l]).Perm (riE p::leE p::(A++[leE q]++[riE l])):=by
   refine((((h1.append_right A).append_right [leE p]).append_right [riE l])).trans ?_;show(riE p::leE q::(A++[leE p]++[riE l])).Perm _;refine List.Perm.cons _ ?_;have e1:leE q::(A++[leE p]++[riE l])=(leE q::A)++leE p::[riE l]:=by simp
   have e2:leE p::(A++[leE q]++[riE l])=leE p::(A++leE q::[riE l]):=by simp
   rw[e1,e2];exact(Bg).trans ((Bg.symm).cons _)
  exact h3.trans ((ih.cons _).cons _)
theorem Ku(h:s.2≠[]):((sj s).flatten).Perm (iR s.2):=by
 obtain⟨b,ps⟩:=s;cases ps with
 |nil=>exact absurd rfl h
 |cons p r=>
  refine List.Perm.trans ?_ (wa p r);unfold sj;rw[Qh,Zf];refine B6 _ ?_;cases b with
  |true=>
   show([aA [leE p,riE ((p::r).getLastD z0)]].flatten).Perm ([leE p]++[riE ((p::r).getLastD z0)]);rw[BX];exact(aE _).2
  |false=>exact List.Perm.refl _
def zero(x:Str):End:=(x,0)
def one(x:Str):End:=(x,1)
theorem jH:∀ps:List Bd,(iR ps).Perm ((ps.map (·.2)).map zero++(ps.map (·.2)).map one)
 |[]=>List.Perm.refl _
 | p::r=>by
  have ih:=jH r;have h1:(iR (p::r)).Perm (leE p::riE p::iR r):=(Bg).cons _;refine h1.trans ?_;have h2:((((p::r).map (·.2)).map zero++((p::r).map (·.2)).map one)).Perm (zero p.2::one p.2::((r.map (·.2)).map zero++(r.map (·.2)).map one)):=(Bg).cons _;refine List.Perm.trans ?_ h2.symm;obtain⟨t,n⟩:=p;cases t with|true=>exact(List.Perm.swap _ _ _).trans ((ih.cons _).cons _)|false=>exact(ih.cons _).cons _
def HM(a b:List Bd):(iR (a++b)).Perm (iR a++iR b):=by
 unfold iR;rw[Yc,Yc];have e1:a.map leE++b.map leE++(a.map riE++b.map riE)=a.map leE++(b.map leE++a.map riE)++b.map riE:=by simp
 have e2:a.map leE++a.map riE++(b.map leE++b.map riE)=a.map leE++(a.map riE++b.map leE)++b.map riE:=by simp
 rw[e1,e2];exact(B6 _ B5).append_right _
theorem lb:∀{ss:List aO},(∀s∈ss,s.2≠[])->((ss.flatMap sj).flatten).Perm (iR (ss.flatMap (·.2)))
 |[],_=>List.Perm.refl _
 | s::r,h=>by
  have ih:=lb fun x hx=>h x (Vb _ hx);rw[Xf,Xf,Qh];exact((Ku (h s Va)).append ih).trans (HM _ _).symm
def Kv{ss:List aO}(h:∀s∈ss,s.2≠[]){xs:List Str}(p:((ss.flatMap (·.2)).map (·.2)).Perm xs):((jo ss).flatten).Perm (xs.map zero++xs.map one):=by
 have h1:(jo ss).Perm (ss.flatMap sj):=(bW _).2;refine(h1.flatten).trans ((lb h).trans ((jH _).trans ?_));exact(p.map zero).append (p.map one)
end
end K17
namespace K17
open PySem L2 VF VL
noncomputable section
def LS{ps:List Bd}(hn:∀p∈ps,Nm p.2)(hl:ps.length<=100):df [.tup (ps.map bdD)]=some (.tup ((dj ps).map bdD),false):=by
 have cm:b9 (gN 0) cj (aP dW (aa (aB 0) af)) 1 (ps.reverse.map bdD) [.e]=some ((dj ps).map bdD,[.e]):=by
  have:=bZ (fg:=gN 0) (fc:=cj) (fe:=aP dW (aa (aB 0) af)) (k:=1) bdD (fun p=>bdD (flp p)) [.e] ps.reverse fun p hpp=>⟨[.v (bdD p)],[.v (bdD p)],.d (bdD (flp p)),[.v (bdD p)],[.v (bdD p)],rfl,rfl,aQ rfl rfl (xP (t:=p.1) (n:=p.2) (hn p (List.mem_reverse.mp hpp))) rfl,rfl,rfl⟩;rw[this];unfold dj;rw[Ze];rfl
 refine aJ (o:=.rt (.d (.tup ((dj ps).map bdD))) [.v (.tup (ps.map bdD))]) rfl (aK (aL (ag (bF (s1:=[.v (.tup (ps.map bdD))]) (ds:=ps.reverse.map bdD) ?_ (rf (n:=100) ?_ (by decide) rfl) cm) rfl) rfl rfl)) rfl
 ·have:=JN (st:=[.v (.tup (ps.map bdD))]) (s1:=[.v (.tup (ps.map bdD))]) (fe:=aB 0) (ds:=ps.map bdD) (r:=.d (.tup (ps.map bdD))) rfl rfl;rw[<-List.map_reverse]at this;exact this
 ·rw[Za,Bp];exact hl
def co(ps:List Bd):List Bd:=if ps.length=1 then [(false,(ps.headD z0).2)] else if ltS (ps.headD z0).2 (ps.getLastD z0).2 then ps else dj ps
def lt_str(h:ltS x y=b):bLt (.str x) (.str y)=some (.bl b,false):=by
 rw[<-h];have e1:MX (.str x) (.str y)=none:=rfl;unfold bLt orD;rw[e1];rfl
def P1{ps:List Bd}(hs:ps≠[])(hn:∀p∈ps,Nm p.2)(hl:ps.length<=100):jj [.tup (ps.map bdD)]=some (.tup ((co ps).map bdD),false):=by
 have h0:=dQ hs;have hL:=gn hs;have n0:=hn _ (Xb h0);have nl:=hn _ (Xb hL);have len1:ce [.tup (ps.map bdD)]=some (.int ps.length,false):=by
  show some (D.int ((ps.map bdD).length:Nat),false)=_;rw[Za]
 unfold co;generalize ps.headD z0=p0 at h0 n0 ⊢;generalize ps.getLastD z0=pl at hL nl ⊢;have i0:bIx (.tup (ps.map bdD)) (.int 0)=some (bdD p0,false):=VF.ix_tup (mw (i:=0) h0);have il:bIx (.tup (ps.map bdD)) (.int (-1))=some (bdD pl,false):=VF.ix_tup (kZ hL);have nm0:∀st:En,st=[.v (.tup (ps.map bdD))]->aP bP (aa (fOp bIx (aB 0) (fC (.int 0))) af) st=some (.d (.str p0.2),st):=fun st hst=>by
  subst hst;exact aQ (ag (au rfl rfl rfl rfl i0) rfl) rfl (eZ (t:=p0.1) (n:=p0.2) n0) rfl
 have nml:∀st:En,st=[.v (.tup (ps.map bdD))]->aP bP (aa (fOp bIx (aB 0) (fUn vq (fC (.int 1)))) af) st=some (.d (.str pl.2),st):=fun st hst=>by
  subst hst;exact aQ (ag (au rfl (qI rfl rfl rfl) rfl rfl il) rfl) rfl (eZ (t:=pl.1) (n:=pl.2) nl) rfl
 have eqn:bEq (.int ps.length) (.int 1)=some (.bl (decide (ps.length=1)),false):=by
  show some (D.bl (decide (V.int (ps.length:Int)=V.int 1)),false)=_;congr 2;congr 1;rw[Ye,decide_eq_true_eq,decide_eq_true_eq];exact⟨fun z=>by have:=V.int.inj z;lia,fun z=>by rw[z];rfl⟩
 by_cases c:ps.length=1
 ·rw[Ag c];rw[Ae c]at eqn;refine aJ (o:=.rt (.d (.tup [.str p0.2])) [.v (.tup (ps.map bdD))]) rfl ?_ rfl;exact gB (f6 (aC (au (aL rfl rfl len1) rfl rfl rfl eqn) rfl) (aK (bo (ag (nm0 _ rfl) rfl) rfl (by show 1<=1000000;decide))))
 ·rw[Aj c];rw[Af c]at eqn;have t1:ay (fOp bEq (fCB ce (aa (aB 0) af)) (fC (.int 1))) [.v (.tup (ps.map bdD))]=some (false,[.v (.tup (ps.map bdD))]):=aC (au (aL rfl rfl len1) rfl rfl rfl eqn) rfl;cases e:ltS p0.2 pl.2 with
  |true=>
   refine aJ (o:=.rt (.d (.tup (ps.map bdD))) [.v (.tup (ps.map bdD))]) rfl ?_ rfl;exact aq (cW t1 rfl) (gB (f6 (aC (au (nm0 _ rfl) (nml _ rfl) rfl rfl (lt_str e)) rfl) (aK (aL rfl rfl rfl))))
  |false=>
   refine aJ (o:=.rt (.d (.tup ((dj ps).map bdD))) [.v (.tup (ps.map bdD))]) rfl ?_ rfl;exact aq (cW t1 rfl) (aq (cW (aC (au (nm0 _ rfl) (nml _ rfl) rfl rfl (lt_str e)) rfl) rfl) (aK (aI rfl rfl (LS hn hl))))
end
end K17
namespace VF
open PySem L2
theorem zo(bt:Nat->Nat->Bool):∀k,argBest bt k<=k
 |0=>Wb _
 | k+1=>by
  unfold argBest;split
  ·exact Wb _
  ·exact Nat.le_succ_of_le (zo bt k)
theorem qK{bt:Nat->Nat->Bool}(tr:∀a b c,bt a b=true->bt c b=false->bt c a=true->False)(ir:∀a,bt a a=false):∀k j,j<=k->bt j (argBest bt k)=false
 | 0,j,h=>by
  obtain rfl:j=0:=by lia
  exact ir 0
 | k+1,j,h=>by
  unfold argBest;cases e:bt (k+1) (argBest bt k) with
  |true=>
   rw[Ag rfl];by_cases hj:j=k+1
   ·subst hj;exact ir _
   ·have:=qK tr ir k j (by lia)
    cases e2:bt j (k+1) with|false=>rfl|true=>exact(tr _ _ _ e this e2).elim
  |false=>
   rw[Aj Bool.noConfusion];by_cases hj:j=k+1
   ·subst hj;exact e
   ·exact qK tr ir k j (by lia)
def kx(h:ys≠[]):ll ys∈ys:=by
 have hp:=List.length_pos_iff.mpr h;have hb:=zo (fun i j=>ltS (ys.getD i Str.empty) (ys.getD j Str.empty)) (ys.length-1);have hlt:zf ys<ys.length:=by unfold zf;lia
 unfold ll;rw[Qa,Ya hlt];exact Xl hlt
def uL{ys:List Str}{y:Str}(h:y∈ys):ltS y (ll ys)=false:=by
 obtain⟨j,hj,rfl⟩:=Ql.mp h
 have:=qK (bt:=fun i j=>ltS (ys.getD i Str.empty) (ys.getD j Str.empty)) (fun a b c h1 h2 h3=>by
  have:=ue h3 h1
  rw[h2]at this;cases this) (fun a=>pB _) (ys.length-1) j (by lia)
 have e:ys.getD j Str.empty=ys[j]:=by rw[Qa,Ya hj];rfl
 have t:ltS (ys.getD j Str.empty) (ys.getD (zf ys) Str.empty)=false:=this;rw[e]at t;exact t
def HN{ys:List Str}(h:b∈ys):bIndex (.lst (ys.map D.str)) [.str b]=some (.int (ys.idxOf b:Nat),false):=by
 show(iq (ys.map D.str)).bind (fun ys=>if b∈ys then some (D.int (ys.idxOf b:Nat),false) else none)=_;rw[jc];show(if b∈ys then _ else _)=_;rw[Ag h]
def Oe{ys:List Str}(h:ys≠[]):G5 [.lst (ys.map D.str)]=some (.str (ll ys),false):=by
 show(iq (ys.map D.str)).bind (fun ys=>if ys=[] then none else some (D.str (ll ys),false))=_;rw[jc];show(if ys=[] then _ else _)=_;rw[Aj h]
end VF
namespace K17
open PySem L2 VF VL
noncomputable section
def nms(ps:List Bd):List Str:=ps.map (·.2)
def fp(ps:List Bd):Nat:=(nms ps).idxOf (ll (nms ps))
def uM(h:ps≠[]):nms ps≠[]:=fun z=>h (List.map_eq_nil_iff.mp z)
def HP{ps:List Bd}(h:ps≠[]):fp ps<ps.length:=by
 have:=List.idxOf_lt_length_iff.mpr (kx (uM h));unfold fp;rwa [show(nms ps).length=ps.length from Za ..]at this
def LT{ps:List Bd}(hs:ps≠[])(hn:∀p∈ps,Nm p.2)(hl:ps.length<=100):cO [.tup (ps.map bdD)]=some (.int (fp ps:Nat),false):=by
 have cm:b9 (gN 0) cj (aP bP (aa (aB 0) af)) 1 (ps.map bdD) [.e]=some ((nms ps).map D.str,[.e]):=by
  have:=bZ (fg:=gN 0) (fc:=cj) (fe:=aP bP (aa (aB 0) af)) (k:=1) bdD (fun p=>D.str p.2) [.e] ps fun p hpp=>⟨[.v (bdD p)],[.v (bdD p)],.d (.str p.2),[.v (bdD p)],[.v (bdD p)],rfl,rfl,aQ rfl rfl (eZ (t:=p.1) (n:=p.2) (hn p hpp)) rfl,rfl,rfl⟩;rw[this];unfold nms;rw[Ze];rfl
 refine aJ (o:=.rt (.d (.int (fp ps:Nat))) [.v (.tup (ps.map bdD)),.o (.lst ((nms ps).map D.str))]) rfl ?_ rfl;refine aq (dY (bF (db rfl rfl) (rf (n:=100) (by rw[Za];exact hl) (by decide) rfl) cm) rfl) ?_
 exact aK (Gj rfl rfl rfl (ag (aL rfl rfl (Oe (uM hs))) rfl) rfl rfl (HN (kx (uM hs))))
def side(ps:List Bd):List Bd:=if (ps.getD (fp ps) z0).1 then dj ps else ps
def cr(ps:List Bd):List Bd:=(side ps).drop (fp (side ps))++(side ps).take (fp (side ps))
def m6(ps:List Bd):(dj ps).length=ps.length:=by unfold dj;rw[Za,Bp]
def zp(hn:∀p∈ps,Nm p.2):∀p∈dj ps,Nm p.2:=fun p hp=>by
 obtain⟨q,hq,rfl⟩:=Qb.mp hp;exact hn q (List.mem_reverse.mp hq)
def zq{ps:List Bd}(hs:ps≠[])(hn:∀p∈ps,Nm p.2):side ps≠[]/\(∀p∈side ps,Nm p.2)/\(side ps).length=ps.length:=by
 unfold side;split
 ·refine⟨fun z=>hs ?_,zp hn,m6 ps⟩;have:=m6 ps;rw[z]at this;exact Yf this.symm
 ·exact⟨hs,hn,rfl⟩
def P2{ps:List Bd}(hs:ps≠[])(hn:∀p∈ps,Nm p.2)(hl:ps.length<=100):jm [.tup (ps.map bdD)]=some (.tup ((cr ps).map bdD),false):=by
 obtain⟨s1,s2,s3⟩:=zq hs hn;have hf:=HP hs;have a1:ps[fp ps]?=some (ps.getD (fp ps) z0):=by rw[Qa,Ya hf];rfl
 have nf:=hn _ (Xb a1);have i1:bIx (.tup (ps.map bdD)) (.int (fp ps:Nat))=some (bdD (ps.getD (fp ps) z0),false):=VF.ix_tup (mw a1);have t1:ay (aP cb (aa (fOp bIx (aB 0) (aP cO (aa (aB 0) af))) af)) [.v (.tup (ps.map bdD)),.e,.e]=some ((ps.getD (fp ps) z0).1,[.v (.tup (ps.map bdD)),.e,.e]) :=
  aC (aQ (ag (au rfl (aQ rfl rfl (LT hs hn hl) rfl) rfl rfl i1) rfl) rfl (gw (t:=(ps.getD (fp ps) z0).1) (n:=(ps.getD (fp ps) z0).2) nf) rfl) rfl
 have st1:bb (fIf (ay (aP cb (aa (fOp bIx (aB 0) (aP cO (aa (aB 0) af))) af))) (aN df (aa (aB 0) af)) (fCB br (aa (aB 0) af))) 1 [.v (.tup (ps.map bdD)),.e,.e]=some (.nx [.v (.tup (ps.map bdD)),.v (.tup ((side ps).map bdD)),.e]):=by
  unfold side;cases e:(ps.getD (fp ps) z0).1 with
  |true=>
   rw[e]at t1;exact cC (mO t1 (aI rfl rfl (LS hn hl))) rfl
  |false=>
   rw[e]at t1;exact cC (ot t1 (aL rfl rfl rfl)) rfl
 have f2:=LT s1 s2 (by lia)
 have hf2:=HP s1;have hk:fp (side ps)<=((side ps).map bdD).length:=by rw[Za];lia
 have c1:oP (.tup ((side ps).map bdD)) (some ((fp (side ps):Nat):Int)) none=some (.tup (((side ps).drop (fp (side ps))).map bdD),false):=by rw[qf,vJ hk,List.map_drop]
 have c2:oP (.tup ((side ps).map bdD)) none (some ((fp (side ps):Nat):Int))=some (.tup (((side ps).take (fp (side ps))).map bdD),false):=by rw[qf,ND hk,List.map_take]
 have ct:gC (.tup (((side ps).drop (fp (side ps))).map bdD)) (.tup (((side ps).take (fp (side ps))).map bdD))=some (.tup ((cr ps).map bdD),false):=by
  rw[tZ (by rw[Za,Za,Yj,A1];lia)]
  unfold cr;rw[Yc]
 refine aJ (o:=.rt (.d (.tup ((cr ps).map bdD))) [.v (.tup (ps.map bdD)),.v (.tup ((side ps).map bdD)),.v (.int (fp (side ps):Nat))]) rfl ?_ rfl;refine aq st1 (aq (cC (aQ rfl rfl f2 rfl) rfl) ?_);exact aK (au (mN rfl rfl rfl rfl c1) (mN rfl rfl rfl rfl c2) rfl rfl ct)
def cs(s:aO):aO:=(s.1,if s.1 then cr s.2 else co s.2)
theorem P3(hs:s.2≠[])(hn:∀p∈s.2,Nm p.2)(hl:s.2.length<=100):di [stD s]=some (stD (cs s),false):=by
 obtain⟨r,ps⟩:=s;dsimp only at hs hn hl;refine aJ (o:=.rt (.d (stD (cs (r,ps)))) [.v (stD (r,ps))]) rfl ?_ rfl;cases r with|true=>exact aq (cW rfl rfl) (aK (bo (ag rfl (ag (aI (ag (au rfl rfl rfl rfl rfl) rfl) rfl (P2 hs hn hl)) rfl)) rfl (by show 2<=1000000;decide)))|false=>exact gB (f6 rfl (aK (bo (ag rfl (ag (aI (ag (au rfl rfl rfl rfl rfl) rfl) rfl (P1 hs hn hl)) rfl)) rfl (by show 2<=1000000;decide))))
def rk(s:aO):KB:=(s.1,(s.2.headD z0).2)
def P4(hs:s.2≠[])(hn:∀p∈s.2,Nm p.2):cP [stD s]=some (keyD (rk s),false):=by
 obtain⟨r,ps⟩:=s;dsimp only at hs hn;have h0:=dQ hs;have n0:=hn _ (Xb h0);have i0:bIx (.tup (ps.map bdD)) (.int 0)=some (bdD (ps.headD z0),false):=VF.ix_tup (mw (i:=0) h0);have nm:aP bP (aa (fOp bIx (fOp bIx (aB 0) (fC (.int 1))) (fC (.int 0))) af) [.v (stD (r,ps))]=some (.d (.str (ps.headD z0).2),[.v (stD (r,ps))]):=aQ (ag (au (au rfl rfl rfl rfl rfl) rfl rfl rfl i0) rfl) rfl (eZ (t:=(ps.headD z0).1) (n:=(ps.headD z0).2) n0) rfl;have eq:fOp bEq (fOp bIx (aB 0) (fC (.int 0))) (fC (.str "ring")) [.v (stD (r,ps))]=some (.d (.bl r),[.v (stD (r,ps))]):=by cases r<;>rfl
 refine aJ (o:=.rt (.d (keyD (rk (r,ps)))) [.v (stD (r,ps))]) rfl (aK (bo (ag eq (ag nm rfl)) rfl (by show 2<=1000000;decide))) rfl
end
end K17
namespace VF
open PySem L2 TS
section
variable {ks:List KB}
theorem Of(g h:Nat)(n:g≠h):Bf (cB ks) g h\/Bf (cB ks) h g:=by
 cases e1:cB ks g h with
 |true=>exact .inl (.inl e1)
 |false=>
  cases e2:cB ks h g with
  |true=>exact .inr (.inl e2)
  |false=>
   rcases Nat.lt_or_gt_of_ne n with z|z
   ·exact .inl (.inr ⟨e2,z⟩)
   ·exact .inr (.inr ⟨e1,z⟩)
def Og(h1:Bf (cB ks) a b)(h2:Bf (cB ks) b c):Bf (cB ks) a c:=by
 have asy:∀x y,cB ks x y=true->cB ks y x=false:=fun x y z=>by
  cases e:cB ks y x with
  |false=>rfl
  |true=>
   have:=mR z e;rw[mQ]at this;cases this
 rcases h1 with h1|⟨h1,l1⟩
 ·rcases h2 with h2|⟨h2,l2⟩
  ·exact .inl (mR h1 h2)
  ·rcases pC (q:=ks.getD c (false,Str.empty)) h1 with q|q
   ·exact .inl q
   ·have:cB ks c b=true:=q;rw[h2]at this;cases this
 ·rcases h2 with h2|⟨h2,l2⟩
  ·rcases pC (q:=ks.getD a (false,Str.empty)) h2 with q|q
   ·have:cB ks b a=true:=q;rw[h1]at this;cases this
   ·exact .inl q
  ·refine .inr ⟨?_,by lia⟩
   cases e:cB ks c a with
   |false=>rfl
   |true=>
    rcases pC (q:=ks.getD b (false,Str.empty)) e with q|q
    ·have:cB ks c b=true:=q;rw[h2]at this;cases this
    ·have:cB ks b a=true:=q;rw[h1]at this;cases this
theorem HQ:∀(l:List Nat),g∉l->l.Pairwise (Bf (cB ks))->∃m:List Nat,m.Perm (g::l)/\m.Pairwise (Bf (cB ks))
 |[],_,_=>⟨[g],List.Perm.refl _,A6 _ _⟩
 | h::l,n,s=>by
  obtain⟨s1,s2⟩:=Xe.mp s;have ne:g≠h:=fun z=>n (by simp[z])
  rcases Of (ks:=ks) g h ne with q|q
  ·refine⟨g::h::l,List.Perm.refl _,Xe.mpr ⟨fun b hb=>?_,s⟩⟩;rcases Wc.mp hb with rfl|hb
   ·exact q
   ·exact Og q (s1 b hb)
  ·obtain⟨m,p,sm⟩:=HQ l (fun z=>n (Vb _ z)) s2;refine⟨h::m,(p.cons h).trans (List.Perm.swap _ _ _),Xe.mpr ⟨fun b hb=>?_,sm⟩⟩;rcases Wc.mp (p.mem_iff.mp hb) with rfl|hb
   ·exact q
   ·exact s1 b hb
theorem LU:∀(l:List Nat),l.Nodup->∃m:List Nat,m.Perm l/\m.Pairwise (Bf (cB ks))
 |[],_=>⟨[],List.Perm.refl _,List.Pairwise.nil⟩
 | g::l,n=>by
  obtain⟨n1,n2⟩:=Qg.mp n;obtain⟨m,p,s⟩:=LU l n2;obtain⟨m',p',s'⟩:=HQ (ks:=ks) (g:=g) m (fun z=>n1 (p.mem_iff.mp z)) s;exact⟨m',p'.trans (p.cons g),s'⟩
def HR(ds:List D):∃γ:Array Nat,γ.Perm (Array.range ds.length)/\Sg (cB ks) γ 0 ds.length:=by
 obtain⟨m,p,s⟩:=LU (ks:=ks) (List.range ds.length) List.nodup_range;refine⟨m.toArray,Zh.mpr (by rw[Zn];exact p),fun i j g h _ hij hj e1 e2=>?_⟩
 have e1':m[i]?=some g:=by simpa using e1
 have e2':m[j]?=some h:=by simpa using e2
 obtain⟨i1,rfl⟩:=Zd.mp e1';obtain⟨i2,rfl⟩:=Zd.mp e2';exact C4.mp s i j i1 i2 hij
def qL(f:α->D)(k:α->KB)(l:List α):∃m:List α,m.Perm l/\ox (l.map k) (l.map f)=m.map f/\m.Pairwise (fun a b=>ltB (k b) (k a)=false):=by
 obtain⟨γ,p,g⟩:=HR (ks:=l.map k) (l.map f);rw[<-vT p g];rw[Za]at p g;have hγ:∀x∈γ.toList,x<l.length:=fun x hx=>by
  have:=(Zh.mp p).mem_iff.mp hx;rw[Zn]at this;exact Qj.mp this
 cases l with
 |nil=>
  have:γ.toList=[]:=Yf (by rw[Wd,p.size_eq,Zk];rfl)
  exact⟨[],List.Perm.refl _,by rw[this];rfl,List.Pairwise.nil⟩
 |cons x0 l0=>
  refine⟨γ.toList.map fun g=>(x0::l0).getD g x0,?_,?_,?_⟩
  ·have:=(Zh.mp p).map fun g=>(x0::l0).getD g x0;rw[Zn]at this;refine this.trans (CT ?_);refine Bh (by simp) fun i h1 h2=>?_
   rw[CN,List.getElem_range,Qa,Ya h2];rfl
  ·rw[Ze];refine Vh fun g hg=>?_;have hgl:=hγ g hg;refine ou ?_;rw[Yd,Ya hgl];show some _=some (f ((x0::l0).getD g x0));rw[Qa,Ya hgl];rfl
  ·rw[Xh];refine(uf (by rw[p.size_eq,Zk]) g).imp_of_mem fun {a b} ha hb h=>?_
   have ea:((x0::l0).map k).getD a (false,Str.empty)=k ((x0::l0).getD a x0):=by
    rw[Qa,Yd,Qa,Ya (hγ a ha)];rfl
   have eb:((x0::l0).map k).getD b (false,Str.empty)=k ((x0::l0).getD b x0):=by
    rw[Qa,Yd,Qa,Ya (hγ b hb)];rfl
   have asy:cB ((x0::l0).map k) b a=false:=by
    rcases h with h|h
    ·cases e:cB ((x0::l0).map k) b a with
     |false=>rfl
     |true=>
      have:=mR h e;rw[mQ]at this;cases this
    ·exact h.1
   unfold cB at asy;rw[ea,eb]at asy;exact asy
end
end VF
namespace K17
open PySem L2 VF VL
noncomputable section
def Kw{ps:List Bd}(hs:ps≠[])(hn:∀p∈ps,Nm p.2):co ps≠[]/\(∀p∈co ps,Nm p.2)/\(co ps).length=ps.length:=by
 have n0:=hn _ (Xb (dQ hs));unfold co;split
 ·rename_i c
  exact⟨by simp,fun p hp=>by rw[Wa.mp hp];exact n0,c.symm⟩
 ·split
  ·exact⟨hs,hn,rfl⟩
  ·refine⟨fun z=>hs ?_,zp hn,m6 ps⟩;have:=m6 ps;rw[z]at this;exact Yf this.symm
def Kx{ps:List Bd}(hs:ps≠[])(hn:∀p∈ps,Nm p.2):cr ps≠[]/\(∀p∈cr ps,Nm p.2)/\(cr ps).length=ps.length:=by
 obtain⟨s1,s2,s3⟩:=zq hs hn;have hf:=HP s1;have ln:(cr ps).length=ps.length:=by
  unfold cr;rw[Xa,Yj,A1];lia
 refine⟨fun z=>hs ?_,fun p hp=>?_,ln⟩
 ·rw[z]at ln;exact Yf ln.symm
 ·rcases Zc.mp hp with m|m
  ·exact s2 p (Cd m)
  ·exact s2 p (List.mem_of_mem_take m)
theorem zr(hs:s.2≠[])(hn:∀p∈s.2,Nm p.2):(cs s).2≠[]/\(∀p∈(cs s).2,Nm p.2)/\(cs s).2.length=s.2.length:=by
 obtain⟨r,ps⟩:=s;cases r with|true=>exact Kx hs hn|false=>exact Kw hs hn
def cn(ss:List aO):List aO:=(qL stD rk (ss.map cs)).choose
def zt(ss:List aO):(cn ss).Perm (ss.map cs)/\ox ((ss.map cs).map rk) ((ss.map cs).map stD)=(cn ss).map stD/\(cn ss).Pairwise (fun a b=>ltB (rk b) (rk a)=false):=(qL stD rk (ss.map cs)).choose_spec
theorem zu:∀{ss:List aO},(∀s∈ss,s.2≠[])->(∀s∈ss,∀p∈s.2,Nm p.2)->keysOf cP (ss.map stD)=some (ss.map rk)
 |[],_,_=>rfl
 | s::ss,h1,h2=>by
  have ih:=zu (ss:=ss) (fun x hx=>h1 x (Vb _ hx)) fun x hx=>h2 x (Vb _ hx);have e:=P4 (h1 s Va) (h2 s Va);rw[Yh,keysOf,e,ih];rfl
def HS{ss:List aO}(hne:∀s∈ss,s.2≠[])(hn:∀s∈ss,∀p∈s.2,Nm p.2)(hl:(ss.flatMap (·.2)).length<=60):um [.lst (ss.map stD)]=some (.tup ((cn ss).map stD),false):=by
 have hsl:=jC ss hne;have len:∀s∈ss,s.2.length<=100:=fun s hs=>by
  obtain⟨a,b,e⟩:=Cn hs;rw[e,Xg,Xf,Xa,Xa]at hl;lia
 have cm:b9 (gN 0) cj (aN di (aa (aB 0) af)) 1 (ss.map stD) [.e]=some ((ss.map cs).map stD,[.e]):=by
  have:=bZ (fg:=gN 0) (fc:=cj) (fe:=aN di (aa (aB 0) af)) (k:=1) stD (fun s=>stD (cs s)) [.e] ss fun s hs=>⟨[.v (stD s)],[.v (stD s)],.d (stD (cs s)),[.v (stD s)],[.v (stD s)],rfl,rfl,aI rfl rfl (P3 (hne s hs) (hn s hs) (len s hs)),rfl,rfl⟩;rw[this,Ze];rfl
 have ke:=zu (ss:=ss.map cs) (fun s hs=>by
  obtain⟨t,ht,rfl⟩:=Qb.mp hs;exact(zr (hne t ht) (hn t ht)).1) (fun s hs=>by
  obtain⟨t,ht,rfl⟩:=Qb.mp hs
  exact(zr (hne t ht) (hn t ht)).2.1)
 have so:xq cP [.lst ((ss.map cs).map stD)]=some (.lst ((cn ss).map stD),true):=by
  show(if ((ss.map cs).map stD).length<64 then(keysOf cP ((ss.map cs).map stD)).bind _ else none)=_;rw[Ag (by rw[Za,Za];lia)]
  rw[ke];show some (D.lst (ox ((ss.map cs).map rk) ((ss.map cs).map stD)),true)=_;rw[(zt ss).2.1]
 refine aJ (o:=.rt (.d (.tup ((cn ss).map stD))) [.v (.lst (ss.map stD))]) rfl (aK (aL (ag (aL (ag (bF (su rfl rfl) (rf (n:=100) (by rw[Za];lia) (by decide) rfl) cm) rfl) rfl so) rfl) rfl rfl)) rfl
end
end K17
namespace VF
open PySem L2
def m7(h1:ltS x y=false)(h2:ltS y x=false):x=y:=by
 rcases(jY 1).tri (a:=.str x) (b:=.str y) trivial with q|q|q
 ·injection q
 ·have:ltS x y=true:=q;rw[h1]at this;cases this
 ·have:ltS y x=true:=q;rw[h2]at this;cases this
def Ky(hy:ys≠[])(hz:zs≠[])(h:∀y,y∈ys↔y∈zs):ll ys=ll zs :=
 m7 (uL ((h _).mp (kx hy))) (uL ((h _).mpr (kx hz)))
def HU{u v:List Str}(h:a∉u):(u++a::v).idxOf a=u.length:=by
 rw[List.idxOf_append,Aj h,List.idxOf_cons_self];lia
end VF
namespace K17
open PySem L2 VF VL
noncomputable section
def Kz(a b:List Bd):dj (a++b)=dj b++dj a:=by unfold dj;rw[List.reverse_append,Yc]
def uN(ps:List Bd):nms (dj ps)=(nms ps).reverse:=by
 unfold nms dj;rw[Ze,<-List.map_reverse];rfl
def lc(a b:List Bd):nms (a++b)=nms a++nms b:=Yc ..
def P5(hm:ll (nms (u++(b,n)::v))=n)(hu:n∉nms u)(hv:n∉nms v):cr (u++(b,n)::v)=(false,n)::(if b then dj u++dj v else v++u):=by
 have f1:fp (u++(b,n)::v)=u.length:=by
  unfold fp;rw[hm,lc];have:=HU (v:=nms v) hu;rw[show(nms u).length=u.length from Za ..]at this;exact this
 have g1:(u++(b,n)::v).getD (fp (u++(b,n)::v)) z0=(b,n):=by
  rw[f1,Qa,Zi (Wb _),Nat.sub_self];rfl
 cases b with
 |false=>
  have sd:side (u++(false,n)::v)=u++(false,n)::v:=by unfold side;rw[g1];rfl
  unfold cr;rw[sd,f1,List.drop_left,List.take_left];rfl
 |true=>
  have sd:side (u++(true,n)::v)=dj v++(false,n)::dj u:=by
   unfold side;rw[g1];show dj (u++(true,n)::v)=_;rw[Kz,HL,Zf];rfl
  have hv':n∉nms (dj v):=by rw[uN];exact fun z=>hv (List.mem_reverse.mp z)
  have hm2:ll (nms (dj v++(false,n)::dj u))=n:=by
   refine Eq.trans (Ky ?_ ?_ fun y=>?_) hm
   ·rw[lc];simp[nms]
   ·rw[lc];simp[nms]
   ·rw[lc,lc];show y∈nms (dj v)++n::nms (dj u)↔y∈nms u++n::nms v;rw[uN,uN];simp only[Zc,Wc,List.mem_reverse];exact⟨fun z=>by rcases z with z|z|z<;>simp[z],fun z=>by rcases z with z|z|z<;>simp[z]⟩
  have f2:fp (dj v++(false,n)::dj u)=(dj v).length:=by
   unfold fp;rw[hm2,lc];have:=HU (v:=nms (dj u)) hv';rw[show(nms (dj v)).length=(dj v).length from Za ..]at this;exact this
  unfold cr;rw[sd,f2,List.drop_left,List.take_left];rfl
theorem KC{ps:List Bd}(nd:(nms ps).Nodup)(hl:ps.length≠1)(hs:ps≠[]):(ps.headD z0).2≠(ps.getLastD z0).2:=by
 cases ps with
 |nil=>exact absurd rfl hs
 |cons p r=>
  cases r with
  |nil=>exact absurd rfl hl
  |cons q r=>
   have hL:(q::r).getLastD z0∈q::r:=Xb (gn (by simp))
   intro z;refine(Qg.mp nd).1 ?_;have:(p::q::r).getLastD z0=(q::r).getLastD z0:=rfl;rw[this]at z;show p.2∈nms (q::r);have z':p.2=((q::r).getLastD z0).2:=z;rw[z'];exact Vj hL
theorem KD{ss:List aO}(nd:(ss.flatMap fun s=>nms s.2).Nodup)(ha:a∈ss)(hb:b∈ss)(h1:n∈nms a.2)(h2:n∈nms b.2):a=b:=by
 induction ss with
 |nil=>cases ha
 |cons s r ih=>
  rw[Xf,Zg]at nd;rcases Wc.mp ha with rfl|ha'
  ·rcases Wc.mp hb with rfl|hb'
   ·rfl
   ·exact absurd rfl (nd.2.2 n h1 n (Wj.mpr ⟨b,hb',h2⟩))
  ·rcases Wc.mp hb with rfl|hb'
   ·exact absurd rfl (nd.2.2 n h2 n (Wj.mpr ⟨a,ha',h1⟩))
   ·exact ih nd.2.1 ha' hb'
def KF{l m m':List aO}(hne:∀s∈l,s.2≠[])(nd:(l.flatMap fun s=>nms s.2).Nodup)(p:m.Perm l)(p':m'.Perm l)(h:m.Pairwise (fun a b=>ltB (rk b) (rk a)=false))(h':m'.Pairwise (fun a b=>ltB (rk b) (rk a)=false)):m=m':=by
 refine(p.trans p'.symm).eq_of_pairwise (fun a b ha hb h1 h2=>?_) h h';have ma:=p.mem_iff.mp ha;have mb:=p'.mem_iff.mp hb;have e:rk a=rk b:=by
  have t:∀x y:KB,ltB x y=false->ltB y x=false->x=y:=fun x y z1 z2=>by
   obtain⟨b1,x⟩:=x;obtain⟨b2,y⟩:=y;cases b1<;>cases b2<;>simp[ltB]at z1 z2 ⊢
   ·exact m7 z1 z2
   ·exact m7 z1 z2
  exact t _ _ h2 h1
 have hd:∀s:aO,s.2≠[]->(rk s).2∈nms s.2:=fun s hs=>Qb.mpr ⟨s.2.headD z0,Xb (dQ hs),rfl⟩;refine KD nd ma mb (hd a (hne a ma)) ?_;rw[e];exact hd b (hne b mb)
end
end K17
namespace K17
open PySem L2 VF VL
def zv(c:Nat):minus.cps.contains c=true↔c=45:=by
 rw[Array.contains_iff_mem,<-Array.mem_toList_iff,eX];simp
theorem KG(h:97<=c/\c<=122):minus.cps.contains c=false:=by
 cases e:minus.cps.contains c with|false=>rfl|true=>have:=(zv c).mp e;lia
theorem pP{l:List Nat}(h:∀c∈l,97<=c/\c<=122):l.takeWhile (fun c=>minus.cps.contains c)=[]:=by
 cases l with|nil=>rfl|cons c r=>rw[List.takeWhile_cons,KG (h c Va)];rfl
theorem HV(h:Nm p.2):Txt.stripChars (bd p) minus=p.2:=by
 obtain⟨t,n⟩:=p;have hl:∀c∈n.cps.toList,97<=c/\c<=122:=h.2.2;have hr:∀c∈n.cps.toList.reverse,97<=c/\c<=122:=fun c hc=>hl c (List.mem_reverse.mp hc);unfold Txt.stripChars;rw[PySem.W.stripBy_eq];refine zh ?_;unfold PySem.W.stripped;dsimp only;rw[Ag rfl,Ag rfl,StrLaws.strSub_toList];have g:(fun c=>minus.cps.contains c)=minus.cps.contains:=rfl;cases t with
 |false=>
  have e:(bd (false,n)).cps.toList=n.cps.toList:=rfl;rw[e,<-g,pP hl,Wg,List.drop_zero,pP hr,Wg];show List.take (n.length-0-0) n.cps.toList=n.cps.toList;exact Yk (by show n.cps.toList.length<=n.cps.size-0-0;rw[Wd];lia)
 |true=>
  have e:(bd (true,n)).cps.toList=45::n.cps.toList:=by
   show(minus++n).cps.toList=_;rw[Bu,A3,eX];rfl
  have tk:(45::n.cps.toList).takeWhile (fun c=>minus.cps.contains c)=[45]:=by
   rw[List.takeWhile_cons,(zv 45).mpr rfl,Ag rfl,pP hl]
  have len:(bd (true,n)).length=n.cps.toList.length+1:=by
   show(bd (true,n)).cps.size=_;rw[<-Wd,e,Qc]
  rw[e,<-g,tk];show List.take ((bd (true,n)).length-(List.takeWhile _ (List.drop 1 (45::n.cps.toList)).reverse).length-1) (List.drop 1 (45::n.cps.toList))=n.cps.toList;rw[List.drop_succ_cons,List.drop_zero,pP hr,Wg,len];exact Yk (by lia)
def HW(h:Nm p.2):xn (bdD p) [.str minus]=some (.str p.2,false):=by
 show(if (bd p).length<=1000000 then some (D.str (Txt.stripChars (bd p) minus),false) else none)=_;rw[Ag (kw h),HV h]
end K17
namespace VF
open PySem L2
def bG{ds:List D}{i:Nat}{d:D}(h:ds[i]?=some d):bIx (.tup ds) (.int i)=some (d,false):=VF.ix_tup (iX h)
def HX(ne:xs≠[])(pa:Pl 40 (.tup xs))(pb:Pl 40 (.tup ys))(h:c=true↔D.tup xs=D.tup ys):jX (.tup xs) (.tup ys)=some (.bl (!c),false):=by
 have e1:bNe (.tup xs) (.tup ys)=none:=by
  cases xs with|nil=>exact absurd rfl ne|cons _ _=>rfl
 unfold jX orD;rw[e1];unfold vH;dsimp only;have dc:∀i:Decidable (D.tup xs=D.tup ys),@decide _ i=c:=fun i=>by rw[Ye,decide_eq_true_eq];exact h.symm
 rw[Ag ⟨pa,pb⟩,dc];rfl
end VF
namespace K17
open PySem L2 VF VL VF22
theorem mx{j:Jnt}(h:j.length=1\/j.length=2):(∃a,j=[a])\/∃a b,j=[a,b]:=by
 cases j with
 |nil=>rcases h with z|z<;>cases z
 |cons a r=>
  cases r with
  |nil=>exact .inl ⟨a,rfl⟩
  |cons b r=>
   cases r with
   |nil=>exact .inr ⟨a,b,rfl⟩
   |cons c r=>
    rw[Qc,Qc,Qc]at h;lia
def rj(e:End)(es:Jnt):bIx (jD (e::es)) (.int 0)=some (eD e,false):=bG (i:=0) rfl
def HY(e f:End)(es:Jnt):bIx (jD (e::f::es)) (.int 1)=some (eD f,false):=bG (i:=1) rfl
def fK(es:List End):(aA es).length=es.length:=(aE es).2.length_eq
def bu(a b:End):aA [a,b]=aA [b,a]:=eY (List.Perm.swap b a [])
def m8(j:Jnt):ce [jD j]=some (.int (j.length:Int),false):=by
 show some (D.int (((j.map eD).length:Nat):Int),false)=_;rw[Za]
def J12(js:List Jnt):Prop:=∀j∈js,j.length=1\/j.length=2
def sJ(h:f st=some (r,s))(c:cont s r=some (.int i)):ay (fOp bEq f (fC (.int i))) st=some (true,s):=by
 refine aC (au h rfl c rfl (z:=(.bl true,false)) ?_) rfl;show some (D.bl (decide (V.int i=V.int i)),false)=_;rw[Ae rfl]
def wc(h:f st=some (r,s))(c:cont s r=some (.int i))(ne:i≠j):ay (fOp bEq f (fC (.int j))) st=some (false,s):=by
 refine aC (au h rfl c rfl (z:=(.bl false,false)) ?_) rfl;show some (D.bl (decide (V.int i=V.int j)),false)=_;rw[Af fun z=>ne (by injection z)]
def neE:jX (eD a) (eD b)=some (.bl (!decide (a=b)),false):=by
 refine HX (by simp) (mZ 38 a) (mZ 38 b) ?_
 rw[decide_eq_true_eq];exact⟨fun h=>by rw[h],fun h=>by have:=congrArg unE h;exact this⟩
end K17
namespace K17
open PySem L2 VF VL VF22
theorem iS:∀{js:List (List α)},js.flatten.Nodup->∀{j j':List α}{e:α},j∈js->j'∈js->e∈j->e∈j'->j=j'
 |[],_,_,_,_,h,_,_,_=>nomatch h
 | k::r,nd,j,j',e,h,h',he,he'=>by
  rw[Vg,Zg]at nd;obtain⟨_,n2,n3⟩:=nd;rcases Wc.mp h with a|a<;>rcases Wc.mp h' with b|b
  ·rw[a,b]
  ·exact absurd rfl (n3 e (a ▸ he) e (Wf.mpr ⟨j',b,he'⟩))
  ·exact absurd rfl (n3 e (b ▸ he') e (Wf.mpr ⟨j,a,he⟩))
  ·exact iS n2 a b he he'
theorem m9:∀{js:List (List α)},js.flatten.Nodup->∀{j:List α},j∈js->j.Nodup
 |[],_,_,h=>nomatch h
 | k::r,nd,j,h=>by
  rw[Vg,Zg]at nd;rcases Wc.mp h with rfl|h
  ·exact nd.1
  ·exact m9 nd.2.1 h
theorem ky:∀{js:List (List α)},js.flatten.Nodup->(∀j∈js,j≠[])->js.Nodup
 |[],_,_=>Wl
 | k::r,nd,h=>by
  rw[Vg,Zg]at nd;refine Qg.mpr ⟨fun hk=>?_,ky nd.2.1 fun j hj=>h j (Vb _ hj)⟩;cases e:k with
  |nil=>exact h k Va e
  |cons a t=>
   have:a∈k:=by rw[e];exact Va
   exact nd.2.2 a this a (Wf.mpr ⟨k,hk,this⟩) rfl
structure Js(js:List Jnt)(xs:List Str):Prop where
 ln:J12 js
 pf:js.flatten.Perm (xs.map zero++xs.map one)
 so:∀j∈js,aA j=j
 nx:xs.Nodup
section
variable {js:List Jnt}{xs:List Str}
def KJ(h:xs.Nodup):(xs.map zero++xs.map one).Nodup:=by
 refine Zg.mpr ⟨?_,?_,fun a ha b hb e=>?_⟩
 ·show List.Pairwise _ _;rw[Xh];exact h.imp fun n e=>n (congrArg Prod.fst e)
 ·show List.Pairwise _ _;rw[Xh];exact h.imp fun n e=>n (congrArg Prod.fst e)
 ·obtain⟨x,_,rfl⟩:=Qb.mp ha;obtain⟨y,_,rfl⟩:=Qb.mp hb;have:(0:Int)=1:=congrArg Prod.snd e;lia
def Js.nd(J:Js js xs):js.flatten.Nodup:=J.pf.nodup_iff.mpr (KJ J.nx)
def wd:e∈xs.map zero++xs.map one↔e.1∈xs/\(e.2=0\/e.2=1):=by
 obtain⟨n,i⟩:=e;constructor
 ·intro h;rcases Zc.mp h with h|h<;>(obtain⟨x,hx,e⟩:=Qb.mp h;cases e)
  ·exact⟨hx,.inl rfl⟩
  ·exact⟨hx,.inr rfl⟩
 ·rintro⟨h,h2⟩;dsimp only at h h2;rcases h2 with rfl|rfl
  ·exact Vf _ (Qb.mpr ⟨n,h,rfl⟩)
  ·exact Xd _ (Qb.mpr ⟨n,h,rfl⟩)
def Js.en(J:Js js xs):e∈js.flatten↔e.1∈xs/\(e.2=0\/e.2=1):=J.pf.mem_iff.trans wd
def Mt(js:List Jnt)(e f:End):Prop:=aA [e,f]∈js
def HZ(e f:End):e∈aA [e,f]:=(aE [e,f]).2.mem_iff.mpr (by simp)
def H9(e f:End):f∈aA [e,f]:=(aE [e,f]).2.mem_iff.mpr (by simp)
def Mt.sym(h:Mt js e f):Mt js f e:=by unfold Mt;rw[bu];exact h
def Mt.uni(J:Js js xs)(h:Mt js e f)(h':Mt js e g):f=g:=by
 have:=iS J.nd h h' (HZ e f) (HZ e g);have p:[e,f].Perm [e,g]:=(aE _).2.symm.trans ((CT this).trans (aE _).2);have:=List.Perm.cons_inv p;simpa using this.singleton_eq
def Mt.irr(J:Js js xs)(h:Mt js e e):False:=by
 have:=(aE [e,e]).2.nodup_iff.mp (m9 J.nd h);simp at this
def Mt.free(J:Js js xs)(h:Mt js e f)(h':[f]∈js):False:=by
 have:=iS J.nd h h' (H9 e f) (by simp)
 have:=congrArg List.length this;rw[fK]at this;simp at this
def Mt.end(J:Js js xs)(h:Mt js e f):f.1∈xs/\(f.2=0\/f.2=1):=J.en.mp (Wf.mpr ⟨_,h,H9 e f⟩)
def Ia(J:Js js xs)(h:[a,b]∈js)(he:e∈[a,b]):Mt js e (if a=e then b else a):=by
 have hs:=J.so _ h;by_cases c:a=e
 ·rw[Ag c,<-c];unfold Mt;rw[hs];exact h
 ·rw[Aj c];have:e=b:=by
   rcases Wc.mp he with z|z
   ·exact absurd z.symm c
   ·simpa using z
  rw[this];unfold Mt;rw[bu,hs];exact h
def dm(e:End):Bd:=(decide (e.2=1),e.1)
def ng(h:e.2=0\/e.2=1):leE (dm e)=e:=by
 obtain⟨n,i⟩:=e;dsimp only at h;rcases h with rfl|rfl<;>rfl
def P6(p:Bd):leE p≠riE p:=fun h=>by
 obtain⟨t,n⟩:=p;have:=congrArg Prod.snd h;cases t<;>(simp[leE,riE]at this)
def P7(h:e.2=0\/e.2=1)(hn:e.1=q.2):e=leE q\/e=riE q:=by
 obtain⟨n,i⟩:=e;obtain⟨t,m⟩:=q;dsimp only at h hn;subst hn;rcases h with rfl|rfl<;>cases t
 ·exact .inl rfl
 ·exact .inr rfl
 ·exact .inr rfl
 ·exact .inl rfl
def Ib(p:Bd):(leE p).2=0\/(leE p).2=1:=by obtain⟨t,n⟩:=p;cases t<;>simp[leE]
def Ic(p:Bd):(riE p).2=0\/(riE p).2=1:=by obtain⟨t,n⟩:=p;cases t<;>simp[riE]
def Id(h1:ps[i]?=some p)(h2:ps[i+1]?=some q):Jn p q∈inn ps:=by
 refine Qb.mpr ⟨(p,q),Xb (i:=i) ?_,rfl⟩;rw[By];exact⟨h1,by rw[Wi,Cz];exact h2⟩
structure Wk(js:List Jnt)(xs:List Str)(S:Str->Prop)(ps:List Bd):Prop where
 ne:ps≠[]
 ij:∀j∈inn ps,j∈js
 nd:(ps.map (·.2)).Nodup
 xs:∀p∈ps,p.2∈xs
 ns:∀p∈ps,¬ S p.2
variable {S:Str->Prop}{ps:List Bd}
def Ie(nd:(ps.map (·.2)).Nodup){i k:Nat}{p q:Bd}(h1:ps[i]?=some p)(h2:ps[k]?=some q)(e:p.2=q.2):i=k:=by
 have hi:i<(ps.map (·.2)).length:=by rw[Za];exact(Zd.mp h1).1
 refine(List.getElem?_inj hi nd).mp ?_;rw[Yd,Yd,h1,h2];show some p.2=some q.2;rw[e]
def Ig(J:Js js xs)(W:Wk js xs S ps){e:End}(m:Mt js (riE (ps.getLastD z0)) e)(hb:e≠leE (ps.headD z0)):e.1∉ps.map (·.2):=by
 intro hm;obtain⟨q,hq,hn⟩:=Qb.mp hm;obtain⟨i,hi⟩:=Vl hq;have hl:=gn W.ne;have li:=(Zd.mp hi).1;rcases P7 (m.end J).2 hn.symm with z|z
 ·cases i with
  |zero=>
   rw[dQ W.ne]at hi;cases hi;exact hb z
  |succ k=>
   have hk:ps[k]?=some ps[k]:=Ya (by lia)
   have m2:Mt js (riE ps[k]) (leE q):=W.ij _ (Id hk hi);rw[<-z]at m2;have e1:=Mt.uni J m2.sym m.sym;have:=Ie W.nd hk hl (congrArg Prod.fst e1);lia
 ·by_cases c:i=ps.length-1
  ·rw[c,hl]at hi;cases hi;rw[z]at m;exact m.irr J
  ·obtain⟨r,hk⟩:∃r,ps[i+1]?=some r:=⟨_,Ya (by lia)⟩
   have m2:Mt js (riE q) (leE r):=W.ij _ (Id hi hk);rw[z]at m;have e1:=Mt.uni J m2 m.sym;have:=Ie W.nd hk hl (congrArg Prod.fst e1);rw[this,hl]at hk;have h2:=Option.some.inj hk;rw[<-h2]at e1;exact P6 _ e1
def Wk.step(J:Js js xs)(cl:∀e f,Mt js e f->S f.1->S e.1)(W:Wk js xs S ps)(m:Mt js (riE (ps.getLastD z0)) e)(hb:e≠leE (ps.headD z0)):Wk js xs S (ps++[dm e])/\leE (dm e)=e:=by
 have nn:=Ig J W m hb;have le:=ng (m.end J).2;have lm:ps.getLastD z0∈ps:=Xb (gn W.ne);refine⟨⟨by simp,fun j hj=>?_,?_,fun p hp=>?_,fun p hp=>?_⟩,le⟩
 ·rw[zn ps _ [] W.ne]at hj;rcases Zc.mp hj with hj|hj
  ·exact W.ij j hj
  ·have:j=Jn (ps.getLastD z0) (dm e):=by
    rcases Wc.mp hj with z|z
    ·exact z
    ·cases z
   rw[this];unfold Jn;rw[le];exact m
 ·rw[Yc,Zg]
  exact⟨W.nd,by simp,fun a ha b hb z=>by
   have:b=e.1:=Wa.mp hb;subst this;subst z
   exact nn ha⟩
 ·rcases Zc.mp hp with hp|hp
  ·exact W.xs p hp
  ·rw[Wa.mp hp];exact(m.end J).1
 ·rcases Zc.mp hp with hp|hp
  ·exact W.ns p hp
  ·rw[Wa.mp hp];exact fun z=>W.ns _ lm (cl _ _ m z)
def Wk.len(W:Wk js xs S ps):ps.length<=xs.length:=by
 have:=jS (ps.map (·.2)) xs W.nd fun x hx=>by
  obtain⟨p,hp,rfl⟩:=Qb.mp hx;exact W.xs p hp
 rwa [Za]at this
end
def nmz(ss:List aO):List Str:=(ss.flatMap (·.2)).map (·.2)
section
variable {js:List Jnt}{xs:List Str}{ss:List aO}
def KK{bs:List Bd}:e∈iR bs↔e.1∈bs.map (·.2)/\(e.2=0\/e.2=1):=(jH bs).mem_iff.trans wd
def sK(ne:∀s∈ss,s.2≠[]):e∈(ss.flatMap sj).flatten↔e.1∈nmz ss/\(e.2=0\/e.2=1):=(lb ne).mem_iff.trans KK
def gq(J:Js js xs)(ne:∀s∈ss,s.2≠[])(sub:∀j∈ss.flatMap sj,j∈js):∀e f,Mt js e f->f.1∈nmz ss->e.1∈nmz ss:=by
 intro e f m hf;have h1:=(sK ne).mpr ⟨hf,(m.end J).2⟩;obtain⟨j,hj,hfj⟩:=Wf.mp h1;have:=iS J.nd (sub j hj) m hfj (H9 e f);have h2:e∈(ss.flatMap sj).flatten:=Wf.mpr ⟨j,hj,by rw[this];exact HZ e f⟩
 exact((sK ne).mp h2).1
def Ex(J:Js js xs)(ne:∀s∈ss,s.2≠[])(sub:∀j∈ss.flatMap sj,j∈js)(pm:(nmz ss).Perm xs):(ss.flatMap sj).Perm js:=by
 have pf:((ss.flatMap sj).flatten).Perm js.flatten:=((lb ne).trans ((jH _).trans ((pm.map zero).append (pm.map one)))).trans J.pf.symm;have nd:=pf.nodup_iff.mpr J.nd;have e1:∀j∈ss.flatMap sj,j≠[]:=fun j hj=>by
  obtain⟨s,_,h⟩:=Wj.mp hj;exact HI h
 have e2:∀j∈js,j≠[]:=fun j hj z=>by
  have:=J.ln j hj;rw[z]at this;simp at this
 refine(Vm (ky nd e1) (ky J.nd e2)).mpr fun j=>⟨sub j,fun hj=>?_⟩;cases e:j with
 |nil=>exact absurd e (e2 j hj)
 |cons a t=>
  have ha:a∈j:=by rw[e];exact Va
  obtain⟨j',hj',ha'⟩:=Wf.mp (pf.mem_iff.mpr (Wf.mpr ⟨j,hj,ha⟩));rw[<-e,iS J.nd hj (sub j' hj') ha ha'];exact hj'
end
end K17
namespace K17
open PySem L2 VF VL VF22
def kE(e:End):List Key:=[.inr e.1,.inl e.2]
def xR(h:kE a=kE b):a=b:=by
 obtain⟨n,i⟩:=a;obtain⟨m,j⟩:=b;unfold kE at h;dsimp only at h;injection h with h1 h2;injection h2 with h3 _;injection h1 with h1;injection h3 with h3;rw[h1,h3]
section
variable {κ:Type}[DecidableEq κ]
def nh{kvs:List (κ×D)}(h:k∉kvs.map (·.1)):cg (kvs++[(k,d)]) k=some d:=by
 unfold cg;rw[List.find?_append];have:kvs.find? (fun kv=>decide (kv.1=k))=none:=List.find?_eq_none.mpr fun x hx z=>h (Qb.mpr ⟨x,hx,Ak z⟩);rw[this];rw[Option.none_or,Zm,Ae rfl];rfl
def cN{kvs:List (κ×D)}{k k':κ}{d d':D}(h:cg kvs k=some d):cg (kvs++[(k',d')]) k=some d:=by
 unfold cg at h ⊢;obtain⟨x,h1,h2⟩:=Vc.mp h;rw[List.find?_append,h1];show some x.2=_;rw[h2]
def zw{kvs:List (κ×D)}:(cg kvs k).isSome=decide (k∈kvs.map (·.1)):=by
 unfold cg;rw[BC];by_cases c:k∈kvs.map (·.1)
 ·rw[Ae c];obtain⟨x,hx,e⟩:=Qb.mp c;exact List.find?_isSome.mpr ⟨x,hx,Ae e⟩
 ·rw[Af c];have:kvs.find? (fun kv=>decide (kv.1=k))=none:=List.find?_eq_none.mpr fun x hx z=>c (Qb.mpr ⟨x,hx,Ak z⟩);rw[this];rfl
def pQ{kvs:List (κ×D)}(h:k∉kvs.map (·.1)):gZ kvs k d=kvs++[(k,d)]:=by
 unfold gZ;rw[Aj];intro z;obtain⟨x,hx,e⟩:=List.any_eq_true.mp z;exact h (Qb.mpr ⟨x,hx,Ak e⟩)
def we{kvs:List (κ×D)}:∀x,x∈(gZ kvs k d).map (·.1)↔x=k\/x∈kvs.map (·.1):=fun x=>by
 unfold gZ;by_cases c:(kvs.any fun kv=>decide (kv.1=k))=true
 ·rw[Ag c,Ze];have e:(kvs.map ((fun x:κ×D=>x.1) ∘ fun kv=>if kv.1=k then(kv.1,d) else kv))=kvs.map (·.1):=Vh fun kv _=>by
   show(if kv.1=k then(kv.1,d) else kv).1=kv.1;split<;>rfl
  rw[e];refine⟨.inr,fun h=>h.elim (fun z=>?_) id⟩;obtain⟨y,hy,e⟩:=List.any_eq_true.mp c;rw[z];exact Qb.mpr ⟨y,hy,Ak e⟩
 ·rw[Aj c,Yc,Zc];show x∈_\/x∈[k]↔_;rw[Wa];exact Or.comm
def zx{kvs:List (κ×D)}:(gZ kvs k d).length<=kvs.length+1:=by
 unfold gZ;split
 ·rw[Za];lia
 ·rw[Xa];exact Wb _
end
def Ey[DecidableEq κ]{kvs:List (κ×D)}(h:k∉kvs.map (·.1)):gZ (kvs++[(k,d)]) k d'=kvs++[(k,d')]:=by
 have c:((kvs++[(k,d)]).any fun kv=>decide (kv.1=k))=true:=by rw[List.any_append];simp
 unfold gZ;rw[Ag c,Yc];congr 1
 ·refine(Vh fun kv hk=>?_).trans (Yn kvs);exact Aj fun z=>h (Qb.mpr ⟨kv,hk,z⟩)
 ·show [if k=k then(k,d') else(k,d)]=_;rw[Ag rfl]
structure Sd(js:List Jnt)(kvs:List (List Key×D)):Prop where
 ks:kvs.map (·.1)=js.flatten.map kE
 a1:∀a,[a]∈js->cg kvs (kE a)=some .non
 a2:∀a b,[a,b]∈js->cg kvs (kE a)=some (eD b)/\cg kvs (kE b)=some (eD a)
section
variable {js:List Jnt}{xs:List Str}{kvs:List (List Key×D)}{S:Str->Prop}
def uO(h:cg kvs (kE e)=some d):jL (.dt kvs) (eD e)=some (d,false):=by
 show((some (cg kvs (kE e))).bind fun o=>o.bind fun d=>some (d,false))=_;rw[h];rfl
def Sd.two(J:Js js xs)(T:Sd js kvs)(h:e∈js.flatten):([e]∈js/\cg kvs (kE e)=some .non)\/∃f,Mt js e f/\cg kvs (kE e)=some (eD f):=by
 obtain⟨j,hj,he⟩:=Wf.mp h;rcases mx (J.ln j hj) with⟨a,rfl⟩|⟨a,b,rfl⟩
 ·rw[Wa.mp he];exact .inl ⟨hj,T.a1 a hj⟩
 ·obtain⟨h1,h2⟩:=T.a2 a b hj;have m:Mt js a b:=by unfold Mt;rw[J.so _ hj];exact hj
  rcases Wc.mp he with z|z
  ·rw[z];exact .inr ⟨b,m,h1⟩
  ·rw[Wa.mp z];exact .inr ⟨a,m.sym,h2⟩
def Ih(h:kvs.length<100000):mP (.dt kvs) (eD e) d=some (.dt (gZ kvs (kE e) d)):=by
 show(if kvs.length<100000 then some (D.dt (gZ kvs (kE e) d)) else none)=_;rw[Ag h]
abbrev bS(js:List Jnt)(k:List (List Key×D))(s2:Sl):En:=[.v (.tup (js.map jD)),.o (.dt k),s2]
def og(h12:J12 js)(nd:js.flatten.Nodup)(hl:js.flatten.length<1000):∃kvs,iz [.tup (js.map jD)]=some (.dt kvs,true)/\Sd js kvs:=by
 obtain⟨sf,el,k,t2,rfl,T,i2⟩:=bM (fg:=gN 2) (B:=fS) jD js (fun g st=>∃k s2,st=(bS js k s2)/\Sd g k/\s2.isIo=false)
  (by
   rintro g j r st ha ⟨k,s2,rfl,T,i2⟩;have e1:js.flatten=(g.flatten++j)++r.flatten:=by rw[ha,Qh,Vg];simp
   rw[e1,Zg]at nd;rw[e1,Xa,Xa]at hl;have nd:=nd.1;have kl:k.length=g.flatten.length:=by
    have:=congrArg List.length T.ks;rwa [Za,Za]at this
   have hk:∀e,e∉g.flatten->kE e∉k.map (·.1):=fun e he z=>by
    rw[T.ks]at z;obtain⟨f,hf,e'⟩:=Qb.mp z;exact he (xR e' ▸ hf)
   rw[Zg]at nd;rcases mx (h12 j (by rw[ha];simp)) with⟨a,rfl⟩|⟨a,b,rfl⟩
   ·have na:=hk a fun z=>nd.2.2 a z a (by simp) rfl
    have v:∀(o:D)(f:FE),fIf (ay (fOp bEq (fCB ce (aa (aB 2) af)) (fC (.int 2)))) f (fC .non) [.v (.tup (js.map jD)),.o o,.v (jD [a])]=some (.d .non,[.v (.tup (js.map jD)),.o o,.v (jD [a])]):=fun o f=>ot (wc (i:=1) (aL rfl rfl (m8 [a])) rfl (by decide)) rfl
    have il:bIx (jD [a]) (.int (-1))=some (eD a,false):=VF.ix_tup (kZ (xs:=[a]) rfl);refine⟨(bS js k (.v (jD [a]))),(bS js (k++[(kE a,.non)]) (.v (jD [a]))),bp (t:=s2) rfl i2,?_,k++[(kE a,.non)],.v (jD [a]),rfl,⟨?_,fun c hc=>?_,fun c d hc=>?_⟩,rfl⟩
    ·refine aq (iG (v _ _) rfl rfl rfl (au rfl rfl rfl rfl (rj a [])) rfl rfl rfl (by rw[Ih (by lia),pQ na])) ?_
     exact iG (v _ _) rfl rfl rfl (au rfl (qI rfl rfl rfl) rfl rfl il) rfl rfl rfl (by rw[Ih (by rw[Xa,We];lia),Ey na])
    ·rw[Yc,T.ks,Qh,Yc];rfl
    ·rcases Zc.mp hc with z|z
     ·exact cN (T.a1 c z)
     ·cases Wa.mp z;exact nh na
    ·rcases Zc.mp hc with z|z
     ·exact⟨cN (T.a2 c d z).1,cN (T.a2 c d z).2⟩
     ·cases Wa.mp z
   ·have na:=hk a fun z=>nd.2.2 a z a (by simp) rfl
    have nb:=hk b fun z=>nd.2.2 b z b (by simp) rfl
    have ab:a≠b:=fun z=>by
     have:=nd.2.1;rw[z]at this;simp at this
    have nb2:kE b∉(k++[(kE a,eD b)]).map (·.1):=by
     rw[Yc];intro z;rcases Zc.mp z with z|z
     ·exact nb z
     ·exact ab (xR (Wa.mp z).symm)
    have il:bIx (jD [a,b]) (.int (-1))=some (eD b,false):=VF.ix_tup (kZ (xs:=[a,b]) rfl);have v1:∀o:D,fIf (ay (fOp bEq (fCB ce (aa (aB 2) af)) (fC (.int 2)))) (fOp bIx (aB 2) (fC (.int 1))) (fC .non) [.v (.tup (js.map jD)),.o o,.v (jD [a,b])]=some (.d (eD b),[.v (.tup (js.map jD)),.o o,.v (jD [a,b])]):=fun o=>mO (sJ (i:=2) (aL rfl rfl (m8 [a,b])) rfl) (au rfl rfl rfl rfl (HY a b []));have v2:∀o:D,fIf (ay (fOp bEq (fCB ce (aa (aB 2) af)) (fC (.int 2)))) (fOp bIx (aB 2) (fC (.int 0))) (fC .non) [.v (.tup (js.map jD)),.o o,.v (jD [a,b])]=some (.d (eD a),[.v (.tup (js.map jD)),.o o,.v (jD [a,b])]):=fun o=>mO (sJ (i:=2) (aL rfl rfl (m8 [a,b])) rfl) (au rfl rfl rfl rfl (rj a [b]));refine⟨(bS js k (.v (jD [a,b]))),(bS js ((k++[(kE a,eD b)])++[(kE b,eD a)]) (.v (jD [a,b]))),bp (t:=s2) rfl i2,?_,(k++[(kE a,eD b)])++[(kE b,eD a)],.v (jD [a,b]),rfl,⟨?_,fun c hc=>?_,fun c d hc=>?_⟩,rfl⟩
    ·refine aq (iG (v1 _) rfl rfl rfl (au rfl rfl rfl rfl (rj a [b])) rfl rfl rfl (by rw[Ih (by lia),pQ na])) ?_
     exact iG (v2 _) rfl rfl rfl (au rfl (qI rfl rfl rfl) rfl rfl il) rfl rfl rfl (by rw[Ih (by rw[Xa,We];lia),pQ nb2])
    ·rw[Yc,Yc,T.ks,Qh,Yc,Zf];rfl
    ·rcases Zc.mp hc with z|z
     ·exact cN (cN (T.a1 c z))
     ·cases Wa.mp z
    ·rcases Zc.mp hc with z|z
     ·exact⟨cN (cN (T.a2 c d z).1),cN (cN (T.a2 c d z).2)⟩
     ·cases Wa.mp z
      exact⟨cN (nh na),nh nb2⟩)
  js [] (bS js [] .e) rfl ⟨[],.e,rfl,⟨rfl,(fun a hj=>by cases hj),fun a b hj=>by cases hj⟩,rfl⟩
 exact⟨k,aJ (o:=.rt (.s 1) (bS js k t2)) rfl (aq rfl (aq (cS (db rfl rfl) el) rfl)) rfl,T⟩
def LV(p:Bd):riE p=((leE p).1,1-(leE p).2):=by obtain⟨t,n⟩:=p;cases t<;>rfl
theorem zy(h:Nm p.2):kT [eD (leE p)]=some (bdD p,false):=by
 obtain⟨t,n⟩:=p;have i0:bIx (eD (leE (t,n))) (.int 0)=some (bdD (false,n),false):=bG (i:=0) rfl;have i1:bIx (eD (leE (t,n))) (.int 1)=some (.int (if t then 1 else 0),false):=bG (i:=1) rfl;refine aJ (o:=.rt (.d (bdD (t,n))) [.v (eD (leE (t,n)))]) rfl (aK ?_) rfl;cases t with|false=>exact mO (sJ (i:=0) (au rfl rfl rfl rfl i1) rfl) (au rfl rfl rfl rfl i0)|true=>exact ot (wc (i:=1) (au rfl rfl rfl rfl i1) rfl (by decide)) (aQ (ag (au rfl rfl rfl rfl i0) rfl) rfl (xP (t:=false) h) rfl)
def sL(p:Bd):mU [eD (leE p)]=some (eD (riE p),false):=by
 have i0:bIx (eD (leE p)) (.int 0)=some (.str (leE p).1,false):=bG (i:=0) rfl;have i1:bIx (eD (leE p)) (.int 1)=some (.int (leE p).2,false):=bG (i:=1) rfl;rw[LV];exact aJ (o:=.rt (.d (eD ((leE p).1,1-(leE p).2))) [.v (eD (leE p))]) rfl (aK (bo (ag (au rfl rfl rfl rfl i0) (ag (au rfl (au rfl rfl rfl rfl i1) rfl rfl rfl) rfl)) rfl (by simp))) rfl
theorem wf{ps:List Bd}(h:ps≠[]):(ps++[q]).headD z0=ps.headD z0:=by
 cases ps with|nil=>exact absurd rfl h|cons _ _=>rfl
open Classical in
noncomputable def wkF(M:End->End->Prop)(b:End):Nat->List Bd->List Bd
 |0,ps=>ps
 |n+1,ps=>if h:∃f,M (riE (ps.getLastD z0)) f/\f≠b then wkF M b n (ps++[dm h.choose]) else ps
structure Fd(js:List Jnt)(xs:List Str)(S:Str->Prop)(b:End)(ps:List Bd):Prop where
 wk:Wk js xs S ps
 hd:leE (ps.headD z0)=b
 la:[riE (ps.getLastD z0)]∈js\/Mt js (riE (ps.getLastD z0)) b
abbrev wS(b:End)(kvs:List (List Key×D))(ps:List Bd)(d:D):En:=[.v (eD b),.v (.dt kvs),.o (.lst (ps.map bdD)),.v d]
def uP(J:Js js xs)(T:Sd js kvs)(cl:∀e f,Mt js e f->S f.1->S e.1)(nm:∀x∈xs,Nm x)(hx:xs.length<=60)(hb:b∈js.flatten)(hs:¬ S b.1):gc [eD b,.dt kvs]=some (.tup ((wkF (Mt js) b 69 [dm b]).map bdD),false)/\Fd js xs S b (wkF (Mt js) b 69 [dm b]):=by
 have b2:=J.en.mp hb;have w0:Wk js xs S [dm b]:=⟨by simp,(fun j hj=>by cases hj),by simp,fun p hp=>by rw[Wa.mp hp];exact b2.1,fun p hp=>by rw[Wa.mp hp];exact hs⟩
 have nx:∀ps,Wk js xs S ps->∃d,cg kvs (kE (riE (ps.getLastD z0)))=some d/\(([riE (ps.getLastD z0)]∈js/\d=.non)\/∃f,Mt js (riE (ps.getLastD z0)) f/\d=eD f):=fun ps W=>by
  rcases Sd.two J T (J.en.mpr ⟨W.xs _ (Xb (gn W.ne)),Ic _⟩) with⟨h1,h2⟩|⟨g,h1,h2⟩
  ·exact⟨_,h2,.inl ⟨h1,rfl⟩⟩
  ·exact⟨_,h2,.inr ⟨g,h1,rfl⟩⟩
 obtain⟨d0,g0,h0⟩:=nx _ w0;have g0:cg kvs (kE (riE (dm b)))=some d0:=g0
 let I:Nat->En->Prop:=fun m st=>∃ps d,st=(wS b kvs ps d)/\Wk js xs S ps/\leE (ps.headD z0)=b/\(([riE (ps.getLastD z0)]∈js/\d=.non)\/∃f,Mt js (riE (ps.getLastD z0)) f/\d=eD f)/\wkF (Mt js) b m ps=wkF (Mt js) b 69 [dm b]/\m=70-ps.length
 obtain⟨sf,ew,ps,d,rfl,fd,fe⟩:=tW (f:=lw (ay (fOp (oM true) (aB 3) (fC .non))) (ay (fOp jX (aB 3) (aB 0)))) (B:=gK) I
  (fun st=>∃ps d,st=(wS b kvs ps d)/\Fd js xs S b ps/\ps=wkF (Mt js) b 69 [dm b]) (by
   rintro m st ⟨ps,d,rfl,W,hd,h,hw,rfl⟩;have wl:=W.len;have e70:70-ps.length=(69-ps.length)+1:=by lia
   rw[e70,wkF]at hw;rcases h with⟨h,rfl⟩|⟨f,m,rfl⟩
   ·rw[dif_neg fun z=>(AN z).1.sym.free J h]at hw;exact .inl ⟨_,LI (aC (au rfl rfl rfl rfl rfl) rfl),ps,.non,rfl,⟨W,hd,.inl h⟩,hw⟩
   ·have t1:ay (fOp (oM true) (aB 3) (fC .non)) (wS b kvs ps (eD f))=some (true,(wS b kvs ps (eD f))):=aC (au rfl rfl rfl rfl rfl) rfl;have t2:ay (fOp jX (aB 3) (aB 0)) (wS b kvs ps (eD f))=some (!decide (f=b),(wS b kvs ps (eD f))):=aC (au rfl rfl rfl rfl neE) rfl;by_cases q:f=b
    ·rw[dif_neg fun z=>(AN z).2 ((Mt.uni J (AN z).1 m).trans q)]at hw;exact .inl ⟨_,r6 t1 (eS t2 (by rw[Ae q];rfl)),ps,eD f,rfl,⟨W,hd,.inr (q ▸ m)⟩,hw⟩
    ·right;have hz:∃g,Mt js (riE (ps.getLastD z0)) g/\g≠b:=⟨f,m,q⟩;rw[dif_pos hz,Mt.uni J hz.choose_spec.1 m]at hw;obtain⟨W2,le⟩:=W.step J cl (e:=f) m (by rw[hd];exact q)
     have l2:=W2.len;rw[Xa,We]at l2;have np:Nm (dm f).2:=nm _ (W2.xs _ (by simp))
     have be:=zy np;have ac:=sL (dm f);rw[le]at be ac;have la:(ps++[dm f]).getLastD z0=dm f:=v9 ps _ z0;obtain⟨d,h1,h2⟩:=nx _ W2;have h1:cg kvs (kE (riE (dm f)))=some d:=by rw[<-h1,la]
     refine⟨_,(wS b kvs (ps++[dm f]) d),69-ps.length,r6 t1 (eS t2 (by rw[Af q];rfl)),?_,by lia,ps++[dm f],d,rfl,W2,by rw[wf W.ne];exact hd,h2,hw,by rw[Xa,We];lia⟩
     refine aq (s:=(wS b kvs (ps++[dm f]) (eD f))) (bV (iM rfl rfl rfl (ag (aI rfl rfl be) rfl) rfl rfl rfl (dJ (by rw[Za];lia)) (by unfold wS;rw[Yc];rfl))) ?_
     exact cC (au rfl (aI rfl rfl ac) rfl rfl (uO h1)) rfl)
  100 69 (wS b kvs [dm b] d0) (by lia) ⟨[dm b],d0,rfl,w0,ng b2.2,h0,rfl,rfl⟩
 rw[<-fe];refine⟨?_,fd⟩;have be:=zy (p:=dm b) (nm _ b2.1);have ac:=sL (dm b);rw[ng b2.2]at be ac;refine aJ (o:=.rt (.d (.tup (ps.map bdD))) (wS b kvs ps d)) rfl ?_ rfl;refine aq (dY (jG (ag (aI rfl rfl be) rfl) rfl (by simp)) rfl) ?_
 refine aq (cC (au rfl (aI rfl rfl ac) rfl rfl (uO g0)) rfl) ?_;exact aq ew (aK (aL rfl rfl rfl))
end
end K17
namespace K17
open PySem L2 VF VL VF22
section
variable {js:List Jnt}{xs:List Str}{kvs:List (List Key×D)}
def Ez(T:Sd js kvs)(hl:js.flatten.length<64):lM [.dt kvs]=some (.lst ((aA js.flatten).map eD),true):=by
 have ek:(kvs.map fun kv=>D.tup (kv.1.map fH))=js.flatten.map eD:=by
  have:(kvs.map fun kv=>D.tup (kv.1.map fH))=(kvs.map (·.1)).map fun k=>D.tup (k.map fH):=by rw[Ze];rfl
  rw[this,T.ks,Ze];rfl
 have:=d8 (d:=.lst (js.flatten.map eD)) js.flatten hl rfl;unfold bO at this;unfold lM;dsimp only[pA];rw[ek];exact this
noncomputable def isF(js:List Jnt)(e:End):Bool:=decide ([e]∈js)
noncomputable def fr(js:List Jnt):List End:=(aA js.flatten).filter (isF js)
def fr_mem:f∈fr js↔[f]∈js:=by
 unfold fr;rw[Wh,(aE js.flatten).2.mem_iff];exact⟨fun h=>Ak h.2,fun h=>⟨Wf.mpr ⟨[f],h,by simp⟩,Ae h⟩⟩
def zz(J:Js js xs)(T:Sd js kvs)(h:e∈js.flatten)(h1:aB i st=some (r,st))(h2:cont st r=some (.dt kvs))(h3:f st=some (.d (eD e),st)):ay (fOp (oM false) (fOp jL (aB i) f) (fC .non)) st=some (isF js e,st):=by
 rcases Sd.two J T h with⟨h4,h5⟩|⟨g,h4,h5⟩
 ·rw[show isF js e=true from Ae h4];exact aC (au (au h1 h3 h2 rfl (uO h5)) rfl rfl rfl rfl) rfl
 ·rw[show isF js e=false from Af fun z=>h4.sym.free J z];exact aC (au (au h1 h3 h2 rfl (uO h5)) rfl rfl rfl rfl) rfl
def EA(J:Js js xs)(T:Sd js kvs):b9 (gN 0) jq jr 1 ((aA js.flatten).map eD) [.e,.o (.dt kvs)]=some ((fr js).map eD,[.e,.o (.dt kvs)]) :=
 dS (fg:=gN 0) (fc:=jq) (fe:=jr) (k:=1) eD eD (isF js) [.e,.o (.dt kvs)] (aA js.flatten) fun e he=>⟨[.v (eD e),.o (.dt kvs)],[.v (eD e),.o (.dt kvs)],rfl,zz J T ((aE js.flatten).2.mem_iff.mp he) rfl rfl rfl,fun _=>rfl,fun _=>⟨.d (eD e),[.v (eD e),.o (.dt kvs)],[.v (eD e),.o (.dt kvs)],rfl,rfl,rfl⟩⟩
structure So(js:List Jnt)(xs:List Str)(ss:List aO):Prop where
 ne:∀s∈ss,s.2≠[]
 sub:∀j∈ss.flatMap sj,j∈js
 nd:(nmz ss).Nodup
 xs:∀n∈nmz ss,n∈xs
def gr(ss:List aO)(s:aO):nmz (ss++[s])=nmz ss++s.2.map (·.2):=by
 unfold nmz;rw[Xg,Xm,Yc]
def So.step(J:Js js xs)(o:So js xs ss)(fd:Fd js xs (·∈nmz ss) e ps)(he:[e]∈js\/∀f,[f]∈js->f.1∈nmz ss):So js xs (ss++[(!isF js e,ps)]):=by
 have lm:ps.getLastD z0∈ps:=Xb (gn fd.wk.ne);refine⟨fun t ht=>?_,fun j hj=>?_,?_,fun n hn=>?_⟩
 ·rcases Zc.mp ht with z|z
  ·exact o.ne t z
  ·rw[Wa.mp z];exact fd.wk.ne
 ·rw[Xg,Xm]at hj;rcases Zc.mp hj with z|z
  ·exact o.sub j z
  ·rcases Zc.mp z with z|z
   ·exact fd.wk.ij j z
   ·by_cases c:[e]∈js
    ·rw[show isF js e=true from Ae c]at z;have:j=[leE (ps.headD z0)]\/j=[riE (ps.getLastD z0)]:=by
      rcases Wc.mp z with z|z
      ·exact .inl z
      ·exact .inr (Wa.mp z)
     rcases this with rfl|rfl
     ·rw[fd.hd];exact c
     ·exact fd.la.elim id fun m=>(m.free J c).elim
    ·rw[show isF js e=false from Af c]at z;have:j=aA [leE (ps.headD z0),riE (ps.getLastD z0)]:=Wa.mp z;rw[this,fd.hd];refine fd.la.elim (fun l=>?_) fun m=>m.sym;exact absurd ((he.resolve_left c) _ l) (fd.wk.ns _ lm)
 ·rw[gr,Zg]
  exact⟨o.nd,fd.wk.nd,fun a ha b hb z=>by
   obtain⟨p,hp,rfl⟩:=Qb.mp hb
   exact fd.wk.ns p hp (z ▸ ha)⟩
 ·rw[gr]at hn;rcases Zc.mp hn with z|z
  ·exact o.xs n z
  ·obtain⟨p,hp,rfl⟩:=Qb.mp z;exact fd.wk.xs p hp
theorem xS:∀{a b g r:List α}{e:α},a++b=g++e::r->e∈a\/∀x∈a,x∈g
 |[],_,_,_,_,_=>.inr fun x hx=>by cases hx
 | x::a,b,[],r,e,h=>by
  injection h with h1 _
  exact .inl (by rw[h1];exact Va)
 | x::a,b,y::g,r,e,h=>by
  injection h with h1 h2
  rcases xS h2 with z|z
  ·exact .inl (Vb _ z)
  ·right;intro w hw;rcases Wc.mp hw with q|q
   ·rw[q,h1];exact Va
   ·exact Vb _ (z w q)
structure Sn(sk:List (Key×D))(ns:List Str):Prop where
 ks:∀n:Str,(.inr n:Key)∈sk.map (·.1)↔n∈ns
 ln:sk.length<=ns.length
def KM{a0 a1 a2 a3 a5 a6 s7:Sl}{ps:List Bd}(hp:∀p∈ps,Nm p.2)(hl:ps.length<=100){ns:List Str}(hn:ns.length<=100)(hk:Sn sk ns)(i7:s7.isIo=false) :
  ∃sk' t7,eT (gN 7) jt (ps.map bdD) [a0,a1,a2,a3,.o (.dk sk),a5,a6,s7]=some (.nx [a0,a1,a2,a3,.o (.dk sk'),a5,a6,t7])/\Sn sk' (ns++ps.map (·.2))/\t7.isIo=false:=by
 obtain⟨sf,el,sk',t7,rfl,h1,i7'⟩:=bM (fg:=gN 7) (B:=jt) bdD ps (fun g st=>∃sk s7,st=[a0,a1,a2,a3,.o (.dk sk),a5,a6,s7]/\Sn sk (ns++g.map (·.2))/\s7.isIo=false)
  (by
   rintro g p r st ha ⟨sk,s7,rfl,h1,i7⟩;have np:=hp p (by rw[ha];simp)
   have gl:=congrArg List.length ha;rw[Xa,Qc]at gl;have kl:=h1.ln;rw[Xa,Za]at kl;have st':mP (.dk sk) (.str p.2) (.bl true)=some (.dk (gZ sk (.inr p.2) (.bl true))):=by
    show(if sk.length<100000 then some (D.dk (gZ sk (.inr p.2) (.bl true))) else none)=_;rw[Ag (by lia)]
   refine⟨[a0,a1,a2,a3,.o (.dk sk),a5,a6,.v (bdD p)],[a0,a1,a2,a3,.o (.dk (gZ sk (.inr p.2) (.bl true))),a5,a6,.v (bdD p)],bp (t:=s7) rfl i7,?_,gZ sk (.inr p.2) (.bl true),.v (bdD p),rfl,⟨fun n=>?_,?_⟩,rfl⟩
   ·exact iG rfl rfl rfl rfl (aQ rfl rfl (eZ (t:=p.1) np) rfl) rfl rfl rfl st'
   ·rw[we,h1.ks n,Yc,<-Zf,Zc (s:=ns++g.map (·.2))];show(Sum.inr n:Key)=.inr p.2\/_↔_\/n∈[p.2];rw[Wa];exact⟨fun h=>h.elim (fun z=>.inr (Sum.inr.inj z)) .inl,fun h=>h.elim .inr fun z=>.inl (by rw[z])⟩
   ·have:=zx (kvs:=sk) (k:=(.inr p.2:Key)) (d:=.bl true);rw[Yc,Xa,Xa,Za];show _<=ns.length+(g.length+1)
    lia)
  ps [] [a0,a1,a2,a3,.o (.dk sk),a5,a6,s7] rfl ⟨sk,s7,rfl,by rw[CB,Yg];exact hk,i7⟩
 exact⟨sk',t7,el,h1,i7'⟩
noncomputable def ni(M:End->End->Prop)(F:End->Bool)(ss:List aO)(e:End):List aO:=if e.1∈nmz ss then ss else ss++[(!F e,wkF M e 69 [dm e])]
noncomputable def SS(js:List Jnt):List aO:=(fr js++aA js.flatten).foldl (ni (Mt js) (isF js)) []
abbrev oS(a0 x1 a2:Sl)(ss:List aO)(sk:List (Key×D))(x5 x6 x7:Sl):En:=[a0,x1,a2,.o (.lst (ss.map stD)),.o (.dk sk),x5,x6,x7]
inductive OI(js:List Jnt)(xs:List Str)(kvs:List (List Key×D))(a0 a2:Sl)(gone:List End)(st:En):Prop
 | mk (x1 x5 x6 x7:Sl) (ss:List aO) (sk:List (Key×D)) (e:st=oS a0 x1 a2 ss sk x5 x6 x7) (hx:x1=.o (.dt kvs)\/x1=.v (.dt kvs)) (hs:gone.foldl (ni (Mt js) (isF js)) []=ss) (o:So js xs ss) (hk:Sn sk (nmz ss)) (hg:∀e∈gone,e.1∈nmz ss) (j5:x5.isIo=false) (j6:x6.isIo=false) (j7:x7.isIo=false)
def wg(J:Js js xs)(nm:∀x∈xs,Nm x)(hx:xs.length<=30):qA [.tup (js.map jD)]=some (.tup ((cn (SS js)).map stD),false)/\So js xs (SS js)/\(nmz (SS js)).Perm xs:=by
 have fl:js.flatten.length<=60:=by
  have:=J.pf.length_eq;rw[Xa,Za,Za]at this;lia
 obtain⟨kvs,be,T⟩:=og J.ln J.nd (by lia)
 have sok:=Ez T (by lia)
 have frl:(fr js).length<=120:=by
  have:=Yl (isF js) (aA js.flatten);rw[fK]at this;unfold fr;lia
 have ad:cE (.lst ((fr js).map eD)) (.lst ((aA js.flatten).map eD))=some (.lst ((fr js++aA js.flatten).map eD),true):=by
  rw[uJ (by rw[Za,Za,fK js.flatten];lia),Yc]
 have JS:∃z:Sl,z=.v (.tup (js.map jD)):=⟨_,rfl⟩;obtain⟨a0,ha0⟩:=JS;have FR:∃z:Sl,z=.o (.lst ((fr js).map eD)):=⟨_,rfl⟩;obtain⟨a2,ha2⟩:=FR;obtain⟨sf,el,x1,x5,x6,x7,ss,sk,rfl,hx1,hss,o,hk,hg,j5,j6,j7⟩:=bM (fg:=gN 5) (B:=lU) eD (fr js++aA js.flatten) (OI js xs kvs a0 a2)
  (by
   rintro gone e rest st ha ⟨x1,x5,x6,x7,ss,sk,rfl,hx1,hss,o,hk,hg,j5,j6,j7⟩;have hst:(gone++[e]).foldl (ni (Mt js) (isF js)) []=ni (Mt js) (isF js) ss e:=by rw[BE,hss];rfl
   have hne:e∈js.flatten:=by
    have:e∈fr js++aA js.flatten:=by rw[ha];simp
    rcases Zc.mp this with z|z
    ·exact Wf.mpr ⟨[e],fr_mem.mp z,by simp⟩
    ·exact(aE js.flatten).2.mem_iff.mp z
   have ix:bIx (eD e) (.int 0)=some (.str e.1,false):=bG (i:=0) rfl;have tst:ay (fOp (GN true) (fOp bIx (aB 5) (fC (.int 0))) (aB 4)) (oS a0 x1 a2 ss sk (.v (eD e)) x6 x7)=some (!decide (e.1∈nmz ss),(oS a0 x1 a2 ss sk (.v (eD e)) x6 x7)):=by
    refine aC (au (au rfl rfl rfl rfl ix) rfl rfl rfl (z:=(.bl (!decide (e.1∈nmz ss)),false)) ?_) rfl;show some (D.bl (!(cg sk (.inr e.1)).isSome),false)=_;rw[zw];congr 4;exact decide_eq_decide.mpr (hk.ks e.1)
   by_cases c:e.1∈nmz ss
   ·refine⟨_,(oS a0 x1 a2 ss sk (.v (eD e)) x6 x7),bp (t:=x5) rfl j5,cW (eS tst (by rw[Ae c];rfl)) rfl,x1,.v (eD e),x6,x7,ss,sk,rfl,hx1,by rw[hst];exact Ag c,o,hk,fun f hf=>?_,rfl,j6,j7⟩
    rcases Zc.mp hf with z|z
    ·exact hg f z
    ·rw[Wa.mp z];exact c
   ·obtain⟨ew,fd⟩:=uP (S:=(·∈nmz ss)) J T (gq J o.ne o.sub) nm (by lia) hne c
    have hst:=hst.trans (Aj c);generalize wkF (Mt js) e 69 [dm e]=ps at ew fd hst
    have o2:=o.step J fd (by
     rcases xS ha with z|z
     ·exact .inl (fr_mem.mp z)
     ·exact .inr fun f hf=>hg f (z f (fr_mem.mpr hf)))
    have nl:(nmz (ss++[(!isF js e,ps)])).length<=60:=by
     have:=jS _ xs o2.nd o2.xs;lia
    rw[gr,Xa,Za]at nl;have sl:ss.length<=60:=by
     have:=jC ss o.ne;have h2:(nmz ss).length=(ss.flatMap (·.2)).length:=Za _;lia
    have pn:∀p∈ps,Nm p.2:=fun p hp=>nm _ (fd.wk.xs p hp);dsimp only at nl;obtain⟨sk',t7,e7,hk',i7⟩:=KM (a0:=a0) (a1:=.v (.dt kvs)) (a2:=a2) (a3:=.o (.lst ((ss++[(!isF js e,ps)]).map stD))) (a5:=.v (eD e)) (a6:=.v (.tup (ps.map bdD))) (s7:=x7) pn (by lia) (ns:=nmz ss) (by lia) hk j7
    have bf:bb (aN gc (aa (aB 5) (aa (aB 1) af))) 6 (oS a0 x1 a2 ss sk (.v (eD e)) x6 x7)=some (.nx (oS a0 (.v (.dt kvs)) a2 ss sk (.v (eD e)) (.v (.tup (ps.map bdD))) x7)):=by
     rcases hx1 with rfl|rfl<;>exact cC (aI (ag rfl (ag rfl rfl)) rfl ew) (bp (t:=x6) rfl j6)
    have kd':fIf (ay (fOp (oM false) (fOp jL (aB 1) (aB 5)) (fC .non))) (fC (.str "open")) (fC (.str "ring")) (oS a0 (.v (.dt kvs)) a2 ss sk (.v (eD e)) (.v (.tup (ps.map bdD))) x7)=some (.d (.str (kd (!isF js e))),(oS a0 (.v (.dt kvs)) a2 ss sk (.v (eD e)) (.v (.tup (ps.map bdD))) x7)):=by
     have t:=zz J T hne (i:=1) (f:=aB 5) (st:=(oS a0 (.v (.dt kvs)) a2 ss sk (.v (eD e)) (.v (.tup (ps.map bdD))) x7)) rfl rfl rfl;cases q:isF js e with|true=>exact mO (eS t q) rfl|false=>exact ot (eS t q) rfl
    have ap:ck (fM isL bx 3 (aa (bL (aa (fIf (ay (fOp (oM false) (fOp jL (aB 1) (aB 5)) (fC .non))) (fC (.str "open")) (fC (.str "ring"))) (aa (aB 6) af))) af)) (oS a0 (.v (.dt kvs)) a2 ss sk (.v (eD e)) (.v (.tup (ps.map bdD))) x7)=some (.nx [a0,.v (.dt kvs),a2,.o (.lst ((ss++[(!isF js e,ps)]).map stD)),.o (.dk sk),.v (eD e),.v (.tup (ps.map bdD)),x7]) :=
     bV (iM rfl rfl rfl (ag (bo (ag kd' rfl) rfl (by simp)) rfl) rfl rfl rfl (dJ (by rw[Za];lia)) (by rw[Yc];rfl))
    refine⟨_,_,bp (t:=x5) rfl j5,f6 (eS tst (by rw[Af c];rfl)) (aq bf (aq ap (cS (db rfl rfl) e7))),.v (.dt kvs),.v (eD e),.v (.tup (ps.map bdD)),t7,ss++[(!isF js e,ps)],sk',rfl,.inr rfl,hst,o2,by rw[gr];exact hk',fun f hf=>?_,rfl,rfl,i7⟩
    rw[gr];rcases Zc.mp hf with z|z
    ·exact Vf _ (hg f z)
    ·refine Xd _ (Qb.mpr ⟨ps.headD z0,Xb (dQ fd.wk.ne),?_⟩)
     rw[Wa.mp z,<-fd.hd];rfl)
  (fr js++aA js.flatten) [] [a0,.o (.dt kvs),a2,.o (.lst []),.o (.dk []),.e,.e,.e] rfl ⟨.o (.dt kvs),.e,.e,.e,[],[],rfl,.inl rfl,rfl,⟨fun s hs=>(by cases hs),fun j hj=>(by cases hj),Wl,fun n hn=>(by cases hn)⟩,⟨fun n=>⟨fun h=>(by cases h),fun h=>(by cases h)⟩,Wb _⟩,fun f hf=>(by cases hf),rfl,rfl,rfl⟩
 have pm:(nmz ss).Perm xs:=(Vm o.nd J.nx).mpr fun n=>⟨o.xs n,fun hn=>hg (n,0) (Xd _ ((aE js.flatten).2.mem_iff.mpr (J.en.mpr ⟨hn,.inl rfl⟩)))⟩;rw[show SS js=ss from hss];refine⟨?_,o,pm⟩
 have ca:=HS o.ne (fun s hs p hp=>nm _ (o.xs _ (Qb.mpr ⟨p,Wj.mpr ⟨s,hs,hp⟩,rfl⟩))) (by
  have h1:=pm.length_eq;have h2:(nmz ss).length=(ss.flatMap (·.2)).length:=Za _
  lia)
 refine aJ (o:=.rt (.d (.tup ((cn ss).map stD))) [a0,x1,a2,.v (.lst (ss.map stD)),.o (.dk sk),x5,x6,x7]) rfl ?_ rfl;refine aq (s:=[a0,.o (.dt kvs),.e,.e,.e,.e,.e,.e]) (dY (aI rfl rfl be) (by rw[ha0];rfl)) ?_
 refine aq (s:=[a0,.o (.dt kvs),a2,.e,.e,.e,.e,.e]) (dY (bF (su (aL rfl rfl sok) rfl) (rf (n:=60) (by rw[Za,fK];exact fl) (by decide) rfl) (EA J T)) (by rw[ha2];rfl)) ?_
 refine aq rfl (aq rfl ?_);have ev:fOp cE (aB 2) (fCB lM (aa (aB 1) af)) [a0,.o (.dt kvs),a2,.o (.lst []),.o (.dk []),.e,.e,.e]=some (.f (.lst ((fr js++aA js.flatten).map eD)),[a0,.o (.dt kvs),a2,.o (.lst []),.o (.dk []),.e,.e,.e]):=by
  subst ha2;exact au rfl (aL rfl rfl sok) rfl rfl ad
 exact aq (cS (su ev rfl) el) (aK (aI rfl rfl ca))
end
end K17
namespace VF
open PySem L2
theorem sM(f:α->Bool):∀xs:List α,mM (xs.map fun x=>D.bl (f x))=some (xs.map f)
 |[]=>rfl
 | x::r=>by
  show(mM (r.map fun x=>D.bl (f x))).bind _=_;rw[sM f r];rfl
def Ij(f:α->Bool)(xs:List α):p9 [.lst (xs.map fun x=>D.bl (f x))]=some (.bl (xs.all f),false):=by
 show(mM _).bind _=_;rw[sM];show some (D.bl ((xs.map f).all id),false)=_;rw[CF];rfl
def Ik(h:∀d∈ds,Pl n d)(hn:n<=39):jX (.lst ds) (.lst ds)=some (.bl false,false):=by
 have up:∀(k:Nat){m:Nat}{d:D},Pl m d->Pl (m+k) d:=fun k=>by
  induction k with|zero=>intro m d h;exact h|succ k ih=>intro m d h;exact(ih h).up
 have e1:DP true (.lst ds) (.lst ds)=none:=rfl;have p:Pl 40 (.lst ds):=.lst fun d hd=>by
  have:=up (39-n) (h d hd);rwa [show n+(39-n)=39 by lia]at this
 cases ds with
 |nil=>
  unfold jX bNe orD;rw[e1];rfl
 |cons x r=>
  have e2:Nd (.lst (x::r)) (.lst (x::r))=none:=rfl;have e3:vH true (.lst (x::r)) (.lst (x::r))=some (.bl false,false):=by
   unfold vH;rw[Ag ⟨p,p⟩];simp
  unfold jX bNe orD;rw[e1,e2];exact e3
def KN{xs L:List Int}(hl:xs.length<64)(pm:L.Perm xs)(pw:L.Pairwise (·<=·)){d:D}(hd:d.seq=some (xs.map D.int)):bO [d]=some (.lst (L.map D.int),true):=by
 have ca:CA 40 (xs.map D.int):=fun a ha b hb=>by
  obtain⟨p,_,rfl⟩:=Qb.mp ha;obtain⟨q,_,rfl⟩:=Qb.mp hb;trivial
 have es:L.map D.int=de 40 (xs.map D.int):=dU ca (pm.map _) (by
  unfold Srt;rw[Xh]
  exact List.Pairwise.imp (fun {a b} (hab:a<=b)=>Af (by lia)) pw)
 unfold bO;simp only[hd]
 rw[Ag ⟨fun x hx=>by obtain⟨p,_,rfl⟩:=Qb.mp hx;exact .int _ _,ca,⟨_,.sc (T:="int") (by decide) fun d hd=>by
  obtain⟨p,_,rfl⟩:=Qb.mp hd
  exact⟨by simp,rfl⟩⟩,by rw[Za];exact hl⟩,<-es]
def Il(i:Int):jX (.int i) (.int i)=some (.bl false,false):=by
 have e1:DP true (.int i) (.int i)=some (.bl false,false):=by
  show some (D.bl (!decide (V.int i=V.int i)),false)=_;rw[Ae rfl];rfl
 unfold jX bNe orD;rw[e1]
def plB:Nat->D->Bool|n+1,.tup ds=>ds.all (plB n)|_+1,.int _=>true|_,_=>false
theorem Im:∀{n:Nat}{d:D},plB n d=true->Pl n d
 |0,d,h=>by cases d<;>cases h
 | n+1,d,h=>by
  cases d with|int i=>exact .int n i|tup ds=>exact .tup fun e he=>Im (Xj.mp h e he)|_=>cases h
def ld(h:CA n ds):Srt n (de n ds):=by
 obtain⟨es,p,q⟩:=xO ds h;rw[<-dU h p q];exact q
end VF
namespace K17
open PySem L2 VF VL VF22
noncomputable section
def inL(c:Nat):Bool:=!(Builtin.Str.occurrences ("abcdefghijklmnopqrstuvwxyz":Str) ⟨#[c]⟩ 0 ("abcdefghijklmnopqrstuvwxyz":Str).length 1).isEmpty
def KO:∀c:Nat,c<123->97<=c->inL c=true:=by decide +kernel
def okT(x:Str):Bool:=(decide (1<=x.length)&&decide (x.length<=6))&&x.cps.toList.all inL
def Oh(h:Nm x):okT x=true:=by
 obtain⟨h1,h2,h3⟩:=h;unfold okT;rw[Ae h1,Ae h2];simp only[Bool.and_self,Bool.true_and];rw[Xj];intro c hc;have:=h3 c hc;exact KO c (by lia) this.1
theorem len_str{x:Str}(h:x.length<=1000000):ce [.str x]=some (.int (x.length:Int),false):=by
 first
  | rfl
  | (unfold ce orC;simp[FQ,D.seq,FU,h])
def Ip{x:Str}(h:x.length<=1000000):kR [.str x]=some (.bl (okT x),false):=by
 have hc:cK 1 [] (fIA (aB 0)) (gN 0) cj (fOp bIn (aB 0) (fC (.str "abcdefghijklmnopqrstuvwxyz"))) [.v (.str x)]=some (.f (.lst (x.cps.toList.map fun c=>D.bl (inL c))),[.v (.str x)]):=by
  refine bF (s1:=[.v (.str x)]) (ds:=p6 x) (s2:=[.e]) rfl (by
   have:(p6 x).length=x.length:=by unfold p6;rw[Za,Wd];rfl
   rw[this,Ae h];rfl) ?_
  exact bZ (fun c=>D.str ⟨#[c]⟩) (fun c=>D.bl (inL c)) [.e] x.cps.toList fun c _=>⟨[.v (.str ⟨#[c]⟩)],[.v (.str ⟨#[c]⟩)],.d (.bl (inL c)),[.v (.str ⟨#[c]⟩)],[.v (.str ⟨#[c]⟩)],rfl,rfl,au rfl rfl rfl rfl rfl,rfl,rfl⟩
 have ch:ay (tJ bLe bLe (fC (.int 1)) (fCB ce (aa (aB 0) af)) (fC (.int 6))) [.v (.str x)]=some (decide (1<=x.length)&&decide (x.length<=6),[.v (.str x)]):=by
  have l1:fCB ce (aa (aB 0) af) [.v (.str x)]=some (.d (.int (x.length:Int)),[.v (.str x)]):=aL rfl rfl (len_str h);have b1:bLe (.int 1) (.int (x.length:Int))=some (.bl (decide (1<=x.length)),false):=by
   show some (D.bl (decide ((1:Int)<=(x.length:Int))),false)=_;congr 3;rw[decide_eq_decide];lia
  have b2:bLe (.int (x.length:Int)) (.int 6)=some (.bl (decide (x.length<=6)),false):=by
   show some (D.bl (decide ((x.length:Int)<=6)),false)=_;congr 3;rw[decide_eq_decide];lia
  refine aC (r:=.d (.bl (decide (1<=x.length)&&decide (x.length<=6)))) ?_ rfl;unfold tJ;simp only[fC,l1,Yb,cont,b1];cases decide (1<=x.length) with
  |false=>rfl
  |true=>
   simp only[b2,Yb];rfl
 refine aJ (o:=.rt (.d (.bl (okT x))) [.v (.str x)]) rfl ?_ rfl;unfold okT;cases e:(decide (1<=x.length)&&decide (x.length<=6)) with
 |false=>
  rw[e]at ch;exact gB (f6 (nP rfl (fQ ch)) rfl)
 |true=>
  rw[e]at ch;refine aq (cW (nP rfl (fQ ch)) rfl) ?_;exact aK (aL (ag hc rfl) rfl (Ij inL x.cps.toList))
def Iq(h:Nm x):kR [.str x]=some (.bl true,false):=by
 rw[Ip (by have:=h.2.1;lia),Oh h]
def EOk(e:End):Prop:=Nm e.1/\(e.2=0\/e.2=1)
def KP(h:EOk e):qx [eD e]=some (.bl true,false):=by
 obtain⟨x,i⟩:=e;obtain⟨h1,h2⟩:=h;refine aJ (o:=.rt (.d (.bl true)) [.v (eD (x,i))]) rfl ?_ rfl;refine aq (cW (nP rfl (nP rfl (fQ (aC (aQ (ag (au rfl rfl rfl rfl (bG (i:=0) rfl)) rfl) rfl (Iq h1) rfl) rfl)))) rfl) ?_;rcases h2 with h2|h2
 ·have h2:i=0:=h2;subst h2;exact aK (jb rfl rfl rfl)
 ·have h2:i=1:=h2;subst h2;exact aK (jb rfl rfl rfl)
def Ir{qs:List (D×D)}(hz:fIZ (aa (aB 0) (aa (fSl bSl (aB 0) (eU (fC (.int 1))) oNo) af)) [.v d]=some (qs.map fun q=>pr q.1 q.2,[.v d]))(hl:qs.length<=9)(hq:∀q∈qs,ql q.1 q.2=some (.bl true,false)):cM [d]=some (.bl true,false):=by
 have ec:b9 (gT 2 (gsC (gN 0) (gsC (gN 1) gsN))) cj jn 2 (qs.map fun q=>pr q.1 q.2) [.e,.e]=some (qs.map fun _=>D.bl true,[.e,.e]) :=
  bZ (fg:=gT 2 (gsC (gN 0) (gsC (gN 1) gsN))) (fc:=cj) (fe:=jn) (k:=2) (fun q:D×D=>pr q.1 q.2) (fun _=>D.bl true) [.e,.e] qs fun q h=>
   ⟨[.v q.1,.v q.2],[.v q.1,.v q.2],.d (.bl true),[.v q.1,.v q.2],[.v q.1,.v q.2],rfl,rfl,au rfl rfl rfl rfl (hq q h),rfl,rfl⟩
 refine aJ (o:=.rt (.d (.bl true)) [.v d]) rfl (aK (aL (z:=(.bl true,false)) (ag (bF hz ?_ ec) rfl) rfl ?_)) rfl
 ·show(true&&decide ((qs.map fun q=>pr q.1 q.2).length<=1000000))=true;rw[Za,Ae (by lia)];rfl
 ·show p9 [.lst (qs.map fun _=>D.bl true)]=_;rw[pO];exact jW _
def Iu{qs:List (D×D)}(hz:fIZ (aa (aB 0) (aa (fSl bSl (aB 0) (eU (fC (.int 1))) oNo) af)) [.v d]=some (qs.map fun q=>pr q.1 q.2,[.v d]))(hl:qs.length<=2)(hq:∀q∈qs,ql q.1 q.2=some (.bl true,false)):cM [d]=some (.bl true,false):=Ir hz (by lia) hq
def zF(x:D):cM [.tup [x]]=some (.bl true,false):=rfl
def zG(h:ql x y=some (.bl true,false)):cM [.tup [x,y]]=some (.bl true,false):=by
 refine Iu (qs:=[(x,y)]) ?_ (by show 1<=2;decide) fun q hq=>by rw[Wa.mp hq];exact h
 have e1:(aa (aB 0) (aa (fSl bSl (aB 0) (eU (fC (.int 1))) oNo) af)) [.v (.tup [x,y])]=some (_,_):=ag rfl (ag (mN rfl rfl rfl rfl zm) rfl);show((aa (aB 0) (aa (fSl bSl (aB 0) (eU (fC (.int 1))) oNo) af)) [.v (.tup [x,y])]).bind _=_;rw[e1];rfl
def KQ(h:ql x y=some (.bl true,false)):cM [.lst [x,y]]=some (.bl true,false):=by
 refine Iu (qs:=[(x,y)]) ?_ (by show 1<=2;decide) fun q hq=>by rw[Wa.mp hq];exact h
 rfl
def ltE(h:ltN 40 (eD a) (eD b)=true):ql (eD a) (eD b)=some (.bl true,false):=by
 rw[G7 (mZ 38 a) (mZ 38 b) (zj 38 a b),h]
def Iv{j:Jnt}(h:∀e∈j,EOk e):b9 (gN 0) cj f9 1 (j.map eD) [.e]=some (j.map fun _=>D.bl true,[.e]) :=
 bZ (fg:=gN 0) (fc:=cj) (fe:=f9) (k:=1) eD (fun _=>D.bl true) [.e] j fun e he=>⟨[.v (eD e)],[.v (eD e)],.d (.bl true),[.v (eD e)],[.v (eD e)],rfl,rfl,aQ rfl rfl (KP (h e he)) rfl,rfl,rfl⟩
def EB{j:Jnt}(hl:j.length=1\/j.length=2)(h:∀e∈j,EOk e)(hr:cM [jD j]=some (.bl true,false)):gI [jD j]=some (.bl true,false):=by
 refine aJ (o:=.rt (.d (.bl true)) [.v (jD j)]) rfl ?_ rfl;have t:ay (fOp lH (fCB ce (aa (aB 0) af)) (bL (aa (fC (.int 1)) (aa (fC (.int 2)) af)))) [.v (jD j)]=some (false,[.v (jD j)]):=by
  rcases hl with hl|hl
  ·exact aC (au (aL rfl rfl (m8 j)) rfl rfl rfl (z:=(.bl false,false)) (by rw[hl];rfl)) rfl
  ·exact aC (au (aL rfl rfl (m8 j)) rfl rfl rfl (z:=(.bl false,false)) (by rw[hl];rfl)) rfl
 refine aq (cW (nP rfl t) rfl) ?_;refine aK (jb (aL (ag (bF (db rfl rfl) ?_ (Iv h)) rfl) rfl (by rw[pO];exact jW _)) rfl (aQ rfl rfl hr rfl))
 show(true&&decide ((j.map eD).length<=1000000))=true;rw[Za,Ae (by lia)];rfl
def Iw{js:List Jnt}(hl:js.length=1\/js.length=2)(h:∀j∈js,gI [jD j]=some (.bl true,false))(hr:cM [.tup (js.map jD)]=some (.bl true,false)):iP [.tup (js.map jD)]=some (.bl true,false):=by
 have ec:b9 (gN 0) cj hW 1 (js.map jD) [.e]=some (js.map fun _=>D.bl true,[.e]) :=
  bZ (fg:=gN 0) (fc:=cj) (fe:=hW) (k:=1) jD (fun _=>D.bl true) [.e] js fun e he=>⟨[.v (jD e)],[.v (jD e)],.d (.bl true),[.v (jD e)],[.v (jD e)],rfl,rfl,aQ rfl rfl (h e he) rfl,rfl,rfl⟩
 have ln:ce [.tup (js.map jD)]=some (.int (js.length:Int),false):=by
  show some (D.int (((js.map jD).length:Nat):Int),false)=_;rw[Za]
 refine aJ (o:=.rt (.d (.bl true)) [.v (.tup (js.map jD))]) rfl ?_ rfl;have t:ay (fOp lH (fCB ce (aa (aB 0) af)) (bL (aa (fC (.int 1)) (aa (fC (.int 2)) af)))) [.v (.tup (js.map jD))]=some (false,[.v (.tup (js.map jD))]):=by
  rcases hl with hl|hl
  ·exact aC (au (aL rfl rfl ln) rfl rfl rfl (z:=(.bl false,false)) (by rw[hl];rfl)) rfl
  ·exact aC (au (aL rfl rfl ln) rfl rfl rfl (z:=(.bl false,false)) (by rw[hl];rfl)) rfl
 refine aq (cW (nP rfl t) rfl) ?_;refine aK (jb (aL (ag (bF (db rfl rfl) ?_ ec) rfl) rfl (by rw[pO];exact jW _)) rfl (aQ rfl rfl hr rfl))
 show(true&&decide ((js.map jD).length<=1000000))=true;rw[Za,Ae (by lia)];rfl
def wj{js:List Jnt}{L:List Int}(hl:js.length<=2)(pm:L.Perm (js.map fun j=>(j.length:Int)))(pw:L.Pairwise (·<=·)):pE [.tup (js.map jD)]=some (.tup (L.map D.int),false):=by
 have ec:b9 (gN 0) cj kU 1 (js.map jD) [.e]=some (js.map fun j=>D.int (j.length:Int),[.e]) :=
  bZ (fg:=gN 0) (fc:=cj) (fe:=kU) (k:=1) jD (fun j=>D.int (j.length:Int)) [.e] js fun e _=>⟨[.v (jD e)],[.v (jD e)],.d (.int (e.length:Int)),[.v (jD e)],[.v (jD e)],rfl,rfl,aL rfl rfl (m8 e),rfl,rfl⟩
 refine aJ (o:=.rt (.d (.tup (L.map D.int))) [.v (.tup (js.map jD))]) rfl ?_ rfl;refine aK (aL (ag (aL (ag (bF (db rfl rfl) ?_ ec) rfl) rfl (KN (by rw[Za];lia) pm pw ?_)) rfl) rfl rfl)
 ·show(true&&decide ((js.map jD).length<=1000000))=true;rw[Za,Ae (by lia)];rfl
 ·show some (js.map fun j=>D.int (j.length:Int))=_;rw[Ze];rfl
def sN{js:List Jnt}(hl:js.flatten.length<64):iQ [.tup (js.map jD)]=some (.lst ((aA js.flatten).map eD),true):=by
 obtain⟨sf,e,s2,rfl,_⟩:=bM (fg:=gN 2) (B:=kf) jD js
  (fun gone st=>∃s2:Sl,st=[.v (.tup (js.map jD)),.o (.lst (gone.flatten.map eD)),s2]/\s2.isIo=false)
  (by
   rintro gone j rest st ha ⟨s2,rfl,q⟩;have hg:=congrArg (fun l=>l.flatten.length) ha;simp only[Qh,Vg,Xa]at hg;refine⟨_,[.v (.tup (js.map jD)),.o (.lst ((gone++[j]).flatten.map eD)),.v (jD j)],bp rfl q,?_,.v (jD j),rfl,rfl⟩;refine bV (iM rfl rfl rfl rfl rfl rfl rfl (Oa (ys:=j.map eD) (by rw[Za,Za];lia)) ?_)
   rw[Qh,Yc,BX];rfl)
  js [] [.v (.tup (js.map jD)),.o (.lst []),.e] rfl ⟨.e,rfl,rfl⟩
 refine aJ (o:=.rt (.f (.lst ((aA js.flatten).map eD))) [.v (.tup (js.map jD)),.o (.lst (js.flatten.map eD)),s2]) rfl ?_ rfl;exact aq (dY (jG rfl rfl (by show 0<=1000000;decide)) rfl) (aq (cS (db rfl rfl) e) (aK (aL rfl rfl (d8 js.flatten hl rfl))))
def P8(h:a≠b):eD a≠eD b:=fun z=>h (by have:=congrArg unE z;exact this)
def P9(h:a≠b):jD a≠jD b:=fun z=>h (by have:=congrArg unJ z;rwa [jE,jE]at this)
def Ix{L:List End}(so:aA L=L)(nd:L.Nodup):L.Pairwise fun a b=>ltN 40 (eD a) (eD b)=true:=by
 have hs:=ld (HF L);rw[(aE L).1,so]at hs;have h2:L.Pairwise fun a b=>ltN 40 (eD b) (eD a)=false:=Xh.mp hs;refine List.Pairwise.imp ?_ (List.Pairwise.and h2 nd);rintro a b ⟨h1,hn⟩;rcases(jY 40).tri (zj 38 a b) with z|z|z
 ·exact absurd z (P8 hn)
 ·exact z
 ·rw[h1]at z;cases z
def KR{L:List Jnt}(so:bD L=L)(nd:L.Nodup):L.Pairwise fun a b=>ltN 40 (jD a) (jD b)=true:=by
 have hs:=ld (HG L);rw[(bW L).1,so]at hs;have h2:L.Pairwise fun a b=>ltN 40 (jD b) (jD a)=false:=Xh.mp hs;refine List.Pairwise.imp ?_ (List.Pairwise.and h2 nd);rintro a b ⟨h1,hn⟩;rcases(jY 40).tri (zk 37 a b) with z|z|z
 ·exact absurd z (P9 hn)
 ·exact z
 ·rw[h1]at z;cases z
def ltJ(h:ltN 40 (jD a) (jD b)=true):ql (jD a) (jD b)=some (.bl true,false):=by
 rw[G7 (oB 37 a) (oB 37 b) (zk 37 a b),h]
structure JOk(j:Jnt):Prop where
 hl:j.length=1\/j.length=2
 ok:∀e∈j,EOk e
 nd:j.Nodup
 so:aA j=j
structure HOk(js:List Jnt):Prop where
 hl:js.length=1\/js.length=2
 ok:∀j∈js,JOk j
 nd:js.Nodup
 so:bD js=js
def Iy(h:JOk j):gI [jD j]=some (.bl true,false):=by
 refine EB h.hl h.ok ?_;rcases mx h.hl with⟨a,rfl⟩|⟨a,b,rfl⟩
 ·exact zF _
 ·exact zG (ltE ((Xe.mp (Ix h.so h.nd)).1 b (BR b)))
def zH{js:List Jnt}(h:HOk js):iP [.tup (js.map jD)]=some (.bl true,false):=by
 refine Iw h.hl (fun j hj=>Iy (h.ok j hj)) ?_;have two:=KR h.so h.nd;rcases h.hl with z|z
 ·obtain⟨j,rfl⟩:=List.length_eq_one_iff.mp z;exact zF _
 ·match js,z with|[j,k],_=>exact zG (ltJ ((Xe.mp two).1 k (BR k)))
theorem EC{L:List End}(hl:2<=L.length/\L.length<=4)(lt:L.Pairwise fun a b=>ltN 40 (eD a) (eD b)=true):cM [.lst (L.map eD)]=some (.bl true,false):=by
 match L,hl with
 |[a,b],_=>
  exact KQ (ltE ((Xe.mp lt).1 b (by simp)))
 |[a,b,c],_=>
  obtain⟨l1,lt⟩:=Xe.mp lt;obtain⟨l2,_⟩:=Xe.mp lt;refine Iu (qs:=[(eD a,eD b),(eD b,eD c)]) rfl (by show 2<=2;decide) fun q hq=>?_
  rcases Wc.mp hq with z|z
  ·rw[z];exact ltE (l1 b (by simp))
  ·rw[Wa.mp z];exact ltE (l2 c (by simp))
 |[a,b,c,d],_=>
  obtain⟨l1,lt⟩:=Xe.mp lt;obtain⟨l2,lt⟩:=Xe.mp lt;obtain⟨l3,_⟩:=Xe.mp lt;refine Ir (qs:=[(eD a,eD b),(eD b,eD c),(eD c,eD d)]) rfl (by show 3<=9;decide) fun q hq=>?_
  rcases Wc.mp hq with z|z
  ·rw[z];exact ltE (l1 b (by simp))
  ·rcases Wc.mp z with z|z
   ·rw[z];exact ltE (l2 c (by simp))
   ·rw[Wa.mp z];exact ltE (l3 d (by simp))
def zJ(js:List Jnt):Pl (n+4) (.tup (js.map jD)):=.tup fun d hd=>by
 obtain⟨j,_,rfl⟩:=Qb.mp hd;exact oB n j
def dfm:List (List Int×List Int):=[([2],[1,1]),([1,1],[2]),([2,2],[2,2]),([1,2],[1,2])]
def dG(g c:List Jnt):D:=.tup [.tup (g.map jD),.tup (c.map jD)]
def KS{g c:List Jnt}{L M:List Int}(hg:HOk g)(hc:HOk c)(nd:g.flatten.Nodup)(pm:c.flatten.Perm g.flatten)(ln:2<=g.flatten.length/\g.flatten.length<=4)
  (pL:L.Perm (g.map fun j=>(j.length:Int)))(wL:L.Pairwise (·<=·))(pM:M.Perm (c.map fun j=>(j.length:Int)))(wM:M.Pairwise (·<=·))(fm:(L,M)∈dfm)(ne:g≠c):d6 [dG g c]=some (.bl true,false):=by
 have g2:g.length<=2:=by rcases hg.hl with z|z<;>lia
 have c2:c.length<=2:=by rcases hc.hl with z|z<;>lia
 have ec:b9 (gN 0) cj hX 1 [.tup (g.map jD),.tup (c.map jD)] [.e]=some ([.bl true,.bl true],[.e]) :=
  nQ (fg:=gN 0) (fc:=cj) (fe:=hX) (k:=1) (fun _=>D.bl true) [.tup (g.map jD),.tup (c.map jD)] [.e] fun x hx=>by
   have hx':iP [x]=some (.bl true,false):=by
    rcases Wc.mp hx with z|z
    ·rw[z];exact zH hg
    ·rw[Wa.mp z];exact zH hc
   exact⟨[.v x],[.v x],.d (.bl true),[.v x],[.v x],rfl,rfl,aQ rfl rfl hx' rfl,rfl,rfl⟩
 have so:=eY pm;have e0:=sN (js:=g) (by lia)
 have e1:iQ [.tup (c.map jD)]=some (.lst ((aA g.flatten).map eD),true):=by rw[sN (js:=c) (by rw[pm.length_eq];lia),so]
 have again:aA (aA g.flatten)=aA g.flatten:=eY (aE _).2;have ri:=EC (L:=aA g.flatten) (by rw[fK];exact ln) (Ix again ((aE _).2.nodup_iff.mpr nd))
 have nl:jX (.lst ((aA g.flatten).map eD)) (.lst ((aA g.flatten).map eD))=some (.bl false,false):=Ik (n:=2) (fun d hd=>by
  obtain⟨e,_,rfl⟩:=Qb.mp hd
  exact mZ 0 e) (by decide)
 have z0:=wj g2 pL wL;have z1:=wj c2 pM wM
 have nt:jX (.tup (g.map jD)) (.tup (c.map jD))=some (.bl true,false):=HX (c:=false) (by
  have:=hg.hl;intro z;have z:=congrArg List.length z;rw[Za,Wg]at z
  lia) (zJ (n:=36) g) (zJ (n:=36) c) ⟨fun z=>(by cases z),fun z=>absurd (by
   injection z with z
   have:=congrArg (List.map unJ) z;rw[Ze,Ze,show(unJ ∘ jD)=id from funext jE,Yn,Yn]at this
   exact this) ne⟩
 refine aJ (o:=.rt (.d (.bl true)) [.v (dG g c),.v (.tup (g.map jD)),.v (.tup (c.map jD)),.o (.lst ((aA g.flatten).map eD))]) rfl ?_ rfl;refine aq (cW (nP rfl (nP (aC (au (aL rfl rfl (z:=(.int 2,false)) rfl) rfl rfl rfl (Il 2)) rfl) (fQ (aC (aL (ag (bF (db rfl rfl) rfl ec) rfl) rfl (z:=(.bl true,false)) rfl) rfl)))) rfl) ?_;refine aq (cC (au rfl rfl rfl rfl (bG (i:=0) rfl)) rfl) (aq (cC (au rfl rfl rfl rfl (bG (i:=1) rfl)) rfl) (aq (dY (aI rfl rfl e0) rfl) ?_));refine aq (cW (nP (fQ (aC (aQ rfl rfl ri rfl) rfl)) (aC (au rfl (aI rfl rfl e1) rfl rfl nl) rfl)) rfl) ?_;have hin:∀{e:D},e∈[D.tup [.tup [.int 2],.tup [.int 1,.int 1]],.tup [.tup [.int 1,.int 1],.tup [.int 2]],.tup [.tup [.int 2,.int 2],.tup [.int 2,.int 2]],.tup [.tup [.int 1,.int 2],.tup [.int 1,.int 2]]]->plB 40 e=true:=fun {e} he=>by
  simp only[Wc,CM,or_false]at he;rcases he with rfl|rfl|rfl|rfl<;>rfl
 have hm:D.tup [.tup (L.map D.int),.tup (M.map D.int)]∈[D.tup [.tup [.int 2],.tup [.int 1,.int 1]],.tup [.tup [.int 1,.int 1],.tup [.int 2]],.tup [.tup [.int 2,.int 2],.tup [.int 2,.int 2]],.tup [.tup [.int 1,.int 2],.tup [.int 1,.int 2]]]:=by
  have:=Vj (f:=fun p:List Int×List Int=>D.tup [.tup (p.1.map D.int),.tup (p.2.map D.int)]) fm;exact this
 exact aK (jb (NU (b:=true) (bo (ag (aI rfl rfl z0) (ag (aI rfl rfl z1) rfl)) rfl (by show 2<=1000000;decide)) rfl (Im (hin hm)) (fun e he=>Im (hin he)) ⟨fun _=>hm,fun _=>rfl⟩) rfl (au rfl rfl rfl rfl nt))
end
end K17
namespace VF
open PySem L2
def Oj(pa:Pl 40 (.tup xs))(pb:Pl 40 (.tup ys))(h:c=true↔D.tup xs=D.tup ys):lK (.tup xs) (.tup ys)=some (.bl c,false):=by
 have e1:bEq (.tup xs) (.tup ys)=none:=rfl;unfold lK orD;rw[e1];unfold vH;dsimp only;have dc:∀i:Decidable (D.tup xs=D.tup ys),@decide _ i=c:=fun i=>by rw[Ye,decide_eq_true_eq];exact h.symm
 rw[Ag ⟨pa,pb⟩,dc];rfl
theorem Iz(I:Nat->En->Prop)(Out:Rs->En->Prop)(step:∀(m:Nat)(st:En),I m st->∃s1,f st=some (true,s1)/\((∃r s2,B s1=some (.rt r s2)/\Out r s2)\/∃s2 m',B s1=some (.nx s2)/\m'<m/\I m' s2)) :
  ∀(n m:Nat)(st:En),m<n->I m st->∃r sf,sWh f B n st=some (.rt r sf)/\Out r sf
 |0,m,st,hn,_=>absurd hn (Nat.not_lt_zero _)
 | n+1,m,st,hn,h=>by
  obtain⟨s1,e1,⟨r,s2,e2,ho⟩|⟨s2,m',e2,hm,h2⟩⟩:=step m st h
  ·exact⟨r,s2,by simp only[sWh,e1,e2,Yb,if_true],ho⟩
  ·obtain⟨r,sf,e3,ho⟩:=Iz I Out step n m' s2 (by lia) h2
   exact⟨r,sf,by simp only[sWh,e1,e2,Yb,if_true];exact e3,ho⟩
end VF
namespace K17
open PySem L2 VF VL VF22
def eqE:lK (eD a) (eD b)=some (.bl (decide (a=b)),false):=by
 refine Oj (mZ 38 a) (mZ 38 b) ?_;rw[decide_eq_true_eq];exact⟨fun h=>by rw[h],fun h=>by have:=congrArg unE h;exact this⟩
def Ol:lK (.int i) (.int j)=some (.bl (decide (i=j)),false):=by
 have e:bEq (.int i) (.int j)=some (.bl (decide (i=j)),false):=by
  show some (D.bl (decide (V.int i=V.int j)),false)=_;by_cases h:i=j
  ·subst h;simp
  ·rw[Af h,Af (fun z=>h (V.int.inj z))]
 unfold lK orD;rw[e]
def j2c{j:Jnt}(h:j.length=2):∃a b,j=[a,b]:=by
 rcases mx (.inr h) with⟨a,rfl⟩|z
 ·cases h
 ·exact z
def j1c{j:Jnt}(h:j.length=1):∃a,j=[a]:=by
 rcases mx (.inl h) with z|⟨a,b,rfl⟩
 ·exact z
 ·cases h
def jne{j:Jnt}(h:j.length=1\/j.length=2):∃o os,j=o::os/\os.length<=1:=by
 rcases mx h with⟨a,rfl⟩|⟨a,b,rfl⟩
 ·exact⟨a,[],rfl,Xi _⟩
 ·exact⟨a,[b],rfl,Wb _⟩
structure Sw(js:List Jnt)(kvs:List (List Key×D)):Prop where
 ks:kvs.map (·.1)=js.flatten.map kE
 at':∀j∈js,∀e∈j,cg kvs (kE e)=some (jD j)
section
variable {js:List Jnt}{xs:List Str}{kvs:List (List Key×D)}{S:Str->Prop}
def Sw.get(T:Sw js kvs)(hj:j∈js)(he:e∈j):jL (.dt kvs) (eD e)=some (jD j,false):=by
 show((some (cg kvs (kE e))).bind fun o=>o.bind fun d=>some (d,false))=_;rw[T.at' j hj e he];rfl
def LW(p:Bd):Txt.mul minus (leE p).2++(leE p).1=bd p:=by
 obtain⟨t,n⟩:=p;have h:=Ib (t,n);have:=sI (d:=(leE (t,n)).2) (n:=n) (by lia) (by lia)
 show Txt.mul minus (leE (t,n)).2++n=_;rw[this];cases t<;>rfl
def ED(J:Js js xs)(T:Sw js kvs)(cl:∀e f,Mt js e f->S f.1->S e.1)(nm:∀x∈xs,Nm x)(hx:xs.length<=60)(hb:b∈js.flatten)(hs:¬ S b.1)(he:[b]∈js\/∀f,[f]∈js->S f.1):gi [.dt kvs,eD b]=some (stD (!isF js b,wkF (Mt js) b 69 [dm b]),false):=by
 have b2:=J.en.mp hb;have w0:Wk js xs S [dm b]:=⟨by simp,(fun j hj=>by cases hj),by simp,fun p hp=>by rw[Wa.mp hp];exact b2.1,fun p hp=>by rw[Wa.mp hp];exact hs⟩
 obtain⟨r,sf,ew,rfl⟩:=Iz (f:=ay (fC (.bl true))) (B:=gU)
  (fun m st=>∃ps p s4,st=[.v (.dt kvs),.v (eD b),.o (.lst (ps.map bdD)),.v (eD (leE p)),s4]/\Wk js xs S (ps++[p])/\leE ((ps++[p]).headD z0)=b/\s4.isIo=false/\m=70-ps.length/\wkF (Mt js) b (69-ps.length) (ps++[p])=wkF (Mt js) b 69 [dm b])
  (fun r sf=>r=.d (stD (!isF js b,wkF (Mt js) b 69 [dm b]))) (by
   rintro m st ⟨ps,p,s4,rfl,W,hd,i4,rfl,hw⟩;refine⟨_,rfl,?_⟩;have np:Nm p.2:=nm _ (W.xs p (by simp))
   have ln:=W.len;rw[Xa,We]at ln;have i0:bIx (eD (leE p)) (.int 0)=some (.str (leE p).1,false):=bG (i:=0) rfl;have i1:bIx (eD (leE p)) (.int 1)=some (.int (leE p).2,false):=bG (i:=1) rfl;have l2:=Ib p;have ap:ck (fM isL bx 2 (aa (fOp cE (fOp mL (fC (.str "-")) (fOp bIx (aB 3) (fC (.int 1)))) (fOp bIx (aB 3) (fC (.int 0)))) af)) [.v (.dt kvs),.v (eD b),.o (.lst (ps.map bdD)),.v (eD (leE p)),s4]=some (.nx [.v (.dt kvs),.v (eD b),.o (.lst ((ps++[p]).map bdD)),.v (eD (leE p)),s4]):=by
    refine bV (iM rfl rfl rfl (ag (au (au rfl (au rfl rfl rfl rfl i1) rfl rfl (tX ⟨by lia,by lia,by decide +kernel⟩)) (au rfl rfl rfl rfl i0) rfl rfl (pe ?_)) rfl) rfl rfl rfl (dJ (by rw[Za];lia)) ?_)
    ·have:=(qq (p:=p) np).2;rw[<-LW p,AG]at this;show(Txt.mul minus (leE p).2).length+(leE p).1.length<=_;lia
    ·rw[Yc];show [_,_,Sl.o (.lst (ps.map bdD++[D.str (Txt.mul minus (leE p).2++(leE p).1)])),_,_]=_;rw[LW];rfl
   have hr:riE p∈js.flatten:=J.en.mpr ⟨W.xs p (by simp),Ic p⟩
   obtain⟨j,hj,hrj⟩:=Wf.mp hr;have tu:∀x2 x4,bL (aa (fOp bIx (aB 3) (fC (.int 0))) (aa (fOp tQ (fC (.int 1)) (fOp bIx (aB 3) (fC (.int 1)))) af)) [.v (.dt kvs),.v (eD b),x2,.v (eD (leE p)),x4]=some (.d (eD (riE p)),[.v (.dt kvs),.v (eD b),x2,.v (eD (leE p)),x4]):=fun x2 x4=>by
    rw[LV];exact bo (ag (au rfl rfl rfl rfl i0) (ag (au rfl (au rfl rfl rfl rfl i1) rfl rfl rfl) rfl)) rfl (by simp)
   have gt:bb (fOp jL (aB 0) (bL (aa (fOp bIx (aB 3) (fC (.int 0))) (aa (fOp tQ (fC (.int 1)) (fOp bIx (aB 3) (fC (.int 1)))) af)))) 4 [.v (.dt kvs),.v (eD b),.o (.lst ((ps++[p]).map bdD)),.v (eD (leE p)),s4]=some (.nx [.v (.dt kvs),.v (eD b),.o (.lst ((ps++[p]).map bdD)),.v (eD (leE p)),.v (jD j)]) :=
    cC (au rfl (tu _ _) rfl rfl (T.get hj hrj)) (bp (t:=s4) rfl i4)
   have la:(ps++[p]).getLastD z0=p:=v9 ps p z0;have tst:ay (fOp lK (fCB ce (aa (aB 4) af)) (fC (.int 1))) [.v (.dt kvs),.v (eD b),.o (.lst ((ps++[p]).map bdD)),.v (eD (leE p)),.v (jD j)]=some (decide ((j.length:Int)=1),[.v (.dt kvs),.v (eD b),.o (.lst ((ps++[p]).map bdD)),.v (eD (leE p)),.v (jD j)]):=aC (au (aL rfl rfl (m8 j)) rfl rfl rfl Ol) rfl;rw[show 69 - ps.length=(68 - ps.length)+1 by lia,wkF,la]at hw
   rcases J.ln j hj with lj|lj
   ·left;obtain⟨a,rfl⟩:=j1c lj;have ea:riE p=a:=Wa.mp hrj;have hj':[riE p]∈js:=by rw[ea];exact hj
    rw[dif_neg fun z=>(AN z).1.sym.free J hj']at hw;have fb:isF js b=true:=Ae (he.resolve_right fun z=>W.ns p (by simp) (z _ hj'))
    refine⟨.d (stD (false,ps++[p])),[.v (.dt kvs),.v (eD b),.o (.lst ((ps++[p]).map bdD)),.v (eD (leE p)),.v (jD [a])],?_,by rw[fb,<-hw];rfl⟩
    exact aq ap (aq gt (gB (f6 tst (aK (bo (ag rfl (ag (aL rfl rfl rfl) rfl)) rfl (by simp))))))
   ·obtain⟨a,c,rfl⟩:=j2c lj;have mt:=Ia J hj hrj;have ix:bIx (jD [a,c]) (.int (if decide (a=riE p) then 1 else 0))=some (eD (if a=riE p then c else a),false):=by
     by_cases q:a=riE p
     ·rw[Ag q,Ae q];exact HY a c []
     ·rw[Aj q,Af q];exact rj a [c]
    generalize hf:(if a=riE p then c else a)=f at mt ix;have st3:bb (fOp bIx (aB 4) (fCB (b1 Nv) (aa (fOp lK (fOp bIx (aB 4) (fC (.int 0))) (bL (aa (fOp bIx (aB 3) (fC (.int 0))) (aa (fOp tQ (fC (.int 1)) (fOp bIx (aB 3) (fC (.int 1)))) af)))) af))) 3 [.v (.dt kvs),.v (eD b),.o (.lst ((ps++[p]).map bdD)),.v (eD (leE p)),.v (jD [a,c])]=some (.nx [.v (.dt kvs),.v (eD b),.o (.lst ((ps++[p]).map bdD)),.v (eD f),.v (jD [a,c])]) :=
     cC (au rfl (aL (ag (au (au rfl rfl rfl rfl (rj a [c])) (tu _ _) rfl rfl eqE) rfl) rfl rfl) rfl rfl ix) rfl
    have t5:ay (fOp lK (aB 3) (aB 1)) [.v (.dt kvs),.v (eD b),.o (.lst ((ps++[p]).map bdD)),.v (eD f),.v (jD [a,c])]=some (decide (f=b),[.v (.dt kvs),.v (eD b),.o (.lst ((ps++[p]).map bdD)),.v (eD f),.v (jD [a,c])]):=aC (au rfl rfl rfl rfl eqE) rfl;by_cases q:f=b
    ·left;rw[dif_neg fun z=>(AN z).2 ((Mt.uni J (AN z).1 mt).trans q)]at hw;have fb:isF js b=false:=Af fun z=>mt.free J (q ▸ z);refine⟨.d (stD (true,ps++[p])),[.v (.dt kvs),.v (eD b),.o (.lst ((ps++[p]).map bdD)),.v (eD f),.v (jD [a,c])],?_,by rw[fb,<-hw];rfl⟩
     refine aq ap (aq gt (aq (cW tst rfl) (aq st3 ?_)));exact f6 (eS t5 (Ae q)) (aK (bo (ag rfl (ag (aL rfl rfl rfl) rfl)) rfl (by simp)))
    ·right;have hz:∃g,Mt js (riE p) g/\g≠b:=⟨f,mt,q⟩;rw[dif_pos hz,Mt.uni J hz.choose_spec.1 mt]at hw;obtain⟨W2,le⟩:=W.step J cl (e:=f) (by rw[la];exact mt) (by rw[hd];exact q)
     have l2:=W2.len;rw[Xa,Xa,We,We]at l2
     refine⟨[.v (.dt kvs),.v (eD b),.o (.lst ((ps++[p]).map bdD)),.v (eD f),.v (jD [a,c])],70-(ps++[p]).length,aq ap (aq gt (aq (cW tst rfl) (aq st3 (cW (eS t5 (Af q)) rfl)))),by rw[Xa,We];lia,ps++[p],dm f,.v (jD [a,c]),by rw[le],W2,by rw[wf W.ne];exact hd,rfl,rfl,by rw[Xa,We,<-hw];congr 1;lia⟩)
  100 70 [.v (.dt kvs),.v (eD b),.o (.lst []),.v (eD b),.e] (by lia) ⟨[],dm b,.e,by rw[ng b2.2];rfl,w0,by exact ng b2.2,rfl,rfl,rfl⟩
 exact aJ (o:=.rt (.d (stD (!isF js b,wkF (Mt js) b 69 [dm b]))) sf) rfl (aq rfl (aq rfl ew)) rfl
def IA{gone:List Jnt}{j:Jnt}{a4 a5 a6 a7 s3:Sl}(nd:(gone.flatten++j).Nodup)(hl:(gone.flatten++j).length<100000)(i3:s3.isIo=false)(k0:List (List Key×D))(T:Sw gone k0) :
  ∃k1 t3,eT (gN 3) fv (j.map eD) [.v JS,.o (.dt k0),.v (jD j),s3,a4,a5,a6,a7]=some (.nx [.v JS,.o (.dt k1),.v (jD j),t3,a4,a5,a6,a7])/\Sw (gone++[j]) k1/\t3.isIo=false:=by
 obtain⟨sf,el,k1,t3,rfl,h1,h2,h3,i3'⟩:=bM (fg:=gN 3) (B:=fv) eD j (fun g st=>∃k s3,st=[.v JS,.o (.dt k),.v (jD j),s3,a4,a5,a6,a7]/\k.map (·.1)=(gone.flatten++g).map kE/\(∀j'∈gone,∀e∈j',cg k (kE e)=some (jD j'))/\(∀e∈g,cg k (kE e)=some (jD j))/\s3.isIo=false)
  (by
   rintro g e r st ha ⟨k,s3,rfl,h1,h2,h3,i3⟩;have hk:kE e∉k.map (·.1):=by
    rw[h1];intro z;obtain⟨f,hf,e'⟩:=Qb.mp z;have:=xR e';subst this;rw[ha,show gone.flatten++(g++f::r)=(gone.flatten++g)++f::r by simp,Zg]at nd
    exact nd.2.2 f hf f Va rfl
   have kl:k.length<100000:=by
    have e1:=congrArg List.length h1;rw[Za,Za,Xa]at e1;have e2:=congrArg List.length ha;rw[Xa]at hl e2;lia
   refine⟨[.v JS,.o (.dt k),.v (jD j),.v (eD e),a4,a5,a6,a7],[.v JS,.o (.dt (k++[(kE e,jD j)])),.v (jD j),.v (eD e),a4,a5,a6,a7],bp (t:=s3) rfl i3,?_,k++[(kE e,jD j)],.v (eD e),rfl,?_,fun j' hj' f hf=>cN (h2 j' hj' f hf),fun f hf=>?_,rfl⟩
   ·exact iG rfl rfl rfl rfl rfl rfl rfl rfl (by rw[Ih kl,pQ hk])
   ·rw[Yc,h1,<-Zf,Yc (l₁:=gone.flatten++g)];rfl
   ·rcases Zc.mp hf with hf|hf
    ·exact cN (h3 f hf)
    ·rw[Wa.mp hf];exact nh hk)
  j [] [.v JS,.o (.dt k0),.v (jD j),s3,a4,a5,a6,a7] rfl ⟨k0,s3,rfl,by rw[Yg];exact T.ks,T.at',(fun e he=>by cases he),i3⟩
 refine⟨k1,t3,el,⟨?_,fun j' hj' e he=>?_⟩,i3'⟩
 ·rw[h1,Qh];simp
 ·rcases Zc.mp hj' with z|z
  ·exact h2 j' z e he
  ·rw[Wa.mp z]at he ⊢;exact h3 e he
def IB(nd:js.flatten.Nodup)(hl:js.flatten.length<100000):∃k t2 t3,eT (gN 2) fw (js.map jD) [.v JS,.o (.dt []),.e,.e,a4,a5,a6,a7]=some (.nx [.v JS,.o (.dt k),t2,t3,a4,a5,a6,a7])/\Sw js k/\t2.isIo=false/\t3.isIo=false:=by
 obtain⟨sf,el,k,t2,t3,rfl,T,i2,i3⟩:=bM (fg:=gN 2) (B:=fw) jD js (fun g st=>∃k s2 s3,st=[.v JS,.o (.dt k),s2,s3,a4,a5,a6,a7]/\Sw g k/\s2.isIo=false/\s3.isIo=false)
  (by
   rintro g j r st ha ⟨k,s2,s3,rfl,T,i2,i3⟩;have e1:js.flatten=(g.flatten++j)++r.flatten:=by rw[ha,Qh,Vg];simp
   rw[e1,Zg]at nd;rw[e1,Xa]at hl;obtain⟨k1,t3,e2,T2,i3'⟩:=IA (JS:=JS) (a4:=a4) (a5:=a5) (a6:=a6) (a7:=a7) nd.1 (by lia) i3 k T
   exact⟨_,_,bp (t:=s2) rfl i2,cS (db rfl rfl) e2,k1,.v (jD j),t3,rfl,T2,rfl,i3'⟩)
  js [] [.v JS,.o (.dt []),.e,.e,a4,a5,a6,a7] rfl ⟨[],.e,.e,rfl,⟨rfl,fun j hj=>by cases hj⟩,rfl,rfl⟩
 exact⟨k,t2,t3,el,T,i2,i3⟩
def Om(j:Jnt):Bool:=decide ((j.length:Int)=1)
def hdE(j:Jnt):End:=j.headD (Str.empty,0)
def fr1(js:List Jnt):List End:=(js.filter Om).map hdE
def fr1_mem:f∈fr1 js↔[f]∈js:=by
 unfold fr1;constructor
 ·intro h;obtain⟨j,hj,rfl⟩:=Qb.mp h;obtain⟨h1,h2⟩:=Wh.mp hj;have:(j.length:Int)=1:=Ak h2;obtain⟨a,rfl⟩:=j1c (by lia:j.length=1)
  exact h1
 ·intro h;exact Qb.mpr ⟨[f],Wh.mpr ⟨h,rfl⟩,rfl⟩
def KU(h:J12 js):b9 (gN 0) fz fA 1 (js.map jD) [.e]=some ((fr1 js).map eD,[.e]):=by
 have:=dS (fg:=gN 0) (fc:=fz) (fe:=fA) (k:=1) jD (fun j=>eD (hdE j)) Om [.e] js fun j hj=>by
  refine⟨[.v (jD j)],[.v (jD j)],rfl,aC (au (aL rfl rfl (m8 j)) rfl rfl rfl Ol) rfl,fun _=>rfl,fun _=>⟨.d (eD (hdE j)),[.v (jD j)],[.v (jD j)],?_,rfl,rfl⟩⟩;obtain⟨a,r,rfl,_⟩:=jne (h j hj);exact au rfl rfl rfl rfl (rj a r)
 rw[this];unfold fr1;rw[Ze];rfl
theorem zK:∀js:List Jnt,(fr1 js).Sublist js.flatten
 |[]=>List.Sublist.refl _
 | j::r=>by
  have ih:=zK r;unfold fr1 at ih ⊢;rw[Vg,BS];split
  ·rename_i h
   have:(j.length:Int)=1:=Ak h;obtain⟨a,rfl⟩:=j1c (by lia:j.length=1)
   exact ih.cons₂ a
  ·exact ih.trans (C3 _ _)
def nj(L:List End):(aA L).Pairwise fun a b=>ltN 40 (eD b) (eD a)=false:=by
 have hs:=ld (HF L);rw[(aE L).1]at hs;exact Xh.mp hs
def KW{L:List End}(h:L.Pairwise fun a b=>ltN 40 (eD b) (eD a)=false):aA L=L:=by
 have e:=dU (HF L) (List.Perm.refl _) (Xh.mpr h);rw[(aE L).1]at e;have:=congrArg (List.map unE) e;rw[Ze,Ze,show(unE ∘ eD)=id from funext HE,Yn,Yn]at this;exact this.symm
def KY(nd:js.flatten.Nodup):aA (fr1 js)=fr js:=by
 have h1:aA (fr js)=fr js:=KW ((nj js.flatten).sublist A2);have nf:(fr js).Nodup:=AR A2 ((aE js.flatten).2.nodup_iff.mpr nd);have n1:(fr1 js).Nodup:=nd.sublist (zK js);rw[<-h1];exact eY ((Vm n1 nf).mpr fun e=>fr1_mem.trans fr_mem.symm)
def KZ{s1 s2 s3 s7:Sl}{ps:List Bd}(hp:∀p∈ps,Nm p.2)(hl:ps.length<=100){ns:List Str}(hn:ns.length<=100)(hk:Sn sk ns)(i7:s7.isIo=false) :
  ∃sk' t7,eT (gN 7) fB (ps.map bdD) [JS,s1,s2,s3,a4,.o (.dk sk),a6,s7]=some (.nx [JS,s1,s2,s3,a4,.o (.dk sk'),a6,t7])/\Sn sk' (ns++ps.map (·.2))/\t7.isIo=false:=by
 obtain⟨sf,el,sk',t7,rfl,h1,i7'⟩:=bM (fg:=gN 7) (B:=fB) bdD ps (fun g st=>∃sk s7,st=[JS,s1,s2,s3,a4,.o (.dk sk),a6,s7]/\Sn sk (ns++g.map (·.2))/\s7.isIo=false)
  (by
   rintro g p r st ha ⟨sk,s7,rfl,h1,i7⟩;have np:=hp p (by rw[ha];simp)
   have gl:=congrArg List.length ha;rw[Xa,Qc]at gl;have kl:=h1.ln;rw[Xa,Za]at kl;have st':mP (.dk sk) (.str p.2) (.bl true)=some (.dk (gZ sk (.inr p.2) (.bl true))):=by
    show(if sk.length<100000 then some (D.dk (gZ sk (.inr p.2) (.bl true))) else none)=_;rw[Ag (by lia)]
   refine⟨[JS,s1,s2,s3,a4,.o (.dk sk),a6,.v (bdD p)],[JS,s1,s2,s3,a4,.o (.dk (gZ sk (.inr p.2) (.bl true))),a6,.v (bdD p)],bp (t:=s7) rfl i7,?_,gZ sk (.inr p.2) (.bl true),.v (bdD p),rfl,⟨fun n=>?_,?_⟩,rfl⟩
   ·exact iG rfl rfl rfl rfl (Gj rfl rfl rfl rfl rfl rfl (HW np)) rfl rfl rfl st'
   ·rw[we,h1.ks n,Yc,<-Zf,Zc (s:=ns++g.map (·.2))];show(Sum.inr n:Key)=.inr p.2\/_↔_\/n∈[p.2];rw[Wa];exact⟨fun h=>h.elim (fun z=>.inr (Sum.inr.inj z)) .inl,fun h=>h.elim .inr fun z=>.inl (by rw[z])⟩
   ·have:=zx (kvs:=sk) (k:=(.inr p.2:Key)) (d:=.bl true);rw[Yc,Xa,Xa,Za];show _<=ns.length+(g.length+1)
    lia)
  ps [] [JS,s1,s2,s3,a4,.o (.dk sk),a6,s7] rfl ⟨sk,s7,rfl,by rw[CB,Yg];exact hk,i7⟩
 exact⟨sk',t7,el,h1,i7'⟩
def LX:Sl->Rs|.v d=>.d d|_=>.s 1
def sO(J:Js js xs)(nm:∀x∈xs,Nm x)(hx:xs.length<=30):fJ [.tup (js.map jD)]=some (.tup ((SS js).map stD),false):=by
 have fl:js.flatten.length<=60:=by
  have:=J.pf.length_eq;rw[Xa,Za,Za]at this;lia
 have jl:js.length<=60:=by
  have:∀l:List Jnt,J12 l->l.length<=l.flatten.length:=fun l=>by
   induction l with
   |nil=>intro _;simp
   |cons j r ih=>
    intro h;have h1:=ih fun x hx=>h x (Vb _ hx);have h2:=h j Va;rw[Vg,Xa,Qc];lia
  have:=this js J.ln;lia
 obtain⟨kvs,t2,t3,es,T,i2,i3⟩:=IB (js:=js) (JS:=.tup (js.map jD)) (a4:=.e) (a5:=.e) (a6:=.e) (a7:=.e) J.nd (by lia)
 have lT:xl [.dt kvs]=some (.lst (js.flatten.map eD),true):=by
  show some (D.lst (kvs.map fun kv=>D.tup (kv.1.map fH)),true)=_;have:(kvs.map fun kv=>D.tup (kv.1.map fH))=(kvs.map (·.1)).map fun k=>D.tup (k.map fH):=by rw[Ze];rfl
  rw[this,T.ks,Ze];rfl
 have s1:=d8 (d:=.lst ((fr1 js).map eD)) (fr1 js) (by have:=Yl Om js;unfold fr1;rw[Za];lia) rfl
 rw[KY J.nd]at s1;have s2:=d8 (d:=.lst (js.flatten.map eD)) js.flatten (by lia) rfl
 have frl:(fr js).length<=60:=by
  have:=Yl (isF js) (aA js.flatten);rw[fK]at this;unfold fr;lia
 have ad:cE (.lst ((fr js).map eD)) (.lst ((aA js.flatten).map eD))=some (.lst ((fr js++aA js.flatten).map eD),true):=by
  rw[uJ (by rw[Za,Za,fK js.flatten];lia),Yc]
 obtain⟨sf,el,x1,x3,x7,ss,sk,rfl,hx1,hss,o,hk,hg,j3,j7⟩:=bM (fg:=gN 3) (B:=iD) eD (fr js++aA js.flatten) (fun gone st=>∃x1 x3 x7 ss sk,st=[.v (.tup (js.map jD)),x1,t2,x3,.o (.lst ((fr js).map eD)),.o (.dk sk),.o (.lst (ss.map stD)),x7]/\(x1=.o (.dt kvs)\/x1=.v (.dt kvs))/\gone.foldl (ni (Mt js) (isF js)) []=ss/\So js xs ss/\Sn sk (nmz ss)/\(∀e∈gone,e.1∈nmz ss)/\x3.isIo=false/\x7.isIo=false)
  (by
   rintro gone e rest st ha ⟨x1,x3,x7,ss,sk,rfl,hx1,hss,o,hk,hg,j3,j7⟩;have hne:e∈js.flatten:=by
    have:e∈fr js++aA js.flatten:=by rw[ha];simp
    rcases Zc.mp this with z|z
    ·have:=fr_mem.mp z;exact Wf.mpr ⟨[e],this,by simp⟩
    ·exact(aE js.flatten).2.mem_iff.mp z
   have ix:bIx (eD e) (.int 0)=some (.str e.1,false):=bG (i:=0) rfl;have tst:∀st:En,st[3]?=some (.v (eD e))->st[5]?=some (.o (.dk sk))->ay (fOp (GN true) (fOp bIx (aB 3) (fC (.int 0))) (aB 5)) st=some (!decide (e.1∈nmz ss),st):=fun st h3 h5=>by
    have v3:aB 3 st=some (.d (eD e),st):=by unfold aB;rw[h3]
    have v5:aB 5 st=some (.s 5,st):=by unfold aB;rw[h5]
    refine aC (au (au v3 rfl rfl rfl ix) v5 rfl (by show(st[5]?).bind Sl.get=_;rw[h5];rfl) (z:=(.bl (!decide (e.1∈nmz ss)),false)) ?_) rfl
    show some (D.bl (!(cg sk (.inr e.1)).isSome),false)=_;rw[zw];congr 4;exact decide_eq_decide.mpr (hk.ks e.1)
   by_cases c:e.1∈nmz ss
   ·refine⟨[.v (.tup (js.map jD)),x1,t2,.v (eD e),.o (.lst ((fr js).map eD)),.o (.dk sk),.o (.lst (ss.map stD)),x7],[.v (.tup (js.map jD)),x1,t2,.v (eD e),.o (.lst ((fr js).map eD)),.o (.dk sk),.o (.lst (ss.map stD)),x7],bp (t:=x3) rfl j3,cW (eS (tst _ rfl rfl) (by rw[Ae c];rfl)) rfl,x1,.v (eD e),x7,ss,sk,rfl,hx1,by rw[BE,hss];exact Ag c,o,hk,fun f hf=>?_,rfl,j7⟩
    rcases Zc.mp hf with z|z
    ·exact hg f z
    ·rw[Wa.mp z];exact c
   ·have he:[e]∈js\/∀f,[f]∈js->f.1∈nmz ss:=by
     rcases xS ha with z|z
     ·exact .inl (fr_mem.mp z)
     ·exact .inr fun f hf=>hg f (z f (fr_mem.mpr hf))
    have ew:=ED (S:=(·∈nmz ss)) J T (gq J o.ne o.sub) nm (by lia) hne c he
    obtain⟨kv2,_,T2⟩:=og J.ln J.nd (by lia)
    have fd:=(uP (S:=(·∈nmz ss)) J T2 (gq J o.ne o.sub) nm (by lia) hne c).2
    have o2:=o.step J fd he;have hst:(gone++[e]).foldl (ni (Mt js) (isF js)) []=ss++[(!isF js e,wkF (Mt js) e 69 [dm e])]:=by rw[BE,hss];exact Aj c
    generalize hps:wkF (Mt js) e 69 [dm e]=ps at ew fd o2 hst;generalize hs':(!isF js e,ps)=s at ew o2 hst;have sp:s.2=ps:=by rw[<-hs']
    rw[<-sp]at fd;have nl:(nmz (ss++[s])).length<=60:=by
     have:=jS _ xs o2.nd o2.xs;lia
    rw[gr,Xa,Za]at nl;have sl:ss.length<=60:=by
     have:=jC ss o.ne;have h2:(nmz ss).length=(ss.flatMap (·.2)).length:=Za _;lia
    have pn:∀p∈s.2,Nm p.2:=fun p hp=>nm _ (fd.wk.xs p hp);obtain⟨sk',t7,e7,hk',i7⟩:=KZ (JS:=.v (.tup (js.map jD))) (s1:=.v (.dt kvs)) (s3:=.v (eD e)) (a4:=.o (.lst ((fr js).map eD))) (a6:=.o (.lst ((ss++[s]).map stD))) (s7:=x7) pn (by lia) (ns:=nmz ss) (by lia) hk j7
    have es:cQ [LX x1,.d (eD e)] [.v (.tup (js.map jD)),x1,t2,.v (eD e),.o (.lst ((fr js).map eD)),.o (.dk sk),.o (.lst (ss.map stD)),x7]=some ([.dt kvs,eD e],[.v (.tup (js.map jD)),.v (.dt kvs),t2,.v (eD e),.o (.lst ((fr js).map eD)),.o (.dk sk),.o (.lst (ss.map stD)),x7]):=by
     rcases hx1 with rfl|rfl<;>rfl
    have v1:aB 1 [.v (.tup (js.map jD)),x1,t2,.v (eD e),.o (.lst ((fr js).map eD)),.o (.dk sk),.o (.lst (ss.map stD)),x7]=some (LX x1,[.v (.tup (js.map jD)),x1,t2,.v (eD e),.o (.lst ((fr js).map eD)),.o (.dk sk),.o (.lst (ss.map stD)),x7]):=by
     rcases hx1 with rfl|rfl<;>rfl
    have ap:ck (fM isL bx 6 (aa (aN gi (aa (aB 1) (aa (aB 3) af))) af)) [.v (.tup (js.map jD)),x1,t2,.v (eD e),.o (.lst ((fr js).map eD)),.o (.dk sk),.o (.lst (ss.map stD)),x7]=some (.nx [.v (.tup (js.map jD)),.v (.dt kvs),t2,.v (eD e),.o (.lst ((fr js).map eD)),.o (.dk sk),.o (.lst ((ss++[s]).map stD)),x7]) :=
     bV (iM rfl rfl rfl (ag (aI (ag v1 rfl) es ew) rfl) rfl rfl rfl (dJ (by rw[Za];lia)) (by rw[Yc];rfl))
    have il:bIx (.lst ((ss++[s]).map stD)) (.int (-1))=some (stD s,false):=iF (kZ (by rw[Xa,We,Nat.add_sub_cancel,Zi (Wb _),Nat.sub_self];rfl))
    have ib:bIx (stD s) (.int 1)=some (.tup (s.2.map bdD),false):=bG (i:=1) rfl;refine⟨[.v (.tup (js.map jD)),x1,t2,.v (eD e),.o (.lst ((fr js).map eD)),.o (.dk sk),.o (.lst (ss.map stD)),x7],_,bp (t:=x3) rfl j3,f6 (eS (tst _ rfl rfl) (by rw[Af c];rfl)) (aq ap (cS (db (au (au rfl (qI rfl rfl rfl) rfl rfl il) rfl rfl rfl ib) rfl) e7)),.v (.dt kvs),.v (eD e),t7,ss++[s],sk',rfl,.inr rfl,hst,o2,by rw[gr];exact hk',fun f hf=>?_,rfl,i7⟩
    rw[gr];rcases Zc.mp hf with z|z
    ·exact Vf _ (hg f z)
    ·refine Xd _ (Qb.mpr ⟨s.2.headD z0,Xb (dQ fd.wk.ne),?_⟩)
     rw[Wa.mp z,<-fd.hd];rfl)
  (fr js++aA js.flatten) [] [.v (.tup (js.map jD)),.o (.dt kvs),t2,t3,.o (.lst ((fr js).map eD)),.o (.dk []),.o (.lst []),.e] rfl ⟨.o (.dt kvs),t3,.e,[],[],rfl,.inl rfl,rfl,⟨fun s hs=>(by cases hs),fun j hj=>(by cases hj),Wl,fun n hn=>(by cases hn)⟩,⟨fun n=>⟨fun h=>(by cases h),fun h=>(by cases h)⟩,Wb _⟩,fun f hf=>(by cases hf),i3,rfl⟩
 rw[show SS js=ss from hss];refine aJ (o:=.rt (.d (.tup (ss.map stD))) [.v (.tup (js.map jD)),x1,t2,x3,.o (.lst ((fr js).map eD)),.o (.dk sk),.o (.lst (ss.map stD)),x7]) rfl ?_ rfl;refine aq rfl (aq (cS (db rfl rfl) es) ?_);refine aq (dY (aL (ag (bF (db rfl rfl) (rf (n:=60) (by rw[Za];exact jl) (by decide) rfl) (KU J.ln)) rfl) rfl s1) rfl) ?_
 refine aq rfl (aq rfl ?_);exact aq (cS (su (au rfl (aL (ag (aL rfl rfl lT) rfl) rfl s2) rfl rfl ad) rfl) el) (aK (aL rfl rfl rfl))
end
end K17
namespace K17
open PySem L2 VF VL VF22
section
variable {js:List Jnt}{xs:List Str}
def EE(a b:End):ltN 40 (eD a) (eD b)=true↔ltS a.1 b.1=true\/(a.1=b.1/\a.2<b.2):=by
 show ltL (ltN 39) [.str a.1,.int a.2] [.str b.1,.int b.2]=true↔_;by_cases e:a.1=b.1
 ·rw[e,bJ,pB];by_cases e2:a.2=b.2
  ·rw[e2,bJ];exact⟨fun z=>(by cases z),fun z=>by rcases z with z|z;(· cases z);exact absurd z.2 (Db _)⟩
  ·rw[bj (by intro z;injection z with z;exact e2 z)]
   show decide (a.2<b.2)=true↔_;rw[decide_eq_true_eq];exact⟨fun z=>.inr ⟨rfl,z⟩,fun z=>by rcases z with z|z;(· cases z);exact z.2⟩
 ·rw[bj (by intro z;injection z with z;exact e z)]
  show ltS a.1 b.1=true↔_;exact⟨.inl,fun z=>z.elim id fun w=>absurd w.1 e⟩
theorem Qn:∀{a b g r:List α}{e:α},a++b=g++e::r->a.Pairwise R->b.Pairwise R->
  (e∈a/\(∀f∈g,f∈a/\R f e)/\∀x∈a,x∉g->x=e\/R e x)\/((∀x∈a,x∈g)/\(∀f∈g,f∈a\/R f e)/\∀x∈b,x∉g->x=e\/R e x)
 | [],b,g,r,e,h,_,pb=>by
  rw[Vk]at h;rw[h,List.pairwise_append,Xe]at pb;refine .inr ⟨fun x hx=>(by cases hx),fun f hf=>.inr (pb.2.2 f hf e (.head _)),fun x hx n=>?_⟩
  rw[h]at hx;rcases Zc.mp hx with z|z
  ·exact absurd z n
  ·rcases Wc.mp z with z|z
   ·exact .inl z
   ·exact .inr (pb.2.1.1 x z)
 | y::a,b,[],r,e,h,pa,_=>by
  injection h with h1 _
  subst h1;rw[Xe]at pa;refine .inl ⟨.head _,fun f hf=>(by cases hf),fun x hx _=>?_⟩
  rcases Wc.mp hx with z|z
  ·exact .inl z
  ·exact .inr (pa.1 x z)
 | y::a,b,z::g,r,e,h,pa,pb=>by
  injection h with h1 h2
  subst h1;rw[Xe]at pa;rcases Qn h2 pa.2 pb with⟨c1,c2,c3⟩|⟨c1,c2,c3⟩
  ·refine .inl ⟨Vb _ c1,fun f hf=>?_,fun x hx n=>?_⟩
   ·rcases Wc.mp hf with z|z
    ·rw[z];exact⟨.head _,pa.1 e c1⟩
    ·exact⟨Vb _ (c2 f z).1,(c2 f z).2⟩
   ·rcases Wc.mp hx with z|z
    ·exact absurd (z ▸ Va) n
    ·exact c3 x z fun w=>n (Vb _ w)
  ·refine .inr ⟨fun x hx=>?_,fun f hf=>?_,fun x hx n=>c3 x hx fun w=>n (Vb _ w)⟩
   ·rcases Wc.mp hx with z|z
    ·rw[z];exact .head _
    ·exact Vb _ (c1 x z)
   ·rcases Wc.mp hf with z|z
    ·exact .inl (z ▸ Va)
    ·exact(c2 f z).imp (Vb _) id
abbrev NL(a b:End):Prop:=ltN 40 (eD b) (eD a)=false
def Qo{ps:List Bd}(hs:ps≠[])(nd:(nms ps).Nodup)(h:NL (leE (ps.headD z0)) (riE (ps.getLastD z0))):co ps=ps:=by
 unfold co;by_cases l1:ps.length=1
 ·rw[Ag l1];obtain⟨p,rfl⟩:=List.length_eq_one_iff.mp l1;obtain⟨t,n⟩:=p;cases t with
  |false=>rfl
  |true=>
   have:ltN 40 (eD (riE (true,n))) (eD (leE (true,n)))=true:=(EE _ _).mpr (.inr ⟨rfl,(by decide:(0:Int)<1)⟩)
   exact absurd (this.symm.trans h) nofun
 ·rw[Aj l1];have ne:=KC nd l1 hs;have:ltS (ps.headD z0).2 (ps.getLastD z0).2=true:=by
   cases c:ltS (ps.headD z0).2 (ps.getLastD z0).2 with
   |true=>rfl
   |false=>
    cases d:ltS (ps.getLastD z0).2 (ps.headD z0).2 with
    |true=>
     have:ltN 40 (eD (riE (ps.getLastD z0))) (eD (leE (ps.headD z0)))=true:=(EE _ _).mpr (.inl d);exact absurd (this.symm.trans h) nofun
    |false=>exact absurd (m7 c d) ne
  rw[Ag this]
theorem Qp{ps:List Bd}(hs:ps≠[])(nd:(nms ps).Nodup)(h:∀x:End,x.1∈nms ps->(x.2=0\/x.2=1)->NL (leE (ps.headD z0)) x):cr ps=ps:=by
 cases ps with
 |nil=>exact absurd rfl hs
 |cons p v=>
  obtain⟨t,n⟩:=p;have t0:t=false:=by
   cases t with
   |false=>rfl
   |true=>
    have:=h (n,0) (by unfold nms;simp) (.inl rfl)
    have l:ltN 40 (eD (n,0)) (eD (leE (true,n)))=true:=(EE _ _).mpr (.inr ⟨rfl,(by decide:(0:Int)<1)⟩)
    exact absurd (l.symm.trans this) nofun
  subst t0;have hm:ll (nms ([]++(false,n)::v))=n:=by
   refine m7 ?_ ?_
   ·have m:=kx (ys:=nms ((false,n)::v)) (uM (by simp))
    have:=h (ll (nms ((false,n)::v)),0) m (.inl rfl);cases c:ltS (ll (nms ((false,n)::v))) n with
    |false=>exact c
    |true=>
     have l:ltN 40 (eD (ll (nms ((false,n)::v)),0)) (eD (leE (false,n)))=true:=(EE _ _).mpr (.inl c);exact absurd (l.symm.trans this) nofun
   ·exact uL (by unfold nms;simp)
  have nv:n∉nms v:=by
   have:(n::nms v).Nodup:=nd;exact(Qg.mp this).1
  have:=P5 (u:=[]) (v:=v) (b:=false) hm (by unfold nms;simp) nv
  rw[Vk]at this;rw[this];simp
structure SI(js:List Jnt)(xs:List Str)(g:List End)(ss:List aO):Prop where
 so:So js xs ss
 sn:∀e∈g,e.1∈nmz ss
 cf:∀s∈ss,cs s=s
 hd:∀s∈ss,leE (s.2.headD z0)∈g/\s.1=!isF js (leE (s.2.headD z0))
 pw:ss.Pairwise fun a b=>ltB (rk b) (rk a)=false
def K0(J:Js js xs)(nm:∀x∈xs,Nm x)(hx:xs.length<=30)(ha:fr js++aA js.flatten=g++e::r)(I:SI js xs g ss):SI js xs (g++[e]) (ni (Mt js) (isF js) ss e):=by
 unfold ni;by_cases c:e.1∈nmz ss
 ·rw[Ag c];exact⟨I.so,fun f hf=>(Zc.mp hf).elim (I.sn f) fun z=>by rw[Wa.mp z];exact c,I.cf,fun s hs=>⟨Vf _ (I.hd s hs).1,(I.hd s hs).2⟩,I.pw⟩
 ·rw[Aj c];have fl:js.flatten.length<=60:=by
   have:=J.pf.length_eq;rw[Xa,Za,Za]at this;lia
  obtain⟨kvs,_,T⟩:=og J.ln J.nd (by lia)
  have he:e∈js.flatten:=by
   have:e∈fr js++aA js.flatten:=by rw[ha];simp
   rcases Zc.mp this with z|z
   ·exact Wf.mpr ⟨[e],fr_mem.mp z,by simp⟩
   ·exact(aE js.flatten).2.mem_iff.mp z
  have fd:=(uP (S:=(·∈nmz ss)) J T (gq J I.so.ne I.so.sub) nm (by lia) he c).2
  generalize wkF (Mt js) e 69 [dm e]=ps at fd;have c3:=Qn ha ((nj js.flatten).sublist A2) (nj js.flatten);have hf:[e]∈js\/∀f,[f]∈js->f.1∈nmz ss:=by
   rcases c3 with⟨c1,_,_⟩|⟨c1,_,_⟩
   ·exact .inl (fr_mem.mp c1)
   ·exact .inr fun f hf=>I.sn f (c1 f (fr_mem.mpr hf))
  have lm:ps.getLastD z0∈ps:=Xb (gn fd.wk.ne);have unseen:∀x:End,x.1∈nms ps->x∉g:=fun x hx hg=>by
   obtain⟨p,hp,e1⟩:=Qb.mp hx;exact fd.wk.ns p hp (e1 ▸ I.sn x hg)
  have irr:NL e e:=by
   cases q:ltN 40 (eD e) (eD e) with
   |false=>exact q
   |true=>
    rcases(EE e e).mp q with z|z
    ·rw[pB]at z;cases z
    ·exact absurd z.2 (Db _)
  have cfn:cs (!isF js e,ps)=(!isF js e,ps):=by
   unfold cs;dsimp only;rcases c3 with⟨c1,c2,c3⟩|⟨c1,c2,c3⟩
   ·have fe:[e]∈js:=fr_mem.mp c1;rw[show isF js e=true from Ae fe];have la:[riE (ps.getLastD z0)]∈js:=fd.la.elim id fun m=>(m.free J fe).elim;have:=c3 _ (fr_mem.mpr la) (unseen _ (Vj lm));have:=Qo fd.wk.ne fd.wk.nd (by rw[fd.hd];exact this.elim (fun z=>by rw[z];exact irr) id)
    rw[this];rfl
   ·have fe:[e]∉js:=fun z=>unseen e (by rw[<-fd.hd];exact Vj (Xb (dQ fd.wk.ne))) (c1 e (fr_mem.mpr z))
    rw[show isF js e=false from Af fe]
    have:=Qp fd.wk.ne fd.wk.nd (fun x h1 h2=>by
     obtain⟨p,hp,e1⟩:=Qb.mp h1;have hm:x∈js.flatten:=J.en.mpr ⟨e1 ▸ fd.wk.xs p hp,h2⟩;rw[fd.hd]
     exact(c3 x ((aE js.flatten).2.mem_iff.mpr hm) (unseen x h1)).elim (fun z=>by rw[z];exact irr) id)
    rw[this];rfl
  have o2:=I.so.step J fd hf;refine⟨o2,fun f hf=>?_,fun s hs=>?_,fun s hs=>?_,List.pairwise_append.mpr ⟨I.pw,A6 _ _,fun s hs t ht=>?_⟩⟩
  ·rw[gr];rcases Zc.mp hf with z|z
   ·exact Vf _ (I.sn f z)
   ·refine Xd _ (Qb.mpr ⟨ps.headD z0,Xb (dQ fd.wk.ne),?_⟩);rw[Wa.mp z,<-fd.hd];rfl
  ·rcases Zc.mp hs with z|z
   ·exact I.cf s z
   ·rw[Wa.mp z];exact cfn
  ·rcases Zc.mp hs with z|z
   ·exact⟨Vf _ (I.hd s z).1,(I.hd s z).2⟩
   ·rw[Wa.mp z];dsimp only;rw[fd.hd];exact⟨by simp,rfl⟩
  ·rw[Wa.mp ht];obtain⟨h1,h2⟩:=I.hd s hs;have hn:(ps.headD z0).2=e.1:=by rw[<-fd.hd];rfl
   show ltB (!isF js e,(ps.headD z0).2) (s.1,(s.2.headD z0).2)=false;rw[hn,h2];have nle:NL (leE (s.2.headD z0)) e->ltS e.1 (s.2.headD z0).2=false:=fun z=>by
    cases q:ltS e.1 (s.2.headD z0).2 with|false=>rfl|true=>exact absurd (((EE e (leE (s.2.headD z0))).mpr (.inl q)).symm.trans z) nofun
   rcases c3 with⟨c1,c2,c3⟩|⟨c1,c2,c3⟩
   ·have q:=c2 _ h1;rw[show isF js e=true from Ae (fr_mem.mp c1),show isF js (leE (s.2.headD z0))=true from Ae (fr_mem.mp q.1)];show(_||(_&&ltS e.1 (s.2.headD z0).2))=false;rw[nle q.2];rfl
   ·have fe:[e]∉js:=fun z=>unseen e (by rw[<-fd.hd];exact Vj (Xb (dQ fd.wk.ne))) (c1 e (fr_mem.mpr z))
    rw[show isF js e=false from Af fe];by_cases q:[leE (s.2.headD z0)]∈js
    ·rw[show isF js (leE (s.2.headD z0))=true from Ae q];rfl
    ·rw[show isF js (leE (s.2.headD z0))=false from Af q];have:=(c2 _ h1).resolve_left fun z=>q (fr_mem.mp z);show(_||(_&&ltS e.1 (s.2.headD z0).2))=false;rw[nle this];rfl
theorem zL{P:List End->Prop}{L:List End}(step:∀g e r,L=g++e::r->P g->P (g++[e])):∀(r l:List End),L=l++r->P l->P L|[],l,h,p=>by rw[Yg]at h;rw[h];exact p|e::r,l,h,p=>zL step r (l++[e]) (by rw[h];simp) (step l e r h p)
def Qq(J:Js js xs)(nm:∀x∈xs,Nm x)(hx:xs.length<=30):SI js xs (fr js++aA js.flatten) (SS js) :=
 zL (P:=fun g=>SI js xs g (g.foldl (ni (Mt js) (isF js)) [])) (fun g e r h p=>by
  rw[BE]
  exact K0 J nm hx h p) _ [] rfl ⟨⟨fun s hs=>(by cases hs),fun j hj=>(by cases hj),Wl,fun n hn=>(by cases hn)⟩,fun e h=>(by cases h),fun s h=>(by cases h),fun s h=>(by cases h),.nil⟩
def Qr(J:Js js xs)(nm:∀x∈xs,Nm x)(hx:xs.length<=30):cn (SS js)=SS js:=by
 have I:=Qq J nm hx;obtain⟨cp,_,cw⟩:=zt (SS js);have e:(SS js).map cs=SS js:=by
  have:=Vh (l:=SS js) (f:=cs) (g:=id) I.cf;rw[this,Yn]
 rw[e]at cp;refine KF (l:=SS js) I.so.ne ?_ cp (List.Perm.refl _) cw I.pw;have:=I.so.nd;unfold nmz at this;rw[List.map_flatMap]at this;exact this
end
end K17
namespace VF
open PySem L2
section
variable {st s:En}{r:Rs}{fe:FE}
def wm(h:fe st=some (r,s))(h2:cont s r=some (.int i)):eU fe st=some (some i,s):=by
 simp only[eU,h,Yb,asInt,h2]
end
end VF
namespace K17
open PySem L2 VF VF22
abbrev iH:=List Jnt×List Jnt
def jsD(js:List Jnt):D:=.tup (js.map jD)
def dD(p:iH):D:=.tup [jsD p.1,jsD p.2]
def oh(es:List End)(hl:es.length<64):ci [.tup (es.map eD)]=some (jD (aA es),false):=by
 refine aJ (o:=.rt (.d (jD (aA es))) [.v (.tup (es.map eD))]) rfl (aK (aL (ag (aL (ag rfl rfl) rfl (d8 es hl rfl)) rfl) rfl rfl)) rfl
def Qs(d:D)(ds:List D):oP (.tup (d::ds)) (some 1) none=some (.tup ds,false):=by
 rw[qf];congr 3;unfold cutD;rw[show(some (1:Int))=some ((1:Nat):Int) from rfl,HT.sIx_nat,HT.sIx_none,Bm (by simp),List.drop_one,List.tail_cons]
 exact Yk (by simp)
def zM(h:es≠[]):aA es≠[]:=fun z=>h (Yf (by rw[<-fK,z];rfl))
def On(a b:End):qC [jD [a,b]]=some (dD ([[a,b]],[[a],[b]]),false):=by
 refine aJ (o:=.rt (.d (dD ([[a,b]],[[a],[b]]))) [.v (jD [a,b])]) rfl (aK ?_) rfl;exact bo (ag (bo rfl rfl (by simp)) (ag (bo (ag (bo (ag (au rfl rfl rfl rfl (rj a [b])) rfl) rfl (by simp)) (ag (bo (ag (au rfl rfl rfl rfl (HY a b [])) rfl) rfl (by simp)) rfl)) rfl (by simp)) rfl)) rfl (by simp)
noncomputable def xc(o:End)(os:List End)(x y:End):List Jnt:=bD [aA [o,x],aA (os++[y])]
def zN{os:List End}{acc:List D}{s4:Sl}(hx:bIx (jD [a,b]) (.int k)=some (eD x,false))(hk:1-k=k')(hy:bIx (jD [a,b]) (.int k')=some (eD y,false))(ha:acc.length<1000)(ho:os.length<=9)(i4:s4.isIo=false) :
  ∃t4,fu [.v (jD [a,b]),.v (jD (o::os)),.o (.lst acc),.v (.int k),s4]=some (.nx [.v (jD [a,b]),.v (jD (o::os)),.o (.lst (acc++[jsD (xc o os x y)])),.v (.int k),t4])/\t4.isIo=false:=by
 have j1:=oh [o,x] (by simp)
 have j2:=oh (os++[y]) (by simp;lia)
 have ct:gC (.tup (os.map eD)) (.tup [eD y])=some (.tup ((os++[y]).map eD),false):=by
  rw[tZ (by rw[Za];simp only[Qc,Wg];lia),Yc];rfl
 have srt:=kY (d:=.lst [jD (aA [o,x]),jD (aA (os++[y]))]) [aA [o,x],aA (os++[y])] (by simp) (fun j hj=>by
  rcases Wc.mp hj with rfl|hj
  ·exact zM (by simp)
  ·rw[Wa.mp hj];exact zM (by simp)) rfl
 refine⟨.o (.lst [jD (aA [o,x]),jD (aA (os++[y]))]),?_,rfl⟩;refine aq (dY (x:=.lst [jD (aA [o,x]),jD (aA (os++[y]))]) (jG (ag (aI (ag (bo (ag (au rfl rfl rfl rfl (rj o os)) (ag (au rfl rfl rfl rfl hx) rfl)) rfl (by simp)) rfl) rfl j1) (ag (aI (ag (au (mN rfl (wm rfl rfl) rfl rfl (Qs (eD o) (os.map eD))) (bo (ag (au rfl (au rfl rfl rfl rfl (z:=(.int k',false)) (by rw[<-hk];rfl)) rfl rfl hy) rfl) rfl (by simp)) rfl rfl ct) rfl) rfl j2) rfl)) rfl (by simp)) (bp (t:=s4) rfl i4)) ?_
 exact bV (iM rfl rfl rfl (ag (aL (ag (aL rfl rfl srt) rfl) rfl (z:=(jsD (xc o os x y),false)) rfl) rfl) rfl rfl rfl (dJ (by lia)))
def IC(a b o:End)(os:List End)(ho:os.length<=9):d7 [jD [a,b],jD (o::os)]=some (.lst [jsD (xc o os a b),jsD (xc o os b a)],true):=by
 obtain⟨t4,e1,i4⟩:=zN (a:=a) (b:=b) (o:=o) (os:=os) (acc:=[]) (k:=0) (s4:=.e) (rj a [b]) rfl (HY a b []) (by decide) ho rfl
 obtain⟨u4,e2,_⟩:=zN (a:=a) (b:=b) (o:=o) (os:=os) (acc:=[jsD (xc o os a b)]) (k:=1) (s4:=t4) (HY a b []) rfl (rj a [b]) (by simp) ho i4
 have el:eT (gN 3) fu [.int 0,.int 1] [.v (jD [a,b]),.v (jD (o::os)),.o (.lst []),.e,.e]=some (.nx [.v (jD [a,b]),.v (jD (o::os)),.o (.lst [jsD (xc o os a b),jsD (xc o os b a)]),.v (.int 1),u4]):=by
  have g1:gN 3 (.int 0) [.v (jD [a,b]),.v (jD (o::os)),.o (.lst []),.e,.e]=some [.v (jD [a,b]),.v (jD (o::os)),.o (.lst []),.v (.int 0),.e]:=rfl;have g2:gN 3 (.int 1) [.v (jD [a,b]),.v (jD (o::os)),.o (.lst [jsD (xc o os a b)]),.v (.int 0),t4]=some [.v (jD [a,b]),.v (jD (o::os)),.o (.lst [jsD (xc o os a b)]),.v (.int 1),t4]:=rfl;simp only[Vk]at e1;simp only[eT,g1,e1,g2,e2,Yb];rfl
 refine aJ (o:=.rt (.s 2) [.v (jD [a,b]),.v (jD (o::os)),.o (.lst [jsD (xc o os a b),jsD (xc o os b a)]),.v (.int 1),u4]) rfl ?_ rfl;refine aq rfl ?_;exact aq (cS (db (bo rfl rfl (by simp)) rfl) el) rfl
noncomputable def cms:Jnt->Jnt->List (List Jnt)
 |[a,b],o::os=>[xc o os a b,xc o os b a]
 |[x],[a,b]=>[xc x [] a b,xc x [] b a]
 |[x],[y]=>[[aA [x,y]]]
 |_,_=>[]
noncomputable def dn(one other:Jnt):List iH:=(cms one other).map fun c=>([one,other],c)
def K1{one other:Jnt}{s2:Sl}(cs:List (List Jnt)):b9 (gN 0) cj gd 1 (cs.map jsD) [.e,.v (jD one),.v (jD other)]=some ((cs.map fun c=>dD ([one,other],c)),[.e,.v (jD one),.v (jD other)]) :=
 bZ (fg:=gN 0) (fc:=cj) (fe:=gd) (k:=1) jsD (fun c=>dD ([one,other],c)) [.e,.v (jD one),.v (jD other)] cs fun c _=>⟨[.v (jsD c),.v (jD one),.v (jD other)],[.v (jsD c),.v (jD one),.v (jD other)],.d (dD ([one,other],c)),[.v (jsD c),.v (jD one),.v (jD other)],[.v (jsD c),.v (jD one),.v (jD other)],rfl,rfl,bo (ag (bo rfl rfl (by simp)) rfl) rfl (by simp),rfl,rfl⟩
def wn{one other:Jnt}(h1:one.length=1\/one.length=2)(h2:other.length=1\/other.length=2):lW [jD one,jD other]=some (.lst ((dn one other).map dD),true):=by
 have first:(sIf (ay (fOp bEq (fCB ce (aa (aB 0) af)) (fC (.int 2)))) (bb (aN d7 (aa (aB 0) (aa (aB 1) af))) 2) (sIf (ay (fOp bEq (fCB ce (aa (aB 1) af)) (fC (.int 2)))) (bb (aN d7 (aa (aB 1) (aa (aB 0) af))) 2) (bb (cZ (aa (bL (aa (aN ci (aa (fOp gC (aB 0) (aB 1)) af)) af)) af)) 2))) [.v (jD one),.v (jD other),.e]=some (.nx [.v (jD one),.v (jD other),.o (.lst ((cms one other).map jsD))]):=by
  rcases mx h1 with⟨x,rfl⟩|⟨a,b,rfl⟩
  ·refine cW (wc (i:=1) (aL rfl rfl (m8 [x])) rfl (by decide)) ?_
   rcases mx h2 with⟨y,rfl⟩|⟨a,b,rfl⟩
   ·refine cW (wc (i:=1) (aL rfl rfl (m8 [y])) rfl (by decide)) ?_
    exact dY (jG (ag (bo (ag (aI (ag (au rfl rfl rfl rfl (tZ (a:=[eD x]) (b:=[eD y]) (by simp))) rfl) rfl (oh [x,y] (by show 2<64;decide))) rfl) rfl (by simp)) rfl) rfl (by simp)) rfl
   ·exact f6 (sJ (aL rfl rfl (m8 [a,b])) rfl) (dY (aI rfl rfl (IC a b x [] (by decide))) rfl)
  ·obtain⟨o,os,rfl,ho⟩:=jne h2;exact f6 (sJ (aL rfl rfl (m8 [a,b])) rfl) (dY (aI rfl rfl (IC a b o os (by lia))) rfl)
 have few:(cms one other).length<=2:=by
  unfold cms;split<;>simp
 refine aJ (o:=.rt (.f (.lst ((dn one other).map dD))) [.v (jD one),.v (jD other),.v (.lst ((cms one other).map jsD))]) rfl ?_ rfl;refine aq first ?_
 have e:(dn one other).map dD=(cms one other).map fun c=>dD ([one,other],c):=by unfold dn;rw[Ze];rfl
 rw[e]
 exact aK (bF (su rfl rfl) (by
  show(true&&decide (((cms one other).map jsD).length<=1000000))=true
  rw[Za,Ae (by lia)];rfl) (K1 (s2:=.e) (cms one other)))
def LY(n:Nat)(js:List Jnt):Pl (n+4) (jsD js):=.tup fun d hd=>by
 obtain⟨j,_,rfl⟩:=Qb.mp hd;exact oB n j
def ID(n:Nat)(p:iH):Pl (n+5) (dD p):=.tup fun d hd=>by
 rcases Wc.mp hd with rfl|hd
 ·exact LY n _
 ·obtain rfl:=Wa.mp hd;exact LY n _
def LZ(n:Nat)(a b:List Jnt):Cp (n+4) (jsD a) (jsD b):=by
 intro i x y e1 e2;rw[Yd]at e1 e2;obtain⟨c,_,rfl⟩:=Vc.mp e1;obtain⟨d,_,rfl⟩:=Vc.mp e2;exact zk n c d
def Qt(n:Nat)(a b:iH):Cp (n+5) (dD a) (dD b):=by
 intro i x y e1 e2
 match i,e1,e2 with
 |0,e1,e2=>
  have q1:jsD a.1=x:=by simpa using e1
  have q2:jsD b.1=y:=by simpa using e2
  subst q1 q2;exact LZ n _ _
 |1,e1,e2=>
  have q1:jsD a.2=x:=by simpa using e1
  have q2:jsD b.2=y:=by simpa using e2
  subst q1 q2;exact LZ n _ _
 |i+2,e1,_=>simp at e1
def QP(ps:List iH):CA 40 (ps.map dD):=fun a ha b hb=>by
 obtain⟨e,_,rfl⟩:=Qb.mp ha;obtain⟨e',_,rfl⟩:=Qb.mp hb;exact Qt 35 e e'
def xT{d:D}(ps:List iH)(hl:ps.length<64)(h0:d.seq=some (ps.map dD)):bO [d]=some (.lst (de 40 (ps.map dD)),true):=by
 unfold bO;dsimp only;rw[h0];dsimp only;refine Ag ⟨fun x hx=>?_,QP ps,⟨_,.tp (T:="tuple") fun d hd=>?_⟩,by rw[Za];exact hl⟩
 ·obtain⟨e,_,rfl⟩:=Qb.mp hx;exact ID 35 e
 ·obtain⟨p,hp,rfl⟩:=Qb.mp hd;exact⟨jsD p.1,[jsD p.2],rfl,fun z=>(by cases z),rfl⟩
def isP(j:Jnt):Bool:=decide (j.length=2)
def nq:Jnt->iH|[a,b]=>([[a,b]],[[a],[b]])|_=>([],[])
noncomputable def prs(js:List Jnt)(k:Nat):List iH:=(js.drop (k+1)).flatMap (dn (js.getD k []))
noncomputable def am(js:List Jnt):List iH:=(js.filter isP).map nq++(List.range js.length).flatMap (prs js)
def gTt{st s1 s2:En}{t u:Sl}(h1:st[i]?=some t)(ht:t.isIo=false)(e1:st.set i (.v a)=s1)(h2:s1[j]?=some u)(hu:u.isIo=false)(e2:s1.set j (.v b)=s2):gT 2 (gsC (gN i) (gsC (gN j) gsN)) (.tup [a,b]) st=some s2:=by
 have p1:gN i a st=some s1:=by simp only[gN,nK,h1,Yb,ht,Qe,if_false,e1]
 have p2:gN j b s1=some s2:=by simp only[gN,nK,h2,Yb,hu,Qe,if_false,e2]
 show(gN i a st).bind (fun s=>(gN j b s).bind fun s'=>some s')=_;rw[p1,Yb,p2];rfl
def IE(js:List Jnt):enD (js.map jD)=(List.range js.length).map fun k:Nat=>D.tup [.int (k:Int),jD (js.getD k [])]:=by
 unfold enD;refine BF fun i=>?_;rw[List.getElem?_mapIdx,Yd,Yd];by_cases hi:i<js.length
 ·have e:js.getD i []=js[i]:=by rw[Qa,Ya hi];rfl
  rw[List.getElem?_range hi,Ya hi];show some (D.tup [.int (i:Int),jD js[i]])=some (D.tup [.int (i:Int),jD (js.getD i [])]);rw[e]
 ·rw[Zl (by lia),Zl (by rw[AU];lia)];rfl
def uQ(a b:Jnt):(dn a b).length<=2:=by
 unfold dn;rw[Za];unfold cms;split<;>simp
def Qu{ds:List D}(h:k<=ds.length):oP (.tup ds) (some (k:Int)) none=some (.tup (ds.drop k),false):=by
 rw[qf];congr 3;unfold cutD;rw[HT.sIx_nat,HT.sIx_none,Bm h];exact Yk (by rw[Yj];lia)
def IF{js rest:List Jnt}{one:Jnt}{acc:List D}{s4:Sl}(h1:one.length=1\/one.length=2)(hr:J12 rest)(hl:acc.length+2*rest.length<=100000)(i4:s4.isIo=false) :
  ∃t4,eT (gN 4) dO (rest.map jD) [.v (.tup (js.map jD)),.o (.lst acc),.v (.int (k:Int)),.v (jD one),s4]=some (.nx [.v (.tup (js.map jD)),.o (.lst (acc++(rest.flatMap (dn one)).map dD)),.v (.int (k:Int)),.v (jD one),t4])/\t4.isIo=false:=by
 obtain⟨sf,el,t4,rfl,i4'⟩:=bM (fg:=gN 4) (B:=dO) jD rest (fun gone st=>∃s4,st=[.v (.tup (js.map jD)),.o (.lst (acc++(gone.flatMap (dn one)).map dD)),.v (.int (k:Int)),.v (jD one),s4]/\s4.isIo=false)
  (by
   rintro gone j rs st ha ⟨s4,rfl,i4⟩;have hj:=hr j (by rw[ha];exact Xd _ Va)
   have ln:=congrArg List.length ha;rw[Xa,Qc]at ln;have gl:∀g:List Jnt,(g.flatMap (dn one)).length<=2*g.length:=fun g=>by
    induction g with
    |nil=>simp
    |cons x g ih=>
     rw[Xf,Xa,Qc];have:=uQ one x;lia
   have g1:=gl gone;have d2:=uQ one j;refine⟨[.v (.tup (js.map jD)),.o (.lst (acc++(gone.flatMap (dn one)).map dD)),.v (.int (k:Int)),.v (jD one),.v (jD j)],_,by simp only[gN,nK];show(if s4.isIo=true then none else _)=_;rw[i4];rfl,bV (iM rfl rfl rfl (ag (aI rfl rfl (wn h1 hj)) rfl) rfl rfl rfl (yT (by rw[Xa,Za,Za];lia))),.v (jD j),?_,rfl⟩
   rw[Xg,Xm,Yc,<-Zf];rfl)
  rest [] [.v (.tup (js.map jD)),.o (.lst acc),.v (.int (k:Int)),.v (jD one),s4] rfl ⟨s4,by simp,i4⟩
 exact⟨t4,el,i4'⟩
def K2(js:List Jnt)(k:Nat):(prs js k).length<=2*js.length:=by
 unfold prs;have gl:∀(one:Jnt)(g:List Jnt),(g.flatMap (dn one)).length<=2*g.length:=fun one g=>by
  induction g with
  |nil=>simp
  |cons x g ih=>
   rw[Xf,Xa,Qc];have:=uQ one x;lia
 have:=gl (js.getD k []) (js.drop (k+1));rw[Yj]at this;lia
theorem wo(js:List Jnt):∀g:List Nat,(g.flatMap (prs js)).length<=g.length*(2*js.length)
 |[]=>by simp
 | x::g=>by
  rw[Xf,Xa,Qc,Nat.succ_mul];have:=K2 js x;have:=wo js g;lia
def IG{js:List Jnt}(h:J12 js)(hl:js.length<=200)(ha:(am js).length<64):iB [.tup (js.map jD)]=some (.lst (de 40 ((am js).map dD)),true):=by
 have two:∀j∈js,isP j=true->∃a b,j=[a,b]:=fun j _ e=>by
  have:=Ak e;exact j2c this
 have cl:=dS (fg:=gN 0) (fc:=fT) (fe:=fU) (k:=1) jD (fun j=>dD (nq j)) isP [.e] js fun j hj=>by
  refine⟨[.v (jD j)],[.v (jD j)],rfl,?_,fun _=>rfl,fun e=>?_⟩
  ·unfold isP;by_cases e:j.length=2
   ·rw[Ae e];have lj:=m8 j;rw[e]at lj;exact sJ (aL rfl rfl lj) rfl
   ·rw[Af e];exact wc (i:=(j.length:Int)) (aL rfl rfl (m8 j)) rfl (by lia)
  ·obtain⟨a,b,rfl⟩:=two j hj e;exact⟨.d (dD (nq [a,b])),[.v (jD [a,b])],[.v (jD [a,b])],aI rfl rfl (On a b),rfl,rfl⟩
 have fl:(js.filter isP).length<=js.length:=Yl _ _;have e0:(js.filter isP).map (fun j=>dD (nq j))=((js.filter isP).map nq).map dD:=by rw[Ze];rfl
 rw[e0]at cl;have big:∀g:List Nat,g.length<=js.length->(((js.filter isP).map nq)++g.flatMap (prs js)).length<=80200:=fun g hg=>by
  rw[Xa,Za];have h1:=wo js g;have h2:g.length*(2*js.length)<=200*400:=Nat.mul_le_mul (by lia) (by lia)
  lia
 obtain⟨sf,el,s2,s3,s4,rfl,_⟩:=bM (fg:=gT 2 (gsC (gN 2) (gsC (gN 3) gsN))) (B:=fV) (fun k:Nat=>D.tup [.int (k:Int),jD (js.getD k [])]) (List.range js.length) (fun gone st=>∃s2 s3 s4,st=[.v (.tup (js.map jD)),.o (.lst ((((js.filter isP).map nq)++gone.flatMap (prs js)).map dD)),s2,s3,s4]/\s2.isIo=false/\s3.isIo=false/\s4.isIo=false)
  (by
   rintro gone k rest st ha ⟨s2,s3,s4,rfl,i2,i3,i4⟩;have hk:k<js.length:=by
    have:k∈List.range js.length:=by rw[ha];exact Xd _ Va
    exact Qj.mp this
   have gl:gone.length<=js.length:=by
    have:=congrArg List.length ha;rw[AU,Xa,Qc]at this;lia
   have hone:(js.getD k []).length=1\/(js.getD k []).length=2:=by
    rw[Qa,Ya hk];exact h _ (Xl hk)
   obtain⟨t4,e1,i4'⟩:=IF (js:=js) (rest:=js.drop (k+1)) (one:=js.getD k []) (k:=k) (acc:=(((js.filter isP).map nq)++gone.flatMap (prs js)).map dD) (s4:=s4) hone (fun j hj=>h j (Cd hj)) (by
    have:=big gone gl
    rw[Za,Yj];lia) i4
   have sl:=Qu (ds:=js.map jD) (k:=k+1) (by rw[Za];lia)
   rw[<-List.map_drop]at sl;refine⟨[.v (.tup (js.map jD)),.o (.lst ((((js.filter isP).map nq)++gone.flatMap (prs js)).map dD)),.v (.int (k:Int)),.v (jD (js.getD k [])),s4],_,gTt (t:=s2) (u:=s3) rfl i2 rfl rfl i3 rfl,cS (db (mN rfl (wm (i:=((k+1:Nat):Int)) rfl rfl) rfl rfl sl) rfl) e1,.v (.int (k:Int)),.v (jD (js.getD k [])),t4,?_,rfl,rfl,i4'⟩
   rw[Xg,Xm,<-Zf,Yc (l₂:=prs js k)];rfl)
  (List.range js.length) [] [.v (.tup (js.map jD)),.o (.lst (((js.filter isP).map nq).map dD)),.e,.e,.e] rfl ⟨.e,.e,.e,by simp,rfl,rfl,rfl⟩
 refine aJ (o:=.rt (.f (.lst (de 40 ((am js).map dD)))) [.v (.tup (js.map jD)),.o (.lst ((am js).map dD)),s2,s3,s4]) rfl ?_ rfl
 refine aq (dY (bF (db rfl rfl) (by
  show(true&&decide ((js.map jD).length<=1000000))=true
  rw[Za,Ae (by lia)];rfl) cl) rfl) ?_
 have en:GY (aa (aB 0) af) [.v (.tup (js.map jD)),.o (.lst (((js.filter isP).map nq).map dD)),.e,.e,.e]=some ((List.range js.length).map (fun k:Nat=>D.tup [.int (k:Int),jD (js.getD k [])]),[.v (.tup (js.map jD)),.o (.lst (((js.filter isP).map nq).map dD)),.e,.e,.e]):=by
  rw[<-IE];exact Py (d:=.tup (js.map jD)) rfl rfl rfl
 refine aq (cS en el) ?_;exact aK (aL rfl rfl (xT (am js) ha rfl))
def Qv(n:Nat)(e:End):Dp (n+2) (eD e):=.tup (by simp) fun d hd=>by
 rcases Wc.mp hd with rfl|hd
 ·exact .str _ _
 ·rw[Wa.mp hd];exact .int _ _
def Qw(n:Nat){j:Jnt}(h:j.length<=2):Dp (n+3) (jD j):=.tup (by rw[Za];lia) fun d hd=>by
 obtain⟨e,_,rfl⟩:=Qb.mp hd;exact Qv n e
def L0(n:Nat){js:List Jnt}(h:js.length<=2)(hj:∀j∈js,j.length<=2):Dp (n+4) (jsD js):=.tup (by rw[Za];lia) fun d hd=>by
 obtain⟨j,hj',rfl⟩:=Qb.mp hd;exact Qw n (hj j hj')
structure Sm(p:iH):Prop where
 a:p.1.length<=2
 b:p.2.length<=2
 c:∀j∈p.1,j.length<=2
 d:∀j∈p.2,j.length<=2
def L3(n:Nat)(h:Sm p):Dp (n+5) (dD p):=.tup (by simp) fun d hd=>by
 rcases Wc.mp hd with rfl|hd
 ·exact L0 n h.a h.c
 ·rw[Wa.mp hd];exact L0 n h.b h.d
end K17
namespace K17
open PySem L2 VF VL VF22
noncomputable section
def bhd(J g c:List Jnt):List Jnt:=bD (J.filter (fun j=>!decide (j∈g))++c)
def pw:List Jnt->List iH|[]=>[]|x::r=>r.flatMap (dn x)++pw r
theorem L4:∀js:List Jnt,(List.range js.length).flatMap (prs js)=pw js
 |[]=>rfl
 | x::r=>by
  rw[Qc,Dh,Xf];have:(List.map Nat.succ (List.range r.length)).flatMap (prs (x::r))=(List.range r.length).flatMap (prs r):=by
   rw[List.flatMap_map];rfl
  rw[this,L4 r];rfl
theorem pw_in:∀{js:List Jnt}{p:iH},p∈pw js↔∃x y,[x,y].Sublist js/\p∈dn x y
 |[],p=>⟨fun h=>(by cases h),fun⟨_,_,h,_⟩=>(by cases h)⟩
 | x::r,p=>by
  show p∈r.flatMap (dn x)++pw r↔_;rw[Zc,Wj,pw_in];constructor
  ·rintro(⟨y,hy,hp⟩|⟨a,b,hs,e⟩)
   ·exact⟨x,y,(Wm.mpr hy).cons_cons _,hp⟩
   ·exact⟨a,b,hs.cons x,e⟩
  ·rintro⟨a,b,hs,e⟩;cases hs with|cons _ h=>exact .inr ⟨a,b,h,e⟩|cons_cons _ h=>exact .inl ⟨b,Wm.mp h,e⟩
def oi(h:p∈dn x y):p.1=[x,y]/\p.2∈cms x y:=by
 obtain⟨c,hc,rfl⟩:=Qb.mp h;exact⟨rfl,hc⟩
theorem zO(x:Jnt):∀r:List Jnt,(r.flatMap (dn x)).length<=2*r.length
 |[]=>Wb _
 | y::r=>by
  have:=zO x r;have:=uQ x y;rw[Xf,Xa,Qc];lia
theorem IH:∀js:List Jnt,(pw js).length+js.length<=js.length*js.length
 |[]=>Wb _
 | x::r=>by
  have:=IH r;have:=zO x r;show(r.flatMap (dn x)++pw r).length+(r.length+1)<=(r.length+1)*(r.length+1);rw[Xa,Nat.add_mul,Nat.mul_add];lia
def sP(js:List Jnt):am js=(js.filter isP).map nq++pw js:=by unfold am;rw[L4]
theorem zP:∀{J:List Jnt},x∈J->y∈J->x≠y->[x,y].Sublist J\/[y,x].Sublist J
 | z::r,hx,hy,h=>by
  rcases Wc.mp hx with e1|hx'<;>rcases Wc.mp hy with e2|hy'
  ·exact absurd (e1.trans e2.symm) h
  ·rw[e1];exact .inl ((Wm.mpr hy').cons_cons _)
  ·rw[e2];exact .inr ((Wm.mpr hx').cons_cons _)
  ·rcases zP hx' hy' h with q|q
   ·exact .inl (q.cons _)
   ·exact .inr (q.cons _)
def eQ(y:End):aA [y]=[y]:=List.perm_singleton.mp (aE [y]).2
def II(y:Jnt):bD [y]=[y]:=List.perm_singleton.mp (bW [y]).2
def iT(a b:Jnt):bD [a,b]=bD [b,a]:=jF (List.Perm.swap b a [])
def oj(L:List Jnt):bD (bD L)=bD L:=jF (bW L).2
def sQ(L:List End):aA (aA L)=aA L:=eY (aE L).2
def zQ{L:List Jnt}(h:L.Pairwise fun a b=>ltN 40 (jD b) (jD a)=false):bD L=L:=by
 have e:=dU (HG L) (List.Perm.refl _) (Xh.mpr h);rw[(bW L).1]at e;have:=congrArg (List.map unJ) e;rw[Ze,Ze,show(unJ ∘ jD)=id from funext jE,Yn,Yn]at this;exact this.symm
def IJ{L:List Jnt}(h:bD L=L):L.Pairwise fun a b=>ltN 40 (jD b) (jD a)=false:=by
 have hs:=ld (HG L);rw[(bW L).1,h]at hs;exact Xh.mp hs
def qM{L M:List Jnt}(h:bD L=L)(s:M.Sublist L):bD M=M:=zQ ((IJ h).sublist s)
def mem2:j∈bD [x,y]↔j=x\/j=y:=by rw[(bW [x,y]).2.mem_iff];simp
def mem2e:j∈aA [x,y]↔j=x\/j=y:=by rw[(aE [x,y]).2.mem_iff];simp
def oC(x y:Jnt):(bD [x,y]).flatten.Perm (x++y):=by
 have:=(bW [x,y]).2.flatten;simpa using this
def gW(a b:End):aA [a,b]=[a,b]\/aA [a,b]=[b,a]:=by
 have p:=(aE [a,b]).2;obtain⟨u,v,e⟩:=(mx (.inr p.length_eq)).resolve_left (fun⟨x,z⟩=>by have:=p.length_eq;rw[z]at this;cases this)
 rw[e]at p ⊢;have hu:u∈[a,b]:=p.mem_iff.mp (by simp)
 rcases Wc.mp hu with rfl|hu
 ·exact .inl (by rw[List.perm_singleton.mp ((List.perm_cons u).mp p)])
 ·rw[Wa.mp hu]at p ⊢;have:=(List.perm_cons b).mp (p.trans (List.Perm.swap b a []));exact .inr (by rw[List.perm_singleton.mp this])
def uR(h:aA [a,b]=[a,b]):bD [[a],[b]]=[[a],[b]]:=by
 refine zQ (Xe.mpr ⟨fun d hd=>?_,A6 _ _⟩);rw[Wa.mp hd];have hs:=nj [a,b];rw[h]at hs;have h4:ltN 40 (eD b) (eD a)=false:=(Xe.mp hs).1 b (by simp)
 show ltL (ltN 39) [eD b] [eD a]=false;by_cases e:eD b=eD a
 ·rw[e,bJ];rfl
 ·rw[bj e];exact h4
inductive Dd:iH->Prop
 | cut (a b:End) (h:a≠b):Dd ([aA [a,b]],bD [[a],[b]])
 | join (a b:End) (h:a≠b):Dd (bD [[a],[b]],[aA [a,b]])
 | two (a b c d:End) (h:[a,b,c,d].Nodup):Dd (bD [aA [a,b],aA [c,d]],bD [aA [a,c],aA [b,d]])
 | one (a b c:End) (h:[a,b,c].Nodup):Dd (bD [aA [a,b],[c]],bD [aA [a,c],[b]])
theorem Dd.sw(h:Dd p):Dd (p.2,p.1):=by
 cases h with|cut a b h=>exact .join a b h|join a b h=>exact .cut a b h|two a b c d h=>exact .two a c b d ((((List.Perm.swap c b [d]).cons a).nodup_iff).mp h)|one a b c h=>exact .one a c b ((((List.Perm.swap c b []).cons a).nodup_iff).mp h)
def kz:(aA [a,b]).length=2/\aA (aA [a,b])=aA [a,b]:=⟨qJ a b,sQ _⟩
structure Hf(g:List Jnt):Prop where
 ln:∀j∈g,j.length=1\/j.length=2
 so:∀j∈g,aA j=j
 nd:g.flatten.Nodup
 st:bD g=g
 sz:g.length=1\/g.length=2
def Hf.two{x y:Jnt}(hx:x.length=1\/x.length=2)(hy:y.length=1\/y.length=2)(sx:aA x=x)(sy:aA y=y)(nd:(x++y).Nodup):Hf (bD [x,y]) :=
 ⟨fun j hj=>by rcases mem2.mp hj with rfl|rfl<;>assumption,fun j hj=>by rcases mem2.mp hj with rfl|rfl<;>assumption,(oC x y).nodup_iff.mpr nd,oj _,.inr (bW [x,y]).2.length_eq⟩
def K3{L:List End}(h:L.Nodup):(aA L).Nodup:=(aE L).2.nodup_iff.mpr h
theorem Dd.hf(h:Dd p):Hf p.1:=by
 cases h with|cut a b h=>exact⟨fun j hj=>by rw[Wa.mp hj];exact .inr kz.1,fun j hj=>by rw[Wa.mp hj];exact kz.2,by simpa using K3 (L:=[a,b]) (by simpa using h),II _,.inl rfl⟩|join a b h=>exact .two (.inl rfl) (.inl rfl) (eQ a) (eQ b) (by simpa using h)|two a b c d h=>exact .two (.inr kz.1) (.inr kz.1) kz.2 kz.2 (((aE [a,b]).2.append (aE [c,d]).2).nodup_iff.mpr h)|one a b c h=>exact .two (.inr kz.1) (.inl rfl) kz.2 (eQ c) (((aE [a,b]).2.append (List.Perm.refl [c])).nodup_iff.mpr h)
def Dd.pf(h:Dd p):p.2.flatten.Perm p.1.flatten:=by
 have tw:∀a b:End,([aA [a,b]]:List Jnt).flatten.Perm [a,b]:=fun a b=>by simpa using (aE [a,b]).2
 cases h with
 |cut a b h=>exact(oC [a] [b]).trans (tw a b).symm
 |join a b h=>exact(tw a b).trans (oC [a] [b]).symm
 |two a b c d h=>
  refine(oC _ _).trans (((aE [a,c]).2.append (aE [b,d]).2).trans (.trans ?_ ((oC _ _).trans ((aE [a,b]).2.append (aE [c,d]).2)).symm));exact(List.Perm.swap b c [d]).cons a
 |one a b c h=>
  refine(oC _ _).trans (((aE [a,c]).2.append (List.Perm.refl [b])).trans (.trans ?_ ((oC _ _).trans ((aE [a,b]).2.append (List.Perm.refl [c]))).symm));exact(List.Perm.swap b c []).cons a
def Dd.dis(h:Dd p)(h2:j∈p.2)(h1:j∈p.1):False:=by
 have no:∀{a b c d:End},aA [a,b]=aA [c,d]->a≠c->a≠d->False:=fun {a b c d} e n1 n2=>by
  have:a∈aA [c,d]:=e ▸ mem2e.mpr (.inl rfl);rcases mem2e.mp this with z|z
  ·exact n1 z
  ·exact n2 z
 have ln:∀{a b c:End},aA [a,b]≠[c]:=fun {a b c} z=>by have:=qJ a b;rw[z]at this;cases this
 cases h with
 |cut a b h=>
  have e:=Wa.mp h1;rcases mem2.mp h2 with z|z<;>exact ln (e.symm.trans z)
 |join a b h=>
  have e:=Wa.mp h2;rcases mem2.mp h1 with z|z<;>exact ln (e.symm.trans z)
 |two a b c d h=>
  simp at h;rcases mem2.mp h2 with z|z<;>rcases mem2.mp h1 with w|w
  ·exact no ((bu c a).trans (z.symm.trans w)) (Au h.1.2.1) (Au h.2.1.1)
  ·exact no (z.symm.trans w) h.1.2.1 h.1.2.2
  ·exact no ((bu d b).trans (z.symm.trans w)) (Au h.1.2.2) (Au h.2.1.2)
  ·exact no (z.symm.trans w) h.2.1.1 h.2.1.2
 |one a b c h=>
  simp at h;rcases mem2.mp h2 with z|z<;>rcases mem2.mp h1 with w|w
  ·exact no ((bu c a).trans (z.symm.trans w)) (Au h.1.2) (Au h.2)
  ·exact ln (z.symm.trans w)
  ·exact ln (w.symm.trans z)
  ·rw[z]at w;injection w with w;exact h.2 w
def Dd.eo(h:Dd p):∃L M:List Int,L.Perm (p.1.map fun j=>(j.length:Int))/\L.Pairwise (·<=·)/\M.Perm (p.2.map fun j=>(j.length:Int))/\M.Pairwise (·<=·)/\(L,M)∈dfm:=by
 have tw:∀(x y:Jnt),((bD [x,y]).map fun j=>(j.length:Int)).Perm [(x.length:Int),(y.length:Int)]:=fun x y=>(bW [x,y]).2.map _;have s2:∀a b:End,((aA [a,b]).length:Int)=2:=fun a b=>by rw[qJ];rfl
 cases h with|cut a b h=>exact⟨[2],[1,1],by rw[Ck,s2],by simp,(tw [a] [b]).symm,by simp,by simp[dfm]⟩|join a b h=>exact⟨[1,1],[2],(tw [a] [b]).symm,by simp,by rw[Ck,s2],by simp,by simp[dfm]⟩|two a b c d h=>exact⟨[2,2],[2,2],by have:=(tw (aA [a,b]) (aA [c,d])).symm;rwa [s2,s2]at this,by simp,by have:=(tw (aA [a,c]) (aA [b,d])).symm;rwa [s2,s2]at this,by simp,by simp[dfm]⟩|one a b c h=>exact⟨[1,2],[1,2],by have:=((tw (aA [a,b]) [c]).trans (List.Perm.swap _ _ _)).symm;rwa [s2]at this,by simp,by have:=((tw (aA [a,c]) [b]).trans (List.Perm.swap _ _ _)).symm;rwa [s2]at this,by simp,by simp[dfm]⟩
def Js.few{js:List Jnt}{xs:List Str}(J:Js js xs)(hx:xs.length<=4):js.flatten.length<=8/\js.length<=8:=by
 have h1:=J.pf.length_eq;rw[Xa,Za,Za]at h1;have h2:∀l:List Jnt,J12 l->l.length<=l.flatten.length:=fun l=>by
  induction l with
  |nil=>intro _;simp
  |cons j r ih=>
   intro h;have h1:=ih fun x hx=>h x (Vb _ hx);have h2:=h j Va;rw[Vg,Xa,Qc];lia
 have:=h2 js J.ln;lia
end
end K17
namespace K17
open PySem L2 VF VL VF22
noncomputable section
variable {js:List Jnt}{xs:List Str}{p q:iH}
theorem wp{a b:List (List α)}(h:a.Sublist b):a.flatten.Sublist b.flatten:=by
 induction h with|slnil=>exact List.Sublist.refl _|cons x _ ih=>rw[Vg];exact ih.trans (C3 _ _)|cons_cons x _ ih=>rw[Vg,Vg];exact(List.Sublist.refl x).append ih
def Js.ndj(J:Js js xs):js.Nodup:=ky J.nd fun j hj z=>by have:=J.ln j hj;rw[z]at this;simp at this
def Qx(J:Js js xs)(st:bD js=js)(h:p∈am js):Dd p/\∀j∈p.1,j∈js:=by
 rw[sP]at h;rcases Zc.mp h with h|h
 ·obtain⟨j,hj,rfl⟩:=Qb.mp h;obtain⟨h1,h2⟩:=Wh.mp hj;obtain⟨a,b,rfl⟩:=j2c (Ak h2);have so:=J.so _ h1;have ab:a≠b:=by simpa using m9 J.nd h1
  refine⟨?_,fun k hk=>by rw[Wa.mp hk];exact h1⟩
  have:=Dd.cut a b ab;rw[so,uR so]at this;exact this
 ·obtain⟨x,y,hs,hd⟩:=pw_in.mp h;obtain⟨g,c⟩:=p;obtain⟨e1,e2⟩:=oi hd;dsimp only at e1 e2;subst e1;have hx:x∈js:=hs.subset (by simp)
  have hy:y∈js:=hs.subset (by simp)
  have so:bD [x,y]=[x,y]:=qM st hs;have ndf:(x++y).Nodup:=by
   have:[x,y].flatten.Nodup:=AR (wp hs) J.nd;simpa using this
  refine⟨?_,fun k hk=>hs.subset hk⟩;have sx:=J.so _ hx;have sy:=J.so _ hy;rcases mx (J.ln x hx) with⟨a,rfl⟩|⟨a,b,rfl⟩<;>rcases mx (J.ln y hy) with⟨c',rfl⟩|⟨c',d,rfl⟩
  ·have e:=Wa.mp e2;subst e;have:=Dd.join a c' (by simpa using ndf)
   rwa [so]at this
  ·have ex:xc a [] c' d=bD [aA [c',a],[d]]:=by unfold xc;rw[Vk,eQ,bu]
   have ey:xc a [] d c'=bD [aA [d,a],[c']]:=by unfold xc;rw[Vk,eQ,bu]
   have e2:c=xc a [] c' d\/c=xc a [] d c':=by simpa[cms]using e2
   have n1:[c',d,a].Nodup:=((B5 (l₁:=[a]) (l₂:=[c',d])).nodup_iff).mp ndf;rcases e2 with rfl|rfl
   ·have:=Dd.one c' d a n1;rw[iT,sy,so]at this;rw[ex];exact this
   ·have:=Dd.one d c' a (((List.Perm.swap c' d [a]).nodup_iff).mpr n1);rw[iT,bu d c',sy,so]at this;rw[ey];exact this
  ·have ex:xc c' [] a b=bD [aA [a,c'],[b]]:=by unfold xc;rw[Vk,eQ,bu]
   have ey:xc c' [] b a=bD [aA [b,c'],[a]]:=by unfold xc;rw[Vk,eQ,bu]
   have e2:c=xc c' [] a b\/c=xc c' [] b a:=by simpa[cms]using e2
   rcases e2 with rfl|rfl
   ·have:=Dd.one a b c' ndf;rw[sx,so]at this;rw[ex];exact this
   ·have:=Dd.one b a c' (((List.Perm.swap a b [c']).nodup_iff).mpr ndf);rw[bu b a,sx,so]at this;rw[ey];exact this
  ·have ex:xc c' [d] a b=bD [aA [a,c'],aA [b,d]]:=by unfold xc;rw[bu c' a];show bD [_,aA [d,b]]=_;rw[bu d b]
   have ey:xc c' [d] b a=bD [aA [b,c'],aA [a,d]]:=by unfold xc;rw[bu c' b];show bD [_,aA [d,a]]=_;rw[bu d a]
   have e2:c=xc c' [d] a b\/c=xc c' [d] b a:=by simpa[cms]using e2
   rcases e2 with rfl|rfl
   ·have:=Dd.two a b c' d ndf;rw[sx,sy,so]at this;rw[ex];exact this
   ·have:=Dd.two b a c' d (((List.Perm.swap a b [c',d]).nodup_iff).mpr ndf);rw[bu b a,sx,sy,so]at this;rw[ey];exact this
def IM(hs:[x,y].Sublist js)(h:c∈cms x y):([x,y],c)∈am js:=by
 rw[sP];exact Xd _ (pw_in.mpr ⟨x,y,hs,Vj h⟩)
def L5(a b o:End)(os:List End):cms [a,b] (o::os)=[xc o os a b,xc o os b a]:=rfl
def Qy(x a b:End):cms [x] [a,b]=[xc x [] a b,xc x [] b a]:=rfl
def xc1(o x y:End):xc o [] x y=bD [aA [x,o],[y]]:=by unfold xc;rw[Vk,eQ,bu]
def xc2(o s x y:End):xc o [s] x y=bD [aA [x,o],aA [y,s]]:=by unfold xc;rw[bu o x];show bD [_,aA [s,y]]=_;rw[bu s y]
def zR:bD [aA [a,c],aA [b,d]]∈cms (aA [a,b]) (aA [c,d]):=by
 rcases gW a b with e1|e1<;>rcases gW c d with e2|e2<;>rw[e1,e2,L5,xc2,xc2]
 ·exact Va
 ·rw[iT (aA [b,d])];exact Vb _ Va
 ·exact Vb _ Va
 ·rw[iT (aA [b,d])];exact Va
def Qz(J:Js js xs)(st:bD js=js)(h:Dd p)(sb:∀j∈p.1,j∈js):p∈am js:=by
 have two:∀{x y:Jnt}{c:List Jnt},x∈js->y∈js->x≠y->c∈cms x y->c∈cms y x->(bD [x,y],c)∈am js:=fun {x y c} hx hy ne h1 h2=>by
  rcases zP hx hy ne with hs|hs
  ·rw[qM st hs];exact IM hs h1
  ·rw[iT,qM st hs];exact IM hs h2
 have ndf:=h.hf.nd;cases h with
 |cut a b h=>
  have hm:=sb _ (BR _);rw[sP];refine Vf _ (Qb.mpr ⟨aA [a,b],Wh.mpr ⟨hm,Ae (qJ a b)⟩,?_⟩);have so:=J.so _ hm;rcases gW a b with e|e
  ·rw[e,uR e];rfl
  ·rw[e]at so ⊢;rw[iT,uR so];rfl
 |join a b h=>
  refine two (sb _ (mem2.mpr (.inl rfl))) (sb _ (mem2.mpr (.inr rfl))) (fun z=>h (by injection z)) Va ?_
  rw[bu];exact Va
 |two a b c d h=>
  refine two (sb _ (mem2.mpr (.inl rfl))) (sb _ (mem2.mpr (.inr rfl))) (fun z=>?_) zR ?_
  ·have:a∈aA [c,d]:=z ▸ mem2e.mpr (.inl rfl);simp at h;rcases mem2e.mp this with w|w
   ·exact h.1.2.1 w
   ·exact h.1.2.2 w
  ·rw[bu a c,bu b d];exact zR
 |one a b c h=>
  refine two (sb _ (mem2.mpr (.inl rfl))) (sb _ (mem2.mpr (.inr rfl))) (fun z=>by have:=qJ a b;rw[z]at this;cases this) ?_ ?_
  ·rcases gW a b with e|e<;>rw[e,L5,xc1,xc1]
   ·exact Va
   ·exact Vb _ Va
  ·rcases gW a b with e|e<;>rw[e,Qy,xc1,xc1]
   ·exact Va
   ·exact Vb _ Va
def bhd_in:x∈bhd J g c↔(x∈J/\x∉g)\/x∈c:=by
 unfold bhd;rw[(bW _).2.mem_iff,Zc,Wh];simp
def uS(J g c:List Jnt):bD (bhd J g c)=bhd J g c:=oj _
def Hf.ndj{g:List Jnt}(h:Hf g):g.Nodup:=ky h.nd fun j hj z=>by have:=h.ln j hj;rw[z]at this;simp at this
def uT{a b:List Jnt}(ha:bD a=a)(hb:bD b=b)(na:a.Nodup)(nb:b.Nodup)(h:∀x,x∈a↔x∈b):a=b:=by
 rw[<-ha,<-hb];exact jF ((Vm na nb).mpr h)
theorem wq(J:Js js xs)(h:Dd p)(sb:∀j∈p.1,j∈js)(h2:j∈p.2):j∉js:=fun hj=>by
 have:=J.ln j hj;cases j with
 |nil=>simp at this
 |cons e r=>
  have he:e∈p.1.flatten:=h.pf.mem_iff.mp (Wf.mpr ⟨_,h2,Va⟩);obtain⟨k,hk,hek⟩:=Wf.mp he;have:=iS J.nd hj (sb k hk) Va hek;rw[this]at h2;exact h.dis h2 hk
def qN(J:Js js xs)(h:Dd p)(sb:∀j∈p.1,j∈js):Js (bhd js p.1 p.2) xs:=by
 have h2:=h.sw.hf;refine⟨fun j hj=>?_,?_,fun j hj=>?_,J.nx⟩
 ·rcases bhd_in.mp hj with z|z
  ·exact J.ln j z.1
  ·exact h2.ln j z
 ·refine .trans ?_ J.pf;have e1:(js.filter (fun j=>decide (j∈p.1))).Perm p.1:=(Vm (AR A2 J.ndj) h.hf.ndj).mpr fun x=>by
   rw[Wh,decide_eq_true_eq];exact⟨fun z=>z.2,fun z=>⟨sb x z,z⟩⟩
  have e2:=List.filter_append_perm (fun j=>decide (j∈p.1)) js;unfold bhd;refine((bW _).2.flatten).trans ?_;rw[Qh];refine(h.pf.append_left _).trans (B5.trans ?_);have:=(e1.symm.append_right (js.filter fun j=>!decide (j∈p.1))).trans e2;have:=this.flatten;rwa [Qh]at this
 ·rcases bhd_in.mp hj with z|z
  ·exact J.so j z.1
  ·exact h2.so j z
def IN(J:Js js xs)(st:bD js=js)(h:Dd p)(sb:∀j∈p.1,j∈js):bhd (bhd js p.1 p.2) p.2 p.1=js:=by
 have J2:=qN J h sb;have J3:=qN (p:=(p.2,p.1)) J2 h.sw fun j hj=>bhd_in.mpr (.inr hj);refine uT (uS _ _ _) st J3.ndj J.ndj fun x=>?_;rw[bhd_in,bhd_in];constructor
 ·rintro(⟨z|z,n⟩|z)
  ·exact z.1
  ·exact absurd z n
  ·exact sb x z
 ·intro hx;by_cases c:x∈p.1
  ·exact .inr c
  ·exact .inl ⟨.inl ⟨hx,c⟩,fun z=>wq J h sb z hx⟩
def K4(J:Js js xs)(h:Dd p)(sb:∀j∈p.1,j∈js)(h':Dd q)(sb':∀j∈q.1,j∈js)(e:bhd js p.1 p.2=bhd js q.1 q.2):p=q:=by
 have m1:∀{r:iH},Dd r->(∀j∈r.1,j∈js)->∀x,x∈r.1↔x∈js/\x∉bhd js r.1 r.2:=fun {r} hr sr x=>by
  rw[bhd_in];exact⟨fun z=>⟨sr x z,fun w=>w.elim (fun w=>w.2 z) fun w=>hr.dis w z⟩,fun⟨z,n⟩=>Classical.byContradiction fun w=>n (.inl ⟨z,w⟩)⟩
 have m2:∀{r:iH},Dd r->(∀j∈r.1,j∈js)->∀x,x∈r.2↔x∈bhd js r.1 r.2/\x∉js:=fun {r} hr sr x=>by
  rw[bhd_in];exact⟨fun z=>⟨.inr z,wq J hr sr z⟩,fun⟨z,n⟩=>z.elim (fun w=>absurd w.1 n) id⟩
 have a:p.1=q.1:=uT h.hf.st h'.hf.st h.hf.ndj h'.hf.ndj fun x=>by rw[m1 h sb,m1 h' sb',e]
 have b:p.2=q.2:=uT h.sw.hf.st h'.sw.hf.st h.sw.hf.ndj h'.sw.hf.ndj fun x=>by rw[m2 h sb,m2 h' sb',e]
 exact Prod.ext a b
def Op(h:Dd p)(sb:∀j∈p.1,j∈js):bhd js p.1 p.2≠js:=fun e=>by
 have:∃x,x∈p.1:=by
  have:=h.hf.sz;cases e:p.1 with|nil=>rw[e]at this;simp at this|cons x r=>exact⟨x,Va⟩
 obtain⟨x,hx⟩:=this;have h1:=sb x hx;rw[<-e,bhd_in]at h1;exact h1.elim (fun w=>w.2 hx) fun w=>h.dis w hx
def IO{a b o:End}{os:List End}(nd:(a::b::o::os).Nodup):xc o os a b≠xc o os b a:=fun e=>by
 have:aA [o,a]∈xc o os b a:=by rw[<-e];exact mem2.mpr (.inl rfl)
 simp at nd;rcases mem2.mp this with z|z
 ·have:a∈aA [o,b]:=z ▸ mem2e.mpr (.inr rfl);rcases mem2e.mp this with w|w
  ·exact nd.1.2.1 w
  ·exact nd.1.1 w
 ·have:o∈aA (os++[a]):=z ▸ mem2e.mpr (.inl rfl);have:=(aE _).2.mem_iff.mp this;rcases Zc.mp this with w|w
  ·exact nd.2.2.1 w
  ·exact nd.1.2.1 (Wa.mp w).symm
def QA{x y:Jnt}(hx:x.length=1\/x.length=2)(hy:y.length=1\/y.length=2)(nd:(x++y).Nodup):(dn x y).Nodup:=by
 have two:∀{c d:List Jnt},c≠d->([c,d].map fun c=>(([x,y],c):iH)).Nodup:=fun {c d} h=>by
  refine Qg.mpr ⟨fun z=>h ?_,Qg.mpr ⟨CM,Wl⟩⟩;have:=Wa.mp z;exact(Prod.mk.inj this).2
 unfold dn;rcases mx hx with⟨a,rfl⟩|⟨a,b,rfl⟩<;>rcases mx hy with⟨c,rfl⟩|⟨c,d,rfl⟩
 ·exact Qg.mpr ⟨CM,Wl⟩
 ·exact two (IO (((B5 (l₁:=[a]) (l₂:=[c,d])).nodup_iff).mp nd))
 ·exact two (IO nd)
 ·exact two (IO nd)
theorem IP{x:Jnt}(hx:x.length=1\/x.length=2):∀{r:List Jnt},r.Nodup->(∀y∈r,(y.length=1\/y.length=2)/\(x++y).Nodup)->(r.flatMap (dn x)).Nodup
 |[],_,_=>Wl
 | y::r,h,hy=>by
  obtain⟨h1,h2⟩:=Qg.mp h;rw[Xf];refine Zg.mpr ⟨QA hx (hy y Va).1 (hy y Va).2,IP hx h2 fun z hz=>hy z (Vb _ hz),fun p hp q hq e=>?_⟩;obtain⟨z,hz,hq⟩:=Wj.mp hq;have:=(oi hp).1.symm.trans ((congrArg Prod.fst e).trans (oi hq).1);simp at this;exact h1 (this ▸ hz)
theorem L6:∀{js:List Jnt},js.Nodup->J12 js->js.flatten.Nodup->(pw js).Nodup
 |[],_,_,_=>Wl
 | x::r,h,hl,nf=>by
  obtain⟨h1,h2⟩:=Qg.mp h;have nf':=nf;rw[Vg]at nf;refine Zg.mpr ⟨IP (hl x Va) h2 fun y hy=>⟨hl y (Vb _ hy),?_⟩,L6 h2 (fun j hj=>hl j (Vb _ hj)) (Zg.mp nf).2.1,fun p hp q hq e=>?_⟩
  ·have:[x,y].Sublist (x::r):=(Wm.mpr hy).cons_cons _;have:[x,y].flatten.Nodup:=AR (wp this) nf';simpa using this
  ·obtain⟨z,hz,hp⟩:=Wj.mp hp;obtain⟨c,d,hs,hq⟩:=pw_in.mp hq;have:=(oi hp).1.symm.trans ((congrArg Prod.fst e).trans (oi hq).1);simp at this;exact h1 (hs.subset (by rw[this.1];exact Va))
def QB(J:Js js xs):(am js).Nodup:=by
 rw[sP];refine Zg.mpr ⟨?_,L6 J.ndj J.ln J.nd,fun p hp q hq e=>?_⟩
 ·show List.Pairwise _ _;rw[Xh];refine List.Pairwise.imp_of_mem ?_ (AR A2 J.ndj);intro j k hj hk n e;obtain⟨a,b,rfl⟩:=j2c (Ak (Wh.mp hj).2);obtain⟨c,d,rfl⟩:=j2c (Ak (Wh.mp hk).2);have:=(Prod.mk.inj e).1;simp at this;exact n (by rw[this.1,this.2])
 ·obtain⟨j,hj,rfl⟩:=Qb.mp hp;obtain⟨a,b,rfl⟩:=j2c (Ak (Wh.mp hj).2);obtain⟨c,d,_,hq⟩:=pw_in.mp hq;have:=(congrArg Prod.fst e).trans (oi hq).1;cases this
end
end K17
namespace K17
open PySem L2 VF VL VF22
noncomputable section
variable {js:List Jnt}{xs:List Str}{p:iH}{ss:List aO}
def IQ{d:D}(hs:d.seq=some ds)(e1:bIn (.tup x) d=none)(px:Pl 40 (.tup x))(pd:∀e∈ds,Pl 40 e)(h:c=true↔D.tup x∈ds):xg (.tup x) d=some (.bl c,false):=by
 unfold xg orD;rw[e1];unfold DY;rw[hs];dsimp only;have dc:∀i:Decidable (D.tup x∈ds),@decide _ i=c:=fun i=>by rw[Ye,decide_eq_true_eq];exact h.symm
 rw[Ag ⟨px,pd⟩,dc];rfl
def sR{d:D}(hs:d.seq=some ds)(e1:lH (.tup x) d=none)(px:Pl 40 (.tup x))(pd:∀e∈ds,Pl 40 e)(h:c=true↔D.tup x∈ds):hV (.tup x) d=some (.bl (!c),false):=by
 unfold hV orD;rw[e1];unfold DY;rw[hs];dsimp only;have dc:∀i:Decidable (D.tup x∈ds),@decide _ i=c:=fun i=>by rw[Ye,decide_eq_true_eq];exact h.symm
 rw[Ag ⟨px,pd⟩,dc];rfl
def jD_mem{b:List Jnt}:jD j∈b.map jD↔j∈b:=by
 constructor
 ·intro h;obtain⟨k,hk,e⟩:=Qb.mp h;have:=congrArg unJ e;rw[jE,jE]at this;exact this ▸ hk
 ·exact fun h=>Vj h
def IR{b:List Jnt}:∀d∈b.map jD,Pl 40 d:=fun d hd=>by
 obtain⟨k,_,rfl⟩:=Qb.mp hd;exact oB 37 k
def wr(j:Jnt)(b:List Jnt):hV (jD j) (.tup (b.map jD))=some (.bl (!decide (j∈b)),false) :=
 sR rfl rfl (oB 37 j) IR (by rw[decide_eq_true_eq];exact jD_mem.symm)
def Oq(j:Jnt)(b:List Jnt):xg (jD j) (.tup (b.map jD))=some (.bl (decide (j∈b)),false) :=
 IQ rfl rfl (oB 37 j) IR (by rw[decide_eq_true_eq];exact jD_mem.symm)
def Dd.fl(h:Dd p):2<=p.1.flatten.length/\p.1.flatten.length<=4:=by
 have f2:∀x y:Jnt,(bD [x,y]).flatten.length=x.length+y.length:=fun x y=>by rw[(oC x y).length_eq,Xa]
 cases h with|cut a b h=>simp[qJ]|join a b h=>dsimp only;rw[f2];simp|two a b c d h=>dsimp only;rw[f2,qJ,qJ];lia|one a b c h=>dsimp only;rw[f2,qJ];simp
theorem Dd.some(h:Dd p):∃x,x∈p.1:=by
 have:=h.hf.sz;cases e:p.1 with|nil=>rw[e]at this;simp at this|cons x r=>exact⟨x,Va⟩
def Hf.hok{g:List Jnt}(h:Hf g)(ok:∀e∈g.flatten,EOk e):HOk g :=
 ⟨h.sz,fun j hj=>⟨h.ln j hj,fun e he=>ok e (Wf.mpr ⟨j,hj,he⟩),m9 h.nd hj,h.so j hj⟩,h.ndj,h.st⟩
def uU(h:Dd p)(ok:∀e∈p.1.flatten,EOk e):d6 [dD p]=some (.bl true,false):=by
 obtain⟨L,M,pL,wL,pM,wM,fm⟩:=h.eo;exact KS (h.hf.hok ok) (h.sw.hf.hok fun e he=>ok e (h.pf.mem_iff.mp he)) h.hf.nd h.pf h.fl pL wL pM wM fm fun e=>by
  obtain⟨x,hx⟩:=h.some;exact h.dis (e ▸ hx) hx
def Os(hd:d6 [dD p]=some (.bl true,false))(sz:p.1.length<=2)(sb:∀j∈p.1,j∈js):eN [.tup (js.map jD),dD p]=some (.non,false):=by
 have ec:b9 (gN 0) cj cJ 1 (p.1.map jD) [.e,.v (.tup (js.map jD))]=some (p.1.map fun _=>D.bl true,[.e,.v (.tup (js.map jD))]) :=
  bZ (fg:=gN 0) (fc:=cj) (fe:=cJ) (k:=1) jD (fun _=>D.bl true) [.e,.v (.tup (js.map jD))] p.1 fun j hj=>⟨[.v (jD j),.v (.tup (js.map jD))],[.v (jD j),.v (.tup (js.map jD))],.d (.bl true),[.v (jD j),.v (.tup (js.map jD))],[.v (jD j),.v (.tup (js.map jD))],rfl,rfl,au rfl rfl rfl rfl (by rw[Oq,Ae (sb j hj)]),rfl,rfl⟩
 have al:=Ij (fun _:Jnt=>true) p.1;rw[Xj.mpr fun _ _=>rfl]at al;refine aJ (o:=.nx [.v (.tup (js.map jD)),.v (dD p)]) rfl ?_ rfl;exact cW (nP (fQ (aC (aQ rfl rfl hd rfl) rfl)) (fQ (aC (aL (ag (bF (db (au rfl rfl rfl rfl (bG (i:=0) rfl)) rfl) (rf (l:=p.1.map jD) (n:=2) (by rw[Za];exact sz) (by decide) rfl) ec) rfl) rfl al) rfl))) rfl
def zS(hd:d6 [dD p]=some (.bl true,false)):ut [dD p]=some (dD (p.2,p.1),false):=by
 refine aJ (o:=.rt (.d (dD (p.2,p.1))) [.v (dD p)]) rfl ?_ rfl;exact aq (cW (fQ (aC (aQ rfl rfl hd rfl) rfl)) rfl) (aK (bo (ag (au rfl rfl rfl rfl (bG (i:=1) rfl)) (ag (au rfl rfl rfl rfl (bG (i:=0) rfl)) rfl)) rfl (by show 2<=1000000;decide)))
def sS(xs:List D):nO [.tup xs]=some (.lst xs,true):=rfl
def IS{J g c:List Jnt}(hl:J.length<=60)(hc:c.length<=2)(ne:∀j∈J,j≠[])(nc:∀j∈c,j≠[]):bO [.lst ((J.filter (fun j=>!decide (j∈g))).map jD++c.map jD)]=some (.lst ((bhd J g c).map jD),true):=by
 have hf:=Yl (fun j=>!decide (j∈g)) J;refine kY (J.filter (fun j=>!decide (j∈g))++c) (by rw[Xa];lia) (fun j hj=>?_) (by rw[Yc];rfl)
 rcases Zc.mp hj with z|z
 ·exact ne j (Wh.mp z).1
 ·exact nc j z
def EF{J:List Jnt}(hl:J.length<=60)(hc:p.2.length<=2)(ne:∀j∈J,j≠[])(nc:∀j∈p.2,j≠[]):jy [.tup (J.map jD),dD p]=some (.tup ((bhd J p.1 p.2).map jD),false):=by
 obtain⟨g,c⟩:=p;have ec:b9 (gN 0) eO eP 1 (J.map jD) [.e,.v (dD (g,c))]=some ((J.filter (fun j=>!decide (j∈g))).map jD,[.e,.v (dD (g,c))]) :=
  dS (fg:=gN 0) (fc:=eO) (fe:=eP) (k:=1) jD jD (fun j=>!decide (j∈g)) [.e,.v (dD (g,c))] J fun j _=>
   ⟨[.v (jD j),.v (dD (g,c))],[.v (jD j),.v (dD (g,c))],rfl,aC (au rfl (au rfl rfl rfl rfl (bG (i:=0) rfl)) rfl rfl (wr j g)) rfl,fun _=>rfl,fun _=>⟨.d (jD j),[.v (jD j),.v (dD (g,c))],[.v (jD j),.v (dD (g,c))],rfl,rfl,rfl⟩⟩
 have hf:=Yl (fun j=>!decide (j∈g)) J;refine aJ (o:=.rt (.d (.tup ((bhd J g c).map jD))) [.v (.tup (J.map jD)),.v (dD (g,c))]) rfl ?_ rfl;exact aK (aL (ag (aL (ag (au (bF (db rfl rfl) (rf (n:=60) (by rw[Za];exact hl) (by decide) rfl) ec) (aL (ag (au rfl rfl rfl rfl (bG (i:=1) rfl)) rfl) rfl (sS _)) rfl rfl (vI (b:=c.map jD) (by rw[Za,Za];dsimp only at hc;lia))) rfl) rfl (IS hl hc ne nc)) rfl) rfl (v6 _))
def Ou{J:List Jnt}(hl:J.length<=60)(hc:p.2.length<=2)(ne:∀j∈J,j≠[])(nc:∀j∈p.2,j≠[]):gM [.tup (J.map jD),dD p]=some (.tup ((bhd J p.1 p.2).map jD),false):=by
 obtain⟨g,c⟩:=p;have ec:b9 (gN 0) dA dB 1 (J.map jD) [.e,.v (dD (g,c))]=some ((J.filter (fun j=>!decide (j∈g))).map jD,[.e,.v (dD (g,c))]) :=
  dS (fg:=gN 0) (fc:=dA) (fe:=dB) (k:=1) jD jD (fun j=>!decide (j∈g)) [.e,.v (dD (g,c))] J fun j _=>
   ⟨[.v (jD j),.v (dD (g,c))],[.v (jD j),.v (dD (g,c))],rfl,aC (au rfl (au rfl rfl rfl rfl (bG (i:=0) rfl)) rfl rfl (wr j g)) rfl,fun _=>rfl,fun _=>⟨.d (jD j),[.v (jD j),.v (dD (g,c))],[.v (jD j),.v (dD (g,c))],rfl,rfl,rfl⟩⟩
 have hf:=Yl (fun j=>!decide (j∈g)) J;refine aJ (o:=.rt (.d (.tup ((bhd J g c).map jD))) [.v (.tup (J.map jD)),.v (dD (g,c)),.o (.lst ((J.filter (fun j=>!decide (j∈g))).map jD))]) rfl ?_ rfl;refine aq (dY (bF (db rfl rfl) (rf (n:=60) (by rw[Za];exact hl) (by decide) rfl) ec) rfl) ?_
 exact aK (aL (ag (aL (ag (au rfl (aL (ag (au rfl rfl rfl rfl (bG (i:=1) rfl)) rfl) rfl (sS _)) rfl rfl (vI (b:=c.map jD) (by rw[Za,Za];dsimp only at hc;lia))) rfl) rfl (IS hl hc ne nc)) rfl) rfl (v6 _))
structure St(js:List Jnt)(xs:List Str)(ss:List aO):Prop where
 ne:∀s∈ss,s.2≠[]
 pm:(nmz ss).Perm xs
 jo:jo ss=js
theorem St.nm(S:St js xs ss)(nm:∀x∈xs,Nm x):∀s∈ss,∀p∈s.2,Nm p.2:=fun s hs p hp=>nm _ (S.pm.mem_iff.mp (Vj (Wj.mpr ⟨s,hs,hp⟩)))
def St.len(S:St js xs ss):(ss.flatMap (·.2)).length=xs.length:=by have:=S.pm.length_eq;unfold nmz at this;rw[Za]at this;exact this
def St.jnts(S:St js xs ss)(nm:∀x∈xs,Nm x)(hx:xs.length<=8):fI [.tup (ss.map stD)]=some (.tup (js.map jD),false):=by
 have:=Ev S.ne (S.nm nm) (by rw[S.len];lia)
 rwa [S.jo]at this
def zT(J:Js js xs)(st:bD js=js)(nm:∀x∈xs,Nm x)(hx:xs.length<=8):St js xs (SS js):=by
 obtain⟨_,o,pm⟩:=wg J nm (by lia)
 have e:jo (SS js)=bD js:=jF (Ex J o.ne o.sub pm);exact⟨o.ne,pm,e.trans st⟩
def Js.eok(J:Js js xs)(nm:∀x∈xs,Nm x)(sb:∀j∈p.1,j∈js):∀e∈p.1.flatten,EOk e:=fun e he=>by
 obtain⟨j,hj,hej⟩:=Wf.mp he;have:=J.en.mp (Wf.mpr ⟨j,sb j hj,hej⟩);exact⟨nm _ this.1,this.2⟩
def K5(h:J12 g):∀j∈g,j≠[]:=fun j hj z=>by have:=h j hj;rw[z]at this;simp at this
def zU(J:Js js xs)(nm:∀x∈xs,Nm x)(hx:xs.length<=4)(S:St js xs ss)(h:Dd p)(sb:∀j∈p.1,j∈js):uq [.tup (ss.map stD),dD p]=some (.tup ((SS (bhd js p.1 p.2)).map stD),false):=by
 have J2:=qN J h sb;have f:=J.few hx;have e1:=S.jnts nm (by lia)
 have c2:p.2.length<=2:=by have:=h.sw.hf.sz;dsimp only at this;lia
 have c1:p.1.length<=2:=by have:=h.hf.sz;lia
 have e2:=Os (js:=js) (uU h (J.eok nm sb)) c1 sb;have e3:=Ou (p:=p) (J:=js) (by lia) c2 (K5 J.ln) (K5 h.sw.hf.ln)
 have e4:=(wg J2 nm (by lia)).1
 rw[Qr J2 nm (by lia)]at e4
 refine aJ (o:=.rt (.d (.tup ((SS (bhd js p.1 p.2)).map stD))) [.v (.tup (ss.map stD)),.v (dD p),.v (.tup (js.map jD))]) rfl ?_ rfl;refine aq (cC (aI rfl rfl e1) rfl) (aq (bV (aI rfl rfl e2)) ?_);exact aK (aI (ag (aI rfl rfl e3) rfl) rfl e4)
def dl(js:List Jnt):List D:=de 40 ((am js).map dD)
theorem wt:∀l:List Jnt,J12 l->(l.filter isP).length+l.length<=l.flatten.length
 |[],_=>Wb _
 | j::r,h=>by
  have h1:=wt r fun x hx=>h x (Vb _ hx);rw[Vg,Xa,BS,Qc];rcases h j Va with z|z
  ·rw[Aj (by unfold isP;rw[z];decide)]
   lia
  ·rw[Ag (by unfold isP;rw[z];rfl),Qc]
   lia
def xU(J:Js js xs)(hx:xs.length<=4):(am js).length<64:=by
 have f:=J.few hx;rw[sP,Xa,Za];have h1:=wt js J.ln;have h2:=IH js;have:js.length*js.length<=8*js.length:=Nat.mul_le_mul_right _ f.2;lia
def zV(J:Js js xs)(nm:∀x∈xs,Nm x)(hx:xs.length<=4)(S:St js xs ss):gf [.tup (ss.map stD)]=some (.lst (dl js),true) :=
 aJ (o:=.rt (.f (.lst (dl js))) [.v (.tup (ss.map stD))]) rfl (aK (aI (ag (aI rfl rfl (S.jnts nm (by lia))) rfl) rfl (IG J.ln (by have:=J.few hx;lia) (xU J hx)))) rfl
end
end K17
namespace K17
open PySem L2 VF VL VF22
noncomputable section
theorem sT:∀{ys:List β}{xs:List α},ys.Perm (xs.map f)->∃zs:List α,ys=zs.map f/\zs.Perm xs
 |[],xs,h=>⟨[],rfl,by have:=h.length_eq;rw[Wg,Za]at this;rw[Yf this.symm]⟩
 | y::ys,xs,h=>by
  obtain⟨x,hx,rfl⟩:=Qb.mp (h.mem_iff.mp Va);obtain⟨a,b,rfl⟩:=Cn hx
  have h2:(f x::ys).Perm (f x::(a++b).map f):=h.trans (by
   have:=(Bg (a:=x) (l₁:=a) (l₂:=b)).map f
   exact this)
  obtain⟨zs,rfl,p⟩:=sT (h2.cons_inv);exact⟨x::zs,rfl,(p.cons x).trans Bg.symm⟩
def SD(B:List Jnt):D:=.tup ((SS B).map stD)
def Ov(n:Nat){ss:List aO}(h:ss.length<=1000)(h2:∀s∈ss,s.2.length<=1000):Dp (n+4) (.tup (ss.map stD)) :=
 .tup (by rw[Za];lia) fun d hd=>by
  obtain⟨s,hs,rfl⟩:=Qb.mp hd;refine .tup (by show 2<=1000000;decide) fun d hd=>?_
  rcases Wc.mp hd with rfl|hd
  ·exact .str _ _
  ·obtain rfl:=Wa.mp hd;refine .tup (by rw[Za];have:=h2 s hs;lia) fun d hd=>?_
   obtain⟨p,_,rfl⟩:=Qb.mp hd;exact .str _ _
def xV(ss:List aO):Pl 40 (.tup (ss.map stD)):=.tup fun d hd=>by
 obtain⟨s,hs,rfl⟩:=Qb.mp hd;refine .tup fun d hd=>?_;rcases Wc.mp hd with rfl|hd
 ·exact .str _ _
 ·obtain rfl:=Wa.mp hd;refine .tup fun d hd=>?_;obtain⟨p,_,rfl⟩:=Qb.mp hd;exact .str _ _
section
variable {js:List Jnt}{xs:List Str}{ss:List aO}
def St.al(S:St js xs ss)(hx:xs.length<=4):cR 6 [.tup (ss.map stD),.tup (ss.map stD)]=some (.bl true,false):=by
 refine ja (Ov 2 ?_ fun s hs=>?_)
 ·have:=jC ss S.ne;have:=S.len;lia
 ·have:=S.len;obtain⟨a,b,e⟩:=Cn hs;rw[e,Xg,Xf,Xa,Xa]at this;lia
def IT{xs:List Str}(nm:∀x∈xs,Nm x)(hx:xs.length<=4)(a:St A xs (SS A))(b:St B xs (SS B))(e:SD A=SD B):A=B:=by
 have e1:=a.jnts nm (by lia)
 have e2:=b.jnts nm (by lia)
 unfold SD at e;rw[e,e2]at e1;have:=(Prod.mk.inj (Option.some.inj e1)).1;injection this with this;have:=congrArg (List.map unJ) this;rw[Ze,Ze,show(unJ ∘ jD)=id from funext jE,Yn,Yn]at this;exact this.symm
def Dd.sm{p:iH}(h:Dd p):Sm p:=by
 have a:=h.hf;have b:=h.sw.hf;exact⟨by have:=a.sz;lia,by have:=b.sz;dsimp only at this;lia,fun j hj=>by have:=a.ln j hj;lia,fun j hj=>by have:=b.ln j hj;lia⟩
def bh(js:List Jnt)(ps:List iH)(i:Nat):List Jnt:=bhd js (ps.getD i ([],[])).1 (ps.getD i ([],[])).2
def turn{S φ:D}{ps:List iH}{a k:Nat}{s9 s10 s11:Sl}{js:List Jnt}{xs:List Str}{ss:List aO}(J:Js js xs)(st:bD js=js)(nm:∀x∈xs,Nm x)(hx:xs.length<=4)(X:St js xs ss)(pp:ps.Perm (am js))(hn:0<ps.length)(hk:k<ps.length)
  (i9:s9.isIo=false)(i10:s10.isIo=false)(i11:s11.isIo=false) :
  ∃t9 t10 t11,pF [.v S,.o φ,.v (.tup (ss.map stD)),.v (.tup (js.map jD)),.v (SD js),.o (.lst (ps.map dD)),.v (.int (a:Int)),.o (.lst (SD js::(List.range k).map fun i=>SD (bh js ps ((a+i) % ps.length)))),.v (.int (k:Int)),s9,s10,s11]=some (.nx [.v S,.o φ,.v (.tup (ss.map stD)),.v (.tup (js.map jD)),.v (SD js),.o (.lst (ps.map dD)),.v (.int (a:Int)),.o (.lst (SD js::(List.range (k+1)).map fun i=>SD (bh js ps ((a+i) % ps.length)))),.v (.int (k:Int)),t9,t10,t11])/\t9.isIo=false/\t10.isIo=false/\t11.isIo=false:=by
 have hi:(a+k) % ps.length<ps.length:=Nat.mod_lt _ hn;have all:∀i,i<ps.length->Dd (ps.getD i ([],[]))/\∀j∈(ps.getD i ([],[])).1,j∈js:=fun i h=>by
  rw[Qa,Ya h];exact Qx J st (pp.mem_iff.mp (Xl h))
 obtain⟨hd,sb⟩:=all _ hi;have hB:bh js ps ((a+k) % ps.length)=bhd js (ps.getD ((a+k) % ps.length) ([],[])).1 (ps.getD ((a+k) % ps.length) ([],[])).2:=rfl;have stB:∀i,i<ps.length->St (bh js ps i) xs (SS (bh js ps i)):=fun i h=>zT (qN J (all i h).1 (all i h).2) (uS _ _ _) nm (by lia)
 have old:SD (bh js ps ((a+k) % ps.length))∉SD js::(List.range k).map fun i=>SD (bh js ps ((a+i) % ps.length)):=fun z=>by
  rcases Wc.mp z with z|z
  ·exact Op hd sb (IT nm hx (stB _ hi) (zT J st nm (by lia)) z)
  ·obtain⟨i,hik,e⟩:=Qb.mp z;have hik:=Qj.mp hik;have hi2:(a+i) % ps.length<ps.length:=Nat.mod_lt _ hn;have e2:=IT nm hx (stB _ hi2) (stB _ hi) e;have e3:=K4 J (all _ hi2).1 (all _ hi2).2 hd sb e2;rw[Qa,Ya hi2,Qa,Ya hi]at e3;have nd:ps.Nodup:=pp.nodup_iff.mpr (QB J);have nd:=C4.mp nd;have e4:(a+i) % ps.length=(a+k) % ps.length:=by
    rcases Nat.lt_trichotomy ((a+i) % ps.length) ((a+k) % ps.length) with q|q|q
    ·exact absurd e3 (nd _ _ hi2 hi q)
    ·exact q
    ·exact absurd e3.symm (nd _ _ hi hi2 q)
   have h1:=Nat.div_add_mod (a+i) ps.length;have h2:=Nat.div_add_mod (a+k) ps.length;have h3:ps.length*((a+k) / ps.length)<ps.length*((a+i) / ps.length+1):=by rw[Nat.mul_add];lia
   have h4:ps.length*((a+i) / ps.length)<=ps.length*((a+k) / ps.length):=Nat.mul_le_mul_left _ (Nat.div_le_div_right (by lia))
   have h5:=Nat.lt_of_mul_lt_mul_left h3;have h6:=Nat.le_of_mul_le_mul_left h4 hn;have h7:(a+i) / ps.length=(a+k) / ps.length:=by lia
   rw[h7]at h1;lia
 generalize hp:ps.getD ((a+k) % ps.length) ([],[])=p at hd sb hB;have J2:=qN J hd sb;have f:=J.few hx;have c2:p.2.length<=2:=by have:=hd.sw.hf.sz;dsimp only at this;lia
 have sw:=hd.sw;have sbw:∀j∈p.2,j∈bhd js p.1 p.2:=fun j hj=>bhd_in.mpr (.inr hj);have SB:=zT J2 (uS _ _ _) nm (by lia)
 have ix:bIx (.lst (ps.map dD)) (.int (((a:Int)+(k:Int)) % (ps.length:Int)))=some (dD p,false):=by
  have:((a:Int)+(k:Int)) % (ps.length:Int)=(((a+k) % ps.length:Nat):Int):=by push_cast;rfl
  rw[this];refine iF (iX ?_);rw[Yd,Ya hi,<-hp,Qa,Ya hi];rfl
 have ln:ce [.lst (ps.map dD)]=some (.int (ps.length:Int),false):=by
  show some (D.int (((ps.map dD).length:Nat):Int),false)=_;rw[Za]
 have e1:=zU J nm hx X hd sb;have e2:=uU hd (J.eok nm sb);have e3:=EF (p:=p) (J:=js) (by lia) c2 (K5 J.ln) (K5 hd.sw.hf.ln)
 have e4:=sO J2 nm (by lia)
 have e5:=zS e2;have e6:=uU (p:=(p.2,p.1)) sw (fun e he=>J.eok nm sb e (hd.pf.mem_iff.mp he));have e7:=zS e6;have e8:=zV J2 nm hx SB;have e9:=zU J2 nm hx SB sw sbw;rw[IN J st hd sb]at e9;have al1:=SB.al hx;have al2:cR 6 [dD (p.2,p.1),dD (p.2,p.1)]=some (.bl true,false):=ja (L3 1 sw.sm);have al3:cR 6 [dD p,dD p]=some (.bl true,false):=ja (L3 1 hd.sm);have al4:=(zT J st nm (by lia)).al hx
 have inS:xg (SD (bhd js p.1 p.2)) (.lst (SD js::(List.range k).map fun i=>SD (bh js ps ((a+i) % ps.length))))=some (.bl false,false) :=
  IQ rfl rfl (xV _) (fun e he=>by
   rcases Wc.mp he with z|z
   ·rw[z];exact xV _
   ·obtain⟨i,_,rfl⟩:=Qb.mp z
    exact xV _) ⟨fun z=>(by cases z),fun z=>absurd (hB ▸ z) old⟩
 have inD:hV (dD (p.2,p.1)) (.lst (dl (bhd js p.1 p.2)))=some (.bl false,false) :=
  sR (c:=true) rfl rfl (ID 35 (p.2,p.1)) (fun e he=>by
   obtain⟨q,_,rfl⟩:=Qb.mp ((gF 40 _).mem_iff.mp he)
   exact ID 35 q) ⟨fun _=>(gF 40 _).mem_iff.mpr (Vj (Qz J2 (uS _ _ _) sw sbw)),fun _=>rfl⟩
 have hr:(SD js::(List.range (k+1)).map fun i=>SD (bh js ps ((a+i) % ps.length)))=(SD js::(List.range k).map fun i=>SD (bh js ps ((a+i) % ps.length)))++[SD (bhd js p.1 p.2)]:=by
  rw[List.range_succ,Yc,Ck,hB];rfl
 have hl:(SD js::(List.range k).map fun i=>SD (bh js ps ((a+i) % ps.length))).length<1000000:=by
  rw[Qc,Za,AU];have:=pp.length_eq;have:=xU J hx;lia
 rw[hr];generalize (SD js::(List.range k).map fun i=>SD (bh js ps ((a+i) % ps.length)))=se at inS hl;have t1:D.tup ((SS js).map stD)=SD js:=rfl;have t2:D.tup ((SS (bhd js p.1 p.2)).map stD)=SD (bhd js p.1 p.2):=rfl;rw[t1]at e9 al4;rw[t2]at e1 e4 e8 e9 al1;generalize SD js=BG at *;generalize SD (bhd js p.1 p.2)=TH at *;generalize D.tup (ss.map stD)=XD at *;generalize D.tup (js.map jD)=TD at *;refine⟨.v (dD p),.v TH,.v (dD (p.2,p.1)),?_,rfl,rfl,rfl⟩;refine aq (cC (au rfl (au (au rfl rfl rfl rfl rfl) (aL rfl rfl ln) rfl rfl (xN (by lia))) rfl rfl ix) (bp (t:=s9) rfl i9)) ?_
 refine aq (cC (aI rfl rfl e1) (bp (t:=s10) rfl i10)) ?_;refine aq (cW (nP (aC (au (aQ rfl rfl e2 rfl) rfl rfl rfl rfl) rfl) (aC (au rfl rfl rfl rfl inS) rfl)) rfl) ?_;refine aq (bV (iM rfl rfl rfl rfl rfl rfl rfl (dJ hl))) ?_;refine aq (cW (fQ (aC (aQ (ag rfl (ag (aI (ag (aI rfl rfl e3) rfl) rfl e4) rfl)) rfl al1 rfl) rfl)) rfl) ?_;refine aq (cC (aI rfl rfl e5) (bp (t:=s11) rfl i11)) ?_;refine aq (cW (nP (fQ (aC (aQ (ag rfl (ag (bo (ag (au rfl rfl rfl rfl (bG (i:=1) rfl)) (ag (au rfl rfl rfl rfl (bG (i:=0) rfl)) rfl)) rfl (by show 2<=1000000;decide)) rfl)) rfl al2 rfl) rfl)) (fQ (aC (aQ (ag (aI rfl rfl e7) rfl) rfl al3 rfl) rfl))) rfl) ?_
 exact cW (nP (aC (au rfl (aI rfl rfl e8) rfl rfl inD) rfl) (fQ (aC (aQ (ag (aI rfl rfl e9) rfl) rfl al4 rfl) rfl))) rfl
end
end
end K17
namespace K17
open PySem L2 VF VL VF22
noncomputable section
variable {js:List Jnt}{xs:List Str}{ss:List aO}
def QC{j:Jnt}(h:j∈sj s):(j.length=1\/j.length=2)/\aA j=j:=by
 have two:∀a b:End,((aA [a,b]).length=1\/(aA [a,b]).length=2)/\aA (aA [a,b])=aA [a,b]:=fun a b=>⟨.inr (qJ a b),sQ _⟩;unfold sj at h;rcases Zc.mp h with h|h
 ·unfold inn at h;obtain⟨q,_,rfl⟩:=Qb.mp h;exact two _ _
 ·unfold Et at h;split at h
  ·obtain rfl:=Wa.mp h;exact two _ _
  ·simp at h;rcases h with rfl|rfl<;>exact⟨.inl rfl,eQ _⟩
def QD(hne:∀s∈ss,s.2≠[])(pm:(nmz ss).Perm xs)(nd:xs.Nodup):Js (jo ss) xs:=by
 have a:∀j∈jo ss,(j.length=1\/j.length=2)/\aA j=j:=fun j hj=>by
  obtain⟨s,_,h⟩:=Wj.mp ((bW _).2.mem_iff.mp hj);exact QC h
 exact⟨fun j hj=>(a j hj).1,Kv hne pm,fun j hj=>(a j hj).2,nd⟩
def QE{a b:Jnt}(h1:a.length=1\/a.length=2)(h2:b.length=1\/b.length=2):∃p,p∈dn a b:=by
 unfold dn;rcases mx h1 with⟨x,rfl⟩|⟨x,y,rfl⟩
 ·rcases mx h2 with⟨y,rfl⟩|⟨y,z,rfl⟩<;>exact⟨_,Va⟩
 ·obtain⟨o,os,rfl,_⟩:=jne h2;exact⟨_,Va⟩
def QF(J:Js js xs)(hx:1<=xs.length):∃p,p∈am js:=by
 have fl:2<=js.flatten.length:=by
  have:=J.pf.length_eq;rw[Xa,Za,Za]at this;lia
 rw[sP];cases js with
 |nil=>simp at fl
 |cons a r=>
  cases r with
  |nil=>
   rw[BX]at fl;refine⟨nq a,Vf _ (Qb.mpr ⟨a,Wh.mpr ⟨Va,?_⟩,rfl⟩)⟩;have:=J.ln a Va;unfold isP;exact Ae (by lia)
  |cons b r=>
   obtain⟨p,hp⟩:=QE (J.ln a Va) (J.ln b (Vb _ Va));exact⟨p,Xd _ (pw_in.mpr ⟨a,b,(Wm.mpr Va).cons_cons _,hp⟩)⟩
def K6(ns:List Int):PL [.fl (ns.map D.int)]=some (.bl true,false):=by
 have f0:dI (Fl ns 0 0 1 0):=⟨ns,0,0,1,0,rfl,by decide,by decide,by decide,by decide⟩
 obtain⟨n,φ1,e1,n0,n1,f1⟩:=dC (n:=4) f0 (by decide) (by decide)
 obtain⟨xs,φ2,e2,hxl,nm,nd,f2⟩:=HB (n:=1+n) f1 (by lia) (by lia)
 obtain⟨ss,φ3,e3,hne,pm,f3⟩:=Oc f2 (by lia) nm
 have J:=QD hne pm nd;have hx:xs.length<=4:=by lia
 have X:St (jo ss) xs ss:=⟨hne,pm,rfl⟩;have st:bD (jo ss)=jo ss:=oj _;have e4:=xQ hne (X.nm nm) (by rw[X.len];lia)
 have e5:=sO J nm (by lia)
 have e6:=zV J nm hx X;have al:=xU J hx;obtain⟨p0,hp0⟩:=QF J (by lia)
 generalize jo ss=js at *;obtain⟨ps,ep,pp⟩:=sT (gF 40 ((am js).map dD));rw[show dl js=ps.map dD from ep]at e6;have hn:0<ps.length:=Di (pp.mem_iff.mpr hp0);have pl:=pp.length_eq;obtain⟨a,φ4,e7,a0,a1,f4⟩:=dC (n:=(ps.length:Int)) f3 (by lia) (by lia)
 obtain⟨a,rfl⟩:=Df a0;have ln:ce [.lst (ps.map dD)]=some (.int (ps.length:Int),false):=by
  show some (D.int (((ps.map dD).length:Nat):Int),false)=_;rw[Za]
 have lz:ay (fOp lK (fCB ce (aa (aB 5) af)) (fC (.int 0))) [.v (.fl (ns.map D.int)),.o φ3,.v (.tup (ss.map stD)),.v (.tup (js.map jD)),.v (SD js),.o (.lst (ps.map dD)),.e,.e,.e,.e,.e,.e]=some (false,[.v (.fl (ns.map D.int)),.o φ3,.v (.tup (ss.map stD)),.v (.tup (js.map jD)),.v (SD js),.o (.lst (ps.map dD)),.e,.e,.e,.e,.e,.e]) :=
  eS (aC (au (aL rfl rfl ln) rfl rfl rfl Ol) rfl) (Af (by lia))
 obtain⟨m,hm,hm2⟩:∃m:Nat,b2 Nu [.int 6,.int (ps.length:Int)]=some (.int (m:Int),false)/\m<=ps.length:=by
  show ∃m:Nat,some (D.int (if (ps.length:Int)<6 then(ps.length:Int) else 6),false)=_/\_;by_cases c:(ps.length:Int)<6
  ·exact⟨ps.length,by rw[Ag c],Wb _⟩
  ·exact⟨6,by rw[Aj c];rfl,by lia⟩
 generalize hS:D.fl (ns.map D.int)=S at *;obtain⟨sf,el,s8,s9,s10,s11,rfl,i8,i9,i10,i11⟩:=bM (fg:=gN 8) (B:=pF) (fun k:Nat=>D.int (k:Int)) (List.range m)
  (fun gone sx=>∃s8 s9 s10 s11,sx=[.v S,.o φ4,.v (.tup (ss.map stD)),.v (.tup (js.map jD)),.v (SD js),.o (.lst (ps.map dD)),.v (.int (a:Int)),.o (.lst (SD js::(List.range gone.length).map fun i=>SD (bh js ps ((a+i) % ps.length)))),s8,s9,s10,s11]/\s8.isIo=false/\s9.isIo=false/\s10.isIo=false/\s11.isIo=false)
  (by
   rintro gone k rest sx ha ⟨s8,s9,s10,s11,rfl,i8,i9,i10,i11⟩;have hk:k=gone.length:=by
    have h1:(List.range m)[gone.length]?=some k:=by rw[ha];simp
    have h2:=(Zd.mp h1).2;simpa using h2.symm
   have hkm:k<m:=Qj.mp (by rw[ha];simp)
   obtain⟨t9,t10,t11,et,j9,j10,j11⟩:=turn (S:=S) (φ:=φ4) (a:=a) (k:=k) J st nm hx X pp hn (by lia) i9 i10 i11
   rw[<-hk];refine⟨_,_,bp (t:=s8) rfl i8,et,.v (.int (k:Int)),t9,t10,t11,?_,rfl,j9,j10,j11⟩
   rw[Xa,We,<-hk])
  (List.range m) [] [.v S,.o φ4,.v (.tup (ss.map stD)),.v (.tup (js.map jD)),.v (SD js),.o (.lst (ps.map dD)),.v (.int (a:Int)),.o (.lst [SD js]),.e,.e,.e,.e] rfl ⟨.e,.e,.e,.e,rfl,rfl,rfl,rfl,rfl⟩
 have rg:rng 0 (m:Int).toNat=(List.range m).map fun k:Nat=>D.int (k:Int):=by
  have:=JV 0 m;rw[Xn];refine this.trans (Vh fun k _=>?_);rw[A8]
 have e5:fJ [.tup (js.map jD)]=some (SD js,false):=e5;generalize SD js=BG at *;generalize D.tup (ss.map stD)=XD at *;generalize D.tup (js.map jD)=TD at *;generalize ps.map dD=LD at *;generalize (BG::(List.range (List.range m).length).map fun i=>SD (bh js ps ((a+i) % ps.length)))=se at *;refine aJ (o:=.rt (.d (.bl true)) [.v S,.o φ4,.v XD,.v TD,.v BG,.o (.lst LD),.v (.int (a:Int)),.o (.lst se),s8,s9,s10,s11]) rfl ?_ rfl;refine aq (dY (aI rfl rfl (hS ▸ Kl ns)) rfl) ?_;refine aq (cC (Nq rfl rfl (ag (cT rfl rfl (ag (au rfl (cT rfl rfl rfl rfl rfl rfl e1) rfl rfl rfl) rfl) rfl rfl rfl e2) rfl) rfl rfl rfl e3) rfl) ?_;refine aq (cC (aI rfl rfl e4) rfl) ?_;refine aq (cC (aI rfl rfl e5) rfl) ?_;refine aq (dY (aI rfl rfl e6) rfl) ?_;refine aq (cW lz rfl) ?_;refine aq (cC (cT rfl rfl (ag (aL rfl rfl ln) rfl) rfl rfl rfl e7) rfl) ?_;refine aq (dY (jG (ag rfl rfl) rfl (by show 1<=1000000;decide)) rfl) ?_
 refine aq (cS (jd (j:=(m:Int)) (ag (aL (ag rfl (ag (aL rfl rfl ln) rfl)) rfl hm) rfl) rfl (by lia)) (by rw[rg];exact el)) rfl
end
end K17
namespace K17
open PySem L2 VF VF22
local macro_rules|`(tactic| walk_at "r")=>`(tactic| repeat' first|(with_reducible first|refine yA ?_ ?_|exact ML _|exact MQ|refine Lp ?_ ?_ ?_|exact MM _|refine Fs ?_ ?_|refine Lx ?_ ?_|exact Pb|refine Ft ?_|refine Fu ?_|refine yB ?_|refine tI ?_|refine Fo ?_|refine Lz ?_ ?_ ?_|exact Ju|refine vo ?_|refine Gc ?_|refine Fp ?_|refine Lr ?_|exact Ni|exact MN _|exact ro_addA|exact DU|exact ro_eqA|refine OY ?_ ?_|refine yD ?_|refine Ly ?_|exact DV|exact wX fun _ _=>.ty _|refine pc ?_ (dM _) (by decide) ?_ ?_|exact OW _|refine yw ?_|exact MP|exact rX|refine tN ?_ (dM _) ?_|refine Fn ?_ ?_|exact GM|refine Fw ?_ ?_ ?_|refine yy ?_ ?_|refine vy ?_|exact M8|refine vz ?_ ?_ ?_ ?_|refine Lu ?_ ?_ ?_|exact M0|exact FW|exact MO|exact M2|refine Lq ?_ ?_|exact JT|exact ro_neA|exact DR|exact JE|exact yK|exact D2|exact MY|exact JZ|refine yC ?_|exact Ny|refine LE ?_ ?_ ?_|exact Gw|exact Nz|refine vp _ ?_ ?_|exact M4|exact Ga|exact MZ|exact ro_inA|exact rY|refine yx ?_ ?_|exact D0|exact O7|exact Na|refine GB ?_|refine pc ?_ (tL (fG (dM _) (fG (dM _) o9))) (by decide) ?_ ?_|exact ro_notinA|exact GO|exact GX|exact GP|exact NO true|exact NB|exact Gs|refine tN ?_ (tL (fG (dM _) (fG (dM _) o9))) ?_|exact JD|exact wX fun _ _=>.int _|refine vn ?_ ?_ ?_ ?_ ?_|exact wX fun _ _=>.str _|exact rW|refine Gf ?_|exact vS|exact Ke|exact Ha|refine yz ?_|exact NR|exact Jx|refine G6 ?_|refine ze ?_|exact O9|exact M1|exact O8|exact yG|exact vB|exact JP|exact G0|exact vR|refine Gh (fun _ _=>El.one (.bl _)) ?_|exact JO|exact He)|walk_at "s")
local macro_rules|`(tactic| walk_at "s")=>`(tactic| first|refine OY ?_ ?_|refine pc ?_ (dM _) (by decide) ?_ ?_|exact rX|refine tN ?_ (dM _) ?_|refine vz ?_ ?_ ?_ ?_|exact FW|refine LE ?_ ?_ ?_|refine vp _ ?_ ?_|exact rY|refine pc ?_ (tL (fG (dM _) (fG (dM _) o9))) (by decide) ?_ ?_|refine tN ?_ (tL (fG (dM _) (fG (dM _) o9))) ?_|exact rW|exact vS|refine G6 ?_|exact yG|exact vB|exact vR|refine yA ?_ ?_|refine Lp ?_ ?_ ?_|refine Fs ?_ ?_|refine Lx ?_ ?_|refine Ft ?_|refine Fu ?_|refine yB ?_|refine tI ?_|refine Fo ?_|refine Lz ?_ ?_ ?_|refine vo ?_|refine Gc ?_|refine Fp ?_|refine Lr ?_|refine yD ?_|refine Ly ?_|refine yw ?_|refine Fn ?_ ?_|refine Fw ?_ ?_ ?_|refine yy ?_ ?_|refine vy ?_|refine Lu ?_ ?_ ?_|refine Lq ?_ ?_|refine yC ?_|refine yx ?_ ?_|refine GB ?_|refine vn ?_ ?_ ?_ ?_ ?_|refine Gf ?_|refine yz ?_|refine ze ?_|refine Gh (fun _ _=>El.one (.bl _)) ?_)
section
variable (P:Program)(w:World)(K:Ab)(mg:Str->Option Value)(base:Heap)
abbrev sU:=Cal P w K mg base "is_name" 1 nl0 (spV K kR)
abbrev fL:=Cal P w K mg base "is_turned" 1 nl1 (spV K cb)
abbrev fj:=Cal P w K mg base "name_of" 2 nl1 (spV K bP)
abbrev jI:=Cal P w K mg base "mirrored" 3 nl1 (spV K dW)
abbrev gX:=Cal P w K mg base "turned_beads" 4 nl2 (spV K df)
abbrev nr:=Cal P w K mg base "canon_open" 5 nl2 (spV K jj)
abbrev lA:=Cal P w K mg base "first_place" 3 nl2 (spV K cO)
abbrev nu:=Cal P w K mg base "canon_ring" 5 nl2 (spV K jm)
abbrev kB:=Cal P w K mg base "canon_strand" 6 nl4 (spV K di)
abbrev lB:=Cal P w K mg base "strand_rank" 3 nl4 (spV K cP)
abbrev zW:=Cal P w K mg base "canon" 7 nl5 (spV K um)
abbrev qO:=Cal P w K mg base "is_whole" 1 nl0 (spV K qu)
abbrev jJ:=Cal P w K mg base "left_end" 3 nl1 (spV K dX)
abbrev kC:=Cal P w K mg base "right_end" 4 nl1 (spV K dZ)
abbrev gY:=Cal P w K mg base "joint_of" 1 ["ends"] (spV K ci)
abbrev nA:=Cal P w K mg base "rising" 1 ["things"] (spV K cM)
abbrev wu:=Cal P w K mg base "is_end" 2 nl0 (spV K qx)
abbrev qP:=Cal P w K mg base "is_joint" 3 nl0 (spV K gI)
abbrev kD:=Cal P w K mg base "inner_joints" 5 nl2 (spV K eK)
abbrev jM:=Cal P w K mg base "strand_joints" 6 nl4 (spV K dN)
abbrev kF:=Cal P w K mg base "joints_of" 7 nl5 (spV K fI)
abbrev lC:=Cal P w K mg base "ends_beyond" 1 nl3 (spV K iz)
abbrev sV:=Cal P w K mg base "bead_at" 4 nl6 (spV K kT)
abbrev wv:=Cal P w K mg base "across" 1 nl6 (spV K mU)
abbrev nB:=Cal P w K mg base "beads_from" 5 ["begin","beyond"] (spV K gc)
abbrev ww:=Cal P w K mg base "set_of" 8 nl3 (spV K qA)
abbrev sW:=Cal P w K mg base "is_half" 4 nl0 (spV K iP)
abbrev zX:=Cal P w K mg base "sizes" 1 nl3 (spV K pE)
abbrev sX:=Cal P w K mg base "ends_of" 1 nl3 (spV K iQ)
abbrev lf:=Cal P w K mg base "is_deed" 5 nl0 (spV K d6)
abbrev ii:=Cal P w K mg base "refuse_undoable" 6 xy (spV K eN)
abbrev kG:=Cal P w K mg base "put_in_place" 1 xy (spV K gM)
abbrev IU:=Cal P w K mg base "done" 9 ["some","deed"] (spV K uq)
abbrev IV:=Cal P w K mg base "back" 6 ["deed"] (spV K ut)
abbrev wx:=Cal P w K mg base "cut_of" 1 nl7 (spV K qC)
abbrev oD:=Cal P w K mg base "exchanges" 2 ["pair","other"] (spV K d7)
abbrev qQ:=Cal P w K mg base "deeds_on" 3 nl9 (spV K lW)
abbrev lD:=Cal P w K mg base "deeds_among" 4 nl3 (spV K iB)
abbrev nC:=Cal P w K mg base "deeds_from" 8 nl5 (spV K gf)
abbrev qR:=Cal P w K mg base "_law_flow" 1 Ed (spV K lY)
abbrev dq:=Cal P w K mg base "_law_pick" 1 nl8 (mI K bi)
abbrev iI:=Cal P w K mg base "_law_letters" 2 nl8 (mI K dL)
abbrev qS:=Cal P w K mg base "_law_name" 3 ["_law_flow_here","_law_stem"] (mI K md)
abbrev oE:=Cal P w K mg base "_law_names" 4 nl8 (mI K kj)
abbrev kH:=Cal P w K mg base "_law_shuffled" 2 ["_law_flow_here","_law_things"] (mI K gP)
abbrev qT:=Cal P w K mg base "_law_line" 3 Ht (mI K gQ)
abbrev sY:=CalD P w K mg base "_law_set" 4 PX [.bl true] (mI K n4)
abbrev oF:=Cal P w K mg base "_law_alike" 6 Ee (spV K (cR 6))
abbrev qU:=Cal P w K mg base "_law_ends" 1 Ef (spV K gR)
abbrev nE:=Cal P w K mg base "_law_joints" 2 ["_law_some"] (spV K jw)
abbrev nF:=Cal P w K mg base "_law_behind" 1 Hu (spV K jy)
abbrev nG:=Cal P w K mg base "_law_walked" 1 ["_law_stand","_law_begin"] (spV K gi)
abbrev oG:=Cal P w K mg base "_law_canon" 2 ["_law_joints_here"] (spV K fJ)
end
section
variable {P:Program}{w:World}{K:Ab}{mg:Str->Option Value}{base:Heap}
def xW(M:Md K mg):Bd' P w K mg base "is_name" pG nl0 0 nU:=fun hr=>⟨_,(ah (bH (PW.pt (g6 (dF (bY (b7 K M.n_isinstance (pv 0) (eI rfl M.n_str nJ)))) (fN (dF (EW Lf Lf ai (bz K M.n_len (pv 0)) (Jl rfl M.c_LONGEST_NAME)))))) (ao (az fD)) aX)
   (ao (az (bc (gz rfl) rfl M.n_all boot_all (ar (cH (cz (osc:=(ak pG)) (ON:=nl0) (N:=["letter"]) (k:=1) (caps:=[]) (by decide +kernel) rfl rfl) rfl (bE (K:=K) rfl (pv 0)) (fun _ _ _ _=>(bw 0 (by show(["letter"]:List Str).Nodup;decide +kernel))) (fun _ _ _ _=>cG) (fun _ _ _ _=>(mB (tS (K:=K) rfl) (pv 0) (Jk rfl M.c_LETTERS) (by with_unfolding_all rfl)))) ae))))),by delta nU;delta oz;walk_at "r"⟩
def uV(M:Md K mg):Bd' P w K mg base "is_turned" n5 nl1 0 j4:=fun hr=>⟨_,(ao (az (mF BV PySem.F.slot_str_startswith PySem.F.type_str_startswith q9 (pv 0) (ar bX ae)))),by delta j4;walk_at "r"⟩
def xX(M:Md K mg)(c1:fL P w K mg base):Bd' P w K mg base "name_of" uu nl1 1 nV:=fun hr=>⟨_,(ao (az (d9 (bY (av c1 hr rfl (ar (pv 0) ae))) (ee (nN (K:=K) rfl) (pv 0) (fX ai) fW) (pv 0)))),by delta nV;walk_at "r"⟩
def wy(M:Md K mg)(c1:fL P w K mg base)(c2:fj P w K mg base):Bd' P w K mg base "mirrored" n6 nl1 2 lO:=fun hr=>⟨_,(ao (az (d9 (bY (av c1 hr rfl (ar (pv 0) ae))) (av c2 hr rfl (ar (pv 0) ae)) (bA K bX (pv 0))))),by delta lO;walk_at "r"⟩
def oV(M:Md K mg)(c3:jI P w K mg base):Bd' P w K mg base "turned_beads" gj nl2 3 gG:=fun hr=>⟨_,(ao (az (bK K M.n_tuple (cH (cz (osc:=(ak gj)) (ON:=nl2) (N:=nl1) (k:=1) (caps:=[]) (by decide +kernel) rfl rfl) rfl (vF (K:=K) rfl rfl rfl M.n_reversed (pv 0)) (fun _ _ _ _=>(bw 0 (by show(nl1:List Str).Nodup;decide +kernel))) (fun _ _ _ _=>cG) (fun _ _ _ _=>(av c3 hr rfl (ar (pv 0) ae))))))),by delta gG;walk_at "r"⟩
def rl(M:Md K mg)(c2:fj P w K mg base)(c4:gX P w K mg base):Bd' P w K mg base "canon_open" mi nl2 4 ji:=fun hr=>⟨_,(ah (bH (aS dE (bz K M.n_len (pv 0)) ai) (ao (az (aV (ar (av c2 hr rfl (ar (aw K (pv 0) ai) ae)) ae)))) aX)
   (ah (bH (aS F3 (av c2 hr rfl (ar (aw K (pv 0) ai) ae)) (av c2 hr rfl (ar (aw K (pv 0) (rF nH ai)) ae))) (ao (az (bK K M.n_tuple (pv 0)))) aX)
   (ao (az (av c4 hr rfl (ar (pv 0) ae)))))),by delta ji;walk_at "r"⟩
def qV(M:Md K mg)(c2:fj P w K mg base):Bd' P w K mg base "first_place" ia ["beads","names"] 2 iu:=fun hr=>⟨_,(ah (pZ 1 (cz (osc:=(ak ia)) (ON:=["beads","names"]) (N:=nl1) (k:=1) (caps:=[]) (by decide +kernel) rfl rfl) rfl sc_sfirstplace.nd (bE (K:=K) rfl (pv 0)) (fun _ _ _ _=>(bw 0 (by show(nl1:List Str).Nodup;decide +kernel))) (fun _ _ _ _=>cG) (fun _ _ _ _=>(av c2 hr rfl (ar (pv 0) ae))))
   (ao (az (mF AC Dc PySem.F.type_list_index (G4 (K:=K) rfl) (pv 1) (ar (bc (D9 (K:=K) rfl rfl) rfl M.n_min Do (ar (pv 1) ae)) ae))))),by delta iu;walk_at "r"⟩
def rm(M:Md K mg)(c1:fL P w K mg base)(c4:gX P w K mg base)(c6:lA P w K mg base):Bd' P w K mg base "canon_ring" mj ["beads","side","begin"] 4 jk:=fun hr=>⟨_,(ah (aT 1 sc_scanonring.nd (d9 (bY (av c1 hr rfl (ar (aw K (pv 0) (av c6 hr rfl (ar (pv 0) ae))) ae))) (av c4 hr rfl (ar (pv 0) ae)) (bK K M.n_tuple (pv 0))))
   (ah (aT 2 sc_scanonring.nd (av c6 hr rfl (ar (pv 1) ae)))
   (ao (az (b8 (kM (K:=K) rfl) (ee (pi (K:=K) rfl) (pv 1) (fX (pv 2)) fW) (ee (pi (K:=K) rfl) (pv 1) fW (fX (pv 2)))))))),by delta jk;walk_at "r"⟩
def oW(M:Md K mg)(c5:nr P w K mg base)(c7:nu P w K mg base):Bd' P w K mg base "canon_strand" jA nl4 5 gH:=fun hr=>⟨_,(ah (bH (aS dE (aw K (pv 0) ai) bX) (ao (az (aV (ar bX (ar (av c5 hr rfl (ar (aw K (pv 0) ai) ae)) ae))))) aX)
   (ao (az (aV (ar bX (ar (av c7 hr rfl (ar (aw K (pv 0) ai) ae)) ae)))))),by delta gH;walk_at "r"⟩
def qW(M:Md K mg)(c2:fj P w K mg base):Bd' P w K mg base "strand_rank" kr nl4 2 iw:=fun hr=>⟨_,(ao (az (aV (ar (f7 dE (aw K (pv 0) ai) bX) (ar (av c2 hr rfl (ar (aw K (aw K (pv 0) ai) ai) ae)) ae))))),by delta iw;walk_at "r"⟩
def IW(M:Md K mg)(c8:kB P w K mg base)(c9:lB P w K mg base):Bd' P w K mg base "canon" uv nl5 6 ul:=fun hr=>⟨_,(ao (az (bK K M.n_tuple (Hb (K:=K) rfl c9 hr rfl M.n_sorted rfl (ar (cH (cz (osc:=(ak uv)) (ON:=nl5) (N:=nl4) (k:=1) (caps:=[]) (by decide +kernel) rfl rfl) rfl (bE (K:=K) rfl (pv 0)) (fun _ _ _ _=>(bw 0 (by show(nl4:List Str).Nodup;decide +kernel))) (fun _ _ _ _=>cG) (fun _ _ _ _=>(av c8 hr rfl (ar (pv 0) ae)))) ae))))),by delta ul;walk_at "r"⟩
def wz(M:Md K mg):Bd' P w K mg base "is_whole" qD nl0 0 lP:=fun hr=>⟨_,(ao (az (ik (b7 K M.n_isinstance (pv 0) (eI rfl M.n_int kJ)) (iU (Mc (b7 K M.n_isinstance (pv 0) (eI rfl M.n_bool gA))))))),by delta lP;walk_at "r"⟩
def wA(M:Md K mg)(c1:fL P w K mg base)(c2:fj P w K mg base):Bd' P w K mg base "left_end" qE nl1 2 lQ:=fun hr=>⟨_,(ao (az (aV (ar (av c2 hr rfl (ar (pv 0) ae)) (ar (d9 (bY (av c1 hr rfl (ar (pv 0) ae))) ai ai) ae))))),by delta lQ;walk_at "r"⟩
def uW(M:Md K mg)(c3:jI P w K mg base)(c12:jJ P w K mg base):Bd' P w K mg base "right_end" n8 nl1 3 j8:=fun hr=>⟨_,(ao (az (av c12 hr rfl (ar (av c3 hr rfl (ar (pv 0) ae)) ae)))),by delta j8;walk_at "r"⟩
def wB(M:Md K mg):Bd' P w K mg base "joint_of" qF ["ends"] 0 lR:=fun hr=>⟨_,(ao (az (bK K M.n_tuple (bc (bN (K:=K) rfl hr) rfl M.n_sorted boot_sorted (ar (pv 0) ae))))),by delta lR;walk_at "r"⟩
def EG(M:Md K mg):Bd' P w K mg base "rising" pH ["things"] 0 qv:=fun hr=>⟨_,(ao (az (bc (gz rfl) rfl M.n_all boot_all (ar (cH (cz (osc:=(ak pH)) (ON:=["things"]) (N:=nl9) (k:=2) (caps:=[]) (by decide +kernel) rfl rfl) rfl (GC (K:=K) rfl rfl rfl rfl M.n_zip (pv 0) (ee (nN (K:=K) rfl) (pv 0) (fX ai) fW)) (fun _ _ _ _=>(ph (K:=K) (n:=2) rfl rfl (fE (bw 0 (by show(nl9:List Str).Nodup;decide +kernel)) (fE (bw 1 (by show(nl9:List Str).Nodup;decide +kernel)) o3)))) (fun _ _ _ _=>cG) (fun _ _ _ _=>(f7 (NS (K:=K) rfl hr.units) (pv 0) (pv 1)))) ae)))),by delta qv;delta jn;walk_at "r"⟩
def EH(M:Md K mg)(c0:sU P w K mg base)(c11:qO P w K mg base):Bd' P w K mg base "is_end" xz nl0 1 qw:=fun hr=>⟨_,(ah (bH (PW.pt (g6 (dF (bY (b7 K M.n_isinstance (pv 0) (eI rfl M.n_tuple cY)))) (g6 (aS (lI (K:=K) rfl hr.units) (bz K M.n_len (pv 0)) ai) (fN (dF (bY (av c0 hr rfl (ar (aw K (pv 0) ai) ae)))))))) (ao (az fD)) aX)
   (ao (az (ik (av c11 hr rfl (ar (aw K (pv 0) ai) ae)) (iU (mB (tS (K:=K) rfl) (aw K (pv 0) ai) (aV (ar ai (ar ai ae))) (by with_unfolding_all rfl))))))),by delta qw;walk_at "r"⟩
def wC(M:Md K mg)(c15:nA P w K mg base)(c16:wu P w K mg base):Bd' P w K mg base "is_joint" mV nl0 2 lS:=fun hr=>⟨_,(ah (bH (PW.pt (g6 (dF (bY (b7 K M.n_isinstance (pv 0) (eI rfl M.n_tuple cY)))) (fN (fq (nM (K:=K) rfl) (bz K M.n_len (pv 0)) (aV (ar ai (ar ai ae))) (by with_unfolding_all rfl))))) (ao (az fD)) aX)
   (ao (az (ik (bc (gz rfl) rfl M.n_all boot_all (ar (cH (cz (osc:=(ak mV)) (ON:=nl0) (N:=nl6) (k:=1) (caps:=[]) (by decide +kernel) rfl rfl) rfl (bE (K:=K) rfl (pv 0)) (fun _ _ _ _=>(bw 0 (by show(nl6:List Str).Nodup;decide +kernel))) (fun _ _ _ _=>cG) (fun _ _ _ _=>(av c16 hr rfl (ar (pv 0) ae)))) ae)) (iU (av c15 hr rfl (ar (pv 0) ae))))))),by delta lS;delta f9;walk_at "r"⟩
def oX(M:Md K mg)(c12:jJ P w K mg base)(c13:kC P w K mg base)(c14:gY P w K mg base):Bd' P w K mg base "inner_joints" gm nl2 4 gJ:=fun hr=>⟨_,(ao (az (cH (cz (osc:=(ak gm)) (ON:=nl2) (N:=nl9) (k:=2) (caps:=[]) (by decide +kernel) rfl rfl) rfl (GC (K:=K) rfl rfl rfl rfl M.n_zip (pv 0) (ee (nN (K:=K) rfl) (pv 0) (fX ai) fW)) (fun _ _ _ _=>(ph (K:=K) (n:=2) rfl rfl (fE (bw 0 (by show(nl9:List Str).Nodup;decide +kernel)) (fE (bw 1 (by show(nl9:List Str).Nodup;decide +kernel)) o3)))) (fun _ _ _ _=>cG) (fun _ _ _ _=>(av c14 hr rfl (ar (aV (ar (av c13 hr rfl (ar (pv 0) ae)) (ar (av c12 hr rfl (ar (pv 1) ae)) ae))) ae)))))),by delta gJ;walk_at "r"⟩
def ol(M:Md K mg)(c12:jJ P w K mg base)(c13:kC P w K mg base)(c14:gY P w K mg base)(c18:kD P w K mg base):Bd' P w K mg base "strand_joints" iE PM 5 fR:=fun hr=>⟨_,(ah (aT 1 sc_sstrandjoints.nd (aw K (pv 0) ai))
   (ah (aT 2 sc_sstrandjoints.nd (av c12 hr rfl (ar (aw K (pv 1) ai) ae)))
   (ah (aT 3 sc_sstrandjoints.nd (av c13 hr rfl (ar (aw K (pv 1) (rF nH ai)) ae)))
   (ah (aT 4 sc_sstrandjoints.nd (d9 (aS dE (aw K (pv 0) ai) bX) (bQ (ar (aV (ar (pv 2) ae)) (ar (aV (ar (pv 3) ae)) ae))) (bQ (ar (av c14 hr rfl (ar (aV (ar (pv 2) (ar (pv 3) ae))) ae)) ae))))
   (ao (az (bA K (av c18 hr rfl (ar (pv 1) ae)) (pv 4)))))))),by delta fR;walk_at "r"⟩
def uX(M:Md K mg)(c19:jM P w K mg base):Bd' P w K mg base "joints_of" n9 ["some","joints","strand"] 6 kc:=fun hr=>⟨_,(ah (aT 1 sc_sjointsof.nd (bQ ae))
   (ah (cX Al rfl (bE (K:=K) rfl (pv 0)) (bw 2 sc_sjointsof.nd) (ao (bR (mF AC BI BH (lJ (K:=K) rfl rfl) (pv 1) (ar (av c19 hr rfl (ar (pv 2) ae)) ae)))))
   (ao (az (bK K M.n_tuple (bc (bN (K:=K) rfl hr) rfl M.n_sorted boot_sorted (ar (pv 1) ae))))))),by delta kc;walk_at "r"⟩
def qX(M:Md K mg):Bd' P w K mg base "ends_beyond" ku ["joints","beyond","joint"] 0 iy:=fun hr=>⟨_,(ah (aT 1 sc_sendsbeyond.nd vf)
   (ah (cX Al rfl (bE (K:=K) rfl (pv 0)) (bw 2 sc_sendsbeyond.nd) (ah (fO (d9 (aS dE (bz K M.n_len (pv 2)) ai) (aw K (pv 2) ai) lE) (gx (pv 1) (aw K (pv 2) ai) (iN (jK hr))))
   (ao (fO (d9 (aS dE (bz K M.n_len (pv 2)) ai) (aw K (pv 2) ai) lE) (gx (pv 1) (aw K (pv 2) (rF nH ai)) (iN (jK hr)))))))
   (ao (az (pv 1))))),by delta iy;delta fS;walk_at "r"⟩
def xY(M:Md K mg)(c3:jI P w K mg base):Bd' P w K mg base "bead_at" uw nl6 3 nW:=fun hr=>⟨_,(ao (az (d9 (aS dE (aw K (pv 0) ai) ai) (aw K (pv 0) ai) (av c3 hr rfl (ar (aw K (pv 0) ai) ae))))),by delta nW;walk_at "r"⟩
def EI(M:Md K mg):Bd' P w K mg base "across" ux nl6 0 qy:=fun hr=>⟨_,(ao (az (aV (ar (aw K (pv 0) ai) (ar (b8 pU ai (aw K (pv 0) ai)) ae))))),by delta qy;walk_at "r"⟩
def rp(M:Md K mg)(c22:sV P w K mg base)(c23:wv P w K mg base):Bd' P w K mg base "beads_from" ml ["begin","beyond","beads","here"] 4 jp:=fun hr=>⟨_,(ah (aT 2 sc_sbeadsfrom.nd (bQ (ar (av c22 hr rfl (ar (pv 0) ae)) ae)))
   (ah (aT 3 sc_sbeadsfrom.nd (jZ (jK hr) (pv 1) (av c23 hr rfl (ar (pv 0) ae)) (fun _ _=>rfl)))
   (ah (mz Al (PW.pt (wK (aS Ja (pv 3) lE) (tf (aS (tY (K:=K) rfl hr.units) (pv 3) (pv 0))))) (ah (bR (cI (pv 2) (av c22 hr rfl (ar (pv 3) ae))))
   (ao (aT 3 sc_sbeadsfrom.nd (jZ (jK hr) (pv 1) (av c23 hr rfl (ar (pv 3) ae)) (fun _ _=>rfl))))))
   (ao (az (bK K M.n_tuple (pv 2))))))),by delta jp;delta gK;walk_at "r"⟩
def EJ(M:Md K mg)(c2:fj P w K mg base)(c10:zW P w K mg base)(c21:lC P w K mg base)(c24:nB P w K mg base):Bd' P w K mg base "set_of" uz N0 7 qz:=fun hr=>⟨_,(ah (aT 1 sc_ssetof.nd (av c21 hr rfl (ar (pv 0) ae)))
   (ah (pZ 2 (cz (osc:=(ak uz)) (ON:=N0) (N:=["end","beyond"]) (k:=1) (caps:=[1]) (by decide +kernel) rfl rfl) rfl sc_ssetof.nd (bE (K:=K) rfl (bc (qk (K:=K) rfl rfl hr) rfl M.n_sorted boot_sorted (ar (pv 1) ae))) (fun _ _ _ _=>(bw 0 (by show(["end","beyond"]:List Str).Nodup;decide +kernel))) (fun _ _ _ _=>mH (aS tj (jZ (jK hr) (pv 1) (pv 0) (fun _ _=>rfl)) lE)) (fun _ _ _ _=>(pv 0)))
   (ah (aT 3 sc_ssetof.nd (bQ ae))
   (ah (aT 4 sc_ssetof.nd ve)
   (ah (cX Al rfl (bE (K:=K) rfl (bA K (pv 2) (bc (qk (K:=K) rfl rfl hr) rfl M.n_sorted boot_sorted (ar (pv 1) ae)))) (bw 5 sc_ssetof.nd) (ao (bH (fq (sG (jK hr)) (aw K (pv 5) ai) (pv 4) (by with_unfolding_all rfl)) (ah (aT 6 sc_ssetof.nd (av c24 hr rfl (ar (pv 5) (ar (pv 1) ae))))
   (ah (bR (cI (pv 3) (aV (ar (d9 (aS tj (jZ (jK hr) (pv 1) (pv 5) (fun _ _=>rfl)) lE) bX bX) (ar (pv 6) ae)))))
   (ao (cX Al rfl (bE (K:=K) rfl (pv 6)) (bw 7 sc_ssetof.nd) (ao (fO fD (gx (pv 4) (av c2 hr rfl (ar (pv 7) ae)) (iN (jK hr))))))))) aX)))
   (ao (az (av c10 hr rfl (ar (pv 3) ae))))))))),by delta qz;delta lU;delta jt;delta jr;delta jq;walk_at "r"⟩
def xZ(M:Md K mg)(c15:nA P w K mg base)(c17:qP P w K mg base):Bd' P w K mg base "is_half" pI nl0 3 nX:=fun hr=>⟨_,(ah (bH (PW.pt (g6 (dF (bY (b7 K M.n_isinstance (pv 0) (eI rfl M.n_tuple cY)))) (fN (fq (nM (K:=K) rfl) (bz K M.n_len (pv 0)) (aV (ar ai (ar ai ae))) (by with_unfolding_all rfl))))) (ao (az fD)) aX)
   (ao (az (ik (bc (gz rfl) rfl M.n_all boot_all (ar (cH (cz (osc:=(ak pI)) (ON:=nl0) (N:=nl7) (k:=1) (caps:=[]) (by decide +kernel) rfl rfl) rfl (bE (K:=K) rfl (pv 0)) (fun _ _ _ _=>(bw 0 (by show(nl7:List Str).Nodup;decide +kernel))) (fun _ _ _ _=>cG) (fun _ _ _ _=>(av c17 hr rfl (ar (pv 0) ae)))) ae)) (iU (av c15 hr rfl (ar (pv 0) ae))))))),by delta nX;delta hW;walk_at "r"⟩
def IX(M:Md K mg):Bd' P w K mg base "sizes" uA nl3 0 uo:=fun hr=>⟨_,(ao (az (bK K M.n_tuple (bc (bN (K:=K) rfl hr) rfl M.n_sorted boot_sorted (ar (cH (cz (osc:=(ak uA)) (ON:=nl3) (N:=nl7) (k:=1) (caps:=[]) (by decide +kernel) rfl rfl) rfl (bE (K:=K) rfl (pv 0)) (fun _ _ _ _=>(bw 0 (by show(nl7:List Str).Nodup;decide +kernel))) (fun _ _ _ _=>cG) (fun _ _ _ _=>(bz K M.n_len (pv 0)))) ae))))),by delta uo;delta kU;walk_at "r"⟩
def x8(M:Md K mg):Bd' P w K mg base "ends_of" uB ["joints","ends","joint"] 0 nY:=fun hr=>⟨_,(ah (aT 1 sc_sendsof.nd (bQ ae))
   (ah (cX Al rfl (bE (K:=K) rfl (pv 0)) (bw 2 sc_sendsof.nd) (ao (bR (mF AC BI BH (lJ (K:=K) rfl rfl) (pv 1) (ar (pv 2) ae)))))
   (ao (az (bc (bN (K:=K) rfl hr) rfl M.n_sorted boot_sorted (ar (pv 1) ae)))))),by delta nY;delta kf;walk_at "r"⟩
def x9(M:Md K mg)(c15:nA P w K mg base)(c26:sW P w K mg base)(c27:zX P w K mg base)(c28:sX P w K mg base):Bd' P w K mg base "is_deed" pJ N1 4 nZ:=fun hr=>⟨_,(ah (bH (PW.pt (g6 (dF (bY (b7 K M.n_isinstance (pv 0) (eI rfl M.n_tuple cY)))) (g6 (aS (tY (K:=K) rfl hr.units) (bz K M.n_len (pv 0)) ai) (fN (dF (bY (bc (gz rfl) rfl M.n_all boot_all (ar (cH (cz (osc:=(ak pJ)) (ON:=N1) (N:=["half"]) (k:=1) (caps:=[]) (by decide +kernel) rfl rfl) rfl (bE (K:=K) rfl (pv 0)) (fun _ _ _ _=>(bw 0 (by show(["half"]:List Str).Nodup;decide +kernel))) (fun _ _ _ _=>cG) (fun _ _ _ _=>(av c26 hr rfl (ar (pv 0) ae)))) ae)))))))) (ao (az fD)) aX)
   (ah (aT 1 sc_sisdeed.nd (aw K (pv 0) ai))
   (ah (aT 2 sc_sisdeed.nd (aw K (pv 0) ai))
   (ah (aT 3 sc_sisdeed.nd (av c28 hr rfl (ar (pv 1) ae)))
   (ah (bH (PW.pt (g6 (dF (bY (av c15 hr rfl (ar (pv 3) ae)))) (fN (aS (tY (K:=K) rfl hr.units) (pv 3) (av c28 hr rfl (ar (pv 2) ae)))))) (ao (az fD)) aX)
   (ao (az (ik (mB (NT (K:=K) rfl hr.units) (aV (ar (av c27 hr rfl (ar (pv 1) ae)) (ar (av c27 hr rfl (ar (pv 2) ae)) ae))) (PB rfl M.c_FORMS) (by with_unfolding_all rfl)) (iU (f7 (tY (K:=K) rfl hr.units) (pv 1) (pv 2))))))))))),by delta nZ;delta hX;walk_at "r"⟩
def my(M:Md K mg)(c29:lf P w K mg base):Bd' P w K mg base "refuse_undoable" dP xy 5 eM:=fun hr=>⟨_,(ao (bH (PW.pt (g6 (dF (bY (av c29 hr rfl (ar (pv 1) ae)))) (fN (dF (bY (bc (gz rfl) rfl M.n_all boot_all (ar (cH (cz (osc:=(ak dP)) (ON:=xy) (N:=["joint","joints"]) (k:=1) (caps:=[0]) (by decide +kernel) rfl rfl) rfl (bE (K:=K) rfl (aw K (pv 1) ai)) (fun _ _ _ _=>(bw 0 (by show(["joint","joints"]:List Str).Nodup;decide +kernel))) (fun _ _ _ _=>cG) (fun _ _ _ _=>(mB (Gr (K:=K) rfl hr.units) (pv 0) (pv 1) (by with_unfolding_all rfl)))) ae))))))) (ao u9) aX)),by delta eM;delta cJ;walk_at "r"⟩
def oY(M:Md K mg):Bd' P w K mg base "put_in_place" ie N2 0 gL:=fun hr=>⟨_,(ah (pZ 2 (cz (osc:=(ak ie)) (ON:=N2) (N:=["joint","deed"]) (k:=1) (caps:=[1]) (by decide +kernel) rfl rfl) rfl sc_sputinplace.nd (bE (K:=K) rfl (pv 0)) (fun _ _ _ _=>(bw 0 (by show(["joint","deed"]:List Str).Nodup;decide +kernel))) (fun _ _ _ _=>mH (fq (nR (K:=K) rfl hr.units) (pv 0) (aw K (pv 1) ai) (by with_unfolding_all rfl))) (fun _ _ _ _=>(pv 0)))
   (ao (az (bK K M.n_tuple (bc (bN (K:=K) rfl hr) rfl M.n_sorted boot_sorted (ar (b8 (kM (K:=K) rfl) (pv 2) (eW (i5 (K:=K) rfl rfl) rfl M.n_list dR (ar (aw K (pv 1) ai) ae))) ae)))))),by delta gL;delta dB;delta dA;walk_at "r"⟩
def K7(M:Md K mg)(c20:kF P w K mg base)(c25:ww P w K mg base)(c30:ii P w K mg base)(c31:kG P w K mg base):Bd' P w K mg base "done" Hv ["some","deed","joints"] 8 xv:=fun hr=>⟨_,(ah (aT 2 sc_sdone.nd (av c20 hr rfl (ar (pv 0) ae)))
   (ah (bR (av c30 hr rfl (ar (pv 2) (ar (pv 1) ae))))
   (ao (az (av c25 hr rfl (ar (av c31 hr rfl (ar (pv 2) (ar (pv 1) ae))) ae)))))),by delta xv;walk_at "r"⟩
def K8(M:Md K mg)(c29:lf P w K mg base):Bd' P w K mg base "back" Hw ["deed"] 5 xw:=fun hr=>⟨_,(ah (bH (dF (bY (av c29 hr rfl (ar (pv 0) ae)))) (ao u9) aX)
   (ao (az (aV (ar (aw K (pv 0) ai) (ar (aw K (pv 0) ai) ae)))))),by delta xw;walk_at "r"⟩
def EK(M:Md K mg):Bd' P w K mg base "cut_of" xA nl7 0 qB:=fun hr=>⟨_,(ao (az (aV (ar (aV (ar (pv 0) ae)) (ar (aV (ar (aV (ar (aw K (pv 0) ai) ae)) (ar (aV (ar (aw K (pv 0) ai) ae)) ae))) ae))))),by delta qB;walk_at "r"⟩
def uY(M:Md K mg)(c14:gY P w K mg base):Bd' P w K mg base "exchanges" mn PN 1 ki:=fun hr=>⟨_,(ah (aT 2 sc_sexchanges.nd (bQ ae))
   (ah (cX Al rfl (bE (K:=K) rfl (aV (ar ai (ar ai ae)))) (bw 3 sc_sexchanges.nd) (ah (aT 4 sc_sexchanges.nd (bQ (ar (av c14 hr rfl (ar (aV (ar (aw K (pv 1) ai) (ar (aw K (pv 0) (pv 3)) ae))) ae)) (ar (av c14 hr rfl (ar (b8 (kM (K:=K) rfl) (ee (pi (K:=K) rfl) (pv 1) (fX ai) fW) (aV (ar (aw K (pv 0) (b8 pU ai (pv 3))) ae))) ae)) ae))))
   (ao (bR (cI (pv 2) (bK K M.n_tuple (bc (bN (K:=K) rfl hr) rfl M.n_sorted boot_sorted (ar (pv 4) ae))))))))
   (ao (az (pv 2))))),by delta ki;delta fu;walk_at "r"⟩
def wD(M:Md K mg)(c14:gY P w K mg base)(c35:oD P w K mg base):Bd' P w K mg base "deeds_on" mW N3 2 lV:=fun hr=>⟨_,(ah (bH (aS dE (bz K M.n_len (pv 0)) ai) (ao (aT 2 sc_sdeedson.nd (av c35 hr rfl (ar (pv 0) (ar (pv 1) ae))))) (ao (bH (aS dE (bz K M.n_len (pv 1)) ai) (ao (aT 2 sc_sdeedson.nd (av c35 hr rfl (ar (pv 1) (ar (pv 0) ae))))) (ao (aT 2 sc_sdeedson.nd (bQ (ar (aV (ar (av c14 hr rfl (ar (b8 (kM (K:=K) rfl) (pv 0) (pv 1)) ae)) ae)) ae)))))))
   (ao (az (cH (cz (osc:=(ak mW)) (ON:=N3) (N:=["come","one","other"]) (k:=1) (caps:=[0,1]) (by decide +kernel) rfl rfl) rfl (bE (K:=K) rfl (pv 2)) (fun _ _ _ _=>(bw 0 (by show(["come","one","other"]:List Str).Nodup;decide +kernel))) (fun _ _ _ _=>cG) (fun _ _ _ _=>(aV (ar (aV (ar (pv 1) (ar (pv 2) ae))) (ar (pv 0) ae)))))))),by delta lV;delta gd;walk_at "r"⟩
def qY(M:Md K mg)(c34:wx P w K mg base)(c36:qQ P w K mg base):Bd' P w K mg base "deeds_among" ig N4 3 iA:=fun hr=>⟨_,(ah (pZ 1 (cz (osc:=(ak ig)) (ON:=N4) (N:=nl7) (k:=1) (caps:=[]) (by decide +kernel) rfl rfl) rfl sc_sdeedsamong.nd (bE (K:=K) rfl (pv 0)) (fun _ _ _ _=>(bw 0 (by show(nl7:List Str).Nodup;decide +kernel))) (fun _ _ _ _=>mH (aS dE (bz K M.n_len (pv 0)) ai)) (fun _ _ _ _=>(av c34 hr rfl (ar (pv 0) ae))))
   (ah (cX Al rfl (Kb (K:=K) rfl rfl M.n_enumerate (pv 0)) (ph (K:=K) (n:=2) rfl rfl (fE (bw 2 sc_sdeedsamong.nd) (fE (bw 3 sc_sdeedsamong.nd) o3))) (ao (cX Al rfl (bE (K:=K) rfl (ee (pi (K:=K) rfl) (pv 0) (fX (b8 (kM (K:=K) rfl) (pv 2) ai)) fW)) (bw 4 sc_sdeedsamong.nd) (ao (bR (mF AC BI BH (lJ (K:=K) rfl rfl) (pv 1) (ar (av c36 hr rfl (ar (pv 3) (ar (pv 4) ae))) ae)))))))
   (ao (az (bc (bN (K:=K) rfl hr) rfl M.n_sorted boot_sorted (ar (pv 1) ae)))))),by delta iA;delta fV;delta dO;delta fU;delta fT;walk_at "r"⟩
def rq(M:Md K mg)(c20:kF P w K mg base)(c37:lD P w K mg base):Bd' P w K mg base "deeds_from" mo nl5 7 ju:=fun hr=>⟨_,(ao (az (av c37 hr rfl (ar (av c20 hr rfl (ar (pv 0) ae)) ae)))),by delta ju;walk_at "r"⟩
def wE(M:Md K mg):Bd' P w K mg base "_law_flow" xB Ed 0 lX:=fun hr=>⟨_,(ao (az (Ka (vQ (eW (i5 (K:=K) rfl rfl) rfl M.n_list dR (ar (pv 0) ae)) (vQ ai (vQ ai (vQ ai (vQ ai J1 rfl) rfl) rfl) rfl) rfl)))),by delta lX;walk_at "r"⟩
def wF(M:Md K mg):Bd' P w K mg base "_law_pick" xC PP 0 jv:=fun hr=>⟨_,(ah (bH (PW.pt (wK (aS dE (aw K (pv 0) ai) ai) (tf (aS F3 (aw K (pv 0) ai) (bz K M.n_len (aw K (pv 0) ai)))))) (ah (aT 2 sc_sLpick.nd (aw K (aw K (pv 0) ai) (aw K (pv 0) ai)))
   (ah (fO (bA K (aw K (pv 0) ai) ai) (gx (pv 0) ai set_list))
   (ao (bH (aS OL (pv 2) (b8 Mk ai ai)) (ao (fO (pv 2) (gx (pv 0) ai set_list))) (ao (fO (b8 iW (bA K (bA K (b8 kL (aw K (pv 0) ai) ai) (b8 iW (pv 2) ai)) ai) ai) (gx (pv 0) ai set_list))))))) aX)
   (ah (bH (aS OK (aw K (pv 0) ai) ai) (ah (aT 3 sc_sLpick.nd (b8 iW (aw K (pv 0) ai) (pv 1)))
   (ah (fO (b8 o7 (aw K (pv 0) ai) (pv 1)) (gx (pv 0) ai set_list))
   (ao (az (pv 3))))) aX)
   (ah (fO (bA K (aw K (pv 0) ai) ai) (gx (pv 0) ai set_list))
   (ah (fO (b8 iW (bA K (bA K (b8 kL (aw K (pv 0) ai) ai) ai) (aw K (pv 0) ai)) ai) (gx (pv 0) ai set_list))
   (ao (az (b8 iW (b8 o7 (b8 iW (b8 kL (bA K (b8 iW (aw K (pv 0) ai) ai) ai) (bA K (b8 o7 (aw K (pv 0) ai) ai) ai)) ai) ai) (pv 1)))))))),by delta jv;walk_at "r"⟩
def qZ(M:Md K mg)(c40:dq P w K mg base):Bd' P w K mg base "_law_letters" kX nl8 1 iC:=fun hr=>⟨_,(ao (az (mF BV PySem.F.slot_str_join PySem.F.type_str_join Jj bX (ar (cH (cz (osc:=(ak kX)) (ON:=nl8) (N:=["_law_k","_law_flow_here"]) (k:=1) (caps:=[0]) (by decide +kernel) rfl rfl) rfl (iJ rfl M.n_range (ar (pv 1) ae)) (fun _ _ _ _=>(bw 0 (by show(["_law_k","_law_flow_here"]:List Str).Nodup;decide +kernel))) (fun _ _ _ _=>cG) (fun _ _ _ _=>(aw K bX (av c40 hr rfl (ar (pv 1) (ar ai ae)))))) ae)))),by delta iC;walk_at "r"⟩
def wG(M:Md K mg)(c40:dq P w K mg base)(c41:iI P w K mg base):Bd' P w K mg base "_law_name" xD PQ 2 lZ:=fun hr=>⟨_,(ah (bH (aS (lI (K:=K) rfl hr.units) (pv 1) bX) (ao (az (bA K (pv 1) (av c41 hr rfl (ar (pv 0) (ar (bA K ai (av c40 hr rfl (ar (pv 0) (ar ai ae)))) ae)))))) aX)
   (@ah _ _ _ _ _ (bH (aS dE (av c40 hr rfl (ar (pv 0) (ar ai ae))) ai) (@ah _ _ _ _ _ (@aT _ _ _ _ 2 _ _ sc_sLname.nd (@bQ _ _ _ _ (@tH _ _ _ (by rfl))) (by rfl) (by first|exact Or.inl rfl|exact Or.inr rfl) (by first|exact .inl rfl|exact .inr rfl) (by rfl) (by rfl) (by rfl))
   (ah (aT 2 sc_sLname.nd (bA K (pv 2) (@bQ _ _ _ _ (@tH _ _ _ (by rfl)))))
   (ao (az (aw K (pv 2) (av c40 hr rfl (ar (pv 0) (ar ai ae)))))))) aX)
   (ao (az (av c41 hr rfl (ar (pv 0) (ar (bA K ai (av c40 hr rfl (ar (pv 0) (ar ai ae)))) ae))))))),by delta lZ;walk_at "r"⟩
def uZ(M:Md K mg)(c40:dq P w K mg base)(c41:iI P w K mg base)(c42:qS P w K mg base):Bd' P w K mg base "_law_names" uC PR 3 hZ:=fun hr=>⟨_,(ah (aT 2 sc_sLnames.nd bX)
   (ah (bH (aS dE (av c40 hr rfl (ar (pv 0) (ar ai ae))) ai) (ao (aT 2 sc_sLnames.nd (av c41 hr rfl (ar (pv 0) (ar (bA K ai (av c40 hr rfl (ar (pv 0) (ar ai ae)))) ae))))) aX)
   (ah (aT 3 sc_sLnames.nd (bQ ae))
   (ah (cX Al rfl (iJ rfl M.n_range (ar (pv 1) ae)) (bw 4 sc_sLnames.nd) (ah (aT 5 sc_sLnames.nd (av c42 hr rfl (ar (pv 0) (ar (pv 2) ae))))
   (ah (aT 6 sc_sLnames.nd ai)
   (ah (mz Al (fq (tS (K:=K) rfl) (pv 5) (pv 3) (by with_unfolding_all rfl)) (ah (aT 5 sc_sLnames.nd (b8 kL (aw K bX (b8 iW (pv 6) ai)) (bA K ai (b8 o7 (pv 6) ai))))
   (ao (aT 6 sc_sLnames.nd (bA K (pv 6) ai)))))
   (ao (bR (cI (pv 3) (pv 5))))))))
   (ao (az (pv 3))))))),by delta hZ;walk_at "r"⟩
def oZ(M:Md K mg)(c40:dq P w K mg base):Bd' P w K mg base "_law_shuffled" mq PU 1 gO:=fun hr=>⟨_,(ah (aT 2 sc_sLshuffled.nd (eW (i5 (K:=K) rfl rfl) rfl M.n_list dR (ar (pv 1) ae)))
   (ah (aT 3 sc_sLshuffled.nd (bQ ae))
   (ah (mz Al (aS (lI (K:=K) rfl hr.units) (pv 2) (bQ ae)) (ao (bR (cI (pv 3) (mF AC PySem.F.slot_list_pop PySem.F.type_list_pop Fi (pv 2) (ar (av c40 hr rfl (ar (pv 0) (ar (bz K M.n_len (pv 2)) ae))) ae))))))
   (ao (az (pv 3)))))),by delta gO;walk_at "r"⟩
def wH(M:Md K mg)(c40:dq P w K mg base)(c44:kH P w K mg base):Bd' P w K mg base "_law_line" uD Ht 2 me:=fun hr=>⟨_,(ao (az (bK K M.n_tuple (cH (cz (osc:=(ak uD)) (ON:=Ht) (N:=["_law_name_here","_law_flow_here"]) (k:=1) (caps:=[0]) (by decide +kernel) rfl rfl) rfl (bE (K:=K) rfl (av c44 hr rfl (ar (pv 0) (ar (pv 1) ae)))) (fun _ _ _ _=>(bw 0 (by show(["_law_name_here","_law_flow_here"]:List Str).Nodup;decide +kernel))) (fun _ _ _ _=>cG) (fun _ _ _ _=>(bA K (b8 kL bX (av c40 hr rfl (ar (pv 1) (ar ai ae)))) (pv 0))))))),by delta me;walk_at "r"⟩
def ya(M:Md K mg)(c40:dq P w K mg base)(c45:qT P w K mg base):Bd' P w K mg base "_law_set" Hx PV 3 kW:=fun hr=>⟨_,(ah (aT 3 sc_sLset.nd (bQ ae))
   (ah (aT 4 sc_sLset.nd (bQ ae))
   (ah (cX Al rfl (bE (K:=K) rfl (av c45 hr rfl (ar (pv 0) (ar (pv 1) ae)))) (bw 5 sc_sLset.nd) (ah (bR (cI (pv 4) (pv 5)))
   (ao (bH (aS dE (av c40 hr rfl (ar (pv 0) (ar ai ae))) ai) (ah (bR (cI (pv 3) (aV (ar bX (ar (bK K M.n_tuple (pv 4)) ae)))))
   (ao (aT 4 sc_sLset.nd (bQ ae)))) (ao (bH (PW.pt (wK (bY (pv 2)) (tf (aS dE (av c40 hr rfl (ar (pv 0) (ar ai ae))) ai)))) (ah (bR (cI (pv 3) (aV (ar bX (ar (bK K M.n_tuple (pv 4)) ae)))))
   (ao (aT 4 sc_sLset.nd (bQ ae)))) aX))))))
   (ah (bH (aS (lI (K:=K) rfl hr.units) (pv 4) (bQ ae)) (ao (bR (cI (pv 3) (aV (ar bX (ar (bK K M.n_tuple (pv 4)) ae)))))) aX)
   (ao (az (bK K M.n_tuple (pv 3)))))))),by delta kW;walk_at "r"⟩
def u3{n:Nat}{gs:List D->Option Rz}(M:Md K mg)(c47:Cal P w K mg base "_law_alike" n Ee (spV K gs)):Bd' P w K mg base "_law_alike" pK Ee n (km gs):=fun hr=>⟨_,(ah (bH (aS tj (pv 1) lE) (ao (az (f7 tj (pv 0) lE))) aX)
   (ah (bH (PW.pt (g6 (bY (b7 K M.n_isinstance (pv 1) (eI rfl M.n_bool gA))) (fN (bY (b7 K M.n_isinstance (pv 0) (eI rfl M.n_bool gA)))))) (ao (az (ik (b7 K M.n_isinstance (pv 1) (eI rfl M.n_bool gA)) (ik (b7 K M.n_isinstance (pv 0) (eI rfl M.n_bool gA)) (iU (f7 dE (pv 0) (pv 1))))))) aX)
   (ah (bH (bY (b7 K M.n_isinstance (pv 1) (eI rfl M.n_int kJ))) (ao (az (ik (b7 K M.n_isinstance (pv 0) (eI rfl M.n_int kJ)) (iU (f7 dE (pv 0) (pv 1)))))) aX)
   (ah (bH (bY (b7 K M.n_isinstance (pv 1) (eI rfl M.n_str nJ))) (ao (az (ik (b7 K M.n_isinstance (pv 0) (eI rfl M.n_str nJ)) (iU (f7 dE (pv 0) (pv 1)))))) aX)
   (ah (bH (PW.pt (g6 (aS (lI (K:=K) rfl hr.units) (b7 K M.n_isinstance (pv 1) (eI rfl M.n_tuple cY)) (b7 K M.n_isinstance (pv 0) (eI rfl M.n_tuple cY))) (fN (aS (lI (K:=K) rfl hr.units) (b7 K M.n_isinstance (pv 1) (eI rfl M.n_list dR)) (b7 K M.n_isinstance (pv 0) (eI rfl M.n_list dR)))))) (ao (az fD)) aX)
   (ao (az (ik (f7 dE (bz K M.n_len (pv 0)) (bz K M.n_len (pv 1))) (iU (bc (gz rfl) rfl M.n_all boot_all (ar (cH (cz (osc:=(ak pK)) (ON:=Ee) (N:=["_law_k","_law_found","_law_due"]) (k:=1) (caps:=[0,1]) (by decide +kernel) rfl rfl) rfl (iJ rfl M.n_range (ar (bz K M.n_len (pv 1)) ae)) (fun _ _ _ _=>(bw 0 (by show(["_law_k","_law_found","_law_due"]:List Str).Nodup;decide +kernel))) (fun _ _ _ _=>cG) (fun _ _ _ _=>(av c47 hr rfl (ar (aw K (pv 1) (pv 0)) (ar (aw K (pv 2) (pv 0)) ae)) (Wb _)))) ae))))))))))),by delta km;walk_at "r"⟩
def wI(M:Md K mg):Bd' P w K mg base "_law_ends" xE Ef 0 mf:=fun hr=>⟨_,(ah (bH (aS dE (aw K (pv 0) ai) bX) (ao (az (aV (ar (aV (ar (ee (nN (K:=K) rfl) (pv 0) (fX ai) fW) (ar ai ae))) (ar (aV (ar (ee (nN (K:=K) rfl) (pv 0) (fX ai) fW) (ar ai ae))) ae))))) aX)
   (ao (az (aV (ar (aV (ar (pv 0) (ar ai ae))) (ar (aV (ar (pv 0) (ar ai ae))) ae)))))),by delta mf;walk_at "r"⟩
def rz(M:Md K mg)(c48:qU P w K mg base):Bd' P w K mg base "_law_joints" mX N5 1 gh:=fun hr=>⟨_,(ah (aT 1 sc_sLjoints.nd (bQ ae))
   (ah (cX Al rfl (bE (K:=K) rfl (pv 0)) (ph (K:=K) (n:=2) rfl rfl (fE (bw 2 sc_sLjoints.nd) (fE (bw 3 sc_sLjoints.nd) o3))) (ah (pZ 4 (cz (osc:=(ak mX)) (ON:=N5) (N:=Ef) (k:=1) (caps:=[]) (by decide +kernel) rfl rfl) rfl sc_sLjoints.nd (bE (K:=K) rfl (pv 3)) (fun _ _ _ _=>(bw 0 (by show(Ef:List Str).Nodup;decide +kernel))) (fun _ _ _ _=>cG) (fun _ _ _ _=>(av c48 hr rfl (ar (pv 0) ae))))
   (ah (cX Al rfl (iJ rfl M.n_range (ar (b8 pU (bz K M.n_len (pv 4)) ai) ae)) (bw 5 sc_sLjoints.nd) (ao (bR (cI (pv 1) (bK K M.n_tuple (bc (bN (K:=K) rfl hr) rfl M.n_sorted boot_sorted (ar (bQ (ar (aw K (aw K (pv 4) (pv 5)) ai) (ar (aw K (aw K (pv 4) (bA K (pv 5) ai)) ai) ae))) ae)))))))
   (ao (bH (aS dE (pv 2) bX) (ao (bR (cI (pv 1) (bK K M.n_tuple (bc (bN (K:=K) rfl hr) rfl M.n_sorted boot_sorted (ar (bQ (ar (aw K (aw K (pv 4) (rF nH ai)) ai) (ar (aw K (aw K (pv 4) ai) ai) ae))) ae)))))) (ah (bR (cI (pv 1) (aV (ar (aw K (aw K (pv 4) ai) ai) ae))))
   (ao (bR (cI (pv 1) (aV (ar (aw K (aw K (pv 4) (rF nH ai)) ai) ae)))))))))))
   (ao (az (bK K M.n_tuple (bc (bN (K:=K) rfl hr) rfl M.n_sorted boot_sorted (ar (pv 1) ae))))))),by delta gh;walk_at "r"⟩
def rA(M:Md K mg):Bd' P w K mg base "_law_behind" mY Hu 0 jx:=fun hr=>⟨_,(ao (az (bK K M.n_tuple (bc (bN (K:=K) rfl hr) rfl M.n_sorted boot_sorted (ar (b8 (kM (K:=K) rfl) (cH (cz (osc:=(ak mY)) (ON:=Hu) (N:=["_law_joint","_law_deed"]) (k:=1) (caps:=[1]) (by decide +kernel) rfl rfl) rfl (bE (K:=K) rfl (pv 0)) (fun _ _ _ _=>(bw 0 (by show(["_law_joint","_law_deed"]:List Str).Nodup;decide +kernel))) (fun _ _ _ _=>mH (fq (nR (K:=K) rfl hr.units) (pv 0) (aw K (pv 1) ai) (by with_unfolding_all rfl))) (fun _ _ _ _=>(pv 0))) (eW (i5 (K:=K) rfl rfl) rfl M.n_list dR (ar (aw K (pv 1) ai) ae))) ae))))),by delta jx;delta eP;delta eO;walk_at "r"⟩
def rB(M:Md K mg):Bd' P w K mg base "_law_walked" qG PY 0 jz:=fun hr=>⟨_,(ah (aT 2 sc_sLwalked.nd (bQ ae))
   (ah (aT 3 sc_sLwalked.nd (pv 1))
   (ao (mz Al (bY fD) (ah (bR (cI (pv 2) (bA K (b8 kL bX (aw K (pv 3) ai)) (aw K (pv 3) ai))))
   (ah (aT 4 sc_sLwalked.nd (jZ (jK hr) (pv 0) (aV (ar (aw K (pv 3) ai) (ar (b8 pU ai (aw K (pv 3) ai)) ae))) (fun _ _=>rfl)))
   (ah (bH (aS (qc (K:=K) rfl hr.units) (bz K M.n_len (pv 4)) ai) (ao (az (aV (ar bX (ar (bK K M.n_tuple (pv 2)) ae))))) aX)
   (ah (aT 3 sc_sLwalked.nd (aw K (pv 4) (eW Dw rfl M.n_int kJ (ar (f7 (qc (K:=K) rfl hr.units) (aw K (pv 4) ai) (aV (ar (aw K (pv 3) ai) (ar (b8 pU ai (aw K (pv 3) ai)) ae)))) ae))))
   (ao (bH (aS (qc (K:=K) rfl hr.units) (pv 3) (pv 1)) (ao (az (aV (ar bX (ar (bK K M.n_tuple (pv 2)) ae))))) aX)))))))))),by delta jz;delta gU;walk_at "r"⟩
def u5(M:Md K mg)(c51:nG P w K mg base):Bd' P w K mg base "_law_canon" pN N6 1 kn:=fun hr=>⟨_,(ah (aT 1 sc_sLcanon.nd vf)
   (ah (cX Al rfl (bE (K:=K) rfl (pv 0)) (bw 2 sc_sLcanon.nd) (ao (cX Al rfl (bE (K:=K) rfl (pv 2)) (bw 3 sc_sLcanon.nd) (ao (fO (pv 2) (gx (pv 1) (pv 3) (iN (jK hr))))))))
   (ah (aT 4 sc_sLcanon.nd (bc (bN (K:=K) rfl hr) rfl M.n_sorted boot_sorted (ar (cH (cz (osc:=(ak pN)) (ON:=N6) (N:=["_law_joint"]) (k:=1) (caps:=[]) (by decide +kernel) rfl rfl) rfl (bE (K:=K) rfl (pv 0)) (fun _ _ _ _=>(bw 0 (by show(["_law_joint"]:List Str).Nodup;decide +kernel))) (fun _ _ _ _=>mH (aS (qc (K:=K) rfl hr.units) (bz K M.n_len (pv 0)) ai)) (fun _ _ _ _=>(aw K (pv 0) ai))) ae)))
   (ah (aT 5 sc_sLcanon.nd ve)
   (ah (aT 6 sc_sLcanon.nd (bQ ae))
   (ah (cX Al rfl (bE (K:=K) rfl (bA K (pv 4) (bc (bN (K:=K) rfl hr) rfl M.n_sorted boot_sorted (ar (eW (xk (K:=K) rfl rfl) rfl M.n_list dR (ar (pv 1) ae)) ae)))) (bw 3 sc_sLcanon.nd) (ao (bH (fq (sG (jK hr)) (aw K (pv 3) ai) (pv 5) (by with_unfolding_all rfl)) (ah (bR (cI (pv 6) (av c51 hr rfl (ar (pv 1) (ar (pv 3) ae)))))
   (ao (cX Al rfl (bE (K:=K) rfl (aw K (aw K (pv 6) (rF nH ai)) ai)) (bw 7 sc_sLcanon.nd) (ao (fO fD (gx (pv 5) (mF BV PySem.F.slot_str_strip PySem.F.type_str_strip G2 (pv 7) (ar bX ae)) (iN (jK hr)))))))) aX)))
   (ao (az (bK K M.n_tuple (pv 6)))))))))),by delta kn;delta iD;delta fB;delta fA;delta fz;delta fw;delta fv;walk_at "r"⟩
def Ox(M:Md K mg)(c29:lf P w K mg base)(c32:IU P w K mg base)(c33:IV P w K mg base)(c38:nC P w K mg base)(c39:qR P w K mg base)(c40:dq P w K mg base)(c43:oE P w K mg base)(c46:sY P w K mg base)(c47:oF P w K mg base)(c49:nE P w K mg base)(c50:nF P w K mg base)(c52:oG P w K mg base):Bd' P w K mg base "law" N7 PZ 9 Hs:=fun hr=>⟨_,(ah (aT 1 sc_slaw.nd (av c39 hr rfl (ar (pv 0) ae)))
   (ah (aT 2 sc_slaw.nd (Jo c46 hr rfl (ar (pv 1) (ar (av c43 hr rfl (ar (pv 1) (ar (bA K ai (av c40 hr rfl (ar (pv 1) (ar ai ae)))) ae))) ae))))
   (ah (aT 3 sc_slaw.nd (av c49 hr rfl (ar (pv 2) ae)))
   (ah (aT 4 sc_slaw.nd (av c52 hr rfl (ar (pv 3) ae)))
   (ah (aT 5 sc_slaw.nd (av c38 hr rfl (ar (pv 2) ae)))
   (ah (bH (aS (qc (K:=K) rfl hr.units) (bz K M.n_len (pv 5)) ai) (ao (az fD)) aX)
   (ah (aT 6 sc_slaw.nd (av c40 hr rfl (ar (pv 1) (ar (bz K M.n_len (pv 5)) ae))))
   (ah (aT 7 sc_slaw.nd (bQ (ar (pv 4) ae)))
   (ah (cX Al rfl (iJ rfl M.n_range (ar (bc (Dv rfl) rfl M.n_min Do (ar ai (ar (bz K M.n_len (pv 5)) ae))) ae)) (bw 8 sc_slaw.nd) (ah (aT 9 sc_slaw.nd (aw K (pv 5) (b8 iW (bA K (pv 6) (pv 8)) (bz K M.n_len (pv 5)))))
   (ah (aT 10 sc_slaw.nd (av c32 hr rfl (ar (pv 2) (ar (pv 9) ae))))
   (ah (bH (PW.pt (g6 (aS Hc (av c29 hr rfl (ar (pv 9) ae)) fD) (fN (fq (Gr (K:=K) rfl hr.units) (pv 10) (pv 7) (by with_unfolding_all rfl))))) (ao (az fD)) aX)
   (ah (bR (cI (pv 7) (pv 10)))
   (ah (bH (dF (bY (av c47 hr rfl (ar (pv 10) (ar (av c52 hr rfl (ar (av c50 hr rfl (ar (pv 3) (ar (pv 9) ae))) ae)) ae))))) (ao (az fD)) aX)
   (ah (aT 11 sc_slaw.nd (av c33 hr rfl (ar (pv 9) ae)))
   (ah (bH (PW.pt (g6 (dF (bY (av c47 hr rfl (ar (pv 11) (ar (aV (ar (aw K (pv 9) ai) (ar (aw K (pv 9) ai) ae))) ae))))) (fN (dF (bY (av c47 hr rfl (ar (av c33 hr rfl (ar (pv 11) ae)) (ar (pv 9) ae)))))))) (ao (az fD)) aX)
   (ao (bH (PW.pt (g6 (fq (nR (K:=K) rfl hr.units) (pv 11) (av c38 hr rfl (ar (pv 10) ae)) (by with_unfolding_all rfl)) (fN (dF (bY (av c47 hr rfl (ar (av c32 hr rfl (ar (pv 10) (ar (pv 11) ae))) (ar (pv 4) ae)))))))) (ao (az fD)) aX))))))))))
   (ao (az fD))))))))))),by delta Hs;delta pF;walk_at "r"⟩
end
set_option maxHeartbeats 0 in
def all_mk{l:PySem.W.OpenLaw}{w:World}{K:Ab}{h:Heap}{mg:Str->Option Value}{fa:Addr}(X:K.In h)(G:h.Ns mainGlobals mg)(hfa:mg "law"=some (.ref fa))
  (h1:FH K "is_name" pG)(h2:FH K "is_turned" n5)(h3:FH K "name_of" uu)(h4:FH K "mirrored" n6)(h5:FH K "turned_beads" gj)(h6:FH K "canon_open" mi)(h7:FH K "first_place" ia)(h8:FH K "canon_ring" mj)(h9:FH K "canon_strand" jA)(h10:FH K "strand_rank" kr)(h11:FH K "canon" uv)(h12:FH K "is_whole" qD)(h13:FH K "left_end" qE)(h14:FH K "right_end" n8)(h15:FH K "joint_of" qF)(h16:FH K "rising" pH)(h17:FH K "is_end" xz)(h18:FH K "is_joint" mV)(h19:FH K "inner_joints" gm)(h20:FH K "strand_joints" iE)(h21:FH K "joints_of" n9)(h22:FH K "ends_beyond" ku)(h23:FH K "bead_at" uw)(h24:FH K "across" ux)(h25:FH K "beads_from" ml)(h26:FH K "set_of" uz)(h27:FH K "is_half" pI)(h28:FH K "sizes" uA)(h29:FH K "ends_of" uB)(h30:FH K "is_deed" pJ)(h31:FH K "refuse_undoable" dP)(h32:FH K "put_in_place" ie)(h33:FH K "done" Hv)(h34:FH K "back" Hw)(h35:FH K "cut_of" xA)(h36:FH K "exchanges" mn)(h37:FH K "deeds_on" mW)(h38:FH K "deeds_among" ig)(h39:FH K "deeds_from" mo)(h40:FH K "_law_flow" xB)(h41:FH K "_law_pick" xC)(h42:FH K "_law_letters" kX)(h43:FH K "_law_name" xD)(h44:FH K "_law_names" uC)(h45:FH K "_law_shuffled" mq)(h46:FH K "_law_line" uD)(h47:FHD K "_law_set" Hx [.bool true])(h48:FH K "_law_alike" pK)(h49:FH K "_law_ends" xE)(h50:FH K "_law_joints" mX)(h51:FH K "_law_behind" mY)(h52:FH K "_law_walked" qG)(h53:FH K "_law_canon" pN)(h54:FH K "law" N7){ct_LETTERS:Tok}(cv_LETTERS:PySem.W.nsIn K mainGlobals "LETTERS"=some (some (.str "abcdefghijklmnopqrstuvwxyz" ct_LETTERS))){ct_LONGEST_NAME:Tok}(cv_LONGEST_NAME:PySem.W.nsIn K mainGlobals "LONGEST_NAME"=some (some (.int 6 ct_LONGEST_NAME))){cA_FORMS:Addr}(ca_FORMS:PySem.W.nsIn K mainGlobals "FORMS"=some (some (.ref cA_FORMS)))(cg_FORMS:GV K (.ref cA_FORMS) (.tup [.tup [.tup [.int 2],.tup [.int 1,.int 1]],.tup [.tup [.int 1,.int 1],.tup [.int 2]],.tup [.tup [.int 2,.int 2],.tup [.int 2,.int 2]],.tup [.tup [.int 1,.int 2],.tup [.int 1,.int 2]]]))
  (z_all:PySem.W.nsIn K mainGlobals "all"=some none) (z_bool:PySem.W.nsIn K mainGlobals "bool"=some none) (z_enumerate:PySem.W.nsIn K mainGlobals "enumerate"=some none) (z_int:PySem.W.nsIn K mainGlobals "int"=some none) (z_isinstance:PySem.W.nsIn K mainGlobals "isinstance"=some none) (z_len:PySem.W.nsIn K mainGlobals "len"=some none) (z_list:PySem.W.nsIn K mainGlobals "list"=some none) (z_min:PySem.W.nsIn K mainGlobals "min"=some none) (z_range:PySem.W.nsIn K mainGlobals "range"=some none) (z_reversed:PySem.W.nsIn K mainGlobals "reversed"=some none) (z_sorted:PySem.W.nsIn K mainGlobals "sorted"=some none) (z_str:PySem.W.nsIn K mainGlobals "str"=some none) (z_tuple:PySem.W.nsIn K mainGlobals "tuple"=some none) (z_zip:PySem.W.nsIn K mainGlobals "zip"=some none) :
  ∃fd:FuncData,(∀(s:Shared)(v:Value),BindsTo s fd ⟨[v],[]⟩ [("_law_script",v)])/\∀base:Heap,K.In base->base.Ns mainGlobals mg->FnOk l.prog w K mg base CX0 10 fa fd Ed (yR K):=by
 have M:Md K mg:=⟨An X G z_all,An X G z_bool,An X G z_enumerate,An X G z_int,An X G z_isinstance,An X G z_len,An X G z_list,An X G z_min,An X G z_range,An X G z_reversed,An X G z_sorted,An X G z_str,An X G z_tuple,An X G z_zip,⟨_,AH X G cv_LETTERS⟩,⟨_,AH X G cv_LONGEST_NAME⟩,cg_FORMS.glt (AH X G ca_FORMS)⟩;refine h54.law X G hfa sc_slaw (fun _ _ _ _ _ _=>ar1 fun _=>rfl) K6 fun base=>?_;have c0:sU l.prog w K mg base:=h1.cal X G xF (fun _ _ _ _ _ _=>ar1 fun _=>rfl) (xW M);have c1:fL l.prog w K mg base:=h2.cal X G uE (fun _ _ _ _ _ _=>ar1 fun _=>rfl) (uV M);have c2:fj l.prog w K mg base:=h3.cal X G xG (fun _ _ _ _ _ _=>ar1 fun _=>rfl) (xX M c1);have c3:jI l.prog w K mg base:=h4.cal X G uF (fun _ _ _ _ _ _=>ar1 fun _=>rfl) (wy M c1 c2);have c4:gX l.prog w K mg base:=h5.cal X G oQ (fun _ _ _ _ _ _=>ar1 fun _=>rfl) (oV M c3);have c5:nr l.prog w K mg base:=h6.cal X G rd (fun _ _ _ _ _ _=>ar1 fun _=>rfl) (rl M c2 c4);have c6:lA l.prog w K mg base:=h7.cal X G sc_sfirstplace (fun _ _ _ _ _ _=>ar1 fun _=>rfl) (qV M c2);have c7:nu l.prog w K mg base:=h8.cal X G sc_scanonring (fun _ _ _ _ _ _=>ar1 fun _=>rfl) (rm M c1 c4 c6);have c8:kB l.prog w K mg base:=h9.cal X G oR (fun _ _ _ _ _ _=>ar1 fun _=>rfl) (oW M c5 c7);have c9:lB l.prog w K mg base:=h10.cal X G qH (fun _ _ _ _ _ _=>ar1 fun _=>rfl) (qW M c2);have c10:zW l.prog w K mg base:=h11.cal X G Eg (fun _ _ _ _ _ _=>ar1 fun _=>rfl) (IW M c8 c9);have c11:qO l.prog w K mg base:=h12.cal X G vX (fun _ _ _ _ _ _=>ar1 fun _=>rfl) (wz M);have c12:jJ l.prog w K mg base:=h13.cal X G vY (fun _ _ _ _ _ _=>ar1 fun _=>rfl) (wA M c1 c2);have c13:kC l.prog w K mg base:=h14.cal X G uG (fun _ _ _ _ _ _=>ar1 fun _=>rfl) (uW M c3 c12);have c14:gY l.prog w K mg base:=h15.cal X G vZ (fun _ _ _ _ _ _=>ar1 fun _=>rfl) (wB M);have c15:nA l.prog w K mg base:=h16.cal X G xH (fun _ _ _ _ _ _=>ar1 fun _=>rfl) (EG M);have c16:wu l.prog w K mg base:=h17.cal X G Eh (fun _ _ _ _ _ _=>ar1 fun _=>rfl) (EH M c0 c11);have c17:qP l.prog w K mg base:=h18.cal X G v0 (fun _ _ _ _ _ _=>ar1 fun _=>rfl) (wC M c15 c16);have c18:kD l.prog w K mg base:=h19.cal X G oU (fun _ _ _ _ _ _=>ar1 fun _=>rfl) (oX M c12 c13 c14);have c19:jM l.prog w K mg base:=h20.cal X G sc_sstrandjoints (fun _ _ _ _ _ _=>ar1 fun _=>rfl) (ol M c12 c13 c14 c18)
 have c20:kF l.prog w K mg base:=h21.cal X G sc_sjointsof (fun _ _ _ _ _ _=>ar1 fun _=>rfl) (uX M c19);have c21:lC l.prog w K mg base:=h22.cal X G sc_sendsbeyond (fun _ _ _ _ _ _=>ar1 fun _=>rfl) (qX M);have c22:sV l.prog w K mg base:=h23.cal X G xI (fun _ _ _ _ _ _=>ar1 fun _=>rfl) (xY M c3);have c23:wv l.prog w K mg base:=h24.cal X G xJ (fun _ _ _ _ _ _=>ar1 fun _=>rfl) (EI M);have c24:nB l.prog w K mg base:=h25.cal X G sc_sbeadsfrom (fun _ _ _ _ _ _=>ar2 fun _ _=>rfl) (rp M c22 c23);have c25:ww l.prog w K mg base:=h26.cal X G sc_ssetof (fun _ _ _ _ _ _=>ar1 fun _=>rfl) (EJ M c2 c10 c21 c24);have c26:sW l.prog w K mg base:=h27.cal X G xK (fun _ _ _ _ _ _=>ar1 fun _=>rfl) (xZ M c15 c17);have c27:zX l.prog w K mg base:=h28.cal X G Ei (fun _ _ _ _ _ _=>ar1 fun _=>rfl) (IX M);have c28:sX l.prog w K mg base:=h29.cal X G sc_sendsof (fun _ _ _ _ _ _=>ar1 fun _=>rfl) (x8 M);have c29:lf l.prog w K mg base:=h30.cal X G sc_sisdeed (fun _ _ _ _ _ _=>ar1 fun _=>rfl) (x9 M c15 c26 c27 c28);have c30:ii l.prog w K mg base:=h31.cal X G mr (fun _ _ _ _ _ _=>ar2 fun _ _=>rfl) (my M c29);have c31:kG l.prog w K mg base:=h32.cal X G sc_sputinplace (fun _ _ _ _ _ _=>ar2 fun _ _=>rfl) (oY M);have c32:IU l.prog w K mg base:=h33.cal X G sc_sdone (fun _ _ _ _ _ _=>ar2 fun _ _=>rfl) (K7 M c20 c25 c30 c31);have c33:IV l.prog w K mg base:=h34.cal X G Hy (fun _ _ _ _ _ _=>ar1 fun _=>rfl) (K8 M c29);have c34:wx l.prog w K mg base:=h35.cal X G Ej (fun _ _ _ _ _ _=>ar1 fun _=>rfl) (EK M);have c35:oD l.prog w K mg base:=h36.cal X G sc_sexchanges (fun _ _ _ _ _ _=>ar2 fun _ _=>rfl) (uY M c14);have c36:qQ l.prog w K mg base:=h37.cal X G sc_sdeedson (fun _ _ _ _ _ _=>ar2 fun _ _=>rfl) (wD M c14 c35);have c37:lD l.prog w K mg base:=h38.cal X G sc_sdeedsamong (fun _ _ _ _ _ _=>ar1 fun _=>rfl) (qY M c34 c36);have c38:nC l.prog w K mg base:=h39.cal X G re (fun _ _ _ _ _ _=>ar1 fun _=>rfl) (rq M c20 c37);have c39:qR l.prog w K mg base:=h40.cal X G Ek (fun _ _ _ _ _ _=>ar1 fun _=>rfl) (wE M);have c40:dq l.prog w K mg base:=h41.calI X G sc_sLpick (fun _ _ _ _ _ _=>ar2 fun _ _=>rfl) (wF M);have c41:iI l.prog w K mg base:=h42.calI X G uH (fun _ _ _ _ _ _=>ar2 fun _ _=>rfl) (qZ M c40);have c42:qS l.prog w K mg base:=h43.calI X G sc_sLname (fun _ _ _ _ _ _=>ar2 fun _ _=>rfl) (wG M c40 c41);have c43:oE l.prog w K mg base:=h44.calI X G sc_sLnames (fun _ _ _ _ _ _=>ar2 fun _ _=>rfl) (uZ M c40 c41 c42);have c44:kH l.prog w K mg base:=h45.calI X G sc_sLshuffled (fun _ _ _ _ _ _=>ar2 fun _ _=>rfl) (oZ M c40)
 have c45:qT l.prog w K mg base:=h46.calI X G Em (fun _ _ _ _ _ _=>ar2 fun _ _=>rfl) (wH M c40 c44);have c46:sY l.prog w K mg base:=h47.calI X G sc_sLset (fun _ _ _ _ _ _ _ us hl=>match us,(show us.length=2 by simpa using hl) with|[_,_],_=>⟨_,rfl,rfl⟩) (.cons rfl .nil) (ya M c40 c45)
 have c47:oF l.prog w K mg base:=h48.alike X G xL (fun _ _ _ _ _ _=>ar2 fun _ _=>rfl) 20 (fun n u h=>Er h) (fun n gs hn=>u3 M) 6 (by decide)
 have c48:qU l.prog w K mg base:=h49.cal X G Ep (fun _ _ _ _ _ _=>ar1 fun _=>rfl) (wI M);have c49:nE l.prog w K mg base:=h50.cal X G sc_sLjoints (fun _ _ _ _ _ _=>ar1 fun _=>rfl) (rz M c48);have c50:nF l.prog w K mg base:=h51.cal X G v4 (fun _ _ _ _ _ _=>ar2 fun _ _=>rfl) (rA M);have c51:nG l.prog w K mg base:=h52.cal X G sc_sLwalked (fun _ _ _ _ _ _=>ar2 fun _ _=>rfl) (rB M);have c52:oG l.prog w K mg base:=h53.cal X G sc_sLcanon (fun _ _ _ _ _ _=>ar1 fun _=>rfl) (u5 M c51);intro _ _ _ _ _ _ _;exact Ox M c29 c32 c33 c38 c39 c40 c43 c46 c47 c49 c50 c52
end K17
open PySem PySem.W PyProof.Rows
set_option maxRecDepth 100000 in
set_option maxHeartbeats 0 in
theorem PySem.Challenge.cw_strandwright_k17_whole_deeds_go_back_holds : PySem.Challenge.rw_strandwright_k17_whole_deeds_go_back.Holds := by
 w_on;o_law;k_head;(case hw=>w_witness2)
 k_fill
 refine VF.walkL (l:=PySem.Challenge.rw_strandwright_k17_whole_deeds_go_back) (k:=10) rfl rfl ⟨rfl,by decide,by decide⟩ (fun w h Y=>PySem.W.kIn_of Y) ?F
 case F =>
  intro w mg fa h KX G hmg;refine' K17.all_mk KX G hmg (VF.fh ?a1 ?l1 ?c1 ?k1) (VF.fh ?a2 ?l2 ?c2 ?k2) (VF.fh ?a3 ?l3 ?c3 ?k3) (VF.fh ?a4 ?l4 ?c4 ?k4) (VF.fh ?a5 ?l5 ?c5 ?k5) (VF.fh ?a6 ?l6 ?c6 ?k6) (VF.fh ?a7 ?l7 ?c7 ?k7) (VF.fh ?a8 ?l8 ?c8 ?k8) (VF.fh ?a9 ?l9 ?c9 ?k9) (VF.fh ?a10 ?l10 ?c10 ?k10) (VF.fh ?a11 ?l11 ?c11 ?k11) (VF.fh ?a12 ?l12 ?c12 ?k12) (VF.fh ?a13 ?l13 ?c13 ?k13) (VF.fh ?a14 ?l14 ?c14 ?k14) (VF.fh ?a15 ?l15 ?c15 ?k15) (VF.fh ?a16 ?l16 ?c16 ?k16) (VF.fh ?a17 ?l17 ?c17 ?k17) (VF.fh ?a18 ?l18 ?c18 ?k18) (VF.fh ?a19 ?l19 ?c19 ?k19) (VF.fh ?a20 ?l20 ?c20 ?k20) (VF.fh ?a21 ?l21 ?c21 ?k21) (VF.fh ?a22 ?l22 ?c22 ?k22) (VF.fh ?a23 ?l23 ?c23 ?k23) (VF.fh ?a24 ?l24 ?c24 ?k24) (VF.fh ?a25 ?l25 ?c25 ?k25) (VF.fh ?a26 ?l26 ?c26 ?k26) (VF.fh ?a27 ?l27 ?c27 ?k27) (VF.fh ?a28 ?l28 ?c28 ?k28) (VF.fh ?a29 ?l29 ?c29 ?k29) (VF.fh ?a30 ?l30 ?c30 ?k30) (VF.fh ?a31 ?l31 ?c31 ?k31) (VF.fh ?a32 ?l32 ?c32 ?k32) (VF.fh ?a33 ?l33 ?c33 ?k33) (VF.fh ?a34 ?l34 ?c34 ?k34) (VF.fh ?a35 ?l35 ?c35 ?k35) (VF.fh ?a36 ?l36 ?c36 ?k36) (VF.fh ?a37 ?l37 ?c37 ?k37) (VF.fh ?a38 ?l38 ?c38 ?k38) (VF.fh ?a39 ?l39 ?c39 ?k39) (VF.fh ?a40 ?l40 ?c40 ?k40) (VF.fh ?a41 ?l41 ?c41 ?k41) (VF.fh ?a42 ?l42 ?c42 ?k42) (VF.fh ?a43 ?l43 ?c43 ?k43) (VF.fh ?a44 ?l44 ?c44 ?k44) (VF.fh ?a45 ?l45 ?c45 ?k45) (VF.fh ?a46 ?l46 ?c46 ?k46) (VF22.fhd ?a47 ?l47 ?c47 ?k47 ?t47) (VF.fh ?a48 ?l48 ?c48 ?k48) (VF.fh ?a49 ?l49 ?c49 ?k49) (VF.fh ?a50 ?l50 ?c50 ?k50) (VF.fh ?a51 ?l51 ?c51 ?k51) (VF.fh ?a52 ?l52 ?c52 ?k52) (VF.fh ?a53 ?l53 ?c53 ?k53) (VF.fh ?a54 ?l54 ?c54 ?k54) ?cv_LETTERS ?cv_LONGEST_NAME ?ca_FORMS (VF22.gv_tup ?cq (.cons (VF22.gv_tup ?cq0 (.cons (VF22.gv_tup ?cq00 (.cons VF22.gv_int .nil)) (.cons (VF22.gv_tup ?cq01 (.cons VF22.gv_int (.cons VF22.gv_int .nil))) .nil))) (.cons (VF22.gv_tup ?cq1 (.cons (VF22.gv_tup ?cq10 (.cons VF22.gv_int (.cons VF22.gv_int .nil))) (.cons (VF22.gv_tup ?cq11 (.cons VF22.gv_int .nil)) .nil))) (.cons (VF22.gv_tup ?cq2 (.cons (VF22.gv_tup ?cq20 (.cons VF22.gv_int (.cons VF22.gv_int .nil))) (.cons (VF22.gv_tup ?cq21 (.cons VF22.gv_int (.cons VF22.gv_int .nil))) .nil))) (.cons (VF22.gv_tup ?cq3 (.cons (VF22.gv_tup ?cq30 (.cons VF22.gv_int (.cons VF22.gv_int .nil))) (.cons (VF22.gv_tup ?cq31 (.cons VF22.gv_int (.cons VF22.gv_int .nil))) .nil))) .nil))))) ?z_all ?z_bool ?z_enumerate ?z_int ?z_isinstance ?z_len ?z_list ?z_min ?z_range ?z_reversed ?z_sorted ?z_str ?z_tuple ?z_zip
  all_goals try k_is
